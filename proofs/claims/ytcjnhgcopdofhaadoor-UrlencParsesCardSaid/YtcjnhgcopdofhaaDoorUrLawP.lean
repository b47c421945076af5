/- The walks of the laws UrlencParses and UrlencEscapes. -/
import Derived.Test.YtcjnhgcopdofhaaDoorUrAlive
namespace Go.Proofs.YtcjnhgcopdofhaaDoor
open Go Go.RowKit

theorem goP_len : ∀ (l : List (List Int)) (k : Nat) (acc : PList), acc.length ≤ 32 → (goP l k acc).1.length ≤ 32
  | [], _, acc, h => by simpa [goP] using h
  | p :: ps, k, acc, h => by
    rw [goP]
    split
    · exact goP_len ps _ _ h
    · split
      · simp
      · split
        · simp
        · split
          · simp
          · split
            · simp
            · exact goP_len ps _ _ (by simp; omega)
theorem parsedP_len (s : ByteArray) : (parsedP s).1.length ≤ 32 := by
  unfold parsedP
  split
  · simp
  · exact goP_len _ _ _ (by simp)
set_option maxRecDepth 100000 in
set_option maxHeartbeats 2000000 in
theorem lawParses_long (s : ByteArray) (w : World) (ha : Ask6 w) (hs : s.size ≤ 9223372036854775807) (h : 5000 < s.size) :
    Calls Tryd.prog 3 #[.string s] w fun e w' => e = .returned (.bool true) ∧ Below w.heap.size w w' := by
  have HAL := Lib.hid (alive6_any w ha)
  have h1 : (5000 : Int) < (s.size : Int) := by omega
  clear ha h
  go_enter Tryd.func3, Tryd.ntmps3
  go_wp2_with (go_at_call 7; refine HAL.out.mono ?_; rintro e w1 ⟨rfl, hB1⟩; have HB1 := Lib.hid hB1; clear hB1)
  go_ret
  exact ⟨rfl, HB1.out⟩
set_option maxRecDepth 100000 in
set_option maxHeartbeats 2000000 in
theorem lawParses_any (s : ByteArray) (w : World) (ha : Ask6 w) (hs : s.size ≤ 9223372036854775807) :
    Calls Tryd.prog 3 #[.string s] w fun e w' => e = .returned (.bool true) ∧ Below w.heap.size w w' := by
  rcases Nat.lt_or_ge 5000 s.size with h | h
  · exact lawParses_long s w ha hs h
  have HAL := Lib.hid (alive6_any w ha)
  have HA := Lib.hid ha
  have h1 : ¬ (5000 : Int) < (s.size : Int) := by omega
  clear ha
  obtain ⟨r, hr⟩ : ∃ r, r = parsedP s := ⟨_, rfl⟩
  obtain ⟨ps, num, pos⟩ := r
  have HP := Lib.hid (fun (W : World) (hW : Ask6 W) => parse_all s W hW.marks hW.maxl)
  have HR := Lib.hid (fun (W : World) => refParse_all s W)
  have hpl := parsedP_len s
  rw [← hr] at HP HR hpl
  clear hr
  obtain ⟨n, hn⟩ : ∃ n, n = ps.length := ⟨_, rfl⟩
  simp only at hpl
  rw [← hn] at hpl
  go_enter Tryd.func3, Tryd.ntmps3
  go_wp2_with (go_at_call 7; refine HAL.out.mono ?_; rintro e w1 ⟨rfl, hB1⟩; have HB1 := Lib.hid hB1; clear hB1)
  refine (HP.out _ (HA.out.below HB1.out)).mono ?_
  rintro e w2 ⟨A, c, v, rfl, hl, he, hb⟩
  have HE := Lib.hid he
  have HL := Lib.hid hl
  have HB2 := Lib.hid (HB1.out.trans (hb.mono HB1.out.size))
  clear hl he hb
  simp only at HE HL ⊢
  rw [← hn]
  go_wp2_with fail
  refine (HR.out w2).mono ?_
  rintro e w3 ⟨A', c', rfl, hl2, hb⟩
  have HL2 := Lib.hid hl2
  have HB3 := Lib.hid hb
  have HT3 := Lib.hid (HB2.out.trans (hb.mono HB2.out.size))
  clear hl2 hb
  simp only at HL2 ⊢
  rw [← hn]
  have HNL := Lib.hid hn
  clear hn
  have HNUM := Lib.hid (num_tells HE.out HB3.out (HA.out.tab.below HT3.out))
  have HPOS := Lib.hid (fun (W : World) (hW : Below w3.heap.size w3 W) => pos_tells HE.out (HB3.out.trans (hW.mono HB3.out.size)) (HA.out.tab.below (HT3.out.trans (hW.mono HT3.out.size))))
  have HSM := Lib.hid (fun (W : World) (hW : Below w3.heap.size w3 W) => refSame_same A A' ps n c c' W HNL.out.symm (by omega) ((HL.out.below HB3.out).below hW) (HL2.out.below hW))
  have HV := Lib.hid (show v = .nilIface ∨ ∃ t u, v = .iface t u from by
    rcases HE.out with ⟨_, _, h⟩ | ⟨_, _, h⟩ | ⟨_, _, b, h, _⟩
    · exact .inl h
    · exact .inr ⟨_, _, h⟩
    · exact .inr ⟨_, _, h⟩)
  go_wp2_with (first
    | (go_at_call 10; (with_reducible refine HNUM.out.mono ?_); rintro e w4 ⟨rfl, hb4⟩; have HB4 := Lib.hid hb4; clear hb4)
    | (go_at_call 11; (with_reducible refine (HPOS.out _ HB4.out).mono ?_); rintro e w5 ⟨rfl, hb5⟩; have HB5 := Lib.hid (HB4.out.trans (hb5.mono HB4.out.size)); clear hb5)
    | (go_at_call 12; (with_reducible refine (HSM.out _ HB5.out).mono ?_); rintro e w6 ⟨rfl, hb6⟩; have HB6 := Lib.hid (HB5.out.trans (hb6.mono HB5.out.size)); clear hb6))
  go_ret
  exact ⟨rfl, HT3.out.trans (HB6.out.mono HT3.out.size)⟩
/-! ### UrlencEscapes -/
set_option maxRecDepth 100000 in
set_option maxHeartbeats 2000000 in
theorem lawEscapes_long (s : ByteArray) (w : World) (ha : Ask6 w) (hs : s.size ≤ 9223372036854775807) (h : 5000 < s.size) :
    Calls Tryd.prog 5 #[.string s] w fun e w' => e = .returned (.bool true) ∧ Below w.heap.size w w' := by
  have HAL := Lib.hid (alive6_any w ha)
  have h1 : (5000 : Int) < (s.size : Int) := by omega
  clear ha h
  go_enter Tryd.func5, Tryd.ntmps5
  go_wp2_with (go_at_call 7; refine HAL.out.mono ?_; rintro e w1 ⟨rfl, hB1⟩; have HB1 := Lib.hid hB1; clear hB1)
  go_ret
  exact ⟨rfl, HB1.out⟩
set_option maxRecDepth 100000 in
set_option maxHeartbeats 2000000 in
theorem lawEscapes_right (s : ByteArray) (w : World) (ha : Ask6 w) (h : s.size ≤ 5000) (hl : looseL (strL s) = (strL s).length) :
    Calls Tryd.prog 5 #[.string s] w fun e w' => e = .returned (.bool true) ∧ Below w.heap.size w w' := by
  have HAL := Lib.hid (alive6_any w ha)
  have h1 : ¬ (5000 : Int) < (s.size : Int) := by omega
  have HU := Lib.hid (fun W : World => unescape_right s W (by omega) hl)
  have HRU := Lib.hid (fun W : World => refUnescape_any s W (by omega))
  rw [unescL, if_neg (by omega)] at HRU
  have HE := Lib.hid (fun W : World => escape_any s W (by omega))
  have HRE := Lib.hid (fun W : World => refEscape_any s W (by omega))
  obtain ⟨X, hX⟩ : ∃ X, X = toS (escL (strL s)) := ⟨_, rfl⟩
  obtain ⟨Y, hY⟩ : ∃ Y, Y = toS (meanL (strL s)) := ⟨_, rfl⟩
  rw [← hX] at HE HRE
  rw [← hY] at HU HRU
  have f1 : (-1 : Int) < 0 := by decide
  have f2 : (X.toList != X.toList) = false := by simp
  have f3 : (Y.toList != Y.toList) = false := by simp
  clear ha hl hX hY
  go_enter Tryd.func5, Tryd.ntmps5
  go_wp2_with (first
    | (go_at_call 7; refine HAL.out.mono ?_; rintro e w1 ⟨rfl, hb⟩; have HB1 := Lib.hid hb; clear hb)
    | (go_at_call 18; (with_reducible refine (HU.out _).mono ?_); rintro e w2 ⟨rfl, hb⟩; have HB2 := Lib.hid (HB1.out.trans (hb.mono HB1.out.size)); clear hb)
    | (go_at_call 19; (with_reducible refine (HRU.out _).mono ?_); rintro e w3 ⟨rfl, hb⟩; have HB3 := Lib.hid (HB2.out.trans (hb.mono HB2.out.size)); clear hb)
    | (go_at_call 20; (with_reducible refine (HE.out _).mono ?_); rintro e w4 ⟨rfl, hb⟩; have HB4 := Lib.hid (HB3.out.trans (hb.mono HB3.out.size)); clear hb)
    | (go_at_call 21; (with_reducible refine (HRE.out _).mono ?_); rintro e w5 ⟨rfl, hb⟩; have HB5 := Lib.hid (HB4.out.trans (hb.mono HB4.out.size)); clear hb))
  go_ret
  exact ⟨rfl, HB5.out⟩
set_option maxRecDepth 100000 in
set_option maxHeartbeats 2000000 in
theorem lawEscapes_wrong (s : ByteArray) (w : World) (ha : Ask6 w) (h : s.size ≤ 5000) (hl : looseL (strL s) < (strL s).length) :
    Calls Tryd.prog 5 #[.string s] w fun e w' => e = .returned (.bool true) ∧ Below w.heap.size w w' := by
  have HAL := Lib.hid (alive6_any w ha)
  have HA := Lib.hid ha
  have h1 : ¬ (5000 : Int) < (s.size : Int) := by omega
  have HU := Lib.hid (fun W : World => unescape_wrong s W (by omega) hl)
  have HRU := Lib.hid (fun W : World => refUnescape_any s W (by omega))
  rw [unescL, if_pos hl, show toS [] = ⟨#[]⟩ from rfl] at HRU
  have HE := Lib.hid (fun W : World => escape_any s W (by omega))
  have HRE := Lib.hid (fun W : World => refEscape_any s W (by omega))
  obtain ⟨X, hX⟩ : ∃ X, X = toS (escL (strL s)) := ⟨_, rfl⟩
  obtain ⟨p, hp⟩ : ∃ p, p = looseL (strL s) := ⟨_, rfl⟩
  rw [← hX] at HE HRE
  rw [← hp] at HU HRU
  have f1 : ¬ (p : Int) < 0 := by omega
  have f2 : (X.toList != X.toList) = false := by simp
  clear ha hl hX hp
  go_enter Tryd.func5, Tryd.ntmps5
  go_wp2_with (go_at_call 7; refine HAL.out.mono ?_; rintro e w1 ⟨rfl, hb⟩; have HB1 := Lib.hid hb; clear hb)
  refine (HU.out _).mono ?_
  rintro e w2 ⟨v, rfl, ht, hb⟩
  have HB2 := Lib.hid (HB1.out.trans (hb.mono HB1.out.size))
  have HT := Lib.hid (show ErrTells 60 (p : Int) w1 v w2 from .inr (.inr ⟨by decide, by omega, ht⟩))
  have HNUM := Lib.hid (fun (W : World) (hW : Below w2.heap.size w2 W) => num_tells HT.out hW (HA.out.tab.below (HB2.out.trans (hW.mono HB2.out.size))))
  have HPOS := Lib.hid (fun (W : World) (hW : Below w2.heap.size w2 W) => pos_tells HT.out hW (HA.out.tab.below (HB2.out.trans (hW.mono HB2.out.size))))
  clear ht hb
  go_wp2_with (first
    | (go_at_call 19; (with_reducible refine (HRU.out _).mono ?_); rintro e w3 ⟨rfl, hb⟩; have HB3 := Lib.hid hb; clear hb)
    | (go_at_call 20; (with_reducible refine (HE.out _).mono ?_); rintro e w4 ⟨rfl, hb⟩; have HB4 := Lib.hid (HB3.out.trans (hb.mono HB3.out.size)); clear hb)
    | (go_at_call 21; (with_reducible refine (HRE.out _).mono ?_); rintro e w5 ⟨rfl, hb⟩; have HB5 := Lib.hid (HB4.out.trans (hb.mono HB4.out.size)); clear hb)
    | (go_at_call 10; (with_reducible refine (HNUM.out _ HB5.out).mono ?_); rintro e w6 ⟨rfl, hb⟩; have HB6 := Lib.hid (HB5.out.trans (hb.mono HB5.out.size)); clear hb)
    | (go_at_call 11; (with_reducible refine (HPOS.out _ HB6.out).mono ?_); rintro e w7 ⟨rfl, hb⟩; have HB7 := Lib.hid (HB6.out.trans (hb.mono HB6.out.size)); clear hb))
  go_ret
  exact ⟨rfl, HB2.out.trans (HB7.out.mono HB2.out.size)⟩
theorem lawEscapes_any (s : ByteArray) (w : World) (ha : Ask6 w) (hs : s.size ≤ 9223372036854775807) :
    Calls Tryd.prog 5 #[.string s] w fun e w' => e = .returned (.bool true) ∧ Below w.heap.size w w' := by
  rcases Nat.lt_or_ge 5000 s.size with h | h
  · exact lawEscapes_long s w ha hs h
  · have := looseL_le (strL s)
    by_cases hl : looseL (strL s) < (strL s).length
    · exact lawEscapes_wrong s w ha h hl
    · exact lawEscapes_right s w ha h (by omega)
end Go.Proofs.YtcjnhgcopdofhaaDoor
