/- The walks of the laws UrlencPrints and UrlencBack. -/
import Derived.Test.YtcjnhgcopdofhaaDoorUrLawP
namespace Go.Proofs.YtcjnhgcopdofhaaDoor
open Go Go.RowKit

set_option maxRecDepth 100000 in
set_option maxHeartbeats 2000000 in
theorem lawPrints_great (A : Option Addr) (ps : PList) (n c : Nat) (name : ByteArray) (w : World) (ha : Ask6 w) (hn : ps.length = n) (hnn : n ≤ 9223372036854775807) (hl : LiesP w A ps) (hg : greatP ps = true) :
    Calls Tryd.prog 4 #[.slice A n c, .string name] w fun e w' => e = .returned (.bool true) ∧ Below w.heap.size w w' := by
  have HAL := Lib.hid (alive6_any w ha)
  have HG := Lib.hid (fun (W : World) (hW : Below w.heap.size w W) => refGreat_any A ps n c W hn hnn (hl.below hW))
  rw [hg] at HG
  clear ha hn hl hg
  go_enter Tryd.func4, Tryd.ntmps4
  go_wp2_with (first
    | (go_at_call 7; refine HAL.out.mono ?_; rintro e w1 ⟨rfl, hb⟩; have HB1 := Lib.hid hb; clear hb)
    | (go_at_call 13; (with_reducible refine (HG.out _ HB1.out).mono ?_); rintro e w2 ⟨rfl, rfl⟩))
  go_ret
  exact ⟨rfl, HB1.out⟩
set_option maxRecDepth 100000 in
set_option maxHeartbeats 2000000 in
theorem lawPrints_few (A : Option Addr) (ps : PList) (n c : Nat) (name : ByteArray) (w : World) (ha : Ask6 w) (hn : ps.length = n) (hnc : n ≤ c) (hnn : n ≤ 9223372036854775807) (hl : LiesP w A ps) (hg : greatP ps = false) :
    Calls Tryd.prog 4 #[.slice A n c, .string name] w fun e w' => e = .returned (.bool true) ∧ Below w.heap.size w w' := by
  obtain ⟨_, hsm⟩ := greatP_no hg
  have HAL := Lib.hid (alive6_any w ha)
  have HA := Lib.hid ha
  have HG := Lib.hid (fun (W : World) (hW : Below w.heap.size w W) => refGreat_any A ps n c W hn hnn (hl.below hW))
  rw [hg] at HG
  have HP := Lib.hid (fun (W : World) (hW : Below w.heap.size w W) => print_all A ps n c W (ha.marks.below hW) hn hnc (hl.below hW) hsm)
  have HR := Lib.hid (fun (W : World) (hW : Below w.heap.size w W) => refPrint_all A ps n c W hn hnc (hl.below hW) hsm)
  have HGE := Lib.hid (fun (W : World) (hW : Below w.heap.size w W) => get_any A ps n c name W hn hnn (hl.below hW))
  have HRG := Lib.hid (fun (W : World) (hW : Below w.heap.size w W) => refGet_any A ps n c name W hn hnn (hl.below hW))
  obtain ⟨r, hr⟩ : ∃ r, r = printedP ps := ⟨_, rfl⟩
  obtain ⟨l, num⟩ := r
  rw [← hr] at HP HR
  obtain ⟨u, hu⟩ : ∃ u, u = (getB ps name).1 := ⟨_, rfl⟩
  obtain ⟨b, hb⟩ : ∃ b, b = (getB ps name).2 := ⟨_, rfl⟩
  rw [← hu, ← hb] at HGE HRG
  obtain ⟨T, hT⟩ : ∃ T, T = toS l := ⟨_, rfl⟩
  have HT := Lib.hid hT
  have f1 : (T.toList == T.toList) = true := by simp
  have f2 : (u.toList == u.toList) = true := by simp
  have f3 : (b == b) = true := by simp
  have f4 : (num == num) = true := by simp
  clear ha hn hl hg hsm hr hu hb hT
  go_enter Tryd.func4, Tryd.ntmps4
  go_wp2_with (first
    | (go_at_call 7; refine HAL.out.mono ?_; rintro e w1 ⟨rfl, hb⟩; have HB1 := Lib.hid hb; clear hb)
    | (go_at_call 13; (with_reducible refine (HG.out _ HB1.out).mono ?_); rintro e w2 ⟨rfl, rfl⟩))
  refine (HP.out _ HB1.out).mono ?_
  rintro e w3 ⟨v, rfl, he, hb⟩
  simp only at he ⊢
  rw [← HT.out]
  have HE := Lib.hid he
  have HB3 := Lib.hid (HB1.out.trans (hb.mono HB1.out.size))
  clear he hb
  go_wp2_with fail
  refine (HR.out _ HB3.out).mono ?_
  rintro e w4 ⟨rfl, hb⟩
  simp only
  rw [← HT.out]
  have HB4 := Lib.hid hb
  clear hb
  have HNUM := Lib.hid (fun (W : World) (hW : Below w3.heap.size w3 W) => num_tells HE.out hW (HA.out.tab.below (HB3.out.trans (hW.mono HB3.out.size))))
  have HT4 := Lib.hid (HB3.out.trans (HB4.out.mono HB3.out.size))
  go_wp2_with (first
    | (go_at_call 16; (with_reducible refine (HGE.out _ HT4.out).mono ?_); rintro e w5 ⟨rfl, hb⟩; have HB5 := Lib.hid (HB4.out.trans (hb.mono HB4.out.size)); have HT5 := Lib.hid (HT4.out.trans (hb.mono HT4.out.size)); clear hb)
    | (go_at_call 17; (with_reducible refine (HRG.out _ HT5.out).mono ?_); rintro e w6 ⟨rfl, rfl⟩)
    | (go_at_call 10; (with_reducible refine (HNUM.out _ HB5.out).mono ?_); rintro e w7 ⟨rfl, hb⟩; have HT7 := Lib.hid (HT5.out.trans (hb.mono HT5.out.size)); clear hb))
  go_ret
  exact ⟨rfl, HT7.out⟩
theorem lawPrints_any (A : Option Addr) (ps : PList) (n c : Nat) (name : ByteArray) (w : World) (ha : Ask6 w) (hn : ps.length = n) (hnc : n ≤ c) (hnn : n ≤ 9223372036854775807) (hl : LiesP w A ps) :
    Calls Tryd.prog 4 #[.slice A n c, .string name] w fun e w' => e = .returned (.bool true) ∧ Below w.heap.size w w' := by
  cases hg : greatP ps with
  | true => exact lawPrints_great A ps n c name w ha hn hnn hl hg
  | false => exact lawPrints_few A ps n c name w ha hn hnc hnn hl hg
/-! ### UrlencBack -/
set_option maxRecDepth 100000 in
set_option maxHeartbeats 2000000 in
theorem lawBack_great (A : Option Addr) (ps : PList) (n c : Nat) (s : ByteArray) (w : World) (ha : Ask6 w) (hn : ps.length = n) (hnn : n ≤ 9223372036854775807) (hl : LiesP w A ps) (hs : s.size ≤ 9223372036854775807) (hg : greatP ps = true ∨ 5000 < s.size) :
    Calls Tryd.prog 6 #[.slice A n c, .string s] w fun e w' => e = .returned (.bool true) ∧ Below w.heap.size w w' := by
  have HAL := Lib.hid (alive6_any w ha)
  have HG := Lib.hid (fun (W : World) (hW : Below w.heap.size w W) => refGreat_any A ps n c W hn hnn (hl.below hW))
  clear ha hn hl
  cases hgr : greatP ps with
  | true =>
    rw [hgr] at HG
    clear hg hgr
    go_enter Tryd.func6, Tryd.ntmps6
    go_wp2_with (first
      | (go_at_call 7; refine HAL.out.mono ?_; rintro e w1 ⟨rfl, hb⟩; have HB1 := Lib.hid hb; clear hb)
      | (go_at_call 13; (with_reducible refine (HG.out _ HB1.out).mono ?_); rintro e w2 ⟨rfl, rfl⟩))
    go_ret
    exact ⟨rfl, HB1.out⟩
  | false =>
    rw [hgr] at HG hg
    have h5 : (5000 : Int) < (s.size : Int) := by
      rcases hg with h | h
      · cases h
      · omega
    clear hg hgr
    go_enter Tryd.func6, Tryd.ntmps6
    go_wp2_with (first
      | (go_at_call 7; refine HAL.out.mono ?_; rintro e w1 ⟨rfl, hb⟩; have HB1 := Lib.hid hb; clear hb)
      | (go_at_call 13; (with_reducible refine (HG.out _ HB1.out).mono ?_); rintro e w2 ⟨rfl, rfl⟩))
    go_ret
    exact ⟨rfl, HB1.out⟩
set_option maxRecDepth 100000 in
set_option maxHeartbeats 4000000 in
theorem lawBack_few (A : Option Addr) (ps : PList) (n c : Nat) (s : ByteArray) (w : World) (ha : Ask6 w) (hn : ps.length = n) (hnc : n ≤ c) (hnn : n ≤ 9223372036854775807) (hl : LiesP w A ps) (hg : greatP ps = false) (hs : s.size ≤ 5000) :
    Calls Tryd.prog 6 #[.slice A n c, .string s] w fun e w' => e = .returned (.bool true) ∧ Below w.heap.size w w' := by
  obtain ⟨_, hsm⟩ := greatP_no hg
  have HAL := Lib.hid (alive6_any w ha)
  have HA := Lib.hid ha
  have HG := Lib.hid (fun (W : World) (hW : Below w.heap.size w W) => refGreat_any A ps n c W hn hnn (hl.below hW))
  rw [hg] at HG
  have HL := Lib.hid hl
  have h5 : ¬ (5000 : Int) < (s.size : Int) := by omega
  have HE := Lib.hid (fun W : World => escape_any s W (by omega))
  have hel := escL_len (strL s)
  rw [length_strL] at hel
  obtain ⟨e1, e2⟩ := escL_back (strL_bd s)
  have HU := Lib.hid (fun W : World => unescape_right (toS (escL (strL s))) W (by rw [size_toS]; omega) (by rw [strL_toS (escL_bytes (strL_bd s))]; exact e2))
  rw [strL_toS (escL_bytes (strL_bd s)), e1, toS_strL] at HU
  obtain ⟨X, hX⟩ : ∃ X, X = toS (escL (strL s)) := ⟨_, rfl⟩
  rw [← hX] at HE HU
  have HP := Lib.hid (fun (W : World) (hW : Below w.heap.size w W) => print_all A ps n c W (ha.marks.below hW) hn hnc (hl.below hW) hsm)
  have hbk := parsed_back ps
  have f1 : (s.toList != s.toList) = false := by simp
  have HN := Lib.hid hn
  clear ha hl hg hsm hel e1 e2 hX hs
  obtain ⟨r, hr⟩ : ∃ r, r = printedP ps := ⟨_, rfl⟩
  obtain ⟨l, num⟩ := r
  rw [← hr] at HP hbk
  have HZ : Hid (num ≠ 0 → l = []) := Lib.hid fun h => by
    unfold printedP at hr
    split at hr
    · cases hr; rfl
    · split at hr
      · cases hr; rfl
      · split at hr
        · cases hr; rfl
        · cases hr; exact absurd rfl h
  have HBK := Lib.hid hbk
  clear hr hbk hn
  go_enter Tryd.func6, Tryd.ntmps6
  go_wp2_with (first
    | (go_at_call 7; refine HAL.out.mono ?_; rintro e w1 ⟨rfl, hb⟩; have HB1 := Lib.hid hb; clear hb)
    | (go_at_call 13; (with_reducible refine (HG.out _ HB1.out).mono ?_); rintro e w2 ⟨rfl, rfl⟩)
    | (go_at_call 20; (with_reducible refine (HE.out _).mono ?_); rintro e w3 ⟨rfl, hb⟩; have HB3 := Lib.hid (HB1.out.trans (hb.mono HB1.out.size)); clear hb)
    | (go_at_call 18; (with_reducible refine (HU.out _).mono ?_); rintro e w4 ⟨rfl, hb⟩; have HB4 := Lib.hid (HB3.out.trans (hb.mono HB3.out.size)); clear hb))
  refine (HP.out _ HB4.out).mono ?_
  rintro e w5 ⟨v, rfl, he, hb⟩
  simp only at he ⊢
  have HB5 := Lib.hid (HB4.out.trans (hb.mono HB4.out.size))
  clear hb
  by_cases hz : num = 0
  · subst hz
    have hv : v = .nilIface := by
      rcases he with ⟨_, _, h⟩ | ⟨h, _⟩ | ⟨h, _⟩
      · exact h
      · exact absurd rfl h
      · exact absurd rfl h
    subst hv
    have HPA := Lib.hid (parse_all (toS l) w5 (HA.out.marks.below HB5.out) (HA.out.maxl.below HB5.out))
    rw [HBK.out rfl] at HPA
    obtain ⟨T, hT⟩ : ∃ T, T = toS l := ⟨_, rfl⟩
    rw [← hT] at HPA ⊢
    clear he hT
    go_wp2_with fail
    refine HPA.out.mono ?_
    rintro e w6 ⟨A', c', v, rfl, hl2, he, hb⟩
    simp only at he hl2 ⊢
    have hv : v = .nilIface := by
      rcases he with ⟨_, _, h⟩ | ⟨h, _⟩ | ⟨h, _⟩
      · exact h
      · exact absurd rfl h
      · exact absurd rfl h
    subst hv
    rw [HN.out]
    have HB6 := Lib.hid (HB5.out.trans (hb.mono HB5.out.size))
    have HSM := Lib.hid (refSame_same A A' ps n c c' w6 HN.out hnn (HL.out.below HB6.out) hl2)
    clear he hl2 hb
    go_wp2_with (go_at_call 12; (with_reducible refine HSM.out.mono ?_); rintro e w7 ⟨rfl, hb⟩; have HB7 := Lib.hid (HB6.out.trans (hb.mono HB6.out.size)); clear hb)
    go_ret
    exact ⟨rfl, HB7.out⟩
  · obtain rfl := HZ.out hz
    have hv : ∃ t x, v = .iface t x := by
      rcases he with ⟨h, _⟩ | ⟨_, _, h⟩ | ⟨_, h, _⟩
      · exact absurd h hz
      · exact ⟨_, _, h⟩
      · exact absurd h (by decide)
    obtain ⟨t, x, rfl⟩ := hv
    rw [show toS [] = ⟨#[]⟩ from rfl]
    clear he hz
    go_wp2
    go_ret
    exact ⟨rfl, HB5.out⟩
theorem lawBack_any (A : Option Addr) (ps : PList) (n c : Nat) (s : ByteArray) (w : World) (ha : Ask6 w) (hn : ps.length = n) (hnc : n ≤ c) (hnn : n ≤ 9223372036854775807) (hl : LiesP w A ps) (hs : s.size ≤ 9223372036854775807) :
    Calls Tryd.prog 6 #[.slice A n c, .string s] w fun e w' => e = .returned (.bool true) ∧ Below w.heap.size w w' := by
  by_cases h : greatP ps = true ∨ 5000 < s.size
  · exact lawBack_great A ps n c s w ha hn hnn hl hs h
  · exact lawBack_few A ps n c s w ha hn hnc hnn hl (by
      cases hg : greatP ps with
      | true => exact absurd (.inl hg) h
      | false => rfl) (by omega)
end Go.Proofs.YtcjnhgcopdofhaaDoor
