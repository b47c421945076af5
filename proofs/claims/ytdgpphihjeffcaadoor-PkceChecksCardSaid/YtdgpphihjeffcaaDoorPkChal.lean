/- The walks of pkce's Challenge, Right, Check, and of the reference's. -/
import Derived.Test.YtdgpphihjeffcaaDoorPkVer
import Derived.Test.YtdgpphihjeffcaaDoorShaJoin
import Derived.Test.YtdgpphihjeffcaaDoorShaSame
import Derived.Test.YtdgpphihjeffcaaDoorShaTabs
import Derived.Test.YtdgpphihjeffcaaDoorB64RefDec
import Derived.Test.YtdgpphihjeffcaaDoorShaRefSum
import Derived.Test.YtdgpphihjeffcaaDoorShelf
import Derived.Lib.AppendZeros
namespace Go.Proofs.YtdgpphihjeffcaaDoor
open Go Go.RowKit

set_option maxRecDepth 100000 in
theorem clone_str (s : ByteArray) (w : World) (hs : s.size ≤ 281474976710656) : Calls Tryd.prog 16 #[.string s] w fun e w' => e = .returned (.string s) ∧ Below w.heap.size w w' := by
  have HC := Lib.hid (Tryd.stringslite_Clone s w hs)
  go_enter Tryd.func16, Tryd.ntmps16
  go_wp2_with (go_at_call 26; refine HC.out.mono ?_; rintro e w' ⟨rfl, hb⟩)
  go_ret
  exact ⟨rfl, hb⟩
set_option maxRecDepth 100000 in
set_option maxHeartbeats 2000000 in
theorem chal_no (p : Bool) (s : ByteArray) (w : World) (hs : s.size ≤ 9223372036854775807) (h : verL (strL s) = false) :
    Calls Tryd.prog 7 #[.bool p, .string s] w fun e w' => e = .returned (.tuple #[.string ⟨#[]⟩, .iface 33 (.int .i64 100)]) ∧ w = w' := by
  have HV := Lib.hid (fun W => ver_any s W hs)
  rw [h] at HV
  clear h
  go_enter Tryd.func7, Tryd.ntmps7
  go_wp2_with (go_at_call 9; refine (HV.out _).mono ?_; rintro e w' ⟨rfl, rfl⟩)
  go_ret2
  exact ⟨rfl, rfl⟩
set_option maxRecDepth 100000 in
set_option maxHeartbeats 2000000 in
theorem chal_ok (p : Bool) (s : ByteArray) (w : World) (h : verL (strL s) = true) (ht : Tabs w) :
    Calls Tryd.prog 7 #[.bool p, .string s] w fun e w' => e = .returned (.tuple #[.string (chalS p s), .nilIface]) ∧ Below w.heap.size w w' := by
  have hz := (verL_all h).2.1
  rw [length_strL] at hz
  have HV := Lib.hid (fun W => ver_any s W (by omega))
  rw [h] at HV
  cases p with
  | true =>
    have hc : chalS true s = s := if_pos rfl
    rw [hc]
    have HC := Lib.hid (fun W => clone_str s W (by omega))
    clear h hz ht hc
    go_enter Tryd.func7, Tryd.ntmps7
    go_wp2_with (first
      | (go_at_call 9; refine (HV.out _).mono ?_; rintro e w' ⟨rfl, rfl⟩)
      | (go_at_call 16; refine (HC.out _).mono ?_; rintro e w' ⟨rfl, hb⟩))
    go_ret2
    exact ⟨rfl, hb⟩
  | false =>
    obtain ⟨S, hS⟩ : ∃ S, S = chalS false s := ⟨_, rfl⟩
    rw [← hS]
    have HSU := Lib.hid (fun (A : Option Addr) (c : Nat) (W : World) (hc : s.size ≤ c) (hW : Below w.heap.size w W) (hl : Lies W A (strL s)) => by
      have := sum_any A c (strL s) W (by rw [length_strL]; exact hc) (by rw [length_strL]; omega) (strL_bd s) hl (ht.below hW)
      rw [length_strL] at this
      exact this)
    obtain ⟨D, hD⟩ : ∃ D, D = digestL (strL s) := ⟨_, rfl⟩
    have HD : Hid (D.length = 32) := Lib.hid (by rw [hD]; exact length_digestL _)
    have HEN := Lib.hid (fun (g : Nat) (W : World) (hb : Blk W g 35 (ints .u8 D)) => by
      have := encode_any (some ⟨g, 0, none⟩) D 32 32 W HD.out (by omega) (by rw [hD]; exact digestL_bd _) (Lies.whole hb) (by omega)
      rw [show (⟨(toU (encL D)).toArray⟩ : ByteArray) = S by rw [hS, hD]; exact (if_neg (by decide)).symm] at this
      exact this)
    rw [← hD] at HSU
    have HB0 := Lib.hid (Below.refl w.heap.size w)
    clear h hz ht hS hD
    go_enter Tryd.func7, Tryd.ntmps7
    go_wp2_with (first
      | (go_at_call 9; refine (HV.out _).mono ?_; rintro e w' ⟨rfl, rfl⟩)
      | (refine wpList_convert_str rfl (some 15) rfl _ _ 5 (.tmp 14) rfl s rfl Tryd.underlying9 Tryd.underlying37 Tryd.underlying5 ?_; intro A1 c1 w2 hl1 hc1 hb; have HB2 := Lib.hid hb; have HL1 := Lib.hid hl1; clear hb hl1; try go_frame)
      | (go_at_call 17; refine (HSU.out A1 c1 w2 hc1 HB2.out HL1.out).mono ?_; rintro e w3 ⟨rfl, hb⟩; have HB3 := Lib.hid (HB2.out.trans (hb.mono HB2.out.size)); clear hb)
      | (refine wpList_alloc_blk rfl (some 6) rfl _ rfl _ z24 ?_; intro g4 w4 hg4 hb4 hgr; have HB4 := Lib.hid (HB3.out.grown hgr HB3.out.size (by simp)); clear hgr; try go_frame)
      | (refine wpList_store_blk rfl none rfl _ (.tmp 6) (.tmp 16) rfl g4 0 (ints .u8 D) rfl rfl _ _ hb4 (by simp [HD.out]) (by rw [s24, length_ints, HD.out]) (one_ints _ _) ?_; intro w5 hb5 hgr; rw [splice_all _ _ (by simp [HD.out])] at hb5; have HB5 := Lib.hid (HB4.out.grown hgr HB4.out.size (by intro k hk; injection hk with hk; have h1 := HB3.out.size; omega)); have HK5 := Lib.hid hb5; clear hgr hb4 hb5; try go_frame)
      | (go_at_call 18; refine (HEN.out g4 _ HK5.out).mono ?_; rintro e w6 ⟨rfl, hb⟩; have HB6 := Lib.hid (HB5.out.trans (hb.mono HB5.out.size)); clear hb))
    go_ret2
    exact ⟨rfl, HB6.out⟩
/-- isOfDigest. -/
theorem dig_right (s : ByteArray) (h : s.size ≤ 65536) (hf : faultL (strL s) = -1) : ofDig (strL s) = decide (((decL (strL s)).length : Int) = 32) := by
  unfold ofDig
  rw [decide_eq_true hf, Bool.true_and]
  exact decide_eq_decide.2 (by omega)
theorem dig_long (s : ByteArray) (h : 65536 < s.size) : ofDig (strL s) = false := by
  cases hd : ofDig (strL s) with
  | false => rfl
  | true =>
    have := (verL_all (ofDig_ver hd)).2.1
    rw [length_strL] at this
    omega
theorem dig_wrong (s : ByteArray) (hf : ¬ faultL (strL s) = -1) : ofDig (strL s) = false := by
  unfold ofDig
  rw [decide_eq_false hf, Bool.false_and]
set_option maxRecDepth 100000 in
set_option maxHeartbeats 2000000 in
theorem isDig_any (s : ByteArray) (w : World) (hs : s.size ≤ 9223372036854775807) :
    Calls Tryd.prog 24 #[.string s] w fun e w' => e = .returned (.bool (ofDig (strL s))) ∧ Below w.heap.size w w' := by
  rcases Nat.lt_or_ge 65536 s.size with h | h
  · rw [dig_long s h]
    have HD := Lib.hid (fun W => decode_long s W hs h)
    clear h hs
    go_enter Tryd.func24, Tryd.ntmps24
    go_wp2_with (go_at_call 40; refine (HD.out _).mono ?_; rintro e w' ⟨rfl, rfl⟩)
    go_ret
    exact ⟨rfl, Below.refl _ _⟩
  by_cases hf : faultL (strL s) = -1
  · have HD := Lib.hid (fun W => decode_right s W h hf)
    have hdg := dig_right s h hf
    obtain ⟨n, hn⟩ : ∃ n, n = (decL (strL s)).length := ⟨_, rfl⟩
    obtain ⟨L, hL⟩ : ∃ L, L = decL (strL s) := ⟨_, rfl⟩
    unfold DecRight at HD
    rw [← hn, ← hL] at HD
    rw [← hn] at hdg
    have HG := Lib.hid hdg
    clear h hs hf hn hL hdg
    by_cases h32 : n = 32
    · rw [HG.out, decide_eq_true (by omega)]
      subst h32
      go_enter Tryd.func24, Tryd.ntmps24
      go_wp2_with (go_at_call 40; refine (HD.out _).mono ?_; rintro e w2 ⟨A, c, rfl, hc, hl, hb⟩; have HB := Lib.hid hb; clear hl hb)
      go_ret
      exact ⟨rfl, HB.out⟩
    · rw [HG.out, decide_eq_false (by omega)]
      have c1 : ((n : Int) == 32) = false := by rw [beq_eq_false_iff_ne]; omega
      have c2 : ¬ (n : Int) = 32 := by omega
      clear h32
      go_enter Tryd.func24, Tryd.ntmps24
      go_wp2_with (go_at_call 40; refine (HD.out _).mono ?_; rintro e w2 ⟨A, c, rfl, hc, hl, hb⟩; have HB := Lib.hid hb; clear hl hb)
      go_ret
      exact ⟨rfl, HB.out⟩
  · rw [dig_wrong s hf]
    have HD := Lib.hid (fun W => decode_wrong s W h hf)
    clear h hs hf
    go_enter Tryd.func24, Tryd.ntmps24
    go_wp2_with (go_at_call 40; refine (HD.out _).mono ?_; rintro e w2 ⟨rfl, hw⟩; have HB : Hid (Below w.heap.size w w2) := Lib.hid (by rw [hw]; exact belowAlloc _ _); clear hw)
    go_ret
    exact ⟨rfl, HB.out⟩
set_option maxRecDepth 100000 in
set_option maxHeartbeats 2000000 in
theorem pkRight_any (p : Bool) (s : ByteArray) (w : World) (hs : s.size ≤ 9223372036854775807) :
    Calls Tryd.prog 14 #[.bool p, .string s] w fun e w' => e = .returned (.bool (rightP p (strL s))) ∧ Below w.heap.size w w' := by
  have HV := Lib.hid (fun W => ver_any s W hs)
  have HI := Lib.hid (fun W => isDig_any s W hs)
  have HOV : Hid (ofDig (strL s) = true → verL (strL s) = true) := Lib.hid ofDig_ver
  clear hs
  cases p with
  | true =>
    have hr : rightP true (strL s) = verL (strL s) := if_pos rfl
    rw [hr]
    obtain ⟨v, hv⟩ : ∃ v, v = verL (strL s) := ⟨_, rfl⟩
    rw [← hv] at HV ⊢
    clear hv hr
    go_enter Tryd.func14, Tryd.ntmps14
    go_wp2_with (go_at_call 9; refine (HV.out _).mono ?_; rintro e w' ⟨rfl, rfl⟩)
    go_ret
    exact ⟨rfl, Below.refl _ _⟩
  | false =>
    have hr : rightP false (strL s) = ofDig (strL s) := if_neg (by decide)
    rw [hr]
    obtain ⟨v, hv⟩ : ∃ v, v = ofDig (strL s) := ⟨_, rfl⟩
    rw [← hv] at HI HOV ⊢
    clear hv hr
    cases v with
    | true =>
      have hvv := HOV.out rfl
      rw [hvv] at HV
      clear hvv
      go_enter Tryd.func14, Tryd.ntmps14
      go_wp2_with (first
        | (go_at_call 9; refine (HV.out _).mono ?_; rintro e w' ⟨rfl, rfl⟩)
        | (go_at_call 24; refine (HI.out _).mono ?_; rintro e w2 ⟨rfl, hb⟩; have HB := Lib.hid hb; clear hb))
      go_ret
      exact ⟨rfl, HB.out⟩
    | false =>
      go_enter Tryd.func14, Tryd.ntmps14
      go_wp2_with (go_at_call 24; refine (HI.out _).mono ?_; rintro e w2 ⟨rfl, hb⟩; have HB := Lib.hid hb; clear hb)
      go_ret
      exact ⟨rfl, HB.out⟩
/-- What Check tells. -/
def chkB (p : Bool) (c v : ByteArray) : Bool := verL (strL v) && decide (chalS p v = c)
def chkV (b : Bool) : Value := if b = true then .nilIface else .iface 33 (.int .i64 100)
set_option maxRecDepth 100000 in
set_option maxHeartbeats 2000000 in
theorem check_any (p : Bool) (c v : ByteArray) (w : World) (hc : c.size ≤ 9223372036854775807) (hs : v.size ≤ 9223372036854775807) (ht : Tabs w) :
    Calls Tryd.prog 12 #[.bool p, .string c, .string v] w fun e w' => e = .returned (chkV (chkB p c v)) ∧ Below w.heap.size w w' := by
  cases hv : verL (strL v) with
  | false =>
    have hb : chkB p c v = false := by unfold chkB; rw [hv, Bool.false_and]
    rw [hb]
    have HC := Lib.hid (fun W => chal_no p v W hs hv)
    clear hb hv hs hc ht
    go_enter Tryd.func12, Tryd.ntmps12
    go_wp2_with (go_at_call 7; refine (HC.out _).mono ?_; rintro e w' ⟨rfl, rfl⟩)
    go_ret
    exact ⟨rfl, Below.refl _ _⟩
  | true =>
    have hz := size_chal p v hv
    have HC := Lib.hid (chal_ok p v w hv ht)
    have hcb : chkB p c v = decide (chalS p v = c) := by unfold chkB; rw [hv, Bool.true_and]
    rw [hcb]
    obtain ⟨S, hS⟩ : ∃ S, S = chalS p v := ⟨_, rfl⟩
    rw [← hS] at HC hz ⊢
    have HSM := Lib.hid (fun (A B : Option Addr) (k d : Nat) (W : World) (h1 : Lies W A (strL S)) (h2 : Lies W B (strL c)) => by
      have := shaSame_any A B k d (strL S) (strL c) W (by rw [length_strL]; omega) (by rw [length_strL]; exact hc) (strL_bd _) (strL_bd _) h1 h2
      rw [length_strL, length_strL] at this
      unfold SaysSame at this
      rw [show decide (strL S = strL c) = decide (S = c) from decide_eq_decide.2 ⟨fun h => strL_inj h, fun h => by rw [h]⟩] at this
      exact this)
    obtain ⟨q, hq⟩ : ∃ q, q = decide (S = c) := ⟨_, rfl⟩
    rw [← hq] at HSM ⊢
    clear hcb hS hq hv hs hc ht hz
    cases q with
    | true =>
      go_enter Tryd.func12, Tryd.ntmps12
      go_wp2_with (first
        | (go_at_call 7; refine HC.out.mono ?_; rintro e w1 ⟨rfl, hb⟩; have HB1 := Lib.hid hb; clear hb)
        | (refine wpList_convert_str rfl (some 19) rfl _ _ 5 (.tmp 18) rfl S rfl Tryd.underlying9 Tryd.underlying37 Tryd.underlying5 ?_; intro A1 c1 w2 hl1 hc1 hb; have HB2 := Lib.hid (HB1.out.trans (hb.mono HB1.out.size)); have HL1 := Lib.hid hl1; clear hb hl1; try go_frame)
        | (refine wpList_convert_str rfl (some 21) rfl _ _ 5 (.tmp 20) rfl c rfl Tryd.underlying9 Tryd.underlying37 Tryd.underlying5 ?_; intro A2 c2 w3 hl2 hc2 hb; have HB3 := Lib.hid (HB2.out.trans (hb.mono HB2.out.size)); have HL2 := Lib.hid hl2; have HL1' := Lib.hid (HL1.out.below hb); clear hb hl2; try go_frame)
        | (go_at_call 23; refine (HSM.out _ _ _ _ _ HL1'.out HL2.out).mono ?_; rintro e w4 ⟨rfl, k4, rfl⟩))
      go_ret
      exact ⟨rfl, below_drewN HB3.out _⟩
    | false =>
      go_enter Tryd.func12, Tryd.ntmps12
      go_wp2_with (first
        | (go_at_call 7; refine HC.out.mono ?_; rintro e w1 ⟨rfl, hb⟩; have HB1 := Lib.hid hb; clear hb)
        | (refine wpList_convert_str rfl (some 19) rfl _ _ 5 (.tmp 18) rfl S rfl Tryd.underlying9 Tryd.underlying37 Tryd.underlying5 ?_; intro A1 c1 w2 hl1 hc1 hb; have HB2 := Lib.hid (HB1.out.trans (hb.mono HB1.out.size)); have HL1 := Lib.hid hl1; clear hb hl1; try go_frame)
        | (refine wpList_convert_str rfl (some 21) rfl _ _ 5 (.tmp 20) rfl c rfl Tryd.underlying9 Tryd.underlying37 Tryd.underlying5 ?_; intro A2 c2 w3 hl2 hc2 hb; have HB3 := Lib.hid (HB2.out.trans (hb.mono HB2.out.size)); have HL2 := Lib.hid hl2; have HL1' := Lib.hid (HL1.out.below hb); clear hb hl2; try go_frame)
        | (go_at_call 23; refine (HSM.out _ _ _ _ _ HL1'.out HL2.out).mono ?_; rintro e w4 ⟨rfl, k4, rfl⟩))
      go_ret
      exact ⟨rfl, below_drewN HB3.out _⟩
theorem txt_dig (v : ByteArray) : txt (txtD (digestL (strL v))) = chalS false v := by
  refine strL_inj ?_
  rw [strL_txt, strL_txtD (digestL_bd _), strL_chal, if_neg (by decide)]
set_option maxRecDepth 100000 in
set_option maxHeartbeats 2000000 in
theorem refChal_any (p : Bool) (v : ByteArray) (w : World) (hs : v.size ≤ 3000) :
    Calls Tryd.prog 11 #[.bool p, .string v] w fun e w' => e = .returned (.string (chalS p v)) ∧ Below w.heap.size w w' := by
  cases p with
  | true =>
    have hc : chalS true v = v := if_pos rfl
    rw [hc]
    go_enter Tryd.func11, Tryd.ntmps11
    go_wp2
    go_ret
    exact ⟨rfl, Below.refl _ _⟩
  | false =>
    have HS := Lib.hid (refSum_any v w (by omega))
    obtain ⟨T, hT⟩ : ∃ T, T = txtD (digestL (strL v)) := ⟨_, rfl⟩
    have hz : T.size = 32 := by rw [← length_strL, hT, strL_txtD (digestL_bd _), length_digestL]
    have HE := Lib.hid (fun W => refEncode_any T W (by omega))
    have hx : txt T = chalS false v := by rw [hT]; exact txt_dig v
    rw [hx] at HE
    rw [← hT] at HS
    clear hT hz hx hs
    go_enter Tryd.func11, Tryd.ntmps11
    go_wp2_with (first
      | (go_at_call 22; refine HS.out.mono ?_; rintro e w2 ⟨rfl, hb⟩; have HB2 := Lib.hid hb; clear hb)
      | (go_at_call 21; refine (HE.out _).mono ?_; rintro e w3 ⟨rfl, hb⟩; have HB3 := Lib.hid (HB2.out.trans (hb.mono HB2.out.size)); clear hb))
    go_ret
    exact ⟨rfl, HB3.out⟩
set_option maxRecDepth 100000 in
set_option maxHeartbeats 2000000 in
theorem refRight_any (p : Bool) (s : ByteArray) (w : World) (hs : s.size ≤ 3000) :
    Calls Tryd.prog 15 #[.bool p, .string s] w fun e w' => e = .returned (.bool (rightP p (strL s))) ∧ Below w.heap.size w w' := by
  cases p with
  | true =>
    have HV := Lib.hid (fun W => refVer_any s W (by omega))
    have hr : rightP true (strL s) = verL (strL s) := if_pos rfl
    rw [hr]
    obtain ⟨v, hv⟩ : ∃ v, v = verL (strL s) := ⟨_, rfl⟩
    rw [← hv] at HV ⊢
    clear hv hr hs
    go_enter Tryd.func15, Tryd.ntmps15
    go_wp2_with (go_at_call 8; refine (HV.out _).mono ?_; rintro e w' ⟨rfl, rfl⟩)
    go_ret
    exact ⟨rfl, Below.refl _ _⟩
  | false =>
    have hr : rightP false (strL s) = ofDig (strL s) := if_neg (by decide)
    rw [hr]
    clear hr
    have HD := Lib.hid (fun W => refDecode_any s W (by omega))
    unfold RefDec at HD
    by_cases hf : faultL (strL s) = -1
    · have hdg := dig_right s (by omega) hf
      have hsz : (⟨(toU (decL (strL s))).toArray⟩ : ByteArray).size = (decL (strL s)).length := by simp [ByteArray.size, toU]
      obtain ⟨T, hT⟩ : ∃ T : ByteArray, T = ⟨(toU (decL (strL s))).toArray⟩ := ⟨_, rfl⟩
      have HD2 := Lib.hid (fun W => (HD.out W).mono (R' := fun e w' => e = .returned (.tuple #[.string T, .int .i64 0, .int .i64 (-1)]) ∧ Below W.heap.size W w') fun e w' hr => by
        rcases hr.1 with ⟨_, he⟩ | ⟨h0, _⟩
        · exact ⟨by rw [he, hT], hr.2⟩
        · omega)
      rw [← hT] at hsz
      rw [← hsz] at hdg
      have HG := Lib.hid hdg
      clear HD hf hT hsz hdg hs
      by_cases h32 : T.size = 32
      · have c1 : (T.size : Int) = 32 := by omega
        rw [HG.out, decide_eq_true c1]
        go_enter Tryd.func15, Tryd.ntmps15
        go_wp2_with (go_at_call 25; refine (HD2.out _).mono ?_; rintro e w2 ⟨rfl, hb⟩; have HB := Lib.hid hb; clear hb)
        go_ret
        exact ⟨rfl, HB.out⟩
      · have c2 : ¬ (T.size : Int) = 32 := by omega
        have c1 : ((T.size : Int) == 32) = false := by rw [beq_eq_false_iff_ne]; exact c2
        rw [HG.out, decide_eq_false c2]
        clear h32
        go_enter Tryd.func15, Tryd.ntmps15
        go_wp2_with (go_at_call 25; refine (HD2.out _).mono ?_; rintro e w2 ⟨rfl, hb⟩; have HB := Lib.hid hb; clear hb)
        go_ret
        exact ⟨rfl, HB.out⟩
    · rw [dig_wrong s hf]
      have HD2 := Lib.hid (fun W => (HD.out W).mono (R' := fun e w' => e = .returned (.tuple #[.string ⟨#[]⟩, .int .i64 20, .int .i64 (faultL (strL s))]) ∧ Below W.heap.size W w') fun e w' hr => by
        rcases hr.1 with ⟨h0, _⟩ | ⟨_, he⟩
        · exact absurd h0 hf
        · exact ⟨he, hr.2⟩)
      obtain ⟨fp, hfp⟩ : ∃ q, q = faultL (strL s) := ⟨_, rfl⟩
      rw [← hfp] at HD2
      clear HD hf hs hfp
      go_enter Tryd.func15, Tryd.ntmps15
      go_wp2_with (go_at_call 25; refine (HD2.out _).mono ?_; rintro e w2 ⟨rfl, hb⟩; have HB := Lib.hid hb; clear hb)
      go_ret
      exact ⟨rfl, HB.out⟩
set_option maxRecDepth 100000 in
set_option maxHeartbeats 2000000 in
theorem refCheckP_any (p : Bool) (c v : ByteArray) (w : World) (hs : v.size ≤ 3000) :
    Calls Tryd.prog 13 #[.bool p, .string c, .string v] w fun e w' => e = .returned (.bool (chkB p c v)) ∧ Below w.heap.size w w' := by
  have HV := Lib.hid (fun W => refVer_any v W (by omega))
  have HC := Lib.hid (fun W => refChal_any p v W hs)
  have hcb : chkB p c v = (verL (strL v) && decide (chalS p v = c)) := rfl
  rw [hcb]
  obtain ⟨b, hb⟩ : ∃ b, b = verL (strL v) := ⟨_, rfl⟩
  obtain ⟨S, hS⟩ : ∃ S, S = chalS p v := ⟨_, rfl⟩
  rw [← hb] at HV ⊢
  rw [← hS] at HC ⊢
  clear hb hS hcb hs
  cases b with
  | false =>
    go_enter Tryd.func13, Tryd.ntmps13
    go_wp2_with (go_at_call 8; refine (HV.out _).mono ?_; rintro e w' ⟨rfl, rfl⟩)
    go_ret
    exact ⟨rfl, Below.refl _ _⟩
  | true =>
    rw [Bool.true_and]
    have hq : (S.toList == c.toList) = decide (S = c) := eq_toList S c
    obtain ⟨q, hqq⟩ : ∃ q, q = decide (S = c) := ⟨_, rfl⟩
    rw [← hqq] at hq ⊢
    clear hqq
    go_enter Tryd.func13, Tryd.ntmps13
    go_wp2_with (first
      | (go_at_call 8; refine (HV.out _).mono ?_; rintro e w' ⟨rfl, rfl⟩)
      | (go_at_call 11; refine (HC.out _).mono ?_; rintro e w2 ⟨rfl, hb⟩; have HB := Lib.hid hb; clear hb))
    go_ret
    exact ⟨rfl, HB.out⟩
end Go.Proofs.YtdgpphihjeffcaaDoor
