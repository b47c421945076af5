/- DecSpec, DecRead, DecPrint: merged. -/
import Derived.LaidEql
import Derived.Stop.Asserts
import Derived.RowKitTokens
import Derived.Maps.RangeWalk
import Derived.Test.YtcjfealalokjaaaGreatDoorPa04
set_option linter.all false
namespace Go.Proofs.YtcjfealalokjaaaGreatDoor
open Go Go.RowKit
/-- An error with a place: an At in a block of its own. -/
def AtErr (pos n : Int) (w : World) (v : Value) (w' : World) : Prop :=
  ∃ b, v = .iface 66 (.pointer (some ⟨b, 0, none⟩)) ∧ w'.cell? ⟨b, 0, none⟩ = some (.int .i64 pos) ∧ w'.cell? ⟨b, 0 + 1, none⟩ = some (.iface 63 (.int .i64 n)) ∧ Below w.heap.size w w'
def ReadWrong (pos : Int) (w : World) (e : Ending) (w' : World) : Prop := ∃ v, e = .returned (.tuple #[.int .i64 0, v]) ∧ AtErr pos 40 w v w'
def ReadTells (l : List Int) (least most : Int) (w : World) (e : Ending) (w' : World) : Prop :=
  (formL l = false ∧ ReadWrong (leadL l : Int) w e w') ∨
  (formL l = true ∧ fitL l least most = false ∧ e = .returned (.tuple #[.int .i64 0, .iface 63 (.int .i64 41)]) ∧ Below w.heap.size w w') ∨
  (formL l = true ∧ fitL l least most = true ∧ e = .returned (.tuple #[.int .i64 (numL l), .nilIface]) ∧ Below w.heap.size w w')
end Go.Proofs.YtcjfealalokjaaaGreatDoor
namespace Go.Proofs.YtcjfealalokjaaaGreatDoor
open Go Go.RowKit
theorem form_rest {s : ByteArray} (h : formL (strL s) = true) : AllD (strL (restS s)) := by
  rw [restL]
  unfold dashB
  rcases formL_parts h with ⟨h45, hall, _⟩ | ⟨h45, hall, _⟩
  · rw [decide_eq_true h45, if_pos rfl]; exact hall
  · rw [decide_eq_false h45, if_neg (by decide)]; exact hall
theorem form_lead (s : ByteArray) : formL (strL s) = true ↔ leadL (strL s) ≠ 0 ∧ ¬ leadL (strL s) < s.size := by
  unfold formL
  rw [decide_eq_true_eq, ← length_strL]
  have := leadL_le (strL s)
  constructor
  · rintro ⟨h1, h2⟩
    have := List.length_pos_iff.2 h1
    omega
  · rintro ⟨h1, h2⟩
    exact ⟨fun e => by rw [e] at h1; exact h1 rfl, by omega⟩
set_option maxRecDepth 100000 in
set_option maxHeartbeats 1000000 in
theorem read_no (s : ByteArray) (least most : Int) (w : World) (hs : s.size ≤ 9223372036854775806) (hf : formL (strL s) = false) :
    Calls Tryz.prog 141 #[.string s, .int .i64 least, .int .i64 most] w (ReadWrong (leadL (strL s) : Int) w) := by
  have HL := Lib.hid (lead_anyN s w hs)
  have hle := leadL_le (strL s)
  rw [length_strL] at hle
  have hn : leadL (strL s) = 0 ∨ leadL (strL s) < s.size := by
    by_cases h : leadL (strL s) = 0
    · exact .inl h
    · by_cases h2 : leadL (strL s) < s.size
      · exact .inr h2
      · rw [(form_lead s).2 ⟨h, h2⟩] at hf; cases hf
  obtain ⟨p, hp⟩ : ∃ p, p = leadL (strL s) := ⟨_, rfl⟩
  rw [← hp] at HL hn hle ⊢
  clear hp hf
  unfold ReadWrong AtErr
  rcases hn with rfl | hn
  · go_enter Tryz.func141, Tryz.ntmps141
    go_wp2_with (go_at_call 137; refine HL.out.mono ?_; rintro e w1 ⟨rfl, hb⟩; have HB := Lib.hid hb; clear hb)
    go_ret2
    refine ⟨_, rfl, w1.heap.size, rfl, ?_, ?_, HB.out.alloc HB.out.size _⟩
    · simp
    · simp
  · have hb : ((p : Int) == 0) = (p == 0) := by rw [Bool.eq_iff_iff, beq_iff_eq, beq_iff_eq]; omega
    have hlt : (p : Int) < (s.size : Int) := by omega
    by_cases hp0 : p = 0
    · have hb1 : ((p : Int) == 0) = true := by rw [beq_iff_eq]; omega
      clear hb hp0 
      go_enter Tryz.func141, Tryz.ntmps141
      go_wp2_with (go_at_call 137; refine HL.out.mono ?_; rintro e w1 ⟨rfl, hb⟩; have HB := Lib.hid hb; clear hb)
      go_ret2
      refine ⟨_, rfl, w1.heap.size, rfl, ?_, ?_, HB.out.alloc HB.out.size _⟩
      · simp
      · simp
    · have hb1 : ((p : Int) == 0) = false := by rw [beq_eq_false_iff_ne]; omega
      clear hb hp0
      go_enter Tryz.func141, Tryz.ntmps141
      go_wp2_with (go_at_call 137; refine HL.out.mono ?_; rintro e w1 ⟨rfl, hb⟩; have HB := Lib.hid hb; clear hb)
      go_ret2
      refine ⟨_, rfl, w1.heap.size, rfl, ?_, ?_, HB.out.alloc HB.out.size _⟩
      · simp
      · simp
set_option maxRecDepth 100000 in
set_option maxHeartbeats 1000000 in
theorem read_yes (s : ByteArray) (least most : Int) (w : World) (hs : s.size ≤ 9223372036854775806) (hf : formL (strL s) = true) :
    Calls Tryz.prog 141 #[.string s, .int .i64 least, .int .i64 most] w fun e w' =>
      (fitL (strL s) least most = false ∧ e = .returned (.tuple #[.int .i64 0, .iface 63 (.int .i64 41)]) ∧ Below w.heap.size w w') ∨
      (fitL (strL s) least most = true ∧ e = .returned (.tuple #[.int .i64 (numL (strL s)), .nilIface]) ∧ Below w.heap.size w w') := by
  have HL := Lib.hid (lead_anyN s w hs)
  have HK := Lib.hid (fun W : World => reckon_any s W (by omega) (form_rest hf))
  obtain ⟨hn, hnl⟩ := (form_lead s).1 hf
  have hle := leadL_le (strL s)
  rw [length_strL] at hle
  have HFT : Hid (fitL (strL s) least most = decide (fitS s = true ∧ least ≤ numS s ∧ numS s ≤ most)) := Lib.hid (by
    unfold fitL fitS
    rw [numS_num]
    refine decide_eq_decide.2 ?_
    rw [decide_eq_true_eq]
    omega)
  rw [← numS_num]
  obtain ⟨p, hp⟩ : ∃ p, p = leadL (strL s) := ⟨_, rfl⟩
  obtain ⟨n, hnn⟩ : ∃ n, n = numS s := ⟨_, rfl⟩
  obtain ⟨F, hF⟩ : ∃ F, F = fitL (strL s) least most := ⟨_, rfl⟩
  rw [← hp] at HL hn hnl hle
  rw [← hnn] at HK HFT ⊢
  rw [← hF] at HFT ⊢
  have hb1 : ((p : Int) == 0) = false := by rw [beq_eq_false_iff_ne]; omega
  have hlt : ¬ (p : Int) < (s.size : Int) := by omega
  clear hp hnn hF hn hf
  cases hfs : fitS s with
  | false =>
    rw [hfs] at HK HFT
    have HR : Hid (F = false) := Lib.hid (by rw [HFT.out]; simp)
    rw [if_neg (by decide)] at HK
    rw [HR.out]
    clear hfs
    go_enter Tryz.func141, Tryz.ntmps141
    go_wp2_with (first
      | (go_at_call 137; refine HL.out.mono ?_; rintro e w1 ⟨rfl, hb⟩; have HB := Lib.hid hb; clear hb)
      | (go_at_call 167; refine (HK.out w1).mono ?_; rintro e w' ⟨rfl, rfl⟩))
    go_ret2
    exact .inl ⟨trivial, rfl, HB.out⟩
  | true =>
    rw [hfs] at HK HFT
    rw [if_pos rfl] at HK
    by_cases h1 : n < least
    · have HR : Hid (F = false) := Lib.hid (by rw [HFT.out, decide_eq_false_iff_not]; omega)
      rw [HR.out]
      clear hfs
      go_enter Tryz.func141, Tryz.ntmps141
      go_wp2_with (first
        | (go_at_call 137; refine HL.out.mono ?_; rintro e w1 ⟨rfl, hb⟩; have HB := Lib.hid hb; clear hb)
        | (go_at_call 167; refine (HK.out w1).mono ?_; rintro e w' ⟨rfl, rfl⟩))
      go_ret2
      exact .inl ⟨trivial, rfl, HB.out⟩
    · by_cases h2 : most < n
      · have HR : Hid (F = false) := Lib.hid (by rw [HFT.out, decide_eq_false_iff_not]; omega)
        rw [HR.out]
        clear hfs
        go_enter Tryz.func141, Tryz.ntmps141
        go_wp2_with (first
          | (go_at_call 137; refine HL.out.mono ?_; rintro e w1 ⟨rfl, hb⟩; have HB := Lib.hid hb; clear hb)
          | (go_at_call 167; refine (HK.out w1).mono ?_; rintro e w' ⟨rfl, rfl⟩))
        go_ret2
        exact .inl ⟨trivial, rfl, HB.out⟩
      · have HR : Hid (F = true) := Lib.hid (by rw [HFT.out, decide_eq_true_eq]; exact ⟨rfl, by omega, by omega⟩)
        rw [HR.out]
        clear hfs
        go_enter Tryz.func141, Tryz.ntmps141
        go_wp2_with (first
          | (go_at_call 137; refine HL.out.mono ?_; rintro e w1 ⟨rfl, hb⟩; have HB := Lib.hid hb; clear hb)
          | (go_at_call 167; refine (HK.out w1).mono ?_; rintro e w' ⟨rfl, rfl⟩))
        go_ret2
        exact .inr ⟨trivial, rfl, HB.out⟩
theorem read_anyN (s : ByteArray) (least most : Int) (w : World) (hs : s.size ≤ 9223372036854775806) (_h0 : -9223372036854775808 ≤ least ∧ least ≤ 9223372036854775807) (_h1 : -9223372036854775808 ≤ most ∧ most ≤ 9223372036854775807) :
    Calls Tryz.prog 141 #[.string s, .int .i64 least, .int .i64 most] w (ReadTells (strL s) least most w) := by
  cases hf : formL (strL s) with
  | false => exact (read_no s least most w hs hf).mono fun e w' h => .inl ⟨hf, h⟩
  | true =>
    refine (read_yes s least most w hs hf).mono fun e w' h => ?_
    rcases h with ⟨h1, h2⟩ | ⟨h1, h2⟩
    · exact .inr (.inl ⟨hf, h1, h2⟩)
    · exact .inr (.inr ⟨hf, h1, h2⟩)
end Go.Proofs.YtcjfealalokjaaaGreatDoor
namespace Go.Proofs.YtcjfealalokjaaaGreatDoor
open Go Go.RowKit
theorem zText : (Tryz.prog.info? 211).map (·.zero) = some (some (.agg (ints .u8 (List.replicate 20 0)).toArray)) := by kernel_rfl
theorem sByte : (Tryz.prog.info? 5).map (·.size) = some 1 := by kernel_rfl
/-- What is left to be written ahead of digits that are there. -/
def headL (m : Nat) : List Int := if m = 0 then [] else digL m
def Told (N m : Nat) (suf : List Int) : Prop := (suf = [] ∧ m = N) ∨ (suf ≠ [] ∧ digL N = headL m ++ suf)
theorem Told.step {N m : Nat} {suf : List Int} (h : Told N m suf) (hc : suf = [] ∨ m ≠ 0) : Told N (m / 10) ((48 + ((m % 10 : Nat) : Int)) :: suf) := by
  have h1 : digL N = digL m ++ suf := by
    rcases h with ⟨rfl, rfl⟩ | ⟨h1, h2⟩
    · simp
    · have := hc.resolve_left h1
      rw [h2, headL, if_neg this]
  refine .inr ⟨by simp, ?_⟩
  rw [h1]
  by_cases h10 : m < 10
  · rw [digL_one h10, headL, if_pos (by omega), show m % 10 = m by omega]; rfl
  · rw [digL_more h10, headL, if_neg (by omega), List.append_assoc]; rfl
theorem Told.len {N m : Nat} {suf : List Int} (h : Told N m suf) : suf.length ≤ (digL N).length := by
  rcases h with ⟨rfl, rfl⟩ | ⟨h1, h2⟩
  · simp
  · rw [h2, List.length_append]; omega
theorem Told.done {N : Nat} {suf : List Int} (h : Told N 0 suf) (h1 : suf ≠ []) : digL N = suf := by
  rcases h with ⟨h2, _⟩ | ⟨_, h2⟩
  · exact absurd h2 h1
  · rw [h2]; rfl
theorem set_drop {arr suf : List Int} {f : Nat} (x : Int) (hf : f + 1 ≤ arr.length) (hd : arr.drop (f + 1) = suf) : (arr.set f x).drop f = x :: suf := by
  rw [List.drop_eq_getElem_cons (by rw [List.length_set]; omega), List.getElem_set_self, List.drop_set_of_lt (by omega), hd]
theorem lies_from {w : World} {g f : Nat} {t : TypeId} {arr suf : List Int} (h : Blk w g t (ints .u8 arr)) (hd : arr.drop f = suf) : Lies w (some ⟨g, 0 + f, none⟩) suf :=
  Lies.blk h fun j v hv => by
    rw [← hd] at hv
    simp only [ints, List.map_drop, List.getElem?_drop] at hv
    rw [Nat.zero_add]
    exact hv
set_option maxRecDepth 100000 in
set_option maxHeartbeats 2000000 in
theorem print_any (n : Int) (w : World) (h0 : -9223372036854775808 ≤ n) (h1 : n ≤ 9223372036854775807) :
    Calls Tryz.prog 172 #[.int .i64 n] w fun e w' => e = .returned (.string (toS (prL n))) ∧ Below w.heap.size w w' := by
  have HZ := Lib.hid (fun W : World => belowZero_any n W h0 h1)
  obtain ⟨N, hN⟩ : ∃ N, N = n.natAbs := ⟨_, rfl⟩
  rw [← hN] at HZ
  have HLEN : Hid ((digL N).length ≤ 19) := Lib.hid (digL_len 18 N (by omega))
  have HP : Hid ((n < 0 → prL n = 45 :: digL N) ∧ (¬ n < 0 → prL n = digL N)) := Lib.hid ⟨fun h => by unfold prL; rw [if_pos h, hN], fun h => by unfold prL; rw [if_neg h, hN]⟩
  obtain ⟨P, hP⟩ : ∃ P, P = prL n := ⟨_, rfl⟩
  have HPB : Hid (Bytes P) := Lib.hid (by rw [hP]; exact prL_bytes n)
  rw [← hP] at HP ⊢
  have hNb : N ≤ 9223372036854775808 := by omega
  clear hN hP
  go_enter Tryz.func172, Tryz.ntmps172
  go_wp2_with (first
    | (refine wpList_alloc_blk rfl (some 3) rfl _ rfl _ zText ?_; intro g w1 hg hb hgr; have HB := Lib.hid ((Below.refl _ w).grown hgr (Nat.le_refl _) (by simp)); have HG := Lib.hid hg; clear hgr hg; try go_frame)
    | (go_at_call 190; refine (HZ.out _).mono ?_; rintro e w' ⟨rfl, rfl⟩))
  go_loopw [4, 5] (fun f r wr => ∃ (k m : Nat) (arr suf : List Int), f = .int .i64 (k : Int) ∧ r = .int .i64 (-(m : Int)) ∧ k + suf.length = 20 ∧ m ≤ N ∧ arr.length = 20 ∧ arr.drop k = suf ∧ Told N m suf ∧ Blk wr g 211 (ints .u8 arr) ∧ Below w.heap.size w wr) (fun f _ _ => (intOf f).toNat)
  case atStart => exact ⟨20, N, List.replicate 20 0, [], rfl, rfl, rfl, Nat.le_refl _, rfl, rfl, .inl ⟨rfl, rfl⟩, hb, HB.out⟩
  case round =>
    obtain ⟨k, m, arr, suf, rfl, rfl, hks, hmN, ha, hd, htold, hblk, hbel⟩ := hrel
    have HB2 := Lib.hid hbel
    have HT := Lib.hid htold
    have hlt := hblk.lt
    have hslen : suf.length ≤ 19 := Nat.le_trans htold.len HLEN.out
    clear htold hbel
    by_cases hdone : m = 0 ∧ suf ≠ []
    · obtain ⟨rfl, hne⟩ := hdone
      have hpos := List.length_pos_iff.2 hne
      have HE := Lib.hid (HT.out.done hne)
      obtain ⟨f, rfl⟩ : ∃ f, k = f + 1 := ⟨k - 1, by omega⟩
      have hk20 : ((f : Int) + 1 == 20) = false := by rw [beq_eq_false_iff_ne]; omega
      have HD := Lib.hid hd
      by_cases hn : n < 0
      · have HPE := Lib.hid (HP.out.1 hn)
        have HDR : Hid ((arr.set f 45).drop f = P) := Lib.hid (by rw [set_drop 45 (by omega) hd, HPE.out, HE.out])
        have hsl := fun (W : World) => run_sliceAt_from (P := Tryz.prog) 211 5 20 Tryz.underlying211 sByte g 0 f (by omega) .i64 W
        have HPL : Hid (P.length = 20 - f) := Lib.hid (by rw [← HDR.out, List.length_drop, List.length_set, ha])
        clear hne hd hpos
        go_wp2_with (first
          | (refine wpList_store_cell rfl none rfl _ (.tmp 30) (.tmp 29) rfl g f (.int .u8 45) rfl rfl rfl _ _ hblk (by rw [length_ints, ha]; omega) sByte ?_; intro w5 hb5 hgr; rw [set_ints] at hb5; have HB5 := Lib.hid (HB2.out.grown hgr HB2.out.size (by intro q hq; injection hq with hq; have := HG.out; omega)); clear hgr; have hcv := conv_str (some ⟨g, 0 + f, none⟩) P (20 - f) (20 - f) w5 HPL.out (lies_from hb5 HDR.out); rw [Nat.zero_add] at hcv; try go_frame))
        go_ret
        exact ⟨rfl, HB5.out⟩
      · have HPE := Lib.hid (HP.out.2 (by omega))
        have HPL : Hid (P.length = 20 - (f + 1)) := Lib.hid (by rw [HPE.out, HE.out]; omega)
        have hsl : ∀ W : World, _ := fun (W : World) => run_sliceAt_from (P := Tryz.prog) 211 5 20 Tryz.underlying211 sByte g 0 (f + 1) (by omega) .i64 W
        have ef : ((f + 1 : Nat) : Int) = (f : Int) + 1 := by omega
        simp only [ef, Nat.zero_add] at hsl
        have hcv := conv_str (some ⟨g, 0 + (f + 1), none⟩) P (19 - f) (19 - f) wr (by rw [HPL.out]; omega) (lies_from hblk (by rw [HD.out, HPE.out, HE.out]))
        rw [Nat.zero_add] at hcv
        clear ef hne hd hpos
        go_wp2
        go_ret
        exact ⟨rfl, HB2.out⟩
    · have HC : Hid (suf = [] ∨ m ≠ 0) := Lib.hid (by
        by_cases h : m = 0
        · exact .inl (Classical.byContradiction fun h2 => hdone ⟨h, h2⟩)
        · exact .inr h)
      have HST := Lib.hid (HT.out.step HC.out)
      obtain ⟨f, rfl⟩ : ∃ f, k = f + 1 := ⟨k - 1, by omega⟩
      have HSD : Hid ((arr.set f (48 + ((m % 10 : Nat) : Int))).drop f = (48 + ((m % 10 : Nat) : Int)) :: suf) := Lib.hid (set_drop _ (by omega) hd)
      have hm1 : (-(m : Int)).tmod 10 = -((m % 10 : Nat) : Int) := by rw [Int.neg_tmod, Int.tmod_eq_emod_of_nonneg (by omega)]; omega
      have hm2 : (-(m : Int)).tdiv 10 = -((m / 10 : Nat) : Int) := by rw [Int.neg_tdiv, Int.tdiv_eq_ediv_of_nonneg (by omega)]; omega
      have hm3 : (48 : Int) - -((m % 10 : Nat) : Int) = 48 + ((m % 10 : Nat) : Int) := by omega
      obtain ⟨r, hr⟩ : ∃ r : Nat, r = m % 10 := ⟨_, rfl⟩
      obtain ⟨q, hq⟩ : ∃ q : Nat, q = m / 10 := ⟨_, rfl⟩
      rw [← hr] at HST HSD hm1 hm3
      rw [← hq] at HST hm2
      have hr9 : r ≤ 9 := by omega
      have hqm : q ≤ m := by omega
      have HQ := Lib.hid hqm
      clear hr hq hd
      by_cases hs0 : suf = []
      · subst hs0
        have hf : f = 19 := by simp at hks; omega
        subst hf
        clear hdone
        go_wp2_with (first
          | (refine wpList_store_cell rfl none rfl _ (.tmp 23) (.tmp 22) rfl g 19 (.int .u8 (48 + (r : Int))) rfl rfl rfl _ _ hblk (by rw [length_ints, ha]; omega) sByte ?_; intro w5 hb5 hgr; rw [set_ints] at hb5; have HB5 := Lib.hid (HB2.out.grown hgr HB2.out.size (by intro q hq; injection hq with hq; have := HG.out; omega)); clear hgr; try go_frame))
        go_roundw
        case rel => exact ⟨19, q, arr.set 19 (48 + (r : Int)), [48 + (r : Int)], by go_num, by congr 1, by simp, by omega, by rw [List.length_set]; exact ha, HSD.out, HST.out, hb5, HB5.out⟩
        case measure => simp [intOf]
      · have hm0 : ((-(m : Int)) != 0) = true := by rw [bne_iff_ne]; have := HC.out.resolve_left hs0; omega
        have hk20 : ((f : Int) + 1 == 20) = false := by rw [beq_eq_false_iff_ne]; have := List.length_pos_iff.2 hs0; omega
        clear hdone hs0
        go_wp2_with (first
          | (refine wpList_store_cell rfl none rfl _ (.tmp 23) (.tmp 22) rfl g f (.int .u8 (48 + (r : Int))) rfl rfl rfl _ _ hblk (by rw [length_ints, ha]; omega) sByte ?_; intro w5 hb5 hgr; rw [set_ints] at hb5; have HB5 := Lib.hid (HB2.out.grown hgr HB2.out.size (by intro q hq; injection hq with hq; have := HG.out; omega)); clear hgr; try go_frame))
        go_roundw
        case rel => exact ⟨f, q, arr.set f (48 + (r : Int)), (48 + (r : Int)) :: suf, by go_num, by congr 1, by simp; omega, by omega, by rw [List.length_set]; exact ha, HSD.out, HST.out, hb5, HB5.out⟩
        case measure => simp [intOf]
end Go.Proofs.YtcjfealalokjaaaGreatDoor
