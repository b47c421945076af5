/- The reference's Put, All. -/
import Derived.Test.YtapalkipdmdceaaDoorScRef
import Derived.Laws.Cover1
namespace Go.Proofs.YtapalkipdmdceaaDoor
open Go Go.RowKit

theorem ins_end (x : ByteArray) (d : Bool) : insG x d [] = if d then [] else [x] := by rw [insG]
theorem sub_insG {x : ByteArray} {xs l r : List ByteArray} (h : xs ++ r = insG x false l) (ho : NmOk l) (hx : x.size ≤ 1000000000) : NmOk xs := fun z hz => by
  have : z ∈ insG x false l := by rw [← h]; exact List.mem_append_left _ hz
  rcases (mem_insG x l z).1 this with rfl | h2
  · exact hx
  · exact ho z h2
set_option maxRecDepth 100000 in
set_option maxHeartbeats 4000000 in
theorem refPut_any (v : Value) (ns : List ByteArray) (x : ByteArray) (w : World) (h : SliceN w v ns) (hn : ns.length ≤ 1000000) (hx : x.size ≤ 1000000000) :
    Calls Tryd.prog 32 #[v, .string x] w fun e w' => ∃ u, e = .returned u ∧ SliceN w' u (putS ns x) ∧ Below w.heap.size w w' := by
  have H0 := Lib.hid h
  have HHAS := Lib.hid (refHas_any v ns x w h (by omega))
  cases hh : hasN ns x with
  | true =>
    have HP : Hid (putS ns x = ns) := Lib.hid (by unfold putS; rw [if_pos hh])
    rw [hh] at HHAS
    rw [HP.out]
    clear h hh
    go_enter Tryd.func32, Tryd.ntmps32
    go_wp2_with (go_at_call 44; (with_reducible refine HHAS.out.mono ?_); rintro e w' ⟨rfl, rfl⟩)
    go_ret
    exact ⟨_, rfl, H0.out, Below.refl _ _⟩
  | false =>
    obtain ⟨T, hT⟩ : ∃ T, T = insG x false ns := ⟨_, rfl⟩
    have HP : Hid (putS ns x = T) := Lib.hid (by unfold putS; rw [if_neg (by rw [hh]; simp), hT])
    have HT := Lib.hid hT
    have HNOT : Hid (∀ y ∈ ns, y ≠ x) := Lib.hid (fun y hy e => hasN_not.1 hh (e ▸ hy))
    rw [hh] at HHAS
    rw [HP.out]
    obtain ⟨A, c, rfl, hc, hl, hok⟩ := h
    obtain ⟨n, hnn⟩ : ∃ n, n = ns.length := ⟨_, rfl⟩
    rw [← hnn] at hc hn HHAS ⊢
    have HN := Lib.hid hnn
    have HL := Lib.hid hl
    have HOK := Lib.hid hok
    have HTL : Hid (T.length = n + 1) := Lib.hid (by rw [hT, length_insG, hnn])
    obtain ⟨iS, hS0, hS1, hS2, hS3⟩ := info_parts infoStrR
    clear hh hT hl hok hnn H0 HP
    go_enter Tryd.func32, Tryd.ntmps32
    go_wp2_with (go_at_call 44; (with_reducible refine HHAS.out.mono ?_); rintro e w' ⟨rfl, rfl⟩)
    go_loopw [5, 6, 7] (fun ov dv i wr => ∃ (k q : Nat) (d : Bool) (xs : List ByteArray), k ≤ n ∧ i = .int .i64 (k : Int) ∧ dv = .bool d ∧ xs ++ insG x d (ns.drop k) = T ∧ (d = false → q ≤ k) ∧ q ≤ k + 1 ∧ wr.ownsRow w.heap.size 9 1 ov q (strV xs) ∧ Below w.heap.size w wr) (fun _ _ i _ => n - (intOf i).toNat)
    case atStart => exact ⟨0, 0, false, [], Nat.zero_le _, rfl, rfl, HT.out.symm, fun _ => Nat.le_refl _, by omega, World.ownsRow_nil _ _ _ _, Below.refl _ _⟩
    case round =>
      clear HHAS
      obtain ⟨k, q, d, xs, hk, rfl, rfl, hrun, hqd, hq, hown, hbel⟩ := hrel
      have HQD := Lib.hid hqd
      clear hqd
      have HRUN := Lib.hid hrun
      have HOW := Lib.hid hown
      have HBE := Lib.hid hbel
      have hs0 := hbel.size
      clear hrun hown hbel
      by_cases hlt : k < n
      · have hkl : k < ns.length := by rw [← HN.out]; exact hlt
        obtain ⟨b, o, rfl, hbl, hcell0⟩ := HL.out.at hkl
        have hcell := (HBE.out.cell (p := ⟨b, o + k, none⟩) hbl).trans hcell0
        have hi0 : (0 : Int) ≤ (k : Int) := by omega
        have hne := HNOT.out _ (List.getElem_mem hkl)
        have HST := Lib.hid (insG_drop x d hkl)
        obtain ⟨y, hy⟩ : ∃ z, z = ns[k] := ⟨_, rfl⟩
        rw [← hy] at hcell HST hne hcell0
        have HC0 := Lib.hid hcell0
        have HBL := Lib.hid hbl
        clear hcell0 hbl
        clear hy hkl
        cases hd : d with
        | true =>
          have HR2 : Hid ((xs ++ [y]) ++ insG x true (ns.drop (k + 1)) = T) := Lib.hid (by rw [← HRUN.out, HST.out, hd]; simp)
          subst hd
          clear hne HRUN HST
          go_wp2_with (at_builtin; refine wpList_append_own _ rfl _ _ 23 rfl w.heap.size 9 iS (.string ByteArray.empty) 1 16 Tryd.underlying23 hS0 hS1 hS2 hS3 rfl (by decide) _ q _ rfl (HOW.out.alloc _) ⟨wr.heap.size, 0, none⟩ 1 1 [.string y] rfl rfl (cell_litR _ _ _) (by simp [Value.oneCell']) (by unfold maxLen; omega) (by omega) (by simp; omega) ?_; intro v4 w4 hown4 hgrow4 hnil4)
          have HO5 : Hid (w4.ownsRow w.heap.size 9 1 v4 (q + 1) (strV (xs ++ [y]))) := Lib.hid (by rw [strV_append]; exact hown4)
          have HB5 := Lib.hid ((HBE.out.alloc hs0 (.cells #[.string y] 9)).grown hgrow4 (by simp; omega) (fun i hi => (HOW.out.lt i hi).1))
          clear hown4 hgrow4 hnil4
          go_roundw
          case rel => exact ⟨k + 1, q + 1, true, xs ++ [y], by omega, by go_num, rfl, HR2.out, (by intro h; cases h), by omega, HO5.out, HB5.out⟩
          case measure => simp [intOf]; omega
        | false =>
          subst hd
          cases hlx : ltS x y with
          | false =>
            have hb1 : Op.bytesLess y.toList x.toList = true := ltS_total (fun e => hne e.symm) hlx
            have HR2 : Hid ((xs ++ [y]) ++ insG x false (ns.drop (k + 1)) = T) := Lib.hid (by rw [← HRUN.out, HST.out, hlx]; simp)
            clear hne HRUN HST hlx
            go_wp2_with (at_builtin; refine wpList_append_own _ rfl _ _ 23 rfl w.heap.size 9 iS (.string ByteArray.empty) 1 16 Tryd.underlying23 hS0 hS1 hS2 hS3 rfl (by decide) _ q _ rfl (HOW.out.alloc _) ⟨wr.heap.size, 0, none⟩ 1 1 [.string y] rfl rfl (cell_litR _ _ _) (by simp [Value.oneCell']) (by unfold maxLen; omega) (by omega) (by simp; omega) ?_; intro v4 w4 hown4 hgrow4 hnil4)
            have HO5 : Hid (w4.ownsRow w.heap.size 9 1 v4 (q + 1) (strV (xs ++ [y]))) := Lib.hid (by rw [strV_append]; exact hown4)
            have HB5 := Lib.hid ((HBE.out.alloc hs0 (.cells #[.string y] 9)).grown hgrow4 (by simp; omega) (fun i hi => (HOW.out.lt i hi).1))
            clear hown4 hgrow4 hnil4
            go_roundw
            case rel => exact ⟨k + 1, q + 1, false, xs ++ [y], by omega, by go_num, rfl, HR2.out, (by intro _; have := HQD.out rfl; omega), by omega, HO5.out, HB5.out⟩
            case measure => simp [intOf]; omega
          | true =>
            have hb1 : Op.bytesLess y.toList x.toList = false := ltS_asymm hlx
            have hb2 : (y.toList == x.toList) = false := by rw [beq_eq_false_iff_ne]; exact fun e => hne (toList_inj e)
            have HR2 : Hid (((xs ++ [x]) ++ [y]) ++ insG x true (ns.drop (k + 1)) = T) := Lib.hid (by rw [← HRUN.out, HST.out, hlx]; simp)
            have HQ : Hid (q ≤ k) := Lib.hid (HQD.out rfl)
            clear hne HRUN HST hlx
            have tok1 : True := trivial
            go_wp2_with (first
              | (at_builtin; have _t := tok1; refine wpList_append_own _ rfl _ _ 23 rfl w.heap.size 9 iS (.string ByteArray.empty) 1 16 Tryd.underlying23 hS0 hS1 hS2 hS3 rfl (by decide) _ q _ rfl (HOW.out.alloc _) ⟨wr.heap.size, 0, none⟩ 1 1 [.string x] rfl rfl (cell_litR _ _ _) (by simp [Value.oneCell']) (by unfold maxLen; omega) (by omega) (by simp; omega) ?_; intro v4 w4 hown4 hgrow4 hnil4; clear tok1; have HO4 : Hid (w4.ownsRow w.heap.size 9 1 v4 (q + 1) (strV (xs ++ [x]))) := Lib.hid (by rw [strV_append]; exact hown4); have HB4 := Lib.hid ((HBE.out.alloc hs0 (.cells #[.string x] 9)).grown hgrow4 (by simp; omega) (fun i hi => (HOW.out.lt i hi).1)); have hs4 := HB4.out.size; have hcell4 := (HB4.out.cell (p := ⟨b, o + k, none⟩) HBL.out).trans HC0.out; clear hown4 hgrow4 hnil4)
              | (at_builtin; refine wpList_append_own _ rfl _ _ 23 rfl w.heap.size 9 iS (.string ByteArray.empty) 1 16 Tryd.underlying23 hS0 hS1 hS2 hS3 rfl (by decide) _ (q + 1) _ rfl (HO4.out.alloc _) ⟨w4.heap.size, 0, none⟩ 1 1 [.string y] rfl rfl (cell_litR _ _ _) (by simp [Value.oneCell']) (by unfold maxLen; omega) (by omega) (by simp; omega) ?_; intro v6 w6 hown6 hgrow6 hnil6))
            have HO5 : Hid (w6.ownsRow w.heap.size 9 1 v6 (q + 2) (strV ((xs ++ [x]) ++ [y]))) := Lib.hid (by rw [strV_append]; exact hown6)
            have HB5 := Lib.hid ((HB4.out.alloc hs4 (.cells #[.string y] 9)).grown hgrow6 (by simp; omega) (fun i hi => (HO4.out.lt i hi).1))
            clear hown6 hgrow6 hnil6
            have hq2 := HQ.out
            go_roundw
            case rel => exact ⟨k + 1, q + 2, true, (xs ++ [x]) ++ [y], by omega, by go_num, rfl, HR2.out, (by intro h; cases h), by omega, HO5.out, HB5.out⟩
            case measure => simp [intOf]; omega
      · obtain rfl : k = n := by omega
        have HDR : Hid (ns.drop k = []) := Lib.hid (by rw [HN.out]; exact List.drop_length)
        rw [HDR.out, ins_end] at HRUN
        clear hlt
        cases hd : d with
        | true =>
          subst hd
          have HR2 : Hid (xs = T) := Lib.hid (by rw [← HRUN.out]; simp)
          rw [HR2.out] at HOW
          have HOKT : Hid (NmOk T) := Lib.hid (sub_insG (r := []) (by rw [List.append_nil]; exact HT.out) HOK.out hx)
          go_wp2
          go_ret
          exact ⟨_, rfl, SliceN.own HOW.out HOKT.out, HBE.out⟩
        | false =>
          subst hd
          have HR2 : Hid (xs ++ [x] = T) := Lib.hid (by rw [← HRUN.out]; simp)
          have HOKT : Hid (NmOk T) := Lib.hid (sub_insG (r := []) (by rw [List.append_nil]; exact HT.out) HOK.out hx)
          go_wp2_with (at_builtin; refine wpList_append_own _ rfl _ _ 23 rfl w.heap.size 9 iS (.string ByteArray.empty) 1 16 Tryd.underlying23 hS0 hS1 hS2 hS3 rfl (by decide) _ q _ rfl (HOW.out.alloc _) ⟨wr.heap.size, 0, none⟩ 1 1 [.string x] rfl rfl (cell_litR _ _ _) (by simp [Value.oneCell']) (by unfold maxLen; omega) (by omega) (by simp; omega) ?_; intro v4 w4 hown4 hgrow4 hnil4)
          have HO5 : Hid (w4.ownsRow w.heap.size 9 1 v4 (q + 1) (strV T)) := Lib.hid (by rw [← HR2.out, strV_append]; exact hown4)
          have HB5 := Lib.hid ((HBE.out.alloc hs0 (.cells #[.string x] 9)).grown hgrow4 (by simp; omega) (fun i hi => (HOW.out.lt i hi).1))
          clear hown4 hgrow4 hnil4
          go_ret
          exact ⟨_, rfl, SliceN.own HO5.out HOKT.out, HB5.out⟩
set_option maxRecDepth 100000 in
set_option maxHeartbeats 2000000 in
theorem refAll_any (va vb : Value) (a b : List ByteArray) (w : World) (ha : SliceN w va a) (hb : SliceN w vb b) (hn : a.length ≤ 10000) (hn2 : b.length ≤ 10000) :
    Calls Tryd.prog 22 #[va, vb] w fun e w' => ∃ u, e = .returned u ∧ SliceN w' u (setS (a ++ b)) ∧ Below w.heap.size w w' := by
  obtain ⟨A, c, rfl, hc, hl, hok⟩ := ha
  obtain ⟨A2, c2, rfl, hc2, hl2, hok2⟩ := hb
  obtain ⟨n, hnn⟩ : ∃ n, n = a.length := ⟨_, rfl⟩
  obtain ⟨m, hmm⟩ : ∃ m, m = b.length := ⟨_, rfl⟩
  rw [← hnn] at hc hn ⊢
  rw [← hmm] at hc2 hn2 ⊢
  obtain ⟨T, hT⟩ : ∃ T, T = setS (a ++ b) := ⟨_, rfl⟩
  rw [← hT]
  have HN := Lib.hid hnn
  have HM := Lib.hid hmm
  have HL := Lib.hid hl
  have HL2 := Lib.hid hl2
  have HOK := Lib.hid hok
  have HOK2 := Lib.hid hok2
  have HT := Lib.hid hT
  clear hnn hmm hl hl2 hok hok2 hT
  go_enter Tryd.func22, Tryd.ntmps22
  go_wp2
  go_loopw [5, 6] (fun ov i wr => ∃ k : Nat, k ≤ n ∧ i = .int .i64 (k : Int) ∧ SliceN wr ov (setS (a.take k)) ∧ Below w.heap.size w wr) (fun _ i _ => n - (intOf i).toNat)
  case atStart => exact ⟨0, Nat.zero_le _, rfl, SliceN.nil _, Below.refl _ _⟩
  case round =>
    obtain ⟨k, hk, rfl, hsl, hbel⟩ := hrel
    have HSL := Lib.hid hsl
    have HBE := Lib.hid hbel
    clear hsl hbel
    by_cases hlt : k < n
    · have hkl : k < a.length := by rw [← HN.out]; exact hlt
      obtain ⟨b1, o1, rfl, _, hcell⟩ := (HL.out.below HBE.out).at hkl
      have hi0 : (0 : Int) ≤ (k : Int) := by omega
      have HTK : Hid (setS (a.take (k + 1)) = putS (setS (a.take k)) a[k]) := Lib.hid (by rw [List.take_succ_eq_append_getElem hkl, setS_snoc])
      have hle : (setS (a.take k)).length ≤ 1000000 := by
        have := length_setS_le (a.take k) []
        simp at this
        unfold setS; omega
      have HPUT := Lib.hid (refPut_any _ (setS (a.take k)) a[k] wr HSL.out hle (HOK.out _ (List.getElem_mem hkl)))
      obtain ⟨x, hx⟩ : ∃ x, x = a[k] := ⟨_, rfl⟩
      rw [← hx] at hcell HTK HPUT
      clear hx hkl hle
      go_wp2_with (go_at_call 32; (with_reducible refine HPUT.out.mono ?_); rintro e w2 ⟨u, rfl, hs2, hb2⟩; have HS2 := Lib.hid hs2; have HB2 := Lib.hid (HBE.out.trans (hb2.mono HBE.out.size)); clear hs2 hb2)
      go_roundw
      case rel => exact ⟨k + 1, by omega, by go_num, by rw [HTK.out]; exact HS2.out, HB2.out⟩
      case measure => simp [intOf]; omega
    · obtain rfl : k = n := by omega
      have HTA : Hid (setS (a.take k) = setS (a ++ b.take 0)) := Lib.hid (by rw [HN.out, List.take_length, List.take_zero, List.append_nil])
      rw [HTA.out] at HSL
      clear hlt HTA
      go_wp2
      go_loopw [5, 7] (fun ov i wr => ∃ j : Nat, j ≤ m ∧ i = .int .i64 (j : Int) ∧ SliceN wr ov (setS (a ++ b.take j)) ∧ Below w.heap.size w wr) (fun _ i _ => m - (intOf i).toNat)
      case atStart => exact ⟨0, Nat.zero_le _, rfl, HSL.out, HBE.out⟩
      case round =>
        clear HSL HBE
        obtain ⟨j, hj, rfl, hsl, hbel⟩ := hrel
        have HSL := Lib.hid hsl
        have HBE := Lib.hid hbel
        clear hsl hbel
        by_cases hlt : j < m
        · have hkl : j < b.length := by rw [← HM.out]; exact hlt
          obtain ⟨b1, o1, rfl, _, hcell⟩ := (HL2.out.below HBE.out).at hkl
          have hi0 : (0 : Int) ≤ (j : Int) := by omega
          have HTK : Hid (setS (a ++ b.take (j + 1)) = putS (setS (a ++ b.take j)) b[j]) := Lib.hid (by rw [List.take_succ_eq_append_getElem hkl, ← List.append_assoc, setS_snoc])
          have hle : (setS (a ++ b.take j)).length ≤ 1000000 := by
            have hn3 := HN.out
            refine Nat.le_trans (length_setS_le (a ++ b.take j) []) ?_
            rw [List.length_append, List.length_take, List.length_nil]
            omega
          have HPUT := Lib.hid (refPut_any _ (setS (a ++ b.take j)) b[j] wr HSL.out hle (HOK2.out _ (List.getElem_mem hkl)))
          obtain ⟨x, hx⟩ : ∃ x, x = b[j] := ⟨_, rfl⟩
          rw [← hx] at hcell HTK HPUT
          clear hx hkl hle
          go_wp2_with (go_at_call 32; (with_reducible refine HPUT.out.mono ?_); rintro e w2 ⟨u, rfl, hs2, hb2⟩; have HS2 := Lib.hid hs2; have HB2 := Lib.hid (HBE.out.trans (hb2.mono HBE.out.size)); clear hs2 hb2)
          go_roundw
          case rel => exact ⟨j + 1, by omega, by go_num, by rw [HTK.out]; exact HS2.out, HB2.out⟩
          case measure => simp [intOf]; omega
        · obtain rfl : j = m := by omega
          have HTB : Hid (setS (a ++ b.take j) = T) := Lib.hid (by rw [HM.out, List.take_length, HT.out])
          rw [HTB.out] at HSL
          clear hlt
          go_wp2
          go_ret
          exact ⟨_, rfl, HSL.out, HBE.out⟩
end Go.Proofs.YtapalkipdmdceaaDoor
