/- The program's Within, Less. -/
import Derived.Test.YtapalkipdmdceaaScAll
namespace Go.Proofs.Ytapalkipdmdceaa
open Go Go.RowKit

theorem enterIn : ∀ args w, (callFunc 33 args).run Try.prog w = .ok (.enter 33 args) w := enters_of Try.func33 (by kernel_rfl) rfl
set_option maxRecDepth 100000 in
set_option maxHeartbeats 1000000 in
theorem isOut_any (bx vb mb : Nat) (ns : List ByteArray) (x : ByteArray) (w : World) (h : SetAt w vb mb ns) (hc : w.cell? ⟨bx, 0, none⟩ = some (.func (.func 33) #[] #[.pointer (some ⟨vb, 0, none⟩)])) (hx : x.size ≤ 1000000000) :
    Calls Try.prog 27 #[.string x, .pointer (some ⟨bx, 0, none⟩)] w fun e w' => e = .returned (.bool (!hasN ns x)) ∧ Below w.heap.size w w' := by
  have HI := Lib.hid (isIn_any vb mb ns x w h hx)
  have eg := enterIn
  clear h
  go_enter Try.func27, Try.ntmps27
  go_wp2_with fail
  refine HI.out.mono ?_
  rintro e w1 ⟨rfl, hb⟩
  have HB := Lib.hid hb
  clear hb
  go_wp2
  go_ret
  exact ⟨rfl, HB.out⟩
theorem staysOut (w : World) (bx vb mb : Nat) (ns : List ByteArray) (h : SetAt w vb mb ns) (hb : bx < w.heap.size) (hc : w.cell? ⟨bx, 0, none⟩ = some (.func (.func 33) #[] #[.pointer (some ⟨vb, 0, none⟩)])) : StaysAsk 27 #[.pointer (some ⟨bx, 0, none⟩)] (fun x => !hasN ns x) w where
  enters := enters_of Try.func27 (by kernel_rfl) rfl
  call := fun W x hW hx => isOut_any bx vb mb ns x W (h.below hW) ((hW.cell (p := ⟨bx, 0, none⟩) hb).trans hc) hx
set_option maxRecDepth 100000 in
set_option maxHeartbeats 1000000 in
theorem less_any (va vb : Value) (a b : List ByteArray) (w : World) (ha : SliceN w va a) (hb : SliceN w vb b) (hn : a.length ≤ 1000000000) (hn2 : b.length ≤ 1000000000) :
    Calls Try.prog 16 #[va, vb] w fun e w' => ∃ v, e = .returned v ∧ SliceN w' v (setS (a.filter fun x => !hasN b x)) ∧ Below w.heap.size w w' := by
  have HA := Lib.hid ha
  have HM := Lib.hid (among_any vb b w hb hn2)
  obtain ⟨A1, c1, rfl, -⟩ := ha
  clear hb
  go_enter Try.func16, Try.ntmps16
  go_wp2_with fail
  refine HM.out.mono ?_
  rintro e w1 ⟨bx, mb, rfl, hvb, hset, hb1⟩
  obtain ⟨F, hF⟩ : ∃ F : Value, F = .func (.func 33) #[] #[.pointer (some ⟨bx, 0, none⟩)] := ⟨_, rfl⟩
  have hst : (store ⟨w1.heap.size, 0, none⟩ F).run Try.prog (w1.alloc (.cells #[.nilFunc] 35)) = .ok () ((w1.alloc (.cells #[.nilFunc] 35)).setCell ⟨w1.heap.size, 0, none⟩ F) := by
    subst hF
    rw [run_store _ _ _ _ _ rfl]
    simp
  obtain ⟨w2, hw2⟩ : ∃ W, W = (w1.alloc (.cells #[.nilFunc] 35)).setCell ⟨w1.heap.size, 0, none⟩ F := ⟨_, rfl⟩
  rw [← hw2] at hst
  have hb2 : Below w1.heap.size w1 w2 := by rw [hw2]; exact (belowAlloc w1 _).setCell (Nat.le_refl _) _
  have hc2 : w2.cell? ⟨w1.heap.size, 0, none⟩ = some F := by
    rw [hw2]
    have hbk : Blk (w1.alloc (.cells #[.nilFunc] 35)) w1.heap.size 35 [.nilFunc] := heap_alloc_new w1 _
    exact (hbk.setCell 0 F).cell 0
  have hs2 : w1.heap.size < w2.heap.size := by rw [hw2]; simp
  subst hF
  have HL := Lib.hid (liesLs1 w2 _ a 22 ((HA.out.below hb1).below hb2))
  have HS := Lib.hid (set_any 27 #[.pointer (some ⟨w1.heap.size, 0, none⟩)] (fun x => !hasN b x) w2.heap.size 1 1 [(.slice A1 a.length c1, a)] (w2.alloc (.cells #[.slice A1 a.length c1] 22)) (staysOut _ w1.heap.size bx mb b ((hset.below hb2).below (belowAlloc _ _)) (by simp; omega) (((belowAlloc w2 _).cell (p := ⟨w1.heap.size, 0, none⟩) hs2).trans hc2)) (by simp) HL.out rfl (by omega) (by omega) (by simpa [flatN] using hn))
  have HB2 := Lib.hid (hb1.trans (hb2.mono hb1.size))
  clear hb1 hset hb2 hc2 hs2 hw2
  go_wp2_with fail
  refine HS.out.mono ?_
  rintro e w3 ⟨v, rfl, hs, hb⟩
  have HSN := Lib.hid hs
  have HB := Lib.hid (HB2.out.trans (((belowAlloc w2 _).trans (hb.mono (belowAlloc w2 _).size)).mono HB2.out.size))
  clear hs hb
  go_wp2
  go_ret
  refine ⟨_, rfl, ?_, HB.out⟩
  have := HSN.out
  rwa [show ∀ u : Value, flatN [(u, a)] = a from fun u => by simp [flatN]] at this
set_option maxRecDepth 100000 in
set_option maxHeartbeats 1000000 in
theorem within_any (va vb : Value) (a b : List ByteArray) (w : World) (ha : SliceN w va a) (hb : SliceN w vb b) (hn : a.length ≤ 1000000000) (hn2 : b.length ≤ 1000000000) :
    Calls Try.prog 9 #[va, vb] w fun e w' => e = .returned (.bool (a.all (hasN b))) ∧ Below w.heap.size w w' := by
  obtain ⟨A, c, rfl, hc, hl, hok⟩ := ha
  obtain ⟨n, hnn⟩ : ∃ n, n = a.length := ⟨_, rfl⟩
  rw [← hnn] at hc hn ⊢
  have HN := Lib.hid hnn
  have HL := Lib.hid hl
  have HOK := Lib.hid hok
  have HM := Lib.hid (among_any vb b w hb hn2)
  have eg := enterIn
  obtain ⟨R, hR⟩ : ∃ R, R = a.all (hasN b) := ⟨_, rfl⟩
  rw [← hR]
  have HR := Lib.hid hR
  clear hb hnn hl hok hR
  go_enter Try.func9, Try.ntmps9
  go_wp2_with fail
  refine HM.out.mono ?_
  rintro e w1 ⟨bx, mb, rfl, hvb, hset, hb1⟩
  have HSET := Lib.hid hset
  have HB1 := Lib.hid hb1
  clear hset hb1 HM
  go_wp2
  go_loopw [12] (fun i wr => ∃ k : Nat, k ≤ n ∧ i = .int .i64 (k : Int) ∧ R = (a.drop k).all (hasN b) ∧ Below w1.heap.size w1 wr) (fun i _ => n - (intOf i).toNat)
  case atStart => exact ⟨0, Nat.zero_le _, rfl, HR.out, Below.refl _ _⟩
  case round =>
    obtain ⟨k, hk, rfl, hrun, hbel⟩ := hrel
    have HBE := Lib.hid hbel
    have HRUN := Lib.hid hrun
    clear hbel hrun
    by_cases hlt : k < n
    · have hkl : k < a.length := by rw [← HN.out]; exact hlt
      obtain ⟨b', o, rfl, _, hcell⟩ := ((HL.out.below HB1.out).below HBE.out).at hkl
      have hi0 : (0 : Int) ≤ (k : Int) := by omega
      have HD : Hid (a.drop k = a[k] :: a.drop (k + 1)) := Lib.hid (List.drop_eq_getElem_cons hkl)
      have HIN := Lib.hid (isIn_any bx mb b a[k] wr (HSET.out.below HBE.out) (HOK.out _ (List.getElem_mem hkl)))
      obtain ⟨x, hx⟩ : ∃ x, x = a[k] := ⟨_, rfl⟩
      rw [← hx] at hcell HD HIN
      clear hx hkl
      cases hp : hasN b x with
      | true =>
        rw [hp] at HIN
        have HST : Hid (R = (a.drop (k + 1)).all (hasN b)) := Lib.hid (by rw [HRUN.out, HD.out, List.all_cons, hp, Bool.true_and])
        clear hp
        go_wp2_with fail
        refine HIN.out.mono ?_
        rintro e w2 ⟨rfl, hb2⟩
        have HB2 := Lib.hid (HBE.out.trans (hb2.mono HBE.out.size))
        clear hb2
        go_wp2
        go_roundw
        case rel => exact ⟨k + 1, by omega, by go_num, HST.out, HB2.out⟩
        case measure => simp [intOf]; omega
      | false =>
        rw [hp] at HIN
        have HST : Hid (R = false) := Lib.hid (by rw [HRUN.out, HD.out, List.all_cons, hp, Bool.false_and])
        clear hp
        go_wp2_with fail
        refine HIN.out.mono ?_
        rintro e w2 ⟨rfl, hb2⟩
        have HB2 := Lib.hid (HBE.out.trans (hb2.mono HBE.out.size))
        clear hb2
        go_wp2
        go_ret
        exact ⟨ret_bool HST.out.symm, HB1.out.trans (HB2.out.mono HB1.out.size)⟩
    · obtain rfl : k = n := by omega
      have HST : Hid (R = true) := Lib.hid (by rw [HRUN.out, HN.out, List.drop_length]; rfl)
      clear hlt
      go_wp2
      go_ret
      exact ⟨ret_bool HST.out.symm, HB1.out.trans (HBE.out.mono HB1.out.size)⟩
end Go.Proofs.Ytapalkipdmdceaa
