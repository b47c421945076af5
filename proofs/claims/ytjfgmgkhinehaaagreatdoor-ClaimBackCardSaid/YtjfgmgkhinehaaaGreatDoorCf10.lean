/- ScRefName, HeldBlk, ScWithin: merged. -/
import Derived.Shelf.Abstract
import Derived.Test.YtjfgmgkhinehaaaGreatDoorCf09
set_option linter.all false
namespace Go.Proofs.YtjfgmgkhinehaaaGreatDoor
open Go Go.RowKit
set_option maxRecDepth 100000 in
set_option maxHeartbeats 4000000 in
theorem refName_any (s : ByteArray) (w : World) :
    Calls Tryz.prog 60 #[.string s] w fun e w' => e = .returned (.bool (nameB (strL s))) ∧ w = w' := by
  have HLEN := Lib.hid (length_strL s)
  by_cases h1 : s.size < 1
  · have h1I : (s.size : Int) < 1 := by omega
    have HR : Hid (nameB (strL s) = false) := Lib.hid (by unfold nameB; rw [decide_eq_false (by rw [length_strL]; omega), Bool.false_and])
    clear h1
    go_enter Tryz.func60, Tryz.ntmps60
    go_wp2
    go_ret
    exact ⟨ret_bool HR.out.symm, rfl⟩
  · have h1I : ¬ (s.size : Int) < 1 := by omega
    by_cases h2 : s.size ≤ 32
    · have h3 : ¬ (32 : Int) < (s.size : Int) := by omega
      have HN : Hid (nameB (strL s) = (strL s).all okB) := Lib.hid (by
        unfold nameB
        rw [decide_eq_true (by rw [length_strL]; omega), Bool.true_and])
      rw [HN.out]
      go_enter Tryz.func60, Tryz.ntmps60
      go_wp2
      go_loop [3] (fun v => ∃ k : Nat, k ≤ s.size ∧ v = .int .i64 (k : Int) ∧ (strL s).all okB = ((strL s).drop k).all okB) (fun v => s.size - (intOf v).toNat)
      case atStart => exact ⟨0, Nat.zero_le _, rfl, rfl⟩
      case round =>
        obtain ⟨k, hk, rfl, hrun⟩ := hrel
        have HRUN := Lib.hid hrun
        clear hrun h1 h1I h3 HN
        by_cases hlt : k < s.size
        · have hd := drop_strN s k hlt
          have hi0 : (0 : Int) ≤ (k : Int) := by omega
          have hcb := s[k].toNat_lt
          have HSTEP : Hid ((strL s).all okB = (okB (s[k].toNat : Int) && ((strL s).drop (k + 1)).all okB)) := Lib.hid (by rw [HRUN.out, hd, List.all_cons])
          clear hd
          have key : (((97 ≤ (s[k].toNat : Int) ∧ (s[k].toNat : Int) ≤ 122) ∨ (48 ≤ (s[k].toNat : Int) ∧ (s[k].toNat : Int) ≤ 57) ∨ (s[k].toNat : Int) = 46 ∨ (s[k].toNat : Int) = 58 ∨ (s[k].toNat : Int) = 95 ∨ (s[k].toNat : Int) = 45)) ∨ ((¬ 97 ≤ (s[k].toNat : Int) ∨ ¬ (s[k].toNat : Int) ≤ 122) ∧ (¬ 48 ≤ (s[k].toNat : Int) ∨ ¬ (s[k].toNat : Int) ≤ 57) ∧ (s[k].toNat : Int) ≠ 46 ∧ (s[k].toNat : Int) ≠ 58 ∧ (s[k].toNat : Int) ≠ 95 ∧ (s[k].toNat : Int) ≠ 45) := by omega
          rcases key with hyes | ⟨k1, k2, e1, e2, e3, e4⟩
          · have HR : Hid ((strL s).all okB = ((strL s).drop (k + 1)).all okB) := Lib.hid (by rw [HSTEP.out]; unfold okB; rw [decide_eq_true hyes, Bool.true_and])
            clear HSTEP
            rcases hyes with ⟨a, b⟩ | ⟨a, b⟩ | a | a | a | a
            · go_wp2
              go_round
              case rel => exact ⟨k + 1, by omega, by go_num, HR.out⟩
              case measure => simp [intOf]; omega
            · have a1 : ¬ 97 ≤ (s[k].toNat : Int) := by omega
              go_wp2
              go_round
              case rel => exact ⟨k + 1, by omega, by go_num, HR.out⟩
              case measure => simp [intOf]; omega
            · have q : ((s[k].toNat : Int) == 46) = true := by simp [a]
              have qn : ((s[k].toNat : Int) != 46) = false := by rw [bne, q]; rfl
              have a1 : ¬ 97 ≤ (s[k].toNat : Int) := by omega
              have a2 : ¬ 48 ≤ (s[k].toNat : Int) := by omega
              clear a
              go_wp2
              go_round
              case rel => exact ⟨k + 1, by omega, by go_num, HR.out⟩
              case measure => simp [intOf]; omega
            · have q : ((s[k].toNat : Int) == 58) = true := by simp [a]
              have qn : ((s[k].toNat : Int) != 58) = false := by rw [bne, q]; rfl
              have q1 : ((s[k].toNat : Int) == 46) = false := by simp [a]
              have q1n : ((s[k].toNat : Int) != 46) = true := by rw [bne, q1]; rfl
              have a1 : ¬ 97 ≤ (s[k].toNat : Int) := by omega
              have a2 : 48 ≤ (s[k].toNat : Int) := by omega
              have a3 : ¬ (s[k].toNat : Int) ≤ 57 := by omega
              clear a
              go_wp2
              go_round
              case rel => exact ⟨k + 1, by omega, by go_num, HR.out⟩
              case measure => simp [intOf]; omega
            · have q : ((s[k].toNat : Int) == 95) = true := by simp [a]
              have qn : ((s[k].toNat : Int) != 95) = false := by rw [bne, q]; rfl
              have q1 : ((s[k].toNat : Int) == 46) = false := by simp [a]
              have q1n : ((s[k].toNat : Int) != 46) = true := by rw [bne, q1]; rfl
              have q2 : ((s[k].toNat : Int) == 58) = false := by simp [a]
              have q2n : ((s[k].toNat : Int) != 58) = true := by rw [bne, q2]; rfl
              have a1 : ¬ 97 ≤ (s[k].toNat : Int) := by omega
              have a2 : 48 ≤ (s[k].toNat : Int) := by omega
              have a3 : ¬ (s[k].toNat : Int) ≤ 57 := by omega
              clear a
              go_wp2
              go_round
              case rel => exact ⟨k + 1, by omega, by go_num, HR.out⟩
              case measure => simp [intOf]; omega
            · have q : ((s[k].toNat : Int) == 45) = true := by simp [a]
              have qn : ((s[k].toNat : Int) != 45) = false := by rw [bne, q]; rfl
              have q1 : ((s[k].toNat : Int) == 46) = false := by simp [a]
              have q1n : ((s[k].toNat : Int) != 46) = true := by rw [bne, q1]; rfl
              have q2 : ((s[k].toNat : Int) == 58) = false := by simp [a]
              have q2n : ((s[k].toNat : Int) != 58) = true := by rw [bne, q2]; rfl
              have q3 : ((s[k].toNat : Int) == 95) = false := by simp [a]
              have q3n : ((s[k].toNat : Int) != 95) = true := by rw [bne, q3]; rfl
              have a1 : ¬ 97 ≤ (s[k].toNat : Int) := by omega
              have a2 : ¬ 48 ≤ (s[k].toNat : Int) := by omega
              clear a
              go_wp2
              go_round
              case rel => exact ⟨k + 1, by omega, by go_num, HR.out⟩
              case measure => simp [intOf]; omega
          · have HR : Hid ((strL s).all okB = false) := Lib.hid (by
              rw [HSTEP.out]; unfold okB; rw [decide_eq_false (by omega), Bool.false_and])
            have q1 : ((s[k].toNat : Int) == 46) = false := by simp [e1]
            have q1n : ((s[k].toNat : Int) != 46) = true := by rw [bne, q1]; rfl
            have q2 : ((s[k].toNat : Int) == 58) = false := by simp [e2]
            have q2n : ((s[k].toNat : Int) != 58) = true := by rw [bne, q2]; rfl
            have q3 : ((s[k].toNat : Int) == 95) = false := by simp [e3]
            have q3n : ((s[k].toNat : Int) != 95) = true := by rw [bne, q3]; rfl
            have q4 : ((s[k].toNat : Int) == 45) = false := by simp [e4]
            have q4n : ((s[k].toNat : Int) != 45) = true := by rw [bne, q4]; rfl
            clear HSTEP e1 e2 e3 e4
            rcases k1 with k1 | k1
            · rcases k2 with k2 | k2
              · go_wp2
                go_ret
                exact ⟨ret_bool HR.out.symm, rfl⟩
              · have k3 : 48 ≤ (s[k].toNat : Int) := by omega
                go_wp2
                go_ret
                exact ⟨ret_bool HR.out.symm, rfl⟩
            · have k3 : 97 ≤ (s[k].toNat : Int) := by omega
              have k4 : 48 ≤ (s[k].toNat : Int) := by omega
              have k5 : ¬ (s[k].toNat : Int) ≤ 57 := by omega
              clear k2
              go_wp2
              go_ret
              exact ⟨ret_bool HR.out.symm, rfl⟩
        · obtain rfl : k = s.size := by omega
          have HR : Hid ((strL s).all okB = true) := Lib.hid (by rw [HRUN.out, List.drop_of_length_le (by rw [HLEN.out]; exact Nat.le_refl _)]; rfl)
          clear hlt
          go_wp2
          go_ret
          exact ⟨ret_bool HR.out.symm, rfl⟩
    · have h3 : (32 : Int) < (s.size : Int) := by omega
      have HR : Hid (nameB (strL s) = false) := Lib.hid (by unfold nameB; rw [decide_eq_false (by rw [length_strL]; omega), Bool.false_and])
      clear h1 h2
      go_enter Tryz.func60, Tryz.ntmps60
      go_wp2
      go_ret
      exact ⟨ret_bool HR.out.symm, rfl⟩
end Go.Proofs.YtjfgmgkhinehaaaGreatDoor
namespace Go.Proofs.YtjfgmgkhinehaaaGreatDoor
open Go Go.RowKit
section
variable {P : Program} {w : World} {o : Oper} {a : Act} {K : Act → World → Prop} {Q : Exit → Act → World → Prop}
theorem wp_alloc_blk (ty : TypeId) (z : List Value) (ho : o.op = .alloc ty) (hz : (P.info? ty).map (·.zero) = some (some (.agg z.toArray)))
    (h : ∀ g w', w.heap.size ≤ g → Blk w' g ty z → w.grownBy w' none → K (a.put o.dst (.pointer (some ⟨g, 0, none⟩))) w') : o.wp P a w K Q := by
  have hzero : (zeroValue ty).run P w = .ok (.agg z.toArray) w := by
    cases hq : P.info? ty with
    | none => simp [hq] at hz
    | some i =>
      simp [hq] at hz
      simp [zeroValue, typeInfo, hq, hz]
  unfold Oper.wp execOp
  simp only [ho, Instr.alloc, Sem.run_bind, hzero, Result.andThen_ok]
  exact h w.heap.size (w.alloc (.cells z.toArray ty)) (Nat.le_refl _) (heap_alloc_new w _) (World.grownBy_alloc w _ none)
theorem wp_store_row (ty : TypeId) (x y : Operand) (ho : o.op = .store ty x y) (g off : Nat) (ds : List Value) (hx : a.eval x = .pointer (some ⟨g, off, none⟩)) (hy : a.eval y = .agg ds.toArray)
    (t : TypeId) (cs : List Value) (hb : Blk w g t cs) (hl : off + ds.length ≤ cs.length) (hi : (P.info? ty).map (·.size) = some ds.length) (h1 : ∀ v ∈ ds, v.oneCell' = true)
    (h : ∀ w', Blk w' g t (splice cs off ds) → w.grownBy w' (some g) → K (a.put o.dst undef) w') : o.wp P a w K Q :=
  wp_store_mid ty x y ho g off ds.toArray hx hy (hb.there off _ (by simpa using hl)) (by simpa using hi) (all_one h1)
    (by have := setCells_heap g t ds off cs w hb hl; exact h _ this.1 this.2)
theorem wp_store_one (ty : TypeId) (x y : Operand) (ho : o.op = .store ty x y) (g off : Nat) (v : Value) (hx : a.eval x = .pointer (some ⟨g, off, none⟩)) (hy : a.eval y = v) (hv : v.oneCell' = true)
    (t : TypeId) (cs : List Value) (hb : Blk w g t cs) (hl : off < cs.length) (hi : (P.info? ty).map (·.size) = some 1)
    (h : ∀ w', Blk w' g t (cs.set off v) → w.grownBy w' (some g) → K (a.put o.dst undef) w') : o.wp P a w K Q := by
  have hc : w.cell? ⟨g, off, none⟩ = some cs[off] := (hb.cell off).trans (List.getElem?_eq_getElem hl)
  have hf := hb.frozen off
  have hcv : v.cells = #[v] := by cases v <;> first | rfl | cases hv
  have hst : (storeVar ty ⟨g, off, none⟩ v).run P w = .ok () (w.setCell ⟨g, off, none⟩ v) := by
    cases hq : P.info? ty with
    | none => simp [hq] at hi
    | some i =>
      have hs : i.size = 1 := by simpa [hq] using hi
      have hadd : (⟨g, off, none⟩ : Addr).add 0 = ⟨g, off, none⟩ := by unfold Addr.add; split <;> simp_all
      have hst' : (store ⟨g, off, none⟩ v .plain).run P w = .ok () (w.setCell ⟨g, off, none⟩ v) := by
        rw [run_store P w _ v _ hv]
        simp [hc, hf]
      simp [storeVar, sizeOf, typeInfo, hq, hcv, hs, storeCells, hadd, hst']
  unfold Oper.wp execOp
  simp only [ho, hx, hy, Instr.storeAt, Instr.sureAddr, Sem.run_bind, Sem.run_pure, Result.andThen_ok, hst]
  refine h _ ?_ ⟨rfl, rfl, rfl, by simp, fun k _ hk => heap_setCell_other w ⟨g, off, none⟩ k v (fun e => hk (by simp [e]))⟩
  have := heap_setCell_same w g off cs.toArray t v hb
  unfold Blk
  rw [this]; simp
end
end Go.Proofs.YtjfgmgkhinehaaaGreatDoor
namespace Go.Proofs.YtjfgmgkhinehaaaGreatDoor
open Go Go.RowKit Go.Shelf
theorem enterIn : ∀ args w, (callFunc 155 args).run Tryz.prog w = .ok (.enter 155 args) w := enters_of Tryz.func155 (by kernel_rfl) rfl
set_option maxRecDepth 100000 in
set_option maxHeartbeats 1000000 in
theorem within_lies (A : Option Addr) (c : Nat) (vb : Value) (a b : List ByteArray) (w : World) (hl : LiesN w A a) (hok : NmOk a) (hb : SliceN w vb b) (hn : a.length ≤ 1000000000) (hn2 : b.length ≤ 1000000000) :
    Calls Tryz.prog 93 #[.slice A a.length c, vb] w fun e w' => e = .returned (.bool (a.all (hasN b))) ∧ Below w.heap.size w w' := by
  obtain ⟨n, hnn⟩ : ∃ n, n = a.length := ⟨_, rfl⟩
  rw [← hnn] at hn ⊢
  have HN := Lib.hid hnn
  have HL := Lib.hid hl
  have HOK := Lib.hid hok
  have HM := Lib.hid (among_any vb b w hb hn2)
  have eg := enterIn
  obtain ⟨R, hR⟩ : ∃ R, R = a.all (hasN b) := ⟨_, rfl⟩
  rw [← hR]
  have HR := Lib.hid hR
  clear hb hnn hl hok hR
  go_enter Tryz.func93, Tryz.ntmps93
  go_wp2_with fail
  refine HM.out.mono ?_
  rintro e w1 ⟨bx, mb, rfl, hvb, hset, hb1⟩
  have HSET := Lib.hid hset
  have HB1 := Lib.hid hb1
  clear hset hb1 HM
  go_wp2
  go_loopw [12] (fun i wr => ∃ k : Nat, k ≤ n ∧ i = .int .i64 (k : Int) ∧ R = (a.drop k).all (hasN b) ∧ Below w1.heap.size w1 wr) (fun i _ => n - (intOf i).toNat)
  case atStart => exact ⟨0, Nat.zero_le _, rfl, HR.out, Below.refl _ _⟩
  case round =>
    obtain ⟨k, hk, rfl, hrun, hbel⟩ := hrel
    have HBE := Lib.hid hbel
    have HRUN := Lib.hid hrun
    clear hbel hrun
    by_cases hlt : k < n
    · have hkl : k < a.length := by rw [← HN.out]; exact hlt
      obtain ⟨b', o, rfl, _, hcell⟩ := ((HL.out.below HB1.out).below HBE.out).at hkl
      have hi0 : (0 : Int) ≤ (k : Int) := by omega
      have HD : Hid (a.drop k = a[k] :: a.drop (k + 1)) := Lib.hid (List.drop_eq_getElem_cons hkl)
      have HIN := Lib.hid (isIn_any bx mb b a[k] wr (HSET.out.below HBE.out) (HOK.out _ (List.getElem_mem hkl)))
      obtain ⟨x, hx⟩ : ∃ x, x = a[k] := ⟨_, rfl⟩
      rw [← hx] at hcell HD HIN
      clear hx hkl
      cases hp : hasN b x with
      | true =>
        rw [hp] at HIN
        have HST : Hid (R = (a.drop (k + 1)).all (hasN b)) := Lib.hid (by rw [HRUN.out, HD.out, List.all_cons, hp, Bool.true_and])
        clear hp
        go_wp2_with fail
        refine HIN.out.mono ?_
        rintro e w2 ⟨rfl, hb2⟩
        have HB2 := Lib.hid (HBE.out.trans (hb2.mono HBE.out.size))
        clear hb2
        go_wp2
        go_roundw
        case rel => exact ⟨k + 1, by omega, by go_num, HST.out, HB2.out⟩
        case measure => simp [intOf]; omega
      | false =>
        rw [hp] at HIN
        have HST : Hid (R = false) := Lib.hid (by rw [HRUN.out, HD.out, List.all_cons, hp, Bool.false_and])
        clear hp
        go_wp2_with fail
        refine HIN.out.mono ?_
        rintro e w2 ⟨rfl, hb2⟩
        have HB2 := Lib.hid (HBE.out.trans (hb2.mono HBE.out.size))
        clear hb2
        go_wp2
        go_ret
        exact ⟨ret_bool HST.out.symm, HB1.out.trans (HB2.out.mono HB1.out.size)⟩
    · obtain rfl : k = n := by omega
      have HST : Hid (R = true) := Lib.hid (by rw [HRUN.out, HN.out, List.drop_length]; rfl)
      clear hlt
      go_wp2
      go_ret
      exact ⟨ret_bool HST.out.symm, HB1.out.trans (HBE.out.mono HB1.out.size)⟩
end Go.Proofs.YtjfgmgkhinehaaaGreatDoor
