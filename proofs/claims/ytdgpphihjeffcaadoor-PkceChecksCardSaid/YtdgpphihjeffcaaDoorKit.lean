/- A kit of our own: blocks of memory known whole ('Blk'), and the operations on whole arrays by laws whose world behind is a letter. It holds for every program. -/
import Derived.WalkKit
import Derived.Below
import Derived.Laws.Rows
import Derived.Laws.Tables
import Derived.Laws.OwnMore
import Derived.Laws.CopyOwn
import Derived.Deep.Draws
import Derived.Deep.MidRow
import Derived.Deep.WholeRow
import Derived.Maps.AppendAt
import Derived.Lib.Hide
namespace Go.Proofs.YtdgpphihjeffcaaDoor
open Go Go.RowKit

/-- Block g is just the cells cs of element type t, none frozen. -/
def Blk (w : World) (g : Nat) (t : TypeId) (cs : List Value) : Prop := w.heap[g]? = some (.cells cs.toArray t (0, 0))

section
variable {w w' : World} {g : Nat} {t : TypeId} {cs : List Value}
theorem Blk.lt (h : Blk w g t cs) : g < w.heap.size := by
  rcases Nat.lt_or_ge g w.heap.size with hlt | hge
  · exact hlt
  · unfold Blk at h; rw [Array.getElem?_eq_none hge] at h; cases h
theorem Blk.cell (h : Blk w g t cs) (i : Nat) : w.cell? ⟨g, i, none⟩ = cs[i]? := by
  have := cell_of_row w g i cs.toArray t (0, 0) h
  simpa using this
theorem Blk.frozen (h : Blk w g t cs) (i : Nat) : w.frozen? ⟨g, i, none⟩ = false := by
  unfold Blk at h
  simp [World.frozen?, h]
theorem Blk.drew (h : Blk w g t cs) : Blk w.drew g t cs := h
theorem Blk.drewN (h : Blk w g t cs) (n : Nat) : Blk (w.drewN n) g t cs := h
theorem Blk.below {B : Nat} (h : Blk w g t cs) (hb : Below B w w') (hg : g < B) : Blk w' g t cs := (hb.block g hg).trans h
theorem Blk.grown {row : Option Nat} (h : Blk w g t cs) (hb : w.grownBy w' row) (hg : some g ≠ row) : Blk w' g t cs := (hb.block g h.lt hg).trans h
theorem Blk.grownN (h : Blk w g t cs) (hb : w.grownBy w' none) : Blk w' g t cs := h.grown hb (by simp)
theorem Blk.range (h : Blk w g t cs) (o : Nat) (ds : List Value) (hd : ∀ j v, ds[j]? = some v → cs[o + j]? = some v) : w.rangeAt g o ds := fun j v hv => by
  rw [h.cell]; exact hd j v hv
theorem Blk.there (h : Blk w g t cs) (o n : Nat) (hn : o + n ≤ cs.length) : w.there g o n := fun j hj => by
  refine ⟨?_, h.frozen _⟩
  rw [h.cell, List.getElem?_eq_getElem (by omega)]; rfl
theorem Blk.inj {t' : TypeId} {ds : List Value} (h : Blk w g t cs) (h' : Blk w g t' ds) : cs = ds := by
  unfold Blk at h h'; rw [h] at h'
  injection h' with h'; injection h' with h1 _ _
  simpa using h1
end

theorem below_drewN {B : Nat} {a w : World} (h : Below B a w) (n : Nat) : Below B a (w.drewN n) := ⟨h.os, h.tape, h.output, h.size, h.block⟩
theorem grownBy_refl (w : World) (row : Option Nat) : w.grownBy w row := ⟨rfl, rfl, rfl, Nat.le_refl _, fun _ _ _ => rfl⟩
theorem grownBy_of_below {a w : World} (h : Below a.heap.size a w) (row : Option Nat) : a.grownBy w row := ⟨h.os, h.tape, h.output, h.size, fun i hi _ => h.block i hi⟩
theorem grownBy_drewN {a w : World} {row : Option Nat} (h : a.grownBy w row) (n : Nat) : a.grownBy (w.drewN n) row := ⟨h.os, h.tape, h.output, h.size, h.block⟩

theorem Blk.setCell {w : World} {g : Nat} {t : TypeId} {cs : List Value} (h : Blk w g t cs) (i : Nat) (v : Value) : Blk (w.setCell ⟨g, i, none⟩ v) g t (cs.set i v) := by
  have := heap_setCell_same w g i cs.toArray t v h
  unfold Blk
  rw [this]; simp
theorem grownBy_setCell (w : World) (g i : Nat) (v : Value) : w.grownBy (w.setCell ⟨g, i, none⟩ v) (some g) :=
  ⟨rfl, rfl, rfl, by simp, fun k _ hk => heap_setCell_other w ⟨g, i, none⟩ k v (fun e => hk (by simp [e]))⟩
theorem grownBy_drew {a w : World} {row : Option Nat} (h : a.grownBy w row) : a.grownBy w.drew row := ⟨h.os, h.tape, h.output, h.size, h.block⟩

/-- The values of a list of numbers. -/
def ints (k : IntKind) (l : List Int) : List Value := l.map (Value.int k)
@[simp] theorem length_ints (k : IntKind) (l : List Int) : (ints k l).length = l.length := by simp [ints]
theorem get_ints (k : IntKind) (l : List Int) (i : Nat) (h : i < l.length) : (ints k l)[i]? = some (.int k (l.getD i 0)) := by
  simp [ints, List.getElem?_eq_getElem h]
theorem one_ints (k : IntKind) (l : List Int) : ∀ v ∈ ints k l, v.oneCell' = true := by
  intro v hv; obtain ⟨n, _, rfl⟩ := List.mem_map.1 hv; rfl
theorem set_ints (k : IntKind) (l : List Int) (i : Nat) (x : Int) : (ints k l).set i (.int k x) = ints k (l.set i x) := by simp [ints, List.map_set]
theorem ints_append (k : IntKind) (l m : List Int) : ints k (l ++ m) = ints k l ++ ints k m := by simp [ints]
theorem all_one {cs : List Value} (h : ∀ v ∈ cs, v.oneCell' = true) : cs.toArray.all (·.oneCell') = true := all_oneCell_toArray h

section
variable {P : Program} {w : World} {ops : Array Oper} {rest : List Oper} {o : Oper} {a : Act} {Q : Exit → Act → World → Prop}

/-- A new variable of a type whose zero value is an array or struct. -/
theorem wpList_alloc_blk (hgd : o.guard = none) (d : Option Tmp) (hdst : o.dst = d) (ty : TypeId) (ho : o.op = .alloc ty) (z : List Value) (hz : (P.info? ty).map (·.zero) = some (some (.agg z.toArray)))
    (h : ∀ g w', w.heap.size ≤ g → Blk w' g ty z → w.grownBy w' none → wpList P ops Q rest (a.put d (.pointer (some ⟨g, 0, none⟩))) w') : wpList P ops Q (o :: rest) a w := by
  subst hdst
  refine wpList_plain hgd fun K hK => ?_
  have hzero : (zeroValue ty).run P w = .ok (.agg z.toArray) w := by
    cases hq : P.info? ty with
    | none => simp [hq] at hz
    | some i =>
      simp [hq] at hz
      simp [zeroValue, typeInfo, hq, hz]
  unfold Oper.wp execOp
  simp only [ho, Instr.alloc, Sem.run_bind, hzero, Result.andThen_ok]
  exact hK _ _ (h w.heap.size (w.alloc (.cells z.toArray ty)) (Nat.le_refl _) (heap_alloc_new w _) (World.grownBy_alloc w _ none))

/-- A new variable that takes an array or struct. -/
theorem wpList_box_blk (hgd : o.guard = none) (d : Option Tmp) (hdst : o.dst = d) (ty : TypeId) (x : Operand) (ho : o.op = .box ty x) (z : List Value) (hx : a.eval x = .agg z.toArray)
    (h : ∀ g w', w.heap.size ≤ g → Blk w' g ty z → w.grownBy w' none → wpList P ops Q rest (a.put d (.pointer (some ⟨g, 0, none⟩))) w') : wpList P ops Q (o :: rest) a w := by
  subst hdst
  refine wpList_plain hgd fun K hK => ?_
  unfold Oper.wp execOp
  simp only [ho, hx, Instr.box, Sem.run_bind]
  exact hK _ _ (h w.heap.size (w.alloc (.cells z.toArray ty)) (Nat.le_refl _) (heap_alloc_new w _) (World.grownBy_alloc w _ none))

/-- A whole array or struct, or a part of a struct that is an array, is read. -/
theorem wpList_load_blk (hgd : o.guard = none) (d : Option Tmp) (hdst : o.dst = d) (ty : TypeId) (x : Operand) (ho : o.op = .load ty x)
    (g off : Nat) (hx : a.eval x = .pointer (some ⟨g, off, none⟩)) (t : TypeId) (cs : List Value) (hb : Blk w g t cs) (ds : List Value)
    (hds : ∀ j v, ds[j]? = some v → cs[off + j]? = some v) (de : TypeDesc)
    (hu : P.underlying ty = some de) (hd : de.isRow = true) (hi : (P.info? ty).map (·.size) = some ds.length)
    (h : wpList P ops Q rest (a.put d (.agg ds.toArray)) w) : wpList P ops Q (o :: rest) a w := by
  subst hdst
  exact wpList_load_mid hgd ty x ho g off hx ds de (hb.range off ds hds) hu hd hi h

/-- One cell of a block is read. -/
theorem wpList_load_cell (hgd : o.guard = none) (d : Option Tmp) (hdst : o.dst = d) (ty : TypeId) (x : Operand) (ho : o.op = .load ty x)
    (g off : Nat) (hx : a.eval x = .pointer (some ⟨g, off, none⟩)) (t : TypeId) (cs : List Value) (hb : Blk w g t cs) (v : Value) (hv : cs[off]? = some v) (k : IntKind)
    (hu : P.underlying ty = some (.int k))
    (h : wpList P ops Q rest (a.put d v) w) : wpList P ops Q (o :: rest) a w := by
  subst hdst
  refine wpList_plain hgd fun K hK => ?_
  have hc : w.cell? ⟨g, off, none⟩ = some v := (hb.cell off).trans hv
  have hagg : (isAgg ty).run P w = .ok false w := by
    unfold isAgg
    rw [Sem.run_bind, run_underlying hu w]
    rfl
  unfold Oper.wp execOp
  simp only [ho, hx, Instr.loadAt, Instr.sureAddr, Sem.run_bind, Sem.run_pure, Result.andThen_ok, loadVar, hagg]
  simp only [Bool.false_eq_true, if_false]
  have hl : (load ⟨g, off, none⟩).run P w = .ok v w := by simp [go_sem, hc]
  rw [hl]
  exact hK _ _ h

theorem setCells_heap (g : Nat) (t : TypeId) : ∀ (vs : List Value) (off : Nat) (cs : List Value) (w : World), Blk w g t cs → off + vs.length ≤ cs.length →
    Blk (w.setCells g off vs) g t (splice cs off vs) ∧ w.grownBy (w.setCells g off vs) (some g)
  | [], off, cs, w, hb, _ => by
    refine ⟨?_, grownBy_refl _ _⟩
    simpa [World.setCells, splice] using hb
  | v :: r, off, cs, w, hb, hl => by
    simp only [List.length_cons] at hl
    have hb1 : Blk (w.setCell ⟨g, off, none⟩ v) g t (cs.set off v) := by
      have := heap_setCell_same w g off cs.toArray t v hb
      unfold Blk
      rw [this]; simp
    have hg1 : w.grownBy (w.setCell ⟨g, off, none⟩ v) (some g) := ⟨rfl, rfl, rfl, by simp, fun k _ hk => heap_setCell_other w ⟨g, off, none⟩ k v (fun e => hk (by simp [e]))⟩
    obtain ⟨h1, h2⟩ := setCells_heap g t r (off + 1) (cs.set off v) _ hb1 (by simp; omega)
    refine ⟨?_, hg1.trans h2⟩
    rw [World.setCells]
    have e : splice (cs.set off v) (off + 1) r = splice cs off (v :: r) := by
      apply List.ext_getElem?
      intro i
      simp only [splice, List.getElem?_append, List.length_take, List.length_set, List.getElem?_take, List.getElem?_drop, List.getElem?_set, List.length_cons]
      by_cases h1 : i < off
      · simp [h1, show i < min (off + 1) cs.length by omega, show i < min off cs.length by omega, show ¬ off = i by omega, show i < off + 1 by omega]
      · by_cases h2 : i = off
        · subst h2
          simp [show i < min (i + 1) cs.length by omega, show ¬ i < min i cs.length by omega, show i - min i cs.length = 0 by omega, show i < cs.length by omega]
        · simp only [show ¬ i < min (off + 1) cs.length by omega, show ¬ i < min off cs.length by omega, if_false]
          rw [show min (off + 1) cs.length = off + 1 by omega, show min off cs.length = off by omega]
          obtain ⟨j, rfl⟩ : ∃ j, i = off + 1 + j := ⟨i - (off + 1), by omega⟩
          rw [show off + 1 + j - (off + 1) = j by omega, show off + 1 + j - off = j + 1 by omega]
          simp only [Nat.add_lt_add_iff_right, List.getElem?_cons_succ]
          split
          · rfl
          · rw [if_neg (by omega), show off + (r.length + 1) + (j + 1 - (r.length + 1)) = off + 1 + r.length + (j - r.length) by omega]
    rw [e] at h1
    exact h1

/-- An array or struct is stored over a part of a block (or over the whole of it). -/
theorem wpList_store_blk (hgd : o.guard = none) (d : Option Tmp) (hdst : o.dst = d) (ty : TypeId) (x y : Operand) (ho : o.op = .store ty x y)
    (g off : Nat) (ds : List Value) (hx : a.eval x = .pointer (some ⟨g, off, none⟩)) (hy : a.eval y = .agg ds.toArray)
    (t : TypeId) (cs : List Value) (hb : Blk w g t cs) (hl : off + ds.length ≤ cs.length)
    (hi : (P.info? ty).map (·.size) = some ds.length) (h1 : ∀ v ∈ ds, v.oneCell' = true)
    (h : ∀ w', Blk w' g t (splice cs off ds) → w.grownBy w' (some g) → wpList P ops Q rest (a.put d undef) w') : wpList P ops Q (o :: rest) a w := by
  subst hdst
  exact wpList_store_mid hgd ty x y ho g off ds.toArray hx hy (hb.there off _ (by simpa using hl)) (by simpa using hi) (all_one h1)
    (by have := setCells_heap g t ds off cs w hb hl; exact h _ this.1 this.2)

/-- One cell of a block is written. -/
theorem wpList_store_cell (hgd : o.guard = none) (d : Option Tmp) (hdst : o.dst = d) (ty : TypeId) (x y : Operand) (ho : o.op = .store ty x y)
    (g off : Nat) (v : Value) (hx : a.eval x = .pointer (some ⟨g, off, none⟩)) (hy : a.eval y = v) (hv : v.oneCell' = true)
    (t : TypeId) (cs : List Value) (hb : Blk w g t cs) (hl : off < cs.length)
    (hi : (P.info? ty).map (·.size) = some 1)
    (h : ∀ w', Blk w' g t (cs.set off v) → w.grownBy w' (some g) → wpList P ops Q rest (a.put d undef) w') : wpList P ops Q (o :: rest) a w := by
  subst hdst
  refine wpList_plain hgd fun K hK => ?_
  have hc : w.cell? ⟨g, off, none⟩ = some cs[off] := (hb.cell off).trans (List.getElem?_eq_getElem hl)
  have hf := hb.frozen off
  have hcv : v.cells = #[v] := by cases v <;> first | rfl | cases hv
  have hst : (storeVar ty ⟨g, off, none⟩ v).run P w = .ok () (w.setCell ⟨g, off, none⟩ v) := by
    cases hq : P.info? ty with
    | none => simp [hq] at hi
    | some i =>
      have hs : i.size = 1 := by simpa [hq] using hi
      have hadd : (⟨g, off, none⟩ : Addr).add 0 = ⟨g, off, none⟩ := by unfold Addr.add; split <;> simp_all
      have hst' : (store ⟨g, off, none⟩ v .plain).run P w = .ok () (w.setCell ⟨g, off, none⟩ v) := by
        rw [run_store P w _ v _ hv]
        simp [hc, hf]
      simp [storeVar, sizeOf, typeInfo, hq, hcv, hs, storeCells, hadd, hst']
  unfold Oper.wp execOp
  simp only [ho, hx, hy, Instr.storeAt, Instr.sureAddr, Sem.run_bind, Sem.run_pure, Result.andThen_ok, hst]
  refine hK _ _ (h _ ?_ ⟨rfl, rfl, rfl, by simp, fun k _ hk => heap_setCell_other w ⟨g, off, none⟩ k v (fun e => hk (by simp [e]))⟩)
  have := heap_setCell_same w g off cs.toArray t v hb
  unfold Blk
  rw [this]; simp

/-- An element of an array value. -/
theorem wpList_index_arr (hgd : o.guard = none) (d : Option Tmp) (hdst : o.dst = d) (ty : TypeId) (x i : Operand) (ho : o.op = .index ty x i)
    (cs : List Value) (hx : a.eval x = .agg cs.toArray) (k : IntKind) (j : Nat) (hi : a.eval i = .int k (j : Int)) (n e : Nat)
    (hu : P.underlying ty = some (.array n e)) (hj : j < n) (ek : IntKind) (he : P.underlying e = some (.int ek)) (hsz : (P.info? e).map (·.size) = some 1) (v : Value) (hv : cs[j]? = some v)
    (h : wpList P ops Q rest (a.put d v) w) : wpList P ops Q (o :: rest) a w := by
  subst hdst
  refine wpList_plain hgd fun K hK => ?_
  have hagg : (isAgg e).run P w = .ok false w := by
    unfold isAgg
    rw [Sem.run_bind, run_underlying he w]
    rfl
  have hrun : (Instr.index ty (.agg cs.toArray) (.int k (j : Int))).run P w = .ok v w := by
    cases hq : P.info? e with
    | none => simp [hq] at hsz
    | some inf =>
      have hs : inf.size = 1 := by simpa [hq] using hsz
      have hc : (0 : Int) ≤ (j : Int) ∧ (j : Int) < (n : Int) := by omega
      simp [Instr.index, asIntOf, run_underlying hu, sizeOf, typeInfo, hq, hs, hj, part, hagg, hv]
  unfold Oper.wp execOp
  simp only [ho, hx, hi, Sem.run_bind, Result.andThen_ok, hrun]
  exact hK _ _ h

/-- A result that is an array or struct: it is read out of its variable. -/
theorem results_blk {fn : Func} {p : Tmp} {ty : TypeId} (h : fn.results = #[.cell p ty]) (tmps : Array Value) (w : World) (g : Nat) (t : TypeId) (cs : List Value) (de : TypeDesc)
    (hp : tmps.getD p undef = .pointer (some ⟨g, 0, none⟩)) (hb : Blk w g t cs)
    (hu : P.underlying ty = some de) (hd : de.isRow = true) (hi : (P.info? ty).map (·.size) = some cs.length) :
    (results fn tmps).run P w = .ok (.agg cs.toArray) w :=
  results_cell_row h tmps w g t cs.toArray (0, 0) de hp hb hu (by cases de <;> first | rfl | cases hd) (by simpa using hi)
end
theorem splice_all {α : Type} (cs ds : List α) (h : cs.length = ds.length) : splice cs 0 ds = ds := by
  simp [splice, ← h]
end Go.Proofs.YtdgpphihjeffcaaDoor
