/- Kit, Kit2, Kit3, Kit4, UtfMath, DecMath, DecMath2, LxMath, LxQm, LxSmall, Held, HeldBlk: merged. -/
import Derived.WalkKit
import Derived.Below
import Derived.Laws.Rows
import Derived.Laws.Tables
import Derived.Laws.OwnMore
import Derived.Laws.CopyOwn
import Derived.Deep.Draws
import Derived.Deep.MidRow
import Derived.Deep.WholeRow
import Derived.Maps.AppendAt
import Derived.Lib.Hide
import Derived.Deep.RegionLaw
import Derived.Lib.ConvBytes
import Derived.Laws.BytesString
import Derived.Laws.BytesArg
import Derived.Lib.IndexMore
import Derived.Deep.QuietTactic
import Derived.BigQuiet
import Derived.Deep.RegionHeld3
import Derived.Test.YtcjfealalokjaaaGreatDoorPa01
set_option linter.all false
namespace Go.Proofs.YtcjfealalokjaaaGreatDoor
open Go Go.RowKit
/-- Block g is just the cells cs of element type t, none frozen. -/
def Blk (w : World) (g : Nat) (t : TypeId) (cs : List Value) : Prop := w.heap[g]? = some (.cells cs.toArray t (0, 0))
section
variable {w w' : World} {g : Nat} {t : TypeId} {cs : List Value}
theorem Blk.lt (h : Blk w g t cs) : g < w.heap.size := by
  rcases Nat.lt_or_ge g w.heap.size with hlt | hge
  · exact hlt
  · unfold Blk at h; rw [Array.getElem?_eq_none hge] at h; cases h
theorem Blk.cell (h : Blk w g t cs) (i : Nat) : w.cell? ⟨g, i, none⟩ = cs[i]? := by
  have := cell_of_row w g i cs.toArray t (0, 0) h
  simpa using this
theorem Blk.frozen (h : Blk w g t cs) (i : Nat) : w.frozen? ⟨g, i, none⟩ = false := by
  unfold Blk at h
  simp [World.frozen?, h]
theorem Blk.drew (h : Blk w g t cs) : Blk w.drew g t cs := h
theorem Blk.drewN (h : Blk w g t cs) (n : Nat) : Blk (w.drewN n) g t cs := h
theorem Blk.below {B : Nat} (h : Blk w g t cs) (hb : Below B w w') (hg : g < B) : Blk w' g t cs := (hb.block g hg).trans h
theorem Blk.grown {row : Option Nat} (h : Blk w g t cs) (hb : w.grownBy w' row) (hg : some g ≠ row) : Blk w' g t cs := (hb.block g h.lt hg).trans h
theorem Blk.grownN (h : Blk w g t cs) (hb : w.grownBy w' none) : Blk w' g t cs := h.grown hb (by simp)
theorem Blk.there (h : Blk w g t cs) (o n : Nat) (hn : o + n ≤ cs.length) : w.there g o n := fun j hj => by
  refine ⟨?_, h.frozen _⟩
  rw [h.cell, List.getElem?_eq_getElem (by omega)]; rfl
theorem Blk.inj {t' : TypeId} {ds : List Value} (h : Blk w g t cs) (h' : Blk w g t' ds) : cs = ds := by
  unfold Blk at h h'; rw [h] at h'
  injection h' with h'; injection h' with h1 _ _
  simpa using h1
end
theorem below_drewN {B : Nat} {a w : World} (h : Below B a w) (n : Nat) : Below B a (w.drewN n) := ⟨h.os, h.tape, h.output, h.size, h.block⟩
theorem grownBy_refl (w : World) (row : Option Nat) : w.grownBy w row := ⟨rfl, rfl, rfl, Nat.le_refl _, fun _ _ _ => rfl⟩
theorem grownBy_of_below {a w : World} (h : Below a.heap.size a w) (row : Option Nat) : a.grownBy w row := ⟨h.os, h.tape, h.output, h.size, fun i hi _ => h.block i hi⟩
theorem grownBy_drewN {a w : World} {row : Option Nat} (h : a.grownBy w row) (n : Nat) : a.grownBy (w.drewN n) row := ⟨h.os, h.tape, h.output, h.size, h.block⟩
theorem Blk.setCell {w : World} {g : Nat} {t : TypeId} {cs : List Value} (h : Blk w g t cs) (i : Nat) (v : Value) : Blk (w.setCell ⟨g, i, none⟩ v) g t (cs.set i v) := by
  have := heap_setCell_same w g i cs.toArray t v h
  unfold Blk
  rw [this]; simp
theorem grownBy_setCell (w : World) (g i : Nat) (v : Value) : w.grownBy (w.setCell ⟨g, i, none⟩ v) (some g) :=
  ⟨rfl, rfl, rfl, by simp, fun k _ hk => heap_setCell_other w ⟨g, i, none⟩ k v (fun e => hk (by simp [e]))⟩
/-- The values of a list of numbers. -/
def ints (k : IntKind) (l : List Int) : List Value := l.map (Value.int k)
@[simp] theorem length_ints (k : IntKind) (l : List Int) : (ints k l).length = l.length := by simp [ints]
theorem set_ints (k : IntKind) (l : List Int) (i : Nat) (x : Int) : (ints k l).set i (.int k x) = ints k (l.set i x) := by simp [ints, List.map_set]
theorem ints_append (k : IntKind) (l m : List Int) : ints k (l ++ m) = ints k l ++ ints k m := by simp [ints]
theorem all_one {cs : List Value} (h : ∀ v ∈ cs, v.oneCell' = true) : cs.toArray.all (·.oneCell') = true := all_oneCell_toArray h
section
variable {P : Program} {w : World} {ops : Array Oper} {rest : List Oper} {o : Oper} {a : Act} {Q : Exit → Act → World → Prop}
/-- A new variable of a type whose zero value is an array or struct. -/
theorem wpList_alloc_blk (hgd : o.guard = none) (d : Option Tmp) (hdst : o.dst = d) (ty : TypeId) (ho : o.op = .alloc ty) (z : List Value) (hz : (P.info? ty).map (·.zero) = some (some (.agg z.toArray)))
    (h : ∀ g w', w.heap.size ≤ g → Blk w' g ty z → w.grownBy w' none → wpList P ops Q rest (a.put d (.pointer (some ⟨g, 0, none⟩))) w') : wpList P ops Q (o :: rest) a w := by
  subst hdst
  refine wpList_plain hgd fun K hK => ?_
  have hzero : (zeroValue ty).run P w = .ok (.agg z.toArray) w := by
    cases hq : P.info? ty with
    | none => simp [hq] at hz
    | some i =>
      simp [hq] at hz
      simp [zeroValue, typeInfo, hq, hz]
  unfold Oper.wp execOp
  simp only [ho, Instr.alloc, Sem.run_bind, hzero, Result.andThen_ok]
  exact hK _ _ (h w.heap.size (w.alloc (.cells z.toArray ty)) (Nat.le_refl _) (heap_alloc_new w _) (World.grownBy_alloc w _ none))
theorem setCells_heap (g : Nat) (t : TypeId) : ∀ (vs : List Value) (off : Nat) (cs : List Value) (w : World), Blk w g t cs → off + vs.length ≤ cs.length →
    Blk (w.setCells g off vs) g t (splice cs off vs) ∧ w.grownBy (w.setCells g off vs) (some g)
  | [], off, cs, w, hb, _ => by
    refine ⟨?_, grownBy_refl _ _⟩
    simpa [World.setCells, splice] using hb
  | v :: r, off, cs, w, hb, hl => by
    simp only [List.length_cons] at hl
    have hb1 : Blk (w.setCell ⟨g, off, none⟩ v) g t (cs.set off v) := by
      have := heap_setCell_same w g off cs.toArray t v hb
      unfold Blk
      rw [this]; simp
    have hg1 : w.grownBy (w.setCell ⟨g, off, none⟩ v) (some g) := ⟨rfl, rfl, rfl, by simp, fun k _ hk => heap_setCell_other w ⟨g, off, none⟩ k v (fun e => hk (by simp [e]))⟩
    obtain ⟨h1, h2⟩ := setCells_heap g t r (off + 1) (cs.set off v) _ hb1 (by simp; omega)
    refine ⟨?_, hg1.trans h2⟩
    rw [World.setCells]
    have e : splice (cs.set off v) (off + 1) r = splice cs off (v :: r) := by
      apply List.ext_getElem?
      intro i
      simp only [splice, List.getElem?_append, List.length_take, List.length_set, List.getElem?_take, List.getElem?_drop, List.getElem?_set, List.length_cons]
      by_cases h1 : i < off
      · simp [h1, show i < min (off + 1) cs.length by omega, show i < min off cs.length by omega, show ¬ off = i by omega, show i < off + 1 by omega]
      · by_cases h2 : i = off
        · subst h2
          simp [show i < min (i + 1) cs.length by omega, show ¬ i < min i cs.length by omega, show i - min i cs.length = 0 by omega, show i < cs.length by omega]
        · simp only [show ¬ i < min (off + 1) cs.length by omega, show ¬ i < min off cs.length by omega, if_false]
          rw [show min (off + 1) cs.length = off + 1 by omega, show min off cs.length = off by omega]
          obtain ⟨j, rfl⟩ : ∃ j, i = off + 1 + j := ⟨i - (off + 1), by omega⟩
          rw [show off + 1 + j - (off + 1) = j by omega, show off + 1 + j - off = j + 1 by omega]
          simp only [Nat.add_lt_add_iff_right, List.getElem?_cons_succ]
          split
          · rfl
          · rw [if_neg (by omega), show off + (r.length + 1) + (j + 1 - (r.length + 1)) = off + 1 + r.length + (j - r.length) by omega]
    rw [e] at h1
    exact h1
/-- An array or struct is stored over a part of a block (or over the whole of it). -/
theorem wpList_store_blk (hgd : o.guard = none) (d : Option Tmp) (hdst : o.dst = d) (ty : TypeId) (x y : Operand) (ho : o.op = .store ty x y)
    (g off : Nat) (ds : List Value) (hx : a.eval x = .pointer (some ⟨g, off, none⟩)) (hy : a.eval y = .agg ds.toArray)
    (t : TypeId) (cs : List Value) (hb : Blk w g t cs) (hl : off + ds.length ≤ cs.length)
    (hi : (P.info? ty).map (·.size) = some ds.length) (h1 : ∀ v ∈ ds, v.oneCell' = true)
    (h : ∀ w', Blk w' g t (splice cs off ds) → w.grownBy w' (some g) → wpList P ops Q rest (a.put d undef) w') : wpList P ops Q (o :: rest) a w := by
  subst hdst
  exact wpList_store_mid hgd ty x y ho g off ds.toArray hx hy (hb.there off _ (by simpa using hl)) (by simpa using hi) (all_one h1)
    (by have := setCells_heap g t ds off cs w hb hl; exact h _ this.1 this.2)
/-- One cell of a block is written. -/
theorem wpList_store_cell (hgd : o.guard = none) (d : Option Tmp) (hdst : o.dst = d) (ty : TypeId) (x y : Operand) (ho : o.op = .store ty x y)
    (g off : Nat) (v : Value) (hx : a.eval x = .pointer (some ⟨g, off, none⟩)) (hy : a.eval y = v) (hv : v.oneCell' = true)
    (t : TypeId) (cs : List Value) (hb : Blk w g t cs) (hl : off < cs.length)
    (hi : (P.info? ty).map (·.size) = some 1)
    (h : ∀ w', Blk w' g t (cs.set off v) → w.grownBy w' (some g) → wpList P ops Q rest (a.put d undef) w') : wpList P ops Q (o :: rest) a w := by
  subst hdst
  refine wpList_plain hgd fun K hK => ?_
  have hc : w.cell? ⟨g, off, none⟩ = some cs[off] := (hb.cell off).trans (List.getElem?_eq_getElem hl)
  have hf := hb.frozen off
  have hcv : v.cells = #[v] := by cases v <;> first | rfl | cases hv
  have hst : (storeVar ty ⟨g, off, none⟩ v).run P w = .ok () (w.setCell ⟨g, off, none⟩ v) := by
    cases hq : P.info? ty with
    | none => simp [hq] at hi
    | some i =>
      have hs : i.size = 1 := by simpa [hq] using hi
      have hadd : (⟨g, off, none⟩ : Addr).add 0 = ⟨g, off, none⟩ := by unfold Addr.add; split <;> simp_all
      have hst' : (store ⟨g, off, none⟩ v .plain).run P w = .ok () (w.setCell ⟨g, off, none⟩ v) := by
        rw [run_store P w _ v _ hv]
        simp [hc, hf]
      simp [storeVar, sizeOf, typeInfo, hq, hcv, hs, storeCells, hadd, hst']
  unfold Oper.wp execOp
  simp only [ho, hx, hy, Instr.storeAt, Instr.sureAddr, Sem.run_bind, Sem.run_pure, Result.andThen_ok, hst]
  refine hK _ _ (h _ ?_ ⟨rfl, rfl, rfl, by simp, fun k _ hk => heap_setCell_other w ⟨g, off, none⟩ k v (fun e => hk (by simp [e]))⟩)
  have := heap_setCell_same w g off cs.toArray t v hb
  unfold Blk
  rw [this]; simp
end
theorem splice_all {α : Type} (cs ds : List α) (h : cs.length = ds.length) : splice cs 0 ds = ds := by
  simp [splice, ← h]
end Go.Proofs.YtcjfealalokjaaaGreatDoor
namespace Go.Proofs.YtcjfealalokjaaaGreatDoor
open Go Go.RowKit
section
variable {P : Program} {w : World} {ops : Array Oper} {rest : List Oper} {o : Oper} {a : Act} {Q : Exit → Act → World → Prop}
end
/-- 'arr[l:]' of an array variable. -/
theorem run_sliceAt_from {P : Program} (t e : TypeId) (n : Nat) (ht : P.underlying t = some (.array n e)) (hsz : (P.info? e).map (·.size) = some 1) (g o l : Nat) (hl : l < n) (k : IntKind) (w : World) :
    (Instr.sliceAt t (.pointer (some ⟨g, o, none⟩)) (some (.int k (l : Int))) none none).run P w = .ok (.slice (some ⟨g, o + l, none⟩) (n - l) (n - l)) w := by
  have e1 : P.elem t = e := by simp [Program.elem, ht]
  have e2 : P.arrayLen t = n := by simp [Program.arrayLen, ht]
  rw [run_sliceAt_array_l w t ⟨g, o, none⟩ (by rw [e1, e2]; exact ht) k l (by omega) (by rw [e2]; omega), e1, e2]
  cases hq : P.info? e with
  | none => simp [hq] at hsz
  | some inf =>
    have hs : inf.size = 1 := by simpa [hq] using hsz
    simp [sizeOf, typeInfo, hq, hs, slicedAt, Addr.add_mid]
    omega
/-- 'arr[:h]' of an array variable. -/
theorem run_sliceAt_to {P : Program} (t e : TypeId) (n : Nat) (ht : P.underlying t = some (.array n e)) (hsz : (P.info? e).map (·.size) = some 1) (g o h : Nat) (_hn : 0 < n) (hl : h ≤ n) (k : IntKind) (w : World) :
    (Instr.sliceAt t (.pointer (some ⟨g, o, none⟩)) none (some (.int k (h : Int))) none).run P w = .ok (.slice (some ⟨g, o, none⟩) h n) w := by
  have e1 : P.elem t = e := by simp [Program.elem, ht]
  have e2 : P.arrayLen t = n := by simp [Program.arrayLen, ht]
  rw [run_sliceAt_array_h w t ⟨g, o, none⟩ (by rw [e1, e2]; exact ht) k h (by omega) (by rw [e2]; omega), e1, e2]
  cases hq : P.info? e with
  | none => simp [hq] at hsz
  | some inf =>
    have hs : inf.size = 1 := by simpa [hq] using hsz
    simp [sizeOf, typeInfo, hq, hs, slicedAt, Addr.add_mid]
/-- The slice value '.slice A _ _' reads as the bytes xs, and lies in no block but one that is there and isn't g. -/
def Src (w : World) (g : Nat) (A : Option Addr) (xs : List Int) : Prop :=
  0 < xs.length → ∃ b o, A = some ⟨b, o, none⟩ ∧ b ≠ g ∧ b < w.heap.size ∧ ∀ j v, (ints .u8 xs)[j]? = some v → w.cell? ⟨b, o + j, none⟩ = some v
theorem Src.grown {w w' : World} {g : Nat} {A : Option Addr} {xs : List Int} (h : Src w g A xs) {row : Option Nat} (hb : w.grownBy w' row) (hr : row = none ∨ row = some g) : Src w' g A xs := fun hp => by
  obtain ⟨b, o, e, hne, hlt, hc⟩ := h hp
  refine ⟨b, o, e, hne, Nat.lt_of_lt_of_le hlt hb.size, fun j v hv => ?_⟩
  rw [World.cell?_of_block (w := w) (hb.block b hlt (by rcases hr with rfl | rfl <;> simp [hne]))]
  exact hc j v hv
theorem Src.below {w w' : World} {g : Nat} {A : Option Addr} {xs : List Int} (h : Src w g A xs) (hb : Below w.heap.size w w') : Src w' g A xs := h.grown (grownBy_of_below hb none) (.inl rfl)
theorem Src.blk {w : World} {g b o : Nat} {t : TypeId} {cs : List Value} (h : Blk w b t cs) (hne : b ≠ g) {xs : List Int} (hx : ∀ j v, (ints .u8 xs)[j]? = some v → cs[o + j]? = some v) : Src w g (some ⟨b, o, none⟩) xs :=
  fun _ => ⟨b, o, rfl, hne, h.lt, fun j v hv => (h.cell _).trans (hx j v hv)⟩
end Go.Proofs.YtcjfealalokjaaaGreatDoor
namespace Go.Proofs.YtcjfealalokjaaaGreatDoor
open Go Go.RowKit
def Bytes (l : List Int) : Prop := ∀ i, 0 ≤ l.getD i 0 ∧ l.getD i 0 ≤ 255
theorem Bytes.mem {l : List Int} (h : Bytes l) {x : Int} (hx : x ∈ l) : 0 ≤ x ∧ x ≤ 255 := by
  obtain ⟨i, hi, rfl⟩ := List.mem_iff_getElem.1 hx
  have := h i
  simpa [hi] using this
theorem Bytes.of_mem {l : List Int} (h : ∀ x ∈ l, 0 ≤ x ∧ x ≤ 255) : Bytes l := fun i => by
  rw [List.getD_eq_getElem?_getD]
  rcases Nat.lt_or_ge i l.length with hi | hi
  · rw [List.getElem?_eq_getElem hi]; exact h _ (List.getElem_mem hi)
  · rw [List.getElem?_eq_none hi]; decide
theorem Bytes.append {l m : List Int} (h : Bytes l) (k : Bytes m) : Bytes (l ++ m) := .of_mem fun x hx => by
  rcases List.mem_append.1 hx with hx | hx
  · exact h.mem hx
  · exact k.mem hx
theorem Bytes.take {l : List Int} (h : Bytes l) (n : Nat) : Bytes (l.take n) := .of_mem fun _ hx => h.mem (List.mem_of_mem_take hx)
theorem Bytes.drop {l : List Int} (h : Bytes l) (n : Nat) : Bytes (l.drop n) := .of_mem fun _ hx => h.mem (List.mem_of_mem_drop hx)
/-- A slice of bytes lies in a block that is there. -/
def Lies (w : World) (A : Option Addr) (xs : List Int) : Prop := Src w w.heap.size A xs
theorem Lies.of {w : World} {A : Option Addr} {xs : List Int} {g : Nat} (h : Src w g A xs) : Lies w A xs := fun hp => by
  obtain ⟨b, o, e, _, hlt, hc⟩ := h hp
  exact ⟨b, o, e, by omega, hlt, hc⟩
theorem Lies.below {w w' : World} {A : Option Addr} {xs : List Int} (h : Lies w A xs) (hb : Below w.heap.size w w') : Lies w' A xs := Lies.of (Src.below h hb)
theorem Lies.blk {w : World} {b o : Nat} {t : TypeId} {cs : List Value} (h : Blk w b t cs) {xs : List Int} (hx : ∀ j v, (ints .u8 xs)[j]? = some v → cs[o + j]? = some v) : Lies w (some ⟨b, o, none⟩) xs :=
  Src.blk h (by have := h.lt; omega) hx
theorem Lies.whole {w : World} {b : Nat} {t : TypeId} {xs : List Int} (h : Blk w b t (ints .u8 xs)) : Lies w (some ⟨b, 0, none⟩) xs := Lies.blk h (by simp)
theorem belowAlloc (w : World) (o : Obj) : Below w.heap.size w (w.alloc o) := (Below.refl _ w).alloc (Nat.le_refl _) _
/-- A string's bytes, as numbers. -/
def strL (s : ByteArray) : List Int := s.data.toList.map fun b => (b.toNat : Int)
theorem length_strL (s : ByteArray) : (strL s).length = s.size := by simp [strL]
theorem strL_bd (s : ByteArray) : Bytes (strL s) := .of_mem fun x hx => by
  obtain ⟨b, _, rfl⟩ := List.mem_map.1 hx
  have := b.toNat_lt
  omega
theorem strL_inj {a b : ByteArray} (h : strL a = strL b) : a = b := by
  have : a.data.toList = b.data.toList := by
    refine (List.map_inj_right (f := fun b : UInt8 => (b.toNat : Int)) ?_).1 h
    intro x y hxy
    exact UInt8.toNat_inj.1 (by omega)
  cases a; cases b
  congr 1
  exact Array.toList_inj.1 this
theorem belowBytes (w : World) (e : TypeId) (s : ByteArray) : Below w.heap.size w (Lib.bytesWorld w e s) :=
  ⟨rfl, rfl, rfl, by rw [Lib.bytesWorld_size]; omega, fun k hk => Lib.bytesWorld_at_old w e s k hk⟩
theorem liesBytes (w : World) (e : TypeId) (s : ByteArray) : Lies (Lib.bytesWorld w e s) (some ⟨w.heap.size, 0, none⟩) (strL s) := fun _ =>
  ⟨w.heap.size, 0, rfl, by rw [Lib.bytesWorld_size]; omega, by rw [Lib.bytesWorld_size]; omega, fun j v hv => by
    have hj : j < s.size := by
      have := (List.getElem?_eq_some_iff.1 hv).1
      rw [length_ints, length_strL] at this; exact this
    rw [Nat.zero_add, Lib.bytesWorld_cell w e s j hj, ← hv]
    have hj2 : j < s.data.toList.length := by simpa using hj
    simp [ints, strL, List.getD, hj]⟩
section
variable {P : Program} {w : World} {ops : Array Oper} {rest : List Oper} {o : Oper} {a : Act} {Q : Exit → Act → World → Prop}
/-- '[]byte(s)' of a string. -/
theorem wpList_convert_str (hgd : o.guard = none) (d : Option Tmp) (hdst : o.dst = d) (src dst e : TypeId) (x : Operand) (ho : o.op = .convert src dst x) (s : ByteArray) (hx : a.eval x = .string s)
    {u : TypeDesc} (hs : P.underlying src = some u) (hd : P.underlying dst = some (.slice e)) (he : P.underlying e = some (.int .u8))
    (h : ∀ A c w', Lies w' A (strL s) → s.size ≤ c → Below w.heap.size w w' → wpList P ops Q rest (a.put d (.slice A s.size c)) w') : wpList P ops Q (o :: rest) a w := by
  subst hdst
  refine wpList_plain hgd fun K hK => ?_
  unfold Oper.wp execOp
  simp only [ho, hx, Sem.run_bind, Lib.run_convert_string_bytes w src dst e s hs hd he, Result.andThen_ok]
  exact hK _ _ (h _ _ _ (liesBytes w e s) (grownCap_ge w s.size 0 e) (belowBytes w e s))
end
theorem eq_toList (s t : ByteArray) : (s.toList == t.toList) = decide (s = t) := by
  rw [Bool.eq_iff_iff, beq_iff_eq, decide_eq_true_eq]
  constructor
  · intro h
    rw [ByteArray.toList_eq, ByteArray.toList_eq] at h
    cases s; cases t
    congr 1
    exact Array.toList_inj.1 h
  · rintro rfl; rfl
end Go.Proofs.YtcjfealalokjaaaGreatDoor
namespace Go.Proofs.YtcjfealalokjaaaGreatDoor
open Go Go.RowKit
theorem ret_int {k : IntKind} {a b : Int} (h : a = b) : Ending.returned (.int k a) = .returned (.int k b) := by rw [h]
theorem lt_of_cell {w : World} {a : Addr} {v : Value} (h : w.cell? a = some v) : a.block < w.heap.size := by
  rcases Nat.lt_or_ge a.block w.heap.size with h' | h'
  · exact h'
  · simp [World.cell?, Array.getElem?_eq_none h'] at h
/-! ### Strings as numbers -/
def toU (l : List Int) : List UInt8 := l.map fun x => UInt8.ofNat x.toNat
/-- The string of a list of bytes. -/
def toS (l : List Int) : ByteArray := ⟨(toU l).toArray⟩
theorem toU_nat {x : Int} (h : 0 ≤ x ∧ x ≤ 255) : ((UInt8.ofNat x.toNat).toNat : Int) = x := by
  rw [UInt8.toNat_ofNat']; omega
theorem strL_toS {l : List Int} (h : Bytes l) : strL (toS l) = l := by
  simp only [strL, toS, toU, List.map_map]
  conv => rhs; rw [← List.map_id l]
  refine List.map_congr_left fun x hx => ?_
  exact toU_nat (h.mem hx)
theorem toS_strL (s : ByteArray) : toS (strL s) = s := strL_inj (strL_toS (strL_bd s))
theorem size_toS (l : List Int) : (toS l).size = l.length := by
  show (toU l).toArray.size = _
  simp [toU]
/-- A part of a string, as numbers. -/
theorem strL_extract (s : ByteArray) (a b : Nat) : strL (s.extract a b) = ((strL s).take b).drop a := by
  simp only [strL, ByteArray.data_extract, Array.toList_extract, List.extract_eq_take_drop, List.map_take, List.map_drop, List.drop_take]
theorem strL_get (s : ByteArray) (k : Nat) (h : k < s.size) : (strL s).getD k 0 = (s[k].toNat : Int) := by
  have h2 : k < s.data.toList.length := by simpa using h
  rw [List.getD_eq_getElem?_getD, strL, List.getElem?_map, List.getElem?_eq_getElem h2]
  simp
  rfl
theorem eq_toS {s : ByteArray} {l : List Int} (hl : Bytes l) : s = toS l ↔ strL s = l :=
  ⟨fun h => by rw [h, strL_toS hl], fun h => by rw [← h, toS_strL]⟩
/-! ### Rows of bytes -/
theorem own_ge {w : World} {base : Nat} {e : TypeId} {size : Nat} {v : Value} {n : Nat} {xs : List Value} (h : w.ownsRow base e size v n xs) : ∀ g, v.ownBlock = some g → base ≤ g := fun g hg => by
  rcases h.2 with ⟨rfl, _⟩ | ⟨g', cap, cur, rfl, hb, _⟩
  · simp [Value.ownBlock] at hg
  · have : g' = g := by simpa [Value.ownBlock] using hg
    omega
/-- 'string(b)' of a slice of bytes. -/
theorem conv_str (A : Option Addr) (xs : List Int) (n c : Nat) (w : World) (hn : xs.length = n) (hl : Lies w A xs) :
    (convert 73 9 (.slice A n c)).run Tryz.prog w = .ok (.string (toS xs)) w := by
  rw [run_convert_bytes_string w _ _ 5 _ _ _ Tryz.underlying73 Tryz.underlying5 Tryz.underlying9]
  cases A with
  | none =>
    have : xs = [] := by
      rcases xs with _ | ⟨x, r⟩
      · rfl
      · obtain ⟨b, o, h, _⟩ := hl (by simp)
        cases h
    subst this
    rfl
  | some ad =>
    have hcells : ∀ j u, (ints .u8 xs)[j]? = some u → w.cell? (ad.add j) = some u := fun j u hu => by
      have hj := (List.getElem?_eq_some_iff.1 hu).1
      rw [length_ints] at hj
      obtain ⟨b, o, h, _, _, hc⟩ := hl (by omega)
      injection h with h
      subst h
      rw [Addr.add_mid]
      exact hc j u hu
    have hld : (loadCells ad n).run Tryz.prog w = .ok (ints .u8 xs).toArray w := by
      have := run_loadCells_list (P := Tryz.prog) w ad (ints .u8 xs) hcells
      rw [length_ints, hn] at this; exact this
    rw [run_bytesToString w _ _ _ xs hld, foldl_push_bytes, show ByteArray.empty.data = #[] from rfl, Array.empty_append]
    rfl
section
variable {P : Program} {w : World} {ops : Array Oper} {rest : List Oper} {o : Oper} {a : Act} {Q : Exit → Act → World → Prop}
end
theorem Lies.take {w : World} {A : Option Addr} {xs : List Int} (h : Lies w A xs) (n : Nat) : Lies w A (xs.take n) := fun hp => by
  simp only [List.length_take] at hp
  obtain ⟨b, o, e, h1, h2, hc⟩ := h (by omega)
  refine ⟨b, o, e, h1, h2, fun j v hv => hc j v ?_⟩
  have hj := (List.getElem?_eq_some_iff.1 hv).1
  simp only [length_ints, List.length_take] at hj
  simp only [ints, List.map_take, List.getElem?_take] at hv
  rw [if_pos (by omega)] at hv
  exact hv
/-! ### Bits of int -/
theorem and_mask_i64 (x : Int) (k : Nat) (hk : k ≤ 62) (h0 : 0 ≤ x) (h1 : x < 9223372036854775808) : bits .and .i64 x (2 ^ k - 1) = x % 2 ^ k := by
  obtain ⟨a, rfl⟩ := Int.eq_ofNat_of_zero_le h0
  have hk2 : 2 ^ k ≤ 2 ^ 62 := Nat.pow_le_pow_right (by decide) hk
  have hp : 0 < 2 ^ k := Nat.two_pow_pos k
  have e0 : ((2 : Int) ^ k - 1) = ((2 ^ k - 1 : Nat) : Int) := by rw [Int.ofNat_sub hp]; simp
  have h : (BitVec.ofInt 64 (a : Int) &&& BitVec.ofInt 64 ((2 ^ k - 1 : Nat) : Int)).toNat = a % 2 ^ k := by
    rw [BitVec.toNat_and, BitVec.toNat_ofInt, BitVec.toNat_ofInt]
    have e1 : ((a : Int) % (2 ^ 64 : Nat)).toNat = a := by omega
    have e2 : (((2 ^ k - 1 : Nat) : Int) % (2 ^ 64 : Nat)).toNat = 2 ^ k - 1 := by omega
    rw [e1, e2, Nat.and_two_pow_sub_one_eq_mod]
  rw [e0]
  show IntKind.i64.wrap ((BitVec.ofInt 64 (a : Int) &&& BitVec.ofInt 64 ((2 ^ k - 1 : Nat) : Int)).toNat : Int) = _
  rw [h, IntKind.wrap_i64]
  have : a % 2 ^ k < 2 ^ k := Nat.mod_lt _ hp
  have e3 : ((a : Int) % 2 ^ k) = ((a % 2 ^ k : Nat) : Int) := by simp
  rw [e3]
  omega
theorem or_i64 (x y : Nat) (hx : x < 9223372036854775808) (hy : y < 9223372036854775808) : bits .or .i64 (x : Int) (y : Int) = ((x ||| y : Nat) : Int) := by
  have h : (BitVec.ofInt 64 (x : Int) ||| BitVec.ofInt 64 (y : Int)).toNat = x ||| y := by
    rw [BitVec.toNat_or, BitVec.toNat_ofInt, BitVec.toNat_ofInt]
    congr 1 <;> omega
  have hl : x ||| y < 2 ^ 63 := Nat.or_lt_two_pow (by omega) (by omega)
  show IntKind.i64.wrap ((BitVec.ofInt 64 (x : Int) ||| BitVec.ofInt 64 (y : Int)).toNat : Int) = _
  rw [h, IntKind.wrap_i64]
  omega
/-- Bits above, and low bits: the sum. -/
theorem or_above (hi lo : Int) (k : Nat) (h0 : 0 ≤ lo) (h1 : lo < 2 ^ k) (h2 : 0 ≤ hi) (h3 : hi * 2 ^ k + lo < 9223372036854775808) : bits .or .i64 (hi * 2 ^ k) lo = hi * 2 ^ k + lo := by
  obtain ⟨a, rfl⟩ := Int.eq_ofNat_of_zero_le h0
  obtain ⟨b, rfl⟩ := Int.eq_ofNat_of_zero_le h2
  have hk : a < 2 ^ k := by
    have e : ((2 : Int) ^ k) = ((2 ^ k : Nat) : Int) := by simp
    rw [e] at h1
    exact Int.ofNat_lt.1 h1
  have e : ((b : Int) * 2 ^ k) = ((b * 2 ^ k : Nat) : Int) := by simp
  have h3' : b * 2 ^ k + a < 9223372036854775808 := by
    rw [e, ← Int.natCast_add] at h3
    exact Int.ofNat_lt.1 h3
  rw [e, or_i64 (b * 2 ^ k) a (by omega) (by omega), ← Nat.shiftLeft_eq, ← Nat.shiftLeft_add_eq_or_of_lt hk b, Nat.shiftLeft_eq]
  simp
end Go.Proofs.YtcjfealalokjaaaGreatDoor
namespace Go.Proofs.YtcjfealalokjaaaGreatDoor
open Go Go.RowKit
/-- A letter's bytes; of what is none: []. -/
def putL (n : Int) : List Int :=
  if n < 0 ∨ 1114111 < n ∨ (55296 ≤ n ∧ n ≤ 57343) then [] else if n < 128 then [n] else if n < 2048 then [192 + n / 64, 128 + n % 64]
  else if n < 65536 then [224 + n / 4096, 128 + n / 64 % 64, 128 + n % 64] else [240 + n / 262144, 128 + n / 4096 % 64, 128 + n / 64 % 64, 128 + n % 64]
/-- How many bytes by the first. -/
def wantL (c : Int) : Nat := if 240 ≤ c then 4 else if 224 ≤ c then 3 else if 192 ≤ c then 2 else 1
def markL (k : Nat) : Int := if k = 4 then 240 else if k = 3 then 224 else if k = 2 then 192 else 0
def accL (c0 : Int) (l : List Int) : Nat → Int
  | 0 => c0
  | i + 1 => accL c0 l i * 64 + l.getD (i + 1) 0 % 64
/-- The letter that the bytes by the first would be. -/
def candL (l : List Int) : Int := accL (l.getD 0 0 - markL (wantL (l.getD 0 0))) l (wantL (l.getD 0 0) - 1)
/-- The letter whose bytes l begins with, and how many they are. -/
def nxL (l : List Int) : Int × Nat :=
  if l.length = 0 then (-1, 0) else if l.length < wantL (l.getD 0 0) then (-1, 1)
  else if putL (candL l) = l.take (wantL (l.getD 0 0)) then (candL l, wantL (l.getD 0 0)) else (-1, 1)
theorem wantL_bd (c : Int) : 1 ≤ wantL c ∧ wantL c ≤ 4 := by unfold wantL; split <;> (try split) <;> (try split) <;> omega
theorem putL_none {n : Int} (h : n < 0 ∨ 1114111 < n ∨ (55296 ≤ n ∧ n ≤ 57343)) : putL n = [] := if_pos h
theorem putL_one {n : Int} (h : 0 ≤ n) (h1 : n < 128) : putL n = [n] := by unfold putL; rw [if_neg (by omega), if_pos h1]
theorem putL_two {n : Int} (h : 128 ≤ n) (h1 : n < 2048) : putL n = [192 + n / 64, 128 + n % 64] := by unfold putL; rw [if_neg (by omega), if_neg (by omega), if_pos h1]
theorem putL_three {n : Int} (h : 2048 ≤ n) (h1 : n < 65536) (h2 : n < 55296 ∨ 57343 < n) : putL n = [224 + n / 4096, 128 + n / 64 % 64, 128 + n % 64] := by unfold putL; rw [if_neg (by omega), if_neg (by omega), if_neg (by omega), if_pos h1]
theorem putL_four {n : Int} (h : 65536 ≤ n) (h1 : n ≤ 1114111) : putL n = [240 + n / 262144, 128 + n / 4096 % 64, 128 + n / 64 % 64, 128 + n % 64] := by unfold putL; rw [if_neg (by omega), if_neg (by omega), if_neg (by omega), if_neg (by omega)]
/-- The five cases. -/
theorem putL_cases (n : Int) : (putL n = [] ∧ (n < 0 ∨ 1114111 < n ∨ (55296 ≤ n ∧ n ≤ 57343))) ∨ (0 ≤ n ∧ n < 128 ∧ putL n = [n]) ∨ (128 ≤ n ∧ n < 2048 ∧ putL n = [192 + n / 64, 128 + n % 64])
    ∨ (2048 ≤ n ∧ n < 65536 ∧ (n < 55296 ∨ 57343 < n) ∧ putL n = [224 + n / 4096, 128 + n / 64 % 64, 128 + n % 64]) ∨ (65536 ≤ n ∧ n ≤ 1114111 ∧ putL n = [240 + n / 262144, 128 + n / 4096 % 64, 128 + n / 64 % 64, 128 + n % 64]) := by
  by_cases h0 : n < 0 ∨ 1114111 < n ∨ (55296 ≤ n ∧ n ≤ 57343)
  · exact .inl ⟨putL_none h0, h0⟩
  · by_cases h1 : n < 128
    · exact .inr (.inl ⟨by omega, h1, putL_one (by omega) h1⟩)
    · by_cases h2 : n < 2048
      · exact .inr (.inr (.inl ⟨by omega, h2, putL_two (by omega) h2⟩))
      · by_cases h3 : n < 65536
        · exact .inr (.inr (.inr (.inl ⟨by omega, h3, by omega, putL_three (by omega) h3 (by omega)⟩)))
        · exact .inr (.inr (.inr (.inr ⟨by omega, by omega, putL_four (by omega) (by omega)⟩)))
theorem putL_len (n : Int) : (putL n).length ≤ 4 := by
  rcases putL_cases n with ⟨h, _⟩ | ⟨_, _, h⟩ | ⟨_, _, h⟩ | ⟨_, _, _, h⟩ | ⟨_, _, h⟩ <;> rw [h] <;> simp
theorem putL_bytes (n : Int) : Bytes (putL n) := .of_mem fun x hx => by
  rcases putL_cases n with ⟨h, _⟩ | ⟨_, _, h⟩ | ⟨_, _, h⟩ | ⟨_, _, _, h⟩ | ⟨_, _, h⟩ <;> rw [h] at hx <;> simp at hx <;> omega
/-- The first byte tells how many. -/
theorem putL_want {n c : Int} {r : List Int} (h : putL n = c :: r) : wantL c = (putL n).length ∧ c - markL (wantL c) = c % (if wantL c = 1 then 256 else if wantL c = 2 then 32 else if wantL c = 3 then 16 else 8) := by
  rcases putL_cases n with ⟨h', _⟩ | ⟨_, _, h'⟩ | ⟨_, _, h'⟩ | ⟨_, _, _, h'⟩ | ⟨_, _, h'⟩ <;> rw [h'] at h
  · cases h
  all_goals
    obtain ⟨h1, h2⟩ := List.cons.inj h
    rw [h']
  · have : wantL c = 1 := by unfold wantL; rw [if_neg (by omega), if_neg (by omega), if_neg (by omega)]
    rw [this]; refine ⟨rfl, ?_⟩; show c - 0 = c % 256; omega
  · have : wantL c = 2 := by unfold wantL; rw [if_neg (by omega), if_neg (by omega), if_pos (by omega)]
    rw [this]; refine ⟨rfl, ?_⟩; show c - 192 = c % 32; omega
  · have : wantL c = 3 := by unfold wantL; rw [if_neg (by omega), if_pos (by omega)]
    rw [this]; refine ⟨rfl, ?_⟩; show c - 224 = c % 16; omega
  · have : wantL c = 4 := by unfold wantL; rw [if_pos (by omega)]
    rw [this]; refine ⟨rfl, ?_⟩; show c - 240 = c % 8; omega
/-- A letter's bytes, whatever stands behind them, tell it. -/
theorem cand_put {n : Int} (h : putL n ≠ []) (s : List Int) : candL (putL n ++ s) = n := by
  rcases putL_cases n with ⟨h', _⟩ | ⟨_, _, h'⟩ | ⟨_, _, h'⟩ | ⟨_, _, _, h'⟩ | ⟨_, _, h'⟩
  · exact absurd h' h
  all_goals
    have hw := (putL_want h').1
    rw [h'] at hw
    simp only [List.length_cons, List.length_nil, Nat.zero_add, Nat.reduceAdd] at hw
    rw [h']
    simp only [candL, List.cons_append, List.nil_append, List.getD_cons_zero, hw, markL, Nat.reduceSub, accL, List.getD_cons_succ]
    simp
    try omega
theorem nx_put {n : Int} (h : putL n ≠ []) (s : List Int) : nxL (putL n ++ s) = (n, (putL n).length) := by
  obtain ⟨c, r, hc⟩ := List.exists_cons_of_ne_nil h
  have hw := (putL_want hc).1
  have h0 : (putL n ++ s).getD 0 0 = c := by rw [hc]; rfl
  have hl : (putL n).length ≠ 0 := by simpa using h
  unfold nxL
  rw [h0, if_neg (by rw [List.length_append]; omega), if_neg (by rw [List.length_append, hw]; omega), cand_put h, hw, if_pos (by simp)]
/-- What nxL tells. -/
theorem nx_cases (l : List Int) : (nxL l = (-1, 0) ∧ l = []) ∨ (nxL l = (-1, 1) ∧ l ≠ []) ∨
    (nxL l = (candL l, wantL (l.getD 0 0)) ∧ wantL (l.getD 0 0) ≤ l.length ∧ putL (candL l) = l.take (wantL (l.getD 0 0)) ∧ (putL (candL l)).length = wantL (l.getD 0 0) ∧ 0 ≤ candL l) := by
  by_cases h0 : l.length = 0
  · exact .inl ⟨by unfold nxL; rw [if_pos h0], List.eq_nil_of_length_eq_zero h0⟩
  · have hne : l ≠ [] := fun e => h0 (by rw [e]; rfl)
    by_cases h1 : l.length < wantL (l.getD 0 0)
    · exact .inr (.inl ⟨by unfold nxL; rw [if_neg h0, if_pos h1], hne⟩)
    · by_cases h2 : putL (candL l) = l.take (wantL (l.getD 0 0))
      · have hl : (putL (candL l)).length = wantL (l.getD 0 0) := by rw [h2, List.length_take]; omega
        refine .inr (.inr ⟨by unfold nxL; rw [if_neg h0, if_neg h1, if_pos h2], by omega, h2, hl, ?_⟩)
        rcases Int.lt_or_le (candL l) 0 with hn | hn
        · rw [putL_none (.inl hn), List.length_nil] at hl
          have := wantL_bd (l.getD 0 0)
          omega
        · exact hn
      · exact .inr (.inl ⟨by unfold nxL; rw [if_neg h0, if_neg h1, if_neg h2], hne⟩)
theorem nx_bd (l : List Int) : -1 ≤ (nxL l).1 ∧ (nxL l).1 ≤ 1114111 ∧ (nxL l).2 ≤ 4 ∧ (nxL l).2 ≤ l.length := by
  rcases nx_cases l with ⟨h, e⟩ | ⟨h, e⟩ | ⟨h, h1, h2, h3, h4⟩
  · rw [h]; simp
  · rw [h]
    have : l.length ≠ 0 := fun h => e (List.eq_nil_of_length_eq_zero h)
    refine ⟨?_, ?_, ?_, ?_⟩ <;> simp <;> omega
  · rw [h]
    have hw := wantL_bd (l.getD 0 0)
    refine ⟨by show -1 ≤ candL l; omega, ?_, hw.2, h1⟩
    show candL l ≤ 1114111
    rcases Int.lt_or_le 1114111 (candL l) with hn | hn
    · rw [putL_none (.inr (.inl hn)), List.length_nil] at h3
      omega
    · exact hn
/-- A letter was found. -/
theorem nx_found {l : List Int} (h : (nxL l).1 ≠ -1) : putL (nxL l).1 = l.take (nxL l).2 ∧ (putL (nxL l).1).length = (nxL l).2 ∧ 1 ≤ (nxL l).2 ∧ (nxL l).2 ≤ l.length ∧ (nxL l).2 ≤ 4 ∧ 0 ≤ (nxL l).1 ∧ putL (nxL l).1 ≠ [] := by
  rcases nx_cases l with ⟨e, _⟩ | ⟨e, _⟩ | ⟨e, h1, h2, h3, h4⟩
  · rw [e] at h; exact absurd rfl h
  · rw [e] at h; exact absurd rfl h
  · have hw := wantL_bd (l.getD 0 0)
    rw [e]
    refine ⟨h2, h3, hw.1, h1, hw.2, h4, fun hn => ?_⟩
    simp only at hn
    rw [hn, List.length_nil] at h3
    omega
/-- The place of the first byte from which no letter goes on, as told from 'at' on; the length, if there is none. -/
def endL (l : List Int) : Nat → Nat
  | 0 => 0
  | fuel + 1 => if (nxL l).1 = -1 then 0 else (nxL l).2 + endL (l.drop (nxL l).2) fuel
theorem endL_fuel : ∀ (f g : Nat) (l : List Int), l.length ≤ f → l.length ≤ g → endL l f = endL l g
  | 0, 0, _, _, _ => rfl
  | 0, g + 1, l, h, _ => by
    obtain rfl := List.eq_nil_of_length_eq_zero (Nat.le_zero.1 h)
    rfl
  | f + 1, 0, l, _, h => by
    obtain rfl := List.eq_nil_of_length_eq_zero (Nat.le_zero.1 h)
    rfl
  | f + 1, g + 1, l, hf, hg => by
    rw [endL, endL]
    split
    · rfl
    · rename_i h
      have := nx_found h
      rw [endL_fuel f g _ (by rw [List.length_drop]; omega) (by rw [List.length_drop]; omega)]
/-- The first place from which no letter's bytes go on; the length, if there is none. -/
def badU (l : List Int) : Nat := endL l l.length
theorem badU_stop {l : List Int} (h : (nxL l).1 = -1) : badU l = 0 := by
  unfold badU
  cases hl : l.length with
  | zero => rfl
  | succ k => rw [endL, if_pos h]
theorem badU_go {l : List Int} (h : (nxL l).1 ≠ -1) : badU l = (nxL l).2 + badU (l.drop (nxL l).2) := by
  have := nx_found h
  unfold badU
  cases hl : l.length with
  | zero => omega
  | succ k =>
    rw [endL, if_neg h, endL_fuel k _ (l.drop (nxL l).2) (by rw [List.length_drop]; omega) (Nat.le_refl _)]
theorem badU_le : ∀ (n : Nat) (l : List Int), l.length ≤ n → badU l ≤ l.length
  | 0, l, h => by
    obtain rfl := List.eq_nil_of_length_eq_zero (Nat.le_zero.1 h)
    exact Nat.le_refl _
  | n + 1, l, hl => by
    by_cases h : (nxL l).1 = -1
    · rw [badU_stop h]; omega
    · have hf := nx_found h
      have := badU_le n (l.drop (nxL l).2) (by rw [List.length_drop]; omega)
      rw [List.length_drop] at this
      rw [badU_go h]; omega
theorem badU_le' (l : List Int) : badU l ≤ l.length := badU_le _ l (Nat.le_refl _)
/-- From a place that was reached on. -/
theorem badU_from {l : List Int} {at_ : Nat} (h : badU l = at_ + badU (l.drop at_)) (hn : (nxL (l.drop at_)).1 ≠ -1) :
    badU l = (at_ + (nxL (l.drop at_)).2) + badU (l.drop (at_ + (nxL (l.drop at_)).2)) := by
  rw [h, badU_go hn, List.drop_drop]; omega
end Go.Proofs.YtcjfealalokjaaaGreatDoor
namespace Go.Proofs.YtcjfealalokjaaaGreatDoor
open Go Go.RowKit
def isD (c : Int) : Bool := decide (48 ≤ c ∧ c ≤ 57)
theorem isD_iff {c : Int} : isD c = true ↔ 48 ≤ c ∧ c ≤ 57 := by unfold isD; rw [decide_eq_true_eq]
/-! ### A number's text -/
/-- The digits of a number that isn't below 0. -/
def digL (n : Nat) : List Int := if h : n < 10 then [48 + (n : Int)] else digL (n / 10) ++ [48 + ((n % 10 : Nat) : Int)]
termination_by n
decreasing_by omega
theorem digL_one {n : Nat} (h : n < 10) : digL n = [48 + (n : Int)] := by rw [digL, dif_pos h]
theorem digL_more {n : Nat} (h : ¬ n < 10) : digL n = digL (n / 10) ++ [48 + ((n % 10 : Nat) : Int)] := by rw [digL, dif_neg h]
/-- A number's text. -/
def prL (n : Int) : List Int := if n < 0 then 45 :: digL n.natAbs else digL n.natAbs
theorem digL_digits : ∀ (n : Nat), ∀ x ∈ digL n, 48 ≤ x ∧ x ≤ 57 := fun n => by
  induction n using Nat.strongRecOn with
  | _ n ih =>
    intro x hx
    by_cases h : n < 10
    · rw [digL_one h] at hx
      simp at hx; omega
    · rw [digL_more h] at hx
      rcases List.mem_append.1 hx with hx | hx
      · exact ih (n / 10) (by omega) x hx
      · simp at hx; omega
theorem digL_ne (n : Nat) : digL n ≠ [] := by
  by_cases h : n < 10
  · rw [digL_one h]; simp
  · rw [digL_more h]; simp
/-- The first digit of a number above 0 is none of 0. -/
theorem digL_first : ∀ (n : Nat), 0 < n → 49 ≤ (digL n).getD 0 0 := fun n => by
  induction n using Nat.strongRecOn with
  | _ n ih =>
    intro hn
    by_cases h : n < 10
    · rw [digL_one h]; simp; omega
    · rw [digL_more h]
      have h1 := ih (n / 10) (by omega) (by omega)
      have hne := digL_ne (n / 10)
      obtain ⟨c, r, hc⟩ := List.exists_cons_of_ne_nil hne
      rw [hc] at h1 ⊢
      simpa using h1
theorem digL_bytes (n : Nat) : Bytes (digL n) := .of_mem fun x hx => by have := digL_digits n x hx; omega
theorem prL_bytes (n : Int) : Bytes (prL n) := by
  unfold prL
  split
  · exact .of_mem fun x hx => by
      rcases List.mem_cons.1 hx with rfl | hx
      · decide
      · have := digL_digits _ x hx; omega
  · exact digL_bytes _
theorem digL_len : ∀ (k n : Nat), n < 10 ^ (k + 1) → (digL n).length ≤ k + 1
  | 0, n, h => by rw [digL_one (by simpa using h)]; simp
  | k + 1, n, h => by
    by_cases h' : n < 10
    · rw [digL_one h']; simp
    · rw [digL_more h', List.length_append]
      have := digL_len k (n / 10) (by rw [Nat.pow_succ] at h; omega)
      simp; omega
/-! ### The number of digits -/
def valL : List Int → Nat
  | [] => 0
  | l => l.foldl (fun a c => a * 10 + (c - 48).toNat) 0
theorem valL_eq (l : List Int) : valL l = l.foldl (fun a c => a * 10 + (c - 48).toNat) 0 := by cases l <;> rfl
theorem valL_snoc (l : List Int) (c : Int) : valL (l ++ [c]) = valL l * 10 + (c - 48).toNat := by
  rw [valL_eq, valL_eq, List.foldl_append]; rfl
/-! ### How much of a text is a number's -/
/-- How many digits stand ahead. -/
def runL : List Int → Nat
  | [] => 0
  | c :: r => if isD c then runL r + 1 else 0
theorem runL_le : ∀ l, runL l ≤ l.length
  | [] => Nat.le_refl _
  | c :: r => by
    have := runL_le r
    rw [runL]; split <;> simp <;> omega
theorem runL_digit : ∀ (l : List Int) (k : Nat), k < runL l → isD (l.getD k 0) = true
  | [], k, h => absurd h (Nat.not_lt_zero _)
  | c :: r, k, h => by
    rw [runL] at h
    split at h
    · rename_i hc
      cases k with
      | zero => exact hc
      | succ k => exact runL_digit r k (by omega)
    · exact absurd h (Nat.not_lt_zero _)
/-- How many bytes ahead are a number's text, as many as may be. -/
def leadL : List Int → Nat
  | [] => 0
  | c :: r => if c = 45 then (if 49 ≤ r.getD 0 0 ∧ r.getD 0 0 ≤ 57 then runL r + 1 else 0) else if c = 48 then 1 else runL (c :: r)
/-- Is it wholly a number's text? -/
def formL (l : List Int) : Bool := decide (l ≠ [] ∧ leadL l = l.length)
theorem leadL_le : ∀ l, leadL l ≤ l.length
  | [] => Nat.le_refl _
  | c :: r => by
    have h1 := runL_le r
    have h2 := runL_le (c :: r)
    rw [leadL]
    split
    · split
      · simp; omega
      · simp
    · split
      · simp
      · exact h2
end Go.Proofs.YtcjfealalokjaaaGreatDoor
namespace Go.Proofs.YtcjfealalokjaaaGreatDoor
open Go Go.RowKit
def AllD (l : List Int) : Prop := ∀ x ∈ l, 48 ≤ x ∧ x ≤ 57
theorem AllD.at {l : List Int} (h : AllD l) (k : Nat) (hk : k < l.length) : 48 ≤ l.getD k 0 ∧ l.getD k 0 ≤ 57 := by
  rw [List.getD_eq_getElem?_getD, List.getElem?_eq_getElem hk]
  exact h _ (List.getElem_mem hk)
theorem runL_all : ∀ {l : List Int}, AllD l → runL l = l.length
  | [], _ => rfl
  | c :: r, h => by
    rw [runL, if_pos (isD_iff.2 (h c (by simp))), runL_all (fun x hx => h x (List.mem_cons_of_mem _ hx))]; rfl
theorem all_runL : ∀ {l : List Int}, runL l = l.length → AllD l
  | [], _ => fun x hx => by cases hx
  | c :: r, h => by
    rw [runL] at h
    by_cases hc : isD c = true
    · rw [if_pos hc] at h
      have := all_runL (l := r) (by simpa using h)
      intro x hx
      rcases List.mem_cons.1 hx with rfl | hx
      · exact isD_iff.1 hc
      · exact this x hx
    · rw [if_neg hc] at h
      simp at h
/-- Texts that don't begin with -. -/
theorem formL_plain {l : List Int} (h : l.getD 0 0 ≠ 45) : formL l = true ↔ AllD l ∧ (l.length = 1 ∨ 1 < l.length ∧ l.getD 0 0 ≠ 48) := by
  unfold formL
  rw [decide_eq_true_eq]
  cases l with
  | nil => simp
  | cons c r =>
    rw [List.getD_cons_zero] at h ⊢
    rw [leadL, if_neg h]
    by_cases h48 : c = 48
    · rw [if_pos h48]
      constructor
      · rintro ⟨_, h1⟩
        have : r = [] := List.eq_nil_of_length_eq_zero (by simpa using h1.symm)
        subst this
        exact ⟨fun x hx => by simp at hx; omega, .inl rfl⟩
      · rintro ⟨_, h1 | ⟨_, h1⟩⟩
        · exact ⟨by simp, h1.symm⟩
        · exact absurd h48 h1
    · rw [if_neg h48]
      constructor
      · rintro ⟨_, h1⟩
        refine ⟨all_runL h1, ?_⟩
        cases r with
        | nil => exact .inl rfl
        | cons a t => exact .inr ⟨by simp, h48⟩
      · rintro ⟨h1, _⟩
        exact ⟨by simp, runL_all h1⟩
/-- Texts that begin with -. -/
theorem formL_dash (r : List Int) : formL (45 :: r) = true ↔ r ≠ [] ∧ r.getD 0 0 ≠ 48 ∧ r.getD 0 0 ≠ 45 ∧ formL r = true := by
  have hl : leadL (45 :: r) = if 49 ≤ r.getD 0 0 ∧ r.getD 0 0 ≤ 57 then runL r + 1 else 0 := by rw [leadL, if_pos rfl]
  have h0 : formL (45 :: r) = true ↔ leadL (45 :: r) = r.length + 1 := by
    unfold formL; rw [decide_eq_true_eq]; simp
  rw [h0, hl]
  constructor
  · intro h
    split at h
    · rename_i hc
      have hne : r ≠ [] := fun e => by rw [e] at hc; simp at hc
      have hall := all_runL (l := r) (by omega)
      refine ⟨hne, by omega, by omega, (formL_plain (by omega)).2 ⟨hall, ?_⟩⟩
      have := List.length_pos_iff.2 hne
      rcases Nat.lt_or_ge 1 r.length with h1 | h1
      · exact .inr ⟨h1, by omega⟩
      · exact .inl (by omega)
    · omega
  · rintro ⟨hne, h48, h45, hf⟩
    obtain ⟨hall, _⟩ := (formL_plain h45).1 hf
    have := hall.at 0 (List.length_pos_iff.2 hne)
    rw [if_pos (by omega), runL_all hall]
/-! ### Which number is less -/
theorem fold_acc : ∀ (l : List Int) (a : Nat), l.foldl (fun a c => a * 10 + (c - 48).toNat) a = a * 10 ^ l.length + valL l
  | [], a => by rw [valL_eq]; simp
  | c :: r, a => by
    rw [List.foldl_cons, fold_acc r, valL_eq (c :: r), List.foldl_cons, fold_acc r, List.length_cons, Nat.pow_succ]
    rw [Nat.add_mul, Nat.zero_mul, Nat.zero_add, Nat.mul_assoc, Nat.mul_comm 10]
    omega
theorem valL_app (a b : List Int) : valL (a ++ b) = valL a * 10 ^ b.length + valL b := by
  rw [valL_eq, List.foldl_append, fold_acc, ← valL_eq]
theorem valL_take_le (l : List Int) (k : Nat) : valL (l.take k) ≤ valL l := by
  have h := valL_app (l.take k) (l.drop k)
  rw [List.take_append_drop] at h
  have : valL (l.take k) * 1 ≤ valL (l.take k) * 10 ^ (l.drop k).length := Nat.mul_le_mul_left _ (Nat.pow_pos (by decide))
  omega
/-! ### What is read -/
/-- The number of a number's text. -/
def numL (l : List Int) : Int := if l.getD 0 0 = 45 then -(valL (l.drop 1) : Int) else (valL l : Int)
/-- Does it fit? -/
def fitL (l : List Int) (least most : Int) : Bool := decide (-9223372036854775808 ≤ numL l ∧ numL l ≤ 9223372036854775807 ∧ least ≤ numL l ∧ numL l ≤ most)
theorem formL_parts {l : List Int} (h : formL l = true) : (l.getD 0 0 = 45 ∧ AllD (l.drop 1) ∧ 49 ≤ (l.drop 1).getD 0 0 ∧ l = 45 :: l.drop 1) ∨ (l.getD 0 0 ≠ 45 ∧ AllD l ∧ l ≠ [] ∧ (49 ≤ l.getD 0 0 ∨ l.length = 1)) := by
  by_cases h45 : l.getD 0 0 = 45
  · cases l with
    | nil => simp at h45
    | cons c r =>
      rw [List.getD_cons_zero] at h45
      subst h45
      obtain ⟨hne, h1, h2, hf⟩ := (formL_dash r).1 h
      obtain ⟨hall, _⟩ := (formL_plain h2).1 hf
      have := hall.at 0 (List.length_pos_iff.2 hne)
      exact .inl ⟨rfl, hall, by show 49 ≤ r.getD 0 0; omega, rfl⟩
  · obtain ⟨hall, h1⟩ := (formL_plain h45).1 h
    have hne : l ≠ [] := fun e => by subst e; simp at h1
    refine .inr ⟨h45, hall, hne, ?_⟩
    rcases h1 with h1 | ⟨_, h1⟩
    · exact .inr h1
    · have := hall.at 0 (List.length_pos_iff.2 hne)
      exact .inl (by omega)
theorem form_digL (n : Nat) : formL (digL n) = true := by
  have h1 := digL_digits n
  have hne := digL_ne n
  have h0 := AllD.at (l := digL n) h1 0 (List.length_pos_iff.2 hne)
  refine (formL_plain (by omega)).2 ⟨h1, ?_⟩
  rcases Nat.eq_zero_or_pos n with h | h
  · subst h; left; rw [digL_one (by decide)]; rfl
  · have := digL_first n h
    rcases Nat.lt_or_ge 1 (digL n).length with h2 | h2
    · exact .inr ⟨h2, by omega⟩
    · left
      have := List.length_pos_iff.2 hne
      omega
theorem form_prL (n : Int) : formL (prL n) = true := by
  unfold prL
  split
  · rename_i h
    have hpos : 0 < n.natAbs := by omega
    have := digL_first n.natAbs hpos
    exact (formL_dash _).2 ⟨digL_ne _, by omega, by omega, form_digL _⟩
  · exact form_digL _
end Go.Proofs.YtcjfealalokjaaaGreatDoor
namespace Go.Proofs.YtcjfealalokjaaaGreatDoor
open Go Go.RowKit
/-- May it stand in a word? -/
def smallC (c : Int) : Bool := decide (97 ≤ c ∧ c ≤ 122 ∨ c = 95)
theorem smallC_iff {c : Int} : smallC c = true ↔ (97 ≤ c ∧ c ≤ 122 ∨ c = 95) := by unfold smallC; rw [decide_eq_true_eq]
theorem smallC_false {c : Int} : smallC c = false ↔ ¬ (97 ≤ c ∧ c ≤ 122 ∨ c = 95) := by unfold smallC; rw [decide_eq_false_iff_not]
/-- How many bytes ahead are those of words. -/
def wordN : List Int → Nat
  | [] => 0
  | c :: r => if smallC c then wordN r + 1 else 0
theorem wordN_le : ∀ l, wordN l ≤ l.length
  | [] => Nat.le_refl _
  | c :: r => by have := wordN_le r; rw [wordN]; split <;> simp <;> omega
theorem wordN_stop {c : Int} {r : List Int} (h : smallC c = false) : wordN (c :: r) = 0 := by rw [wordN, if_neg (by rw [h]; decide)]
theorem wordN_go {c : Int} {r : List Int} (h : smallC c = true) : wordN (c :: r) = wordN r + 1 := by rw [wordN, if_pos h]
/-! ### Blanks and remarks -/
def blankC (c : Int) : Bool := decide (c = 32 ∨ c = 9 ∨ c = 10 ∨ c = 13)
/-- How many bytes ahead are blanks and remarks (within a remark: true). -/
def gapM : Bool → List Int → Nat
  | _, [] => 0
  | true, c :: r => if c = 10 then gapM false r + 1 else gapM true r + 1
  | false, c :: r => if blankC c then gapM false r + 1 else if c = 35 then gapM true r + 1 else 0
/-- How many bytes up to the next end of a line. -/
def remN : List Int → Nat
  | [] => 0
  | c :: r => if c = 10 then 0 else remN r + 1
theorem gapM_le : ∀ (b : Bool) (l : List Int), gapM b l ≤ l.length
  | _, [] => by simp [gapM]
  | true, c :: r => by have h1 := gapM_le true r; have h2 := gapM_le false r; rw [gapM]; split <;> simp <;> omega
  | false, c :: r => by have h1 := gapM_le true r; have h2 := gapM_le false r; rw [gapM]; split <;> (try split) <;> simp <;> omega
theorem remN_le : ∀ l, remN l ≤ l.length
  | [] => Nat.le_refl _
  | c :: r => by have := remN_le r; rw [remN]; split <;> simp <;> omega
theorem gapM_blank {c : Int} {r : List Int} (h : blankC c = true) : gapM false (c :: r) = gapM false r + 1 := by rw [gapM, if_pos h]
theorem gapM_none {c : Int} {r : List Int} (h : blankC c = false) (h2 : c ≠ 35) : gapM false (c :: r) = 0 := by rw [gapM, if_neg (by rw [h]; decide), if_neg h2]
theorem gapM_rem : ∀ r : List Int, gapM true r = remN r + gapM false (r.drop (remN r))
  | [] => by simp [gapM, remN]
  | c :: r => by
    by_cases h : c = 10
    · subst h; rw [gapM, if_pos rfl, remN, if_pos rfl, List.drop_zero, gapM_blank (by decide)]; omega
    · rw [gapM, if_neg h, remN, if_neg h, List.drop_succ_cons, gapM_rem r]; omega
theorem gapM_remark (r : List Int) : gapM false (35 :: r) = remN (35 :: r) + gapM false ((35 :: r).drop (remN (35 :: r))) := by
  rw [gapM, if_neg (by decide), if_pos rfl, gapM_rem, remN, if_neg (by decide), List.drop_succ_cons]; omega
/-! ### Signs -/
def oneC (c : Int) : Bool := decide (c = 40 ∨ c = 41 ∨ c = 91 ∨ c = 93 ∨ c = 44 ∨ c = 59 ∨ c = 61 ∨ c = 60 ∨ c = 62)
/-- How many bytes ahead are a sign. -/
def signN : List Int → Nat
  | [] => 0
  | [c] => if oneC c then 1 else 0
  | c :: d :: _ => if d = 61 ∧ (c = 33 ∨ c = 60 ∨ c = 62) then 2 else if oneC c then 1 else 0
theorem signN_le : ∀ l, signN l ≤ l.length ∧ signN l ≤ 2
  | [] => by simp [signN]
  | [c] => by rw [signN]; split <;> simp
  | c :: d :: r => by rw [signN]; split <;> (try split) <;> simp
/-! ### Within quotes -/
def quotF : Nat → List Int → List Int × Nat × Bool
  | 0, _ => ([], 0, false)
  | _ + 1, [] => ([], 0, false)
  | f + 1, c :: r => if c < 32 then ([], 0, false) else if c = 34 then ([], 1, true)
    else if c = 92 then (if r ≠ [] ∧ (r.getD 0 0 = 34 ∨ r.getD 0 0 = 92) then (r.getD 0 0 :: (quotF f (r.drop 1)).1, (quotF f (r.drop 1)).2.1 + 2, (quotF f (r.drop 1)).2.2) else ([], 1, false))
    else if (nxL (c :: r)).1 = -1 then ([], 0, false)
    else ((c :: r).take (nxL (c :: r)).2 ++ (quotF f ((c :: r).drop (nxL (c :: r)).2)).1, (quotF f ((c :: r).drop (nxL (c :: r)).2)).2.1 + (nxL (c :: r)).2, (quotF f ((c :: r).drop (nxL (c :: r)).2)).2.2)
/-- What stands within quotes, behind the first: its text, how far it goes, whether it ends well. -/
def quotN (l : List Int) : List Int × Nat × Bool := quotF (l.length + 1) l
def appQ (x : List Int) (k : Nat) (z : List Int × Nat × Bool) : List Int × Nat × Bool := (x ++ z.1, z.2.1 + k, z.2.2)
theorem appQ_app (x y : List Int) (a b : Nat) (z : List Int × Nat × Bool) : appQ x a (appQ y b z) = appQ (x ++ y) (a + b) z := by
  simp [appQ]; omega
theorem quotF_nil (f : Nat) : quotF f [] = ([], 0, false) := by cases f <;> rfl
theorem quotF_low {f : Nat} {c : Int} {r : List Int} (h : c < 32) : quotF (f + 1) (c :: r) = ([], 0, false) := by rw [quotF, if_pos h]
theorem quotF_end {f : Nat} {r : List Int} : quotF (f + 1) (34 :: r) = ([], 1, true) := by rw [quotF, if_neg (by decide), if_pos rfl]
theorem quotF_esc {f : Nat} {d : Int} {r : List Int} (h : d = 34 ∨ d = 92) : quotF (f + 1) (92 :: d :: r) = appQ [d] 2 (quotF f r) := by
  rw [quotF, if_neg (by decide), if_neg (by decide), if_pos rfl, if_pos ⟨by simp, by simpa using h⟩]; rfl
theorem quotF_esc_no {f : Nat} {r : List Int} (h : ¬ (r ≠ [] ∧ (r.getD 0 0 = 34 ∨ r.getD 0 0 = 92))) : quotF (f + 1) (92 :: r) = ([], 1, false) := by
  rw [quotF, if_neg (by decide), if_neg (by decide), if_pos rfl, if_neg h]
theorem quotF_bad {f : Nat} {c : Int} {r : List Int} (h0 : ¬ c < 32) (h1 : c ≠ 34) (h2 : c ≠ 92) (h : (nxL (c :: r)).1 = -1) : quotF (f + 1) (c :: r) = ([], 0, false) := by
  rw [quotF, if_neg h0, if_neg h1, if_neg h2, if_pos h]
theorem quotF_go {f : Nat} {c : Int} {r : List Int} (h0 : ¬ c < 32) (h1 : c ≠ 34) (h2 : c ≠ 92) (h : (nxL (c :: r)).1 ≠ -1) :
    quotF (f + 1) (c :: r) = appQ ((c :: r).take (nxL (c :: r)).2) (nxL (c :: r)).2 (quotF f ((c :: r).drop (nxL (c :: r)).2)) := by
  rw [quotF, if_neg h0, if_neg h1, if_neg h2, if_neg h]; rfl
theorem quotF_le : ∀ (f : Nat) (l : List Int), (quotF f l).2.1 ≤ l.length
  | 0, _ => Nat.zero_le _
  | _ + 1, [] => Nat.zero_le _
  | f + 1, c :: r => by
    rw [quotF]
    have h1 := quotF_le f (r.drop 1)
    have h2 := quotF_le f ((c :: r).drop (nxL (c :: r)).2)
    have h3 := (nx_bd (c :: r)).2.2.2
    rw [List.length_drop] at h1 h2
    split
    · simp
    · split
      · simp
      · split
        · split
          · rename_i hr
            have : 0 < r.length := by
              rcases r with _ | ⟨x, y⟩
              · exact absurd rfl hr.1
              · simp
            simp only [List.length_cons]; omega
          · simp
        · split
          · simp
          · simp only [List.length_cons] at h2 h3 ⊢; omega
theorem quotN_le (l : List Int) : (quotN l).2.1 ≤ l.length := quotF_le _ l
/-! ### The token ahead -/
structure TokR where
  err : Int
  off : Nat
  kind : Int
  text : List Int
  num : Int
  size : Nat
def tokL : List Int → TokR
  | [] => ⟨0, 0, 5, [], 0, 0⟩
  | c :: r =>
    if smallC c then (if 32 < wordN (c :: r) then ⟨110, 0, 1, [], 0, 0⟩ else ⟨0, 0, 1, (c :: r).take (wordN (c :: r)), 0, wordN (c :: r)⟩)
    else if c = 34 then (if (quotN r).2.2 then ⟨0, 0, 2, (quotN r).1, 0, (quotN r).2.1 + 1⟩ else ⟨110, (quotN r).2.1 + 1, 2, [], 0, 0⟩)
    else if 0 < leadL (c :: r) then (if fitL ((c :: r).take (leadL (c :: r))) (-9007199254740991) 9007199254740991 then ⟨0, 0, 3, [], numL ((c :: r).take (leadL (c :: r))), leadL (c :: r)⟩ else ⟨41, 0, 3, [], 0, 0⟩)
    else if 0 < signN (c :: r) then ⟨0, 0, 4, (c :: r).take (signN (c :: r)), 0, signN (c :: r)⟩
    else ⟨110, 0, 0, [], 0, 0⟩
/-- A token as it lies in memory. -/
structure TokM where
  kind : Int
  text : ByteArray
  num : Int
  pos : Int
/-- Its cells. -/
def cellsT (t : TokM) : List Value := [.int .i64 t.kind, .string t.text, .int .i64 t.num, .int .i64 t.pos]
def endT (p : Nat) : TokM := ⟨5, ⟨#[]⟩, 0, (p : Int)⟩
def madeT (t : TokR) (p : Nat) : TokM := ⟨t.kind, toS t.text, t.num, (p : Int)⟩
/-- The tokens from a place on (tokens, error's number, place). -/
def scanF : Nat → List Int → Nat → List TokM → List TokM × Int × Int
  | 0, _, _, _ => ([], 0, -1)
  | f + 1, l, p, acc =>
    if (tokL (l.drop (gapM false l))).err ≠ 0 then ([], (tokL (l.drop (gapM false l))).err, ((p + gapM false l + (tokL (l.drop (gapM false l))).off : Nat) : Int))
    else if l.length ≤ gapM false l then (acc ++ [endT (p + gapM false l)], 0, -1)
    else if acc.length = 512 then ([], 53, ((p + gapM false l : Nat) : Int))
    else scanF f (l.drop (gapM false l + (tokL (l.drop (gapM false l))).size)) (p + (gapM false l + (tokL (l.drop (gapM false l))).size)) (acc ++ [madeT (tokL (l.drop (gapM false l))) (p + gapM false l)])
def scanL (s : List Int) : List TokM × Int × Int := if 2048 < s.length then ([], 2, -1) else scanF (s.length + 1) s 0 []
theorem tokL_cons (c : Int) (r : List Int) : tokL (c :: r) = (
    if smallC c then (if 32 < wordN (c :: r) then ⟨110, 0, 1, [], 0, 0⟩ else ⟨0, 0, 1, (c :: r).take (wordN (c :: r)), 0, wordN (c :: r)⟩)
    else if c = 34 then (if (quotN r).2.2 then ⟨0, 0, 2, (quotN r).1, 0, (quotN r).2.1 + 1⟩ else ⟨110, (quotN r).2.1 + 1, 2, [], 0, 0⟩)
    else if 0 < leadL (c :: r) then (if fitL ((c :: r).take (leadL (c :: r))) (-9007199254740991) 9007199254740991 then ⟨0, 0, 3, [], numL ((c :: r).take (leadL (c :: r))), leadL (c :: r)⟩ else ⟨41, 0, 3, [], 0, 0⟩)
    else if 0 < signN (c :: r) then ⟨0, 0, 4, (c :: r).take (signN (c :: r)), 0, signN (c :: r)⟩
    else ⟨110, 0, 0, [], 0, 0⟩) := rfl
theorem tokL_size {c : Int} {r : List Int} (h : (tokL (c :: r)).err = 0) : 1 ≤ (tokL (c :: r)).size ∧ (tokL (c :: r)).size ≤ (c :: r).length := by
  have hw := wordN_le (c :: r)
  have hq := quotN_le r
  have hl := leadL_le (c :: r)
  have hs := (signN_le (c :: r)).1
  rw [tokL_cons] at h ⊢
  by_cases h1 : smallC c = true
  · rw [if_pos h1] at h ⊢
    by_cases h2 : 32 < wordN (c :: r)
    · rw [if_pos h2] at h; exact absurd h (by decide)
    · rw [if_neg h2]; refine ⟨?_, hw⟩; show 1 ≤ wordN (c :: r); rw [wordN_go h1]; omega
  · rw [if_neg h1] at h ⊢
    by_cases h2 : c = 34
    · rw [if_pos h2] at h ⊢
      cases h3 : (quotN r).2.2 with
      | true => rw [if_pos rfl]; simp only [List.length_cons]; omega
      | false => rw [h3, if_neg (by decide)] at h; cases h
    · rw [if_neg h2] at h ⊢
      by_cases h3 : 0 < leadL (c :: r)
      · rw [if_pos h3] at h ⊢
        by_cases h4 : fitL ((c :: r).take (leadL (c :: r))) (-9007199254740991) 9007199254740991 = true
        · rw [if_pos h4]; exact ⟨h3, hl⟩
        · rw [if_neg h4] at h; exact absurd h (by decide)
      · rw [if_neg h3] at h ⊢
        by_cases h4 : 0 < signN (c :: r)
        · rw [if_pos h4]; exact ⟨h4, hs⟩
        · rw [if_neg h4] at h; exact absurd h (by decide)
end Go.Proofs.YtcjfealalokjaaaGreatDoor
namespace Go.Proofs.YtcjfealalokjaaaGreatDoor
open Go Go.RowKit
def esc1 (c : Int) : List Int := if c = 34 ∨ c = 92 then [92, c] else [c]
def escN (l : List Int) : List Int := l.flatMap esc1
theorem escN_cons (c : Int) (r : List Int) : escN (c :: r) = esc1 c ++ escN r := rfl
theorem escN_app (a b : List Int) : escN (a ++ b) = escN a ++ escN b := List.flatMap_append
theorem escN_len : ∀ l : List Int, (escN l).length ≤ 2 * l.length
  | [] => Nat.le_refl _
  | c :: r => by
    have := escN_len r
    rw [escN_cons, List.length_append]
    unfold esc1
    split <;> simp <;> omega
theorem escN_bytes {l : List Int} (h : Bytes l) : Bytes (escN l) := .of_mem fun x hx => by
  obtain ⟨c, hc, hx⟩ := List.mem_flatMap.1 hx
  have := h.mem hc
  unfold esc1 at hx
  split at hx <;> simp at hx <;> omega
theorem escN_take (l : List Int) (k : Nat) (h : k < l.length) : escN (l.take (k + 1)) = escN (l.take k) ++ esc1 (l.getD k 0) := by
  rw [List.take_succ_eq_append_getElem h, escN_app]
  congr 1
  rw [List.getD_eq_getElem?_getD, List.getElem?_eq_getElem h]
  simp [escN]
/-- Is no byte below 32? -/
def highL (l : List Int) : Bool := l.all fun c => decide (32 ≤ c)
theorem highL_take {l : List Int} {k : Nat} (h : ∀ i, i < k → 32 ≤ l.getD i 0) (hk : l.length ≤ k) : highL l = true := by
  unfold highL
  rw [List.all_eq_true]
  intro x hx
  obtain ⟨i, hi, rfl⟩ := List.mem_iff_getElem.1 hx
  have := h i (by omega)
  rw [List.getD_eq_getElem?_getD, List.getElem?_eq_getElem hi] at this
  exact decide_eq_true this
theorem highL_not {l : List Int} {k : Nat} (hk : k < l.length) (h : l.getD k 0 < 32) : highL l = false := by
  rw [Bool.eq_false_iff]
  intro hq
  unfold highL at hq
  rw [List.all_eq_true] at hq
  have := of_decide_eq_true (hq _ (List.getElem_mem hk))
  rw [List.getD_eq_getElem?_getD, List.getElem?_eq_getElem hk] at h
  simp at h
  omega
/-- s within quotes, and whether it can be. -/
def quoteN (l : List Int) : List Int × Bool := if badU l = l.length ∧ highL l = true then (34 :: (escN l ++ [34]), true) else ([], false)
theorem quoteN_bytes {l : List Int} (h : Bytes l) : Bytes (quoteN l).1 := by
  unfold quoteN
  split
  · exact .of_mem fun x hx => by
      rcases List.mem_cons.1 hx with rfl | hx
      · omega
      · rcases List.mem_append.1 hx with hx | hx
        · exact (escN_bytes h).mem hx
        · rw [List.mem_singleton.1 hx]; omega
  · exact .of_mem fun x hx => by cases hx
theorem quoteN_len (l : List Int) : (quoteN l).1.length ≤ 2 * l.length + 2 := by
  have := escN_len l
  unfold quoteN
  split
  · simp; omega
  · simp
/-- The text of a token. -/
def spellN (t : TokM) : List Int :=
  if t.kind = 1 then (if wordN (strL t.text) = t.text.size ∧ t.text.size ≤ 32 then strL t.text else [])
  else if t.kind = 2 then (quoteN (strL t.text)).1
  else if t.kind = 3 then (if -9007199254740991 ≤ t.num ∧ t.num ≤ 9007199254740991 then prL t.num else [])
  else if t.kind = 4 then (if signN (strL t.text) = t.text.size then strL t.text else [])
  else []
theorem prL_bd {n : Int} (h : -9007199254740991 ≤ n ∧ n ≤ 9007199254740991) : (prL n).length ≤ 17 := by
  unfold prL
  have := digL_len 15 n.natAbs (by omega)
  split <;> simp <;> omega
theorem spellN_bytes (t : TokM) : Bytes (spellN t) := by
  have hn : Bytes [] := .of_mem fun x hx => by cases hx
  unfold spellN
  split
  · split
    · exact strL_bd _
    · exact hn
  · split
    · exact quoteN_bytes (strL_bd _)
    · split
      · split
        · exact prL_bytes _
        · exact hn
      · split
        · split
          · exact strL_bd _
          · exact hn
        · exact hn
end Go.Proofs.YtcjfealalokjaaaGreatDoor
namespace Go.Proofs.YtcjfealalokjaaaGreatDoor
open Go Go.RowKit
abbrev MaxL (w : World) : Prop := ∃ m, w.cell? ⟨1, 0, none⟩ = some (.int .i64 m)
theorem MaxL.below {w w' : World} (h : MaxL w) (hb : Below w.heap.size w w') : MaxL w' := by
  obtain ⟨m, hm⟩ := h
  exact ⟨m, (hb.cell (p := ⟨1, 0, none⟩) (lt_of_cell hm)).trans hm⟩
theorem byte_of (s : ByteArray) (k : Nat) (h : k < s.size) : 0 ≤ (s[k].toNat : Int) ∧ (s[k].toNat : Int) ≤ 255 := by
  have := s[k].toNat_lt; omega
theorem drop_str (s : ByteArray) (k : Nat) (h : k < s.size) : (strL s).drop k = (s[k].toNat : Int) :: (strL s).drop (k + 1) := by
  have hl : k < (strL s).length := by rw [length_strL]; exact h
  have h2 := strL_get s k h
  rw [List.getD_eq_getElem?_getD, List.getElem?_eq_getElem hl] at h2
  rw [List.drop_eq_getElem_cons hl]
  congr 1
theorem str_nil {s : ByteArray} (h : s.size = 0) : s = ⟨#[]⟩ := strL_inj (by rw [List.eq_nil_of_length_eq_zero ((length_strL s).trans h)]; rfl)
/-! ### mustBeEscaped -/
def escC (c : Int) : Bool := decide (c = 34 ∨ c = 92)
theorem must_any (c : Int) (w : World) : Calls Tryz.prog 140 #[.int .i64 c] w fun e w' => e = .returned (.bool (escC c)) ∧ w = w' := by
  by_cases h1 : c = 34
  · subst h1
    go_enter Tryz.func140, Tryz.ntmps140
    go_wp2
    go_ret
    exact ⟨rfl, rfl⟩
  · by_cases h2 : c = 92
    · subst h2
      go_enter Tryz.func140, Tryz.ntmps140
      go_wp2
      go_ret
      exact ⟨rfl, rfl⟩
    · have e1 : (c == 34) = false := by rw [beq_eq_false_iff_ne]; exact h1
      have e2 : (c == 92) = false := by rw [beq_eq_false_iff_ne]; exact h2
      have he : escC c = false := decide_eq_false (by omega)
      rw [he]
      go_enter Tryz.func140, Tryz.ntmps140
      go_wp2
      go_ret
      exact ⟨rfl, rfl⟩
/-! ### leadWord -/
theorem small_cases (c : Int) : (smallC c = true ∧ c = 95) ∨ (smallC c = true ∧ (c == 95) = false ∧ ¬ c < 97 ∧ ¬ 122 < c) ∨ (smallC c = false ∧ (c == 95) = false ∧ c < 97) ∨ (smallC c = false ∧ (c == 95) = false ∧ ¬ c < 97 ∧ 122 < c) := by
  by_cases h : c = 95
  · exact .inl ⟨smallC_iff.2 (.inr h), h⟩
  · have hb : (c == 95) = false := by rw [beq_eq_false_iff_ne]; exact h
    by_cases h1 : c < 97
    · exact .inr (.inr (.inl ⟨smallC_false.2 (by omega), hb, h1⟩))
    · by_cases h2 : 122 < c
      · exact .inr (.inr (.inr ⟨smallC_false.2 (by omega), hb, h1, h2⟩))
      · exact .inr (.inl ⟨smallC_iff.2 (by omega), hb, h1, h2⟩)
set_option maxRecDepth 100000 in
set_option maxHeartbeats 2000000 in
theorem leadWord_any (s : ByteArray) (w : World) (hs : s.size ≤ 9223372036854775807) :
    Calls Tryz.prog 136 #[.string s] w fun e w' => e = .returned (.int .i64 (wordN (strL s) : Int)) ∧ w = w' := by
  go_enter Tryz.func136, Tryz.ntmps136
  go_wp2
  go_loop [7] (fun i => ∃ k : Nat, k ≤ s.size ∧ i = .int .i64 k ∧ Hid (wordN (strL s) = k + wordN ((strL s).drop k))) (fun i => s.size - (intOf i).toNat)
  case atStart => exact ⟨0, by omega, rfl, Lib.hid (by simp)⟩
  case round =>
    obtain ⟨k, hk, rfl, HW⟩ := hrel
    by_cases hlt : k < s.size
    · have hdr := drop_str s k hlt
      rcases small_cases (s[k].toNat : Int) with ⟨hsm, e1⟩ | ⟨hsm, e1, e2, e3⟩ | ⟨hsm, e1, e2⟩ | ⟨hsm, e1, e2, e3⟩
      · have HR : Hid (wordN (strL s) = (k + 1 : Nat) + wordN ((strL s).drop (k + 1))) := Lib.hid (by rw [HW.out, hdr, wordN_go hsm]; omega)
        have e1' : ((s[k].toNat : Int) == 95) = true := by rw [e1]; rfl
        clear hdr hsm
        go_wp2
        go_round
        case rel => exact ⟨k + 1, by omega, by go_num, HR⟩
        case measure => simp [intOf]; omega
      · have HR : Hid (wordN (strL s) = (k + 1 : Nat) + wordN ((strL s).drop (k + 1))) := Lib.hid (by rw [HW.out, hdr, wordN_go hsm]; omega)
        have n1 : ((s[k].toNat : Int) != 95) = true := by simp only [bne, e1, Bool.not_false]
        clear hdr hsm
        go_wp2
        go_round
        case rel => exact ⟨k + 1, by omega, by go_num, HR⟩
        case measure => simp [intOf]; omega
      · have HR : Hid (wordN (strL s) = k) := Lib.hid (by rw [HW.out, hdr, wordN_stop hsm]; rfl)
        have n1 : ((s[k].toNat : Int) != 95) = true := by simp only [bne, e1, Bool.not_false]
        clear hdr hsm
        go_wp2
        go_ret
        exact ⟨ret_int (by rw [HR.out]), rfl⟩
      · have HR : Hid (wordN (strL s) = k) := Lib.hid (by rw [HW.out, hdr, wordN_stop hsm]; rfl)
        have n1 : ((s[k].toNat : Int) != 95) = true := by simp only [bne, e1, Bool.not_false]
        clear hdr hsm
        go_wp2
        go_ret
        exact ⟨ret_int (by rw [HR.out]), rfl⟩
    · obtain rfl : k = s.size := by omega
      have HR : Hid (wordN (strL s) = s.size) := Lib.hid (by rw [HW.out, List.drop_eq_nil_of_le (by rw [length_strL]; exact Nat.le_refl _)]; rfl)
      have hi1 : ¬ (s.size : Int) < (s.size : Int) := by omega
      go_wp2
      go_ret
      exact ⟨ret_int (by rw [HR.out]), rfl⟩
/-! ### strings.IndexByte in what is known -/
theorem ixBlank_tab : ∀ n : Fin 256, decide (0 ≤ (Lib.indexByte [9, 10, 13, 32] ((n.val : Int).toNat.toUInt8) : Int)) = blankC n.val := by decide +kernel
theorem ixBlank_any (c : Int) (w : World) (h0 : 0 ≤ c) (h1 : c ≤ 255) :
    Calls Tryz.prog 134 #[.string ⟨#[9, 10, 13, 32]⟩, .int .u8 c] w fun e w' => (∃ x : Int, e = .returned (.int .i64 x) ∧ (blankC c = true → 0 ≤ x) ∧ (blankC c = false → ¬ 0 ≤ x)) ∧ w' = w := by
  refine (Tryz.strings_IndexByte _ c w).mono ?_
  rintro e w' ⟨rfl, rfl⟩
  obtain ⟨n, rfl⟩ := Int.eq_ofNat_of_zero_le h0
  have h := ixBlank_tab ⟨n, by omega⟩
  exact ⟨⟨_, rfl, fun hb => of_decide_eq_true (h.trans hb), fun hb => of_decide_eq_false (h.trans hb)⟩, rfl⟩
theorem ixSign_tab : ∀ n : Fin 256, decide (0 ≤ (Lib.indexByte [40, 41, 91, 93, 44, 59, 61, 60, 62] ((n.val : Int).toNat.toUInt8) : Int)) = oneC n.val := by decide +kernel
theorem ixSign_any (c : Int) (w : World) (h0 : 0 ≤ c) (h1 : c ≤ 255) :
    Calls Tryz.prog 134 #[.string ⟨#[40, 41, 91, 93, 44, 59, 61, 60, 62]⟩, .int .u8 c] w fun e w' => (∃ x : Int, e = .returned (.int .i64 x) ∧ (oneC c = true → 0 ≤ x) ∧ (oneC c = false → ¬ 0 ≤ x)) ∧ w' = w := by
  refine (Tryz.strings_IndexByte _ c w).mono ?_
  rintro e w' ⟨rfl, rfl⟩
  obtain ⟨n, rfl⟩ := Int.eq_ofNat_of_zero_le h0
  have h := ixSign_tab ⟨n, by omega⟩
  exact ⟨⟨_, rfl, fun hb => of_decide_eq_true (h.trans hb), fun hb => of_decide_eq_false (h.trans hb)⟩, rfl⟩
/-! ### leadGap -/
theorem indexB_at (c : UInt8) : ∀ l : List UInt8, (Lib.indexByte l c = -1 ∧ c ∉ l) ∨ ∃ a b, l = a ++ c :: b ∧ c ∉ a ∧ Lib.indexByte l c = a.length
  | [] => .inl ⟨rfl, by simp⟩
  | b :: l => by
    unfold Lib.indexByte
    by_cases h : b = c
    · subst h
      exact .inr ⟨[], l, rfl, by simp, by simp⟩
    · have hb : (b == c) = false := beq_eq_false_iff_ne.2 h
      have h' : ¬ c = b := fun e => h e.symm
      rcases indexB_at c l with ⟨h1, h2⟩ | ⟨a, b', h1, h2, h3⟩
      · exact .inl ⟨by rw [hb, h1]; rfl, by simp [h', h2]⟩
      · refine .inr ⟨b :: a, b', by rw [h1]; rfl, by simp [h', h2], ?_⟩
        have hn : ((a.length : Int) == -1) = false := by rw [beq_eq_false_iff_ne]; omega
        rw [hb, h3]
        simp [hn]
theorem ne_ten {c : UInt8} (h : ¬ c = 10) : ¬ (c.toNat : Int) = 10 := fun e => h (UInt8.toNat_inj.1 (by have : (10 : UInt8).toNat = 10 := rfl; omega))
theorem remN_hit : ∀ (a b : List UInt8), 10 ∉ a → remN ((a ++ 10 :: b).map fun x : UInt8 => (x.toNat : Int)) = a.length
  | [], b, _ => by simp [remN]
  | c :: r, b, h => by
    have hc : ¬ c = 10 := fun e => h (by simp [e])
    have ih := remN_hit r b (fun k => h (List.mem_cons_of_mem _ k))
    rw [List.cons_append, List.map_cons, remN, if_neg (ne_ten hc), ih]; rfl
theorem remN_miss : ∀ (a : List UInt8), 10 ∉ a → remN (a.map fun x : UInt8 => (x.toNat : Int)) = a.length
  | [], _ => rfl
  | c :: r, h => by
    have hc : ¬ c = 10 := fun e => h (by simp [e])
    rw [List.map_cons, remN, if_neg (ne_ten hc), remN_miss r (fun k => h (List.mem_cons_of_mem _ k))]; rfl
theorem cut_rem (s : ByteArray) : (Lib.cut s.data.toList [10]).1.length = remN (strL s) := by
  rcases indexB_at 10 s.data.toList with ⟨h1, h2⟩ | ⟨a, b, h1, h2, h3⟩
  · have hi : Lib.index s.data.toList [10] = -1 := (Lib.index_one _ _).trans h1
    unfold Lib.cut
    rw [hi, if_neg (by decide)]
    exact (remN_miss _ h2).symm
  · have hi : Lib.index s.data.toList [10] = (a.length : Int) := (Lib.index_one _ _).trans h3
    unfold Lib.cut
    rw [hi, if_pos (by omega)]
    have e : remN (strL s) = a.length := by
      unfold strL
      rw [h1]
      exact remN_hit a b h2
    rw [e, h1]
    simp
theorem cutR_any (s : ByteArray) (w : World) (hm : MaxL w) (hs : s.size ≤ 1000000000) :
    Calls Tryz.prog 135 #[.string s, .string ⟨#[10]⟩] w fun e w' => (∃ R x y, e = .returned (.tuple #[.string R, x, y]) ∧ R.size = remN (strL s)) ∧ ∃ q, w' = w.drewN q := by
  obtain ⟨m, hm⟩ := hm
  refine (Tryz.strings_Cut s ⟨#[10]⟩ m w (by omega) hm).mono ?_
  rintro e w' ⟨rfl, n, rfl⟩
  exact ⟨⟨_, _, _, rfl, cut_rem s⟩, n, rfl⟩
theorem blank_ne {c : Int} (h : blankC c = false) (h2 : c ≠ 35) : (c == 35) = false := by rw [beq_eq_false_iff_ne]; exact h2
set_option maxRecDepth 100000 in
set_option maxHeartbeats 4000000 in
theorem leadGap_any (s : ByteArray) (w : World) (hm : MaxL w) (hs : s.size ≤ 1000000000) :
    Calls Tryz.prog 95 #[.string s] w fun e w' => e = .returned (.int .i64 (gapM false (strL s) : Int)) ∧ ∃ q, w' = w.drewN q := by
  have HM := Lib.hid hm
  clear hm
  go_enter Tryz.func95, Tryz.ntmps95
  go_wp2
  go_loopw [3] (fun i wr => ∃ k : Nat, k ≤ s.size ∧ i = .int .i64 k ∧ Hid (gapM false (strL s) = k + gapM false ((strL s).drop k)) ∧ ∃ q, wr = w.drewN q) (fun i _ => s.size - (intOf i).toNat)
  case atStart => exact ⟨0, by omega, rfl, Lib.hid (by simp), 0, rfl⟩
  case round =>
    obtain ⟨k, hk, rfl, HW, hbel⟩ := hrel
    have HBE := Lib.hid hbel
    have HMR : Hid (MaxL wr) := Lib.hid (by obtain ⟨q, rfl⟩ := hbel; exact HM.out)
    clear hbel
    by_cases hlt : k < s.size
    · have hdr := drop_str s k hlt
      have HIX := Lib.hid (fun W : World => ixBlank_any (s[k].toNat : Int) W (byte_of s k hlt).1 (byte_of s k hlt).2)
      cases hb : blankC (s[k].toNat : Int) with
      | true =>
        have HR : Hid (gapM false (strL s) = (k + 1 : Nat) + gapM false ((strL s).drop (k + 1))) := Lib.hid (by rw [HW.out, hdr, gapM_blank hb]; omega)
        have HBB := Lib.hid hb
        clear hdr hb
        go_wp2_with fail
        refine (HIX.out _).mono ?_
        rintro e w1 ⟨⟨x, rfl, hx, _⟩, rfl⟩
        have hx0 := hx HBB.out
        clear hx
        go_wp2
        go_roundw
        case rel => exact ⟨k + 1, by omega, by go_num, HR, HBE.out⟩
        case measure => simp [intOf]; omega
      | false =>
        by_cases h35 : (s[k].toNat : Int) = 35
        · have hex : strL (s.extract k s.size) = (strL s).drop k := by rw [strL_extract, List.take_of_length_le (by rw [length_strL]; omega)]
          have hrl := remN_le ((strL s).drop k)
          rw [List.length_drop, length_strL] at hrl
          have hr1 : 1 ≤ remN ((strL s).drop k) := by rw [hdr, h35, remN, if_neg (by decide)]; omega
          have HR : Hid (gapM false (strL s) = (k + remN ((strL s).drop k) : Nat) + gapM false ((strL s).drop (k + remN ((strL s).drop k)))) := Lib.hid (by
            have h1 := gapM_remark ((strL s).drop (k + 1))
            rw [← h35, ← hdr, List.drop_drop] at h1
            rw [HW.out, h1]; omega)
          have HC := Lib.hid (fun (W : World) (hW : MaxL W) => cutR_any (s.extract k s.size) W hW (by rw [ByteArray.size_extract]; omega))
          rw [hex] at HC
          obtain ⟨q, hq⟩ : ∃ q, q = remN ((strL s).drop k) := ⟨_, rfl⟩
          rw [← hq] at hrl hr1 HR HC
          have e35 : ((s[k].toNat : Int) == 35) = true := by rw [h35]; rfl
          have HBB := Lib.hid hb
          clear hdr hb hex hq h35
          go_wp2_with fail
          refine (HIX.out _).mono ?_
          rintro e w1 ⟨⟨x, rfl, _, hx⟩, rfl⟩
          have hx0 := hx HBB.out
          clear hx
          go_wp2_with fail
          refine (HC.out _ HMR.out).mono ?_
          rintro e w1 ⟨⟨R, x', y', rfl, hR⟩, hb1⟩
          have HB1 : Hid (∃ q, w1 = w.drewN q) := Lib.hid (by obtain ⟨q, rfl⟩ := hb1; obtain ⟨q2, rfl⟩ := HBE.out; exact ⟨_, World.drewN_drewN _ _ _⟩)
          clear hb1
          go_wp2
          go_roundw
          case rel => exact ⟨k + q, by omega, by go_num, HR, HB1.out⟩
          case measure => simp [intOf]; omega
        · have e35 := blank_ne hb h35
          have HR : Hid (gapM false (strL s) = k) := Lib.hid (by rw [HW.out, hdr, gapM_none hb h35]; rfl)
          have HBB := Lib.hid hb
          clear hdr hb
          go_wp2_with fail
          refine (HIX.out _).mono ?_
          rintro e w1 ⟨⟨x, rfl, _, hx⟩, rfl⟩
          have hx0 := hx HBB.out
          clear hx
          go_wp2
          go_ret
          exact ⟨ret_int (by rw [HR.out]), HBE.out⟩
    · obtain rfl : k = s.size := by omega
      have HR : Hid (gapM false (strL s) = s.size) := Lib.hid (by rw [HW.out, List.drop_eq_nil_of_le (by rw [length_strL]; exact Nat.le_refl _)]; rfl)
      have hi1 : ¬ (s.size : Int) < (s.size : Int) := by omega
      go_wp2
      go_ret
      exact ⟨ret_int (by rw [HR.out]), HBE.out⟩
end Go.Proofs.YtcjfealalokjaaaGreatDoor
namespace Go.Proofs.YtcjfealalokjaaaGreatDoor
open Go Go.RowKit
/-- What brings a frame behind a move to its slots. -/
theorem rgS : (∀ (a : Act) (k : Nat) (v : Value), a.put (some k) v = { a with tmps := a.tmps.setIfInBounds k v }) ∧ (∀ (a : Act) (v : Value), a.put none v = a) ∧ (∀ (l : List Value) (i : Nat) (v : Value), l.toArray.setIfInBounds i v = (l.set i v).toArray) ∧ (∀ (x v : Value) (l : List Value), (x :: l).set 0 v = v :: l) ∧ (∀ (x v : Value) (l : List Value) (i : Nat), (x :: l).set (i + 1) v = x :: l.set i v) ∧
    (∀ (l : List Oper) (i : Nat) (h : i < l.toArray.size), l.toArray[i] = l[i]'(by simpa using h)) ∧ (∀ (l : List Oper) (a : Oper) (i : Nat) (h : i + 1 < (a :: l).length), (a :: l)[i + 1] = l[i]'(by simpa using h)) ∧ (∀ (l : List Oper) (a : Oper) (h : 0 < (a :: l).length), (a :: l)[0] = a) :=
  ⟨fun _ _ _ => rfl, fun _ _ => rfl, fun _ _ _ => by simp, fun _ _ _ => rfl, fun _ _ _ _ => rfl, fun _ _ _ => by simp, fun _ _ _ _ => rfl, fun _ _ _ => rfl⟩
section
variable {P : Program} {ops : Array Oper} {Q : Exit → Act → World → Prop} {md : Region.Mode} {S : World → Prop} {fuel : Nat} {listed : Array Bool} {a : Act} {w : World}
/-- Take operation i first, its guard being met. -/
theorem rgT (i : Nat) {v : Value} {oi : Oper} (h : wpAnyH P md ops Q S fuel (listed.setIfInBounds i true) (a.put oi.dst v) w) (hi : ops[i]? = some oi := by rfl) (hs : Region.noSelect ops = true := by kernel_rfl) (hf : Region.free md ops listed i = true := by kernel_rfl) (hr : (Region.ready md ops listed).contains i = true := by kernel_rfl)
    (hQ : ∀ c a w, Q (.panic c) (a.put oi.dst v) w → Q (.panic c) a w := by exact fun _ _ _ h => h) (hw : Region.wanted oi (yielded ops a.tmps) = true := by rfl) (hy : ∀ w, S w → (execOp a.eval oi).run P w = .ok (.value v) w := by (intro w hSw; first | (go_simp; done) | (go_simp; with_reducible rfl))) (hS : S w := by assumption) :
    wpAnyH P md ops Q S (fuel + 1) listed a w :=
  wpAnyH_take hi hs hf hr hQ (Or.inl ⟨hw, hy⟩) hS h
/-- Take operation i first, its guard being not met. -/
theorem rgU (i : Nat) {oi : Oper} (h : wpAnyH P md ops Q S fuel (listed.setIfInBounds i true) (a.put oi.dst undef) w) (hi : ops[i]? = some oi := by rfl) (hs : Region.noSelect ops = true := by kernel_rfl) (hf : Region.free md ops listed i = true := by kernel_rfl) (hr : (Region.ready md ops listed).contains i = true := by kernel_rfl)
    (hQ : ∀ c a w, Q (.panic c) (a.put oi.dst undef) w → Q (.panic c) a w := by exact fun _ _ _ h => h) (hw : Region.wanted oi (yielded ops a.tmps) = false := by rfl) (hS : S w := by assumption) :
    wpAnyH P md ops Q S (fuel + 1) listed a w :=
  wpAnyH_take hi hs hf hr hQ (Or.inr ⟨hw, rfl⟩) hS h
/-- One operation comes up. -/
theorem rgO (i : Nat) {o : Oper} (h : ∀ K' : Act → World → Prop, Shut (∀ a w, S w → (S w → wpAnyH P md ops Q S fuel (listed.setIfInBounds i true) a w) → K' a w) → if Region.wanted o (yielded ops a.tmps) = true then Oper.wp P o a w K' Q else K' (a.put o.dst undef) w)
    (hr : Region.ready md ops listed = [i] := by kernel_rfl) (hi : ops[i]? = some o := by rfl) : wpAnyH P md ops Q S (fuel + 1) listed a w :=
  wpAnyH_ready hr (by simp) (AllReadyH.cons hi h AllReadyH.nil)
end
end Go.Proofs.YtcjfealalokjaaaGreatDoor
namespace Go.Proofs.YtcjfealalokjaaaGreatDoor
open Go Go.RowKit
section
variable {P : Program} {w : World} {o : Oper} {a : Act} {K : Act → World → Prop} {Q : Exit → Act → World → Prop}
theorem wp_store_row (ty : TypeId) (x y : Operand) (ho : o.op = .store ty x y) (g off : Nat) (ds : List Value) (hx : a.eval x = .pointer (some ⟨g, off, none⟩)) (hy : a.eval y = .agg ds.toArray)
    (t : TypeId) (cs : List Value) (hb : Blk w g t cs) (hl : off + ds.length ≤ cs.length) (hi : (P.info? ty).map (·.size) = some ds.length) (h1 : ∀ v ∈ ds, v.oneCell' = true)
    (h : ∀ w', Blk w' g t (splice cs off ds) → w.grownBy w' (some g) → K (a.put o.dst undef) w') : o.wp P a w K Q :=
  wp_store_mid ty x y ho g off ds.toArray hx hy (hb.there off _ (by simpa using hl)) (by simpa using hi) (all_one h1)
    (by have := setCells_heap g t ds off cs w hb hl; exact h _ this.1 this.2)
theorem wp_store_one (ty : TypeId) (x y : Operand) (ho : o.op = .store ty x y) (g off : Nat) (v : Value) (hx : a.eval x = .pointer (some ⟨g, off, none⟩)) (hy : a.eval y = v) (hv : v.oneCell' = true)
    (t : TypeId) (cs : List Value) (hb : Blk w g t cs) (hl : off < cs.length) (hi : (P.info? ty).map (·.size) = some 1)
    (h : ∀ w', Blk w' g t (cs.set off v) → w.grownBy w' (some g) → K (a.put o.dst undef) w') : o.wp P a w K Q := by
  have hc : w.cell? ⟨g, off, none⟩ = some cs[off] := (hb.cell off).trans (List.getElem?_eq_getElem hl)
  have hf := hb.frozen off
  have hcv : v.cells = #[v] := by cases v <;> first | rfl | cases hv
  have hst : (storeVar ty ⟨g, off, none⟩ v).run P w = .ok () (w.setCell ⟨g, off, none⟩ v) := by
    cases hq : P.info? ty with
    | none => simp [hq] at hi
    | some i =>
      have hs : i.size = 1 := by simpa [hq] using hi
      have hadd : (⟨g, off, none⟩ : Addr).add 0 = ⟨g, off, none⟩ := by unfold Addr.add; split <;> simp_all
      have hst' : (store ⟨g, off, none⟩ v .plain).run P w = .ok () (w.setCell ⟨g, off, none⟩ v) := by
        rw [run_store P w _ v _ hv]
        simp [hc, hf]
      simp [storeVar, sizeOf, typeInfo, hq, hcv, hs, storeCells, hadd, hst']
  unfold Oper.wp execOp
  simp only [ho, hx, hy, Instr.storeAt, Instr.sureAddr, Sem.run_bind, Sem.run_pure, Result.andThen_ok, hst]
  refine h _ ?_ ⟨rfl, rfl, rfl, by simp, fun k _ hk => heap_setCell_other w ⟨g, off, none⟩ k v (fun e => hk (by simp [e]))⟩
  have := heap_setCell_same w g off cs.toArray t v hb
  unfold Blk
  rw [this]; simp
end
end Go.Proofs.YtcjfealalokjaaaGreatDoor
