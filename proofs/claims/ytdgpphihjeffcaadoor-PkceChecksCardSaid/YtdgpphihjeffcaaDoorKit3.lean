/- The kit, on: lists of bytes; slices that read as such; strings as bytes, and their conversion. -/
import Derived.Test.YtdgpphihjeffcaaDoorKit2
import Derived.Lib.ConvBytes
namespace Go.Proofs.YtdgpphihjeffcaaDoor
open Go Go.RowKit

def Bytes (l : List Int) : Prop := ∀ i, 0 ≤ l.getD i 0 ∧ l.getD i 0 ≤ 255
theorem Bytes.mem {l : List Int} (h : Bytes l) {x : Int} (hx : x ∈ l) : 0 ≤ x ∧ x ≤ 255 := by
  obtain ⟨i, hi, rfl⟩ := List.mem_iff_getElem.1 hx
  have := h i
  simpa [hi] using this
theorem Bytes.of_mem {l : List Int} (h : ∀ x ∈ l, 0 ≤ x ∧ x ≤ 255) : Bytes l := fun i => by
  rw [List.getD_eq_getElem?_getD]
  rcases Nat.lt_or_ge i l.length with hi | hi
  · rw [List.getElem?_eq_getElem hi]; exact h _ (List.getElem_mem hi)
  · rw [List.getElem?_eq_none hi]; decide
theorem Bytes.append {l m : List Int} (h : Bytes l) (k : Bytes m) : Bytes (l ++ m) := .of_mem fun x hx => by
  rcases List.mem_append.1 hx with hx | hx
  · exact h.mem hx
  · exact k.mem hx
theorem Bytes.take {l : List Int} (h : Bytes l) (n : Nat) : Bytes (l.take n) := .of_mem fun _ hx => h.mem (List.mem_of_mem_take hx)
theorem Bytes.drop {l : List Int} (h : Bytes l) (n : Nat) : Bytes (l.drop n) := .of_mem fun _ hx => h.mem (List.mem_of_mem_drop hx)
theorem Bytes.left {l m : List Int} (h : Bytes (l ++ m)) : Bytes l := .of_mem fun _ hx => h.mem (List.mem_append_left _ hx)
theorem Bytes.right {l m : List Int} (h : Bytes (l ++ m)) : Bytes m := .of_mem fun _ hx => h.mem (List.mem_append_right _ hx)
theorem Bytes.splice {l m : List Int} (h : Bytes l) (k : Bytes m) (n : Nat) : Bytes (splice l n m) := (h.take _).append (k.append (h.drop _))
/-- A slice of bytes lies in a block that is there. -/
def Lies (w : World) (A : Option Addr) (xs : List Int) : Prop := Src w w.heap.size A xs
theorem Lies.src {w : World} {A : Option Addr} {xs : List Int} (h : Lies w A xs) {g : Nat} (hg : w.heap.size ≤ g) : Src w g A xs := fun hp => by
  obtain ⟨b, o, e, _, hlt, hc⟩ := h hp
  exact ⟨b, o, e, by omega, hlt, hc⟩
theorem Lies.of {w : World} {A : Option Addr} {xs : List Int} {g : Nat} (h : Src w g A xs) : Lies w A xs := fun hp => by
  obtain ⟨b, o, e, _, hlt, hc⟩ := h hp
  exact ⟨b, o, e, by omega, hlt, hc⟩
theorem Lies.below {w w' : World} {A : Option Addr} {xs : List Int} (h : Lies w A xs) (hb : Below w.heap.size w w') : Lies w' A xs := Lies.of (Src.below h hb)
theorem Lies.blk {w : World} {b o : Nat} {t : TypeId} {cs : List Value} (h : Blk w b t cs) {xs : List Int} (hx : ∀ j v, (ints .u8 xs)[j]? = some v → cs[o + j]? = some v) : Lies w (some ⟨b, o, none⟩) xs :=
  Src.blk h (by have := h.lt; omega) hx
theorem Lies.whole {w : World} {b : Nat} {t : TypeId} {xs : List Int} (h : Blk w b t (ints .u8 xs)) : Lies w (some ⟨b, 0, none⟩) xs := Lies.blk h (by simp)
/-- A literal's bytes in a new block, whatever its mark. -/
theorem Lies.lit (w : World) (C : List Int) (t : TypeId) (fr : Nat × Nat) : Lies (w.alloc (.cells (ints .u8 C).toArray t fr)) (some ⟨w.heap.size, 0, none⟩) C := fun _ =>
  ⟨w.heap.size, 0, rfl, by simp, by simp, fun j v hv => by
    rw [cell_of_row _ _ _ _ t fr (heap_alloc_new w _), Nat.zero_add]
    simpa using hv⟩
theorem belowAlloc (w : World) (o : Obj) : Below w.heap.size w (w.alloc o) := (Below.refl _ w).alloc (Nat.le_refl _) _
theorem below2 {w w' : World} {a b : Obj} (h : Below ((w.alloc a).alloc b).heap.size ((w.alloc a).alloc b) w') : Below w.heap.size w w' := by
  have h1 := (belowAlloc w a).trans ((belowAlloc (w.alloc a) b).mono (belowAlloc w a).size)
  exact h1.trans (h.mono h1.size)
/-- A string's bytes, as numbers. -/
def strL (s : ByteArray) : List Int := s.data.toList.map fun b => (b.toNat : Int)
theorem length_strL (s : ByteArray) : (strL s).length = s.size := by simp [strL]
theorem strL_bd (s : ByteArray) : Bytes (strL s) := .of_mem fun x hx => by
  obtain ⟨b, _, rfl⟩ := List.mem_map.1 hx
  have := b.toNat_lt
  omega
theorem strL_inj {a b : ByteArray} (h : strL a = strL b) : a = b := by
  have : a.data.toList = b.data.toList := by
    refine (List.map_inj_right (f := fun b : UInt8 => (b.toNat : Int)) ?_).1 h
    intro x y hxy
    exact UInt8.toNat_inj.1 (by omega)
  cases a; cases b
  congr 1
  exact Array.toList_inj.1 this
theorem belowBytes (w : World) (e : TypeId) (s : ByteArray) : Below w.heap.size w (Lib.bytesWorld w e s) :=
  ⟨rfl, rfl, rfl, by rw [Lib.bytesWorld_size]; omega, fun k hk => Lib.bytesWorld_at_old w e s k hk⟩
theorem liesBytes (w : World) (e : TypeId) (s : ByteArray) : Lies (Lib.bytesWorld w e s) (some ⟨w.heap.size, 0, none⟩) (strL s) := fun _ =>
  ⟨w.heap.size, 0, rfl, by rw [Lib.bytesWorld_size]; omega, by rw [Lib.bytesWorld_size]; omega, fun j v hv => by
    have hj : j < s.size := by
      have := (List.getElem?_eq_some_iff.1 hv).1
      rw [length_ints, length_strL] at this; exact this
    rw [Nat.zero_add, Lib.bytesWorld_cell w e s j hj, ← hv]
    have hj2 : j < s.data.toList.length := by simpa using hj
    simp [ints, strL, List.getD, hj]⟩

section
variable {P : Program} {w : World} {ops : Array Oper} {rest : List Oper} {o : Oper} {a : Act} {Q : Exit → Act → World → Prop}
/-- '[]byte(s)' of a string. -/
theorem wpList_convert_str (hgd : o.guard = none) (d : Option Tmp) (hdst : o.dst = d) (src dst e : TypeId) (x : Operand) (ho : o.op = .convert src dst x) (s : ByteArray) (hx : a.eval x = .string s)
    {u : TypeDesc} (hs : P.underlying src = some u) (hd : P.underlying dst = some (.slice e)) (he : P.underlying e = some (.int .u8))
    (h : ∀ A c w', Lies w' A (strL s) → s.size ≤ c → Below w.heap.size w w' → wpList P ops Q rest (a.put d (.slice A s.size c)) w') : wpList P ops Q (o :: rest) a w := by
  subst hdst
  refine wpList_plain hgd fun K hK => ?_
  unfold Oper.wp execOp
  simp only [ho, hx, Sem.run_bind, Lib.run_convert_string_bytes w src dst e s hs hd he, Result.andThen_ok]
  exact hK _ _ (h _ _ _ (liesBytes w e s) (grownCap_ge w s.size 0 e) (belowBytes w e s))
end
theorem eq_toList (s t : ByteArray) : (s.toList == t.toList) = decide (s = t) := by
  rw [Bool.eq_iff_iff, beq_iff_eq, decide_eq_true_eq]
  constructor
  · intro h
    rw [ByteArray.toList_eq, ByteArray.toList_eq] at h
    cases s; cases t
    congr 1
    exact Array.toList_inj.1 h
  · rintro rfl; rfl
end Go.Proofs.YtdgpphihjeffcaaDoor
