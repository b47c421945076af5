/- What a round of the law UtfAll holds of its variables, and what its steps keep. -/
import Derived.Test.YtaepfdkbefojmaaDoorUtfAlive
namespace Go.Proofs.YtaepfdkbefojmaaDoor
open Go Go.RowKit Go.Shelf

theorem boxed_below {W W' : World} {B : Nat} {t : TypeId} {v : Value} (h : Boxed W B t v) (hb : Below W.heap.size W W') : Boxed W' B t v := (hb.block B h.lt).trans h
theorem boxed_drew {W : World} {B : Nat} {t : TypeId} {v : Value} (h : Boxed W B t v) : Boxed W.drew B t v := h
theorem neq_nil (f : FuncId) (c : Array Value) (w : World) : (binOp .eql 36 (.func (.func f) #[] c) .nilFunc).run Tryd.prog w = .ok (.bool false) w := by kernel_rfl
/-- The variables: stop, the result, turn, at, text, n; the marks of the loops that are over. -/
structure AllS (w : World) (B3 B4 B5 : Nat) (s : ByteArray) (B8 M : Nat) (Ds : List Nat) (turn stop at_ n : Int) (T : ByteArray) (W : World) : Prop where
  b3 : Boxed W B3 5 (.int .u8 stop)
  b4 : Boxed W B4 4 (.bool false)
  b5 : Boxed W B5 9 (.string s)
  b8 : Boxed W B8 3 (.int .i64 turn)
  b9 : Boxed W M 3 (.int .i64 at_)
  b10 : Boxed W (M + 1) 9 (.string T)
  b11 : Boxed W (M + 1 + 1) 3 (.int .i64 n)
  bel : Below w.heap.size w W
  ds : ∀ D ∈ Ds, W.heap[D]? = some (.deferred (some []))
  lo : w.heap.size ≤ M
  l3 : B3 < M
  l4 : B4 < M
  l5 : B5 < M
  l8 : B8 < M
section
variable {w : World} {B3 B4 B5 : Nat} {s : ByteArray} {B8 M : Nat} {Ds : List Nat} {turn stop at_ n : Int} {T : ByteArray} {W : World}
theorem AllS.below (h : AllS w B3 B4 B5 s B8 M Ds turn stop at_ n T W) {W' : World} (hb : Below W.heap.size W W') : AllS w B3 B4 B5 s B8 M Ds turn stop at_ n T W' :=
  ⟨boxed_below h.b3 hb, boxed_below h.b4 hb, boxed_below h.b5 hb, boxed_below h.b8 hb, boxed_below h.b9 hb, boxed_below h.b10 hb, boxed_below h.b11 hb, h.bel.trans (hb.mono h.bel.size), fun D hD => (hb.block D (Array.getElem?_eq_some_iff.1 (h.ds D hD)).1).trans (h.ds D hD), h.lo, h.l3, h.l4, h.l5, h.l8⟩
theorem AllS.drew (h : AllS w B3 B4 B5 s B8 M Ds turn stop at_ n T W) : AllS w B3 B4 B5 s B8 M Ds turn stop at_ n T W.drew := h.below (Below.refl _ _).drew
theorem ds_set {Ds : List Nat} {W : World} {B : Nat} {t : TypeId} {v : Value} (h : ∀ D ∈ Ds, W.heap[D]? = some (.deferred (some []))) (hb : Boxed W B t v) (u : Value) : ∀ D ∈ Ds, (W.setCell ⟨B, 0, none⟩ u).heap[D]? = some (.deferred (some [])) := fun D hD =>
  (heap_setCell_other W ⟨B, 0, none⟩ D u (fun (e : D = B) => by
    have h1 := h D hD
    rw [e, show W.heap[B]? = some (.cells #[v] t (0, 0)) from hb] at h1
    cases h1)).trans (h D hD)
theorem AllS.set9 (h : AllS w B3 B4 B5 s B8 M Ds turn stop at_ n T W) (x : Int) : AllS w B3 B4 B5 s B8 M Ds turn stop x n T (W.setCell ⟨M, 0, none⟩ (.int .i64 x)) :=
  ⟨h.b3.other (by have := h.l3; omega) _, h.b4.other (by have := h.l4; omega) _, h.b5.other (by have := h.l5; omega) _, h.b8.other (by have := h.l8; omega) _, h.b9.set _, h.b10.other (by omega) _, h.b11.other (by omega) _, h.bel.setCell (p := ⟨M, 0, none⟩) h.lo _, ds_set h.ds h.b9 _, h.lo, h.l3, h.l4, h.l5, h.l8⟩
theorem AllS.set10 (h : AllS w B3 B4 B5 s B8 M Ds turn stop at_ n T W) (x : ByteArray) : AllS w B3 B4 B5 s B8 M Ds turn stop at_ n x (W.setCell ⟨M + 1, 0, none⟩ (.string x)) :=
  ⟨h.b3.other (by have := h.l3; omega) _, h.b4.other (by have := h.l4; omega) _, h.b5.other (by have := h.l5; omega) _, h.b8.other (by have := h.l8; omega) _, h.b9.other (by omega) _, h.b10.set _, h.b11.other (by omega) _, h.bel.setCell (p := ⟨M + 1, 0, none⟩) (by have := h.lo; simp; omega) _, ds_set h.ds h.b10 _, h.lo, h.l3, h.l4, h.l5, h.l8⟩
theorem AllS.set11 (h : AllS w B3 B4 B5 s B8 M Ds turn stop at_ n T W) (x : Int) : AllS w B3 B4 B5 s B8 M Ds turn stop at_ x T (W.setCell ⟨M + 1 + 1, 0, none⟩ (.int .i64 x)) :=
  ⟨h.b3.other (by have := h.l3; omega) _, h.b4.other (by have := h.l4; omega) _, h.b5.other (by have := h.l5; omega) _, h.b8.other (by have := h.l8; omega) _, h.b9.other (by omega) _, h.b10.other (by omega) _, h.b11.set _, h.bel.setCell (p := ⟨M + 1 + 1, 0, none⟩) (by have := h.lo; simp; omega) _, ds_set h.ds h.b11 _, h.lo, h.l3, h.l4, h.l5, h.l8⟩
theorem allS_own {β : Type} {B : Nat} (hB : w.heap.size ≤ B) (hD : ∀ D ∈ Ds, D < B) (fa fn : β → Int) (fT : β → ByteArray) :
    OwnFrom B (fun (z : β) W => AllS w B3 B4 B5 s B8 M Ds turn stop (fa z) (fn z) (fT z) W) := fun z W W' row h hg hr =>
  have hc : ∀ r, row = some r → ∃ o : Obj, W.heap[r]? = some o ∧ o.isCells = false := fun r e => (hr r e).2
  ⟨boxed_own (β := Unit) B3 5 (fun _ => .int .u8 stop) () W W' row h.b3 hg hc, boxed_own (β := Unit) B4 4 (fun _ => .bool false) () W W' row h.b4 hg hc, boxed_own (β := Unit) B5 9 (fun _ => .string s) () W W' row h.b5 hg hc, boxed_own (β := Unit) B8 3 (fun _ => .int .i64 turn) () W W' row h.b8 hg hc,
    boxed_own (β := Unit) M 3 (fun _ => .int .i64 (fa z)) () W W' row h.b9 hg hc, boxed_own (β := Unit) (M + 1) 9 (fun _ => .string (fT z)) () W W' row h.b10 hg hc, boxed_own (β := Unit) (M + 1 + 1) 3 (fun _ => .int .i64 (fn z)) () W W' row h.b11 hg hc,
    h.bel.grown hg h.bel.size (fun k e => Nat.le_trans hB (hr k e).1), fun D hDs => (hg.block D (Array.getElem?_eq_some_iff.1 (h.ds D hDs)).1 (fun e => by have := (hr D e.symm).1; have := hD D hDs; omega)).trans (h.ds D hDs), h.lo, h.l3, h.l4, h.l5, h.l8⟩
end
/-- The variables when a turn begins. -/
structure PreS (w : World) (B5 B8 : Nat) (s : ByteArray) (Ds : List Nat) (turn stop : Int) (W : World) : Prop where
  b3 : Boxed W w.heap.size 5 (.int .u8 stop)
  b4 : Boxed W (w.heap.size + 1) 4 (.bool false)
  b5 : Boxed W B5 9 (.string s)
  b8 : Boxed W B8 3 (.int .i64 turn)
  bel : Below w.heap.size w W
  ds : ∀ D ∈ Ds, W.heap[D]? = some (.deferred (some []))
  h5 : w.heap.size + 2 ≤ B5
  h8 : B5 < B8
theorem PreS.start {w : World} {B5 B8 : Nat} {s : ByteArray} {Ds : List Nat} {turn stop : Int} {W : World} (h : PreS w B5 B8 s Ds turn stop W) :
    AllS w w.heap.size (w.heap.size + 1) B5 s B8 W.heap.size Ds turn stop 0 0 ⟨#[]⟩ (((W.alloc (.cells #[.int .i64 0] 3)).alloc (.cells #[.string ⟨#[]⟩] 9)).alloc (.cells #[.int .i64 0] 3)) :=
  have hb : Below W.heap.size W (((W.alloc (.cells #[.int .i64 0] 3)).alloc (.cells #[.string ⟨#[]⟩] 9)).alloc (.cells #[.int .i64 0] 3)) := (((Below.refl _ W).alloc (Nat.le_refl _) _).alloc (by simp) _).alloc (by simp; omega) _
  have h10 := Boxed.new (W.alloc (.cells #[.int .i64 0] 3)) 9 (.string ⟨#[]⟩)
  have h11 := Boxed.new ((W.alloc (.cells #[.int .i64 0] 3)).alloc (.cells #[.string ⟨#[]⟩] 9)) 3 (.int .i64 0)
  ⟨boxed_below h.b3 hb, boxed_below h.b4 hb, boxed_below h.b5 hb, boxed_below h.b8 hb, ((Boxed.new W 3 (.int .i64 0)).alloc _).alloc _, by rw [World.size_alloc] at h10; exact h10.alloc _, by simp only [World.size_alloc] at h11; exact h11, h.bel.trans (hb.mono h.bel.size), fun D hD => (hb.block D (Array.getElem?_eq_some_iff.1 (h.ds D hD)).1).trans (h.ds D hD), h.bel.size, h.b3.lt, h.b4.lt, h.b5.lt, h.b8.lt⟩
/-- What a round does beside: nothing that is no cells, nothing below n₀, not the block of the text. -/
def RelS (n₀ Bs : Nat) (W W' : World) : Prop := KeepsOthers W W' ∧ KpS n₀ Bs W W'
theorem RelS.refl (n₀ Bs : Nat) (W : World) : RelS n₀ Bs W W := ⟨.refl _, .refl _ _ _⟩
theorem RelS.trans {n₀ Bs : Nat} {A B C : World} (h : RelS n₀ Bs A B) (k : RelS n₀ Bs B C) : RelS n₀ Bs A C := ⟨h.1.trans k.1, h.2.trans k.2⟩
theorem RelS.below {n₀ Bs : Nat} {W W' : World} (hb : Below W.heap.size W W') (hn : n₀ ≤ W.heap.size) (hB : Bs < W.heap.size) : RelS n₀ Bs W W' :=
  ⟨⟨hb.size, fun k o h _ => (hb.block k (Array.getElem?_eq_some_iff.1 h).1).trans h⟩, KpS.below hb hn hB⟩
theorem RelS.set {n₀ Bs : Nat} (W : World) (B : Nat) (u : Value) (hn : n₀ ≤ B) (hB : B ≠ Bs) : RelS n₀ Bs W (W.setCell ⟨B, 0, none⟩ u) :=
  ⟨KeepsOthers.setCell _ _ _, (Below.refl n₀ W).setCell (p := ⟨B, 0, none⟩) hn _, heap_setCell_other W ⟨B, 0, none⟩ _ _ (by simp; omega)⟩
/-- What a range of the law UtfAll leaves. -/
def RangePost (w : World) (B5 B8 M : Nat) (Ds : List Nat) (turn stop : Int) (s : ByteArray) (full : Bool) (lo : Nat) (a : Act) (e : Exit) (a' : Act) (W : World) : Prop :=
  (e = .normal ∨ e = .exit 2) ∧ ∃ (D : Nat) (ys : List (Pl (strL s))), a' = { a with defers := { target := .collected D, args := #[] } :: a.defers } ∧ Chain (strL s) ys ∧ (full = true → endOf ys = badU (strL s)) ∧
    AllS w w.heap.size (w.heap.size + 1) B5 s B8 M Ds turn stop (endOf ys : Int) (ys.length : Int) (toS ((strL s).take (endOf ys))) W ∧ W.heap[D]? = some (.deferred (some [])) ∧ lo ≤ D
theorem turn_range {F : Fence} {n : Nat} {c : Code} {Q' : Exit → Act → World → Prop} {a : Act} {W0 : World} (w : World) (B5 B8 M : Nat) (Ds : List Nat) (turn stop : Int) (s : ByteArray) (full : Bool)
    (h : c.wpIn F n Tryd.prog (RangePost w B5 B8 M Ds turn stop s full W0.heap.size a) a W0) (hq : ∀ e a' W, RangePost w B5 B8 M Ds turn stop s full W0.heap.size a e a' W → Q' e a' W) : c.wpIn F n Tryd.prog Q' a W0 := wpIn_mono h hq
end Go.Proofs.YtaepfdkbefojmaaDoor
