/- JsonPut: merged. -/
import Derived.Test.YtblheibknpphkaaGreatDoorBa22
set_option linter.all false
namespace Go.Proofs.YtblheibknpphkaaGreatDoor
open Go Go.RowKit
theorem infoS : (Tryz.prog.info? 9).map (fun i => (i.zero, i.size, i.bytes)) = some (some (.string ⟨#[]⟩), 1, 16) := by kernel_rfl
theorem infoJ : (Tryz.prog.info? 26).map (fun i => (i.zero, i.size, i.bytes)) = some (some (.agg #[.int .i64 0, .int .i64 0, .string ⟨#[]⟩, .slice none 0 0, .slice none 0 0]), 5, 80) := by kernel_rfl
/-- Rows of two types are apart. -/
theorem own_apart {w : World} {b b' : Nat} {e e' : TypeId} {s s' n n' : Nat} {v v' : Value} {xs xs' : List Value} (h : w.ownsRow b e s v n xs) (h' : w.ownsRow b' e' s' v' n' xs') (hne : e ≠ e') : ∀ g, v.ownBlock = some g → v'.ownBlock ≠ some g := fun g hg hg' => by
  rcases h.2 with ⟨rfl, _⟩ | ⟨g1, _, _, rfl, _, h1, _⟩
  · simp [Value.ownBlock] at hg
  · rcases h'.2 with ⟨rfl, _⟩ | ⟨g2, _, _, rfl, _, h2, _⟩
    · simp [Value.ownBlock] at hg'
    · have e1 : g1 = g := by simpa [Value.ownBlock] using hg
      have e2 : g2 = g := by simpa [Value.ownBlock] using hg'
      subst e1
      subst e2
      rw [h1] at h2
      injection h2 with h2
      injection h2 with _ h2 _
      exact hne h2
/-- Where Put stands: its five variables' blocks, the two rows that it builds. -/
def PutInv (W wr : World) (c3 c5 : List Value) (S : Nat → Prop) (vs : List J) (xs : List Value) (vL : Value) (ks : List ByteArray) (vK : Value) : Prop :=
  (Blk wr W.heap.size 26 c3 ∧ Blk wr (W.heap.size + 1) 26 c5 ∧ Blk wr (W.heap.size + 2) 26 zeros5 ∧ Blk wr (W.heap.size + 3) 26 [.int .i64 5, .int .i64 0, .string ⟨#[]⟩, vL, vK]) ∧
  (wr.ownsRow (W.heap.size + 4) 26 5 vL vs.length xs ∧ FlatJ wr S vs xs) ∧ wr.ownsRow (W.heap.size + 4) 9 1 vK ks.length (ks.map Value.string) ∧ Below W.heap.size W wr ∧ W.heap.size + 4 ≤ wr.heap.size
theorem not_some {v : Value} {a B : Nat} (h : ∀ k, v.ownBlock = some k → B ≤ k) (ha : a < B) : some a ≠ v.ownBlock := fun e => by
  have := h a e.symm; omega
theorem PutInv.addK {W wr wa wb : World} {c3 c5 : List Value} {S : Nat → Prop} {vs : List J} {xs : List Value} {vL vK v' : Value} {ks : List ByteArray} {u : ByteArray} (hI : PutInv W wr c3 c5 S vs xs vL ks vK) (hS : ∀ b, S b → b < W.heap.size) (hA : wr.grownBy wa none) (hB : wa.grownBy wb vK.ownBlock)
    {m : Nat} (hm : m = ks.length + 1) (hown : wb.ownsRow (W.heap.size + 4) 9 1 v' m (ks.map Value.string ++ [.string u])) :
    PutInv W (wb.setCell ⟨W.heap.size + 3, 4, none⟩ v') c3 c5 S vs xs vL (ks ++ [u]) v' := by
  subst hm
  obtain ⟨⟨h3, h5, h6, h7⟩, ⟨hL, hf⟩, hK, hb, hsz⟩ := hI
  have lK := fun k hk => (hK.lt k hk).1
  have lL := fun k hk => (hL.lt k hk).1
  have l' := fun k hk => (hown.lt k hk).1
  have hC := grownBy_setCell wb (W.heap.size + 3) 4 v'
  have g1 : ∀ {g : Nat} {t : TypeId} {cs : List Value}, Blk wr g t cs → g < W.heap.size + 4 → g ≠ W.heap.size + 3 → Blk (wb.setCell ⟨W.heap.size + 3, 4, none⟩ v') g t cs := fun h hg hne =>
    ((h.grownN hA).grown hB (not_some lK hg)).grown hC (by simpa using hne)
  have hb1 : Below W.heap.size W wb := (hb.grown hA hb.size (by simp)).grown hB (Nat.le_trans hb.size hA.size) (fun k hk => by have := lK k hk; omega)
  have hb2 : Below W.heap.size W (wb.setCell ⟨W.heap.size + 3, 4, none⟩ v') := hb1.grown hC hb1.size (by simp)
  have hL1 := ((hL.kept hA (by cases hv : vL.ownBlock <;> simp)).kept hB (by
    cases hv : vL.ownBlock with
    | none => exact .inl rfl
    | some g => exact .inr (fun e => own_apart hL hK (by decide) g hv e.symm)))
  refine ⟨⟨g1 h3 (by omega) (by omega), g1 h5 (by omega) (by omega), g1 h6 (by omega) (by omega), ?_⟩, ⟨?_, ?_⟩, ?_, hb2, ?_⟩
  · have := ((h7.grownN hA).grown hB (not_some lK (by omega))).setCell 4 v'
    exact this
  · refine hL1.kept hC ?_
    cases hv : vL.ownBlock with
    | none => exact .inl rfl
    | some g => exact .inr (fun e => by injection e with e; have := lL g hv; omega)
  · refine hf.keeps (S := S) (T := S) ⟨?_, fun b hS' _ => ?_⟩ (fun _ h _ => h)
    · exact Nat.le_trans hA.size (Nat.le_trans hB.size hC.size)
    · have h1 := hS b hS'
      exact (hb2.block b h1).trans (hb.block b h1).symm
  · rw [List.length_append, List.map_append]
    refine World.ownsRow.kept hown hC ?_
    cases hv : v'.ownBlock with
    | none => exact .inl rfl
    | some g => exact .inr (fun e => by injection e with e; have := l' g hv; omega)
  · exact Nat.le_trans hsz (Nat.le_trans hA.size (Nat.le_trans hB.size hC.size))
theorem PutInv.addL {W wr wa wb : World} {c3 c5 : List Value} {S : Nat → Prop} {vs : List J} {xs : List Value} {vL vK v' : Value} {ks : List ByteArray} {x : J} {a0 a1 a2 a3 a4 : Value} (hI : PutInv W wr c3 c5 S vs xs vL ks vK) (hS : ∀ b, S b → b < W.heap.size) (hA : wr.grownBy wa none) (hB : wa.grownBy wb vL.ownBlock)
    {m : Nat} (hm : m = vs.length + 1) (hown : wb.ownsRow (W.heap.size + 4) 26 5 v' m (xs ++ [a0, a1, a2, a3, a4])) (hx : RepS W S x (.agg #[a0, a1, a2, a3, a4])) :
    PutInv W (wb.setCell ⟨W.heap.size + 3, 3, none⟩ v') c3 c5 S (vs ++ [x]) (xs ++ [a0, a1, a2, a3, a4]) v' ks vK := by
  subst hm
  obtain ⟨⟨h3, h5, h6, h7⟩, ⟨hL, hf⟩, hK, hb, hsz⟩ := hI
  have lK := fun k hk => (hK.lt k hk).1
  have lL := fun k hk => (hL.lt k hk).1
  have l' := fun k hk => (hown.lt k hk).1
  have hC := grownBy_setCell wb (W.heap.size + 3) 3 v'
  have g1 : ∀ {g : Nat} {t : TypeId} {cs : List Value}, Blk wr g t cs → g < W.heap.size + 4 → g ≠ W.heap.size + 3 → Blk (wb.setCell ⟨W.heap.size + 3, 3, none⟩ v') g t cs := fun h hg hne =>
    ((h.grownN hA).grown hB (not_some lL hg)).grown hC (by simpa using hne)
  have hb1 : Below W.heap.size W wb := (hb.grown hA hb.size (by simp)).grown hB (Nat.le_trans hb.size hA.size) (fun k hk => by have := lL k hk; omega)
  have hb2 : Below W.heap.size W (wb.setCell ⟨W.heap.size + 3, 3, none⟩ v') := hb1.grown hC hb1.size (by simp)
  have hK1 := ((hK.kept hA (by cases hv : vK.ownBlock <;> simp)).kept hB (by
    cases hv : vK.ownBlock with
    | none => exact .inl rfl
    | some g => exact .inr (fun e => own_apart hK hL (by decide) g hv e.symm)))
  have hk : Keeps S wr (wb.setCell ⟨W.heap.size + 3, 3, none⟩ v') := ⟨Nat.le_trans hA.size (Nat.le_trans hB.size hC.size), fun b hS' _ => (hb2.block b (hS b hS')).trans (hb.block b (hS b hS')).symm⟩
  refine ⟨⟨g1 h3 (by omega) (by omega), g1 h5 (by omega) (by omega), g1 h6 (by omega) (by omega), ?_⟩, ⟨?_, ?_⟩, ?_, hb2, ?_⟩
  · have := ((h7.grownN hA).grown hB (not_some lL (by omega))).setCell 3 v'
    exact this
  · rw [List.length_append]
    refine World.ownsRow.kept hown hC ?_
    cases hv : v'.ownBlock with
    | none => exact .inl rfl
    | some g => exact .inr (fun e => by injection e with e; have := l' g hv; omega)
  · exact FlatJ.snoc (RepS.keeps ⟨hb2.size, fun b h _ => hb2.block b (hS b h)⟩ (fun _ h _ => h) _ _ hx) (hf.keeps hk (fun _ h _ => h))
  · refine hK1.kept hC ?_
    cases hv : vK.ownBlock with
    | none => exact .inl rfl
    | some g => exact .inr (fun e => by injection e with e; have := lK g hv; omega)
  · exact Nat.le_trans hsz (Nat.le_trans hA.size (Nat.le_trans hB.size hC.size))
theorem heap_at {w : World} {n : Nat} (h : w.heap.size = n) (cs : List Value) (t : TypeId) : Blk (w.alloc (.cells cs.toArray t)) n t cs := by
  subst h; exact heap_alloc_new w _
theorem putInv_start (W : World) (c3 c5 : List Value) (S : Nat → Prop) :
    PutInv W ((((W.alloc (.cells c3.toArray 26)).alloc (.cells c5.toArray 26)).alloc (.cells zeros5.toArray 26)).alloc (.cells #[.int .i64 5, .int .i64 0, .string ⟨#[]⟩, .slice none 0 0, .slice none 0 0] 26)) c3 c5 S [] [] (.slice none 0 0) [] (.slice none 0 0) := by
  refine ⟨⟨?_, ?_, ?_, heap_at (by simp) [.int .i64 5, .int .i64 0, .string ⟨#[]⟩, .slice none 0 0, .slice none 0 0] _⟩, ⟨World.ownsRow_nil _ _ _ _, rfl⟩, World.ownsRow_nil _ _ _ _, ?_, by simp⟩
  · exact (((heap_at rfl c3 _).grownN (World.grownBy_alloc _ _ none)).grownN (World.grownBy_alloc _ _ none)).grownN (World.grownBy_alloc _ _ none)
  · exact ((heap_at (by simp) c5 _).grownN (World.grownBy_alloc _ _ none)).grownN (World.grownBy_alloc _ _ none)
  · exact (heap_at (by simp) zeros5 _).grownN (World.grownBy_alloc _ _ none)
  · exact ((((Below.refl _ _).alloc (Nat.le_refl _) _).alloc (by simp) _).alloc (by simp; omega) _).alloc (by simp; omega) _
theorem own_one {w : World} {b : Nat} {e : TypeId} {z n : Nat} {v : Value} {xs : List Value} (h : w.ownsRow b e z v n xs) : v.oneCell' = true := by
  rcases h.2 with ⟨rfl, _⟩ | ⟨g, _, _, rfl, _⟩ <;> rfl
/-- The cells of Put's blocks, as the walk reads them. -/
structure PutCells (wr : World) (B : Nat) (kd n : Int) (s : ByteArray) (A : Option Addr) (q c : Nat) (K1 : Option Addr) (d1 : Nat) (x0 x1 : Int) (x2 : ByteArray) (A' : Option Addr) (x3 c' : Nat) (K2 : Option Addr) (x4 d2 : Nat) (vL vK : Value) : Prop where
  e33 : wr.cell? ⟨B, 3, none⟩ = some (.slice A q c)
  e34 : wr.cell? ⟨B, 4, none⟩ = some (.slice K1 q d1)
  e50 : wr.cell? ⟨B + 1, 0, none⟩ = some (.int .i64 x0)
  e51 : wr.cell? ⟨B + 1, 1, none⟩ = some (.int .i64 x1)
  e52 : wr.cell? ⟨B + 1, 2, none⟩ = some (.string x2)
  e53 : wr.cell? ⟨B + 1, 3, none⟩ = some (.slice A' x3 c')
  e54 : wr.cell? ⟨B + 1, 4, none⟩ = some (.slice K2 x4 d2)
  e73 : wr.cell? ⟨B + 3, 3, none⟩ = some vL
  e74 : wr.cell? ⟨B + 3, 4, none⟩ = some vK
  f73 : wr.frozen? ⟨B + 3, 3, none⟩ = false
  f74 : wr.frozen? ⟨B + 3, 4, none⟩ = false
theorem PutInv.cells {W wr : World} {kd n x0 x1 : Int} {s x2 : ByteArray} {A K1 A' K2 : Option Addr} {q c d1 x3 c' x4 d2 : Nat} {S : Nat → Prop} {vs : List J} {xs : List Value} {vL vK : Value} {ks : List ByteArray}
    (h : PutInv W wr [.int .i64 kd, .int .i64 n, .string s, .slice A q c, .slice K1 q d1] [.int .i64 x0, .int .i64 x1, .string x2, .slice A' x3 c', .slice K2 x4 d2] S vs xs vL ks vK) :
    PutCells wr W.heap.size kd n s A q c K1 d1 x0 x1 x2 A' x3 c' K2 x4 d2 vL vK := by
  obtain ⟨⟨h3, h5, h6, h7⟩, _⟩ := h
  exact ⟨h3.cell 3, h3.cell 4, h5.cell 0, h5.cell 1, h5.cell 2, h5.cell 3, h5.cell 4, h7.cell 3, h7.cell 4, h7.frozen 3, h7.frozen 4⟩
/-- They stay where other rows grow. -/
theorem PutCells.grown {w w' : World} {B : Nat} {row : Option Nat} {kd n x0 x1 : Int} {s x2 : ByteArray} {A K1 A' K2 : Option Addr} {q c d1 x3 c' x4 d2 : Nat} {vL vK : Value}
    (h : PutCells w B kd n s A q c K1 d1 x0 x1 x2 A' x3 c' K2 x4 d2 vL vK) (hg : w.grownBy w' row) (hr : ∀ k, row = some k → B + 4 ≤ k) : PutCells w' B kd n s A q c K1 d1 x0 x1 x2 A' x3 c' K2 x4 d2 vL vK := by
  have hne : ∀ a, a < B + 4 → some a ≠ row := fun a ha e => by have := hr a e.symm; omega
  have g : ∀ {a o : Nat} {v : Value}, a < B + 4 → w.cell? ⟨a, o, none⟩ = some v → w'.cell? ⟨a, o, none⟩ = some v := fun ha hv => hg.cell hv (hne _ ha)
  have f : ∀ {o : Nat}, w.frozen? ⟨B + 3, o, none⟩ = false → w'.frozen? ⟨B + 3, o, none⟩ = false := fun {o} hv => by
    rw [World.frozen?_of_block (hg.block (B + 3) (World.block_lt_of_cell? w ⟨B + 3, 3, none⟩ h.e73) (hne _ (by omega)))]; exact hv
  exact ⟨g (by omega) h.e33, g (by omega) h.e34, g (by omega) h.e50, g (by omega) h.e51, g (by omega) h.e52, g (by omega) h.e53, g (by omega) h.e54, g (by omega) h.e73, g (by omega) h.e74, f h.f73, f h.f74⟩
/-- What Put tells in the end. -/
theorem PutInv.tells {W wr w' : World} {c3 c5 : List Value} {S : Nat → Prop} {vs : List J} {xs : List Value} {vL vK : Value} {ks : List ByteArray} (hI : PutInv W wr c3 c5 S vs xs vL ks vK) (hS : ∀ b, S b → b < W.heap.size) (hg : wr.grownBy w' (some (W.heap.size + 2)))
    (hv : vs.length ≤ 9223372036854775807) (hk : ks.length ≤ 9223372036854775807) (hks : ∀ t ∈ ks, t.size ≤ 9223372036854775807) :
    RepS w' (fun b => S b ∨ W.heap.size ≤ b) (.mk 5 0 ⟨#[]⟩ vs ks) (.agg #[.int .i64 5, .int .i64 0, .string ⟨#[]⟩, vL, vK]) := by
  obtain ⟨_, ⟨hL, hf⟩, hK, hb, hsz⟩ := hI
  have kept : ∀ {v : Value}, (∀ k, v.ownBlock = some k → W.heap.size + 4 ≤ k) → v.ownBlock = none ∨ v.ownBlock ≠ some (W.heap.size + 2) := fun {v} h => by
    cases hv : v.ownBlock with
    | none => exact .inl rfl
    | some g => exact .inr (fun e => by injection e with e; have := h g hv; omega)
  refine RepS.of_rows (hL.kept hg (kept fun k hk => (hL.lt k hk).1)) (hf.keeps (S := S) (T := S) ⟨hg.size, fun b hS' hb' => ?_⟩ (fun _ h _ => h)) (hK.kept hg (kept fun k hk => (hK.lt k hk).1)) (fun b h _ => .inl h) (fun b h => .inr (by omega)) (by decide) hv hk hks
  exact hg.block b hb' (by have := hS b hS'; simp; omega)
theorem own_len {w : World} {b : Nat} {e : TypeId} {z n m : Nat} {v : Value} {xs : List Value} (h : w.ownsRow b e z v n xs) (hm : m = n) : w.ownsRow b e z v m xs := by subst hm; exact h
end Go.Proofs.YtblheibknpphkaaGreatDoor
