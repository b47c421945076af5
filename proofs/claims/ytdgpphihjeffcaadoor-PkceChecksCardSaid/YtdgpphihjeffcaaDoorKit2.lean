/- The kit, on: 'copy' into a block that is known whole; slices that read as a list of bytes. -/
import Derived.Test.YtdgpphihjeffcaaDoorKit
import Derived.Deep.RegionLaw
namespace Go.Proofs.YtdgpphihjeffcaaDoor
open Go Go.RowKit

section
variable {P : Program} {w : World} {ops : Array Oper} {rest : List Oper} {o : Oper} {a : Act} {Q : Exit → Act → World → Prop}

theorem wp_copy_blk {K : Act → World → Prop} (d s : Operand) (dT sT : TypeId)
    (ho : o.op = .call { callee := .builtin .copy, args := #[d, s], argTypes := #[dT, sT] }) (elem : TypeId) (hu : P.underlying dT = some (.slice elem)) (hsz : (P.info? elem).map (·.size) = some 1)
    (dp sp : Option Addr) (dLen dCap sLen sCap : Nat) (hd : a.eval d = .slice dp dLen dCap) (hs : a.eval s = .slice sp sLen sCap)
    (g off : Nat) (t : TypeId) (cs : List Value) (hb : Blk w g t cs) (ds : List Value) (q : Nat) (hq : ds.length = q) (hn : q = Nat.min sLen dLen)
    (hpos : 0 < ds.length → dp = some ⟨g, off, none⟩ ∧ ∃ ad, sp = some ad ∧ ∀ j v, ds[j]? = some v → w.cell? (ad.add j) = some v)
    (hfit : off + ds.length ≤ cs.length) (h1 : ∀ v ∈ ds, v.oneCell' = true)
    (h : ∀ w', Blk w' g t (splice cs off ds) → w.grownBy w' (some g) → K (a.put o.dst (goInt q)) w') : o.wp P a w K Q := by
  subst hq
  by_cases h0 : ds.length = 0
  · obtain rfl : ds = [] := List.eq_nil_of_length_eq_zero h0
    have hrun := run_copy_none (P := P) w dT sT o.type elem dp sp dLen dCap sLen sCap hu hsz (by simpa using hn.symm)
    unfold Oper.wp
    simp [execOp, ho, resolve, invoke, builtin, hd, hs, hrun, Result.andThen]
    exact h w (by simpa [splice] using hb) (grownBy_refl _ _)
  · obtain ⟨rfl, ad, rfl, hsrc⟩ := hpos (by omega)
    have hrun := run_copy_row (P := P) w dT sT o.type elem g off dLen dCap ad sLen sCap cs.toArray t ds hu hsz hb hn hsrc (by simpa using hfit) h1
    unfold Oper.wp
    simp [execOp, ho, resolve, invoke, builtin, hd, hs, hrun, Result.andThen]
    refine h _ ?_ ⟨rfl, rfl, rfl, by simp [World.setRow], fun k _ hk => setRow_other w g k _ (fun e => hk (by simp [e]))⟩
    have := setRow_heap w g cs.toArray (cs.take off ++ (ds ++ cs.drop (off + ds.length))).toArray t (0, 0) hb
    simpa [splice, Blk] using this

theorem wpList_copy_blk (hgd : o.guard = none) (dst : Option Tmp) (hdst : o.dst = dst) (d s : Operand) (dT sT : TypeId)
    (ho : o.op = .call { callee := .builtin .copy, args := #[d, s], argTypes := #[dT, sT] }) (elem : TypeId) (hu : P.underlying dT = some (.slice elem)) (hsz : (P.info? elem).map (·.size) = some 1)
    (dp sp : Option Addr) (dLen dCap sLen sCap : Nat) (hd : a.eval d = .slice dp dLen dCap) (hs : a.eval s = .slice sp sLen sCap)
    (g off : Nat) (t : TypeId) (cs : List Value) (hb : Blk w g t cs) (ds : List Value) (q : Nat) (hq : ds.length = q) (hn : q = Nat.min sLen dLen)
    (hpos : 0 < ds.length → dp = some ⟨g, off, none⟩ ∧ ∃ ad, sp = some ad ∧ ∀ j v, ds[j]? = some v → w.cell? (ad.add j) = some v)
    (hfit : off + ds.length ≤ cs.length) (h1 : ∀ v ∈ ds, v.oneCell' = true)
    (h : ∀ w', Blk w' g t (splice cs off ds) → w.grownBy w' (some g) → wpList P ops Q rest (a.put dst (goInt q)) w') : wpList P ops Q (o :: rest) a w := by
  subst hdst
  exact wpList_plain hgd fun K hK => wp_copy_blk d s dT sT ho elem hu hsz dp sp dLen dCap sLen sCap hd hs g off t cs hb ds q hq hn hpos hfit h1 fun w' h2 h3 => hK _ _ (h w' h2 h3)

theorem step_copy_blk {K : Act → World → Prop} {E : Prop} (hgd : o.guard = none) (d s : Operand) (dT sT : TypeId)
    (ho : o.op = .call { callee := .builtin .copy, args := #[d, s], argTypes := #[dT, sT] }) (elem : TypeId) (hu : P.underlying dT = some (.slice elem)) (hsz : (P.info? elem).map (·.size) = some 1)
    (dp sp : Option Addr) (dLen dCap sLen sCap : Nat) (hd : a.eval d = .slice dp dLen dCap) (hs : a.eval s = .slice sp sLen sCap)
    (g off : Nat) (t : TypeId) (cs : List Value) (hb : Blk w g t cs) (ds : List Value) (q : Nat) (hq : ds.length = q) (hn : q = Nat.min sLen dLen)
    (hpos : 0 < ds.length → dp = some ⟨g, off, none⟩ ∧ ∃ ad, sp = some ad ∧ ∀ j v, ds[j]? = some v → w.cell? (ad.add j) = some v)
    (hfit : off + ds.length ≤ cs.length) (h1 : ∀ v ∈ ds, v.oneCell' = true)
    (h : ∀ w', Blk w' g t (splice cs off ds) → w.grownBy w' (some g) → K (a.put o.dst (goInt q)) w') :
    if Region.wanted o (yielded ops a.tmps) = true then Oper.wp P o a w K Q else E := by
  have hw : Region.wanted o (yielded ops a.tmps) = true := by simp [Region.wanted, hgd]
  rw [if_pos hw]
  exact wp_copy_blk d s dT sT ho elem hu hsz dp sp dLen dCap sLen sCap hd hs g off t cs hb ds q hq hn hpos hfit h1 h
end

/-- 'arr[l:]' of an array variable. -/
theorem run_sliceAt_from {P : Program} (t e : TypeId) (n : Nat) (ht : P.underlying t = some (.array n e)) (hsz : (P.info? e).map (·.size) = some 1) (g o l : Nat) (hl : l < n) (k : IntKind) (w : World) :
    (Instr.sliceAt t (.pointer (some ⟨g, o, none⟩)) (some (.int k (l : Int))) none none).run P w = .ok (.slice (some ⟨g, o + l, none⟩) (n - l) (n - l)) w := by
  have e1 : P.elem t = e := by simp [Program.elem, ht]
  have e2 : P.arrayLen t = n := by simp [Program.arrayLen, ht]
  rw [run_sliceAt_array_l w t ⟨g, o, none⟩ (by rw [e1, e2]; exact ht) k l (by omega) (by rw [e2]; omega), e1, e2]
  cases hq : P.info? e with
  | none => simp [hq] at hsz
  | some inf =>
    have hs : inf.size = 1 := by simpa [hq] using hsz
    simp [sizeOf, typeInfo, hq, hs, slicedAt, Addr.add_mid]
    omega
/-- 'arr[:h]' of an array variable. -/
theorem run_sliceAt_to {P : Program} (t e : TypeId) (n : Nat) (ht : P.underlying t = some (.array n e)) (hsz : (P.info? e).map (·.size) = some 1) (g o h : Nat) (_hn : 0 < n) (hl : h ≤ n) (k : IntKind) (w : World) :
    (Instr.sliceAt t (.pointer (some ⟨g, o, none⟩)) none (some (.int k (h : Int))) none).run P w = .ok (.slice (some ⟨g, o, none⟩) h n) w := by
  have e1 : P.elem t = e := by simp [Program.elem, ht]
  have e2 : P.arrayLen t = n := by simp [Program.arrayLen, ht]
  rw [run_sliceAt_array_h w t ⟨g, o, none⟩ (by rw [e1, e2]; exact ht) k h (by omega) (by rw [e2]; omega), e1, e2]
  cases hq : P.info? e with
  | none => simp [hq] at hsz
  | some inf =>
    have hs : inf.size = 1 := by simpa [hq] using hsz
    simp [sizeOf, typeInfo, hq, hs, slicedAt, Addr.add_mid]
/-- 'arr[:]' of an array variable. -/
theorem run_sliceAt_whole {P : Program} (t e : TypeId) (n : Nat) (ht : P.underlying t = some (.array n e)) (hsz : (P.info? e).map (·.size) = some 1) (g o : Nat) (_hn : 0 < n) (w : World) :
    (Instr.sliceAt t (.pointer (some ⟨g, o, none⟩)) none none none).run P w = .ok (.slice (some ⟨g, o, none⟩) n n) w := by
  have e1 : P.elem t = e := by simp [Program.elem, ht]
  have e2 : P.arrayLen t = n := by simp [Program.arrayLen, ht]
  rw [run_sliceAt_array_all w t ⟨g, o, none⟩ (by rw [e1, e2]; exact ht), e1, e2]
  cases hq : P.info? e with
  | none => simp [hq] at hsz
  | some inf =>
    have hs : inf.size = 1 := by simpa [hq] using hsz
    simp [sizeOf, typeInfo, hq, hs, slicedAt, Addr.add_mid]
/-- 'b[l:]' of a slice of bytes. -/
theorem run_sliceAt_rest {P : Program} (t e : TypeId) (ht : P.underlying t = some (.slice e)) (hsz : (P.info? e).map (·.size) = some 1) (A : Option Addr) (n c l : Nat) (hl : l ≤ n) (k : IntKind) (w : World) :
    (Instr.sliceAt t (.slice A n c) (some (.int k (l : Int))) none none).run P w = .ok (.slice (if c = l then A else A.map (·.add l)) (n - l) (c - l)) w := by
  have e1 : P.elem t = e := by simp [Program.elem, ht]
  rw [run_sliceAt_slice (P := P) w t _ _ _ _ (by rw [e1]; exact ht), run_slice_l w t A n c (by rw [e1]; exact ht) k l (by omega) (by omega), e1]
  cases hq : P.info? e with
  | none => simp [hq] at hsz
  | some inf =>
    have hs : inf.size = 1 := by simpa [hq] using hsz
    simp [sizeOf, typeInfo, hq, hs, sliced]

/-- The slice value '.slice A _ _' reads as the bytes xs, and lies in no block but one that is there and isn't g. -/
def Src (w : World) (g : Nat) (A : Option Addr) (xs : List Int) : Prop :=
  0 < xs.length → ∃ b o, A = some ⟨b, o, none⟩ ∧ b ≠ g ∧ b < w.heap.size ∧ ∀ j v, (ints .u8 xs)[j]? = some v → w.cell? ⟨b, o + j, none⟩ = some v
theorem Src.grown {w w' : World} {g : Nat} {A : Option Addr} {xs : List Int} (h : Src w g A xs) {row : Option Nat} (hb : w.grownBy w' row) (hr : row = none ∨ row = some g) : Src w' g A xs := fun hp => by
  obtain ⟨b, o, e, hne, hlt, hc⟩ := h hp
  refine ⟨b, o, e, hne, Nat.lt_of_lt_of_le hlt hb.size, fun j v hv => ?_⟩
  rw [World.cell?_of_block (w := w) (hb.block b hlt (by rcases hr with rfl | rfl <;> simp [hne]))]
  exact hc j v hv
theorem Src.below {w w' : World} {g : Nat} {A : Option Addr} {xs : List Int} (h : Src w g A xs) (hb : Below w.heap.size w w') : Src w' g A xs := h.grown (grownBy_of_below hb none) (.inl rfl)
theorem Src.drop {w : World} {g : Nat} {A : Option Addr} {xs : List Int} (h : Src w g A xs) (k : Nat) : Src w g (A.map (·.add k)) (xs.drop k) := fun hp => by
  simp only [List.length_drop] at hp
  obtain ⟨b, o, rfl, hne, hlt, hc⟩ := h (by omega)
  refine ⟨b, o + k, by simp [Addr.add_mid], hne, hlt, fun j v hv => ?_⟩
  have := hc (k + j) v (by simpa [ints, List.getElem?_drop] using hv)
  rwa [← Nat.add_assoc] at this
theorem Src.nil (w : World) (g : Nat) (A : Option Addr) : Src w g A [] := fun h => absurd h (by simp)
theorem Src.blk {w : World} {g b o : Nat} {t : TypeId} {cs : List Value} (h : Blk w b t cs) (hne : b ≠ g) {xs : List Int} (hx : ∀ j v, (ints .u8 xs)[j]? = some v → cs[o + j]? = some v) : Src w g (some ⟨b, o, none⟩) xs :=
  fun _ => ⟨b, o, rfl, hne, h.lt, fun j v hv => (h.cell _).trans (hx j v hv)⟩
theorem Src.src {w : World} {g : Nat} {A : Option Addr} {xs : List Int} (h : Src w g A xs) (k : Nat) : 0 < (ints .u8 (xs.take k)).length → ∃ ad, A = some ad ∧ ∀ j v, (ints .u8 (xs.take k))[j]? = some v → w.cell? (ad.add j) = some v := fun hp => by
  simp only [length_ints, List.length_take] at hp
  obtain ⟨b, o, rfl, _, _, hc⟩ := h (by omega)
  refine ⟨_, rfl, fun j v hv => ?_⟩
  rw [Addr.add_mid]
  refine hc j v ?_
  have hj := (List.getElem?_eq_some_iff.1 hv).1
  simp only [length_ints, List.length_take] at hj
  simp only [ints, List.map_take, List.getElem?_take] at hv
  rw [if_pos (by omega)] at hv
  exact hv
end Go.Proofs.YtdgpphihjeffcaaDoor
