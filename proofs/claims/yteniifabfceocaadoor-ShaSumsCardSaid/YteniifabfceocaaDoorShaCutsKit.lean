/- What the law ShaCuts keeps from round to round: the Hash, the parts, the list of them. -/
import Derived.Test.YteniifabfceocaaDoorShaText
import Derived.Test.YteniifabfceocaaDoorShaNil
namespace Go.Proofs.YteniifabfceocaaDoor
open Go Go.RowKit

theorem run_neq_same {P : Program} (t e : TypeId) (n : Nat) (k : IntKind) (ht : P.underlying t = some (.array n e)) (he : P.underlying e = some (.int k)) (hp : P.plainKey e = true) (hc : P.cellsOf e = 1) (hi : (P.info? e).isSome = true) (L : List Int) (hl : L.length = n) (w : World) :
    (binOp .neq t (.agg (ints k L).toArray) (.agg (ints k L).toArray)).run P w = .ok (.bool false) w := by
  obtain ⟨i, hi'⟩ := Option.isSome_iff_exists.1 hi
  rw [run_neq_struct, show (10000 : Nat) = 9999 + 1 from rfl, run_equalIn_array w 9999 _ _ ht hi', hc, show (9999 : Nat) = 9998 + 1 from rfl, run_eqItems_same 9998 e k he hp L w (List.range n) (fun j hj => by rw [hl]; exact List.mem_range.1 hj)]
  rfl
theorem neq32 (L : List Int) (hl : L.length = 32) (w : World) : (binOp .neq 24 (.agg (ints .u8 L).toArray) (.agg (ints .u8 L).toArray)).run Tryd.prog w = .ok (.bool false) w :=
  run_neq_same _ _ 32 .u8 Tryd.underlying24 Tryd.underlying5 pk5 cc5 i5 L hl w

/-- Block b is a row of bytes that begins with xs. -/
def Row5 (w : World) (b : Nat) (xs : List Int) : Prop := ∃ cs fr, w.heap[b]? = some (.cells cs 5 fr) ∧ ∀ (j : Nat) (v : Value), (ints .u8 xs)[j]? = some v → cs[j]? = some v
theorem Row5.lt {w : World} {b : Nat} {xs : List Int} (h : Row5 w b xs) : b < w.heap.size := by
  obtain ⟨cs, fr, hb, _⟩ := h
  rcases Nat.lt_or_ge b w.heap.size with h | h
  · exact h
  · rw [Array.getElem?_eq_none h] at hb; cases hb
theorem Row5.cell {w : World} {b : Nat} {xs : List Int} (h : Row5 w b xs) (j : Nat) (v : Value) (hv : (ints .u8 xs)[j]? = some v) : w.cell? ⟨b, j, none⟩ = some v := by
  obtain ⟨cs, fr, hb, hc⟩ := h
  rw [cell_of_row w b j cs _ fr hb]; exact hc j v hv
theorem Row5.lies {w : World} {b : Nat} {xs : List Int} (h : Row5 w b xs) : Lies w (some ⟨b, 0, none⟩) xs := fun _ =>
  ⟨b, 0, rfl, by have := h.lt; omega, h.lt, fun j v hv => by rw [Nat.zero_add]; exact h.cell j v hv⟩
theorem Row5.src {w : World} {b g : Nat} {xs : List Int} (h : Row5 w b xs) (hg : b ≠ g) : Src w g (some ⟨b, 0, none⟩) xs := fun _ =>
  ⟨b, 0, rfl, hg, h.lt, fun j v hv => by rw [Nat.zero_add]; exact h.cell j v hv⟩
theorem Row5.below {w w' : World} {b : Nat} {xs : List Int} (h : Row5 w b xs) (hb : Below w.heap.size w w') : Row5 w' b xs := by
  obtain ⟨cs, fr, he, hc⟩ := h
  exact ⟨cs, fr, (hb.block b (Row5.lt ⟨cs, fr, he, hc⟩)).trans he, hc⟩
/-- It is no block of another type. -/
theorem Row5.ne {w : World} {b g : Nat} {xs : List Int} (h : Row5 w b xs) {cs : Array Value} {t : TypeId} {fr : Nat × Nat} (hg : w.heap[g]? = some (.cells cs t fr)) (ht : t ≠ 5) : b ≠ g := by
  rintro rfl
  obtain ⟨cs', fr', hb, _⟩ := h
  rw [hb] at hg
  injection hg with hg
  injection hg with _ h2 _
  exact ht h2.symm
theorem Row5.grown {w w' : World} {b : Nat} {xs : List Int} (h : Row5 w b xs) {row : Option Nat} (hg : w.grownBy w' row) (hne : row ≠ some b) : Row5 w' b xs := by
  obtain ⟨cs, fr, he, hc⟩ := h
  exact ⟨cs, fr, (hg.block b (Row5.lt ⟨cs, fr, he, hc⟩) (fun e => hne e.symm)).trans he, hc⟩
theorem row5Bytes (w : World) (s : ByteArray) : Row5 (Lib.bytesWorld w 5 s) w.heap.size (strL s) :=
  ⟨_, _, Lib.bytesWorld_at_new w 5 s, fun j v hv => by
    have hj := (List.getElem?_eq_some_iff.1 hv).1
    rw [length_ints, length_strL] at hj
    have h1 := Lib.bytesWorld_cell w 5 s j hj
    rw [cell_of_row _ _ _ _ _ _ (Lib.bytesWorld_at_new w 5 s)] at h1
    rw [h1, ← hv]
    have hj2 : j < s.data.toList.length := by simpa using hj
    simp [ints, strL, List.getD, hj]⟩

def PartR (w : World) (p : Part) : Prop := ∃ b, p.1 = some ⟨b, 0, none⟩ ∧ Row5 w b p.2.2 ∧ p.2.2.length ≤ p.2.1 ∧ Bytes p.2.2
theorem PartR.ok {w : World} {p : Part} (h : PartR w p) : PartOk w p := by
  obtain ⟨b, hb, hr, hl, hx⟩ := h
  exact ⟨hx, hl, by rw [hb]; exact hr.lies⟩
theorem PartR.below {w w' : World} {p : Part} (h : PartR w p) (hb : Below w.heap.size w w') : PartR w' p := by
  obtain ⟨b, h1, hr, h2⟩ := h
  exact ⟨b, h1, hr.below hb, h2⟩
theorem PartR.grown {w w' : World} {p : Part} (h : PartR w p) {row : Option Nat} (hg : w.grownBy w' row) (hne : ∀ g, row = some g → ∃ cs t fr, w.heap[g]? = some (.cells cs t fr) ∧ t ≠ 5) : PartR w' p := by
  obtain ⟨b, h1, hr, h2⟩ := h
  refine ⟨b, h1, hr.grown hg fun e => ?_, h2⟩
  obtain ⟨cs, t, fr, hh, ht⟩ := hne b e
  exact hr.ne hh ht rfl
theorem HRep.below {w w' : World} {g : Nat} {bs : List Int} (h : HRep w g bs) (hb : Below w.heap.size w w') : HRep w' g bs := by
  obtain ⟨sum, blk, hok, hbl⟩ := h
  exact ⟨sum, blk, hok, hbl.below hb hbl.lt⟩
theorem HRep.grown {w w' : World} {g : Nat} {bs : List Int} (h : HRep w g bs) {row : Option Nat} (hb : w.grownBy w' row) (hr : row ≠ some g) : HRep w' g bs := by
  obtain ⟨sum, blk, hok, hbl⟩ := h
  exact ⟨sum, blk, hok, hbl.grown hb (fun e => hr e.symm)⟩

/-- All strings up to the k-th. -/
def cat (ss : List ByteArray) (k : Nat) : List Int := ((ss.take k).map strL).flatten
theorem cat_succ (ss : List ByteArray) (k : Nat) (h : k < ss.length) : cat ss (k + 1) = cat ss k ++ strL (ss.getD k ByteArray.empty) := by
  unfold cat
  rw [List.take_add_one, List.getElem?_eq_getElem h, Option.toList_some, List.map_append, List.flatten_append, List.getD_eq_getElem?_getD, List.getElem?_eq_getElem h]
  simp only [List.map_cons, List.map_nil, List.flatten_cons, List.flatten_nil, List.append_nil, Option.getD_some]
theorem cat_bd (ss : List ByteArray) (k : Nat) : Bytes (cat ss k) := .of_mem fun x hx => by
  unfold cat at hx
  obtain ⟨l, hl, hx⟩ := List.mem_flatten.1 hx
  obtain ⟨s, _, rfl⟩ := List.mem_map.1 hl
  exact (strL_bd s).mem hx
theorem strL_append (a b : ByteArray) : strL (a ++ b) = strL a ++ strL b := by
  simp only [strL, ByteArray.data_append, Array.toList_append, List.map_append]
theorem flat_snoc (ps : List Part) (p : Part) : flat (ps ++ [p]) = flat ps ++ p.2.2 := by simp [flat]

/-- The state: the Hash in block g has taken in X; the slice v lists the parts ps. -/
structure ST (w0 : World) (B g : Nat) (X : List Int) (ps : List Part) (v : Value) (w : World) : Prop where
  rep : HRep w g X
  parts : ∀ p ∈ ps, PartR w p
  own : w.ownsRow B 26 1 v ps.length (ps.map Part.val)
  bel : Below w0.heap.size w0 w
  size : B ≤ w.heap.size
  lt : g < B
  ge : w0.heap.size ≤ g
theorem ST.below {w0 : World} {B g : Nat} {X : List Int} {ps : List Part} {v : Value} {w w' : World} (h : ST w0 B g X ps v w) (hb : Below w.heap.size w w') : ST w0 B g X ps v w' :=
  ⟨h.rep.below hb, fun p hp => (h.parts p hp).below hb, h.own.kept (row := none) (grownBy_of_below hb none) (Classical.em _), h.bel.trans (hb.mono h.bel.size), Nat.le_trans h.size hb.size, h.lt, h.ge⟩
theorem ST.write {w0 : World} {B g : Nat} {X X' : List Int} {ps : List Part} {v : Value} {w w' : World} (h : ST w0 B g X ps v w) (hr : HRep w' g X') (hg : w.grownBy w' (some g)) : ST w0 B g X' ps v w' := by
  have hblk : ∃ cs t fr, w.heap[g]? = some (.cells cs t fr) ∧ t ≠ 5 := by
    obtain ⟨sum, blk, _, hb⟩ := h.rep
    exact ⟨_, _, _, hb, by decide⟩
  refine ⟨hr, fun p hp => (h.parts p hp).grown hg fun g' e => ?_, h.own.kept hg ?_, h.bel.grown hg h.bel.size ?_, Nat.le_trans h.size hg.size, h.lt, h.ge⟩
  · injection e with e; subst e; exact hblk
  · exact Or.inr fun e => by have := own_ge h.own g e; have := h.lt; omega
  · intro k hk; injection hk with hk; have := h.ge; omega
theorem ST.push {w0 : World} {B g : Nat} {X : List Int} {ps : List Part} {v v' : Value} {w w' : World} {p : Part} (o : Obj) (h : ST w0 B g X ps v w) (hp : PartR w p)
    (hown : w'.ownsRow B 26 1 v' (ps.length + 1) (ps.map Part.val ++ [p.val])) (hg : (w.alloc o).grownBy w' v.ownBlock) : ST w0 B g X (ps ++ [p]) v' w' := by
  have hA := h.below (belowAlloc w o)
  have hp' := hp.below (belowAlloc w o)
  have hrow : ∀ q, PartR (w.alloc o) q → PartR w' q := fun q hq => hq.grown hg fun g' e => by
    rcases hA.own.2 with ⟨hv, _⟩ | ⟨g2, cap, cur, hv, _, hh, _⟩
    · rw [hv] at e; cases e
    · rw [hv] at e
      have : g2 = g' := by simpa [Value.ownBlock] using e
      subst this
      exact ⟨_, _, _, hh, by decide⟩
  refine ⟨hA.rep.grown hg fun e => ?_, fun q hq => ?_, ?_, hA.bel.grown hg hA.bel.size fun k hk => ?_, Nat.le_trans hA.size hg.size, hA.lt, hA.ge⟩
  · have := own_ge h.own g e; have := h.lt; omega
  · rcases List.mem_append.1 hq with hq | hq
    · exact hrow q (hA.parts q hq)
    · rw [List.mem_singleton.1 hq]; exact hrow p hp'
  · rw [List.length_append, List.map_append]; exact hown
  · have := own_ge h.own k hk; have := h.lt; have := h.ge; omega
theorem ST.tabs {w0 : World} {B g : Nat} {X : List Int} {ps : List Part} {v : Value} {w : World} (h : ST w0 B g X ps v w) (ht : Tabs w0) : Tabs w := ht.below h.bel
end Go.Proofs.YteniifabfceocaaDoor
