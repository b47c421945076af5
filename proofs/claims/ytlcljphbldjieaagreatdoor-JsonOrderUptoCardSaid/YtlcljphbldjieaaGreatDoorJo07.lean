/- JsonGet, JsonParse, JsonQuoted, JsonFoot, JsonValue, JsonMoves, JsonRun: merged. -/
import Derived.Laws.ResultCell
import Derived.Test.YtlcljphbldjieaaGreatDoorJo04
set_option linter.all false
namespace Go.Proofs.YtlcljphbldjieaaGreatDoor
open Go Go.RowKit
/-- The zero value. -/
def zeroJ : J := .mk 0 0 ⟨#[]⟩ [] []
end Go.Proofs.YtlcljphbldjieaaGreatDoor
namespace Go.Proofs.YtlcljphbldjieaaGreatDoor
open Go Go.RowKit
/-- The number of a \u that stands at a place, with the other half behind it; -1: none. -/
def halfL (l : List Int) (i : Nat) : Int := if atL l (i + 6) = 92 ∧ atL l (i + 7) = 117 then (hexL l 4 (i + 8) 0).1 else -1
/-- What stands within quotes, from a place behind the first on: the bytes, where it ends, what is wrong. -/
def quotL (l : List Int) : Nat → Nat → List Int → List Int × Nat × Int
  | 0, i, _ => ([], i, 50)
  | f + 1, i, out =>
    if atL l i < 32 then ([], i, 50)
    else if atL l i = 34 then (out, i + 1, 0)
    else if atL l i ≠ 92 then
      (if (nxL (l.drop i)).1 < 0 then ([], i, 50) else quotL l f (i + (nxL (l.drop i)).2) (out ++ (l.drop i).take (nxL (l.drop i)).2))
    else if atL l (i + 1) ≠ 117 then
      (if plainL (atL l (i + 1)) = [] then ([], i + 1, 50) else quotL l f (i + 2) (out ++ plainL (atL l (i + 1))))
    else if (hexL l 4 (i + 2) 0).1 < 0 then ([], (hexL l 4 (i + 2) 0).2.toNat, 50)
    else if (hexL l 4 (i + 2) 0).1 < 55296 ∨ 57343 < (hexL l 4 (i + 2) 0).1 then quotL l f (i + 6) (out ++ putL (hexL l 4 (i + 2) 0).1)
    else if 56320 ≤ (hexL l 4 (i + 2) 0).1 ∨ halfL l i < 56320 ∨ 57343 < halfL l i then ([], i, 50)
    else quotL l f (i + 12) (out ++ putL (65536 + ((hexL l 4 (i + 2) 0).1 - 55296) * 1024 + halfL l i - 56320))
def quotedL (l : List Int) (i : Nat) : List Int × Nat × Int := if atL l i ≠ 34 then ([], i, 50) else quotL l (l.length + 1) (i + 1) []
/-- Is a name there? -/
def hasK (ks : List ByteArray) (t : ByteArray) : Bool := ks.any fun k => decide (k = t)
/-- A member more, rising, in the place of one of its name (t: is it there already). -/
def putKL (t : ByteArray) (x : J) : Bool → List ByteArray → List J → List ByteArray × List J
  | false, [], _ => ([t], [x])
  | true, [], _ => ([], [])
  | d, k :: ks, vs =>
    let r := putKL t x (d || !Op.bytesLess k.toList t.toList) ks vs.tail
    let own : List ByteArray × List J := if k = t then ([], []) else ([k], [vs.headD zeroJ])
    let new : List ByteArray × List J := if d = false ∧ Op.bytesLess k.toList t.toList = false then ([t], [x]) else ([], [])
    (new.1 ++ own.1 ++ r.1, new.2 ++ own.2 ++ r.2)
/-- A value, where it ends (blanks behind it too), how many may come still, what is wrong. -/
abbrev VR := J × Nat × Int × Int
def beginsV (c : Int) : Bool := decide (c = 45 ∨ (48 ≤ c ∧ c ≤ 57) ∨ c = 110 ∨ c = 116 ∨ c = 102 ∨ c = 34 ∨ c = 91 ∨ c = 123)
/-- A value that is no list and no object is told, if nothing is wrong. -/
def tellV (l : List Int) (left : Int) (v : J) (p : Nat × Int) : VR := if p.2 ≠ 0 then (zeroJ, p.1, left, p.2) else (v, skipL l p.1, left, 0)
def valF (l : List Int) (many : Nat → Int → VR) (i : Nat) (left : Int) : VR :=
  if ¬ beginsV (atL l i) = true then (zeroJ, i, left, 50)
  else if left - 1 < 0 then (zeroJ, i, left - 1, 53)
  else if atL l i = 45 ∨ (48 ≤ atL l i ∧ atL l i ≤ 57) then
    (if leadL (l.drop i) = 0 then (zeroJ, i + 1, left - 1, 50)
     else if fitL ((l.drop i).take (leadL (l.drop i))) (-9007199254740991) 9007199254740991 = true then (.mk 2 (numL ((l.drop i).take (leadL (l.drop i)))) ⟨#[]⟩ [] [], skipL l (i + leadL (l.drop i)), left - 1, 0)
     else (zeroJ, i, left - 1, 41))
  else if atL l i = 110 then tellV l (left - 1) zeroJ (wordL l i [110, 117, 108, 108])
  else if atL l i = 116 then tellV l (left - 1) (.mk 1 1 ⟨#[]⟩ [] []) (wordL l i [116, 114, 117, 101])
  else if atL l i = 102 then tellV l (left - 1) (.mk 1 0 ⟨#[]⟩ [] []) (wordL l i [102, 97, 108, 115, 101])
  else if atL l i = 34 then tellV l (left - 1) (.mk 3 0 (toS (quotedL l i).1) [] []) (quotedL l i).2
  else many i (left - 1)
/-- An item of a list, or behind the name and the colon of an object; and all that follows. -/
def itemL (l : List Int) (val : Nat → Int → VR) (obj : Bool) (go : Nat → Int → List ByteArray → List J → VR) (i : Nat) (left : Int) (t : ByteArray) (ks : List ByteArray) (vs : List J) : VR :=
  if (val i left).2.2.2 ≠ 0 then (zeroJ, (val i left).2.1, (val i left).2.2.1, (val i left).2.2.2)
  else if atL l (val i left).2.1 ≠ 44 ∧ atL l (val i left).2.1 ≠ (if obj then 125 else 93) then (zeroJ, (val i left).2.1, (val i left).2.2.1, 50)
  else if obj then go (val i left).2.1 (val i left).2.2.1 (putKL t (val i left).1 false ks vs).1 (putKL t (val i left).1 false ks vs).2
  else go (val i left).2.1 (val i left).2.2.1 ks (vs ++ [(val i left).1])
/-- What stands between two commas, and all that follows. -/
def membL (l : List Int) (val : Nat → Int → VR) (obj : Bool) (go : Nat → Int → List ByteArray → List J → VR) (i : Nat) (left : Int) (ks : List ByteArray) (vs : List J) : VR :=
  if obj then
    (if (quotedL l i).2.2 ≠ 0 then (zeroJ, (quotedL l i).2.1, left, (quotedL l i).2.2)
     else if hasK ks (toS (quotedL l i).1) = true then (zeroJ, i, left, 52)
     else if atL l (skipL l (quotedL l i).2.1) ≠ 58 then (zeroJ, skipL l (quotedL l i).2.1, left, 50)
     else itemL l val obj go (skipL l (skipL l (quotedL l i).2.1 + 1)) left (toS (quotedL l i).1) ks vs)
  else itemL l val obj go i left ⟨#[]⟩ ks vs
def manyGo (l : List Int) (val : Nat → Int → VR) (obj : Bool) : Nat → Bool → Nat → Int → List ByteArray → List J → VR
  | 0, _, i, left, _, _ => (zeroJ, i, left, 50)
  | f + 1, first, i, left, ks, vs =>
    if atL l i = (if obj then 125 else 93) then (.mk (if obj then 5 else 4) 0 ⟨#[]⟩ vs ks, skipL l (i + 1), left, 0)
    else if first = true then membL l val obj (manyGo l val obj f false) i left ks vs
    else if atL l i ≠ 44 then (zeroJ, i, left, 50)
    else membL l val obj (manyGo l val obj f false) (skipL l (i + 1)) left ks vs
def manyL (l : List Int) (val : Nat → Int → VR) (i : Nat) (left : Int) : VR := manyGo l val (decide (atL l i = 123)) (l.length + 1) true (skipL l (i + 1)) left [] []
/-- The value from a place on (d: how many lists may still stand in one another). -/
def valueL (l : List Int) : Nat → Nat → Int → VR
  | 0 => valF l fun i left => (zeroJ, i, left, 51)
  | d + 1 => valF l (manyL l (valueL l d))
/-- The value of a text; what is wrong first, and its place. -/
def parseL (l : List Int) : J × Int × Int :=
  if 4096 < l.length then (zeroJ, 2, -1)
  else if (valueL l 8 (skipL l 0) 256).2.2.2 ≠ 0 then (zeroJ, (valueL l 8 (skipL l 0) 256).2.2.2, ((valueL l 8 (skipL l 0) 256).2.1 : Int))
  else if (valueL l 8 (skipL l 0) 256).2.1 < l.length then (zeroJ, 50, ((valueL l 8 (skipL l 0) 256).2.1 : Int))
  else ((valueL l 8 (skipL l 0) 256).1, 0, -1)
end Go.Proofs.YtlcljphbldjieaaGreatDoor
namespace Go.Proofs.YtlcljphbldjieaaGreatDoor
open Go Go.RowKit
theorem hexD_bd (c : Int) : -1 ≤ hexD c ∧ hexD c ≤ 15 := by unfold hexD; split <;> (try split) <;> (try split) <;> omega
theorem atL_lt {l : List Int} {i : Nat} (h : atL l i ≠ -1) : i < l.length := by
  rcases Nat.lt_or_ge i l.length with h' | h'
  · exact h'
  · rw [atL, List.getD_eq_getElem?_getD, List.getElem?_eq_none h'] at h
    exact absurd rfl h
theorem plain_cases (c : Int) : (plainL c = [c] ∧ (c = 34 ∨ c = 92 ∨ c = 47)) ∨ plainL c = [8] ∨ plainL c = [12] ∨ plainL c = [10] ∨ plainL c = [13] ∨ plainL c = [9] ∨ plainL c = [] := by
  unfold plainL
  by_cases h0 : c = 34 ∨ c = 92 ∨ c = 47
  · rw [if_pos h0]; exact .inl ⟨rfl, h0⟩
  · rw [if_neg h0]; right
    by_cases h1 : c = 98
    · rw [if_pos h1]; exact .inl rfl
    · rw [if_neg h1]; right
      by_cases h2 : c = 102
      · rw [if_pos h2]; exact .inl rfl
      · rw [if_neg h2]; right
        by_cases h3 : c = 110
        · rw [if_pos h3]; exact .inl rfl
        · rw [if_neg h3]; right
          by_cases h4 : c = 114
          · rw [if_pos h4]; exact .inl rfl
          · rw [if_neg h4]; right
            by_cases h5 : c = 116
            · rw [if_pos h5]; exact .inl rfl
            · rw [if_neg h5]; exact .inr rfl
theorem plain_len (c : Int) : (plainL c).length ≤ 1 := by
  rcases plain_cases c with ⟨h, _⟩ | h | h | h | h | h | h <;> rw [h] <;> simp
theorem plain_bytes (c : Int) : Bytes (plainL c) := .of_mem fun x hx => by
  rcases plain_cases c with ⟨h, _⟩ | h | h | h | h | h | h <;> rw [h] at hx <;> simp at hx <;> omega
theorem quotL_le (l : List Int) : ∀ (f i : Nat) (out : List Int), (quotL l f i out).2.2 = 0 → (quotL l f i out).2.1 ≤ l.length
  | 0, i, out, h => by rw [quotL] at h; exact absurd (show (50 : Int) = 0 from h) (by decide)
  | f + 1, i, out, h => by
    rw [quotL] at h ⊢
    split
    · rename_i hc; rw [if_pos hc] at h; exact absurd (show (50 : Int) = 0 from h) (by decide)
    · rename_i hc; rw [if_neg hc] at h
      split
      · rename_i h34; exact atL_lt (by omega)
      · rename_i h34; rw [if_neg h34] at h
        split
        · rename_i h92; rw [if_pos h92] at h
          split
          · rename_i hx; rw [if_pos hx] at h; exact absurd (show (50 : Int) = 0 from h) (by decide)
          · rename_i hx; rw [if_neg hx] at h; exact quotL_le l f _ _ h
        · rename_i h92; rw [if_neg h92] at h
          split
          · rename_i hu; rw [if_pos hu] at h
            split
            · rename_i hx; rw [if_pos hx] at h; exact absurd (show (50 : Int) = 0 from h) (by decide)
            · rename_i hx; rw [if_neg hx] at h; exact quotL_le l f _ _ h
          · rename_i hu; rw [if_neg hu] at h
            split
            · rename_i hx; rw [if_pos hx] at h; exact absurd (show (50 : Int) = 0 from h) (by decide)
            · rename_i hx; rw [if_neg hx] at h
              split
              · rename_i hy; rw [if_pos hy] at h; exact quotL_le l f _ _ h
              · rename_i hy; rw [if_neg hy] at h
                split
                · rename_i hz; rw [if_pos hz] at h; exact absurd (show (50 : Int) = 0 from h) (by decide)
                · rename_i hz; rw [if_neg hz] at h; exact quotL_le l f _ _ h
end Go.Proofs.YtlcljphbldjieaaGreatDoor
namespace Go.Proofs.YtlcljphbldjieaaGreatDoor
open Go Go.RowKit
/-- A slice of strings whose block is one of S. -/
def RepKS (W : World) (S : Nat → Prop) (k : List ByteArray) (v : Value) : Prop :=
  ∃ A c, v = .slice A k.length c ∧ k.length ≤ 9223372036854775807 ∧ (k ≠ [] → ∃ b o, A = some ⟨b, o, none⟩ ∧ S b ∧ b < W.heap.size ∧ ∀ i, i < k.length → ∃ t, k[i]? = some t ∧ t.size ≤ 9223372036854775807 ∧ W.cell? ⟨b, o + i, none⟩ = some (.string t))
mutual
/-- A value all of whose blocks are of S. -/
def RepS (W : World) (S : Nat → Prop) : J → Value → Prop
  | .mk kind n s l k, v => ∃ vk A c, v = .agg #[.int .i64 kind, .int .i64 n, .string s, .slice A l.length c, vk] ∧ s.size ≤ 9223372036854775807 ∧ RepKS W S k vk ∧ l.length ≤ 9223372036854775807 ∧
    (l ≠ [] → ∃ b o, A = some ⟨b, o, none⟩ ∧ S b ∧ b < W.heap.size ∧ RepCS W S b o l)
def RepCS (W : World) (S : Nat → Prop) (b o : Nat) : List J → Prop
  | [] => True
  | x :: r => (∃ v, RepS W S x v ∧ Five W b o v) ∧ RepCS W S b (o + 5) r
end
/-- The same blocks of S. -/
def Keeps (S : Nat → Prop) (W W' : World) : Prop := W.heap.size ≤ W'.heap.size ∧ ∀ b, S b → b < W.heap.size → W'.heap[b]? = W.heap[b]?
theorem Keeps.cell {S : Nat → Prop} {W W' : World} (h : Keeps S W W') {b : Nat} (hS : S b) (hb : b < W.heap.size) (o : Nat) : W'.cell? ⟨b, o, none⟩ = W.cell? ⟨b, o, none⟩ := by
  simp [World.cell?, h.2 b hS hb]
theorem Keeps.refl (S : Nat → Prop) (W : World) : Keeps S W W := ⟨Nat.le_refl _, fun _ _ _ => rfl⟩
theorem Keeps.trans {S : Nat → Prop} {W W' W2 : World} (h : Keeps S W W') (h2 : Keeps S W' W2) : Keeps S W W2 := ⟨Nat.le_trans h.1 h2.1, fun b hS hb => (h2.2 b hS (Nat.lt_of_lt_of_le hb h.1)).trans (h.2 b hS hb)⟩
theorem Keeps.below {S : Nat → Prop} {W W' : World} {B : Nat} (h : Below B W W') (hS : ∀ b, S b → b < W.heap.size → b < B) : Keeps S W W' := ⟨h.size, fun b hb hl => h.block b (hS b hb hl)⟩
theorem Keeps.grown {S : Nat → Prop} {W W' : World} {row : Option Nat} (h : W.grownBy W' row) (hS : ∀ b, S b → some b ≠ row) : Keeps S W W' := ⟨h.size, fun b hb hl => h.block b hl (hS b hb)⟩
theorem RepKS.keeps {S T : Nat → Prop} {W W' : World} {k : List ByteArray} {v : Value} (h : RepKS W S k v) (hk : Keeps S W W') (hT : ∀ b, S b → b < W.heap.size → T b) : RepKS W' T k v := by
  obtain ⟨A, c, e, hl, hc⟩ := h
  refine ⟨A, c, e, hl, fun hne => ?_⟩
  obtain ⟨b, o, e1, hS, hlt, hcs⟩ := hc hne
  refine ⟨b, o, e1, hT b hS hlt, Nat.lt_of_lt_of_le hlt hk.1, fun i hi => ?_⟩
  obtain ⟨t, h1, h2, h3⟩ := hcs i hi
  exact ⟨t, h1, h2, (hk.cell hS hlt _).trans h3⟩
theorem Five.keeps {S : Nat → Prop} {W W' : World} {b o : Nat} {v : Value} (h : Five W b o v) (hS : S b) (hlt : b < W.heap.size) (hk : Keeps S W W') : Five W' b o v := by
  obtain ⟨a0, a1, a2, a3, a4, e, h0, h1, h2, h3, h4⟩ := h
  exact ⟨a0, a1, a2, a3, a4, e, (hk.cell hS hlt _).trans h0, (hk.cell hS hlt _).trans h1, (hk.cell hS hlt _).trans h2, (hk.cell hS hlt _).trans h3, (hk.cell hS hlt _).trans h4⟩
theorem RepS.keeps {S T : Nat → Prop} {W W' : World} (hk : Keeps S W W') (hT : ∀ b, S b → b < W.heap.size → T b) : ∀ (j : J) (v : Value), RepS W S j v → RepS W' T j v := fun j => by
  induction j using J.ind with
  | h kind n s l k ih =>
    intro v h
    rw [RepS] at h ⊢
    obtain ⟨vk, A, c, e, hs, hkk, hl, hc⟩ := h
    refine ⟨vk, A, c, e, hs, hkk.keeps hk hT, hl, fun hne => ?_⟩
    obtain ⟨b, o, e1, hS, hlt, hcs⟩ := hc hne
    refine ⟨b, o, e1, hT b hS hlt, Nat.lt_of_lt_of_le hlt hk.1, ?_⟩
    have key : ∀ (l : List J) (o : Nat), (∀ x ∈ l, ∀ v, RepS W S x v → RepS W' T x v) → RepCS W S b o l → RepCS W' T b o l := fun l => by
      induction l with
      | nil => intro o _ _; rw [RepCS]; trivial
      | cons x r ihr =>
        intro o ih h
        rw [RepCS] at h ⊢
        obtain ⟨⟨v, h1, h2⟩, h3⟩ := h
        exact ⟨⟨v, ih x (by simp) v h1, h2.keeps hS hlt hk⟩, ihr (o + 5) (fun y hy => ih y (List.mem_cons_of_mem _ hy)) h3⟩
    exact key l o ih hcs
theorem RepS.toJ {S : Nat → Prop} {W : World} : ∀ (j : J) (v : Value), RepS W S j v → RepJ W j v := fun j => by
  induction j using J.ind with
  | h kind n s l k ih =>
    intro v h
    rw [RepS] at h
    rw [RepJ]
    obtain ⟨vk, A, c, e, hs, ⟨K, d, ek, hkl, hkc⟩, hl, hc⟩ := h
    refine ⟨vk, A, c, e, hs, ⟨K, d, ek, hkl, fun hne => ?_⟩, hl, fun hne => ?_⟩
    · obtain ⟨b, o, e1, _, hlt, hcs⟩ := hkc hne
      exact ⟨b, o, e1, hlt, hcs⟩
    · obtain ⟨b, o, e1, hS, hlt, hcs⟩ := hc hne
      refine ⟨b, o, e1, hlt, ?_⟩
      have key : ∀ (l : List J) (o : Nat), (∀ x ∈ l, ∀ v, RepS W S x v → RepJ W x v) → RepCS W S b o l → RepC W b o l := fun l => by
        induction l with
        | nil => intro o _ _; rw [RepC]; trivial
        | cons x r ihr =>
          intro o ih h
          rw [RepCS] at h
          rw [RepC]
          obtain ⟨⟨v, h1, h2⟩, h3⟩ := h
          exact ⟨⟨v, ih x (by simp) v h1, h2⟩, ihr (o + 5) (fun y hy => ih y (List.mem_cons_of_mem _ hy)) h3⟩
      exact key l o ih hcs
theorem RepS.ofJ {W : World} : ∀ (j : J) (v : Value), RepJ W j v → RepS W (fun _ => True) j v := fun j => by
  induction j using J.ind with
  | h kind n s l k ih =>
    intro v h
    rw [RepJ] at h
    rw [RepS]
    obtain ⟨vk, A, c, e, hs, ⟨K, d, ek, hkl, hkc⟩, hl, hc⟩ := h
    refine ⟨vk, A, c, e, hs, ⟨K, d, ek, hkl, fun hne => ?_⟩, hl, fun hne => ?_⟩
    · obtain ⟨b, o, e1, hlt, hcs⟩ := hkc hne
      exact ⟨b, o, e1, trivial, hlt, hcs⟩
    · obtain ⟨b, o, e1, hlt, hcs⟩ := hc hne
      refine ⟨b, o, e1, trivial, hlt, ?_⟩
      have key : ∀ (l : List J) (o : Nat), (∀ x ∈ l, ∀ v, RepJ W x v → RepS W (fun _ => True) x v) → RepC W b o l → RepCS W (fun _ => True) b o l := fun l => by
        induction l with
        | nil => intro o _ _; rw [RepCS]; trivial
        | cons x r ihr =>
          intro o ih h
          rw [RepC] at h
          rw [RepCS]
          obtain ⟨⟨v, h1, h2⟩, h3⟩ := h
          exact ⟨⟨v, ih x (by simp) v h1, h2⟩, ihr (o + 5) (fun y hy => ih y (List.mem_cons_of_mem _ hy)) h3⟩
      exact key l o ih hcs
theorem RepS.open {W : World} {S : Nat → Prop} {j : J} {v : Value} (h : RepS W S j v) : ∃ vk A c, v = .agg #[.int .i64 j.kind, .int .i64 j.n, .string j.s, .slice A j.l.length c, vk] ∧ j.s.size ≤ 9223372036854775807 ∧ RepKS W S j.k vk ∧ j.l.length ≤ 9223372036854775807 ∧
    (j.l ≠ [] → ∃ b o, A = some ⟨b, o, none⟩ ∧ S b ∧ b < W.heap.size ∧ RepCS W S b o j.l) := by
  cases j; rw [RepS] at h; exact h
/-! ### Rows that grow -/
/-- The cells of values, one behind the other. -/
def FlatJ (W : World) (S : Nat → Prop) : List J → List Value → Prop
  | [], xs => xs = []
  | x :: r, xs => ∃ a0 a1 a2 a3 a4 ys, xs = a0 :: a1 :: a2 :: a3 :: a4 :: ys ∧ RepS W S x (.agg #[a0, a1, a2, a3, a4]) ∧ FlatJ W S r ys
theorem FlatJ.keeps {S T : Nat → Prop} {W W' : World} (hk : Keeps S W W') (hT : ∀ b, S b → b < W.heap.size → T b) : ∀ {l : List J} {xs : List Value}, FlatJ W S l xs → FlatJ W' T l xs
  | [], xs, h => h
  | x :: r, xs, h => by
    obtain ⟨a0, a1, a2, a3, a4, ys, e, h1, h2⟩ := h
    exact ⟨a0, a1, a2, a3, a4, ys, e, RepS.keeps hk hT _ _ h1, FlatJ.keeps hk hT h2⟩
theorem FlatJ.snoc {S : Nat → Prop} {W : World} {x : J} {a0 a1 a2 a3 a4 : Value} (hx : RepS W S x (.agg #[a0, a1, a2, a3, a4])) : ∀ {l : List J} {xs : List Value}, FlatJ W S l xs → FlatJ W S (l ++ [x]) (xs ++ [a0, a1, a2, a3, a4])
  | [], xs, h => by
    obtain rfl : xs = [] := h
    exact ⟨a0, a1, a2, a3, a4, [], rfl, hx, rfl⟩
  | y :: r, xs, h => by
    obtain ⟨b0, b1, b2, b3, b4, ys, e, h1, h2⟩ := h
    exact ⟨b0, b1, b2, b3, b4, ys ++ [a0, a1, a2, a3, a4], by rw [e]; rfl, h1, FlatJ.snoc hx h2⟩
theorem FlatJ.length {S : Nat → Prop} {W : World} : ∀ {l : List J} {xs : List Value}, FlatJ W S l xs → xs.length = l.length * 5
  | [], xs, h => by obtain rfl : xs = [] := h; rfl
  | x :: r, xs, h => by
    obtain ⟨a0, a1, a2, a3, a4, ys, e, h1, h2⟩ := h
    rw [e, List.length_cons, List.length_cons, List.length_cons, List.length_cons, List.length_cons, h2.length, List.length_cons]
    omega
theorem FlatJ.cells {S T : Nat → Prop} {W : World} {b : Nat} (hT : ∀ b, S b → b < W.heap.size → T b) : ∀ {l : List J} {xs : List Value} {o : Nat}, FlatJ W S l xs → (∀ j u, xs[j]? = some u → W.cell? ⟨b, o + j, none⟩ = some u) → RepCS W T b o l
  | [], xs, o, _, _ => by rw [RepCS]; trivial
  | x :: r, xs, o, h, hc => by
    obtain ⟨a0, a1, a2, a3, a4, ys, e, h1, h2⟩ := h
    subst e
    rw [RepCS]
    refine ⟨⟨_, RepS.keeps (Keeps.refl S W) hT _ _ h1, a0, a1, a2, a3, a4, rfl, hc 0 a0 rfl, hc 1 a1 rfl, hc 2 a2 rfl, hc 3 a3 rfl, hc 4 a4 rfl⟩, ?_⟩
    refine h2.cells hT fun j u hu => ?_
    have := hc (j + 5) u (by simpa using hu)
    rwa [show o + 5 + j = o + (j + 5) by omega]
/-- A row of values of our own: what a slice of it is. -/
theorem own_list {W : World} {S T : Nat → Prop} {base : Nat} {v : Value} {l : List J} {xs : List Value} (hown : W.ownsRow base 26 5 v l.length xs) (hf : FlatJ W S l xs) (hT : ∀ b, S b → b < W.heap.size → T b) (hb : ∀ b, base ≤ b → T b) :
    ∃ A c, v = .slice A l.length c ∧ (l ≠ [] → ∃ b o, A = some ⟨b, o, none⟩ ∧ T b ∧ b < W.heap.size ∧ RepCS W T b o l) := by
  rcases hown.2 with ⟨rfl, h0⟩ | ⟨g, cap, cur, rfl, hg, hcell, hle, hm, _⟩
  · refine ⟨none, 0, by rw [h0], fun hne => ?_⟩
    exact absurd (List.eq_nil_of_length_eq_zero h0) hne
  · refine ⟨some ⟨g, 0, none⟩, cap, rfl, fun _ => ⟨g, 0, rfl, hb g hg, (hown.lt g rfl).2, hf.cells hT fun j u hu => ?_⟩⟩
    have := hown.cells (g := g) rfl j u hu
    rwa [Addr.add_mid] at this
/-- A row of names of our own. -/
theorem own_names {W : World} {T : Nat → Prop} {base : Nat} {v : Value} {k : List ByteArray} (hown : W.ownsRow base 9 1 v k.length (k.map Value.string)) (hb : ∀ b, base ≤ b → T b) (hl : k.length ≤ 9223372036854775807) (hs : ∀ t ∈ k, t.size ≤ 9223372036854775807) : RepKS W T k v := by
  rcases hown.2 with ⟨rfl, h0⟩ | ⟨g, cap, cur, rfl, hg, hcell, hle, hm, _⟩
  · refine ⟨none, 0, by rw [h0], hl, fun hne => ?_⟩
    exact absurd (List.eq_nil_of_length_eq_zero h0) hne
  · refine ⟨some ⟨g, 0, none⟩, cap, rfl, hl, fun _ => ⟨g, 0, rfl, hb g hg, (hown.lt g rfl).2, fun i hi => ⟨k[i], List.getElem?_eq_getElem hi, hs _ (List.getElem_mem hi), ?_⟩⟩⟩
    have := hown.cells (g := g) rfl i (.string k[i]) (by rw [List.getElem?_map, List.getElem?_eq_getElem hi]; rfl)
    rwa [Addr.add_mid] at this
/-- A value out of its rows. -/
theorem RepS.of_rows {W : World} {S T : Nat → Prop} {base : Nat} {vL vK : Value} {kind n : Int} {s : ByteArray} {l : List J} {k : List ByteArray} {xs : List Value} (hL : W.ownsRow base 26 5 vL l.length xs) (hf : FlatJ W S l xs)
    (hK : W.ownsRow base 9 1 vK k.length (k.map Value.string)) (hT : ∀ b, S b → b < W.heap.size → T b) (hb : ∀ b, base ≤ b → T b) (hs : s.size ≤ 9223372036854775807) (hl : l.length ≤ 9223372036854775807) (hk : k.length ≤ 9223372036854775807) (hks : ∀ t ∈ k, t.size ≤ 9223372036854775807) :
    RepS W T (.mk kind n s l k) (.agg #[.int .i64 kind, .int .i64 n, .string s, vL, vK]) := by
  obtain ⟨A, c, rfl, hc⟩ := own_list hL hf hT hb
  rw [RepS]
  exact ⟨vK, A, c, rfl, hs, own_names hK hb hk hks, hl, hc⟩
theorem RepS.zero (W : World) (S : Nat → Prop) : RepS W S zeroJ (.agg #[.int .i64 0, .int .i64 0, .string ⟨#[]⟩, .slice none 0 0, .slice none 0 0]) := by
  unfold zeroJ
  rw [RepS]
  exact ⟨_, none, 0, rfl, by decide, ⟨none, 0, rfl, by simp, fun h => absurd rfl h⟩, by simp, fun h => absurd rfl h⟩
theorem RepS.plain (W : World) (S : Nat → Prop) (kind n : Int) (s : ByteArray) (hs : s.size ≤ 9223372036854775807) : RepS W S (.mk kind n s [] []) (.agg #[.int .i64 kind, .int .i64 n, .string s, .slice none 0 0, .slice none 0 0]) := by
  rw [RepS]
  exact ⟨_, none, 0, rfl, hs, ⟨none, 0, rfl, by simp, fun h => absurd rfl h⟩, by simp, fun h => absurd rfl h⟩
/-- A zero value's cells. -/
def zeros5 : List Value := [.int .i64 0, .int .i64 0, .string ⟨#[]⟩, .slice none 0 0, .slice none 0 0]
theorem sizeJson : (Tryz.prog.info? 26).map (·.size) = some 5 := by kernel_rfl
end Go.Proofs.YtlcljphbldjieaaGreatDoor
namespace Go.Proofs.YtlcljphbldjieaaGreatDoor
open Go Go.RowKit
theorem wordL_le {l : List Int} : ∀ {x : List Int} {i : Nat}, (∀ c ∈ x, 0 ≤ c) → i ≤ l.length → (wordL l i x).1 ≤ l.length
  | [], i, _, hi => by rw [wordL]; exact hi
  | c :: r, i, hx, hi => by
    rw [wordL]
    split
    · rename_i h
      exact wordL_le (fun c hc => hx c (List.mem_cons_of_mem _ hc)) (atL_lt (by have := hx c (by simp); omega))
    · exact hi
theorem heapAt (w : World) {n : Nat} (h : w.heap.size = n) (cs : List Value) (t : TypeId) : Blk (w.alloc (.cells cs.toArray t)) n t cs := by
  subst h; exact heap_alloc_new w _
theorem quotedL_le (l : List Int) (i : Nat) (h : (quotedL l i).2.2 = 0) : (quotedL l i).2.1 ≤ l.length := by
  unfold quotedL at h ⊢
  split
  · rename_i hc; rw [if_pos hc] at h; exact absurd (show (50 : Int) = 0 from h) (by decide)
  · rename_i hc; rw [if_neg hc] at h; exact quotL_le l _ _ _ h
theorem quotL_len (l : List Int) : ∀ (f i : Nat) (out : List Int), (quotL l f i out).1.length ≤ out.length + 4 * f
  | 0, i, out => by rw [quotL]; simp
  | f + 1, i, out => by
    have h : ∀ (i : Nat) (x : List Int), x.length ≤ 4 → (quotL l f i (out ++ x)).1.length ≤ out.length + 4 * (f + 1) := fun i x hx => by
      have := quotL_len l f i (out ++ x)
      rw [List.length_append] at this; omega
    rw [quotL]
    split
    · simp
    · split
      · simp only; omega
      · split
        · split
          · simp
          · refine h _ _ ?_
            have := (nx_bd (l.drop i)).2.2.1
            rw [List.length_take]; omega
        · split
          · split
            · simp
            · exact h _ _ (by have := plain_len (atL l (i + 1)); omega)
          · split
            · simp
            · split
              · exact h _ _ (putL_len _)
              · split
                · simp
                · exact h _ _ (putL_len _)
theorem quotedL_len (l : List Int) (i : Nat) : (quotedL l i).1.length ≤ 4 * l.length + 4 := by
  unfold quotedL
  split
  · simp
  · have := quotL_len l (l.length + 1) (i + 1) []
    simp at this; omega
end Go.Proofs.YtlcljphbldjieaaGreatDoor
namespace Go.Proofs.YtlcljphbldjieaaGreatDoor
open Go Go.RowKit
/-- Nothing is wrong: it ends behind i, within l; no more may come than before. -/
def Moves (l : List Int) (i : Nat) (left : Int) (r : VR) : Prop := r.2.2.2 = 0 → i < r.2.1 ∧ r.2.1 ≤ l.length ∧ 0 ≤ r.2.2.1 ∧ r.2.2.1 ≤ left
theorem Moves.bad {l : List Int} {i : Nat} {left : Int} {v : J} {p : Nat} {n e : Int} (he : e ≠ 0) : Moves l i left (v, p, n, e) := fun h => absurd h he
theorem skipL_ge {l : List Int} {i : Nat} (h : i ≤ l.length) : i ≤ skipL l i ∧ skipL l i ≤ l.length := skipL_le l.length l i (by omega) h
theorem Moves.mono {l : List Int} {i j : Nat} {left left' : Int} {r : VR} (h : Moves l j left' r) (hi : i ≤ j) (hl : left' ≤ left) : Moves l i left r := fun he => by
  obtain ⟨h1, h2, h3, h4⟩ := h he
  exact ⟨by omega, h2, h3, by omega⟩
theorem wordL_ok {l : List Int} : ∀ {x : List Int} {i : Nat}, (wordL l i x).2 = 0 → (wordL l i x).1 = i + x.length
  | [], i, _ => by rw [wordL]; rfl
  | c :: r, i, h => by
    rw [wordL] at h ⊢
    split
    · rename_i hc; rw [if_pos hc] at h
      have := wordL_ok h
      rw [this, List.length_cons]; omega
    · rename_i hc; rw [if_neg hc] at h
      exact absurd (show (50 : Int) = 0 from h) (by decide)
theorem quotL_gt (l : List Int) : ∀ (f i : Nat) (out : List Int), (quotL l f i out).2.2 = 0 → i < (quotL l f i out).2.1
  | 0, i, out, h => by rw [quotL] at h; exact absurd (show (50 : Int) = 0 from h) (by decide)
  | f + 1, i, out, h => by
    rw [quotL] at h ⊢
    split
    · rename_i hc; rw [if_pos hc] at h; exact absurd (show (50 : Int) = 0 from h) (by decide)
    · rename_i hc; rw [if_neg hc] at h
      split
      · exact Nat.lt_succ_self i
      · rename_i h34; rw [if_neg h34] at h
        split
        · rename_i h92; rw [if_pos h92] at h
          split
          · rename_i hx; rw [if_pos hx] at h; exact absurd (show (50 : Int) = 0 from h) (by decide)
          · rename_i hx; rw [if_neg hx] at h
            have := quotL_gt l f _ _ h
            have hn := (nx_found (l := l.drop i) (by omega)).2.2.1
            omega
        · rename_i h92; rw [if_neg h92] at h
          split
          · rename_i hu; rw [if_pos hu] at h
            split
            · rename_i hx; rw [if_pos hx] at h; exact absurd (show (50 : Int) = 0 from h) (by decide)
            · rename_i hx; rw [if_neg hx] at h; have := quotL_gt l f _ _ h; omega
          · rename_i hu; rw [if_neg hu] at h
            split
            · rename_i hx; rw [if_pos hx] at h; exact absurd (show (50 : Int) = 0 from h) (by decide)
            · rename_i hx; rw [if_neg hx] at h
              split
              · rename_i hy; rw [if_pos hy] at h; have := quotL_gt l f _ _ h; omega
              · rename_i hy; rw [if_neg hy] at h
                split
                · rename_i hz; rw [if_pos hz] at h; exact absurd (show (50 : Int) = 0 from h) (by decide)
                · rename_i hz; rw [if_neg hz] at h; have := quotL_gt l f _ _ h; omega
theorem quotedL_gt (l : List Int) (i : Nat) (h : (quotedL l i).2.2 = 0) : i < (quotedL l i).2.1 := by
  unfold quotedL at h ⊢
  split
  · rename_i hc; rw [if_pos hc] at h; exact absurd (show (50 : Int) = 0 from h) (by decide)
  · rename_i hc; rw [if_neg hc] at h
    have := quotL_gt l _ _ _ h
    omega
theorem tellV_moves {l : List Int} {i : Nat} {left left' : Int} (hl : 0 ≤ left) (hll : left ≤ left') (v : J) (p : Nat × Int) (hp : p.2 = 0 → i < p.1 ∧ p.1 ≤ l.length) : Moves l i left' (tellV l left v p) := by
  unfold tellV
  split
  · rename_i h; exact .bad h
  · rename_i h
    have h0 : p.2 = 0 := by omega
    obtain ⟨h1, h2⟩ := hp h0
    have := skipL_ge h2
    exact fun _ => ⟨by show i < skipL l p.1; omega, this.2, hl, hll⟩
theorem valF_moves {l : List Int} {many : Nat → Int → VR} (hm : ∀ i left, i < l.length → 0 ≤ left → Moves l i left (many i left)) (i : Nat) (left : Int) (hi : i ≤ l.length) : Moves l i left (valF l many i left) := by
  unfold valF
  by_cases hb : beginsV (atL l i) = true
  · rw [if_neg (by rw [hb]; simp)]
    have hlt : i < l.length := atL_lt (by intro e; rw [e] at hb; revert hb; decide)
    split
    · exact .bad (by decide)
    · rename_i h1
      split
      · split
        · exact .bad (by decide)
        · rename_i hn
          have hle := leadL_le (l.drop i)
          rw [List.length_drop] at hle
          split
          · have := skipL_ge (l := l) (i := i + leadL (l.drop i)) (by omega)
            exact fun _ => ⟨by show i < skipL l _; omega, this.2, by show 0 ≤ left - 1; omega, by show left - 1 ≤ left; omega⟩
          · exact .bad (by decide)
      · have hw : ∀ (x : List Int), x ≠ [] → (∀ c ∈ x, 0 ≤ c) → (wordL l i x).2 = 0 → i < (wordL l i x).1 ∧ (wordL l i x).1 ≤ l.length := fun x hne hx h => by
          have h1 := wordL_ok h
          have h2 := wordL_le hx hi
          have := List.length_pos_iff.2 hne
          exact ⟨by omega, h2⟩
        split
        · exact tellV_moves (by omega) (by omega) _ _ (hw _ (by decide) (by decide))
        · split
          · exact tellV_moves (by omega) (by omega) _ _ (hw _ (by decide) (by decide))
          · split
            · exact tellV_moves (by omega) (by omega) _ _ (hw _ (by decide) (by decide))
            · split
              · exact tellV_moves (by omega) (by omega) _ _ (fun h => ⟨quotedL_gt l i h, quotedL_le l i h⟩)
              · exact (hm i (left - 1) hlt (by omega)).mono (Nat.le_refl _) (by omega)
  · rw [if_pos hb]
    exact .bad (by decide)
theorem manyGo_moves {l : List Int} {val : Nat → Int → VR} (hv : ∀ i left, i ≤ l.length → 0 ≤ left → Moves l i left (val i left)) (obj : Bool) : ∀ (f : Nat) (first : Bool) (i : Nat) (left : Int) (ks : List ByteArray) (vs : List J), i ≤ l.length → 0 ≤ left → Moves l i left (manyGo l val obj f first i left ks vs)
  | 0, first, i, left, ks, vs, _, _ => by rw [manyGo]; exact .bad (by decide)
  | f + 1, first, i, left, ks, vs, hi, hl => by
    have item : ∀ (a : Nat) (t : ByteArray), i ≤ a → a ≤ l.length → Moves l i left (itemL l val obj (manyGo l val obj f false) a left t ks vs) := fun a t ha hal => by
      unfold itemL
      by_cases he : (val a left).2.2.2 ≠ 0
      · rw [if_pos he]; exact .bad he
      · rw [if_neg he]
        obtain ⟨h1, h2, h3, h4⟩ := hv a left hal hl (by omega)
        by_cases hc : atL l (val a left).2.1 ≠ 44 ∧ atL l (val a left).2.1 ≠ (if obj = true then 125 else 93)
        · rw [if_pos hc]; exact .bad (by decide)
        · rw [if_neg hc]
          cases obj
          · exact (manyGo_moves hv false f false _ _ _ _ h2 h3).mono (by omega) h4
          · exact (manyGo_moves hv true f false _ _ _ _ h2 h3).mono (by omega) h4
    have memb : ∀ (a : Nat), i ≤ a → a ≤ l.length → Moves l i left (membL l val obj (manyGo l val obj f false) a left ks vs) := fun a ha hal => by
      unfold membL
      split
      · split
        · rename_i he; exact .bad he
        · rename_i he
          have h0 : (quotedL l a).2.2 = 0 := by omega
          have q1 := quotedL_gt l a h0
          have q2 := quotedL_le l a h0
          have s1 := skipL_ge q2
          split
          · exact .bad (by decide)
          · split
            · exact .bad (by decide)
            · rename_i h58
              have h3 := atL_lt (l := l) (i := skipL l (quotedL l a).2.1) (by omega)
              have s2 := skipL_ge (l := l) (i := skipL l (quotedL l a).2.1 + 1) (by omega)
              exact item _ _ (by omega) s2.2
      · exact item _ _ ha hal
    rw [manyGo]
    by_cases he : atL l i = (if obj = true then 125 else 93)
    · rw [if_pos he]
      have h3 := atL_lt (l := l) (i := i) (by rw [he]; cases obj <;> decide)
      have s2 := skipL_ge (l := l) (i := i + 1) (by omega)
      exact fun _ => ⟨by show i < skipL l (i + 1); omega, s2.2, hl, Int.le_refl _⟩
    · rw [if_neg he]
      split
      · exact memb _ (Nat.le_refl _) hi
      · split
        · exact .bad (by decide)
        · rename_i h44
          have h3 := atL_lt (l := l) (i := i) (by omega)
          have s2 := skipL_ge (l := l) (i := i + 1) (by omega)
          exact memb _ (by omega) s2.2
theorem valueL_moves (l : List Int) : ∀ (d i : Nat) (left : Int), i ≤ l.length → Moves l i left (valueL l d i left)
  | 0, i, left, hi => by rw [valueL]; exact valF_moves (fun i left _ _ => .bad (by decide)) i left hi
  | d + 1, i, left, hi => by
    rw [valueL]
    refine valF_moves (fun i left hi hl => ?_) i left hi
    unfold manyL
    have s := skipL_ge (l := l) (i := i + 1) (by omega)
    exact (manyGo_moves (fun i left hi _ => valueL_moves l d i left hi) _ _ _ _ _ _ _ s.2 hl).mono (by omega) (Int.le_refl _)
end Go.Proofs.YtlcljphbldjieaaGreatDoor
namespace Go.Proofs.YtlcljphbldjieaaGreatDoor
open Go Go.RowKit
/-- A byte that stands for itself. -/
def selfB (c : Int) : Bool := decide (32 ≤ c ∧ c ≠ 34 ∧ c ≠ 92)
theorem selfB_iff {c : Int} : selfB c = true ↔ 32 ≤ c ∧ c ≠ 34 ∧ c ≠ 92 := by unfold selfB; exact decide_eq_true_iff
/-- Where the bytes that stand for themselves end. -/
def spanL (l : List Int) (i : Nat) : Nat := if h : i < l.length then (if selfB (atL l i) then spanL l (i + 1) else i) else i
termination_by l.length - i
decreasing_by omega
theorem self_lt {l : List Int} {i : Nat} (h : selfB (atL l i) = true) : i < l.length := atL_lt (by intro e; rw [e] at h; revert h; decide)
theorem spanL_go {l : List Int} {i : Nat} (h : selfB (atL l i) = true) : spanL l i = spanL l (i + 1) := by
  rw [spanL, dif_pos (self_lt h), if_pos h]
theorem spanL_stop {l : List Int} {i : Nat} (h : ¬ selfB (atL l i) = true) : spanL l i = i := by
  by_cases hl : i < l.length
  · rw [spanL, dif_pos hl, if_neg h]
  · rw [spanL, dif_neg hl]
theorem spanL_le : ∀ (n : Nat) (l : List Int) (i : Nat), l.length - i ≤ n → i ≤ l.length → i ≤ spanL l i ∧ spanL l i ≤ l.length
  | 0, l, i, hn, hi => by rw [spanL, dif_neg (by omega)]; omega
  | n + 1, l, i, hn, hi => by
    rw [spanL]
    split
    · split
      · have := spanL_le n l (i + 1) (by omega) (by omega)
        omega
      · omega
    · omega
theorem spanL_le' {l : List Int} {i : Nat} (hi : i ≤ l.length) : i ≤ spanL l i ∧ spanL l i ≤ l.length := spanL_le _ l i (Nat.le_refl _) hi
theorem spanL_end : ∀ (n : Nat) (l : List Int) (i : Nat), l.length - i ≤ n → ¬ selfB (atL l (spanL l i)) = true
  | n, l, i, hn => by
    by_cases h : selfB (atL l i) = true
    · have hl := self_lt h
      obtain ⟨m, rfl⟩ : ∃ m, n = m + 1 := ⟨n - 1, by omega⟩
      rw [spanL_go h]
      exact spanL_end m l (i + 1) (by omega)
    · rw [spanL_stop h]; exact h
theorem spanL_skip {l : List Int} : ∀ (k i : Nat), (∀ m, m < k → selfB (atL l (i + m)) = true) → spanL l i = spanL l (i + k)
  | 0, i, _ => rfl
  | k + 1, i, h => by
    have h0 : selfB (atL l i) = true := h 0 (by omega)
    rw [spanL_go h0, spanL_skip k (i + 1) fun m hm => by have := h (m + 1) (by omega); rwa [show i + 1 + m = i + (m + 1) by omega]]
    congr 1; omega
theorem atL_drop (l : List Int) (i m : Nat) : atL (l.drop i) m = atL l (i + m) := by
  simp [atL, List.getD_eq_getElem?_getD, List.getElem?_drop]
/-- The bytes of a letter of more than one byte. -/
theorem putL_big {n : Int} (h : 128 ≤ n) : ∀ x ∈ putL n, 128 ≤ x := fun x hx => by
  rcases putL_cases n with ⟨h', _⟩ | ⟨_, _, h'⟩ | ⟨_, _, h'⟩ | ⟨_, _, _, h'⟩ | ⟨_, _, h'⟩ <;> rw [h'] at hx <;> simp at hx <;> omega
/-- A letter's bytes stand for themselves, if its first does. -/
theorem letter_self {l : List Int} {i : Nat} (hs : selfB (atL l i) = true) (h : (nxL (l.drop i)).1 ≠ -1) : ∀ m, m < (nxL (l.drop i)).2 → selfB (atL l (i + m)) = true := by
  obtain ⟨h1, h2, h3, h4, h5, h6, h7⟩ := nx_found h
  intro m hm
  have hlt := self_lt hs
  rw [List.length_drop] at h4
  by_cases hn : (nxL (l.drop i)).1 < 128
  · rw [putL_one h6 hn] at h2
    have : m = 0 := by simp at h2; omega
    subst this; exact hs
  · have hmem : (l.drop i).getD m 0 ∈ putL (nxL (l.drop i)).1 := by
      rw [h1]
      have hl : m < ((l.drop i).take (nxL (l.drop i)).2).length := by rw [List.length_take, List.length_drop]; omega
      have := List.getElem_mem hl
      rw [List.getElem_take] at this
      rw [List.getD_eq_getElem?_getD, List.getElem?_eq_getElem (by rw [List.length_drop]; omega)]
      exact this
    have hbig := putL_big (by omega) _ hmem
    have e : (l.drop i).getD m 0 = atL l (i + m) := by
      rw [atL, List.getD_eq_getElem?_getD, List.getD_eq_getElem?_getD, List.getElem?_drop, List.getElem?_eq_getElem (by omega)]
      rfl
    rw [e] at hbig
    exact selfB_iff.2 ⟨by omega, by omega, by omega⟩
/-- A part of a list that begins with a whole letter. -/
theorem nx_part {l : List Int} {k : Nat} (h : (nxL (l.take k)).1 ≠ -1) : nxL l = nxL (l.take k) := by
  obtain ⟨h1, h2, h3, h4, h5, h6, h7⟩ := nx_found h
  rw [List.length_take] at h4
  rw [List.take_take, Nat.min_eq_left (by omega)] at h1
  have := nx_of_take (l := l) h7 (by rw [h2]; exact h1)
  rw [this, h2]
theorem nx_part' {l : List Int} {k : Nat} (h : (nxL l).1 ≠ -1) (hk : (nxL l).2 ≤ k) : nxL (l.take k) = nxL l := by
  obtain ⟨h1, h2, h3, h4, h5, h6, h7⟩ := nx_found h
  have := nx_of_take (l := l.take k) h7 (by rw [h2, List.take_take, Nat.min_eq_left hk]; exact h1)
  rw [this, h2]
/-- How far there still is to go is told by the place. -/
theorem quotL_fuel (l : List Int) : ∀ (f g i : Nat) (out : List Int), l.length - i < f → l.length - i < g → quotL l f i out = quotL l g i out
  | 0, _, _, _, h, _ => absurd h (by omega)
  | _ + 1, 0, _, _, _, h => absurd h (by omega)
  | f + 1, g + 1, i, out, hf, hg => by
    rw [quotL, quotL]
    by_cases h32 : atL l i < 32
    · rw [if_pos h32, if_pos h32]
    · rw [if_neg h32, if_neg h32]
      have hi : i < l.length := atL_lt (by omega)
      by_cases h34 : atL l i = 34
      · rw [if_pos h34, if_pos h34]
      · rw [if_neg h34, if_neg h34]
        by_cases h92 : atL l i ≠ 92
        · rw [if_pos h92, if_pos h92]
          by_cases hn : (nxL (l.drop i)).1 < 0
          · rw [if_pos hn, if_pos hn]
          · rw [if_neg hn, if_neg hn]
            have := nx_found (l := l.drop i) (by omega)
            exact quotL_fuel l f g _ _ (by omega) (by omega)
        · rw [if_neg h92, if_neg h92]
          split
          · split
            · rfl
            · exact quotL_fuel l f g _ _ (by omega) (by omega)
          · split
            · rfl
            · split
              · exact quotL_fuel l f g _ _ (by omega) (by omega)
              · split
                · rfl
                · exact quotL_fuel l f g _ _ (by omega) (by omega)
/-- A run of bytes that stand for themselves. -/
def segL (l : List Int) (i : Nat) : List Int := (l.drop i).take (spanL l i - i)
theorem segL_nil {l : List Int} {i : Nat} (h : ¬ selfB (atL l i) = true) : segL l i = [] := by
  unfold segL; rw [spanL_stop h, Nat.sub_self]; rfl
theorem length_segL {l : List Int} {i : Nat} (hi : i ≤ l.length) : (segL l i).length = spanL l i - i := by
  have := spanL_le' hi
  unfold segL; rw [List.length_take, List.length_drop]; omega
theorem quotL_span (l : List Int) : ∀ (n f g i : Nat) (out : List Int), l.length - i ≤ n → i ≤ l.length → l.length - i < f → l.length - i < g →
    quotL l f i out = if badU (segL l i) < spanL l i - i then ([], i + badU (segL l i), 50) else quotL l g (spanL l i) (out ++ segL l i) := by
  intro n
  induction n with
  | zero =>
    intro f g i out hn hi hf hg
    have hns : ¬ selfB (atL l i) = true := fun h => by have := self_lt h; omega
    rw [segL_nil hns, spanL_stop hns, Nat.sub_self, if_neg (by omega), List.append_nil]
    exact quotL_fuel l f g i out hf hg
  | succ n ih =>
    intro f g i out hn hi hf hg
    by_cases hs : selfB (atL l i) = true
    · have hlt := self_lt hs
      obtain ⟨a, b, c⟩ := selfB_iff.1 hs
      have hle := spanL_le' (l := l) (i := i + 1) (by omega)
      rw [← spanL_go hs] at hle
      obtain ⟨f, rfl⟩ : ∃ k, f = k + 1 := ⟨f - 1, by omega⟩
      rw [quotL, if_neg (by omega), if_neg b, if_pos c]
      by_cases hx : (nxL (l.drop i)).1 = -1
      · have hseg : (nxL (segL l i)).1 = -1 := by
          rcases Classical.em ((nxL (segL l i)).1 = -1) with h | h
          · exact h
          · have := nx_part (l := l.drop i) (k := spanL l i - i) h
            rw [this] at hx
            exact hx
        rw [if_pos (by omega), badU_stop hseg, if_pos (by omega)]
        rfl
      · have hself := letter_self hs hx
        obtain ⟨h1, h2, h3, h4, h5, h6, h7⟩ := nx_found hx
        rw [List.length_drop] at h4
        have hskip := spanL_skip _ i hself
        have hle2 := spanL_le' (l := l) (i := i + (nxL (l.drop i)).2) (by omega)
        rw [← hskip] at hle2
        have hnx : nxL (segL l i) = nxL (l.drop i) := nx_part' hx (by omega)
        obtain ⟨k, hk⟩ : ∃ k, k = (nxL (l.drop i)).2 := ⟨_, rfl⟩
        have hbad : badU (segL l i) = k + badU (segL l (i + k)) := by
          rw [badU_go (by rw [hnx]; exact hx), hnx, ← hk]
          congr 2
          unfold segL
          rw [hk, ← hskip, List.drop_take, List.drop_drop]
          congr 1; omega
        have happ : segL l i = (l.drop i).take k ++ segL l (i + k) := by
          unfold segL
          rw [hk, ← hskip, ← List.drop_drop]
          rw [show spanL l i - i = k + (spanL l i - (i + k)) by omega, List.take_add, hk]
        rw [if_neg (by omega), ← hk, ih f g (i + k) _ (by omega) (by omega) (by omega) (by omega), hbad, happ, show spanL l (i + k) = spanL l i by rw [hk, ← hskip], List.append_assoc]
        by_cases hb : badU (segL l (i + k)) < spanL l i - (i + k)
        · rw [if_pos hb, if_pos (by omega)]
          simp; omega
        · rw [if_neg hb, if_neg (by omega)]
    · rw [segL_nil hs, spanL_stop hs, Nat.sub_self, if_neg (by omega), List.append_nil]
      exact quotL_fuel l f g i out hf hg
/-! ### Behind a \ -/
/-- The letter of a \u, where it ends, what is wrong. -/
def codL (l : List Int) (i : Nat) : List Int × Nat × Int :=
  if (hexL l 4 (i + 2) 0).1 < 0 then ([], (hexL l 4 (i + 2) 0).2.toNat, 50)
  else if (hexL l 4 (i + 2) 0).1 < 55296 ∨ 57343 < (hexL l 4 (i + 2) 0).1 then (putL (hexL l 4 (i + 2) 0).1, i + 6, 0)
  else if 56320 ≤ (hexL l 4 (i + 2) 0).1 ∨ halfL l i < 56320 ∨ 57343 < halfL l i then ([], i, 50)
  else (putL (65536 + ((hexL l 4 (i + 2) 0).1 - 55296) * 1024 + halfL l i - 56320), i + 12, 0)
def escL (l : List Int) (i : Nat) : List Int × Nat × Int :=
  if atL l (i + 1) ≠ 117 then (if plainL (atL l (i + 1)) = [] then ([], i + 1, 50) else (plainL (atL l (i + 1)), i + 2, 0)) else codL l i
theorem quotL_esc (l : List Int) (f i : Nat) (out : List Int) (h : atL l i = 92) :
    quotL l (f + 1) i out = if (escL l i).2.2 ≠ 0 then ([], (escL l i).2.1, 50) else quotL l f (escL l i).2.1 (out ++ (escL l i).1) := by
  rw [quotL, if_neg (by omega), if_neg (by omega), if_neg (fun hn => hn h)]
  unfold escL codL
  by_cases h1 : atL l (i + 1) ≠ 117
  · rw [if_pos h1, if_pos h1]
    by_cases h2 : plainL (atL l (i + 1)) = []
    · rw [if_pos h2, if_pos h2]; rfl
    · rw [if_neg h2, if_neg h2]; rfl
  · rw [if_neg h1, if_neg h1]
    by_cases h2 : (hexL l 4 (i + 2) 0).1 < 0
    · rw [if_pos h2, if_pos h2]; rfl
    · rw [if_neg h2, if_neg h2]
      by_cases h3 : (hexL l 4 (i + 2) 0).1 < 55296 ∨ 57343 < (hexL l 4 (i + 2) 0).1
      · rw [if_pos h3, if_pos h3]; rfl
      · rw [if_neg h3, if_neg h3]
        by_cases h4 : 56320 ≤ (hexL l 4 (i + 2) 0).1 ∨ halfL l i < 56320 ∨ 57343 < halfL l i
        · rw [if_pos h4, if_pos h4]; rfl
        · rw [if_neg h4, if_neg h4]; rfl
/-- What stands at the end of a run, if it is no \. -/
theorem quotL_last (l : List Int) (f i : Nat) (out : List Int) (hs : ¬ selfB (atL l i) = true) (h : atL l i ≠ 92) :
    quotL l (f + 1) i out = if atL l i = 34 then (out, i + 1, 0) else ([], i, 50) := by
  rw [quotL]
  by_cases h34 : atL l i = 34
  · rw [if_neg (by omega), if_pos h34, if_pos h34]
  · have : atL l i < 32 := by
      rcases Int.lt_or_le (atL l i) 32 with h' | h'
      · exact h'
      · exact absurd (selfB_iff.2 ⟨h', h34, h⟩) hs
    rw [if_pos this, if_neg h34]
/-! ### Digits of base 16 -/
/-- The number of the digits that stand at a place, k at most, and how many they are. -/
def ldL (l : List Int) : Nat → Nat → Int → Int × Nat
  | 0, _, n => (n, 0)
  | k + 1, i, n => if hexD (atL l i) < 0 then (n, 0) else ((ldL l k (i + 1) (16 * n + hexD (atL l i))).1, (ldL l k (i + 1) (16 * n + hexD (atL l i))).2 + 1)
theorem hexD_end : hexD (-1) = -1 := by decide
theorem ldL_le (l : List Int) : ∀ (k i : Nat) (n : Int), (ldL l k i n).2 ≤ k ∧ (i ≤ l.length → i + (ldL l k i n).2 ≤ l.length)
  | 0, i, n => by rw [ldL]; exact ⟨Nat.le_refl _, fun h => h⟩
  | k + 1, i, n => by
    rw [ldL]
    split
    · exact ⟨Nat.zero_le _, fun h => h⟩
    · rename_i hd
      have hi : i < l.length := atL_lt (by intro e; rw [e, hexD_end] at hd; omega)
      have := ldL_le l k (i + 1) (16 * n + hexD (atL l i))
      refine ⟨by simp; omega, fun _ => ?_⟩
      have := this.2 (by omega)
      simp; omega
theorem ldL_hex (l : List Int) : ∀ (k i : Nat) (n : Int), i ≤ l.length → hexL l k i n = if (ldL l k i n).2 = k then ((ldL l k i n).1, 0) else (-1, ((i + (ldL l k i n).2 : Nat) : Int))
  | 0, i, n, _ => by rw [ldL, hexL, if_pos rfl]
  | k + 1, i, n, hi => by
    rw [ldL, hexL]
    split
    · rw [if_neg (by simp)]
      rw [Nat.min_eq_left hi]; simp
    · rename_i hd
      have hi : i < l.length := atL_lt (by intro e; rw [e, hexD_end] at hd; omega)
      rw [ldL_hex l k (i + 1) _ (by omega)]
      by_cases h : (ldL l k (i + 1) (16 * n + hexD (atL l i))).2 = k
      · rw [if_pos h, if_pos (by simp; exact h)]
      · rw [if_neg h, if_neg (by simp; exact h)]
        simp; omega
theorem ldL_bd (l : List Int) : ∀ (k i : Nat) (n : Int), 0 ≤ n → 0 ≤ (ldL l k i n).1 ∧ (ldL l k i n).1 < (n + 1) * 16 ^ (ldL l k i n).2
  | 0, i, n, h => by rw [ldL]; simp; omega
  | k + 1, i, n, h => by
    rw [ldL]
    split
    · simp; omega
    · rename_i hd
      have hb := hexD_bd (atL l i)
      have := ldL_bd l k (i + 1) (16 * n + hexD (atL l i)) (by omega)
      refine ⟨this.1, Int.lt_of_lt_of_le this.2 ?_⟩
      show (16 * n + hexD (atL l i) + 1) * 16 ^ (ldL l k (i + 1) (16 * n + hexD (atL l i))).2 ≤ (n + 1) * 16 ^ ((ldL l k (i + 1) (16 * n + hexD (atL l i))).2 + 1)
      rw [Int.pow_succ, Int.mul_comm (16 ^ _) 16, ← Int.mul_assoc]
      refine Int.mul_le_mul_of_nonneg_right (by omega) (Int.le_of_lt (Int.pow_pos (by decide)))
theorem ldL_drop (l : List Int) (a : Nat) : ∀ (k i : Nat) (n : Int), ldL (l.drop a) k i n = ldL l k (a + i) n
  | 0, i, n => rfl
  | k + 1, i, n => by
    rw [ldL, ldL, atL_drop, ldL_drop l a k (i + 1)]
    rfl
theorem ld4_bd (l : List Int) (i : Nat) : 0 ≤ (ldL l 4 i 0).1 ∧ (ldL l 4 i 0).1 ≤ 65535 ∧ ((ldL l 4 i 0).2 ≠ 4 → (ldL l 4 i 0).1 ≤ 4095) ∧ (ldL l 4 i 0).2 ≤ 4 := by
  have h := ldL_bd l 4 i 0 (by decide)
  have hk := (ldL_le l 4 i 0).1
  obtain ⟨m, hm⟩ : ∃ m, m = (ldL l 4 i 0).2 := ⟨_, rfl⟩
  rw [← hm] at h hk ⊢
  have : m = 0 ∨ m = 1 ∨ m = 2 ∨ m = 3 ∨ m = 4 := by omega
  rcases this with rfl | rfl | rfl | rfl | rfl <;> omega
/-- The other half, as the program reads it. -/
theorem halfL_ld (l : List Int) (i : Nat) : halfL l i = if atL l (i + 6) = 92 ∧ atL l (i + 7) = 117 then (if (ldL l 4 (i + 8) 0).2 = 4 then (ldL l 4 (i + 8) 0).1 else -1) else -1 := by
  unfold halfL
  split
  · rename_i h
    have h7 : i + 7 < l.length := atL_lt (by omega)
    rw [ldL_hex l 4 (i + 8) 0 (by omega)]
    split <;> rfl
  · rfl
theorem codL_ld (l : List Int) (i : Nat) (hi : i + 1 < l.length) : codL l i =
    if (ldL l 4 (i + 2) 0).2 ≠ 4 then ([], i + 2 + (ldL l 4 (i + 2) 0).2, 50)
    else if 56320 ≤ (ldL l 4 (i + 2) 0).1 ∧ (ldL l 4 (i + 2) 0).1 < 57344 then ([], i, 50)
    else if 55296 ≤ (ldL l 4 (i + 2) 0).1 ∧ (ldL l 4 (i + 2) 0).1 < 56320 then
      (if halfL l i < 56320 ∨ 57343 < halfL l i then ([], i, 50) else (putL (65536 + ((ldL l 4 (i + 2) 0).1 - 55296) * 1024 + halfL l i - 56320), i + 12, 0))
    else (putL (ldL l 4 (i + 2) 0).1, i + 6, 0) := by
  unfold codL
  have hb := ld4_bd l (i + 2)
  rw [ldL_hex l 4 (i + 2) 0 (by omega)]
  by_cases h4 : (ldL l 4 (i + 2) 0).2 = 4
  · rw [if_pos h4, if_neg (show ¬ (ldL l 4 (i + 2) 0).2 ≠ 4 from fun h => h h4)]
    obtain ⟨m, hm⟩ : ∃ m, m = (ldL l 4 (i + 2) 0).1 := ⟨_, rfl⟩
    rw [← hm] at hb ⊢
    show (if m < 0 then _ else if m < 55296 ∨ 57343 < m then _ else if 56320 ≤ m ∨ _ then _ else _) = _
    rw [if_neg (by omega)]
    by_cases h1 : m < 55296 ∨ 57343 < m
    · rw [if_pos h1, if_neg (by omega), if_neg (by omega)]
    · rw [if_neg h1]
      by_cases h2 : 56320 ≤ m
      · rw [if_pos (.inl h2), if_pos (by omega)]
      · by_cases h3 : halfL l i < 56320 ∨ 57343 < halfL l i
        · rw [if_pos (.inr h3), if_neg (show ¬ (56320 ≤ m ∧ m < 57344) by omega), if_pos (show 55296 ≤ m ∧ m < 56320 by omega), if_pos h3]
        · rw [if_neg (show ¬ (56320 ≤ m ∨ halfL l i < 56320 ∨ 57343 < halfL l i) by omega), if_neg (show ¬ (56320 ≤ m ∧ m < 57344) by omega), if_pos (show 55296 ≤ m ∧ m < 56320 by omega), if_neg h3]
  · rw [if_neg h4, if_pos h4]
    rw [if_pos (show (-1 : Int) < 0 by decide)]
    rfl
end Go.Proofs.YtlcljphbldjieaaGreatDoor
