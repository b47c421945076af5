/- The kit, on: strings made of numbers; their parts and joins; owned rows of bytes; conversions; bits of int. -/
import Derived.Test.YtdgpphihjeffcaaDoorProg
import Derived.Test.YtdgpphihjeffcaaDoorKit3
import Derived.Laws.BytesString
import Derived.Laws.BytesArg
namespace Go.Proofs.YtdgpphihjeffcaaDoor
open Go Go.RowKit

theorem ret_int {k : IntKind} {a b : Int} (h : a = b) : Ending.returned (.int k a) = .returned (.int k b) := by rw [h]
theorem lt_of_cell {w : World} {a : Addr} {v : Value} (h : w.cell? a = some v) : a.block < w.heap.size := by
  rcases Nat.lt_or_ge a.block w.heap.size with h' | h'
  · exact h'
  · simp [World.cell?, Array.getElem?_eq_none h'] at h

/-! ### Strings as numbers -/
def toU (l : List Int) : List UInt8 := l.map fun x => UInt8.ofNat x.toNat
/-- The string of a list of bytes. -/
def toS (l : List Int) : ByteArray := ⟨(toU l).toArray⟩
theorem toU_nat {x : Int} (h : 0 ≤ x ∧ x ≤ 255) : ((UInt8.ofNat x.toNat).toNat : Int) = x := by
  rw [UInt8.toNat_ofNat']; omega
theorem strL_toS {l : List Int} (h : Bytes l) : strL (toS l) = l := by
  simp only [strL, toS, toU, List.map_map]
  conv => rhs; rw [← List.map_id l]
  refine List.map_congr_left fun x hx => ?_
  exact toU_nat (h.mem hx)
theorem toS_strL (s : ByteArray) : toS (strL s) = s := strL_inj (strL_toS (strL_bd s))
theorem size_toS (l : List Int) : (toS l).size = l.length := by
  show (toU l).toArray.size = _
  simp [toU]
theorem strL_append (a b : ByteArray) : strL (a ++ b) = strL a ++ strL b := by
  simp only [strL, ByteArray.data_append, Array.toList_append, List.map_append]
theorem toS_append {l m : List Int} (hl : Bytes l) (hm : Bytes m) : toS l ++ toS m = toS (l ++ m) := strL_inj (by rw [strL_append, strL_toS hl, strL_toS hm, strL_toS (hl.append hm)])
/-- A part of a string, as numbers. -/
theorem strL_extract (s : ByteArray) (a b : Nat) : strL (s.extract a b) = ((strL s).take b).drop a := by
  simp only [strL, ByteArray.data_extract, Array.toList_extract, List.extract_eq_take_drop, List.map_take, List.map_drop, List.drop_take]
theorem strL_get (s : ByteArray) (k : Nat) (h : k < s.size) : (strL s).getD k 0 = (s[k].toNat : Int) := by
  have h2 : k < s.data.toList.length := by simpa using h
  rw [List.getD_eq_getElem?_getD, strL, List.getElem?_map, List.getElem?_eq_getElem h2]
  simp
  rfl
theorem eq_toS {s : ByteArray} {l : List Int} (hl : Bytes l) : s = toS l ↔ strL s = l :=
  ⟨fun h => by rw [h, strL_toS hl], fun h => by rw [← h, toS_strL]⟩

/-! ### Rows of bytes -/
theorem own_ge {w : World} {base : Nat} {e : TypeId} {size : Nat} {v : Value} {n : Nat} {xs : List Value} (h : w.ownsRow base e size v n xs) : ∀ g, v.ownBlock = some g → base ≤ g := fun g hg => by
  rcases h.2 with ⟨rfl, _⟩ | ⟨g', cap, cur, rfl, hb, _⟩
  · simp [Value.ownBlock] at hg
  · have : g' = g := by simpa [Value.ownBlock] using hg
    omega
theorem own_lies {w : World} {B e : Nat} {v : Value} {n : Nat} {xs : List Int} (h : w.ownsRow B e 1 v n (ints .u8 xs)) (hn : xs.length = n) : ∃ A c, v = .slice A n c ∧ n ≤ c ∧ Lies w A xs := by
  have h0 := h
  rcases h.2 with ⟨rfl, rfl⟩ | ⟨g, cap, cur, rfl, hb, hcell, hle, hm, _⟩
  · exact ⟨none, 0, rfl, Nat.le_refl _, fun hp => by omega⟩
  · refine ⟨_, cap, rfl, hle, fun _ => ⟨g, 0, rfl, ?_, ?_, fun j v hv => ?_⟩⟩
    · have := (h0.lt g rfl).2; omega
    · exact (h0.lt g rfl).2
    · have hj := (List.getElem?_eq_some_iff.1 hv).1
      rw [length_ints, hn] at hj
      rw [Nat.zero_add, h0.cellAt j (by omega)]
      exact hv
/-- 'string(b)' of a slice of bytes. -/
theorem conv_str (A : Option Addr) (xs : List Int) (n c : Nat) (w : World) (hn : xs.length = n) (hl : Lies w A xs) :
    (convert 37 9 (.slice A n c)).run Tryd.prog w = .ok (.string (toS xs)) w := by
  rw [run_convert_bytes_string w _ _ 5 _ _ _ Tryd.underlying37 Tryd.underlying5 Tryd.underlying9]
  cases A with
  | none =>
    have : xs = [] := by
      rcases xs with _ | ⟨x, r⟩
      · rfl
      · obtain ⟨b, o, h, _⟩ := hl (by simp)
        cases h
    subst this
    rfl
  | some ad =>
    have hcells : ∀ j u, (ints .u8 xs)[j]? = some u → w.cell? (ad.add j) = some u := fun j u hu => by
      have hj := (List.getElem?_eq_some_iff.1 hu).1
      rw [length_ints] at hj
      obtain ⟨b, o, h, _, _, hc⟩ := hl (by omega)
      injection h with h
      subst h
      rw [Addr.add_mid]
      exact hc j u hu
    have hld : (loadCells ad n).run Tryd.prog w = .ok (ints .u8 xs).toArray w := by
      have := run_loadCells_list (P := Tryd.prog) w ad (ints .u8 xs) hcells
      rw [length_ints, hn] at this; exact this
    rw [run_bytesToString w _ _ _ xs hld, foldl_push_bytes, show ByteArray.empty.data = #[] from rfl, Array.empty_append]
    rfl
section
variable {P : Program} {w : World} {ops : Array Oper} {rest : List Oper} {o : Oper} {a : Act} {Q : Exit → Act → World → Prop}
/-- '[]byte(s)' of a string whose length bears a name. -/
theorem wpList_convert_strN (hgd : o.guard = none) (d : Option Tmp) (hdst : o.dst = d) (src dst e : TypeId) (x : Operand) (ho : o.op = .convert src dst x) (s : ByteArray) (n : Nat) (hn : s.size = n) (hx : a.eval x = .string s)
    {u : TypeDesc} (hs : P.underlying src = some u) (hd : P.underlying dst = some (.slice e)) (he : P.underlying e = some (.int .u8))
    (h : ∀ A c w', Lies w' A (strL s) → n ≤ c → Below w.heap.size w w' → wpList P ops Q rest (a.put d (.slice A n c)) w') : wpList P ops Q (o :: rest) a w := by
  subst hn
  exact wpList_convert_str hgd d hdst src dst e x ho s hx hs hd he h
end
theorem Lies.take {w : World} {A : Option Addr} {xs : List Int} (h : Lies w A xs) (n : Nat) : Lies w A (xs.take n) := fun hp => by
  simp only [List.length_take] at hp
  obtain ⟨b, o, e, h1, h2, hc⟩ := h (by omega)
  refine ⟨b, o, e, h1, h2, fun j v hv => hc j v ?_⟩
  have hj := (List.getElem?_eq_some_iff.1 hv).1
  simp only [length_ints, List.length_take] at hj
  simp only [ints, List.map_take, List.getElem?_take] at hv
  rw [if_pos (by omega)] at hv
  exact hv

/-! ### Bits of int -/
theorem and_mask_i64 (x : Int) (k : Nat) (hk : k ≤ 62) (h0 : 0 ≤ x) (h1 : x < 9223372036854775808) : bits .and .i64 x (2 ^ k - 1) = x % 2 ^ k := by
  obtain ⟨a, rfl⟩ := Int.eq_ofNat_of_zero_le h0
  have hk2 : 2 ^ k ≤ 2 ^ 62 := Nat.pow_le_pow_right (by decide) hk
  have hp : 0 < 2 ^ k := Nat.two_pow_pos k
  have e0 : ((2 : Int) ^ k - 1) = ((2 ^ k - 1 : Nat) : Int) := by rw [Int.ofNat_sub hp]; simp
  have h : (BitVec.ofInt 64 (a : Int) &&& BitVec.ofInt 64 ((2 ^ k - 1 : Nat) : Int)).toNat = a % 2 ^ k := by
    rw [BitVec.toNat_and, BitVec.toNat_ofInt, BitVec.toNat_ofInt]
    have e1 : ((a : Int) % (2 ^ 64 : Nat)).toNat = a := by omega
    have e2 : (((2 ^ k - 1 : Nat) : Int) % (2 ^ 64 : Nat)).toNat = 2 ^ k - 1 := by omega
    rw [e1, e2, Nat.and_two_pow_sub_one_eq_mod]
  rw [e0]
  show IntKind.i64.wrap ((BitVec.ofInt 64 (a : Int) &&& BitVec.ofInt 64 ((2 ^ k - 1 : Nat) : Int)).toNat : Int) = _
  rw [h, IntKind.wrap_i64]
  have : a % 2 ^ k < 2 ^ k := Nat.mod_lt _ hp
  have e3 : ((a : Int) % 2 ^ k) = ((a % 2 ^ k : Nat) : Int) := by simp
  rw [e3]
  omega
theorem or_i64 (x y : Nat) (hx : x < 9223372036854775808) (hy : y < 9223372036854775808) : bits .or .i64 (x : Int) (y : Int) = ((x ||| y : Nat) : Int) := by
  have h : (BitVec.ofInt 64 (x : Int) ||| BitVec.ofInt 64 (y : Int)).toNat = x ||| y := by
    rw [BitVec.toNat_or, BitVec.toNat_ofInt, BitVec.toNat_ofInt]
    congr 1 <;> omega
  have hl : x ||| y < 2 ^ 63 := Nat.or_lt_two_pow (by omega) (by omega)
  show IntKind.i64.wrap ((BitVec.ofInt 64 (x : Int) ||| BitVec.ofInt 64 (y : Int)).toNat : Int) = _
  rw [h, IntKind.wrap_i64]
  omega
/-- Bits above, and low bits: the sum. -/
theorem or_above (hi lo : Int) (k : Nat) (h0 : 0 ≤ lo) (h1 : lo < 2 ^ k) (h2 : 0 ≤ hi) (h3 : hi * 2 ^ k + lo < 9223372036854775808) : bits .or .i64 (hi * 2 ^ k) lo = hi * 2 ^ k + lo := by
  obtain ⟨a, rfl⟩ := Int.eq_ofNat_of_zero_le h0
  obtain ⟨b, rfl⟩ := Int.eq_ofNat_of_zero_le h2
  have hk : a < 2 ^ k := by
    have e : ((2 : Int) ^ k) = ((2 ^ k : Nat) : Int) := by simp
    rw [e] at h1
    exact Int.ofNat_lt.1 h1
  have e : ((b : Int) * 2 ^ k) = ((b * 2 ^ k : Nat) : Int) := by simp
  have h3' : b * 2 ^ k + a < 9223372036854775808 := by
    rw [e, ← Int.natCast_add] at h3
    exact Int.ofNat_lt.1 h3
  rw [e, or_i64 (b * 2 ^ k) a (by omega) (by omega), ← Nat.shiftLeft_eq, ← Nat.shiftLeft_add_eq_or_of_lt hk b, Nat.shiftLeft_eq]
  simp
end Go.Proofs.YtdgpphihjeffcaaDoor
