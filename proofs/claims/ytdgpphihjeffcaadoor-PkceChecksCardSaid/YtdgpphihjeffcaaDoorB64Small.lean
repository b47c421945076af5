/- The walks of package b64's small functions: worth, joinBytes, spell, signsFor, at, loose. -/
import Derived.Test.YtdgpphihjeffcaaDoorProg
import Derived.Test.YtdgpphihjeffcaaDoorB64Math
import Derived.Test.YtdgpphihjeffcaaDoorKit4
import Derived.WalkLawsBesides
import Derived.WalkSpells
import Derived.Handy
import Derived.RegionTactic
import Derived.BigQuiet
import Derived.Deep.QuietTactic
namespace Go.Proofs.YtdgpphihjeffcaaDoor
open Go Go.RowKit

/-! ### Bits -/
theorem ofInt_nat (n : Nat) (x : Int) : (BitVec.ofInt n x).toNat = (x % (2 ^ n : Nat)).toNat := by rw [BitVec.toNat_ofInt]
theorem or_u32 (x y : Nat) (hx : x < 4294967296) (hy : y < 4294967296) : bits .or .u32 (x : Int) (y : Int) = ((x ||| y : Nat) : Int) := by
  have h : (BitVec.ofInt 32 (x : Int) ||| BitVec.ofInt 32 (y : Int)).toNat = x ||| y := by
    rw [BitVec.toNat_or, ofInt_nat, ofInt_nat]
    congr 1 <;> omega
  have hl := (BitVec.ofInt 32 (x : Int) ||| BitVec.ofInt 32 (y : Int)).isLt
  show IntKind.u32.wrap ((BitVec.ofInt 32 (x : Int) ||| BitVec.ofInt 32 (y : Int)).toNat : Int) = _
  rw [IntKind.wrap_u32, h]
  rw [h] at hl
  omega
/-- Low bits and bits above them: the sum. -/
theorem or_part (lo hi : Int) (k : Nat) (h0 : 0 ≤ lo) (h1 : lo < 2 ^ k) (h2 : 0 ≤ hi) (h3 : hi * 2 ^ k + lo < 4294967296) : bits .or .u32 lo (hi * 2 ^ k) = hi * 2 ^ k + lo := by
  obtain ⟨a, rfl⟩ := Int.eq_ofNat_of_zero_le h0
  obtain ⟨b, rfl⟩ := Int.eq_ofNat_of_zero_le h2
  have hk : a < 2 ^ k := by
    have e : ((2 : Int) ^ k) = ((2 ^ k : Nat) : Int) := by simp
    rw [e] at h1
    exact Int.ofNat_lt.1 h1
  have e : ((b : Int) * 2 ^ k) = ((b * 2 ^ k : Nat) : Int) := by simp
  have h3' : b * 2 ^ k + a < 4294967296 := by
    rw [e, ← Int.natCast_add] at h3
    exact Int.ofNat_lt.1 h3
  rw [e, or_u32 a (b * 2 ^ k) (by omega) (by omega), Nat.or_comm, ← Nat.shiftLeft_eq, ← Nat.shiftLeft_add_eq_or_of_lt hk b, Nat.shiftLeft_eq]
  simp
theorem or_part' (lo hi : Int) (k : Nat) (h0 : 0 ≤ lo) (h1 : lo < 2 ^ k) (h2 : 0 ≤ hi) (h3 : hi * 2 ^ k + lo < 4294967296) : bits .or .u32 (hi * 2 ^ k) lo = hi * 2 ^ k + lo := by
  rw [← or_part lo hi k h0 h1 h2 h3]
  unfold bits
  simp only [BitVec.or_comm]
theorem or_8 (lo hi : Int) (h : 0 ≤ lo ∧ lo < 256) (h2 : 0 ≤ hi ∧ hi < 16777216) : bits .or .u32 lo (hi * 256) = hi * 256 + lo := or_part lo hi 8 h.1 h.2 h2.1 (by omega)
theorem or_16 (lo hi : Int) (h : 0 ≤ lo ∧ lo < 65536) (h2 : 0 ≤ hi ∧ hi < 65536) : bits .or .u32 lo (hi * 65536) = hi * 65536 + lo := or_part lo hi 16 h.1 h.2 h2.1 (by omega)
theorem or_6' (lo hi : Int) (h : 0 ≤ lo ∧ lo < 64) (h2 : 0 ≤ hi ∧ hi < 67108864) : bits .or .u32 (hi * 64) lo = hi * 64 + lo := or_part' lo hi 6 h.1 h.2 h2.1 (by omega)
theorem and_63 (x : Int) (h0 : 0 ≤ x) (h1 : x < 4294967296) : bits .and .u32 x 63 = x % 64 := by
  obtain ⟨a, rfl⟩ := Int.eq_ofNat_of_zero_le h0
  have h : (BitVec.ofInt 32 (a : Int) &&& BitVec.ofInt 32 63).toNat = a % 64 := by
    rw [BitVec.toNat_and, ofInt_nat, ofInt_nat]
    have e1 : ((a : Int) % (2 ^ 32 : Nat)).toNat = a := by omega
    have e2 : ((63 : Int) % (2 ^ 32 : Nat)).toNat = 2 ^ 6 - 1 := by decide
    rw [e1, e2, Nat.and_two_pow_sub_one_eq_mod]
  show IntKind.u32.wrap ((BitVec.ofInt 32 (a : Int) &&& BitVec.ofInt 32 63).toNat : Int) = _
  rw [IntKind.wrap_u32, h]
  omega
/-! ### worth -/
set_option maxHeartbeats 400000 in
theorem worth_any (c : Int) (w : World) (h0 : 0 ≤ c) (h1 : c ≤ 255) :
    Calls Tryd.prog 60 #[.int .u8 c] w fun e w' => e = .returned (.int .i64 (wo c)) ∧ w = w' := by
  by_cases a1 : 65 ≤ c
  · by_cases a2 : c ≤ 90
    · go_enter Tryd.func60, Tryd.ntmps60
      go_wp2
      go_ret
      exact ⟨ret_int (by unfold wo; rw [if_pos ⟨a1, a2⟩]), rfl⟩
    · by_cases b1 : 97 ≤ c
      · by_cases b2 : c ≤ 122
        · go_enter Tryd.func60, Tryd.ntmps60
          go_wp2
          go_ret
          exact ⟨ret_int (by unfold wo; rw [if_neg (by omega), if_pos ⟨b1, b2⟩]; omega), rfl⟩
        · have q1 : (c == 45) = false := by simp; omega
          have q2 : (c == 95) = false := by simp; omega
          have q3 : ¬ c ≤ 57 := by omega
          go_enter Tryd.func60, Tryd.ntmps60
          go_wp2
          go_ret
          exact ⟨ret_int (by unfold wo; rw [if_neg (by omega), if_neg (by omega), if_neg (by omega), if_neg (by omega), if_neg (by omega)]), rfl⟩
      · have q1 : (c == 45) = false := by simp; omega
        have q3 : ¬ c ≤ 57 := by omega
        by_cases c1 : c = 95
        · subst c1
          go_enter Tryd.func60, Tryd.ntmps60
          go_wp2
          go_ret
          exact ⟨rfl, rfl⟩
        · have q2 : (c == 95) = false := by simp; omega
          have C1 := Lib.hid c1
          clear c1
          go_enter Tryd.func60, Tryd.ntmps60
          go_wp2
          go_ret
          exact ⟨ret_int (by unfold wo; rw [if_neg (by omega), if_neg (by omega), if_neg (by omega), if_neg (by omega), if_neg C1.out]), rfl⟩
  · have q2 : (c == 95) = false := by simp; omega
    have q4 : ¬ 97 ≤ c := by omega
    by_cases d1 : 48 ≤ c
    · by_cases d2 : c ≤ 57
      · go_enter Tryd.func60, Tryd.ntmps60
        go_wp2
        go_ret
        exact ⟨ret_int (by unfold wo; rw [if_neg (by omega), if_neg (by omega), if_pos ⟨d1, d2⟩]; omega), rfl⟩
      · have q1 : (c == 45) = false := by simp; omega
        go_enter Tryd.func60, Tryd.ntmps60
        go_wp2
        go_ret
        exact ⟨ret_int (by unfold wo; rw [if_neg (by omega), if_neg (by omega), if_neg (by omega), if_neg (by omega), if_neg (by omega)]), rfl⟩
    · by_cases c1 : c = 45
      · subst c1
        go_enter Tryd.func60, Tryd.ntmps60
        go_wp2
        go_ret
        exact ⟨rfl, rfl⟩
      · have q1 : (c == 45) = false := by simp; omega
        have C1 := Lib.hid c1
        clear c1
        go_enter Tryd.func60, Tryd.ntmps60
        go_wp2
        go_ret
        exact ⟨ret_int (by unfold wo; rw [if_neg (by omega), if_neg (by omega), if_neg (by omega), if_neg C1.out, if_neg (by omega)]), rfl⟩

/-! ### joinBytes -/
def joinB : List Int → Int
  | [] => 0
  | [a] => a * 65536
  | [a, b] => a * 65536 + b * 256
  | a :: b :: c :: _ => a * 65536 + b * 256 + c
theorem Lies.at {w : World} {A : Option Addr} {xs : List Int} (h : Lies w A xs) (hp : 0 < xs.length) : ∃ b o, A = some ⟨b, o, none⟩ ∧ w.cell? ⟨b, o, none⟩ = some (.int .u8 (xs.getD 0 0)) ∧ ∀ j, j < xs.length → w.cell? ⟨b, o + j, none⟩ = some (.int .u8 (xs.getD j 0)) := by
  obtain ⟨b, o, e, _, _, hc⟩ := h hp
  have g : ∀ j, j < xs.length → w.cell? ⟨b, o + j, none⟩ = some (.int .u8 (xs.getD j 0)) := fun j hj => hc j _ (get_ints .u8 xs j hj)
  exact ⟨b, o, e, g 0 hp, g⟩
theorem joinB_bd {xs : List Int} (hx : Bytes xs) : 0 ≤ joinB xs ∧ joinB xs < 16777216 := by
  match xs with
  | [] => decide
  | [a] => have := hx.mem (x := a) (by simp); simp only [joinB]; omega
  | [a, b] => have := hx.mem (x := a) (by simp); have := hx.mem (x := b) (by simp); simp only [joinB]; omega
  | a :: b :: c :: _ => have := hx.mem (x := a) (by simp); have := hx.mem (x := b) (by simp); have := hx.mem (x := c) (by simp); simp only [joinB]; omega
set_option maxHeartbeats 400000 in
theorem joinBytes_any (A : Option Addr) (xs : List Int) (n c : Nat) (w : World) (hn : xs.length = n) (hn3 : n ≤ 3) (hx : Bytes xs) (hl : Lies w A xs) :
    Calls Tryd.prog 30 #[.slice A n c] w fun e w' => e = .returned (.int .u32 (joinB xs)) ∧ w = w' := by
  match xs, hn with
  | [], hn =>
    subst hn
    go_enter Tryd.func30, Tryd.ntmps30
    go_wp2
    go_ret
    exact ⟨rfl, rfl⟩
  | [x], hn =>
    subst hn
    obtain ⟨b, o, rfl, h0, hc⟩ := hl.at (by simp)
    replace h0 : w.cell? ⟨b, o, none⟩ = some (.int .u8 x) := h0
    obtain ⟨x0, x1⟩ := hx.mem (x := x) (by simp)
    clear hc hl hx
    go_enter Tryd.func30, Tryd.ntmps30
    go_wp2
    go_ret
    exact ⟨ret_int (by rw [or_16 0 x (by omega) (by omega)]; simp [joinB]), rfl⟩
  | [x, y], hn =>
    subst hn
    obtain ⟨b, o, rfl, h0, hc⟩ := hl.at (by simp)
    replace h0 : w.cell? ⟨b, o, none⟩ = some (.int .u8 x) := h0
    have h1 : w.cell? ⟨b, o + 1, none⟩ = some (.int .u8 y) := hc 1 (by simp)
    obtain ⟨x0, x1⟩ := hx.mem (x := x) (by simp)
    obtain ⟨y0, y1⟩ := hx.mem (x := y) (by simp)
    clear hc hl hx
    go_enter Tryd.func30, Tryd.ntmps30
    go_wp2
    go_ret
    exact ⟨ret_int (by rw [or_8 0 y (by omega) (by omega), or_16 _ x (by omega) (by omega)]; simp [joinB]), rfl⟩
  | [x, y, z], hn =>
    subst hn
    obtain ⟨b, o, rfl, h0, hc⟩ := hl.at (by simp)
    replace h0 : w.cell? ⟨b, o, none⟩ = some (.int .u8 x) := h0
    have h1 : w.cell? ⟨b, o + 1, none⟩ = some (.int .u8 y) := hc 1 (by simp)
    have h2 : w.cell? ⟨b, o + 2, none⟩ = some (.int .u8 z) := hc 2 (by simp)
    obtain ⟨x0, x1⟩ := hx.mem (x := x) (by simp)
    obtain ⟨y0, y1⟩ := hx.mem (x := y) (by simp)
    obtain ⟨z0, z1⟩ := hx.mem (x := z) (by simp)
    clear hc hl hx
    go_enter Tryd.func30, Tryd.ntmps30
    go_wp2
    go_ret
    exact ⟨ret_int (by rw [or_8 z y (by omega) (by omega), or_16 _ x (by omega) (by omega)]; simp [joinB]; omega), rfl⟩
  | _ :: _ :: _ :: _ :: _, hn => simp at hn; omega

/-! ### signsFor, loose, at -/
theorem signsFor_any (n : Nat) (w : World) (hn : n ≤ 3) :
    Calls Tryd.prog 32 #[.int .i64 (n : Int)] w fun e w' => e = .returned (.int .i64 (((8 * n + 5) / 6 : Nat) : Int)) ∧ w = w' := by
  go_enter Tryd.func32, Tryd.ntmps32
  go_wp2
  go_ret
  exact ⟨ret_int (by omega), rfl⟩
theorem loose_two (w : World) : Calls Tryd.prog 62 #[.int .i64 2] w fun e w' => e = .returned (.int .i64 15) ∧ w = w' := by
  go_enter Tryd.func62, Tryd.ntmps62
  go_wp2
  go_ret
  exact ⟨rfl, rfl⟩
theorem loose_three (w : World) : Calls Tryd.prog 62 #[.int .i64 3] w fun e w' => e = .returned (.int .i64 3) ∧ w = w' := by
  go_enter Tryd.func62, Tryd.ntmps62
  go_wp2
  go_ret
  exact ⟨rfl, rfl⟩
/-- The block of an At of ErrB64 at pos. -/
def AtCells (pos : Int) (n : Int) : Array Value := #[.int .i64 pos, .iface 33 (.int .i64 n)]
theorem at_any (pos : Int) (w : World) :
    Calls Tryd.prog 61 #[.int .i64 pos] w fun e w' => e = .returned (.iface 118 (.pointer (some ⟨w.heap.size, 0, none⟩))) ∧ w' = w.alloc (.cells (AtCells pos 20) 120) := by
  go_enter Tryd.func61, Tryd.ntmps61
  go_wp2
  go_ret
  exact ⟨rfl, rfl⟩

/-! ### spell -/
def signsA : Array UInt8 := #[65, 66, 67, 68, 69, 70, 71, 72, 73, 74, 75, 76, 77, 78, 79, 80, 81, 82, 83, 84, 85, 86, 87, 88, 89, 90, 97, 98, 99, 100, 101, 102, 103, 104, 105, 106, 107, 108, 109, 110, 111, 112, 113, 114, 115, 116, 117, 118, 119, 120, 121, 122, 48, 49, 50, 51, 52, 53, 54, 55, 56, 57, 45, 95]
theorem sign_at : ∀ n : Fin 64, signsA[n.val]?.map (fun b => (b.toNat : Int)) = some (sg (n.val : Int)) := by decide +kernel
theorem size_signs : signsA.size = 64 := rfl
theorem index_signA (k : IntKind) (n : Int) (h0 : 0 ≤ n) (h1 : n < 64) (w : World) : (Instr.index 9 (.string ⟨signsA⟩) (.int k n)).run Tryd.prog w = .ok (.int .u8 (sg n)) w := by
  obtain ⟨m, rfl⟩ := Int.eq_ofNat_of_zero_le h0
  have hm : m < 64 := by omega
  obtain ⟨b, hb, hb2⟩ := Option.map_eq_some_iff.1 (sign_at ⟨m, hm⟩)
  simp only at hb hb2
  have hs : m < signsA.size := by rw [size_signs]; exact hm
  have hq : (if (0 : Int) ≤ (m : Int) then (⟨signsA⟩ : ByteArray)[(m : Int).toNat]? else none) = some b := by
    rw [if_pos (by omega), Int.toNat_natCast, getElem?_pos (⟨signsA⟩ : ByteArray) m hs, ← hb, Array.getElem?_eq_getElem hs]
    rfl
  simp only [Instr.index, asIntOf, Sem.run_bind, Sem.run_pure, Result.andThen_ok, run_underlying Tryd.underlying9]
  rw [hq]
  simp only [Sem.run_pure, hb2]
theorem index_sign (k : IntKind) (n : Int) (h0 : 0 ≤ n) (h1 : n < 64) (w : World) : (Instr.index 9 (.string { data := #[65, 66, 67, 68, 69, 70, 71, 72, 73, 74, 75, 76, 77, 78, 79, 80, 81, 82, 83, 84, 85, 86, 87, 88, 89, 90, 97, 98, 99, 100, 101, 102, 103, 104, 105, 106, 107, 108, 109, 110, 111, 112, 113, 114, 115, 116, 117, 118, 119, 120, 121, 122, 48, 49, 50, 51, 52, 53, 54, 55, 56, 57, 45, 95] }) (.int k n)).run Tryd.prog w = .ok (.int .u8 (sg n)) w := index_signA k n h0 h1 w
def spellL (x : Int) : List Int := [sg (x / 262144 % 64), sg (x / 4096 % 64), sg (x / 64 % 64), sg (x % 64)]
set_option maxHeartbeats 400000 in
theorem b64Spell_any (x : Int) (w : World) (h0 : 0 ≤ x) (h1 : x < 16777216) :
    Calls Tryd.prog 29 #[.int .u32 x] w fun e w' => e = .returned (.agg (ints .u8 (spellL x)).toArray) ∧ Below w.heap.size w w' := by
  have e1 := and_63 (x / 262144) (by omega) (by omega)
  have e2 := and_63 (x / 4096) (by omega) (by omega)
  have e3 := and_63 (x / 64) (by omega) (by omega)
  have e4 := and_63 x (by omega) (by omega)
  have i1 := index_sign .u32 (x / 262144 % 64) (by omega) (by omega)
  have i2 := index_sign .u32 (x / 4096 % 64) (by omega) (by omega)
  have i3 := index_sign .u32 (x / 64 % 64) (by omega) (by omega)
  have i4 := index_sign .u32 (x % 64) (by omega) (by omega)
  have hsp : Hid (spellL x = [sg (x / 262144 % 64), sg (x / 4096 % 64), sg (x / 64 % 64), sg (x % 64)]) := Lib.hid rfl
  generalize x / 262144 % 64 = n1 at *
  generalize x / 4096 % 64 = n2 at *
  generalize x / 64 % 64 = n3 at *
  generalize x % 64 = n4 at *
  go_enter Tryd.func29, Tryd.ntmps29
  go_wp2
  go_region
  go_wp2
  refine bodyPost_ret (v := .agg #[.int .u8 (sg n1), .int .u8 (sg n2), .int .u8 (sg n3), .int .u8 (sg n4)]) (by simp [results, Tryd.results29, go_sem]) rfl ⟨?_, ?_⟩
  · rw [hsp.out]; rfl
  · exact ((Below.refl _ _).alloc (Nat.le_refl _) _).drew
end Go.Proofs.YtdgpphihjeffcaaDoor
