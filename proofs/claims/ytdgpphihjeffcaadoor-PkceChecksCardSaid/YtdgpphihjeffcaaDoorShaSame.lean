/- The walk of package sha's Same. -/
import Derived.Test.YtdgpphihjeffcaaDoorShaJoin
namespace Go.Proofs.YtdgpphihjeffcaaDoor
open Go Go.RowKit

/-- What differs in the first k bytes. -/
def orX (xs ys : List Int) : Nat → Int
  | 0 => 0
  | k + 1 => bits .or .u8 (orX xs ys k) (bits .xor .u8 (xs.getD k 0) (ys.getD k 0))
theorem bits_u8' (op : BinOp) (x y : Int) : 0 ≤ bits op .u8 x y ∧ bits op .u8 x y ≤ 255 := by
  unfold bits; simp only [IntKind.wrap_u8]; omega
theorem orX_bd (xs ys : List Int) : ∀ k, 0 ≤ orX xs ys k ∧ orX xs ys k ≤ 255
  | 0 => ⟨Int.le_refl 0, by show (0 : Int) ≤ 255; decide⟩
  | k + 1 => bits_u8' _ _ _
theorem of8 (x : Int) (h0 : 0 ≤ x) (h1 : x ≤ 255) : ((BitVec.ofInt 8 x).toNat : Int) = x := by
  rw [BitVec.toNat_ofInt]
  have : (x % ((2 ^ 8 : Nat) : Int)) = x := by show x % 256 = x; omega
  rw [this]; omega
theorem or8_zero (x y : Int) (hx : 0 ≤ x ∧ x ≤ 255) (hy : 0 ≤ y ∧ y ≤ 255) : bits .or .u8 x y = 0 ↔ x = 0 ∧ y = 0 := by
  have hl := (BitVec.ofInt 8 x ||| BitVec.ofInt 8 y).isLt
  have e : bits .or .u8 x y = ((BitVec.ofInt 8 x ||| BitVec.ofInt 8 y).toNat : Int) := by
    show IntKind.u8.wrap ((BitVec.ofInt 8 x ||| BitVec.ofInt 8 y).toNat : Int) = _
    rw [IntKind.wrap_u8]; omega
  have ex := of8 x hx.1 hx.2
  have ey := of8 y hy.1 hy.2
  rw [e]
  constructor
  · intro h
    have h2 : BitVec.ofInt 8 x ||| BitVec.ofInt 8 y = 0#8 := BitVec.eq_of_toNat_eq (by simpa using h)
    rw [BitVec.or_eq_zero_iff] at h2
    rw [h2.1] at ex; rw [h2.2] at ey
    exact ⟨by simpa using ex.symm, by simpa using ey.symm⟩
  · rintro ⟨rfl, rfl⟩; rfl
theorem xor8_zero (x y : Int) (hx : 0 ≤ x ∧ x ≤ 255) (hy : 0 ≤ y ∧ y ≤ 255) : bits .xor .u8 x y = 0 ↔ x = y := by
  have hl := (BitVec.ofInt 8 x ^^^ BitVec.ofInt 8 y).isLt
  have e : bits .xor .u8 x y = ((BitVec.ofInt 8 x ^^^ BitVec.ofInt 8 y).toNat : Int) := by
    show IntKind.u8.wrap ((BitVec.ofInt 8 x ^^^ BitVec.ofInt 8 y).toNat : Int) = _
    rw [IntKind.wrap_u8]; omega
  have ex := of8 x hx.1 hx.2
  have ey := of8 y hy.1 hy.2
  rw [e]
  constructor
  · intro h
    have h2 : BitVec.ofInt 8 x ^^^ BitVec.ofInt 8 y = 0#8 := BitVec.eq_of_toNat_eq (by simpa using h)
    rw [BitVec.xor_eq_zero_iff] at h2
    rw [h2] at ex
    exact ex.symm.trans ey
  · rintro rfl; simp
theorem orX_zero {xs ys : List Int} (hx : Bytes xs) (hy : Bytes ys) : ∀ k, orX xs ys k = 0 ↔ ∀ i, i < k → xs.getD i 0 = ys.getD i 0
  | 0 => by simp [orX]
  | k + 1 => by
    rw [orX, or8_zero _ _ (orX_bd _ _ _) (bits_u8' _ _ _), xor8_zero _ _ (hx k) (hy k), orX_zero hx hy k]
    constructor
    · rintro ⟨h1, h2⟩ i hi
      rcases Nat.lt_or_ge i k with h | h
      · exact h1 i h
      · obtain rfl : i = k := by omega
        exact h2
    · intro h; exact ⟨fun i hi => h i (by omega), h k (by omega)⟩
theorem shaSame_of {xs ys : List Int} (hx : Bytes xs) (hy : Bytes ys) (hl : xs.length = ys.length) : (orX xs ys xs.length == 0) = decide (xs = ys) := by
  rw [Bool.eq_iff_iff, beq_iff_eq, decide_eq_true_eq, orX_zero hx hy]
  constructor
  · intro h
    apply List.ext_getElem hl
    intro i h1 h2
    have := h i h1
    simpa [h1, h2] using this
  · rintro rfl i _; rfl

/-- 'it says whether they are the same; the world stands but for draws'. -/
def SaysSame (xs ys : List Int) (w : World) (e : Ending) (w' : World) : Prop := e = .returned (.bool (decide (xs = ys))) ∧ ∃ k, w' = w.drewN k

set_option maxRecDepth 100000 in
set_option maxHeartbeats 400000 in
theorem shaSame_any (A B : Option Addr) (c d : Nat) (xs ys : List Int) (w : World) (hn : xs.length ≤ 9223372036854775807) (hm : ys.length ≤ 9223372036854775807) (hx : Bytes xs) (hy : Bytes ys) (hl : Lies w A xs) (hl2 : Lies w B ys) :
    Calls Tryd.prog 23 #[.slice A xs.length c, .slice B ys.length d] w (SaysSame xs ys w) := by
  by_cases hlen : xs.length = ys.length
  · have HS := Lib.hid (fun _ : Unit => shaSame_of hx hy hlen)
    obtain ⟨n, hn'⟩ : ∃ n, n = xs.length := ⟨_, rfl⟩
    rw [← hlen, ← hn']
    rw [← hn'] at hn HS
    have HN := Lib.hid (show n = ys.length by rw [hn', hlen])
    have HN' := Lib.hid hn'
    have HX := Lib.hid hx
    have HY := Lib.hid hy
    have HL := Lib.hid hl
    have HL2 := Lib.hid hl2
    clear hlen hm hx hy hl hl2 hn'
    go_enter Tryd.func23, Tryd.ntmps23
    go_wp2_with fail
    go_loopw [5, 14] (fun v i wr => ∃ k m : Nat, k ≤ n ∧ v = .int .u8 (orX xs ys k) ∧ i = .int .i64 k ∧ wr = w.drewN m) (fun _ i _ => n - (intOf i).toNat)
    case atStart => exact ⟨0, 0, by omega, rfl, rfl, rfl⟩
    case round =>
      obtain ⟨k, m, hk, rfl, rfl, rfl⟩ := hrel
      by_cases hlt : k < n
      · obtain ⟨b1, o1, rfl, _, _, hc1⟩ := HL.out (by rw [← HN'.out]; omega)
        obtain ⟨b2, o2, rfl, _, _, hc2⟩ := HL2.out (by rw [← HN.out]; omega)
        have g1 : (w.drewN m).cell? ⟨b1, o1 + k, none⟩ = _ := hc1 k _ (get_ints .u8 xs k (by rw [← HN'.out]; exact hlt))
        have g2 : (w.drewN m).cell? ⟨b2, o2 + k, none⟩ = _ := hc2 k _ (get_ints .u8 ys k (by rw [← HN.out]; exact hlt))
        obtain ⟨hx0, hx1⟩ := HX.out k
        obtain ⟨hy0, hy1⟩ := HY.out k
        obtain ⟨hz0, hz1⟩ := orX_bd xs ys k
        have HO : Hid (∀ _ : Unit, orX xs ys (k + 1) = bits .or .u8 (orX xs ys k) (bits .xor .u8 (xs.getD k 0) (ys.getD k 0))) := Lib.hid (fun _ => rfl)
        obtain ⟨x, ex⟩ : ∃ x, x = xs.getD k 0 := ⟨_, rfl⟩
        obtain ⟨y, ey⟩ : ∃ x, x = ys.getD k 0 := ⟨_, rfl⟩
        obtain ⟨z, ez⟩ : ∃ x, x = orX xs ys k := ⟨_, rfl⟩
        rw [← ex] at g1 hx0 hx1 HO
        rw [← ey] at g2 hy0 hy1 HO
        rw [← ez] at hz0 hz1 HO ⊢
        clear ex ey ez hc1 hc2
        obtain ⟨wr, hwr⟩ : ∃ x, x = w.drewN m := ⟨_, rfl⟩
        rw [← hwr] at g1 g2 ⊢
        have HWR := Lib.hid hwr
        clear hwr
        go_wp2_with fail
        go_quiet (fail)
        go_wp2_with fail
        go_roundw
        case rel => exact ⟨k + 1, m + nq, by omega, by rw [HO.out ()], by go_num, by rw [HWR.out, World.drewN_drewN]⟩
        case measure => simp [intOf]; omega
      · have HK := Lib.hid (show k = n by omega)
        go_wp2_with fail
        go_ret
        exact ⟨by rw [← HS.out (), ← HK.out]; rfl, m, rfl⟩
  · have hne : decide (xs = ys) = false := decide_eq_false (fun h => hlen (by rw [h]))
    obtain ⟨n, hn'⟩ : ∃ n, n = xs.length := ⟨_, rfl⟩
    obtain ⟨m, hm'⟩ : ∃ n, n = ys.length := ⟨_, rfl⟩
    rw [← hn', ← hm'] at hlen ⊢
    have hd : (((n : Nat) : Int) != (m : Int)) = true := by simp; omega
    have HNE := Lib.hid (fun _ : Unit => hne)
    clear hne hn hm hx hy hl hl2 hn' hm'
    go_enter Tryd.func23, Tryd.ntmps23
    go_wp2_with fail
    go_ret
    exact ⟨by rw [HNE.out ()]; rfl, 0, rfl⟩
end Go.Proofs.YtdgpphihjeffcaaDoor
