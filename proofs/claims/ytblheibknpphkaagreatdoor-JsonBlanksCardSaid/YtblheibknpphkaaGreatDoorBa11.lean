/- JsonBytes, JsonWord, JsonQuote, DecRef, DecPart, DecReckon, JsonHex, JsonPlain, JsonLead: merged. -/
import Derived.WalkLawsBesides
import Derived.WalkSpells
import Derived.Handy
import Derived.RegionTactic
import Derived.LoopTactic
import Derived.BigQuiet
import Derived.Deep.QuietTactic
import Derived.Deep.RegionHeld3
import Derived.StillTailTactics
import Derived.IntWalk
import Derived.Deep.AppendLies
import Derived.Test.YtblheibknpphkaaGreatDoorBa01
set_option linter.all false
namespace Go.Proofs.YtblheibknpphkaaGreatDoor
open Go Go.RowKit
/-- A byte, -1 at the end. -/
def atL (l : List Int) (i : Nat) : Int := l.getD i (-1)
theorem atL_get (s : ByteArray) (i : Nat) (h : i < s.size) : atL (strL s) i = (s[i].toNat : Int) := by
  rw [← strL_get s i h, atL]
  have h2 : i < (strL s).length := by rw [length_strL]; exact h
  rw [List.getD_eq_getElem?_getD, List.getD_eq_getElem?_getD, List.getElem?_eq_getElem h2]
  rfl
theorem atL_end (s : ByteArray) (i : Nat) (h : s.size ≤ i) : atL (strL s) i = -1 := by
  rw [atL, List.getD_eq_getElem?_getD, List.getElem?_eq_none (by rw [length_strL]; exact h)]
  rfl
def isB (c : Int) : Bool := decide (c = 32 ∨ c = 9 ∨ c = 10 ∨ c = 13)
/-- Behind blanks. -/
def skipL (l : List Int) (i : Nat) : Nat := if h : i < l.length then (if isB (atL l i) then skipL l (i + 1) else i) else i
termination_by l.length - i
decreasing_by omega
theorem skipL_blank {l : List Int} {i : Nat} (h : isB (atL l i) = true) : skipL l i = skipL l (i + 1) := by
  by_cases hl : i < l.length
  · rw [skipL, dif_pos hl, if_pos h]
  · exfalso
    rw [atL, List.getD_eq_getElem?_getD, List.getElem?_eq_none (by omega)] at h
    exact absurd h (by decide)
theorem skipL_stop {l : List Int} {i : Nat} (h : ¬ isB (atL l i) = true) : skipL l i = i := by
  by_cases hl : i < l.length
  · rw [skipL, dif_pos hl, if_neg h]
  · rw [skipL, dif_neg hl]
theorem skipL_le : ∀ (n : Nat) (l : List Int) (i : Nat), l.length - i ≤ n → i ≤ l.length → i ≤ skipL l i ∧ skipL l i ≤ l.length
  | 0, l, i, hn, hi => by rw [skipL, dif_neg (by omega)]; omega
  | n + 1, l, i, hn, hi => by
    rw [skipL]
    split
    · split
      · have := skipL_le n l (i + 1) (by omega) (by omega)
        omega
      · omega
    · omega
end Go.Proofs.YtblheibknpphkaaGreatDoor
namespace Go.Proofs.YtblheibknpphkaaGreatDoor
open Go Go.RowKit
/-- Does a word stand at a place? Where it ends, or fails. -/
def wordL (l : List Int) : Nat → List Int → Nat × Int
  | i, [] => (i, 0)
  | i, c :: r => if atL l i = c then wordL l (i + 1) r else (i, 50)
theorem wordL_drop {l x : List Int} {i k : Nat} (h : k < x.length) : wordL l i (x.drop k) = if atL l i = x.getD k 0 then wordL l (i + 1) (x.drop (k + 1)) else (i, 50) := by
  rw [List.drop_eq_getElem_cons h, wordL, List.getD_eq_getElem?_getD, List.getElem?_eq_getElem h]
  rfl
theorem atL_bd (s : ByteArray) (i : Nat) : -1 ≤ atL (strL s) i ∧ atL (strL s) i ≤ 255 := by
  rcases Nat.lt_or_ge i s.size with h | h
  · rw [atL_get s i h]; have := (s[i]).toNat_lt; omega
  · rw [atL_end s i h]; omega
end Go.Proofs.YtblheibknpphkaaGreatDoor
namespace Go.Proofs.YtblheibknpphkaaGreatDoor
open Go Go.RowKit
/-- A digit's sign, of base 16. -/
def hexS (d : Int) : Int := if d < 10 then 48 + d else 87 + d
/-- A byte within quotes. -/
def qOne (c : Int) : List Int := if c < 32 then [92, 117, 48, 48, hexS (c / 16), hexS (c % 16)] else if c = 34 ∨ c = 92 then [92, c] else [c]
/-- A text's beginning, within quotes. -/
def qPre (l : List Int) : Nat → List Int
  | 0 => [34]
  | k + 1 => qPre l k ++ qOne (l.getD k 0)
/-- A text within quotes. -/
def quoteL (l : List Int) : List Int := qPre l l.length ++ [34]
theorem qOne_len (c : Int) : (qOne c).length ≤ 6 := by
  unfold qOne; split
  · simp
  · split <;> simp
theorem qPre_len (l : List Int) : ∀ k, (qPre l k).length ≤ 6 * k + 1
  | 0 => by simp [qPre]
  | k + 1 => by
    have := qPre_len l k
    have := qOne_len (l.getD k 0)
    rw [qPre, List.length_append]; omega
theorem info5 : (Tryz.prog.info? 5).map (fun i => (i.zero, i.size, i.bytes)) = some (some (.int .u8 0), 1, 1) := by kernel_rfl
theorem hexS_nat : ∀ i : Fin 16, (((⟨#[48, 49, 50, 51, 52, 53, 54, 55, 56, 57, 97, 98, 99, 100, 101, 102]⟩ : ByteArray)[i.val]'(i.isLt)).toNat : Int) = hexS (i.val : Int) := by decide
theorem hexS_get (d : Int) (h0 : 0 ≤ d) (h1 : d < 16) : (((⟨#[48, 49, 50, 51, 52, 53, 54, 55, 56, 57, 97, 98, 99, 100, 101, 102]⟩ : ByteArray)[d.toNat]'(by show _ < 16; omega)).toNat : Int) = hexS d := by
  have := hexS_nat ⟨d.toNat, by omega⟩
  rw [show (((⟨d.toNat, by omega⟩ : Fin 16).val : Nat) : Int) = d from by show ((d.toNat : Nat) : Int) = d; omega] at this
  exact this
end Go.Proofs.YtblheibknpphkaaGreatDoor
namespace Go.Proofs.YtblheibknpphkaaGreatDoor
open Go Go.RowKit
/-! ### Print -/
set_option maxHeartbeats 1000000 in
theorem refPrint_pos (N : Nat) (w : World) (hN : (N : Int) ≤ 9223372036854775807) :
    Calls Tryz.prog 40 #[.int .i64 (N : Int)] w fun e w' => e = .returned (.string (toS (digL N))) ∧ Below w.heap.size w w' := by
  have hlen : (digL N).length ≤ 20 := digL_len 19 N (by omega)
  have HL := Lib.hid hlen
  have hm1 : ((N : Int) == -9223372036854775808) = false := by rw [beq_eq_false_iff_ne]; omega
  have hm2 : ¬ (N : Int) < 0 := by omega
  clear hlen
  go_enter Tryz.func40, Tryz.ntmps40
  go_wp2
  go_loopw [0, 3] (fun n v wr => ∃ (m : Nat) (suf : List Int), n = .int .i64 (m : Int) ∧ m ≤ N ∧ v = .string (toS suf) ∧ Bytes suf ∧ digL N = digL m ++ suf ∧ Below w.heap.size w wr) (fun n _ _ => (intOf n).toNat)
  case atStart => exact ⟨N, [], rfl, Nat.le_refl _, rfl, .of_mem (by simp), by simp, Below.refl _ _⟩
  case round =>
    obtain ⟨m, suf, rfl, hmN, rfl, hsuf, hdig, hbel⟩ := hrel
    have HSUF := Lib.hid hsuf
    have HDIG := Lib.hid hdig
    have HB := Lib.hid hbel
    have hsl : suf.length ≤ 20 := by have := HL.out; rw [hdig, List.length_append] at this; omega
    have hss : (toS suf).size ≤ 20 := by rw [size_toS]; exact hsl
    have hd1 : (toS [48 + (m : Int) % 10]).size = 1 := size_toS _
    have hadd : (toS [48 + (m : Int) % 10]).size + (toS suf).size ≤ 9223372036854775807 := by omega
    have hcv : ∀ W : World, (convert 31 9 (.slice (some ⟨W.heap.size, 0, none⟩) 1 1)).run Tryz.prog (W.alloc (.cells #[.int .u8 (48 + (m : Int) % 10)] 5)) = .ok (.string (toS [48 + (m : Int) % 10])) (W.alloc (.cells #[.int .u8 (48 + (m : Int) % 10)] 5)) := fun W =>
      conv_str _ [48 + (m : Int) % 10] 1 1 _ rfl (Lies.lit W _ _ _)
    have HJ : Hid (toS [48 + (m : Int) % 10] ++ toS suf = toS ((48 + (m : Int) % 10) :: suf)) := Lib.hid (by
      rw [toS_append (.of_mem (by intro x hx; simp at hx; omega)) hsuf]; rfl)
    have HSUF2 : Hid (Bytes ((48 + (m : Int) % 10) :: suf)) := Lib.hid (Bytes.append (l := [48 + (m : Int) % 10]) (.of_mem (by intro x hx; simp at hx; omega)) hsuf)
    obtain ⟨T, hT⟩ : ∃ T, T = toS [48 + (m : Int) % 10] := ⟨_, rfl⟩
    obtain ⟨U, hU⟩ : ∃ U, U = toS suf := ⟨_, rfl⟩
    rw [← hT] at hcv hadd HJ
    rw [← hU] at hadd HJ ⊢
    by_cases h10 : m < 10
    · have hq : ((m : Int) / 10 == 0) = true := by rw [beq_iff_eq]; omega
      have HR : Hid (toS (digL N) = T ++ U) := Lib.hid (by
        rw [HJ.out, HDIG.out, digL_one h10]
        congr 1
        show (48 + (m : Int)) :: suf = _
        congr 1; omega)
      clear hsuf hdig hbel hT hU hss hd1
      go_wp2
      go_ret
      rw [HR.out]
      exact ⟨rfl, HB.out.trans ((belowAlloc wr _).mono HB.out.size)⟩
    · have hq : ((m : Int) / 10 == 0) = false := by rw [beq_eq_false_iff_ne]; omega
      have HR : Hid (digL N = digL (m / 10) ++ (48 + (m : Int) % 10) :: suf) := Lib.hid (by
        rw [HDIG.out, digL_more h10, List.append_assoc]
        rfl)
      clear hsuf hdig hbel hT hU hss hd1
      go_wp2
      go_roundw
      case rel => exact ⟨m / 10, (48 + (m : Int) % 10) :: suf, by congr 1, by omega, by rw [← HJ.out], HSUF2.out, HR.out, HB.out.trans ((belowAlloc wr _).mono HB.out.size)⟩
      case measure => simp [intOf]; omega
/-! ### form -/
/-! ### less -/
/-! ### Lead -/
end Go.Proofs.YtblheibknpphkaaGreatDoor
namespace Go.Proofs.YtblheibknpphkaaGreatDoor
open Go Go.RowKit
/-- Does it begin with - ? -/
def dashB (s : ByteArray) : Bool := decide ((strL s).getD 0 0 = 45)
set_option maxRecDepth 100000 in
theorem hasDash_any (s : ByteArray) (w : World) (hs : s.size ≤ 9223372036854775807) :
    Calls Tryz.prog 140 #[.string s, .string ⟨#[45]⟩] w fun e w' => e = .returned (.bool (dashB s)) ∧ w = w' := by
  have hlen := length_strL s
  by_cases h1 : 1 ≤ s.size
  · have hge : (1 : Int) ≤ (s.size : Int) := by omega
    have he : ((s.extract 0 1).toList == [45]) = dashB s := by
      rw [show ([45] : List UInt8) = (⟨#[45]⟩ : ByteArray).toList by rw [ByteArray.toList_eq], eq_toList, dashB]
      have : s.extract 0 1 = ⟨#[45]⟩ ↔ (strL s).getD 0 0 = 45 := by
        constructor
        · intro h
          have := congrArg strL h
          rw [strL_extract] at this
          cases hl : strL s with
          | nil => rw [hl] at hlen; simp at hlen; omega
          | cons c r =>
            rw [hl] at this
            simpa [strL] using this
        · intro h
          apply strL_inj
          rw [strL_extract]
          cases hl : strL s with
          | nil => rw [hl] at hlen; simp at hlen; omega
          | cons c r =>
            rw [hl] at h
            rw [List.getD_cons_zero] at h
            subst h
            simp [strL]
      exact decide_eq_decide.2 this
    obtain ⟨B, hB⟩ : ∃ B, B = dashB s := ⟨_, rfl⟩
    rw [← hB] at he ⊢
    clear hB hlen
    go_enter Tryz.func140, Tryz.ntmps140
    go_wp2
    go_ret
    exact ⟨rfl, rfl⟩
  · have hge : ¬ (1 : Int) ≤ (s.size : Int) := by omega
    have hd : Hid (dashB s = false) := Lib.hid (by
      unfold dashB
      rw [List.eq_nil_of_length_eq_zero (hlen.trans (by omega))]; rfl)
    clear hlen
    go_enter Tryz.func140, Tryz.ntmps140
    go_wp2
    go_ret
    rw [hd.out]
    exact ⟨rfl, rfl⟩
/-- What stands behind a sign. -/
def restS (s : ByteArray) : ByteArray := if dashB s = true then s.extract 1 s.size else s
theorem dash_size {s : ByteArray} (h : dashB s = true) : 1 ≤ s.size := by
  unfold dashB at h
  rw [decide_eq_true_eq] at h
  rw [← length_strL]
  cases hl : strL s with
  | nil => rw [hl] at h; simp at h
  | cons c r => simp
set_option maxRecDepth 100000 in
theorem cutDash_any (s : ByteArray) (w : World) (hs : s.size ≤ 9223372036854775807) :
    Calls Tryz.prog 138 #[.string s, .string ⟨#[45]⟩] w fun e w' => e = .returned (.tuple #[.string (restS s), .bool (dashB s)]) ∧ w = w' := by
  have HP := Lib.hid (hasDash_any s w hs)
  cases hd : dashB s with
  | true =>
    rw [hd] at HP
    have hge : (1 : Int) ≤ (s.size : Int) := by have := dash_size hd; omega
    have HR : Hid (restS s = s.extract 1 s.size) := Lib.hid (by unfold restS; rw [if_pos hd])
    clear hd
    go_enter Tryz.func138, Tryz.ntmps138
    go_wp2_with (go_at_call 140; refine HP.out.mono ?_; rintro e w' ⟨rfl, rfl⟩)
    go_ret2
    rw [HR.out]
    exact ⟨rfl, rfl⟩
  | false =>
    rw [hd] at HP
    have HR : Hid (restS s = s) := Lib.hid (by unfold restS; rw [if_neg (by rw [hd]; decide)])
    clear hd
    go_enter Tryz.func138, Tryz.ntmps138
    go_wp2_with (go_at_call 140; refine HP.out.mono ?_; rintro e w' ⟨rfl, rfl⟩)
    go_ret2
    rw [HR.out]
    exact ⟨rfl, rfl⟩
set_option maxRecDepth 100000 in
theorem cutDash2_any (s : ByteArray) (w : World) (hs : s.size ≤ 9223372036854775807) :
    Calls Tryz.prog 134 #[.string s, .string ⟨#[45]⟩] w fun e w' => e = .returned (.tuple #[.string (restS s), .bool (dashB s)]) ∧ w = w' := by
  have HP := Lib.hid (cutDash_any s w hs)
  go_enter Tryz.func134, Tryz.ntmps134
  go_wp2_with (go_at_call 138; refine HP.out.mono ?_; rintro e w' ⟨rfl, rfl⟩)
  go_ret2
  exact ⟨rfl, rfl⟩
set_option maxRecDepth 100000 in
theorem parts_any (s : ByteArray) (w : World) (hs : s.size ≤ 9223372036854775807) :
    Calls Tryz.prog 123 #[.string s] w fun e w' => e = .returned (.tuple #[.bool (dashB s), .string (restS s)]) ∧ w = w' := by
  have HP := Lib.hid (cutDash2_any s w hs)
  go_enter Tryz.func123, Tryz.ntmps123
  go_wp2_with (go_at_call 134; refine HP.out.mono ?_; rintro e w' ⟨rfl, rfl⟩)
  go_ret2
  exact ⟨rfl, rfl⟩
set_option maxRecDepth 100000 in
theorem belowZero_any (n : Int) (w : World) (h0 : -9223372036854775808 ≤ n) (h1 : n ≤ 9223372036854775807) :
    Calls Tryz.prog 95 #[.int .i64 n] w fun e w' => e = .returned (.int .i64 (-(n.natAbs : Int))) ∧ w = w' := by
  by_cases h : 0 < n
  · have HR : Hid (-(n.natAbs : Int) = -n) := Lib.hid (by omega)
    go_enter Tryz.func95, Tryz.ntmps95
    go_wp2
    go_ret
    rw [HR.out]
    exact ⟨rfl, rfl⟩
  · have HR : Hid (-(n.natAbs : Int) = n) := Lib.hid (by omega)
    go_enter Tryz.func95, Tryz.ntmps95
    go_wp2
    go_ret
    rw [HR.out]
    exact ⟨rfl, rfl⟩
/-! ### countDigits -/
theorem runL_eq : ∀ {l : List Int} {k : Nat}, k ≤ l.length → (∀ j, j < k → 48 ≤ l.getD j 0 ∧ l.getD j 0 ≤ 57) → (k < l.length → ¬ (48 ≤ l.getD k 0 ∧ l.getD k 0 ≤ 57)) → runL l = k
  | [], k, hk, _, _ => by simp at hk; subst hk; rfl
  | c :: r, 0, _, _, h => by
    have := h (by simp)
    rw [List.getD_cons_zero] at this
    rw [runL, if_neg (by rw [isD_iff]; exact this)]
  | c :: r, k + 1, hk, ha, h => by
    have h0 := ha 0 (by omega)
    rw [List.getD_cons_zero] at h0
    rw [runL, if_pos (isD_iff.2 h0), runL_eq (l := r) (k := k) (by simpa using hk) (fun j hj => by
      have := ha (j + 1) (by omega)
      rwa [List.getD_cons_succ] at this) (fun hlt => by
      have := h (by simpa using hlt)
      rwa [List.getD_cons_succ] at this)]
set_option maxRecDepth 100000 in
set_option maxHeartbeats 1000000 in
theorem countDigits_any (s : ByteArray) (w : World) (hs : s.size ≤ 9223372036854775807) :
    Calls Tryz.prog 124 #[.string s] w fun e w' => e = .returned (.int .i64 (runL (strL s) : Int)) ∧ w = w' := by
  have HL := Lib.hid (length_strL s)
  go_enter Tryz.func124, Tryz.ntmps124
  go_wp2
  go_loop [6] (fun i => ∃ k : Nat, k ≤ s.size ∧ i = .int .i64 (k : Int) ∧ ∀ j, j < k → 48 ≤ (strL s).getD j 0 ∧ (strL s).getD j 0 ≤ 57) (fun i => s.size - (intOf i).toNat)
  case atStart => exact ⟨0, by omega, rfl, fun j hj => by omega⟩
  case round =>
    obtain ⟨k, hk, rfl, hall⟩ := hrel
    have HA := Lib.hid hall
    clear hall
    by_cases hlt : k < s.size
    · have HG := Lib.hid (strL_get s k hlt)
      by_cases hd : 48 ≤ (strL s).getD k 0 ∧ (strL s).getD k 0 ≤ 57
      · obtain ⟨hd1, hd2⟩ := hd
        have HD := Lib.hid (And.intro hd1 hd2)
        rw [HG.out] at hd1 hd2
        go_wp2
        go_round
        case rel => exact ⟨k + 1, by omega, by go_num, fun j hj => by
          rcases Nat.lt_or_ge j k with h | h
          · exact HA.out j h
          · obtain rfl : j = k := by omega
            exact HD.out⟩
        case measure => simp [intOf]; omega
      · have HR : Hid (runL (strL s) = k) := Lib.hid (runL_eq (by rw [HL.out]; exact hk) HA.out (fun _ => hd))
        rw [HG.out] at hd
        by_cases hd1 : ((s[k]'hlt).toNat : Int) < 48
        · clear hd
          go_wp2
          go_ret
          rw [HR.out]
          exact ⟨rfl, rfl⟩
        · have hd2 : 57 < ((s[k]'hlt).toNat : Int) := by omega
          clear hd
          go_wp2
          go_ret
          rw [HR.out]
          exact ⟨rfl, rfl⟩
    · obtain rfl : k = s.size := by omega
      have HR : Hid (runL (strL s) = s.size) := Lib.hid (runL_eq (by rw [HL.out]; exact Nat.le_refl _) HA.out (fun h => by rw [HL.out] at h; omega))
      go_wp2
      go_ret
      rw [HR.out]
      exact ⟨rfl, rfl⟩
/-! ### Lead -/
theorem restL (s : ByteArray) : strL (restS s) = if dashB s = true then (strL s).drop 1 else strL s := by
  unfold restS
  split
  · rw [strL_extract, List.take_of_length_le (by rw [length_strL]; exact Nat.le_refl _)]
  · rfl
theorem restS_size (s : ByteArray) : (restS s).size ≤ s.size := by
  rw [← length_strL, ← length_strL, restL]
  split
  · rw [List.length_drop]; omega
  · exact Nat.le_refl _
theorem runL_first {l : List Int} (h : 0 < runL l) : 48 ≤ l.getD 0 0 ∧ l.getD 0 0 ≤ 57 := isD_iff.1 (runL_digit l 0 h)
theorem runL_none {l : List Int} (h : runL l = 0) : ¬ (48 ≤ l.getD 0 0 ∧ l.getD 0 0 ≤ 57) := fun hc => by
  cases l with
  | nil => simp at hc
  | cons c r => rw [List.getD_cons_zero] at hc; rw [runL, if_pos (isD_iff.2 hc)] at h; omega
theorem dash_cons {s : ByteArray} (h : dashB s = true) : strL s = 45 :: (strL s).drop 1 := by
  unfold dashB at h
  rw [decide_eq_true_eq] at h
  cases hl : strL s with
  | nil => rw [hl] at h; simp at h
  | cons c r => rw [hl] at h; rw [List.getD_cons_zero] at h; rw [h]; rfl
theorem lead_dash {s : ByteArray} (h : dashB s = true) : leadL (strL s) = if 0 < runL (strL (restS s)) ∧ (strL (restS s)).getD 0 0 ≠ 48 then runL (strL (restS s)) + 1 else 0 := by
  rw [restL, if_pos h, dash_cons h, List.drop_succ_cons, List.drop_zero, leadL, if_pos rfl]
  obtain ⟨r, hr⟩ : ∃ r, r = (strL s).drop 1 := ⟨_, rfl⟩
  rw [← hr]
  by_cases h0 : 0 < runL r
  · have := runL_first h0
    by_cases h48 : r.getD 0 0 = 48
    · rw [if_neg (by omega), if_neg (by omega)]
    · rw [if_pos (by omega), if_pos ⟨h0, h48⟩]
  · have := runL_none (l := r) (by omega)
    rw [if_neg (by omega), if_neg (by omega)]
theorem lead_plain {s : ByteArray} (h : dashB s = false) : leadL (strL s) = if 0 < runL (strL (restS s)) ∧ (strL (restS s)).getD 0 0 = 48 then 1 else runL (strL (restS s)) := by
  rw [show strL (restS s) = strL s by rw [restL, h]; rfl]
  unfold dashB at h
  rw [decide_eq_false_iff_not] at h
  obtain ⟨l, hl⟩ : ∃ l, l = strL s := ⟨_, rfl⟩
  rw [← hl] at h ⊢
  cases l with
  | nil => rfl
  | cons c r =>
    rw [List.getD_cons_zero] at h ⊢
    rw [leadL, if_neg h]
    by_cases h48 : c = 48
    · have : 0 < runL (c :: r) := by rw [runL, if_pos (isD_iff.2 (by omega))]; omega
      rw [if_pos h48, if_pos ⟨this, h48⟩]
    · rw [if_neg h48, if_neg (by omega)]
set_option maxRecDepth 100000 in
set_option maxHeartbeats 1000000 in
theorem lead_anyN (s : ByteArray) (w : World) (hs : s.size ≤ 9223372036854775806) :
    Calls Tryz.prog 110 #[.string s] w fun e w' => e = .returned (.int .i64 (leadL (strL s) : Int)) ∧ Below w.heap.size w w' := by
  have hrs := restS_size s
  have HP := Lib.hid (parts_any s w (by omega))
  have HC := Lib.hid (countDigits_any (restS s) w (by omega))
  have HL : Hid (dashB s = true → leadL (strL s) = if 0 < runL (strL (restS s)) ∧ (strL (restS s)).getD 0 0 ≠ 48 then runL (strL (restS s)) + 1 else 0) := Lib.hid lead_dash
  have HL2 : Hid (dashB s = false → leadL (strL s) = if 0 < runL (strL (restS s)) ∧ (strL (restS s)).getD 0 0 = 48 then 1 else runL (strL (restS s))) := Lib.hid lead_plain
  have hrl := runL_le (strL (restS s))
  rw [length_strL] at hrl
  obtain ⟨T, hT⟩ : ∃ T, T = restS s := ⟨_, rfl⟩
  obtain ⟨m, hm⟩ : ∃ m, m = leadL (strL s) := ⟨_, rfl⟩
  rw [← hT] at HP HC HL HL2 hrs hrl
  rw [← hm] at HL HL2 ⊢
  have HG : Hid (∀ h : 0 < T.size, (strL T).getD 0 0 = ((T[0]'h).toNat : Int)) := Lib.hid (fun h => strL_get T 0 h)
  obtain ⟨n, hn⟩ : ∃ n, n = runL (strL T) := ⟨_, rfl⟩
  rw [← hn] at HC HL HL2 hrl
  clear hm hT hn
  by_cases h0 : 0 < n
  · have hz : 0 < T.size := by omega
    have hb : ((n : Int) == 0) = false := by rw [beq_eq_false_iff_ne]; omega
    by_cases h48 : ((T[0]'hz).toNat : Int) = 48
    · have hc : (((T[0]'hz).toNat : Int) == 48) = true := by rw [beq_iff_eq]; exact h48
      cases hd : dashB s with
      | true =>
        rw [hd] at HP
        have HR : Hid (m = 0) := Lib.hid (by rw [HL.out hd, if_neg (by rw [HG.out hz]; omega)])
        clear hd h48
        go_enter Tryz.func110, Tryz.ntmps110
        go_wp2_with (first
          | (go_at_call 123; refine HP.out.mono ?_; rintro e w' ⟨rfl, rfl⟩)
          | (go_at_call 124; refine HC.out.mono ?_; rintro e w' ⟨rfl, rfl⟩))
        go_ret
        rw [HR.out]
        exact ⟨rfl, Below.refl _ _⟩
      | false =>
        rw [hd] at HP
        have HR : Hid (m = 1) := Lib.hid (by rw [HL2.out hd, if_pos ⟨h0, by rw [HG.out hz]; exact h48⟩])
        clear hd h48
        go_enter Tryz.func110, Tryz.ntmps110
        go_wp2_with (first
          | (go_at_call 123; refine HP.out.mono ?_; rintro e w' ⟨rfl, rfl⟩)
          | (go_at_call 124; refine HC.out.mono ?_; rintro e w' ⟨rfl, rfl⟩))
        go_ret
        rw [HR.out]
        exact ⟨rfl, Below.refl _ _⟩
    · have hc : (((T[0]'hz).toNat : Int) == 48) = false := by rw [beq_eq_false_iff_ne]; exact h48
      cases hd : dashB s with
      | true =>
        rw [hd] at HP
        have HR : Hid (m = n + 1) := Lib.hid (by rw [HL.out hd, if_pos ⟨h0, by rw [HG.out hz]; exact h48⟩])
        clear hd h48
        go_enter Tryz.func110, Tryz.ntmps110
        go_wp2_with (first
          | (go_at_call 123; refine HP.out.mono ?_; rintro e w' ⟨rfl, rfl⟩)
          | (go_at_call 124; refine HC.out.mono ?_; rintro e w' ⟨rfl, rfl⟩))
        go_ret
        rw [HR.out]
        exact ⟨ret_int (by omega), Below.refl _ _⟩
      | false =>
        rw [hd] at HP
        have HR : Hid (m = n) := Lib.hid (by rw [HL2.out hd, if_neg (by rw [HG.out hz]; omega)])
        clear hd h48
        go_enter Tryz.func110, Tryz.ntmps110
        go_wp2_with (first
          | (go_at_call 123; refine HP.out.mono ?_; rintro e w' ⟨rfl, rfl⟩)
          | (go_at_call 124; refine HC.out.mono ?_; rintro e w' ⟨rfl, rfl⟩))
        go_ret
        rw [HR.out]
        exact ⟨rfl, Below.refl _ _⟩
  · obtain rfl : n = 0 := by omega
    have HR : Hid (m = 0) := Lib.hid (by
      cases hd : dashB s with
      | true => rw [HL.out hd, if_neg (by omega)]
      | false => rw [HL2.out hd, if_neg (by omega)])
    clear h0
    go_enter Tryz.func110, Tryz.ntmps110
    go_wp2_with (first
      | (go_at_call 123; refine HP.out.mono ?_; rintro e w' ⟨rfl, rfl⟩)
      | (go_at_call 124; refine HC.out.mono ?_; rintro e w' ⟨rfl, rfl⟩))
    go_ret
    rw [HR.out]
    exact ⟨rfl, Below.refl _ _⟩
end Go.Proofs.YtblheibknpphkaaGreatDoor
namespace Go.Proofs.YtblheibknpphkaaGreatDoor
open Go Go.RowKit
theorem take_val {l : List Int} {k : Nat} (hk : k < l.length) : valL (l.take (k + 1)) = valL (l.take k) * 10 + (l.getD k 0 - 48).toNat := by
  rw [List.take_succ_eq_append_getElem hk, valL_snoc, List.getD_eq_getElem?_getD, List.getElem?_eq_getElem hk]; rfl
/-- The number of a text in two parts, and does it fit? -/
def numS (s : ByteArray) : Int := if dashB s = true then -(valL (strL (restS s)) : Int) else (valL (strL (restS s)) : Int)
def fitS (s : ByteArray) : Bool := decide (-9223372036854775808 ≤ numS s ∧ numS s ≤ 9223372036854775807)
theorem numS_num (s : ByteArray) : numS s = numL (strL s) := by
  unfold numS numL
  rw [restL]
  unfold dashB
  by_cases h : (strL s).getD 0 0 = 45
  · rw [decide_eq_true h, if_pos rfl, if_pos rfl, if_pos h]
  · rw [decide_eq_false h, if_neg (by decide), if_neg (by decide), if_neg h]
theorem tdiv_min (d : Int) (h0 : 0 ≤ d) (h1 : d ≤ 9) : (-9223372036854775808 + d).tdiv 10 = -((9223372036854775808 - d) / 10) := by
  rw [show -9223372036854775808 + d = -(9223372036854775808 - d) by omega, Int.neg_tdiv, Int.tdiv_eq_ediv_of_nonneg (by omega)]
set_option maxRecDepth 100000 in
set_option maxHeartbeats 1000000 in
theorem reckon_any (s : ByteArray) (w : World) (hs : s.size ≤ 9223372036854775807) (hD : AllD (strL (restS s))) :
    Calls Tryz.prog 125 #[.string s] w fun e w' => e = .returned (.tuple #[.int .i64 (if fitS s = true then numS s else 0), .bool (fitS s)]) ∧ w = w' := by
  have hrs := restS_size s
  have HP := Lib.hid (parts_any s w hs)
  have HV : Hid (numS s = if dashB s = true then -(valL (strL (restS s)) : Int) else (valL (strL (restS s)) : Int)) := Lib.hid rfl
  have HF : Hid (fitS s = decide (-9223372036854775808 ≤ numS s ∧ numS s ≤ 9223372036854775807)) := Lib.hid rfl
  obtain ⟨T, hT⟩ : ∃ T, T = restS s := ⟨_, rfl⟩
  obtain ⟨D, hDD⟩ : ∃ D, D = dashB s := ⟨_, rfl⟩
  obtain ⟨N, hN⟩ : ∃ N, N = numS s := ⟨_, rfl⟩
  obtain ⟨F, hF⟩ : ∃ F, F = fitS s := ⟨_, rfl⟩
  rw [← hT] at HP HV hD hrs
  rw [← hDD] at HP HV
  rw [← hN] at HV HF ⊢
  rw [← hF] at HF ⊢
  have HX : Hid ((F = true → (if F = true then N else 0) = N) ∧ (F = false → (if F = true then N else 0) = 0)) := Lib.hid ⟨fun h => if_pos h, fun h => if_neg (by rw [h]; decide)⟩
  obtain ⟨X, hX⟩ : ∃ X, X = if F = true then N else 0 := ⟨_, rfl⟩
  rw [← hX] at HX ⊢
  have HL := Lib.hid (length_strL T)
  have hts : T.size ≤ 9223372036854775807 := by omega
  have HD := Lib.hid hD
  clear hT hDD hN hF hD hrs hX
  go_enter Tryz.func125, Tryz.ntmps125
  go_wp2_with (go_at_call 123; refine HP.out.mono ?_; rintro e w' ⟨rfl, rfl⟩)
  go_loop [2, 15] (fun n i => ∃ k v : Nat, k ≤ T.size ∧ i = .int .i64 (k : Int) ∧ n = .int .i64 (-(v : Int)) ∧ v ≤ 9223372036854775808 ∧ v = valL ((strL T).take k)) (fun _ i => T.size - (intOf i).toNat)
  case atStart => exact ⟨0, 0, by omega, rfl, rfl, by omega, rfl⟩
  case round =>
    obtain ⟨k, v, hk, rfl, rfl, hv, hval⟩ := hrel
    have HVAL := Lib.hid hval
    clear hval
    by_cases hlt : k < T.size
    · have HG := Lib.hid (strL_get T k hlt)
      have hkl : k < (strL T).length := by rw [HL.out]; exact hlt
      have hdg := HD.out.at k hkl
      have HN := Lib.hid (take_val hkl)
      have hNle := valL_take_le (strL T) (k + 1)
      rw [HN.out, ← HVAL.out] at hNle
      obtain ⟨d, hd⟩ : ∃ d : Nat, (strL T).getD k 0 = 48 + (d : Int) := ⟨((strL T).getD k 0 - 48).toNat, by omega⟩
      rw [hd, show (48 + (d : Int) - 48).toNat = d by omega] at hNle
      have HN2 : Hid (valL ((strL T).take (k + 1)) = v * 10 + d) := Lib.hid (by rw [HN.out, hd, ← HVAL.out]; omega)
      have hc : ((T[k]'hlt).toNat : Int) = 48 + (d : Int) := by rw [← HG.out]; exact hd
      have hd9 : d ≤ 9 := by omega
      have ht := tdiv_min (d : Int) (by omega) (by omega)
      have HNLE := Lib.hid hNle
      have hsub : (48 + (d : Int)) - 48 = (d : Int) := by omega
      clear hd hdg hkl HN hNle
      by_cases hover : v * 10 + d ≤ 9223372036854775808
      · have hno : ¬ (-(v : Int)) < -((9223372036854775808 - (d : Int)) / 10) := by omega
        go_wp2
        go_round
        case rel => exact ⟨k + 1, v * 10 + d, by omega, by go_num, by congr 1; omega, hover, HN2.out.symm⟩
        case measure => simp [intOf]; omega
      · have hyes : (-(v : Int)) < -((9223372036854775808 - (d : Int)) / 10) := by omega
        have HR : Hid (F = false) := Lib.hid (by
          rw [HF.out, HV.out, decide_eq_false_iff_not]
          have := HNLE.out
          split <;> omega)
        go_wp2
        go_ret2
        rw [HX.out.2 HR.out, HR.out]
        exact ⟨rfl, rfl⟩
    · obtain rfl : k = T.size := by omega
      have HVV : Hid (v = valL (strL T)) := Lib.hid (by rw [HVAL.out, List.take_of_length_le (by rw [HL.out]; exact Nat.le_refl _)])
      cases D with
      | true =>
        have HR : Hid (F = true ∧ N = -(v : Int)) := Lib.hid (by
          have h := HV.out
          rw [if_pos rfl, ← HVV.out] at h
          exact ⟨by rw [HF.out, decide_eq_true_eq]; omega, h⟩)
        go_wp2
        go_ret2
        rw [HX.out.1 HR.out.1, HR.out.1, HR.out.2]
        exact ⟨rfl, rfl⟩
      | false =>
        have h := HV.out
        rw [if_neg (by decide), ← HVV.out] at h
        by_cases hm : v = 9223372036854775808
        · have HR : Hid (F = false) := Lib.hid (by rw [HF.out, decide_eq_false_iff_not]; omega)
          have hb : ((-(v : Int)) == -9223372036854775808) = true := by rw [beq_iff_eq]; omega
          clear h hm
          go_wp2
          go_ret2
          rw [HX.out.2 HR.out, HR.out]
          exact ⟨rfl, rfl⟩
        · have HR : Hid (F = true ∧ N = (v : Int)) := Lib.hid (by exact ⟨by rw [HF.out, decide_eq_true_eq]; omega, h⟩)
          have hb : ((-(v : Int)) == -9223372036854775808) = false := by rw [beq_eq_false_iff_ne]; omega
          have hv2 : (v : Int) ≤ 9223372036854775807 := by omega
          clear h hm
          go_wp2
          go_ret2
          rw [HX.out.1 HR.out.1, HR.out.1, HR.out.2]
          exact ⟨rfl, rfl⟩
end Go.Proofs.YtblheibknpphkaaGreatDoor
namespace Go.Proofs.YtblheibknpphkaaGreatDoor
open Go Go.RowKit
/-- A digit of base 16, -1: none. -/
def hexD (c : Int) : Int := if 48 ≤ c ∧ c ≤ 57 then c - 48 else if 97 ≤ c ∧ c ≤ 102 then c - 97 + 10 else if 65 ≤ c ∧ c ≤ 70 then c - 65 + 10 else -1
/-- Digits of base 16 (the first: how many still are), the number till then; or -1, and where what is none stands. -/
def hexL (l : List Int) : Nat → Nat → Int → Int × Int
  | 0, _, n => (n, 0)
  | k + 1, i, n => if hexD (atL l i) < 0 then (-1, ((min i l.length : Nat) : Int)) else hexL l k (i + 1) (16 * n + hexD (atL l i))
end Go.Proofs.YtblheibknpphkaaGreatDoor
namespace Go.Proofs.YtblheibknpphkaaGreatDoor
open Go Go.RowKit
/-- What a letter behind a \ stands for. -/
def plainL (c : Int) : List Int := if c = 34 ∨ c = 92 ∨ c = 47 then [c] else if c = 98 then [8] else if c = 102 then [12] else if c = 110 then [10] else if c = 114 then [13] else if c = 116 then [9] else []
end Go.Proofs.YtblheibknpphkaaGreatDoor
namespace Go.Proofs.YtblheibknpphkaaGreatDoor
open Go Go.RowKit
theorem runL_take : ∀ (l : List Int), runL (l.take (runL l)) = runL l
  | [] => rfl
  | c :: r => by
    by_cases h : isD c = true
    · have e : runL (c :: r) = runL r + 1 := by rw [runL, if_pos h]
      rw [e, List.take_succ_cons, runL, if_pos h, runL_take r]
    · have e : runL (c :: r) = 0 := by rw [runL, if_neg h]
      rw [e]; rfl
theorem getD_take0 (r : List Int) (k : Nat) (h : 0 < k) : (r.take k).getD 0 0 = r.getD 0 0 := by
  cases r with
  | nil => simp
  | cons a t => obtain ⟨j, rfl⟩ : ∃ j, k = j + 1 := ⟨k - 1, by omega⟩; rfl
/-- What leads is a number's text. -/
theorem form_lead_take {l : List Int} (h : leadL l ≠ 0) : formL (l.take (leadL l)) = true := by
  have hle := leadL_le l
  unfold formL
  rw [decide_eq_true_eq]
  have hlen : (l.take (leadL l)).length = leadL l := by rw [List.length_take]; omega
  refine ⟨fun e => by rw [e] at hlen; exact h hlen.symm, ?_⟩
  rw [hlen]
  cases l with
  | nil => rfl
  | cons c r =>
    have e : leadL (c :: r) = if c = 45 then (if 49 ≤ r.getD 0 0 ∧ r.getD 0 0 ≤ 57 then runL r + 1 else 0) else if c = 48 then 1 else runL (c :: r) := by rw [leadL]
    by_cases h45 : c = 45
    · subst h45
      by_cases hd : 49 ≤ r.getD 0 0 ∧ r.getD 0 0 ≤ 57
      · rw [if_pos rfl, if_pos hd] at e
        rw [e, List.take_succ_cons, leadL, if_pos rfl, getD_take0 r _ (by
          cases r with
          | nil => simp at hd
          | cons a t => rw [List.getD_cons_zero] at hd; rw [runL, if_pos (isD_iff.2 (by omega))]; omega), if_pos hd, runL_take]
      · rw [if_pos rfl, if_neg hd] at e
        exact absurd e h
    · rw [if_neg h45] at e
      by_cases h48 : c = 48
      · subst h48
        rw [if_pos rfl] at e
        rw [e]; rfl
      · rw [if_neg h48] at e
        have hr : runL (c :: r) ≠ 0 := by rw [← e]; exact h
        obtain ⟨j, hj⟩ : ∃ j, runL (c :: r) = j + 1 := ⟨runL (c :: r) - 1, by omega⟩
        have ht := runL_take (c :: r)
        rw [e]
        rw [hj] at ht ⊢
        rw [List.take_succ_cons] at ht ⊢
        rw [leadL, if_neg h45, if_neg h48]
        exact ht
end Go.Proofs.YtblheibknpphkaaGreatDoor
