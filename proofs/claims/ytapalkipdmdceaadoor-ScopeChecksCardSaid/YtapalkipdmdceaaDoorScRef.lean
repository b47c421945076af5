/- The reference's Great, Same, Has, Put, All. -/
import Derived.Test.YtapalkipdmdceaaDoorScNames
import Derived.Deep.QuietTactic
import Derived.BigQuiet
import Derived.IntWalk
import Derived.Maps.RangeWalk
import Derived.Deep.RegionHeld3
namespace Go.Proofs.YtapalkipdmdceaaDoor
open Go Go.RowKit

theorem ret_boolR {a b : Bool} (h : a = b) : Ending.returned (.bool a) = .returned (.bool b) := by rw [h]
/-- A slice of names of any size. -/
def RawN (w : World) (v : Value) (ns : List ByteArray) : Prop := ∃ A c, v = .slice A ns.length c ∧ ns.length ≤ c ∧ ns.length ≤ 9223372036854775807 ∧ LiesN w A ns
/-- Are names more than are looked at? -/
def greatN (ns : List ByteArray) : Bool := decide (100 < ns.length) || ns.any fun x => decide (1000 < x.size)
theorem greatN_not {ns : List ByteArray} (h : greatN ns = false) : ns.length ≤ 100 ∧ ∀ x ∈ ns, x.size ≤ 1000 := by
  unfold greatN at h
  rw [Bool.or_eq_false_iff, decide_eq_false_iff_not, List.any_eq_false] at h
  refine ⟨by omega, fun x hx => ?_⟩
  have := h.2 x hx
  simp at this
  exact this
theorem RawN.slice {w : World} {v : Value} {ns : List ByteArray} (h : RawN w v ns) (hg : greatN ns = false) : SliceN w v ns := by
  obtain ⟨A, c, e, hc, _, hl⟩ := h
  exact ⟨A, c, e, hc, hl, fun x hx => by have := (greatN_not hg).2 x hx; omega⟩
theorem RawN.below {w w' : World} {v : Value} {ns : List ByteArray} (h : RawN w v ns) (hb : Below w.heap.size w w') : RawN w' v ns := by
  obtain ⟨A, c, e, hc, h1, hl⟩ := h
  exact ⟨A, c, e, hc, h1, hl.below hb⟩
set_option maxRecDepth 100000 in
set_option maxHeartbeats 1000000 in
theorem refGreat_any (v : Value) (ns : List ByteArray) (w : World) (h : RawN w v ns) :
    Calls Tryd.prog 12 #[v] w fun e w' => e = .returned (.bool (greatN ns)) ∧ w = w' := by
  obtain ⟨A, c, rfl, hc, h9, hl⟩ := h
  obtain ⟨n, hnn⟩ : ∃ n, n = ns.length := ⟨_, rfl⟩
  obtain ⟨R, hR⟩ : ∃ R, R = greatN ns := ⟨_, rfl⟩
  rw [← hR]
  rw [← hnn] at hc h9 ⊢
  have HN := Lib.hid hnn
  have HL := Lib.hid hl
  have HR := Lib.hid hR
  clear hnn hl hR
  by_cases hg : 100 < n
  · have hgI : (100 : Int) < (n : Int) := by omega
    have HT : Hid (R = true) := Lib.hid (by rw [HR.out]; unfold greatN; rw [← HN.out, decide_eq_true hg, Bool.true_or])
    go_enter Tryd.func12, Tryd.ntmps12
    go_wp2
    go_ret
    exact ⟨ret_boolR HT.out.symm, rfl⟩
  · have hgI : ¬ (100 : Int) < (n : Int) := by omega
    have HR2 : Hid (R = ns.any fun x => decide (1000 < x.size)) := Lib.hid (by rw [HR.out]; unfold greatN; rw [← HN.out, decide_eq_false hg, Bool.false_or])
    have hg2 : n ≤ 100 := by omega
    clear hg HR
    go_enter Tryd.func12, Tryd.ntmps12
    go_wp2
    go_loop [3] (fun i => ∃ k : Nat, k ≤ n ∧ i = .int .i64 (k : Int) ∧ R = (ns.drop k).any fun x => decide (1000 < x.size)) (fun i => n - (intOf i).toNat)
    case atStart => exact ⟨0, Nat.zero_le _, rfl, HR2.out⟩
    case round =>
      obtain ⟨k, hk, rfl, hrun⟩ := hrel
      have HRUN := Lib.hid hrun
      clear hrun
      by_cases hlt : k < n
      · have hkl : k < ns.length := by rw [← HN.out]; exact hlt
        obtain ⟨b, o, rfl, _, hcell⟩ := HL.out.at hkl
        have hi0 : (0 : Int) ≤ (k : Int) := by omega
        have HD : Hid (ns.drop k = ns[k] :: ns.drop (k + 1)) := Lib.hid (List.drop_eq_getElem_cons hkl)
        obtain ⟨x, hx⟩ : ∃ x, x = ns[k] := ⟨_, rfl⟩
        rw [← hx] at hcell HD
        clear hx hkl
        by_cases hs : 1000 < x.size
        · have hsI : (1000 : Int) < (x.size : Int) := by omega
          have HT : Hid (R = true) := Lib.hid (by rw [HRUN.out, HD.out, List.any_cons, decide_eq_true hs, Bool.true_or])
          clear hs
          go_wp2
          go_ret
          exact ⟨ret_boolR HT.out.symm, rfl⟩
        · have hsI : ¬ (1000 : Int) < (x.size : Int) := by omega
          have HT : Hid (R = (ns.drop (k + 1)).any fun x => decide (1000 < x.size)) := Lib.hid (by rw [HRUN.out, HD.out, List.any_cons, decide_eq_false hs, Bool.false_or])
          clear hs
          go_wp2
          go_round
          case rel => exact ⟨k + 1, by omega, by go_num, HT.out⟩
          case measure => simp [intOf]; omega
      · obtain rfl : k = n := by omega
        have HT : Hid (R = false) := Lib.hid (by rw [HRUN.out, HN.out, List.drop_length]; rfl)
        clear hlt
        go_wp2
        go_ret
        exact ⟨ret_boolR HT.out.symm, rfl⟩
/-- Are two lists the same? -/
def sameN : List ByteArray → List ByteArray → Bool
  | [], [] => true
  | x :: a, y :: b => (x.toList == y.toList) && sameN a b
  | _, _ => false
theorem sameN_iff : ∀ {a b : List ByteArray}, sameN a b = true ↔ a = b
  | [], [] => by simp [sameN]
  | [], y :: b => by simp [sameN]
  | x :: a, [] => by simp [sameN]
  | x :: a, y :: b => by
    rw [sameN, Bool.and_eq_true, beq_iff_eq, sameN_iff, List.cons.injEq]
    exact ⟨fun ⟨h1, h2⟩ => ⟨toList_inj h1, h2⟩, fun ⟨h1, h2⟩ => ⟨by rw [h1], h2⟩⟩
theorem sameN_len {a b : List ByteArray} (h : a.length ≠ b.length) : sameN a b = false := by
  cases hs : sameN a b with
  | false => rfl
  | true => exact absurd (by rw [sameN_iff.1 hs]) h
theorem sameN_self (a : List ByteArray) : sameN a a = true := sameN_iff.2 rfl
set_option maxRecDepth 100000 in
set_option maxHeartbeats 2000000 in
theorem refSame_any (va vb : Value) (a b : List ByteArray) (w : World) (ha : SliceN w va a) (hb : SliceN w vb b) (hn : a.length ≤ 1000000000) (hn2 : b.length ≤ 1000000000) :
    Calls Tryd.prog 9 #[va, vb] w fun e w' => e = .returned (.bool (sameN a b)) ∧ Below w.heap.size w w' := by
  obtain ⟨A, c, rfl, hc, hl, -⟩ := ha
  obtain ⟨A2, c2, rfl, hc2, hl2, -⟩ := hb
  obtain ⟨n, hnn⟩ : ∃ n, n = a.length := ⟨_, rfl⟩
  obtain ⟨m, hmm⟩ : ∃ m, m = b.length := ⟨_, rfl⟩
  obtain ⟨R, hR⟩ : ∃ R, R = sameN a b := ⟨_, rfl⟩
  rw [← hR]
  rw [← hnn] at hc hn ⊢
  rw [← hmm] at hc2 hn2 ⊢
  have HN := Lib.hid hnn
  have HM := Lib.hid hmm
  have HL := Lib.hid hl
  have HL2 := Lib.hid hl2
  have HR := Lib.hid hR
  clear hnn hmm hl hl2 hR
  by_cases hnm : n = m
  · subst hnm
    go_enter Tryd.func9, Tryd.ntmps9
    go_wp2
    go_loopw [5] (fun i wr => ∃ k : Nat, k ≤ n ∧ i = .int .i64 (k : Int) ∧ R = sameN (a.drop k) (b.drop k) ∧ Below w.heap.size w wr) (fun i _ => n - (intOf i).toNat)
    case atStart => exact ⟨0, Nat.zero_le _, rfl, HR.out, Below.refl _ _⟩
    case round =>
      obtain ⟨k, hk, rfl, hrun, hbel⟩ := hrel
      have HRUN := Lib.hid hrun
      have HBE := Lib.hid hbel
      clear hrun hbel
      by_cases hlt : k < n
      · have hkl : k < a.length := by rw [← HN.out]; exact hlt
        have hkl2 : k < b.length := by rw [← HM.out]; exact hlt
        obtain ⟨b1, o1, rfl, _, hcell⟩ := (HL.out.below HBE.out).at hkl
        obtain ⟨b2, o2, rfl, _, hcell2⟩ := (HL2.out.below HBE.out).at hkl2
        have hi0 : (0 : Int) ≤ (k : Int) := by omega
        have HD : Hid (a.drop k = a[k] :: a.drop (k + 1)) := Lib.hid (List.drop_eq_getElem_cons hkl)
        have HD2 : Hid (b.drop k = b[k] :: b.drop (k + 1)) := Lib.hid (List.drop_eq_getElem_cons hkl2)
        obtain ⟨x, hx⟩ : ∃ x, x = a[k] := ⟨_, rfl⟩
        obtain ⟨y, hy⟩ : ∃ x, x = b[k] := ⟨_, rfl⟩
        rw [← hx] at hcell HD
        rw [← hy] at hcell2 HD2
        clear hx hkl hy hkl2
        cases he : (x.toList == y.toList) with
        | true =>
          have HT : Hid (R = sameN (a.drop (k + 1)) (b.drop (k + 1))) := Lib.hid (by rw [HRUN.out, HD.out, HD2.out, sameN, he, Bool.true_and])
          go_wp2
          go_region_held3 (fun W => Below wr.heap.size wr W ∧ W.cell? ⟨b1, o1 + k, none⟩ = some (.string x) ∧ W.cell? ⟨b2, o2 + k, none⟩ = some (.string y))
            (first
              | exact ⟨(Below.refl _ _).drew, hcell, hcell2⟩
              | go_keep)
            (fail)
          all_goals
            go_wp2
            go_roundw
            case rel => exact ⟨k + 1, by omega, by go_num, HT.out, HBE.out.drew⟩
            case measure => simp [intOf]; omega
        | false =>
          have HT : Hid (R = false) := Lib.hid (by rw [HRUN.out, HD.out, HD2.out, sameN, he, Bool.false_and])
          go_wp2
          go_region_held3 (fun W => Below wr.heap.size wr W ∧ W.cell? ⟨b1, o1 + k, none⟩ = some (.string x) ∧ W.cell? ⟨b2, o2 + k, none⟩ = some (.string y))
            (first
              | exact ⟨(Below.refl _ _).drew, hcell, hcell2⟩
              | go_keep)
            (fail)
          all_goals
            go_wp2
            go_ret
            exact ⟨ret_boolR HT.out.symm, HBE.out.drew⟩
      · obtain rfl : k = n := by omega
        have HT : Hid (R = true) := Lib.hid (by rw [HRUN.out, HN.out, List.drop_length, ← HN.out, HM.out, List.drop_length]; rfl)
        clear hlt
        go_wp2
        go_ret
        exact ⟨ret_boolR HT.out.symm, HBE.out⟩
  · have HT : Hid (R = false) := Lib.hid (by rw [HR.out]; exact sameN_len (by rw [← HN.out, ← HM.out]; exact hnm))
    have hq : ((n : Int) == (m : Int)) = false := by rw [beq_eq_false_iff_ne]; omega
    clear hnm
    go_enter Tryd.func9, Tryd.ntmps9
    go_wp2
    go_ret
    exact ⟨ret_boolR HT.out.symm, Below.refl _ _⟩
theorem infoStrR : (Tryd.prog.info? 9).map (fun i => (i.zero, i.size, i.bytes)) = some (some (.string ByteArray.empty), 1, 16) := by kernel_rfl
theorem cell_litR (w : World) (x : ByteArray) (t : TypeId) : ∀ j u, [Value.string x][j]? = some u → (w.alloc (.cells #[.string x] t)).cell? ((⟨w.heap.size, 0, none⟩ : Addr).add j) = some u := fun j u hj => by
  match j, hj with
  | 0, hj => simp at hj; subst hj; simp [Addr.add]
set_option maxRecDepth 100000 in
set_option maxHeartbeats 1000000 in
theorem refHas_any (v : Value) (ns : List ByteArray) (x : ByteArray) (w : World) (h : SliceN w v ns) (hn : ns.length ≤ 1000000000) :
    Calls Tryd.prog 44 #[v, .string x] w fun e w' => e = .returned (.bool (hasN ns x)) ∧ w = w' := by
  obtain ⟨A, c, rfl, hc, hl, -⟩ := h
  obtain ⟨n, hnn⟩ : ∃ n, n = ns.length := ⟨_, rfl⟩
  obtain ⟨R, hR⟩ : ∃ R, R = hasN ns x := ⟨_, rfl⟩
  rw [← hR]
  rw [← hnn] at hc hn ⊢
  have HN := Lib.hid hnn
  have HL := Lib.hid hl
  have HR := Lib.hid hR
  clear hnn hl hR
  go_enter Tryd.func44, Tryd.ntmps44
  go_wp2
  go_loop [5] (fun i => ∃ k : Nat, k ≤ n ∧ i = .int .i64 (k : Int) ∧ R = hasN (ns.drop k) x) (fun i => n - (intOf i).toNat)
  case atStart => exact ⟨0, Nat.zero_le _, rfl, HR.out⟩
  case round =>
    obtain ⟨k, hk, rfl, hrun⟩ := hrel
    have HRUN := Lib.hid hrun
    clear hrun
    by_cases hlt : k < n
    · have hkl : k < ns.length := by rw [← HN.out]; exact hlt
      obtain ⟨b, o, rfl, _, hcell⟩ := HL.out.at hkl
      have hi0 : (0 : Int) ≤ (k : Int) := by omega
      have HD : Hid (ns.drop k = ns[k] :: ns.drop (k + 1)) := Lib.hid (List.drop_eq_getElem_cons hkl)
      obtain ⟨y, hy⟩ : ∃ x, x = ns[k] := ⟨_, rfl⟩
      rw [← hy] at hcell HD
      clear hy hkl
      cases he : (y.toList == x.toList) with
      | true =>
        have HT : Hid (R = true) := Lib.hid (by rw [HRUN.out, HD.out, hasN_cons, he, Bool.true_or])
        go_wp2
        go_ret
        exact ⟨ret_boolR HT.out.symm, rfl⟩
      | false =>
        have HT : Hid (R = hasN (ns.drop (k + 1)) x) := Lib.hid (by rw [HRUN.out, HD.out, hasN_cons, he, Bool.false_or])
        go_wp2
        go_round
        case rel => exact ⟨k + 1, by omega, by go_num, HT.out⟩
        case measure => simp [intOf]; omega
    · obtain rfl : k = n := by omega
      have HT : Hid (R = false) := Lib.hid (by rw [HRUN.out, HN.out, List.drop_length]; rfl)
      clear hlt
      go_wp2
      go_ret
      exact ⟨ret_boolR HT.out.symm, rfl⟩
theorem insG_drop {l : List ByteArray} {k : Nat} (x : ByteArray) (d : Bool) (h : k < l.length) : insG x d (l.drop k) = (if d = false ∧ ltS x l[k] = true then [x] else []) ++ l[k] :: insG x (d || ltS x l[k]) (l.drop (k + 1)) := by
  rw [List.drop_eq_getElem_cons h, insG]
end Go.Proofs.YtapalkipdmdceaaDoor
