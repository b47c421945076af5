/- The program's Check, Print. -/
import Derived.Test.YtapalkipdmdceaaDoorScAll
import Derived.Test.YtapalkipdmdceaaDoorBld
import Derived.Laws.Cover1
namespace Go.Proofs.YtapalkipdmdceaaDoor
open Go Go.RowKit

/-- Are they names that rise, behind this one? -/
def chkG : Option ByteArray → List ByteArray → Bool
  | _, [] => true
  | p, x :: r => nameB (strL x) && (match p with | none => true | some q => ltS q x) && chkG (some x) r
/-- The name before place k. -/
def prevN (l : List ByteArray) : Nat → Option ByteArray
  | 0 => none
  | k + 1 => l[k]?
/-- Are they scopes? -/
def checkN (l : List ByteArray) : Bool := decide (l.length ≤ 16) && chkG none l
theorem chk_at0 {l : List ByteArray} (h : 0 < l.length) : chkG (prevN l 0) (l.drop 0) = (nameB (strL l[0]) && chkG (prevN l 1) (l.drop 1)) := by
  cases l with
  | nil => simp at h
  | cons x r => simp [prevN, chkG]
theorem chk_at1 {l : List ByteArray} {k : Nat} (h : k + 1 < l.length) : chkG (prevN l (k + 1)) (l.drop (k + 1)) = (nameB (strL l[k + 1]) && ltS l[k] l[k + 1] && chkG (prevN l (k + 2)) (l.drop (k + 2))) := by
  rw [List.drop_eq_getElem_cons h]
  simp only [prevN, List.getElem?_eq_getElem h, List.getElem?_eq_getElem (show k < l.length by omega), chkG]
/-- What ErrScope is told as. -/
def SErr (ok : Bool) : Value := if ok then .nilIface else .iface 39 (.int .i64 70)
theorem chkG_rise : ∀ (l : List ByteArray) (p : Option ByteArray), chkG p l = true → RiseS l ∧ (∀ q, p = some q → ∀ x ∈ l, ltS q x = true) ∧ ∀ x ∈ l, nameB (strL x) = true
  | [], _, _ => ⟨rise_nil, (fun _ _ _ h => by cases h), (fun _ h => by cases h)⟩
  | x :: r, p, h => by
    simp only [chkG, Bool.and_eq_true] at h
    obtain ⟨⟨h1, h2⟩, h3⟩ := h
    obtain ⟨k1, k2, k3⟩ := chkG_rise r (some x) h3
    have hx := k2 x rfl
    refine ⟨rise_cons.2 ⟨hx, k1⟩, fun q hq z hz => ?_, fun z hz => ?_⟩
    · subst hq
      rcases List.mem_cons.1 hz with rfl | hz
      · exact h2
      · exact ltS_trans h2 (hx z hz)
    · rcases List.mem_cons.1 hz with rfl | hz
      · exact h1
      · exact k3 z hz
set_option maxRecDepth 100000 in
set_option maxHeartbeats 4000000 in
theorem checkP_any (v : Value) (ns : List ByteArray) (w : World) (h : SliceN w v ns) (hn : ns.length ≤ 1000000000) :
    Calls Tryd.prog 13 #[v] w fun e w' => e = .returned (SErr (checkN ns)) ∧ w = w' := by
  obtain ⟨A, c, rfl, hc, hl, -⟩ := h
  obtain ⟨n, hnn⟩ : ∃ n, n = ns.length := ⟨_, rfl⟩
  obtain ⟨R, hR⟩ : ∃ R, R = checkN ns := ⟨_, rfl⟩
  rw [← hR]
  rw [← hnn] at hc hn ⊢
  have HN := Lib.hid hnn
  have HL := Lib.hid hl
  have HR := Lib.hid hR
  clear hnn hl hR
  by_cases hg : 16 < n
  · have hgI : (16 : Int) < (n : Int) := by omega
    have HT : Hid (R = false) := Lib.hid (by rw [HR.out]; unfold checkN; rw [← HN.out, decide_eq_false (by omega), Bool.false_and])
    clear hg
    go_enter Tryd.func13, Tryd.ntmps13
    go_wp2
    go_ret
    exact ⟨by rw [HT.out]; rfl, rfl⟩
  · have hgI : ¬ (16 : Int) < (n : Int) := by omega
    have HR2 : Hid (R = chkG none ns) := Lib.hid (by rw [HR.out]; unfold checkN; rw [← HN.out, decide_eq_true (by omega), Bool.true_and])
    have hg2 : n ≤ 16 := by omega
    clear hg HR
    go_enter Tryd.func13, Tryd.ntmps13
    go_wp2
    go_loop [11] (fun i => ∃ k : Nat, k ≤ n ∧ i = .int .i64 (k : Int) ∧ R = chkG (prevN ns k) (ns.drop k)) (fun i => n - (intOf i).toNat)
    case atStart => exact ⟨0, Nat.zero_le _, rfl, HR2.out⟩
    case round =>
      obtain ⟨k, hk, rfl, hrun⟩ := hrel
      have HRUN := Lib.hid hrun
      clear hrun
      by_cases hlt : k < n
      · have hkl : k < ns.length := by rw [← HN.out]; exact hlt
        obtain ⟨b, o, rfl, _, hcell⟩ := HL.out.at hkl
        have hi0 : (0 : Int) ≤ (k : Int) := by omega
        have HNM := Lib.hid (fun W => name_any ns[k] W)
        cases k with
        | zero =>
          have HST := Lib.hid (chk_at0 hkl)
          obtain ⟨x, hx⟩ : ∃ x, x = ns[0] := ⟨_, rfl⟩
          rw [← hx] at hcell HNM HST
          rw [Nat.add_zero] at hcell
          clear hx hkl
          cases hnb : nameB (strL x) with
          | false =>
            rw [hnb] at HNM HST
            have HT : Hid (R = false) := Lib.hid (by rw [HRUN.out, HST.out, Bool.false_and])
            clear hnb
            go_wp2_with (go_at_call 10; (with_reducible refine (HNM.out _).mono ?_); rintro e w' ⟨rfl, rfl⟩)
            go_ret
            exact ⟨by rw [HT.out]; rfl, rfl⟩
          | true =>
            rw [hnb] at HNM HST
            have HT : Hid (R = chkG (prevN ns 1) (ns.drop 1)) := Lib.hid (by rw [HRUN.out, HST.out, Bool.true_and])
            clear hnb
            go_wp2_with (go_at_call 10; (with_reducible refine (HNM.out _).mono ?_); rintro e w' ⟨rfl, rfl⟩)
            go_round
            case rel => exact ⟨1, by omega, by go_num, HT.out⟩
            case measure => simp [intOf]; omega
        | succ j =>
          have HST := Lib.hid (chk_at1 hkl)
          have hcell2 : w.cell? ⟨b, o + j, none⟩ = some (.string ns[j]) := by
            obtain ⟨b', o', e, _, hc'⟩ := HL.out.at (show j < ns.length by omega)
            injection e with e; injection e with e1 e2
            subst e1; subst e2; exact hc'
          have hj0 : (0 : Int) ≤ (j : Int) := by omega
          have hj1 : (j : Int) < (n : Int) := by omega
          have hj2 : (0 : Int) < (j : Int) + 1 := by omega
          obtain ⟨x, hx⟩ : ∃ x, x = ns[j + 1] := ⟨_, rfl⟩
          obtain ⟨y, hy⟩ : ∃ x, x = ns[j]'(by omega) := ⟨_, rfl⟩
          rw [← hx] at hcell HNM HST
          rw [← hy] at hcell2 HST
          clear hx hkl hy
          cases hnb : nameB (strL x) with
          | false =>
            rw [hnb] at HNM HST
            have HT : Hid (R = false) := Lib.hid (by rw [HRUN.out, HST.out, Bool.false_and, Bool.false_and])
            clear hnb
            go_wp2_with (go_at_call 10; (with_reducible refine (HNM.out _).mono ?_); rintro e w' ⟨rfl, rfl⟩)
            go_ret
            exact ⟨by rw [HT.out]; rfl, rfl⟩
          | true =>
            rw [hnb] at HNM HST
            clear hnb
            cases hlx : ltS y x with
            | false =>
              have hb1 : Op.bytesLess y.toList x.toList = false := hlx
              have HT : Hid (R = false) := Lib.hid (by rw [HRUN.out, HST.out, hlx]; rfl)
              clear hlx
              go_wp2_with (go_at_call 10; (with_reducible refine (HNM.out _).mono ?_); rintro e w' ⟨rfl, rfl⟩)
              go_ret
              exact ⟨by rw [HT.out]; rfl, rfl⟩
            | true =>
              have hb1 : Op.bytesLess y.toList x.toList = true := hlx
              have HT : Hid (R = chkG (prevN ns (j + 2)) (ns.drop (j + 2))) := Lib.hid (by rw [HRUN.out, HST.out, hlx]; rfl)
              clear hlx
              go_wp2_with (go_at_call 10; (with_reducible refine (HNM.out _).mono ?_); rintro e w' ⟨rfl, rfl⟩)
              go_round
              case rel => exact ⟨j + 2, by omega, by go_num, HT.out⟩
              case measure => simp [intOf]; omega
      · obtain rfl : k = n := by omega
        have HT : Hid (R = true) := Lib.hid (by rw [HRUN.out, HN.out, List.drop_length, chkG])
        clear hlt
        go_wp2
        go_ret
        exact ⟨by rw [HT.out]; rfl, rfl⟩
end Go.Proofs.YtapalkipdmdceaaDoor
