/- JpClean, JpRight, JbRt: merged. -/
import Derived.Test.YtlcljphbldjieaaGreatDoorJo10
import Derived.Test.YtlcljphbldjieaaGreatDoorJo11
set_option linter.all false
namespace Go.Proofs.YtlcljphbldjieaaGreatDoor
open Go Go.RowKit
def utfS (s : ByteArray) : Bool := decide (badU (strL s) = (strL s).length)
set_option maxRecDepth 100000 in
set_option maxHeartbeats 1000000 in
theorem isUtfJ_any (s : ByteArray) (w : World) (hm : Marks w) (hs : s.size ≤ 1000000000) :
    Calls Tryz.prog 113 #[.string s] w fun e w' => e = .returned (.bool (utfS s)) ∧ Below w.heap.size w w' := by
  have HM := Lib.hid hm
  have hconv := fun (W : World) => Lib.run_convert_string_bytes (P := Tryz.prog) W 9 31 5 s Tryz.underlying9 Tryz.underlying31 Tryz.underlying5
  have HCK := Lib.hid (fun c : Nat => check_any _ (strL s) s.size c _ (hm.below (belowBytes w 5 s)) (length_strL s) (by omega) (strL_bd s) (liesBytes w 5 s))
  have HBB := Lib.hid (belowBytes w 5 s)
  clear hm
  by_cases hu : badU (strL s) = (strL s).length
  · have HR : Hid (utfS s = true) := Lib.hid (decide_eq_true hu)
    have HCK2 := Lib.hid (fun c => ((HCK.out c).mono (R' := fun e w' => e = .returned .nilIface ∧ Below w.heap.size w w') fun e w' ht => by
      rcases ht with ⟨_, h1, h2⟩ | ⟨h1, _⟩
      · exact ⟨h1, HBB.out.trans (h2.mono HBB.out.size)⟩
      · exact absurd hu h1))
    clear hu HCK
    go_enter Tryz.func113, Tryz.ntmps113
    go_wp2_with (go_at_call 157; refine (HCK2.out _).mono ?_; rintro e w1 ⟨rfl, hb⟩; have HF := Lib.hid hb; clear hb)
    go_ret
    rw [HR.out]; exact ⟨rfl, HF.out⟩
  · have HR : Hid (utfS s = false) := Lib.hid (decide_eq_false hu)
    have HCK2 := Lib.hid (fun c => ((HCK.out c).mono (R' := fun e w' => ∃ b, e = .returned (.iface 88 (.pointer (some ⟨b, 0, none⟩))) ∧ Below w.heap.size w w') fun e w' ht => by
      rcases ht with ⟨h1, _⟩ | ⟨_, b, h1, _, _, _, h2⟩
      · exact absurd h1 hu
      · exact ⟨b, h1, HBB.out.trans (h2.mono HBB.out.size)⟩))
    clear hu HCK
    go_enter Tryz.func113, Tryz.ntmps113
    go_wp2_with (go_at_call 157; refine (HCK2.out _).mono ?_; rintro e w1 ⟨b, rfl, hb⟩; have HF := Lib.hid hb; clear hb)
    go_ret
    rw [HR.out]; exact ⟨rfl, HF.out⟩
/-- Is all zero that the kind does not name? -/
def cleanF (kind n : Int) (s : ByteArray) (p q : Nat) : Bool :=
  (decide (kind = 1) || decide (kind = 2) || decide (n = 0)) && (decide (kind = 3) || decide (s = ⟨#[]⟩)) && (decide (kind = 5) || decide (kind = 4) || decide (p = 0)) && (decide (kind = 5) || decide (q = 0))
theorem cleanF_eq (kind n : Int) (s : ByteArray) (p q : Nat) : cleanF kind n s p q = ((decide (kind = 1) || decide (kind = 2) || decide (n = 0)) && (decide (kind = 3) || decide (s = ⟨#[]⟩)) && (decide (kind = 5) || decide (kind = 4) || decide (p = 0)) && (decide (kind = 5) || decide (q = 0))) := rfl
theorem str_full {a : ByteArray} (he : a ≠ ⟨#[]⟩) : (a.toList == []) = false ∧ ¬ a.toList = [] ∧ 0 < a.size := by
  have hpos : 0 < a.size := Nat.pos_of_ne_zero fun h0 => he (by
    cases a with | mk d => cases d with | mk l => cases l with | nil => rfl | cons x r => simp [ByteArray.size] at h0)
  have h2 : ¬ a.toList = [] := fun h => by
    have := notEmpty hpos
    rw [h] at this; cases this
  exact ⟨by rw [beq_eq_false_iff_ne]; exact h2, h2, hpos⟩
theorem below_set1 {B : Nat} {w w' : World} (h : Below B w w') (g o : Nat) (v : Value) (hg : B ≤ g) : Below B w (w'.setCell ⟨g, o, none⟩ v) := h.setCell (p := ⟨g, o, none⟩) hg _
set_option maxRecDepth 100000 in
set_option maxHeartbeats 4000000 in
theorem clean_any (kind n : Int) (s : ByteArray) (p q c d : Nat) (A K : Option Addr) (W : World) :
    Calls Tryz.prog 112 #[.agg #[.int .i64 kind, .int .i64 n, .string s, .slice A p c, .slice K q d]] W fun e w' => e = .returned (.bool (cleanF kind n s p q)) ∧ Below W.heap.size W w' := by
  have HB : Hid (∀ cs : Array Value, Below W.heap.size W (W.alloc (.cells cs 26))) := Lib.hid fun cs => (Below.refl _ _).alloc (Nat.le_refl _) _
  obtain ⟨R, hR⟩ : ∃ R, R = cleanF kind n s p q := ⟨_, rfl⟩
  have HRR := Lib.hid hR
  rw [← hR]
  clear hR
  by_cases h1 : kind = 1
  · subst h1
    by_cases hs : s = ⟨#[]⟩
    · subst hs; have es : ((⟨#[]⟩ : ByteArray).toList == []) = true := by rw [ByteArray.toList_eq]; rfl
      by_cases hp : p = 0
      · have ep : ((p : Int) == 0) = true := by rw [beq_iff_eq]; omega
        by_cases hq : q = 0
        · have eq' : ((q : Int) == 0) = true := by rw [beq_iff_eq]; omega
          have HR : Hid (R = true) := Lib.hid (by rw [HRR.out, cleanF_eq]; simp [hp, hq])
          go_enter Tryz.func112, Tryz.ntmps112
          go_wp2
          go_ret
          rw [HR.out]
          exact ⟨rfl, by first | exact HB.out _ | exact below_set1 (HB.out _) _ _ _ (Nat.le_refl _) | exact below_set1 (below_set1 (HB.out _) _ _ _ (Nat.le_refl _)) _ _ _ (Nat.le_refl _)⟩
        · have eq' : ((q : Int) == 0) = false := by rw [beq_eq_false_iff_ne]; omega
          have HR : Hid (R = false) := Lib.hid (by rw [HRR.out, cleanF_eq]; simp [hp, hq])
          go_enter Tryz.func112, Tryz.ntmps112
          go_wp2
          go_ret
          rw [HR.out]
          exact ⟨rfl, by first | exact HB.out _ | exact below_set1 (HB.out _) _ _ _ (Nat.le_refl _) | exact below_set1 (below_set1 (HB.out _) _ _ _ (Nat.le_refl _)) _ _ _ (Nat.le_refl _)⟩
      · have ep : ((p : Int) == 0) = false := by rw [beq_eq_false_iff_ne]; omega
        have HR : Hid (R = false) := Lib.hid (by rw [HRR.out, cleanF_eq]; simp [hp])
        go_enter Tryz.func112, Tryz.ntmps112
        go_wp2
        go_ret
        rw [HR.out]
        exact ⟨rfl, by first | exact HB.out _ | exact below_set1 (HB.out _) _ _ _ (Nat.le_refl _) | exact below_set1 (below_set1 (HB.out _) _ _ _ (Nat.le_refl _)) _ _ _ (Nat.le_refl _)⟩
    · obtain ⟨es, es2, es3⟩ := str_full hs
      have HR : Hid (R = false) := Lib.hid (by rw [HRR.out, cleanF_eq]; simp [hs])
      go_enter Tryz.func112, Tryz.ntmps112
      go_wp2
      go_ret
      rw [HR.out]
      exact ⟨rfl, by first | exact HB.out _ | exact below_set1 (HB.out _) _ _ _ (Nat.le_refl _) | exact below_set1 (below_set1 (HB.out _) _ _ _ (Nat.le_refl _)) _ _ _ (Nat.le_refl _)⟩
  · have g1 : (kind == 1) = false := by rw [beq_eq_false_iff_ne]; exact h1
    by_cases h2 : kind = 2
    · subst h2
      by_cases hs : s = ⟨#[]⟩
      · subst hs; have es : ((⟨#[]⟩ : ByteArray).toList == []) = true := by rw [ByteArray.toList_eq]; rfl
        by_cases hp : p = 0
        · have ep : ((p : Int) == 0) = true := by rw [beq_iff_eq]; omega
          by_cases hq : q = 0
          · have eq' : ((q : Int) == 0) = true := by rw [beq_iff_eq]; omega
            have HR : Hid (R = true) := Lib.hid (by rw [HRR.out, cleanF_eq]; simp [hp, hq])
            go_enter Tryz.func112, Tryz.ntmps112
            go_wp2
            go_ret
            rw [HR.out]
            exact ⟨rfl, by first | exact HB.out _ | exact below_set1 (HB.out _) _ _ _ (Nat.le_refl _) | exact below_set1 (below_set1 (HB.out _) _ _ _ (Nat.le_refl _)) _ _ _ (Nat.le_refl _)⟩
          · have eq' : ((q : Int) == 0) = false := by rw [beq_eq_false_iff_ne]; omega
            have HR : Hid (R = false) := Lib.hid (by rw [HRR.out, cleanF_eq]; simp [hp, hq])
            go_enter Tryz.func112, Tryz.ntmps112
            go_wp2
            go_ret
            rw [HR.out]
            exact ⟨rfl, by first | exact HB.out _ | exact below_set1 (HB.out _) _ _ _ (Nat.le_refl _) | exact below_set1 (below_set1 (HB.out _) _ _ _ (Nat.le_refl _)) _ _ _ (Nat.le_refl _)⟩
        · have ep : ((p : Int) == 0) = false := by rw [beq_eq_false_iff_ne]; omega
          have HR : Hid (R = false) := Lib.hid (by rw [HRR.out, cleanF_eq]; simp [hp])
          go_enter Tryz.func112, Tryz.ntmps112
          go_wp2
          go_ret
          rw [HR.out]
          exact ⟨rfl, by first | exact HB.out _ | exact below_set1 (HB.out _) _ _ _ (Nat.le_refl _) | exact below_set1 (below_set1 (HB.out _) _ _ _ (Nat.le_refl _)) _ _ _ (Nat.le_refl _)⟩
      · obtain ⟨es, es2, es3⟩ := str_full hs
        have HR : Hid (R = false) := Lib.hid (by rw [HRR.out, cleanF_eq]; simp [hs])
        go_enter Tryz.func112, Tryz.ntmps112
        go_wp2
        go_ret
        rw [HR.out]
        exact ⟨rfl, by first | exact HB.out _ | exact below_set1 (HB.out _) _ _ _ (Nat.le_refl _) | exact below_set1 (below_set1 (HB.out _) _ _ _ (Nat.le_refl _)) _ _ _ (Nat.le_refl _)⟩
    · have g2 : (kind == 2) = false := by rw [beq_eq_false_iff_ne]; exact h2
      by_cases h3 : kind = 3
      · subst h3
        by_cases hn : n = 0
        · subst hn; have en : ((0 : Int) == 0) = true := rfl
          by_cases hp : p = 0
          · have ep : ((p : Int) == 0) = true := by rw [beq_iff_eq]; omega
            by_cases hq : q = 0
            · have eq' : ((q : Int) == 0) = true := by rw [beq_iff_eq]; omega
              have HR : Hid (R = true) := Lib.hid (by rw [HRR.out, cleanF_eq]; simp [hp, hq])
              go_enter Tryz.func112, Tryz.ntmps112
              go_wp2
              go_ret
              rw [HR.out]
              exact ⟨rfl, by first | exact HB.out _ | exact below_set1 (HB.out _) _ _ _ (Nat.le_refl _) | exact below_set1 (below_set1 (HB.out _) _ _ _ (Nat.le_refl _)) _ _ _ (Nat.le_refl _)⟩
            · have eq' : ((q : Int) == 0) = false := by rw [beq_eq_false_iff_ne]; omega
              have HR : Hid (R = false) := Lib.hid (by rw [HRR.out, cleanF_eq]; simp [hp, hq])
              go_enter Tryz.func112, Tryz.ntmps112
              go_wp2
              go_ret
              rw [HR.out]
              exact ⟨rfl, by first | exact HB.out _ | exact below_set1 (HB.out _) _ _ _ (Nat.le_refl _) | exact below_set1 (below_set1 (HB.out _) _ _ _ (Nat.le_refl _)) _ _ _ (Nat.le_refl _)⟩
          · have ep : ((p : Int) == 0) = false := by rw [beq_eq_false_iff_ne]; omega
            have HR : Hid (R = false) := Lib.hid (by rw [HRR.out, cleanF_eq]; simp [hp])
            go_enter Tryz.func112, Tryz.ntmps112
            go_wp2
            go_ret
            rw [HR.out]
            exact ⟨rfl, by first | exact HB.out _ | exact below_set1 (HB.out _) _ _ _ (Nat.le_refl _) | exact below_set1 (below_set1 (HB.out _) _ _ _ (Nat.le_refl _)) _ _ _ (Nat.le_refl _)⟩
        · have en : (n == 0) = false := by rw [beq_eq_false_iff_ne]; exact hn
          have HR : Hid (R = false) := Lib.hid (by rw [HRR.out, cleanF_eq]; simp [hn])
          go_enter Tryz.func112, Tryz.ntmps112
          go_wp2
          go_ret
          rw [HR.out]
          exact ⟨rfl, by first | exact HB.out _ | exact below_set1 (HB.out _) _ _ _ (Nat.le_refl _) | exact below_set1 (below_set1 (HB.out _) _ _ _ (Nat.le_refl _)) _ _ _ (Nat.le_refl _)⟩
      · have g3 : (kind == 3) = false := by rw [beq_eq_false_iff_ne]; exact h3
        by_cases h5 : kind = 5
        · subst h5
          by_cases hn : n = 0
          · subst hn; have en : ((0 : Int) == 0) = true := rfl
            by_cases hs : s = ⟨#[]⟩
            · subst hs; have es : ((⟨#[]⟩ : ByteArray).toList == []) = true := by rw [ByteArray.toList_eq]; rfl
              have HR : Hid (R = true) := Lib.hid (by rw [HRR.out, cleanF_eq]; simp [])
              go_enter Tryz.func112, Tryz.ntmps112
              go_wp2
              go_ret
              rw [HR.out]
              exact ⟨rfl, by first | exact HB.out _ | exact below_set1 (HB.out _) _ _ _ (Nat.le_refl _) | exact below_set1 (below_set1 (HB.out _) _ _ _ (Nat.le_refl _)) _ _ _ (Nat.le_refl _)⟩
            · obtain ⟨es, es2, es3⟩ := str_full hs
              have HR : Hid (R = false) := Lib.hid (by rw [HRR.out, cleanF_eq]; simp [hs])
              go_enter Tryz.func112, Tryz.ntmps112
              go_wp2
              go_ret
              rw [HR.out]
              exact ⟨rfl, by first | exact HB.out _ | exact below_set1 (HB.out _) _ _ _ (Nat.le_refl _) | exact below_set1 (below_set1 (HB.out _) _ _ _ (Nat.le_refl _)) _ _ _ (Nat.le_refl _)⟩
          · have en : (n == 0) = false := by rw [beq_eq_false_iff_ne]; exact hn
            have HR : Hid (R = false) := Lib.hid (by rw [HRR.out, cleanF_eq]; simp [hn])
            go_enter Tryz.func112, Tryz.ntmps112
            go_wp2
            go_ret
            rw [HR.out]
            exact ⟨rfl, by first | exact HB.out _ | exact below_set1 (HB.out _) _ _ _ (Nat.le_refl _) | exact below_set1 (below_set1 (HB.out _) _ _ _ (Nat.le_refl _)) _ _ _ (Nat.le_refl _)⟩
        · have g5 : (kind == 5) = false := by rw [beq_eq_false_iff_ne]; exact h5
          by_cases h4 : kind = 4
          · subst h4
            by_cases hn : n = 0
            · subst hn; have en : ((0 : Int) == 0) = true := rfl
              by_cases hs : s = ⟨#[]⟩
              · subst hs; have es : ((⟨#[]⟩ : ByteArray).toList == []) = true := by rw [ByteArray.toList_eq]; rfl
                by_cases hq : q = 0
                · have eq' : ((q : Int) == 0) = true := by rw [beq_iff_eq]; omega
                  have HR : Hid (R = true) := Lib.hid (by rw [HRR.out, cleanF_eq]; simp [hq])
                  go_enter Tryz.func112, Tryz.ntmps112
                  go_wp2
                  go_ret
                  rw [HR.out]
                  exact ⟨rfl, by first | exact HB.out _ | exact below_set1 (HB.out _) _ _ _ (Nat.le_refl _) | exact below_set1 (below_set1 (HB.out _) _ _ _ (Nat.le_refl _)) _ _ _ (Nat.le_refl _)⟩
                · have eq' : ((q : Int) == 0) = false := by rw [beq_eq_false_iff_ne]; omega
                  have HR : Hid (R = false) := Lib.hid (by rw [HRR.out, cleanF_eq]; simp [hq])
                  go_enter Tryz.func112, Tryz.ntmps112
                  go_wp2
                  go_ret
                  rw [HR.out]
                  exact ⟨rfl, by first | exact HB.out _ | exact below_set1 (HB.out _) _ _ _ (Nat.le_refl _) | exact below_set1 (below_set1 (HB.out _) _ _ _ (Nat.le_refl _)) _ _ _ (Nat.le_refl _)⟩
              · obtain ⟨es, es2, es3⟩ := str_full hs
                have HR : Hid (R = false) := Lib.hid (by rw [HRR.out, cleanF_eq]; simp [hs])
                go_enter Tryz.func112, Tryz.ntmps112
                go_wp2
                go_ret
                rw [HR.out]
                exact ⟨rfl, by first | exact HB.out _ | exact below_set1 (HB.out _) _ _ _ (Nat.le_refl _) | exact below_set1 (below_set1 (HB.out _) _ _ _ (Nat.le_refl _)) _ _ _ (Nat.le_refl _)⟩
            · have en : (n == 0) = false := by rw [beq_eq_false_iff_ne]; exact hn
              have HR : Hid (R = false) := Lib.hid (by rw [HRR.out, cleanF_eq]; simp [hn])
              go_enter Tryz.func112, Tryz.ntmps112
              go_wp2
              go_ret
              rw [HR.out]
              exact ⟨rfl, by first | exact HB.out _ | exact below_set1 (HB.out _) _ _ _ (Nat.le_refl _) | exact below_set1 (below_set1 (HB.out _) _ _ _ (Nat.le_refl _)) _ _ _ (Nat.le_refl _)⟩
          · have g4 : (kind == 4) = false := by rw [beq_eq_false_iff_ne]; exact h4
            by_cases hn : n = 0
            · subst hn; have en : ((0 : Int) == 0) = true := rfl
              by_cases hs : s = ⟨#[]⟩
              · subst hs; have es : ((⟨#[]⟩ : ByteArray).toList == []) = true := by rw [ByteArray.toList_eq]; rfl
                by_cases hp : p = 0
                · have ep : ((p : Int) == 0) = true := by rw [beq_iff_eq]; omega
                  by_cases hq : q = 0
                  · have eq' : ((q : Int) == 0) = true := by rw [beq_iff_eq]; omega
                    have HR : Hid (R = true) := Lib.hid (by rw [HRR.out, cleanF_eq]; simp [h1, h2, h3, h5, h4, hp, hq])
                    go_enter Tryz.func112, Tryz.ntmps112
                    go_wp2
                    go_ret
                    rw [HR.out]
                    exact ⟨rfl, by first | exact HB.out _ | exact below_set1 (HB.out _) _ _ _ (Nat.le_refl _) | exact below_set1 (below_set1 (HB.out _) _ _ _ (Nat.le_refl _)) _ _ _ (Nat.le_refl _)⟩
                  · have eq' : ((q : Int) == 0) = false := by rw [beq_eq_false_iff_ne]; omega
                    have HR : Hid (R = false) := Lib.hid (by rw [HRR.out, cleanF_eq]; simp [h1, h2, h3, h5, h4, hp, hq])
                    go_enter Tryz.func112, Tryz.ntmps112
                    go_wp2
                    go_ret
                    rw [HR.out]
                    exact ⟨rfl, by first | exact HB.out _ | exact below_set1 (HB.out _) _ _ _ (Nat.le_refl _) | exact below_set1 (below_set1 (HB.out _) _ _ _ (Nat.le_refl _)) _ _ _ (Nat.le_refl _)⟩
                · have ep : ((p : Int) == 0) = false := by rw [beq_eq_false_iff_ne]; omega
                  have HR : Hid (R = false) := Lib.hid (by rw [HRR.out, cleanF_eq]; simp [h1, h2, h3, h5, h4, hp])
                  go_enter Tryz.func112, Tryz.ntmps112
                  go_wp2
                  go_ret
                  rw [HR.out]
                  exact ⟨rfl, by first | exact HB.out _ | exact below_set1 (HB.out _) _ _ _ (Nat.le_refl _) | exact below_set1 (below_set1 (HB.out _) _ _ _ (Nat.le_refl _)) _ _ _ (Nat.le_refl _)⟩
              · obtain ⟨es, es2, es3⟩ := str_full hs
                have HR : Hid (R = false) := Lib.hid (by rw [HRR.out, cleanF_eq]; simp [h1, h2, h3, h5, h4, hs])
                go_enter Tryz.func112, Tryz.ntmps112
                go_wp2
                go_ret
                rw [HR.out]
                exact ⟨rfl, by first | exact HB.out _ | exact below_set1 (HB.out _) _ _ _ (Nat.le_refl _) | exact below_set1 (below_set1 (HB.out _) _ _ _ (Nat.le_refl _)) _ _ _ (Nat.le_refl _)⟩
            · have en : (n == 0) = false := by rw [beq_eq_false_iff_ne]; exact hn
              have HR : Hid (R = false) := Lib.hid (by rw [HRR.out, cleanF_eq]; simp [h1, h2, h3, h5, h4, hn])
              go_enter Tryz.func112, Tryz.ntmps112
              go_wp2
              go_ret
              rw [HR.out]
              exact ⟨rfl, by first | exact HB.out _ | exact below_set1 (HB.out _) _ _ _ (Nat.le_refl _) | exact below_set1 (below_set1 (HB.out _) _ _ _ (Nat.le_refl _)) _ _ _ (Nat.le_refl _)⟩
end Go.Proofs.YtlcljphbldjieaaGreatDoor
namespace Go.Proofs.YtlcljphbldjieaaGreatDoor
open Go Go.RowKit
/-- Names: UTF-8, and rising. -/
def rnL : Option ByteArray → List ByteArray → Bool
  | _, [] => true
  | p, t :: r => utfS t && (match p with | none => true | some q => Op.bytesLess q.toList t.toList) && rnL (some t) r
theorem rnL_cons (p : Option ByteArray) (t : ByteArray) (r : List ByteArray) : rnL p (t :: r) = (utfS t && (match p with | none => true | some q => Op.bytesLess q.toList t.toList) && rnL (some t) r) := by cases p <;> rfl
def leafR (kind n : Int) (s : ByteArray) : Bool :=
  if kind = 0 then true else if kind = 1 then decide (n = 0) || decide (n = 1) else if kind = 2 then decide (-9007199254740991 ≤ n) && decide (n ≤ 9007199254740991) else if kind = 3 then utfS s else false
mutual
/-- Is a value right, and how many more there may be. -/
def rgt : J → Int → Int → Bool × Int
  | .mk kind n s l k, d, left =>
    if left - 1 < 0 ∨ cleanF kind n s l.length k.length = false then (false, left - 1)
    else if kind = 5 ∧ (k.length ≠ l.length ∨ rnL none k = false) then (false, left - 1)
    else if kind = 4 ∨ kind = 5 then (if d ≤ 8 then rgtLs l (d + 1) (left - 1) else (false, left - 1))
    else (leafR kind n s, left - 1)
def rgtLs : List J → Int → Int → Bool × Int
  | [], _, left => (true, left)
  | x :: r, d, left => if (rgt x d left).1 = true then rgtLs r d (rgt x d left).2 else (false, (rgt x d left).2)
end
/-- No text or name of it is immense. -/
inductive Mild : J → Prop
  | mk (kind n : Int) (s : ByteArray) (l : List J) (k : List ByteArray) : s.size ≤ 1000000000 → (∀ t ∈ k, t.size ≤ 1000000000) → (∀ x ∈ l, Mild x) → Mild (.mk kind n s l k)
/-- What is asked of right. -/
def RPost (W0 : World) (cb : Nat) (r : Bool × Int) (e : Ending) (w' : World) : Prop :=
  e = .returned (.bool r.1) ∧ Below W0.heap.size W0 w' ∧ (r.1 = true → Blk w' cb 98 [.int .i64 (256 - r.2)] ∧ 0 ≤ r.2 ∧ r.2 ≤ 256)
def RAsk (j : J) : Prop := ∀ (d left : Int) (W0 w : World) (v : Value) (cb : Nat), RepJ W0 j v → Below W0.heap.size W0 w → W0.heap.size ≤ cb → Blk w cb 98 [.int .i64 (256 - left)] → 0 ≤ left → left ≤ 256 → 1 ≤ d → d ≤ 9 → Marks W0 →
  Calls Tryz.prog 56 #[.pointer (some ⟨cb, 0, none⟩), v, .int .i64 d] w (RPost W0 cb (rgt j d left))
set_option maxRecDepth 100000 in
set_option maxHeartbeats 2000000 in
theorem rightNames_any (ks : List ByteArray) (hsz : ∀ t ∈ ks, t.size ≤ 1000000000) (v : Value) (w : World) (h : RepK w ks v) (hm : Marks w) :
    Calls Tryz.prog 114 #[v] w fun e w' => e = .returned (.bool (rnL none ks)) ∧ Below w.heap.size w w' := by
  obtain ⟨K, c, rfl, hl, hc⟩ := h.open
  have HC := Lib.hid hc
  have HSZ := Lib.hid hsz
  have HM := Lib.hid hm
  obtain ⟨n, hn⟩ : ∃ n, n = ks.length := ⟨_, rfl⟩
  rw [← hn] at hl ⊢
  have HN := Lib.hid hn
  clear h hc hsz hm hn
  go_enter Tryz.func114, Tryz.ntmps114
  go_wp2
  go_loopw [7] (fun v wr => ∃ k : Nat, k ≤ n ∧ v = .int .i64 (k : Int) ∧ rnL none ks = rnL (if k = 0 then none else ks[k - 1]?) (ks.drop k) ∧ Below w.heap.size w wr) (fun v _ => n - (intOf v).toNat)
  case atStart => exact ⟨0, Nat.zero_le _, rfl, rfl, Below.refl _ _⟩
  case round =>
    obtain ⟨k, hk, rfl, hrun, hbel⟩ := hrel
    have HRUN := Lib.hid hrun
    have HBE := Lib.hid hbel
    clear hrun
    by_cases hlt : k < n
    · have hkl : k < ks.length := by rw [← HN.out]; exact hlt
      obtain ⟨b, o, rfl, hb, _, hcell⟩ := HC.out k hkl
      have q0 := (hbel.cell (p := ⟨b, o + k, none⟩) hb).trans hcell
      have hdr : ks.drop k = ks[k] :: ks.drop (k + 1) := List.drop_eq_getElem_cons hkl
      have hUT := isUtfJ_any ks[k] wr (HM.out.below hbel) (HSZ.out _ (List.getElem_mem hkl))
      have hnx : (if k + 1 = 0 then none else ks[k + 1 - 1]?) = some ks[k] := by rw [if_neg (by omega), Nat.add_sub_cancel]; exact List.getElem?_eq_getElem hkl
      have hi0 : (0 : Int) ≤ (k : Int) := by omega
      have hi1 : (k : Int) < (n : Int) := by omega
      have hprev : 0 < k → ∃ p, ks[k - 1]? = some p ∧ ∀ W', Below w.heap.size w W' → W'.cell? ⟨b, o + (k - 1), none⟩ = some (.string p) := fun h0 => by
        obtain ⟨b', o', e', hb', _, hcell'⟩ := HC.out (k - 1) (by omega)
        injection e' with e'
        injection e' with e1 e2
        subst e1; subst e2
        exact ⟨_, List.getElem?_eq_getElem (by omega), fun W' hW => (hW.cell (p := ⟨b, o + (k - 1), none⟩) hb').trans hcell'⟩
      obtain ⟨t, ht⟩ : ∃ t, t = ks[k] := ⟨_, rfl⟩
      rw [← ht] at q0 hdr hUT hnx
      have HRN := Lib.hid hnx
      have HD := Lib.hid hdr
      clear hcell hdr hnx ht
      cases hu : utfS t with
      | false =>
        have HR : Hid (rnL none ks = false) := Lib.hid (by rw [HRUN.out, HD.out, rnL_cons, hu]; simp)
        rw [hu] at hUT
        have HUT := Lib.hid hUT
        clear hu hUT hprev
        go_wp2_with (go_at_call 113; (with_reducible refine HUT.out.mono ?_); rintro e w1 ⟨rfl, hb1⟩; have HB1 := Lib.hid (HBE.out.trans (hb1.mono HBE.out.size)); clear hb1)
        go_ret
        rw [HR.out]; exact ⟨rfl, HB1.out⟩
      | true =>
        rw [hu] at hUT
        have HUT := Lib.hid hUT
        by_cases hk0 : k = 0
        · have HR : Hid (rnL none ks = rnL (if k + 1 = 0 then none else ks[k + 1 - 1]?) (ks.drop (k + 1))) := Lib.hid (by rw [HRUN.out, HD.out, rnL_cons, hu, HRN.out, if_pos hk0]; simp)
          have hgz : ¬ (0 : Int) < (k : Int) := by omega
          clear hu hUT hprev hk0
          go_wp2_with (go_at_call 113; (with_reducible refine HUT.out.mono ?_); rintro e w1 ⟨rfl, hb1⟩; have HB1 := Lib.hid (HBE.out.trans (hb1.mono HBE.out.size)); clear hb1)
          go_roundw
          case rel => exact ⟨k + 1, by omega, by go_num, HR.out, HB1.out⟩
          case measure => simp [intOf]; omega
        · obtain ⟨p, hp, hpc⟩ := hprev (by omega)
          have HPC := Lib.hid hpc
          have hgz : (0 : Int) < (k : Int) := by omega
          have wk : IntKind.i64.wrap ((k : Int) - 1) = ((k - 1 : Nat) : Int) := by rw [IntKind.wrap_i64]; omega
          have hk1 : (0 : Int) ≤ ((k - 1 : Nat) : Int) := by omega
          have hk2 : ((k - 1 : Nat) : Int) < (n : Int) := by omega
          cases hl2 : Op.bytesLess p.toList t.toList with
          | true =>
            have HR : Hid (rnL none ks = rnL (if k + 1 = 0 then none else ks[k + 1 - 1]?) (ks.drop (k + 1))) := Lib.hid (by rw [HRUN.out, HD.out, rnL_cons, hu, HRN.out, if_neg hk0, hp]; simp [hl2])
            clear hu hUT hp hpc
            go_wp2_with (go_at_call 113; (with_reducible refine HUT.out.mono ?_); rintro e w1 ⟨rfl, hb1⟩; have HB1 := Lib.hid (HBE.out.trans (hb1.mono HBE.out.size)); have q1 := HPC.out _ HB1.out; clear hb1)
            go_roundw
            case rel => exact ⟨k + 1, by omega, by go_num, HR.out, HB1.out⟩
            case measure => simp [intOf]; omega
          | false =>
            have HR : Hid (rnL none ks = false) := Lib.hid (by rw [HRUN.out, HD.out, rnL_cons, hu, if_neg hk0, hp]; simp [hl2])
            clear hu hUT hp hpc
            go_wp2_with (go_at_call 113; (with_reducible refine HUT.out.mono ?_); rintro e w1 ⟨rfl, hb1⟩; have HB1 := Lib.hid (HBE.out.trans (hb1.mono HBE.out.size)); have q1 := HPC.out _ HB1.out; clear hb1)
            go_ret
            rw [HR.out]; exact ⟨rfl, HB1.out⟩
    · obtain rfl : k = n := by omega
      have HR : Hid (rnL none ks = true) := Lib.hid (by rw [HRUN.out, List.drop_of_length_le (by rw [← HN.out]; exact Nat.le_refl _)]; simp [rnL])
      have hi1 : ¬ (k : Int) < (k : Int) := by omega
      clear hlt hbel
      go_wp2
      go_ret
      rw [HR.out]
      exact ⟨rfl, HBE.out⟩
set_option maxRecDepth 100000 in
set_option maxHeartbeats 2000000 in
theorem allRight_any (l : List J) (ih : ∀ x ∈ l, RAsk x) (d left : Int) (W0 w : World) (A : Option Addr) (c cb : Nat) (hc : l ≠ [] → ∃ b o, A = some ⟨b, o, none⟩ ∧ b < W0.heap.size ∧ RepC W0 b o l) (hl : l.length ≤ 9223372036854775807) (hb : Below W0.heap.size W0 w) (hcb : W0.heap.size ≤ cb) (hcc : Blk w cb 98 [.int .i64 (256 - left)])
    (h0 : 0 ≤ left) (h1 : left ≤ 256) (d1 : 1 ≤ d) (d9 : d ≤ 9) (hm : Marks W0) :
    Calls Tryz.prog 115 #[.pointer (some ⟨cb, 0, none⟩), .slice A l.length c, .int .i64 d] w (RPost W0 cb (rgtLs l d left)) := by
  have HC := Lib.hid hc
  have HIH := Lib.hid ih
  have HM := Lib.hid hm
  have HB := Lib.hid hb
  have HCC := Lib.hid hcc
  obtain ⟨n, hn⟩ : ∃ n, n = l.length := ⟨_, rfl⟩
  rw [← hn] at hl ⊢
  have HN := Lib.hid hn
  clear hc ih hm hb hcc hn
  go_enter Tryz.func115, Tryz.ntmps115
  go_wp2
  go_loopw [11] (fun v wr => ∃ (k : Nat) (lf : Int), k ≤ n ∧ v = .int .i64 (k : Int) ∧ rgtLs l d left = rgtLs (l.drop k) d lf ∧ 0 ≤ lf ∧ lf ≤ 256 ∧ Blk wr cb 98 [.int .i64 (256 - lf)] ∧ Below W0.heap.size W0 wr) (fun v _ => n - (intOf v).toNat)
  case atStart => exact ⟨0, left, Nat.zero_le _, rfl, rfl, h0, h1, HCC.out, HB.out⟩
  case round =>
    obtain ⟨k, lf, hk, rfl, hrun, l0, l1, hblk, hbel⟩ := hrel
    have HRUN := Lib.hid hrun
    have HBE := Lib.hid hbel
    have HBK := Lib.hid hblk
    clear hrun hblk
    by_cases hlt : k < n
    · have hkl : k < l.length := by rw [← HN.out]; exact hlt
      obtain ⟨g, o, rfl, hg, hrep⟩ := HC.out (fun e => by rw [e] at hkl; exact absurd hkl (Nat.not_lt_zero _))
      obtain ⟨v1, hr1, hf1⟩ := hrep.at k hkl
      have hdr : l.drop k = l[k] :: l.drop (k + 1) := List.drop_eq_getElem_cons hkl
      have HRA := Lib.hid (HIH.out l[k] (List.getElem_mem hkl))
      obtain ⟨A1, x3, c1, K1, x4, e1, rfl, z0, z1, z2, z3, z4⟩ := hr1.cells hf1
      have z0' := (hbel.cell (p := ⟨g, o + k * 5, none⟩) hg).trans z0
      have z1' := (hbel.cell (p := ⟨g, o + k * 5 + 1, none⟩) hg).trans z1
      have z2' := (hbel.cell (p := ⟨g, o + k * 5 + 2, none⟩) hg).trans z2
      have z3' := (hbel.cell (p := ⟨g, o + k * 5 + 3, none⟩) hg).trans z3
      have z4' := (hbel.cell (p := ⟨g, o + k * 5 + 4, none⟩) hg).trans z4
      obtain ⟨X, hX⟩ : ∃ X, X = l[k] := ⟨_, rfl⟩
      rw [← hX] at hdr HRA hr1 z0' z1' z2'
      obtain ⟨x0, hx0⟩ : ∃ x, x = X.kind := ⟨_, rfl⟩
      obtain ⟨x1, hx1⟩ : ∃ x, x = X.n := ⟨_, rfl⟩
      obtain ⟨x2, hx2⟩ : ∃ x, x = X.s := ⟨_, rfl⟩
      rw [← hx0, ← hx1, ← hx2] at hr1
      rw [← hx0] at z0'
      rw [← hx1] at z1'
      rw [← hx2] at z2'
      have HCALL := Lib.hid (HRA.out d lf W0 (wr.alloc (.cells #[.int .i64 x0, .int .i64 x1, .string x2, .slice A1 x3 c1, .slice K1 x4 e1] 26)) _ cb hr1 (hbel.alloc hbel.size _) hcb (HBK.out.grownN (World.grownBy_alloc _ _ none)) l0 l1 d1 d9 HM.out)
      have HST : Hid (rgtLs l d left = if (rgt X d lf).1 = true then rgtLs (l.drop (k + 1)) d (rgt X d lf).2 else (false, (rgt X d lf).2)) := Lib.hid (by rw [HRUN.out, hdr, rgtLs])
      obtain ⟨r, hr⟩ : ∃ r, r = rgt X d lf := ⟨_, rfl⟩
      rw [← hr] at HCALL HST
      have hi0 : (0 : Int) ≤ (k : Int) := by omega
      have hi1 : (k : Int) < (n : Int) := by omega
      clear hrep hr1 hf1 z0 z1 z2 z3 z4 hx0 hx1 hx2 hX hdr hr hbel HRA
      obtain ⟨ok, lf2⟩ := r
      cases ok with
      | true =>
        have HR : Hid (rgtLs l d left = rgtLs (l.drop (k + 1)) d lf2) := Lib.hid (HST.out.trans (if_pos rfl))
        go_wp2_with (go_at_call 56; (with_reducible refine HCALL.out.mono ?_); rintro e w1 ⟨rfl, hb1, hq1⟩; have HB1 := Lib.hid hb1; have HQ1 := Lib.hid (hq1 rfl); clear hb1 hq1)
        go_roundw
        case rel => exact ⟨k + 1, lf2, by omega, by go_num, HR.out, HQ1.out.2.1, HQ1.out.2.2, HQ1.out.1, HB1.out⟩
        case measure => simp [intOf]; omega
      | false =>
        have HR : Hid (rgtLs l d left = (false, lf2)) := Lib.hid (HST.out.trans (if_neg (by simp)))
        go_wp2_with (go_at_call 56; (with_reducible refine HCALL.out.mono ?_); rintro e w1 ⟨rfl, hb1, hq1⟩; have HB1 := Lib.hid hb1; clear hb1 hq1)
        go_ret
        rw [HR.out]; exact ⟨rfl, HB1.out, fun h => by cases h⟩
    · obtain rfl : k = n := by omega
      have HR : Hid (rgtLs l d left = (true, lf)) := Lib.hid (by rw [HRUN.out, List.drop_of_length_le (by rw [← HN.out]; exact Nat.le_refl _), rgtLs])
      have hi1 : ¬ (k : Int) < (k : Int) := by omega
      clear hlt hbel
      go_wp2
      go_ret
      rw [HR.out]
      exact ⟨rfl, HBE.out, fun _ => ⟨HBK.out, l0, l1⟩⟩
end Go.Proofs.YtlcljphbldjieaaGreatDoor
namespace Go.Proofs.YtlcljphbldjieaaGreatDoor
open Go
/-- Right, whatever its size and depth. -/
inductive Rt : J → Prop
  | mk (kind n : Int) (s : ByteArray) (l : List J) (k : List ByteArray) : cleanF kind n s l.length k.length = true → (kind = 5 → k.length = l.length ∧ rnL none k = true) → (kind = 4 ∨ kind = 5 ∨ leafR kind n s = true) → (∀ x ∈ l, Rt x) → Rt (.mk kind n s l k)
mutual
/-- How many values it is. -/
def szJ : J → Nat
  | .mk _ _ _ l _ => 1 + szLs l
def szLs : List J → Nat
  | [] => 0
  | x :: r => szJ x + szLs r
end
mutual
/-- How many lists and objects stand in one another. -/
def dpJ : J → Nat
  | .mk kind _ _ l _ => if kind = 4 ∨ kind = 5 then 1 + dpLs l else 0
def dpLs : List J → Nat
  | [] => 0
  | x :: r => max (dpJ x) (dpLs r)
end
theorem dpLs_le {d : Nat} : ∀ (l : List J), dpLs l ≤ d ↔ ∀ x ∈ l, dpJ x ≤ d
  | [] => by rw [dpLs]; simp
  | x :: r => by
    rw [dpLs, Nat.max_le, dpLs_le r]
    simp
theorem szLs_perm {a b : List J} (h : a.Perm b) : szLs a = szLs b := by
  induction h with
  | nil => rfl
  | cons x _ ih => rw [szLs, szLs, ih]
  | swap x y l => rw [szLs, szLs, szLs, szLs]; omega
  | trans _ _ h1 h2 => rw [h1, h2]
theorem szJ_pos (j : J) : 1 ≤ szJ j := by cases j; rw [szJ]; omega
theorem leaf_kind {kind n : Int} {s : ByteArray} (h : leafR kind n s = true) : kind = 0 ∨ kind = 1 ∨ kind = 2 ∨ kind = 3 := by
  unfold leafR at h
  by_cases h0 : kind = 0
  · exact .inl h0
  by_cases h1 : kind = 1
  · exact .inr (.inl h1)
  by_cases h2 : kind = 2
  · exact .inr (.inr (.inl h2))
  by_cases h3 : kind = 3
  · exact .inr (.inr (.inr h3))
  rw [if_neg h0, if_neg h1, if_neg h2, if_neg h3] at h
  cases h
theorem clean_l {kind n : Int} {s : ByteArray} {p q : Nat} (h : cleanF kind n s p q = true) (h4 : kind ≠ 4) (h5 : kind ≠ 5) : p = 0 ∧ q = 0 := by
  rw [cleanF_eq] at h
  simp only [Bool.and_eq_true, Bool.or_eq_true, decide_eq_true_eq] at h
  omega
theorem clean_q {kind n : Int} {s : ByteArray} {p q : Nat} (h : cleanF kind n s p q = true) (h5 : kind ≠ 5) : q = 0 := by
  rw [cleanF_eq] at h
  simp only [Bool.and_eq_true, Bool.or_eq_true, decide_eq_true_eq] at h
  omega
theorem clean_s {kind n : Int} {s : ByteArray} {p q : Nat} (h : cleanF kind n s p q = true) (h3 : kind ≠ 3) : s = ⟨#[]⟩ := by
  rw [cleanF_eq] at h
  simp only [Bool.and_eq_true, Bool.or_eq_true, decide_eq_true_eq] at h
  rcases h.1.1.2 with h | h
  · exact absurd h h3
  · exact h
theorem clean_n {kind n : Int} {s : ByteArray} {p q : Nat} (h : cleanF kind n s p q = true) (h1 : kind ≠ 1) (h2 : kind ≠ 2) : n = 0 := by
  rw [cleanF_eq] at h
  simp only [Bool.and_eq_true, Bool.or_eq_true, decide_eq_true_eq] at h
  omega
/-- What right tells: right, not too many, not too deep. -/
theorem rgt_iff (j : J) : ∀ (d left : Int), 1 ≤ d → d ≤ 9 → 0 ≤ left → ((rgt j d left).1 = true ↔ Rt j ∧ (szJ j : Int) ≤ left ∧ d - 1 + (dpJ j : Int) ≤ 8) ∧ ((rgt j d left).1 = true → (rgt j d left).2 = left - (szJ j : Int)) := by
  induction j using J.ind with
  | h kind n s l k ih =>
    intro d left d1 d9 h0
    have key : ∀ (l : List J), (∀ x ∈ l, ∀ (d left : Int), 1 ≤ d → d ≤ 9 → 0 ≤ left → ((rgt x d left).1 = true ↔ Rt x ∧ (szJ x : Int) ≤ left ∧ d - 1 + (dpJ x : Int) ≤ 8) ∧ ((rgt x d left).1 = true → (rgt x d left).2 = left - (szJ x : Int))) →
        ∀ (d left : Int), 1 ≤ d → d ≤ 9 → 0 ≤ left → ((rgtLs l d left).1 = true ↔ (∀ x ∈ l, Rt x) ∧ (szLs l : Int) ≤ left ∧ d - 1 + (dpLs l : Int) ≤ 8) ∧ ((rgtLs l d left).1 = true → (rgtLs l d left).2 = left - (szLs l : Int)) := fun l => by
      induction l with
      | nil =>
        intro _ d left d1 d9 h0
        rw [rgtLs, szLs, dpLs]
        refine ⟨⟨fun _ => ⟨fun x hx => (by cases hx), by simpa using h0, by simp; omega⟩, fun _ => rfl⟩, fun _ => by simp⟩
      | cons x r ihr =>
        intro ih d left d1 d9 h0
        obtain ⟨i1, i2⟩ := ih x (by simp) d left d1 d9 h0
        rw [rgtLs, szLs, dpLs]
        cases hb : (rgt x d left).1 with
        | false =>
          rw [if_neg (by simp)]
          rw [hb] at i1
          refine ⟨⟨fun h => (by cases h), fun ⟨h1, h2, h3⟩ => ?_⟩, fun h => (by cases h)⟩
          exact i1.2 ⟨h1 x (by simp), by omega, by omega⟩
        | true =>
          rw [if_pos rfl]
          obtain ⟨e1, e2, e3⟩ := i1.1 hb
          have e4 := i2 hb
          rw [e4]
          obtain ⟨r1, r2⟩ := ihr (fun y hy => ih y (List.mem_cons_of_mem _ hy)) d (left - szJ x) d1 d9 (by omega)
          refine ⟨⟨fun h => ?_, fun ⟨h1, h2, h3⟩ => ?_⟩, fun h => by rw [r2 h]; omega⟩
          · obtain ⟨g1, g2, g3⟩ := r1.1 h
            refine ⟨fun y hy => ?_, by omega, by omega⟩
            rcases List.mem_cons.1 hy with rfl | hy
            · exact e1
            · exact g1 y hy
          · exact r1.2 ⟨fun y hy => h1 y (List.mem_cons_of_mem _ hy), by omega, by omega⟩
    rw [rgt, szJ, dpJ]
    by_cases c1 : left - 1 < 0 ∨ cleanF kind n s l.length k.length = false
    · rw [if_pos c1]
      refine ⟨⟨fun h => (by cases h), fun ⟨h1, h2, h3⟩ => ?_⟩, fun h => by cases h⟩
      rcases c1 with c1 | c1
      · omega
      · cases h1 with | mk _ _ _ _ _ a1 a2 a3 a4 => rw [c1] at a1; cases a1
    rw [if_neg c1]
    have hcl : cleanF kind n s l.length k.length = true := by
      cases h : cleanF kind n s l.length k.length with
      | true => rfl
      | false => exact absurd (.inr h) c1
    by_cases c2 : kind = 5 ∧ (k.length ≠ l.length ∨ rnL none k = false)
    · rw [if_pos c2]
      refine ⟨⟨fun h => (by cases h), fun ⟨h1, h2, h3⟩ => ?_⟩, fun h => by cases h⟩
      cases h1 with
      | mk _ _ _ _ _ a1 a2 a3 a4 =>
        obtain ⟨b1, b2⟩ := a2 c2.1
        rcases c2.2 with c | c
        · exact absurd b1 c
        · rw [b2] at c; cases c
    rw [if_neg c2]
    have h5 : kind = 5 → k.length = l.length ∧ rnL none k = true := fun h => by
      refine ⟨Decidable.byContradiction fun hn => c2 ⟨h, .inl hn⟩, ?_⟩
      cases hr : rnL none k with
      | true => rfl
      | false => exact absurd ⟨h, .inr hr⟩ c2
    by_cases c3 : kind = 4 ∨ kind = 5
    · rw [if_pos c3, if_pos c3]
      by_cases c4 : d ≤ 8
      · rw [if_pos c4]
        obtain ⟨r1, r2⟩ := key l ih (d + 1) (left - 1) (by omega) (by omega) (by omega)
        refine ⟨⟨fun h => ?_, fun ⟨h1, h2, h3⟩ => ?_⟩, fun h => by rw [r2 h]; omega⟩
        · obtain ⟨g1, g2, g3⟩ := r1.1 h
          exact ⟨.mk kind n s l k hcl h5 (c3.imp_right .inl) g1, by omega, by omega⟩
        · cases h1 with | mk _ _ _ _ _ a1 a2 a3 a4 => exact r1.2 ⟨a4, by omega, by omega⟩
      · rw [if_neg c4]
        refine ⟨⟨fun h => (by cases h), fun ⟨h1, h2, h3⟩ => ?_⟩, fun h => by cases h⟩
        omega
    · rw [if_neg c3, if_neg c3]
      have hlq := clean_l hcl (fun h => c3 (.inl h)) (fun h => c3 (.inr h))
      have hl0 : l = [] := List.eq_nil_of_length_eq_zero hlq.1
      subst hl0
      rw [szLs]
      refine ⟨⟨fun h => ⟨.mk kind n s [] k hcl h5 (.inr (.inr h)) (fun x hx => (by cases hx)), by omega, by omega⟩, fun ⟨h1, h2, h3⟩ => ?_⟩, fun _ => by simp⟩
      cases h1 with
      | mk _ _ _ _ _ a1 a2 a3 a4 =>
        rcases a3 with a | a | a
        · exact absurd (.inl a) c3
        · exact absurd (.inr a) c3
        · exact a
/-- A right value, and no more. -/
theorem right_iff (j : J) : (rgt j 1 256).1 = true ↔ Rt j ∧ szJ j ≤ 256 ∧ dpJ j ≤ 8 := by
  rw [(rgt_iff j 1 256 (by decide) (by decide) (by decide)).1]
  constructor
  · rintro ⟨a, b, c⟩; exact ⟨a, by omega, by omega⟩
  · rintro ⟨a, b, c⟩; exact ⟨a, by omega, by omega⟩
end Go.Proofs.YtlcljphbldjieaaGreatDoor
