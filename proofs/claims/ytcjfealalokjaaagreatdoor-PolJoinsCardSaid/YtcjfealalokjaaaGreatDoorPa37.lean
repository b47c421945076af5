/- PolSameM, PolSmE, PolSmR, PolRfS: merged. -/
import Derived.Test.YtcjfealalokjaaaGreatDoorPa19
import Derived.Test.YtcjfealalokjaaaGreatDoorPa35
set_option linter.all false
namespace Go.Proofs.YtcjfealalokjaaaGreatDoor
open Go Go.RowKit
mutual
/-- The same expression (places too, if pl). -/
def sameE (pl : Bool) : Ex → Ex → Bool
  | .mk o1 s1 n1 l1 p1, .mk o2 s2 n2 l2 p2 => decide (o1 = o2) && decide (s1 = s2) && decide (n1 = n2) && (!pl || decide (p1 = p2)) && sameEs pl l1 l2
def sameEs (pl : Bool) : List Ex → List Ex → Bool
  | [], [] => true
  | x :: r, y :: t => sameE pl x y && sameEs pl r t
  | _, _ => false
end
theorem sameE_of (pl : Bool) (a b : Ex) : sameE pl a b = (decide (a.op = b.op) && decide (a.text = b.text) && decide (a.num = b.num) && (!pl || decide (a.pos = b.pos)) && sameEs pl a.parts b.parts) := by
  cases a; cases b; rfl
theorem sameE_iff {pl : Bool} {a b : Ex} : sameE pl a b = true ↔ a.op = b.op ∧ a.text = b.text ∧ a.num = b.num ∧ (pl = true → a.pos = b.pos) ∧ sameEs pl a.parts b.parts = true := by
  rw [sameE_of]
  cases pl <;> simp [and_assoc]
theorem sameEs_iff {pl : Bool} : ∀ {l m : List Ex}, sameEs pl l m = true ↔ l.length = m.length ∧ ∀ i (h1 : i < l.length) (h2 : i < m.length), sameE pl l[i] m[i] = true
  | [], [] => by simp [sameEs]
  | [], _ :: _ => by simp [sameEs]
  | _ :: _, [] => by simp [sameEs]
  | x :: r, y :: t => by
    rw [sameEs, Bool.and_eq_true, sameEs_iff (l := r) (m := t)]
    constructor
    · rintro ⟨h1, h2, h3⟩
      refine ⟨by simp [h2], fun i hi1 hi2 => ?_⟩
      cases i with
      | zero => exact h1
      | succ i => exact h3 i (by simpa using hi1) (by simpa using hi2)
    · rintro ⟨h1, h2⟩
      exact ⟨h2 0 (by simp) (by simp), by simpa using h1, fun i hi1 hi2 => h2 (i + 1) (by simpa using hi1) (by simpa using hi2)⟩
/-- The same rule. -/
def sameR (pl : Bool) (a b : RuleM) : Bool := decide (a.deny = b.deny) && (!pl || decide (a.pos = b.pos)) && decide (a.scopes = b.scopes) && sameEs pl a.whens b.whens
theorem sameR_iff {pl : Bool} {a b : RuleM} : sameR pl a b = true ↔ a.deny = b.deny ∧ (pl = true → a.pos = b.pos) ∧ a.scopes = b.scopes ∧ sameEs pl a.whens b.whens = true := by
  unfold sameR
  cases pl <;> simp [and_assoc]
def sameRs (pl : Bool) : List RuleM → List RuleM → Bool
  | [], [] => true
  | x :: r, y :: t => sameR pl x y && sameRs pl r t
  | _, _ => false
theorem sameRs_iff {pl : Bool} : ∀ {l m : List RuleM}, sameRs pl l m = true ↔ l.length = m.length ∧ ∀ i (h1 : i < l.length) (h2 : i < m.length), sameR pl l[i] m[i] = true
  | [], [] => by simp [sameRs]
  | [], _ :: _ => by simp [sameRs]
  | _ :: _, [] => by simp [sameRs]
  | x :: r, y :: t => by
    rw [sameRs, Bool.and_eq_true, sameRs_iff (l := r) (m := t)]
    constructor
    · rintro ⟨h1, h2, h3⟩
      refine ⟨by simp [h2], fun i hi1 hi2 => ?_⟩
      cases i with
      | zero => exact h1
      | succ i => exact h3 i (by simpa using hi1) (by simpa using hi2)
    · rintro ⟨h1, h2⟩
      exact ⟨h2 0 (by simp) (by simp), by simpa using h1, fun i hi1 hi2 => h2 (i + 1) (by simpa using hi1) (by simpa using hi2)⟩
theorem sameE_refl (pl : Bool) : ∀ e : Ex, sameE pl e e = true := fun e => by
  induction e using Ex.ind with
  | h op s n l p ih =>
    rw [sameE_iff]
    exact ⟨rfl, rfl, rfl, fun _ => rfl, sameEs_iff.2 ⟨rfl, fun i h1 _ => ih _ (List.getElem_mem h1)⟩⟩
theorem sameEs_refl (pl : Bool) (l : List Ex) : sameEs pl l l = true := sameEs_iff.2 ⟨rfl, fun i h1 _ => sameE_refl pl _⟩
theorem sameRs_refl (pl : Bool) (l : List RuleM) : sameRs pl l l = true := sameRs_iff.2 ⟨rfl, fun i h1 _ => sameR_iff.2 ⟨rfl, fun _ => rfl, rfl, sameEs_refl pl _⟩⟩
/-! ### Without places -/
mutual
def plainE : Ex → Ex
  | .mk op s n l _ => .mk op s n (plainEs l) 0
def plainEs : List Ex → List Ex
  | [] => []
  | x :: r => plainE x :: plainEs r
end
theorem plainEs_map : ∀ l : List Ex, plainEs l = l.map plainE
  | [] => rfl
  | x :: r => by rw [plainEs, plainEs_map r]; rfl
theorem plainE_of (e : Ex) : plainE e = .mk e.op e.text e.num (e.parts.map plainE) 0 := by
  cases e; rw [plainE, plainEs_map]; rfl
def plainR (x : RuleM) : RuleM := ⟨x.deny, x.scopes, x.whens.map plainE, 0⟩
theorem bool_eq {a b : Bool} (h : a = true ↔ b = true) : a = b := by
  cases a <;> cases b <;> simp_all
theorem sameE_plain : ∀ a b : Ex, sameE true (plainE a) (plainE b) = sameE false a b := fun a => by
  induction a using Ex.ind with
  | h op s n l p ih =>
    intro b
    cases b with
    | mk op2 s2 n2 m p2 =>
    have hp : sameEs true (l.map plainE) (m.map plainE) = sameEs false l m := bool_eq (by
      rw [sameEs_iff, sameEs_iff]
      simp only [List.length_map, List.getElem_map]
      constructor
      · rintro ⟨h1, h2⟩
        exact ⟨h1, fun i hi1 hi2 => by rw [← ih _ (List.getElem_mem hi1)]; exact h2 i hi1 hi2⟩
      · rintro ⟨h1, h2⟩
        exact ⟨h1, fun i hi1 hi2 => by rw [ih _ (List.getElem_mem hi1)]; exact h2 i hi1 hi2⟩)
    rw [plainE_of, plainE_of, sameE_of, sameE_of]
    show (decide (op = op2) && decide (s = s2) && decide (n = n2) && (!true || decide ((0 : Int) = 0)) && sameEs true (l.map plainE) (m.map plainE)) = (decide (op = op2) && decide (s = s2) && decide (n = n2) && (!false || decide (p = p2)) && sameEs false l m)
    rw [hp]; simp
theorem sameEs_plain (l m : List Ex) : sameEs true (l.map plainE) (m.map plainE) = sameEs false l m := bool_eq (by
  rw [sameEs_iff, sameEs_iff]
  simp only [List.length_map, List.getElem_map, sameE_plain])
theorem sameR_plain (a b : RuleM) : sameR true (plainR a) (plainR b) = sameR false a b := by
  unfold sameR plainR
  rw [sameEs_plain]; simp
theorem sameRs_plain (l m : List RuleM) : sameRs true (l.map plainR) (m.map plainR) = sameRs false l m := bool_eq (by
  rw [sameRs_iff, sameRs_iff]
  simp only [List.length_map, List.getElem_map, sameR_plain])
theorem sameEs_mapl {f : Ex → Ex} {l : List Ex} (h : ∀ x ∈ l, sameE false (f x) x = true) : sameEs false (l.map f) l = true :=
  sameEs_iff.2 ⟨List.length_map _, fun i h1 h2 => by rw [List.getElem_map]; exact h _ (List.getElem_mem h2)⟩
theorem sameE_plainl : ∀ a : Ex, sameE false (plainE a) a = true := fun a => by
  induction a using Ex.ind with
  | h op s n l p ih =>
    rw [plainE_of, sameE_iff]
    exact ⟨rfl, rfl, rfl, (fun h => by cases h), sameEs_mapl ih⟩
theorem sameR_plainl (x : RuleM) : sameR false (plainR x) x = true := sameR_iff.2 ⟨rfl, (fun h => by cases h), rfl, sameEs_mapl fun y _ => sameE_plainl y⟩
theorem sameRs_plainl (l : List RuleM) : sameRs false (l.map plainR) l = true := sameRs_iff.2 ⟨List.length_map _, fun i h1 h2 => by
  rw [List.getElem_map]; exact sameR_plainl _⟩
/-! ### What lies below, later -/
theorem RepSt.under {B : Nat} {W W' : World} {k : List ByteArray} {v : Value} (h : RepSt W (fun k => k < B) k v) (hB : B ≤ W.heap.size) (hb : Below W.heap.size W W') : RepSt W' (fun k => k < B) k v :=
  h.keeps (S := fun k => k < B) (T := fun k => k < B) (Keeps.below (hb.mono hB) (fun _ h _ => h)) (fun _ h _ => h)
theorem RepR.under {B : Nat} {W W' : World} {x : RuleM} {v : Value} (h : RepR W (fun k => k < B) x v) (hB : B ≤ W.heap.size) (hb : Below W.heap.size W W') : RepR W' (fun k => k < B) x v :=
  h.keeps (S := fun k => k < B) (T := fun k => k < B) (Keeps.below (hb.mono hB) (fun _ h _ => h)) (fun _ h _ => h)
end Go.Proofs.YtcjfealalokjaaaGreatDoor
namespace Go.Proofs.YtcjfealalokjaaaGreatDoor
open Go Go.RowKit
/-- What is asked of isSameExpr. -/
def SameAskE (x : Ex) : Prop := ∀ (b : Ex) (B : Nat) (va vb : Value) (W : World), B ≤ W.heap.size → RepE W (fun k => k < B) x va → RepE W (fun k => k < B) b vb → Calls Tryz.prog 83 #[va, vb] W fun e w' => e = .returned (.bool (sameE true x b)) ∧ Below W.heap.size W w'
set_option maxRecDepth 100000 in
set_option maxHeartbeats 4000000 in
theorem equalFuncE_any (l m : List Ex) (ih : ∀ x ∈ l, SameAskE x) (B : Nat) (A A' : Option Addr) (c c' : Nat) (W : World) (hB : B ≤ W.heap.size) (hl : l.length ≤ 9223372036854775807) (hm : m.length ≤ 9223372036854775807)
    (hc : l ≠ [] → ∃ b o, A = some ⟨b, o, none⟩ ∧ b < B ∧ b < W.heap.size ∧ RepEs W (fun k => k < B) b o l) (hc' : m ≠ [] → ∃ b o, A' = some ⟨b, o, none⟩ ∧ b < B ∧ b < W.heap.size ∧ RepEs W (fun k => k < B) b o m) :
    Calls Tryz.prog 82 #[.slice A l.length c, .slice A' m.length c', .func (.func 83) #[] #[]] W fun e w' => e = .returned (.bool (sameEs true l m)) ∧ Below W.heap.size W w' := by
  have eg : ∀ args w, (callFunc 83 args).run Tryz.prog w = .ok (.enter 83 args) w := enters_of Tryz.func83 (by kernel_rfl) rfl
  have HSAME : Hid (sameEs true l m = true ↔ l.length = m.length ∧ ∀ i (h1 : i < l.length) (h2 : i < m.length), sameE true l[i] m[i] = true) := Lib.hid sameEs_iff
  have HC := Lib.hid hc
  have HC' := Lib.hid hc'
  have HIH := Lib.hid ih
  have HBW := Lib.hid hB
  obtain ⟨p, hp⟩ : ∃ k, k = l.length := ⟨_, rfl⟩
  obtain ⟨q, hq⟩ : ∃ k, k = m.length := ⟨_, rfl⟩
  rw [← hp] at hl ⊢
  rw [← hq] at hm ⊢
  have HP := Lib.hid hp
  have HQ := Lib.hid hq
  clear hc hc' ih hp hq hB
  by_cases hpq : p = q
  · subst hpq
    have hE : ((p : Int) != (p : Int)) = false := by simp
    go_enter Tryz.func82, Tryz.ntmps82
    go_wp2
    go_loopw [17] (fun i wr => ∃ j : Nat, j ≤ p ∧ i = .int .i64 (j : Int) ∧ (∀ x (h1 : x < l.length) (h2 : x < m.length), x < j → sameE true l[x] m[x] = true) ∧ Below W.heap.size W wr) (fun i _ => p - (intOf i).toNat)
    case atStart => exact ⟨0, by omega, rfl, fun x _ _ hx => absurd hx (Nat.not_lt_zero _), Below.refl _ _⟩
    case round =>
      obtain ⟨j, hj, rfl, hall, hbel⟩ := hrel
      have HA := Lib.hid hall
      have HBE := Lib.hid hbel
      clear hall
      by_cases hlt : j < p
      · have hj1 : j < l.length := by rw [← HP.out]; exact hlt
        have hj2 : j < m.length := by rw [← HQ.out]; exact hlt
        obtain ⟨g, o, rfl, _, hg, hrep⟩ := HC.out (fun e => by rw [e] at hj1; exact absurd hj1 (Nat.not_lt_zero _))
        obtain ⟨g', o', rfl, _, hg', hrep'⟩ := HC'.out (fun e => by rw [e] at hj2; exact absurd hj2 (Nat.not_lt_zero _))
        obtain ⟨v1, hr1, hf1⟩ := hrep.at j hj1
        obtain ⟨v2, hr2, hf2⟩ := hrep'.at j hj2
        have HCALL := Lib.hid (fun (w' : World) (hb : Below W.heap.size W w') => HIH.out l[j] (List.getElem_mem hj1) m[j] B v1 v2 w' (Nat.le_trans HBW.out hb.size) (hr1.under HBW.out hb) (hr2.under HBW.out hb))
        obtain ⟨A1, x3, c1, rfl, hx3, k0, k1, k2, k3, k4⟩ := hr1.cells hf1
        obtain ⟨A2, y3, c2, rfl, hy3, q0, q1, q2, q3, q4⟩ := hr2.cells hf2
        clear hx3 hy3
        obtain ⟨x0, hx0⟩ : ∃ x, x = l[j].op := ⟨_, rfl⟩
        obtain ⟨x1, hx1⟩ : ∃ x, x = l[j].text := ⟨_, rfl⟩
        obtain ⟨x2, hx2⟩ : ∃ x, x = l[j].num := ⟨_, rfl⟩
        obtain ⟨x4, hx4⟩ : ∃ x, x = l[j].pos := ⟨_, rfl⟩
        obtain ⟨y0, hy0⟩ : ∃ x, x = m[j].op := ⟨_, rfl⟩
        obtain ⟨y1, hy1⟩ : ∃ x, x = m[j].text := ⟨_, rfl⟩
        obtain ⟨y2, hy2⟩ : ∃ x, x = m[j].num := ⟨_, rfl⟩
        obtain ⟨y4, hy4⟩ : ∃ x, x = m[j].pos := ⟨_, rfl⟩
        rw [← hx0, ← hx1, ← hx2, ← hx4, ← hy0, ← hy1, ← hy2, ← hy4] at HCALL
        rw [← hx0] at k0
        rw [← hx1] at k1
        rw [← hx2] at k2
        rw [← hx4] at k4
        rw [← hy0] at q0
        rw [← hy1] at q1
        rw [← hy2] at q2
        rw [← hy4] at q4
        have z0 : wr.cell? ⟨g, o + j * 5, none⟩ = some (.int .i64 x0) := (hbel.cell (p := ⟨g, _, none⟩) hg).trans k0
        have z1 : wr.cell? ⟨g, o + j * 5 + 1, none⟩ = some (.string x1) := (hbel.cell (p := ⟨g, _, none⟩) hg).trans k1
        have z2 : wr.cell? ⟨g, o + j * 5 + 2, none⟩ = some (.int .i64 x2) := (hbel.cell (p := ⟨g, _, none⟩) hg).trans k2
        have z3 : wr.cell? ⟨g, o + j * 5 + 3, none⟩ = some (.slice A1 x3 c1) := (hbel.cell (p := ⟨g, _, none⟩) hg).trans k3
        have z4 : wr.cell? ⟨g, o + j * 5 + 4, none⟩ = some (.int .i64 x4) := (hbel.cell (p := ⟨g, _, none⟩) hg).trans k4
        have u0 : wr.cell? ⟨g', o' + j * 5, none⟩ = some (.int .i64 y0) := (hbel.cell (p := ⟨g', _, none⟩) hg').trans q0
        have u1 : wr.cell? ⟨g', o' + j * 5 + 1, none⟩ = some (.string y1) := (hbel.cell (p := ⟨g', _, none⟩) hg').trans q1
        have u2 : wr.cell? ⟨g', o' + j * 5 + 2, none⟩ = some (.int .i64 y2) := (hbel.cell (p := ⟨g', _, none⟩) hg').trans q2
        have u3 : wr.cell? ⟨g', o' + j * 5 + 3, none⟩ = some (.slice A2 y3 c2) := (hbel.cell (p := ⟨g', _, none⟩) hg').trans q3
        have u4 : wr.cell? ⟨g', o' + j * 5 + 4, none⟩ = some (.int .i64 y4) := (hbel.cell (p := ⟨g', _, none⟩) hg').trans q4
        have t0 : (wr.alloc (.cells #[.int .i64 x0, .string x1, .int .i64 x2, .slice A1 x3 c1, .int .i64 x4] 42)).cell? ⟨g', o' + j * 5, none⟩ = some (.int .i64 y0) := ((belowAlloc wr _).cell (p := ⟨g', _, none⟩) (Nat.lt_of_lt_of_le hg' hbel.size)).trans u0
        have t1 : (wr.alloc (.cells #[.int .i64 x0, .string x1, .int .i64 x2, .slice A1 x3 c1, .int .i64 x4] 42)).cell? ⟨g', o' + j * 5 + 1, none⟩ = some (.string y1) := ((belowAlloc wr _).cell (p := ⟨g', _, none⟩) (Nat.lt_of_lt_of_le hg' hbel.size)).trans u1
        have t2 : (wr.alloc (.cells #[.int .i64 x0, .string x1, .int .i64 x2, .slice A1 x3 c1, .int .i64 x4] 42)).cell? ⟨g', o' + j * 5 + 2, none⟩ = some (.int .i64 y2) := ((belowAlloc wr _).cell (p := ⟨g', _, none⟩) (Nat.lt_of_lt_of_le hg' hbel.size)).trans u2
        have t3 : (wr.alloc (.cells #[.int .i64 x0, .string x1, .int .i64 x2, .slice A1 x3 c1, .int .i64 x4] 42)).cell? ⟨g', o' + j * 5 + 3, none⟩ = some (.slice A2 y3 c2) := ((belowAlloc wr _).cell (p := ⟨g', _, none⟩) (Nat.lt_of_lt_of_le hg' hbel.size)).trans u3
        have t4 : (wr.alloc (.cells #[.int .i64 x0, .string x1, .int .i64 x2, .slice A1 x3 c1, .int .i64 x4] 42)).cell? ⟨g', o' + j * 5 + 4, none⟩ = some (.int .i64 y4) := ((belowAlloc wr _).cell (p := ⟨g', _, none⟩) (Nat.lt_of_lt_of_le hg' hbel.size)).trans u4
        obtain ⟨f, hff⟩ : ∃ f, f = sameE true l[j] m[j] := ⟨_, rfl⟩
        rw [← hff] at HCALL
        have HFF := Lib.hid hff
        have hB2 : Below W.heap.size W ((wr.alloc (.cells #[.int .i64 x0, .string x1, .int .i64 x2, .slice A1 x3 c1, .int .i64 x4] 42)).alloc (.cells #[.int .i64 y0, .string y1, .int .i64 y2, .slice A2 y3 c2, .int .i64 y4] 42)) := (hbel.alloc hbel.size _).alloc (by have := hbel.size; simp; omega) _
        have HB2 := Lib.hid hB2
        have w0 : (0 : Int) ≤ (j : Int) := by omega
        have w1 : (j : Int) < (p : Int) := by omega
        clear hrep hrep' hff hr1 hr2 hf1 hf2 hx0 hx1 hx2 hx4 hy0 hy1 hy2 hy4 hB2 hbel k0 q0 k1 q1 k2 q2 k3 q3 k4 q4
        cases f with
        | true =>
          go_wp2_with fail
          (with_reducible refine (HCALL.out _ HB2.out).mono ?_)
          rintro e w' ⟨rfl, hb⟩
          have HB3 := Lib.hid (HB2.out.trans (hb.mono HB2.out.size))
          clear hb
          go_wp2
          go_roundw
          case rel => exact ⟨j + 1, by omega, by go_num, fun x h1 h2 hx => by
            rcases Nat.lt_or_ge x j with h | h
            · exact HA.out x h1 h2 h
            · obtain rfl : x = j := by omega
              exact HFF.out.symm, HB3.out⟩
          case measure => simp [intOf]; omega
        | false =>
          have HR : Hid (sameEs true l m = false) := Lib.hid (by
            rw [← Bool.not_eq_true, HSAME.out]
            rintro ⟨_, h⟩
            rw [h j hj1 hj2] at HFF
            exact absurd HFF.out (by decide))
          go_wp2_with fail
          (with_reducible refine (HCALL.out _ HB2.out).mono ?_)
          rintro e w' ⟨rfl, hb⟩
          have HB3 := Lib.hid (HB2.out.trans (hb.mono HB2.out.size))
          clear hb
          go_wp2
          go_ret
          rw [HR.out]
          exact ⟨rfl, HB3.out⟩
      · obtain rfl : j = p := by omega
        have HR : Hid (sameEs true l m = true) := Lib.hid (by
          rw [HSAME.out]
          exact ⟨by rw [← HP.out, ← HQ.out], fun x h1 h2 => HA.out x h1 h2 (by rw [HP.out]; exact h1)⟩)
        have hge : ¬ (j : Int) < (j : Int) := by omega
        clear hlt hbel
        go_wp2
        go_ret
        rw [HR.out]
        exact ⟨rfl, HBE.out⟩
  · have hE : ((p : Int) != (q : Int)) = true := by rw [bne_iff_ne]; omega
    have hE' : ¬ (p : Int) = (q : Int) := by omega
    have HR : Hid (sameEs true l m = false) := Lib.hid (by
      rw [← Bool.not_eq_true, HSAME.out]
      rintro ⟨h, _⟩
      exact hpq (by rw [HP.out, HQ.out]; exact h))
    go_enter Tryz.func82, Tryz.ntmps82
    go_wp2
    go_ret
    rw [HR.out]
    exact ⟨rfl, Below.refl _ _⟩
set_option maxRecDepth 100000 in
set_option maxHeartbeats 4000000 in
theorem sameExpr_of (a : Ex) (ih : ∀ x ∈ a.parts, SameAskE x) : SameAskE a := fun b B va vb W hB ha hb => by
  obtain ⟨A, c, rfl, _, hl, hc⟩ := ha.open
  obtain ⟨A', c', rfl, _, hl', hc'⟩ := hb.open
  have HEF := Lib.hid (fun (w' : World) (hw : Below W.heap.size W w') => equalFuncE_any a.parts b.parts ih B A A' c c' w' (Nat.le_trans hB hw.size) (Nat.le_trans hl.1 hl.2) (Nat.le_trans hl'.1 hl'.2)
    (fun hne => by obtain ⟨g, o, e, hg, hgl, hr⟩ := hc hne; exact ⟨g, o, e, hg, Nat.lt_of_lt_of_le hgl hw.size, hr.under hB hg hw⟩)
    (fun hne => by obtain ⟨g, o, e, hg, hgl, hr⟩ := hc' hne; exact ⟨g, o, e, hg, Nat.lt_of_lt_of_le hgl hw.size, hr.under hB hg hw⟩))
  have HS := Lib.hid (sameE_of true a b)
  obtain ⟨f, hf⟩ : ∃ f, f = sameEs true a.parts b.parts := ⟨_, rfl⟩
  rw [← hf] at HEF HS
  obtain ⟨x0, hx0⟩ : ∃ x, x = a.op := ⟨_, rfl⟩
  obtain ⟨x1, hx1⟩ : ∃ x, x = a.text := ⟨_, rfl⟩
  obtain ⟨x2, hx2⟩ : ∃ x, x = a.num := ⟨_, rfl⟩
  obtain ⟨x3, hx3⟩ : ∃ x, x = a.parts.length := ⟨_, rfl⟩
  obtain ⟨x4, hx4⟩ : ∃ x, x = a.pos := ⟨_, rfl⟩
  obtain ⟨y0, hy0⟩ : ∃ x, x = b.op := ⟨_, rfl⟩
  obtain ⟨y1, hy1⟩ : ∃ x, x = b.text := ⟨_, rfl⟩
  obtain ⟨y2, hy2⟩ : ∃ x, x = b.num := ⟨_, rfl⟩
  obtain ⟨y3, hy3⟩ : ∃ x, x = b.parts.length := ⟨_, rfl⟩
  obtain ⟨y4, hy4⟩ : ∃ x, x = b.pos := ⟨_, rfl⟩
  rw [← hx3, ← hy3] at HEF
  rw [← hx0, ← hx1, ← hx2, ← hx4, ← hy0, ← hy1, ← hy2, ← hy4] at HS
  rw [← hx0, ← hx1, ← hx2, ← hx3, ← hx4, ← hy0, ← hy1, ← hy2, ← hy3, ← hy4]
  obtain ⟨r, hr⟩ : ∃ r, r = sameE true a b := ⟨_, rfl⟩
  rw [← hr] at HS ⊢
  obtain ⟨W2, hW2⟩ : ∃ x, x = (W.alloc (.cells #[.int .i64 x0, .string x1, .int .i64 x2, .slice A x3 c, .int .i64 x4] 42)).alloc (.cells #[.int .i64 y0, .string y1, .int .i64 y2, .slice A' y3 c', .int .i64 y4] 42) := ⟨_, rfl⟩
  have hB2 : Below W.heap.size W W2 := by rw [hW2]; exact ((Below.refl _ _).alloc (Nat.le_refl _) _).alloc (by simp) _
  have HB2 := Lib.hid hB2
  have HW2 := Lib.hid hW2
  clear ha hb hB hl hl' hc hc' hf hx0 hx1 hx2 hx3 hx4 hy0 hy1 hy2 hy3 hy4 hr hB2 hW2 ih
  by_cases h0 : x0 = y0
  · subst h0
    have e0 : (x0 == x0) = true := beq_self_eq_true _
    by_cases h1 : x1 = y1
    · subst h1
      have e1 : (x1.toList == x1.toList) = true := by simp
      by_cases h2 : x2 = y2
      · subst h2
        have e2 : (x2 == x2) = true := beq_self_eq_true _
        by_cases h4 : x4 = y4
        · subst h4
          have e4 : (x4 == x4) = true := beq_self_eq_true _
          have HR : Hid (r = f) := Lib.hid (by rw [HS.out]; simp)
          have HC := Lib.hid (HEF.out _ HB2.out)
          clear HS HEF
          go_enter Tryz.func83, Tryz.ntmps83
          go_wp2_with fail
          rw [← HW2.out]
          (with_reducible refine HC.out.mono ?_)
          rintro e w4 ⟨rfl, hb⟩
          have HB4 := Lib.hid (HB2.out.trans (hb.mono HB2.out.size))
          clear hb
          go_wp2
          go_ret
          rw [HR.out]
          exact ⟨rfl, HB4.out⟩
        · have e4 : (x4 == y4) = false := by rw [beq_eq_false_iff_ne]; exact h4
          have HR : Hid (r = false) := Lib.hid (by rw [HS.out, decide_eq_false h4]; simp)
          clear HS
          go_enter Tryz.func83, Tryz.ntmps83
          go_wp2
          go_ret
          rw [HR.out, ← HW2.out]
          exact ⟨rfl, HB2.out⟩
      · have e2 : (x2 == y2) = false := by rw [beq_eq_false_iff_ne]; exact h2
        have HR : Hid (r = false) := Lib.hid (by rw [HS.out, decide_eq_false h2]; simp)
        clear HS
        go_enter Tryz.func83, Tryz.ntmps83
        go_wp2
        go_ret
        rw [HR.out, ← HW2.out]
        exact ⟨rfl, HB2.out⟩
    · have e1 : (x1.toList == y1.toList) = false := strs_bne h1
      have HR : Hid (r = false) := Lib.hid (by rw [HS.out, decide_eq_false h1]; simp)
      clear HS
      go_enter Tryz.func83, Tryz.ntmps83
      go_wp2
      go_ret
      rw [HR.out, ← HW2.out]
      exact ⟨rfl, HB2.out⟩
  · have e0 : (x0 == y0) = false := by rw [beq_eq_false_iff_ne]; exact h0
    have HR : Hid (r = false) := Lib.hid (by rw [HS.out, decide_eq_false h0]; simp)
    clear HS
    go_enter Tryz.func83, Tryz.ntmps83
    go_wp2
    go_ret
    rw [HR.out, ← HW2.out]
    exact ⟨rfl, HB2.out⟩
theorem sameExpr_any (a : Ex) : SameAskE a := by
  induction a using Ex.ind with
  | h op s n l p ih => exact sameExpr_of _ ih
end Go.Proofs.YtcjfealalokjaaaGreatDoor
namespace Go.Proofs.YtcjfealalokjaaaGreatDoor
open Go Go.RowKit
theorem equalSt_any (W : World) (S : Nat → Prop) (k k' : List ByteArray) (v v' : Value) (h : RepSt W S k v) (h' : RepSt W S k' v') :
    Calls Tryz.prog 81 #[v, v'] W fun e w' => e = .returned (.bool (decide (k = k'))) ∧ Below W.heap.size W w' := by
  obtain ⟨A, c, rfl, hl, hc⟩ := h
  obtain ⟨A', c', rfl, hl', hc'⟩ := h'
  by_cases hne : k.length = k'.length
  · by_cases h0 : k = []
    · subst h0
      have h0' : k' = [] := List.eq_nil_of_length_eq_zero hne.symm
      subst h0'
      refine (Tryz.slices_Equal_string_empty A A' c 0 c' W (by omega)).mono ?_
      rintro e w' ⟨rfl, rfl⟩
      exact ⟨rfl, Below.refl _ _⟩
    · have h0' : k' ≠ [] := fun e => h0 (List.eq_nil_of_length_eq_zero (by rw [hne, e]; rfl))
      obtain ⟨b, o, rfl, _, hlt, hcs⟩ := hc h0
      obtain ⟨b', o', rfl, _, hlt', hcs'⟩ := hc' h0'
      refine (Tryz.slices_Equal_string b o k.length c b' o' k'.length c' k k' W (Nat.le_refl _) (Nat.le_refl _) (by omega) (by omega) (fun j hj => ?_) (fun j hj => ?_)).mono ?_
      · obtain ⟨u, h1, _, h3⟩ := hcs j hj
        rw [h3, List.getD_eq_getElem?_getD, h1]; rfl
      · obtain ⟨u, h1, _, h3⟩ := hcs' j hj
        rw [h3, List.getD_eq_getElem?_getD, h1]; rfl
      · rintro e w' ⟨rfl, q, rfl⟩
        rw [List.take_length, List.take_length]
        exact ⟨rfl, below_drewN (Below.refl _ _) _⟩
  · obtain ⟨n, hn⟩ : ∃ n, n = k.length := ⟨_, rfl⟩
    obtain ⟨n', hn'⟩ : ∃ n, n = k'.length := ⟨_, rfl⟩
    rw [decide_eq_false (fun e => hne (by rw [e]))]
    rw [← hn, ← hn'] at hne ⊢
    have hE : ((n : Int) != (n' : Int)) = true := by rw [bne_iff_ne]; omega
    have hE' : ¬ (n : Int) = (n' : Int) := by omega
    clear hl hl' hc hc' hn hn'
    go_enter Tryz.func81, Tryz.ntmps81
    go_wp2
    go_ret
    exact ⟨rfl, Below.refl _ _⟩
/-- What is asked of isSameRule. -/
def SameAskR (x : RuleM) : Prop := ∀ (b : RuleM) (B : Nat) (va vb : Value) (W : World), B ≤ W.heap.size → RepR W (fun k => k < B) x va → RepR W (fun k => k < B) b vb → Calls Tryz.prog 45 #[va, vb] W fun e w' => e = .returned (.bool (sameR true x b)) ∧ Below W.heap.size W w'
set_option maxRecDepth 100000 in
set_option maxHeartbeats 4000000 in
theorem sameRule_any (a : RuleM) : SameAskR a := fun b B va vb W hB ha hb => by
  obtain ⟨vs, vw, rfl, hvs, ⟨D, d, rfl, hl, hc⟩⟩ := ha
  obtain ⟨vs', vw', rfl, hvs', ⟨D', d', rfl, hl', hc'⟩⟩ := hb
  have HEQ := Lib.hid (fun (w' : World) (hw : Below W.heap.size W w') => equalSt_any w' _ a.scopes b.scopes vs vs' (hvs.under hB hw) (hvs'.under hB hw))
  have HEF := Lib.hid (fun (w' : World) (hw : Below W.heap.size W w') => equalFuncE_any a.whens b.whens (fun x _ => sameExpr_any x) B D D' d d' w' (Nat.le_trans hB hw.size) hl hl'
    (fun hne => by obtain ⟨g, o, e, hg, hgl, hr⟩ := hc hne; exact ⟨g, o, e, hg, Nat.lt_of_lt_of_le hgl hw.size, hr.under hB hg hw⟩)
    (fun hne => by obtain ⟨g, o, e, hg, hgl, hr⟩ := hc' hne; exact ⟨g, o, e, hg, Nat.lt_of_lt_of_le hgl hw.size, hr.under hB hg hw⟩))
  obtain ⟨A, c, rfl, _⟩ := hvs
  obtain ⟨A', c', rfl, _⟩ := hvs'
  have HS : Hid (sameR true a b = (decide (a.deny = b.deny) && (!true || decide (a.pos = b.pos)) && decide (a.scopes = b.scopes) && sameEs true a.whens b.whens)) := Lib.hid rfl
  obtain ⟨f, hf⟩ : ∃ f, f = sameEs true a.whens b.whens := ⟨_, rfl⟩
  rw [← hf] at HEF HS
  obtain ⟨g, hg⟩ : ∃ f, f = decide (a.scopes = b.scopes) := ⟨_, rfl⟩
  rw [← hg] at HEQ HS
  obtain ⟨x0, hx0⟩ : ∃ x, x = a.deny := ⟨_, rfl⟩
  obtain ⟨x1, hx1⟩ : ∃ x, x = a.scopes.length := ⟨_, rfl⟩
  obtain ⟨x2, hx2⟩ : ∃ x, x = a.whens.length := ⟨_, rfl⟩
  obtain ⟨x3, hx3⟩ : ∃ x, x = a.pos := ⟨_, rfl⟩
  obtain ⟨y0, hy0⟩ : ∃ x, x = b.deny := ⟨_, rfl⟩
  obtain ⟨y1, hy1⟩ : ∃ x, x = b.scopes.length := ⟨_, rfl⟩
  obtain ⟨y2, hy2⟩ : ∃ x, x = b.whens.length := ⟨_, rfl⟩
  obtain ⟨y3, hy3⟩ : ∃ x, x = b.pos := ⟨_, rfl⟩
  rw [← hx1, ← hy1] at HEQ
  rw [← hx2, ← hy2] at HEF
  rw [← hx0, ← hx3, ← hy0, ← hy3] at HS
  rw [← hx0, ← hx1, ← hx2, ← hx3, ← hy0, ← hy1, ← hy2, ← hy3]
  obtain ⟨r, hr⟩ : ∃ r, r = sameR true a b := ⟨_, rfl⟩
  rw [← hr] at HS ⊢
  obtain ⟨W2, hW2⟩ : ∃ x, x = (W.alloc (.cells #[.bool x0, .slice A x1 c, .slice D x2 d, .int .i64 x3] 45)).alloc (.cells #[.bool y0, .slice A' y1 c', .slice D' y2 d', .int .i64 y3] 45) := ⟨_, rfl⟩
  have hB2 : Below W.heap.size W W2 := by rw [hW2]; exact ((Below.refl _ _).alloc (Nat.le_refl _) _).alloc (by simp) _
  have HB2 := Lib.hid hB2
  have HW2 := Lib.hid hW2
  have c2 : W2.cell? ⟨W.heap.size, 2, none⟩ = some (.slice D x2 d) := by rw [hW2]; simp
  have d2 : W2.cell? ⟨W.heap.size + 1, 2, none⟩ = some (.slice D' y2 d') := by rw [hW2]; simp
  clear hl hl' hc hc' hf hg hx0 hx1 hx2 hx3 hy0 hy1 hy2 hy3 hr hB2 hW2 hB
  by_cases h0 : x0 = y0
  · subst h0
    have e0 : (x0 == x0) = true := beq_self_eq_true _
    by_cases h3 : x3 = y3
    · subst h3
      have e3 : (x3 == x3) = true := beq_self_eq_true _
      have HQ := Lib.hid (HEQ.out _ HB2.out)
      cases g with
      | true =>
        have HR : Hid (r = f) := Lib.hid (by rw [HS.out]; simp)
        clear HS
        go_enter Tryz.func45, Tryz.ntmps45
        go_wp2_with fail
        rw [← HW2.out]
        (with_reducible refine HQ.out.mono ?_)
        rintro e w3 ⟨rfl, hb⟩
        have HB3 := Lib.hid (HB2.out.trans (hb.mono HB2.out.size))
        have c3' := (hb.cell (p := ⟨W.heap.size, 2, none⟩) (lt_of_cell c2)).trans c2
        have d3' := (hb.cell (p := ⟨W.heap.size + 1, 2, none⟩) (lt_of_cell d2)).trans d2
        have HC := Lib.hid (HEF.out _ HB3.out)
        clear hb c2 d2
        go_wp2_with fail
        (with_reducible refine HC.out.mono ?_)
        rintro e w4 ⟨rfl, hb⟩
        have HB4 := Lib.hid (HB3.out.trans (hb.mono HB3.out.size))
        clear hb
        go_wp2
        go_ret
        rw [HR.out]
        exact ⟨rfl, HB4.out⟩
      | false =>
        have HR : Hid (r = false) := Lib.hid (by rw [HS.out]; simp)
        clear HS c2 d2
        go_enter Tryz.func45, Tryz.ntmps45
        go_wp2_with fail
        rw [← HW2.out]
        (with_reducible refine HQ.out.mono ?_)
        rintro e w3 ⟨rfl, hb⟩
        have HB3 := Lib.hid (HB2.out.trans (hb.mono HB2.out.size))
        clear hb
        go_wp2
        go_ret
        rw [HR.out]
        exact ⟨rfl, HB3.out⟩
    · have e3 : (x3 == y3) = false := by rw [beq_eq_false_iff_ne]; exact h3
      clear c2 d2
      have HR : Hid (r = false) := Lib.hid (by rw [HS.out, decide_eq_false h3]; simp)
      clear HS
      go_enter Tryz.func45, Tryz.ntmps45
      go_wp2
      go_ret
      rw [HR.out, ← HW2.out]
      exact ⟨rfl, HB2.out⟩
  · have e0 : (x0 == y0) = false := by rw [beq_eq_false_iff_ne]; exact h0
    clear c2 d2
    have HR : Hid (r = false) := Lib.hid (by rw [HS.out, decide_eq_false h0]; simp)
    clear HS
    go_enter Tryz.func45, Tryz.ntmps45
    go_wp2
    go_ret
    rw [HR.out, ← HW2.out]
    exact ⟨rfl, HB2.out⟩
set_option maxRecDepth 100000 in
set_option maxHeartbeats 4000000 in
theorem equalFuncR_any (l m : List RuleM) (ih : ∀ x ∈ l, SameAskR x) (B : Nat) (A A' : Option Addr) (c c' : Nat) (W : World) (hB : B ≤ W.heap.size) (hl : l.length ≤ 9223372036854775807) (hm : m.length ≤ 9223372036854775807)
    (hc : l ≠ [] → ∃ b o, A = some ⟨b, o, none⟩ ∧ b < B ∧ b < W.heap.size ∧ RepRs W (fun k => k < B) b o l) (hc' : m ≠ [] → ∃ b o, A' = some ⟨b, o, none⟩ ∧ b < B ∧ b < W.heap.size ∧ RepRs W (fun k => k < B) b o m) :
    Calls Tryz.prog 44 #[.slice A l.length c, .slice A' m.length c', .func (.func 45) #[] #[]] W fun e w' => e = .returned (.bool (sameRs true l m)) ∧ Below W.heap.size W w' := by
  have eg : ∀ args w, (callFunc 45 args).run Tryz.prog w = .ok (.enter 45 args) w := enters_of Tryz.func45 (by kernel_rfl) rfl
  have HSAME : Hid (sameRs true l m = true ↔ l.length = m.length ∧ ∀ i (h1 : i < l.length) (h2 : i < m.length), sameR true l[i] m[i] = true) := Lib.hid sameRs_iff
  have HC := Lib.hid hc
  have HC' := Lib.hid hc'
  have HIH := Lib.hid ih
  have HBW := Lib.hid hB
  obtain ⟨p, hp⟩ : ∃ k, k = l.length := ⟨_, rfl⟩
  obtain ⟨q, hq⟩ : ∃ k, k = m.length := ⟨_, rfl⟩
  rw [← hp] at hl ⊢
  rw [← hq] at hm ⊢
  have HP := Lib.hid hp
  have HQ := Lib.hid hq
  clear hc hc' ih hp hq hB
  by_cases hpq : p = q
  · subst hpq
    have hE : ((p : Int) != (p : Int)) = false := by simp
    go_enter Tryz.func44, Tryz.ntmps44
    go_wp2
    go_loopw [17] (fun i wr => ∃ j : Nat, j ≤ p ∧ i = .int .i64 (j : Int) ∧ (∀ x (h1 : x < l.length) (h2 : x < m.length), x < j → sameR true l[x] m[x] = true) ∧ Below W.heap.size W wr) (fun i _ => p - (intOf i).toNat)
    case atStart => exact ⟨0, by omega, rfl, fun x _ _ hx => absurd hx (Nat.not_lt_zero _), Below.refl _ _⟩
    case round =>
      obtain ⟨j, hj, rfl, hall, hbel⟩ := hrel
      have HA := Lib.hid hall
      have HBE := Lib.hid hbel
      clear hall
      by_cases hlt : j < p
      · have hj1 : j < l.length := by rw [← HP.out]; exact hlt
        have hj2 : j < m.length := by rw [← HQ.out]; exact hlt
        obtain ⟨g, o, rfl, _, hg, hrep⟩ := HC.out (fun e => by rw [e] at hj1; exact absurd hj1 (Nat.not_lt_zero _))
        obtain ⟨g', o', rfl, _, hg', hrep'⟩ := HC'.out (fun e => by rw [e] at hj2; exact absurd hj2 (Nat.not_lt_zero _))
        obtain ⟨a0, a1, a2, a3, hr1, k0, k1, k2, k3⟩ := hrep j hj1
        obtain ⟨b0, b1, b2, b3, hr2, q0, q1, q2, q3⟩ := hrep' j hj2
        have HCALL := Lib.hid (fun (w' : World) (hb : Below W.heap.size W w') => HIH.out l[j] (List.getElem_mem hj1) m[j] B _ _ w' (Nat.le_trans HBW.out hb.size) (hr1.under HBW.out hb) (hr2.under HBW.out hb))
        obtain ⟨vs1, vw1, e1, ⟨A1, c1, rfl, _⟩, ⟨D1, d1, rfl, _⟩⟩ := hr1
        obtain ⟨vs2, vw2, e2, ⟨A2, c2, rfl, _⟩, ⟨D2, d2, rfl, _⟩⟩ := hr2
        simp only [Value.agg.injEq, Array.mk.injEq, List.cons.injEq, and_true] at e1 e2
        obtain ⟨rfl, rfl, rfl, rfl⟩ := e1
        obtain ⟨rfl, rfl, rfl, rfl⟩ := e2
        obtain ⟨x0, hx0⟩ : ∃ x, x = l[j].deny := ⟨_, rfl⟩
        obtain ⟨x1, hx1⟩ : ∃ x, x = l[j].scopes.length := ⟨_, rfl⟩
        obtain ⟨x2, hx2⟩ : ∃ x, x = l[j].whens.length := ⟨_, rfl⟩
        obtain ⟨x3, hx3⟩ : ∃ x, x = l[j].pos := ⟨_, rfl⟩
        obtain ⟨y0, hy0⟩ : ∃ x, x = m[j].deny := ⟨_, rfl⟩
        obtain ⟨y1, hy1⟩ : ∃ x, x = m[j].scopes.length := ⟨_, rfl⟩
        obtain ⟨y2, hy2⟩ : ∃ x, x = m[j].whens.length := ⟨_, rfl⟩
        obtain ⟨y3, hy3⟩ : ∃ x, x = m[j].pos := ⟨_, rfl⟩
        rw [← hx0, ← hx1, ← hx2, ← hx3, ← hy0, ← hy1, ← hy2, ← hy3] at HCALL
        rw [← hx0] at k0
        rw [← hx1] at k1
        rw [← hx2] at k2
        rw [← hx3] at k3
        rw [← hy0] at q0
        rw [← hy1] at q1
        rw [← hy2] at q2
        rw [← hy3] at q3
        have z0 : wr.cell? ⟨g, o + j * 4, none⟩ = some (.bool x0) := (hbel.cell (p := ⟨g, _, none⟩) hg).trans k0
        have z1 : wr.cell? ⟨g, o + j * 4 + 1, none⟩ = some (.slice A1 x1 c1) := (hbel.cell (p := ⟨g, _, none⟩) hg).trans k1
        have z2 : wr.cell? ⟨g, o + j * 4 + 2, none⟩ = some (.slice D1 x2 d1) := (hbel.cell (p := ⟨g, _, none⟩) hg).trans k2
        have z3 : wr.cell? ⟨g, o + j * 4 + 3, none⟩ = some (.int .i64 x3) := (hbel.cell (p := ⟨g, _, none⟩) hg).trans k3
        have u0 : wr.cell? ⟨g', o' + j * 4, none⟩ = some (.bool y0) := (hbel.cell (p := ⟨g', _, none⟩) hg').trans q0
        have u1 : wr.cell? ⟨g', o' + j * 4 + 1, none⟩ = some (.slice A2 y1 c2) := (hbel.cell (p := ⟨g', _, none⟩) hg').trans q1
        have u2 : wr.cell? ⟨g', o' + j * 4 + 2, none⟩ = some (.slice D2 y2 d2) := (hbel.cell (p := ⟨g', _, none⟩) hg').trans q2
        have u3 : wr.cell? ⟨g', o' + j * 4 + 3, none⟩ = some (.int .i64 y3) := (hbel.cell (p := ⟨g', _, none⟩) hg').trans q3
        have t0 : (wr.alloc (.cells #[.bool x0, .slice A1 x1 c1, .slice D1 x2 d1, .int .i64 x3] 45)).cell? ⟨g', o' + j * 4, none⟩ = some (.bool y0) := ((belowAlloc wr _).cell (p := ⟨g', _, none⟩) (Nat.lt_of_lt_of_le hg' hbel.size)).trans u0
        have t1 : (wr.alloc (.cells #[.bool x0, .slice A1 x1 c1, .slice D1 x2 d1, .int .i64 x3] 45)).cell? ⟨g', o' + j * 4 + 1, none⟩ = some (.slice A2 y1 c2) := ((belowAlloc wr _).cell (p := ⟨g', _, none⟩) (Nat.lt_of_lt_of_le hg' hbel.size)).trans u1
        have t2 : (wr.alloc (.cells #[.bool x0, .slice A1 x1 c1, .slice D1 x2 d1, .int .i64 x3] 45)).cell? ⟨g', o' + j * 4 + 2, none⟩ = some (.slice D2 y2 d2) := ((belowAlloc wr _).cell (p := ⟨g', _, none⟩) (Nat.lt_of_lt_of_le hg' hbel.size)).trans u2
        have t3 : (wr.alloc (.cells #[.bool x0, .slice A1 x1 c1, .slice D1 x2 d1, .int .i64 x3] 45)).cell? ⟨g', o' + j * 4 + 3, none⟩ = some (.int .i64 y3) := ((belowAlloc wr _).cell (p := ⟨g', _, none⟩) (Nat.lt_of_lt_of_le hg' hbel.size)).trans u3
        obtain ⟨f, hff⟩ : ∃ f, f = sameR true l[j] m[j] := ⟨_, rfl⟩
        rw [← hff] at HCALL
        have HFF := Lib.hid hff
        have hB2 : Below W.heap.size W ((wr.alloc (.cells #[.bool x0, .slice A1 x1 c1, .slice D1 x2 d1, .int .i64 x3] 45)).alloc (.cells #[.bool y0, .slice A2 y1 c2, .slice D2 y2 d2, .int .i64 y3] 45)) := (hbel.alloc hbel.size _).alloc (by have := hbel.size; simp; omega) _
        have HB2 := Lib.hid hB2
        have w0 : (0 : Int) ≤ (j : Int) := by omega
        have w1 : (j : Int) < (p : Int) := by omega
        clear hrep hrep' hff hx0 hx1 hx2 hx3 hy0 hy1 hy2 hy3 hB2 hbel k0 q0 k1 q1 k2 q2 k3 q3
        cases f with
        | true =>
          go_wp2_with fail
          (with_reducible refine (HCALL.out _ HB2.out).mono ?_)
          rintro e w' ⟨rfl, hb⟩
          have HB3 := Lib.hid (HB2.out.trans (hb.mono HB2.out.size))
          clear hb
          go_wp2
          go_roundw
          case rel => exact ⟨j + 1, by omega, by go_num, fun x h1 h2 hx => by
            rcases Nat.lt_or_ge x j with h | h
            · exact HA.out x h1 h2 h
            · obtain rfl : x = j := by omega
              exact HFF.out.symm, HB3.out⟩
          case measure => simp [intOf]; omega
        | false =>
          have HR : Hid (sameRs true l m = false) := Lib.hid (by
            rw [← Bool.not_eq_true, HSAME.out]
            rintro ⟨_, h⟩
            rw [h j hj1 hj2] at HFF
            exact absurd HFF.out (by decide))
          go_wp2_with fail
          (with_reducible refine (HCALL.out _ HB2.out).mono ?_)
          rintro e w' ⟨rfl, hb⟩
          have HB3 := Lib.hid (HB2.out.trans (hb.mono HB2.out.size))
          clear hb
          go_wp2
          go_ret
          rw [HR.out]
          exact ⟨rfl, HB3.out⟩
      · obtain rfl : j = p := by omega
        have HR : Hid (sameRs true l m = true) := Lib.hid (by
          rw [HSAME.out]
          exact ⟨by rw [← HP.out, ← HQ.out], fun x h1 h2 => HA.out x h1 h2 (by rw [HP.out]; exact h1)⟩)
        have hge : ¬ (j : Int) < (j : Int) := by omega
        clear hlt hbel
        go_wp2
        go_ret
        rw [HR.out]
        exact ⟨rfl, HBE.out⟩
  · have hE : ((p : Int) != (q : Int)) = true := by rw [bne_iff_ne]; omega
    have hE' : ¬ (p : Int) = (q : Int) := by omega
    have HR : Hid (sameRs true l m = false) := Lib.hid (by
      rw [← Bool.not_eq_true, HSAME.out]
      rintro ⟨h, _⟩
      exact hpq (by rw [HP.out, HQ.out]; exact h))
    go_enter Tryz.func44, Tryz.ntmps44
    go_wp2
    go_ret
    rw [HR.out]
    exact ⟨rfl, Below.refl _ _⟩
set_option maxRecDepth 100000 in
set_option maxHeartbeats 1000000 in
theorem polSame_any {l m : List RuleM} {B : Nat} {va vb : Value} {W : World} (hB : B ≤ W.heap.size) (ha : RepP W (fun k => k < B) l va) (hb : RepP W (fun k => k < B) m vb) :
    Calls Tryz.prog 21 #[va, vb] W fun e w' => e = .returned (.bool (sameRs true l m)) ∧ Below W.heap.size W w' := by
  obtain ⟨A, c, rfl, hl, hc⟩ := ha
  obtain ⟨A', c', rfl, hl', hc'⟩ := hb
  have HC := Lib.hid (equalFuncR_any l m (fun x _ => sameRule_any x) B A A' c c' W hB hl hl' hc hc')
  obtain ⟨r, hr⟩ : ∃ r, r = sameRs true l m := ⟨_, rfl⟩
  rw [← hr] at HC ⊢
  clear hl hl' hc hc' hr hB
  go_enter Tryz.func21, Tryz.ntmps21
  go_wp2_with fail
  (with_reducible refine HC.out.mono ?_)
  rintro e w2 ⟨rfl, hb⟩
  have HB2 := Lib.hid hb
  clear hb
  go_wp2
  go_ret
  exact ⟨rfl, HB2.out⟩
end Go.Proofs.YtcjfealalokjaaaGreatDoor
namespace Go.Proofs.YtcjfealalokjaaaGreatDoor
open Go Go.RowKit
/-- What is asked of SameExpr. -/
def RSameAsk (x : Ex) : Prop := ∀ (b : Ex) (B : Nat) (va vb : Value) (pl : Bool) (W : World), B ≤ W.heap.size → RepE W (fun k => k < B) x va → RepE W (fun k => k < B) b vb → Calls Tryz.prog 32 #[va, vb, .bool pl] W fun e w' => e = .returned (.bool (sameE pl x b)) ∧ Below W.heap.size W w'
set_option maxRecDepth 100000 in
set_option maxHeartbeats 4000000 in
theorem refSameE_ne (a b : Ex) (B : Nat) (va vb : Value) (pl : Bool) (W : World) (ha : RepE W (fun k => k < B) a va) (hb : RepE W (fun k => k < B) b vb) (h : ¬ (a.op = b.op ∧ a.text = b.text ∧ a.num = b.num ∧ (pl = true → a.pos = b.pos) ∧ a.parts.length = b.parts.length)) :
    Calls Tryz.prog 32 #[va, vb, .bool pl] W fun e w' => e = .returned (.bool (sameE pl a b)) ∧ Below W.heap.size W w' := by
  obtain ⟨A, c, rfl, hs, hl, hc⟩ := ha.open
  obtain ⟨A', c', rfl, hs', hl', hc'⟩ := hb.open
  have HR : Hid (sameE pl a b = false) := Lib.hid (by
    rw [← Bool.not_eq_true, sameE_iff]
    rintro ⟨h1, h2, h3, h4, h5⟩
    exact h ⟨h1, h2, h3, h4, (sameEs_iff.1 h5).1⟩)
  obtain ⟨s, hs1⟩ : ∃ s, s = a.text := ⟨_, rfl⟩
  obtain ⟨t, ht1⟩ : ∃ s, s = b.text := ⟨_, rfl⟩
  obtain ⟨k1, hk1⟩ : ∃ k, k = a.op := ⟨_, rfl⟩
  obtain ⟨k2, hk2⟩ : ∃ k, k = b.op := ⟨_, rfl⟩
  obtain ⟨n1, hn1⟩ : ∃ k, k = a.num := ⟨_, rfl⟩
  obtain ⟨n2, hn2⟩ : ∃ k, k = b.num := ⟨_, rfl⟩
  obtain ⟨p1, hp1⟩ : ∃ k, k = a.parts.length := ⟨_, rfl⟩
  obtain ⟨p2, hp2⟩ : ∃ k, k = b.parts.length := ⟨_, rfl⟩
  obtain ⟨q1, hq1⟩ : ∃ k, k = a.pos := ⟨_, rfl⟩
  obtain ⟨q2, hq2⟩ : ∃ k, k = b.pos := ⟨_, rfl⟩
  rw [← hs1, ← ht1, ← hk1, ← hk2, ← hn1, ← hn2, ← hp1, ← hp2, ← hq1, ← hq2] at h
  rw [← hs1, ← hk1, ← hn1, ← hp1, ← hq1, ← ht1, ← hk2, ← hn2, ← hp2, ← hq2]
  clear ha hb hc hc' hs hs' hs1 ht1 hk1 hk2 hn1 hn2 hp1 hp2 hq1 hq2 hl hl'
  by_cases e1 : k1 = k2
  · have b1 : (k1 == k2) = true := by rw [beq_iff_eq]; exact e1
    have c1 : (k1 != k2) = false := by rw [bne, b1]; rfl
    by_cases e2 : s = t
    · have b2 := strs_beq e2
      have c2 : (s.toList != t.toList) = false := by rw [bne, b2]; rfl
      by_cases e3 : n1 = n2
      · have b3 : (n1 == n2) = true := by rw [beq_iff_eq]; exact e3
        have c3 : (n1 != n2) = false := by rw [bne, b3]; rfl
        cases pl with
        | false =>
          have e5 : ¬ p1 = p2 := fun e5 => h ⟨e1, e2, e3, (fun h => by cases h), e5⟩
          have b5 : ((p1 : Int) == (p2 : Int)) = false := by rw [beq_eq_false_iff_ne]; omega
          have c5 : ((p1 : Int) != (p2 : Int)) = true := by rw [bne, b5]; rfl
          clear e1 e2 e3 e5 h
          go_enter Tryz.func32, Tryz.ntmps32
          go_wp2
          go_ret
          rw [HR.out]
          exact ⟨rfl, ((Below.refl _ _).alloc (Nat.le_refl _) _).alloc (by simp) _⟩
        | true =>
          by_cases e4 : q1 = q2
          · have b4 : (q1 == q2) = true := by rw [beq_iff_eq]; exact e4
            have c4 : (q1 != q2) = false := by rw [bne, b4]; rfl
            have e5 : ¬ p1 = p2 := fun e5 => h ⟨e1, e2, e3, fun _ => e4, e5⟩
            have b5 : ((p1 : Int) == (p2 : Int)) = false := by rw [beq_eq_false_iff_ne]; omega
            have c5 : ((p1 : Int) != (p2 : Int)) = true := by rw [bne, b5]; rfl
            clear e1 e2 e3 e4 e5 h
            go_enter Tryz.func32, Tryz.ntmps32
            go_wp2
            go_ret
            rw [HR.out]
            exact ⟨rfl, ((Below.refl _ _).alloc (Nat.le_refl _) _).alloc (by simp) _⟩
          · have b4 : (q1 == q2) = false := by rw [beq_eq_false_iff_ne]; exact e4
            have c4 : (q1 != q2) = true := by rw [bne, b4]; rfl
            clear e1 e2 e3 e4 h
            go_enter Tryz.func32, Tryz.ntmps32
            go_wp2
            go_ret
            rw [HR.out]
            exact ⟨rfl, ((Below.refl _ _).alloc (Nat.le_refl _) _).alloc (by simp) _⟩
      · have b3 : (n1 == n2) = false := by rw [beq_eq_false_iff_ne]; exact e3
        have c3 : (n1 != n2) = true := by rw [bne, b3]; rfl
        clear e1 e2 e3 h
        go_enter Tryz.func32, Tryz.ntmps32
        go_wp2
        go_ret
        rw [HR.out]
        exact ⟨rfl, ((Below.refl _ _).alloc (Nat.le_refl _) _).alloc (by simp) _⟩
    · have b2 := strs_bne e2
      have c2 : (s.toList != t.toList) = true := by rw [bne, b2]; rfl
      clear e1 e2 h
      go_enter Tryz.func32, Tryz.ntmps32
      go_wp2
      go_ret
      rw [HR.out]
      exact ⟨rfl, ((Below.refl _ _).alloc (Nat.le_refl _) _).alloc (by simp) _⟩
  · have b1 : (k1 == k2) = false := by rw [beq_eq_false_iff_ne]; exact e1
    have c1 : (k1 != k2) = true := by rw [bne, b1]; rfl
    clear e1 h
    go_enter Tryz.func32, Tryz.ntmps32
    go_wp2
    go_ret
    rw [HR.out]
    exact ⟨rfl, ((Below.refl _ _).alloc (Nat.le_refl _) _).alloc (by simp) _⟩
set_option maxRecDepth 100000 in
set_option maxHeartbeats 8000000 in
theorem refSameE_eq (a : Ex) (ih : ∀ x ∈ a.parts, RSameAsk x)
    (b : Ex) (B : Nat) (va vb : Value) (pl : Bool) (W : World) (hB : B ≤ W.heap.size) (ha : RepE W (fun k => k < B) a va) (hb : RepE W (fun k => k < B) b vb) (h1 : a.op = b.op) (h2 : a.text = b.text) (h3 : a.num = b.num) (h4 : pl = true → a.pos = b.pos) (h5 : a.parts.length = b.parts.length) :
    Calls Tryz.prog 32 #[va, vb, .bool pl] W fun e w' => e = .returned (.bool (sameE pl a b)) ∧ Below W.heap.size W w' := by
  obtain ⟨A, c, rfl, hs, hl, hc⟩ := ha.open
  obtain ⟨A', c', rfl, hs', hl', hc'⟩ := hb.open
  rw [← h1, ← h2, ← h3, ← h5]
  have HSAME : Hid (sameE pl a b = true ↔ sameEs pl a.parts b.parts = true) := Lib.hid (by rw [sameE_iff]; exact ⟨fun h => h.2.2.2.2, fun h => ⟨h1, h2, h3, h4, h⟩⟩)
  have HC := Lib.hid hc
  have HC' := Lib.hid hc'
  have HPP := Lib.hid h5
  have HIH := Lib.hid ih
  have HBW := Lib.hid hB
  obtain ⟨s, hs1⟩ : ∃ s, s = a.text := ⟨_, rfl⟩
  obtain ⟨kd, hk1⟩ : ∃ k, k = a.op := ⟨_, rfl⟩
  obtain ⟨n, hn1⟩ : ∃ k, k = a.num := ⟨_, rfl⟩
  obtain ⟨p, hp1⟩ : ∃ k, k = a.parts.length := ⟨_, rfl⟩
  obtain ⟨q1, hq1⟩ : ∃ k, k = a.pos := ⟨_, rfl⟩
  obtain ⟨q2, hq2⟩ : ∃ k, k = b.pos := ⟨_, rfl⟩
  rw [← hs1, ← hk1, ← hn1, ← hp1, ← hq1, ← hq2]
  rw [← hp1] at hl
  rw [← hq1, ← hq2] at h4
  have HP := Lib.hid hp1
  have b3 : (s.toList == s.toList) = true := by simp
  have hpm : p ≤ 9223372036854775807 := Nat.le_trans hl.1 hl.2
  clear ha hb hc hc' hs hs' hs1 hk1 hn1 hp1 hq1 hq2 hl hl' h1 h2 h3 h5 ih hB
  have hB2 : Below W.heap.size W ((W.alloc (.cells #[.int .i64 kd, .string s, .int .i64 n, .slice A p c, .int .i64 q1] 42)).alloc (.cells #[.int .i64 kd, .string s, .int .i64 n, .slice A' p c', .int .i64 q2] 42)) := ((Below.refl _ _).alloc (Nat.le_refl _) _).alloc (by simp) _
  have hx1 : ((W.alloc (.cells #[.int .i64 kd, .string s, .int .i64 n, .slice A p c, .int .i64 q1] 42)).alloc (.cells #[.int .i64 kd, .string s, .int .i64 n, .slice A' p c', .int .i64 q2] 42)).cell? ⟨W.heap.size, 3, none⟩ = some (.slice A p c) := by simp
  have hx3 : ((W.alloc (.cells #[.int .i64 kd, .string s, .int .i64 n, .slice A p c, .int .i64 q1] 42)).alloc (.cells #[.int .i64 kd, .string s, .int .i64 n, .slice A' p c', .int .i64 q2] 42)).cell? ⟨W.heap.size + 1, 3, none⟩ = some (.slice A' p c') := by simp
  obtain ⟨w2, hw2⟩ : ∃ x, x = ((W.alloc (.cells #[.int .i64 kd, .string s, .int .i64 n, .slice A p c, .int .i64 q1] 42)).alloc (.cells #[.int .i64 kd, .string s, .int .i64 n, .slice A' p c', .int .i64 q2] 42)) := ⟨_, rfl⟩
  rw [← hw2] at hB2 hx1 hx3
  have HW2 := Lib.hid hw2
  have HX := Lib.hid (And.intro hx1 hx3)
  have HB2 := Lib.hid hB2
  clear hw2 hx1 hx3 hB2
  cases pl with
  | false =>
    clear h4
    go_enter Tryz.func32, Tryz.ntmps32
    go_wp2
    rw [← HW2.out]
    go_loopw [7] (fun i wq => ∃ m : Nat, m ≤ p ∧ i = .int .i64 (m : Int) ∧ (∀ x (h1 : x < a.parts.length) (h2 : x < b.parts.length), x < m → sameE false a.parts[x] b.parts[x] = true) ∧ Below w2.heap.size w2 wq) (fun i _ => p - (intOf i).toNat)
    case atStart => exact ⟨0, by omega, rfl, fun x _ _ hx => absurd hx (Nat.not_lt_zero _), Below.refl _ _⟩
    case round =>
      obtain ⟨m, hm, rfl, hall, hbel⟩ := hrel
      have HA2 := Lib.hid hall
      have HBE2 := Lib.hid hbel
      have m1 := (hbel.cell (p := ⟨W.heap.size, 3, none⟩) (lt_of_cell HX.out.1)).trans HX.out.1
      have m2 := (hbel.cell (p := ⟨W.heap.size + 1, 3, none⟩) (lt_of_cell HX.out.2)).trans HX.out.2
      clear hall hbel
      by_cases hlt : m < p
      · have hm1 : m < a.parts.length := by rw [← HP.out]; exact hlt
        have hm2 : m < b.parts.length := by rw [← HPP.out]; exact hm1
        obtain ⟨g, o, rfl, _, hg, hrep⟩ := HC.out (fun e => by rw [e] at hm1; exact absurd hm1 (Nat.not_lt_zero _))
        obtain ⟨g', o', rfl, _, hg', hrep'⟩ := HC'.out (fun e => by rw [e] at hm2; exact absurd hm2 (Nat.not_lt_zero _))
        obtain ⟨v1, hr1, hf1⟩ := hrep.at m hm1
        obtain ⟨v2, hr2, hf2⟩ := hrep'.at m hm2
        have hbw := HB2.out.trans (HBE2.out.mono HB2.out.size)
        have HCALL := Lib.hid (fun (w' : World) (hb : Below W.heap.size W w') => HIH.out a.parts[m] (List.getElem_mem hm1) b.parts[m] B v1 v2 false w' (Nat.le_trans HBW.out hb.size) (hr1.under HBW.out hb) (hr2.under HBW.out hb))
        obtain ⟨X, x3, xc, rfl, hx3, k0, k1, k2, k3, k4⟩ := hr1.cells hf1
        obtain ⟨Y, y3, yc, rfl, hy3, r0, r1, r2, r3, r4⟩ := hr2.cells hf2
        clear hx3 hy3
        obtain ⟨x0, hx0⟩ : ∃ x, x = a.parts[m].op := ⟨_, rfl⟩
        obtain ⟨x1, hx1⟩ : ∃ x, x = a.parts[m].text := ⟨_, rfl⟩
        obtain ⟨x2, hx2⟩ : ∃ x, x = a.parts[m].num := ⟨_, rfl⟩
        obtain ⟨x4, hx4⟩ : ∃ x, x = a.parts[m].pos := ⟨_, rfl⟩
        obtain ⟨y0, hy0⟩ : ∃ x, x = b.parts[m].op := ⟨_, rfl⟩
        obtain ⟨y1, hy1⟩ : ∃ x, x = b.parts[m].text := ⟨_, rfl⟩
        obtain ⟨y2, hy2⟩ : ∃ x, x = b.parts[m].num := ⟨_, rfl⟩
        obtain ⟨y4, hy4⟩ : ∃ x, x = b.parts[m].pos := ⟨_, rfl⟩
        rw [← hx0, ← hx1, ← hx2, ← hx4, ← hy0, ← hy1, ← hy2, ← hy4] at HCALL
        rw [← hx0] at k0
        rw [← hx1] at k1
        rw [← hx2] at k2
        rw [← hx4] at k4
        rw [← hy0] at r0
        rw [← hy1] at r1
        rw [← hy2] at r2
        rw [← hy4] at r4
        have z0 := (hbw.cell (p := ⟨g, o + m * 5, none⟩) hg).trans k0
        have u0 := (hbw.cell (p := ⟨g', o' + m * 5, none⟩) hg').trans r0
        have z1 := (hbw.cell (p := ⟨g, o + m * 5 + 1, none⟩) hg).trans k1
        have u1 := (hbw.cell (p := ⟨g', o' + m * 5 + 1, none⟩) hg').trans r1
        have z2 := (hbw.cell (p := ⟨g, o + m * 5 + 2, none⟩) hg).trans k2
        have u2 := (hbw.cell (p := ⟨g', o' + m * 5 + 2, none⟩) hg').trans r2
        have z3 := (hbw.cell (p := ⟨g, o + m * 5 + 3, none⟩) hg).trans k3
        have u3 := (hbw.cell (p := ⟨g', o' + m * 5 + 3, none⟩) hg').trans r3
        have z4 := (hbw.cell (p := ⟨g, o + m * 5 + 4, none⟩) hg).trans k4
        have u4 := (hbw.cell (p := ⟨g', o' + m * 5 + 4, none⟩) hg').trans r4
        obtain ⟨f, hff⟩ : ∃ f, f = sameE false a.parts[m] b.parts[m] := ⟨_, rfl⟩
        rw [← hff] at HCALL
        have HFF := Lib.hid hff
        have HBW2 := Lib.hid hbw
        clear hrep hrep' hr1 hr2 hf1 hf2 hbw hff hx0 hx1 hx2 hx4 hy0 hy1 hy2 hy4 k0 k1 k2 k3 k4 r0 r1 r2 r3 r4
        have w0 : (0 : Int) ≤ (m : Int) := by omega
        have w1 : (m : Int) < (p : Int) := by omega
        go_wp2_with fail
        refine wp_region_held_drew (S := fun X' => X'.cell? ⟨W.heap.size, 3, none⟩ = some (.slice (some ⟨g, o, none⟩) p c) ∧ X'.cell? ⟨W.heap.size + 1, 3, none⟩ = some (.slice (some ⟨g', o', none⟩) p c') ∧ X'.cell? ⟨g, o + m * 5, none⟩ = some (.int .i64 x0) ∧ X'.cell? ⟨g, o + m * 5 + 1, none⟩ = some (.string x1) ∧ X'.cell? ⟨g, o + m * 5 + 2, none⟩ = some (.int .i64 x2) ∧ X'.cell? ⟨g, o + m * 5 + 3, none⟩ = some (.slice X x3 xc) ∧ X'.cell? ⟨g, o + m * 5 + 4, none⟩ = some (.int .i64 x4) ∧ X'.cell? ⟨g', o' + m * 5, none⟩ = some (.int .i64 y0) ∧ X'.cell? ⟨g', o' + m * 5 + 1, none⟩ = some (.string y1) ∧ X'.cell? ⟨g', o' + m * 5 + 2, none⟩ = some (.int .i64 y2) ∧ X'.cell? ⟨g', o' + m * 5 + 3, none⟩ = some (.slice Y y3 yc) ∧ X'.cell? ⟨g', o' + m * 5 + 4, none⟩ = some (.int .i64 y4)) (by kernel_rfl) ⟨m1, m2, z0, z1, z2, z3, z4, u0, u1, u2, u3, u4⟩ (fun hHeld => ?_)
        refine rgT 0 ?_
        try simp only [rgS]
        refine rgT 1 ?_
        try simp only [rgS]
        refine rgT 2 ?_
        try simp only [rgS]
        refine rgT 3 ?_
        try simp only [rgS]
        refine rgT 4 ?_
        try simp only [rgS]
        refine rgT 5 ?_
        try simp only [rgS]
        refine rgT 6 ?_
        try simp only [rgS]
        refine rgT 7 ?_
        try simp only [rgS]
        refine rgT 8 ?_
        try simp only [rgS]
        refine rgT 9 ?_
        try simp only [rgS]
        refine rgT 10 ?_
        try simp only [rgS]
        refine rgO 11 (fun K hK => ?_)
        go_simp
        (with_reducible refine (HCALL.out _ (HBW2.out.drew)).mono ?_)
        rintro e w' ⟨rfl, hb⟩
        have hb : Below wr.heap.size wr w' := (Below.refl _ wr).drew.trans hb
        refine hK.out _ _ ⟨(hb.cell (lt_of_cell m1)).trans m1, (hb.cell (lt_of_cell m2)).trans m2, (hb.cell (lt_of_cell z0)).trans z0, (hb.cell (lt_of_cell z1)).trans z1, (hb.cell (lt_of_cell z2)).trans z2, (hb.cell (lt_of_cell z3)).trans z3, (hb.cell (lt_of_cell z4)).trans z4, (hb.cell (lt_of_cell u0)).trans u0, (hb.cell (lt_of_cell u1)).trans u1, (hb.cell (lt_of_cell u2)).trans u2, (hb.cell (lt_of_cell u3)).trans u3, (hb.cell (lt_of_cell u4)).trans u4⟩ (fun hH1 => ?_)
        have HB3 := Lib.hid ((HBE2.out).trans (hb.mono HBE2.out.size))
        clear hK K hHeld hb
        try simp only [rgS]
        refine rgT 12 ?_
        try simp only [rgS]
        refine wpAnyH_done (by kernel_rfl) ?_ _
        clear hH1
        by_cases hf : f = true
        · obtain rfl := hf
          go_wp2
          go_roundw
          case rel => exact ⟨m + 1, by omega, by go_num, fun x h1 h2 hx => by
            rcases Nat.lt_or_ge x m with h | h
            · exact HA2.out x h1 h2 h
            · obtain rfl : x = m := by omega
              exact HFF.out.symm, HB3.out⟩
          case measure => simp [intOf]; omega
        · obtain rfl : f = false := by simpa using hf
          have HR : Hid (sameE false a b = false) := Lib.hid (by
            rw [← Bool.not_eq_true, HSAME.out]
            intro h
            rw [(sameEs_iff.1 h).2 m hm1 hm2] at HFF
            exact absurd HFF.out (by decide))
          go_wp2
          go_ret
          rw [HR.out]
          exact ⟨rfl, HB2.out.trans (HB3.out.mono HB2.out.size)⟩
      · obtain rfl : m = p := by omega
        have HR : Hid (sameE false a b = true) := Lib.hid (by
          rw [HSAME.out]
          exact sameEs_iff.2 ⟨HPP.out, fun x h1 h2 => HA2.out x h1 h2 (by rw [HP.out]; exact h1)⟩)
        have hge2 : ¬ (m : Int) < (m : Int) := by omega
        go_wp2
        go_ret
        rw [HR.out]
        exact ⟨rfl, HB2.out.trans (HBE2.out.mono HB2.out.size)⟩
  | true =>
    obtain rfl : q1 = q2 := h4 rfl
    clear h4
    go_enter Tryz.func32, Tryz.ntmps32
    go_wp2
    rw [← HW2.out]
    go_loopw [7] (fun i wq => ∃ m : Nat, m ≤ p ∧ i = .int .i64 (m : Int) ∧ (∀ x (h1 : x < a.parts.length) (h2 : x < b.parts.length), x < m → sameE true a.parts[x] b.parts[x] = true) ∧ Below w2.heap.size w2 wq) (fun i _ => p - (intOf i).toNat)
    case atStart => exact ⟨0, by omega, rfl, fun x _ _ hx => absurd hx (Nat.not_lt_zero _), Below.refl _ _⟩
    case round =>
      obtain ⟨m, hm, rfl, hall, hbel⟩ := hrel
      have HA2 := Lib.hid hall
      have HBE2 := Lib.hid hbel
      have m1 := (hbel.cell (p := ⟨W.heap.size, 3, none⟩) (lt_of_cell HX.out.1)).trans HX.out.1
      have m2 := (hbel.cell (p := ⟨W.heap.size + 1, 3, none⟩) (lt_of_cell HX.out.2)).trans HX.out.2
      clear hall hbel
      by_cases hlt : m < p
      · have hm1 : m < a.parts.length := by rw [← HP.out]; exact hlt
        have hm2 : m < b.parts.length := by rw [← HPP.out]; exact hm1
        obtain ⟨g, o, rfl, _, hg, hrep⟩ := HC.out (fun e => by rw [e] at hm1; exact absurd hm1 (Nat.not_lt_zero _))
        obtain ⟨g', o', rfl, _, hg', hrep'⟩ := HC'.out (fun e => by rw [e] at hm2; exact absurd hm2 (Nat.not_lt_zero _))
        obtain ⟨v1, hr1, hf1⟩ := hrep.at m hm1
        obtain ⟨v2, hr2, hf2⟩ := hrep'.at m hm2
        have hbw := HB2.out.trans (HBE2.out.mono HB2.out.size)
        have HCALL := Lib.hid (fun (w' : World) (hb : Below W.heap.size W w') => HIH.out a.parts[m] (List.getElem_mem hm1) b.parts[m] B v1 v2 true w' (Nat.le_trans HBW.out hb.size) (hr1.under HBW.out hb) (hr2.under HBW.out hb))
        obtain ⟨X, x3, xc, rfl, hx3, k0, k1, k2, k3, k4⟩ := hr1.cells hf1
        obtain ⟨Y, y3, yc, rfl, hy3, r0, r1, r2, r3, r4⟩ := hr2.cells hf2
        clear hx3 hy3
        obtain ⟨x0, hx0⟩ : ∃ x, x = a.parts[m].op := ⟨_, rfl⟩
        obtain ⟨x1, hx1⟩ : ∃ x, x = a.parts[m].text := ⟨_, rfl⟩
        obtain ⟨x2, hx2⟩ : ∃ x, x = a.parts[m].num := ⟨_, rfl⟩
        obtain ⟨x4, hx4⟩ : ∃ x, x = a.parts[m].pos := ⟨_, rfl⟩
        obtain ⟨y0, hy0⟩ : ∃ x, x = b.parts[m].op := ⟨_, rfl⟩
        obtain ⟨y1, hy1⟩ : ∃ x, x = b.parts[m].text := ⟨_, rfl⟩
        obtain ⟨y2, hy2⟩ : ∃ x, x = b.parts[m].num := ⟨_, rfl⟩
        obtain ⟨y4, hy4⟩ : ∃ x, x = b.parts[m].pos := ⟨_, rfl⟩
        rw [← hx0, ← hx1, ← hx2, ← hx4, ← hy0, ← hy1, ← hy2, ← hy4] at HCALL
        rw [← hx0] at k0
        rw [← hx1] at k1
        rw [← hx2] at k2
        rw [← hx4] at k4
        rw [← hy0] at r0
        rw [← hy1] at r1
        rw [← hy2] at r2
        rw [← hy4] at r4
        have z0 := (hbw.cell (p := ⟨g, o + m * 5, none⟩) hg).trans k0
        have u0 := (hbw.cell (p := ⟨g', o' + m * 5, none⟩) hg').trans r0
        have z1 := (hbw.cell (p := ⟨g, o + m * 5 + 1, none⟩) hg).trans k1
        have u1 := (hbw.cell (p := ⟨g', o' + m * 5 + 1, none⟩) hg').trans r1
        have z2 := (hbw.cell (p := ⟨g, o + m * 5 + 2, none⟩) hg).trans k2
        have u2 := (hbw.cell (p := ⟨g', o' + m * 5 + 2, none⟩) hg').trans r2
        have z3 := (hbw.cell (p := ⟨g, o + m * 5 + 3, none⟩) hg).trans k3
        have u3 := (hbw.cell (p := ⟨g', o' + m * 5 + 3, none⟩) hg').trans r3
        have z4 := (hbw.cell (p := ⟨g, o + m * 5 + 4, none⟩) hg).trans k4
        have u4 := (hbw.cell (p := ⟨g', o' + m * 5 + 4, none⟩) hg').trans r4
        obtain ⟨f, hff⟩ : ∃ f, f = sameE true a.parts[m] b.parts[m] := ⟨_, rfl⟩
        rw [← hff] at HCALL
        have HFF := Lib.hid hff
        have HBW2 := Lib.hid hbw
        clear hrep hrep' hr1 hr2 hf1 hf2 hbw hff hx0 hx1 hx2 hx4 hy0 hy1 hy2 hy4 k0 k1 k2 k3 k4 r0 r1 r2 r3 r4
        have w0 : (0 : Int) ≤ (m : Int) := by omega
        have w1 : (m : Int) < (p : Int) := by omega
        go_wp2_with fail
        refine wp_region_held_drew (S := fun X' => X'.cell? ⟨W.heap.size, 3, none⟩ = some (.slice (some ⟨g, o, none⟩) p c) ∧ X'.cell? ⟨W.heap.size + 1, 3, none⟩ = some (.slice (some ⟨g', o', none⟩) p c') ∧ X'.cell? ⟨g, o + m * 5, none⟩ = some (.int .i64 x0) ∧ X'.cell? ⟨g, o + m * 5 + 1, none⟩ = some (.string x1) ∧ X'.cell? ⟨g, o + m * 5 + 2, none⟩ = some (.int .i64 x2) ∧ X'.cell? ⟨g, o + m * 5 + 3, none⟩ = some (.slice X x3 xc) ∧ X'.cell? ⟨g, o + m * 5 + 4, none⟩ = some (.int .i64 x4) ∧ X'.cell? ⟨g', o' + m * 5, none⟩ = some (.int .i64 y0) ∧ X'.cell? ⟨g', o' + m * 5 + 1, none⟩ = some (.string y1) ∧ X'.cell? ⟨g', o' + m * 5 + 2, none⟩ = some (.int .i64 y2) ∧ X'.cell? ⟨g', o' + m * 5 + 3, none⟩ = some (.slice Y y3 yc) ∧ X'.cell? ⟨g', o' + m * 5 + 4, none⟩ = some (.int .i64 y4)) (by kernel_rfl) ⟨m1, m2, z0, z1, z2, z3, z4, u0, u1, u2, u3, u4⟩ (fun hHeld => ?_)
        refine rgT 0 ?_
        try simp only [rgS]
        refine rgT 1 ?_
        try simp only [rgS]
        refine rgT 2 ?_
        try simp only [rgS]
        refine rgT 3 ?_
        try simp only [rgS]
        refine rgT 4 ?_
        try simp only [rgS]
        refine rgT 5 ?_
        try simp only [rgS]
        refine rgT 6 ?_
        try simp only [rgS]
        refine rgT 7 ?_
        try simp only [rgS]
        refine rgT 8 ?_
        try simp only [rgS]
        refine rgT 9 ?_
        try simp only [rgS]
        refine rgT 10 ?_
        try simp only [rgS]
        refine rgO 11 (fun K hK => ?_)
        go_simp
        (with_reducible refine (HCALL.out _ (HBW2.out.drew)).mono ?_)
        rintro e w' ⟨rfl, hb⟩
        have hb : Below wr.heap.size wr w' := (Below.refl _ wr).drew.trans hb
        refine hK.out _ _ ⟨(hb.cell (lt_of_cell m1)).trans m1, (hb.cell (lt_of_cell m2)).trans m2, (hb.cell (lt_of_cell z0)).trans z0, (hb.cell (lt_of_cell z1)).trans z1, (hb.cell (lt_of_cell z2)).trans z2, (hb.cell (lt_of_cell z3)).trans z3, (hb.cell (lt_of_cell z4)).trans z4, (hb.cell (lt_of_cell u0)).trans u0, (hb.cell (lt_of_cell u1)).trans u1, (hb.cell (lt_of_cell u2)).trans u2, (hb.cell (lt_of_cell u3)).trans u3, (hb.cell (lt_of_cell u4)).trans u4⟩ (fun hH1 => ?_)
        have HB3 := Lib.hid ((HBE2.out).trans (hb.mono HBE2.out.size))
        clear hK K hHeld hb
        try simp only [rgS]
        refine rgT 12 ?_
        try simp only [rgS]
        refine wpAnyH_done (by kernel_rfl) ?_ _
        clear hH1
        by_cases hf : f = true
        · obtain rfl := hf
          go_wp2
          go_roundw
          case rel => exact ⟨m + 1, by omega, by go_num, fun x h1 h2 hx => by
            rcases Nat.lt_or_ge x m with h | h
            · exact HA2.out x h1 h2 h
            · obtain rfl : x = m := by omega
              exact HFF.out.symm, HB3.out⟩
          case measure => simp [intOf]; omega
        · obtain rfl : f = false := by simpa using hf
          have HR : Hid (sameE true a b = false) := Lib.hid (by
            rw [← Bool.not_eq_true, HSAME.out]
            intro h
            rw [(sameEs_iff.1 h).2 m hm1 hm2] at HFF
            exact absurd HFF.out (by decide))
          go_wp2
          go_ret
          rw [HR.out]
          exact ⟨rfl, HB2.out.trans (HB3.out.mono HB2.out.size)⟩
      · obtain rfl : m = p := by omega
        have HR : Hid (sameE true a b = true) := Lib.hid (by
          rw [HSAME.out]
          exact sameEs_iff.2 ⟨HPP.out, fun x h1 h2 => HA2.out x h1 h2 (by rw [HP.out]; exact h1)⟩)
        have hge2 : ¬ (m : Int) < (m : Int) := by omega
        go_wp2
        go_ret
        rw [HR.out]
        exact ⟨rfl, HB2.out.trans (HBE2.out.mono HB2.out.size)⟩
theorem refSameE_any (a : Ex) : RSameAsk a := by
  induction a using Ex.ind with
  | h op s n l p ih =>
    intro b B va vb pl W hB ha hb
    by_cases h : (Ex.mk op s n l p).op = b.op ∧ (Ex.mk op s n l p).text = b.text ∧ (Ex.mk op s n l p).num = b.num ∧ (pl = true → (Ex.mk op s n l p).pos = b.pos) ∧ (Ex.mk op s n l p).parts.length = b.parts.length
    · obtain ⟨h1, h2, h3, h4, h5⟩ := h
      exact refSameE_eq (Ex.mk op s n l p) ih b B va vb pl W hB ha hb h1 h2 h3 h4 h5
    · exact refSameE_ne _ b B va vb pl W ha hb h
end Go.Proofs.YtcjfealalokjaaaGreatDoor
