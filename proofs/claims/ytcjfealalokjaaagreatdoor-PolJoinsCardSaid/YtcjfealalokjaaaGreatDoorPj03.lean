/- PolComp, PolReads, PolData, PolBackM, PolNear, PolJoinS, PolJoinM: merged. -/
import Derived.Test.YtcjfealalokjaaaGreatDoorPa02
import Derived.Test.YtcjfealalokjaaaGreatDoorPa11
import Derived.Test.YtcjfealalokjaaaGreatDoorPa15
import Derived.Test.YtcjfealalokjaaaGreatDoorPa37
import Derived.Test.YtcjfealalokjaaaGreatDoorPj02
set_option linter.all false
namespace Go.Proofs.YtcjfealalokjaaaGreatDoor
open Go Go.RowKit
/-- The same expressions, but for places. -/
inductive SameX : Ex → Ex → Prop
  | mk {op : Int} {s : ByteArray} {n p q : Int} {l m : List Ex} : l.length = m.length → (∀ i (h1 : i < l.length) (h2 : i < m.length), SameX l[i] m[i]) → SameX (.mk op s n l p) (.mk op s n m q)
theorem SameX.leaf {op : Int} {s : ByteArray} {n p q : Int} : SameX (.mk op s n [] p) (.mk op s n [] q) := .mk rfl fun i h => absurd h (Nat.not_lt_zero _)
theorem SameX.one {op : Int} {s : ByteArray} {n p q : Int} {x y : Ex} (h : SameX x y) : SameX (.mk op s n [x] p) (.mk op s n [y] q) := .mk rfl fun i h1 _ => by
  match i, h1 with
  | 0, _ => exact h
theorem SameX.two {op : Int} {s : ByteArray} {n p q : Int} {x y u v : Ex} (h : SameX x u) (k : SameX y v) : SameX (.mk op s n [x, y] p) (.mk op s n [u, v] q) := .mk rfl fun i h1 _ => by
  match i, h1 with
  | 0, _ => exact h
  | 1, _ => exact k
/-! ### Heads -/
theorem signs_cons {u t : TokM} (h : er u = er t) : signsT u = signsT t := by
  have h1 := congrArg (·.1) h
  have h2 := congrArg (·.2.1) h
  simp only [er] at h1 h2
  unfold signsT
  rw [h1, h2]
theorem er_kind {u t : TokM} (h : er u = er t) : u.kind = t.kind := congrArg (·.1) h
theorem er_text {u t : TokM} (h : er u = er t) : u.text = t.text := congrArg (·.2.1) h
theorem er_num {u t : TokM} (h : er u = er t) : u.num = t.num := congrArg (·.2.2) h
/-! ### Reading at each level -/
end Go.Proofs.YtcjfealalokjaaaGreatDoor
namespace Go.Proofs.YtcjfealalokjaaaGreatDoor
open Go Go.RowKit
def SameL (l m : List Ex) : Prop := l.length = m.length ∧ ∀ i (h1 : i < l.length) (h2 : i < m.length), SameX l[i] m[i]
theorem SameL.nil : SameL [] [] := ⟨rfl, fun i h => absurd h (Nat.not_lt_zero _)⟩
theorem SameL.cons {x y : Ex} {l m : List Ex} (h : SameX x y) (k : SameL l m) : SameL (x :: l) (y :: m) := ⟨by simp [k.1], fun i h1 h2 => by
  match i, h1, h2 with
  | 0, _, _ => exact h
  | i + 1, h1, h2 => exact k.2 i (by simpa using h1) (by simpa using h2)⟩
theorem SameL.ex {l m : List Ex} (h : SameL l m) {op : Int} {s : ByteArray} {n p q : Int} : SameX (.mk op s n l p) (.mk op s n m q) := .mk h.1 h.2
end Go.Proofs.YtcjfealalokjaaaGreatDoor
namespace Go.Proofs.YtcjfealalokjaaaGreatDoor
open Go Go.RowKit
/-! ### Rows that grow -/
theorem FlatR.length {S : Nat → Prop} {W : World} : ∀ {l : List RuleM} {xs : List Value}, FlatR W S l xs → xs.length = l.length * 4
  | [], xs, h => by obtain rfl : xs = [] := h; rfl
  | x :: r, xs, h => by
    obtain ⟨a0, a1, a2, a3, ys, e, h1, h2⟩ := h
    rw [e, List.length_cons, List.length_cons, List.length_cons, List.length_cons, h2.length, List.length_cons]
    omega
end Go.Proofs.YtcjfealalokjaaaGreatDoor
namespace Go.Proofs.YtcjfealalokjaaaGreatDoor
open Go Go.RowKit
def SameR (x y : RuleM) : Prop := x.deny = y.deny ∧ x.scopes = y.scopes ∧ SameL x.whens y.whens
inductive SameRs : List RuleM → List RuleM → Prop
  | nil : SameRs [] []
  | cons {x y : RuleM} {l m : List RuleM} : SameR x y → SameRs l m → SameRs (x :: l) (y :: m)
end Go.Proofs.YtcjfealalokjaaaGreatDoor
namespace Go.Proofs.YtcjfealalokjaaaGreatDoor
open Go Go.RowKit
/-- The same tokens ahead, but for places. -/
def Agree (n : Nat) (r r' : List TokM) : Prop := (r.take n).map er = (r'.take n).map er
theorem Agree.mono {n m : Nat} {r r' : List TokM} (h : Agree n r r') (hm : m ≤ n) : Agree m r r' := by
  unfold Agree at *
  have := congrArg (List.take m) h
  rw [← List.map_take, ← List.map_take, List.take_take, List.take_take, Nat.min_eq_left hm] at this
  exact this
theorem Agree.drop {n k : Nat} {r r' : List TokM} (h : Agree (k + n) r r') : Agree n (r.drop k) (r'.drop k) := by
  unfold Agree at *
  have := congrArg (List.drop k) h
  rw [← List.map_drop, ← List.map_drop, List.drop_take, List.drop_take, Nat.add_sub_cancel_left] at this
  exact this
theorem Agree.first {r r' : List TokM} (h : Agree 1 r r') (hr : 0 < r.length) : er (hdT r) = er (hdT r') := by
  unfold Agree at h
  cases r with
  | nil => exact absurd hr (Nat.lt_irrefl 0)
  | cons t q =>
    cases r' with
    | nil => cases h
    | cons u q' =>
      rw [List.take_succ_cons, List.take_succ_cons, List.map_cons, List.map_cons] at h
      exact (List.cons.inj h).1
theorem Agree.hd {n k : Nat} {r r' : List TokM} (h : Agree n r r') (hk : k < n) (hl : k < r.length) : er (hdT (r.drop k)) = er (hdT (r'.drop k)) :=
  (Agree.drop (h.mono (show k + 1 ≤ n by omega))).first (by rw [List.length_drop]; omega)
theorem isT_er {a b : List TokM} (h : er (hdT a) = er (hdT b)) (k : Int) (s : ByteArray) : isT a k s = isT b k s := by
  unfold isT
  rw [er_kind h, er_text h]
theorem Agree.isT {n k : Nat} {r r' : List TokM} (h : Agree n r r') (hk : k < n) (hl : k < r.length) (kd : Int) (s : ByteArray) : isT (r.drop k) kd s = isT (r'.drop k) kd s := isT_er (h.hd hk hl) kd s
theorem Agree.isT0 {n : Nat} {r r' : List TokM} (h : Agree n r r') (hk : 0 < n) (hl : 0 < r.length) (kd : Int) (s : ByteArray) : Go.Proofs.YtcjfealalokjaaaGreatDoor.isT r kd s = Go.Proofs.YtcjfealalokjaaaGreatDoor.isT r' kd s := h.isT hk hl kd s
theorem drop_at {r : List TokM} {a b : Nat} (h : r.drop a = r.drop b) (hb : b < r.length) : a = b := by
  have := congrArg List.length h
  rw [List.length_drop, List.length_drop] at this
  omega
/-- What is read is read, too, where the same tokens stand, and one behind. -/
def Loc (f : List TokM → ResE) : Prop := ∀ (r r' : List TokM) (k : Nat), Ends r → Ends r' → (f r).2.2 = 0 → (f r).2.1 = r.drop k → k < r.length → Agree (k + 1) r r' → (f r').2.2 = 0 ∧ (f r').2.1 = r'.drop k ∧ SameX (f r).1 (f r').1
theorem nn {x : Int} (h : ¬ x ≠ 0) : x = 0 := Decidable.of_not_not h
theorem bad120 {P : Prop} (h : (120 : Int) = 0) : P := absurd h (by decide)
theorem opdOf_loc {g : Option (List TokM → ResE)} (hg : ∀ f, g = some f → Cuts f ∧ Loc f) : Loc (opdOf g) := fun r r' k hr hr' he hk hkl ha => by
  have hl := hr.len
  have h0 := ha.hd (k := 0) (by omega) hl
  rw [List.drop_zero, List.drop_zero] at h0
  have T0 := fun kd s => isT_er h0 kd s
  unfold opdOf at he hk ⊢
  by_cases h1 : isT r 4 kOpen = true
  · rw [if_pos h1] at he hk
    rw [if_pos h1, if_pos (by rw [← T0]; exact h1)]
    cases g with
    | none => exact absurd he (show ¬ (121 : Int) = 0 by decide)
    | some f =>
      obtain ⟨hcf, hlf⟩ := hg f rfl
      simp only at he hk ⊢
      have hr1 := hr.next h1 (by decide)
      have hr1' := hr'.next (show isT r' 4 kOpen = true by rw [← T0]; exact h1) (by decide)
      by_cases h2 : (f (r.drop 1)).2.2 ≠ 0
      · rw [if_pos h2] at he; exact absurd he h2
      rw [if_neg h2] at he hk
      rw [if_neg h2]
      by_cases h3 : isT (f (r.drop 1)).2.1 4 kShut = true
      · rw [if_pos h3] at hk
        rw [if_pos h3]
        obtain ⟨j, e1, e2, _⟩ := hcf _ hr1
        have hjl := e2.len
        rw [List.length_drop] at hjl
        have hk2 : r.drop (1 + j + 1) = r.drop k := by rw [← hk]; simp only; rw [e1, List.drop_drop, List.drop_drop] <;> (congr 1; try omega)
        obtain rfl := (drop_at hk2 hkl)
        obtain ⟨q1, q2, q3⟩ := hlf (r.drop 1) (r'.drop 1) j hr1 hr1' (nn h2) e1 (by omega) (Agree.drop (k := 1) (n := j + 1) (ha.mono (by omega)))
        rw [if_neg (by rw [q1]; exact fun h => h rfl)]
        have h3' : isT (f (r'.drop 1)).2.1 4 kShut = true := by
          rw [q2, List.drop_drop, ← ha.isT (k := 1 + j) (by omega) (by omega), ← List.drop_drop, ← e1]; exact h3
        rw [if_pos h3']
        exact ⟨rfl, by simp only; rw [q2, List.drop_drop, List.drop_drop] <;> (congr 1; try omega), q3⟩
      · rw [if_neg h3] at he; exact bad120 he
  rw [if_neg h1] at he hk
  rw [if_neg h1, if_neg (by rw [← T0]; exact h1)]
  by_cases h2 : (hdT r).kind = 3
  · rw [if_pos h2] at hk
    obtain rfl := (drop_at (show r.drop 1 = r.drop k from hk) hkl)
    rw [if_pos h2, if_pos (by rw [← er_kind h0]; exact h2)]
    exact ⟨rfl, rfl, by rw [er_num h0]; exact SameX.leaf⟩
  rw [if_neg h2] at he hk
  rw [if_neg h2, if_neg (by rw [← er_kind h0]; exact h2)]
  by_cases h3 : (hdT r).kind = 2
  · rw [if_pos h3] at hk
    obtain rfl := (drop_at (show r.drop 1 = r.drop k from hk) hkl)
    rw [if_pos h3, if_pos (by rw [← er_kind h0]; exact h3)]
    exact ⟨rfl, rfl, by rw [er_text h0]; exact SameX.leaf⟩
  rw [if_neg h3] at he hk
  rw [if_neg h3, if_neg (by rw [← er_kind h0]; exact h3)]
  by_cases h4 : isT r 1 wTrue = true
  · rw [if_pos h4] at hk
    obtain rfl := (drop_at (show r.drop 1 = r.drop k from hk) hkl)
    rw [if_pos h4, if_pos (by rw [← T0]; exact h4)]
    exact ⟨rfl, rfl, SameX.leaf⟩
  rw [if_neg h4] at he hk
  rw [if_neg h4, if_neg (by rw [← T0]; exact h4)]
  by_cases h5 : isT r 1 wFalse = true
  · rw [if_pos h5] at hk
    obtain rfl := (drop_at (show r.drop 1 = r.drop k from hk) hkl)
    rw [if_pos h5, if_pos (by rw [← T0]; exact h5)]
    exact ⟨rfl, rfl, SameX.leaf⟩
  rw [if_neg h5] at he hk
  rw [if_neg h5, if_neg (by rw [← T0]; exact h5)]
  by_cases h6 : isT r 1 wClaim = true
  · rw [if_pos h6] at he hk
    rw [if_pos h6, if_pos (by rw [← T0]; exact h6)]
    by_cases h7 : isT (r.drop 1) 4 kOpen = false
    · rw [if_pos h7] at he; exact bad120 he
    rw [if_neg h7] at he hk
    by_cases h8 : (hdT (r.drop 2)).kind ≠ 2
    · rw [if_pos h8] at he; exact bad120 he
    rw [if_neg h8] at he hk
    by_cases h9 : isT (r.drop 3) 4 kShut = false
    · rw [if_pos h9] at he; exact bad120 he
    rw [if_neg h9] at hk
    obtain rfl := (drop_at (show r.drop 4 = r.drop k from hk) hkl)
    have e2 := ha.hd (k := 2) (by omega) (by omega)
    rw [if_neg h7, if_neg h8, if_neg h9, if_neg (by rw [← ha.isT (k := 1) (by omega) (by omega)]; exact h7), if_neg (by rw [← er_kind e2]; exact h8), if_neg (by rw [← ha.isT (k := 3) (by omega) (by omega)]; exact h9)]
    exact ⟨rfl, rfl, by rw [er_text e2]; exact SameX.leaf⟩
  rw [if_neg h6] at he hk
  rw [if_neg h6, if_neg (by rw [← T0]; exact h6)]
  by_cases h7 : (hdT r).kind = 1 ∧ kept (hdT r).text = false
  · rw [if_pos h7] at hk
    obtain rfl := (drop_at (show r.drop 1 = r.drop k from hk) hkl)
    rw [if_pos h7, if_pos (by rw [← er_kind h0, ← er_text h0]; exact h7)]
    exact ⟨rfl, rfl, by rw [er_text h0]; exact SameX.leaf⟩
  · rw [if_neg h7] at he; exact bad120 he
theorem itemsGo_loc {opd : List TokM → ResE} (hc : Cuts opd) (ho : Loc opd) (r r' : List TokM) (k : Nat) (hr : Ends (r.drop 1)) (hr' : Ends (r'.drop 1)) (he : (itemsGo opd r).2.2 = 0) (hk : (itemsGo opd r).2.1 = r.drop k) (hkl : k < r.length) (ha : Agree (k + 1) r r') :
    (itemsGo opd r').2.2 = 0 ∧ (itemsGo opd r').2.1 = r'.drop k ∧ SameL (itemsGo opd r).1 (itemsGo opd r').1 := by
  obtain ⟨j, e1, e2, e3⟩ := hc _ hr
  have hjl := e2.len
  rw [List.length_drop, List.length_drop] at hjl
  have e1' := e1
  rw [itemsGo.eq_1 opd r] at he hk ⊢
  by_cases h1 : (opd (r.drop 1)).2.2 ≠ 0
  · rw [if_pos h1] at he; exact absurd he h1
  have hj0 := e3 (nn h1)
  rw [if_neg h1] at he hk
  rw [if_neg h1]
  have fin : ∀ (hjk : 1 + j < k), (opd (r'.drop 1)).2.2 = 0 ∧ (opd (r'.drop 1)).2.1 = (r'.drop 1).drop j ∧ SameX (opd (r.drop 1)).1 (opd (r'.drop 1)).1 ∧ (∀ kd s, isT (opd (r.drop 1)).2.1 kd s = isT (opd (r'.drop 1)).2.1 kd s) := fun hjk => by
    obtain ⟨q1, q2, q3⟩ := ho (r.drop 1) (r'.drop 1) j hr hr' (nn h1) e1 (by rw [List.length_drop]; omega) (Agree.drop (k := 1) (n := j + 1) (ha.mono (by omega)))
    refine ⟨q1, q2, q3, fun kd s => ?_⟩
    rw [q2, e1, List.drop_drop, List.drop_drop]
    exact ha.isT (by omega) (by omega) kd s
  by_cases h2 : isT (opd (r.drop 1)).2.1 4 kRight = true
  · rw [if_pos h2] at hk
    rw [if_pos h2]
    have hk2 : r.drop (1 + j + 1) = r.drop k := by rw [← hk]; simp only; rw [e1, List.drop_drop, List.drop_drop] <;> (congr 1; try omega)
    obtain rfl := drop_at hk2 hkl
    obtain ⟨q1, q2, q3, q4⟩ := fin (by omega)
    rw [itemsGo.eq_1 opd r', if_neg (by rw [q1]; exact fun h => h rfl), if_pos (by rw [← q4]; exact h2)]
    exact ⟨rfl, by simp only; rw [q2, List.drop_drop, List.drop_drop] <;> (congr 1; try omega), SameL.nil.cons q3⟩
  rw [if_neg h2] at he hk
  rw [if_neg h2]
  by_cases h3 : isT (opd (r.drop 1)).2.1 4 kComma = false
  · rw [if_pos h3] at he; exact bad120 he
  rw [if_neg h3] at he hk
  rw [if_neg h3]
  have hlt : (opd (r.drop 1)).2.1.length < r.length := by rw [e1, List.length_drop, List.length_drop]; omega
  rw [dif_pos hlt] at he hk
  rw [dif_pos hlt]
  have h4 := Bool.not_eq_false _ |>.mp h3
  rw [e1] at h4
  have h5 := e2.next h4 (by decide)
  simp only at he hk ⊢
  obtain ⟨m, f1, f2, f3⟩ := itemsGo_cuts hc (opd (r.drop 1)).2.1 (by rw [e1]; exact h5)
  have hml := f2.len
  rw [e1, List.drop_drop] at f2
  rw [e1, List.drop_drop, List.drop_drop, List.length_drop] at hml
  have hm1 := f3 he
  have hk2 : r.drop (1 + j + m) = r.drop k := by rw [← hk, f1, e1, List.drop_drop, List.drop_drop] <;> (congr 1; try omega)
  obtain rfl := drop_at hk2 hkl
  obtain ⟨q1, q2, q3, q4⟩ := fin (by omega)
  have h4' : isT (opd (r'.drop 1)).2.1 4 kComma = true := by rw [← q4]; exact Bool.not_eq_false _ |>.mp h3
  have hr2' : Ends (r'.drop (1 + j)) := (show Ends ((r'.drop 1).drop j) from by
    have := hc _ hr'
    obtain ⟨j2, g1, g2, _⟩ := this
    have : (r'.drop 1).drop j2 = (r'.drop 1).drop j := by rw [← g1, q2]
    rw [← this]; exact g2) |> fun h => by rw [List.drop_drop] at h; exact h
  have hlt' : (opd (r'.drop 1)).2.1.length < r'.length := by
    have := hr2'.len
    rw [q2, List.drop_drop, List.length_drop]
    rw [List.length_drop] at this
    omega
  obtain ⟨i1, i2, i3⟩ := itemsGo_loc hc ho (opd (r.drop 1)).2.1 (opd (r'.drop 1)).2.1 m (by rw [e1]; exact h5) (by
    rw [q2]
    rw [q2, List.drop_drop] at h4'
    exact hr2'.next h4' (by decide) |> fun h => by rw [List.drop_drop] at h; rw [List.drop_drop, List.drop_drop, show 1 + (j + 1) = 1 + j + 1 by omega]; exact h) he f1 (by rw [e1, List.length_drop, List.length_drop]; omega) (by
    rw [e1, q2, List.drop_drop, List.drop_drop]
    exact Agree.drop (k := 1 + j) (n := m + 1) (ha.mono (by omega)))
  rw [itemsGo.eq_1 opd r', if_neg (by rw [q1]; exact fun h => h rfl), if_neg (by rw [← q4]; exact h2), if_neg (by rw [h4']; decide), dif_pos hlt']
  exact ⟨i1, by simp only; rw [i2, q2, List.drop_drop, List.drop_drop] <;> (congr 1; try omega), i3.cons q3⟩
termination_by r.length
decreasing_by exact hlt
theorem signs_er {t u : TokM} (h : er t = er u) : signsT t = signsT u := signs_cons h
theorem cmpOf_loc {opd : List TokM → ResE} (hc : Cuts opd) (ho : Loc opd) : Loc (cmpOf opd) := fun r r' k hr hr' he hk hkl ha => by
  obtain ⟨j, e1, e2, e3⟩ := hc r hr
  have hjl := e2.len
  rw [List.length_drop] at hjl
  unfold cmpOf at he hk ⊢
  simp only at he hk ⊢
  by_cases h1 : (opd r).2.2 ≠ 0
  · rw [if_pos h1] at he; exact absurd he h1
  rw [if_neg h1] at he hk
  rw [if_neg h1]
  have fin : ∀ (hjk : j ≤ k), (opd r').2.2 = 0 ∧ (opd r').2.1 = r'.drop j ∧ SameX (opd r).1 (opd r').1 ∧ er (hdT (opd r).2.1) = er (hdT (opd r').2.1) := fun hjk => by
    obtain ⟨q1, q2, q3⟩ := ho r r' j hr hr' (nn h1) e1 (by omega) (ha.mono (by omega))
    refine ⟨q1, q2, q3, ?_⟩
    rw [q2, e1]
    exact ha.hd (by omega) (by omega)
  have ends' : ∀ (hjk : j ≤ k), Ends (r'.drop j) := fun hjk => by
    obtain ⟨q1, q2, _, _⟩ := fin hjk
    obtain ⟨j2, g1, g2, _⟩ := hc _ hr'
    have : r'.drop j2 = r'.drop j := by rw [← g1, q2]
    rw [← this]; exact g2
  by_cases h2 : isT (opd r).2.1 1 wIn = true
  · rw [if_pos h2] at he hk
    rw [if_pos h2]
    have h2e := h2
    rw [e1] at h2e
    have h3 := e2.next h2e (by decide)
    rw [List.drop_drop] at h3
    by_cases h4 : isT ((opd r).2.1.drop 1) 4 kLeft = false
    · rw [if_pos h4] at he; exact bad120 he
    rw [if_neg h4] at he hk
    rw [if_neg h4]
    by_cases h6 : (itemsGo opd ((opd r).2.1.drop 1)).2.2 ≠ 0
    · rw [if_pos h6] at he; exact absurd he h6
    rw [if_neg h6] at hk
    rw [if_neg h6]
    have h4e := h4
    rw [e1, List.drop_drop] at h4e
    have h5 := h3.next (Bool.not_eq_false _ |>.mp h4e) (by decide)
    obtain ⟨m, f1, f2, f3⟩ := itemsGo_cuts hc (r.drop (j + 1)) h5
    have hml := f2.len
    rw [List.drop_drop, List.length_drop] at hml
    have hd1 : (opd r).2.1.drop 1 = r.drop (j + 1) := by rw [e1, List.drop_drop]
    have hm1 := f3 (by rw [← hd1]; exact nn h6)
    have hk2 : r.drop (j + 1 + m) = r.drop k := by rw [← hk, hd1, f1, List.drop_drop]
    obtain rfl := drop_at hk2 hkl
    obtain ⟨q1, q2, q3, q4⟩ := fin (by omega)
    have hd1' : (opd r').2.1.drop 1 = r'.drop (j + 1) := by rw [q2, List.drop_drop]
    have h2' : isT (opd r').2.1 1 wIn = true := by rw [← isT_er q4]; exact h2
    have h3' : Ends (r'.drop (j + 1)) := by
      have h := h2'
      rw [q2] at h
      have := (ends' (by omega)).next h (by decide)
      rwa [List.drop_drop] at this
    have h4' : isT (r'.drop (j + 1)) 4 kLeft = true := by
      rw [← ha.isT (k := j + 1) (by omega) (by omega)]; exact Bool.not_eq_false _ |>.mp h4e
    obtain ⟨i1, i2, i3⟩ := itemsGo_loc hc ho (r.drop (j + 1)) (r'.drop (j + 1)) m h5 (h3'.next h4' (by decide)) (by rw [← hd1]; exact nn h6) f1 (by rw [List.length_drop]; omega) (Agree.drop (k := j + 1) (n := m + 1) (ha.mono (by omega)))
    rw [if_neg (by rw [q1]; exact fun h => h rfl), if_pos h2', hd1', if_neg (by rw [h4']; decide), if_neg (by rw [i1]; exact fun h => h rfl), hd1]
    exact ⟨rfl, by simp only; rw [i2, List.drop_drop], (i3.cons q3).ex⟩
  rw [if_neg h2] at he hk
  rw [if_neg h2]
  by_cases h3 : (signsT (hdT (opd r).2.1)).1 = 0
  · rw [if_pos h3] at hk
    rw [if_pos h3]
    have hk2 : r.drop j = r.drop k := by rw [← hk, e1]
    obtain rfl := drop_at hk2 hkl
    obtain ⟨q1, q2, q3, q4⟩ := fin (by omega)
    rw [if_neg (by rw [q1]; exact fun h => h rfl), if_neg (by rw [← isT_er q4]; exact h2), if_pos (by rw [← signs_er q4]; exact h3)]
    exact ⟨q1, q2, q3⟩
  rw [if_neg h3] at he hk
  rw [if_neg h3]
  have hd1 : (opd r).2.1.drop 1 = r.drop (j + 1) := by rw [e1, List.drop_drop]
  have hk5 : (hdT (r.drop j)).kind ≠ 5 := fun e => h3 (by rw [e1]; unfold signsT; rw [if_neg (fun h => by have := h.1; rw [e] at this; exact absurd this (by decide)), if_pos (by rw [e]; decide)])
  have h4 : Ends (r.drop (j + 1)) := by
    have := e2.tail hk5
    rwa [List.drop_drop] at this
  by_cases h6 : (opd ((opd r).2.1.drop 1)).2.2 ≠ 0
  · rw [if_pos h6] at he; exact absurd he h6
  rw [if_neg h6] at hk
  rw [if_neg h6]
  obtain ⟨m, f1, f2, f3⟩ := hc _ h4
  have hml := f2.len
  rw [List.drop_drop, List.length_drop] at hml
  have hk2 : r.drop (j + 1 + m) = r.drop k := by rw [← hk]; simp only; rw [hd1, f1, List.drop_drop]
  obtain rfl := drop_at hk2 hkl
  obtain ⟨q1, q2, q3, q4⟩ := fin (by omega)
  have hd1' : (opd r').2.1.drop 1 = r'.drop (j + 1) := by rw [q2, List.drop_drop]
  have h4' : Ends (r'.drop (j + 1)) := by
    have := (ends' (by omega)).tail (by rw [← er_kind (ha.hd (k := j) (by omega) (by omega))]; exact hk5)
    rwa [List.drop_drop] at this
  obtain ⟨i1, i2, i3⟩ := ho (r.drop (j + 1)) (r'.drop (j + 1)) m h4 h4' (by rw [← hd1]; exact nn h6) f1 (by rw [List.length_drop]; omega) (Agree.drop (k := j + 1) (n := m + 1) (ha.mono (by omega)))
  rw [if_neg (by rw [q1]; exact fun h => h rfl), if_neg (by rw [← isT_er q4]; exact h2), if_neg (by rw [← signs_er q4]; exact h3), hd1', if_neg (by rw [i1]; exact fun h => h rfl), hd1]
  refine ⟨rfl, by simp only; rw [i2, List.drop_drop], ?_⟩
  simp only
  rw [signs_er q4]
  cases (signsT (hdT (opd r').2.1)).2 with
  | true => exact SameX.two i3 q3
  | false => exact SameX.two q3 i3
theorem notOf_loc {g : Option (List TokM → ResE)} {cmp : List TokM → ResE} (hg : ∀ f, g = some f → Cuts f ∧ Loc f) (hc : Loc cmp) : Loc (notOf g cmp) := fun r r' k hr hr' he hk hkl ha => by
  have hl := hr.len
  have T0 := fun kd s => ha.isT0 (by omega) hl kd s
  unfold notOf at he hk ⊢
  by_cases h1 : isT r 1 wNot = false
  · rw [if_pos h1] at he hk
    rw [if_pos h1, if_pos (by rw [← T0]; exact h1)]
    exact hc r r' k hr hr' he hk hkl ha
  rw [if_neg h1] at he hk
  rw [if_neg h1, if_neg (by rw [← T0]; exact h1)]
  have h1t := Bool.not_eq_false _ |>.mp h1
  cases g with
  | none => exact absurd he (show ¬ (121 : Int) = 0 by decide)
  | some f =>
    obtain ⟨hcf, hlf⟩ := hg f rfl
    simp only at he hk ⊢
    have hr1 := hr.next h1t (by decide)
    have hr1' := hr'.next (show isT r' 1 wNot = true by rw [← T0]; exact h1t) (by decide)
    by_cases h2 : (f (r.drop 1)).2.2 ≠ 0
    · rw [if_pos h2] at he; exact absurd he h2
    rw [if_neg h2] at hk
    rw [if_neg h2]
    obtain ⟨j, e1, e2, _⟩ := hcf _ hr1
    have hjl := e2.len
    rw [List.length_drop, List.length_drop] at hjl
    have hk2 : r.drop (1 + j) = r.drop k := by rw [← hk]; simp only; rw [e1, List.drop_drop]
    obtain rfl := drop_at hk2 hkl
    obtain ⟨q1, q2, q3⟩ := hlf (r.drop 1) (r'.drop 1) j hr1 hr1' (nn h2) e1 (by rw [List.length_drop]; omega) (Agree.drop (k := 1) (n := j + 1) (ha.mono (by omega)))
    rw [if_neg (by rw [q1]; exact fun h => h rfl)]
    exact ⟨rfl, by simp only; rw [q2, List.drop_drop], SameX.one q3⟩
theorem chainGo_loc {word : ByteArray} {op : Int} {next : List TokM → ResE} (hc : Cuts next) (hn : Loc next) (e e' : Ex) (r r' : List TokM) (k : Nat) (hs : SameX e e') (hr : Ends r) (hr' : Ends r') (he : (chainGo word op next e r).2.2 = 0) (hk : (chainGo word op next e r).2.1 = r.drop k) (hkl : k < r.length) (ha : Agree (k + 1) r r') :
    (chainGo word op next e' r').2.2 = 0 ∧ (chainGo word op next e' r').2.1 = r'.drop k ∧ SameX (chainGo word op next e r).1 (chainGo word op next e' r').1 := by
  have hl := hr.len
  have T0 := fun kd s => ha.isT0 (by omega) hl kd s
  rw [chainGo.eq_1 word op next e r] at he hk ⊢
  by_cases h1 : isT r 1 word = false
  · rw [if_pos h1] at hk
    obtain rfl : 0 = k := drop_at (show r.drop 0 = r.drop k from hk) hkl
    rw [if_pos h1, chainGo.eq_1 word op next e' r', if_pos (by rw [← T0]; exact h1)]
    exact ⟨rfl, rfl, hs⟩
  rw [if_neg h1] at he hk
  rw [if_neg h1]
  have h1t := Bool.not_eq_false _ |>.mp h1
  have hr1 := hr.next h1t (by decide)
  have hr1' := hr'.next (show isT r' 1 word = true by rw [← T0]; exact h1t) (by decide)
  by_cases h2 : (next (r.drop 1)).2.2 ≠ 0
  · rw [if_pos h2] at he; exact absurd he h2
  rw [if_neg h2] at he hk
  rw [if_neg h2]
  obtain ⟨j, e1, e2, e3⟩ := hc _ hr1
  have hjl := e2.len
  rw [List.length_drop, List.length_drop] at hjl
  have hlt : (next (r.drop 1)).2.1.length < r.length := by rw [e1, List.length_drop, List.length_drop]; omega
  rw [dif_pos hlt] at he hk
  rw [dif_pos hlt]
  obtain ⟨m, f1, f2⟩ := chainGo_cuts (word := word) (op := op) hc (.mk op E0 0 [e, (next (r.drop 1)).1] (hdT r).pos) (next (r.drop 1)).2.1 (by rw [e1]; exact e2)
  have hml := f2.len
  rw [e1, List.drop_drop, List.drop_drop, List.length_drop] at hml
  have hk2 : r.drop (1 + j + m) = r.drop k := by rw [← hk, f1, e1, List.drop_drop, List.drop_drop] <;> (congr 1; try omega)
  obtain rfl := drop_at hk2 hkl
  obtain ⟨q1, q2, q3⟩ := hn (r.drop 1) (r'.drop 1) j hr1 hr1' (nn h2) e1 (by rw [List.length_drop]; omega) (Agree.drop (k := 1) (n := j + 1) (ha.mono (by omega)))
  have hr2' : Ends (next (r'.drop 1)).2.1 := by
    obtain ⟨j2, g1, g2, _⟩ := hc _ hr1'
    rw [g1]; exact g2
  have hlt' : (next (r'.drop 1)).2.1.length < r'.length := by
    have := hr1'.len
    rw [q2, List.length_drop, List.length_drop]
    rw [List.length_drop] at this
    omega
  obtain ⟨i1, i2, i3⟩ := chainGo_loc hc hn (.mk op E0 0 [e, (next (r.drop 1)).1] (hdT r).pos) (.mk op E0 0 [e', (next (r'.drop 1)).1] (hdT r').pos) (next (r.drop 1)).2.1 (next (r'.drop 1)).2.1 m (SameX.two hs q3) (by rw [e1]; exact e2) hr2' he f1 (by rw [e1, List.length_drop, List.length_drop]; omega) (by
    rw [e1, q2, List.drop_drop, List.drop_drop]
    exact Agree.drop (k := 1 + j) (n := m + 1) (ha.mono (by omega)))
  rw [chainGo.eq_1 word op next e' r', if_neg (by rw [← T0]; exact h1), if_neg (by rw [q1]; exact fun h => h rfl), dif_pos hlt']
  exact ⟨i1, by rw [i2, q2, List.drop_drop, List.drop_drop] <;> (congr 1; try omega), i3⟩
termination_by r.length
decreasing_by exact hlt
theorem linkOf_loc {word : ByteArray} {op : Int} {next : List TokM → ResE} (hc : Cuts next) (hn : Loc next) : Loc (linkOf word op next) := fun r r' k hr hr' he hk hkl ha => by
  obtain ⟨j, e1, e2, e3⟩ := hc r hr
  have hjl := e2.len
  rw [List.length_drop] at hjl
  unfold linkOf at he hk ⊢
  by_cases h1 : (next r).2.2 ≠ 0
  · rw [if_pos h1] at he; exact absurd he h1
  rw [if_neg h1] at he hk
  rw [if_neg h1]
  obtain ⟨m, f1, f2⟩ := chainGo_cuts (word := word) (op := op) hc (next r).1 (next r).2.1 (by rw [e1]; exact e2)
  have hml := f2.len
  rw [e1, List.drop_drop, List.length_drop] at hml
  have hk2 : r.drop (j + m) = r.drop k := by rw [← hk, f1, e1, List.drop_drop]
  obtain rfl := drop_at hk2 hkl
  obtain ⟨q1, q2, q3⟩ := hn r r' j hr hr' (nn h1) e1 (by omega) (ha.mono (by omega))
  have hr2' : Ends (next r').2.1 := by
    obtain ⟨j2, g1, g2, _⟩ := hc _ hr'
    rw [g1]; exact g2
  obtain ⟨i1, i2, i3⟩ := chainGo_loc (word := word) (op := op) hc hn (next r).1 (next r').1 (next r).2.1 (next r').2.1 m q3 (by rw [e1]; exact e2) hr2' he f1 (by rw [e1, List.length_drop]; omega) (by
    rw [e1, q2]
    exact Agree.drop (k := j) (n := m + 1) (ha.mono (by omega)))
  rw [if_neg (by rw [q1]; exact fun h => h rfl)]
  exact ⟨i1, by rw [i2, q2, List.drop_drop], i3⟩
theorem lvl_loc : ∀ d, Loc (orD d) ∧ Loc (notD d)
  | 0 => by
    have hc : Cuts (opdOf none) := opdOf_cuts fun f e => by cases e
    have h : Loc (notD 0) := by rw [notD_is]; exact notOf_loc (fun f e => by cases e) (cmpOf_loc hc (opdOf_loc fun f e => by cases e))
    exact ⟨by rw [orD_is]; exact linkOf_loc (andD_cuts 0) (linkOf_loc (lvl_cuts 0).2 h), h⟩
  | d + 1 => by
    have ih := lvl_loc d
    have hd := lvl_cuts d
    have h : Loc (notD (d + 1)) := by
      rw [notD_is]
      exact notOf_loc (fun f e => by cases e; exact ⟨hd.2, ih.2⟩) (cmpOf_loc (opdD_cuts (d + 1)) (opdOf_loc fun f e => by cases e; exact ⟨hd.1, ih.1⟩))
    exact ⟨by rw [orD_is]; exact linkOf_loc (andD_cuts (d + 1)) (linkOf_loc (lvl_cuts (d + 1)).2 h), h⟩
end Go.Proofs.YtcjfealalokjaaaGreatDoor
namespace Go.Proofs.YtcjfealalokjaaaGreatDoor
open Go Go.RowKit
theorem wordN_nl (y : List Int) : ∀ l : List Int, wordN (l ++ 10 :: y) = wordN l
  | [] => by show wordN (10 :: y) = _; rw [wordN_stop (by decide)]; rfl
  | c :: r => by
    show wordN (c :: (r ++ 10 :: y)) = _
    rw [wordN, wordN, wordN_nl y r]
theorem runL_nl (y : List Int) : ∀ l : List Int, runL (l ++ 10 :: y) = runL l
  | [] => by show runL (10 :: y) = 0; rw [runL, if_neg (by decide)]
  | c :: r => by
    show runL (c :: (r ++ 10 :: y)) = _
    rw [runL, runL, runL_nl y r]
theorem leadL_nl (y : List Int) (l : List Int) (h : l ≠ []) : leadL (l ++ 10 :: y) = leadL l := by
  cases l with
  | nil => exact absurd rfl h
  | cons c r =>
    show leadL (c :: (r ++ 10 :: y)) = _
    rw [leadL, leadL]
    by_cases h1 : c = 45
    · rw [if_pos h1, if_pos h1]
      cases r with
      | nil => rfl
      | cons a q =>
        rw [show ((a :: q) ++ 10 :: y).getD 0 0 = (a :: q).getD 0 0 from rfl, runL_nl]
    · rw [if_neg h1, if_neg h1]
      by_cases h2 : c = 48
      · rw [if_pos h2, if_pos h2]
      · rw [if_neg h2, if_neg h2]
        exact runL_nl y (c :: r)
theorem signN_nl (y : List Int) (l : List Int) (h : l ≠ []) : signN (l ++ 10 :: y) = signN l := by
  match l with
  | [] => exact absurd rfl h
  | [c] =>
    show signN (c :: 10 :: y) = signN [c]
    rw [signN, signN, if_neg (fun hq => absurd hq.1 (by decide))]
  | c :: d :: r =>
    show signN (c :: d :: (r ++ 10 :: y)) = _
    rw [signN, signN]
theorem quotF_more (z : List Int) : ∀ (f g : Nat) (l : List Int), (quotF f l).2.2 = true → f ≤ g → quotF g (l ++ z) = quotF f l
  | 0, _, _, h, _ => by cases h
  | _ + 1, _, [], h, _ => by cases h
  | f + 1, 0, c :: r, _, hg => absurd hg (by omega)
  | f + 1, g + 1, c :: r, h, hg => by
    show quotF (g + 1) (c :: (r ++ z)) = _
    by_cases h0 : c < 32
    · rw [quotF_low h0] at h; cases h
    · by_cases h1 : c = 34
      · subst h1; rw [quotF_end, quotF_end]
      · by_cases h2 : c = 92
        · subst h2
          cases r with
          | nil => rw [quotF_esc_no (by simp)] at h; cases h
          | cons d q =>
            by_cases hd : d = 34 ∨ d = 92
            · rw [quotF_esc hd] at h ⊢
              show quotF (g + 1) (92 :: d :: (q ++ z)) = _
              rw [quotF_esc hd, quotF_more z f g q h (by omega)]
            · rw [quotF_esc_no (by simpa using hd)] at h; cases h
        · by_cases hv : (nxL (c :: r)).1 = -1
          · rw [quotF_bad h0 h1 h2 hv] at h; cases h
          · obtain ⟨p1, p2, p3, p4, _, p6, p7⟩ := nx_found hv
            obtain ⟨m, hm⟩ : ∃ m, m = (nxL (c :: r)).2 := ⟨_, rfl⟩
            obtain ⟨N, hN⟩ : ∃ N, N = (nxL (c :: r)).1 := ⟨_, rfl⟩
            rw [quotF_go h0 h1 h2 hv] at h ⊢
            rw [← hm] at p1 p2 p3 p4 h ⊢
            rw [← hN] at p1 p2 p6 p7
            have hnx : nxL (c :: (r ++ z)) = (N, m) := by
              have e : c :: (r ++ z) = putL N ++ ((c :: r).drop m ++ z) := by
                rw [p1, ← List.append_assoc, List.take_append_drop]; rfl
              rw [e, nx_put p7, p2]
            have hN1 : (nxL (c :: (r ++ z))).1 ≠ -1 := by rw [hnx]; rw [hN]; exact hv
            rw [quotF_go h0 h1 h2 hN1, hnx]
            show appQ ((c :: (r ++ z)).take m) m (quotF g ((c :: (r ++ z)).drop m)) = _
            have hml : m ≤ (c :: r).length := by omega
            rw [show c :: (r ++ z) = (c :: r) ++ z from rfl, List.take_append_of_le_length hml, List.drop_append_of_le_length hml, quotF_more z f g _ h (by omega)]
theorem quotN_more (z l : List Int) (h : (quotN l).2.2 = true) : quotN (l ++ z) = quotN l := by
  unfold quotN at h ⊢
  exact quotF_more z _ _ l h (by rw [List.length_append]; omega)
theorem take_nl {l z : List Int} {k : Nat} (h : k ≤ l.length) : (l ++ z).take k = l.take k := List.take_append_of_le_length h
theorem tokL_nl (y l : List Int) (hne : l ≠ []) (h : (tokL l).err = 0) : tokL (l ++ 10 :: y) = tokL l := by
  cases l with
  | nil => exact absurd rfl hne
  | cons c r =>
    have e1 : wordN (c :: (r ++ 10 :: y)) = wordN (c :: r) := wordN_nl y (c :: r)
    have e2 : leadL (c :: (r ++ 10 :: y)) = leadL (c :: r) := leadL_nl y (c :: r) hne
    have e3 : signN (c :: (r ++ 10 :: y)) = signN (c :: r) := signN_nl y (c :: r) hne
    have t1 : (c :: (r ++ 10 :: y)).take (wordN (c :: r)) = (c :: r).take (wordN (c :: r)) := take_nl (l := c :: r) (wordN_le _)
    have t2 : (c :: (r ++ 10 :: y)).take (leadL (c :: r)) = (c :: r).take (leadL (c :: r)) := take_nl (l := c :: r) (leadL_le _)
    have t3 : (c :: (r ++ 10 :: y)).take (signN (c :: r)) = (c :: r).take (signN (c :: r)) := take_nl (l := c :: r) (signN_le _).1
    show tokL (c :: (r ++ 10 :: y)) = _
    rw [tokL] at h ⊢
    rw [tokL, e1, e2, e3, t1, t2, t3]
    by_cases hs : smallC c = true
    · rw [if_pos hs, if_pos hs]
    rw [if_neg hs] at h
    rw [if_neg hs, if_neg hs]
    by_cases hq : c = 34
    · rw [if_pos hq] at h
      rw [if_pos hq, if_pos hq]
      by_cases hv : (quotN r).2.2 = true
      · rw [quotN_more _ r hv]
      · rw [if_neg hv] at h; cases h
    · rw [if_neg hq, if_neg hq]
/-- Blanks and remarks, where a line's end and a text stand behind. -/
theorem gapM_nl (y : List Int) : ∀ (b : Bool) (l : List Int), gapM b (l ++ 10 :: y) = if gapM b l < l.length then gapM b l else l.length + 1 + gapM false y
  | true, [] => by
    show gapM true (10 :: y) = 0 + 1 + gapM false y
    rw [gapM, if_pos rfl]; omega
  | false, [] => by
    show gapM false (10 :: y) = 0 + 1 + gapM false y
    rw [gapM_blank (by decide)]; omega
  | true, c :: r => by
    show gapM true (c :: (r ++ 10 :: y)) = _
    rw [gapM, gapM]
    by_cases h : c = 10
    · rw [if_pos h, if_pos h, gapM_nl y false r]
      have := gapM_le false r
      rw [List.length_cons]
      by_cases h2 : gapM false r < r.length
      · rw [if_pos h2, if_pos (by omega)]
      · rw [if_neg h2, if_neg (by omega)]; omega
    · rw [if_neg h, if_neg h, gapM_nl y true r]
      have := gapM_le true r
      rw [List.length_cons]
      by_cases h2 : gapM true r < r.length
      · rw [if_pos h2, if_pos (by omega)]
      · rw [if_neg h2, if_neg (by omega)]; omega
  | false, c :: r => by
    show gapM false (c :: (r ++ 10 :: y)) = _
    rw [gapM, gapM]
    by_cases h : blankC c = true
    · rw [if_pos h, if_pos h, gapM_nl y false r]
      have := gapM_le false r
      rw [List.length_cons]
      by_cases h2 : gapM false r < r.length
      · rw [if_pos h2, if_pos (by omega)]
      · rw [if_neg h2, if_neg (by omega)]; omega
    · rw [if_neg h, if_neg h]
      by_cases h3 : c = 35
      · rw [if_pos h3, if_pos h3, gapM_nl y true r]
        have := gapM_le true r
        rw [List.length_cons]
        by_cases h2 : gapM true r < r.length
        · rw [if_pos h2, if_pos (by omega)]
        · rw [if_neg h2, if_neg (by omega)]; omega
      · rw [if_neg h3, if_neg h3, List.length_cons, if_pos (by omega)]
theorem scanF_pre : ∀ (f : Nat) (l : List Int) (p : Nat) (acc : List TokM), l.length < f → (scanF f l p acc).2.1 = 0 → ∃ ts, (scanF f l p acc).1 = acc ++ ts
  | 0, l, p, acc, hl, _ => absurd hl (Nat.not_lt_zero _)
  | f + 1, l, p, acc, hl, h => by
    by_cases he : (tokL (l.drop (gapM false l))).err = 0
    · by_cases hnil : l.drop (gapM false l) = []
      · rw [scanF_end hnil]; exact ⟨_, rfl⟩
      · by_cases h5 : acc.length = 512
        · rw [scanF_many he hnil h5] at h; exact absurd h (show ¬ (53 : Int) = 0 by decide)
        · rw [scanF_go he hnil h5] at h ⊢
          have hs := tok_size he hnil
          rw [List.length_drop] at hs
          obtain ⟨ts, e⟩ := scanF_pre f _ _ _ (by rw [List.length_drop]; omega) h
          exact ⟨_, by rw [e, List.append_assoc]⟩
    · rw [scanF_err he] at h; exact absurd h he
/-- A text that is scanned well, a line's end and a text: the first one's tokens but for the end, then the scan goes on with the second (or there are too many). -/
theorem scanF_nl (y : List Int) : ∀ (f : Nat) (l : List Int) (p : Nat) (acc ts : List TokM), l.length < f → scanF f l p acc = (acc ++ ts, 0, -1) → acc.length ≤ 512 →
    ∃ us p2 z, ts = us ++ [z] ∧ z.kind = 5 ∧ ∀ g, (l ++ 10 :: y).length < g → ((scanF g (l ++ 10 :: y) p acc).2.1 = 53 ∨ ∃ g2, y.length < g2 ∧ acc.length + us.length ≤ 512 ∧ scanF g (l ++ 10 :: y) p acc = scanF g2 y p2 (acc ++ us))
  | 0, l, p, acc, ts, hl, _, _ => absurd hl (Nat.not_lt_zero _)
  | f + 1, l, p, acc, ts, hl, h, ha => by
    have hgl := gapM_le false l
    by_cases he : (tokL (l.drop (gapM false l))).err = 0
    · by_cases hend : l.length ≤ gapM false l
      · have hnil : l.drop (gapM false l) = [] := List.drop_eq_nil_of_le hend
        rw [scanF_end hnil] at h
        have hts : ts = [endT (p + gapM false l)] := (List.append_cancel_left (congrArg (·.1) h)).symm
        refine ⟨[], p + (l.length + 1), endT (p + gapM false l), by rw [hts]; rfl, rfl, fun g hg => ?_⟩
        obtain ⟨g, rfl⟩ : ∃ g', g = g' + 1 := ⟨g - 1, by omega⟩
        refine .inr ⟨g + 1, ?_, by simpa using ha, ?_⟩
        · rw [List.length_append, List.length_cons] at hg; omega
        · rw [List.append_nil]
          have hd : (l ++ 10 :: y).drop (l.length + 1) = y := by
            rw [← List.drop_drop, List.drop_left]; rfl
          have := scanF_gap g (l ++ 10 :: y) p (l.length + 1) acc (by rw [hd, gapM_nl, if_neg (by omega)])
          rw [this, hd]
      · have hlt : gapM false l < l.length := by omega
        have hnil : l.drop (gapM false l) ≠ [] := fun e => by
          have := congrArg List.length e
          rw [List.length_drop, List.length_nil] at this; omega
        by_cases h5 : acc.length = 512
        · rw [scanF_many he hnil h5] at h
          have := congrArg (·.2.1) h
          exact absurd this (show ¬ (53 : Int) = 0 by decide)
        · rw [scanF_go he hnil h5] at h
          obtain ⟨G, hG⟩ : ∃ G, G = gapM false l := ⟨_, rfl⟩
          obtain ⟨T, hT⟩ : ∃ T, T = tokL (l.drop G) := ⟨_, rfl⟩
          rw [← hG] at he hnil hlt h
          rw [← hT] at he h
          have hTs := tok_size (l := l.drop G) (by rw [← hT]; exact he) hnil
          rw [← hT] at hTs
          have hdl : (l.drop G).length = l.length - G := List.length_drop
          have hpre : ∃ ts', scanF f (l.drop (G + T.size)) (p + (G + T.size)) (acc ++ [madeT T (p + G)]) = ((acc ++ [madeT T (p + G)]) ++ ts', 0, -1) ∧ ts = madeT T (p + G) :: ts' := by
            obtain ⟨ts', e⟩ := scanF_pre f (l.drop (G + T.size)) (p + (G + T.size)) (acc ++ [madeT T (p + G)]) (by rw [List.length_drop]; omega) (by rw [h])
            refine ⟨ts', ?_, ?_⟩
            · rw [h] at e ⊢
              simp only at e
              rw [e]
            · rw [h] at e
              simp only [List.append_assoc] at e
              exact List.append_cancel_left e
          obtain ⟨ts', h2, hts⟩ := hpre
          obtain ⟨us, p2, z, e1, e2, e3⟩ := scanF_nl y f (l.drop (G + T.size)) (p + (G + T.size)) (acc ++ [madeT T (p + G)]) ts' (by rw [List.length_drop]; omega) h2 (by simp; omega)
          refine ⟨madeT T (p + G) :: us, p2, z, by rw [hts, e1]; rfl, e2, fun g hg => ?_⟩
          obtain ⟨g, rfl⟩ : ∃ g', g = g' + 1 := ⟨g - 1, by omega⟩
          have hgap : gapM false (l ++ 10 :: y) = G := by rw [gapM_nl, ← hG, if_pos hlt]
          have hdr : (l ++ 10 :: y).drop G = l.drop G ++ 10 :: y := List.drop_append_of_le_length (by omega)
          have htok : tokL ((l ++ 10 :: y).drop G) = T := by rw [hdr, tokL_nl y _ hnil (by rw [← hT]; exact he), hT]
          have hgo := scanF_go (f := g) (l := l ++ 10 :: y) (p := p) (acc := acc) (by rw [hgap, htok]; exact he) (by rw [hgap, hdr]; simp) h5
          rw [hgap, htok] at hgo
          have hdr2 : (l ++ 10 :: y).drop (G + T.size) = l.drop (G + T.size) ++ 10 :: y := List.drop_append_of_le_length (by omega)
          rw [hdr2] at hgo
          rw [hgo]
          rcases e3 g (by rw [List.length_append] at hg ⊢; rw [List.length_drop]; omega) with h53 | ⟨g2, q1, q2, q3⟩
          · exact .inl h53
          · refine .inr ⟨g2, q1, by rw [List.length_append, List.length_singleton] at q2; rw [List.length_cons]; omega, ?_⟩
            rw [q3, List.append_assoc]; rfl
    · rw [scanF_err he] at h
      have := congrArg (·.2.1) h
      exact absurd this he
end Go.Proofs.YtcjfealalokjaaaGreatDoor
namespace Go.Proofs.YtcjfealalokjaaaGreatDoor
open Go Go.RowKit
theorem scopesGo_loc (r r' : List TokM) (k : Nat) (hr : Ends (r.drop 1)) (hr' : Ends (r'.drop 1)) (he : (scopesGo r).2.2 = 0) (hk : (scopesGo r).2.1 = r.drop k) (hkl : k < r.length) (ha : Agree (k + 1) r r') :
    (scopesGo r').2.2 = 0 ∧ (scopesGo r').2.1 = r'.drop k ∧ (scopesGo r').1 = (scopesGo r).1 := by
  have hl := hr.len
  rw [List.length_drop] at hl
  rw [scopesGo.eq_1 r] at he hk ⊢
  by_cases h1 : (hdT (r.drop 1)).kind ≠ 2
  · rw [if_pos h1] at he; exact bad120 he
  rw [if_neg h1] at he hk
  rw [if_neg h1]
  have h1 := Decidable.of_not_not h1
  have h2 := hr.tail (by rw [h1]; decide)
  rw [List.drop_drop] at h2
  have hl2 := h2.len
  rw [List.length_drop] at hl2
  have step : 2 ≤ k → (hdT (r'.drop 1)).kind = 2 ∧ (hdT (r'.drop 1)).text = (hdT (r.drop 1)).text ∧ Ends (r'.drop 2) ∧ ∀ kd s, isT (r.drop 2) kd s = isT (r'.drop 2) kd s := fun h => by
    have e1 := ha.hd (k := 1) (by omega) (by omega)
    have hk2 : (hdT (r'.drop 1)).kind = 2 := by rw [← er_kind e1]; exact h1
    have h2' := hr'.tail (by rw [hk2]; decide)
    rw [List.drop_drop] at h2'
    exact ⟨hk2, (er_text e1).symm, h2', fun kd s => ha.isT (by omega) (by omega) kd s⟩
  by_cases h3 : isT (r.drop 2) 4 kComma = false
  · rw [if_pos h3] at hk
    rw [if_pos h3]
    obtain rfl : 2 = k := drop_at (show r.drop 2 = r.drop k from hk) hkl
    obtain ⟨s1, s2, s3, s4⟩ := step (by omega)
    rw [scopesGo.eq_1 r', if_neg (by rw [s1]; decide), if_pos (by rw [← s4]; exact h3), s2]
    exact ⟨rfl, rfl, rfl⟩
  rw [if_neg h3] at he hk
  rw [if_neg h3]
  have hlt : (r.drop 2).length < r.length := by rw [List.length_drop]; omega
  rw [dif_pos hlt] at he hk
  rw [dif_pos hlt]
  by_cases h4 : (scopesGo (r.drop 2)).2.2 ≠ 0
  · rw [if_pos h4] at he; exact absurd he h4
  rw [if_neg h4] at hk
  rw [if_neg h4]
  have h3t := Bool.not_eq_false _ |>.mp h3
  have h5 := h2.next h3t (by decide)
  obtain ⟨m, f1, f2⟩ := scopesGo_cuts (r.drop 2) h5
  have hml := f2.len
  rw [List.drop_drop, List.length_drop] at hml
  have hk2 : r.drop (2 + m) = r.drop k := by rw [← hk]; simp only; rw [f1, List.drop_drop]
  obtain rfl := drop_at hk2 hkl
  obtain ⟨s1, s2, s3, s4⟩ := step (by omega)
  have h3t' : isT (r'.drop 2) 4 kComma = true := by rw [← s4]; exact h3t
  obtain ⟨i1, i2, i3⟩ := scopesGo_loc (r.drop 2) (r'.drop 2) m h5 (s3.next h3t' (by decide)) (nn h4) f1 (by rw [List.length_drop]; omega) (Agree.drop (k := 2) (n := m + 1) (ha.mono (by omega)))
  have hlt' : (r'.drop 2).length < r'.length := by have := s3.len; rw [List.length_drop] at this ⊢; omega
  rw [scopesGo.eq_1 r', if_neg (by rw [s1]; decide), if_neg (by rw [h3t']; decide), dif_pos hlt', if_neg (by rw [i1]; exact fun h => h rfl), s2, i3]
  exact ⟨rfl, by simp only; rw [i2, List.drop_drop], rfl⟩
termination_by r.length
decreasing_by exact hlt
theorem scopesP_loc (r r' : List TokM) (k : Nat) (hr : Ends r) (hr' : Ends r') (he : (scopesP r).2.2 = 0) (hk : (scopesP r).2.1 = r.drop k) (hkl : k < r.length) (ha : Agree (k + 1) r r') :
    (scopesP r').2.2 = 0 ∧ (scopesP r').2.1 = r'.drop k ∧ (scopesP r').1 = (scopesP r).1 := by
  have T0 := fun kd s => ha.isT0 (by omega) hr.len kd s
  unfold scopesP at he hk ⊢
  by_cases h : isT r 1 wScope = true
  · rw [if_pos h] at he hk
    rw [if_pos h, if_pos (by rw [← T0]; exact h)]
    exact scopesGo_loc r r' k (hr.next h (by decide)) (hr'.next (by rw [← T0]; exact h) (by decide)) he hk hkl ha
  · rw [if_neg h] at hk
    rw [if_neg h, if_neg (by rw [← T0]; exact h)]
    obtain rfl : 0 = k := drop_at (show r.drop 0 = r.drop k from hk) hkl
    exact ⟨rfl, rfl, rfl⟩
theorem whenP_loc (r r' : List TokM) (k : Nat) (hr : Ends r) (hr' : Ends r') (he : (whenP r).2.2 = 0) (hk : (whenP r).2.1 = r.drop k) (hkl : k < r.length) (ha : Agree (k + 1) r r') :
    (whenP r').2.2 = 0 ∧ (whenP r').2.1 = r'.drop k ∧ SameL (whenP r).1 (whenP r').1 := by
  have T0 := fun kd s => ha.isT0 (by omega) hr.len kd s
  unfold whenP at he hk ⊢
  by_cases h : isT r 1 wWhen = true
  · rw [if_pos h] at he hk
    rw [if_pos h, if_pos (by rw [← T0]; exact h)]
    have hr1 := hr.next h (by decide)
    by_cases h2 : (orD 12 (r.drop 1)).2.2 ≠ 0
    · rw [if_pos h2] at he; exact absurd he h2
    rw [if_neg h2] at hk
    rw [if_neg h2]
    obtain ⟨j, e1, e2, _⟩ := (lvl_cuts 12).1 _ hr1
    have hjl := e2.len
    rw [List.length_drop, List.length_drop] at hjl
    have hk2 : r.drop (1 + j) = r.drop k := by rw [← hk]; simp only; rw [e1, List.drop_drop]
    obtain rfl := drop_at hk2 hkl
    obtain ⟨q1, q2, q3⟩ := (lvl_loc 12).1 (r.drop 1) (r'.drop 1) j hr1 (hr'.next (by rw [← T0]; exact h) (by decide)) (nn h2) e1 (by rw [List.length_drop]; omega) (Agree.drop (k := 1) (n := j + 1) (ha.mono (by omega)))
    rw [if_neg (by rw [q1]; exact fun h => h rfl)]
    exact ⟨rfl, by simp only; rw [q2, List.drop_drop], SameL.nil.cons q3⟩
  · rw [if_neg h] at hk
    rw [if_neg h, if_neg (by rw [← T0]; exact h)]
    obtain rfl : 0 = k := drop_at (show r.drop 0 = r.drop k from hk) hkl
    exact ⟨rfl, rfl, SameL.nil⟩
/-- A rule that is read looks at nothing behind its end. -/
theorem ruleP_loc (r r' : List TokM) (k : Nat) (hr : Ends r) (hr' : Ends r') (he : (ruleP r).2.2 = 0) (hk : (ruleP r).2.1 = r.drop k) (hkl : k < r.length) (ha : Agree k r r') :
    (ruleP r').2.2 = 0 ∧ (ruleP r').2.1 = r'.drop k ∧ SameR (ruleP r).1 (ruleP r').1 := by
  unfold ruleP at he hk ⊢
  by_cases h1 : isT r 1 wDeny = false ∧ isT r 1 wPermit = false
  · rw [if_pos h1] at he; exact bad120 he
  rw [if_neg h1] at he hk
  rw [if_neg h1]
  have hd1 : (hdT r).kind ≠ 5 := fun e => h1 ⟨by unfold isT; exact decide_eq_false fun h => by rw [e] at h; exact absurd h.1 (by decide), by unfold isT; exact decide_eq_false fun h => by rw [e] at h; exact absurd h.1 (by decide)⟩
  have h2 := hr.tail hd1
  by_cases h3 : (scopesP (r.drop 1)).2.2 ≠ 0
  · rw [if_pos h3] at he; exact absurd he h3
  rw [if_neg h3] at he hk
  rw [if_neg h3]
  obtain ⟨j, e1, e2⟩ := scopesP_cuts _ h2
  by_cases h4 : (whenP (scopesP (r.drop 1)).2.1).2.2 ≠ 0
  · rw [if_pos h4] at he; exact absurd he h4
  rw [if_neg h4] at he hk
  rw [if_neg h4]
  obtain ⟨m, g1, g2⟩ := whenP_cuts (scopesP (r.drop 1)).2.1 (by rw [e1]; exact e2)
  by_cases h5 : isT (whenP (scopesP (r.drop 1)).2.1).2.1 4 kSemi = false
  · rw [if_pos h5] at he; exact bad120 he
  rw [if_neg h5] at hk
  rw [if_neg h5]
  have hml := g2.len
  rw [e1, List.drop_drop, List.drop_drop, List.length_drop] at hml
  have hk2 : r.drop (1 + (j + m) + 1) = r.drop k := by rw [← hk]; simp only; rw [g1, e1, List.drop_drop, List.drop_drop, List.drop_drop] <;> (congr 1; try omega)
  obtain rfl := drop_at hk2 hkl
  have T0 := fun kd s => ha.isT0 (by omega) hr.len kd s
  have h0 := ha.hd (k := 0) (by omega) hr.len
  rw [List.drop_zero, List.drop_zero] at h0
  have h2' := hr'.tail (by rw [← er_kind h0]; exact hd1)
  obtain ⟨q1, q2, q3⟩ := scopesP_loc (r.drop 1) (r'.drop 1) j h2 h2' (nn h3) e1 (by rw [List.length_drop]; omega) (Agree.drop (k := 1) (n := j + 1) (ha.mono (by omega)))
  have h3' : Ends (scopesP (r'.drop 1)).2.1 := by
    obtain ⟨j2, x1, x2⟩ := scopesP_cuts _ h2'
    rw [x1]; exact x2
  obtain ⟨i1, i2, i3⟩ := whenP_loc (scopesP (r.drop 1)).2.1 (scopesP (r'.drop 1)).2.1 m (by rw [e1]; exact e2) h3' (nn h4) g1 (by rw [e1, List.drop_drop, List.length_drop]; omega) (by
    rw [e1, q2, List.drop_drop, List.drop_drop]
    exact Agree.drop (k := 1 + j) (n := m + 1) (ha.mono (by omega)))
  have h5' : isT (whenP (scopesP (r'.drop 1)).2.1).2.1 4 kSemi = true := by
    have h5t := Bool.not_eq_false _ |>.mp h5
    rw [i2, q2, List.drop_drop, List.drop_drop, ← ha.isT (k := 1 + (j + m)) (by omega) (by omega)]
    rw [g1, e1, List.drop_drop, List.drop_drop] at h5t
    exact h5t
  rw [if_neg (by rw [← T0, ← T0]; exact h1), if_neg (by rw [q1]; exact fun h => h rfl), if_neg (by rw [i1]; exact fun h => h rfl), if_neg (by rw [h5']; decide)]
  exact ⟨rfl, by simp only; rw [i2, q2, List.drop_drop, List.drop_drop, List.drop_drop] <;> (congr 1; try omega), T0 _ _, q3.symm, i3⟩
theorem SameRs.app {a b c d : List RuleM} (h : SameRs a b) (g : SameRs c d) : SameRs (a ++ c) (b ++ d) := by
  induction h with
  | nil => exact g
  | cons h1 _ ih => exact .cons h1 ih
theorem Ends.app : ∀ {us : List TokM} {z : TokM} {vs rest : List TokM}, Ends (us ++ [z]) → vs.map er = us.map er → Ends rest → Ends (vs ++ rest)
  | [], _, [], rest, _, _, hr => hr
  | [], _, _ :: _, _, _, h, _ => by cases h
  | _ :: _, _, [], _, _, h, _ => by cases h
  | u :: us, z, v :: vs, rest, he, h, hr => by
    rw [List.map_cons, List.map_cons] at h
    obtain ⟨h1, h2⟩ := List.cons.inj h
    have hk : v.kind = u.kind := congrArg (·.1) h1
    have hu : u.kind ≠ 5 ∧ Ends (us ++ [z]) := by
      cases us with
      | nil => exact he
      | cons w us => exact he
    have ih := Ends.app hu.2 h2 hr
    have hne : vs ++ rest ≠ [] := fun e => by rw [e] at ih; exact ih
    obtain ⟨y, q, e⟩ := List.exists_cons_of_ne_nil hne
    show Ends (v :: (vs ++ rest))
    rw [e] at ih ⊢
    exact ⟨by rw [hk]; exact hu.1, ih⟩
/-- Rules that are read, and what stands behind them. -/
theorem rulesGo_join : ∀ (n : Nat) (k k' : Nat) (us vs rest : List TokM) (z : TokM), us.length ≤ n → Ends (us ++ [z]) → vs.map er = us.map er → Ends rest → (rulesGo k (us ++ [z])).2.1 = 0 → k' + (rulesGo k (us ++ [z])).1.length ≤ 16 →
    (rulesGo (k' + (rulesGo k (us ++ [z])).1.length) rest).2.1 = 0 → ∃ ys, SameRs (rulesGo k (us ++ [z])).1 ys ∧ (rulesGo k' (vs ++ rest)).2.1 = 0 ∧ (rulesGo k' (vs ++ rest)).1 = ys ++ (rulesGo (k' + (rulesGo k (us ++ [z])).1.length) rest).1
  | n, k, k', [], vs, rest, z, _, he, hv, hr, h0, hle, hrest => by
    obtain rfl : vs = [] := by simpa using hv
    have hz : (hdT [z]).kind = 5 := he
    have e : rulesGo k ([] ++ [z]) = ([], 0, -1) := by
      show rulesGo k [z] = _
      rw [rulesGo, if_pos hz]
    rw [e] at hrest hle ⊢
    exact ⟨[], .nil, hrest, rfl⟩
  | 0, _, _, _ :: _, _, _, _, hn, _, _, _, _, _, _ => by simp at hn
  | n + 1, k, k', u :: us, vs, rest, z, hn, he, hv, hr, h0, hle, hrest => by
    have hu5 : u.kind ≠ 5 := by
      cases us with
      | nil => exact he.1
      | cons w us => exact he.1
    have hall := Ends.app he hv hr
    obtain ⟨r, hrd⟩ : ∃ r, r = (u :: us) ++ [z] := ⟨_, rfl⟩
    have hrl : r.length = us.length + 2 := by rw [hrd]; simp
    have hh : hdT r = u := by rw [hrd]; rfl
    rw [← hrd] at he h0 hle hrest ⊢
    obtain ⟨r', hrd'⟩ : ∃ r', r' = vs ++ rest := ⟨_, rfl⟩
    rw [← hrd'] at hall ⊢
    have hvl : vs.length = us.length + 1 := by have := congrArg List.length hv; simpa using this
    have hag : Agree (us.length + 1) r r' := by
      unfold Agree
      rw [hrd, hrd', List.take_append_of_le_length (by simp), List.take_append_of_le_length (by omega), List.take_of_length_le (by simp), List.take_of_length_le (by omega), hv]
    have h0er := hag.hd (k := 0) (by omega) (by omega)
    rw [List.drop_zero, List.drop_zero] at h0er
    rw [rulesGo.eq_1 k r] at h0 hle hrest ⊢
    rw [rulesGo.eq_1 k' r']
    have h5 : ¬ (hdT r).kind = 5 := by rw [hh]; exact hu5
    rw [if_neg h5] at h0 hle hrest ⊢
    rw [if_neg (show ¬ (hdT r').kind = 5 by rw [← er_kind h0er]; exact h5)]
    by_cases h16 : k = 16 ∧ (isT r 1 wPermit = true ∨ isT r 1 wDeny = true)
    · rw [if_pos h16] at h0; exact absurd h0 (show ¬ (132 : Int) = 0 by decide)
    rw [if_neg h16] at h0 hle hrest ⊢
    by_cases h1 : (ruleP r).2.2 ≠ 0
    · rw [if_pos h1] at h0; exact absurd h0 h1
    rw [if_neg h1] at h0 hle hrest ⊢
    obtain ⟨j, e1, e2, e3⟩ := ruleP_cuts r he
    have hj0 := e3 (nn h1)
    have hjl := e2.len
    rw [List.length_drop] at hjl
    have hlt : (ruleP r).2.1.length < r.length := by rw [e1, List.length_drop]; omega
    rw [dif_pos hlt] at h0 hle hrest ⊢
    by_cases h2 : (rulesGo (k + 1) (ruleP r).2.1).2.1 ≠ 0
    · rw [if_pos h2] at h0; exact absurd h0 h2
    rw [if_neg h2] at hle hrest ⊢
    obtain ⟨q1, q2, q3⟩ := ruleP_loc r r' j he hall (nn h1) e1 (by omega) (hag.mono (by omega))
    have hjle : j ≤ us.length + 1 := by omega
    have ed : r.drop j = (u :: us).drop j ++ [z] := by rw [hrd, List.drop_append_of_le_length (by simpa using hjle)]
    have ed' : r'.drop j = vs.drop j ++ rest := by rw [hrd', List.drop_append_of_le_length (by omega)]
    have hl16 : ¬ (k' = 16 ∧ (isT r' 1 wPermit = true ∨ isT r' 1 wDeny = true)) := fun h => by
      simp only [List.length_cons] at hle
      omega
    have hlt' : (ruleP r').2.1.length < r'.length := by
      have := hall.len
      rw [q2, List.length_drop]; omega
    rw [e1, ed] at hle hrest h2 ⊢
    simp only [List.length_cons] at hle hrest ⊢
    have hk1 : k' + ((rulesGo (k + 1) ((u :: us).drop j ++ [z])).1.length + 1) = k' + 1 + (rulesGo (k + 1) ((u :: us).drop j ++ [z])).1.length := by omega
    rw [hk1] at hrest ⊢
    obtain ⟨ys, i1, i2, i3⟩ := rulesGo_join n (k + 1) (k' + 1) ((u :: us).drop j) (vs.drop j) rest z (by rw [List.length_drop]; simp at hn ⊢; omega) (by rw [← ed]; exact e2) (by rw [List.map_drop, List.map_drop, hv]) hr (nn h2) (by omega) hrest
    rw [if_neg hl16, if_neg (by rw [q1]; exact fun h => h rfl), dif_pos hlt', q2, ed', if_neg (by rw [i2]; exact fun h => h rfl)]
    refine ⟨(ruleP r').1 :: ys, .cons q3 i1, rfl, ?_⟩
    simp only
    rw [i3]; rfl
/-! ### Scanning the second text elsewhere -/
theorem scanF_ok : ∀ (f : Nat) (l : List Int) (p : Nat) (acc : List TokM), l.length < f → (scanF f l p acc).2.1 = 0 → ∃ ts, scanF f l p acc = (acc ++ ts, 0, -1)
  | 0, l, p, acc, hl, _ => absurd hl (Nat.not_lt_zero _)
  | f + 1, l, p, acc, hl, h => by
    by_cases he : (tokL (l.drop (gapM false l))).err = 0
    · by_cases hnil : l.drop (gapM false l) = []
      · rw [scanF_end hnil]; exact ⟨_, rfl⟩
      · by_cases h5 : acc.length = 512
        · rw [scanF_many he hnil h5] at h; exact absurd h (show ¬ (53 : Int) = 0 by decide)
        · rw [scanF_go he hnil h5] at h ⊢
          have hs := tok_size he hnil
          rw [List.length_drop] at hs
          obtain ⟨ts, e⟩ := scanF_ok f _ _ _ (by rw [List.length_drop]; omega) h
          exact ⟨_, by rw [e, List.append_assoc]⟩
    · rw [scanF_err he] at h; exact absurd h he
theorem scanF_move : ∀ (f : Nat) (l : List Int) (p : Nat) (acc ts : List TokM), l.length < f → scanF f l p acc = (acc ++ ts, 0, -1) → ∀ (g p' : Nat) (acc' : List TokM), l.length < g →
    (scanF g l p' acc').2.1 = 53 ∨ ∃ ts', ts'.map er = ts.map er ∧ scanF g l p' acc' = (acc' ++ ts', 0, -1)
  | 0, l, _, _, _, hl, _, _, _, _, _ => absurd hl (Nat.not_lt_zero _)
  | f + 1, l, p, acc, ts, hl, h, 0, p', acc', hg => absurd hg (Nat.not_lt_zero _)
  | f + 1, l, p, acc, ts, hl, h, g + 1, p', acc', hg => by
    by_cases he : (tokL (l.drop (gapM false l))).err = 0
    · by_cases hnil : l.drop (gapM false l) = []
      · rw [scanF_end hnil] at h
        have hts : ts = [endT (p + gapM false l)] := (List.append_cancel_left (congrArg (·.1) h)).symm
        rw [scanF_end hnil]
        exact .inr ⟨[endT (p' + gapM false l)], by rw [hts]; rfl, rfl⟩
      · by_cases h5 : acc.length = 512
        · rw [scanF_many he hnil h5] at h
          have := congrArg (·.2.1) h
          exact absurd this (show ¬ (53 : Int) = 0 by decide)
        · by_cases h5' : acc'.length = 512
          · rw [scanF_many he hnil h5']; exact .inl rfl
          · rw [scanF_go he hnil h5] at h
            rw [scanF_go he hnil h5']
            have hs := tok_size he hnil
            rw [List.length_drop] at hs
            have hfl : (l.drop (gapM false l + (tokL (l.drop (gapM false l))).size)).length < f := by rw [List.length_drop]; omega
            obtain ⟨ts2, e⟩ := scanF_ok f _ _ _ hfl (congrArg (·.2.1) h)
            rcases scanF_move f _ _ _ ts2 hfl e g _ (acc' ++ [madeT (tokL (l.drop (gapM false l))) (p' + gapM false l)]) (by rw [List.length_drop]; omega) with h53 | ⟨ts', q1, q2⟩
            · exact .inl h53
            · refine .inr ⟨madeT (tokL (l.drop (gapM false l))) (p' + gapM false l) :: ts', ?_, by rw [q2, List.append_assoc]; rfl⟩
              have hts : ts = madeT (tokL (l.drop (gapM false l))) (p + gapM false l) :: ts2 := by
                rw [e] at h
                have := congrArg (·.1) h
                simp only [List.append_assoc] at this
                exact (List.append_cancel_left this).symm
              rw [hts, List.map_cons, List.map_cons, q1]
              rfl
    · rw [scanF_err he] at h
      have := congrArg (·.2.1) h
      exact absurd this he
theorem parse_ok {a : List Int} (h : (parseL a).2.1 = 0) : a.length ≤ 2048 ∧ ∃ ts, scanF (a.length + 1) a 0 [] = ([] ++ ts, 0, -1) ∧ scanL a = (ts, 0, -1) ∧ parseL a = rulesGo 0 ts := by
  unfold parseL at h ⊢
  by_cases h1 : (scanL a).2.1 ≠ 0
  · rw [if_pos h1] at h; exact absurd h h1
  rw [if_neg h1]
  have h2 := nn h1
  unfold scanL at h2 ⊢
  by_cases h3 : 2048 < a.length
  · rw [if_pos h3] at h2; exact absurd h2 (show ¬ (2 : Int) = 0 by decide)
  rw [if_neg h3] at h2 ⊢
  obtain ⟨ts, e⟩ := scanF_ok (a.length + 1) a 0 [] (by omega) h2
  exact ⟨by omega, ts, e, by rw [e]; rfl, by rw [e]; rfl⟩
theorem same_last {ts us : List TokM} {z : TokM} (h : ts.map er = (us ++ [z]).map er) : ∃ vs w, ts = vs ++ [w] ∧ vs.map er = us.map er ∧ w.kind = z.kind := by
  rw [List.map_append] at h
  obtain ⟨vs, ws, e, h1, h2⟩ := List.map_eq_append_iff.1 h
  cases ws with
  | nil => cases h2
  | cons w q =>
    rw [List.map_cons, List.map_singleton] at h2
    obtain ⟨h3, h4⟩ := List.cons.inj h2
    obtain rfl : q = [] := by simpa using h4
    exact ⟨vs, w, e, h1, congrArg (·.1) h3⟩
theorem ends_last : ∀ {r : List TokM}, Ends r → ∃ us z, r = us ++ [z] ∧ z.kind = 5
  | [], h => absurd h (by simp [Ends])
  | [t], h => ⟨[], t, rfl, h⟩
  | t :: u :: q, h => by
    obtain ⟨us, z, e, hz⟩ := ends_last h.2
    exact ⟨t :: us, z, by rw [e]; rfl, hz⟩
theorem sameX_of {x y : Ex} (h : SameX x y) : sameE false y x = true := by
  induction h with
  | @mk op s n p q l m hl hx ih =>
    rw [sameE_iff]
    exact ⟨rfl, rfl, rfl, (fun h => by cases h), sameEs_iff.2 ⟨hl.symm, fun i h1 h2 => ih i h2 h1⟩⟩
theorem sameRs_of {l m : List RuleM} (h : SameRs l m) : sameRs false m l = true := by
  induction h with
  | nil => rfl
  | cons h1 _ ih =>
    rw [sameRs, Bool.and_eq_true]
    exact ⟨sameR_iff.2 ⟨h1.1.symm, (fun h => by cases h), h1.2.1.symm, sameEs_iff.2 ⟨h1.2.2.1.symm, fun i q1 q2 => sameX_of (h1.2.2.2 i q2 q1)⟩⟩, ih⟩
/-- Two texts, each of which is read, with a line's end between: their rules, one behind the other, but for places (or there are too many tokens). -/
theorem parse_join {a b : List Int} (bya : Bytes a) (byb : Bytes b) (ha : (parseL a).2.1 = 0) (hb : (parseL b).2.1 = 0) (hlen : a.length + b.length ≤ 2047) (hn : (parseL a).1.length + (parseL b).1.length ≤ 16) :
    (parseL (a ++ 10 :: b)).2.1 = 53 ∨ (parseL (a ++ 10 :: b)).2.1 = 0 ∧ sameRs false (parseL (a ++ 10 :: b)).1 ((parseL a).1 ++ (parseL b).1) = true := by
  obtain ⟨la, ta, ea, sa, pa⟩ := parse_ok ha
  obtain ⟨lb, tb, eb, sb, pb⟩ := parse_ok hb
  have Ea : Ends ta := by have := (scan_ends (s := a) bya (by rw [sa])).1; rw [sa] at this; exact this
  have Eb : Ends tb := by have := (scan_ends (s := b) byb (by rw [sb])).1; rw [sb] at this; exact this
  obtain ⟨us, p2, z, e1, e2, e3⟩ := scanF_nl b (a.length + 1) a 0 [] ta (by omega) ea (by simp)
  have hl : (a ++ 10 :: b).length = a.length + (b.length + 1) := by simp
  have hs : scanL (a ++ 10 :: b) = scanF ((a ++ 10 :: b).length + 1) (a ++ 10 :: b) 0 [] := by
    unfold scanL; rw [if_neg (by rw [hl]; omega)]
  rcases e3 ((a ++ 10 :: b).length + 1) (by omega) with h53 | ⟨g2, q1, q2, q3⟩
  · left
    unfold parseL
    rw [hs, if_pos (by rw [h53]; decide)]
    exact h53
  rw [q3] at hs
  rcases scanF_move (b.length + 1) b 0 [] tb (by omega) eb g2 p2 ([] ++ us) q1 with h53 | ⟨ts', r1, r2⟩
  · left
    unfold parseL
    rw [hs, if_pos (by rw [h53]; decide)]
    exact h53
  right
  rw [r2] at hs
  have hp : parseL (a ++ 10 :: b) = rulesGo 0 (us ++ ts') := by
    unfold parseL
    rw [hs]; rfl
  obtain ⟨ub, zb, eub, hzb⟩ := ends_last Eb
  rw [eub] at r1 Eb pb
  obtain ⟨vs, w, ets, hv, hw⟩ := same_last r1
  have hw5 : w.kind = 5 := by rw [hw]; exact hzb
  have Ew : Ends [w] := hw5
  rw [e1] at Ea pa
  have hr0 : ∀ k, rulesGo k [w] = ([], 0, -1) := fun k => by rw [rulesGo, if_pos (show (hdT [w]).kind = 5 from hw5)]
  rw [pa, pb] at hn
  rw [pb] at hb
  rw [pa] at ha
  obtain ⟨y2, j1, j2, j3⟩ := rulesGo_join ub.length 0 (rulesGo 0 (us ++ [z])).1.length ub vs [w] zb (Nat.le_refl _) Eb hv Ew hb hn (by rw [hr0])
  rw [hr0, List.append_nil] at j3
  have Ets : Ends ts' := by rw [ets]; exact Ends.app Eb hv Ew
  obtain ⟨y1, i1, i2, i3⟩ := rulesGo_join us.length 0 0 us us ts' z (Nat.le_refl _) Ea rfl Ets ha (by omega) (by rw [Nat.zero_add, ets]; exact j2)
  rw [hp, pa, pb]
  refine ⟨i2, sameRs_of ?_⟩
  rw [i3, Nat.zero_add, ets, j3]
  exact i1.app j1
end Go.Proofs.YtcjfealalokjaaaGreatDoor
