/- JpMerge, JpOrder, JpPuts, StPuts, JgList: merged. -/
import Derived.Sort.Lot0
import Derived.Test.YtjfgmgkhinehaaaGreatDoorCx29
set_option linter.all false
namespace Go.Proofs.YtjfgmgkhinehaaaGreatDoor
open Go Go.Sort
variable {α : Type} [Inhabited α]
theorem SWO.le {lt : α → α → Bool} {a m : Nat} {d : Array α} (hS : SWO lt) (h : SortedIn lt a m d) {i j : Nat} (hi : a ≤ i) (hij : i ≤ j) (hj : j < m) : lt d[j]! d[i]! = false := by
  by_cases e : i = j
  · subst e; exact hS.irrefl _
  · exact h i j hi (by omega) hj
theorem SWO.asymm {lt : α → α → Bool} (hS : SWO lt) {x y : α} (h : lt x y = true) : lt y x = false := by
  cases hyx : lt y x with
  | false => rfl
  | true => have := hS.trans _ _ _ h hyx; rw [hS.irrefl] at this; cases this
/-- [s, m) and [m, e) have changed places. -/
def Rot (d d' : Array α) (s m e : Nat) : Prop :=
  (∀ i, i < s ∨ e ≤ i → d'[i]! = d[i]!) ∧ (∀ i, s ≤ i → i < s + (e - m) → d'[i]! = d[m + (i - s)]!) ∧ (∀ i, s + (e - m) ≤ i → i < e → d'[i]! = d[i - (e - m)]!)
theorem Rot.none (d : Array α) {s m e : Nat} (hs : s ≤ m) (he : m ≤ e) (h : s = m ∨ m = e) : Rot d d s m e :=
  ⟨fun _ _ => rfl, fun i h1 h2 => by congr 1; omega, fun i h1 h2 => by congr 1; omega⟩
/-- Behind the rotation: four sorted parts, and the left half is not behind the right one. -/
theorem sym_part {lt : α → α → Bool} (hS : SWO lt) {d d' : Array α} {a m b mid s e : Nat} (ha : a ≤ s) (hs : s ≤ m) (hm : m ≤ e) (he : e ≤ b) (hmid : s + e = mid + m) (h1 : SortedIn lt a m d) (h2 : SortedIn lt m b d)
    (hlo : a < s → e < b → lt d[e]! d[s - 1]! = false) (hhi : s < m → m < e → lt d[e - 1]! d[s]! = true) (hr : Rot d d' s m e) :
    SortedIn lt a s d' ∧ SortedIn lt s mid d' ∧ SortedIn lt mid e d' ∧ SortedIn lt e b d' ∧ ∀ x y, a ≤ x → x < mid → mid ≤ y → y < b → lt d'[y]! d'[x]! = false := by
  obtain ⟨r1, r2, r3⟩ := hr
  refine ⟨fun i j hi hij hj => ?_, fun i j hi hij hj => ?_, fun i j hi hij hj => ?_, fun i j hi hij hj => ?_, fun x y hx hxm hy hyb => ?_⟩
  · rw [r1 i (.inl (by omega)), r1 j (.inl hj)]; exact h1 i j hi hij (by omega)
  · rw [r2 i hi (by omega), r2 j (by omega) (by omega)]; exact h2 _ _ (by omega) (by omega) (by omega)
  · rw [r3 i (by omega) (by omega), r3 j (by omega) (by omega)]; exact h1 _ _ (by omega) (by omega) (by omega)
  · rw [r1 i (.inr (by omega)), r1 j (.inr (by omega))]; exact h2 i j (by omega) hij hj
  · by_cases hxs : x < s
    · rw [r1 x (.inl hxs)]
      by_cases hye : y < e
      · rw [r3 y (by omega) hye]; exact h1 _ _ hx (by omega) (by omega)
      · rw [r1 y (.inr (by omega))]
        have e1 := SWO.le hS h2 (i := e) (j := y) hm (by omega) hyb
        have e2 := hlo (by omega) (by omega)
        have e3 := SWO.le hS h1 (i := x) (j := s - 1) hx (by omega) (by omega)
        exact hS.ntrans _ _ _ (hS.ntrans _ _ _ e1 e2) e3
    · rw [r2 x (by omega) (by omega)]
      by_cases hye : y < e
      · rw [r3 y (by omega) hye]
        have e1 := SWO.le hS h1 (i := s) (j := y - (e - m)) ha (by omega) (by omega)
        have e2 := SWO.asymm hS (hhi (by omega) (by omega))
        have e3 := SWO.le hS h2 (i := m + (x - s)) (j := e - 1) (by omega) (by omega) (by omega)
        exact hS.ntrans _ _ _ (hS.ntrans _ _ _ e1 e2) e3
      · rw [r1 y (.inr (by omega))]
        exact h2 _ _ (by omega) (by omega) hyb
/-- Two halves, each merged on its own place: the whole is sorted. -/
theorem merge_glue {lt : α → α → Bool} {d0 d1 d2 : Array α} {a mid b : Nat} (ha : a ≤ mid) (hb : mid ≤ b) (hsz : b ≤ d0.size) (hx : ∀ x y, a ≤ x → x < mid → mid ≤ y → y < b → lt d0[y]! d0[x]! = false)
    (p1 : PermIn a mid d0 d1) (s1 : SortedIn lt a mid d1) (p2 : PermIn mid b d1 d2) (s2 : SortedIn lt mid b d2) : PermIn a b d0 d2 ∧ SortedIn lt a b d2 := by
  refine ⟨permIn_trans _ _ _ _ _ (permIn_mono _ _ _ _ _ _ (Nat.le_refl _) hb hsz p1) (permIn_mono _ _ _ _ _ _ ha (Nat.le_refl _) (by rw [p1.1]; exact hsz) p2), fun i j hi hij hj => ?_⟩
  by_cases hjm : j < mid
  · rw [p2.2.1 i (.inl (by omega)), p2.2.1 j (.inl hjm)]; exact s1 i j hi hij hjm
  · by_cases him : i < mid
    · rw [p2.2.1 i (.inl him)]
      have q1 : ∀ x, a ≤ x → x < mid → ∀ y, mid ≤ y → y < b → lt d0[y]! d1[x]! = false :=
        permIn_all d0 d1 a mid (fun v => ∀ y, mid ≤ y → y < b → lt d0[y]! v = false) (by omega) p1 (fun x h1 h2 y h3 h4 => hx x y h1 h2 h3 h4)
      have q2 : ∀ y, mid ≤ y → y < b → lt d2[y]! d1[i]! = false :=
        permIn_all d1 d2 mid b (fun v => lt v d1[i]! = false) (by rw [p1.1]; exact hsz) p2 (fun y h3 h4 => by rw [p1.2.1 y (.inr h3)]; exact q1 i hi him y h3 h4)
      exact q2 j (by omega) hj
    · exact s2 i j (by omega) hij hj
/-- Obj's order is one. -/
theorem swo_cmpM_of (h0 : ∀ x y : List UInt8, Lib.compareBytes x y < 0 ↔ Op.bytesLess x y = true) (hS : SWO (fun x y : List UInt8 => Op.bytesLess x y)) : SWO (ltOf cmpM) := by
  have e : ∀ x y : MT, ltOf cmpM x y = Op.bytesLess x.nm.data.toList y.nm.data.toList := fun x y => by
    unfold ltOf cmpM
    cases h : Op.bytesLess x.nm.data.toList y.nm.data.toList with
    | true => exact decide_eq_true ((h0 _ _).2 h)
    | false => exact decide_eq_false (fun hh => by rw [(h0 _ _).1 hh] at h; cases h)
  exact ⟨fun x => by rw [e]; exact hS.irrefl _, fun x y z => by rw [e, e, e]; exact hS.trans _ _ _, fun x y z => by rw [e, e, e]; exact hS.ntrans _ _ _⟩
end Go.Proofs.YtjfgmgkhinehaaaGreatDoor
namespace Go.Proofs.YtjfgmgkhinehaaaGreatDoor
open Go Go.Sort
theorem compare_less : ∀ a b : List UInt8, Lib.compareBytes a b < 0 ↔ Op.bytesLess a b = true
  | [], [] => by simp [Lib.compareBytes, Op.bytesLess]
  | [], _ :: _ => by simp [Lib.compareBytes, Op.bytesLess]
  | _ :: _, [] => by simp [Lib.compareBytes, Op.bytesLess]
  | a :: xs, b :: ys => by
    rw [Lib.compareBytes, Op.bytesLess]
    by_cases h : a < b
    · simp [h]
    · rw [if_neg h]
      by_cases h2 : b < a
      · rw [if_pos h2]
        have : a ≠ b := fun e => by subst e; exact absurd h2 h
        simp [h, this]
      · rw [if_neg h2]
        have : a = b := UInt8.le_antisymm (UInt8.not_lt.1 h2) (UInt8.not_lt.1 h)
        subst this
        rw [compare_less xs ys]
        simp [h]
theorem less_trans : ∀ x y z : List UInt8, Op.bytesLess x y = true → Op.bytesLess y z = true → Op.bytesLess x z = true
  | x, [], z, h, _ => by cases x <;> simp [Op.bytesLess] at h
  | x, b :: y, [], _, h => by simp [Op.bytesLess] at h
  | [], b :: y, c :: z, _, _ => rfl
  | a :: x, b :: y, c :: z, h1, h2 => by
    simp only [Op.bytesLess, Bool.or_eq_true, decide_eq_true_eq, Bool.and_eq_true, beq_iff_eq] at h1 h2 ⊢
    rcases h1 with h1 | ⟨rfl, h1⟩
    · rcases h2 with h2 | ⟨rfl, h2⟩
      · exact .inl (UInt8.lt_trans h1 h2)
      · exact .inl h1
    · rcases h2 with h2 | ⟨rfl, h2⟩
      · exact .inl h2
      · exact .inr ⟨rfl, less_trans x y z h1 h2⟩
theorem less_ntrans : ∀ x y z : List UInt8, Op.bytesLess x y = false → Op.bytesLess y z = false → Op.bytesLess x z = false
  | x, y, [], _, _ => by cases x <;> rfl
  | x, [], c :: z, _, h => by simp [Op.bytesLess] at h
  | [], b :: y, c :: z, h, _ => by simp [Op.bytesLess] at h
  | a :: x, b :: y, c :: z, h1, h2 => by
    cases h : Op.bytesLess (a :: x) (c :: z) with
    | false => rfl
    | true =>
      exfalso
      simp only [Op.bytesLess, Bool.or_eq_true, decide_eq_true_eq, Bool.and_eq_true, beq_iff_eq] at h
      have n1 : ¬ a < b := fun e => by simp [Op.bytesLess, e] at h1
      have n2 : ¬ b < c := fun e => by simp [Op.bytesLess, e] at h2
      have l1 := UInt8.not_lt.1 n1
      have l2 := UInt8.not_lt.1 n2
      rcases h with h | ⟨rfl, h⟩
      · exact absurd (UInt8.le_trans l2 l1) (UInt8.not_le.2 h)
      · have e : b = a := UInt8.le_antisymm l1 l2
        subst e
        have m1 : Op.bytesLess x y = false := by simpa [Op.bytesLess] using h1
        have m2 : Op.bytesLess y z = false := by simpa [Op.bytesLess] using h2
        rw [less_ntrans x y z m1 m2] at h
        cases h
theorem less_self : ∀ l : List UInt8, Op.bytesLess l l = false
  | [] => rfl
  | a :: l => by simp [Op.bytesLess, less_self l]
theorem swo_cmpM : SWO (ltOf cmpM) := swo_cmpM_of compare_less ⟨less_self, less_trans, less_ntrans⟩
theorem ltOf_cmpM (x y : MT) : ltOf cmpM x y = Op.bytesLess x.nm.toList y.nm.toList := by
  have e : ∀ t : ByteArray, t.toList = t.data.toList := fun t => ByteArray.toList_eq t
  unfold ltOf cmpM
  rw [e, e]
  cases h : Op.bytesLess x.nm.data.toList y.nm.data.toList with
  | true => exact decide_eq_true ((compare_less _ _).2 h)
  | false => exact decide_eq_false (fun hh => by rw [(compare_less _ _).1 hh] at h; cases h)
end Go.Proofs.YtjfgmgkhinehaaaGreatDoor
namespace Go.Proofs.YtjfgmgkhinehaaaGreatDoor
open Go Go.Sort
/-- A member more among rising ones. -/
def insM (t : ByteArray) (x : J) : List (ByteArray × J) → List (ByteArray × J)
  | [] => [(t, x)]
  | m :: r => if Op.bytesLess m.1.toList t.toList = true then m :: insM t x r else (t, x) :: m :: r
theorem putKL_true (t : ByteArray) (x : J) : ∀ r : List (ByteArray × J), (∀ m ∈ r, m.1 ≠ t) → putKL t x true (r.map Prod.fst) (r.map Prod.snd) = (r.map Prod.fst, r.map Prod.snd)
  | [], _ => rfl
  | m :: r, h => by
    have hm : ¬ m.1 = t := h m (by simp)
    rw [List.map_cons, List.map_cons, putKL]
    simp only [Bool.true_or, List.tail_cons, List.headD_cons]
    rw [putKL_true t x r (fun m' h' => h m' (List.mem_cons_of_mem _ h')), if_neg hm, if_neg (by simp)]
    rfl
theorem putKL_ins (t : ByteArray) (x : J) : ∀ r : List (ByteArray × J), (∀ m ∈ r, m.1 ≠ t) → putKL t x false (r.map Prod.fst) (r.map Prod.snd) = ((insM t x r).map Prod.fst, (insM t x r).map Prod.snd)
  | [], _ => rfl
  | m :: r, h => by
    have hm : ¬ m.1 = t := h m (by simp)
    have hr := fun m' h' => h m' (List.mem_cons_of_mem _ h')
    rw [List.map_cons, List.map_cons, putKL, insM]
    simp only [Bool.false_or, List.tail_cons, List.headD_cons]
    rw [if_neg hm]
    cases hb : Op.bytesLess m.1.toList t.toList with
    | true =>
      rw [if_neg (by simp), if_pos rfl]
      show ([] ++ [m.1] ++ (putKL t x false (r.map Prod.fst) (r.map Prod.snd)).1, [] ++ [m.2] ++ (putKL t x false (r.map Prod.fst) (r.map Prod.snd)).2) = _
      rw [putKL_ins t x r hr]
      rfl
    | false =>
      rw [if_pos (by simp), if_neg (by simp)]
      show ([t] ++ [m.1] ++ (putKL t x true (r.map Prod.fst) (r.map Prod.snd)).1, [x] ++ [m.2] ++ (putKL t x true (r.map Prod.fst) (r.map Prod.snd)).2) = _
      rw [putKL_true t x r hr]
      rfl
theorem insM_perm (t : ByteArray) (x : J) : ∀ r : List (ByteArray × J), (insM t x r).Perm ((t, x) :: r)
  | [] => List.Perm.refl _
  | m :: r => by
    rw [insM]; split
    · exact ((insM_perm t x r).cons m).trans (List.Perm.swap _ _ _)
    · exact List.Perm.refl _
/-- Rising by their names. -/
def Rises (r : List (ByteArray × J)) : Prop := r.Pairwise fun a b => Op.bytesLess a.1.toList b.1.toList = true
theorem less_total {a b : ByteArray} (h : a ≠ b) (h1 : Op.bytesLess a.toList b.toList = false) : Op.bytesLess b.toList a.toList = true := by
  have key : ∀ x y : List UInt8, Op.bytesLess x y = false → Op.bytesLess y x = false → x = y := by
    intro x
    induction x with
    | nil => intro y h1 _; cases y with
      | nil => rfl
      | cons b y => simp [Op.bytesLess] at h1
    | cons a x ih => intro y h1 h2; cases y with
      | nil => simp [Op.bytesLess] at h2
      | cons b y =>
        have n1 : ¬ a < b := fun e => by simp [Op.bytesLess, e] at h1
        have n2 : ¬ b < a := fun e => by simp [Op.bytesLess, e] at h2
        have e : a = b := UInt8.le_antisymm (UInt8.not_lt.1 n2) (UInt8.not_lt.1 n1)
        subst e
        rw [ih y (by simpa [Op.bytesLess] using h1) (by simpa [Op.bytesLess] using h2)]
  cases h2 : Op.bytesLess b.toList a.toList with
  | true => rfl
  | false =>
    refine absurd ?_ h
    have := key _ _ h1 h2
    have e := eq_toList a b
    rw [this] at e
    simpa using e.symm
theorem insM_rises (t : ByteArray) (x : J) : ∀ r : List (ByteArray × J), (∀ m ∈ r, m.1 ≠ t) → Rises r → Rises (insM t x r)
  | [], _, _ => by unfold Rises insM; simp
  | m :: r, h, hr => by
    unfold Rises at hr ⊢
    rw [List.pairwise_cons] at hr
    rw [insM]
    cases hb : Op.bytesLess m.1.toList t.toList with
    | true =>
      rw [if_pos rfl, List.pairwise_cons]
      refine ⟨fun y hy => ?_, insM_rises t x r (fun m' h' => h m' (List.mem_cons_of_mem _ h')) hr.2⟩
      rcases List.mem_cons.1 ((insM_perm t x r).mem_iff.1 hy) with rfl | hy
      · exact hb
      · exact hr.1 y hy
    | false =>
      rw [if_neg (by simp), List.pairwise_cons, List.pairwise_cons]
      have ht := less_total (h m (by simp)) hb
      refine ⟨fun y hy => ?_, hr⟩
      rcases List.mem_cons.1 hy with rfl | hy
      · exact ht
      · exact less_trans _ _ _ ht (hr.1 y hy)
/-- Members put one behind the other: those members, rising. -/
theorem puts_rises : ∀ (n : Nat) (ms : List (ByteArray × J)), ms.length = n → (ms.map Prod.fst).Nodup → ∃ r, putsL ms = (r.map Prod.fst, r.map Prod.snd) ∧ r.Perm ms ∧ Rises r
  | 0, ms, h, _ => by rw [List.eq_nil_of_length_eq_zero h]; exact ⟨[], rfl, List.Perm.refl _, by unfold Rises; simp⟩
  | n + 1, ms, h, hn => by
    obtain ⟨m, t, x, rfl⟩ : ∃ m t x, ms = m ++ [(t, x)] := ⟨ms.dropLast, (ms.getLast (by intro e; rw [e] at h; cases h)).1, (ms.getLast (by intro e; rw [e] at h; cases h)).2, (List.dropLast_concat_getLast _).symm⟩
    rw [List.map_append, List.nodup_append] at hn
    obtain ⟨r, h1, h2, h3⟩ := puts_rises n m (by simpa using h) hn.1
    have hne : ∀ y ∈ r, y.1 ≠ t := fun y hy e => hn.2.2 y.1 (List.mem_map_of_mem (h2.mem_iff.1 hy)) t (by simp) e
    refine ⟨insM t x r, ?_, ?_, insM_rises t x r hne h3⟩
    · rw [putsL_snoc, h1]; exact putKL_ins t x r hne
    · exact (insM_perm t x r).trans (((h2.cons (t, x))).trans (List.perm_append_comm (l₁ := [(t, x)]) (l₂ := m)))
theorem rises_unique {r r' : List (ByteArray × J)} (hp : r.Perm r') (h : Rises r) (h' : Rises r') : r = r' :=
  List.Perm.eq_of_pairwise (fun a b _ _ h1 h2 => absurd (less_trans _ _ _ h1 h2) (by rw [less_self]; simp)) h h' hp
theorem FlatM.cons_of {W : World} {S : Nat → Prop} {ms : List (ByteArray × J)} {z : MC} {zs : List MC} (h : FlatM W S ms (z :: zs)) : ∃ m r, ms = m :: r ∧ FlatM W S [m] [z] ∧ FlatM W S r zs := by
  cases ms with
  | nil => rw [FlatM] at h; cases h
  | cons m r =>
    obtain ⟨z', zs', e, h1, h2, h3, h4⟩ := h
    injection e with e1 e2
    subst e1; subst e2
    exact ⟨m, r, rfl, ⟨z, [], rfl, h1, h2, h3, rfl⟩, h4⟩
theorem FlatM.cons_to {W : World} {S : Nat → Prop} {m : ByteArray × J} {r : List (ByteArray × J)} {z : MC} {zs : List MC} (h : FlatM W S [m] [z]) (hr : FlatM W S r zs) : FlatM W S (m :: r) (z :: zs) := by
  obtain ⟨z', zs', e, h1, h2, h3, _⟩ := h
  injection e with e1 e2
  subst e1
  exact ⟨z, zs, rfl, h1, h2, h3, hr⟩
/-- A row in another order holds the members in that order. -/
theorem FlatM.perm {W : World} {S : Nat → Prop} {zs zs' : List MC} (hp : zs.Perm zs') : ∀ ms : List (ByteArray × J), FlatM W S ms zs → ∃ ms', ms'.Perm ms ∧ FlatM W S ms' zs' := by
  induction hp with
  | nil => intro ms h; exact ⟨ms, List.Perm.refl _, h⟩
  | cons z _ ih =>
    intro ms h
    obtain ⟨m, r, rfl, h1, h2⟩ := h.cons_of
    obtain ⟨r', p1, p2⟩ := ih r h2
    exact ⟨m :: r', p1.cons m, h1.cons_to p2⟩
  | swap a b l =>
    intro ms h
    obtain ⟨m, r, rfl, h1, h2⟩ := h.cons_of
    obtain ⟨m2, r2, rfl, h3, h4⟩ := h2.cons_of
    exact ⟨m2 :: m :: r2, List.Perm.swap _ _ _, h3.cons_to (h1.cons_to h4)⟩
  | trans _ _ ih1 ih2 =>
    intro ms h
    obtain ⟨m1, p1, q1⟩ := ih1 ms h
    obtain ⟨m2, p2, q2⟩ := ih2 m1 q1
    exact ⟨m2, p2.trans p1, q2⟩
/-- A row whose names rise: putsL's members. -/
theorem puts_of_rises {ms r : List (ByteArray × J)} (hn : (ms.map Prod.fst).Nodup) (hp : r.Perm ms) (hr : Rises r) : putsL ms = (r.map Prod.fst, r.map Prod.snd) := by
  obtain ⟨r', h1, h2, h3⟩ := puts_rises _ ms rfl hn
  rw [h1, rises_unique (h2.trans hp.symm) h3 hr]
end Go.Proofs.YtjfgmgkhinehaaaGreatDoor
namespace Go.Proofs.YtjfgmgkhinehaaaGreatDoor
open Go Go.Sort
/-- A member more among rising ones, in the place of one of its name. -/
def insR (t : ByteArray) (x : J) : List (ByteArray × J) → List (ByteArray × J)
  | [] => [(t, x)]
  | m :: r => if Op.bytesLess m.1.toList t.toList = true then m :: insR t x r else if m.1 = t then (t, x) :: r else (t, x) :: m :: r
theorem putKL_insR (t : ByteArray) (x : J) : ∀ r : List (ByteArray × J), Rises r → putKL t x false (r.map Prod.fst) (r.map Prod.snd) = ((insR t x r).map Prod.fst, (insR t x r).map Prod.snd)
  | [], _ => rfl
  | m :: r, hr => by
    unfold Rises at hr
    rw [List.pairwise_cons] at hr
    rw [List.map_cons, List.map_cons, putKL, insR]
    simp only [Bool.false_or, List.tail_cons, List.headD_cons]
    cases hb : Op.bytesLess m.1.toList t.toList with
    | true =>
      have hm : ¬ m.1 = t := fun e => by rw [e, less_self] at hb; cases hb
      rw [if_neg hm, if_neg (by simp), if_pos rfl]
      show ([] ++ [m.1] ++ (putKL t x false (r.map Prod.fst) (r.map Prod.snd)).1, [] ++ [m.2] ++ (putKL t x false (r.map Prod.fst) (r.map Prod.snd)).2) = _
      rw [putKL_insR t x r hr.2]
      rfl
    | false =>
      have hne : ∀ m' ∈ r, m'.1 ≠ t := fun m' h' e => by
        have h1 := hr.1 m' h'
        rw [e, hb] at h1; cases h1
      by_cases hm : m.1 = t
      · rw [if_pos hm, if_pos (show (True ∧ false = false) from ⟨trivial, rfl⟩), if_neg (show ¬ (false = true) by simp), if_pos hm]
        show ([t] ++ [] ++ (putKL t x true (r.map Prod.fst) (r.map Prod.snd)).1, [x] ++ [] ++ (putKL t x true (r.map Prod.fst) (r.map Prod.snd)).2) = _
        rw [putKL_true t x r hne]; rfl
      · rw [if_neg hm, if_pos (show (True ∧ false = false) from ⟨trivial, rfl⟩), if_neg (show ¬ (false = true) by simp), if_neg hm]
        show ([t] ++ [m.1] ++ (putKL t x true (r.map Prod.fst) (r.map Prod.snd)).1, [x] ++ [m.2] ++ (putKL t x true (r.map Prod.fst) (r.map Prod.snd)).2) = _
        rw [putKL_true t x r hne]; rfl
/-- What stands there by a name. -/
def look (r : List (ByteArray × J)) (u : ByteArray) : Option J := (r.find? fun m => decide (m.1 = u)).map Prod.snd
theorem look_cons (m : ByteArray × J) (r : List (ByteArray × J)) (u : ByteArray) : look (m :: r) u = if m.1 = u then some m.2 else look r u := by
  unfold look
  rw [List.find?_cons]
  by_cases h : m.1 = u
  · rw [decide_eq_true h, if_pos h]; rfl
  · rw [decide_eq_false h, if_neg h]
theorem look_none {r : List (ByteArray × J)} {u : ByteArray} (h : ∀ m ∈ r, m.1 ≠ u) : look r u = none := by
  unfold look
  rw [List.find?_eq_none.2 (fun m hm => by simpa using h m hm)]
  rfl
theorem look_some {r : List (ByteArray × J)} {u : ByteArray} {x : J} (h : look r u = some x) : ∃ m ∈ r, m.1 = u := by
  unfold look at h
  cases hf : r.find? (fun m => decide (m.1 = u)) with
  | none => rw [hf] at h; cases h
  | some m => exact ⟨m, List.mem_of_find?_eq_some hf, by simpa using List.find?_some hf⟩
theorem insR_look (t : ByteArray) (x : J) (u : ByteArray) : ∀ r : List (ByteArray × J), Rises r → look (insR t x r) u = if t = u then some x else look r u
  | [], _ => by rw [insR, look_cons]
  | m :: r, hr => by
    unfold Rises at hr
    rw [List.pairwise_cons] at hr
    rw [insR]
    cases hb : Op.bytesLess m.1.toList t.toList with
    | true =>
      rw [if_pos rfl, look_cons, insR_look t x u r hr.2, look_cons]
      by_cases h1 : m.1 = u
      · have : ¬ t = u := fun e => by rw [h1, e, less_self] at hb; cases hb
        rw [if_pos h1, if_neg this, if_pos h1]
      · rw [if_neg h1, if_neg h1]
    | false =>
      rw [if_neg (by simp)]
      by_cases hm : m.1 = t
      · rw [if_pos hm, look_cons, look_cons]
        by_cases h1 : t = u
        · rw [if_pos h1, if_pos h1]
        · rw [if_neg h1, if_neg h1, if_neg (by rw [hm]; exact h1)]
      · rw [if_neg hm, look_cons]
theorem insR_mem {t : ByteArray} {x : J} : ∀ {r : List (ByteArray × J)} {m : ByteArray × J}, m ∈ insR t x r → m = (t, x) ∨ m ∈ r
  | [], m, h => by rw [insR] at h; exact .inl (by simpa using h)
  | m0 :: r, m, h => by
    rw [insR] at h
    split at h
    · rcases List.mem_cons.1 h with h | h
      · exact .inr (by rw [h]; exact List.mem_cons_self)
      · rcases insR_mem h with h | h
        · exact .inl h
        · exact .inr (List.mem_cons_of_mem _ h)
    · split at h
      · rcases List.mem_cons.1 h with h | h
        · exact .inl h
        · exact .inr (List.mem_cons_of_mem _ h)
      · rcases List.mem_cons.1 h with h | h
        · exact .inl h
        · exact .inr h
theorem insR_rises (t : ByteArray) (x : J) : ∀ r : List (ByteArray × J), Rises r → Rises (insR t x r)
  | [], _ => by unfold Rises insR; simp
  | m :: r, hr => by
    unfold Rises at hr ⊢
    rw [List.pairwise_cons] at hr
    rw [insR]
    cases hb : Op.bytesLess m.1.toList t.toList with
    | true =>
      rw [if_pos rfl, List.pairwise_cons]
      refine ⟨fun y hy => ?_, insR_rises t x r hr.2⟩
      rcases insR_mem hy with rfl | hy
      · exact hb
      · exact hr.1 y hy
    | false =>
      rw [if_neg (by simp)]
      by_cases hm : m.1 = t
      · rw [if_pos hm, List.pairwise_cons]
        exact ⟨fun y hy => by have := hr.1 y hy; rwa [hm] at this, hr.2⟩
      · rw [if_neg hm, List.pairwise_cons, List.pairwise_cons]
        have ht := less_total hm hb
        refine ⟨fun y hy => ?_, hr⟩
        rcases List.mem_cons.1 hy with rfl | hy
        · exact ht
        · exact less_trans _ _ _ ht (hr.1 y hy)
/-- The last of a name. -/
def lastM (ms : List (ByteArray × J)) (u : ByteArray) : Option J := ((ms.filter fun m => decide (m.1 = u)).getLast?).map Prod.snd
theorem lastM_snoc (ms : List (ByteArray × J)) (t : ByteArray) (x : J) (u : ByteArray) : lastM (ms ++ [(t, x)]) u = if t = u then some x else lastM ms u := by
  unfold lastM
  rw [List.filter_append]
  by_cases h : t = u
  · rw [if_pos h, List.filter_cons_of_pos (by simpa using h), List.filter_nil, List.getLast?_append]
    rfl
  · rw [if_neg h, List.filter_cons_of_neg (by simpa using h), List.filter_nil, List.append_nil]
theorem puts_last : ∀ (n : Nat) (ms : List (ByteArray × J)), ms.length = n → ∃ r, putsL ms = (r.map Prod.fst, r.map Prod.snd) ∧ Rises r ∧ ∀ u, look r u = lastM ms u
  | 0, ms, h => by rw [List.eq_nil_of_length_eq_zero h]; exact ⟨[], rfl, by unfold Rises; simp, fun _ => rfl⟩
  | n + 1, ms, h => by
    obtain ⟨m, t, x, rfl⟩ : ∃ m t x, ms = m ++ [(t, x)] := ⟨ms.dropLast, (ms.getLast (by intro e; rw [e] at h; cases h)).1, (ms.getLast (by intro e; rw [e] at h; cases h)).2, (List.dropLast_concat_getLast _).symm⟩
    obtain ⟨r, h1, h2, h3⟩ := puts_last n m (by simpa using h)
    refine ⟨insR t x r, ?_, insR_rises t x r h2, fun u => ?_⟩
    · rw [putsL_snoc, h1]; exact putKL_insR t x r h2
    · rw [insR_look t x u r h2, lastM_snoc, h3]
/-- Rising members are told by what stands there by each name. -/
theorem rises_look : ∀ {r r' : List (ByteArray × J)}, Rises r → Rises r' → (∀ u, look r u = look r' u) → r = r'
  | [], [], _, _, _ => rfl
  | [], m :: r', _, _, h => by have := h m.1; rw [look_cons, if_pos rfl] at this; cases this
  | m :: r, [], _, _, h => by have := h m.1; rw [look_cons, if_pos rfl] at this; cases this
  | m :: r, m' :: r', h1, h2, h => by
    unfold Rises at h1 h2
    rw [List.pairwise_cons] at h1 h2
    have e : m.1 = m'.1 := by
      have a := h m.1
      rw [look_cons, if_pos rfl] at a
      obtain ⟨p, p1, p2⟩ := look_some a.symm
      have b := h m'.1
      rw [look_cons m', if_pos rfl] at b
      obtain ⟨q, q1, q2⟩ := look_some b
      rcases List.mem_cons.1 p1 with rfl | p1
      · exact p2.symm
      · rcases List.mem_cons.1 q1 with rfl | q1
        · exact q2
        · have l1 := h2.1 p p1
          have l2 := h1.1 q q1
          rw [p2] at l1
          rw [q2] at l2
          have := less_trans _ _ _ l1 l2
          rw [less_self] at this; cases this
    have e2 : m.2 = m'.2 := by
      have a := h m.1
      rw [look_cons, look_cons, if_pos rfl, if_pos e.symm] at a
      injection a
    have hm : m = m' := Prod.ext e e2
    subst hm
    congr 1
    refine rises_look h1.2 h2.2 (fun u => ?_)
    by_cases hu : m.1 = u
    · rw [look_none (fun y hy e => ?_), look_none (fun y hy e => ?_)]
      · have := h2.1 y hy; rw [e, hu, less_self] at this; cases this
      · have := h1.1 y hy; rw [e, hu, less_self] at this; cases this
    · have := h u
      rwa [look_cons, look_cons, if_neg hu, if_neg hu] at this
/-- Of several of one name the last. -/
def keepL : List (ByteArray × J) → List (ByteArray × J)
  | [] => []
  | [m] => [m]
  | m :: m2 :: r => if m2.1 = m.1 then keepL (m2 :: r) else m :: keepL (m2 :: r)
/-- Rising, names met again and all. -/
def Weak (r : List (ByteArray × J)) : Prop := r.Pairwise fun a b => Op.bytesLess b.1.toList a.1.toList = false
theorem keepL_mem : ∀ {r : List (ByteArray × J)} {m : ByteArray × J}, m ∈ keepL r → m ∈ r
  | [], m, h => by cases h
  | [a], m, h => h
  | a :: b :: r, m, h => by
    rw [keepL] at h
    split at h
    · exact List.mem_cons_of_mem _ (keepL_mem h)
    · rcases List.mem_cons.1 h with h | h
      · rw [h]; exact List.mem_cons_self
      · exact List.mem_cons_of_mem _ (keepL_mem h)
theorem weak_strict {a b : ByteArray × J} {r : List (ByteArray × J)} (h : Weak (a :: b :: r)) (hne : b.1 ≠ a.1) : ∀ y ∈ b :: r, Op.bytesLess a.1.toList y.1.toList = true := by
  unfold Weak at h
  rw [List.pairwise_cons, List.pairwise_cons] at h
  have h0 : Op.bytesLess a.1.toList b.1.toList = true := less_total hne (h.1 b List.mem_cons_self)
  intro y hy
  rcases List.mem_cons.1 hy with rfl | hy
  · exact h0
  · have h1 := h.2.1 y hy
    cases hc : Op.bytesLess a.1.toList y.1.toList with
    | true => rfl
    | false => have := less_ntrans _ _ _ hc h1; rw [h0] at this; cases this
theorem keepL_spec : ∀ (r : List (ByteArray × J)), Weak r → Rises (keepL r) ∧ ∀ u, look (keepL r) u = lastM r u
  | [], _ => ⟨by unfold Rises keepL; simp, fun _ => rfl⟩
  | [m], _ => ⟨by unfold Rises keepL; simp, fun u => by
      rw [keepL, look_cons]; unfold lastM look
      by_cases h : m.1 = u
      · rw [if_pos h, List.filter_cons_of_pos (by simpa using h)]; rfl
      · rw [if_neg h, List.filter_cons_of_neg (by simpa using h)]; rfl⟩
  | a :: b :: r, h => by
    have hw : Weak (b :: r) := by unfold Weak at h ⊢; rw [List.pairwise_cons] at h; exact h.2
    obtain ⟨i1, i2⟩ := keepL_spec (b :: r) hw
    rw [keepL]
    by_cases e : b.1 = a.1
    · rw [if_pos e]
      refine ⟨i1, fun u => ?_⟩
      rw [i2]
      unfold lastM
      by_cases hu : a.1 = u
      · rw [List.filter_cons_of_pos (a := a) (by simpa using hu), List.filter_cons_of_pos (a := b) (by rw [e]; simpa using hu)]
        rw [List.getLast?_cons_cons]
      · rw [List.filter_cons_of_neg (a := a) (by simpa using hu)]
    · rw [if_neg e]
      have hs := weak_strict h e
      refine ⟨?_, fun u => ?_⟩
      · unfold Rises at i1 ⊢
        rw [List.pairwise_cons]
        exact ⟨fun y hy => hs y (keepL_mem hy), i1⟩
      · rw [look_cons, i2]
        unfold lastM
        by_cases hu : a.1 = u
        · have hn : (b :: r).filter (fun m => decide (m.1 = u)) = [] := List.filter_eq_nil_iff.2 fun y hy e2 => by
            have e2 : y.1 = u := by simpa using e2
            have := hs y hy
            rw [e2, hu, less_self] at this; cases this
          rw [if_pos hu, List.filter_cons_of_pos (a := a) (by simpa using hu), hn]; rfl
        · rw [if_neg hu, List.filter_cons_of_neg (a := a) (by simpa using hu)]
/-- Sorted so that equal ones stand as they stood: the last of each name is what putsL tells. -/
theorem puts_keep {ms r : List (ByteArray × J)} (hw : Weak r) (hf : ∀ u, r.filter (fun m => decide (m.1 = u)) = ms.filter (fun m => decide (m.1 = u))) : putsL ms = ((keepL r).map Prod.fst, (keepL r).map Prod.snd) := by
  obtain ⟨q, h1, h2, h3⟩ := puts_last _ ms rfl
  obtain ⟨k1, k2⟩ := keepL_spec r hw
  rw [h1, rises_look h2 k1 (fun u => by rw [h3, k2]; unfold lastM; rw [hf])]
end Go.Proofs.YtjfgmgkhinehaaaGreatDoor
namespace Go.Proofs.YtjfgmgkhinehaaaGreatDoor
open Go Go.RowKit
def listJ (l : List J) : J := .mk 4 0 ⟨#[]⟩ l []
set_option maxRecDepth 100000 in
set_option maxHeartbeats 8000000 in
theorem list_anyJ (l : List J) (hl : l.length ≤ 1000000) (hsm : ∀ x ∈ l, Sm x) (W : World) (A : Option Addr) (c : Nat) (hc : l ≠ [] → ∃ b o, A = some ⟨b, o, none⟩ ∧ b < W.heap.size ∧ RepC W b o l) :
    Calls Tryz.prog 16 #[.slice A l.length c] W (fun e w' => ∃ v', e = .returned v' ∧ RepS w' (fun b => W.heap.size ≤ b) (listJ l) v' ∧ Below W.heap.size W w') := by
  have hj : RepJ W (listJ l) (.agg #[.int .i64 4, .int .i64 0, .string ⟨#[]⟩, .slice A l.length c, .slice none 0 0]) := by
    rw [listJ, RepJ]
    exact ⟨_, A, c, rfl, by decide, ⟨none, 0, rfl, by simp, fun h => absurd rfl h⟩, by omega, hc⟩
  have hB1 := belowAlloc W (.cells #[.int .i64 0, .int .i64 0, .string ⟨#[]⟩, .slice none 0 0, .slice none 0 0] 27)
  have hbr : Blk (W.alloc (.cells #[.int .i64 0, .int .i64 0, .string ⟨#[]⟩, .slice none 0 0, .slice none 0 0] 27)) W.heap.size 27 zeros5 := by exact heap_alloc_new W _
  obtain ⟨W1, hW1⟩ : ∃ X, X = W.alloc (.cells #[.int .i64 0, .int .i64 0, .string ⟨#[]⟩, .slice none 0 0, .slice none 0 0] 27) := ⟨_, rfl⟩
  rw [← hW1] at hB1 hbr
  have hz : W1.heap.size = W.heap.size + 1 := by rw [hW1]; simp
  have hs : RepS W1 (fun b => b < W1.heap.size) (listJ l) (.agg #[.int .i64 4, .int .i64 0, .string ⟨#[]⟩, .slice A l.length c, .slice none 0 0]) := RepS.keeps (Keeps.refl _ W1) (fun b _ hb => hb) _ _ (RepS.ofJ _ _ (RepJ.below hB1 _ _ hj))
  obtain ⟨vk, A2, c2, e, -, -, -, hcs⟩ := hs.open
  injection e with e
  have e := congrArg Array.toList e
  simp only [List.cons.injEq, Value.int.injEq, Value.string.injEq, Value.slice.injEq, true_and, and_true] at e
  obtain ⟨-, -, -, ⟨rfl, -, rfl⟩, -⟩ := e
  have HCA := Lib.hid (cloneAll_of l hl (fun x hx => clone_any x (hsm x hx)) W1 (fun b => b < W1.heap.size) (fun b h => h) A c hcs)
  have HW1 := Lib.hid hW1
  have HB1 := Lib.hid hB1
  have HBR := Lib.hid hbr
  have HZ := Lib.hid hz
  obtain ⟨n, hn⟩ : ∃ n, n = l.length := ⟨_, rfl⟩
  rw [← hn] at HCA ⊢
  have HN := Lib.hid hn
  have HLN := Lib.hid hl
  clear hj hB1 hbr hW1 hz hs hcs hc hsm hl hn
  go_enter Tryz.func16, Tryz.ntmps16
  go_wp2_with fail
  rw [show W.alloc (.cells #[.int .i64 0, .int .i64 0, .string ⟨#[]⟩, .slice none 0 0, .slice none 0 0] 27) = W1 from HW1.out.symm]
  refine HCA.out.mono ?_
  rintro e w2 ⟨A', c', rfl, hcl, hb⟩
  have hbr2 := HBR.out.below hb (by have := HZ.out; omega)
  have HB2 := Lib.hid (HB1.out.trans (hb.mono HB1.out.size))
  have HCL := Lib.hid hcl
  clear hcl hb HCA
  go_wp2_with (refine wpList_store_blk rfl none rfl _ (.tmp 2) (.tmp 5) rfl W.heap.size 0 [.int .i64 4, .int .i64 0, .string ⟨#[]⟩, .slice A' n c', .slice none 0 0] rfl rfl _ _ hbr2 (by simp [zeros5]) sizeJson (by intro v hv; simp at hv; rcases hv with rfl | rfl | rfl | rfl | rfl <;> rfl) ?_; intro w9 hb9 hgr; rw [splice_all _ _ (by simp [zeros5])] at hb9; have HB9 := Lib.hid hb9; have HG9 := Lib.hid hgr; clear hgr hb9 hbr2; try go_frame)
  (try simp only [Exit.inBlock, Exit.then])
  refine bodyPost_ret (results_blk1 Tryz.results16 _ _ W.heap.size _ _ _ rfl HB9.out Tryz.underlying27 rfl sizeJson) rfl ⟨_, rfl, ?_, HB2.out.grown HG9.out HB2.out.size (by intro b e; injection e with e; omega)⟩
  refine RepS.keeps (S := fun b => W1.heap.size ≤ b) (Keeps.grown HG9.out (fun b (h : _ ≤ b) e => by injection e with e; have := HZ.out; omega)) (fun b (h : _ ≤ b) _ => show W.heap.size ≤ b by have := HZ.out; omega) _ _ ?_
  rw [listJ, RepS]
  refine ⟨_, A', c', by rw [← HN.out]; rfl, by decide, ⟨none, 0, rfl, by simp, fun h => absurd rfl h⟩, by have := HLN.out; omega, HCL.out⟩
/-- All that stands there was put there. -/
theorem puts_mem : ∀ (n : Nat) (ms : List (ByteArray × J)), ms.length = n → ∀ x ∈ (putsL ms).2, ∃ m ∈ ms, m.2 = x
  | 0, ms, h => by rw [List.eq_nil_of_length_eq_zero h]; intro x hx; cases hx
  | n + 1, ms, h => by
    obtain ⟨m, t, y, rfl⟩ : ∃ m t x, ms = m ++ [(t, x)] := ⟨ms.dropLast, (ms.getLast (by intro e; rw [e] at h; cases h)).1, (ms.getLast (by intro e; rw [e] at h; cases h)).2, (List.dropLast_concat_getLast _).symm⟩
    have ih := puts_mem n m (by simpa using h)
    obtain ⟨r, h1, h2, _⟩ := puts_last _ m rfl
    intro x hx
    rw [putsL_snoc, h1, putKL_insR t y r h2] at hx
    obtain ⟨p, hp, rfl⟩ := List.mem_map.1 hx
    rcases insR_mem hp with rfl | hp
    · exact ⟨(t, y), by simp, rfl⟩
    · obtain ⟨q, hq, e⟩ := ih p.2 (by rw [h1]; exact List.mem_map_of_mem hp)
      exact ⟨q, by simp [hq], e⟩
end Go.Proofs.YtjfgmgkhinehaaaGreatDoor
