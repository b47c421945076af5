/- LxBackM, LxLawB: merged. -/
import Derived.Test.YtljdnjidphmkjaaDoorLx13
import Derived.Test.YtljdnjidphmkjaaDoorLx14
import Derived.Test.YtljdnjidphmkjaaDoorLx22
import Derived.Test.YtljdnjidphmkjaaDoorLx28
set_option linter.all false
namespace Go.Proofs.YtljdnjidphmkjaaDoor
open Go Go.RowKit
/-! ### Texts within quotes -/
theorem putL_high {N : Int} (h : 128 ≤ N) : ∀ x ∈ putL N, 128 ≤ x := fun x hx => by
  rcases putL_cases N with ⟨h', _⟩ | ⟨_, _, h'⟩ | ⟨_, _, h'⟩ | ⟨_, _, _, h'⟩ | ⟨_, _, h'⟩ <;> rw [h'] at hx <;> simp at hx <;> omega
theorem first_byteN {c : Int} {r : List Int} (hv : (nxL (c :: r)).1 ≠ -1) (h : c < 128) : (nxL (c :: r)).2 = 1 ∧ (nxL (c :: r)).1 = c := by
  obtain ⟨h1, h2, h3, h4, _, h6, h7⟩ := nx_found hv
  obtain ⟨m, hm⟩ : ∃ m, (nxL (c :: r)).2 = m + 1 := ⟨(nxL (c :: r)).2 - 1, by omega⟩
  rw [hm, List.take_succ_cons] at h1
  rcases putL_cases (nxL (c :: r)).1 with ⟨h', _⟩ | ⟨_, hlt, h'⟩ | ⟨_, _, h'⟩ | ⟨_, _, _, h'⟩ | ⟨_, _, h'⟩ <;> rw [h'] at h1 h2
  · cases h1
  · injection h1 with a b
    simp at h2
    exact ⟨h2.symm, a⟩
  all_goals (injection h1 with a b; omega)
theorem esc1_self {c : Int} (h1 : c ≠ 34) (h2 : c ≠ 92) : esc1 c = [c] := by unfold esc1; rw [if_neg (by omega)]
theorem escN_self : ∀ l : List Int, (∀ x ∈ l, x ≠ 34 ∧ x ≠ 92) → escN l = l
  | [], _ => rfl
  | c :: r, h => by rw [escN_cons, esc1_self (h c (by simp)).1 (h c (by simp)).2, escN_self r (fun x hx => h x (List.mem_cons_of_mem _ hx))]; rfl
theorem highL_cons {c : Int} {r : List Int} : highL (c :: r) = true ↔ 32 ≤ c ∧ highL r = true := by
  unfold highL
  rw [List.all_cons, Bool.and_eq_true, decide_eq_true_eq]
theorem highL_app {a b : List Int} : highL (a ++ b) = true ↔ highL a = true ∧ highL b = true := by
  unfold highL
  rw [List.all_append, Bool.and_eq_true]
theorem quot_esc : ∀ (n : Nat) (l : List Int), l.length ≤ n → badU l = l.length → highL l = true → ∀ (f : Nat) (rest : List Int), (escN l ++ 34 :: rest).length < f → quotF f (escN l ++ 34 :: rest) = (l, (escN l).length + 1, true)
  | n, [], _, _, _, 0, rest, hf => absurd hf (Nat.not_lt_zero _)
  | n, [], _, _, _, f + 1, rest, hf => by rw [escN_nil, List.nil_append, quotF_end]; rfl
  | 0, c :: r, hl, _, _, _, _, _ => by simp at hl
  | n + 1, c :: r, hl, hu, hh, 0, rest, hf => absurd hf (Nat.not_lt_zero _)
  | n + 1, c :: r, hl, hu, hh, f + 1, rest, hf => by
    have hv : (nxL (c :: r)).1 ≠ -1 := fun e => by rw [badU_stop e] at hu; cases hu
    have hb := badU_go hv
    obtain ⟨p1, p2, p3, p4, _, p6, p7⟩ := nx_found hv
    obtain ⟨m, hm⟩ : ∃ m, m = (nxL (c :: r)).2 := ⟨_, rfl⟩
    obtain ⟨N, hN⟩ : ∃ N, N = (nxL (c :: r)).1 := ⟨_, rfl⟩
    rw [← hm] at hb p1 p2 p3 p4
    rw [← hN] at p1 p2 p6 p7
    have hu2 : badU ((c :: r).drop m) = ((c :: r).drop m).length := by rw [List.length_drop]; omega
    have hln : ((c :: r).drop m).length ≤ n := by rw [List.length_drop]; simp only [List.length_cons] at hl ⊢; omega
    have hc32 := (highL_cons.1 hh).1
    have hch := (highL_cons.1 hh).2
    by_cases hlow : c = 34 ∨ c = 92
    · obtain ⟨e1, e2⟩ := first_byteN hv (by omega)
      rw [← hm] at e1
      rw [e1, List.drop_succ_cons, List.drop_zero] at hu2 hln
      have he : esc1 c = [92, c] := by unfold esc1; rw [if_pos hlow]
      rw [escN_cons, he] at hf ⊢
      have hlen : (escN r ++ 34 :: rest).length < f := by simp at hf ⊢; omega
      show quotF (f + 1) (92 :: c :: (escN r ++ 34 :: rest)) = _
      rw [quotF_esc hlow, quot_esc n r hln hu2 hch f rest hlen]
      simp [appQ] <;> omega
    · have hself : ∀ x ∈ (c :: r).take m, x ≠ 34 ∧ x ≠ 92 := fun x hx => by
        by_cases h128 : c < 128
        · obtain ⟨e1, e2⟩ := first_byteN hv h128
          rw [← hm] at e1
          rw [e1, List.take_succ_cons, List.take_zero, List.mem_singleton] at hx
          subst hx; omega
        · have hNb : 128 ≤ N := Decidable.byContradiction fun hn => by
            rw [putL_one p6 (by omega)] at p1
            obtain ⟨m', rfl⟩ : ∃ m', m = m' + 1 := ⟨m - 1, by omega⟩
            rw [List.take_succ_cons] at p1
            injection p1 with a b; omega
          have := putL_high hNb x (by rw [p1]; exact hx)
          omega
      obtain ⟨T, hT⟩ : ∃ T, T = (c :: r).take m := ⟨_, rfl⟩
      obtain ⟨D, hD⟩ : ∃ D, D = (c :: r).drop m := ⟨_, rfl⟩
      have hcr : c :: r = T ++ D := by rw [hT, hD, List.take_append_drop]
      have hTl : T.length = m := by rw [hT, List.length_take]; omega
      rw [← hT] at p1 hself
      rw [← hD] at hu2 hln
      have hT1 : ∃ T', T = c :: T' := by
        obtain ⟨m', e⟩ : ∃ m', m = m' + 1 := ⟨m - 1, by omega⟩
        rw [e, List.take_succ_cons] at hT
        exact ⟨_, hT⟩
      obtain ⟨T', hT'⟩ := hT1
      have hhD : highL D = true := by
        rw [hcr] at hh; exact (highL_app.1 hh).2
      rw [hcr, escN_app, escN_self T hself, List.append_assoc] at hf ⊢
      have hnx : nxL (T ++ (escN D ++ 34 :: rest)) = (N, m) := by rw [← p1, nx_put p7, p2]
      have hlen : (escN D ++ 34 :: rest).length < f := by
        rw [List.length_append, hTl] at hf; omega
      have hgo := quotF_go (f := f) (c := c) (r := T' ++ (escN D ++ 34 :: rest)) (by omega) (by omega) (by omega) (by rw [← List.cons_append, ← hT', hnx]; omega)
      rw [← List.cons_append, ← hT', hnx] at hgo
      rw [hgo]
      show appQ ((T ++ (escN D ++ 34 :: rest)).take m) m (quotF f ((T ++ (escN D ++ 34 :: rest)).drop m)) = _
      rw [← hTl, List.take_left, List.drop_left, quot_esc n D hln hu2 hhD f rest hlen]
      simp [appQ] <;> omega
  termination_by n l => n
/-- What stands within quotes can stand there. -/
theorem quotF_valid : ∀ (f : Nat) (l : List Int), (quotF f l).2.2 = true → badU (quotF f l).1 = (quotF f l).1.length ∧ highL (quotF f l).1 = true
  | 0, _, h => by cases h
  | _ + 1, [], h => by cases h
  | f + 1, c :: r, h => by
    have hne : badU ([] : List Int) = ([] : List Int).length ∧ highL [] = true := ⟨rfl, rfl⟩
    by_cases h0 : c < 32
    · rw [quotF_low h0] at h; cases h
    · by_cases h1 : c = 34
      · subst h1; rw [quotF_end]; exact hne
      · by_cases h2 : c = 92
        · subst h2
          cases r with
          | nil => rw [quotF_esc_no (by simp)] at h; cases h
          | cons d q =>
            by_cases hd : d = 34 ∨ d = 92
            · rw [quotF_esc hd] at h ⊢
              obtain ⟨i1, i2⟩ := quotF_valid f q h
              obtain ⟨Z, hZ⟩ : ∃ Z, Z = quotF f q := ⟨_, rfl⟩
              rw [← hZ] at i1 i2 ⊢
              show badU (d :: Z.1) = (d :: Z.1).length ∧ highL (d :: Z.1) = true
              have hp : putL d = [d] := putL_one (by omega) (by omega)
              have hn : nxL (d :: Z.1) = (d, 1) := by
                have := nx_put (n := d) (by rw [hp]; simp) Z.1
                rw [hp] at this; exact this
              refine ⟨?_, highL_cons.2 ⟨by omega, i2⟩⟩
              rw [badU_go (by rw [hn]; show d ≠ -1; omega), hn]
              show 1 + badU Z.1 = _
              rw [i1, List.length_cons]; omega
            · rw [quotF_esc_no (by simpa using hd)] at h; cases h
        · by_cases hx : (nxL (c :: r)).1 = -1
          · rw [quotF_bad h0 h1 h2 hx] at h; cases h
          · rw [quotF_go h0 h1 h2 hx] at h ⊢
            obtain ⟨i1, i2⟩ := quotF_valid f _ h
            obtain ⟨p1, p2, p3, p4, _, p6, p7⟩ := nx_found hx
            have hhd := nx_head hx
            obtain ⟨Z, hZ⟩ : ∃ Z, Z = quotF f ((c :: r).drop (nxL (c :: r)).2) := ⟨_, rfl⟩
            rw [← hZ] at i1 i2 ⊢
            obtain ⟨N, hN⟩ : ∃ N, N = (nxL (c :: r)).1 := ⟨_, rfl⟩
            rw [← hN] at p1 p2 p6 p7 hhd
            show badU ((c :: r).take (nxL (c :: r)).2 ++ Z.1) = ((c :: r).take (nxL (c :: r)).2 ++ Z.1).length ∧ highL ((c :: r).take (nxL (c :: r)).2 ++ Z.1) = true
            rw [← p1]
            have hn := nx_put p7 Z.1
            refine ⟨?_, highL_app.2 ⟨?_, i2⟩⟩
            · rw [badU_go (by rw [hn]; show N ≠ -1; omega), hn]
              show (putL N).length + badU ((putL N ++ Z.1).drop (putL N).length) = _
              rw [List.drop_left, i1, List.length_append]
            · unfold highL
              rw [List.all_eq_true]
              intro x hx'
              rw [decide_eq_true_eq]
              rcases hhd with ⟨k1, k2⟩ | ⟨k1, _⟩
              · rw [putL_one p6 k1, List.mem_singleton] at hx'
                omega
              · have := putL_high k1 x hx'; omega
/-! ### A token from its text -/
/-- Does a byte begin what stands between tokens? -/
def gapC (c : Int) : Bool := blankC c || decide (c = 35)
def Gap0 (y : List Int) : Prop := y = [] ∨ ∃ c r, y = c :: r ∧ gapC c = true
theorem gapC_iff {c : Int} : gapC c = true ↔ (c = 32 ∨ c = 9 ∨ c = 10 ∨ c = 13 ∨ c = 35) := by
  unfold gapC
  rw [Bool.or_eq_true, blankC_iff, decide_eq_true_eq]; omega
/-- The text x is that of the token (kind, text, number), whatever stands behind. -/
structure Good (k : Int) (X : List Int) (n : Int) (x : List Int) : Prop where
  ne : x ≠ []
  head : gapC (x.getD 0 0) = false
  tok : ∀ rest, Gap0 rest → tokL (x ++ rest) = ⟨0, 0, k, X, n, x.length⟩
theorem wordN_app : ∀ (x rest : List Int), wordN x = x.length → Gap0 rest → wordN (x ++ rest) = x.length
  | [], rest, _, hr => by
    rcases hr with rfl | ⟨c, r, rfl, hc⟩
    · rfl
    · rw [gapC_iff] at hc
      exact wordN_stop (smallC_false.2 (by omega))
  | c :: r, rest, h, hr => by
    have hc : smallC c = true := by
      cases hs : smallC c with
      | true => rfl
      | false => rw [wordN_stop hs] at h; cases h
    rw [wordN_go hc, List.length_cons] at h
    rw [List.cons_append, wordN_go hc, wordN_app r rest (by omega) hr, List.length_cons]
theorem good_word {x : List Int} (h0 : x ≠ []) (h1 : wordN x = x.length) (h2 : x.length ≤ 32) : Good 1 x 0 x := by
  obtain ⟨c, r, rfl⟩ := List.exists_cons_of_ne_nil h0
  have hc : smallC c = true := by
    cases hs : smallC c with
    | true => rfl
    | false => rw [wordN_stop hs] at h1; cases h1
  have hc2 := smallC_iff.1 hc
  refine ⟨h0, ?_, fun rest hr => ?_⟩
  · rw [List.getD_cons_zero, Bool.eq_false_iff]
    intro hg
    rw [gapC_iff] at hg; omega
  · have hw := wordN_app (c :: r) rest h1 hr
    have e : tokL (c :: r ++ rest) = tokL (c :: (r ++ rest)) := rfl
    rw [e, tokL_cons, if_pos hc, ← List.cons_append, hw, if_neg (by omega), List.take_left]
theorem good_text {l : List Int} (h1 : badU l = l.length) (h2 : highL l = true) : Good 2 l 0 (34 :: (escN l ++ [34])) := by
  refine ⟨by simp, rfl, fun rest hr => ?_⟩
  have e : (34 :: (escN l ++ [34])) ++ rest = 34 :: (escN l ++ 34 :: rest) := by simp
  have hq : quotN (escN l ++ 34 :: rest) = (l, (escN l).length + 1, true) := quot_esc _ l (Nat.le_refl _) h1 h2 _ rest (Nat.lt_succ_self _)
  rw [e, tokL_cons, if_neg (by decide), if_pos rfl, hq, if_pos rfl]
  simp
theorem lead_none {c : Int} {r : List Int} (h : ¬ (c = 45 ∨ (48 ≤ c ∧ c ≤ 57))) : leadL (c :: r) = 0 := by
  rw [leadL, if_neg (by omega), if_neg (by omega), runL, if_neg (by rw [isD_iff]; omega)]
theorem runL_frontN {d r : List Int} (hd : AllD d) (hr : ∀ e r', r = e :: r' → isD e = false) : runL (d ++ r) = d.length := by
  cases r with
  | nil => rw [List.append_nil]; exact runL_all hd
  | cons e r' => exact runL_app e r' hd (hr e r' rfl)
theorem lead_appN {t r : List Int} (h : formL t = true) (hr : ∀ e r', r = e :: r' → isD e = false) : leadL (t ++ r) = t.length := by
  rcases formL_parts h with ⟨_, hd, h49, e⟩ | ⟨h45, hd, hne, h1⟩
  · obtain ⟨d, hdd⟩ : ∃ d, d = t.drop 1 := ⟨_, rfl⟩
    rw [← hdd] at hd h49 e
    subst e
    cases d with
    | nil => simp at h49
    | cons c q =>
      rw [List.getD_cons_zero] at h49
      have h57 := (hd c (by simp)).2
      rw [List.cons_append, leadL, if_pos rfl, List.cons_append, List.getD_cons_zero, if_pos ⟨h49, h57⟩, ← List.cons_append, runL_frontN hd hr]
      rfl
  · cases t with
    | nil => exact absurd rfl hne
    | cons c q =>
      rw [List.getD_cons_zero] at h45 h1
      rw [List.cons_append, leadL, if_neg h45]
      by_cases h48 : c = 48
      · subst h48
        rw [if_pos rfl]
        rcases h1 with h1 | h1
        · exact absurd h1 (by decide)
        · exact h1.symm
      · rw [if_neg h48, ← List.cons_append, runL_frontN hd hr]
theorem good_num {n : Int} (h : -9007199254740991 ≤ n ∧ n ≤ 9007199254740991) : Good 3 [] n (prL n) := by
  have hf := form_prL n
  have hne : prL n ≠ [] := fun e => by rw [e] at hf; cases hf
  obtain ⟨c, r, hc⟩ := List.exists_cons_of_ne_nil hne
  have hcc : c = 45 ∨ (48 ≤ c ∧ c ≤ 57) := by
    rcases formL_parts hf with ⟨h45, _⟩ | ⟨_, hd, _, _⟩
    · rw [hc, List.getD_cons_zero] at h45; exact .inl h45
    · rw [hc] at hd; exact .inr (hd c (by simp))
  refine ⟨hne, ?_, fun rest hr => ?_⟩
  · rw [hc, List.getD_cons_zero, Bool.eq_false_iff]
    intro hg
    rw [gapC_iff] at hg; omega
  · have hld : leadL (prL n ++ rest) = (prL n).length := lead_appN hf (fun e r' hre => by
      rcases hr with rfl | ⟨d, q, rfl, hd⟩
      · cases hre
      · injection hre with e1 _
        rw [gapC_iff] at hd
        rw [← e1, isD_false]; omega)
    have hfit : fitL (prL n) (-9007199254740991) 9007199254740991 = true := by
      unfold fitL
      rw [numL_prL]
      exact decide_eq_true (by omega)
    have hpos : 0 < (prL n).length := List.length_pos_iff.2 hne
    have hnum := numL_prL n
    rw [hc] at hld hfit hpos hnum ⊢
    rw [List.cons_append] at hld
    rw [List.cons_append, tokL_cons, if_neg (by rw [smallC_false.2 (by omega)]; decide), if_neg (by omega), hld, if_pos hpos, ← List.cons_append, List.take_left, hfit, if_pos rfl, hnum]
theorem good_sign {x : List Int} (h0 : x ≠ []) (h1 : signN x = x.length) : Good 4 x 0 x := by
  match x, h0, h1 with
  | [c], _, h1 =>
    have hc : oneC c = true := by
      cases ho : oneC c with
      | true => rfl
      | false => rw [signN, ho, if_neg (by decide)] at h1; cases h1
    have hc2 : c = 40 ∨ c = 41 ∨ c = 91 ∨ c = 93 ∨ c = 44 ∨ c = 59 ∨ c = 61 ∨ c = 60 ∨ c = 62 := of_decide_eq_true hc
    refine ⟨by simp, ?_, fun rest hr => ?_⟩
    · rw [List.getD_cons_zero, Bool.eq_false_iff]
      intro hg
      rw [gapC_iff] at hg; omega
    · have hs : signN (c :: rest) = 1 := by
        rcases hr with rfl | ⟨d, q, rfl, hd⟩
        · rw [signN, if_pos hc]
        · rw [gapC_iff] at hd
          rw [signN, if_neg (by omega), if_pos hc]
      rw [List.cons_append, List.nil_append, tokL_cons, if_neg (by rw [smallC_false.2 (by omega)]; decide), if_neg (by omega), lead_none (by omega), if_neg (by omega), hs, if_pos (by omega)]
      rfl
  | c :: d :: [], _, h1 =>
    have hcd : d = 61 ∧ (c = 33 ∨ c = 60 ∨ c = 62) := by
      rcases Decidable.em (d = 61 ∧ (c = 33 ∨ c = 60 ∨ c = 62)) with h | h
      · exact h
      · rw [signN, if_neg h] at h1
        split at h1 <;> cases h1
    refine ⟨by simp, ?_, fun rest hr => ?_⟩
    · rw [List.getD_cons_zero, Bool.eq_false_iff]
      intro hg
      rw [gapC_iff] at hg; omega
    · have hs : signN (c :: d :: rest) = 2 := by rw [signN, if_pos hcd]
      show tokL (c :: (d :: rest)) = _
      rw [tokL_cons, if_neg (by rw [smallC_false.2 (by omega)]; decide), if_neg (by omega), lead_none (by omega), if_neg (by omega), hs, if_pos (by omega)]
      rfl
  | c :: d :: e :: r, _, h1 =>
    have := (signN_le (c :: d :: e :: r)).2
    rw [h1] at this; simp at this
/-- What a token that has a text is scanned as. -/
def normK (t : TokM) : Int × List Int × Int := (t.kind, if t.kind = 3 then [] else strL t.text, if t.kind = 3 then t.num else 0)
theorem good_spell (t : TokM) (h : spellN t ≠ []) : Good (normK t).1 (normK t).2.1 (normK t).2.2 (spellN t) := by
  obtain ⟨k, s, n, p⟩ := t
  by_cases h1 : k = 1
  · subst h1
    have e : spellN ⟨1, s, n, p⟩ = if wordN (strL s) = s.size ∧ s.size ≤ 32 then strL s else [] := rfl
    rw [e] at h ⊢
    by_cases hw : wordN (strL s) = s.size ∧ s.size ≤ 32
    · rw [if_pos hw] at h ⊢
      show Good 1 (strL s) 0 (strL s)
      exact good_word h (by rw [length_strL]; exact hw.1) (by rw [length_strL]; exact hw.2)
    · rw [if_neg hw] at h; exact absurd rfl h
  · by_cases h2 : k = 2
    · subst h2
      have e : spellN ⟨2, s, n, p⟩ = (quoteN (strL s)).1 := rfl
      rw [e] at h ⊢
      unfold quoteN at h ⊢
      by_cases hq : badU (strL s) = (strL s).length ∧ highL (strL s) = true
      · rw [if_pos hq] at h ⊢
        exact good_text hq.1 hq.2
      · rw [if_neg hq] at h; exact absurd rfl h
    · by_cases h3 : k = 3
      · subst h3
        have e : spellN ⟨3, s, n, p⟩ = if -9007199254740991 ≤ n ∧ n ≤ 9007199254740991 then prL n else [] := rfl
        rw [e] at h ⊢
        by_cases hn : -9007199254740991 ≤ n ∧ n ≤ 9007199254740991
        · rw [if_pos hn] at h ⊢
          exact good_num hn
        · rw [if_neg hn] at h; exact absurd rfl h
      · by_cases h4 : k = 4
        · subst h4
          have e : spellN ⟨4, s, n, p⟩ = if signN (strL s) = s.size then strL s else [] := rfl
          rw [e] at h ⊢
          by_cases hs : signN (strL s) = s.size
          · rw [if_pos hs] at h ⊢
            show Good 4 (strL s) 0 (strL s)
            exact good_sign h (by rw [length_strL]; exact hs)
          · rw [if_neg hs] at h; exact absurd rfl h
        · exact absurd (by unfold spellN; rw [if_neg h1, if_neg h2, if_neg h3, if_neg h4]) h
/-! ### Tokens one behind the other -/
/-- A token but for its place. -/
def er (t : TokM) : Int × ByteArray × Int := (t.kind, t.text, t.num)
def erEnd : Int × ByteArray × Int := (5, ⟨#[]⟩, 0)
def GapOk (g : List Int) : Prop := ∀ y, gapM false (g ++ y) = g.length + gapM false y
theorem gapOk_nil : GapOk [] := fun y => by simp
/-- What stands between, and a text; at last what stands behind all. -/
def seqT : List (List Int × List Int) → List Int → List Int
  | [], tail => tail
  | (g, x) :: r, tail => g ++ (x ++ seqT r tail)
theorem gap_head {x y : List Int} (h0 : x ≠ []) (h : gapC (x.getD 0 0) = false) : gapM false (x ++ y) = 0 := by
  obtain ⟨c, r, rfl⟩ := List.exists_cons_of_ne_nil h0
  rw [List.getD_cons_zero] at h
  have h2 : ¬ (c = 32 ∨ c = 9 ∨ c = 10 ∨ c = 13 ∨ c = 35) := fun hc => by rw [gapC_iff.2 hc] at h; cases h
  exact gapM_none (blankC_false.2 (by omega)) (by omega)
theorem scan_seq : ∀ (its : List (List Int × TokM)) (tail : List Int) (f p : Nat) (acc : List TokM),
    (∀ it ∈ its, GapOk it.1 ∧ spellN it.2 ≠ []) → (∀ it ∈ its.drop 1, Gap0 it.1 ∧ it.1 ≠ []) → gapM false tail = tail.length → Gap0 tail → acc.length + its.length ≤ 512 → (seqT (its.map fun it => (it.1, spellN it.2)) tail).length < f →
    ∃ ts, scanF f (seqT (its.map fun it => (it.1, spellN it.2)) tail) p acc = (acc ++ ts, 0, -1) ∧ ts.map er = its.map (fun it => ((normK it.2).1, toS (normK it.2).2.1, (normK it.2).2.2)) ++ [erEnd]
  | _, tail, 0, p, acc, _, _, _, _, _, hf => absurd hf (Nat.not_lt_zero _)
  | [], tail, f + 1, p, acc, _, _, ht, _, _, _ => by
    have hg := ht
    refine ⟨[endT (p + gapM false tail)], ?_, rfl⟩
    show scanF (f + 1) tail p acc = _
    rw [scanF_end (by rw [hg]; exact List.drop_length)]
  | (g, t) :: r, tail, f + 1, p, acc, h1, h2, ht, ht0, hn, hf => by
    obtain ⟨hgo, hsp⟩ := h1 (g, t) (by simp)
    have hG := good_spell t hsp
    obtain ⟨Y, hY⟩ : ∃ Y, Y = seqT (r.map fun it => (it.1, spellN it.2)) tail := ⟨_, rfl⟩
    have hY0 : Gap0 Y := by
      rw [hY]
      cases r with
      | nil => exact ht0
      | cons it q =>
        obtain ⟨hg0, hg1⟩ := h2 it (by simp)
        rcases hg0 with h | ⟨c, z, h, hc⟩
        · exact absurd h hg1
        · refine .inr ⟨c, z ++ (spellN it.2 ++ seqT (q.map fun it => (it.1, spellN it.2)) tail), ?_, hc⟩
          show it.1 ++ _ = _
          rw [h]; rfl
    have e : seqT (((g, t) :: r).map fun it => (it.1, spellN it.2)) tail = g ++ (spellN t ++ Y) := by rw [hY]; rfl
    rw [e] at hf ⊢
    obtain ⟨x, hx⟩ : ∃ x, x = spellN t := ⟨_, rfl⟩
    rw [← hx] at hG hf ⊢
    have hgap : gapM false (g ++ (x ++ Y)) = g.length := by rw [hgo, gap_head hG.ne hG.head, Nat.add_zero]
    have hdr : (g ++ (x ++ Y)).drop (gapM false (g ++ (x ++ Y))) = x ++ Y := by rw [hgap, List.drop_left]
    have htok := hG.tok Y hY0
    have hxl : 1 ≤ x.length := List.length_pos_iff.2 hG.ne
    rw [List.length_append, List.length_append] at hf
    have hgoS := scanF_go (f := f) (l := g ++ (x ++ Y)) (p := p) (acc := acc) (by rw [hdr, htok]) (by rw [hdr]; intro e0; exact hG.ne (List.append_eq_nil_iff.1 e0).1) (by simp only [List.length_cons] at hn; omega)
    rw [hdr, htok, hgap] at hgoS
    have hd2 : (g ++ (x ++ Y)).drop (g.length + x.length) = Y := by rw [← List.drop_drop, List.drop_left, List.drop_left]
    obtain ⟨ts, hs, he⟩ := scan_seq r tail f (p + (g.length + x.length)) (acc ++ [madeT ⟨0, 0, (normK t).1, (normK t).2.1, (normK t).2.2, x.length⟩ (p + g.length)]) (fun it hi => h1 it (List.mem_cons_of_mem _ hi)) (fun it hi => h2 it (by
      rw [List.drop_succ_cons, List.drop_zero]; exact List.mem_of_mem_drop hi)) ht ht0 (by simp only [List.length_append, List.length_cons, List.length_nil] at hn ⊢; omega) (by rw [← hY]; omega)
    refine ⟨madeT ⟨0, 0, (normK t).1, (normK t).2.1, (normK t).2.2, x.length⟩ (p + g.length) :: ts, ?_, ?_⟩
    · rw [hgoS]
      show scanF f ((g ++ (x ++ Y)).drop (g.length + x.length)) _ _ = _
      rw [hd2, hY, hs, List.append_assoc]; rfl
    · rw [List.map_cons, he, List.map_cons, List.cons_append]; rfl
/-! ### What a scan tells -/
/-- A token that has a text, and is scanned of it as itself. -/
def Own (t : TokM) : Prop := spellN t ≠ [] ∧ er t = ((normK t).1, toS (normK t).2.1, (normK t).2.2)
theorem wordN_take : ∀ l : List Int, wordN (l.take (wordN l)) = wordN l
  | [] => rfl
  | c :: r => by
    cases hs : smallC c with
    | true => rw [wordN_go hs, List.take_succ_cons, wordN_go hs, wordN_take r]
    | false => rw [wordN_stop hs]; rfl
theorem signN_take (l : List Int) : signN (l.take (signN l)) = signN l := by
  match l with
  | [] => rfl
  | [c] =>
    cases ho : oneC c with
    | true => have e : signN [c] = 1 := by rw [signN, if_pos ho]
              rw [e]; exact e
    | false => have e : signN [c] = 0 := by rw [signN, if_neg (by rw [ho]; decide)]
               rw [e]; rfl
  | c :: d :: r =>
    by_cases h : d = 61 ∧ (c = 33 ∨ c = 60 ∨ c = 62)
    · have e : signN (c :: d :: r) = 2 := by rw [signN, if_pos h]
      rw [e]
      show signN [c, d] = 2
      rw [signN, if_pos h]
    · cases ho : oneC c with
      | true =>
        have e : signN (c :: d :: r) = 1 := by rw [signN, if_neg h, if_pos ho]
        rw [e]
        show signN [c] = 1
        rw [signN, if_pos ho]
      | false =>
        have e : signN (c :: d :: r) = 0 := by rw [signN, if_neg h, if_neg (by rw [ho]; decide)]
        rw [e]; rfl
theorem quotF_bytes : ∀ (f : Nat) (l : List Int), Bytes l → Bytes (quotF f l).1
  | 0, _, _ => .of_mem fun x hx => by cases hx
  | f + 1, [], _ => .of_mem fun x hx => by cases hx
  | f + 1, c :: r, h => by
    have hn : Bytes [] := .of_mem fun x hx => by cases hx
    rw [quotF]
    split
    · exact hn
    · split
      · exact hn
      · split
        · split
          · rename_i hr
            have hr2 : Bytes (r.drop 1) := Bytes.drop (.of_mem fun x hx => h.mem (List.mem_cons_of_mem _ hx)) 1
            exact .of_mem fun x hx => by
              rcases List.mem_cons.1 hx with rfl | hx
              · rcases hr.2 with h' | h' <;> omega
              · exact (quotF_bytes f _ hr2).mem hx
          · exact hn
        · split
          · exact hn
          · exact (h.take _).append (quotF_bytes f _ (h.drop _))
theorem tok_own {l : List Int} (hb : Bytes l) (h : (tokL l).err = 0) (h2 : l ≠ []) (p : Nat) : Own (madeT (tokL l) p) := by
  have hsz := tok_size h h2
  rcases kind_cases l with ⟨e, _, ht⟩ | ⟨hw, _, ht⟩ | ⟨hw, hk, ht⟩ | ⟨r, e, _, hq, ht⟩ | ⟨r, e, _, _, ht⟩ | ⟨hl, hk, _, ht⟩ | ⟨hl, hk, hf, ht⟩ | ⟨hl, hk, ht⟩ | ⟨hk, ht⟩
  · exact absurd e h2
  · rw [ht] at h; cases h
  · rw [ht] at hsz ⊢
    have hs : strL (toS (l.take (wordN l))) = l.take (wordN l) := strL_toS (hb.take _)
    have hln : (l.take (wordN l)).length = wordN l := by rw [List.length_take]; have := hsz.2; simp only at this; omega
    have hsp : spellN (madeT ⟨0, 0, 1, l.take (wordN l), 0, wordN l⟩ p) = l.take (wordN l) := by
      show (if wordN (strL (toS (l.take (wordN l)))) = (toS (l.take (wordN l))).size ∧ (toS (l.take (wordN l))).size ≤ 32 then strL (toS (l.take (wordN l))) else []) = _
      rw [hs, size_toS, hln, wordN_take, if_pos ⟨rfl, by omega⟩]
    refine ⟨by rw [hsp]; intro e; rw [e] at hln; have := hsz.1; simp at hln; simp only at this; omega, ?_⟩
    show ((1 : Int), toS (l.take (wordN l)), (0 : Int)) = (1, toS (strL (toS (l.take (wordN l)))), 0)
    rw [hs]
  · rw [ht] at hsz ⊢
    have hr : Bytes r := by rw [e] at hb; exact .of_mem fun x hx => hb.mem (List.mem_cons_of_mem _ hx)
    obtain ⟨v1, v2⟩ := quotF_valid _ r hq
    have hs : strL (toS (quotN r).1) = (quotN r).1 := strL_toS (quotF_bytes _ r hr)
    have hsp : spellN (madeT ⟨0, 0, 2, (quotN r).1, 0, (quotN r).2.1 + 1⟩ p) = 34 :: (escN (quotN r).1 ++ [34]) := by
      show (quoteN (strL (toS (quotN r).1))).1 = _
      rw [hs]
      unfold quoteN
      rw [if_pos ⟨v1, v2⟩]
    refine ⟨by rw [hsp]; simp, ?_⟩
    show ((2 : Int), toS (quotN r).1, (0 : Int)) = (2, toS (strL (toS (quotN r).1)), 0)
    rw [hs]
  · rw [ht] at h; cases h
  · rw [ht] at h; cases h
  · rw [ht]
    have hn : -9007199254740991 ≤ numL (l.take (leadL l)) ∧ numL (l.take (leadL l)) ≤ 9007199254740991 := by
      have := of_decide_eq_true hf
      exact ⟨this.2.2.1, this.2.2.2⟩
    refine ⟨?_, rfl⟩
    show (if -9007199254740991 ≤ numL (l.take (leadL l)) ∧ numL (l.take (leadL l)) ≤ 9007199254740991 then prL (numL (l.take (leadL l))) else []) ≠ []
    rw [if_pos hn]
    intro e
    have := form_prL (numL (l.take (leadL l)))
    rw [e] at this; cases this
  · rw [ht] at hsz ⊢
    have hs : strL (toS (l.take (signN l))) = l.take (signN l) := strL_toS (hb.take _)
    have hln : (l.take (signN l)).length = signN l := by rw [List.length_take]; have := hsz.2; simp only at this; omega
    have hsp : spellN (madeT ⟨0, 0, 4, l.take (signN l), 0, signN l⟩ p) = l.take (signN l) := by
      show (if signN (strL (toS (l.take (signN l)))) = (toS (l.take (signN l))).size then strL (toS (l.take (signN l))) else []) = _
      rw [hs, size_toS, hln, signN_take, if_pos rfl]
    refine ⟨by rw [hsp]; intro e; rw [e] at hln; simp at hln; omega, ?_⟩
    show ((4 : Int), toS (l.take (signN l)), (0 : Int)) = (4, toS (strL (toS (l.take (signN l)))), 0)
    rw [hs]
  · rw [ht] at h; cases h
/-- Places rise. -/
def Rising (ts : List TokM) : Prop := ts.Pairwise fun a b => a.pos ≤ b.pos
theorem scanF_own : ∀ (f : Nat) (l : List Int) (p : Nat) (acc : List TokM), Bytes l → l.length < f → (∀ t ∈ acc, Own t ∧ t.pos ≤ (p : Int)) → Rising acc → acc.length ≤ 512 → (scanF f l p acc).2.1 = 0 →
    ∃ body q, (scanF f l p acc).1 = body ++ [endT q] ∧ (∀ t ∈ body, Own t) ∧ body.length ≤ 512 ∧ Rising (body ++ [endT q])
  | 0, l, p, acc, _, hf, _, _, _, _ => absurd hf (Nat.not_lt_zero _)
  | f + 1, l, p, acc, hb, hf, ho, hr, hn, h => by
    have hg := gapM_le false l
    by_cases he : (tokL (l.drop (gapM false l))).err = 0
    · by_cases hnil : l.drop (gapM false l) = []
      · rw [scanF_end hnil]
        refine ⟨acc, p + gapM false l, rfl, fun t ht => (ho t ht).1, hn, ?_⟩
        refine List.pairwise_append.2 ⟨hr, List.pairwise_singleton _ _, fun a ha b hb' => ?_⟩
        rw [List.mem_singleton.1 hb']
        have := (ho a ha).2
        show a.pos ≤ ((p + gapM false l : Nat) : Int)
        omega
      · by_cases h5 : acc.length = 512
        · rw [scanF_many he hnil h5] at h; cases h
        · rw [scanF_go he hnil h5] at h ⊢
          have hs := tok_size he hnil
          rw [List.length_drop] at hs
          refine scanF_own f _ _ _ (hb.drop _) (by rw [List.length_drop]; omega) (fun t ht => ?_) ?_ (by simp; omega) h
          · rcases List.mem_append.1 ht with ht | ht
            · have := (ho t ht).2
              exact ⟨(ho t ht).1, by omega⟩
            · rw [List.mem_singleton.1 ht]
              refine ⟨tok_own (hb.drop _) he hnil _, ?_⟩
              show ((p + gapM false l : Nat) : Int) ≤ _
              omega
          · refine List.pairwise_append.2 ⟨hr, List.pairwise_singleton _ _, fun a ha b hb' => ?_⟩
            rw [List.mem_singleton.1 hb']
            have := (ho a ha).2
            show a.pos ≤ ((p + gapM false l : Nat) : Int)
            omega
    · rw [scanF_err he] at h
      exact absurd h he
/-- The tokens that have a text. -/
def bodyOf (ts : List TokM) : List TokM := ts.filter fun t => !(spellN t).isEmpty
theorem body_ne {ts : List TokM} {t : TokM} (h : t ∈ bodyOf ts) : spellN t ≠ [] := by
  have := (List.mem_filter.1 h).2
  intro e; rw [e] at this; cases this
theorem texts_body (ts : List TokM) : textsN ts = (bodyOf ts).map spellN := by
  unfold textsN bodyOf
  rw [List.filter_map]; rfl
/-- Tokens with blanks between. -/
def itJ : List TokM → List (List Int × TokM)
  | [] => []
  | t :: r => ([], t) :: r.map fun u => ([32], u)
theorem glue_seq : ∀ (x : List Int) (r : List (List Int)), glue (x :: r) = x ++ seqT (r.map fun y => ([32], y)) []
  | x, [] => by simp [glue, seqT]
  | x, y :: r => by
    rw [glue, glue_seq y r, List.map_cons, seqT]; rfl
theorem join_seq (ts : List TokM) : joinN ts = seqT ((itJ (bodyOf ts)).map fun it => (it.1, spellN it.2)) [] := by
  unfold joinN
  rw [texts_body]
  cases bodyOf ts with
  | nil => rfl
  | cons t r =>
    rw [List.map_cons, glue_seq]
    show _ = ([] : List Int) ++ (spellN t ++ seqT ((r.map fun u => ([32], u)).map fun it => (it.1, spellN it.2)) [])
    rw [List.nil_append, List.map_map, List.map_map]; rfl
def erN (t : TokM) : Int × ByteArray × Int := ((normK t).1, toS (normK t).2.1, (normK t).2.2)
theorem itJ_er : ∀ b : List TokM, (itJ b).map (fun it => ((normK it.2).1, toS (normK it.2).2.1, (normK it.2).2.2)) = b.map erN
  | [] => rfl
  | t :: r => by
    show _ :: ((r.map fun u => (([32] : List Int), u)).map _) = _
    rw [List.map_map]; rfl
theorem itJ_len : ∀ b : List TokM, (itJ b).length = b.length
  | [] => rfl
  | t :: r => by simp [itJ]
theorem gapOk_blank : GapOk [32] := fun y => by
  show gapM false (32 :: y) = 1 + _
  rw [gapM_blank (by decide)]; omega
/-- A joined text is scanned as its tokens. -/
theorem scan_join (ts : List TokM) (hn : (bodyOf ts).length ≤ 512) (hl : (joinN ts).length ≤ 2048) : ∃ us, scanL (joinN ts) = (us, 0, -1) ∧ us.map er = (bodyOf ts).map erN ++ [erEnd] := by
  have h1 : ∀ it ∈ itJ (bodyOf ts), GapOk it.1 ∧ spellN it.2 ≠ [] := fun it hi => by
    cases hb : bodyOf ts with
    | nil => rw [hb] at hi; cases hi
    | cons t r =>
      rw [hb] at hi
      rcases List.mem_cons.1 hi with rfl | hi
      · exact ⟨gapOk_nil, body_ne (by rw [hb]; simp)⟩
      · obtain ⟨u, hu, rfl⟩ := List.mem_map.1 hi
        exact ⟨gapOk_blank, body_ne (by rw [hb]; exact List.mem_cons_of_mem _ hu)⟩
  have h2 : ∀ it ∈ (itJ (bodyOf ts)).drop 1, Gap0 it.1 ∧ it.1 ≠ [] := fun it hi => by
    cases hb : bodyOf ts with
    | nil => rw [hb] at hi; cases hi
    | cons t r =>
      rw [hb] at hi
      obtain ⟨u, hu, rfl⟩ := List.mem_map.1 hi
      exact ⟨.inr ⟨32, [], rfl, rfl⟩, by simp⟩
  obtain ⟨us, hs, he⟩ := scan_seq (itJ (bodyOf ts)) [] ((joinN ts).length + 1) 0 [] h1 h2 rfl (.inl rfl) (by rw [itJ_len]; simpa using hn) (by rw [← join_seq]; exact Nat.lt_succ_self _)
  rw [← join_seq, List.nil_append] at hs
  refine ⟨us, ?_, by rw [he, itJ_er]⟩
  rw [scanL, if_neg (by omega), hs]
theorem body_own {b : List TokM} (h : ∀ t ∈ b, Own t) (q : Nat) : bodyOf (b ++ [endT q]) = b := by
  unfold bodyOf
  rw [List.filter_append, List.filter_eq_self.2 (fun t ht => by
    cases hs : spellN t with
    | nil => exact absurd hs (h t ht).1
    | cons c r => rfl)]
  have h0 : [endT q].filter (fun t => !(spellN t).isEmpty) = [] := rfl
  rw [h0, List.append_nil]
theorem map_own {b : List TokM} (h : ∀ t ∈ b, Own t) : b.map erN = b.map er := List.map_congr_left fun t ht => (h t ht).2.symm
/-- What Scan tells comes back. -/
theorem scan_back {s : List Int} (hb : Bytes s) {ts : List TokM} (h : scanL s = (ts, 0, -1)) (hl : (joinN ts).length ≤ 2048) :
    Rising ts ∧ ∃ us, scanL (joinN ts) = (us, 0, -1) ∧ us.map er = ts.map er := by
  unfold scanL at h
  by_cases h2 : 2048 < s.length
  · rw [if_pos h2] at h; cases h
  · rw [if_neg h2] at h
    obtain ⟨body, q, e1, ho, hn, hr⟩ := scanF_own (s.length + 1) s 0 [] hb (Nat.lt_succ_self _) (fun t ht => by cases ht) List.Pairwise.nil (by simp) (by rw [h])
    rw [h] at e1
    have e1 : ts = body ++ [endT q] := e1
    have hbo := body_own ho q
    rw [← e1] at hbo
    obtain ⟨us, hs, he⟩ := scan_join ts (by rw [hbo]; exact hn) hl
    refine ⟨by rw [e1]; exact hr, us, hs, ?_⟩
    rw [he, hbo, map_own ho, e1, List.map_append]; rfl
/-! ### Sizes; errors -/
theorem quotF_tl : ∀ (f : Nat) (l : List Int), (quotF f l).1.length ≤ (quotF f l).2.1
  | 0, _ => Nat.le_refl _
  | f + 1, [] => Nat.le_refl _
  | f + 1, c :: r => by
    rw [quotF]
    split
    · exact Nat.le_refl _
    · split
      · exact Nat.zero_le _
      · split
        · split
          · have := quotF_tl f (r.drop 1)
            simp only [List.length_cons]; omega
          · exact Nat.zero_le _
        · split
          · exact Nat.le_refl _
          · have := quotF_tl f ((c :: r).drop (nxL (c :: r)).2)
            simp only [List.length_append, List.length_take]; omega
theorem tok_small {l : List Int} (h : (tokL l).err = 0) : (tokL l).text.length ≤ l.length ∧ -9007199254740991 ≤ (tokL l).num ∧ (tokL l).num ≤ 9007199254740991 := by
  rcases kind_cases l with ⟨e, _, ht⟩ | ⟨hw, _, ht⟩ | ⟨hw, hk, ht⟩ | ⟨r, e, _, hq, ht⟩ | ⟨r, e, _, _, ht⟩ | ⟨hl, hk, _, ht⟩ | ⟨hl, hk, hf, ht⟩ | ⟨hl, hk, ht⟩ | ⟨hk, ht⟩
  · rw [ht]; exact ⟨Nat.zero_le _, by decide, by decide⟩
  · rw [ht] at h; cases h
  · rw [ht]; exact ⟨by show (l.take _).length ≤ _; rw [List.length_take]; exact Nat.min_le_right _ _, by show _ ≤ (0 : Int); decide, by show (0 : Int) ≤ _; decide⟩
  · rw [ht]
    have h1 := quotF_tl (r.length + 1) r
    have h2 := quotF_le (r.length + 1) r
    exact ⟨by show (quotN r).1.length ≤ _; rw [e, List.length_cons]; unfold quotN; omega, by show _ ≤ (0 : Int); decide, by show (0 : Int) ≤ _; decide⟩
  · rw [ht] at h; cases h
  · rw [ht] at h; cases h
  · rw [ht]
    have := of_decide_eq_true hf
    exact ⟨Nat.zero_le _, this.2.2.1, this.2.2.2⟩
  · rw [ht]; exact ⟨by show (l.take _).length ≤ _; rw [List.length_take]; exact Nat.min_le_right _ _, by show _ ≤ (0 : Int); decide, by show (0 : Int) ≤ _; decide⟩
  · rw [ht] at h; cases h
/-- A token that is small. -/
def Small1 (t : TokM) : Prop := t.text.size ≤ 1000000 ∧ -9223372036854775808 ≤ t.num ∧ t.num ≤ 9223372036854775807
theorem scanF_small : ∀ (f : Nat) (l : List Int) (p : Nat) (acc : List TokM), l.length ≤ 2048 → (∀ t ∈ acc, Small1 t) → ∀ t ∈ (scanF f l p acc).1, Small1 t
  | 0, l, p, acc, _, _, t, ht => by cases ht
  | f + 1, l, p, acc, hl, ha, t, ht => by
    have hend : Small1 (endT (p + gapM false l)) := ⟨Nat.zero_le _, by show _ ≤ (0 : Int); decide, by show (0 : Int) ≤ _; decide⟩
    by_cases he : (tokL (l.drop (gapM false l))).err = 0
    · by_cases hnil : l.drop (gapM false l) = []
      · rw [scanF_end hnil] at ht
        rcases List.mem_append.1 ht with ht | ht
        · exact ha t ht
        · rw [List.mem_singleton.1 ht]; exact hend
      · by_cases h5 : acc.length = 512
        · rw [scanF_many he hnil h5] at ht; cases ht
        · rw [scanF_go he hnil h5] at ht
          refine scanF_small f _ _ _ (by rw [List.length_drop]; omega) (fun u hu => ?_) t ht
          rcases List.mem_append.1 hu with hu | hu
          · exact ha u hu
          · rw [List.mem_singleton.1 hu]
            obtain ⟨s1, s2, s3⟩ := tok_small he
            rw [List.length_drop] at s1
            refine ⟨?_, ?_, ?_⟩
            · show (toS (tokL (l.drop (gapM false l))).text).size ≤ _
              rw [size_toS]; omega
            · show _ ≤ (tokL (l.drop (gapM false l))).num; omega
            · show (tokL (l.drop (gapM false l))).num ≤ _; omega
    · rw [scanF_err he] at ht; cases ht
theorem scanL_small (l : List Int) : ∀ t ∈ (scanL l).1, Small1 t := fun t ht => by
  unfold scanL at ht
  split at ht
  · cases ht
  · exact scanF_small _ _ _ _ (by omega) (fun u hu => by cases hu) t ht
theorem scanF_wrong : ∀ (f : Nat) (l : List Int) (p : Nat) (acc : List TokM), (scanF f l p acc).2.1 ≠ 0 → (scanF f l p acc).1 = []
  | 0, _, _, _, _ => rfl
  | f + 1, l, p, acc, h => by
    by_cases he : (tokL (l.drop (gapM false l))).err = 0
    · by_cases hnil : l.drop (gapM false l) = []
      · rw [scanF_end hnil] at h; exact absurd rfl h
      · by_cases h5 : acc.length = 512
        · rw [scanF_many he hnil h5]
        · rw [scanF_go he hnil h5] at h ⊢
          exact scanF_wrong f _ _ _ h
    · rw [scanF_err he]
theorem scanL_wrong (l : List Int) (h : (scanL l).2.1 ≠ 0) : (scanL l).1 = [] := by
  unfold scanL at h ⊢
  split
  · rfl
  · rename_i hl
    rw [if_neg hl] at h
    exact scanF_wrong _ _ _ _ h
theorem spell_er {a b : TokM} (h : er a = er b) : spellN a = spellN b := by
  obtain ⟨k, s, n, p⟩ := a
  obtain ⟨k2, s2, n2, p2⟩ := b
  simp only [er, Prod.mk.injEq] at h
  obtain ⟨rfl, rfl, rfl⟩ := h
  rfl
theorem join_er {a b : List TokM} (h : a.map er = b.map er) : joinN a = joinN b := by
  have e : a.map spellN = b.map spellN := by
    have hl : a.length = b.length := by have := congrArg List.length h; simpa using this
    refine List.ext_getElem (by simpa using hl) (fun i h1 h2 => ?_)
    rw [List.getElem_map, List.getElem_map]
    refine spell_er ?_
    have h3 := congrArg (fun l => l[i]?) h
    simp only [List.getElem?_map] at h3
    simp only [List.length_map] at h1 h2
    rw [List.getElem?_eq_getElem h1, List.getElem?_eq_getElem h2] at h3
    simpa using h3
  unfold joinN textsN
  rw [e]
end Go.Proofs.YtljdnjidphmkjaaDoor
namespace Go.Proofs.YtljdnjidphmkjaaDoor
open Go Go.RowKit
theorem er_at {ts us : List TokM} (h : us.map er = ts.map er) {i : Nat} (h1 : i < ts.length) (h2 : i < us.length) : us[i].kind = ts[i].kind ∧ us[i].text = ts[i].text ∧ us[i].num = ts[i].num := by
  have h3 := congrArg (fun l => l[i]?) h
  simp only [List.getElem?_map] at h3
  rw [List.getElem?_eq_getElem h1, List.getElem?_eq_getElem h2] at h3
  simp only [Option.map_some, Option.some.injEq, er, Prod.mk.injEq] at h3
  exact h3
theorem small_er {ts us : List TokM} (h : us.map er = ts.map er) (hs : smallT ts) : smallT us := fun t ht => by
  obtain ⟨i, hi, rfl⟩ := List.getElem_of_mem ht
  have hl : us.length = ts.length := by have := congrArg List.length h; simpa using this
  obtain ⟨_, e2, e3⟩ := er_at h (by omega) hi
  have := hs ts[i] (List.getElem_mem (by omega))
  rw [e2, e3]; exact this
set_option maxRecDepth 100000 in
set_option maxHeartbeats 8000000 in
theorem lexBack_any (s : ByteArray) (w : World) (h : Ask11 w) (hs : s.size ≤ 9223372036854775807) :
    Calls Tryd.prog 5 #[.string s] w fun e w' => e = .returned (.bool true) ∧ Below w.heap.size w w' := by
  have HA := Lib.hid h
  have HAL := Lib.hid (alive11_any w h.marks h.max)
  have HSC := Lib.hid (fun (W : World) (hW : Ask11 W) => scan_any s W hW)
  have hln := scanL_len (strL s)
  have HSM := Lib.hid (show smallT (scanL (strL s)).1 from fun t ht => scanL_small _ t ht)
  have HWR := Lib.hid (scanL_wrong (strL s))
  have HBK := Lib.hid (fun (ts : List TokM) (h : scanL (strL s) = (ts, 0, -1)) hl => scan_back (strL_bd s) h hl)
  obtain ⟨R, hR⟩ : ∃ R, R = scanL (strL s) := ⟨_, rfl⟩
  rw [← hR] at HSC hln HSM HWR HBK
  obtain ⟨ts, n, pos⟩ := R
  simp only at hln HSM HWR
  clear hR h
  go_enter Tryd.func5, Tryd.ntmps5
  go_wp2_with fail
  refine HAL.out.mono ?_
  rintro e w1 ⟨rfl, hb1⟩
  have HB1 := Lib.hid hb1
  clear hb1
  go_wp2_with fail
  refine (HSC.out w1 (HA.out.below HB1.out)).mono ?_
  rintro e w2 ⟨A, c, v, rfl, hc, ht, he, hb2⟩
  have HB2 := Lib.hid (HB1.out.trans (hb2.mono HB1.out.size))
  have HT2 := Lib.hid ht
  simp only at hc he HT2
  clear hb2 ht
  rcases he with ⟨rfl, rfl, rfl⟩ | ⟨hn, rfl, rfl⟩ | ⟨hn, hp, hat⟩
  · have HBK2 := Lib.hid (HBK.out ts rfl)
    obtain ⟨m, hm⟩ : ∃ m, m = ts.length := ⟨_, rfl⟩
    rw [← hm] at hc hln ⊢
    have HMN := Lib.hid hm
    have HJ := Lib.hid (fun (W : World) (hW : Marks W) (hl : ToksAt W A ts) => lexJoin_any A ts m c W hW HMN.out.symm (by omega) hl HSM.out)
    have hjs : (toS (joinN ts)).size = (joinN ts).length := size_toS _
    have HJB : Hid (strL (toS (joinN ts)) = joinN ts) := Lib.hid (strL_toS (joinN_bytes _))
    obtain ⟨T, hT⟩ : ∃ T, T = toS (joinN ts) := ⟨_, rfl⟩
    rw [← hT] at HJ hjs HJB
    have HTT := Lib.hid hT
    clear HBK HSC HWR hm hT
    go_wp2_with fail
    refine (HJ.out w2 (HA.out.marks.below HB2.out) HT2.out).mono ?_
    rintro e w3 ⟨rfl, hb3⟩
    have HB3 := Lib.hid (HB2.out.trans (hb3.mono HB2.out.size))
    have HT3 := Lib.hid (HT2.out.below hb3)
    clear hb3 HJ
    by_cases hl : 2048 < T.size
    · have hl2 : (2048 : Int) < (T.size : Int) := by omega
      clear hl hjs
      go_wp2_with fail
      go_ret
      exact ⟨rfl, HB3.out⟩
    · have hl2 : ¬ (2048 : Int) < (T.size : Int) := by omega
      obtain ⟨hris, us, hus, her⟩ := HBK2.out (by omega)
      have HSC2 := Lib.hid (fun (W : World) (hW : Ask11 W) => scan_any T W hW)
      rw [HJB.out, hus] at HSC2
      have hul : us.length = m := by rw [HMN.out]; have := congrArg List.length her; simpa using this
      have HER := Lib.hid her
      have HRI := Lib.hid hris
      have HUL := Lib.hid hul
      clear hl hjs hus her hris hul HBK2
      go_wp2_with fail
      refine (HSC2.out w3 (HA.out.below HB3.out)).mono ?_
      rintro e w4 ⟨A2, c2, v2, rfl, hc2, ht4, he4, hb4⟩
      have hv2 : v2 = .nilIface := by
        rcases he4 with ⟨_, _, h⟩ | ⟨h, _⟩ | ⟨h, _⟩
        · exact h
        · exact absurd rfl h
        · exact absurd rfl h
      subst hv2
      simp only at hc2 ht4
      have HT4 := Lib.hid (HT3.out.below hb4)
      have HU4 := Lib.hid ht4
      have HB4 := Lib.hid (HB3.out.trans (hb4.mono HB3.out.size))
      have hul := HUL.out
      rw [hul] at hc2 ⊢
      clear hb4 ht4 he4 hul
      have e0 : ((m : Int) == (m : Int)) = true := beq_self_eq_true _
      have e1 : ((m : Int) != (m : Int)) = false := bne_self_eq_false _
      go_wp2_with fail
      go_loopw [8] (fun v wr => ∃ i : Nat, i ≤ m ∧ v = .int .i64 (i : Int) ∧ Below w.heap.size w wr ∧ Below w4.heap.size w4 wr) (fun v _ => m - (intOf v).toNat)
      case atStart => exact ⟨0, Nat.zero_le _, rfl, HB4.out, Below.refl _ _⟩
      case round =>
        obtain ⟨i, hi, rfl, hbel, hbel4⟩ := hrel
        have HBE := Lib.hid hbel
        have HBE4 := Lib.hid hbel4
        clear hbel hbel4
        by_cases hlt : i < m
        · have h1l : i < ts.length := by rw [← HMN.out]; exact hlt
          have h2l : i < us.length := by rw [HUL.out]; exact hlt
          obtain ⟨b, o, rfl, hbl, x0, x1, x2, x3⟩ := (HT4.out.below HBE4.out).at h1l
          obtain ⟨b2, o2, rfl, hbl2, y0, y1, y2, y3⟩ := (HU4.out.below HBE4.out).at h2l
          obtain ⟨f0, f1, f2⟩ := er_at HER.out h1l h2l
          rw [f0] at y0
          rw [f1] at y1
          rw [f2] at y2
          have hi0' : (0 : Int) ≤ (i : Int) := by omega
          have hi1' : (i : Int) < (m : Int) := by omega
          cases i with
          | zero =>
            obtain ⟨k0, hk⟩ : ∃ k, k = ts[0].kind := ⟨_, rfl⟩
            obtain ⟨s0, hs0⟩ : ∃ k, k = ts[0].text := ⟨_, rfl⟩
            obtain ⟨n0, hn0⟩ : ∃ k, k = ts[0].num := ⟨_, rfl⟩
            rw [← hk] at x0 y0
            rw [← hs0] at x1 y1
            rw [← hn0] at x2 y2
            clear f0 f1 f2 hk hs0 hn0 x3 y3 h1l h2l
            simp only [Nat.zero_mul, Nat.add_zero] at x0 x1 x2 y0 y1 y2
            go_wp2_with fail
            go_quiet (fail)
            go_wp2_with fail
            go_roundw
            case rel => exact ⟨1, by omega, by go_num, below_drewN HBE.out _, below_drewN HBE4.out _⟩
            case measure => simp [intOf]; omega
          | succ j =>
            have hjl : j < ts.length := by omega
            obtain ⟨bz, oz, ez, -, -, -, -, z3⟩ := (HT4.out.below HBE4.out).at hjl
            injection ez with ez
            injection ez with ez1 ez2
            subst ez1; subst ez2
            have hps : ¬ ts[j + 1].pos < ts[j].pos := by
              have := List.pairwise_iff_getElem.1 HRI.out j (j + 1) hjl h1l (Nat.lt_succ_self _)
              omega
            have hd : decide ((0 : Int) < ((j + 1 : Nat) : Int)) = true := decide_eq_true (by omega)
            obtain ⟨k0, hk⟩ : ∃ k, k = ts[j + 1].kind := ⟨_, rfl⟩
            obtain ⟨s0, hs0⟩ : ∃ k, k = ts[j + 1].text := ⟨_, rfl⟩
            obtain ⟨n0, hn0⟩ : ∃ k, k = ts[j + 1].num := ⟨_, rfl⟩
            obtain ⟨p0, hp0⟩ : ∃ k, k = ts[j + 1].pos := ⟨_, rfl⟩
            obtain ⟨p1, hp1⟩ : ∃ k, k = ts[j].pos := ⟨_, rfl⟩
            rw [← hk] at x0 y0
            rw [← hs0] at x1 y1
            rw [← hn0] at x2 y2
            rw [← hp0] at x3 hps
            rw [← hp1] at z3 hps
            have hj0 : (0 : Int) ≤ (j : Int) := by omega
            have hj1 : (j : Int) < (m : Int) := by omega
            have hj2 : (j : Int) + 1 < (m : Int) := by omega
            clear f0 f1 f2 hk hs0 hn0 hp0 hp1 y3 h1l h2l hjl
            go_wp2_with fail
            go_quiet (fail)
            go_wp2_with fail
            go_roundw
            case rel => exact ⟨j + 2, by omega, by go_num, below_drewN HBE.out _, below_drewN HBE4.out _⟩
            case measure => simp [intOf]; omega
        · obtain rfl : i = m := by omega
          have hi1' : ¬ (i : Int) < (i : Int) := by omega
          have HJ2 := Lib.hid (lexJoin_any A2 us i c2 wr (HA.out.marks.below HBE.out) HUL.out (by omega) (HU4.out.below HBE4.out) (small_er HER.out HSM.out))
          rw [join_er HER.out, ← HTT.out] at HJ2
          clear hlt
          go_wp2_with fail
          refine HJ2.out.mono ?_
          rintro e w6 ⟨rfl, hb6⟩
          have HB6 := Lib.hid (HBE.out.trans (hb6.mono HBE.out.size))
          clear hb6
          go_wp2_with fail
          go_ret
          exact ⟨rfl, HB6.out⟩
  · have hts : ts = [] := HWR.out hn
    subst hts
    clear hn HBK HSC HWR
    go_wp2_with fail
    go_ret
    exact ⟨rfl, HB2.out⟩
  · have hts : ts = [] := HWR.out hn
    subst hts
    obtain ⟨b, rfl, _, _, _⟩ := hat
    clear hn HBK HSC HWR hp
    go_wp2_with fail
    go_ret
    exact ⟨rfl, HB2.out⟩
end Go.Proofs.YtljdnjidphmkjaaDoor
