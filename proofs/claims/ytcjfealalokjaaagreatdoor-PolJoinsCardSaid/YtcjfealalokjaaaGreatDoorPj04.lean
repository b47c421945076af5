/- PolLawJoins: merged. -/
import Derived.Test.YtcjfealalokjaaaGreatDoorPa02
import Derived.Test.YtcjfealalokjaaaGreatDoorPa06
import Derived.Test.YtcjfealalokjaaaGreatDoorPa11
import Derived.Test.YtcjfealalokjaaaGreatDoorPa15
import Derived.Test.YtcjfealalokjaaaGreatDoorPa20
import Derived.Test.YtcjfealalokjaaaGreatDoorPa23
import Derived.Test.YtcjfealalokjaaaGreatDoorPa24
import Derived.Test.YtcjfealalokjaaaGreatDoorPa37
import Derived.Test.YtcjfealalokjaaaGreatDoorPa38
import Derived.Test.YtcjfealalokjaaaGreatDoorPa39
import Derived.Test.YtcjfealalokjaaaGreatDoorPj01
import Derived.Test.YtcjfealalokjaaaGreatDoorPj03
set_option linter.all false
namespace Go.Proofs.YtcjfealalokjaaaGreatDoor
open Go Go.RowKit
theorem run_append_empty {P : Program} {w : World} (base : Nat) (t ty e : TypeId) (i : TypeInfo) (size : Nat) (ht : P.underlying t = some (.slice e)) (hi : P.info? e = some i) (c : Nat)
    (v : Value) (n : Nat) (xs : List Value) (hown : w.ownsRow base e size v n xs) :
    (Builtin.append_ #[t, t] ty #[v, .slice none 0 c]).run P w = .ok v w := by
  rcases hown.2 with ⟨rfl, rfl⟩ | ⟨g, cap, cur, rfl, _, _, hnc, _⟩
  · simp [Builtin.append_, run_underlying ht, sizeOf, typeInfo, hi, Builtin.lenOf, Builtin.firstCells]
  · simp [Builtin.append_, run_underlying ht, sizeOf, typeInfo, hi, Builtin.lenOf, Builtin.firstCells, hnc, storeCells]
/-- What Num tells of an error. -/
theorem num_tells {n pos : Int} {w0 : World} {v : Value} {w : World} (h : ErrTells n pos w0 v w) (hg : ErrTab w) : Calls Tryz.prog 12 #[v] w fun e w' => e = .returned (.int .i64 n) ∧ Below w.heap.size w w' := by
  rcases h with ⟨rfl, _, rfl⟩ | ⟨_, _, rfl⟩ | ⟨_, _, hat⟩
  · exact (num_nil w).mono (by rintro e w' ⟨h1, rfl⟩; exact ⟨h1, Below.refl _ _⟩)
  · exact num_errno n w hg
  · obtain ⟨b, rfl, k0, k1, _⟩ := hat
    exact num_at n b 0 w hg k1
theorem iface_of {n pos : Int} {w0 : World} {v : Value} {w : World} (h : ErrTells n pos w0 v w) (h0 : n ≠ 0) : ∃ t x, v = .iface t x := by
  rcases h with ⟨h1, _⟩ | ⟨_, _, rfl⟩ | ⟨_, _, b, rfl, _⟩
  · exact absurd h1 h0
  · exact ⟨_, _, rfl⟩
  · exact ⟨_, _, rfl⟩
theorem nil_of {n pos : Int} {w0 : World} {v : Value} {w : World} (h : ErrTells n pos w0 v w) (h0 : n = 0) : v = .nilIface := by
  rcases h with ⟨_, _, h1⟩ | ⟨h1, _⟩ | ⟨h1, _⟩
  · exact h1
  · exact absurd h0 h1
  · exact absurd h0 h1
theorem repRs_flat {W : World} {S : Nat → Prop} {b : Nat} : ∀ {l : List RuleM} {o : Nat}, RepRs W S b o l → ∃ xs, FlatR W S l xs ∧ (∀ j u, xs[j]? = some u → W.cell? ⟨b, o + j, none⟩ = some u) ∧ ∀ u ∈ xs, u.oneCell' = true
  | [], o, _ => ⟨[], rfl, fun j u h => by simp at h, fun u h => by cases h⟩
  | x :: r, o, h => by
    obtain ⟨a0, a1, a2, a3, hx, k0, k1, k2, k3⟩ := h 0 (by simp)
    rw [Nat.zero_mul] at k0 k1 k2 k3
    have hr : RepRs W S b (o + 4) r := fun i hi => by
      obtain ⟨b0, b1, b2, b3, hy, q0, q1, q2, q3⟩ := h (i + 1) (by simpa using hi)
      rw [show o + (i + 1) * 4 = o + 4 + i * 4 by omega] at q0 q1 q2 q3
      exact ⟨b0, b1, b2, b3, hy, q0, q1, q2, q3⟩
    obtain ⟨xs, i1, i2, i3⟩ := repRs_flat hr
    have hx0 : RepR W S x (.agg #[a0, a1, a2, a3]) := hx
    obtain ⟨vs, vw, e, ⟨SA, cs, rfl, _⟩, ⟨AW, cw, rfl, _⟩⟩ := hx
    simp only [Value.agg.injEq, Array.mk.injEq, List.cons.injEq, and_true] at e
    obtain ⟨rfl, rfl, rfl, rfl⟩ := e
    refine ⟨_, ⟨_, _, _, _, xs, rfl, hx0, i1⟩, fun j u hj => ?_, fun u hu => ?_⟩
    · match j, hj with
      | 0, hj => simp at hj; subst hj; exact k0
      | 1, hj => simp at hj; subst hj; exact k1
      | 2, hj => simp at hj; subst hj; exact k2
      | 3, hj => simp at hj; subst hj; exact k3
      | j + 4, hj =>
        have := i2 j u (by simpa using hj)
        rwa [show o + 4 + j = o + (j + 4) by omega] at this
    · simp only [List.mem_cons] at hu
      rcases hu with rfl | rfl | rfl | rfl | hu
      · rfl
      · rfl
      · rfl
      · rfl
      · exact i3 u hu
theorem FlatR.append {S : Nat → Prop} {W : World} : ∀ {l m : List RuleM} {xs ys : List Value}, FlatR W S l xs → FlatR W S m ys → FlatR W S (l ++ m) (xs ++ ys)
  | [], m, xs, ys, h, g => by obtain rfl : xs = [] := h; exact g
  | x :: r, m, xs, ys, h, g => by
    obtain ⟨a0, a1, a2, a3, zs, e, h1, h2⟩ := h
    exact ⟨a0, a1, a2, a3, zs ++ ys, by rw [e]; rfl, h1, FlatR.append h2 g⟩
/-- Rules that are appended. -/
theorem run_append_rules (ty : TypeId) {w : World} {base n m c : Nat} {v : Value} {xs : List Value} {A : Option Addr} {l : List RuleM} {S : Nat → Prop} (hown : w.ownsRow base 45 4 v n xs) (hv : RepP w S l (.slice A m c)) (hbase : base ≤ w.heap.size) (hn : n + m ≤ 1000) :
    ∃ ys v' w', (Builtin.append_ #[23, 23] ty #[v, .slice A m c]).run Tryz.prog w = .ok v' w' ∧ w'.ownsRow base 45 4 v' (n + m) (xs ++ ys) ∧ w.grownBy w' v.ownBlock ∧ FlatR w S l ys := by
  obtain ⟨i0, hi0, hz0, hz1, hz2⟩ := info_parts infoRule
  obtain ⟨A', c', e, _, hr⟩ := hv
  injection e with e1 e2 e3
  subst e1; subst e2; subst e3
  by_cases hl : l = []
  · subst hl
    cases A with
    | none =>
      exact ⟨[], v, w, run_append_empty base _ _ _ i0 4 Tryz.underlying23 hi0 c v n xs hown, by simpa using hown, grownBy_refl w _, rfl⟩
    | some a =>
      obtain ⟨v', w', h1, h2, h3, _⟩ := run_append_own_at (P := Tryz.prog) w base 23 ty 45 i0 (.agg #[.bool false, .slice none 0 0, .slice none 0 0, .int .i64 0]) 4 64 Tryz.underlying23 hi0 hz0 hz1 hz2 rfl (by decide) v n xs hown a 0 c [] rfl (fun j u h => by simp at h) (fun u h => by cases h) (by unfold maxLen; omega) (by omega) hbase
      exact ⟨[], v', w', h1, h2, h3, rfl⟩
  · obtain ⟨b, o, rfl, _, hlt, hrs⟩ := hr hl
    obtain ⟨ys, f1, f2, f3⟩ := repRs_flat hrs
    obtain ⟨v', w', h1, h2, h3, _⟩ := run_append_own_at (P := Tryz.prog) w base 23 ty 45 i0 (.agg #[.bool false, .slice none 0 0, .slice none 0 0, .int .i64 0]) 4 64 Tryz.underlying23 hi0 hz0 hz1 hz2 rfl (by decide) v n xs hown ⟨b, o, none⟩ l.length c ys f1.length (fun j u hu => by rw [Addr.add_mid]; exact f2 j u hu) f3 (by unfold maxLen; omega) (by omega) hbase
    exact ⟨ys, v', w', h1, h2, h3, f1⟩
theorem wpList_append_run {P : Program} {ops : Array Oper} {rest : List Oper} {o : Oper} {a : Act} {w : World} {Q : Exit → Act → World → Prop} (s x : Operand) (t : TypeId)
    (ho : o.op = .call { callee := .builtin .append, args := #[s, x], argTypes := #[t, t] }) (hw : Region.wanted o (yielded ops a.tmps) = true) (vs vx v' : Value) (w' : World) (hs : a.eval s = vs) (hx : a.eval x = vx)
    (hr : (Builtin.append_ #[t, t] o.type #[vs, vx]).run P w = .ok v' w') (h : wpList P ops Q rest (a.put o.dst v') w') : wpList P ops Q (o :: rest) a w := by
  refine wpList_step fun K hK => ?_
  rw [if_pos hw]
  unfold Oper.wp execOp
  simp only [ho, resolve, invoke, builtin, Sem.run_bind, Sem.run_pure, Result.andThen_ok, List.map_toArray, List.map_cons, List.map_nil, hs, hx, hr]
  exact hK _ _ h
theorem rulesGo_len (k : Nat) (r : List TokM) : (rulesGo k r).1.length ≤ r.length := by
  rw [rulesGo]
  by_cases h1 : (hdT r).kind = 5
  · rw [if_pos h1]; simp
  rw [if_neg h1]
  by_cases h2 : k = 16 ∧ (isT r 1 wPermit = true ∨ isT r 1 wDeny = true)
  · rw [if_pos h2]; simp
  rw [if_neg h2]
  by_cases h3 : (ruleP r).2.2 ≠ 0
  · rw [if_pos h3]; simp
  rw [if_neg h3]
  by_cases h4 : (ruleP r).2.1.length < r.length
  · rw [dif_pos h4]
    by_cases h5 : (rulesGo (k + 1) (ruleP r).2.1).2.1 ≠ 0
    · rw [if_pos h5]; simp
    rw [if_neg h5]
    have := rulesGo_len (k + 1) (ruleP r).2.1
    rw [List.length_cons]
    omega
  · rw [dif_neg h4]; simp
termination_by r.length
decreasing_by exact h4
theorem parse_few (s : ByteArray) (h : (parseL (strL s)).2.1 = 0) : (parseL (strL s)).1.length ≤ 513 := by
  obtain ⟨_, ts, _, hs, hp⟩ := parse_ok h
  have := (scan_ends (s := strL s) (strL_bd s) (by rw [hs])).2.2
  rw [hs] at this
  rw [hp]
  exact Nat.le_trans (rulesGo_len 0 ts) this
theorem strL_joined (a b : ByteArray) : strL (a ++ ⟨#[10]⟩ ++ b) = strL a ++ 10 :: strL b := by
  rw [strL_append, strL_append]
  show strL a ++ [10] ++ strL b = _
  simp
set_option maxRecDepth 100000 in
set_option maxHeartbeats 4000000 in
theorem polJoins_any (a b : ByteArray) (W : World) (hg : ErrTab W) (h : Ask12 W) :
    Calls Tryz.prog 6 #[.string a, .string b] W fun e w' => e = .returned (.bool true) ∧ Below W.heap.size W w' := by
  have HAL := Lib.hid (alive12_any W h)
  have HEG := Lib.hid hg
  have HASK := Lib.hid h
  have HPA := Lib.hid (fun (w : World) (hw : Below W.heap.size W w) => polParse_any a w (h.below hw))
  have HPB := Lib.hid (fun (w : World) (hw : Below W.heap.size W w) => polParse_any b w (h.below hw))
  have HPC := Lib.hid (fun (w : World) (hw : Below W.heap.size W w) => polParse_any (a ++ ⟨#[10]⟩ ++ b) w (h.below hw))
  rw [strL_joined] at HPC
  have HJ := Lib.hid (parse_join (strL_bd a) (strL_bd b))
  have HLA := Lib.hid (fun h => (parse_ok (a := strL a) h).1)
  have HLB := Lib.hid (fun h => (parse_ok (a := strL b) h).1)
  have HFA := Lib.hid (parse_few a)
  have HFB := Lib.hid (parse_few b)
  rw [length_strL] at HLA HLB HJ
  rw [length_strL] at HJ
  obtain ⟨Ra, hRa⟩ : ∃ R, R = parseL (strL a) := ⟨_, rfl⟩
  obtain ⟨Rb, hRb⟩ : ∃ R, R = parseL (strL b) := ⟨_, rfl⟩
  obtain ⟨Rc, hRc⟩ : ∃ R, R = parseL (strL a ++ 10 :: strL b) := ⟨_, rfl⟩
  rw [← hRa] at HPA HJ HLA HFA
  rw [← hRb] at HPB HJ HLB HFB
  rw [← hRc] at HPC HJ
  clear hRa hRb hRc h hg
  by_cases ea : Ra.2.1 = 0
  · by_cases eb : Rb.2.1 = 0
    · have hsa := HLA.out ea
      have hsb := HLB.out eb
      go_enter Tryz.func6, Tryz.ntmps6
      go_wp2_with fail
      (with_reducible refine HAL.out.mono ?_)
      rintro e w1 ⟨rfl, hb1⟩
      have HB1 := Lib.hid hb1
      clear hb1
      go_wp2_with fail
      (with_reducible refine (HPA.out w1 HB1.out).mono ?_)
      rintro e w2 ⟨A, n, c, v, rfl, hra, hva, hb2⟩
      obtain rfl := nil_of hva ea
      have HB2 := Lib.hid (HB1.out.trans (hb2.mono HB1.out.size))
      have HRA := Lib.hid hra.all
      have HNL : Hid (n = Ra.1.length) := Lib.hid (by obtain ⟨_, _, e, _⟩ := hra; injection e)
      clear hb2 hra hva
      go_wp2_with fail
      (with_reducible refine (HPB.out w2 HB2.out).mono ?_)
      rintro e w3 ⟨A', n', c', v, rfl, hrb, hvb, hb3⟩
      obtain rfl := nil_of hvb eb
      have HB3 := Lib.hid (HB2.out.trans (hb3.mono HB2.out.size))
      have HX3 := Lib.hid hb3
      have HRB := Lib.hid hrb.all
      have HNM' : Hid (n' = Rb.1.length) := Lib.hid (by obtain ⟨_, _, e, _⟩ := hrb; injection e)
      clear hb3 hrb hvb
      by_cases h16 : n + n' ≤ 16
      · have l1 : ¬ (16 : Int) < (n : Int) + (n' : Int) := by omega
        by_cases h47 : a.size + b.size ≤ 2047
        · have l2 : ¬ (2047 : Int) < (a.size : Int) + (b.size : Int) := by omega
          have hT1 : a.size + (⟨#[10]⟩ : ByteArray).size ≤ 9223372036854775807 := by show a.size + 1 ≤ _; omega
          have hT2 : (a ++ (⟨#[10]⟩ : ByteArray)).size + b.size ≤ 9223372036854775807 := by rw [ByteArray.size_append]; show a.size + 1 + b.size ≤ _; omega
          have hj := HJ.out ea eb h47 (by rw [← HNL.out, ← HNM'.out]; exact h16)
          have H16 := Lib.hid h16
          clear h16 h47 hsa hsb ea eb
          go_wp2_with fail
          (with_reducible refine (HPC.out w3 HB3.out).mono ?_)
          rintro e w4 ⟨A3, n3, c3, v3, rfl, hrc, hvc, hb4⟩
          have HB4 := Lib.hid (HB3.out.trans (hb4.mono HB3.out.size))
          have HX4 := Lib.hid hb4
          have HNM := Lib.hid (num_tells hvc (HEG.out.below HB4.out))
          rcases hj with h53 | ⟨h0, hsame⟩
          · rw [h53] at HNM
            clear hrc hvc hb4 h53
            go_wp2_with fail
            (with_reducible refine HNM.out.mono ?_)
            rintro e w5 ⟨rfl, hb5⟩
            have HB5 := Lib.hid (HB4.out.trans (hb5.mono HB4.out.size))
            clear hb5
            go_wp2
            go_ret
            exact ⟨rfl, HB5.out⟩
          · obtain rfl := nil_of hvc h0
            rw [h0] at HNM
            have HRC := Lib.hid hrc.all
            have HSM := Lib.hid hsame
            clear hrc hvc hb4 h0 hsame
            go_wp2_with fail
            (with_reducible refine HNM.out.mono ?_)
            rintro e w5 ⟨rfl, hb5⟩
            have HB5 := Lib.hid (HB4.out.trans (hb5.mono HB4.out.size))
            have HX5 := Lib.hid hb5
            clear hb5
            obtain ⟨wB, hwB⟩ : ∃ V, V = w5.alloc (.cells #[] 45) := ⟨_, rfl⟩
            have hb5B : Below w5.heap.size w5 wB := by rw [hwB]; exact belowAlloc w5 _
            have s23 := HX3.out.size
            have s34 := HX4.out.size
            have s45 := HX5.out.size
            have s5B := hb5B.size
            have own0 : wB.ownsRow w5.heap.size 45 4 (.slice (some ⟨w5.heap.size, 0, none⟩) 0 0) 0 [] := by rw [hwB]; exact World.ownsRow_lit w5 #[] 0 (Nat.le_refl _) (by unfold maxLen; omega) rfl
            have h2B : Below w2.heap.size w2 wB := ((HX3.out.trans (HX4.out.mono s23)).trans (HX5.out.mono (by omega))).trans (hb5B.mono (by omega))
            have h3B : Below w3.heap.size w3 wB := (HX4.out.trans (HX5.out.mono s34)).trans (hb5B.mono (by omega))
            obtain ⟨ys, v6, w6, hrun6, own6, grow6, flat6⟩ := run_append_rules 23 own0 (HRA.out.under (Nat.le_refl _) h2B) s5B (by have := H16.out; omega)
            have g6 : wB.grownBy w6 (some w5.heap.size) := grow6
            obtain ⟨zs, v7, w7, hrun7, own7, grow7, flat7⟩ := run_append_rules 23 own6 ((HRB.out.under (Nat.le_refl _) h3B).keeps (S := fun k => k < w3.heap.size) (T := fun k => k < w3.heap.size) (Keeps.grown g6 (fun k hk e => by injection e with e; have : k < w3.heap.size := hk; omega)) (fun _ h _ => h)) (Nat.le_trans s5B g6.size) (by have := H16.out; omega)
            have hg7 : ∀ k, v6.ownBlock = some k → w5.heap.size ≤ k := fun k e => (own6.lt k e).1
            have hf6 := FlatR.keeps (S := fun k => k < w2.heap.size) (T := fun k => k < w5.heap.size) (Keeps.grown g6 (fun k hk e => by injection e with e; have : k < w2.heap.size := hk; omega)) (fun k hk _ => Nat.lt_of_lt_of_le hk (by omega)) flat6
            have hf7 := FlatR.append (FlatR.keeps (S := fun k => k < w5.heap.size) (T := fun k => k < w5.heap.size) (Keeps.grown grow7 (fun k hk e => by have := hg7 k e.symm; have : k < w5.heap.size := hk; omega)) (fun _ h _ => h) hf6) (FlatR.keeps (S := fun k => k < w3.heap.size) (T := fun k => k < w5.heap.size) (Keeps.grown grow7 (fun k hk e => by have := hg7 k e.symm; have : k < w3.heap.size := hk; omega)) (fun k hk _ => Nat.lt_of_lt_of_le hk (by omega)) flat7)
            have hb47 : Below w4.heap.size w4 w7 := (((HX5.out.trans (hb5B.mono s45)).grown g6 (by omega) (fun k hk => by injection hk with hk; omega)).grown grow7 (by have := g6.size; omega) (fun k hk => by have := hg7 k hk; omega))
            have hlen : 0 + n + n' = (Ra.1 ++ Rb.1).length := by rw [List.length_append, ← HNL.out, ← HNM'.out]; omega
            have hR7 : RepP w7 (fun k => k < w7.heap.size) (Ra.1 ++ Rb.1) v7 := by
              rw [hlen] at own7
              exact (own_rules (T := fun _ => True) own7 (by simpa using hf7) (fun _ _ _ => trivial) (fun _ _ => trivial) (by rw [← hlen]; have := H16.out; omega)).all
            have HSC := Lib.hid (refSame_false (Nat.le_refl w7.heap.size) ((HRC.out.under (Nat.le_refl _) hb47).wide hb47.size) hR7)
            rw [HSM.out] at HSC
            have HB7 := Lib.hid (HB4.out.trans (hb47.mono HB4.out.size))
            have HWB := Lib.hid hwB
            rw [hwB] at hrun6
            clear hwB hb5B s23 s34 s45 s5B own0 h2B h3B own6 grow6 flat6 g6 own7 grow7 flat7 hg7 hf6 hf7 hb47 hlen hR7
            go_wp2_with (first
              | (at_builtin; (refine wpList_append_run (.tmp 60) (.tmp 61) 23 rfl (by rfl) _ _ v6 w6 rfl rfl hrun6 ?_))
              | (at_builtin; (refine wpList_append_run (.tmp 62) (.tmp 63) 23 rfl (by rfl) _ _ v7 w7 rfl rfl hrun7 ?_)))
            (with_reducible refine HSC.out.mono ?_)
            rintro e w8 ⟨rfl, hb8⟩
            have HB8 := Lib.hid (HB7.out.trans (hb8.mono HB7.out.size))
            clear hb8
            go_wp2
            go_ret
            exact ⟨rfl, HB8.out⟩
        · have l2 : (2047 : Int) < (a.size : Int) + (b.size : Int) := by omega
          clear h16 h47 ea eb
          go_wp2
          go_ret
          exact ⟨rfl, HB3.out⟩
      · have l1 : (16 : Int) < (n : Int) + (n' : Int) := by omega
        have hna : n ≤ 513 := by rw [HNL.out]; exact HFA.out ea
        have hnb : n' ≤ 513 := by rw [HNM'.out]; exact HFB.out eb
        clear h16 hsa hsb ea eb
        go_wp2
        go_ret
        exact ⟨rfl, HB3.out⟩
    · go_enter Tryz.func6, Tryz.ntmps6
      go_wp2_with fail
      (with_reducible refine HAL.out.mono ?_)
      rintro e w1 ⟨rfl, hb1⟩
      have HB1 := Lib.hid hb1
      clear hb1
      go_wp2_with fail
      (with_reducible refine (HPA.out w1 HB1.out).mono ?_)
      rintro e w2 ⟨A, n, c, v, rfl, hra, hva, hb2⟩
      obtain rfl := nil_of hva ea
      have HB2 := Lib.hid (HB1.out.trans (hb2.mono HB1.out.size))
      clear hb2 hra hva
      go_wp2_with fail
      (with_reducible refine (HPB.out w2 HB2.out).mono ?_)
      rintro e w3 ⟨A', n', c', v, rfl, hrb, hvb, hb3⟩
      obtain ⟨t, x, rfl⟩ := iface_of hvb eb
      have HB3 := Lib.hid (HB2.out.trans (hb3.mono HB2.out.size))
      clear hb3 hrb hvb
      go_wp2
      go_ret
      exact ⟨rfl, HB3.out⟩
  · go_enter Tryz.func6, Tryz.ntmps6
    go_wp2_with fail
    (with_reducible refine HAL.out.mono ?_)
    rintro e w1 ⟨rfl, hb1⟩
    have HB1 := Lib.hid hb1
    clear hb1
    go_wp2_with fail
    (with_reducible refine (HPA.out w1 HB1.out).mono ?_)
    rintro e w2 ⟨A, n, c, v, rfl, hra, hva, hb2⟩
    obtain ⟨t, x, rfl⟩ := iface_of hva ea
    have HB2 := Lib.hid (HB1.out.trans (hb2.mono HB1.out.size))
    clear hb2 hra hva
    go_wp2_with fail
    (with_reducible refine (HPB.out w2 HB2.out).mono ?_)
    rintro e w3 ⟨A', n', c', v, rfl, hrb, hvb, hb3⟩
    have HB3 := Lib.hid (HB2.out.trans (hb3.mono HB2.out.size))
    clear hb3 hrb hvb
    go_wp2
    go_ret
    exact ⟨rfl, HB3.out⟩
end Go.Proofs.YtcjfealalokjaaaGreatDoor
