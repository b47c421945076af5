/- JpSame, JpSame2: merged. -/
import Derived.Test.YtjfgmgkhinehaaaGreatDoorCx04
import Derived.Test.YtjfgmgkhinehaaaGreatDoorCx08
set_option linter.all false
namespace Go.Proofs.YtjfgmgkhinehaaaGreatDoor
open Go Go.RowKit
theorem equalK_any (W : World) (k k' : List ByteArray) (v v' : Value) (h : RepK W k v) (h' : RepK W k' v') :
    Calls Tryz.prog 52 #[v, v'] W fun e w' => e = .returned (.bool (decide (k = k'))) ∧ Below W.heap.size W w' := by
  obtain ⟨A, c, rfl, hl, hc⟩ := h
  obtain ⟨A', c', rfl, hl', hc'⟩ := h'
  by_cases hne : k.length = k'.length
  · by_cases h0 : k = []
    · subst h0
      have h0' : k' = [] := List.eq_nil_of_length_eq_zero hne.symm
      subst h0'
      refine (Tryz.slices_Equal_string_empty A A' c 0 c' W (by omega)).mono ?_
      rintro e w' ⟨rfl, rfl⟩
      exact ⟨rfl, Below.refl _ _⟩
    · have h0' : k' ≠ [] := fun e => h0 (List.eq_nil_of_length_eq_zero (by rw [hne, e]; rfl))
      obtain ⟨b, o, rfl, hlt, hcs⟩ := hc h0
      obtain ⟨b', o', rfl, hlt', hcs'⟩ := hc' h0'
      refine (Tryz.slices_Equal_string b o k.length c b' o' k'.length c' k k' W (Nat.le_refl _) (Nat.le_refl _) (by omega) (by omega) (fun j hj => ?_) (fun j hj => ?_)).mono ?_
      · obtain ⟨u, h1, _, h3⟩ := hcs j hj
        rw [h3, List.getD_eq_getElem?_getD, h1]; rfl
      · obtain ⟨u, h1, _, h3⟩ := hcs' j hj
        rw [h3, List.getD_eq_getElem?_getD, h1]; rfl
      · rintro e w' ⟨rfl, q, rfl⟩
        rw [List.take_length, List.take_length]
        exact ⟨rfl, below_drewN (Below.refl _ _) _⟩
  · refine (Tryz.slices_Equal_string_lens A A' k.length c k'.length c' W hne).mono ?_
    rintro e w' ⟨rfl, rfl⟩
    rw [decide_eq_false (fun e => hne (by rw [e]))]
    exact ⟨rfl, Below.refl _ _⟩
theorem cell_keptS {w w' : World} {p : Addr} {v : Value} (h : w.cell? p = some v) (hg : w.grownBy w' none) : w'.cell? p = some v := (World.cell?_of_block (hg.block p.block (lt_of_cell h) (by simp))).trans h
/-- What is asked of Same. -/
def SameAsk (x : J) : Prop := ∀ (b : J) (va vb : Value) (W : World), RepJ W x va → RepJ W b vb → Calls Tryz.prog 17 #[va, vb] W fun e w' => e = .returned (.bool (sameJ x b)) ∧ Below W.heap.size W w'
/-- A value's five cells. -/
theorem RepJ.cells {W : World} {j : J} {v : Value} {b o : Nat} (h : RepJ W j v) (hf : Five W b o v) : ∃ A x3 c K x4 d, v = .agg #[.int .i64 j.kind, .int .i64 j.n, .string j.s, .slice A x3 c, .slice K x4 d] ∧ W.cell? ⟨b, o, none⟩ = some (.int .i64 j.kind) ∧ W.cell? ⟨b, o + 1, none⟩ = some (.int .i64 j.n) ∧ W.cell? ⟨b, o + 2, none⟩ = some (.string j.s) ∧ W.cell? ⟨b, o + 3, none⟩ = some (.slice A x3 c) ∧ W.cell? ⟨b, o + 4, none⟩ = some (.slice K x4 d) := by
  obtain ⟨vk, A, c, rfl, _, hk, _, _⟩ := h.open
  obtain ⟨K, d, rfl, _, _⟩ := hk.open
  obtain ⟨a0, a1, a2, a3, a4, e, h0, h1, h2, h3, h4⟩ := hf
  simp only [Value.agg.injEq, Array.mk.injEq, List.cons.injEq, and_true] at e
  obtain ⟨rfl, rfl, rfl, rfl, rfl⟩ := e
  exact ⟨A, _, c, K, _, d, rfl, h0, h1, h2, h3, h4⟩
set_option maxRecDepth 100000 in
set_option maxHeartbeats 4000000 in
theorem equalFunc_any (l m : List J) (ih : ∀ x ∈ l, SameAsk x) (A A' : Option Addr) (c c' : Nat) (W : World) (hl : l.length ≤ 9223372036854775807) (hm : m.length ≤ 9223372036854775807)
    (hc : l ≠ [] → ∃ b o, A = some ⟨b, o, none⟩ ∧ b < W.heap.size ∧ RepC W b o l) (hc' : m ≠ [] → ∃ b o, A' = some ⟨b, o, none⟩ ∧ b < W.heap.size ∧ RepC W b o m) :
    Calls Tryz.prog 53 #[.slice A l.length c, .slice A' m.length c', .func (.func 17) #[] #[]] W fun e w' => e = .returned (.bool (sameLs l m)) ∧ Below W.heap.size W w' := by
  have HSAME : Hid (sameLs l m = true ↔ l.length = m.length ∧ ∀ i (h1 : i < l.length) (h2 : i < m.length), sameJ l[i] m[i] = true) := Lib.hid sameLs_iff
  have HC := Lib.hid hc
  have HC' := Lib.hid hc'
  have HIH := Lib.hid ih
  obtain ⟨p, hp⟩ : ∃ k, k = l.length := ⟨_, rfl⟩
  obtain ⟨q, hq⟩ : ∃ k, k = m.length := ⟨_, rfl⟩
  rw [← hp] at hl ⊢
  rw [← hq] at hm ⊢
  have HP := Lib.hid hp
  have HQ := Lib.hid hq
  clear hc hc' ih hp hq
  by_cases hpq : p = q
  · subst hpq
    have hE : ((p : Int) != (p : Int)) = false := by simp
    go_enter Tryz.func53, Tryz.ntmps53
    go_wp2
    go_loopw [17] (fun i wr => ∃ j : Nat, j ≤ p ∧ i = .int .i64 (j : Int) ∧ (∀ x (h1 : x < l.length) (h2 : x < m.length), x < j → sameJ l[x] m[x] = true) ∧ Below W.heap.size W wr) (fun i _ => p - (intOf i).toNat)
    case atStart => exact ⟨0, by omega, rfl, fun x _ _ hx => absurd hx (Nat.not_lt_zero _), Below.refl _ _⟩
    case round =>
      obtain ⟨j, hj, rfl, hall, hbel⟩ := hrel
      have HA := Lib.hid hall
      have HBE := Lib.hid hbel
      clear hall
      by_cases hlt : j < p
      · have hj1 : j < l.length := by rw [← HP.out]; exact hlt
        have hj2 : j < m.length := by rw [← HQ.out]; exact hlt
        obtain ⟨g, o, rfl, hg, hrep⟩ := HC.out (fun e => by rw [e] at hj1; exact absurd hj1 (Nat.not_lt_zero _))
        obtain ⟨g', o', rfl, hg', hrep'⟩ := HC'.out (fun e => by rw [e] at hj2; exact absurd hj2 (Nat.not_lt_zero _))
        obtain ⟨v1, hr1, hf1⟩ := hrep.at j hj1
        obtain ⟨v2, hr2, hf2⟩ := hrep'.at j hj2
        have HCALL := Lib.hid (fun (w' : World) (hb : Below W.heap.size W w') => HIH.out l[j] (List.getElem_mem hj1) m[j] v1 v2 w' (RepJ.below hb _ _ hr1) (RepJ.below hb _ _ hr2))
        obtain ⟨A1, x3, c1, K1, x4, d1, rfl, z0, z1, z2, z3, z4⟩ := (RepJ.below hbel _ _ hr1).cells (hf1.below hg hbel)
        obtain ⟨A2, y3, c2, K2, y4, d2, rfl, u0, u1, u2, u3, u4⟩ := (RepJ.below hbel _ _ hr2).cells (hf2.below hg' hbel)
        obtain ⟨f, hff⟩ : ∃ f, f = sameJ l[j] m[j] := ⟨_, rfl⟩
        rw [← hff] at HCALL
        have HFF := Lib.hid hff
        obtain ⟨x0, hx0⟩ : ∃ x, x = l[j].kind := ⟨_, rfl⟩
        obtain ⟨x1, hx1⟩ : ∃ x, x = l[j].n := ⟨_, rfl⟩
        obtain ⟨x2, hx2⟩ : ∃ x, x = l[j].s := ⟨_, rfl⟩
        obtain ⟨y0, hy0⟩ : ∃ x, x = m[j].kind := ⟨_, rfl⟩
        obtain ⟨y1, hy1⟩ : ∃ x, x = m[j].n := ⟨_, rfl⟩
        obtain ⟨y2, hy2⟩ : ∃ x, x = m[j].s := ⟨_, rfl⟩
        rw [← hx0, ← hx1, ← hx2, ← hy0, ← hy1, ← hy2] at HCALL
        rw [← hx0] at z0
        rw [← hx1] at z1
        rw [← hx2] at z2
        rw [← hy0] at u0
        rw [← hy1] at u1
        rw [← hy2] at u2
        have hgA := World.grownBy_alloc wr (.cells #[.int .i64 x0, .int .i64 x1, .string x2, .slice A1 x3 c1, .slice K1 x4 d1] 27) none
        have t0 : (wr.alloc (.cells #[.int .i64 x0, .int .i64 x1, .string x2, .slice A1 x3 c1, .slice K1 x4 d1] 27)).cell? ⟨g', o' + j * 5, none⟩ = some (.int .i64 y0) := cell_keptS u0 hgA
        have t1 : (wr.alloc (.cells #[.int .i64 x0, .int .i64 x1, .string x2, .slice A1 x3 c1, .slice K1 x4 d1] 27)).cell? ⟨g', o' + j * 5 + 1, none⟩ = some (.int .i64 y1) := cell_keptS u1 hgA
        have t2 : (wr.alloc (.cells #[.int .i64 x0, .int .i64 x1, .string x2, .slice A1 x3 c1, .slice K1 x4 d1] 27)).cell? ⟨g', o' + j * 5 + 2, none⟩ = some (.string y2) := cell_keptS u2 hgA
        have t3 : (wr.alloc (.cells #[.int .i64 x0, .int .i64 x1, .string x2, .slice A1 x3 c1, .slice K1 x4 d1] 27)).cell? ⟨g', o' + j * 5 + 3, none⟩ = some (.slice A2 y3 c2) := cell_keptS u3 hgA
        have t4 : (wr.alloc (.cells #[.int .i64 x0, .int .i64 x1, .string x2, .slice A1 x3 c1, .slice K1 x4 d1] 27)).cell? ⟨g', o' + j * 5 + 4, none⟩ = some (.slice K2 y4 d2) := cell_keptS u4 hgA
        have hB2 : Below W.heap.size W ((wr.alloc (.cells #[.int .i64 x0, .int .i64 x1, .string x2, .slice A1 x3 c1, .slice K1 x4 d1] 27)).alloc (.cells #[.int .i64 y0, .int .i64 y1, .string y2, .slice A2 y3 c2, .slice K2 y4 d2] 27)) := (hbel.alloc hbel.size _).alloc (by have := hbel.size; simp; omega) _
        have HB2 := Lib.hid hB2
        have w0 : (0 : Int) ≤ (j : Int) := by omega
        have w1 : (j : Int) < (p : Int) := by omega
        clear hrep hrep' hr1 hr2 hf1 hf2 hff hx0 hx1 hx2 hy0 hy1 hy2 hB2 hbel hgA
        cases f with
        | true =>
          go_wp2_with (go_at_call 17; (with_reducible refine (HCALL.out _ HB2.out).mono ?_); rintro e w' ⟨rfl, hb⟩; have HB3 := Lib.hid (HB2.out.trans (hb.mono HB2.out.size)); clear hb)
          go_roundw
          case rel => exact ⟨j + 1, by omega, by go_num, fun x h1 h2 hx => by
            rcases Nat.lt_or_ge x j with h | h
            · exact HA.out x h1 h2 h
            · obtain rfl : x = j := by omega
              exact HFF.out.symm, HB3.out⟩
          case measure => simp [intOf]; omega
        | false =>
          have HR : Hid (sameLs l m = false) := Lib.hid (by
            rw [← Bool.not_eq_true, HSAME.out]
            rintro ⟨_, h⟩
            rw [h j hj1 hj2] at HFF
            exact absurd HFF.out (by decide))
          go_wp2_with (go_at_call 17; (with_reducible refine (HCALL.out _ HB2.out).mono ?_); rintro e w' ⟨rfl, hb⟩; have HB3 := Lib.hid (HB2.out.trans (hb.mono HB2.out.size)); clear hb)
          go_ret
          rw [HR.out]
          exact ⟨rfl, HB3.out⟩
      · obtain rfl : j = p := by omega
        have HR : Hid (sameLs l m = true) := Lib.hid (by
          rw [HSAME.out]
          exact ⟨by rw [← HP.out, ← HQ.out], fun x h1 h2 => HA.out x h1 h2 (by rw [HP.out]; exact h1)⟩)
        have hge : ¬ (j : Int) < (j : Int) := by omega
        clear hlt hbel
        go_wp2
        go_ret
        rw [HR.out]
        exact ⟨rfl, HBE.out⟩
  · have hE : ((p : Int) != (q : Int)) = true := by rw [bne_iff_ne]; omega
    have hE' : ¬ (p : Int) = (q : Int) := by omega
    have HR : Hid (sameLs l m = false) := Lib.hid (by
      rw [← Bool.not_eq_true, HSAME.out]
      rintro ⟨h, _⟩
      exact hpq (by rw [HP.out, HQ.out]; exact h))
    go_enter Tryz.func53, Tryz.ntmps53
    go_wp2
    go_ret
    rw [HR.out]
    exact ⟨rfl, Below.refl _ _⟩
end Go.Proofs.YtjfgmgkhinehaaaGreatDoor
namespace Go.Proofs.YtjfgmgkhinehaaaGreatDoor
open Go Go.RowKit
theorem RepC.below {W W' : World} (hb : Below W.heap.size W W') {b : Nat} (hlt : b < W.heap.size) : ∀ (l : List J) (o : Nat), RepC W b o l → RepC W' b o l
  | [], o, _ => by rw [RepC]; trivial
  | x :: r, o, h => by
    rw [RepC] at h ⊢
    obtain ⟨⟨v, h1, h2⟩, h3⟩ := h
    exact ⟨⟨v, RepJ.below hb _ _ h1, h2.below hlt hb⟩, RepC.below hb hlt r (o + 5) h3⟩
theorem sameJ_of (a b : J) : sameJ a b = (decide (a.kind = b.kind) && decide (a.n = b.n) && decide (a.s = b.s) && decide (a.k = b.k) && sameLs a.l b.l) := by
  cases a; cases b; rfl
set_option maxRecDepth 100000 in
set_option maxHeartbeats 4000000 in
theorem same_of (a : J) (ih : ∀ x ∈ a.l, SameAsk x) : SameAsk a := fun b va vb W ha hb => by
  obtain ⟨vk, A, c, rfl, _, hk, hl, hc⟩ := ha.open
  obtain ⟨vk', A', c', rfl, _, hk', hl', hc'⟩ := hb.open
  have HEK := Lib.hid (fun (w' : World) (hw : Below W.heap.size W w') => equalK_any w' a.k b.k vk vk' (hk.below hw) (hk'.below hw))
  have HEF := Lib.hid (fun (w' : World) (hw : Below W.heap.size W w') => equalFunc_any a.l b.l ih A A' c c' w' hl hl'
    (fun hne => by obtain ⟨g, o, e, hg, hr⟩ := hc hne; exact ⟨g, o, e, Nat.lt_of_lt_of_le hg hw.size, RepC.below hw hg _ _ hr⟩)
    (fun hne => by obtain ⟨g, o, e, hg, hr⟩ := hc' hne; exact ⟨g, o, e, Nat.lt_of_lt_of_le hg hw.size, RepC.below hw hg _ _ hr⟩))
  obtain ⟨K, d, rfl, _, _⟩ := hk.open
  obtain ⟨K', d', rfl, _, _⟩ := hk'.open
  have HS := Lib.hid (sameJ_of a b)
  obtain ⟨f, hf⟩ : ∃ f, f = sameLs a.l b.l := ⟨_, rfl⟩
  obtain ⟨g, hg⟩ : ∃ f, f = decide (a.k = b.k) := ⟨_, rfl⟩
  rw [← hf] at HEF
  rw [← hg] at HEK
  rw [← hf, ← hg] at HS
  obtain ⟨x0, hx0⟩ : ∃ x, x = a.kind := ⟨_, rfl⟩
  obtain ⟨x1, hx1⟩ : ∃ x, x = a.n := ⟨_, rfl⟩
  obtain ⟨x2, hx2⟩ : ∃ x, x = a.s := ⟨_, rfl⟩
  obtain ⟨x3, hx3⟩ : ∃ x, x = a.l.length := ⟨_, rfl⟩
  obtain ⟨x4, hx4⟩ : ∃ x, x = a.k.length := ⟨_, rfl⟩
  obtain ⟨y0, hy0⟩ : ∃ x, x = b.kind := ⟨_, rfl⟩
  obtain ⟨y1, hy1⟩ : ∃ x, x = b.n := ⟨_, rfl⟩
  obtain ⟨y2, hy2⟩ : ∃ x, x = b.s := ⟨_, rfl⟩
  obtain ⟨y3, hy3⟩ : ∃ x, x = b.l.length := ⟨_, rfl⟩
  obtain ⟨y4, hy4⟩ : ∃ x, x = b.k.length := ⟨_, rfl⟩
  rw [← hx3, ← hy3] at HEF
  rw [← hx4, ← hy4] at HEK
  rw [← hx0, ← hx1, ← hx2, ← hy0, ← hy1, ← hy2] at HS
  rw [← hx0, ← hx1, ← hx2, ← hx3, ← hx4, ← hy0, ← hy1, ← hy2, ← hy3, ← hy4]
  obtain ⟨r, hr⟩ : ∃ r, r = sameJ a b := ⟨_, rfl⟩
  rw [← hr] at HS ⊢
  obtain ⟨W2, hW2⟩ : ∃ x, x = (W.alloc (.cells #[.int .i64 x0, .int .i64 x1, .string x2, .slice A x3 c, .slice K x4 d] 27)).alloc (.cells #[.int .i64 y0, .int .i64 y1, .string y2, .slice A' y3 c', .slice K' y4 d'] 27) := ⟨_, rfl⟩
  have hB2 : Below W.heap.size W W2 := by rw [hW2]; exact ((Below.refl _ _).alloc (Nat.le_refl _) _).alloc (by simp) _
  have HB2 := Lib.hid hB2
  have HW2 := Lib.hid hW2
  have c3 : W2.cell? ⟨W.heap.size, 3, none⟩ = some (.slice A x3 c) := by rw [hW2]; simp
  have d3 : W2.cell? ⟨W.heap.size + 1, 3, none⟩ = some (.slice A' y3 c') := by rw [hW2]; simp
  clear ha hb hk hk' hl hl' hc hc' hf hg hx0 hx1 hx2 hx3 hx4 hy0 hy1 hy2 hy3 hy4 hr hB2 hW2 ih
  by_cases h0 : x0 = y0
  · subst h0
    have e0 : (x0 == x0) = true := beq_self_eq_true _
    by_cases h1 : x1 = y1
    · subst h1
      have e1 : (x1 == x1) = true := beq_self_eq_true _
      by_cases h2 : x2 = y2
      · subst h2
        have e2 : (x2.toList == x2.toList) = true := by simp
        cases g with
        | true =>
          have HR : Hid (r = f) := Lib.hid (by rw [HS.out]; simp)
          clear HS
          go_enter Tryz.func17, Tryz.ntmps17
          go_wp2_with (first
            | (go_at_call 52; rw [show ((W.alloc (.cells #[.int .i64 x0, .int .i64 x1, .string x2, .slice A x3 c, .slice K x4 d] 27)).alloc (.cells #[.int .i64 x0, .int .i64 x1, .string x2, .slice A' y3 c', .slice K' y4 d'] 27)) = W2 from HW2.out.symm]; (with_reducible refine (HEK.out _ HB2.out).mono ?_); rintro e w3 ⟨rfl, hb⟩; have HB3 := Lib.hid (HB2.out.trans (hb.mono HB2.out.size)); have c3' := (hb.cell (p := ⟨W.heap.size, 3, none⟩) (lt_of_cell c3)).trans c3; have d3' := (hb.cell (p := ⟨W.heap.size + 1, 3, none⟩) (lt_of_cell d3)).trans d3; clear hb c3 d3)
            | (go_at_call 53; (with_reducible refine (HEF.out _ HB3.out).mono ?_); rintro e w4 ⟨rfl, hb⟩; have HB4 := Lib.hid (HB3.out.trans (hb.mono HB3.out.size)); clear hb))
          go_ret
          rw [HR.out]
          exact ⟨rfl, HB4.out⟩
        | false =>
          have HR : Hid (r = false) := Lib.hid (by rw [HS.out]; simp)
          clear HS c3 d3
          go_enter Tryz.func17, Tryz.ntmps17
          go_wp2_with (go_at_call 52; rw [show ((W.alloc (.cells #[.int .i64 x0, .int .i64 x1, .string x2, .slice A x3 c, .slice K x4 d] 27)).alloc (.cells #[.int .i64 x0, .int .i64 x1, .string x2, .slice A' y3 c', .slice K' y4 d'] 27)) = W2 from HW2.out.symm]; (with_reducible refine (HEK.out _ HB2.out).mono ?_); rintro e w3 ⟨rfl, hb⟩; have HB3 := Lib.hid (HB2.out.trans (hb.mono HB2.out.size)); clear hb)
          go_ret
          rw [HR.out]
          exact ⟨rfl, HB3.out⟩
      · have e2 : (x2.toList == y2.toList) = false := beq_str_ne h2
        have HR : Hid (r = false) := Lib.hid (by rw [HS.out, decide_eq_false h2]; simp)
        clear HS h2 c3 d3
        go_enter Tryz.func17, Tryz.ntmps17
        go_wp2
        go_ret
        rw [HR.out, ← HW2.out]
        exact ⟨rfl, HB2.out⟩
    · have e1 : (x1 == y1) = false := by rw [beq_eq_false_iff_ne]; exact h1
      have HR : Hid (r = false) := Lib.hid (by rw [HS.out, decide_eq_false h1]; simp)
      clear HS c3 d3
      go_enter Tryz.func17, Tryz.ntmps17
      go_wp2
      go_ret
      rw [HR.out, ← HW2.out]
      exact ⟨rfl, HB2.out⟩
  · have e0 : (x0 == y0) = false := by rw [beq_eq_false_iff_ne]; exact h0
    have HR : Hid (r = false) := Lib.hid (by rw [HS.out, decide_eq_false h0]; simp)
    clear HS c3 d3
    go_enter Tryz.func17, Tryz.ntmps17
    go_wp2
    go_ret
    rw [HR.out, ← HW2.out]
    exact ⟨rfl, HB2.out⟩
theorem same_any (a : J) : SameAsk a := by
  induction a using J.ind with
  | h kind n s l k ih => exact same_of _ ih
end Go.Proofs.YtjfgmgkhinehaaaGreatDoor
