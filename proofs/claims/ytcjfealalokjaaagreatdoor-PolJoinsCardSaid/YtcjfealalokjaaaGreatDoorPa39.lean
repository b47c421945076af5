/- PolPl1, PolPl2, PolLawSame: merged. -/
import Derived.Test.YtcjfealalokjaaaGreatDoorPa20
import Derived.Test.YtcjfealalokjaaaGreatDoorPa38
set_option linter.all false
namespace Go.Proofs.YtcjfealalokjaaaGreatDoor
open Go Go.RowKit
/-- A row that is gathered. -/
structure GrE (w wr : World) (l : List Ex) (n : Nat) (v : Value) (xs : List Value) : Prop where
  own : wr.ownsRow w.heap.size 42 5 v n xs
  len : l.length = n
  flat : FlatE wr (fun b => w.heap.size ≤ b ∧ v.ownBlock ≠ some b) l xs
  below : Below w.heap.size w wr
theorem GrE.keep {w wr w' : World} {l : List Ex} {n : Nat} {v : Value} {xs : List Value} (h : GrE w wr l n v xs) (hb : Below wr.heap.size wr w') : GrE w w' l n v xs :=
  ⟨h.own.kept (row := none) (grownBy_of_below hb none) (Classical.em _), h.len, FlatE.keeps (Keeps.below hb (fun _ _ hl => hl)) (fun _ hb _ => hb) h.flat, h.below.trans (hb.mono h.below.size)⟩
theorem GrE.snoc {w w7 w8 : World} {l : List Ex} {n base : Nat} {v v' : Value} {xs : List Value} {y : Ex} {d0 d1 d2 d3 d4 : Value} (h : GrE w w7 l n v xs) (hy : RepE w7 (fun b => base ≤ b) y (.agg #[d0, d1, d2, d3, d4])) (hvb : ∀ x, v.ownBlock = some x → x < base) (hbase : w.heap.size ≤ base)
    (ho : w8.ownsRow w.heap.size 42 5 v' (n + 1) (xs ++ [d0, d1, d2, d3, d4])) (hg : w7.grownBy w8 v.ownBlock) (hob : v'.ownBlock = v.ownBlock ∨ v'.ownBlock = some w7.heap.size) : GrE w w8 (l ++ [y]) (n + 1) v' (xs ++ [d0, d1, d2, d3, d4]) := by
  have hge : ∀ x, v.ownBlock = some x → w.heap.size ≤ x := fun x e => (h.own.lt x e).1
  have hT : ∀ b, v.ownBlock ≠ some b → b < w7.heap.size → v'.ownBlock ≠ some b := fun b hb hl e => by
    rcases hob with h1 | h1
    · exact hb (h1 ▸ e)
    · rw [h1] at e; injection e with e; omega
  exact ⟨ho, by rw [List.length_append, h.len]; rfl, FlatE.snoc (RepE.keeps (Keeps.grown hg (fun b (hb : base ≤ b) e => by have := hvb b e.symm; omega)) (fun b (hb : base ≤ b) hl => ⟨by omega, hT b (fun e => by have := hvb b e; omega) hl⟩) _ _ hy) (FlatE.keeps (Keeps.grown (S := fun b => w.heap.size ≤ b ∧ v.ownBlock ≠ some b) hg (fun b hb e => hb.2 e.symm)) (fun b hb hl => ⟨hb.1, hT b hb.2 hl⟩) h.flat),
    h.below.grown hg h.below.size (fun k hk => hge k hk)⟩
theorem GrE.out {w wr : World} {l : List Ex} {n c : Nat} {A : Option Addr} {xs : List Value} (h : GrE w wr l n (.slice A n c) xs) : (n ≤ c ∧ c ≤ 9223372036854775807) ∧ (l ≠ [] → ∃ b o, A = some ⟨b, o, none⟩ ∧ w.heap.size ≤ b ∧ b < wr.heap.size ∧ RepEs wr (fun b => w.heap.size ≤ b) b o l) := by
  have ho := h.own
  rcases ho.2 with ⟨hv, h0⟩ | ⟨g, cap, cur, hv, hg, hcell, hle, hm, _⟩
  · injection hv with h1 h2 h3
    subst h1; subst h2; subst h3
    exact ⟨by omega, fun hne => absurd (List.eq_nil_of_length_eq_zero h.len) hne⟩
  · injection hv with h1 h2 h3
    subst h1; subst h3
    refine ⟨⟨hle, by unfold maxLen at hm; omega⟩, fun _ => ⟨g, 0, rfl, hg, (ho.lt g rfl).2, h.flat.cells (fun b hb _ => hb.1) fun j u hu => ?_⟩⟩
    have := ho.cells (g := g) rfl j u hu
    rwa [Addr.add_mid] at this
set_option maxRecDepth 100000 in
set_option maxHeartbeats 4000000 in
theorem eachE_any {fn : Nat} {B : Nat} {q : Ex → Ex} (eg : ∀ args w, (callFunc fn args).run Tryz.prog w = .ok (.enter fn args) w) {l : List Ex} {A : Option Addr} {c : Nat} {w : World} (hB : B ≤ w.heap.size) (hl : l.length ≤ 1000000)
    (hstep : ∀ x ∈ l, ∀ W v, Below w.heap.size w W → RepE W (fun k => k < B) x v → Calls Tryz.prog fn #[v] W fun e w' => ∃ v', e = .returned v' ∧ RepE w' (fun k => W.heap.size ≤ k) (q x) v' ∧ Below W.heap.size W w')
    (hr : l ≠ [] → ∃ g o, A = some ⟨g, o, none⟩ ∧ g < B ∧ g < w.heap.size ∧ RepEs w (fun k => k < B) g o l) :
    Calls Tryz.prog 79 #[.slice A l.length c, .func (.func fn) #[] #[]] w fun e w' => ∃ A' c', e = .returned (.slice A' l.length c') ∧ (l.length ≤ c' ∧ c' ≤ 9223372036854775807) ∧ (l ≠ [] → ∃ b o, A' = some ⟨b, o, none⟩ ∧ w.heap.size ≤ b ∧ b < w'.heap.size ∧ RepEs w' (fun b => w.heap.size ≤ b) b o (l.map q)) ∧ Below w.heap.size w w' := by
  have HST := Lib.hid hstep
  have HRE := Lib.hid hr
  have HBW := Lib.hid hB
  obtain ⟨i0, hi0, hz0, hz1, hz2⟩ := info_parts infoExpr
  obtain ⟨n, hn⟩ : ∃ n, n = l.length := ⟨_, rfl⟩
  have HN := Lib.hid hn
  rw [← hn] at hl ⊢
  have HI0 : Hid (GrE w w [] 0 (.slice none 0 0) []) := Lib.hid ⟨World.ownsRow_nil _ _ _ _, rfl, rfl, Below.refl _ _⟩
  clear hstep hr hn hB
  go_enter Tryz.func79, Tryz.ntmps79
  go_wp2
  go_loopw [5, 10] (fun u v wr => ∃ (i : Nat) (A' : Option Addr) (c' : Nat) (xs : List Value), i ≤ n ∧ u = .slice A' i c' ∧ v = .int .i64 (i : Int) ∧ GrE w wr ((l.take i).map q) i (.slice A' i c') xs) (fun _ v _ => n - (intOf v).toNat)
  case atStart => exact ⟨0, none, 0, [], Nat.zero_le _, rfl, rfl, by rw [List.take_zero]; exact HI0.out⟩
  case round =>
    obtain ⟨i, A', c', xs, hi, rfl, rfl, hG⟩ := hrel
    have HG := Lib.hid hG
    by_cases hlt : i < n
    · have hil : i < l.length := by rw [← HN.out]; exact hlt
      have hb := hG.below
      have hbB := hb.mono HBW.out
      obtain ⟨g, o, rfl, hg, _, hre⟩ := HRE.out (fun e => by rw [e] at hil; exact absurd hil (Nat.not_lt_zero _))
      obtain ⟨v, hrx, a0, a1, a2, a3, a4, rfl, k0, k1, k2, k3, k4⟩ := hre.at i hil
      obtain ⟨x0, x1, x2, Y, xn, xc, x4, e⟩ := hrx.form
      simp only [Value.agg.injEq, Array.mk.injEq, List.cons.injEq, and_true] at e
      obtain ⟨rfl, rfl, rfl, rfl, rfl⟩ := e
      have q0 := (hbB.cell (p := ⟨g, o + i * 5, none⟩) hg).trans k0
      have q1 := (hbB.cell (p := ⟨g, o + i * 5 + 1, none⟩) hg).trans k1
      have q2 := (hbB.cell (p := ⟨g, o + i * 5 + 2, none⟩) hg).trans k2
      have q3 := (hbB.cell (p := ⟨g, o + i * 5 + 3, none⟩) hg).trans k3
      have q4 := (hbB.cell (p := ⟨g, o + i * 5 + 4, none⟩) hg).trans k4
      obtain ⟨v1, hv1⟩ : ∃ W, W = wr.alloc (.cells #[.int .i64 x0, .string x1, .int .i64 x2, .slice Y xn xc, .int .i64 x4] 42) := ⟨_, rfl⟩
      have hbv : Below wr.heap.size wr v1 := by rw [hv1]; exact belowAlloc wr _
      have hbV : Below w.heap.size w v1 := hb.trans (hbv.mono hb.size)
      have HC := Lib.hid (HST.out l[i] (List.getElem_mem hil) v1 _ hbV (hrx.under HBW.out hbV))
      have HG1 := Lib.hid (hG.keep hbv)
      have HV1 := Lib.hid hv1
      have HS1 : Hid (wr.heap.size < v1.heap.size ∧ w.heap.size ≤ wr.heap.size) := Lib.hid ⟨by rw [hv1]; simp, hb.size⟩
      have HLT : Hid (∀ x, (Value.slice A' i c').ownBlock = some x → x < wr.heap.size) := Lib.hid fun x e => (hG.own.lt x e).2
      have hi1 : (i : Int) < (n : Int) := by omega
      have hi2 : (0 : Int) ≤ (i : Int) := by omega
      have HTK : Hid ((l.take (i + 1)).map q = (l.take i).map q ++ [q l[i]]) := Lib.hid (by rw [List.take_succ_eq_append_getElem hil, List.map_append]; rfl)
      clear hb hbB k0 k1 k2 k3 k4 hre hrx hv1 hbv hbV hG
      go_wp2_with fail
      rw [← HV1.out]
      (with_reducible refine HC.out.mono ?_)
      rintro e w6 ⟨v', rfl, hrep, hb6⟩
      obtain ⟨d0, d1, d2, DD, dn, dc, d4, rfl⟩ := hrep.form
      obtain ⟨w7, hw7⟩ : ∃ W, W = w6.alloc (.cells #[.int .i64 d0, .string d1, .int .i64 d2, .slice DD dn dc, .int .i64 d4] 42) := ⟨_, rfl⟩
      have hb7 : Below w6.heap.size w6 w7 := by rw [hw7]; exact belowAlloc w6 _
      have HG7 := Lib.hid ((HG1.out.keep hb6).keep hb7)
      have HO7 := Lib.hid HG7.out.own
      have HV7 : Hid (Blk w7 w6.heap.size 42 [.int .i64 d0, .string d1, .int .i64 d2, .slice DD dn dc, .int .i64 d4]) := Lib.hid (by rw [hw7]; exact blkNew w6 _ _)
      have HP7 := Lib.hid (RepE.keeps (T := fun b => v1.heap.size ≤ b) (Keeps.below hb7 (fun _ _ hl => hl)) (fun b hb _ => hb) _ _ hrep)
      have HS7 : Hid (w.heap.size ≤ w7.heap.size) := Lib.hid HG7.out.below.size
      clear hb6 hb7 hrep q0 q1 q2 q3 q4
      subst hw7
      go_wp2_with (at_builtin; (refine wpList_append_own_at _ rfl _ _ 40 rfl w.heap.size 42 i0 (.agg #[.int .i64 0, .string ByteArray.empty, .int .i64 0, .slice none 0 0, .int .i64 0]) 5 64 Tryz.underlying40 hi0 hz0 hz1 hz2 rfl (by decide) _ i xs rfl HO7.out ⟨w6.heap.size, 0, none⟩ 1 1 [.int .i64 d0, .string d1, .int .i64 d2, .slice DD dn dc, .int .i64 d4] rfl rfl ?c1 ?c2 ?c3 ?c4 ?c5 ?_))
      case c1 =>
        have hv := HV7.out
        intro i u hi
        match i, hi with
        | 0, hi => simp at hi; subst hi; exact hv.cell 0
        | 1, hi => simp at hi; subst hi; exact hv.cell 1
        | 2, hi => simp at hi; subst hi; exact hv.cell 2
        | 3, hi => simp at hi; subst hi; exact hv.cell 3
        | 4, hi => simp at hi; subst hi; exact hv.cell 4
      case c2 => intro u hu; simp at hu; rcases hu with rfl | rfl | rfl | rfl | rfl <;> rfl
      case c3 => unfold maxLen; omega
      case c4 => omega
      case c5 => exact HS7.out
      intro v' w8 hown8 hg8 hnil8 hob8
      obtain ⟨g8, cap8, rfl⟩ : ∃ g cap, v' = .slice (some ⟨g, 0, none⟩) (i + 1) cap := by
        rcases hown8.2 with ⟨_, h⟩ | ⟨g, cap, cur, h, _⟩
        · cases h
        · exact ⟨g, cap, h⟩
      have HG8 := Lib.hid (HG7.out.snoc HP7.out (fun x e => by have := HLT.out x e; have := HS1.out; omega) (by have := HS1.out; omega) hown8 hg8 (by simpa using hob8))
      rw [← HTK.out] at HG8
      clear hown8 hg8 hnil8 hob8
      go_wp2_with fail
      go_roundw
      case rel => exact ⟨i + 1, _, cap8, _, hlt, rfl, by go_num, HG8.out⟩
      case measure => simp [intOf]; omega
    · obtain rfl : i = n := by omega
      have hi1 : ¬ (i : Int) < (i : Int) := by omega
      have hall : l.take i = l := List.take_of_length_le (by rw [HN.out]; exact Nat.le_refl _)
      have HR : Hid ((i ≤ c' ∧ c' ≤ 9223372036854775807) ∧ (l ≠ [] → ∃ b o, A' = some ⟨b, o, none⟩ ∧ w.heap.size ≤ b ∧ b < wr.heap.size ∧ RepEs wr (fun b => w.heap.size ≤ b) b o (l.map q))) := Lib.hid (by have := hG.out; rw [hall] at this; exact ⟨this.1, fun hne => this.2 (fun e => hne (List.map_eq_nil_iff.1 e))⟩)
      have HB := Lib.hid hG.below
      clear hG hall
      go_wp2
      go_ret
      exact ⟨A', c', rfl, HR.out.1, HR.out.2, HB.out⟩
/-- A row that is gathered. -/
structure GrR (w wr : World) (l : List RuleM) (n : Nat) (v : Value) (xs : List Value) : Prop where
  own : wr.ownsRow w.heap.size 45 4 v n xs
  len : l.length = n
  flat : FlatR wr (fun b => w.heap.size ≤ b ∧ v.ownBlock ≠ some b) l xs
  below : Below w.heap.size w wr
theorem GrR.keep {w wr w' : World} {l : List RuleM} {n : Nat} {v : Value} {xs : List Value} (h : GrR w wr l n v xs) (hb : Below wr.heap.size wr w') : GrR w w' l n v xs :=
  ⟨h.own.kept (row := none) (grownBy_of_below hb none) (Classical.em _), h.len, FlatR.keeps (Keeps.below hb (fun _ _ hl => hl)) (fun _ hb _ => hb) h.flat, h.below.trans (hb.mono h.below.size)⟩
theorem GrR.snoc {w w7 w8 : World} {l : List RuleM} {n base : Nat} {v v' : Value} {xs : List Value} {y : RuleM} {d0 d1 d2 d3 : Value} (h : GrR w w7 l n v xs) (hy : RepR w7 (fun b => base ≤ b) y (.agg #[d0, d1, d2, d3])) (hvb : ∀ x, v.ownBlock = some x → x < base) (hbase : w.heap.size ≤ base)
    (ho : w8.ownsRow w.heap.size 45 4 v' (n + 1) (xs ++ [d0, d1, d2, d3])) (hg : w7.grownBy w8 v.ownBlock) (hob : v'.ownBlock = v.ownBlock ∨ v'.ownBlock = some w7.heap.size) : GrR w w8 (l ++ [y]) (n + 1) v' (xs ++ [d0, d1, d2, d3]) := by
  have hge : ∀ x, v.ownBlock = some x → w.heap.size ≤ x := fun x e => (h.own.lt x e).1
  have hT : ∀ b, v.ownBlock ≠ some b → b < w7.heap.size → v'.ownBlock ≠ some b := fun b hb hl e => by
    rcases hob with h1 | h1
    · exact hb (h1 ▸ e)
    · rw [h1] at e; injection e with e; omega
  exact ⟨ho, by rw [List.length_append, h.len]; rfl, FlatR.snoc (RepR.keeps (Keeps.grown hg (fun b (hb : base ≤ b) e => by have := hvb b e.symm; omega)) (fun b (hb : base ≤ b) hl => ⟨by omega, hT b (fun e => by have := hvb b e; omega) hl⟩) hy) (FlatR.keeps (Keeps.grown (S := fun b => w.heap.size ≤ b ∧ v.ownBlock ≠ some b) hg (fun b hb e => hb.2 e.symm)) (fun b hb hl => ⟨hb.1, hT b hb.2 hl⟩) h.flat),
    h.below.grown hg h.below.size (fun k hk => hge k hk)⟩
theorem GrR.out {w wr : World} {l : List RuleM} {n c : Nat} {A : Option Addr} {xs : List Value} (h : GrR w wr l n (.slice A n c) xs) : (n ≤ c ∧ c ≤ 9223372036854775807) ∧ (l ≠ [] → ∃ b o, A = some ⟨b, o, none⟩ ∧ w.heap.size ≤ b ∧ b < wr.heap.size ∧ RepRs wr (fun b => w.heap.size ≤ b) b o l) := by
  have ho := h.own
  rcases ho.2 with ⟨hv, h0⟩ | ⟨g, cap, cur, hv, hg, hcell, hle, hm, _⟩
  · injection hv with h1 h2 h3
    subst h1; subst h2; subst h3
    exact ⟨by omega, fun hne => absurd (List.eq_nil_of_length_eq_zero h.len) hne⟩
  · injection hv with h1 h2 h3
    subst h1; subst h3
    refine ⟨⟨hle, by unfold maxLen at hm; omega⟩, fun _ => ⟨g, 0, rfl, hg, (ho.lt g rfl).2, h.flat.cells (fun b hb _ => hb.1) fun j u hu => ?_⟩⟩
    have := ho.cells (g := g) rfl j u hu
    rwa [Addr.add_mid] at this
set_option maxRecDepth 100000 in
set_option maxHeartbeats 4000000 in
theorem eachR_any {fn : Nat} {B : Nat} {q : RuleM → RuleM} (eg : ∀ args w, (callFunc fn args).run Tryz.prog w = .ok (.enter fn args) w) {l : List RuleM} {A : Option Addr} {c : Nat} {w : World} (hB : B ≤ w.heap.size) (hl : l.length ≤ 1000000)
    (hstep : ∀ x ∈ l, ∀ W v, Below w.heap.size w W → RepR W (fun k => k < B) x v → Calls Tryz.prog fn #[v] W fun e w' => ∃ v', e = .returned v' ∧ RepR w' (fun k => W.heap.size ≤ k) (q x) v' ∧ Below W.heap.size W w')
    (hr : l ≠ [] → ∃ g o, A = some ⟨g, o, none⟩ ∧ g < B ∧ g < w.heap.size ∧ RepRs w (fun k => k < B) g o l) :
    Calls Tryz.prog 42 #[.slice A l.length c, .func (.func fn) #[] #[]] w fun e w' => ∃ A' c', e = .returned (.slice A' l.length c') ∧ (l.length ≤ c' ∧ c' ≤ 9223372036854775807) ∧ (l ≠ [] → ∃ b o, A' = some ⟨b, o, none⟩ ∧ w.heap.size ≤ b ∧ b < w'.heap.size ∧ RepRs w' (fun b => w.heap.size ≤ b) b o (l.map q)) ∧ Below w.heap.size w w' := by
  have HST := Lib.hid hstep
  have HRE := Lib.hid hr
  have HBW := Lib.hid hB
  obtain ⟨i0, hi0, hz0, hz1, hz2⟩ := info_parts infoRule
  obtain ⟨n, hn⟩ : ∃ n, n = l.length := ⟨_, rfl⟩
  have HN := Lib.hid hn
  rw [← hn] at hl ⊢
  have HI0 : Hid (GrR w w [] 0 (.slice none 0 0) []) := Lib.hid ⟨World.ownsRow_nil _ _ _ _, rfl, rfl, Below.refl _ _⟩
  clear hstep hr hn hB
  go_enter Tryz.func42, Tryz.ntmps42
  go_wp2
  go_loopw [5, 10] (fun u v wr => ∃ (i : Nat) (A' : Option Addr) (c' : Nat) (xs : List Value), i ≤ n ∧ u = .slice A' i c' ∧ v = .int .i64 (i : Int) ∧ GrR w wr ((l.take i).map q) i (.slice A' i c') xs) (fun _ v _ => n - (intOf v).toNat)
  case atStart => exact ⟨0, none, 0, [], Nat.zero_le _, rfl, rfl, by rw [List.take_zero]; exact HI0.out⟩
  case round =>
    obtain ⟨i, A', c', xs, hi, rfl, rfl, hG⟩ := hrel
    have HG := Lib.hid hG
    by_cases hlt : i < n
    · have hil : i < l.length := by rw [← HN.out]; exact hlt
      have hb := hG.below
      have hbB := hb.mono HBW.out
      obtain ⟨g, o, rfl, hg, _, hre⟩ := HRE.out (fun e => by rw [e] at hil; exact absurd hil (Nat.not_lt_zero _))
      obtain ⟨a0, a1, a2, a3, hrx, k0, k1, k2, k3⟩ := hre i hil
      have hrx0 := hrx
      obtain ⟨vs, vw, e, ⟨SA, cs, rfl, _⟩, ⟨AW, cw, rfl, _⟩⟩ := hrx0
      simp only [Value.agg.injEq, Array.mk.injEq, List.cons.injEq, and_true] at e
      obtain ⟨rfl, rfl, rfl, rfl⟩ := e
      obtain ⟨DN, hDN⟩ : ∃ d, d = l[i].deny := ⟨_, rfl⟩
      obtain ⟨PS, hPS⟩ : ∃ d, d = l[i].pos := ⟨_, rfl⟩
      obtain ⟨LS, hLS⟩ : ∃ d, d = l[i].scopes.length := ⟨_, rfl⟩
      obtain ⟨LW, hLW⟩ : ∃ d, d = l[i].whens.length := ⟨_, rfl⟩
      rw [← hDN, ← hPS, ← hLS, ← hLW] at hrx
      rw [← hDN] at k0
      rw [← hLS] at k1
      rw [← hLW] at k2
      rw [← hPS] at k3
      clear hDN hPS hLS hLW
      have q0 := (hbB.cell (p := ⟨g, o + i * 4, none⟩) hg).trans k0
      have q1 := (hbB.cell (p := ⟨g, o + i * 4 + 1, none⟩) hg).trans k1
      have q2 := (hbB.cell (p := ⟨g, o + i * 4 + 2, none⟩) hg).trans k2
      have q3 := (hbB.cell (p := ⟨g, o + i * 4 + 3, none⟩) hg).trans k3
      obtain ⟨v1, hv1⟩ : ∃ W, W = wr.alloc (.cells #[.bool DN, .slice SA LS cs, .slice AW LW cw, .int .i64 PS] 45) := ⟨_, rfl⟩
      have hbv : Below wr.heap.size wr v1 := by rw [hv1]; exact belowAlloc wr _
      have hbV : Below w.heap.size w v1 := hb.trans (hbv.mono hb.size)
      have HC := Lib.hid (HST.out l[i] (List.getElem_mem hil) v1 _ hbV (hrx.under HBW.out hbV))
      have HG1 := Lib.hid (hG.keep hbv)
      have HV1 := Lib.hid hv1
      have HS1 : Hid (wr.heap.size < v1.heap.size ∧ w.heap.size ≤ wr.heap.size) := Lib.hid ⟨by rw [hv1]; simp, hb.size⟩
      have HLT : Hid (∀ x, (Value.slice A' i c').ownBlock = some x → x < wr.heap.size) := Lib.hid fun x e => (hG.own.lt x e).2
      have hi1 : (i : Int) < (n : Int) := by omega
      have hi2 : (0 : Int) ≤ (i : Int) := by omega
      have HTK : Hid ((l.take (i + 1)).map q = (l.take i).map q ++ [q l[i]]) := Lib.hid (by rw [List.take_succ_eq_append_getElem hil, List.map_append]; rfl)
      clear hb hbB k0 k1 k2 k3 hre hrx hv1 hbv hbV hG
      go_wp2_with fail
      rw [← HV1.out]
      (with_reducible refine HC.out.mono ?_)
      rintro e w6 ⟨v', rfl, hrep, hb6⟩
      obtain ⟨vs', vw', rfl, hs', hw'⟩ := hrep
      have hrep : RepR w6 (fun b => v1.heap.size ≤ b) (q l[i]) _ := ⟨vs', vw', rfl, hs', hw'⟩
      obtain ⟨S1, c1, rfl, _⟩ := hs'
      obtain ⟨W1, d1, rfl, _⟩ := hw'
      obtain ⟨ND, hND⟩ : ∃ d, d = (q l[i]).deny := ⟨_, rfl⟩
      obtain ⟨NP, hNP⟩ : ∃ d, d = (q l[i]).pos := ⟨_, rfl⟩
      obtain ⟨NS, hNS⟩ : ∃ d, d = (q l[i]).scopes.length := ⟨_, rfl⟩
      obtain ⟨NW, hNW⟩ : ∃ d, d = (q l[i]).whens.length := ⟨_, rfl⟩
      rw [← hND, ← hNP, ← hNS, ← hNW] at hrep ⊢
      clear hND hNP hNS hNW
      obtain ⟨w7, hw7⟩ : ∃ W, W = w6.alloc (.cells #[.bool ND, .slice S1 NS c1, .slice W1 NW d1, .int .i64 NP] 45) := ⟨_, rfl⟩
      have hb7 : Below w6.heap.size w6 w7 := by rw [hw7]; exact belowAlloc w6 _
      have HG7 := Lib.hid ((HG1.out.keep hb6).keep hb7)
      have HO7 := Lib.hid HG7.out.own
      have HV7 : Hid (Blk w7 w6.heap.size 45 [.bool ND, .slice S1 NS c1, .slice W1 NW d1, .int .i64 NP]) := Lib.hid (by rw [hw7]; exact blkNew w6 _ _)
      have HP7 := Lib.hid (RepR.keeps (T := fun b => v1.heap.size ≤ b) (Keeps.below hb7 (fun _ _ hl => hl)) (fun b hb _ => hb) hrep)
      have HS7 : Hid (w.heap.size ≤ w7.heap.size) := Lib.hid HG7.out.below.size
      clear hb6 hb7 hrep q0 q1 q2 q3
      subst hw7
      go_wp2_with (at_builtin; (refine wpList_append_own_at _ rfl _ _ 23 rfl w.heap.size 45 i0 (.agg #[.bool false, .slice none 0 0, .slice none 0 0, .int .i64 0]) 4 64 Tryz.underlying23 hi0 hz0 hz1 hz2 rfl (by decide) _ i xs rfl HO7.out ⟨w6.heap.size, 0, none⟩ 1 1 [.bool ND, .slice S1 NS c1, .slice W1 NW d1, .int .i64 NP] rfl rfl ?c1 ?c2 ?c3 ?c4 ?c5 ?_))
      case c1 =>
        have hv := HV7.out
        intro i u hi
        match i, hi with
        | 0, hi => simp at hi; subst hi; exact hv.cell 0
        | 1, hi => simp at hi; subst hi; exact hv.cell 1
        | 2, hi => simp at hi; subst hi; exact hv.cell 2
        | 3, hi => simp at hi; subst hi; exact hv.cell 3
      case c2 => intro u hu; simp at hu; rcases hu with rfl | rfl | rfl | rfl <;> rfl
      case c3 => unfold maxLen; omega
      case c4 => omega
      case c5 => exact HS7.out
      intro v' w8 hown8 hg8 hnil8 hob8
      obtain ⟨g8, cap8, rfl⟩ : ∃ g cap, v' = .slice (some ⟨g, 0, none⟩) (i + 1) cap := by
        rcases hown8.2 with ⟨_, h⟩ | ⟨g, cap, cur, h, _⟩
        · cases h
        · exact ⟨g, cap, h⟩
      have HG8 := Lib.hid (HG7.out.snoc HP7.out (fun x e => by have := HLT.out x e; have := HS1.out; omega) (by have := HS1.out; omega) hown8 hg8 (by simpa using hob8))
      rw [← HTK.out] at HG8
      clear hown8 hg8 hnil8 hob8
      go_wp2_with fail
      go_roundw
      case rel => exact ⟨i + 1, _, cap8, _, hlt, rfl, by go_num, HG8.out⟩
      case measure => simp [intOf]; omega
    · obtain rfl : i = n := by omega
      have hi1 : ¬ (i : Int) < (i : Int) := by omega
      have hall : l.take i = l := List.take_of_length_le (by rw [HN.out]; exact Nat.le_refl _)
      have HR : Hid ((i ≤ c' ∧ c' ≤ 9223372036854775807) ∧ (l ≠ [] → ∃ b o, A' = some ⟨b, o, none⟩ ∧ w.heap.size ≤ b ∧ b < wr.heap.size ∧ RepRs wr (fun b => w.heap.size ≤ b) b o (l.map q))) := Lib.hid (by have := hG.out; rw [hall] at this; exact ⟨this.1, fun hne => this.2 (fun e => hne (List.map_eq_nil_iff.1 e))⟩)
      have HB := Lib.hid hG.below
      clear hG hall
      go_wp2
      go_ret
      exact ⟨A', c', rfl, HR.out.1, HR.out.2, HB.out⟩
/-- A row of texts that is gathered. -/
structure GrS (w wr : World) (l : List ByteArray) (n : Nat) (v : Value) : Prop where
  own : wr.ownsRow w.heap.size 9 1 v n (l.map Value.string)
  len : l.length = n
  below : Below w.heap.size w wr
theorem eg_clone : ∀ args w, (callFunc 78 args).run Tryz.prog w = .ok (.enter 78 args) w := enters_of Tryz.func78 (by kernel_rfl) rfl
set_option maxRecDepth 100000 in
set_option maxHeartbeats 4000000 in
theorem eachS_any {B : Nat} {l : List ByteArray} {v : Value} {w : World} (hB : B ≤ w.heap.size) (hl : l.length ≤ 1000000) (hz : ∀ t ∈ l, t.size ≤ 1000000000) (hv : RepSt w (fun k => k < B) l v) :
    Calls Tryz.prog 77 #[v, .func (.func 78) #[] #[]] w fun e w' => ∃ v', e = .returned v' ∧ RepSt w' (fun k => w.heap.size ≤ k) l v' ∧ Below w.heap.size w w' := by
  obtain ⟨A, c, rfl, _, hr⟩ := hv
  have eg := eg_clone
  have HRE := Lib.hid hr
  have HZ := Lib.hid hz
  have HBW := Lib.hid hB
  obtain ⟨i0, hi0, hz0, hz1, hz2⟩ := info_parts infoStrP
  obtain ⟨n, hn⟩ : ∃ n, n = l.length := ⟨_, rfl⟩
  have HN := Lib.hid hn
  rw [← hn] at hl ⊢
  have HI0 : Hid (GrS w w [] 0 (.slice none 0 0)) := Lib.hid ⟨World.ownsRow_nil _ _ _ _, rfl, Below.refl _ _⟩
  clear hr hn hB hz
  go_enter Tryz.func77, Tryz.ntmps77
  go_wp2
  go_loopw [5, 10] (fun u v wr => ∃ (i : Nat) (A' : Option Addr) (c' : Nat), i ≤ n ∧ u = .slice A' i c' ∧ v = .int .i64 (i : Int) ∧ GrS w wr (l.take i) i (.slice A' i c')) (fun _ v _ => n - (intOf v).toNat)
  case atStart => exact ⟨0, none, 0, Nat.zero_le _, rfl, rfl, by rw [List.take_zero]; exact HI0.out⟩
  case round =>
    obtain ⟨i, A', c', hi, rfl, rfl, hG⟩ := hrel
    have HG := Lib.hid hG
    by_cases hlt : i < n
    · have hil : i < l.length := by rw [← HN.out]; exact hlt
      have hb := hG.below
      obtain ⟨g, o, rfl, hg, hgl, hre⟩ := HRE.out (fun e => by rw [e] at hil; exact absurd hil (Nat.not_lt_zero _))
      obtain ⟨t, ht, _, k0⟩ := hre i hil
      rw [List.getElem?_eq_getElem hil] at ht
      injection ht with ht
      have q0 := (hb.cell (p := ⟨g, o + i, none⟩) hgl).trans k0
      have HC := Lib.hid (cloneL_any t wr (by have := HZ.out l[i] (List.getElem_mem hil); rw [ht] at this; omega))
      have HS1 : Hid (w.heap.size ≤ wr.heap.size) := Lib.hid hb.size
      have hi1 : (i : Int) < (n : Int) := by omega
      have hi2 : (0 : Int) ≤ (i : Int) := by omega
      have HTK : Hid (l.take (i + 1) = l.take i ++ [t]) := Lib.hid (by rw [List.take_succ_eq_append_getElem hil, ht])
      clear hb k0 hre hG ht
      go_wp2_with fail
      (with_reducible refine HC.out.mono ?_)
      rintro e w6 ⟨rfl, hb6⟩
      obtain ⟨w7, hw7⟩ : ∃ W, W = w6.alloc (.cells #[.string t] 9) := ⟨_, rfl⟩
      have hb7 : Below w6.heap.size w6 w7 := by rw [hw7]; exact belowAlloc w6 _
      have HB7 := Lib.hid (HG.out.below.trans ((hb6.trans (hb7.mono hb6.size)).mono HS1.out))
      have HO7 := Lib.hid (HG.out.own.kept (row := none) (grownBy_of_below (hb6.trans (hb7.mono hb6.size)) none) (Classical.em _))
      have HV7 : Hid (Blk w7 w6.heap.size 9 [.string t]) := Lib.hid (by rw [hw7]; exact blkNew w6 _ _)
      have HS7 : Hid (w.heap.size ≤ w7.heap.size) := Lib.hid HB7.out.size
      clear hb6 hb7 q0
      subst hw7
      go_wp2_with (at_builtin; (refine wpList_append_own_at _ rfl _ _ 43 rfl w.heap.size 9 i0 (.string ByteArray.empty) 1 16 Tryz.underlying43 hi0 hz0 hz1 hz2 rfl (by decide) _ i _ rfl HO7.out ⟨w6.heap.size, 0, none⟩ 1 1 [.string t] rfl rfl ?c1 ?c2 ?c3 ?c4 ?c5 ?_))
      case c1 =>
        have hv := HV7.out
        intro i u hi
        match i, hi with
        | 0, hi => simp at hi; subst hi; exact hv.cell 0
      case c2 => intro u hu; simp at hu; subst hu; rfl
      case c3 => unfold maxLen; omega
      case c4 => omega
      case c5 => exact HS7.out
      intro v' w8 hown8 hg8 hnil8 hob8
      obtain ⟨g8, cap8, rfl⟩ : ∃ g cap, v' = .slice (some ⟨g, 0, none⟩) (i + 1) cap := by
        rcases hown8.2 with ⟨_, h⟩ | ⟨g, cap, cur, h, _⟩
        · cases h
        · exact ⟨g, cap, h⟩
      have HG8 : Hid (GrS w w8 (l.take (i + 1)) (i + 1) (.slice (some ⟨g8, 0, none⟩) (i + 1) cap8)) := Lib.hid (by
        rw [HTK.out]
        exact ⟨by rw [List.map_append, List.map_take]; exact hown8, by rw [List.length_append, HG.out.len]; rfl, HB7.out.grown hg8 HS7.out (fun k hk => (HO7.out.lt k hk).1)⟩)
      clear hown8 hg8 hnil8 hob8
      go_wp2_with fail
      go_roundw
      case rel => exact ⟨i + 1, _, cap8, hlt, rfl, by go_num, HG8.out⟩
      case measure => simp [intOf]; omega
    · obtain rfl : i = n := by omega
      have hi1 : ¬ (i : Int) < (i : Int) := by omega
      have hall : l.take i = l := List.take_of_length_le (by rw [HN.out]; exact Nat.le_refl _)
      have HR : Hid (RepSt wr (fun b => w.heap.size ≤ b) l (.slice A' i c')) := Lib.hid (by
        have ho := hG.own
        have hln := hG.len
        rw [hall] at ho hln
        have := own_texts (k := l) (T := fun b => w.heap.size ≤ b) (by rw [hln]; exact ho) (fun _ h => h) (by omega) (fun t ht => by have := HZ.out t ht; omega)
        exact this)
      have HB := Lib.hid hG.below
      clear hG hall
      go_wp2
      go_ret
      exact ⟨_, rfl, HR.out, HB.out⟩
end Go.Proofs.YtcjfealalokjaaaGreatDoor
namespace Go.Proofs.YtcjfealalokjaaaGreatDoor
open Go Go.RowKit
/-- What is asked of plainExpr. -/
def PlainAsk (e : Ex) : Prop := ∀ (B : Nat) (v : Value) (W : World), B ≤ W.heap.size → RepE W (fun k => k < B) e v → Calls Tryz.prog 80 #[v] W fun e' w' => ∃ v', e' = .returned v' ∧ RepE w' (fun k => W.heap.size ≤ k) (plainE e) v' ∧ Below W.heap.size W w'
theorem eg_plainExpr : ∀ args w, (callFunc 80 args).run Tryz.prog w = .ok (.enter 80 args) w := enters_of Tryz.func80 (by kernel_rfl) rfl
theorem eg_plainRule : ∀ args w, (callFunc 43 args).run Tryz.prog w = .ok (.enter 43 args) w := enters_of Tryz.func43 (by kernel_rfl) rfl
theorem MildE.parts {e : Ex} (h : MildE e) : e.text.size ≤ 1000000000 ∧ e.parts.length ≤ 1000000 ∧ ∀ x ∈ e.parts, MildE x := by
  cases h with
  | mk h1 h2 h3 => exact ⟨h1, h2, h3⟩
set_option maxRecDepth 100000 in
set_option maxHeartbeats 4000000 in
theorem plainExpr_of {e : Ex} (hm : MildE e) (ih : ∀ x ∈ e.parts, PlainAsk x) : PlainAsk e := fun B v W hB hv => by
  obtain ⟨m1, m2, m3⟩ := hm.parts
  obtain ⟨A, c, rfl, hs, hl, hc⟩ := hv.open
  have HPE := Lib.hid (plainE_of e)
  have HCL := Lib.hid (fun w => cloneL_any e.text w (by omega))
  have HEA := Lib.hid (fun (w : World) (hw : Below W.heap.size W w) => eachE_any (B := B) (q := plainE) eg_plainExpr (l := e.parts) (A := A) (c := c) (Nat.le_trans hB hw.size) m2 (fun x hx W' v' hW' hr' => ih x hx B v' W' (Nat.le_trans (Nat.le_trans hB hw.size) hW'.size) hr')
    (fun hne => by obtain ⟨g, o, e1, hg, hgl, hr⟩ := hc hne; exact ⟨g, o, e1, hg, Nat.lt_of_lt_of_le hgl hw.size, hr.under hB hg hw⟩))
  obtain ⟨x0, hx0⟩ : ∃ x, x = e.op := ⟨_, rfl⟩
  obtain ⟨x1, hx1⟩ : ∃ x, x = e.text := ⟨_, rfl⟩
  obtain ⟨x2, hx2⟩ : ∃ x, x = e.num := ⟨_, rfl⟩
  obtain ⟨x3, hx3⟩ : ∃ x, x = e.parts.length := ⟨_, rfl⟩
  obtain ⟨x4, hx4⟩ : ∃ x, x = e.pos := ⟨_, rfl⟩
  rw [← hx0, ← hx1, ← hx2] at HPE
  rw [← hx1] at HCL hs
  rw [← hx3] at HEA
  rw [← hx0, ← hx1, ← hx2, ← hx3, ← hx4]
  have HLN := Lib.hid hx3
  have HSX := Lib.hid hs
  obtain ⟨w1, hw1⟩ : ∃ V, V = W.alloc (.cells #[.int .i64 x0, .string x1, .int .i64 x2, .slice A x3 c, .int .i64 x4] 42) := ⟨_, rfl⟩
  obtain ⟨w2, hw2⟩ : ∃ V, V = w1.alloc (.cells #[.int .i64 0, .string ⟨#[]⟩, .int .i64 0, .slice none 0 0, .int .i64 0] 42) := ⟨_, rfl⟩
  have hs1 : w1.heap.size = W.heap.size + 1 := by rw [hw1]; simp
  have hb1 : Below W.heap.size W w1 := by rw [hw1]; exact belowAlloc W _
  have hb12 : Below w1.heap.size w1 w2 := by rw [hw2]; exact belowAlloc w1 _
  have hE1 : Blk w1 W.heap.size 42 [.int .i64 x0, .string x1, .int .i64 x2, .slice A x3 c, .int .i64 x4] := by rw [hw1]; exact blkNew W _ _
  have hE2 : Blk w2 W.heap.size 42 [.int .i64 x0, .string x1, .int .i64 x2, .slice A x3 c, .int .i64 x4] := hE1.below hb12 hE1.lt
  have hZ2 : Blk w2 w1.heap.size 42 [.int .i64 0, .string ⟨#[]⟩, .int .i64 0, .slice none 0 0, .int .i64 0] := by rw [hw2]; exact blkNew w1 _ _
  obtain ⟨g2, hg2⟩ : ∃ g, g = w1.heap.size := ⟨_, rfl⟩
  rw [← hg2] at hZ2
  have HSZ : Hid (g2 = W.heap.size + 1 ∧ g2 < w2.heap.size) := Lib.hid ⟨by omega, hZ2.lt⟩
  have HB2 := Lib.hid (hb1.trans (hb12.mono hb1.size))
  have HB2D : Hid (Below W.heap.size W w2.drew) := Lib.hid HB2.out.drew
  have HSX2 : Hid (∀ X, Below w2.heap.size w2 X → Blk X W.heap.size 42 [.int .i64 x0, .string x1, .int .i64 x2, .slice A x3 c, .int .i64 x4]) := Lib.hid fun X hX => hE2.below hX hE2.lt
  have HZX2 : Hid (∀ X, Below w2.heap.size w2 X → Blk X g2 42 [.int .i64 0, .string ⟨#[]⟩, .int .i64 0, .slice none 0 0, .int .i64 0]) := Lib.hid fun X hX => hZ2.below hX hZ2.lt
  have HW := Lib.hid (show (W.alloc (.cells #[.int .i64 x0, .string x1, .int .i64 x2, .slice A x3 c, .int .i64 x4] 42)).alloc (.cells #[.int .i64 0, .string ⟨#[]⟩, .int .i64 0, .slice none 0 0, .int .i64 0] 42) = w2 by rw [hw2, hw1])
  have HG2 := Lib.hid (show W.heap.size + 1 = g2 by omega)
  clear hm ih m1 m2 m3 hB hv hs hl hc hx0 hx1 hx2 hx3 hx4 hw1 hw2 hs1 hb1 hb12 hE1 hE2 hZ2 hg2
  go_enter Tryz.func80, Tryz.ntmps80
  go_wp2
  rw [HW.out, HG2.out]
  refine wp_region_held_drew (S := fun X => X.cell? ⟨W.heap.size, 0, none⟩ = some (.int .i64 x0) ∧ X.cell? ⟨W.heap.size, 1, none⟩ = some (.string x1) ∧ X.cell? ⟨W.heap.size, 2, none⟩ = some (.int .i64 x2) ∧ X.cell? ⟨W.heap.size, 3, none⟩ = some (.slice A x3 c) ∧ X.cell? ⟨W.heap.size, 4, none⟩ = some (.int .i64 x4)) (by kernel_rfl) (cells5 (HSX2.out _ (Below.refl _ w2).drew)) (fun hHeld => ?_)
  refine rgT 0 ?_
  try simp only [rgS]
  refine rgT 1 ?_
  try simp only [rgS]
  refine rgT 2 ?_
  try simp only [rgS]
  refine rgT 3 ?_
  try simp only [rgS]
  refine rgT 5 ?_
  try simp only [rgS]
  refine rgT 6 ?_
  try simp only [rgS]
  refine rgT 7 ?_
  try simp only [rgS]
  refine rgT 8 ?_
  try simp only [rgS]
  refine rgO 4 (fun K hK => ?_)
  go_simp
  (with_reducible refine (HCL.out _).mono ?_)
  rintro e w3 ⟨rfl, hb3⟩
  have hbd3 : Below w2.heap.size w2 w3 := (Below.refl _ w2).drew.trans hb3
  have HB3 := Lib.hid (HB2D.out.trans (hb3.mono HB2D.out.size))
  refine hK.out _ _ (cells5 (HSX2.out _ hbd3)) (fun hH3 => ?_)
  have HBD3 := Lib.hid hbd3
  clear hK K hHeld hb3 hbd3
  try simp only [rgS]
  refine rgO 9 (fun K hK => ?_)
  go_simp
  (with_reducible refine (HEA.out _ HB3.out).mono ?_)
  rintro e w4 ⟨A', c', rfl, hcc, hrr, hb4⟩
  have hbd4 : Below w2.heap.size w2 w4 := HBD3.out.trans (hb4.mono HBD3.out.size)
  have HB4 := Lib.hid (HB3.out.trans (hb4.mono HB3.out.size))
  refine hK.out _ _ (cells5 (HSX2.out _ hbd4)) (fun hH4 => ?_)
  have HBD4 := Lib.hid hbd4
  have HRR := Lib.hid (And.intro hcc hrr)
  have HSZ4 : Hid (g2 < w3.heap.size) := Lib.hid (by have := HSZ.out; have := HBD3.out.size; omega)
  clear hK K hH3 hb4 hbd4 hcc hrr
  try simp only [rgS]
  refine rgT 10 ?_
  try simp only [rgS]
  refine rgO 11 (fun K hK => ?_)
  refine wp_store_row 42 (.tmp 2) (.tmp 13) rfl g2 0 [.int .i64 x0, .string x1, .int .i64 x2, .slice A' x3 c', .int .i64 0] rfl rfl _ _ (HZX2.out _ HBD4.out) (by simp) sizeExpr (by intro v hv; simp at hv; rcases hv with rfl | rfl | rfl | rfl | rfl <;> rfl) ?_
  intro w5 hb5 hg5
  rw [splice_all _ _ (by simp)] at hb5
  have hH5 := HSX2.out _ HBD4.out
  refine hK.out _ _ (cells5 (hH5.grown hg5 (by intro e; injection e with e; have := HSZ.out; omega))) (fun hH5' => ?_)
  have HF : Hid (RepE w5 (fun k => W.heap.size ≤ k) (plainE e) (.agg #[.int .i64 x0, .string x1, .int .i64 x2, .slice A' x3 c', .int .i64 0])) := Lib.hid (by
    rw [HPE.out, RepE]
    refine ⟨A', c', by rw [List.length_map, ← HLN.out], HSX.out, by rw [List.length_map, ← HLN.out]; exact HRR.out.1, fun hne => ?_⟩
    obtain ⟨b, o, e1, h1, h2, h3⟩ := HRR.out.2 (fun e => hne (by show _ = []; first | (show x.whens.map plainE = []; rw [e]; rfl) | (rw [e]; rfl)))
    exact ⟨b, o, e1, Nat.le_trans HB3.out.size h1, Nat.lt_of_lt_of_le h2 hg5.size, repEs_keeps (S := fun b => w3.heap.size ≤ b) (T := fun k => W.heap.size ≤ k) (Keeps.grown hg5 (fun b (hb : w3.heap.size ≤ b) e => by injection e with e; have := HSZ4.out; omega)) (fun b (hb : w3.heap.size ≤ b) _ => Nat.le_trans HB3.out.size hb) h1 h2 _ _ h3⟩)
  have HB5 := Lib.hid hb5
  have HBF : Hid (Below W.heap.size W w5) := Lib.hid (HB4.out.grown hg5 HB4.out.size (by intro k hk; injection hk with hk; have := HSZ.out; omega))
  clear hK K hH4 hb5 hg5 hH5
  try simp only [rgS]
  refine wpAnyH_done (by kernel_rfl) ?_ _
  clear hH5'
  go_wp2
  exact bodyPost_ret (results_blkE Tryz.results80 _ _ g2 _ _ _ rfl HB5.out Tryz.underlying42 rfl sizeExpr) rfl ⟨_, rfl, HF.out, HBF.out⟩
theorem plainExpr_any {e : Ex} (hm : MildE e) : PlainAsk e := by
  induction hm with
  | mk h1 h2 h3 ih => exact plainExpr_of (.mk h1 h2 h3) ih
set_option maxRecDepth 100000 in
set_option maxHeartbeats 4000000 in
theorem plainRule_any {x : RuleM} (hx : HeldR x) {B : Nat} {v : Value} {W : World} (hB : B ≤ W.heap.size) (hv : RepR W (fun k => k < B) x v) : Calls Tryz.prog 43 #[v] W fun e' w' => ∃ v', e' = .returned v' ∧ RepR w' (fun k => W.heap.size ≤ k) (plainR x) v' ∧ Below W.heap.size W w' := by
  obtain ⟨vs, vw, rfl, hvs, ⟨AW, cw, rfl, hwl, hwc⟩⟩ := hv
  have HCL := Lib.hid (fun (w : World) (hw : Below W.heap.size W w) => eachS_any (Nat.le_trans hB hw.size) hx.scopes hx.sizes (hvs.under hB hw))
  have HEA := Lib.hid (fun (w : World) (hw : Below W.heap.size W w) => eachE_any (B := B) (q := plainE) eg_plainExpr (l := x.whens) (A := AW) (c := cw) (Nat.le_trans hB hw.size) hx.whens (fun y hy W' v' hW' hr' => plainExpr_any (hx.mild y hy) B v' W' (Nat.le_trans (Nat.le_trans hB hw.size) hW'.size) hr')
    (fun hne => by obtain ⟨g, o, e1, hg, hgl, hr⟩ := hwc hne; exact ⟨g, o, e1, hg, Nat.lt_of_lt_of_le hgl hw.size, hr.under hB hg hw⟩))
  obtain ⟨SA, cs, rfl, _⟩ := hvs
  obtain ⟨x0, hx0⟩ : ∃ y, y = x.deny := ⟨_, rfl⟩
  obtain ⟨x1, hx1⟩ : ∃ y, y = x.scopes.length := ⟨_, rfl⟩
  obtain ⟨x2, hx2⟩ : ∃ y, y = x.whens.length := ⟨_, rfl⟩
  obtain ⟨x3, hx3⟩ : ∃ y, y = x.pos := ⟨_, rfl⟩
  rw [← hx1] at HCL
  rw [← hx2] at HEA
  rw [← hx0, ← hx1, ← hx2, ← hx3]
  have HLN := Lib.hid (And.intro hx0 hx2)
  obtain ⟨w1, hw1⟩ : ∃ V, V = W.alloc (.cells #[.bool x0, .slice SA x1 cs, .slice AW x2 cw, .int .i64 x3] 45) := ⟨_, rfl⟩
  obtain ⟨w2, hw2⟩ : ∃ V, V = w1.alloc (.cells #[.bool false, .slice none 0 0, .slice none 0 0, .int .i64 0] 45) := ⟨_, rfl⟩
  have hs1 : w1.heap.size = W.heap.size + 1 := by rw [hw1]; simp
  have hb1 : Below W.heap.size W w1 := by rw [hw1]; exact belowAlloc W _
  have hb12 : Below w1.heap.size w1 w2 := by rw [hw2]; exact belowAlloc w1 _
  have hE1 : Blk w1 W.heap.size 45 [.bool x0, .slice SA x1 cs, .slice AW x2 cw, .int .i64 x3] := by rw [hw1]; exact blkNew W _ _
  have hE2 : Blk w2 W.heap.size 45 [.bool x0, .slice SA x1 cs, .slice AW x2 cw, .int .i64 x3] := hE1.below hb12 hE1.lt
  have hZ2 : Blk w2 w1.heap.size 45 [.bool false, .slice none 0 0, .slice none 0 0, .int .i64 0] := by rw [hw2]; exact blkNew w1 _ _
  obtain ⟨g2, hg2⟩ : ∃ g, g = w1.heap.size := ⟨_, rfl⟩
  rw [← hg2] at hZ2
  have HSZ : Hid (g2 = W.heap.size + 1 ∧ g2 < w2.heap.size) := Lib.hid ⟨by omega, hZ2.lt⟩
  have HB2 := Lib.hid (hb1.trans (hb12.mono hb1.size))
  have HB2D : Hid (Below W.heap.size W w2.drew) := Lib.hid HB2.out.drew
  have HSX2 : Hid (∀ X, Below w2.heap.size w2 X → Blk X W.heap.size 45 [.bool x0, .slice SA x1 cs, .slice AW x2 cw, .int .i64 x3]) := Lib.hid fun X hX => hE2.below hX hE2.lt
  have HZX2 : Hid (∀ X, Below w2.heap.size w2 X → Blk X g2 45 [.bool false, .slice none 0 0, .slice none 0 0, .int .i64 0]) := Lib.hid fun X hX => hZ2.below hX hZ2.lt
  have HW := Lib.hid (show (W.alloc (.cells #[.bool x0, .slice SA x1 cs, .slice AW x2 cw, .int .i64 x3] 45)).alloc (.cells #[.bool false, .slice none 0 0, .slice none 0 0, .int .i64 0] 45) = w2 by rw [hw2, hw1])
  have HG2 := Lib.hid (show W.heap.size + 1 = g2 by omega)
  clear hx hB hwl hwc hx0 hx1 hx2 hx3 hw1 hw2 hs1 hb1 hb12 hE1 hE2 hZ2 hg2
  go_enter Tryz.func43, Tryz.ntmps43
  go_wp2
  rw [HW.out, HG2.out]
  refine wp_region_held_drew (S := fun X => X.cell? ⟨W.heap.size, 0, none⟩ = some (.bool x0) ∧ X.cell? ⟨W.heap.size, 1, none⟩ = some (.slice SA x1 cs) ∧ X.cell? ⟨W.heap.size, 2, none⟩ = some (.slice AW x2 cw) ∧ X.cell? ⟨W.heap.size, 3, none⟩ = some (.int .i64 x3)) (by kernel_rfl) (cells4 (HSX2.out _ (Below.refl _ w2).drew)) (fun hHeld => ?_)
  refine rgT 0 ?_
  try simp only [rgS]
  refine rgT 1 ?_
  try simp only [rgS]
  refine rgT 2 ?_
  try simp only [rgS]
  refine rgT 3 ?_
  try simp only [rgS]
  refine rgT 5 ?_
  try simp only [rgS]
  refine rgT 6 ?_
  try simp only [rgS]
  refine rgO 4 (fun K hK => ?_)
  go_simp
  (with_reducible refine (HCL.out _ HB2D.out).mono ?_)
  rintro e w3 ⟨vt, rfl, hst, hb3⟩
  obtain ⟨ST, ct, rfl, hst2⟩ := hst
  have HST0 : Hid (RepSt w3 (fun k => w2.drew.heap.size ≤ k) x.scopes (.slice ST x.scopes.length ct)) := Lib.hid ⟨ST, ct, rfl, hst2⟩
  obtain ⟨y1, hy1⟩ : ∃ y, y = x.scopes.length := ⟨_, rfl⟩
  rw [← hy1] at HST0 ⊢
  clear hst2 hy1
  have hbd3 : Below w2.heap.size w2 w3 := (Below.refl _ w2).drew.trans hb3
  have HB3 := Lib.hid (HB2D.out.trans (hb3.mono HB2D.out.size))
  refine hK.out _ _ (cells4 (HSX2.out _ hbd3)) (fun hH3 => ?_)
  have HBD3 := Lib.hid hbd3
  clear hK K hHeld hb3 hbd3
  try simp only [rgS]
  refine rgO 7 (fun K hK => ?_)
  go_simp
  (with_reducible refine (HEA.out _ HB3.out).mono ?_)
  rintro e w4 ⟨A', c', rfl, hcc, hrr, hb4⟩
  have hbd4 : Below w2.heap.size w2 w4 := HBD3.out.trans (hb4.mono HBD3.out.size)
  have HB4 := Lib.hid (HB3.out.trans (hb4.mono HB3.out.size))
  refine hK.out _ _ (cells4 (HSX2.out _ hbd4)) (fun hH4 => ?_)
  have HBD4 := Lib.hid hbd4
  have HRR := Lib.hid (And.intro hcc hrr)
  have HSZ4 : Hid (g2 < w3.heap.size) := Lib.hid (by have := HSZ.out; have := HBD3.out.size; omega)
  have HST4 : Hid (RepSt w4 (fun k => W.heap.size ≤ k ∧ k ≠ g2) x.scopes (.slice ST y1 ct)) := Lib.hid (RepSt.keeps (RepSt.keeps HST0.out (Keeps.refl _ _) (fun b hb _ => ⟨Nat.le_trans HB2D.out.size hb, by have := HSZ.out; have : w2.heap.size ≤ b := hb; omega⟩)) (Keeps.below hb4 (fun _ _ hl => hl)) (fun b hb _ => hb))
  clear hK K hH3 hb4 hbd4 hcc hrr
  try simp only [rgS]
  refine rgT 8 ?_
  try simp only [rgS]
  refine rgO 9 (fun K hK => ?_)
  refine wp_store_row 45 (.tmp 2) (.tmp 11) rfl g2 0 [.bool x0, .slice ST y1 ct, .slice A' x2 c', .int .i64 0] rfl rfl _ _ (HZX2.out _ HBD4.out) (by simp) sizeRule (by intro v hv; simp at hv; rcases hv with rfl | rfl | rfl | rfl <;> rfl) ?_
  intro w5 hb5 hg5
  rw [splice_all _ _ (by simp)] at hb5
  have hH5 := HSX2.out _ HBD4.out
  refine hK.out _ _ (cells4 (hH5.grown hg5 (by intro e; injection e with e; have := HSZ.out; omega))) (fun hH5' => ?_)
  have HF : Hid (RepR w5 (fun k => W.heap.size ≤ k) (plainR x) (.agg #[.bool x0, .slice ST y1 ct, .slice A' x2 c', .int .i64 0])) := Lib.hid (by
    refine ⟨_, _, by rw [HLN.out.1]; rfl, RepSt.keeps (T := fun k => W.heap.size ≤ k) HST4.out (Keeps.grown hg5 (fun b (hb : W.heap.size ≤ b ∧ b ≠ g2) e => by injection e with e; exact hb.2 e)) (fun b hb _ => hb.1), A', c', by show _ = Value.slice A' (x.whens.map plainE).length c'; rw [List.length_map, ← HLN.out.2], by show (x.whens.map plainE).length ≤ _; rw [List.length_map, ← HLN.out.2]; have := HRR.out.1; omega, fun hne => ?_⟩
    obtain ⟨b, o, e1, h1, h2, h3⟩ := HRR.out.2 (fun e => hne (by show _ = []; first | (show x.whens.map plainE = []; rw [e]; rfl) | (rw [e]; rfl)))
    exact ⟨b, o, e1, Nat.le_trans HB3.out.size h1, Nat.lt_of_lt_of_le h2 hg5.size, repEs_keeps (S := fun b => w3.heap.size ≤ b) (T := fun k => W.heap.size ≤ k) (Keeps.grown hg5 (fun b (hb : w3.heap.size ≤ b) e => by injection e with e; have := HSZ4.out; omega)) (fun b (hb : w3.heap.size ≤ b) _ => Nat.le_trans HB3.out.size hb) h1 h2 _ _ h3⟩)
  have HB5 := Lib.hid hb5
  have HBF : Hid (Below W.heap.size W w5) := Lib.hid (HB4.out.grown hg5 HB4.out.size (by intro k hk; injection hk with hk; have := HSZ.out; omega))
  clear hK K hH4 hb5 hg5 hH5
  try simp only [rgS]
  refine wpAnyH_done (by kernel_rfl) ?_ _
  clear hH5'
  go_wp2
  exact bodyPost_ret (results_blkE Tryz.results43 _ _ g2 _ _ _ rfl HB5.out Tryz.underlying45 rfl sizeRule) rfl ⟨_, rfl, HF.out, HBF.out⟩
set_option maxRecDepth 100000 in
set_option maxHeartbeats 2000000 in
theorem plain_any {B : Nat} {l : List RuleM} {w : World} {v : Value} (hB : B ≤ w.heap.size) (hl : l.length ≤ 1000000) (hx : ∀ x ∈ l, HeldR x) (hv : RepP w (fun k => k < B) l v) :
    Calls Tryz.prog 20 #[v] w fun e w' => ∃ v', e = .returned v' ∧ RepP w' (fun k => w.heap.size ≤ k) (l.map plainR) v' ∧ Below w.heap.size w w' := by
  obtain ⟨A, c, rfl, _, hr⟩ := hv
  have HC := Lib.hid (eachR_any (c := c) eg_plainRule hB hl (fun x hxl W v' hW hrv => plainRule_any (hx x hxl) (Nat.le_trans hB hW.size) hrv) hr)
  obtain ⟨n, hn⟩ : ∃ n, n = l.length := ⟨_, rfl⟩
  have HN := Lib.hid hn
  rw [← hn] at HC hl ⊢
  clear hB hx hr hn
  go_enter Tryz.func20, Tryz.ntmps20
  go_wp2_with fail
  (with_reducible refine HC.out.mono ?_)
  rintro e w2 ⟨A', c', rfl, hcc, hrr, hb2⟩
  have HR : Hid (RepP w2 (fun k => w.heap.size ≤ k) (l.map plainR) (.slice A' n c')) := Lib.hid ⟨A', c', by rw [List.length_map, HN.out], by rw [List.length_map, ← HN.out]; omega, fun hne => hrr (fun e => hne (by rw [e]; rfl))⟩
  have HB2 := Lib.hid hb2
  clear hcc hrr hb2
  go_wp2
  go_ret
  exact ⟨_, rfl, HR.out, HB2.out⟩
end Go.Proofs.YtcjfealalokjaaaGreatDoor
namespace Go.Proofs.YtcjfealalokjaaaGreatDoor
open Go Go.RowKit
theorem plainE_idem : ∀ e : Ex, plainE (plainE e) = plainE e := fun e => by
  induction e using Ex.ind with
  | h op s n l p ih =>
    rw [plainE_of (.mk op s n l p), plainE_of]
    show Ex.mk op s n ((l.map plainE).map plainE) 0 = .mk op s n (l.map plainE) 0
    rw [List.map_map]
    congr 1
    exact List.map_congr_left ih
theorem plainR_idem (x : RuleM) : plainR (plainR x) = plainR x := by
  unfold plainR
  simp only [List.map_map]
  congr 1
  exact List.map_congr_left fun e _ => plainE_idem e
theorem plainRs_idem (l : List RuleM) : (l.map plainR).map plainR = l.map plainR := by
  rw [List.map_map]
  exact List.map_congr_left fun x _ => plainR_idem x
theorem mildE_plain {e : Ex} (h : MildE e) : MildE (plainE e) := by
  induction h with
  | @mk op n p s l h1 h2 h3 ih =>
    rw [plainE_of]
    exact .mk h1 (by rw [List.length_map]; exact h2) fun x hx => by
      obtain ⟨y, hy, rfl⟩ := List.mem_map.1 hx
      exact ih y hy
theorem heldR_plain {x : RuleM} (h : HeldR x) : HeldR (plainR x) :=
  ⟨h.scopes, h.sizes, by show (x.whens.map plainE).length ≤ _; rw [List.length_map]; exact h.whens, fun e he => by
    obtain ⟨y, hy, rfl⟩ := List.mem_map.1 (show e ∈ x.whens.map plainE from he)
    exact mildE_plain (h.mild y hy)⟩
theorem RepP.wide {B B' : Nat} {W : World} {l : List RuleM} {v : Value} (h : RepP W (fun k => k < B) l v) (hB : B ≤ B') : RepP W (fun k => k < B') l v :=
  h.keeps (Keeps.refl _ W) (fun _ hb _ => Nat.lt_of_lt_of_le hb hB)
set_option maxRecDepth 100000 in
set_option maxHeartbeats 4000000 in
theorem polSames_any (l m : List RuleM) (va vb : Value) (W : World) (h : Ask12 W) (ha : RepP W (fun k => k < W.heap.size) l va) (hb : RepP W (fun k => k < W.heap.size) m vb) :
    Calls Tryz.prog 5 #[va, vb] W fun e w' => e = .returned (.bool true) ∧ Below W.heap.size W w' := by
  have HAL := Lib.hid (alive12_any W h)
  have HA := Lib.hid (fun (w : World) (hw : Below W.heap.size W w) => ha.under (Nat.le_refl _) hw)
  have HB := Lib.hid (fun (w : World) (hw : Below W.heap.size W w) => hb.under (Nat.le_refl _) hw)
  have HGA := Lib.hid (fun (w : World) (hw : Below W.heap.size W w) => refGreatP_any hw.size (HA.out w hw))
  have HGB := Lib.hid (fun (w : World) (hw : Below W.heap.size W w) => refGreatP_any hw.size (HB.out w hw))
  clear h ha hb
  cases hga : greatP l with
  | true =>
    rw [hga] at HGA
    clear hga
    go_enter Tryz.func5, Tryz.ntmps5
    go_wp2_with fail
    (with_reducible refine HAL.out.mono ?_)
    rintro e w1 ⟨rfl, hb1⟩
    have HB1 := Lib.hid hb1
    clear hb1
    go_wp2_with fail
    (with_reducible refine (HGA.out w1 HB1.out).mono ?_)
    rintro e w2 ⟨rfl, hb2⟩
    have HB2 := Lib.hid (HB1.out.trans (hb2.mono HB1.out.size))
    clear hb2
    go_wp2
    go_ret
    exact ⟨rfl, HB2.out⟩
  | false =>
  cases hgb : greatP m with
  | true =>
    rw [hga] at HGA
    rw [hgb] at HGB
    clear hga hgb
    go_enter Tryz.func5, Tryz.ntmps5
    go_wp2_with fail
    (with_reducible refine HAL.out.mono ?_)
    rintro e w1 ⟨rfl, hb1⟩
    have HB1 := Lib.hid hb1
    clear hb1
    go_wp2_with fail
    (with_reducible refine (HGA.out w1 HB1.out).mono ?_)
    rintro e w2 ⟨rfl, hb2⟩
    have HB2 := Lib.hid (HB1.out.trans (hb2.mono HB1.out.size))
    clear hb2
    go_wp2_with fail
    (with_reducible refine (HGB.out w2 HB2.out).mono ?_)
    rintro e w3 ⟨rfl, hb3⟩
    have HB3 := Lib.hid (HB2.out.trans (hb3.mono HB2.out.size))
    clear hb3
    go_wp2
    go_ret
    exact ⟨rfl, HB3.out⟩
  | false =>
  rw [hga] at HGA
  rw [hgb] at HGB
  obtain ⟨ll, hlk⟩ := greatP_look hga
  obtain ⟨ml, hmk⟩ := greatP_look hgb
  clear hga hgb
  have HPA := Lib.hid (fun (w : World) (hw : Below W.heap.size W w) => plain_any hw.size (by omega) (fun x hx => (hlk x hx).held) (HA.out w hw))
  have HPB := Lib.hid (fun (w : World) (hw : Below W.heap.size W w) => plain_any hw.size (by omega) (fun x hx => (hmk x hx).held) (HB.out w hw))
  have HPP := Lib.hid (fun (w : World) (v : Value) (hv : RepP w (fun k => k < w.heap.size) (l.map plainR) v) => plain_any (Nat.le_refl _) (by rw [List.length_map]; omega) (fun x hx => by
    obtain ⟨y, hy, rfl⟩ := List.mem_map.1 hx
    exact heldR_plain (hlk y hy).held) hv)
  rw [plainRs_idem] at HPP
  have HSM := Lib.hid (fun (w : World) (hw : Below W.heap.size W w) => polSame_any hw.size (HA.out w hw) (HB.out w hw))
  have HST := Lib.hid (fun (w : World) (hw : Below W.heap.size W w) => refSame_true hw.size (HA.out w hw) (HB.out w hw))
  have HSF := Lib.hid (fun (w : World) (hw : Below W.heap.size W w) => refSame_false hw.size (HA.out w hw) (HB.out w hw))
  have HSA := Lib.hid (fun (w : World) (hw : Below W.heap.size W w) => polSame_any hw.size (HA.out w hw) (HA.out w hw))
  rw [sameRs_refl] at HSA
  obtain ⟨X, hX⟩ : ∃ X, X = sameRs true l m := ⟨_, rfl⟩
  obtain ⟨Y, hY⟩ : ∃ Y, Y = sameRs false l m := ⟨_, rfl⟩
  rw [← hX] at HSM HST
  rw [← hY] at HSF
  have HYY := Lib.hid ((sameRs_plain l m).trans hY.symm)
  have hxx : (X == X) = true := by simp
  have hyy : (Y == Y) = true := by simp
  clear hX hY ll hlk ml hmk
  go_enter Tryz.func5, Tryz.ntmps5
  go_wp2_with fail
  (with_reducible refine HAL.out.mono ?_)
  rintro e w1 ⟨rfl, hb1⟩
  have HB1 := Lib.hid hb1
  clear hb1
  go_wp2_with fail
  (with_reducible refine (HGA.out w1 HB1.out).mono ?_)
  rintro e w2 ⟨rfl, hb2⟩
  have HB2 := Lib.hid (HB1.out.trans (hb2.mono HB1.out.size))
  clear hb2
  go_wp2_with fail
  (with_reducible refine (HGB.out w2 HB2.out).mono ?_)
  rintro e w3 ⟨rfl, hb3⟩
  have HB3 := Lib.hid (HB2.out.trans (hb3.mono HB2.out.size))
  clear hb3
  go_wp2_with fail
  (with_reducible refine (HPA.out w3 HB3.out).mono ?_)
  rintro e w4 ⟨vp, rfl, hp, hb4⟩
  have HB4 := Lib.hid (HB3.out.trans (hb4.mono HB3.out.size))
  have HP4 := Lib.hid hp.all
  clear hp hb4
  go_wp2_with fail
  (with_reducible refine (HSM.out w4 HB4.out).mono ?_)
  rintro e w5 ⟨rfl, hb5⟩
  have HB5 := Lib.hid (HB4.out.trans (hb5.mono HB4.out.size))
  have HX5 := Lib.hid hb5
  clear hb5
  go_wp2_with fail
  (with_reducible refine (HST.out w5 HB5.out).mono ?_)
  rintro e w6 ⟨rfl, hb6⟩
  have HB6 := Lib.hid (HB5.out.trans (hb6.mono HB5.out.size))
  have HX6 := Lib.hid (HX5.out.trans (hb6.mono HX5.out.size))
  clear hb6
  go_wp2_with fail
  (with_reducible refine (HPB.out w6 HB6.out).mono ?_)
  rintro e w7 ⟨vq, rfl, hq, hb7⟩
  have HB7 := Lib.hid (HB6.out.trans (hb7.mono HB6.out.size))
  have HX7 := Lib.hid (HX6.out.trans (hb7.mono HX6.out.size))
  have HS7 := Lib.hid (polSame_any (Nat.le_refl _) ((HP4.out.under (Nat.le_refl _) HX7.out).wide HX7.out.size) hq.all)
  rw [HYY.out] at HS7
  clear hq hb7
  go_wp2_with fail
  (with_reducible refine HS7.out.mono ?_)
  rintro e w8 ⟨rfl, hb8⟩
  have HB8 := Lib.hid (HB7.out.trans (hb8.mono HB7.out.size))
  have HX8 := Lib.hid (HX7.out.trans (hb8.mono HX7.out.size))
  clear hb8
  go_wp2_with fail
  (with_reducible refine (HSF.out w8 HB8.out).mono ?_)
  rintro e w9 ⟨rfl, hb9⟩
  have HB9 := Lib.hid (HB8.out.trans (hb9.mono HB8.out.size))
  have HX9 := Lib.hid (HX8.out.trans (hb9.mono HX8.out.size))
  have HS9 := Lib.hid (refSame_false (Nat.le_refl w9.heap.size) ((HP4.out.under (Nat.le_refl _) HX9.out).wide HX9.out.size) ((HA.out w9 HB9.out).wide HB9.out.size))
  rw [sameRs_plainl] at HS9
  clear hb9
  go_wp2_with fail
  (with_reducible refine HS9.out.mono ?_)
  rintro e w10 ⟨rfl, hb10⟩
  have HB10 := Lib.hid (HB9.out.trans (hb10.mono HB9.out.size))
  have HX10 := Lib.hid (HX9.out.trans (hb10.mono HX9.out.size))
  have HPW := Lib.hid (HPP.out w10 vp ((HP4.out.under (Nat.le_refl _) HX10.out).wide HX10.out.size))
  clear hb10
  go_wp2_with fail
  (with_reducible refine HPW.out.mono ?_)
  rintro e w11 ⟨vr, rfl, hr, hb11⟩
  have HB11 := Lib.hid (HB10.out.trans (hb11.mono HB10.out.size))
  have HX11 := Lib.hid (HX10.out.trans (hb11.mono HX10.out.size))
  have HS11 := Lib.hid (polSame_any (Nat.le_refl _) ((HP4.out.under (Nat.le_refl _) HX11.out).wide HX11.out.size) hr.all)
  rw [sameRs_refl] at HS11
  clear hr hb11
  go_wp2_with fail
  (with_reducible refine HS11.out.mono ?_)
  rintro e w12 ⟨rfl, hb12⟩
  have HB12 := Lib.hid (HB11.out.trans (hb12.mono HB11.out.size))
  clear hb12
  go_wp2_with fail
  (with_reducible refine (HSA.out w12 HB12.out).mono ?_)
  rintro e w13 ⟨rfl, hb13⟩
  have HB13 := Lib.hid (HB12.out.trans (hb13.mono HB12.out.size))
  clear hb13
  go_wp2
  go_ret
  exact ⟨rfl, HB13.out⟩
end Go.Proofs.YtcjfealalokjaaaGreatDoor
