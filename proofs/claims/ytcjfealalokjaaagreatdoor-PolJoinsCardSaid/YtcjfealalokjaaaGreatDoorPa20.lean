/- PolCatch, PolRead, PolParse, PolAlive: merged. -/
import Derived.Tactics2
import Derived.Defers
import Derived.Recover
import Derived.Test.YtcjfealalokjaaaGreatDoorPa19
set_option linter.all false
namespace Go.Proofs.YtcjfealalokjaaaGreatDoor
open Go Go.RowKit
set_option maxRecDepth 100000 in
set_option maxHeartbeats 2000000 in
theorem pol_idle (b2 b3 : Nat) (w : World) :
    CallsD Tryz.prog 54 #[.pointer (some ⟨b2, 0, none⟩), .pointer (some ⟨b3, 0, none⟩)] .returning w fun e u' w' => e = .returned (.tuple #[]) ∧ u' = .returning ∧ w' = w := by
  refine callsD_of_wpS Tryz.func54 rfl fun c₀ cs hu => ?_
  apply wpS_seq
  apply wpS_region
  simp [wpOpsS, go_sem, recoverD, hu, Tryz.ntmps54, Exit.thenS]
  refine wpS_of_wp ?_
  rw [show (#[.pointer (some ⟨b2, 0, none⟩), .pointer (some ⟨b3, 0, none⟩)] ++ (Array.replicate 11 undef).setIfInBounds 3 Value.nilIface) = #[.pointer (some ⟨b2, 0, none⟩), .pointer (some ⟨b3, 0, none⟩), undef, undef, undef, .nilIface, undef, undef, undef, undef, undef, undef, undef] from rfl]
  go_wp2
  refine ⟨rfl, .returning, ?_, _, results_none rfl _ _ _, rfl, rfl, rfl⟩
  cases c₀
  simp_all
set_option maxRecDepth 100000 in
set_option maxHeartbeats 4000000 in
theorem pol_catch (b2 b3 b : Nat) (w : World) (v0 : Value) (h2 : Blk w b2 23 [v0]) (h3 : Blk w b3 25 [.nilIface]) (hne : b2 ≠ b3) :
    CallsD Tryz.prog 54 #[.pointer (some ⟨b2, 0, none⟩), .pointer (some ⟨b3, 0, none⟩)] (.panicking (flt b)) w fun e u' w' =>
      e = .returned (.tuple #[]) ∧ u' = .panicking [{ v := .iface 66 (.pointer (some ⟨b, 0, none⟩)), recovered := true }] ∧ w' = ((w.setCell ⟨b2, 0, none⟩ (.slice none 0 0)).setCell ⟨b3, 0, none⟩ (.iface 66 (.pointer (some ⟨b, 0, none⟩)))) := by
  have b0 : w.cell? ⟨b2, 0, none⟩ = some v0 := h2.cell 0
  have z0 : w.frozen? ⟨b2, 0, none⟩ = false := h2.frozen 0
  have y0 : w.cell? ⟨b3, 0, none⟩ = some .nilIface := h3.cell 0
  have y1 : w.frozen? ⟨b3, 0, none⟩ = false := h3.frozen 0
  have l2 := h2.lt
  have l3 := h3.lt
  clear h2 h3
  refine callsD_of_wpS Tryz.func54 rfl fun c₀ cs hu => ?_
  apply wpS_seq
  apply wpS_region
  simp [wpOpsS, go_sem, recoverD, hu, flt, Tryz.ntmps54, Exit.thenS]
  refine wpS_of_wp ?_
  rw [show (#[.pointer (some ⟨b2, 0, none⟩), .pointer (some ⟨b3, 0, none⟩)] ++ (Array.replicate 11 undef).setIfInBounds 3 (.iface 66 (.pointer (some ⟨b, 0, none⟩)))) = #[.pointer (some ⟨b2, 0, none⟩), .pointer (some ⟨b3, 0, none⟩), undef, undef, undef, .iface 66 (.pointer (some ⟨b, 0, none⟩)), undef, undef, undef, undef, undef, undef, undef] from rfl]
  have hta : ∀ w : World, (Instr.typeAssert (.iface 66 (.pointer (some ⟨b, 0, none⟩))) 20 66 true).run Tryz.prog w = .ok (.tuple #[.pointer (some ⟨b, 0, none⟩), .bool true]) w := fun w => by kernel_rfl
  go_wp2
  exact ⟨rfl, _, rfl, _, results_none rfl _ _ _, rfl, rfl, rfl⟩
end Go.Proofs.YtcjfealalokjaaaGreatDoor
namespace Go.Proofs.YtcjfealalokjaaaGreatDoor
open Go Go.RowKit
/-- Rules, by what reading one tells. -/
theorem rulesGo_K (nr : Nat) (r : List TokM) (hr : Ends r) : rulesGo nr r =
    if (hdT r).kind = 5 then ([], 0, -1) else if (ruleK nr r).2.2 ≠ 0 then ([], (ruleK nr r).2.2, (hdT (ruleK nr r).2.1).pos)
    else if (rulesGo (nr + 1) (ruleK nr r).2.1).2.1 ≠ 0 then ([], (rulesGo (nr + 1) (ruleK nr r).2.1).2) else ((ruleK nr r).1 :: (rulesGo (nr + 1) (ruleK nr r).2.1).1, 0, -1) := by
  rw [rulesGo]
  by_cases h5 : (hdT r).kind = 5
  · rw [if_pos h5, if_pos h5]
  rw [if_neg h5, if_neg h5]
  by_cases hdp : isT r 1 wDeny = false ∧ isT r 1 wPermit = false
  · have e : ruleK nr r = (rule0, r, 120) := if_pos hdp
    have e2 : ruleP r = (rule0, r, 120) := by unfold ruleP; rw [if_pos hdp]
    rw [e, e2, if_neg (fun h => by rcases h.2 with h | h; rw [hdp.2] at h; cases h; rw [hdp.1] at h; cases h), if_pos (show (120 : Int) ≠ 0 by decide), if_pos (show (120 : Int) ≠ 0 by decide)]
  · have hor : isT r 1 wPermit = true ∨ isT r 1 wDeny = true := by
      cases h1 : isT r 1 wPermit with
      | true => exact .inl rfl
      | false =>
        cases h2 : isT r 1 wDeny with
        | true => exact .inr rfl
        | false => exact absurd ⟨h2, h1⟩ hdp
    by_cases h16 : nr = 16
    · have e : ruleK nr r = (rule0, r, 132) := (if_neg hdp).trans (if_pos h16)
      rw [e, if_pos ⟨h16, hor⟩, if_pos (show (132 : Int) ≠ 0 by decide)]
    · have e : ruleK nr r = ruleP r := (if_neg hdp).trans (if_neg h16)
      rw [e, if_neg (fun h => h16 h.1)]
      by_cases he : (ruleP r).2.2 ≠ 0
      · rw [if_pos he, if_pos he]
      rw [if_neg he, if_neg he]
      obtain ⟨k, e1, e2, e3⟩ := ruleP_cuts r hr
      have hlt : (ruleP r).2.1.length < r.length := by
        have := e3 (Decidable.of_not_not he)
        have := hr.len
        rw [e1, List.length_drop]; omega
      rw [dif_pos hlt]
theorem ruleK_less (nr : Nat) (r : List TokM) (hr : Ends r) (h0 : (ruleK nr r).2.2 = 0) : (ruleK nr r).2.1.length < r.length := by
  unfold ruleK at h0 ⊢
  by_cases h1 : isT r 1 wDeny = false ∧ isT r 1 wPermit = false
  · rw [if_pos h1] at h0; exact absurd h0 (show ¬ (120 : Int) = 0 by decide)
  rw [if_neg h1] at h0 ⊢
  by_cases h2 : nr = 16
  · rw [if_pos h2] at h0; exact absurd h0 (show ¬ (132 : Int) = 0 by decide)
  rw [if_neg h2] at h0 ⊢
  obtain ⟨k, e1, e2, e3⟩ := ruleP_cuts r hr
  have := e3 h0
  have := hr.len
  rw [e1, List.length_drop]; omega
theorem ruleK_16 {nr : Nat} {r : List TokM} (h0 : (ruleK nr r).2.2 = 0) : nr ≠ 16 := fun e => by
  unfold ruleK at h0
  by_cases h1 : isT r 1 wDeny = false ∧ isT r 1 wPermit = false
  · rw [if_pos h1] at h0; exact absurd h0 (show ¬ (120 : Int) = 0 by decide)
  rw [if_neg h1, if_pos e] at h0; exact absurd h0 (show ¬ (132 : Int) = 0 by decide)
theorem rulesGo_bad {nr : Nat} {r : List TokM} (h : (rulesGo nr r).2.1 ≠ 0) : rulesGo nr r = ([], (rulesGo nr r).2) := by
  rw [rulesGo] at h ⊢
  split
  · rfl
  · rename_i h1; rw [if_neg h1] at h
    split
    · rfl
    · rename_i h2; rw [if_neg h2] at h
      split
      · rfl
      · rename_i h3; rw [if_neg h3] at h
        split
        · rename_i h4; rw [dif_pos h4] at h
          split
          · rfl
          · rename_i h5
            have h6 : (0 : Int) ≠ 0 := by rw [if_neg h5] at h; exact h
            exact absurd rfl h6
        · rfl
theorem rulesGo_ok {nr : Nat} {r : List TokM} (h : (rulesGo nr r).2.1 = 0) : rulesGo nr r = ([] ++ (rulesGo nr r).1, 0, -1) := by
  rw [rulesGo] at h ⊢
  split
  · rfl
  · rename_i h1; rw [if_neg h1] at h
    split
    · rename_i h2; rw [if_pos h2] at h; exact absurd h (show ¬ (132 : Int) = 0 by decide)
    · rename_i h2; rw [if_neg h2] at h
      split
      · rename_i h3; rw [if_pos h3] at h; exact absurd h h3
      · rename_i h3; rw [if_neg h3] at h
        split
        · rename_i h4; rw [dif_pos h4] at h
          split
          · rename_i h5; rw [if_pos h5] at h; exact absurd h h5
          · first | rfl | (rename_i h5; rw [if_neg h5] at h; rfl)
        · rename_i h4; rw [dif_neg h4] at h; exact absurd h (show ¬ (-1 : Int) = 0 by decide)
/-- What read and Parse tell. -/
def PTells (W : World) (r : List RuleM × Int × Int) (e : Ending) (w' : World) : Prop :=
  ∃ A n c v, e = .returned (.tuple #[.slice A n c, v]) ∧ RepP w' (fun b => W.heap.size ≤ b) r.1 (.slice A n c) ∧ ErrTells r.2.1 r.2.2 W v w' ∧ Below W.heap.size W w'
/-- Between two rules. -/
structure RdI (W wr : World) (tb o c : Nat) (ts : List TokM) (nr j : Nat) (l : List RuleM) (rv v : Value) (xs : List Value) : Prop where
  own : wr.ownsRow (W.heap.size + 3) 45 4 v l.length xs
  flat : FlatR wr (fun b => W.heap.size + 3 ≤ b ∧ v.ownBlock ≠ some b) l xs
  res : Blk wr W.heap.size 23 [rv]
  err : Blk wr (W.heap.size + 1) 25 [.nilIface]
  rdr : Rdr wr (W.heap.size + 2) tb o c ts j nr 0
  below : Below W.heap.size W wr
  sz : W.heap.size + 3 ≤ wr.heap.size
  ends : Ends (ts.drop j)
  tl : tb < W.heap.size
  ml : 2 < W.heap.size
  cnt : l.length ≤ j
theorem RdI.keep {W wr w' : World} {tb o c : Nat} {ts : List TokM} {nr nr' j j' : Nat} {l : List RuleM} {rv v : Value} {xs : List Value} (h : RdI W wr tb o c ts nr j l rv v xs) (hg : wr.grownBy w' (some (W.heap.size + 2))) (hr : Rdr w' (W.heap.size + 2) tb o c ts j' nr' 0) (he : Ends (ts.drop j')) (hj : j ≤ j') : RdI W w' tb o c ts nr' j' l rv v xs :=
  ⟨h.own.kept hg (.inr (fun e => by have := (h.own.lt _ e).1; omega)), FlatR.keeps (Keeps.grown hg (fun b (hb : _ ∧ _) e => by injection e with e; omega)) (fun b hb _ => hb) h.flat, h.res.grown hg (by intro e; injection e with e; omega), h.err.grown hg (by intro e; injection e with e; omega), hr, h.below.grown hg h.below.size (by intro k hk; injection hk with hk; omega), Nat.le_trans h.sz hg.size, he, h.tl, h.ml, Nat.le_trans h.cnt hj⟩
theorem RdI.snoc {W w7 w8 : World} {tb o c : Nat} {ts : List TokM} {nr j base g cap ln g6 : Nat} {l : List RuleM} {rv v : Value} {xs : List Value} {y : RuleM} {d0 d1 d2 d3 : Value} (h : RdI W w7 tb o c ts nr j l rv v xs) (hy : RepR w7 (fun b => base ≤ b ∧ b < g6) y (.agg #[d0, d1, d2, d3])) (hvb : W.heap.size + 3 ≤ base ∧ ∀ x, v.ownBlock = some x → x < base) (hs : base ≤ g6 ∧ g6 < w7.heap.size)
    (ho : w8.ownsRow (W.heap.size + 3) 45 4 (.slice (some ⟨g, 0, none⟩) (ln + 1) cap) (ln + 1) (xs ++ [d0, d1, d2, d3])) (hg : w7.grownBy w8 v.ownBlock) (hob : v.ownBlock = some g ∨ g = w7.heap.size) (hln : l.length = ln) (hj : l.length + 1 ≤ j) : RdI W w8 tb o c ts nr j (l ++ [y]) rv (.slice (some ⟨g, 0, none⟩) (ln + 1) cap) (xs ++ [d0, d1, d2, d3]) := by
  have hge : ∀ x, v.ownBlock = some x → W.heap.size + 3 ≤ x := fun x e => (h.own.lt x e).1
  have hT : ∀ b, v.ownBlock ≠ some b → b < w7.heap.size → (Value.slice (some ⟨g, 0, none⟩) (ln + 1) cap).ownBlock ≠ some b := fun b hb hl e => by
    simp [Value.ownBlock] at e
    subst e
    rcases hob with h1 | h1
    · exact hb h1
    · omega
  have hb2 := h.tl
  have hb3 := h.ml
  refine ⟨by rw [List.length_append, hln]; exact ho, FlatR.snoc (RepR.keeps (Keeps.grown hg (fun b (hb : base ≤ b ∧ b < g6) e => by have := hvb.2 b e.symm; omega)) (fun b (hb : base ≤ b ∧ b < g6) hl => ⟨by omega, hT b (fun e => by have := hvb.2 b e; omega) hl⟩) hy) (FlatR.keeps (Keeps.grown (S := fun b => W.heap.size + 3 ≤ b ∧ v.ownBlock ≠ some b) hg (fun b hb e => hb.2 e.symm)) (fun b hb hl => ⟨hb.1, hT b hb.2 hl⟩) h.flat),
    h.res.grown hg (fun e => by have := hge _ e.symm; omega), h.err.grown hg (fun e => by have := hge _ e.symm; omega), ?_, h.below.grown hg h.below.size (fun k hk => by have := hge k hk; omega), Nat.le_trans h.sz hg.size, h.ends, h.tl, h.ml, by rw [List.length_append]; exact hj⟩
  cases e : v.ownBlock with
  | none => rw [e] at hg; exact h.rdr.keep hg
  | some x =>
    rw [e] at hg
    have := hge x e
    exact h.rdr.other hg (by omega) (by omega) (by omega)
theorem RdI.shut {W w8 w9 : World} {tb o c : Nat} {ts : List TokM} {nr j : Nat} {l : List RuleM} {rv v : Value} {xs : List Value} (h : RdI W w8 tb o c ts nr j l rv v xs) (hb : Blk w9 W.heap.size 23 ([rv].set 0 v)) (hg : w8.grownBy w9 (some W.heap.size)) : RdI W w9 tb o c ts nr j l v v xs :=
  have hb2 := h.tl
  have hb3 := h.ml
  ⟨h.own.kept hg (.inr (fun e => by have := (h.own.lt _ e).1; omega)), FlatR.keeps (Keeps.grown hg (fun b (hb : _ ∧ _) e => by injection e with e; omega)) (fun b hb _ => hb) h.flat, hb, h.err.grown hg (by intro e; injection e with e; omega), h.rdr.other hg (by omega) (by omega) (by omega), h.below.grown hg h.below.size (by intro k hk; injection hk with hk; omega), Nat.le_trans h.sz hg.size, h.ends, h.tl, h.ml, h.cnt⟩
theorem fieldKind (a b c d : Value) (w : World) : Sem.run Tryz.prog (Instr.field 59 (.agg #[a, b, c, d]) 0) w = .ok a w := by kernel_rfl
theorem infoRule : (Tryz.prog.info? 45).map (fun i => (i.zero, i.size, i.bytes)) = some (some (.agg #[.bool false, .slice none 0 0, .slice none 0 0, .int .i64 0]), 4, 64) := by kernel_rfl
theorem hd_pos {ts : List TokM} (h : ∀ t ∈ ts, 0 ≤ t.pos) (k : Nat) : 0 ≤ (hdT (ts.drop k)).pos := by
  by_cases hk : k < ts.length
  · exact h _ (List.mem_of_getElem? (hd_at hk))
  · rw [List.drop_eq_nil_of_le (by omega)]; decide
theorem ruleK_cut (nr : Nat) (ts : List TokM) (k : Nat) (hr : Ends (ts.drop k)) : ∃ j, (ruleK nr (ts.drop k)).2.1 = ts.drop j := by
  unfold ruleK
  by_cases h1 : isT (ts.drop k) 1 wDeny = false ∧ isT (ts.drop k) 1 wPermit = false
  · rw [if_pos h1]; exact ⟨k, rfl⟩
  rw [if_neg h1]
  by_cases h2 : nr = 16
  · rw [if_pos h2]; exact ⟨k, rfl⟩
  rw [if_neg h2]
  obtain ⟨j, e1, _⟩ := ruleP_cuts _ hr
  exact ⟨k + j, by rw [e1, List.drop_drop]⟩
theorem sizeRules : (Tryz.prog.info? 23).map (·.size) = some 1 := by kernel_rfl
set_option maxRecDepth 100000 in
set_option maxHeartbeats 8000000 in
theorem polRead_any {ts : List TokM} (ho : AllOwn ts) (hz : ts.length ≤ 1000) (hsz : ∀ t ∈ ts, t.text.size ≤ 1000000) (he : Ends ts) (hps : ∀ t ∈ ts, 0 ≤ t.pos) (W : World) (hm : Marks W) (A : Option Addr) (c : Nat) (hA : ToksAt W A ts) :
    Calls Tryz.prog 27 #[.slice A ts.length c] W (PTells W (rulesGo 0 ts)) := by
  have hmf : ∀ (fn : Fn) (first cap : Array Value) (w : World), (Instr.makeFunc fn first cap).run Tryz.prog w = .ok (.func fn first cap) w := fun _ _ _ _ => rfl
  obtain ⟨tb, o, rfl, htl, htk⟩ := hA (fun e => by rw [e] at he; exact he)
  obtain ⟨i0, hi0, hz0, hz1, hz2⟩ := info_parts infoRule
  obtain ⟨Wr, hWr⟩ : ∃ x, x = ((W.alloc (.cells #[.slice none 0 0] 23)).alloc (.cells #[.nilIface] 25)).alloc (.cells #[.slice (some ⟨tb, o, none⟩) ts.length c, .int .i64 0, .int .i64 0, .int .i64 0] 100) := ⟨_, rfl⟩
  have HI0 : Hid (RdI W Wr tb o c ts 0 0 [] (.slice none 0 0) (.slice none 0 0) []) := Lib.hid (by
    have g1 := World.grownBy_alloc W (.cells #[.slice none 0 0] 23) none
    have g2 := World.grownBy_alloc (W.alloc (.cells #[.slice none 0 0] 23)) (.cells #[.nilIface] 25) none
    have g3 := World.grownBy_alloc ((W.alloc (.cells #[.slice none 0 0] 23)).alloc (.cells #[.nilIface] 25)) (.cells #[.slice (some ⟨tb, o, none⟩) ts.length c, .int .i64 0, .int .i64 0, .int .i64 0] 100) none
    have n1 := (blkNew W [.slice none 0 0] 23)
    have n2 := (blkNew (W.alloc (.cells #[.slice none 0 0] 23)) [.nilIface] 25)
    have n3 := (blkNew ((W.alloc (.cells #[.slice none 0 0] 23)).alloc (.cells #[.nilIface] 25)) [.slice (some ⟨tb, o, none⟩) ts.length c, .int .i64 0, .int .i64 0, .int .i64 0] 100)
    have hgr := (g1.trans g2).trans g3
    have n1' := (n1.grownN g2).grownN g3
    have n2' := n2.grownN g3
    have z1 : (W.alloc (.cells #[.slice none 0 0] 23)).heap.size = W.heap.size + 1 := by simp
    have z2 : ((W.alloc (.cells #[.slice none 0 0] 23)).alloc (.cells #[.nilIface] 25)).heap.size = W.heap.size + 2 := by simp
    have z3 : (((W.alloc (.cells #[.slice none 0 0] 23)).alloc (.cells #[.nilIface] 25)).alloc (.cells #[.slice (some ⟨tb, o, none⟩) ts.length c, .int .i64 0, .int .i64 0, .int .i64 0] 100)).heap.size = W.heap.size + 3 := by simp
    rw [z1] at n2'
    rw [z2] at n3
    rw [← hWr] at n1' n2' n3 hgr z3
    refine ⟨World.ownsRow_nil _ _ _ _, rfl, n1', n2', ⟨n3, by omega, Nat.lt_of_lt_of_le htl hgr.size, Blk.grownN hm hgr, by have := Blk.lt hm; omega, fun i t hi => ?_⟩, ⟨hgr.os, hgr.tape, hgr.output, hgr.size, fun i hi => hgr.block i hi (by simp)⟩, by omega, he, htl, Blk.lt hm, Nat.le_refl _⟩
    have e : ∀ x, Wr.cell? ⟨tb, x, none⟩ = W.cell? ⟨tb, x, none⟩ := fun x => by simp [World.cell?, hgr.block tb htl (fun e => by cases e)]
    rw [e, e, e, e]
    exact htk i t hi)
  have HKI := Lib.hid (fun W2 nr k (hn : nr ≤ 16) hr hE => rule_any (rb := W.heap.size + 2) (tb := tb) (o := o) (c := c) (nr := nr) ho hz hsz hn (w := W2) (k := k) hr hE)
  obtain ⟨res, hres⟩ : ∃ r, r = rulesGo 0 ts := ⟨_, rfl⟩
  rw [← hres]
  have HRES0 : Hid (res = if (rulesGo 0 (ts.drop 0)).2.1 ≠ 0 then ([], (rulesGo 0 (ts.drop 0)).2) else ([] ++ (rulesGo 0 (ts.drop 0)).1, 0, -1)) := Lib.hid (by
    rw [hres, List.drop_zero]
    by_cases h : (rulesGo 0 ts).2.1 ≠ 0
    · rw [if_pos h]; exact rulesGo_bad h
    · rw [if_neg h]; exact rulesGo_ok (Decidable.of_not_not h))
  clear hres hA htk hm htl he
  go_enter_defers Tryz.func27, Tryz.ntmps27
  go_wp2_with fail
  rw [← hWr]
  clear hWr
  go_loopw [] (fun wr => ∃ k l vA ln vc xs, RdI W wr tb o c ts ln k l (.slice vA ln vc) (.slice vA ln vc) xs ∧ l.length = ln ∧ ln ≤ 16 ∧ res = if (rulesGo ln (ts.drop k)).2.1 ≠ 0 then ([], (rulesGo ln (ts.drop k)).2) else (l ++ (rulesGo ln (ts.drop k)).1, 0, -1)) (fun wr => ts.length - posR wr (W.heap.size + 2))
  case atStart => exact ⟨0, [], none, 0, 0, [], HI0.out, rfl, by omega, HRES0.out⟩
  case round =>
    clear HI0 HRES0
    obtain ⟨k, l, vA, ln, vc, xs, hI, hln, h16, hres⟩ := hrel
    have HI := Lib.hid hI
    have HLN := Lib.hid hln
    have HPOS := Lib.hid (posR_is hI.rdr)
    have hkl := ends_lt hI.ends
    rw [rulesGo_K ln (ts.drop k) hI.ends] at hres
    have HAH := Lib.hid (polAhead_any hI.rdr (hd_at hkl))
    have HX := Lib.hid (fun W2 hr => HKI.out W2 ln k h16 hr hI.ends)
    have HXL := Lib.hid (ruleK_less ln (ts.drop k) hI.ends)
    have HXP : Hid (0 ≤ (hdT (ruleK ln (ts.drop k)).2.1).pos) := Lib.hid (by obtain ⟨j, e⟩ := ruleK_cut ln ts k hI.ends; rw [e]; exact hd_pos hps j)
    have HX6 := Lib.hid (fun h => ruleK_16 (nr := ln) (r := ts.drop k) h)
    obtain ⟨x, hx⟩ : ∃ x, x = ruleK ln (ts.drop k) := ⟨_, rfl⟩
    rw [← hx] at HX HXL HX6 HXP hres
    obtain ⟨pz, hpz⟩ : ∃ p, p = hdT (ts.drop k) := ⟨_, rfl⟩
    rw [← hpz] at HAH hres
    obtain ⟨p0, p1, p2, p3⟩ := pz
    simp only at HAH hres
    have HRS := Lib.hid hres
    have hf0 : ∀ (a b c d : Value) (w : World), Sem.run Tryz.prog (Instr.field 59 (.agg #[a, b, c, d]) 0) w = .ok a w := fun a b c d w => fieldKind a b c d w
    clear hI hln hx hpz hres
    by_cases h5 : p0 = 5
    · subst h5
      have HRS2 : Hid (res = (l, 0, -1)) := Lib.hid (by rw [HRS.out]; simp)
      clear HX HXL HX6 HRS hkl
      go_wp2_with fail
      (with_reducible refine HAH.out.mono ?_)
      rintro e w5 ⟨rfl, hg5⟩
      have HI5 := Lib.hid (HI.out.keep (Keep.toRow hg5) (HI.out.rdr.keep hg5) HI.out.ends (Nat.le_refl _))
      clear hg5
      have c0 := HI5.out.res.cell 0
      have z0 := HI5.out.res.frozen 0
      have c1 := HI5.out.err.cell 0
      have z1 := HI5.out.err.frozen 0
      have g1 := grownBy_setCell w5 W.heap.size 0 (.slice vA ln vc)
      have HI6 := Lib.hid (HI5.out.shut (HI5.out.res.setCell 0 (.slice vA ln vc)) g1)
      have g2 := grownBy_setCell (w5.setCell ⟨W.heap.size, 0, none⟩ (.slice vA ln vc)) (W.heap.size + 1) 0 .nilIface
      have hE8 := HI6.out.err.setCell 0 .nilIface
      have hR8 := HI6.out.res.grown g2 (by intro e; injection e with e; omega)
      have hP8 := RepP.keeps (T := fun b => W.heap.size ≤ b) (Keeps.grown g2 (fun b (hb : W.heap.size + 3 ≤ b) e => by injection e with e; omega)) (fun b hb _ => by omega) (own_rules HI6.out.own HI6.out.flat (T := fun b => W.heap.size + 3 ≤ b) (fun b hb _ => hb.1) (fun b hb => hb) (by have := HLN.out; omega))
      have hB8 := HI6.out.below.grown g2 HI6.out.below.size (by intro k hk; injection hk with hk; omega)
      go_wp2
      generalize (w5.setCell ⟨W.heap.size, 0, none⟩ (.slice vA ln vc)).setCell ⟨W.heap.size + 1, 0, none⟩ .nilIface = w8 at hE8 hR8 hP8 hB8 ⊢
      refine leaves_cons (f := 54) (args := #[.pointer (some ⟨W.heap.size, 0, none⟩), .pointer (some ⟨W.heap.size + 1, 0, none⟩)]) (by simp) (by simp [go_sem]) ?_
      refine (pol_idle W.heap.size (W.heap.size + 1) w8).mono ?_
      rintro e u' w3 ⟨rfl, rfl, rfl⟩
      have e0 : w3.cell? ⟨W.heap.size, 0, none⟩ = some (.slice vA ln vc) := hR8.cell 0
      have d8 : w3.cell? ⟨W.heap.size + 1, 0, none⟩ = some .nilIface := hE8.cell 0
      have HF := Lib.hid (And.intro hP8 hB8)
      clear hE8 hR8 hP8 hB8 HI6 g1 g2 c0 z0 c1 z1
      simp [Leaves, settle, results, Tryz.results27, go_sem, e0, d8]
      rw [HRS2.out]
      exact ⟨vA, ln, vc, .nilIface, rfl, HF.out.1, .inl ⟨rfl, rfl, rfl⟩, HF.out.2⟩
    · have n5 : (p0 != 5) = true := by simpa using h5
      have HRS2 : Hid (res = if (if x.2.2 ≠ 0 then (([], x.2.2, (hdT x.2.1).pos) : List RuleM × Int × Int) else if (rulesGo (ln + 1) x.2.1).2.1 ≠ 0 then ([], (rulesGo (ln + 1) x.2.1).2) else (x.1 :: (rulesGo (ln + 1) x.2.1).1, 0, -1)).2.1 ≠ 0 then ([], (if x.2.2 ≠ 0 then (([], x.2.2, (hdT x.2.1).pos) : List RuleM × Int × Int) else if (rulesGo (ln + 1) x.2.1).2.1 ≠ 0 then ([], (rulesGo (ln + 1) x.2.1).2) else (x.1 :: (rulesGo (ln + 1) x.2.1).1, 0, -1)).2) else (l ++ (if x.2.2 ≠ 0 then (([], x.2.2, (hdT x.2.1).pos) : List RuleM × Int × Int) else if (rulesGo (ln + 1) x.2.1).2.1 ≠ 0 then ([], (rulesGo (ln + 1) x.2.1).2) else (x.1 :: (rulesGo (ln + 1) x.2.1).1, 0, -1)).1, 0, -1)) := Lib.hid (by rw [HRS.out, if_neg h5])
      clear HRS h5
      go_wp2_with fail
      (with_reducible refine HAH.out.mono ?_)
      rintro e w5 ⟨rfl, hg5⟩
      have HI5 := Lib.hid (HI.out.keep (Keep.toRow hg5) (HI.out.rdr.keep hg5) HI.out.ends (Nat.le_refl _))
      clear hg5
      have c0 := HI5.out.res.cell 0
      by_cases hx0 : x.2.2 = 0
      · have HN := Lib.hid hx0
        have HX5 := Lib.hid (HX.out w5.drew (HI5.out.rdr.drewN 1))
        have HV5 : Hid (W.heap.size + 3 ≤ w5.heap.size ∧ ∀ b, (Value.slice vA ln vc).ownBlock = some b → b < w5.heap.size) := Lib.hid ⟨HI5.out.sz, fun b e => (HI5.out.own.lt b e).2⟩
        have HL16 : Hid (ln < 16) := Lib.hid (by have := HX6.out hx0; omega)
        have hrsx := HRS2.out
        rw [if_neg (show ¬ x.2.2 ≠ 0 by simpa using hx0)] at hrsx
        have HRX := Lib.hid hrsx
        clear hx0 hrsx HRS2
        go_wp2_with fail
        refine wp_region_held_drew (S := fun X => True) (by kernel_rfl) trivial (fun hHeld => ?_)
        refine wpAnyH_ready (rs := [0, 1]) (by kernel_rfl) (by simp) (AllReadyH.cons rfl (fun K hK => ?ordA) (AllReadyH.cons rfl (fun K hK => ?ordB) AllReadyH.nil))
        case ordA =>
          go_simp
          refine hK.out _ _ trivial (fun hHA => ?_)
          clear hK K hHeld
          try simp only [rgS]
          refine rgO 1 (fun K hK => ?_)
          go_simp
          (with_reducible refine HX5.out.mono ?_)
          rintro e w6 (⟨_, k6, d, A, n, cc, B, m, cd, p, rfl, hr6, he6, hrep6, hrd6, hg6⟩ | ⟨hb, _⟩)
          · have hjk : k < k6 := by
              have h1 := HXL.out HN.out
              have h2 := ends_lt he6
              rw [hr6, List.length_drop, List.length_drop] at h1
              omega
            have HJK := Lib.hid hjk
            have HI6 := Lib.hid (HI5.out.keep ((grown_drewN (w := w5) 1 (some (W.heap.size + 2))).trans hg6) hrd6 he6 (by omega))
            have HP6 : Hid (RepR w6 (fun b => w5.heap.size ≤ b) x.1 (.agg #[.bool d, .slice A n cc, .slice B m cd, .int .i64 p])) := Lib.hid hrep6
            have HS6 : Hid (w5.heap.size ≤ w6.heap.size) := Lib.hid hg6.size
            have HRS7 : Hid (res = if (rulesGo (ln + 1) (ts.drop k6)).2.1 ≠ 0 then ([], (rulesGo (ln + 1) (ts.drop k6)).2) else ((l ++ [x.1]) ++ (rulesGo (ln + 1) (ts.drop k6)).1, 0, -1)) := Lib.hid (by
              have h := HRX.out
              rw [hr6] at h
              rw [h]
              by_cases hz : (rulesGo (ln + 1) (ts.drop k6)).2.1 ≠ 0
              · rw [if_pos hz, if_pos hz, if_pos hz]
              · rw [if_neg hz, if_neg hz, if_neg (show ¬ (0 : Int) ≠ 0 by decide), List.append_assoc]; rfl)
            have h16b := HL16.out
            clear hjk hr6 he6 hrep6 hrd6 hg6
            refine hK.out _ _ trivial (fun hHB => ?_)
            clear hK K hHA c0
            try simp only [rgS]
            refine rgO 2 (fun K hK => ?_)
            go_simp
            obtain ⟨w7, hw7⟩ : ∃ W, W = w6.alloc (.cells #[.bool d, .slice A n cc, .slice B m cd, .int .i64 p] 45) := ⟨_, rfl⟩
            have ga : w6.grownBy w7 none := by rw [hw7]; exact World.grownBy_alloc _ _ none
            have HI7 := Lib.hid (HI6.out.keep (Keep.toRow ga) (HI6.out.rdr.keep ga) HI6.out.ends (Nat.le_refl _))
            have HV7 : Hid (Blk w7 w6.heap.size 45 [.bool d, .slice A n cc, .slice B m cd, .int .i64 p]) := Lib.hid (by rw [hw7]; exact blkNew w6 _ _)
            have HP7 := Lib.hid (RepR.keeps (T := fun b => w5.heap.size ≤ b ∧ b < w6.heap.size) (Keeps.grown ga (fun b _ e => by cases e)) (fun b (hb : w5.heap.size ≤ b) hl => ⟨hb, hl⟩) HP6.out)
            have HS7 : Hid (w5.heap.size ≤ w6.heap.size ∧ w6.heap.size < w7.heap.size) := Lib.hid ⟨HS6.out, HV7.out.lt⟩
            rw [← hw7]
            refine hK.out _ _ trivial (fun hH7 => ?_)
            clear hK K hw7 ga
            try simp only [rgS]
            refine rgO 3 (fun K hK => ?_)
            have hown7 := HI7.out.own
            rw [HLN.out] at hown7
            refine step_append_lies _ (by rfl) _ _ _ (by rfl) (W.heap.size + 3) 45 i0 (.agg #[.bool false, .slice none 0 0, .slice none 0 0, .int .i64 0]) 4 64 Tryz.underlying23 hi0 hz0 hz1 hz2 rfl (by omega) (.slice vA ln vc) ln xs (by rfl) hown7 ⟨w6.heap.size, 0, none⟩ 1 1 [.bool d, .slice A n cc, .slice B m cd, .int .i64 p] (by rfl) (by rfl) (World.news_of_block (cs := #[.bool d, .slice A n cc, .slice B m cd, .int .i64 p]) (t := 45) (fr := (0, 0)) HV7.out) (by simp [Value.oneCell']) (by omega) (by unfold maxLen; omega) (by omega) (by have := HI7.out.sz; omega) w7.heap.size rfl ?_
            intro g8 cap8 w8 hown8 hg8 hat8 hlt8
            have HI8 := Lib.hid (HI7.out.snoc HP7.out HV5.out HS7.out hown8 hg8 hat8 HLN.out (by have := HI5.out.cnt; have := HJK.out; omega))
            have hb8 := HI8.out.res
            refine hK.out _ _ trivial (fun hH8 => ?_)
            clear hK K hH7 hown7 hown8 hg8 hat8 hlt8 HI7 HV7 HP7
            try simp only [rgS]
            refine rgO 4 (fun K hK => ?_)
            rw [if_pos (by kernel_rfl)]
            refine wp_store_one 23 (.tmp 2) (.tmp 14) rfl W.heap.size 0 (.slice (some ⟨g8, 0, none⟩) (ln + 1) cap8) rfl rfl rfl _ _ hb8 (by simp) sizeRules ?_
            intro w9 hb9 hg9
            have HI9 := Lib.hid (HI8.out.shut hb9 hg9)
            refine hK.out _ _ trivial (fun hH9 => ?_)
            clear hK K hH8 hb8 hb9 hg9 HI8
            try simp only [rgS]
            refine wpAnyH_done (by kernel_rfl) ?_ _
            clear hH9
            go_wp2_with fail
            go_roundw
            case rel => exact ⟨k6, l ++ [x.1], _, ln + 1, cap8, _, HI9.out, by rw [List.length_append, HLN.out]; rfl, by have := HL16.out; omega, HRS7.out⟩
            case measure =>
              have h1 := HJK.out
              have h2 := ends_lt HI9.out.ends
              rw [HPOS.out, posR_is HI9.out.rdr]; omega
          · exact absurd HN.out hb
        case ordB =>
          go_simp
          (with_reducible refine HX5.out.mono ?_)
          rintro e w6 (⟨_, k6, d, A, n, cc, B, m, cd, p, rfl, hr6, he6, hrep6, hrd6, hg6⟩ | ⟨hb, _⟩)
          · have hjk : k < k6 := by
              have h1 := HXL.out HN.out
              have h2 := ends_lt he6
              rw [hr6, List.length_drop, List.length_drop] at h1
              omega
            have HJK := Lib.hid hjk
            have HI6 := Lib.hid (HI5.out.keep ((grown_drewN (w := w5) 1 (some (W.heap.size + 2))).trans hg6) hrd6 he6 (by omega))
            have HP6 : Hid (RepR w6 (fun b => w5.heap.size ≤ b) x.1 (.agg #[.bool d, .slice A n cc, .slice B m cd, .int .i64 p])) := Lib.hid hrep6
            have HS6 : Hid (w5.heap.size ≤ w6.heap.size) := Lib.hid hg6.size
            have HRS7 : Hid (res = if (rulesGo (ln + 1) (ts.drop k6)).2.1 ≠ 0 then ([], (rulesGo (ln + 1) (ts.drop k6)).2) else ((l ++ [x.1]) ++ (rulesGo (ln + 1) (ts.drop k6)).1, 0, -1)) := Lib.hid (by
              have h := HRX.out
              rw [hr6] at h
              rw [h]
              by_cases hz : (rulesGo (ln + 1) (ts.drop k6)).2.1 ≠ 0
              · rw [if_pos hz, if_pos hz, if_pos hz]
              · rw [if_neg hz, if_neg hz, if_neg (show ¬ (0 : Int) ≠ 0 by decide), List.append_assoc]; rfl)
            have h16b := HL16.out
            clear hjk hr6 he6 hrep6 hrd6 hg6
            refine hK.out _ _ trivial (fun hHB => ?_)
            clear hK K hHeld c0
            have c0 := HI6.out.res.cell 0
            try simp only [rgS]
            refine wpAnyH_ready (rs := [0, 2]) (by kernel_rfl) (by simp) (AllReadyH.cons rfl (fun K hK => ?ordBA) (AllReadyH.cons rfl (fun K hK => ?ordBB) AllReadyH.nil))
            case ordBA =>
              go_simp
              refine hK.out _ _ trivial (fun hHC => ?_)
              clear hK K hHB c0
              try simp only [rgS]
              refine rgO 2 (fun K hK => ?_)
              go_simp
              obtain ⟨w7, hw7⟩ : ∃ W, W = w6.alloc (.cells #[.bool d, .slice A n cc, .slice B m cd, .int .i64 p] 45) := ⟨_, rfl⟩
              have ga : w6.grownBy w7 none := by rw [hw7]; exact World.grownBy_alloc _ _ none
              have HI7 := Lib.hid (HI6.out.keep (Keep.toRow ga) (HI6.out.rdr.keep ga) HI6.out.ends (Nat.le_refl _))
              have HV7 : Hid (Blk w7 w6.heap.size 45 [.bool d, .slice A n cc, .slice B m cd, .int .i64 p]) := Lib.hid (by rw [hw7]; exact blkNew w6 _ _)
              have HP7 := Lib.hid (RepR.keeps (T := fun b => w5.heap.size ≤ b ∧ b < w6.heap.size) (Keeps.grown ga (fun b _ e => by cases e)) (fun b (hb : w5.heap.size ≤ b) hl => ⟨hb, hl⟩) HP6.out)
              have HS7 : Hid (w5.heap.size ≤ w6.heap.size ∧ w6.heap.size < w7.heap.size) := Lib.hid ⟨HS6.out, HV7.out.lt⟩
              rw [← hw7]
              refine hK.out _ _ trivial (fun hH7 => ?_)
              clear hK K hw7 ga
              try simp only [rgS]
              refine rgO 3 (fun K hK => ?_)
              have hown7 := HI7.out.own
              rw [HLN.out] at hown7
              refine step_append_lies _ (by rfl) _ _ _ (by rfl) (W.heap.size + 3) 45 i0 (.agg #[.bool false, .slice none 0 0, .slice none 0 0, .int .i64 0]) 4 64 Tryz.underlying23 hi0 hz0 hz1 hz2 rfl (by omega) (.slice vA ln vc) ln xs (by rfl) hown7 ⟨w6.heap.size, 0, none⟩ 1 1 [.bool d, .slice A n cc, .slice B m cd, .int .i64 p] (by rfl) (by rfl) (World.news_of_block (cs := #[.bool d, .slice A n cc, .slice B m cd, .int .i64 p]) (t := 45) (fr := (0, 0)) HV7.out) (by simp [Value.oneCell']) (by omega) (by unfold maxLen; omega) (by omega) (by have := HI7.out.sz; omega) w7.heap.size rfl ?_
              intro g8 cap8 w8 hown8 hg8 hat8 hlt8
              have HI8 := Lib.hid (HI7.out.snoc HP7.out HV5.out HS7.out hown8 hg8 hat8 HLN.out (by have := HI5.out.cnt; have := HJK.out; omega))
              have hb8 := HI8.out.res
              refine hK.out _ _ trivial (fun hH8 => ?_)
              clear hK K hH7 hown7 hown8 hg8 hat8 hlt8 HI7 HV7 HP7
              try simp only [rgS]
              refine rgO 4 (fun K hK => ?_)
              rw [if_pos (by kernel_rfl)]
              refine wp_store_one 23 (.tmp 2) (.tmp 14) rfl W.heap.size 0 (.slice (some ⟨g8, 0, none⟩) (ln + 1) cap8) rfl rfl rfl _ _ hb8 (by simp) sizeRules ?_
              intro w9 hb9 hg9
              have HI9 := Lib.hid (HI8.out.shut hb9 hg9)
              refine hK.out _ _ trivial (fun hH9 => ?_)
              clear hK K hH8 hb8 hb9 hg9 HI8
              try simp only [rgS]
              refine wpAnyH_done (by kernel_rfl) ?_ _
              clear hH9
              go_wp2_with fail
              go_roundw
              case rel => exact ⟨k6, l ++ [x.1], _, ln + 1, cap8, _, HI9.out, by rw [List.length_append, HLN.out]; rfl, by have := HL16.out; omega, HRS7.out⟩
              case measure =>
                have h1 := HJK.out
                have h2 := ends_lt HI9.out.ends
                rw [HPOS.out, posR_is HI9.out.rdr]; omega
            case ordBB =>
              clear c0
              go_simp
              obtain ⟨w7, hw7⟩ : ∃ W, W = w6.alloc (.cells #[.bool d, .slice A n cc, .slice B m cd, .int .i64 p] 45) := ⟨_, rfl⟩
              have ga : w6.grownBy w7 none := by rw [hw7]; exact World.grownBy_alloc _ _ none
              have HI7 := Lib.hid (HI6.out.keep (Keep.toRow ga) (HI6.out.rdr.keep ga) HI6.out.ends (Nat.le_refl _))
              have HV7 : Hid (Blk w7 w6.heap.size 45 [.bool d, .slice A n cc, .slice B m cd, .int .i64 p]) := Lib.hid (by rw [hw7]; exact blkNew w6 _ _)
              have HP7 := Lib.hid (RepR.keeps (T := fun b => w5.heap.size ≤ b ∧ b < w6.heap.size) (Keeps.grown ga (fun b _ e => by cases e)) (fun b (hb : w5.heap.size ≤ b) hl => ⟨hb, hl⟩) HP6.out)
              have HS7 : Hid (w5.heap.size ≤ w6.heap.size ∧ w6.heap.size < w7.heap.size) := Lib.hid ⟨HS6.out, HV7.out.lt⟩
              rw [← hw7]
              refine hK.out _ _ trivial (fun hH7 => ?_)
              clear hK K hw7 ga
              have c07 := HI7.out.res.cell 0
              try simp only [rgS]
              refine rgO 0 (fun K hK => ?_)
              go_simp
              refine hK.out _ _ trivial (fun hHD => ?_)
              clear hK K hH7 c07
              have hH7 := trivial
              try simp only [rgS]
              refine rgO 3 (fun K hK => ?_)
              have hown7 := HI7.out.own
              rw [HLN.out] at hown7
              refine step_append_lies _ (by rfl) _ _ _ (by rfl) (W.heap.size + 3) 45 i0 (.agg #[.bool false, .slice none 0 0, .slice none 0 0, .int .i64 0]) 4 64 Tryz.underlying23 hi0 hz0 hz1 hz2 rfl (by omega) (.slice vA ln vc) ln xs (by rfl) hown7 ⟨w6.heap.size, 0, none⟩ 1 1 [.bool d, .slice A n cc, .slice B m cd, .int .i64 p] (by rfl) (by rfl) (World.news_of_block (cs := #[.bool d, .slice A n cc, .slice B m cd, .int .i64 p]) (t := 45) (fr := (0, 0)) HV7.out) (by simp [Value.oneCell']) (by omega) (by unfold maxLen; omega) (by omega) (by have := HI7.out.sz; omega) w7.heap.size rfl ?_
              intro g8 cap8 w8 hown8 hg8 hat8 hlt8
              have HI8 := Lib.hid (HI7.out.snoc HP7.out HV5.out HS7.out hown8 hg8 hat8 HLN.out (by have := HI5.out.cnt; have := HJK.out; omega))
              have hb8 := HI8.out.res
              refine hK.out _ _ trivial (fun hH8 => ?_)
              clear hK K hH7 hown7 hown8 hg8 hat8 hlt8 HI7 HV7 HP7
              try simp only [rgS]
              refine rgO 4 (fun K hK => ?_)
              rw [if_pos (by kernel_rfl)]
              refine wp_store_one 23 (.tmp 2) (.tmp 14) rfl W.heap.size 0 (.slice (some ⟨g8, 0, none⟩) (ln + 1) cap8) rfl rfl rfl _ _ hb8 (by simp) sizeRules ?_
              intro w9 hb9 hg9
              have HI9 := Lib.hid (HI8.out.shut hb9 hg9)
              refine hK.out _ _ trivial (fun hH9 => ?_)
              clear hK K hH8 hb8 hb9 hg9 HI8
              try simp only [rgS]
              refine wpAnyH_done (by kernel_rfl) ?_ _
              clear hH9
              go_wp2_with fail
              go_roundw
              case rel => exact ⟨k6, l ++ [x.1], _, ln + 1, cap8, _, HI9.out, by rw [List.length_append, HLN.out]; rfl, by have := HL16.out; omega, HRS7.out⟩
              case measure =>
                have h1 := HJK.out
                have h2 := ends_lt HI9.out.ends
                rw [HPOS.out, posR_is HI9.out.rdr]; omega
          · exact absurd HN.out hb
      · have HRS3 : Hid (res = ([], x.2.2, (hdT x.2.1).pos)) := Lib.hid (by rw [HRS2.out, if_pos hx0, if_pos hx0])
        have HN := Lib.hid hx0
        have HX5 := Lib.hid (HX.out w5.drew (HI5.out.rdr.drewN 1))
        clear hx0
        go_wp2_with fail
        refine wp_region_held_drew (S := fun X => True) (by kernel_rfl) trivial (fun hHeld => ?_)
        refine wpAnyH_ready (rs := [0, 1]) (by kernel_rfl) (by simp) (AllReadyH.cons rfl (fun K hK => ?ordA) (AllReadyH.cons rfl (fun K hK => ?ordB) AllReadyH.nil))
        case ordA =>
          go_simp
          refine hK.out _ _ trivial (fun hHA => ?_)
          clear hK K hHeld
          try simp only [rgS]
          refine rgO 1 (fun K hK => ?_)
          go_simp
          (with_reducible refine HX5.out.mono ?_)
          rintro e w6 (⟨hb, _⟩ | ⟨_, hG⟩)
          · exact absurd hb HN.out
          · obtain ⟨gb, rfl, hgb, hat, hg6⟩ := hG
            have hg56 := (grown_drewN (w := w5) 1 (some (W.heap.size + 2))).trans hg6
            have hR6 := HI5.out.res.grown hg56 (by intro e; injection e with e; omega)
            have hE6 := HI5.out.err.grown hg56 (by intro e; injection e with e; omega)
            have HC := Lib.hid (pol_catch W.heap.size (W.heap.size + 1) gb w6 _ hR6 hE6 (by omega))
            have hs5 := HI5.out.sz
            have hgb5 : w5.heap.size ≤ gb := hgb
            have g1 := grownBy_setCell w6 W.heap.size 0 (.slice none 0 0)
            have g2 := grownBy_setCell (w6.setCell ⟨W.heap.size, 0, none⟩ (.slice none 0 0)) (W.heap.size + 1) 0 (.iface 66 (.pointer (some ⟨gb, 0, none⟩)))
            have hR8 := (hR6.setCell 0 (.slice none 0 0)).grown g2 (by intro e; injection e with e; omega)
            have hE8 := (hE6.grown g1 (by intro e; injection e with e; omega)).setCell 0 (.iface 66 (.pointer (some ⟨gb, 0, none⟩)))
            have hA8 := (hat.grown g1 (by intro e; injection e with e; omega)).grown g2 (by intro e; injection e with e; omega)
            have hB8 := ((HI5.out.below.grown hg56 HI5.out.below.size (by intro k hk; injection hk with hk; omega)).grown g1 (Nat.le_trans HI5.out.below.size hg56.size) (by intro k hk; injection hk with hk; omega)).grown g2 (Nat.le_trans (Nat.le_trans HI5.out.below.size hg56.size) g1.size) (by intro k hk; injection hk with hk; omega)
            have HF := Lib.hid (And.intro hR8 (And.intro hE8 (And.intro hA8 hB8)))
            clear hg56 hR6 hE6 g1 g2 hR8 hE8 hA8 hB8 hat hg6
            refine leaves_cons (f := 54) (args := #[.pointer (some ⟨W.heap.size, 0, none⟩), .pointer (some ⟨W.heap.size + 1, 0, none⟩)]) (by simp) (by simp [go_sem]) ?_
            refine HC.out.mono ?_
            rintro e u' w3 ⟨rfl, rfl, hw3⟩
            obtain ⟨hR8, hE8, hA8, hB8⟩ := HF.out
            rw [← hw3] at hR8 hE8 hA8 hB8
            have e0 : w3.cell? ⟨W.heap.size, 0, none⟩ = some (.slice none 0 0) := hR8.cell 0
            have d8 : w3.cell? ⟨W.heap.size + 1, 0, none⟩ = some (.iface 66 (.pointer (some ⟨gb, 0, none⟩))) := hE8.cell 0
            have HF2 := Lib.hid (And.intro (hA8.cell 0) (And.intro (hA8.cell 1) hB8))
            clear hR8 hE8 hA8 hB8 HF HC hw3
            simp [Leaves, settle, results, Tryz.results27, go_sem, e0, d8]
            rw [HRS3.out]
            exact ⟨none, 0, 0, _, rfl, ⟨none, 0, rfl, by simp, fun h => absurd rfl h⟩, .inr (.inr ⟨HN.out, HXP.out, gb, rfl, HF2.out.1, HF2.out.2.1, by omega⟩), HF2.out.2.2⟩
        case ordB =>
          go_simp
          (with_reducible refine HX5.out.mono ?_)
          rintro e w6 (⟨hb, _⟩ | ⟨_, hG⟩)
          · exact absurd hb HN.out
          · obtain ⟨gb, rfl, hgb, hat, hg6⟩ := hG
            have hg56 := (grown_drewN (w := w5) 1 (some (W.heap.size + 2))).trans hg6
            have hR6 := HI5.out.res.grown hg56 (by intro e; injection e with e; omega)
            have hE6 := HI5.out.err.grown hg56 (by intro e; injection e with e; omega)
            have HC := Lib.hid (pol_catch W.heap.size (W.heap.size + 1) gb w6 _ hR6 hE6 (by omega))
            have hs5 := HI5.out.sz
            have hgb5 : w5.heap.size ≤ gb := hgb
            have g1 := grownBy_setCell w6 W.heap.size 0 (.slice none 0 0)
            have g2 := grownBy_setCell (w6.setCell ⟨W.heap.size, 0, none⟩ (.slice none 0 0)) (W.heap.size + 1) 0 (.iface 66 (.pointer (some ⟨gb, 0, none⟩)))
            have hR8 := (hR6.setCell 0 (.slice none 0 0)).grown g2 (by intro e; injection e with e; omega)
            have hE8 := (hE6.grown g1 (by intro e; injection e with e; omega)).setCell 0 (.iface 66 (.pointer (some ⟨gb, 0, none⟩)))
            have hA8 := (hat.grown g1 (by intro e; injection e with e; omega)).grown g2 (by intro e; injection e with e; omega)
            have hB8 := ((HI5.out.below.grown hg56 HI5.out.below.size (by intro k hk; injection hk with hk; omega)).grown g1 (Nat.le_trans HI5.out.below.size hg56.size) (by intro k hk; injection hk with hk; omega)).grown g2 (Nat.le_trans (Nat.le_trans HI5.out.below.size hg56.size) g1.size) (by intro k hk; injection hk with hk; omega)
            have HF := Lib.hid (And.intro hR8 (And.intro hE8 (And.intro hA8 hB8)))
            clear hg56 hR6 hE6 g1 g2 hR8 hE8 hA8 hB8 hat hg6
            refine leaves_cons (f := 54) (args := #[.pointer (some ⟨W.heap.size, 0, none⟩), .pointer (some ⟨W.heap.size + 1, 0, none⟩)]) (by simp) (by simp [go_sem]) ?_
            refine HC.out.mono ?_
            rintro e u' w3 ⟨rfl, rfl, hw3⟩
            obtain ⟨hR8, hE8, hA8, hB8⟩ := HF.out
            rw [← hw3] at hR8 hE8 hA8 hB8
            have e0 : w3.cell? ⟨W.heap.size, 0, none⟩ = some (.slice none 0 0) := hR8.cell 0
            have d8 : w3.cell? ⟨W.heap.size + 1, 0, none⟩ = some (.iface 66 (.pointer (some ⟨gb, 0, none⟩))) := hE8.cell 0
            have HF2 := Lib.hid (And.intro (hA8.cell 0) (And.intro (hA8.cell 1) hB8))
            clear hR8 hE8 hA8 hB8 HF HC hw3
            simp [Leaves, settle, results, Tryz.results27, go_sem, e0, d8]
            rw [HRS3.out]
            exact ⟨none, 0, 0, _, rfl, ⟨none, 0, rfl, by simp, fun h => absurd rfl h⟩, .inr (.inr ⟨HN.out, HXP.out, gb, rfl, HF2.out.1, HF2.out.2.1, by omega⟩), HF2.out.2.2⟩
end Go.Proofs.YtcjfealalokjaaaGreatDoor
namespace Go.Proofs.YtcjfealalokjaaaGreatDoor
open Go Go.RowKit
/-- What is asked of a world: lex's tables. -/
structure Ask12 (w : World) : Prop where
  marks : Marks w
  max : MaxL w
theorem Ask12.below {w w' : World} (h : Ask12 w) (hb : Below w.heap.size w w') : Ask12 w' := ⟨h.marks.below hb, h.max.below hb⟩
theorem polScan_any (s : ByteArray) (w : World) (h : Ask12 w) : Calls Tryz.prog 26 #[.string s] w (ScanTells (scanL (strL s)) w) := by
  by_cases hl : 2048 < s.size
  · exact scan_long s w hl
  · exact scan_short s w h.marks h.max hl
theorem scanF_pos : ∀ (f : Nat) (l : List Int) (p : Nat) (acc : List TokM), (∀ t ∈ acc, 0 ≤ t.pos) → ∀ t ∈ (scanF f l p acc).1, 0 ≤ t.pos
  | 0, l, p, acc, _, t, ht => by cases ht
  | f + 1, l, p, acc, ha, t, ht => by
    by_cases he : (tokL (l.drop (gapM false l))).err = 0
    · by_cases hnil : l.drop (gapM false l) = []
      · rw [scanF_end hnil] at ht
        rcases List.mem_append.1 ht with ht | ht
        · exact ha t ht
        · rw [List.mem_singleton.1 ht]; show (0 : Int) ≤ ((p + gapM false l : Nat) : Int); omega
      · by_cases h5 : acc.length = 512
        · rw [scanF_many he hnil h5] at ht; cases ht
        · rw [scanF_go he hnil h5] at ht
          refine scanF_pos f _ _ _ (fun u hu => ?_) t ht
          rcases List.mem_append.1 hu with hu | hu
          · exact ha u hu
          · rw [List.mem_singleton.1 hu]; show (0 : Int) ≤ ((p + gapM false l : Nat) : Int); omega
    · rw [scanF_err he] at ht; cases ht
theorem scanL_pos (l : List Int) : ∀ t ∈ (scanL l).1, 0 ≤ t.pos := fun t ht => by
  unfold scanL at ht
  split at ht
  · cases ht
  · exact scanF_pos _ _ _ _ (fun u hu => by cases hu) t ht
set_option maxRecDepth 100000 in
set_option maxHeartbeats 4000000 in
theorem polParse_any (s : ByteArray) (w : World) (h : Ask12 w) : Calls Tryz.prog 10 #[.string s] w (PTells w (parseL (strL s))) := by
  have HS := Lib.hid (polScan_any s w h)
  have HM := Lib.hid h.marks
  have HE := Lib.hid (fun h => scan_ends (s := strL s) (strL_bd s) h)
  have HSM := Lib.hid (scanL_small (strL s))
  have HPS := Lib.hid (scanL_pos (strL s))
  obtain ⟨R, hR⟩ : ∃ R, R = scanL (strL s) := ⟨_, rfl⟩
  obtain ⟨res, hres⟩ : ∃ r, r = parseL (strL s) := ⟨_, rfl⟩
  rw [← hres]
  have HRES : Hid (res = if R.2.1 ≠ 0 then ([], R.2) else rulesGo 0 R.1) := Lib.hid (by rw [hres, hR]; rfl)
  rw [← hR] at HS HE HSM HPS
  clear h hR hres
  go_enter Tryz.func10, Tryz.ntmps10
  go_wp2_with fail
  (with_reducible refine HS.out.mono ?_)
  rintro e w1 ⟨A, c, v, rfl, hc, ht, hv, hb⟩
  rcases hv with ⟨h1, h2, rfl⟩ | ⟨h1, h2, rfl⟩ | ⟨h1, h2, hat⟩
  · obtain ⟨s1, s2, s3⟩ := HE.out h1
    have HRD := Lib.hid (polRead_any s2 (by omega) (fun t ht => (HSM.out t ht).1) s1 HPS.out w1 (HM.out.below hb) A c ht)
    have HRS : Hid (res = rulesGo 0 R.1) := Lib.hid (HRES.out.trans (if_neg (by simpa using h1)))
    have HB := Lib.hid hb
    obtain ⟨n, hn⟩ : ∃ n, n = R.1.length := ⟨_, rfl⟩
    rw [← hn] at HRD ⊢
    obtain ⟨q, hq⟩ : ∃ q, q = rulesGo 0 R.1 := ⟨_, rfl⟩
    rw [← hq] at HRD HRS
    clear h1 h2 hc ht hb s1 s2 s3 hn hq
    go_wp2_with fail
    (with_reducible refine HRD.out.mono ?_)
    rintro e w2 ⟨B, m, d, v2, rfl, hp, he2, hb2⟩
    have HF := Lib.hid (And.intro hp (And.intro he2 hb2))
    clear hp he2 hb2
    go_wp2
    go_ret2
    rw [HRS.out]
    refine ⟨B, m, d, v2, rfl, RepP.keeps (Keeps.refl _ _) (fun b (hb : w1.heap.size ≤ b) _ => Nat.le_trans HB.out.size hb) HF.out.1, ?_, HB.out.trans (HF.out.2.2.mono HB.out.size)⟩
    rcases HF.out.2.1 with k | k | ⟨k1, k2, k3⟩
    · exact .inl k
    · exact .inr (.inl k)
    · exact .inr (.inr ⟨k1, k2, AtE.low k3 HB.out.size⟩)
  · have HRS : Hid (res = ([], R.2)) := Lib.hid (HRES.out.trans (if_pos h1))
    have HF := Lib.hid (And.intro h1 (And.intro h2 hb))
    obtain ⟨n, hn⟩ : ∃ n, n = R.1.length := ⟨_, rfl⟩
    obtain ⟨er, her⟩ : ∃ n, n = R.2.1 := ⟨_, rfl⟩
    have HER := Lib.hid her
    rw [← hn, ← her]
    clear h1 h2 hb hc ht hn her
    go_wp2
    go_ret2
    rw [HRS.out]
    exact ⟨none, 0, 0, _, rfl, ⟨none, 0, rfl, by simp, fun h => absurd rfl h⟩, .inr (.inl ⟨HF.out.1, HF.out.2.1, by rw [← HER.out]; rfl⟩), HF.out.2.2⟩
  · have HRS : Hid (res = ([], R.2)) := Lib.hid (HRES.out.trans (if_pos h1))
    have HF := Lib.hid (And.intro h1 (And.intro h2 (And.intro hat hb)))
    obtain ⟨ab, rfl, _, _, _⟩ := hat
    obtain ⟨n, hn⟩ : ∃ n, n = R.1.length := ⟨_, rfl⟩
    rw [← hn]
    clear h1 h2 hb hc ht hn
    go_wp2
    go_ret2
    rw [HRS.out]
    exact ⟨none, 0, 0, _, rfl, ⟨none, 0, rfl, by simp, fun h => absurd rfl h⟩, .inr (.inr ⟨HF.out.1, HF.out.2.1, HF.out.2.2.1⟩), HF.out.2.2.2⟩
end Go.Proofs.YtcjfealalokjaaaGreatDoor
namespace Go.Proofs.YtcjfealalokjaaaGreatDoor
open Go Go.RowKit
/-- What Parse tells of the example. -/
theorem exParse_any (w : World) (h : Ask12 w) : Calls Tryz.prog 10 #[.string exPS] w fun e w' => ∃ b o c b2 o2 c2, e = .returned (.tuple #[.slice (some ⟨b, o, none⟩) 1 c, .nilIface]) ∧ RepP w' (fun k => k < w'.heap.size) [exPR] (.slice (some ⟨b, o, none⟩) 1 c) ∧ b < w'.heap.size ∧ w'.cell? ⟨b, o + 2, none⟩ = some (.slice (some ⟨b2, o2, none⟩) 1 c2) ∧ b2 < w'.heap.size ∧ w'.cell? ⟨b2, o2, none⟩ = some (.int .i64 7) ∧ Below w.heap.size w w' := by
  refine (polParse_any exPS w h).mono ?_
  rintro e w' ⟨A, n, c, v, rfl, hrep, he, hb⟩
  rw [exPParse] at hrep he
  have hv : v = .nilIface := by
    rcases he with ⟨_, _, h⟩ | ⟨h, _⟩ | ⟨h, _⟩
    · exact h
    · exact absurd rfl h
    · exact absurd rfl h
  subst hv
  have hall := hrep.all
  obtain ⟨A', c', e, _, hc⟩ := hrep
  injection e with e1 e2 e3
  subst e1; subst e2; subst e3
  obtain ⟨b, o, rfl, _, hbl, hr⟩ := hc (by simp)
  obtain ⟨a0, a1, a2, a3, hx, k0, k1, k2, k3⟩ := hr 0 (by simp)
  obtain ⟨vs, vw, e, _, ⟨AW, cw, rfl, _, hw⟩⟩ := hx
  simp only [Value.agg.injEq, Array.mk.injEq, List.cons.injEq, and_true] at e
  obtain ⟨rfl, rfl, rfl, rfl⟩ := e
  obtain ⟨b2, o2, rfl, _, hbl2, hes⟩ := hw (by show exPR.whens ≠ []; exact List.cons_ne_nil _ _)
  obtain ⟨v, hx, hf⟩ := hes.at 0 (by show 0 < exPR.whens.length; decide)
  obtain ⟨X, x3, xc, rfl, _, q0, _⟩ := hx.cells hf
  refine ⟨b, o, c, b2, o2, cw, rfl, hall, hbl, ?_, hbl2, ?_, hb⟩
  · have k2' : w'.cell? ⟨b, o + 0 * 4 + 2, none⟩ = some (.slice (some ⟨b2, o2, none⟩) 1 cw) := k2
    simpa using k2'
  · have q0' : w'.cell? ⟨b2, o2 + 0 * 5, none⟩ = some (.int .i64 7) := q0
    simpa using q0'
set_option maxRecDepth 100000 in
set_option maxHeartbeats 4000000 in
theorem alive12_any (w : World) (h : Ask12 w) : Calls Tryz.prog 9 #[] w fun e w' => e = .returned (.bool true) ∧ Below w.heap.size w w' := by
  have HS := Lib.hid (exParse_any w h)
  unfold exPS at HS
  have HP := Lib.hid (fun (w' : World) (v : Value) (hb : Below w.heap.size w w') (hv : RepP w' (fun k => k < w'.heap.size) [exPR] v) => polPrint_any (h.below hb).marks (Nat.le_refl _) (by simp) (fun x hx => ((greatP_look exPGreat).2 x hx).held) hv (fun hr => (right_bl hr (greatP_look exPGreat).2).1) (fun hr => Nat.le_trans (right_bl hr (greatP_look exPGreat).2).2 (by decide)))
  unfold PrTells at HP
  simp only [exPRight, exPPrint, if_true] at HP
  unfold exPP at HP
  clear h
  go_enter Tryz.func9, Tryz.ntmps9
  go_wp2_with fail
  (with_reducible refine HS.out.mono ?_)
  rintro e w1 ⟨b, o, c, b2, o2, c2, rfl, hrep, hbl, k2, hbl2, q0, hb⟩
  have HP1 := Lib.hid (HP.out w1 _ hb hrep)
  have HB := Lib.hid hb
  clear hb hrep HP HS
  go_wp2_with fail
  (with_reducible refine HP1.out.mono ?_)
  rintro e w2 ⟨rfl, hb2⟩
  have HB2 := Lib.hid (HB.out.trans (hb2.mono HB.out.size))
  have x2 := (hb2.cell (p := ⟨b, o + 2, none⟩) hbl).trans k2
  have y0 := (hb2.cell (p := ⟨b2, o2, none⟩) hbl2).trans q0
  clear hb2 k2 q0 HP1
  go_wp2_with fail
  go_ret
  exact ⟨rfl, HB2.out⟩
end Go.Proofs.YtcjfealalokjaaaGreatDoor
