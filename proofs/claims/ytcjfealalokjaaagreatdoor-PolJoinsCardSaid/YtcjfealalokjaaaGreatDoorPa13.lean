/- PolNamed, PolOpd, PolList, PolItems: merged. -/
import Derived.Test.YtcjfealalokjaaaGreatDoorPa12
set_option linter.all false
namespace Go.Proofs.YtcjfealalokjaaaGreatDoor
open Go Go.RowKit
def namedOf (r : List TokM) : ResE :=
  if isT r 1 wTrue then (.mk 1 E0 1 [] (hdT r).pos, r.drop 1, 0)
  else if isT r 1 wFalse then (.mk 1 E0 0 [] (hdT r).pos, r.drop 1, 0)
  else if isT r 1 wClaim then (if (claimT (r.drop 1)).2.2 ≠ 0 then (ex0, (claimT (r.drop 1)).2) else (.mk 5 (claimT (r.drop 1)).1 0 [] (hdT r).pos, (claimT (r.drop 1)).2.1, 0))
  else if (hdT r).kind = 1 ∧ kept (hdT r).text = false then (.mk 4 (hdT r).text 0 [] (hdT r).pos, r.drop 1, 0)
  else (ex0, r, 120)
theorem opd_named (g : Option (List TokM → ResE)) (r : List TokM) : opdOf g r =
    if isT r 4 kOpen then (if (deepOf g r).2.2 ≠ 0 then deepOf g r else if isT (deepOf g r).2.1 4 kShut then ((deepOf g r).1, (deepOf g r).2.1.drop 1, 0) else (ex0, (deepOf g r).2.1, 120))
    else if (hdT r).kind = 3 then (.mk 2 E0 (hdT r).num [] (hdT r).pos, r.drop 1, 0)
    else if (hdT r).kind = 2 then (.mk 3 (hdT r).text 0 [] (hdT r).pos, r.drop 1, 0)
    else namedOf r := by
  unfold opdOf namedOf
  have e1 : (if isT r 4 kOpen = true then (match g with | none => (ex0, r, 121) | some g => if (g (r.drop 1)).2.2 ≠ 0 then g (r.drop 1) else if isT (g (r.drop 1)).2.1 4 kShut then ((g (r.drop 1)).1, (g (r.drop 1)).2.1.drop 1, 0) else (ex0, (g (r.drop 1)).2.1, 120)) else ((ex0, r, 0) : ResE)) = if isT r 4 kOpen = true then (if (deepOf g r).2.2 ≠ 0 then deepOf g r else if isT (deepOf g r).2.1 4 kShut then ((deepOf g r).1, (deepOf g r).2.1.drop 1, 0) else (ex0, (deepOf g r).2.1, 120)) else ((ex0, r, 0) : ResE) := by
    by_cases h : isT r 4 kOpen = true
    · rw [if_pos h, if_pos h]
      cases g with
      | none => show _ = if (121 : Int) ≠ 0 then _ else _; rw [if_pos (by decide)]; rfl
      | some g => rfl
    · rw [if_neg h, if_neg h]
  by_cases h : isT r 4 kOpen = true
  · rw [if_pos h, if_pos h] at e1
    rw [if_pos h, if_pos h]; exact e1
  rw [if_neg h, if_neg h]
  by_cases h3 : (hdT r).kind = 3
  · rw [if_pos h3, if_pos h3]
  rw [if_neg h3, if_neg h3]
  by_cases h2 : (hdT r).kind = 2
  · rw [if_pos h2, if_pos h2]
  rw [if_neg h2, if_neg h2]
  by_cases ht : isT r 1 wTrue = true
  · rw [if_pos ht, if_pos ht]
  rw [if_neg ht, if_neg ht]
  by_cases hf : isT r 1 wFalse = true
  · rw [if_pos hf, if_pos hf]
  rw [if_neg hf, if_neg hf]
  by_cases hc : isT r 1 wClaim = true
  · rw [if_pos hc, if_pos hc]
    have d1 : (r.drop 1).drop 1 = r.drop 2 := List.drop_drop
    have d2 : (r.drop 1).drop 2 = r.drop 3 := List.drop_drop
    have d3 : (r.drop 1).drop 3 = r.drop 4 := List.drop_drop
    unfold claimT
    rw [d1, d2, d3]
    by_cases a1 : isT (r.drop 1) 4 kOpen = false
    · rw [if_pos a1, if_pos a1, if_pos (show (120 : Int) ≠ 0 by decide)]
    rw [if_neg a1, if_neg a1]
    by_cases a2 : (hdT (r.drop 2)).kind ≠ 2
    · rw [if_pos a2, if_pos a2, if_pos (show (120 : Int) ≠ 0 by decide)]
    rw [if_neg a2, if_neg a2]
    by_cases a3 : isT (r.drop 3) 4 kShut = false
    · rw [if_pos a3, if_pos a3, if_pos (show (120 : Int) ≠ 0 by decide)]
    rw [if_neg a3, if_neg a3, if_neg (show ¬ (0 : Int) ≠ 0 by decide)]
  rw [if_neg hc, if_neg hc]
theorem hd_size {ts : List TokM} (h : ∀ t ∈ ts, t.text.size ≤ 1000000) (k : Nat) : (hdT (ts.drop k)).text.size ≤ 1000000 := by
  by_cases hk : k < ts.length
  · exact h _ (List.mem_of_getElem? (hd_at hk))
  · rw [List.drop_eq_nil_of_le (by omega)]; decide
theorem claim_size {ts : List TokM} (h : ∀ t ∈ ts, t.text.size ≤ 1000000) (k : Nat) : (claimT (ts.drop k)).1.size ≤ 1000000 := by
  have := hd_size h (k + 1)
  unfold claimT
  rw [drop_one]
  split
  · show E0.size ≤ 1000000; decide
  · split
    · show E0.size ≤ 1000000; decide
    · split
      · show E0.size ≤ 1000000; decide
      · exact this
set_option maxRecDepth 100000 in
set_option maxHeartbeats 2000000 in
theorem named_any {rb tb o c nr dp : Nat} {ts : List TokM} (ho : AllOwn ts) (hz : ts.length ≤ 1000000) (hsz : ∀ t ∈ ts, t.text.size ≤ 1000000) {w : World} {k : Nat} (h : Rdr w rb tb o c ts k nr dp) (he : Ends (ts.drop k)) :
    Calls Tryz.prog 219 #[.pointer (some ⟨rb, 0, none⟩)] w (Tells w rb tb o c ts nr dp (namedOf (ts.drop k))) := by
  have HLT := Lib.hid h.blk.lt
  have HTL := Lib.hid h.lt
  have HML := Lib.hid (Blk.lt h.marks)
  have hk := ends_lt he
  obtain ⟨w1, hw1⟩ : ∃ W, W = w.alloc (.cells #[.int .i64 0, .string ⟨#[]⟩, .int .i64 0, .slice none 0 0, .int .i64 0] 42) := ⟨_, rfl⟩
  have HG1 : Hid (w.grownBy w1 none) := Lib.hid (by rw [hw1]; exact World.grownBy_alloc _ _ none)
  have HR1 := Lib.hid (h.keep HG1.out)
  have HZ1 : Hid (Blk w1 w.heap.size 42 zerosE) := Lib.hid (by rw [hw1]; exact blkNew w zerosE _)
  have HS1 : Hid (w1.heap.size = w.heap.size + 1) := Lib.hid (by rw [hw1]; simp)
  have hmem : hdT (ts.drop k) ∈ ts := List.mem_of_getElem? (hd_at hk)
  have hts := hsz _ hmem
  have HAH := Lib.hid (polAhead_any HR1.out (hd_at hk))
  have HSA := Lib.hid (fun W (hr : Rdr W rb tb o c ts k nr dp) => polSaid_any hr (hd_at hk))
  have hxs : (saidT (hdT (ts.drop k))).size ≤ 1000000 := by unfold saidT; split; exact hts; decide
  have hst := said_iffW (k := k) ho (s := wTrue) (by decide) (by decide)
  have hsf := said_iffW (k := k) ho (s := wFalse) (by decide) (by decide)
  have hsc := said_iffW (k := k) ho (s := wClaim) (by decide) (by decide)
  have hsv : varW (saidT (hdT (ts.drop k))) = decide ((hdT (ts.drop k)).kind = 1 ∧ kept (hdT (ts.drop k)).text = false) := var_said (ho.drop k)
  have hvx : (hdT (ts.drop k)).kind = 1 → saidT (hdT (ts.drop k)) = (hdT (ts.drop k)).text := fun h1 => if_pos (.inl h1)
  have HNE : Hid (∀ s, isT (ts.drop k) 1 s = true → Ends (ts.drop (k + 1))) := Lib.hid (fun s h1 => by have := he.next h1 (by decide); rwa [drop_one] at this)
  have HNK : Hid ((hdT (ts.drop k)).kind = 1 → Ends (ts.drop (k + 1))) := Lib.hid (fun h1 => by have := he.tail (by rw [h1]; decide); rwa [drop_one] at this)
  have HGU := Lib.hid (fun W (hr : Rdr W rb tb o c ts k nr dp) => polGiveUp_any hr (hd_at hk) 120)
  have HCL := Lib.hid (fun W hr hE => claimed_any (w := W) (rb := rb) (tb := tb) (o := o) (c := c) (k := k + 1) (nr := nr) (dp := dp) ho hz hr hE)
  have HIV := Lib.hid (fun W (hm : Marks W) => isVariable_any (saidT (hdT (ts.drop k))) W hm (by omega))
  have HWR : Hid (wrap64 ((k : Int) + 1) = ((k + 1 : Nat) : Int)) := Lib.hid (by unfold wrap64; omega)
  obtain ⟨res, hres⟩ : ∃ r, r = namedOf (ts.drop k) := ⟨_, rfl⟩
  rw [← hres]
  unfold namedOf at hres
  rw [drop_one] at hres
  obtain ⟨pz, hpz⟩ : ∃ p, p = hdT (ts.drop k) := ⟨_, rfl⟩
  rw [← hpz] at HAH HSA HGU HIV HNK hxs hst hsf hsc hsv hres hvx
  obtain ⟨x, hx⟩ : ∃ x, x = saidT pz := ⟨_, rfl⟩
  rw [← hx] at HSA HIV hxs hst hsf hsc hsv hvx
  have HPP := Lib.hid hpz
  clear hpz
  obtain ⟨p0, p1, p2, p3⟩ := pz
  simp only at HAH HGU HNK hres hsv hvx
  have hf := fun w => fieldPos (.int .i64 p0) (.string p1) (.int .i64 p2) (.int .i64 p3) w
  have HRES0 := Lib.hid hres
  have HVX := Lib.hid hvx
  have HSV := Lib.hid hsv
  clear h hx hmem hts hk hres hvx hsv
  have START : ∀ (Q : Ending → World → Prop), Calls Tryz.prog 219 #[.pointer (some ⟨rb, 0, none⟩)] w Q → Calls Tryz.prog 219 #[.pointer (some ⟨rb, 0, none⟩)] w Q := fun _ h => h
  clear START
  by_cases hb : isT (ts.drop k) 1 wTrue = true
  · have HRS : Hid (res = (.mk 1 E0 1 [] p3, ts.drop (k + 1), 0)) := Lib.hid (HRES0.out.trans (if_pos hb))
    obtain rfl := hst.2 hb
    clear hst hsf hsc hxs
    have he1 := HNE.out wTrue hb
    have HE1 := Lib.hid he1
    clear hb he1 HGU HCL HIV HNK HVX HSV HNE HRES0
    go_enter Tryz.func219, Tryz.ntmps219
    go_wp2_with fail
    rw [← hw1]
    (with_reducible refine HAH.out.mono ?_)
    rintro e w2 ⟨rfl, hg2⟩
    obtain ⟨w3, hw3⟩ : ∃ W, W = w2.alloc (.cells #[.int .i64 1, .string ⟨#[]⟩, .int .i64 0, .slice none 0 0, .int .i64 p3] 42) := ⟨_, rfl⟩
    have g3 : w2.grownBy w3 none := by rw [hw3]; exact World.grownBy_alloc _ _ none
    have hv3 : Blk w3 w2.heap.size 42 [.int .i64 1, .string ⟨#[]⟩, .int .i64 0, .slice none 0 0, .int .i64 p3] := by rw [hw3]; exact blkNew w2 _ _
    have HS3 := Lib.hid (HSA.out w3 ((HR1.out.keep hg2).keep g3))
    have HW3 := Lib.hid hw3
    have HX3 := Lib.hid (And.intro hg2 (And.intro g3 hv3))
    clear hg2 g3 hv3 hw3
    go_wp2_with fail
    rw [← HW3.out]
    (with_reducible refine HS3.out.mono ?_)
    rintro e w4 ⟨rfl, hg4⟩
    have HV4 := Lib.hid (HX3.out.2.2.grownN hg4)
    have HR4 := Lib.hid (((HR1.out.keep HX3.out.1).keep HX3.out.2.1).keep hg4)
    have HZ4 := Lib.hid (((HZ1.out.grownN HX3.out.1).grownN HX3.out.2.1).grownN hg4)
    have HG4 := Lib.hid (((HG1.out.trans HX3.out.1).trans HX3.out.2.1).trans hg4)
    have HS4 : Hid (w1.heap.size ≤ w2.heap.size ∧ w2.heap.size < w4.heap.size) := Lib.hid ⟨HX3.out.1.size, HV4.out.lt⟩
    clear hg4
    obtain ⟨y0, y1, y2, y3, y4⟩ := cells5 HV4.out
    obtain ⟨t0, t1, t2, t3, t4⟩ := frozen5 HV4.out
    obtain ⟨⟨_, c1, _, _⟩, _, u1, _, _⟩ := HR4.out.cells
    have l4 := HV4.out.lt
    have l5 := HR4.out.blk.lt
    have l7 : rb < w2.heap.size := by have := HS4.out; have := HLT.out; have := HS1.out; omega
    have l8 : w.heap.size < w2.heap.size := by have := HS4.out; have := HS1.out; omega
    go_upto_region 14 with fail
    refine wp_gen (fun W5 hW5 => ?_)
    rw [HWR.out] at hW5
    have b1 := HLT.out
    have b2 := HTL.out
    have b3 := HML.out
    have b4 := HS1.out
    have b5 := HS4.out
    have gs := grownBy_setCell w4 w2.heap.size 2 (.int .i64 1)
    have gr := grownBy_setCell (w4.setCell ⟨w2.heap.size, 2, none⟩ (.int .i64 1)) rb 1 (.int .i64 ((k + 1 : Nat) : Int))
    have hv6 := (Blk.setCell HV4.out 2 (.int .i64 1)).grown gr (by intro e; injection e with e; omega)
    have hz6 := (HZ4.out.grown gs (by intro e; injection e with e; omega)).grown gr (by intro e; injection e with e; omega)
    have hr6 := (HR4.out.other gs (by omega) (by omega) (by omega)).goes (k + 1)
    have hg6 := ((Keep.toRow (rb := rb) HG4.out).andThen gs (by intro j hj; injection hj with hj; left; omega)).trans gr
    rw [← hW5] at hv6 hz6 hr6 hg6
    replace hv6 : Blk W5 w2.heap.size 42 [.int .i64 1, .string ⟨#[]⟩, .int .i64 1, .slice none 0 0, .int .i64 p3] := hv6

    have HSET := Lib.hid (blk_setE hz6 (.int .i64 1) (.string ⟨#[]⟩) (.int .i64 1) (.slice none 0 0) (.int .i64 p3))
    have HT := Lib.hid (Tells.set (dp := dp) (k := k + 1) (r := (.mk 1 E0 1 [] p3, ts.drop (k + 1), 0)) rfl rfl HE1.out (RepE.leaf W5 (fun b => w1.heap.size ≤ b) _ _ _ _ (by decide)) hr6 hg6 HSET.out.2 (Nat.le_refl _) (by rw [HS1.out]; omega) HLT.out HTL.out HML.out rfl)
    rw [← HRS.out] at HT
    obtain ⟨z0, z1, z2, z3, z4⟩ := cells5 hz6
    obtain ⟨x0, x1, x2, x3, x4⟩ := cells5 hv6
    obtain ⟨f0, f1, f2, f3, f4⟩ := frozen5 hz6
    have l6 := hz6.lt
    clear hv6 hz6 hr6 hg6 hW5 b1 b2 b3 b4 b5 gs gr y0 y1 y2 y3 y4 t0 t1 t2 t3 t4 c1 u1 l4 l5
    go_wp2
    exact bodyPost_ret (results_blkE Tryz.results219 _ _ w.heap.size _ _ _ rfl HSET.out.1 Tryz.underlying42 rfl sizeExpr) rfl HT.out
  by_cases hb2 : isT (ts.drop k) 1 wFalse = true
  · have HRS : Hid (res = (.mk 1 E0 0 [] p3, ts.drop (k + 1), 0)) := Lib.hid (HRES0.out.trans ((if_neg hb).trans (if_pos hb2)))
    obtain rfl := hsf.2 hb2
    clear hst hsf hsc hxs
    have he1 := HNE.out wFalse hb2
    have HE1 := Lib.hid he1
    clear hb2 he1 HGU HCL HIV HNK HVX HSV HNE HRES0
    go_enter Tryz.func219, Tryz.ntmps219
    go_wp2_with fail
    rw [← hw1]
    (with_reducible refine HAH.out.mono ?_)
    rintro e w2 ⟨rfl, hg2⟩
    obtain ⟨w3, hw3⟩ : ∃ W, W = w2.alloc (.cells #[.int .i64 1, .string ⟨#[]⟩, .int .i64 0, .slice none 0 0, .int .i64 p3] 42) := ⟨_, rfl⟩
    have g3 : w2.grownBy w3 none := by rw [hw3]; exact World.grownBy_alloc _ _ none
    have hv3 : Blk w3 w2.heap.size 42 [.int .i64 1, .string ⟨#[]⟩, .int .i64 0, .slice none 0 0, .int .i64 p3] := by rw [hw3]; exact blkNew w2 _ _
    have HS3 := Lib.hid (HSA.out w3 ((HR1.out.keep hg2).keep g3))
    have HW3 := Lib.hid hw3
    have HX3 := Lib.hid (And.intro hg2 (And.intro g3 hv3))
    clear hg2 g3 hv3 hw3
    go_wp2_with fail
    rw [← HW3.out]
    (with_reducible refine HS3.out.mono ?_)
    rintro e w4 ⟨rfl, hg4⟩
    have HV4 := Lib.hid (HX3.out.2.2.grownN hg4)
    have HR4 := Lib.hid (((HR1.out.keep HX3.out.1).keep HX3.out.2.1).keep hg4)
    have HZ4 := Lib.hid (((HZ1.out.grownN HX3.out.1).grownN HX3.out.2.1).grownN hg4)
    have HG4 := Lib.hid (((HG1.out.trans HX3.out.1).trans HX3.out.2.1).trans hg4)
    have HS4 : Hid (w1.heap.size ≤ w2.heap.size ∧ w2.heap.size < w4.heap.size) := Lib.hid ⟨HX3.out.1.size, HV4.out.lt⟩
    clear hg4
    obtain ⟨y0, y1, y2, y3, y4⟩ := cells5 HV4.out
    obtain ⟨t0, t1, t2, t3, t4⟩ := frozen5 HV4.out
    obtain ⟨⟨_, c1, _, _⟩, _, u1, _, _⟩ := HR4.out.cells
    have l4 := HV4.out.lt
    have l5 := HR4.out.blk.lt
    have l7 : rb < w2.heap.size := by have := HS4.out; have := HLT.out; have := HS1.out; omega
    have l8 : w.heap.size < w2.heap.size := by have := HS4.out; have := HS1.out; omega
    go_upto_region 14 with fail
    refine wp_gen (fun W5 hW5 => ?_)
    rw [HWR.out] at hW5
    have b1 := HLT.out
    have b2 := HTL.out
    have b3 := HML.out
    have b4 := HS1.out
    have b5 := HS4.out
    have gr := grownBy_setCell w4 rb 1 (.int .i64 ((k + 1 : Nat) : Int))
    have hv6 := HV4.out.grown gr (by intro e; injection e with e; omega)
    have hz6 := HZ4.out.grown gr (by intro e; injection e with e; omega)
    have hr6 := HR4.out.goes (k + 1)
    have hg6 := (Keep.toRow (rb := rb) HG4.out).trans gr
    rw [← hW5] at hv6 hz6 hr6 hg6

    have HSET := Lib.hid (blk_setE hz6 (.int .i64 1) (.string ⟨#[]⟩) (.int .i64 0) (.slice none 0 0) (.int .i64 p3))
    have HT := Lib.hid (Tells.set (dp := dp) (k := k + 1) (r := (.mk 1 E0 0 [] p3, ts.drop (k + 1), 0)) rfl rfl HE1.out (RepE.leaf W5 (fun b => w1.heap.size ≤ b) _ _ _ _ (by decide)) hr6 hg6 HSET.out.2 (Nat.le_refl _) (by rw [HS1.out]; omega) HLT.out HTL.out HML.out rfl)
    rw [← HRS.out] at HT
    obtain ⟨z0, z1, z2, z3, z4⟩ := cells5 hz6
    obtain ⟨x0, x1, x2, x3, x4⟩ := cells5 hv6
    obtain ⟨f0, f1, f2, f3, f4⟩ := frozen5 hz6
    have l6 := hz6.lt
    clear hv6 hz6 hr6 hg6 hW5 b1 b2 b3 b4 b5 gr y0 y1 y2 y3 y4 t0 t1 t2 t3 t4 c1 u1 l4 l5
    go_wp2
    exact bodyPost_ret (results_blkE Tryz.results219 _ _ w.heap.size _ _ _ rfl HSET.out.1 Tryz.underlying42 rfl sizeExpr) rfl HT.out
  by_cases hb3 : isT (ts.drop k) 1 wClaim = true
  · have HRS0 : Hid (res = if (claimT (ts.drop (k + 1))).2.2 ≠ 0 then (ex0, (claimT (ts.drop (k + 1))).2) else (.mk 5 (claimT (ts.drop (k + 1))).1 0 [] p3, (claimT (ts.drop (k + 1))).2.1, 0)) := Lib.hid (HRES0.out.trans ((if_neg hb).trans ((if_neg hb2).trans (if_pos hb3))))
    obtain rfl := hsc.2 hb3
    clear hst hsf hsc hxs
    have he1 := HNE.out wClaim hb3
    have HC2 := Lib.hid (fun W hr => HCL.out W hr he1)
    have HQS := Lib.hid (claim_size hsz (k + 1))
    obtain ⟨q, hq⟩ : ∃ q, q = claimT (ts.drop (k + 1)) := ⟨_, rfl⟩
    rw [← hq] at HC2 HRS0 HQS
    clear hb hb2 hb3 he1 HGU HCL HIV HNK HVX HSV HNE HRES0 hq
    go_enter Tryz.func219, Tryz.ntmps219
    go_wp2_with fail
    rw [← hw1]
    (with_reducible refine HAH.out.mono ?_)
    rintro e w2 ⟨rfl, hg2⟩
    obtain ⟨w3, hw3⟩ : ∃ W, W = w2.alloc (.cells #[.int .i64 1, .string ⟨#[]⟩, .int .i64 0, .slice none 0 0, .int .i64 p3] 42) := ⟨_, rfl⟩
    have g3 : w2.grownBy w3 none := by rw [hw3]; exact World.grownBy_alloc _ _ none
    have hv3 : Blk w3 w2.heap.size 42 [.int .i64 1, .string ⟨#[]⟩, .int .i64 0, .slice none 0 0, .int .i64 p3] := by rw [hw3]; exact blkNew w2 _ _
    have HS3 := Lib.hid (HSA.out w3 ((HR1.out.keep hg2).keep g3))
    have HW3 := Lib.hid hw3
    have HX3 := Lib.hid (And.intro hg2 (And.intro g3 hv3))
    clear hg2 g3 hv3 hw3
    go_wp2_with fail
    rw [← HW3.out]
    (with_reducible refine HS3.out.mono ?_)
    rintro e w4 ⟨rfl, hg4⟩
    have HV4 := Lib.hid (HX3.out.2.2.grownN hg4)
    have HR4 := Lib.hid (((HR1.out.keep HX3.out.1).keep HX3.out.2.1).keep hg4)
    have HZ4 := Lib.hid (((HZ1.out.grownN HX3.out.1).grownN HX3.out.2.1).grownN hg4)
    have HG4 := Lib.hid (((HG1.out.trans HX3.out.1).trans HX3.out.2.1).trans hg4)
    have HS4 : Hid (w1.heap.size ≤ w2.heap.size ∧ w2.heap.size < w4.heap.size) := Lib.hid ⟨HX3.out.1.size, HV4.out.lt⟩
    clear hg4
    obtain ⟨y0, y1, y2, y3, y4⟩ := cells5 HV4.out
    obtain ⟨t0, t1, t2, t3, t4⟩ := frozen5 HV4.out
    obtain ⟨⟨_, c1, _, _⟩, _, u1, _, _⟩ := HR4.out.cells
    have l4 := HV4.out.lt
    have l5 := HR4.out.blk.lt
    have l7 : rb < w2.heap.size := by have := HS4.out; have := HLT.out; have := HS1.out; omega
    have l8 : w.heap.size < w2.heap.size := by have := HS4.out; have := HS1.out; omega
    have HC4 := Lib.hid (HC2.out _ (HR4.out.goes (k + 1)))
    go_wp2_with fail
    rw [HWR.out]
    (with_reducible refine HC4.out.mono ?_)
    rintro e w6 (⟨h0, k6, rfl, hr6, he6, hrd6, hg6⟩ | ⟨h0, hG⟩)
    · have HRS : Hid (res = (.mk 5 q.1 0 [] p3, q.2.1, 0)) := Lib.hid (HRS0.out.trans (if_neg (by simpa using h0)))
      have gr := grownBy_setCell w4 rb 1 (.int .i64 ((k + 1 : Nat) : Int))
      have b1 := HLT.out
      have b2 := HTL.out
      have b3 := HML.out
      have b4 := HS1.out
      have b5 := HS4.out
      have hv5 := (HV4.out.grown gr (by intro e; injection e with e; omega)).grown hg6 (by intro e; injection e with e; omega)
      have hz5 := (HZ4.out.grown gr (by intro e; injection e with e; omega)).grown hg6 (by intro e; injection e with e; omega)
      have HV6 := Lib.hid hv5
      have HZ6 := Lib.hid hz5
      have HG6 := Lib.hid (((Keep.toRow (rb := rb) HG4.out).trans gr).trans hg6)
      have HH6 := Lib.hid (And.intro hr6 (And.intro he6 hrd6))
      obtain ⟨q1, qr, qe⟩ := q
      simp only at h0 hr6 HRS HH6 HQS
      clear y0 y1 y2 y3 y4 t0 t1 t2 t3 t4 c1 u1 hv5 hz5 hr6 he6 hrd6 hg6 gr b1 b2 b3 b4 b5
      obtain ⟨y0, y1, y2, y3, y4⟩ := cells5 HV6.out
      obtain ⟨t0, t1, t2, t3, t4⟩ := frozen5 HV6.out
      have l6 := HV6.out.lt
      go_upto_region 14 with fail
      refine wp_gen (fun W5 hW5 => ?_)
      obtain ⟨hr6, he6, hrd6⟩ := HH6.out
      have b1 := HLT.out
      have b2 := HTL.out
      have b3 := HML.out
      have b4 := HS1.out
      have b5 := HS4.out
      have gs := grownBy_setCell w6 w2.heap.size 0 (.int .i64 5)
      have gt := grownBy_setCell (w6.setCell ⟨w2.heap.size, 0, none⟩ (.int .i64 5)) w2.heap.size 1 (.string q1)
      have hv6 := Blk.setCell (Blk.setCell HV6.out 0 (.int .i64 5)) 1 (.string q1)
      have hz6 := (HZ6.out.grown gs (by intro e; injection e with e; omega)).grown gt (by intro e; injection e with e; omega)
      have hr8 := (hrd6.other gs (by omega) (by omega) (by omega)).other gt (by omega) (by omega) (by omega)
      have hg8 := (HG6.out.andThen gs (by intro j hj; injection hj with hj; left; omega)).andThen gt (by intro j hj; injection hj with hj; left; omega)
      rw [← hW5] at hv6 hz6 hr8 hg8
      replace hv6 : Blk W5 w2.heap.size 42 [.int .i64 5, .string q1, .int .i64 0, .slice none 0 0, .int .i64 p3] := hv6
      have HSET := Lib.hid (blk_setE hz6 (.int .i64 5) (.string q1) (.int .i64 0) (.slice none 0 0) (.int .i64 p3))
      have HT := Lib.hid (Tells.set (dp := dp) (k := k6) (r := (.mk 5 q1 0 [] p3, qr, 0)) rfl hr6 he6 (RepE.leaf W5 (fun b => w1.heap.size ≤ b) _ _ _ _ (by have := HQS.out; omega)) hr8 hg8 HSET.out.2 (Nat.le_refl _) (by rw [HS1.out]; omega) HLT.out HTL.out HML.out rfl)
      rw [← HRS.out] at HT
      obtain ⟨z0, z1, z2, z3, z4⟩ := cells5 hz6
      clear y0 y1 y2 y3 y4 t0 t1 t2 t3 t4
      obtain ⟨x0, x1, x2, x3, x4⟩ := cells5 hv6
      obtain ⟨f0, f1, f2, f3, f4⟩ := frozen5 hz6
      clear hv6 hz6 hr8 hg8 hW5 b1 b2 b3 b4 b5 gs gt hr6 he6 hrd6 h0
      go_wp2
      exact bodyPost_ret (results_blkE Tryz.results219 _ _ w.heap.size _ _ _ rfl HSET.out.1 Tryz.underlying42 rfl sizeExpr) rfl HT.out
    · have HRS : Hid (res = (ex0, q.2)) := Lib.hid (HRS0.out.trans (if_pos h0))
      have HF := Lib.hid (hG.from ((Keep.toRow (rb := rb) HG4.out).trans (grownBy_setCell w4 rb 1 (.int .i64 ((k + 1 : Nat) : Int)))))
      obtain ⟨b, rfl, _⟩ := hG
      go_wp2
      refine ⟨rfl, ?_⟩
      rw [HRS.out]
      exact .inr ⟨h0, HF.out⟩
  have e1 : (x.toList == [116, 114, 117, 101]) = false := neLit (fun e => hb (hst.1 e))
  have e2 : (x.toList == [102, 97, 108, 115, 101]) = false := neLit (fun e => hb2 (hsf.1 e))
  have e3 : (x.toList == [99, 108, 97, 105, 109]) = false := neLit (fun e => hb3 (hsc.1 e))
  by_cases hv : p0 = 1 ∧ kept p1 = false
  · have HRS : Hid (res = (.mk 4 p1 0 [] p3, ts.drop (k + 1), 0)) := Lib.hid (HRES0.out.trans ((if_neg hb).trans ((if_neg hb2).trans ((if_neg hb3).trans (if_pos hv)))))
    have HE1 := Lib.hid (HNK.out hv.1)
    have hvv : varW x = true := by rw [HSV.out]; exact decide_eq_true hv
    rw [hvv] at HIV
    obtain rfl := HVX.out hv.1
    have hx6 := hxs
    clear hv hvv hb hb2 hb3 hst hsf hsc HGU HCL HNK HVX HSV HNE HRES0
    go_enter Tryz.func219, Tryz.ntmps219
    go_wp2_with fail
    rw [← hw1]
    (with_reducible refine HAH.out.mono ?_)
    rintro e w2 ⟨rfl, hg2⟩
    obtain ⟨w3, hw3⟩ : ∃ W, W = w2.alloc (.cells #[.int .i64 1, .string ⟨#[]⟩, .int .i64 0, .slice none 0 0, .int .i64 p3] 42) := ⟨_, rfl⟩
    have g3 : w2.grownBy w3 none := by rw [hw3]; exact World.grownBy_alloc _ _ none
    have hv3 : Blk w3 w2.heap.size 42 [.int .i64 1, .string ⟨#[]⟩, .int .i64 0, .slice none 0 0, .int .i64 p3] := by rw [hw3]; exact blkNew w2 _ _
    have HS3 := Lib.hid (HSA.out w3 ((HR1.out.keep hg2).keep g3))
    have HW3 := Lib.hid hw3
    have HX3 := Lib.hid (And.intro hg2 (And.intro g3 hv3))
    clear hg2 g3 hv3 hw3
    go_wp2_with fail
    rw [← HW3.out]
    (with_reducible refine HS3.out.mono ?_)
    rintro e w4 ⟨rfl, hg4⟩
    have HV4 := Lib.hid (HX3.out.2.2.grownN hg4)
    have HR4 := Lib.hid (((HR1.out.keep HX3.out.1).keep HX3.out.2.1).keep hg4)
    have HZ4 := Lib.hid (((HZ1.out.grownN HX3.out.1).grownN HX3.out.2.1).grownN hg4)
    have HG4 := Lib.hid (((HG1.out.trans HX3.out.1).trans HX3.out.2.1).trans hg4)
    have HS4 : Hid (w1.heap.size ≤ w2.heap.size ∧ w2.heap.size < w4.heap.size) := Lib.hid ⟨HX3.out.1.size, HV4.out.lt⟩
    clear hg4
    obtain ⟨y0, y1, y2, y3, y4⟩ := cells5 HV4.out
    obtain ⟨t0, t1, t2, t3, t4⟩ := frozen5 HV4.out
    obtain ⟨⟨_, c1, _, _⟩, _, u1, _, _⟩ := HR4.out.cells
    have l4 := HV4.out.lt
    have l5 := HR4.out.blk.lt
    have l7 : rb < w2.heap.size := by have := HS4.out; have := HLT.out; have := HS1.out; omega
    have l8 : w.heap.size < w2.heap.size := by have := HS4.out; have := HS1.out; omega
    have HI4 := Lib.hid (HIV.out w4 HR4.out.marks)
    go_wp2_with fail
    (with_reducible refine HI4.out.mono ?_)
    rintro e w6 ⟨rfl, hb6⟩
    have g6 := grownBy_of_below hb6 none
    have HV6 := Lib.hid (HV4.out.grownN g6)
    have HZ6 := Lib.hid (HZ4.out.grownN g6)
    have HR6 := Lib.hid (HR4.out.keep g6)
    have HG6 := Lib.hid (HG4.out.trans g6)
    clear hb6 g6 y0 y1 y2 y3 y4 t0 t1 t2 t3 t4 c1 u1 l4 l5
    obtain ⟨y0, y1, y2, y3, y4⟩ := cells5 HV6.out
    obtain ⟨t0, t1, t2, t3, t4⟩ := frozen5 HV6.out
    obtain ⟨⟨_, c1, _, _⟩, _, u1, _, _⟩ := HR6.out.cells
    have l4 := HV6.out.lt
    have l5 := HR6.out.blk.lt
    go_upto_region 14 with fail
    refine wp_gen (fun W5 hW5 => ?_)
    rw [HWR.out] at hW5
    have b1 := HLT.out
    have b2 := HTL.out
    have b3 := HML.out
    have b4 := HS1.out
    have b5 := HS4.out
    have gr := grownBy_setCell w6 rb 1 (.int .i64 ((k + 1 : Nat) : Int))
    have gs := grownBy_setCell (w6.setCell ⟨rb, 1, none⟩ (.int .i64 ((k + 1 : Nat) : Int))) w2.heap.size 0 (.int .i64 4)
    have gt := grownBy_setCell ((w6.setCell ⟨rb, 1, none⟩ (.int .i64 ((k + 1 : Nat) : Int))).setCell ⟨w2.heap.size, 0, none⟩ (.int .i64 4)) w2.heap.size 1 (.string x)
    have hv6 := Blk.setCell (Blk.setCell (HV6.out.grown gr (by intro e; injection e with e; omega)) 0 (.int .i64 4)) 1 (.string x)
    have hz6 := ((HZ6.out.grown gr (by intro e; injection e with e; omega)).grown gs (by intro e; injection e with e; omega)).grown gt (by intro e; injection e with e; omega)
    have hr8 := ((HR6.out.goes (k + 1)).other gs (by omega) (by omega) (by omega)).other gt (by omega) (by omega) (by omega)
    have hg8 := (((Keep.toRow (rb := rb) HG6.out).trans gr).andThen gs (by intro j hj; injection hj with hj; left; omega)).andThen gt (by intro j hj; injection hj with hj; left; omega)
    rw [← hW5] at hv6 hz6 hr8 hg8
    replace hv6 : Blk W5 w2.heap.size 42 [.int .i64 4, .string x, .int .i64 0, .slice none 0 0, .int .i64 p3] := hv6
    have HSET := Lib.hid (blk_setE hz6 (.int .i64 4) (.string x) (.int .i64 0) (.slice none 0 0) (.int .i64 p3))
    have HT := Lib.hid (Tells.set (dp := dp) (k := k + 1) (r := (.mk 4 x 0 [] p3, ts.drop (k + 1), 0)) rfl rfl HE1.out (RepE.leaf W5 (fun b => w1.heap.size ≤ b) _ _ _ _ (by omega)) hr8 hg8 HSET.out.2 (Nat.le_refl _) (by rw [HS1.out]; omega) HLT.out HTL.out HML.out rfl)
    rw [← HRS.out] at HT
    obtain ⟨z0, z1, z2, z3, z4⟩ := cells5 hz6
    clear y0 y1 y2 y3 y4 t0 t1 t2 t3 t4 c1 u1 l4 l5
    obtain ⟨x0, x1, x2, x3, x4⟩ := cells5 hv6
    obtain ⟨f0, f1, f2, f3, f4⟩ := frozen5 hz6
    clear hv6 hz6 hr8 hg8 hW5 b1 b2 b3 b4 b5 gs gt gr
    go_wp2
    exact bodyPost_ret (results_blkE Tryz.results219 _ _ w.heap.size _ _ _ rfl HSET.out.1 Tryz.underlying42 rfl sizeExpr) rfl HT.out
  · have HRS : Hid (res = (ex0, ts.drop k, 120)) := Lib.hid (HRES0.out.trans ((if_neg hb).trans ((if_neg hb2).trans ((if_neg hb3).trans (if_neg hv)))))
    have hvv : varW x = false := by rw [HSV.out]; exact decide_eq_false hv
    rw [hvv] at HIV
    clear hv hvv hb hb2 hb3 hst hsf hsc HCL HNK HVX HSV HNE HRES0
    go_enter Tryz.func219, Tryz.ntmps219
    go_wp2_with fail
    rw [← hw1]
    (with_reducible refine HAH.out.mono ?_)
    rintro e w2 ⟨rfl, hg2⟩
    obtain ⟨w3, hw3⟩ : ∃ W, W = w2.alloc (.cells #[.int .i64 1, .string ⟨#[]⟩, .int .i64 0, .slice none 0 0, .int .i64 p3] 42) := ⟨_, rfl⟩
    have g3 : w2.grownBy w3 none := by rw [hw3]; exact World.grownBy_alloc _ _ none
    have hv3 : Blk w3 w2.heap.size 42 [.int .i64 1, .string ⟨#[]⟩, .int .i64 0, .slice none 0 0, .int .i64 p3] := by rw [hw3]; exact blkNew w2 _ _
    have HS3 := Lib.hid (HSA.out w3 ((HR1.out.keep hg2).keep g3))
    have HW3 := Lib.hid hw3
    have HX3 := Lib.hid (And.intro hg2 (And.intro g3 hv3))
    clear hg2 g3 hv3 hw3
    go_wp2_with fail
    rw [← HW3.out]
    (with_reducible refine HS3.out.mono ?_)
    rintro e w4 ⟨rfl, hg4⟩
    have HV4 := Lib.hid (HX3.out.2.2.grownN hg4)
    have HR4 := Lib.hid (((HR1.out.keep HX3.out.1).keep HX3.out.2.1).keep hg4)
    have HZ4 := Lib.hid (((HZ1.out.grownN HX3.out.1).grownN HX3.out.2.1).grownN hg4)
    have HG4 := Lib.hid (((HG1.out.trans HX3.out.1).trans HX3.out.2.1).trans hg4)
    have HS4 : Hid (w1.heap.size ≤ w2.heap.size ∧ w2.heap.size < w4.heap.size) := Lib.hid ⟨HX3.out.1.size, HV4.out.lt⟩
    clear hg4
    obtain ⟨y0, y1, y2, y3, y4⟩ := cells5 HV4.out
    obtain ⟨t0, t1, t2, t3, t4⟩ := frozen5 HV4.out
    obtain ⟨⟨_, c1, _, _⟩, _, u1, _, _⟩ := HR4.out.cells
    have l4 := HV4.out.lt
    have l5 := HR4.out.blk.lt
    have l7 : rb < w2.heap.size := by have := HS4.out; have := HLT.out; have := HS1.out; omega
    have l8 : w.heap.size < w2.heap.size := by have := HS4.out; have := HS1.out; omega
    have HI4 := Lib.hid (HIV.out w4 HR4.out.marks)
    go_wp2_with fail
    (with_reducible refine HI4.out.mono ?_)
    rintro e w6 ⟨rfl, hb6⟩
    have HG6 := Lib.hid (HGU.out w6 (HR4.out.keep (grownBy_of_below hb6 none)))
    have HK6 := Lib.hid (Keep.toRow (rb := rb) (HG4.out.trans (grownBy_of_below hb6 none)))
    clear hb6 y0 y1 y2 y3 y4 t0 t1 t2 t3 t4 c1 u1 l4 l5
    go_wp2_with fail
    (with_reducible refine HG6.out.mono ?_)
    rintro e w7 hG
    have HF := Lib.hid (hG.from HK6.out)
    obtain ⟨b, rfl, _⟩ := hG
    go_wp2
    refine ⟨rfl, ?_⟩
    rw [HRS.out]
    have hpp := congrArg TokM.pos HPP.out
    exact .inr ⟨(by show (120 : Int) ≠ 0; decide), by rw [show (hdT ((ex0, ts.drop k, 120) : ResE).2.1).pos = p3 from hpp.symm]; exact HF.out⟩
end Go.Proofs.YtcjfealalokjaaaGreatDoor
namespace Go.Proofs.YtcjfealalokjaaaGreatDoor
open Go Go.RowKit
theorem eg_either : ∀ args w, (callFunc 110 args).run Tryz.prog w = .ok (.enter 110 args) w := enters_of Tryz.func110 (by kernel_rfl) rfl
set_option maxRecDepth 100000 in
set_option maxHeartbeats 2000000 in
theorem operand_any {rb tb o c nr dp : Nat} {ts : List TokM} {g : Option (List TokM → ResE)} (hn : g = none → dp = 12) (hs : ∀ n, g = some n → dp < 12 ∧ PartAsk 110 rb tb o c ts nr (dp + 1) n)
    (ho : AllOwn ts) (hz : ts.length ≤ 1000000) (hsz : ∀ t ∈ ts, t.text.size ≤ 1000000) (hnm : ∀ t ∈ ts, True) : PartAsk 208 rb tb o c ts nr dp (opdOf g) := fun w k h he => by
  have HLT := Lib.hid h.blk.lt
  have HTL := Lib.hid h.lt
  have HML := Lib.hid (Blk.lt h.marks)
  have hk := ends_lt he
  obtain ⟨w1, hw1⟩ : ∃ W, W = w.alloc (.cells #[.int .i64 0, .string ⟨#[]⟩, .int .i64 0, .slice none 0 0, .int .i64 0] 42) := ⟨_, rfl⟩
  have HG1 : Hid (w.grownBy w1 none) := Lib.hid (by rw [hw1]; exact World.grownBy_alloc _ _ none)
  have HR1 := Lib.hid (h.keep HG1.out)
  have HZ1 : Hid (Blk w1 w.heap.size 42 zerosE) := Lib.hid (by rw [hw1]; exact blkNew w zerosE _)
  have HS1 : Hid (w1.heap.size = w.heap.size + 1) := Lib.hid (by rw [hw1]; simp)
  have hts := hd_size hsz k
  have HAH := Lib.hid (polAhead_any HR1.out (hd_at hk))
  have HSA := Lib.hid (fun W (hr : Rdr W rb tb o c ts k nr dp) => polSaid_any hr (hd_at hk))
  have hmf : ∀ (fn : Fn) (first cap : Array Value) (w : World), (Instr.makeFunc fn first cap).run Tryz.prog w = .ok (.func fn first cap) w := fun _ _ _ _ => rfl
  have hso := said_iff (k := k) ho (s := kOpen) (by decide) (by decide)
  have HSH := Lib.hid (fun k => said_iff (k := k) ho (s := kShut) (by decide) (by decide))
  have HNO : Hid (isT (ts.drop k) 4 kOpen = true → Ends (ts.drop (k + 1))) := Lib.hid (fun h1 => by have := he.next h1 (by decide); rwa [drop_one] at this)
  have HNK : Hid ((hdT (ts.drop k)).kind ≠ 5 → Ends (ts.drop (k + 1))) := Lib.hid (fun h1 => by have := he.tail h1; rwa [drop_one] at this)
  have HDP := Lib.hid (fun W hr h1 => deeper_any (f := 110) eg_either hn hs hz (w := W) (k := k) hr he h1)
  have HNM := Lib.hid (fun W hr => named_any (w := W) (rb := rb) (tb := tb) (o := o) (c := c) (nr := nr) (dp := dp) (k := k) ho hz hsz hr he)
  have HTX := Lib.hid (fun W (hr : Rdr W rb tb o c ts k nr dp) (h2 : (hdT (ts.drop k)).kind = 2) => polText_yes hr (hd_at hk) h2 hz)
  have HMY := Lib.hid (fun W k6 (hr : Rdr W rb tb o c ts k6 nr dp) (h6 : k6 < ts.length) (hx : saidT (hdT (ts.drop k6)) = kShut) => polMust_yes hr (hd_at h6) hx hz)
  have HMN := Lib.hid (fun W k6 (hr : Rdr W rb tb o c ts k6 nr dp) (h6 : k6 < ts.length) (hx : saidT (hdT (ts.drop k6)) ≠ kShut) => polMust_no hr (hd_at h6) hx)
  have HWR : Hid (wrap64 ((k : Int) + 1) = ((k + 1 : Nat) : Int)) := Lib.hid (by unfold wrap64; omega)
  obtain ⟨res, hres⟩ : ∃ r, r = opdOf g (ts.drop k) := ⟨_, rfl⟩
  rw [← hres]
  rw [opd_named, drop_one] at hres
  obtain ⟨q, hq⟩ : ∃ q, q = deepOf g (ts.drop k) := ⟨_, rfl⟩
  obtain ⟨v, hv⟩ : ∃ v, v = namedOf (ts.drop k) := ⟨_, rfl⟩
  rw [← hq] at HDP hres
  rw [← hv] at HNM hres
  obtain ⟨pz, hpz⟩ : ∃ p, p = hdT (ts.drop k) := ⟨_, rfl⟩
  rw [← hpz] at HAH HSA HNK HTX hso hres hts
  obtain ⟨x, hx⟩ : ∃ x, x = saidT pz := ⟨_, rfl⟩
  rw [← hx] at HSA hso
  clear hpz hx
  obtain ⟨p0, p1, p2, p3⟩ := pz
  simp only at HAH HNK HTX hres hts
  have HRES0 := Lib.hid hres
  clear h hres hq hv hs hn
  by_cases hb : isT (ts.drop k) 4 kOpen = true
  · have HRS0 : Hid (res = if q.2.2 ≠ 0 then q else if isT q.2.1 4 kShut then (q.1, q.2.1.drop 1, 0) else (ex0, q.2.1, 120)) := Lib.hid (HRES0.out.trans (if_pos hb))
    have he1 := HNO.out hb
    obtain rfl := hso.2 hb
    clear hb hso HNM HTX HNK HNO HRES0
    go_enter Tryz.func208, Tryz.ntmps208
    go_wp2_with fail
    rw [← hw1]
    (with_reducible refine HAH.out.mono ?_)
    rintro e w2 ⟨rfl, hg2⟩
    obtain ⟨w3, hw3⟩ : ∃ W, W = w2.alloc (.cells #[.int .i64 p0, .string p1, .int .i64 p2, .int .i64 p3] 59) := ⟨_, rfl⟩
    have g3 : w2.grownBy w3 none := by rw [hw3]; exact World.grownBy_alloc _ _ none
    have hv3 : Blk w3 w2.heap.size 59 [.int .i64 p0, .string p1, .int .i64 p2, .int .i64 p3] := by rw [hw3]; exact blkNew w2 _ _
    have HS3 := Lib.hid (HSA.out w3 ((HR1.out.keep hg2).keep g3))
    have HW3 := Lib.hid hw3
    have HX3 := Lib.hid (And.intro hg2 (And.intro g3 hv3))
    clear hg2 g3 hv3 hw3
    go_wp2_with fail
    rw [← HW3.out]
    (with_reducible refine HS3.out.mono ?_)
    rintro e w4 ⟨rfl, hg4⟩
    have HV4 := Lib.hid (HX3.out.2.2.grownN hg4)
    have HR4 := Lib.hid (((HR1.out.keep HX3.out.1).keep HX3.out.2.1).keep hg4)
    have HZ4 := Lib.hid (((HZ1.out.grownN HX3.out.1).grownN HX3.out.2.1).grownN hg4)
    have HG4 := Lib.hid (((HG1.out.trans HX3.out.1).trans HX3.out.2.1).trans hg4)
    have HS4 : Hid (w1.heap.size ≤ w2.heap.size ∧ w2.heap.size < w4.heap.size) := Lib.hid ⟨HX3.out.1.size, HV4.out.lt⟩
    have y0 := HV4.out.cell 0
    have y1 := HV4.out.cell 1
    have y2 := HV4.out.cell 2
    have y3 := HV4.out.cell 3
    have l4 := HV4.out.lt
    have l5 := HR4.out.blk.lt
    have l7 : rb < w2.heap.size := by have := HS4.out; have := HLT.out; have := HS1.out; omega
    have l8 : w.heap.size < w2.heap.size := by have := HS4.out; have := HS1.out; omega
    clear hg4
    have HD4 := Lib.hid (HDP.out w4 HR4.out he1)
    go_wp2_with fail
    (with_reducible refine HD4.out.mono ?_)
    rintro e w5 hT
    by_cases h0 : q.2.2 = 0
    · obtain ⟨k6, d0, d1, d2, D, dn, dc, d4, rfl, hr6, he6, hrep6, hrd6, hg6⟩ := hT.ok h0
      obtain ⟨w6, hw6⟩ : ∃ W, W = w5.alloc (.cells #[.int .i64 d0, .string d1, .int .i64 d2, .slice D dn dc, .int .i64 d4] 42) := ⟨_, rfl⟩
      have g6 : w5.grownBy w6 none := by rw [hw6]; exact World.grownBy_alloc _ _ none
      have HV6 : Hid (Blk w6 w5.heap.size 42 [.int .i64 d0, .string d1, .int .i64 d2, .slice D dn dc, .int .i64 d4]) := Lib.hid (by rw [hw6]; exact blkNew w5 _ _)
      have HR6 := Lib.hid (hrd6.keep g6)
      have HZ6 := Lib.hid ((HZ4.out.grown hg6 (by intro e; injection e with e; have := HLT.out; omega)).grownN g6)
      have HG6 := Lib.hid (((Keep.toRow (rb := rb) HG4.out).trans hg6).trans (Keep.toRow g6))
      have HP6 := Lib.hid (RepE.keeps (Keeps.grown g6 (fun b _ e => by cases e)) (fun b (hb : w4.heap.size ≤ b) _ => show w1.heap.size ≤ b by have := HS4.out; omega) _ _ hrep6)
      have HW6 := Lib.hid hw6
      have hk6 := ends_lt he6
      have HS6 : Hid (w1.heap.size ≤ w5.heap.size) := Lib.hid (by have := hg6.size; have := HS4.out; omega)
      by_cases hsh : isT (ts.drop k6) 4 kShut = true
      · have HRS : Hid (res = (q.1, ts.drop (k6 + 1), 0)) := Lib.hid (by rw [HRS0.out, if_neg (by simpa using h0), hr6, if_pos hsh, drop_one])
        have he7 := he6.next hsh (by decide)
        rw [drop_one] at he7
        have HE7 := Lib.hid he7
        have HM6 := Lib.hid (HMY.out w6 k6 HR6.out hk6 ((HSH.out k6).2 hsh))
        clear hT h0 hr6 he6 hrep6 hrd6 hg6 g6 hw6 y0 y1 y2 y3 l4 l5 he7 hsh hk6
        go_wp2_with fail
        rw [← HW6.out]
        (with_reducible refine HM6.out.mono ?_)
        rintro e w7 ⟨rfl, hg7, hr7⟩
        have hz5 := HZ6.out.grown hg7 (by intro e; injection e with e; have := HLT.out; omega)
        have hv5 := HV6.out.grown hg7 (by intro e; injection e with e; have := HLT.out; have := HS6.out; have := HS1.out; omega)
        have hp5 := RepE.keeps (Keeps.grown hg7 (fun b (hb : w1.heap.size ≤ b) e => by injection e with e; have := HLT.out; have := HS1.out; omega)) (fun b hb _ => hb) _ _ HP6.out
        have hg5 := HG6.out.trans hg7
        have HSET := Lib.hid (blk_setE hz5 (.int .i64 d0) (.string d1) (.int .i64 d2) (.slice D dn dc) (.int .i64 d4))
        have HT := Lib.hid (Tells.set (dp := dp) (r := (q.1, ts.drop (k6 + 1), 0)) rfl rfl HE7.out hp5 hr7 hg5 HSET.out.2 (Nat.le_refl _) (by rw [HS1.out]; omega) HLT.out HTL.out HML.out rfl)
        rw [← HRS.out] at HT
        obtain ⟨z0, z1, z2, z3, z4⟩ := cells5 hz5
        obtain ⟨x0, x1, x2, x3, x4⟩ := cells5 hv5
        obtain ⟨f0, f1, f2, f3, f4⟩ := frozen5 hz5
        clear hz5 hv5 hp5 hg5 hg7 hr7
        go_wp2
        exact bodyPost_ret (results_blkE Tryz.results208 _ _ w.heap.size _ _ _ rfl HSET.out.1 Tryz.underlying42 rfl sizeExpr) rfl HT.out
      · have HRS : Hid (res = (ex0, ts.drop k6, 120)) := Lib.hid (by rw [HRS0.out, if_neg (by simpa using h0), hr6, if_neg hsh])
        have HM6 := Lib.hid (HMN.out w6 k6 HR6.out hk6 (fun e => hsh ((HSH.out k6).1 e)))
        clear hT h0 hr6 he6 hrep6 hrd6 hg6 g6 hw6 y0 y1 y2 y3 l4 l5 hsh hk6
        go_wp2_with fail
        rw [← HW6.out]
        (with_reducible refine HM6.out.mono ?_)
        rintro e w7 hG
        have HF := Lib.hid (hG.from HG6.out)
        obtain ⟨b, rfl, _⟩ := hG
        go_wp2
        refine ⟨rfl, ?_⟩
        rw [HRS.out]
        exact .inr ⟨(by show (120 : Int) ≠ 0; decide), HF.out⟩
    · have HRS : Hid (res = q) := Lib.hid (HRS0.out.trans (if_pos h0))
      have HF := Lib.hid ((hT.bad h0).from (Keep.toRow HG4.out))
      obtain ⟨b, rfl, _⟩ := hT.bad h0
      clear hT
      go_wp2
      refine ⟨rfl, ?_⟩
      rw [HRS.out]
      exact .inr ⟨h0, HF.out⟩
  have e1 : (x.toList == [40]) = false := neLit (fun e => hb (hso.1 e))
  have HRES1 := Lib.hid (HRES0.out.trans (if_neg hb))
  clear HDP HMY HMN HSH HNO hso hb HRES0
  by_cases h3 : p0 = 3
  · subst h3
    have HRS : Hid (res = (.mk 2 E0 p2 [] p3, ts.drop (k + 1), 0)) := Lib.hid (HRES1.out.trans (if_pos rfl))
    have HE1 := Lib.hid (HNK.out (by decide))
    clear HNM HTX HNK HRES1 hts
    go_enter Tryz.func208, Tryz.ntmps208
    go_wp2_with fail
    rw [← hw1]
    (with_reducible refine HAH.out.mono ?_)
    rintro e w2 ⟨rfl, hg2⟩
    obtain ⟨w3, hw3⟩ : ∃ W, W = w2.alloc (.cells #[.int .i64 3, .string p1, .int .i64 p2, .int .i64 p3] 59) := ⟨_, rfl⟩
    have g3 : w2.grownBy w3 none := by rw [hw3]; exact World.grownBy_alloc _ _ none
    have hv3 : Blk w3 w2.heap.size 59 [.int .i64 3, .string p1, .int .i64 p2, .int .i64 p3] := by rw [hw3]; exact blkNew w2 _ _
    have HS3 := Lib.hid (HSA.out w3 ((HR1.out.keep hg2).keep g3))
    have HW3 := Lib.hid hw3
    have HX3 := Lib.hid (And.intro hg2 (And.intro g3 hv3))
    clear hg2 g3 hv3 hw3
    go_wp2_with fail
    rw [← HW3.out]
    (with_reducible refine HS3.out.mono ?_)
    rintro e w4 ⟨rfl, hg4⟩
    have HV4 := Lib.hid (HX3.out.2.2.grownN hg4)
    have HR4 := Lib.hid (((HR1.out.keep HX3.out.1).keep HX3.out.2.1).keep hg4)
    have HZ4 := Lib.hid (((HZ1.out.grownN HX3.out.1).grownN HX3.out.2.1).grownN hg4)
    have HG4 := Lib.hid (((HG1.out.trans HX3.out.1).trans HX3.out.2.1).trans hg4)
    have HS4 : Hid (w1.heap.size ≤ w2.heap.size ∧ w2.heap.size < w4.heap.size) := Lib.hid ⟨HX3.out.1.size, HV4.out.lt⟩
    have y0 := HV4.out.cell 0
    have y1 := HV4.out.cell 1
    have y2 := HV4.out.cell 2
    have y3 := HV4.out.cell 3
    have l4 := HV4.out.lt
    have l5 := HR4.out.blk.lt
    have l7 : rb < w2.heap.size := by have := HS4.out; have := HLT.out; have := HS1.out; omega
    have l8 : w.heap.size < w2.heap.size := by have := HS4.out; have := HS1.out; omega
    clear hg4
    obtain ⟨⟨_, c1, _, _⟩, _, u1, _, _⟩ := HR4.out.cells
    go_upto_region 10 with fail
    refine wp_gen (fun W5 hW5 => ?_)
    replace hW5 : W5 = w4.setCell ⟨rb, 1, none⟩ (.int .i64 ((k + 1 : Nat) : Int)) := hW5
    have gr := grownBy_setCell w4 rb 1 (.int .i64 ((k + 1 : Nat) : Int))
    have hv6 := HV4.out.grown gr (by intro e; injection e with e; omega)
    have hz6 := HZ4.out.grown gr (by intro e; injection e with e; have := HLT.out; omega)
    have hr6 := HR4.out.goes (k + 1)
    have hg6 := (Keep.toRow (rb := rb) HG4.out).trans gr
    rw [← hW5] at hv6 hz6 hr6 hg6
    have HSET := Lib.hid (blk_setE hz6 (.int .i64 2) (.string ⟨#[]⟩) (.int .i64 p2) (.slice none 0 0) (.int .i64 p3))
    have HT := Lib.hid (Tells.set (dp := dp) (k := k + 1) (r := (.mk 2 E0 p2 [] p3, ts.drop (k + 1), 0)) rfl rfl HE1.out (RepE.leaf W5 (fun b => w1.heap.size ≤ b) _ _ _ _ (by decide)) hr6 hg6 HSET.out.2 (Nat.le_refl _) (by rw [HS1.out]; omega) HLT.out HTL.out HML.out rfl)
    rw [← HRS.out] at HT
    obtain ⟨z0, z1, z2, z3, z4⟩ := cells5 hz6
    clear y0 y1 y2 y3 l4 l5 c1 u1
    have x0 := hv6.cell 0
    have x1 := hv6.cell 1
    have x2 := hv6.cell 2
    have x3 := hv6.cell 3
    obtain ⟨f0, f1, f2, f3, f4⟩ := frozen5 hz6
    clear hv6 hz6 hr6 hg6 gr hW5
    go_wp2
    exact bodyPost_ret (results_blkE Tryz.results208 _ _ w.heap.size _ _ _ rfl HSET.out.1 Tryz.underlying42 rfl sizeExpr) rfl HT.out
  have HRES2 := Lib.hid (HRES1.out.trans (if_neg h3))
  clear HRES1
  by_cases h2 : p0 = 2
  · subst h2
    have HRS : Hid (res = (.mk 3 p1 0 [] p3, ts.drop (k + 1), 0)) := Lib.hid (HRES2.out.trans (if_pos rfl))
    have HE1 := Lib.hid (HNK.out (by decide))
    have hts2 := hts
    clear HNM HNK HRES2 hts
    go_enter Tryz.func208, Tryz.ntmps208
    go_wp2_with fail
    rw [← hw1]
    (with_reducible refine HAH.out.mono ?_)
    rintro e w2 ⟨rfl, hg2⟩
    obtain ⟨w3, hw3⟩ : ∃ W, W = w2.alloc (.cells #[.int .i64 2, .string p1, .int .i64 p2, .int .i64 p3] 59) := ⟨_, rfl⟩
    have g3 : w2.grownBy w3 none := by rw [hw3]; exact World.grownBy_alloc _ _ none
    have hv3 : Blk w3 w2.heap.size 59 [.int .i64 2, .string p1, .int .i64 p2, .int .i64 p3] := by rw [hw3]; exact blkNew w2 _ _
    have HS3 := Lib.hid (HSA.out w3 ((HR1.out.keep hg2).keep g3))
    have HW3 := Lib.hid hw3
    have HX3 := Lib.hid (And.intro hg2 (And.intro g3 hv3))
    clear hg2 g3 hv3 hw3
    go_wp2_with fail
    rw [← HW3.out]
    (with_reducible refine HS3.out.mono ?_)
    rintro e w4 ⟨rfl, hg4⟩
    have HV4 := Lib.hid (HX3.out.2.2.grownN hg4)
    have HR4 := Lib.hid (((HR1.out.keep HX3.out.1).keep HX3.out.2.1).keep hg4)
    have HZ4 := Lib.hid (((HZ1.out.grownN HX3.out.1).grownN HX3.out.2.1).grownN hg4)
    have HG4 := Lib.hid (((HG1.out.trans HX3.out.1).trans HX3.out.2.1).trans hg4)
    have HS4 : Hid (w1.heap.size ≤ w2.heap.size ∧ w2.heap.size < w4.heap.size) := Lib.hid ⟨HX3.out.1.size, HV4.out.lt⟩
    have y0 := HV4.out.cell 0
    have y1 := HV4.out.cell 1
    have y2 := HV4.out.cell 2
    have y3 := HV4.out.cell 3
    have l4 := HV4.out.lt
    have l5 := HR4.out.blk.lt
    have l7 : rb < w2.heap.size := by have := HS4.out; have := HLT.out; have := HS1.out; omega
    have l8 : w.heap.size < w2.heap.size := by have := HS4.out; have := HS1.out; omega
    clear hg4
    have HT4 := Lib.hid (HTX.out w4.drew (HR4.out.drewN 1) (by first | exact trivial | rfl))
    have HV5 := Lib.hid (HV4.out.drew)
    have HZ5 := Lib.hid (HZ4.out.drew)
    have HG5 := Lib.hid (HG4.out.trans (grown_drewN 1 none))
    go_wp2_with fail
    go_region_with (first | ((with_reducible refine HT4.out.mono ?_); rintro e w5 ⟨rfl, hg6, hr6⟩; have hv6 := HV5.out.grown hg6 (by intro e; injection e with e; omega); have hz6 := HZ5.out.grown hg6 (by intro e; injection e with e; have := HLT.out; omega); have HH := Lib.hid (And.intro hg6 (And.intro hr6 hz6)); have a3 := hv6.cell 3; have l9 := hv6.lt; obtain ⟨z0, z1, z2, z3, z4⟩ := cells5 hz6; obtain ⟨f0, f1, f2, f3, f4⟩ := frozen5 hz6; clear hg6 hr6 hv6 hz6))
    all_goals
      have HSET := Lib.hid (blk_setE HH.out.2.2 (.int .i64 3) (.string p1) (.int .i64 0) (.slice none 0 0) (.int .i64 p3))
      have HT := Lib.hid (Tells.set (dp := dp) (k := k + 1) (r := (.mk 3 p1 0 [] p3, ts.drop (k + 1), 0)) rfl rfl HE1.out (RepE.leaf _ (fun b => w1.heap.size ≤ b) _ _ _ _ (by omega)) HH.out.2.1 ((Keep.toRow (rb := rb) HG5.out).trans HH.out.1) HSET.out.2 (Nat.le_refl _) (by rw [HS1.out]; omega) HLT.out HTL.out HML.out rfl)
      rw [← HRS.out] at HT
      go_wp2
      exact bodyPost_ret (results_blkE Tryz.results208 _ _ w.heap.size _ _ _ rfl HSET.out.1 Tryz.underlying42 rfl sizeExpr) rfl HT.out
  have HRES3 : Hid (res = v) := Lib.hid (HRES2.out.trans (if_neg h2))
  have n2 : (p0 == 2) = false := by rw [beq_eq_false_iff_ne]; exact h2
  have n3 : (p0 == 3) = false := by rw [beq_eq_false_iff_ne]; exact h3
  clear HRES2 h2 h3 HTX HNK hts
  rw [HRES3.out]
  go_enter Tryz.func208, Tryz.ntmps208
  go_wp2_with fail
  rw [← hw1]
  (with_reducible refine HAH.out.mono ?_)
  rintro e w2 ⟨rfl, hg2⟩
  obtain ⟨w3, hw3⟩ : ∃ W, W = w2.alloc (.cells #[.int .i64 p0, .string p1, .int .i64 p2, .int .i64 p3] 59) := ⟨_, rfl⟩
  have g3 : w2.grownBy w3 none := by rw [hw3]; exact World.grownBy_alloc _ _ none
  have hv3 : Blk w3 w2.heap.size 59 [.int .i64 p0, .string p1, .int .i64 p2, .int .i64 p3] := by rw [hw3]; exact blkNew w2 _ _
  have HS3 := Lib.hid (HSA.out w3 ((HR1.out.keep hg2).keep g3))
  have HW3 := Lib.hid hw3
  have HX3 := Lib.hid (And.intro hg2 (And.intro g3 hv3))
  clear hg2 g3 hv3 hw3
  go_wp2_with fail
  rw [← HW3.out]
  (with_reducible refine HS3.out.mono ?_)
  rintro e w4 ⟨rfl, hg4⟩
  have HV4 := Lib.hid (HX3.out.2.2.grownN hg4)
  have HR4 := Lib.hid (((HR1.out.keep HX3.out.1).keep HX3.out.2.1).keep hg4)
  have HZ4 := Lib.hid (((HZ1.out.grownN HX3.out.1).grownN HX3.out.2.1).grownN hg4)
  have HG4 := Lib.hid (((HG1.out.trans HX3.out.1).trans HX3.out.2.1).trans hg4)
  have HS4 : Hid (w1.heap.size ≤ w2.heap.size ∧ w2.heap.size < w4.heap.size) := Lib.hid ⟨HX3.out.1.size, HV4.out.lt⟩
  have y0 := HV4.out.cell 0
  have y1 := HV4.out.cell 1
  have y2 := HV4.out.cell 2
  have y3 := HV4.out.cell 3
  have l4 := HV4.out.lt
  have l5 := HR4.out.blk.lt
  have l7 : rb < w2.heap.size := by have := HS4.out; have := HLT.out; have := HS1.out; omega
  have l8 : w.heap.size < w2.heap.size := by have := HS4.out; have := HS1.out; omega
  clear hg4
  have HN4 := Lib.hid (HNM.out w4 HR4.out)
  go_wp2_with fail
  (with_reducible refine HN4.out.mono ?_)
  rintro e w5 hT
  by_cases h0 : v.2.2 = 0
  · obtain ⟨k6, d0, d1, d2, D, dn, dc, d4, rfl, hr6, he6, hrep6, hrd6, hg6⟩ := hT.ok h0
    have hz5 := HZ4.out.grown hg6 (by intro e; injection e with e; have := HLT.out; omega)
    have hp5 := RepE.keeps (Keeps.refl _ _) (fun b (hb : w4.heap.size ≤ b) _ => show w1.heap.size ≤ b by have := HS4.out; omega) _ _ hrep6
    have hr5 := hrd6
    have hg5 := (Keep.toRow (rb := rb) HG4.out).trans hg6
    have HSET := Lib.hid (blk_setE hz5 (.int .i64 d0) (.string d1) (.int .i64 d2) (.slice D dn dc) (.int .i64 d4))
    have HT := Lib.hid (Tells.set (dp := dp) h0 hr6 he6 hp5 hr5 hg5 HSET.out.2 (Nat.le_refl _) (by rw [HS1.out]; omega) HLT.out HTL.out HML.out rfl)
    obtain ⟨z0, z1, z2, z3, z4⟩ := cells5 hz5
    obtain ⟨f0, f1, f2, f3, f4⟩ := frozen5 hz5
    clear hT h0 hr6 he6 hrep6 hrd6 hg6 hz5 hp5 hr5 hg5 y0 y1 y2 y3 l4 l5
    go_wp2
    exact bodyPost_ret (results_blkE Tryz.results208 _ _ w.heap.size _ _ _ rfl HSET.out.1 Tryz.underlying42 rfl sizeExpr) rfl HT.out
  · have HF := Lib.hid ((hT.bad h0).from (Keep.toRow HG4.out))
    obtain ⟨b, rfl, _⟩ := hT.bad h0
    clear hT
    go_wp2
    exact ⟨rfl, .inr ⟨h0, HF.out⟩⟩
end Go.Proofs.YtcjfealalokjaaaGreatDoor
namespace Go.Proofs.YtcjfealalokjaaaGreatDoor
open Go Go.RowKit
def moreGo (opd : List TokM → ResE) (l : List Ex) (r : List TokM) : List Ex × List TokM × Int :=
  if isT r 4 kComma = false then (l, r, 0)
  else if (opd (r.drop 1)).2.2 ≠ 0 then ([], (opd (r.drop 1)).2)
  else if _h : (opd (r.drop 1)).2.1.length < r.length then moreGo opd (l ++ [(opd (r.drop 1)).1]) (opd (r.drop 1)).2.1
  else ([], r, -1)
termination_by r.length
decreasing_by exact _h
def listL (opd : List TokM → ResE) (r : List TokM) : List Ex × List TokM × Int := if (opd r).2.2 ≠ 0 then ([], (opd r).2) else moreGo opd [(opd r).1] (opd r).2.1
/-- A sign at last. -/
def shutL (y : List Ex × List TokM × Int) : List Ex × List TokM × Int := if y.2.2 ≠ 0 then ([], y.2) else if isT y.2.1 4 kRight = true then (y.1, y.2.1.drop 1, 0) else ([], y.2.1, 120)
theorem right_comma {r : List TokM} (h : isT r 4 kRight = true) : isT r 4 kComma = false := by
  have := (isT_kind h).2
  unfold isT
  exact decide_eq_false (fun k => by rw [this] at k; exact absurd k.2 (by decide))
theorem shut_more {opd : List TokM → ResE} (hc : Cuts opd) (l : List Ex) (r : List TokM) (hr : Ends r) :
    shutL (moreGo opd l r) = if isT r 4 kRight = true then (l, r.drop 1, 0) else if isT r 4 kComma = false then ([], r, 120) else if (itemsGo opd r).2.2 ≠ 0 then ([], (itemsGo opd r).2) else (l ++ (itemsGo opd r).1, (itemsGo opd r).2) := by
  rw [moreGo]
  by_cases h1 : isT r 4 kComma = false
  · rw [if_pos h1]
    unfold shutL
    rw [if_neg (show ¬ (0 : Int) ≠ 0 by decide)]
    by_cases h2 : isT r 4 kRight = true
    · rw [if_pos h2, if_pos h2]
    · rw [if_neg h2, if_neg h2, if_pos h1]
  · rw [if_neg h1]
    have h2 : ¬ isT r 4 kRight = true := fun h => h1 (right_comma h)
    rw [if_neg h2, if_neg h1]
    have he := hr.next (Bool.not_eq_false _ |>.mp h1) (by decide)
    by_cases h3 : (opd (r.drop 1)).2.2 ≠ 0
    · rw [if_pos h3, itemsGo, if_pos h3]
      unfold shutL
      rw [if_pos h3, if_pos h3]
    rw [if_neg h3]
    obtain ⟨k, e1, e2, e3⟩ := hc _ he
    have hlt : (opd (r.drop 1)).2.1.length < r.length := by
      have h4 := hc.less he (Decidable.of_not_not h3)
      rw [List.length_drop] at h4; omega
    rw [dif_pos hlt, shut_more hc _ _ (by rw [e1]; exact e2)]
    conv => rhs; rw [itemsGo, if_neg h3]
    by_cases h4 : isT (opd (r.drop 1)).2.1 4 kRight = true
    · rw [if_pos h4, if_pos h4, if_neg (show ¬ (0 : Int) ≠ 0 by decide)]
    rw [if_neg h4, if_neg h4]
    by_cases h5 : isT (opd (r.drop 1)).2.1 4 kComma = false
    · rw [if_pos h5, if_pos h5, if_pos (show (120 : Int) ≠ 0 by decide)]
    rw [if_neg h5, if_neg h5, dif_pos hlt]
    by_cases h6 : (itemsGo opd (opd (r.drop 1)).2.1).2.2 ≠ 0
    · rw [if_pos h6, if_pos h6]
    · rw [if_neg h6, if_neg h6, List.append_assoc]; rfl
termination_by r.length
decreasing_by exact hlt
theorem shut_list {opd : List TokM → ResE} (hc : Cuts opd) (r : List TokM) (hr : Ends (r.drop 1)) (hl : (r.drop 1).length < r.length) : (itemsGo opd r).2 = (shutL (listL opd (r.drop 1))).2 ∧ ((itemsGo opd r).2.2 = 0 → itemsGo opd r = shutL (listL opd (r.drop 1))) := by
  unfold listL
  by_cases h3 : (opd (r.drop 1)).2.2 ≠ 0
  · rw [if_pos h3, itemsGo, if_pos h3]
    unfold shutL
    rw [if_pos h3]
    exact ⟨rfl, fun _ => rfl⟩
  rw [if_neg h3]
  obtain ⟨k, e1, e2, e3⟩ := hc _ hr
  have hlt : (opd (r.drop 1)).2.1.length < r.length := by
    have h4 := hc.less hr (Decidable.of_not_not h3)
    omega
  rw [shut_more hc _ _ (by rw [e1]; exact e2), itemsGo, if_neg h3]
  by_cases h4 : isT (opd (r.drop 1)).2.1 4 kRight = true
  · rw [if_pos h4, if_pos h4]; exact ⟨rfl, fun _ => rfl⟩
  rw [if_neg h4, if_neg h4]
  by_cases h5 : isT (opd (r.drop 1)).2.1 4 kComma = false
  · rw [if_pos h5, if_pos h5]; exact ⟨rfl, fun _ => rfl⟩
  rw [if_neg h5, if_neg h5, dif_pos hlt]
  by_cases h6 : (itemsGo opd (opd (r.drop 1)).2.1).2.2 ≠ 0
  · rw [if_pos h6]; exact ⟨rfl, fun h => absurd h h6⟩
  · rw [if_neg h6]; exact ⟨rfl, fun _ => rfl⟩
/-- What reading items tells. -/
def TellsL (w : World) (rb tb o c : Nat) (ts : List TokM) (nr dp : Nat) (r : List Ex × List TokM × Int) (e : Ending) (w' : World) : Prop :=
  (r.2.2 = 0 ∧ ∃ k A cc, e = .returned (.slice A r.1.length cc) ∧ r.2.1 = ts.drop k ∧ Ends (ts.drop k) ∧ RepL w' (fun b => w.heap.size ≤ b) r.1 (.slice A r.1.length cc) ∧ r.1 ≠ [] ∧ r.1.length ≤ k ∧ Rdr w' rb tb o c ts k nr dp ∧ w.grownBy w' (some rb)) ∨
  (r.2.2 ≠ 0 ∧ Gives w rb (hdT r.2.1).pos r.2.2 e w')
/-- Between two items. -/
structure LsI (w wr : World) (rb tb o c : Nat) (ts : List TokM) (nr dp j : Nat) (l : List Ex) (v : Value) (xs : List Value) : Prop where
  own : wr.ownsRow w.heap.size 42 5 v l.length xs
  flat : FlatE wr (fun b => w.heap.size ≤ b ∧ v.ownBlock ≠ some b) l xs
  rdr : Rdr wr rb tb o c ts j nr dp
  grown : w.grownBy wr (some rb)
  ends : Ends (ts.drop j)
  lt : rb < w.heap.size
  tl : tb < w.heap.size
  ml : 2 < w.heap.size
  cnt : l.length ≤ j
theorem LsI.keep {w wr w' : World} {rb tb o c : Nat} {ts : List TokM} {nr dp j j' : Nat} {l : List Ex} {v : Value} {xs : List Value} (h : LsI w wr rb tb o c ts nr dp j l v xs) (hg : wr.grownBy w' (some rb)) (hr : Rdr w' rb tb o c ts j' nr dp) (he : Ends (ts.drop j')) (hj : j ≤ j') : LsI w w' rb tb o c ts nr dp j' l v xs :=
  ⟨h.own.kept hg (.inr (fun e => by have := (h.own.lt _ e).1; have := h.lt; omega)), FlatE.keeps (Keeps.grown hg (fun b (hb : _ ∧ _) e => by injection e with e; have := h.lt; omega)) (fun b hb _ => hb) h.flat, hr, h.grown.trans hg, he, h.lt, h.tl, h.ml, Nat.le_trans h.cnt hj⟩
theorem infoExpr : (Tryz.prog.info? 42).map (fun i => (i.zero, i.size, i.bytes)) = some (some (.agg #[.int .i64 0, .string ByteArray.empty, .int .i64 0, .slice none 0 0, .int .i64 0]), 5, 64) := by kernel_rfl
theorem LsI.snoc {w w7 w8 : World} {rb tb o c : Nat} {ts : List TokM} {nr dp j base : Nat} {l : List Ex} {v v' : Value} {xs : List Value} {y : Ex} {d0 d1 d2 d3 d4 : Value} (h : LsI w w7 rb tb o c ts nr dp j l v xs) (hy : RepE w7 (fun b => base ≤ b) y (.agg #[d0, d1, d2, d3, d4])) (hvb : ∀ x, v.ownBlock = some x → x < base) (hbase : w.heap.size ≤ base)
    (ho : w8.ownsRow w.heap.size 42 5 v' (l.length + 1) (xs ++ [d0, d1, d2, d3, d4])) (hg : w7.grownBy w8 v.ownBlock) (hob : v'.ownBlock = v.ownBlock ∨ v'.ownBlock = some w7.heap.size) (hj : l.length + 1 ≤ j) : LsI w w8 rb tb o c ts nr dp j (l ++ [y]) v' (xs ++ [d0, d1, d2, d3, d4]) := by
  have hge : ∀ x, v.ownBlock = some x → w.heap.size ≤ x := fun x e => (h.own.lt x e).1
  have hT : ∀ b, v.ownBlock ≠ some b → b < w7.heap.size → v'.ownBlock ≠ some b := fun b hb hl e => by
    rcases hob with h1 | h1
    · exact hb (h1 ▸ e)
    · rw [h1] at e; injection e with e; omega
  have hb1 := h.lt
  have hb2 := h.tl
  have hb3 := h.ml
  refine ⟨by rw [List.length_append]; exact ho, FlatE.snoc (RepE.keeps (Keeps.grown hg (fun b (hb : base ≤ b) e => by have := hvb b e.symm; omega)) (fun b (hb : base ≤ b) hl => ⟨by omega, hT b (fun e => by have := hvb b e; omega) hl⟩) _ _ hy) (FlatE.keeps (Keeps.grown (S := fun b => w.heap.size ≤ b ∧ v.ownBlock ≠ some b) hg (fun b hb e => hb.2 e.symm)) (fun b hb hl => ⟨hb.1, hT b hb.2 hl⟩) h.flat), ?_, ?_, h.ends, h.lt, h.tl, h.ml, by rw [List.length_append]; exact hj⟩
  · cases e : v.ownBlock with
    | none => rw [e] at hg; exact h.rdr.keep hg
    | some x =>
      rw [e] at hg
      have := hge x e
      exact h.rdr.other hg (by omega) (by omega) (by omega)
  · exact h.grown.andThen hg (fun x e => .inl (hge x e))
theorem own_formE {w : World} {base n : Nat} {e : TypeId} {v : Value} {xs : List Value} (h : w.ownsRow base e 5 v (n + 1) xs) : ∃ g cap, v = .slice (some ⟨g, 0, none⟩) (n + 1) cap := by
  rcases h.2 with ⟨_, h⟩ | ⟨g, cap, cur, h, _⟩
  · cases h
  · exact ⟨g, cap, h⟩
set_option maxRecDepth 100000 in
set_option maxHeartbeats 4000000 in
theorem listedE_any {f rb tb o c nr dp : Nat} {ts : List TokM} {next : List TokM → ResE} (eg : ∀ args w, (callFunc f args).run Tryz.prog w = .ok (.enter f args) w) (ha : PartAsk f rb tb o c ts nr dp next) (hcut : Cuts next)
    (ho : AllOwn ts) (hz : ts.length ≤ 1000) {w : World} {k : Nat} (h : Rdr w rb tb o c ts k nr dp) (he : Ends (ts.drop k)) :
    Calls Tryz.prog 220 #[.pointer (some ⟨rb, 0, none⟩), .func (.func f) #[.pointer (some ⟨rb, 0, none⟩)] #[]] w (TellsL w rb tb o c ts nr dp (listL next (ts.drop k))) := by
  have HA := Lib.hid ha
  have HW := Lib.hid (fun j : Nat => said_iff (k := j) ho (s := kComma) (by decide) (by decide))
  have HC := Lib.hid hcut
  have HLT := Lib.hid h.blk.lt
  have HTL := Lib.hid h.lt
  have HML := Lib.hid (Blk.lt h.marks)
  have HP1 := Lib.hid (ha w k h he)
  have HKL := Lib.hid (ends_lt he)
  obtain ⟨i0, hi0, hz0, hz1, hz2⟩ := info_parts infoExpr
  have HLS : Hid ((next (ts.drop k)).2.2 = 0 → (next (ts.drop k)).2.1.length < (ts.drop k).length) := Lib.hid (hcut.less he)
  clear h ha
  obtain ⟨res, hres⟩ : ∃ r, r = listL next (ts.drop k) := ⟨_, rfl⟩
  rw [← hres]
  have HRES := Lib.hid hres
  clear hres
  obtain ⟨x0, hx0⟩ : ∃ x, x = next (ts.drop k) := ⟨_, rfl⟩
  have HRES1 : Hid (res = if x0.2.2 ≠ 0 then ([], x0.2) else moreGo next [x0.1] x0.2.1) := Lib.hid (by rw [HRES.out, hx0]; rfl)
  rw [← hx0] at HP1 HLS
  clear hx0
  go_enter Tryz.func220, Tryz.ntmps220
  go_wp2_with fail
  (with_reducible refine HP1.out.mono ?_)
  rintro e w2 hT
  by_cases h0 : x0.2.2 = 0
  · have HRES2 : Hid (res = moreGo next [x0.1] x0.2.1) := Lib.hid (HRES1.out.trans (if_neg (by simpa using h0)))
    obtain ⟨k2, a0, a1, a2, A, n, cc, a4, rfl, hr2, he2, hrep, hrd, hg2⟩ := hT.ok h0
    have ga := World.grownBy_alloc w2 (.cells #[.int .i64 a0, .string a1, .int .i64 a2, .slice A n cc, .int .i64 a4] 42) none
    have HI : Hid (LsI w (w2.alloc (.cells #[.int .i64 a0, .string a1, .int .i64 a2, .slice A n cc, .int .i64 a4] 42)) rb tb o c ts nr dp k2 [x0.1] (.slice (some ⟨w2.heap.size, 0, none⟩) 1 1) [.int .i64 a0, .string a1, .int .i64 a2, .slice A n cc, .int .i64 a4]) := Lib.hid (by
      refine ⟨World.ownsRow_lit w2 #[.int .i64 a0, .string a1, .int .i64 a2, .slice A n cc, .int .i64 a4] 1 hg2.size (by unfold maxLen; omega) rfl, ?_, hrd.keep ga, hg2.trans (Keep.toRow ga), he2, HLT.out, HTL.out, HML.out, ?_⟩
      · exact ⟨_, _, _, _, _, [], rfl, RepE.keeps (Keeps.grown ga (fun b _ e => by cases e)) (fun b (hb : w.heap.size ≤ b) hl => ⟨hb, by simp [Value.ownBlock]; omega⟩) _ _ hrep, rfl⟩
      · have := HLS.out h0
        have := ends_lt he2
        rw [hr2, List.length_drop, List.length_drop] at *
        simp; omega)
    have HRES3 : Hid (res = moreGo next [x0.1] (ts.drop k2)) := Lib.hid (by rw [HRES2.out, hr2])
    clear hr2 he2 hrep hrd hg2 hT ga h0
    go_wp2_with fail
    go_loopw [5] (fun v wr => ∃ j l A n cc xs, v = .slice A n cc ∧ LsI w wr rb tb o c ts nr dp j l (.slice A n cc) xs ∧ l ≠ [] ∧ l.length = n ∧ res = moreGo next l (ts.drop j)) (fun _ wr => ts.length - posR wr rb)
    case atStart => exact ⟨k2, [x0.1], _, 1, 1, _, rfl, HI.out, by simp, rfl, HRES3.out⟩
    case round =>
      clear HI HRES HRES1 HRES2 HRES3 HP1 HLS
      obtain ⟨j, l, B, m, d, xs, rfl, hI, hlne, hln, hres⟩ := hrel
      have HI := Lib.hid hI
      have HRS := Lib.hid hres
      have HLN := Lib.hid (And.intro hlne hln)
      have HPOS := Lib.hid (posR_is hI.rdr)
      have hjl := ends_lt hI.ends
      have hsw := HW.out j
      clear hI hres hlne hln
      by_cases hwd : isT (ts.drop j) 4 kComma = false
      · have HG := Lib.hid (polGoes_no (s := kComma) HI.out.rdr (hd_at hjl) (fun e => by rw [hsw.1 e] at hwd; cases hwd))
        have HRS2 : Hid (res = (l, ts.drop j, 0)) := Lib.hid (by rw [HRS.out, moreGo, if_pos hwd])
        clear hwd hsw
        go_wp2_with fail
        (with_reducible refine HG.out.mono ?_)
        rintro e w5 ⟨rfl, hg5⟩
        have HI5 := Lib.hid (HI.out.keep (Keep.toRow hg5) (HI.out.rdr.keep hg5) HI.out.ends (Nat.le_refl _))
        clear hg5
        go_wp2
        go_ret
        rw [HRS2.out]
        obtain ⟨A', c', hv, hc⟩ := own_exprs HI5.out.own HI5.out.flat (T := fun b => w.heap.size ≤ b) (fun b hb _ => hb.1) (fun b hb => hb)
        have hm : m = l.length := HLN.out.2.symm
        subst hm
        have hcn := HI5.out.cnt
        have hjj := ends_lt HI5.out.ends
        exact .inl ⟨rfl, j, B, d, rfl, rfl, HI5.out.ends, ⟨A', c', hv, by show l.length ≤ _; omega, hc⟩, HLN.out.1, hcn, HI5.out.rdr, HI5.out.grown⟩
      · have hwd := Bool.not_eq_false _ |>.mp hwd
        have HG := Lib.hid (polGoes_yes (s := kComma) HI.out.rdr (hd_at hjl) (hsw.2 hwd) (by omega))
        have HE := Lib.hid (HI.out.ends.next hwd (by decide))
        rw [drop_one] at HE
        have HLR : Hid ((next (ts.drop (j + 1))).2.2 = 0 → (next (ts.drop (j + 1))).2.1.length < (ts.drop (j + 1)).length) := Lib.hid (HC.out.less HE.out)
        obtain ⟨r2, hr2⟩ : ∃ r, r = next (ts.drop (j + 1)) := ⟨_, rfl⟩
        have HRS2 : Hid (res = if r2.2.2 ≠ 0 then ([], r2.2) else if r2.2.1.length < (ts.drop j).length then moreGo next (l ++ [r2.1]) r2.2.1 else ([], ts.drop j, -1)) := Lib.hid (by
          rw [HRS.out, moreGo, if_neg (by rw [hwd]; simp), drop_one, ← hr2]
          rfl)
        have HP2 := Lib.hid (fun W h => HA.out W (j + 1) h HE.out)
        rw [← hr2] at HLR HP2
        clear hwd hsw hr2
        go_wp2_with fail
        (with_reducible refine HG.out.mono ?_)
        rintro e w5 ⟨rfl, hg5, hr5⟩
        have HI5 := Lib.hid (HI.out.keep hg5 hr5 HE.out (by omega))
        have HP5 := Lib.hid (HP2.out w5 hr5)
        clear hg5 hr5
        go_wp2_with fail
        (with_reducible refine HP5.out.mono ?_)
        rintro e w6 hT
        by_cases hn : r2.2.2 = 0
        · obtain ⟨k6, d0, d1, d2, D, dn, dc, d4, rfl, hr6, he6, hrep6, hrd6, hg6⟩ := hT.ok hn
          have hlen : r2.2.1.length < (ts.drop j).length := by
            have := HLR.out hn
            rw [List.length_drop] at this ⊢; omega
          have hjk : j + 1 < k6 := by
            have := HLR.out hn
            have h2 := ends_lt he6
            rw [hr6, List.length_drop, List.length_drop] at this
            omega
          have HJK := Lib.hid hjk
          have HRS7 : Hid (res = moreGo next (l ++ [r2.1]) (ts.drop k6)) := Lib.hid (by rw [HRS2.out, if_neg (by simpa using hn), if_pos hlen, hr6])
          have HI6 := Lib.hid (HI5.out.keep hg6 hrd6 he6 (by omega))
          obtain ⟨w7, hw7⟩ : ∃ W, W = w6.alloc (.cells #[.int .i64 d0, .string d1, .int .i64 d2, .slice D dn dc, .int .i64 d4] 42) := ⟨_, rfl⟩
          have ga : w6.grownBy w7 none := by rw [hw7]; exact World.grownBy_alloc _ _ none
          have HI7 := Lib.hid (HI6.out.keep (Keep.toRow ga) (hrd6.keep ga) he6 (Nat.le_refl _))
          have HV7 : Hid (Blk w7 w6.heap.size 42 [.int .i64 d0, .string d1, .int .i64 d2, .slice D dn dc, .int .i64 d4]) := Lib.hid (by rw [hw7]; exact blkNew w6 _ _)
          have HP7 := Lib.hid (RepE.keeps (T := fun b => w5.heap.size ≤ b) (Keeps.grown ga (fun b _ e => by cases e)) (fun b hb _ => hb) _ _ hrep6)
          have HW7 := Lib.hid hw7
          have HS7 : Hid (w5.heap.size ≤ w6.heap.size ∧ w.heap.size ≤ w5.heap.size) := Lib.hid ⟨hg6.size, HI5.out.grown.size⟩
          have hown7 := HI7.out.own
          rw [HLN.out.2] at hown7
          have HO7 := Lib.hid hown7
          have hml : m ≤ 1000 := by
            have h1 := HI5.out.cnt
            have h2 := ends_lt HI5.out.ends
            rw [HLN.out.2] at h1; omega
          clear hT hn hr6 he6 hrep6 hrd6 hg6 hlen hjk ga hown7 HW7
          subst hw7
          go_wp2_with (at_builtin; (refine wpList_append_own_at _ rfl _ _ 40 rfl w.heap.size 42 i0 (.agg #[.int .i64 0, .string ByteArray.empty, .int .i64 0, .slice none 0 0, .int .i64 0]) 5 64 Tryz.underlying40 hi0 hz0 hz1 hz2 rfl (by decide) _ m xs rfl HO7.out ⟨w6.heap.size, 0, none⟩ 1 1 [.int .i64 d0, .string d1, .int .i64 d2, .slice D dn dc, .int .i64 d4] rfl rfl ?c1 ?c2 ?c3 ?c4 ?c5 ?_))
          case c1 =>
            have hv := HV7.out
            intro i u hi
            match i, hi with
            | 0, hi => simp at hi; subst hi; exact hv.cell 0
            | 1, hi => simp at hi; subst hi; exact hv.cell 1
            | 2, hi => simp at hi; subst hi; exact hv.cell 2
            | 3, hi => simp at hi; subst hi; exact hv.cell 3
            | 4, hi => simp at hi; subst hi; exact hv.cell 4
          case c2 => intro u hu; simp at hu; rcases hu with rfl | rfl | rfl | rfl | rfl <;> rfl
          case c3 => unfold maxLen; omega
          case c4 => omega
          case c5 => have := HS7.out; simp; omega
          intro v' w8 hown8 hg8 hnil8 hob8
          obtain ⟨g8, cap8, rfl⟩ := own_formE hown8
          have HI8 := Lib.hid (HI7.out.snoc HP7.out (fun x e => (HI5.out.own.lt x e).2) HS7.out.2 (by rw [HLN.out.2]; exact hown8) hg8 (by simpa using hob8) (by have := HI5.out.cnt; have := HJK.out; omega))
          clear hown8 hg8 hnil8 hob8
          go_wp2_with fail
          go_roundw
          case rel => exact ⟨k6, l ++ [r2.1], _, m + 1, cap8, _, by go_num, HI8.out, by simp, by rw [List.length_append, HLN.out.2]; rfl, HRS7.out⟩
          case measure =>
            have h1 := HJK.out
            have h2 := ends_lt HI8.out.ends
            rw [HPOS.out, posR_is HI8.out.rdr]; omega
        · have HRS3 : Hid (res = ([], r2.2)) := Lib.hid (HRS2.out.trans (if_pos hn))
          have HF := Lib.hid ((hT.bad hn).from HI5.out.grown)
          obtain ⟨b, rfl, _⟩ := hT.bad hn
          clear hT
          go_wp2
          refine ⟨rfl, ?_⟩
          rw [HRS3.out]
          exact .inr ⟨hn, HF.out⟩
  · have HRES2 : Hid (res = ([], x0.2)) := Lib.hid (HRES1.out.trans (if_pos h0))
    have HF := Lib.hid (hT.bad h0)
    obtain ⟨b, rfl, _⟩ := hT.bad h0
    clear hT
    go_wp2
    refine ⟨rfl, ?_⟩
    rw [HRES2.out]
    exact .inr ⟨h0, HF.out⟩
end Go.Proofs.YtcjfealalokjaaaGreatDoor
namespace Go.Proofs.YtcjfealalokjaaaGreatDoor
open Go Go.RowKit
def itemsR (opd : List TokM → ResE) (r : List TokM) : List Ex × List TokM × Int := if isT r 4 kLeft = false then ([], r, 120) else shutL (listL opd (r.drop 1))
theorem eg_operand : ∀ args w, (callFunc 208 args).run Tryz.prog w = .ok (.enter 208 args) w := enters_of Tryz.func208 (by kernel_rfl) rfl
theorem repEs_flat {W : World} {S : Nat → Prop} {b : Nat} : ∀ {l : List Ex} {o : Nat}, RepEs W S b o l → ∃ xs, FlatE W S l xs ∧ (∀ j u, xs[j]? = some u → W.cell? ⟨b, o + j, none⟩ = some u) ∧ ∀ u ∈ xs, u.oneCell' = true
  | [], o, _ => ⟨[], rfl, fun j u h => by simp at h, fun u h => by cases h⟩
  | x :: r, o, h => by
    rw [RepEs] at h
    obtain ⟨⟨v, h1, a0, a1, a2, a3, a4, e, c0, c1, c2, c3, c4⟩, h2⟩ := h
    obtain ⟨xs, i1, i2, i3⟩ := repEs_flat h2
    subst e
    obtain ⟨b0, b1, b2, B, n, d, b4, e⟩ := h1.form
    simp only [Value.agg.injEq, Array.mk.injEq, List.cons.injEq, and_true] at e
    obtain ⟨rfl, rfl, rfl, rfl, rfl⟩ := e
    refine ⟨_, ⟨_, _, _, _, _, xs, rfl, h1, i1⟩, fun j u hj => ?_, fun u hu => ?_⟩
    · match j, hj with
      | 0, hj => simp at hj; subst hj; exact c0
      | 1, hj => simp at hj; subst hj; exact c1
      | 2, hj => simp at hj; subst hj; exact c2
      | 3, hj => simp at hj; subst hj; exact c3
      | 4, hj => simp at hj; subst hj; exact c4
      | j + 5, hj =>
        have := i2 j u (by simpa using hj)
        rwa [show o + 5 + j = o + (j + 5) by omega] at this
    · simp only [List.mem_cons] at hu
      rcases hu with rfl | rfl | rfl | rfl | rfl | hu
      · rfl
      · rfl
      · rfl
      · rfl
      · rfl
      · exact i3 u hu
set_option maxRecDepth 100000 in
set_option maxHeartbeats 2000000 in
theorem items_any {rb tb o c nr dp : Nat} {ts : List TokM} {opd : List TokM → ResE} (ha : PartAsk 208 rb tb o c ts nr dp opd) (hcut : Cuts opd)
    (ho : AllOwn ts) (hz : ts.length ≤ 1000) {w : World} {k : Nat} (h : Rdr w rb tb o c ts k nr dp) (he : Ends (ts.drop k)) :
    Calls Tryz.prog 209 #[.pointer (some ⟨rb, 0, none⟩)] w (TellsL w rb tb o c ts nr dp (itemsR opd (ts.drop k))) := by
  have hk := ends_lt he
  have HLT := Lib.hid h.blk.lt
  have hmf : ∀ (fn : Fn) (first cap : Array Value) (w : World), (Instr.makeFunc fn first cap).run Tryz.prog w = .ok (.func fn first cap) w := fun _ _ _ _ => rfl
  have HSG := Lib.hid (fun (k : Nat) (s : ByteArray) hw hne => said_iff (k := k) ho (s := s) hw hne)
  have HMY := Lib.hid (fun W k6 (hr : Rdr W rb tb o c ts k6 nr dp) (h6 : k6 < ts.length) (hx : saidT (hdT (ts.drop k6)) = kRight) => polMust_yes hr (hd_at h6) hx (by omega))
  have HMN := Lib.hid (fun W k6 (hr : Rdr W rb tb o c ts k6 nr dp) (h6 : k6 < ts.length) (hx : saidT (hdT (ts.drop k6)) ≠ kRight) => polMust_no hr (hd_at h6) hx)
  obtain ⟨res, hres⟩ : ∃ r, r = itemsR opd (ts.drop k) := ⟨_, rfl⟩
  rw [← hres]
  unfold itemsR at hres
  rw [drop_one] at hres
  have HRES := Lib.hid hres
  clear hres
  by_cases h1 : isT (ts.drop k) 4 kLeft = true
  · have HM := Lib.hid (polMust_yes (s := kLeft) h (hd_at hk) ((HSG.out k kLeft (by decide) (by decide)).2 h1) (by omega))
    have he1 := he.next h1 (by decide)
    rw [drop_one] at he1
    have HL := Lib.hid (fun W hr => listedE_any eg_operand ha hcut ho hz (w := W) (k := k + 1) hr he1)
    obtain ⟨q, hq⟩ : ∃ q, q = listL opd (ts.drop (k + 1)) := ⟨_, rfl⟩
    rw [← hq] at HL HRES
    have HRES2 : Hid (res = shutL q) := Lib.hid (HRES.out.trans (if_neg (by rw [h1]; decide)))
    clear h ha h1 he he1 hq hk HRES
    go_enter Tryz.func209, Tryz.ntmps209
    go_wp2_with fail
    (with_reducible refine HM.out.mono ?_)
    rintro e w1 ⟨rfl, hg1, hr1⟩
    have HL1 := Lib.hid (HL.out w1 hr1)
    have HG1 := Lib.hid hg1
    clear hg1 hr1
    go_wp2_with fail
    (with_reducible refine HL1.out.mono ?_)
    rintro e w2 (⟨h0, k2, A, cc, rfl, hr2, he2, hrep, hne, hcn, hrd, hg2⟩ | ⟨h0, hG⟩)
    · have hk2 := ends_lt he2
      have HR2 := Lib.hid hrep
      have HG2 := Lib.hid (HG1.out.trans hg2)
      have HN2 := Lib.hid (And.intro hne hcn)
      have HS2 := Lib.hid HG1.out.size
      have HH := Lib.hid (And.intro h0 (And.intro hr2 he2))
      obtain ⟨n, hn⟩ : ∃ n, n = q.1.length := ⟨_, rfl⟩
      have HN := Lib.hid hn
      by_cases h2 : isT (ts.drop k2) 4 kRight = true
      · have HRS : Hid (res = (q.1, ts.drop (k2 + 1), 0)) := Lib.hid (by rw [HRES2.out]; unfold shutL; rw [if_neg (by simpa using h0), hr2, if_pos h2, drop_one])
        have he3 := he2.next h2 (by decide)
        rw [drop_one] at he3
        have HE3 := Lib.hid he3
        have HM2 := Lib.hid (HMY.out w2 k2 hrd hk2 ((HSG.out k2 kRight (by decide) (by decide)).2 h2))
        rw [← hn]
        clear h0 hr2 he2 hrep hne hcn hrd hg2 hk2 h2 he3 hn
        go_wp2_with fail
        (with_reducible refine HM2.out.mono ?_)
        rintro e w3 ⟨rfl, hg3, hr3⟩
        have HF := Lib.hid (And.intro hr3 hg3)
        clear hg3 hr3
        go_wp2
        go_ret
        rw [HRS.out]
        have b1 := HLT.out
        have b2 := HS2.out
        exact .inl ⟨rfl, k2 + 1, A, cc, by rw [HN.out]; rfl, rfl, HE3.out, RepL.keeps (Keeps.grown HF.out.2 (fun b (hb : w1.heap.size ≤ b) e => by injection e with e; omega)) (fun b (hb : w1.heap.size ≤ b) _ => show w.heap.size ≤ b by omega) HR2.out, HN2.out.1, Nat.le_succ_of_le HN2.out.2, HF.out.1, HG2.out.trans HF.out.2⟩
      · have HRS : Hid (res = ([], ts.drop k2, 120)) := Lib.hid (by rw [HRES2.out]; unfold shutL; rw [if_neg (by simpa using h0), hr2, if_neg h2])
        have HM2 := Lib.hid (HMN.out w2 k2 hrd hk2 (fun e => h2 ((HSG.out k2 kRight (by decide) (by decide)).1 e)))
        rw [← hn]
        clear h0 hr2 he2 hrep hne hcn hrd hg2 hk2 h2 hn
        go_wp2_with fail
        (with_reducible refine HM2.out.mono ?_)
        rintro e w3 hG
        have HF := Lib.hid (hG.from HG2.out)
        obtain ⟨b, rfl, _⟩ := hG
        go_wp2
        refine ⟨rfl, ?_⟩
        rw [HRS.out]
        exact .inr ⟨(by show (120 : Int) ≠ 0; decide), HF.out⟩
    · have HRS : Hid (res = ([], q.2)) := Lib.hid (by rw [HRES2.out]; unfold shutL; rw [if_pos h0])
      have HF := Lib.hid (hG.from HG1.out)
      obtain ⟨b, rfl, _⟩ := hG
      go_wp2
      refine ⟨rfl, ?_⟩
      rw [HRS.out]
      exact .inr ⟨h0, HF.out⟩
  · have HM := Lib.hid (polMust_no (s := kLeft) h (hd_at hk) (fun e => h1 ((HSG.out k kLeft (by decide) (by decide)).1 e)))
    have HRES2 : Hid (res = ([], ts.drop k, 120)) := Lib.hid (HRES.out.trans (if_pos (by simpa using h1)))
    clear h ha h1 he hk HRES
    go_enter Tryz.func209, Tryz.ntmps209
    go_wp2_with fail
    (with_reducible refine HM.out.mono ?_)
    rintro e w3 hG
    have HF := Lib.hid hG
    obtain ⟨b, rfl, _⟩ := hG
    go_wp2
    refine ⟨rfl, ?_⟩
    rw [HRES2.out]
    exact .inr ⟨(by show (120 : Int) ≠ 0; decide), HF.out⟩
end Go.Proofs.YtcjfealalokjaaaGreatDoor
