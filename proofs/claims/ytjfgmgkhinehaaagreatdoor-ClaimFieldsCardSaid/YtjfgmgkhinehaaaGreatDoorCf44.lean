/- JpLaw, JsonForm, ClRead, ClAlive, ClLawF: merged. -/
import Derived.Test.YtjfgmgkhinehaaaGreatDoorRows
import Derived.ProofKit
import Derived.LaidMore
import Derived.LaidHandle
import Derived.LaidLaws
import Derived.Lay
import Derived.OpenShut
import Derived.Stop.Joined
import Derived.Deep.DeepHandedRow
import Derived.ChangeMaps5
import Derived.Lib.SlBytesConst
import Derived.Test.YtjfgmgkhinehaaaGreatDoorCf22
import Derived.Test.YtjfgmgkhinehaaaGreatDoorCf29
import Derived.Test.YtjfgmgkhinehaaaGreatDoorCf30
import Derived.Test.YtjfgmgkhinehaaaGreatDoorCf43
set_option linter.all false
namespace Go.Proofs.YtjfgmgkhinehaaaGreatDoor
open Go Go.RowKit
/-- What an error tells: none; a number alone; a number and a place. -/
def JErr (n pos : Int) (v : Value) (w : World) : Prop :=
  (n = 0 ∧ pos = -1 ∧ v = .nilIface) ∨ (n ≠ 0 ∧ pos = -1 ∧ v = .iface 95 (.int .i64 n)) ∨ (n ≠ 0 ∧ ∃ b, v = .iface 120 (.pointer (some ⟨b, 0, none⟩)) ∧ w.cell? ⟨b, 0, none⟩ = some (.int .i64 pos) ∧ w.cell? ⟨b, 1, none⟩ = some (.iface 95 (.int .i64 n)))
theorem parsedL_ends (l : List Int) : ((parsedL l).2.1 = 0 → (parsedL l).2.2 = -1) ∧ ((parsedL l).2.1 ≠ 0 → (parsedL l).1 = zeroJ) := by
  unfold parsedL readL
  split
  · exact ⟨fun h => (by cases h), fun _ => rfl⟩
  · split
    · rename_i he; exact ⟨fun h => absurd h he, fun _ => rfl⟩
    · split
      · exact ⟨fun h => (by cases h), fun _ => rfl⟩
      · exact ⟨fun _ => rfl, fun h => absurd rfl h⟩
/-- What Parse tells, whatever comes. -/
def PAll (W : World) (r : J × Int × Int) (e : Ending) (w' : World) : Prop :=
  ∃ v ev, e = .returned (.tuple #[v, ev]) ∧ RepS w' (fun b => W.heap.size ≤ b) r.1 v ∧ JErr r.2.1 r.2.2 ev w' ∧ Below W.heap.size W w'
theorem parse_tells (A : Option Addr) (xs : List Int) (n c : Nat) (W : World) (hn : xs.length = n) (hn2 : n ≤ 9223372036854775807) (hx : Bytes xs) (hl : Lies W A xs) (hm : Marks W) (ht : ErrTab W) :
    Calls Tryz.prog 41 #[.slice A n c] W (PAll W (parsedL xs)) := by
  obtain ⟨e1, e2⟩ := parsedL_ends xs
  refine (parse_any A xs n c W hn hn2 hx hl hm ht).mono ?_
  rintro e w' hp
  rcases hp with (⟨h0, v, rfl, hr, hb⟩ | ⟨h0, b, rfl, c0, c1, _, hb⟩) | ⟨h0, h1, rfl, hb⟩
  · exact ⟨v, _, rfl, hr, .inl ⟨h0, e1 h0, rfl⟩, hb⟩
  · exact ⟨_, _, rfl, by rw [e2 h0]; exact RepS.zero _ _, .inr (.inr ⟨h0, b, rfl, c0, c1⟩), hb⟩
  · exact ⟨_, _, rfl, by rw [e2 h0]; exact RepS.zero _ _, .inr (.inl ⟨h0, h1, rfl⟩), hb⟩
/-- What the laws ask of the world. -/
structure Ask5 (w : World) : Prop where
  tab : ErrTab w
  marks : Marks w
theorem Ask5.below {w w' : World} (h : Ask5 w) (hb : Below w.heap.size w w') : Ask5 w' := ⟨h.tab.below hb, h.marks.below hb⟩
end Go.Proofs.YtjfgmgkhinehaaaGreatDoor
namespace Go.Proofs.YtjfgmgkhinehaaaGreatDoor
open Go Go.RowKit
/-- What Parse tells of a string's bytes. -/
theorem parse_str (s : ByteArray) (c : Nat) (W : World) (ha : Ask5 W) (hs : s.size ≤ 5000) : Calls Tryz.prog 41 #[.slice (some ⟨W.heap.size, 0, none⟩) s.size c] (Lib.bytesWorld W 5 s) fun e w' =>
    ∃ x0 x1 x2 xA xp xc xK xq xd ev, e = .returned (.tuple #[.agg #[.int .i64 x0, .int .i64 x1, .string x2, .slice xA xp xc, .slice xK xq xd], ev]) ∧ RepJ w' (parsedL (strL s)).1 (.agg #[.int .i64 x0, .int .i64 x1, .string x2, .slice xA xp xc, .slice xK xq xd]) ∧ JErr (parsedL (strL s)).2.1 (parsedL (strL s)).2.2 ev w' ∧ Below W.heap.size W w' := by
  refine (parse_tells (some ⟨W.heap.size, 0, none⟩) (strL s) s.size c _ (length_strL s) (by omega) (strL_bd s) (liesBytes W 5 s) (ha.marks.below (belowBytes W _ s)) (ha.tab.below (belowBytes W _ s))).mono ?_
  rintro e w' ⟨v, ev, rfl, hr, he, hb⟩
  have hj := RepS.toJ _ _ hr
  obtain ⟨x0, x1, x2, A, p, c, K, q, d, rfl⟩ := hj.form
  exact ⟨_, _, _, _, _, _, _, _, _, ev, rfl, hj, he, (belowBytes W 5 s).trans (hb.mono (belowBytes W 5 s).size)⟩
end Go.Proofs.YtjfgmgkhinehaaaGreatDoor
namespace Go.Proofs.YtjfgmgkhinehaaaGreatDoor
open Go Go.RowKit
/-- What is asked of the world. -/
structure Ask9 (w : World) : Prop where
  ask : Ask5 w
  maxl : MaxLS w
theorem Ask9.below {w w' : World} (h : Ask9 w) (hb : Below w.heap.size w w') : Ask9 w' := ⟨h.ask.below hb, h.maxl.below hb⟩
theorem JErr.ends {n pos : Int} {v : Value} {w : World} (h : JErr n pos v w) : (n = 0 ∧ v = .nilIface) ∨ (n ≠ 0 ∧ ∃ d x, v = .iface d x) := by
  rcases h with ⟨h, _, e⟩ | ⟨h, _, e⟩ | ⟨h, b, e, _⟩
  · exact .inl ⟨h, e⟩
  · exact .inr ⟨h, _, _, e⟩
  · exact .inr ⟨h, _, _, e⟩
theorem parseN_few (s : ByteArray) : (parseN s).length ≤ 16 := by
  unfold parseN
  split
  · rename_i h
    unfold okW at h
    rw [Bool.and_eq_true, decide_eq_true_eq] at h
    exact h.2
  · simp
theorem readTok_few {j : J} {t : TokM} (h : readTok j = some t) : t.sc.length ≤ 16 := by
  unfold readTok at h
  split at h
  · injection h with h
    rw [← h]
    show (askS j nScope).1.length ≤ 16
    unfold askS
    split
    · simp
    · split
      · exact parseN_few _
      · simp
  · cases h
set_option maxRecDepth 100000 in
set_option maxHeartbeats 16000000 in
theorem claimRead_any (s : ByteArray) (W : World) (ha : Ask9 W) (hs : s.size ≤ 5000) :
    Calls Tryz.prog 28 #[.string s] W (TokTells W (readT (parsedL (strL s)))) := by
  have hconv := fun (W : World) => Lib.run_convert_string_bytes (P := Tryz.prog) W 9 80 5 s Tryz.underlying9 Tryz.underlying80 Tryz.underlying5
  have hB0 := belowAlloc W (.cells #[.string ⟨#[]⟩, .string ⟨#[]⟩, .string ⟨#[]⟩, .string ⟨#[]⟩, .slice none 0 0, .int .i64 0, .int .i64 0] 42)
  have hbr0 : Blk (W.alloc (.cells #[.string ⟨#[]⟩, .string ⟨#[]⟩, .string ⟨#[]⟩, .string ⟨#[]⟩, .slice none 0 0, .int .i64 0, .int .i64 0] 42)) W.heap.size 42 zeros7 := heapAtC W rfl zeros7 _
  have HP := Lib.hid (fun (c : Nat) => by
    have := parse_str s c _ (ha.ask.below hB0) hs
    rw [show (W.alloc (.cells #[.string ⟨#[]⟩, .string ⟨#[]⟩, .string ⟨#[]⟩, .string ⟨#[]⟩, .slice none 0 0, .int .i64 0, .int .i64 0] 42)).heap.size = W.heap.size + 1 by simp] at this
    exact this)
  have HA := Lib.hid ha
  have HB0 := Lib.hid hB0
  have HBR0 := Lib.hid hbr0
  have HSML := Lib.hid (fun h => parsed_small (l := strL s) h)
  have HMLD := Lib.hid (fun h => (parsed_right (strL s) h).2)
  obtain ⟨r, hr⟩ : ∃ r, r = parsedL (strL s) := ⟨_, rfl⟩
  rw [← hr] at HP HSML HMLD ⊢
  obtain ⟨j, no, po⟩ := r
  obtain ⟨R, hR⟩ : ∃ R, R = readT (j, no, po) := ⟨_, rfl⟩
  have HR : Hid (R = if no ≠ 0 then none else match readTok j with | some t => if tokOk t = true then some t else none | none => none) := Lib.hid hR
  rw [← hR]
  clear ha hs hr hR hB0 hbr0
  go_enter Tryz.func28, Tryz.ntmps28
  go_wp2_with fail
  (with_reducible refine (HP.out _).mono ?_)
  rintro e w2 ⟨x0, x1, x2, xA, xp, xc, xK, xq, xd, ev, rfl, hrj, hev, hb⟩
  have HRJ := Lib.hid hrj
  have hje := hev.ends
  have HB2 := Lib.hid (HB0.out.trans (hb.mono (Nat.le_succ _)))
  have hbr2 := HBR0.out.below hb (Nat.lt_succ_self _)
  have HLT2 := Lib.hid hbr2.lt
  clear hrj hev hb hconv HP
  rcases hje with ⟨rfl, rfl⟩ | ⟨hno, d, x, rfl⟩
  case inr =>
    have HRN : Hid (R = none) := Lib.hid (by rw [HR.out, if_pos hno])
    clear hno
    go_wp2_with (first
      | (refine wpList_alloc_blk rfl (some 4) rfl _ rfl _ zeroJw ?_; intro g3 wa3 hg3 hb3 hgr3; have HA3 := Lib.hid hgr3; have HG3 := Lib.hid hg3; have hbr3 := hbr2.grownN hgr3; clear hgr3 hg3; try go_frame)
      | (refine wpList_store_blk rfl none rfl _ (.tmp 4) (.tmp 12) rfl g3 0 [.int .i64 x0, .int .i64 x1, .string x2, .slice xA xp xc, .slice xK xq xd] rfl rfl _ _ hb3 (by simp [zeros5]) sizeJson (by intro v hv; simp at hv; rcases hv with rfl | rfl | rfl | rfl | rfl <;> rfl) ?_; intro w4 hc3 hgs3; rw [splice_all _ _ (by simp [zeros5])] at hc3; have HM3 := Lib.hid (mid_below (Below.refl _ _) HA3.out HG3.out hgs3); have hbr4 := hbr3.grown hgs3 (by intro e; injection e with e; have := HG3.out; have := HLT2.out; omega); obtain ⟨z0, z1, z2, z3, z4⟩ : w4.cell? ⟨g3, 0, none⟩ = some (.int .i64 x0) ∧ w4.cell? ⟨g3, 1, none⟩ = some (.int .i64 x1) ∧ w4.cell? ⟨g3, 2, none⟩ = some (.string x2) ∧ w4.cell? ⟨g3, 3, none⟩ = some (.slice xA xp xc) ∧ w4.cell? ⟨g3, 4, none⟩ = some (.slice xK xq xd) := ⟨hc3.cell 0, hc3.cell 1, hc3.cell 2, hc3.cell 3, hc3.cell 4⟩; clear hgs3 hc3 hb3 hbr3; try go_frame)
      | (refine wpList_store_blk rfl none rfl _ (.tmp 2) (.tmp 16) rfl W.heap.size 0 [.string ⟨#[]⟩, .string ⟨#[]⟩, .string ⟨#[]⟩, .string ⟨#[]⟩, .slice none 0 0, .int .i64 0, .int .i64 0] rfl rfl _ _ hbr4 (by simp [zeros7]) sizeTok (by intro v hv; simp [zeros7] at hv; rcases hv with rfl | rfl | rfl <;> rfl) ?_; intro w9 hb9 hgr; rw [splice_all _ _ (by simp [zeros7])] at hb9; have HB9 := Lib.hid hb9; have HG9 := Lib.hid hgr; clear hgr hb9; try go_frame))
    (try simp only [Exit.inBlock, Exit.then])
    have r0 := HB9.out.cell 0
    have r1 := HB9.out.cell 1
    have r2 := HB9.out.cell 2
    have r3 := HB9.out.cell 3
    have r4 := HB9.out.cell 4
    have r5 := HB9.out.cell 5
    have r6 := HB9.out.cell 6
    refine bodyPost_ret (v := .tuple #[.agg #[.string ⟨#[]⟩, .string ⟨#[]⟩, .string ⟨#[]⟩, .string ⟨#[]⟩, .slice none 0 0, .int .i64 0, .int .i64 0], .iface 95 (.int .i64 90)]) ?_ rfl (.inr ⟨HRN.out, _, _, rfl, .inr (.inl ⟨by decide, rfl⟩), (HB2.out.trans (HM3.out.mono HB2.out.size)).grown HG9.out (HB2.out.trans (HM3.out.mono HB2.out.size)).size (by intro b e; injection e with e; omega)⟩)
    rw [results_cell_tmp rfl]; go_simp
  case inl =>
    have hsm := (HSML.out rfl).1
    have hml := HMLD.out rfl
    have HTK := Lib.hid (fun (W' : World) (hW : Below w2.heap.size w2 W') => readToken_any j _ W' (RepJ.below hW _ _ HRJ.out) hsm hml ((HA.out.below (HB2.out.trans (hW.mono HB2.out.size))).maxl))
    clear hsm hml HSML HMLD
    go_wp2_with (first
      | (refine wpList_alloc_blk rfl (some 4) rfl _ rfl _ zeroJw ?_; intro g3 wa3 hg3 hb3 hgr3; have HA3 := Lib.hid hgr3; have HG3 := Lib.hid hg3; have hbr3 := hbr2.grownN hgr3; clear hgr3 hg3; try go_frame)
      | (refine wpList_store_blk rfl none rfl _ (.tmp 4) (.tmp 12) rfl g3 0 [.int .i64 x0, .int .i64 x1, .string x2, .slice xA xp xc, .slice xK xq xd] rfl rfl _ _ hb3 (by simp [zeros5]) sizeJson (by intro v hv; simp at hv; rcases hv with rfl | rfl | rfl | rfl | rfl <;> rfl) ?_; intro w4 hc3 hgs3; rw [splice_all _ _ (by simp [zeros5])] at hc3; have HM3 := Lib.hid (mid_below (Below.refl _ _) HA3.out HG3.out hgs3); have hbr4 := hbr3.grown hgs3 (by intro e; injection e with e; have := HG3.out; have := HLT2.out; omega); obtain ⟨z0, z1, z2, z3, z4⟩ : w4.cell? ⟨g3, 0, none⟩ = some (.int .i64 x0) ∧ w4.cell? ⟨g3, 1, none⟩ = some (.int .i64 x1) ∧ w4.cell? ⟨g3, 2, none⟩ = some (.string x2) ∧ w4.cell? ⟨g3, 3, none⟩ = some (.slice xA xp xc) ∧ w4.cell? ⟨g3, 4, none⟩ = some (.slice xK xq xd) := ⟨hc3.cell 0, hc3.cell 1, hc3.cell 2, hc3.cell 3, hc3.cell 4⟩; clear hgs3 hc3 hb3 hbr3; try go_frame)
      | (go_at_call 65; fail))
    refine (HTK.out _ HM3.out).mono ?_
    have HB4 := Lib.hid (HB2.out.trans (HM3.out.mono HB2.out.size))
    rintro e w5 (⟨t, A, c, hrt, rfl, hsl, hne, hb⟩ | ⟨hrt, d, x, rfl, hce, hb⟩)
    · have HB5 := Lib.hid (HB4.out.trans (hb.mono HB4.out.size))
      have hbr5 := hbr4.below hb hbr4.lt
      have HLT5 := Lib.hid hbr5.lt
      have HR2 : Hid (R = if tokOk t = true then some t else none) := Lib.hid (by rw [HR.out, if_neg (by simp), hrt])
      have hln := readTok_few hrt
      have HSL := Lib.hid hsl
      have HNE := Lib.hid hne
      have HCK := Lib.hid (fun (W' : World) (hW : Below w5.heap.size w5 W') => claimCheck_any t A c W' (hsl.below hW) (by omega))
      obtain ⟨ok, hok⟩ : ∃ b, b = tokOk t := ⟨_, rfl⟩
      rw [← hok] at HR2 HCK
      obtain ⟨ti, tj, td, ts, tsc, ta, tb⟩ := t
      obtain ⟨tn, htn⟩ : ∃ n, n = tsc.length := ⟨_, rfl⟩
      have HSL2 : Hid (SliceN w5 (.slice A tn c) tsc) := Lib.hid (by rw [htn]; exact HSL.out)
      have HTN := Lib.hid htn
      dsimp only at HCK HNE ⊢
      rw [← htn] at HCK ⊢
      clear hb hbr4 hrt hln hsl hne hok z0 z1 z2 z3 z4 HR HTK htn HSL
      go_wp2_with (first
        | (refine wpList_alloc_blk rfl (some 6) rfl _ rfl _ zeroTokW ?_; intro g6 wa6 hg6 hb6 hgr6; have HA6 := Lib.hid hgr6; have HG6 := Lib.hid hg6; have hbr6 := hbr5.grownN hgr6; clear hgr6 hg6; try go_frame)
        | (refine wpList_store_blk rfl none rfl _ (.tmp 6) (.tmp 21) rfl g6 0 [.string ti, .string tj, .string td, .string ts, .slice A tn c, .int .i64 ta, .int .i64 tb] rfl rfl _ _ hb6 (by simp [zeros7]) sizeTok (by intro v hv; simp at hv; rcases hv with rfl | rfl | rfl | rfl | rfl | rfl | rfl <;> rfl) ?_; intro w7 hc6 hgs6; rw [splice_all _ _ (by simp [zeros7])] at hc6; have HM6 := Lib.hid (mid_below (Below.refl _ _) HA6.out HG6.out hgs6); have hbr7 := hbr6.grown hgs6 (by intro e; injection e with e; have := HG6.out; have := HLT5.out; omega); obtain ⟨s0, s1, s2, s3, s4, s5, s6⟩ : w7.cell? ⟨g6, 0, none⟩ = some (.string ti) ∧ w7.cell? ⟨g6, 1, none⟩ = some (.string tj) ∧ w7.cell? ⟨g6, 2, none⟩ = some (.string td) ∧ w7.cell? ⟨g6, 3, none⟩ = some (.string ts) ∧ w7.cell? ⟨g6, 4, none⟩ = some (.slice A tn c) ∧ w7.cell? ⟨g6, 5, none⟩ = some (.int .i64 ta) ∧ w7.cell? ⟨g6, 6, none⟩ = some (.int .i64 tb) := ⟨hc6.cell 0, hc6.cell 1, hc6.cell 2, hc6.cell 3, hc6.cell 4, hc6.cell 5, hc6.cell 6⟩; have HC6 := Lib.hid hc6; clear hc6; clear hgs6 hb6 hbr6; try go_frame)
        | (go_at_call 24; fail))
      have hck := HCK.out _ HM6.out
      refine hck.mono ?_
      rintro e w8 ⟨rfl, hb⟩
      have hbr8 := hbr7.below hb hbr7.lt
      have HBR8 := Lib.hid hbr8
      have HB7 := HB5.out.trans (HM6.out.mono HB5.out.size)
      have HB8 := Lib.hid (HB7.trans (hb.mono HB7.size))
      have HSL8 := Lib.hid ((HSL2.out.below HM6.out).below hb)
      have c8 := HC6.out.below hb HC6.out.lt
      have u0 := c8.cell 0
      have u1 := c8.cell 1
      have u2 := c8.cell 2
      have u3 := c8.cell 3
      have u4 := c8.cell 4
      have u5 := c8.cell 5
      have u6 := c8.cell 6
      clear hb hbr7 s0 s1 s2 s3 s4 s5 s6 HB7 hck HCK c8
      cases ok with
      | true =>
        rw [show errV (if true = true then 0 else 90) = .nilIface from rfl]
        have HRN := Lib.hid (HR2.out.trans (if_pos rfl))
        go_wp2_with (refine wpList_store_blk rfl none rfl _ (.tmp 2) (.tmp 33) rfl W.heap.size 0 [.string ti, .string tj, .string td, .string ts, .slice A tn c, .int .i64 ta, .int .i64 tb] rfl rfl _ _ hbr8 (by simp [zeros7]) sizeTok (by intro v hv; simp at hv; rcases hv with rfl | rfl | rfl | rfl | rfl | rfl | rfl <;> rfl) ?_; intro w9 hb9 hgr; rw [splice_all _ _ (by simp [zeros7])] at hb9; have HB9 := Lib.hid hb9; have HG9 := Lib.hid hgr; clear hgr hb9; try go_frame)
        (try simp only [Exit.inBlock, Exit.then])
        have r0 := HB9.out.cell 0
        have r1 := HB9.out.cell 1
        have r2 := HB9.out.cell 2
        have r3 := HB9.out.cell 3
        have r4 := HB9.out.cell 4
        have r5 := HB9.out.cell 5
        have r6 := HB9.out.cell 6
        refine bodyPost_ret (v := .tuple #[.agg #[.string ti, .string tj, .string td, .string ts, .slice A tn c, .int .i64 ta, .int .i64 tb], .nilIface]) ?_ rfl (.inl ⟨⟨ti, tj, td, ts, tsc, ta, tb⟩, A, c, HRN.out, by rw [HTN.out], by have := HSL8.out.grownC HBR8.out (fun i x h hx => HNE.out x hx (zeros7_str i x h)) HG9.out; rw [HTN.out] at this; exact this, HNE.out, HB8.out.grown HG9.out HB8.out.size (by intro b e; injection e with e; omega)⟩)
        rw [results_cell_tmp rfl]; go_simp
      | false =>
        rw [show errV (if false = true then 0 else 90) = .iface 95 (.int .i64 90) from rfl]
        have HRN := Lib.hid (HR2.out.trans (if_neg (by decide)))
        go_wp2_with (refine wpList_store_blk rfl none rfl _ (.tmp 2) (.tmp 31) rfl W.heap.size 0 [.string ⟨#[]⟩, .string ⟨#[]⟩, .string ⟨#[]⟩, .string ⟨#[]⟩, .slice none 0 0, .int .i64 0, .int .i64 0] rfl rfl _ _ hbr8 (by simp [zeros7]) sizeTok (by intro v hv; simp [zeros7] at hv; rcases hv with rfl | rfl | rfl <;> rfl) ?_; intro w9 hb9 hgr; rw [splice_all _ _ (by simp [zeros7])] at hb9; have HB9 := Lib.hid hb9; have HG9 := Lib.hid hgr; clear hgr hb9; try go_frame)
        (try simp only [Exit.inBlock, Exit.then])
        have r0 := HB9.out.cell 0
        have r1 := HB9.out.cell 1
        have r2 := HB9.out.cell 2
        have r3 := HB9.out.cell 3
        have r4 := HB9.out.cell 4
        have r5 := HB9.out.cell 5
        have r6 := HB9.out.cell 6
        refine bodyPost_ret (v := .tuple #[.agg #[.string ⟨#[]⟩, .string ⟨#[]⟩, .string ⟨#[]⟩, .string ⟨#[]⟩, .slice none 0 0, .int .i64 0, .int .i64 0], .iface 95 (.int .i64 90)]) ?_ rfl (.inr ⟨HRN.out, _, _, rfl, .inr (.inl ⟨by decide, rfl⟩), HB8.out.grown HG9.out HB8.out.size (by intro b e; injection e with e; omega)⟩)
        rw [results_cell_tmp rfl]; go_simp
    · have HB5 := Lib.hid (HB4.out.trans (hb.mono HB4.out.size))
      have hbr5 := hbr4.below hb hbr4.lt
      have HLT5 := Lib.hid hbr5.lt
      have HRN : Hid (R = none) := Lib.hid (by rw [HR.out, if_neg (by simp), hrt])
      have HCE := Lib.hid hce
      clear hb hbr4 hrt hce z0 z1 z2 z3 z4 HR HTK
      go_wp2_with (first
        | (refine wpList_alloc_blk rfl (some 6) rfl _ rfl _ zeroTokW ?_; intro g6 wa6 hg6 hb6 hgr6; have HA6 := Lib.hid hgr6; have HG6 := Lib.hid hg6; have hbr6 := hbr5.grownN hgr6; clear hgr6 hg6; try go_frame)
        | (refine wpList_store_blk rfl none rfl _ (.tmp 6) (.tmp 21) rfl g6 0 [.string ⟨#[]⟩, .string ⟨#[]⟩, .string ⟨#[]⟩, .string ⟨#[]⟩, .slice none 0 0, .int .i64 0, .int .i64 0] rfl rfl _ _ hb6 (by simp [zeros7]) sizeTok (by intro v hv; simp [zeros7] at hv; rcases hv with rfl | rfl | rfl <;> rfl) ?_; intro w7 hc6 hgs6; rw [splice_all _ _ (by simp [zeros7])] at hc6; have HM6 := Lib.hid (mid_below (Below.refl _ _) HA6.out HG6.out hgs6); have hbr7 := hbr6.grown hgs6 (by intro e; injection e with e; have := HG6.out; have := HLT5.out; omega); have HBR7 := Lib.hid hbr7; clear hc6; clear hgs6 hb6 hbr6; try go_frame)
        | (refine wpList_store_blk rfl none rfl _ (.tmp 2) (.tmp 25) rfl W.heap.size 0 [.string ⟨#[]⟩, .string ⟨#[]⟩, .string ⟨#[]⟩, .string ⟨#[]⟩, .slice none 0 0, .int .i64 0, .int .i64 0] rfl rfl _ _ hbr7 (by simp [zeros7]) sizeTok (by intro v hv; simp [zeros7] at hv; rcases hv with rfl | rfl | rfl <;> rfl) ?_; intro w9 hb9 hgr; rw [splice_all _ _ (by simp [zeros7])] at hb9; have HB9 := Lib.hid hb9; have HG9 := Lib.hid hgr; clear hgr hb9; try go_frame))
      (try simp only [Exit.inBlock, Exit.then])
      have r0 := HB9.out.cell 0
      have r1 := HB9.out.cell 1
      have r2 := HB9.out.cell 2
      have r3 := HB9.out.cell 3
      have r4 := HB9.out.cell 4
      have r5 := HB9.out.cell 5
      have r6 := HB9.out.cell 6
      have HB7 := HB5.out.trans (HM6.out.mono HB5.out.size)
      refine bodyPost_ret (v := .tuple #[.agg #[.string ⟨#[]⟩, .string ⟨#[]⟩, .string ⟨#[]⟩, .string ⟨#[]⟩, .slice none 0 0, .int .i64 0, .int .i64 0], .iface d x]) ?_ rfl (.inr ⟨HRN.out, d, x, rfl, (HCE.out.below HM6.out).grownC HBR7.out (by intro d x h; simp [zeros7] at h) HG9.out, HB7.grown HG9.out HB7.size (by intro b e; injection e with e; omega)⟩)
      rw [results_cell_tmp rfl]; go_simp
end Go.Proofs.YtjfgmgkhinehaaaGreatDoor
namespace Go.Proofs.YtjfgmgkhinehaaaGreatDoor
open Go Go.RowKit
def cx1 : ByteArray := ⟨#[123, 34, 99, 108, 105, 101, 110, 116, 95, 105, 100, 34, 58, 34, 99, 34, 44, 34, 101, 120, 112, 34, 58, 57, 44, 34, 105, 97, 116, 34, 58, 49, 44, 34, 105, 115, 115, 34, 58, 34, 105, 34, 44, 34, 106, 116, 105, 34, 58, 34, 104, 34, 44, 34, 115, 99, 111, 112, 101, 34, 58, 34, 98, 32, 97, 34, 125]⟩
def cx2 : ByteArray := ⟨#[123, 34, 99, 108, 105, 101, 110, 116, 95, 105, 100, 34, 58, 34, 99, 34, 44, 34, 101, 120, 112, 34, 58, 57, 44, 34, 105, 97, 116, 34, 58, 49, 44, 34, 105, 115, 115, 34, 58, 34, 105, 34, 44, 34, 106, 116, 105, 34, 58, 34, 104, 34, 44, 34, 115, 99, 111, 112, 101, 34, 58, 34, 98, 32, 97, 34, 44, 34, 120, 34, 58, 49, 125]⟩
theorem cr1 : readT (parsedL (strL cx1)) = some ⟨⟨#[105]⟩, ⟨#[104]⟩, ⟨#[99]⟩, ⟨#[]⟩, [⟨#[97]⟩, ⟨#[98]⟩], 1, 9⟩ := by kernel_rfl
theorem cr2 : readT (parsedL (strL cx2)) = none := by kernel_rfl
theorem isC_any (d : TypeId) (x : Value) (w : World) (h : CErr 90 (.iface d x) w) (ht : ErrTab w) : Calls Tryz.prog 26 #[.iface d x] w fun e w' => e = .returned (.bool true) ∧ Below w.heap.size w w' := by
  have HN := Lib.hid (numC h ht)
  clear h ht
  go_enter Tryz.func26, Tryz.ntmps26
  go_wp2_with (go_at_call 35; (with_reducible refine HN.out.mono ?_); rintro e w' ⟨rfl, hb⟩; have HB := Lib.hid hb; clear hb)
  go_ret
  exact ⟨rfl, HB.out⟩
set_option maxRecDepth 100000 in
set_option maxHeartbeats 8000000 in
theorem alive9_any (w : World) (ha : Ask9 w) : Calls Tryz.prog 21 #[] w fun e w' => e = .returned (.bool true) ∧ Below w.heap.size w w' := by
  have HA := Lib.hid ha
  have H1 := Lib.hid (claimRead_any cx1 w ha (by decide))
  have H2 := Lib.hid (fun (W : World) (h : Ask9 W) => claimRead_any cx2 W h (by decide))
  rw [cr1] at H1
  rw [cr2] at H2
  clear ha
  go_enter Tryz.func21, Tryz.ntmps21
  go_wp2_with fail
  refine H1.out.mono ?_
  rintro e w1 (⟨t, A, c, ht, rfl, hsl, -, hb⟩ | ⟨ht, _⟩)
  case inr => cases ht
  injection ht with ht
  subst ht
  obtain ⟨A0, c0, e0, -, hl, -⟩ := hsl
  obtain ⟨b, o, rfl, hlt, hcell⟩ := hl (by simp)
  injection e0 with e1 e2 e3
  subst e1
  have HCL : Hid (w1.cell? ⟨b, o, none⟩ = some (.string ⟨#[97]⟩)) := Lib.hid (hcell 0 _ rfl)
  have HLT := Lib.hid hlt
  have HB1 := Lib.hid hb
  clear hb H1 hl hcell hlt e2 e3
  dsimp only [List.length_cons, List.length_nil]
  go_wp2_with (first
    | (refine wpList_alloc_blk rfl (some 1) rfl _ rfl _ zeroTokW ?_; intro g1 wa1 hg1 hb1 hgr1; have HA1 := Lib.hid hgr1; have HG1 := Lib.hid hg1; clear hgr1 hg1; try go_frame)
    | (refine wpList_store_blk rfl none rfl _ (.tmp 1) (.tmp 7) rfl g1 0 [.string ⟨#[105]⟩, .string ⟨#[104]⟩, .string ⟨#[99]⟩, .string ⟨#[]⟩, .slice (some ⟨b, o, none⟩) 2 c, .int .i64 1, .int .i64 9] rfl rfl _ _ hb1 (by simp [zeros7]) sizeTok (by intro v hv; simp at hv; rcases hv with rfl | rfl | rfl | rfl | rfl | rfl | rfl <;> rfl) ?_; intro ws1 hc1 hgs1; rw [splice_all _ _ (by simp [zeros7])] at hc1; have HM1 := Lib.hid (mid_below (Below.refl _ _) HA1.out HG1.out hgs1); have HC1 := Lib.hid hc1; clear hgs1 hb1 hc1; try go_frame))
  have HB2 := Lib.hid (HB1.out.trans (HM1.out.mono HB1.out.size))
  refine (H2.out _ (HA.out.below HB2.out)).mono ?_
  rintro e w3 (⟨t, A2, c2, ht, _⟩ | ⟨-, d, x, rfl, hce, hb⟩)
  case inl => cases ht
  have HCE := Lib.hid hce
  have HB3 := Lib.hid (HB2.out.trans (hb.mono HB2.out.size))
  have HM13 := Lib.hid (HM1.out.trans (hb.mono HM1.out.size))
  have HC13 := Lib.hid (HC1.out.below hb HC1.out.lt)
  clear hce hb
  go_wp2_with (first
    | (refine wpList_alloc_blk rfl (some 3) rfl _ rfl _ zeroTokW ?_; intro g3 wa3 hg3 hb3 hgr3; have HA3 := Lib.hid hgr3; have HG3 := Lib.hid hg3; clear hgr3 hg3; try go_frame)
    | (refine wpList_store_blk rfl none rfl _ (.tmp 3) (.tmp 11) rfl g3 0 [.string ⟨#[]⟩, .string ⟨#[]⟩, .string ⟨#[]⟩, .string ⟨#[]⟩, .slice none 0 0, .int .i64 0, .int .i64 0] rfl rfl _ _ hb3 (by simp [zeros7]) sizeTok (by intro v hv; simp [zeros7] at hv; rcases hv with rfl | rfl | rfl <;> rfl) ?_; intro ws3 hc3 hgs3; rw [splice_all _ _ (by simp [zeros7])] at hc3; have HM3 := Lib.hid (mid_below (Below.refl _ _) HA3.out HG3.out hgs3); have HC3 := Lib.hid hc3; have hcx := HC13.out.below HM3.out HC13.out.lt; have q2 := hcx.cell 2; have q4 := hcx.cell 4; have qe := ((HM13.out.trans (HM3.out.mono HM13.out.size)).cell (p := ⟨b, o, none⟩) HLT.out).trans HCL.out; clear hcx; clear hgs3 hb3 hc3; try go_frame)
    | (go_at_call 26; (with_reducible refine (isC_any d x _ (HCE.out.below HM3.out) (HA.out.below (HB3.out.trans (HM3.out.mono HB3.out.size))).ask.tab).mono ?_); rintro e w4 ⟨rfl, hb⟩; have HB4 := Lib.hid ((HB3.out.trans (HM3.out.mono HB3.out.size)).trans (hb.mono (HB3.out.trans (HM3.out.mono HB3.out.size)).size)); clear hb))
  go_ret
  exact ⟨rfl, HB4.out⟩
end Go.Proofs.YtjfgmgkhinehaaaGreatDoor
namespace Go.Proofs.YtjfgmgkhinehaaaGreatDoor
open Go Go.RowKit
theorem sm_of_great (a : J) : ∀ left, (hgJ a left).1 = false → Sm a := by
  induction a using J.ind with
  | h kind n s l k ih =>
    intro left h
    rw [hgJ_eq] at h
    by_cases h1 : left - 1 - min ((J.mk kind n s l k).k.length : Int) 5000 < 0 ∨ 5000 < (J.mk kind n s l k).s.size ∨ 1000 < (J.mk kind n s l k).k.length ∨ 1000 < (J.mk kind n s l k).l.length
    · rw [if_pos h1] at h; cases h
    rw [if_neg h1] at h
    by_cases h2 : ((J.mk kind n s l k).k.any fun t => decide (1000 < t.size)) = true
    · rw [if_pos h2] at h; cases h
    rw [if_neg h2] at h
    replace h1 : ¬ (left - 1 - min (k.length : Int) 5000 < 0 ∨ 5000 < s.size ∨ 1000 < k.length ∨ 1000 < l.length) := h1
    refine .mk (by omega) (by omega) ?_
    have key : ∀ (l : List J), (∀ x ∈ l, ∀ left, (hgJ x left).1 = false → Sm x) → ∀ left, (hgLs l left).1 = false → ∀ x ∈ l, Sm x := fun l => by
      induction l with
      | nil => intro _ _ _ x hx; cases hx
      | cons y r ihr =>
        intro ih left h x hx
        rw [hgLs] at h
        cases hb : (hgJ y left).1 with
        | true => rw [hb, if_pos rfl] at h; cases h
        | false =>
          rw [hb, if_neg (by simp)] at h
          rcases List.mem_cons.1 hx with rfl | hx
          · exact ih _ (by simp) left hb
          · exact ihr (fun z hz => ih z (List.mem_cons_of_mem _ hz)) _ h x hx
    exact key l ih _ h
theorem below_alloc {W X Y : World} {o : Obj} (h : Below (W.heap.size + 1) (W.alloc o) X) (hb : Below X.heap.size X Y) : Below (W.heap.size + 1) (W.alloc o) Y := h.trans (hb.mono (by have := h.size; simp at this; omega))
theorem memb_sm {j : J} (h : Sm j) (n : ByteArray) (kind : Int) : (membM j n kind).1.l.length ≤ 1000000 := by
  unfold membM membO
  split
  · rename_i x hx
    split
    · have := h.items x (getJ_in hx)
      cases this with | mk h1 _ _ => exact h1
    · simp [zeroJ, J.l]
  · simp [zeroJ, J.l]
theorem memb_mild {j : J} (h : Mild j) (n : ByteArray) (kind : Int) : ∀ x ∈ (membM j n kind).1.l, x.s.size ≤ 1000000000 := by
  have hz : ∀ x ∈ zeroJ.l, x.s.size ≤ 1000000000 := fun x hx => by cases hx
  unfold membM membO
  split
  · rename_i x hx
    split
    · cases h with
      | mk k m s l ks h1 h2 h3 =>
        have := h3 x (getJ_in hx)
        cases this with
        | mk _ _ _ _ _ _ _ h5 => exact fun y hy => by cases h5 y hy with | mk _ _ _ _ _ h6 _ _ => exact h6
    · exact hz
  · exact hz
set_option maxRecDepth 100000 in
set_option maxHeartbeats 16000000 in
theorem lawFields_any (j : J) (va : Value) (name : ByteArray) (W : World) (ha : RepJ W j va) (hA : Ask9 W) (hnm : name.size ≤ 9223372036854775807) :
    Calls Tryz.prog 7 #[va, .string name] W fun e w' => e = .returned (.bool true) ∧ Below W.heap.size W w' := by
  obtain ⟨y0, y1, y2, yA, yp, yc, yK, yq, yd, rfl⟩ := ha.form
  have hB1 := belowAlloc W (.cells #[.int .i64 y0, .int .i64 y1, .string y2, .slice yA yp yc, .slice yK yq yd] 27)
  have hbk : Blk (W.alloc (.cells #[.int .i64 y0, .int .i64 y1, .string y2, .slice yA yp yc, .slice yK yq yd] 27)) W.heap.size 27 [.int .i64 y0, .int .i64 y1, .string y2, .slice yA yp yc, .slice yK yq yd] := heapAtC W rfl [.int .i64 y0, .int .i64 y1, .string y2, .slice yA yp yc, .slice yK yq yd] _
  have HC : Hid (∀ X, Below (W.heap.size + 1) (W.alloc (.cells #[.int .i64 y0, .int .i64 y1, .string y2, .slice yA yp yc, .slice yK yq yd] 27)) X → X.cell? ⟨W.heap.size, 0, none⟩ = some (.int .i64 y0) ∧ X.cell? ⟨W.heap.size, 1, none⟩ = some (.int .i64 y1) ∧ X.cell? ⟨W.heap.size, 2, none⟩ = some (.string y2) ∧ X.cell? ⟨W.heap.size, 3, none⟩ = some (.slice yA yp yc) ∧ X.cell? ⟨W.heap.size, 4, none⟩ = some (.slice yK yq yd)) := Lib.hid (fun X hX => by
    have := hbk.below hX (Nat.lt_succ_self _)
    exact ⟨this.cell 0, this.cell 1, this.cell 2, this.cell 3, this.cell 4⟩)
  have hz1 : (W.alloc (.cells #[.int .i64 y0, .int .i64 y1, .string y2, .slice yA yp yc, .slice yK yq yd] 27)).heap.size = W.heap.size + 1 := by simp
  have HAL := Lib.hid (alive9_any _ (hA.below hB1))
  rw [hz1] at HAL
  have HB1 := Lib.hid hB1
  have HT : Hid (∀ X, Below (W.heap.size + 1) (W.alloc (.cells #[.int .i64 y0, .int .i64 y1, .string y2, .slice yA yp yc, .slice yK yq yd] 27)) X → RepJ X j (.agg #[.int .i64 y0, .int .i64 y1, .string y2, .slice yA yp yc, .slice yK yq yd]) ∧ Ask9 X) := Lib.hid (fun X hX => by
    have hb := hB1.trans (hX.mono (Nat.le_succ _))
    exact ⟨RepJ.below hb _ _ ha, hA.below hb⟩)
  clear ha hA hB1 hbk hz1
  go_enter Tryz.func7, Tryz.ntmps7
  go_wp2_with fail
  refine HAL.out.mono ?_
  rintro e w1 ⟨rfl, hb⟩
  have HB2 := Lib.hid hb
  obtain ⟨q0, q1, q2, q3, q4⟩ := HC.out _ HB2.out
  have HG := Lib.hid (refGreat_any j _ w1 (HT.out _ HB2.out).1)
  have HGM := Lib.hid (fun h => And.intro (sm_of_great j 1000 h) (mild_of_great j 1000 h))
  obtain ⟨g, hg⟩ : ∃ g, g = (hgJ j 1000).1 := ⟨_, rfl⟩
  rw [← hg] at HG HGM
  clear hb hg HAL
  go_wp2_with fail
  refine HG.out.mono ?_
  rintro e w2 ⟨rfl, hb⟩
  have HB3 := Lib.hid (below_alloc HB2.out hb)
  clear q0 q1 q2 q3 q4 hb HG
  obtain ⟨q0, q1, q2, q3, q4⟩ := HC.out _ HB3.out
  cases g with
  | true =>
    go_wp2
    go_ret
    exact ⟨rfl, HB1.out.trans (HB3.out.mono (Nat.le_succ _))⟩
  | false =>
    obtain ⟨hsm, hml⟩ := HGM.out rfl
    have HTX := Lib.hid (fun (X : World) (hX : Below (W.heap.size + 1) (W.alloc (.cells #[.int .i64 y0, .int .i64 y1, .string y2, .slice yA yp yc, .slice yK yq yd] 27)) X) => textC_any j _ name X (HT.out X hX).1 hsm.items (hml.text name))
    have HRT := Lib.hid (fun (X : World) (hX : Below (W.heap.size + 1) (W.alloc (.cells #[.int .i64 y0, .int .i64 y1, .string y2, .slice yA yp yc, .slice yK yq yd] 27)) X) => refTextC_any j _ name X (HT.out X hX).1 hnm)
    have HIX := Lib.hid (fun (X : World) (hX : Below (W.heap.size + 1) (W.alloc (.cells #[.int .i64 y0, .int .i64 y1, .string y2, .slice yA yp yc, .slice yK yq yd] 27)) X) => intC_any j _ name X (HT.out X hX).1 hsm.items)
    have HRI := Lib.hid (fun (X : World) (hX : Below (W.heap.size + 1) (W.alloc (.cells #[.int .i64 y0, .int .i64 y1, .string y2, .slice yA yp yc, .slice yK yq yd] 27)) X) => refIntC_any j _ name X (HT.out X hX).1 hnm)
    have HNX := Lib.hid (fun (X : World) (hX : Below (W.heap.size + 1) (W.alloc (.cells #[.int .i64 y0, .int .i64 y1, .string y2, .slice yA yp yc, .slice yK yq yd] 27)) X) => namesC_any j _ name X (HT.out X hX).1 hsm.items (memb_sm hsm name 4) (memb_mild hml name 4))
    have HRN := Lib.hid (fun (X : World) (hX : Below (W.heap.size + 1) (W.alloc (.cells #[.int .i64 y0, .int .i64 y1, .string y2, .slice yA yp yc, .slice yK yq yd] 27)) X) => refNamesC_any j _ name X (HT.out X hX).1 hnm (memb_sm hsm name 4) (memb_mild hml name 4))
    have HNU := Lib.hid (fun (X : World) (hX : Below (W.heap.size + 1) (W.alloc (.cells #[.int .i64 y0, .int .i64 y1, .string y2, .slice yA yp yc, .slice yK yq yd] 27)) X) => num_errno 54 X (HT.out X hX).2.ask.tab)
    have hT := askT_err j name
    have hI := askI_err j name
    have hfew : ((namesM j name).getD []).length ≤ 16 := by
      unfold namesM
      split
      · unfold namesL
        split
        · rename_i h; exact (checkN_names h.2.2.2).1
        · simp
      · simp
    obtain ⟨r1, hr1⟩ : ∃ r, r = askT j name := ⟨_, rfl⟩
    obtain ⟨r2, hr2⟩ : ∃ r, r = askI j name := ⟨_, rfl⟩
    obtain ⟨r3, hr3⟩ : ∃ r, r = namesM j name := ⟨_, rfl⟩
    rw [← hr1] at HTX HRT hT
    rw [← hr2] at HIX HRI hI
    rw [← hr3] at HNX HRN hfew
    obtain ⟨t, nt⟩ := r1
    obtain ⟨m, nm⟩ := r2
    have ett : (t.toList == t.toList) = true := by simp
    have emm : (m == m) = true := by simp
    have hr4 : r3 = none ∨ ∃ S, r3 = some S := by cases r3 <;> simp
    replace hT : nt = 0 ∨ nt = 54 := hT
    replace hI : nm = 0 ∨ nm = 54 := hI
    have HFW := Lib.hid hfew
    clear hr1 hr2 hr3 hsm hml HGM hfew hnm
    rcases hT with rfl | rfl <;> rcases hI with rfl | rfl <;> rcases hr4 with rfl | ⟨S, rfl⟩ <;> (
      go_wp2_with fail
      refine (HTX.out _ HB3.out).mono ?_
      rintro e w3 ⟨rfl, hb⟩
      have HB4 := Lib.hid (below_alloc HB3.out hb)
      clear q0 q1 q2 q3 q4 hb
      obtain ⟨q0, q1, q2, q3, q4⟩ := HC.out _ HB4.out
      (first | rw [errV_zero] | rw [show errV 54 = .iface 95 (.int .i64 54) from rfl])
      go_wp2_with fail
      refine (HRT.out _ HB4.out).mono ?_
      rintro e w4 ⟨rfl, hb⟩
      have HB5 := Lib.hid (below_alloc HB4.out hb)
      clear q0 q1 q2 q3 q4 hb
      obtain ⟨q0, q1, q2, q3, q4⟩ := HC.out _ HB5.out
      go_wp2_with (first
        | (go_at_call 35; (with_reducible refine (HNU.out _ HB5.out).mono ?_); rintro e w5 ⟨rfl, hb⟩; have HB6 := Lib.hid (below_alloc HB5.out hb); clear q0 q1 q2 q3 q4 hb; obtain ⟨q0, q1, q2, q3, q4⟩ := HC.out _ HB6.out)
        | (go_at_call 36; fail))
      (first | refine (HIX.out _ HB5.out).mono ?_ | refine (HIX.out _ HB6.out).mono ?_)
      rintro e w6 ⟨rfl, hb⟩
      (first | have HB7 := Lib.hid (below_alloc HB5.out hb) | have HB7 := Lib.hid (below_alloc HB6.out hb))
      clear q0 q1 q2 q3 q4 hb
      obtain ⟨q0, q1, q2, q3, q4⟩ := HC.out _ HB7.out
      (first | rw [errV_zero] | rw [show errV 54 = .iface 95 (.int .i64 54) from rfl])
      go_wp2_with fail
      refine (HRI.out _ HB7.out).mono ?_
      rintro e w7 ⟨rfl, hb⟩
      have HB8 := Lib.hid (below_alloc HB7.out hb)
      clear q0 q1 q2 q3 q4 hb
      obtain ⟨q0, q1, q2, q3, q4⟩ := HC.out _ HB8.out
      go_wp2_with (first
        | (go_at_call 35; (with_reducible refine (HNU.out _ HB8.out).mono ?_); rintro e w8 ⟨rfl, hb⟩; have HB9 := Lib.hid (below_alloc HB8.out hb); clear q0 q1 q2 q3 q4 hb; obtain ⟨q0, q1, q2, q3, q4⟩ := HC.out _ HB9.out)
        | (go_at_call 38; fail))
      (first | refine (HNX.out _ HB8.out).mono ?_ | refine (HNX.out _ HB9.out).mono ?_)
      rintro e w9 ⟨A1, c1, rfl, hs1, hb⟩
      (first | have HBA := Lib.hid (below_alloc HB8.out hb) | have HBA := Lib.hid (below_alloc HB9.out hb))
      have HS1 := Lib.hid hs1
      clear q0 q1 q2 q3 q4 hb hs1
      obtain ⟨q0, q1, q2, q3, q4⟩ := HC.out _ HBA.out
      (first | rw [show errV (if (none : Option (List ByteArray)).isSome = true then 0 else 54) = .iface 95 (.int .i64 54) from rfl] | rw [show errV (if (some S).isSome = true then 0 else 54) = .nilIface from rfl])
      go_wp2_with fail
      refine (HRN.out _ HBA.out).mono ?_
      rintro e wA ⟨A2, c2, rfl, hs2, hb⟩
      have HBB := Lib.hid (below_alloc HBA.out hb)
      have HSM := Lib.hid (scRefSame_any _ _ _ _ wA (HS1.out.below hb) hs2 (by have := HFW.out; omega) (by have := HFW.out; omega))
      clear q0 q1 q2 q3 q4 hb hs2
      rw [sameN_self] at HSM
      go_wp2_with fail
      refine HSM.out.mono ?_
      rintro e wB ⟨rfl, hb⟩
      have HBC := Lib.hid (below_alloc HBB.out hb)
      clear hb
      go_wp2_with (go_at_call 35; (with_reducible refine (HNU.out _ HBC.out).mono ?_); rintro e wC ⟨rfl, hb⟩; have HBD := Lib.hid (below_alloc HBC.out hb); clear hb)
      go_ret
      (first | exact ⟨rfl, HB1.out.trans (HBC.out.mono (Nat.le_succ _))⟩ | exact ⟨rfl, HB1.out.trans (HBD.out.mono (Nat.le_succ _))⟩))
end Go.Proofs.YtjfgmgkhinehaaaGreatDoor
