/- PolRdr, PolRdr2, PolChain, PolSet, LxSpell, PolWords, PolDeep, PolNot: merged. -/
import Derived.Deep.AppendLies
import Derived.Deep.CutBlock
import Derived.Test.YtcjfealalokjaaaGreatDoorPa11
set_option linter.all false
namespace Go.Proofs.YtcjfealalokjaaaGreatDoor
open Go Go.RowKit
/-- The reader: where it lies, where the tokens lie; the tokens, the place, how many rules have begun, how deep. -/
structure Rdr (w : World) (rb tb o c : Nat) (ts : List TokM) (k nr dp : Nat) : Prop where
  blk : Blk w rb 100 [.slice (some ⟨tb, o, none⟩) ts.length c, .int .i64 k, .int .i64 nr, .int .i64 dp]
  ne : tb ≠ rb
  lt : tb < w.heap.size
  marks : Marks w
  mne : 2 ≠ rb
  toks : ∀ i t, ts[i]? = some t → w.cell? ⟨tb, o + i * 4, none⟩ = some (.int .i64 t.kind) ∧ w.cell? ⟨tb, o + i * 4 + 1, none⟩ = some (.string t.text) ∧ w.cell? ⟨tb, o + i * 4 + 2, none⟩ = some (.int .i64 t.num) ∧ w.cell? ⟨tb, o + i * 4 + 3, none⟩ = some (.int .i64 t.pos)
theorem Rdr.grown {w w' : World} {rb tb o c k nr dp k' nr' dp' : Nat} {ts : List TokM} (h : Rdr w rb tb o c ts k nr dp) (hg : w.grownBy w' (some rb)) (hb : Blk w' rb 100 [.slice (some ⟨tb, o, none⟩) ts.length c, .int .i64 k', .int .i64 nr', .int .i64 dp']) : Rdr w' rb tb o c ts k' nr' dp' := by
  refine ⟨hb, h.ne, Nat.lt_of_lt_of_le h.lt hg.size, Blk.grown h.marks hg (by intro e; injection e with e; exact h.mne e), h.mne, fun i t hi => ?_⟩
  have e : ∀ x, w'.cell? ⟨tb, x, none⟩ = w.cell? ⟨tb, x, none⟩ := fun x => by
    simp [World.cell?, hg.block tb h.lt (fun e => h.ne (by injection e))]
  rw [e, e, e, e]
  exact h.toks i t hi
theorem Rdr.keep {w w' : World} {rb tb o c k nr dp : Nat} {ts : List TokM} (h : Rdr w rb tb o c ts k nr dp) (hg : w.grownBy w' none) : Rdr w' rb tb o c ts k nr dp :=
  ⟨h.blk.grownN hg, h.ne, Nat.lt_of_lt_of_le h.lt hg.size, Blk.grownN h.marks hg, h.mne, fun i t hi => by
    have e : ∀ x, w'.cell? ⟨tb, x, none⟩ = w.cell? ⟨tb, x, none⟩ := fun x => by
      simp [World.cell?, hg.block tb h.lt (fun e => by cases e)]
    rw [e, e, e, e]
    exact h.toks i t hi⟩
theorem Rdr.other {w w' : World} {rb tb o c k nr dp x : Nat} {ts : List TokM} (h : Rdr w rb tb o c ts k nr dp) (hg : w.grownBy w' (some x)) (h1 : rb ≠ x) (h2 : tb ≠ x) (h3 : 2 ≠ x) : Rdr w' rb tb o c ts k nr dp :=
  ⟨h.blk.grown hg (by intro e; injection e with e; exact h1 e), h.ne, Nat.lt_of_lt_of_le h.lt hg.size, Blk.grown h.marks hg (by intro e; injection e with e; exact h3 e), h.mne, fun i t hi => by
    have e : ∀ x, w'.cell? ⟨tb, x, none⟩ = w.cell? ⟨tb, x, none⟩ := fun x => by
      simp [World.cell?, hg.block tb h.lt (fun e => by injection e with e; exact h2 e)]
    rw [e, e, e, e]
    exact h.toks i t hi⟩
theorem Rdr.drewN {w : World} {rb tb o c k nr dp : Nat} {ts : List TokM} (h : Rdr w rb tb o c ts k nr dp) (q : Nat) : Rdr (w.drewN q) rb tb o c ts k nr dp := h.keep (grownBy_drewN (grownBy_refl w none) q)
theorem Rdr.cells {w : World} {rb tb o c k nr dp : Nat} {ts : List TokM} (h : Rdr w rb tb o c ts k nr dp) : (w.cell? ⟨rb, 0, none⟩ = some (.slice (some ⟨tb, o, none⟩) ts.length c) ∧ w.cell? ⟨rb, 1, none⟩ = some (.int .i64 k) ∧ w.cell? ⟨rb, 2, none⟩ = some (.int .i64 nr) ∧ w.cell? ⟨rb, 3, none⟩ = some (.int .i64 dp)) ∧
    (w.frozen? ⟨rb, 0, none⟩ = false ∧ w.frozen? ⟨rb, 1, none⟩ = false ∧ w.frozen? ⟨rb, 2, none⟩ = false ∧ w.frozen? ⟨rb, 3, none⟩ = false) := ⟨⟨h.blk.cell 0, h.blk.cell 1, h.blk.cell 2, h.blk.cell 3⟩, h.blk.frozen 0, h.blk.frozen 1, h.blk.frozen 2, h.blk.frozen 3⟩
theorem Rdr.goes {w : World} {rb tb o c k nr dp : Nat} {ts : List TokM} (h : Rdr w rb tb o c ts k nr dp) (j : Nat) : Rdr (w.setCell ⟨rb, 1, none⟩ (.int .i64 j)) rb tb o c ts j nr dp := h.grown (grownBy_setCell w rb 1 _) (Blk.setCell h.blk 1 (.int .i64 j))
theorem Rdr.rises {w : World} {rb tb o c k nr dp : Nat} {ts : List TokM} (h : Rdr w rb tb o c ts k nr dp) (j : Nat) : Rdr (w.setCell ⟨rb, 2, none⟩ (.int .i64 j)) rb tb o c ts k j dp := h.grown (grownBy_setCell w rb 2 _) (Blk.setCell h.blk 2 (.int .i64 j))
theorem Rdr.deep {w : World} {rb tb o c k nr dp : Nat} {ts : List TokM} (h : Rdr w rb tb o c ts k nr dp) (j : Nat) : Rdr (w.setCell ⟨rb, 3, none⟩ (.int .i64 j)) rb tb o c ts k nr j := h.grown (grownBy_setCell w rb 3 _) (Blk.setCell h.blk 3 (.int .i64 j))
theorem hd_at {ts : List TokM} {k : Nat} (hk : k < ts.length) : ts[k]? = some (hdT (ts.drop k)) := by
  unfold hdT
  rw [List.getElem?_eq_getElem hk, List.drop_eq_getElem_cons hk]; rfl
theorem ends_lt {ts : List TokM} {k : Nat} (h : Ends (ts.drop k)) : k < ts.length := by
  have := h.len
  rw [List.length_drop] at this; omega
theorem drop_one (ts : List TokM) (k : Nat) : (ts.drop k).drop 1 = ts.drop (k + 1) := List.drop_drop
def posR (w : World) (rb : Nat) : Nat := match w.cell? ⟨rb, 1, none⟩ with | some (.int _ i) => i.toNat | _ => 0
theorem posR_is {w : World} {rb tb o c k nr dp : Nat} {ts : List TokM} (h : Rdr w rb tb o c ts k nr dp) : posR w rb = k := by
  unfold posR; rw [h.cells.1.2.1]; simp
/-- With what a reader gives up. -/
def flt (b : Nat) : List PanicEntry := [{ v := .iface 66 (.pointer (some ⟨b, 0, none⟩)), recovered := false }]
/-- It gives up. -/
def Gives (w : World) (rb : Nat) (p n : Int) (e : Ending) (w' : World) : Prop :=
  ∃ b, e = .panicked (flt b) ∧ w.heap.size ≤ b ∧ Blk w' b 69 [.int .i64 p, .iface 63 (.int .i64 n)] ∧ w.grownBy w' (some rb)
theorem Gives.from {w w2 w' : World} {rb : Nat} {p n : Int} {e : Ending} (h : Gives w2 rb p n e w') (hg : w.grownBy w2 (some rb)) : Gives w rb p n e w' := by
  obtain ⟨b, h1, h2, h3, h4⟩ := h
  exact ⟨b, h1, Nat.le_trans hg.size h2, h3, hg.trans h4⟩
theorem Keep.toRow {w w' : World} {rb : Nat} (h : w.grownBy w' none) : w.grownBy w' (some rb) := ⟨h.os, h.tape, h.output, h.size, fun k hk _ => h.block k hk (by simp)⟩
theorem grown_drewN {w : World} (q : Nat) (row : Option Nat) : w.grownBy (w.drewN q) row := grownBy_drewN (grownBy_refl w row) q
theorem results_blkE {P : Program} {fn : Func} {p : Tmp} {ty : TypeId} (h : fn.results = #[.cell p ty]) (tmps : Array Value) (w : World) (g : Nat) (t : TypeId) (cs : List Value) (de : TypeDesc)
    (hp : tmps.getD p undef = .pointer (some ⟨g, 0, none⟩)) (hb : Blk w g t cs)
    (hu : P.underlying ty = some de) (hd : de.isRow = true) (hi : (P.info? ty).map (·.size) = some cs.length) :
    (results fn tmps).run P w = .ok (.agg cs.toArray) w := by
  have hp' : tmps[p]?.getD undef = .pointer (some ⟨g, 0, none⟩) := by simpa using hp
  have hl := run_loadVar_row w g t ty cs.toArray (0, 0) de hb hu (by cases de <;> first | rfl | cases hd) (by simpa using hi)
  simp only [results, h]
  simp [Sem.run_bind, Result.andThen, hp', asAddr, hl]
theorem sizeTok4 : (Tryz.prog.info? 59).map (·.size) = some 4 := by kernel_rfl
theorem blkNew (w : World) (cs : List Value) (t : TypeId) : Blk (w.alloc (.cells cs.toArray t)) w.heap.size t cs := heap_alloc_new w _
set_option maxRecDepth 100000 in
set_option maxHeartbeats 1000000 in
theorem polAhead_any {w : World} {rb tb o c k nr dp : Nat} {ts : List TokM} {t : TokM} (h : Rdr w rb tb o c ts k nr dp) (ht : ts[k]? = some t) :
    Calls Tryz.prog 55 #[.pointer (some ⟨rb, 0, none⟩)] w fun e w' => e = .returned (.agg #[.int .i64 t.kind, .string t.text, .int .i64 t.num, .int .i64 t.pos]) ∧ w.grownBy w' none := by
  obtain ⟨⟨c0, c1, _, _⟩, _⟩ := h.cells
  obtain ⟨t0, t1, t2, t3⟩ := h.toks k t ht
  obtain ⟨k0, s0, n0, p0⟩ := t
  simp only at t0 t1 t2 t3
  have hk : k < ts.length := (List.getElem?_eq_some_iff.1 ht).1
  have h1 : (k : Int) < (ts.length : Int) := by omega
  have h2 : (0 : Int) ≤ (k : Int) := by omega
  have l1 := h.blk.lt
  have l2 := h.lt
  clear h ht
  go_enter Tryz.func55, Tryz.ntmps55
  go_wp2
  go_region
  go_wp2
  refine bodyPost_ret (results_blkE Tryz.results55 _ _ w.heap.size _ [.int .i64 k0, .string s0, .int .i64 n0, .int .i64 p0] _ rfl (blkNew w [.int .i64 k0, .string s0, .int .i64 n0, .int .i64 p0] _).drew Tryz.underlying59 rfl sizeTok4) rfl ?_
  exact ⟨rfl, (World.grownBy_alloc w (.cells #[.int .i64 k0, .string s0, .int .i64 n0, .int .i64 p0] 59) none).trans (grown_drewN 1 none)⟩
end Go.Proofs.YtcjfealalokjaaaGreatDoor
namespace Go.Proofs.YtcjfealalokjaaaGreatDoor
open Go Go.RowKit
theorem fieldPos (a b c d : Value) (w : World) : Sem.run Tryz.prog (Instr.field 59 (.agg #[a, b, c, d]) 3) w = .ok d w := by kernel_rfl
set_option maxRecDepth 100000 in
theorem polGiveUp_any {w : World} {rb tb o c k nr dp : Nat} {ts : List TokM} {t : TokM} (h : Rdr w rb tb o c ts k nr dp) (ht : ts[k]? = some t) (n : Int) :
    Calls Tryz.prog 106 #[.pointer (some ⟨rb, 0, none⟩), .iface 63 (.int .i64 n)] w (Gives w rb t.pos n) := by
  have HA := Lib.hid (polAhead_any h ht)
  obtain ⟨k0, s0, n0, p0⟩ := t
  have hf := fun w => fieldPos (.int .i64 k0) (.string s0) (.int .i64 n0) (.int .i64 p0) w
  clear h ht
  go_enter Tryz.func106, Tryz.ntmps106
  go_wp2_with fail
  refine HA.out.mono ?_
  rintro e w1 ⟨rfl, hg⟩
  go_wp2
  exact ⟨rfl, w1.heap.size, rfl, hg.size, blkNew w1 [.int .i64 p0, .iface 63 (.int .i64 n)] _, Keep.toRow (hg.trans (World.grownBy_alloc w1 _ none))⟩
set_option maxRecDepth 100000 in
theorem polSaid_any {w : World} {rb tb o c k nr dp : Nat} {ts : List TokM} {t : TokM} (h : Rdr w rb tb o c ts k nr dp) (ht : ts[k]? = some t) :
    Calls Tryz.prog 104 #[.pointer (some ⟨rb, 0, none⟩)] w fun e w' => e = .returned (.string (saidT t)) ∧ w.grownBy w' none := by
  have HA := Lib.hid (polAhead_any h ht)
  obtain ⟨k0, s0, n0, p0⟩ := t
  clear h ht
  by_cases h1 : k0 = 1
  · subst h1
    have hs : saidT ⟨1, s0, n0, p0⟩ = s0 := if_pos (.inl rfl)
    go_enter Tryz.func104, Tryz.ntmps104
    go_wp2_with fail
    refine HA.out.mono ?_
    rintro e w1 ⟨rfl, hg⟩
    go_wp2
    go_ret
    exact ⟨by rw [hs]; rfl, hg.trans (World.grownBy_alloc _ _ none)⟩
  by_cases h4 : k0 = 4
  · subst h4
    have hs : saidT ⟨4, s0, n0, p0⟩ = s0 := if_pos (.inr rfl)
    go_enter Tryz.func104, Tryz.ntmps104
    go_wp2_with fail
    refine HA.out.mono ?_
    rintro e w1 ⟨rfl, hg⟩
    go_wp2
    go_ret
    exact ⟨by rw [hs]; rfl, hg.trans (World.grownBy_alloc _ _ none)⟩
  · have hs : saidT ⟨k0, s0, n0, p0⟩ = E0 := if_neg (fun h => h.elim h1 h4)
    have e1 : (k0 == 1) = false := by rw [beq_eq_false_iff_ne]; exact h1
    have e4 : (k0 == 4) = false := by rw [beq_eq_false_iff_ne]; exact h4
    go_enter Tryz.func104, Tryz.ntmps104
    go_wp2_with fail
    refine HA.out.mono ?_
    rintro e w1 ⟨rfl, hg⟩
    go_wp2
    go_ret
    exact ⟨by rw [hs]; rfl, hg.trans (World.grownBy_alloc _ _ none)⟩
set_option maxRecDepth 100000 in
theorem polGoes_yes {w : World} {rb tb o c k nr dp : Nat} {ts : List TokM} {t : TokM} {s : ByteArray} (h : Rdr w rb tb o c ts k nr dp) (ht : ts[k]? = some t) (hs : saidT t = s) (hz : ts.length ≤ 1000000) :
    Calls Tryz.prog 107 #[.pointer (some ⟨rb, 0, none⟩), .string s] w fun e w' => e = .returned (.bool true) ∧ w.grownBy w' (some rb) ∧ Rdr w' rb tb o c ts (k + 1) nr dp := by
  have HA := Lib.hid (polSaid_any h ht)
  have hk : k < ts.length := (List.getElem?_eq_some_iff.1 ht).1
  have HWR : Hid (wrap64 ((k : Int) + 1) = ((k + 1 : Nat) : Int)) := Lib.hid (by unfold wrap64; omega)
  have HR := Lib.hid h
  rw [hs] at HA
  have e1 : (s.toList == s.toList) = true := by simp
  clear h ht hs hk
  go_enter Tryz.func107, Tryz.ntmps107
  go_wp2_with fail
  refine HA.out.mono ?_
  rintro e w1 ⟨rfl, hg⟩
  have HR1 := Lib.hid (HR.out.keep hg)
  obtain ⟨⟨c0, c1, _, _⟩, _, f1, _⟩ := HR1.out.cells
  have HG := Lib.hid hg
  clear hg
  go_wp2
  rw [HWR.out]
  go_ret
  exact ⟨rfl, (Keep.toRow HG.out).trans (grownBy_setCell _ rb 1 _), HR1.out.goes (k + 1)⟩
set_option maxRecDepth 100000 in
theorem polGoes_no {w : World} {rb tb o c k nr dp : Nat} {ts : List TokM} {t : TokM} {s : ByteArray} (h : Rdr w rb tb o c ts k nr dp) (ht : ts[k]? = some t) (hs : saidT t ≠ s) :
    Calls Tryz.prog 107 #[.pointer (some ⟨rb, 0, none⟩), .string s] w fun e w' => e = .returned (.bool false) ∧ w.grownBy w' none := by
  have HA := Lib.hid (polSaid_any h ht)
  have e1 : ((saidT t).toList == s.toList) = false := by rw [eq_toList]; exact decide_eq_false hs
  obtain ⟨x, hx⟩ : ∃ x, x = saidT t := ⟨_, rfl⟩
  rw [← hx] at HA e1
  clear h ht hs hx
  go_enter Tryz.func107, Tryz.ntmps107
  go_wp2_with fail
  refine HA.out.mono ?_
  rintro e w1 ⟨rfl, hg⟩
  go_wp2
  go_ret
  exact ⟨rfl, hg⟩
set_option maxRecDepth 100000 in
theorem polMust_yes {w : World} {rb tb o c k nr dp : Nat} {ts : List TokM} {t : TokM} {s : ByteArray} (h : Rdr w rb tb o c ts k nr dp) (ht : ts[k]? = some t) (hs : saidT t = s) (hz : ts.length ≤ 1000000) :
    Calls Tryz.prog 111 #[.pointer (some ⟨rb, 0, none⟩), .string s] w fun e w' => e = .returned (.tuple #[]) ∧ w.grownBy w' (some rb) ∧ Rdr w' rb tb o c ts (k + 1) nr dp := by
  have HA := Lib.hid (polGoes_yes h ht hs hz)
  clear h ht hs
  go_enter Tryz.func111, Tryz.ntmps111
  go_wp2_with fail
  refine HA.out.mono ?_
  rintro e w1 ⟨rfl, hg, hr⟩
  have HR := Lib.hid (And.intro hg hr)
  clear hg hr
  go_wp2
  go_end0
  exact ⟨rfl, HR.out⟩
set_option maxRecDepth 100000 in
theorem polMust_no {w : World} {rb tb o c k nr dp : Nat} {ts : List TokM} {t : TokM} {s : ByteArray} (h : Rdr w rb tb o c ts k nr dp) (ht : ts[k]? = some t) (hs : saidT t ≠ s) :
    Calls Tryz.prog 111 #[.pointer (some ⟨rb, 0, none⟩), .string s] w (Gives w rb t.pos 120) := by
  have HA := Lib.hid (polGoes_no h ht hs)
  have HR := Lib.hid h
  have HT := Lib.hid ht
  clear h ht hs
  go_enter Tryz.func111, Tryz.ntmps111
  go_wp2_with fail
  refine HA.out.mono ?_
  rintro e w1 ⟨rfl, hg⟩
  have HG := Lib.hid (polGiveUp_any (HR.out.keep hg) HT.out 120)
  have HK := Lib.hid (Keep.toRow (rb := rb) hg)
  clear hg
  go_wp2_with fail
  refine HG.out.mono ?_
  rintro e w2 h2
  have H2 := Lib.hid (h2.from HK.out)
  obtain ⟨b, rfl, -, -, -⟩ := h2
  go_wp2
  exact ⟨rfl, H2.out⟩
set_option maxRecDepth 100000 in
theorem polText_yes {w : World} {rb tb o c k nr dp : Nat} {ts : List TokM} {t : TokM} (h : Rdr w rb tb o c ts k nr dp) (ht : ts[k]? = some t) (hs : t.kind = 2) (hz : ts.length ≤ 1000000) :
    Calls Tryz.prog 109 #[.pointer (some ⟨rb, 0, none⟩)] w fun e w' => e = .returned (.string t.text) ∧ w.grownBy w' (some rb) ∧ Rdr w' rb tb o c ts (k + 1) nr dp := by
  have HA := Lib.hid (polAhead_any h ht)
  have hk : k < ts.length := (List.getElem?_eq_some_iff.1 ht).1
  have HWR : Hid (wrap64 ((k : Int) + 1) = ((k + 1 : Nat) : Int)) := Lib.hid (by unfold wrap64; omega)
  have HR := Lib.hid h
  obtain ⟨k0, s0, n0, p0⟩ := t
  simp only at hs
  subst hs
  clear h ht hk
  go_enter Tryz.func109, Tryz.ntmps109
  go_wp2_with fail
  refine HA.out.mono ?_
  rintro e w1 ⟨rfl, hg⟩
  have HR1 := Lib.hid ((HR.out.keep hg).keep (World.grownBy_alloc w1 (.cells #[.int .i64 2, .string s0, .int .i64 n0, .int .i64 p0] 59) none))
  obtain ⟨⟨c0, c1, _, _⟩, _, f1, _⟩ := HR1.out.cells
  have HG := Lib.hid (hg.trans (World.grownBy_alloc w1 (.cells #[.int .i64 2, .string s0, .int .i64 n0, .int .i64 p0] 59) none))
  have hb : Blk (w1.alloc (.cells #[.int .i64 2, .string s0, .int .i64 n0, .int .i64 p0] 59)) w1.heap.size 59 [.int .i64 2, .string s0, .int .i64 n0, .int .i64 p0] := blkNew _ [.int .i64 2, .string s0, .int .i64 n0, .int .i64 p0] _
  have l1 := (HR.out.keep hg).blk.lt
  have HR0 := Lib.hid (HR.out.keep hg)
  have HG0 := Lib.hid hg
  clear hg
  go_wp2
  rw [HWR.out]
  go_ret
  exact ⟨rfl, ((Keep.toRow HG0.out).trans (grownBy_setCell _ rb 1 _)).trans (Keep.toRow (World.grownBy_alloc _ _ none)), (HR0.out.goes (k + 1)).keep (World.grownBy_alloc _ _ none)⟩
set_option maxRecDepth 100000 in
theorem polText_no {w : World} {rb tb o c k nr dp : Nat} {ts : List TokM} {t : TokM} (h : Rdr w rb tb o c ts k nr dp) (ht : ts[k]? = some t) (hs : t.kind ≠ 2) :
    Calls Tryz.prog 109 #[.pointer (some ⟨rb, 0, none⟩)] w (Gives w rb t.pos 120) := by
  have HA := Lib.hid (polAhead_any h ht)
  have HR := Lib.hid h
  have HT := Lib.hid ht
  obtain ⟨k0, s0, n0, p0⟩ := t
  simp only at hs
  have e1 : (k0 != 2) = true := by simpa using hs
  clear h ht hs
  go_enter Tryz.func109, Tryz.ntmps109
  go_wp2_with fail
  refine HA.out.mono ?_
  rintro e w1 ⟨rfl, hg⟩
  have HG := Lib.hid (polGiveUp_any ((HR.out.keep hg).keep (World.grownBy_alloc w1 (.cells #[.int .i64 k0, .string s0, .int .i64 n0, .int .i64 p0] 59) none)) HT.out 120)
  have HK := Lib.hid (Keep.toRow (rb := rb) (hg.trans (World.grownBy_alloc w1 (.cells #[.int .i64 k0, .string s0, .int .i64 n0, .int .i64 p0] 59) none)))
  clear hg
  go_wp2_with fail
  refine HG.out.mono ?_
  rintro e w2 h2
  have H2 := Lib.hid (h2.from HK.out)
  obtain ⟨b, rfl, -, -, -⟩ := h2
  go_wp2
  exact ⟨rfl, H2.out⟩
end Go.Proofs.YtcjfealalokjaaaGreatDoor
namespace Go.Proofs.YtcjfealalokjaaaGreatDoor
open Go Go.RowKit
/-- What reading an expression tells. -/
def Tells (w : World) (rb tb o c : Nat) (ts : List TokM) (nr dp : Nat) (r : ResE) (e : Ending) (w' : World) : Prop :=
  (r.2.2 = 0 ∧ ∃ k v, e = .returned v ∧ r.2.1 = ts.drop k ∧ Ends (ts.drop k) ∧ RepE w' (fun b => w.heap.size ≤ b) r.1 v ∧ Rdr w' rb tb o c ts k nr dp ∧ w.grownBy w' (some rb)) ∨
  (r.2.2 ≠ 0 ∧ Gives w rb (hdT r.2.1).pos r.2.2 e w')
theorem Tells.ok {w : World} {rb tb o c nr dp : Nat} {ts : List TokM} {r : ResE} {e : Ending} {w' : World} (h : Tells w rb tb o c ts nr dp r e w') (h0 : r.2.2 = 0) :
    ∃ k a0 a1 a2 A n cc a4, e = .returned (.agg #[.int .i64 a0, .string a1, .int .i64 a2, .slice A n cc, .int .i64 a4]) ∧ r.2.1 = ts.drop k ∧ Ends (ts.drop k) ∧ RepE w' (fun b => w.heap.size ≤ b) r.1 (.agg #[.int .i64 a0, .string a1, .int .i64 a2, .slice A n cc, .int .i64 a4]) ∧ Rdr w' rb tb o c ts k nr dp ∧ w.grownBy w' (some rb) := by
  rcases h with ⟨_, k, v, h1, h2, h3, h4, h5, h6⟩ | ⟨h, _⟩
  · obtain ⟨a0, a1, a2, A, n, cc, a4, rfl⟩ := h4.form
    exact ⟨k, a0, a1, a2, A, n, cc, a4, h1, h2, h3, h4, h5, h6⟩
  · exact absurd h0 h
theorem Tells.bad {w : World} {rb tb o c nr dp : Nat} {ts : List TokM} {r : ResE} {e : Ending} {w' : World} (h : Tells w rb tb o c ts nr dp r e w') (h0 : r.2.2 ≠ 0) : Gives w rb (hdT r.2.1).pos r.2.2 e w' := by
  rcases h with ⟨h, _⟩ | ⟨_, h⟩
  · exact absurd h h0
  · exact h
/-- What is asked of a reader of parts. -/
def PartAsk (f rb tb o c : Nat) (ts : List TokM) (nr dp : Nat) (next : List TokM → ResE) : Prop :=
  ∀ w k, Rdr w rb tb o c ts k nr dp → Ends (ts.drop k) → Calls Tryz.prog f #[.pointer (some ⟨rb, 0, none⟩)] w (Tells w rb tb o c ts nr dp (next (ts.drop k)))
abbrev zerosE : List Value := [.int .i64 0, .string ⟨#[]⟩, .int .i64 0, .slice none 0 0, .int .i64 0]
theorem sizeExpr : (Tryz.prog.info? 42).map (·.size) = some 5 := by kernel_rfl
theorem blk_setE {w : World} {g : Nat} {t : TypeId} {y0 y1 y2 y3 y4 : Value} (hb : Blk w g t [y0, y1, y2, y3, y4]) (z0 z1 z2 z3 z4 : Value) :
    Blk (((((w.setCell ⟨g, 0, none⟩ z0).setCell ⟨g, 1, none⟩ z1).setCell ⟨g, 2, none⟩ z2).setCell ⟨g, 3, none⟩ z3).setCell ⟨g, 4, none⟩ z4) g t [z0, z1, z2, z3, z4] ∧
    w.grownBy (((((w.setCell ⟨g, 0, none⟩ z0).setCell ⟨g, 1, none⟩ z1).setCell ⟨g, 2, none⟩ z2).setCell ⟨g, 3, none⟩ z3).setCell ⟨g, 4, none⟩ z4) (some g) :=
  ⟨((((hb.setCell 0 z0).setCell 1 z1).setCell 2 z2).setCell 3 z3).setCell 4 z4, ((((grownBy_setCell w g 0 z0).trans (grownBy_setCell _ g 1 z1)).trans (grownBy_setCell _ g 2 z2)).trans (grownBy_setCell _ g 3 z3)).trans (grownBy_setCell _ g 4 z4)⟩
theorem cells5 {w : World} {g : Nat} {t : TypeId} {x0 x1 x2 x3 x4 : Value} (h : Blk w g t [x0, x1, x2, x3, x4]) : w.cell? ⟨g, 0, none⟩ = some x0 ∧ w.cell? ⟨g, 1, none⟩ = some x1 ∧ w.cell? ⟨g, 2, none⟩ = some x2 ∧ w.cell? ⟨g, 3, none⟩ = some x3 ∧ w.cell? ⟨g, 4, none⟩ = some x4 := ⟨h.cell 0, h.cell 1, h.cell 2, h.cell 3, h.cell 4⟩
theorem frozen5 {w : World} {g : Nat} {t : TypeId} {x0 x1 x2 x3 x4 : Value} (h : Blk w g t [x0, x1, x2, x3, x4]) : w.frozen? ⟨g, 0, none⟩ = false ∧ w.frozen? ⟨g, 1, none⟩ = false ∧ w.frozen? ⟨g, 2, none⟩ = false ∧ w.frozen? ⟨g, 3, none⟩ = false ∧ w.frozen? ⟨g, 4, none⟩ = false := ⟨h.frozen 0, h.frozen 1, h.frozen 2, h.frozen 3, h.frozen 4⟩
/-- Between two parts. -/
structure ChI (w wr : World) (rb tb o c : Nat) (ts : List TokM) (nr dp eb j : Nat) (ex : Ex) (a0 : Int) (a1 : ByteArray) (a2 : Int) (A : Option Addr) (n cc : Nat) (a4 : Int) : Prop where
  blk : Blk wr eb 42 [.int .i64 a0, .string a1, .int .i64 a2, .slice A n cc, .int .i64 a4]
  rep : RepE wr (fun b => w.heap.size < b ∧ b ≠ eb) ex (.agg #[.int .i64 a0, .string a1, .int .i64 a2, .slice A n cc, .int .i64 a4])
  zero : Blk wr w.heap.size 42 zerosE
  rdr : Rdr wr rb tb o c ts j nr dp
  grown : w.grownBy wr (some rb)
  ends : Ends (ts.drop j)
  gt : w.heap.size < eb
  lt : rb < w.heap.size
  tl : tb < w.heap.size
  ml : 2 < w.heap.size
theorem ChI.keep {w wr w' : World} {rb tb o c : Nat} {ts : List TokM} {nr dp eb j j' : Nat} {ex : Ex} {a0 : Int} {a1 : ByteArray} {a2 : Int} {A : Option Addr} {n cc : Nat} {a4 : Int} (h : ChI w wr rb tb o c ts nr dp eb j ex a0 a1 a2 A n cc a4)
    (hg : wr.grownBy w' (some rb)) (hr : Rdr w' rb tb o c ts j' nr dp) (he : Ends (ts.drop j')) : ChI w w' rb tb o c ts nr dp eb j' ex a0 a1 a2 A n cc a4 :=
  ⟨h.blk.grown hg (by intro e; injection e with e; have := h.gt; have := h.lt; omega), RepE.keeps (Keeps.grown hg (fun b (hb : _ ∧ _) e => by injection e with e; have := h.lt; omega)) (fun b hb _ => hb) _ _ h.rep,
    h.zero.grown hg (by intro e; injection e with e; have := h.lt; omega), hr, h.grown.trans hg, he, h.gt, h.lt, h.tl, h.ml⟩
theorem ChI.step {w wr : World} {rb tb o c : Nat} {ts : List TokM} {nr dp eb j : Nat} {ex y : Ex} {a0 : Int} {a1 : ByteArray} {a2 : Int} {A : Option Addr} {n cc : Nat} {a4 : Int} {d0 : Int} {d1 : ByteArray} {d2 : Int} {D : Option Addr} {dn dc : Nat} {d4 op p : Int} {base : Nat}
    (h : ChI w wr rb tb o c ts nr dp eb j ex a0 a1 a2 A n cc a4) (hy : RepE wr (fun b => base ≤ b) y (.agg #[.int .i64 d0, .string d1, .int .i64 d2, .slice D dn dc, .int .i64 d4])) (hb : eb < base) :
    ChI w ((((((wr.setCell ⟨eb, 0, none⟩ (.int .i64 op)).setCell ⟨eb, 1, none⟩ (.string ⟨#[]⟩)).setCell ⟨eb, 2, none⟩ (.int .i64 0)).setCell ⟨eb, 3, none⟩ (.slice (some ⟨wr.heap.size, 0, none⟩) 2 2)).setCell ⟨eb, 4, none⟩ (.int .i64 p)).alloc
      (.cells #[.int .i64 a0, .string a1, .int .i64 a2, .slice A n cc, .int .i64 a4, .int .i64 d0, .string d1, .int .i64 d2, .slice D dn dc, .int .i64 d4] 42)) rb tb o c ts nr dp eb j (.mk op ⟨#[]⟩ 0 [ex, y] p) op ⟨#[]⟩ 0 (some ⟨wr.heap.size, 0, none⟩) 2 2 p := by
  have hs := blk_setE h.blk (.int .i64 op) (.string ⟨#[]⟩) (.int .i64 0) (.slice (some ⟨wr.heap.size, 0, none⟩) 2 2) (.int .i64 p)
  have hz : (((((wr.setCell ⟨eb, 0, none⟩ (.int .i64 op)).setCell ⟨eb, 1, none⟩ (.string ⟨#[]⟩)).setCell ⟨eb, 2, none⟩ (.int .i64 0)).setCell ⟨eb, 3, none⟩ (.slice (some ⟨wr.heap.size, 0, none⟩) 2 2)).setCell ⟨eb, 4, none⟩ (.int .i64 p)).heap.size = wr.heap.size := by simp
  generalize ((((wr.setCell ⟨eb, 0, none⟩ (.int .i64 op)).setCell ⟨eb, 1, none⟩ (.string ⟨#[]⟩)).setCell ⟨eb, 2, none⟩ (.int .i64 0)).setCell ⟨eb, 3, none⟩ (.slice (some ⟨wr.heap.size, 0, none⟩) 2 2)).setCell ⟨eb, 4, none⟩ (.int .i64 p) = w7 at hs hz
  have ga := World.grownBy_alloc w7 (.cells #[.int .i64 a0, .string a1, .int .i64 a2, .slice A n cc, .int .i64 a4, .int .i64 d0, .string d1, .int .i64 d2, .slice D dn dc, .int .i64 d4] 42) none
  have hnew := blkNew w7 [.int .i64 a0, .string a1, .int .i64 a2, .slice A n cc, .int .i64 a4, .int .i64 d0, .string d1, .int .i64 d2, .slice D dn dc, .int .i64 d4] 42
  rw [hz] at hnew
  have h1 := h.gt
  have h2 := h.lt
  have h3 := h.tl
  have h4 := h.blk.lt
  have kp : Keeps (fun b => w.heap.size < b ∧ b ≠ eb) wr (w7.alloc (.cells #[.int .i64 a0, .string a1, .int .i64 a2, .slice A n cc, .int .i64 a4, .int .i64 d0, .string d1, .int .i64 d2, .slice D dn dc, .int .i64 d4] 42)) :=
    (Keeps.grown hs.2 (fun b hb e => by injection e with e; exact hb.2 e)).trans (Keeps.grown ga (fun b _ e => by cases e))
  refine ⟨hs.1.grownN ga, RepE.two (RepE.keeps kp (fun b hb _ => hb) _ _ h.rep) (RepE.keeps (kp.mono (fun b (hb : base ≤ b) _ => ⟨by omega, by omega⟩)) (fun b (hb : base ≤ b) _ => ⟨by omega, by omega⟩) _ _ hy) ⟨by omega, by omega⟩ hnew,
    (h.zero.grown hs.2 (by intro e; injection e with e; omega)).grownN ga, (h.rdr.other hs.2 (by omega) (by omega) (by have := h.ml; omega)).keep ga, (h.grown.andThen hs.2 (by intro j hj; injection hj with hj; left; omega)).trans (Keep.toRow ga), h.ends, h.gt, h.lt, h.tl, h.ml⟩
set_option maxRecDepth 100000 in
set_option maxHeartbeats 4000000 in
theorem chain_any {f rb tb o c nr dp : Nat} {ts : List TokM} {next : List TokM → ResE} (eg : ∀ args w, (callFunc f args).run Tryz.prog w = .ok (.enter f args) w) (ha : PartAsk f rb tb o c ts nr dp next) (hcut : Cuts next)
    (word : ByteArray) (op : Int) (ho : AllOwn ts) (hw : spellN (signT word) = []) (hne : word ≠ E0) (hz : ts.length ≤ 1000000) {w : World} {k : Nat} (h : Rdr w rb tb o c ts k nr dp) (he : Ends (ts.drop k)) :
    Calls Tryz.prog 142 #[.pointer (some ⟨rb, 0, none⟩), .string word, .int .i64 op, .func (.func f) #[.pointer (some ⟨rb, 0, none⟩)] #[]] w (Tells w rb tb o c ts nr dp (linkOf word op next (ts.drop k))) := by
  have HR := Lib.hid h
  have HA := Lib.hid ha
  have HW := Lib.hid (fun j : Nat => said_word (w := word) (ho.drop j) hw hne)
  have HC := Lib.hid hcut
  have HLT := Lib.hid h.blk.lt
  have HTL := Lib.hid h.lt
  have HML := Lib.hid (Blk.lt h.marks)
  obtain ⟨w1, hw1⟩ : ∃ W, W = w.alloc (.cells #[.int .i64 0, .string ⟨#[]⟩, .int .i64 0, .slice none 0 0, .int .i64 0] 42) := ⟨_, rfl⟩
  have HG1 : Hid (w.grownBy w1 none) := Lib.hid (by rw [hw1]; exact World.grownBy_alloc _ _ none)
  have HZ1 : Hid (Blk w1 w.heap.size 42 zerosE) := Lib.hid (by rw [hw1]; exact blkNew w zerosE _)
  have HS1 : Hid (w1.heap.size = w.heap.size + 1) := Lib.hid (by rw [hw1]; simp)
  have HP1 := Lib.hid (ha w1 k (h.keep HG1.out) he)
  clear h ha
  obtain ⟨res, hres⟩ : ∃ r, r = linkOf word op next (ts.drop k) := ⟨_, rfl⟩
  rw [← hres]
  have HRES := Lib.hid hres
  clear hres
  by_cases h0 : (next (ts.drop k)).2.2 = 0
  · have HRES2 : Hid (res = chainGo word op next (next (ts.drop k)).1 (next (ts.drop k)).2.1) := Lib.hid (by rw [HRES.out]; unfold linkOf; rw [if_neg (by simpa using h0)])
    have HOK := Lib.hid h0
    obtain ⟨x0, hx0⟩ : ∃ x, x = next (ts.drop k) := ⟨_, rfl⟩
    rw [← hx0] at HP1 HRES2 HOK
    clear h0 hx0
    go_enter Tryz.func142, Tryz.ntmps142
    go_wp2_with fail
    rw [← hw1]
    refine HP1.out.mono ?_
    rintro e w2 hT
    obtain ⟨k2, a0, a1, a2, A, n, cc, a4, rfl, hr2, he2, hrep, hrd, hg2⟩ := hT.ok HOK.out
    have HI : Hid (ChI w (w2.alloc (.cells #[.int .i64 a0, .string a1, .int .i64 a2, .slice A n cc, .int .i64 a4] 42)) rb tb o c ts nr dp w2.heap.size k2 x0.1 a0 a1 a2 A n cc a4) := Lib.hid (by
      have ga := World.grownBy_alloc w2 (.cells #[.int .i64 a0, .string a1, .int .i64 a2, .slice A n cc, .int .i64 a4] 42) none
      have := hg2.size
      have := HS1.out
      have := HLT.out
      exact ⟨blkNew w2 [.int .i64 a0, .string a1, .int .i64 a2, .slice A n cc, .int .i64 a4] _, RepE.keeps ((Keeps.mono (Keeps.grown (S := fun _ => True) ga (fun b _ e => by cases e)) (fun _ _ _ => trivial))) (fun b (hb : w1.heap.size ≤ b) hl => ⟨by omega, by omega⟩) _ _ hrep,
        (HZ1.out.grown hg2 (by intro e; injection e with e; omega)).grownN ga, hrd.keep ga, ((Keep.toRow HG1.out).trans hg2).trans (Keep.toRow ga), he2, by omega, HLT.out, HTL.out, HML.out⟩)
    have HRES3 : Hid (res = chainGo word op next x0.1 (ts.drop k2)) := Lib.hid (by rw [HRES2.out, hr2])
    obtain ⟨W3, hW3⟩ : ∃ W, W = w2.alloc (.cells #[.int .i64 a0, .string a1, .int .i64 a2, .slice A n cc, .int .i64 a4] 42) := ⟨_, rfl⟩
    rw [← hW3] at HI
    have HAH := Lib.hid (polAhead_any HI.out.rdr (hd_at (ends_lt HI.out.ends)))
    have hf := fun a b c d w => fieldPos a b c d w
    obtain ⟨eb, heb⟩ : ∃ x, x = w2.heap.size := ⟨_, rfl⟩
    rw [← heb] at HI
    clear hr2 he2 hrep hrd hg2 hT
    go_wp2_with fail
    rw [← hW3, ← heb]
    refine HAH.out.mono ?_
    rintro e w4 ⟨rfl, hg4⟩
    have HI4 := Lib.hid (HI.out.keep (Keep.toRow hg4) (HI.out.rdr.keep hg4) HI.out.ends)
    clear hW3 heb hg4 HI HAH HP1 HRES HRES2 HOK hw1 HG1 HZ1 HS1
    go_wp2_with fail
    go_loopw [10] (fun v wr => ∃ j ex b0 b1 b2 B m d b4, v = .int .i64 (hdT (ts.drop j)).pos ∧ ChI w wr rb tb o c ts nr dp eb j ex b0 b1 b2 B m d b4 ∧ res = chainGo word op next ex (ts.drop j)) (fun _ wr => ts.length - posR wr rb)
    case atStart => exact ⟨k2, x0.1, a0, a1, a2, A, n, cc, a4, rfl, HI4.out, HRES3.out⟩
    case round =>
      clear HI4 HRES3
      obtain ⟨j, ex, b0, b1, b2, B, m, d, b4, rfl, hI, hres⟩ := hrel
      have HI := Lib.hid hI
      have HRS := Lib.hid hres
      have HPOS := Lib.hid (posR_is hI.rdr)
      have hjl := ends_lt hI.ends
      have hsw := HW.out j
      clear hI hres
      by_cases hwd : isT (ts.drop j) 1 word = false
      · have HG := Lib.hid (polGoes_no (s := word) HI.out.rdr (hd_at hjl) (by rw [hwd] at hsw; exact of_decide_eq_false hsw))
        have HRS2 : Hid (res = (ex, ts.drop j, 0)) := Lib.hid (by rw [HRS.out, chainGo, if_pos hwd])
        clear hwd hsw
        go_wp2_with fail
        refine HG.out.mono ?_
        rintro e w5 ⟨rfl, hg5⟩
        have HI5 := Lib.hid (HI.out.keep (Keep.toRow hg5) (HI.out.rdr.keep hg5) HI.out.ends)
        clear hg5
        obtain ⟨c0, c1, c2, c3, c4⟩ : w5.cell? ⟨eb, 0, none⟩ = some (.int .i64 b0) ∧ w5.cell? ⟨eb, 1, none⟩ = some (.string b1) ∧ w5.cell? ⟨eb, 2, none⟩ = some (.int .i64 b2) ∧ w5.cell? ⟨eb, 3, none⟩ = some (.slice B m d) ∧ w5.cell? ⟨eb, 4, none⟩ = some (.int .i64 b4) := ⟨HI5.out.blk.cell 0, HI5.out.blk.cell 1, HI5.out.blk.cell 2, HI5.out.blk.cell 3, HI5.out.blk.cell 4⟩
        obtain ⟨z0, z1, z2, z3, z4⟩ : w5.cell? ⟨w.heap.size, 0, none⟩ = some (.int .i64 0) ∧ w5.cell? ⟨w.heap.size, 1, none⟩ = some (.string ⟨#[]⟩) ∧ w5.cell? ⟨w.heap.size, 2, none⟩ = some (.int .i64 0) ∧ w5.cell? ⟨w.heap.size, 3, none⟩ = some (.slice none 0 0) ∧ w5.cell? ⟨w.heap.size, 4, none⟩ = some (.int .i64 0) := ⟨HI5.out.zero.cell 0, HI5.out.zero.cell 1, HI5.out.zero.cell 2, HI5.out.zero.cell 3, HI5.out.zero.cell 4⟩
        obtain ⟨f0, f1, f2, f3, f4⟩ : w5.frozen? ⟨w.heap.size, 0, none⟩ = false ∧ w5.frozen? ⟨w.heap.size, 1, none⟩ = false ∧ w5.frozen? ⟨w.heap.size, 2, none⟩ = false ∧ w5.frozen? ⟨w.heap.size, 3, none⟩ = false ∧ w5.frozen? ⟨w.heap.size, 4, none⟩ = false := ⟨HI5.out.zero.frozen 0, HI5.out.zero.frozen 1, HI5.out.zero.frozen 2, HI5.out.zero.frozen 3, HI5.out.zero.frozen 4⟩
        have HSET := Lib.hid (blk_setE HI5.out.zero (.int .i64 b0) (.string b1) (.int .i64 b2) (.slice B m d) (.int .i64 b4))
        go_wp2
        refine bodyPost_ret (results_blkE Tryz.results142 _ _ w.heap.size _ _ _ rfl HSET.out.1 Tryz.underlying42 rfl sizeExpr) rfl ?_
        rw [HRS2.out]
        refine .inl ⟨rfl, j, _, rfl, rfl, HI5.out.ends, RepE.keeps (Keeps.grown HSET.out.2 (fun b (hb : _ ∧ _) e => by injection e with e; omega)) (fun b hb _ => by have := hb.1; omega) _ _ HI5.out.rep, HI5.out.rdr.other HSET.out.2 (by have := HI5.out.lt; omega) (by have := HI5.out.tl; omega) (by have := HI5.out.ml; omega), HI5.out.grown.andThen HSET.out.2 (by intro j hj; injection hj with hj; left; omega)⟩
      · have hwd := Bool.not_eq_false _ |>.mp hwd
        have HG := Lib.hid (polGoes_yes (s := word) HI.out.rdr (hd_at hjl) (by rw [hwd] at hsw; exact of_decide_eq_true hsw) hz)
        have HE := Lib.hid (HI.out.ends.next hwd (by decide))
        rw [drop_one] at HE
        have HLR : Hid ((next (ts.drop (j + 1))).2.1.length < (ts.drop j).length ∨ (next (ts.drop (j + 1))).2.2 ≠ 0) := Lib.hid (by
          by_cases hn : (next (ts.drop (j + 1))).2.2 = 0
          · have := HC.out.less HE.out hn
            rw [List.length_drop] at this ⊢
            left; omega
          · exact .inr hn)
        obtain ⟨r2, hr2⟩ : ∃ r, r = next (ts.drop (j + 1)) := ⟨_, rfl⟩
        have HRS2 : Hid (res = if r2.2.2 ≠ 0 then r2 else if r2.2.1.length < (ts.drop j).length then chainGo word op next (.mk op E0 0 [ex, r2.1] (hdT (ts.drop j)).pos) r2.2.1 else (ex0, ts.drop j, -1)) := Lib.hid (by
          rw [HRS.out, chainGo, if_neg (by rw [hwd]; simp), drop_one, ← hr2]
          rfl)
        have HP2 := Lib.hid (fun W h => HA.out W (j + 1) h HE.out)
        rw [← hr2] at HLR HP2
        clear hwd hsw hr2
        go_wp2_with fail
        refine HG.out.mono ?_
        rintro e w5 ⟨rfl, hg5, hr5⟩
        have HI5 := Lib.hid (HI.out.keep hg5 hr5 HE.out)
        clear hg5 hr5
        obtain ⟨c0, c1, c2, c3, c4⟩ : w5.cell? ⟨eb, 0, none⟩ = some (.int .i64 b0) ∧ w5.cell? ⟨eb, 1, none⟩ = some (.string b1) ∧ w5.cell? ⟨eb, 2, none⟩ = some (.int .i64 b2) ∧ w5.cell? ⟨eb, 3, none⟩ = some (.slice B m d) ∧ w5.cell? ⟨eb, 4, none⟩ = some (.int .i64 b4) := ⟨HI5.out.blk.cell 0, HI5.out.blk.cell 1, HI5.out.blk.cell 2, HI5.out.blk.cell 3, HI5.out.blk.cell 4⟩
        have HR5 : Hid (Rdr w5.drew rb tb o c ts (j + 1) nr dp) := Lib.hid (HI5.out.rdr.drewN 1)
        have HD5 : Hid (ChI w w5.drew rb tb o c ts nr dp eb (j + 1) ex b0 b1 b2 B m d b4) := Lib.hid (HI5.out.keep (grown_drewN 1 _) HR5.out HI5.out.ends)
        by_cases hn : r2.2.2 = 0
        · have HOK := Lib.hid (fun W h => (HP2.out W h).mono (fun e w' hT => hT.ok hn))
          have HN := Lib.hid hn
          clear hn
          go_wp2_with fail
          go_region_with (first | ((with_reducible refine (HOK.out _ HR5.out).mono ?_); rintro e w6 ⟨k6, d0, d1, d2, D, dn, dc, d4, rfl, hr6, he6, hrep6, hrd6, hg6⟩; have HI6 := Lib.hid (HD5.out.keep hg6 hrd6 he6); have H6 := Lib.hid (And.intro hr6 (And.intro hrep6 hg6)); clear hr6 he6 hrep6 hrd6 hg6; have hel := HI6.out.blk.lt; obtain ⟨e0, e1, e2, e3, e4⟩ := cells5 HI6.out.blk; obtain ⟨g0, g1, g2, g3, g4⟩ := frozen5 HI6.out.blk))
          all_goals
            have HI7 := Lib.hid (HI6.out.step (op := op) (p := (hdT (ts.drop j)).pos) H6.out.2.1 HD5.out.blk.lt)
            have HRS7 : Hid (res = chainGo word op next (.mk op E0 0 [ex, r2.1] (hdT (ts.drop j)).pos) (ts.drop k6)) := Lib.hid (by
              rw [HRS2.out, if_neg (by simpa using HN.out), if_pos (HLR.out.resolve_right (by simpa using HN.out)), H6.out.1])
            have HLL : Hid (j < k6) := Lib.hid (by
              have := HLR.out.resolve_right (by simpa using HN.out)
              have h2 := ends_lt HI6.out.ends
              rw [H6.out.1, List.length_drop, List.length_drop] at this
              omega)
            have HA7 := Lib.hid (polAhead_any HI7.out.rdr (hd_at (ends_lt HI7.out.ends)))
            clear hel e0 e1 e2 e3 e4 g0 g1 g2 g3 g4 HI6 H6 c0 c1 c2 c3 c4
            go_wp2_with fail
            refine HA7.out.mono ?_
            rintro e w8 ⟨rfl, hg8⟩
            have HI8 := Lib.hid (HI7.out.keep (Keep.toRow hg8) (HI7.out.rdr.keep hg8) HI7.out.ends)
            clear hg8 HI7 HA7
            go_wp2_with fail
            go_roundw
            case rel => exact ⟨k6, _, _, _, _, _, _, _, _, rfl, HI8.out, HRS7.out⟩
            case measure =>
              have h2 := ends_lt HI8.out.ends
              have := HLL.out
              rw [HPOS.out, posR_is HI8.out.rdr]; omega
        · have HB := Lib.hid (fun W h => (HP2.out W h).mono (fun e w' hT => hT.bad hn))
          have HRS3 : Hid (res = r2) := Lib.hid (by rw [HRS2.out, if_pos hn])
          have HN := Lib.hid hn
          clear hn
          go_wp2_with fail
          refine wp_region_held_drew (S := fun X => X.cell? ⟨eb, 0, none⟩ = some (.int .i64 b0) ∧ X.cell? ⟨eb, 1, none⟩ = some (.string b1) ∧ X.cell? ⟨eb, 2, none⟩ = some (.int .i64 b2) ∧ X.cell? ⟨eb, 3, none⟩ = some (.slice B m d) ∧ X.cell? ⟨eb, 4, none⟩ = some (.int .i64 b4)) (by kernel_rfl) ⟨c0, c1, c2, c3, c4⟩ (fun hHeld => ?_)
          refine rgT 0 ?_
          try simp only [rgS]
          refine rgT 1 ?_
          try simp only [rgS]
          refine rgT 2 ?_
          try simp only [rgS]
          refine rgT 5 ?_
          try simp only [rgS]
          refine rgO 3 (fun K hK => ?_)
          go_simp
          (with_reducible refine (HB.out _ HR5.out).mono ?_)
          rintro e w6 hG
          have HGV := Lib.hid hG
          obtain ⟨gb, hgb, _⟩ := hG
          subst hgb
          exact ⟨rfl, by rw [HRS3.out]; exact .inr ⟨HN.out, HGV.out.from HD5.out.grown⟩⟩
  · have HBAD := Lib.hid h0
    have HRES2 : Hid (res = next (ts.drop k)) := Lib.hid (by rw [HRES.out]; unfold linkOf; rw [if_pos h0])
    clear h0
    go_enter Tryz.func142, Tryz.ntmps142
    go_wp2_with fail
    rw [← hw1]
    refine HP1.out.mono ?_
    rintro e w2 hT
    have HT := Lib.hid (hT.bad HBAD.out)
    clear hT
    obtain ⟨b, hb, _⟩ := HT.out
    subst hb
    go_wp2
    refine ⟨rfl, ?_⟩
    rw [HRES2.out]
    exact .inr ⟨HBAD.out, HT.out.from (Keep.toRow HG1.out)⟩
end Go.Proofs.YtcjfealalokjaaaGreatDoor
namespace Go.Proofs.YtcjfealalokjaaaGreatDoor
open Go Go.RowKit
/-- A value handed on: the result's cell is written. -/
theorem Tells.set {w w1 w2 w3 : World} {rb tb o c nr dp dp' : Nat} {ts : List TokM} {r : ResE} {k x : Nat} {v : Value} (h0 : r.2.2 = 0) (hr : r.2.1 = ts.drop k) (he : Ends (ts.drop k)) (hv : RepE w2 (fun b => w1.heap.size ≤ b) r.1 v) (hd : Rdr w2 rb tb o c ts k nr dp') (hg : w.grownBy w2 (some rb))
    (hs : w2.grownBy w3 (some x)) (hx : w.heap.size ≤ x) (hx1 : x < w1.heap.size) (hlt : rb < w.heap.size) (htl : tb < w.heap.size) (hml : 2 < w.heap.size) (hdp : dp' = dp) : Tells w rb tb o c ts nr dp r (.returned v) w3 := by
  subst hdp
  exact .inl ⟨h0, k, v, rfl, hr, he, RepE.keeps (Keeps.grown hs (fun b (hb : w1.heap.size ≤ b) e => by injection e with e; omega)) (fun b (hb : w1.heap.size ≤ b) _ => by show w.heap.size ≤ b; omega) _ _ hv,
    hd.other hs (by omega) (by omega) (by omega), hg.andThen hs (by intro j hj; injection hj with hj; left; omega)⟩
end Go.Proofs.YtcjfealalokjaaaGreatDoor
namespace Go.Proofs.YtcjfealalokjaaaGreatDoor
open Go Go.RowKit
abbrev tokV (k : Int) (s : ByteArray) (n p : Int) : Value := .agg #[.int .i64 k, .string s, .int .i64 n, .int .i64 p]
theorem spell_word (s : ByteArray) (n p : Int) : toS (spellN ⟨1, s, n, p⟩) = if isWordB s then s else ⟨#[]⟩ := by
  have e : spellN ⟨1, s, n, p⟩ = if wordN (strL s) = s.size ∧ s.size ≤ 32 then strL s else [] := rfl
  rw [e]
  by_cases h : wordN (strL s) = s.size ∧ s.size ≤ 32
  · rw [if_pos h, toS_strL]
    by_cases h0 : s.size = 0
    · rw [str_nil h0]; rfl
    · rw [if_pos (show isWordB s = true from decide_eq_true ⟨h0, h.2, h.1⟩)]
  · rw [if_neg h, if_neg (show ¬ isWordB s = true from fun hq => h (by have := of_decide_eq_true hq; exact ⟨this.2.2, this.2.1⟩))]; rfl
theorem spell_sign (s : ByteArray) (n p : Int) : toS (spellN ⟨4, s, n, p⟩) = if isSignB s then s else ⟨#[]⟩ := by
  have e : spellN ⟨4, s, n, p⟩ = if signN (strL s) = s.size then strL s else [] := rfl
  rw [e]
  by_cases h : signN (strL s) = s.size
  · rw [if_pos h, toS_strL]
    by_cases h0 : s.size = 0
    · rw [str_nil h0]; rfl
    · rw [if_pos (show isSignB s = true from decide_eq_true ⟨h0, h⟩)]
  · rw [if_neg h, if_neg (show ¬ isSignB s = true from fun hq => h (of_decide_eq_true hq).2)]; rfl
theorem spell_text (s : ByteArray) (n p : Int) : spellN ⟨2, s, n, p⟩ = (quoteN (strL s)).1 := rfl
theorem spell_num (s : ByteArray) (n p : Int) : spellN ⟨3, s, n, p⟩ = if -9007199254740991 ≤ n ∧ n ≤ 9007199254740991 then prL n else [] := rfl
theorem spellT_none {k : Int} (s : ByteArray) (n p : Int) (h1 : k ≠ 1) (h2 : k ≠ 2) (h3 : k ≠ 3) (h4 : k ≠ 4) : spellN ⟨k, s, n, p⟩ = [] := by
  unfold spellN
  rw [if_neg h1, if_neg h2, if_neg h3, if_neg h4]
theorem num_cases (n : Int) : (-9007199254740991 ≤ n ∧ n ≤ 9007199254740991) ∨ (¬ -9007199254740991 ≤ n) ∨ (-9007199254740991 ≤ n ∧ ¬ n ≤ 9007199254740991) := by omega
set_option maxRecDepth 100000 in
set_option maxHeartbeats 4000000 in
theorem lexSpell_any (k n p : Int) (s : ByteArray) (w : World) (hm : Marks w) (hs : s.size ≤ 1000000000) (hn : -9223372036854775808 ≤ n ∧ n ≤ 9223372036854775807) :
    Calls Tryz.prog 147 #[tokV k s n p] w fun e w' => e = .returned (.string (toS (spellN ⟨k, s, n, p⟩))) ∧ Below w.heap.size w w' := by
  obtain ⟨W1, hW1⟩ : ∃ W1, W1 = w.alloc (.cells #[.int .i64 k, .string s, .int .i64 n, .int .i64 p] 59) := ⟨_, rfl⟩
  have HB1 : Hid (Below w.heap.size w W1) := Lib.hid (by rw [hW1]; exact belowAlloc _ _)
  have HM1 := Lib.hid (hm.below HB1.out)
  have HC := Lib.hid (fun W : World => cloneL_any s W (by omega))
  by_cases h1 : k = 1
  · subst h1
    rw [spell_word]
    have HI := Lib.hid (fun W : World => isWord_any s W (by omega))
    cases hb : isWordB s with
    | true =>
      rw [hb] at HI
      rw [if_pos rfl]
      clear hb hW1 HB1 HM1 hm
      go_enter Tryz.func147, Tryz.ntmps147
      go_wp2_with fail
      refine (HI.out _).mono ?_
      rintro e w2 ⟨rfl, rfl⟩
      go_wp2_with fail
      refine (HC.out _).mono ?_
      rintro e w2 ⟨rfl, hb2⟩
      have HB2 := Lib.hid ((belowAlloc w _).trans (hb2.mono (belowAlloc w _).size))
      clear hb2
      go_wp2_with fail
      go_ret
      exact ⟨rfl, HB2.out⟩
    | false =>
      rw [hb] at HI
      rw [if_neg (by decide)]
      clear hb hW1 HB1 HM1 hm
      go_enter Tryz.func147, Tryz.ntmps147
      go_wp2_with fail
      refine (HI.out _).mono ?_
      rintro e w2 ⟨rfl, rfl⟩
      go_wp2_with fail
      go_ret
      exact ⟨rfl, belowAlloc w _⟩
  · have e1 : (k == 1) = false := by rw [beq_eq_false_iff_ne]; exact h1
    by_cases h2 : k = 2
    · subst h2
      rw [spell_text]
      have HQ := Lib.hid (fun (W : World) (hW : Marks W) => quoteB_any s W hW (by omega))
      have HM2 := Lib.hid (hm.below (belowAlloc w (.cells #[.int .i64 2, .string s, .int .i64 n, .int .i64 p] 59)))
      obtain ⟨U, hU⟩ : ∃ U, U = toS (quoteN (strL s)).1 := ⟨_, rfl⟩
      obtain ⟨u, hu⟩ : ∃ u, u = (quoteN (strL s)).2 := ⟨_, rfl⟩
      rw [← hU, ← hu] at HQ
      rw [← hU]
      clear h1 e1 hW1 HB1 HM1 hm hU hu
      go_enter Tryz.func147, Tryz.ntmps147
      go_wp2_with fail
      refine (HQ.out _ HM2.out).mono ?_
      rintro e w2 ⟨rfl, hb2⟩
      have HB2 := Lib.hid ((belowAlloc w _).trans (hb2.mono (belowAlloc w _).size))
      clear hb2
      go_wp2_with fail
      go_ret
      exact ⟨rfl, HB2.out⟩
    · have e2 : (k == 2) = false := by rw [beq_eq_false_iff_ne]; exact h2
      by_cases h3 : k = 3
      · subst h3
        rw [spell_num]
        have HP := Lib.hid (fun W : World => print_any n W hn.1 hn.2)
        rcases num_cases n with ⟨b1, b2⟩ | b1 | ⟨b1, b2⟩
        · rw [if_pos ⟨b1, b2⟩]
          clear h1 h2 e1 e2 hW1 HB1 HM1 hm
          go_enter Tryz.func147, Tryz.ntmps147
          go_wp2_with fail
          refine (HP.out _).mono ?_
          rintro e w2 ⟨rfl, hb2⟩
          have HB2 := Lib.hid ((belowAlloc w _).trans (hb2.mono (belowAlloc w _).size))
          clear hb2
          go_wp2_with fail
          go_ret
          exact ⟨rfl, HB2.out⟩
        · rw [if_neg (fun h => b1 h.1)]
          clear h1 h2 e1 e2 hW1 HB1 HM1 hm
          go_enter Tryz.func147, Tryz.ntmps147
          go_wp2_with fail
          go_ret
          exact ⟨rfl, belowAlloc w _⟩
        · rw [if_neg (fun h => b2 h.2)]
          clear h1 h2 e1 e2 hW1 HB1 HM1 hm
          go_enter Tryz.func147, Tryz.ntmps147
          go_wp2_with fail
          go_ret
          exact ⟨rfl, belowAlloc w _⟩
      · have e3 : (k == 3) = false := by rw [beq_eq_false_iff_ne]; exact h3
        by_cases h4 : k = 4
        · subst h4
          rw [spell_sign]
          have HI := Lib.hid (fun W : World => isSign_any s W)
          cases hb : isSignB s with
          | true =>
            rw [hb] at HI
            rw [if_pos rfl]
            clear hb h1 h2 h3 e1 e2 e3 hW1 HB1 HM1 hm
            go_enter Tryz.func147, Tryz.ntmps147
            go_wp2_with fail
            refine (HI.out _).mono ?_
            rintro e w2 ⟨rfl, rfl⟩
            go_wp2_with fail
            refine (HC.out _).mono ?_
            rintro e w2 ⟨rfl, hb2⟩
            have HB2 := Lib.hid ((belowAlloc w _).trans (hb2.mono (belowAlloc w _).size))
            clear hb2
            go_wp2_with fail
            go_ret
            exact ⟨rfl, HB2.out⟩
          | false =>
            rw [hb] at HI
            rw [if_neg (by decide)]
            clear hb h1 h2 h3 e1 e2 e3 hW1 HB1 HM1 hm
            go_enter Tryz.func147, Tryz.ntmps147
            go_wp2_with fail
            refine (HI.out _).mono ?_
            rintro e w2 ⟨rfl, rfl⟩
            go_wp2_with fail
            go_ret
            exact ⟨rfl, belowAlloc w _⟩
        · have e4 : (k == 4) = false := by rw [beq_eq_false_iff_ne]; exact h4
          rw [spellT_none s n p h1 h2 h3 h4]
          clear h1 h2 h3 h4 hW1 HB1 HM1 hm
          go_enter Tryz.func147, Tryz.ntmps147
          go_wp2_with fail
          go_ret
          exact ⟨rfl, belowAlloc w _⟩
/-! ### The reference's -/
end Go.Proofs.YtcjfealalokjaaaGreatDoor
namespace Go.Proofs.YtcjfealalokjaaaGreatDoor
open Go Go.RowKit
theorem neLit {s : ByteArray} {a : Array UInt8} (h : s ≠ ⟨a⟩) : (s.toList == a.toList) = false := by
  have := eq_toList s ⟨a⟩
  rw [show (⟨a⟩ : ByteArray).toList = a.toList from ByteArray.toList_eq _] at this
  rw [this]; exact decide_eq_false h
theorem neLitT {s : ByteArray} {a : Array UInt8} : (s.toList == a.toList) = decide (s = ⟨a⟩) := by
  have := eq_toList s ⟨a⟩
  rwa [show (⟨a⟩ : ByteArray).toList = a.toList from ByteArray.toList_eq _] at this
set_option maxRecDepth 100000 in
theorem opOf_any (s : ByteArray) (w : World) : Calls Tryz.prog 210 #[.string s] w fun e w' => e = .returned (.tuple #[.int .i64 (opS s).1, .bool (opS s).2]) ∧ w = w' := by
  have lit : ∀ (x : ByteArray) (r : Int × Bool), opS x = r → s = x → Calls Tryz.prog 210 #[.string x] w (fun e w' => e = .returned (.tuple #[.int .i64 r.1, .bool r.2]) ∧ w = w') → Calls Tryz.prog 210 #[.string s] w (fun e w' => e = .returned (.tuple #[.int .i64 (opS s).1, .bool (opS s).2]) ∧ w = w') := fun x r hr e h => by
    subst e; rw [hr]; exact h
  by_cases h1 : s = kEq
  · refine lit kEq (9, false) (by decide) h1 ?_
    clear lit h1
    go_enter Tryz.func210, Tryz.ntmps210
    go_wp2
    go_ret2
    exact ⟨rfl, rfl⟩
  by_cases h2 : s = kNe
  · refine lit kNe (10, false) (by decide) h2 ?_
    clear lit h1 h2
    go_enter Tryz.func210, Tryz.ntmps210
    go_wp2
    go_ret2
    exact ⟨rfl, rfl⟩
  by_cases h3 : s = wHas
  · refine lit wHas (14, false) (by decide) h3 ?_
    clear lit h1 h2 h3
    go_enter Tryz.func210, Tryz.ntmps210
    go_wp2
    go_ret2
    exact ⟨rfl, rfl⟩
  by_cases h4 : s = kGt
  · refine lit kGt (11, true) (by decide) h4 ?_
    clear lit h1 h2 h3 h4
    go_enter Tryz.func210, Tryz.ntmps210
    go_wp2
    go_ret2
    exact ⟨rfl, rfl⟩
  by_cases h5 : s = kLt
  · refine lit kLt (11, false) (by decide) h5 ?_
    clear lit h1 h2 h3 h4 h5
    go_enter Tryz.func210, Tryz.ntmps210
    go_wp2
    go_ret2
    exact ⟨rfl, rfl⟩
  by_cases h6 : s = kGe
  · refine lit kGe (12, true) (by decide) h6 ?_
    clear lit h1 h2 h3 h4 h5 h6
    go_enter Tryz.func210, Tryz.ntmps210
    go_wp2
    go_ret2
    exact ⟨rfl, rfl⟩
  by_cases h7 : s = kLe
  · refine lit kLe (12, false) (by decide) h7 ?_
    clear lit h1 h2 h3 h4 h5 h6 h7
    go_enter Tryz.func210, Tryz.ntmps210
    go_wp2
    go_ret2
    exact ⟨rfl, rfl⟩
  have e0 : opS s = (0, false) := by unfold opS; rw [if_neg h1, if_neg h2, if_neg h3, if_neg h4, if_neg h5, if_neg h6, if_neg h7]
  rw [e0]
  have e1 : (s.toList == [61]) = false := neLit h1
  have e2 : (s.toList == [33, 61]) = false := neLit h2
  have e3 : (s.toList == [104, 97, 115]) = false := neLit h3
  have e4 : (s.toList == [62]) = false := neLit h4
  have e5 : (s.toList == [60]) = false := neLit h5
  have e6 : (s.toList == [62, 61]) = false := neLit h6
  have e7 : (s.toList == [60, 61]) = false := neLit h7
  clear lit h1 h2 h3 h4 h5 h6 h7 e0
  go_enter Tryz.func210, Tryz.ntmps210
  go_wp2
  go_ret2
  exact ⟨rfl, rfl⟩
/-- A word that a variable may have. -/
def varW (s : ByteArray) : Bool := decide (kept s = false) && !(decide (spellN (wordT s) = []))
theorem toS_nil_iff {l : List Int} : (toS l).size = 0 ↔ l = [] := by
  rw [size_toS]; exact List.length_eq_zero_iff
set_option maxRecDepth 100000 in
set_option maxHeartbeats 2000000 in
theorem isVariable_any (s : ByteArray) (w : World) (hm : Marks w) (hs : s.size ≤ 1000000000) : Calls Tryz.prog 177 #[.string s] w fun e w' => e = .returned (.bool (varW s)) ∧ Below w.heap.size w w' := by
  by_cases hk : kept s = true
  · have hv : varW s = false := by unfold varW; rw [hk]; rfl
    rw [hv]
    have hmem : s ∈ keptW := by
      unfold kept at hk
      obtain ⟨x, hx, e⟩ := List.any_eq_true.1 hk
      rw [← of_decide_eq_true e]; exact hx
    clear hk hv hm hs
    simp only [keptW, List.mem_cons, List.not_mem_nil, or_false] at hmem
    rcases hmem with rfl | rfl | rfl | rfl | rfl | rfl | rfl | rfl | rfl | rfl | rfl
    all_goals
      go_enter Tryz.func177, Tryz.ntmps177
      go_wp2
      go_ret
      exact ⟨rfl, Below.refl _ _⟩
  · have hk := (Bool.not_eq_true _).mp hk
    have hn : ∀ x ∈ keptW, s ≠ x := fun x hx => kept_ne hk hx
    have e1 : (s.toList == [112, 101, 114, 109, 105, 116]) = false := neLit (hn wPermit (by simp [keptW]))
    have e2 : (s.toList == [100, 101, 110, 121]) = false := neLit (hn wDeny (by simp [keptW]))
    have e3 : (s.toList == [119, 104, 101, 110]) = false := neLit (hn wWhen (by simp [keptW]))
    have e4 : (s.toList == [97, 110, 100]) = false := neLit (hn wAnd (by simp [keptW]))
    have e5 : (s.toList == [111, 114]) = false := neLit (hn wOr (by simp [keptW]))
    have e6 : (s.toList == [110, 111, 116]) = false := neLit (hn wNot (by simp [keptW]))
    have e7 : (s.toList == [105, 110]) = false := neLit (hn wIn (by simp [keptW]))
    have e8 : (s.toList == [104, 97, 115]) = false := neLit (hn wHas (by simp [keptW]))
    have e9 : (s.toList == [116, 114, 117, 101]) = false := neLit (hn wTrue (by simp [keptW]))
    have e10 : (s.toList == [102, 97, 108, 115, 101]) = false := neLit (hn wFalse (by simp [keptW]))
    have e11 : (s.toList == [99, 108, 97, 105, 109]) = false := neLit (hn wClaim (by simp [keptW]))
    have HS := Lib.hid (lexSpell_any 1 0 0 s w hm hs (by decide))
    unfold tokV at HS
    obtain ⟨T, hT⟩ : ∃ T, T = toS (spellN ⟨1, s, 0, 0⟩) := ⟨_, rfl⟩
    rw [← hT] at HS
    have HT : Hid ((!T.toList.isEmpty) = varW s) := Lib.hid (by
      have h2 : (T.toList == []) = decide (spellN (wordT s) = []) := by
        rw [show (T.toList == []) = decide (T = ⟨#[]⟩) from neLitT, hT]
        show decide (toS (spellN (wordT s)) = ⟨#[]⟩) = _
        refine decide_eq_decide.2 ⟨fun h => ?_, fun h => by rw [h]; rfl⟩
        have := congrArg ByteArray.size h
        exact toS_nil_iff.1 this
      rw [show T.toList.isEmpty = (T.toList == []) from by cases T.toList <;> rfl, h2]; unfold varW; rw [hk]; simp)
    clear hk hn hm hs hT
    go_enter Tryz.func177, Tryz.ntmps177
    go_wp2_with fail
    refine HS.out.mono ?_
    rintro e w1 ⟨rfl, hb⟩
    go_wp2
    go_ret
    exact ⟨by rw [← HT.out]; rfl, hb⟩
/-- What reading the name of a claim tells: the name, what is left, the error. -/
def claimT (r : List TokM) : ByteArray × List TokM × Int :=
  if isT r 4 kOpen = false then (E0, r, 120)
  else if (hdT (r.drop 1)).kind ≠ 2 then (E0, r.drop 1, 120)
  else if isT (r.drop 2) 4 kShut = false then (E0, r.drop 2, 120)
  else ((hdT (r.drop 1)).text, r.drop 3, 0)
/-- A token that is a sign is ahead: what must tells. -/
theorem said_iff {ts : List TokM} {k : Nat} (ho : AllOwn ts) {s : ByteArray} (hw : spellN (wordT s) = []) (hne : s ≠ E0) : (saidT (hdT (ts.drop k)) = s) ↔ isT (ts.drop k) 4 s = true := by
  rw [← said_sign (ho.drop k) hw hne]; exact decide_eq_true_iff.symm
theorem said_iffW {ts : List TokM} {k : Nat} (ho : AllOwn ts) {s : ByteArray} (hw : spellN (signT s) = []) (hne : s ≠ E0) : (saidT (hdT (ts.drop k)) = s) ↔ isT (ts.drop k) 1 s = true := by
  rw [← said_word (ho.drop k) hw hne]; exact decide_eq_true_iff.symm
set_option maxRecDepth 100000 in
set_option maxHeartbeats 2000000 in
theorem claimed_any {w : World} {rb tb o c k nr dp : Nat} {ts : List TokM} (ho : AllOwn ts) (hz : ts.length ≤ 1000000) (h : Rdr w rb tb o c ts k nr dp) (he : Ends (ts.drop k)) :
    Calls Tryz.prog 222 #[.pointer (some ⟨rb, 0, none⟩)] w fun e w' =>
      ((claimT (ts.drop k)).2.2 = 0 ∧ ∃ k', e = .returned (.string (claimT (ts.drop k)).1) ∧ (claimT (ts.drop k)).2.1 = ts.drop k' ∧ Ends (ts.drop k') ∧ Rdr w' rb tb o c ts k' nr dp ∧ w.grownBy w' (some rb)) ∨
      ((claimT (ts.drop k)).2.2 ≠ 0 ∧ Gives w rb (hdT (claimT (ts.drop k)).2.1).pos (claimT (ts.drop k)).2.2 e w') := by
  have HR := Lib.hid h
  have hk := ends_lt he
  have HSG := Lib.hid (fun (k : Nat) (s : ByteArray) hw hne => said_iff (k := k) ho (s := s) hw hne)
  by_cases h1 : isT (ts.drop k) 4 kOpen = true
  · have HM := Lib.hid (polMust_yes (s := kOpen) h (hd_at hk) ((HSG.out k kOpen (by decide) (by decide)).2 h1) hz)
    have he1 := he.next h1 (by decide)
    rw [drop_one] at he1
    have hk1 := ends_lt he1
    by_cases h2 : (hdT (ts.drop (k + 1))).kind = 2
    · have HT := Lib.hid (fun W hr => polText_yes (w := W) (rb := rb) (tb := tb) (o := o) (c := c) (nr := nr) (dp := dp) hr (hd_at hk1) h2 hz)
      have he2 := he1.tail (by rw [h2]; decide)
      rw [drop_one] at he2
      have hk2 := ends_lt he2
      by_cases h3 : isT (ts.drop (k + 2)) 4 kShut = true
      · have HM2 := Lib.hid (fun W hr => polMust_yes (w := W) (rb := rb) (tb := tb) (o := o) (c := c) (nr := nr) (dp := dp) (s := kShut) hr (hd_at hk2) ((HSG.out (k + 2) kShut (by decide) (by decide)).2 h3) hz)
        have he3 := he2.next h3 (by decide)
        rw [drop_one] at he3
        have HE := Lib.hid he3
        have HC : Hid (claimT (ts.drop k) = ((hdT (ts.drop (k + 1))).text, ts.drop (k + 3), 0)) := Lib.hid (by
          unfold claimT
          rw [if_neg (by rw [h1]; decide), drop_one, if_neg (by simpa using h2), show (ts.drop k).drop 2 = ts.drop (k + 2) from List.drop_drop, if_neg (by rw [h3]; decide), show (ts.drop k).drop 3 = ts.drop (k + 3) from List.drop_drop])
        obtain ⟨res, hres⟩ : ∃ r, r = claimT (ts.drop k) := ⟨_, rfl⟩
        rw [← hres] at HC ⊢
        obtain ⟨x, hx⟩ : ∃ x, x = (hdT (ts.drop (k + 1))).text := ⟨_, rfl⟩
        rw [← hx] at HC HT
        clear h h1 h2 h3 he he1 he2 he3 hres hx hk hk1 hk2 ho
        go_enter Tryz.func222, Tryz.ntmps222
        go_wp2_with fail
        refine HM.out.mono ?_
        rintro e w1 ⟨rfl, hg1, hr1⟩
        have HT1 := Lib.hid (HT.out w1 hr1)
        have HG1 := Lib.hid hg1
        clear hg1 hr1
        go_wp2_with fail
        refine HT1.out.mono ?_
        rintro e w2 ⟨rfl, hg2, hr2⟩
        have HM3 := Lib.hid (HM2.out w2 hr2)
        have HG2 := Lib.hid (HG1.out.trans hg2)
        clear hg2 hr2
        go_wp2_with fail
        refine HM3.out.mono ?_
        rintro e w3 ⟨rfl, hg3, hr3⟩
        have HF := Lib.hid (And.intro hr3 (HG2.out.trans hg3))
        clear hg3 hr3
        go_wp2
        go_ret
        rw [HC.out]
        exact .inl ⟨rfl, k + 3, rfl, rfl, HE.out, HF.out⟩
      · have HM2 := Lib.hid (fun W hr => polMust_no (w := W) (rb := rb) (tb := tb) (o := o) (c := c) (nr := nr) (dp := dp) (s := kShut) hr (hd_at hk2) (fun e => h3 ((HSG.out (k + 2) kShut (by decide) (by decide)).1 e)))
        have HC : Hid (claimT (ts.drop k) = (E0, ts.drop (k + 2), 120)) := Lib.hid (by
          unfold claimT
          rw [if_neg (by rw [h1]; decide), drop_one, if_neg (by simpa using h2), show (ts.drop k).drop 2 = ts.drop (k + 2) from List.drop_drop, if_pos (by simpa using h3)])
        obtain ⟨res, hres⟩ : ∃ r, r = claimT (ts.drop k) := ⟨_, rfl⟩
        rw [← hres] at HC ⊢
        clear h h1 h2 h3 he he1 he2 hres hk hk1 hk2 ho
        go_enter Tryz.func222, Tryz.ntmps222
        go_wp2_with fail
        refine HM.out.mono ?_
        rintro e w1 ⟨rfl, hg1, hr1⟩
        have HT1 := Lib.hid (HT.out w1 hr1)
        have HG1 := Lib.hid hg1
        clear hg1 hr1
        go_wp2_with fail
        refine HT1.out.mono ?_
        rintro e w2 ⟨rfl, hg2, hr2⟩
        have HM3 := Lib.hid (HM2.out w2 hr2)
        have HG2 := Lib.hid (HG1.out.trans hg2)
        clear hg2 hr2
        go_wp2_with fail
        refine HM3.out.mono ?_
        rintro e w3 hG
        have HF := Lib.hid (hG.from HG2.out)
        obtain ⟨b, rfl, _⟩ := hG
        go_wp2
        refine ⟨rfl, ?_⟩
        rw [HC.out]
        exact .inr ⟨(by show (120 : Int) ≠ 0; decide), HF.out⟩
    · have HT := Lib.hid (fun W hr => polText_no (w := W) (rb := rb) (tb := tb) (o := o) (c := c) (nr := nr) (dp := dp) hr (hd_at hk1) h2)
      have HC : Hid (claimT (ts.drop k) = (E0, ts.drop (k + 1), 120)) := Lib.hid (by
        unfold claimT
        rw [if_neg (by rw [h1]; decide), drop_one, if_pos h2])
      obtain ⟨res, hres⟩ : ∃ r, r = claimT (ts.drop k) := ⟨_, rfl⟩
      rw [← hres] at HC ⊢
      clear h h1 h2 he he1 hres hk hk1 ho
      go_enter Tryz.func222, Tryz.ntmps222
      go_wp2_with fail
      refine HM.out.mono ?_
      rintro e w1 ⟨rfl, hg1, hr1⟩
      have HT1 := Lib.hid (HT.out w1 hr1)
      have HG1 := Lib.hid hg1
      clear hg1 hr1
      go_wp2_with fail
      refine HT1.out.mono ?_
      rintro e w3 hG
      have HF := Lib.hid (hG.from HG1.out)
      obtain ⟨b, rfl, _⟩ := hG
      go_wp2
      refine ⟨rfl, ?_⟩
      rw [HC.out]
      exact .inr ⟨(by show (120 : Int) ≠ 0; decide), HF.out⟩
  · have HM := Lib.hid (polMust_no (s := kOpen) h (hd_at hk) (fun e => h1 ((HSG.out k kOpen (by decide) (by decide)).1 e)))
    have HC : Hid (claimT (ts.drop k) = (E0, ts.drop k, 120)) := Lib.hid (by
      unfold claimT
      rw [if_pos (by simpa using h1)])
    obtain ⟨res, hres⟩ : ∃ r, r = claimT (ts.drop k) := ⟨_, rfl⟩
    rw [← hres] at HC ⊢
    clear h h1 he hres hk ho
    go_enter Tryz.func222, Tryz.ntmps222
    go_wp2_with fail
    refine HM.out.mono ?_
    rintro e w3 hG
    have HF := Lib.hid hG
    obtain ⟨b, rfl, _⟩ := hG
    go_wp2
    refine ⟨rfl, ?_⟩
    rw [HC.out]
    exact .inr ⟨(by show (120 : Int) ≠ 0; decide), HF.out⟩
end Go.Proofs.YtcjfealalokjaaaGreatDoor
namespace Go.Proofs.YtcjfealalokjaaaGreatDoor
open Go Go.RowKit
def deepOf (g : Option (List TokM → ResE)) (r : List TokM) : ResE := match g with | none => (ex0, r, 121) | some n => n (r.drop 1)
set_option maxRecDepth 100000 in
set_option maxHeartbeats 400000 in
theorem deeper_any {f rb tb o c nr dp : Nat} {ts : List TokM} {g : Option (List TokM → ResE)} (eg : ∀ args w, (callFunc f args).run Tryz.prog w = .ok (.enter f args) w) (hn : g = none → dp = 12) (hs : ∀ n, g = some n → dp < 12 ∧ PartAsk f rb tb o c ts nr (dp + 1) n)
    (hz : ts.length ≤ 1000000) {w : World} {k : Nat} (h : Rdr w rb tb o c ts k nr dp) (he : Ends (ts.drop k)) (he1 : Ends (ts.drop (k + 1))) :
    Calls Tryz.prog 187 #[.pointer (some ⟨rb, 0, none⟩), .func (.func f) #[.pointer (some ⟨rb, 0, none⟩)] #[]] w (Tells w rb tb o c ts nr dp (deepOf g (ts.drop k))) := by
  have HLT := Lib.hid h.blk.lt
  have HTL := Lib.hid h.lt
  have HML := Lib.hid (Blk.lt h.marks)
  have hk := ends_lt he
  obtain ⟨w1, hw1⟩ : ∃ W, W = w.alloc (.cells #[.int .i64 0, .string ⟨#[]⟩, .int .i64 0, .slice none 0 0, .int .i64 0] 42) := ⟨_, rfl⟩
  have HG1 : Hid (w.grownBy w1 none) := Lib.hid (by rw [hw1]; exact World.grownBy_alloc _ _ none)
  have HR1 := Lib.hid (h.keep HG1.out)
  have HZ1 : Hid (Blk w1 w.heap.size 42 zerosE) := Lib.hid (by rw [hw1]; exact blkNew w zerosE _)
  have HS1 : Hid (w1.heap.size = w.heap.size + 1) := Lib.hid (by rw [hw1]; simp)
  cases g with
  | none =>
    obtain rfl := hn rfl
    have HG := Lib.hid (polGiveUp_any HR1.out (hd_at hk) 121)
    obtain ⟨⟨_, _, _, c3⟩, _⟩ := h.cells
    have l1 := HLT.out
    clear h hs hn he he1
    go_enter Tryz.func187, Tryz.ntmps187
    go_wp2_with fail
    rw [← hw1]
    refine HG.out.mono ?_
    rintro e w2 hG
    have HF := Lib.hid (hG.from (Keep.toRow HG1.out))
    obtain ⟨b, rfl, _⟩ := hG
    go_wp2
    exact ⟨rfl, .inr ⟨(by show (121 : Int) ≠ 0; decide), HF.out⟩⟩
  | some n =>
    obtain ⟨hlt, hask⟩ := hs n rfl
    show Calls _ _ _ _ (Tells w rb tb o c ts nr dp (n ((ts.drop k).drop 1)))
    rw [drop_one]
    have HASK := Lib.hid (fun W hr => hask W (k + 1) hr he1)
    obtain ⟨r, hr⟩ : ∃ r, r = n (ts.drop (k + 1)) := ⟨_, rfl⟩
    rw [← hr] at HASK ⊢
    obtain ⟨⟨_, c1, _, c3⟩, _, f1, _, f3⟩ := h.cells
    have l1 := HLT.out
    have HWR : Hid (wrap64 ((k : Int) + 1) = ((k + 1 : Nat) : Int)) := Lib.hid (by unfold wrap64; omega)
    have HWD : Hid (wrap64 ((dp : Int) + 1) = ((dp + 1 : Nat) : Int)) := Lib.hid (by unfold wrap64; omega)
    have HWF : Hid (wrap64 (dp : Int) = (dp : Int)) := Lib.hid (by unfold wrap64; omega)
    have HWE : Hid (wrap64 (((dp + 1 : Nat) : Int) - 1) = (dp : Int)) := Lib.hid (by unfold wrap64; omega)
    have hd0 : ((dp : Int) == 12) = false := by rw [beq_eq_false_iff_ne]; omega
    obtain ⟨W3, hW3⟩ : ∃ W, W = ((w.setCell ⟨rb, 1, none⟩ (.int .i64 ((k + 1 : Nat) : Int))).setCell ⟨rb, 3, none⟩ (.int .i64 ((dp + 1 : Nat) : Int))).alloc (.cells #[.int .i64 0, .string ⟨#[]⟩, .int .i64 0, .slice none 0 0, .int .i64 0] 42) := ⟨_, rfl⟩
    have HR3 : Hid (Rdr W3 rb tb o c ts (k + 1) nr (dp + 1)) := Lib.hid (by rw [hW3]; exact ((h.goes (k + 1)).deep (dp + 1)).keep (World.grownBy_alloc _ _ none))
    have HG3 : Hid (w.grownBy W3 (some rb)) := Lib.hid (by rw [hW3]; exact ((grownBy_setCell w rb 1 (.int .i64 ((k + 1 : Nat) : Int))).trans (grownBy_setCell _ rb 3 (.int .i64 ((dp + 1 : Nat) : Int)))).trans (Keep.toRow (World.grownBy_alloc _ _ none)))
    have HZ3 : Hid (Blk W3 w.heap.size 42 zerosE) := Lib.hid (by rw [hW3]; have := blkNew ((w.setCell ⟨rb, 1, none⟩ (.int .i64 ((k + 1 : Nat) : Int))).setCell ⟨rb, 3, none⟩ (.int .i64 ((dp + 1 : Nat) : Int))) zerosE 42; simpa using this)
    have HS3 : Hid (W3.heap.size = w.heap.size + 1) := Lib.hid (by rw [hW3]; simp)
    clear h hs hn he he1 hask hr hlt hk
    go_enter Tryz.func187, Tryz.ntmps187
    go_wp2_with fail
    rw [HWR.out, HWD.out, ← hW3]
    refine (HASK.out _ HR3.out).mono ?_
    rintro e w4 hT
    by_cases h0 : r.2.2 = 0
    · obtain ⟨k6, d0, d1, d2, D, dn, dc, d4, rfl, hr6, he6, hrep6, hrd6, hg6⟩ := hT.ok h0
      obtain ⟨⟨_, _, _, c3⟩, _, _, _, f3⟩ := hrd6.cells
      have l2 := hrd6.blk.lt
      have hwe := HWF.out
      have HH := Lib.hid (And.intro hr6 (And.intro he6 (And.intro hrep6 (And.intro hrd6 hg6))))
      clear hT hr6 he6 hrep6 hrd6 hg6
      go_upto_region 7 with fail
      obtain ⟨hr6, he6, hrep6, hrd6, hg6⟩ := HH.out
      have hzz := HZ3.out.grown hg6 (by intro e; injection e with e; have := HLT.out; omega)
      have hsz : (w4.setCell ⟨rb, 3, none⟩ (.int .i64 (dp : Int))).heap.size = w4.heap.size := by simp
      have gs := grownBy_setCell w4 rb 3 (.int .i64 (dp : Int))
      have ga := World.grownBy_alloc (w4.setCell ⟨rb, 3, none⟩ (.int .i64 (dp : Int))) (.cells #[.int .i64 d0, .string d1, .int .i64 d2, .slice D dn dc, .int .i64 d4] 42) none
      have hv5 := blkNew (w4.setCell ⟨rb, 3, none⟩ (.int .i64 (dp : Int))) [.int .i64 d0, .string d1, .int .i64 d2, .slice D dn dc, .int .i64 d4] 42
      rw [hsz] at hv5
      have hr5 : Rdr _ rb tb o c ts k6 nr dp := (hrd6.deep dp).keep ga
      have hz5 := (hzz.grown gs (by intro e; injection e with e; have := HLT.out; omega)).grownN ga
      have hp5 := RepE.keeps ((Keeps.grown gs (fun b (hb : W3.heap.size ≤ b) e => by injection e with e; have := HLT.out; have := HS3.out; omega)).trans (Keeps.grown ga (fun b _ e => by cases e))) (fun b hb _ => hb) _ _ hrep6
      have hg5 := (HG3.out.trans (hg6.trans gs)).trans (Keep.toRow ga)
      obtain ⟨W5, hW5⟩ : ∃ W, W = (w4.setCell ⟨rb, 3, none⟩ (.int .i64 (dp : Int))).alloc (.cells #[.int .i64 d0, .string d1, .int .i64 d2, .slice D dn dc, .int .i64 d4] 42) := ⟨_, rfl⟩
      replace hv5 : Blk W5 w4.heap.size 42 [.int .i64 d0, .string d1, .int .i64 d2, .slice D dn dc, .int .i64 d4] := by rw [hW5]; exact hv5
      replace hr5 : Rdr W5 rb tb o c ts k6 nr dp := by rw [hW5]; exact hr5
      replace hz5 : Blk W5 w.heap.size 42 zerosE := by rw [hW5]; exact hz5
      replace hp5 : RepE W5 (fun b => W3.heap.size ≤ b) r.1 (.agg #[.int .i64 d0, .string d1, .int .i64 d2, .slice D dn dc, .int .i64 d4]) := by rw [hW5]; exact hp5
      replace hg5 : w.grownBy W5 (some rb) := by rw [hW5]; exact hg5
      rw [← hW5]
      have HSET := Lib.hid (blk_setE hz5 (.int .i64 d0) (.string d1) (.int .i64 d2) (.slice D dn dc) (.int .i64 d4))
      have HT := Lib.hid (Tells.set (dp := dp) h0 hr6 he6 hp5 hr5 hg5 HSET.out.2 (Nat.le_refl _) (by rw [HS3.out]; omega) HLT.out HTL.out HML.out rfl)
      obtain ⟨z0, z1, z2, z3, z4⟩ := cells5 hz5
      obtain ⟨x0, x1, x2, x3, x4⟩ := cells5 hv5
      obtain ⟨f0, f1, f2, f3, f4⟩ := frozen5 hz5
      have hWE := Lib.hid hW5
      clear hr6 he6 hrep6 hrd6 hg6 hzz hsz gs ga hv5 hr5 hz5 hp5 hg5 hW5 c3 h0
      go_wp2
      exact bodyPost_ret (results_blkE Tryz.results187 _ _ w.heap.size _ _ _ rfl HSET.out.1 Tryz.underlying42 rfl sizeExpr) rfl HT.out
    · have HF := Lib.hid ((hT.bad h0).from HG3.out)
      obtain ⟨b, rfl, _⟩ := hT.bad h0
      clear hT
      go_wp2
      exact ⟨rfl, .inr ⟨h0, HF.out⟩⟩
end Go.Proofs.YtcjfealalokjaaaGreatDoor
namespace Go.Proofs.YtcjfealalokjaaaGreatDoor
open Go Go.RowKit
theorem wp_gen {P : Program} {c : Code} {Q : Exit → Act → World → Prop} {a : Act} {w : World} (h : ∀ W, W = w → Code.wp P c Q a W) : Code.wp P c Q a w := h w rfl
theorem notOf_deep (g : Option (List TokM → ResE)) (cmp : List TokM → ResE) (r : List TokM) : notOf g cmp r = if isT r 1 wNot = false then cmp r else if (deepOf g r).2.2 ≠ 0 then deepOf g r else (.mk 6 E0 0 [(deepOf g r).1] (hdT r).pos, (deepOf g r).2.1, 0) := by
  unfold notOf
  by_cases h : isT r 1 wNot = false
  · rw [if_pos h, if_pos h]
  · rw [if_neg h, if_neg h]
    cases g with
    | none => show _ = if (121 : Int) ≠ 0 then _ else _; rw [if_pos (by decide)]; rfl
    | some g => rfl
theorem eg_negated : ∀ args w, (callFunc 168 args).run Tryz.prog w = .ok (.enter 168 args) w := enters_of Tryz.func168 (by kernel_rfl) rfl
set_option maxRecDepth 100000 in
set_option maxHeartbeats 1000000 in
theorem negated_any {rb tb o c nr dp : Nat} {ts : List TokM} {g : Option (List TokM → ResE)} {cmp : List TokM → ResE} (hn : g = none → dp = 12) (hs : ∀ n, g = some n → dp < 12 ∧ PartAsk 168 rb tb o c ts nr (dp + 1) n) (hc : PartAsk 186 rb tb o c ts nr dp cmp)
    (ho : AllOwn ts) (hz : ts.length ≤ 1000000) : PartAsk 168 rb tb o c ts nr dp (notOf g cmp) := fun w k h he => by
  have HLT := Lib.hid h.blk.lt
  have HTL := Lib.hid h.lt
  have HML := Lib.hid (Blk.lt h.marks)
  have hk := ends_lt he
  obtain ⟨w1, hw1⟩ : ∃ W, W = w.alloc (.cells #[.int .i64 0, .string ⟨#[]⟩, .int .i64 0, .slice none 0 0, .int .i64 0] 42) := ⟨_, rfl⟩
  have HG1 : Hid (w.grownBy w1 none) := Lib.hid (by rw [hw1]; exact World.grownBy_alloc _ _ none)
  have HR1 := Lib.hid (h.keep HG1.out)
  have HZ1 : Hid (Blk w1 w.heap.size 42 zerosE) := Lib.hid (by rw [hw1]; exact blkNew w zerosE _)
  have HS1 : Hid (w1.heap.size = w.heap.size + 1) := Lib.hid (by rw [hw1]; simp)
  have HSA := Lib.hid (polSaid_any HR1.out (hd_at hk))
  have hmf : ∀ (fn : Fn) (first cap : Array Value) (w : World), (Instr.makeFunc fn first cap).run Tryz.prog w = .ok (.func fn first cap) w := fun _ _ _ _ => rfl
  obtain ⟨x, hx⟩ : ∃ x, x = saidT (hdT (ts.drop k)) := ⟨_, rfl⟩
  have hsw := said_iffW (k := k) ho (s := wNot) (by decide) (by decide)
  rw [← hx] at HSA hsw
  rw [notOf_deep]
  by_cases hnot : isT (ts.drop k) 1 wNot = false
  · rw [if_pos hnot]
    have e1 : (x.toList == [110, 111, 116]) = false := neLit (fun e => by rw [hsw.1 e] at hnot; cases hnot)
    have HCM := Lib.hid (fun W hr => hc W k hr he)
    obtain ⟨r, hr⟩ : ∃ r, r = cmp (ts.drop k) := ⟨_, rfl⟩
    rw [← hr] at HCM ⊢
    clear h hs hn he hc hr hsw hx hnot hk
    go_enter Tryz.func168, Tryz.ntmps168
    go_wp2_with fail
    rw [← hw1]
    (with_reducible refine HSA.out.mono ?_)
    rintro e w2 ⟨rfl, hg2⟩
    have HC2 := Lib.hid (HCM.out w2 (HR1.out.keep hg2))
    have HZ2 := Lib.hid (HZ1.out.grownN hg2)
    have HG2 := Lib.hid (HG1.out.trans hg2)
    have HS2 := Lib.hid hg2.size
    clear hg2
    go_wp2_with fail
    (with_reducible refine HC2.out.mono ?_)
    rintro e w3 hT
    by_cases h0 : r.2.2 = 0
    · obtain ⟨k6, d0, d1, d2, D, dn, dc, d4, rfl, hr6, he6, hrep6, hrd6, hg6⟩ := hT.ok h0
      have hz5 := HZ2.out.grown hg6 (by intro e; injection e with e; have := HLT.out; omega)
      have hp5 := RepE.keeps (Keeps.refl _ w3) (fun b (hb : w2.heap.size ≤ b) _ => show w1.heap.size ≤ b by have := HS2.out; omega) _ _ hrep6
      have hr5 := hrd6
      have hg5 := (Keep.toRow (rb := rb) HG2.out).trans hg6
      have HSET := Lib.hid (blk_setE hz5 (.int .i64 d0) (.string d1) (.int .i64 d2) (.slice D dn dc) (.int .i64 d4))
      have HT := Lib.hid (Tells.set (dp := dp) h0 hr6 he6 hp5 hr5 hg5 HSET.out.2 (Nat.le_refl _) (by rw [HS1.out]; omega) HLT.out HTL.out HML.out rfl)
      obtain ⟨z0, z1, z2, z3, z4⟩ := cells5 hz5
      obtain ⟨f0, f1, f2, f3, f4⟩ := frozen5 hz5
      clear hT h0 hr6 he6 hrep6 hrd6 hg6 hz5 hp5 hr5 hg5
      go_wp2
      exact bodyPost_ret (results_blkE Tryz.results168 _ _ w.heap.size _ _ _ rfl HSET.out.1 Tryz.underlying42 rfl sizeExpr) rfl HT.out
    · have HF := Lib.hid ((hT.bad h0).from (Keep.toRow HG2.out))
      obtain ⟨b, rfl, _⟩ := hT.bad h0
      clear hT
      go_wp2
      exact ⟨rfl, .inr ⟨h0, HF.out⟩⟩
  · rw [if_neg hnot]
    have hnt := Bool.not_eq_false _ |>.mp hnot
    have e1 : x = wNot := hsw.2 hnt
    subst e1
    have he1 := he.next hnt (by decide)
    rw [drop_one] at he1
    have HDP := Lib.hid (fun W hr => deeper_any (f := 168) eg_negated hn hs hz (w := W) (k := k) hr he he1)
    obtain ⟨q, hq⟩ : ∃ q, q = deepOf g (ts.drop k) := ⟨_, rfl⟩
    rw [← hq] at HDP ⊢
    have HAH := Lib.hid (fun W (hr : Rdr W rb tb o c ts k nr dp) => polAhead_any hr (hd_at hk))
    obtain ⟨pz, hpz⟩ : ∃ p, p = hdT (ts.drop k) := ⟨_, rfl⟩
    rw [← hpz] at HAH ⊢
    obtain ⟨p0, p1, p2, p3⟩ := pz
    simp only at HAH ⊢
    obtain ⟨res, hres⟩ : ∃ r, r = (if q.2.2 ≠ 0 then q else (.mk 6 E0 0 [q.1] p3, q.2.1, 0)) := ⟨_, rfl⟩
    rw [← hres]
    have HRES := Lib.hid hres
    clear hres
    have hf := fun w => fieldPos (.int .i64 p0) (.string p1) (.int .i64 p2) (.int .i64 p3) w
    clear h hs hn he hc hq hsw hx hnot hk hnt he1 hpz
    go_enter Tryz.func168, Tryz.ntmps168
    go_wp2_with fail
    rw [← hw1]
    (with_reducible refine HSA.out.mono ?_)
    rintro e w2 ⟨rfl, hg2⟩
    have HR2 := Lib.hid (HR1.out.keep hg2)
    have HA2 := Lib.hid (HAH.out w2 HR2.out)
    have HZ2 := Lib.hid (HZ1.out.grownN hg2)
    have HG2 := Lib.hid (HG1.out.trans hg2)
    have HS2 := Lib.hid hg2.size
    clear hg2
    go_wp2_with fail
    (with_reducible refine HA2.out.mono ?_)
    rintro e w3 ⟨rfl, hg3⟩
    obtain ⟨w4, hw4⟩ : ∃ W, W = w3.alloc (.cells #[.int .i64 6, .string ⟨#[]⟩, .int .i64 0, .slice none 0 0, .int .i64 p3] 42) := ⟨_, rfl⟩
    have g4 : w3.grownBy w4 none := by rw [hw4]; exact World.grownBy_alloc _ _ none
    have HV4 : Hid (Blk w4 w3.heap.size 42 [.int .i64 6, .string ⟨#[]⟩, .int .i64 0, .slice none 0 0, .int .i64 p3]) := Lib.hid (by rw [hw4]; exact blkNew w3 _ _)
    have HR4 := Lib.hid ((HR2.out.keep hg3).keep g4)
    have HZ4 := Lib.hid ((HZ2.out.grownN hg3).grownN g4)
    have HG4 := Lib.hid ((HG2.out.trans hg3).trans g4)
    have HS4 : Hid (w1.heap.size ≤ w3.heap.size ∧ w3.heap.size < w4.heap.size) := Lib.hid ⟨by have := HS2.out; have := hg3.size; omega, HV4.out.lt⟩
    have HD4 := Lib.hid (HDP.out w4 HR4.out)
    have HW4 := Lib.hid hw4
    clear hg3 g4 hw4
    go_wp2_with fail
    rw [← HW4.out]
    (with_reducible refine HD4.out.mono ?_)
    rintro e w5 hT
    by_cases h0 : q.2.2 = 0
    · have HRS : Hid (res = (.mk 6 E0 0 [q.1] p3, q.2.1, 0)) := Lib.hid (HRES.out.trans (if_neg (by simpa using h0)))
      obtain ⟨k6, d0, d1, d2, D, dn, dc, d4, rfl, hr6, he6, hrep6, hrd6, hg6⟩ := hT.ok h0
      have hv5 := HV4.out.grown hg6 (by intro e; injection e with e; have := HLT.out; have := HS4.out; have := HS1.out; omega)
      have hz5 := HZ4.out.grown hg6 (by intro e; injection e with e; have := HLT.out; omega)
      have HH := Lib.hid (And.intro hr6 (And.intro he6 (And.intro hrep6 (And.intro hrd6 (And.intro hg6 (And.intro hv5 hz5))))))
      have c3 := hv5.cell 3
      have f3 := hv5.frozen 3
      have l5 := hv5.lt
      obtain ⟨vb, hvb⟩ : ∃ v, v = w3.heap.size := ⟨_, rfl⟩
      clear hT hr6 he6 hrep6 hrd6 hg6 hv5 hz5
      go_upto_region 5 with fail
      refine wp_gen (fun W5 hW5 => ?_)
      obtain ⟨hr6, he6, hrep6, hrd6, hg6, hv5, hz5⟩ := HH.out
      have hsz : (w5.setCell ⟨w3.heap.size, 3, none⟩ (.slice (some ⟨w5.heap.size, 0, none⟩) 1 1)).heap.size = w5.heap.size := by simp
      have gs := grownBy_setCell w5 w3.heap.size 3 (.slice (some ⟨w5.heap.size, 0, none⟩) 1 1)
      have ga := World.grownBy_alloc (w5.setCell ⟨w3.heap.size, 3, none⟩ (.slice (some ⟨w5.heap.size, 0, none⟩) 1 1)) (.cells #[.int .i64 d0, .string d1, .int .i64 d2, .slice D dn dc, .int .i64 d4] 42) none
      have hnew := blkNew (w5.setCell ⟨w3.heap.size, 3, none⟩ (.slice (some ⟨w5.heap.size, 0, none⟩) 1 1)) [.int .i64 d0, .string d1, .int .i64 d2, .slice D dn dc, .int .i64 d4] 42
      rw [hsz] at hnew
      have hv6 := (Blk.setCell hv5 3 (.slice (some ⟨w5.heap.size, 0, none⟩) 1 1)).grownN ga
      have b1 := HLT.out
      have b2 := HTL.out
      have b3 := HML.out
      have b4 := HS1.out
      have b5 := HS4.out
      have b6 := hg6.size
      have hz6 := (hz5.grown gs (by intro e; injection e with e; omega)).grownN ga
      have hr7 := (hrd6.other gs (by omega) (by omega) (by omega)).keep ga
      have hp6 := RepE.keeps ((Keeps.grown gs (fun b (hb : w4.heap.size ≤ b) e => by injection e with e; omega)).trans (Keeps.grown ga (fun b _ e => by cases e))) (fun b (hb : w4.heap.size ≤ b) _ => show w1.heap.size ≤ b by omega) _ _ hrep6
      have hg7 := (((Keep.toRow (rb := rb) HG4.out).trans hg6).andThen gs (by intro j hj; injection hj with hj; left; omega)).trans (Keep.toRow ga)
      rw [← hW5] at hv6 hz6 hr7 hp6 hg7 hnew
      have hp5 := RepE.one (op := 6) (p := p3) (c := 1) hp6 (show w1.heap.size ≤ w5.heap.size by omega) hnew
      have HSET := Lib.hid (blk_setE hz6 (.int .i64 6) (.string ⟨#[]⟩) (.int .i64 0) (.slice (some ⟨w5.heap.size, 0, none⟩) 1 1) (.int .i64 p3))
      have HT := Lib.hid (Tells.set (dp := dp) (r := (.mk 6 E0 0 [q.1] p3, q.2.1, 0)) rfl hr6 he6 hp5 hr7 hg7 HSET.out.2 (Nat.le_refl _) (by rw [HS1.out]; omega) HLT.out HTL.out HML.out rfl)
      rw [← HRS.out] at HT
      obtain ⟨z0, z1, z2, z3, z4⟩ := cells5 hz6
      obtain ⟨x0, x1, x2, x3, x4⟩ := cells5 hv6
      obtain ⟨f0, f1, f2, f3, f4⟩ := frozen5 hz6
      clear hr6 he6 hrep6 hrd6 hg6 hv5 hz5 hsz gs ga hnew hv6 hz6 hr7 hp6 hg7 hp5 b1 b2 b3 b4 b5 b6 hW5 c3 h0
      go_wp2
      exact bodyPost_ret (results_blkE Tryz.results168 _ _ w.heap.size _ _ _ rfl HSET.out.1 Tryz.underlying42 rfl sizeExpr) rfl HT.out
    · have HRS : Hid (res = q) := Lib.hid (HRES.out.trans (if_pos h0))
      have HF := Lib.hid ((hT.bad h0).from (Keep.toRow HG4.out))
      obtain ⟨b, rfl, _⟩ := hT.bad h0
      clear hT
      go_wp2
      refine ⟨rfl, ?_⟩
      rw [HRS.out]
      exact .inr ⟨h0, HF.out⟩
end Go.Proofs.YtcjfealalokjaaaGreatDoor
