/- ClSub, ClNames, ClRefN: merged. -/
import Derived.Test.YtjfgmgkhinehaaaGreatDoorCf21
import Derived.Test.YtjfgmgkhinehaaaGreatDoorCf24
import Derived.Test.YtjfgmgkhinehaaaGreatDoorCf26
set_option linter.all false
namespace Go.Proofs.YtjfgmgkhinehaaaGreatDoor
open Go Go.RowKit
theorem RepK.lies {W : World} {k : List ByteArray} {v : Value} (h : RepK W k v) : ∃ A c, v = .slice A k.length c ∧ LiesN W A k := by
  obtain ⟨A, c, e, _, hc⟩ := h
  refine ⟨A, c, e, fun hp => ?_⟩
  obtain ⟨b, o, e1, hlt, hcs⟩ := hc hp
  refine ⟨b, o, e1, hlt, fun i x hi => ?_⟩
  obtain ⟨t, h1, _, h2⟩ := hcs i (List.getElem?_eq_some_iff.1 hi).1
  rw [h1] at hi
  injection hi with hi
  rw [← hi]; exact h2
theorem hasR_any (v : Value) (ns : List ByteArray) (x : ByteArray) (w : World) (h : RepK w ns v) (hn : ns.length ≤ 1000000000) :
    Calls Tryz.prog 102 #[v, .string x] w fun e w' => e = .returned (.bool (hasN ns x)) ∧ w' = w := by
  have key : Calls Tryz.prog 135 #[v, .string x] w fun e w' => e = .returned (.bool (hasN ns x)) ∧ w' = w := by
    obtain ⟨A, c, rfl, hl⟩ := h.lies
    by_cases h0 : ns = []
    · subst h0
      exact Tryz.slices_Contains_string_empty A c x w
    · obtain ⟨b, o, rfl, hlt, hcell⟩ := hl h0
      refine (Tryz.slices_Contains_string b o ns.length c ns x w (Nat.le_refl _) (by omega) (fun j hj => ?_)).mono ?_
      · rw [hcell j _ (List.getElem?_eq_getElem hj)]
        simp [List.getD, hj]
      · rintro e w' ⟨rfl, rfl⟩
        rw [List.take_length, containsS_has]
        exact ⟨rfl, rfl⟩
  have HK := Lib.hid key
  clear key h
  go_enter Tryz.func102, Tryz.ntmps102
  go_wp2_with (go_at_call 135; (with_reducible refine HK.out.mono ?_); rintro e w' ⟨rfl, rfl⟩)
  go_ret
  exact ⟨rfl, rfl⟩
theorem getL_in : ∀ {k : List ByteArray} {l : List J} {n : ByteArray} {x : J}, getL k l n = some x → x ∈ l
  | [], l, n, x, h => by cases l <;> simp [getL] at h
  | m :: r, [], n, x, h => by simp [getL] at h
  | m :: r, y :: t, n, x, h => by
    rw [getL] at h
    split at h
    · injection h with h; rw [h]; exact List.mem_cons_self
    · exact List.mem_cons_of_mem _ (getL_in h)
theorem getJ_in {j : J} {n : ByteArray} {x : J} (h : getJ j n = some x) : x ∈ j.l := by
  unfold getJ at h
  split at h
  · exact getL_in h
  · cases h
theorem Mild.text {j : J} (h : Mild j) (n : ByteArray) : (askT j n).1.size ≤ 1000000000 := by
  unfold askT membM membO
  split
  · rename_i x hx
    split
    · cases h with
      | mk kind m s l k h1 h2 h3 =>
        have := h3 x (getJ_in hx)
        cases this with
        | mk _ _ s' _ _ h4 _ _ => exact h4
    · show (0 : Nat) ≤ _; omega
  · show (0 : Nat) ≤ _; omega
theorem Sm.items {j : J} (h : Sm j) : ∀ x ∈ j.l, Sm x := by cases h with | mk _ _ h3 => exact h3
theorem Sm.names {j : J} (h : Sm j) : j.k.length ≤ 1000000 := by cases h with | mk _ h2 _ => exact h2
theorem Mild.names {j : J} (h : Mild j) : ∀ t ∈ j.k, t.size ≤ 1000000000 := by cases h with | mk _ _ _ _ _ _ h2 _ => exact h2
theorem RepJ.keys {W : World} {j : J} {y0 y1 : Int} {y2 : ByteArray} {yA : Option Addr} {yp yc : Nat} {yK : Option Addr} {yq yd : Nat} (h : RepJ W j (.agg #[.int .i64 y0, .int .i64 y1, .string y2, .slice yA yp yc, .slice yK yq yd])) : RepK W j.k (.slice yK yq yd) := by
  obtain ⟨vk, A, c, e, -, hk, -, -⟩ := h.open
  injection e with e
  have e := congrArg Array.toList e
  simp only [List.cons.injEq, and_true] at e
  rw [e.2.2.2.2]; exact hk
set_option maxRecDepth 100000 in
set_option maxHeartbeats 8000000 in
theorem subject_any (j : J) (va : Value) (name : ByteArray) (W : World) (ha : RepJ W j va) (hsm : Sm j) (hM : Mild j) :
    Calls Tryz.prog 72 #[va, .string name] W (TextTells W (askU j name)) := by
  obtain ⟨y0, y1, y2, yA, yp, yc, yK, yq, yd, rfl⟩ := ha.form
  obtain ⟨W1, hW1⟩ : ∃ X, X = W.alloc (.cells #[.int .i64 y0, .int .i64 y1, .string y2, .slice yA yp yc, .slice yK yq yd] 27) := ⟨_, rfl⟩
  have hB1 : Below W.heap.size W W1 := by rw [hW1]; exact belowAlloc W _
  have ha1 := RepJ.below hB1 _ _ ha
  have HT := Lib.hid (textC_any j _ name W1 ha1 hsm.items (hM.text name))
  have HH := Lib.hid (hasR_any _ _ name W1 ha1.keys (by have := hsm.names; omega))
  have HB1 := Lib.hid hB1
  have HW1 := Lib.hid hW1
  unfold TextTells
  have HU : Hid (askU j name = if hasN j.k name = false then (⟨#[]⟩, 0) else if (askT j name).2 = 0 ∧ nameB (strL (askT j name).1) = false then (⟨#[]⟩, 90) else askT j name) := Lib.hid rfl
  obtain ⟨R, hR⟩ : ∃ R, R = askU j name := ⟨_, rfl⟩
  rw [← hR] at HU ⊢
  obtain ⟨hn, hhn⟩ : ∃ b, b = hasN j.k name := ⟨_, rfl⟩
  rw [← hhn] at HU HH
  obtain ⟨q, hq⟩ : ∃ q, q = askT j name := ⟨_, rfl⟩
  rw [← hq] at HU HT
  obtain ⟨t, no⟩ := q
  have HNM := Lib.hid (fun W => scName_any t W)
  clear ha ha1 hsm hM hB1 hR hhn hq
  cases hn with
  | false =>
    obtain rfl : R = (⟨#[]⟩, 0) := HU.out
    clear HU hW1
    go_enter Tryz.func72, Tryz.ntmps72
    go_wp2_with fail
    rw [show W.alloc (.cells #[.int .i64 y0, .int .i64 y1, .string y2, .slice yA yp yc, .slice yK yq yd] 27) = W1 from HW1.out.symm]
    refine HH.out.mono ?_
    rintro e w' ⟨rfl, rfl⟩
    go_wp2
    go_ret2
    exact ⟨rfl, HB1.out⟩
  | true =>
    have x0 : W1.cell? ⟨W.heap.size, 0, none⟩ = some (.int .i64 y0) := by rw [hW1]; simp
    have x1 : W1.cell? ⟨W.heap.size, 1, none⟩ = some (.int .i64 y1) := by rw [hW1]; simp
    have x2 : W1.cell? ⟨W.heap.size, 2, none⟩ = some (.string y2) := by rw [hW1]; simp
    have x3 : W1.cell? ⟨W.heap.size, 3, none⟩ = some (.slice yA yp yc) := by rw [hW1]; simp
    have x4 : W1.cell? ⟨W.heap.size, 4, none⟩ = some (.slice yK yq yd) := by rw [hW1]; simp
    clear hW1
    by_cases h0 : no = 0
    · subst h0
      have HU2 : Hid (R = if nameB (strL t) = false then (⟨#[]⟩, 90) else (t, 0)) := Lib.hid (by
        rw [HU.out, if_neg (by decide)]
        by_cases hb : nameB (strL t) = false
        · rw [if_pos ⟨rfl, hb⟩, if_pos hb]
        · rw [if_neg (fun h => hb h.2), if_neg hb])
      obtain ⟨nb, hnb⟩ : ∃ b, b = nameB (strL t) := ⟨_, rfl⟩
      rw [← hnb] at HNM HU2
      clear HU hnb
      cases nb with
      | false =>
        obtain rfl : R = (⟨#[]⟩, 90) := HU2.out
        clear HU2
        go_enter Tryz.func72, Tryz.ntmps72
        go_wp2_with fail
        rw [show W.alloc (.cells #[.int .i64 y0, .int .i64 y1, .string y2, .slice yA yp yc, .slice yK yq yd] 27) = W1 from HW1.out.symm]
        refine HH.out.mono ?_
        rintro e w' ⟨rfl, rfl⟩
        go_wp2_with fail
        refine HT.out.mono ?_
        rintro e w2 ⟨rfl, hb⟩
        have HB2 := Lib.hid (HB1.out.trans (hb.mono HB1.out.size))
        rw [errV_zero]
        clear hb
        go_wp2_with (go_at_call 57; (with_reducible refine (HNM.out _).mono ?_); rintro e w' ⟨rfl, rfl⟩)
        go_ret2
        exact ⟨rfl, HB2.out⟩
      | true =>
        obtain rfl : R = (t, 0) := HU2.out
        clear HU2
        go_enter Tryz.func72, Tryz.ntmps72
        go_wp2_with fail
        rw [show W.alloc (.cells #[.int .i64 y0, .int .i64 y1, .string y2, .slice yA yp yc, .slice yK yq yd] 27) = W1 from HW1.out.symm]
        refine HH.out.mono ?_
        rintro e w' ⟨rfl, rfl⟩
        go_wp2_with fail
        refine HT.out.mono ?_
        rintro e w2 ⟨rfl, hb⟩
        have HB2 := Lib.hid (HB1.out.trans (hb.mono HB1.out.size))
        rw [errV_zero]
        clear hb
        go_wp2_with (go_at_call 57; (with_reducible refine (HNM.out _).mono ?_); rintro e w' ⟨rfl, rfl⟩)
        go_ret2
        exact ⟨rfl, HB2.out⟩
    · obtain rfl : R = (t, no) := by
        rw [HU.out, if_neg (by decide), if_neg (fun h => h0 h.1)]
      have HE := Lib.hid (errV_of h0)
      have HN0 := Lib.hid h0
      clear HU h0
      go_enter Tryz.func72, Tryz.ntmps72
      go_wp2_with fail
      rw [show W.alloc (.cells #[.int .i64 y0, .int .i64 y1, .string y2, .slice yA yp yc, .slice yK yq yd] 27) = W1 from HW1.out.symm]
      refine HH.out.mono ?_
      rintro e w' ⟨rfl, rfl⟩
      go_wp2_with fail
      refine HT.out.mono ?_
      rintro e w2 ⟨rfl, hb⟩
      have HB2 := Lib.hid (HB1.out.trans (hb.mono HB1.out.size))
      rw [HE.out]
      clear hb
      go_wp2
      go_ret2
      exact ⟨by rw [HE.out]; rfl, HB2.out⟩
def ScTells (W : World) (r : List ByteArray × Int) (e : Ending) (w' : World) : Prop := ∃ A c, e = .returned (.tuple #[.slice A r.1.length c, errV r.2]) ∧ SliceN w' (.slice A r.1.length c) r.1 ∧ Below W.heap.size W w'
set_option maxRecDepth 100000 in
set_option maxHeartbeats 8000000 in
theorem scopesC_any (j : J) (va : Value) (name : ByteArray) (W : World) (ha : RepJ W j va) (hsm : Sm j) (hM : Mild j) (hm : MaxLS W) :
    Calls Tryz.prog 92 #[va, .string name] W (ScTells W (askS j name)) := by
  obtain ⟨y0, y1, y2, yA, yp, yc, yK, yq, yd, rfl⟩ := ha.form
  have hB1 := belowAlloc W (.cells #[.int .i64 y0, .int .i64 y1, .string y2, .slice yA yp yc, .slice yK yq yd] 27)
  have HT := Lib.hid (textC_any j _ name _ (RepJ.below hB1 _ _ ha) hsm.items (hM.text name))
  have HB1 := Lib.hid hB1
  have hE := askT_err j name
  have hsz := hM.text name
  have HU : Hid (askS j name = if (askT j name).2 ≠ 0 then ([], 54) else if okW (textW (askT j name).1) = true then (parseN (askT j name).1, 0) else ([], 90)) := Lib.hid rfl
  obtain ⟨R, hR⟩ : ∃ R, R = askS j name := ⟨_, rfl⟩
  rw [← hR] at HU ⊢
  obtain ⟨q, hq⟩ : ∃ q, q = askT j name := ⟨_, rfl⟩
  rw [← hq] at HU HT hE hsz
  obtain ⟨t, no⟩ := q
  have HPS := Lib.hid (fun (W' : World) (hW : Below W.heap.size W W') => parseS_any t W' (hm.below hW) hsz)
  clear ha hsm hM hB1 hR hq hm hsz
  go_enter Tryz.func92, Tryz.ntmps92
  go_wp2_with fail
  refine HT.out.mono ?_
  rintro e w2 ⟨rfl, hb⟩
  have HB2 := Lib.hid (HB1.out.trans (hb.mono HB1.out.size))
  clear hb HT
  by_cases h0 : no = 0
  · subst h0
    rw [errV_zero]
    clear hE
    have HP := Lib.hid (HPS.out _ HB2.out)
    clear HPS
    cases hok : okW (textW t) with
    | true =>
      obtain rfl : R = (parseN t, 0) := by rw [HU.out, if_neg (by simp), if_pos hok]
      clear HU
      go_wp2_with fail
      refine HP.out.mono ?_
      rintro e w3 ⟨v, rfl, hsl, hb⟩
      have HB3 := Lib.hid (HB2.out.trans (hb.mono HB2.out.size))
      obtain ⟨A, c, rfl, h2⟩ := hsl
      have HSL : Hid (SliceN w3 (.slice A (parseN t).length c) (parseN t)) := Lib.hid ⟨A, c, rfl, h2⟩
      rw [hok, show SErr true = .nilIface from rfl]
      clear hb h2 hok
      go_wp2
      go_ret2
      exact ⟨_, _, rfl, HSL.out, HB3.out⟩
    | false =>
      obtain rfl : R = ([], 90) := by rw [HU.out, if_neg (by simp), if_neg (by rw [hok]; decide)]
      clear HU
      go_wp2_with fail
      refine HP.out.mono ?_
      rintro e w3 ⟨v, rfl, hsl, hb⟩
      have HB3 := Lib.hid (HB2.out.trans (hb.mono HB2.out.size))
      obtain ⟨A, c, rfl, h2⟩ := hsl
      rw [hok, show SErr false = .iface 95 (.int .i64 70) from rfl]
      clear hb h2 hok
      go_wp2
      go_ret2
      exact ⟨_, _, rfl, SliceN.nil _, HB3.out⟩
  · obtain rfl : R = ([], 54) := by rw [HU.out, if_pos h0]
    obtain rfl : no = 54 := hE.resolve_left h0
    rw [show errV 54 = .iface 95 (.int .i64 54) from rfl]
    clear HU HPS hE h0
    go_wp2
    go_ret2
    exact ⟨_, _, rfl, SliceN.nil _, HB2.out⟩
end Go.Proofs.YtjfgmgkhinehaaaGreatDoor
namespace Go.Proofs.YtjfgmgkhinehaaaGreatDoor
open Go Go.RowKit
def strsJ (l : List J) : List ByteArray := l.map J.s
def txts (l : List J) : Bool := l.all fun x => decide (x.kind = 3)
/-- Names, rising, that a list's texts are. -/
def namesL (l : List J) : Option (List ByteArray) := if txts l = true ∧ l.length ≠ 0 ∧ (setS (strsJ l)).length = l.length ∧ checkN (setS (strsJ l)) = true then some (setS (strsJ l)) else none
def namesM (j : J) (n : ByteArray) : Option (List ByteArray) := if (membM j n 4).2 = 0 then namesL (membM j n 4).1.l else none
theorem RepJ.items {W : World} {j : J} {y0 y1 : Int} {y2 : ByteArray} {yA : Option Addr} {yp yc : Nat} {yK : Option Addr} {yq yd : Nat} (h : RepJ W j (.agg #[.int .i64 y0, .int .i64 y1, .string y2, .slice yA yp yc, .slice yK yq yd])) : yp = j.l.length ∧ (j.l ≠ [] → ∃ b o, yA = some ⟨b, o, none⟩ ∧ b < W.heap.size ∧ RepC W b o j.l) := by
  obtain ⟨vk, A, c, e, -, -, -, hc⟩ := h.open
  injection e with e
  have e := congrArg Array.toList e
  simp only [List.cons.injEq, and_true, Value.slice.injEq] at e
  obtain ⟨-, -, -, ⟨e1, e2, -⟩, -⟩ := e
  subst e1; subst e2
  exact ⟨rfl, hc⟩
/-- An item's cells, by their forms. -/
theorem item_cells {W : World} {b o : Nat} {l : List J} (h : RepC W b o l) {k : Nat} (hk : k < l.length) : ∃ i0 i1 i2 iA ip ic iK iq id, i0 = l[k].kind ∧ i2 = l[k].s ∧ W.cell? ⟨b, o + k * 5, none⟩ = some (.int .i64 i0) ∧ W.cell? ⟨b, o + k * 5 + 1, none⟩ = some (.int .i64 i1) ∧ W.cell? ⟨b, o + k * 5 + 2, none⟩ = some (.string i2) ∧ W.cell? ⟨b, o + k * 5 + 3, none⟩ = some (.slice iA ip ic) ∧ W.cell? ⟨b, o + k * 5 + 4, none⟩ = some (.slice iK iq id) := by
  obtain ⟨v, hr, a0, a1, a2, a3, a4, rfl, c0, c1, c2, c3, c4⟩ := h.at k hk
  obtain ⟨i0, i1, i2, iA, ip, ic, iK, iq, id, e⟩ := hr.form
  injection e with e
  have e := congrArg Array.toList e
  simp only [List.cons.injEq, and_true] at e
  obtain ⟨rfl, rfl, rfl, rfl, rfl⟩ := e
  have hp := hr.parts
  exact ⟨i0, i1, i2, iA, ip, ic, iK, iq, id, hp.1, hp.2.2.1, c0, c1, c2, c3, c4⟩
theorem txts_at {l : List J} {k : Nat} (h : txts l = true) (hk : k < l.length) : l[k].kind = 3 := by
  unfold txts at h; rw [List.all_eq_true] at h
  exact of_decide_eq_true (h _ (List.getElem_mem hk))
theorem txts_take {l : List J} {k : Nat} (hk : k < l.length) : txts (l.take (k + 1)) = (txts (l.take k) && decide (l[k].kind = 3)) := by
  unfold txts; rw [List.take_succ_eq_append_getElem hk, List.all_append]; simp
theorem strs_take {l : List J} {k : Nat} (hk : k < l.length) : strsJ (l.take (k + 1)) = strsJ (l.take k) ++ [l[k].s] := by
  unfold strsJ; rw [List.take_succ_eq_append_getElem hk, List.map_append]; rfl
theorem len_strs (l : List J) : (strsJ l).length = l.length := by unfold strsJ; rw [List.length_map]
def NamesTells (W : World) (r : Option (List ByteArray)) (e : Ending) (w' : World) : Prop :=
  ∃ A c, e = .returned (.tuple #[.slice A (r.getD []).length c, errV (if r.isSome = true then 0 else 54)]) ∧ SliceN w' (.slice A (r.getD []).length c) (r.getD []) ∧ Below W.heap.size W w'
set_option maxRecDepth 100000 in
set_option maxHeartbeats 8000000 in
theorem namesC_any (j : J) (va : Value) (name : ByteArray) (W : World) (ha : RepJ W j va) (hsm : ∀ x ∈ j.l, Sm x) (hln : (membM j name 4).1.l.length ≤ 1000000) (hz : ∀ x ∈ (membM j name 4).1.l, x.s.size ≤ 1000000000) :
    Calls Tryz.prog 38 #[va, .string name] W (NamesTells W (namesM j name)) := by
  obtain ⟨y0, y1, y2, yA, yp, yc, yK, yq, yd, rfl⟩ := ha.form
  have hB1 := belowAlloc W (.cells #[.int .i64 y0, .int .i64 y1, .string y2, .slice yA yp yc, .slice yK yq yd] 27)
  have HM := Lib.hid (member_any j _ name 4 _ (RepJ.below hB1 _ _ ha) hsm)
  have HB1 := Lib.hid hB1
  have HR : Hid (namesM j name = if (membM j name 4).2 = 0 then namesL (membM j name 4).1.l else none) := Lib.hid rfl
  have hme : (membM j name 4).2 = 0 ∨ (membM j name 4).2 = 54 := by
    unfold membM membO; split
    · split
      · exact .inl rfl
      · exact .inr rfl
    · exact .inr rfl
  obtain ⟨R, hR⟩ : ∃ R, R = namesM j name := ⟨_, rfl⟩
  rw [← hR] at HR ⊢
  obtain ⟨mj, hmj⟩ : ∃ M, M = membM j name 4 := ⟨_, rfl⟩
  rw [← hmj] at HM HR hln hz hme
  obtain ⟨x, no⟩ := mj
  have HME := Lib.hid hme
  have HZ := Lib.hid hz
  have HLN := Lib.hid hln
  obtain ⟨iS, hS0, hS1, hS2, hS3⟩ := info_parts infoStrS
  clear ha hsm hB1 hR hmj hz hln hme
  go_enter Tryz.func38, Tryz.ntmps38
  go_wp2_with fail
  refine HM.out.mono ?_
  rintro e w2 ⟨x0, x1, x2, xA, xp, xc, xK, xq, xd, rfl, hrs, hb, -, -, -⟩
  have HB2 := Lib.hid (HB1.out.trans (hb.mono HB1.out.size))
  have HRJ := Lib.hid (RepS.toJ _ _ hrs)
  have HIT := Lib.hid HRJ.out.items
  clear hb hrs HM
  by_cases h0 : no = 0
  case neg =>
    obtain rfl : no = 54 := HME.out.resolve_left h0
    obtain rfl : R = none := HR.out.trans (if_neg (by decide))
    rw [show errV 54 = .iface 95 (.int .i64 54) from rfl]
    clear h0 HR HME
    go_wp2_with (first
      | (refine wpList_alloc_blk rfl (some 6) rfl _ rfl _ zeroJw ?_; intro g7 w3 hg7 hb7 hgr; have HB3 := Lib.hid (HB2.out.grown hgr HB2.out.size (by simp)); have HG3 := Lib.hid hgr; have HG7 := Lib.hid hg7; clear hgr hg7; try go_frame)
      | (refine wpList_store_blk rfl none rfl _ (.tmp 6) (.tmp 16) rfl g7 0 [.int .i64 x0, .int .i64 x1, .string x2, .slice xA xp xc, .slice xK xq xd] rfl rfl _ _ hb7 (by simp [zeros5]) sizeJson (by intro v hv; simp at hv; rcases hv with rfl | rfl | rfl | rfl | rfl <;> rfl) ?_; intro w4 hb8 hgr; rw [splice_all _ _ (by simp [zeros5])] at hb8; have HB8 := Lib.hid hb8; have HG4 := Lib.hid hgr; have HB4 := Lib.hid (HB3.out.grown hgr HB3.out.size (by intro k hk; injection hk with hk; have := HG7.out; have := HB2.out.size; omega)); obtain ⟨z0, z1, z2, z3, z4⟩ : w4.cell? ⟨g7, 0, none⟩ = some (.int .i64 x0) ∧ w4.cell? ⟨g7, 1, none⟩ = some (.int .i64 x1) ∧ w4.cell? ⟨g7, 2, none⟩ = some (.string x2) ∧ w4.cell? ⟨g7, 3, none⟩ = some (.slice xA xp xc) ∧ w4.cell? ⟨g7, 4, none⟩ = some (.slice xK xq xd) := ⟨hb8.cell 0, hb8.cell 1, hb8.cell 2, hb8.cell 3, hb8.cell 4⟩; clear hgr hb7 hb8; try go_frame))
    go_ret2
    exact ⟨_, _, rfl, SliceN.nil _, HB4.out⟩
  case pos =>
    subst h0
    rw [errV_zero]
    have HR2 : Hid (R = namesL x.l) := Lib.hid (HR.out.trans (if_pos rfl))
    clear HR HME
    obtain ⟨n, hn⟩ : ∃ n, n = x.l.length := ⟨_, rfl⟩
    have hpn : xp = n := by rw [hn]; exact HIT.out.1
    subst hpn
    have HN := Lib.hid hn
    have hn9 : xp ≤ 1000000 := by rw [hn]; exact HLN.out
    clear hn
    go_wp2_with (first
      | (refine wpList_alloc_blk rfl (some 6) rfl _ rfl _ zeroJw ?_; intro g7 w3 hg7 hb7 hgr; have HB3 := Lib.hid (HB2.out.grown hgr HB2.out.size (by simp)); have HG3 := Lib.hid hgr; have HG7 := Lib.hid hg7; clear hgr hg7; try go_frame)
      | (refine wpList_store_blk rfl none rfl _ (.tmp 6) (.tmp 16) rfl g7 0 [.int .i64 x0, .int .i64 x1, .string x2, .slice xA xp xc, .slice xK xq xd] rfl rfl _ _ hb7 (by simp [zeros5]) sizeJson (by intro v hv; simp at hv; rcases hv with rfl | rfl | rfl | rfl | rfl <;> rfl) ?_; intro w4 hb8 hgr; rw [splice_all _ _ (by simp [zeros5])] at hb8; have HB8 := Lib.hid hb8; have HG4 := Lib.hid hgr; have HB4 := Lib.hid (HB3.out.grown hgr HB3.out.size (by intro k hk; injection hk with hk; have := HG7.out; have := HB2.out.size; omega)); obtain ⟨z0, z1, z2, z3, z4⟩ : w4.cell? ⟨g7, 0, none⟩ = some (.int .i64 x0) ∧ w4.cell? ⟨g7, 1, none⟩ = some (.int .i64 x1) ∧ w4.cell? ⟨g7, 2, none⟩ = some (.string x2) ∧ w4.cell? ⟨g7, 3, none⟩ = some (.slice xA xp xc) ∧ w4.cell? ⟨g7, 4, none⟩ = some (.slice xK xq xd) := ⟨hb8.cell 0, hb8.cell 1, hb8.cell 2, hb8.cell 3, hb8.cell 4⟩; clear hgr hb7 hb8; try go_frame)
      | fail)
    have HRC : Hid (x.l ≠ [] → ∃ b o, xA = some ⟨b, o, none⟩ ∧ b < w4.heap.size ∧ RepC w4 b o x.l) := Lib.hid ((RepJ.below (mid_below (Below.refl _ _) HG3.out HG7.out HG4.out) _ _ HRJ.out).items.2)
    clear z0 z1 z2 z3 z4
    go_loopw [8, 24] (fun v i wr => ∃ k : Nat, k ≤ xp ∧ i = .int .i64 (k : Int) ∧ wr.ownsRow w4.heap.size 9 1 v k (strV (strsJ (x.l.take k))) ∧ txts (x.l.take k) = true ∧ Below w4.heap.size w4 wr) (fun _ i _ => xp - (intOf i).toNat)
    case atStart => exact ⟨0, Nat.zero_le _, rfl, World.ownsRow_nil _ _ _ _, rfl, Below.refl _ _⟩
    case round =>
      obtain ⟨k, hk, rfl, hown, htx, hbel⟩ := hrel
      have HOW := Lib.hid hown
      have HTX := Lib.hid htx
      have HBL := Lib.hid hbel
      clear hown htx hbel
      by_cases hlt : k < xp
      · have hkl : k < x.l.length := by rw [← HN.out]; exact hlt
        obtain ⟨b, o, rfl, hbl, hrc⟩ := HRC.out (by intro e; rw [e] at hkl; simp at hkl)
        obtain ⟨i0, i1, i2, iA, ip, ic, iK, iq, id, e0, e2, c0, c1, c2, c3, c4⟩ := item_cells hrc hkl
        have q0 := (HBL.out.cell (p := ⟨b, o + k * 5, none⟩) hbl).trans c0
        have q1 := (HBL.out.cell (p := ⟨b, o + k * 5 + 1, none⟩) hbl).trans c1
        have q2 := (HBL.out.cell (p := ⟨b, o + k * 5 + 2, none⟩) hbl).trans c2
        have q3 := (HBL.out.cell (p := ⟨b, o + k * 5 + 3, none⟩) hbl).trans c3
        have q4 := (HBL.out.cell (p := ⟨b, o + k * 5 + 4, none⟩) hbl).trans c4
        have hi0 : (0 : Int) ≤ (k : Int) := by omega
        have hi1 : (k : Int) < (xp : Int) := by omega
        have HTT := Lib.hid (txts_take hkl)
        have HST := Lib.hid (strs_take hkl)
        have HZK := Lib.hid (HZ.out _ (List.getElem_mem hkl))
        have HLA : Hid (i0 ≠ 3 → R = none) := Lib.hid (fun h => by
          rw [HR2.out]; unfold namesL
          exact if_neg (fun h2 => h (by rw [e0]; exact txts_at h2.1 hkl)))
        rw [← e0] at HTT
        rw [← e2] at HST HZK
        have HBE := Lib.hid (HB4.out.trans (HBL.out.mono HB4.out.size))
        clear e0 e2 c0 c1 c2 c3 c4 hkl hrc
        by_cases h3 : i0 = 3
        · have b3 : (i0 == 3) = true := by rw [beq_iff_eq]; exact h3
          have HTT2 : Hid (txts (x.l.take (k + 1)) = true) := Lib.hid (by rw [HTT.out, HTX.out, decide_eq_true h3]; rfl)
          have HTV : Hid (strV (strsJ (x.l.take (k + 1))) = strV (strsJ (x.l.take k)) ++ [.string i2]) := Lib.hid (by rw [HST.out, strV_append]; rfl)
          clear h3 HTT HST HLA
          go_wp2_with (first
            | (refine wpList_alloc_blk rfl (some 10) rfl _ rfl _ zeroJw ?_; intro g9 w6 hg9 hb9 hgr; have HBX := Lib.hid (HBE.out.grown hgr HBE.out.size (by simp)); have HG8 := Lib.hid hgr; have HG9 := Lib.hid hg9; clear hgr hg9; try go_frame)
            | (refine wpList_store_blk rfl none rfl _ (.tmp 10) (.tmp 27) rfl g9 0 [.int .i64 i0, .int .i64 i1, .string i2, .slice iA ip ic, .slice iK iq id] rfl rfl _ _ hb9 (by simp [zeros5]) sizeJson (by intro v hv; simp at hv; rcases hv with rfl | rfl | rfl | rfl | rfl <;> rfl) ?_; intro w5 hb10 hgr; rw [splice_all _ _ (by simp [zeros5])] at hb10; have HB10 := Lib.hid hb10; have HG10 := Lib.hid hgr; have HB5 := Lib.hid (HBX.out.grown hgr HBX.out.size (by intro k hk; injection hk with hk; have := HG9.out; have := HBE.out.size; omega)); have HBW5 := Lib.hid (mid_below (Below.refl _ _) HG8.out HG9.out HG10.out); have HO5 := Lib.hid (scOwn_below HOW.out HBW5.out); have HB45 := Lib.hid (HBL.out.trans (HBW5.out.mono HBL.out.size)); have hs5 := HB45.out.size; obtain ⟨t0, t1, t2, t3, t4⟩ : w5.cell? ⟨g9, 0, none⟩ = some (.int .i64 i0) ∧ w5.cell? ⟨g9, 1, none⟩ = some (.int .i64 i1) ∧ w5.cell? ⟨g9, 2, none⟩ = some (.string i2) ∧ w5.cell? ⟨g9, 3, none⟩ = some (.slice iA ip ic) ∧ w5.cell? ⟨g9, 4, none⟩ = some (.slice iK iq id) := ⟨hb10.cell 0, hb10.cell 1, hb10.cell 2, hb10.cell 3, hb10.cell 4⟩; clear hgr hb9 hb10; try go_frame)
            | (at_builtin; refine wpList_append_own _ rfl _ _ 22 rfl w4.heap.size 9 iS (.string ByteArray.empty) 1 16 Tryz.underlying22 hS0 hS1 hS2 hS3 rfl (by decide) _ k _ rfl (HO5.out.alloc _) ⟨w5.heap.size, 0, none⟩ 1 1 [.string i2] rfl rfl (cell_lit1 _ _ _) (by simp [Value.oneCell']) (by unfold maxLen; omega) (by omega) (by simp; omega) ?_; intro v' w7 hown7 hgrow7 hnil7))
          have HO7 := Lib.hid hown7
          have HB7 := Lib.hid ((HB45.out.alloc HB45.out.size (.cells #[.string i2] 9)).grown hgrow7 (by have := HB45.out.size; simp; omega) (fun i hi => (HO5.out.lt i hi).1))
          clear hown7 hgrow7 hnil7
          go_roundw
          case rel => exact ⟨k + 1, by omega, by go_num, by rw [HTV.out]; exact HO7.out, HTT2.out, HB7.out⟩
          case measure => simp [intOf]; omega
        · have b3 : (i0 == 3) = false := by rw [beq_eq_false_iff_ne]; exact h3
          obtain rfl : R = none := HLA.out h3
          clear h3 HTT HST HLA
          go_wp2_with (first
            | (refine wpList_alloc_blk rfl (some 10) rfl _ rfl _ zeroJw ?_; intro g9 w6 hg9 hb9 hgr; have HBX := Lib.hid (HBE.out.grown hgr HBE.out.size (by simp)); have HG8 := Lib.hid hgr; have HG9 := Lib.hid hg9; clear hgr hg9; try go_frame)
            | (refine wpList_store_blk rfl none rfl _ (.tmp 10) (.tmp 27) rfl g9 0 [.int .i64 i0, .int .i64 i1, .string i2, .slice iA ip ic, .slice iK iq id] rfl rfl _ _ hb9 (by simp [zeros5]) sizeJson (by intro v hv; simp at hv; rcases hv with rfl | rfl | rfl | rfl | rfl <;> rfl) ?_; intro w5 hb10 hgr; rw [splice_all _ _ (by simp [zeros5])] at hb10; have HB10 := Lib.hid hb10; have HG10 := Lib.hid hgr; have HB5 := Lib.hid (HBX.out.grown hgr HBX.out.size (by intro k hk; injection hk with hk; have := HG9.out; have := HBE.out.size; omega)); obtain ⟨t0, t1, t2, t3, t4⟩ : w5.cell? ⟨g9, 0, none⟩ = some (.int .i64 i0) ∧ w5.cell? ⟨g9, 1, none⟩ = some (.int .i64 i1) ∧ w5.cell? ⟨g9, 2, none⟩ = some (.string i2) ∧ w5.cell? ⟨g9, 3, none⟩ = some (.slice iA ip ic) ∧ w5.cell? ⟨g9, 4, none⟩ = some (.slice iK iq id) := ⟨hb10.cell 0, hb10.cell 1, hb10.cell 2, hb10.cell 3, hb10.cell 4⟩; clear hgr hb9 hb10; try go_frame))
          go_ret2
          exact ⟨_, _, rfl, SliceN.nil _, HB5.out⟩
      · obtain rfl : k = xp := by omega
        have hi1 : ¬ (k : Int) < (k : Int) := by omega
        have HTK : Hid (x.l.take k = x.l) := Lib.hid (by rw [HN.out, List.take_length])
        have hsl := SliceN.own HOW.out (fun t ht => by
          rw [HTK.out] at ht
          unfold strsJ at ht
          obtain ⟨y, hy, rfl⟩ := List.mem_map.1 ht
          exact HZ.out y hy)
        rw [HTK.out] at hsl
        have htx := HTX.out
        rw [HTK.out] at htx
        have HTX2 := Lib.hid htx
        obtain ⟨A8, c8, rfl, h8⟩ := hsl
        obtain ⟨T, hT⟩ : ∃ T, T = strsJ x.l := ⟨_, rfl⟩
        have hTl : T.length = k := by rw [hT, len_strs]; exact HN.out.symm
        rw [← hT] at h8 ⊢
        have HSL : Hid (SliceN wr (.slice A8 k c8) T) := Lib.hid (by rw [← hTl]; exact ⟨A8, c8, rfl, h8⟩)
        rw [hTl]
        have HALL := Lib.hid (scAll_any _ _ T [] wr HSL.out (SliceN.nil wr) (by rw [hTl]; simp; omega))
        have HR3 : Hid (R = if k ≠ 0 ∧ (setS T).length = k ∧ checkN (setS T) = true then some (setS T) else none) := Lib.hid (by
          rw [HR2.out]; unfold namesL
          rw [← hT, ← HN.out]
          by_cases hc : k ≠ 0 ∧ (setS T).length = k ∧ checkN (setS T) = true
          · rw [if_pos ⟨htx, hc⟩, if_pos hc]
          · rw [if_neg (fun h => hc h.2), if_neg hc])
        have hle : (setS T).length ≤ k := by have := length_setS_le T []; rw [hTl] at this; simpa [setS] using this
        have HBE := Lib.hid (HB4.out.trans (HBL.out.mono HB4.out.size))
        clear h8 hT hTl htx HTX HTK HOW HR2
        go_wp2_with fail
        refine HALL.out.mono ?_
        rintro e w7 ⟨v, rfl, hs, hb⟩
        rw [List.append_nil] at hs
        obtain ⟨S, hS⟩ : ∃ S, S = setS T := ⟨_, rfl⟩
        rw [← hS] at hs hle HR3
        obtain ⟨A9, c9, rfl, h9⟩ := hs
        have HB7 := Lib.hid (HBE.out.trans (hb.mono HBE.out.size))
        have HS9 : Hid (SliceN w7 (.slice A9 S.length c9) S) := Lib.hid ⟨A9, c9, rfl, h9⟩
        have HCK := Lib.hid (checkP_any _ S w7 HS9.out (by omega))
        obtain ⟨ck, hck⟩ : ∃ b, b = checkN S := ⟨_, rfl⟩
        rw [← hck] at HR3 HCK
        obtain ⟨m, hm⟩ : ∃ m, m = S.length := ⟨_, rfl⟩
        have HMS := Lib.hid hm
        rw [← hm] at hle HR3 HCK ⊢
        clear h9 hS hb hck hm HALL HSL
        by_cases m0 : m = 0
        · have d0 : ((m : Int) == 0) = true := by rw [beq_iff_eq]; omega
          obtain rfl : R = none := by rw [HR3.out]; exact if_neg (fun h => h.1 (by have := h.2.1; omega))
          clear HR3 hle
          go_wp2
          go_ret2
          exact ⟨_, _, rfl, SliceN.nil _, HB7.out⟩
        · have d0 : ((m : Int) == 0) = false := by rw [beq_eq_false_iff_ne]; omega
          by_cases mk : m < k
          · have d1 : decide ((m : Int) < (k : Int)) = true := decide_eq_true (by omega)
            have d2 : (m : Int) < (k : Int) := by omega
            obtain rfl : R = none := by rw [HR3.out]; exact if_neg (fun h => by have := h.2.1; omega)
            clear HR3 hle m0
            go_wp2
            go_ret2
            exact ⟨_, _, rfl, SliceN.nil _, HB7.out⟩
          · have d1 : decide ((m : Int) < (k : Int)) = false := decide_eq_false (by omega)
            have d2 : ¬ (m : Int) < (k : Int) := by omega
            cases ck with
            | false =>
              obtain rfl : R = none := by rw [HR3.out]; exact if_neg (fun h => by have := h.2.2; cases this)
              clear HR3 hle m0 mk
              go_wp2_with (go_at_call 58; (with_reducible refine HCK.out.mono ?_); rintro e w' ⟨rfl, rfl⟩; rw [show SErr false = .iface 95 (.int .i64 70) from rfl])
              go_ret2
              exact ⟨_, _, rfl, SliceN.nil _, HB7.out⟩
            | true =>
              obtain rfl : R = some S := by rw [HR3.out]; exact if_pos ⟨by omega, by omega, rfl⟩
              clear HR3 hle m0 mk
              go_wp2_with (go_at_call 58; (with_reducible refine HCK.out.mono ?_); rintro e w' ⟨rfl, rfl⟩; rw [show SErr true = .nilIface from rfl])
              go_ret2
              exact ⟨A9, c9, by rw [HMS.out]; rfl, HS9.out, HB7.out⟩
end Go.Proofs.YtjfgmgkhinehaaaGreatDoor
namespace Go.Proofs.YtjfgmgkhinehaaaGreatDoor
open Go Go.RowKit
theorem chkG_of : ∀ (l : List ByteArray) (p : Option ByteArray), RiseS l → (∀ x ∈ l, nameB (strL x) = true) → (∀ q, p = some q → ∀ x ∈ l, ltS q x = true) → chkG p l = true
  | [], _, _, _, _ => rfl
  | x :: r, p, hr, hn, hp => by
    obtain ⟨h1, h2⟩ := rise_cons.1 hr
    have hx := hn x List.mem_cons_self
    have hrr := chkG_of r (some x) h2 (fun y hy => hn y (List.mem_cons_of_mem _ hy)) (fun q hq y hy => by injection hq with hq; rw [← hq]; exact h1 y hy)
    unfold chkG
    rw [hx, hrr]
    cases p with
    | none => rfl
    | some q =>
      have hq := hp q rfl x List.mem_cons_self
      show (true && ltS q x && true) = true
      rw [hq]; rfl
theorem checkN_of {l : List ByteArray} (hr : RiseS l) (hl : l.length ≤ 16) (hn : ∀ x ∈ l, nameB (strL x) = true) : checkN l = true := by
  unfold checkN
  rw [decide_eq_true hl, chkG_of l none hr hn (fun q hq => by cases hq)]; rfl
theorem checkN_names {l : List ByteArray} (h : checkN l = true) : l.length ≤ 16 ∧ ∀ x ∈ l, nameB (strL x) = true := by
  unfold checkN at h
  rw [Bool.and_eq_true, decide_eq_true_eq] at h
  exact ⟨h.1, (chkG_rise l none h.2).2.2⟩
theorem setS_len_take {T : List ByteArray} {k : Nat} : (setS T).length ≤ (setS (T.take k)).length + (T.length - k) := by
  have h : setS T = (T.drop k).foldl putS (setS (T.take k)) := by
    unfold setS
    rw [← List.foldl_append, List.take_append_drop]
  rw [h]
  have := length_setS_le (T.drop k) (setS (T.take k))
  rwa [List.length_drop] at this
/-- Why a list is none of names: an item. -/
theorem namesL_bad {l : List J} {k : Nat} (hk : k < l.length) (h : l[k].kind ≠ 3 ∨ nameB (strL l[k].s) = false ∨ ((setS (strsJ (l.take k))).length ≤ k ∧ hasN (setS (strsJ (l.take k))) l[k].s = true)) : namesL l = none := by
  unfold namesL
  refine if_neg ?_
  rintro ⟨h1, h2, h3, h4⟩
  rcases h with h | h | ⟨hl, h⟩
  · exact h (txts_at h1 hk)
  · have := (checkN_names h4).2 l[k].s (mem_setS.2 (List.mem_map.2 ⟨l[k], List.getElem_mem hk, rfl⟩))
    rw [h] at this; cases this
  · have h5 := setS_len_take (T := strsJ l) (k := k + 1)
    have h6 : (strsJ l).take (k + 1) = strsJ (l.take (k + 1)) := by unfold strsJ; rw [List.map_take]
    rw [h6, strs_take hk, setS_snoc, length_putS, if_pos h, len_strs, h3] at h5
    omega
theorem namesL_long {l : List J} (h : 16 < l.length) : namesL l = none := by
  unfold namesL
  refine if_neg ?_
  rintro ⟨-, -, h3, h4⟩
  have := (checkN_names h4).1
  omega
theorem namesL_none {l : List J} (h : l.length = 0) : namesL l = none := by
  unfold namesL
  exact if_neg (fun h2 => h2.2.1 h)
theorem namesL_all {l : List J} (h0 : l.length ≠ 0) (h16 : l.length ≤ 16) (h1 : txts l = true) (h2 : (setS (strsJ l)).length = l.length) (h3 : ∀ t ∈ strsJ l, nameB (strL t) = true) : namesL l = some (setS (strsJ l)) := by
  unfold namesL
  exact if_pos ⟨h1, h0, h2, checkN_of (rise_setS _) (by omega) (fun x hx => h3 x (mem_setS.1 hx))⟩
def RefNTells (W : World) (r : Option (List ByteArray)) (e : Ending) (w' : World) : Prop :=
  ∃ A c, e = .returned (.tuple #[.slice A (r.getD []).length c, .bool r.isSome]) ∧ SliceN w' (.slice A (r.getD []).length c) (r.getD []) ∧ Below W.heap.size W w'
set_option maxRecDepth 100000 in
set_option maxHeartbeats 8000000 in
theorem refNamesC_any (j : J) (va : Value) (name : ByteArray) (W : World) (ha : RepJ W j va) (hnm : name.size ≤ 9223372036854775807) (hln : (membM j name 4).1.l.length ≤ 1000000) (hz : ∀ x ∈ (membM j name 4).1.l, x.s.size ≤ 1000000000) :
    Calls Tryz.prog 39 #[va, .string name] W (RefNTells W (namesM j name)) := by
  obtain ⟨y0, y1, y2, yA, yp, yc, yK, yq, yd, rfl⟩ := ha.form
  have hB1 := belowAlloc W (.cells #[.int .i64 y0, .int .i64 y1, .string y2, .slice yA yp yc, .slice yK yq yd] 27)
  have HG := Lib.hid (refGet_any j _ name _ (RepJ.below hB1 _ _ ha) hnm)
  have HB1 := Lib.hid hB1
  obtain ⟨g, hg⟩ : ∃ g, g = getJ j name := ⟨_, rfl⟩
  have HR : Hid (namesM j name = if (membO g 4).2 = 0 then namesL (membO g 4).1.l else none) := Lib.hid (by rw [hg]; rfl)
  have hmm : membM j name 4 = membO g 4 := by rw [hg]; rfl
  rw [hmm] at hln hz
  rw [← hg] at HG
  obtain ⟨R, hR⟩ : ∃ R, R = namesM j name := ⟨_, rfl⟩
  rw [← hR] at HR ⊢
  have HZ := Lib.hid hz
  have HLN := Lib.hid hln
  clear hg hR hB1 ha hnm hln hz hmm
  go_enter Tryz.func39, Tryz.ntmps39
  go_wp2_with fail
  refine HG.out.mono ?_
  rintro e w2 ⟨v, rfl, hrep, hb⟩
  obtain ⟨x0, x1, x2, xA, xp, xc, xK, xq, xd, rfl⟩ := hrep.form
  have HB2 := Lib.hid (HB1.out.trans (hb.mono HB1.out.size))
  have HRJ := Lib.hid hrep
  clear hrep hb HG
  cases hgc : g with
  | none =>
    rw [hgc] at HR
    obtain rfl : R = none := HR.out.trans (if_neg (by decide))
    clear HR hgc HZ HLN
    go_wp2_with (first
      | (refine wpList_alloc_blk rfl (some 6) rfl _ rfl _ zeroJw ?_; intro g7 w3 hg7 hb7 hgr; have HB3 := Lib.hid (HB2.out.grown hgr HB2.out.size (by simp)); have HG3 := Lib.hid hgr; have HG7 := Lib.hid hg7; clear hgr hg7; try go_frame)
      | (refine wpList_store_blk rfl none rfl _ (.tmp 6) (.tmp 14) rfl g7 0 [.int .i64 x0, .int .i64 x1, .string x2, .slice xA xp xc, .slice xK xq xd] rfl rfl _ _ hb7 (by simp [zeros5]) sizeJson (by intro v hv; simp at hv; rcases hv with rfl | rfl | rfl | rfl | rfl <;> rfl) ?_; intro w4 hb8 hgr; rw [splice_all _ _ (by simp [zeros5])] at hb8; have HB8 := Lib.hid hb8; have HG4 := Lib.hid hgr; have HB4 := Lib.hid (HB3.out.grown hgr HB3.out.size (by intro k hk; injection hk with hk; have := HG7.out; have := HB2.out.size; omega)); obtain ⟨z0, z1, z2, z3, z4⟩ : w4.cell? ⟨g7, 0, none⟩ = some (.int .i64 x0) ∧ w4.cell? ⟨g7, 1, none⟩ = some (.int .i64 x1) ∧ w4.cell? ⟨g7, 2, none⟩ = some (.string x2) ∧ w4.cell? ⟨g7, 3, none⟩ = some (.slice xA xp xc) ∧ w4.cell? ⟨g7, 4, none⟩ = some (.slice xK xq xd) := ⟨hb8.cell 0, hb8.cell 1, hb8.cell 2, hb8.cell 3, hb8.cell 4⟩; clear hgr hb7 hb8; try go_frame))
    go_ret2
    exact ⟨_, _, rfl, SliceN.nil _, HB4.out⟩
  | some x =>
    rw [hgc] at HR HRJ HZ HLN
    have hk0 : x0 = x.kind := HRJ.out.parts.1
    by_cases hkd : x0 = 4
    case neg =>
      obtain rfl : R = none := by rw [HR.out, show membO (some x) 4 = (zeroJ, 54) from if_neg (by rw [← hk0]; exact hkd)]; rfl
      have hk1 : (x0 == 4) = false := by rw [beq_eq_false_iff_ne]; exact hkd
      clear HR hgc hk0 HZ HLN
      go_wp2_with (first
        | (refine wpList_alloc_blk rfl (some 6) rfl _ rfl _ zeroJw ?_; intro g7 w3 hg7 hb7 hgr; have HB3 := Lib.hid (HB2.out.grown hgr HB2.out.size (by simp)); have HG3 := Lib.hid hgr; have HG7 := Lib.hid hg7; clear hgr hg7; try go_frame)
        | (refine wpList_store_blk rfl none rfl _ (.tmp 6) (.tmp 14) rfl g7 0 [.int .i64 x0, .int .i64 x1, .string x2, .slice xA xp xc, .slice xK xq xd] rfl rfl _ _ hb7 (by simp [zeros5]) sizeJson (by intro v hv; simp at hv; rcases hv with rfl | rfl | rfl | rfl | rfl <;> rfl) ?_; intro w4 hb8 hgr; rw [splice_all _ _ (by simp [zeros5])] at hb8; have HB8 := Lib.hid hb8; have HG4 := Lib.hid hgr; have HB4 := Lib.hid (HB3.out.grown hgr HB3.out.size (by intro k hk; injection hk with hk; have := HG7.out; have := HB2.out.size; omega)); obtain ⟨z0, z1, z2, z3, z4⟩ : w4.cell? ⟨g7, 0, none⟩ = some (.int .i64 x0) ∧ w4.cell? ⟨g7, 1, none⟩ = some (.int .i64 x1) ∧ w4.cell? ⟨g7, 2, none⟩ = some (.string x2) ∧ w4.cell? ⟨g7, 3, none⟩ = some (.slice xA xp xc) ∧ w4.cell? ⟨g7, 4, none⟩ = some (.slice xK xq xd) := ⟨hb8.cell 0, hb8.cell 1, hb8.cell 2, hb8.cell 3, hb8.cell 4⟩; clear hgr hb7 hb8; try go_frame))
      go_ret2
      exact ⟨_, _, rfl, SliceN.nil _, HB4.out⟩
    case pos =>
      have hmx : membO (some x) 4 = (x, 0) := if_pos (by rw [← hk0]; exact hkd)
      rw [hmx] at HR HZ HLN
      have HR2 : Hid (R = namesL x.l) := Lib.hid (HR.out.trans (if_pos rfl))
      obtain ⟨n, hn⟩ : ∃ n, n = x.l.length := ⟨_, rfl⟩
      have hpn : xp = n := by rw [hn]; exact HRJ.out.items.1
      subst hpn
      have HN := Lib.hid hn
      have hn9 : xp ≤ 1000000 := by rw [hn]; exact HLN.out
      clear HR hgc hk0 hmx hn
      subst hkd
      by_cases n0 : xp = 0
      · obtain rfl : R = none := by rw [HR2.out]; exact namesL_none (by rw [← HN.out]; exact n0)
        subst n0
        clear HR2
        go_wp2_with (first
          | (refine wpList_alloc_blk rfl (some 6) rfl _ rfl _ zeroJw ?_; intro g7 w3 hg7 hb7 hgr; have HB3 := Lib.hid (HB2.out.grown hgr HB2.out.size (by simp)); have HG3 := Lib.hid hgr; have HG7 := Lib.hid hg7; clear hgr hg7; try go_frame)
          | (refine wpList_store_blk rfl none rfl _ (.tmp 6) (.tmp 14) rfl g7 0 [.int .i64 4, .int .i64 x1, .string x2, .slice xA 0 xc, .slice xK xq xd] rfl rfl _ _ hb7 (by simp [zeros5]) sizeJson (by intro v hv; simp at hv; rcases hv with rfl | rfl | rfl | rfl | rfl <;> rfl) ?_; intro w4 hb8 hgr; rw [splice_all _ _ (by simp [zeros5])] at hb8; have HB8 := Lib.hid hb8; have HG4 := Lib.hid hgr; have HB4 := Lib.hid (HB3.out.grown hgr HB3.out.size (by intro k hk; injection hk with hk; have := HG7.out; have := HB2.out.size; omega)); obtain ⟨z0, z1, z2, z3, z4⟩ : w4.cell? ⟨g7, 0, none⟩ = some (.int .i64 4) ∧ w4.cell? ⟨g7, 1, none⟩ = some (.int .i64 x1) ∧ w4.cell? ⟨g7, 2, none⟩ = some (.string x2) ∧ w4.cell? ⟨g7, 3, none⟩ = some (.slice xA 0 xc) ∧ w4.cell? ⟨g7, 4, none⟩ = some (.slice xK xq xd) := ⟨hb8.cell 0, hb8.cell 1, hb8.cell 2, hb8.cell 3, hb8.cell 4⟩; clear hgr hb7 hb8; try go_frame))
        go_ret2
        exact ⟨_, _, rfl, SliceN.nil _, HB4.out⟩
      · have d0 : ((xp : Int) == 0) = false := by rw [beq_eq_false_iff_ne]; omega
        have d00 : ¬ (xp : Int) = 0 := by omega
        by_cases n16 : 16 < xp
        · obtain rfl : R = none := by rw [HR2.out]; exact namesL_long (by rw [← HN.out]; exact n16)
          have d1 : decide ((16 : Int) < (xp : Int)) = true := decide_eq_true (by omega)
          have d2 : (16 : Int) < (xp : Int) := by omega
          clear HR2 n0 n16
          go_wp2_with (first
            | (refine wpList_alloc_blk rfl (some 6) rfl _ rfl _ zeroJw ?_; intro g7 w3 hg7 hb7 hgr; have HB3 := Lib.hid (HB2.out.grown hgr HB2.out.size (by simp)); have HG3 := Lib.hid hgr; have HG7 := Lib.hid hg7; clear hgr hg7; try go_frame)
            | (refine wpList_store_blk rfl none rfl _ (.tmp 6) (.tmp 14) rfl g7 0 [.int .i64 4, .int .i64 x1, .string x2, .slice xA xp xc, .slice xK xq xd] rfl rfl _ _ hb7 (by simp [zeros5]) sizeJson (by intro v hv; simp at hv; rcases hv with rfl | rfl | rfl | rfl | rfl <;> rfl) ?_; intro w4 hb8 hgr; rw [splice_all _ _ (by simp [zeros5])] at hb8; have HB8 := Lib.hid hb8; have HG4 := Lib.hid hgr; have HB4 := Lib.hid (HB3.out.grown hgr HB3.out.size (by intro k hk; injection hk with hk; have := HG7.out; have := HB2.out.size; omega)); obtain ⟨z0, z1, z2, z3, z4⟩ : w4.cell? ⟨g7, 0, none⟩ = some (.int .i64 4) ∧ w4.cell? ⟨g7, 1, none⟩ = some (.int .i64 x1) ∧ w4.cell? ⟨g7, 2, none⟩ = some (.string x2) ∧ w4.cell? ⟨g7, 3, none⟩ = some (.slice xA xp xc) ∧ w4.cell? ⟨g7, 4, none⟩ = some (.slice xK xq xd) := ⟨hb8.cell 0, hb8.cell 1, hb8.cell 2, hb8.cell 3, hb8.cell 4⟩; clear hgr hb7 hb8; try go_frame))
          go_ret2
          exact ⟨_, _, rfl, SliceN.nil _, HB4.out⟩
        · have d1 : decide ((16 : Int) < (xp : Int)) = false := decide_eq_false (by omega)
          have d2 : ¬ (16 : Int) < (xp : Int) := by omega
          have HN16 : Hid (xp ≠ 0 ∧ xp ≤ 16) := Lib.hid ⟨n0, by omega⟩
          clear n0 n16
          go_wp2_with (first
            | (refine wpList_alloc_blk rfl (some 6) rfl _ rfl _ zeroJw ?_; intro g7 w3 hg7 hb7 hgr; have HB3 := Lib.hid (HB2.out.grown hgr HB2.out.size (by simp)); have HG3 := Lib.hid hgr; have HG7 := Lib.hid hg7; clear hgr hg7; try go_frame)
            | (refine wpList_store_blk rfl none rfl _ (.tmp 6) (.tmp 14) rfl g7 0 [.int .i64 4, .int .i64 x1, .string x2, .slice xA xp xc, .slice xK xq xd] rfl rfl _ _ hb7 (by simp [zeros5]) sizeJson (by intro v hv; simp at hv; rcases hv with rfl | rfl | rfl | rfl | rfl <;> rfl) ?_; intro w4 hb8 hgr; rw [splice_all _ _ (by simp [zeros5])] at hb8; have HB8 := Lib.hid hb8; have HG4 := Lib.hid hgr; have HB4 := Lib.hid (HB3.out.grown hgr HB3.out.size (by intro k hk; injection hk with hk; have := HG7.out; have := HB2.out.size; omega)); obtain ⟨z0, z1, z2, z3, z4⟩ : w4.cell? ⟨g7, 0, none⟩ = some (.int .i64 4) ∧ w4.cell? ⟨g7, 1, none⟩ = some (.int .i64 x1) ∧ w4.cell? ⟨g7, 2, none⟩ = some (.string x2) ∧ w4.cell? ⟨g7, 3, none⟩ = some (.slice xA xp xc) ∧ w4.cell? ⟨g7, 4, none⟩ = some (.slice xK xq xd) := ⟨hb8.cell 0, hb8.cell 1, hb8.cell 2, hb8.cell 3, hb8.cell 4⟩; clear hgr hb7 hb8; try go_frame)
            | fail)
          have HRC : Hid (x.l ≠ [] → ∃ b o, xA = some ⟨b, o, none⟩ ∧ b < w4.heap.size ∧ RepC w4 b o x.l) := Lib.hid ((RepJ.below (mid_below (Below.refl _ _) HG3.out HG7.out HG4.out) _ _ HRJ.out).items.2)
          have HZ3 := Lib.hid z3
          clear z0 z1 z2 z3 z4 d1 d2
          go_loopw [8, 9] (fun v i wr => ∃ k : Nat, k ≤ xp ∧ i = .int .i64 (k : Int) ∧ SliceN wr v (setS (strsJ (x.l.take k))) ∧ (setS (strsJ (x.l.take k))).length = k ∧ txts (x.l.take k) = true ∧ (∀ t ∈ strsJ (x.l.take k), nameB (strL t) = true) ∧ Below w4.heap.size w4 wr) (fun _ i _ => xp - (intOf i).toNat)
          case atStart => exact ⟨0, Nat.zero_le _, rfl, SliceN.nil _, rfl, rfl, by simp [strsJ], Below.refl _ _⟩
          case round =>
            obtain ⟨k, hk, rfl, hsl, hlk, htx, hnm, hbel⟩ := hrel
            have HSL := Lib.hid hsl
            have HLK := Lib.hid hlk
            have HTX := Lib.hid htx
            have HNM := Lib.hid hnm
            have HBL := Lib.hid hbel
            have q9 := (HBL.out.cell (lt_of_cell HZ3.out)).trans HZ3.out
            have HBE := Lib.hid (HB4.out.trans (HBL.out.mono HB4.out.size))
            obtain ⟨A8, c8, rfl, -⟩ := hsl
            rw [hlk] at HSL ⊢
            clear hlk htx hnm hbel
            by_cases hlt : k < xp
            · have hkl : k < x.l.length := by rw [← HN.out]; exact hlt
              obtain ⟨b, o, rfl, hbl, hrc⟩ := HRC.out (by intro e; rw [e] at hkl; simp at hkl)
              obtain ⟨i0, i1, i2, iA, ip, ic, iK, iq, id, e0, e2, c0, c1, c2, c3, c4⟩ := item_cells hrc hkl
              have q0 := (HBL.out.cell (p := ⟨b, o + k * 5, none⟩) hbl).trans c0
              have q2 := (HBL.out.cell (p := ⟨b, o + k * 5 + 2, none⟩) hbl).trans c2
              have hi0 : (0 : Int) ≤ (k : Int) := by omega
              have hi1 : (k : Int) < (xp : Int) := by omega
              have HBAD := Lib.hid (fun h => namesL_bad (l := x.l) (k := k) hkl h)
              have HTT := Lib.hid (txts_take hkl)
              have HST := Lib.hid (strs_take hkl)
              have HZK := Lib.hid (HZ.out _ (List.getElem_mem hkl))
              rw [← e0] at HTT HBAD
              rw [← e2] at HST HZK HBAD
              have HHAS := Lib.hid (refHas_any _ (setS (strsJ (x.l.take k))) i2 wr HSL.out (by rw [HLK.out]; omega))
              have HNMK := Lib.hid (fun W => refName_any i2 W)
              obtain ⟨nb, hnb⟩ : ∃ b, b = nameB (strL i2) := ⟨_, rfl⟩
              obtain ⟨hh, hhh⟩ : ∃ b, b = hasN (setS (strsJ (x.l.take k))) i2 := ⟨_, rfl⟩
              rw [← hnb] at HNMK HBAD
              rw [← hhh] at HHAS HBAD
              have HHH := Lib.hid hhh
              have HNB := Lib.hid hnb
              clear e0 e2 c0 c1 c2 c3 c4 hkl hrc hnb hhh
              by_cases h3 : i0 = 3
              case neg =>
                have b3 : (i0 == 3) = false := by rw [beq_eq_false_iff_ne]; exact h3
                obtain rfl : R = none := HR2.out.trans (HBAD.out (.inl h3))
                clear HBAD HTT HST HR2
                go_wp2
                go_ret2
                exact ⟨_, _, rfl, SliceN.nil _, HBE.out⟩
              case pos =>
                subst h3
                cases nb with
                | false =>
                  obtain rfl : R = none := HR2.out.trans (HBAD.out (.inr (.inl rfl)))
                  clear HBAD HTT HST HR2
                  go_wp2_with fail
                  (with_reducible refine (HNMK.out _).mono ?_)
                  rintro e w' ⟨rfl, rfl⟩
                  go_wp2
                  go_ret2
                  exact ⟨_, _, rfl, SliceN.nil _, HBE.out⟩
                | true =>
                  go_wp2_with fail
                  (with_reducible refine (HNMK.out _).mono ?_)
                  rintro e w' ⟨rfl, rfl⟩
                  go_wp2_with fail
                  refine HHAS.out.mono ?_
                  rintro e w' ⟨rfl, rfl⟩
                  cases hh with
                  | true =>
                    obtain rfl : R = none := HR2.out.trans (HBAD.out (.inr (.inr ⟨by rw [HLK.out]; exact Nat.le_refl _, rfl⟩)))
                    clear HBAD HTT HST HR2
                    go_wp2
                    go_ret2
                    exact ⟨_, _, rfl, SliceN.nil _, HBE.out⟩
                  | false =>
                    have HPUT := Lib.hid (scRefPut_any _ (setS (strsJ (x.l.take k))) i2 wr HSL.out (by rw [HLK.out]; omega) HZK.out)
                    have HSE : Hid (setS (strsJ (x.l.take (k + 1))) = putS (setS (strsJ (x.l.take k))) i2) := Lib.hid (by rw [HST.out, setS_snoc])
                    have HLE : Hid ((setS (strsJ (x.l.take (k + 1)))).length = k + 1) := Lib.hid (by rw [HSE.out, length_putS, ← HHH.out, HLK.out]; rfl)
                    have HTT2 : Hid (txts (x.l.take (k + 1)) = true) := Lib.hid (by rw [HTT.out, HTX.out]; simp)
                    have HNM2 : Hid (∀ t ∈ strsJ (x.l.take (k + 1)), nameB (strL t) = true) := Lib.hid (by
                      rw [HST.out]
                      intro t ht
                      rcases List.mem_append.1 ht with ht | ht
                      · exact HNM.out t ht
                      · rw [List.mem_singleton.1 ht]; exact HNB.out.symm)
                    clear HBAD HTT HST
                    go_wp2_with fail
                    refine HPUT.out.mono ?_
                    rintro e w7 ⟨v7, rfl, hs7, hb⟩
                    have HSL7 : Hid (SliceN w7 v7 (setS (strsJ (x.l.take (k + 1))))) := Lib.hid (by rw [HSE.out]; exact hs7)
                    have HBL7 := Lib.hid (HBL.out.trans (hb.mono HBL.out.size))
                    clear hs7 hb HPUT
                    go_wp2_with fail
                    go_roundw
                    case rel => exact ⟨k + 1, by omega, by go_num, HSL7.out, HLE.out, HTT2.out, HNM2.out, HBL7.out⟩
                    case measure => simp [intOf]; omega
            · obtain rfl : k = xp := by omega
              have hi1 : ¬ (k : Int) < (k : Int) := by omega
              have HTK : Hid (x.l.take k = x.l) := Lib.hid (by rw [HN.out, List.take_length])
              have HRN : Hid (R = some (setS (strsJ (x.l.take k)))) := Lib.hid (by
                have h1 := HTX.out; have h2 := HLK.out; have h3 := HNM.out
                rw [HTK.out] at h1 h2 h3 ⊢
                rw [HR2.out]
                exact namesL_all (by rw [← HN.out]; exact HN16.out.1) (by rw [← HN.out]; exact HN16.out.2) h1 (by rw [h2]; exact HN.out) h3)
              go_wp2
              go_ret2
              exact ⟨A8, c8, by rw [HRN.out]; show _ = Ending.returned (.tuple #[.slice A8 (setS (strsJ (x.l.take k))).length c8, .bool true]); rw [HLK.out]; rfl, by rw [HRN.out]; show SliceN _ (.slice A8 (setS (strsJ (x.l.take k))).length c8) _; rw [HLK.out]; exact HSL.out, HBE.out⟩
end Go.Proofs.YtjfgmgkhinehaaaGreatDoor
