/- The program's Has, All, Both. -/
import Derived.Test.YtapalkipdmdceaaDoorScSet
namespace Go.Proofs.YtapalkipdmdceaaDoor
open Go Go.RowKit

theorem containsS_has (zs : List ByteArray) (x : ByteArray) : Lib.containsS zs x = hasN zs x := by
  rw [Bool.eq_iff_iff, Lib.containsS_iff, hasN_iff]
set_option maxRecDepth 100000 in
set_option maxHeartbeats 1000000 in
theorem hasP_any (v : Value) (ns : List ByteArray) (x : ByteArray) (w : World) (h : SliceN w v ns) (hn : ns.length ≤ 1000000000) :
    Calls Tryd.prog 19 #[v, .string x] w fun e w' => e = .returned (.bool (hasN ns x)) ∧ w' = w := by
  have key : Calls Tryd.prog 30 #[v, .string x] w fun e w' => e = .returned (.bool (hasN ns x)) ∧ w' = w := by
    obtain ⟨A, c, rfl, hc, hl, _⟩ := h
    by_cases h0 : ns = []
    · subst h0
      exact Tryd.slices_Contains_string_empty A c x w
    · obtain ⟨b, o, rfl, hlt, hcell⟩ := hl h0
      refine (Tryd.slices_Contains_string b o ns.length c ns x w (Nat.le_refl _) (by omega) (fun j hj => ?_)).mono ?_
      · rw [hcell j _ (List.getElem?_eq_getElem hj)]
        simp [List.getD, hj]
      · rintro e w' ⟨rfl, rfl⟩
        rw [List.take_length, containsS_has]
        exact ⟨rfl, rfl⟩
  have HK := Lib.hid key
  clear key h
  go_enter Tryd.func19, Tryd.ntmps19
  go_wp2_with (go_at_call 30; (with_reducible refine HK.out.mono ?_); rintro e w' ⟨rfl, rfl⟩)
  go_ret
  exact ⟨rfl, rfl⟩
theorem liesLs1 (w : World) (va : Value) (a : List ByteArray) (t : TypeId) (ha : SliceN w va a) : LiesLs (w.alloc (.cells #[va] t)) w.heap.size [(va, a)] := fun i v ns hi => by
  match i, hi with
  | 0, hi =>
    simp at hi
    obtain ⟨rfl, rfl⟩ := hi
    exact ⟨by simp, ha.below (belowAlloc _ _)⟩
theorem liesLs2 (w : World) (va vb : Value) (a b : List ByteArray) (t : TypeId) (ha : SliceN w va a) (hb : SliceN w vb b) : LiesLs (w.alloc (.cells #[va, vb] t)) w.heap.size [(va, a), (vb, b)] := fun i v ns hi => by
  match i, hi with
  | 0, hi =>
    simp at hi
    obtain ⟨rfl, rfl⟩ := hi
    exact ⟨by simp, ha.below (belowAlloc _ _)⟩
  | 1, hi =>
    simp at hi
    obtain ⟨rfl, rfl⟩ := hi
    exact ⟨by simp, hb.below (belowAlloc _ _)⟩
theorem staysAll (w : World) : StaysAsk 31 #[] (fun _ => true) w where
  enters := enters_of Tryd.func31 (by kernel_rfl) rfl
  call := fun W x _ _ => by
    show Calls Tryd.prog 31 #[.string x] W _
    go_enter Tryd.func31, Tryd.ntmps31
    go_wp2
    go_ret
    exact ⟨rfl, Below.refl _ _⟩
theorem staysIn (w : World) (vb mb : Nat) (ns : List ByteArray) (h : SetAt w vb mb ns) : StaysAsk 41 #[.pointer (some ⟨vb, 0, none⟩)] (hasN ns) w where
  enters := enters_of Tryd.func41 (by kernel_rfl) rfl
  call := fun W x hb hx => isIn_any vb mb ns x W (h.below hb) hx
set_option maxRecDepth 100000 in
set_option maxHeartbeats 1000000 in
theorem all_any (va vb : Value) (a b : List ByteArray) (w : World) (ha : SliceN w va a) (hb : SliceN w vb b) (hn : a.length + b.length ≤ 1000000000) :
    Calls Tryd.prog 20 #[va, vb] w fun e w' => ∃ v, e = .returned v ∧ SliceN w' v (setS (a ++ b)) ∧ Below w.heap.size w w' := by
  have HL := Lib.hid (liesLs2 w va vb a b 23 ha hb)
  have HS := Lib.hid (set_any 31 #[] (fun _ => true) w.heap.size 2 2 [(va, a), (vb, b)] (w.alloc (.cells #[va, vb] 23)) (staysAll _) (by simp) HL.out rfl (by omega) (by omega) (by simpa [flatN] using hn))
  obtain ⟨A1, c1, rfl, -⟩ := ha
  obtain ⟨A2, c2, rfl, -⟩ := hb
  go_enter Tryd.func20, Tryd.ntmps20
  go_wp2_with fail
  refine HS.out.mono ?_
  rintro e w1 ⟨v, rfl, hs, hb⟩
  have HSN := Lib.hid hs
  have HB := Lib.hid ((belowAlloc w _).trans (hb.mono (belowAlloc w _).size))
  clear hs hb
  go_wp2
  go_ret
  refine ⟨_, rfl, ?_, HB.out⟩
  have := HSN.out
  rwa [show ∀ u v : Value, (flatN [(u, a), (v, b)]).filter (fun _ => true) = a ++ b from fun u v => by
    show (a ++ (b ++ [])).filter _ = _
    rw [List.append_nil]
    exact List.filter_eq_self.2 (fun _ _ => rfl)] at this
set_option maxRecDepth 100000 in
set_option maxHeartbeats 1000000 in
theorem both_any (va vb : Value) (a b : List ByteArray) (w : World) (ha : SliceN w va a) (hb : SliceN w vb b) (hn : a.length ≤ 1000000000) (hn2 : b.length ≤ 1000000000) :
    Calls Tryd.prog 17 #[va, vb] w fun e w' => ∃ v, e = .returned v ∧ SliceN w' v (setS (a.filter (hasN b))) ∧ Below w.heap.size w w' := by
  have HA := Lib.hid ha
  have HM := Lib.hid (among_any vb b w hb hn2)
  obtain ⟨A1, c1, rfl, -⟩ := ha
  clear hb
  go_enter Tryd.func17, Tryd.ntmps17
  go_wp2_with fail
  refine HM.out.mono ?_
  rintro e w1 ⟨bx, mb, rfl, hvb, hset, hb1⟩
  have HL := Lib.hid (liesLs1 w1 _ a 23 (HA.out.below hb1))
  have HS := Lib.hid (set_any 41 #[.pointer (some ⟨bx, 0, none⟩)] (hasN b) w1.heap.size 1 1 [(.slice A1 a.length c1, a)] (w1.alloc (.cells #[.slice A1 a.length c1] 23)) (staysIn _ bx mb b (hset.below (belowAlloc _ _))) (by simp) HL.out rfl (by omega) (by omega) (by simpa [flatN] using hn))
  have HB1 := Lib.hid hb1
  clear hb1 hset
  go_wp2_with fail
  refine HS.out.mono ?_
  rintro e w2 ⟨v, rfl, hs, hb⟩
  have HSN := Lib.hid hs
  have HB := Lib.hid (HB1.out.trans (((belowAlloc w1 _).trans (hb.mono (belowAlloc w1 _).size)).mono HB1.out.size))
  clear hs hb
  go_wp2
  go_ret
  refine ⟨_, rfl, ?_, HB.out⟩
  have := HSN.out
  rwa [show ∀ u : Value, flatN [(u, a)] = a from fun u => by simp [flatN]] at this
end Go.Proofs.YtapalkipdmdceaaDoor
