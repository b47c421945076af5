/- UtfCheck: merged. -/
import Derived.Test.YtljdnjidphmkjaaDoorLx06
import Derived.Test.YtljdnjidphmkjaaDoorLx15
set_option linter.all false
namespace Go.Proofs.YtljdnjidphmkjaaDoor
open Go Go.RowKit Go.Shelf
attribute [local go_sem] Oper.semAt_some
/-- What Check tells of bytes that are none from a place on. -/
def CheckWrong (pos : Int) (w : World) (e : Ending) (w' : World) : Prop :=
  ∃ b, e = .returned (.iface 57 (.pointer (some ⟨b, 0, none⟩))) ∧ w'.cell? ⟨b, 0, none⟩ = some (.int .i64 pos) ∧ w'.cell? ⟨b, 0 + 1, none⟩ = some (.iface 43 (.int .i64 30)) ∧ w.heap.size ≤ b ∧ Below w.heap.size w w'
def CheckTells (xs : List Int) (w : World) (e : Ending) (w' : World) : Prop :=
  (badU xs = xs.length ∧ e = .returned .nilIface ∧ Below w.heap.size w w') ∨ (badU xs ≠ xs.length ∧ CheckWrong (badU xs : Int) w e w')
set_option maxRecDepth 100000 in
set_option maxHeartbeats 4000000 in
theorem check_any (A : Option Addr) (xs : List Int) (n c : Nat) (w : World) (hm : Marks w) (hn : xs.length = n) (hn2 : n ≤ 4611686018427387904) (hx : Bytes xs) (hl : Lies w A xs) :
    Calls Tryd.prog 33 #[.slice A n c] w (CheckTells xs w) := by
  have hcv : (convert 40 9 (.slice A n c)).run Tryd.prog (w.alloc (.cells #[.int .i64 0] 3)) = .ok (.string (toS xs)) (w.alloc (.cells #[.int .i64 0] 3)) := conv_str A xs n c _ hn (hl.below (belowAlloc _ _))
  have HSX : Hid (strL (toS xs) = xs) := Lib.hid (strL_toS hx)
  have hsz : (toS xs).size = n := by rw [size_toS, hn]
  obtain ⟨S, hS⟩ : ∃ S, S = toS xs := ⟨_, rfl⟩
  rw [← hS] at hcv HSX hsz
  have HSZ := Lib.hid hsz
  have HN := Lib.hid hn
  have HM := Lib.hid hm
  have hglt : 1 < w.heap.size := hm.lt
  clear hS hsz hn hl hx hm
  refine (callsIn_wide (n := 4)).1 ?_
  refine callsIn_of_wp_marks Tryd.func33 rfl trivial ?_ rfl
  simp only [Tryd.ntmps33, List.size_toArray, List.length_cons, List.length_nil, Nat.reduceAdd, Nat.reduceSub, Array.replicate_succ, Array.replicate_zero, List.push_toArray, List.append_toArray, List.nil_append, List.cons_append]
  gi_wp2_with (refine ⟨trivial, ?_⟩; gi_at_call 58; refine (callsIn_wide.2 (all_any S _)).mono ?_; rintro e w1 ⟨rfl, rfl⟩)
  have c0 := Boxed.new w 3 (.int .i64 0)
  have c1 := Boxed.new (w.alloc (.cells #[.int .i64 0] 3)) 9 (.string S)
  rw [World.size_alloc] at c1
  have hB0 : Below w.heap.size w ((w.alloc (.cells #[.int .i64 0] 3)).alloc (.cells #[.string S] 9)) := ((Below.refl _ w).alloc (Nat.le_refl _) _).alloc (by simp) _
  refine wpIn_rangeFunc_ownG rfl (by omega) (gf := 73) (lb := #[.pointer (some ⟨w.heap.size + 1, 0, none⟩)]) rfl trivial (enters_of Tryd.func73 (by kernel_rfl) rfl)
    (all1_stops (4 - 1) (by omega) (w.heap.size + 1) w.heap.size S _ (by simp; omega) hglt (HM.out.below hB0) c1.cell (by have := HSZ.out; omega)) KpS.trans (KpS.b (by simp; omega) (by simp)) (Below.refl _ _) (fun _ => rfl)
    (fun pre W => Boxed W w.heap.size 3 (.int .i64 (endOf pre : Int)) ∧ Below w.heap.size w W)
    (fun _ _ _ => False)
    (OwnFrom.and (Own.from (boxed_own _ _ _) _) (ownFrom_below (Nat.le_refl _) (by simp; omega)))
    (fun _ _ _ _ _ hs _ _ => hs)
    ⟨c0.alloc _, hB0⟩
    (fun x => { tmps := #[.slice A n c, undef, .nilIface, .pointer (some ⟨w.heap.size, 0, none⟩), .int .i64 (x.1 : Int), .int .i64 (nxL ((strL S).drop x.1)).1, .slice A n c, .string S, .func (.func 73) #[] #[.pointer (some ⟨w.heap.size + 1, 0, none⟩)], .int .i64 (x.1 : Int), .int .i64 (nxL ((strL S).drop x.1)).1, undef, undef, undef, undef, undef, undef, undef, undef, undef, undef, undef, undef, undef], defers := [] }) ?assign ?body ?done ?stop
  case assign =>
    intro l x W K hK
    gi_wp2
    exact hK
  case body =>
    rintro l pre x W ⟨hbx, hB⟩ _
    have hc := hbx.cell
    have hf := hbx.frozen
    have HBX := Lib.hid hbx
    have hfd := nx_found x.2.2
    have hnb := nxtP_bd x
    have HS := Lib.hid (fun W : World => sizeOf_is (nxL ((strL S).drop x.1)).1 _ hfd.2.1 W)
    have HX : Hid ((x.1 : Int) + ((nxL ((strL S).drop x.1)).2 : Int) = (nxtP x : Int)) := Lib.hid (by unfold nxtP; omega)
    have hxl : x.1 < n := by have := x.2.1; have := length_strL S; have := HSZ.out; omega
    have HB := Lib.hid hB
    obtain ⟨m, hm⟩ : ∃ m, m = (nxL ((strL S).drop x.1)).2 := ⟨_, rfl⟩
    have hm4 : m ≤ 4 := by rw [hm]; exact hfd.2.2.2.2.1
    rw [← hm] at HS HX
    clear hfd hnb hB hm hbx
    gi_wp2_with (refine ⟨trivial, ?_⟩; gi_at_call 59; refine (CallsIn.inRound l (callsIn_wide.2 (HS.out _))).mono ?_; rintro e w' ⟨rfl, rfl⟩)
    refine ⟨(KeepsOthers.setCell _ _ _).from _, ⟨(Below.refl w.heap.size W).setCell (p := ⟨w.heap.size, 0, none⟩) (Nat.le_refl _) _, heap_setCell_other W ⟨w.heap.size, 0, none⟩ _ _ (by simp)⟩, ?_, HB.out.setCell (p := ⟨w.heap.size, 0, none⟩) (Nat.le_refl _) _⟩
    rw [endOf_snoc, ← HX.out]
    exact HBX.out.set _
  case done =>
    rintro D ys W hD ⟨hch, hend⟩ ⟨hbx, hB⟩ hK
    have hc := hbx.cell
    rw [hend, HSX.out] at hc
    have HB := Lib.hid hB
    have HBX := Lib.hid hbx
    have HK := Lib.hid hK
    have hle := badU_le' xs
    rw [HN.out] at hle
    clear hB hbx hK hend
    by_cases hlt : badU xs < n
    · gi_wp2
      have hK' := (KeepsOthers.alloc W (.cells #[.int .i64 (badU xs : Int), .iface 43 (.int .i64 30)] 60)).same D _ HK.out rfl
      have hB' := HB.out.alloc HB.out.size (.cells #[.int .i64 (badU xs : Int), .iface 43 (.int .i64 30)] 60)
      refine ⟨by simp, .inl ⟨_, _, rfl, run_takeDeferred hK', ?_⟩⟩
      refine ⟨_, results_tmp rfl _ _ _, .inr ⟨by rw [HN.out]; omega, W.heap.size, rfl, ?_, ?_, HB.out.size, hB'.trans (belowK_b (w := w) (Nat.le_refl _) _ D _ _ (by simp at hD; omega) hK' rfl rfl)⟩⟩
      · exact cell_kept (by simp) (grownBy_putObj' _ D (.deferred none)) (fun r e => by cases e; exact ⟨_, hK', rfl⟩)
      · exact cell_kept (by simp) (grownBy_putObj' _ D (.deferred none)) (fun r e => by cases e; exact ⟨_, hK', rfl⟩)
    · gi_wp2
      refine ⟨by simp, .inl ⟨_, _, rfl, run_takeDeferred HK.out, ?_⟩⟩
      exact ⟨_, results_tmp rfl _ _ _, .inl ⟨by rw [HN.out]; omega, rfl, HB.out.trans (belowK_b (w := w) (Nat.le_refl _) W D _ _ (by simp at hD; omega) HK.out rfl rfl)⟩⟩
  case stop =>
    rintro D c pre W _ _ h _
    exact h.elim
end Go.Proofs.YtljdnjidphmkjaaDoor
