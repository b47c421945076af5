/- Proved: for all int64 n, least, most the law DecBounds returns true: a number is read within bounds that it lies in, and else told to be beyond them. The condition: the package variable errorType of package errors holds at the call what the program's text lays (tied by the card). -/
import Derived.Test.YtkelioafnobolaaDoorErrRow
import Derived.Test.YtkelioafnobolaaDoorDecLaw2
import Derived.Test.YtkelioafnobolaaDoorTie
import Derived.Test.YtkelioafnobolaaDoorCards
import Derived.SevenTiedAt
namespace Go.Proofs.YtkelioafnobolaaDoor
open Go Go.RowKit
open Go.ChangeShapes Go.WideShapes Go.ChangeAt
open Go.ChangeMaps (open_string shut_string)

theorem i64_bd {n : Int} (h : (Lit.int .i64 n).wf = true) : -9223372036854775808 ≤ n ∧ n ≤ 9223372036854775807 := by
  unfold Lit.wf at h
  rw [Bool.and_eq_true] at h
  have h1 : IntKind.i64.min ≤ n := of_decide_eq_true h.1
  have h2 : n ≤ IntKind.i64.max := of_decide_eq_true h.2
  exact ⟨h1, h2⟩

theorem decBounds_witness (os : Os) {H : Type} (enc : TypeId × Value → H) :
    (OpenSpec.ofChange Rows.decBoundsSpec).preRow enc Tryd.prog Tryd.f6 Rows.decBoundsRow.domain false Rows.decBoundsRow.laid ((laidWorldE os).forCall (fun _ _ => 0) ⟨#[], #[.int .i64 0, .int .i64 0, .int .i64 0], []⟩).memory #[.int .i64 0, .int .i64 0, .int .i64 0] := by
  have hw : (DataW.whole enc Tryd.prog ((laidWorldE os).forCall (fun _ _ => 0) ⟨#[], #[.int .i64 0, .int .i64 0, .int .i64 0], []⟩).memory Tryd.f6.params.toList (OpenSpec.ofChange Rows.decBoundsSpec).vars false #[Value.int .i64 0, Value.int .i64 0, Value.int .i64 0].toList 8).map (fun x => (x.1, x.2.1)) =
      some ([.lit (.int .i64 0), .lit (.int .i64 0), .lit (.int .i64 0)], []) := by kernel_rfl
  obtain ⟨⟨x1, x2, x3⟩, hx, hx1⟩ := Option.map_eq_some_iff.1 hw
  simp only [Prod.mk.injEq] at hx1
  obtain ⟨rfl, rfl⟩ := hx1
  exact OpenSpec.preRow_of_cond 8 hx (by kernel_rfl) (fun k hk => by cases hk) (by kernel_rfl) (laidWorldE_met _ _)

set_option maxRecDepth 100000 in
set_option maxHeartbeats 1000000 in
theorem decBounds_lifted (os : Os) (started : os.Started) (H : Type) (enc : TypeId × Value → H) (F : Stop.Interp) :
    ReturnsInHanded {} Tryd.checked os 6 .any ((OpenSpec.ofChange Rows.decBoundsSpec).preRow enc Tryd.prog Tryd.f6 Rows.decBoundsRow.domain false Rows.decBoundsRow.laid)
      (((OpenSpec.ofChange Rows.decBoundsSpec).at F).post enc Tryd.prog Tryd.f6 false true false false) := by
  refine returnsInHanded_of_row (C := Tryd.checked) (s := OpenSpec.ofChange Rows.decBoundsSpec) ownKnobs started (by kernel_rfl) Tryd.func6
    (witness_row_at (enc := enc) (C := Tryd.checked) false (laidWorldE os) #[.int .i64 0, .int .i64 0, .int .i64 0] rfl (by kernel_rfl) (by kernel_rfl) (by kernel_rfl) (decBounds_witness os enc)) ?_
  intro W base args ds gs before hval0 hW _ _ _ hL _hsh _
  have hval : ∀ (j : Nat) t v, Tryd.f6.params[j]? = some t → args[j]? = some v → Value.okWide Tryd.prog W .any base t v := hval0
  have hW' := hW
  obtain ⟨p, q, hA0, hV0, rfl, _, _⟩ := hW
  have hA : DataW.TrodAll enc Tryd.prog W 0 (fun _ => true) true Tryd.f6.params.toList args.toList ds p := hA0
  rw [Tryd.params6] at hA hval
  obtain ⟨v0, v1, v2, d0, d1, d2, p0, p1, p2, rfl, rfl, rfl, h0, h1, h2⟩ := trodAll_three hA
  obtain ⟨rfl, rfl⟩ := trodVars_none hV0
  obtain ⟨s, rfl, rfl, rfl, ws⟩ := open_int Tryd.underlying2 (hval 0 2 v0 rfl rfl) h0
  obtain ⟨t, rfl, rfl, rfl, wt⟩ := open_int Tryd.underlying2 (hval 1 2 v1 rfl rfl) h1
  obtain ⟨u, rfl, rfl, rfl, wu⟩ := open_int Tryd.underlying2 (hval 2 2 v2 rfl rfl) h2
  clear hA0 hV0 hval0
  simp only [List.append_nil] at hW'
  refine (lawBounds_any s t u W (errTab_of hL) (i64_bd ws) (i64_bd wt) (i64_bd wu)).mono ?_
  rintro e W' ⟨rfl, bel⟩
  have e1 : ((OpenSpec.ofChange Rows.decBoundsSpec).at F).fn H ([.lit (.int .i64 s), .lit (.int .i64 t), .lit (.int .i64 u)] ++ []) = { results := [.lit (.bool true)], args := [.lit (.int .i64 s), .lit (.int .i64 t), .lit (.int .i64 u)] } := rfl
  refine ⟨_, rfl, _, _, _, [], [], [], hW', ?_, ?_, ?_, bel.frame _, fun h => by cases h⟩
  · rw [e1]; exact trodAll_mk1 (shut_bool Tryd.underlying4 _)
  · rw [e1]; exact trodAll_mk3 (shut_int Tryd.underlying2 ws) (shut_int Tryd.underlying2 wt) (shut_int Tryd.underlying2 wu)
  · rw [e1]; rfl

theorem decBounds_said : Rows.DecBoundsSaid :=
  OpenClaim.holds_of_cond 6 Tryd.f6 rfl rfl rfl rfl rfl rfl rfl ⟨rfl, rfl, rfl, rfl, rfl⟩ rfl rfl rfl rfl rfl (by kernel_rfl) Tryd.func6 (by kernel_rfl)
    (of_decide_eq_true (by kernel_rfl)) (by unfold Func.isWrapper; rw [if_neg (of_decide_eq_false (by kernel_rfl))]; exact ⟨rfl, rfl⟩)
    (fun os started H enc _ F0 => by rw [OpenClaim.pre_eq_preRow]; exact decBounds_lifted os started H enc F0)

theorem decBounds_card : Rows.DecBoundsCardSaid :=
  Claim7.holds_tied_plain_at .later [] [.handle] true (true, "64a08c9693aadbbd87676fbf3be1456bbc1c9e8454c5f2143a73253d16f169f7") true
    decBounds_said (fun _ h => by cases h) (by kernel_rfl) (fun _ h => by cases h) decBounds_row_tie rfl ⟨rfl, rfl⟩ (by kernel_rfl) rfl
    (fun f fn hf hfn => by
      obtain rfl : f = 6 := Option.some.inj ((show Tryd.prog.funcNamed "warrant/warrantlaw04.DecBounds" = some 6 by kernel_rfl).symm.trans hf) |>.symm
      obtain rfl : fn = Tryd.f6 := (Option.some.inj (Tryd.func6.symm.trans hfn)).symm
      exact ⟨by kernel_rfl, fun j t ht => by
        rw [Tryd.params6] at ht
        have hm : t ∈ [2] := by
          have := Array.mem_of_getElem? ht
          simpa using this
        have hall : ([2].all fun u => !Tryd.prog.wantsStandIn u) = true := by kernel_rfl
        exact (show Tryd.prog.wantsStandIn t = false by simpa using List.all_eq_true.1 hall t hm)⟩)
    (by kernel_rfl)
#print axioms decBounds_card
end Go.Proofs.YtkelioafnobolaaDoor
