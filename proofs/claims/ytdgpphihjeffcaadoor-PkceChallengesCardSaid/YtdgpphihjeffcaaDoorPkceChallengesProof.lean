/- Proved: for every flag and every string the law PkceChallenges returns true: which texts are verifiers, and their challenges, are as the reference says. The conditions: the package variables start and roots of package sha (and, where errors are asked, errorType of package errors) hold at the call what the program's text lays (tied by the card). -/
import Derived.Test.YtdgpphihjeffcaaDoorPkRow
import Derived.Test.YtdgpphihjeffcaaDoorPkLawA
import Derived.Test.YtdgpphihjeffcaaDoorTie
import Derived.Test.YtdgpphihjeffcaaDoorCards
import Derived.SevenTiedAt
namespace Go.Proofs.YtdgpphihjeffcaaDoor
open Go Go.RowKit
open Go.ChangeShapes Go.WideShapes Go.ChangeAt
open Go.ChangeMaps (open_string shut_string)

theorem pkceChallenges_witness (os : Os) {H : Type} (enc : TypeId × Value → H) :
    (OpenSpec.ofChange Rows.pkceChallengesSpec).preRow enc Tryd.prog Tryd.f3 Rows.pkceChallengesRow.domain false Rows.pkceChallengesRow.laid ((laidWorldK os).forCall (fun _ _ => 0) ⟨#[], #[.bool false, .string ⟨#[]⟩], []⟩).memory #[.bool false, .string ⟨#[]⟩] := by
  have hw : (DataW.whole enc Tryd.prog ((laidWorldK os).forCall (fun _ _ => 0) ⟨#[], #[.bool false, .string ⟨#[]⟩], []⟩).memory Tryd.f3.params.toList (OpenSpec.ofChange Rows.pkceChallengesSpec).vars false #[Value.bool false, Value.string ⟨#[]⟩].toList 8).map (fun x => (x.1, x.2.1)) =
      some ([.lit (.bool false), .lit (.string [])], []) := by kernel_rfl
  obtain ⟨⟨x1, x2, x3⟩, hx, hx1⟩ := Option.map_eq_some_iff.1 hw
  simp only [Prod.mk.injEq] at hx1
  obtain ⟨rfl, rfl⟩ := hx1
  exact OpenSpec.preRow_of_cond 8 hx (by kernel_rfl) (fun k hk => by cases hk) (by kernel_rfl) (laidWorldK_met _ _)

set_option maxRecDepth 100000 in
set_option maxHeartbeats 1000000 in
theorem pkceChallenges_lifted (os : Os) (started : os.Started) (H : Type) (enc : TypeId × Value → H) (F : Stop.Interp) :
    ReturnsInHanded {} Tryd.checked os 3 .any ((OpenSpec.ofChange Rows.pkceChallengesSpec).preRow enc Tryd.prog Tryd.f3 Rows.pkceChallengesRow.domain false Rows.pkceChallengesRow.laid)
      (((OpenSpec.ofChange Rows.pkceChallengesSpec).at F).post enc Tryd.prog Tryd.f3 false true false false) := by
  refine returnsInHanded_of_row (C := Tryd.checked) (s := OpenSpec.ofChange Rows.pkceChallengesSpec) ownKnobs started (by kernel_rfl) Tryd.func3
    (witness_row_at (enc := enc) (C := Tryd.checked) false (laidWorldK os) #[.bool false, .string ⟨#[]⟩] (laidWorldK_os _) (by kernel_rfl) (by kernel_rfl) (by kernel_rfl) (pkceChallenges_witness os enc)) ?_
  intro W base args ds gs before hval0 hW _ _ _ hL hsh _
  have hval : ∀ (j : Nat) t v, Tryd.f3.params[j]? = some t → args[j]? = some v → Value.okWide Tryd.prog W .any base t v := hval0
  have hW' := hW
  obtain ⟨p, q, hA0, hV0, rfl, _, _⟩ := hW
  have hA : DataW.TrodAll enc Tryd.prog W 0 (fun _ => true) true Tryd.f3.params.toList args.toList ds p := hA0
  rw [Tryd.params3] at hA hval
  obtain ⟨v0, v1, d0, d1, p0, p1, rfl, rfl, rfl, h0, h1⟩ := trodAll_two hA
  obtain ⟨rfl, rfl⟩ := trodVars_none hV0
  obtain ⟨s, rfl, rfl, rfl⟩ := open_bool Tryd.underlying4 (hval 0 4 v0 rfl rfl) h0
  obtain ⟨t, rfl, rfl, rfl, wt⟩ := open_string Tryd.underlying9 (hval 1 9 v1 rfl rfl) h1
  clear hA0 hV0 hval0
  simp only [List.append_nil] at hW'
  refine (pkChallenges_any s t W (errTab_of (laidE_ofK hL)) (tabs_of (laidL_ofK hL) hsh) (by unfold maxLen at wt; omega)).mono ?_
  rintro e W' ⟨rfl, bel⟩
  have e1 : ((OpenSpec.ofChange Rows.pkceChallengesSpec).at F).fn H ([.lit (.bool s), .lit (.string t.data.toList)] ++ []) = { results := [.lit (.bool true)], args := [.lit (.bool s), .lit (.string t.data.toList)] } := rfl
  refine ⟨_, rfl, _, _, _, [], [], [], hW', ?_, ?_, ?_, bel.frame _, fun h => by cases h⟩
  · rw [e1]; exact trodAll_mk1 (shut_bool Tryd.underlying4 _)
  · rw [e1]; exact trodAll_mk2 (shut_bool Tryd.underlying4 s) (shut_string Tryd.underlying9 wt)
  · rw [e1]; rfl

theorem pkceChallenges_said : Rows.PkceChallengesSaid :=
  OpenClaim.holds_of_cond 3 Tryd.f3 rfl rfl rfl rfl rfl rfl rfl ⟨rfl, rfl, rfl, rfl, rfl⟩ rfl rfl rfl rfl rfl (by kernel_rfl) Tryd.func3 (by kernel_rfl)
    (of_decide_eq_true (by kernel_rfl)) (by unfold Func.isWrapper; rw [if_neg (of_decide_eq_false (by kernel_rfl))]; exact ⟨rfl, rfl⟩)
    (fun os started H enc _ F0 => by rw [OpenClaim.pre_eq_preRow]; exact pkceChallenges_lifted os started H enc F0)

theorem pkceChallenges_card : Rows.PkceChallengesCardSaid :=
  Claim7.holds_tied_plain_at .later [] [.data, .data, .handle] true (true, "949db8deae1e16a485dff5e21107181e8bc36499f7ca80de9a98f564cde16f11") true
    pkceChallenges_said (fun _ h => by cases h) (by kernel_rfl) (fun _ h => by cases h) pkceChallenges_row_tie rfl ⟨rfl, rfl⟩ (by kernel_rfl) rfl
    (fun f fn hf hfn => by
      obtain rfl : f = 3 := Option.some.inj ((show Tryd.prog.funcNamed "warrant/warrantlaw10.PkceChallenges" = some 3 by kernel_rfl).symm.trans hf) |>.symm
      obtain rfl : fn = Tryd.f3 := (Option.some.inj (Tryd.func3.symm.trans hfn)).symm
      exact ⟨by kernel_rfl, fun j t ht => by
        rw [Tryd.params3] at ht
        have hm : t ∈ [4, 9] := by
          have := Array.mem_of_getElem? ht
          simpa using this
        have hall : ([4, 9].all fun u => !Tryd.prog.wantsStandIn u) = true := by kernel_rfl
        exact (show Tryd.prog.wantsStandIn t = false by simpa using List.all_eq_true.1 hall t hm)⟩)
    (by kernel_rfl)
#print axioms pkceChallenges_card
end Go.Proofs.YtdgpphihjeffcaaDoor
