/- Proved: for every flag and all strings the law PkceChecks returns true: a verifier is checked by its own challenge alone, and what may be a challenge is as the reference says. The conditions: the package variables start and roots of package sha (and, where errors are asked, errorType of package errors) hold at the call what the program's text lays (tied by the card). -/
import Derived.Test.YtdgpphihjeffcaaDoorPkRow
import Derived.Test.YtdgpphihjeffcaaDoorPkLawC
import Derived.Test.YtdgpphihjeffcaaDoorTie
import Derived.Test.YtdgpphihjeffcaaDoorCards
import Derived.SevenTiedAt
namespace Go.Proofs.YtdgpphihjeffcaaDoor
open Go Go.RowKit
open Go.ChangeShapes Go.WideShapes Go.ChangeAt
open Go.ChangeMaps (open_string shut_string)

theorem pkceChecks_witness (os : Os) {H : Type} (enc : TypeId × Value → H) :
    (OpenSpec.ofChange Rows.pkceChecksSpec).preRow enc Tryd.prog Tryd.f4 Rows.pkceChecksRow.domain false Rows.pkceChecksRow.laid ((laidWorldK os).forCall (fun _ _ => 0) ⟨#[], #[.bool false, .string ⟨#[]⟩, .string ⟨#[]⟩], []⟩).memory #[.bool false, .string ⟨#[]⟩, .string ⟨#[]⟩] := by
  have hw : (DataW.whole enc Tryd.prog ((laidWorldK os).forCall (fun _ _ => 0) ⟨#[], #[.bool false, .string ⟨#[]⟩, .string ⟨#[]⟩], []⟩).memory Tryd.f4.params.toList (OpenSpec.ofChange Rows.pkceChecksSpec).vars false #[Value.bool false, Value.string ⟨#[]⟩, Value.string ⟨#[]⟩].toList 8).map (fun x => (x.1, x.2.1)) =
      some ([.lit (.bool false), .lit (.string []), .lit (.string [])], []) := by kernel_rfl
  obtain ⟨⟨x1, x2, x3⟩, hx, hx1⟩ := Option.map_eq_some_iff.1 hw
  simp only [Prod.mk.injEq] at hx1
  obtain ⟨rfl, rfl⟩ := hx1
  exact OpenSpec.preRow_of_cond 8 hx (by kernel_rfl) (fun k hk => by cases hk) (by kernel_rfl) (laidWorldK_met _ _)

set_option maxRecDepth 100000 in
set_option maxHeartbeats 1000000 in
theorem pkceChecks_lifted (os : Os) (started : os.Started) (H : Type) (enc : TypeId × Value → H) (F : Stop.Interp) :
    ReturnsInHanded {} Tryd.checked os 4 .any ((OpenSpec.ofChange Rows.pkceChecksSpec).preRow enc Tryd.prog Tryd.f4 Rows.pkceChecksRow.domain false Rows.pkceChecksRow.laid)
      (((OpenSpec.ofChange Rows.pkceChecksSpec).at F).post enc Tryd.prog Tryd.f4 false true false false) := by
  refine returnsInHanded_of_row (C := Tryd.checked) (s := OpenSpec.ofChange Rows.pkceChecksSpec) ownKnobs started (by kernel_rfl) Tryd.func4
    (witness_row_at (enc := enc) (C := Tryd.checked) false (laidWorldK os) #[.bool false, .string ⟨#[]⟩, .string ⟨#[]⟩] (laidWorldK_os _) (by kernel_rfl) (by kernel_rfl) (by kernel_rfl) (pkceChecks_witness os enc)) ?_
  intro W base args ds gs before hval0 hW _ _ _ hL hsh _
  have hval : ∀ (j : Nat) t v, Tryd.f4.params[j]? = some t → args[j]? = some v → Value.okWide Tryd.prog W .any base t v := hval0
  have hW' := hW
  obtain ⟨p, q, hA0, hV0, rfl, _, _⟩ := hW
  have hA : DataW.TrodAll enc Tryd.prog W 0 (fun _ => true) true Tryd.f4.params.toList args.toList ds p := hA0
  rw [Tryd.params4] at hA hval
  obtain ⟨v0, v1, v2, d0, d1, d2, p0, p1, p2, rfl, rfl, rfl, h0, h1, h2⟩ := trodAll_three hA
  obtain ⟨rfl, rfl⟩ := trodVars_none hV0
  obtain ⟨s, rfl, rfl, rfl⟩ := open_bool Tryd.underlying4 (hval 0 4 v0 rfl rfl) h0
  obtain ⟨t, rfl, rfl, rfl, wt⟩ := open_string Tryd.underlying9 (hval 1 9 v1 rfl rfl) h1
  obtain ⟨u, rfl, rfl, rfl, wu⟩ := open_string Tryd.underlying9 (hval 2 9 v2 rfl rfl) h2
  clear hA0 hV0 hval0
  simp only [List.append_nil] at hW'
  refine (pkChecks_any s t u W (errTab_of (laidE_ofK hL)) (tabs_of (laidL_ofK hL) hsh) (by unfold maxLen at wt; omega) (by unfold maxLen at wu; omega)).mono ?_
  rintro e W' ⟨rfl, bel⟩
  have e1 : ((OpenSpec.ofChange Rows.pkceChecksSpec).at F).fn H ([.lit (.bool s), .lit (.string t.data.toList), .lit (.string u.data.toList)] ++ []) = { results := [.lit (.bool true)], args := [.lit (.bool s), .lit (.string t.data.toList), .lit (.string u.data.toList)] } := rfl
  refine ⟨_, rfl, _, _, _, [], [], [], hW', ?_, ?_, ?_, bel.frame _, fun h => by cases h⟩
  · rw [e1]; exact trodAll_mk1 (shut_bool Tryd.underlying4 _)
  · rw [e1]; exact trodAll_mk3 (shut_bool Tryd.underlying4 s) (shut_string Tryd.underlying9 wt) (shut_string Tryd.underlying9 wu)
  · rw [e1]; rfl

theorem pkceChecks_said : Rows.PkceChecksSaid :=
  OpenClaim.holds_of_cond 4 Tryd.f4 rfl rfl rfl rfl rfl rfl rfl ⟨rfl, rfl, rfl, rfl, rfl⟩ rfl rfl rfl rfl rfl (by kernel_rfl) Tryd.func4 (by kernel_rfl)
    (of_decide_eq_true (by kernel_rfl)) (by unfold Func.isWrapper; rw [if_neg (of_decide_eq_false (by kernel_rfl))]; exact ⟨rfl, rfl⟩)
    (fun os started H enc _ F0 => by rw [OpenClaim.pre_eq_preRow]; exact pkceChecks_lifted os started H enc F0)

theorem pkceChecks_card : Rows.PkceChecksCardSaid :=
  Claim7.holds_tied_plain_at .later [] [.data, .data, .handle] true (true, "949db8deae1e16a485dff5e21107181e8bc36499f7ca80de9a98f564cde16f11") true
    pkceChecks_said (fun _ h => by cases h) (by kernel_rfl) (fun _ h => by cases h) pkceChecks_row_tie rfl ⟨rfl, rfl⟩ (by kernel_rfl) rfl
    (fun f fn hf hfn => by
      obtain rfl : f = 4 := Option.some.inj ((show Tryd.prog.funcNamed "warrant/warrantlaw10.PkceChecks" = some 4 by kernel_rfl).symm.trans hf) |>.symm
      obtain rfl : fn = Tryd.f4 := (Option.some.inj (Tryd.func4.symm.trans hfn)).symm
      exact ⟨by kernel_rfl, fun j t ht => by
        rw [Tryd.params4] at ht
        have hm : t ∈ [4, 9] := by
          have := Array.mem_of_getElem? ht
          simpa using this
        have hall : ([4, 9].all fun u => !Tryd.prog.wantsStandIn u) = true := by kernel_rfl
        exact (show Tryd.prog.wantsStandIn t = false by simpa using List.all_eq_true.1 hall t hm)⟩)
    (by kernel_rfl)
#print axioms pkceChecks_card
end Go.Proofs.YtdgpphihjeffcaaDoor
