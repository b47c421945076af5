/- Proved: for every two lists of texts and every text the law ScopeSets returns true: Has, Within, Both, All and Less tell what the document tells. No condition. -/
import Derived.Test.YtapalkipdmdceaaScRowP
import Derived.Test.YtapalkipdmdceaaScOpen
import Derived.Test.YtapalkipdmdceaaScLawSets
import Derived.Stop.Joined
namespace Go.Proofs.Ytapalkipdmdceaa
open Go Go.RowKit
open Go.ChangeShapes Go.WideShapes Go.ChangeAt
open Go.ChangeMaps (open_string shut_string)

theorem laidOutA : laidOutB Try.prog = true := by kernel_rfl
theorem scopeSets_witness (os : Os) {H : Type} (enc : TypeId × Value → H) :
    (OpenSpec.ofChange Rows.scopeSetsSpec).preRow enc Try.prog Try.f3 Rows.scopeSetsRow.domain false Rows.scopeSetsRow.laid ((laidWorldP os).forCall (fun _ _ => 0) ⟨#[], #[.slice none 0 0, .slice none 0 0, .string ⟨#[]⟩], []⟩).memory #[.slice none 0 0, .slice none 0 0, .string ⟨#[]⟩] := by
  have hw : (DataW.whole enc Try.prog ((laidWorldP os).forCall (fun _ _ => 0) ⟨#[], #[.slice none 0 0, .slice none 0 0, .string ⟨#[]⟩], []⟩).memory Try.f3.params.toList (OpenSpec.ofChange Rows.scopeSetsSpec).vars false #[Value.slice none 0 0, Value.slice none 0 0, Value.string ⟨#[]⟩].toList 8).map (fun x => (x.1, x.2.1)) =
      some ([.nil, .nil, .lit (.string [])], []) := by kernel_rfl
  obtain ⟨⟨x1, x2, x3⟩, hx, hx1⟩ := Option.map_eq_some_iff.1 hw
  simp only [Prod.mk.injEq] at hx1
  obtain ⟨rfl, rfl⟩ := hx1
  exact OpenSpec.preRow_of_cond 8 hx (by kernel_rfl) (fun k hk => by cases hk) (by kernel_rfl) (laidWorldP_met _ _)

set_option maxRecDepth 100000 in
set_option maxHeartbeats 1000000 in
theorem scopeSets_lifted (os : Os) (started : os.Started) (H : Type) (enc : TypeId × Value → H) (F : Stop.Interp) :
    ReturnsInHanded {} Try.checked os 3 .any ((OpenSpec.ofChange Rows.scopeSetsSpec).preRow enc Try.prog Try.f3 Rows.scopeSetsRow.domain false Rows.scopeSetsRow.laid)
      (((OpenSpec.ofChange Rows.scopeSetsSpec).at F).post enc Try.prog Try.f3 false true false false) := by
  refine returnsInHanded_of_row (C := Try.checked) (s := OpenSpec.ofChange Rows.scopeSetsSpec) ownKnobs started (by kernel_rfl) Try.func3
    (witness_row_at (enc := enc) (C := Try.checked) false (laidWorldP os) #[.slice none 0 0, .slice none 0 0, .string ⟨#[]⟩] (laidWorldP_os _) (by kernel_rfl) (by kernel_rfl) (by kernel_rfl) (scopeSets_witness os enc)) ?_
  intro W base args ds gs before hval0 hW _ _ _ hL hsh _
  have hval : ∀ (j : Nat) t v, Try.f3.params[j]? = some t → args[j]? = some v → Value.okWide Try.prog W .any base t v := hval0
  have hW' := hW
  obtain ⟨p, q, hA0, hV0, rfl, _, _⟩ := hW
  have hA : DataW.TrodAll enc Try.prog W 0 (fun _ => true) true Try.f3.params.toList args.toList ds p := hA0
  rw [Try.params3] at hA hval
  obtain ⟨v0, v1, v2, d0, d1, d2, p0, p1, p2, rfl, rfl, rfl, h0, h1, h2⟩ := trodAll_three hA
  obtain ⟨rfl, rfl⟩ := trodVars_none hV0
  obtain ⟨k0, r0⟩ := open_strsS (hval 0 22 v0 rfl rfl) h0
  obtain ⟨k1, r1⟩ := open_strsS (hval 1 22 v1 rfl rfl) h1
  obtain ⟨x2, rfl, rfl, rfl, w2⟩ := open_string Try.underlying9 (hval 2 9 v2 rfl rfl) h2
  clear hA0 hV0 hval0
  simp only [List.append_nil] at hW'
  have hlt0 : ∀ x ∈ p0, x.block < W.heap.size := fun x hx => hW'.lt x (by simp [hx])
  have hlt1 : ∀ x ∈ p1, x.block < W.heap.size := fun x hx => hW'.lt x (by simp [hx])
  refine (lawSets_any v0 v1 k0 k1 x2 W (maxLS_of hsh) r0 r1).mono ?_
  rintro e W' ⟨rfl, bel⟩
  have e1 : ((OpenSpec.ofChange Rows.scopeSetsSpec).at F).fn H ([d0, d1, .lit (.string x2.data.toList)] ++ []) = { results := [.lit (.bool true)], args := [d0, d1, .lit (.string x2.data.toList)] } := rfl
  refine ⟨_, rfl, _, _, _, [], (p0 ++ (p1 ++ ([]))), [], hW', ?_, ?_, ?_, bel.frame _, fun h => by cases h⟩
  · rw [e1]; exact trodAll_mk1 (shut_bool Try.underlying4 _)
  · rw [e1]; exact trodAll_mk3 (Below.trod laidOutA (by kernel_rfl) (of_decide_eq_true (by kernel_rfl)) h0 bel hlt0) (Below.trod laidOutA (by kernel_rfl) (of_decide_eq_true (by kernel_rfl)) h1 bel hlt1) (shut_string Try.underlying9 w2)
  · rw [e1]; rfl

theorem scopeSets_said : Rows.ScopeSetsSaid :=
  OpenClaim.holds_of_cond 3 Try.f3 rfl rfl rfl rfl rfl rfl rfl ⟨rfl, rfl, rfl, rfl, rfl⟩ rfl rfl rfl rfl rfl (by kernel_rfl) Try.func3 (by kernel_rfl)
    (of_decide_eq_true (by kernel_rfl)) (by unfold Func.isWrapper; rw [if_neg (of_decide_eq_false (by kernel_rfl))]; exact ⟨rfl, rfl⟩)
    (fun os started H enc _ F0 => by rw [OpenClaim.pre_eq_preRow]; exact scopeSets_lifted os started H enc F0)

#print axioms scopeSets_said
end Go.Proofs.Ytapalkipdmdceaa
