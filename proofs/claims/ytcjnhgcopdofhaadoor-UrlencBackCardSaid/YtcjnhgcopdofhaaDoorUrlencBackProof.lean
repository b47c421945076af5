/- Proved: for every list of parameters and every string the law UrlencBack returns true: parameters come back from their text, and bytes from theirs. The conditions: the package variables that the rows list hold at the call what the program's text lays (tied by the card). -/
import Derived.Test.YtcjnhgcopdofhaaDoorUrOpen
import Derived.Test.YtcjnhgcopdofhaaDoorUrLawB
import Derived.Test.YtcjnhgcopdofhaaDoorTie
import Derived.Test.YtcjnhgcopdofhaaDoorCards
import Derived.SevenTiedAt
namespace Go.Proofs.YtcjnhgcopdofhaaDoor
open Go Go.RowKit
open Go.ChangeShapes Go.WideShapes Go.ChangeAt
open Go.ChangeMaps (open_string shut_string)

theorem laidOutA : laidOutB Tryd.prog = true := by kernel_rfl
theorem urlencBack_witness (os : Os) {H : Type} (enc : TypeId × Value → H) :
    (OpenSpec.ofChange Rows.urlencBackSpec).preRow enc Tryd.prog Tryd.f6 Rows.urlencBackRow.domain false Rows.urlencBackRow.laid ((laidWorldU os).forCall (fun _ _ => 0) ⟨#[], #[.slice none 0 0, .string ⟨#[]⟩], []⟩).memory #[.slice none 0 0, .string ⟨#[]⟩] := by
  have hw : (DataW.whole enc Tryd.prog ((laidWorldU os).forCall (fun _ _ => 0) ⟨#[], #[.slice none 0 0, .string ⟨#[]⟩], []⟩).memory Tryd.f6.params.toList (OpenSpec.ofChange Rows.urlencBackSpec).vars false #[Value.slice none 0 0, Value.string ⟨#[]⟩].toList 8).map (fun x => (x.1, x.2.1)) =
      some ([.nil, .lit (.string [])], []) := by kernel_rfl
  obtain ⟨⟨x1, x2, x3⟩, hx, hx1⟩ := Option.map_eq_some_iff.1 hw
  simp only [Prod.mk.injEq] at hx1
  obtain ⟨rfl, rfl⟩ := hx1
  exact OpenSpec.preRow_of_cond 8 hx (by kernel_rfl) (fun k hk => by cases hk) (by kernel_rfl) (laidWorldU_met _ _)

set_option maxRecDepth 100000 in
set_option maxHeartbeats 1000000 in
theorem urlencBack_lifted (os : Os) (started : os.Started) (H : Type) (enc : TypeId × Value → H) (F : Stop.Interp) :
    ReturnsInHanded {} Tryd.checked os 6 .any ((OpenSpec.ofChange Rows.urlencBackSpec).preRow enc Tryd.prog Tryd.f6 Rows.urlencBackRow.domain false Rows.urlencBackRow.laid)
      (((OpenSpec.ofChange Rows.urlencBackSpec).at F).post enc Tryd.prog Tryd.f6 false true false false) := by
  refine returnsInHanded_of_row (C := Tryd.checked) (s := OpenSpec.ofChange Rows.urlencBackSpec) ownKnobs started (by kernel_rfl) Tryd.func6
    (witness_row_at (enc := enc) (C := Tryd.checked) false (laidWorldU os) #[.slice none 0 0, .string ⟨#[]⟩] (laidWorldU_os _) (by kernel_rfl) (by kernel_rfl) (by kernel_rfl) (urlencBack_witness os enc)) ?_
  intro W base args ds gs before hval0 hW _ _ _ hL hsh _
  have hval : ∀ (j : Nat) t v, Tryd.f6.params[j]? = some t → args[j]? = some v → Value.okWide Tryd.prog W .any base t v := hval0
  have hW' := hW
  obtain ⟨p, q, hA0, hV0, rfl, _, _⟩ := hW
  have hA : DataW.TrodAll enc Tryd.prog W 0 (fun _ => true) true Tryd.f6.params.toList args.toList ds p := hA0
  rw [Tryd.params6] at hA hval
  obtain ⟨v0, v1, d0, d1, p0, p1, rfl, rfl, rfl, h0, h1⟩ := trodAll_two hA
  obtain ⟨rfl, rfl⟩ := trodVars_none hV0
  have h0k := h0
  obtain ⟨A0, n0, c0, ps0, rfl, hn0, hnc0, hnn0, hl0⟩ := open_params (hval 0 23 v0 rfl rfl) h0
  obtain ⟨t, rfl, rfl, rfl, wt⟩ := open_string Tryd.underlying9 (hval 1 9 v1 rfl rfl) h1
  clear hA0 hV0 hval0
  simp only [List.append_nil] at hW'
  have hlt0 : ∀ x ∈ p0, x.block < W.heap.size := fun x hx => hW'.lt x (by simp [hx])
  refine (lawBack_any A0 ps0 n0 c0 t W (ask6_of hL hsh) hn0 hnc0 hnn0 hl0 (by unfold maxLen at wt; omega)).mono ?_
  rintro e W' ⟨rfl, bel⟩
  have e1 : ((OpenSpec.ofChange Rows.urlencBackSpec).at F).fn H ([d0, .lit (.string t.data.toList)] ++ []) = { results := [.lit (.bool true)], args := [d0, .lit (.string t.data.toList)] } := rfl
  refine ⟨_, rfl, _, _, _, [], (p0 ++ []), [], hW', ?_, ?_, ?_, bel.frame _, fun h => by cases h⟩
  · rw [e1]; exact trodAll_mk1 (shut_bool Tryd.underlying4 _)
  · rw [e1]; exact trodAll_mk2 (Below.trod laidOutA (by kernel_rfl) (of_decide_eq_true (by kernel_rfl)) h0k bel hlt0) (shut_string Tryd.underlying9 wt)
  · rw [e1]; rfl

theorem urlencBack_said : Rows.UrlencBackSaid :=
  OpenClaim.holds_of_cond 6 Tryd.f6 rfl rfl rfl rfl rfl rfl rfl ⟨rfl, rfl, rfl, rfl, rfl⟩ rfl rfl rfl rfl rfl (by kernel_rfl) Tryd.func6 (by kernel_rfl)
    (of_decide_eq_true (by kernel_rfl)) (by unfold Func.isWrapper; rw [if_neg (of_decide_eq_false (by kernel_rfl))]; exact ⟨rfl, rfl⟩)
    (fun os started H enc _ F0 => by rw [OpenClaim.pre_eq_preRow]; exact urlencBack_lifted os started H enc F0)

theorem urlencBack_card : Rows.UrlencBackCardSaid :=
  Claim7.holds_tied_plain_at .later [] [.data, .handle, .data, .pinned] true (true, "dfdcc771c18eca3e53114b1f09b5fff4fd7530e680230cdd1301763596ba5e64") true
    urlencBack_said (fun _ h => by cases h) (by kernel_rfl) (fun _ h => by cases h) urlencBack_row_tie rfl ⟨rfl, rfl⟩ (by kernel_rfl) rfl
    (fun f fn hf hfn => by
      obtain rfl : f = 6 := Option.some.inj ((show Tryd.prog.funcNamed "warrant/warrantlaw06.UrlencBack" = some 6 by kernel_rfl).symm.trans hf) |>.symm
      obtain rfl : fn = Tryd.f6 := (Option.some.inj (Tryd.func6.symm.trans hfn)).symm
      exact ⟨by kernel_rfl, fun j t ht => by
        rw [Tryd.params6] at ht
        have hm : t ∈ [23, 9] := by
          have := Array.mem_of_getElem? ht
          simpa using this
        have hall : ([23, 9].all fun u => !Tryd.prog.wantsStandIn u) = true := by kernel_rfl
        exact (show Tryd.prog.wantsStandIn t = false by simpa using List.all_eq_true.1 hall t hm)⟩)
    (by kernel_rfl)
#print axioms urlencBack_card
end Go.Proofs.YtcjnhgcopdofhaaDoor
