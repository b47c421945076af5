/- Proved: for every list of names, every list of JSON values and every name the law JsonGets returns true: an object that is made of members in any order, names met again and all, is the document's own; Get finds in it what the document's answer finds; a list has no members. The condition: the package variables that the law reads hold at the call what the program's text lays (tied by the card). -/
import Derived.Test.YtjfgmgkhinehaaaGreatDoorTie
import Derived.Test.YtjfgmgkhinehaaaGreatDoorCards
import Derived.SevenTiedAt
import Derived.Test.YtjfgmgkhinehaaaGreatDoorCx05
import Derived.Test.YtjfgmgkhinehaaaGreatDoorCx06
import Derived.Test.YtjfgmgkhinehaaaGreatDoorCx42
set_option linter.all false
namespace Go.Proofs.YtjfgmgkhinehaaaGreatDoor
open Go Go.RowKit
open Go.ChangeShapes Go.WideShapes Go.ChangeAt
open Go.ChangeMaps (open_string shut_string)
theorem ask5_of {W : World} (h : laidMetH Tryz.prog laidB W) (hsh : W.ShapedOpen Tryz.prog) : Ask5 W := ⟨errTabB h, marksB h hsh⟩
theorem laidOutA : laidOutB Tryz.prog = true := by kernel_rfl
theorem jsonGets_witness (os : Os) {H : Type} (enc : TypeId × Value → H) :
    (OpenSpec.ofChange Rows.jsonGetsSpec).preRow enc Tryz.prog Tryz.f3 Rows.jsonGetsRow.domain false Rows.jsonGetsRow.laid ((laidWorldB os).forCall (fun _ _ => 0) ⟨#[], #[.slice none 0 0, .slice none 0 0, .string ⟨#[]⟩], []⟩).memory #[.slice none 0 0, .slice none 0 0, .string ⟨#[]⟩] := by
  have hw : (DataW.whole enc Tryz.prog ((laidWorldB os).forCall (fun _ _ => 0) ⟨#[], #[.slice none 0 0, .slice none 0 0, .string ⟨#[]⟩], []⟩).memory Tryz.f3.params.toList (OpenSpec.ofChange Rows.jsonGetsSpec).vars false #[Value.slice none 0 0, Value.slice none 0 0, Value.string ⟨#[]⟩].toList 8).map (fun x => (x.1, x.2.1)) =
      some ([.nil, .nil, .lit (.string [])], []) := by kernel_rfl
  obtain ⟨⟨x1, x2, x3⟩, hx, hx1⟩ := Option.map_eq_some_iff.1 hw
  simp only [Prod.mk.injEq] at hx1
  obtain ⟨rfl, rfl⟩ := hx1
  exact OpenSpec.preRow_of_cond 8 hx (by kernel_rfl) (fun k hk => by cases hk) (by kernel_rfl) (laidWorldB_met _ _)
set_option maxRecDepth 100000 in
set_option maxHeartbeats 1000000 in
theorem jsonGets_lifted (os : Os) (started : os.Started) (H : Type) (enc : TypeId × Value → H) (F : Stop.Interp) :
    ReturnsInHanded {} Tryz.checked os 3 .any ((OpenSpec.ofChange Rows.jsonGetsSpec).preRow enc Tryz.prog Tryz.f3 Rows.jsonGetsRow.domain false Rows.jsonGetsRow.laid)
      (((OpenSpec.ofChange Rows.jsonGetsSpec).at F).post enc Tryz.prog Tryz.f3 false true false false) := by
  refine returnsInHanded_of_row (C := Tryz.checked) (s := OpenSpec.ofChange Rows.jsonGetsSpec) ownKnobs started (by kernel_rfl) Tryz.func3
    (witness_row_at (enc := enc) (C := Tryz.checked) false (laidWorldB os) #[.slice none 0 0, .slice none 0 0, .string ⟨#[]⟩] (laidWorldB_os _) (by kernel_rfl) (by kernel_rfl) (by kernel_rfl) (jsonGets_witness os enc)) ?_
  intro W base args ds gs before hval0 hW _ _ _ hL hsh _
  have hval : ∀ (j : Nat) t v, Tryz.f3.params[j]? = some t → args[j]? = some v → Value.okWide Tryz.prog W .any base t v := hval0
  have hW' := hW
  obtain ⟨p, q, hA0, hV0, rfl, _, _⟩ := hW
  have hA : DataW.TrodAll enc Tryz.prog W 0 (fun _ => true) true Tryz.f3.params.toList args.toList ds p := hA0
  rw [Tryz.params3] at hA hval
  obtain ⟨v0, v1, v2, d0, d1, d2, p0, p1, p2, rfl, rfl, rfl, h0, h1, h2⟩ := trodAll_three hA
  obtain ⟨rfl, rfl⟩ := trodVars_none hV0
  obtain ⟨k0, r0⟩ := open_names (hval 0 22 v0 rfl rfl) h0
  have h1k := h1
  obtain ⟨A1, c1, l1, rfl, e1, f1, r1⟩ := open_jsons (hval 1 23 v1 rfl rfl) h1
  obtain ⟨x2, rfl, rfl, rfl, w2⟩ := open_string Tryz.underlying9 (hval 2 9 v2 rfl rfl) h2
  clear hA0 hV0 hval0
  simp only [List.append_nil] at hW'
  have hlt0 : ∀ x ∈ p0, x.block < W.heap.size := fun x hx => hW'.lt x (by simp [hx])
  have hlt1 : ∀ x ∈ p1, x.block < W.heap.size := fun x hx => hW'.lt x (by simp [hx])
  refine (lawGets_v k0 v0 l1 A1 c1 x2 W r0 e1 f1 r1 (by unfold maxLen at w2; omega) (ask5_of hL hsh)).mono ?_
  rintro e W' ⟨rfl, bel⟩
  have e1 : ((OpenSpec.ofChange Rows.jsonGetsSpec).at F).fn H ([d0, d1, .lit (.string x2.data.toList)] ++ []) = { results := [.lit (.bool true)], args := [d0, d1, .lit (.string x2.data.toList)] } := rfl
  refine ⟨_, rfl, _, _, _, [], (p0 ++ p1 ++ []), [], hW', ?_, ?_, ?_, bel.frame _, fun h => by cases h⟩
  · rw [e1]; exact trodAll_mk1 (shut_bool Tryz.underlying4 _)
  · rw [e1]; simp only [List.append_assoc]; exact trodAll_mk3 (Below.trod laidOutA (by kernel_rfl) (of_decide_eq_true (by kernel_rfl)) h0 bel hlt0) (Below.trod laidOutA (by kernel_rfl) (of_decide_eq_true (by kernel_rfl)) h1k bel hlt1) (shut_string Tryz.underlying9 w2)
  · rw [e1]; rfl
theorem jsonGets_said : Rows.JsonGetsSaid :=
  OpenClaim.holds_of_cond 3 Tryz.f3 rfl rfl rfl rfl rfl rfl rfl ⟨rfl, rfl, rfl, rfl, rfl⟩ rfl rfl rfl rfl rfl (by kernel_rfl) Tryz.func3 (by kernel_rfl)
    (of_decide_eq_true (by kernel_rfl)) (by unfold Func.isWrapper; rw [if_neg (of_decide_eq_false (by kernel_rfl))]; exact ⟨rfl, rfl⟩)
    (fun os started H enc _ F0 => by rw [OpenClaim.pre_eq_preRow]; exact jsonGets_lifted os started H enc F0)
theorem jsonGets_card : Rows.JsonGetsCardSaid :=
  Claim7.holds_tied_plain_at .later [] [.handle, .data] true (true, "85f5bd0213bd62a7566f631b9002d18a805f0be3ad3be6068e78d71207097417") true
    jsonGets_said (fun _ h => by cases h) (by kernel_rfl) (fun _ h => by cases h) jsonGets_row_tie rfl ⟨rfl, rfl⟩ (by kernel_rfl) rfl
    (fun f fn hf hfn => by
      obtain rfl : f = 3 := Option.some.inj ((show Tryz.prog.funcNamed "warrant/warrantlaw05.JsonGets" = some 3 by kernel_rfl).symm.trans hf) |>.symm
      obtain rfl : fn = Tryz.f3 := (Option.some.inj (Tryz.func3.symm.trans hfn)).symm
      exact ⟨by kernel_rfl, fun j t ht => by
        rw [Tryz.params3] at ht
        have hm : t ∈ [22, 23, 9] := by
          have := Array.mem_of_getElem? ht
          simpa using this
        have hall : ([22, 23, 9].all fun u => !Tryz.prog.wantsStandIn u) = true := by kernel_rfl
        exact (show Tryz.prog.wantsStandIn t = false by simpa using List.all_eq_true.1 hall t hm)⟩)
    (by kernel_rfl)
end Go.Proofs.YtjfgmgkhinehaaaGreatDoor
