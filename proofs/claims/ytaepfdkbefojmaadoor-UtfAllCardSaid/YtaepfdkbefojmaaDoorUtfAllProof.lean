/- Proved: for every string s and every stop the law UtfAll returns true: All tells the letters one behind the other, left early and begun again. The conditions: the package variables errorType of package errors and firstMarks of package utf hold at the call what the program's text lays (tied by the card). -/
import Derived.Test.YtaepfdkbefojmaaDoorUtfRow
import Derived.Test.YtaepfdkbefojmaaDoorUtfLawAllAny
import Derived.Test.YtaepfdkbefojmaaDoorTie
import Derived.Test.YtaepfdkbefojmaaDoorCards
import Derived.SevenTiedAt
namespace Go.Proofs.YtaepfdkbefojmaaDoor
open Go Go.RowKit
open Go.ChangeShapes Go.WideShapes Go.ChangeAt
open Go.ChangeMaps (open_string shut_string)

theorem u8_bd {n : Int} (h : (Lit.int .u8 n).wf = true) : 0 ≤ n ∧ n ≤ 255 := by
  unfold Lit.wf at h
  rw [Bool.and_eq_true] at h
  have h1 : IntKind.u8.min ≤ n := of_decide_eq_true h.1
  have h2 : n ≤ IntKind.u8.max := of_decide_eq_true h.2
  exact ⟨h1, h2⟩

theorem utfAll_witness (os : Os) {H : Type} (enc : TypeId × Value → H) :
    (OpenSpec.ofChange Rows.utfAllSpec).preRow enc Tryd.prog Tryd.f5 Rows.utfAllRow.domain false Rows.utfAllRow.laid ((laidWorldB os).forCall (fun _ _ => 0) ⟨#[], #[.string ⟨#[]⟩, .int .u8 0], []⟩).memory #[.string ⟨#[]⟩, .int .u8 0] := by
  have hw : (DataW.whole enc Tryd.prog ((laidWorldB os).forCall (fun _ _ => 0) ⟨#[], #[.string ⟨#[]⟩, .int .u8 0], []⟩).memory Tryd.f5.params.toList (OpenSpec.ofChange Rows.utfAllSpec).vars false #[Value.string ⟨#[]⟩, Value.int .u8 0].toList 8).map (fun x => (x.1, x.2.1)) =
      some ([.lit (.string []), .lit (.int .u8 0)], []) := by kernel_rfl
  obtain ⟨⟨x1, x2, x3⟩, hx, hx1⟩ := Option.map_eq_some_iff.1 hw
  simp only [Prod.mk.injEq] at hx1
  obtain ⟨rfl, rfl⟩ := hx1
  exact OpenSpec.preRow_of_cond 8 hx (by kernel_rfl) (fun k hk => by cases hk) (by kernel_rfl) (laidWorldB_met _ _)

set_option maxRecDepth 100000 in
set_option maxHeartbeats 1000000 in
theorem utfAll_lifted (os : Os) (started : os.Started) (H : Type) (enc : TypeId × Value → H) (F : Stop.Interp) :
    ReturnsInHanded {} Tryd.checked os 5 .any ((OpenSpec.ofChange Rows.utfAllSpec).preRow enc Tryd.prog Tryd.f5 Rows.utfAllRow.domain false Rows.utfAllRow.laid)
      (((OpenSpec.ofChange Rows.utfAllSpec).at F).post enc Tryd.prog Tryd.f5 false true false false) := by
  refine returnsInHanded_of_row (C := Tryd.checked) (s := OpenSpec.ofChange Rows.utfAllSpec) ownKnobs started (by kernel_rfl) Tryd.func5
    (witness_row_at (enc := enc) (C := Tryd.checked) false (laidWorldB os) #[.string ⟨#[]⟩, .int .u8 0] (laidWorldB_os _) (by kernel_rfl) (by kernel_rfl) (by kernel_rfl) (utfAll_witness os enc)) ?_
  intro W base args ds gs before hval0 hW _ _ _ hL hsh _
  have hval : ∀ (j : Nat) t v, Tryd.f5.params[j]? = some t → args[j]? = some v → Value.okWide Tryd.prog W .any base t v := hval0
  have hW' := hW
  obtain ⟨p, q, hA0, hV0, rfl, _, _⟩ := hW
  have hA : DataW.TrodAll enc Tryd.prog W 0 (fun _ => true) true Tryd.f5.params.toList args.toList ds p := hA0
  rw [Tryd.params5] at hA hval
  obtain ⟨v0, v1, d0, d1, p0, p1, rfl, rfl, rfl, h0, h1⟩ := trodAll_two hA
  obtain ⟨rfl, rfl⟩ := trodVars_none hV0
  obtain ⟨s, rfl, rfl, rfl, ws⟩ := open_string Tryd.underlying9 (hval 0 9 v0 rfl rfl) h0
  obtain ⟨t, rfl, rfl, rfl, wt⟩ := open_int Tryd.underlying5 (hval 1 5 v1 rfl rfl) h1
  clear hA0 hV0 hval0
  simp only [List.append_nil] at hW'
  refine (lawAll_any s t W (errTabB hL) (marksB hL hsh) (by unfold maxLen at ws; omega) (u8_bd wt)).mono ?_
  rintro e W' ⟨rfl, bel⟩
  have e1 : ((OpenSpec.ofChange Rows.utfAllSpec).at F).fn H ([.lit (.string s.data.toList), .lit (.int .u8 t)] ++ []) = { results := [.lit (.bool true)], args := [.lit (.string s.data.toList), .lit (.int .u8 t)] } := rfl
  refine ⟨_, rfl, _, _, _, [], [], [], hW', ?_, ?_, ?_, bel.frame _, fun h => by cases h⟩
  · rw [e1]; exact trodAll_mk1 (shut_bool Tryd.underlying4 _)
  · rw [e1]; exact trodAll_mk2 (shut_string Tryd.underlying9 ws) (shut_int Tryd.underlying5 wt)
  · rw [e1]; rfl

theorem utfAll_said : Rows.UtfAllSaid :=
  OpenClaim.holds_of_cond 5 Tryd.f5 rfl rfl rfl rfl rfl rfl rfl ⟨rfl, rfl, rfl, rfl, rfl⟩ rfl rfl rfl rfl rfl (by kernel_rfl) Tryd.func5 (by kernel_rfl)
    (of_decide_eq_true (by kernel_rfl)) (by unfold Func.isWrapper; rw [if_neg (of_decide_eq_false (by kernel_rfl))]; exact ⟨rfl, rfl⟩)
    (fun os started H enc _ F0 => by rw [OpenClaim.pre_eq_preRow]; exact utfAll_lifted os started H enc F0)

theorem utfAll_card : Rows.UtfAllCardSaid :=
  Claim7.holds_tied_plain_at .later [] [.handle, .data] true (true, "871d04902976611a8e07f287181cc11f8658999cb5a4985be3a176fcef0b1eba") true
    utfAll_said (fun _ h => by cases h) (by kernel_rfl) (fun _ h => by cases h) utfAll_row_tie rfl ⟨rfl, rfl⟩ (by kernel_rfl) rfl
    (fun f fn hf hfn => by
      obtain rfl : f = 5 := Option.some.inj ((show Tryd.prog.funcNamed "warrant/warrantlaw03.UtfAll" = some 5 by kernel_rfl).symm.trans hf) |>.symm
      obtain rfl : fn = Tryd.f5 := (Option.some.inj (Tryd.func5.symm.trans hfn)).symm
      exact ⟨by kernel_rfl, fun j t ht => by
        rw [Tryd.params5] at ht
        have hm : t ∈ [9, 5] := by
          have := Array.mem_of_getElem? ht
          simpa using this
        have hall : ([9, 5].all fun u => !Tryd.prog.wantsStandIn u) = true := by kernel_rfl
        exact (show Tryd.prog.wantsStandIn t = false by simpa using List.all_eq_true.1 hall t hm)⟩)
    (by kernel_rfl)
#print axioms utfAll_card
end Go.Proofs.YtaepfdkbefojmaaDoor
