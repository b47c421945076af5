/- Proved: for every string and every two bytes the law JsonBlanks returns true: blanks at either end of a text count for nothing, and a beginning of a text is none. The conditions: the package variables that the row lists hold their own values; each argument reads as data. -/
import Derived.Deep.Slices
import Derived.Deep.Fields
import Derived.ChangeSame
import Derived.Carry
import Derived.Test.YtblheibknpphkaaGreatDoorTie
import Derived.Test.YtblheibknpphkaaGreatDoorCards
import Derived.SevenTiedAt
import Derived.Test.YtblheibknpphkaaGreatDoorBa19
import Derived.Test.YtblheibknpphkaaGreatDoorBa20
import Derived.Test.YtblheibknpphkaaGreatDoorBa45
import Derived.Test.YtblheibknpphkaaGreatDoorBb04
set_option linter.all false
namespace Go.Proofs.YtblheibknpphkaaGreatDoor
open Go Go.RowKit
open Go.ChangeShapes Go.WideShapes Go.ChangeAt
open Go.ChangeMaps (open_string shut_string)
theorem ask5_of {W : World} (h : laidMetH Tryz.prog laidB W) (hsh : W.ShapedOpen Tryz.prog) : Ask5 W := ⟨errTabB h, marksB h hsh⟩
theorem u8_bd {n : Int} (h : (Lit.int .u8 n).wf = true) : 0 ≤ n ∧ n ≤ 255 := by
  unfold Lit.wf at h
  rw [Bool.and_eq_true] at h
  have h1 : IntKind.u8.min ≤ n := of_decide_eq_true h.1
  have h2 : n ≤ IntKind.u8.max := of_decide_eq_true h.2
  exact ⟨h1, h2⟩
theorem jsonBlanks_witness (os : Os) {H : Type} (enc : TypeId × Value → H) :
    (OpenSpec.ofChange Rows.jsonBlanksSpec).preRow enc Tryz.prog Tryz.f6 Rows.jsonBlanksRow.domain false Rows.jsonBlanksRow.laid ((laidWorldB os).forCall (fun _ _ => 0) ⟨#[], #[.string ⟨#[]⟩, .int .u8 0, .int .u8 0], []⟩).memory #[.string ⟨#[]⟩, .int .u8 0, .int .u8 0] := by
  have hw : (DataW.whole enc Tryz.prog ((laidWorldB os).forCall (fun _ _ => 0) ⟨#[], #[.string ⟨#[]⟩, .int .u8 0, .int .u8 0], []⟩).memory Tryz.f6.params.toList (OpenSpec.ofChange Rows.jsonBlanksSpec).vars false #[Value.string ⟨#[]⟩, Value.int .u8 0, Value.int .u8 0].toList 8).map (fun x => (x.1, x.2.1)) =
      some ([.lit (.string []), .lit (.int .u8 0), .lit (.int .u8 0)], []) := by kernel_rfl
  obtain ⟨⟨x1, x2, x3⟩, hx, hx1⟩ := Option.map_eq_some_iff.1 hw
  simp only [Prod.mk.injEq] at hx1
  obtain ⟨rfl, rfl⟩ := hx1
  exact OpenSpec.preRow_of_cond 8 hx (by kernel_rfl) (fun k hk => by cases hk) (by kernel_rfl) (laidWorldB_met _ _)
set_option maxRecDepth 100000 in
set_option maxHeartbeats 1000000 in
theorem jsonBlanks_lifted (os : Os) (started : os.Started) (H : Type) (enc : TypeId × Value → H) (F : Stop.Interp) :
    ReturnsInHanded {} Tryz.checked os 6 .any ((OpenSpec.ofChange Rows.jsonBlanksSpec).preRow enc Tryz.prog Tryz.f6 Rows.jsonBlanksRow.domain false Rows.jsonBlanksRow.laid)
      (((OpenSpec.ofChange Rows.jsonBlanksSpec).at F).post enc Tryz.prog Tryz.f6 false true false false) := by
  refine returnsInHanded_of_row (C := Tryz.checked) (s := OpenSpec.ofChange Rows.jsonBlanksSpec) ownKnobs started (by kernel_rfl) Tryz.func6
    (witness_row_at (enc := enc) (C := Tryz.checked) false (laidWorldB os) #[.string ⟨#[]⟩, .int .u8 0, .int .u8 0] (laidWorldB_os _) (by kernel_rfl) (by kernel_rfl) (by kernel_rfl) (jsonBlanks_witness os enc)) ?_
  intro W base args ds gs before hval0 hW _ _ _ hL hsh _
  have hval : ∀ (j : Nat) t v, Tryz.f6.params[j]? = some t → args[j]? = some v → Value.okWide Tryz.prog W .any base t v := hval0
  have hW' := hW
  obtain ⟨p, q, hA0, hV0, rfl, _, _⟩ := hW
  have hA : DataW.TrodAll enc Tryz.prog W 0 (fun _ => true) true Tryz.f6.params.toList args.toList ds p := hA0
  rw [Tryz.params6] at hA hval
  obtain ⟨v0, v1, v2, d0, d1, d2, p0, p1, p2, rfl, rfl, rfl, h0, h1, h2⟩ := trodAll_three hA
  obtain ⟨rfl, rfl⟩ := trodVars_none hV0
  obtain ⟨x0, rfl, rfl, rfl, w0⟩ := open_string Tryz.underlying9 (hval 0 9 v0 rfl rfl) h0
  obtain ⟨x1, rfl, rfl, rfl, w1⟩ := open_int Tryz.underlying5 (hval 1 5 v1 rfl rfl) h1
  obtain ⟨x2, rfl, rfl, rfl, w2⟩ := open_int Tryz.underlying5 (hval 2 5 v2 rfl rfl) h2
  clear hA0 hV0 hval0
  simp only [List.append_nil] at hW'
  refine (jsonBlanks_any x0 x1 x2 W (ask5_of hL hsh) (by unfold maxLen at w0; omega) (u8_bd w1) (u8_bd w2)).mono ?_
  rintro e W' ⟨rfl, bel⟩
  have e1 : ((OpenSpec.ofChange Rows.jsonBlanksSpec).at F).fn H ([.lit (.string x0.data.toList), .lit (.int .u8 x1), .lit (.int .u8 x2)] ++ []) = { results := [.lit (.bool true)], args := [.lit (.string x0.data.toList), .lit (.int .u8 x1), .lit (.int .u8 x2)] } := rfl
  refine ⟨_, rfl, _, _, _, [], [], [], hW', ?_, ?_, ?_, bel.frame _, fun h => by cases h⟩
  · rw [e1]; exact trodAll_mk1 (shut_bool Tryz.underlying4 _)
  · rw [e1]; exact trodAll_mk3 (shut_string Tryz.underlying9 w0) (shut_int Tryz.underlying5 w1) (shut_int Tryz.underlying5 w2)
  · rw [e1]; rfl
theorem jsonBlanks_said : Rows.JsonBlanksSaid :=
  OpenClaim.holds_of_cond 6 Tryz.f6 rfl rfl rfl rfl rfl rfl rfl ⟨rfl, rfl, rfl, rfl, rfl⟩ rfl rfl rfl rfl rfl (by kernel_rfl) Tryz.func6 (by kernel_rfl)
    (of_decide_eq_true (by kernel_rfl)) (by unfold Func.isWrapper; rw [if_neg (of_decide_eq_false (by kernel_rfl))]; exact ⟨rfl, rfl⟩)
    (fun os started H enc _ F0 => by rw [OpenClaim.pre_eq_preRow]; exact jsonBlanks_lifted os started H enc F0)
theorem jsonBlanks_card : Rows.JsonBlanksCardSaid :=
  Claim7.holds_tied_plain_at .later [] [.handle, .data] true (true, "326a002ea8c239e1cc5bc0a17cc9241698516044e603bea33a5f4a3987f128ff") true
    jsonBlanks_said (fun _ h => by cases h) (by kernel_rfl) (fun _ h => by cases h) jsonBlanks_row_tie rfl ⟨rfl, rfl⟩ (by kernel_rfl) rfl
    (fun f fn hf hfn => by
      obtain rfl : f = 6 := Option.some.inj ((show Tryz.prog.funcNamed "warrant/warrantlaw05.JsonBlanks" = some 6 by kernel_rfl).symm.trans hf) |>.symm
      obtain rfl : fn = Tryz.f6 := (Option.some.inj (Tryz.func6.symm.trans hfn)).symm
      exact ⟨by kernel_rfl, fun j t ht => by
        rw [Tryz.params6] at ht
        have hm : t ∈ [9, 5] := by
          have := Array.mem_of_getElem? ht
          simpa using this
        have hall : ([9, 5].all fun u => !Tryz.prog.wantsStandIn u) = true := by kernel_rfl
        exact (show Tryz.prog.wantsStandIn t = false by simpa using List.all_eq_true.1 hall t hm)⟩)
    (by kernel_rfl)
end Go.Proofs.YtblheibknpphkaaGreatDoor
