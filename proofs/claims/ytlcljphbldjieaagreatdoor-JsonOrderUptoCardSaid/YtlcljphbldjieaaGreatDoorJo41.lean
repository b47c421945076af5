/- Proved: for every list of names, every list of JSON values and every byte the law JsonOrder returns true: in whatever order members stand, a text is read as one value, and Obj makes one value of them. The conditions: the arguments are together of bulk at most 1048576 (the statement's second form); the package variables that the row lists hold their own values; each argument is one that Go can hold. -/
import Derived.Test.YtlcljphbldjieaaGreatDoorTie
import Derived.Test.YtlcljphbldjieaaGreatDoorCards
import Derived.SevenTiedAt
import Derived.Test.YtlcljphbldjieaaGreatDoorJo05
import Derived.Test.YtlcljphbldjieaaGreatDoorJo39
import Derived.Test.YtlcljphbldjieaaGreatDoorJo40
set_option linter.all false
namespace Go.Proofs.YtlcljphbldjieaaGreatDoor
open Go Go.RowKit
open Go.ChangeShapes Go.WideShapes Go.ChangeAt
open Go.ChangeMaps (open_string shut_string)
theorem ask5_of {W : World} (h : laidMetH Tryz.prog laidB W) (hsh : W.ShapedOpen Tryz.prog) : Ask5 W := ⟨errTabB h, marksB h hsh⟩
theorem u8_bd {n : Int} (h : (Lit.int .u8 n).wf = true) : 0 ≤ n ∧ n ≤ 255 := by
  unfold Lit.wf at h
  rw [Bool.and_eq_true] at h
  have h1 : IntKind.u8.min ≤ n := of_decide_eq_true h.1
  have h2 : n ≤ IntKind.u8.max := of_decide_eq_true h.2
  exact ⟨h1, h2⟩
theorem laidOutA : laidOutB Tryz.prog = true := by kernel_rfl
theorem jsonOrder_witness (os : Os) {H : Type} (enc : TypeId × Value → H) :
    (Rows.OpenSpec.upto Rows.jsonOrderSpec).preRow enc Tryz.prog Tryz.f9 Rows.jsonOrderUptoRow.domain false Rows.jsonOrderUptoRow.laid ((laidWorldB os).forCall (fun _ _ => 0) ⟨#[], #[.slice none 0 0, .slice none 0 0, .int .u8 0], []⟩).memory #[.slice none 0 0, .slice none 0 0, .int .u8 0] := by
  have hw : (DataW.whole enc Tryz.prog ((laidWorldB os).forCall (fun _ _ => 0) ⟨#[], #[.slice none 0 0, .slice none 0 0, .int .u8 0], []⟩).memory Tryz.f9.params.toList (Rows.OpenSpec.upto Rows.jsonOrderSpec).vars false #[Value.slice none 0 0, Value.slice none 0 0, Value.int .u8 0].toList 8).map (fun x => (x.1, x.2.1)) =
      some ([.nil, .nil, .lit (.int .u8 0)], []) := by kernel_rfl
  obtain ⟨⟨x1, x2, x3⟩, hx, hx1⟩ := Option.map_eq_some_iff.1 hw
  simp only [Prod.mk.injEq] at hx1
  obtain ⟨rfl, rfl⟩ := hx1
  exact OpenSpec.preRow_of_cond 8 hx (by kernel_rfl) (fun k hk => by cases hk; kernel_rfl) (by kernel_rfl) (laidWorldB_met _ _)
set_option maxRecDepth 100000 in
set_option maxHeartbeats 1000000 in
theorem jsonOrder_lifted (os : Os) (started : os.Started) (H : Type) (enc : TypeId × Value → H) (F : Stop.Interp) :
    ReturnsInHanded {} Tryz.checked os 9 .any ((Rows.OpenSpec.upto Rows.jsonOrderSpec).preRow enc Tryz.prog Tryz.f9 Rows.jsonOrderUptoRow.domain false Rows.jsonOrderUptoRow.laid)
      (((Rows.OpenSpec.upto Rows.jsonOrderSpec).at F).post enc Tryz.prog Tryz.f9 false true false false) := by
  refine returnsInHanded_of_row (C := Tryz.checked) (s := Rows.OpenSpec.upto Rows.jsonOrderSpec) ownKnobs started (by kernel_rfl) Tryz.func9
    (witness_row_at (enc := enc) (C := Tryz.checked) false (laidWorldB os) #[.slice none 0 0, .slice none 0 0, .int .u8 0] (laidWorldB_os _) (by kernel_rfl) (by kernel_rfl) (by kernel_rfl) (jsonOrder_witness os enc)) ?_
  intro W base args ds gs before hval0 hW _ hcond _ hL hsh _
  have hval : ∀ (j : Nat) t v, Tryz.f9.params[j]? = some t → args[j]? = some v → Value.okWide Tryz.prog W .any base t v := hval0
  have hW' := hW
  obtain ⟨p, q, hA0, hV0, rfl, _, _⟩ := hW
  have hA : DataW.TrodAll enc Tryz.prog W 0 (fun _ => true) true Tryz.f9.params.toList args.toList ds p := hA0
  rw [Tryz.params9] at hA hval
  obtain ⟨v0, v1, v2, d0, d1, d2, p0, p1, p2, rfl, rfl, rfl, h0, h1, h2⟩ := trodAll_three hA
  obtain ⟨rfl, rfl⟩ := trodVars_none hV0
  obtain ⟨k0, r0⟩ := open_names (hval 0 24 v0 rfl rfl) h0
  have h1k := h1
  obtain ⟨A1, c1, l1, rfl, e1, f1, r1⟩ := open_jsons (hval 1 23 v1 rfl rfl) h1
  obtain ⟨x2, rfl, rfl, rfl, w2⟩ := open_int Tryz.underlying5 (hval 2 5 v2 rfl rfl) h2
  clear hA0 hV0 hval0
  simp only [List.append_nil] at hW'
  have hlt0 : ∀ x ∈ p0, x.block < W.heap.size := fun x hx => hW'.lt x (by simp [hx])
  have hlt1 : ∀ x ∈ p1, x.block < W.heap.size := fun x hx => hW'.lt x (by simp [hx])
  have hbk : Rows.uptoBulkAll ([d0, d1, .lit (.int .u8 x2)] ++ []) ≤ 1048576 := of_decide_eq_true (hcond _ rfl)
  simp only [List.append_nil, Rows.uptoBulkAll, List.nil_append] at hbk
  have h0c := h0
  have h1c := h1k
  obtain ⟨fu0, hf0⟩ := h0c
  obtain ⟨fu1, hf1⟩ := h1c
  have r0c := r0
  obtain ⟨K0, dd0, rfl, hkl, hkc⟩ := r0
  have hf0' : DataW.trod enc Tryz.prog W 0 (fun _ => true) true fu0 24 [.slice K0 k0.length dd0] = some (d0, p0) := hf0
  have hz : ∀ t ∈ k0, t.size ≤ 1000000000 := fun t ht => by have : t.size ≤ Rows.uptoBulk d0 := names_bulk r0c hf0' t ht; omega
  have hM : ∀ x ∈ l1, Mild x := row_mild r1 (fun j _ => json_mild j) hf1 (by show Rows.uptoBulk d1 ≤ _; omega)
  refine (jsonOrder_any k0 l1 K0 A1 dd0 c1 x2 W (ask5_of hL hsh) hz hM (u8_bd w2) hkc r1).mono ?_
  rintro e W' ⟨rfl, bel⟩
  have e1 : ((Rows.OpenSpec.upto Rows.jsonOrderSpec).at F).fn H ([d0, d1, .lit (.int .u8 x2)] ++ []) = { results := [.lit (.bool true)], args := [d0, d1, .lit (.int .u8 x2)] } := rfl
  refine ⟨_, rfl, _, _, _, [], (p0 ++ p1 ++ []), [], hW', ?_, ?_, ?_, bel.frame _, fun h => by cases h⟩
  · rw [e1]; exact trodAll_mk1 (shut_bool Tryz.underlying4 _)
  · rw [e1, List.append_assoc]; exact trodAll_mk3 (Below.trod laidOutA (by kernel_rfl) (of_decide_eq_true (by kernel_rfl)) h0 bel hlt0) (Below.trod laidOutA (by kernel_rfl) (of_decide_eq_true (by kernel_rfl)) h1k bel hlt1) (shut_int Tryz.underlying5 w2)
  · rw [e1]; rfl
theorem jsonOrder_said : Rows.JsonOrderUptoSaid :=
  OpenClaim.holds_of_cond 9 Tryz.f9 rfl rfl rfl rfl rfl rfl rfl ⟨rfl, rfl, rfl, rfl, rfl⟩ rfl rfl rfl rfl rfl (by kernel_rfl) Tryz.func9 (by kernel_rfl)
    (of_decide_eq_true (by kernel_rfl)) (by unfold Func.isWrapper; rw [if_neg (of_decide_eq_false (by kernel_rfl))]; exact ⟨rfl, rfl⟩)
    (fun os started H enc _ F0 => by rw [OpenClaim.pre_eq_preRow]; exact jsonOrder_lifted os started H enc F0)
theorem jsonOrder_card : Rows.JsonOrderUptoCardSaid :=
  Claim7.holds_tied_plain_at .later [] _ _ _ _
    jsonOrder_said (fun _ h => by cases h) (by kernel_rfl) (fun _ h => by cases h) jsonOrderUpto_row_tie rfl ⟨rfl, rfl⟩ (by kernel_rfl) rfl
    (fun f fn hf hfn => by
      obtain rfl : f = 9 := Option.some.inj ((show Tryz.prog.funcNamed "warrant/warrantlaw05.JsonOrder" = some 9 by kernel_rfl).symm.trans hf) |>.symm
      obtain rfl : fn = Tryz.f9 := (Option.some.inj (Tryz.func9.symm.trans hfn)).symm
      exact ⟨by kernel_rfl, fun j t ht => by
        rw [Tryz.params9] at ht
        have hm : t ∈ [24, 23, 5] := by
          have := Array.mem_of_getElem? ht
          simpa using this
        have hall : ([24, 23, 5].all fun u => !Tryz.prog.wantsStandIn u) = true := by kernel_rfl
        exact (show Tryz.prog.wantsStandIn t = false by simpa using List.all_eq_true.1 hall t hm)⟩)
    (by kernel_rfl)
end Go.Proofs.YtlcljphbldjieaaGreatDoor
