/- Proved: for every list of tokens and every list of bytes the law LexBlanks returns true: blanks and remarks between tokens count for nothing but their places. The conditions: the arguments are together of bulk at most 1048576 (the statement's second form); the package variable that the row lists holds its own value; each argument is one that Go can hold. -/
import Derived.Test.YtljdnjidphmkjaaDoorTie
import Derived.SevenTiedAt
import Derived.Test.YtljdnjidphmkjaaDoorCards
import Derived.Test.YtljdnjidphmkjaaDoorLk12
import Derived.Test.YtljdnjidphmkjaaDoorLk13
set_option linter.all false
namespace Go.Proofs.YtljdnjidphmkjaaDoor
open Go Go.RowKit
open Go.ChangeShapes Go.WideShapes Go.ChangeAt
open Go.ChangeMaps (open_string shut_string)
theorem laidOutA : laidOutB Tryd.prog = true := by kernel_rfl
theorem lexBlanks_witness (os : Os) {H : Type} (enc : TypeId × Value → H) :
    (Rows.OpenSpec.upto Rows.lexBlanksSpec).preRow enc Tryd.prog Tryd.f6 Rows.lexBlanksUptoRow.domain false Rows.lexBlanksUptoRow.laid ((laidWorldB os).forCall (fun _ _ => 0) ⟨#[], #[.slice none 0 0, .slice none 0 0], []⟩).memory #[.slice none 0 0, .slice none 0 0] := by
  have hw : (DataW.whole enc Tryd.prog ((laidWorldB os).forCall (fun _ _ => 0) ⟨#[], #[.slice none 0 0, .slice none 0 0], []⟩).memory Tryd.f6.params.toList (Rows.OpenSpec.upto Rows.lexBlanksSpec).vars false #[Value.slice none 0 0, Value.slice none 0 0].toList 8).map (fun x => (x.1, x.2.1)) =
      some ([.nil, .nil], []) := by kernel_rfl
  obtain ⟨⟨x1, x2, x3⟩, hx, hx1⟩ := Option.map_eq_some_iff.1 hw
  simp only [Prod.mk.injEq] at hx1
  obtain ⟨rfl, rfl⟩ := hx1
  exact OpenSpec.preRow_of_cond 8 hx (by kernel_rfl) (fun k hk => by cases hk; kernel_rfl) (by kernel_rfl) (laidWorldP_met _ _)
set_option maxRecDepth 100000 in
set_option maxHeartbeats 1000000 in
theorem lexBlanks_lifted (os : Os) (started : os.Started) (H : Type) (enc : TypeId × Value → H) (F : Stop.Interp) :
    ReturnsInHanded {} Tryd.checked os 6 .any ((Rows.OpenSpec.upto Rows.lexBlanksSpec).preRow enc Tryd.prog Tryd.f6 Rows.lexBlanksUptoRow.domain false Rows.lexBlanksUptoRow.laid)
      (((Rows.OpenSpec.upto Rows.lexBlanksSpec).at F).post enc Tryd.prog Tryd.f6 false true false false) := by
  refine returnsInHanded_of_row (C := Tryd.checked) (s := Rows.OpenSpec.upto Rows.lexBlanksSpec) ownKnobs started (by kernel_rfl) Tryd.func6
    (witness_row_at (enc := enc) (C := Tryd.checked) false (laidWorldB os) #[.slice none 0 0, .slice none 0 0] (laidWorldB_os _) (by kernel_rfl) (by kernel_rfl) (by kernel_rfl) (lexBlanks_witness os enc)) ?_
  intro W base args ds gs before hval0 hW _ hcond _ hL hsh _
  have hval : ∀ (j : Nat) t v, Tryd.f6.params[j]? = some t → args[j]? = some v → Value.okWide Tryd.prog W .any base t v := hval0
  have hW' := hW
  obtain ⟨p, q, hA0, hV0, rfl, _, _⟩ := hW
  have hA : DataW.TrodAll enc Tryd.prog W 0 (fun _ => true) true Tryd.f6.params.toList args.toList ds p := hA0
  rw [Tryd.params6] at hA hval
  obtain ⟨v0, vs0, d0, ds0, p0, q0, hargs, rfl, rfl, h0, hr0⟩ := trodAll_cons hA
  obtain ⟨v1, vs1, d1, ds1, p1, q1, rfl, rfl, rfl, h1, hr1⟩ := trodAll_cons hr0
  obtain ⟨rfl, rfl, rfl⟩ := trodAll_nil hr1
  obtain rfl : args = #[v0, v1] := by cases args; simp_all
  clear hargs
  obtain ⟨rfl, rfl⟩ := trodVars_none hV0
  have h0k := h0
  obtain ⟨A0, n0, c0, ts0, rfl, a0, b0, m0, o0, r0⟩ := open_toks (hval 0 23 v0 rfl rfl) h0
  have h1k := h1
  obtain ⟨A1, n1, c1, xs1, rfl, a1, b1, m1, o1, r1⟩ := open_u8s (hval 1 40 v1 rfl rfl) h1
  clear hA0 hV0 hval0
  simp only [List.append_nil] at hW'
  have hlt0 : ∀ x ∈ p0, x.block < W.heap.size := fun x hx => hW'.lt x (by simp [hx])
  have hlt1 : ∀ x ∈ p1, x.block < W.heap.size := fun x hx => hW'.lt x (by simp [hx])
  have hbk : Rows.uptoBulkAll ([d0, d1] ++ []) ≤ 1048576 := of_decide_eq_true (hcond _ rfl)
  simp only [List.append_nil, Rows.uptoBulkAll] at hbk
  have h0c := h0k
  obtain ⟨fu0, hf0⟩ := h0c
  have hf0' : DataW.trod enc Tryd.prog W 0 (fun _ => true) true fu0 23 [.slice A0 n0 c0] = some (d0, p0) := hf0
  have hbig : ∀ t ∈ ts0, t.text.size ≤ 2000000 := fun t ht => by have : t.text.size ≤ Rows.uptoBulk d0 := toks_bulk r0 a0 hf0' t ht; omega
  refine (lexBlanks_any ts0 A0 n0 c0 xs1 A1 n1 c1 W (ask11P hL hsh) a0 b0 m0 o0 hbig r0 a1 b1 m1 o1 r1).mono ?_
  rintro e W' ⟨rfl, bel⟩
  have e1 : ((Rows.OpenSpec.upto Rows.lexBlanksSpec).at F).fn H ([d0, d1] ++ []) = { results := [.lit (.bool true)], args := [d0, d1] } := rfl
  refine ⟨_, rfl, _, _, _, [], (p0 ++ (p1)), [], hW', ?_, ?_, ?_, bel.frame _, fun h => by cases h⟩
  · rw [e1]; exact trodAll_mk1 (shut_bool Tryd.underlying4 _)
  · rw [e1]; exact (⟨_, _, (Below.trod laidOutA (by kernel_rfl) (of_decide_eq_true (by kernel_rfl)) h0k bel hlt0), trodAll_mk1 (Below.trod laidOutA (by kernel_rfl) (of_decide_eq_true (by kernel_rfl)) h1k bel hlt1), rfl⟩)
  · rw [e1]; rfl
end Go.Proofs.YtljdnjidphmkjaaDoor
namespace Go.Proofs.YtljdnjidphmkjaaDoor
open Go Go.RowKit
open Go.ChangeShapes Go.WideShapes Go.ChangeAt
open Go.ChangeMaps (open_string shut_string)
theorem lexBlanks_said : Rows.LexBlanksUptoSaid :=
  OpenClaim.holds_of_cond 6 Tryd.f6 rfl rfl rfl rfl rfl rfl rfl ⟨rfl, rfl, rfl, rfl, rfl⟩ rfl rfl rfl rfl rfl (by kernel_rfl) Tryd.func6 (by kernel_rfl)
    (of_decide_eq_true (by kernel_rfl)) (by unfold Func.isWrapper; rw [if_neg (of_decide_eq_false (by kernel_rfl))]; exact ⟨rfl, rfl⟩)
    (fun os started H enc _ F0 => by rw [OpenClaim.pre_eq_preRow]; exact lexBlanks_lifted os started H enc F0)
theorem lexBlanks_card : Rows.LexBlanksUptoCardSaid :=
  Claim7.holds_tied_plain_at .later [] [.data] true (true, "06593d348faffb021fb9bea925308417cb2f4b6c7ae3f0cf108e687fa7a1e9a1") true
    lexBlanks_said (fun _ h => by cases h) (by kernel_rfl) (fun _ h => by cases h) lexBlanksUpto_row_tie rfl ⟨rfl, rfl⟩ (by kernel_rfl) rfl
    (fun f fn hf hfn => by
      obtain rfl : f = 6 := Option.some.inj ((show Tryd.prog.funcNamed "warrant/warrantlaw11.LexBlanks" = some 6 by kernel_rfl).symm.trans hf) |>.symm
      obtain rfl : fn = Tryd.f6 := (Option.some.inj (Tryd.func6.symm.trans hfn)).symm
      exact ⟨by kernel_rfl, fun j t ht => by
        rw [Tryd.params6] at ht
        have hm : t ∈ [23, 40] := by
          have := Array.mem_of_getElem? ht
          simpa using this
        have hall : ([23, 40].all fun u => !Tryd.prog.wantsStandIn u) = true := by kernel_rfl
        exact (show Tryd.prog.wantsStandIn t = false by simpa using List.all_eq_true.1 hall t hm)⟩)
    (by kernel_rfl)
end Go.Proofs.YtljdnjidphmkjaaDoor
