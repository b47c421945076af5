/- pkce's mathematics: which texts are verifiers, their challenges, which texts may be challenges. -/
import Derived.Test.YtdgpphihjeffcaaDoorShaEval
import Derived.Test.YtdgpphihjeffcaaDoorB64Txt
namespace Go.Proofs.YtdgpphihjeffcaaDoor
open Go Go.RowKit

/-- A byte that may be in a verifier. -/
def mayC (c : Int) : Bool := decide ((65 ≤ c ∧ c ≤ 90) ∨ (97 ≤ c ∧ c ≤ 122) ∨ (48 ≤ c ∧ c ≤ 57) ∨ c = 45 ∨ c = 46 ∨ c = 95 ∨ c = 126)
/-- A verifier. -/
def verL (l : List Int) : Bool := decide (43 ≤ l.length) && (decide (l.length ≤ 128) && l.all mayC)
/-- A verifier's challenge. -/
def chalS (p : Bool) (s : ByteArray) : ByteArray := if p = true then s else ⟨(toU (encL (digestL (strL s)))).toArray⟩
/-- The text of as many bytes as a digest has. -/
def ofDig (l : List Int) : Bool := decide (faultL l = -1) && decide ((decL l).length = 32)
/-- What may be a challenge. -/
def rightP (p : Bool) (l : List Int) : Bool := if p = true then verL l else ofDig l

theorem mayC_sg (n : Int) (h : 0 ≤ n ∧ n < 64) : mayC (sg n) = true := by
  unfold mayC
  refine decide_eq_true ?_
  unfold sg; split <;> (try split) <;> (try split) <;> (try split) <;> omega
theorem verL_all {l : List Int} (h : verL l = true) : 43 ≤ l.length ∧ l.length ≤ 128 ∧ ∀ k, k < l.length → mayC (l.getD k 0) = true := by
  unfold verL at h
  rw [Bool.and_eq_true, Bool.and_eq_true] at h
  refine ⟨of_decide_eq_true h.1, of_decide_eq_true h.2.1, fun k hk => ?_⟩
  have := List.all_eq_true.1 h.2.2 (l.getD k 0) (by rw [List.getD_eq_getElem?_getD, List.getElem?_eq_getElem hk]; exact List.getElem_mem _)
  exact this
theorem verL_of {l : List Int} (h1 : 43 ≤ l.length) (h2 : l.length ≤ 128) (h : ∀ k, k < l.length → mayC (l.getD k 0) = true) : verL l = true := by
  unfold verL
  rw [Bool.and_eq_true, Bool.and_eq_true]
  refine ⟨decide_eq_true h1, decide_eq_true h2, List.all_eq_true.2 fun x hx => ?_⟩
  obtain ⟨k, hk, rfl⟩ := List.getElem_of_mem hx
  have := h k hk
  rwa [List.getD_eq_getElem?_getD, List.getElem?_eq_getElem hk] at this
theorem verL_short {l : List Int} (h : l.length < 43) : verL l = false := by
  unfold verL; rw [decide_eq_false (by omega)]; rfl
theorem verL_long {l : List Int} (h : 128 < l.length) : verL l = false := by
  unfold verL; rw [decide_eq_false (p := l.length ≤ 128) (by omega)]; simp
theorem verL_bad {l : List Int} (k : Nat) (hk : k < l.length) (h : mayC (l.getD k 0) = false) : verL l = false := by
  cases hv : verL l with
  | false => rfl
  | true => rw [(verL_all hv).2.2 k hk] at h; cases h
theorem byt_digest (l : List Int) : Byt (digestL l) := fun x hx => (digestL_bd l).mem hx
theorem ver_enc {d : List Int} (hd : Byt d) (h : d.length = 32) : verL (encL d) = true := by
  have hl : (encL d).length = 43 := by rw [length_encL, h]
  refine verL_of (by omega) (by omega) fun k hk => ?_
  obtain ⟨n, h0, h1, e⟩ := encL_signs d hd ((encL d).getD k 0) (by rw [List.getD_eq_getElem?_getD, List.getElem?_eq_getElem hk]; exact List.getElem_mem _)
  rw [e]; exact mayC_sg n ⟨h0, h1⟩
theorem ofDig_ver {l : List Int} (h : ofDig l = true) : verL l = true := by
  unfold ofDig at h
  rw [Bool.and_eq_true] at h
  have hf := of_decide_eq_true h.1
  have hb : Byt (decL l) := fun x hx => (decL_bytes (Good.of_fault hf)).mem hx
  rw [← enc_of_right l hf]
  exact ver_enc hb (of_decide_eq_true h.2)
theorem ofDig_enc (l : List Int) : ofDig (encL (digestL l)) = true := by
  unfold ofDig
  rw [decide_eq_true (fault_enc _ (byt_digest l)), decL_encL _ (byt_digest l), decide_eq_true (length_digestL l)]
  rfl
theorem right_and (p : Bool) (l : List Int) : rightP p l = (verL l && (p || ofDig l)) := by
  cases p with
  | true => simp [rightP]
  | false =>
    cases ho : ofDig l with
    | true => simp [rightP, ho, ofDig_ver ho]
    | false => simp [rightP, ho]
theorem strL_chal (p : Bool) (s : ByteArray) : strL (chalS p s) = if p = true then strL s else encL (digestL (strL s)) := by
  unfold chalS
  cases p with
  | true => rw [if_pos rfl, if_pos rfl]
  | false => rw [if_neg (by decide), if_neg (by decide)]; exact strL_toU (encL_bytes (digestL_bd _))
theorem right_chal (p : Bool) (s : ByteArray) (h : verL (strL s) = true) : rightP p (strL (chalS p s)) = true := by
  rw [strL_chal]
  cases p with
  | true => rw [if_pos rfl]; unfold rightP; rw [if_pos rfl]; exact h
  | false => rw [if_neg (by decide)]; unfold rightP; rw [if_neg (by decide)]; exact ofDig_enc _
theorem ver_chal (p : Bool) (s : ByteArray) (h : verL (strL s) = true) : verL (strL (chalS p s)) = true := by
  have := right_chal p s h
  rw [right_and, Bool.and_eq_true] at this
  exact this.1
theorem size_chal (p : Bool) (s : ByteArray) (h : verL (strL s) = true) : 43 ≤ (chalS p s).size ∧ (chalS p s).size ≤ 128 := by
  have := verL_all (ver_chal p s h)
  rw [length_strL] at this
  exact ⟨this.1, this.2.1⟩
def exV : ByteArray := ⟨#[100, 66, 106, 102, 116, 74, 101, 90, 52, 67, 86, 80, 45, 109, 66, 57, 50, 75, 50, 55, 117, 104, 98, 85, 74, 85, 49, 112, 49, 114, 95, 119, 87, 49, 103, 70, 87, 70, 79, 69, 106, 88, 107]⟩
def exC : ByteArray := ⟨#[69, 57, 77, 101, 108, 104, 111, 97, 50, 79, 119, 118, 70, 114, 69, 77, 84, 74, 103, 117, 67, 72, 97, 111, 101, 75, 49, 116, 56, 85, 82, 87, 98, 117, 71, 74, 83, 115, 116, 119, 45, 99, 77]⟩
set_option maxRecDepth 1000000 in
theorem ex_digest : digestL (strL exV) = [19, 211, 30, 150, 26, 26, 216, 236, 47, 22, 177, 12, 76, 152, 46, 8, 118, 168, 120, 173, 109, 241, 68, 86, 110, 225, 137, 74, 203, 112, 249, 195] := by
  rw [← digestE_eq]; decide +kernel
set_option maxRecDepth 1000000 in
theorem ex_enc : encL [19, 211, 30, 150, 26, 26, 216, 236, 47, 22, 177, 12, 76, 152, 46, 8, 118, 168, 120, 173, 109, 241, 68, 86, 110, 225, 137, 74, 203, 112, 249, 195] = strL exC := by decide +kernel
theorem ex_chal : chalS false exV = exC := by
  refine strL_inj ?_
  rw [strL_chal, if_neg (by decide), ex_digest, ex_enc]
set_option maxRecDepth 1000000 in
theorem ex_ver : verL (strL exV) = true := by decide +kernel
theorem ex_right : rightP false (strL exC) = true := by
  rw [← ex_chal]; exact right_chal false exV ex_ver
end Go.Proofs.YtdgpphihjeffcaaDoor
