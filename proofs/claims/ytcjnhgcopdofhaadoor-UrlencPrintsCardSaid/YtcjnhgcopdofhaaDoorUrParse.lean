/- The walk of urlenc's Parse. -/
import Derived.Test.YtcjnhgcopdofhaaDoorUrRead
import Derived.Lib.SplitLaws
namespace Go.Proofs.YtcjnhgcopdofhaaDoor
open Go Go.RowKit

theorem infoPar : (Tryd.prog.info? 45).map (fun i => (i.zero, i.size, i.bytes)) = some (some (.agg #[.string ⟨#[]⟩, .string ⟨#[]⟩]), 2, 32) := by kernel_rfl
def flatP (ps : PList) : List Value := ps.flatMap fun p => [.string p.1, .string p.2]
theorem flatP_snoc (ps : PList) (a b : ByteArray) : flatP (ps ++ [(a, b)]) = flatP ps ++ [.string a, .string b] := by simp [flatP]
theorem flatP_get : ∀ (ps : PList) (i : Nat) (p : ByteArray × ByteArray), ps[i]? = some p → (flatP ps)[i * 2]? = some (.string p.1) ∧ (flatP ps)[i * 2 + 1]? = some (.string p.2)
  | [], i, p, h => by simp at h
  | q :: r, 0, p, h => by simp at h; subst h; simp [flatP]
  | q :: r, i + 1, p, h => by
    obtain ⟨h1, h2⟩ := flatP_get r i p (by simpa using h)
    have e : flatP (q :: r) = .string q.1 :: .string q.2 :: flatP r := by simp [flatP]
    rw [e, show (i + 1) * 2 = i * 2 + 1 + 1 by omega, show i * 2 + 1 + 1 + 1 = (i * 2 + 1) + 1 + 1 from rfl]
    simp only [List.getElem?_cons_succ]
    exact ⟨h1, h2⟩
theorem own_params {W : World} {base : Nat} {v : Value} {ps : PList} {n : Nat} (hown : W.ownsRow base 45 2 v n (flatP ps)) (hn : ps.length = n) : ∃ A c, v = .slice A n c ∧ n ≤ c ∧ LiesP W A ps := by
  rcases hown.2 with ⟨rfl, h0⟩ | ⟨g, cap, cur, rfl, hg, hcell, hle, hm, _⟩
  · subst h0
    exact ⟨none, 0, rfl, Nat.le_refl _, fun hp => by omega⟩
  · refine ⟨some ⟨g, 0, none⟩, cap, rfl, hle, fun _ => ⟨g, 0, rfl, (hown.lt g rfl).2, fun i p hi => ?_⟩⟩
    obtain ⟨h1, h2⟩ := flatP_get ps i p hi
    have k1 := hown.cells (g := g) rfl _ _ h1
    have k2 := hown.cells (g := g) rfl _ _ h2
    rw [Addr.add_mid] at k1 k2
    exact ⟨by simpa using k1, by simpa [Nat.add_assoc] using k2⟩
theorem UAtTells.low {pos n : Int} {w w0 W : World} {v : Value} (h : UAtTells pos n w0 v W) (hb : w.heap.size ≤ w0.heap.size) : UAtTells pos n w v W := by
  obtain ⟨b, e, h0, h1, h2⟩ := h
  exact ⟨b, e, h0, h1, by omega⟩
theorem UAtTells.below {pos n : Int} {w W W' : World} {v : Value} (h : UAtTells pos n w v W) (hb : Below W.heap.size W W') : UAtTells pos n w v W' := by
  obtain ⟨b, e, h0, h1, h2⟩ := h
  have hlt : b < W.heap.size := lt_of_cell h0
  exact ⟨b, e, (hb.cell (p := ⟨b, 0, none⟩) hlt).trans h0, (hb.cell (p := ⟨b, 0 + 1, none⟩) hlt).trans h1, h2⟩
/-- What an error tells: none; a number alone; a number and a place. -/
def ErrTells (n pos : Int) (w : World) (v : Value) (w' : World) : Prop :=
  (n = 0 ∧ pos = -1 ∧ v = .nilIface) ∨ (n ≠ 0 ∧ pos = -1 ∧ v = .iface 46 (.int .i64 n)) ∨ (n ≠ 0 ∧ 0 ≤ pos ∧ UAtTells pos n w v w')
/-- What Parse hands back. -/
def ParseTells (r : PList × Int × Int) (w : World) (e : Ending) (w' : World) : Prop :=
  ∃ A c v, e = .returned (.tuple #[.slice A r.1.length c, v]) ∧ LiesP w' A r.1 ∧ ErrTells r.2.1 r.2.2 w v w' ∧ Below w.heap.size w w'
theorem parts_mem : ∀ (l p : List Int), p ∈ partsL l → p.length ≤ l.length ∧ ∀ x ∈ p, x ∈ l
  | [], p, h => by simp [partsL] at h; subst h; simp
  | c :: r, p, h => by
    unfold partsL at h
    split at h
    · rcases List.mem_cons.1 h with rfl | h
      · simp
      · obtain ⟨h1, h2⟩ := parts_mem r p h
        exact ⟨by simp; omega, fun x hx => List.mem_cons_of_mem _ (h2 x hx)⟩
    · split at h
      · rename_i q qs e
        rcases List.mem_cons.1 h with rfl | h
        · obtain ⟨h1, h2⟩ := parts_mem r q (by rw [e]; simp)
          refine ⟨by simpa using h1, fun x hx => ?_⟩
          rcases List.mem_cons.1 hx with rfl | hx
          · simp
          · exact List.mem_cons_of_mem _ (h2 x hx)
        · obtain ⟨h1, h2⟩ := parts_mem r p (by rw [e]; simp [h])
          exact ⟨by simp; omega, fun x hx => List.mem_cons_of_mem _ (h2 x hx)⟩
      · rename_i e; exact absurd e (partsL_ne r)
theorem parts_len : ∀ l : List Int, (partsL l).length ≤ l.length + 1
  | [] => by simp [partsL]
  | c :: r => by
    have := parts_len r
    unfold partsL
    split
    · simp; omega
    · split
      · rename_i q qs e; rw [e] at this; simp at this ⊢; omega
      · simp
set_option maxRecDepth 100000 in
set_option maxHeartbeats 1000000 in
theorem parse_long (s : ByteArray) (w : World) (h : 4096 < s.size) :
    Calls Tryd.prog 8 #[.string s] w (ParseTells (parsedP s) w) := by
  have HR : Hid (parsedP s = ([], 2, -1)) := Lib.hid (by rw [parsedP, if_pos h])
  have hf : (4096 : Int) < (s.size : Int) := by omega
  rw [HR.out]
  go_enter Tryd.func8, Tryd.ntmps8
  go_wp2
  go_ret2
  exact ⟨none, 0, _, rfl, LiesP.nil _ _, .inr (.inl ⟨by decide, rfl, rfl⟩), Below.refl _ _⟩
theorem split_any (s : ByteArray) (w : World) (hM : MaxL w) (hs : s.size ≤ 1000000) :
    Calls Tryd.prog 22 #[.string s, .string ⟨#[38]⟩] w fun e w' => ∃ PS : List ByteArray, PS.map strL = partsL (strL s) ∧ e = .returned (.slice (some ⟨w.heap.size, 0, none⟩) PS.length PS.length) ∧ (∀ i t, PS[i]? = some t → w'.cell? ⟨w.heap.size, i, none⟩ = some (.string t)) ∧ w.heap.size < w'.heap.size ∧ Below w.heap.size w w' := by
  obtain ⟨m, hm⟩ := hM
  refine (Tryd.strings_Split s ⟨#[38]⟩ m w (by omega) hm (by decide)).mono ?_
  rintro e w' ⟨rfl, rfl⟩
  refine ⟨Lib.splitB ⟨#[38]⟩ 0 (Lib.countB s ⟨#[38]⟩) s, split_parts s ⟨#[38]⟩ rfl, ?_, fun i t hi => ?_, by simp, belowAlloc _ _⟩
  · rw [Lib.splitB_all _ (by decide) 0 _ s rfl]
  · rw [cell_of_row _ _ _ _ _ _ (heap_alloc_new w _)]
    simp [hi]
end Go.Proofs.YtcjnhgcopdofhaaDoor
