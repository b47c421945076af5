/- DecSpec, DecRead: merged. -/
import Derived.LaidEql
import Derived.Stop.Asserts
import Derived.RowKitTokens
import Derived.Test.YtljdnjidphmkjaaDoorLx04
set_option linter.all false
namespace Go.Proofs.YtljdnjidphmkjaaDoor
open Go Go.RowKit
/-- An error with a place: an At in a block of its own. -/
def AtErr (pos n : Int) (w : World) (v : Value) (w' : World) : Prop :=
  ∃ b, v = .iface 57 (.pointer (some ⟨b, 0, none⟩)) ∧ w'.cell? ⟨b, 0, none⟩ = some (.int .i64 pos) ∧ w'.cell? ⟨b, 0 + 1, none⟩ = some (.iface 43 (.int .i64 n)) ∧ Below w.heap.size w w'
def ReadWrong (pos : Int) (w : World) (e : Ending) (w' : World) : Prop := ∃ v, e = .returned (.tuple #[.int .i64 0, v]) ∧ AtErr pos 40 w v w'
def ReadTells (l : List Int) (least most : Int) (w : World) (e : Ending) (w' : World) : Prop :=
  (formL l = false ∧ ReadWrong (leadL l : Int) w e w') ∨
  (formL l = true ∧ fitL l least most = false ∧ e = .returned (.tuple #[.int .i64 0, .iface 43 (.int .i64 41)]) ∧ Below w.heap.size w w') ∨
  (formL l = true ∧ fitL l least most = true ∧ e = .returned (.tuple #[.int .i64 (numL l), .nilIface]) ∧ Below w.heap.size w w')
end Go.Proofs.YtljdnjidphmkjaaDoor
namespace Go.Proofs.YtljdnjidphmkjaaDoor
open Go Go.RowKit
theorem form_rest {s : ByteArray} (h : formL (strL s) = true) : AllD (strL (restS s)) := by
  rw [restL]
  unfold dashB
  rcases formL_parts h with ⟨h45, hall, _⟩ | ⟨h45, hall, _⟩
  · rw [decide_eq_true h45, if_pos rfl]; exact hall
  · rw [decide_eq_false h45, if_neg (by decide)]; exact hall
theorem form_lead (s : ByteArray) : formL (strL s) = true ↔ leadL (strL s) ≠ 0 ∧ ¬ leadL (strL s) < s.size := by
  unfold formL
  rw [decide_eq_true_eq, ← length_strL]
  have := leadL_le (strL s)
  constructor
  · rintro ⟨h1, h2⟩
    have := List.length_pos_iff.2 h1
    omega
  · rintro ⟨h1, h2⟩
    exact ⟨fun e => by rw [e] at h1; exact h1 rfl, by omega⟩
set_option maxRecDepth 100000 in
set_option maxHeartbeats 1000000 in
theorem read_no (s : ByteArray) (least most : Int) (w : World) (hs : s.size ≤ 9223372036854775806) (hf : formL (strL s) = false) :
    Calls Tryd.prog 68 #[.string s, .int .i64 least, .int .i64 most] w (ReadWrong (leadL (strL s) : Int) w) := by
  have HL := Lib.hid (lead_anyN s w hs)
  have hle := leadL_le (strL s)
  rw [length_strL] at hle
  have hn : leadL (strL s) = 0 ∨ leadL (strL s) < s.size := by
    by_cases h : leadL (strL s) = 0
    · exact .inl h
    · by_cases h2 : leadL (strL s) < s.size
      · exact .inr h2
      · rw [(form_lead s).2 ⟨h, h2⟩] at hf; cases hf
  obtain ⟨p, hp⟩ : ∃ p, p = leadL (strL s) := ⟨_, rfl⟩
  rw [← hp] at HL hn hle ⊢
  clear hp hf
  unfold ReadWrong AtErr
  rcases hn with rfl | hn
  · go_enter Tryd.func68, Tryd.ntmps68
    go_wp2_with (go_at_call 65; refine HL.out.mono ?_; rintro e w1 ⟨rfl, hb⟩; have HB := Lib.hid hb; clear hb)
    go_ret2
    refine ⟨_, rfl, w1.heap.size, rfl, ?_, ?_, HB.out.alloc HB.out.size _⟩
    · simp
    · simp
  · have hb : ((p : Int) == 0) = (p == 0) := by rw [Bool.eq_iff_iff, beq_iff_eq, beq_iff_eq]; omega
    have hlt : (p : Int) < (s.size : Int) := by omega
    by_cases hp0 : p = 0
    · have hb1 : ((p : Int) == 0) = true := by rw [beq_iff_eq]; omega
      clear hb hp0 
      go_enter Tryd.func68, Tryd.ntmps68
      go_wp2_with (go_at_call 65; refine HL.out.mono ?_; rintro e w1 ⟨rfl, hb⟩; have HB := Lib.hid hb; clear hb)
      go_ret2
      refine ⟨_, rfl, w1.heap.size, rfl, ?_, ?_, HB.out.alloc HB.out.size _⟩
      · simp
      · simp
    · have hb1 : ((p : Int) == 0) = false := by rw [beq_eq_false_iff_ne]; omega
      clear hb hp0
      go_enter Tryd.func68, Tryd.ntmps68
      go_wp2_with (go_at_call 65; refine HL.out.mono ?_; rintro e w1 ⟨rfl, hb⟩; have HB := Lib.hid hb; clear hb)
      go_ret2
      refine ⟨_, rfl, w1.heap.size, rfl, ?_, ?_, HB.out.alloc HB.out.size _⟩
      · simp
      · simp
set_option maxRecDepth 100000 in
set_option maxHeartbeats 1000000 in
theorem read_yes (s : ByteArray) (least most : Int) (w : World) (hs : s.size ≤ 9223372036854775806) (hf : formL (strL s) = true) :
    Calls Tryd.prog 68 #[.string s, .int .i64 least, .int .i64 most] w fun e w' =>
      (fitL (strL s) least most = false ∧ e = .returned (.tuple #[.int .i64 0, .iface 43 (.int .i64 41)]) ∧ Below w.heap.size w w') ∨
      (fitL (strL s) least most = true ∧ e = .returned (.tuple #[.int .i64 (numL (strL s)), .nilIface]) ∧ Below w.heap.size w w') := by
  have HL := Lib.hid (lead_anyN s w hs)
  have HK := Lib.hid (fun W : World => reckon_any s W (by omega) (form_rest hf))
  obtain ⟨hn, hnl⟩ := (form_lead s).1 hf
  have hle := leadL_le (strL s)
  rw [length_strL] at hle
  have HFT : Hid (fitL (strL s) least most = decide (fitS s = true ∧ least ≤ numS s ∧ numS s ≤ most)) := Lib.hid (by
    unfold fitL fitS
    rw [numS_num]
    refine decide_eq_decide.2 ?_
    rw [decide_eq_true_eq]
    omega)
  rw [← numS_num]
  obtain ⟨p, hp⟩ : ∃ p, p = leadL (strL s) := ⟨_, rfl⟩
  obtain ⟨n, hnn⟩ : ∃ n, n = numS s := ⟨_, rfl⟩
  obtain ⟨F, hF⟩ : ∃ F, F = fitL (strL s) least most := ⟨_, rfl⟩
  rw [← hp] at HL hn hnl hle
  rw [← hnn] at HK HFT ⊢
  rw [← hF] at HFT ⊢
  have hb1 : ((p : Int) == 0) = false := by rw [beq_eq_false_iff_ne]; omega
  have hlt : ¬ (p : Int) < (s.size : Int) := by omega
  clear hp hnn hF hn hf
  cases hfs : fitS s with
  | false =>
    rw [hfs] at HK HFT
    have HR : Hid (F = false) := Lib.hid (by rw [HFT.out]; simp)
    rw [if_neg (by decide)] at HK
    rw [HR.out]
    clear hfs
    go_enter Tryd.func68, Tryd.ntmps68
    go_wp2_with (first
      | (go_at_call 65; refine HL.out.mono ?_; rintro e w1 ⟨rfl, hb⟩; have HB := Lib.hid hb; clear hb)
      | (go_at_call 82; refine (HK.out w1).mono ?_; rintro e w' ⟨rfl, rfl⟩))
    go_ret2
    exact .inl ⟨trivial, rfl, HB.out⟩
  | true =>
    rw [hfs] at HK HFT
    rw [if_pos rfl] at HK
    by_cases h1 : n < least
    · have HR : Hid (F = false) := Lib.hid (by rw [HFT.out, decide_eq_false_iff_not]; omega)
      rw [HR.out]
      clear hfs
      go_enter Tryd.func68, Tryd.ntmps68
      go_wp2_with (first
        | (go_at_call 65; refine HL.out.mono ?_; rintro e w1 ⟨rfl, hb⟩; have HB := Lib.hid hb; clear hb)
        | (go_at_call 82; refine (HK.out w1).mono ?_; rintro e w' ⟨rfl, rfl⟩))
      go_ret2
      exact .inl ⟨trivial, rfl, HB.out⟩
    · by_cases h2 : most < n
      · have HR : Hid (F = false) := Lib.hid (by rw [HFT.out, decide_eq_false_iff_not]; omega)
        rw [HR.out]
        clear hfs
        go_enter Tryd.func68, Tryd.ntmps68
        go_wp2_with (first
          | (go_at_call 65; refine HL.out.mono ?_; rintro e w1 ⟨rfl, hb⟩; have HB := Lib.hid hb; clear hb)
          | (go_at_call 82; refine (HK.out w1).mono ?_; rintro e w' ⟨rfl, rfl⟩))
        go_ret2
        exact .inl ⟨trivial, rfl, HB.out⟩
      · have HR : Hid (F = true) := Lib.hid (by rw [HFT.out, decide_eq_true_eq]; exact ⟨rfl, by omega, by omega⟩)
        rw [HR.out]
        clear hfs
        go_enter Tryd.func68, Tryd.ntmps68
        go_wp2_with (first
          | (go_at_call 65; refine HL.out.mono ?_; rintro e w1 ⟨rfl, hb⟩; have HB := Lib.hid hb; clear hb)
          | (go_at_call 82; refine (HK.out w1).mono ?_; rintro e w' ⟨rfl, rfl⟩))
        go_ret2
        exact .inr ⟨trivial, rfl, HB.out⟩
theorem read_anyN (s : ByteArray) (least most : Int) (w : World) (hs : s.size ≤ 9223372036854775806) (_h0 : -9223372036854775808 ≤ least ∧ least ≤ 9223372036854775807) (_h1 : -9223372036854775808 ≤ most ∧ most ≤ 9223372036854775807) :
    Calls Tryd.prog 68 #[.string s, .int .i64 least, .int .i64 most] w (ReadTells (strL s) least most w) := by
  cases hf : formL (strL s) with
  | false => exact (read_no s least most w hs hf).mono fun e w' h => .inl ⟨hf, h⟩
  | true =>
    refine (read_yes s least most w hs hf).mono fun e w' h => ?_
    rcases h with ⟨h1, h2⟩ | ⟨h1, h2⟩
    · exact .inr (.inl ⟨hf, h1, h2⟩)
    · exact .inr (.inr ⟨hf, h1, h2⟩)
end Go.Proofs.YtljdnjidphmkjaaDoor
