/- The walk of the law B64Back. -/
import Derived.Test.YteniifabfceocaaDoorB64Alive
namespace Go.Proofs.YteniifabfceocaaDoor
open Go Go.RowKit

/-- 'string(b)' of a slice of bytes. -/
theorem conv_str (A : Option Addr) (xs : List Int) (n c : Nat) (w : World) (hn : xs.length = n) (hl : Lies w A xs) :
    (convert 26 9 (.slice A n c)).run Tryd.prog w = .ok (.string ⟨(toU xs).toArray⟩) w := by
  rw [run_convert_bytes_string w _ _ 5 _ _ _ Tryd.underlying26 Tryd.underlying5 Tryd.underlying9]
  cases A with
  | none =>
    have : xs = [] := by
      rcases xs with _ | ⟨x, r⟩
      · rfl
      · obtain ⟨b, o, h, _⟩ := hl (by simp)
        cases h
    subst this
    rfl
  | some ad =>
    have hcells : ∀ j u, (ints .u8 xs)[j]? = some u → w.cell? (ad.add j) = some u := fun j u hu => by
      have hj := (List.getElem?_eq_some_iff.1 hu).1
      rw [length_ints] at hj
      obtain ⟨b, o, h, _, _, hc⟩ := hl (by omega)
      injection h with h
      subst h
      rw [Addr.add_mid]
      exact hc j u hu
    have hld : (loadCells ad n).run Tryd.prog w = .ok (ints .u8 xs).toArray w := by
      have := run_loadCells_list (P := Tryd.prog) w ad (ints .u8 xs) hcells
      rw [length_ints, hn] at this; exact this
    rw [run_bytesToString w _ _ _ xs hld, foldl_push_bytes, show ByteArray.empty.data = #[] from rfl, Array.empty_append]
    rfl

/-- The text of a string's bytes, decoded. -/
def txt (s : ByteArray) : ByteArray := ⟨(toU (encL (strL s))).toArray⟩
theorem strL_txt (s : ByteArray) : strL (txt s) = encL (strL s) := strL_toU (encL_bytes (strL_bd s))
theorem size_txt (s : ByteArray) : (txt s).size = (8 * s.size + 5) / 6 := by rw [← length_strL, strL_txt, length_encL, length_strL]
theorem dec_txt (s : ByteArray) (w : World) (h : s.size ≤ 20000) :
    Calls Tryd.prog 22 #[.string (txt s)] w fun e w' => ∃ A c, e = .returned (.tuple #[.slice A s.size c, .nilIface]) ∧ Lies w' A (strL s) ∧ Below w.heap.size w w' :=
  (decode_right (txt s) w (by rw [size_txt]; omega) (by rw [strL_txt]; exact fault_enc _ fun x hx => (strL_bd s).mem hx)).mono fun e w' h => by
    obtain ⟨A, c, he, _, hl, hb⟩ := h
    rw [strL_txt, decL_encL _ fun x hx => (strL_bd s).mem hx] at he hl
    rw [length_strL] at he
    exact ⟨A, c, he, hl, hb⟩

theorem decL_bytes : ∀ {l : List Int}, Good l → Bytes (decL l)
  | [], _ => .of_mem (by simp [decL])
  | [_], _ => .of_mem (by simp [decL])
  | [a, b], h => .of_mem fun x hx => by
    have ga := h 0 (by simp)
    have gb := h 1 (by simp)
    simp only [List.getD_cons_zero, List.getD_cons_succ] at ga gb
    have := wo_bd a
    have := wo_bd b
    simp only [decL, List.mem_cons, List.not_mem_nil, or_false] at hx
    subst hx; omega
  | [a, b, c], h => .of_mem fun x hx => by
    have ga := h 0 (by simp)
    have gb := h 1 (by simp)
    have gc := h 2 (by simp)
    simp only [List.getD_cons_zero, List.getD_cons_succ] at ga gb gc
    have := wo_bd a
    have := wo_bd b
    have := wo_bd c
    simp only [decL, List.mem_cons, List.not_mem_nil, or_false] at hx
    rcases hx with rfl | rfl <;> omega
  | a :: b :: c :: d :: r, h => .of_mem fun x hx => by
    have ga := h 0 (by simp)
    have gb := h 1 (by simp)
    have gc := h 2 (by simp)
    have gd := h 3 (by simp)
    simp only [List.getD_cons_zero, List.getD_cons_succ] at ga gb gc gd
    have := wo_bd a
    have := wo_bd b
    have := wo_bd c
    have := wo_bd d
    simp only [decL, List.mem_cons] at hx
    rcases hx with rfl | rfl | rfl | hx
    · omega
    · omega
    · omega
    · exact (decL_bytes fun k hk => h (k + 4) (by simp; omega)).mem hx
set_option maxRecDepth 100000 in
theorem back_long1 (s t : ByteArray) (w : World) (hg : ErrTab w) (hs : s.size ≤ 9223372036854775807) (h : 20000 < s.size) :
    Calls Tryd.prog 8 #[.string s, .string t] w fun e w' => e = .returned (.bool true) ∧ Below w.heap.size w w' := by
  have hal := alive2_any w hg
  go_enter Tryd.func8, Tryd.ntmps8
  go_wp2_with (go_at_call 19; refine hal.mono ?_; rintro e w1 ⟨rfl, hB1⟩)
  go_ret
  exact ⟨rfl, hB1⟩
set_option maxRecDepth 100000 in
theorem back_long2 (s t : ByteArray) (w : World) (hg : ErrTab w) (hs : s.size ≤ 20000) (ht : t.size ≤ 9223372036854775807) (h : 60000 < t.size) :
    Calls Tryd.prog 8 #[.string s, .string t] w fun e w' => e = .returned (.bool true) ∧ Below w.heap.size w w' := by
  have hal := alive2_any w hg
  go_enter Tryd.func8, Tryd.ntmps8
  go_wp2_with (go_at_call 19; refine hal.mono ?_; rintro e w1 ⟨rfl, hB1⟩)
  go_ret
  exact ⟨rfl, hB1⟩
set_option maxRecDepth 100000 in
set_option maxHeartbeats 2000000 in
theorem lawBack_any (s t : ByteArray) (w : World) (hg : ErrTab w) (hs : s.size ≤ 9223372036854775807) (ht : t.size ≤ 9223372036854775807) :
    Calls Tryd.prog 8 #[.string s, .string t] w fun e w' => e = .returned (.bool true) ∧ Below w.heap.size w w' := by
  rcases Nat.lt_or_ge 20000 s.size with h1 | h1
  · exact back_long1 s t w hg hs h1
  rcases Nat.lt_or_ge 60000 t.size with h2 | h2
  · exact back_long2 s t w hg h1 ht h2
  have HAL := Lib.hid (alive2_any w hg)
  have HEN := Lib.hid (fun (A : Option Addr) (c : Nat) (W : World) (hl : Lies W A (strL s)) (hc : s.size ≤ c) => encode_any A (strL s) s.size c W (length_strL s) (by omega) (strL_bd s) hl hc)
  have HDT := Lib.hid (fun (W : World) => dec_txt s W h1)
  have HTX : Hid ((⟨(toU (encL (strL s))).toArray⟩ : ByteArray) = txt s) := Lib.hid rfl
  obtain ⟨S, hS⟩ : ∃ S, S = txt s := ⟨_, rfl⟩
  rw [← hS] at HDT HTX
  clear hS hg
  go_enter Tryd.func8, Tryd.ntmps8
  go_wp2_with (first
    | (go_at_call 19; refine HAL.out.mono ?_; rintro e w1 ⟨rfl, hB1⟩; have HB1 := Lib.hid hB1; clear hB1)
    | (refine wpList_convert_str rfl (some 21) rfl _ _ 5 (.tmp 20) rfl s rfl Tryd.underlying9 Tryd.underlying26 Tryd.underlying5 ?_; intro A1 c1 w2 hl1 hc1 hb; have HB2 := Lib.hid (HB1.out.trans (hb.mono HB1.out.size)); have HL1 := Lib.hid hl1; clear hb hl1; try go_frame)
    | (go_at_call 20; refine (HEN.out A1 c1 w2 HL1.out hc1).mono ?_; rintro e w3 ⟨rfl, hb⟩; rw [HTX.out]; have HB3 := Lib.hid (HB2.out.trans (hb.mono HB2.out.size)); clear hb))
  refine (HDT.out w3).mono ?_
  rintro e w4 ⟨A2, c2, rfl, hl2, hb⟩
  have HB4 := Lib.hid (HB3.out.trans (hb.mono HB3.out.size))
  have hcv := conv_str A2 (strL s) s.size c2 w4 (length_strL s) hl2
  rw [toU_strL] at hcv
  clear hb hl2
  go_wp2_with fail
  by_cases hf : faultL (strL t) = -1
  · refine (decode_right t w4 (by omega) hf).mono ?_
    rintro e w5 ⟨A3, c3, rfl, hc3, hl3, hb⟩
    have HB5 := Lib.hid (HB4.out.trans (hb.mono HB4.out.size))
    have HE2 := Lib.hid (encode_any A3 (decL (strL t)) (decL (strL t)).length c3 w5 rfl (by rw [length_decL, length_strL]; omega) (decL_bytes (Good.of_fault hf)) hl3 hc3)
    have HT2 : Hid ((⟨(toU (encL (decL (strL t)))).toArray⟩ : ByteArray) = t) := Lib.hid (by rw [enc_of_right _ hf, toU_strL])
    obtain ⟨m, hm⟩ : ∃ m, m = (decL (strL t)).length := ⟨_, rfl⟩
    rw [← hm] at HE2 ⊢
    clear hm hb hl3 hc3 hf
    go_wp2_with (go_at_call 20; refine HE2.out.mono ?_; rintro e w6 ⟨rfl, hb⟩; rw [HT2.out]; have HB6 := Lib.hid (HB5.out.trans (hb.mono HB5.out.size)); clear hb)
    go_ret
    exact ⟨rfl, HB6.out⟩
  · refine (decode_wrong t w4 (by omega) hf).mono ?_
    rintro e w5 ⟨rfl, hw⟩
    have HB5 := Lib.hid (HB4.out.trans ((show Below w4.heap.size w4 w5 by rw [hw]; exact belowAlloc _ _).mono HB4.out.size))
    clear hw hf
    go_wp2_with fail
    go_ret
    exact ⟨rfl, HB5.out⟩
end Go.Proofs.YteniifabfceocaaDoor
