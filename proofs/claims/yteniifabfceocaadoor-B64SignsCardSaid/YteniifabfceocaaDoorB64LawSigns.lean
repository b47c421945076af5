/- The walk of the law B64Signs. -/
import Derived.Test.YteniifabfceocaaDoorB64Law
namespace Go.Proofs.YteniifabfceocaaDoor
open Go Go.RowKit

theorem sg_cases (n : Int) (h : 0 ≤ n ∧ n < 64) : (65 ≤ sg n ∧ sg n ≤ 90) ∨ (97 ≤ sg n ∧ sg n ≤ 122) ∨ (48 ≤ sg n ∧ sg n ≤ 57) ∨ sg n = 45 ∨ sg n = 95 := by
  unfold sg; split <;> (try split) <;> (try split) <;> (try split) <;> omega
theorem txt_sign (s : ByteArray) (i : Nat) (h : i < (txt s).size) : ∃ n : Int, 0 ≤ n ∧ n < 64 ∧ ((txt s)[i].toNat : Int) = sg n := by
  have hm : ((txt s)[i].toNat : Int) ∈ encL (strL s) := by
    rw [← strL_txt, ← strL_get (txt s) i h, List.getD_eq_getElem?_getD, List.getElem?_eq_getElem (by rw [length_strL]; exact h)]
    exact List.getElem_mem _
  exact encL_signs _ (fun x hx => (strL_bd s).mem hx) _ hm
set_option maxRecDepth 100000 in
theorem signs_long (s : ByteArray) (w : World) (hg : ErrTab w) (hs : s.size ≤ 9223372036854775807) (h : 20000 < s.size) :
    Calls Tryd.prog 9 #[.string s] w fun e w' => e = .returned (.bool true) ∧ Below w.heap.size w w' := by
  have hal := alive2_any w hg
  go_enter Tryd.func9, Tryd.ntmps9
  go_wp2_with (go_at_call 19; refine hal.mono ?_; rintro e w1 ⟨rfl, hB1⟩)
  go_ret
  exact ⟨rfl, hB1⟩
set_option maxRecDepth 100000 in
set_option maxHeartbeats 2000000 in
theorem lawSigns_any (s : ByteArray) (w : World) (hg : ErrTab w) (hs : s.size ≤ 9223372036854775807) :
    Calls Tryd.prog 9 #[.string s] w fun e w' => e = .returned (.bool true) ∧ Below w.heap.size w w' := by
  rcases Nat.lt_or_ge 20000 s.size with h1 | h1
  · exact signs_long s w hg hs h1
  have HAL := Lib.hid (alive2_any w hg)
  have HEN := Lib.hid (fun (A : Option Addr) (c : Nat) (W : World) (hl : Lies W A (strL s)) (hc : s.size ≤ c) => encode_any A (strL s) s.size c W (length_strL s) (by omega) (strL_bd s) hl hc)
  have HTX : Hid ((⟨(toU (encL (strL s))).toArray⟩ : ByteArray) = txt s) := Lib.hid rfl
  have hsz := size_txt s
  have HSG := Lib.hid (txt_sign s)
  obtain ⟨S, hS⟩ : ∃ S, S = txt s := ⟨_, rfl⟩
  rw [← hS] at HTX HSG hsz
  have hq : ((S.size : Int) != (8 * (s.size : Int) + 5) / 6) = false := by
    have : (S.size : Int) = (8 * (s.size : Int) + 5) / 6 := by omega
    rw [this]; exact bne_self_eq_false _
  have hS2 : S.size ≤ 30000 := by omega
  clear hS hg hsz
  go_enter Tryd.func9, Tryd.ntmps9
  go_wp2_with (first
    | (go_at_call 19; refine HAL.out.mono ?_; rintro e w1 ⟨rfl, hB1⟩; have HB1 := Lib.hid hB1; clear hB1)
    | (refine wpList_convert_str rfl (some 12) rfl _ _ 5 (.tmp 11) rfl s rfl Tryd.underlying9 Tryd.underlying26 Tryd.underlying5 ?_; intro A1 c1 w2 hl1 hc1 hb; have HB2 := Lib.hid (HB1.out.trans (hb.mono HB1.out.size)); have HL1 := Lib.hid hl1; clear hb hl1; try go_frame)
    | (go_at_call 20; refine (HEN.out A1 c1 w2 HL1.out hc1).mono ?_; rintro e w3 ⟨rfl, hb⟩; rw [HTX.out]; have HB3 := Lib.hid (HB2.out.trans (hb.mono HB2.out.size)); clear hb))
  go_loop [4] (fun i => ∃ k : Nat, k ≤ S.size ∧ i = .int .i64 k) (fun i => S.size - (intOf i).toNat)
  case atStart => exact ⟨0, by omega, rfl⟩
  case round =>
    obtain ⟨k, hk, rfl⟩ := hrel
    by_cases hlt : k < S.size
    · obtain ⟨n, n0, n1, hn⟩ := HSG.out k hlt
      have hc := sg_cases n ⟨n0, n1⟩
      rw [← hn] at hc
      clear hn n0 n1
      rcases hc with ⟨a, b⟩ | ⟨a, b⟩ | ⟨a, b⟩ | a | a
      · go_wp2
        go_round
        case rel => exact ⟨k + 1, by omega, by go_num⟩
        case measure => simp [intOf]; omega
      · have d1 : ¬ (S[k].toNat : Int) < 65 := by omega
        have d2 : (90 : Int) < (S[k].toNat : Int) := by omega
        go_wp2
        go_round
        case rel => exact ⟨k + 1, by omega, by go_num⟩
        case measure => simp [intOf]; omega
      · have d1 : (S[k].toNat : Int) < 65 := by omega
        have d2 : (S[k].toNat : Int) < 97 := by omega
        go_wp2
        go_round
        case rel => exact ⟨k + 1, by omega, by go_num⟩
        case measure => simp [intOf]; omega
      · go_wp2
        go_round
        case rel => exact ⟨k + 1, by omega, by go_num⟩
        case measure => simp [intOf]; omega
      · go_wp2
        go_round
        case rel => exact ⟨k + 1, by omega, by go_num⟩
        case measure => simp [intOf]; omega
    · go_wp2
      go_ret
      exact ⟨rfl, HB3.out⟩
end Go.Proofs.YteniifabfceocaaDoor
