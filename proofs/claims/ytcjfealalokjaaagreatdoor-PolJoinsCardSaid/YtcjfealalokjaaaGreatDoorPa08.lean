/- LxPiece: merged. -/
import Derived.Test.YtcjfealalokjaaaGreatDoorPa06
import Derived.Test.YtcjfealalokjaaaGreatDoorPa07
set_option linter.all false
namespace Go.Proofs.YtcjfealalokjaaaGreatDoor
open Go Go.RowKit
set_option maxRecDepth 100000 in
set_option maxHeartbeats 2000000 in
theorem word_long (b : Nat) (s : ByteArray) (p : Nat) (w : World) (h : ScAt w b s p) (hp : p ≤ s.size) (hs : s.size ≤ 1000000000) (hl : 32 < wordN ((strL s).drop p)) :
    Calls Tryz.prog 98 #[.pointer (some ⟨b, 0, none⟩)] w fun e w' => ∃ v, e = .returned (.tuple #[.string ⟨#[]⟩, v]) ∧ AtE (p : Int) 110 w v w' ∧ Below w.heap.size w w' := by
  have HR := Lib.hid (rest_any b s p w h hp hs)
  have HW := Lib.hid (fun W : World => leadWord_any (aheadS s p) W (by rw [aheadS_size]; omega))
  rw [aheadS_L] at HW
  have HF := Lib.hid (fun (q : Nat) => fault_any b s p 110 (w.drewN q) (Blk.drewN h q))
  obtain ⟨m, hm⟩ : ∃ m, m = wordN ((strL s).drop p) := ⟨_, rfl⟩
  rw [← hm] at HW hl
  have h1 : (32 : Int) < (m : Int) := by omega
  clear h hm
  go_enter Tryz.func98, Tryz.ntmps98
  go_wp2_with fail
  refine HR.out.mono ?_
  rintro e w1 ⟨rfl, q, rfl⟩
  go_wp2_with fail
  refine (HW.out _).mono ?_
  rintro e w1 ⟨rfl, rfl⟩
  go_wp2_with fail
  refine (HF.out q).mono ?_
  rintro e w1 ⟨⟨v, rfl, hv⟩, hb⟩
  have HB := Lib.hid (And.intro hv hb)
  clear hv hb
  go_wp2
  go_ret2
  exact ⟨_, rfl, HB.out.1, (below_drewN (Below.refl _ _) q).trans HB.out.2⟩
set_option maxRecDepth 100000 in
set_option maxHeartbeats 2000000 in
theorem word_ok (b : Nat) (s : ByteArray) (p : Nat) (w : World) (h : ScAt w b s p) (hp : p ≤ s.size) (hs : s.size ≤ 1000000000) (hl : ¬ 32 < wordN ((strL s).drop p)) :
    Calls Tryz.prog 98 #[.pointer (some ⟨b, 0, none⟩)] w fun e w' => e = .returned (.tuple #[.string (toS (((strL s).drop p).take (wordN ((strL s).drop p)))), .nilIface]) ∧ MovedS w w' b s (p + wordN ((strL s).drop p)) := by
  have HR := Lib.hid (rest_any b s p w h hp hs)
  have HW := Lib.hid (fun W : World => leadWord_any (aheadS s p) W (by rw [aheadS_size]; omega))
  rw [aheadS_L] at HW
  have hwl := wordN_le ((strL s).drop p)
  rw [List.length_drop, length_strL] at hwl
  have HT := Lib.hid (fun (q : Nat) => take_any b s p (wordN ((strL s).drop p)) (w.drewN q) (Blk.drewN h q) (by omega) hs)
  obtain ⟨m, hm⟩ : ∃ m, m = wordN ((strL s).drop p) := ⟨_, rfl⟩
  rw [← hm] at HW HT hl ⊢
  have h1 : ¬ (32 : Int) < (m : Int) := by omega
  clear h hm
  go_enter Tryz.func98, Tryz.ntmps98
  go_wp2_with fail
  refine HR.out.mono ?_
  rintro e w1 ⟨rfl, q, rfl⟩
  go_wp2_with fail
  refine (HW.out _).mono ?_
  rintro e w1 ⟨rfl, rfl⟩
  go_wp2_with fail
  refine (HT.out q).mono ?_
  rintro e w1 ⟨rfl, hg⟩
  have HB := Lib.hid hg
  clear hg
  go_wp2
  go_ret2
  exact ⟨rfl, (grown_drewS q (some b)).trans HB.out.1, HB.out.2⟩
/-- What number tells. -/
def NumTellsS (w : World) (b : Nat) (s : ByteArray) (p : Nat) (e : Ending) (w' : World) : Prop :=
  (fitL (((strL s).drop p).take (leadL ((strL s).drop p))) (-9007199254740991) 9007199254740991 = false ∧ ∃ v, e = .returned (.tuple #[.int .i64 0, v]) ∧ AtE (p : Int) 41 w v w' ∧ Below w.heap.size w w') ∨
  (fitL (((strL s).drop p).take (leadL ((strL s).drop p))) (-9007199254740991) 9007199254740991 = true ∧ e = .returned (.tuple #[.int .i64 (numL (((strL s).drop p).take (leadL ((strL s).drop p)))), .nilIface]) ∧ MovedS w w' b s (p + leadL ((strL s).drop p)))
set_option maxRecDepth 100000 in
set_option maxHeartbeats 4000000 in
theorem numberS_any (b : Nat) (s : ByteArray) (p : Nat) (w : World) (h : ScAt w b s p) (hp : p ≤ s.size) (hs : s.size ≤ 1000000) (h0 : leadL ((strL s).drop p) ≠ 0) :
    Calls Tryz.prog 100 #[.pointer (some ⟨b, 0, none⟩)] w (NumTellsS w b s p) := by
  have HLEN := Lib.hid (length_strL s)
  have HR := Lib.hid h
  have hrlt := h.lt
  obtain ⟨S, hS⟩ : ∃ S, S = aheadS s p := ⟨_, rfl⟩
  have hSl : strL S = (strL s).drop p := by rw [hS, aheadS_L]
  have hSs : S.size = s.size - p := by rw [hS, aheadS_size]
  have HRE := Lib.hid (fun (W : World) (hW : ScAt W b s p) => rest_any b s p W hW hp (by omega))
  rw [← hS] at HRE
  have HLD := Lib.hid (fun W : World => lead_anyN S W (by omega))
  have hle := leadL_le (strL S)
  rw [length_strL] at hle
  have hft := form_lead_take (l := strL S)
  have hT : strL (S.extract 0 (leadL (strL S))) = (strL S).take (leadL (strL S)) := by rw [strL_extract]; rfl
  unfold NumTellsS
  rw [← hSl] at h0 ⊢
  obtain ⟨m, hm⟩ : ∃ m, m = leadL (strL S) := ⟨_, rfl⟩
  rw [← hm] at HLD hle hft hT h0 ⊢
  have hf := hft h0
  obtain ⟨T, hTT⟩ : ∃ T, T = S.extract 0 m := ⟨_, rfl⟩
  rw [← hTT] at hT
  rw [← hT] at hf ⊢
  have hTT2 := hTT.symm
  have hTs : T.size ≤ s.size := by rw [hTT, ByteArray.size_extract]; omega
  have HRD := Lib.hid (fun W : World => read_anyN T (-9007199254740991) 9007199254740991 W (by omega) (by omega) (by omega))
  unfold ReadTells at HRD
  rw [hf] at HRD
  have hmS : (m : Int) ≤ (S.size : Int) := by omega
  have hm0 : (0 : Int) ≤ (m : Int) := by omega
  have hm1 : (m : Int) ≤ 1000000 := by omega
  have hp1 : (p : Int) ≤ 1000000 := by omega
  have H0 := Lib.hid h0
  obtain ⟨F, hF⟩ : ∃ F, F = fitL (strL T) (-9007199254740991) 9007199254740991 := ⟨_, rfl⟩
  obtain ⟨x, hx⟩ : ∃ x, x = numL (strL T) := ⟨_, rfl⟩
  rw [← hF, ← hx] at HRD ⊢
  clear h hS hSl hm hft hT hf hTT h0 hF hx hle hSs
  cases F with
  | false =>
    have HRD2 : Hid (∀ W : World, Calls Tryz.prog 141 #[.string T, .int .i64 (-9007199254740991), .int .i64 9007199254740991] W fun e w' => e = .returned (.tuple #[.int .i64 0, .iface 63 (.int .i64 41)]) ∧ Below W.heap.size W w') := Lib.hid (fun W => (HRD.out W).mono fun e w' h => by
      rcases h with ⟨h, _⟩ | ⟨_, _, h⟩ | ⟨_, h, _⟩
      · cases h
      · exact h
      · cases h)
    clear HRD
    go_enter Tryz.func100, Tryz.ntmps100
    go_wp2_with fail
    refine (HRE.out _ HR.out).mono ?_
    rintro e w1 ⟨rfl, q, rfl⟩
    go_wp2_with fail
    refine (HLD.out _).mono ?_
    rintro e w1 ⟨rfl, hb1⟩
    have HB1 := Lib.hid ((below_drewN (Below.refl _ _) q).trans hb1)
    have HS1 := Lib.hid (show ScAt w1 b s p from Blk.below HR.out HB1.out hrlt)
    clear hb1
    go_wp2_with fail
    refine (HRE.out _ HS1.out).mono ?_
    rintro e w2 ⟨rfl, q2, rfl⟩
    go_wp2_with fail
    refine (HRD2.out _).mono ?_
    rintro e w2 ⟨rfl, hb2⟩
    have HB2 := Lib.hid (HB1.out.trans ((below_drewN (Below.refl w1.heap.size w1) q2).trans hb2 |>.mono HB1.out.size))
    have HS2 := Lib.hid (show ScAt w2 b s p from Blk.below HR.out HB2.out hrlt)
    have HFA := Lib.hid (fault_any b s p 41 w2 HS2.out)
    clear hb2
    go_wp2_with fail
    refine HFA.out.mono ?_
    rintro e w3 ⟨⟨v, rfl, hv⟩, hb3⟩
    have HV := Lib.hid (hv.low (w := w) HB2.out.size)
    have HB3 := Lib.hid (HB2.out.trans (hb3.mono HB2.out.size))
    clear hv hb3
    go_wp2
    go_ret2
    exact .inl ⟨trivial, _, rfl, HV.out, HB3.out⟩
  | true =>
    have HRD2 : Hid (∀ W : World, Calls Tryz.prog 141 #[.string T, .int .i64 (-9007199254740991), .int .i64 9007199254740991] W fun e w' => e = .returned (.tuple #[.int .i64 x, .nilIface]) ∧ Below W.heap.size W w') := Lib.hid (fun W => (HRD.out W).mono fun e w' h => by
      rcases h with ⟨h, _⟩ | ⟨_, h, _⟩ | ⟨_, _, h⟩
      · cases h
      · cases h
      · exact h)
    clear HRD
    go_enter Tryz.func100, Tryz.ntmps100
    go_wp2_with fail
    refine (HRE.out _ HR.out).mono ?_
    rintro e w1 ⟨rfl, q, rfl⟩
    go_wp2_with fail
    refine (HLD.out _).mono ?_
    rintro e w1 ⟨rfl, hb1⟩
    have HB1 := Lib.hid ((below_drewN (Below.refl _ _) q).trans hb1)
    have HS1 := Lib.hid (show ScAt w1 b s p from Blk.below HR.out HB1.out hrlt)
    clear hb1
    go_wp2_with fail
    refine (HRE.out _ HS1.out).mono ?_
    rintro e w2 ⟨rfl, q2, rfl⟩
    go_wp2_with fail
    refine (HRD2.out _).mono ?_
    rintro e w2 ⟨rfl, hb2⟩
    have HB2 := Lib.hid (HB1.out.trans ((below_drewN (Below.refl w1.heap.size w1) q2).trans hb2 |>.mono HB1.out.size))
    have HS2 := Lib.hid (show ScAt w2 b s p from Blk.below HR.out HB2.out hrlt)
    obtain ⟨c0, c1, f0, f1⟩ := ScAt.cells HS2.out
    clear hb2
    go_wp2
    go_ret2
    refine .inr ⟨trivial, rfl, (grownBy_of_below HB2.out _).trans (grownBy_setCell _ b 1 _), ?_⟩
    show Blk _ b _ [.string s, .int .i64 ((p + m : Nat) : Int)]
    rw [Int.natCast_add]
    exact Blk.setCell HS2.out 1 _
end Go.Proofs.YtcjfealalokjaaaGreatDoor
