/- PolWrA, PolWrB, PolRt1, PolRt2: merged. -/
import Derived.Test.YtcjfealalokjaaaGreatDoorPa17
set_option linter.all false
namespace Go.Proofs.YtcjfealalokjaaaGreatDoor
open Go Go.RowKit
/-- A condition's text, with the word. -/
def whenX (f : Nat) (e : Ex) : List Int := [32, 119, 104, 101, 110, 32] ++ textF f e 1
theorem flat_take_le : ∀ (l : List (List Int)) (k : Nat), (l.take k).flatten.length ≤ l.flatten.length
  | [], k => by simp
  | x :: r, 0 => by simp
  | x :: r, k + 1 => by
    have := flat_take_le r k
    simp only [List.take_succ_cons, List.flatten_cons, List.length_append]
    omega
set_option maxRecDepth 100000 in
set_option maxHeartbeats 4000000 in
theorem rule_dn {B b f csz n cc : Nat} {AS : Option Addr} {A : Option Addr} {ps : Int} {l : List Ex} (hl : l.length ≤ 1000000) (hn : l.length = n) (hp : ∀ x ∈ l, EAsk B b f x) (w : World) (acc : List Int) (h : WrI B b acc w) 
    (hw : l ≠ [] → ∃ g o, A = some ⟨g, o, none⟩ ∧ g < B ∧ g < w.heap.size ∧ RepEs w (fun x => x < B) g o l)
    (hlen : acc.length + ([100, 101, 110, 121] ++ (l.map (whenX f)).flatten ++ [59]).length ≤ 140737488355328) :
    Calls Tryz.prog 68 #[.pointer (some ⟨b, 0, none⟩), .agg #[.bool true, .slice AS 0 csz, .slice A n cc, .int .i64 ps]] w (WTell B b acc ([100, 101, 110, 121] ++ (l.map (whenX f)).flatten ++ [59]) w) := by
  simp only [List.length_append, List.length_cons, List.length_nil] at hlen
  obtain ⟨xs, hxs⟩ : ∃ xs, xs = l.map (whenX f) := ⟨_, rfl⟩
  have HXS := Lib.hid hxs
  have HN := Lib.hid hn
  have hnb : n ≤ 1000000 := by omega
  have hbl := wbl_lt h.bld
  obtain ⟨w1, hw1⟩ : ∃ W, W = w.alloc (.cells #[.bool true, .slice AS 0 csz, .slice A n cc, .int .i64 ps] 45) := ⟨_, rfl⟩
  have gw1 : w.grownBy w1 none := by rw [hw1]; exact World.grownBy_alloc _ _ none
  have hE1 : Blk w1 w.heap.size 45 [.bool true, .slice AS 0 csz, .slice A n cc, .int .i64 ps] := by rw [hw1]; exact heap_alloc_new w _
  have HI1 : Hid (WrI B b acc w1) := Lib.hid (by rw [hw1]; exact h.alloc _)
  have HK1 := Lib.hid (show Below B w w1 ∧ KeepW b w w1 from ⟨by rw [hw1]; exact (belowAlloc w _).mono h.le, KeepW.grownN gw1⟩)
  have HE1 := Lib.hid hE1
  have HNE : Hid (w.heap.size ≠ b) := Lib.hid (by omega)
  have HW1 := Lib.hid hw1
  have HLE := Lib.hid hlen
  have HP := Lib.hid hp
  have HL := Lib.hid hl
  have HBB := Lib.hid h.le
  have HRW : Hid (l ≠ [] → ∃ g o, A = some ⟨g, o, none⟩ ∧ g < B ∧ g < w1.heap.size ∧ RepEs w1 (fun x => x < B) g o l) := Lib.hid (fun hne => by
    obtain ⟨g, o, e, h1, h2, h3⟩ := hw hne
    exact ⟨g, o, e, h1, Nat.lt_of_lt_of_le h2 gw1.size, repEs_keeps (S := fun k => k < B) (T := fun k => k < B) (Keeps.grown gw1 (fun b _ e => by cases e)) (fun _ h _ => h) h1 h2 _ _ h3⟩)
  rw [← hxs] at HLE ⊢
  obtain ⟨OUT, hOUT⟩ : ∃ T, T = [100, 101, 110, 121] ++ xs.flatten ++ [59] := ⟨_, rfl⟩
  rw [← hOUT]
  have HOO := Lib.hid hOUT
  obtain ⟨c0, c1, c2, c3⟩ := cells4 HE1.out
  have hb1 := belowAlloc w (.cells #[.bool true, .slice AS 0 csz, .slice A n cc, .int .i64 ps] 45)
  have HP1 : Hid (Calls Tryz.prog 67 #[.pointer (some ⟨b, 0, none⟩), .slice (some ⟨w1.heap.size, 0, none⟩) 1 1] (w1.alloc (.cells #[.string ⟨#[100, 101, 110, 121]⟩] 9)) (WTell B b acc [100, 101, 110, 121] w1)) := Lib.hid (put_new [⟨#[100, 101, 110, 121]⟩] HI1.out (by simp) (by have := HLE.out; show _ + 4 ≤ _; omega) 1)
  rw [show w1.heap.size = w.heap.size + 1 from by rw [hw1]; simp] at HP1
  clear h hlen hw1 gw1 hbl hE1 hp hl hxs hw hb1 hn hOUT
  go_enter Tryz.func68, Tryz.ntmps68
  go_wp2_with fail
  rw [← HW1.out]
  clear c0 c1 c2 c3
  (with_reducible refine HP1.out.mono ?_)
  rintro e w2 ht2
  have HT2 := Lib.hid ht2
  obtain ⟨rfl, _⟩ := ht2
  have HI2 := Lib.hid (HI1.out.tell HT2.out)
  have HE2 := Lib.hid (HT2.out.2.2.2.2 _ _ _ HNE.out (by decide) HE1.out)
  obtain ⟨c0, c1, c2, c3⟩ := cells4 HE2.out
  have HBD : Hid (acc.length + ([100, 101, 110, 121] ++ xs.flatten).length + 1 ≤ 140737488355328) := Lib.hid (by have := HLE.out; simp only [List.length_append, List.length_cons, List.length_nil]; omega)
  obtain ⟨ac, hac⟩ : ∃ a, a = acc ++ ([100, 101, 110, 121]) := ⟨_, rfl⟩
  have HAC := Lib.hid hac
  have HIS : Hid (WrI B b ac w2) := Lib.hid (by rw [hac]; exact HI1.out.tell HT2.out)
  have HKS : Hid (Below B w w2 ∧ KeepW b w w2) := Lib.hid ⟨HK1.out.1.trans HT2.out.2.2.1, HK1.out.2.trans HT2.out.2.2.2⟩
  have HRS : Hid (l ≠ [] → ∃ g o, A = some ⟨g, o, none⟩ ∧ g < B ∧ g < w2.heap.size ∧ RepEs w2 (fun x => x < B) g o l) := Lib.hid (fun hne => by
    obtain ⟨g, o, e, h1, h2, h3⟩ := HRW.out hne
    exact ⟨g, o, e, h1, Nat.lt_of_lt_of_le h2 HT2.out.2.2.1.size, repEs_keeps (S := fun k => k < B) (T := fun k => k < B) (Keeps.below HT2.out.2.2.1 (fun _ h _ => h)) (fun _ h _ => h) h1 h2 _ _ h3⟩)
  have HBL : Hid (ac.length + xs.flatten.length + 1 ≤ 140737488355328) := Lib.hid (by have := HBD.out; rw [hac]; simp only [List.length_append, List.length_cons, List.length_nil] at this ⊢; omega)
  have HOUT : Hid (acc ++ OUT = ac ++ xs.flatten ++ [59]) := Lib.hid (by rw [hac, HOO.out]; simp only [List.append_assoc])
  clear hac
  go_wp2_with fail
  clear c0 c1 c2 c3
  go_loopw [30] (fun v wr => ∃ i : Nat, i ≤ n ∧ v = .int .i64 (i : Int) ∧ WrI B b (ac ++ (xs.take i).flatten) wr ∧ Below B w2 wr ∧ KeepW b w2 wr) (fun v _ => n - (intOf v).toNat)
  case atStart => exact ⟨0, Nat.zero_le _, rfl, by rw [List.take_zero]; simpa using HIS.out, Below.refl _ _, KeepW.refl _ _⟩
  case round =>
    obtain ⟨i, hi, rfl, hI, hb, hk⟩ := hrel
    have HI := Lib.hid hI
    have HK := Lib.hid (And.intro hb hk)
    by_cases hlt : i < n
    · have hil : i < l.length := by rw [HN.out]; exact hlt
      have hxl : xs.length = l.length := by rw [HXS.out, List.length_map]
      obtain ⟨g, o, rfl, hg, _, hre⟩ := HRS.out (fun e => by rw [e] at hil; exact absurd hil (Nat.not_lt_zero _))
      obtain ⟨v, hrx, a0, a1, a2, a3, a4, rfl, k0, k1, k2, k3, k4⟩ := hre.at i hil
      obtain ⟨x0, x1, x2, X, xn, xc, x4, e⟩ := hrx.form
      simp only [Value.agg.injEq, Array.mk.injEq, List.cons.injEq, and_true] at e
      obtain ⟨rfl, rfl, rfl, rfl, rfl⟩ := e
      have q0 := (hb.cell (p := ⟨g, o + i * 5, none⟩) hg).trans k0
      have q1 := (hb.cell (p := ⟨g, o + i * 5 + 1, none⟩) hg).trans k1
      have q2 := (hb.cell (p := ⟨g, o + i * 5 + 2, none⟩) hg).trans k2
      have q3 := (hb.cell (p := ⟨g, o + i * 5 + 3, none⟩) hg).trans k3
      have q4 := (hb.cell (p := ⟨g, o + i * 5 + 4, none⟩) hg).trans k4
      have HRX := Lib.hid (RepE.keeps (S := fun k => k < B) (T := fun k => k < B) (Keeps.below hb (fun _ h _ => h)) (fun _ h _ => h) _ _ hrx)
      have HOX := Lib.hid (HP.out l[i] (List.getElem_mem hil))
      have htk : xs.take (i + 1) = xs.take i ++ [whenX f l[i]] := by
        have h2 : i < xs.length := by rw [hxl]; exact hil
        have h3 : xs[i]? = some (whenX f l[i]) := by rw [HXS.out, List.getElem?_map, List.getElem?_eq_getElem hil]; rfl
        rw [List.getElem?_eq_getElem h2] at h3
        injection h3 with h3
        rw [List.take_succ_eq_append_getElem h2, h3]
      have HNX : Hid (ac ++ (xs.take (i + 1)).flatten = ac ++ (xs.take i).flatten ++ [32, 119, 104, 101, 110, 32] ++ textF f l[i] 1) := Lib.hid (by rw [htk, List.flatten_append]; simp [whenX])
      have HBE : Hid ((ac ++ (xs.take i).flatten).length + (6 + (textF f l[i] 1).length) ≤ 140737488355328) := Lib.hid (by
        have h1 := congrArg List.length HNX.out
        have h2 := flat_take_le xs (i + 1)
        have h3 := HBL.out
        simp only [List.length_append, List.length_cons, List.length_nil] at h1 ⊢
        omega)
      have hi1 : (i : Int) < (n : Int) := by omega
      have hi2 : (0 : Int) ≤ (i : Int) := by omega
      have hgl : g < wr.heap.size := Nat.lt_of_lt_of_le hg (Nat.le_trans HIS.out.le hb.size)
      obtain ⟨v1, hv1⟩ : ∃ W, W = wr.alloc (.cells #[.int .i64 x0, .string x1, .int .i64 x2, .slice X xn xc, .int .i64 x4] 42) := ⟨_, rfl⟩
      have gv1 : wr.grownBy v1 none := by rw [hv1]; exact World.grownBy_alloc _ _ none
      have HF1 : Hid (Blk v1 wr.heap.size 42 [.int .i64 x0, .string x1, .int .i64 x2, .slice X xn xc, .int .i64 x4]) := Lib.hid (by rw [hv1]; exact heap_alloc_new wr _)
      have HJ1 : Hid (WrI B b (ac ++ (xs.take i).flatten) v1) := Lib.hid (by rw [hv1]; exact hI.alloc _)
      have HL1 : Hid (Below B wr v1 ∧ KeepW b wr v1) := Lib.hid ⟨by rw [hv1]; exact (belowAlloc wr _).mono hI.le, KeepW.grownN gv1⟩
      have HR1 := Lib.hid (RepE.keeps (S := fun k => k < B) (T := fun k => k < B) (Keeps.grown gv1 (fun b _ e => by cases e)) (fun _ h _ => h) _ _ HRX.out)
      have HNF : Hid (wr.heap.size ≠ b) := Lib.hid (by have := wbl_lt hI.bld; omega)
      have HV1 := Lib.hid hv1
      have HPP : Hid (Calls Tryz.prog 67 #[.pointer (some ⟨b, 0, none⟩), .slice (some ⟨v1.heap.size, 0, none⟩) 3 3] (v1.alloc (.cells #[.string ⟨#[32]⟩, .string ⟨#[119, 104, 101, 110]⟩, .string ⟨#[32]⟩] 9)) (WTell B b (ac ++ (xs.take i).flatten) [32, 119, 104, 101, 110, 32] v1)) := Lib.hid (put_new [⟨#[32]⟩, ⟨#[119, 104, 101, 110]⟩, ⟨#[32]⟩] HJ1.out (by simp) (by have := HBE.out; show _ + 6 ≤ _; omega) 3)
      clear hI hb hk hrx k0 k1 k2 k3 k4 htk gv1 hxl hre
      rw [show v1.heap.size = wr.heap.size + 1 from by rw [hv1]; simp] at HPP
      clear hv1
      go_wp2_with fail
      rw [← HV1.out]
      (with_reducible refine HPP.out.mono ?_)
      rintro e v2 hu2
      have HU2 := Lib.hid hu2
      obtain ⟨rfl, _⟩ := hu2
      have HJ2 := Lib.hid (HJ1.out.tell HU2.out)
      have hF2 := HU2.out.2.2.2.2 _ _ _ HNF.out (by decide) HF1.out
      obtain ⟨d0, d1, d2, d3, d4⟩ := cells5 hF2
      have HC : Hid (Calls Tryz.prog 122 #[.pointer (some ⟨b, 0, none⟩), .agg #[.int .i64 x0, .string x1, .int .i64 x2, .slice X xn xc, .int .i64 x4], .int .i64 0] v2 (WTell B b (ac ++ (xs.take i).flatten ++ [32, 119, 104, 101, 110, 32]) (textF f l[i] 1) v2)) := Lib.hid (HOX.out 0 v2 _ _ (by decide) HJ2.out (RepE.wtell HU2.out HR1.out) (by have := HBE.out; show _ + (textF f l[i] 1).length ≤ _; simp only [List.length_append, List.length_cons, List.length_nil] at this ⊢; omega))
      clear hF2
      go_wp2_with fail
      (with_reducible refine HC.out.mono ?_)
      rintro e v3 hu3
      have HU3 := Lib.hid ((HU2.out.seq hu3).from HL1.out.1 HL1.out.2)
      obtain ⟨rfl, _⟩ := hu3
      clear d0 d1 d2 d3 d4 q0 q1 q2 q3 q4
      go_wp2
      go_roundw
      case rel => exact ⟨i + 1, by omega, by go_num, by rw [HNX.out, List.append_assoc _ [32, 119, 104, 101, 110, 32]]; exact HI.out.tell HU3.out, HK.out.1.trans HU3.out.2.2.1, HK.out.2.trans HU3.out.2.2.2⟩
      case measure => simp [intOf]; omega
    · obtain rfl : i = n := by omega
      have hi1 : ¬ (i : Int) < (i : Int) := by omega
      have hall : xs.take i = xs := List.take_of_length_le (by rw [HXS.out, List.length_map, HN.out]; exact Nat.le_refl _)
      have HPE : Hid (Calls Tryz.prog 67 #[.pointer (some ⟨b, 0, none⟩), .slice (some ⟨wr.heap.size, 0, none⟩) 1 1] (wr.alloc (.cells #[.string ⟨#[59]⟩] 9)) (WTell B b (ac ++ xs.flatten) [59] wr)) := Lib.hid (put_new [⟨#[59]⟩] (by rw [hall] at hI; exact hI) (by simp) (by have := HBL.out; rw [List.length_append]; show _ + 1 ≤ _; omega) 1)
      clear hI hb hk hall
      go_wp2_with fail
      (with_reducible refine HPE.out.mono ?_)
      rintro e v4 hu4
      have HU4 := Lib.hid hu4
      obtain ⟨rfl, _⟩ := hu4
      go_wp2
      go_end0
      exact ⟨rfl, by rw [HOUT.out]; exact HU4.out.2.1, (HKS.out.1.trans HK.out.1).trans HU4.out.2.2.1, (HKS.out.2.trans HK.out.2).trans HU4.out.2.2.2⟩
set_option maxRecDepth 100000 in
set_option maxHeartbeats 4000000 in
theorem rule_dc {B b f csz n cc : Nat} {sc : ByteArray} {sr : List ByteArray} {gs os : Nat} {A : Option Addr} {ps : Int} {l : List Ex} (hl : l.length ≤ 1000000) (hn : l.length = n) (hp : ∀ x ∈ l, EAsk B b f x) (w : World) (acc : List Int) (h : WrI B b acc w) (hss : ∀ t ∈ sc :: sr, t.size ≤ 1000000000) (hsl : (sc :: sr).length ≤ 1000000) (hrt : RepTx w gs os (sc :: sr)) (hgs : gs < B) (hgsl : gs < w.heap.size)
    (hw : l ≠ [] → ∃ g o, A = some ⟨g, o, none⟩ ∧ g < B ∧ g < w.heap.size ∧ RepEs w (fun x => x < B) g o l)
    (hlen : acc.length + ([100, 101, 110, 121] ++ ([32, 115, 99, 111, 112, 101, 32] ++ joinC ((sc :: sr).map quoteL)) ++ (l.map (whenX f)).flatten ++ [59]).length ≤ 140737488355328) :
    Calls Tryz.prog 68 #[.pointer (some ⟨b, 0, none⟩), .agg #[.bool true, .slice (some ⟨gs, os, none⟩) (sc :: sr).length csz, .slice A n cc, .int .i64 ps]] w (WTell B b acc ([100, 101, 110, 121] ++ ([32, 115, 99, 111, 112, 101, 32] ++ joinC ((sc :: sr).map quoteL)) ++ (l.map (whenX f)).flatten ++ [59]) w) := by
  simp only [List.length_append, List.length_cons, List.length_nil] at hlen
  obtain ⟨xs, hxs⟩ : ∃ xs, xs = l.map (whenX f) := ⟨_, rfl⟩
  have HXS := Lib.hid hxs
  have HN := Lib.hid hn
  have hnb : n ≤ 1000000 := by omega
  obtain ⟨TS, hTS⟩ : ∃ T, T = joinC ((sc :: sr).map quoteL) := ⟨_, rfl⟩
  obtain ⟨m, hm⟩ : ∃ m, m = (sc :: sr).length := ⟨_, rfl⟩
  have hm1 : (0 : Int) < (m : Int) := by rw [hm]; simp only [List.length_cons]; omega
  have hmk : ∀ (fn : Fn) (first cap : Array Value) (w : World), (Instr.makeFunc fn first cap).run Tryz.prog w = .ok (.func fn first cap) w := fun _ _ _ _ => rfl
  have hbl := wbl_lt h.bld
  obtain ⟨w1, hw1⟩ : ∃ W, W = w.alloc (.cells #[.bool true, .slice (some ⟨gs, os, none⟩) (sc :: sr).length csz, .slice A n cc, .int .i64 ps] 45) := ⟨_, rfl⟩
  have gw1 : w.grownBy w1 none := by rw [hw1]; exact World.grownBy_alloc _ _ none
  have hE1 : Blk w1 w.heap.size 45 [.bool true, .slice (some ⟨gs, os, none⟩) (sc :: sr).length csz, .slice A n cc, .int .i64 ps] := by rw [hw1]; exact heap_alloc_new w _
  have HI1 : Hid (WrI B b acc w1) := Lib.hid (by rw [hw1]; exact h.alloc _)
  have HK1 := Lib.hid (show Below B w w1 ∧ KeepW b w w1 from ⟨by rw [hw1]; exact (belowAlloc w _).mono h.le, KeepW.grownN gw1⟩)
  have HE1 := Lib.hid hE1
  have HNE : Hid (w.heap.size ≠ b) := Lib.hid (by omega)
  have HW1 := Lib.hid hw1
  have HLE := Lib.hid hlen
  have HP := Lib.hid hp
  have HL := Lib.hid hl
  have HBB := Lib.hid h.le
  have HRW : Hid (l ≠ [] → ∃ g o, A = some ⟨g, o, none⟩ ∧ g < B ∧ g < w1.heap.size ∧ RepEs w1 (fun x => x < B) g o l) := Lib.hid (fun hne => by
    obtain ⟨g, o, e, h1, h2, h3⟩ := hw hne
    exact ⟨g, o, e, h1, Nat.lt_of_lt_of_le h2 gw1.size, repEs_keeps (S := fun k => k < B) (T := fun k => k < B) (Keeps.grown gw1 (fun b _ e => by cases e)) (fun _ h _ => h) h1 h2 _ _ h3⟩)
  have HRT : Hid (RepTx w1 gs os (sc :: sr)) := Lib.hid (fun i hi => by
    obtain ⟨t, h1, h2, h3⟩ := hrt i hi
    exact ⟨t, h1, h2, by rw [← h3]; simp [World.cell?, gw1.block gs hgsl (fun e => by cases e)]⟩)
  have HLS := Lib.hid (fun (W : World) (acc : List Int) (h : WrI B b acc W) (hr : RepTx W gs os (sc :: sr)) (hle : acc.length + (joinC ((sc :: sr).map quoteL)).length ≤ 140737488355328) => listingS_of hsl hss h gs os csz hgs hr hle)
  have HGS := Lib.hid hgs
  rw [← hTS] at HLE HLS ⊢
  rw [← hm] at HLS HE1 hE1 hw1 HW1 ⊢
  rw [← hxs] at HLE ⊢
  obtain ⟨OUT, hOUT⟩ : ∃ T, T = [100, 101, 110, 121] ++ ([32, 115, 99, 111, 112, 101, 32] ++ TS) ++ xs.flatten ++ [59] := ⟨_, rfl⟩
  rw [← hOUT]
  have HOO := Lib.hid hOUT
  obtain ⟨c0, c1, c2, c3⟩ := cells4 HE1.out
  have hb1 := belowAlloc w (.cells #[.bool true, .slice (some ⟨gs, os, none⟩) m csz, .slice A n cc, .int .i64 ps] 45)
  have HP1 : Hid (Calls Tryz.prog 67 #[.pointer (some ⟨b, 0, none⟩), .slice (some ⟨w1.heap.size, 0, none⟩) 1 1] (w1.alloc (.cells #[.string ⟨#[100, 101, 110, 121]⟩] 9)) (WTell B b acc [100, 101, 110, 121] w1)) := Lib.hid (put_new [⟨#[100, 101, 110, 121]⟩] HI1.out (by simp) (by have := HLE.out; show _ + 4 ≤ _; omega) 1)
  rw [show w1.heap.size = w.heap.size + 1 from by rw [hw1]; simp] at HP1
  clear h hlen hw1 gw1 hbl hE1 hp hl hxs hw hb1 hn hOUT hTS hm hrt hss hsl hgs hgsl
  go_enter Tryz.func68, Tryz.ntmps68
  go_wp2_with fail
  rw [← HW1.out]
  clear c0 c1 c2 c3
  (with_reducible refine HP1.out.mono ?_)
  rintro e w2 ht2
  have HT2 := Lib.hid ht2
  obtain ⟨rfl, _⟩ := ht2
  have HI2 := Lib.hid (HI1.out.tell HT2.out)
  have HE2 := Lib.hid (HT2.out.2.2.2.2 _ _ _ HNE.out (by decide) HE1.out)
  obtain ⟨c0, c1, c2, c3⟩ := cells4 HE2.out
  have HP2 : Hid (Calls Tryz.prog 67 #[.pointer (some ⟨b, 0, none⟩), .slice (some ⟨w2.heap.size, 0, none⟩) 3 3] (w2.alloc (.cells #[.string ⟨#[32]⟩, .string ⟨#[115, 99, 111, 112, 101]⟩, .string ⟨#[32]⟩] 9)) (WTell B b (acc ++ [100, 101, 110, 121]) [32, 115, 99, 111, 112, 101, 32] w2)) := Lib.hid (put_new [⟨#[32]⟩, ⟨#[115, 99, 111, 112, 101]⟩, ⟨#[32]⟩] HI2.out (by simp) (by have := HLE.out; rw [List.length_append]; show _ + 4 + 7 ≤ _; omega) 3)
  go_wp2_with fail
  clear c0 c1 c2 c3
  (with_reducible refine HP2.out.mono ?_)
  rintro e w3 ht3
  have HT3 := Lib.hid ht3
  obtain ⟨rfl, _⟩ := ht3
  have HI3 := Lib.hid (HI2.out.tell HT3.out)
  have HE3 := Lib.hid (HT3.out.2.2.2.2 _ _ _ HNE.out (by decide) HE2.out)
  obtain ⟨c0, c1, c2, c3⟩ := cells4 HE3.out
  have HLL := Lib.hid (HLS.out w3 _ HI3.out (fun i hi => by
    obtain ⟨t, h1, h2, h3⟩ := HRT.out i hi
    exact ⟨t, h1, h2, (HT3.out.2.2.1.cell (p := ⟨gs, os + i, none⟩) HGS.out).trans ((HT2.out.2.2.1.cell (p := ⟨gs, os + i, none⟩) HGS.out).trans h3)⟩) (by have := HLE.out; simp only [List.length_append, List.length_cons, List.length_nil]; omega))
  go_wp2_with fail
  clear c0 c1 c2 c3
  (with_reducible refine HLL.out.mono ?_)
  rintro e w4 ht4
  have HT4 := Lib.hid ht4
  obtain ⟨rfl, _⟩ := ht4
  have HI4 := Lib.hid (HI3.out.tell HT4.out)
  have HE4 := Lib.hid (HT4.out.2.2.2.2 _ _ _ HNE.out (by decide) HE3.out)
  obtain ⟨c0, c1, c2, c3⟩ := cells4 HE4.out
  have HTS : Hid (WTell B b acc ([100, 101, 110, 121] ++ ([32, 115, 99, 111, 112, 101, 32] ++ TS)) w1 (.returned (.tuple #[])) w4) := Lib.hid (HT2.out.seq (HT3.out.seq HT4.out))
  have HBD : Hid (acc.length + ([100, 101, 110, 121] ++ ([32, 115, 99, 111, 112, 101, 32] ++ TS) ++ xs.flatten).length + 1 ≤ 140737488355328) := Lib.hid (by have := HLE.out; simp only [List.length_append, List.length_cons, List.length_nil]; omega)
  obtain ⟨ac, hac⟩ : ∃ a, a = acc ++ ([100, 101, 110, 121] ++ ([32, 115, 99, 111, 112, 101, 32] ++ TS)) := ⟨_, rfl⟩
  have HAC := Lib.hid hac
  have HIS : Hid (WrI B b ac w4) := Lib.hid (by rw [hac]; exact HI1.out.tell HTS.out)
  have HKS : Hid (Below B w w4 ∧ KeepW b w w4) := Lib.hid ⟨HK1.out.1.trans HTS.out.2.2.1, HK1.out.2.trans HTS.out.2.2.2⟩
  have HRS : Hid (l ≠ [] → ∃ g o, A = some ⟨g, o, none⟩ ∧ g < B ∧ g < w4.heap.size ∧ RepEs w4 (fun x => x < B) g o l) := Lib.hid (fun hne => by
    obtain ⟨g, o, e, h1, h2, h3⟩ := HRW.out hne
    exact ⟨g, o, e, h1, Nat.lt_of_lt_of_le h2 HTS.out.2.2.1.size, repEs_keeps (S := fun k => k < B) (T := fun k => k < B) (Keeps.below HTS.out.2.2.1 (fun _ h _ => h)) (fun _ h _ => h) h1 h2 _ _ h3⟩)
  have HBL : Hid (ac.length + xs.flatten.length + 1 ≤ 140737488355328) := Lib.hid (by have := HBD.out; rw [hac]; simp only [List.length_append, List.length_cons, List.length_nil] at this ⊢; omega)
  have HOUT : Hid (acc ++ OUT = ac ++ xs.flatten ++ [59]) := Lib.hid (by rw [hac, HOO.out]; simp only [List.append_assoc])
  clear hac
  go_wp2_with fail
  clear c0 c1 c2 c3
  go_loopw [30] (fun v wr => ∃ i : Nat, i ≤ n ∧ v = .int .i64 (i : Int) ∧ WrI B b (ac ++ (xs.take i).flatten) wr ∧ Below B w4 wr ∧ KeepW b w4 wr) (fun v _ => n - (intOf v).toNat)
  case atStart => exact ⟨0, Nat.zero_le _, rfl, by rw [List.take_zero]; simpa using HIS.out, Below.refl _ _, KeepW.refl _ _⟩
  case round =>
    obtain ⟨i, hi, rfl, hI, hb, hk⟩ := hrel
    have HI := Lib.hid hI
    have HK := Lib.hid (And.intro hb hk)
    by_cases hlt : i < n
    · have hil : i < l.length := by rw [HN.out]; exact hlt
      have hxl : xs.length = l.length := by rw [HXS.out, List.length_map]
      obtain ⟨g, o, rfl, hg, _, hre⟩ := HRS.out (fun e => by rw [e] at hil; exact absurd hil (Nat.not_lt_zero _))
      obtain ⟨v, hrx, a0, a1, a2, a3, a4, rfl, k0, k1, k2, k3, k4⟩ := hre.at i hil
      obtain ⟨x0, x1, x2, X, xn, xc, x4, e⟩ := hrx.form
      simp only [Value.agg.injEq, Array.mk.injEq, List.cons.injEq, and_true] at e
      obtain ⟨rfl, rfl, rfl, rfl, rfl⟩ := e
      have q0 := (hb.cell (p := ⟨g, o + i * 5, none⟩) hg).trans k0
      have q1 := (hb.cell (p := ⟨g, o + i * 5 + 1, none⟩) hg).trans k1
      have q2 := (hb.cell (p := ⟨g, o + i * 5 + 2, none⟩) hg).trans k2
      have q3 := (hb.cell (p := ⟨g, o + i * 5 + 3, none⟩) hg).trans k3
      have q4 := (hb.cell (p := ⟨g, o + i * 5 + 4, none⟩) hg).trans k4
      have HRX := Lib.hid (RepE.keeps (S := fun k => k < B) (T := fun k => k < B) (Keeps.below hb (fun _ h _ => h)) (fun _ h _ => h) _ _ hrx)
      have HOX := Lib.hid (HP.out l[i] (List.getElem_mem hil))
      have htk : xs.take (i + 1) = xs.take i ++ [whenX f l[i]] := by
        have h2 : i < xs.length := by rw [hxl]; exact hil
        have h3 : xs[i]? = some (whenX f l[i]) := by rw [HXS.out, List.getElem?_map, List.getElem?_eq_getElem hil]; rfl
        rw [List.getElem?_eq_getElem h2] at h3
        injection h3 with h3
        rw [List.take_succ_eq_append_getElem h2, h3]
      have HNX : Hid (ac ++ (xs.take (i + 1)).flatten = ac ++ (xs.take i).flatten ++ [32, 119, 104, 101, 110, 32] ++ textF f l[i] 1) := Lib.hid (by rw [htk, List.flatten_append]; simp [whenX])
      have HBE : Hid ((ac ++ (xs.take i).flatten).length + (6 + (textF f l[i] 1).length) ≤ 140737488355328) := Lib.hid (by
        have h1 := congrArg List.length HNX.out
        have h2 := flat_take_le xs (i + 1)
        have h3 := HBL.out
        simp only [List.length_append, List.length_cons, List.length_nil] at h1 ⊢
        omega)
      have hi1 : (i : Int) < (n : Int) := by omega
      have hi2 : (0 : Int) ≤ (i : Int) := by omega
      have hgl : g < wr.heap.size := Nat.lt_of_lt_of_le hg (Nat.le_trans HIS.out.le hb.size)
      obtain ⟨v1, hv1⟩ : ∃ W, W = wr.alloc (.cells #[.int .i64 x0, .string x1, .int .i64 x2, .slice X xn xc, .int .i64 x4] 42) := ⟨_, rfl⟩
      have gv1 : wr.grownBy v1 none := by rw [hv1]; exact World.grownBy_alloc _ _ none
      have HF1 : Hid (Blk v1 wr.heap.size 42 [.int .i64 x0, .string x1, .int .i64 x2, .slice X xn xc, .int .i64 x4]) := Lib.hid (by rw [hv1]; exact heap_alloc_new wr _)
      have HJ1 : Hid (WrI B b (ac ++ (xs.take i).flatten) v1) := Lib.hid (by rw [hv1]; exact hI.alloc _)
      have HL1 : Hid (Below B wr v1 ∧ KeepW b wr v1) := Lib.hid ⟨by rw [hv1]; exact (belowAlloc wr _).mono hI.le, KeepW.grownN gv1⟩
      have HR1 := Lib.hid (RepE.keeps (S := fun k => k < B) (T := fun k => k < B) (Keeps.grown gv1 (fun b _ e => by cases e)) (fun _ h _ => h) _ _ HRX.out)
      have HNF : Hid (wr.heap.size ≠ b) := Lib.hid (by have := wbl_lt hI.bld; omega)
      have HV1 := Lib.hid hv1
      have HPP : Hid (Calls Tryz.prog 67 #[.pointer (some ⟨b, 0, none⟩), .slice (some ⟨v1.heap.size, 0, none⟩) 3 3] (v1.alloc (.cells #[.string ⟨#[32]⟩, .string ⟨#[119, 104, 101, 110]⟩, .string ⟨#[32]⟩] 9)) (WTell B b (ac ++ (xs.take i).flatten) [32, 119, 104, 101, 110, 32] v1)) := Lib.hid (put_new [⟨#[32]⟩, ⟨#[119, 104, 101, 110]⟩, ⟨#[32]⟩] HJ1.out (by simp) (by have := HBE.out; show _ + 6 ≤ _; omega) 3)
      clear hI hb hk hrx k0 k1 k2 k3 k4 htk gv1 hxl hre
      rw [show v1.heap.size = wr.heap.size + 1 from by rw [hv1]; simp] at HPP
      clear hv1
      go_wp2_with fail
      rw [← HV1.out]
      (with_reducible refine HPP.out.mono ?_)
      rintro e v2 hu2
      have HU2 := Lib.hid hu2
      obtain ⟨rfl, _⟩ := hu2
      have HJ2 := Lib.hid (HJ1.out.tell HU2.out)
      have hF2 := HU2.out.2.2.2.2 _ _ _ HNF.out (by decide) HF1.out
      obtain ⟨d0, d1, d2, d3, d4⟩ := cells5 hF2
      have HC : Hid (Calls Tryz.prog 122 #[.pointer (some ⟨b, 0, none⟩), .agg #[.int .i64 x0, .string x1, .int .i64 x2, .slice X xn xc, .int .i64 x4], .int .i64 0] v2 (WTell B b (ac ++ (xs.take i).flatten ++ [32, 119, 104, 101, 110, 32]) (textF f l[i] 1) v2)) := Lib.hid (HOX.out 0 v2 _ _ (by decide) HJ2.out (RepE.wtell HU2.out HR1.out) (by have := HBE.out; show _ + (textF f l[i] 1).length ≤ _; simp only [List.length_append, List.length_cons, List.length_nil] at this ⊢; omega))
      clear hF2
      go_wp2_with fail
      (with_reducible refine HC.out.mono ?_)
      rintro e v3 hu3
      have HU3 := Lib.hid ((HU2.out.seq hu3).from HL1.out.1 HL1.out.2)
      obtain ⟨rfl, _⟩ := hu3
      clear d0 d1 d2 d3 d4 q0 q1 q2 q3 q4
      go_wp2
      go_roundw
      case rel => exact ⟨i + 1, by omega, by go_num, by rw [HNX.out, List.append_assoc _ [32, 119, 104, 101, 110, 32]]; exact HI.out.tell HU3.out, HK.out.1.trans HU3.out.2.2.1, HK.out.2.trans HU3.out.2.2.2⟩
      case measure => simp [intOf]; omega
    · obtain rfl : i = n := by omega
      have hi1 : ¬ (i : Int) < (i : Int) := by omega
      have hall : xs.take i = xs := List.take_of_length_le (by rw [HXS.out, List.length_map, HN.out]; exact Nat.le_refl _)
      have HPE : Hid (Calls Tryz.prog 67 #[.pointer (some ⟨b, 0, none⟩), .slice (some ⟨wr.heap.size, 0, none⟩) 1 1] (wr.alloc (.cells #[.string ⟨#[59]⟩] 9)) (WTell B b (ac ++ xs.flatten) [59] wr)) := Lib.hid (put_new [⟨#[59]⟩] (by rw [hall] at hI; exact hI) (by simp) (by have := HBL.out; rw [List.length_append]; show _ + 1 ≤ _; omega) 1)
      clear hI hb hk hall
      go_wp2_with fail
      (with_reducible refine HPE.out.mono ?_)
      rintro e v4 hu4
      have HU4 := Lib.hid hu4
      obtain ⟨rfl, _⟩ := hu4
      go_wp2
      go_end0
      exact ⟨rfl, by rw [HOUT.out]; exact HU4.out.2.1, (HKS.out.1.trans HK.out.1).trans HU4.out.2.2.1, (HKS.out.2.trans HK.out.2).trans HU4.out.2.2.2⟩
set_option maxRecDepth 100000 in
set_option maxHeartbeats 4000000 in
theorem rule_pn {B b f csz n cc : Nat} {AS : Option Addr} {A : Option Addr} {ps : Int} {l : List Ex} (hl : l.length ≤ 1000000) (hn : l.length = n) (hp : ∀ x ∈ l, EAsk B b f x) (w : World) (acc : List Int) (h : WrI B b acc w) 
    (hw : l ≠ [] → ∃ g o, A = some ⟨g, o, none⟩ ∧ g < B ∧ g < w.heap.size ∧ RepEs w (fun x => x < B) g o l)
    (hlen : acc.length + ([112, 101, 114, 109, 105, 116] ++ (l.map (whenX f)).flatten ++ [59]).length ≤ 140737488355328) :
    Calls Tryz.prog 68 #[.pointer (some ⟨b, 0, none⟩), .agg #[.bool false, .slice AS 0 csz, .slice A n cc, .int .i64 ps]] w (WTell B b acc ([112, 101, 114, 109, 105, 116] ++ (l.map (whenX f)).flatten ++ [59]) w) := by
  simp only [List.length_append, List.length_cons, List.length_nil] at hlen
  obtain ⟨xs, hxs⟩ : ∃ xs, xs = l.map (whenX f) := ⟨_, rfl⟩
  have HXS := Lib.hid hxs
  have HN := Lib.hid hn
  have hnb : n ≤ 1000000 := by omega
  have hbl := wbl_lt h.bld
  obtain ⟨w1, hw1⟩ : ∃ W, W = w.alloc (.cells #[.bool false, .slice AS 0 csz, .slice A n cc, .int .i64 ps] 45) := ⟨_, rfl⟩
  have gw1 : w.grownBy w1 none := by rw [hw1]; exact World.grownBy_alloc _ _ none
  have hE1 : Blk w1 w.heap.size 45 [.bool false, .slice AS 0 csz, .slice A n cc, .int .i64 ps] := by rw [hw1]; exact heap_alloc_new w _
  have HI1 : Hid (WrI B b acc w1) := Lib.hid (by rw [hw1]; exact h.alloc _)
  have HK1 := Lib.hid (show Below B w w1 ∧ KeepW b w w1 from ⟨by rw [hw1]; exact (belowAlloc w _).mono h.le, KeepW.grownN gw1⟩)
  have HE1 := Lib.hid hE1
  have HNE : Hid (w.heap.size ≠ b) := Lib.hid (by omega)
  have HW1 := Lib.hid hw1
  have HLE := Lib.hid hlen
  have HP := Lib.hid hp
  have HL := Lib.hid hl
  have HBB := Lib.hid h.le
  have HRW : Hid (l ≠ [] → ∃ g o, A = some ⟨g, o, none⟩ ∧ g < B ∧ g < w1.heap.size ∧ RepEs w1 (fun x => x < B) g o l) := Lib.hid (fun hne => by
    obtain ⟨g, o, e, h1, h2, h3⟩ := hw hne
    exact ⟨g, o, e, h1, Nat.lt_of_lt_of_le h2 gw1.size, repEs_keeps (S := fun k => k < B) (T := fun k => k < B) (Keeps.grown gw1 (fun b _ e => by cases e)) (fun _ h _ => h) h1 h2 _ _ h3⟩)
  rw [← hxs] at HLE ⊢
  obtain ⟨OUT, hOUT⟩ : ∃ T, T = [112, 101, 114, 109, 105, 116] ++ xs.flatten ++ [59] := ⟨_, rfl⟩
  rw [← hOUT]
  have HOO := Lib.hid hOUT
  obtain ⟨c0, c1, c2, c3⟩ := cells4 HE1.out
  have hb1 := belowAlloc w (.cells #[.bool false, .slice AS 0 csz, .slice A n cc, .int .i64 ps] 45)
  have HP1 : Hid (Calls Tryz.prog 67 #[.pointer (some ⟨b, 0, none⟩), .slice (some ⟨w1.heap.size, 0, none⟩) 1 1] (w1.alloc (.cells #[.string ⟨#[112, 101, 114, 109, 105, 116]⟩] 9)) (WTell B b acc [112, 101, 114, 109, 105, 116] w1)) := Lib.hid (put_new [⟨#[112, 101, 114, 109, 105, 116]⟩] HI1.out (by simp) (by have := HLE.out; show _ + 6 ≤ _; omega) 1)
  rw [show w1.heap.size = w.heap.size + 1 from by rw [hw1]; simp] at HP1
  clear h hlen hw1 gw1 hbl hE1 hp hl hxs hw hb1 hn hOUT
  go_enter Tryz.func68, Tryz.ntmps68
  go_wp2_with fail
  rw [← HW1.out]
  clear c0 c1 c2 c3
  (with_reducible refine HP1.out.mono ?_)
  rintro e w2 ht2
  have HT2 := Lib.hid ht2
  obtain ⟨rfl, _⟩ := ht2
  have HI2 := Lib.hid (HI1.out.tell HT2.out)
  have HE2 := Lib.hid (HT2.out.2.2.2.2 _ _ _ HNE.out (by decide) HE1.out)
  obtain ⟨c0, c1, c2, c3⟩ := cells4 HE2.out
  have HBD : Hid (acc.length + ([112, 101, 114, 109, 105, 116] ++ xs.flatten).length + 1 ≤ 140737488355328) := Lib.hid (by have := HLE.out; simp only [List.length_append, List.length_cons, List.length_nil]; omega)
  obtain ⟨ac, hac⟩ : ∃ a, a = acc ++ ([112, 101, 114, 109, 105, 116]) := ⟨_, rfl⟩
  have HAC := Lib.hid hac
  have HIS : Hid (WrI B b ac w2) := Lib.hid (by rw [hac]; exact HI1.out.tell HT2.out)
  have HKS : Hid (Below B w w2 ∧ KeepW b w w2) := Lib.hid ⟨HK1.out.1.trans HT2.out.2.2.1, HK1.out.2.trans HT2.out.2.2.2⟩
  have HRS : Hid (l ≠ [] → ∃ g o, A = some ⟨g, o, none⟩ ∧ g < B ∧ g < w2.heap.size ∧ RepEs w2 (fun x => x < B) g o l) := Lib.hid (fun hne => by
    obtain ⟨g, o, e, h1, h2, h3⟩ := HRW.out hne
    exact ⟨g, o, e, h1, Nat.lt_of_lt_of_le h2 HT2.out.2.2.1.size, repEs_keeps (S := fun k => k < B) (T := fun k => k < B) (Keeps.below HT2.out.2.2.1 (fun _ h _ => h)) (fun _ h _ => h) h1 h2 _ _ h3⟩)
  have HBL : Hid (ac.length + xs.flatten.length + 1 ≤ 140737488355328) := Lib.hid (by have := HBD.out; rw [hac]; simp only [List.length_append, List.length_cons, List.length_nil] at this ⊢; omega)
  have HOUT : Hid (acc ++ OUT = ac ++ xs.flatten ++ [59]) := Lib.hid (by rw [hac, HOO.out]; simp only [List.append_assoc])
  clear hac
  go_wp2_with fail
  clear c0 c1 c2 c3
  go_loopw [30] (fun v wr => ∃ i : Nat, i ≤ n ∧ v = .int .i64 (i : Int) ∧ WrI B b (ac ++ (xs.take i).flatten) wr ∧ Below B w2 wr ∧ KeepW b w2 wr) (fun v _ => n - (intOf v).toNat)
  case atStart => exact ⟨0, Nat.zero_le _, rfl, by rw [List.take_zero]; simpa using HIS.out, Below.refl _ _, KeepW.refl _ _⟩
  case round =>
    obtain ⟨i, hi, rfl, hI, hb, hk⟩ := hrel
    have HI := Lib.hid hI
    have HK := Lib.hid (And.intro hb hk)
    by_cases hlt : i < n
    · have hil : i < l.length := by rw [HN.out]; exact hlt
      have hxl : xs.length = l.length := by rw [HXS.out, List.length_map]
      obtain ⟨g, o, rfl, hg, _, hre⟩ := HRS.out (fun e => by rw [e] at hil; exact absurd hil (Nat.not_lt_zero _))
      obtain ⟨v, hrx, a0, a1, a2, a3, a4, rfl, k0, k1, k2, k3, k4⟩ := hre.at i hil
      obtain ⟨x0, x1, x2, X, xn, xc, x4, e⟩ := hrx.form
      simp only [Value.agg.injEq, Array.mk.injEq, List.cons.injEq, and_true] at e
      obtain ⟨rfl, rfl, rfl, rfl, rfl⟩ := e
      have q0 := (hb.cell (p := ⟨g, o + i * 5, none⟩) hg).trans k0
      have q1 := (hb.cell (p := ⟨g, o + i * 5 + 1, none⟩) hg).trans k1
      have q2 := (hb.cell (p := ⟨g, o + i * 5 + 2, none⟩) hg).trans k2
      have q3 := (hb.cell (p := ⟨g, o + i * 5 + 3, none⟩) hg).trans k3
      have q4 := (hb.cell (p := ⟨g, o + i * 5 + 4, none⟩) hg).trans k4
      have HRX := Lib.hid (RepE.keeps (S := fun k => k < B) (T := fun k => k < B) (Keeps.below hb (fun _ h _ => h)) (fun _ h _ => h) _ _ hrx)
      have HOX := Lib.hid (HP.out l[i] (List.getElem_mem hil))
      have htk : xs.take (i + 1) = xs.take i ++ [whenX f l[i]] := by
        have h2 : i < xs.length := by rw [hxl]; exact hil
        have h3 : xs[i]? = some (whenX f l[i]) := by rw [HXS.out, List.getElem?_map, List.getElem?_eq_getElem hil]; rfl
        rw [List.getElem?_eq_getElem h2] at h3
        injection h3 with h3
        rw [List.take_succ_eq_append_getElem h2, h3]
      have HNX : Hid (ac ++ (xs.take (i + 1)).flatten = ac ++ (xs.take i).flatten ++ [32, 119, 104, 101, 110, 32] ++ textF f l[i] 1) := Lib.hid (by rw [htk, List.flatten_append]; simp [whenX])
      have HBE : Hid ((ac ++ (xs.take i).flatten).length + (6 + (textF f l[i] 1).length) ≤ 140737488355328) := Lib.hid (by
        have h1 := congrArg List.length HNX.out
        have h2 := flat_take_le xs (i + 1)
        have h3 := HBL.out
        simp only [List.length_append, List.length_cons, List.length_nil] at h1 ⊢
        omega)
      have hi1 : (i : Int) < (n : Int) := by omega
      have hi2 : (0 : Int) ≤ (i : Int) := by omega
      have hgl : g < wr.heap.size := Nat.lt_of_lt_of_le hg (Nat.le_trans HIS.out.le hb.size)
      obtain ⟨v1, hv1⟩ : ∃ W, W = wr.alloc (.cells #[.int .i64 x0, .string x1, .int .i64 x2, .slice X xn xc, .int .i64 x4] 42) := ⟨_, rfl⟩
      have gv1 : wr.grownBy v1 none := by rw [hv1]; exact World.grownBy_alloc _ _ none
      have HF1 : Hid (Blk v1 wr.heap.size 42 [.int .i64 x0, .string x1, .int .i64 x2, .slice X xn xc, .int .i64 x4]) := Lib.hid (by rw [hv1]; exact heap_alloc_new wr _)
      have HJ1 : Hid (WrI B b (ac ++ (xs.take i).flatten) v1) := Lib.hid (by rw [hv1]; exact hI.alloc _)
      have HL1 : Hid (Below B wr v1 ∧ KeepW b wr v1) := Lib.hid ⟨by rw [hv1]; exact (belowAlloc wr _).mono hI.le, KeepW.grownN gv1⟩
      have HR1 := Lib.hid (RepE.keeps (S := fun k => k < B) (T := fun k => k < B) (Keeps.grown gv1 (fun b _ e => by cases e)) (fun _ h _ => h) _ _ HRX.out)
      have HNF : Hid (wr.heap.size ≠ b) := Lib.hid (by have := wbl_lt hI.bld; omega)
      have HV1 := Lib.hid hv1
      have HPP : Hid (Calls Tryz.prog 67 #[.pointer (some ⟨b, 0, none⟩), .slice (some ⟨v1.heap.size, 0, none⟩) 3 3] (v1.alloc (.cells #[.string ⟨#[32]⟩, .string ⟨#[119, 104, 101, 110]⟩, .string ⟨#[32]⟩] 9)) (WTell B b (ac ++ (xs.take i).flatten) [32, 119, 104, 101, 110, 32] v1)) := Lib.hid (put_new [⟨#[32]⟩, ⟨#[119, 104, 101, 110]⟩, ⟨#[32]⟩] HJ1.out (by simp) (by have := HBE.out; show _ + 6 ≤ _; omega) 3)
      clear hI hb hk hrx k0 k1 k2 k3 k4 htk gv1 hxl hre
      rw [show v1.heap.size = wr.heap.size + 1 from by rw [hv1]; simp] at HPP
      clear hv1
      go_wp2_with fail
      rw [← HV1.out]
      (with_reducible refine HPP.out.mono ?_)
      rintro e v2 hu2
      have HU2 := Lib.hid hu2
      obtain ⟨rfl, _⟩ := hu2
      have HJ2 := Lib.hid (HJ1.out.tell HU2.out)
      have hF2 := HU2.out.2.2.2.2 _ _ _ HNF.out (by decide) HF1.out
      obtain ⟨d0, d1, d2, d3, d4⟩ := cells5 hF2
      have HC : Hid (Calls Tryz.prog 122 #[.pointer (some ⟨b, 0, none⟩), .agg #[.int .i64 x0, .string x1, .int .i64 x2, .slice X xn xc, .int .i64 x4], .int .i64 0] v2 (WTell B b (ac ++ (xs.take i).flatten ++ [32, 119, 104, 101, 110, 32]) (textF f l[i] 1) v2)) := Lib.hid (HOX.out 0 v2 _ _ (by decide) HJ2.out (RepE.wtell HU2.out HR1.out) (by have := HBE.out; show _ + (textF f l[i] 1).length ≤ _; simp only [List.length_append, List.length_cons, List.length_nil] at this ⊢; omega))
      clear hF2
      go_wp2_with fail
      (with_reducible refine HC.out.mono ?_)
      rintro e v3 hu3
      have HU3 := Lib.hid ((HU2.out.seq hu3).from HL1.out.1 HL1.out.2)
      obtain ⟨rfl, _⟩ := hu3
      clear d0 d1 d2 d3 d4 q0 q1 q2 q3 q4
      go_wp2
      go_roundw
      case rel => exact ⟨i + 1, by omega, by go_num, by rw [HNX.out, List.append_assoc _ [32, 119, 104, 101, 110, 32]]; exact HI.out.tell HU3.out, HK.out.1.trans HU3.out.2.2.1, HK.out.2.trans HU3.out.2.2.2⟩
      case measure => simp [intOf]; omega
    · obtain rfl : i = n := by omega
      have hi1 : ¬ (i : Int) < (i : Int) := by omega
      have hall : xs.take i = xs := List.take_of_length_le (by rw [HXS.out, List.length_map, HN.out]; exact Nat.le_refl _)
      have HPE : Hid (Calls Tryz.prog 67 #[.pointer (some ⟨b, 0, none⟩), .slice (some ⟨wr.heap.size, 0, none⟩) 1 1] (wr.alloc (.cells #[.string ⟨#[59]⟩] 9)) (WTell B b (ac ++ xs.flatten) [59] wr)) := Lib.hid (put_new [⟨#[59]⟩] (by rw [hall] at hI; exact hI) (by simp) (by have := HBL.out; rw [List.length_append]; show _ + 1 ≤ _; omega) 1)
      clear hI hb hk hall
      go_wp2_with fail
      (with_reducible refine HPE.out.mono ?_)
      rintro e v4 hu4
      have HU4 := Lib.hid hu4
      obtain ⟨rfl, _⟩ := hu4
      go_wp2
      go_end0
      exact ⟨rfl, by rw [HOUT.out]; exact HU4.out.2.1, (HKS.out.1.trans HK.out.1).trans HU4.out.2.2.1, (HKS.out.2.trans HK.out.2).trans HU4.out.2.2.2⟩
set_option maxRecDepth 100000 in
set_option maxHeartbeats 4000000 in
theorem rule_pc {B b f csz n cc : Nat} {sc : ByteArray} {sr : List ByteArray} {gs os : Nat} {A : Option Addr} {ps : Int} {l : List Ex} (hl : l.length ≤ 1000000) (hn : l.length = n) (hp : ∀ x ∈ l, EAsk B b f x) (w : World) (acc : List Int) (h : WrI B b acc w) (hss : ∀ t ∈ sc :: sr, t.size ≤ 1000000000) (hsl : (sc :: sr).length ≤ 1000000) (hrt : RepTx w gs os (sc :: sr)) (hgs : gs < B) (hgsl : gs < w.heap.size)
    (hw : l ≠ [] → ∃ g o, A = some ⟨g, o, none⟩ ∧ g < B ∧ g < w.heap.size ∧ RepEs w (fun x => x < B) g o l)
    (hlen : acc.length + ([112, 101, 114, 109, 105, 116] ++ ([32, 115, 99, 111, 112, 101, 32] ++ joinC ((sc :: sr).map quoteL)) ++ (l.map (whenX f)).flatten ++ [59]).length ≤ 140737488355328) :
    Calls Tryz.prog 68 #[.pointer (some ⟨b, 0, none⟩), .agg #[.bool false, .slice (some ⟨gs, os, none⟩) (sc :: sr).length csz, .slice A n cc, .int .i64 ps]] w (WTell B b acc ([112, 101, 114, 109, 105, 116] ++ ([32, 115, 99, 111, 112, 101, 32] ++ joinC ((sc :: sr).map quoteL)) ++ (l.map (whenX f)).flatten ++ [59]) w) := by
  simp only [List.length_append, List.length_cons, List.length_nil] at hlen
  obtain ⟨xs, hxs⟩ : ∃ xs, xs = l.map (whenX f) := ⟨_, rfl⟩
  have HXS := Lib.hid hxs
  have HN := Lib.hid hn
  have hnb : n ≤ 1000000 := by omega
  obtain ⟨TS, hTS⟩ : ∃ T, T = joinC ((sc :: sr).map quoteL) := ⟨_, rfl⟩
  obtain ⟨m, hm⟩ : ∃ m, m = (sc :: sr).length := ⟨_, rfl⟩
  have hm1 : (0 : Int) < (m : Int) := by rw [hm]; simp only [List.length_cons]; omega
  have hmk : ∀ (fn : Fn) (first cap : Array Value) (w : World), (Instr.makeFunc fn first cap).run Tryz.prog w = .ok (.func fn first cap) w := fun _ _ _ _ => rfl
  have hbl := wbl_lt h.bld
  obtain ⟨w1, hw1⟩ : ∃ W, W = w.alloc (.cells #[.bool false, .slice (some ⟨gs, os, none⟩) (sc :: sr).length csz, .slice A n cc, .int .i64 ps] 45) := ⟨_, rfl⟩
  have gw1 : w.grownBy w1 none := by rw [hw1]; exact World.grownBy_alloc _ _ none
  have hE1 : Blk w1 w.heap.size 45 [.bool false, .slice (some ⟨gs, os, none⟩) (sc :: sr).length csz, .slice A n cc, .int .i64 ps] := by rw [hw1]; exact heap_alloc_new w _
  have HI1 : Hid (WrI B b acc w1) := Lib.hid (by rw [hw1]; exact h.alloc _)
  have HK1 := Lib.hid (show Below B w w1 ∧ KeepW b w w1 from ⟨by rw [hw1]; exact (belowAlloc w _).mono h.le, KeepW.grownN gw1⟩)
  have HE1 := Lib.hid hE1
  have HNE : Hid (w.heap.size ≠ b) := Lib.hid (by omega)
  have HW1 := Lib.hid hw1
  have HLE := Lib.hid hlen
  have HP := Lib.hid hp
  have HL := Lib.hid hl
  have HBB := Lib.hid h.le
  have HRW : Hid (l ≠ [] → ∃ g o, A = some ⟨g, o, none⟩ ∧ g < B ∧ g < w1.heap.size ∧ RepEs w1 (fun x => x < B) g o l) := Lib.hid (fun hne => by
    obtain ⟨g, o, e, h1, h2, h3⟩ := hw hne
    exact ⟨g, o, e, h1, Nat.lt_of_lt_of_le h2 gw1.size, repEs_keeps (S := fun k => k < B) (T := fun k => k < B) (Keeps.grown gw1 (fun b _ e => by cases e)) (fun _ h _ => h) h1 h2 _ _ h3⟩)
  have HRT : Hid (RepTx w1 gs os (sc :: sr)) := Lib.hid (fun i hi => by
    obtain ⟨t, h1, h2, h3⟩ := hrt i hi
    exact ⟨t, h1, h2, by rw [← h3]; simp [World.cell?, gw1.block gs hgsl (fun e => by cases e)]⟩)
  have HLS := Lib.hid (fun (W : World) (acc : List Int) (h : WrI B b acc W) (hr : RepTx W gs os (sc :: sr)) (hle : acc.length + (joinC ((sc :: sr).map quoteL)).length ≤ 140737488355328) => listingS_of hsl hss h gs os csz hgs hr hle)
  have HGS := Lib.hid hgs
  rw [← hTS] at HLE HLS ⊢
  rw [← hm] at HLS HE1 hE1 hw1 HW1 ⊢
  rw [← hxs] at HLE ⊢
  obtain ⟨OUT, hOUT⟩ : ∃ T, T = [112, 101, 114, 109, 105, 116] ++ ([32, 115, 99, 111, 112, 101, 32] ++ TS) ++ xs.flatten ++ [59] := ⟨_, rfl⟩
  rw [← hOUT]
  have HOO := Lib.hid hOUT
  obtain ⟨c0, c1, c2, c3⟩ := cells4 HE1.out
  have hb1 := belowAlloc w (.cells #[.bool false, .slice (some ⟨gs, os, none⟩) m csz, .slice A n cc, .int .i64 ps] 45)
  have HP1 : Hid (Calls Tryz.prog 67 #[.pointer (some ⟨b, 0, none⟩), .slice (some ⟨w1.heap.size, 0, none⟩) 1 1] (w1.alloc (.cells #[.string ⟨#[112, 101, 114, 109, 105, 116]⟩] 9)) (WTell B b acc [112, 101, 114, 109, 105, 116] w1)) := Lib.hid (put_new [⟨#[112, 101, 114, 109, 105, 116]⟩] HI1.out (by simp) (by have := HLE.out; show _ + 6 ≤ _; omega) 1)
  rw [show w1.heap.size = w.heap.size + 1 from by rw [hw1]; simp] at HP1
  clear h hlen hw1 gw1 hbl hE1 hp hl hxs hw hb1 hn hOUT hTS hm hrt hss hsl hgs hgsl
  go_enter Tryz.func68, Tryz.ntmps68
  go_wp2_with fail
  rw [← HW1.out]
  clear c0 c1 c2 c3
  (with_reducible refine HP1.out.mono ?_)
  rintro e w2 ht2
  have HT2 := Lib.hid ht2
  obtain ⟨rfl, _⟩ := ht2
  have HI2 := Lib.hid (HI1.out.tell HT2.out)
  have HE2 := Lib.hid (HT2.out.2.2.2.2 _ _ _ HNE.out (by decide) HE1.out)
  obtain ⟨c0, c1, c2, c3⟩ := cells4 HE2.out
  have HP2 : Hid (Calls Tryz.prog 67 #[.pointer (some ⟨b, 0, none⟩), .slice (some ⟨w2.heap.size, 0, none⟩) 3 3] (w2.alloc (.cells #[.string ⟨#[32]⟩, .string ⟨#[115, 99, 111, 112, 101]⟩, .string ⟨#[32]⟩] 9)) (WTell B b (acc ++ [112, 101, 114, 109, 105, 116]) [32, 115, 99, 111, 112, 101, 32] w2)) := Lib.hid (put_new [⟨#[32]⟩, ⟨#[115, 99, 111, 112, 101]⟩, ⟨#[32]⟩] HI2.out (by simp) (by have := HLE.out; rw [List.length_append]; show _ + 6 + 7 ≤ _; omega) 3)
  go_wp2_with fail
  clear c0 c1 c2 c3
  (with_reducible refine HP2.out.mono ?_)
  rintro e w3 ht3
  have HT3 := Lib.hid ht3
  obtain ⟨rfl, _⟩ := ht3
  have HI3 := Lib.hid (HI2.out.tell HT3.out)
  have HE3 := Lib.hid (HT3.out.2.2.2.2 _ _ _ HNE.out (by decide) HE2.out)
  obtain ⟨c0, c1, c2, c3⟩ := cells4 HE3.out
  have HLL := Lib.hid (HLS.out w3 _ HI3.out (fun i hi => by
    obtain ⟨t, h1, h2, h3⟩ := HRT.out i hi
    exact ⟨t, h1, h2, (HT3.out.2.2.1.cell (p := ⟨gs, os + i, none⟩) HGS.out).trans ((HT2.out.2.2.1.cell (p := ⟨gs, os + i, none⟩) HGS.out).trans h3)⟩) (by have := HLE.out; simp only [List.length_append, List.length_cons, List.length_nil]; omega))
  go_wp2_with fail
  clear c0 c1 c2 c3
  (with_reducible refine HLL.out.mono ?_)
  rintro e w4 ht4
  have HT4 := Lib.hid ht4
  obtain ⟨rfl, _⟩ := ht4
  have HI4 := Lib.hid (HI3.out.tell HT4.out)
  have HE4 := Lib.hid (HT4.out.2.2.2.2 _ _ _ HNE.out (by decide) HE3.out)
  obtain ⟨c0, c1, c2, c3⟩ := cells4 HE4.out
  have HTS : Hid (WTell B b acc ([112, 101, 114, 109, 105, 116] ++ ([32, 115, 99, 111, 112, 101, 32] ++ TS)) w1 (.returned (.tuple #[])) w4) := Lib.hid (HT2.out.seq (HT3.out.seq HT4.out))
  have HBD : Hid (acc.length + ([112, 101, 114, 109, 105, 116] ++ ([32, 115, 99, 111, 112, 101, 32] ++ TS) ++ xs.flatten).length + 1 ≤ 140737488355328) := Lib.hid (by have := HLE.out; simp only [List.length_append, List.length_cons, List.length_nil]; omega)
  obtain ⟨ac, hac⟩ : ∃ a, a = acc ++ ([112, 101, 114, 109, 105, 116] ++ ([32, 115, 99, 111, 112, 101, 32] ++ TS)) := ⟨_, rfl⟩
  have HAC := Lib.hid hac
  have HIS : Hid (WrI B b ac w4) := Lib.hid (by rw [hac]; exact HI1.out.tell HTS.out)
  have HKS : Hid (Below B w w4 ∧ KeepW b w w4) := Lib.hid ⟨HK1.out.1.trans HTS.out.2.2.1, HK1.out.2.trans HTS.out.2.2.2⟩
  have HRS : Hid (l ≠ [] → ∃ g o, A = some ⟨g, o, none⟩ ∧ g < B ∧ g < w4.heap.size ∧ RepEs w4 (fun x => x < B) g o l) := Lib.hid (fun hne => by
    obtain ⟨g, o, e, h1, h2, h3⟩ := HRW.out hne
    exact ⟨g, o, e, h1, Nat.lt_of_lt_of_le h2 HTS.out.2.2.1.size, repEs_keeps (S := fun k => k < B) (T := fun k => k < B) (Keeps.below HTS.out.2.2.1 (fun _ h _ => h)) (fun _ h _ => h) h1 h2 _ _ h3⟩)
  have HBL : Hid (ac.length + xs.flatten.length + 1 ≤ 140737488355328) := Lib.hid (by have := HBD.out; rw [hac]; simp only [List.length_append, List.length_cons, List.length_nil] at this ⊢; omega)
  have HOUT : Hid (acc ++ OUT = ac ++ xs.flatten ++ [59]) := Lib.hid (by rw [hac, HOO.out]; simp only [List.append_assoc])
  clear hac
  go_wp2_with fail
  clear c0 c1 c2 c3
  go_loopw [30] (fun v wr => ∃ i : Nat, i ≤ n ∧ v = .int .i64 (i : Int) ∧ WrI B b (ac ++ (xs.take i).flatten) wr ∧ Below B w4 wr ∧ KeepW b w4 wr) (fun v _ => n - (intOf v).toNat)
  case atStart => exact ⟨0, Nat.zero_le _, rfl, by rw [List.take_zero]; simpa using HIS.out, Below.refl _ _, KeepW.refl _ _⟩
  case round =>
    obtain ⟨i, hi, rfl, hI, hb, hk⟩ := hrel
    have HI := Lib.hid hI
    have HK := Lib.hid (And.intro hb hk)
    by_cases hlt : i < n
    · have hil : i < l.length := by rw [HN.out]; exact hlt
      have hxl : xs.length = l.length := by rw [HXS.out, List.length_map]
      obtain ⟨g, o, rfl, hg, _, hre⟩ := HRS.out (fun e => by rw [e] at hil; exact absurd hil (Nat.not_lt_zero _))
      obtain ⟨v, hrx, a0, a1, a2, a3, a4, rfl, k0, k1, k2, k3, k4⟩ := hre.at i hil
      obtain ⟨x0, x1, x2, X, xn, xc, x4, e⟩ := hrx.form
      simp only [Value.agg.injEq, Array.mk.injEq, List.cons.injEq, and_true] at e
      obtain ⟨rfl, rfl, rfl, rfl, rfl⟩ := e
      have q0 := (hb.cell (p := ⟨g, o + i * 5, none⟩) hg).trans k0
      have q1 := (hb.cell (p := ⟨g, o + i * 5 + 1, none⟩) hg).trans k1
      have q2 := (hb.cell (p := ⟨g, o + i * 5 + 2, none⟩) hg).trans k2
      have q3 := (hb.cell (p := ⟨g, o + i * 5 + 3, none⟩) hg).trans k3
      have q4 := (hb.cell (p := ⟨g, o + i * 5 + 4, none⟩) hg).trans k4
      have HRX := Lib.hid (RepE.keeps (S := fun k => k < B) (T := fun k => k < B) (Keeps.below hb (fun _ h _ => h)) (fun _ h _ => h) _ _ hrx)
      have HOX := Lib.hid (HP.out l[i] (List.getElem_mem hil))
      have htk : xs.take (i + 1) = xs.take i ++ [whenX f l[i]] := by
        have h2 : i < xs.length := by rw [hxl]; exact hil
        have h3 : xs[i]? = some (whenX f l[i]) := by rw [HXS.out, List.getElem?_map, List.getElem?_eq_getElem hil]; rfl
        rw [List.getElem?_eq_getElem h2] at h3
        injection h3 with h3
        rw [List.take_succ_eq_append_getElem h2, h3]
      have HNX : Hid (ac ++ (xs.take (i + 1)).flatten = ac ++ (xs.take i).flatten ++ [32, 119, 104, 101, 110, 32] ++ textF f l[i] 1) := Lib.hid (by rw [htk, List.flatten_append]; simp [whenX])
      have HBE : Hid ((ac ++ (xs.take i).flatten).length + (6 + (textF f l[i] 1).length) ≤ 140737488355328) := Lib.hid (by
        have h1 := congrArg List.length HNX.out
        have h2 := flat_take_le xs (i + 1)
        have h3 := HBL.out
        simp only [List.length_append, List.length_cons, List.length_nil] at h1 ⊢
        omega)
      have hi1 : (i : Int) < (n : Int) := by omega
      have hi2 : (0 : Int) ≤ (i : Int) := by omega
      have hgl : g < wr.heap.size := Nat.lt_of_lt_of_le hg (Nat.le_trans HIS.out.le hb.size)
      obtain ⟨v1, hv1⟩ : ∃ W, W = wr.alloc (.cells #[.int .i64 x0, .string x1, .int .i64 x2, .slice X xn xc, .int .i64 x4] 42) := ⟨_, rfl⟩
      have gv1 : wr.grownBy v1 none := by rw [hv1]; exact World.grownBy_alloc _ _ none
      have HF1 : Hid (Blk v1 wr.heap.size 42 [.int .i64 x0, .string x1, .int .i64 x2, .slice X xn xc, .int .i64 x4]) := Lib.hid (by rw [hv1]; exact heap_alloc_new wr _)
      have HJ1 : Hid (WrI B b (ac ++ (xs.take i).flatten) v1) := Lib.hid (by rw [hv1]; exact hI.alloc _)
      have HL1 : Hid (Below B wr v1 ∧ KeepW b wr v1) := Lib.hid ⟨by rw [hv1]; exact (belowAlloc wr _).mono hI.le, KeepW.grownN gv1⟩
      have HR1 := Lib.hid (RepE.keeps (S := fun k => k < B) (T := fun k => k < B) (Keeps.grown gv1 (fun b _ e => by cases e)) (fun _ h _ => h) _ _ HRX.out)
      have HNF : Hid (wr.heap.size ≠ b) := Lib.hid (by have := wbl_lt hI.bld; omega)
      have HV1 := Lib.hid hv1
      have HPP : Hid (Calls Tryz.prog 67 #[.pointer (some ⟨b, 0, none⟩), .slice (some ⟨v1.heap.size, 0, none⟩) 3 3] (v1.alloc (.cells #[.string ⟨#[32]⟩, .string ⟨#[119, 104, 101, 110]⟩, .string ⟨#[32]⟩] 9)) (WTell B b (ac ++ (xs.take i).flatten) [32, 119, 104, 101, 110, 32] v1)) := Lib.hid (put_new [⟨#[32]⟩, ⟨#[119, 104, 101, 110]⟩, ⟨#[32]⟩] HJ1.out (by simp) (by have := HBE.out; show _ + 6 ≤ _; omega) 3)
      clear hI hb hk hrx k0 k1 k2 k3 k4 htk gv1 hxl hre
      rw [show v1.heap.size = wr.heap.size + 1 from by rw [hv1]; simp] at HPP
      clear hv1
      go_wp2_with fail
      rw [← HV1.out]
      (with_reducible refine HPP.out.mono ?_)
      rintro e v2 hu2
      have HU2 := Lib.hid hu2
      obtain ⟨rfl, _⟩ := hu2
      have HJ2 := Lib.hid (HJ1.out.tell HU2.out)
      have hF2 := HU2.out.2.2.2.2 _ _ _ HNF.out (by decide) HF1.out
      obtain ⟨d0, d1, d2, d3, d4⟩ := cells5 hF2
      have HC : Hid (Calls Tryz.prog 122 #[.pointer (some ⟨b, 0, none⟩), .agg #[.int .i64 x0, .string x1, .int .i64 x2, .slice X xn xc, .int .i64 x4], .int .i64 0] v2 (WTell B b (ac ++ (xs.take i).flatten ++ [32, 119, 104, 101, 110, 32]) (textF f l[i] 1) v2)) := Lib.hid (HOX.out 0 v2 _ _ (by decide) HJ2.out (RepE.wtell HU2.out HR1.out) (by have := HBE.out; show _ + (textF f l[i] 1).length ≤ _; simp only [List.length_append, List.length_cons, List.length_nil] at this ⊢; omega))
      clear hF2
      go_wp2_with fail
      (with_reducible refine HC.out.mono ?_)
      rintro e v3 hu3
      have HU3 := Lib.hid ((HU2.out.seq hu3).from HL1.out.1 HL1.out.2)
      obtain ⟨rfl, _⟩ := hu3
      clear d0 d1 d2 d3 d4 q0 q1 q2 q3 q4
      go_wp2
      go_roundw
      case rel => exact ⟨i + 1, by omega, by go_num, by rw [HNX.out, List.append_assoc _ [32, 119, 104, 101, 110, 32]]; exact HI.out.tell HU3.out, HK.out.1.trans HU3.out.2.2.1, HK.out.2.trans HU3.out.2.2.2⟩
      case measure => simp [intOf]; omega
    · obtain rfl : i = n := by omega
      have hi1 : ¬ (i : Int) < (i : Int) := by omega
      have hall : xs.take i = xs := List.take_of_length_le (by rw [HXS.out, List.length_map, HN.out]; exact Nat.le_refl _)
      have HPE : Hid (Calls Tryz.prog 67 #[.pointer (some ⟨b, 0, none⟩), .slice (some ⟨wr.heap.size, 0, none⟩) 1 1] (wr.alloc (.cells #[.string ⟨#[59]⟩] 9)) (WTell B b (ac ++ xs.flatten) [59] wr)) := Lib.hid (put_new [⟨#[59]⟩] (by rw [hall] at hI; exact hI) (by simp) (by have := HBL.out; rw [List.length_append]; show _ + 1 ≤ _; omega) 1)
      clear hI hb hk hall
      go_wp2_with fail
      (with_reducible refine HPE.out.mono ?_)
      rintro e v4 hu4
      have HU4 := Lib.hid hu4
      obtain ⟨rfl, _⟩ := hu4
      go_wp2
      go_end0
      exact ⟨rfl, by rw [HOUT.out]; exact HU4.out.2.1, (HKS.out.1.trans HK.out.1).trans HU4.out.2.2.1, (HKS.out.2.trans HK.out.2).trans HU4.out.2.2.2⟩
end Go.Proofs.YtcjfealalokjaaaGreatDoor
namespace Go.Proofs.YtcjfealalokjaaaGreatDoor
open Go Go.RowKit
/-- A rule whose texts are no longer than may be held, its conditions right. -/
structure MildR (f : Nat) (x : RuleM) : Prop where
  scopes : x.scopes.length ≤ 1000000
  sizes : ∀ t ∈ x.scopes, t.size ≤ 1000000000
  one : x.whens.length ≤ 1
  good : ∀ e ∈ x.whens, goodF f e = true
  mild : ∀ e ∈ x.whens, MildE e
theorem joinC_quotes : ∀ (l : List ByteArray) (s : ByteArray), joinC ((s :: l).map quoteL) = quoteL s ++ l.flatMap fun t => 44 :: 32 :: quoteL t
  | [], s => by simp [joinC]
  | x :: l, s => by
    show quoteL s ++ 44 :: 32 :: joinC ((x :: l).map quoteL) = _
    rw [joinC_quotes l x, List.flatMap_cons]
    simp
theorem whens_flat {f : Nat} : ∀ {l : List Ex}, l.length ≤ 1 → (l.map (whenX f)).flatten = whenL f l
  | [], _ => rfl
  | [e], _ => by simp [whenX, whenL]
  | _ :: _ :: _, h => by simp at h
set_option maxHeartbeats 2000000 in
theorem rule_of {B b f : Nat} {acc : List Int} {x : RuleM} (hm : MildR f x) {w : World} {v : Value} (h : WrI B b acc w) (hv : RepR w (fun k => k < B) x v) (hlen : acc.length + (ruleL f x).length ≤ 140737488355328) :
    Calls Tryz.prog 68 #[.pointer (some ⟨b, 0, none⟩), v] w (WTell B b acc (ruleL f x) w) := by
  obtain ⟨d, sc, ws, ps⟩ := x
  obtain ⟨m1, m2, m3, m4, m5⟩ := hm
  obtain ⟨vs, vw, rfl, ⟨AS, cs, rfl, hsl, hsc⟩, ⟨AW, cw, rfl, hwl, hwc⟩⟩ := hv
  have hp : ∀ e ∈ ws, EAsk B b f e := fun e he => (expr_all f e (m4 e he) (m5 e he)).1
  have hl : ws.length ≤ 1000000 := by have : ws.length ≤ 1 := m3; omega
  have hw : ws ≠ [] → ∃ g o, AW = some ⟨g, o, none⟩ ∧ g < B ∧ g < w.heap.size ∧ RepEs w (fun x => x < B) g o ws := hwc
  cases sc with
  | nil =>
    cases d with
    | false =>
      have et : ruleL f ⟨false, [], ws, ps⟩ = [112, 101, 114, 109, 105, 116] ++ (ws.map (whenX f)).flatten ++ [59] := by
        rw [whens_flat m3]; unfold ruleL; simp only [scopesL, List.append_nil]; rfl
      rw [et] at hlen ⊢
      exact rule_pn hl rfl hp w acc h hw hlen
    | true =>
      have et : ruleL f ⟨true, [], ws, ps⟩ = [100, 101, 110, 121] ++ (ws.map (whenX f)).flatten ++ [59] := by
        rw [whens_flat m3]; unfold ruleL; simp only [scopesL, List.append_nil]; rfl
      rw [et] at hlen ⊢
      exact rule_dn hl rfl hp w acc h hw hlen
  | cons s r =>
    obtain ⟨gs, os, e, hg, hgl, hcs⟩ := hsc (by simp)
    obtain rfl : AS = some ⟨gs, os, none⟩ := e
    have hj := joinC_quotes r s
    cases d with
    | false =>
      have et : ruleL f ⟨false, s :: r, ws, ps⟩ = [112, 101, 114, 109, 105, 116] ++ ([32, 115, 99, 111, 112, 101, 32] ++ joinC ((s :: r).map quoteL)) ++ (ws.map (whenX f)).flatten ++ [59] := by
        rw [whens_flat m3, hj]; unfold ruleL; simp only [scopesL, List.append_assoc]; rfl
      rw [et] at hlen ⊢
      have := rule_pc (csz := cs) (cc := cw) (ps := ps) hl rfl hp w acc h m2 m1 hcs hg hgl hw (by simpa [List.append_assoc] using hlen)
      simpa only [List.append_assoc] using this
    | true =>
      have et : ruleL f ⟨true, s :: r, ws, ps⟩ = [100, 101, 110, 121] ++ ([32, 115, 99, 111, 112, 101, 32] ++ joinC ((s :: r).map quoteL)) ++ (ws.map (whenX f)).flatten ++ [59] := by
        rw [whens_flat m3, hj]; unfold ruleL; simp only [scopesL, List.append_assoc]; rfl
      rw [et] at hlen ⊢
      have := rule_dc (csz := cs) (cc := cw) (ps := ps) hl rfl hp w acc h m2 m1 hcs hg hgl hw (by simpa [List.append_assoc] using hlen)
      simpa only [List.append_assoc] using this
/-- With a line's end between. -/
def joinL : List (List Int) → List Int
  | [] => []
  | [x] => x
  | x :: y :: r => x ++ 10 :: joinL (y :: r)
theorem joinL_snoc : ∀ (l : List (List Int)) (x : List Int), l ≠ [] → joinL (l ++ [x]) = joinL l ++ ([10] ++ x)
  | [], _, h => absurd rfl h
  | [y], x, _ => by show y ++ 10 :: x = _; rfl
  | y :: z :: r, x, _ => by
    show y ++ 10 :: joinL (z :: r ++ [x]) = (y ++ 10 :: joinL (z :: r)) ++ _
    rw [joinL_snoc (z :: r) x (by simp)]
    simp
theorem joinL_le : ∀ (l : List (List Int)) (k : Nat), (joinL (l.take k)).length ≤ (joinL l).length
  | [], k => by simp
  | [x], 0 => by simp [joinL]
  | [x], k + 1 => by simp [joinL]
  | x :: y :: r, 0 => by simp [joinL]
  | x :: y :: r, 1 => by simp [joinL]
  | x :: y :: r, k + 2 => by
    have := joinL_le (y :: r) (k + 1)
    show (x ++ 10 :: joinL (y :: r.take k)).length ≤ (x ++ 10 :: joinL (y :: r)).length
    simp only [List.length_append, List.length_cons]
    rw [List.take_succ_cons] at this
    omega
theorem joinL_print (f : Nat) : ∀ (l : List RuleM), joinL (l.map (ruleL f)) = printL f l
  | [] => rfl
  | [x] => by simp [joinL, printL]
  | x :: y :: r => by
    show ruleL f x ++ 10 :: joinL ((y :: r).map (ruleL f)) = _
    rw [joinL_print f (y :: r)]
    simp [printL]
set_option maxRecDepth 100000 in
set_option maxHeartbeats 4000000 in
theorem rules_of {B b f : Nat} {acc : List Int} {l : List RuleM} (hl : l.length ≤ 1000000) (ho : ∀ x ∈ l, MildR f x) {w : World} {v : Value} (h : WrI B b acc w) (hv : RepP w (fun k => k < B) l v) (hlen : acc.length + (printL f l).length ≤ 140737488355328) :
    Calls Tryz.prog 34 #[.pointer (some ⟨b, 0, none⟩), v] w (WTell B b acc (printL f l) w) := by
  obtain ⟨A, c, rfl, _, hr⟩ := hv
  have HO := Lib.hid ho
  have HH := Lib.hid h
  have HRE := Lib.hid hr
  rw [← joinL_print] at hlen ⊢
  have HLE := Lib.hid hlen
  obtain ⟨xs, hxs⟩ : ∃ xs, xs = l.map (ruleL f) := ⟨_, rfl⟩
  have HXS := Lib.hid hxs
  rw [← hxs] at HLE ⊢
  obtain ⟨n, hn⟩ : ∃ n, n = l.length := ⟨_, rfl⟩
  have HN := Lib.hid hn
  rw [← hn] at hl ⊢
  clear h ho hlen hr hxs hn
  go_enter Tryz.func34, Tryz.ntmps34
  go_wp2_with fail
  go_loopw [8] (fun v wr => ∃ i : Nat, i ≤ n ∧ v = .int .i64 (i : Int) ∧ WrI B b (acc ++ joinL (xs.take i)) wr ∧ Below B w wr ∧ KeepW b w wr) (fun v _ => n - (intOf v).toNat)
  case atStart => exact ⟨0, Nat.zero_le _, rfl, by rw [List.take_zero]; simpa [joinL] using HH.out, Below.refl _ _, KeepW.refl _ _⟩
  case round =>
    obtain ⟨i, hi, rfl, hI, hb, hk⟩ := hrel
    have HI := Lib.hid hI
    have HK := Lib.hid (And.intro hb hk)
    by_cases hlt : i < n
    · have hil : i < l.length := by rw [← HN.out]; exact hlt
      have hxl : xs.length = l.length := by rw [HXS.out, List.length_map]
      obtain ⟨g, o, rfl, hg, _, hre⟩ := HRE.out (fun e => by rw [e] at hil; exact absurd hil (Nat.not_lt_zero _))
      obtain ⟨a0, a1, a2, a3, hrx, k0, k1, k2, k3⟩ := hre i hil
      have HRX := Lib.hid (RepR.keeps (S := fun k => k < B) (T := fun k => k < B) (Keeps.below hb (fun _ h _ => h)) (fun _ h _ => h) hrx)
      obtain ⟨vs, vw, e, ⟨AS, cs, rfl, _⟩, ⟨AW, cw, rfl, _⟩⟩ := hrx
      simp only [Value.agg.injEq, Array.mk.injEq, List.cons.injEq, and_true] at e
      obtain ⟨rfl, rfl, rfl, rfl⟩ := e
      obtain ⟨DN, hDN⟩ : ∃ d, d = l[i].deny := ⟨_, rfl⟩
      obtain ⟨PS, hPS⟩ : ∃ d, d = l[i].pos := ⟨_, rfl⟩
      obtain ⟨LS, hLS⟩ : ∃ d, d = l[i].scopes.length := ⟨_, rfl⟩
      obtain ⟨LW, hLW⟩ : ∃ d, d = l[i].whens.length := ⟨_, rfl⟩
      rw [← hDN, ← hPS, ← hLS, ← hLW] at HRX
      rw [← hDN] at k0
      rw [← hLS] at k1
      rw [← hLW] at k2
      rw [← hPS] at k3
      have q0 := (hb.cell (p := ⟨g, o + i * 4, none⟩) hg).trans k0
      have q1 := (hb.cell (p := ⟨g, o + i * 4 + 1, none⟩) hg).trans k1
      have q2 := (hb.cell (p := ⟨g, o + i * 4 + 2, none⟩) hg).trans k2
      have q3 := (hb.cell (p := ⟨g, o + i * 4 + 3, none⟩) hg).trans k3
      have HOX := Lib.hid (HO.out l[i] (List.getElem_mem hil))
      obtain ⟨T, hT⟩ : ∃ T, T = ruleL f l[i] := ⟨_, rfl⟩
      have HT := Lib.hid hT
      have htk : xs.take (i + 1) = xs.take i ++ [T] := by
        have h2 : i < xs.length := by rw [hxl]; exact hil
        have h3 : xs[i]? = some T := by rw [HXS.out, List.getElem?_map, List.getElem?_eq_getElem hil, hT]; rfl
        rw [List.getElem?_eq_getElem h2] at h3
        injection h3 with h3
        rw [List.take_succ_eq_append_getElem h2, h3]
      have HBD : Hid (acc.length + (joinL (xs.take (i + 1))).length ≤ 140737488355328) := Lib.hid (by have := HLE.out; have := joinL_le xs (i + 1); omega)
      have hi1 : (i : Int) < (n : Int) := by omega
      have hi2 : (0 : Int) ≤ (i : Int) := by omega
      have hgl : g < wr.heap.size := Nat.lt_of_lt_of_le hg (Nat.le_trans HH.out.le hb.size)
      obtain ⟨w1, hw1⟩ : ∃ W, W = wr.alloc (.cells #[.bool DN, .slice AS LS cs, .slice AW LW cw, .int .i64 PS] 45) := ⟨_, rfl⟩
      have gw1 : wr.grownBy w1 none := by rw [hw1]; exact World.grownBy_alloc _ _ none
      have HE1 : Hid (Blk w1 wr.heap.size 45 [.bool DN, .slice AS LS cs, .slice AW LW cw, .int .i64 PS]) := Lib.hid (by rw [hw1]; exact heap_alloc_new wr _)
      have HI1 : Hid (WrI B b (acc ++ joinL (xs.take i)) w1) := Lib.hid (by rw [hw1]; exact hI.alloc _)
      have HK1 : Hid (Below B wr w1 ∧ KeepW b wr w1) := Lib.hid ⟨by rw [hw1]; exact (belowAlloc wr _).mono hI.le, KeepW.grownN gw1⟩
      have HR1 := Lib.hid (RepR.keeps (S := fun k => k < B) (T := fun k => k < B) (Keeps.grown gw1 (fun b _ e => by cases e)) (fun _ h _ => h) HRX.out)
      have HNE : Hid (wr.heap.size ≠ b) := Lib.hid (by have := wbl_lt hI.bld; omega)
      have HW1 := Lib.hid hw1
      by_cases h0 : i = 0
      · subst h0
        have HNX : Hid (acc ++ joinL (xs.take (0 + 1)) = (acc ++ joinL (xs.take 0)) ++ T) := Lib.hid (by rw [htk, List.take_zero]; simp [joinL])
        have HC := Lib.hid (rule_of HOX.out HI1.out HR1.out (by have := HBD.out; rw [htk, List.take_zero] at this; rw [← HT.out, List.take_zero]; simpa [joinL] using this))
        rw [← HT.out] at HC
        clear hI hb hk k0 k1 k2 k3 hT htk hw1 gw1 hxl hDN hPS hLS hLW hre
        simp only [Nat.zero_mul, Nat.add_zero] at q0 q1 q2 q3
        go_wp2_with fail
        rw [← HW1.out]
        (with_reducible refine HC.out.mono ?_)
        rintro e w3 ht3
        have HT3 := Lib.hid (ht3.from HK1.out.1 HK1.out.2)
        obtain ⟨rfl, _⟩ := ht3
        clear q0 q1 q2 q3
        go_wp2
        go_roundw
        case rel => exact ⟨0 + 1, by omega, by go_num, by rw [HNX.out]; exact HI.out.tell HT3.out, HK.out.1.trans HT3.out.2.2.1, HK.out.2.trans HT3.out.2.2.2⟩
        case measure => simp [intOf]; omega
      · have hne : xs.take i ≠ [] := by
          intro e
          have h9 := congrArg List.length e
          rw [List.length_take, hxl, List.length_nil] at h9
          omega
        have hi3 : (0 : Int) < (i : Int) := by omega
        have HNX : Hid (acc ++ joinL (xs.take (i + 1)) = (acc ++ joinL (xs.take i)) ++ ([10] ++ T)) := Lib.hid (by rw [htk, joinL_snoc _ _ hne, List.append_assoc])
        have HBE : Hid ((acc ++ joinL (xs.take i)).length + (1 + T.length) ≤ 140737488355328) := Lib.hid (by
          have := HBD.out
          rw [htk, joinL_snoc _ _ hne] at this
          simp only [List.length_append, List.length_cons, List.length_nil] at this ⊢
          omega)
        have HPP : Hid (Calls Tryz.prog 67 #[.pointer (some ⟨b, 0, none⟩), .slice (some ⟨w1.heap.size, 0, none⟩) 1 1] (w1.alloc (.cells #[.string ⟨#[10]⟩] 9)) (WTell B b (acc ++ joinL (xs.take i)) [10] w1)) := Lib.hid (put_new [⟨#[10]⟩] HI1.out (by simp) (by have := HBE.out; show _ + 1 ≤ _; omega) 1)
        clear hI hb hk k0 k1 k2 k3 hT htk gw1 hxl hne hDN hPS hLS hLW hre
        rw [show w1.heap.size = wr.heap.size + 1 from by rw [hw1]; simp] at HPP
        clear hw1
        go_wp2_with fail
        rw [← HW1.out]
        (with_reducible refine HPP.out.mono ?_)
        rintro e w2 ht2
        have HT2 := Lib.hid ht2
        obtain ⟨rfl, _⟩ := ht2
        have HI2 := Lib.hid (HI1.out.tell HT2.out)
        have hE2 := HT2.out.2.2.2.2 _ _ _ HNE.out (by decide) HE1.out
        obtain ⟨d0, d1, d2, d3⟩ := cells4 hE2
        have HC := Lib.hid (rule_of HOX.out HI2.out (RepR.keeps (S := fun k => k < B) (T := fun k => k < B) (Keeps.below HT2.out.2.2.1 (fun _ h _ => h)) (fun _ h _ => h) HR1.out) (by have := HBE.out; rw [← HT.out]; simp only [List.length_append, List.length_cons, List.length_nil] at this ⊢; omega))
        rw [← HT.out] at HC
        clear hE2
        go_wp2_with fail
        (with_reducible refine HC.out.mono ?_)
        rintro e w3 ht3
        have HT3 := Lib.hid ((HT2.out.seq ht3).from HK1.out.1 HK1.out.2)
        obtain ⟨rfl, _⟩ := ht3
        clear d0 d1 d2 d3 q0 q1 q2 q3
        go_wp2
        go_roundw
        case rel => exact ⟨i + 1, by omega, by go_num, by rw [HNX.out]; exact HI.out.tell HT3.out, HK.out.1.trans HT3.out.2.2.1, HK.out.2.trans HT3.out.2.2.2⟩
        case measure => simp [intOf]; omega
    · obtain rfl : i = n := by omega
      have hi1 : ¬ (i : Int) < (i : Int) := by omega
      have hall : xs.take i = xs := List.take_of_length_le (by rw [HXS.out, List.length_map, ← HN.out]; exact Nat.le_refl _)
      have HA := Lib.hid hall
      clear hI hb hk hall
      go_wp2
      go_end0
      exact ⟨rfl, by rw [← HA.out]; exact HI.out.bld, HK.out.1, HK.out.2⟩
end Go.Proofs.YtcjfealalokjaaaGreatDoor
namespace Go.Proofs.YtcjfealalokjaaaGreatDoor
open Go Go.RowKit
set_option maxRecDepth 100000 in
set_option maxHeartbeats 1000000 in
theorem quotable_any (s : ByteArray) (w : World) (hm : Marks w) (hs : s.size ≤ 1000000000) :
    Calls Tryz.prog 71 #[.string s] w fun e w' => e = .returned (.bool (quoteN (strL s)).2) ∧ Below w.heap.size w w' := by
  have HQ := Lib.hid (quoteB_any s w hm hs)
  clear hm hs
  go_enter Tryz.func71, Tryz.ntmps71
  go_wp2_with fail
  (with_reducible refine HQ.out.mono ?_)
  rintro e w2 ⟨rfl, hb⟩
  have HB := Lib.hid hb
  clear hb
  go_wp2
  go_ret
  exact ⟨rfl, HB.out⟩
/-- May an op have so many parts? -/
def mayB (op : Int) (n : Nat) : Bool :=
  if op < 1 ∨ 14 < op then false
  else if op ≤ 5 then decide (n = 0)
  else if op = 6 then decide (n = 1)
  else if op = 13 then decide (2 ≤ n)
  else decide (n = 2)
/-- What is said without parts. -/
def saysB (op : Int) (s : ByteArray) (n : Int) : Bool :=
  if op = 1 then decide (s = E0) && decide (n = 0 ∨ n = 1)
  else if op = 2 then decide (s = E0) && decide (-9007199254740991 ≤ n ∧ n ≤ 9007199254740991)
  else if op = 3 ∨ op = 5 then decide (n = 0) && (quoteN (strL s)).2
  else if op = 4 then decide (n = 0) && varW s
  else decide (s = E0) && decide (n = 0)
set_option maxRecDepth 100000 in
set_option maxHeartbeats 4000000 in
theorem mayHave_any (op : Int) (n : Nat) (w : World) : Calls Tryz.prog 154 #[.int .i64 op, .int .i64 (n : Int)] w fun e w' => e = .returned (.bool (mayB op n)) ∧ w = w' := by
  have lit : ∀ (x : Int) (b : Bool), mayB x n = b → op = x → Calls Tryz.prog 154 #[.int .i64 x, .int .i64 (n : Int)] w (fun e w' => e = .returned (.bool b) ∧ w = w') → Calls Tryz.prog 154 #[.int .i64 op, .int .i64 (n : Int)] w (fun e w' => e = .returned (.bool (mayB op n)) ∧ w = w') := fun x b e1 e2 h => by
    subst e2; rw [e1]; exact h
  by_cases h1 : op = 1
  · by_cases hc : n = 0
    · refine lit 1 true (show decide (n = 0) = true from decide_eq_true hc) h1 ?_
      clear lit h1
      subst hc
      go_enter Tryz.func154, Tryz.ntmps154
      go_wp2
      go_ret
      exact ⟨rfl, rfl⟩
    · refine lit 1 false (show decide (n = 0) = false from decide_eq_false hc) h1 ?_
      clear lit h1
      have hc1 : (n : Int) ≠ 0 := by omega
      have hc2 : ((n : Int) == 0) = false := by rw [beq_eq_false_iff_ne]; exact hc1
      clear hc
      go_enter Tryz.func154, Tryz.ntmps154
      go_wp2
      go_ret
      exact ⟨rfl, rfl⟩
  by_cases h2 : op = 2
  · by_cases hc : n = 0
    · refine lit 2 true (show decide (n = 0) = true from decide_eq_true hc) h2 ?_
      clear lit h2
      subst hc
      go_enter Tryz.func154, Tryz.ntmps154
      go_wp2
      go_ret
      exact ⟨rfl, rfl⟩
    · refine lit 2 false (show decide (n = 0) = false from decide_eq_false hc) h2 ?_
      clear lit h2
      have hc1 : (n : Int) ≠ 0 := by omega
      have hc2 : ((n : Int) == 0) = false := by rw [beq_eq_false_iff_ne]; exact hc1
      clear hc
      go_enter Tryz.func154, Tryz.ntmps154
      go_wp2
      go_ret
      exact ⟨rfl, rfl⟩
  by_cases h3 : op = 3
  · by_cases hc : n = 0
    · refine lit 3 true (show decide (n = 0) = true from decide_eq_true hc) h3 ?_
      clear lit h3
      subst hc
      go_enter Tryz.func154, Tryz.ntmps154
      go_wp2
      go_ret
      exact ⟨rfl, rfl⟩
    · refine lit 3 false (show decide (n = 0) = false from decide_eq_false hc) h3 ?_
      clear lit h3
      have hc1 : (n : Int) ≠ 0 := by omega
      have hc2 : ((n : Int) == 0) = false := by rw [beq_eq_false_iff_ne]; exact hc1
      clear hc
      go_enter Tryz.func154, Tryz.ntmps154
      go_wp2
      go_ret
      exact ⟨rfl, rfl⟩
  by_cases h4 : op = 4
  · by_cases hc : n = 0
    · refine lit 4 true (show decide (n = 0) = true from decide_eq_true hc) h4 ?_
      clear lit h4
      subst hc
      go_enter Tryz.func154, Tryz.ntmps154
      go_wp2
      go_ret
      exact ⟨rfl, rfl⟩
    · refine lit 4 false (show decide (n = 0) = false from decide_eq_false hc) h4 ?_
      clear lit h4
      have hc1 : (n : Int) ≠ 0 := by omega
      have hc2 : ((n : Int) == 0) = false := by rw [beq_eq_false_iff_ne]; exact hc1
      clear hc
      go_enter Tryz.func154, Tryz.ntmps154
      go_wp2
      go_ret
      exact ⟨rfl, rfl⟩
  by_cases h5 : op = 5
  · by_cases hc : n = 0
    · refine lit 5 true (show decide (n = 0) = true from decide_eq_true hc) h5 ?_
      clear lit h5
      subst hc
      go_enter Tryz.func154, Tryz.ntmps154
      go_wp2
      go_ret
      exact ⟨rfl, rfl⟩
    · refine lit 5 false (show decide (n = 0) = false from decide_eq_false hc) h5 ?_
      clear lit h5
      have hc1 : (n : Int) ≠ 0 := by omega
      have hc2 : ((n : Int) == 0) = false := by rw [beq_eq_false_iff_ne]; exact hc1
      clear hc
      go_enter Tryz.func154, Tryz.ntmps154
      go_wp2
      go_ret
      exact ⟨rfl, rfl⟩
  by_cases h6 : op = 6
  · by_cases hc : n = 1
    · refine lit 6 true (show decide (n = 1) = true from decide_eq_true hc) h6 ?_
      clear lit h6
      subst hc
      go_enter Tryz.func154, Tryz.ntmps154
      go_wp2
      go_ret
      exact ⟨rfl, rfl⟩
    · refine lit 6 false (show decide (n = 1) = false from decide_eq_false hc) h6 ?_
      clear lit h6
      have hc1 : (n : Int) ≠ 1 := by omega
      have hc2 : ((n : Int) == 1) = false := by rw [beq_eq_false_iff_ne]; exact hc1
      clear hc
      go_enter Tryz.func154, Tryz.ntmps154
      go_wp2
      go_ret
      exact ⟨rfl, rfl⟩
  by_cases h7 : op = 7
  · by_cases hc : n = 2
    · refine lit 7 true (show decide (n = 2) = true from decide_eq_true hc) h7 ?_
      clear lit h7
      subst hc
      go_enter Tryz.func154, Tryz.ntmps154
      go_wp2
      go_ret
      exact ⟨rfl, rfl⟩
    · refine lit 7 false (show decide (n = 2) = false from decide_eq_false hc) h7 ?_
      clear lit h7
      have hc1 : (n : Int) ≠ 2 := by omega
      have hc2 : ((n : Int) == 2) = false := by rw [beq_eq_false_iff_ne]; exact hc1
      clear hc
      go_enter Tryz.func154, Tryz.ntmps154
      go_wp2
      go_ret
      exact ⟨rfl, rfl⟩
  by_cases h8 : op = 8
  · by_cases hc : n = 2
    · refine lit 8 true (show decide (n = 2) = true from decide_eq_true hc) h8 ?_
      clear lit h8
      subst hc
      go_enter Tryz.func154, Tryz.ntmps154
      go_wp2
      go_ret
      exact ⟨rfl, rfl⟩
    · refine lit 8 false (show decide (n = 2) = false from decide_eq_false hc) h8 ?_
      clear lit h8
      have hc1 : (n : Int) ≠ 2 := by omega
      have hc2 : ((n : Int) == 2) = false := by rw [beq_eq_false_iff_ne]; exact hc1
      clear hc
      go_enter Tryz.func154, Tryz.ntmps154
      go_wp2
      go_ret
      exact ⟨rfl, rfl⟩
  by_cases h9 : op = 9
  · by_cases hc : n = 2
    · refine lit 9 true (show decide (n = 2) = true from decide_eq_true hc) h9 ?_
      clear lit h9
      subst hc
      go_enter Tryz.func154, Tryz.ntmps154
      go_wp2
      go_ret
      exact ⟨rfl, rfl⟩
    · refine lit 9 false (show decide (n = 2) = false from decide_eq_false hc) h9 ?_
      clear lit h9
      have hc1 : (n : Int) ≠ 2 := by omega
      have hc2 : ((n : Int) == 2) = false := by rw [beq_eq_false_iff_ne]; exact hc1
      clear hc
      go_enter Tryz.func154, Tryz.ntmps154
      go_wp2
      go_ret
      exact ⟨rfl, rfl⟩
  by_cases h10 : op = 10
  · by_cases hc : n = 2
    · refine lit 10 true (show decide (n = 2) = true from decide_eq_true hc) h10 ?_
      clear lit h10
      subst hc
      go_enter Tryz.func154, Tryz.ntmps154
      go_wp2
      go_ret
      exact ⟨rfl, rfl⟩
    · refine lit 10 false (show decide (n = 2) = false from decide_eq_false hc) h10 ?_
      clear lit h10
      have hc1 : (n : Int) ≠ 2 := by omega
      have hc2 : ((n : Int) == 2) = false := by rw [beq_eq_false_iff_ne]; exact hc1
      clear hc
      go_enter Tryz.func154, Tryz.ntmps154
      go_wp2
      go_ret
      exact ⟨rfl, rfl⟩
  by_cases h11 : op = 11
  · by_cases hc : n = 2
    · refine lit 11 true (show decide (n = 2) = true from decide_eq_true hc) h11 ?_
      clear lit h11
      subst hc
      go_enter Tryz.func154, Tryz.ntmps154
      go_wp2
      go_ret
      exact ⟨rfl, rfl⟩
    · refine lit 11 false (show decide (n = 2) = false from decide_eq_false hc) h11 ?_
      clear lit h11
      have hc1 : (n : Int) ≠ 2 := by omega
      have hc2 : ((n : Int) == 2) = false := by rw [beq_eq_false_iff_ne]; exact hc1
      clear hc
      go_enter Tryz.func154, Tryz.ntmps154
      go_wp2
      go_ret
      exact ⟨rfl, rfl⟩
  by_cases h12 : op = 12
  · by_cases hc : n = 2
    · refine lit 12 true (show decide (n = 2) = true from decide_eq_true hc) h12 ?_
      clear lit h12
      subst hc
      go_enter Tryz.func154, Tryz.ntmps154
      go_wp2
      go_ret
      exact ⟨rfl, rfl⟩
    · refine lit 12 false (show decide (n = 2) = false from decide_eq_false hc) h12 ?_
      clear lit h12
      have hc1 : (n : Int) ≠ 2 := by omega
      have hc2 : ((n : Int) == 2) = false := by rw [beq_eq_false_iff_ne]; exact hc1
      clear hc
      go_enter Tryz.func154, Tryz.ntmps154
      go_wp2
      go_ret
      exact ⟨rfl, rfl⟩
  by_cases h13 : op = 13
  · by_cases hc : 2 ≤ n
    · refine lit 13 true (show decide (2 ≤ n) = true from decide_eq_true hc) h13 ?_
      clear lit h13
      have hc1 : (2 : Int) ≤ (n : Int) := by omega
      have hc2 : decide ((n : Int) ≥ 2) = true := decide_eq_true hc1
      clear hc
      go_enter Tryz.func154, Tryz.ntmps154
      go_wp2
      go_ret
      exact ⟨rfl, rfl⟩
    · refine lit 13 false (show decide (2 ≤ n) = false from decide_eq_false hc) h13 ?_
      clear lit h13
      have hc1 : ¬ (2 : Int) ≤ (n : Int) := by omega
      have hc3 : (n : Int) < 2 := by omega
      clear hc
      go_enter Tryz.func154, Tryz.ntmps154
      go_wp2
      go_ret
      exact ⟨rfl, rfl⟩
  by_cases h14 : op = 14
  · by_cases hc : n = 2
    · refine lit 14 true (show decide (n = 2) = true from decide_eq_true hc) h14 ?_
      clear lit h14
      subst hc
      go_enter Tryz.func154, Tryz.ntmps154
      go_wp2
      go_ret
      exact ⟨rfl, rfl⟩
    · refine lit 14 false (show decide (n = 2) = false from decide_eq_false hc) h14 ?_
      clear lit h14
      have hc1 : (n : Int) ≠ 2 := by omega
      have hc2 : ((n : Int) == 2) = false := by rw [beq_eq_false_iff_ne]; exact hc1
      clear hc
      go_enter Tryz.func154, Tryz.ntmps154
      go_wp2
      go_ret
      exact ⟨rfl, rfl⟩
  have hr : mayB op n = false := by unfold mayB; rw [if_pos (by omega)]
  rw [hr]
  have e1 : (op == 1) = false := by rw [beq_eq_false_iff_ne]; exact h1
  have e2 : (op == 2) = false := by rw [beq_eq_false_iff_ne]; exact h2
  have e3 : (op == 3) = false := by rw [beq_eq_false_iff_ne]; exact h3
  have e4 : (op == 4) = false := by rw [beq_eq_false_iff_ne]; exact h4
  have e5 : (op == 5) = false := by rw [beq_eq_false_iff_ne]; exact h5
  have e6 : (op == 6) = false := by rw [beq_eq_false_iff_ne]; exact h6
  have e7 : (op == 7) = false := by rw [beq_eq_false_iff_ne]; exact h7
  have e8 : (op == 8) = false := by rw [beq_eq_false_iff_ne]; exact h8
  have e9 : (op == 9) = false := by rw [beq_eq_false_iff_ne]; exact h9
  have e10 : (op == 10) = false := by rw [beq_eq_false_iff_ne]; exact h10
  have e11 : (op == 11) = false := by rw [beq_eq_false_iff_ne]; exact h11
  have e12 : (op == 12) = false := by rw [beq_eq_false_iff_ne]; exact h12
  have e13 : (op == 13) = false := by rw [beq_eq_false_iff_ne]; exact h13
  have e14 : (op == 14) = false := by rw [beq_eq_false_iff_ne]; exact h14
  clear lit hr h1 h2 h3 h4 h5 h6 h7 h8 h9 h10 h11 h12 h13 h14
  go_enter Tryz.func154, Tryz.ntmps154
  go_wp2
  go_ret
  exact ⟨rfl, rfl⟩
end Go.Proofs.YtcjfealalokjaaaGreatDoor
namespace Go.Proofs.YtcjfealalokjaaaGreatDoor
open Go Go.RowKit
/-- What it tells. -/
def SaysTells (op : Int) (s : ByteArray) (n : Int) (A : Option Addr) (L c : Nat) (p : Int) (w : World) (b : Bool) : Prop := Calls Tryz.prog 155 #[.agg #[.int .i64 op, .string s, .int .i64 n, .slice A L c, .int .i64 p]] w fun e w' => e = .returned (.bool b) ∧ Below w.heap.size w w'
set_option maxRecDepth 100000 in
set_option maxHeartbeats 4000000 in
theorem says1 {n p : Int} {s : ByteArray} {A : Option Addr} {L c : Nat} {w : World} (hm : Marks w) (hs : s.size ≤ 1000000000)  : SaysTells 1 s n A L c p w (saysB 1 s n) := by
  unfold SaysTells
  by_cases hs0 : s = E0
  · subst hs0
    by_cases n0 : n = 0
    · subst n0
      rw [show saysB 1 E0 0 = true from rfl]
      obtain ⟨w1, hw1⟩ : ∃ W, W = w.alloc (.cells #[.int .i64 1, .string E0, .int .i64 0, .slice A L c, .int .i64 p] 42) := ⟨_, rfl⟩
      have hE1 : Blk w1 w.heap.size 42 [.int .i64 1, .string E0, .int .i64 0, .slice A L c, .int .i64 p] := by rw [hw1]; exact heap_alloc_new w _
      have HB1 : Hid (Below w.heap.size w w1) := Lib.hid (by rw [hw1]; exact belowAlloc w _)
      have HM1 : Hid (Marks w1) := Lib.hid (by rw [hw1]; exact Blk.grownN hm (World.grownBy_alloc w _ none))
      have HW1 := Lib.hid hw1
      obtain ⟨c0, c1, c2, c3, c4⟩ := cells5 hE1
      have hb1 := belowAlloc w (.cells #[.int .i64 1, .string E0, .int .i64 0, .slice A L c, .int .i64 p] 42)
      rw [hw1] at c0 c1 c2 c3 c4
      clear hm hw1 hE1 
      go_enter Tryz.func155, Tryz.ntmps155
      go_wp2
      go_ret
      exact ⟨rfl, hb1⟩
    · by_cases n1 : n = 1
      · subst n1
        rw [show saysB 1 E0 1 = true from rfl]
        obtain ⟨w1, hw1⟩ : ∃ W, W = w.alloc (.cells #[.int .i64 1, .string E0, .int .i64 1, .slice A L c, .int .i64 p] 42) := ⟨_, rfl⟩
        have hE1 : Blk w1 w.heap.size 42 [.int .i64 1, .string E0, .int .i64 1, .slice A L c, .int .i64 p] := by rw [hw1]; exact heap_alloc_new w _
        have HB1 : Hid (Below w.heap.size w w1) := Lib.hid (by rw [hw1]; exact belowAlloc w _)
        have HM1 : Hid (Marks w1) := Lib.hid (by rw [hw1]; exact Blk.grownN hm (World.grownBy_alloc w _ none))
        have HW1 := Lib.hid hw1
        obtain ⟨c0, c1, c2, c3, c4⟩ := cells5 hE1
        have hb1 := belowAlloc w (.cells #[.int .i64 1, .string E0, .int .i64 1, .slice A L c, .int .i64 p] 42)
        rw [hw1] at c0 c1 c2 c3 c4
        clear hm hw1 hE1 
        go_enter Tryz.func155, Tryz.ntmps155
        go_wp2
        go_ret
        exact ⟨rfl, hb1⟩
      · rw [show saysB 1 E0 n = false from by unfold saysB; rw [if_pos rfl, decide_eq_true (rfl : E0 = E0), decide_eq_false (by omega)]; rfl]
        obtain ⟨w1, hw1⟩ : ∃ W, W = w.alloc (.cells #[.int .i64 1, .string E0, .int .i64 n, .slice A L c, .int .i64 p] 42) := ⟨_, rfl⟩
        have hE1 : Blk w1 w.heap.size 42 [.int .i64 1, .string E0, .int .i64 n, .slice A L c, .int .i64 p] := by rw [hw1]; exact heap_alloc_new w _
        have HB1 : Hid (Below w.heap.size w w1) := Lib.hid (by rw [hw1]; exact belowAlloc w _)
        have HM1 : Hid (Marks w1) := Lib.hid (by rw [hw1]; exact Blk.grownN hm (World.grownBy_alloc w _ none))
        have HW1 := Lib.hid hw1
        obtain ⟨c0, c1, c2, c3, c4⟩ := cells5 hE1
        have hb1 := belowAlloc w (.cells #[.int .i64 1, .string E0, .int .i64 n, .slice A L c, .int .i64 p] 42)
        have n0b : (n == 0) = false := by rw [beq_eq_false_iff_ne]; exact n0
        have n1b : (n == 1) = false := by rw [beq_eq_false_iff_ne]; exact n1
        rw [hw1] at c0 c1 c2 c3 c4
        clear hm hw1 hE1 hs
        go_enter Tryz.func155, Tryz.ntmps155
        go_wp2
        go_ret
        exact ⟨rfl, hb1⟩
  · rw [show saysB 1 s n = false from by unfold saysB; rw [if_pos rfl, decide_eq_false hs0]; rfl]
    have es : (s.toList == []) = false := neLit hs0
    have es2 : s.toList.isEmpty = false := by rw [show s.toList.isEmpty = (s.toList == []) from by cases s.toList <;> rfl]; exact es
    obtain ⟨w1, hw1⟩ : ∃ W, W = w.alloc (.cells #[.int .i64 1, .string s, .int .i64 n, .slice A L c, .int .i64 p] 42) := ⟨_, rfl⟩
    have hE1 : Blk w1 w.heap.size 42 [.int .i64 1, .string s, .int .i64 n, .slice A L c, .int .i64 p] := by rw [hw1]; exact heap_alloc_new w _
    have HB1 : Hid (Below w.heap.size w w1) := Lib.hid (by rw [hw1]; exact belowAlloc w _)
    have HM1 : Hid (Marks w1) := Lib.hid (by rw [hw1]; exact Blk.grownN hm (World.grownBy_alloc w _ none))
    have HW1 := Lib.hid hw1
    obtain ⟨c0, c1, c2, c3, c4⟩ := cells5 hE1
    have hb1 := belowAlloc w (.cells #[.int .i64 1, .string s, .int .i64 n, .slice A L c, .int .i64 p] 42)
    rw [hw1] at c0 c1 c2 c3 c4
    clear hm hw1 hE1 hs hs0
    go_enter Tryz.func155, Tryz.ntmps155
    go_wp2
    go_ret
    exact ⟨rfl, hb1⟩
set_option maxRecDepth 100000 in
set_option maxHeartbeats 4000000 in
theorem says2 {n p : Int} {s : ByteArray} {A : Option Addr} {L c : Nat} {w : World} (hm : Marks w) (hs : s.size ≤ 1000000000)  : SaysTells 2 s n A L c p w (saysB 2 s n) := by
  unfold SaysTells
  by_cases hs0 : s = E0
  · subst hs0
    by_cases n0 : -9007199254740991 ≤ n
    · by_cases n1 : n ≤ 9007199254740991
      · rw [show saysB 2 E0 n = true from by unfold saysB; rw [if_neg (by decide), if_pos rfl, decide_eq_true (rfl : E0 = E0), decide_eq_true ⟨n0, n1⟩]; rfl]
        obtain ⟨w1, hw1⟩ : ∃ W, W = w.alloc (.cells #[.int .i64 2, .string E0, .int .i64 n, .slice A L c, .int .i64 p] 42) := ⟨_, rfl⟩
        have hE1 : Blk w1 w.heap.size 42 [.int .i64 2, .string E0, .int .i64 n, .slice A L c, .int .i64 p] := by rw [hw1]; exact heap_alloc_new w _
        have HB1 : Hid (Below w.heap.size w w1) := Lib.hid (by rw [hw1]; exact belowAlloc w _)
        have HM1 : Hid (Marks w1) := Lib.hid (by rw [hw1]; exact Blk.grownN hm (World.grownBy_alloc w _ none))
        have HW1 := Lib.hid hw1
        obtain ⟨c0, c1, c2, c3, c4⟩ := cells5 hE1
        have hb1 := belowAlloc w (.cells #[.int .i64 2, .string E0, .int .i64 n, .slice A L c, .int .i64 p] 42)
        rw [hw1] at c0 c1 c2 c3 c4
        clear hm hw1 hE1 hs
        go_enter Tryz.func155, Tryz.ntmps155
        go_wp2
        go_ret
        exact ⟨rfl, hb1⟩
      · rw [show saysB 2 E0 n = false from by unfold saysB; rw [if_neg (by decide), if_pos rfl, decide_eq_false (fun h : -9007199254740991 ≤ n ∧ n ≤ 9007199254740991 => n1 h.2)]; exact Bool.and_false _]
        obtain ⟨w1, hw1⟩ : ∃ W, W = w.alloc (.cells #[.int .i64 2, .string E0, .int .i64 n, .slice A L c, .int .i64 p] 42) := ⟨_, rfl⟩
        have hE1 : Blk w1 w.heap.size 42 [.int .i64 2, .string E0, .int .i64 n, .slice A L c, .int .i64 p] := by rw [hw1]; exact heap_alloc_new w _
        have HB1 : Hid (Below w.heap.size w w1) := Lib.hid (by rw [hw1]; exact belowAlloc w _)
        have HM1 : Hid (Marks w1) := Lib.hid (by rw [hw1]; exact Blk.grownN hm (World.grownBy_alloc w _ none))
        have HW1 := Lib.hid hw1
        obtain ⟨c0, c1, c2, c3, c4⟩ := cells5 hE1
        have hb1 := belowAlloc w (.cells #[.int .i64 2, .string E0, .int .i64 n, .slice A L c, .int .i64 p] 42)
        rw [hw1] at c0 c1 c2 c3 c4
        clear hm hw1 hE1 hs
        go_enter Tryz.func155, Tryz.ntmps155
        go_wp2
        go_ret
        exact ⟨rfl, hb1⟩
    · rw [show saysB 2 E0 n = false from by unfold saysB; rw [if_neg (by decide), if_pos rfl, decide_eq_false (fun h : -9007199254740991 ≤ n ∧ n ≤ 9007199254740991 => n0 h.1)]; exact Bool.and_false _]
      obtain ⟨w1, hw1⟩ : ∃ W, W = w.alloc (.cells #[.int .i64 2, .string E0, .int .i64 n, .slice A L c, .int .i64 p] 42) := ⟨_, rfl⟩
      have hE1 : Blk w1 w.heap.size 42 [.int .i64 2, .string E0, .int .i64 n, .slice A L c, .int .i64 p] := by rw [hw1]; exact heap_alloc_new w _
      have HB1 : Hid (Below w.heap.size w w1) := Lib.hid (by rw [hw1]; exact belowAlloc w _)
      have HM1 : Hid (Marks w1) := Lib.hid (by rw [hw1]; exact Blk.grownN hm (World.grownBy_alloc w _ none))
      have HW1 := Lib.hid hw1
      obtain ⟨c0, c1, c2, c3, c4⟩ := cells5 hE1
      have hb1 := belowAlloc w (.cells #[.int .i64 2, .string E0, .int .i64 n, .slice A L c, .int .i64 p] 42)
      rw [hw1] at c0 c1 c2 c3 c4
      clear hm hw1 hE1 hs
      go_enter Tryz.func155, Tryz.ntmps155
      go_wp2
      go_ret
      exact ⟨rfl, hb1⟩
  · rw [show saysB 2 s n = false from by unfold saysB; rw [if_neg (by decide), if_pos rfl, decide_eq_false hs0]; rfl]
    have es : (s.toList == []) = false := neLit hs0
    have es2 : s.toList.isEmpty = false := by rw [show s.toList.isEmpty = (s.toList == []) from by cases s.toList <;> rfl]; exact es
    obtain ⟨w1, hw1⟩ : ∃ W, W = w.alloc (.cells #[.int .i64 2, .string s, .int .i64 n, .slice A L c, .int .i64 p] 42) := ⟨_, rfl⟩
    have hE1 : Blk w1 w.heap.size 42 [.int .i64 2, .string s, .int .i64 n, .slice A L c, .int .i64 p] := by rw [hw1]; exact heap_alloc_new w _
    have HB1 : Hid (Below w.heap.size w w1) := Lib.hid (by rw [hw1]; exact belowAlloc w _)
    have HM1 : Hid (Marks w1) := Lib.hid (by rw [hw1]; exact Blk.grownN hm (World.grownBy_alloc w _ none))
    have HW1 := Lib.hid hw1
    obtain ⟨c0, c1, c2, c3, c4⟩ := cells5 hE1
    have hb1 := belowAlloc w (.cells #[.int .i64 2, .string s, .int .i64 n, .slice A L c, .int .i64 p] 42)
    rw [hw1] at c0 c1 c2 c3 c4
    clear hm hw1 hE1 hs hs0
    go_enter Tryz.func155, Tryz.ntmps155
    go_wp2
    go_ret
    exact ⟨rfl, hb1⟩
set_option maxRecDepth 100000 in
set_option maxHeartbeats 4000000 in
theorem says3 {n p : Int} {s : ByteArray} {A : Option Addr} {L c : Nat} {w : World} (hm : Marks w) (hs : s.size ≤ 1000000000)  : SaysTells 3 s n A L c p w (saysB 3 s n) := by
  unfold SaysTells
  by_cases n0 : n = 0
  · subst n0
    rw [show saysB 3 s 0 = (quoteN (strL s)).2 from rfl]
    obtain ⟨X, hX⟩ : ∃ X, X = (quoteN (strL s)).2 := ⟨_, rfl⟩
    rw [← hX]
    obtain ⟨w1, hw1⟩ : ∃ W, W = w.alloc (.cells #[.int .i64 3, .string s, .int .i64 0, .slice A L c, .int .i64 p] 42) := ⟨_, rfl⟩
    have hE1 : Blk w1 w.heap.size 42 [.int .i64 3, .string s, .int .i64 0, .slice A L c, .int .i64 p] := by rw [hw1]; exact heap_alloc_new w _
    have HB1 : Hid (Below w.heap.size w w1) := Lib.hid (by rw [hw1]; exact belowAlloc w _)
    have HM1 : Hid (Marks w1) := Lib.hid (by rw [hw1]; exact Blk.grownN hm (World.grownBy_alloc w _ none))
    have HW1 := Lib.hid hw1
    obtain ⟨c0, c1, c2, c3, c4⟩ := cells5 hE1
    have hb1 := belowAlloc w (.cells #[.int .i64 3, .string s, .int .i64 0, .slice A L c, .int .i64 p] 42)
    have HC := Lib.hid (quotable_any s w1 HM1.out hs)
    rw [← hX] at HC
    rw [hw1] at c0 c1 c2 c3 c4
    clear hm hw1 hE1 hb1 hs hX
    go_enter Tryz.func155, Tryz.ntmps155
    go_wp2_with fail
    rw [← HW1.out]
    (with_reducible refine HC.out.mono ?_)
    rintro e w2 ⟨rfl, hb2⟩
    have HB2 := Lib.hid (HB1.out.trans (hb2.mono HB1.out.size))
    clear hb2
    go_wp2
    go_ret
    exact ⟨rfl, HB2.out⟩
  · rw [show saysB 3 s n = false from by unfold saysB; rw [if_neg (by decide), if_neg (by decide), if_pos (by decide), decide_eq_false n0]; rfl]
    obtain ⟨w1, hw1⟩ : ∃ W, W = w.alloc (.cells #[.int .i64 3, .string s, .int .i64 n, .slice A L c, .int .i64 p] 42) := ⟨_, rfl⟩
    have hE1 : Blk w1 w.heap.size 42 [.int .i64 3, .string s, .int .i64 n, .slice A L c, .int .i64 p] := by rw [hw1]; exact heap_alloc_new w _
    have HB1 : Hid (Below w.heap.size w w1) := Lib.hid (by rw [hw1]; exact belowAlloc w _)
    have HM1 : Hid (Marks w1) := Lib.hid (by rw [hw1]; exact Blk.grownN hm (World.grownBy_alloc w _ none))
    have HW1 := Lib.hid hw1
    obtain ⟨c0, c1, c2, c3, c4⟩ := cells5 hE1
    have hb1 := belowAlloc w (.cells #[.int .i64 3, .string s, .int .i64 n, .slice A L c, .int .i64 p] 42)
    have n0b : (n == 0) = false := by rw [beq_eq_false_iff_ne]; exact n0
    rw [hw1] at c0 c1 c2 c3 c4
    clear hm hw1 hE1 hs
    go_enter Tryz.func155, Tryz.ntmps155
    go_wp2
    go_ret
    exact ⟨rfl, hb1⟩
set_option maxRecDepth 100000 in
set_option maxHeartbeats 4000000 in
theorem says5 {n p : Int} {s : ByteArray} {A : Option Addr} {L c : Nat} {w : World} (hm : Marks w) (hs : s.size ≤ 1000000000)  : SaysTells 5 s n A L c p w (saysB 5 s n) := by
  unfold SaysTells
  by_cases n0 : n = 0
  · subst n0
    rw [show saysB 5 s 0 = (quoteN (strL s)).2 from rfl]
    obtain ⟨X, hX⟩ : ∃ X, X = (quoteN (strL s)).2 := ⟨_, rfl⟩
    rw [← hX]
    obtain ⟨w1, hw1⟩ : ∃ W, W = w.alloc (.cells #[.int .i64 5, .string s, .int .i64 0, .slice A L c, .int .i64 p] 42) := ⟨_, rfl⟩
    have hE1 : Blk w1 w.heap.size 42 [.int .i64 5, .string s, .int .i64 0, .slice A L c, .int .i64 p] := by rw [hw1]; exact heap_alloc_new w _
    have HB1 : Hid (Below w.heap.size w w1) := Lib.hid (by rw [hw1]; exact belowAlloc w _)
    have HM1 : Hid (Marks w1) := Lib.hid (by rw [hw1]; exact Blk.grownN hm (World.grownBy_alloc w _ none))
    have HW1 := Lib.hid hw1
    obtain ⟨c0, c1, c2, c3, c4⟩ := cells5 hE1
    have hb1 := belowAlloc w (.cells #[.int .i64 5, .string s, .int .i64 0, .slice A L c, .int .i64 p] 42)
    have HC := Lib.hid (quotable_any s w1 HM1.out hs)
    rw [← hX] at HC
    rw [hw1] at c0 c1 c2 c3 c4
    clear hm hw1 hE1 hb1 hs hX
    go_enter Tryz.func155, Tryz.ntmps155
    go_wp2_with fail
    rw [← HW1.out]
    (with_reducible refine HC.out.mono ?_)
    rintro e w2 ⟨rfl, hb2⟩
    have HB2 := Lib.hid (HB1.out.trans (hb2.mono HB1.out.size))
    clear hb2
    go_wp2
    go_ret
    exact ⟨rfl, HB2.out⟩
  · rw [show saysB 5 s n = false from by unfold saysB; rw [if_neg (by decide), if_neg (by decide), if_pos (by decide), decide_eq_false n0]; rfl]
    obtain ⟨w1, hw1⟩ : ∃ W, W = w.alloc (.cells #[.int .i64 5, .string s, .int .i64 n, .slice A L c, .int .i64 p] 42) := ⟨_, rfl⟩
    have hE1 : Blk w1 w.heap.size 42 [.int .i64 5, .string s, .int .i64 n, .slice A L c, .int .i64 p] := by rw [hw1]; exact heap_alloc_new w _
    have HB1 : Hid (Below w.heap.size w w1) := Lib.hid (by rw [hw1]; exact belowAlloc w _)
    have HM1 : Hid (Marks w1) := Lib.hid (by rw [hw1]; exact Blk.grownN hm (World.grownBy_alloc w _ none))
    have HW1 := Lib.hid hw1
    obtain ⟨c0, c1, c2, c3, c4⟩ := cells5 hE1
    have hb1 := belowAlloc w (.cells #[.int .i64 5, .string s, .int .i64 n, .slice A L c, .int .i64 p] 42)
    have n0b : (n == 0) = false := by rw [beq_eq_false_iff_ne]; exact n0
    rw [hw1] at c0 c1 c2 c3 c4
    clear hm hw1 hE1 hs
    go_enter Tryz.func155, Tryz.ntmps155
    go_wp2
    go_ret
    exact ⟨rfl, hb1⟩
set_option maxRecDepth 100000 in
set_option maxHeartbeats 4000000 in
theorem says4 {n p : Int} {s : ByteArray} {A : Option Addr} {L c : Nat} {w : World} (hm : Marks w) (hs : s.size ≤ 1000000000)  : SaysTells 4 s n A L c p w (saysB 4 s n) := by
  unfold SaysTells
  by_cases n0 : n = 0
  · subst n0
    rw [show saysB 4 s 0 = varW s from rfl]
    obtain ⟨X, hX⟩ : ∃ X, X = varW s := ⟨_, rfl⟩
    rw [← hX]
    obtain ⟨w1, hw1⟩ : ∃ W, W = w.alloc (.cells #[.int .i64 4, .string s, .int .i64 0, .slice A L c, .int .i64 p] 42) := ⟨_, rfl⟩
    have hE1 : Blk w1 w.heap.size 42 [.int .i64 4, .string s, .int .i64 0, .slice A L c, .int .i64 p] := by rw [hw1]; exact heap_alloc_new w _
    have HB1 : Hid (Below w.heap.size w w1) := Lib.hid (by rw [hw1]; exact belowAlloc w _)
    have HM1 : Hid (Marks w1) := Lib.hid (by rw [hw1]; exact Blk.grownN hm (World.grownBy_alloc w _ none))
    have HW1 := Lib.hid hw1
    obtain ⟨c0, c1, c2, c3, c4⟩ := cells5 hE1
    have hb1 := belowAlloc w (.cells #[.int .i64 4, .string s, .int .i64 0, .slice A L c, .int .i64 p] 42)
    have HC := Lib.hid (isVariable_any s w1 HM1.out hs)
    rw [← hX] at HC
    rw [hw1] at c0 c1 c2 c3 c4
    clear hm hw1 hE1 hb1 hs hX
    go_enter Tryz.func155, Tryz.ntmps155
    go_wp2_with fail
    rw [← HW1.out]
    (with_reducible refine HC.out.mono ?_)
    rintro e w2 ⟨rfl, hb2⟩
    have HB2 := Lib.hid (HB1.out.trans (hb2.mono HB1.out.size))
    clear hb2
    go_wp2
    go_ret
    exact ⟨rfl, HB2.out⟩
  · rw [show saysB 4 s n = false from by unfold saysB; rw [if_neg (by decide), if_neg (by decide), if_neg (by decide), if_pos rfl, decide_eq_false n0]; rfl]
    obtain ⟨w1, hw1⟩ : ∃ W, W = w.alloc (.cells #[.int .i64 4, .string s, .int .i64 n, .slice A L c, .int .i64 p] 42) := ⟨_, rfl⟩
    have hE1 : Blk w1 w.heap.size 42 [.int .i64 4, .string s, .int .i64 n, .slice A L c, .int .i64 p] := by rw [hw1]; exact heap_alloc_new w _
    have HB1 : Hid (Below w.heap.size w w1) := Lib.hid (by rw [hw1]; exact belowAlloc w _)
    have HM1 : Hid (Marks w1) := Lib.hid (by rw [hw1]; exact Blk.grownN hm (World.grownBy_alloc w _ none))
    have HW1 := Lib.hid hw1
    obtain ⟨c0, c1, c2, c3, c4⟩ := cells5 hE1
    have hb1 := belowAlloc w (.cells #[.int .i64 4, .string s, .int .i64 n, .slice A L c, .int .i64 p] 42)
    have n0b : (n == 0) = false := by rw [beq_eq_false_iff_ne]; exact n0
    rw [hw1] at c0 c1 c2 c3 c4
    clear hm hw1 hE1 hs
    go_enter Tryz.func155, Tryz.ntmps155
    go_wp2
    go_ret
    exact ⟨rfl, hb1⟩
set_option maxRecDepth 100000 in
set_option maxHeartbeats 4000000 in
theorem says6 {n p : Int} {s : ByteArray} {A : Option Addr} {L c : Nat} {w : World} (hm : Marks w) (hs : s.size ≤ 1000000000) {op : Int} (h1 : op ≠ 1) (h2 : op ≠ 2) (h3 : op ≠ 3) (h4 : op ≠ 4) (h5 : op ≠ 5) : SaysTells op s n A L c p w (saysB op s n) := by
  unfold SaysTells
  by_cases hs0 : s = E0
  · subst hs0
    by_cases n0 : n = 0
    · subst n0
      rw [show saysB op E0 0 = true from by unfold saysB; rw [if_neg h1, if_neg h2, if_neg (by omega), if_neg h4]; rfl]
      obtain ⟨w1, hw1⟩ : ∃ W, W = w.alloc (.cells #[.int .i64 op, .string E0, .int .i64 0, .slice A L c, .int .i64 p] 42) := ⟨_, rfl⟩
      have hE1 : Blk w1 w.heap.size 42 [.int .i64 op, .string E0, .int .i64 0, .slice A L c, .int .i64 p] := by rw [hw1]; exact heap_alloc_new w _
      have HB1 : Hid (Below w.heap.size w w1) := Lib.hid (by rw [hw1]; exact belowAlloc w _)
      have HM1 : Hid (Marks w1) := Lib.hid (by rw [hw1]; exact Blk.grownN hm (World.grownBy_alloc w _ none))
      have HW1 := Lib.hid hw1
      obtain ⟨c0, c1, c2, c3, c4⟩ := cells5 hE1
      have hb1 := belowAlloc w (.cells #[.int .i64 op, .string E0, .int .i64 0, .slice A L c, .int .i64 p] 42)
      have e1 : (op == 1) = false := by rw [beq_eq_false_iff_ne]; exact h1
      have e2 : (op == 2) = false := by rw [beq_eq_false_iff_ne]; exact h2
      have e3 : (op == 3) = false := by rw [beq_eq_false_iff_ne]; exact h3
      have e4 : (op == 4) = false := by rw [beq_eq_false_iff_ne]; exact h4
      have e5 : (op == 5) = false := by rw [beq_eq_false_iff_ne]; exact h5
      rw [hw1] at c0 c1 c2 c3 c4
      clear hm hw1 hE1 h1 h2 h3 h4 h5 hs
      go_enter Tryz.func155, Tryz.ntmps155
      go_wp2
      go_ret
      exact ⟨rfl, hb1⟩
    · rw [show saysB op E0 n = false from by unfold saysB; rw [if_neg h1, if_neg h2, if_neg (by omega), if_neg h4, decide_eq_false n0]; exact Bool.and_false _]
      obtain ⟨w1, hw1⟩ : ∃ W, W = w.alloc (.cells #[.int .i64 op, .string E0, .int .i64 n, .slice A L c, .int .i64 p] 42) := ⟨_, rfl⟩
      have hE1 : Blk w1 w.heap.size 42 [.int .i64 op, .string E0, .int .i64 n, .slice A L c, .int .i64 p] := by rw [hw1]; exact heap_alloc_new w _
      have HB1 : Hid (Below w.heap.size w w1) := Lib.hid (by rw [hw1]; exact belowAlloc w _)
      have HM1 : Hid (Marks w1) := Lib.hid (by rw [hw1]; exact Blk.grownN hm (World.grownBy_alloc w _ none))
      have HW1 := Lib.hid hw1
      obtain ⟨c0, c1, c2, c3, c4⟩ := cells5 hE1
      have hb1 := belowAlloc w (.cells #[.int .i64 op, .string E0, .int .i64 n, .slice A L c, .int .i64 p] 42)
      have e1 : (op == 1) = false := by rw [beq_eq_false_iff_ne]; exact h1
      have e2 : (op == 2) = false := by rw [beq_eq_false_iff_ne]; exact h2
      have e3 : (op == 3) = false := by rw [beq_eq_false_iff_ne]; exact h3
      have e4 : (op == 4) = false := by rw [beq_eq_false_iff_ne]; exact h4
      have e5 : (op == 5) = false := by rw [beq_eq_false_iff_ne]; exact h5
      have n0b : (n == 0) = false := by rw [beq_eq_false_iff_ne]; exact n0
      rw [hw1] at c0 c1 c2 c3 c4
      clear hm hw1 hE1 h1 h2 h3 h4 h5 hs
      go_enter Tryz.func155, Tryz.ntmps155
      go_wp2
      go_ret
      exact ⟨rfl, hb1⟩
  · rw [show saysB op s n = false from by unfold saysB; rw [if_neg h1, if_neg h2, if_neg (by omega), if_neg h4, decide_eq_false hs0]; rfl]
    have es : (s.toList == []) = false := neLit hs0
    have es2 : s.toList.isEmpty = false := by rw [show s.toList.isEmpty = (s.toList == []) from by cases s.toList <;> rfl]; exact es
    obtain ⟨w1, hw1⟩ : ∃ W, W = w.alloc (.cells #[.int .i64 op, .string s, .int .i64 n, .slice A L c, .int .i64 p] 42) := ⟨_, rfl⟩
    have hE1 : Blk w1 w.heap.size 42 [.int .i64 op, .string s, .int .i64 n, .slice A L c, .int .i64 p] := by rw [hw1]; exact heap_alloc_new w _
    have HB1 : Hid (Below w.heap.size w w1) := Lib.hid (by rw [hw1]; exact belowAlloc w _)
    have HM1 : Hid (Marks w1) := Lib.hid (by rw [hw1]; exact Blk.grownN hm (World.grownBy_alloc w _ none))
    have HW1 := Lib.hid hw1
    obtain ⟨c0, c1, c2, c3, c4⟩ := cells5 hE1
    have hb1 := belowAlloc w (.cells #[.int .i64 op, .string s, .int .i64 n, .slice A L c, .int .i64 p] 42)
    have e1 : (op == 1) = false := by rw [beq_eq_false_iff_ne]; exact h1
    have e2 : (op == 2) = false := by rw [beq_eq_false_iff_ne]; exact h2
    have e3 : (op == 3) = false := by rw [beq_eq_false_iff_ne]; exact h3
    have e4 : (op == 4) = false := by rw [beq_eq_false_iff_ne]; exact h4
    have e5 : (op == 5) = false := by rw [beq_eq_false_iff_ne]; exact h5
    rw [hw1] at c0 c1 c2 c3 c4
    clear hm hw1 hE1 h1 h2 h3 h4 h5 hs hs0
    go_enter Tryz.func155, Tryz.ntmps155
    go_wp2
    go_ret
    exact ⟨rfl, hb1⟩
theorem saysRight_any (op n p : Int) (s : ByteArray) (A : Option Addr) (L c : Nat) (w : World) (hm : Marks w) (hs : s.size ≤ 1000000000) : SaysTells op s n A L c p w (saysB op s n) := by
  by_cases h1 : op = 1
  · subst h1; exact says1 hm hs
  by_cases h2 : op = 2
  · subst h2; exact says2 hm hs
  by_cases h3 : op = 3
  · subst h3; exact says3 hm hs
  by_cases h4 : op = 4
  · subst h4; exact says4 hm hs
  by_cases h5 : op = 5
  · subst h5; exact says5 hm hs
  exact says6 hm hs h1 h2 h3 h4 h5
end Go.Proofs.YtcjfealalokjaaaGreatDoor
