/- JsonText, JsonLawT: merged. -/
import Derived.Laws.Concat
import Derived.Test.YtblheibknpphkaaGreatDoorBa17
import Derived.Test.YtblheibknpphkaaGreatDoorBa45
import Derived.Test.YtblheibknpphkaaGreatDoorBa65
set_option linter.all false
namespace Go.Proofs.YtblheibknpphkaaGreatDoor
open Go Go.RowKit
def RTAsk (j : J) : Prop := ∀ (W : World) (v : Value), RepJ W j v → Calls Tryz.prog 20 #[v] W fun e w' => e = .returned (.string (toS (textL j))) ∧ Below W.heap.size W w'
/-- No text or name is long. -/
inductive Tiny : J → Prop
  | mk (kind n : Int) (s : ByteArray) (l : List J) (k : List ByteArray) : s.size ≤ 1000000 → (∀ t ∈ k, t.size ≤ 1000000) → (∀ x ∈ l, Tiny x) → Tiny (.mk kind n s l k)
set_option maxRecDepth 100000 in
set_option maxHeartbeats 16000000 in
theorem refText_of (kind n : Int) (s : ByteArray) (l : List J) (k : List ByteArray) (hrt : Rt (.mk kind n s l k)) (hss : s.size ≤ 1000000) (hks : ∀ t ∈ k, t.size ≤ 1000000) (hlen : (textL (.mk kind n s l k)).length ≤ 10000000000000) (ih : ∀ x ∈ l, RTAsk x) : RTAsk (.mk kind n s l k) := fun W v hj => by
  obtain ⟨vk, A, c, rfl, _, hkk, hl, hc⟩ := hj.open
  obtain ⟨K, dd, rfl, hkl, hkc⟩ := hkk.open
  replace hkc : ∀ i (hi : i < k.length), ∃ b o, K = some ⟨b, o, none⟩ ∧ b < W.heap.size ∧ k[i].size ≤ 9223372036854775807 ∧ W.cell? ⟨b, o + i, none⟩ = some (.string k[i]) := hkc
  replace hc : l ≠ [] → ∃ b o, A = some ⟨b, o, none⟩ ∧ b < W.heap.size ∧ RepC W b o l := hc
  replace hl : l.length ≤ 9223372036854775807 := hl
  replace hkl : k.length ≤ 9223372036854775807 := hkl
  obtain ⟨p, hp⟩ : ∃ p, p = l.length := ⟨_, rfl⟩
  obtain ⟨q, hq⟩ : ∃ q, q = k.length := ⟨_, rfl⟩
  change Calls _ _ #[.agg #[.int .i64 kind, .int .i64 n, .string s, .slice A l.length c, .slice K k.length dd]] _ _
  have HKC := Lib.hid hkc
  have HC := Lib.hid hc
  have HIH := Lib.hid ih
  have HKS := Lib.hid hks
  rw [← hp] at hl
  rw [← hq] at hkl
  rw [← hp, ← hq]
  have HP := Lib.hid hp
  have HQ := Lib.hid hq
  obtain ⟨B, hBB⟩ : ∃ z, z = W.heap.size := ⟨_, rfl⟩
  obtain ⟨w2, hw2⟩ : ∃ z, z = W.alloc (.cells #[.int .i64 kind, .int .i64 n, .string s, .slice A p c, .slice K q dd] 26) := ⟨_, rfl⟩
  have hX2 : Blk w2 B 26 [.int .i64 kind, .int .i64 n, .string s, .slice A p c, .slice K q dd] := by rw [hw2, hBB]; exact heapAtJ W _ _
  have HB2 : Hid (Below W.heap.size W w2) := Lib.hid (by rw [hw2]; exact belowAlloc W _)
  have HW2 := Lib.hid hw2
  have HBB := Lib.hid hBB
  obtain ⟨c0, c1, c2, c3, c4⟩ : w2.cell? ⟨B, 0, none⟩ = some (.int .i64 kind) ∧ w2.cell? ⟨B, 1, none⟩ = some (.int .i64 n) ∧ w2.cell? ⟨B, 2, none⟩ = some (.string s) ∧ w2.cell? ⟨B, 3, none⟩ = some (.slice A p c) ∧ w2.cell? ⟨B, 4, none⟩ = some (.slice K q dd) := ⟨hX2.cell 0, hX2.cell 1, hX2.cell 2, hX2.cell 3, hX2.cell 4⟩
  have HX4 := Lib.hid c4
  have HX3 := Lib.hid c3
  obtain ⟨N, hN⟩ : ∃ N, N = (textL (.mk kind n s l k)).length := ⟨_, rfl⟩
  have HNB : Hid (N ≤ 10000000000000) := Lib.hid (by omega)
  cases hrt with
  | mk _ _ _ _ _ a1 a2 a3 a4 =>
  clear hj hkk hc ih hp hq hX2 hw2 hBB hkc hks hlen
  go_enter Tryz.func20, Tryz.ntmps20
  go_upto_region 1 with fail
  rw [show W.alloc (.cells #[.int .i64 kind, .int .i64 n, .string s, .slice A p c, .slice K q dd] 26) = w2 from HW2.out.symm, show W.heap.size = B from HBB.out.symm]
  rcases a3 with rfl | rfl | a
  · have htx : textL (.mk 4 n s l k) = [91] ++ itemsL false true l k ++ [93] := by rw [textL]; rfl
    clear a1 a2 a4
    have HNN : Hid (([91] ++ itemsL false true l k ++ [93]).length = N) := Lib.hid (by rw [← htx]; exact hN.symm)
    have HTXT := Lib.hid htx
    clear htx hN
    go_wp2
    go_loopw [4, 3] (fun i v wr => ∃ (m : Nat) (acc : List Int), m ≤ p ∧ i = .int .i64 (m : Int) ∧ v = .string (toS acc) ∧ Bytes acc ∧ acc ++ itemsL false (decide (m = 0)) (l.drop m) (k.drop m) = [91] ++ itemsL false true l k ∧ Below w2.heap.size w2 wr) (fun i _ _ => p - (intOf i).toNat)
    case atStart => exact ⟨0, [91], Nat.zero_le _, rfl, rfl, .of_mem (by decide), rfl, Below.refl _ _⟩
    case round =>
      obtain ⟨m, acc, hm, rfl, rfl, hby, hrest, hbel⟩ := hrel
      have HBE := Lib.hid hbel
      have HBY := Lib.hid hby
      have y1 := (hbel.cell (p := ⟨B, 3, none⟩) (lt_of_cell HX3.out)).trans HX3.out
      have hbw := HB2.out.trans (hbel.mono HB2.out.size)
      have HBW := Lib.hid hbw
      obtain ⟨T, hT⟩ : ∃ T, T = toS acc := ⟨_, rfl⟩
      have HTT := Lib.hid hT
      have HTS : Hid (T.size = acc.length) := Lib.hid (by rw [hT, size_toS])
      rw [← hT]
      clear hby hbel hT
      by_cases hlt : m < p
      · have hm1 : m < l.length := by rw [← HP.out]; exact hlt
        rw [itemsL_drop false l k m hm1] at hrest
        obtain ⟨g, o, rfl, hg, hrep⟩ := HC.out (fun e => by rw [e] at hm1; exact absurd hm1 (Nat.not_lt_zero _))
        obtain ⟨v1, hr1, hf1⟩ := hrep.at m hm1
        have HCALL := Lib.hid (fun (w' : World) (hb : Below W.heap.size W w') => HIH.out l[m] (List.getElem_mem hm1) w' v1 (RepJ.below hb _ _ hr1))
        obtain ⟨a0, a1, a2, a3, a4, rfl, z0, z1, z2, z3, z4⟩ := hf1.below hg hbw
        obtain ⟨X0, hX0⟩ : ∃ x, x = l[m] := ⟨_, rfl⟩
        rw [← hX0] at HCALL hrest
        obtain ⟨TX, hTX⟩ : ∃ T, T = toS (textL X0) := ⟨_, rfl⟩
        rw [← hTX] at HCALL
        have HTX : Hid (toS (textL X0) = TX) := Lib.hid hTX.symm

        have i0 : (0 : Int) ≤ (m : Int) := by omega
        have i1 : (m : Int) < (p : Int) := by omega
        clear hrep hr1 hf1 hbw hX0 hTX
        by_cases h0 : m = 0
        · skip
          have hj0 : ¬ (0 : Int) < (m : Int) := by omega
          rw [show decide (m = 0) = true from decide_eq_true h0, if_pos rfl, List.nil_append] at hrest
          simp only [Bool.false_eq_true, if_false, List.nil_append] at hrest
          have HREST := Lib.hid hrest
          have hsz : acc.length + 0 + (textL X0).length ≤ N := by
            have := congrArg List.length hrest
            simp only [List.length_append, List.length_cons, List.length_nil] at this
            have hN2 := HNN.out
            simp only [List.length_append, List.length_cons, List.length_nil] at hN2
            omega
          have HSZ := Lib.hid (And.intro hsz HNB.out)
          have HTXS : Hid (TX.size = (textL X0).length) := Lib.hid (by rw [← HTX.out, size_toS])
          clear hrest hsz h0
          have r1 := fun W : World => run_string_add_sum (P := Tryz.prog) (w := W) (T) TX (by have := HSZ.out; have := HTS.out; have := HTXS.out; omega)
          have hr1 : (T).size + TX.size ≤ 9223372036854775807 := by have := HSZ.out; have := HTS.out; have := HTXS.out; omega
          go_wp2_with (go_at_call 20; (with_reducible refine (HCALL.out _ HBW.out).mono ?_); rintro e w4 ⟨rfl, hb⟩; have HB4 := Lib.hid (HBE.out.trans (hb.mono HBE.out.size)); clear hb)
          exact ⟨⟨m + 1, acc ++ textL X0, by omega, by go_num, by rw [← HTX.out, HTT.out]; exact congrArg Value.string (toS_append HBY.out (textL_by X0)), by exact HBY.out.append (textL_by X0), by rw [show decide (m + 1 = 0) = false from decide_eq_false (by omega)]; simpa [List.append_assoc] using HREST.out, HB4.out⟩, by simp [intOf]; omega⟩
        · skip
          have hj0 : (0 : Int) < (m : Int) := by omega
          rw [show decide (m = 0) = false from decide_eq_false h0, if_neg (by simp)] at hrest
          simp only [Bool.false_eq_true, if_false, List.nil_append] at hrest
          have HREST := Lib.hid hrest
          have hsz : acc.length + 1 + (textL X0).length ≤ N := by
            have := congrArg List.length hrest
            simp only [List.length_append, List.length_cons, List.length_nil] at this
            have hN2 := HNN.out
            simp only [List.length_append, List.length_cons, List.length_nil] at hN2
            omega
          have HSZ := Lib.hid (And.intro hsz HNB.out)
          have HTXS : Hid (TX.size = (textL X0).length) := Lib.hid (by rw [← HTX.out, size_toS])
          have r0 := fun W : World => run_string_add_sum (P := Tryz.prog) (w := W) T ⟨#[44]⟩ (by have := HSZ.out; have := HTS.out; show _ + 1 ≤ _; omega)
          have ht0 : T.size + 1 ≤ 9223372036854775807 := by have := HSZ.out; have := HTS.out; omega
          clear hrest hsz h0
          have r1 := fun W : World => run_string_add_sum (P := Tryz.prog) (w := W) (T ++ ⟨#[44]⟩) TX (by have := HSZ.out; have := HTS.out; have := HTXS.out; rw [ByteArray.size_append]; show _ + 1 + _ ≤ _; omega)
          have hr1 : (T ++ ⟨#[44]⟩).size + TX.size ≤ 9223372036854775807 := by have := HSZ.out; have := HTS.out; have := HTXS.out; rw [ByteArray.size_append]; show _ + 1 + _ ≤ _; omega
          go_wp2_with (go_at_call 20; (with_reducible refine (HCALL.out _ HBW.out).mono ?_); rintro e w4 ⟨rfl, hb⟩; have HB4 := Lib.hid (HBE.out.trans (hb.mono HBE.out.size)); clear hb)
          exact ⟨⟨m + 1, acc ++ [44] ++ textL X0, by omega, by go_num, by rw [← HTX.out, HTT.out]; exact congrArg Value.string (by rw [show (⟨#[44]⟩ : ByteArray) = toS [44] by decide, toS_append HBY.out (.of_mem (by decide)), toS_append (HBY.out.append (.of_mem (by decide))) (textL_by X0)]), by exact (HBY.out.append (.of_mem (by decide))).append (textL_by X0), by rw [show decide (m + 1 = 0) = false from decide_eq_false (by omega)]; simpa [List.append_assoc] using HREST.out, HB4.out⟩, by simp [intOf]; omega⟩
      · obtain rfl : m = p := by omega
        have hfin : acc = [91] ++ itemsL false true l k := by
          rw [List.drop_of_length_le (show l.length ≤ m by rw [← HP.out]; exact Nat.le_refl _), itemsL, List.append_nil] at hrest
          exact hrest
        have hge : ¬ (m : Int) < (m : Int) := by omega
        have hsz : T.size + 1 ≤ 9223372036854775807 := by
          have h1 := HNN.out
          rw [List.length_append, ← hfin] at h1
          have := HTS.out
          have := HNB.out
          simp only [List.length_cons, List.length_nil] at h1
          omega
        have r0 := fun W : World => run_string_add_sum (P := Tryz.prog) (w := W) T ⟨#[93]⟩ (by show _ + 1 ≤ _; exact hsz)
        have HFIN : Hid (T ++ ⟨#[93]⟩ = toS (textL (.mk 4 n s l k))) := Lib.hid (by rw [HTT.out, show (⟨#[93]⟩ : ByteArray) = toS [93] by decide, toS_append HBY.out (.of_mem (by decide)), hfin, HTXT.out])
        clear hrest hfin hlt
        go_wp2
        go_ret
        exact ⟨by rw [HFIN.out]; rfl, HBW.out⟩
  · have htx : textL (.mk 5 n s l k) = [123] ++ itemsL true true l k ++ [125] := by rw [textL]; rfl
    obtain ⟨hqp, _⟩ := a2 rfl
    have hqp2 : p = q := by rw [HQ.out, HP.out, hqp]
    subst hqp2
    clear a1 a2 a4 hqp
    have HNN : Hid (([123] ++ itemsL true true l k ++ [125]).length = N) := Lib.hid (by rw [← htx]; exact hN.symm)
    have HTXT := Lib.hid htx
    clear htx hN
    go_wp2
    go_loopw [6, 5] (fun i v wr => ∃ (m : Nat) (acc : List Int), m ≤ p ∧ i = .int .i64 (m : Int) ∧ v = .string (toS acc) ∧ Bytes acc ∧ acc ++ itemsL true (decide (m = 0)) (l.drop m) (k.drop m) = [123] ++ itemsL true true l k ∧ Below w2.heap.size w2 wr) (fun i _ _ => p - (intOf i).toNat)
    case atStart => exact ⟨0, [123], Nat.zero_le _, rfl, rfl, .of_mem (by decide), rfl, Below.refl _ _⟩
    case round =>
      obtain ⟨m, acc, hm, rfl, rfl, hby, hrest, hbel⟩ := hrel
      have HBE := Lib.hid hbel
      have HBY := Lib.hid hby
      have y1 := (hbel.cell (p := ⟨B, 3, none⟩) (lt_of_cell HX3.out)).trans HX3.out
      have y2 := (hbel.cell (p := ⟨B, 4, none⟩) (lt_of_cell HX4.out)).trans HX4.out
      have hbw := HB2.out.trans (hbel.mono HB2.out.size)
      have HBW := Lib.hid hbw
      obtain ⟨T, hT⟩ : ∃ T, T = toS acc := ⟨_, rfl⟩
      have HTT := Lib.hid hT
      have HTS : Hid (T.size = acc.length) := Lib.hid (by rw [hT, size_toS])
      rw [← hT]
      clear hby hbel hT
      by_cases hlt : m < p
      · have hm1 : m < l.length := by rw [← HP.out]; exact hlt
        rw [itemsL_drop true l k m hm1] at hrest
        obtain ⟨g, o, rfl, hg, hrep⟩ := HC.out (fun e => by rw [e] at hm1; exact absurd hm1 (Nat.not_lt_zero _))
        obtain ⟨v1, hr1, hf1⟩ := hrep.at m hm1
        have HCALL := Lib.hid (fun (w' : World) (hb : Below W.heap.size W w') => HIH.out l[m] (List.getElem_mem hm1) w' v1 (RepJ.below hb _ _ hr1))
        obtain ⟨a0, a1, a2, a3, a4, rfl, z0, z1, z2, z3, z4⟩ := hf1.below hg hbw
        obtain ⟨X0, hX0⟩ : ∃ x, x = l[m] := ⟨_, rfl⟩
        rw [← hX0] at HCALL hrest
        obtain ⟨TX, hTX⟩ : ∃ T, T = toS (textL X0) := ⟨_, rfl⟩
        rw [← hTX] at HCALL
        have HTX : Hid (toS (textL X0) = TX) := Lib.hid hTX.symm
        have hmk : m < k.length := by rw [← HQ.out]; omega
        obtain ⟨g', o', rfl, hg', hts, hcell⟩ := HKC.out m hmk
        have y3 := (hbw.cell (p := ⟨g', o' + m, none⟩) hg').trans hcell
        have hkd : k.drop m = k[m] :: k.drop (m + 1) := List.drop_eq_getElem_cons hmk
        have hts2 : k[m].size ≤ 1000000 := HKS.out _ (List.getElem_mem _)
        rw [hkd] at hrest
        simp only [List.headD_cons, List.tail_cons] at hrest
        obtain ⟨t0, ht0p⟩ : ∃ t, t = k[m] := ⟨_, rfl⟩
        rw [← ht0p] at y3 hrest hts2
        have HQU := Lib.hid (fun W : World => refQuote_any t0 W hts2)
        obtain ⟨TQ, hTQ⟩ : ∃ T, T = toS (quoteL (strL t0)) := ⟨_, rfl⟩
        rw [← hTQ] at HQU
        have HTQ : Hid (toS (quoteL (strL t0)) = TQ) := Lib.hid hTQ.symm
        have iq : (m : Int) < (p : Int) := by omega
        have i0 : (0 : Int) ≤ (m : Int) := by omega
        have i1 : (m : Int) < (p : Int) := by omega
        clear hrep hr1 hf1 hbw hX0 hTX hcell hkd hts hts2 hTQ ht0p
        by_cases h0 : m = 0
        · skip
          have hj0 : ¬ (0 : Int) < (m : Int) := by omega
          rw [show decide (m = 0) = true from decide_eq_true h0, if_pos rfl, List.nil_append] at hrest
          simp only [if_true] at hrest
          have HREST := Lib.hid hrest
          have hsz : acc.length + 0 + (quoteL (strL t0)).length + 1 + (textL X0).length ≤ N := by
            have := congrArg List.length hrest
            simp only [List.length_append, List.length_cons, List.length_nil] at this
            have hN2 := HNN.out
            simp only [List.length_append, List.length_cons, List.length_nil] at hN2
            omega
          have HSZ := Lib.hid (And.intro hsz HNB.out)
          have HTXS : Hid (TX.size = (textL X0).length ∧ TQ.size = (quoteL (strL t0)).length) := Lib.hid ⟨by rw [← HTX.out, size_toS], by rw [← HTQ.out, size_toS]⟩
          clear hrest hsz h0
          have HBY1 : Hid (Bytes (acc)) := Lib.hid (HBY.out)
          have HBY2 := Lib.hid (HBY1.out.append (quoteL_by t0))
          have HBY3 : Hid (Bytes (acc ++ quoteL (strL t0) ++ [58])) := Lib.hid (HBY2.out.append (.of_mem (by decide)))
          go_upto_region 27 with fail

          have r1 := fun W : World => run_string_add_sum (P := Tryz.prog) (w := W) (T) TQ (by have := HSZ.out; have := HTS.out; have := HTXS.out; omega)
          have r2 := fun W : World => run_string_add_sum (P := Tryz.prog) (w := W) (T ++ TQ) ⟨#[58]⟩ (by have := HSZ.out; have := HTS.out; have := HTXS.out; rw [ByteArray.size_append]; show _ + _ + 1 ≤ _; omega)
          have r3 := fun W : World => run_string_add_sum (P := Tryz.prog) (w := W) (T ++ TQ ++ ⟨#[58]⟩) TX (by have := HSZ.out; have := HTS.out; have := HTXS.out; rw [ByteArray.size_append, ByteArray.size_append]; show _ + _ + 1 + _ ≤ _; omega)
          go_region_held3 (fun V => Below wr.heap.size wr V ∧ V.cell? ⟨B, 3, none⟩ = some (.slice (some ⟨g, o, none⟩) p c) ∧ V.cell? ⟨B, 4, none⟩ = some (.slice (some ⟨g', o', none⟩) p dd) ∧ V.cell? ⟨g', o' + m, none⟩ = some (.string t0) ∧ V.cell? ⟨g, o + m * 5, none⟩ = some a0 ∧ V.cell? ⟨g, o + m * 5 + 1, none⟩ = some a1 ∧ V.cell? ⟨g, o + m * 5 + 2, none⟩ = some a2 ∧ V.cell? ⟨g, o + m * 5 + 3, none⟩ = some a3 ∧ V.cell? ⟨g, o + m * 5 + 4, none⟩ = some a4)
            (first
              | exact ⟨(Below.refl _ _).drew, y1, y2, y3, z0, z1, z2, z3, z4⟩
              | (have hh := ‹Below wr.heap.size wr _ ∧ _›; exact ⟨hh.1.trans (hb.mono hh.1.size), (hb.cell (lt_of_cell hh.2.1)).trans hh.2.1, (hb.cell (lt_of_cell hh.2.2.1)).trans hh.2.2.1, (hb.cell (lt_of_cell hh.2.2.2.1)).trans hh.2.2.2.1, (hb.cell (lt_of_cell hh.2.2.2.2.1)).trans hh.2.2.2.2.1, (hb.cell (lt_of_cell hh.2.2.2.2.2.1)).trans hh.2.2.2.2.2.1, (hb.cell (lt_of_cell hh.2.2.2.2.2.2.1)).trans hh.2.2.2.2.2.2.1, (hb.cell (lt_of_cell hh.2.2.2.2.2.2.2.1)).trans hh.2.2.2.2.2.2.2.1, (hb.cell (lt_of_cell hh.2.2.2.2.2.2.2.2)).trans hh.2.2.2.2.2.2.2.2⟩)
              | go_keep)
            (first
              | (go_at_call 41; (with_reducible refine (HQU.out _).mono ?_); rintro e w' ⟨rfl, hb⟩)
              | (go_at_call 20; refine (HCALL.out _ (HBW.out.trans (Below.mono (And.left ‹Below wr.heap.size wr _ ∧ _›) HBW.out.size))).mono ?_; rintro e w' ⟨rfl, hb⟩))
          have HW := Lib.hid (HBE.out.trans (Below.mono (And.left ‹Below wr.heap.size wr _ ∧ _›) HBE.out.size))
          clear r1 r2 r3
          go_wp2_with fail
          exact ⟨⟨m + 1, acc ++ quoteL (strL t0) ++ [58] ++ textL X0, by omega, by go_num, by rw [← HTX.out, ← HTQ.out, HTT.out]; exact congrArg Value.string (by rw [show (⟨#[58]⟩ : ByteArray) = toS [58] by decide, toS_append HBY.out (quoteL_by t0), toS_append HBY2.out (.of_mem (by decide)), toS_append HBY3.out (textL_by X0)]), HBY3.out.append (textL_by X0), by rw [show decide (m + 1 = 0) = false from decide_eq_false (by omega)]; simpa [List.append_assoc] using HREST.out, HW.out⟩, by simp [intOf]; omega⟩
        · skip
          have hj0 : (0 : Int) < (m : Int) := by omega
          rw [show decide (m = 0) = false from decide_eq_false h0, if_neg (by simp)] at hrest
          simp only [if_true] at hrest
          have HREST := Lib.hid hrest
          have hsz : acc.length + 1 + (quoteL (strL t0)).length + 1 + (textL X0).length ≤ N := by
            have := congrArg List.length hrest
            simp only [List.length_append, List.length_cons, List.length_nil] at this
            have hN2 := HNN.out
            simp only [List.length_append, List.length_cons, List.length_nil] at hN2
            omega
          have HSZ := Lib.hid (And.intro hsz HNB.out)
          have HTXS : Hid (TX.size = (textL X0).length ∧ TQ.size = (quoteL (strL t0)).length) := Lib.hid ⟨by rw [← HTX.out, size_toS], by rw [← HTQ.out, size_toS]⟩
          have r0 := fun W : World => run_string_add_sum (P := Tryz.prog) (w := W) T ⟨#[44]⟩ (by have := HSZ.out; have := HTS.out; show _ + 1 ≤ _; omega)
          have ht0 : T.size + 1 ≤ 9223372036854775807 := by have := HSZ.out; have := HTS.out; omega
          clear hrest hsz h0
          have HBY1 : Hid (Bytes (acc ++ [44])) := Lib.hid (HBY.out.append (.of_mem (by decide)))
          have HBY2 := Lib.hid (HBY1.out.append (quoteL_by t0))
          have HBY3 : Hid (Bytes (acc ++ [44] ++ quoteL (strL t0) ++ [58])) := Lib.hid (HBY2.out.append (.of_mem (by decide)))
          go_upto_region 27 with fail
          clear r0 ht0
          have r1 := fun W : World => run_string_add_sum (P := Tryz.prog) (w := W) (T ++ ⟨#[44]⟩) TQ (by have := HSZ.out; have := HTS.out; have := HTXS.out; rw [ByteArray.size_append]; show _ + 1 + _ ≤ _; omega)
          have r2 := fun W : World => run_string_add_sum (P := Tryz.prog) (w := W) (T ++ ⟨#[44]⟩ ++ TQ) ⟨#[58]⟩ (by have := HSZ.out; have := HTS.out; have := HTXS.out; rw [ByteArray.size_append, ByteArray.size_append]; show _ + 1 + _ + 1 ≤ _; omega)
          have r3 := fun W : World => run_string_add_sum (P := Tryz.prog) (w := W) (T ++ ⟨#[44]⟩ ++ TQ ++ ⟨#[58]⟩) TX (by have := HSZ.out; have := HTS.out; have := HTXS.out; rw [ByteArray.size_append, ByteArray.size_append, ByteArray.size_append]; show _ + 1 + _ + 1 + _ ≤ _; omega)
          go_region_held3 (fun V => Below wr.heap.size wr V ∧ V.cell? ⟨B, 3, none⟩ = some (.slice (some ⟨g, o, none⟩) p c) ∧ V.cell? ⟨B, 4, none⟩ = some (.slice (some ⟨g', o', none⟩) p dd) ∧ V.cell? ⟨g', o' + m, none⟩ = some (.string t0) ∧ V.cell? ⟨g, o + m * 5, none⟩ = some a0 ∧ V.cell? ⟨g, o + m * 5 + 1, none⟩ = some a1 ∧ V.cell? ⟨g, o + m * 5 + 2, none⟩ = some a2 ∧ V.cell? ⟨g, o + m * 5 + 3, none⟩ = some a3 ∧ V.cell? ⟨g, o + m * 5 + 4, none⟩ = some a4)
            (first
              | exact ⟨(Below.refl _ _).drew, y1, y2, y3, z0, z1, z2, z3, z4⟩
              | (have hh := ‹Below wr.heap.size wr _ ∧ _›; exact ⟨hh.1.trans (hb.mono hh.1.size), (hb.cell (lt_of_cell hh.2.1)).trans hh.2.1, (hb.cell (lt_of_cell hh.2.2.1)).trans hh.2.2.1, (hb.cell (lt_of_cell hh.2.2.2.1)).trans hh.2.2.2.1, (hb.cell (lt_of_cell hh.2.2.2.2.1)).trans hh.2.2.2.2.1, (hb.cell (lt_of_cell hh.2.2.2.2.2.1)).trans hh.2.2.2.2.2.1, (hb.cell (lt_of_cell hh.2.2.2.2.2.2.1)).trans hh.2.2.2.2.2.2.1, (hb.cell (lt_of_cell hh.2.2.2.2.2.2.2.1)).trans hh.2.2.2.2.2.2.2.1, (hb.cell (lt_of_cell hh.2.2.2.2.2.2.2.2)).trans hh.2.2.2.2.2.2.2.2⟩)
              | go_keep)
            (first
              | (go_at_call 41; (with_reducible refine (HQU.out _).mono ?_); rintro e w' ⟨rfl, hb⟩)
              | (go_at_call 20; refine (HCALL.out _ (HBW.out.trans (Below.mono (And.left ‹Below wr.heap.size wr _ ∧ _›) HBW.out.size))).mono ?_; rintro e w' ⟨rfl, hb⟩))
          have HW := Lib.hid (HBE.out.trans (Below.mono (And.left ‹Below wr.heap.size wr _ ∧ _›) HBE.out.size))
          clear r1 r2 r3
          go_wp2_with fail
          exact ⟨⟨m + 1, acc ++ [44] ++ quoteL (strL t0) ++ [58] ++ textL X0, by omega, by go_num, by rw [← HTX.out, ← HTQ.out, HTT.out]; exact congrArg Value.string (by rw [show (⟨#[44]⟩ : ByteArray) = toS [44] by decide, show (⟨#[58]⟩ : ByteArray) = toS [58] by decide, toS_append HBY.out (.of_mem (by decide)), toS_append HBY1.out (quoteL_by t0), toS_append HBY2.out (.of_mem (by decide)), toS_append HBY3.out (textL_by X0)]), HBY3.out.append (textL_by X0), by rw [show decide (m + 1 = 0) = false from decide_eq_false (by omega)]; simpa [List.append_assoc] using HREST.out, HW.out⟩, by simp [intOf]; omega⟩
      · obtain rfl : m = p := by omega
        have hfin : acc = [123] ++ itemsL true true l k := by
          rw [List.drop_of_length_le (show l.length ≤ m by rw [← HP.out]; exact Nat.le_refl _), itemsL, List.append_nil] at hrest
          exact hrest
        have hge : ¬ (m : Int) < (m : Int) := by omega
        have hsz : T.size + 1 ≤ 9223372036854775807 := by
          have h1 := HNN.out
          rw [List.length_append, ← hfin] at h1
          have := HTS.out
          have := HNB.out
          simp only [List.length_cons, List.length_nil] at h1
          omega
        have r0 := fun W : World => run_string_add_sum (P := Tryz.prog) (w := W) T ⟨#[125]⟩ (by show _ + 1 ≤ _; exact hsz)
        have HFIN : Hid (T ++ ⟨#[125]⟩ = toS (textL (.mk 5 n s l k))) := Lib.hid (by rw [HTT.out, show (⟨#[125]⟩ : ByteArray) = toS [125] by decide, toS_append HBY.out (.of_mem (by decide)), hfin, HTXT.out])
        clear hrest hfin hlt
        go_wp2
        go_ret
        exact ⟨by rw [HFIN.out]; rfl, HBW.out⟩
  · rcases leaf_kind a with rfl | rfl | rfl | rfl
    · have HTX0 : Hid (toS (textL (.mk 0 n s l k)) = ⟨#[110, 117, 108, 108]⟩) := Lib.hid (by rw [textL]; rfl)
      clear hN a a1 a2 a4
      go_wp2
      go_ret
      exact ⟨by rw [HTX0.out]; rfl, HB2.out⟩
    · have hn : n = 0 ∨ n = 1 := by
        unfold leafR at a
        rw [if_neg (by decide), if_pos rfl, Bool.or_eq_true, decide_eq_true_eq, decide_eq_true_eq] at a
        exact a
      rcases hn with rfl | rfl
      · have HTX0 : Hid (toS (textL (.mk 1 0 s l k)) = ⟨#[102, 97, 108, 115, 101]⟩) := Lib.hid (by rw [textL]; rfl)
        clear hN a a1 a2 a4
        go_wp2
        go_ret
        exact ⟨by rw [HTX0.out]; rfl, HB2.out⟩
      · have HTX0 : Hid (toS (textL (.mk 1 1 s l k)) = ⟨#[116, 114, 117, 101]⟩) := Lib.hid (by rw [textL]; rfl)
        clear hN a a1 a2 a4
        go_wp2
        go_ret
        exact ⟨by rw [HTX0.out]; rfl, HB2.out⟩
    · have hn : -9007199254740991 ≤ n ∧ n ≤ 9007199254740991 := by
        unfold leafR at a
        rw [if_neg (by decide), if_neg (by decide), if_pos rfl, Bool.and_eq_true, decide_eq_true_eq, decide_eq_true_eq] at a
        exact a
      have htx : textL (.mk 2 n s l k) = prL n := by rw [textL]; rfl
      have HPR := Lib.hid (fun W : World => refPrint_any n W (by omega) (by omega))
      obtain ⟨TP, hTP⟩ : ∃ T, T = toS (prL n) := ⟨_, rfl⟩
      rw [← hTP] at HPR
      have HTX0 : Hid (toS (textL (.mk 2 n s l k)) = TP) := Lib.hid (by rw [htx, hTP])
      clear hN a a1 a2 a4 hTP hn htx
      go_wp2_with (go_at_call 40; (with_reducible refine (HPR.out _).mono ?_); rintro e w4 ⟨rfl, hb⟩; have HB4 := Lib.hid (HB2.out.trans (hb.mono HB2.out.size)); clear hb)
      go_ret
      exact ⟨by rw [HTX0.out]; rfl, HB4.out⟩
    · have htx : textL (.mk 3 n s l k) = quoteL (strL s) := by rw [textL]; rfl
      have HPR := Lib.hid (fun W : World => refQuote_any s W hss)
      obtain ⟨TP, hTP⟩ : ∃ T, T = toS (quoteL (strL s)) := ⟨_, rfl⟩
      rw [← hTP] at HPR
      have HTX0 : Hid (toS (textL (.mk 3 n s l k)) = TP) := Lib.hid (by rw [htx, hTP])
      clear hN a a1 a2 a4 hTP htx
      go_wp2_with (go_at_call 41; (with_reducible refine (HPR.out _).mono ?_); rintro e w4 ⟨rfl, hb⟩; have HB4 := Lib.hid (HB2.out.trans (hb.mono HB2.out.size)); clear hb)
      go_ret
      exact ⟨by rw [HTX0.out]; rfl, HB4.out⟩
theorem items_part (o : Bool) : ∀ (l : List J) (f : Bool) (k : List ByteArray), ∀ x ∈ l, (textL x).length ≤ (itemsL o f l k).length
  | y :: r, f, k, x, hx => by
    rw [itemsL]
    simp only [List.length_append]
    rcases List.mem_cons.1 hx with rfl | hx
    · omega
    · have := items_part o r false k.tail x hx
      omega
theorem text_part {kind n : Int} {s : ByteArray} {l : List J} {k : List ByteArray} (hk : kind = 4 ∨ kind = 5) : ∀ x ∈ l, (textL x).length ≤ (textL (.mk kind n s l k)).length := fun x hx => by
  rcases hk with rfl | rfl
  · have e : textL (.mk 4 n s l k) = [91] ++ itemsL false true l k ++ [93] := by rw [textL]; rfl
    have := items_part false l true k x hx
    rw [e, List.length_append, List.length_append]; omega
  · have e : textL (.mk 5 n s l k) = [123] ++ itemsL true true l k ++ [125] := by rw [textL]; rfl
    have := items_part true l true k x hx
    rw [e, List.length_append, List.length_append]; omega
theorem refText_any (j : J) : Rt j → Tiny j → (textL j).length ≤ 10000000000000 → RTAsk j := by
  induction j using J.ind with
  | h kind n s l k ih =>
    intro hr ht hlen
    have hr0 := hr
    cases hr with
    | mk _ _ _ _ _ a1 a2 a3 a4 =>
    cases ht with
    | mk _ _ _ _ _ b1 b2 b3 =>
    refine refText_of kind n s l k hr0 b1 b2 hlen fun x hx => ?_
    have hk : kind = 4 ∨ kind = 5 := by
      rcases a3 with a | a | a
      · exact .inl a
      · exact .inr a
      · have hkd := leaf_kind a
        have := (clean_l a1 (by omega) (by omega)).1
        rw [List.eq_nil_of_length_eq_zero this] at hx
        cases hx
    have := text_part (n := n) (s := s) (k := k) hk x hx
    exact ih x hx (a4 x hx) (b3 x hx) (by omega)
end Go.Proofs.YtblheibknpphkaaGreatDoor
namespace Go.Proofs.YtblheibknpphkaaGreatDoor
open Go Go.RowKit
theorem tiny_of_great (a : J) : ∀ left, (hgJ a left).1 = false → Tiny a := by
  induction a using J.ind with
  | h kind n s l k ih =>
    intro left h
    rw [hgJ_eq] at h
    by_cases h1 : left - 1 - min ((J.mk kind n s l k).k.length : Int) 5000 < 0 ∨ 5000 < (J.mk kind n s l k).s.size ∨ 1000 < (J.mk kind n s l k).k.length ∨ 1000 < (J.mk kind n s l k).l.length
    · rw [if_pos h1] at h; cases h
    rw [if_neg h1] at h
    by_cases h2 : ((J.mk kind n s l k).k.any fun t => decide (1000 < t.size)) = true
    · rw [if_pos h2] at h; cases h
    rw [if_neg h2] at h
    replace h1 : ¬ (left - 1 - min (k.length : Int) 5000 < 0 ∨ 5000 < s.size ∨ 1000 < k.length ∨ 1000 < l.length) := h1
    replace h2 : ¬ (k.any fun t => decide (1000 < t.size)) = true := h2
    rw [Bool.not_eq_true, List.any_eq_false] at h2
    refine .mk kind n s l k (by omega) (fun t ht => ?_) ?_
    · have := h2 t ht
      simp at this; omega
    · have key : ∀ (l : List J), (∀ x ∈ l, ∀ left, (hgJ x left).1 = false → Tiny x) → ∀ left, (hgLs l left).1 = false → ∀ x ∈ l, Tiny x := fun l => by
        induction l with
        | nil => intro _ _ _ x hx; cases hx
        | cons y r ihr =>
          intro ih left h x hx
          rw [hgLs] at h
          cases hb : (hgJ y left).1 with
          | true => rw [hb, if_pos rfl] at h; cases h
          | false =>
            rw [hb, if_neg (by simp)] at h
            rcases List.mem_cons.1 hx with rfl | hx
            · exact ih _ (by simp) left hb
            · exact ihr (fun z hz => ih z (List.mem_cons_of_mem _ hz)) _ h x hx
      exact key l ih _ h
theorem text_max (j : J) (hM : Mild j) (hr : (rgt j 1 256).1 = true) : (textL j).length ≤ 10000000000000 := by
  have h1 := (rgt_wrt j hM 1 256 hr).2
  have h2 := rgt_left j 1 256 (by decide) hr
  omega
theorem print_one (j : J) (v : Value) (w : World) (hj : RepJ w j v) (hM : Mild j) (hm : Marks w) (hr : (rgt j 1 256).1 = false) :
    Calls Tryz.prog 17 #[v] w fun e w' => e = .returned (.tuple #[.string ⟨#[]⟩, .iface 58 (.int .i64 1)]) ∧ Below w.heap.size w w' := by
  refine (printJ_any j v w hj hM hm).mono ?_
  rintro e w' ⟨rfl, _, hb⟩
  have e1 : printJ j = ([], 1) := by unfold printJ; rw [if_pos hr]
  rw [e1]
  exact ⟨rfl, hb⟩
set_option maxRecDepth 100000 in
set_option maxHeartbeats 8000000 in
theorem jsonPrints_any (j : J) (vj : Value) (w : World) (ha : Ask5 w) (hj : RepJ w j vj) : Calls Tryz.prog 4 #[vj] w fun e w' => e = .returned (.bool true) ∧ Below w.heap.size w w' := by
  obtain ⟨x0, x1, x2, xA, xp, xc, xK, xq, xd, rfl⟩ := hj.form
  obtain ⟨B, hB⟩ : ∃ B, B = w.heap.size := ⟨_, rfl⟩
  obtain ⟨w0, hw0⟩ : ∃ W, W = w.alloc (.cells #[.int .i64 x0, .int .i64 x1, .string x2, .slice xA xp xc, .slice xK xq xd] 26) := ⟨_, rfl⟩
  have bx : Blk w0 B 26 [.int .i64 x0, .int .i64 x1, .string x2, .slice xA xp xc, .slice xK xq xd] := by rw [hw0, hB]; exact heapAtJ w _ _
  have bb : Below w.heap.size w w0 := by rw [hw0]; exact belowAlloc w _
  have HAL := Lib.hid (alive5_any w0 (ha.below bb))
  have HA := Lib.hid ha
  have HX0 := Lib.hid bx
  have HB0 := Lib.hid bb
  have HW0 := Lib.hid hw0
  have HB := Lib.hid hB
  have HJ := Lib.hid (fun (W : World) (h : Below w.heap.size w W) => RepJ.below h _ _ hj)
  have HGA := Lib.hid (fun (W : World) (h : Below w.heap.size w W) => refGreat_any j _ W (RepJ.below h _ _ hj))
  have HMI := Lib.hid (mild_of_great j 1000)
  have HTI := Lib.hid (tiny_of_great j 1000)
  obtain ⟨ga, hga⟩ : ∃ r, r = (hgJ j 1000).1 := ⟨_, rfl⟩
  rw [← hga] at HGA HMI HTI
  clear ha hj hB hw0 bx bb hga
  go_enter Tryz.func4, Tryz.ntmps4
  go_wp2_with fail
  rw [show w.alloc (.cells #[.int .i64 x0, .int .i64 x1, .string x2, .slice xA xp xc, .slice xK xq xd] 26) = w0 from HW0.out.symm, show w.heap.size = B from HB.out.symm]
  refine HAL.out.mono ?_
  rintro e w1 ⟨rfl, hb⟩
  have HX1 := Lib.hid (HX0.out.below hb HX0.out.lt)
  have HB1 := Lib.hid (HB0.out.trans (hb.mono HB0.out.size))
  clear hb
  obtain ⟨f0, f1, f2, f3, f4⟩ : w1.cell? ⟨B, 0, none⟩ = some (.int .i64 x0) ∧ w1.cell? ⟨B, 1, none⟩ = some (.int .i64 x1) ∧ w1.cell? ⟨B, 2, none⟩ = some (.string x2) ∧ w1.cell? ⟨B, 3, none⟩ = some (.slice xA xp xc) ∧ w1.cell? ⟨B, 4, none⟩ = some (.slice xK xq xd) := ⟨(HX1.out).cell 0, (HX1.out).cell 1, (HX1.out).cell 2, (HX1.out).cell 3, (HX1.out).cell 4⟩
  go_wp2_with fail
  refine (HGA.out _ HB1.out).mono ?_
  rintro e w2 ⟨rfl, hb⟩
  have HX2 := Lib.hid (HX1.out.below hb HX1.out.lt)
  have HB2 := Lib.hid (HB1.out.trans (hb.mono HB1.out.size))
  clear hb f0 f1 f2 f3 f4
  cases ga with
  | true =>
    go_wp2_with fail
    go_ret
    exact ⟨rfl, HB2.out⟩
  | false =>
    have HM := HMI.out rfl
    have HT := HTI.out rfl
    obtain ⟨f0, f1, f2, f3, f4⟩ : w2.cell? ⟨B, 0, none⟩ = some (.int .i64 x0) ∧ w2.cell? ⟨B, 1, none⟩ = some (.int .i64 x1) ∧ w2.cell? ⟨B, 2, none⟩ = some (.string x2) ∧ w2.cell? ⟨B, 3, none⟩ = some (.slice xA xp xc) ∧ w2.cell? ⟨B, 4, none⟩ = some (.slice xK xq xd) := ⟨(HX2.out).cell 0, (HX2.out).cell 1, (HX2.out).cell 2, (HX2.out).cell 3, (HX2.out).cell 4⟩
    cases hok : (rgt j 1 256).1 with
    | false =>
      have HPR := Lib.hid (fun (W : World) (h : Below w.heap.size w W) => print_one j _ W (HJ.out W h) HM (HA.out.marks.below h) hok)
      have HCK := Lib.hid (fun (W : World) (h : Below w.heap.size w W) => checkJ_any j _ W (HJ.out W h) HM (HA.out.marks.below h))
      have HRC := Lib.hid (fun (W : World) (h : Below w.heap.size w W) => refCheck_any j _ W (HJ.out W h))
      rw [hok] at HCK HRC
      rw [if_neg (by simp)] at HCK
      clear HM HT hok
      go_wp2_with fail
      refine (HPR.out _ HB2.out).mono ?_
      rintro e w3 ⟨rfl, hb⟩
      have HX3 := Lib.hid (HX2.out.below hb HX2.out.lt)
      have HB3 := Lib.hid (HB2.out.trans (hb.mono HB2.out.size))
      clear hb f0 f1 f2 f3 f4
      obtain ⟨f0, f1, f2, f3, f4⟩ : w3.cell? ⟨B, 0, none⟩ = some (.int .i64 x0) ∧ w3.cell? ⟨B, 1, none⟩ = some (.int .i64 x1) ∧ w3.cell? ⟨B, 2, none⟩ = some (.string x2) ∧ w3.cell? ⟨B, 3, none⟩ = some (.slice xA xp xc) ∧ w3.cell? ⟨B, 4, none⟩ = some (.slice xK xq xd) := ⟨(HX3.out).cell 0, (HX3.out).cell 1, (HX3.out).cell 2, (HX3.out).cell 3, (HX3.out).cell 4⟩
      go_wp2_with fail
      refine (HCK.out _ HB3.out).mono ?_
      rintro e w4 ⟨rfl, hb⟩
      have HX4 := Lib.hid (HX3.out.below hb HX3.out.lt)
      have HB4 := Lib.hid (HB3.out.trans (hb.mono HB3.out.size))
      clear hb f0 f1 f2 f3 f4
      obtain ⟨f0, f1, f2, f3, f4⟩ : w4.cell? ⟨B, 0, none⟩ = some (.int .i64 x0) ∧ w4.cell? ⟨B, 1, none⟩ = some (.int .i64 x1) ∧ w4.cell? ⟨B, 2, none⟩ = some (.string x2) ∧ w4.cell? ⟨B, 3, none⟩ = some (.slice xA xp xc) ∧ w4.cell? ⟨B, 4, none⟩ = some (.slice xK xq xd) := ⟨(HX4.out).cell 0, (HX4.out).cell 1, (HX4.out).cell 2, (HX4.out).cell 3, (HX4.out).cell 4⟩
      go_wp2_with fail
      refine (HRC.out _ HB4.out).mono ?_
      rintro e w5 ⟨rfl, hb⟩
      have HB5 := Lib.hid (HB4.out.trans (hb.mono HB4.out.size))
      clear hb f0 f1 f2 f3 f4
      go_wp2_with fail
      refine (num_errno 1 w5 (HA.out.tab.below HB5.out)).mono ?_
      rintro e w6 ⟨rfl, hb⟩
      have HB6 := Lib.hid (HB5.out.trans (hb.mono HB5.out.size))
      clear hb
      go_wp2_with fail
      refine (num_errno 1 w6 (HA.out.tab.below HB6.out)).mono ?_
      rintro e w7 ⟨rfl, hb⟩
      have HB7 := Lib.hid (HB6.out.trans (hb.mono HB6.out.size))
      clear hb
      go_wp2_with fail
      go_ret
      exact ⟨rfl, HB7.out⟩
    | true =>
      have HCK := Lib.hid (fun (W : World) (h : Below w.heap.size w W) => checkJ_any j _ W (HJ.out W h) HM (HA.out.marks.below h))
      have HRC := Lib.hid (fun (W : World) (h : Below w.heap.size w W) => refCheck_any j _ W (HJ.out W h))
      have HTX := Lib.hid (fun (W : World) (h : Below w.heap.size w W) => refText_any j ((right_iff j).1 hok).1 HT (text_max j HM hok) W _ (HJ.out W h))
      rw [hok] at HCK HRC
      rw [if_pos rfl] at HCK
      obtain ⟨T1, hT1⟩ : ∃ T, T = toS (textL j) := ⟨_, rfl⟩
      have hsz : T1.size = (textL j).length := by rw [hT1, size_toS]
      rw [← hT1] at HTX
      by_cases hlen : (textL j).length ≤ 4096
      · have HPR := Lib.hid (fun (W : World) (h : Below w.heap.size w W) => print_good j _ W (HJ.out W h) HM (HA.out.marks.below h) hok hlen)
        rw [← hT1] at HPR
        have hI : ¬ (4096 : Int) < (T1.size : Int) := by omega
        clear HM HT hok hT1 hsz hlen
        go_wp2_with fail
        refine (HPR.out _ HB2.out).mono ?_
        rintro e w3 ⟨rfl, hb⟩
        have HX3 := Lib.hid (HX2.out.below hb HX2.out.lt)
        have HB3 := Lib.hid (HB2.out.trans (hb.mono HB2.out.size))
        clear hb f0 f1 f2 f3 f4
        obtain ⟨f0, f1, f2, f3, f4⟩ : w3.cell? ⟨B, 0, none⟩ = some (.int .i64 x0) ∧ w3.cell? ⟨B, 1, none⟩ = some (.int .i64 x1) ∧ w3.cell? ⟨B, 2, none⟩ = some (.string x2) ∧ w3.cell? ⟨B, 3, none⟩ = some (.slice xA xp xc) ∧ w3.cell? ⟨B, 4, none⟩ = some (.slice xK xq xd) := ⟨(HX3.out).cell 0, (HX3.out).cell 1, (HX3.out).cell 2, (HX3.out).cell 3, (HX3.out).cell 4⟩
        go_wp2_with fail
        refine (HCK.out _ HB3.out).mono ?_
        rintro e w4 ⟨rfl, hb⟩
        have HX4 := Lib.hid (HX3.out.below hb HX3.out.lt)
        have HB4 := Lib.hid (HB3.out.trans (hb.mono HB3.out.size))
        clear hb f0 f1 f2 f3 f4
        obtain ⟨f0, f1, f2, f3, f4⟩ : w4.cell? ⟨B, 0, none⟩ = some (.int .i64 x0) ∧ w4.cell? ⟨B, 1, none⟩ = some (.int .i64 x1) ∧ w4.cell? ⟨B, 2, none⟩ = some (.string x2) ∧ w4.cell? ⟨B, 3, none⟩ = some (.slice xA xp xc) ∧ w4.cell? ⟨B, 4, none⟩ = some (.slice xK xq xd) := ⟨(HX4.out).cell 0, (HX4.out).cell 1, (HX4.out).cell 2, (HX4.out).cell 3, (HX4.out).cell 4⟩
        go_wp2_with fail
        refine (HRC.out _ HB4.out).mono ?_
        rintro e w5 ⟨rfl, hb⟩
        have HX5 := Lib.hid (HX4.out.below hb HX4.out.lt)
        have HB5 := Lib.hid (HB4.out.trans (hb.mono HB4.out.size))
        clear hb f0 f1 f2 f3 f4
        obtain ⟨f0, f1, f2, f3, f4⟩ : w5.cell? ⟨B, 0, none⟩ = some (.int .i64 x0) ∧ w5.cell? ⟨B, 1, none⟩ = some (.int .i64 x1) ∧ w5.cell? ⟨B, 2, none⟩ = some (.string x2) ∧ w5.cell? ⟨B, 3, none⟩ = some (.slice xA xp xc) ∧ w5.cell? ⟨B, 4, none⟩ = some (.slice xK xq xd) := ⟨(HX5.out).cell 0, (HX5.out).cell 1, (HX5.out).cell 2, (HX5.out).cell 3, (HX5.out).cell 4⟩
        go_wp2_with fail
        refine (HTX.out _ HB5.out).mono ?_
        rintro e w6 ⟨rfl, hb⟩
        have HB6 := Lib.hid (HB5.out.trans (hb.mono HB5.out.size))
        clear hb f0 f1 f2 f3 f4
        go_wp2_with fail
        go_ret
        exact ⟨rfl, HB6.out⟩
      · have HPR := Lib.hid (fun (W : World) (h : Below w.heap.size w W) => print_long j _ W (HJ.out W h) HM (HA.out.marks.below h) hok (by omega))
        have hI : (4096 : Int) < (T1.size : Int) := by omega
        clear HM HT hok hT1 hsz hlen
        go_wp2_with fail
        refine (HPR.out _ HB2.out).mono ?_
        rintro e w3 ⟨rfl, hb⟩
        have HX3 := Lib.hid (HX2.out.below hb HX2.out.lt)
        have HB3 := Lib.hid (HB2.out.trans (hb.mono HB2.out.size))
        clear hb f0 f1 f2 f3 f4
        obtain ⟨f0, f1, f2, f3, f4⟩ : w3.cell? ⟨B, 0, none⟩ = some (.int .i64 x0) ∧ w3.cell? ⟨B, 1, none⟩ = some (.int .i64 x1) ∧ w3.cell? ⟨B, 2, none⟩ = some (.string x2) ∧ w3.cell? ⟨B, 3, none⟩ = some (.slice xA xp xc) ∧ w3.cell? ⟨B, 4, none⟩ = some (.slice xK xq xd) := ⟨(HX3.out).cell 0, (HX3.out).cell 1, (HX3.out).cell 2, (HX3.out).cell 3, (HX3.out).cell 4⟩
        go_wp2_with fail
        refine (HCK.out _ HB3.out).mono ?_
        rintro e w4 ⟨rfl, hb⟩
        have HX4 := Lib.hid (HX3.out.below hb HX3.out.lt)
        have HB4 := Lib.hid (HB3.out.trans (hb.mono HB3.out.size))
        clear hb f0 f1 f2 f3 f4
        obtain ⟨f0, f1, f2, f3, f4⟩ : w4.cell? ⟨B, 0, none⟩ = some (.int .i64 x0) ∧ w4.cell? ⟨B, 1, none⟩ = some (.int .i64 x1) ∧ w4.cell? ⟨B, 2, none⟩ = some (.string x2) ∧ w4.cell? ⟨B, 3, none⟩ = some (.slice xA xp xc) ∧ w4.cell? ⟨B, 4, none⟩ = some (.slice xK xq xd) := ⟨(HX4.out).cell 0, (HX4.out).cell 1, (HX4.out).cell 2, (HX4.out).cell 3, (HX4.out).cell 4⟩
        go_wp2_with fail
        refine (HRC.out _ HB4.out).mono ?_
        rintro e w5 ⟨rfl, hb⟩
        have HX5 := Lib.hid (HX4.out.below hb HX4.out.lt)
        have HB5 := Lib.hid (HB4.out.trans (hb.mono HB4.out.size))
        clear hb f0 f1 f2 f3 f4
        obtain ⟨f0, f1, f2, f3, f4⟩ : w5.cell? ⟨B, 0, none⟩ = some (.int .i64 x0) ∧ w5.cell? ⟨B, 1, none⟩ = some (.int .i64 x1) ∧ w5.cell? ⟨B, 2, none⟩ = some (.string x2) ∧ w5.cell? ⟨B, 3, none⟩ = some (.slice xA xp xc) ∧ w5.cell? ⟨B, 4, none⟩ = some (.slice xK xq xd) := ⟨(HX5.out).cell 0, (HX5.out).cell 1, (HX5.out).cell 2, (HX5.out).cell 3, (HX5.out).cell 4⟩
        go_wp2_with fail
        refine (HTX.out _ HB5.out).mono ?_
        rintro e w6 ⟨rfl, hb⟩
        have HB6 := Lib.hid (HB5.out.trans (hb.mono HB5.out.size))
        clear hb f0 f1 f2 f3 f4
        go_wp2_with fail
        refine (num_errno 2 w6 (HA.out.tab.below HB6.out)).mono ?_
        rintro e w7 ⟨rfl, hb⟩
        have HB7 := Lib.hid (HB6.out.trans (hb.mono HB6.out.size))
        clear hb
        go_wp2_with fail
        go_ret
        exact ⟨rfl, HB7.out⟩
end Go.Proofs.YtblheibknpphkaaGreatDoor
