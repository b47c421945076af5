/- StObj, JgKit, JpSymUp, JpSymDown: merged. -/
import Derived.Great.BuildSlice
import Derived.Test.YtjfgmgkhinehaaaGreatDoorCx34
import Derived.Test.YtjfgmgkhinehaaaGreatDoorCx35
set_option linter.all false
namespace Go.Proofs.YtjfgmgkhinehaaaGreatDoor
open Go Go.RowKit
theorem BInv.ext {W wr : World} {q : List (ByteArray × J)} {a : Nat} {vL vK : Value} {xs : List Value} (h : BInv W wr q a a vL vK xs) (hq : q.length = a) (m : ByteArray × J) : BInv W wr (q ++ [m]) a a vL vK xs :=
  ⟨h.c4, by rw [List.take_append_of_le_length (by omega)]; exact h.oK, h.oL, by rw [List.take_append_of_le_length (by omega)]; exact h.fl, h.kl, h.bel, h.sz⟩
theorem keepL_drop {r : List (ByteArray × J)} {k : Nat} (hk : k < r.length) : ((∃ h : k + 1 < r.length, r[k + 1].1 = r[k].1) → keepL (r.drop k) = keepL (r.drop (k + 1))) ∧ (¬ (∃ h : k + 1 < r.length, r[k + 1].1 = r[k].1) → keepL (r.drop k) = r[k] :: keepL (r.drop (k + 1))) := by
  rw [List.drop_eq_getElem_cons hk]
  by_cases h1 : k + 1 < r.length
  · rw [List.drop_eq_getElem_cons h1, keepL]
    refine ⟨fun ⟨_, e⟩ => by rw [if_pos e], fun h => by rw [if_neg (fun e => h ⟨h1, e⟩)]⟩
  · rw [List.drop_eq_nil_of_le (by omega)]
    exact ⟨fun ⟨h, _⟩ => absurd h h1, fun _ => rfl⟩
set_option maxRecDepth 100000 in
set_option maxHeartbeats 16000000 in
theorem objG_of (ms : List (ByteArray × J)) (hl : ms.length ≤ 256) (hsm : ∀ m ∈ ms, Sm m.2) : OAsk ms := fun w vM zs S hS hf hr => by
  obtain ⟨W1, hW1⟩ : ∃ W, W = w.alloc (.cells zeros5.toArray 27) := ⟨_, rfl⟩
  have g1 : w.grownBy W1 none := by rw [hW1]; exact World.grownBy_alloc _ _ none
  have b1 : Blk W1 w.heap.size 27 zeros5 := by rw [hW1]; exact heapAt w rfl zeros5 _
  have z1 : W1.heap.size = w.heap.size + 1 := by rw [hW1]; simp
  have hf1 := hf.keeps (Keeps.grown g1 (fun b _ e => by cases e)) (fun b h _ => h)
  have hS1 : ∀ b, S b → b < W1.heap.size := fun b h => by have := hS b h; omega
  have HC := Lib.hid (cloneM_any W1 S ms zs (by omega) vM hf1 (hr.grownN g1))
  have HSO := Lib.hid (fun w1 v hown hf hb => sortedG_any W1 w1 S hS1 ms zs v hown hf hb (by omega))
  have HF1 := Lib.hid hf1
  have HW1 := Lib.hid hW1
  have HB1 := Lib.hid b1
  have HZ1 := Lib.hid z1
  have HG1 := Lib.hid g1
  have HPU := Lib.hid (fun (r : List (ByteArray × J)) (hw : Weak r) (hfl : ∀ u, r.filter (fun m => decide (m.1 = u)) = ms.filter (fun m => decide (m.1 = u))) => puts_keep hw hfl)
  have HSM := Lib.hid hsm
  have HL := Lib.hid hl
  have HS := Lib.hid hS1
  obtain ⟨iJ, hJ, hJ0, hJ1, hJ2⟩ := info_parts infoJp
  obtain ⟨iS, hT, hT0, hT1, hT2⟩ := info_parts infoStrB
  clear g1 b1 z1 hf1 hS1 hS hf hr hl hsm hW1
  go_enter Tryz.func12, Tryz.ntmps12
  go_wp2_with fail
  rw [show (w.alloc (.cells #[.int .i64 0, .int .i64 0, .string ⟨#[]⟩, .slice none 0 0, .slice none 0 0] 27)) = W1 from HW1.out.symm]
  refine HC.out.mono ?_
  rintro e w2 ⟨v2, rfl, hown, hb2⟩
  have HSC := Lib.hid (HSO.out w2 v2 hown (HF1.out.keeps (Keeps.below hb2 (fun b h _ => HS.out b h)) (fun b h _ => h)) hb2)
  clear hown hb2
  go_wp2_with fail
  refine HSC.out.mono ?_
  rintro e w3 ⟨rfl, r, zs2, hp, hwk, hfl, hf3, hr3, hb3⟩
  obtain ⟨A, c, rfl, hcs⟩ := hr3.form
  have hrl : r.length = zs2.length := hf3.length.symm
  have hn3 : zs2.length ≤ 256 := by have := HL.out; have := hp.length_eq; omega
  obtain ⟨n, hn⟩ : ∃ n, n = zs2.length := ⟨_, rfl⟩
  rw [← hn] at hcs hrl hn3 ⊢
  have HCS := Lib.hid hcs
  have HRL := Lib.hid hrl
  have HF3 := Lib.hid hf3
  have HB3 := Lib.hid hb3
  have HP := Lib.hid hp
  have HRI := Lib.hid (HPU.out r hwk hfl)
  clear hp hwk hfl hf3 hr3 hb3 hcs hrl hn HPU
  go_wp2_with fail
  go_loopw [14] (fun jv wr => ∃ k : Nat, k ≤ n ∧ jv = .int .i64 (k : Int) ∧ ∃ (a : Nat) (sq : List (ByteArray × J)) (vL vK : Value) (xs : List Value), a ≤ k ∧ sq.length = a ∧ BInv w3 wr sq a a vL vK xs ∧ Hid (sq ++ keepL (r.drop k) = keepL r)) (fun jv _ => n - (intOf jv).toNat)
  case atStart => exact ⟨0, Nat.zero_le _, rfl, 0, [], _, _, _, Nat.le_refl _, rfl, BInv.start w3 [], Lib.hid rfl⟩
  case round =>
    obtain ⟨k, hk, rfl, a, pq, vL, vK, xs, hak, hqa, hB, HQ⟩ := hrel
    by_cases hlt : k < n
    · have hkr : k < r.length := by rw [HRL.out]; exact hlt
      obtain ⟨g, rfl, hglt, hc⟩ := HCS.out k hlt
      obtain ⟨hnm, hns, hx⟩ := HF3.out.at k hkr
      obtain ⟨vk, A2, c2, e, -, ⟨K2, d2, ek, -⟩, -⟩ := hx.open
      simp only [Value.agg.injEq, Array.mk.injEq, List.cons.injEq, and_true] at e
      obtain ⟨y0, hy0⟩ : ∃ a, a = r[k].2.kind := ⟨_, rfl⟩
      obtain ⟨y1, hy1⟩ : ∃ a, a = r[k].2.n := ⟨_, rfl⟩
      obtain ⟨y2, hy2⟩ : ∃ a, a = r[k].2.s := ⟨_, rfl⟩
      obtain ⟨y3, hy3⟩ : ∃ a, a = r[k].2.l.length := ⟨_, rfl⟩
      obtain ⟨y4, hy4⟩ : ∃ a, a = r[k].2.k.length := ⟨_, rfl⟩
      rw [← hy0, ← hy1, ← hy2, ← hy3] at e
      rw [← hy4] at ek
      obtain ⟨e0, e1, e2, e3, e4⟩ := e
      rw [ek] at e4
      obtain ⟨t, ht⟩ : ∃ t, t = r[k].1 := ⟨_, rfl⟩
      rw [← ht] at hnm hns
      have hcell : ∀ (a : Nat) (u : Value), (encM zs2[k]!)[a]? = some u → wr.cell? ⟨g, k * 6 + a, none⟩ = some u := fun a u hu => (hB.bel.cell (p := ⟨g, k * 6 + a, none⟩) hglt).trans (hc a u hu)
      have q0 : wr.cell? ⟨g, k * 6, none⟩ = some (.string t) := hcell 0 _ (by show some (Value.string zs2[k]!.nm) = _; rw [hnm])
      have q1 : wr.cell? ⟨g, k * 6 + 1, none⟩ = some (.int .i64 y0) := hcell 1 _ (by show some zs2[k]!.a0 = _; rw [e0])
      have q2 : wr.cell? ⟨g, k * 6 + 2, none⟩ = some (.int .i64 y1) := hcell 2 _ (by show some zs2[k]!.a1 = _; rw [e1])
      have q3 : wr.cell? ⟨g, k * 6 + 3, none⟩ = some (.string y2) := hcell 3 _ (by show some zs2[k]!.a2 = _; rw [e2])
      have q4 : wr.cell? ⟨g, k * 6 + 4, none⟩ = some (.slice A2 y3 c2) := hcell 4 _ (by show some zs2[k]!.a3 = _; rw [e3])
      have q5 : wr.cell? ⟨g, k * 6 + 5, none⟩ = some (.slice K2 y4 d2) := hcell 5 _ (by show some zs2[k]!.a4 = _; rw [e4])
      have hnext : k + 1 < n → ∃ t', (∃ h : k + 1 < r.length, r[k + 1].1 = t') ∧ wr.cell? ⟨g, (k + 1) * 6, none⟩ = some (.string t') := fun h1 => by
        have hkr1 : k + 1 < r.length := by rw [HRL.out]; exact h1
        obtain ⟨g', e', hg', hc'⟩ := HCS.out (k + 1) h1
        injection e' with e'; injection e' with e'
        subst e'
        refine ⟨r[k + 1].1, ⟨hkr1, rfl⟩, ?_⟩
        exact (hB.bel.cell (p := ⟨g, (k + 1) * 6, none⟩) hglt).trans (hc' 0 _ (by show some (Value.string zs2[k + 1]!.nm) = _; rw [(HF3.out.at (k + 1) hkr1).1]))
      have hgr0 := World.grownBy_alloc wr (.cells #[.string t, .int .i64 y0, .int .i64 y1, .string y2, .slice A2 y3 c2, .slice K2 y4 d2] 30) none
      have HB6 := Lib.hid (hB.moved hgr0)
      obtain ⟨B, hBB⟩ : ∃ B : Bool, (B = true ↔ ∃ h : k + 1 < r.length, r[k + 1].1 = t) := ⟨decide (∃ h : k + 1 < r.length, r[k + 1].1 = t), by simp⟩
      have HKD := keepL_drop hkr
      rw [← ht] at HKD
      have HQT : Hid (B = true → pq ++ keepL (r.drop (k + 1)) = keepL r) := Lib.hid fun h => by rw [← HQ.out, HKD.1 (hBB.1 h)]
      have HQF : Hid (B = false → (pq ++ [r[k]]) ++ keepL (r.drop (k + 1)) = keepL r) := Lib.hid fun h => by
        rw [← HQ.out, HKD.2 (fun h2 => by rw [hBB.2 h2] at h; cases h), List.append_assoc]; rfl
      have HBB := Lib.hid hBB
      clear hBB HKD
      have HC6 : Hid (Blk (wr.alloc (.cells #[.string t, .int .i64 y0, .int .i64 y1, .string y2, .slice A2 y3 c2, .slice K2 y4 d2] 30)) wr.heap.size 30 [.string t, .int .i64 y0, .int .i64 y1, .string y2, .slice A2 y3 c2, .slice K2 y4 d2] ∧ w3.heap.size + 1 ≤ wr.heap.size ∧ g < w3.heap.size) := Lib.hid ⟨heapAt wr rfl [.string t, .int .i64 y0, .int .i64 y1, .string y2, .slice A2 y3 c2, .slice K2 y4 d2] _, hB.sz, hglt⟩
      have HNX : Hid (k + 1 < n → ∃ t', (∃ h : k + 1 < r.length, r[k + 1].1 = t') ∧ (wr.alloc (.cells #[.string t, .int .i64 y0, .int .i64 y1, .string y2, .slice A2 y3 c2, .slice K2 y4 d2] 30)).cell? ⟨g, (k + 1) * 6, none⟩ = some (.string t')) := Lib.hid fun h => by
        obtain ⟨t', h1, h2⟩ := hnext h
        exact ⟨t', h1, (cell_grown h2 hgr0 (by simp)).trans rfl⟩
      have HLT : Hid ((∀ b, vK.ownBlock = some b → w3.heap.size + 1 ≤ b ∧ b < wr.heap.size) ∧ (∀ b, vL.ownBlock = some b → w3.heap.size + 1 ≤ b ∧ b < wr.heap.size)) := Lib.hid ⟨fun b h => hB.oK.lt b h, fun b h => hB.oL.lt b h⟩
      have HHT := Lib.hid ht
      have HHY := Lib.hid (And.intro hy0 (And.intro hy1 (And.intro hy2 (And.intro hy3 hy4))))
      have hk0 : (0 : Int) ≤ (k : Int) := by omega
      have hk1 : (k : Int) < (n : Int) := by omega
      rw [e0, e1, e2, e3, e4] at hx
      have hsmX := HSM.out _ ((HP.out.mem_iff).1 (List.getElem_mem hkr))
      obtain ⟨X, hX⟩ : ∃ X, X = r[k].2 := ⟨_, rfl⟩
      rw [← hX] at hx hsmX
      have HXX := Lib.hid hX
      have HCL : Hid (∀ W', Below w3.heap.size w3 W' → Calls Tryz.prog 49 #[.agg #[.int .i64 y0, .int .i64 y1, .string y2, .slice A2 y3 c2, .slice K2 y4 d2]] W' (Cl W' X)) := Lib.hid fun W' hW =>
        clone_any X hsmX S W' _ (fun b h => by have := HS.out b h; have := HB3.out.size; have := hW.size; omega)
          (RepS.keeps (Keeps.below hW (fun b _ h => h)) (fun _ h _ => h) _ _ hx)
      have HKR := Lib.hid hkr
      clear hB hnm hx hX hsmX e0 e1 e2 e3 e4 ek hcell hc hnext hgr0 ht hy0 hy1 hy2 hy3 hy4
      go_wp2
      obtain ⟨W6, hW6⟩ : ∃ W, W = wr.alloc (.cells #[.string t, .int .i64 y0, .int .i64 y1, .string y2, .slice A2 y3 c2, .slice K2 y4 d2] 30) := ⟨_, rfl⟩
      obtain ⟨q, hq⟩ : ∃ q, q = wr.heap.size := ⟨_, rfl⟩
      rw [← hW6] at HB6 HC6 HNX ⊢
      rw [← hq] at HC6 HLT ⊢
      clear hW6 hq q0 q1 q2 q3 q4 q5 hglt
      have d0 := HC6.out.1.cell 0
      go_cut [34] from 15 to 50 (fun v34 wx => v34 = .bool B ∧ ∃ z, wx = W6.drewN z)
      case first =>
        by_cases h1 : k + 1 < n
        · obtain ⟨t', hne, hcl⟩ := HNX.out h1
          have hd : decide ((k : Int) + 1 < (n : Int)) = true := decide_eq_true (by omega)
          have hd' : (k : Int) + 1 < (n : Int) := by omega
          have hBt : (t'.toList == t.toList) = B := by
            obtain ⟨hh, e1⟩ := hne
            rw [eq_toList, Bool.eq_iff_iff, decide_eq_true_eq, HBB.out]
            exact ⟨fun e => ⟨hh, by rw [e1]; exact e⟩, fun ⟨_, e⟩ => by rw [← e1]; exact e⟩
          clear hne
          cases hBc : B with
          | true =>
            have e9 : (t'.toList == t.toList) = true := hBt.trans hBc
            have HBc := Lib.hid hBc
            clear hBt hBc
            go_quiet (fail)
            go_wp2_with fail
            go_meet
            case rel => exact ⟨by rw [HBc.out], _, rfl⟩
          | false =>
            have e9 : (t'.toList == t.toList) = false := hBt.trans hBc
            have HBc := Lib.hid hBc
            clear hBt hBc
            go_quiet (fail)
            go_wp2_with fail
            go_meet
            case rel => exact ⟨by rw [HBc.out], _, rfl⟩
        · have hd : decide ((k : Int) + 1 < (n : Int)) = false := decide_eq_false (by omega)
          have hd' : ¬ (k : Int) + 1 < (n : Int) := by omega
          have hB0 : B = false := by
            cases hBc : B with
            | false => rfl
            | true => obtain ⟨hh, _⟩ := HBB.out.1 hBc; have := HRL.out; omega
          have HBc := Lib.hid hB0
          clear hB0
          go_quiet (fail)
          go_wp2_with fail
          go_meet
          case rel => exact ⟨by rw [HBc.out], _, rfl⟩
      case rest =>
        obtain ⟨rfl, z, rfl⟩ := hcut
        cases hBc : B with
        | true =>
          have HBN := Lib.hid (HB6.out.moved (grown_drewN z none))
          have HQN : Hid (pq ++ keepL (r.drop (k + 1)) = keepL r) := Lib.hid (HQT.out hBc)
          clear hBc
          go_wp2_with fail
          go_roundw
          case rel => exact ⟨k + 1, by omega, by go_num, a, pq, _, _, _, by omega, hqa, HBN.out, HQN⟩
          case measure => simp [intOf]; omega
        | false =>
        have HQN : Hid ((pq ++ [r[k]'(HKR.out)]) ++ keepL (r.drop (k + 1)) = keepL r) := Lib.hid (HQF.out hBc)
        have hqm : (pq ++ [r[k]'(HKR.out)])[a]? = some (r[k]'(HKR.out)) := by rw [← hqa, List.getElem?_append_right (Nat.le_refl _), Nat.sub_self]; rfl
        have hql : (pq ++ [r[k]'(HKR.out)]).length = a + 1 := by rw [List.length_append, hqa]; rfl
        have hbx := HB6.out.ext hqa (r[k]'(HKR.out))
        obtain ⟨sq, hqd⟩ : ∃ s_, s_ = pq ++ [r[k]'(HKR.out)] := ⟨_, rfl⟩
        rw [← hqd] at HQN hqm hql hbx
        have haq : a < sq.length := by omega
        have hqe : sq[a]'haq = r[k]'(HKR.out) := by rw [List.getElem?_eq_getElem haq] at hqm; injection hqm
        have HQL := Lib.hid hql
        have HHT2 : Hid ((sq[a]'haq).1 = t) := Lib.hid (by rw [hqe]; exact HHT.out.symm)
        have HXX2 : Hid ((sq[a]'haq).2 = X) := Lib.hid (by rw [hqe]; exact HXX.out.symm)
        have HAQ := Lib.hid haq
        have HB7 := Lib.hid (hbx.moved (grown_drewN z none))
        clear hBc hqm hql hbx hqd
        have hd7 : Blk (W6.drewN z) q 30 [.string t, .int .i64 y0, .int .i64 y1, .string y2, .slice A2 y3 c2, .slice K2 y4 d2] := HC6.out.1.drewN z
        obtain ⟨W7, hW7⟩ : ∃ W, W = W6.drewN z := ⟨_, rfl⟩
        rw [← hW7] at HB7 hd7 ⊢
        have HD7 := Lib.hid hd7
        have m0 : W7.cell? ⟨q, 0, none⟩ = some (.string t) := hd7.cell 0
        have a3 : W7.cell? ⟨w3.heap.size, 3, none⟩ = some vL := HB7.out.c4.cell 3
        have a4 : W7.cell? ⟨w3.heap.size, 4, none⟩ = some vK := HB7.out.c4.cell 4
        obtain ⟨ns, hns⟩ : ∃ ns, ns = ((sq.take a).map Prod.fst).map Value.string := ⟨_, rfl⟩
        have hoK7 := HB7.out.oK
        rw [← hns] at hoK7
        have HOK7 := Lib.hid hoK7
        have HNS := Lib.hid hns
        clear hW7 hd7 d0 hns hoK7
        go_wp2_with (at_builtin; refine wpList_append_lies _ rfl _ _ 22 rfl (w3.heap.size + 1) 9 iS (.string ByteArray.empty) 1 16 Tryz.underlying22 hT hT0 hT1 hT2 rfl (by decide) vK a ns rfl (HOK7.out.alloc _) ⟨W7.heap.size, 0, none⟩ 1 1 [.string t] rfl rfl ?c1 ?c2 (by decide) ?c3 ?c4 ?c5 _ rfl ?_)
        case c1 => exact cell_one_new _ _ _
        case c2 => intro u hu; simp at hu; subst hu; rfl
        case c3 => unfold maxLen; omega
        case c4 => omega
        case c5 => have := HB7.out.sz; simp; omega
        intro g5 cap5 w5 hown5 hgrow5 hat5 hlt5
        have hgrA := World.grownBy_alloc W7 (.cells #[.string t] 9) none
        have hqne : (some q : Option Nat) ≠ vK.ownBlock := fun e => by have := (HLT.out.1 q e.symm).2; omega
        have hbne : (some w3.heap.size : Option Nat) ≠ vK.ownBlock := fun e => by have := (HLT.out.1 _ e.symm).1; omega
        have b5 : Blk w5 w3.heap.size 27 [.int .i64 5, .int .i64 0, .string ⟨#[]⟩, vL, vK] := (HB7.out.c4.grownN hgrA).grown hgrow5 hbne
        have m5 : Blk w5 q 30 [.string t, .int .i64 y0, .int .i64 y1, .string y2, .slice A2 y3 c2, .slice K2 y4 d2] := (HD7.out.grownN hgrA).grown hgrow5 hqne
        have HNB : Hid (BInv w3 (w5.setCell ⟨w3.heap.size, 4, none⟩ (.slice (some ⟨g5, 0, none⟩) (a + 1) cap5)) sq (a + 1) a vL (.slice (some ⟨g5, 0, none⟩) (a + 1) cap5) xs) := Lib.hid
          ((HB7.out.moved hgrA).name HAQ.out HHT2.out hgrow5 (by rw [← HNS.out]; exact hown5) (hat5.imp_right (fun h => by rw [h]; simp)))
        have hm8 : Blk (w5.setCell ⟨w3.heap.size, 4, none⟩ (.slice (some ⟨g5, 0, none⟩) (a + 1) cap5)) q 30 [.string t, .int .i64 y0, .int .i64 y1, .string y2, .slice A2 y3 c2, .slice K2 y4 d2] := m5.grown (grownBy_setCell _ _ _ _) (fun e => by injection e with e; have := HC6.out.2.1; omega)
        have HM8 := Lib.hid hm8
        have HG5 : Hid (w3.heap.size + 1 ≤ g5) := Lib.hid (hown5.lt g5 rfl).1
        have x4 := b5.cell 4
        have f4 := b5.frozen 4
        clear hown5 hgrow5 hat5 hlt5 hgrA hqne hbne b5 m5 hm8 m0 a3 a4
        go_wp2
        obtain ⟨vK', hvK⟩ : ∃ v, v = Value.slice (some ⟨g5, 0, none⟩) (a + 1) cap5 := ⟨_, rfl⟩
        rw [← hvK] at HNB HM8 ⊢
        obtain ⟨W8, hW8⟩ : ∃ W, W = w5.setCell ⟨w3.heap.size, 4, none⟩ vK' := ⟨_, rfl⟩
        rw [← hW8] at HNB HM8 ⊢
        clear hW8 hvK x4 f4
        have p3 : W8.cell? ⟨w3.heap.size, 3, none⟩ = some vL := HNB.out.c4.cell 3
        obtain ⟨p4, p5, p6, p7, p8⟩ : W8.cell? ⟨q, 1, none⟩ = some (.int .i64 y0) ∧ W8.cell? ⟨q, 2, none⟩ = some (.int .i64 y1) ∧ W8.cell? ⟨q, 3, none⟩ = some (.string y2) ∧ W8.cell? ⟨q, 4, none⟩ = some (.slice A2 y3 c2) ∧ W8.cell? ⟨q, 5, none⟩ = some (.slice K2 y4 d2) := ⟨HM8.out.cell 1, HM8.out.cell 2, HM8.out.cell 3, HM8.out.cell 4, HM8.out.cell 5⟩
        have HC8 := Lib.hid (fun W' (hW : Below W8.heap.size W8 W') => HCL.out W' (HNB.out.bel.trans (hW.mono (Nat.le_of_succ_le HNB.out.sz))))
        have hlt8 : w3.heap.size < W8.heap.size := HNB.out.sz
        go_region_law (first
          | (go_simp; go_at_call 49; (with_reducible refine (HC8.out _ ((Below.refl W8.heap.size W8).drew)).mono ?_); rintro e w9 ⟨v', rfl, hrep, hb9⟩
             obtain ⟨vk, A3, c3, rfl, -, ⟨K3, d3, rfl, -, -⟩, -, -⟩ := hrep.open
             obtain ⟨x0, hx0⟩ : ∃ a, a = X.kind := ⟨_, rfl⟩
             obtain ⟨x1, hx1⟩ : ∃ a, a = X.n := ⟨_, rfl⟩
             obtain ⟨x2, hx2⟩ : ∃ a, a = X.s := ⟨_, rfl⟩
             obtain ⟨x3, hx3⟩ : ∃ a, a = X.l.length := ⟨_, rfl⟩
             obtain ⟨x4, hx4⟩ : ∃ a, a = X.k.length := ⟨_, rfl⟩
             rw [← hx0, ← hx1, ← hx2, ← hx3, ← hx4] at hrep ⊢
             clear hx0 hx1 hx2 hx3 hx4
             have HB9 : Hid (Below W8.heap.size W8 w9) := Lib.hid (((Below.refl W8.heap.size W8).drew).trans hb9)
             have HREP : Hid (RepS w9 (fun b => W8.heap.size ≤ b) X (.agg #[.int .i64 x0, .int .i64 x1, .string x2, .slice A3 x3 c3, .slice K3 x4 d3])) := Lib.hid (RepS.keeps (Keeps.refl _ w9) (fun b (h : _ ≤ b) _ => h) _ _ hrep)
             have p3' : w9.cell? ⟨w3.heap.size, 3, none⟩ = some vL := (HB9.out.cell (p := ⟨w3.heap.size, 3, none⟩) hlt8).trans p3
             have hz9 : W8.heap.size ≤ w9.heap.size := HB9.out.size
             have p3'' : (w9.alloc (.cells #[.int .i64 x0, .int .i64 x1, .string x2, .slice A3 x3 c3, .slice K3 x4 d3] 27)).cell? ⟨w3.heap.size, 3, none⟩ = some vL := cell_grown p3' (World.grownBy_alloc w9 _ none) (by simp)
             clear hrep hb9)
          | (have HGN : Hid (W8.grownBy (w9.alloc (.cells #[.int .i64 x0, .int .i64 x1, .string x2, .slice A3 x3 c3, .slice K3 x4 d3] 27)) none) := Lib.hid ((grownBy_of_below HB9.out none).trans (World.grownBy_alloc _ _ none))
             refine step_append_lies _ (by rfl) _ _ _ (by rfl) (w3.heap.size + 1) 27 iJ (.agg zeros5.toArray) 5 80 Tryz.underlying23 hJ hJ0 hJ1 hJ2 rfl (by omega) vL a xs (by rfl) (HNB.out.moved HGN.out).oL ⟨w9.heap.size, 0, none⟩ 1 1 [.int .i64 x0, .int .i64 x1, .string x2, .slice A3 x3 c3, .slice K3 x4 d3] (by rfl) (by rfl) (World.news_of_block (cs := #[.int .i64 x0, .int .i64 x1, .string x2, .slice A3 x3 c3, .slice K3 x4 d3]) (t := 27) (fr := (0, 0)) (heap_alloc_new w9 _)) (by simp [Value.oneCell']) (by omega) (by unfold maxLen; omega) (by omega) (by simp; omega) (w9.heap.size + 1) (by simp) ?_
             intro g6 cap6 w10 hown6 hgrow6 hat6 hlt6
             have b10 : Blk w10 w3.heap.size 27 [.int .i64 5, .int .i64 0, .string ⟨#[]⟩, vL, vK'] := (HNB.out.c4.grownN HGN.out).grown hgrow6 (fun e => by have := (HLT.out.2 _ e.symm).1; omega)
             have x10 := b10.cell 3
             have f10 := b10.frozen 3
             clear b10
             try go_frame))
        all_goals
          have HF : Hid (BInv w3 (w10.setCell ⟨w3.heap.size, 3, none⟩ (.slice (some ⟨g6, 0, none⟩) (a + 1) cap6)) sq (a + 1) (a + 1) (.slice (some ⟨g6, 0, none⟩) (a + 1) cap6) vK' (xs ++ [.int .i64 x0, .int .i64 x1, .string x2, .slice A3 x3 c3, .slice K3 x4 d3])) := Lib.hid
            (HNB.out.value HGN.out HAQ.out HXX2.out (RepS.keeps (Keeps.grown (World.grownBy_alloc w9 _ none) (fun b _ e => by cases e)) (fun _ h _ => h) _ _ HREP.out) hgrow6 hown6 (hat6.imp_right (fun h => by rw [h]; simp)))
          clear hown6 hgrow6 hat6 hlt6 x10 f10 p3 p4 p5 p6 p7 p8 p3' p3'' hz9
          go_wp2_with fail
          go_roundw
          case rel => exact ⟨k + 1, by omega, by go_num, a + 1, sq, _, _, _, by omega, HQL.out, HF.out, HQN⟩
          case measure => simp [intOf]; omega
    · obtain rfl : k = n := by omega
      have hkn : ¬ (k : Int) < (k : Int) := by omega
      obtain ⟨A6, c6, rfl⟩ := own_slice hB.oL
      obtain ⟨A7, c7, rfl⟩ := own_slice hB.oK
      have hbl1 : Below W1.heap.size W1 wr := HB3.out.trans (hB.bel.mono HB3.out.size)
      have hz : Blk wr w.heap.size 27 zeros5 := HB1.out.below hbl1 (by have := HZ1.out; omega)
      have hqk : pq = keepL r := by
        have := HQ.out
        rwa [List.drop_eq_nil_of_le (by have := HRL.out; omega), show keepL [] = [] from rfl, List.append_nil] at this
      have hdone : RepS wr (fun b => W1.heap.size ≤ b) (.mk 5 0 ⟨#[]⟩ ((keepL r).map Prod.snd) ((keepL r).map Prod.fst)) (.agg #[.int .i64 5, .int .i64 0, .string ⟨#[]⟩, .slice A6 a c6, .slice A7 a c7]) := by
        have hB' := hB
        rw [hqk] at hB' hqa
        rw [← hqa] at hB'
        have := hB'.done (W0 := W1) HB3.out.size (by omega) (fun m hm => by
          obtain ⟨i, hi, rfl⟩ := List.mem_iff_getElem.1 (keepL_mem hm)
          exact (HF3.out.at i hi).2.1)
        rw [hqa] at this
        exact this
      have hset := blk_set5 hz (.int .i64 5) (.int .i64 0) (.string ⟨#[]⟩) (.slice A6 a c6) (.slice A7 a c7)
      have HF := Lib.hid hset
      have HBL := Lib.hid hbl1
      have HDN := Lib.hid hdone
      have HPT : Hid (putsL ms = ((keepL r).map Prod.fst, (keepL r).map Prod.snd)) := Lib.hid HRI.out
      have hc4 := hB.c4
      obtain ⟨a0, a1, a2, a3, a4⟩ : wr.cell? ⟨w3.heap.size, 0, none⟩ = some (.int .i64 5) ∧ wr.cell? ⟨w3.heap.size, 1, none⟩ = some (.int .i64 0) ∧ wr.cell? ⟨w3.heap.size, 2, none⟩ = some (.string ⟨#[]⟩) ∧ wr.cell? ⟨w3.heap.size, 3, none⟩ = some (.slice A6 a c6) ∧ wr.cell? ⟨w3.heap.size, 4, none⟩ = some (.slice A7 a c7) := ⟨hc4.cell 0, hc4.cell 1, hc4.cell 2, hc4.cell 3, hc4.cell 4⟩
      obtain ⟨b0, b1, b2, b3, b4⟩ : wr.cell? ⟨w.heap.size, 0, none⟩ = some (.int .i64 0) ∧ wr.cell? ⟨w.heap.size, 1, none⟩ = some (.int .i64 0) ∧ wr.cell? ⟨w.heap.size, 2, none⟩ = some (.string ⟨#[]⟩) ∧ wr.cell? ⟨w.heap.size, 3, none⟩ = some (.slice none 0 0) ∧ wr.cell? ⟨w.heap.size, 4, none⟩ = some (.slice none 0 0) := ⟨hz.cell 0, hz.cell 1, hz.cell 2, hz.cell 3, hz.cell 4⟩
      obtain ⟨f0, f1, f2, f3, f4⟩ : wr.frozen? ⟨w.heap.size, 0, none⟩ = false ∧ wr.frozen? ⟨w.heap.size, 1, none⟩ = false ∧ wr.frozen? ⟨w.heap.size, 2, none⟩ = false ∧ wr.frozen? ⟨w.heap.size, 3, none⟩ = false ∧ wr.frozen? ⟨w.heap.size, 4, none⟩ = false := ⟨hz.frozen 0, hz.frozen 1, hz.frozen 2, hz.frozen 3, hz.frozen 4⟩
      clear hB hbl1 hz hdone hset hc4
      go_wp2
      refine bodyPost_ret (results_blk1 Tryz.results12 _ _ w.heap.size _ _ _ rfl HF.out.1 Tryz.underlying27 rfl sizeJson) rfl ?_
      rw [HPT.out]
      refine ⟨_, rfl, RepS.keeps (Keeps.grown HF.out.2 (fun b (h : _ ≤ b) e => by injection e with e; have := HZ1.out; omega)) (fun b (h : _ ≤ b) _ => show w.heap.size ≤ b by have := HZ1.out; omega) _ _ HDN.out, ?_⟩
      have hw1 : Below w.heap.size w W1 := by rw [HW1.out]; exact (Below.refl w.heap.size w).alloc (Nat.le_refl _) _
      exact (hw1.trans (HBL.out.mono (by have := HZ1.out; omega))).grown HF.out.2 (by have := HBL.out.size; have := HZ1.out; omega) (by intro k hk; injection hk with hk; omega)
end Go.Proofs.YtjfgmgkhinehaaaGreatDoor
namespace Go.Proofs.YtjfgmgkhinehaaaGreatDoor
open Go Go.RowKit
/-- Where the law stands: members in a row, and the object that the reference puts together, at block g. -/
structure GInv (W0 wr : World) (g : Nat) (ms : List (ByteArray × J)) (v : Value) (zs : List MC) (P : List ByteArray × List J) : Prop where
  bel : Below W0.heap.size W0 wr
  lt0 : W0.heap.size ≤ g
  own : wr.ownsRow (g + 1) 30 6 v ms.length (flatM zs)
  fl : FlatM wr (fun b => b < W0.heap.size) ms zs
  obj : ∃ (z0 z1 : Int) (z2 : ByteArray) (zA : Option Addr) (zp zc : Nat) (zK : Option Addr) (zq zd : Nat), Blk wr g 27 [.int .i64 z0, .int .i64 z1, .string z2, .slice zA zp zc, .slice zK zq zd] ∧ RepS wr (fun b => b ≠ g ∧ v.ownBlock ≠ some b ∧ b < wr.heap.size) (.mk 5 0 ⟨#[]⟩ P.2 P.1) (.agg #[.int .i64 z0, .int .i64 z1, .string z2, .slice zA zp zc, .slice zK zq zd])
theorem GInv.start {W0 w : World} {g : Nat} (hb : Below W0.heap.size W0 w) (hg : W0.heap.size ≤ g) (h : Blk w g 27 [.int .i64 5, .int .i64 0, .string ⟨#[]⟩, .slice none 0 0, .slice none 0 0]) : GInv W0 w g [] (.slice none 0 0) [] ([], []) :=
  ⟨hb, hg, World.ownsRow_nil _ _ _ _, rfl, _, _, _, _, _, _, _, _, _, h, RepS.plain w _ 5 0 ⟨#[]⟩ (by decide)⟩
section
variable {W0 wr w4 w5 : World} {g : Nat} {ms : List (ByteArray × J)} {v : Value} {zs : List MC} {P : List ByteArray × List J}
theorem GInv.moved (h : GInv W0 wr g ms v zs P) (hm : wr.grownBy w4 none) : GInv W0 w4 g ms v zs P := by
  obtain ⟨z0, z1, z2, zA, zp, zc, zK, zq, zd, h1, h2⟩ := h.obj
  exact ⟨h.bel.grown hm h.bel.size (fun k hk => by cases hk), h.lt0, h.own.kept hm (Classical.em _), h.fl.keeps (Keeps.grown hm (fun b _ e => by cases e)) (fun b h _ => h), z0, z1, z2, zA, zp, zc, zK, zq, zd, h1.grownN hm, RepS.keeps (Keeps.grown hm (fun b _ e => by cases e)) (fun b h _ => ⟨h.1, h.2.1, Nat.lt_of_lt_of_le h.2.2 hm.size⟩) _ _ h2⟩
theorem GInv.add {t : ByteArray} {x : J} {c0 c1 c2 c3 c4 : Value} {g' cap n : Nat} (h : GInv W0 wr g ms v zs P) (h4 : wr.grownBy w4 none) (ht : t.size ≤ 9223372036854775807) (hx : RepS wr (fun b => b < W0.heap.size) x (.agg #[c0, c1, c2, c3, c4])) (hgr : w4.grownBy w5 v.ownBlock)
    (hn : n = ms.length + 1) (hown : w5.ownsRow (g + 1) 30 6 (.slice (some ⟨g', 0, none⟩) n cap) n (flatM zs ++ [.string t, c0, c1, c2, c3, c4])) (hat : v.ownBlock = some g' ∨ w4.heap.size ≤ g') :
    GInv W0 w5 g (ms ++ [(t, x)]) (.slice (some ⟨g', 0, none⟩) n cap) (zs ++ [⟨t, c0, c1, c2, c3, c4⟩]) P := by
  subst hn
  have hI := h.moved h4
  have lL := fun b hb => (hI.own.lt b hb).1
  have h0 := h.lt0
  have hkeep : Keeps (fun b => b < W0.heap.size) w4 w5 := Keeps.grown hgr (fun b hb e => by have := lL b e.symm; omega)
  obtain ⟨z0, z1, z2, zA, zp, zc, zK, zq, zd, h1, h2⟩ := hI.obj
  refine ⟨hI.bel.grown hgr hI.bel.size (fun b hb => by have := lL b hb; omega), h0, ?_, ?_, z0, z1, z2, zA, zp, zc, zK, zq, zd, h1.grown hgr (fun e => by have := lL _ e.symm; omega), RepS.keeps (Keeps.grown hgr (fun b hb e => hb.2.1 e.symm)) (fun b hb hl => ⟨hb.1, fun e => ?_, Nat.lt_of_lt_of_le hl hgr.size⟩) _ _ h2⟩
  · rw [List.length_append, List.length_singleton, show flatM (zs ++ [⟨t, c0, c1, c2, c3, c4⟩]) = flatM zs ++ [.string t, c0, c1, c2, c3, c4] by unfold flatM; rw [List.flatMap_append]; rfl]
    exact hown
  · exact FlatM.snoc ht (RepS.keeps hkeep (fun _ h _ => h) _ _ (RepS.keeps (Keeps.grown h4 (fun b _ e => by cases e)) (fun _ h _ => h) _ _ hx)) (hI.fl.keeps hkeep (fun _ h _ => h))
  · have e : g' = b := by simpa [Value.ownBlock] using e
    rcases hat with h' | h'
    · exact hb.2.1 (by rw [h', e])
    · omega
theorem GInv.put {wB wC : World} {P' : List ByteArray × List J} {u0 u1 : Int} {u2 : ByteArray} {uA : Option Addr} {up uc : Nat} {uK : Option Addr} {uq ud : Nat} (h : GInv W0 wr g ms v zs P) (hb : Below wr.heap.size wr wB) (hr : RepS wB (fun b => (b ≠ g ∧ v.ownBlock ≠ some b ∧ b < wr.heap.size) ∨ wr.heap.size ≤ b) (.mk 5 0 ⟨#[]⟩ P'.2 P'.1) (.agg #[.int .i64 u0, .int .i64 u1, .string u2, .slice uA up uc, .slice uK uq ud])) (hgC : wB.grownBy wC (some g)) (hbC : Blk wC g 27 [.int .i64 u0, .int .i64 u1, .string u2, .slice uA up uc, .slice uK uq ud]) : GInv W0 wC g ms v zs P' := by
  obtain ⟨z0, z1, z2, zA, zp, zc, zK, zq, zd, h1, -⟩ := h.obj
  have hm : wr.grownBy wB none := grownBy_of_below hb none
  have hI := h.moved hm
  have lL := fun b hb => hI.own.lt b hb
  have lr := fun b hb => h.own.lt b hb
  have h0 := h.lt0
  have hglt := h1.lt
  have hkeep : Keeps (fun b => b < W0.heap.size) wB wC := Keeps.grown hgC (fun b hb e => by injection e with e; omega)
  refine ⟨hI.bel.grown hgC hI.bel.size (fun b hb => by injection hb with hb; omega), h0, hI.own.kept hgC ?_, hI.fl.keeps hkeep (fun _ h _ => h), u0, u1, u2, uA, up, uc, uK, uq, ud, hbC, RepS.keeps (Keeps.grown hgC (fun b hb e => ?_)) (fun b hb hl => ⟨?_, ?_, Nat.lt_of_lt_of_le hl hgC.size⟩) _ _ hr⟩
  · cases hv : v.ownBlock with
    | none => exact .inl rfl
    | some b => exact .inr (fun e => by injection e with e; have := (lL b hv).1; omega)
  · injection e with e
    rcases hb with hb | hb
    · exact hb.1 e
    · omega
  · rcases hb with hb | hb
    · exact hb.1
    · omega
  · rcases hb with hb | hb
    · exact hb.2.1
    · intro e; have := (lr b e).2; omega
end
/-- An element of both rows, as it lies. -/
def GetAt (W : World) (nA vA : Option Addr) (ks : List ByteArray) (vs : List J) (i : Nat) : Prop := ∃ gn on gv ov t x y0 y1 y2 yA yp yc yK yq yd, nA = some ⟨gn, on, none⟩ ∧ vA = some ⟨gv, ov, none⟩ ∧ gn < W.heap.size ∧ gv < W.heap.size ∧ (ks.zip vs)[i]? = some (t, x) ∧ t.size ≤ 9223372036854775807 ∧ RepJ W x (.agg #[.int .i64 y0, .int .i64 y1, .string y2, .slice yA yp yc, .slice yK yq yd]) ∧ W.cell? ⟨gn, on + i, none⟩ = some (.string t) ∧ W.cell? ⟨gv, ov + i * 5, none⟩ = some (.int .i64 y0) ∧ W.cell? ⟨gv, ov + i * 5 + 1, none⟩ = some (.int .i64 y1) ∧ W.cell? ⟨gv, ov + i * 5 + 2, none⟩ = some (.string y2) ∧ W.cell? ⟨gv, ov + i * 5 + 3, none⟩ = some (.slice yA yp yc) ∧ W.cell? ⟨gv, ov + i * 5 + 4, none⟩ = some (.slice yK yq yd)
theorem get_at {W : World} {ks : List ByteArray} {nA vA : Option Addr} {nn nc : Nat} {vs : List J} (hk : RepK W ks (.slice nA nn nc)) (hv : vs ≠ [] → ∃ b o, vA = some ⟨b, o, none⟩ ∧ b < W.heap.size ∧ RepC W b o vs) :
    nn = ks.length ∧ ∀ i, i < ks.length → i < vs.length → GetAt W nA vA ks vs i := by
  obtain ⟨K, d, e, -, hkc⟩ := hk.open
  simp only [Value.slice.injEq] at e
  obtain ⟨rfl, rfl, -⟩ := e
  refine ⟨rfl, fun i hi hil => ?_⟩
  obtain ⟨gn, on, rfl, hgn, hts, hcn⟩ := hkc i hi
  obtain ⟨gv, ov, rfl, hgv, hcv⟩ := hv (fun e => by rw [e] at hil; exact absurd hil (Nat.not_lt_zero _))
  obtain ⟨v, hr, a0, a1, a2, a3, a4, rfl, c0, c1, c2, c3, c4⟩ := hcv.at i hil
  obtain ⟨y0, y1, y2, yA, yp, yc, yK, yq, yd, e⟩ := hr.form
  injection e with e
  have e := congrArg Array.toList e
  simp only [List.cons.injEq, and_true] at e
  obtain ⟨rfl, rfl, rfl, rfl, rfl⟩ := e
  exact ⟨gn, on, gv, ov, ks[i], vs[i], y0, y1, y2, yA, yp, yc, yK, yq, yd, rfl, rfl, hgn, hgv, List.getElem?_zip_eq_some.2 ⟨List.getElem?_eq_getElem hi, List.getElem?_eq_getElem hil⟩, hts, hr, hcn, c0, c1, c2, c3, c4⟩
theorem wp_build_ofG {P : Program} {o : Oper} {a : Act} {w : World} {K : Act → World → Prop} {Q : Exit → Act → World → Prop} (t : TypeId) (parts : Array (Nat × Operand)) (ho : o.op = .build t parts) (vals : List (Nat × Value)) (cells : Array Value)
    (hv : (parts.map fun (i, x) => (i, a.eval x)).toList = vals) (hb : P.built t vals = some cells) (h : K (a.put o.dst (.agg cells)) w) : o.wp P a w K Q := by
  subst hv
  exact wp_build t parts ho (by rw [hb]; rfl) (by rw [hb]; exact h)
set_option maxRecDepth 100000 in
theorem built_membG (t y2 : ByteArray) (y0 y1 : Int) (yA yK : Option Addr) (yp yc yq yd : Nat) : Tryz.prog.built 30 [(0, .string t), (1, .agg #[.int .i64 y0, .int .i64 y1, .string y2, .slice yA yp yc, .slice yK yq yd])] = some #[.string t, .int .i64 y0, .int .i64 y1, .string y2, .slice yA yp yc, .slice yK yq yd] := by kernel_rfl
set_option maxRecDepth 100000 in
theorem wp_slice_membG {o : Oper} {a : Act} {w : World} {K : Act → World → Prop} {Q : Exit → Act → World → Prop} (parts : Array (Nat × Operand)) (ho : o.op = .buildSlice 25 1 parts) (t y2 : ByteArray) (y0 y1 : Int) (yA yK : Option Addr) (yp yc yq yd : Nat)
    (hv : (parts.map fun (i, x) => (i, a.eval x)).toList = [(0, .agg #[.string t, .int .i64 y0, .int .i64 y1, .string y2, .slice yA yp yc, .slice yK yq yd])])
    (h : K (a.put o.dst (.slice (some ⟨w.heap.size, 0, none⟩) 1 1)) (w.alloc (.cells #[.string t, .int .i64 y0, .int .i64 y1, .string y2, .slice yA yp yc, .slice yK yq yd] 30))) : o.wp Tryz.prog a w K Q := by
  obtain ⟨iM, hM, hM0, hM1, hM2⟩ := info_parts infoMp
  refine wp_buildSlice 25 30 1 parts ho #[.string t, .int .i64 y0, .int .i64 y1, .string y2, .slice yA yp yc, .slice yK yq yd] iM _ Tryz.underlying25 hM hM0 (by rw [hM1]; decide) (by rw [hM1]; decide) ?_ h
  rw [hM1, hv]
  kernel_rfl
theorem putsL_lenG : ∀ (n : Nat) (ms : List (ByteArray × J)), ms.length = n → (putsL ms).1.length = (putsL ms).2.length ∧ (putsL ms).1.length ≤ n
  | 0, ms, h => by rw [List.eq_nil_of_length_eq_zero h]; exact ⟨rfl, Nat.le_refl _⟩
  | n + 1, ms, h => by
    obtain ⟨m, t, x, rfl⟩ : ∃ m t x, ms = m ++ [(t, x)] := ⟨ms.dropLast, (ms.getLast (by intro e; rw [e] at h; cases h)).1, (ms.getLast (by intro e; rw [e] at h; cases h)).2, (List.dropLast_concat_getLast _).symm⟩
    obtain ⟨h1, h2⟩ := putsL_lenG n m (by simpa using h)
    rw [putsL_snoc]
    have := putKL_len t x (putsL m).1 false (putsL m).2
    rw [if_neg (by decide)] at this
    exact ⟨this.1, by omega⟩
theorem five_cellsG {w : World} {g : Nat} {t : TypeId} {a b c d e : Value} (h : Blk w g t [a, b, c, d, e]) : w.cell? ⟨g, 0, none⟩ = some a ∧ w.cell? ⟨g, 1, none⟩ = some b ∧ w.cell? ⟨g, 2, none⟩ = some c ∧ w.cell? ⟨g, 3, none⟩ = some d ∧ w.cell? ⟨g, 4, none⟩ = some e := ⟨h.cell 0, h.cell 1, h.cell 2, h.cell 3, h.cell 4⟩
end Go.Proofs.YtjfgmgkhinehaaaGreatDoor
namespace Go.Proofs.YtjfgmgkhinehaaaGreatDoor
open Go Go.Shelf Go.RowKit Go.Lib Go.Sort
set_option maxRecDepth 100000 in
set_option maxHeartbeats 8000000 in
theorem symUp_gen {P : Program} {α : Type} [Inhabited α] (L : SlLaysF0.n20 P Tryz.insertM_ren) (FG : P.funcs[121]? = some Tryz.f121) (tU : P.underlying 205 = some (.int .u64)) (k : Nat) (aE : ∀ w, (isAgg 30).run P w = .ok true w) (zE : ∀ w, (Go.sizeOf 30).run P w = .ok k w)
    (enc : α → List Value) (hk : ∀ x, (enc x).length = k) (h1 : ∀ x, ∀ v ∈ enc x, v.oneCell' = true) (cf : α → α → Int) (hO : SWO (ltOf cf)) (g : Nat) (cb : Array Value) (eg : ∀ args w, (callFunc g args).run P w = .ok (.enter g args) w) (blk off cap N : Nat) (w0 : World) (d0 : Array α) (hN : d0.size = N) (hH : HoldsK enc k w0 blk off d0) (hblk : blk < w0.heap.size) (hsz : N < 1152921504606846976) (hcmp : CmpLays P g cb enc k cf blk off N w0)
    (a m b n : Nat) (d : Array α) (os : Array Obj) (hma : m = a + 1) (hmb : m < b) (hb : b ≤ N) (hd : d.size = N) (hs2 : SortedIn (ltOf cf) m b d) :
    Calls P 121 #[.slice (some ⟨blk, off, none⟩) N cap, .int .i64 a, .int .i64 m, .int .i64 b, .func (.func g) #[] cb] (sortWorldK enc k w0 blk off n d os) fun e w' => e = .returned (.tuple #[]) ∧ ∃ n' os' d', w' = sortWorldK enc k w0 blk off n' d' os' ∧ PermIn a b d d' ∧ SortedIn (ltOf cf) a b d' := by
  have mixed := L.mixed
  have t22 : P.underlying 25 = some (.slice 30) := L.t22
  have a22 : ∀ w, (isAgg 25).run P w = .ok false w := L.a22
  have z22 : ∀ w, (Go.sizeOf 25).run P w = .ok 1 w := L.z22
  have v22 : ∀ w, (zeroValue 25).run P w = .ok (Value.slice none 0 0) w := L.v22
  have t3 : P.underlying 3 = some (.int .i64) := L.t3
  have a3 : ∀ w, (isAgg 3).run P w = .ok false w := L.a3
  have z3 : ∀ w, (Go.sizeOf 3).run P w = .ok 1 w := L.z3
  have v3 : ∀ w, (zeroValue 3).run P w = .ok (.int .i64 0) w := L.v3
  have u22 := run_underlying t22
  have HK : Hid (∀ x, (enc x).length = k) := hk
  have H1 : Hid (∀ x, ∀ v ∈ enc x, v.oneCell' = true) := h1
  have HC : Hid (CmpLays P g cb enc k cf blk off N w0) := hcmp
  have HHD : Hid (∀ n (d : Array α) os, d.size = N → HoldsK enc k (sortWorldK enc k w0 blk off n d os) blk off d) := fun n d os hd => holdsK_sortWorldK_c enc k w0 blk off d0 d n os hH hblk (by omega)
  have HCL : Hid (∀ n (d : Array α) os q os', grow ((sortWorldK enc k w0 blk off n d os).drewN q) os' = sortWorldK enc k w0 blk off (n + q) d (os ++ os')) := fun n d os q os' => sortWorldK_grown_c enc k w0 blk off n q d os os'
  have HLD : Hid (∀ n (d : Array α) os x, d.size = N → x < N → ∀ q os', Sem.run P (loadCellsFrom ⟨blk, off + x * k, none⟩ 0 k #[]) (grow ((sortWorldK enc k w0 blk off n d os).drewN q) os') = .ok (enc d[x]!).toArray (grow ((sortWorldK enc k w0 blk off n d os).drewN q) os')) := fun n d os x hd hx q os' => by
    rw [HCL.out]; exact run_loadCellsFrom_list P _ _ _ k (HK.out _) (HoldsK.cells (HHD.out _ d _ hd) HK.out (by omega))
  have HCG : Hid (∀ n (d : Array α) os x y, d.size = N → ∀ q os', Calls P g (#[.agg (enc x).toArray, .agg (enc y).toArray] ++ cb) (grow ((sortWorldK enc k w0 blk off n d os).drewN q) os') fun e w' => e = .returned (.int .i64 (cf x y)) ∧ ∃ q' os'', w' = grow ((grow ((sortWorldK enc k w0 blk off n d os).drewN q) os').drewN q') os'') := fun n d os x y hd q os' => by
    rw [HCL.out]; exact HC.out _ _ d hd x y
  have HS2 : Hid (SortedIn (ltOf cf) m b d) := hs2
  have HO : Hid (SWO (ltOf cf)) := hO
  clear hk h1 hcmp hH hs2 hO
  have wma : IntKind.i64.wrap ((m : Int) - (a : Int)) = 1 := by rw [IntKind.wrap_i64]; omega
  have HMA : Hid (m = a + 1) := hma
  have hma' : a + 1 ≤ m := by omega
  have az0 : (0 : Int) ≤ (a : Int) := by omega
  have azN : (a : Int) < (N : Int) := by omega
  clear hma
  go_enter FG, Tryz.ntmps121
  go_wp2
  go_loopw [10, 11] (fun v u wr => ∃ (i j n' : Nat) (os' : Array Obj), v = .int .i64 i ∧ u = .int .i64 j ∧ m ≤ i ∧ i ≤ j ∧ j ≤ b ∧ wr = sortWorldK enc k w0 blk off n' d os' ∧ Hid ((∀ t, m ≤ t → t < i → ltOf cf d[t]! d[a]! = true) ∧ (∀ t, j ≤ t → t < b → ltOf cf d[t]! d[a]! = false))) (fun v u _ => (intOf u - intOf v).toNat)
  case atStart => exact ⟨m, b, n, os, rfl, rfl, Nat.le_refl _, by omega, Nat.le_refl _, rfl, fun t h1 h2 => by omega, fun t h1 h2 => by omega⟩
  case round =>
    obtain ⟨i, j, n', os', rfl, rfl, hmi, hij, hjb, rfl, HI⟩ := hrel
    by_cases hlt : i < j
    · have hltz : (i : Int) < (j : Int) := by omega
      have hhN : (i + j) / 2 < N := by omega
      have hh0 : (0 : Int) ≤ ((i : Int) + (j : Int)) / 2 := by omega
      have hhZ : ((i : Int) + (j : Int)) / 2 < (N : Int) := by omega
      have hhn : (((i : Int) + (j : Int)) / 2).toNat = (i + j) / 2 := by omega
      obtain ⟨xh, hxh⟩ : ∃ x, d[(i + j) / 2]! = x := ⟨_, rfl⟩
      obtain ⟨xa, hxa⟩ : ∃ x, d[a]! = x := ⟨_, rfl⟩
      have lxh := HLD.out n' d os' ((i + j) / 2) (by omega) (by omega)
      have lxa := HLD.out n' d os' (a) (by omega) (by omega)
      rw [hxh] at lxh
      rw [hxa] at lxa
      have hcg := HCG.out n' d os' xh xa (by omega)
      have CLS := Lib.hid (HCL.out n' d os')
      have HXxh := Lib.hid hxh
      have HXxa := Lib.hid hxa
      clear hxh hxa
      generalize sortWorldK enc k w0 blk off n' d os' = wq at lxh lxa hcg CLS ⊢
      by_cases hlv : cf xh xa < 0
      · go_wp2_with fail
        go_quiet_grown (first | (go_at_fn g; refine Calls.grown_of (hcg _ _)))
        go_wp2_with fail
        go_roundw
        case rel =>
          refine ⟨(i + j) / 2 + 1, j, n' + nq, os' ++ osq, by first | (congr 1; omega) | congr 1, rfl, by omega, by omega, hjb, CLS.out nq osq, fun t h1 h2 => ?_, HI.out.2⟩
          have e := SWO.le HO.out HS2.out (i := t) (j := (i + j) / 2) h1 (by omega) (by omega)
          have e2 : ltOf cf d[(i + j) / 2]! d[a]! = true := by rw [HXxh.out, HXxa.out]; exact decide_eq_true (by omega)
          exact SWO.less_down2 HO.out e e2
        case measure => simp [intOf]; omega
      · go_wp2_with fail
        go_quiet_grown (first | (go_at_fn g; refine Calls.grown_of (hcg _ _)))
        go_wp2_with fail
        go_roundw
        case rel =>
          refine ⟨i, (i + j) / 2, n' + nq, os' ++ osq, rfl, by first | (congr 1; omega) | congr 1, hmi, by omega, by omega, CLS.out nq osq, HI.out.1, fun t h1 h2 => ?_⟩
          have e := SWO.le HO.out HS2.out (i := (i + j) / 2) (j := t) (by omega) h1 h2
          have e2 : ltOf cf d[(i + j) / 2]! d[a]! = false := by rw [HXxh.out, HXxa.out]; exact decide_eq_false (by omega)
          exact HO.out.ntrans _ _ _ e e2
        case measure => simp [intOf]; omega
    · obtain rfl : i = j := by omega
      have hltz : ¬ (i : Int) < (i : Int) := by omega
      have wi : IntKind.i64.wrap ((i : Int) - 1) = (i : Int) - 1 := by rw [IntKind.wrap_i64]; omega
      go_wp2
      go_loopw [13] (fun v wr => ∃ (x n2 : Nat) (dk : Array α) (os2 : Array Obj), v = .int .i64 x ∧ a ≤ x ∧ x + 1 ≤ i ∧ dk.size = N ∧ wr = sortWorldK enc k w0 blk off n2 dk os2 ∧ Hid (Rot d dk a (a + 1) (x + 1) ∧ PermIn a b d dk)) (fun v _ => i - (intOf v).toNat)
      case atStart => exact ⟨a, n', d, os', rfl, Nat.le_refl _, by omega, hd, rfl, Rot.self_up d a, permIn_refl _ _ _⟩
      case round =>
        obtain ⟨x, n2, dk, os2, rfl, hax, hxi, hdk, rfl, HR⟩ := hrel
        by_cases hx : x + 1 < i
        · have hxz : (x : Int) < (i : Int) - 1 := by omega
          have p0 : (0 : Int) ≤ (x : Int) := by omega
          have pz : (x : Int) < (N : Int) := by omega
          have q0 : (0 : Int) ≤ (x : Int) + 1 := by omega
          have qz : (x : Int) + 1 < (N : Int) := by omega
          have e0 : ((x : Int) + 1).toNat = x + 1 := by omega
          obtain ⟨xa, hxa⟩ : ∃ z_, dk[x]! = z_ := ⟨_, rfl⟩
          obtain ⟨xb, hxb⟩ : ∃ z_, dk[x + 1]! = z_ := ⟨_, rfl⟩
          have hHd : HoldsK enc k (sortWorldK enc k w0 blk off n2 dk os2).drew blk off dk := HHD.out _ dk _ (by omega)
          generalize hwr : sortWorldK enc k w0 blk off n2 dk os2 = wq at hHd ⊢
          have HWR := Lib.hid hwr
          have bnd : ∀ x, x < dk.size → x * k + k ≤ dk.size * k := fun x hx => by
            have := Nat.mul_le_mul_right k (show x + 1 ≤ dk.size from hx); rwa [Nat.add_mul, Nat.one_mul] at this
          have la : Sem.run P (loadCellsFrom ⟨blk, off + (x) * k, none⟩ 0 k #[]) wq.drew = .ok (enc xa).toArray wq.drew := by rw [← hxa]; exact run_loadCellsFrom_list P _ _ _ k (HK.out _) (HoldsK.cells hHd HK.out (by omega))
          have lb : Sem.run P (loadCellsFrom ⟨blk, off + (x + 1) * k, none⟩ 0 k #[]) wq.drew = .ok (enc xb).toArray wq.drew := by rw [← hxb]; exact run_loadCellsFrom_list P _ _ _ k (HK.out _) (HoldsK.cells hHd HK.out (by omega))
          have s1 : Sem.run P (storeCells ⟨blk, off + (x) * k, none⟩ (enc xb) 0) wq.drew = .ok () (wq.drew.setCells blk (off + (x) * k) (enc xb)) := stores_of_holds P hHd ((x) * k) _ (by rw [HK.out, size_flatK]; exact bnd (x) (by omega)) (H1.out _)
          have s2 : Sem.run P (storeCells ⟨blk, off + (x + 1) * k, none⟩ (enc xa) 0) (wq.drew.setCells blk (off + (x) * k) (enc xb)) = .ok () ((wq.drew.setCells blk (off + (x) * k) (enc xb)).setCells blk (off + (x + 1) * k) (enc xa)) :=
            stores_of_holds P (holds_setCells_c hHd ((x) * k) _ (by rw [HK.out, size_flatK]; exact bnd (x) (by omega))) ((x + 1) * k) _ (by rw [HK.out, size_setMany, size_flatK]; exact bnd (x + 1) (by omega)) (H1.out _)
          have hsA : (enc xa).length = k := HK.out _
          have hsB : (enc xb).length = k := HK.out _
          clear hwr hHd bnd
          obtain ⟨cA, hcA⟩ : ∃ c, c = enc xa := ⟨_, rfl⟩
          obtain ⟨cB, hcB⟩ : ∃ c, c = enc xb := ⟨_, rfl⟩
          rw [← hcB] at s1 lb hsB
          rw [← hcA] at la hsA
          rw [← hcA, ← hcB] at s2
          have CC : Hid (cA = enc xa ∧ cB = enc xb) := ⟨hcA, hcB⟩
          clear hcA hcB
          go_wp2_with fail
          go_big_region_o
          all_goals go_wp2
          refine ⟨⟨x + 1, n2 + 1, swp dk x (x + 1), os2, by go_num, by omega, by omega, by rw [size_swp]; exact hdk, ?_, (show Hid _ from ?_)⟩, by simp [intOf]; omega⟩
          · rw [CC.out.1, CC.out.2, ← hxa, ← hxb, ← HWR.out]
            exact sortWorldK_swp_c enc k w0 blk off HK.out n2 dk os2 hblk x (x + 1) (by omega) (by omega)
          · exact ⟨HR.out.1.up hax (by omega), permIn_trans _ _ _ _ _ HR.out.2 (swp_permIn dk a b x (x + 1) (by omega) (by omega) (by omega) (by omega) (by omega))⟩
        · have hxz : ¬ (x : Int) < (i : Int) - 1 := by omega
          go_wp2
          (try simp only [Exit.inBlock, Exit.then]); refine bodyPost_ret (results_none rfl _ _ _) rfl ?_
          obtain rfl : i = x + 1 := by omega
          have hm := HMA.out
          refine ⟨rfl, n2, os2, dk, rfl, HR.out.2, one_up HO.out (by omega) hjb (by rw [← hm]; exact HS2.out) (by rw [← hm]; exact HI.out.1) HI.out.2 HR.out.1⟩
end Go.Proofs.YtjfgmgkhinehaaaGreatDoor
namespace Go.Proofs.YtjfgmgkhinehaaaGreatDoor
open Go Go.Shelf Go.RowKit Go.Lib Go.Sort
set_option maxRecDepth 100000 in
set_option maxHeartbeats 8000000 in
theorem symDown_gen {P : Program} {α : Type} [Inhabited α] (L : SlLaysF0.n20 P Tryz.insertM_ren) (FG : P.funcs[121]? = some Tryz.f121) (tU : P.underlying 205 = some (.int .u64)) (k : Nat) (aE : ∀ w, (isAgg 30).run P w = .ok true w) (zE : ∀ w, (Go.sizeOf 30).run P w = .ok k w)
    (enc : α → List Value) (hk : ∀ x, (enc x).length = k) (h1 : ∀ x, ∀ v ∈ enc x, v.oneCell' = true) (cf : α → α → Int) (hO : SWO (ltOf cf)) (g : Nat) (cb : Array Value) (eg : ∀ args w, (callFunc g args).run P w = .ok (.enter g args) w) (blk off cap N : Nat) (w0 : World) (d0 : Array α) (hN : d0.size = N) (hH : HoldsK enc k w0 blk off d0) (hblk : blk < w0.heap.size) (hsz : N < 1152921504606846976) (hcmp : CmpLays P g cb enc k cf blk off N w0)
    (a m b n : Nat) (d : Array α) (os : Array Obj) (ham : a + 1 < m) (hbm : b = m + 1) (hb : b ≤ N) (hd : d.size = N) (hs1 : SortedIn (ltOf cf) a m d) :
    Calls P 121 #[.slice (some ⟨blk, off, none⟩) N cap, .int .i64 a, .int .i64 m, .int .i64 b, .func (.func g) #[] cb] (sortWorldK enc k w0 blk off n d os) fun e w' => e = .returned (.tuple #[]) ∧ ∃ n' os' d', w' = sortWorldK enc k w0 blk off n' d' os' ∧ PermIn a b d d' ∧ SortedIn (ltOf cf) a b d' := by
  have mixed := L.mixed
  have t22 : P.underlying 25 = some (.slice 30) := L.t22
  have a22 : ∀ w, (isAgg 25).run P w = .ok false w := L.a22
  have z22 : ∀ w, (Go.sizeOf 25).run P w = .ok 1 w := L.z22
  have v22 : ∀ w, (zeroValue 25).run P w = .ok (Value.slice none 0 0) w := L.v22
  have t3 : P.underlying 3 = some (.int .i64) := L.t3
  have a3 : ∀ w, (isAgg 3).run P w = .ok false w := L.a3
  have z3 : ∀ w, (Go.sizeOf 3).run P w = .ok 1 w := L.z3
  have v3 : ∀ w, (zeroValue 3).run P w = .ok (.int .i64 0) w := L.v3
  have u22 := run_underlying t22
  have HK : Hid (∀ x, (enc x).length = k) := hk
  have H1 : Hid (∀ x, ∀ v ∈ enc x, v.oneCell' = true) := h1
  have HC : Hid (CmpLays P g cb enc k cf blk off N w0) := hcmp
  have HHD : Hid (∀ n (d : Array α) os, d.size = N → HoldsK enc k (sortWorldK enc k w0 blk off n d os) blk off d) := fun n d os hd => holdsK_sortWorldK_c enc k w0 blk off d0 d n os hH hblk (by omega)
  have HCL : Hid (∀ n (d : Array α) os q os', grow ((sortWorldK enc k w0 blk off n d os).drewN q) os' = sortWorldK enc k w0 blk off (n + q) d (os ++ os')) := fun n d os q os' => sortWorldK_grown_c enc k w0 blk off n q d os os'
  have HLD : Hid (∀ n (d : Array α) os x, d.size = N → x < N → ∀ q os', Sem.run P (loadCellsFrom ⟨blk, off + x * k, none⟩ 0 k #[]) (grow ((sortWorldK enc k w0 blk off n d os).drewN q) os') = .ok (enc d[x]!).toArray (grow ((sortWorldK enc k w0 blk off n d os).drewN q) os')) := fun n d os x hd hx q os' => by
    rw [HCL.out]; exact run_loadCellsFrom_list P _ _ _ k (HK.out _) (HoldsK.cells (HHD.out _ d _ hd) HK.out (by omega))
  have HCG : Hid (∀ n (d : Array α) os x y, d.size = N → ∀ q os', Calls P g (#[.agg (enc x).toArray, .agg (enc y).toArray] ++ cb) (grow ((sortWorldK enc k w0 blk off n d os).drewN q) os') fun e w' => e = .returned (.int .i64 (cf x y)) ∧ ∃ q' os'', w' = grow ((grow ((sortWorldK enc k w0 blk off n d os).drewN q) os').drewN q') os'') := fun n d os x y hd q os' => by
    rw [HCL.out]; exact HC.out _ _ d hd x y
  have HS1 : Hid (SortedIn (ltOf cf) a m d) := hs1
  have HO : Hid (SWO (ltOf cf)) := hO
  clear hk h1 hcmp hH hs1 hO
  have wma : IntKind.i64.wrap ((m : Int) - (a : Int)) = (m : Int) - (a : Int) := by rw [IntKind.wrap_i64]; omega
  have wne : (((m : Int) - (a : Int)) == 1) = false := by rw [beq_eq_false_iff_ne]; omega
  have wne' : ¬ ((m : Int) - (a : Int) = 1) := by omega
  have wbm : IntKind.i64.wrap ((b : Int) - (m : Int)) = 1 := by rw [IntKind.wrap_i64]; omega
  have HBM : Hid (b = m + 1) := hbm
  have hbm' : m < b := by omega
  have az0 : (0 : Int) ≤ (m : Int) := by omega
  have azN : (m : Int) < (N : Int) := by omega
  clear hbm
  go_enter FG, Tryz.ntmps121
  go_wp2
  go_loopw [14, 15] (fun v u wr => ∃ (i j n' : Nat) (os' : Array Obj), v = .int .i64 i ∧ u = .int .i64 j ∧ a ≤ i ∧ i ≤ j ∧ j ≤ m ∧ wr = sortWorldK enc k w0 blk off n' d os' ∧ Hid ((∀ t, a ≤ t → t < i → ltOf cf d[m]! d[t]! = false) ∧ (∀ t, j ≤ t → t < m → ltOf cf d[m]! d[t]! = true))) (fun v u _ => (intOf u - intOf v).toNat)
  case atStart => exact ⟨a, m, n, os, rfl, rfl, Nat.le_refl _, by omega, Nat.le_refl _, rfl, fun t h1 h2 => by omega, fun t h1 h2 => by omega⟩
  case round =>
    obtain ⟨i, j, n', os', rfl, rfl, hai, hij, hjm, rfl, HI⟩ := hrel
    by_cases hlt : i < j
    · have hltz : (i : Int) < (j : Int) := by omega
      have hhN : (i + j) / 2 < N := by omega
      have hh0 : (0 : Int) ≤ ((i : Int) + (j : Int)) / 2 := by omega
      have hhZ : ((i : Int) + (j : Int)) / 2 < (N : Int) := by omega
      have hhn : (((i : Int) + (j : Int)) / 2).toNat = (i + j) / 2 := by omega
      obtain ⟨xm, hxm⟩ : ∃ x, d[m]! = x := ⟨_, rfl⟩
      obtain ⟨xh, hxh⟩ : ∃ x, d[(i + j) / 2]! = x := ⟨_, rfl⟩
      have lxm := HLD.out n' d os' (m) (by omega) (by omega)
      have lxh := HLD.out n' d os' ((i + j) / 2) (by omega) (by omega)
      rw [hxm] at lxm
      rw [hxh] at lxh
      have hcg := HCG.out n' d os' xm xh (by omega)
      have CLS := Lib.hid (HCL.out n' d os')
      have HXxm := Lib.hid hxm
      have HXxh := Lib.hid hxh
      clear hxm hxh
      generalize sortWorldK enc k w0 blk off n' d os' = wq at lxm lxh hcg CLS ⊢
      by_cases hlv : cf xm xh < 0
      · have hdv : decide (cf xm xh < 0) = true := decide_eq_true hlv
        go_wp2_with fail
        go_quiet_grown (first | (go_at_fn g; refine Calls.grown_of (hcg _ _)))
        go_wp2_with fail
        go_roundw
        case rel =>
          refine ⟨i, (i + j) / 2, n' + nq, os' ++ osq, rfl, by first | (congr 1; omega) | congr 1, hai, by omega, by omega, CLS.out nq osq, HI.out.1, fun t h1 h2 => ?_⟩
          have e := SWO.le HO.out HS1.out (i := (i + j) / 2) (j := t) (by omega) h1 h2
          have e2 : ltOf cf d[m]! d[(i + j) / 2]! = true := by rw [HXxh.out, HXxm.out]; exact decide_eq_true (by omega)
          exact SWO.less_up HO.out e e2
        case measure => simp [intOf]; omega
      · have hdv : decide (cf xm xh < 0) = false := decide_eq_false hlv
        go_wp2_with fail
        go_quiet_grown (first | (go_at_fn g; refine Calls.grown_of (hcg _ _)))
        go_wp2_with fail
        go_roundw
        case rel =>
          refine ⟨(i + j) / 2 + 1, j, n' + nq, os' ++ osq, by first | (congr 1; omega) | congr 1, rfl, by omega, by omega, hjm, CLS.out nq osq, fun t h1 h2 => ?_, HI.out.2⟩
          have e := SWO.le HO.out HS1.out (i := t) (j := (i + j) / 2) h1 (by omega) (by omega)
          have e2 : ltOf cf d[m]! d[(i + j) / 2]! = false := by rw [HXxh.out, HXxm.out]; exact decide_eq_false (by omega)
          exact HO.out.ntrans _ _ _ e2 e
        case measure => simp [intOf]; omega
    · obtain rfl : i = j := by omega
      have hltz : ¬ (i : Int) < (i : Int) := by omega
      go_wp2
      go_loopw [17] (fun v wr => ∃ (x n2 : Nat) (dk : Array α) (os2 : Array Obj), v = .int .i64 x ∧ i ≤ x ∧ x ≤ m ∧ dk.size = N ∧ wr = sortWorldK enc k w0 blk off n2 dk os2 ∧ Hid (Rot d dk x m (m + 1) ∧ PermIn a b d dk)) (fun v _ => (intOf v).toNat)
      case atStart => exact ⟨m, n', d, os', rfl, by omega, Nat.le_refl _, hd, rfl, Rot.self_down d m, permIn_refl _ _ _⟩
      case round =>
        obtain ⟨x, n2, dk, os2, rfl, hix, hxm, hdk, rfl, HR⟩ := hrel
        by_cases hx : i < x
        · obtain ⟨y, rfl⟩ : ∃ y, x = y + 1 := ⟨x - 1, by omega⟩
          have hxz : (i : Int) < (y : Int) + 1 := by omega
          have hwp : IntKind.i64.wrap (y : Int) = (y : Int) := by rw [IntKind.wrap_i64]; omega
          have p0 : (0 : Int) ≤ (y : Int) := by omega
          have pz : (y : Int) < (N : Int) := by omega
          have q0 : (0 : Int) ≤ (y : Int) + 1 := by omega
          have qz : (y : Int) + 1 < (N : Int) := by omega
          have e0 : ((y : Int) + 1).toNat = y + 1 := by omega
          obtain ⟨xa, hxa⟩ : ∃ z_, dk[y + 1]! = z_ := ⟨_, rfl⟩
          obtain ⟨xb, hxb⟩ : ∃ z_, dk[y]! = z_ := ⟨_, rfl⟩
          have hHd : HoldsK enc k (sortWorldK enc k w0 blk off n2 dk os2).drew blk off dk := HHD.out _ dk _ (by omega)
          generalize hwr : sortWorldK enc k w0 blk off n2 dk os2 = wq at hHd ⊢
          have HWR := Lib.hid hwr
          have bnd : ∀ x, x < dk.size → x * k + k ≤ dk.size * k := fun x hx => by
            have := Nat.mul_le_mul_right k (show x + 1 ≤ dk.size from hx); rwa [Nat.add_mul, Nat.one_mul] at this
          have la : Sem.run P (loadCellsFrom ⟨blk, off + (y + 1) * k, none⟩ 0 k #[]) wq.drew = .ok (enc xa).toArray wq.drew := by rw [← hxa]; exact run_loadCellsFrom_list P _ _ _ k (HK.out _) (HoldsK.cells hHd HK.out (by omega))
          have lb : Sem.run P (loadCellsFrom ⟨blk, off + (y) * k, none⟩ 0 k #[]) wq.drew = .ok (enc xb).toArray wq.drew := by rw [← hxb]; exact run_loadCellsFrom_list P _ _ _ k (HK.out _) (HoldsK.cells hHd HK.out (by omega))
          have s1 : Sem.run P (storeCells ⟨blk, off + (y + 1) * k, none⟩ (enc xb) 0) wq.drew = .ok () (wq.drew.setCells blk (off + (y + 1) * k) (enc xb)) := stores_of_holds P hHd ((y + 1) * k) _ (by rw [HK.out, size_flatK]; exact bnd (y + 1) (by omega)) (H1.out _)
          have s2 : Sem.run P (storeCells ⟨blk, off + (y) * k, none⟩ (enc xa) 0) (wq.drew.setCells blk (off + (y + 1) * k) (enc xb)) = .ok () ((wq.drew.setCells blk (off + (y + 1) * k) (enc xb)).setCells blk (off + (y) * k) (enc xa)) :=
            stores_of_holds P (holds_setCells_c hHd ((y + 1) * k) _ (by rw [HK.out, size_flatK]; exact bnd (y + 1) (by omega))) ((y) * k) _ (by rw [HK.out, size_setMany, size_flatK]; exact bnd (y) (by omega)) (H1.out _)
          have hsA : (enc xa).length = k := HK.out _
          have hsB : (enc xb).length = k := HK.out _
          clear hwr hHd bnd
          obtain ⟨cA, hcA⟩ : ∃ c, c = enc xa := ⟨_, rfl⟩
          obtain ⟨cB, hcB⟩ : ∃ c, c = enc xb := ⟨_, rfl⟩
          rw [← hcB] at s1 lb hsB
          rw [← hcA] at la hsA
          rw [← hcA, ← hcB] at s2
          have CC : Hid (cA = enc xa ∧ cB = enc xb) := ⟨hcA, hcB⟩
          clear hcA hcB
          go_wp2_with fail
          go_big_region_o
          all_goals go_wp2
          refine ⟨⟨y, n2 + 1, swp dk (y + 1) y, os2, by first | rfl | go_num | (congr 1; omega), by omega, by omega, by rw [size_swp]; exact hdk, ?_, (show Hid _ from ?_)⟩, by simp [intOf]⟩
          · rw [CC.out.1, CC.out.2, ← hxa, ← hxb, ← HWR.out]
            exact sortWorldK_swp_c enc k w0 blk off HK.out n2 dk os2 hblk (y + 1) y (by omega) (by omega)
          · have := HR.out.1.down (by omega) hxm (by omega)
            rw [Nat.add_sub_cancel] at this
            exact ⟨this, permIn_trans _ _ _ _ _ HR.out.2 (swp_permIn dk a b (y + 1) y (by omega) (by omega) (by omega) (by omega) (by omega))⟩
        · have hxz : ¬ (i : Int) < (x : Int) := by omega
          go_wp2
          (try simp only [Exit.inBlock, Exit.then]); refine bodyPost_ret (results_none rfl _ _ _) rfl ?_
          obtain rfl : i = x := by omega
          have hm := HBM.out
          refine ⟨rfl, n2, os2, dk, rfl, HR.out.2, by rw [hm]; exact one_down HO.out hai hjm HS1.out HI.out.1 HI.out.2 HR.out.1⟩
end Go.Proofs.YtjfgmgkhinehaaaGreatDoor
