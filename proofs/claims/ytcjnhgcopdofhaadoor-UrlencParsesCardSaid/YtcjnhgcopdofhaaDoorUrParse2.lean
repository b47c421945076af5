/- The walk of urlenc's Parse, its loop. -/
import Derived.Test.YtcjnhgcopdofhaaDoorUrParse
namespace Go.Proofs.YtcjnhgcopdofhaaDoor
open Go Go.RowKit

/-- What read tells of a part that is wrong. -/
def BadTells (pos : Int) (w : World) (e : Ending) (w' : World) : Prop :=
  ∃ b, e = .returned (.tuple #[.agg #[.string ⟨#[]⟩, .string ⟨#[]⟩], .iface 55 (.pointer (some ⟨b, 0, none⟩))]) ∧ UAtTells pos 60 w (.iface 55 (.pointer (some ⟨b, 0, none⟩))) w' ∧ Below w.heap.size w w'
theorem read_bad {pos : Int} {w : World} {e : Ending} {w' : World} (h : ∃ v, e = .returned (.tuple #[zeroP, v]) ∧ UAtTells pos 60 w v w' ∧ Below w.heap.size w w') : BadTells pos w e w' := by
  obtain ⟨v, he, hv, hb⟩ := h
  have hv2 := hv
  obtain ⟨b, rfl, _, _, _⟩ := hv
  exact ⟨b, he, hv2, hb⟩
set_option maxRecDepth 100000 in
set_option maxHeartbeats 4000000 in
theorem parse_short (s : ByteArray) (w : World) (hm : Marks w) (hM : MaxL w) (h : ¬ 4096 < s.size) :
    Calls Tryd.prog 8 #[.string s] w (ParseTells (parsedP s) w) := by
  have HR0 : Hid (parsedP s = goP (partsL (strL s)) 0 []) := Lib.hid (by rw [parsedP, if_neg h])
  have hf : ¬ (4096 : Int) < (s.size : Int) := by omega
  have HSP := Lib.hid (split_any s w hM (by omega))
  have HMM := Lib.hid (And.intro hm hM)
  have HS4 : Hid (s.size ≤ 4096) := Lib.hid (by omega)
  obtain ⟨i0, hi0, hz0, hz1, hz2⟩ := info_parts infoPar
  clear hm hM h
  go_enter Tryd.func8, Tryd.ntmps8
  go_wp2_with fail
  refine HSP.out.mono ?_
  rintro e w1 ⟨PS, hPS, rfl, hcells, hlt1, hb1⟩
  have HPS := Lib.hid hPS
  have HCE := Lib.hid hcells
  have HB1 := Lib.hid (And.intro hb1 hlt1)
  have hml : PS.length ≤ 4097 := by
    have h1 := congrArg List.length hPS
    have h2 := parts_len (strL s)
    rw [List.length_map] at h1
    rw [length_strL] at h2
    have := HS4.out
    omega
  have HEL : Hid (∀ (j : Nat) (hj : j < PS.length), PS[j].size ≤ 4096) := Lib.hid fun j hj => by
    have hmem : strL PS[j] ∈ partsL (strL s) := by rw [← hPS]; exact List.mem_map_of_mem (List.getElem_mem hj)
    have := (parts_mem _ _ hmem).1
    rw [length_strL, length_strL] at this
    have := HS4.out
    omega
  rw [← hPS] at HR0
  obtain ⟨m, hmm⟩ : ∃ m, m = PS.length := ⟨_, rfl⟩
  rw [← hmm] at hml ⊢
  have HMN := Lib.hid hmm
  clear hPS hcells hlt1 hb1 hmm HSP
  go_wp2
  go_loopw [4, 5, 17] (fun lv kv jv wr => ∃ (j k n : Nat) (acc : PList), j ≤ m ∧ jv = .int .i64 (j : Int) ∧ kv = .int .i64 (k : Int) ∧ k ≤ j * 5000 ∧ acc.length = n ∧ n ≤ 32 ∧ goP (PS.map strL) 0 [] = goP ((PS.map strL).drop j) k acc ∧ wr.ownsRow w1.heap.size 45 2 lv n (flatP acc) ∧ Below w1.heap.size w1 wr) (fun _ _ jv _ => m - (intOf jv).toNat)
  case atStart => exact ⟨0, 0, 0, [], Nat.zero_le _, rfl, rfl, by omega, rfl, by omega, rfl, World.ownsRow_nil _ _ _ _, Below.refl _ _⟩
  case round =>
    obtain ⟨j, k, n, acc, hj, rfl, rfl, hk, hn, hn32, hrun, hown, hbel⟩ := hrel
    obtain ⟨A, c, rfl, hnc, hlies⟩ := own_params hown hn
    have HRUN := Lib.hid hrun
    have HOW := Lib.hid hown
    have HBE := Lib.hid hbel
    have HLI := Lib.hid hlies
    have HN := Lib.hid hn
    have HBW := Lib.hid (HB1.out.1.trans (hbel.mono HB1.out.1.size))
    have hkb : k ≤ 30000000 := by omega
    clear hrun hown hbel hlies hn
    by_cases hlt : j < m
    · have hjl : j < PS.length := by rw [← HMN.out]; exact hlt
      have hcj := (HBE.out.cell (p := ⟨w.heap.size, j, none⟩) HB1.out.2).trans (HCE.out j PS[j] (List.getElem?_eq_getElem hjl))
      have hsz := HEL.out j hjl
      have hdr : (PS.map strL).drop j = strL PS[j] :: (PS.map strL).drop (j + 1) := by
        rw [List.drop_eq_getElem_cons (by simpa using hjl)]; simp
      have HST := Lib.hid (HRUN.out.trans (by rw [hdr]))
      obtain ⟨t, ht⟩ : ∃ t, t = PS[j] := ⟨_, rfl⟩
      rw [← ht] at hcj hsz HST
      have hi0' : (0 : Int) ≤ (j : Int) := by omega
      have hi1' : (j : Int) < (m : Int) := by omega
      clear ht hdr hjl HRUN
      by_cases h0 : t.size = 0
      · have he : t = ⟨#[]⟩ := by
          cases t with | mk d => cases d with | mk l => cases l with | nil => rfl | cons x r => simp [ByteArray.size] at h0
        subst he
        have HR : Hid (goP (PS.map strL) 0 [] = goP ((PS.map strL).drop (j + 1)) (k + 1) acc) := Lib.hid (by rw [HST.out, goP, if_pos (show strL ⟨#[]⟩ = [] from rfl)])
        clear HST h0 hsz
        go_wp2
        go_roundw
        case rel => exact ⟨j + 1, k + 1, n, acc, by omega, by go_num, by go_num, by omega, HN.out, hn32, HR.out, HOW.out, HBE.out⟩
        case measure => simp [intOf]; omega
      · have hpos : 0 < t.size := by omega
        have e1 := notEmpty hpos
        have e2 : (t.toList == []) = false := by rw [beq_eq_false_iff_ne]; intro h; rw [h] at e1; simp at e1
        have e3 : ¬ t.toList = [] := by intro h; rw [h] at e1; simp at e1
        have hne : strL t ≠ [] := fun h => by
          have := congrArg List.length h
          rw [length_strL] at this
          have h3 : t.size = 0 := this
          omega
        rw [goP, if_neg hne] at HST
        have hle := looseL_le (strL t)
        by_cases hlo : looseL (strL t) < (strL t).length
        · rw [if_pos hlo] at HST
          have HRD := Lib.hid (fun W : World => (read_loose t k W (by omega) (by omega) hlo).mono (R' := BadTells ((k + looseL (strL t) : Nat) : Int) W) fun e w' h => read_bad h)
          obtain ⟨q, hq⟩ : ∃ q, q = looseL (strL t) := ⟨_, rfl⟩
          rw [← hq] at HST HRD
          clear hlo hle hq hne h0
          go_wp2_with fail
          refine (HRD.out _).mono ?_
          rintro e w2 ⟨b, rfl, hu, hb⟩
          have HU := Lib.hid (And.intro hu hb)
          clear hu hb
          go_wp2
          go_ret2
          rw [HR0.out, HST.out]
          have hB3 := HBW.out.trans (HU.out.2.mono HBW.out.size)
          exact ⟨none, 0, _, rfl, LiesP.nil _ _, .inr (.inr ⟨show (60 : Int) ≠ 0 by decide, show (0 : Int) ≤ ((k + q : Nat) : Int) by omega, (HU.out.1.low HBW.out.size).below (belowAlloc _ _)⟩), hB3.alloc hB3.size _⟩
        · rw [if_neg hlo] at HST
          have hlf : looseL (strL t) = (strL t).length := by omega
          have l12 := loose_name_full hlf
          cases hr : rightP (toS (meanL (nameL (strL t))), toS (meanL (valL (strL t)))) with
          | false =>
            rw [if_pos hr] at HST
            have HRD := Lib.hid (fun (W : World) (h1 : Marks W) (h2 : MaxL W) => (read_wrong t k W h1 h2 (by omega) (by omega) hlf hr).mono (R' := BadTells (k : Int) W) fun e w' h => read_bad h)
            clear hlo hle hne h0 hlf hr l12
            go_wp2_with fail
            refine (HRD.out _ (HMM.out.1.below HBW.out) (HMM.out.2.below HBW.out)).mono ?_
            rintro e w2 ⟨b, rfl, hu, hb⟩
            have HU := Lib.hid (And.intro hu hb)
            clear hu hb
            go_wp2
            go_ret2
            rw [HR0.out, HST.out]
            have hB3 := HBW.out.trans (HU.out.2.mono HBW.out.size)
            exact ⟨none, 0, _, rfl, LiesP.nil _ _, .inr (.inr ⟨show (60 : Int) ≠ 0 by decide, show (0 : Int) ≤ (k : Int) by omega, (HU.out.1.low HBW.out.size).below (belowAlloc _ _)⟩), hB3.alloc hB3.size _⟩
          | true =>
            rw [if_neg (by rw [hr]; decide)] at HST
            have HRD := Lib.hid (fun (W : World) (h1 : Marks W) (h2 : MaxL W) => read_right t k W h1 h2 (by omega) (by omega) hlf hr)
            obtain ⟨a, ha⟩ : ∃ a, a = toS (meanL (nameL (strL t))) := ⟨_, rfl⟩
            obtain ⟨b, hb⟩ : ∃ b, b = toS (meanL (valL (strL t))) := ⟨_, rfl⟩
            rw [← ha, ← hb] at HST HRD
            have HLEN : Hid ((strL t).length = t.size) := Lib.hid (length_strL t)
            clear hlo hle hne h0 hlf hr l12 ha hb
            cases hg : (getB acc a).2 with
            | true =>
              rw [if_pos hg] at HST
              have HMF := Lib.hid (fun (W : World) (hW : Below wr.heap.size wr W) => may_twice A acc n c a b (k : Int) W HN.out (by omega) (HLI.out.below hW) hg)
              clear hg
              go_wp2_with fail
              refine (HRD.out _ (HMM.out.1.below HBW.out) (HMM.out.2.below HBW.out)).mono ?_
              rintro e w2 ⟨rfl, hb2⟩
              have HB2 := Lib.hid hb2
              clear hb2
              go_wp2_with fail
              refine (HMF.out _ (HB2.out.alloc HB2.out.size _)).mono ?_
              rintro e w3 ⟨v, rfl, hu, hb3⟩
              have HB3 := Lib.hid ((HB2.out.alloc HB2.out.size (.cells #[.string a, .string b] 45)).trans (hb3.mono (HB2.out.alloc HB2.out.size _).size))
              have HU := Lib.hid (hu.low (w := w) (HBW.out.trans ((HB2.out.alloc HB2.out.size (.cells #[.string a, .string b] 45)).mono HBW.out.size)).size)
              obtain ⟨b', rfl, _, _, _⟩ := hu
              clear hb3
              go_wp2
              go_ret2
              rw [HR0.out, HST.out]
              exact ⟨none, 0, _, rfl, LiesP.nil _ _, .inr (.inr ⟨show (52 : Int) ≠ 0 by decide, show (0 : Int) ≤ (k : Int) by omega, HU.out⟩), HBW.out.trans (HB3.out.mono HBW.out.size)⟩
            | false =>
              rw [if_neg (by rw [hg]; decide)] at HST
              by_cases h32 : n = 32
              · subst h32
                rw [if_pos HN.out] at HST
                have HMF := Lib.hid (fun (W : World) (hW : Below wr.heap.size wr W) => may_many A acc c a b (k : Int) W HN.out (HLI.out.below hW) hg)
                clear hg
                go_wp2_with fail
                refine (HRD.out _ (HMM.out.1.below HBW.out) (HMM.out.2.below HBW.out)).mono ?_
                rintro e w2 ⟨rfl, hb2⟩
                have HB2 := Lib.hid hb2
                clear hb2
                go_wp2_with fail
                refine (HMF.out _ (HB2.out.alloc HB2.out.size _)).mono ?_
                rintro e w3 ⟨rfl, hb3⟩
                have HB3 := Lib.hid ((HB2.out.alloc HB2.out.size (.cells #[.string a, .string b] 45)).trans (hb3.mono (HB2.out.alloc HB2.out.size _).size))
                clear hb3
                go_wp2
                go_ret2
                rw [HR0.out, HST.out]
                exact ⟨none, 0, _, rfl, LiesP.nil _ _, .inr (.inl ⟨show (53 : Int) ≠ 0 by decide, rfl, rfl⟩), HBW.out.trans (HB3.out.mono HBW.out.size)⟩
              · rw [if_neg (by rw [HN.out]; exact h32)] at HST
                have HMF := Lib.hid (fun (W : World) (hW : Below wr.heap.size wr W) => may_ok A acc n c a b (k : Int) W HN.out (by omega) (HLI.out.below hW) hg h32)
                have hn31 : n ≤ 31 := by omega
                clear hg h32
                go_wp2_with fail
                refine (HRD.out _ (HMM.out.1.below HBW.out) (HMM.out.2.below HBW.out)).mono ?_
                rintro e w2 ⟨rfl, hb2⟩
                have HB2 := Lib.hid hb2
                clear hb2
                go_wp2_with fail
                refine (HMF.out _ (HB2.out.alloc HB2.out.size _)).mono ?_
                rintro e w3 ⟨rfl, hb3⟩
                have HB3 := Lib.hid ((HB2.out.alloc HB2.out.size (.cells #[.string a, .string b] 45)).trans (hb3.mono (HB2.out.alloc HB2.out.size _).size))
                have c0 : w3.cell? ⟨w2.heap.size, 0, none⟩ = some (.string a) := (hb3.cell (p := ⟨w2.heap.size, 0, none⟩) (by simp)).trans (by simp)
                have c1 : w3.cell? ⟨w2.heap.size, 1, none⟩ = some (.string b) := (hb3.cell (p := ⟨w2.heap.size, 1, none⟩) (by simp)).trans (by simp)
                have HOW3 := Lib.hid (HOW.out.kept (row := none) (grownBy_of_below HB3.out none) (Classical.em _))
                have hsz3 : w1.heap.size ≤ w3.heap.size := Nat.le_trans HBE.out.size HB3.out.size
                clear hb3
                go_wp2_with (at_builtin; refine wpList_append_own _ rfl _ _ 23 rfl w1.heap.size 45 i0 (.agg #[.string ⟨#[]⟩, .string ⟨#[]⟩]) 2 32 Tryd.underlying23 hi0 hz0 hz1 hz2 rfl (by decide) _ n _ rfl (HOW3.out.alloc _) ⟨w3.heap.size, 0, none⟩ 1 1 [.string a, .string b] rfl rfl ?c1 ?c2 ?c3 ?c4 ?c5 ?_)
                case c1 =>
                  intro i u hi
                  match i, hi with
                  | 0, hi => simp at hi; subst hi; simp [Addr.add]
                  | 1, hi => simp at hi; subst hi; simp [Addr.add]
                case c2 => intro u hu; simp at hu; rcases hu with rfl | rfl <;> rfl
                case c3 => unfold maxLen; omega
                case c4 => omega
                case c5 => simp; omega
                intro v' w4 hown' hgr _
                have HF : Hid (w4.ownsRow w1.heap.size 45 2 v' (n + 1) (flatP (acc ++ [(a, b)])) ∧ Below w1.heap.size w1 w4) := Lib.hid ⟨by rw [flatP_snoc]; exact hown',
                  ((HBE.out.trans (HB3.out.mono HBE.out.size)).alloc hsz3 _).grown hgr (by simp; omega) (own_ge HOW3.out)⟩
                have HL2 : Hid ((acc ++ [(a, b)]).length = n + 1) := Lib.hid (by rw [List.length_append, HN.out]; rfl)
                clear hown' hgr c0 c1
                go_wp2
                go_roundw
                case rel => exact ⟨j + 1, k + (t.size + 1), n + 1, acc ++ [(a, b)], by omega, by go_num, by go_num, by omega, HL2.out, by omega, by rw [HST.out, HLEN.out], HF.out.1, HF.out.2⟩
                case measure => simp [intOf]; omega
    · obtain rfl : j = m := by omega
      have HR : Hid (goP (PS.map strL) 0 [] = (acc, 0, -1)) := Lib.hid (by
        rw [HRUN.out, List.drop_of_length_le (by rw [List.length_map, ← HMN.out]; exact Nat.le_refl _)]; rfl)
      have hi1' : ¬ (j : Int) < (j : Int) := by omega
      clear hlt
      go_wp2
      go_ret2
      rw [HR0.out, HR.out]
      have HNN := HN.out
      subst HNN
      exact ⟨A, c, _, rfl, HLI.out, .inl ⟨rfl, rfl, rfl⟩, HBW.out⟩
end Go.Proofs.YtcjnhgcopdofhaaDoor
