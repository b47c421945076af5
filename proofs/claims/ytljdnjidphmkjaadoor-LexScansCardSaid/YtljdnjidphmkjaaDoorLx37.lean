/- LxRefScan, LxJoin, LxLawS: merged. -/
import Derived.Test.YtljdnjidphmkjaaDoorLx14
import Derived.Test.YtljdnjidphmkjaaDoorLx27
import Derived.Test.YtljdnjidphmkjaaDoorLx31
import Derived.Test.YtljdnjidphmkjaaDoorLx35
import Derived.Test.YtljdnjidphmkjaaDoorLx36
set_option linter.all false
namespace Go.Proofs.YtljdnjidphmkjaaDoor
open Go Go.RowKit
/-- What the reference's Scan hands back. -/
def RefScanTells (r : List TokM × Int × Int) (w : World) (e : Ending) (w' : World) : Prop :=
  ∃ A c, e = .returned (.tuple #[.slice A r.1.length c, .int .i64 r.2.1, .int .i64 r.2.2]) ∧ r.1.length ≤ c ∧ ToksAt w' A r.1 ∧ Below w.heap.size w w'
theorem drop_of_gap {l : List Int} (hg : gapM false l = 0) : l.drop (gapM false l) = l := by rw [hg, List.drop_zero]
theorem scan0_err {f p : Nat} {l : List Int} {acc : List TokM} {T : TokR} (hg : gapM false l = 0) (hT : tokL l = T) (h : T.err ≠ 0) : scanF (f + 1) l p acc = ([], T.err, ((p + T.off : Nat) : Int)) := by
  have hd := drop_of_gap hg
  rw [scanF_err (by rw [hd, hT]; exact h), hd, hT, hg]; rfl
theorem scan0_many {f p : Nat} {l : List Int} {acc : List TokM} {T : TokR} (hg : gapM false l = 0) (hne : l ≠ []) (hT : tokL l = T) (h : T.err = 0) (h3 : acc.length = 512) : scanF (f + 1) l p acc = ([], 53, (p : Int)) := by
  have hd := drop_of_gap hg
  rw [scanF_many (by rw [hd, hT]; exact h) (by rw [hd]; exact hne) h3, hg]; rfl
theorem scan0_go {f p : Nat} {l : List Int} {acc : List TokM} {T : TokR} (hg : gapM false l = 0) (hne : l ≠ []) (hT : tokL l = T) (h : T.err = 0) (h3 : acc.length ≠ 512) : scanF (f + 1) l p acc = scanF f (l.drop T.size) (p + T.size) (acc ++ [madeT T p]) := by
  have hd := drop_of_gap hg
  rw [scanF_go (by rw [hd, hT]; exact h) (by rw [hd]; exact hne) h3, hd, hT, hg, Nat.zero_add, Nat.add_zero]
theorem lead_digit {c : Int} {r : List Int} (h : 0 < leadL (c :: r)) : c = 45 ∨ (48 ≤ c ∧ c ≤ 57) := by
  rw [leadL] at h
  by_cases h45 : c = 45
  · exact .inl h45
  · rw [if_neg h45] at h
    by_cases h48 : c = 48
    · exact .inr (by omega)
    · rw [if_neg h48, runL] at h
      split at h
      · rename_i hd; exact .inr (isD_iff.1 hd)
      · exact absurd h (Nat.not_lt_zero _)
theorem sign_dash {c : Int} {r : List Int} (h : c = 45 ∨ (48 ≤ c ∧ c ≤ 57)) : signN (c :: r) = 0 := by
  have h1 : ¬ (c = 33 ∨ c = 60 ∨ c = 62) := by omega
  have h2 : oneC c = false := decide_eq_false (by omega)
  cases r with
  | nil => rw [signN, if_neg (by rw [h2]; decide)]
  | cons d q => rw [signN, if_neg (fun hq => h1 hq.2), if_neg (by rw [h2]; decide)]
theorem blank_cases (c : Int) : (blankC c = true ∧ (c = 32 ∨ c = 9 ∨ c = 10 ∨ c = 13)) ∨ (blankC c = false ∧ (c == 32) = false ∧ (c == 9) = false ∧ (c == 10) = false ∧ (c == 13) = false) := by
  by_cases h : c = 32 ∨ c = 9 ∨ c = 10 ∨ c = 13
  · exact .inl ⟨blankC_iff.2 h, h⟩
  · refine .inr ⟨blankC_false.2 h, ?_, ?_, ?_, ?_⟩ <;> (rw [beq_eq_false_iff_ne]; omega)
set_option maxRecDepth 100000 in
theorem refScan_long (s : ByteArray) (w : World) (h : 2048 < s.size) :
    Calls Tryd.prog 9 #[.string s] w (RefScanTells (scanL (strL s)) w) := by
  have HR : Hid (scanL (strL s) = ([], 2, -1)) := Lib.hid (by rw [scanL, if_pos (by rw [length_strL]; exact h)])
  have hf : (2048 : Int) < (s.size : Int) := by omega
  rw [HR.out]
  go_enter Tryd.func9, Tryd.ntmps9
  go_wp2
  go_ret3
  exact ⟨none, 0, rfl, Nat.le_refl _, ToksAt.nil _ _, Below.refl _ _⟩
set_option maxRecDepth 100000 in
set_option maxHeartbeats 16000000 in
theorem refScan_short (s : ByteArray) (w : World) (h : ¬ 2048 < s.size) :
    Calls Tryd.prog 9 #[.string s] w (RefScanTells (scanL (strL s)) w) := by
  obtain ⟨R, hR⟩ : ∃ R, R = scanL (strL s) := ⟨_, rfl⟩
  have HR0 : Hid (R = scanF (s.size + 1) (strL s) 0 []) := Lib.hid (by rw [hR, scanL, if_neg (by rw [length_strL]; exact h), length_strL])
  rw [← hR]
  have hf : ¬ (2048 : Int) < (s.size : Int) := by omega
  have hs2 : s.size ≤ 2048 := by omega
  have HL := Lib.hid (length_strL s)
  obtain ⟨i0, hi0, hz0, hz1, hz2⟩ := info_parts infoTok
  clear h hR
  go_enter Tryd.func9, Tryd.ntmps9
  go_wp2_with fail
  go_loopw [5, 6] (fun lv av wr => ∃ (p n f : Nat) (acc : List TokM), acc.length = n ∧ n ≤ 512 ∧ av = .int .i64 (p : Int) ∧ p ≤ s.size ∧ Hid (R = scanF f ((strL s).drop p) p acc ∧ ((strL s).drop p).length < f) ∧ wr.ownsRow w.heap.size 34 4 lv n (flatT acc) ∧ Below w.heap.size w wr) (fun _ av _ => s.size - (intOf av).toNat)
  case atStart => exact ⟨0, 0, s.size + 1, [], rfl, by omega, rfl, by omega, Lib.hid ⟨by rw [List.drop_zero]; exact HR0.out, by rw [List.drop_zero, length_strL]; omega⟩, World.ownsRow_nil _ _ _ _, Below.refl _ _⟩
  case round =>
    obtain ⟨p, n, f, acc, hn, hn5, rfl, hp, HRUN, hown, hbel⟩ := hrel
    obtain ⟨A, c', rfl, hnc, htoks⟩ := own_toks hown hn
    have HOW := Lib.hid hown
    have HBE := Lib.hid hbel
    have HN := Lib.hid hn
    clear hown hbel hn htoks
    obtain ⟨f', hf'⟩ : ∃ f', f = f' + 1 := ⟨f - 1, by have := HRUN.out.2; omega⟩
    rw [hf'] at HRUN
    clear hf'
    by_cases hlt : p < s.size
    case neg =>
      obtain rfl : p = s.size := by omega
      have hlt1 : ¬ (s.size : Int) < (s.size : Int) := by omega
      have HR : Hid (R = (acc ++ [endT s.size], 0, -1)) := Lib.hid (by
        have h0 : (strL s).drop s.size = [] := List.drop_eq_nil_of_le (by rw [HL.out]; exact Nat.le_refl _)
        rw [HRUN.out.1, h0, scanF_end (by simp)]
        rfl)
      clear HRUN
      go_wp2_with (at_builtin; refine wpList_append_own _ rfl _ _ 23 rfl w.heap.size 34 i0 (.agg #[.int .i64 0, .string ByteArray.empty, .int .i64 0, .int .i64 0]) 4 40 Tryd.underlying23 hi0 hz0 hz1 hz2 rfl (by decide) _ n _ rfl (HOW.out.alloc _) ⟨wr.heap.size, 0, none⟩ 1 1 [.int .i64 5, .string ⟨#[]⟩, .int .i64 0, .int .i64 (s.size : Int)] rfl rfl ?c1e ?c2e ?c3e ?c4e ?c5e ?_)
      try
        case c1e =>
          intro i u hi
          match i, hi with
          | 0, hi => simp at hi; subst hi; simp [Addr.add]
          | 1, hi => simp at hi; subst hi; simp [Addr.add]
          | 2, hi => simp at hi; subst hi; simp [Addr.add]
          | 3, hi => simp at hi; subst hi; simp [Addr.add]
      case c2e => first | (intro u hu; simp at hu; rcases hu with rfl | rfl | rfl | rfl <;> rfl) | simp [Value.oneCell']
      case c3e => unfold maxLen; omega
      case c4e => omega
      case c5e => have := HBE.out.size; simp; omega
      intro v' w5 hown' hgr5 _
      have HB5 := Lib.hid (show Below w.heap.size w w5 from (HBE.out.alloc HBE.out.size _).grown hgr5 (by have := HBE.out.size; simp; omega) (own_geB HOW.out (Nat.le_refl _)))
      obtain ⟨A', c2, rfl, hnc', htk⟩ := own_toks (ts := acc ++ [endT s.size]) (n := n + 1) (by rw [flatT_snoc]; exact hown') (by rw [List.length_append, HN.out]; rfl)
      have HTK' := Lib.hid htk
      clear htk hown' hgr5
      go_wp2_with fail
      go_ret3
      rw [HR.out]
      have hl : (acc ++ [endT s.size]).length = n + 1 := by rw [List.length_append, HN.out]; rfl
      exact ⟨A', c2, by rw [hl]; rfl, by rw [hl]; exact hnc', HTK'.out, HB5.out⟩
    case pos =>
    have hdr := drop_str s p hlt
    have hlt1 : (p : Int) < (s.size : Int) := by omega
    have hlt0 : (0 : Int) ≤ (p : Int) := by omega
    have hcb := byte_of s p hlt
    rcases blank_cases (s[p].toNat : Int) with ⟨hb, hc⟩ | ⟨hb, e1, e2, e3, e4⟩
    · have HNX : Hid (R = scanF (f' + 1) ((strL s).drop (p + 1)) (p + 1) acc ∧ ((strL s).drop (p + 1)).length < f' + 1) := Lib.hid ⟨by
        rw [HRUN.out.1, scanF_gap _ _ _ 1 _ (by rw [hdr, gapM_blank hb, List.drop_succ_cons, List.drop_zero]; omega), List.drop_drop], by
        have := HRUN.out.2
        rw [List.length_drop] at this ⊢; omega⟩
      clear hdr hb HRUN
      have hc4 : ((s[p].toNat : Int) == 32) = true ∨ ((s[p].toNat : Int) == 32) = false ∧ ((s[p].toNat : Int) == 9) = true ∨ ((s[p].toNat : Int) == 32) = false ∧ ((s[p].toNat : Int) == 9) = false ∧ ((s[p].toNat : Int) == 10) = true ∨ ((s[p].toNat : Int) == 32) = false ∧ ((s[p].toNat : Int) == 9) = false ∧ ((s[p].toNat : Int) == 10) = false ∧ ((s[p].toNat : Int) == 13) = true := by
        rcases hc with h | h | h | h
        · exact .inl (by rw [h]; rfl)
        · exact .inr (.inl (by rw [h]; exact ⟨rfl, rfl⟩))
        · exact .inr (.inr (.inl (by rw [h]; exact ⟨rfl, rfl, rfl⟩)))
        · exact .inr (.inr (.inr (by rw [h]; exact ⟨rfl, rfl, rfl, rfl⟩)))
      clear hc
      rcases hc4 with h1 | ⟨h1, h2⟩ | ⟨h1, h2, h3⟩ | ⟨h1, h2, h3, h4⟩
      all_goals
        go_wp2_with fail
        go_roundw
        case rel => exact ⟨p + 1, n, f' + 1, acc, HN.out, hn5, by go_num, by omega, HNX, HOW.out, HBE.out⟩
        case measure => simp [intOf]; omega
    · by_cases h35 : (s[p].toNat : Int) = 35
      · have e5 : ((s[p].toNat : Int) == 35) = true := by rw [h35]; rfl
        have hrl := remN_le ((strL s).drop p)
        rw [List.length_drop, HL.out] at hrl
        have hr1 : 1 ≤ remN ((strL s).drop p) := by rw [hdr, h35, remN, if_neg (by decide)]; omega
        have HNX : Hid (R = scanF (f' + 1) ((strL s).drop (p + remN ((strL s).drop p))) (p + remN ((strL s).drop p)) acc ∧ ((strL s).drop (p + remN ((strL s).drop p))).length < f' + 1) := Lib.hid ⟨by
          have h1 := gapM_remark ((strL s).drop (p + 1))
          rw [← h35, ← hdr] at h1
          rw [HRUN.out.1, scanF_gap _ _ _ _ _ h1, List.drop_drop], by
          have := HRUN.out.2
          rw [List.length_drop] at this ⊢; omega⟩
        obtain ⟨q, hq⟩ : ∃ q, q = p + remN ((strL s).drop p) := ⟨_, rfl⟩
        have HX10 : Hid (∀ k, p ≤ k → k < q → (strL s).getD k 0 ≠ 10) := Lib.hid fun k h1 h2 => by
          have := rem_ne ((strL s).drop p) (k - p) (by omega)
          rw [List.getD_eq_getElem?_getD, List.getElem?_drop, ← List.getD_eq_getElem?_getD, show p + (k - p) = k by omega] at this
          exact this
        have HQE : Hid (q = s.size ∨ q < s.size ∧ (strL s).getD q 0 = 10) := Lib.hid (by
          rcases rem_end ((strL s).drop p) with h | ⟨h1, h2⟩
          · left; rw [hq, h, List.length_drop, HL.out]; omega
          · right
            rw [List.length_drop, HL.out] at h1
            rw [List.getD_eq_getElem?_getD, List.getElem?_drop, ← List.getD_eq_getElem?_getD, ← hq] at h2
            exact ⟨by omega, h2⟩)
        rw [← hq] at HNX
        have hq1 : p < q := by omega
        have hq2 : q ≤ s.size := by omega
        clear hdr hb HRUN h35 hq hr1 hrl
        go_upto_block 2 with fail
        go_cut [6] from 45 to 56 (fun v wx => v = .int .i64 (q : Int) ∧ wx = wr)
        case first =>
          go_wp2_with fail
          go_loop [6] (fun v => ∃ E : Nat, p ≤ E ∧ E ≤ q ∧ v = .int .i64 (E : Int)) (fun v => q - (intOf v).toNat)
          case atStart => exact ⟨p, Nat.le_refl _, by omega, rfl⟩
          case round =>
            obtain ⟨E, hE1, hE2, rfl⟩ := hrel
            by_cases hEq : E < q
            · have hEs : (E : Int) < (s.size : Int) := by omega
              have hx := HX10.out E hE1 hEq
              have hg := strL_get s E (by omega)
              have hx2 : ¬ (s[E].toNat : Int) = 10 := by rw [← hg]; exact hx
              have x1 : ((s[E].toNat : Int) != 10) = true := by rw [bne_iff_ne]; exact hx2
              have x2 : ((s[E].toNat : Int) == 10) = false := by rw [beq_eq_false_iff_ne]; exact hx2
              clear hx hx2 hg
              go_wp2
              go_round
              case rel => exact ⟨E + 1, by omega, by omega, by go_num⟩
              case measure => simp [intOf]; omega
            · obtain rfl : E = q := by omega
              rcases HQE.out with h1 | ⟨h1, h2⟩
              · have hEs : ¬ (E : Int) < (s.size : Int) := by omega
                clear h1 hEq
                go_wp2
                go_meet
                exact ⟨rfl, rfl⟩
              · have hEs : (E : Int) < (s.size : Int) := by omega
                have hg := strL_get s E h1
                have x1 : ((s[E].toNat : Int) != 10) = false := by rw [← hg, h2]; rfl
                have x2 : ((s[E].toNat : Int) == 10) = true := by rw [← hg, h2]; rfl
                clear h2 hEq hg
                go_wp2
                go_meet
                exact ⟨rfl, rfl⟩
        case rest =>
          obtain ⟨rfl, hwc⟩ := hcut
          obtain rfl : wc = wr := hwc
          go_wp2_with fail
          go_roundw
          case rel => exact ⟨q, n, f' + 1, acc, HN.out, hn5, by go_num, by omega, HNX, HOW.out, HBE.out⟩
          case measure => simp [intOf]; omega
      · have e5 : ((s[p].toNat : Int) == 35) = false := by rw [beq_eq_false_iff_ne]; exact h35
        have hg0 : gapM false ((strL s).drop p) = 0 := by rw [hdr]; exact gapM_none hb h35
        have hne : (strL s).drop p ≠ [] := by rw [hdr]; simp
        have HER := Lib.hid (fun (T : TokR) hT h => HRUN.out.1.trans (scan0_err (T := T) hg0 hT h))
        have HMN := Lib.hid (fun (T : TokR) hT h h3 => HRUN.out.1.trans (scan0_many (T := T) hg0 hne hT h h3))
        have HGO := Lib.hid (fun (T : TokR) hT h h3 => HRUN.out.1.trans (scan0_go (T := T) hg0 hne hT h h3))
        have HLF := Lib.hid HRUN.out.2
        have HTC := Lib.hid (tokL_cons (s[p].toNat : Int) ((strL s).drop (p + 1)))
        rw [← hdr] at HTC
        obtain ⟨W1, hW1⟩ : ∃ W1, W1 = wr.alloc (.cells #[.int .i64 0, .string ⟨#[]⟩, .int .i64 0, .int .i64 (p : Int)] 34) := ⟨_, rfl⟩
        obtain ⟨g, hg⟩ : ∃ g, g = wr.heap.size := ⟨_, rfl⟩
        have HT1 : Hid (Blk W1 g 34 [.int .i64 0, .string ⟨#[]⟩, .int .i64 0, .int .i64 (p : Int)]) := Lib.hid (by rw [hW1, hg]; exact heap_alloc_new wr _)
        have HOW1 : Hid (W1.ownsRow w.heap.size 34 4 (.slice A n c') n (flatT acc)) := Lib.hid (by rw [hW1]; exact HOW.out.alloc _)
        have HB1 : Hid (Below w.heap.size w W1 ∧ w.heap.size ≤ g) := Lib.hid (by rw [hW1, hg]; exact ⟨HBE.out.alloc HBE.out.size _, HBE.out.size⟩)
        have HNG : Hid (∀ k, (Value.slice A n c').ownBlock = some k → k ≠ g) := Lib.hid fun k hk e => by have := (HOW.out.lt k hk).2; omega
        have HW1 := hW1.symm
        have HG1 := hg.symm
        clear hW1 hg hg0 hne HRUN HOW
        have HSM := Lib.hid (fun W : World => refSmall_any (s[p].toNat : Int) W)
        cases hsm : smallC (s[p].toNat : Int) with
        | true =>
          rw [hsm] at HSM HTC
          rw [if_pos rfl] at HTC
          have hwl := wordN_le ((strL s).drop p)
          rw [List.length_drop, HL.out] at hwl
          have hw1 : 1 ≤ wordN ((strL s).drop p) := by rw [hdr, wordN_go hsm]; omega
          obtain ⟨q, hq⟩ : ∃ q, q = p + wordN ((strL s).drop p) := ⟨_, rfl⟩
          have HX10 : Hid (∀ k, p ≤ k → k < q → smallC ((strL s).getD k 0) = true) := Lib.hid fun k h1 h2 => by
            have := wordN_small ((strL s).drop p) (k - p) (by omega)
            rw [List.getD_eq_getElem?_getD, List.getElem?_drop, ← List.getD_eq_getElem?_getD, show p + (k - p) = k by omega] at this
            exact this
          have HQE : Hid (q = s.size ∨ q < s.size ∧ smallC ((strL s).getD q 0) = false) := Lib.hid (by
            rcases word_end ((strL s).drop p) with h | ⟨h1, h2⟩
            · left; rw [hq, h, List.length_drop, HL.out]; omega
            · right
              rw [List.length_drop, HL.out] at h1
              rw [List.getD_eq_getElem?_getD, List.getElem?_drop, ← List.getD_eq_getElem?_getD, ← hq] at h2
              exact ⟨by omega, h2⟩)
          have HQ := Lib.hid hq
          have hq1 : p < q := by omega
          have hq2 : q ≤ s.size := by omega
          have HWD : Hid (wordN ((strL s).drop p) = q - p) := Lib.hid (by omega)
          have HEX : Hid (toS (((strL s).drop p).take (wordN ((strL s).drop p))) = s.extract p q) := Lib.hid (((eq_toS (((strL_bd s).drop p).take _)).2 (by rw [strL_extract, hq, List.drop_take, Nat.add_sub_cancel_left])).symm)
          obtain ⟨c0, c1, c2, c3⟩ := tok_cells HT1.out
          have f0 := Blk.frozen HT1.out 0
          clear hb hq hsm hdr hw1 hwl
          go_upto_block 5 with (go_at_call 22; refine (HSM.out _).mono ?_; rintro e w' ⟨rfl, rfl⟩)
          try rw [HW1]
          go_cut [6] from 80 to 91 (fun v wx => v = .int .i64 (q : Int) ∧ wx = W1)
          case first =>
            go_wp2_with fail
            go_loop [6] (fun v => ∃ E : Nat, p ≤ E ∧ E ≤ q ∧ v = .int .i64 (E : Int)) (fun v => q - (intOf v).toNat)
            case atStart => exact ⟨p, Nat.le_refl _, by omega, rfl⟩
            case round =>
              obtain ⟨E, hE1, hE2, rfl⟩ := hrel
              by_cases hEq : E < q
              · have hEs : (E : Int) < (s.size : Int) := by omega
                have hx := HX10.out E hE1 hEq
                have hg := strL_get s E (by omega)
                rw [hg] at hx
                have HSE := Lib.hid (fun W : World => refSmall_any (s[E].toNat : Int) W)
                rw [hx] at HSE
                clear hx hg
                go_wp2_with fail
                refine (HSE.out _).mono ?_
                rintro e w' ⟨rfl, rfl⟩
                go_wp2_with fail
                go_round
                case rel => exact ⟨E + 1, by omega, by omega, by go_num⟩
                case measure => simp [intOf]; omega
              · obtain rfl : E = q := by omega
                rcases HQE.out with h1 | ⟨h1, h2⟩
                · have hEs : ¬ (E : Int) < (s.size : Int) := by omega
                  clear h1 hEq
                  go_wp2_with fail
                  go_meet
                  exact ⟨rfl, rfl⟩
                · have hEs : (E : Int) < (s.size : Int) := by omega
                  have hg := strL_get s E h1
                  rw [hg] at h2
                  have HSE := Lib.hid (fun W : World => refSmall_any (s[E].toNat : Int) W)
                  rw [h2] at HSE
                  clear h2 hEq hg
                  go_wp2_with fail
                  refine (HSE.out _).mono ?_
                  rintro e w' ⟨rfl, rfl⟩
                  go_wp2_with fail
                  go_meet
                  exact ⟨rfl, rfl⟩
          case rest =>
            obtain ⟨rfl, hwc⟩ := hcut
            obtain rfl : wc = W1 := hwc
            by_cases h32 : 32 < q - p
            · have HTT : Hid (tokL ((strL s).drop p) = ⟨110, 0, 1, [], 0, 0⟩) := Lib.hid (by rw [HTC.out, if_pos (by rw [HWD.out]; exact h32)])
              have HR := Lib.hid (HER.out _ HTT.out (by intro h; cases h))
              have h32' : (32 : Int) < (q : Int) - (p : Int) := by omega
              clear h32
              go_wp2_with fail
              go_quiet (fail)
              go_wp2_with fail
              go_ret3
              rw [HR.out]
              exact ⟨none, 0, rfl, Nat.le_refl _, ToksAt.nil _ _, below_drewN HB1.out.1 _⟩
            · have HTT : Hid (tokL ((strL s).drop p) = ⟨0, 0, 1, ((strL s).drop p).take (wordN ((strL s).drop p)), 0, wordN ((strL s).drop p)⟩) := Lib.hid (by rw [HTC.out, if_neg (by rw [HWD.out]; exact h32)])
              have h32' : ¬ (32 : Int) < (q : Int) - (p : Int) := by omega
              have hpq : (p : Int) ≤ (q : Int) := by omega
              have hqs : (q : Int) ≤ (s.size : Int) := by omega
              clear h32 c0 c1 c2 c3 f0
              obtain ⟨X, hX⟩ : ∃ X, X = (wc.setCell ⟨g, 0, none⟩ (.int .i64 1)).setCell ⟨g, 1, none⟩ (.string (s.extract p q)) := ⟨_, rfl⟩
              have HTX : Hid (Blk X g 34 [.int .i64 1, .string (s.extract p q), .int .i64 0, .int .i64 (p : Int)]) := Lib.hid (by rw [hX]; exact Blk.setCell (Blk.setCell HT1.out 0 _) 1 _)
              have hgX : wc.grownBy X (some g) := by rw [hX]; exact (grownBy_setCell _ g 0 _).trans (grownBy_setCell _ g 1 _)
              have HOWX := Lib.hid (HOW1.out.kept hgX (.inr (fun e => HNG.out g e rfl)))
              have HBX : Hid (Below w.heap.size w X ∧ w.heap.size ≤ X.heap.size) := Lib.hid (by have h := HB1.out.1.grown hgX HB1.out.1.size (by intro k hk; injection hk with hk; have := HB1.out.2; omega); exact ⟨h, h.size⟩)
              have HX := hX.symm
              obtain ⟨c0, c1, c2, c3⟩ := tok_cells HT1.out
              have f0 := Blk.frozen HT1.out 0
              have f1 := Blk.frozen HT1.out 1
              have f2 := Blk.frozen HT1.out 2
              obtain ⟨z0, z1, z2, z3⟩ := tok_cells HTX.out
              clear hX hgX
              by_cases h512 : n = 512
              · have HR := Lib.hid (HMN.out _ HTT.out rfl (by rw [HN.out]; exact h512))
                have e6 : ((n : Int) == 512) = true := by rw [h512]; rfl
                clear h512
                go_wp2_with fail
                go_quiet (fail)
                go_wp2_with fail
                go_ret3
                rw [HR.out]
                exact ⟨none, 0, rfl, Nat.le_refl _, ToksAt.nil _ _, below_drewN HBX.out.1 _⟩
              · have HR := Lib.hid (HGO.out _ HTT.out rfl (by rw [HN.out]; exact h512))
                have e6 : ((n : Int) == 512) = false := by rw [beq_eq_false_iff_ne]; omega
                have hn511 : n ≤ 511 := by omega
                clear h512
                go_wp2_with (at_builtin; refine wpList_append_own _ rfl _ _ 23 rfl w.heap.size 34 i0 (.agg #[.int .i64 0, .string ByteArray.empty, .int .i64 0, .int .i64 0]) 4 40 Tryd.underlying23 hi0 hz0 hz1 hz2 rfl (by decide) _ n _ rfl (HOWX.out.alloc _) ⟨X.heap.size, 0, none⟩ 1 1 [.int .i64 1, .string (s.extract p q), .int .i64 0, .int .i64 (p : Int)] rfl rfl ?c1w ?c2w ?c3w ?c4w ?c5w ?_)
                try
                  case c1w =>
                    intro i u hi
                    match i, hi with
                    | 0, hi => simp at hi; subst hi; simp [Addr.add]
                    | 1, hi => simp at hi; subst hi; simp [Addr.add]
                    | 2, hi => simp at hi; subst hi; simp [Addr.add]
                    | 3, hi => simp at hi; subst hi; simp [Addr.add]
                case c2w => first | (intro u hu; simp at hu; rcases hu with rfl | rfl | rfl | rfl <;> rfl) | simp [Value.oneCell']
                case c3w => unfold maxLen; omega
                case c4w => omega
                case c5w => have := HBX.out.2; simp; omega
                intro v' w5 hown' hgr5 _
                have HF := Lib.hid (show w5.ownsRow w.heap.size 34 4 v' (n + 1) (flatT (acc ++ [madeT ⟨0, 0, 1, ((strL s).drop p).take (wordN ((strL s).drop p)), 0, wordN ((strL s).drop p)⟩ p])) from by rw [flatT_snoc]; show w5.ownsRow _ _ _ _ _ (flatT acc ++ [.int .i64 1, .string (toS (((strL s).drop p).take (wordN ((strL s).drop p)))), .int .i64 0, .int .i64 (p : Int)]); rw [HEX.out]; exact hown')
                have HB5 := Lib.hid ((HBX.out.1.alloc HBX.out.2 (.cells #[.int .i64 1, .string (s.extract p q), .int .i64 0, .int .i64 (p : Int)] 34)).grown hgr5 (by have := HBX.out.2; simp; omega) (own_geB HOWX.out (Nat.le_refl _)))
                clear hown' hgr5
                go_wp2_with fail
                go_roundw
                case rel =>
                  have hl : (acc ++ [madeT ⟨0, 0, 1, ((strL s).drop p).take (wordN ((strL s).drop p)), 0, wordN ((strL s).drop p)⟩ p]).length = n + 1 := by rw [List.length_append, HN.out]; rfl
                  refine ⟨q, n + 1, f', acc ++ [madeT ⟨0, 0, 1, ((strL s).drop p).take (wordN ((strL s).drop p)), 0, wordN ((strL s).drop p)⟩ p], hl, by omega, by go_num, by omega, Lib.hid ⟨?_, ?_⟩, HF.out, HB5.out⟩
                  · rw [HR.out, List.drop_drop]; rw [← HQ.out]
                  · have h1 := HLF.out
                    rw [List.length_drop, HL.out] at h1 ⊢
                    omega
                case measure => simp [intOf]; omega
        | false =>
          rw [hsm] at HSM HTC
          rw [if_neg (show ¬ (false = true) by decide)] at HTC
          have hsm2 := smallC_false.1 hsm
          clear hsm hb
          by_cases h34 : (s[p].toNat : Int) = 34
          · have e34 : ((s[p].toNat : Int) == 34) = true := by rw [h34]; rfl
            rw [if_pos h34] at HTC
            have HQU := Lib.hid (fun W : World => refQuoted_any s p W hlt (by omega))
            obtain ⟨Z, hZ⟩ : ∃ Z, Z = quotN ((strL s).drop (p + 1)) := ⟨_, rfl⟩
            have hzl := quotN_le ((strL s).drop (p + 1))
            rw [List.length_drop, HL.out] at hzl
            rw [← hZ] at HQU HTC hzl
            obtain ⟨q, hq⟩ : ∃ q, q = p + 1 + Z.2.1 := ⟨_, rfl⟩
            have hq2 : q ≤ s.size := by omega
            have hq1 : p < q := by omega
            have HQ := Lib.hid hq
            clear hZ hdr h34 hsm2
            cases hz : Z.2.2 with
            | false =>
              rw [hz, if_neg (show ¬ (false = true) by decide)] at HTC
              have HZ := Lib.hid (qr_no (Z := Z) (M := Z.1) (k := Z.2.1) (p := p) (x := (q : Int)) (by rw [← hz]) (by rw [hq]))
              rw [HZ.out] at HQU
              have HR := Lib.hid (HER.out _ HTC.out (by intro h; cases h))
              clear hz hq HZ
              obtain ⟨c0, c1, c2, c3⟩ := tok_cells HT1.out
              go_wp2_with (first | (go_at_call 22; refine (HSM.out _).mono ?_; rintro e w' ⟨rfl, rfl⟩) | fail)
              refine (HQU.out _).mono ?_
              rintro e w6 ⟨rfl, hb6⟩
              have HB6 := Lib.hid (HB1.out.1.trans (hb6.mono HB1.out.1.size))
              clear hb6
              go_wp2_with fail
              go_ret3
              rw [HR.out]
              refine ⟨none, 0, ?_, Nat.le_refl _, ToksAt.nil _ _, HB6.out⟩
              have := HQ.out
              rw [show p + (Z.2.1 + 1) = q by omega]; rfl
            | true =>
              rw [hz, if_pos rfl] at HTC
              have HZ := Lib.hid (qr_yes (Z := Z) (M := Z.1) (k := Z.2.1) (p := p) (x := (q : Int)) (by rw [← hz]) (by rw [hq]))
              rw [HZ.out] at HQU
              have HTT := HTC
              obtain ⟨U, hU⟩ : ∃ U, U = toS Z.1 := ⟨_, rfl⟩
              rw [← hU] at HQU
              have HU := Lib.hid hU
              clear hz hq HZ hU
              go_wp2_with (first | (go_at_call 22; refine (HSM.out _).mono ?_; rintro e w' ⟨rfl, rfl⟩) | fail)
              refine (HQU.out _).mono ?_
              rintro e w6 ⟨rfl, hb6⟩
              have HT6 := Lib.hid (HT1.out.below (show Below W1.heap.size W1 w6 from by first | exact hb6 | (rw [HW1] at hb6; exact hb6)) HT1.out.lt)
              have HOW6 := Lib.hid (HOW1.out.kept (row := none) (grownBy_of_below (show Below W1.heap.size W1 w6 from by first | exact hb6 | (rw [HW1] at hb6; exact hb6)) none) (Classical.em _))
              have HB6 := Lib.hid (HB1.out.1.trans ((show Below W1.heap.size W1 w6 from by first | exact hb6 | (rw [HW1] at hb6; exact hb6)).mono HB1.out.1.size))
              clear hb6
              obtain ⟨X, hX⟩ : ∃ X, X = (w6.setCell ⟨g, 0, none⟩ (.int .i64 2)).setCell ⟨g, 1, none⟩ (.string U) := ⟨_, rfl⟩
              have HTX : Hid (Blk X g 34 [.int .i64 2, .string U, .int .i64 0, .int .i64 (p : Int)]) := Lib.hid (by rw [hX]; exact Blk.setCell (Blk.setCell HT6.out 0 _) 1 _)
              have hgX : w6.grownBy X (some g) := by rw [hX]; exact (grownBy_setCell _ g 0 _).trans (grownBy_setCell _ g 1 _)
              have HOWX := Lib.hid (HOW6.out.kept hgX (.inr (fun e => HNG.out g e rfl)))
              have HBX : Hid (Below w.heap.size w X ∧ w.heap.size ≤ X.heap.size) := Lib.hid (by have h := HB6.out.grown hgX HB6.out.size (by intro k hk; injection hk with hk; have := HB1.out.2; omega); exact ⟨h, h.size⟩)
              have HX := hX.symm
              obtain ⟨c0, c1, c2, c3⟩ := tok_cells HT6.out
              have f0 := Blk.frozen HT6.out 0
              have f1 := Blk.frozen HT6.out 1
              have f2 := Blk.frozen HT6.out 2
              obtain ⟨z0, z1, z2, z3⟩ := tok_cells HTX.out
              clear hX hgX
              by_cases h512 : n = 512
              · have HR := Lib.hid (HMN.out _ HTT.out rfl (by rw [HN.out]; exact h512))
                have e6 : ((n : Int) == 512) = true := by rw [h512]; rfl
                clear h512
                go_wp2_with fail
                go_quiet (fail)
                go_wp2_with fail
                go_ret3
                rw [HR.out]
                exact ⟨none, 0, rfl, Nat.le_refl _, ToksAt.nil _ _, below_drewN HBX.out.1 _⟩
              · have HR := Lib.hid (HGO.out _ HTT.out rfl (by rw [HN.out]; exact h512))
                have e6 : ((n : Int) == 512) = false := by rw [beq_eq_false_iff_ne]; omega
                have hn511 : n ≤ 511 := by omega
                clear h512
                go_wp2_with (at_builtin; refine wpList_append_own _ rfl _ _ 23 rfl w.heap.size 34 i0 (.agg #[.int .i64 0, .string ByteArray.empty, .int .i64 0, .int .i64 0]) 4 40 Tryd.underlying23 hi0 hz0 hz1 hz2 rfl (by decide) _ n _ rfl (HOWX.out.alloc _) ⟨X.heap.size, 0, none⟩ 1 1 [.int .i64 2, .string U, .int .i64 0, .int .i64 (p : Int)] rfl rfl ?c1q ?c2q ?c3q ?c4q ?c5q ?_)
                try
                  case c1q =>
                    intro i u hi
                    match i, hi with
                    | 0, hi => simp at hi; subst hi; simp [Addr.add]
                    | 1, hi => simp at hi; subst hi; simp [Addr.add]
                    | 2, hi => simp at hi; subst hi; simp [Addr.add]
                    | 3, hi => simp at hi; subst hi; simp [Addr.add]
                case c2q => first | (intro u hu; simp at hu; rcases hu with rfl | rfl | rfl | rfl <;> rfl) | simp [Value.oneCell']
                case c3q => unfold maxLen; omega
                case c4q => omega
                case c5q => have := HBX.out.2; simp; omega
                intro v' w5 hown' hgr5 _
                have HF := Lib.hid (show w5.ownsRow w.heap.size 34 4 v' (n + 1) (flatT (acc ++ [madeT ⟨0, 0, 2, Z.1, 0, Z.2.1 + 1⟩ p])) from by rw [flatT_snoc]; show w5.ownsRow _ _ _ _ _ (flatT acc ++ [.int .i64 2, .string (toS Z.1), .int .i64 0, .int .i64 (p : Int)]); rw [← HU.out]; exact hown')
                have HB5 := Lib.hid ((HBX.out.1.alloc HBX.out.2 (.cells #[.int .i64 2, .string U, .int .i64 0, .int .i64 (p : Int)] 34)).grown hgr5 (by have := HBX.out.2; simp; omega) (own_geB HOWX.out (Nat.le_refl _)))
                clear hown' hgr5
                go_wp2_with fail
                go_roundw
                case rel =>
                  have hl : (acc ++ [madeT ⟨0, 0, 2, Z.1, 0, Z.2.1 + 1⟩ p]).length = n + 1 := by rw [List.length_append, HN.out]; rfl
                  refine ⟨q, n + 1, f', acc ++ [madeT ⟨0, 0, 2, Z.1, 0, Z.2.1 + 1⟩ p], hl, by omega, by go_num, by omega, Lib.hid ⟨?_, ?_⟩, HF.out, HB5.out⟩
                  · rw [HR.out, List.drop_drop]; rw [show p + (Z.2.1 + 1) = q by have := HQ.out; omega]
                  · have h1 := HLF.out
                    rw [List.length_drop, HL.out] at h1 ⊢
                    omega
                case measure => simp [intOf]; omega
          · have e34 : ((s[p].toNat : Int) == 34) = false := by rw [beq_eq_false_iff_ne]; exact h34
            rw [if_neg h34] at HTC
            have hex : strL (s.extract p s.size) = (strL s).drop p := by rw [strL_extract, List.take_of_length_le (by rw [HL.out]; exact Nat.le_refl _)]
            by_cases hD : (s[p].toNat : Int) = 45 ∨ (48 ≤ (s[p].toNat : Int) ∧ (s[p].toNat : Int) ≤ 57)
            · have hsg := sign_dash (r := (strL s).drop (p + 1)) hD
              rw [← hdr] at hsg
              rw [hsg, if_neg (show ¬ 0 < 0 by decide)] at HTC
              have HLD := Lib.hid (fun W : World => refLead_any (s.extract p s.size) W (by rw [ByteArray.size_extract]; omega))
              rw [hex] at HLD
              have hll := leadL_le ((strL s).drop p)
              rw [List.length_drop, HL.out] at hll
              have HFM := Lib.hid (fun h => form_lead_take (l := (strL s).drop p) h)
              have HRD := Lib.hid (fun W : World => refRead_anyN (s.extract p (p + leadL ((strL s).drop p))) (-9007199254740991) 9007199254740991 W (by rw [ByteArray.size_extract]; omega) (by decide) (by decide))
              unfold readsL at HRD
              have hex2 : strL (s.extract p (p + leadL ((strL s).drop p))) = ((strL s).drop p).take (leadL ((strL s).drop p)) := by rw [strL_extract, List.drop_take, Nat.add_sub_cancel_left]
              rw [hex2] at HRD
              obtain ⟨m, hm⟩ : ∃ m, m = leadL ((strL s).drop p) := ⟨_, rfl⟩
              rw [← hm] at HLD HRD HFM HTC hll
              have HDC := Lib.hid hD
              clear hsm2 hdr h34 hex hex2 hsg hm hD
              go_upto_region 33 with (first | (go_at_call 22; refine (HSM.out _).mono ?_; rintro e w' ⟨rfl, rfl⟩) | fail)
              try rw [HW1]
              go_cut [123] from 124 to 133 (fun v wx => v = .bool true ∧ wx = W1)
              case first =>
                have key : ((s[p].toNat : Int) == 45) = true ∨ ((s[p].toNat : Int) == 45) = false ∧ 48 ≤ (s[p].toNat : Int) ∧ (s[p].toNat : Int) ≤ 57 := by
                  by_cases h : (s[p].toNat : Int) = 45
                  · exact .inl (by rw [h]; rfl)
                  · rcases HDC.out with h2 | h2
                    · exact absurd h2 h
                    · exact .inr ⟨by rw [beq_eq_false_iff_ne]; exact h, h2⟩
                rcases key with d1 | ⟨d1, d2, d3⟩
                · go_wp2_with fail
                  go_meet
                  exact ⟨rfl, rfl⟩
                · go_wp2_with fail
                  go_meet
                  exact ⟨rfl, rfl⟩
              case rest =>
                obtain ⟨rfl, hwc⟩ := hcut
                obtain rfl : wc = W1 := hwc
                by_cases hm0 : m = 0
                · subst hm0
                  rw [if_neg (show ¬ 0 < 0 by decide)] at HTC
                  have HR := Lib.hid (HER.out _ HTC.out (by intro h; cases h))
                  clear HRD HFM
                  go_wp2_with fail
                  refine (HLD.out _).mono ?_
                  rintro e w6 ⟨rfl, rfl⟩
                  go_wp2_with fail
                  go_ret3
                  rw [HR.out]
                  exact ⟨none, 0, rfl, Nat.le_refl _, ToksAt.nil _ _, HB1.out.1⟩
                · rw [if_pos (show 0 < m by omega)] at HTC
                  have hmb : ((m : Int) == 0) = false := by rw [beq_eq_false_iff_ne]; omega
                  have hmf := HFM.out hm0
                  rw [if_pos hmf] at HRD
                  have hpm : (p : Int) + (m : Int) ≤ (s.size : Int) := by omega
                  have hm1 : 1 ≤ m := by omega
                  obtain ⟨q, hq⟩ : ∃ q, q = p + m := ⟨_, rfl⟩
                  have hq1 : p < q := by omega
                  have hq2 : q ≤ s.size := by omega
                  have HQ := Lib.hid hq
                  clear hm0 HFM hmf hq
                  cases hfit : fitL (((strL s).drop p).take m) (-9007199254740991) 9007199254740991 with
                  | false =>
                    rw [hfit, if_neg (show ¬ (false = true) by decide)] at HTC HRD
                    have HR := Lib.hid (HER.out _ HTC.out (by intro h; cases h))
                    clear hfit
                    go_wp2_with fail
                    refine (HLD.out _).mono ?_
                    rintro e w6 ⟨rfl, rfl⟩
                    go_wp2_with fail
                    refine (HRD.out _).mono ?_
                    rintro e w6 ⟨rfl, rfl⟩
                    go_wp2_with fail
                    go_ret3
                    rw [HR.out]
                    exact ⟨none, 0, rfl, Nat.le_refl _, ToksAt.nil _ _, HB1.out.1⟩
                  | true =>
                    rw [hfit, if_pos rfl] at HTC HRD
                    have HTT := HTC
                    obtain ⟨N, hN⟩ : ∃ N, N = numL (((strL s).drop p).take m) := ⟨_, rfl⟩
                    rw [← hN] at HRD
                    have HNN := Lib.hid hN
                    clear hfit hN
                    go_wp2_with fail
                    refine (HLD.out _).mono ?_
                    rintro e w6 ⟨rfl, rfl⟩
                    go_wp2_with fail
                    refine (HRD.out _).mono ?_
                    rintro e w6 ⟨rfl, rfl⟩
                    obtain ⟨X, hX⟩ : ∃ X, X = (wc.setCell ⟨g, 0, none⟩ (.int .i64 3)).setCell ⟨g, 2, none⟩ (.int .i64 N) := ⟨_, rfl⟩
                    have HTX : Hid (Blk X g 34 [.int .i64 3, .string ⟨#[]⟩, .int .i64 N, .int .i64 (p : Int)]) := Lib.hid (by rw [hX]; exact Blk.setCell (Blk.setCell HT1.out 0 _) 2 _)
                    have hgX : wc.grownBy X (some g) := by rw [hX]; exact (grownBy_setCell _ g 0 _).trans (grownBy_setCell _ g 2 _)
                    have HOWX := Lib.hid (HOW1.out.kept hgX (.inr (fun e => HNG.out g e rfl)))
                    have HBX : Hid (Below w.heap.size w X ∧ w.heap.size ≤ X.heap.size) := Lib.hid (by have h := HB1.out.1.grown hgX HB1.out.1.size (by intro k hk; injection hk with hk; have := HB1.out.2; omega); exact ⟨h, h.size⟩)
                    have HX := hX.symm
                    obtain ⟨c0, c1, c2, c3⟩ := tok_cells HT1.out
                    have f0 := Blk.frozen HT1.out 0
                    have f1 := Blk.frozen HT1.out 1
                    have f2 := Blk.frozen HT1.out 2
                    obtain ⟨z0, z1, z2, z3⟩ := tok_cells HTX.out
                    clear hX hgX
                    by_cases h512 : n = 512
                    · have HR := Lib.hid (HMN.out _ HTT.out rfl (by rw [HN.out]; exact h512))
                      have e6 : ((n : Int) == 512) = true := by rw [h512]; rfl
                      clear h512
                      go_wp2_with fail
                      go_quiet (fail)
                      go_wp2_with fail
                      go_ret3
                      rw [HR.out]
                      exact ⟨none, 0, rfl, Nat.le_refl _, ToksAt.nil _ _, below_drewN HBX.out.1 _⟩
                    · have HR := Lib.hid (HGO.out _ HTT.out rfl (by rw [HN.out]; exact h512))
                      have e6 : ((n : Int) == 512) = false := by rw [beq_eq_false_iff_ne]; omega
                      have hn511 : n ≤ 511 := by omega
                      clear h512
                      go_wp2_with (at_builtin; refine wpList_append_own _ rfl _ _ 23 rfl w.heap.size 34 i0 (.agg #[.int .i64 0, .string ByteArray.empty, .int .i64 0, .int .i64 0]) 4 40 Tryd.underlying23 hi0 hz0 hz1 hz2 rfl (by decide) _ n _ rfl (HOWX.out.alloc _) ⟨X.heap.size, 0, none⟩ 1 1 [.int .i64 3, .string ⟨#[]⟩, .int .i64 N, .int .i64 (p : Int)] rfl rfl ?c1n ?c2n ?c3n ?c4n ?c5n ?_)
                      try
                        case c1n =>
                          intro i u hi
                          match i, hi with
                          | 0, hi => simp at hi; subst hi; simp [Addr.add]
                          | 1, hi => simp at hi; subst hi; simp [Addr.add]
                          | 2, hi => simp at hi; subst hi; simp [Addr.add]
                          | 3, hi => simp at hi; subst hi; simp [Addr.add]
                      case c2n => first | (intro u hu; simp at hu; rcases hu with rfl | rfl | rfl | rfl <;> rfl) | simp [Value.oneCell']
                      case c3n => unfold maxLen; omega
                      case c4n => omega
                      case c5n => have := HBX.out.2; simp; omega
                      intro v' w5 hown' hgr5 _
                      have HF := Lib.hid (show w5.ownsRow w.heap.size 34 4 v' (n + 1) (flatT (acc ++ [madeT ⟨0, 0, 3, [], numL (((strL s).drop p).take m), m⟩ p])) from by rw [flatT_snoc]; show w5.ownsRow _ _ _ _ _ (flatT acc ++ [.int .i64 3, .string ⟨#[]⟩, .int .i64 (numL (((strL s).drop p).take m)), .int .i64 (p : Int)]); rw [← HNN.out]; exact hown')
                      have HB5 := Lib.hid ((HBX.out.1.alloc HBX.out.2 (.cells #[.int .i64 3, .string ⟨#[]⟩, .int .i64 N, .int .i64 (p : Int)] 34)).grown hgr5 (by have := HBX.out.2; simp; omega) (own_geB HOWX.out (Nat.le_refl _)))
                      clear hown' hgr5
                      go_wp2_with fail
                      go_roundw
                      case rel =>
                        have hl : (acc ++ [madeT ⟨0, 0, 3, [], numL (((strL s).drop p).take m), m⟩ p]).length = n + 1 := by rw [List.length_append, HN.out]; rfl
                        refine ⟨p + m, n + 1, f', acc ++ [madeT ⟨0, 0, 3, [], numL (((strL s).drop p).take m), m⟩ p], hl, by omega, by go_num, by omega, Lib.hid ⟨?_, ?_⟩, HF.out, HB5.out⟩
                        · rw [HR.out, List.drop_drop]; skip
                        · have h1 := HLF.out
                          rw [List.length_drop, HL.out] at h1 ⊢
                          omega
                      case measure => simp [intOf]; omega
            · have hld : leadL ((strL s).drop p) = 0 := by
                rcases Nat.eq_zero_or_pos (leadL ((strL s).drop p)) with h | h
                · exact h
                · rw [hdr] at h; exact absurd (lead_digit h) hD
              rw [hld, if_neg (show ¬ 0 < 0 by decide)] at HTC
              have HSG := Lib.hid (fun W : World => refSign_any (s.extract p s.size) W (by rw [ByteArray.size_extract]; omega))
              rw [hex] at HSG
              have hll := (signN_le ((strL s).drop p)).1
              rw [List.length_drop, HL.out] at hll
              have HEX : Hid (toS (((strL s).drop p).take (signN ((strL s).drop p))) = s.extract p (p + signN ((strL s).drop p))) := Lib.hid (((eq_toS (((strL_bd s).drop p).take _)).2 (by rw [strL_extract, List.drop_take, Nat.add_sub_cancel_left])).symm)
              have key : ((s[p].toNat : Int) == 45) = false ∧ (¬ 48 ≤ (s[p].toNat : Int) ∨ 48 ≤ (s[p].toNat : Int) ∧ ¬ (s[p].toNat : Int) ≤ 57) := ⟨by rw [beq_eq_false_iff_ne]; exact fun h => hD (.inl h), by omega⟩
              obtain ⟨m, hm⟩ : ∃ m, m = signN ((strL s).drop p) := ⟨_, rfl⟩
              rw [← hm] at HSG HTC hll HEX
              clear hsm2 hdr h34 hex hm hD hld
              go_upto_region 33 with (first | (go_at_call 22; refine (HSM.out _).mono ?_; rintro e w' ⟨rfl, rfl⟩) | fail)
              try rw [HW1]
              go_cut [123] from 124 to 133 (fun v wx => v = .bool false ∧ wx = W1)
              case first =>
                rcases key with ⟨d1, d2 | ⟨d2, d3⟩⟩
                · go_wp2_with fail
                  go_meet
                  exact ⟨rfl, rfl⟩
                · go_wp2_with fail
                  go_meet
                  exact ⟨congrArg Value.bool (decide_eq_false (by omega)), rfl⟩
              case rest =>
                obtain ⟨rfl, hwc⟩ := hcut
                obtain rfl : wc = W1 := hwc
                by_cases hm0 : m = 0
                · subst hm0
                  rw [if_neg (show ¬ 0 < 0 by decide)] at HTC
                  have HR := Lib.hid (HER.out _ HTC.out (by intro h; cases h))
                  clear key
                  go_wp2_with fail
                  refine (HSG.out _).mono ?_
                  rintro e w6 ⟨rfl, hb6⟩
                  have HB6 := Lib.hid (HB1.out.1.trans (hb6.mono HB1.out.1.size))
                  clear hb6
                  go_wp2_with fail
                  go_ret3
                  rw [HR.out]
                  exact ⟨none, 0, rfl, Nat.le_refl _, ToksAt.nil _ _, HB6.out⟩
                · rw [if_pos (show 0 < m by omega)] at HTC
                  have HTT := HTC
                  have hmb : ((m : Int) == 0) = false := by rw [beq_eq_false_iff_ne]; omega
                  have hpm : (p : Int) + (m : Int) ≤ (s.size : Int) := by omega
                  have hm1 : 1 ≤ m := by omega
                  obtain ⟨q, hq⟩ : ∃ q, q = p + m := ⟨_, rfl⟩
                  have hq1 : p < q := by omega
                  have hq2 : q ≤ s.size := by omega
                  have HQ := Lib.hid hq
                  clear hm0 hq key
                  go_wp2_with fail
                  refine (HSG.out _).mono ?_
                  rintro e w6 ⟨rfl, hb6⟩
                  have HT6 := Lib.hid (HT1.out.below hb6 HT1.out.lt)
                  have HOW6 := Lib.hid (HOW1.out.kept (row := none) (grownBy_of_below hb6 none) (Classical.em _))
                  have HB6 := Lib.hid (HB1.out.1.trans (hb6.mono HB1.out.1.size))
                  clear hb6
                  obtain ⟨X, hX⟩ : ∃ X, X = (w6.setCell ⟨g, 0, none⟩ (.int .i64 4)).setCell ⟨g, 1, none⟩ (.string (s.extract p (p + m))) := ⟨_, rfl⟩
                  have HTX : Hid (Blk X g 34 [.int .i64 4, .string (s.extract p (p + m)), .int .i64 0, .int .i64 (p : Int)]) := Lib.hid (by rw [hX]; exact Blk.setCell (Blk.setCell HT6.out 0 _) 1 _)
                  have hgX : w6.grownBy X (some g) := by rw [hX]; exact (grownBy_setCell _ g 0 _).trans (grownBy_setCell _ g 1 _)
                  have HOWX := Lib.hid (HOW6.out.kept hgX (.inr (fun e => HNG.out g e rfl)))
                  have HBX : Hid (Below w.heap.size w X ∧ w.heap.size ≤ X.heap.size) := Lib.hid (by have h := HB6.out.grown hgX HB6.out.size (by intro k hk; injection hk with hk; have := HB1.out.2; omega); exact ⟨h, h.size⟩)
                  have HX := hX.symm
                  obtain ⟨c0, c1, c2, c3⟩ := tok_cells HT6.out
                  have f0 := Blk.frozen HT6.out 0
                  have f1 := Blk.frozen HT6.out 1
                  have f2 := Blk.frozen HT6.out 2
                  obtain ⟨z0, z1, z2, z3⟩ := tok_cells HTX.out
                  clear hX hgX
                  by_cases h512 : n = 512
                  · have HR := Lib.hid (HMN.out _ HTT.out rfl (by rw [HN.out]; exact h512))
                    have e6 : ((n : Int) == 512) = true := by rw [h512]; rfl
                    clear h512
                    go_wp2_with fail
                    go_quiet (fail)
                    go_wp2_with fail
                    go_ret3
                    rw [HR.out]
                    exact ⟨none, 0, rfl, Nat.le_refl _, ToksAt.nil _ _, below_drewN HBX.out.1 _⟩
                  · have HR := Lib.hid (HGO.out _ HTT.out rfl (by rw [HN.out]; exact h512))
                    have e6 : ((n : Int) == 512) = false := by rw [beq_eq_false_iff_ne]; omega
                    have hn511 : n ≤ 511 := by omega
                    clear h512
                    go_wp2_with (at_builtin; refine wpList_append_own _ rfl _ _ 23 rfl w.heap.size 34 i0 (.agg #[.int .i64 0, .string ByteArray.empty, .int .i64 0, .int .i64 0]) 4 40 Tryd.underlying23 hi0 hz0 hz1 hz2 rfl (by decide) _ n _ rfl (HOWX.out.alloc _) ⟨X.heap.size, 0, none⟩ 1 1 [.int .i64 4, .string (s.extract p (p + m)), .int .i64 0, .int .i64 (p : Int)] rfl rfl ?c1s ?c2s ?c3s ?c4s ?c5s ?_)
                    try
                      case c1s =>
                        intro i u hi
                        match i, hi with
                        | 0, hi => simp at hi; subst hi; simp [Addr.add]
                        | 1, hi => simp at hi; subst hi; simp [Addr.add]
                        | 2, hi => simp at hi; subst hi; simp [Addr.add]
                        | 3, hi => simp at hi; subst hi; simp [Addr.add]
                    case c2s => first | (intro u hu; simp at hu; rcases hu with rfl | rfl | rfl | rfl <;> rfl) | simp [Value.oneCell']
                    case c3s => unfold maxLen; omega
                    case c4s => omega
                    case c5s => have := HBX.out.2; simp; omega
                    intro v' w5 hown' hgr5 _
                    have HF := Lib.hid (show w5.ownsRow w.heap.size 34 4 v' (n + 1) (flatT (acc ++ [madeT ⟨0, 0, 4, ((strL s).drop p).take m, 0, m⟩ p])) from by rw [flatT_snoc]; show w5.ownsRow _ _ _ _ _ (flatT acc ++ [.int .i64 4, .string (toS (((strL s).drop p).take m)), .int .i64 0, .int .i64 (p : Int)]); rw [HEX.out]; exact hown')
                    have HB5 := Lib.hid ((HBX.out.1.alloc HBX.out.2 (.cells #[.int .i64 4, .string (s.extract p (p + m)), .int .i64 0, .int .i64 (p : Int)] 34)).grown hgr5 (by have := HBX.out.2; simp; omega) (own_geB HOWX.out (Nat.le_refl _)))
                    clear hown' hgr5
                    go_wp2_with fail
                    go_roundw
                    case rel =>
                      have hl : (acc ++ [madeT ⟨0, 0, 4, ((strL s).drop p).take m, 0, m⟩ p]).length = n + 1 := by rw [List.length_append, HN.out]; rfl
                      refine ⟨p + m, n + 1, f', acc ++ [madeT ⟨0, 0, 4, ((strL s).drop p).take m, 0, m⟩ p], hl, by omega, by go_num, by omega, Lib.hid ⟨?_, ?_⟩, HF.out, HB5.out⟩
                      · rw [HR.out, List.drop_drop]; skip
                      · have h1 := HLF.out
                        rw [List.length_drop, HL.out] at h1 ⊢
                        omega
                    case measure => simp [intOf]; omega
theorem refScanX_any (s : ByteArray) (w : World) : Calls Tryd.prog 9 #[.string s] w (RefScanTells (scanL (strL s)) w) := by
  by_cases h : 2048 < s.size
  · exact refScan_long s w h
  · exact refScan_short s w h
end Go.Proofs.YtljdnjidphmkjaaDoor
namespace Go.Proofs.YtljdnjidphmkjaaDoor
open Go Go.RowKit
/-! ### The reference's Join -/
/-! ### Same -/
set_option maxRecDepth 100000 in
set_option maxHeartbeats 4000000 in
theorem refSameT_any (ts : List TokM) (A B : Option Addr) (n c c2 : Nat) (w : World) (hn : ts.length = n) (hn9 : n ≤ 1000000) (ha : ToksAt w A ts) (hb : ToksAt w B ts) :
    Calls Tryd.prog 12 #[.slice A n c, .slice B n c2] w fun e w' => e = .returned (.bool true) ∧ Below w.heap.size w w' := by
  have HA := Lib.hid ha
  have HB := Lib.hid hb
  have HN := Lib.hid hn
  clear ha hb hn
  go_enter Tryd.func12, Tryd.ntmps12
  go_wp2
  go_loopw [5] (fun v5 wr => ∃ i : Nat, v5 = .int .i64 (i : Int) ∧ i ≤ n ∧ Below w.heap.size w wr) (fun v5 _ => n - (intOf v5).toNat)
  case atStart => exact ⟨0, rfl, Nat.zero_le _, Below.refl _ _⟩
  case round =>
    obtain ⟨i, rfl, hi, hbel⟩ := hrel
    have HBE := Lib.hid hbel
    clear hbel
    by_cases hlt : i < n
    · have hkl : i < ts.length := by rw [HN.out]; exact hlt
      obtain ⟨b, o, rfl, _, x0, x1, x2, x3⟩ := (HA.out.below HBE.out).at hkl
      obtain ⟨b2, o2, rfl, _, y0, y1, y2, y3⟩ := (HB.out.below HBE.out).at hkl
      obtain ⟨y, hy⟩ : ∃ y, y = ts[i] := ⟨_, rfl⟩
      rw [← hy] at x0 x1 x2 x3 y0 y1 y2 y3
      obtain ⟨q1, q2, q3, q4⟩ := y
      clear hy hkl
      have i0 : (0 : Int) ≤ (i : Int) := by omega
      have i1 : (i : Int) < (n : Int) := by omega
      go_wp2_with fail
      go_quiet (fail)
      go_wp2
      go_roundw
      case rel => exact ⟨i + 1, by go_num, by omega, below_drewN HBE.out _⟩
      case measure => simp [intOf]; omega
    · obtain rfl : i = n := by omega
      have hi1 : ¬ (i : Int) < (i : Int) := by omega
      go_wp2
      go_ret
      exact ⟨rfl, HBE.out⟩
end Go.Proofs.YtljdnjidphmkjaaDoor
namespace Go.Proofs.YtljdnjidphmkjaaDoor
open Go Go.RowKit
set_option maxRecDepth 100000 in
set_option maxHeartbeats 8000000 in
theorem lexScans_any (s : ByteArray) (w : World) (hg : ErrTab w) (h : Ask11 w) (hs : s.size ≤ 9223372036854775807) :
    Calls Tryd.prog 3 #[.string s] w fun e w' => e = .returned (.bool true) ∧ Below w.heap.size w w' := by
  have HG := Lib.hid hg
  have HA := Lib.hid h
  have HAL := Lib.hid (alive11_any w h.marks h.max)
  clear hg h
  by_cases hl : 3000 < s.size
  · have hl2 : (3000 : Int) < (s.size : Int) := by omega
    go_enter Tryd.func3, Tryd.ntmps3
    go_wp2_with fail
    refine HAL.out.mono ?_
    rintro e w1 ⟨rfl, hb1⟩
    have HB1 := Lib.hid hb1
    clear hb1
    go_wp2_with fail
    go_ret
    exact ⟨rfl, HB1.out⟩
  · have hl2 : ¬ (3000 : Int) < (s.size : Int) := by omega
    have HSC := Lib.hid (fun (W : World) (hW : Ask11 W) => scan_any s W hW)
    have HRS := Lib.hid (fun W : World => refScanX_any s W)
    have hln := scanL_len (strL s)
    obtain ⟨R, hR⟩ : ∃ R, R = scanL (strL s) := ⟨_, rfl⟩
    rw [← hR] at HSC HRS hln
    obtain ⟨ts, n, pos⟩ := R
    clear hR hl
    go_enter Tryd.func3, Tryd.ntmps3
    go_wp2_with fail
    refine HAL.out.mono ?_
    rintro e w1 ⟨rfl, hb1⟩
    have HB1 := Lib.hid hb1
    clear hb1
    go_wp2_with fail
    refine (HSC.out w1 (HA.out.below HB1.out)).mono ?_
    rintro e w2 ⟨A, c, v, rfl, hc, ht, he, hb2⟩
    have HB2 := Lib.hid (HB1.out.trans (hb2.mono HB1.out.size))
    have HT2 := Lib.hid ht
    simp only at hc he hln
    clear hb2 ht
    go_wp2_with fail
    refine (HRS.out w2).mono ?_
    rintro e w3 ⟨B, c2, rfl, hc2, ht2, hb3⟩
    have HB3 := Lib.hid (HB2.out.trans (hb3.mono HB2.out.size))
    have HT3 := Lib.hid (HT2.out.below hb3)
    have HU3 := Lib.hid ht2
    have HB23 := Lib.hid hb3
    simp only at hc2
    clear hb3 ht2
    rcases he with ⟨rfl, rfl, rfl⟩ | ⟨hn, rfl, rfl⟩ | ⟨hn, hp, hat⟩
    · have HN := Lib.hid (num_nil w3)
      have HP := Lib.hid (fun W : World => pos_nil W)
      go_wp2_with fail
      refine HN.out.mono ?_
      rintro e w4 ⟨rfl, rfl⟩
      go_wp2_with fail
      refine (HP.out _).mono ?_
      rintro e w5 ⟨rfl, hb5⟩
      have HB5 := Lib.hid (HB3.out.trans (hb5.mono HB3.out.size))
      have HSA := Lib.hid (refSameT_any ts A B ts.length c c2 w5 rfl (by omega) (HT3.out.below hb5) (HU3.out.below hb5))
      clear hb5
      go_wp2_with fail
      refine HSA.out.mono ?_
      rintro e w6 ⟨rfl, hb6⟩
      have HB6 := Lib.hid (HB5.out.trans (hb6.mono HB5.out.size))
      clear hb6
      go_wp2_with fail
      go_ret
      exact ⟨rfl, HB6.out⟩
    · have HN := Lib.hid (num_errno n w3 (HG.out.below HB3.out))
      have HP := Lib.hid (fun (W : World) (hW : ErrTab W) => pos_errno n W hW)
      have e1 : (n == n) = true := beq_self_eq_true _
      clear hn
      go_wp2_with fail
      refine HN.out.mono ?_
      rintro e w4 ⟨rfl, hb4⟩
      have HB4 := Lib.hid (HB3.out.trans (hb4.mono HB3.out.size))
      have HT4 := Lib.hid (HT3.out.below hb4)
      have HU4 := Lib.hid (HU3.out.below hb4)
      clear hb4
      go_wp2_with fail
      refine (HP.out _ (HG.out.below HB4.out)).mono ?_
      rintro e w5 ⟨rfl, hb5⟩
      have HB5 := Lib.hid (HB4.out.trans (hb5.mono HB4.out.size))
      have HSA := Lib.hid (refSameT_any ts A B ts.length c c2 w5 rfl (by omega) (HT4.out.below hb5) (HU4.out.below hb5))
      clear hb5
      go_wp2_with fail
      refine HSA.out.mono ?_
      rintro e w6 ⟨rfl, hb6⟩
      have HB6 := Lib.hid (HB5.out.trans (hb6.mono HB5.out.size))
      clear hb6
      go_wp2_with fail
      go_ret
      exact ⟨rfl, HB6.out⟩
    · obtain ⟨b, rfl, a0, a1, _⟩ := hat
      have a0' := (HB23.out.cell (p := ⟨b, 0, none⟩) (lt_of_cell a0)).trans a0
      have a1' := (HB23.out.cell (p := ⟨b, 0 + 1, none⟩) (lt_of_cell a1)).trans a1
      have HN := Lib.hid (num_at n b 0 w3 (HG.out.below HB3.out) a1')
      have HP := Lib.hid (fun (W : World) (hW : ErrTab W) hc => pos_at pos b 0 W hW hc)
      have HA0 := Lib.hid a0'
      have e1 : (n == n) = true := beq_self_eq_true _
      have e2 : (pos == pos) = true := beq_self_eq_true _
      clear hn a0 a1 a0' a1' hp
      go_wp2_with fail
      refine HN.out.mono ?_
      rintro e w4 ⟨rfl, hb4⟩
      have HB4 := Lib.hid (HB3.out.trans (hb4.mono HB3.out.size))
      have HT4 := Lib.hid (HT3.out.below hb4)
      have HU4 := Lib.hid (HU3.out.below hb4)
      have HA4 := Lib.hid ((hb4.cell (p := ⟨b, 0, none⟩) (lt_of_cell HA0.out)).trans HA0.out)
      clear hb4
      go_wp2_with fail
      refine (HP.out _ (HG.out.below HB4.out) HA4.out).mono ?_
      rintro e w5 ⟨rfl, hb5⟩
      have HB5 := Lib.hid (HB4.out.trans (hb5.mono HB4.out.size))
      have HSA := Lib.hid (refSameT_any ts A B ts.length c c2 w5 rfl (by omega) (HT4.out.below hb5) (HU4.out.below hb5))
      clear hb5
      go_wp2_with fail
      refine HSA.out.mono ?_
      rintro e w6 ⟨rfl, hb6⟩
      have HB6 := Lib.hid (HB5.out.trans (hb6.mono HB5.out.size))
      clear hb6
      go_wp2_with fail
      go_ret
      exact ⟨rfl, HB6.out⟩
end Go.Proofs.YtljdnjidphmkjaaDoor
