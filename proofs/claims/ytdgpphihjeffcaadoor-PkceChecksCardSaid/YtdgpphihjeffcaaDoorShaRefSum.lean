/- The walk of the reference's Sum. -/
import Derived.Test.YtdgpphihjeffcaaDoorShaOne
namespace Go.Proofs.YtdgpphihjeffcaaDoor
open Go Go.RowKit

theorem ownLiesR {w : World} {B e : Nat} {v : Value} {n : Nat} {xs : List Int} (h : w.ownsRow B e 1 v n (ints .u8 xs)) (hn : xs.length = n) : ∃ A c, v = .slice A n c ∧ n ≤ c ∧ Lies w A xs := by
  have h0 := h
  rcases h.2 with ⟨rfl, rfl⟩ | ⟨g, cap, cur, rfl, hb, hcell, hle, hm, _⟩
  · exact ⟨none, 0, rfl, Nat.le_refl _, fun hp => by omega⟩
  · refine ⟨_, cap, rfl, hle, fun _ => ⟨g, 0, rfl, ?_, ?_, fun j v hv => ?_⟩⟩
    · have := (h0.lt g rfl).2; omega
    · exact (h0.lt g rfl).2
    · have hj := (List.getElem?_eq_some_iff.1 hv).1
      rw [length_ints, hn] at hj
      rw [Nat.zero_add, h0.cellAt j (by omega)]
      exact hv
/-- Numbers as a string. -/
def txtD (D : List Int) : ByteArray := ⟨(D.map fun x => UInt8.ofNat x.toNat).toArray⟩
theorem strL_txtD {D : List Int} (h : Bytes D) : strL (txtD D) = D := by
  simp only [strL, txtD, List.map_map]
  conv => rhs; rw [← List.map_id D]
  refine List.map_congr_left fun x hx => ?_
  have := h.mem hx
  simp only [Function.comp, id]
  rw [UInt8.toNat_ofNat']; omega
theorem convR (A : Option Addr) (xs : List Int) (n c : Nat) (w : World) (hn : xs.length = n) (hl : Lies w A xs) :
    (convert 37 9 (.slice A n c)).run Tryd.prog w = .ok (.string (txtD xs)) w := by
  rw [run_convert_bytes_string w _ _ 5 _ _ _ Tryd.underlying37 Tryd.underlying5 Tryd.underlying9]
  cases A with
  | none =>
    have : xs = [] := by
      rcases xs with _ | ⟨x, r⟩
      · rfl
      · obtain ⟨b, o, h, _⟩ := hl (by simp)
        cases h
    subst this
    rfl
  | some ad =>
    have hcells : ∀ j u, (ints .u8 xs)[j]? = some u → w.cell? (ad.add j) = some u := fun j u hu => by
      have hj := (List.getElem?_eq_some_iff.1 hu).1
      rw [length_ints] at hj
      obtain ⟨b, o, h, _, _, hc⟩ := hl (by omega)
      injection h with h
      subst h
      rw [Addr.add_mid]
      exact hc j u hu
    have hld : (loadCells ad n).run Tryd.prog w = .ok (ints .u8 xs).toArray w := by
      have := run_loadCells_list (P := Tryd.prog) w ad (ints .u8 xs) hcells
      rw [length_ints, hn] at this; exact this
    rw [run_bytesToString w _ _ _ xs hld, foldl_push_bytes, show ByteArray.empty.data = #[] from rfl, Array.empty_append]
    rfl
theorem strL_appendR (a b : ByteArray) : strL (a ++ b) = strL a ++ strL b := by
  simp only [strL, ByteArray.data_append, Array.toList_append, List.map_append]
theorem strL_extractR (s : ByteArray) (a b : Nat) : strL (s.extract a b) = ((strL s).take b).drop a := by
  simp only [strL, ByteArray.data_extract, Array.toList_extract, List.extract_eq_take_drop, List.map_take, List.map_drop, List.drop_take]
theorem strL_getR (s : ByteArray) (k : Nat) (h : k < s.size) : ((s[k]'h).toNat : Int) = (strL s).getD k 0 := by
  have h2 : k < s.data.toList.length := by simpa using h
  rw [List.getD_eq_getElem?_getD, strL, List.getElem?_map, List.getElem?_eq_getElem h2]
  simp
  rfl
theorem shr8_eq (m : Int) : ∀ k, shr8 m k = m / 2 ^ (8 * k)
  | 0 => by simp [shr8]
  | k + 1 => by
    rw [shr8, shr8_eq m k, Int.ediv_ediv_of_nonneg (by exact Int.pow_nonneg (by decide)), show 8 * (k + 1) = 8 * k + 8 by omega, Int.pow_add]; rfl
theorem cntR_get (m : Int) (t : Nat) (ht : t < 8) : (cntR m).getD t 0 = m / 2 ^ (8 * (7 - t)) % 256 := by
  rw [← shr8_eq]
  match t, ht with
  | 0, _ => rfl
  | 1, _ => rfl
  | 2, _ => rfl
  | 3, _ => rfl
  | 4, _ => rfl
  | 5, _ => rfl
  | 6, _ => rfl
  | 7, _ => rfl
theorem gapR_ok (n : Nat) : (n + gapR n + 9) % 64 = 0 ∧ gapR n < 64 := by
  unfold gapR; split <;> omega
theorem padR_bytes (n : Nat) : Bytes (padR n) := .of_mem fun x hx => by
  simp only [padR, List.mem_cons, List.mem_append, List.mem_replicate, cntR, List.not_mem_nil, or_false] at hx
  rcases hx with rfl | ⟨_, rfl⟩ | rfl | rfl | rfl | rfl | rfl | rfl | rfl | rfl <;> omega
/-- The bytes of words, word by word. -/
def outB (F : List Int) : Nat → List Int
  | 0 => []
  | j + 1 => outB F j ++ [F.getD j 0 / 16777216, F.getD j 0 / 65536 % 256, F.getD j 0 / 256 % 256, F.getD j 0 % 256]
theorem length_outB (F : List Int) : ∀ j, (outB F j).length = 4 * j
  | 0 => rfl
  | j + 1 => by rw [outB, List.length_append, length_outB F j]; simp; omega
theorem sbL_part (F : List Int) : ∀ k, k ≤ 8 → sbL F k = outB F k ++ List.replicate (32 - 4 * k) 0
  | 0, _ => rfl
  | k + 1, h => by
    have hA := length_outB F k
    have hs : ∀ (T : List Int) (i : Nat) (x : Int), (outB F k ++ T).set (4 * k + i) x = outB F k ++ T.set i x := fun T i x => by
      rw [List.set_append_right _ _ (by omega), hA, show 4 * k + i - 4 * k = i by omega]
    have h0 : ∀ (T : List Int) (x : Int), (outB F k ++ T).set (4 * k) x = outB F k ++ T.set 0 x := fun T x => hs T 0 x
    rw [sbL, sbL_part F k (by omega), show 32 - 4 * k = (32 - 4 * (k + 1)) + 1 + 1 + 1 + 1 by omega]
    simp only [List.replicate_succ, h0, hs, List.set_cons_zero, List.set_cons_succ, outB, List.append_assoc, List.cons_append, List.nil_append]
theorem sbL_outB (F : List Int) : sbL F 8 = outB F 8 := by
  rw [sbL_part F 8 (Nat.le_refl _)]; exact List.append_nil _
theorem cut64 (l : List Int) (j : Nat) : (l.take (64 * j + 64)).drop (64 * j) = (l.drop (64 * j)).take 64 := by
  rw [List.drop_take]; congr 1; omega
set_option maxRecDepth 100000 in
set_option maxHeartbeats 4000000 in
theorem refSum_any (s : ByteArray) (w : World) (hs : s.size ≤ 30000) :
    Calls Tryd.prog 22 #[.string s] w fun e w' => e = .returned (.string (txtD (digestL (strL s)))) ∧ Below w.heap.size w w' := by
  obtain ⟨i0, hi0, hz0, hz1, hz2⟩ := info_parts info5s
  obtain ⟨gap, hgap⟩ : ∃ g, g = gapR s.size := ⟨_, rfl⟩
  have hgo := gapR_ok s.size
  rw [← hgap] at hgo
  obtain ⟨hg1, hg2⟩ := hgo
  have HGAP := Lib.hid hgap
  have HG1 := Lib.hid hg1
  have hown0 : (w.alloc (.cells #[.int .u8 128] 5)).ownsRow w.heap.size 5 1 (.slice (some ⟨w.heap.size, 0, none⟩) 1 1) 1 [.int .u8 128] := World.ownsRow_lit w #[.int .u8 128] 1 (Nat.le_refl _) (by unfold maxLen; omega) rfl
  have HO0 := Lib.hid hown0
  clear hgap hown0 hg1
  go_enter Tryd.func22, Tryd.ntmps22
  go_wp2_with fail
  go_loopw [4] (fun v wr => ∃ L : Nat, 1 ≤ L ∧ L ≤ gap + 1 ∧ wr.ownsRow w.heap.size 5 1 v L (ints .u8 (128 :: List.replicate (L - 1) 0)) ∧ Below w.heap.size w wr) (fun v _ => match v with | .slice _ m _ => 200 - m | _ => 0)
  case atStart => exact ⟨1, by omega, by omega, HO0.out, belowAlloc _ _⟩
  case round =>
    clear HO0
    obtain ⟨L, hL1, hL2, hown, hbel⟩ := hrel
    obtain ⟨g, cap, rfl⟩ : ∃ g cap, u4 = .slice (some ⟨g, 0, none⟩) L cap := by
      rcases hown.2 with ⟨_, h0⟩ | ⟨g, cap, cur, h0, _⟩
      · omega
      · exact ⟨g, cap, h0⟩
    have HOW := Lib.hid hown
    have HBE := Lib.hid hbel
    have hsz : w.heap.size ≤ wr.heap.size := hbel.size
    clear hown hbel
    by_cases hlt : L < gap + 1
    · have hq : (((s.size : Int) + (L : Int) + 8) % 64 != 0) = true := by rw [bne_iff_ne]; have := HG1.out; omega
      have HNX : Hid (ints .u8 (128 :: List.replicate (L - 1) 0) ++ [.int .u8 0] = ints .u8 (128 :: List.replicate (L + 1 - 1) 0)) := Lib.hid (by
        rw [show L + 1 - 1 = (L - 1) + 1 by omega, List.replicate_succ', ← List.cons_append, ints_append]; rfl)
      go_wp2_with (first
        | (at_builtin; refine wpList_append_own _ rfl (.tmp 20) (.tmp 21) 37 rfl w.heap.size 5 i0 (.int .u8 0) 1 1 Tryd.underlying37 hi0 hz0 hz1 hz2 rfl (by decide) _ L _ rfl (HOW.out.alloc _) ⟨wr.heap.size, 0, none⟩ 1 1 [.int .u8 0] rfl rfl ?c1 ?c2 ?c3 ?c4 ?c5 ?_))
      case c1 => exact cell_one_new _ _ _
      case c2 => intro u hu; rw [List.mem_singleton.1 hu]; rfl
      case c3 => unfold maxLen; omega
      case c4 => omega
      case c5 => simp; omega
      intro v' w' hown' hgr _
      have HW : Hid (w'.ownsRow w.heap.size 5 1 v' (L + 1) (ints .u8 (128 :: List.replicate (L + 1 - 1) 0)) ∧ Below w.heap.size w w') := Lib.hid ⟨by rw [← HNX.out]; exact hown', (HBE.out.alloc hsz _).grown hgr (by simp; omega) (own_ge HOW.out)⟩
      obtain ⟨g', cap', rfl⟩ : ∃ g cap, v' = .slice (some ⟨g, 0, none⟩) (L + 1) cap := by
        rcases hown'.2 with ⟨_, h0⟩ | ⟨g, cap, cur, h0, _⟩
        · omega
        · exact ⟨g, cap, h0⟩
      clear hown' hgr
      go_wp2_with fail
      go_roundw
      case rel => exact ⟨L + 1, by omega, by omega, HW.out.1, HW.out.2⟩
      case measure => simp; omega
    · obtain rfl : L = gap + 1 := by omega
      have hq : (((s.size : Int) + ((gap : Int) + 1) + 8) % 64 != 0) = false := by rw [bne_eq_false_iff_eq]; have := HG1.out; omega
      have HOP : Hid (wr.ownsRow w.heap.size 5 1 (.slice (some ⟨g, 0, none⟩) (gap + 1) cap) (gap + 1) (ints .u8 (128 :: List.replicate gap 0))) := Lib.hid HOW.out
      clear HOW
      go_wp2_with fail
      go_loopw [4, 5] (fun v i wq => ∃ t : Nat, t ≤ 8 ∧ i = .int .i64 (7 - (t : Int)) ∧ wq.ownsRow w.heap.size 5 1 v (gap + 1 + t) (ints .u8 ((128 :: List.replicate gap 0) ++ (cntR (s.size * 8)).take t)) ∧ Below w.heap.size w wq) (fun _ i _ => (intOf i + 1).toNat)
      case atStart => exact ⟨0, by omega, rfl, by rw [List.take_zero, List.append_nil]; exact HOP.out, HBE.out⟩
      case round =>
        clear HOP HBE
        obtain ⟨t, ht, rfl, hown, hbel⟩ := hrel
        have HOW2 := Lib.hid hown
        have HBE2 := Lib.hid hbel
        have hsz2 : w.heap.size ≤ wr.heap.size := hbel.size
        clear hown hbel
        by_cases ht8 : t < 8
        · have hk0 : (0 : Int) ≤ 7 - (t : Int) := by omega
          have HNX : Hid (ints .u8 ((128 :: List.replicate gap 0) ++ (cntR (s.size * 8)).take t) ++ [.int .u8 ((s.size : Int) * 8 / 2 ^ (8 * (7 - t)) % 256)] = ints .u8 ((128 :: List.replicate gap 0) ++ (cntR (s.size * 8)).take (t + 1))) := Lib.hid (by
            rw [← cntR_get _ t ht8, List.take_add_one, List.getElem?_eq_getElem (show t < (cntR (s.size * 8)).length from ht8), Option.toList_some, ← List.append_assoc, ints_append _ (_ ++ _)]
            simp [ints, List.getD, show t < (cntR (s.size * 8)).length from ht8])
          go_wp2_with (first
            | (at_builtin; refine wpList_append_own _ rfl (.tmp 27) (.tmp 36) 37 rfl w.heap.size 5 i0 (.int .u8 0) 1 1 Tryd.underlying37 hi0 hz0 hz1 hz2 rfl (by decide) _ (gap + 1 + t) _ rfl (HOW2.out.alloc _) ⟨wr.heap.size, 0, none⟩ 1 1 [.int .u8 ((s.size : Int) * 8 / 2 ^ (8 * (7 - t)) % 256)] rfl rfl ?d1 ?d2 ?d3 ?d4 ?d5 ?_))
          case d1 => exact cell_one_new _ _ _
          case d2 => intro u hu; rw [List.mem_singleton.1 hu]; rfl
          case d3 => unfold maxLen; omega
          case d4 => omega
          case d5 => simp; omega
          intro v' w' hown' hgr _
          have HW : Hid (w'.ownsRow w.heap.size 5 1 v' (gap + 1 + (t + 1)) (ints .u8 ((128 :: List.replicate gap 0) ++ (cntR (s.size * 8)).take (t + 1))) ∧ Below w.heap.size w w') := Lib.hid ⟨by rw [← HNX.out]; exact hown', (HBE2.out.alloc hsz2 _).grown hgr (by simp; omega) (own_ge HOW2.out)⟩
          clear hown' hgr
          go_wp2_with fail
          go_roundw
          case rel => exact ⟨t + 1, by omega, by rw [show ((t + 1 : Nat) : Int) = (t : Int) + 1 by omega, show (7 : Int) - ((t : Int) + 1) = 7 - (t : Int) - 1 by omega], HW.out.1, HW.out.2⟩
          case measure => simp [intOf]; omega
        · obtain rfl : t = 8 := by omega
          rw [show (7 : Int) - ((8 : Nat) : Int) = -1 from rfl]
          have hop := HOW2.out
          have hpe : (128 :: List.replicate gap 0) ++ (cntR (s.size * 8)).take 8 = padR s.size := by
            rw [List.take_of_length_le (show (cntR (s.size * 8)).length ≤ 8 from Nat.le_refl _), padR, HGAP.out]; rfl
          rw [hpe] at hop
          have hpl : (padR s.size).length = gap + 1 + 8 := by rw [length_padR, ← HGAP.out]
          obtain ⟨A, c, rfl, _, hlie⟩ := ownLiesR hop hpl
          have hcv := convR A (padR s.size) (gap + 1 + 8) c wr hpl hlie
          obtain ⟨P, hP⟩ : ∃ P, P = txtD (padR s.size) := ⟨_, rfl⟩
          rw [← hP] at hcv
          obtain ⟨S, hS⟩ : ∃ S, s ++ P = S := ⟨_, rfl⟩
          have HSS : Hid (strL S = strL s ++ padR s.size) := Lib.hid (by rw [← hS, strL_appendR, hP, strL_txtD (padR_bytes _)])
          have hSs : S.size = s.size + (gap + 9) := by rw [← length_strL, HSS.out, List.length_append, length_strL, hpl]
          have HNF : Hid (absorb (strL S) (S.size / 64) = finL (strL s)) := Lib.hid (by
            have := absorb_pad (strL s)
            rw [length_strL, ← HGAP.out] at this
            rw [HSS.out, hSs]; exact this)
          have hS64 : S.size % 64 = 0 := by rw [hSs]; have := HG1.out; omega
          have hS3 : S.size ≤ 40000 := by omega
          have hsp : s.size + P.size ≤ 9223372036854775807 := by rw [← ByteArray.size_append, hS]; omega
          have HBW : Hid (Below w.heap.size w wr) := HBE2
          have HSZ := Lib.hid hSs
          have hsz0 := HBW.out.size
          obtain ⟨w5, hw5⟩ : ∃ x, x = wr := ⟨_, rfl⟩
          rw [← hw5] at hcv HBW hsz0 ⊢
          clear hop hpe hpl hlie hP hSs HOW2 HBE2 hw5 hsz2
          go_wp2_with fail
          go_loopw [6, 7] (fun v i wq => ∃ (j gk ck : Nat), 64 * j ≤ S.size ∧ i = .int .i64 ((64 * j : Nat) : Int) ∧ v = .slice (some ⟨gk, 0, none⟩) 8 ck ∧ gk < wq.heap.size ∧ (∀ m u, (ints .u32 (absorb (strL S) j))[m]? = some u → wq.cell? ⟨gk, m, none⟩ = some u) ∧ Below w5.heap.size w5 wq) (fun _ i _ => S.size - (intOf i).toNat)
          case atStart => exact ⟨0, w5.heap.size, 8, by omega, rfl, rfl, by simp, fun m u hu => by
            rw [cell_of_row _ _ _ _ _ _ (heap_alloc_new w5 _)]
            show (ints .u32 startL).toArray[m]? = some u
            rw [List.getElem?_toArray]; exact hu, belowAlloc _ _⟩
          case round =>
            obtain ⟨j, gk, ck, hj, rfl, rfl, hgk, hcl, hbel⟩ := hrel
            have HCL := Lib.hid hcl
            have HBE := Lib.hid hbel
            clear hcl hbel
            obtain ⟨a, ha⟩ : ∃ a, a = 64 * j := ⟨_, rfl⟩
            have HA := Lib.hid ha
            rw [← ha] at hj ⊢
            clear ha
            by_cases hlt : a < S.size
            · have hltI : (a : Int) < (S.size : Int) := by omega
              have ha64 : a + 64 ≤ S.size := by have := HA.out; omega
              have hbs : strL (S.extract a (a + 64)) = ((strL S).drop (64 * j)).take 64 := by rw [strL_extractR, HA.out, cut64]
              have hbl : (S.extract a (a + 64)).size = 64 := by rw [← length_strL, hbs, List.length_take, List.length_drop, length_strL]; have := HA.out; omega
              have HONE := Lib.hid (refOne_any (absorb (strL S) j) (((strL S).drop (64 * j)).take 64) gk ck (S.extract a (a + 64)) wr (length_absorb _ _) (absorb_bd _ _) hbl (fun i hi => by rw [strL_getR, hbs]) (((strL_bd S).drop _).take _) HCL.out hgk)
              clear hbs hbl
              go_wp2_with (go_at_call 39; refine HONE.out.mono ?_; rintro e w6 ⟨g6, c6, rfl, hg6, hc6, hb6⟩; have H6 := Lib.hid (And.intro hc6 (HBE.out.trans (hb6.mono HBE.out.size))); clear hc6 hb6)
              have hg6' : g6 < w6.heap.size := lt_of_cellO (H6.out.1 0 _ (get_ints .u32 _ 0 (by rw [length_mixL, length_absorb]; decide)))
              go_roundw
              case rel => exact ⟨j + 1, g6, c6, by have := HA.out; omega, by rw [show 64 * (j + 1) = a + 64 by have := HA.out; omega]; go_num, rfl, hg6', H6.out.1, H6.out.2⟩
              case measure => simp [intOf]; omega
            · have hltI : ¬ (a : Int) < (S.size : Int) := by omega
              have hjj : j = S.size / 64 := by have := HA.out; omega
              have HCF : Hid (∀ m, m < 8 → wr.cell? ⟨gk, m, none⟩ = some (.int .u32 ((finL (strL s)).getD m 0))) := Lib.hid fun m hm => HCL.out m _ (by
                rw [hjj, HNF.out]; exact get_ints .u32 _ m (by rw [length_finL]; exact hm))
              have HBT : Hid (Below w.heap.size w wr) := Lib.hid (HBW.out.trans (HBE.out.mono HBW.out.size))
              have HDG : Hid (digestL (strL s) = outB (finL (strL s)) 8) := Lib.hid (sbL_outB _)
              have hFB := finL_bd (strL s)
              obtain ⟨F, hF⟩ : ∃ F, F = finL (strL s) := ⟨_, rfl⟩
              rw [← hF] at HCF HDG hFB
              have HFB := Lib.hid hFB
              obtain ⟨w7, hw7⟩ : ∃ x, x = wr := ⟨_, rfl⟩
              rw [← hw7] at HCF HBT hgk ⊢
              have hown0 : (w7.alloc (.cells #[] 5)).ownsRow w7.heap.size 5 1 (.slice (some ⟨w7.heap.size, 0, none⟩) 0 0) 0 [] := World.ownsRow_lit w7 #[] 0 (Nat.le_refl _) (by unfold maxLen; omega) rfl
              have HO7 := Lib.hid hown0
              clear hjj hFB hF hw7 hown0 HCL HBE
              go_wp2_with fail
              go_loopw [8, 9] (fun v i wq => ∃ m : Nat, m ≤ 8 ∧ i = .int .i64 m ∧ wq.ownsRow w7.heap.size 5 1 v (4 * m) (ints .u8 (outB F m)) ∧ Below w7.heap.size w7 wq) (fun _ i _ => 8 - (intOf i).toNat)
              case atStart => exact ⟨0, by omega, rfl, HO7.out, belowAlloc _ _⟩
              case round =>
                clear HO7
                obtain ⟨m, hm, rfl, hown, hbel⟩ := hrel
                have HOW := Lib.hid hown
                have HBE := Lib.hid hbel
                by_cases hm8 : m < 8
                · have c1 := (hbel.cell (p := ⟨gk, m, none⟩) hgk).trans (HCF.out m hm8)
                  obtain ⟨x0, x1⟩ := HFB.out m
                  have HNX : Hid (ints .u8 (outB F m) ++ [.int .u8 (F.getD m 0 / 16777216), .int .u8 (F.getD m 0 / 65536 % 256), .int .u8 (F.getD m 0 / 256 % 256), .int .u8 (F.getD m 0 % 256)] = ints .u8 (outB F (m + 1))) := Lib.hid (by rw [outB, ints_append]; rfl)
                  obtain ⟨x, hx⟩ : ∃ x, x = F.getD m 0 := ⟨_, rfl⟩
                  rw [← hx] at c1 x0 x1 HNX
                  have agk : u8.ownBlock ≠ some gk := fun e => by have := own_ge HOW.out gk e; exact absurd hgk (by omega)
                  have hszr : w7.heap.size ≤ wr.heap.size := HBE.out.size
                  have lgk : gk < wr.heap.size := lt_of_cellO c1
                  have hm0 : (0 : Int) ≤ (m : Int) := by omega
                  have hm1 : (m : Int) < 8 := by omega
                  have w24 : IntKind.u8.wrap (x / 16777216) = x / 16777216 := by rw [IntKind.wrap_u8]; omega
                  have w16 : IntKind.u8.wrap (x / 65536) = x / 65536 % 256 := IntKind.wrap_u8 _
                  have w08 : IntKind.u8.wrap (x / 256) = x / 256 % 256 := IntKind.wrap_u8 _
                  have w00 : IntKind.u8.wrap x = x % 256 := IntKind.wrap_u8 _
                  clear hown hbel hx
                  go_wp2_with fail
                  go_region_held3 (fun W => W.cell? ⟨gk, m, none⟩ = some (.int .u32 x))
                    (first
                      | go_keep
                      | (rw [hgrow.cell_far _ (by simp; omega) (Ne.symm agk)]; assumption))
                    ((refine step_append_lies _ (by rfl) _ _ _ (by rfl) w7.heap.size 5 i0 _ 1 1 Tryd.underlying37 hi0 hz0 hz1 hz2 rfl (by omega) u8 (4 * m) (ints .u8 (outB F m)) (by rfl) ((HOW.out.alloc _).drew)
                        ⟨wr.heap.size, 0, none⟩ 4 4 [.int .u8 (x / 16777216), .int .u8 (x / 65536 % 256), .int .u8 (x / 256 % 256), .int .u8 (x % 256)] (by rfl) (by rfl) (World.news_of_block (cs := #[.int .u8 (x / 16777216), .int .u8 (x / 65536 % 256), .int .u8 (x / 256 % 256), .int .u8 (x % 256)]) (t := 5) (fr := (0, 0)) (heap_alloc_new wr _)) (by simp [Value.oneCell'])
                        (by omega) (by unfold maxLen; omega) (by omega) (by simp; omega) (wr.heap.size + 1) (by simp) ?_; intro gg cap w1' hown1 hgrow hat hlt2))
                  have hgr2 : (wr.alloc (.cells #[.int .u8 (x / 16777216), .int .u8 (x / 65536 % 256), .int .u8 (x / 256 % 256), .int .u8 (x % 256)] 5)).drew.grownBy w1' u8.ownBlock := hgrow
                  have HW : Hid (w1'.ownsRow w7.heap.size 5 1 (.slice (some ⟨gg, 0, none⟩) (4 * m + 4) cap) (4 * (m + 1)) (ints .u8 (outB F (m + 1))) ∧ Below w7.heap.size w7 w1') := Lib.hid ⟨by rw [← HNX.out]; exact hown1, (HBE.out.alloc hszr _).drew.grown hgr2 (by simp; omega) (own_ge HOW.out)⟩
                  clear w24 w16 w08 w00 hown1 hgrow hgr2 hat hlt2
                  go_wp2_with fail
                  go_roundw
                  case rel => exact ⟨m + 1, by omega, by go_num, HW.out.1, HW.out.2⟩
                  case measure => simp [intOf]; omega
                · obtain rfl : m = 8 := by omega
                  obtain ⟨A2, c2, rfl, _, hl2⟩ := ownLiesR hown (length_outB F 8)
                  have hcv2 := convR A2 (outB F 8) (4 * 8) c2 wr (length_outB F 8) hl2
                  rw [← HDG.out] at hcv2
                  have HFIN : Hid (Below w.heap.size w wr) := Lib.hid (HBT.out.trans (hbel.mono HBT.out.size))
                  clear hown hbel HOW HBE hl2
                  rw [show 4 * 8 = 32 from rfl] at hcv2 ⊢
                  go_wp2_with fail
                  go_ret
                  exact ⟨rfl, HFIN.out⟩
end Go.Proofs.YtdgpphihjeffcaaDoor
