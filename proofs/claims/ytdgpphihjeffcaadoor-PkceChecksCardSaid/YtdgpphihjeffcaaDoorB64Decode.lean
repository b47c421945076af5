/- The walks of package b64's lastBytes and Decode. -/
import Derived.Test.YtdgpphihjeffcaaDoorB64Fault
import Derived.Laws.BytesString
import Derived.Laws.BytesArg
import Derived.Laws.MakeOwn
namespace Go.Proofs.YtdgpphihjeffcaaDoor
open Go Go.RowKit

theorem info5b : (Tryd.prog.info? 5).map (fun i => (i.zero, i.size, i.bytes)) = some (some (.int .u8 0), 1, 1) := by kernel_rfl

theorem Good.of_fault {l : List Int} (h : faultL l = -1) : Good l := fun k hk => by
  have hle := badL_le l
  unfold faultL at h
  refine badL_good l k ?_
  split at h <;> omega
theorem Good.part {l : List Int} (h : Good l) (a b : Nat) : Good ((l.take b).drop a) := fun k hk => by
  simp only [List.length_drop, List.length_take] at hk
  have := h (a + k) (by omega)
  rw [List.getD_eq_getElem?_getD, List.getElem?_drop, List.getElem?_take, if_pos (by omega), ← List.getD_eq_getElem?_getD]
  exact this
theorem four_of {l : List Int} (h : l.length = 4) : ∃ a b c d, l = [a, b, c, d] := by
  match l, h with
  | [a, b, c, d], _ => exact ⟨a, b, c, d, rfl⟩
theorem joinSk_four (a b c d : Int) : joinSk [a, b, c, d] 4 = ((wo a * 64 + wo b) * 64 + wo c) * 64 + wo d := by
  simp [joinSk]
/-- The bytes of a group of four signs, out of their bits. -/
theorem dec_group (l : List Int) (h4 : l.length = 4) (hg : Good l) :
    decL l = [joinSk l 4 / 65536, joinSk l 4 / 256 % 256, joinSk l 4 % 256] := by
  obtain ⟨a, b, c, d, rfl⟩ := four_of h4
  have ga := hg 0 (by simp)
  have gb := hg 1 (by simp)
  have gc := hg 2 (by simp)
  have gd := hg 3 (by simp)
  simp only [List.getD_cons_zero, List.getD_cons_succ] at ga gb gc gd
  have ba := wo_bd a
  have bb := wo_bd b
  have bc := wo_bd c
  have bd := wo_bd d
  rw [joinSk_four]
  simp only [decL]
  congr 1
  · omega
  · congr 1
    · omega
    · congr 1; omega
theorem dec_three (l : List Int) (h4 : l.length = 3) (hg : Good l) : decL l = [joinSk l 4 / 65536, joinSk l 4 / 256 % 256] := by
  match l, h4 with
  | [a, b, c], _ =>
    have ga := hg 0 (by simp)
    have gb := hg 1 (by simp)
    have gc := hg 2 (by simp)
    simp only [List.getD_cons_zero, List.getD_cons_succ] at ga gb gc
    have ba := wo_bd a
    have bb := wo_bd b
    have bc := wo_bd c
    simp [decL, joinSk]
    omega
theorem dec_two (l : List Int) (h4 : l.length = 2) (hg : Good l) : decL l = [joinSk l 4 / 65536] := by
  match l, h4 with
  | [a, b], _ =>
    have ga := hg 0 (by simp)
    have gb := hg 1 (by simp)
    simp only [List.getD_cons_zero, List.getD_cons_succ] at ga gb
    have ba := wo_bd a
    have bb := wo_bd b
    simp [decL, joinSk]
    omega

theorem Lies.alloc_row (w : World) (t : TypeId) (cs : List Int) (xs : List Int) (h : ∀ (j : Nat) (v : Value), (ints .u8 xs)[j]? = some v → (ints .u8 cs)[j]? = some v) : Lies (w.alloc (.cells (ints .u8 cs).toArray t)) (some ⟨w.heap.size, 0, none⟩) xs :=
  Lies.blk (t := t) (cs := ints .u8 cs) (heap_alloc_new w _) (fun j v hv => by rw [Nat.zero_add]; exact h j v hv)
set_option maxHeartbeats 400000 in
theorem lastBytes_any (s : ByteArray) (w : World) (hs : s.size = 0 ∨ s.size = 2 ∨ s.size = 3) (hg : Good (strL s)) :
    Calls Tryd.prog 52 #[.string s] w fun e w' => e = .returned (.slice (some ⟨w.heap.size, 0, none⟩) (decL (strL s)).length 3) ∧ Lies w' (some ⟨w.heap.size, 0, none⟩) (decL (strL s)) ∧ Below w.heap.size w w' := by
  have HJ := fun (W : World) => joinSigns_any s W (by omega) hg
  have hb := joinSk_bd (strL s) hg 4 (by omega)
  have hlen := length_strL s
  rcases hs with hs | hs | hs
  · have hd : decL (strL s) = [] := by
      rw [hs] at hlen
      rw [List.eq_nil_of_length_eq_zero hlen]; rfl
    rw [hd]
    have HS := Lib.hid hs
    obtain ⟨x, hx⟩ : ∃ x, x = joinSk (strL s) 4 := ⟨_, rfl⟩
    rw [← hx] at HJ
    clear hx hb hlen hd hg
    go_enter Tryd.func52, Tryd.ntmps52
    go_wp2_with (go_at_call 51; refine (HJ _).mono ?_; rintro e w' ⟨rfl, rfl⟩)
    go_ret
    exact ⟨rfl, fun h => absurd h (by simp), belowAlloc _ _⟩
  · have hd := dec_two (strL s) (by rw [hlen]; exact hs) hg
    rw [hd]
    obtain ⟨x, hx⟩ : ∃ x, x = joinSk (strL s) 4 := ⟨_, rfl⟩
    rw [← hx] at HJ hb ⊢
    obtain ⟨b0, b1⟩ := hb
    replace b1 : x ≤ 16777215 := by omega
    clear hx hlen hd hg
    go_enter Tryd.func52, Tryd.ntmps52
    go_wp2_with (go_at_call 51; refine (HJ _).mono ?_; rintro e w' ⟨rfl, rfl⟩)
    go_ret
    exact ⟨rfl, Lies.alloc_row w 114 [x / 65536, 0, 0] _ (fun j v hv => by match j, hv with | 0, hv => exact hv), belowAlloc _ _⟩
  · have hd := dec_three (strL s) (by rw [hlen]; exact hs) hg
    rw [hd]
    obtain ⟨x, hx⟩ : ∃ x, x = joinSk (strL s) 4 := ⟨_, rfl⟩
    rw [← hx] at HJ hb ⊢
    obtain ⟨b0, b1⟩ := hb
    replace b1 : x ≤ 16777215 := by omega
    clear hx hlen hd hg
    go_enter Tryd.func52, Tryd.ntmps52
    go_wp2_with (go_at_call 51; refine (HJ _).mono ?_; rintro e w' ⟨rfl, rfl⟩)
    go_ret
    exact ⟨rfl, Lies.alloc_row w 114 [x / 65536, x / 256 % 256, 0] _ (fun j v hv => by match j, hv with | 0, hv => exact hv | 1, hv => exact hv), belowAlloc _ _⟩

theorem dec_cut (l : List Int) (j : Nat) (h4 : j % 4 = 0) (hj : j ≤ l.length) (k : Nat) (hk : j ≤ k) : decL (l.take k) = decL (l.take j) ++ decL ((l.take k).drop j) := by
  have e : l.take k = l.take j ++ (l.take k).drop j := by
    have := List.take_append_drop j (l.take k)
    rw [List.take_take, Nat.min_eq_left hk] at this
    exact this.symm
  rw [← decL_append _ _ (by rw [List.length_take, Nat.min_eq_left hj]; exact h4), ← e]
/-- What Decode tells of a right text. -/
def DecRight (s : ByteArray) (w : World) (e : Ending) (w' : World) : Prop :=
  ∃ A c, e = .returned (.tuple #[.slice A (decL (strL s)).length c, .nilIface]) ∧ (decL (strL s)).length ≤ c ∧ Lies w' A (decL (strL s)) ∧ Below w.heap.size w w'
theorem decode_long (s : ByteArray) (w : World) (hs : s.size ≤ 9223372036854775807) (h : 65536 < s.size) :
    Calls Tryd.prog 40 #[.string s] w fun e w' => e = .returned (.tuple #[.slice none 0 0, .iface 33 (.int .i64 2)]) ∧ w = w' := by
  go_enter Tryd.func40, Tryd.ntmps40
  go_wp2_with (go_at_call 50; refine (fault_long s _ hs h).mono ?_; rintro e w' ⟨rfl, rfl⟩)
  go_ret2
  exact ⟨rfl, rfl⟩
theorem decode_wrong (s : ByteArray) (w : World) (h : s.size ≤ 65536) (hf : ¬ faultL (strL s) = -1) :
    Calls Tryd.prog 40 #[.string s] w fun e w' => e = .returned (.tuple #[.slice none 0 0, .iface 118 (.pointer (some ⟨w.heap.size, 0, none⟩))]) ∧ w' = w.alloc (.cells (AtCells (faultL (strL s)) 20) 120) := by
  have HF : Hid (¬ faultL (strL s) = -1) := Lib.hid hf
  clear hf
  go_enter Tryd.func40, Tryd.ntmps40
  go_wp2_with (go_at_call 50; refine (fault_wrong s _ h HF.out).mono ?_; rintro e w' ⟨rfl, rfl⟩)
  go_ret2
  exact ⟨rfl, rfl⟩
set_option maxRecDepth 100000 in
set_option maxHeartbeats 1000000 in
theorem decode_right (s : ByteArray) (w : World) (h : s.size ≤ 65536) (hf : faultL (strL s) = -1) :
    Calls Tryd.prog 40 #[.string s] w (DecRight s w) := by
  have hgood := Good.of_fault hf
  have HF : Hid (faultL (strL s) = -1) := Lib.hid hf
  obtain ⟨i0, hi0, hz0, hz1, hz2⟩ := info_parts info5b
  obtain ⟨wm, hrun, hown0, hgr0⟩ := run_make_own (P := Tryd.prog) w w.heap.size 37 5 i0 (.int .u8 0) 1 Tryd.underlying37 hi0 hz0 hz1 .i64 .i64 (s.size * 6 / 8) (by rw [hz2]; omega) (by unfold maxLen; omega) (Nat.le_refl _)
  rw [show ((s.size * 6 / 8 : Nat) : Int) = (s.size : Int) * 6 / 8 from by omega] at hrun
  have hbel0 : Below w.heap.size w wm := ⟨hgr0.os, hgr0.tape, hgr0.output, hgr0.size, fun k hk => hgr0.block k hk (by simp)⟩
  obtain ⟨c0, hc0⟩ : ∃ c0, c0 = s.size * 6 / 8 := ⟨_, rfl⟩
  rw [← hc0] at hrun hown0
  obtain ⟨B, hB⟩ : ∃ B, B = w.heap.size := ⟨_, rfl⟩
  rw [← hB] at hrun hown0 hbel0
  have HOWN := Lib.hid hown0
  have HBEL := Lib.hid hbel0
  have HB := Lib.hid hB
  have HGOOD := Lib.hid hgood
  clear hf hc0 hgr0 hown0 hbel0 hB hgood
  go_enter Tryd.func40, Tryd.ntmps40
  go_wp2_with (go_at_call 50; refine (fault_right s _ h HF.out).mono ?_; rintro e w' ⟨rfl, rfl⟩)
  go_loopw [6, 7] (fun v i wr => ∃ j : Nat, j % 4 = 0 ∧ j ≤ s.size ∧ i = .int .i64 j ∧ wr.ownsRow B 5 1 v (decL ((strL s).take j)).length (ints .u8 (decL ((strL s).take j))) ∧ Below B w wr) (fun _ i _ => s.size - (intOf i).toNat)
  case atStart => exact ⟨0, by omega, by omega, rfl, HOWN.out, HBEL.out⟩
  case round =>
    clear HOWN HBEL hrun
    obtain ⟨j, hj4, hj, rfl, hown, hbel⟩ := hrel
    have HOW := Lib.hid hown
    have HBE := Lib.hid hbel
    clear hown hbel
    by_cases hlt : j + 4 ≤ s.size
    · have hl1 : (j : Int) < (s.size : Int) - (s.size : Int) % 4 := by omega
      have HC := Lib.hid (dec_cut (strL s) j hj4 (by rw [length_strL]; exact hj) (j + 4) (by omega))
      have HGP : Hid (Good (((strL s).take (j + 4)).drop j)) := Lib.hid (HGOOD.out.part j (j + 4))
      have hpl : (((strL s).take (j + 4)).drop j).length = 4 := by rw [List.length_drop, List.length_take, length_strL]; omega
      have HG := Lib.hid (dec_group _ hpl HGP.out)
      have hxb := joinSk_bd _ HGP.out 4 (by omega)
      have HJ : Hid (∀ W : World, Calls Tryd.prog 51 #[.string (s.extract j (j + 4))] W fun e w' => e = .returned (.int .u32 (joinSk (((strL s).take (j + 4)).drop j) 4)) ∧ W = w') := Lib.hid fun W => by
        have := joinSigns_any (s.extract j (j + 4)) W (by rw [← length_strL, strL_extract, hpl]; omega) (by rw [strL_extract]; exact HGP.out)
        rw [strL_extract] at this
        exact this
      obtain ⟨x, hx⟩ : ∃ x, x = joinSk (((strL s).take (j + 4)).drop j) 4 := ⟨_, rfl⟩
      rw [← hx] at HG HJ hxb
      obtain ⟨x0, x1⟩ := hxb
      replace x1 : x ≤ 16777215 := by omega
      have hg' := HG.out
      have HQ : Hid (decL ((strL s).take (j + 4)) = decL ((strL s).take j) ++ [x / 65536, x / 256 % 256, x % 256]) := Lib.hid (by rw [HC.out, hg'])
      have hn : (decL ((strL s).take j)).length ≤ 65536 := by rw [length_decL, List.length_take, length_strL]; omega
      obtain ⟨n, hnn⟩ : ∃ n, n = (decL ((strL s).take j)).length := ⟨_, rfl⟩
      obtain ⟨D, hD⟩ : ∃ D, D = decL ((strL s).take j) := ⟨_, rfl⟩
      rw [← hD] at hnn HQ HOW hn
      rw [← hnn] at HOW hn
      have HQN : Hid (n + 3 = (decL ((strL s).take (j + 4))).length) := Lib.hid (by rw [HQ.out, List.length_append, ← hnn]; rfl)
      have hsz : B ≤ wr.heap.size := by have := HBE.out.size; rw [← HB.out] at this; exact this
      clear hx HG HC HGP hpl hnn hg' hD
      go_wp2_with (first
        | (go_at_call 51; refine (HJ.out _).mono ?_; rintro e w' ⟨rfl, rfl⟩)
        | (at_builtin; refine wpList_append_own _ rfl (.tmp 36) (.tmp 45) 37 rfl B 5 i0 (.int .u8 0) 1 1 Tryd.underlying37 hi0 hz0 hz1 hz2 rfl (by decide) _ n _ rfl (HOW.out.alloc _) ⟨wr.heap.size, 0, none⟩ 3 3 [.int .u8 (x / 65536), .int .u8 (x / 256 % 256), .int .u8 (x % 256)] rfl rfl ?c1 ?c2 ?c3 ?c4 ?c5 ?_))
      case c1 =>
        intro t u hu
        rw [Addr.add_mid, cell_of_row _ _ _ _ _ _ (heap_alloc_new wr _), Nat.zero_add]
        simpa using hu
      case c2 => intro u hu; simp at hu; rcases hu with rfl | rfl | rfl <;> rfl
      case c3 => unfold maxLen; omega
      case c4 => omega
      case c5 => simp; omega
      intro v' w' hown' hgr _
      have HW : Hid (w'.ownsRow B 5 1 v' (decL ((strL s).take (j + 4))).length (ints .u8 (decL ((strL s).take (j + 4)))) ∧ Below B w w') := Lib.hid ⟨by
        rw [← HQN.out, HQ.out, ints_append]; exact hown', (HBE.out.alloc hsz _).grown hgr (by simp; omega) (own_ge HOW.out)⟩
      clear hown' hgr
      go_wp2_with fail
      go_roundw
      case rel => exact ⟨j + 4, by omega, by omega, by go_num, HW.out.1, HW.out.2⟩
      case measure => simp [intOf]; omega
    · have hl1 : ¬ (j : Int) < (s.size : Int) - (s.size : Int) % 4 := by omega
      have hjj : j = s.size - s.size % 4 := by omega
      have hm1 : s.size % 4 ≠ 1 := by
        have := HF.out
        have hle := badL_le (strL s)
        unfold faultL at this
        rw [length_strL] at this hle
        intro e1
        rw [e1] at this
        split at this
        · omega
        · rw [if_neg (by decide), if_pos rfl] at this; omega
      have HC : Hid (decL (strL s) = decL ((strL s).take j) ++ decL ((strL s).drop j)) := Lib.hid (by
        have := dec_cut (strL s) j hj4 (by rw [length_strL]; exact hj) s.size hj
        rw [List.take_of_length_le (by rw [length_strL]; omega)] at this
        exact this)
      have HLB : Hid (∀ W : World, Calls Tryd.prog 52 #[.string (s.extract (s.size - s.size % 4) s.size)] W fun e w' => e = .returned (.slice (some ⟨W.heap.size, 0, none⟩) (decL ((strL s).drop j)).length 3) ∧ Lies w' (some ⟨W.heap.size, 0, none⟩) (decL ((strL s).drop j)) ∧ Below W.heap.size W w') := Lib.hid fun W => by
        have e1 : strL (s.extract (s.size - s.size % 4) s.size) = (strL s).drop j := by
          rw [strL_extract, ← hjj, List.take_of_length_le (by rw [length_strL]; omega)]
        have hz : (s.extract (s.size - s.size % 4) s.size).size = s.size % 4 := by
          rw [← length_strL, e1, List.length_drop, length_strL]; omega
        have := lastBytes_any (s.extract (s.size - s.size % 4) s.size) W (by rw [hz]; omega) (by
          rw [e1]
          have := HGOOD.out.part j s.size
          rw [List.take_of_length_le (by rw [length_strL]; omega)] at this
          exact this)
        rw [e1] at this
        exact this
      have hn : (decL ((strL s).take j)).length ≤ 65536 := by rw [length_decL, List.length_take, length_strL]; omega
      have hm : (decL ((strL s).drop j)).length ≤ 65536 := by rw [length_decL, List.length_drop, length_strL]; omega
      obtain ⟨E, hE⟩ : ∃ E, E = decL ((strL s).drop j) := ⟨_, rfl⟩
      obtain ⟨D, hD⟩ : ∃ D, D = decL ((strL s).take j) := ⟨_, rfl⟩
      rw [← hE] at HC HLB hm
      rw [← hD] at HC HOW hn
      obtain ⟨n, hnn⟩ : ∃ n, n = D.length := ⟨_, rfl⟩
      obtain ⟨m, hmm⟩ : ∃ m, m = E.length := ⟨_, rfl⟩
      rw [← hnn] at HOW hn
      rw [← hmm] at HLB hm
      have HNM : Hid (n = D.length ∧ m = E.length) := Lib.hid ⟨hnn, hmm⟩
      have hsz : B ≤ wr.heap.size := by have := HBE.out.size; rw [← HB.out] at this; exact this
      clear hE hD hnn hmm hjj hm1
      have HNEW := Lib.hid (fun (w1 : World) (hlie : Lies w1 (some ⟨wr.heap.size, 0, none⟩) E) => show ∀ (t : Nat) (u : Value), (ints .u8 E)[t]? = some u → w1.cell? ((⟨wr.heap.size, 0, none⟩ : Addr).add t) = some u from fun t u hu => by
        have ht := (List.getElem?_eq_some_iff.1 hu).1
        rw [length_ints] at ht
        obtain ⟨b, o, he, _, _, hc⟩ := hlie (by omega)
        injection he with he
        injection he with he1 he2 _
        subst he1; subst he2
        rw [Addr.add_mid]
        exact hc t u hu)
      go_wp2_with (first
        | (go_at_call 52; refine (HLB.out _).mono ?_; rintro e w1 ⟨rfl, hlie, hb1⟩; have HO1 := Lib.hid (HOW.out.kept (w' := w1) (row := none) (grownBy_of_below hb1 none) (Classical.em _)); have HBE1 := Lib.hid (HBE.out.trans (hb1.mono hsz)); have hsz1 : B ≤ w1.heap.size := Nat.le_trans hsz hb1.size; have HN1 := Lib.hid (HNEW.out w1 hlie); clear hlie hb1)
        | (at_builtin; refine wpList_append_own _ rfl (.tmp 47) (.tmp 51) 37 rfl B 5 i0 (.int .u8 0) 1 1 Tryd.underlying37 hi0 hz0 hz1 hz2 rfl (by decide) _ n _ rfl HO1.out ⟨wr.heap.size, 0, none⟩ m 3 (ints .u8 E) rfl ?c1 HN1.out (one_ints _ _) ?c3 ?c4 hsz1 ?_))
      case c1 => rw [length_ints, HNM.out.2, Nat.mul_one]
      case c3 => unfold maxLen; omega
      case c4 => omega
      intro v' w2 hown2 hgr _
      have hbel2 : Below B w w2 := HBE1.out.grown hgr hsz1 (own_ge HO1.out)
      rw [← ints_append] at hown2
      obtain ⟨A, c, rfl, hc, hlie⟩ := own_lies hown2 (by rw [List.length_append, ← HNM.out.1, ← HNM.out.2])
      have hlen : n + m = (decL (strL s)).length := by rw [HC.out, List.length_append, ← HNM.out.1, ← HNM.out.2]
      have HR : Hid (n + m = (decL (strL s)).length ∧ n + m ≤ c ∧ Lies w2 A (decL (strL s)) ∧ Below w.heap.size w w2) := Lib.hid ⟨hlen, hc, by rw [HC.out]; exact hlie, by rw [← HB.out]; exact hbel2⟩
      clear hown2 hgr hbel2 hc hlie hlen
      go_wp2_with fail
      go_ret2
      exact ⟨A, c, by rw [← HR.out.1]; rfl, by rw [← HR.out.1]; exact HR.out.2.1, HR.out.2.2⟩
end Go.Proofs.YtdgpphihjeffcaaDoor
