/- The walks of strings.Builder's Write (of a builder that has grown) and of package b64's Encode. -/
import Derived.Test.YtdgpphihjeffcaaDoorB64Decode
import Derived.Test.YtdgpphihjeffcaaDoorShelf
namespace Go.Proofs.YtdgpphihjeffcaaDoor
open Go Go.RowKit

theorem strL_toU {l : List Int} (h : Bytes l) : strL ⟨(toU l).toArray⟩ = l := by
  simp only [strL, toU, List.map_map]
  conv => rhs; rw [← List.map_id l]
  refine List.map_congr_left fun x hx => ?_
  exact toU_nat (h.mem hx)
theorem byteCells_toUb {l : List Int} (h : Bytes l) : Lib.byteCells (toU l) = ints .u8 l := by
  simp only [Lib.byteCells, toU, List.map_map, ints]
  refine List.map_congr_left fun x hx => ?_
  simp only [Function.comp]
  rw [toU_nat (h.mem hx)]
theorem toU_strL (s : ByteArray) : (⟨(toU (strL s)).toArray⟩ : ByteArray) = s := strL_inj (strL_toU (strL_bd s))

/-! ### Write -/
theorem ptrInfo : (Tryd.prog.info? 48).map (·.size) = some 2 := by kernel_rfl
theorem copyCheck_used (b : Nat) (w : World) (h0 : w.cell? ⟨b, 0, none⟩ = some (.pointer (some ⟨b, 0, none⟩))) :
    Calls Tryd.prog 43 #[.pointer (some ⟨b, 0, none⟩)] w fun e w' => e = .returned (.tuple #[]) ∧ w = w' := by
  obtain ⟨j, hj, _⟩ := Option.map_eq_some_iff.1 ptrInfo
  have hne := Lib.run_neq_ptr_same (P := Tryd.prog) w ⟨b, 0, none⟩ Tryd.underlying46 hj
  go_enter Tryd.func43, Tryd.ntmps43
  go_wp2
  go_end0
  exact ⟨rfl, rfl⟩
abbrev Bld (B b : Nat) (bs : List Value) (w : World) : Prop := Lib.BuilderAt 48 5 B b (.pointer (some ⟨b, 0, none⟩)) bs w
set_option maxHeartbeats 1000000 in
theorem write_bld (B b : Nat) (bs : List Value) (ad : Addr) (n c : Nat) (xs : List Int) (w : World) (h : Bld B b bs w) (hn : xs.length = n) (hlen : bs.length + n ≤ 1073741824) (hBw : B ≤ w.heap.size)
    (hc : ∀ (j : Nat) (u : Value), (ints .u8 xs)[j]? = some u → w.cell? (ad.add j) = some u) :
    Calls Tryd.prog 31 #[.pointer (some ⟨b, 0, none⟩), .slice (some ad) n c] w fun e w' => e = .returned (.tuple #[.int .i64 (n : Int), .nilIface]) ∧ Bld B b (bs ++ ints .u8 xs) w' ∧ Below B w w' := by
  obtain ⟨i0, hi0, hz0, hz1, hz2⟩ := info_parts info5b
  have HCell := Lib.hid hc
  have HN := Lib.hid hn
  have H := Lib.hid h
  obtain ⟨hB, v, hbk, hown, hne⟩ := h
  have c0 : w.cell? ⟨b, 0, none⟩ = some (.pointer (some ⟨b, 0, none⟩)) := by rw [Lib.cell_of_heap hbk]; rfl
  have c1 : w.cell? ⟨b, 1, none⟩ = some v := by rw [Lib.cell_of_heap hbk]; rfl
  have HOW := Lib.hid hown
  have HBK := Lib.hid hbk
  have HNE := Lib.hid hne
  have HC0 := Lib.hid (copyCheck_used b w c0)
  obtain ⟨m, hm⟩ : ∃ m, m = bs.length := ⟨_, rfl⟩
  rw [← hm] at HOW hlen
  have HM := Lib.hid hm
  clear hm hc hn hown hbk hne c0
  go_enter Tryd.func31, Tryd.ntmps31
  go_wp2_with (first
    | (go_at_call 43; refine HC0.out.mono ?_; rintro e w' ⟨rfl, rfl⟩)
    | (at_builtin; refine wpList_append_own _ rfl (.tmp 12) (.tmp 13) 37 rfl B 5 i0 (.int .u8 0) 1 1 Tryd.underlying37 hi0 hz0 hz1 hz2 rfl (by decide) v m bs rfl HOW.out ad n c (ints .u8 xs) rfl ?c1 HCell.out (one_ints _ _) ?c3 ?c4 hBw ?_))
  case c1 => rw [length_ints, HN.out, Nat.mul_one]
  case c3 => unfold maxLen; omega
  case c4 => omega
  intro v' w2 hown' hgr _
  have hlt : b < w.heap.size := Lib.BuilderAt.lt H.out
  have hb2 : w2.heap[b]? = some (.cells #[.pointer (some ⟨b, 0, none⟩), v] 48 (0, 0)) := by
    rw [hgr.block b hlt (fun e => HNE.out e.symm)]
    exact HBK.out
  have d1 : w2.cell? ⟨b, 1, none⟩ = some v := by rw [Lib.cell_of_heap hb2]; rfl
  have f1 : w2.frozen? ⟨b, 1, none⟩ = false := Lib.frozen_of_heap hb2 1
  have HR : Hid (Bld B b (bs ++ ints .u8 xs) (w2.setCell ⟨b, 1, none⟩ v') ∧ Below B w (w2.setCell ⟨b, 1, none⟩ v')) := Lib.hid ⟨
    Lib.BuilderAt.put hB hb2 (bs' := bs ++ ints .u8 xs) (by rw [List.length_append, length_ints, HN.out, ← HM.out]; exact hown') (by decide),
    ((Below.refl B w).grown hgr hBw (own_ge HOW.out)).setCell (p := ⟨b, 1, none⟩) hB _⟩
  obtain ⟨ao, n', cap, rfl⟩ : ∃ ao n' cap, v' = .slice ao n' cap := by
    rcases hown'.2 with ⟨hv, _⟩ | ⟨g, cap, cur, hv, _⟩
    · exact ⟨_, _, _, hv⟩
    · exact ⟨_, _, _, hv⟩
  clear hown' hgr hb2
  go_wp2
  go_ret2
  exact ⟨rfl, HR.out.1, HR.out.2⟩

/-! ### Encode -/
theorem bld_below {B b : Nat} {bs : List Value} {w w' : World} (h : Bld B b bs w) (hb : Below w.heap.size w w') : Bld B b bs w' := by
  have hlt := Lib.BuilderAt.lt h
  obtain ⟨hB, v, hbk, hown, hne⟩ := h
  exact ⟨hB, v, (hb.block b hlt).trans hbk, hown.kept (row := none) (grownBy_of_below hb none) (Classical.em _), hne⟩
theorem spell_enc : ∀ (xs : List Int), xs.length ≤ 3 → Bytes xs → (spellL (joinB xs)).take ((8 * xs.length + 5) / 6) = encL xs
  | [], _, _ => rfl
  | [a], _, h => by
    have ha := h.mem (x := a) (by simp)
    simp only [joinB, spellL, encL, List.length_cons, List.length_nil]
    rw [show a * 65536 / 262144 % 64 = a / 4 by omega, show a * 65536 / 4096 % 64 = a % 4 * 16 by omega]
    rfl
  | [a, b], _, h => by
    have ha := h.mem (x := a) (by simp)
    have hb := h.mem (x := b) (by simp)
    simp only [joinB, spellL, encL, List.length_cons, List.length_nil]
    rw [show (a * 65536 + b * 256) / 262144 % 64 = a / 4 by omega, show (a * 65536 + b * 256) / 4096 % 64 = a % 4 * 16 + b / 16 by omega, show (a * 65536 + b * 256) / 64 % 64 = b % 16 * 4 by omega]
    rfl
  | [a, b, c], _, h => by
    have ha := h.mem (x := a) (by simp)
    have hb := h.mem (x := b) (by simp)
    have hc := h.mem (x := c) (by simp)
    simp only [joinB, spellL, encL, List.length_cons, List.length_nil]
    rw [show (a * 65536 + b * 256 + c) / 262144 % 64 = a / 4 by omega, show (a * 65536 + b * 256 + c) / 4096 % 64 = a % 4 * 16 + b / 16 by omega, show (a * 65536 + b * 256 + c) / 64 % 64 = b % 16 * 4 + c / 64 by omega, show (a * 65536 + b * 256 + c) % 64 = c % 64 by omega]
    rfl
  | _ :: _ :: _ :: _ :: _, h, _ => by simp at h

theorem z4 : (Tryd.prog.info? 50).map (·.zero) = some (some (.agg (ints .u8 [0, 0, 0, 0]).toArray)) := by kernel_rfl
theorem s4 : (Tryd.prog.info? 50).map (·.size) = some 4 := by kernel_rfl
theorem s1u8 : (Tryd.prog.info? 5).map (·.size) = some 1 := by kernel_rfl
theorem encL_bytes {l : List Int} (h : Bytes l) : Bytes (encL l) := .of_mem fun c hc => by
  obtain ⟨n, h0, h1, rfl⟩ := encL_signs l (fun x hx => h.mem hx) c hc
  have := sg_bd n ⟨h0, h1⟩
  omega
theorem length_spellL (x : Int) : (spellL x).length = 4 := rfl
set_option maxRecDepth 100000 in
set_option maxHeartbeats 2000000 in
theorem encode_any (A : Option Addr) (xs : List Int) (n c : Nat) (w : World) (hn : xs.length = n) (hn2 : n ≤ 1000000) (hx : Bytes xs) (hl : Lies w A xs) (hcap : n ≤ c) :
    Calls Tryd.prog 18 #[.slice A n c] w fun e w' => e = .returned (.string ⟨(toU (encL xs)).toArray⟩) ∧ Below w.heap.size w w' := by
  have hgrow := Tryd.Builder_Grow_fresh w.heap.size w.heap.size (n / 3 * 4 + 4) (w.alloc (.cells #[.pointer none, .slice none 0 0] 48)) (Nat.le_refl _) (heap_alloc_new w _) (by simp) (by omega)
  rw [show ((n / 3 * 4 + 4 : Nat) : Int) = (n : Int) / 3 * 4 + 4 from by omega] at hgrow
  have HGR := Lib.hid hgrow
  have HN := Lib.hid hn
  have HX := Lib.hid hx
  have HL := Lib.hid hl
  have hwhole := fun (g : Nat) (W : World) => run_sliceAt_whole (P := Tryd.prog) 50 5 4 Tryd.underlying50 s1u8 g 0 (by decide) W
  clear hgrow hn hx hl
  go_enter Tryd.func18, Tryd.ntmps18
  go_wp2_with (go_at_call 28; refine HGR.out.mono ?_; rintro e w1 ⟨rfl, hbld, hbel⟩; have HS := Lib.hid (show Bld w.heap.size w.heap.size [] w1 ∧ Below w.heap.size w w1 from ⟨hbld, (belowAlloc w _).trans hbel⟩); clear hbld hbel HGR)
  go_loopw [0] (fun v wr => ∃ (k : Nat) (A' : Option Addr), 3 * k ≤ n ∧ v = .slice A' (n - 3 * k) (c - 3 * k) ∧ Lies w A' (xs.drop (3 * k)) ∧ Bld w.heap.size w.heap.size (ints .u8 (encL (xs.take (3 * k)))) wr ∧ Below w.heap.size w wr) (fun v _ => match v with | .slice _ m _ => m | _ => 0)
  case atStart => exact ⟨0, A, by omega, rfl, HL.out, HS.out.1, HS.out.2⟩
  case round =>
    clear HS
    obtain ⟨k, A', hk, rfl, hlie, hbld, hbel⟩ := hrel
    have HLI := Lib.hid hlie
    have HBD := Lib.hid hbld
    have HBE := Lib.hid hbel
    clear hlie hbld hbel
    obtain ⟨m, hm⟩ : ∃ m, m = n - 3 * k := ⟨_, rfl⟩
    obtain ⟨d, hd⟩ : ∃ d, d = c - 3 * k := ⟨_, rfl⟩
    have HM : Hid (m = n - 3 * k) := Lib.hid hm
    have HD : Hid (d = c - 3 * k) := Lib.hid hd
    rw [← hm, ← hd]
    have hmn : m ≤ 1000000 := by omega
    have hmd : m ≤ d := by omega
    clear hm hd
    have hsz : w.heap.size ≤ wr.heap.size := HBE.out.size
    have hrl : (xs.drop (3 * k)).length = m := by rw [List.length_drop, HN.out, HM.out]
    have hrb : Bytes (xs.drop (3 * k)) := HX.out.drop _
    have hel : (encL (xs.take (3 * k))).length ≤ 2000000 := by rw [length_encL, List.length_take, HN.out]; omega
    by_cases hlt : 3 ≤ m
    · have hge : (3 : Int) ≤ (m : Int) := by omega
      obtain ⟨b, o, rfl, _, _⟩ := HLI.out.at (by rw [hrl]; omega)
      have HL2 : Hid (Lies w (if d = 3 then some ⟨b, o, none⟩ else some ⟨b, o + 3, none⟩) (xs.drop (3 * (k + 1)))) := Lib.hid (by
        by_cases h3 : d = 3
        · have : xs.drop (3 * (k + 1)) = [] := List.drop_eq_nil_of_le (by rw [HN.out]; have := HM.out; omega)
          rw [this]; exact fun h => absurd h (by simp)
        · rw [if_neg h3]
          have := Lies.of (Src.drop HLI.out 3)
          rw [List.drop_drop, Option.map_some, Addr.add_mid] at this
          rwa [show 3 * (k + 1) = 3 * k + 3 by omega])
      have h3l : ((xs.drop (3 * k)).take 3).length = 3 := by rw [List.length_take, hrl]; omega
      have hjb := joinB_bd (hrb.take 3)
      have HJ := Lib.hid (fun (W : World) (hb : Below w.heap.size w W) => joinBytes_any _ ((xs.drop (3 * k)).take 3) 3 d W h3l (by omega) (hrb.take 3) ((HLI.out.take 3).below hb))
      have HEN : Hid (encL (xs.take (3 * (k + 1))) = encL (xs.take (3 * k)) ++ spellL (joinB ((xs.drop (3 * k)).take 3))) := Lib.hid (by
        have h1 := spell_enc _ (by rw [h3l]; exact Nat.le_refl _) (hrb.take 3)
        rw [h3l, List.take_of_length_le (by rw [length_spellL]; decide)] at h1
        rw [h1, ← encL_append _ _ (by rw [List.length_take, HN.out]; have := HM.out; omega)]
        congr 1
        rw [show 3 * (k + 1) = 3 * k + 3 by omega, List.take_add])
      obtain ⟨x, hxx⟩ : ∃ x, x = joinB ((xs.drop (3 * k)).take 3) := ⟨_, rfl⟩
      rw [← hxx] at hjb HJ HEN
      obtain ⟨x0, x1⟩ := hjb
      have HSP := Lib.hid (fun (W : World) => b64Spell_any x W x0 x1)
      obtain ⟨L, hL⟩ : ∃ L, L = spellL x := ⟨_, rfl⟩
      have hL4 : L.length = 4 := by rw [hL]; rfl
      rw [← hL] at HEN HSP
      have HL4 := Lib.hid hL4
      clear h3l hxx hL hL4 hrl hrb
      go_wp2_with (first
        | (go_at_call 30; refine (HJ.out _ HBE.out).mono ?_; rintro e w' ⟨rfl, rfl⟩)
        | (go_at_call 29; refine (HSP.out _).mono ?_; rintro e w2 ⟨rfl, hb2⟩; have HB2 := Lib.hid hb2; clear hb2)
        | (refine wpList_alloc_blk rfl (some 4) rfl _ rfl _ z4 ?_; intro g w3 hg hbg hgr; have HB3 := Lib.hid (HB2.out.grown hgr HB2.out.size (by simp)); have hg2 : wr.heap.size ≤ g := Nat.le_trans HB2.out.size hg; clear hgr; try go_frame)
        | (refine wpList_store_blk rfl none rfl _ (.tmp 4) (.tmp 20) rfl g 0 (ints .u8 L) rfl rfl _ _ hbg (by simp [HL4.out]) (by rw [s4, length_ints, HL4.out]) (one_ints _ _) ?_; intro w4 hbg4 hgr; rw [splice_all _ _ (by simp [HL4.out])] at hbg4; have HB4 := Lib.hid (HB3.out.grown hgr HB3.out.size (by intro k hk; injection hk with hk; omega)); have HG4 := Lib.hid hbg4; clear hgr hbg hbg4; try go_frame))
      refine (write_bld w.heap.size w.heap.size (ints .u8 (encL (xs.take (3 * k)))) ⟨g, 0, none⟩ 4 4 L w4 (bld_below HBD.out HB4.out) HL4.out (by rw [length_ints]; omega) (Nat.le_trans hsz HB4.out.size) (fun j u hu => by rw [Addr.add_mid, Nat.zero_add, HG4.out.cell]; exact hu)).mono ?_
      rintro e w5 ⟨rfl, hbld5, hbel5⟩
      have HF : Hid (Bld w.heap.size w.heap.size (ints .u8 (encL (xs.take (3 * (k + 1))))) w5 ∧ Below w.heap.size w w5) := Lib.hid ⟨by rw [HEN.out, ints_append]; exact hbld5, (HBE.out.trans (HB4.out.mono hsz)).trans hbel5⟩
      clear hbld5 hbel5
      go_wp2_with fail
      go_roundw
      case rel => exact ⟨k + 1, _, by have := HM.out; omega, by rw [show n - 3 * (k + 1) = m - 3 by have := HM.out; omega, show c - 3 * (k + 1) = d - 3 by have := HD.out; omega], HL2.out, HF.out.1, HF.out.2⟩
      case measure => simp; omega
    · have hge : ¬ (3 : Int) ≤ (m : Int) := by omega
      have hjb := joinB_bd hrb
      have HJ := Lib.hid (joinBytes_any A' (xs.drop (3 * k)) m d wr hrl (by omega) hrb (HLI.out.below HBE.out))
      have HEN : Hid (encL xs = encL (xs.take (3 * k)) ++ (spellL (joinB (xs.drop (3 * k)))).take ((8 * m + 5) / 6)) := Lib.hid (by
        have h1 := spell_enc _ (by rw [hrl]; omega) hrb
        rw [hrl] at h1
        rw [h1, ← encL_append _ _ (by rw [List.length_take, HN.out]; omega), List.take_append_drop])
      obtain ⟨x, hxx⟩ : ∃ x, x = joinB (xs.drop (3 * k)) := ⟨_, rfl⟩
      rw [← hxx] at hjb HJ HEN
      obtain ⟨x0, x1⟩ := hjb
      have HSP := Lib.hid (fun (W : World) => b64Spell_any x W x0 x1)
      have HSF := Lib.hid (fun (W : World) => signsFor_any m W (by omega))
      obtain ⟨L, hL⟩ : ∃ L, L = spellL x := ⟨_, rfl⟩
      have hL4 : L.length = 4 := by rw [hL]; rfl
      rw [← hL] at HEN HSP
      have HL4 := Lib.hid hL4
      obtain ⟨q, hq⟩ : ∃ q, q = (8 * m + 5) / 6 := ⟨_, rfl⟩
      have hq4 : q ≤ 4 := by omega
      rw [← hq] at HSF HEN
      have hto := fun (g : Nat) (W : World) => run_sliceAt_to (P := Tryd.prog) 50 5 4 Tryd.underlying50 s1u8 g 0 q (by decide) hq4 .i64 W
      have hLq : (L.take q).length = q := by rw [List.length_take, hL4]; omega
      have HLQ := Lib.hid hLq
      clear hxx hL hL4 hrl hrb hq hLq
      go_wp2_with (first
        | (go_at_call 30; refine HJ.out.mono ?_; rintro e w' ⟨rfl, rfl⟩)
        | (go_at_call 29; refine (HSP.out _).mono ?_; rintro e w2 ⟨rfl, hb2⟩; have HB2 := Lib.hid hb2; clear hb2)
        | (go_at_call 32; refine (HSF.out _).mono ?_; rintro e w' ⟨rfl, rfl⟩)
        | (refine wpList_alloc_blk rfl (some 5) rfl _ rfl _ z4 ?_; intro g w3 hg hbg hgr; have HB3 := Lib.hid (HB2.out.grown hgr HB2.out.size (by simp)); have hg2 : wr.heap.size ≤ g := Nat.le_trans HB2.out.size hg; clear hgr; try go_frame)
        | (refine wpList_store_blk rfl none rfl _ (.tmp 5) (.tmp 25) rfl g 0 (ints .u8 L) rfl rfl _ _ hbg (by simp [HL4.out]) (by rw [s4, length_ints, HL4.out]) (one_ints _ _) ?_; intro w4 hbg4 hgr; rw [splice_all _ _ (by simp [HL4.out])] at hbg4; have HB4 := Lib.hid (HB3.out.grown hgr HB3.out.size (by intro k hk; injection hk with hk; omega)); have HG4 := Lib.hid hbg4; clear hgr hbg hbg4; try go_frame))
      refine (write_bld w.heap.size w.heap.size (ints .u8 (encL (xs.take (3 * k)))) ⟨g, 0, none⟩ q 4 (L.take q) w4 (bld_below HBD.out HB4.out) HLQ.out (by rw [length_ints]; omega) (Nat.le_trans hsz HB4.out.size) (fun j u hu => by
        rw [Addr.add_mid, Nat.zero_add, HG4.out.cell]
        have hj := (List.getElem?_eq_some_iff.1 hu).1
        rw [length_ints, HLQ.out] at hj
        rw [ints, List.map_take, List.getElem?_take, if_pos hj] at hu
        exact hu)).mono ?_
      rintro e w5 ⟨rfl, hbld5, hbel5⟩
      have HF : Hid (Lib.IsBuilder 48 5 w.heap.size w.heap.size (Lib.byteCells (toU (encL xs))) w5 ∧ Below w.heap.size w w5) := Lib.hid ⟨.inr (by rw [byteCells_toUb (encL_bytes HX.out), HEN.out, ints_append]; exact hbld5), (HBE.out.trans (HB4.out.mono hsz)).trans hbel5⟩
      clear hbld5 hbel5
      go_wp2_with (go_at_call 33; refine (Tryd.Builder_String_any w.heap.size w.heap.size (toU (encL xs)) w5 HF.out.1 HF.out.2.size).mono ?_; rintro e w6 ⟨rfl, hb6⟩; have HB6 := Lib.hid hb6; clear hb6)
      go_ret
      exact ⟨rfl, HF.out.2.trans HB6.out⟩
end Go.Proofs.YtdgpphihjeffcaaDoor
