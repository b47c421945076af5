/- LxQuo, LxQuote: merged. -/
import Derived.Test.YtcjfealalokjaaaGreatDoorPa06
import Derived.Test.YtcjfealalokjaaaGreatDoorPa09
set_option linter.all false
namespace Go.Proofs.YtcjfealalokjaaaGreatDoor
open Go Go.RowKit
theorem strCells_toS {l : List Int} (h : Bytes l) : Lib.strCells (toS l) = ints .u8 l := by rw [strCells_strL, strL_toS h]
/-- Where a scanner stands. -/
def posS (w : World) (b : Nat) : Nat := match w.cell? ⟨b, 1, none⟩ with | some (.int _ x) => x.toNat | _ => 0
theorem ScAt.posS {w : World} {b : Nat} {s : ByteArray} {p : Nat} (h : ScAt w b s p) : posS w b = p := by
  unfold Go.Proofs.YtcjfealalokjaaaGreatDoor.posS; rw [h.cells.2.1]; exact Int.toNat_natCast p
/-- A builder and a scanner below it, when the scanner's own function has run. -/
theorem IsBld.moved {B tb b : Nat} {bs : List Value} {w w' : World} (h : IsBld B tb bs w) (hg : w.grownBy w' (some b)) (hb : b < B) : IsBld B tb bs w' := h.kept hg hb
theorem IsBld.drewS {B tb : Nat} {bs : List Value} {w : World} (h : IsBld B tb bs w) (q : Nat) : IsBld B tb bs (w.drewN q) := h.below (below_drewN (Below.refl _ _) q)
/-- What holds while a text is read: the text so far, how far. -/
structure QuInv (w wr : World) (b : Nat) (s : ByteArray) (p : Nat) (j : Nat) (M : List Int) : Prop where
  sc : ScAt wr b s (p + 1 + j)
  bld : IsBld w.heap.size w.heap.size (ints .u8 M) wr
  grown : w.grownBy wr (some b)
  bytes : Bytes M
  len : M.length ≤ j
  le : p + 1 + j ≤ s.size
  run : ∃ f, ((strL s).drop (p + 1 + j)).length < f ∧ quotN ((strL s).drop (p + 1)) = appQ M j (quotF f ((strL s).drop (p + 1 + j)))
def QuTells (w : World) (b : Nat) (s : ByteArray) (p : Nat) (e : Ending) (w' : World) : Prop :=
  ((quotN ((strL s).drop (p + 1))).2.2 = true ∧ e = .returned (.tuple #[.string (toS (quotN ((strL s).drop (p + 1))).1), .nilIface]) ∧ MovedS w w' b s (p + 1 + (quotN ((strL s).drop (p + 1))).2.1)) ∨
  ((quotN ((strL s).drop (p + 1))).2.2 = false ∧ ∃ v, e = .returned (.tuple #[.string ⟨#[]⟩, v]) ∧ AtE ((p + 1 + (quotN ((strL s).drop (p + 1))).2.1 : Nat) : Int) 110 w v w' ∧ w.grownBy w' (some b))
theorem ahN_drop (l : List Int) (p : Nat) : ahN l p = (l.drop p).getD 0 0 := by
  unfold ahN
  rw [List.getD_eq_getElem?_getD, List.getD_eq_getElem?_getD, List.getElem?_drop, Nat.add_zero]
theorem esc_three (c : Int) : (c = 34) ∨ (c = 92) ∨ (c ≠ 34 ∧ c ≠ 92 ∧ (c == 34) = false ∧ (c == 92) = false) := by
  by_cases h : c = 34
  · exact .inl h
  · by_cases h2 : c = 92
    · exact .inr (.inl h2)
    · exact .inr (.inr ⟨h, h2, by rw [beq_eq_false_iff_ne]; exact h, by rw [beq_eq_false_iff_ne]; exact h2⟩)
theorem head_drop {l : List Int} {p : Nat} {c : Int} (hc : c ≠ 0) (h : ahN l p = c) : l.drop p = c :: l.drop (p + 1) ∧ p < l.length := by
  have hp : p < l.length := by
    rcases Nat.lt_or_ge p l.length with h' | h'
    · exact h'
    · unfold ahN at h; rw [List.getD_eq_getElem?_getD, List.getElem?_eq_none h'] at h; exact absurd h.symm hc
  refine ⟨?_, hp⟩
  unfold ahN at h
  rw [List.getD_eq_getElem?_getD, List.getElem?_eq_getElem hp] at h
  rw [List.drop_eq_getElem_cons hp]
  congr 1
theorem grown_low {w A A' : World} {row : Option Nat} (h : w.grownBy A row) (hb : Below w.heap.size A A') : w.grownBy A' row :=
  ⟨hb.os.trans h.os, hb.tape.trans h.tape, hb.output.trans h.output, Nat.le_trans h.size hb.size, fun i hi hr => (hb.block i hi).trans (h.block i hi hr)⟩
theorem ahN_cons {l : List Int} {p : Nat} {c : Int} {r : List Int} (h : l.drop p = c :: r) : ahN l (p + 1) = r.getD 0 0 ∧ r = l.drop (p + 1) := by
  have hr : r = l.drop (p + 1) := by rw [← List.drop_drop, h]; rfl
  exact ⟨by rw [hr, ahN_drop], hr⟩
theorem qu_end {l : List Int} {P f : Nat} (hf : (l.drop P).length < f) (hc : ahN l (P + plainN (l.drop P)) = 34) : quotF f (l.drop P) = appQ ((l.drop P).take (plainN (l.drop P))) (plainN (l.drop P)) ([], 1, true) := by
  obtain ⟨g, hg, he⟩ := quotF_plain _ _ (Nat.le_refl _) f hf
  rw [List.drop_drop] at he hg
  rw [he]
  obtain ⟨h1, h2⟩ := head_drop (by decide) hc
  rw [h1] at hg ⊢
  obtain ⟨g', rfl⟩ : ∃ g', g = g' + 1 := ⟨g - 1, by omega⟩
  rw [quotF_end]
theorem qu_esc {l : List Int} {P f : Nat} {d : Int} (hf : (l.drop P).length < f) (hc : ahN l (P + plainN (l.drop P)) = 92) (hd : ahN l (P + plainN (l.drop P) + 1) = d) (hd2 : d = 34 ∨ d = 92) :
    P + plainN (l.drop P) + 2 ≤ l.length ∧ ((l.drop (P + plainN (l.drop P) + 1)).take 1 = [d]) ∧ ∃ g, (l.drop (P + plainN (l.drop P) + 2)).length < g ∧ quotF f (l.drop P) = appQ ((l.drop P).take (plainN (l.drop P)) ++ [d]) (plainN (l.drop P) + 2) (quotF g (l.drop (P + plainN (l.drop P) + 2))) := by
  obtain ⟨g, hg, he⟩ := quotF_plain _ _ (Nat.le_refl _) f hf
  rw [List.drop_drop] at he hg
  obtain ⟨h1, h2⟩ := head_drop (by decide) hc
  obtain ⟨h3, h4⟩ := head_drop (by rcases hd2 with rfl | rfl <;> decide) hd
  refine ⟨by omega, by rw [h3]; rfl, ?_⟩
  rw [he, h1, h3]
  rw [h1, h3, List.length_cons, List.length_cons] at hg
  obtain ⟨g', rfl⟩ : ∃ g', g = g' + 1 := ⟨g - 1, by omega⟩
  refine ⟨g', Nat.lt_of_succ_lt (Nat.lt_of_succ_lt_succ hg), ?_⟩
  rw [quotF_esc hd2, appQ_app]
theorem qu_esc_no {l : List Int} {P f : Nat} (hf : (l.drop P).length < f) (hc : ahN l (P + plainN (l.drop P)) = 92) (hd : ¬ (ahN l (P + plainN (l.drop P) + 1) = 34 ∨ ahN l (P + plainN (l.drop P) + 1) = 92)) :
    quotF f (l.drop P) = appQ ((l.drop P).take (plainN (l.drop P))) (plainN (l.drop P)) ([], 1, false) ∧ P + plainN (l.drop P) + 1 ≤ l.length := by
  obtain ⟨g, hg, he⟩ := quotF_plain _ _ (Nat.le_refl _) f hf
  rw [List.drop_drop] at he hg
  obtain ⟨h1, h2⟩ := head_drop (by decide) hc
  rw [ahN_drop] at hd
  refine ⟨?_, h2⟩
  rw [he]
  rw [h1] at hg ⊢
  obtain ⟨g', rfl⟩ : ∃ g', g = g' + 1 := ⟨g - 1, by omega⟩
  rw [quotF_esc_no (fun hq => hd hq.2)]
theorem qu_fails {l : List Int} {P f : Nat} (hf : (l.drop P).length < f) (h1 : ahN l (P + plainN (l.drop P)) ≠ 34) (h2 : ahN l (P + plainN (l.drop P)) ≠ 92) : quotF f (l.drop P) = appQ ((l.drop P).take (plainN (l.drop P))) (plainN (l.drop P)) ([], 0, false) := by
  obtain ⟨g, hg, he⟩ := quotF_plain _ _ (Nat.le_refl _) f hf
  have hb := plainN_behind _ (l.drop P) (Nat.le_refl _)
  rw [List.drop_drop] at he hg hb
  rw [ahN_drop] at h1 h2
  rw [he, quotF_fails hb h1 h2]
theorem ahN_bd {l : List Int} (h : Bytes l) (p : Nat) : 0 ≤ ahN l p ∧ ahN l p ≤ 255 := h p
set_option maxRecDepth 100000 in
set_option maxHeartbeats 8000000 in
theorem quoted_any (b : Nat) (s : ByteArray) (p : Nat) (w : World) (hM : Marks w) (h : ScAt w b s p) (hp : p < s.size) (hs : s.size ≤ 1000000) :
    Calls Tryz.prog 99 #[.pointer (some ⟨b, 0, none⟩)] w (QuTells w b s p) := by
  have HM := Lib.hid hM
  have hbl := h.lt
  have hgm : 2 ≠ b := fun e => by
    have h1 := h
    have h2 : Blk w 2 225 (ints .i64 [0, 0, 192, 224, 240]) := hM
    rw [← e] at h1
    have := h1.inj h2
    simp [ints] at this
  have HMG := Lib.hid (fun (W : World) (hg : w.grownBy W (some b)) => show Marks W from Blk.grown HM.out hg (fun e => hgm (Option.some.inj e)))
  have HSC := Lib.hid h
  obtain ⟨c0, c1, f0, f1⟩ := h.cells
  clear h hM
  go_enter Tryz.func99, Tryz.ntmps99
  go_wp2_with fail
  go_loopw [] (fun wr => ∃ (j : Nat) (M : List Int), QuInv w wr b s p j M) (fun wr => s.size - posS wr b)
  case atStart =>
    refine ⟨0, [], ?_⟩
    have h1 := (belowAlloc (w.setCell ⟨b, 1, none⟩ (.int .i64 ((p : Int) + 1))) (.cells #[.pointer none, .slice none 0 0] 75))
    have h2 : ScAt (w.setCell ⟨b, 1, none⟩ (.int .i64 ((p : Int) + 1))) b s (p + 1) := ScAt.goes HSC.out (p + 1)
    have h3 := bld_new (w.setCell ⟨b, 1, none⟩ (.int .i64 ((p : Int) + 1)))
    rw [World.size_setCell] at h3
    exact ⟨Blk.below h2 h1 h2.lt, h3, (grownBy_setCell w b 1 _).trans (grownBy_of_below h1 _), .of_mem (by simp), Nat.le_refl _, by omega, _, Nat.lt_succ_self _, rfl⟩
  case round =>
    obtain ⟨j, M, hI⟩ := hrel
    obtain ⟨P, hP⟩ : ∃ P, P = p + 1 + j := ⟨_, rfl⟩
    have hsc := hI.sc
    have hbld := hI.bld
    have hgr := hI.grown
    have hMl := hI.len
    have hPs := hI.le
    have hMB := hI.bytes
    obtain ⟨f, hf, hrun⟩ := hI.run
    rw [← hP] at hsc hf hrun hPs
    have hpos : posS wr b = P := hsc.posS
    have hkl := plainN_le' ((strL s).drop P)
    rw [List.length_drop, length_strL] at hkl
    have HRE := Lib.hid (rest_any b s P wr hsc hPs (by omega))
    have HLP := Lib.hid (fun (W : World) (hW : Marks W) => leadPlain_any (aheadS s P) W hW (by rw [aheadS_size]; omega))
    rw [aheadS_L] at HLP
    have HE1 := Lib.hid (fun hc => qu_end (l := strL s) hf hc)
    have HE2 := Lib.hid (fun (d : Int) hc hd hd2 => qu_esc (l := strL s) (d := d) hf hc hd hd2)
    have HE3 := Lib.hid (fun hc hd => qu_esc_no (l := strL s) hf hc hd)
    have HE4 := Lib.hid (fun h1 h2 => qu_fails (l := strL s) hf h1 h2)
    obtain ⟨k, hk⟩ : ∃ k, k = plainN ((strL s).drop P) := ⟨_, rfl⟩
    rw [← hk] at HLP HE1 HE2 HE3 HE4 hkl
    have HTK := Lib.hid (fun (W : World) (hW : ScAt W b s P) => take_any b s P k W hW (by omega) (by omega))
    obtain ⟨X, hX⟩ : ∃ X, X = ((strL s).drop P).take k := ⟨_, rfl⟩
    have hXb : Bytes X := by rw [hX]; exact ((strL_bd s).drop P).take k
    have hXl : X.length ≤ k := by rw [hX, List.length_take]; omega
    rw [← hX] at HTK HE1 HE2 HE3 HE4
    have HXB := Lib.hid (And.intro hXb hMB)
    have HXC := Lib.hid (strCells_toS hXb)
    have hTs : (toS X).size ≤ 1000000 := by rw [size_toS]; omega
    obtain ⟨T, hT⟩ : ∃ T, T = toS X := ⟨_, rfl⟩
    rw [← hT] at HTK hTs HXC
    have hMs : M.length ≤ 1000000 := by omega
    have HGR := Lib.hid hgr
    have HBL := Lib.hid hbld
    have HRUN := Lib.hid hrun
    have HSR := Lib.hid hsc
    have HPP : Hid (P = p + 1 + j) := Lib.hid hP
    obtain ⟨Z, hZ⟩ : ∃ Z, Z = quotN ((strL s).drop (p + 1)) := ⟨_, rfl⟩
    have HZ := Lib.hid hZ
    rw [← hZ] at HRUN
    clear hI hsc hbld hgr hrun hk hX hT hP hMB hXb hf hZ
    go_wp2_with fail
    refine HRE.out.mono ?_
    rintro e w1 ⟨rfl, q1, rfl⟩
    go_wp2_with fail
    refine (HLP.out _ (HMG.out _ (grownBy_drewN HGR.out q1))).mono ?_
    rintro e w2 ⟨rfl, hb2⟩
    have HB2 := Lib.hid ((below_drewN (Below.refl wr.heap.size wr) q1).trans hb2)
    have HG2 := Lib.hid (HGR.out.trans (grownBy_of_below HB2.out (some b)))
    have HS2 := Lib.hid (show ScAt w2 b s P from Blk.below HSR.out HB2.out HSR.out.lt)
    have HL2 := Lib.hid (HBL.out.below HB2.out)
    clear hb2
    go_wp2_with fail
    refine (HTK.out w2 HS2.out).mono ?_
    rintro e w3 ⟨rfl, hg3, hs3⟩
    have HG3 := Lib.hid (HG2.out.trans hg3)
    have HS3 := Lib.hid hs3
    have HL3 := Lib.hid (HL2.out.moved hg3 hbl)
    have hsz3 : w.heap.size ≤ w3.heap.size := HG3.out.size
    clear hg3 hs3
    go_wp2_with fail
    refine (writeS_any w.heap.size w.heap.size (ints .u8 M) T w3 HL3.out (by rw [length_ints]; omega) hsz3).mono ?_
    rintro e w4 ⟨rfl, hb4, hl4⟩
    rw [HXC.out, ← ints_append] at hb4
    have HG4 := Lib.hid (grown_low HG3.out hl4)
    have HS4 := Lib.hid (show ScAt w4 b s (P + k) from Blk.below HS3.out hl4 hbl)
    have HL4 := Lib.hid hb4
    have HAH := Lib.hid (ahead_any b s (P + k) w4 HS4.out (by omega) (by omega))
    have hcb := ahN_bd (strL_bd s) (P + k)
    clear hb4 hl4
    obtain ⟨c, hc⟩ : ∃ c, c = ahN (strL s) (P + k) := ⟨_, rfl⟩
    rw [← hc] at HAH HE1 HE2 HE3 HE4 hcb
    clear hc
    go_wp2_with fail
    refine HAH.out.mono ?_
    rintro e w5 ⟨rfl, q5, rfl⟩
    rcases esc_three c with rfl | rfl | ⟨n1, n2, e1, e2⟩
    · have HQ : Hid (Z = (M ++ X, 1 + k + j, true)) := Lib.hid (HRUN.out.trans (by rw [HE1.out rfl]; simp [appQ]))
      obtain ⟨c0, c1, f0, f1⟩ := ScAt.cells (Blk.drewN HS4.out q5)
      have HST := Lib.hid (fun (W : World) (hW : IsBld w.heap.size w.heap.size (ints .u8 (M ++ X)) W) (hB : w.heap.size ≤ W.heap.size) => bldString w.heap.size w.heap.size (M ++ X) W (HXB.out.2.append HXB.out.1) hW hB)
      clear HE1 HE2 HE3 HE4
      go_wp2_with fail
      have HL6 := Lib.hid ((HL4.out.drewS q5).moved (grownBy_setCell (w4.drewN q5) b 1 (.int .i64 ((P : Int) + (k : Int) + 1))) hbl)
      refine (HST.out _ HL6.out (by have := HG4.out.size; simp; omega)).mono ?_
      rintro e w6 ⟨rfl, hb6⟩
      have HB6 := Lib.hid hb6
      clear hb6
      go_wp2
      go_ret2
      unfold QuTells
      rw [← HZ.out, HQ.out]
      refine .inl ⟨rfl, rfl, grown_low ((grownBy_drewN HG4.out q5).trans (grownBy_setCell _ b 1 _)) HB6.out, ?_⟩
      have h1 := ScAt.goes (Blk.drewN HS4.out q5) (P + k + 1)
      have h2 : ScAt w6 b s (P + k + 1) := Blk.below h1 HB6.out hbl
      rw [show p + 1 + (1 + k + j) = P + k + 1 by have := HPP.out; omega]
      exact h2
    · obtain ⟨c0, c1, f0, f1⟩ := ScAt.cells (Blk.drewN HS4.out q5)
      have hlen : P + k + 1 ≤ s.size := by
        by_cases hd : ahN (strL s) (P + k + 1) = 34 ∨ ahN (strL s) (P + k + 1) = 92
        · have := (HE2.out _ rfl rfl hd).1; rw [length_strL] at this; omega
        · have := (HE3.out rfl hd).2; rw [length_strL] at this; exact this
      have HS5 := Lib.hid (ScAt.goes (Blk.drewN HS4.out q5) (P + k + 1))
      rw [show ((P + k + 1 : Nat) : Int) = (P : Int) + (k : Int) + 1 by omega] at HS5
      have HG5 := Lib.hid ((grownBy_drewN HG4.out q5).trans (grownBy_setCell (w4.drewN q5) b 1 (.int .i64 ((P : Int) + (k : Int) + 1))))
      have HL5 := Lib.hid ((HL4.out.drewS q5).moved (grownBy_setCell (w4.drewN q5) b 1 (.int .i64 ((P : Int) + (k : Int) + 1))) hbl)
      obtain ⟨W5, hW5⟩ : ∃ W, W = (w4.drewN q5).setCell ⟨b, 1, none⟩ (.int .i64 ((P : Int) + (k : Int) + 1)) := ⟨_, rfl⟩
      rw [← hW5] at HS5 HG5 HL5
      have HW5 := hW5.symm
      clear hW5
      have HAH2 := Lib.hid (ahead_any b s (P + k + 1) W5 HS5.out hlen (by omega))
      have hdb := ahN_bd (strL_bd s) (P + k + 1)
      have HMU := Lib.hid (fun W : World => must_any (ahN (strL s) (P + k + 1)) W)
      have HFA := Lib.hid (fun (q : Nat) => fault_any b s (P + k + 1) 110 (W5.drewN q) (Blk.drewN HS5.out q))
      have HT1 := Lib.hid (fun (hl : P + k + 1 + 1 ≤ s.size) (q : Nat) => take_any b s (P + k + 1) 1 (W5.drewN q) (Blk.drewN HS5.out q) hl (by omega))
      by_cases hd : ahN (strL s) (P + k + 1) = 34 ∨ ahN (strL s) (P + k + 1) = 92
      · obtain ⟨hlen2, htk, g, hg, hq⟩ := HE2.out _ rfl rfl hd
        rw [length_strL] at hlen2
        have he : escC (ahN (strL s) (P + k + 1)) = true := decide_eq_true hd
        rw [he] at HMU
        have HT2 := Lib.hid (HT1.out hlen2)
        rw [htk] at HT2
        obtain ⟨d, hdd⟩ : ∃ d, d = ahN (strL s) (P + k + 1) := ⟨_, rfl⟩
        rw [← hdd] at HAH2 hdb HMU HT2 hq
        have HDB : Hid (Bytes [d]) := Lib.hid (.of_mem fun x hx => by rw [List.mem_singleton.1 hx]; exact hdb)
        have HDC := Lib.hid (strCells_toS HDB.out)
        have hTd : (toS [d]).size = 1 := size_toS _
        obtain ⟨U, hU⟩ : ∃ U, U = toS [d] := ⟨_, rfl⟩
        rw [← hU] at HT2 HDC hTd
        have HQ : Hid (Z = appQ (M ++ X ++ [d]) (k + 2 + j) (quotF g ((strL s).drop (P + k + 2)))) := Lib.hid (by
          rw [HRUN.out, hq, appQ_app]
          congr 1
          · simp
          · omega)
        have HGG := Lib.hid hg
        obtain ⟨d0, d1⟩ := hdb
        clear HE1 HE2 HE3 HE4 HT1 HFA he htk hq hg hdd hd hU
        go_wp2_with fail
        try rw [HW5]
        refine HAH2.out.mono ?_
        rintro e w6 ⟨rfl, q6, rfl⟩
        go_wp2_with fail
        refine (HMU.out _).mono ?_
        rintro e w6 ⟨rfl, rfl⟩
        go_wp2_with fail
        refine (HT2.out q6).mono ?_
        rintro e w7 ⟨rfl, hg7, hs7⟩
        have HG7 := Lib.hid ((grownBy_drewN HG5.out q6).trans hg7)
        have HS7 := Lib.hid hs7
        have HL7 := Lib.hid ((HL5.out.drewS q6).moved hg7 hbl)
        have hsz7 : w.heap.size ≤ w7.heap.size := HG7.out.size
        clear hg7 hs7
        go_wp2_with fail
        refine (writeS_any w.heap.size w.heap.size (ints .u8 (M ++ X)) U w7 HL7.out (by rw [length_ints, List.length_append]; omega) hsz7).mono ?_
        rintro e w8 ⟨rfl, hb8, hl8⟩
        rw [HDC.out, ← ints_append] at hb8
        have HS8 := Lib.hid (show ScAt w8 b s (P + k + 1 + 1) from Blk.below HS7.out hl8 hbl)
        have HF8 := Lib.hid (And.intro hb8 (grown_low HG7.out hl8))
        clear hb8 hl8
        go_wp2_with fail
        go_roundw
        case rel =>
          refine ⟨j + k + 2, M ++ X ++ [d], ?_⟩
          have e1 : p + 1 + (j + k + 2) = P + k + 1 + 1 := by have := HPP.out; omega
          refine ⟨by rw [e1]; exact HS8.out, HF8.out.1, HF8.out.2, (HXB.out.2.append HXB.out.1).append HDB.out, by simp; omega, by omega, g, by rw [e1]; exact HGG.out, ?_⟩
          rw [e1, ← HZ.out, HQ.out]
          congr 1
          omega
        case measure => rw [hpos, ScAt.posS HS8.out]; omega
      · obtain ⟨hq, _⟩ := HE3.out rfl hd
        have he : escC (ahN (strL s) (P + k + 1)) = false := decide_eq_false hd
        rw [he] at HMU
        obtain ⟨d, hdd⟩ : ∃ d, d = ahN (strL s) (P + k + 1) := ⟨_, rfl⟩
        rw [← hdd] at HAH2 hdb HMU
        have HQ : Hid (Z = (M ++ X, 1 + k + j, false)) := Lib.hid (by rw [HRUN.out, hq, appQ_app]; simp [appQ]; omega)
        obtain ⟨d0, d1⟩ := hdb
        clear HE1 HE2 HE3 HE4 HT1 he hq hdd hd
        go_wp2_with fail
        try rw [HW5]
        refine HAH2.out.mono ?_
        rintro e w6 ⟨rfl, q6, rfl⟩
        go_wp2_with fail
        refine (HMU.out _).mono ?_
        rintro e w6 ⟨rfl, rfl⟩
        go_wp2_with fail
        refine (HFA.out q6).mono ?_
        rintro e w7 ⟨⟨v, rfl, hv⟩, hb7⟩
        have HV := Lib.hid (hv.low (w := w) (grownBy_drewN HG5.out q6).size)
        have HB7 := Lib.hid hb7
        clear hv hb7
        go_wp2
        go_ret2
        unfold QuTells
        rw [← HZ.out, HQ.out]
        refine .inr ⟨rfl, _, rfl, ?_, (grownBy_drewN HG5.out q6).trans (grownBy_of_below HB7.out _)⟩
        rw [show p + 1 + (1 + k + j) = P + k + 1 by have := HPP.out; omega]
        exact HV.out
    · have HQ : Hid (Z = (M ++ X, k + j, false)) := Lib.hid (by rw [HRUN.out, HE4.out n1 n2, appQ_app]; simp [appQ]; omega)
      have HFA := Lib.hid (fun (q : Nat) => fault_any b s (P + k) 110 (w4.drewN q) (Blk.drewN HS4.out q))
      clear HE1 HE2 HE3 HE4
      go_wp2_with fail
      refine (HFA.out q5).mono ?_
      rintro e w7 ⟨⟨v, rfl, hv⟩, hb7⟩
      have HV := Lib.hid (hv.low (w := w) (grownBy_drewN HG4.out q5).size)
      have HB7 := Lib.hid hb7
      clear hv hb7
      go_wp2
      go_ret2
      unfold QuTells
      rw [← HZ.out, HQ.out]
      refine .inr ⟨rfl, _, rfl, ?_, (grownBy_drewN HG4.out q5).trans (grownBy_of_below HB7.out _)⟩
      rw [show p + 1 + (k + j) = P + k by have := HPP.out; omega]
      exact HV.out
end Go.Proofs.YtcjfealalokjaaaGreatDoor
namespace Go.Proofs.YtcjfealalokjaaaGreatDoor
open Go Go.RowKit
theorem quote_no {l : List Int} (h : badU l ≠ l.length) : quoteN l = ([], false) := if_neg fun hq => h hq.1
theorem quote_low {l : List Int} {k : Nat} (hk : k < l.length) (h : l.getD k 0 < 32) : quoteN l = ([], false) := if_neg fun hq => by have := highL_not hk h; rw [hq.2] at this; cases this
theorem quote_yes {l : List Int} (h : badU l = l.length) (h2 : ∀ i, i < l.length → 32 ≤ l.getD i 0) : quoteN l = (34 :: (escN l ++ [34]), true) := if_pos ⟨h, highL_take h2 (Nat.le_refl _)⟩
set_option maxRecDepth 100000 in
set_option maxHeartbeats 8000000 in
theorem quoteB_any (s : ByteArray) (w : World) (hm : Marks w) (hs : s.size ≤ 1000000000) :
    Calls Tryz.prog 125 #[.string s] w fun e w' => e = .returned (.tuple #[.string (toS (quoteN (strL s)).1), .bool (quoteN (strL s)).2]) ∧ Below w.heap.size w w' := by
  have HM := Lib.hid hm
  have HL := Lib.hid (length_strL s)
  have HCK := Lib.hid (fun (A : Option Addr) (c : Nat) (W : World) (hM : Marks W) (hl : Lies W A (strL s)) => check_any A (strL s) s.size c W hM (length_strL s) (by omega) (strL_bd s) hl)
  unfold CheckTells CheckWrong at HCK
  clear hm
  go_enter Tryz.func125, Tryz.ntmps125
  go_wp2_with (refine wpList_convert_str rfl (some 8) rfl _ _ 5 _ rfl s rfl Tryz.underlying9 Tryz.underlying73 Tryz.underlying5 ?_; intro A c w1 hl1 hc1 hb1; have H1 := Lib.hid (And.intro hl1 hb1); clear hl1 hb1; try go_frame)
  refine (HCK.out A c w1 (HM.out.below H1.out.2) H1.out.1).mono ?_
  rintro e w2 (⟨hbad, rfl, hb2⟩ | ⟨hbad, b, rfl, _, _, _, hb2⟩)
  case inr =>
    have HQ := Lib.hid (quote_no hbad)
    have HB := Lib.hid (H1.out.2.trans (hb2.mono H1.out.2.size))
    clear hbad hb2
    go_wp2_with fail
    go_ret2
    rw [HQ.out]
    exact ⟨rfl, HB.out⟩
  case inl =>
    have HBAD := Lib.hid hbad
    have HB2 := Lib.hid (H1.out.2.trans (hb2.mono H1.out.2.size))
    have HBL := Lib.hid (bld_new w2)
    obtain ⟨w3, hw3⟩ : ∃ w3, w3 = w2.alloc (.cells #[.pointer none, .slice none 0 0] 75) := ⟨_, rfl⟩
    have HB3 : Hid (Below w.heap.size w w3 ∧ w2.heap.size ≤ w3.heap.size) := Lib.hid (by rw [hw3]; exact ⟨HB2.out.alloc HB2.out.size _, by simp⟩)
    rw [← hw3] at HBL
    have HW3 := hw3.symm
    have hsz2 : w.heap.size ≤ w2.heap.size := HB2.out.size
    clear hbad hb2 hw3
    go_wp2_with fail
    try rw [HW3]
    refine (writeB_any w2.heap.size w2.heap.size [] 34 w3 HBL.out (by simp) HB3.out.2).mono ?_
    rintro e w4 ⟨rfl, hbl4, hb4⟩
    have HL4 := Lib.hid (show IsBld w2.heap.size w2.heap.size (ints .u8 [34]) w4 from hbl4)
    have HB4 := Lib.hid (And.intro (HB3.out.1.trans (hb4.mono hsz2)) (Nat.le_trans HB3.out.2 hb4.size))
    clear hbl4 hb4
    go_wp2_with fail
    go_loopw [14] (fun v wr => ∃ k : Nat, k ≤ s.size ∧ v = .int .i64 (k : Int) ∧ Hid (∀ i, i < k → 32 ≤ (strL s).getD i 0) ∧ IsBld w2.heap.size w2.heap.size (ints .u8 (34 :: escN ((strL s).take k))) wr ∧ Below w.heap.size w wr ∧ w2.heap.size ≤ wr.heap.size) (fun v _ => s.size - (intOf v).toNat)
    case atStart => exact ⟨0, by omega, rfl, Lib.hid (fun i h => absurd h (Nat.not_lt_zero _)), HL4.out, HB4.out.1, HB4.out.2⟩
    case round =>
      obtain ⟨k, hk, rfl, HH, hbl, hbel, hszr⟩ := hrel
      have HBD := Lib.hid hbl
      have HBE := Lib.hid hbel
      clear hbl hbel
      have hel := escN_len ((strL s).take k)
      rw [List.length_take, HL.out] at hel
      by_cases h : k < s.size
      · have HG := strL_get s k h
        have hkI : (k : Int) < (s.size : Int) := by omega
        have hk0 : (0 : Int) ≤ (k : Int) := by omega
        have hcb := byte_of s k h
        have HNX := escN_take (strL s) k (by rw [HL.out]; exact h)
        have HLO := Lib.hid (fun hc => quote_low (l := strL s) (k := k) (by rw [HL.out]; exact h) hc)
        rw [HG] at HNX HLO
        have HMU := Lib.hid (fun W : World => must_any (s[k].toNat : Int) W)
        by_cases h32 : (s[k].toNat : Int) < 32
        · have HQ := Lib.hid (HLO.out h32)
          clear HLO HNX HG hcb
          go_wp2_with fail
          go_ret2
          rw [HQ.out]
          exact ⟨rfl, HBE.out⟩
        · have HH2 : Hid (∀ i, i < k + 1 → 32 ≤ (strL s).getD i 0) := Lib.hid fun i hi => by
            rcases Nat.lt_or_ge i k with h' | h'
            · exact HH.out i h'
            · obtain rfl : i = k := by omega
              rw [HG]; omega
          cases he : escC (s[k].toNat : Int) with
          | true =>
            rw [he] at HMU
            have HE : Hid (ints .u8 (34 :: escN ((strL s).take (k + 1))) = ints .u8 (34 :: escN ((strL s).take k)) ++ ints .u8 [92] ++ ints .u8 [(s[k].toNat : Int)]) := Lib.hid (by
              rw [HNX, ← ints_append, ← ints_append]
              unfold esc1
              rw [if_pos (of_decide_eq_true he)]; simp)
            clear HNX HG he HLO
            go_wp2_with fail
            refine (HMU.out _).mono ?_
            rintro e w5 ⟨rfl, rfl⟩
            go_wp2_with fail
            refine (writeB_any w2.heap.size w2.heap.size _ 92 _ HBD.out (by rw [length_ints, List.length_cons]; omega) hszr).mono ?_
            rintro e w6 ⟨rfl, hbl6, hb6⟩
            have HL6 := Lib.hid hbl6
            have HB6 := Lib.hid (HBE.out.trans (hb6.mono hsz2))
            have hsz6 : w2.heap.size ≤ w6.heap.size := Nat.le_trans hszr hb6.size
            clear hbl6 hb6
            go_wp2_with fail
            refine (writeB_any w2.heap.size w2.heap.size _ (s[k].toNat : Int) w6 HL6.out (by rw [List.length_append, length_ints, length_ints, List.length_cons]; simp; omega) hsz6).mono ?_
            rintro e w7 ⟨rfl, hbl7, hb7⟩
            rw [← HE.out] at hbl7
            have HL7 := Lib.hid hbl7
            have HB7 := Lib.hid (HB6.out.trans (hb7.mono hsz2))
            have hsz7 : w2.heap.size ≤ w7.heap.size := Nat.le_trans hsz6 hb7.size
            clear hbl7 hb7
            go_wp2_with fail
            go_roundw
            case rel => exact ⟨k + 1, by omega, by go_num, HH2, HL7.out, HB7.out, hsz7⟩
            case measure => simp [intOf]; omega
          | false =>
            rw [he] at HMU
            have HE : Hid (ints .u8 (34 :: escN ((strL s).take (k + 1))) = ints .u8 (34 :: escN ((strL s).take k)) ++ ints .u8 [(s[k].toNat : Int)]) := Lib.hid (by
              rw [HNX, ← ints_append]
              unfold esc1
              rw [if_neg (of_decide_eq_false he)]; simp)
            clear HNX HG he HLO
            go_wp2_with fail
            refine (HMU.out _).mono ?_
            rintro e w5 ⟨rfl, rfl⟩
            go_wp2_with fail
            refine (writeB_any w2.heap.size w2.heap.size _ (s[k].toNat : Int) _ HBD.out (by rw [length_ints, List.length_cons]; omega) hszr).mono ?_
            rintro e w7 ⟨rfl, hbl7, hb7⟩
            rw [← HE.out] at hbl7
            have HL7 := Lib.hid hbl7
            have HB7 := Lib.hid (HBE.out.trans (hb7.mono hsz2))
            have hsz7 : w2.heap.size ≤ w7.heap.size := Nat.le_trans hszr hb7.size
            clear hbl7 hb7
            go_wp2_with fail
            go_roundw
            case rel => exact ⟨k + 1, by omega, by go_num, HH2, HL7.out, HB7.out, hsz7⟩
            case measure => simp [intOf]; omega
      · obtain rfl : k = s.size := by omega
        have hkI : ¬ (s.size : Int) < (s.size : Int) := by omega
        have htk : (strL s).take s.size = strL s := List.take_of_length_le (by rw [HL.out]; exact Nat.le_refl _)
        rw [htk] at HBD hel
        have HQ := Lib.hid (quote_yes (l := strL s) HBAD.out (by rw [HL.out]; exact HH.out))
        have HX : Hid (ints .u8 (34 :: escN (strL s)) ++ ints .u8 [34] = ints .u8 (34 :: (escN (strL s) ++ [34]))) := Lib.hid (by rw [← ints_append]; rfl)
        have HBY : Hid (Bytes (34 :: (escN (strL s) ++ [34]))) := Lib.hid (by have := quoteN_bytes (strL_bd s); rw [HQ.out] at this; exact this)
        clear htk
        go_wp2_with fail
        refine (writeB_any w2.heap.size w2.heap.size _ 34 _ HBD.out (by rw [length_ints, List.length_cons]; omega) hszr).mono ?_
        rintro e w7 ⟨rfl, hbl7, hb7⟩
        rw [HX.out] at hbl7
        have HL7 := Lib.hid hbl7
        have HB7 := Lib.hid (HBE.out.trans (hb7.mono hsz2))
        have hsz7 : w2.heap.size ≤ w7.heap.size := Nat.le_trans hszr hb7.size
        clear hbl7 hb7
        go_wp2_with fail
        refine (bldString w2.heap.size w2.heap.size _ w7 HBY.out HL7.out hsz7).mono ?_
        rintro e w8 ⟨rfl, hb8⟩
        have HB8 := Lib.hid (HB7.out.trans (hb8.mono hsz2))
        clear hb8
        go_wp2_with fail
        go_ret2
        rw [HQ.out]
        exact ⟨rfl, HB8.out⟩
end Go.Proofs.YtcjfealalokjaaaGreatDoor
