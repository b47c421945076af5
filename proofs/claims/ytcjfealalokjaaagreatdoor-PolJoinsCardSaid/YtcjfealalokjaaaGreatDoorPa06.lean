/- UtfAll, UtfCheck, LxPlain, LxRd: merged. -/
import Derived.RangeFuncNested
import Derived.RangeFuncBound
import Derived.RangeFuncCalls
import Derived.RangeFuncLeaves
import Derived.Shelf.Abstract
import Derived.Shelf.RegionOpen
import Derived.OwnWalkIn
import Derived.TacticsInMore
import Derived.LoopNIn
import Derived.LoopIn
import Derived.RangeFuncBox
import Derived.Deep.RegionWith
import Derived.Test.YtcjfealalokjaaaGreatDoorPa04
set_option linter.all false
namespace Go.Proofs.YtcjfealalokjaaaGreatDoor
open Go Go.RowKit Go.Shelf
attribute [local go_sem] Oper.semAt_some
/-- A place where a letter begins. -/
abbrev Pl (l : List Int) : Type := { p : Nat // p < l.length ∧ (nxL (l.drop p)).1 ≠ -1 }
/-- The place behind it. -/
def nxtP {l : List Int} (x : Pl l) : Nat := x.1 + (nxL (l.drop x.1)).2
def endOf {l : List Int} (pre : List (Pl l)) : Nat := (pre.getLast?.map nxtP).getD 0
@[simp] theorem endOf_snoc {l : List Int} (pre : List (Pl l)) (x : Pl l) : endOf (pre ++ [x]) = nxtP x := by simp [endOf]
/-- One behind the other, from the beginning on. -/
inductive Chain (l : List Int) : List (Pl l) → Prop
  | nil : Chain l []
  | snoc {pre : List (Pl l)} {x : Pl l} : Chain l pre → x.1 = endOf pre → Chain l (pre ++ [x])
theorem Chain.last {l : List Int} {pre : List (Pl l)} {x : Pl l} (h : Chain l (pre ++ [x])) : x.1 = endOf pre := by
  generalize hq : pre ++ [x] = q at h
  cases h with
  | nil => simp at hq
  | snoc h1 h2 =>
    obtain ⟨e1, e2⟩ := List.append_inj' hq rfl
    injection e2 with e2 _
    subst e1; subst e2
    exact h2
theorem nxtP_bd {l : List Int} (x : Pl l) : x.1 < nxtP x ∧ nxtP x ≤ l.length ∧ nxtP x ≤ x.1 + 4 := by
  have h := nx_found x.2.2
  have hl : (l.drop x.1).length = l.length - x.1 := List.length_drop
  have := x.2.1
  unfold nxtP
  omega
theorem Chain.len {l : List Int} {pre : List (Pl l)} (h : Chain l pre) : pre.length ≤ endOf pre ∧ endOf pre ≤ l.length := by
  induction h with
  | nil => simp [endOf]
  | @snoc pre x h1 h2 ih =>
    have := nxtP_bd x
    rw [endOf_snoc, List.length_append, List.length_cons, List.length_nil]
    omega
/-- What a round is handed. -/
abbrev encP {l : List Int} (x : Pl l) : Array Value := #[.int .i64 (x.1 : Int), .int .i64 (nxL (l.drop x.1)).1]
theorem all_any (s : ByteArray) (w : World) :
    Calls Tryz.prog 165 #[.string s] w fun e w' => e = .returned (.func (.func 183) #[] #[.pointer (some ⟨w.heap.size, 0, none⟩)]) ∧ w' = w.alloc (.cells #[.string s] 9) := by
  go_enter Tryz.func165, Tryz.ntmps165
  go_wp2
  go_ret
  exact ⟨rfl, rfl⟩
/-- What a round keeps: what lay below n₀, and the block of the text. -/
def KpS (n₀ Bs : Nat) (W W' : World) : Prop := Below n₀ W W' ∧ W'.heap[Bs]? = W.heap[Bs]?
theorem KpS.refl (n₀ Bs : Nat) (W : World) : KpS n₀ Bs W W := ⟨Below.refl _ _, rfl⟩
theorem KpS.trans {n₀ Bs : Nat} {A B C : World} (h : KpS n₀ Bs A B) (k : KpS n₀ Bs B C) : KpS n₀ Bs A C := ⟨h.1.trans k.1, k.2.trans h.2⟩
theorem KpS.below {n₀ Bs : Nat} {W W' : World} (h : Below W.heap.size W W') (hn : n₀ ≤ W.heap.size) (hb : Bs < W.heap.size) : KpS n₀ Bs W W' := ⟨h.mono hn, h.block Bs hb⟩
theorem KpS.b {n₀ Bs : Nat} {w : World} (hn : n₀ ≤ w.heap.size) (hb : Bs < w.heap.size) (W : World) (l : Nat) (o o' : Obj) (hl : w.heap.size ≤ l) (h : W.heap[l]? = some o) (h1 : o.isCells = false) (h2 : o.isWalk = false) : KpS n₀ Bs W (W.putObj l o') :=
  ⟨belowK_b hn W l o o' hl h h1 h2, World.putObj_heap_other (by omega)⟩
set_option maxRecDepth 100000 in
set_option maxHeartbeats 2000000 in
theorem all1_stops (n : Nat) (hn : 1 ≤ n) (Bs n₀ : Nat) (s : ByteArray) (w : World) (hn₀ : n₀ ≤ w.heap.size) (hgl : 2 < n₀) (hm : Marks w) (hc : w.cell? ⟨Bs, 0, none⟩ = some (.string s)) (hs : s.size ≤ 9223372036854775807) :
    SeqStopsK Fence.wide n Tryz.prog 183 #[.pointer (some ⟨Bs, 0, none⟩)] (encP (l := strL s)) (KpS n₀ Bs) (fun xs => Chain (strL s) xs ∧ endOf xs = badU (strL s)) (fun pre => Chain (strL s) pre) s.size w := fun l J Jx W hW hJ hJx hY h0 => by
  have hmW : Marks W := hm.below hW
  have hcW : W.cell? ⟨Bs, 0, none⟩ = some (.string s) := (hW.cell (p := ⟨Bs, 0, none⟩) (lt_of_cell hc)).trans hc
  have hBs : Bs < W.heap.size := lt_of_cell hcW
  have hn₀W : n₀ ≤ W.heap.size := Nat.le_trans hn₀ hW.size
  have HM := Lib.hid hmW
  have HC := Lib.hid hcW
  have HJ := Lib.hid hJ
  have HY := Lib.hid hY
  clear hmW hcW hJ hY hm hc hW
  refine callsIn_of_wp Tryz.func183 rfl trivial ?_ rfl
  simp only [Tryz.ntmps183, List.size_toArray, List.length_cons, List.length_nil, Nat.reduceAdd, Nat.reduceSub, Array.replicate_succ, Array.replicate_zero, List.push_toArray, List.append_toArray, List.nil_append, List.cons_append]
  gi_wp2
  gi_loopw [3] (fun v wr => ∃ pre : List (Pl (strL s)), Chain (strL s) pre ∧ v = .int .i64 (endOf pre : Int) ∧ badU (strL s) = endOf pre + badU ((strL s).drop (endOf pre)) ∧ J pre wr ∧ KpS n₀ Bs W wr) (fun v _ => s.size - (intOf v).toNat)
  case atStart => exact ⟨[], .nil, rfl, by simp [endOf], h0, KpS.refl _ _ _⟩
  case round =>
    obtain ⟨pre, hch, rfl, hbad, hJs, hnx⟩ := hrel
    have hlen := hch.len
    rw [length_strL] at hlen
    have HCH := Lib.hid hch
    have HBAD := Lib.hid hbad
    have HNX := Lib.hid hnx
    have hcr : wr.cell? ⟨Bs, 0, none⟩ = some (.string s) := (World.cell?_of_block (a := ⟨Bs, 0, none⟩) hnx.2).trans HC.out
    have hsz : W.heap.size ≤ wr.heap.size := hnx.1.size
    have HMR := Lib.hid (show Marks wr from Blk.below HM.out hnx.1 hgl)
    clear hch hbad hnx
    obtain ⟨p, hp⟩ : ∃ p, p = endOf pre := ⟨_, rfl⟩
    rw [← hp] at hlen HBAD ⊢
    by_cases hlt : p < s.size
    · have hex : strL (s.extract p s.size) = (strL s).drop p := by rw [strL_extract, List.take_of_length_le (by rw [length_strL]; omega)]
      have HN := Lib.hid (begin_any (s.extract p s.size) wr HMR.out (by rw [← length_strL, hex, List.length_drop, length_strL]; omega))
      rw [hex] at HN
      have HJB := Lib.hid (fun (w' : World) (hb : Below wr.heap.size wr w') => HJ.out pre wr w' none hJs (grownBy_of_below hb none) (fun r e => by cases e))
      by_cases hx : (nxL ((strL s).drop p)).1 = -1
      · obtain ⟨m, hmm⟩ : ∃ m, m = (nxL ((strL s).drop p)).2 := ⟨_, rfl⟩
        rw [hx, ← hmm] at HN
        have HX := Lib.hid hx
        have HP := Lib.hid hp
        clear hx hmm hex hp
        gi_wp2_with (refine ⟨trivial, ?_⟩; gi_at_call 184; refine (callsIn_wide.2 HN.out).mono ?_; rintro e w' ⟨rfl, hb⟩; have HJ2 := Lib.hid (HJB.out w' hb); clear hb)
        refine ⟨fun _ h => (by cases h), ?_⟩
        gi_wp2
        refine bodyPost_ret (results_none rfl _ _ _) rfl ?_
        exact ⟨⟨_, rfl⟩, .inl ⟨pre, ⟨HCH.out, by rw [HBAD.out, badU_stop HX.out, HP.out]; rfl⟩, HJ2.out⟩⟩
      · have hpl : p < (strL s).length := by rw [length_strL]; exact hlt
        have hq : ∃ x : Pl (strL s), x.1 = p := ⟨⟨p, hpl, hx⟩, rfl⟩
        obtain ⟨x, hxp⟩ := hq
        have HCH2 : Hid (Chain (strL s) (pre ++ [x])) := Lib.hid (.snoc HCH.out (by rw [hxp, hp]))
        have HBAD2 : Hid (badU (strL s) = nxtP x + badU ((strL s).drop (nxtP x))) := Lib.hid (by
          have := badU_from HBAD.out hx
          rw [← hxp] at this
          exact this)
        have hnb := nxtP_bd x
        rw [hxp, length_strL] at hnb
        have hxn : nxtP x = p + (nxL ((strL s).drop p)).2 := by unfold nxtP; rw [hxp]
        have HYR := Lib.hid (fun (w' : World) (hb : Below wr.heap.size wr w') => HY.out pre x w' (HJB.out w' hb) (by omega))
        obtain ⟨m, hmm⟩ : ∃ m, m = (nxL ((strL s).drop p)).2 := ⟨_, rfl⟩
        obtain ⟨y, hy⟩ : ∃ y, y = (nxL ((strL s).drop p)).1 := ⟨_, rfl⟩
        rw [← hmm] at HN hxn
        rw [← hy] at HN
        have hy0 : (y == -1) = false := by rw [hy, beq_eq_false_iff_ne]; exact hx
        have HEN : Hid (encP x = #[.int .i64 (p : Int), .int .i64 y]) := Lib.hid (by unfold encP; rw [hxp, hy])
        have HXN := Lib.hid hxn
        have hnb2 := hnb
        rw [hxn] at hnb
        have HPP := Lib.hid hp
        have HXP := Lib.hid hxp
        clear hx hmm hex hp hy hxn hxp hpl hnb2
        gi_wp2_with (refine ⟨trivial, ?_⟩; gi_at_call 184; refine (callsIn_wide.2 HN.out).mono ?_; rintro e w1 ⟨rfl, hb⟩; obtain ⟨fn, tmps, assign, body, hyl, hR⟩ := HYR.out w1 hb; rw [HEN.out] at hyl; have HR := Lib.hid hR; have HB1 := Lib.hid hb; clear hR hb)
        refine HR.out.mono ?_
        rintro e W3 (⟨rfl, hJ3, hk3⟩ | ⟨rfl, hJx3⟩)
        · have HJ3 := Lib.hid hJ3
          have HK3 : Hid (KpS n₀ Bs W W3) := Lib.hid (HNX.out.trans ((KpS.below HB1.out (by omega) (by omega)).trans hk3))
          clear hJ3 hk3
          gi_wp2
          go_roundw
          case rel => exact ⟨pre ++ [x], HCH2.out, by rw [endOf_snoc, HXN.out]; go_num, by rw [endOf_snoc]; exact HBAD2.out, HJ3.out, HK3.out⟩
          case measure => simp [intOf]; omega
        · have HJX3 := Lib.hid hJx3
          clear hJx3
          gi_wp2
          refine bodyPost_ret (results_none rfl _ _ _) rfl ?_
          exact ⟨⟨_, rfl⟩, .inr ⟨_, HCH2.out, HJX3.out⟩⟩
    · obtain rfl : p = s.size := by omega
      have HE : Hid (endOf pre = badU (strL s)) := Lib.hid (by
        rw [HBAD.out, show (strL s).drop s.size = [] from List.drop_eq_nil_of_le (by rw [length_strL]; exact Nat.le_refl _), ← hp]; rfl)
      have HJ2 := Lib.hid hJs
      clear hp
      gi_wp2
      go_end0
      exact ⟨⟨_, rfl⟩, .inl ⟨pre, ⟨HCH.out, HE.out⟩, HJ2.out⟩⟩
end Go.Proofs.YtcjfealalokjaaaGreatDoor
namespace Go.Proofs.YtcjfealalokjaaaGreatDoor
open Go Go.RowKit Go.Shelf
attribute [local go_sem] Oper.semAt_some
/-- What Check tells of bytes that are none from a place on. -/
def CheckWrong (pos : Int) (w : World) (e : Ending) (w' : World) : Prop :=
  ∃ b, e = .returned (.iface 66 (.pointer (some ⟨b, 0, none⟩))) ∧ w'.cell? ⟨b, 0, none⟩ = some (.int .i64 pos) ∧ w'.cell? ⟨b, 0 + 1, none⟩ = some (.iface 63 (.int .i64 30)) ∧ w.heap.size ≤ b ∧ Below w.heap.size w w'
def CheckTells (xs : List Int) (w : World) (e : Ending) (w' : World) : Prop :=
  (badU xs = xs.length ∧ e = .returned .nilIface ∧ Below w.heap.size w w') ∨ (badU xs ≠ xs.length ∧ CheckWrong (badU xs : Int) w e w')
set_option maxRecDepth 100000 in
set_option maxHeartbeats 4000000 in
theorem check_any (A : Option Addr) (xs : List Int) (n c : Nat) (w : World) (hm : Marks w) (hn : xs.length = n) (hn2 : n ≤ 4611686018427387904) (hx : Bytes xs) (hl : Lies w A xs) :
    Calls Tryz.prog 152 #[.slice A n c] w (CheckTells xs w) := by
  have hcv : (convert 73 9 (.slice A n c)).run Tryz.prog (w.alloc (.cells #[.int .i64 0] 3)) = .ok (.string (toS xs)) (w.alloc (.cells #[.int .i64 0] 3)) := conv_str A xs n c _ hn (hl.below (belowAlloc _ _))
  have HSX : Hid (strL (toS xs) = xs) := Lib.hid (strL_toS hx)
  have hsz : (toS xs).size = n := by rw [size_toS, hn]
  obtain ⟨S, hS⟩ : ∃ S, S = toS xs := ⟨_, rfl⟩
  rw [← hS] at hcv HSX hsz
  have HSZ := Lib.hid hsz
  have HN := Lib.hid hn
  have HM := Lib.hid hm
  have hglt : 2 < w.heap.size := hm.lt
  clear hS hsz hn hl hx hm
  refine (callsIn_wide (n := 4)).1 ?_
  refine callsIn_of_wp_marks Tryz.func152 rfl trivial ?_ rfl
  simp only [Tryz.ntmps152, List.size_toArray, List.length_cons, List.length_nil, Nat.reduceAdd, Nat.reduceSub, Array.replicate_succ, Array.replicate_zero, List.push_toArray, List.append_toArray, List.nil_append, List.cons_append]
  gi_wp2_with (refine ⟨trivial, ?_⟩; gi_at_call 165; refine (callsIn_wide.2 (all_any S _)).mono ?_; rintro e w1 ⟨rfl, rfl⟩)
  have c0 := Boxed.new w 3 (.int .i64 0)
  have c1 := Boxed.new (w.alloc (.cells #[.int .i64 0] 3)) 9 (.string S)
  rw [World.size_alloc] at c1
  have hB0 : Below w.heap.size w ((w.alloc (.cells #[.int .i64 0] 3)).alloc (.cells #[.string S] 9)) := ((Below.refl _ w).alloc (Nat.le_refl _) _).alloc (by simp) _
  refine wpIn_rangeFunc_ownG rfl (by omega) (gf := 183) (lb := #[.pointer (some ⟨w.heap.size + 1, 0, none⟩)]) rfl trivial (enters_of Tryz.func183 (by kernel_rfl) rfl)
    (all1_stops (4 - 1) (by omega) (w.heap.size + 1) w.heap.size S _ (by simp; omega) hglt (HM.out.below hB0) c1.cell (by have := HSZ.out; omega)) KpS.trans (KpS.b (by simp; omega) (by simp)) (Below.refl _ _) (fun _ => rfl)
    (fun pre W => Boxed W w.heap.size 3 (.int .i64 (endOf pre : Int)) ∧ Below w.heap.size w W)
    (fun _ _ _ => False)
    (OwnFrom.and (Own.from (boxed_own _ _ _) _) (ownFrom_below (Nat.le_refl _) (by simp; omega)))
    (fun _ _ _ _ _ hs _ _ => hs)
    ⟨c0.alloc _, hB0⟩
    (fun x => { tmps := #[.slice A n c, undef, .nilIface, .pointer (some ⟨w.heap.size, 0, none⟩), .int .i64 (x.1 : Int), .int .i64 (nxL ((strL S).drop x.1)).1, .slice A n c, .string S, .func (.func 183) #[] #[.pointer (some ⟨w.heap.size + 1, 0, none⟩)], .int .i64 (x.1 : Int), .int .i64 (nxL ((strL S).drop x.1)).1, undef, undef, undef, undef, undef, undef, undef, undef, undef, undef, undef, undef, undef], defers := [] }) ?assign ?body ?done ?stop
  case assign =>
    intro l x W K hK
    gi_wp2
    exact hK
  case body =>
    rintro l pre x W ⟨hbx, hB⟩ _
    have hc := hbx.cell
    have hf := hbx.frozen
    have HBX := Lib.hid hbx
    have hfd := nx_found x.2.2
    have hnb := nxtP_bd x
    have HS := Lib.hid (fun W : World => sizeOf_is (nxL ((strL S).drop x.1)).1 _ hfd.2.1 W)
    have HX : Hid ((x.1 : Int) + ((nxL ((strL S).drop x.1)).2 : Int) = (nxtP x : Int)) := Lib.hid (by unfold nxtP; omega)
    have hxl : x.1 < n := by have := x.2.1; have := length_strL S; have := HSZ.out; omega
    have HB := Lib.hid hB
    obtain ⟨m, hm⟩ : ∃ m, m = (nxL ((strL S).drop x.1)).2 := ⟨_, rfl⟩
    have hm4 : m ≤ 4 := by rw [hm]; exact hfd.2.2.2.2.1
    rw [← hm] at HS HX
    clear hfd hnb hB hm hbx
    gi_wp2_with (refine ⟨trivial, ?_⟩; gi_at_call 176; refine (CallsIn.inRound l (callsIn_wide.2 (HS.out _))).mono ?_; rintro e w' ⟨rfl, rfl⟩)
    refine ⟨(KeepsOthers.setCell _ _ _).from _, ⟨(Below.refl w.heap.size W).setCell (p := ⟨w.heap.size, 0, none⟩) (Nat.le_refl _) _, heap_setCell_other W ⟨w.heap.size, 0, none⟩ _ _ (by simp)⟩, ?_, HB.out.setCell (p := ⟨w.heap.size, 0, none⟩) (Nat.le_refl _) _⟩
    rw [endOf_snoc, ← HX.out]
    exact HBX.out.set _
  case done =>
    rintro D ys W hD ⟨hch, hend⟩ ⟨hbx, hB⟩ hK
    have hc := hbx.cell
    rw [hend, HSX.out] at hc
    have HB := Lib.hid hB
    have HBX := Lib.hid hbx
    have HK := Lib.hid hK
    have hle := badU_le' xs
    rw [HN.out] at hle
    clear hB hbx hK hend
    by_cases hlt : badU xs < n
    · gi_wp2
      have hK' := (KeepsOthers.alloc W (.cells #[.int .i64 (badU xs : Int), .iface 63 (.int .i64 30)] 69)).same D _ HK.out rfl
      have hB' := HB.out.alloc HB.out.size (.cells #[.int .i64 (badU xs : Int), .iface 63 (.int .i64 30)] 69)
      refine ⟨by simp, .inl ⟨_, _, rfl, run_takeDeferred hK', ?_⟩⟩
      refine ⟨_, results_tmp rfl _ _ _, .inr ⟨by rw [HN.out]; omega, W.heap.size, rfl, ?_, ?_, HB.out.size, hB'.trans (belowK_b (w := w) (Nat.le_refl _) _ D _ _ (by simp at hD; omega) hK' rfl rfl)⟩⟩
      · exact cell_kept (by simp) (grownBy_putObj' _ D (.deferred none)) (fun r e => by cases e; exact ⟨_, hK', rfl⟩)
      · exact cell_kept (by simp) (grownBy_putObj' _ D (.deferred none)) (fun r e => by cases e; exact ⟨_, hK', rfl⟩)
    · gi_wp2
      refine ⟨by simp, .inl ⟨_, _, rfl, run_takeDeferred HK.out, ?_⟩⟩
      exact ⟨_, results_tmp rfl _ _ _, .inl ⟨by rw [HN.out]; omega, rfl, HB.out.trans (belowK_b (w := w) (Nat.le_refl _) W D _ _ (by simp at hD; omega) HK.out rfl rfl)⟩⟩
  case stop =>
    rintro D c pre W _ _ h _
    exact h.elim
end Go.Proofs.YtcjfealalokjaaaGreatDoor
namespace Go.Proofs.YtcjfealalokjaaaGreatDoor
open Go Go.RowKit Go.Shelf
attribute [local go_sem] Oper.semAt_some
def plainY (y : Int) : Bool := decide (32 ≤ y ∧ y ≠ 34 ∧ y ≠ 92)
def plainF : Nat → List Int → Nat
  | 0, _ => 0
  | f + 1, l => if (nxL l).1 ≠ -1 ∧ plainY (nxL l).1 = true then (nxL l).2 + plainF f (l.drop (nxL l).2) else 0
def plainN (l : List Int) : Nat := plainF l.length l
theorem plainF_fuel : ∀ (f g : Nat) (l : List Int), l.length ≤ f → l.length ≤ g → plainF f l = plainF g l
  | 0, 0, _, _, _ => rfl
  | 0, g + 1, l, h, _ => by
    have e : l = [] := List.eq_nil_of_length_eq_zero (by omega)
    subst e
    rw [plainF, plainF, if_neg (fun hq => hq.1 rfl)]
  | f + 1, 0, l, _, h => by
    have e : l = [] := List.eq_nil_of_length_eq_zero (by omega)
    subst e
    rw [plainF, plainF, if_neg (fun hq => hq.1 rfl)]
  | f + 1, g + 1, l, h, k => by
    rw [plainF, plainF]
    by_cases hq : (nxL l).1 ≠ -1 ∧ plainY (nxL l).1 = true
    · have := nx_found hq.1
      rw [if_pos hq, if_pos hq, plainF_fuel f g _ (by rw [List.length_drop]; omega) (by rw [List.length_drop]; omega)]
    · rw [if_neg hq, if_neg hq]
theorem plainN_stop {l : List Int} (h : ¬ ((nxL l).1 ≠ -1 ∧ plainY (nxL l).1 = true)) : plainN l = 0 := by
  unfold plainN
  cases l.length with
  | zero => rfl
  | succ k => rw [plainF, if_neg h]
theorem plainN_go {l : List Int} (h : (nxL l).1 ≠ -1) (h2 : plainY (nxL l).1 = true) : plainN l = (nxL l).2 + plainN (l.drop (nxL l).2) := by
  have := nx_found h
  unfold plainN
  cases hl : l.length with
  | zero => omega
  | succ k => rw [plainF, if_pos ⟨h, h2⟩, plainF_fuel k _ (l.drop (nxL l).2) (by rw [List.length_drop]; omega) (Nat.le_refl _)]
theorem plainN_le : ∀ (n : Nat) (l : List Int), l.length ≤ n → plainN l ≤ l.length
  | 0, l, h => by rw [List.eq_nil_of_length_eq_zero (Nat.le_zero.1 h)]; exact Nat.le_refl _
  | n + 1, l, h => by
    by_cases hq : (nxL l).1 ≠ -1 ∧ plainY (nxL l).1 = true
    · have h1 := nx_found hq.1
      have h2 := plainN_le n (l.drop (nxL l).2) (by rw [List.length_drop]; omega)
      rw [List.length_drop] at h2
      rw [plainN_go hq.1 hq.2]; omega
    · rw [plainN_stop hq]; exact Nat.zero_le _
theorem plainN_le' (l : List Int) : plainN l ≤ l.length := plainN_le _ l (Nat.le_refl _)
/-- Behind it, none. -/
theorem plainN_behind : ∀ (n : Nat) (l : List Int), l.length ≤ n → plainN (l.drop (plainN l)) = 0
  | 0, l, h => by rw [List.eq_nil_of_length_eq_zero (Nat.le_zero.1 h)]; rfl
  | n + 1, l, h => by
    by_cases hq : (nxL l).1 ≠ -1 ∧ plainY (nxL l).1 = true
    · have h1 := nx_found hq.1
      have h2 := plainN_behind n (l.drop (nxL l).2) (by rw [List.length_drop]; omega)
      rw [plainN_go hq.1 hq.2, ← List.drop_drop]
      exact h2
    · rw [plainN_stop hq, List.drop_zero, plainN_stop hq]
/-- The first byte of a letter. -/
theorem nx_head {c : Int} {r : List Int} (h : (nxL (c :: r)).1 ≠ -1) : ((nxL (c :: r)).1 < 128 ∧ c = (nxL (c :: r)).1) ∨ (128 ≤ (nxL (c :: r)).1 ∧ 192 ≤ c) := by
  obtain ⟨h1, h2, h3, h4, _, h6, h7⟩ := nx_found h
  obtain ⟨m, hm⟩ : ∃ m, (nxL (c :: r)).2 = m + 1 := ⟨(nxL (c :: r)).2 - 1, by omega⟩
  rw [hm, List.take_succ_cons] at h1
  rcases putL_cases (nxL (c :: r)).1 with ⟨h', _⟩ | ⟨_, hlt, h'⟩ | ⟨_, _, h'⟩ | ⟨_, _, _, h'⟩ | ⟨_, _, h'⟩ <;> rw [h'] at h1
  · cases h1
  · injection h1 with a b
    exact .inl ⟨hlt, a.symm⟩
  all_goals (injection h1 with a b; exact .inr ⟨by omega, by omega⟩)
theorem plainY_iff {c : Int} {r : List Int} (h : (nxL (c :: r)).1 ≠ -1) : plainY (nxL (c :: r)).1 = true ↔ ¬ c < 32 ∧ c ≠ 34 ∧ c ≠ 92 := by
  unfold plainY
  rw [decide_eq_true_eq]
  rcases nx_head h with ⟨h1, h2⟩ | ⟨h1, h2⟩ <;> omega
/-- What stands within quotes, by the letters that stand for themselves. -/
theorem quotF_plain : ∀ (n : Nat) (l : List Int), l.length ≤ n → ∀ f, l.length < f → ∃ g, (l.drop (plainN l)).length < g ∧ quotF f l = appQ (l.take (plainN l)) (plainN l) (quotF g (l.drop (plainN l)))
  | n, l, hn, 0, hf => absurd hf (Nat.not_lt_zero _)
  | n, [], hn, f + 1, hf => ⟨f + 1, hf, by rw [show plainN [] = 0 from rfl]; rfl⟩
  | 0, c :: r, hn, f + 1, hf => by simp at hn
  | n + 1, c :: r, hn, f + 1, hf => by
    by_cases hq : (nxL (c :: r)).1 ≠ -1 ∧ plainY (nxL (c :: r)).1 = true
    · have h1 := nx_found hq.1
      obtain ⟨q1, q2, q3⟩ := (plainY_iff hq.1).1 hq.2
      have hl : ((c :: r).drop (nxL (c :: r)).2).length = (c :: r).length - (nxL (c :: r)).2 := List.length_drop
      obtain ⟨g, hg, he⟩ := quotF_plain n ((c :: r).drop (nxL (c :: r)).2) (by omega) f (by omega)
      refine ⟨g, ?_, ?_⟩
      · rw [plainN_go hq.1 hq.2, ← List.drop_drop]; exact hg
      · rw [quotF_go q1 q2 q3 hq.1, he, appQ_app, plainN_go hq.1 hq.2, ← List.drop_drop, List.take_add]
    · exact ⟨f + 1, by rw [plainN_stop hq, List.drop_zero]; exact hf, by rw [plainN_stop hq]; rfl⟩
/-- Where none stands for itself, and neither a quote nor an escape is ahead, it fails. -/
theorem quotF_fails {f : Nat} {l : List Int} (hp : plainN l = 0) (h1 : l.getD 0 0 ≠ 34) (h2 : l.getD 0 0 ≠ 92) : quotF f l = ([], 0, false) := by
  cases l with
  | nil => exact quotF_nil f
  | cons c r =>
    rw [List.getD_cons_zero] at h1 h2
    cases f with
    | zero => rfl
    | succ f =>
      by_cases h0 : c < 32
      · exact quotF_low h0
      · by_cases hx : (nxL (c :: r)).1 = -1
        · exact quotF_bad h0 h1 h2 hx
        · have h3 := plainN_go hx ((plainY_iff hx).2 ⟨h0, h1, h2⟩)
          have h4 := nx_found hx
          omega
/-! ### The walk -/
def plP {l : List Int} (x : Pl l) : Prop := plainY (nxL (l.drop x.1)).1 = true
theorem chain_plain {l : List Int} {pre : List (Pl l)} (h : Chain l pre) : (∀ y ∈ pre, plP y) → plainN l = endOf pre + plainN (l.drop (endOf pre)) := by
  induction h with
  | nil => intro _; simp [endOf]
  | @snoc pre x h1 h2 ih =>
    intro hp
    have h3 := ih (fun y hy => hp y (by simp [hy]))
    rw [h3, endOf_snoc]
    unfold nxtP
    rw [← h2]
    have h4 : plP x := hp x (by simp)
    rw [plainN_go x.2.2 h4, List.drop_drop]; omega
theorem chain_full {l : List Int} {pre : List (Pl l)} (h : Chain l pre) (hp : ∀ y ∈ pre, plP y) (he : endOf pre = badU l) : plainN l = endOf pre := by
  have h1 := chain_plain h hp
  have h2 : badU l = endOf pre + badU (l.drop (endOf pre)) := by
    clear h1 he hp
    induction h with
    | nil => simp [endOf]
    | @snoc pre x h1 h2 ih =>
      have := badU_from ih (by rw [← h2]; exact x.2.2)
      rw [endOf_snoc]
      rw [← h2] at this
      exact this
  have h3 : badU (l.drop (endOf pre)) = 0 := by omega
  have h4 : (nxL (l.drop (endOf pre))).1 = -1 := by
    rcases Decidable.em ((nxL (l.drop (endOf pre))).1 = -1) with h | h
    · exact h
    · have := badU_go h; have := nx_found h; omega
  rw [h1, plainN_stop (fun hq => hq.1 h4), Nat.add_zero]
theorem chain_stop {l : List Int} {pre : List (Pl l)} {x : Pl l} (h : Chain l (pre ++ [x])) (hp : ∀ y ∈ pre, plP y) (hx : ¬ plP x) : plainN l = endOf pre := by
  have h0 := h.last
  have hc : Chain l pre := by
    generalize hq : pre ++ [x] = q at h
    cases h with
    | nil => simp at hq
    | snoc h1 h2 =>
      obtain ⟨e1, e2⟩ := List.append_inj' hq rfl
      rw [e1]; exact h1
  have h1 := chain_plain hc hp
  rw [← h0] at h1 ⊢
  rw [h1, plainN_stop (fun hq => hx hq.2), Nat.add_zero]
theorem boxedB {W W' : World} {B : Nat} {t : TypeId} {v : Value} (h : Boxed W B t v) (hb : Below W.heap.size W W') : Boxed W' B t v := (hb.block B h.lt).trans h
set_option maxRecDepth 100000 in
set_option maxHeartbeats 4000000 in
theorem leadPlain_any (s : ByteArray) (w : World) (hm : Marks w) (hs : s.size ≤ 1000000000) :
    Calls Tryz.prog 138 #[.string s] w fun e w' => e = .returned (.int .i64 (plainN (strL s) : Int)) ∧ Below w.heap.size w w' := by
  have HM := Lib.hid hm
  have hglt : 2 < w.heap.size := hm.lt
  clear hm
  refine (callsIn_wide (n := 4)).1 ?_
  refine callsIn_of_wp_marks Tryz.func138 rfl trivial ?_ rfl
  simp only [Tryz.ntmps138, List.size_toArray, List.length_cons, List.length_nil, Nat.reduceAdd, Nat.reduceSub, Array.replicate_succ, Array.replicate_zero, List.push_toArray, List.append_toArray, List.nil_append, List.cons_append]
  gi_wp2_with (refine ⟨trivial, ?_⟩; gi_at_call 165; refine (callsIn_wide.2 (all_any s _)).mono ?_; rintro e w1 ⟨rfl, rfl⟩)
  have c0 := Boxed.new w 3 (.int .i64 0)
  have c1 := Boxed.new (w.alloc (.cells #[.int .i64 0] 3)) 9 (.string s)
  rw [World.size_alloc] at c1
  have hB0 : Below w.heap.size w ((w.alloc (.cells #[.int .i64 0] 3)).alloc (.cells #[.string s] 9)) := ((Below.refl _ w).alloc (Nat.le_refl _) _).alloc (by simp) _
  have HOWN := Lib.hid (OwnFrom.and (Own.from (boxed_own w.heap.size 3 (fun (z : List (Pl (strL s))) => .int .i64 (endOf z : Int))) ((w.alloc (.cells #[.int .i64 0] 3)).alloc (.cells #[.string s] 9)).heap.size) (ownFrom_below (Nat.le_refl w.heap.size) (by simp; omega : w.heap.size ≤ ((w.alloc (.cells #[.int .i64 0] 3)).alloc (.cells #[.string s] 9)).heap.size)))
  refine wpIn_rangeFunc_ownG rfl (by omega) (gf := 183) (lb := #[.pointer (some ⟨w.heap.size + 1, 0, none⟩)]) rfl trivial (enters_of Tryz.func183 (by kernel_rfl) rfl)
    (all1_stops (4 - 1) (by omega) (w.heap.size + 1) w.heap.size s _ (by simp; omega) hglt (HM.out.below hB0) c1.cell (by omega)) KpS.trans (KpS.b (by simp; omega) (by simp)) (Below.refl _ _) (fun _ => rfl)
    (fun pre W => Boxed W w.heap.size 3 (.int .i64 (endOf pre : Int)) ∧ Below w.heap.size w W ∧ (∀ y ∈ pre, plP y) ∧ w.heap.size + 2 ≤ W.heap.size)
    (fun c q W => c = .exit 0 ∧ ∃ pre x, q = pre ++ [x] ∧ ¬ plP x ∧ Boxed W w.heap.size 3 (.int .i64 (endOf pre : Int)) ∧ Below w.heap.size w W ∧ ∀ y ∈ pre, plP y)
    ?own1 ?own2
    ⟨c0.alloc _, hB0, (fun y h => by cases h), by simp⟩
    (fun x => { tmps := #[.string s, undef, .int .i64 0, .pointer (some ⟨w.heap.size, 0, none⟩), .int .i64 (x.1 : Int), .int .i64 (nxL ((strL s).drop x.1)).1, .string s, .func (.func 183) #[] #[.pointer (some ⟨w.heap.size + 1, 0, none⟩)], .int .i64 (x.1 : Int), .int .i64 (nxL ((strL s).drop x.1)).1, undef, undef, undef, undef, undef, undef, undef, undef, undef, undef, undef, undef], defers := [] }) ?assign ?body ?done ?stop
  case own1 => exact fun z A B row h hg hr => ⟨(HOWN.out z A B row ⟨h.1, h.2.1⟩ hg hr).1, (HOWN.out z A B row ⟨h.1, h.2.1⟩ hg hr).2, h.2.2.1, Nat.le_trans h.2.2.2 hg.size⟩
  case own2 =>
    exact fun c z A B row h hg hr => by
      obtain ⟨h1, pre, x, h2, h3, h4, h5, h6⟩ := h
      exact ⟨h1, pre, x, h2, h3, (HOWN.out pre A B row ⟨h4, h5⟩ hg hr).1, (HOWN.out pre A B row ⟨h4, h5⟩ hg hr).2, h6⟩
  case assign =>
    intro l x W K hK
    gi_wp2
    exact hK
  case body =>
    rintro l pre x W ⟨hbx, hB, hpl, hz2⟩ _
    have hc := hbx.cell
    have hf := hbx.frozen
    have HBX := Lib.hid hbx
    have hfd := nx_found x.2.2
    have hnb := nxtP_bd x
    have HX : Hid ((x.1 : Int) + ((putL (nxL ((strL s).drop x.1)).1).length : Int) = (nxtP x : Int)) := Lib.hid (by rw [hfd.2.1]; unfold nxtP; omega)
    have hxl : x.1 < s.size := by have := x.2.1; have := length_strL s; omega
    have HB := Lib.hid hB
    have HPL := Lib.hid hpl
    have HPX : Hid (plP x ↔ plainY (nxL ((strL s).drop x.1)).1 = true) := Lib.hid Iff.rfl
    have HPU := Lib.hid (fun (W : World) (hM : Marks W) => put_any (nxL ((strL s).drop x.1)).1 W hM)
    have HMU := Lib.hid (fun (W : World) => must_any (nxL ((strL s).drop x.1)).1 W)
    have hpl4 := putL_len (nxL ((strL s).drop x.1)).1
    obtain ⟨y, hy⟩ : ∃ y, y = (nxL ((strL s).drop x.1)).1 := ⟨_, rfl⟩
    rw [← hy] at HX HPX HPU HMU hpl4 ⊢
    clear hfd hnb hB hbx hpl hy
    by_cases h32 : y < 32
    · have HN : Hid (¬ plP x) := Lib.hid (fun h => by
        have h1 := HPX.out.1 h
        unfold plainY at h1
        rw [decide_eq_true_eq] at h1; omega)
      gi_wp2_with (first | (refine ⟨trivial, ?_⟩; gi_at_call 140; refine (CallsIn.inRound l (callsIn_wide.2 (HMU.out _))).mono ?_; rintro e w' ⟨rfl, rfl⟩) | refine ⟨trivial, ?_⟩)
      exact ⟨.refl _ _, rfl, pre, x, rfl, HN.out, HBX.out, HB.out, HPL.out⟩
    · cases he : escC y with
      | true =>
        rw [he] at HMU
        have HN : Hid (¬ plP x) := Lib.hid (fun h => by
          have h1 := HPX.out.1 h
          unfold plainY at h1
          unfold escC at he
          rw [decide_eq_true_eq] at h1 he; omega)
        clear he
        gi_wp2_with (first | (refine ⟨trivial, ?_⟩; gi_at_call 140; refine (CallsIn.inRound l (callsIn_wide.2 (HMU.out _))).mono ?_; rintro e w' ⟨rfl, rfl⟩) | refine ⟨trivial, ?_⟩)
        exact ⟨.refl _ _, rfl, pre, x, rfl, HN.out, HBX.out, HB.out, HPL.out⟩
      | false =>
        rw [he] at HMU
        have HY : Hid (plP x) := Lib.hid (HPX.out.2 (by
          unfold plainY
          unfold escC at he
          rw [decide_eq_false_iff_not] at he
          exact decide_eq_true (by omega)))
        clear he
        have hsz : (toS (putL y)).size = (putL y).length := size_toS _
        obtain ⟨U, hU⟩ : ∃ U, U = toS (putL y) := ⟨_, rfl⟩
        rw [← hU] at HPU hsz
        obtain ⟨m, hmm⟩ : ∃ m, m = (putL y).length := ⟨_, rfl⟩
        rw [← hmm] at hsz HX hpl4
        clear hU hmm
        gi_wp2_with (first | (refine ⟨trivial, ?_⟩; gi_at_call 140; refine (CallsIn.inRound l (callsIn_wide.2 (HMU.out _))).mono ?_; rintro e w' ⟨rfl, rfl⟩) | (refine ⟨trivial, ?_⟩; gi_at_call 166; refine (CallsIn.inRound l (callsIn_wide.2 (HPU.out W (HM.out.below HB.out)))).mono ?_; rintro e w' ⟨rfl, hb⟩; have HBW := Lib.hid hb; have hc' := (hb.cell (p := ⟨w.heap.size, 0, none⟩) HBX.out.lt).trans hc; have HBX2 := Lib.hid (Go.Proofs.YtcjfealalokjaaaGreatDoor.boxedB HBX.out hb); have hf' := HBX2.out.frozen; clear hb))
        have HKO : KeepsOthers W w' := ⟨HBW.out.size, fun k o h _ => (HBW.out.block k (Array.getElem?_eq_some_iff.1 h).1).trans h⟩
        refine ⟨(HKO.trans (KeepsOthers.setCell _ _ _)).from _, (KpS.below HBW.out HB.out.size (by omega)).trans ⟨(Below.refl w.heap.size w').setCell (p := ⟨w.heap.size, 0, none⟩) (Nat.le_refl _) _, heap_setCell_other w' ⟨w.heap.size, 0, none⟩ _ _ (by simp)⟩, ?_, (HB.out.trans (HBW.out.mono HB.out.size)).setCell (p := ⟨w.heap.size, 0, none⟩) (Nat.le_refl _) _, fun z hz => ?_, ?_⟩
        · rw [endOf_snoc, ← HX.out]
          exact HBX2.out.set _
        · rcases List.mem_append.1 hz with hz | hz
          · exact HPL.out z hz
          · rw [List.mem_singleton.1 hz]; exact HY.out
        · have := HBW.out.size
          simp; omega
  case done =>
    rintro D ys W hD ⟨hch, hend⟩ ⟨hbx, hB, hpl, _⟩ hK
    have hc := hbx.cell
    have HB := Lib.hid hB
    have HR := Lib.hid (chain_full hch hpl hend)
    have HK := Lib.hid hK
    clear hB hbx hK hend hch hpl
    gi_wp2
    rw [HR.out]
    refine ⟨by simp, .inl ⟨_, _, rfl, run_takeDeferred HK.out, ?_⟩⟩
    exact ⟨_, results_tmp rfl _ _ _, rfl, HB.out.trans (belowK_b (w := w) (Nat.le_refl _) W D _ _ (by simp at hD; omega) HK.out rfl rfl)⟩
  case stop =>
    rintro D c q W hD hch ⟨rfl, pre, x, rfl, hnx, hbx, hB, hpl⟩ hK
    have hc := hbx.cell
    have HB := Lib.hid hB
    have HR := Lib.hid (chain_stop hch hpl hnx)
    have HK := Lib.hid hK
    clear hB hbx hK hch hpl hnx
    gi_wp2
    rw [HR.out]
    refine ⟨by simp, .inl ⟨_, _, rfl, run_takeDeferred HK.out, ?_⟩⟩
    exact ⟨_, results_tmp rfl _ _ _, rfl, HB.out.trans (belowK_b (w := w) (Nat.le_refl _) W D _ _ (by simp at hD; omega) HK.out rfl rfl)⟩
end Go.Proofs.YtcjfealalokjaaaGreatDoor
namespace Go.Proofs.YtcjfealalokjaaaGreatDoor
open Go Go.RowKit
/-- The scanner: its text, its place. -/
abbrev ScAt (w : World) (b : Nat) (s : ByteArray) (p : Nat) : Prop := Blk w b 95 [.string s, .int .i64 (p : Int)]
theorem ScAt.cells {w : World} {b : Nat} {s : ByteArray} {p : Nat} (h : ScAt w b s p) : w.cell? ⟨b, 0, none⟩ = some (.string s) ∧ w.cell? ⟨b, 1, none⟩ = some (.int .i64 (p : Int)) ∧ w.frozen? ⟨b, 0, none⟩ = false ∧ w.frozen? ⟨b, 1, none⟩ = false := ⟨h.cell 0, h.cell 1, h.frozen 0, h.frozen 1⟩
theorem ScAt.goes {w : World} {b : Nat} {s : ByteArray} {p : Nat} (h : ScAt w b s p) (q : Nat) : ScAt (w.setCell ⟨b, 1, none⟩ (.int .i64 (q : Int))) b s q := Blk.setCell h 1 (.int .i64 (q : Int))
/-- What is ahead. -/
abbrev aheadS (s : ByteArray) (p : Nat) : ByteArray := s.extract p s.size
theorem aheadS_L (s : ByteArray) (p : Nat) : strL (aheadS s p) = (strL s).drop p := by rw [strL_extract, List.take_of_length_le (by rw [length_strL]; exact Nat.le_refl _)]
theorem aheadS_size (s : ByteArray) (p : Nat) : (aheadS s p).size = s.size - p := by rw [← length_strL, aheadS_L, List.length_drop, length_strL]
set_option maxRecDepth 100000 in
set_option maxHeartbeats 1000000 in
theorem rest_any (b : Nat) (s : ByteArray) (p : Nat) (w : World) (h : ScAt w b s p) (hp : p ≤ s.size) (hs : s.size ≤ 1000000000) :
    Calls Tryz.prog 96 #[.pointer (some ⟨b, 0, none⟩)] w fun e w' => e = .returned (.string (aheadS s p)) ∧ ∃ q, w' = w.drewN q := by
  obtain ⟨c0, c1, f0, f1⟩ := h.cells
  have h2 : (p : Int) ≤ (s.size : Int) := by omega
  have h3 : (0 : Int) ≤ (p : Int) := by omega
  clear h
  go_enter Tryz.func96, Tryz.ntmps96
  go_wp2
  go_quiet (fail)
  go_wp2
  go_ret
  exact ⟨rfl, _, rfl⟩
/-- The byte that is ahead; 0 at the end. -/
def ahN (l : List Int) (p : Nat) : Int := l.getD p 0
set_option maxRecDepth 100000 in
set_option maxHeartbeats 1000000 in
theorem ahead_any (b : Nat) (s : ByteArray) (p : Nat) (w : World) (h : ScAt w b s p) (hp : p ≤ s.size) (hs : s.size ≤ 1000000000) :
    Calls Tryz.prog 139 #[.pointer (some ⟨b, 0, none⟩)] w fun e w' => e = .returned (.int .u8 (ahN (strL s) p)) ∧ ∃ q, w' = w.drewN q := by
  obtain ⟨c0, c1, f0, f1⟩ := h.cells
  clear h
  by_cases hlt : p < s.size
  · have HA : Hid (ahN (strL s) p = (s[p].toNat : Int)) := Lib.hid (strL_get s p hlt)
    have h1 : ((p : Int) == (s.size : Int)) = false := by rw [beq_eq_false_iff_ne]; omega
    have h2 : (p : Int) < (s.size : Int) := by omega
    have h3 : (0 : Int) ≤ (p : Int) := by omega
    go_enter Tryz.func139, Tryz.ntmps139
    go_wp2
    go_quiet (fail)
    go_wp2
    go_quiet (fail)
    go_wp2
    go_ret
    exact ⟨by rw [HA.out]; rfl, _, World.drewN_drewN _ _ _⟩
  · obtain rfl : p = s.size := by omega
    have HA : Hid (ahN (strL s) s.size = 0) := Lib.hid (by unfold ahN; rw [List.getD_eq_getElem?_getD, List.getElem?_eq_none (by rw [length_strL]; exact Nat.le_refl _)]; rfl)
    have h1 : ((s.size : Int) == (s.size : Int)) = true := beq_self_eq_true _
    go_enter Tryz.func139, Tryz.ntmps139
    go_wp2
    go_quiet (fail)
    go_wp2
    go_ret
    exact ⟨by rw [HA.out]; rfl, _, rfl⟩
/-- What has become of the world: all blocks but the scanner's are as they were. -/
abbrev MovedS (w w' : World) (b : Nat) (s : ByteArray) (p : Nat) : Prop := w.grownBy w' (some b) ∧ ScAt w' b s p
theorem grown_drewS {w : World} (q : Nat) (row : Option Nat) : w.grownBy (w.drewN q) row := grownBy_drewN (grownBy_refl w row) q
/-! ### take -/
set_option maxRecDepth 100000 in
theorem cloneL_any (s : ByteArray) (w : World) (h : s.size ≤ 281474976710656) : Calls Tryz.prog 78 #[.string s] w fun e w' => e = .returned (.string s) ∧ Below w.heap.size w w' := by
  have HC := Lib.hid (Tryz.stringslite_Clone s w h)
  go_enter Tryz.func78, Tryz.ntmps78
  go_wp2_with fail
  refine HC.out.mono ?_
  rintro e w1 ⟨rfl, hb⟩
  have HB := Lib.hid hb
  clear hb
  go_wp2
  go_ret
  exact ⟨rfl, HB.out⟩
set_option maxRecDepth 100000 in
set_option maxHeartbeats 1000000 in
theorem take_any (b : Nat) (s : ByteArray) (p k : Nat) (w : World) (h : ScAt w b s p) (hp : p + k ≤ s.size) (hs : s.size ≤ 1000000000) :
    Calls Tryz.prog 101 #[.pointer (some ⟨b, 0, none⟩), .int .i64 (k : Int)] w fun e w' => e = .returned (.string (toS (((strL s).drop p).take k))) ∧ MovedS w w' b s (p + k) := by
  have HR := Lib.hid (fun (W : World) (hW : ScAt W b s p) => rest_any b s p W hW (by omega) hs)
  have HT : Hid ((aheadS s p).extract 0 k = toS (((strL s).drop p).take k)) := Lib.hid ((eq_toS (((strL_bd s).drop p).take k)).2 (by rw [strL_extract, List.drop_zero, aheadS_L]))
  have HC := Lib.hid (fun W : World => cloneL_any (toS (((strL s).drop p).take k)) W (by rw [size_toS, List.length_take, List.length_drop, length_strL]; omega))
  have hrs := aheadS_size s p
  have hrx := HT.out
  obtain ⟨R, hR⟩ : ∃ R, R = aheadS s p := ⟨_, rfl⟩
  obtain ⟨T, hT⟩ : ∃ T, T = toS (((strL s).drop p).take k) := ⟨_, rfl⟩
  rw [← hR] at HR hrs hrx
  rw [← hT] at HC hrx ⊢
  have h1 : (k : Int) ≤ (R.size : Int) := by omega
  have h0 : (0 : Int) ≤ (k : Int) := by omega
  have HSC := Lib.hid h
  clear h hR hT HT
  go_enter Tryz.func101, Tryz.ntmps101
  go_wp2_with fail
  refine (HR.out _ HSC.out).mono ?_
  rintro e w1 ⟨rfl, q, rfl⟩
  go_wp2_with fail
  refine (HC.out _).mono ?_
  rintro e w2 ⟨rfl, hb2⟩
  have HS2 := Lib.hid ((HSC.out.drewN q).below hb2 (HSC.out.drewN q).lt)
  have HB2 := Lib.hid ((grown_drewS q (some b)).trans (grownBy_of_below hb2 (some b)))
  obtain ⟨c0, c1, f0, f1⟩ := ScAt.cells HS2.out
  clear hb2
  go_wp2
  go_ret
  refine ⟨rfl, HB2.out.trans (grownBy_setCell _ _ _ _), ?_⟩
  have := ScAt.goes HS2.out (p + k)
  rw [show ((p + k : Nat) : Int) = (p : Int) + (k : Int) by omega] at this
  exact Int.natCast_add p k ▸ this
/-! ### fault, at -/
/-- An error with a place. -/
def AtE (pos n : Int) (w : World) (v : Value) (w' : World) : Prop := ∃ b, v = .iface 66 (.pointer (some ⟨b, 0, none⟩)) ∧ w'.cell? ⟨b, 0, none⟩ = some (.int .i64 pos) ∧ w'.cell? ⟨b, 0 + 1, none⟩ = some (.iface 63 (.int .i64 n)) ∧ w.heap.size ≤ b
theorem AtE.below {pos n : Int} {w W W' : World} {v : Value} (h : AtE pos n w v W) (hb : Below W.heap.size W W') : AtE pos n w v W' := by
  obtain ⟨b, e, h0, h1, h2⟩ := h
  have hlt : b < W.heap.size := lt_of_cell h0
  exact ⟨b, e, (hb.cell (p := ⟨b, 0, none⟩) hlt).trans h0, (hb.cell (p := ⟨b, 0 + 1, none⟩) hlt).trans h1, h2⟩
theorem AtE.low {pos n : Int} {w w0 W : World} {v : Value} (h : AtE pos n w0 v W) (hb : w.heap.size ≤ w0.heap.size) : AtE pos n w v W := by
  obtain ⟨b, e, h0, h1, h2⟩ := h
  exact ⟨b, e, h0, h1, by omega⟩
theorem atN_any (pos n : Int) (w : World) : Calls Tryz.prog 53 #[.int .i64 pos, .iface 63 (.int .i64 n)] w fun e w' => (∃ v, e = .returned v ∧ AtE pos n w v w') ∧ Below w.heap.size w w' := by
  go_enter Tryz.func53, Tryz.ntmps53
  go_wp2
  go_ret
  exact ⟨⟨_, rfl, w.heap.size, rfl, by simp, by simp, Nat.le_refl _⟩, belowAlloc _ _⟩
set_option maxRecDepth 100000 in
theorem fault_any (b : Nat) (s : ByteArray) (p : Nat) (n : Int) (w : World) (h : ScAt w b s p) :
    Calls Tryz.prog 103 #[.pointer (some ⟨b, 0, none⟩), .iface 63 (.int .i64 n)] w fun e w' => (∃ v, e = .returned v ∧ AtE (p : Int) n w v w') ∧ Below w.heap.size w w' := by
  have HA := Lib.hid (atN_any (p : Int) n w)
  obtain ⟨c0, c1, f0, f1⟩ := h.cells
  clear h
  go_enter Tryz.func103, Tryz.ntmps103
  go_wp2_with fail
  refine HA.out.mono ?_
  rintro e w1 ⟨⟨v, rfl, hv⟩, hb⟩
  have HB := Lib.hid (And.intro hv hb)
  clear hv hb
  go_wp2
  go_ret
  exact ⟨⟨_, rfl, HB.out.1⟩, HB.out.2⟩
/-! ### gap -/
set_option maxRecDepth 100000 in
set_option maxHeartbeats 2000000 in
theorem gap_any (b : Nat) (s : ByteArray) (p : Nat) (w : World) (hM : MaxL w) (h : ScAt w b s p) (hp : p ≤ s.size) (hs : s.size ≤ 1000000000) :
    Calls Tryz.prog 51 #[.pointer (some ⟨b, 0, none⟩)] w fun e w' => e = .returned (.tuple #[]) ∧ MovedS w w' b s (p + gapM false ((strL s).drop p)) := by
  have HR := Lib.hid (fun (W : World) (hW : W.heap = w.heap) => rest_any b s p W (show W.heap[b]? = _ by rw [hW]; exact h) hp hs)
  have HG := Lib.hid (fun (W : World) (hW : W.heap = w.heap) => leadGap_any (aheadS s p) W (by obtain ⟨m, hm⟩ := hM; exact ⟨m, by rw [World.cell?_of_block (w := w) (by rw [hW])]; exact hm⟩) (by rw [aheadS_size]; omega))
  rw [aheadS_L] at HG
  have hgl := gapM_le false ((strL s).drop p)
  rw [List.length_drop, length_strL] at hgl
  obtain ⟨g, hg⟩ : ∃ g, g = gapM false ((strL s).drop p) := ⟨_, rfl⟩
  rw [← hg] at HG hgl ⊢
  have HSC := Lib.hid h
  obtain ⟨c0, c1, f0, f1⟩ := h.cells
  have HWR : Hid (IntKind.i64.wrap ((p : Int) + (g : Int)) = (p : Int) + (g : Int)) := Lib.hid (by rw [IntKind.wrap_i64]; omega)
  clear h hg hM
  go_enter Tryz.func51, Tryz.ntmps51
  go_wp2_with fail
  go_region_with (first
    | (go_at_call 96; refine (HR.out _ ?hh).mono ?_; (case hh => rfl); rintro e w1 ⟨rfl, q, rfl⟩)
    | (go_at_call 95; refine (HG.out _ ?hh).mono ?_; (case hh => rfl); rintro e w1 ⟨rfl, q2, rfl⟩))
  all_goals
    rw [HWR.out]
    go_end0
    refine ⟨rfl, (grown_drewS _ (some b)).trans (grownBy_setCell _ b 1 _), ?_⟩
    show Blk _ b _ [.string s, .int .i64 ((p + g : Nat) : Int)]
    rw [Int.natCast_add]
    exact Blk.setCell (show Blk _ b 95 [.string s, .int .i64 (p : Int)] from HSC.out) 1 _
end Go.Proofs.YtcjfealalokjaaaGreatDoor
