/- The walks of All and of its closure: which letters a range over it tells. -/
import Derived.Test.YtcjnhgcopdofhaaDoorUtfRefNext
import Derived.RangeFuncNested
import Derived.RangeFuncBound
import Derived.RangeFuncCalls
import Derived.RangeFuncLeaves
import Derived.Shelf.Abstract
import Derived.Shelf.RegionOpen
import Derived.WalkKit
import Derived.OwnWalkIn
import Derived.TacticsInMore
import Derived.LoopNIn
import Derived.LoopIn
namespace Go.Proofs.YtcjnhgcopdofhaaDoor
open Go Go.RowKit Go.Shelf
attribute [local go_sem] Oper.semAt_some

/-- A place where a letter begins. -/
abbrev Pl (l : List Int) : Type := { p : Nat // p < l.length ∧ (nxL (l.drop p)).1 ≠ -1 }
/-- The place behind it. -/
def nxtP {l : List Int} (x : Pl l) : Nat := x.1 + (nxL (l.drop x.1)).2
def endOf {l : List Int} (pre : List (Pl l)) : Nat := (pre.getLast?.map nxtP).getD 0
@[simp] theorem endOf_snoc {l : List Int} (pre : List (Pl l)) (x : Pl l) : endOf (pre ++ [x]) = nxtP x := by simp [endOf]
/-- One behind the other, from the beginning on. -/
inductive Chain (l : List Int) : List (Pl l) → Prop
  | nil : Chain l []
  | snoc {pre : List (Pl l)} {x : Pl l} : Chain l pre → x.1 = endOf pre → Chain l (pre ++ [x])
theorem Chain.last {l : List Int} {pre : List (Pl l)} {x : Pl l} (h : Chain l (pre ++ [x])) : x.1 = endOf pre := by
  generalize hq : pre ++ [x] = q at h
  cases h with
  | nil => simp at hq
  | snoc h1 h2 =>
    obtain ⟨e1, e2⟩ := List.append_inj' hq rfl
    injection e2 with e2 _
    subst e1; subst e2
    exact h2
theorem nxtP_bd {l : List Int} (x : Pl l) : x.1 < nxtP x ∧ nxtP x ≤ l.length ∧ nxtP x ≤ x.1 + 4 := by
  have h := nx_found x.2.2
  have hl : (l.drop x.1).length = l.length - x.1 := List.length_drop
  have := x.2.1
  unfold nxtP
  omega
theorem Chain.len {l : List Int} {pre : List (Pl l)} (h : Chain l pre) : pre.length ≤ endOf pre ∧ endOf pre ≤ l.length := by
  induction h with
  | nil => simp [endOf]
  | @snoc pre x h1 h2 ih =>
    have := nxtP_bd x
    rw [endOf_snoc, List.length_append, List.length_cons, List.length_nil]
    omega
/-- What a round is handed. -/
abbrev encP {l : List Int} (x : Pl l) : Array Value := #[.int .i64 (x.1 : Int), .int .i64 (nxL (l.drop x.1)).1]

theorem all_any (s : ByteArray) (w : World) :
    Calls Tryd.prog 66 #[.string s] w fun e w' => e = .returned (.func (.func 74) #[] #[.pointer (some ⟨w.heap.size, 0, none⟩)]) ∧ w' = w.alloc (.cells #[.string s] 9) := by
  go_enter Tryd.func66, Tryd.ntmps66
  go_wp2
  go_ret
  exact ⟨rfl, rfl⟩

/-- What a round keeps: what lay below n₀, and the block of the text. -/
def KpS (n₀ Bs : Nat) (W W' : World) : Prop := Below n₀ W W' ∧ W'.heap[Bs]? = W.heap[Bs]?
theorem KpS.refl (n₀ Bs : Nat) (W : World) : KpS n₀ Bs W W := ⟨Below.refl _ _, rfl⟩
theorem KpS.trans {n₀ Bs : Nat} {A B C : World} (h : KpS n₀ Bs A B) (k : KpS n₀ Bs B C) : KpS n₀ Bs A C := ⟨h.1.trans k.1, k.2.trans h.2⟩
theorem KpS.below {n₀ Bs : Nat} {W W' : World} (h : Below W.heap.size W W') (hn : n₀ ≤ W.heap.size) (hb : Bs < W.heap.size) : KpS n₀ Bs W W' := ⟨h.mono hn, h.block Bs hb⟩
theorem KpS.b {n₀ Bs : Nat} {w : World} (hn : n₀ ≤ w.heap.size) (hb : Bs < w.heap.size) (W : World) (l : Nat) (o o' : Obj) (hl : w.heap.size ≤ l) (h : W.heap[l]? = some o) (h1 : o.isCells = false) (h2 : o.isWalk = false) : KpS n₀ Bs W (W.putObj l o') :=
  ⟨belowK_b hn W l o o' hl h h1 h2, World.putObj_heap_other (by omega)⟩
set_option maxRecDepth 100000 in
set_option maxHeartbeats 2000000 in
theorem all1_stops (n : Nat) (hn : 1 ≤ n) (Bs n₀ : Nat) (s : ByteArray) (w : World) (hn₀ : n₀ ≤ w.heap.size) (hgl : 4 < n₀) (hm : Marks w) (hc : w.cell? ⟨Bs, 0, none⟩ = some (.string s)) (hs : s.size ≤ 9223372036854775807) :
    SeqStopsK Fence.wide n Tryd.prog 74 #[.pointer (some ⟨Bs, 0, none⟩)] (encP (l := strL s)) (KpS n₀ Bs) (fun xs => Chain (strL s) xs ∧ endOf xs = badU (strL s)) (fun pre => Chain (strL s) pre) s.size w := fun l J Jx W hW hJ hJx hY h0 => by
  have hmW : Marks W := hm.below hW
  have hcW : W.cell? ⟨Bs, 0, none⟩ = some (.string s) := (hW.cell (p := ⟨Bs, 0, none⟩) (lt_of_cell hc)).trans hc
  have hBs : Bs < W.heap.size := lt_of_cell hcW
  have hn₀W : n₀ ≤ W.heap.size := Nat.le_trans hn₀ hW.size
  have HM := Lib.hid hmW
  have HC := Lib.hid hcW
  have HJ := Lib.hid hJ
  have HY := Lib.hid hY
  clear hmW hcW hJ hY hm hc hW
  refine callsIn_of_wp Tryd.func74 rfl trivial ?_ rfl
  simp only [Tryd.ntmps74, List.size_toArray, List.length_cons, List.length_nil, Nat.reduceAdd, Nat.reduceSub, Array.replicate_succ, Array.replicate_zero, List.push_toArray, List.append_toArray, List.nil_append, List.cons_append]
  gi_wp2
  gi_loopw [3] (fun v wr => ∃ pre : List (Pl (strL s)), Chain (strL s) pre ∧ v = .int .i64 (endOf pre : Int) ∧ badU (strL s) = endOf pre + badU ((strL s).drop (endOf pre)) ∧ J pre wr ∧ KpS n₀ Bs W wr) (fun v _ => s.size - (intOf v).toNat)
  case atStart => exact ⟨[], .nil, rfl, by simp [endOf], h0, KpS.refl _ _ _⟩
  case round =>
    obtain ⟨pre, hch, rfl, hbad, hJs, hnx⟩ := hrel
    have hlen := hch.len
    rw [length_strL] at hlen
    have HCH := Lib.hid hch
    have HBAD := Lib.hid hbad
    have HNX := Lib.hid hnx
    have hcr : wr.cell? ⟨Bs, 0, none⟩ = some (.string s) := (World.cell?_of_block (a := ⟨Bs, 0, none⟩) hnx.2).trans HC.out
    have hsz : W.heap.size ≤ wr.heap.size := hnx.1.size
    have HMR := Lib.hid (show Marks wr from Blk.below HM.out hnx.1 hgl)
    clear hch hbad hnx
    obtain ⟨p, hp⟩ : ∃ p, p = endOf pre := ⟨_, rfl⟩
    rw [← hp] at hlen HBAD ⊢
    by_cases hlt : p < s.size
    · have hex : strL (s.extract p s.size) = (strL s).drop p := by rw [strL_extract, List.take_of_length_le (by rw [length_strL]; omega)]
      have HN := Lib.hid (begin_any (s.extract p s.size) wr HMR.out (by rw [← length_strL, hex, List.length_drop, length_strL]; omega))
      rw [hex] at HN
      have HJB := Lib.hid (fun (w' : World) (hb : Below wr.heap.size wr w') => HJ.out pre wr w' none hJs (grownBy_of_below hb none) (fun r e => by cases e))
      by_cases hx : (nxL ((strL s).drop p)).1 = -1
      · obtain ⟨m, hmm⟩ : ∃ m, m = (nxL ((strL s).drop p)).2 := ⟨_, rfl⟩
        rw [hx, ← hmm] at HN
        have HX := Lib.hid hx
        have HP := Lib.hid hp
        clear hx hmm hex hp
        gi_wp2_with (refine ⟨trivial, ?_⟩; gi_at_call 75; refine (callsIn_wide.2 HN.out).mono ?_; rintro e w' ⟨rfl, hb⟩; have HJ2 := Lib.hid (HJB.out w' hb); clear hb)
        refine ⟨fun _ h => (by cases h), ?_⟩
        gi_wp2
        refine bodyPost_ret (results_none rfl _ _ _) rfl ?_
        exact ⟨⟨_, rfl⟩, .inl ⟨pre, ⟨HCH.out, by rw [HBAD.out, badU_stop HX.out, HP.out]; rfl⟩, HJ2.out⟩⟩
      · have hpl : p < (strL s).length := by rw [length_strL]; exact hlt
        have hq : ∃ x : Pl (strL s), x.1 = p := ⟨⟨p, hpl, hx⟩, rfl⟩
        obtain ⟨x, hxp⟩ := hq
        have HCH2 : Hid (Chain (strL s) (pre ++ [x])) := Lib.hid (.snoc HCH.out (by rw [hxp, hp]))
        have HBAD2 : Hid (badU (strL s) = nxtP x + badU ((strL s).drop (nxtP x))) := Lib.hid (by
          have := badU_from HBAD.out hx
          rw [← hxp] at this
          exact this)
        have hnb := nxtP_bd x
        rw [hxp, length_strL] at hnb
        have hxn : nxtP x = p + (nxL ((strL s).drop p)).2 := by unfold nxtP; rw [hxp]
        have HYR := Lib.hid (fun (w' : World) (hb : Below wr.heap.size wr w') => HY.out pre x w' (HJB.out w' hb) (by omega))
        obtain ⟨m, hmm⟩ : ∃ m, m = (nxL ((strL s).drop p)).2 := ⟨_, rfl⟩
        obtain ⟨y, hy⟩ : ∃ y, y = (nxL ((strL s).drop p)).1 := ⟨_, rfl⟩
        rw [← hmm] at HN hxn
        rw [← hy] at HN
        have hy0 : (y == -1) = false := by rw [hy, beq_eq_false_iff_ne]; exact hx
        have HEN : Hid (encP x = #[.int .i64 (p : Int), .int .i64 y]) := Lib.hid (by unfold encP; rw [hxp, hy])
        have HXN := Lib.hid hxn
        have hnb2 := hnb
        rw [hxn] at hnb
        have HPP := Lib.hid hp
        have HXP := Lib.hid hxp
        clear hx hmm hex hp hy hxn hxp hpl hnb2
        gi_wp2_with (refine ⟨trivial, ?_⟩; gi_at_call 75; refine (callsIn_wide.2 HN.out).mono ?_; rintro e w1 ⟨rfl, hb⟩; obtain ⟨fn, tmps, assign, body, hyl, hR⟩ := HYR.out w1 hb; rw [HEN.out] at hyl; have HR := Lib.hid hR; have HB1 := Lib.hid hb; clear hR hb)
        refine HR.out.mono ?_
        rintro e W3 (⟨rfl, hJ3, hk3⟩ | ⟨rfl, hJx3⟩)
        · have HJ3 := Lib.hid hJ3
          have HK3 : Hid (KpS n₀ Bs W W3) := Lib.hid (HNX.out.trans ((KpS.below HB1.out (by omega) (by omega)).trans hk3))
          clear hJ3 hk3
          gi_wp2
          go_roundw
          case rel => exact ⟨pre ++ [x], HCH2.out, by rw [endOf_snoc, HXN.out]; go_num, by rw [endOf_snoc]; exact HBAD2.out, HJ3.out, HK3.out⟩
          case measure => simp [intOf]; omega
        · have HJX3 := Lib.hid hJx3
          clear hJx3
          gi_wp2
          refine bodyPost_ret (results_none rfl _ _ _) rfl ?_
          exact ⟨⟨_, rfl⟩, .inr ⟨_, HCH2.out, HJX3.out⟩⟩
    · obtain rfl : p = s.size := by omega
      have HE : Hid (endOf pre = badU (strL s)) := Lib.hid (by
        rw [HBAD.out, show (strL s).drop s.size = [] from List.drop_eq_nil_of_le (by rw [length_strL]; exact Nat.le_refl _), ← hp]; rfl)
      have HJ2 := Lib.hid hJs
      clear hp
      gi_wp2
      go_end0
      exact ⟨⟨_, rfl⟩, .inl ⟨pre, ⟨HCH.out, HE.out⟩, HJ2.out⟩⟩
end Go.Proofs.YtcjnhgcopdofhaaDoor
