/- The walk of the law UtfAll. -/
import Derived.Test.YtaepfdkbefojmaaDoorUtfAllKit
import Derived.Stop.RegionWithIn
import Derived.Sort.QuietIn
namespace Go.Proofs.YtaepfdkbefojmaaDoor
open Go Go.RowKit Go.Shelf
attribute [local go_sem] Oper.semAt_some

set_option maxRecDepth 100000 in
set_option maxHeartbeats 8000000 in
theorem lawAll_part (s : ByteArray) (stop : Int) (w : World) (hg : ErrTab w) (hm : Marks w) (hs : s.size ≤ 5000) (hst : 0 ≤ stop ∧ stop ≤ 255) (hb : badU (strL s) ≠ (strL s).length) :
    Calls Tryd.prog 5 #[.string s, .int .u8 stop] w fun e w' => e = .returned (.bool true) ∧ Below w.heap.size w w' := by
  have HAL := Lib.hid (fun (W : World) (hb : Below w.heap.size w W) => alive3_any W (hg.below hb) (hm.below hb))
  have HM := Lib.hid hm
  have HRB := Lib.hid (fun (W : World) => refBad_any s W (by omega))
  rw [show badR (strL s) = (badU (strL s) : Int) from if_neg hb] at HRB
  obtain ⟨E, hE⟩ : ∃ E, E = badU (strL s) := ⟨_, rfl⟩
  have HBD : Hid (badU (strL s) = E) := Lib.hid hE.symm
  rw [← hE] at HRB
  clear hE
  have hd1 : decide (5000 < (s.size : Int)) = false := decide_eq_false (by omega)
  have hmx : Tryd.prog.follows .mixedOrders = true := by kernel_rfl
  have hnf := neq_nil 21
  clear hg hm hb
  refine (callsIn_wide (n := 4)).1 ?_
  refine callsIn_of_wp_marks Tryd.func5 rfl trivial ?_ rfl
  simp only [Tryd.ntmps5, List.size_toArray, List.length_cons, List.length_nil, Nat.reduceAdd, Nat.reduceSub, Array.replicate_succ, Array.replicate_zero, List.push_toArray, List.append_toArray, List.nil_append, List.cons_append]
  gi_wp2_with (first
    | (refine ⟨trivial, ?_⟩; gi_at_call 7; refine (callsIn_wide.2 (HAL.out _ (((Below.refl _ w).alloc (Nat.le_refl _) _).alloc (by simp) _))).mono ?_; rintro e w1 ⟨rfl, hB1⟩; have b3 := boxed_below ((Boxed.new w 5 (.int .u8 stop)).alloc (.cells #[.bool false] 4)) hB1; have b4 := boxed_below (Boxed.new (w.alloc (.cells #[.int .u8 stop] 5)) 4 (.bool false)) hB1; rw [World.size_alloc] at b4; have H1 := Lib.hid (And.intro ((((Below.refl _ w).alloc (Nat.le_refl _) (.cells #[.int .u8 stop] 5)).alloc (by simp) (.cells #[.bool false] 4)).trans (hB1.mono (by simp; omega))) (And.intro b3 b4)); clear hB1 b3 b4)
    | (refine ⟨trivial, ?_⟩; gi_at_call 16; refine (callsIn_wide.2 (all_any s _)).mono ?_; rintro e w' ⟨rfl, rfl⟩)
    | (refine ⟨trivial, ?_⟩; gi_at_call 13; refine (callsIn_wide.2 (HRB.out _)).mono ?_; rintro e w2 ⟨rfl, hB2⟩; have H2 := Lib.hid (And.intro (boxed_below (Boxed.new w1 9 (.string s)) hB2) (And.intro (boxed_below (H1.out.2.1.alloc _) hB2) (And.intro (boxed_below (H1.out.2.2.alloc _) hB2) (H1.out.1.trans (((belowAlloc w1 _).trans (hB2.mono (by simp))).mono H1.out.1.size))))); clear hB2))
  obtain ⟨wA, hwA⟩ : ∃ x, x = w2.alloc (.cells #[.int .i64 0] 3) := ⟨_, rfl⟩
  obtain ⟨B8, hB8⟩ : ∃ x, x = w2.heap.size := ⟨_, rfl⟩
  obtain ⟨B5, hB5⟩ : ∃ x, x = w1.heap.size := ⟨_, rfl⟩
  have HP : Hid (PreS w B5 B8 s [] 0 stop wA) := Lib.hid (by
    rw [hwA, hB8, hB5]
    exact ⟨H2.out.2.1.alloc _, H2.out.2.2.1.alloc _, H2.out.1.alloc _, Boxed.new _ _ _, H2.out.2.2.2.alloc H2.out.2.2.2.size _, (fun D h => by cases h), by have := H1.out.2.2.lt; omega, H2.out.1.lt⟩)
  rw [← hwA, ← hB8, ← hB5]
  have H5 : Hid (w.heap.size + 2 ≤ B5) := Lib.hid HP.out.h5
  clear hwA hB8 hB5
  refine wpIn_loop_rounds 3 ?_
  rw [roundsIn_succ]
  have hc8 := HP.out.b8.cell
  gi_wp2
  have HS0 := Lib.hid HP.out.start
  have HLT : Hid (B5 < wA.heap.size ∧ w.heap.size ≤ wA.heap.size) := Lib.hid ⟨HP.out.b5.lt, HP.out.bel.size⟩
  obtain ⟨M, hM⟩ : ∃ M, M = wA.heap.size := ⟨_, rfl⟩
  have hsz : (((wA.alloc (.cells #[.int .i64 0] 3)).alloc (.cells #[.string ⟨#[]⟩] 9)).alloc (.cells #[.int .i64 0] 3)).heap.size = wA.heap.size + 3 := by simp
  obtain ⟨W0, hW0⟩ : ∃ W, W = (((wA.alloc (.cells #[.int .i64 0] 3)).alloc (.cells #[.string ⟨#[]⟩] 9)).alloc (.cells #[.int .i64 0] 3)) := ⟨_, rfl⟩
  rw [← hW0] at HS0 hsz ⊢
  rw [← hM] at HS0 HLT hsz ⊢
  have HSZ := Lib.hid hsz
  have HDS := Lib.hid (fun (D : Nat) (hD : D ∈ ([] : List Nat)) => (Array.getElem?_eq_some_iff.1 (HS0.out.ds D hD)).1)
  clear hM hsz hW0 hc8
  refine turn_range w B5 B8 M [] 0 stop s false ?range ?rest
  case' range =>
   refine wpIn_rangeFunc_ownG rfl (by omega) (gf := 21) (lb := #[.pointer (some ⟨B5, 0, none⟩)]) rfl trivial (enters_of Tryd.func21 (by kernel_rfl) rfl)
       (all1_stops (4 - 1) (by omega) B5 w.heap.size s W0 (by have := HSZ.out; have := HLT.out; omega) HM.out.lt (HM.out.below HS0.out.bel) HS0.out.b5.cell (by omega)) KpS.trans (KpS.b (by have := HSZ.out; have := HLT.out; omega) (by have := HSZ.out; have := HLT.out; omega)) (Below.refl _ _) (fun _ => rfl)
       (fun pre W => Chain (strL s) pre ∧ AllS w w.heap.size (w.heap.size + 1) B5 s B8 M [] 0 stop (endOf pre : Int) (pre.length : Int) (toS ((strL s).take (endOf pre))) W)
       (fun c pre W => (c = .ret ∧ ¬ Chain (strL s) pre) ∨ (c = .exit 2 ∧ Chain (strL s) pre ∧ AllS w w.heap.size (w.heap.size + 1) B5 s B8 M [] 0 stop (endOf pre : Int) (pre.length : Int) (toS ((strL s).take (endOf pre))) W))
       (OwnFrom.and (fun _ _ _ _ h _ _ => h) (allS_own (by have := HSZ.out; have := HLT.out; omega) HDS.out (fun pre => (endOf pre : Int)) (fun pre => (pre.length : Int)) (fun pre => (toS ((strL s).take (endOf pre))))))
       (fun c s' A B row hs hg hr => by
         rcases hs with hs | ⟨h1, h2, h3⟩
         · exact .inl hs
         · exact .inr ⟨h1, h2, allS_own (by have := HSZ.out; have := HLT.out; omega) HDS.out (fun pre => (endOf pre : Int)) (fun pre => (pre.length : Int)) (fun pre => (toS ((strL s).take (endOf pre)))) s' A B row h3 hg hr⟩)
       ⟨.nil, HS0.out⟩
       (fun x => { tmps := #[.string s, .int .u8 stop, undef, .pointer (some ⟨w.heap.size, 0, none⟩), .pointer (some ⟨w.heap.size + 1, 0, none⟩), (.func (.func 21) #[] #[.pointer (some ⟨B5, 0, none⟩)]), .int .i64 (E : Int), .int .i64 (E : Int), .pointer (some ⟨B8, 0, none⟩), .pointer (some ⟨M, 0, none⟩), .pointer (some ⟨M + 1, 0, none⟩), .pointer (some ⟨M + 1 + 1, 0, none⟩), .int .i64 (x.1 : Int), .int .i64 (nxL ((strL s).drop x.1)).1, .bool true, .bool false, .string s, .int .i64 (s.size : Int), .bool false, .string s, (.func (.func 21) #[] #[.pointer (some ⟨B5, 0, none⟩)]), (.func (.func 21) #[] #[.pointer (some ⟨B5, 0, none⟩)]), .bool false, .string s, .int .i64 (s.size : Int), .string s, .int .i64 (E : Int), .int .i64 (E : Int), .bool true, .int .i64 (E : Int), .int .i64 0, .bool true, undef, undef, (.func (.func 21) #[] #[.pointer (some ⟨B5, 0, none⟩)]), .int .i64 (x.1 : Int), .int .i64 (nxL ((strL s).drop x.1)).1, undef, undef, undef, undef, undef, undef, undef, undef, undef, undef, undef, undef, undef, undef, undef, undef, undef, undef, undef, undef, undef, undef, undef, undef, undef, undef, undef, undef, undef, undef, undef, undef, undef, undef, undef, undef, undef, undef, undef, undef, undef], defers := [] }) ?assign ?body ?done ?stop
   case assign =>
       intro l x W K hK
       gi_wp2
       exact hK
   case body =>
       rintro l pre x W ⟨hch, hS⟩ hlen
       have hfd := nx_found x.2.2
       have hnb := nxtP_bd x
       have hxl : x.1 < s.size := by have := x.2.1; have := length_strL s; omega
       have hc9 := hS.b9.cell
       have hf4 := hS.b4.frozen
       have hc4 := hS.b4.cell
       have HCH := Lib.hid hch
       have HS := Lib.hid hS
       obtain ⟨hy0, _⟩ := hfd.2.2.2.2.2
       have HFD := Lib.hid hfd
       have HNB := Lib.hid hnb
       clear hfd hnb hS hch
       by_cases hx : x.1 = endOf pre
       · have HC2 : Hid (Chain (strL s) (pre ++ [x])) := Lib.hid (.snoc HCH.out hx)
         obtain ⟨p, hp⟩ : ∃ p, p = endOf pre := ⟨_, rfl⟩
         rw [← hp] at hx hc9 HS
         have hy0' : 0 ≤ (nxL ((strL s).drop p)).1 := by rw [← hx]; exact hy0
         have hps : p < s.size := by omega
         have HPU := Lib.hid (fun (W : World) (hM : Marks W) => put_any (nxL ((strL s).drop p)).1 W hM)
         have hfd := HFD.out
         rw [hx] at hfd
         have hend : endOf (pre ++ [x]) = p + (nxL ((strL s).drop p)).2 := by rw [endOf_snoc]; unfold nxtP; rw [hx]
         have HEND : Hid ((endOf (pre ++ [x]) : Int) = (p : Int) + ((toS (putL (nxL ((strL s).drop p)).1)).size : Int) ∧ ((pre ++ [x]).length : Int) = (pre.length : Int) + 1 ∧ toS ((strL s).take (endOf (pre ++ [x]))) = toS ((strL s).take p) ++ toS (putL (nxL ((strL s).drop p)).1)) := Lib.hid (by
           refine ⟨by rw [hend, size_toS, hfd.2.1]; omega, by simp, ?_⟩
           rw [hend, toS_append ((strL_bd s).take p) (putL_bytes _), hfd.1, ← List.take_add])
         rw [hx]
         obtain ⟨y, hy⟩ : ∃ y, y = (nxL ((strL s).drop p)).1 := ⟨_, rfl⟩
         rw [← hy] at HPU hy0' HEND ⊢
         obtain ⟨T, hT⟩ : ∃ T, T = toS ((strL s).take p) := ⟨_, rfl⟩
         obtain ⟨U, hU⟩ : ∃ U, U = toS (putL y) := ⟨_, rfl⟩
         have hTs : T.size ≤ 5000 := by rw [hT, size_toS, List.length_take, length_strL]; omega
         have hUs : U.size ≤ 4 := by rw [hU, size_toS]; exact putL_len y
         have hTU : T.size + U.size ≤ 9223372036854775807 := by omega
         rw [← hT] at HS HEND
         rw [← hU] at HPU HEND
         have hc10 := HS.out.b10.cell
         have hf10 := HS.out.b10.frozen
         have HWR : Hid (IntKind.i64.wrap ((p : Int) + (U.size : Int)) = (p : Int) + (U.size : Int)) := Lib.hid (by rw [IntKind.wrap_i64]; omega)
         have hyd : decide (y < 0) = false := decide_eq_false (by omega)
         have hM5 : B5 < M ∧ w.heap.size ≤ M := HLT.out
         clear hx hp hT hU hy0 hy hxl hfd hend HFD HNB
         gi_wp2
         gi_region_with_o (refine ⟨trivial, ?_⟩; gi_at_call 10; refine (CallsIn.inRound l (callsIn_wide.2 (HPU.out W.drew (HM.out.below HS.out.drew.bel)))).mono ?_; rintro e w' ⟨rfl, hb⟩; have HS2 := Lib.hid (HS.out.drew.below hb); have hc10' := HS2.out.b10.cell; have hf10' := HS2.out.b10.frozen; have HR2 := Lib.hid ((RelS.below (n₀ := w.heap.size) (Bs := B5) (Below.refl _ W).drew HS.out.bel.size (by have := HS.out.b9.lt; omega)).trans (RelS.below (n₀ := w.heap.size) (Bs := B5) hb HS.out.bel.size (by have := HS.out.b9.lt; simp; omega))); clear hb)
         all_goals
           have HS3 := Lib.hid (HS2.out.set10 (T ++ U))
           have HR3 := Lib.hid (HR2.out.trans (RelS.set w' (M + 1) (.string (T ++ U)) (by omega) (by omega)))
           obtain ⟨W2, hW2⟩ : ∃ x, x = w'.setCell ⟨M + 1, 0, none⟩ (.string (T ++ U)) := ⟨_, rfl⟩
           rw [← hW2] at HS3 HR3 ⊢
           clear hW2 hc10 hf10 hc10' hf10' HS2 HR2 hc9
           have hc9 := HS3.out.b9.cell
           have hf9 := HS3.out.b9.frozen
           gi_wp2
           gi_region_with_o (refine ⟨trivial, ?_⟩; gi_at_call 10; refine (CallsIn.inRound l (callsIn_wide.2 (HPU.out W2.drew (HM.out.below HS3.out.drew.bel)))).mono ?_; rintro e w3 ⟨rfl, hb⟩; have HS4 := Lib.hid (HS3.out.drew.below hb); have hc9' := HS4.out.b9.cell; have hf9' := HS4.out.b9.frozen; have HR4 := Lib.hid (HR3.out.trans ((RelS.below (n₀ := w.heap.size) (Bs := B5) (Below.refl _ W2).drew HS3.out.bel.size (by have := HS3.out.b9.lt; omega)).trans (RelS.below (n₀ := w.heap.size) (Bs := B5) hb HS3.out.bel.size (by have := HS3.out.b9.lt; simp; omega)))); clear hb)
           all_goals
             rw [HWR.out]
             have HS5 := Lib.hid (HS4.out.set9 ((p : Int) + (U.size : Int)))
             have HR5 := Lib.hid (HR4.out.trans (RelS.set w3 M (.int .i64 ((p : Int) + (U.size : Int))) (by omega) (by omega)))
             obtain ⟨W3, hW3⟩ : ∃ x, x = w3.setCell ⟨M, 0, none⟩ (.int .i64 ((p : Int) + (U.size : Int))) := ⟨_, rfl⟩
             rw [← hW3] at HS5 HR5 ⊢
             clear hW3 hc9 hf9 hc9' hf9' HS4 HR4
             have hc11 := HS5.out.b11.cell
             have hf11 := HS5.out.b11.frozen
             have HS6 := Lib.hid (HS5.out.set11 ((pre.length : Int) + 1))
             have HR6 := Lib.hid (HR5.out.trans (RelS.set W3 (M + 1 + 1) (.int .i64 ((pre.length : Int) + 1)) (by omega) (by omega)))
             have hc8 := HS6.out.b8.cell
             have hc3 := HS6.out.b3.cell
             have hc11' := HS6.out.b11.cell
             have HQ : Hid (AllS w w.heap.size (w.heap.size + 1) B5 s B8 M [] 0 stop (endOf (pre ++ [x]) : Int) ((pre ++ [x]).length : Int) (toS ((strL s).take (endOf (pre ++ [x])))) (W3.setCell ⟨M + 1 + 1, 0, none⟩ (.int .i64 ((pre.length : Int) + 1)))) := Lib.hid (by
               rw [HEND.out.1, HEND.out.2.1, HEND.out.2.2]; exact HS6.out)
             by_cases hgt : stop < (pre.length : Int) + 1
             · gi_wp2
               exact ⟨HR6.out.1.from _, .inr ⟨rfl, HC2.out, HQ.out⟩⟩
             · gi_wp2
               exact ⟨HR6.out.1.from _, HR6.out.2, HC2.out, HQ.out⟩
       · have hxb : ((x.1 : Int) == (endOf pre : Int)) = false := by rw [beq_eq_false_iff_ne]; omega
         have hxn : ((x.1 : Int) != (endOf pre : Int)) = true := by rw [bne, hxb]; rfl
         have HX := Lib.hid hx
         clear hx
         gi_wp2
         exact ⟨(KeepsOthers.setCell _ _ _).from _, .inl ⟨rfl, fun hch => HX.out hch.last⟩⟩
   case done =>
       rintro D ys W hD ⟨hch, hend⟩ ⟨_, hS⟩ hK
       exact ⟨.inl rfl, D, ys, rfl, hch, (fun h => by cases h), hS, hK, hD⟩
   case stop =>
       rintro D c pre W hD hch (⟨_, hn⟩ | ⟨rfl, _, hS⟩) hK
       · exact absurd hch hn
       · gi_wp2
         exact ⟨.inr rfl, D, pre, rfl, hch, (fun h => by cases h), hS, hK, hD⟩
  case' rest =>
   rintro e a' W ⟨he, D1, ys, rfl, hch, hfull, hS, hK1, hD1⟩
   suffices hgo : _ from (show _ from by
      rcases he with rfl | rfl
      · exact hgo
      · exact hgo)
   have hlen := hch.len
   rw [length_strL] at hlen
   obtain ⟨hl1, hl2⟩ := hlen
   have heq : ((toS ((strL s).take (endOf ys))).toList == (s.extract 0 (endOf ys)).toList) = true := by
      rw [eq_toList, decide_eq_true_eq]
      exact strL_inj (by rw [strL_toS ((strL_bd s).take _), strL_extract, List.drop_zero])
   have hneq : ((toS ((strL s).take (endOf ys))).toList != (s.extract 0 (endOf ys)).toList) = false := by rw [bne, heq]; rfl
   obtain ⟨pE, hp⟩ : ∃ p, p = endOf ys := ⟨_, rfl⟩
   rw [← hp] at hl2 heq hneq hS 
   obtain ⟨TE, hT⟩ : ∃ T, T = toS ((strL s).take pE) := ⟨_, rfl⟩
   rw [← hT] at heq hneq hS
   have hc10 := hS.b10.cell
   have hc9 := hS.b9.cell
   have hc8 := hS.b8.cell
   have b0 : (0 : Int) ≤ (pE : Int) := by omega
   have b1 : (pE : Int) ≤ (s.size : Int) := by omega
   have b2 : ((pE : Int)).toNat = pE := by omega
   have HS := Lib.hid hS
   have HK1 := Lib.hid (And.intro hK1 hD1)
   have HDW1 : Hid (w.heap.size ≤ D1) := Lib.hid (by have := HSZ.out; have := HLT.out; omega)
   clear hch hl1 hS hK1 hD1 hp hT HS0 hfull he HP
   gi_wp2
   gi_quiet (fail)
   have HSW := Lib.hid (HS.out.below (belowDN W nq))
   have HKW := Lib.hid ((((belowDN W nq).block D1 (Array.getElem?_eq_some_iff.1 HK1.out.1).1)).trans HK1.out.1)
   have HD1 := Lib.hid HK1.out.2
   obtain ⟨W4, hW4⟩ : ∃ x, x = W.drewN nq := ⟨_, rfl⟩
   rw [← hW4] at HSW HKW ⊢
   clear hW4 HS HK1 hc8 hc9 hc10 b0 b1 b2 heq hneq 
   have hc8 := HSW.out.b8.cell
   gi_wp2
   have HP1 : Hid (PreS w B5 W4.heap.size s [D1] 1 stop (W4.alloc (.cells #[.int .i64 1] 3))) := Lib.hid
     ⟨HSW.out.b3.alloc _, HSW.out.b4.alloc _, HSW.out.b5.alloc _, Boxed.new _ _ _, HSW.out.bel.alloc HSW.out.bel.size _, (fun D h => by rw [List.mem_singleton] at h; subst h; exact (Below.heap_alloc _ _ _ (Array.getElem?_eq_some_iff.1 HKW.out).1).trans HKW.out), H5.out, HSW.out.b5.lt⟩
   obtain ⟨wA, hwA⟩ : ∃ x, x = W4.alloc (.cells #[.int .i64 1] 3) := ⟨_, rfl⟩
   rw [← hwA] at HP1 ⊢
   obtain ⟨B8, hB8⟩ : ∃ x, x = W4.heap.size := ⟨_, rfl⟩
   rw [← hB8] at HP1 ⊢
   clear hwA hB8 HSW HKW hc8 HLT HSZ HDS HD1
   rw [roundsIn_succ]
   have HP := Lib.hid HP1.out
   have hc8 := HP.out.b8.cell
   clear HP1
   gi_wp2
   have HS0 := Lib.hid HP.out.start
   have HLT : Hid (B5 < wA.heap.size ∧ w.heap.size ≤ wA.heap.size) := Lib.hid ⟨HP.out.b5.lt, HP.out.bel.size⟩
   obtain ⟨M, hM⟩ : ∃ M, M = wA.heap.size := ⟨_, rfl⟩
   have hsz : (((wA.alloc (.cells #[.int .i64 0] 3)).alloc (.cells #[.string ⟨#[]⟩] 9)).alloc (.cells #[.int .i64 0] 3)).heap.size = wA.heap.size + 3 := by simp
   obtain ⟨W0, hW0⟩ : ∃ W, W = (((wA.alloc (.cells #[.int .i64 0] 3)).alloc (.cells #[.string ⟨#[]⟩] 9)).alloc (.cells #[.int .i64 0] 3)) := ⟨_, rfl⟩
   rw [← hW0] at HS0 hsz ⊢
   rw [← hM] at HS0 HLT hsz ⊢
   have HSZ := Lib.hid hsz
   have HDS := Lib.hid (fun (D : Nat) (hD : D ∈ ([D1] : List Nat)) => (Array.getElem?_eq_some_iff.1 (HS0.out.ds D hD)).1)
   clear hM hsz hW0 hc8
   refine turn_range w B5 B8 M [D1] 1 stop s true ?range1 ?rest1
   case' range1 =>
    refine wpIn_rangeFunc_ownG rfl (by omega) (gf := 21) (lb := #[.pointer (some ⟨B5, 0, none⟩)]) rfl trivial (enters_of Tryd.func21 (by kernel_rfl) rfl)
        (all1_stops (4 - 1) (by omega) B5 w.heap.size s W0 (by have := HSZ.out; have := HLT.out; omega) HM.out.lt (HM.out.below HS0.out.bel) HS0.out.b5.cell (by omega)) KpS.trans (KpS.b (by have := HSZ.out; have := HLT.out; omega) (by have := HSZ.out; have := HLT.out; omega)) (Below.refl _ _) (fun _ => rfl)
        (fun pre W => Chain (strL s) pre ∧ AllS w w.heap.size (w.heap.size + 1) B5 s B8 M [D1] 1 stop (endOf pre : Int) (pre.length : Int) (toS ((strL s).take (endOf pre))) W)
        (fun c pre _ => c = .ret ∧ ¬ Chain (strL s) pre)
        (OwnFrom.and (fun _ _ _ _ h _ _ => h) (allS_own (by have := HSZ.out; have := HLT.out; omega) HDS.out (fun pre => (endOf pre : Int)) (fun pre => (pre.length : Int)) (fun pre => (toS ((strL s).take (endOf pre))))))
        (fun _ _ _ _ _ hs _ _ => hs)
        ⟨.nil, HS0.out⟩
        (fun x => { tmps := #[.string s, .int .u8 stop, undef, .pointer (some ⟨w.heap.size, 0, none⟩), .pointer (some ⟨w.heap.size + 1, 0, none⟩), (.func (.func 21) #[] #[.pointer (some ⟨B5, 0, none⟩)]), .int .i64 (E : Int), .int .i64 (E : Int), .pointer (some ⟨B8, 0, none⟩), .pointer (some ⟨M, 0, none⟩), .pointer (some ⟨M + 1, 0, none⟩), .pointer (some ⟨M + 1 + 1, 0, none⟩), .int .i64 (x.1 : Int), .int .i64 (nxL ((strL s).drop x.1)).1, .bool true, .bool false, .string s, .int .i64 (s.size : Int), .bool false, .string s, (.func (.func 21) #[] #[.pointer (some ⟨B5, 0, none⟩)]), (.func (.func 21) #[] #[.pointer (some ⟨B5, 0, none⟩)]), .bool false, .string s, .int .i64 (s.size : Int), .string s, .int .i64 (E : Int), .int .i64 (E : Int), .bool true, .int .i64 (E : Int), .int .i64 1, .bool true, .int .i64 0, .int .i64 1, (.func (.func 21) #[] #[.pointer (some ⟨B5, 0, none⟩)]), .int .i64 (x.1 : Int), .int .i64 (nxL ((strL s).drop x.1)).1, undef, undef, undef, undef, undef, undef, undef, undef, undef, undef, undef, undef, undef, undef, undef, undef, undef, undef, undef, undef, undef, undef, undef, undef, undef, undef, .string TE, .string s, .int .i64 (pE : Int), .string (s.extract 0 pE), .bool false, .bool false, .int .i64 0, .bool false, .bool false, undef, undef, undef, .bool false, .bool false, .int .i64 0], defers := [] }) ?assign1 ?body1 ?done1 ?stop1
    case assign1 =>
        intro l x W K hK
        gi_wp2
        exact hK
    case body1 =>
        rintro l pre x W ⟨hch, hS⟩ hlen
        have hfd := nx_found x.2.2
        have hnb := nxtP_bd x
        have hxl : x.1 < s.size := by have := x.2.1; have := length_strL s; omega
        have hc9 := hS.b9.cell
        have hf4 := hS.b4.frozen
        have hc4 := hS.b4.cell
        have HCH := Lib.hid hch
        have HS := Lib.hid hS
        obtain ⟨hy0, _⟩ := hfd.2.2.2.2.2
        have HFD := Lib.hid hfd
        have HNB := Lib.hid hnb
        clear hfd hnb hS hch
        by_cases hx : x.1 = endOf pre
        · have HC2 : Hid (Chain (strL s) (pre ++ [x])) := Lib.hid (.snoc HCH.out hx)
          obtain ⟨p, hp⟩ : ∃ p, p = endOf pre := ⟨_, rfl⟩
          rw [← hp] at hx hc9 HS
          have hy0' : 0 ≤ (nxL ((strL s).drop p)).1 := by rw [← hx]; exact hy0
          have hps : p < s.size := by omega
          have HPU := Lib.hid (fun (W : World) (hM : Marks W) => put_any (nxL ((strL s).drop p)).1 W hM)
          have hfd := HFD.out
          rw [hx] at hfd
          have hend : endOf (pre ++ [x]) = p + (nxL ((strL s).drop p)).2 := by rw [endOf_snoc]; unfold nxtP; rw [hx]
          have HEND : Hid ((endOf (pre ++ [x]) : Int) = (p : Int) + ((toS (putL (nxL ((strL s).drop p)).1)).size : Int) ∧ ((pre ++ [x]).length : Int) = (pre.length : Int) + 1 ∧ toS ((strL s).take (endOf (pre ++ [x]))) = toS ((strL s).take p) ++ toS (putL (nxL ((strL s).drop p)).1)) := Lib.hid (by
            refine ⟨by rw [hend, size_toS, hfd.2.1]; omega, by simp, ?_⟩
            rw [hend, toS_append ((strL_bd s).take p) (putL_bytes _), hfd.1, ← List.take_add])
          rw [hx]
          obtain ⟨y, hy⟩ : ∃ y, y = (nxL ((strL s).drop p)).1 := ⟨_, rfl⟩
          rw [← hy] at HPU hy0' HEND ⊢
          obtain ⟨T, hT⟩ : ∃ T, T = toS ((strL s).take p) := ⟨_, rfl⟩
          obtain ⟨U, hU⟩ : ∃ U, U = toS (putL y) := ⟨_, rfl⟩
          have hTs : T.size ≤ 5000 := by rw [hT, size_toS, List.length_take, length_strL]; omega
          have hUs : U.size ≤ 4 := by rw [hU, size_toS]; exact putL_len y
          have hTU : T.size + U.size ≤ 9223372036854775807 := by omega
          rw [← hT] at HS HEND
          rw [← hU] at HPU HEND
          have hc10 := HS.out.b10.cell
          have hf10 := HS.out.b10.frozen
          have HWR : Hid (IntKind.i64.wrap ((p : Int) + (U.size : Int)) = (p : Int) + (U.size : Int)) := Lib.hid (by rw [IntKind.wrap_i64]; omega)
          have hyd : decide (y < 0) = false := decide_eq_false (by omega)
          have hM5 : B5 < M ∧ w.heap.size ≤ M := HLT.out
          clear hx hp hT hU hy0 hy hxl hfd hend HFD HNB
          gi_wp2
          gi_region_with_o (refine ⟨trivial, ?_⟩; gi_at_call 10; refine (CallsIn.inRound l (callsIn_wide.2 (HPU.out W.drew (HM.out.below HS.out.drew.bel)))).mono ?_; rintro e w' ⟨rfl, hb⟩; have HS2 := Lib.hid (HS.out.drew.below hb); have hc10' := HS2.out.b10.cell; have hf10' := HS2.out.b10.frozen; have HR2 := Lib.hid ((RelS.below (n₀ := w.heap.size) (Bs := B5) (Below.refl _ W).drew HS.out.bel.size (by have := HS.out.b9.lt; omega)).trans (RelS.below (n₀ := w.heap.size) (Bs := B5) hb HS.out.bel.size (by have := HS.out.b9.lt; simp; omega))); clear hb)
          all_goals
            have HS3 := Lib.hid (HS2.out.set10 (T ++ U))
            have HR3 := Lib.hid (HR2.out.trans (RelS.set w' (M + 1) (.string (T ++ U)) (by omega) (by omega)))
            obtain ⟨W2, hW2⟩ : ∃ x, x = w'.setCell ⟨M + 1, 0, none⟩ (.string (T ++ U)) := ⟨_, rfl⟩
            rw [← hW2] at HS3 HR3 ⊢
            clear hW2 hc10 hf10 hc10' hf10' HS2 HR2 hc9
            have hc9 := HS3.out.b9.cell
            have hf9 := HS3.out.b9.frozen
            gi_wp2
            gi_region_with_o (refine ⟨trivial, ?_⟩; gi_at_call 10; refine (CallsIn.inRound l (callsIn_wide.2 (HPU.out W2.drew (HM.out.below HS3.out.drew.bel)))).mono ?_; rintro e w3 ⟨rfl, hb⟩; have HS4 := Lib.hid (HS3.out.drew.below hb); have hc9' := HS4.out.b9.cell; have hf9' := HS4.out.b9.frozen; have HR4 := Lib.hid (HR3.out.trans ((RelS.below (n₀ := w.heap.size) (Bs := B5) (Below.refl _ W2).drew HS3.out.bel.size (by have := HS3.out.b9.lt; omega)).trans (RelS.below (n₀ := w.heap.size) (Bs := B5) hb HS3.out.bel.size (by have := HS3.out.b9.lt; simp; omega)))); clear hb)
            all_goals
              rw [HWR.out]
              have HS5 := Lib.hid (HS4.out.set9 ((p : Int) + (U.size : Int)))
              have HR5 := Lib.hid (HR4.out.trans (RelS.set w3 M (.int .i64 ((p : Int) + (U.size : Int))) (by omega) (by omega)))
              obtain ⟨W3, hW3⟩ : ∃ x, x = w3.setCell ⟨M, 0, none⟩ (.int .i64 ((p : Int) + (U.size : Int))) := ⟨_, rfl⟩
              rw [← hW3] at HS5 HR5 ⊢
              clear hW3 hc9 hf9 hc9' hf9' HS4 HR4
              have hc11 := HS5.out.b11.cell
              have hf11 := HS5.out.b11.frozen
              have HS6 := Lib.hid (HS5.out.set11 ((pre.length : Int) + 1))
              have HR6 := Lib.hid (HR5.out.trans (RelS.set W3 (M + 1 + 1) (.int .i64 ((pre.length : Int) + 1)) (by omega) (by omega)))
              have hc8 := HS6.out.b8.cell
              have hc3 := HS6.out.b3.cell
              have hc11' := HS6.out.b11.cell
              have HQ : Hid (AllS w w.heap.size (w.heap.size + 1) B5 s B8 M [D1] 1 stop (endOf (pre ++ [x]) : Int) ((pre ++ [x]).length : Int) (toS ((strL s).take (endOf (pre ++ [x])))) (W3.setCell ⟨M + 1 + 1, 0, none⟩ (.int .i64 ((pre.length : Int) + 1)))) := Lib.hid (by
                rw [HEND.out.1, HEND.out.2.1, HEND.out.2.2]; exact HS6.out)
              gi_wp2
              exact ⟨HR6.out.1.from _, HR6.out.2, HC2.out, HQ.out⟩
        · have hxb : ((x.1 : Int) == (endOf pre : Int)) = false := by rw [beq_eq_false_iff_ne]; omega
          have hxn : ((x.1 : Int) != (endOf pre : Int)) = true := by rw [bne, hxb]; rfl
          have HX := Lib.hid hx
          clear hx
          gi_wp2
          exact ⟨(KeepsOthers.setCell _ _ _).from _, ⟨rfl, fun hch => HX.out hch.last⟩⟩
    case done1 =>
        rintro D ys W hD ⟨hch, hend⟩ ⟨_, hS⟩ hK
        exact ⟨.inl rfl, D, ys, rfl, hch, (fun _ => hend), hS, hK, hD⟩
    case stop1 =>
        rintro D c pre W hD hch ⟨_, hn⟩ hK
        exact absurd hch hn
   case' rest1 =>
    rintro e a' W ⟨he, D2, ys, rfl, hch, hfull, hS, hK1, hD1⟩
    suffices hgo : _ from (show _ from by
       rcases he with rfl | rfl
       · exact hgo
       · exact hgo)
    have hlen := hch.len
    rw [length_strL] at hlen
    obtain ⟨hl1, hl2⟩ := hlen
    have heq : ((toS ((strL s).take (endOf ys))).toList == (s.extract 0 (endOf ys)).toList) = true := by
       rw [eq_toList, decide_eq_true_eq]
       exact strL_inj (by rw [strL_toS ((strL_bd s).take _), strL_extract, List.drop_zero])
    have hneq : ((toS ((strL s).take (endOf ys))).toList != (s.extract 0 (endOf ys)).toList) = false := by rw [bne, heq]; rfl
    have hee : ((endOf ys : Int) == (E : Int)) = true := by rw [hfull rfl, HBD.out]; simp
    have hne : ((endOf ys : Int) != (E : Int)) = false := by rw [bne, hee]; rfl
    obtain ⟨pE, hp⟩ : ∃ p, p = endOf ys := ⟨_, rfl⟩
    rw [← hp] at hl2 heq hneq hS hee hne
    obtain ⟨TE, hT⟩ : ∃ T, T = toS ((strL s).take pE) := ⟨_, rfl⟩
    rw [← hT] at heq hneq hS
    have hc10 := hS.b10.cell
    have hc9 := hS.b9.cell
    have hc8 := hS.b8.cell
    have b0 : (0 : Int) ≤ (pE : Int) := by omega
    have b1 : (pE : Int) ≤ (s.size : Int) := by omega
    have b2 : ((pE : Int)).toNat = pE := by omega
    have HS := Lib.hid hS
    have HK1 := Lib.hid (And.intro hK1 hD1)
    have HDW2 : Hid (w.heap.size ≤ D2) := Lib.hid (by have := HSZ.out; have := HLT.out; omega)
    clear hch hl1 hS hK1 hD1 hp hT HS0 hfull he HP
    gi_wp2
    gi_quiet (fail)
    have HSW := Lib.hid (HS.out.below (belowDN W nq))
    have HKW := Lib.hid ((((belowDN W nq).block D2 (Array.getElem?_eq_some_iff.1 HK1.out.1).1)).trans HK1.out.1)
    have HD2 := Lib.hid HK1.out.2
    obtain ⟨W4, hW4⟩ : ∃ x, x = W.drewN nq := ⟨_, rfl⟩
    rw [← hW4] at HSW HKW ⊢
    clear hW4 HS HK1 hc8 hc9 hc10 b0 b1 b2 heq hneq hee hne
    have hc8 := HSW.out.b8.cell
    gi_wp2
    have hs4 := HSW.out.b4.alloc (.cells #[.int .i64 2] 3)
    have HB5 := Lib.hid (HSW.out.bel.alloc HSW.out.bel.size (.cells #[.int .i64 2] 3))
    have HK2 := Lib.hid ((Below.heap_alloc W4 (.cells #[.int .i64 2] 3) _ (Array.getElem?_eq_some_iff.1 HKW.out).1).trans HKW.out)
    have HK1 := Lib.hid ((Below.heap_alloc W4 (.cells #[.int .i64 2] 3) _ (Array.getElem?_eq_some_iff.1 (HSW.out.ds D1 (List.mem_singleton.2 rfl))).1).trans (HSW.out.ds D1 (List.mem_singleton.2 rfl)))
    have hb8 := Boxed.new W4 3 (.int .i64 2)
    obtain ⟨W5, hW5⟩ : ∃ x, x = W4.alloc (.cells #[.int .i64 2] 3) := ⟨_, rfl⟩
    rw [← hW5] at hs4 HB5 HK2 HK1 hb8 ⊢
    have hc4 := hs4.cell
    have hf4 := hs4.frozen
    have hc8' := hb8.cell
    have HS4 := Lib.hid hs4
    clear hs4 hb8 hW5 hc8
    rw [roundsIn_succ]
    gi_wp2
    have hKa := (KeepsOthers.setCell W5 ⟨w.heap.size + 1, 0, none⟩ (.bool true)).same D2 _ HK2.out rfl
    have hKb := (World.putObj_heap_other (w := W5.setCell ⟨w.heap.size + 1, 0, none⟩ (.bool true)) (o := .deferred none) (show D1 ≠ D2 by have := HD2.out; have := HDS.out D1 (List.mem_singleton.2 rfl); omega)).trans ((KeepsOthers.setCell W5 ⟨w.heap.size + 1, 0, none⟩ (.bool true)).same D1 _ HK1.out rfl)
    have hv := (HS4.out.set (.bool true)).cell
    have hv1 := cell_kept hv (grownBy_putObj' _ D2 (.deferred none)) (fun r e => by cases e; exact ⟨_, hKa, rfl⟩)
    have hv2 := cell_kept hv1 (grownBy_putObj' _ D1 (.deferred none)) (fun r e => by cases e; exact ⟨_, hKb, rfl⟩)
    refine ⟨by simp, .inl ⟨_, _, rfl, run_takeDeferred hKa, ⟨by simp, .inl ⟨_, _, rfl, run_takeDeferred hKb, ?_⟩⟩⟩⟩
    refine ⟨.bool true, ?_, rfl, ?_⟩
    · simp [results, Tryd.f5, go_sem, hv2]
    · have h1 := HB5.out.setCell (p := ⟨w.heap.size + 1, 0, none⟩) (by simp) (.bool true)
      exact (h1.trans (belowK_b (w := w) (Nat.le_refl _) _ D2 _ _ HDW2.out hKa rfl rfl)).trans (belowK_b (w := w) (Nat.le_refl _) _ D1 _ _ HDW1.out hKb rfl rfl)
end Go.Proofs.YtaepfdkbefojmaaDoor
