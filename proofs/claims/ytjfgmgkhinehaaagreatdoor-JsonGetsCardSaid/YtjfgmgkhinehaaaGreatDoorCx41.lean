/- JpSym, JpSortAll, JpParseAll: merged. -/
import Derived.Test.YtjfgmgkhinehaaaGreatDoorCx36
set_option linter.all false
namespace Go.Proofs.YtjfgmgkhinehaaaGreatDoor
open Go Go.Shelf Go.RowKit Go.Lib Go.Sort
set_option maxRecDepth 100000 in
set_option maxHeartbeats 8000000 in
theorem symMerge_gen {P : Program} {α : Type} [Inhabited α] (L : SlLaysF0.n20 P Tryz.insertM_ren) (FG : P.funcs[121]? = some Tryz.f121) (tU : P.underlying 205 = some (.int .u64)) (k : Nat) (aE : ∀ w, (isAgg 30).run P w = .ok true w) (zE : ∀ w, (Go.sizeOf 30).run P w = .ok k w)
    (enc : α → List Value) (hk : ∀ x, (enc x).length = k) (h1 : ∀ x, ∀ v ∈ enc x, v.oneCell' = true) (cf : α → α → Int) (hO : SWO (ltOf cf)) (g : Nat) (cb : Array Value) (eg : ∀ args w, (callFunc g args).run P w = .ok (.enter g args) w) (blk off cap N : Nat) (w0 : World) (d0 : Array α) (hN : d0.size = N) (hH : HoldsK enc k w0 blk off d0) (hblk : blk < w0.heap.size) (hsz : N < 1152921504606846976) (hcmp : CmpLays P g cb enc k cf blk off N w0) (e114 : ∀ args w, (callFunc 152 args).run P w = .ok (.enter 152 args) w) (e98 : ∀ args w, (callFunc 121 args).run P w = .ok (.enter 121 args) w)
    (hrot : ∀ (a m b n : Nat) (d : Array α) (os : Array Obj), d.size = N → a < m → m < b → b ≤ N → Calls P 152 #[.slice (some ⟨blk, off, none⟩) N cap, .int .i64 a, .int .i64 m, .int .i64 b, .func (.func g) #[] cb] (sortWorldK enc k w0 blk off n d os) fun e w' => e = .returned (.tuple #[]) ∧ ∃ n' os' d', w' = sortWorldK enc k w0 blk off n' d' os' ∧ Rot d d' a m b ∧ PermIn a b d d') :
    ∀ (f a m b n : Nat) (d : Array α) (os : Array Obj), b - a < f → a < m → m < b → b ≤ N → d.size = N → SortedIn (ltOf cf) a m d → SortedIn (ltOf cf) m b d →
    Calls P 121 #[.slice (some ⟨blk, off, none⟩) N cap, .int .i64 a, .int .i64 m, .int .i64 b, .func (.func g) #[] cb] (sortWorldK enc k w0 blk off n d os) fun e w' => e = .returned (.tuple #[]) ∧ ∃ n' os' d', w' = sortWorldK enc k w0 blk off n' d' os' ∧ PermIn a b d d' ∧ SortedIn (ltOf cf) a b d' := by
  intro f
  induction f with
  | zero => intro a m b n d os h; exact absurd h (Nat.not_lt_zero _)
  | succ f ih =>
    intro a m b n d os hf ham hmb hb hd hs1 hs2
    by_cases c1 : m = a + 1
    · exact symUp_gen L FG tU k aE zE enc hk h1 cf hO g cb eg blk off cap N w0 d0 hN hH hblk hsz hcmp a m b n d os c1 hmb hb hd hs2
    by_cases c2 : b = m + 1
    · exact symDown_gen L FG tU k aE zE enc hk h1 cf hO g cb eg blk off cap N w0 d0 hN hH hblk hsz hcmp a m b n d os (by omega) c2 hb hd hs1
    have mixed := L.mixed
    have t22 : P.underlying 25 = some (.slice 30) := L.t22
    have a22 : ∀ w, (isAgg 25).run P w = .ok false w := L.a22
    have z22 : ∀ w, (Go.sizeOf 25).run P w = .ok 1 w := L.z22
    have v22 : ∀ w, (zeroValue 25).run P w = .ok (Value.slice none 0 0) w := L.v22
    have t3 : P.underlying 3 = some (.int .i64) := L.t3
    have a3 : ∀ w, (isAgg 3).run P w = .ok false w := L.a3
    have z3 : ∀ w, (Go.sizeOf 3).run P w = .ok 1 w := L.z3
    have v3 : ∀ w, (zeroValue 3).run P w = .ok (.int .i64 0) w := L.v3
    have u22 := run_underlying t22
    have HK : Hid (∀ x, (enc x).length = k) := hk
    have H1 : Hid (∀ x, ∀ v ∈ enc x, v.oneCell' = true) := h1
    have HC : Hid (CmpLays P g cb enc k cf blk off N w0) := hcmp
    have HHD : Hid (∀ n (d : Array α) os, d.size = N → HoldsK enc k (sortWorldK enc k w0 blk off n d os) blk off d) := fun n d os hd => holdsK_sortWorldK_c enc k w0 blk off d0 d n os hH hblk (by omega)
    have HCL : Hid (∀ n (d : Array α) os q os', grow ((sortWorldK enc k w0 blk off n d os).drewN q) os' = sortWorldK enc k w0 blk off (n + q) d (os ++ os')) := fun n d os q os' => sortWorldK_grown_c enc k w0 blk off n q d os os'
    have HLD : Hid (∀ n (d : Array α) os x, d.size = N → x < N → ∀ q os', Sem.run P (loadCellsFrom ⟨blk, off + x * k, none⟩ 0 k #[]) (grow ((sortWorldK enc k w0 blk off n d os).drewN q) os') = .ok (enc d[x]!).toArray (grow ((sortWorldK enc k w0 blk off n d os).drewN q) os')) := fun n d os x hd hx q os' => by
      rw [HCL.out]; exact run_loadCellsFrom_list P _ _ _ k (HK.out _) (HoldsK.cells (HHD.out _ d _ hd) HK.out (by omega))
    have HCG : Hid (∀ n (d : Array α) os x y, d.size = N → ∀ q os', Calls P g (#[.agg (enc x).toArray, .agg (enc y).toArray] ++ cb) (grow ((sortWorldK enc k w0 blk off n d os).drewN q) os') fun e w' => e = .returned (.int .i64 (cf x y)) ∧ ∃ q' os'', w' = grow ((grow ((sortWorldK enc k w0 blk off n d os).drewN q) os').drewN q') os'') := fun n d os x y hd q os' => by
      rw [HCL.out]; exact HC.out _ _ d hd x y
    have HS1 : Hid (SortedIn (ltOf cf) a m d) := hs1
    have HS2 : Hid (SortedIn (ltOf cf) m b d) := hs2
    have HO : Hid (SWO (ltOf cf)) := hO
    have HROT := Lib.hid hrot
    have IH := Lib.hid ih
    clear hk h1 hcmp hH hs1 hs2 hO hrot ih
    have wma : IntKind.i64.wrap ((m : Int) - (a : Int)) = (m : Int) - (a : Int) := by rw [IntKind.wrap_i64]; omega
    have wne : (((m : Int) - (a : Int)) == 1) = false := by rw [beq_eq_false_iff_ne]; omega
    have wne' : ¬ ((m : Int) - (a : Int) = 1) := by omega
    have wbm : IntKind.i64.wrap ((b : Int) - (m : Int)) = (b : Int) - (m : Int) := by rw [IntKind.wrap_i64]; omega
    have wnf : (((b : Int) - (m : Int)) == 1) = false := by rw [beq_eq_false_iff_ne]; omega
    have wnf' : ¬ ((b : Int) - (m : Int) = 1) := by omega
    obtain ⟨mid, hmid⟩ : ∃ x, x = (a + b) / 2 := ⟨_, rfl⟩
    have hmz : ((a : Int) + (b : Int)) / 2 = (mid : Int) := by omega
    have HMID : Hid (mid = (a + b) / 2) := hmid
    have hmN : mid < N := by omega
    obtain ⟨s0, r0, h0, hst⟩ : ∃ s0 r0, ((mid < m ∧ s0 = mid + m - b ∧ r0 = mid) ∨ (m ≤ mid ∧ s0 = a ∧ r0 = m)) ∧ a ≤ s0 := by
      by_cases h : mid < m
      · exact ⟨_, _, .inl ⟨h, rfl, rfl⟩, by omega⟩
      · exact ⟨_, _, .inr ⟨by omega, rfl, rfl⟩, Nat.le_refl _⟩
    have HH0 : Hid ((mid < m ∧ s0 = mid + m - b ∧ r0 = mid) ∨ (m ≤ mid ∧ s0 = a ∧ r0 = m)) := h0
    have hsr : s0 ≤ r0 := by omega
    have wmm : IntKind.i64.wrap ((mid : Int) + (m : Int)) = (mid : Int) + (m : Int) := by rw [IntKind.wrap_i64]; omega
    have hrm : r0 ≤ m := by omega
    have hrd : r0 ≤ mid := by omega
    clear hmid
    go_enter FG, Tryz.ntmps121
    go_upto_if 140 with fail
    go_cut [20, 21] from 25 (fun v20 v21 wx => v20 = .int .i64 (s0 : Int) ∧ v21 = .int .i64 (r0 : Int) ∧ wx = sortWorldK enc k w0 blk off n d os)
    case first =>
      rcases HH0.out with ⟨x1, x2, x3⟩ | ⟨x1, x2, x3⟩
      · have hz : (mid : Int) < (m : Int) := by omega
        have wsb : IntKind.i64.wrap ((mid : Int) + (m : Int) - (b : Int)) = (s0 : Int) := by rw [IntKind.wrap_i64]; omega
        have hrz : r0 = mid := x3
        clear h0 x1 x2 x3
        go_wp2_with fail
        go_meet
        case rel => exact ⟨rfl, by rw [hrz], rfl⟩
      · have hz : ¬ (mid : Int) < (m : Int) := by omega
        have hrz : s0 = a ∧ r0 = m := ⟨x2, x3⟩
        clear h0 x1 x2 x3
        go_wp2_with fail
        go_meet
        case rel => exact ⟨by rw [hrz.1], by rw [hrz.2], rfl⟩
    case rest => as_aux_lemma =>
      obtain ⟨rfl, rfl, rfl⟩ := hcut
      clear h0
      have wp1 : IntKind.i64.wrap ((mid : Int) + (m : Int) - 1) = (mid : Int) + (m : Int) - 1 := by rw [IntKind.wrap_i64]; omega
      go_wp2_with fail
      go_loopw [20, 21] (fun v u wr => ∃ (s r n' : Nat) (os' : Array Obj), v = .int .i64 s ∧ u = .int .i64 r ∧ s0 ≤ s ∧ s ≤ r ∧ r ≤ r0 ∧ wr = sortWorldK enc k w0 blk off n' d os' ∧ Hid ((∀ t, s0 ≤ t → t < s → ltOf cf d[mid + m - 1 - t]! d[t]! = false) ∧ (∀ t, r ≤ t → t < r0 → ltOf cf d[mid + m - 1 - t]! d[t]! = true))) (fun v u _ => (intOf u - intOf v).toNat)
      case atStart => exact ⟨s0, r0, n, os, rfl, rfl, Nat.le_refl _, hsr, Nat.le_refl _, rfl, fun t h1 h2 => by omega, fun t h1 h2 => by omega⟩
      case round =>
        obtain ⟨s, r, n', os', rfl, rfl, hs0, hsr', hr0, rfl, HI⟩ := hrel
        by_cases hlt : s < r
        · have hltz : (s : Int) < (r : Int) := by omega
          have hhN : (s + r) / 2 < N := by omega
          have hh0 : (0 : Int) ≤ ((s : Int) + (r : Int)) / 2 := by omega
          have hhZ : ((s : Int) + (r : Int)) / 2 < (N : Int) := by omega
          have hhn : (((s : Int) + (r : Int)) / 2).toNat = (s + r) / 2 := by omega
          obtain ⟨pc, hpc⟩ : ∃ x, x = mid + m - 1 - (s + r) / 2 := ⟨_, rfl⟩
          have HPC : Hid (pc = mid + m - 1 - (s + r) / 2) := hpc
          have hpN : pc < N := by have := HMID.out; have := HH0.out; omega
          have pz0 : (0 : Int) ≤ (pc : Int) := by omega
          have pzN : (pc : Int) < (N : Int) := by omega
          have wpc : IntKind.i64.wrap ((mid : Int) + (m : Int) - 1 - ((s : Int) + (r : Int)) / 2) = (pc : Int) := by rw [IntKind.wrap_i64]; omega
          clear hpc
          obtain ⟨xp, hxp⟩ : ∃ x, d[pc]! = x := ⟨_, rfl⟩
          obtain ⟨xh, hxh⟩ : ∃ x, d[(s + r) / 2]! = x := ⟨_, rfl⟩
          have lxp := HLD.out n' d os' (pc) (by omega) (by omega)
          have lxh := HLD.out n' d os' ((s + r) / 2) (by omega) (by omega)
          rw [hxp] at lxp
          rw [hxh] at lxh
          have hcg := HCG.out n' d os' xp xh (by omega)
          have CLS := Lib.hid (HCL.out n' d os')
          have HXxp := Lib.hid hxp
          have HXxh := Lib.hid hxh
          clear hxp hxh
          generalize sortWorldK enc k w0 blk off n' d os' = wq at lxp lxh hcg CLS ⊢
          by_cases hlv : cf xp xh < 0
          · as_aux_lemma =>
              have hdv : decide (cf xp xh < 0) = true := decide_eq_true hlv
              go_wp2_with fail
              go_quiet_grown (first | (go_at_fn g; refine Calls.grown_of (hcg _ _)))
              go_wp2_with fail
              go_roundw
              case rel =>
                refine ⟨s, (s + r) / 2, n' + nq, os' ++ osq, rfl, by first | (congr 1; omega) | congr 1, hs0, by omega, by omega, CLS.out nq osq, HI.out.1, fun t h1 h2 => ?_⟩
                have e2 : ltOf cf d[mid + m - 1 - (s + r) / 2]! d[(s + r) / 2]! = true := by rw [← HPC.out, HXxp.out, HXxh.out]; exact decide_eq_true (by omega)
                have hm := HMID.out
                have h0 := HH0.out
                exact sym_mono_hi HO.out HS1.out HS2.out (h := (s + r) / 2) (by omega) h1 (by omega) (by omega) (by omega) e2
              case measure => simp [intOf]; omega
          · as_aux_lemma =>
              have hdv : decide (cf xp xh < 0) = false := decide_eq_false hlv
              go_wp2_with fail
              go_quiet_grown (first | (go_at_fn g; refine Calls.grown_of (hcg _ _)))
              go_wp2_with fail
              go_roundw
              case rel =>
                refine ⟨(s + r) / 2 + 1, r, n' + nq, os' ++ osq, by first | (congr 1; omega) | congr 1, rfl, by omega, by omega, hr0, CLS.out nq osq, fun t h1 h2 => ?_, HI.out.2⟩
                have e2 : ltOf cf d[mid + m - 1 - (s + r) / 2]! d[(s + r) / 2]! = false := by rw [← HPC.out, HXxp.out, HXxh.out]; exact decide_eq_false (by omega)
                have hm := HMID.out
                have h0 := HH0.out
                exact sym_mono_lo HO.out HS1.out HS2.out (h := (s + r) / 2) (by omega) (by omega) (by omega) (by omega) (by omega) e2
              case measure => simp [intOf]; omega
        · obtain rfl : s = r := by omega
          have hltz : ¬ (s : Int) < (s : Int) := by omega
          have hfound := sym_found HO.out (s := s) ham hmb HMID.out HH0.out hs0 hr0 HI.out.1 HI.out.2
          obtain ⟨e, he⟩ : ∃ x, x = mid + m - s := ⟨_, rfl⟩
          rw [← he] at hfound
          obtain ⟨f1, f2, f3, f4, f5, f6, f7, f8⟩ := hfound
          have HF : Hid ((a < s → e < b → ltOf cf d[e]! d[s - 1]! = false) ∧ (s < m → m < e → ltOf cf d[e - 1]! d[s]! = true)) := ⟨f7, f8⟩
          have we : IntKind.i64.wrap ((mid : Int) + (m : Int) - (s : Int)) = (e : Int) := by rw [IntKind.wrap_i64]; omega
          have hse : s + e = mid + m := by omega
          clear f7 f8 he hs0 hr0 hsr' hlt
          go_upto_region 39 with fail
          go_cut [185] from 25 (fun v wx => v = .bool (decide (s < m) && decide (m < e)) ∧ wx = sortWorldK enc k w0 blk off n' d os')
          case first =>
            by_cases y1 : s < m
            · have z1 : (s : Int) < (m : Int) := by omega
              by_cases y2 : m < e
              · have z2 : (m : Int) < (e : Int) := by omega
                go_wp2_with fail
                go_meet
                case rel => exact ⟨by rw [decide_eq_true y1, decide_eq_true y2]; rfl, rfl⟩
              · have z2 : ¬ (m : Int) < (e : Int) := by omega
                go_wp2_with fail
                go_meet
                case rel => exact ⟨by rw [decide_eq_true y1, decide_eq_false y2]; rfl, rfl⟩
            · have z1 : ¬ (s : Int) < (m : Int) := by omega
              go_wp2_with fail
              go_meet
              case rel => exact ⟨by rw [decide_eq_false y1]; rfl, rfl⟩
          case rest => as_aux_lemma =>
            obtain ⟨rfl, rfl⟩ := hcut
            go_upto_if 185 with fail
            go_cut [] from 25 (fun wx => ∃ (n2 : Nat) (d2 : Array α) (os2 : Array Obj), wx = sortWorldK enc k w0 blk off n2 d2 os2 ∧ d2.size = N ∧ Hid (Rot d d2 s m e ∧ PermIn a b d d2))
            case first =>
              by_cases y : s < m ∧ m < e
              · have hy : (decide (s < m) && decide (m < e)) = true := by rw [decide_eq_true y.1, decide_eq_true y.2]; rfl
                obtain ⟨y1, y2⟩ := y
                rw [hy]
                go_wp2_with (go_at_fn 152; (with_reducible refine (HROT.out s m e n' d os' hd y1 y2 (by omega)).mono ?_); rintro e_ w' ⟨rfl, n2, os2, d2, rfl, hr, hp⟩)
                go_meet
                case rel => exact ⟨n2, d2, os2, rfl, by rw [hp.1]; exact hd, hr, permIn_mono _ _ _ _ _ _ f1 f5 (by omega) hp⟩
              · have hy : (decide (s < m) && decide (m < e)) = false := by
                  by_cases y1 : s < m
                  · rw [decide_eq_false (fun y2 => y ⟨y1, y2⟩), Bool.and_false]
                  · rw [decide_eq_false y1, Bool.false_and]
                rw [hy]
                go_wp2_with fail
                go_meet
                case rel => exact ⟨n', d, os', rfl, hd, Rot.none d f2 f4 (by omega), permIn_refl _ _ _⟩
            case rest => as_aux_lemma =>
              obtain ⟨n2, d2, os2, rfl, hd2, HRP⟩ := hcut
              have HPT := Lib.hid (sym_part HO.out f1 f2 f4 f5 hse HS1.out HS2.out HF.out.1 HF.out.2 HRP.out.1)
              have ham' : a < mid := by have := HMID.out; omega
              have hmb' : mid < b := by have := HMID.out; omega
              go_upto_region 41 with fail
              go_cut [199] from 25 (fun v wx => v = .bool (decide (a < s) && decide (s < mid)) ∧ wx = sortWorldK enc k w0 blk off n2 d2 os2)
              case first =>
                by_cases y1 : a < s
                · have z1 : (a : Int) < (s : Int) := by omega
                  by_cases y2 : s < mid
                  · have z2 : (s : Int) < (mid : Int) := by omega
                    go_wp2_with fail
                    go_meet
                    case rel => exact ⟨by rw [decide_eq_true y1, decide_eq_true y2]; rfl, rfl⟩
                  · have z2 : ¬ (s : Int) < (mid : Int) := by omega
                    go_wp2_with fail
                    go_meet
                    case rel => exact ⟨by rw [decide_eq_true y1, decide_eq_false y2]; rfl, rfl⟩
                · have z1 : ¬ (a : Int) < (s : Int) := by omega
                  go_wp2_with fail
                  go_meet
                  case rel => exact ⟨by rw [decide_eq_false y1]; rfl, rfl⟩
              case rest => as_aux_lemma =>
                obtain ⟨rfl, rfl⟩ := hcut
                go_upto_if 199 with fail
                go_cut [] from 25 (fun wx => ∃ (n3 : Nat) (d3 : Array α) (os3 : Array Obj), wx = sortWorldK enc k w0 blk off n3 d3 os3 ∧ d3.size = N ∧ Hid (PermIn a mid d2 d3 ∧ SortedIn (ltOf cf) a mid d3))
                case first =>
                  by_cases y : a < s ∧ s < mid
                  · have hy : (decide (a < s) && decide (s < mid)) = true := by rw [decide_eq_true y.1, decide_eq_true y.2]; rfl
                    obtain ⟨y1, y2⟩ := y
                    rw [hy]
                    go_wp2_with (go_at_fn 121; (with_reducible refine (IH.out a s mid n2 d2 os2 (by omega) y1 y2 (by omega) hd2 HPT.out.1 HPT.out.2.1).mono ?_); rintro e_ w' ⟨rfl, n3, os3, d3, rfl, hp, hs⟩)
                    go_meet
                    case rel => exact ⟨n3, d3, os3, rfl, by rw [hp.1]; exact hd2, hp, hs⟩
                  · have hy : (decide (a < s) && decide (s < mid)) = false := by
                      by_cases y1 : a < s
                      · rw [decide_eq_false (fun y2 => y ⟨y1, y2⟩), Bool.and_false]
                      · rw [decide_eq_false y1, Bool.false_and]
                    rw [hy]
                    go_wp2_with fail
                    go_meet
                    case rel =>
                      refine ⟨n2, d2, os2, rfl, hd2, permIn_refl _ _ _, ?_⟩
                      by_cases y1 : a < s
                      · have e1 : s = mid := by omega
                        rw [← e1]; exact HPT.out.1
                      · have e1 : a = s := by omega
                        rw [e1]; exact HPT.out.2.1
                case rest => as_aux_lemma =>
                  obtain ⟨n3, d3, os3, rfl, hd3, HP3⟩ := hcut
                  have same3 : ∀ i, mid ≤ i → d3[i]! = d2[i]! := fun i hi => HP3.out.1.2.1 i (.inr hi)
                  have HS3 : Hid (SortedIn (ltOf cf) mid e d3 ∧ SortedIn (ltOf cf) e b d3) := ⟨sortedIn_same HPT.out.2.2.1 (fun i h1 _ => same3 i h1), sortedIn_same HPT.out.2.2.2.1 (fun i h1 _ => same3 i (by omega))⟩
                  have fin : ∀ d4 : Array α, PermIn mid b d3 d4 → SortedIn (ltOf cf) mid b d4 → PermIn a b d d4 ∧ SortedIn (ltOf cf) a b d4 := fun d4 hp hs => by
                    obtain ⟨g1, g2⟩ := merge_glue (Nat.le_of_lt ham') (Nat.le_of_lt hmb') (by omega) HPT.out.2.2.2.2 HP3.out.1 HP3.out.2 hp hs
                    exact ⟨permIn_trans _ _ _ _ _ HRP.out.2 g1, g2⟩
                  have FIN := Lib.hid fin
                  clear fin same3
                  go_upto_region 43 with fail
                  by_cases y1 : mid < e
                  · have z1 : (mid : Int) < (e : Int) := by omega
                    by_cases y2 : e < b
                    · have z2 : (e : Int) < (b : Int) := by omega
                      go_wp2_with (go_at_fn 121; (with_reducible refine (IH.out mid e b n3 d3 os3 (by omega) y1 y2 hb hd3 HS3.out.1 HS3.out.2).mono ?_); rintro e_ w' ⟨rfl, n4, os4, d4, rfl, hp, hs⟩)
                      go_end0
                      exact ⟨rfl, n4, os4, d4, rfl, FIN.out d4 hp hs⟩
                    · have z2 : ¬ (e : Int) < (b : Int) := by omega
                      have e1 : e = b := by omega
                      go_wp2_with fail
                      go_end0
                      exact ⟨rfl, n3, os3, d3, rfl, FIN.out d3 (permIn_refl _ _ _) (by rw [← e1]; exact HS3.out.1)⟩
                  · have z1 : ¬ (mid : Int) < (e : Int) := by omega
                    have e1 : mid = e := by omega
                    go_wp2_with fail
                    go_end0
                    exact ⟨rfl, n3, os3, d3, rfl, FIN.out d3 (permIn_refl _ _ _) (by rw [e1]; exact HS3.out.2)⟩
end Go.Proofs.YtjfgmgkhinehaaaGreatDoor
namespace Go.Proofs.YtjfgmgkhinehaaaGreatDoor
open Go Go.RowKit Go.Sort
theorem symMerge_any (blk cap N : Nat) (w0 : World) (d0 : Array MT) (hN : d0.size = N) (hH : HoldsK encT 6 w0 blk 0 d0) (hblk : blk < w0.heap.size) (hsz : N < 1152921504606846976) (a m b n : Nat) (d : Array MT) (os : Array Obj) (ham : a < m) (hmb : m < b) (hb : b ≤ N) (hd : d.size = N) (h1 : SortedIn (ltOf cmpM) a m d) (h2 : SortedIn (ltOf cmpM) m b d) :
    Calls Tryz.prog 121 #[.slice (some ⟨blk, 0, none⟩) N cap, .int .i64 a, .int .i64 m, .int .i64 b, .func (.func 47) #[] #[]] (sortWorldK encT 6 w0 blk 0 n d os) fun e w' =>
      e = .returned (.tuple #[]) ∧ ∃ n' os' d', w' = sortWorldK encT 6 w0 blk 0 n' d' os' ∧ PermIn a b d d' ∧ SortedIn (ltOf cmpM) a b d' :=
  symMerge_gen Tryz.insertM Tryz.func121 Tryz.underlying205 6 Tryz.isAgg30 Tryz.sizeOf30 encT (fun _ => rfl) encT_one cmpM swo_cmpM 47 #[] enters_cmp blk 0 cap N w0 d0 hN hH hblk hsz (cmp_lays _ _ _ _)
    (enters_of Tryz.func152 (by kernel_rfl) rfl) (enters_of Tryz.func121 (by kernel_rfl) rfl)
    (fun a m b n d os hd ham hmb hb => by
      have := rotate_any blk cap a m b d (sortWorldK encT 6 w0 blk 0 n d os) (holdsK_sortWorldK_c encT 6 w0 blk 0 d0 d n os hH hblk (by omega)) (lt_sortWorldK encT 6 w0 blk 0 n d os hblk) ham hmb (by omega) (by omega)
      rw [hd] at this
      refine this.mono ?_
      rintro e w' ⟨rfl, k', os', d', rfl, hr, hp⟩
      exact ⟨rfl, n + k', os ++ os', d', sortWorldK_on encT 6 w0 blk 0 n k' _ _ os os' hblk hp.1, hr, hp⟩)
    (b - a + 1) a m b n d os (by omega) ham hmb hb hd h1 h2
set_option maxRecDepth 100000 in
set_option maxHeartbeats 4000000 in
theorem sort_all (n : Nat) (hn60 : n < 576460752303423488) : SortAsk n := fun d blk cap w hn hH hblk => by
  have HIN := Lib.hid (fun (p e k : Nat) (dk : Array MT) (os : Array Obj) (hdk : dk.size = n) (hpe : p ≤ e) (he : e ≤ n) => by
    have := insert_any blk cap p e dk (sortWorldK encT 6 w blk 0 k dk os) (holdsK_sortWorldK_c encT 6 w blk 0 d dk k os hH hblk (by omega)) (lt_sortWorldK encT 6 w blk 0 k dk os hblk) hpe (by omega) (by omega)
    rw [hdk] at this
    exact this.mono (R' := fun e_ w' => e_ = .returned (.tuple #[]) ∧ ∃ k' os' d', w' = sortWorldK encT 6 w blk 0 k' d' os' ∧ PermIn p e dk d' ∧ SortedIn (ltOf cmpM) p e d') (by
      rintro e_ w' ⟨rfl, k', os', rfl⟩
      have hs := insertionSort_holds swo_cmpM dk p e hpe (by omega)
      exact ⟨rfl, k + k', os ++ os', _, sortWorldK_on encT 6 w blk 0 k k' _ _ os os' hblk hs.1.1, hs.1, hs.2⟩))
  have HSY := Lib.hid (symMerge_any blk cap n w d hn hH hblk (by omega))
  have HST : Hid (w = sortWorldK encT 6 w blk 0 0 d #[]) := Lib.hid (by unfold sortWorldK; rw [grow_empty]; exact (putRowK_self encT 6 w blk 0 d hH).symm)
  have HN := Lib.hid hn
  clear hH hn
  go_enter Tryz.func84, Tryz.ntmps84
  go_wp2
  go_loopw [7, 8] (fun v u wr => ∃ (p k : Nat) (dk : Array MT) (os : Array Obj), v = .int .i64 p ∧ u = .int .i64 (p + 20 : Nat) ∧ p ≤ n ∧ dk.size = n ∧ wr = sortWorldK encT 6 w blk 0 k dk os ∧ Hid (PermIn 0 n d dk ∧ BlkTo (ltOf cmpM) 20 dk p)) (fun v _ _ => n - (intOf v).toNat)
  case atStart => exact ⟨0, 0, d, #[], rfl, rfl, Nat.zero_le _, HN.out, HST.out, Lib.hid ⟨permIn_refl _ _ _, .zero⟩⟩
  case round =>
    obtain ⟨p, k, dk, os, rfl, rfl, hp, hdk, rfl, HI⟩ := hrel
    by_cases hlt : p + 20 ≤ n
    · have hz : (p : Int) + 20 ≤ (n : Int) := by omega
      have hz' : ((p + 20 : Nat) : Int) ≤ (n : Int) := by omega
      go_wp2_with (go_at_call 120; refine (HIN.out p (p + 20) k dk os hdk (by omega) hlt).mono ?_; rintro e w' ⟨rfl, k', os', d', rfl, hp1, hs1⟩)
      go_roundw
      case rel =>
        refine ⟨p + 20, k', d', os', by first | rfl | go_num | (congr 1; omega), by first | rfl | go_num | (congr 1; omega), hlt, by rw [hp1.1]; exact hdk, rfl, Lib.hid ⟨permIn_trans _ _ _ _ _ HI.out.1 (permIn_mono _ _ _ _ _ _ (Nat.zero_le _) hlt (by omega) hp1), .step p (HI.out.2.same fun i hi => hp1.2.1 i (.inl hi)) hs1⟩⟩
      case measure => simp [intOf]; omega
    · have hz : ¬ (p : Int) + 20 ≤ (n : Int) := by omega
      have hz' : ¬ ((p + 20 : Nat) : Int) ≤ (n : Int) := by omega
      go_wp2_with (go_at_call 120; refine (HIN.out p n k dk os hdk hp (Nat.le_refl _)).mono ?_; rintro e w' ⟨rfl, k1, os1, d1, rfl, hp1, hs1⟩)
      have hd1 : d1.size = n := by rw [hp1.1]; exact hdk
      have HB : Hid (PermIn 0 n d d1 ∧ BlkFrom (ltOf cmpM) 20 n d1 0) := Lib.hid ⟨permIn_trans _ _ _ _ _ HI.out.1 (permIn_mono _ _ _ _ _ _ (Nat.zero_le _) (Nat.le_refl _) (by omega) hp1), (HI.out.2.same fun i hi => hp1.2.1 i (.inl hi)).join hp (blk_last hs1 (by omega))⟩
      clear HI hp1 hs1 hdk hz hz' hlt hp
      go_loopw [6, 7, 8] (fun v _ _ wr => ∃ (bs k : Nat) (dk : Array MT) (os : Array Obj), v = .int .i64 bs ∧ 0 < bs ∧ bs ≤ 2 * n + 20 ∧ dk.size = n ∧ wr = sortWorldK encT 6 w blk 0 k dk os ∧ Hid (PermIn 0 n d dk ∧ BlkFrom (ltOf cmpM) bs n dk 0)) (fun v _ _ _ => n - (intOf v).toNat)
      case atStart => exact ⟨20, k1, d1, os1, rfl, by omega, by omega, hd1, rfl, HB⟩
      case round =>
        obtain ⟨bs, k2, d2, os2, rfl, hb0, hbn, hd2, rfl, HB2⟩ := hrel
        by_cases hbl : bs < n
        · have hbz : (bs : Int) < (n : Int) := by omega
          have wb2 : IntKind.i64.wrap (2 * (bs : Int)) = ((2 * bs : Nat) : Int) := by rw [IntKind.wrap_i64]; omega
          have wb2' : IntKind.i64.wrap ((bs : Int) * 2) = ((2 * bs : Nat) : Int) := by rw [IntKind.wrap_i64]; omega
          go_wp2_with fail
          go_loopw [7, 8] (fun v u wr => ∃ (p k3 : Nat) (d3 : Array MT) (os3 : Array Obj), v = .int .i64 p ∧ u = .int .i64 (p + 2 * bs : Nat) ∧ p ≤ n ∧ d3.size = n ∧ wr = sortWorldK encT 6 w blk 0 k3 d3 os3 ∧ Hid (PermIn 0 n d d3 ∧ BlkTo (ltOf cmpM) (2 * bs) d3 p ∧ BlkFrom (ltOf cmpM) bs n d3 p)) (fun v _ _ => n - (intOf v).toNat)
          case atStart => exact ⟨0, k2, d2, os2, rfl, by first | rfl | go_num | (congr 1; omega), Nat.zero_le _, hd2, rfl, Lib.hid ⟨HB2.out.1, .zero, HB2.out.2⟩⟩
          case round =>
            obtain ⟨p, k3, d3, os3, rfl, rfl, hp, hd3, rfl, HB3⟩ := hrel
            have wpb : IntKind.i64.wrap ((p : Int) + (bs : Int)) = ((p + bs : Nat) : Int) := by rw [IntKind.wrap_i64]; omega
            have wpc : IntKind.i64.wrap (((p + 2 * bs : Nat) : Int) + ((2 * bs : Nat) : Int)) = ((p + 2 * bs + 2 * bs : Nat) : Int) := by rw [IntKind.wrap_i64]; omega
            obtain ⟨q, hq⟩ : ∃ q, q = p + 2 * bs := ⟨_, rfl⟩
            obtain ⟨m, hm⟩ : ∃ m, m = p + bs := ⟨_, rfl⟩
            obtain ⟨c, hc⟩ : ∃ c, c = 2 * bs := ⟨_, rfl⟩
            obtain ⟨z, hz⟩ : ∃ z, z = q + c := ⟨_, rfl⟩
            rw [← hq] at wpc ⊢
            rw [← hm] at wpb
            rw [← hc] at wb2 wb2'
            rw [← hc, ← hz] at wpc
            have HQ : Hid (q = p + 2 * bs ∧ m = p + bs ∧ c = 2 * bs ∧ z = q + c) := Lib.hid ⟨hq, hm, hc, hz⟩
            by_cases hlt : q ≤ n
            · have hqz : (q : Int) ≤ (n : Int) := by omega
              have HM : Hid (∀ q' z', q' = (q : Int) → z' = (z : Int) → True) := Lib.hid fun _ _ _ _ => trivial
              have hsorted := HB3.out.2.2.head (by omega)
              rw [Nat.min_eq_left (by omega)] at hsorted
              have hsorted2 := hsorted.2.head (by omega)
              rw [Nat.min_eq_left (by omega)] at hsorted2
              have HC := Lib.hid (HSY.out p m q k3 d3 os3 (by omega) (by omega) hlt hd3 (by rw [hm]; exact hsorted.1) (by rw [hm, hq, show p + 2 * bs = p + bs + bs by omega]; exact hsorted2.1))
              have HR : Hid (BlkFrom (ltOf cmpM) bs n d3 q) := Lib.hid (by rw [hq, show p + 2 * bs = p + bs + bs by omega]; exact hsorted2.2)
              clear hsorted hsorted2 hq hm hc hz
              go_wp2_with (go_at_call 121; (with_reducible refine HC.out.mono ?_); rintro e w' ⟨rfl, k4, os4, d4, rfl, hp4, hs4⟩)
              have hh := HQ.out
              go_roundw
              case rel =>
                refine ⟨q, k4, d4, os4, rfl, by rw [show q + 2 * bs = z by omega], hlt, by rw [hp4.1]; exact hd3, rfl, Lib.hid ⟨permIn_trans _ _ _ _ _ HB3.out.1 (permIn_mono _ _ _ _ _ _ (Nat.zero_le _) hlt (by omega) hp4), ?_, HR.out.same fun i hi => hp4.2.1 i (.inr hi)⟩⟩
                rw [show q = p + 2 * bs by omega] at hs4 hp4 ⊢
                exact .step p (HB3.out.2.1.same fun i hi => hp4.2.1 i (.inl hi)) hs4
              case measure => simp [intOf]; omega
            · have hqz : ¬ (q : Int) ≤ (n : Int) := by omega
              have hnext : ∀ (d4 : Array MT), PermIn p n d3 d4 → SortedIn (ltOf cmpM) p n d4 → PermIn 0 n d d4 ∧ BlkFrom (ltOf cmpM) c n d4 0 := fun d4 hp4 hs4 => by
                rw [hc]
                exact ⟨permIn_trans _ _ _ _ _ HB3.out.1 (permIn_mono _ _ _ _ _ _ (Nat.zero_le _) (Nat.le_refl _) (by omega) hp4), (HB3.out.2.1.same fun i hi => hp4.2.1 i (.inl hi)).join hp (blk_last hs4 (by omega))⟩
              have HNX := Lib.hid hnext
              by_cases hmn : m < n
              · have hmz : (m : Int) < (n : Int) := by omega
                have hsorted := HB3.out.2.2.head (by omega)
                rw [Nat.min_eq_left (by omega)] at hsorted
                have hsorted2 := hsorted.2.head (by omega)
                rw [Nat.min_eq_right (by omega)] at hsorted2
                have HC := Lib.hid (HSY.out p m n k3 d3 os3 (by omega) hmn (Nat.le_refl _) hd3 (by rw [hm]; exact hsorted.1) (by rw [hm]; exact hsorted2.1))
                clear hsorted hsorted2 hq hm hc hz hnext
                go_wp2_with (go_at_call 121; (with_reducible refine HC.out.mono ?_); rintro e w' ⟨rfl, k4, os4, d4, rfl, hp4, hs4⟩)
                have hh := HQ.out
                go_roundw
                case rel => exact ⟨c, k4, d4, os4, rfl, by omega, by omega, by rw [hp4.1]; exact hd3, rfl, Lib.hid (HNX.out d4 hp4 hs4)⟩
                case measure => simp [intOf]; omega
              · have hmz : ¬ (m : Int) < (n : Int) := by omega
                have hs4 : SortedIn (ltOf cmpM) p n d3 := by
                  by_cases hpn : p < n
                  · have := (HB3.out.2.2.head hpn).1
                    rwa [Nat.min_eq_right (by omega)] at this
                  · intro i j h1 h2 h3; omega
                have HS4 := Lib.hid hs4
                clear hq hm hc hz hnext hs4
                go_wp2_with fail
                have hh := HQ.out
                go_roundw
                case rel => exact ⟨c, k3, d3, os3, rfl, by omega, by omega, hd3, rfl, Lib.hid (HNX.out d3 (permIn_refl _ _ _) HS4.out)⟩
                case measure => simp [intOf]; omega
        · have hbz : ¬ (bs : Int) < (n : Int) := by omega
          go_wp2_with fail
          go_end0
          exact ⟨rfl, k2, os2, d2, rfl, HB2.out.1, blk_all HB2.out.2 (by omega)⟩
end Go.Proofs.YtjfgmgkhinehaaaGreatDoor
namespace Go.Proofs.YtjfgmgkhinehaaaGreatDoor
open Go Go.RowKit Go.Sort
theorem obj_all (ms : List (ByteArray × J)) (h : MsOk ms) : OAsk ms := obj_of ms h (sort_all _ (by have := h.1; omega))
theorem parse_any (A : Option Addr) (xs : List Int) (n c : Nat) (W : World) (hn : xs.length = n) (hn2 : n ≤ 9223372036854775807) (hx : Bytes xs) (hl : Lies W A xs) (hm : Marks W) (ht : ErrTab W) :
    Calls Tryz.prog 41 #[.slice A n c] W (ParsePost W (parsedL xs)) := parse_ofO obj_all A xs n c W hn hn2 hx hl hm ht
end Go.Proofs.YtjfgmgkhinehaaaGreatDoor
