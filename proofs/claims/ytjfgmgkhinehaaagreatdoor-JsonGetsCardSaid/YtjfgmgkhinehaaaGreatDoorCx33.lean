/- StSym, StMath, JpRotate, StAll: merged. -/
import Derived.Deep.CutBlock
import Derived.Deep.CutRange
import Derived.Test.YtjfgmgkhinehaaaGreatDoorCx32
set_option linter.all false
namespace Go.Proofs.YtjfgmgkhinehaaaGreatDoor
open Go Go.Shelf Go.RowKit Go.Lib Go.Sort
theorem sym_agree {α : Type} [Inhabited α] {f g : α → α → Bool} {d d' : Array α} {a m b mid s e : Nat} (ha : a ≤ s) (hs : s ≤ m) (hm : m ≤ e) (he : e ≤ b) (hmid : s + e = mid + m) (hr : Rot d d' s m e)
    (h : ∀ y x, m ≤ y → y < b → a ≤ x → x < m → f d[y]! d[x]! = g d[y]! d[x]!) :
    (∀ y x, s ≤ y → y < mid → a ≤ x → x < s → f d'[y]! d'[x]! = g d'[y]! d'[x]!) ∧ (∀ y x, e ≤ y → y < b → mid ≤ x → x < e → f d'[y]! d'[x]! = g d'[y]! d'[x]!) := by
  obtain ⟨r1, r2, r3⟩ := hr
  refine ⟨fun y x h1 h2 h3 h4 => ?_, fun y x h1 h2 h3 h4 => ?_⟩
  · rw [r2 y h1 (by omega), r1 x (.inl h4)]; exact h _ _ (by omega) (by omega) h3 (by omega)
  · rw [r1 y (.inr h1), r3 x (by omega) h4]; exact h _ _ (by omega) h2 (by omega) (by omega)
set_option maxRecDepth 100000 in
set_option maxHeartbeats 8000000 in
theorem symMergeS_gen {P : Program} {α : Type} [Inhabited α] (L : SlLaysF0.n20 P Tryz.insertM_ren) (FG : P.funcs[121]? = some Tryz.f121) (tU : P.underlying 205 = some (.int .u64)) (k : Nat) (aE : ∀ w, (isAgg 30).run P w = .ok true w) (zE : ∀ w, (Go.sizeOf 30).run P w = .ok k w)
    (enc : α → List Value) (hk : ∀ x, (enc x).length = k) (h1 : ∀ x, ∀ v ∈ enc x, v.oneCell' = true) (cf : α → α → Int) (lt : α → α → Bool) (hO : SWO lt) (g : Nat) (cb : Array Value) (eg : ∀ args w, (callFunc g args).run P w = .ok (.enter g args) w) (blk off cap N : Nat) (w0 : World) (d0 : Array α) (hN : d0.size = N) (hH : HoldsK enc k w0 blk off d0) (hblk : blk < w0.heap.size) (hsz : N < 1152921504606846976) (hcmp : CmpLays P g cb enc k cf blk off N w0) (e114 : ∀ args w, (callFunc 152 args).run P w = .ok (.enter 152 args) w) (e98 : ∀ args w, (callFunc 121 args).run P w = .ok (.enter 121 args) w)
    (hrot : ∀ (a m b n : Nat) (d : Array α) (os : Array Obj), d.size = N → a < m → m < b → b ≤ N → Calls P 152 #[.slice (some ⟨blk, off, none⟩) N cap, .int .i64 a, .int .i64 m, .int .i64 b, .func (.func g) #[] cb] (sortWorldK enc k w0 blk off n d os) fun e w' => e = .returned (.tuple #[]) ∧ ∃ n' os' d', w' = sortWorldK enc k w0 blk off n' d' os' ∧ Rot d d' a m b ∧ PermIn a b d d') :
    ∀ (f a m b n : Nat) (d : Array α) (os : Array Obj), b - a < f → a < m → m < b → b ≤ N → d.size = N → SortedIn lt a m d → SortedIn lt m b d → (∀ y x, m ≤ y → y < b → a ≤ x → x < m → (ltOf cf) d[y]! d[x]! = lt d[y]! d[x]!) →
    Calls P 121 #[.slice (some ⟨blk, off, none⟩) N cap, .int .i64 a, .int .i64 m, .int .i64 b, .func (.func g) #[] cb] (sortWorldK enc k w0 blk off n d os) fun e w' => e = .returned (.tuple #[]) ∧ ∃ n' os' d', w' = sortWorldK enc k w0 blk off n' d' os' ∧ PermIn a b d d' ∧ SortedIn lt a b d' := by
  intro f
  induction f with
  | zero => intro a m b n d os h; exact absurd h (Nat.not_lt_zero _)
  | succ f ih =>
    intro a m b n d os hf ham hmb hb hd hs1 hs2 hag
    by_cases c1 : m = a + 1
    · exact symUpS_gen L FG tU k aE zE enc hk h1 cf lt hO g cb eg blk off cap N w0 d0 hN hH hblk hsz hcmp a m b n d os c1 hmb hb hd hs2 hag
    by_cases c2 : b = m + 1
    · exact symDownS_gen L FG tU k aE zE enc hk h1 cf lt hO g cb eg blk off cap N w0 d0 hN hH hblk hsz hcmp a m b n d os (by omega) c2 hb hd hs1 hag
    have mixed := L.mixed
    have t22 : P.underlying 25 = some (.slice 30) := L.t22
    have a22 : ∀ w, (isAgg 25).run P w = .ok false w := L.a22
    have z22 : ∀ w, (Go.sizeOf 25).run P w = .ok 1 w := L.z22
    have v22 : ∀ w, (zeroValue 25).run P w = .ok (Value.slice none 0 0) w := L.v22
    have t3 : P.underlying 3 = some (.int .i64) := L.t3
    have a3 : ∀ w, (isAgg 3).run P w = .ok false w := L.a3
    have z3 : ∀ w, (Go.sizeOf 3).run P w = .ok 1 w := L.z3
    have v3 : ∀ w, (zeroValue 3).run P w = .ok (.int .i64 0) w := L.v3
    have u22 := run_underlying t22
    have HK : Hid (∀ x, (enc x).length = k) := hk
    have H1 : Hid (∀ x, ∀ v ∈ enc x, v.oneCell' = true) := h1
    have HC : Hid (CmpLays P g cb enc k cf blk off N w0) := hcmp
    have HHD : Hid (∀ n (d : Array α) os, d.size = N → HoldsK enc k (sortWorldK enc k w0 blk off n d os) blk off d) := fun n d os hd => holdsK_sortWorldK_c enc k w0 blk off d0 d n os hH hblk (by omega)
    have HCL : Hid (∀ n (d : Array α) os q os', grow ((sortWorldK enc k w0 blk off n d os).drewN q) os' = sortWorldK enc k w0 blk off (n + q) d (os ++ os')) := fun n d os q os' => sortWorldK_grown_c enc k w0 blk off n q d os os'
    have HLD : Hid (∀ n (d : Array α) os x, d.size = N → x < N → ∀ q os', Sem.run P (loadCellsFrom ⟨blk, off + x * k, none⟩ 0 k #[]) (grow ((sortWorldK enc k w0 blk off n d os).drewN q) os') = .ok (enc d[x]!).toArray (grow ((sortWorldK enc k w0 blk off n d os).drewN q) os')) := fun n d os x hd hx q os' => by
      rw [HCL.out]; exact run_loadCellsFrom_list P _ _ _ k (HK.out _) (HoldsK.cells (HHD.out _ d _ hd) HK.out (by omega))
    have HCG : Hid (∀ n (d : Array α) os x y, d.size = N → ∀ q os', Calls P g (#[.agg (enc x).toArray, .agg (enc y).toArray] ++ cb) (grow ((sortWorldK enc k w0 blk off n d os).drewN q) os') fun e w' => e = .returned (.int .i64 (cf x y)) ∧ ∃ q' os'', w' = grow ((grow ((sortWorldK enc k w0 blk off n d os).drewN q) os').drewN q') os'') := fun n d os x y hd q os' => by
      rw [HCL.out]; exact HC.out _ _ d hd x y
    have HS1 : Hid (SortedIn lt a m d) := hs1
    have HS2 : Hid (SortedIn lt m b d) := hs2
    have HO : Hid (SWO lt) := hO
    have HROT := Lib.hid hrot
    have IH := Lib.hid ih
    have HAG := Lib.hid hag
    clear hk h1 hcmp hH hs1 hs2 hO hrot ih hag
    have wma : IntKind.i64.wrap ((m : Int) - (a : Int)) = (m : Int) - (a : Int) := by rw [IntKind.wrap_i64]; omega
    have wne : (((m : Int) - (a : Int)) == 1) = false := by rw [beq_eq_false_iff_ne]; omega
    have wne' : ¬ ((m : Int) - (a : Int) = 1) := by omega
    have wbm : IntKind.i64.wrap ((b : Int) - (m : Int)) = (b : Int) - (m : Int) := by rw [IntKind.wrap_i64]; omega
    have wnf : (((b : Int) - (m : Int)) == 1) = false := by rw [beq_eq_false_iff_ne]; omega
    have wnf' : ¬ ((b : Int) - (m : Int) = 1) := by omega
    obtain ⟨mid, hmid⟩ : ∃ x, x = (a + b) / 2 := ⟨_, rfl⟩
    have hmz : ((a : Int) + (b : Int)) / 2 = (mid : Int) := by omega
    have HMID : Hid (mid = (a + b) / 2) := hmid
    have hmN : mid < N := by omega
    obtain ⟨s0, r0, h0, hst⟩ : ∃ s0 r0, ((mid < m ∧ s0 = mid + m - b ∧ r0 = mid) ∨ (m ≤ mid ∧ s0 = a ∧ r0 = m)) ∧ a ≤ s0 := by
      by_cases h : mid < m
      · exact ⟨_, _, .inl ⟨h, rfl, rfl⟩, by omega⟩
      · exact ⟨_, _, .inr ⟨by omega, rfl, rfl⟩, Nat.le_refl _⟩
    have HH0 : Hid ((mid < m ∧ s0 = mid + m - b ∧ r0 = mid) ∨ (m ≤ mid ∧ s0 = a ∧ r0 = m)) := h0
    have hsr : s0 ≤ r0 := by omega
    have wmm : IntKind.i64.wrap ((mid : Int) + (m : Int)) = (mid : Int) + (m : Int) := by rw [IntKind.wrap_i64]; omega
    have hrm : r0 ≤ m := by omega
    have hrd : r0 ≤ mid := by omega
    clear hmid
    go_enter FG, Tryz.ntmps121
    go_upto_if 140 with fail
    go_cut [20, 21] from 25 (fun v20 v21 wx => v20 = .int .i64 (s0 : Int) ∧ v21 = .int .i64 (r0 : Int) ∧ wx = sortWorldK enc k w0 blk off n d os)
    case first =>
      rcases HH0.out with ⟨x1, x2, x3⟩ | ⟨x1, x2, x3⟩
      · have hz : (mid : Int) < (m : Int) := by omega
        have wsb : IntKind.i64.wrap ((mid : Int) + (m : Int) - (b : Int)) = (s0 : Int) := by rw [IntKind.wrap_i64]; omega
        have hrz : r0 = mid := x3
        clear h0 x1 x2 x3
        go_wp2_with fail
        go_meet
        case rel => exact ⟨rfl, by rw [hrz], rfl⟩
      · have hz : ¬ (mid : Int) < (m : Int) := by omega
        have hrz : s0 = a ∧ r0 = m := ⟨x2, x3⟩
        clear h0 x1 x2 x3
        go_wp2_with fail
        go_meet
        case rel => exact ⟨by rw [hrz.1], by rw [hrz.2], rfl⟩
    case rest => as_aux_lemma =>
      obtain ⟨rfl, rfl, rfl⟩ := hcut
      clear h0
      have wp1 : IntKind.i64.wrap ((mid : Int) + (m : Int) - 1) = (mid : Int) + (m : Int) - 1 := by rw [IntKind.wrap_i64]; omega
      go_wp2_with fail
      go_loopw [20, 21] (fun v u wr => ∃ (s r n' : Nat) (os' : Array Obj), v = .int .i64 s ∧ u = .int .i64 r ∧ s0 ≤ s ∧ s ≤ r ∧ r ≤ r0 ∧ wr = sortWorldK enc k w0 blk off n' d os' ∧ Hid ((∀ t, s0 ≤ t → t < s → lt d[mid + m - 1 - t]! d[t]! = false) ∧ (∀ t, r ≤ t → t < r0 → lt d[mid + m - 1 - t]! d[t]! = true))) (fun v u _ => (intOf u - intOf v).toNat)
      case atStart => exact ⟨s0, r0, n, os, rfl, rfl, Nat.le_refl _, hsr, Nat.le_refl _, rfl, fun t h1 h2 => by omega, fun t h1 h2 => by omega⟩
      case round =>
        obtain ⟨s, r, n', os', rfl, rfl, hs0, hsr', hr0, rfl, HI⟩ := hrel
        by_cases hlt : s < r
        · have hltz : (s : Int) < (r : Int) := by omega
          have hhN : (s + r) / 2 < N := by omega
          have hh0 : (0 : Int) ≤ ((s : Int) + (r : Int)) / 2 := by omega
          have hhZ : ((s : Int) + (r : Int)) / 2 < (N : Int) := by omega
          have hhn : (((s : Int) + (r : Int)) / 2).toNat = (s + r) / 2 := by omega
          obtain ⟨pc, hpc⟩ : ∃ x, x = mid + m - 1 - (s + r) / 2 := ⟨_, rfl⟩
          have HPC : Hid (pc = mid + m - 1 - (s + r) / 2) := hpc
          have hpN : pc < N := by have := HMID.out; have := HH0.out; omega
          have pz0 : (0 : Int) ≤ (pc : Int) := by omega
          have pzN : (pc : Int) < (N : Int) := by omega
          have wpc : IntKind.i64.wrap ((mid : Int) + (m : Int) - 1 - ((s : Int) + (r : Int)) / 2) = (pc : Int) := by rw [IntKind.wrap_i64]; omega
          clear hpc
          obtain ⟨xp, hxp⟩ : ∃ x, d[pc]! = x := ⟨_, rfl⟩
          obtain ⟨xh, hxh⟩ : ∃ x, d[(s + r) / 2]! = x := ⟨_, rfl⟩
          have lxp := HLD.out n' d os' (pc) (by omega) (by omega)
          have lxh := HLD.out n' d os' ((s + r) / 2) (by omega) (by omega)
          rw [hxp] at lxp
          rw [hxh] at lxh
          have hcg := HCG.out n' d os' xp xh (by omega)
          have CLS := Lib.hid (HCL.out n' d os')
          have HXxp := Lib.hid hxp
          have HXxh := Lib.hid hxh
          clear hxp hxh
          generalize sortWorldK enc k w0 blk off n' d os' = wq at lxp lxh hcg CLS ⊢
          by_cases hlv : cf xp xh < 0
          · as_aux_lemma =>
              have hdv : decide (cf xp xh < 0) = true := decide_eq_true hlv
              go_wp2_with fail
              go_quiet_grown (first | (go_at_fn g; refine Calls.grown_of (hcg _ _)))
              go_wp2_with fail
              go_roundw
              case rel =>
                refine ⟨s, (s + r) / 2, n' + nq, os' ++ osq, rfl, by first | (congr 1; omega) | congr 1, hs0, by omega, by omega, CLS.out nq osq, HI.out.1, fun t h1 h2 => ?_⟩
                have hm := HMID.out
                have h0 := HH0.out
                have e2 : lt d[mid + m - 1 - (s + r) / 2]! d[(s + r) / 2]! = true := (HAG.out _ _ (by omega) (by omega) (by omega) (by omega)).symm.trans (by rw [← HPC.out, HXxp.out, HXxh.out]; exact decide_eq_true (by omega))
                exact sym_mono_hi HO.out HS1.out HS2.out (h := (s + r) / 2) (by omega) h1 (by omega) (by omega) (by omega) e2
              case measure => simp [intOf]; omega
          · as_aux_lemma =>
              have hdv : decide (cf xp xh < 0) = false := decide_eq_false hlv
              go_wp2_with fail
              go_quiet_grown (first | (go_at_fn g; refine Calls.grown_of (hcg _ _)))
              go_wp2_with fail
              go_roundw
              case rel =>
                refine ⟨(s + r) / 2 + 1, r, n' + nq, os' ++ osq, by first | (congr 1; omega) | congr 1, rfl, by omega, by omega, hr0, CLS.out nq osq, fun t h1 h2 => ?_, HI.out.2⟩
                have hm := HMID.out
                have h0 := HH0.out
                have e2 : lt d[mid + m - 1 - (s + r) / 2]! d[(s + r) / 2]! = false := (HAG.out _ _ (by omega) (by omega) (by omega) (by omega)).symm.trans (by rw [← HPC.out, HXxp.out, HXxh.out]; exact decide_eq_false (by omega))
                exact sym_mono_lo HO.out HS1.out HS2.out (h := (s + r) / 2) (by omega) (by omega) (by omega) (by omega) (by omega) e2
              case measure => simp [intOf]; omega
        · obtain rfl : s = r := by omega
          have hltz : ¬ (s : Int) < (s : Int) := by omega
          have hfound := sym_found HO.out (s := s) ham hmb HMID.out HH0.out hs0 hr0 HI.out.1 HI.out.2
          obtain ⟨e, he⟩ : ∃ x, x = mid + m - s := ⟨_, rfl⟩
          rw [← he] at hfound
          obtain ⟨f1, f2, f3, f4, f5, f6, f7, f8⟩ := hfound
          have HF : Hid ((a < s → e < b → lt d[e]! d[s - 1]! = false) ∧ (s < m → m < e → lt d[e - 1]! d[s]! = true)) := ⟨f7, f8⟩
          have we : IntKind.i64.wrap ((mid : Int) + (m : Int) - (s : Int)) = (e : Int) := by rw [IntKind.wrap_i64]; omega
          have hse : s + e = mid + m := by omega
          clear f7 f8 he hs0 hr0 hsr' hlt
          go_upto_region 39 with fail
          go_cut [185] from 25 (fun v wx => v = .bool (decide (s < m) && decide (m < e)) ∧ wx = sortWorldK enc k w0 blk off n' d os')
          case first =>
            by_cases y1 : s < m
            · have z1 : (s : Int) < (m : Int) := by omega
              by_cases y2 : m < e
              · have z2 : (m : Int) < (e : Int) := by omega
                go_wp2_with fail
                go_meet
                case rel => exact ⟨by rw [decide_eq_true y1, decide_eq_true y2]; rfl, rfl⟩
              · have z2 : ¬ (m : Int) < (e : Int) := by omega
                go_wp2_with fail
                go_meet
                case rel => exact ⟨by rw [decide_eq_true y1, decide_eq_false y2]; rfl, rfl⟩
            · have z1 : ¬ (s : Int) < (m : Int) := by omega
              go_wp2_with fail
              go_meet
              case rel => exact ⟨by rw [decide_eq_false y1]; rfl, rfl⟩
          case rest => as_aux_lemma =>
            obtain ⟨rfl, rfl⟩ := hcut
            go_upto_if 185 with fail
            go_cut [] from 25 (fun wx => ∃ (n2 : Nat) (d2 : Array α) (os2 : Array Obj), wx = sortWorldK enc k w0 blk off n2 d2 os2 ∧ d2.size = N ∧ Hid (Rot d d2 s m e ∧ PermIn a b d d2))
            case first =>
              by_cases y : s < m ∧ m < e
              · have hy : (decide (s < m) && decide (m < e)) = true := by rw [decide_eq_true y.1, decide_eq_true y.2]; rfl
                obtain ⟨y1, y2⟩ := y
                rw [hy]
                go_wp2_with (go_at_fn 152; (with_reducible refine (HROT.out s m e n' d os' hd y1 y2 (by omega)).mono ?_); rintro e_ w' ⟨rfl, n2, os2, d2, rfl, hr, hp⟩)
                go_meet
                case rel => exact ⟨n2, d2, os2, rfl, by rw [hp.1]; exact hd, hr, permIn_mono _ _ _ _ _ _ f1 f5 (by omega) hp⟩
              · have hy : (decide (s < m) && decide (m < e)) = false := by
                  by_cases y1 : s < m
                  · rw [decide_eq_false (fun y2 => y ⟨y1, y2⟩), Bool.and_false]
                  · rw [decide_eq_false y1, Bool.false_and]
                rw [hy]
                go_wp2_with fail
                go_meet
                case rel => exact ⟨n', d, os', rfl, hd, Rot.none d f2 f4 (by omega), permIn_refl _ _ _⟩
            case rest => as_aux_lemma =>
              obtain ⟨n2, d2, os2, rfl, hd2, HRP⟩ := hcut
              have HPT := Lib.hid (sym_part HO.out f1 f2 f4 f5 hse HS1.out HS2.out HF.out.1 HF.out.2 HRP.out.1)
              have HAG2 := Lib.hid (sym_agree f1 f2 f4 f5 hse HRP.out.1 HAG.out)
              have ham' : a < mid := by have := HMID.out; omega
              have hmb' : mid < b := by have := HMID.out; omega
              go_upto_region 41 with fail
              go_cut [199] from 25 (fun v wx => v = .bool (decide (a < s) && decide (s < mid)) ∧ wx = sortWorldK enc k w0 blk off n2 d2 os2)
              case first =>
                by_cases y1 : a < s
                · have z1 : (a : Int) < (s : Int) := by omega
                  by_cases y2 : s < mid
                  · have z2 : (s : Int) < (mid : Int) := by omega
                    go_wp2_with fail
                    go_meet
                    case rel => exact ⟨by rw [decide_eq_true y1, decide_eq_true y2]; rfl, rfl⟩
                  · have z2 : ¬ (s : Int) < (mid : Int) := by omega
                    go_wp2_with fail
                    go_meet
                    case rel => exact ⟨by rw [decide_eq_true y1, decide_eq_false y2]; rfl, rfl⟩
                · have z1 : ¬ (a : Int) < (s : Int) := by omega
                  go_wp2_with fail
                  go_meet
                  case rel => exact ⟨by rw [decide_eq_false y1]; rfl, rfl⟩
              case rest => as_aux_lemma =>
                obtain ⟨rfl, rfl⟩ := hcut
                go_upto_if 199 with fail
                go_cut [] from 25 (fun wx => ∃ (n3 : Nat) (d3 : Array α) (os3 : Array Obj), wx = sortWorldK enc k w0 blk off n3 d3 os3 ∧ d3.size = N ∧ Hid (PermIn a mid d2 d3 ∧ SortedIn lt a mid d3))
                case first =>
                  by_cases y : a < s ∧ s < mid
                  · have hy : (decide (a < s) && decide (s < mid)) = true := by rw [decide_eq_true y.1, decide_eq_true y.2]; rfl
                    obtain ⟨y1, y2⟩ := y
                    rw [hy]
                    go_wp2_with (go_at_fn 121; (with_reducible refine (IH.out a s mid n2 d2 os2 (by omega) y1 y2 (by omega) hd2 HPT.out.1 HPT.out.2.1 HAG2.out.1).mono ?_); rintro e_ w' ⟨rfl, n3, os3, d3, rfl, hp, hs⟩)
                    go_meet
                    case rel => exact ⟨n3, d3, os3, rfl, by rw [hp.1]; exact hd2, hp, hs⟩
                  · have hy : (decide (a < s) && decide (s < mid)) = false := by
                      by_cases y1 : a < s
                      · rw [decide_eq_false (fun y2 => y ⟨y1, y2⟩), Bool.and_false]
                      · rw [decide_eq_false y1, Bool.false_and]
                    rw [hy]
                    go_wp2_with fail
                    go_meet
                    case rel =>
                      refine ⟨n2, d2, os2, rfl, hd2, permIn_refl _ _ _, ?_⟩
                      by_cases y1 : a < s
                      · have e1 : s = mid := by omega
                        rw [← e1]; exact HPT.out.1
                      · have e1 : a = s := by omega
                        rw [e1]; exact HPT.out.2.1
                case rest => as_aux_lemma =>
                  obtain ⟨n3, d3, os3, rfl, hd3, HP3⟩ := hcut
                  have same3 : ∀ i, mid ≤ i → d3[i]! = d2[i]! := fun i hi => HP3.out.1.2.1 i (.inr hi)
                  have HS3 : Hid (SortedIn lt mid e d3 ∧ SortedIn lt e b d3) := ⟨sortedIn_same HPT.out.2.2.1 (fun i h1 _ => same3 i h1), sortedIn_same HPT.out.2.2.2.1 (fun i h1 _ => same3 i (by omega))⟩
                  have HAG3 : Hid (∀ y x, e ≤ y → y < b → mid ≤ x → x < e → (ltOf cf) d3[y]! d3[x]! = lt d3[y]! d3[x]!) := Lib.hid fun y x h1 h2 h3 h4 => by rw [same3 y (by omega), same3 x h3]; exact HAG2.out.2 y x h1 h2 h3 h4
                  have fin : ∀ d4 : Array α, PermIn mid b d3 d4 → SortedIn lt mid b d4 → PermIn a b d d4 ∧ SortedIn lt a b d4 := fun d4 hp hs => by
                    obtain ⟨g1, g2⟩ := merge_glue (Nat.le_of_lt ham') (Nat.le_of_lt hmb') (by omega) HPT.out.2.2.2.2 HP3.out.1 HP3.out.2 hp hs
                    exact ⟨permIn_trans _ _ _ _ _ HRP.out.2 g1, g2⟩
                  have FIN := Lib.hid fin
                  clear fin same3
                  go_upto_region 43 with fail
                  by_cases y1 : mid < e
                  · have z1 : (mid : Int) < (e : Int) := by omega
                    by_cases y2 : e < b
                    · have z2 : (e : Int) < (b : Int) := by omega
                      go_wp2_with (go_at_fn 121; (with_reducible refine (IH.out mid e b n3 d3 os3 (by omega) y1 y2 hb hd3 HS3.out.1 HS3.out.2 HAG3.out).mono ?_); rintro e_ w' ⟨rfl, n4, os4, d4, rfl, hp, hs⟩)
                      go_end0
                      exact ⟨rfl, n4, os4, d4, rfl, FIN.out d4 hp hs⟩
                    · have z2 : ¬ (e : Int) < (b : Int) := by omega
                      have e1 : e = b := by omega
                      go_wp2_with fail
                      go_end0
                      exact ⟨rfl, n3, os3, d3, rfl, FIN.out d3 (permIn_refl _ _ _) (by rw [← e1]; exact HS3.out.1)⟩
                  · have z1 : ¬ (mid : Int) < (e : Int) := by omega
                    have e1 : mid = e := by omega
                    go_wp2_with fail
                    go_end0
                    exact ⟨rfl, n3, os3, d3, rfl, FIN.out d3 (permIn_refl _ _ _) (by rw [e1]; exact HS3.out.2)⟩
end Go.Proofs.YtjfgmgkhinehaaaGreatDoor
namespace Go.Proofs.YtjfgmgkhinehaaaGreatDoor
open Go Go.Sort
variable {α : Type} [Inhabited α]
theorem insInner_agree {f g : α → α → Bool} {a : Nat} : ∀ (j : Nat) (d : Array α), j < d.size → (∀ x, a ≤ x → x < j → f d[j]! d[x]! = g d[j]! d[x]!) → insInner f a j d = insInner g a j d
  | 0, _, _, _ => rfl
  | j + 1, d, hj, h => by
    unfold insInner
    by_cases ha : j + 1 > a
    · rw [h j (by omega) (by omega)]
      by_cases hc : (decide (j + 1 > a) && g d[j + 1]! d[j]!) = true
      · rw [if_pos hc, if_pos hc]
        refine insInner_agree j _ (by rw [size_swp]; omega) (fun x h1 h2 => ?_)
        have e := fun x => get_swp d (i := j + 1) (j := j) hj (by omega) x
        rw [e j, e x, if_pos rfl, if_neg (by omega), if_neg (by omega)]
        exact h x h1 (by omega)
      · rw [if_neg hc, if_neg hc]
    · have e : decide (j + 1 > a) = false := decide_eq_false ha
      rw [e, Bool.false_and, Bool.false_and]
      rfl
theorem insInner_vals {f : α → α → Bool} {a : Nat} : ∀ (j : Nat) (d : Array α), j < d.size → (insInner f a j d).size = d.size ∧ (∀ x, j < x → (insInner f a j d)[x]! = d[x]!) ∧ ∀ x, a ≤ x → x ≤ j → ∃ z, a ≤ z ∧ z ≤ j ∧ (insInner f a j d)[x]! = d[z]!
  | 0, d, _ => ⟨rfl, fun _ _ => rfl, fun x h1 h2 => ⟨x, h1, h2, rfl⟩⟩
  | j + 1, d, hj => by
    unfold insInner
    by_cases hc : (decide (j + 1 > a) && f d[j + 1]! d[j]!) = true
    · rw [if_pos hc]
      rw [Bool.and_eq_true, decide_eq_true_eq] at hc
      obtain ⟨h1, h2, h3⟩ := insInner_vals (f := f) (a := a) j (swp d (j + 1) j) (by rw [size_swp]; omega)
      have e := fun x => get_swp d (i := j + 1) (j := j) hj (by omega) x
      refine ⟨by rw [h1, size_swp], fun x hx => ?_, fun x h4 h5 => ?_⟩
      · rw [h2 x (by omega), e x, if_neg (by omega), if_neg (by omega)]
      · by_cases hx : x = j + 1
        · subst hx
          exact ⟨j, by omega, by omega, by rw [h2 _ (by omega), e, if_neg (by omega), if_pos rfl]⟩
        · obtain ⟨z, z1, z2, z3⟩ := h3 x h4 (by omega)
          rw [e] at z3
          by_cases hz : z = j
          · rw [if_pos hz] at z3; exact ⟨j + 1, by omega, by omega, z3⟩
          · rw [if_neg hz, if_neg (by omega)] at z3; exact ⟨z, z1, by omega, z3⟩
    · rw [if_neg hc]
      exact ⟨rfl, fun _ _ => rfl, fun x h1 h2 => ⟨x, h1, h2, rfl⟩⟩
theorem insOuter_agree {f g : α → α → Bool} {a b : Nat} : ∀ (n i : Nat) (d : Array α), b - i = n → a < i → b ≤ d.size → (∀ y x, i ≤ y → y < b → a ≤ x → x < y → f d[y]! d[x]! = g d[y]! d[x]!) → insOuter f a b i d = insOuter g a b i d
  | 0, i, d, hn, _, _, _ => by
    have e : ∀ h : α → α → Bool, insOuter h a b i d = d := fun h => by rw [insOuter, if_neg (by omega)]
    rw [e, e]
  | n + 1, i, d, hn, hai, hb, h => by
    have e : ∀ h : α → α → Bool, insOuter h a b i d = insOuter h a b (i + 1) (insInner h a i d) := fun h => by rw [insOuter, if_pos (by omega)]
    rw [e, e g, insInner_agree i d (by omega) (fun x h1 h2 => h i x (Nat.le_refl _) (by omega) h1 h2)]
    obtain ⟨h1, h2, h3⟩ := insInner_vals (f := g) (a := a) i d (by omega)
    refine insOuter_agree n (i + 1) _ (by omega) (by omega) (by omega) (fun y x q1 q2 q3 q4 => ?_)
    rw [h2 y (by omega)]
    by_cases hx : i < x
    · rw [h2 x hx]; exact h y x (by omega) q2 q3 q4
    · obtain ⟨z, z1, z2, z3⟩ := h3 x q3 (by omega)
      rw [z3]; exact h y z (by omega) q2 z1 (by omega)
/-- The insertion sort asks of a later one and an earlier one alone. -/
theorem insertion_agree {f g : α → α → Bool} {a b : Nat} (d : Array α) (hb : b ≤ d.size) (h : ∀ y x, a ≤ x → x < y → y < b → f d[y]! d[x]! = g d[y]! d[x]!) : Sort.insertionSort f d a b = Sort.insertionSort g d a b := by
  unfold Sort.insertionSort
  exact insOuter_agree _ (a + 1) d rfl (by omega) hb (fun y x h1 h2 h3 h4 => h y x h3 h4 h2)
/-- By an order, and equal ones by where they stood. -/
def tagLt (lt : α → α → Bool) (x y : α × Nat) : Bool := lt x.1 y.1 || (!lt y.1 x.1 && decide (x.2 < y.2))
theorem tag_iff {lt : α → α → Bool} {x y : α × Nat} : tagLt lt x y = true ↔ lt x.1 y.1 = true ∨ (lt y.1 x.1 = false ∧ x.2 < y.2) := by
  unfold tagLt; simp
theorem tag_not {lt : α → α → Bool} {x y : α × Nat} : tagLt lt x y = false ↔ lt x.1 y.1 = false ∧ (lt y.1 x.1 = true ∨ y.2 ≤ x.2) := by
  unfold tagLt; simp; intro _; cases lt y.1 x.1 <;> simp
theorem swo_tag {lt : α → α → Bool} (h : SWO lt) : SWO (tagLt lt) := by
  refine ⟨fun x => tag_not.2 ⟨h.irrefl _, .inr (Nat.le_refl _)⟩, fun x y z h1 h2 => tag_iff.2 ?_, fun x y z h1 h2 => tag_not.2 ?_⟩
  · rcases tag_iff.1 h1 with a1 | ⟨a1, b1⟩ <;> rcases tag_iff.1 h2 with a2 | ⟨a2, b2⟩
    · exact .inl (h.trans _ _ _ a1 a2)
    · exact .inl (SWO.less_up h a2 a1)
    · exact .inl (SWO.less_down h a1 a2)
    · cases hc : lt x.1 z.1 with
      | true => exact .inl rfl
      | false => exact .inr ⟨h.ntrans _ _ _ a2 a1, by omega⟩
  · obtain ⟨a1, b1⟩ := tag_not.1 h1
    obtain ⟨a2, b2⟩ := tag_not.1 h2
    refine ⟨h.ntrans _ _ _ a1 a2, ?_⟩
    cases hc : lt z.1 x.1 with
    | true => exact .inl rfl
    | false =>
      have c1 : lt y.1 x.1 = false := by
        cases hh : lt y.1 x.1 with
        | false => rfl
        | true => have := SWO.less_down h a2 hh; rw [hc] at this; cases this
      have c2 : lt z.1 y.1 = false := by
        cases hh : lt z.1 y.1 with
        | false => rfl
        | true => have := SWO.less_up h a1 hh; rw [hc] at this; cases this
      rw [c1] at b1
      rw [c2] at b2
      rcases b1 with b1 | b1
      · cases b1
      rcases b2 with b2 | b2
      · cases b2
      exact .inr (by omega)
/-- A later one against an earlier one: the order alone tells. -/
theorem tag_agree {lt : α → α → Bool} {y x : α × Nat} (h : x.2 < y.2) : lt y.1 x.1 = tagLt lt y x := by
  unfold tagLt; rw [decide_eq_false (by omega), Bool.and_false, Bool.or_false]
/-- Each stands in the block of c that it stood in, from p up to n. -/
def InBlk (c p n : Nat) (d : Array (α × Nat)) : Prop := ∀ i, p ≤ i → i < n → d[i]!.2 / c = i / c
theorem InBlk.twice {c p n : Nat} {d : Array (α × Nat)} (h : InBlk c p n d) : InBlk (2 * c) p n d := fun i h1 h2 => by
  rw [Nat.mul_comm, ← Nat.div_div_eq_div_mul, ← Nat.div_div_eq_div_mul, h i h1 h2]
theorem InBlk.less {c p n : Nat} {d : Array (α × Nat)} (h : InBlk c p n d) {x y : Nat} (hx : p ≤ x) (hy : y < n) (hxy : x / c < y / c) : d[x]!.2 < d[y]!.2 := by
  have hlt : x < y := Nat.lt_of_not_le fun hle => by have := Nat.div_le_div_right (c := c) hle; omega
  have h1 := h x hx (by omega)
  have h2 := h y (by omega) hy
  refine Nat.lt_of_not_le fun hle => ?_
  have := Nat.div_le_div_right (c := c) hle
  omega
theorem InBlk.same {c p n : Nat} {d d' : Array (α × Nat)} (h : InBlk c p n d) (hs : ∀ i, p ≤ i → i < n → d'[i]! = d[i]!) : InBlk c p n d' := fun i h1 h2 => by rw [hs i h1 h2]; exact h i h1 h2
/-- What stands within one block of c, in whatever order, does so. -/
theorem InBlk.perm {c p e : Nat} {d d' : Array (α × Nat)} (h : InBlk c p e d) (hp : PermIn p e d d') (hc : 0 < c) (h0 : p % c = 0) (he : e ≤ p + c) (hen : e ≤ d.size) : InBlk c p e d' := by
  have hb : ∀ i, p ≤ i → i < e → i / c = p / c := fun i h1 h2 => by
    have e1 : p = c * (p / c) := by have := Nat.div_add_mod p c; omega
    have : i = c * (p / c) + (i - p) := by omega
    rw [this, Nat.mul_add_div hc, Nat.div_eq_of_lt (show i - p < c by omega), Nat.add_zero]
  intro i h1 h2
  rw [hb i h1 h2]
  exact permIn_all d d' p e (fun v => v.2 / c = p / c) hen hp (fun x h3 h4 => by rw [h x h3 h4, hb x h3 h4]) i h1 h2
theorem InBlk.join {c p e n : Nat} {d : Array (α × Nat)} (h1 : InBlk c p e d) (h2 : InBlk c e n d) : InBlk c p n d := fun i a b => by
  by_cases h : i < e
  · exact h1 i a h
  · exact h2 i (by omega) b
end Go.Proofs.YtjfgmgkhinehaaaGreatDoor
namespace Go.Proofs.YtjfgmgkhinehaaaGreatDoor
open Go Go.RowKit Go.Sort
set_option maxRecDepth 100000 in
set_option maxHeartbeats 1000000 in
theorem rotate_any (blk cap a m b : Nat) (d : Array MT) (w : World) (hH : HoldsK encT 6 w blk 0 d) (hblk : blk < w.heap.size) (ham : a < m) (hmb : m < b) (hb : b ≤ d.size) (hsz : d.size < 4611686018427387904) :
    Calls Tryz.prog 152 #[.slice (some ⟨blk, 0, none⟩) d.size cap, .int .i64 a, .int .i64 m, .int .i64 b, .func (.func 47) #[] #[]] w fun e w' =>
      e = .returned (.tuple #[]) ∧ ∃ k os d', w' = sortWorldK encT 6 w blk 0 k d' os ∧ Rot d d' a m b ∧ PermIn a b d d' := by
  have hmath := rotF_rot m (b - a) (m - a) (b - m) d (by omega) (by omega) (by omega) (by omega) (by omega)
  rw [show m - (m - a) = a by omega, show m + (b - m) = b by omega] at hmath
  have HM := Lib.hid hmath
  have HSW := Lib.hid (fun (p q c k : Nat) (dk : Array MT) (os : Array Obj) (hsk : dk.size = d.size) (hp : p + c ≤ d.size) (hq : q + c ≤ d.size) => by
    have := swapRange_any blk cap p q c dk (sortWorldK encT 6 w blk 0 k dk os) (holdsK_sortWorldK_c encT 6 w blk 0 d dk k os hH hblk hsk) (lt_sortWorldK encT 6 w blk 0 k dk os hblk) (by omega) (by omega) (by omega)
    rw [hsk] at this
    exact this.mono (fun e w' (h : _ ∧ _) => show e = .returned (.tuple #[]) ∧ ∃ k' os', w' = sortWorldK encT 6 w blk 0 k' (swR p q c 0 dk) os' by
      obtain ⟨he, k', os', rfl⟩ := h
      exact ⟨he, k + k', os ++ os', sortWorldK_on encT 6 w blk 0 k k' _ _ os os' hblk (size_swR p q c 0 dk)⟩))
  have HST : Hid (w = sortWorldK encT 6 w blk 0 0 d #[]) := Lib.hid (by unfold sortWorldK; rw [grow_empty]; exact (putRowK_self encT 6 w blk 0 d hH).symm)
  obtain ⟨N, hN⟩ : ∃ N, N = d.size := ⟨_, rfl⟩
  have HN := Lib.hid hN
  rw [← hN] at HSW hb hsz ⊢
  clear hmath hH hN
  have w1 : IntKind.i64.wrap ((m : Int) - (a : Int)) = ((m - a : Nat) : Int) := by rw [IntKind.wrap_i64]; omega
  have w2 : IntKind.i64.wrap ((b : Int) - (m : Int)) = ((b - m : Nat) : Int) := by rw [IntKind.wrap_i64]; omega
  go_enter Tryz.func152, Tryz.ntmps152
  go_wp2
  go_loopw [10, 11] (fun v u wr => ∃ (i j k f : Nat) (dk : Array MT) (os : Array Obj), v = .int .i64 i ∧ u = .int .i64 j ∧ 0 < i ∧ 0 < j ∧ i ≤ m ∧ m + j ≤ N ∧ i + j ≤ f ∧ dk.size = N ∧ wr = sortWorldK encT 6 w blk 0 k dk os ∧ Hid (rotF m f i j dk = rotF m (b - a) (m - a) (b - m) d)) (fun v u _ => (intOf v).toNat + (intOf u).toNat)
  case atStart => exact ⟨m - a, b - m, 0, b - a, d, #[], rfl, rfl, by omega, by omega, by omega, by omega, by omega, HN.out.symm, HST.out, rfl⟩
  case round =>
    obtain ⟨i, j, k, f, dk, os, rfl, rfl, i0, j0, him, hjm, hf, hsk, rfl, HO⟩ := hrel
    obtain ⟨f', rfl⟩ : ∃ f', f = f' + 1 := ⟨f - 1, by omega⟩
    have ho := HO.out
    rw [rotF] at ho
    clear HO
    have wm : IntKind.i64.wrap ((m : Int) - (i : Int)) = ((m - i : Nat) : Int) := by rw [IntKind.wrap_i64]; omega
    by_cases e : i = j
    · subst e
      rw [if_pos rfl] at ho
      have HO := Lib.hid ho
      clear ho
      go_wp2_with (go_at_call 175; refine (HSW.out (m - i) m i k dk os hsk (by omega) (by omega)).mono ?_; rintro e w' ⟨rfl, k', os', rfl⟩)
      go_end0
      exact ⟨rfl, k', os', _, rfl, by rw [HO.out]; exact HM.out.1, by rw [HO.out]; exact HM.out.2⟩
    · rw [if_neg e] at ho
      have hne : ¬ (i : Int) = (j : Int) := by omega
      by_cases hl : j < i
      · rw [if_pos hl] at ho
        have HO := Lib.hid ho
        clear ho
        have hlz : (j : Int) < (i : Int) := by omega
        have wi : IntKind.i64.wrap ((i : Int) - (j : Int)) = ((i - j : Nat) : Int) := by rw [IntKind.wrap_i64]; omega
        go_wp2_with (go_at_call 175; refine (HSW.out (m - i) m j k dk os hsk (by omega) (by omega)).mono ?_; rintro e w' ⟨rfl, k', os', rfl⟩)
        go_roundw
        case rel => exact ⟨i - j, j, k', f', _, os', rfl, rfl, by omega, j0, by omega, hjm, by omega, by rw [size_swR]; exact hsk, rfl, HO.out⟩
        case measure => simp [intOf]; omega
      · rw [if_neg hl] at ho
        have HO := Lib.hid ho
        clear ho
        have hlz : ¬ (j : Int) < (i : Int) := by omega
        have wi : IntKind.i64.wrap ((j : Int) - (i : Int)) = ((j - i : Nat) : Int) := by rw [IntKind.wrap_i64]; omega
        have wj : IntKind.i64.wrap ((m : Int) + (j : Int)) = (m : Int) + (j : Int) := by rw [IntKind.wrap_i64]; omega
        have wk : IntKind.i64.wrap ((m : Int) + (j : Int) - (i : Int)) = ((m + j - i : Nat) : Int) := by rw [IntKind.wrap_i64]; omega
        go_wp2_with (go_at_call 175; (with_reducible refine (HSW.out (m - i) (m + j - i) i k dk os hsk (by omega) (by omega)).mono ?_); rintro e w' ⟨rfl, k', os', rfl⟩)
        go_roundw
        case rel => exact ⟨i, j - i, k', f', _, os', rfl, rfl, i0, by omega, him, by omega, by omega, by rw [size_swR]; exact hsk, rfl, HO.out⟩
        case measure => simp [intOf]; omega
end Go.Proofs.YtjfgmgkhinehaaaGreatDoor
namespace Go.Proofs.YtjfgmgkhinehaaaGreatDoor
open Go Go.RowKit Go.Sort
/-- A member's cells by their forms, and where it stood. -/
abbrev TT := MT × Nat
def encG (x : TT) : List Value := encT x.1
theorem encG_one (x : TT) : ∀ v ∈ encG x, v.oneCell' = true := encT_one x.1
def cmpG (x y : TT) : Int := cmpM x.1 y.1
abbrev ltG : TT → TT → Bool := tagLt (ltOf cmpM)
theorem swo_ltG : SWO ltG := swo_tag swo_cmpM
theorem agreeG {x y : TT} (h : x.2 < y.2) : ltOf cmpG y x = ltG y x := tag_agree (lt := ltOf cmpM) h
theorem cmpG_lays (blk off size : Nat) (w : World) : CmpLays Tryz.prog 47 #[] encG 6 cmpG blk off size w := fun m os dk _ x y => cmp_any x.1 y.1 _
theorem insertG_any (blk cap a b : Nat) (d : Array TT) (w : World) (hH : HoldsK encG 6 w blk 0 d) (hblk : blk < w.heap.size) (hab : a ≤ b) (hb : b ≤ d.size) (hsz : d.size < 4611686018427387904) :
    Calls Tryz.prog 120 #[.slice (some ⟨blk, 0, none⟩) d.size cap, .int .i64 a, .int .i64 b, .func (.func 47) #[] #[]] w fun e w' =>
      e = .returned (.tuple #[]) ∧ ∃ n os, w' = sortWorldK encG 6 w blk 0 n (Sort.insertionSort (ltOf cmpG) d a b) os :=
  AnyQ.insertionSortCmpFunc Tryz.insertM 6 Tryz.isAgg30 Tryz.sizeOf30 encG (fun _ => rfl) encG_one cmpG 47 #[] blk 0 cap a b d w enters_cmp (cmpG_lays _ _ _ _) hH hblk hab hb hsz
theorem swapRangeG_any (blk cap a b n : Nat) (d : Array TT) (w : World) (hH : HoldsK encG 6 w blk 0 d) (hblk : blk < w.heap.size) (ha : a + n ≤ d.size) (hb : b + n ≤ d.size) (hsz : d.size < 4611686018427387904) :
    Calls Tryz.prog 175 #[.slice (some ⟨blk, 0, none⟩) d.size cap, .int .i64 a, .int .i64 b, .int .i64 n, .func (.func 47) #[] #[]] w fun e w' =>
      e = .returned (.tuple #[]) ∧ ∃ m os, w' = sortWorldK encG 6 w blk 0 m (swR a b n 0 d) os :=
  swapRange_gen Tryz.insertM Tryz.func175 6 Tryz.isAgg30 Tryz.sizeOf30 encG (fun _ => rfl) encG_one _ blk 0 cap a b n d w hH hblk ha hb hsz
set_option maxRecDepth 100000 in
set_option maxHeartbeats 1000000 in
theorem rotateG_any (blk cap a m b : Nat) (d : Array TT) (w : World) (hH : HoldsK encG 6 w blk 0 d) (hblk : blk < w.heap.size) (ham : a < m) (hmb : m < b) (hb : b ≤ d.size) (hsz : d.size < 4611686018427387904) :
    Calls Tryz.prog 152 #[.slice (some ⟨blk, 0, none⟩) d.size cap, .int .i64 a, .int .i64 m, .int .i64 b, .func (.func 47) #[] #[]] w fun e w' =>
      e = .returned (.tuple #[]) ∧ ∃ k os d', w' = sortWorldK encG 6 w blk 0 k d' os ∧ Rot d d' a m b ∧ PermIn a b d d' := by
  have hmath := rotF_rot m (b - a) (m - a) (b - m) d (by omega) (by omega) (by omega) (by omega) (by omega)
  rw [show m - (m - a) = a by omega, show m + (b - m) = b by omega] at hmath
  have HM := Lib.hid hmath
  have HSW := Lib.hid (fun (p q c k : Nat) (dk : Array TT) (os : Array Obj) (hsk : dk.size = d.size) (hp : p + c ≤ d.size) (hq : q + c ≤ d.size) => by
    have := swapRangeG_any blk cap p q c dk (sortWorldK encG 6 w blk 0 k dk os) (holdsK_sortWorldK_c encG 6 w blk 0 d dk k os hH hblk hsk) (lt_sortWorldK encG 6 w blk 0 k dk os hblk) (by omega) (by omega) (by omega)
    rw [hsk] at this
    exact this.mono (fun e w' (h : _ ∧ _) => show e = .returned (.tuple #[]) ∧ ∃ k' os', w' = sortWorldK encG 6 w blk 0 k' (swR p q c 0 dk) os' by
      obtain ⟨he, k', os', rfl⟩ := h
      exact ⟨he, k + k', os ++ os', sortWorldK_on encG 6 w blk 0 k k' _ _ os os' hblk (size_swR p q c 0 dk)⟩))
  have HST : Hid (w = sortWorldK encG 6 w blk 0 0 d #[]) := Lib.hid (by unfold sortWorldK; rw [grow_empty]; exact (putRowK_self encG 6 w blk 0 d hH).symm)
  obtain ⟨N, hN⟩ : ∃ N, N = d.size := ⟨_, rfl⟩
  have HN := Lib.hid hN
  rw [← hN] at HSW hb hsz ⊢
  clear hmath hH hN
  have w1 : IntKind.i64.wrap ((m : Int) - (a : Int)) = ((m - a : Nat) : Int) := by rw [IntKind.wrap_i64]; omega
  have w2 : IntKind.i64.wrap ((b : Int) - (m : Int)) = ((b - m : Nat) : Int) := by rw [IntKind.wrap_i64]; omega
  go_enter Tryz.func152, Tryz.ntmps152
  go_wp2
  go_loopw [10, 11] (fun v u wr => ∃ (i j k f : Nat) (dk : Array TT) (os : Array Obj), v = .int .i64 i ∧ u = .int .i64 j ∧ 0 < i ∧ 0 < j ∧ i ≤ m ∧ m + j ≤ N ∧ i + j ≤ f ∧ dk.size = N ∧ wr = sortWorldK encG 6 w blk 0 k dk os ∧ Hid (rotF m f i j dk = rotF m (b - a) (m - a) (b - m) d)) (fun v u _ => (intOf v).toNat + (intOf u).toNat)
  case atStart => exact ⟨m - a, b - m, 0, b - a, d, #[], rfl, rfl, by omega, by omega, by omega, by omega, by omega, HN.out.symm, HST.out, rfl⟩
  case round =>
    obtain ⟨i, j, k, f, dk, os, rfl, rfl, i0, j0, him, hjm, hf, hsk, rfl, HO⟩ := hrel
    obtain ⟨f', rfl⟩ : ∃ f', f = f' + 1 := ⟨f - 1, by omega⟩
    have ho := HO.out
    rw [rotF] at ho
    clear HO
    have wm : IntKind.i64.wrap ((m : Int) - (i : Int)) = ((m - i : Nat) : Int) := by rw [IntKind.wrap_i64]; omega
    by_cases e : i = j
    · subst e
      rw [if_pos rfl] at ho
      have HO := Lib.hid ho
      clear ho
      go_wp2_with (go_at_call 175; refine (HSW.out (m - i) m i k dk os hsk (by omega) (by omega)).mono ?_; rintro e w' ⟨rfl, k', os', rfl⟩)
      go_end0
      exact ⟨rfl, k', os', _, rfl, by rw [HO.out]; exact HM.out.1, by rw [HO.out]; exact HM.out.2⟩
    · rw [if_neg e] at ho
      have hne : ¬ (i : Int) = (j : Int) := by omega
      by_cases hl : j < i
      · rw [if_pos hl] at ho
        have HO := Lib.hid ho
        clear ho
        have hlz : (j : Int) < (i : Int) := by omega
        have wi : IntKind.i64.wrap ((i : Int) - (j : Int)) = ((i - j : Nat) : Int) := by rw [IntKind.wrap_i64]; omega
        go_wp2_with (go_at_call 175; refine (HSW.out (m - i) m j k dk os hsk (by omega) (by omega)).mono ?_; rintro e w' ⟨rfl, k', os', rfl⟩)
        go_roundw
        case rel => exact ⟨i - j, j, k', f', _, os', rfl, rfl, by omega, j0, by omega, hjm, by omega, by rw [size_swR]; exact hsk, rfl, HO.out⟩
        case measure => simp [intOf]; omega
      · rw [if_neg hl] at ho
        have HO := Lib.hid ho
        clear ho
        have hlz : ¬ (j : Int) < (i : Int) := by omega
        have wi : IntKind.i64.wrap ((j : Int) - (i : Int)) = ((j - i : Nat) : Int) := by rw [IntKind.wrap_i64]; omega
        have wj : IntKind.i64.wrap ((m : Int) + (j : Int)) = (m : Int) + (j : Int) := by rw [IntKind.wrap_i64]; omega
        have wk : IntKind.i64.wrap ((m : Int) + (j : Int) - (i : Int)) = ((m + j - i : Nat) : Int) := by rw [IntKind.wrap_i64]; omega
        go_wp2_with (go_at_call 175; (with_reducible refine (HSW.out (m - i) (m + j - i) i k dk os hsk (by omega) (by omega)).mono ?_); rintro e w' ⟨rfl, k', os', rfl⟩)
        go_roundw
        case rel => exact ⟨i, j - i, k', f', _, os', rfl, rfl, i0, by omega, him, by omega, by omega, by rw [size_swR]; exact hsk, rfl, HO.out⟩
        case measure => simp [intOf]; omega
theorem blk_lt {bs p x y : Nat} (hb : 0 < bs) (h0 : p % (2 * bs) = 0) (hx : x < p + bs) (hy : p + bs ≤ y) : x / bs < y / bs := by
  have e : p = bs * (2 * (p / (2 * bs))) := by
    have := Nat.div_add_mod p (2 * bs)
    rw [h0, Nat.add_zero, Nat.mul_assoc, Nat.mul_left_comm] at this
    exact this.symm
  have e2 : p + bs = bs * (2 * (p / (2 * bs)) + 1) := by rw [Nat.mul_add, Nat.mul_one, ← e]
  have h1 : x / bs < 2 * (p / (2 * bs)) + 1 := Nat.div_lt_of_lt_mul (by rw [← e2]; exact hx)
  have h2 : 2 * (p / (2 * bs)) + 1 ≤ y / bs := (Nat.le_div_iff_mul_le hb).2 (by rw [Nat.mul_comm, ← e2]; exact hy)
  omega
theorem InBlk.from {c p q n : Nat} {d d' : Array TT} (h : InBlk c p n d) (hq : p ≤ q) (hs : ∀ i, q ≤ i → i < n → d'[i]! = d[i]!) : InBlk c q n d' := fun i h1 h2 => by rw [hs i h1 h2]; exact h i (by omega) h2
theorem symMergeG_any (blk cap N : Nat) (w0 : World) (d0 : Array TT) (hN : d0.size = N) (hH : HoldsK encG 6 w0 blk 0 d0) (hblk : blk < w0.heap.size) (hsz : N < 1152921504606846976) (a m b n : Nat) (d : Array TT) (os : Array Obj) (ham : a < m) (hmb : m < b) (hb : b ≤ N) (hd : d.size = N) (h1 : SortedIn ltG a m d) (h2 : SortedIn ltG m b d) (hag : ∀ y x, m ≤ y → y < b → a ≤ x → x < m → ltOf cmpG d[y]! d[x]! = ltG d[y]! d[x]!) :
    Calls Tryz.prog 121 #[.slice (some ⟨blk, 0, none⟩) N cap, .int .i64 a, .int .i64 m, .int .i64 b, .func (.func 47) #[] #[]] (sortWorldK encG 6 w0 blk 0 n d os) fun e w' =>
      e = .returned (.tuple #[]) ∧ ∃ n' os' d', w' = sortWorldK encG 6 w0 blk 0 n' d' os' ∧ PermIn a b d d' ∧ SortedIn ltG a b d' :=
  symMergeS_gen Tryz.insertM Tryz.func121 Tryz.underlying205 6 Tryz.isAgg30 Tryz.sizeOf30 encG (fun _ => rfl) encG_one cmpG ltG swo_ltG 47 #[] enters_cmp blk 0 cap N w0 d0 hN hH hblk hsz (cmpG_lays _ _ _ _)
    (enters_of Tryz.func152 (by kernel_rfl) rfl) (enters_of Tryz.func121 (by kernel_rfl) rfl)
    (fun a m b n d os hd ham hmb hb => by
      have := rotateG_any blk cap a m b d (sortWorldK encG 6 w0 blk 0 n d os) (holdsK_sortWorldK_c encG 6 w0 blk 0 d0 d n os hH hblk (by omega)) (lt_sortWorldK encG 6 w0 blk 0 n d os hblk) ham hmb (by omega) (by omega)
      rw [hd] at this
      refine this.mono ?_
      rintro e w' ⟨rfl, k', os', d', rfl, hr, hp⟩
      exact ⟨rfl, n + k', os ++ os', d', sortWorldK_on encG 6 w0 blk 0 n k' _ _ os os' hblk hp.1, hr, hp⟩)
    (b - a + 1) a m b n d os (by omega) ham hmb hb hd h1 h2 hag
/-- What is asked of the sort of so many members. -/
def SortAskG (n : Nat) : Prop := ∀ (d : Array TT) (blk cap : Nat) (w : World), d.size = n → (∀ i, i < n → d[i]!.2 = i) → HoldsK encG 6 w blk 0 d → blk < w.heap.size →
  Calls Tryz.prog 84 #[.slice (some ⟨blk, 0, none⟩) n cap, .int .i64 n, .func (.func 47) #[] #[]] w fun e w' =>
    e = .returned (.tuple #[]) ∧ ∃ m os d', w' = sortWorldK encG 6 w blk 0 m d' os ∧ PermIn 0 n d d' ∧ SortedIn ltG 0 n d'
set_option maxRecDepth 100000 in
set_option maxHeartbeats 4000000 in
theorem sortG_all (n : Nat) (hn60 : n < 576460752303423488) : SortAskG n := fun d blk cap w hn htg hH hblk => by
  have HIN := Lib.hid (fun (p e k : Nat) (dk : Array TT) (os : Array Obj) (hdk : dk.size = n) (hpe : p ≤ e) (he : e ≤ n) (htg : ∀ i, p ≤ i → i < e → dk[i]!.2 = i) => by
    have := insertG_any blk cap p e dk (sortWorldK encG 6 w blk 0 k dk os) (holdsK_sortWorldK_c encG 6 w blk 0 d dk k os hH hblk (by omega)) (lt_sortWorldK encG 6 w blk 0 k dk os hblk) hpe (by omega) (by omega)
    rw [hdk] at this
    exact this.mono (R' := fun e_ w' => e_ = .returned (.tuple #[]) ∧ ∃ k' os' d', w' = sortWorldK encG 6 w blk 0 k' d' os' ∧ PermIn p e dk d' ∧ SortedIn ltG p e d') (by
      rintro e_ w' ⟨rfl, k', os', rfl⟩
      have hs := insertionSort_holds swo_ltG dk p e hpe (by omega)
      rw [insertion_agree (f := ltOf cmpG) (g := ltG) dk (by omega) (fun y x h1 h2 h3 => agreeG (by have e1 := htg x h1 (by omega); have e2 := htg y (by omega) h3; omega))]
      exact ⟨rfl, k + k', os ++ os', _, sortWorldK_on encG 6 w blk 0 k k' _ _ os os' hblk hs.1.1, hs.1, hs.2⟩))
  have HSY := Lib.hid (symMergeG_any blk cap n w d hn hH hblk (by omega))
  have HST : Hid (w = sortWorldK encG 6 w blk 0 0 d #[]) := Lib.hid (by unfold sortWorldK; rw [grow_empty]; exact (putRowK_self encG 6 w blk 0 d hH).symm)
  have HN := Lib.hid hn
  have HTG := Lib.hid htg
  clear hH hn htg
  go_enter Tryz.func84, Tryz.ntmps84
  go_wp2
  go_loopw [7, 8] (fun v u wr => ∃ (p k : Nat) (dk : Array TT) (os : Array Obj), v = .int .i64 p ∧ u = .int .i64 (p + 20 : Nat) ∧ p ≤ n ∧ dk.size = n ∧ wr = sortWorldK encG 6 w blk 0 k dk os ∧ Hid (PermIn 0 n d dk ∧ BlkTo ltG 20 dk p ∧ InBlk 20 0 p dk ∧ p % 20 = 0 ∧ ∀ i, p ≤ i → i < n → dk[i]!.2 = i)) (fun v _ _ => n - (intOf v).toNat)
  case atStart => exact ⟨0, 0, d, #[], rfl, rfl, Nat.zero_le _, HN.out, HST.out, Lib.hid ⟨permIn_refl _ _ _, .zero, fun i _ h => absurd h (Nat.not_lt_zero _), rfl, fun i _ h => HTG.out i h⟩⟩
  case round =>
    obtain ⟨p, k, dk, os, rfl, rfl, hp, hdk, rfl, HI⟩ := hrel
    by_cases hlt : p + 20 ≤ n
    · have hz : (p : Int) + 20 ≤ (n : Int) := by omega
      have hz' : ((p + 20 : Nat) : Int) ≤ (n : Int) := by omega
      go_wp2_with (go_at_call 120; refine (HIN.out p (p + 20) k dk os hdk (by omega) hlt (fun i h1 h2 => HI.out.2.2.2.2 i h1 (by omega))).mono ?_; rintro e w' ⟨rfl, k', os', d', rfl, hp1, hs1⟩)
      go_roundw
      case rel =>
        refine ⟨p + 20, k', d', os', by first | rfl | go_num | (congr 1; omega), by first | rfl | go_num | (congr 1; omega), hlt, by rw [hp1.1]; exact hdk, rfl, Lib.hid ⟨permIn_trans _ _ _ _ _ HI.out.1 (permIn_mono _ _ _ _ _ _ (Nat.zero_le _) hlt (by omega) hp1), .step p (HI.out.2.1.same fun i hi => hp1.2.1 i (.inl hi)) hs1, (HI.out.2.2.1.same (fun i _ h => hp1.2.1 i (.inl h))).join (InBlk.perm (c := 20) (fun i h1 h2 => by rw [HI.out.2.2.2.2 i h1 (by omega)]) hp1 (by omega) HI.out.2.2.2.1 (Nat.le_refl _) (by omega)), by have := HI.out.2.2.2.1; omega, fun i h1 h2 => by rw [hp1.2.1 i (.inr h1)]; exact HI.out.2.2.2.2 i (by omega) h2⟩⟩
      case measure => simp [intOf]; omega
    · have hz : ¬ (p : Int) + 20 ≤ (n : Int) := by omega
      have hz' : ¬ ((p + 20 : Nat) : Int) ≤ (n : Int) := by omega
      go_wp2_with (go_at_call 120; refine (HIN.out p n k dk os hdk hp (Nat.le_refl _) (fun i h1 h2 => HI.out.2.2.2.2 i h1 h2)).mono ?_; rintro e w' ⟨rfl, k1, os1, d1, rfl, hp1, hs1⟩)
      have hd1 : d1.size = n := by rw [hp1.1]; exact hdk
      have HB : Hid (PermIn 0 n d d1 ∧ BlkFrom ltG 20 n d1 0 ∧ InBlk 20 0 n d1) := Lib.hid ⟨permIn_trans _ _ _ _ _ HI.out.1 (permIn_mono _ _ _ _ _ _ (Nat.zero_le _) (Nat.le_refl _) (by omega) hp1), (HI.out.2.1.same fun i hi => hp1.2.1 i (.inl hi)).join hp (blk_last hs1 (by omega)), (HI.out.2.2.1.same (fun i _ h => hp1.2.1 i (.inl h))).join (InBlk.perm (c := 20) (fun i h1 h2 => by rw [HI.out.2.2.2.2 i h1 h2]) hp1 (by omega) HI.out.2.2.2.1 (by omega) (by omega))⟩
      clear HI hp1 hs1 hdk hz hz' hlt hp
      go_loopw [6, 7, 8] (fun v _ _ wr => ∃ (bs k : Nat) (dk : Array TT) (os : Array Obj), v = .int .i64 bs ∧ 0 < bs ∧ bs ≤ 2 * n + 20 ∧ dk.size = n ∧ wr = sortWorldK encG 6 w blk 0 k dk os ∧ Hid (PermIn 0 n d dk ∧ BlkFrom ltG bs n dk 0 ∧ InBlk bs 0 n dk)) (fun v _ _ _ => n - (intOf v).toNat)
      case atStart => exact ⟨20, k1, d1, os1, rfl, by omega, by omega, hd1, rfl, HB⟩
      case round =>
        obtain ⟨bs, k2, d2, os2, rfl, hb0, hbn, hd2, rfl, HB2⟩ := hrel
        by_cases hbl : bs < n
        · have hbz : (bs : Int) < (n : Int) := by omega
          have wb2 : IntKind.i64.wrap (2 * (bs : Int)) = ((2 * bs : Nat) : Int) := by rw [IntKind.wrap_i64]; omega
          have wb2' : IntKind.i64.wrap ((bs : Int) * 2) = ((2 * bs : Nat) : Int) := by rw [IntKind.wrap_i64]; omega
          go_wp2_with fail
          go_loopw [7, 8] (fun v u wr => ∃ (p k3 : Nat) (d3 : Array TT) (os3 : Array Obj), v = .int .i64 p ∧ u = .int .i64 (p + 2 * bs : Nat) ∧ p ≤ n ∧ d3.size = n ∧ wr = sortWorldK encG 6 w blk 0 k3 d3 os3 ∧ Hid (PermIn 0 n d d3 ∧ BlkTo ltG (2 * bs) d3 p ∧ BlkFrom ltG bs n d3 p ∧ InBlk (2 * bs) 0 p d3 ∧ InBlk bs p n d3 ∧ p % (2 * bs) = 0)) (fun v _ _ => n - (intOf v).toNat)
          case atStart => exact ⟨0, k2, d2, os2, rfl, by first | rfl | go_num | (congr 1; omega), Nat.zero_le _, hd2, rfl, Lib.hid ⟨HB2.out.1, .zero, HB2.out.2.1, fun i _ h => absurd h (Nat.not_lt_zero _), HB2.out.2.2, Nat.zero_mod _⟩⟩
          case round =>
            obtain ⟨p, k3, d3, os3, rfl, rfl, hp, hd3, rfl, HB3⟩ := hrel
            have wpb : IntKind.i64.wrap ((p : Int) + (bs : Int)) = ((p + bs : Nat) : Int) := by rw [IntKind.wrap_i64]; omega
            have wpc : IntKind.i64.wrap (((p + 2 * bs : Nat) : Int) + ((2 * bs : Nat) : Int)) = ((p + 2 * bs + 2 * bs : Nat) : Int) := by rw [IntKind.wrap_i64]; omega
            obtain ⟨q, hq⟩ : ∃ q, q = p + 2 * bs := ⟨_, rfl⟩
            obtain ⟨m, hm⟩ : ∃ m, m = p + bs := ⟨_, rfl⟩
            obtain ⟨c, hc⟩ : ∃ c, c = 2 * bs := ⟨_, rfl⟩
            obtain ⟨z, hz⟩ : ∃ z, z = q + c := ⟨_, rfl⟩
            rw [← hq] at wpc ⊢
            rw [← hm] at wpb
            rw [← hc] at wb2 wb2'
            rw [← hc, ← hz] at wpc
            have HQ : Hid (q = p + 2 * bs ∧ m = p + bs ∧ c = 2 * bs ∧ z = q + c) := Lib.hid ⟨hq, hm, hc, hz⟩
            by_cases hlt : q ≤ n
            · have hqz : (q : Int) ≤ (n : Int) := by omega
              have hsorted := HB3.out.2.2.1.head (by omega)
              rw [Nat.min_eq_left (by omega)] at hsorted
              have hsorted2 := hsorted.2.head (by omega)
              rw [Nat.min_eq_left (by omega)] at hsorted2
              have HC := Lib.hid (HSY.out p m q k3 d3 os3 (by omega) (by omega) hlt hd3 (by rw [hm]; exact hsorted.1) (by rw [hm, hq, show p + 2 * bs = p + bs + bs by omega]; exact hsorted2.1) (fun y x h1 h2 h3 h4 => agreeG (HB3.out.2.2.2.2.1.less h3 (by omega) (blk_lt hb0 HB3.out.2.2.2.2.2 (by omega) (by omega)))))
              have HR : Hid (BlkFrom ltG bs n d3 q) := Lib.hid (by rw [hq, show p + 2 * bs = p + bs + bs by omega]; exact hsorted2.2)
              clear hsorted hsorted2 hq hm hc hz
              go_wp2_with (go_at_call 121; (with_reducible refine HC.out.mono ?_); rintro e w' ⟨rfl, k4, os4, d4, rfl, hp4, hs4⟩)
              have hh := HQ.out
              go_roundw
              case rel =>
                refine ⟨q, k4, d4, os4, rfl, by rw [show q + 2 * bs = z by omega], hlt, by rw [hp4.1]; exact hd3, rfl, Lib.hid ⟨permIn_trans _ _ _ _ _ HB3.out.1 (permIn_mono _ _ _ _ _ _ (Nat.zero_le _) hlt (by omega) hp4), ?_, HR.out.same fun i hi => hp4.2.1 i (.inr hi), (HB3.out.2.2.2.1.same (fun i _ h => hp4.2.1 i (.inl h))).join (InBlk.perm (fun i h1 h2 => HB3.out.2.2.2.2.1.twice i h1 (by omega)) hp4 (by omega) HB3.out.2.2.2.2.2 (by omega) (by omega)), HB3.out.2.2.2.2.1.from (by omega) (fun i h1 _ => hp4.2.1 i (.inr h1)), by rw [hh.1, Nat.add_mod_right]; exact HB3.out.2.2.2.2.2⟩⟩
                rw [show q = p + 2 * bs by omega] at hs4 hp4 ⊢
                exact .step p (HB3.out.2.1.same fun i hi => hp4.2.1 i (.inl hi)) hs4
              case measure => simp [intOf]; omega
            · have hqz : ¬ (q : Int) ≤ (n : Int) := by omega
              have hnext : ∀ (d4 : Array TT), PermIn p n d3 d4 → SortedIn ltG p n d4 → PermIn 0 n d d4 ∧ BlkFrom ltG c n d4 0 ∧ InBlk c 0 n d4 := fun d4 hp4 hs4 => by
                rw [hc]
                exact ⟨permIn_trans _ _ _ _ _ HB3.out.1 (permIn_mono _ _ _ _ _ _ (Nat.zero_le _) (Nat.le_refl _) (by omega) hp4), (HB3.out.2.1.same fun i hi => hp4.2.1 i (.inl hi)).join hp (blk_last hs4 (by omega)), (HB3.out.2.2.2.1.same (fun i _ h => hp4.2.1 i (.inl h))).join (InBlk.perm HB3.out.2.2.2.2.1.twice hp4 (by omega) HB3.out.2.2.2.2.2 (by omega) (by omega))⟩
              have HNX := Lib.hid hnext
              by_cases hmn : m < n
              · have hmz : (m : Int) < (n : Int) := by omega
                have hsorted := HB3.out.2.2.1.head (by omega)
                rw [Nat.min_eq_left (by omega)] at hsorted
                have hsorted2 := hsorted.2.head (by omega)
                rw [Nat.min_eq_right (by omega)] at hsorted2
                have HC := Lib.hid (HSY.out p m n k3 d3 os3 (by omega) hmn (Nat.le_refl _) hd3 (by rw [hm]; exact hsorted.1) (by rw [hm]; exact hsorted2.1) (fun y x h1 h2 h3 h4 => agreeG (HB3.out.2.2.2.2.1.less h3 h2 (blk_lt hb0 HB3.out.2.2.2.2.2 (by omega) (by omega)))))
                clear hsorted hsorted2 hq hm hc hz hnext
                go_wp2_with (go_at_call 121; (with_reducible refine HC.out.mono ?_); rintro e w' ⟨rfl, k4, os4, d4, rfl, hp4, hs4⟩)
                have hh := HQ.out
                go_roundw
                case rel => exact ⟨c, k4, d4, os4, rfl, by omega, by omega, by rw [hp4.1]; exact hd3, rfl, Lib.hid (HNX.out d4 hp4 hs4)⟩
                case measure => simp [intOf]; omega
              · have hmz : ¬ (m : Int) < (n : Int) := by omega
                have hs4 : SortedIn ltG p n d3 := by
                  by_cases hpn : p < n
                  · have := (HB3.out.2.2.1.head hpn).1
                    rwa [Nat.min_eq_right (by omega)] at this
                  · intro i j h1 h2 h3; omega
                have HS4 := Lib.hid hs4
                clear hq hm hc hz hnext hs4
                go_wp2_with fail
                have hh := HQ.out
                go_roundw
                case rel => exact ⟨c, k3, d3, os3, rfl, by omega, by omega, hd3, rfl, Lib.hid (HNX.out d3 (permIn_refl _ _ _) HS4.out)⟩
                case measure => simp [intOf]; omega
        · have hbz : ¬ (bs : Int) < (n : Int) := by omega
          go_wp2_with fail
          go_end0
          exact ⟨rfl, k2, os2, d2, rfl, HB2.out.1, blk_all HB2.out.2.1 (by omega)⟩
end Go.Proofs.YtjfgmgkhinehaaaGreatDoor
