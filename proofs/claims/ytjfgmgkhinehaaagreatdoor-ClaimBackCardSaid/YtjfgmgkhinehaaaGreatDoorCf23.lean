/- Bld, ScCheck, ScParse: merged. -/
import Derived.Lib.Builder
import Derived.Lib.AppendStr
import Derived.Lib.UnsafeStr
import Derived.Lib.Slices
import Derived.Lib.Walk
import Derived.Laws.Externs
import Derived.Test.YtjfgmgkhinehaaaGreatDoorCf20
set_option linter.all false
namespace Go.Proofs.YtjfgmgkhinehaaaGreatDoor
open Go Go.RowKit
theorem bldInfo : (Tryz.prog.info? 128).map (·.size) = some 2 := by kernel_rfl
theorem bldLies : liesAt Tryz.prog Tryz.prog.depth 128 (2 / Tryz.prog.cellsOf 128) 0 128 1 = true := by kernel_rfl
theorem byteInfo : (Tryz.prog.info? 5).map (fun i => (i.zero, i.size, i.bytes)) = some (some (.int .u8 0), 1, 1) := by kernel_rfl
abbrev IsBld (B b : Nat) (bs : List Value) (w : World) : Prop := Lib.IsBuilder 128 5 B b bs w
set_option maxRecDepth 100000 in
set_option maxHeartbeats 1000000 in
theorem bldCheck_used (b : Nat) (w : World) (h0 : w.cell? ⟨b, 0, none⟩ = some (.pointer (some ⟨b, 0, none⟩))) :
    Calls Tryz.prog 123 #[.pointer (some ⟨b, 0, none⟩)] w fun e w' => e = .returned (.tuple #[]) ∧ w' = w := by
  obtain ⟨j, hj, _⟩ := Option.map_eq_some_iff.1 bldInfo
  have hne := Lib.run_neq_ptr_same (P := Tryz.prog) w ⟨b, 0, none⟩ Tryz.underlying126 hj
  go_enter Tryz.func123, Tryz.ntmps123
  go_wp2
  go_end0
  exact ⟨rfl, rfl⟩
set_option maxRecDepth 100000 in
set_option maxHeartbeats 1000000 in
theorem bldCheck_fresh (b : Nat) (w : World) (h0 : w.cell? ⟨b, 0, none⟩ = some (.pointer none)) (hsh : w.shape? b = some (128, 2)) (hfz : w.frozen? ⟨b, 0, none⟩ = false) :
    Calls Tryz.prog 123 #[.pointer (some ⟨b, 0, none⟩)] w fun e w' => e = .returned (.tuple #[]) ∧ w' = w.setCell ⟨b, 0, none⟩ (.pointer (some ⟨b, 0, none⟩)) := by
  obtain ⟨j, hj, hjs⟩ := Option.map_eq_some_iff.1 bldInfo
  have h1 := Lib.run_to_unsafe (P := Tryz.prog) w ⟨b, 0, none⟩ Tryz.underlying126 Tryz.underlying142 hj (by rw [hjs]; decide) hsh (Nat.zero_lt_succ 1)
  have h2 : ∀ args w, (callFunc 153 args).run Tryz.prog w = _ := fun args w => run_callFunc_extern Tryz.func153 (by kernel_rfl) (by kernel_rfl) (by kernel_rfl) (e := Extern.AbiNoEscape.same) (by kernel_rfl) args w
  have h3 := Lib.run_from_unsafe (P := Tryz.prog) w ⟨b, 0, none⟩ Tryz.underlying142 Tryz.underlying126 hj hsh bldLies
  go_enter Tryz.func123, Tryz.ntmps123
  go_wp2
  rw [Lib.run_noEscape]
  simp only [Result.andThen]
  rw [Oper.upon_value]
  go_wp2
  go_end0
  exact ⟨rfl, rfl⟩
theorem bldCheck_any (B b : Nat) (bs : List Value) (w : World) (h : IsBld B b bs w) :
    Calls Tryz.prog 123 #[.pointer (some ⟨b, 0, none⟩)] w fun e w' => e = .returned (.tuple #[]) ∧ (Lib.BuilderAt 128 5 B b (.pointer (some ⟨b, 0, none⟩)) bs w' ∧ Below B w w') := by
  rcases h with h | h
  · refine (bldCheck_fresh b w h.cell0 h.shape h.frozen0).mono ?_
    rintro e w' ⟨rfl, rfl⟩
    exact ⟨rfl, h.used _, (Below.refl B w).setCell (p := ⟨b, 0, none⟩) h.1 _⟩
  · refine (bldCheck_used b w h.cell0).mono ?_
    rintro e w' ⟨rfl, rfl⟩
    exact ⟨rfl, h, Below.refl B _⟩
set_option maxRecDepth 100000 in
set_option maxHeartbeats 2000000 in
theorem writeS_any (B b : Nat) (bs : List Value) (s : ByteArray) (w : World) (h : IsBld B b bs w) (hlen : bs.length + s.size ≤ 140737488355328) (hBw : B ≤ w.heap.size) :
    Calls Tryz.prog 88 #[.pointer (some ⟨b, 0, none⟩), .string s] w fun e w' => e = .returned (.tuple #[.int .i64 s.size, .nilIface]) ∧ IsBld B b (bs ++ Lib.strCells s) w' ∧ Below B w w' := by
  obtain ⟨i0, hi, hz0, hz1, hz2⟩ := info_parts byteInfo
  have HC := Lib.hid (bldCheck_any B b bs w h)
  clear h
  go_enter Tryz.func88, Tryz.ntmps88
  go_wp2_with (go_at_call 123; refine HC.out.mono ?_)
  rintro e w1 ⟨rfl, h1, hb1⟩
  obtain ⟨hB, v, hbk, hown, hne⟩ := h1
  have c0 : w1.cell? ⟨b, 0, none⟩ = some (.pointer (some ⟨b, 0, none⟩)) := by rw [Lib.cell_of_heap hbk]; rfl
  have c1 : w1.cell? ⟨b, 1, none⟩ = some v := by rw [Lib.cell_of_heap hbk]; rfl
  go_wp2_with (at_builtin; refine Lib.wpList_append_own_string _ rfl _ _ 80 9 rfl B 5 i0 Tryz.underlying80 Tryz.underlying9 hi hz0 hz1 hz2 _ _ _ rfl hown s rfl ?c3 ?c4 ?c5 ?_)
  case c3 => unfold maxLen; omega
  case c4 => omega
  case c5 => have := hb1.size; omega
  intro v' w2 hown' hgrow _
  have hlt : b < w1.heap.size := by
    rcases Nat.lt_or_ge b w1.heap.size with h' | h'
    · exact h'
    · simp [Array.getElem?_eq_none h'] at hbk
  have hb2 : w2.heap[b]? = some (.cells #[.pointer (some ⟨b, 0, none⟩), v] 128 (0, 0)) := by
    rw [hgrow.block b hlt (fun e => hne e.symm)]
    exact hbk
  have d0 : w2.cell? ⟨b, 0, none⟩ = some (.pointer (some ⟨b, 0, none⟩)) := by rw [Lib.cell_of_heap hb2]; rfl
  have d1 : w2.cell? ⟨b, 1, none⟩ = some v := by rw [Lib.cell_of_heap hb2]; rfl
  have f1 : w2.frozen? ⟨b, 1, none⟩ = false := Lib.frozen_of_heap hb2 1
  obtain ⟨ao, n', cap, rfl⟩ : ∃ ao n' cap, v' = .slice ao n' cap := by
    rcases hown'.2 with ⟨hv, _⟩ | ⟨g, cap, cur, hv, _⟩
    · exact ⟨_, _, _, hv⟩
    · exact ⟨_, _, _, hv⟩
  go_wp2
  go_ret2
  refine ⟨rfl, .inr ?_, ?_⟩
  · exact Lib.BuilderAt.put (T := 128) (e := 5) hB hb2 (bs' := bs ++ Lib.strCells s) (by simpa [Lib.strCells_length] using hown') (by decide)
  · exact (hb1.grown hgrow (by have := hb1.size; omega) (fun k hk => (hown.lt k hk).1)).setCell (p := ⟨b, 1, none⟩) hB _
/-- A builder of our own, where a reader below it has moved. -/
theorem IsBld.kept {B b rb : Nat} {bs : List Value} {w w' : World} (h : IsBld B b bs w) (hg : w.grownBy w' (some rb)) (hrb : rb < B) : IsBld B b bs w' := by
  have key : ∀ p, Lib.BuilderAt 128 5 B b p bs w → Lib.BuilderAt 128 5 B b p bs w' := fun p h => by
    have hlt := Lib.BuilderAt.lt h
    obtain ⟨hB, v, hbk, hown, hne⟩ := h
    refine ⟨hB, v, (hg.block b hlt (by intro e; injection e with e; omega)).trans hbk, hown.kept hg ?_, hne⟩
    refine .inr (fun e => ?_)
    have := (hown.lt rb e).1
    omega
  exact h.imp (key _) (key _)
/-- A string's bytes as cells. -/
theorem strCells_strL (s : ByteArray) : Lib.strCells s = ints .u8 (strL s) := by
  simp [Lib.strCells, ints, strL]
theorem byteCells_toU {l : List Int} (h : Bytes l) : Lib.byteCells (toU l) = ints .u8 l := by
  simp only [Lib.byteCells, toU, List.map_map, ints]
  refine List.map_congr_left fun x hx => ?_
  simp only [Function.comp]
  rw [toU_nat (h.mem hx)]
theorem bldString (B b : Nat) (l : List Int) (w : World) (hl : Bytes l) (h : IsBld B b (ints .u8 l) w) (hBw : B ≤ w.heap.size) :
    Calls Tryz.prog 89 #[.pointer (some ⟨b, 0, none⟩)] w fun e w' => e = .returned (.string (toS l)) ∧ Below B w w' :=
  Tryz.Builder_String_any B b (toU l) w (by rw [byteCells_toU hl]; exact h) hBw
end Go.Proofs.YtjfgmgkhinehaaaGreatDoor
namespace Go.Proofs.YtjfgmgkhinehaaaGreatDoor
open Go Go.RowKit
/-- Are they names that rise, behind this one? -/
def chkG : Option ByteArray → List ByteArray → Bool
  | _, [] => true
  | p, x :: r => nameB (strL x) && (match p with | none => true | some q => ltS q x) && chkG (some x) r
/-- The name before place k. -/
def prevN (l : List ByteArray) : Nat → Option ByteArray
  | 0 => none
  | k + 1 => l[k]?
/-- Are they scopes? -/
def checkN (l : List ByteArray) : Bool := decide (l.length ≤ 16) && chkG none l
theorem chk_at0 {l : List ByteArray} (h : 0 < l.length) : chkG (prevN l 0) (l.drop 0) = (nameB (strL l[0]) && chkG (prevN l 1) (l.drop 1)) := by
  cases l with
  | nil => simp at h
  | cons x r => simp [prevN, chkG]
theorem chk_at1 {l : List ByteArray} {k : Nat} (h : k + 1 < l.length) : chkG (prevN l (k + 1)) (l.drop (k + 1)) = (nameB (strL l[k + 1]) && ltS l[k] l[k + 1] && chkG (prevN l (k + 2)) (l.drop (k + 2))) := by
  rw [List.drop_eq_getElem_cons h]
  simp only [prevN, List.getElem?_eq_getElem h, List.getElem?_eq_getElem (show k < l.length by omega), chkG]
/-- What ErrScope is told as. -/
def SErr (ok : Bool) : Value := if ok then .nilIface else .iface 95 (.int .i64 70)
theorem chkG_rise : ∀ (l : List ByteArray) (p : Option ByteArray), chkG p l = true → RiseS l ∧ (∀ q, p = some q → ∀ x ∈ l, ltS q x = true) ∧ ∀ x ∈ l, nameB (strL x) = true
  | [], _, _ => ⟨rise_nil, (fun _ _ _ h => by cases h), (fun _ h => by cases h)⟩
  | x :: r, p, h => by
    simp only [chkG, Bool.and_eq_true] at h
    obtain ⟨⟨h1, h2⟩, h3⟩ := h
    obtain ⟨k1, k2, k3⟩ := chkG_rise r (some x) h3
    have hx := k2 x rfl
    refine ⟨rise_cons.2 ⟨hx, k1⟩, fun q hq z hz => ?_, fun z hz => ?_⟩
    · subst hq
      rcases List.mem_cons.1 hz with rfl | hz
      · exact h2
      · exact ltS_trans h2 (hx z hz)
    · rcases List.mem_cons.1 hz with rfl | hz
      · exact h1
      · exact k3 z hz
set_option maxRecDepth 100000 in
set_option maxHeartbeats 4000000 in
theorem checkP_any (v : Value) (ns : List ByteArray) (w : World) (h : SliceN w v ns) (hn : ns.length ≤ 1000000000) :
    Calls Tryz.prog 58 #[v] w fun e w' => e = .returned (SErr (checkN ns)) ∧ w = w' := by
  obtain ⟨A, c, rfl, hc, hl, -⟩ := h
  obtain ⟨n, hnn⟩ : ∃ n, n = ns.length := ⟨_, rfl⟩
  obtain ⟨R, hR⟩ : ∃ R, R = checkN ns := ⟨_, rfl⟩
  rw [← hR]
  rw [← hnn] at hc hn ⊢
  have HN := Lib.hid hnn
  have HL := Lib.hid hl
  have HR := Lib.hid hR
  clear hnn hl hR
  by_cases hg : 16 < n
  · have hgI : (16 : Int) < (n : Int) := by omega
    have HT : Hid (R = false) := Lib.hid (by rw [HR.out]; unfold checkN; rw [← HN.out, decide_eq_false (by omega), Bool.false_and])
    clear hg
    go_enter Tryz.func58, Tryz.ntmps58
    go_wp2
    go_ret
    exact ⟨by rw [HT.out]; rfl, rfl⟩
  · have hgI : ¬ (16 : Int) < (n : Int) := by omega
    have HR2 : Hid (R = chkG none ns) := Lib.hid (by rw [HR.out]; unfold checkN; rw [← HN.out, decide_eq_true (by omega), Bool.true_and])
    have hg2 : n ≤ 16 := by omega
    clear hg HR
    go_enter Tryz.func58, Tryz.ntmps58
    go_wp2
    go_loop [11] (fun i => ∃ k : Nat, k ≤ n ∧ i = .int .i64 (k : Int) ∧ R = chkG (prevN ns k) (ns.drop k)) (fun i => n - (intOf i).toNat)
    case atStart => exact ⟨0, Nat.zero_le _, rfl, HR2.out⟩
    case round =>
      obtain ⟨k, hk, rfl, hrun⟩ := hrel
      have HRUN := Lib.hid hrun
      clear hrun
      by_cases hlt : k < n
      · have hkl : k < ns.length := by rw [← HN.out]; exact hlt
        obtain ⟨b, o, rfl, _, hcell⟩ := HL.out.at hkl
        have hi0 : (0 : Int) ≤ (k : Int) := by omega
        have HNM := Lib.hid (fun W => scName_any ns[k] W)
        cases k with
        | zero =>
          have HST := Lib.hid (chk_at0 hkl)
          obtain ⟨x, hx⟩ : ∃ x, x = ns[0] := ⟨_, rfl⟩
          rw [← hx] at hcell HNM HST
          rw [Nat.add_zero] at hcell
          clear hx hkl
          cases hnb : nameB (strL x) with
          | false =>
            rw [hnb] at HNM HST
            have HT : Hid (R = false) := Lib.hid (by rw [HRUN.out, HST.out, Bool.false_and])
            clear hnb
            go_wp2_with (go_at_call 57; (with_reducible refine (HNM.out _).mono ?_); rintro e w' ⟨rfl, rfl⟩)
            go_ret
            exact ⟨by rw [HT.out]; rfl, rfl⟩
          | true =>
            rw [hnb] at HNM HST
            have HT : Hid (R = chkG (prevN ns 1) (ns.drop 1)) := Lib.hid (by rw [HRUN.out, HST.out, Bool.true_and])
            clear hnb
            go_wp2_with (go_at_call 57; (with_reducible refine (HNM.out _).mono ?_); rintro e w' ⟨rfl, rfl⟩)
            go_round
            case rel => exact ⟨1, by omega, by go_num, HT.out⟩
            case measure => simp [intOf]; omega
        | succ j =>
          have HST := Lib.hid (chk_at1 hkl)
          have hcell2 : w.cell? ⟨b, o + j, none⟩ = some (.string ns[j]) := by
            obtain ⟨b', o', e, _, hc'⟩ := HL.out.at (show j < ns.length by omega)
            injection e with e; injection e with e1 e2
            subst e1; subst e2; exact hc'
          have hj0 : (0 : Int) ≤ (j : Int) := by omega
          have hj1 : (j : Int) < (n : Int) := by omega
          have hj2 : (0 : Int) < (j : Int) + 1 := by omega
          obtain ⟨x, hx⟩ : ∃ x, x = ns[j + 1] := ⟨_, rfl⟩
          obtain ⟨y, hy⟩ : ∃ x, x = ns[j]'(by omega) := ⟨_, rfl⟩
          rw [← hx] at hcell HNM HST
          rw [← hy] at hcell2 HST
          clear hx hkl hy
          cases hnb : nameB (strL x) with
          | false =>
            rw [hnb] at HNM HST
            have HT : Hid (R = false) := Lib.hid (by rw [HRUN.out, HST.out, Bool.false_and, Bool.false_and])
            clear hnb
            go_wp2_with (go_at_call 57; (with_reducible refine (HNM.out _).mono ?_); rintro e w' ⟨rfl, rfl⟩)
            go_ret
            exact ⟨by rw [HT.out]; rfl, rfl⟩
          | true =>
            rw [hnb] at HNM HST
            clear hnb
            cases hlx : ltS y x with
            | false =>
              have hb1 : Op.bytesLess y.toList x.toList = false := hlx
              have HT : Hid (R = false) := Lib.hid (by rw [HRUN.out, HST.out, hlx]; rfl)
              clear hlx
              go_wp2_with (go_at_call 57; (with_reducible refine (HNM.out _).mono ?_); rintro e w' ⟨rfl, rfl⟩)
              go_ret
              exact ⟨by rw [HT.out]; rfl, rfl⟩
            | true =>
              have hb1 : Op.bytesLess y.toList x.toList = true := hlx
              have HT : Hid (R = chkG (prevN ns (j + 2)) (ns.drop (j + 2))) := Lib.hid (by rw [HRUN.out, HST.out, hlx]; rfl)
              clear hlx
              go_wp2_with (go_at_call 57; (with_reducible refine (HNM.out _).mono ?_); rintro e w' ⟨rfl, rfl⟩)
              go_round
              case rel => exact ⟨j + 2, by omega, by go_num, HT.out⟩
              case measure => simp [intOf]; omega
      · obtain rfl : k = n := by omega
        have HT : Hid (R = true) := Lib.hid (by rw [HRUN.out, HN.out, List.drop_length, chkG])
        clear hlt
        go_wp2
        go_ret
        exact ⟨by rw [HT.out]; rfl, rfl⟩
end Go.Proofs.YtjfgmgkhinehaaaGreatDoor
namespace Go.Proofs.YtjfgmgkhinehaaaGreatDoor
open Go Go.RowKit
abbrev MaxLS (w : World) : Prop := ∃ m, w.cell? ⟨1, 0, none⟩ = some (.int .i64 m)
theorem MaxLS.below {w w' : World} (h : MaxLS w) (hb : Below w.heap.size w w') : MaxLS w' := by
  obtain ⟨m, hm⟩ := h
  exact ⟨m, (hb.cell (p := ⟨1, 0, none⟩) (lt_of_cell hm)).trans hm⟩
/-- strings.Cut at a blank. -/
theorem cutS_any (s : ByteArray) (w : World) (hm : MaxLS w) (hs : s.size ≤ 1000000000) :
    Calls Tryz.prog 154 #[.string s, .string ⟨#[32]⟩] w fun e w' => e = .returned (.tuple #[.string (ofL (Lib.cut (nmL s) [32]).1), .string (ofL (Lib.cut (nmL s) [32]).2.1), .bool (Lib.cut (nmL s) [32]).2.2]) ∧ Below w.heap.size w w' := by
  obtain ⟨m, hm⟩ := hm
  refine (Tryz.strings_Cut s ⟨#[32]⟩ m w (by omega) hm).mono ?_
  rintro e w' ⟨rfl, n, rfl⟩
  exact ⟨rfl, below_drewN (Below.refl _ _) n⟩
/-- What Parse hands back. -/
def ParseTellsS (s : ByteArray) (w : World) (e : Ending) (w' : World) : Prop :=
  ∃ v, e = .returned (.tuple #[v, SErr (okW (textW s))]) ∧ SliceN w' v (parseN s) ∧ Below w.heap.size w w'
theorem parsed_bad {s : ByteArray} (h : okW (textW s) = false) : parseN s = [] := by unfold parseN; rw [h]; rfl
theorem parsed_good {s : ByteArray} (h : okW (textW s) = true) : parseN s = setS (textW s) := by unfold parseN; rw [if_pos h]
theorem size_ofL (l : List UInt8) : (ofL l).size = l.length := rfl
theorem setS_set (a : List ByteArray) (x : ByteArray) : setS (setS a ++ [x]) = setS (a ++ [x]) := setS_congr fun y => by simp [mem_setS]
set_option maxRecDepth 100000 in
set_option maxHeartbeats 4000000 in
theorem parseS_any (s : ByteArray) (w : World) (hm : MaxLS w) (hs : s.size ≤ 1000000000) :
    Calls Tryz.prog 125 #[.string s] w (ParseTellsS s w) := by
  by_cases h0 : s.size = 0
  · obtain rfl : s = ⟨#[]⟩ := by
      obtain ⟨d⟩ := s
      have : d.size = 0 := h0
      rw [Array.eq_empty_of_size_eq_zero this]
    go_enter Tryz.func125, Tryz.ntmps125
    go_wp2
    refine wp_loop_rounds 1 ?_
    rw [rounds_succ]
    go_wp2
    go_ret2
    exact ⟨_, rfl, SliceN.nil _, Below.refl _ _⟩
  · have hne : (s.toList == (⟨#[]⟩ : ByteArray).toList) = false := by
      rw [show (⟨#[]⟩ : ByteArray).toList = [] by rw [ByteArray.toList_eq], beq_eq_false_iff_ne, ByteArray.toList_eq]
      intro e
      apply h0
      show s.data.size = 0
      rw [← Array.length_toList, e]; rfl
    have HE : Hid (s.toList.isEmpty = false) := Lib.hid (by
      rw [List.isEmpty_eq_false_iff]
      intro e
      rw [e, show (⟨#[]⟩ : ByteArray).toList = [] by rw [ByteArray.toList_eq]] at hne
      simp at hne)
    have HTW : Hid (textW s = wordsB s) := Lib.hid (by unfold textW; rw [if_neg h0])
    have HM := Lib.hid hm
    obtain ⟨s0, hs0⟩ : ∃ t, t = s := ⟨_, rfl⟩
    rw [← hs0] at HTW
    have HW0 : Hid (textW s0 = [] ++ wordsB s) := Lib.hid (by rw [HTW.out, hs0]; rfl)
    show Calls _ _ _ _ (ParseTellsS s w)
    rw [show ParseTellsS s w = ParseTellsS s0 w by rw [hs0]]
    clear h0 hm HTW hs0
    go_enter Tryz.func125, Tryz.ntmps125
    go_wp2
    go_loopw [0, 4, 5] (fun sv lv mv wr => ∃ (done : List ByteArray) (t : ByteArray), sv = .string t ∧ t.size ≤ 1000000000 ∧ SliceN wr lv (setS done) ∧ (setS done).length ≤ 16 ∧ (∀ x ∈ done, nameB (strL x) = true) ∧ Below w.heap.size w wr ∧ ((mv = .bool true ∧ textW s0 = done ++ wordsB t) ∨ (mv = .bool false ∧ textW s0 = done))) (fun sv _ mv _ => match mv, sv with | .bool true, .string t => t.size + 1 | _, _ => 0)
    case atStart => exact ⟨[], s, rfl, hs, SliceN.nil _, by simp [setS], by simp, Below.refl _ _, .inl ⟨by rw [HE.out]; rfl, HW0.out⟩⟩
    case round =>
      clear HW0 hs hne HE
      obtain ⟨done, t, rfl, ht, hsl, hle, hall, hbel, ⟨rfl, hw⟩ | ⟨rfl, hw⟩⟩ := hrel
      · have HSL := Lib.hid hsl
        obtain ⟨A4, c4, rfl, -⟩ := hsl
        obtain ⟨q, hq⟩ : ∃ q, q = (setS done).length := ⟨_, rfl⟩
        rw [← hq] at HSL hle ⊢
        have HQ := Lib.hid hq
        have hq16 := hle
        clear hq
        have HLE := Lib.hid hle
        have HALL := Lib.hid hall
        have HBE := Lib.hid hbel
        have HWD := Lib.hid hw
        clear hle hall hbel hw
        have HCUT := Lib.hid (cutS_any t wr (HM.out.below HBE.out) (by omega))
        obtain ⟨nm, hnm⟩ : ∃ x, x = ofL (Lib.cut (nmL t) [32]).1 := ⟨_, rfl⟩
        obtain ⟨rest, hrest⟩ : ∃ x, x = ofL (Lib.cut (nmL t) [32]).2.1 := ⟨_, rfl⟩
        obtain ⟨more, hmore⟩ : ∃ x, x = (Lib.cut (nmL t) [32]).2.2 := ⟨_, rfl⟩
        have hcw := cut_words t
        rw [← hnm, ← hrest, ← hmore] at HCUT
        rw [← hnm, ← hmore] at hcw
        rw [← hrest] at hcw
        have hsn : nm.size ≤ 1000000000 := by
          rw [hnm, size_ofL]
          rcases hcw with ⟨_, _, _, h⟩ | ⟨_, _, h, _⟩ <;> omega
        have hsr : rest.size ≤ 1000000000 ∧ (more = true → rest.size < t.size) := by
          rw [hrest, size_ofL]
          rcases hcw with ⟨_, _, h, _⟩ | ⟨h1, _, _, h⟩
          · exact ⟨by omega, fun _ => h⟩
          · exact ⟨by omega, fun h2 => by rw [h1] at h2; cases h2⟩
        have hww : (more = true ∧ textW s0 = (done ++ [nm]) ++ wordsB rest) ∨ (more = false ∧ textW s0 = done ++ [nm]) := by
          rcases hcw with ⟨h1, h2, _⟩ | ⟨h1, h2, _⟩
          · exact .inl ⟨h1, by rw [HWD.out, h2]; simp⟩
          · exact .inr ⟨h1, by rw [HWD.out, h2]⟩
        have HWW := Lib.hid hww
        have HNIN : Hid (nm ∈ textW s0) := Lib.hid (by rcases hww with ⟨_, h⟩ | ⟨_, h⟩ <;> rw [h] <;> simp)
        have HRS := Lib.hid hsr
        clear hcw hww hnm hrest hmore HWD hsr
        have HNM := Lib.hid (fun W => scName_any nm W)
        cases hnb : nameB (strL nm) with
        | false =>
          have HBAD : Hid (okW (textW s0) = false) := Lib.hid (okW_bad HNIN.out hnb)
          rw [hnb] at HNM
          clear hnb
          go_wp2_with (first
            | (go_at_call 154; (with_reducible refine HCUT.out.mono ?_); rintro e w2 ⟨rfl, hb2⟩; have HB2 := Lib.hid (HBE.out.trans (hb2.mono HBE.out.size)); clear hb2)
            | (go_at_call 57; (with_reducible refine (HNM.out _).mono ?_); rintro e w3 ⟨rfl, rfl⟩))
          go_ret2
          exact ⟨.slice none 0 0, by rw [HBAD.out]; rfl, by rw [parsed_bad HBAD.out]; exact SliceN.nil _, HB2.out⟩
        | true =>
          rw [hnb] at HNM
          have HNB := Lib.hid hnb
          clear hnb
          have HHAS := Lib.hid (fun W (hW : Below wr.heap.size wr W) => hasP_any (.slice A4 q c4) (setS done) nm W (HSL.out.below hW) (by rw [← HQ.out]; omega))
          cases hh : hasN (setS done) nm with
          | true =>
            have HSD : Hid (setS (done ++ [nm]) = setS done) := Lib.hid (by rw [setS_snoc]; unfold putS; rw [if_pos hh])
            rw [hh] at HHAS
            clear hh
            go_wp2_with (first
              | (go_at_call 154; (with_reducible refine HCUT.out.mono ?_); rintro e w2 ⟨rfl, hb2⟩; have HB2 := Lib.hid (HBE.out.trans (hb2.mono HBE.out.size)); have HH2 := Lib.hid (HHAS.out w2 hb2); have HSL2 := Lib.hid (HSL.out.below hb2); clear hb2)
              | (go_at_call 57; (with_reducible refine (HNM.out _).mono ?_); rintro e w3 ⟨rfl, rfl⟩)
              | (go_at_call 102; (with_reducible refine HH2.out.mono ?_); rintro e w3 ⟨rfl, rfl⟩))
            refine ⟨⟨done ++ [nm], rest, rfl, HRS.out.1, by rw [HSD.out]; exact HSL2.out, by rw [HSD.out, ← HQ.out]; exact HLE.out, ?_, HB2.out, ?_⟩, ?_⟩
            · intro y hy
              rcases List.mem_append.1 hy with hy | hy
              · exact HALL.out y hy
              · rw [List.mem_singleton.1 hy]; exact HNB.out
            · rcases HWW.out with ⟨h1, h2⟩ | ⟨h1, h2⟩
              · exact .inl ⟨by rw [h1], h2⟩
              · exact .inr ⟨by rw [h1], h2⟩
            · cases more with
              | true => have := HRS.out.2 rfl; show rest.size + 1 < t.size + 1; omega
              | false => show 0 < t.size + 1; omega
          | false =>
            rw [hh] at HHAS
            have HLN : Hid ((setS (done ++ [nm])).length = q + 1) := Lib.hid (by rw [setS_snoc, length_putS, if_neg (by rw [hh]; simp), HQ.out])
            clear hh
            by_cases h16 : q = 16
            · have HBAD : Hid (okW (textW s0) = false) := Lib.hid (by
                have hm : 16 < (setS (done ++ [nm])).length := by rw [HLN.out]; omega
                rcases HWW.out with ⟨_, h2⟩ | ⟨_, h2⟩
                · rw [h2]; exact okW_many hm
                · rw [h2, ← List.append_nil (done ++ [nm])]; exact okW_many hm)
              have hq : ((q : Int) == 16) = true := by simp [h16]
              clear h16
              go_wp2_with (first
              | (go_at_call 154; (with_reducible refine HCUT.out.mono ?_); rintro e w2 ⟨rfl, hb2⟩; have HBW := Lib.hid hb2; have HB2 := Lib.hid (HBE.out.trans (hb2.mono HBE.out.size)); have HH2 := Lib.hid (HHAS.out w2 hb2); have HSL2 := Lib.hid (HSL.out.below hb2); clear hb2)
              | (go_at_call 57; (with_reducible refine (HNM.out _).mono ?_); rintro e w3 ⟨rfl, rfl⟩)
              | (go_at_call 102; (with_reducible refine HH2.out.mono ?_); rintro e w4 ⟨rfl, rfl⟩))
              go_ret2
              exact ⟨.slice none 0 0, by rw [HBAD.out]; rfl, by rw [parsed_bad HBAD.out]; exact SliceN.nil _, HB2.out⟩
            · have hq : ((q : Int) == 16) = false := by rw [beq_eq_false_iff_ne]; omega
              have hq15 : q + 1 ≤ 16 := by omega
              have HALLC := Lib.hid (fun W (hW : Below wr.heap.size wr W) => scAll_any (.slice A4 q c4) (.slice (some ⟨W.heap.size, 0, none⟩) 1 1) (setS done) [nm] (W.alloc (.cells #[.string nm] 9)) ((HSL.out.below hW).below (belowAlloc _ _)) ⟨_, 1, rfl, Nat.le_refl _, fun _ => ⟨W.heap.size, 0, rfl, by simp, fun i x hi => by
                match i, hi with
                | 0, hi => simp at hi; subst hi; simp⟩, fun x hx => by rw [List.mem_singleton.1 hx]; omega⟩ (by rw [← HQ.out]; simp; omega))
              clear h16
              go_wp2_with (first
              | (go_at_call 154; (with_reducible refine HCUT.out.mono ?_); rintro e w2 ⟨rfl, hb2⟩; have HBW := Lib.hid hb2; have HB2 := Lib.hid (HBE.out.trans (hb2.mono HBE.out.size)); have HH2 := Lib.hid (HHAS.out w2 hb2); have HSL2 := Lib.hid (HSL.out.below hb2); clear hb2)
              | (go_at_call 57; (with_reducible refine (HNM.out _).mono ?_); rintro e w3 ⟨rfl, rfl⟩)
              | (go_at_call 102; (with_reducible refine HH2.out.mono ?_); rintro e w4 ⟨rfl, rfl⟩)
                | (go_at_call 77; (with_reducible refine (HALLC.out _ HBW.out).mono ?_); rintro e w5 ⟨v5, rfl, hs5, hb5⟩; have HS5 := Lib.hid hs5; have HB5 := Lib.hid (HB2.out.trans (((belowAlloc _ _).trans (hb5.mono (belowAlloc _ _).size)).mono HB2.out.size)); clear hs5 hb5))
              refine ⟨⟨done ++ [nm], rest, rfl, HRS.out.1, by rw [← setS_set]; exact HS5.out, by rw [HLN.out]; exact hq15, ?_, HB5.out, ?_⟩, ?_⟩
              · intro y hy
                rcases List.mem_append.1 hy with hy | hy
                · exact HALL.out y hy
                · rw [List.mem_singleton.1 hy]; exact HNB.out
              · rcases HWW.out with ⟨h1, h2⟩ | ⟨h1, h2⟩
                · exact .inl ⟨by rw [h1], h2⟩
                · exact .inr ⟨by rw [h1], h2⟩
              · cases more with
                | true => have := HRS.out.2 rfl; show rest.size + 1 < t.size + 1; omega
                | false => show 0 < t.size + 1; omega
      · have HSL := Lib.hid hsl
        have HBE := Lib.hid hbel
        have HGOOD : Hid (okW (textW s0) = true) := Lib.hid (by rw [hw]; exact okW_good hall hle)
        have HPN : Hid (parseN s0 = setS done) := Lib.hid (by rw [parsed_good HGOOD.out, hw])
        clear hsl hbel hw hall hle
        go_wp2
        go_ret2
        exact ⟨_, by rw [HGOOD.out]; rfl, by rw [HPN.out]; exact HSL.out, HBE.out⟩
end Go.Proofs.YtjfgmgkhinehaaaGreatDoor
