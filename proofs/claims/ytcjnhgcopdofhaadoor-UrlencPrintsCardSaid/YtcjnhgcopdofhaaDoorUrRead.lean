/- The walks of urlenc's mayFollow and read. -/
import Derived.Test.YtcjnhgcopdofhaaDoorUrGet
import Derived.Laws.ResultCell
namespace Go.Proofs.YtcjnhgcopdofhaaDoor
open Go Go.RowKit

section
variable (A : Option Addr) (ps : PList) (n c : Nat) (a b : ByteArray) (k : Int) (w : World)
set_option maxRecDepth 100000 in
set_option maxHeartbeats 1000000 in
theorem may_twice (hn : ps.length = n) (hnn : n ≤ 9223372036854775807) (hl : LiesP w A ps) (h : (getB ps a).2 = true) :
    Calls Tryd.prog 24 #[.slice A n c, .agg #[.string a, .string b], .int .i64 k] w fun e w' => ∃ v, e = .returned v ∧ UAtTells k 52 w v w' ∧ Below w.heap.size w w' := by
  have HB0 := Lib.hid (belowAlloc w (.cells #[.string a, .string b] 45))
  have HG := Lib.hid (get_any A ps n c a (w.alloc (.cells #[.string a, .string b] 45)) hn hnn (hl.below (belowAlloc _ _)))
  obtain ⟨t, ht⟩ : ∃ t, t = (getB ps a).1 := ⟨_, rfl⟩
  rw [h, ← ht] at HG
  clear hl hn h ht
  go_enter Tryd.func24, Tryd.ntmps24
  go_wp2_with (first
    | (go_at_call 16; (with_reducible refine HG.out.mono ?_); rintro e w1 ⟨rfl, hb1⟩; have HB1 := Lib.hid (HB0.out.trans (hb1.mono HB0.out.size)); clear hb1)
    | (go_at_call 30; (with_reducible refine (uAt_tells _ _ _).mono ?_); rintro e w2 ⟨v, rfl, hv, hb⟩; have HV := Lib.hid (And.intro hv hb); clear hv hb))
  go_ret
  obtain ⟨b', rfl, h0, h1, h2⟩ := HV.out.1
  exact ⟨_, rfl, ⟨b', rfl, h0, h1, Nat.le_trans HB1.out.size h2⟩, HB1.out.trans (HV.out.2.mono HB1.out.size)⟩
set_option maxRecDepth 100000 in
set_option maxHeartbeats 1000000 in
theorem may_many (hn : ps.length = 32) (hl : LiesP w A ps) (h : (getB ps a).2 = false) :
    Calls Tryd.prog 24 #[.slice A 32 c, .agg #[.string a, .string b], .int .i64 k] w fun e w' => e = .returned (.iface 46 (.int .i64 53)) ∧ Below w.heap.size w w' := by
  have HB0 := Lib.hid (belowAlloc w (.cells #[.string a, .string b] 45))
  have HG := Lib.hid (get_any A ps 32 c a (w.alloc (.cells #[.string a, .string b] 45)) hn (by decide) (hl.below (belowAlloc _ _)))
  obtain ⟨t, ht⟩ : ∃ t, t = (getB ps a).1 := ⟨_, rfl⟩
  rw [h, ← ht] at HG
  clear hl hn h ht
  go_enter Tryd.func24, Tryd.ntmps24
  go_wp2_with (go_at_call 16; (with_reducible refine HG.out.mono ?_); rintro e w1 ⟨rfl, hb1⟩; have HB1 := Lib.hid (HB0.out.trans (hb1.mono HB0.out.size)); clear hb1)
  go_ret
  exact ⟨rfl, HB1.out⟩
set_option maxRecDepth 100000 in
set_option maxHeartbeats 1000000 in
theorem may_ok (hn : ps.length = n) (hnn : n ≤ 9223372036854775807) (hl : LiesP w A ps) (h : (getB ps a).2 = false) (h32 : n ≠ 32) :
    Calls Tryd.prog 24 #[.slice A n c, .agg #[.string a, .string b], .int .i64 k] w fun e w' => e = .returned .nilIface ∧ Below w.heap.size w w' := by
  have HB0 := Lib.hid (belowAlloc w (.cells #[.string a, .string b] 45))
  have HG := Lib.hid (get_any A ps n c a (w.alloc (.cells #[.string a, .string b] 45)) hn hnn (hl.below (belowAlloc _ _)))
  obtain ⟨t, ht⟩ : ∃ t, t = (getB ps a).1 := ⟨_, rfl⟩
  rw [h, ← ht] at HG
  have e32 : ((n : Int) == 32) = false := by rw [beq_eq_false_iff_ne]; omega
  clear hl hn h ht h32
  go_enter Tryd.func24, Tryd.ntmps24
  go_wp2_with (go_at_call 16; (with_reducible refine HG.out.mono ?_); rintro e w1 ⟨rfl, hb1⟩; have HB1 := Lib.hid (HB0.out.trans (hb1.mono HB0.out.size)); clear hb1)
  go_ret
  exact ⟨rfl, HB1.out⟩
end

/-! ### read -/
def zeroP : Value := .agg #[.string ⟨#[]⟩, .string ⟨#[]⟩]
abbrev MaxL (w : World) : Prop := ∃ m, w.cell? ⟨1, 0, none⟩ = some (.int .i64 m)
theorem MaxL.below {w w' : World} (h : MaxL w) (hb : Below w.heap.size w w') : MaxL w' := by
  obtain ⟨m, hm⟩ := h
  exact ⟨m, (hb.cell (p := ⟨1, 0, none⟩) (lt_of_cell hm)).trans hm⟩
theorem cut_any (s : ByteArray) (w : World) (hm : MaxL w) (hs : s.size ≤ 1000000000) :
    Calls Tryd.prog 38 #[.string s, .string ⟨#[61]⟩] w fun e w' => (∃ u, e = .returned (.tuple #[.string (toS (nameL (strL s))), .string (toS (valL (strL s))), .bool u])) ∧ Below w.heap.size w w' := by
  obtain ⟨m, hm⟩ := hm
  refine (Tryd.strings_Cut s ⟨#[61]⟩ m w (by omega) hm).mono ?_
  rintro e w' ⟨rfl, n, rfl⟩
  obtain ⟨h1, h2⟩ := cut_name s.data.toList
  have e1 : (⟨(Lib.cut s.data.toList [61]).1.toArray⟩ : ByteArray) = toS (nameL (strL s)) := (eq_toS (.of_mem fun x hx => (strL_bd s).mem (nameL_mem hx))).2 (by rw [strL_nU s, ← h1]; rfl)
  have e2 : (⟨(Lib.cut s.data.toList [61]).2.1.toArray⟩ : ByteArray) = toS (valL (strL s)) := (eq_toS (.of_mem fun x hx => (strL_bd s).mem (valL_mem hx))).2 (by rw [strL_nU s, ← h2]; rfl)
  refine ⟨⟨(Lib.cut s.data.toList [61]).2.2, ?_⟩, below_drewN (Below.refl _ _) n⟩
  rw [← e1, ← e2]
theorem loose_name_full {p : List Int} (h : looseL p = p.length) : looseL (nameL p) = (nameL p).length ∧ looseL (valL p) = (valL p).length := by
  rcases part_forms p with ⟨_, h1, h2⟩ | ⟨he, hn⟩
  · rw [h1, h2]; exact ⟨h, rfl⟩
  · have h3 := loose_name _ (nameL p) (valL p) (Nat.le_refl _) hn
    rw [← he, h] at h3
    have h4 : p.length = (nameL p).length + 1 + (valL p).length := by
      have := congrArg List.length he
      simp at this; omega
    have := looseL_le (nameL p)
    have := looseL_le (valL p)
    split at h3 <;> omega
theorem cell_set_ne (W : World) (g i : Nat) (x : Value) (q : Addr) (h : q.block ≠ g) : (W.setCell ⟨g, i, none⟩ x).cell? q = W.cell? q := World.cell?_of_block (heap_setCell_other W ⟨g, i, none⟩ q.block x h)
/-- An At that lies above g, where a struct of two cells at g is written. -/
theorem UAtTells.set2 {pos n : Int} {w W0 W : World} {v : Value} {g : Nat} (h : UAtTells pos n W0 v W) (hg : g < W0.heap.size) (hw : w.heap.size ≤ g) (x y : Value) : UAtTells pos n w v ((W.setCell ⟨g, 0, none⟩ x).setCell ⟨g, 1, none⟩ y) := by
  obtain ⟨b, e, h0, h1, h2⟩ := h
  refine ⟨b, e, ?_, ?_, by omega⟩
  · rw [cell_set_ne _ _ _ _ _ (by show b ≠ g; omega), cell_set_ne _ _ _ _ _ (by show b ≠ g; omega)]; exact h0
  · rw [cell_set_ne _ _ _ _ _ (by show b ≠ g; omega), cell_set_ne _ _ _ _ _ (by show b ≠ g; omega)]; exact h1
set_option maxRecDepth 100000 in
set_option maxHeartbeats 2000000 in
theorem read_loose (s : ByteArray) (k : Nat) (w : World) (hs : s.size ≤ 1000000) (hk : k ≤ 1000000000) (hl : looseL (strL s) < (strL s).length) :
    Calls Tryd.prog 23 #[.string s, .int .i64 (k : Int)] w fun e w' => ∃ v, e = .returned (.tuple #[zeroP, v]) ∧ UAtTells ((k + looseL (strL s) : Nat) : Int) 60 w v w' ∧ Below w.heap.size w w' := by
  have HLO := Lib.hid (fun W : World => loose_any s W (by omega))
  have hle := length_strL s
  rw [hle] at hl
  have hf : (looseL (strL s) : Int) < (s.size : Int) := by omega
  obtain ⟨p, hp⟩ : ∃ p, p = looseL (strL s) := ⟨_, rfl⟩
  rw [← hp] at HLO hf ⊢
  have hp6 : p ≤ 1000000 := by omega
  have HC : Hid (((k + p : Nat) : Int) = (k : Int) + (p : Int)) := Lib.hid (by omega)
  have HB0 := Lib.hid (belowAlloc w (.cells #[.string ⟨#[]⟩, .string ⟨#[]⟩] 45))
  clear hl hp hle
  go_enter Tryd.func23, Tryd.ntmps23
  go_wp2_with (first
    | (go_at_call 29; (with_reducible refine (HLO.out _).mono ?_); rintro e w1 ⟨rfl, rfl⟩)
    | (go_at_call 30; (with_reducible refine (uAt_tells _ _ _).mono ?_); rintro e w2 ⟨v, rfl, hv, hb⟩; have hc0 := hb.cell (p := ⟨w.heap.size, 0, none⟩) (by simp); have hc1 := hb.cell (p := ⟨w.heap.size, 1, none⟩) (by simp); have hf0 := hb.frozen (p := ⟨w.heap.size, 0, none⟩) (by simp); have hf1 := hb.frozen (p := ⟨w.heap.size, 1, none⟩) (by simp); have HV := Lib.hid (And.intro hv hb); clear hv hb))
  refine bodyPost_ret (v := .tuple #[zeroP, v]) ?_ rfl ⟨v, rfl, ?_, ?_⟩
  · rw [results_cell_tmp rfl]
    go_simp
    rfl
  · rw [HC.out]; exact HV.out.1.set2 (by simp) (Nat.le_refl _) _ _
  · exact ((HB0.out.trans (HV.out.2.mono HB0.out.size)).setCell (p := ⟨w.heap.size, 0, none⟩) (Nat.le_refl _) _).setCell (p := ⟨w.heap.size, 1, none⟩) (Nat.le_refl _) _
set_option maxRecDepth 100000 in
set_option maxHeartbeats 2000000 in
theorem read_right (s : ByteArray) (k : Nat) (w : World) (hm : Marks w) (hM : MaxL w) (hs : s.size ≤ 1000000) (hk : k ≤ 1000000000) (hl : looseL (strL s) = (strL s).length) (hr : rightP (toS (meanL (nameL (strL s))), toS (meanL (valL (strL s)))) = true) :
    Calls Tryd.prog 23 #[.string s, .int .i64 (k : Int)] w fun e w' => e = .returned (.tuple #[.agg #[.string (toS (meanL (nameL (strL s)))), .string (toS (meanL (valL (strL s))))], .nilIface]) ∧ Below w.heap.size w w' := by
  have HLO := Lib.hid (fun W : World => loose_any s W (by omega))
  have hle := length_strL s
  rw [hl, hle] at HLO
  obtain ⟨l1, l2⟩ := loose_name_full hl
  have b1 : Bytes (nameL (strL s)) := .of_mem fun x hx => (strL_bd s).mem (nameL_mem hx)
  have b2 : Bytes (valL (strL s)) := .of_mem fun x hx => (strL_bd s).mem (valL_mem hx)
  have n1 := nameL_len (strL s)
  have n2 := valL_len (strL s)
  have m1 := (meanL_bytes _ (Nat.le_refl _) b1 l1).2
  have m2 := (meanL_bytes _ (Nat.le_refl _) b2 l2).2
  have HCUT := Lib.hid (fun (W : World) (hW : MaxL W) => cut_any s W hW (by omega))
  have HM1 := Lib.hid (fun W : World => meaning_any (toS (nameL (strL s))) W (by rw [size_toS]; omega) (by rw [strL_toS b1]; exact l1))
  have HM2 := Lib.hid (fun W : World => meaning_any (toS (valL (strL s))) W (by rw [size_toS]; omega) (by rw [strL_toS b2]; exact l2))
  rw [strL_toS b1] at HM1
  rw [strL_toS b2] at HM2
  have HRI := Lib.hid (fun (W : World) (hW : Marks W) => right_any (toS (meanL (nameL (strL s)))) (toS (meanL (valL (strL s)))) W hW (by rw [size_toS]; omega) (by rw [size_toS]; omega))
  have hf : ¬ (s.size : Int) < (s.size : Int) := by omega
  have HB0 := Lib.hid (belowAlloc w (.cells #[.string ⟨#[]⟩, .string ⟨#[]⟩] 45))
  have HMM := Lib.hid (And.intro hm hM)
  obtain ⟨na, hna⟩ : ∃ x, x = toS (nameL (strL s)) := ⟨_, rfl⟩
  obtain ⟨va, hva⟩ : ∃ x, x = toS (valL (strL s)) := ⟨_, rfl⟩
  obtain ⟨nm, hnm⟩ : ∃ x, x = toS (meanL (nameL (strL s))) := ⟨_, rfl⟩
  obtain ⟨vm, hvm⟩ : ∃ x, x = toS (meanL (valL (strL s))) := ⟨_, rfl⟩
  rw [← hna, ← hva] at HCUT
  rw [← hna, ← hnm] at HM1
  rw [← hva, ← hvm] at HM2
  rw [← hnm, ← hvm] at HRI hr ⊢
  clear hna hva hnm hvm hm hM l1 l2 b1 b2 n1 n2 m1 m2 hl hle
  rw [hr] at HRI
  clear hr
  go_enter Tryd.func23, Tryd.ntmps23
  go_wp2_with (go_at_call 29; (with_reducible refine (HLO.out _).mono ?_); rintro e w1 ⟨rfl, rfl⟩)
  refine (HCUT.out _ (HMM.out.2.below HB0.out)).mono ?_
  rintro e w2 ⟨⟨u, rfl⟩, hb⟩
  have HB2 := Lib.hid (HB0.out.trans (hb.mono HB0.out.size))
  have hz0 : w.heap.size < w2.heap.size := by
    have h := hb.size
    simp at h; omega
  have d0 : w2.cell? ⟨w.heap.size, 0, none⟩ = some (.string ⟨#[]⟩) := (hb.cell (p := ⟨w.heap.size, 0, none⟩) (by simp)).trans (by simp)
  have d1 : w2.cell? ⟨w.heap.size, 1, none⟩ = some (.string ⟨#[]⟩) := (hb.cell (p := ⟨w.heap.size, 1, none⟩) (by simp)).trans (by simp)
  have g0 : w2.frozen? ⟨w.heap.size, 0, none⟩ = false := (hb.frozen (p := ⟨w.heap.size, 0, none⟩) (by simp)).trans (by simp)
  have g1 : w2.frozen? ⟨w.heap.size, 1, none⟩ = false := (hb.frozen (p := ⟨w.heap.size, 1, none⟩) (by simp)).trans (by simp)
  have HD := Lib.hid (And.intro hz0 (And.intro d0 (And.intro d1 (And.intro g0 g1))))
  clear hb hz0 d0 d1 g0 g1
  go_wp2_with (first
    | (go_at_call 31; (with_reducible refine (HM1.out _).mono ?_); rintro e w3 ⟨rfl, hb⟩; have HB3 := Lib.hid hb; clear hb)
    | (go_at_call 31; (with_reducible refine (HM2.out _).mono ?_); rintro e w4 ⟨rfl, hb⟩; have HB4 := Lib.hid (HB3.out.trans (hb.mono HB3.out.size)); clear hb))
  have HB5 := Lib.hid (HB4.out.alloc HB4.out.size (.cells #[.string nm, .string vm] 45))
  refine (HRI.out _ (HMM.out.1.below (HB2.out.trans (HB5.out.mono HB2.out.size)))).mono ?_
  rintro e w6 ⟨rfl, hb6⟩
  have HB6 := Lib.hid (HB5.out.trans (hb6.mono HB5.out.size))
  have c0 : w6.cell? ⟨w4.heap.size, 0, none⟩ = some (.string nm) := (hb6.cell (p := ⟨w4.heap.size, 0, none⟩) (by simp)).trans (by simp)
  have c1 : w6.cell? ⟨w4.heap.size, 1, none⟩ = some (.string vm) := (hb6.cell (p := ⟨w4.heap.size, 1, none⟩) (by simp)).trans (by simp)
  have d0 := (HB6.out.cell (p := ⟨w.heap.size, 0, none⟩) HD.out.1).trans HD.out.2.1
  have d1 := (HB6.out.cell (p := ⟨w.heap.size, 1, none⟩) HD.out.1).trans HD.out.2.2.1
  have g0 := (HB6.out.frozen (p := ⟨w.heap.size, 0, none⟩) HD.out.1).trans HD.out.2.2.2.1
  have g1 := (HB6.out.frozen (p := ⟨w.heap.size, 1, none⟩) HD.out.1).trans HD.out.2.2.2.2
  have HB7 := Lib.hid (HB2.out.trans (HB6.out.mono HB2.out.size))
  have hne : w4.heap.size ≠ w.heap.size := by have := HB4.out.size; have := HD.out.1; omega
  clear hb6
  go_wp2
  refine bodyPost_ret (v := .tuple #[.agg #[.string nm, .string vm], .nilIface]) ?_ rfl ⟨rfl, (HB7.out.setCell (p := ⟨w.heap.size, 0, none⟩) (Nat.le_refl _) _).setCell (p := ⟨w.heap.size, 1, none⟩) (Nat.le_refl _) _⟩
  rw [results_cell_tmp rfl]
  go_simp
set_option maxRecDepth 100000 in
set_option maxHeartbeats 2000000 in
theorem read_wrong (s : ByteArray) (k : Nat) (w : World) (hm : Marks w) (hM : MaxL w) (hs : s.size ≤ 1000000) (hk : k ≤ 1000000000) (hl : looseL (strL s) = (strL s).length) (hr : rightP (toS (meanL (nameL (strL s))), toS (meanL (valL (strL s)))) = false) :
    Calls Tryd.prog 23 #[.string s, .int .i64 (k : Int)] w fun e w' => ∃ v, e = .returned (.tuple #[zeroP, v]) ∧ UAtTells (k : Int) 60 w v w' ∧ Below w.heap.size w w' := by
  have HLO := Lib.hid (fun W : World => loose_any s W (by omega))
  have hle := length_strL s
  rw [hl, hle] at HLO
  obtain ⟨l1, l2⟩ := loose_name_full hl
  have b1 : Bytes (nameL (strL s)) := .of_mem fun x hx => (strL_bd s).mem (nameL_mem hx)
  have b2 : Bytes (valL (strL s)) := .of_mem fun x hx => (strL_bd s).mem (valL_mem hx)
  have n1 := nameL_len (strL s)
  have n2 := valL_len (strL s)
  have m1 := (meanL_bytes _ (Nat.le_refl _) b1 l1).2
  have m2 := (meanL_bytes _ (Nat.le_refl _) b2 l2).2
  have HCUT := Lib.hid (fun (W : World) (hW : MaxL W) => cut_any s W hW (by omega))
  have HM1 := Lib.hid (fun W : World => meaning_any (toS (nameL (strL s))) W (by rw [size_toS]; omega) (by rw [strL_toS b1]; exact l1))
  have HM2 := Lib.hid (fun W : World => meaning_any (toS (valL (strL s))) W (by rw [size_toS]; omega) (by rw [strL_toS b2]; exact l2))
  rw [strL_toS b1] at HM1
  rw [strL_toS b2] at HM2
  have HRI := Lib.hid (fun (W : World) (hW : Marks W) => right_any (toS (meanL (nameL (strL s)))) (toS (meanL (valL (strL s)))) W hW (by rw [size_toS]; omega) (by rw [size_toS]; omega))
  have hf : ¬ (s.size : Int) < (s.size : Int) := by omega
  have HB0 := Lib.hid (belowAlloc w (.cells #[.string ⟨#[]⟩, .string ⟨#[]⟩] 45))
  have HMM := Lib.hid (And.intro hm hM)
  obtain ⟨na, hna⟩ : ∃ x, x = toS (nameL (strL s)) := ⟨_, rfl⟩
  obtain ⟨va, hva⟩ : ∃ x, x = toS (valL (strL s)) := ⟨_, rfl⟩
  obtain ⟨nm, hnm⟩ : ∃ x, x = toS (meanL (nameL (strL s))) := ⟨_, rfl⟩
  obtain ⟨vm, hvm⟩ : ∃ x, x = toS (meanL (valL (strL s))) := ⟨_, rfl⟩
  rw [← hna, ← hva] at HCUT
  rw [← hna, ← hnm] at HM1
  rw [← hva, ← hvm] at HM2
  rw [← hnm, ← hvm] at HRI hr
  clear hna hva hnm hvm hm hM l1 l2 b1 b2 n1 n2 m1 m2 hl hle
  rw [hr] at HRI
  clear hr
  go_enter Tryd.func23, Tryd.ntmps23
  go_wp2_with (go_at_call 29; (with_reducible refine (HLO.out _).mono ?_); rintro e w1 ⟨rfl, rfl⟩)
  refine (HCUT.out _ (HMM.out.2.below HB0.out)).mono ?_
  rintro e w2 ⟨⟨u, rfl⟩, hb⟩
  have HB2 := Lib.hid (HB0.out.trans (hb.mono HB0.out.size))
  have hz0 : w.heap.size < w2.heap.size := by
    have h := hb.size
    simp at h; omega
  have d0 : w2.cell? ⟨w.heap.size, 0, none⟩ = some (.string ⟨#[]⟩) := (hb.cell (p := ⟨w.heap.size, 0, none⟩) (by simp)).trans (by simp)
  have d1 : w2.cell? ⟨w.heap.size, 1, none⟩ = some (.string ⟨#[]⟩) := (hb.cell (p := ⟨w.heap.size, 1, none⟩) (by simp)).trans (by simp)
  have g0 : w2.frozen? ⟨w.heap.size, 0, none⟩ = false := (hb.frozen (p := ⟨w.heap.size, 0, none⟩) (by simp)).trans (by simp)
  have g1 : w2.frozen? ⟨w.heap.size, 1, none⟩ = false := (hb.frozen (p := ⟨w.heap.size, 1, none⟩) (by simp)).trans (by simp)
  have HD := Lib.hid (And.intro hz0 (And.intro d0 (And.intro d1 (And.intro g0 g1))))
  clear hb hz0 d0 d1 g0 g1
  go_wp2_with (first
    | (go_at_call 31; (with_reducible refine (HM1.out _).mono ?_); rintro e w3 ⟨rfl, hb⟩; have HB3 := Lib.hid hb; clear hb)
    | (go_at_call 31; (with_reducible refine (HM2.out _).mono ?_); rintro e w4 ⟨rfl, hb⟩; have HB4 := Lib.hid (HB3.out.trans (hb.mono HB3.out.size)); clear hb))
  have HB5 := Lib.hid (HB4.out.alloc HB4.out.size (.cells #[.string nm, .string vm] 45))
  refine (HRI.out _ (HMM.out.1.below (HB2.out.trans (HB5.out.mono HB2.out.size)))).mono ?_
  rintro e w6 ⟨rfl, hb6⟩
  have HB6 := Lib.hid (HB5.out.trans (hb6.mono HB5.out.size))
  have c0 : w6.cell? ⟨w4.heap.size, 0, none⟩ = some (.string nm) := (hb6.cell (p := ⟨w4.heap.size, 0, none⟩) (by simp)).trans (by simp)
  have c1 : w6.cell? ⟨w4.heap.size, 1, none⟩ = some (.string vm) := (hb6.cell (p := ⟨w4.heap.size, 1, none⟩) (by simp)).trans (by simp)
  have d0 := (HB6.out.cell (p := ⟨w.heap.size, 0, none⟩) HD.out.1).trans HD.out.2.1
  have d1 := (HB6.out.cell (p := ⟨w.heap.size, 1, none⟩) HD.out.1).trans HD.out.2.2.1
  have g0 := (HB6.out.frozen (p := ⟨w.heap.size, 0, none⟩) HD.out.1).trans HD.out.2.2.2.1
  have g1 := (HB6.out.frozen (p := ⟨w.heap.size, 1, none⟩) HD.out.1).trans HD.out.2.2.2.2
  have HB7 := Lib.hid (HB2.out.trans (HB6.out.mono HB2.out.size))
  have hne : w4.heap.size ≠ w.heap.size := by have := HB4.out.size; have := HD.out.1; omega
  clear hb6
  clear c0 c1 d0 d1 g0 g1 hne
  go_wp2_with fail
  refine (uAt_tells _ _ _).mono ?_
  rintro e w8 ⟨v, rfl, hv, hb⟩
  have hlt : w.heap.size < w6.heap.size := Nat.lt_of_lt_of_le HD.out.1 HB6.out.size
  have d0 := (hb.cell (p := ⟨w.heap.size, 0, none⟩) hlt).trans ((HB6.out.cell (p := ⟨w.heap.size, 0, none⟩) HD.out.1).trans HD.out.2.1)
  have d1 := (hb.cell (p := ⟨w.heap.size, 1, none⟩) hlt).trans ((HB6.out.cell (p := ⟨w.heap.size, 1, none⟩) HD.out.1).trans HD.out.2.2.1)
  have g0 := (hb.frozen (p := ⟨w.heap.size, 0, none⟩) hlt).trans ((HB6.out.frozen (p := ⟨w.heap.size, 0, none⟩) HD.out.1).trans HD.out.2.2.2.1)
  have g1 := (hb.frozen (p := ⟨w.heap.size, 1, none⟩) hlt).trans ((HB6.out.frozen (p := ⟨w.heap.size, 1, none⟩) HD.out.1).trans HD.out.2.2.2.2)
  have HV := Lib.hid (And.intro hv hb)
  have HLT := Lib.hid hlt
  clear hv hb hlt
  go_wp2
  refine bodyPost_ret (v := .tuple #[zeroP, v]) ?_ rfl ⟨v, rfl, HV.out.1.set2 HLT.out (Nat.le_refl _) _ _, ((HB7.out.trans (HV.out.2.mono HB7.out.size)).setCell (p := ⟨w.heap.size, 0, none⟩) (Nat.le_refl _) _).setCell (p := ⟨w.heap.size, 1, none⟩) (Nat.le_refl _) _⟩
  rw [results_cell_tmp rfl]
  go_simp
  rfl
end Go.Proofs.YtcjnhgcopdofhaaDoor
