/- The walk of layer 6's alive: the chapter's examples. -/
import Derived.Test.YtcjnhgcopdofhaaDoorUrLaw
namespace Go.Proofs.YtcjnhgcopdofhaaDoor
open Go Go.RowKit

def ex1 : ByteArray := ⟨#[97, 61, 49, 43, 50, 38, 98, 61, 37, 67, 51, 37, 65, 57, 38, 99]⟩
def ex2 : ByteArray := ⟨#[97, 61, 37, 52]⟩
theorem parsed_ex1 : parsedP ex1 = ([(⟨#[97]⟩, ⟨#[49, 32, 50]⟩), (⟨#[98]⟩, ⟨#[195, 169]⟩), (⟨#[99]⟩, ⟨#[]⟩)], 0, -1) := by decide +kernel
theorem parsed_ex2 : parsedP ex2 = ([], 60, 2) := by decide +kernel
theorem printed_ex3 : printedP [(⟨#[120]⟩, ⟨#[97, 32, 98, 38]⟩)] = ([120, 61, 97, 43, 98, 37, 50, 54], 0) := by decide +kernel
theorem alive_one (w : World) (hm : Marks w) (hM : MaxL w) : Calls Tryd.prog 8 #[.string ⟨#[97, 61, 49, 43, 50, 38, 98, 61, 37, 67, 51, 37, 65, 57, 38, 99]⟩] w fun e w' => ∃ b o c, e = .returned (.tuple #[.slice (some ⟨b, o, none⟩) 3 c, .nilIface]) ∧ w'.cell? ⟨b, o + 1, none⟩ = some (.string ⟨#[49, 32, 50]⟩) ∧ w'.cell? ⟨b, o + 2 + 1, none⟩ = some (.string ⟨#[195, 169]⟩) ∧ w'.cell? ⟨b, o + 4, none⟩ = some (.string ⟨#[99]⟩) ∧ Below w.heap.size w w' := by
  refine (parse_all ex1 w hm hM).mono ?_
  rintro e w' ⟨A, c, v, rfl, hl, he, hb⟩
  rw [parsed_ex1] at hl he ⊢
  obtain ⟨b, o, rfl, _, hc⟩ := hl (by simp)
  have hv : v = .nilIface := by
    rcases he with ⟨_, _, h⟩ | ⟨h, _⟩ | ⟨h, _⟩
    · exact h
    · exact absurd rfl h
    · exact absurd rfl h
  subst hv
  exact ⟨b, o, c, rfl, (hc 0 _ rfl).2, (hc 1 _ rfl).2, (hc 2 _ rfl).1, hb⟩
theorem alive_two (w : World) (hm : Marks w) (hM : MaxL w) : Calls Tryd.prog 8 #[.string ⟨#[97, 61, 37, 52]⟩] w fun e w' => ∃ A c v, e = .returned (.tuple #[.slice A 0 c, v]) ∧ ErrTells 60 2 w v w' ∧ Below w.heap.size w w' := by
  refine (parse_all ex2 w hm hM).mono ?_
  rintro e w' ⟨A, c, v, rfl, hl, he, hb⟩
  rw [parsed_ex2] at he ⊢
  exact ⟨A, c, v, rfl, he, hb⟩
theorem alive_three (w : World) (hm : Marks w) : Calls Tryd.prog 14 #[.slice (some ⟨w.heap.size, 0, none⟩) 1 1] (w.alloc (.cells #[.string ⟨#[120]⟩, .string ⟨#[97, 32, 98, 38]⟩] 45)) fun e w' => e = .returned (.tuple #[.string ⟨#[120, 61, 97, 43, 98, 37, 50, 54]⟩, .nilIface]) ∧ Below w.heap.size w w' := by
  have hl : LiesP (w.alloc (.cells #[.string ⟨#[120]⟩, .string ⟨#[97, 32, 98, 38]⟩] 45)) (some ⟨w.heap.size, 0, none⟩) [(⟨#[120]⟩, ⟨#[97, 32, 98, 38]⟩)] := fun _ => ⟨w.heap.size, 0, rfl, by simp, fun i p hi => by
    match i, hi with
    | 0, hi => simp at hi; subst hi; simp⟩
  refine (print_all _ _ 1 1 _ (hm.below (belowAlloc _ _)) rfl (Nat.le_refl _) hl (by intro p hp; simp at hp; subst hp; decide)).mono ?_
  rintro e w' ⟨v, rfl, he, hb⟩
  rw [printed_ex3] at he ⊢
  have hv : v = .nilIface := by
    rcases he with ⟨_, _, h⟩ | ⟨h, _⟩ | ⟨h, _⟩
    · exact h
    · exact absurd rfl h
    · exact absurd rfl h
  subst hv
  exact ⟨rfl, (belowAlloc w _).trans (hb.mono (belowAlloc w _).size)⟩
set_option maxRecDepth 100000 in
set_option maxHeartbeats 2000000 in
theorem alive6_any (w : World) (ha : Ask6 w) : Calls Tryd.prog 7 #[] w fun e w' => e = .returned (.bool true) ∧ Below w.heap.size w w' := by
  have H1 := Lib.hid (alive_one w ha.marks ha.maxl)
  have H2 := Lib.hid (fun (W : World) (hW : Below w.heap.size w W) => alive_two W (ha.marks.below hW) (ha.maxl.below hW))
  have H3 := Lib.hid (fun (W : World) (hW : Below w.heap.size w W) => alive_three W (ha.marks.below hW))
  have HA := Lib.hid ha
  clear ha
  go_enter Tryd.func7, Tryd.ntmps7
  go_wp2_with fail
  refine H1.out.mono ?_
  rintro e w1 ⟨b, o, c, rfl, c1, c2, c3, hb1⟩
  have HC := Lib.hid (And.intro c1 (And.intro c2 c3))
  have HB1 := Lib.hid hb1
  clear c1 c2 c3 hb1
  go_wp2_with fail
  refine (H2.out _ HB1.out).mono ?_
  rintro e w2 ⟨A2, c2', v2, rfl, he, hb2⟩
  have HB2 := Lib.hid hb2
  have HE := Lib.hid he
  have HT2 := Lib.hid (HB1.out.trans (hb2.mono HB1.out.size))
  clear he hb2
  go_wp2_with fail
  refine (H3.out _ HT2.out).mono ?_
  rintro e w3 ⟨rfl, hb3⟩
  have HB3 := Lib.hid hb3
  have HT3 := Lib.hid (HT2.out.trans (hb3.mono HT2.out.size))
  have hb13 := HB2.out.trans (hb3.mono HB2.out.size)
  have d1 := (hb13.cell (p := ⟨b, o + 1, none⟩) (lt_of_cell HC.out.1)).trans HC.out.1
  have d2 := (hb13.cell (p := ⟨b, o + 2 + 1, none⟩) (lt_of_cell HC.out.2.1)).trans HC.out.2.1
  have d3 := (hb13.cell (p := ⟨b, o + 4, none⟩) (lt_of_cell HC.out.2.2)).trans HC.out.2.2
  clear hb3 hb13
  have HNUM := Lib.hid (num_tells HE.out HB3.out (HA.out.tab.below HT3.out))
  have HPOS := Lib.hid (fun (W : World) (hW : Below w3.heap.size w3 W) => pos_tells HE.out (HB3.out.trans (hW.mono HB3.out.size)) (HA.out.tab.below (HT3.out.trans (hW.mono HT3.out.size))))
  go_wp2_with (first
    | (go_at_call 10; (with_reducible refine HNUM.out.mono ?_); rintro e w4 ⟨rfl, hb4⟩; have HB4 := Lib.hid hb4; clear hb4)
    | (go_at_call 11; (with_reducible refine (HPOS.out _ HB4.out).mono ?_); rintro e w5 ⟨rfl, hb5⟩; have HB5 := Lib.hid (HB4.out.trans (hb5.mono HB4.out.size)); clear hb5))
  go_ret
  exact ⟨rfl, HT3.out.trans (HB5.out.mono HT3.out.size)⟩
end Go.Proofs.YtcjnhgcopdofhaaDoor
