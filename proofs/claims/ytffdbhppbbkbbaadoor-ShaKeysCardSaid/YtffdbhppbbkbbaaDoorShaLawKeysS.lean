/- The walk of the law ShaKeys at a key of fewer than 64 bytes. -/
import Derived.Test.YtffdbhppbbkbbaaDoorShaLawKeys
namespace Go.Proofs.YtffdbhppbbkbbaaDoor
open Go Go.RowKit

set_option maxRecDepth 100000 in
set_option maxHeartbeats 8000000 in
theorem lawKeys_short (key s : ByteArray) (w : World) (hk : key.size ≤ 5000) (hs : s.size ≤ 20000) (htab : Tabs w) (h64 : key.size < 64) :
    Calls Tryd.prog 7 #[.string key, .string s] w fun e w' => e = .returned (.bool true) ∧ Below w.heap.size w w' := by
  have hal := alive_any w htab
  have HT := Lib.hid htab
  have hmac := fun (A B : Option Addr) (c d : Nat) (W : World) (hc : key.size ≤ c) (hd : s.size ≤ d) (hl : Lies W A (strL key)) (hl2 : Lies W B (strL s)) (hB : Below w.heap.size w W) => mac_str A B c d key s W (by omega) (by omega) hc hd hl hl2 (htab.below hB)
  obtain ⟨M, hM⟩ : ∃ M, M = macL (strL key) (strL s) := ⟨_, rfl⟩
  have HM32 := Lib.hid (show M.length = 32 by rw [hM, length_macL])
  rw [← hM] at hmac
  obtain ⟨k2, hk2⟩ : ∃ k, key ++ ⟨#[0]⟩ = k := ⟨_, rfl⟩
  have hk2s : k2.size = key.size + 1 := by rw [← length_strL, ← hk2, strL_push, List.length_append, length_strL]; rfl
  have hk2L : macL (strL k2) (strL s) = M := by rw [← hk2, strL_push, hM]; exact mac_short _ _ (by rw [length_strL]; exact h64)
  have hmac2 := fun (A B : Option Addr) (c d : Nat) (W : World) (hc : k2.size ≤ c) (hd : s.size ≤ d) (hl : Lies W A (strL k2)) (hl2 : Lies W B (strL s)) (hB : Below w.heap.size w W) => mac_str A B c d k2 s W (by omega) (by omega) hc hd hl hl2 (htab.below hB)
  rw [hk2L] at hmac2
  have heq := fun (W : World) => eql32 M HM32.out W
  have hdec : (((key.size : Nat) : Int) == 64) = false := by simp; omega
  have hconv := fun (W : World) (s : ByteArray) => Lib.run_convert_string_bytes (P := Tryd.prog) W 9 26 5 s Tryd.underlying9 Tryd.underlying26 Tryd.underlying5
  have HK2 := Lib.hid (fun _ : Unit => hk2)
  clear hk2L
  clear hM htab
  go_enter Tryd.func7, Tryd.ntmps7
  go_wp2_with (first
    | (go_at_call 8; refine hal.mono ?_; rintro e w1 ⟨rfl, hB1⟩)
    | (refine wpList_convert_str rfl (some 18) rfl _ _ 5 (.tmp 17) rfl key rfl Tryd.underlying9 Tryd.underlying26 Tryd.underlying5 ?_; intro A1 c1 w2 hl1 hc1 hb; have hB2 := hB1.trans (hb.mono hB1.size); clear hb; try go_frame)
    | (refine wpList_convert_str rfl (some 20) rfl _ _ 5 (.tmp 19) rfl s rfl Tryd.underlying9 Tryd.underlying26 Tryd.underlying5 ?_; intro A2 c2 w3 hl2 hc2 hb; have hB3 := hB2.trans (hb.mono hB2.size); have hl1' := hl1.below hb; clear hb hl1; try go_frame)
    | (go_at_call 12; refine (hmac A1 A2 c1 c2 w3 hc1 hc2 hl1' hl2 hB3).mono ?_; rintro e w4 ⟨rfl, hb⟩; have hB4 := hB3.trans (hb.mono hB3.size); clear hb hl1' hl2)
    | (refine wpList_alloc_blk rfl (some 5) rfl _ rfl _ z24 ?_; intro g5 w5 hg5 hb5 hgr; have h5B : w.heap.size ≤ g5 := Nat.le_trans hB4.size hg5; have hB5 := hB4.grown hgr hB4.size (by simp); clear hgr; try go_frame)
    | (refine wpList_store_blk rfl none rfl _ (.tmp 5) (.tmp 21) rfl g5 0 (ints .u8 M) rfl rfl _ _ hb5 (by simp [HM32.out]) (by rw [s24, length_ints, HM32.out]) (one_ints _ _) ?_; intro w6 hb6 hgr; rw [splice_all _ _ (by simp [HM32.out])] at hb6; have hB6 := hB5.grown hgr hB5.size (by intro k hk; injection hk with hk; omega); clear hgr; try go_frame))
  have u24 := Tryd.underlying24
  have hi24 : (Tryd.prog.info? 24).map (·.size) = some (ints .u8 M).length := by rw [s24, length_ints, HM32.out]
  have hr0 : w6.drew.rangeAt g5 0 (ints .u8 M) := hb6.drew.range 0 _ (by simp)
  have bA := belowBytes w6.drew 5 k2
  have bA2 := belowBytes (Lib.bytesWorld w6.drew 5 k2) 5 s
  have bB := belowBytes w6.drew 5 s
  have bB2 := belowBytes (Lib.bytesWorld w6.drew 5 s) 5 k2
  have BA : Below w.heap.size w (Lib.bytesWorld (Lib.bytesWorld w6.drew 5 k2) 5 s) := hB6.drew.trans ((bA.trans (bA2.mono bA.size)).mono hB6.size)
  have BB : Below w.heap.size w (Lib.bytesWorld (Lib.bytesWorld w6.drew 5 s) 5 k2) := hB6.drew.trans ((bB.trans (bB2.mono bB.size)).mono hB6.size)
  have mA := hmac2 _ _ _ _ (Lib.bytesWorld (Lib.bytesWorld w6.drew 5 k2) 5 s) (grownCap_ge w6.drew k2.size 0 5) (grownCap_ge (Lib.bytesWorld w6.drew 5 k2) s.size 0 5) ((liesBytes w6.drew 5 k2).below bA2) (liesBytes _ 5 s) BA
  have mB := hmac2 _ _ _ _ (Lib.bytesWorld (Lib.bytesWorld w6.drew 5 s) 5 k2) (grownCap_ge (Lib.bytesWorld w6.drew 5 s) k2.size 0 5) (grownCap_ge w6.drew s.size 0 5) (liesBytes _ 5 k2) ((liesBytes w6.drew 5 s).below bB2) BB
  have rA1 := hb6.drew.below bA hb6.lt
  have rA := rA1.below bA2 rA1.lt
  have rB1 := hb6.drew.below bB hb6.lt
  have rB := rB1.below bB2 rB1.lt
  have edr : w6.drew.heap.size = w6.heap.size := rfl
  rw [edr] at mA mB
  have HA := Lib.hid (And.intro rA1 (And.intro rA BA))
  have HB := Lib.hid (And.intro rB1 (And.intro rB BB))
  clear hmac hmac2 hal bA bA2 bB bB2 BA BB rA rB rA1 rB1 hk2s hb6 hb5 edr
  have hcap : ¬ (9223372036854775807 < key.size + 1) := by omega
  refine wp_region_held_drew (S := fun W => W.rangeAt g5 0 (ints .u8 M)) (by kernel_rfl) hr0 (fun hHeld => ?_)
  refine wpAnyH_take (i := 0) (v := ?v1) rfl (by kernel_rfl) (by kernel_rfl) (by kernel_rfl) (fun _ _ _ h => h) (Or.inl ⟨by rfl, ?hy1⟩) (by assumption) ?rest1
  case hy1 => (intro w hSw; first | (go_simp; done) | (go_simp; with_reducible rfl))
  try simp only [List.getElem_toArray, List.getElem_cons_succ, List.getElem_cons_zero, Act.put, List.setIfInBounds_toArray, List.set_cons_zero, List.set_cons_succ]
  refine wpAnyH_take (i := 1) (v := ?v2) rfl (by kernel_rfl) (by kernel_rfl) (by kernel_rfl) (fun _ _ _ h => h) (Or.inl ⟨by rfl, ?hy2⟩) (by assumption) ?rest2
  case hy2 => (intro w hSw; first | (go_simp; done) | (go_simp; with_reducible rfl))
  try simp only [List.getElem_toArray, List.getElem_cons_succ, List.getElem_cons_zero, Act.put, List.setIfInBounds_toArray, List.set_cons_zero, List.set_cons_succ]
  refine wpAnyH_take (i := 2) (v := ?v3) rfl (by kernel_rfl) (by kernel_rfl) (by kernel_rfl) (fun _ _ _ h => h) (Or.inl ⟨by rfl, ?hy3⟩) (by assumption) ?rest3
  case hy3 => (intro w hSw; first | (go_simp; done) | (go_simp; with_reducible rfl))
  try simp only [List.getElem_toArray, List.getElem_cons_succ, List.getElem_cons_zero, Act.put, List.setIfInBounds_toArray, List.set_cons_zero, List.set_cons_succ]
  refine wpAnyH_take (i := 3) (v := ?v4) rfl (by kernel_rfl) (by kernel_rfl) (by kernel_rfl) (fun _ _ _ h => h) (Or.inl ⟨by rfl, ?hy4⟩) (by assumption) ?rest4
  case hy4 => (intro w hSw; first | (go_simp; done) | (go_simp; with_reducible rfl))
  try simp only [List.getElem_toArray, List.getElem_cons_succ, List.getElem_cons_zero, Act.put, List.setIfInBounds_toArray, List.set_cons_zero, List.set_cons_succ]
  refine wpAnyH_take (i := 10) (v := .agg (ints .u8 M).toArray) rfl (by kernel_rfl) (by kernel_rfl) (by kernel_rfl) (fun _ _ _ h => h) (yieldsIf_load_mid (by rfl) 24 (.tmp 5) rfl g5 0 rfl (ints .u8 M) _ (fun _ h => h) u24 rfl hi24) (by assumption) ?_
  try simp only [List.getElem_toArray, List.getElem_cons_succ, List.getElem_cons_zero, Act.put, List.setIfInBounds_toArray, List.set_cons_zero, List.set_cons_succ]
  refine wpAnyH_take (i := 4) (v := ?v5) rfl (by kernel_rfl) (by kernel_rfl) (by kernel_rfl) (fun _ _ _ h => h) (Or.inl ⟨by rfl, ?hy5⟩) (by assumption) ?rest5
  case hy5 => (intro w hSw; first | (go_simp; done) | (go_simp; with_reducible rfl))
  try simp only [List.getElem_toArray, List.getElem_cons_succ, List.getElem_cons_zero, Act.put, List.setIfInBounds_toArray, List.set_cons_zero, List.set_cons_succ]
  refine wpAnyH_take (i := 5) (v := ?v6) rfl (by kernel_rfl) (by kernel_rfl) (by kernel_rfl) (fun _ _ _ h => h) (Or.inl ⟨by rfl, ?hy6⟩) (by assumption) ?rest6
  case hy6 => (intro w hSw; first | (go_simp; done) | (go_simp; with_reducible rfl))
  try simp only [List.getElem_toArray, List.getElem_cons_succ, List.getElem_cons_zero, Act.put, List.setIfInBounds_toArray, List.set_cons_zero, List.set_cons_succ]
  refine wpAnyH_take (i := 7) (v := ?v7) rfl (by kernel_rfl) (by kernel_rfl) (by kernel_rfl) (fun _ _ _ h => h) (Or.inl ⟨by rfl, ?hy7⟩) (by assumption) ?rest7
  case hy7 => (intro w hSw; first | (go_simp; done) | (go_simp; with_reducible rfl))
  try simp only [List.getElem_toArray, List.getElem_cons_succ, List.getElem_cons_zero, Act.put, List.setIfInBounds_toArray, List.set_cons_zero, List.set_cons_succ]
  refine wpAnyH_ready (rs := [6, 8]) (by kernel_rfl) (by simp) ?_
  refine AllReadyH.cons rfl (fun K hK => ?_) (AllReadyH.cons rfl (fun K hK => ?_) AllReadyH.nil)
  · go_simp
    refine hK.out _ _ (HA.out.1.range 0 _ (by simp)) (fun hHeld => ?_)
    clear hK K
    try simp only [List.getElem_toArray, List.getElem_cons_succ, List.getElem_cons_zero, Act.put, List.setIfInBounds_toArray, List.set_cons_zero, List.set_cons_succ]
    refine wpAnyH_ready (rs := [8]) (by kernel_rfl) (by simp) ?_
    refine AllReadyH.cons rfl (fun K hK => ?_) AllReadyH.nil
    go_simp
    refine hK.out _ _ (HA.out.2.1.range 0 _ (by simp)) (fun hHeld => ?_)
    clear hK K
    try simp only [List.getElem_toArray, List.getElem_cons_succ, List.getElem_cons_zero, Act.put, List.setIfInBounds_toArray, List.set_cons_zero, List.set_cons_succ]
    refine wpAnyH_ready (rs := [9]) (by kernel_rfl) (by simp) ?_
    refine AllReadyH.cons rfl (fun K hK => ?_) AllReadyH.nil
    go_simp
    go_at_call 12
    refine mA.mono ?_
    rintro e wc ⟨rfl, hbw⟩
    refine hK.out _ _ ((HA.out.2.1.below hbw HA.out.2.1.lt).range 0 _ (by simp)) (fun hHeld3 => ?_)
    have hBc := HA.out.2.2.trans (hbw.mono HA.out.2.2.size)
    clear hK K
    try simp only [List.getElem_toArray, List.getElem_cons_succ, List.getElem_cons_zero, Act.put, List.setIfInBounds_toArray, List.set_cons_zero, List.set_cons_succ]
    refine wpAnyH_take (i := 11) (v := ?v8) rfl (by kernel_rfl) (by kernel_rfl) (by kernel_rfl) (fun _ _ _ h => h) (Or.inl ⟨by rfl, ?hy8⟩) (by assumption) ?rest8
    case hy8 => (intro w hSw; first | (go_simp; done) | (go_simp; with_reducible rfl))
    try simp only [List.getElem_toArray, List.getElem_cons_succ, List.getElem_cons_zero, Act.put, List.setIfInBounds_toArray, List.set_cons_zero, List.set_cons_succ]
    refine wpAnyH_take (i := 12) (v := ?v9) rfl (by kernel_rfl) (by kernel_rfl) (by kernel_rfl) (fun _ _ _ h => h) (Or.inl ⟨by rfl, ?hy9⟩) (by assumption) ?rest9
    case hy9 => (intro w hSw; first | (go_simp; done) | (go_simp; with_reducible rfl))
    try simp only [List.getElem_toArray, List.getElem_cons_succ, List.getElem_cons_zero, Act.put, List.setIfInBounds_toArray, List.set_cons_zero, List.set_cons_succ]
    refine wpAnyH_take (i := 13) (v := ?v10) rfl (by kernel_rfl) (by kernel_rfl) (by kernel_rfl) (fun _ _ _ h => h) (Or.inl ⟨by rfl, ?hy10⟩) (by assumption) ?rest10
    case hy10 => (intro w hSw; first | (go_simp; done) | (go_simp; with_reducible rfl))
    try simp only [List.getElem_toArray, List.getElem_cons_succ, List.getElem_cons_zero, Act.put, List.setIfInBounds_toArray, List.set_cons_zero, List.set_cons_succ]
    refine wpAnyH_done (by kernel_rfl) ?_ _
    go_wp2_with fail
    go_ret
    exact ⟨rfl, hBc⟩
  · go_simp
    refine hK.out _ _ (HB.out.1.range 0 _ (by simp)) (fun hHeld => ?_)
    clear hK K
    try simp only [List.getElem_toArray, List.getElem_cons_succ, List.getElem_cons_zero, Act.put, List.setIfInBounds_toArray, List.set_cons_zero, List.set_cons_succ]
    refine wpAnyH_ready (rs := [6]) (by kernel_rfl) (by simp) ?_
    refine AllReadyH.cons rfl (fun K hK => ?_) AllReadyH.nil
    go_simp
    refine hK.out _ _ (HB.out.2.1.range 0 _ (by simp)) (fun hHeld => ?_)
    clear hK K
    try simp only [List.getElem_toArray, List.getElem_cons_succ, List.getElem_cons_zero, Act.put, List.setIfInBounds_toArray, List.set_cons_zero, List.set_cons_succ]
    refine wpAnyH_ready (rs := [9]) (by kernel_rfl) (by simp) ?_
    refine AllReadyH.cons rfl (fun K hK => ?_) AllReadyH.nil
    go_simp
    go_at_call 12
    refine mB.mono ?_
    rintro e wc ⟨rfl, hbw⟩
    refine hK.out _ _ ((HB.out.2.1.below hbw HB.out.2.1.lt).range 0 _ (by simp)) (fun hHeld3 => ?_)
    have hBc := HB.out.2.2.trans (hbw.mono HB.out.2.2.size)
    clear hK K
    try simp only [List.getElem_toArray, List.getElem_cons_succ, List.getElem_cons_zero, Act.put, List.setIfInBounds_toArray, List.set_cons_zero, List.set_cons_succ]
    refine wpAnyH_take (i := 11) (v := ?v11) rfl (by kernel_rfl) (by kernel_rfl) (by kernel_rfl) (fun _ _ _ h => h) (Or.inl ⟨by rfl, ?hy11⟩) (by assumption) ?rest11
    case hy11 => (intro w hSw; first | (go_simp; done) | (go_simp; with_reducible rfl))
    try simp only [List.getElem_toArray, List.getElem_cons_succ, List.getElem_cons_zero, Act.put, List.setIfInBounds_toArray, List.set_cons_zero, List.set_cons_succ]
    refine wpAnyH_take (i := 12) (v := ?v12) rfl (by kernel_rfl) (by kernel_rfl) (by kernel_rfl) (fun _ _ _ h => h) (Or.inl ⟨by rfl, ?hy12⟩) (by assumption) ?rest12
    case hy12 => (intro w hSw; first | (go_simp; done) | (go_simp; with_reducible rfl))
    try simp only [List.getElem_toArray, List.getElem_cons_succ, List.getElem_cons_zero, Act.put, List.setIfInBounds_toArray, List.set_cons_zero, List.set_cons_succ]
    refine wpAnyH_take (i := 13) (v := ?v13) rfl (by kernel_rfl) (by kernel_rfl) (by kernel_rfl) (fun _ _ _ h => h) (Or.inl ⟨by rfl, ?hy13⟩) (by assumption) ?rest13
    case hy13 => (intro w hSw; first | (go_simp; done) | (go_simp; with_reducible rfl))
    try simp only [List.getElem_toArray, List.getElem_cons_succ, List.getElem_cons_zero, Act.put, List.setIfInBounds_toArray, List.set_cons_zero, List.set_cons_succ]
    refine wpAnyH_done (by kernel_rfl) ?_ _
    go_wp2_with fail
    go_ret
    exact ⟨rfl, hBc⟩
end Go.Proofs.YtffdbhppbbkbbaaDoor
