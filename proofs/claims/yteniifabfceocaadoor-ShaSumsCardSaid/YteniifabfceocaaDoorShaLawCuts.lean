/- The walk of the law ShaCuts. -/
import Derived.Test.YteniifabfceocaaDoorShaCutsKit
import Derived.BigQuiet
namespace Go.Proofs.YteniifabfceocaaDoor
open Go Go.RowKit

theorem info26 : (Tryd.prog.info? 26).map (fun i => (i.zero, i.size, i.bytes)) = some (some (.slice none 0 0), 1, 24) := by kernel_rfl
/-- The argument reads as the strings ss. -/
def StrsAt (w : World) (P : Option Addr) (n : Nat) (ss : List ByteArray) : Prop := 0 < n → ∃ a, P = some a ∧ a.block < w.heap.size ∧ ∀ i, i < n → w.cell? (a.add i) = some (.string (ss.getD i ByteArray.empty))
set_option maxRecDepth 100000 in
theorem cuts_many (P : Option Addr) (n c : Nat) (w : World) (htab : Tabs w) (hn : n ≤ 9223372036854775807) (h : 100 < n) :
    Calls Tryd.prog 5 #[.slice P n c] w fun e w' => e = .returned (.bool true) ∧ Below w.heap.size w w' := by
  have hal := alive_any w htab
  go_enter Tryd.func5, Tryd.ntmps5
  go_wp2_with (go_at_call 10; refine hal.mono ?_; rintro e w1 ⟨rfl, hB1⟩)
  go_ret
  exact ⟨rfl, hB1⟩
theorem write_str (g : Nat) (X : List Int) (s : ByteArray) (w : World) (hrep : HRep w g X) (hn : X.length + s.size < 2305843009213693952) (htab : Tabs w) :
    Calls Tryd.prog 16 #[.pointer (some ⟨g, 0, none⟩), .slice (some ⟨w.heap.size, 0, none⟩) s.size (grownCap w s.size 0 5)] (Lib.bytesWorld w 5 s) fun e w' => e = .returned (.tuple #[]) ∧ HRep w' g (X ++ strL s) ∧ (Lib.bytesWorld w 5 s).grownBy w' (some g) := by
  have hg : g < w.heap.size := by obtain ⟨_, _, _, hb⟩ := hrep; exact hb.lt
  have := write_any g X (strL s) (some ⟨w.heap.size, 0, none⟩) (grownCap w s.size 0 5) (Lib.bytesWorld w 5 s) (strL_bd s) (by rw [length_strL]; exact grownCap_ge w s.size 0 5) (by rw [length_strL]; exact hn) (hrep.below (belowBytes w _ s)) ((row5Bytes w s).src (by omega)) (htab.below (belowBytes w _ s))
  rw [length_strL] at this
  exact this
theorem sum_str (s : ByteArray) (w : World) (hn : s.size < 2305843009213693952) (htab : Tabs w) :
    Calls Tryd.prog 12 #[.slice (some ⟨w.heap.size, 0, none⟩) s.size (grownCap w s.size 0 5)] (Lib.bytesWorld w 5 s) fun e w' => e = .returned (.agg (ints .u8 (digestL (strL s))).toArray) ∧ Below w.heap.size w w' := by
  have := sum_any (some ⟨w.heap.size, 0, none⟩) (grownCap w s.size 0 5) (strL s) (Lib.bytesWorld w 5 s) (by rw [length_strL]; exact grownCap_ge w s.size 0 5) (by rw [length_strL]; exact hn) (strL_bd s) (row5Bytes w s).lies (htab.below (belowBytes w _ s))
  rw [length_strL] at this
  exact this.mono fun e w' h => ⟨h.1, (belowBytes w _ s).trans (h.2.mono (belowBytes w _ s).size)⟩
set_option maxRecDepth 100000 in
set_option maxHeartbeats 4000000 in
theorem cuts_few (P : Option Addr) (n c : Nat) (ss : List ByteArray) (w : World) (htab : Tabs w) (hn : n ≤ 100) (hss : n ≤ ss.length) (hsz : ∀ i, (ss.getD i ByteArray.empty).size ≤ 9223372036854775807) (hat : StrsAt w P n ss) :
    Calls Tryd.prog 5 #[.slice P n c] w fun e w' => e = .returned (.bool true) ∧ Below w.heap.size w w' := by
  have HAL := Lib.hid (alive_any w htab)
  obtain ⟨i0, hi0, hz0, hz1, hz2⟩ := info_parts info26
  have HT := Lib.hid htab
  have HAT := Lib.hid hat
  have HSZ := Lib.hid hsz
  clear htab hat hsz
  go_enter Tryd.func5, Tryd.ntmps5
  go_wp2_with (first
    | (go_at_call 10; refine HAL.out.mono ?_; rintro e w1 ⟨rfl, hB1⟩; have HB1 := Lib.hid hB1; clear hB1)
    | (refine wpList_alloc_blk rfl (some 3) rfl _ rfl _ z38 ?_; intro g w2 hg hb hgr; have HG2 := Lib.hid (And.intro hg (And.intro hb hgr)); clear hg hb hgr; try go_frame))
  obtain ⟨B, hB⟩ : ∃ B, B = w2.heap.size := ⟨_, rfl⟩
  have HS0 : Hid (ST w B g [] [] (.slice none 0 0) w2) := Lib.hid {
    rep := ⟨_, _, HOk.zero, HG2.out.2.1⟩
    parts := fun p hp => by cases hp
    own := World.ownsRow_nil _ _ _ _
    bel := HB1.out.grown HG2.out.2.2 HB1.out.size (by simp)
    size := by omega
    lt := by rw [hB]; exact HG2.out.2.1.lt
    ge := Nat.le_trans HB1.out.size HG2.out.1 }
  clear hB HG2 HB1 HAL
  go_loopw [5, 6, 7] (fun a v i wr => ∃ (k : Nat) (S : ByteArray) (ps : List Part), k ≤ n ∧ i = .int .i64 k ∧ a = .string S ∧ strL S = cat ss k ∧ S.size ≤ 3000 * k ∧ ps.length = k ∧ flat ps = cat ss k ∧ ST w B g (cat ss k) ps v wr) (fun _ _ i _ => n - (intOf i).toNat)
  case atStart => exact ⟨0, ⟨#[]⟩, [], by omega, rfl, rfl, rfl, by decide, rfl, rfl, HS0.out⟩
  case round =>
    clear HS0
    obtain ⟨k, S, ps, hk, rfl, rfl, hS, hSs, hpl, hfl, hst⟩ := hrel
    have H := Lib.hid (And.intro hS (And.intro hpl (And.intro hfl hst)))
    clear hS hpl hfl hst
    by_cases hlt : k < n
    · obtain ⟨a, rfl, hab, hcl⟩ := HAT.out (by omega)
      have HC : Hid (∀ W, Below w.heap.size w W → W.cell? (a.add k) = some (.string (ss.getD k ByteArray.empty))) := Lib.hid fun W hW => (hW.cell (p := a.add k) (by have : (a.add k).block = a.block := (by unfold Addr.add; split <;> rfl); omega)).trans (hcl k hlt)
      have hs0 := HSZ.out k
      have HCS := Lib.hid (cat_succ ss k (by omega))
      obtain ⟨s, hs⟩ : ∃ s, s = ss.getD k ByteArray.empty := ⟨_, rfl⟩
      rw [← hs] at HC hs0 HCS
      have hc1 := HC.out wr H.out.2.2.2.bel
      clear hs hcl
      by_cases hbig : 3000 < s.size
      · have HF := Lib.hid H.out.2.2.2.bel
        go_wp2_with fail
        go_ret
        exact ⟨rfl, HF.out⟩
      · obtain ⟨S2, hS2⟩ : ∃ S2, S ++ s = S2 := ⟨_, rfl⟩
        have hS2s : S2.size ≤ 3000 * (k + 1) := by rw [← hS2, ByteArray.size_append]; omega
        have HS2 : Hid (strL S2 = cat ss (k + 1)) := Lib.hid (by rw [← hS2, strL_append, H.out.1, HCS.out])
        have hconv := fun (W : World) => Lib.run_convert_string_bytes (P := Tryd.prog) W 9 26 5 s Tryd.underlying9 Tryd.underlying26 Tryd.underlying5
        have hconv2 := fun (W : World) => Lib.run_convert_string_bytes (P := Tryd.prog) W 9 26 5 S2 Tryd.underlying9 Tryd.underlying26 Tryd.underlying5
        go_wp2_with fail
        refine (write_str g (cat ss k) s wr H.out.2.2.2.rep (by rw [← H.out.1, length_strL]; omega) (H.out.2.2.2.tabs HT.out)).mono ?_
        rintro e w2 ⟨rfl, hrep, hgr⟩
        rw [← HCS.out] at hrep
        have HS2' := Lib.hid ((H.out.2.2.2.below (belowBytes wr _ s)).write hrep hgr)
        have hc2 := HC.out w2 HS2'.out.bel
        clear hrep hgr
        go_wp2_with fail
        refine (writeNil_any _ _).mono ?_
        rintro e w3 ⟨rfl, hw3⟩
        have HS3 : Hid (ST w B g (cat ss (k + 1)) ps u6 w3) := Lib.hid (by rw [← hw3]; exact HS2'.out.below (belowBytes w2 _ s))
        have hc3 := HC.out w3 HS3.out.bel
        clear hw3
        obtain ⟨b3, hb3⟩ : ∃ b, b = w3.heap.size := ⟨_, rfl⟩
        obtain ⟨c3, hc3c⟩ : ∃ c, c = grownCap w3 s.size 0 5 := ⟨_, rfl⟩
        obtain ⟨q, hq⟩ : ∃ q : Part, q = (some ⟨b3, 0, none⟩, c3, strL s) := ⟨_, rfl⟩
        have HQV : Hid (Value.slice (some ⟨b3, 0, none⟩) s.size c3 = q.val) := Lib.hid (by
          subst hq
          show Value.slice _ s.size _ = Value.slice _ (strL s).length _
          rw [length_strL])
        have HQ : Hid (PartR (Lib.bytesWorld w3 5 s) q ∧ q.2.2 = strL s) := Lib.hid (by
          rw [hq, hb3, hc3c]; exact ⟨⟨w3.heap.size, rfl, row5Bytes w3 s, by rw [length_strL]; exact grownCap_ge w3 s.size 0 5, strL_bd s⟩, rfl⟩)
        have HS4 := Lib.hid (HS3.out.below (belowBytes w3 5 s))
        have hconv3 := hconv w3
        rw [← hb3, ← hc3c] at hconv3
        obtain ⟨w4, hw4⟩ : ∃ w4, w4 = Lib.bytesWorld w3 5 s := ⟨_, rfl⟩
        rw [← hw4] at hconv3 HQ HS4
        have hsz4 : B ≤ w4.heap.size := HS4.out.size
        have HPL := H.out.2.1
        have HPLh := Lib.hid HPL
        clear hq hb3 hc3c hw4 hconv HPL
        go_wp2_with (first
          | (at_builtin; refine wpList_append_own _ rfl (.tmp 44) (.tmp 50) 40 rfl B 26 i0 (.slice none 0 0) 1 24 Tryd.underlying40 hi0 hz0 hz1 hz2 rfl (by decide) _ ps.length _ rfl (HS4.out.own.alloc _) ⟨w4.heap.size, 0, none⟩ 1 1 [.slice (some ⟨b3, 0, none⟩) s.size c3] rfl rfl ?c1 ?c2 ?c3 ?c4 ?c5 ?_))
        case c1 => exact cell_one_new _ _ _
        case c2 => intro u hu; rw [List.mem_singleton.1 hu]; rfl
        case c3 => have := HPLh.out; unfold maxLen; omega
        case c4 => have := HPLh.out; omega
        case c5 => simp; omega
        intro v' w6 hown' hgr _
        rw [HQV.out] at hown'
        have HS6 := Lib.hid (HS4.out.push _ HQ.out.1 hown' hgr)
        clear hown' hgr
        go_wp2_with fail
        refine (hsum_any g (cat ss (k + 1)) w6 (by rw [← HS2.out, length_strL]; omega) HS6.out.rep (HS6.out.tabs HT.out)).mono ?_
        rintro e w7 ⟨rfl, hb7⟩
        have HS7 := Lib.hid (HS6.out.below hb7)
        clear hb7
        go_wp2_with fail
        have hsum := sum_str S2 w7 (by omega) (HS7.out.tabs HT.out)
        rw [HS2.out] at hsum
        refine hsum.mono ?_
        rintro e w9 ⟨rfl, hb9⟩
        have HS9 := Lib.hid (HS7.out.below hb9)
        clear hsum hb9
        obtain ⟨D, hD⟩ : ∃ D, D = digestL (cat ss (k + 1)) := ⟨_, rfl⟩
        have hneq := fun (W : World) => neq32 D (by rw [hD, length_digestL]) W
        rw [← hD]
        clear hD
        go_wp2_with fail
        go_roundw
        case rel => exact ⟨k + 1, S2, ps ++ [q], by omega, by go_num, rfl, HS2.out, hS2s, by rw [List.length_append, HPLh.out]; rfl, by rw [flat_snoc, H.out.2.2.1, HQ.out.2, HCS.out], HS9.out⟩
        case measure => simp [intOf]; omega
    · obtain rfl : k = n := by omega
      have hconv2 := fun (W : World) => Lib.run_convert_string_bytes (P := Tryd.prog) W 9 26 5 S Tryd.underlying9 Tryd.underlying26 Tryd.underlying5
      have hlen : (cat ss k).length ≤ 300000 := by rw [← H.out.1, length_strL]; omega
      obtain ⟨Pl, cl, rfl, hPl⟩ : ∃ (Pl : Option Addr) (cl : Nat), u6 = .slice Pl ps.length cl ∧ ∀ W, Below wr.heap.size wr W → PartsAt W Pl ps := by
        rcases H.out.2.2.2.own.2 with ⟨rfl, h0⟩ | ⟨g2, cap, cur, rfl, hh⟩
        · exact ⟨none, 0, by rw [h0], fun W _ hp => absurd hp (by omega)⟩
        · refine ⟨_, cap, rfl, fun W hW hp => ⟨g2, 0, rfl, ?_, fun j p hj => ?_⟩⟩
          · exact Nat.lt_of_lt_of_le (H.out.2.2.2.own.lt g2 rfl).2 hW.size
          · have hjl := (List.getElem?_eq_some_iff.1 hj).1
            rw [Nat.zero_add, hW.cell (p := ⟨g2, j, none⟩) (H.out.2.2.2.own.lt g2 rfl).2, H.out.2.2.2.own.cellAt j (by omega), List.getElem?_map, hj]
            rfl
      have HPl := Lib.hid hPl
      obtain ⟨D, hD⟩ : ∃ D, D = digestL (cat ss k) := ⟨_, rfl⟩
      obtain ⟨D0, hD0⟩ : ∃ D, D = digestL [] := ⟨_, rfl⟩
      have heq := fun (W : World) => eql32 D (by rw [hD, length_digestL]) W
      have heq0 := fun (W : World) => eql32 D0 (by rw [hD0, length_digestL]) W
      have HDD := Lib.hid hD
      have HDD0 := Lib.hid hD0
      clear hPl hD hD0
      go_wp2_with fail
      refine (hsum_any g (cat ss k) wr (by omega) H.out.2.2.2.rep (H.out.2.2.2.tabs HT.out)).mono ?_
      rintro e w7 ⟨rfl, hb7⟩
      rw [← HDD.out]
      have H7 := Lib.hid (And.intro (H.out.2.2.2.below hb7) hb7)
      clear hb7
      go_wp2_with fail
      have hsum := sum_str S w7 (by omega) (H7.out.1.tabs HT.out)
      rw [H.out.1, ← HDD.out] at hsum
      refine hsum.mono ?_
      rintro e w9 ⟨rfl, hb9⟩
      have H9 := Lib.hid (And.intro (H7.out.1.below hb9) (H7.out.2.trans (hb9.mono H7.out.2.size)))
      clear hsum hb9
      go_wp2_with fail
      have hjoin := join_any Pl ps cl w9 (by have := H.out.2.1; omega) (by rw [H.out.2.2.1]; omega) (fun p hp => (H9.out.1.parts p hp).ok) (HPl.out w9 H9.out.2) (H9.out.1.tabs HT.out)
      rw [H.out.2.2.1, ← HDD.out] at hjoin
      refine hjoin.mono ?_
      rintro e w10 ⟨rfl, hb10⟩
      have H10 := Lib.hid (H9.out.1.below hb10)
      clear hjoin hb10
      go_wp2_with fail
      refine (hsum_any g (cat ss k) w10 (by omega) H10.out.rep (H10.out.tabs HT.out)).mono ?_
      rintro e w11 ⟨rfl, hb11⟩
      rw [← HDD.out]
      have H11 := Lib.hid (H10.out.below hb11)
      clear hb11
      go_wp2_with fail
      refine (hsumNil_any w11 (H11.out.tabs HT.out)).mono ?_
      rintro e w12 ⟨rfl, hb12⟩
      rw [← HDD0.out]
      have H12 := Lib.hid (H11.out.below hb12)
      clear hb12
      go_wp2_with fail
      refine (sum_any none 0 [] w12 (by decide) (by decide) (.of_mem (by simp)) (fun h => absurd h (by simp)) (H12.out.tabs HT.out)).mono ?_
      rintro e w13 ⟨rfl, hb13⟩
      rw [← HDD0.out]
      have H13 := Lib.hid (H12.out.below hb13)
      clear hb13
      go_wp2_with fail
      go_ret
      exact ⟨rfl, H13.out.bel⟩
end Go.Proofs.YteniifabfceocaaDoor
