/- LxSpell, LxJoin: merged. -/
import Derived.Test.YtljdnjidphmkjaaDoorLx11
import Derived.Test.YtljdnjidphmkjaaDoorLx16
import Derived.Test.YtljdnjidphmkjaaDoorLx20
import Derived.Test.YtljdnjidphmkjaaDoorLx21
set_option linter.all false
namespace Go.Proofs.YtljdnjidphmkjaaDoor
open Go Go.RowKit
theorem spell_word (s : ByteArray) (n p : Int) : toS (spellN ⟨1, s, n, p⟩) = if isWordB s then s else ⟨#[]⟩ := by
  have e : spellN ⟨1, s, n, p⟩ = if wordN (strL s) = s.size ∧ s.size ≤ 32 then strL s else [] := rfl
  rw [e]
  by_cases h : wordN (strL s) = s.size ∧ s.size ≤ 32
  · rw [if_pos h, toS_strL]
    by_cases h0 : s.size = 0
    · rw [str_nil h0]; rfl
    · rw [if_pos (show isWordB s = true from decide_eq_true ⟨h0, h.2, h.1⟩)]
  · rw [if_neg h, if_neg (show ¬ isWordB s = true from fun hq => h (by have := of_decide_eq_true hq; exact ⟨this.2.2, this.2.1⟩))]; rfl
set_option maxRecDepth 100000 in
set_option maxHeartbeats 4000000 in
theorem lexSpell_any (k n p : Int) (s : ByteArray) (w : World) (hm : Marks w) (hs : s.size ≤ 1000000000) (hn : -9223372036854775808 ≤ n ∧ n ≤ 9223372036854775807) :
    Calls Tryd.prog 13 #[tokV k s n p] w fun e w' => e = .returned (.string (toS (spellN ⟨k, s, n, p⟩))) ∧ Below w.heap.size w w' := by
  obtain ⟨W1, hW1⟩ : ∃ W1, W1 = w.alloc (.cells #[.int .i64 k, .string s, .int .i64 n, .int .i64 p] 34) := ⟨_, rfl⟩
  have HB1 : Hid (Below w.heap.size w W1) := Lib.hid (by rw [hW1]; exact belowAlloc _ _)
  have HM1 := Lib.hid (hm.below HB1.out)
  have HC := Lib.hid (fun W : World => cloneL_any s W (by omega))
  by_cases h1 : k = 1
  · subst h1
    rw [spell_word]
    have HI := Lib.hid (fun W : World => isWord_any s W (by omega))
    cases hb : isWordB s with
    | true =>
      rw [hb] at HI
      rw [if_pos rfl]
      clear hb hW1 HB1 HM1 hm
      go_enter Tryd.func13, Tryd.ntmps13
      go_wp2_with fail
      refine (HI.out _).mono ?_
      rintro e w2 ⟨rfl, rfl⟩
      go_wp2_with fail
      refine (HC.out _).mono ?_
      rintro e w2 ⟨rfl, hb2⟩
      have HB2 := Lib.hid ((belowAlloc w _).trans (hb2.mono (belowAlloc w _).size))
      clear hb2
      go_wp2_with fail
      go_ret
      exact ⟨rfl, HB2.out⟩
    | false =>
      rw [hb] at HI
      rw [if_neg (by decide)]
      clear hb hW1 HB1 HM1 hm
      go_enter Tryd.func13, Tryd.ntmps13
      go_wp2_with fail
      refine (HI.out _).mono ?_
      rintro e w2 ⟨rfl, rfl⟩
      go_wp2_with fail
      go_ret
      exact ⟨rfl, belowAlloc w _⟩
  · have e1 : (k == 1) = false := by rw [beq_eq_false_iff_ne]; exact h1
    by_cases h2 : k = 2
    · subst h2
      rw [spell_text]
      have HQ := Lib.hid (fun (W : World) (hW : Marks W) => quoteB_any s W hW (by omega))
      have HM2 := Lib.hid (hm.below (belowAlloc w (.cells #[.int .i64 2, .string s, .int .i64 n, .int .i64 p] 34)))
      obtain ⟨U, hU⟩ : ∃ U, U = toS (quoteN (strL s)).1 := ⟨_, rfl⟩
      obtain ⟨u, hu⟩ : ∃ u, u = (quoteN (strL s)).2 := ⟨_, rfl⟩
      rw [← hU, ← hu] at HQ
      rw [← hU]
      clear h1 e1 hW1 HB1 HM1 hm hU hu
      go_enter Tryd.func13, Tryd.ntmps13
      go_wp2_with fail
      refine (HQ.out _ HM2.out).mono ?_
      rintro e w2 ⟨rfl, hb2⟩
      have HB2 := Lib.hid ((belowAlloc w _).trans (hb2.mono (belowAlloc w _).size))
      clear hb2
      go_wp2_with fail
      go_ret
      exact ⟨rfl, HB2.out⟩
    · have e2 : (k == 2) = false := by rw [beq_eq_false_iff_ne]; exact h2
      by_cases h3 : k = 3
      · subst h3
        rw [spell_num]
        have HP := Lib.hid (fun W : World => print_any n W hn.1 hn.2)
        rcases num_cases n with ⟨b1, b2⟩ | b1 | ⟨b1, b2⟩
        · rw [if_pos ⟨b1, b2⟩]
          clear h1 h2 e1 e2 hW1 HB1 HM1 hm
          go_enter Tryd.func13, Tryd.ntmps13
          go_wp2_with fail
          refine (HP.out _).mono ?_
          rintro e w2 ⟨rfl, hb2⟩
          have HB2 := Lib.hid ((belowAlloc w _).trans (hb2.mono (belowAlloc w _).size))
          clear hb2
          go_wp2_with fail
          go_ret
          exact ⟨rfl, HB2.out⟩
        · rw [if_neg (fun h => b1 h.1)]
          clear h1 h2 e1 e2 hW1 HB1 HM1 hm
          go_enter Tryd.func13, Tryd.ntmps13
          go_wp2_with fail
          go_ret
          exact ⟨rfl, belowAlloc w _⟩
        · rw [if_neg (fun h => b2 h.2)]
          clear h1 h2 e1 e2 hW1 HB1 HM1 hm
          go_enter Tryd.func13, Tryd.ntmps13
          go_wp2_with fail
          go_ret
          exact ⟨rfl, belowAlloc w _⟩
      · have e3 : (k == 3) = false := by rw [beq_eq_false_iff_ne]; exact h3
        by_cases h4 : k = 4
        · subst h4
          rw [spell_sign]
          have HI := Lib.hid (fun W : World => isSign_any s W)
          cases hb : isSignB s with
          | true =>
            rw [hb] at HI
            rw [if_pos rfl]
            clear hb h1 h2 h3 e1 e2 e3 hW1 HB1 HM1 hm
            go_enter Tryd.func13, Tryd.ntmps13
            go_wp2_with fail
            refine (HI.out _).mono ?_
            rintro e w2 ⟨rfl, rfl⟩
            go_wp2_with fail
            refine (HC.out _).mono ?_
            rintro e w2 ⟨rfl, hb2⟩
            have HB2 := Lib.hid ((belowAlloc w _).trans (hb2.mono (belowAlloc w _).size))
            clear hb2
            go_wp2_with fail
            go_ret
            exact ⟨rfl, HB2.out⟩
          | false =>
            rw [hb] at HI
            rw [if_neg (by decide)]
            clear hb h1 h2 h3 e1 e2 e3 hW1 HB1 HM1 hm
            go_enter Tryd.func13, Tryd.ntmps13
            go_wp2_with fail
            refine (HI.out _).mono ?_
            rintro e w2 ⟨rfl, rfl⟩
            go_wp2_with fail
            go_ret
            exact ⟨rfl, belowAlloc w _⟩
        · have e4 : (k == 4) = false := by rw [beq_eq_false_iff_ne]; exact h4
          rw [spellT_none s n p h1 h2 h3 h4]
          clear h1 h2 h3 h4 hW1 HB1 HM1 hm
          go_enter Tryd.func13, Tryd.ntmps13
          go_wp2_with fail
          go_ret
          exact ⟨rfl, belowAlloc w _⟩
/-! ### The reference's -/
end Go.Proofs.YtljdnjidphmkjaaDoor
namespace Go.Proofs.YtljdnjidphmkjaaDoor
open Go Go.RowKit
def strVs (xs : List (List Int)) : List Value := xs.map fun x => .string (toS x)
theorem strVs_snoc (xs : List (List Int)) (x : List Int) : strVs (xs ++ [x]) = strVs xs ++ [.string (toS x)] := by simp [strVs]
theorem infoStr : (Tryd.prog.info? 9).map (fun i => (i.zero, i.size, i.bytes)) = some (some (.string ByteArray.empty), 1, 16) := by kernel_rfl
theorem strL_arr (l : List UInt8) : strL ⟨l.toArray⟩ = l.map fun b => (b.toNat : Int) := by simp [strL]
theorem join_glue (xs : List (List Int)) (hb : ∀ x ∈ xs, Bytes x) : (⟨(Lib.join ((xs.map toS).map (·.data.toList)) [32]).toArray⟩ : ByteArray) = toS (glue xs) := by
  apply strL_inj
  rw [strL_toS (glue_bytes hb), strL_arr]
  have key : ∀ xs : List (List Int), (∀ x ∈ xs, Bytes x) → (Lib.join ((xs.map toS).map (·.data.toList)) [32]).map (fun b : UInt8 => (b.toNat : Int)) = glue xs := by
    intro xs
    induction xs with
    | nil => intro _; rfl
    | cons x r ih =>
      intro hb
      have e1 : (toS x).data.toList.map (fun b : UInt8 => (b.toNat : Int)) = x := strL_toS (hb x (by simp))
      cases r with
      | nil =>
        simp only [List.map_cons, List.map_nil, Lib.join_one]
        exact e1
      | cons y r =>
        rw [glue, ← ih (fun z hz => hb z (List.mem_cons_of_mem _ hz))]
        conv => rhs; rw [← e1]
        simp only [Lib.join, List.map_cons, List.intercalate, List.intersperse_cons_cons, List.flatten_cons, List.map_append, List.map_nil]
        rfl
  exact key xs hb
/-- strings.Join of an owned row of texts. -/
theorem join_own {base m : Nat} {v : Value} (xs : List (List Int)) (W : World) (hm : xs.length = m) (hb : ∀ x ∈ xs, Bytes x) (hl : (glue xs).length ≤ 140737488355328) (hm2 : m ≤ 1000000) (hv : W.ownsRow base 9 1 v m (strVs xs)) :
    ∃ A c, v = .slice A m c ∧ Calls Tryd.prog 38 #[.slice A m c, .string ⟨#[32]⟩] W fun e w' => e = .returned (.string (toS (glue xs))) ∧ Below W.heap.size W w' := by
  have hlen : (xs.map toS).length = m := by rw [List.length_map, hm]
  have hjn := join_glue xs hb
  rcases hv.2 with ⟨rfl, h0⟩ | ⟨g, cap, cur, rfl, hg, hcell, hle, hmx, _⟩
  · subst h0
    refine ⟨none, 0, rfl, (Tryd.strings_Join_none none 0 ⟨#[32]⟩ W).mono ?_⟩
    rintro e w' ⟨rfl, rfl⟩
    have hp : xs = [] := List.eq_nil_of_length_eq_zero hm
    subst hp
    exact ⟨rfl, Below.refl _ _⟩
  · refine ⟨_, _, rfl, ?_⟩
    have hc := Tryd.strings_Join g 0 cap (xs.map toS) ⟨#[32]⟩ W (fun i t hi => by
        have h1 := hv.cells (g := g) rfl i (.string t) (by
          rw [List.getElem?_map] at hi
          rw [strVs, List.getElem?_map]
          cases hx : xs[i]? with
          | none => rw [hx] at hi; cases hi
          | some x => rw [hx] at hi; simp at hi; subst hi; rfl)
        rwa [Addr.add_mid] at h1) (hv.lt g rfl).2 (by rw [hlen]; omega) (by rw [hlen]; exact hle) (by
        have := congrArg ByteArray.size hjn
        rw [size_toS] at this
        have e : (⟨(Lib.join (List.map (fun x => x.data.toList) (xs.map toS)) [32]).toArray⟩ : ByteArray).size = (Lib.join (List.map (fun x => x.data.toList) (xs.map toS)) [32]).length := by simp [ByteArray.size]
        show (Lib.join _ [32]).length ≤ _
        omega)
    rw [hlen] at hc
    refine hc.mono ?_
    rintro e w' ⟨rfl, hb⟩
    exact ⟨by rw [← hjn], hb⟩
set_option maxRecDepth 100000 in
set_option maxHeartbeats 8000000 in
theorem lexJoin_any (A : Option Addr) (ts : List TokM) (n c : Nat) (w : World) (hm : Marks w) (hn : ts.length = n) (hn9 : n ≤ 1000) (hl : ToksAt w A ts) (hsm : smallT ts) :
    Calls Tryd.prog 17 #[.slice A n c] w fun e w' => e = .returned (.string (toS (joinN ts))) ∧ Below w.heap.size w w' := by
  have HM := Lib.hid hm
  have HN := Lib.hid hn
  have HL := Lib.hid hl
  have HSM := Lib.hid hsm
  obtain ⟨i0, hi0, hz0, hz1, hz2⟩ := info_parts infoStr
  clear hm hn hl hsm
  go_enter Tryd.func17, Tryd.ntmps17
  go_wp2_with fail
  go_loopw [3, 9] (fun lv jv wr => ∃ j m : Nat, j ≤ n ∧ m ≤ j ∧ jv = .int .i64 (j : Int) ∧ (textsN (ts.take j)).length = m ∧ wr.ownsRow w.heap.size 9 1 lv m (strVs (textsN (ts.take j))) ∧ Below w.heap.size w wr) (fun _ jv _ => n - (intOf jv).toNat)
  case atStart => exact ⟨0, 0, Nat.zero_le _, Nat.le_refl _, rfl, rfl, World.ownsRow_nil _ _ _ _, Below.refl _ _⟩
  case round =>
    obtain ⟨j, m, hj, hmj, rfl, hmm, hown, hbel⟩ := hrel
    have HOW := Lib.hid hown
    have HBE := Lib.hid hbel
    have HMM := Lib.hid hmm
    clear hown hbel hmm
    by_cases hlt : j < n
    · have hjl : j < ts.length := by rw [HN.out]; exact hlt
      obtain ⟨b, o, rfl, _, x0, x1, x2, x3⟩ := (HL.out.below HBE.out).at hjl
      have hi0' : (0 : Int) ≤ (j : Int) := by omega
      have hi1' : (j : Int) < (n : Int) := by omega
      have htk : ts.take (j + 1) = ts.take j ++ [ts[j]] := by rw [List.take_succ_eq_append_getElem hjl]
      have HTX := Lib.hid (textsN_snoc (ts.take j) ts[j])
      rw [← htk] at HTX
      obtain ⟨q1, q2, q3⟩ := HSM.out ts[j] (List.getElem_mem hjl)
      have hspl := spellN_len ts[j]
      have HSP := Lib.hid (fun (W : World) (hW : Marks W) => lexSpell_any ts[j].kind ts[j].num ts[j].pos ts[j].text W hW (by omega) ⟨q2, q3⟩)
      obtain ⟨t, ht⟩ : ∃ t, t = ts[j] := ⟨_, rfl⟩
      rw [← ht] at x0 x1 x2 x3 HTX HSP hspl q1
      obtain ⟨X, hX⟩ : ∃ X, X = spellN t := ⟨_, rfl⟩
      have HSP2 := Lib.hid (fun (W : World) (hW : Marks W) => show Calls Tryd.prog 13 #[tokV t.kind t.text t.num t.pos] W fun e w' => e = .returned (.string (toS X)) ∧ Below W.heap.size W w' by rw [hX]; exact HSP.out W hW)
      rw [← hX] at HTX hspl
      have HXB : Hid (Bytes X) := Lib.hid (by rw [hX]; exact spellN_bytes t)
      obtain ⟨k0, s0, n0, p0⟩ := t
      simp only at x0 x1 x2 x3 HSP2 hspl q1
      have HMA := Lib.hid (fun c : Array Value => HM.out.below (HBE.out.alloc HBE.out.size (.cells c 34)))
      have HBA := Lib.hid (fun c : Array Value => HBE.out.alloc HBE.out.size (.cells c 34))
      have HOA := Lib.hid (fun c : Array Value => HOW.out.alloc (.cells c 34))
      clear ht htk hjl HSP hX q2 q3
      go_wp2_with fail
      refine (HSP2.out _ (HMA.out _)).mono ?_
      rintro e w2 ⟨rfl, hb2⟩
      have HB2 := Lib.hid ((HBA.out _).trans (hb2.mono (HBA.out _).size))
      have HOW2 := Lib.hid ((HOA.out _).kept (row := none) (grownBy_of_below hb2 none) (Classical.em _))
      have hsz2 : w.heap.size ≤ w2.heap.size := HB2.out.size
      clear hb2
      by_cases h0 : X = []
      · rw [if_pos h0, List.append_nil] at HTX
        have hs0 : toS X = ⟨#[]⟩ := by rw [h0]; rfl
        rw [hs0]
        clear hs0 h0
        go_wp2_with fail
        go_roundw
        case rel => exact ⟨j + 1, m, by omega, by omega, by go_num, by rw [HTX.out]; exact HMM.out, by rw [HTX.out]; exact HOW2.out, HB2.out⟩
        case measure => simp [intOf]; omega
      · rw [if_neg h0] at HTX
        have hus : (toS X).size ≠ 0 := by rw [size_toS]; exact fun e => h0 (List.eq_nil_of_length_eq_zero e)
        obtain ⟨b1, b2⟩ := ne_of_size hus
        have hU2 : (toS X).size ≤ 9223372036854775807 := by rw [size_toS]; omega
        obtain ⟨U, hU⟩ : ∃ U, U = toS X := ⟨_, rfl⟩
        rw [← hU] at b1 b2 hU2 ⊢
        have HU := Lib.hid hU
        clear h0 hus hU
        go_wp2_with (at_builtin; refine wpList_append_own _ rfl _ _ 41 rfl w.heap.size 9 i0 (.string ByteArray.empty) 1 16 Tryd.underlying41 hi0 hz0 hz1 hz2 rfl (by decide) _ m _ rfl (HOW2.out.alloc _) ⟨w2.heap.size, 0, none⟩ 1 1 [.string U] rfl rfl ?c1 ?c2 ?c3 ?c4 ?c5 ?_)
        case c1 => intro i u hi; match i, hi with | 0, hi => simp at hi; subst hi; simp [Addr.add]
        case c2 => intro u hu; simp at hu; subst hu; rfl
        case c3 => unfold maxLen; omega
        case c4 => omega
        case c5 => simp; omega
        intro v' w4 hown' hgr _
        have HF : Hid (w4.ownsRow w.heap.size 9 1 v' (m + 1) (strVs (textsN (ts.take (j + 1)))) ∧ Below w.heap.size w w4) := Lib.hid ⟨by rw [HTX.out, strVs_snoc, ← HU.out]; exact hown',
          (HB2.out.alloc hsz2 _).grown hgr (by simp; omega) (own_ge HOW2.out)⟩
        have HL2 : Hid ((textsN (ts.take (j + 1))).length = m + 1) := Lib.hid (by rw [HTX.out, List.length_append, HMM.out]; rfl)
        clear hown' hgr
        go_wp2_with fail
        go_roundw
        case rel => exact ⟨j + 1, m + 1, by omega, by omega, by go_num, HL2.out, HF.out.1, HF.out.2⟩
        case measure => simp [intOf]; omega
    · obtain rfl : j = n := by omega
      have hall : ts.take j = ts := by rw [← HN.out]; exact List.take_length
      have hown := HOW.out
      have hlen := HMM.out
      rw [hall] at hown hlen
      have hi1' : ¬ (j : Int) < (j : Int) := by omega
      obtain ⟨A', c', rfl, hcall⟩ := join_own (textsN ts) wr hlen (textsN_bytes ts) (by have := joinN_len HSM.out (by rw [HN.out]; exact hn9); unfold joinN at this; omega) (by omega) hown
      have HJC := Lib.hid hcall
      have HJN : Hid (toS (joinN ts) = toS (glue (textsN ts))) := Lib.hid rfl
      clear hlt hall hown hcall hlen
      go_wp2_with fail
      refine HJC.out.mono ?_
      rintro e w2 ⟨rfl, hb⟩
      have HB2 := Lib.hid (HBE.out.trans (hb.mono HBE.out.size))
      clear hb
      go_wp2_with fail
      go_ret
      rw [HJN.out]
      exact ⟨rfl, HB2.out⟩
/-! ### The reference's Join -/
/-! ### Same -/
end Go.Proofs.YtljdnjidphmkjaaDoor
