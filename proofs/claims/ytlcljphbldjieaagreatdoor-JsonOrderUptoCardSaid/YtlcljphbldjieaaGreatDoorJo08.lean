/- JbAt, JpRead, JpHex, JpShort, JpMade, JsonMany2: merged. -/
import Derived.Test.YtlcljphbldjieaaGreatDoorJo07
set_option linter.all false
namespace Go.Proofs.YtlcljphbldjieaaGreatDoor
open Go
/-- A text stands at a place. -/
def At (l : List Int) (i : Nat) (t : List Int) : Prop := l.drop i = t ++ l.drop (i + t.length)
theorem At.app {l : List Int} {i : Nat} {t u : List Int} : At l i (t ++ u) ↔ At l i t ∧ At l (i + t.length) u := by
  unfold At
  constructor
  · intro h
    rw [List.length_append, ← Nat.add_assoc] at h
    have h2 : l.drop (i + t.length) = u ++ l.drop (i + t.length + u.length) := by
      have := congrArg (List.drop t.length) h
      rw [List.drop_drop, List.append_assoc, List.drop_left] at this
      exact this
    exact ⟨by rw [h, List.append_assoc, ← h2], h2⟩
  · rintro ⟨h1, h2⟩
    rw [List.length_append, ← Nat.add_assoc, List.append_assoc, ← h2, ← h1]
theorem At.get {l : List Int} {i : Nat} {t : List Int} (h : At l i t) {k : Nat} (hk : k < t.length) : atL l (i + k) = t.getD k 0 := by
  have : atL (l.drop i) k = t.getD k 0 := by
    rw [h]; unfold atL
    rw [List.getD_eq_getElem?_getD, List.getD_eq_getElem?_getD, List.getElem?_append_left hk, List.getElem?_eq_getElem hk]; rfl
  rwa [atL_drop] at this
theorem At.one {l : List Int} {i : Nat} {c : Int} {r : List Int} (h : At l i (c :: r)) : atL l i = c ∧ At l (i + 1) r := by
  have h2 : At l i ([c] ++ r) := h
  obtain ⟨a, b⟩ := At.app.1 h2
  exact ⟨by have := a.get (k := 0) (by simp); simpa using this, b⟩
theorem At.le {l : List Int} {i : Nat} {t : List Int} (h : At l i t) (hne : t ≠ []) : i + t.length ≤ l.length := by
  have h1 := congrArg List.length h
  rw [List.length_drop, List.length_append, List.length_drop] at h1
  have : 0 < t.length := List.length_pos_iff.2 hne
  omega
theorem wordL_at {l : List Int} : ∀ (x : List Int) (i : Nat), At l i x → wordL l i x = (i + x.length, 0)
  | [], i, _ => rfl
  | c :: r, i, h => by
    obtain ⟨h1, h2⟩ := h.one
    rw [wordL, if_pos h1, wordL_at r (i + 1) h2, List.length_cons, show i + 1 + r.length = i + (r.length + 1) by omega]
/-! ### Numbers -/
theorem runL_front {d r : List Int} (hd : AllD d) (hr : ∀ e r', r = e :: r' → isD e = false) : runL (d ++ r) = d.length := by
  cases r with
  | nil => rw [List.append_nil]; exact runL_all hd
  | cons e r' => exact runL_app e r' hd (hr e r' rfl)
theorem lead_app {t r : List Int} (h : formL t = true) (hr : ∀ e r', r = e :: r' → isD e = false) : leadL (t ++ r) = t.length := by
  rcases formL_parts h with ⟨_, hd, h49, e⟩ | ⟨h45, hd, hne, h1⟩
  · obtain ⟨d, hdd⟩ : ∃ d, d = t.drop 1 := ⟨_, rfl⟩
    rw [← hdd] at hd h49 e
    subst e
    cases d with
    | nil => simp at h49
    | cons c q =>
      rw [List.getD_cons_zero] at h49
      have h57 := (hd c (by simp)).2
      rw [List.cons_append, leadL, if_pos rfl, List.cons_append, List.getD_cons_zero, if_pos ⟨h49, h57⟩, ← List.cons_append, runL_front hd hr]
      rfl
  · cases t with
    | nil => exact absurd rfl hne
    | cons c q =>
      rw [List.getD_cons_zero] at h45 h1
      rw [List.cons_append, leadL, if_neg h45]
      by_cases h48 : c = 48
      · subst h48
        rw [if_pos rfl]
        rcases h1 with h1 | h1
        · exact absurd h1 (by decide)
        · exact h1.symm
      · rw [if_neg h48, ← List.cons_append, runL_front hd hr]
theorem lead_at {l : List Int} {i : Nat} {t : List Int} (h : At l i t) (hf : formL t = true) (he : isD (atL l (i + t.length)) = false) : leadL (l.drop i) = t.length ∧ (l.drop i).take t.length = t := by
  rw [h]
  refine ⟨lead_app hf fun e r' hr => ?_, List.take_left⟩
  have h1 : atL (l.drop (i + t.length)) 0 = e := by rw [hr]; rfl
  rw [atL_drop, Nat.add_zero] at h1
  rw [← h1]; exact he
/-! ### Quotes -/
def qB (xs : List Int) : List Int := xs.flatMap qOne
theorem qB_nil : qB [] = [] := rfl
theorem qB_cons (c : Int) (r : List Int) : qB (c :: r) = qOne c ++ qB r := rfl
theorem qB_app (a b : List Int) : qB (a ++ b) = qB a ++ qB b := List.flatMap_append
theorem qPre_is (l : List Int) : ∀ k, k ≤ l.length → qPre l k = 34 :: qB (l.take k)
  | 0, _ => rfl
  | k + 1, h => by
    rw [qPre, qPre_is l k (by omega), List.take_succ_eq_append_getElem (by omega), qB_app, List.getD_eq_getElem?_getD, List.getElem?_eq_getElem (by omega)]
    simp [qB]
theorem quoteL_is (l : List Int) : quoteL l = 34 :: (qB l ++ [34]) := by
  unfold quoteL
  rw [qPre_is l l.length (Nat.le_refl _), List.take_length]; rfl
theorem qOne_pos (c : Int) : 1 ≤ (qOne c).length := by
  unfold qOne; split
  · simp
  · split <;> simp
theorem qB_len : ∀ xs : List Int, xs.length ≤ (qB xs).length
  | [] => Nat.le_refl _
  | c :: r => by
    have := qB_len r
    have := qOne_pos c
    rw [qB_cons, List.length_append, List.length_cons]; omega
theorem qB_self : ∀ xs : List Int, (∀ x ∈ xs, qOne x = [x]) → qB xs = xs
  | [], _ => rfl
  | c :: r, h => by rw [qB_cons, h c (by simp), qB_self r (fun x hx => h x (List.mem_cons_of_mem _ hx))]; rfl
theorem hexD_S {d : Int} (h0 : 0 ≤ d) (h1 : d < 16) : hexD (hexS d) = d := by
  unfold hexD hexS
  by_cases h : d < 10
  · rw [if_pos h, if_pos (by omega)]; omega
  · rw [if_neg h, if_neg (by omega), if_pos (by omega)]; omega
theorem first_byte {c : Int} {r : List Int} (hv : (nxL (c :: r)).1 ≠ -1) (h : c < 128) : (nxL (c :: r)).2 = 1 ∧ (nxL (c :: r)).1 = c := by
  obtain ⟨h1, h2, h3, h4, _, h6, h7⟩ := nx_found hv
  obtain ⟨m, hm⟩ : ∃ m, (nxL (c :: r)).2 = m + 1 := ⟨(nxL (c :: r)).2 - 1, by omega⟩
  rw [hm, List.take_succ_cons] at h1
  rcases putL_cases (nxL (c :: r)).1 with ⟨h', _⟩ | ⟨_, hlt, h'⟩ | ⟨_, _, h'⟩ | ⟨_, _, _, h'⟩ | ⟨_, _, h'⟩ <;> rw [h'] at h1 h2
  · cases h1
  · injection h1 with a b
    simp at h2
    exact ⟨h2.symm, a⟩
  all_goals (injection h1 with a b; omega)
theorem quot_body (l : List Int) : ∀ (n : Nat) (xs : List Int), xs.length ≤ n → Bytes xs → badU xs = xs.length → ∀ (f i : Nat) (out : List Int), xs.length < f → At l i (qB xs ++ [34]) → quotL l f i out = (out ++ xs, i + (qB xs).length + 1, 0)
  | n, [], _, _, _, 0, i, out, hf, h => absurd hf (Nat.not_lt_zero _)
  | n, [], _, _, _, f + 1, i, out, hf, h => by
    obtain ⟨h1, _⟩ := At.one (r := []) h
    rw [quotL, if_neg (by omega), if_pos h1, List.append_nil, qB_nil]; rfl
  | 0, c :: r, hl, _, _, _, _, _, _, _ => by simp at hl
  | n + 1, c :: r, hl, hby, hu, 0, i, out, hf, h => absurd hf (Nat.not_lt_zero _)
  | n + 1, c :: r, hl, hby, hu, f + 1, i, out, hf, h => by
    have hv : (nxL (c :: r)).1 ≠ -1 := fun e => by rw [badU_stop e] at hu; cases hu
    have hb := badU_go hv
    obtain ⟨p1, p2, p3, p4, _, p6, p7⟩ := nx_found hv
    obtain ⟨m, hm⟩ : ∃ m, m = (nxL (c :: r)).2 := ⟨_, rfl⟩
    obtain ⟨N, hN⟩ : ∃ N, N = (nxL (c :: r)).1 := ⟨_, rfl⟩
    rw [← hm] at hb p1 p2 p3 p4
    rw [← hN] at p1 p2 p6 p7
    have hu2 : badU ((c :: r).drop m) = ((c :: r).drop m).length := by rw [List.length_drop]; omega
    have hlen : ((c :: r).drop m).length < f := by rw [List.length_drop]; simp only [List.length_cons] at hf ⊢; omega
    have hln : ((c :: r).drop m).length ≤ n := by rw [List.length_drop]; simp only [List.length_cons] at hl ⊢; omega
    have hc := hby.mem (x := c) (by simp)
    by_cases hlow : c < 32 ∨ c = 34 ∨ c = 92
    · obtain ⟨e1, e2⟩ := first_byte hv (by omega)
      rw [← hm] at e1; rw [← hN] at e2
      subst e1; subst e2
      rw [List.drop_succ_cons, List.drop_zero] at hu2 hlen hln
      have hbr : Bytes r := .of_mem fun x hx => hby.mem (List.mem_cons_of_mem _ hx)
      rw [qB_cons, List.append_assoc] at h
      obtain ⟨ha, hrest⟩ := At.app.1 h
      have hgo := fun out => quot_body l n r hln hbr hu2 f (i + (qOne N).length) out hlen hrest
      have hfin : ∀ out : List Int, (out ++ [N] ++ r, i + (qOne N).length + (qB r).length + 1, (0 : Int)) = (out ++ N :: r, i + (qB (N :: r)).length + 1, 0) := fun out => by
        rw [qB_cons, List.length_append, List.append_assoc, ← Nat.add_assoc]; rfl
      by_cases h32 : N < 32
      · have hq : qOne N = [92, 117, 48, 48, hexS (N / 16), hexS (N % 16)] := by unfold qOne; rw [if_pos h32]
        rw [hq] at ha hgo hfin
        obtain ⟨a0, ha⟩ := ha.one
        obtain ⟨a1, ha⟩ := ha.one
        obtain ⟨a2, ha⟩ := ha.one
        obtain ⟨a3, ha⟩ := ha.one
        obtain ⟨a4, ha⟩ := ha.one
        obtain ⟨a5, _⟩ := ha.one
        have d4 := hexD_S (d := N / 16) (by omega) (by omega)
        have d5 := hexD_S (d := N % 16) (by omega) (by omega)
        have hx : hexL l 4 (i + 2) 0 = (N, 0) := by
          rw [hexL, a2, if_neg (by decide), hexL, a3, if_neg (by decide), hexL, a4, d4, if_neg (by omega), hexL, a5, d5, if_neg (by omega), hexL]
          have : hexD 48 = 0 := by decide
          rw [this]
          congr 1; omega
        rw [quotL, if_neg (by omega), if_neg (by omega), if_neg (by omega), if_neg (by omega), hx, if_neg (by omega), if_pos (.inl (by show N < 55296; omega)), putL_one (by omega) (by omega)]
        exact (hgo _).trans (hfin out)
      · have hq : qOne N = [92, N] := by unfold qOne; rw [if_neg h32, if_pos (by omega)]
        rw [hq] at ha hgo hfin
        obtain ⟨a0, ha⟩ := ha.one
        obtain ⟨a1, _⟩ := ha.one
        have hpl : plainL N = [N] := by unfold plainL; rw [if_pos (by omega)]
        rw [quotL, if_neg (by omega), if_neg (by omega), if_neg (by omega), if_pos (by omega), a1, hpl, if_neg (by simp)]
        exact (hgo _).trans (hfin out)
    · have hself : ∀ x ∈ (c :: r).take m, qOne x = [x] := fun x hx => by
        by_cases h128 : c < 128
        · obtain ⟨e1, e2⟩ := first_byte hv h128
          rw [← hm] at e1
          rw [e1, List.take_succ_cons, List.take_zero, List.mem_singleton] at hx
          subst hx
          unfold qOne; rw [if_neg (by omega), if_neg (by omega)]
        · have hNb : 128 ≤ N := Decidable.byContradiction fun hn => by
            rw [putL_one p6 (by omega)] at p1
            obtain ⟨m', rfl⟩ : ∃ m', m = m' + 1 := ⟨m - 1, by omega⟩
            rw [List.take_succ_cons] at p1
            injection p1 with a b; omega
          have := putL_big hNb x (by rw [p1]; exact hx)
          unfold qOne; rw [if_neg (by omega), if_neg (by omega)]
      obtain ⟨T, hT⟩ : ∃ T, T = (c :: r).take m := ⟨_, rfl⟩
      obtain ⟨D, hD⟩ : ∃ D, D = (c :: r).drop m := ⟨_, rfl⟩
      have hcr : c :: r = T ++ D := by rw [hT, hD, List.take_append_drop]
      have hTl : T.length = m := by rw [hT, List.length_take]; omega
      have hqT : qB T = T := qB_self T (by rw [hT]; exact hself)
      rw [← hT] at p1
      rw [← hD] at hu2 hlen hln
      have hat : atL l i = c := by
        have hT1 : ∃ T', T = c :: T' := by
          obtain ⟨m', e⟩ : ∃ m', m = m' + 1 := ⟨m - 1, by omega⟩
          rw [e, List.take_succ_cons] at hT
          exact ⟨_, hT⟩
        obtain ⟨T', hT'⟩ := hT1
        rw [hcr, qB_app, hqT, hT', List.cons_append, List.cons_append] at h
        exact h.one.1
      rw [hcr, qB_app, hqT, List.append_assoc] at h
      obtain ⟨ha, hrest⟩ := At.app.1 h
      have hnx : nxL (l.drop i) = (N, m) := by
        rw [ha, ← p1, nx_put p7, p2]
      have htk : (l.drop i).take m = T := by rw [ha, ← hTl, List.take_left]
      have hbD : Bytes D := by rw [hD]; exact hby.drop m
      rw [quotL, if_neg (by omega), if_neg (by omega), if_pos (by omega), hnx, if_neg (by show ¬ N < 0; omega)]
      show quotL l f (i + m) (out ++ (l.drop i).take m) = _
      rw [htk]
      rw [hTl] at hrest
      rw [quot_body l n D hln hbD hu2 f (i + m) _ hlen hrest, hcr, qB_app, hqT, List.length_append, hTl, List.append_assoc, ← Nat.add_assoc]
  termination_by n xs => n
theorem quoted_at {l : List Int} {i : Nat} {xs : List Int} (hb : Bytes xs) (hu : badU xs = xs.length) (h : At l i (quoteL xs)) : quotedL l i = (xs, i + (quoteL xs).length, 0) := by
  rw [quoteL_is] at h ⊢
  obtain ⟨h1, h2⟩ := h.one
  have hle := h2.le (by simp)
  rw [List.length_append] at hle
  have hq := qB_len xs
  unfold quotedL
  rw [if_neg (fun hn => hn h1), quot_body l _ xs (Nat.le_refl _) hb hu (l.length + 1) (i + 1) [] (by simp at hle; omega) h2, List.nil_append]
  simp only [List.length_cons, List.length_append, List.length_nil]
  rw [show i + 1 + (qB xs).length + 1 = i + ((qB xs).length + (0 + 1) + 1) by omega]
end Go.Proofs.YtlcljphbldjieaaGreatDoor
namespace Go.Proofs.YtlcljphbldjieaaGreatDoor
open Go Go.RowKit
/-- Where the reader stands, and how many values have begun. -/
abbrev Rdr (w : World) (rb : Nat) (s : ByteArray) (i n : Int) : Prop := Blk w rb 133 [.string s, .int .i64 i, .int .i64 n]
/-- With what a reader gives up. -/
def flt (p n : Int) : List PanicEntry := [{ v := .iface 131 (.agg #[.int .i64 p, .iface 81 (.int .i64 n)]), recovered := false }]
theorem giveUp_any (p n : Int) (w : World) : Calls Tryz.prog 96 #[.int .i64 p, .iface 81 (.int .i64 n)] w fun e w' => e = .panicked (flt p n) ∧ w = w' := by
  go_enter Tryz.func96, Tryz.ntmps96
  go_wp2
  exact ⟨rfl, rfl, rfl⟩
theorem Rdr.cells {w : World} {rb : Nat} {s : ByteArray} {i n : Int} (h : Rdr w rb s i n) : (w.cell? ⟨rb, 0, none⟩ = some (.string s) ∧ w.cell? ⟨rb, 1, none⟩ = some (.int .i64 i) ∧ w.cell? ⟨rb, 2, none⟩ = some (.int .i64 n)) ∧
    (w.frozen? ⟨rb, 0, none⟩ = false ∧ w.frozen? ⟨rb, 1, none⟩ = false ∧ w.frozen? ⟨rb, 2, none⟩ = false) := ⟨⟨h.cell 0, h.cell 1, h.cell 2⟩, h.frozen 0, h.frozen 1, h.frozen 2⟩
theorem Rdr.goes {w : World} {rb : Nat} {s : ByteArray} {i n : Int} (h : Rdr w rb s i n) (j : Int) : Rdr (w.setCell ⟨rb, 1, none⟩ (.int .i64 j)) rb s j n := Blk.setCell h 1 (.int .i64 j)
/-- The byte that is ahead; 0 at the end. -/
def ahL (l : List Int) (i : Nat) : Int := if atL l i = -1 then 0 else atL l i
set_option maxRecDepth 100000 in
set_option maxHeartbeats 1000000 in
theorem ahead_any (rb : Nat) (s : ByteArray) (i : Nat) (n : Int) (w : World) (h : Rdr w rb s i n) (hi : i ≤ s.size) (hs : s.size ≤ 1000000) :
    Calls Tryz.prog 140 #[.pointer (some ⟨rb, 0, none⟩)] w fun e w' => e = .returned (.int .u8 (ahL (strL s) i)) ∧ ∃ q, w' = w.drewN q := by
  obtain ⟨⟨c0, c1, c2⟩, f0, f1, f2⟩ := h.cells
  clear h
  by_cases hlt : i < s.size
  · have HA : Hid (ahL (strL s) i = (s[i].toNat : Int)) := Lib.hid (by unfold ahL; rw [atL_get s i hlt]; exact if_neg (by omega))
    have h1 : ((i : Int) == (s.size : Int)) = false := by rw [beq_eq_false_iff_ne]; omega
    have h2 : (i : Int) < (s.size : Int) := by omega
    have h3 : (0 : Int) ≤ (i : Int) := by omega
    go_enter Tryz.func140, Tryz.ntmps140
    go_wp2
    go_quiet (fail)
    go_wp2
    go_quiet (fail)
    go_wp2
    go_ret
    exact ⟨by rw [HA.out]; rfl, _, World.drewN_drewN _ _ _⟩
  · obtain rfl : i = s.size := by omega
    have HA : Hid (ahL (strL s) s.size = 0) := Lib.hid (by unfold ahL; rw [atL_end s s.size (Nat.le_refl _)]; rfl)
    have h1 : ((s.size : Int) == (s.size : Int)) = true := beq_self_eq_true _
    go_enter Tryz.func140, Tryz.ntmps140
    go_wp2
    go_quiet (fail)
    go_wp2
    go_ret
    exact ⟨by rw [HA.out]; rfl, _, rfl⟩
/-- What has become of the world: all blocks but the reader's are as they were. -/
abbrev Moved (w w' : World) (rb : Nat) (s : ByteArray) (i n : Int) : Prop := w.grownBy w' (some rb) ∧ Rdr w' rb s i n
/-- It gives up. -/
abbrev Gives (w : World) (rb : Nat) (p n : Int) (e : Ending) (w' : World) : Prop := e = .panicked (flt p n) ∧ w.grownBy w' (some rb)
theorem grown_drewN {w : World} (q : Nat) (row : Option Nat) : w.grownBy (w.drewN q) row := grownBy_drewN (grownBy_refl w row) q
theorem grown_set (w : World) (q rb j : Nat) (v : Value) : w.grownBy ((w.drewN q).setCell ⟨rb, j, none⟩ v) (some rb) := (grown_drewN q _).trans (grownBy_setCell _ rb j v)
theorem ahL_at {l : List Int} {i : Nat} {c : Int} (hc : 0 < c) : ahL l i = c ↔ atL l i = c := by
  unfold ahL; split
  · rename_i h; rw [h]; omega
  · exact Iff.rfl
theorem ahL_ne {l : List Int} {i : Nat} {c : Int} (hc : 0 < c) (h : atL l i ≠ c) : ahL l i ≠ c := fun e => h ((ahL_at hc).1 e)
set_option maxRecDepth 100000 in
set_option maxHeartbeats 1000000 in
theorem sign_yes (rb : Nat) (s : ByteArray) (i : Nat) (n : Int) (c : Int) (w : World) (h : Rdr w rb s i n) (hs : s.size ≤ 1000000) (hc0 : 0 < c) (hc : atL (strL s) i = c) :
    Calls Tryz.prog 179 #[.pointer (some ⟨rb, 0, none⟩), .int .u8 c] w fun e w' => e = .returned (.tuple #[]) ∧ Moved w w' rb s (i + 1 : Nat) n := by
  have hi : i < s.size := by rw [← length_strL]; exact atL_lt (by omega)
  have HA := Lib.hid (ahead_any rb s i n w h (by omega) hs)
  rw [(ahL_at hc0).2 hc] at HA
  have HR := Lib.hid h
  obtain ⟨⟨c0, c1, c2⟩, f0, f1, f2⟩ := h.cells
  have hne : (c != c) = false := by simp
  clear h hc
  go_enter Tryz.func179, Tryz.ntmps179
  go_wp2_with (go_at_call 140; (with_reducible refine HA.out.mono ?_); rintro e w' ⟨rfl, q, rfl⟩)
  go_end0
  exact ⟨rfl, grown_set w q rb 1 _, Rdr.goes (HR.out.drewN q) _⟩
set_option maxRecDepth 100000 in
set_option maxHeartbeats 1000000 in
theorem sign_no (rb : Nat) (s : ByteArray) (i : Nat) (n : Int) (c : Int) (w : World) (h : Rdr w rb s i n) (hi : i ≤ s.size) (hs : s.size ≤ 1000000) (hc0 : 0 < c) (hc : atL (strL s) i ≠ c) :
    Calls Tryz.prog 179 #[.pointer (some ⟨rb, 0, none⟩), .int .u8 c] w (Gives w rb i 50) := by
  have HA := Lib.hid (ahead_any rb s i n w h hi hs)
  have hne : (ahL (strL s) i != c) = true := by simpa using ahL_ne hc0 hc
  obtain ⟨⟨c0, c1, c2⟩, f0, f1, f2⟩ := h.cells
  obtain ⟨x, hx⟩ : ∃ x, x = ahL (strL s) i := ⟨_, rfl⟩
  rw [← hx] at HA hne
  clear h hc hx
  go_enter Tryz.func179, Tryz.ntmps179
  go_wp2_with (first | (go_at_call 140; (with_reducible refine HA.out.mono ?_); rintro e w' ⟨rfl, q, rfl⟩) | (go_at_call 96; (with_reducible refine (giveUp_any _ _ _).mono ?_); rintro e w' ⟨rfl, rfl⟩))
  exact ⟨rfl, rfl, grown_drewN q _⟩
end Go.Proofs.YtlcljphbldjieaaGreatDoor
namespace Go.Proofs.YtlcljphbldjieaaGreatDoor
open Go Go.RowKit
set_option maxHeartbeats 1000000 in
theorem self_any (c : Int) (w : World) (h0 : 0 ≤ c) (h1 : c ≤ 255) : Calls Tryz.prog 206 #[.int .u8 c] w fun e w' => e = .returned (.bool (selfB c)) ∧ w = w' := by
  by_cases a : 32 ≤ c
  · by_cases b : c = 34
    · subst b
      go_enter Tryz.func206, Tryz.ntmps206
      go_wp2
      go_ret
      exact ⟨rfl, rfl⟩
    · by_cases d : c = 92
      · subst d
        go_enter Tryz.func206, Tryz.ntmps206
        go_wp2
        go_ret
        exact ⟨rfl, rfl⟩
      · have hs : selfB c = true := selfB_iff.2 ⟨a, b, d⟩
        rw [hs]
        have b1 : (c != 34) = true := by simpa using b
        have d1 : (c != 92) = true := by simpa using d
        clear hs b d
        go_enter Tryz.func206, Tryz.ntmps206
        go_wp2
        go_ret
        exact ⟨rfl, rfl⟩
  · have hs : selfB c = false := by
      cases h : selfB c with
      | false => rfl
      | true => exact absurd (selfB_iff.1 h).1 a
    rw [hs]
    have a1 : decide (32 ≤ c) = false := decide_eq_false a
    clear hs
    go_enter Tryz.func206, Tryz.ntmps206
    go_wp2
    go_ret
    exact ⟨rfl, rfl⟩
set_option maxHeartbeats 1000000 in
theorem hexWorth_any (c : Int) (w : World) (h0 : 0 ≤ c) (h1 : c ≤ 255) : Calls Tryz.prog 242 #[.int .u8 c] w fun e w' => e = .returned (.int .i64 (hexD c)) ∧ w = w' := by
  by_cases a : 48 ≤ c ∧ c ≤ 57
  · have hs : hexD c = c - 48 := if_pos a
    obtain ⟨a0, a1⟩ := a
    rw [hs]; clear hs
    go_enter Tryz.func242, Tryz.ntmps242
    go_wp2
    go_ret
    exact ⟨rfl, rfl⟩
  · have ha : (48 ≤ c → ¬ c ≤ 57) := fun x y => a ⟨x, y⟩
    by_cases b : 97 ≤ c ∧ c ≤ 102
    · have hs : hexD c = c - 97 + 10 := by unfold hexD; rw [if_neg a, if_pos b]
      obtain ⟨b0, b1⟩ := b
      have a0 : (48 : Int) ≤ c := by omega
      have a1 : decide (c ≤ 57) = false := decide_eq_false (by omega)
      rw [hs]; clear hs a ha
      go_enter Tryz.func242, Tryz.ntmps242
      go_wp2
      go_ret
      exact ⟨rfl, rfl⟩
    · by_cases d : 65 ≤ c ∧ c ≤ 70
      · have hs : hexD c = c - 65 + 10 := by unfold hexD; rw [if_neg a, if_neg b, if_pos d]
        obtain ⟨d0, d1⟩ := d
        have a0 : (48 : Int) ≤ c := by omega
        have a1 : decide (c ≤ 57) = false := decide_eq_false (by omega)
        have b0 : decide (97 ≤ c) = false := decide_eq_false (by omega)
        rw [hs]; clear hs a ha b
        go_enter Tryz.func242, Tryz.ntmps242
        go_wp2
        go_ret
        exact ⟨rfl, rfl⟩
      · have hs : hexD c = -1 := by unfold hexD; rw [if_neg a, if_neg b, if_neg d]
        rw [hs]; clear hs
        obtain ⟨X, hX⟩ : ∃ X, X = decide (48 ≤ c) := ⟨_, rfl⟩
        have hc : c < 48 ∨ (57 < c ∧ c < 65) ∨ (70 < c ∧ c < 97) ∨ 102 < c := by omega
        clear a ha b d hX
        rcases hc with hc | ⟨hc, hd⟩ | ⟨hc, hd⟩ | hc
        · have a1 : decide (48 ≤ c) = false := decide_eq_false (by omega)
          have a2 : decide (65 ≤ c) = false := decide_eq_false (by omega)
          have a3 : decide (97 ≤ c) = false := decide_eq_false (by omega)
          go_enter Tryz.func242, Tryz.ntmps242
          go_wp2
          go_ret
          exact ⟨rfl, rfl⟩
        · have a1 : decide (48 ≤ c) = true := decide_eq_true (by omega)
          have a4 : decide (c ≤ 57) = false := decide_eq_false (by omega)
          have a2 : decide (65 ≤ c) = false := decide_eq_false (by omega)
          have a3 : decide (97 ≤ c) = false := decide_eq_false (by omega)
          go_enter Tryz.func242, Tryz.ntmps242
          go_wp2
          go_ret
          exact ⟨rfl, rfl⟩
        · have a1 : decide (48 ≤ c) = true := decide_eq_true (by omega)
          have a4 : decide (c ≤ 57) = false := decide_eq_false (by omega)
          have a2 : decide (65 ≤ c) = true := decide_eq_true (by omega)
          have a5 : decide (c ≤ 70) = false := decide_eq_false (by omega)
          have a3 : decide (97 ≤ c) = false := decide_eq_false (by omega)
          go_enter Tryz.func242, Tryz.ntmps242
          go_wp2
          go_ret
          exact ⟨rfl, rfl⟩
        · have a1 : decide (48 ≤ c) = true := decide_eq_true (by omega)
          have a4 : decide (c ≤ 57) = false := decide_eq_false (by omega)
          have a2 : decide (65 ≤ c) = true := decide_eq_true (by omega)
          have a5 : decide (c ≤ 70) = false := decide_eq_false (by omega)
          have a3 : decide (97 ≤ c) = true := decide_eq_true (by omega)
          have a6 : decide (c ≤ 102) = false := decide_eq_false (by omega)
          go_enter Tryz.func242, Tryz.ntmps242
          go_wp2
          go_ret
          exact ⟨rfl, rfl⟩
end Go.Proofs.YtlcljphbldjieaaGreatDoor
namespace Go.Proofs.YtlcljphbldjieaaGreatDoor
open Go Go.RowKit
set_option maxRecDepth 100000 in
set_option maxHeartbeats 1000000 in
theorem short_any (c : Int) (w : World) (h0 : 0 ≤ c) (h1 : c ≤ 255) : Calls Tryz.prog 208 #[.int .u8 c] w fun e w' => e = .returned (.string (toS (plainL c))) ∧ w' = w := by
  by_cases h : c = 34 ∨ c = 92 ∨ c = 47 ∨ c = 98 ∨ c = 102 ∨ c = 110 ∨ c = 114 ∨ c = 116
  · rcases h with rfl | rfl | rfl | rfl | rfl | rfl | rfl | rfl
    · rw [show toS (plainL 34) = ⟨#[34]⟩ by decide]
      go_enter Tryz.func208, Tryz.ntmps208
      go_wp2
      go_ret
      exact ⟨rfl, rfl⟩
    · rw [show toS (plainL 92) = ⟨#[92]⟩ by decide]
      go_enter Tryz.func208, Tryz.ntmps208
      go_wp2
      go_ret
      exact ⟨rfl, rfl⟩
    · rw [show toS (plainL 47) = ⟨#[47]⟩ by decide]
      go_enter Tryz.func208, Tryz.ntmps208
      go_wp2
      go_ret
      exact ⟨rfl, rfl⟩
    · rw [show toS (plainL 98) = ⟨#[8]⟩ by decide]
      go_enter Tryz.func208, Tryz.ntmps208
      go_wp2
      go_ret
      exact ⟨rfl, rfl⟩
    · rw [show toS (plainL 102) = ⟨#[12]⟩ by decide]
      go_enter Tryz.func208, Tryz.ntmps208
      go_wp2
      go_ret
      exact ⟨rfl, rfl⟩
    · rw [show toS (plainL 110) = ⟨#[10]⟩ by decide]
      go_enter Tryz.func208, Tryz.ntmps208
      go_wp2
      go_ret
      exact ⟨rfl, rfl⟩
    · rw [show toS (plainL 114) = ⟨#[13]⟩ by decide]
      go_enter Tryz.func208, Tryz.ntmps208
      go_wp2
      go_ret
      exact ⟨rfl, rfl⟩
    · rw [show toS (plainL 116) = ⟨#[9]⟩ by decide]
      go_enter Tryz.func208, Tryz.ntmps208
      go_wp2
      go_ret
      exact ⟨rfl, rfl⟩
  · have e : toS (plainL c) = ⟨#[]⟩ := by
      unfold plainL
      rw [if_neg (by omega), if_neg (by omega), if_neg (by omega), if_neg (by omega), if_neg (by omega), if_neg (by omega)]
      rfl
    rw [e]
    have n34 : (c == 34) = false := by rw [beq_eq_false_iff_ne]; omega
    have n92 : (c == 92) = false := by rw [beq_eq_false_iff_ne]; omega
    have n47 : (c == 47) = false := by rw [beq_eq_false_iff_ne]; omega
    have n98 : (c == 98) = false := by rw [beq_eq_false_iff_ne]; omega
    have n102 : (c == 102) = false := by rw [beq_eq_false_iff_ne]; omega
    have n110 : (c == 110) = false := by rw [beq_eq_false_iff_ne]; omega
    have n114 : (c == 114) = false := by rw [beq_eq_false_iff_ne]; omega
    have n116 : (c == 116) = false := by rw [beq_eq_false_iff_ne]; omega
    clear e h
    go_enter Tryz.func208, Tryz.ntmps208
    go_wp2
    go_ret
    exact ⟨rfl, rfl⟩
end Go.Proofs.YtlcljphbldjieaaGreatDoor
namespace Go.Proofs.YtlcljphbldjieaaGreatDoor
open Go Go.RowKit
def textJ (s : ByteArray) : J := .mk 3 0 s [] []
/-- A value is told that holds no memory of anyone's. -/
def Tells1 (W : World) (kind n : Int) (s : ByteArray) (e : Ending) (w' : World) : Prop := e = .returned (.agg #[.int .i64 kind, .int .i64 n, .string s, .slice none 0 0, .slice none 0 0]) ∧ Below W.heap.size W w'
set_option maxRecDepth 100000 in
set_option maxHeartbeats 1000000 in
theorem text_any (s : ByteArray) (w : World) (hs : s.size ≤ 9223372036854775807) : Calls Tryz.prog 33 #[.string s] w (Tells1 w 3 0 s) := by
  go_enter Tryz.func33, Tryz.ntmps33
  go_wp2
  refine bodyPost_ret (v := .agg #[.int .i64 3, .int .i64 0, .string s, .slice none 0 0, .slice none 0 0]) (by simp [results, Tryz.results33, go_sem]) rfl ⟨rfl, ?_⟩
  exact ((Below.refl _ _).alloc (Nat.le_refl _) _)
set_option maxRecDepth 100000 in
set_option maxHeartbeats 1000000 in
theorem int_any (n : Int) (w : World) : Calls Tryz.prog 34 #[.int .i64 n] w (Tells1 w 2 n ⟨#[]⟩) := by
  go_enter Tryz.func34, Tryz.ntmps34
  go_wp2
  refine bodyPost_ret (v := .agg #[.int .i64 2, .int .i64 n, .string ⟨#[]⟩, .slice none 0 0, .slice none 0 0]) (by simp [results, Tryz.results34, go_sem]) rfl ⟨rfl, ?_⟩
  exact ((Below.refl _ _).alloc (Nat.le_refl _) _)
set_option maxRecDepth 100000 in
set_option maxHeartbeats 1000000 in
theorem bool_any (b : Bool) (w : World) : Calls Tryz.prog 35 #[.bool b] w (Tells1 w 1 (if b then 1 else 0) ⟨#[]⟩) := by
  cases b
  · go_enter Tryz.func35, Tryz.ntmps35
    go_wp2
    refine bodyPost_ret (v := .agg #[.int .i64 1, .int .i64 0, .string ⟨#[]⟩, .slice none 0 0, .slice none 0 0]) (by simp [results, Tryz.results35, go_sem]) rfl ⟨rfl, ?_⟩
    exact (((Below.refl _ _).alloc (Nat.le_refl _) _).alloc (by simp) _)
  · go_enter Tryz.func35, Tryz.ntmps35
    go_wp2
    refine bodyPost_ret (v := .agg #[.int .i64 1, .int .i64 1, .string ⟨#[]⟩, .slice none 0 0, .slice none 0 0]) (by simp [results, Tryz.results35, go_sem]) rfl ⟨rfl, ?_⟩
    exact (((Below.refl _ _).alloc (Nat.le_refl _) _).alloc (by simp) _)
end Go.Proofs.YtlcljphbldjieaaGreatDoor
namespace Go.Proofs.YtlcljphbldjieaaGreatDoor
open Go Go.RowKit
theorem zeroJs : (Tryz.prog.info? 26).map (·.zero) = some (some (.agg zeros5.toArray)) := by kernel_rfl
theorem mid_below {wr w1 w2 w3 : World} {g : Nat} (h1 : Below wr.heap.size wr w1) (h2 : w1.grownBy w2 none) (hg : w1.heap.size ≤ g) (h3 : w2.grownBy w3 (some g)) : Below wr.heap.size wr w3 :=
  (h1.grown h2 h1.size (by simp)).grown h3 (Nat.le_trans h1.size h2.size) (by intro k hk; injection hk with hk; have := h1.size; omega)
end Go.Proofs.YtlcljphbldjieaaGreatDoor
