/- StSorted, JpObjB, JpObjGo: merged. -/
import Derived.Test.YtjfgmgkhinehaaaGreatDoorCx33
set_option linter.all false
namespace Go.Proofs.YtjfgmgkhinehaaaGreatDoor
open Go Go.RowKit Go.Sort
theorem get_fst (d : Array TT) (i : Nat) : (d.map Prod.fst)[i]! = d[i]!.1 := by
  by_cases h : i < d.size
  · rw [getElem!_pos _ i (by simpa using h), getElem!_pos d i h, Array.getElem_map]
  · rw [getElem!_neg _ i (by simpa using h), getElem!_neg d i h]; rfl
theorem flatG (d : Array TT) : flatK encG 6 d = flatK encT 6 (d.map Prod.fst) := by
  unfold flatK
  rw [Array.size_map]
  refine congrArg (fun f => Array.map f (Array.range (d.size * 6))) (funext fun t => ?_)
  rw [get_fst]; rfl
theorem worldG (w : World) (g m : Nat) (d : Array TT) (os : Array Obj) : sortWorldK encG 6 w g 0 m d os = sortWorldK encT 6 w g 0 m (d.map Prod.fst) os := by
  unfold sortWorldK putRowK; rw [flatG]
theorem holdsG {w : World} {g : Nat} {d : Array TT} : HoldsK encG 6 w g 0 d ↔ HoldsK encT 6 w g 0 (d.map Prod.fst) := by
  unfold HoldsK; rw [flatG]
theorem permG_list {n : Nat} {d d' : Array TT} (hn : d.size = n) (h : PermIn 0 n d d') : d'.toList.Perm d.toList := by
  have h2 := h.2.2
  have h1 := h.1
  rw [← hn] at h2
  rwa [show d'.extract 0 d.size = d' by rw [← h1]; simp, show d.extract 0 d.size = d by simp] at h2
theorem flat_pairs {W : World} {S : Nat → Prop} (f : Nat → ByteArray × J) : ∀ (ms : List (ByteArray × J)) (ys : List MT) (k : Nat), FlatM W S ms (ys.map MT.mc) → (∀ i (h : i < ms.length), f (k + i) = ms[i]) → ∀ p ∈ ys.zipIdx k, FlatM W S [f p.2] [p.1.mc]
  | [], ys, k, h, _, p, hp => by
    have h : ys.map MT.mc = [] := h
    rw [List.map_eq_nil_iff] at h
    subst h; cases hp
  | m :: r, [], k, h, _, p, hp => by cases hp
  | m :: r, y :: ys, k, h, hf, p, hp => by
    rw [List.map_cons] at h
    obtain ⟨m', r', e, h1, h2⟩ := h.cons_of
    injection e with e1 e2
    subst e1; subst e2
    rw [List.zipIdx_cons] at hp
    rcases List.mem_cons.1 hp with rfl | hp
    · have := hf 0 (Nat.succ_pos _)
      rw [Nat.add_zero] at this
      show FlatM W S [f k] [y.mc]
      rw [this]; exact h1
    · exact flat_pairs f r ys (k + 1) h2 (fun i hi => by
        have := hf (i + 1) (Nat.succ_lt_succ hi)
        rw [show k + 1 + i = k + (i + 1) by omega, this]; rfl) p hp
theorem flat_map {W : World} {S : Nat → Prop} (f : Nat → ByteArray × J) : ∀ l : List TT, (∀ p ∈ l, FlatM W S [f p.2] [p.1.mc]) → FlatM W S (l.map fun p => f p.2) (l.map fun p => p.1.mc)
  | [], _ => rfl
  | p :: l, h => (h p List.mem_cons_self).cons_to (flat_map f l fun q hq => h q (List.mem_cons_of_mem _ hq))
theorem flat_name {W : World} {S : Nat → Prop} {m : ByteArray × J} {z : MC} (h : FlatM W S [m] [z]) : z.nm = m.1 := by
  obtain ⟨z', zs', e, h1, _⟩ := h
  injection e with e1 _
  rw [e1]; exact h1
theorem zipIdx_tag (ys : List MT) (k : Nat) {p q : TT} (hp : p ∈ ys.zipIdx k) (hq : q ∈ ys.zipIdx k) (h : p.2 = q.2) : p = q := by
  have h1 := List.mem_zipIdx_iff_le_and_getElem?_sub.1 hp
  have h2 := List.mem_zipIdx_iff_le_and_getElem?_sub.1 hq
  rw [h] at h1
  rw [h1.2] at h2
  exact Prod.ext (by have := h2.2; injection this) h
theorem zipIdx_rises : ∀ (ys : List MT) (k : Nat), (ys.zipIdx k).Pairwise fun p q => p.2 ≤ q.2
  | [], k => by simp
  | y :: ys, k => by
    rw [List.zipIdx_cons, List.pairwise_cons]
    exact ⟨fun q hq => by have := (List.mem_zipIdx_iff_le_and_getElem?_sub.1 hq).1; show k ≤ q.2; omega, zipIdx_rises ys (k + 1)⟩
theorem map_zip (ms : List (ByteArray × J)) (f : Nat → ByteArray × J) : ∀ (ys : List MT) (k : Nat) (r : List (ByteArray × J)), ys.length = r.length → (∀ i (h : i < r.length), f (k + i) = r[i]) → (ys.zipIdx k).map (fun p => f p.2) = r
  | [], k, r, h, _ => by rw [List.eq_nil_of_length_eq_zero h.symm]; rfl
  | y :: ys, k, [], h, _ => by cases h
  | y :: ys, k, m :: r, h, hf => by
    rw [List.zipIdx_cons, List.map_cons]
    have h0 := hf 0 (Nat.succ_pos _)
    rw [Nat.add_zero] at h0
    show f k :: _ = _
    rw [h0, map_zip ms f ys (k + 1) r (by simpa using h) (fun i hi => by
        have := hf (i + 1) (Nat.succ_lt_succ hi)
        rw [show k + 1 + i = k + (i + 1) by omega, this]; rfl)]
    rfl
/-- Sorted with where they stood: sorted by name, those of one name as they stood. -/
theorem stable_list {W : World} {S : Nat → Prop} (ms : List (ByteArray × J)) (ys : List MT) (hf : FlatM W S ms (ys.map MT.mc)) (l : List TT) (hp : l.Perm (ys.zipIdx 0)) (hs : l.Pairwise fun p q => ltG q p = false) :
    ∃ r, r.Perm ms ∧ Weak r ∧ (∀ u, r.filter (fun m => decide (m.1 = u)) = ms.filter (fun m => decide (m.1 = u))) ∧ FlatM W S r (l.map fun p => p.1.mc) := by
  obtain ⟨f, hfd⟩ : ∃ f : Nat → ByteArray × J, f = fun i => ms.getD i (⟨#[]⟩, zeroJ) := ⟨_, rfl⟩
  have hfi : ∀ i (h : i < ms.length), f (0 + i) = ms[i] := fun i h => by
    rw [hfd, Nat.zero_add]; show ms.getD i _ = _; rw [List.getD_eq_getElem?_getD, List.getElem?_eq_getElem h]; rfl
  have hl : ys.length = ms.length := by have := hf.length; simpa using this
  have hpair := flat_pairs f ms ys 0 hf hfi
  have hpl : ∀ p ∈ l, FlatM W S [f p.2] [p.1.mc] := fun p h => hpair p (hp.mem_iff.1 h)
  have hnm : ∀ p ∈ l, (f p.2).1 = p.1.nm := fun p h => (flat_name (hpl p h)).symm
  have hms := map_zip ms f ys 0 ms hl hfi
  refine ⟨l.map fun p => f p.2, ?_, ?_, fun u => ?_, flat_map f l hpl⟩
  · have := hp.map (fun p : TT => f p.2)
    rwa [hms] at this
  · unfold Weak
    rw [List.pairwise_map]
    refine hs.imp_of_mem (fun {p q} h1 h2 h => ?_)
    rw [hnm p h1, hnm q h2, ← ltOf_cmpM]
    exact (tag_not.1 h).1
  · refine Eq.trans ?_ (congrArg (List.filter (fun m : ByteArray × J => decide (m.1 = u))) hms)
    rw [List.filter_map, List.filter_map]
    congr 1
    refine List.Perm.eq_of_pairwise (le := fun p q : TT => p.2 ≤ q.2) (fun p q h1 h2 h3 h4 => ?_) ?_ ((zipIdx_rises ys 0).filter _) (hp.filter _)
    · exact zipIdx_tag ys 0 (hp.mem_iff.1 (List.mem_filter.1 h1).1) (List.mem_filter.1 h2).1 (by omega)
    · rw [List.pairwise_filter]
      refine hs.imp_of_mem (fun {p q} h1 h2 h e1 e2 => ?_)
      have e1 : (f p.2).1 = u := by simpa using e1
      have e2 : (f q.2).1 = u := by simpa using e2
      rcases (tag_not.1 h).2 with h3 | h3
      · rw [ltOf_cmpM, ← hnm p h1, ← hnm q h2, e1, e2, less_self] at h3; cases h3
      · exact h3
set_option maxRecDepth 100000 in
set_option maxHeartbeats 2000000 in
theorem sortStableG_of (n : Nat) (hA : SortAskG n) (d : Array TT) (blk cap : Nat) (w : World) (hn : d.size = n) (htg : ∀ i, i < n → d[i]!.2 = i) (hH : HoldsK encG 6 w blk 0 d) (hblk : blk < w.heap.size) :
    Calls Tryz.prog 46 #[.slice (some ⟨blk, 0, none⟩) n cap, .func (.func 47) #[] #[]] w fun e w' =>
      e = .returned (.tuple #[]) ∧ ∃ m os d', w' = sortWorldK encG 6 w blk 0 m d' os ∧ PermIn 0 n d d' ∧ SortedIn ltG 0 n d' := by
  have HA := Lib.hid (hA d blk cap w hn htg hH hblk)
  clear hH hA htg
  go_enter Tryz.func46, Tryz.ntmps46
  go_wp2_with (go_at_call 84; refine HA.out.mono ?_; rintro e w1 ⟨rfl, m, os, d', rfl, hp, hs⟩)
  go_end0
  exact ⟨rfl, m, os, d', rfl, hp, hs⟩
theorem sortedG_row (W w1 : World) (S : Nat → Prop) (hS : ∀ b, S b → b < W.heap.size) (ms : List (ByteArray × J)) (zs : List MC) (g cap : Nat) (hown : w1.ownsRow W.heap.size 30 6 (.slice (some ⟨g, 0, none⟩) ms.length cap) ms.length (flatM zs))
    (hf : FlatM w1 S ms zs) (hb : Below W.heap.size W w1) (hn60 : ms.length < 576460752303423488) :
    Calls Tryz.prog 46 #[.slice (some ⟨g, 0, none⟩) ms.length cap, .func (.func 47) #[] #[]] w1 fun e w2 =>
      e = .returned (.tuple #[]) ∧ ∃ r zs2, r.Perm ms ∧ Weak r ∧ (∀ u, r.filter (fun m => decide (m.1 = u)) = ms.filter (fun m => decide (m.1 = u))) ∧ FlatM w2 S r zs2 ∧ RowM w2 (.slice (some ⟨g, 0, none⟩) ms.length cap) zs2 ∧ Below W.heap.size W w2 := by
  obtain ⟨ys, rfl⟩ := hf.forms
  have hl : ys.length = ms.length := by have := hf.length; simpa using this
  have hH := holds_of_own hown
  have hg := hown.lt g rfl
  obtain ⟨d, hd⟩ : ∃ d : Array TT, d = (ys.zipIdx 0).toArray := ⟨_, rfl⟩
  have hds : d.size = ms.length := by rw [hd]; simp [hl]
  have hfst : d.map Prod.fst = ys.toArray := by rw [hd]; simp [List.zipIdx_map_fst]
  have htg : ∀ i, i < ms.length → d[i]!.2 = i := fun i hi => by
    rw [getElem!_pos d i (by omega)]; subst hd; simp
  refine (sortStableG_of ms.length (sortG_all _ hn60) d g cap w1 hds htg (holdsG.2 (by rw [hfst]; exact hH)) hg.2).mono ?_
  rintro e w2 ⟨rfl, m, os, d', rfl, hp, hs⟩
  have hd' : d'.size = ms.length := by rw [hp.1]; exact hds
  have hpl := permG_list hds hp
  rw [worldG]
  have hH2 := holdsK_sortWorldK_c encT 6 w1 g 0 ys.toArray (d'.map Prod.fst) m os hH hg.2 (by rw [Array.size_map, hd']; simp [hl])
  have hgr := grownBy_sortWorldK w1 g m (d'.map Prod.fst) os
  obtain ⟨r, r1, r2, r3, r4⟩ := stable_list ms ys hf d'.toList (by rw [hd] at hpl; exact hpl) (by
    rw [List.pairwise_iff_getElem]
    intro i j hi hj hij
    rw [Array.length_toList] at hi hj
    have := hs i j (Nat.zero_le _) hij (by omega)
    rw [getElem!_pos d' j hj, getElem!_pos d' i hi] at this
    simpa using this)
  refine ⟨rfl, r, d'.toList.map fun p => p.1.mc, r1, r2, r3, r4.keeps (Keeps.grown hgr (fun b h e => ?_)) (fun b h _ => h), ?_, hb.grown hgr hb.size (fun k hk => by injection hk with hk; omega)⟩
  · injection e with e; have := hS b h; omega
  · have := row_of_holds (cap := cap) hH2 (Nat.lt_of_lt_of_le hg.2 hgr.size) (n := ms.length) (by rw [Array.size_map]; exact hd')
    rw [show (d'.map Prod.fst).toList.map MT.mc = d'.toList.map fun p => p.1.mc by rw [Array.toList_map, List.map_map]; rfl] at this
    exact this
/-- Members cloned and sorted, nil or not, whatever their names. -/
theorem sortedG_any (W w1 : World) (S : Nat → Prop) (hS : ∀ b, S b → b < W.heap.size) (ms : List (ByteArray × J)) (zs : List MC) (v : Value) (hown : w1.ownsRow W.heap.size 30 6 v ms.length (flatM zs))
    (hf : FlatM w1 S ms zs) (hb : Below W.heap.size W w1) (hn60 : ms.length < 576460752303423488) :
    Calls Tryz.prog 46 #[v, .func (.func 47) #[] #[]] w1 fun e w2 =>
      e = .returned (.tuple #[]) ∧ ∃ r zs2, r.Perm ms ∧ Weak r ∧ (∀ u, r.filter (fun m => decide (m.1 = u)) = ms.filter (fun m => decide (m.1 = u))) ∧ FlatM w2 S r zs2 ∧ RowM w2 v zs2 ∧ Below W.heap.size W w2 := by
  rcases own_form6 hown with rfl | ⟨g, cap, rfl⟩
  · have h0 : ms = [] := by
      rcases hown.2 with ⟨_, h⟩ | ⟨_, _, _, h, _⟩
      · exact List.eq_nil_of_length_eq_zero h
      · simp at h
    subst h0
    have hz : zs = [] := hf
    subst hz
    refine (sorted_nil w1).mono ?_
    rintro e w2 ⟨rfl, rfl⟩
    exact ⟨rfl, [], [], List.Perm.refl _, by unfold Weak; simp, fun _ => rfl, hf, .inl ⟨rfl, rfl⟩, hb⟩
  · exact sortedG_row W w1 S hS ms zs g cap hown hf hb hn60
end Go.Proofs.YtjfgmgkhinehaaaGreatDoor
namespace Go.Proofs.YtjfgmgkhinehaaaGreatDoor
open Go Go.RowKit
theorem infoStrB : (Tryz.prog.info? 9).map (fun i => (i.zero, i.size, i.bytes)) = some (some (.string ByteArray.empty), 1, 16) := by kernel_rfl
/-- Where Obj stands: k of the names, j of the values. -/
structure BInv (W wr : World) (r : List (ByteArray × J)) (k j : Nat) (vL vK : Value) (xs : List Value) : Prop where
  c4 : Blk wr W.heap.size 27 [.int .i64 5, .int .i64 0, .string ⟨#[]⟩, vL, vK]
  oK : wr.ownsRow (W.heap.size + 1) 9 1 vK k (((r.take k).map Prod.fst).map Value.string)
  oL : wr.ownsRow (W.heap.size + 1) 27 5 vL j xs
  fl : FlatJ wr (fun b => W.heap.size + 1 ≤ b ∧ vL.ownBlock ≠ some b ∧ vK.ownBlock ≠ some b) ((r.take j).map Prod.snd) xs
  kl : ∀ g, vL.ownBlock = some g → vK.ownBlock ≠ some g
  bel : Below W.heap.size W wr
  sz : W.heap.size + 1 ≤ wr.heap.size
variable {W wr w4 w5 : World} {r : List (ByteArray × J)} {k j : Nat} {vL vK : Value} {xs : List Value}
theorem BInv.moved (h : BInv W wr r k j vL vK xs) (hm : wr.grownBy w4 none) : BInv W w4 r k j vL vK xs :=
  ⟨h.c4.grown hm (by simp), h.oK.kept hm (Classical.em _), h.oL.kept hm (Classical.em _), h.fl.keeps (Keeps.grown hm (fun b _ e => by cases e)) (fun b h _ => h), h.kl, h.bel.grown hm h.bel.size (fun k hk => by cases hk), Nat.le_trans h.sz hm.size⟩
/-- A name more. -/
theorem BInv.name {t : ByteArray} {g cap : Nat} (h : BInv W wr r k j vL vK xs) (hk : k < r.length) (ht : r[k].1 = t) (hgr : wr.grownBy w5 vK.ownBlock)
    (hown : w5.ownsRow (W.heap.size + 1) 9 1 (.slice (some ⟨g, 0, none⟩) (k + 1) cap) (k + 1) (((r.take k).map Prod.fst).map Value.string ++ [.string t])) (hat : vK.ownBlock = some g ∨ wr.heap.size ≤ g) :
    BInv W (w5.setCell ⟨W.heap.size, 4, none⟩ (.slice (some ⟨g, 0, none⟩) (k + 1) cap)) r (k + 1) j vL (.slice (some ⟨g, 0, none⟩) (k + 1) cap) xs := by
  have g7 := grownBy_setCell w5 W.heap.size 4 (.slice (some ⟨g, 0, none⟩) (k + 1) cap)
  have hgB : W.heap.size + 1 ≤ g := (hown.lt g rfl).1
  have lK := fun b hb => (h.oK.lt b hb).1
  have lL := fun b hb => h.oL.lt b hb
  have hgL : ∀ b, vL.ownBlock = some b → g ≠ b := fun b hb e => by
    rcases hat with h' | h'
    · exact h.kl b hb (by rw [h', e])
    · have := (lL b hb).2; omega
  refine ⟨?_, ?_, ?_, ?_, ?_, ?_, Nat.le_trans h.sz (Nat.le_trans hgr.size g7.size)⟩
  · have : Blk w5 W.heap.size 27 [.int .i64 5, .int .i64 0, .string ⟨#[]⟩, vL, vK] := h.c4.grown hgr (fun e => by have := lK _ e.symm; omega)
    exact this.setCell 4 _
  · rw [show (r.take (k + 1)).map Prod.fst = (r.take k).map Prod.fst ++ [t] by rw [List.take_succ_eq_append_getElem hk, List.map_append, List.map_singleton, ht], List.map_append]
    exact hown.kept g7 (.inr (by simp [Value.ownBlock]; omega))
  · refine (h.oL.kept hgr ?_).kept g7 ?_
    · cases hv : vL.ownBlock with
      | none => exact .inl rfl
      | some b => exact .inr (fun e => h.kl b hv e.symm)
    · cases hv : vL.ownBlock with
      | none => exact .inl rfl
      | some b => exact .inr (fun e => by injection e with e; have := (lL b hv).1; omega)
  · refine h.fl.keeps ⟨Nat.le_trans hgr.size g7.size, fun b h1 h3 => ?_⟩ (fun b h1 h3 => ⟨h1.1, h1.2.1, fun e => ?_⟩)
    · rw [g7.block b (Nat.lt_of_lt_of_le h3 hgr.size) (by intro e; injection e with e; have := h1.1; omega)]
      exact hgr.block b h3 (fun e => h1.2.2 e.symm)
    · have e : g = b := by simpa [Value.ownBlock] using e
      rcases hat with h' | h'
      · exact h1.2.2 (by rw [h', e])
      · omega
  · intro b hb e
    have e : g = b := by simpa [Value.ownBlock] using e
    exact hgL b hb e
  · refine (h.bel.grown hgr h.bel.size (fun b hb => ?_)).grown g7 (Nat.le_trans h.bel.size hgr.size) (fun b hb => ?_)
    · have := lK b hb; omega
    · injection hb with hb; omega
/-- A value more. -/
theorem BInv.value {x : J} {c0 c1 c2 c3 c4 : Value} {g cap : Nat} (h : BInv W wr r k j vL vK xs) (h4 : wr.grownBy w4 none) (hj : j < r.length) (hx : r[j].2 = x) (hr : RepS w4 (fun b => wr.heap.size ≤ b) x (.agg #[c0, c1, c2, c3, c4])) (hgr : w4.grownBy w5 vL.ownBlock)
    (hown : w5.ownsRow (W.heap.size + 1) 27 5 (.slice (some ⟨g, 0, none⟩) (j + 1) cap) (j + 1) (xs ++ [c0, c1, c2, c3, c4])) (hat : vL.ownBlock = some g ∨ w4.heap.size ≤ g) :
    BInv W (w5.setCell ⟨W.heap.size, 3, none⟩ (.slice (some ⟨g, 0, none⟩) (j + 1) cap)) r k (j + 1) (.slice (some ⟨g, 0, none⟩) (j + 1) cap) vK (xs ++ [c0, c1, c2, c3, c4]) := by
  have hI := h.moved h4
  have g7 := grownBy_setCell w5 W.heap.size 3 (.slice (some ⟨g, 0, none⟩) (j + 1) cap)
  have hgB : W.heap.size + 1 ≤ g := (hown.lt g rfl).1
  have lL := fun b hb => (hI.oL.lt b hb).1
  have lK := fun b hb => hI.oK.lt b hb
  have hs := h.sz
  have hgK : ∀ b, vK.ownBlock = some b → g ≠ b := fun b hb e => by
    rcases hat with h' | h'
    · exact h.kl b (by rw [h', e]) hb
    · have := (lK b hb).2; omega
  have hsz : w4.heap.size ≤ (w5.setCell ⟨W.heap.size, 3, none⟩ (.slice (some ⟨g, 0, none⟩) (j + 1) cap)).heap.size := Nat.le_trans hgr.size g7.size
  have key : ∀ b, b < w4.heap.size → W.heap.size + 1 ≤ b → vL.ownBlock ≠ some b → (w5.setCell ⟨W.heap.size, 3, none⟩ (.slice (some ⟨g, 0, none⟩) (j + 1) cap)).heap[b]? = w4.heap[b]? := fun b hk h1 h2 => by
    rw [g7.block b (Nat.lt_of_lt_of_le hk hgr.size) (by intro e; injection e with e; omega)]
    exact hgr.block b hk (fun e => h2 e.symm)
  refine ⟨?_, ?_, ?_, ?_, ?_, ?_, Nat.le_trans hI.sz hsz⟩
  · have : Blk w5 W.heap.size 27 [.int .i64 5, .int .i64 0, .string ⟨#[]⟩, vL, vK] := hI.c4.grown hgr (fun e => by have := lL _ e.symm; omega)
    exact this.setCell 3 _
  · refine (hI.oK.kept hgr ?_).kept g7 ?_
    · cases hv : vK.ownBlock with
      | none => exact .inl rfl
      | some b => exact .inr (fun e => h.kl b e.symm hv)
    · cases hv : vK.ownBlock with
      | none => exact .inl rfl
      | some b => exact .inr (fun e => by injection e with e; have := (lK b hv).1; omega)
  · exact hown.kept g7 (.inr (by simp [Value.ownBlock]; omega))
  · rw [show (r.take (j + 1)).map Prod.snd = (r.take j).map Prod.snd ++ [x] by rw [List.take_succ_eq_append_getElem hj, List.map_append, List.map_singleton, hx]]
    refine FlatJ.snoc ?_ ?_
    · refine RepS.keeps (S := fun b => wr.heap.size ≤ b) ⟨hsz, fun b h1 h3 => ?_⟩ (fun b h1 h3 => ?_) _ _ hr
      · replace h1 : wr.heap.size ≤ b := h1
        exact key b h3 (by omega) (fun e => by have := (h.oL.lt b e).2; omega)
      · replace h1 : wr.heap.size ≤ b := h1
        refine ⟨by omega, fun e => ?_, fun e => by have := (h.oK.lt b e).2; omega⟩
        have e : g = b := by simpa [Value.ownBlock] using e
        rcases hat with h' | h'
        · have := (h.oL.lt g h').2; omega
        · omega
    · refine hI.fl.keeps ⟨hsz, fun b h1 h3 => ?_⟩ (fun b h1 h3 => ?_)
      · exact key b h3 h1.1 h1.2.1
      · refine ⟨h1.1, fun e => ?_, h1.2.2⟩
        have e : g = b := by simpa [Value.ownBlock] using e
        rcases hat with h' | h'
        · exact h1.2.1 (by rw [h', e])
        · omega
  · intro b hb e
    have hb : g = b := by simpa [Value.ownBlock] using hb
    exact hgK b e hb
  · refine (hI.bel.grown hgr hI.bel.size (fun b hb => ?_)).grown g7 (Nat.le_trans hI.bel.size hgr.size) (fun b hb => ?_)
    · have := lL b hb; omega
    · injection hb with hb; omega
/-- The value, when all is built. -/
theorem BInv.done {W0 : World} (h : BInv W wr r r.length r.length vL vK xs) (h0 : W0.heap.size ≤ W.heap.size) (hl : r.length ≤ 1000) (hs : ∀ m ∈ r, m.1.size ≤ 9223372036854775807) :
    RepS wr (fun b => W0.heap.size ≤ b) (.mk 5 0 ⟨#[]⟩ (r.map Prod.snd) (r.map Prod.fst)) (.agg #[.int .i64 5, .int .i64 0, .string ⟨#[]⟩, vL, vK]) := by
  have hK := h.oK
  have hL := h.oL
  have hF := h.fl
  rw [List.take_length] at hK hF
  refine RepS.of_rows (base := W.heap.size + 1) (l := r.map Prod.snd) (k := r.map Prod.fst) (by rw [List.length_map]; exact hL) hF (by rw [List.length_map]; exact hK) (fun b hb _ => show W0.heap.size ≤ b by have := hb.1; omega) (fun b hb => show W0.heap.size ≤ b by omega) (by decide) (by rw [List.length_map]; omega) (by rw [List.length_map]; omega) (fun t ht => ?_)
  obtain ⟨m, hm, rfl⟩ := List.mem_map.1 ht
  exact hs m hm
end Go.Proofs.YtjfgmgkhinehaaaGreatDoor
namespace Go.Proofs.YtjfgmgkhinehaaaGreatDoor
open Go Go.RowKit
theorem FlatM.at {W : World} {S : Nat → Prop} : ∀ {ms : List (ByteArray × J)} {zs : List MC}, FlatM W S ms zs → ∀ j (hj : j < ms.length), zs[j]!.nm = ms[j].1 ∧ ms[j].1.size ≤ 9223372036854775807 ∧ RepS W S ms[j].2 (.agg #[zs[j]!.a0, zs[j]!.a1, zs[j]!.a2, zs[j]!.a3, zs[j]!.a4])
  | m :: r, zs, h, 0, _ => by obtain ⟨z, zs', rfl, h1, h2, h3, _⟩ := h; exact ⟨h1, h2, h3⟩
  | m :: r, zs, h, j + 1, hj => by
    obtain ⟨z, zs', rfl, _, _, _, h⟩ := h
    have := h.at j (by simpa using hj)
    exact this
theorem RowM.grownN {w w2 : World} {v : Value} {zs : List MC} (h : RowM w v zs) (hg : w.grownBy w2 none) : RowM w2 v zs := by
  rcases h with h | ⟨g, c, e, hlt, hc⟩
  · exact .inl h
  · exact .inr ⟨g, c, e, Nat.lt_of_lt_of_le hlt hg.size, fun j hj i u hu => (World.cell?_of_block (hg.block g hlt (by simp))).trans (hc j hj i u hu)⟩
/-- A row of members, as a letter. -/
theorem RowM.form {w : World} {v : Value} {zs : List MC} (h : RowM w v zs) : ∃ A c, v = .slice A zs.length c ∧ ∀ j, j < zs.length → ∃ g, A = some ⟨g, 0, none⟩ ∧ g < w.heap.size ∧ ∀ i u, (encM zs[j]!)[i]? = some u → w.cell? ⟨g, j * 6 + i, none⟩ = some u := by
  rcases h with ⟨rfl, rfl⟩ | ⟨g, c, rfl, hlt, hc⟩
  · exact ⟨none, 0, rfl, fun j hj => by simp at hj⟩
  · exact ⟨_, c, rfl, fun j hj => ⟨g, rfl, hlt, fun i u hu => by have := hc j hj i u hu; rwa [Nat.zero_add] at this⟩⟩
theorem BInv.start (W : World) (r : List (ByteArray × J)) :
    BInv W (W.alloc (.cells #[.int .i64 5, .int .i64 0, .string ⟨#[]⟩, .slice none 0 0, .slice none 0 0] 27)) r 0 0 (.slice none 0 0) (.slice none 0 0) [] := by
  refine ⟨heapAt W rfl [.int .i64 5, .int .i64 0, .string ⟨#[]⟩, .slice none 0 0, .slice none 0 0] _, World.ownsRow_nil _ _ _ _, World.ownsRow_nil _ _ _ _, rfl, fun g h => by simp [Value.ownBlock] at h, ?_, by simp⟩
  exact (Below.refl W.heap.size W).alloc (Nat.le_refl _) _
/-- A row's slice. -/
theorem own_slice {w : World} {base n size : Nat} {e : TypeId} {v : Value} {xs : List Value} (h : w.ownsRow base e size v n xs) : ∃ A c, v = .slice A n c := by
  rcases h.2 with ⟨h, h0⟩ | ⟨g, cap, cur, h, _⟩
  · exact ⟨none, 0, by rw [h0]; exact h⟩
  · exact ⟨_, cap, h⟩
theorem Rises.ne {r : List (ByteArray × J)} (h : Rises r) (k : Nat) (hk : k + 1 < r.length) : r[k + 1].1 ≠ r[k].1 := fun e => by
  have := (List.pairwise_iff_getElem.1 h) k (k + 1) (by omega) hk (by omega)
  rw [e, less_self] at this
  cases this
set_option maxRecDepth 100000 in
set_option maxHeartbeats 16000000 in
theorem obj_of (ms : List (ByteArray × J)) (hok : MsOk ms) (hA : SortAsk ms.length) : OAsk ms := fun w vM zs S hS hf hr => by
  obtain ⟨hl, hnd, hsm⟩ := hok
  obtain ⟨W1, hW1⟩ : ∃ W, W = w.alloc (.cells zeros5.toArray 27) := ⟨_, rfl⟩
  have g1 : w.grownBy W1 none := by rw [hW1]; exact World.grownBy_alloc _ _ none
  have b1 : Blk W1 w.heap.size 27 zeros5 := by rw [hW1]; exact heapAt w rfl zeros5 _
  have z1 : W1.heap.size = w.heap.size + 1 := by rw [hW1]; simp
  have hf1 := hf.keeps (Keeps.grown g1 (fun b _ e => by cases e)) (fun b h _ => h)
  have hS1 : ∀ b, S b → b < W1.heap.size := fun b h => by have := hS b h; omega
  have HC := Lib.hid (cloneM_any W1 S ms zs (by omega) vM hf1 (hr.grownN g1))
  have HSO := Lib.hid (fun w1 v hown hf hb => sorted_any W1 w1 S hS1 ms zs v hown hf hb hnd hA)
  have HF1 := Lib.hid hf1
  have HW1 := Lib.hid hW1
  have HB1 := Lib.hid b1
  have HZ1 := Lib.hid z1
  have HG1 := Lib.hid g1
  have HPU := Lib.hid (fun (r : List (ByteArray × J)) (hp : r.Perm ms) (hr : Rises r) => puts_of_rises hnd hp hr)
  have HSM := Lib.hid hsm
  have HL := Lib.hid hl
  have HS := Lib.hid hS1
  obtain ⟨iJ, hJ, hJ0, hJ1, hJ2⟩ := info_parts infoJp
  obtain ⟨iS, hT, hT0, hT1, hT2⟩ := info_parts infoStrB
  clear g1 b1 z1 hf1 hS1 hS hf hr hl hnd hsm hA hW1
  go_enter Tryz.func12, Tryz.ntmps12
  go_wp2_with fail
  rw [show (w.alloc (.cells #[.int .i64 0, .int .i64 0, .string ⟨#[]⟩, .slice none 0 0, .slice none 0 0] 27)) = W1 from HW1.out.symm]
  refine HC.out.mono ?_
  rintro e w2 ⟨v2, rfl, hown, hb2⟩
  have HSC := Lib.hid (HSO.out w2 v2 hown (HF1.out.keeps (Keeps.below hb2 (fun b h _ => HS.out b h)) (fun b h _ => h)) hb2)
  clear hown hb2
  go_wp2_with fail
  refine HSC.out.mono ?_
  rintro e w3 ⟨rfl, r, zs2, hp, hri, hf3, hr3, hb3⟩
  obtain ⟨A, c, rfl, hcs⟩ := hr3.form
  have hrl : r.length = zs2.length := hf3.length.symm
  have hn3 : zs2.length ≤ 256 := by have := HL.out; have := hp.length_eq; omega
  obtain ⟨n, hn⟩ : ∃ n, n = zs2.length := ⟨_, rfl⟩
  rw [← hn] at hcs hrl hn3 ⊢
  have HCS := Lib.hid hcs
  have HRL := Lib.hid hrl
  have HF3 := Lib.hid hf3
  have HB3 := Lib.hid hb3
  have HP := Lib.hid hp
  have HRI := Lib.hid hri
  clear hp hri hf3 hr3 hb3 hcs hrl hn
  go_wp2_with fail
  go_loopw [14] (fun jv wr => ∃ k : Nat, k ≤ n ∧ jv = .int .i64 (k : Int) ∧ ∃ vL vK xs, BInv w3 wr r k k vL vK xs) (fun jv _ => n - (intOf jv).toNat)
  case atStart => exact ⟨0, Nat.zero_le _, rfl, _, _, _, BInv.start w3 r⟩
  case round =>
    obtain ⟨k, hk, rfl, vL, vK, xs, hB⟩ := hrel
    by_cases hlt : k < n
    · have hkr : k < r.length := by rw [HRL.out]; exact hlt
      obtain ⟨g, rfl, hglt, hc⟩ := HCS.out k hlt
      obtain ⟨hnm, hns, hx⟩ := HF3.out.at k hkr
      obtain ⟨vk, A2, c2, e, -, ⟨K2, d2, ek, -⟩, -⟩ := hx.open
      simp only [Value.agg.injEq, Array.mk.injEq, List.cons.injEq, and_true] at e
      obtain ⟨y0, hy0⟩ : ∃ a, a = r[k].2.kind := ⟨_, rfl⟩
      obtain ⟨y1, hy1⟩ : ∃ a, a = r[k].2.n := ⟨_, rfl⟩
      obtain ⟨y2, hy2⟩ : ∃ a, a = r[k].2.s := ⟨_, rfl⟩
      obtain ⟨y3, hy3⟩ : ∃ a, a = r[k].2.l.length := ⟨_, rfl⟩
      obtain ⟨y4, hy4⟩ : ∃ a, a = r[k].2.k.length := ⟨_, rfl⟩
      rw [← hy0, ← hy1, ← hy2, ← hy3] at e
      rw [← hy4] at ek
      obtain ⟨e0, e1, e2, e3, e4⟩ := e
      rw [ek] at e4
      obtain ⟨t, ht⟩ : ∃ t, t = r[k].1 := ⟨_, rfl⟩
      rw [← ht] at hnm hns
      have hcell : ∀ (a : Nat) (u : Value), (encM zs2[k]!)[a]? = some u → wr.cell? ⟨g, k * 6 + a, none⟩ = some u := fun a u hu => (hB.bel.cell (p := ⟨g, k * 6 + a, none⟩) hglt).trans (hc a u hu)
      have q0 : wr.cell? ⟨g, k * 6, none⟩ = some (.string t) := hcell 0 _ (by show some (Value.string zs2[k]!.nm) = _; rw [hnm])
      have q1 : wr.cell? ⟨g, k * 6 + 1, none⟩ = some (.int .i64 y0) := hcell 1 _ (by show some zs2[k]!.a0 = _; rw [e0])
      have q2 : wr.cell? ⟨g, k * 6 + 2, none⟩ = some (.int .i64 y1) := hcell 2 _ (by show some zs2[k]!.a1 = _; rw [e1])
      have q3 : wr.cell? ⟨g, k * 6 + 3, none⟩ = some (.string y2) := hcell 3 _ (by show some zs2[k]!.a2 = _; rw [e2])
      have q4 : wr.cell? ⟨g, k * 6 + 4, none⟩ = some (.slice A2 y3 c2) := hcell 4 _ (by show some zs2[k]!.a3 = _; rw [e3])
      have q5 : wr.cell? ⟨g, k * 6 + 5, none⟩ = some (.slice K2 y4 d2) := hcell 5 _ (by show some zs2[k]!.a4 = _; rw [e4])
      have hnext : k + 1 < n → ∃ t', t' ≠ t ∧ wr.cell? ⟨g, (k + 1) * 6, none⟩ = some (.string t') := fun h1 => by
        have hkr1 : k + 1 < r.length := by rw [HRL.out]; exact h1
        obtain ⟨g', e', hg', hc'⟩ := HCS.out (k + 1) h1
        injection e' with e'; injection e' with e'
        subst e'
        refine ⟨r[k + 1].1, by rw [ht]; exact HRI.out.ne k hkr1, ?_⟩
        exact (hB.bel.cell (p := ⟨g, (k + 1) * 6, none⟩) hglt).trans (hc' 0 _ (by show some (Value.string zs2[k + 1]!.nm) = _; rw [(HF3.out.at (k + 1) hkr1).1]))
      have hgr0 := World.grownBy_alloc wr (.cells #[.string t, .int .i64 y0, .int .i64 y1, .string y2, .slice A2 y3 c2, .slice K2 y4 d2] 30) none
      have HB6 := Lib.hid (hB.moved hgr0)
      have HC6 : Hid (Blk (wr.alloc (.cells #[.string t, .int .i64 y0, .int .i64 y1, .string y2, .slice A2 y3 c2, .slice K2 y4 d2] 30)) wr.heap.size 30 [.string t, .int .i64 y0, .int .i64 y1, .string y2, .slice A2 y3 c2, .slice K2 y4 d2] ∧ w3.heap.size + 1 ≤ wr.heap.size ∧ g < w3.heap.size) := Lib.hid ⟨heapAt wr rfl [.string t, .int .i64 y0, .int .i64 y1, .string y2, .slice A2 y3 c2, .slice K2 y4 d2] _, hB.sz, hglt⟩
      have HNX : Hid (k + 1 < n → ∃ t', t' ≠ t ∧ (wr.alloc (.cells #[.string t, .int .i64 y0, .int .i64 y1, .string y2, .slice A2 y3 c2, .slice K2 y4 d2] 30)).cell? ⟨g, (k + 1) * 6, none⟩ = some (.string t')) := Lib.hid fun h => by
        obtain ⟨t', h1, h2⟩ := hnext h
        exact ⟨t', h1, (cell_grown h2 hgr0 (by simp)).trans rfl⟩
      have HLT : Hid ((∀ b, vK.ownBlock = some b → w3.heap.size + 1 ≤ b ∧ b < wr.heap.size) ∧ (∀ b, vL.ownBlock = some b → w3.heap.size + 1 ≤ b ∧ b < wr.heap.size)) := Lib.hid ⟨fun b h => hB.oK.lt b h, fun b h => hB.oL.lt b h⟩
      have HHT := Lib.hid ht
      have HHY := Lib.hid (And.intro hy0 (And.intro hy1 (And.intro hy2 (And.intro hy3 hy4))))
      have hk0 : (0 : Int) ≤ (k : Int) := by omega
      have hk1 : (k : Int) < (n : Int) := by omega
      rw [e0, e1, e2, e3, e4] at hx
      have hsmX := HSM.out _ ((HP.out.mem_iff).1 (List.getElem_mem hkr))
      obtain ⟨X, hX⟩ : ∃ X, X = r[k].2 := ⟨_, rfl⟩
      rw [← hX] at hx hsmX
      have HXX := Lib.hid hX
      have HCL : Hid (∀ W', Below w3.heap.size w3 W' → Calls Tryz.prog 49 #[.agg #[.int .i64 y0, .int .i64 y1, .string y2, .slice A2 y3 c2, .slice K2 y4 d2]] W' (Cl W' X)) := Lib.hid fun W' hW =>
        clone_any X hsmX S W' _ (fun b h => by have := HS.out b h; have := HB3.out.size; have := hW.size; omega)
          (RepS.keeps (Keeps.below hW (fun b _ h => h)) (fun _ h _ => h) _ _ hx)
      have HKR := Lib.hid hkr
      clear hB hnm hx hX hsmX e0 e1 e2 e3 e4 ek hcell hc hnext hgr0 ht hy0 hy1 hy2 hy3 hy4
      go_wp2
      obtain ⟨W6, hW6⟩ : ∃ W, W = wr.alloc (.cells #[.string t, .int .i64 y0, .int .i64 y1, .string y2, .slice A2 y3 c2, .slice K2 y4 d2] 30) := ⟨_, rfl⟩
      obtain ⟨q, hq⟩ : ∃ q, q = wr.heap.size := ⟨_, rfl⟩
      rw [← hW6] at HB6 HC6 HNX ⊢
      rw [← hq] at HC6 HLT ⊢
      clear hW6 hq q0 q1 q2 q3 q4 q5 hglt
      have d0 := HC6.out.1.cell 0
      go_cut [34] from 15 to 50 (fun v34 wx => v34 = .bool false ∧ ∃ z, wx = W6.drewN z)
      case first =>
        by_cases h1 : k + 1 < n
        · obtain ⟨t', hne, hcl⟩ := HNX.out h1
          have hd : decide ((k : Int) + 1 < (n : Int)) = true := decide_eq_true (by omega)
          have hd' : (k : Int) + 1 < (n : Int) := by omega
          have e9 : (t'.toList == t.toList) = false := by rw [eq_toList]; exact decide_eq_false hne
          go_quiet (fail)
          go_wp2_with fail
          go_meet
          case rel => exact ⟨rfl, _, rfl⟩
        · have hd : decide ((k : Int) + 1 < (n : Int)) = false := decide_eq_false (by omega)
          have hd' : ¬ (k : Int) + 1 < (n : Int) := by omega
          go_quiet (fail)
          go_wp2_with fail
          go_meet
          case rel => exact ⟨rfl, _, rfl⟩
      case rest =>
        obtain ⟨rfl, z, rfl⟩ := hcut
        have HB7 := Lib.hid (HB6.out.moved (grown_drewN z none))
        have hd7 : Blk (W6.drewN z) q 30 [.string t, .int .i64 y0, .int .i64 y1, .string y2, .slice A2 y3 c2, .slice K2 y4 d2] := HC6.out.1.drewN z
        obtain ⟨W7, hW7⟩ : ∃ W, W = W6.drewN z := ⟨_, rfl⟩
        rw [← hW7] at HB7 hd7 ⊢
        have HD7 := Lib.hid hd7
        have m0 : W7.cell? ⟨q, 0, none⟩ = some (.string t) := hd7.cell 0
        have a3 : W7.cell? ⟨w3.heap.size, 3, none⟩ = some vL := HB7.out.c4.cell 3
        have a4 : W7.cell? ⟨w3.heap.size, 4, none⟩ = some vK := HB7.out.c4.cell 4
        obtain ⟨ns, hns⟩ : ∃ ns, ns = ((r.take k).map Prod.fst).map Value.string := ⟨_, rfl⟩
        have hoK7 := HB7.out.oK
        rw [← hns] at hoK7
        have HOK7 := Lib.hid hoK7
        have HNS := Lib.hid hns
        clear hW7 hd7 d0 hns hoK7
        go_wp2_with (at_builtin; refine wpList_append_lies _ rfl _ _ 22 rfl (w3.heap.size + 1) 9 iS (.string ByteArray.empty) 1 16 Tryz.underlying22 hT hT0 hT1 hT2 rfl (by decide) vK k ns rfl (HOK7.out.alloc _) ⟨W7.heap.size, 0, none⟩ 1 1 [.string t] rfl rfl ?c1 ?c2 (by decide) ?c3 ?c4 ?c5 _ rfl ?_)
        case c1 => exact cell_one_new _ _ _
        case c2 => intro u hu; simp at hu; subst hu; rfl
        case c3 => unfold maxLen; omega
        case c4 => omega
        case c5 => have := HB7.out.sz; simp; omega
        intro g5 cap5 w5 hown5 hgrow5 hat5 hlt5
        have hgrA := World.grownBy_alloc W7 (.cells #[.string t] 9) none
        have hqne : (some q : Option Nat) ≠ vK.ownBlock := fun e => by have := (HLT.out.1 q e.symm).2; omega
        have hbne : (some w3.heap.size : Option Nat) ≠ vK.ownBlock := fun e => by have := (HLT.out.1 _ e.symm).1; omega
        have b5 : Blk w5 w3.heap.size 27 [.int .i64 5, .int .i64 0, .string ⟨#[]⟩, vL, vK] := (HB7.out.c4.grownN hgrA).grown hgrow5 hbne
        have m5 : Blk w5 q 30 [.string t, .int .i64 y0, .int .i64 y1, .string y2, .slice A2 y3 c2, .slice K2 y4 d2] := (HD7.out.grownN hgrA).grown hgrow5 hqne
        have HNB : Hid (BInv w3 (w5.setCell ⟨w3.heap.size, 4, none⟩ (.slice (some ⟨g5, 0, none⟩) (k + 1) cap5)) r (k + 1) k vL (.slice (some ⟨g5, 0, none⟩) (k + 1) cap5) xs) := Lib.hid
          ((HB7.out.moved hgrA).name HKR.out HHT.out.symm hgrow5 (by rw [← HNS.out]; exact hown5) (hat5.imp_right (fun h => by rw [h]; simp)))
        have hm8 : Blk (w5.setCell ⟨w3.heap.size, 4, none⟩ (.slice (some ⟨g5, 0, none⟩) (k + 1) cap5)) q 30 [.string t, .int .i64 y0, .int .i64 y1, .string y2, .slice A2 y3 c2, .slice K2 y4 d2] := m5.grown (grownBy_setCell _ _ _ _) (fun e => by injection e with e; have := HC6.out.2.1; omega)
        have HM8 := Lib.hid hm8
        have HG5 : Hid (w3.heap.size + 1 ≤ g5) := Lib.hid (hown5.lt g5 rfl).1
        have x4 := b5.cell 4
        have f4 := b5.frozen 4
        clear hown5 hgrow5 hat5 hlt5 hgrA hqne hbne b5 m5 hm8 m0 a3 a4
        go_wp2
        obtain ⟨vK', hvK⟩ : ∃ v, v = Value.slice (some ⟨g5, 0, none⟩) (k + 1) cap5 := ⟨_, rfl⟩
        rw [← hvK] at HNB HM8 ⊢
        obtain ⟨W8, hW8⟩ : ∃ W, W = w5.setCell ⟨w3.heap.size, 4, none⟩ vK' := ⟨_, rfl⟩
        rw [← hW8] at HNB HM8 ⊢
        clear hW8 hvK x4 f4
        have p3 : W8.cell? ⟨w3.heap.size, 3, none⟩ = some vL := HNB.out.c4.cell 3
        obtain ⟨p4, p5, p6, p7, p8⟩ : W8.cell? ⟨q, 1, none⟩ = some (.int .i64 y0) ∧ W8.cell? ⟨q, 2, none⟩ = some (.int .i64 y1) ∧ W8.cell? ⟨q, 3, none⟩ = some (.string y2) ∧ W8.cell? ⟨q, 4, none⟩ = some (.slice A2 y3 c2) ∧ W8.cell? ⟨q, 5, none⟩ = some (.slice K2 y4 d2) := ⟨HM8.out.cell 1, HM8.out.cell 2, HM8.out.cell 3, HM8.out.cell 4, HM8.out.cell 5⟩
        have HC8 := Lib.hid (fun W' (hW : Below W8.heap.size W8 W') => HCL.out W' (HNB.out.bel.trans (hW.mono (Nat.le_of_succ_le HNB.out.sz))))
        have hlt8 : w3.heap.size < W8.heap.size := HNB.out.sz
        go_region_law (first
          | (go_simp; go_at_call 49; (with_reducible refine (HC8.out _ ((Below.refl W8.heap.size W8).drew)).mono ?_); rintro e w9 ⟨v', rfl, hrep, hb9⟩
             obtain ⟨vk, A3, c3, rfl, -, ⟨K3, d3, rfl, -, -⟩, -, -⟩ := hrep.open
             obtain ⟨x0, hx0⟩ : ∃ a, a = X.kind := ⟨_, rfl⟩
             obtain ⟨x1, hx1⟩ : ∃ a, a = X.n := ⟨_, rfl⟩
             obtain ⟨x2, hx2⟩ : ∃ a, a = X.s := ⟨_, rfl⟩
             obtain ⟨x3, hx3⟩ : ∃ a, a = X.l.length := ⟨_, rfl⟩
             obtain ⟨x4, hx4⟩ : ∃ a, a = X.k.length := ⟨_, rfl⟩
             rw [← hx0, ← hx1, ← hx2, ← hx3, ← hx4] at hrep ⊢
             clear hx0 hx1 hx2 hx3 hx4
             have HB9 : Hid (Below W8.heap.size W8 w9) := Lib.hid (((Below.refl W8.heap.size W8).drew).trans hb9)
             have HREP : Hid (RepS w9 (fun b => W8.heap.size ≤ b) X (.agg #[.int .i64 x0, .int .i64 x1, .string x2, .slice A3 x3 c3, .slice K3 x4 d3])) := Lib.hid (RepS.keeps (Keeps.refl _ w9) (fun b (h : _ ≤ b) _ => h) _ _ hrep)
             have p3' : w9.cell? ⟨w3.heap.size, 3, none⟩ = some vL := (HB9.out.cell (p := ⟨w3.heap.size, 3, none⟩) hlt8).trans p3
             have hz9 : W8.heap.size ≤ w9.heap.size := HB9.out.size
             have p3'' : (w9.alloc (.cells #[.int .i64 x0, .int .i64 x1, .string x2, .slice A3 x3 c3, .slice K3 x4 d3] 27)).cell? ⟨w3.heap.size, 3, none⟩ = some vL := cell_grown p3' (World.grownBy_alloc w9 _ none) (by simp)
             clear hrep hb9)
          | (have HGN : Hid (W8.grownBy (w9.alloc (.cells #[.int .i64 x0, .int .i64 x1, .string x2, .slice A3 x3 c3, .slice K3 x4 d3] 27)) none) := Lib.hid ((grownBy_of_below HB9.out none).trans (World.grownBy_alloc _ _ none))
             refine step_append_lies _ (by rfl) _ _ _ (by rfl) (w3.heap.size + 1) 27 iJ (.agg zeros5.toArray) 5 80 Tryz.underlying23 hJ hJ0 hJ1 hJ2 rfl (by omega) vL k xs (by rfl) (HNB.out.moved HGN.out).oL ⟨w9.heap.size, 0, none⟩ 1 1 [.int .i64 x0, .int .i64 x1, .string x2, .slice A3 x3 c3, .slice K3 x4 d3] (by rfl) (by rfl) (World.news_of_block (cs := #[.int .i64 x0, .int .i64 x1, .string x2, .slice A3 x3 c3, .slice K3 x4 d3]) (t := 27) (fr := (0, 0)) (heap_alloc_new w9 _)) (by simp [Value.oneCell']) (by omega) (by unfold maxLen; omega) (by omega) (by simp; omega) (w9.heap.size + 1) (by simp) ?_
             intro g6 cap6 w10 hown6 hgrow6 hat6 hlt6
             have b10 : Blk w10 w3.heap.size 27 [.int .i64 5, .int .i64 0, .string ⟨#[]⟩, vL, vK'] := (HNB.out.c4.grownN HGN.out).grown hgrow6 (fun e => by have := (HLT.out.2 _ e.symm).1; omega)
             have x10 := b10.cell 3
             have f10 := b10.frozen 3
             clear b10
             try go_frame))
        all_goals
          have HF : Hid (BInv w3 (w10.setCell ⟨w3.heap.size, 3, none⟩ (.slice (some ⟨g6, 0, none⟩) (k + 1) cap6)) r (k + 1) (k + 1) (.slice (some ⟨g6, 0, none⟩) (k + 1) cap6) vK' (xs ++ [.int .i64 x0, .int .i64 x1, .string x2, .slice A3 x3 c3, .slice K3 x4 d3])) := Lib.hid
            (HNB.out.value HGN.out HKR.out HXX.out.symm (RepS.keeps (Keeps.grown (World.grownBy_alloc w9 _ none) (fun b _ e => by cases e)) (fun _ h _ => h) _ _ HREP.out) hgrow6 hown6 (hat6.imp_right (fun h => by rw [h]; simp)))
          clear hown6 hgrow6 hat6 hlt6 x10 f10 p3 p4 p5 p6 p7 p8 p3' p3'' hz9
          go_wp2_with fail
          go_roundw
          case rel => exact ⟨k + 1, by omega, by go_num, _, _, _, HF.out⟩
          case measure => simp [intOf]; omega
    · obtain rfl : k = n := by omega
      have hkn : ¬ (k : Int) < (k : Int) := by omega
      obtain ⟨A6, c6, rfl⟩ := own_slice hB.oL
      obtain ⟨A7, c7, rfl⟩ := own_slice hB.oK
      have hbl1 : Below W1.heap.size W1 wr := HB3.out.trans (hB.bel.mono HB3.out.size)
      have hz : Blk wr w.heap.size 27 zeros5 := HB1.out.below hbl1 (by have := HZ1.out; omega)
      have hdone : RepS wr (fun b => W1.heap.size ≤ b) (.mk 5 0 ⟨#[]⟩ (r.map Prod.snd) (r.map Prod.fst)) (.agg #[.int .i64 5, .int .i64 0, .string ⟨#[]⟩, .slice A6 k c6, .slice A7 k c7]) := by
        have hB' := hB
        rw [← HRL.out] at hB'
        have := hB'.done (W0 := W1) HB3.out.size (by rw [HRL.out]; omega) (fun m hm => by
          obtain ⟨i, hi, rfl⟩ := List.mem_iff_getElem.1 hm
          exact (HF3.out.at i hi).2.1)
        rw [HRL.out] at this
        exact this
      have hset := blk_set5 hz (.int .i64 5) (.int .i64 0) (.string ⟨#[]⟩) (.slice A6 k c6) (.slice A7 k c7)
      have HF := Lib.hid hset
      have HBL := Lib.hid hbl1
      have HDN := Lib.hid hdone
      have HPT : Hid (putsL ms = (r.map Prod.fst, r.map Prod.snd)) := Lib.hid (HPU.out r HP.out HRI.out)
      have hc4 := hB.c4
      obtain ⟨a0, a1, a2, a3, a4⟩ : wr.cell? ⟨w3.heap.size, 0, none⟩ = some (.int .i64 5) ∧ wr.cell? ⟨w3.heap.size, 1, none⟩ = some (.int .i64 0) ∧ wr.cell? ⟨w3.heap.size, 2, none⟩ = some (.string ⟨#[]⟩) ∧ wr.cell? ⟨w3.heap.size, 3, none⟩ = some (.slice A6 k c6) ∧ wr.cell? ⟨w3.heap.size, 4, none⟩ = some (.slice A7 k c7) := ⟨hc4.cell 0, hc4.cell 1, hc4.cell 2, hc4.cell 3, hc4.cell 4⟩
      obtain ⟨b0, b1, b2, b3, b4⟩ : wr.cell? ⟨w.heap.size, 0, none⟩ = some (.int .i64 0) ∧ wr.cell? ⟨w.heap.size, 1, none⟩ = some (.int .i64 0) ∧ wr.cell? ⟨w.heap.size, 2, none⟩ = some (.string ⟨#[]⟩) ∧ wr.cell? ⟨w.heap.size, 3, none⟩ = some (.slice none 0 0) ∧ wr.cell? ⟨w.heap.size, 4, none⟩ = some (.slice none 0 0) := ⟨hz.cell 0, hz.cell 1, hz.cell 2, hz.cell 3, hz.cell 4⟩
      obtain ⟨f0, f1, f2, f3, f4⟩ : wr.frozen? ⟨w.heap.size, 0, none⟩ = false ∧ wr.frozen? ⟨w.heap.size, 1, none⟩ = false ∧ wr.frozen? ⟨w.heap.size, 2, none⟩ = false ∧ wr.frozen? ⟨w.heap.size, 3, none⟩ = false ∧ wr.frozen? ⟨w.heap.size, 4, none⟩ = false := ⟨hz.frozen 0, hz.frozen 1, hz.frozen 2, hz.frozen 3, hz.frozen 4⟩
      clear hB hbl1 hz hdone hset hc4
      go_wp2
      refine bodyPost_ret (results_blk1 Tryz.results12 _ _ w.heap.size _ _ _ rfl HF.out.1 Tryz.underlying27 rfl sizeJson) rfl ?_
      rw [HPT.out]
      refine ⟨_, rfl, RepS.keeps (Keeps.grown HF.out.2 (fun b (h : _ ≤ b) e => by injection e with e; have := HZ1.out; omega)) (fun b (h : _ ≤ b) _ => show w.heap.size ≤ b by have := HZ1.out; omega) _ _ HDN.out, ?_⟩
      have hw1 : Below w.heap.size w W1 := by rw [HW1.out]; exact (Below.refl w.heap.size w).alloc (Nat.le_refl _) _
      exact (hw1.trans (HBL.out.mono (by have := HZ1.out; omega))).grown HF.out.2 (by have := HBL.out.size; have := HZ1.out; omega) (by intro k hk; injection hk with hk; omega)
end Go.Proofs.YtjfgmgkhinehaaaGreatDoor
