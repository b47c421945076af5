/- JpStable, JpSorted, JpSwap, JpRot, JpSymMath, JpBlocks, StUp, StDown: merged. -/
import Derived.Sort.LotA
import Derived.Shelf.SlicesQ.Reverse
import Derived.Shelf.SlSortFuncK.ComposeK
import Derived.Test.YtjfgmgkhinehaaaGreatDoorCx30
set_option linter.all false
namespace Go.Proofs.YtjfgmgkhinehaaaGreatDoor
open Go Go.RowKit Go.Sort
theorem rises_of {d : Array MT} {r : List (ByteArray × J)} (hnm : r.map Prod.fst = d.toList.map MT.nm) (hn : (r.map Prod.fst).Nodup) (hs : SortedIn (ltOf cmpM) 0 d.size d) : Rises r := by
  unfold Rises
  have hl : r.length = d.size := by have := congrArg List.length hnm; simpa using this
  have e : ∀ k (hk : k < r.length), r[k].1 = (d[k]!).nm := fun k hk => by
    have h1 : (r.map Prod.fst)[k]? = (d.toList.map MT.nm)[k]? := by rw [hnm]
    rw [List.getElem?_map, List.getElem?_map, List.getElem?_eq_getElem hk, List.getElem?_eq_getElem (by rw [Array.length_toList]; omega)] at h1
    simp only [Option.map_some, Option.some.injEq] at h1
    rw [h1, getElem!_pos d k (by omega)]
    rfl
  rw [List.pairwise_iff_getElem]
  intro i j hi hj hij
  have h1 := hs i j (Nat.zero_le _) hij (by omega)
  rw [ltOf_cmpM] at h1
  have hne := List.pairwise_iff_getElem.1 hn i j (by simpa using hi) (by simpa using hj) hij
  rw [List.getElem_map, List.getElem_map, e i hi, e j hj] at hne
  rw [e i hi, e j hj]
  exact less_total (fun h => hne h.symm) h1
/-- What is asked of the sort of so many members. -/
def SortAsk (n : Nat) : Prop := ∀ (d : Array MT) (blk cap : Nat) (w : World), d.size = n → HoldsK encT 6 w blk 0 d → blk < w.heap.size →
  Calls Tryz.prog 84 #[.slice (some ⟨blk, 0, none⟩) n cap, .int .i64 n, .func (.func 47) #[] #[]] w fun e w' =>
    e = .returned (.tuple #[]) ∧ ∃ m os d', w' = sortWorldK encT 6 w blk 0 m d' os ∧ PermIn 0 n d d' ∧ SortedIn (ltOf cmpM) 0 n d'
set_option maxRecDepth 100000 in
set_option maxHeartbeats 2000000 in
theorem sortStable_of (n : Nat) (hA : SortAsk n) (d : Array MT) (blk cap : Nat) (w : World) (hn : d.size = n) (hH : HoldsK encT 6 w blk 0 d) (hblk : blk < w.heap.size) :
    Calls Tryz.prog 46 #[.slice (some ⟨blk, 0, none⟩) n cap, .func (.func 47) #[] #[]] w fun e w' =>
      e = .returned (.tuple #[]) ∧ ∃ m os d', w' = sortWorldK encT 6 w blk 0 m d' os ∧ PermIn 0 n d d' ∧ SortedIn (ltOf cmpM) 0 n d' := by
  have HA := Lib.hid (hA d blk cap w hn hH hblk)
  clear hH hA
  go_enter Tryz.func46, Tryz.ntmps46
  go_wp2_with (go_at_call 84; refine HA.out.mono ?_; rintro e w1 ⟨rfl, m, os, d', rfl, hp, hs⟩)
  go_end0
  exact ⟨rfl, m, os, d', rfl, hp, hs⟩
theorem holds_of_own {w : World} {base g cap n : Nat} {ys : List MT} (h : w.ownsRow base 30 6 (.slice (some ⟨g, 0, none⟩) n cap) n (flatM (ys.map MT.mc))) : HoldsK encT 6 w g 0 ys.toArray := fun j hj => by
  rw [size_flatK] at hj
  have hj : j < ys.length * 6 := by simpa using hj
  have hq : j / 6 < ys.length := by omega
  refine ⟨?_, own_frozen h _⟩
  have hu : (encM (ys.map MT.mc)[j / 6]!)[j % 6]? = some (encT ys.toArray[j / 6]!)[j % 6]! := by
    have e1 : (ys.map MT.mc)[j / 6]! = (ys.toArray[j / 6]!).mc := by
      rw [getElem!_pos (ys.map MT.mc) (j / 6) (by simpa using hq), getElem!_pos ys.toArray (j / 6) (by simpa using hq)]
      simp
    rw [e1]
    have h6 : (encM (ys.toArray[j / 6]!).mc).length = 6 := rfl
    rw [List.getElem?_eq_getElem (by omega)]
    show some _ = some (encM (ys.toArray[j / 6]!).mc)[j % 6]!
    rw [getElem!_pos _ (j % 6) (by omega)]
  have := h.cells rfl _ _ (flatM_at (ys.map MT.mc) (j / 6) (by simpa using hq) (j % 6) _ hu)
  rw [Addr.add_mid, show 0 + (j / 6 * 6 + j % 6) = 0 + j by omega] at this
  rw [this, get_flatK _ _ _ _ (by simpa using hj)]
  rfl
theorem grownBy_sortWorldK (w : World) (g m : Nat) (d : Array MT) (os : Array Obj) : w.grownBy (sortWorldK encT 6 w g 0 m d os) (some g) := by
  refine ⟨rfl, rfl, rfl, size_sortWorldK_c encT 6 w g 0 m d os, fun b hb hne => ?_⟩
  have hne : g ≠ b := fun e => hne (by rw [e])
  unfold sortWorldK
  rw [heap_grow_old _ _ (by rw [size_putRowK]; exact hb)]
  unfold putRowK putRow mapBlock
  simp [Array.getElem?_modify, hne, Sort.ahead]
end Go.Proofs.YtjfgmgkhinehaaaGreatDoor
namespace Go.Proofs.YtjfgmgkhinehaaaGreatDoor
open Go Go.RowKit Go.Sort
theorem permIn_list {n : Nat} {d d' : Array MT} (hn : d.size = n) (h : PermIn 0 n d d') : d'.toList.Perm d.toList := by
  have h2 := h.2.2
  have h1 := h.1
  rw [← hn] at h2
  rwa [show d'.extract 0 d.size = d' by rw [← h1]; simp, show d.extract 0 d.size = d by simp] at h2
/-- A row that the sort's world holds. -/
theorem row_of_holds {w : World} {g cap n : Nat} {d : Array MT} (hH : HoldsK encT 6 w g 0 d) (hg : g < w.heap.size) (hn : d.size = n) : RowM w (.slice (some ⟨g, 0, none⟩) n cap) (d.toList.map MT.mc) := by
  refine .inr ⟨g, cap, by simp [hn], hg, fun j hj i u hu => ?_⟩
  have hjd : j < d.size := by simpa using hj
  have e1 : (d.toList.map MT.mc)[j]! = (d[j]!).mc := by
    rw [getElem!_pos (d.toList.map MT.mc) j hj, getElem!_pos d j hjd]; simp
  rw [e1] at hu
  have := HoldsK.cells hH (fun _ => rfl) hjd i u hu
  rwa [Addr.add_lit] at this
theorem sorted_row (W w1 : World) (S : Nat → Prop) (hS : ∀ b, S b → b < W.heap.size) (ms : List (ByteArray × J)) (zs : List MC) (g cap : Nat) (hown : w1.ownsRow W.heap.size 30 6 (.slice (some ⟨g, 0, none⟩) ms.length cap) ms.length (flatM zs))
    (hf : FlatM w1 S ms zs) (hb : Below W.heap.size W w1) (hn : (ms.map Prod.fst).Nodup) (hA : SortAsk ms.length) :
    Calls Tryz.prog 46 #[.slice (some ⟨g, 0, none⟩) ms.length cap, .func (.func 47) #[] #[]] w1 fun e w2 =>
      e = .returned (.tuple #[]) ∧ ∃ r zs2, r.Perm ms ∧ Rises r ∧ FlatM w2 S r zs2 ∧ RowM w2 (.slice (some ⟨g, 0, none⟩) ms.length cap) zs2 ∧ Below W.heap.size W w2 := by
  obtain ⟨ys, rfl⟩ := hf.forms
  have hl : ys.length = ms.length := by have := hf.length; simpa using this
  have hH := holds_of_own hown
  have hg := hown.lt g rfl
  refine (sortStable_of ms.length hA ys.toArray g cap w1 (by simpa using hl) hH hg.2).mono ?_
  rintro e w2 ⟨rfl, m, os, d', rfl, hp, hs⟩
  have hd : d'.size = ms.length := by rw [hp.1]; simpa using hl
  have hpl := permIn_list (by simpa using hl) hp
  have hH2 := holdsK_sortWorldK_c encT 6 w1 g 0 ys.toArray d' m os hH hg.2 hp.1
  have hgr := grownBy_sortWorldK w1 g m d' os
  obtain ⟨r, hr1, hr2⟩ := FlatM.perm ((hpl.map MT.mc).symm) ms hf
  refine ⟨rfl, r, d'.toList.map MT.mc, hr1, ?_, hr2.keeps (Keeps.grown hgr (fun b h e => ?_)) (fun b h _ => h), row_of_holds hH2 (Nat.lt_of_lt_of_le hg.2 hgr.size) hd, hb.grown hgr hb.size (fun k hk => by injection hk with hk; omega)⟩
  · refine rises_of (d := d') ?_ ((hr1.map Prod.fst).nodup_iff.2 hn) (by rw [hd]; exact hs)
    rw [← hr2.names, List.map_map]; rfl
  · injection e with e; have := hS b h; omega
set_option maxRecDepth 100000 in
set_option maxHeartbeats 2000000 in
theorem insert_nil (w : World) : Calls Tryz.prog 120 #[.slice none 0 0, .int .i64 0, .int .i64 0, .func (.func 47) #[] #[]] w fun e w' => e = .returned (.tuple #[]) ∧ w = w' := by
  go_enter Tryz.func120, Tryz.ntmps120
  go_wp2
  refine wp_loop_rounds 1 ?_
  rw [rounds_succ]
  go_wp2
  go_end0
  exact ⟨rfl, rfl⟩
set_option maxRecDepth 100000 in
set_option maxHeartbeats 2000000 in
theorem stable_nil (w : World) : Calls Tryz.prog 84 #[.slice none 0 0, .int .i64 0, .func (.func 47) #[] #[]] w fun e w' => e = .returned (.tuple #[]) ∧ w = w' := by
  have HI := Lib.hid insert_nil
  go_enter Tryz.func84, Tryz.ntmps84
  go_wp2
  refine wp_loop_rounds 1 ?_
  rw [rounds_succ]
  go_wp2_with (go_at_call 120; refine (HI.out _).mono ?_; rintro e w1 ⟨rfl, rfl⟩)
  refine wp_loop_rounds 1 ?_
  rw [rounds_succ]
  go_wp2
  go_end0
  exact ⟨rfl, rfl⟩
set_option maxRecDepth 100000 in
set_option maxHeartbeats 2000000 in
theorem sorted_nil (w : World) : Calls Tryz.prog 46 #[.slice none 0 0, .func (.func 47) #[] #[]] w fun e w' => e = .returned (.tuple #[]) ∧ w = w' := by
  have HA := Lib.hid stable_nil
  go_enter Tryz.func46, Tryz.ntmps46
  go_wp2_with (go_at_call 84; refine (HA.out _).mono ?_; rintro e w1 ⟨rfl, rfl⟩)
  go_end0
  exact ⟨rfl, rfl⟩
/-- Members cloned and sorted, nil or not. -/
theorem sorted_any (W w1 : World) (S : Nat → Prop) (hS : ∀ b, S b → b < W.heap.size) (ms : List (ByteArray × J)) (zs : List MC) (v : Value) (hown : w1.ownsRow W.heap.size 30 6 v ms.length (flatM zs))
    (hf : FlatM w1 S ms zs) (hb : Below W.heap.size W w1) (hn : (ms.map Prod.fst).Nodup) (hA : SortAsk ms.length) :
    Calls Tryz.prog 46 #[v, .func (.func 47) #[] #[]] w1 fun e w2 =>
      e = .returned (.tuple #[]) ∧ ∃ r zs2, r.Perm ms ∧ Rises r ∧ FlatM w2 S r zs2 ∧ RowM w2 v zs2 ∧ Below W.heap.size W w2 := by
  rcases own_form6 hown with rfl | ⟨g, cap, rfl⟩
  · have h0 : ms = [] := by
      rcases hown.2 with ⟨_, h⟩ | ⟨_, _, _, h, _⟩
      · exact List.eq_nil_of_length_eq_zero h
      · simp at h
    subst h0
    have hz : zs = [] := hf
    subst hz
    refine (sorted_nil w1).mono ?_
    rintro e w2 ⟨rfl, rfl⟩
    exact ⟨rfl, [], [], List.Perm.refl _, by unfold Rises; simp, hf, .inl ⟨rfl, rfl⟩, hb⟩
  · exact sorted_row W w1 S hS ms zs g cap hown hf hb hn hA
end Go.Proofs.YtjfgmgkhinehaaaGreatDoor
namespace Go.Proofs.YtjfgmgkhinehaaaGreatDoor
open Go Go.Shelf Go.RowKit Go.Lib Go.Sort
/-- Elements changed for others, one by one. -/
def swR {α : Type} [Inhabited α] (a b : Nat) : Nat → Nat → Array α → Array α
  | 0, _, d => d
  | f + 1, i, d => swR a b f (i + 1) (swp d (a + i) (b + i))
theorem size_swR {α : Type} [Inhabited α] (a b : Nat) : ∀ (f i : Nat) (d : Array α), (swR a b f i d).size = d.size
  | 0, _, _ => rfl
  | f + 1, i, d => by rw [swR, size_swR a b f (i + 1), size_swp]
set_option maxRecDepth 100000 in
set_option maxHeartbeats 4000000 in
theorem swapRange_gen {P : Program} {α : Type} [Inhabited α] (L : SlLaysF0.n20 P Tryz.insertM_ren) (FG : P.funcs[175]? = some Tryz.f175) (k : Nat) (aE : ∀ w, (isAgg 30).run P w = .ok true w) (zE : ∀ w, (Go.sizeOf 30).run P w = .ok k w)
    (enc : α → List Value) (hk : ∀ x, (enc x).length = k) (h1 : ∀ x, ∀ v ∈ enc x, v.oneCell' = true) (fv : Value) (blk off cap a b n : Nat) (d : Array α) (w : World) (hH : HoldsK enc k w blk off d) (hblk : blk < w.heap.size) (ha : a + n ≤ d.size) (hb : b + n ≤ d.size) (hsz : d.size < 4611686018427387904) :
    Calls P 175 #[.slice (some ⟨blk, off, none⟩) d.size cap, .int .i64 a, .int .i64 b, .int .i64 n, fv] w fun e w' =>
      e = .returned (.tuple #[]) ∧ ∃ m os, w' = sortWorldK enc k w blk off m (swR a b n 0 d) os := by
  have mixed := L.mixed
  have t22 : P.underlying 25 = some (.slice 30) := L.t22
  have a22 : ∀ w, (isAgg 25).run P w = .ok false w := L.a22
  have z22 : ∀ w, (Go.sizeOf 25).run P w = .ok 1 w := L.z22
  have v22 : ∀ w, (zeroValue 25).run P w = .ok (Value.slice none 0 0) w := L.v22
  have t3 : P.underlying 3 = some (.int .i64) := L.t3
  have a3 : ∀ w, (isAgg 3).run P w = .ok false w := L.a3
  have z3 : ∀ w, (Go.sizeOf 3).run P w = .ok 1 w := L.z3
  have v3 : ∀ w, (zeroValue 3).run P w = .ok (.int .i64 0) w := L.v3
  have u22 := run_underlying t22
  have HST : Hid (w = sortWorldK enc k w blk off 0 d #[]) := by show w = _; unfold sortWorldK; rw [grow_empty]; exact (putRowK_self enc k w blk off d hH).symm
  have HH : Hid (HoldsK enc k w blk off d) := hH
  have HK : Hid (∀ x, (enc x).length = k) := hk
  have H1 : Hid (∀ x, ∀ v ∈ enc x, v.oneCell' = true) := h1
  clear hH hk h1
  go_enter FG, Tryz.ntmps175
  go_wp2
  go_loopw [10] (fun v wr => ∃ (i m : Nat) (dk : Array α), v = .int .i64 i ∧ i ≤ n ∧ dk.size = d.size ∧ wr = sortWorldK enc k w blk off m dk #[] ∧ Hid (swR a b (n - i) i dk = swR a b n 0 d)) (fun v _ => n - (intOf v).toNat)
  case atStart => exact ⟨0, 0, d, rfl, Nat.zero_le _, rfl, HST.out, rfl⟩
  case round =>
    obtain ⟨i, m, dk, rfl, hin, hsk, rfl, HO⟩ := hrel
    by_cases hlt : i < n
    · have hltz : (i : Int) < (n : Int) := by omega
      obtain ⟨xa, hxa⟩ : ∃ x, dk[a + i]! = x := ⟨_, rfl⟩
      obtain ⟨xb, hxb⟩ : ∃ x, dk[b + i]! = x := ⟨_, rfl⟩
      obtain ⟨p, hp⟩ : ∃ p, p = a + i := ⟨_, rfl⟩
      obtain ⟨q, hq⟩ : ∃ q, q = b + i := ⟨_, rfl⟩
      rw [← hp] at hxa
      rw [← hq] at hxb
      have wp : IntKind.i64.wrap ((a : Int) + (i : Int)) = (p : Int) := by rw [IntKind.wrap_i64]; omega
      have wq : IntKind.i64.wrap ((b : Int) + (i : Int)) = (q : Int) := by rw [IntKind.wrap_i64]; omega
      have p0 : (0 : Int) ≤ (p : Int) := by omega
      have q0 : (0 : Int) ≤ (q : Int) := by omega
      have pz : (p : Int) < (d.size : Int) := by omega
      have qz : (q : Int) < (d.size : Int) := by omega
      have hHd : HoldsK enc k (sortWorldK enc k w blk off m dk #[]).drew blk off dk := by
        have := holdsK_sortWorldK_c enc k w blk off d dk m #[] HH.out hblk hsk
        exact this
      generalize hwr : sortWorldK enc k w blk off m dk #[] = wr at hHd ⊢
      have HWR := Lib.hid hwr
      have bnd : ∀ x, x < dk.size → x * k + k ≤ dk.size * k := fun x hx => by
        have := Nat.mul_le_mul_right k (show x + 1 ≤ dk.size from hx); rwa [Nat.add_mul, Nat.one_mul] at this
      have la : Sem.run P (loadCellsFrom ⟨blk, off + p * k, none⟩ 0 k #[]) wr.drew = .ok (enc xa).toArray wr.drew := by rw [← hxa]; exact run_loadCellsFrom_list P _ _ _ k (HK.out _) (HoldsK.cells hHd HK.out (by omega))
      have lb : Sem.run P (loadCellsFrom ⟨blk, off + q * k, none⟩ 0 k #[]) wr.drew = .ok (enc xb).toArray wr.drew := by rw [← hxb]; exact run_loadCellsFrom_list P _ _ _ k (HK.out _) (HoldsK.cells hHd HK.out (by omega))
      have s1 : Sem.run P (storeCells ⟨blk, off + p * k, none⟩ (enc xb) 0) wr.drew = .ok () (wr.drew.setCells blk (off + p * k) (enc xb)) := stores_of_holds P hHd (p * k) _ (by rw [HK.out, size_flatK]; exact bnd p (by omega)) (H1.out _)
      have s2 : Sem.run P (storeCells ⟨blk, off + q * k, none⟩ (enc xa) 0) (wr.drew.setCells blk (off + p * k) (enc xb)) = .ok () ((wr.drew.setCells blk (off + p * k) (enc xb)).setCells blk (off + q * k) (enc xa)) :=
        stores_of_holds P (holds_setCells_c hHd (p * k) _ (by rw [HK.out, size_flatK]; exact bnd p (by omega))) (q * k) _ (by rw [HK.out, size_setMany, size_flatK]; exact bnd q (by omega)) (H1.out _)
      have hsA : (enc xa).length = k := HK.out _
      have hsB : (enc xb).length = k := HK.out _
      have HP := Lib.hid hp
      have HQ := Lib.hid hq
      clear hwr hHd bnd hp hq
      obtain ⟨cA, hcA⟩ : ∃ c, c = enc xa := ⟨_, rfl⟩
      obtain ⟨cB, hcB⟩ : ∃ c, c = enc xb := ⟨_, rfl⟩
      rw [← hcB] at s1 lb hsB
      rw [← hcA] at la hsA
      rw [← hcA, ← hcB] at s2
      have CC : Hid (cA = enc xa ∧ cB = enc xb) := ⟨hcA, hcB⟩
      clear hcA hcB
      go_wp2_with fail
      go_big_region_o
      all_goals go_wp2
      refine ⟨⟨i + 1, m + 1, swp dk p q, by go_num, by omega, by rw [size_swp]; exact hsk, ?_, (show Hid _ from ?_)⟩, by simp [intOf]; omega⟩
      · rw [CC.out.1, CC.out.2, ← hxa, ← hxb, ← HWR.out]
        exact sortWorldK_swp_c enc k w blk off HK.out m dk #[] hblk p q (by omega) (by omega)
      · show _ = _
        have := HO.out
        rw [show n - i = (n - (i + 1)) + 1 by omega, swR] at this
        rw [HP.out, HQ.out]
        exact this
    · obtain rfl : i = n := by omega
      have hltz : ¬ (i : Int) < (i : Int) := by omega
      go_wp2
      go_end0
      exact ⟨rfl, m, #[], by rw [← HO.out, Nat.sub_self]; rfl⟩
theorem swapRange_any (blk cap a b n : Nat) (d : Array MT) (w : World) (hH : HoldsK encT 6 w blk 0 d) (hblk : blk < w.heap.size) (ha : a + n ≤ d.size) (hb : b + n ≤ d.size) (hsz : d.size < 4611686018427387904) :
    Calls Tryz.prog 175 #[.slice (some ⟨blk, 0, none⟩) d.size cap, .int .i64 a, .int .i64 b, .int .i64 n, .func (.func 47) #[] #[]] w fun e w' =>
      e = .returned (.tuple #[]) ∧ ∃ m os, w' = sortWorldK encT 6 w blk 0 m (swR a b n 0 d) os :=
  swapRange_gen Tryz.insertM Tryz.func175 6 Tryz.isAgg30 Tryz.sizeOf30 encT (fun _ => rfl) encT_one _ blk 0 cap a b n d w hH hblk ha hb hsz
end Go.Proofs.YtjfgmgkhinehaaaGreatDoor
namespace Go.Proofs.YtjfgmgkhinehaaaGreatDoor
open Go Go.Sort
variable {α : Type} [Inhabited α]
theorem get_swp (d : Array α) {i j : Nat} (hi : i < d.size) (hj : j < d.size) (x : Nat) : (swp d i j)[x]! = if x = j then d[i]! else if x = i then d[j]! else d[x]! := by
  by_cases h : x = j
  · subst h; rw [if_pos rfl]; exact swp_right d i x hj
  · rw [if_neg h]
    by_cases h2 : x = i
    · subst h2; rw [if_pos rfl]; exact swp_left d x j hi h
    · rw [if_neg h2]; exact swp_other d i j x h2 h
/-- Two rows that don't meet change places. -/
theorem swR_get {a b : Nat} : ∀ (f i : Nat) (d : Array α), a + i + f ≤ b → b + i + f ≤ d.size → ∀ x, (swR a b f i d)[x]! = if a + i ≤ x ∧ x < a + i + f then d[b + (x - a)]! else if b + i ≤ x ∧ x < b + i + f then d[a + (x - b)]! else d[x]!
  | 0, i, d, _, _, x => by rw [swR, if_neg (by omega), if_neg (by omega)]
  | f + 1, i, d, h1, h2, x => by
    rw [swR, swR_get f (i + 1) (swp d (a + i) (b + i)) (by omega) (by rw [size_swp]; omega) x]
    have g := fun y => get_swp d (i := a + i) (j := b + i) (by omega) (by omega) y
    by_cases c1 : a + (i + 1) ≤ x ∧ x < a + (i + 1) + f
    · rw [if_pos c1, if_pos (by omega), g, if_neg (by omega), if_neg (by omega)]
    · rw [if_neg c1]
      by_cases c2 : b + (i + 1) ≤ x ∧ x < b + (i + 1) + f
      · rw [if_pos c2, if_neg (by omega), if_pos (by omega), g, if_neg (by omega), if_neg (by omega)]
      · rw [if_neg c2, g]
        by_cases c3 : x = b + i
        · rw [if_pos c3, if_neg (by omega), if_pos (by omega)]; congr 1; omega
        · rw [if_neg c3]
          by_cases c4 : x = a + i
          · rw [if_pos c4, if_pos (by omega)]; congr 1; omega
          · rw [if_neg c4, if_neg (by omega), if_neg (by omega)]
theorem swR_perm {lo hi a b : Nat} : ∀ (f i : Nat) (d : Array α), lo ≤ a → a + i + f ≤ hi → lo ≤ b → b + i + f ≤ hi → hi ≤ d.size → PermIn lo hi d (swR a b f i d)
  | 0, i, d, _, _, _, _, _ => permIn_refl _ _ _
  | f + 1, i, d, h1, h2, h3, h4, h5 => by
    rw [swR]
    exact permIn_trans _ _ _ _ _ (swp_permIn d lo hi (a + i) (b + i) (by omega) (by omega) (by omega) (by omega) h5) (swR_perm f (i + 1) _ h1 (by omega) h3 (by omega) (by rw [size_swp]; exact h5))
/-- rotate: i elements ahead of m, j from m on. -/
def rotF (m : Nat) : Nat → Nat → Nat → Array α → Array α
  | 0, _, _, d => d
  | f + 1, i, j, d => if i = j then swR (m - i) m i 0 d else if j < i then rotF m f (i - j) j (swR (m - i) m j 0 d) else rotF m f i (j - i) (swR (m - i) (m + j - i) i 0 d)
theorem rotF_rot (m : Nat) : ∀ (f i j : Nat) (d : Array α), i ≤ m → m + j ≤ d.size → 0 < i → 0 < j → i + j ≤ f → Rot d (rotF m f i j d) (m - i) m (m + j) ∧ PermIn (m - i) (m + j) d (rotF m f i j d)
  | 0, i, j, d, _, _, h, _, hf => absurd hf (by omega)
  | f + 1, i, j, d, hi, hj, i0, j0, hf => by
    rw [rotF]
    by_cases e : i = j
    · subst e
      rw [if_pos rfl]
      have g := fun x => swR_get (a := m - i) (b := m) i 0 d (by omega) (by omega) x
      refine ⟨⟨fun x hx => ?_, fun x h1 h2 => ?_, fun x h1 h2 => ?_⟩, swR_perm i 0 d (by omega) (by omega) (by omega) (by omega) hj⟩
      · rw [g, if_neg (by omega), if_neg (by omega)]
      · rw [g, if_pos (by omega)]
      · rw [g, if_neg (by omega), if_pos (by omega)] <;> (congr 1 <;> omega)
    · rw [if_neg e]
      by_cases hl : j < i
      · rw [if_pos hl]
        have g := fun x => swR_get (a := m - i) (b := m) j 0 d (by omega) (by omega) x
        have hsz := size_swR (m - i) m j 0 d
        have hp := swR_perm (lo := m - i) (hi := m + j) (a := m - i) (b := m) j 0 d (by omega) (by omega) (by omega) (by omega) hj
        obtain ⟨⟨r1, r2, r3⟩, rp⟩ := rotF_rot m f (i - j) j (swR (m - i) m j 0 d) (by omega) (by rw [hsz]; exact hj) (by omega) j0 (by omega)
        refine ⟨⟨fun x hx => ?_, fun x h1 h2 => ?_, fun x h1 h2 => ?_⟩, permIn_trans _ _ _ _ _ hp (permIn_mono _ _ _ _ _ _ (by omega) (Nat.le_refl _) (by rw [hsz]; exact hj) rp)⟩
        · rw [r1 x (by omega), g, if_neg (by omega), if_neg (by omega)]
        · rw [r1 x (by omega), g, if_pos (by omega)]
        · by_cases c : x < m - i + j + j
          · rw [r2 x (by omega) (by omega), g, if_neg (by omega), if_pos (by omega)] <;> (congr 1 <;> omega)
          · rw [r3 x (by omega) (by omega), g, if_neg (by omega), if_neg (by omega)] <;> (congr 1 <;> omega)
      · rw [if_neg hl]
        have g := fun x => swR_get (a := m - i) (b := m + j - i) i 0 d (by omega) (by omega) x
        have hsz := size_swR (m - i) (m + j - i) i 0 d
        have hp := swR_perm (lo := m - i) (hi := m + j) (a := m - i) (b := m + j - i) i 0 d (by omega) (by omega) (by omega) (by omega) hj
        obtain ⟨⟨r1, r2, r3⟩, rp⟩ := rotF_rot m f i (j - i) (swR (m - i) (m + j - i) i 0 d) hi (by rw [hsz]; omega) i0 (by omega) (by omega)
        refine ⟨⟨fun x hx => ?_, fun x h1 h2 => ?_, fun x h1 h2 => ?_⟩, permIn_trans _ _ _ _ _ hp (permIn_mono _ _ _ _ _ _ (Nat.le_refl _) (by omega) (by rw [hsz]; exact hj) rp)⟩
        · rw [r1 x (by omega), g, if_neg (by omega), if_neg (by omega)]
        · by_cases c : x < m - i + (j - i)
          · rw [r2 x (by omega) (by omega), g, if_neg (by omega), if_neg (by omega)] <;> (congr 1 <;> omega)
          · rw [r3 x (by omega) (by omega), g, if_pos (by omega)] <;> (congr 1 <;> omega)
        · rw [r1 x (by omega), g, if_neg (by omega), if_pos (by omega)] <;> (congr 1 <;> omega)
end Go.Proofs.YtjfgmgkhinehaaaGreatDoor
namespace Go.Proofs.YtjfgmgkhinehaaaGreatDoor
open Go Go.Sort
variable {α : Type} [Inhabited α]
/-- An element goes up one place among those behind it. -/
theorem Rot.up {d d' : Array α} {a k : Nat} (h : Rot d d' a (a + 1) (k + 1)) (hak : a ≤ k) (hk : k + 1 < d'.size) : Rot d (swp d' k (k + 1)) a (a + 1) (k + 2) := by
  obtain ⟨r1, r2, r3⟩ := h
  have g := fun x => get_swp d' (i := k) (j := k + 1) (by omega) hk x
  refine ⟨fun i hi => ?_, fun i h1 h2 => ?_, fun i h1 h2 => ?_⟩
  · rw [g, if_neg (by omega), if_neg (by omega)]; exact r1 i (by omega)
  · rw [g, if_neg (by omega)]
    by_cases e : i = k
    · rw [if_pos e, r1 (k + 1) (.inr (by omega))]; congr 1; omega
    · rw [if_neg e]; exact r2 i h1 (by omega)
  · have e : i = k + 1 := by omega
    subst e
    rw [g, if_pos rfl, r3 k (by omega) (by omega)]; congr 1; omega
/-- An element goes down one place among those ahead of it. -/
theorem Rot.down {d d' : Array α} {m k : Nat} (h : Rot d d' k m (m + 1)) (hk0 : 0 < k) (hkm : k ≤ m) (hm : m < d'.size) : Rot d (swp d' k (k - 1)) (k - 1) m (m + 1) := by
  obtain ⟨r1, r2, r3⟩ := h
  have g := fun x => get_swp d' (i := k) (j := k - 1) (by omega) (by omega) x
  refine ⟨fun i hi => ?_, fun i h1 h2 => ?_, fun i h1 h2 => ?_⟩
  · rw [g, if_neg (by omega), if_neg (by omega)]; exact r1 i (by omega)
  · have e : i = k - 1 := by omega
    subst e
    rw [g, if_pos rfl, r2 k (Nat.le_refl _) (by omega)]; congr 1; omega
  · rw [g, if_neg (by omega)]
    by_cases e : i = k
    · rw [if_pos e, r1 (k - 1) (.inl (by omega))]; congr 1; omega
    · rw [if_neg e]; rw [r3 i (by omega) h2]
theorem Rot.self_up (d : Array α) (a : Nat) : Rot d d a (a + 1) (a + 1) := Rot.none d (by omega) (Nat.le_refl _) (.inr rfl)
theorem Rot.self_down (d : Array α) (m : Nat) : Rot d d m m (m + 1) := Rot.none d (Nat.le_refl _) (by omega) (.inl rfl)
variable {lt : α → α → Bool}
/-- What is less than x, and what isn't: in a sorted row. -/
theorem SWO.less_down (hS : SWO lt) {x y z : α} (h1 : lt z y = false) (h2 : lt z x = true) : lt y x = true := by
  cases h : lt y x with
  | true => rfl
  | false => rw [hS.ntrans _ _ _ h1 h] at h2; cases h2
theorem SWO.less_up (hS : SWO lt) {x y z : α} (h1 : lt y z = false) (h2 : lt x z = true) : lt x y = true := by
  cases h : lt x y with
  | true => rfl
  | false => rw [hS.ntrans _ _ _ h h1] at h2; cases h2
theorem SWO.less_down2 (hS : SWO lt) {x y z : α} (h1 : lt z y = false) (h2 : lt z x = true) : lt y x = true := SWO.less_down hS h1 h2
/-- One element ahead of a sorted row, put where it belongs. -/
theorem one_up (hS : SWO lt) {d d' : Array α} {a i b : Nat} (hai : a + 1 ≤ i) (hib : i ≤ b) (hs : SortedIn lt (a + 1) b d) (h1 : ∀ t, a + 1 ≤ t → t < i → lt d[t]! d[a]! = true) (h2 : ∀ t, i ≤ t → t < b → lt d[t]! d[a]! = false) (hr : Rot d d' a (a + 1) i) : SortedIn lt a b d' := by
  obtain ⟨r1, r2, r3⟩ := hr
  have v : ∀ t, a ≤ t → t < b → (t + 1 < i ∧ d'[t]! = d[t + 1]!) ∨ (t + 1 = i ∧ d'[t]! = d[a]!) ∨ (i ≤ t ∧ d'[t]! = d[t]!) := fun t ha hb => by
    by_cases c1 : t + 1 < i
    · exact .inl ⟨c1, by rw [r2 t ha (by omega)]; congr 1; omega⟩
    · by_cases c2 : t + 1 = i
      · exact .inr (.inl ⟨c2, by rw [r3 t (by omega) (by omega)]; congr 1; omega⟩)
      · exact .inr (.inr ⟨by omega, r1 t (by omega)⟩)
  intro p q hp hpq hq
  rcases v p hp (by omega) with ⟨c1, e1⟩ | ⟨c1, e1⟩ | ⟨c1, e1⟩ <;> rcases v q (by omega) hq with ⟨c2, e2⟩ | ⟨c2, e2⟩ | ⟨c2, e2⟩ <;> rw [e1, e2]
  · exact hs _ _ (by omega) (by omega) (by omega)
  · exact SWO.asymm hS (h1 _ (by omega) c1)
  · exact hs _ _ (by omega) (by omega) hq
  · omega
  · omega
  · exact h2 q c2 hq
  · omega
  · omega
  · exact hs _ _ (by omega) hpq hq
/-- One element behind a sorted row, put where it belongs. -/
theorem one_down (hS : SWO lt) {d d' : Array α} {a i m : Nat} (hai : a ≤ i) (him : i ≤ m) (hs : SortedIn lt a m d) (h1 : ∀ t, a ≤ t → t < i → lt d[m]! d[t]! = false) (h2 : ∀ t, i ≤ t → t < m → lt d[m]! d[t]! = true) (hr : Rot d d' i m (m + 1)) : SortedIn lt a (m + 1) d' := by
  obtain ⟨r1, r2, r3⟩ := hr
  have v : ∀ t, a ≤ t → t < m + 1 → (t < i ∧ d'[t]! = d[t]!) ∨ (t = i ∧ d'[t]! = d[m]!) ∨ (i < t ∧ d'[t]! = d[t - 1]!) := fun t ha hb => by
    by_cases c1 : t < i
    · exact .inl ⟨c1, r1 t (.inl c1)⟩
    · by_cases c2 : t = i
      · exact .inr (.inl ⟨c2, by rw [r2 t (by omega) (by omega)]; congr 1; omega⟩)
      · exact .inr (.inr ⟨by omega, by rw [r3 t (by omega) (by omega)]; congr 1; omega⟩)
  intro p q hp hpq hq
  rcases v p hp (by omega) with ⟨c1, e1⟩ | ⟨c1, e1⟩ | ⟨c1, e1⟩ <;> rcases v q (by omega) hq with ⟨c2, e2⟩ | ⟨c2, e2⟩ | ⟨c2, e2⟩ <;> rw [e1, e2]
  · exact hs _ _ hp hpq (by omega)
  · exact h1 p hp c1
  · exact hs _ _ hp (by omega) (by omega)
  · omega
  · omega
  · exact SWO.asymm hS (h2 _ (by omega) (by omega))
  · omega
  · omega
  · exact hs _ _ (by omega) (by omega) (by omega)
/-- Where the search of symMerge begins and ends. -/
theorem sym_found (hS : SWO lt) {d : Array α} {a m b mid s s0 r0 : Nat} (ham : a < m) (hmb : m < b) (hmid : mid = (a + b) / 2) (h0 : (mid < m ∧ s0 = mid + m - b ∧ r0 = mid) ∨ (m ≤ mid ∧ s0 = a ∧ r0 = m)) (hs0 : s0 ≤ s) (hs1 : s ≤ r0)
    (hlo : ∀ c, s0 ≤ c → c < s → lt d[mid + m - 1 - c]! d[c]! = false) (hhi : ∀ c, s ≤ c → c < r0 → lt d[mid + m - 1 - c]! d[c]! = true) :
    a ≤ s ∧ s ≤ m ∧ s ≤ mid ∧ m ≤ mid + m - s ∧ mid + m - s ≤ b ∧ mid ≤ mid + m - s ∧ (a < s → mid + m - s < b → lt d[mid + m - s]! d[s - 1]! = false) ∧ (s < m → m < mid + m - s → lt d[mid + m - s - 1]! d[s]! = true) := by
  refine ⟨by omega, by omega, by omega, by omega, by omega, by omega, fun h1 h2 => ?_, fun h1 h2 => ?_⟩
  · have := hlo (s - 1) (by omega) (by omega)
    rwa [show mid + m - 1 - (s - 1) = mid + m - s by omega] at this
  · have := hhi s (Nat.le_refl _) (by omega)
    rwa [show mid + m - 1 - s = mid + m - s - 1 by omega] at this
/-- The search's two ends move together. -/
theorem sym_mono_lo (hS : SWO lt) {d : Array α} {a m b q c h : Nat} (h1 : SortedIn lt a m d) (h2 : SortedIn lt m b d) (hc : a ≤ c) (hch : c ≤ h) (hh : h < m) (hq : m + h ≤ q) (hqb : q < b + c) (hx : lt d[q - h]! d[h]! = false) : lt d[q - c]! d[c]! = false := by
  have e1 := SWO.le hS h1 hc hch hh
  have e2 := SWO.le hS h2 (i := q - h) (j := q - c) (by omega) (by omega) (by omega)
  exact hS.ntrans _ _ _ (hS.ntrans _ _ _ e2 hx) e1
theorem sym_mono_hi (hS : SWO lt) {d : Array α} {a m b q c h : Nat} (h1 : SortedIn lt a m d) (h2 : SortedIn lt m b d) (hh : a ≤ h) (hch : h ≤ c) (hc : c < m) (hq : m + c ≤ q) (hqb : q < b + h) (hx : lt d[q - h]! d[h]! = true) : lt d[q - c]! d[c]! = true := by
  have e1 := SWO.le hS h1 hh hch hc
  have e2 := SWO.le hS h2 (i := q - c) (j := q - h) (by omega) (by omega) (by omega)
  exact SWO.less_up hS e1 (SWO.less_down hS e2 hx)
end Go.Proofs.YtjfgmgkhinehaaaGreatDoor
namespace Go.Proofs.YtjfgmgkhinehaaaGreatDoor
open Go Go.Sort
variable {α : Type} [Inhabited α]
/-- From p on in sorted blocks of bs, the last one maybe shorter. -/
inductive BlkFrom (lt : α → α → Bool) (bs n : Nat) (d : Array α) : Nat → Prop
  | done (p : Nat) : n ≤ p → BlkFrom lt bs n d p
  | more (p : Nat) : p < n → SortedIn lt p (min (p + bs) n) d → BlkFrom lt bs n d (p + bs) → BlkFrom lt bs n d p
/-- Up to p in whole sorted blocks of bs. -/
inductive BlkTo (lt : α → α → Bool) (bs : Nat) (d : Array α) : Nat → Prop
  | zero : BlkTo lt bs d 0
  | step (p : Nat) : BlkTo lt bs d p → SortedIn lt p (p + bs) d → BlkTo lt bs d (p + bs)
variable {lt : α → α → Bool} {bs n : Nat} {d d' : Array α}
theorem sortedIn_same {a b : Nat} (h : SortedIn lt a b d) (hs : ∀ i, a ≤ i → i < b → d'[i]! = d[i]!) : SortedIn lt a b d' := fun i j hi hij hj => by
  rw [hs i hi (by omega), hs j (by omega) hj]; exact h i j hi hij hj
theorem BlkTo.same {p : Nat} (h : BlkTo lt bs d p) (hs : ∀ i, i < p → d'[i]! = d[i]!) : BlkTo lt bs d' p := by
  induction h with
  | zero => exact .zero
  | step p h1 h2 ih => exact .step p (ih fun i hi => hs i (by omega)) (sortedIn_same h2 fun i _ h => hs i h)
theorem BlkFrom.same {p : Nat} (h : BlkFrom lt bs n d p) (hs : ∀ i, p ≤ i → d'[i]! = d[i]!) : BlkFrom lt bs n d' p := by
  induction h with
  | done p h => exact .done p h
  | more p h1 h2 _ ih => exact .more p h1 (sortedIn_same h2 fun i h _ => hs i h) (ih fun i hi => hs i (by omega))
theorem BlkTo.join {p : Nat} (h : BlkTo lt bs d p) (hp : p ≤ n) (hf : BlkFrom lt bs n d p) : BlkFrom lt bs n d 0 := by
  induction h with
  | zero => exact hf
  | step p h1 h2 ih =>
    by_cases hn : p < n
    · exact ih (by omega) (.more p hn (by rw [Nat.min_eq_left hp]; exact h2) hf)
    · have h0 : bs = 0 := by omega
      subst h0
      exact ih (by omega) hf
theorem BlkFrom.head {p : Nat} (h : BlkFrom lt bs n d p) (hp : p < n) : SortedIn lt p (min (p + bs) n) d ∧ BlkFrom lt bs n d (p + bs) := by
  cases h with
  | done _ h => omega
  | more _ _ h2 h3 => exact ⟨h2, h3⟩
theorem blk_all (h : BlkFrom lt bs n d 0) (hn : n ≤ bs) : SortedIn lt 0 n d := by
  by_cases h0 : n = 0
  · subst h0; intro i j _ _ h; omega
  · have := (h.head (by omega)).1
    rwa [Nat.zero_add, Nat.min_eq_right hn] at this
/-- The last, shorter block. -/
theorem blk_last {p : Nat} (h : SortedIn lt p n d) (hp : n < p + bs) : BlkFrom lt bs n d p := by
  by_cases hn : p < n
  · exact .more p hn (by rw [Nat.min_eq_right (by omega)]; exact h) (.done _ (by omega))
  · exact .done p (by omega)
end Go.Proofs.YtjfgmgkhinehaaaGreatDoor
namespace Go.Proofs.YtjfgmgkhinehaaaGreatDoor
open Go Go.Shelf Go.RowKit Go.Lib Go.Sort
set_option maxRecDepth 100000 in
set_option maxHeartbeats 8000000 in
theorem symUpS_gen {P : Program} {α : Type} [Inhabited α] (L : SlLaysF0.n20 P Tryz.insertM_ren) (FG : P.funcs[121]? = some Tryz.f121) (tU : P.underlying 205 = some (.int .u64)) (k : Nat) (aE : ∀ w, (isAgg 30).run P w = .ok true w) (zE : ∀ w, (Go.sizeOf 30).run P w = .ok k w)
    (enc : α → List Value) (hk : ∀ x, (enc x).length = k) (h1 : ∀ x, ∀ v ∈ enc x, v.oneCell' = true) (cf : α → α → Int) (lt : α → α → Bool) (hO : SWO lt) (g : Nat) (cb : Array Value) (eg : ∀ args w, (callFunc g args).run P w = .ok (.enter g args) w) (blk off cap N : Nat) (w0 : World) (d0 : Array α) (hN : d0.size = N) (hH : HoldsK enc k w0 blk off d0) (hblk : blk < w0.heap.size) (hsz : N < 1152921504606846976) (hcmp : CmpLays P g cb enc k cf blk off N w0)
    (a m b n : Nat) (d : Array α) (os : Array Obj) (hma : m = a + 1) (hmb : m < b) (hb : b ≤ N) (hd : d.size = N) (hs2 : SortedIn lt m b d) (hag : ∀ y x, m ≤ y → y < b → a ≤ x → x < m → (ltOf cf) d[y]! d[x]! = lt d[y]! d[x]!) :
    Calls P 121 #[.slice (some ⟨blk, off, none⟩) N cap, .int .i64 a, .int .i64 m, .int .i64 b, .func (.func g) #[] cb] (sortWorldK enc k w0 blk off n d os) fun e w' => e = .returned (.tuple #[]) ∧ ∃ n' os' d', w' = sortWorldK enc k w0 blk off n' d' os' ∧ PermIn a b d d' ∧ SortedIn lt a b d' := by
  have mixed := L.mixed
  have t22 : P.underlying 25 = some (.slice 30) := L.t22
  have a22 : ∀ w, (isAgg 25).run P w = .ok false w := L.a22
  have z22 : ∀ w, (Go.sizeOf 25).run P w = .ok 1 w := L.z22
  have v22 : ∀ w, (zeroValue 25).run P w = .ok (Value.slice none 0 0) w := L.v22
  have t3 : P.underlying 3 = some (.int .i64) := L.t3
  have a3 : ∀ w, (isAgg 3).run P w = .ok false w := L.a3
  have z3 : ∀ w, (Go.sizeOf 3).run P w = .ok 1 w := L.z3
  have v3 : ∀ w, (zeroValue 3).run P w = .ok (.int .i64 0) w := L.v3
  have u22 := run_underlying t22
  have HK : Hid (∀ x, (enc x).length = k) := hk
  have H1 : Hid (∀ x, ∀ v ∈ enc x, v.oneCell' = true) := h1
  have HC : Hid (CmpLays P g cb enc k cf blk off N w0) := hcmp
  have HHD : Hid (∀ n (d : Array α) os, d.size = N → HoldsK enc k (sortWorldK enc k w0 blk off n d os) blk off d) := fun n d os hd => holdsK_sortWorldK_c enc k w0 blk off d0 d n os hH hblk (by omega)
  have HCL : Hid (∀ n (d : Array α) os q os', grow ((sortWorldK enc k w0 blk off n d os).drewN q) os' = sortWorldK enc k w0 blk off (n + q) d (os ++ os')) := fun n d os q os' => sortWorldK_grown_c enc k w0 blk off n q d os os'
  have HLD : Hid (∀ n (d : Array α) os x, d.size = N → x < N → ∀ q os', Sem.run P (loadCellsFrom ⟨blk, off + x * k, none⟩ 0 k #[]) (grow ((sortWorldK enc k w0 blk off n d os).drewN q) os') = .ok (enc d[x]!).toArray (grow ((sortWorldK enc k w0 blk off n d os).drewN q) os')) := fun n d os x hd hx q os' => by
    rw [HCL.out]; exact run_loadCellsFrom_list P _ _ _ k (HK.out _) (HoldsK.cells (HHD.out _ d _ hd) HK.out (by omega))
  have HCG : Hid (∀ n (d : Array α) os x y, d.size = N → ∀ q os', Calls P g (#[.agg (enc x).toArray, .agg (enc y).toArray] ++ cb) (grow ((sortWorldK enc k w0 blk off n d os).drewN q) os') fun e w' => e = .returned (.int .i64 (cf x y)) ∧ ∃ q' os'', w' = grow ((grow ((sortWorldK enc k w0 blk off n d os).drewN q) os').drewN q') os'') := fun n d os x y hd q os' => by
    rw [HCL.out]; exact HC.out _ _ d hd x y
  have HS2 : Hid (SortedIn lt m b d) := hs2
  have HO : Hid (SWO lt) := hO
  have HAG := Lib.hid hag
  clear hk h1 hcmp hH hs2 hO hag
  have wma : IntKind.i64.wrap ((m : Int) - (a : Int)) = 1 := by rw [IntKind.wrap_i64]; omega
  have HMA : Hid (m = a + 1) := hma
  have hma' : a + 1 ≤ m := by omega
  have az0 : (0 : Int) ≤ (a : Int) := by omega
  have azN : (a : Int) < (N : Int) := by omega
  clear hma
  go_enter FG, Tryz.ntmps121
  go_wp2
  go_loopw [10, 11] (fun v u wr => ∃ (i j n' : Nat) (os' : Array Obj), v = .int .i64 i ∧ u = .int .i64 j ∧ m ≤ i ∧ i ≤ j ∧ j ≤ b ∧ wr = sortWorldK enc k w0 blk off n' d os' ∧ Hid ((∀ t, m ≤ t → t < i → lt d[t]! d[a]! = true) ∧ (∀ t, j ≤ t → t < b → lt d[t]! d[a]! = false))) (fun v u _ => (intOf u - intOf v).toNat)
  case atStart => exact ⟨m, b, n, os, rfl, rfl, Nat.le_refl _, by omega, Nat.le_refl _, rfl, fun t h1 h2 => by omega, fun t h1 h2 => by omega⟩
  case round =>
    obtain ⟨i, j, n', os', rfl, rfl, hmi, hij, hjb, rfl, HI⟩ := hrel
    by_cases hlt : i < j
    · have hltz : (i : Int) < (j : Int) := by omega
      have hhN : (i + j) / 2 < N := by omega
      have hh0 : (0 : Int) ≤ ((i : Int) + (j : Int)) / 2 := by omega
      have hhZ : ((i : Int) + (j : Int)) / 2 < (N : Int) := by omega
      have hhn : (((i : Int) + (j : Int)) / 2).toNat = (i + j) / 2 := by omega
      obtain ⟨xh, hxh⟩ : ∃ x, d[(i + j) / 2]! = x := ⟨_, rfl⟩
      obtain ⟨xa, hxa⟩ : ∃ x, d[a]! = x := ⟨_, rfl⟩
      have lxh := HLD.out n' d os' ((i + j) / 2) (by omega) (by omega)
      have lxa := HLD.out n' d os' (a) (by omega) (by omega)
      rw [hxh] at lxh
      rw [hxa] at lxa
      have hcg := HCG.out n' d os' xh xa (by omega)
      have CLS := Lib.hid (HCL.out n' d os')
      have HXxh := Lib.hid hxh
      have HXxa := Lib.hid hxa
      clear hxh hxa
      generalize sortWorldK enc k w0 blk off n' d os' = wq at lxh lxa hcg CLS ⊢
      by_cases hlv : cf xh xa < 0
      · go_wp2_with fail
        go_quiet_grown (first | (go_at_fn g; refine Calls.grown_of (hcg _ _)))
        go_wp2_with fail
        go_roundw
        case rel =>
          refine ⟨(i + j) / 2 + 1, j, n' + nq, os' ++ osq, by first | (congr 1; omega) | congr 1, rfl, by omega, by omega, hjb, CLS.out nq osq, fun t h1 h2 => ?_, HI.out.2⟩
          have e := SWO.le HO.out HS2.out (i := t) (j := (i + j) / 2) h1 (by omega) (by omega)
          have hma := HMA.out
          have e2 : lt d[(i + j) / 2]! d[a]! = true := (HAG.out _ _ (by omega) (by omega) (by omega) (by omega)).symm.trans (by rw [HXxh.out, HXxa.out]; exact decide_eq_true (by omega))
          exact SWO.less_down2 HO.out e e2
        case measure => simp [intOf]; omega
      · go_wp2_with fail
        go_quiet_grown (first | (go_at_fn g; refine Calls.grown_of (hcg _ _)))
        go_wp2_with fail
        go_roundw
        case rel =>
          refine ⟨i, (i + j) / 2, n' + nq, os' ++ osq, rfl, by first | (congr 1; omega) | congr 1, hmi, by omega, by omega, CLS.out nq osq, HI.out.1, fun t h1 h2 => ?_⟩
          have e := SWO.le HO.out HS2.out (i := (i + j) / 2) (j := t) (by omega) h1 h2
          have hma := HMA.out
          have e2 : lt d[(i + j) / 2]! d[a]! = false := (HAG.out _ _ (by omega) (by omega) (by omega) (by omega)).symm.trans (by rw [HXxh.out, HXxa.out]; exact decide_eq_false (by omega))
          exact HO.out.ntrans _ _ _ e e2
        case measure => simp [intOf]; omega
    · obtain rfl : i = j := by omega
      have hltz : ¬ (i : Int) < (i : Int) := by omega
      have wi : IntKind.i64.wrap ((i : Int) - 1) = (i : Int) - 1 := by rw [IntKind.wrap_i64]; omega
      go_wp2
      go_loopw [13] (fun v wr => ∃ (x n2 : Nat) (dk : Array α) (os2 : Array Obj), v = .int .i64 x ∧ a ≤ x ∧ x + 1 ≤ i ∧ dk.size = N ∧ wr = sortWorldK enc k w0 blk off n2 dk os2 ∧ Hid (Rot d dk a (a + 1) (x + 1) ∧ PermIn a b d dk)) (fun v _ => i - (intOf v).toNat)
      case atStart => exact ⟨a, n', d, os', rfl, Nat.le_refl _, by omega, hd, rfl, Rot.self_up d a, permIn_refl _ _ _⟩
      case round =>
        obtain ⟨x, n2, dk, os2, rfl, hax, hxi, hdk, rfl, HR⟩ := hrel
        by_cases hx : x + 1 < i
        · have hxz : (x : Int) < (i : Int) - 1 := by omega
          have p0 : (0 : Int) ≤ (x : Int) := by omega
          have pz : (x : Int) < (N : Int) := by omega
          have q0 : (0 : Int) ≤ (x : Int) + 1 := by omega
          have qz : (x : Int) + 1 < (N : Int) := by omega
          have e0 : ((x : Int) + 1).toNat = x + 1 := by omega
          obtain ⟨xa, hxa⟩ : ∃ z_, dk[x]! = z_ := ⟨_, rfl⟩
          obtain ⟨xb, hxb⟩ : ∃ z_, dk[x + 1]! = z_ := ⟨_, rfl⟩
          have hHd : HoldsK enc k (sortWorldK enc k w0 blk off n2 dk os2).drew blk off dk := HHD.out _ dk _ (by omega)
          generalize hwr : sortWorldK enc k w0 blk off n2 dk os2 = wq at hHd ⊢
          have HWR := Lib.hid hwr
          have bnd : ∀ x, x < dk.size → x * k + k ≤ dk.size * k := fun x hx => by
            have := Nat.mul_le_mul_right k (show x + 1 ≤ dk.size from hx); rwa [Nat.add_mul, Nat.one_mul] at this
          have la : Sem.run P (loadCellsFrom ⟨blk, off + (x) * k, none⟩ 0 k #[]) wq.drew = .ok (enc xa).toArray wq.drew := by rw [← hxa]; exact run_loadCellsFrom_list P _ _ _ k (HK.out _) (HoldsK.cells hHd HK.out (by omega))
          have lb : Sem.run P (loadCellsFrom ⟨blk, off + (x + 1) * k, none⟩ 0 k #[]) wq.drew = .ok (enc xb).toArray wq.drew := by rw [← hxb]; exact run_loadCellsFrom_list P _ _ _ k (HK.out _) (HoldsK.cells hHd HK.out (by omega))
          have s1 : Sem.run P (storeCells ⟨blk, off + (x) * k, none⟩ (enc xb) 0) wq.drew = .ok () (wq.drew.setCells blk (off + (x) * k) (enc xb)) := stores_of_holds P hHd ((x) * k) _ (by rw [HK.out, size_flatK]; exact bnd (x) (by omega)) (H1.out _)
          have s2 : Sem.run P (storeCells ⟨blk, off + (x + 1) * k, none⟩ (enc xa) 0) (wq.drew.setCells blk (off + (x) * k) (enc xb)) = .ok () ((wq.drew.setCells blk (off + (x) * k) (enc xb)).setCells blk (off + (x + 1) * k) (enc xa)) :=
            stores_of_holds P (holds_setCells_c hHd ((x) * k) _ (by rw [HK.out, size_flatK]; exact bnd (x) (by omega))) ((x + 1) * k) _ (by rw [HK.out, size_setMany, size_flatK]; exact bnd (x + 1) (by omega)) (H1.out _)
          have hsA : (enc xa).length = k := HK.out _
          have hsB : (enc xb).length = k := HK.out _
          clear hwr hHd bnd
          obtain ⟨cA, hcA⟩ : ∃ c, c = enc xa := ⟨_, rfl⟩
          obtain ⟨cB, hcB⟩ : ∃ c, c = enc xb := ⟨_, rfl⟩
          rw [← hcB] at s1 lb hsB
          rw [← hcA] at la hsA
          rw [← hcA, ← hcB] at s2
          have CC : Hid (cA = enc xa ∧ cB = enc xb) := ⟨hcA, hcB⟩
          clear hcA hcB
          go_wp2_with fail
          go_big_region_o
          all_goals go_wp2
          refine ⟨⟨x + 1, n2 + 1, swp dk x (x + 1), os2, by go_num, by omega, by omega, by rw [size_swp]; exact hdk, ?_, (show Hid _ from ?_)⟩, by simp [intOf]; omega⟩
          · rw [CC.out.1, CC.out.2, ← hxa, ← hxb, ← HWR.out]
            exact sortWorldK_swp_c enc k w0 blk off HK.out n2 dk os2 hblk x (x + 1) (by omega) (by omega)
          · exact ⟨HR.out.1.up hax (by omega), permIn_trans _ _ _ _ _ HR.out.2 (swp_permIn dk a b x (x + 1) (by omega) (by omega) (by omega) (by omega) (by omega))⟩
        · have hxz : ¬ (x : Int) < (i : Int) - 1 := by omega
          go_wp2
          (try simp only [Exit.inBlock, Exit.then]); refine bodyPost_ret (results_none rfl _ _ _) rfl ?_
          obtain rfl : i = x + 1 := by omega
          have hm := HMA.out
          refine ⟨rfl, n2, os2, dk, rfl, HR.out.2, one_up HO.out (by omega) hjb (by rw [← hm]; exact HS2.out) (by rw [← hm]; exact HI.out.1) HI.out.2 HR.out.1⟩
end Go.Proofs.YtjfgmgkhinehaaaGreatDoor
namespace Go.Proofs.YtjfgmgkhinehaaaGreatDoor
open Go Go.Shelf Go.RowKit Go.Lib Go.Sort
set_option maxRecDepth 100000 in
set_option maxHeartbeats 8000000 in
theorem symDownS_gen {P : Program} {α : Type} [Inhabited α] (L : SlLaysF0.n20 P Tryz.insertM_ren) (FG : P.funcs[121]? = some Tryz.f121) (tU : P.underlying 205 = some (.int .u64)) (k : Nat) (aE : ∀ w, (isAgg 30).run P w = .ok true w) (zE : ∀ w, (Go.sizeOf 30).run P w = .ok k w)
    (enc : α → List Value) (hk : ∀ x, (enc x).length = k) (h1 : ∀ x, ∀ v ∈ enc x, v.oneCell' = true) (cf : α → α → Int) (lt : α → α → Bool) (hO : SWO lt) (g : Nat) (cb : Array Value) (eg : ∀ args w, (callFunc g args).run P w = .ok (.enter g args) w) (blk off cap N : Nat) (w0 : World) (d0 : Array α) (hN : d0.size = N) (hH : HoldsK enc k w0 blk off d0) (hblk : blk < w0.heap.size) (hsz : N < 1152921504606846976) (hcmp : CmpLays P g cb enc k cf blk off N w0)
    (a m b n : Nat) (d : Array α) (os : Array Obj) (ham : a + 1 < m) (hbm : b = m + 1) (hb : b ≤ N) (hd : d.size = N) (hs1 : SortedIn lt a m d) (hag : ∀ y x, m ≤ y → y < b → a ≤ x → x < m → (ltOf cf) d[y]! d[x]! = lt d[y]! d[x]!) :
    Calls P 121 #[.slice (some ⟨blk, off, none⟩) N cap, .int .i64 a, .int .i64 m, .int .i64 b, .func (.func g) #[] cb] (sortWorldK enc k w0 blk off n d os) fun e w' => e = .returned (.tuple #[]) ∧ ∃ n' os' d', w' = sortWorldK enc k w0 blk off n' d' os' ∧ PermIn a b d d' ∧ SortedIn lt a b d' := by
  have mixed := L.mixed
  have t22 : P.underlying 25 = some (.slice 30) := L.t22
  have a22 : ∀ w, (isAgg 25).run P w = .ok false w := L.a22
  have z22 : ∀ w, (Go.sizeOf 25).run P w = .ok 1 w := L.z22
  have v22 : ∀ w, (zeroValue 25).run P w = .ok (Value.slice none 0 0) w := L.v22
  have t3 : P.underlying 3 = some (.int .i64) := L.t3
  have a3 : ∀ w, (isAgg 3).run P w = .ok false w := L.a3
  have z3 : ∀ w, (Go.sizeOf 3).run P w = .ok 1 w := L.z3
  have v3 : ∀ w, (zeroValue 3).run P w = .ok (.int .i64 0) w := L.v3
  have u22 := run_underlying t22
  have HK : Hid (∀ x, (enc x).length = k) := hk
  have H1 : Hid (∀ x, ∀ v ∈ enc x, v.oneCell' = true) := h1
  have HC : Hid (CmpLays P g cb enc k cf blk off N w0) := hcmp
  have HHD : Hid (∀ n (d : Array α) os, d.size = N → HoldsK enc k (sortWorldK enc k w0 blk off n d os) blk off d) := fun n d os hd => holdsK_sortWorldK_c enc k w0 blk off d0 d n os hH hblk (by omega)
  have HCL : Hid (∀ n (d : Array α) os q os', grow ((sortWorldK enc k w0 blk off n d os).drewN q) os' = sortWorldK enc k w0 blk off (n + q) d (os ++ os')) := fun n d os q os' => sortWorldK_grown_c enc k w0 blk off n q d os os'
  have HLD : Hid (∀ n (d : Array α) os x, d.size = N → x < N → ∀ q os', Sem.run P (loadCellsFrom ⟨blk, off + x * k, none⟩ 0 k #[]) (grow ((sortWorldK enc k w0 blk off n d os).drewN q) os') = .ok (enc d[x]!).toArray (grow ((sortWorldK enc k w0 blk off n d os).drewN q) os')) := fun n d os x hd hx q os' => by
    rw [HCL.out]; exact run_loadCellsFrom_list P _ _ _ k (HK.out _) (HoldsK.cells (HHD.out _ d _ hd) HK.out (by omega))
  have HCG : Hid (∀ n (d : Array α) os x y, d.size = N → ∀ q os', Calls P g (#[.agg (enc x).toArray, .agg (enc y).toArray] ++ cb) (grow ((sortWorldK enc k w0 blk off n d os).drewN q) os') fun e w' => e = .returned (.int .i64 (cf x y)) ∧ ∃ q' os'', w' = grow ((grow ((sortWorldK enc k w0 blk off n d os).drewN q) os').drewN q') os'') := fun n d os x y hd q os' => by
    rw [HCL.out]; exact HC.out _ _ d hd x y
  have HS1 : Hid (SortedIn lt a m d) := hs1
  have HO : Hid (SWO lt) := hO
  have HAG := Lib.hid hag
  clear hk h1 hcmp hH hs1 hO hag
  have wma : IntKind.i64.wrap ((m : Int) - (a : Int)) = (m : Int) - (a : Int) := by rw [IntKind.wrap_i64]; omega
  have wne : (((m : Int) - (a : Int)) == 1) = false := by rw [beq_eq_false_iff_ne]; omega
  have wne' : ¬ ((m : Int) - (a : Int) = 1) := by omega
  have wbm : IntKind.i64.wrap ((b : Int) - (m : Int)) = 1 := by rw [IntKind.wrap_i64]; omega
  have HBM : Hid (b = m + 1) := hbm
  have hbm' : m < b := by omega
  have az0 : (0 : Int) ≤ (m : Int) := by omega
  have azN : (m : Int) < (N : Int) := by omega
  clear hbm
  go_enter FG, Tryz.ntmps121
  go_wp2
  go_loopw [14, 15] (fun v u wr => ∃ (i j n' : Nat) (os' : Array Obj), v = .int .i64 i ∧ u = .int .i64 j ∧ a ≤ i ∧ i ≤ j ∧ j ≤ m ∧ wr = sortWorldK enc k w0 blk off n' d os' ∧ Hid ((∀ t, a ≤ t → t < i → lt d[m]! d[t]! = false) ∧ (∀ t, j ≤ t → t < m → lt d[m]! d[t]! = true))) (fun v u _ => (intOf u - intOf v).toNat)
  case atStart => exact ⟨a, m, n, os, rfl, rfl, Nat.le_refl _, by omega, Nat.le_refl _, rfl, fun t h1 h2 => by omega, fun t h1 h2 => by omega⟩
  case round =>
    obtain ⟨i, j, n', os', rfl, rfl, hai, hij, hjm, rfl, HI⟩ := hrel
    by_cases hlt : i < j
    · have hltz : (i : Int) < (j : Int) := by omega
      have hhN : (i + j) / 2 < N := by omega
      have hh0 : (0 : Int) ≤ ((i : Int) + (j : Int)) / 2 := by omega
      have hhZ : ((i : Int) + (j : Int)) / 2 < (N : Int) := by omega
      have hhn : (((i : Int) + (j : Int)) / 2).toNat = (i + j) / 2 := by omega
      obtain ⟨xm, hxm⟩ : ∃ x, d[m]! = x := ⟨_, rfl⟩
      obtain ⟨xh, hxh⟩ : ∃ x, d[(i + j) / 2]! = x := ⟨_, rfl⟩
      have lxm := HLD.out n' d os' (m) (by omega) (by omega)
      have lxh := HLD.out n' d os' ((i + j) / 2) (by omega) (by omega)
      rw [hxm] at lxm
      rw [hxh] at lxh
      have hcg := HCG.out n' d os' xm xh (by omega)
      have CLS := Lib.hid (HCL.out n' d os')
      have HXxm := Lib.hid hxm
      have HXxh := Lib.hid hxh
      clear hxm hxh
      generalize sortWorldK enc k w0 blk off n' d os' = wq at lxm lxh hcg CLS ⊢
      by_cases hlv : cf xm xh < 0
      · have hdv : decide (cf xm xh < 0) = true := decide_eq_true hlv
        go_wp2_with fail
        go_quiet_grown (first | (go_at_fn g; refine Calls.grown_of (hcg _ _)))
        go_wp2_with fail
        go_roundw
        case rel =>
          refine ⟨i, (i + j) / 2, n' + nq, os' ++ osq, rfl, by first | (congr 1; omega) | congr 1, hai, by omega, by omega, CLS.out nq osq, HI.out.1, fun t h1 h2 => ?_⟩
          have e := SWO.le HO.out HS1.out (i := (i + j) / 2) (j := t) (by omega) h1 h2
          have hbm := HBM.out
          have e2 : lt d[m]! d[(i + j) / 2]! = true := (HAG.out _ _ (by omega) (by omega) (by omega) (by omega)).symm.trans (by rw [HXxh.out, HXxm.out]; exact decide_eq_true (by omega))
          exact SWO.less_up HO.out e e2
        case measure => simp [intOf]; omega
      · have hdv : decide (cf xm xh < 0) = false := decide_eq_false hlv
        go_wp2_with fail
        go_quiet_grown (first | (go_at_fn g; refine Calls.grown_of (hcg _ _)))
        go_wp2_with fail
        go_roundw
        case rel =>
          refine ⟨(i + j) / 2 + 1, j, n' + nq, os' ++ osq, by first | (congr 1; omega) | congr 1, rfl, by omega, by omega, hjm, CLS.out nq osq, fun t h1 h2 => ?_, HI.out.2⟩
          have e := SWO.le HO.out HS1.out (i := t) (j := (i + j) / 2) h1 (by omega) (by omega)
          have hbm := HBM.out
          have e2 : lt d[m]! d[(i + j) / 2]! = false := (HAG.out _ _ (by omega) (by omega) (by omega) (by omega)).symm.trans (by rw [HXxh.out, HXxm.out]; exact decide_eq_false (by omega))
          exact HO.out.ntrans _ _ _ e2 e
        case measure => simp [intOf]; omega
    · obtain rfl : i = j := by omega
      have hltz : ¬ (i : Int) < (i : Int) := by omega
      go_wp2
      go_loopw [17] (fun v wr => ∃ (x n2 : Nat) (dk : Array α) (os2 : Array Obj), v = .int .i64 x ∧ i ≤ x ∧ x ≤ m ∧ dk.size = N ∧ wr = sortWorldK enc k w0 blk off n2 dk os2 ∧ Hid (Rot d dk x m (m + 1) ∧ PermIn a b d dk)) (fun v _ => (intOf v).toNat)
      case atStart => exact ⟨m, n', d, os', rfl, by omega, Nat.le_refl _, hd, rfl, Rot.self_down d m, permIn_refl _ _ _⟩
      case round =>
        obtain ⟨x, n2, dk, os2, rfl, hix, hxm, hdk, rfl, HR⟩ := hrel
        by_cases hx : i < x
        · obtain ⟨y, rfl⟩ : ∃ y, x = y + 1 := ⟨x - 1, by omega⟩
          have hxz : (i : Int) < (y : Int) + 1 := by omega
          have hwp : IntKind.i64.wrap (y : Int) = (y : Int) := by rw [IntKind.wrap_i64]; omega
          have p0 : (0 : Int) ≤ (y : Int) := by omega
          have pz : (y : Int) < (N : Int) := by omega
          have q0 : (0 : Int) ≤ (y : Int) + 1 := by omega
          have qz : (y : Int) + 1 < (N : Int) := by omega
          have e0 : ((y : Int) + 1).toNat = y + 1 := by omega
          obtain ⟨xa, hxa⟩ : ∃ z_, dk[y + 1]! = z_ := ⟨_, rfl⟩
          obtain ⟨xb, hxb⟩ : ∃ z_, dk[y]! = z_ := ⟨_, rfl⟩
          have hHd : HoldsK enc k (sortWorldK enc k w0 blk off n2 dk os2).drew blk off dk := HHD.out _ dk _ (by omega)
          generalize hwr : sortWorldK enc k w0 blk off n2 dk os2 = wq at hHd ⊢
          have HWR := Lib.hid hwr
          have bnd : ∀ x, x < dk.size → x * k + k ≤ dk.size * k := fun x hx => by
            have := Nat.mul_le_mul_right k (show x + 1 ≤ dk.size from hx); rwa [Nat.add_mul, Nat.one_mul] at this
          have la : Sem.run P (loadCellsFrom ⟨blk, off + (y + 1) * k, none⟩ 0 k #[]) wq.drew = .ok (enc xa).toArray wq.drew := by rw [← hxa]; exact run_loadCellsFrom_list P _ _ _ k (HK.out _) (HoldsK.cells hHd HK.out (by omega))
          have lb : Sem.run P (loadCellsFrom ⟨blk, off + (y) * k, none⟩ 0 k #[]) wq.drew = .ok (enc xb).toArray wq.drew := by rw [← hxb]; exact run_loadCellsFrom_list P _ _ _ k (HK.out _) (HoldsK.cells hHd HK.out (by omega))
          have s1 : Sem.run P (storeCells ⟨blk, off + (y + 1) * k, none⟩ (enc xb) 0) wq.drew = .ok () (wq.drew.setCells blk (off + (y + 1) * k) (enc xb)) := stores_of_holds P hHd ((y + 1) * k) _ (by rw [HK.out, size_flatK]; exact bnd (y + 1) (by omega)) (H1.out _)
          have s2 : Sem.run P (storeCells ⟨blk, off + (y) * k, none⟩ (enc xa) 0) (wq.drew.setCells blk (off + (y + 1) * k) (enc xb)) = .ok () ((wq.drew.setCells blk (off + (y + 1) * k) (enc xb)).setCells blk (off + (y) * k) (enc xa)) :=
            stores_of_holds P (holds_setCells_c hHd ((y + 1) * k) _ (by rw [HK.out, size_flatK]; exact bnd (y + 1) (by omega))) ((y) * k) _ (by rw [HK.out, size_setMany, size_flatK]; exact bnd (y) (by omega)) (H1.out _)
          have hsA : (enc xa).length = k := HK.out _
          have hsB : (enc xb).length = k := HK.out _
          clear hwr hHd bnd
          obtain ⟨cA, hcA⟩ : ∃ c, c = enc xa := ⟨_, rfl⟩
          obtain ⟨cB, hcB⟩ : ∃ c, c = enc xb := ⟨_, rfl⟩
          rw [← hcB] at s1 lb hsB
          rw [← hcA] at la hsA
          rw [← hcA, ← hcB] at s2
          have CC : Hid (cA = enc xa ∧ cB = enc xb) := ⟨hcA, hcB⟩
          clear hcA hcB
          go_wp2_with fail
          go_big_region_o
          all_goals go_wp2
          refine ⟨⟨y, n2 + 1, swp dk (y + 1) y, os2, by first | rfl | go_num | (congr 1; omega), by omega, by omega, by rw [size_swp]; exact hdk, ?_, (show Hid _ from ?_)⟩, by simp [intOf]⟩
          · rw [CC.out.1, CC.out.2, ← hxa, ← hxb, ← HWR.out]
            exact sortWorldK_swp_c enc k w0 blk off HK.out n2 dk os2 hblk (y + 1) y (by omega) (by omega)
          · have := HR.out.1.down (by omega) hxm (by omega)
            rw [Nat.add_sub_cancel] at this
            exact ⟨this, permIn_trans _ _ _ _ _ HR.out.2 (swp_permIn dk a b (y + 1) y (by omega) (by omega) (by omega) (by omega) (by omega))⟩
        · have hxz : ¬ (i : Int) < (x : Int) := by omega
          go_wp2
          (try simp only [Exit.inBlock, Exit.then]); refine bodyPost_ret (results_none rfl _ _ _) rfl ?_
          obtain rfl : i = x := by omega
          have hm := HBM.out
          refine ⟨rfl, n2, os2, dk, rfl, HR.out.2, by rw [hm]; exact one_down HO.out hai hjm HS1.out HI.out.1 HI.out.2 HR.out.1⟩
end Go.Proofs.YtjfgmgkhinehaaaGreatDoor
