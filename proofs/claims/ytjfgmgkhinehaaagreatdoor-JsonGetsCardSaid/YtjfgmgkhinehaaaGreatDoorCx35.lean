/- JsonPut2, JsonMany2, JsonManyO, JsonFm: merged. -/
import Derived.Deep.Cut
import Derived.Test.YtjfgmgkhinehaaaGreatDoorCx09
set_option linter.all false
namespace Go.Proofs.YtjfgmgkhinehaaaGreatDoor
open Go Go.RowKit
theorem bytesLess_self : ∀ l : List UInt8, Op.bytesLess l l = false
  | [] => rfl
  | a :: r => by rw [Op.bytesLess, bytesLess_self r]; simp
theorem putKL_drop {K : List ByteArray} {L : List J} {j : Nat} (t : ByteArray) (x : J) (d : Bool) (h1 : j < K.length) (h2 : j < L.length) :
    putKL t x d (K.drop j) (L.drop j) = ((if d = false ∧ Op.bytesLess K[j].toList t.toList = false then [t] else []) ++ (if K[j] = t then [] else [K[j]]) ++ (putKL t x (d || !Op.bytesLess K[j].toList t.toList) (K.drop (j + 1)) (L.drop (j + 1))).1,
      (if d = false ∧ Op.bytesLess K[j].toList t.toList = false then [x] else []) ++ (if K[j] = t then [] else [L[j]]) ++ (putKL t x (d || !Op.bytesLess K[j].toList t.toList) (K.drop (j + 1)) (L.drop (j + 1))).2) := by
  rw [List.drop_eq_getElem_cons h1, List.drop_eq_getElem_cons h2, putKL]
  simp only [List.tail_cons, List.headD_cons]
  split <;> split <;> rfl
def PutTells (W : World) (S : Nat → Prop) (t : ByteArray) (x : J) (K : List ByteArray) (L : List J) (e : Ending) (w' : World) : Prop :=
  ∃ v, e = .returned v ∧ RepS w' (fun b => S b ∨ W.heap.size ≤ b) (.mk 5 0 ⟨#[]⟩ (putKL t x false K L).2 (putKL t x false K L).1) v ∧ Below W.heap.size W w'
/-- Ways that end alike are gone on with once. -/
def Key (G : Prop) : Prop := G
theorem Key.out {G : Prop} (h : Key G) : G := h
theorem once {G R : Prop} (h : Key G → R) (g : G) : R := h g
set_option maxRecDepth 100000 in
set_option maxHeartbeats 8000000 in
theorem refPut_obj (kd n : Int) (s : ByteArray) (K : List ByteArray) (L : List J) (t : ByteArray) (x : J) (va vx : Value) (W : World) (S : Nat → Prop) (hS : ∀ b, S b → b < W.heap.size) (ha : RepS W S (.mk kd n s L K) va) (hx : RepS W S x vx) (hKL : K.length = L.length) (hq : K.length ≤ 1000000) (ht : t.size ≤ 9223372036854775807) :
    Calls Tryz.prog 11 #[va, .string t, vx] W (PutTells W S t x K L) := by
  obtain ⟨vk, A, c, rfl, hs, ⟨K1, d1, rfl, hkl, hkc⟩, hl, hc⟩ := ha.open
  obtain ⟨vk', A', c', rfl, hs', ⟨K2, d2, rfl, hkl', hkc'⟩, hl', hc'⟩ := hx.open
  have HX := Lib.hid hx
  have HKC : Hid (K ≠ [] → ∃ b o, K1 = some ⟨b, o, none⟩ ∧ S b ∧ b < W.heap.size ∧ ∀ i, i < K.length → ∃ t, K[i]? = some t ∧ t.size ≤ 9223372036854775807 ∧ W.cell? ⟨b, o + i, none⟩ = some (.string t)) := Lib.hid hkc
  have HC : Hid (L ≠ [] → ∃ b o, A = some ⟨b, o, none⟩ ∧ S b ∧ b < W.heap.size ∧ RepCS W S b o L) := Lib.hid hc
  change Calls _ _ #[.agg #[.int .i64 kd, .int .i64 n, .string s, .slice A L.length c, .slice K1 K.length d1], _, _] W _
  clear hkc hc
  obtain ⟨q, hqq⟩ : ∃ q, q = K.length := ⟨_, rfl⟩
  obtain ⟨x0, hx0⟩ : ∃ a, a = x.kind := ⟨_, rfl⟩
  obtain ⟨x1, hx1⟩ : ∃ a, a = x.n := ⟨_, rfl⟩
  obtain ⟨x2, hx2⟩ : ∃ a, a = x.s := ⟨_, rfl⟩
  obtain ⟨x3, hx3⟩ : ∃ a, a = x.l.length := ⟨_, rfl⟩
  obtain ⟨x4, hx4⟩ : ∃ a, a = x.k.length := ⟨_, rfl⟩
  rw [← hx0, ← hx1, ← hx2, ← hx3, ← hx4] at HX ⊢
  rw [← hKL]
  rw [← hqq] at hq ⊢
  have HQ := Lib.hid hqq
  have HQL : Hid (q = L.length) := Lib.hid (hqq.trans hKL)
  have HS := Lib.hid hS
  have HTS := Lib.hid ht
  clear ha hx hs hkl hl hs' hkl' hkc' hl' hc' hx0 hx1 hx2 hx3 hx4 hqq hKL hS ht
  obtain ⟨iJ, hJ, hJ0, hJ1, hJ2⟩ := info_parts infoJ
  obtain ⟨iS, hSS, hS0, hS1, hS2⟩ := info_parts infoS
  go_enter Tryz.func11, Tryz.ntmps11
  go_wp2
  have HI := Lib.hid (putInv_start W [.int .i64 kd, .int .i64 n, .string s, .slice A q c, .slice K1 q d1] [.int .i64 x0, .int .i64 x1, .string x2, .slice A' x3 c', .slice K2 x4 d2] S)
  obtain ⟨c3, hc3⟩ : ∃ x : List Value, x = [.int .i64 kd, .int .i64 n, .string s, .slice A q c, .slice K1 q d1] := ⟨_, rfl⟩
  obtain ⟨c5, hc5⟩ : ∃ x : List Value, x = [.int .i64 x0, .int .i64 x1, .string x2, .slice A' x3 c', .slice K2 x4 d2] := ⟨_, rfl⟩
  have HC3 := Lib.hid hc3
  have HC5 := Lib.hid hc5
  clear hc3 hc5
  go_loopw [8, 9] (fun b i wr => ∃ (j : Nat) (d : Bool) (ks : List ByteArray) (vs : List J) (xs : List Value) (vL vK : Value), b = .bool d ∧ i = .int .i64 (j : Int) ∧ j ≤ q ∧ ks.length ≤ j + 1 ∧ vs.length ≤ j + 1 ∧ ks.length = vs.length ∧ (d = false → ks.length ≤ j) ∧
      (ks ++ (putKL t x d (K.drop j) (L.drop j)).1 = (putKL t x false K L).1 ∧ vs ++ (putKL t x d (K.drop j) (L.drop j)).2 = (putKL t x false K L).2) ∧ (∀ u ∈ ks, u.size ≤ 9223372036854775807) ∧ PutInv W wr c3 c5 S vs xs vL ks vK) (fun _ i _ => q - (intOf i).toNat)
  case atStart => exact ⟨0, false, [], [], [], .slice none 0 0, .slice none 0 0, rfl, rfl, by omega, by simp, by simp, rfl, fun _ => by simp, ⟨rfl, rfl⟩, by simp, by rw [HC3.out, HC5.out]; exact HI.out⟩
  case round =>
    obtain ⟨j, d, ks, vs, xs, vL, vK, rfl, rfl, hj, hk1, hv1, hkv, hdf, hput, hus, hI⟩ := hrel
    have HPUT := Lib.hid hput
    have HUS := Lib.hid hus
    have HI2 := Lib.hid hI
    have HLEN := Lib.hid hkv
    have HDF := Lib.hid hdf
    rw [HC3.out, HC5.out] at hI
    have HI3 := Lib.hid hI
    obtain ⟨e33, e34, e50, e51, e52, e53, e54, e73, e74, f73, f74⟩ := hI.cells
    obtain ⟨⟨h3, h5, h6, h7⟩, ⟨hL, hf⟩, hK, hb, hsz⟩ := hI
    have H6 := Lib.hid h6
    have H7 := Lib.hid h7
    obtain ⟨nk, hnk⟩ : ∃ n, n = ks.length := ⟨_, rfl⟩
    obtain ⟨nv, hnv⟩ : ∃ n, n = vs.length := ⟨_, rfl⟩
    rw [← hnk] at hK hk1
    rw [← hnv] at hL hv1
    have HKN := Lib.hid hnk
    have HVN := Lib.hid hnv
    have HL := Lib.hid hL
    have HF := Lib.hid hf
    have HK := Lib.hid hK
    clear hnk hnv
    have HB := Lib.hid hb
    clear h3 h5 h6 h7 hL hf hK hb hput hus hkv hdf HI
    by_cases hlt : j < q
    · have hjK : j < K.length := by rw [← HQ.out]; exact hlt
      have hjL : j < L.length := by rw [← HQL.out]; exact hlt
      obtain ⟨b1, o1, rfl, hS1', hb1, hcs⟩ := HKC.out (fun e => by rw [e] at hjK; exact absurd hjK (Nat.not_lt_zero _))
      obtain ⟨u, hu0, husz, hu⟩ := hcs j hjK
      rw [List.getElem?_eq_getElem hjK] at hu0
      replace hu0 := Option.some.inj hu0
      have HU := Lib.hid hu
      have hu' := (HB.out.cell (p := ⟨b1, o1 + j, none⟩) hb1).trans hu
      have HST := Lib.hid (putKL_drop t x d hjK hjL)
      rw [hu0] at HST
      have HUSZ := Lib.hid husz
      have HUM : Hid (u ∈ K) := Lib.hid (by rw [← hu0]; exact List.getElem_mem hjK)
      obtain ⟨b2, o2, rfl, hS2', hb2, hrc⟩ := HC.out (fun e => by rw [e] at hjL; exact absurd hjL (Nat.not_lt_zero _))
      obtain ⟨y, hy⟩ : ∃ y, y = L[j]'hjL := ⟨_, rfl⟩
      obtain ⟨vy, hy1, hy2⟩ := hrc.at j hjL
      rw [← hy] at hy1 HST
      obtain ⟨vk3, A3, c3', rfl, _, ⟨K3, d3, rfl, _, _⟩, _, _⟩ := hy1.open
      obtain ⟨y0, hy0'⟩ : ∃ a, a = y.kind := ⟨_, rfl⟩
      obtain ⟨y1, hy1'⟩ : ∃ a, a = y.n := ⟨_, rfl⟩
      obtain ⟨y2, hy2'⟩ : ∃ a, a = y.s := ⟨_, rfl⟩
      obtain ⟨y3, hy3'⟩ : ∃ a, a = y.l.length := ⟨_, rfl⟩
      obtain ⟨y4, hy4'⟩ : ∃ a, a = y.k.length := ⟨_, rfl⟩
      rw [← hy0', ← hy1', ← hy2', ← hy3', ← hy4'] at hy1 hy2
      have HFIVE := Lib.hid hy2
      have HS2 := Lib.hid hS2'
      obtain ⟨t0, t1, t2, t3, t4, et, z0, z1, z2, z3, z4⟩ := hy2.keeps hS2' hb2 (Keeps.below (S := S) HB.out (fun b h _ => HS.out b h))
      simp only [Value.agg.injEq, Array.mk.injEq, List.cons.injEq, and_true] at et
      obtain ⟨rfl, rfl, rfl, rfl, rfl⟩ := et
      clear hy0' hy1' hy2' hy3' hy4'
      have HY := Lib.hid hy1
      have hB1 : b1 < W.heap.size := hb1
      have i0 : (j : Int) < (q : Int) := by omega
      have i1 : (0 : Int) ≤ (j : Int) := by omega
      have HJK := Lib.hid hjK
      clear hcs husz hrc hy1 hy2 hy hu hu0 hjK hjL hS1' hS2'
      by_cases hut : u = t
      · have b4 := beq_str hut
        have c4 : (u.toList != t.toList) = false := by rw [bne, b4]; rfl
        cases d with
        | true =>
          have HST2 : Hid (putKL t x true (K.drop j) (L.drop j) = putKL t x true (K.drop (j + 1)) (L.drop (j + 1))) := Lib.hid (by
            rw [HST.out, if_pos hut, if_pos hut]; simp)
          clear hut HST
          go_wp2_with fail
          go_roundw
          case rel => exact ⟨j + 1, true, ks, vs, xs, _, _, rfl, by go_num, by omega, by (try simp); have := HKN.out; omega, by (try simp); have := HVN.out; omega, by (try simp); have := HLEN.out; omega, (fun h => by cases h), ⟨by rw [← HPUT.out.1, HST2.out]; try simp, by rw [← HPUT.out.2, HST2.out]; try simp⟩, by
            intro v hv
            try simp only [List.mem_append, List.mem_singleton, List.mem_cons, List.not_mem_nil, or_false] at hv
            exact HUS.out v hv, by rw [HC3.out, HC5.out]; exact HI3.out⟩
          case measure => simp [intOf]; omega
        | false =>
          have hless : Op.bytesLess u.toList t.toList = false := by rw [hut]; exact bytesLess_self _
          have HST2 : Hid (putKL t x false (K.drop j) (L.drop j) = (t :: (putKL t x true (K.drop (j + 1)) (L.drop (j + 1))).1, x :: (putKL t x true (K.drop (j + 1)) (L.drop (j + 1))).2)) := Lib.hid (by
            rw [HST.out, if_pos hut, if_pos hut, hless]; simp)
          clear hut HST
          go_wp2_with (first
            | (at_builtin; refine wpList_append_lies _ rfl (.tmp 30) (.tmp 32) 22 rfl (W.heap.size + 4) 9 iS (.string ⟨#[]⟩) 1 16 Tryz.underlying22 hSS hS0 hS1 hS2 rfl (by decide) vK nk _ rfl (HK.out.alloc _) ⟨wr.heap.size, 0, none⟩ 1 1 [.string t] rfl rfl ?ua1 ?ua2 (by decide) ?ua3 ?ua4 ?ua5 _ rfl ?_))
          case ua2 => first | rfl | (intro v hv; rw [List.mem_singleton.1 hv]; rfl)
          case ua3 => unfold maxLen; omega
          case ua4 => omega
          case ua5 => first | omega | (simp; omega)
          intro gi capi w1 hown1 hgrow hat hlt1
          have HA := Lib.hid (HI3.out.addK HS.out (World.grownBy_alloc wr _ none) hgrow (by rw [HKN.out]) hown1)
          obtain ⟨k33, k34, k50, k51, k52, k53, k54, k73, k74, fk73, fk74⟩ := (HI3.out.cells.grown (World.grownBy_alloc wr _ none) (by intro k hk; cases hk)).grown hgrow (fun k hk => (HK.out.lt k hk).1)
          have HLI := Lib.hid (own_len HA.out.2.1.1 HVN.out)
          have hz1 := HA.out.2.2.2.2
          clear hown1 hgrow hat
          go_wp2_with (first
            | (at_builtin; refine wpList_append_lies _ rfl (.tmp 36) (.tmp 38) 23 rfl (W.heap.size + 4) 27 iJ (.agg #[.int .i64 0, .int .i64 0, .string ⟨#[]⟩, .slice none 0 0, .slice none 0 0]) 5 80 Tryz.underlying23 hJ hJ0 hJ1 hJ2 rfl (by decide) vL nv _ rfl (HLI.out.alloc _) ⟨w1.heap.size, 0, none⟩ 1 1 [.int .i64 x0, .int .i64 x1, .string x2, .slice A' x3 c', .slice K2 x4 d2] rfl rfl ?ub1 ?ub2 (by decide) ?ub3 ?ub4 ?ub5 _ rfl ?_))
          case ub1 => exact World.news_of_block (cs := #[.int .i64 x0, .int .i64 x1, .string x2, .slice A' x3 c', .slice K2 x4 d2]) (heap_at (by simp) [.int .i64 x0, .int .i64 x1, .string x2, .slice A' x3 c', .slice K2 x4 d2] 27)
          case ub2 => intro v hv; simp at hv; rcases hv with rfl | rfl | rfl | rfl | rfl <;> rfl
          case ub3 => unfold maxLen; omega
          case ub4 => omega
          case ub5 => simp; simp at hz1; omega
          intro gj capj w2 hown2 hgrow2 hat2 hlt2
          have HAI := Lib.hid (HA.out.addL HS.out (World.grownBy_alloc _ _ none) hgrow2 (by rw [HVN.out]) hown2 HX.out)
          obtain ⟨m33, m34, m50, m51, m52, m53, m54, m73, m74, fm73, fm74⟩ := (HA.out.cells.grown (World.grownBy_alloc _ _ none) (by intro k hk; cases hk)).grown hgrow2 (fun k hk => (HLI.out.lt k hk).1)
          clear hown2 hgrow2 hat2 k33 k34 k50 k51 k52 k53 k54 k73 k74 fk73 fk74 hz1 hlt1
          go_upto_region 9 with (fail)
          obtain ⟨wi, hwi⟩ : ∃ z, z = w2.setCell ⟨W.heap.size + 1 + 1 + 1, 3, none⟩ (.slice (some ⟨gj, 0, none⟩) (nv + 1) capj) := ⟨_, rfl⟩
          have HI5 : Hid (PutInv W wi [.int .i64 kd, .int .i64 n, .string s, .slice (some ⟨b2, o2, none⟩) q c, .slice (some ⟨b1, o1, none⟩) q d1] [.int .i64 x0, .int .i64 x1, .string x2, .slice A' x3 c', .slice K2 x4 d2] S (vs ++ [x]) (xs ++ [.int .i64 x0, .int .i64 x1, .string x2, .slice A' x3 c', .slice K2 x4 d2]) (.slice (some ⟨gj, 0, none⟩) (nv + 1) capj) (ks ++ [t]) (.slice (some ⟨gi, 0, none⟩) (nk + 1) capi)) := Lib.hid (by rw [hwi]; exact HAI.out)
          rw [← hwi]
          obtain ⟨i33, i34, i50, i51, i52, i53, i54, i73, i74, fi73, fi74⟩ := HI5.out.cells
          have hu2 := (HI5.out.2.2.2.1.cell (p := ⟨b1, o1 + j, none⟩) hb1).trans HU.out
          have HKI : Hid (wi.ownsRow (W.heap.size + 4) 9 1 (.slice (some ⟨gi, 0, none⟩) (nk + 1) capi) (nk + 1) ((ks ++ [t]).map Value.string)) := Lib.hid (own_len HI5.out.2.2.1 (by rw [List.length_append, HKN.out]; rfl))
          have HLJ : Hid (wi.ownsRow (W.heap.size + 4) 27 5 (.slice (some ⟨gj, 0, none⟩) (nv + 1) capj) (nv + 1) (xs ++ [.int .i64 x0, .int .i64 x1, .string x2, .slice A' x3 c', .slice K2 x4 d2])) := Lib.hid (own_len HI5.out.2.1.1 (by rw [List.length_append, HVN.out]; rfl))
          have hzi := HI5.out.2.2.2.2
          clear hwi m33 m34 m50 m51 m52 m53 m54 m73 m74 fm73 fm74 e33 e34 e50 e51 e52 e53 e54 e73 e74 f73 f74 hu' hlt2
          go_wp2_with fail
          go_roundw
          case rel => exact ⟨j + 1, true, ks ++ [t], vs ++ [x], xs ++ [.int .i64 x0, .int .i64 x1, .string x2, .slice A' x3 c', .slice K2 x4 d2], _, _, rfl, by go_num, by omega, by (try simp); have := HKN.out; omega, by (try simp); have := HVN.out; omega, by (try simp); have := HLEN.out; omega, (fun h => by cases h), ⟨by rw [← HPUT.out.1, HST2.out]; try simp, by rw [← HPUT.out.2, HST2.out]; try simp⟩, by
            intro v hv
            try simp only [List.mem_append, List.mem_singleton, List.mem_cons, List.not_mem_nil, or_false] at hv
            rcases hv with hv | rfl
            · exact HUS.out v hv
            · exact HTS.out, by rw [HC3.out, HC5.out]; exact HI5.out⟩
          case measure => simp [intOf]; omega
      · have b4 := beq_str_ne hut
        have c4 : (u.toList != t.toList) = true := by rw [bne, b4]; rfl
        cases d with
        | true =>
          have HST2 : Hid (putKL t x true (K.drop j) (L.drop j) = (u :: (putKL t x true (K.drop (j + 1)) (L.drop (j + 1))).1, y :: (putKL t x true (K.drop (j + 1)) (L.drop (j + 1))).2)) := Lib.hid (by
            rw [HST.out, if_neg hut, if_neg hut]; simp)
          clear hut HST
          go_wp2_with fail
          obtain ⟨a33, a34, a50, a51, a52, a53, a54, a73, a74, fa73, fa74⟩ := HI3.out.cells.grown (grownBy_drew (World.grownBy_alloc wr (.cells #[.string u] 9) none)) (by intro k hk; cases hk)
          apply once
          · intro key
            go_region_law ((refine step_append_lies _ (by rfl) _ _ _ (by rfl) (W.heap.size + 4) 9 iS (.string ⟨#[]⟩) 1 16 Tryz.underlying22 hSS hS0 hS1 hS2 rfl (by omega) vK nk _ (by rfl) ((HK.out.alloc _).drew) ⟨wr.heap.size, 0, none⟩ 1 1 [.string u] (by rfl) (by rfl) (World.news_of_block (cs := #[.string u]) (t := 9) (fr := (0, 0)) (heap_alloc_new wr _)) (by simp [Value.oneCell']) (by omega) (by unfold maxLen; omega) (by omega) (by simp; omega) (wr.heap.size + 1) (by simp) ?_; intro ga capa w1 hown1 hgrow hat hlt2; have HA1 := Lib.hid (HI3.out.addK HS.out (grownBy_drew (World.grownBy_alloc wr (.cells #[.string u] 9) none)) hgrow (by rw [HKN.out]) hown1); obtain ⟨k33, k34, k50, k51, k52, k53, k54, k73, k74, fk73, fk74⟩ := (HI3.out.cells.grown (grownBy_drew (World.grownBy_alloc wr (.cells #[.string u] 9) none)) (by intro k hk; cases hk)).grown hgrow (fun k hk => (HK.out.lt k hk).1); clear hown1 hgrow hat))
            all_goals (clear k33 k34 k50 k51 k52 k53 k54 k73 k74 fk73 fk74 hlt2; revert HA1; revert w1; revert capa; revert ga; exact key.out)
          clear a33 a34 a50 a51 a52 a53 a54 a73 a74 fa73 fa74
          intro ga capa w1 HA1
          obtain ⟨wa2, hw2⟩ : ∃ z, z = w1.setCell ⟨W.heap.size + 1 + 1 + 1, 4, none⟩ (.slice (some ⟨ga, 0, none⟩) (nk + 1) capa) := ⟨_, rfl⟩
          have HA2 : Hid (PutInv W wa2 _ _ S vs xs vL (ks ++ [u]) (.slice (some ⟨ga, 0, none⟩) (nk + 1) capa)) := Lib.hid (by rw [hw2]; exact HA1.out)
          rw [← hw2]
          obtain ⟨g33, g34, g50, g51, g52, g53, g54, g73, g74, fg73, fg74⟩ := HA2.out.cells
          obtain ⟨t0, t1, t2, t3, t4, et, r0, r1, r2, r3, r4⟩ := HFIVE.out.keeps HS2.out hb2 (Keeps.below (S := S) HA2.out.2.2.2.1 (fun b h _ => HS.out b h))
          simp only [Value.agg.injEq, Array.mk.injEq, List.cons.injEq, and_true] at et
          obtain ⟨rfl, rfl, rfl, rfl, rfl⟩ := et
          clear hw2 HA1 e33 e34 e50 e51 e52 e53 e54 e73 e74 f73 f74 z0 z1 z2 z3 z4 hu'
          have HL2 : Hid (wa2.ownsRow (W.heap.size + 4) 27 5 vL nv xs) := Lib.hid (own_len HA2.out.2.1.1 HVN.out)
          have hz2 := HA2.out.2.2.2.2
          go_wp2_with fail
          obtain ⟨a33, a34, a50, a51, a52, a53, a54, a73, a74, fa73, fa74⟩ := HA2.out.cells.grown (grownBy_drew (World.grownBy_alloc wa2 (.cells #[.int .i64 y0, .int .i64 y1, .string y2, .slice A3 y3 c3', .slice K3 y4 d3] 27) none)) (by intro k hk; cases hk)
          obtain ⟨q0, q1, q2, q3, q4⟩ : (wa2.alloc (.cells #[.int .i64 y0, .int .i64 y1, .string y2, .slice A3 y3 c3', .slice K3 y4 d3] 27)).drew.cell? ⟨b2, o2 + j * 5, none⟩ = some (.int .i64 y0) ∧ (wa2.alloc (.cells #[.int .i64 y0, .int .i64 y1, .string y2, .slice A3 y3 c3', .slice K3 y4 d3] 27)).drew.cell? ⟨b2, o2 + j * 5 + 1, none⟩ = some (.int .i64 y1) ∧ (wa2.alloc (.cells #[.int .i64 y0, .int .i64 y1, .string y2, .slice A3 y3 c3', .slice K3 y4 d3] 27)).drew.cell? ⟨b2, o2 + j * 5 + 2, none⟩ = some (.string y2) ∧ (wa2.alloc (.cells #[.int .i64 y0, .int .i64 y1, .string y2, .slice A3 y3 c3', .slice K3 y4 d3] 27)).drew.cell? ⟨b2, o2 + j * 5 + 3, none⟩ = some (.slice A3 y3 c3') ∧ (wa2.alloc (.cells #[.int .i64 y0, .int .i64 y1, .string y2, .slice A3 y3 c3', .slice K3 y4 d3] 27)).drew.cell? ⟨b2, o2 + j * 5 + 4, none⟩ = some (.slice K3 y4 d3) :=
            ⟨(grownBy_drew (World.grownBy_alloc wa2 (.cells #[.int .i64 y0, .int .i64 y1, .string y2, .slice A3 y3 c3', .slice K3 y4 d3] 27) none)).cell r0 (by simp), (grownBy_drew (World.grownBy_alloc wa2 (.cells #[.int .i64 y0, .int .i64 y1, .string y2, .slice A3 y3 c3', .slice K3 y4 d3] 27) none)).cell r1 (by simp), (grownBy_drew (World.grownBy_alloc wa2 (.cells #[.int .i64 y0, .int .i64 y1, .string y2, .slice A3 y3 c3', .slice K3 y4 d3] 27) none)).cell r2 (by simp), (grownBy_drew (World.grownBy_alloc wa2 (.cells #[.int .i64 y0, .int .i64 y1, .string y2, .slice A3 y3 c3', .slice K3 y4 d3] 27) none)).cell r3 (by simp), (grownBy_drew (World.grownBy_alloc wa2 (.cells #[.int .i64 y0, .int .i64 y1, .string y2, .slice A3 y3 c3', .slice K3 y4 d3] 27) none)).cell r4 (by simp)⟩
          apply once
          · intro key
            go_region_law ((refine step_append_lies _ (by rfl) _ _ _ (by rfl) (W.heap.size + 4) 27 iJ (.agg #[.int .i64 0, .int .i64 0, .string ⟨#[]⟩, .slice none 0 0, .slice none 0 0]) 5 80 Tryz.underlying23 hJ hJ0 hJ1 hJ2 rfl (by omega) vL nv _ (by rfl) ((HL2.out.alloc _).drew) ⟨wa2.heap.size, 0, none⟩ 1 1 [.int .i64 y0, .int .i64 y1, .string y2, .slice A3 y3 c3', .slice K3 y4 d3] (by rfl) (by rfl) (World.news_of_block (cs := #[.int .i64 y0, .int .i64 y1, .string y2, .slice A3 y3 c3', .slice K3 y4 d3]) (t := 27) (fr := (0, 0)) (heap_alloc_new wa2 _)) (by simp [Value.oneCell']) (by omega) (by unfold maxLen; omega) (by omega) (by simp; omega) (wa2.heap.size + 1) (by simp) ?_; intro ga3 capa3 w3 hown1 hgrow hat hlt2; have HA3 := Lib.hid (HA2.out.addL HS.out (grownBy_drew (World.grownBy_alloc wa2 (.cells #[.int .i64 y0, .int .i64 y1, .string y2, .slice A3 y3 c3', .slice K3 y4 d3] 27) none)) hgrow (by rw [HVN.out]) hown1 HY.out); obtain ⟨k33, k34, k50, k51, k52, k53, k54, k73, k74, fk73, fk74⟩ := (HA2.out.cells.grown (grownBy_drew (World.grownBy_alloc wa2 (.cells #[.int .i64 y0, .int .i64 y1, .string y2, .slice A3 y3 c3', .slice K3 y4 d3] 27) none)) (by intro k hk; cases hk)).grown hgrow (fun k hk => (HL2.out.lt k hk).1); clear hown1 hgrow hat))
            all_goals (clear k33 k34 k50 k51 k52 k53 k54 k73 k74 fk73 fk74 hlt2; revert HA3; revert w3; revert capa3; revert ga3; exact key.out)
          clear a33 a34 a50 a51 a52 a53 a54 a73 a74 fa73 fa74 g33 g34 g50 g51 g52 g53 g54 g73 g74 fg73 fg74 q0 q1 q2 q3 q4 r0 r1 r2 r3 r4 hz2
          intro ga3 capa3 w3 HA3
          obtain ⟨wa4, hw4⟩ : ∃ z, z = w3.setCell ⟨W.heap.size + 1 + 1 + 1, 3, none⟩ (.slice (some ⟨ga3, 0, none⟩) (nv + 1) capa3) := ⟨_, rfl⟩
          have HA4 : Hid (PutInv W wa4 _ _ S (vs ++ [y]) (xs ++ [.int .i64 y0, .int .i64 y1, .string y2, .slice A3 y3 c3', .slice K3 y4 d3]) (.slice (some ⟨ga3, 0, none⟩) (nv + 1) capa3) (ks ++ [u]) (.slice (some ⟨ga, 0, none⟩) (nk + 1) capa)) := Lib.hid (by rw [hw4]; exact HA3.out)
          rw [← hw4]
          clear hw4 HA3
          go_wp2_with fail

          go_roundw
          case rel => exact ⟨j + 1, true, ks ++ [u], vs ++ [y], xs ++ [.int .i64 y0, .int .i64 y1, .string y2, .slice A3 y3 c3', .slice K3 y4 d3], _, _, rfl, by go_num, by omega, by (try simp); have := HKN.out; omega, by (try simp); have := HVN.out; omega, by (try simp); have := HLEN.out; omega, (fun h => by cases h), ⟨by rw [← HPUT.out.1, HST2.out]; try simp, by rw [← HPUT.out.2, HST2.out]; try simp⟩, by
            intro v hv
            try simp only [List.mem_append, List.mem_singleton, List.mem_cons, List.not_mem_nil, or_false] at hv
            rcases hv with hv | rfl
            · exact HUS.out v hv
            · exact HUSZ.out, by rw [HC3.out, HC5.out]; exact HA4.out⟩
          case measure => simp [intOf]; omega
        | false =>
          by_cases hless : Op.bytesLess u.toList t.toList = true
          · have HST2 : Hid (putKL t x false (K.drop j) (L.drop j) = (u :: (putKL t x false (K.drop (j + 1)) (L.drop (j + 1))).1, y :: (putKL t x false (K.drop (j + 1)) (L.drop (j + 1))).2)) := Lib.hid (by
              rw [HST.out, if_neg hut, if_neg hut, hless]; simp)
            clear hut HST
            go_wp2_with fail
            obtain ⟨a33, a34, a50, a51, a52, a53, a54, a73, a74, fa73, fa74⟩ := HI3.out.cells.grown (grownBy_drew (World.grownBy_alloc wr (.cells #[.string u] 9) none)) (by intro k hk; cases hk)
            apply once
            · intro key
              go_region_law ((refine step_append_lies _ (by rfl) _ _ _ (by rfl) (W.heap.size + 4) 9 iS (.string ⟨#[]⟩) 1 16 Tryz.underlying22 hSS hS0 hS1 hS2 rfl (by omega) vK nk _ (by rfl) ((HK.out.alloc _).drew) ⟨wr.heap.size, 0, none⟩ 1 1 [.string u] (by rfl) (by rfl) (World.news_of_block (cs := #[.string u]) (t := 9) (fr := (0, 0)) (heap_alloc_new wr _)) (by simp [Value.oneCell']) (by omega) (by unfold maxLen; omega) (by omega) (by simp; omega) (wr.heap.size + 1) (by simp) ?_; intro gb capb w1 hown1 hgrow hat hlt2; have HA1 := Lib.hid (HI3.out.addK HS.out (grownBy_drew (World.grownBy_alloc wr (.cells #[.string u] 9) none)) hgrow (by rw [HKN.out]) hown1); obtain ⟨k33, k34, k50, k51, k52, k53, k54, k73, k74, fk73, fk74⟩ := (HI3.out.cells.grown (grownBy_drew (World.grownBy_alloc wr (.cells #[.string u] 9) none)) (by intro k hk; cases hk)).grown hgrow (fun k hk => (HK.out.lt k hk).1); clear hown1 hgrow hat))
              all_goals (clear k33 k34 k50 k51 k52 k53 k54 k73 k74 fk73 fk74 hlt2; revert HA1; revert w1; revert capb; revert gb; exact key.out)
            clear a33 a34 a50 a51 a52 a53 a54 a73 a74 fa73 fa74
            intro gb capb w1 HA1
            obtain ⟨wb2, hw2⟩ : ∃ z, z = w1.setCell ⟨W.heap.size + 1 + 1 + 1, 4, none⟩ (.slice (some ⟨gb, 0, none⟩) (nk + 1) capb) := ⟨_, rfl⟩
            have HA2 : Hid (PutInv W wb2 _ _ S vs xs vL (ks ++ [u]) (.slice (some ⟨gb, 0, none⟩) (nk + 1) capb)) := Lib.hid (by rw [hw2]; exact HA1.out)
            rw [← hw2]
            obtain ⟨g33, g34, g50, g51, g52, g53, g54, g73, g74, fg73, fg74⟩ := HA2.out.cells
            obtain ⟨t0, t1, t2, t3, t4, et, r0, r1, r2, r3, r4⟩ := HFIVE.out.keeps HS2.out hb2 (Keeps.below (S := S) HA2.out.2.2.2.1 (fun b h _ => HS.out b h))
            simp only [Value.agg.injEq, Array.mk.injEq, List.cons.injEq, and_true] at et
            obtain ⟨rfl, rfl, rfl, rfl, rfl⟩ := et
            clear hw2 HA1 e33 e34 e50 e51 e52 e53 e54 e73 e74 f73 f74 z0 z1 z2 z3 z4 hu'
            have HL2 : Hid (wb2.ownsRow (W.heap.size + 4) 27 5 vL nv xs) := Lib.hid (own_len HA2.out.2.1.1 HVN.out)
            have hz2 := HA2.out.2.2.2.2
            go_wp2_with fail
            obtain ⟨a33, a34, a50, a51, a52, a53, a54, a73, a74, fa73, fa74⟩ := HA2.out.cells.grown (grownBy_drew (World.grownBy_alloc wb2 (.cells #[.int .i64 y0, .int .i64 y1, .string y2, .slice A3 y3 c3', .slice K3 y4 d3] 27) none)) (by intro k hk; cases hk)
            obtain ⟨q0, q1, q2, q3, q4⟩ : (wb2.alloc (.cells #[.int .i64 y0, .int .i64 y1, .string y2, .slice A3 y3 c3', .slice K3 y4 d3] 27)).drew.cell? ⟨b2, o2 + j * 5, none⟩ = some (.int .i64 y0) ∧ (wb2.alloc (.cells #[.int .i64 y0, .int .i64 y1, .string y2, .slice A3 y3 c3', .slice K3 y4 d3] 27)).drew.cell? ⟨b2, o2 + j * 5 + 1, none⟩ = some (.int .i64 y1) ∧ (wb2.alloc (.cells #[.int .i64 y0, .int .i64 y1, .string y2, .slice A3 y3 c3', .slice K3 y4 d3] 27)).drew.cell? ⟨b2, o2 + j * 5 + 2, none⟩ = some (.string y2) ∧ (wb2.alloc (.cells #[.int .i64 y0, .int .i64 y1, .string y2, .slice A3 y3 c3', .slice K3 y4 d3] 27)).drew.cell? ⟨b2, o2 + j * 5 + 3, none⟩ = some (.slice A3 y3 c3') ∧ (wb2.alloc (.cells #[.int .i64 y0, .int .i64 y1, .string y2, .slice A3 y3 c3', .slice K3 y4 d3] 27)).drew.cell? ⟨b2, o2 + j * 5 + 4, none⟩ = some (.slice K3 y4 d3) :=
              ⟨(grownBy_drew (World.grownBy_alloc wb2 (.cells #[.int .i64 y0, .int .i64 y1, .string y2, .slice A3 y3 c3', .slice K3 y4 d3] 27) none)).cell r0 (by simp), (grownBy_drew (World.grownBy_alloc wb2 (.cells #[.int .i64 y0, .int .i64 y1, .string y2, .slice A3 y3 c3', .slice K3 y4 d3] 27) none)).cell r1 (by simp), (grownBy_drew (World.grownBy_alloc wb2 (.cells #[.int .i64 y0, .int .i64 y1, .string y2, .slice A3 y3 c3', .slice K3 y4 d3] 27) none)).cell r2 (by simp), (grownBy_drew (World.grownBy_alloc wb2 (.cells #[.int .i64 y0, .int .i64 y1, .string y2, .slice A3 y3 c3', .slice K3 y4 d3] 27) none)).cell r3 (by simp), (grownBy_drew (World.grownBy_alloc wb2 (.cells #[.int .i64 y0, .int .i64 y1, .string y2, .slice A3 y3 c3', .slice K3 y4 d3] 27) none)).cell r4 (by simp)⟩
            apply once
            · intro key
              go_region_law ((refine step_append_lies _ (by rfl) _ _ _ (by rfl) (W.heap.size + 4) 27 iJ (.agg #[.int .i64 0, .int .i64 0, .string ⟨#[]⟩, .slice none 0 0, .slice none 0 0]) 5 80 Tryz.underlying23 hJ hJ0 hJ1 hJ2 rfl (by omega) vL nv _ (by rfl) ((HL2.out.alloc _).drew) ⟨wb2.heap.size, 0, none⟩ 1 1 [.int .i64 y0, .int .i64 y1, .string y2, .slice A3 y3 c3', .slice K3 y4 d3] (by rfl) (by rfl) (World.news_of_block (cs := #[.int .i64 y0, .int .i64 y1, .string y2, .slice A3 y3 c3', .slice K3 y4 d3]) (t := 27) (fr := (0, 0)) (heap_alloc_new wb2 _)) (by simp [Value.oneCell']) (by omega) (by unfold maxLen; omega) (by omega) (by simp; omega) (wb2.heap.size + 1) (by simp) ?_; intro gb3 capb3 w3 hown1 hgrow hat hlt2; have HA3 := Lib.hid (HA2.out.addL HS.out (grownBy_drew (World.grownBy_alloc wb2 (.cells #[.int .i64 y0, .int .i64 y1, .string y2, .slice A3 y3 c3', .slice K3 y4 d3] 27) none)) hgrow (by rw [HVN.out]) hown1 HY.out); obtain ⟨k33, k34, k50, k51, k52, k53, k54, k73, k74, fk73, fk74⟩ := (HA2.out.cells.grown (grownBy_drew (World.grownBy_alloc wb2 (.cells #[.int .i64 y0, .int .i64 y1, .string y2, .slice A3 y3 c3', .slice K3 y4 d3] 27) none)) (by intro k hk; cases hk)).grown hgrow (fun k hk => (HL2.out.lt k hk).1); clear hown1 hgrow hat))
              all_goals (clear k33 k34 k50 k51 k52 k53 k54 k73 k74 fk73 fk74 hlt2; revert HA3; revert w3; revert capb3; revert gb3; exact key.out)
            clear a33 a34 a50 a51 a52 a53 a54 a73 a74 fa73 fa74 g33 g34 g50 g51 g52 g53 g54 g73 g74 fg73 fg74 q0 q1 q2 q3 q4 r0 r1 r2 r3 r4 hz2
            intro gb3 capb3 w3 HA3
            obtain ⟨wb4, hw4⟩ : ∃ z, z = w3.setCell ⟨W.heap.size + 1 + 1 + 1, 3, none⟩ (.slice (some ⟨gb3, 0, none⟩) (nv + 1) capb3) := ⟨_, rfl⟩
            have HA4 : Hid (PutInv W wb4 _ _ S (vs ++ [y]) (xs ++ [.int .i64 y0, .int .i64 y1, .string y2, .slice A3 y3 c3', .slice K3 y4 d3]) (.slice (some ⟨gb3, 0, none⟩) (nv + 1) capb3) (ks ++ [u]) (.slice (some ⟨gb, 0, none⟩) (nk + 1) capb)) := Lib.hid (by rw [hw4]; exact HA3.out)
            rw [← hw4]
            clear hw4 HA3
            go_wp2_with fail

            go_roundw
            case rel => exact ⟨j + 1, false, ks ++ [u], vs ++ [y], xs ++ [.int .i64 y0, .int .i64 y1, .string y2, .slice A3 y3 c3', .slice K3 y4 d3], _, _, rfl, by go_num, by omega, by (try simp); have := HKN.out; omega, by (try simp); have := HVN.out; omega, by (try simp); have := HLEN.out; omega, (fun _ => by simp; exact HDF.out trivial), ⟨by rw [← HPUT.out.1, HST2.out]; try simp, by rw [← HPUT.out.2, HST2.out]; try simp⟩, by
              intro v hv
              try simp only [List.mem_append, List.mem_singleton, List.mem_cons, List.not_mem_nil, or_false] at hv
              rcases hv with hv | rfl
              · exact HUS.out v hv
              · exact HUSZ.out, by rw [HC3.out, HC5.out]; exact HA4.out⟩
            case measure => simp [intOf]; omega
          · replace hless : Op.bytesLess u.toList t.toList = false := by simpa using hless
            have HST2 : Hid (putKL t x false (K.drop j) (L.drop j) = (t :: u :: (putKL t x true (K.drop (j + 1)) (L.drop (j + 1))).1, x :: y :: (putKL t x true (K.drop (j + 1)) (L.drop (j + 1))).2)) := Lib.hid (by
              rw [HST.out, if_neg hut, if_neg hut, hless]; simp)
            have hk0 : nk ≤ j := by have := HDF.out rfl; have := HKN.out; omega
            have hv0 : nv ≤ j := by have := HDF.out rfl; have := HVN.out; have := HLEN.out; omega
            clear hut HST
            go_wp2_with (first
              | (at_builtin; refine wpList_append_lies _ rfl (.tmp 30) (.tmp 32) 22 rfl (W.heap.size + 4) 9 iS (.string ⟨#[]⟩) 1 16 Tryz.underlying22 hSS hS0 hS1 hS2 rfl (by decide) vK nk _ rfl (HK.out.alloc _) ⟨wr.heap.size, 0, none⟩ 1 1 [.string t] rfl rfl ?va1 ?va2 (by decide) ?va3 ?va4 ?va5 _ rfl ?_))
            case va2 => first | rfl | (intro v hv; rw [List.mem_singleton.1 hv]; rfl)
            case va3 => unfold maxLen; omega
            case va4 => omega
            case va5 => first | omega | (simp; omega)
            intro gi capi w1 hown1 hgrow hat hlt1
            have HA := Lib.hid (HI3.out.addK HS.out (World.grownBy_alloc wr _ none) hgrow (by rw [HKN.out]) hown1)
            obtain ⟨k33, k34, k50, k51, k52, k53, k54, k73, k74, fk73, fk74⟩ := (HI3.out.cells.grown (World.grownBy_alloc wr _ none) (by intro k hk; cases hk)).grown hgrow (fun k hk => (HK.out.lt k hk).1)
            have HLI := Lib.hid (own_len HA.out.2.1.1 HVN.out)
            have hz1 := HA.out.2.2.2.2
            clear hown1 hgrow hat
            go_wp2_with (first
              | (at_builtin; refine wpList_append_lies _ rfl (.tmp 36) (.tmp 38) 23 rfl (W.heap.size + 4) 27 iJ (.agg #[.int .i64 0, .int .i64 0, .string ⟨#[]⟩, .slice none 0 0, .slice none 0 0]) 5 80 Tryz.underlying23 hJ hJ0 hJ1 hJ2 rfl (by decide) vL nv _ rfl (HLI.out.alloc _) ⟨w1.heap.size, 0, none⟩ 1 1 [.int .i64 x0, .int .i64 x1, .string x2, .slice A' x3 c', .slice K2 x4 d2] rfl rfl ?vb1 ?vb2 (by decide) ?vb3 ?vb4 ?vb5 _ rfl ?_))
            case vb1 => exact World.news_of_block (cs := #[.int .i64 x0, .int .i64 x1, .string x2, .slice A' x3 c', .slice K2 x4 d2]) (heap_at (by simp) [.int .i64 x0, .int .i64 x1, .string x2, .slice A' x3 c', .slice K2 x4 d2] 27)
            case vb2 => intro v hv; simp at hv; rcases hv with rfl | rfl | rfl | rfl | rfl <;> rfl
            case vb3 => unfold maxLen; omega
            case vb4 => omega
            case vb5 => simp; simp at hz1; omega
            intro gj capj w2 hown2 hgrow2 hat2 hlt2
            have HAI := Lib.hid (HA.out.addL HS.out (World.grownBy_alloc _ _ none) hgrow2 (by rw [HVN.out]) hown2 HX.out)
            obtain ⟨m33, m34, m50, m51, m52, m53, m54, m73, m74, fm73, fm74⟩ := (HA.out.cells.grown (World.grownBy_alloc _ _ none) (by intro k hk; cases hk)).grown hgrow2 (fun k hk => (HLI.out.lt k hk).1)
            clear hown2 hgrow2 hat2 k33 k34 k50 k51 k52 k53 k54 k73 k74 fk73 fk74 hz1 hlt1
            go_upto_region 9 with (fail)
            obtain ⟨wi, hwi⟩ : ∃ z, z = w2.setCell ⟨W.heap.size + 1 + 1 + 1, 3, none⟩ (.slice (some ⟨gj, 0, none⟩) (nv + 1) capj) := ⟨_, rfl⟩
            have HI5 : Hid (PutInv W wi [.int .i64 kd, .int .i64 n, .string s, .slice (some ⟨b2, o2, none⟩) q c, .slice (some ⟨b1, o1, none⟩) q d1] [.int .i64 x0, .int .i64 x1, .string x2, .slice A' x3 c', .slice K2 x4 d2] S (vs ++ [x]) (xs ++ [.int .i64 x0, .int .i64 x1, .string x2, .slice A' x3 c', .slice K2 x4 d2]) (.slice (some ⟨gj, 0, none⟩) (nv + 1) capj) (ks ++ [t]) (.slice (some ⟨gi, 0, none⟩) (nk + 1) capi)) := Lib.hid (by rw [hwi]; exact HAI.out)
            rw [← hwi]
            obtain ⟨i33, i34, i50, i51, i52, i53, i54, i73, i74, fi73, fi74⟩ := HI5.out.cells
            have hu2 := (HI5.out.2.2.2.1.cell (p := ⟨b1, o1 + j, none⟩) hb1).trans HU.out
            have HKI : Hid (wi.ownsRow (W.heap.size + 4) 9 1 (.slice (some ⟨gi, 0, none⟩) (nk + 1) capi) (nk + 1) ((ks ++ [t]).map Value.string)) := Lib.hid (own_len HI5.out.2.2.1 (by rw [List.length_append, HKN.out]; rfl))
            have HLJ : Hid (wi.ownsRow (W.heap.size + 4) 27 5 (.slice (some ⟨gj, 0, none⟩) (nv + 1) capj) (nv + 1) (xs ++ [.int .i64 x0, .int .i64 x1, .string x2, .slice A' x3 c', .slice K2 x4 d2])) := Lib.hid (own_len HI5.out.2.1.1 (by rw [List.length_append, HVN.out]; rfl))
            have hzi := HI5.out.2.2.2.2
            clear hwi m33 m34 m50 m51 m52 m53 m54 m73 m74 fm73 fm74 e33 e34 e50 e51 e52 e53 e54 e73 e74 f73 f74 hu' hlt2
            go_wp2_with fail
            obtain ⟨a33, a34, a50, a51, a52, a53, a54, a73, a74, fa73, fa74⟩ := HI5.out.cells.grown (grownBy_drew (World.grownBy_alloc wi (.cells #[.string u] 9) none)) (by intro k hk; cases hk)
            apply once
            · intro key
              go_region_law ((refine step_append_lies _ (by rfl) _ _ _ (by rfl) (W.heap.size + 4) 9 iS (.string ⟨#[]⟩) 1 16 Tryz.underlying22 hSS hS0 hS1 hS2 rfl (by omega) (.slice (some ⟨gi, 0, none⟩) (nk + 1) capi) (nk + 1) _ (by rfl) ((HKI.out.alloc _).drew) ⟨wi.heap.size, 0, none⟩ 1 1 [.string u] (by rfl) (by rfl) (World.news_of_block (cs := #[.string u]) (t := 9) (fr := (0, 0)) (heap_alloc_new wi _)) (by simp [Value.oneCell']) (by omega) (by unfold maxLen; omega) (by omega) (by simp; omega) (wi.heap.size + 1) (by simp) ?_; intro gc capc w1 hown1 hgrow hat hlt2; have HA1 := Lib.hid (HI5.out.addK HS.out (grownBy_drew (World.grownBy_alloc wi (.cells #[.string u] 9) none)) hgrow (by rw [List.length_append, HKN.out]; rfl) hown1); obtain ⟨k33, k34, k50, k51, k52, k53, k54, k73, k74, fk73, fk74⟩ := (HI5.out.cells.grown (grownBy_drew (World.grownBy_alloc wi (.cells #[.string u] 9) none)) (by intro k hk; cases hk)).grown hgrow (fun k hk => (HKI.out.lt k hk).1); clear hown1 hgrow hat))
              all_goals (clear k33 k34 k50 k51 k52 k53 k54 k73 k74 fk73 fk74 hlt2; revert HA1; revert w1; revert capc; revert gc; exact key.out)
            clear a33 a34 a50 a51 a52 a53 a54 a73 a74 fa73 fa74
            intro gc capc w1 HA1
            obtain ⟨wc2, hw2⟩ : ∃ z, z = w1.setCell ⟨W.heap.size + 1 + 1 + 1, 4, none⟩ (.slice (some ⟨gc, 0, none⟩) ((nk + 1) + 1) capc) := ⟨_, rfl⟩
            have HA2 : Hid (PutInv W wc2 _ _ S (vs ++ [x]) (xs ++ [.int .i64 x0, .int .i64 x1, .string x2, .slice A' x3 c', .slice K2 x4 d2]) (.slice (some ⟨gj, 0, none⟩) (nv + 1) capj) ((ks ++ [t]) ++ [u]) (.slice (some ⟨gc, 0, none⟩) ((nk + 1) + 1) capc)) := Lib.hid (by rw [hw2]; exact HA1.out)
            rw [← hw2]
            obtain ⟨g33, g34, g50, g51, g52, g53, g54, g73, g74, fg73, fg74⟩ := HA2.out.cells
            obtain ⟨t0, t1, t2, t3, t4, et, r0, r1, r2, r3, r4⟩ := HFIVE.out.keeps HS2.out hb2 (Keeps.below (S := S) HA2.out.2.2.2.1 (fun b h _ => HS.out b h))
            simp only [Value.agg.injEq, Array.mk.injEq, List.cons.injEq, and_true] at et
            obtain ⟨rfl, rfl, rfl, rfl, rfl⟩ := et
            clear hw2 HA1 i33 i34 i50 i51 i52 i53 i54 i73 i74 fi73 fi74 z0 z1 z2 z3 z4 hu2
            have HL2 : Hid (wc2.ownsRow (W.heap.size + 4) 27 5 (.slice (some ⟨gj, 0, none⟩) (nv + 1) capj) (nv + 1) (xs ++ [.int .i64 x0, .int .i64 x1, .string x2, .slice A' x3 c', .slice K2 x4 d2])) := Lib.hid (own_len HA2.out.2.1.1 (by rw [List.length_append, HVN.out]; rfl))
            have hz2 := HA2.out.2.2.2.2
            go_wp2_with fail
            obtain ⟨a33, a34, a50, a51, a52, a53, a54, a73, a74, fa73, fa74⟩ := HA2.out.cells.grown (grownBy_drew (World.grownBy_alloc wc2 (.cells #[.int .i64 y0, .int .i64 y1, .string y2, .slice A3 y3 c3', .slice K3 y4 d3] 27) none)) (by intro k hk; cases hk)
            obtain ⟨q0, q1, q2, q3, q4⟩ : (wc2.alloc (.cells #[.int .i64 y0, .int .i64 y1, .string y2, .slice A3 y3 c3', .slice K3 y4 d3] 27)).drew.cell? ⟨b2, o2 + j * 5, none⟩ = some (.int .i64 y0) ∧ (wc2.alloc (.cells #[.int .i64 y0, .int .i64 y1, .string y2, .slice A3 y3 c3', .slice K3 y4 d3] 27)).drew.cell? ⟨b2, o2 + j * 5 + 1, none⟩ = some (.int .i64 y1) ∧ (wc2.alloc (.cells #[.int .i64 y0, .int .i64 y1, .string y2, .slice A3 y3 c3', .slice K3 y4 d3] 27)).drew.cell? ⟨b2, o2 + j * 5 + 2, none⟩ = some (.string y2) ∧ (wc2.alloc (.cells #[.int .i64 y0, .int .i64 y1, .string y2, .slice A3 y3 c3', .slice K3 y4 d3] 27)).drew.cell? ⟨b2, o2 + j * 5 + 3, none⟩ = some (.slice A3 y3 c3') ∧ (wc2.alloc (.cells #[.int .i64 y0, .int .i64 y1, .string y2, .slice A3 y3 c3', .slice K3 y4 d3] 27)).drew.cell? ⟨b2, o2 + j * 5 + 4, none⟩ = some (.slice K3 y4 d3) :=
              ⟨(grownBy_drew (World.grownBy_alloc wc2 (.cells #[.int .i64 y0, .int .i64 y1, .string y2, .slice A3 y3 c3', .slice K3 y4 d3] 27) none)).cell r0 (by simp), (grownBy_drew (World.grownBy_alloc wc2 (.cells #[.int .i64 y0, .int .i64 y1, .string y2, .slice A3 y3 c3', .slice K3 y4 d3] 27) none)).cell r1 (by simp), (grownBy_drew (World.grownBy_alloc wc2 (.cells #[.int .i64 y0, .int .i64 y1, .string y2, .slice A3 y3 c3', .slice K3 y4 d3] 27) none)).cell r2 (by simp), (grownBy_drew (World.grownBy_alloc wc2 (.cells #[.int .i64 y0, .int .i64 y1, .string y2, .slice A3 y3 c3', .slice K3 y4 d3] 27) none)).cell r3 (by simp), (grownBy_drew (World.grownBy_alloc wc2 (.cells #[.int .i64 y0, .int .i64 y1, .string y2, .slice A3 y3 c3', .slice K3 y4 d3] 27) none)).cell r4 (by simp)⟩
            apply once
            · intro key
              go_region_law ((refine step_append_lies _ (by rfl) _ _ _ (by rfl) (W.heap.size + 4) 27 iJ (.agg #[.int .i64 0, .int .i64 0, .string ⟨#[]⟩, .slice none 0 0, .slice none 0 0]) 5 80 Tryz.underlying23 hJ hJ0 hJ1 hJ2 rfl (by omega) (.slice (some ⟨gj, 0, none⟩) (nv + 1) capj) (nv + 1) _ (by rfl) ((HL2.out.alloc _).drew) ⟨wc2.heap.size, 0, none⟩ 1 1 [.int .i64 y0, .int .i64 y1, .string y2, .slice A3 y3 c3', .slice K3 y4 d3] (by rfl) (by rfl) (World.news_of_block (cs := #[.int .i64 y0, .int .i64 y1, .string y2, .slice A3 y3 c3', .slice K3 y4 d3]) (t := 27) (fr := (0, 0)) (heap_alloc_new wc2 _)) (by simp [Value.oneCell']) (by omega) (by unfold maxLen; omega) (by omega) (by simp; omega) (wc2.heap.size + 1) (by simp) ?_; intro gc3 capc3 w3 hown1 hgrow hat hlt2; have HA3 := Lib.hid (HA2.out.addL HS.out (grownBy_drew (World.grownBy_alloc wc2 (.cells #[.int .i64 y0, .int .i64 y1, .string y2, .slice A3 y3 c3', .slice K3 y4 d3] 27) none)) hgrow (by rw [List.length_append, HVN.out]; rfl) hown1 HY.out); obtain ⟨k33, k34, k50, k51, k52, k53, k54, k73, k74, fk73, fk74⟩ := (HA2.out.cells.grown (grownBy_drew (World.grownBy_alloc wc2 (.cells #[.int .i64 y0, .int .i64 y1, .string y2, .slice A3 y3 c3', .slice K3 y4 d3] 27) none)) (by intro k hk; cases hk)).grown hgrow (fun k hk => (HL2.out.lt k hk).1); clear hown1 hgrow hat))
              all_goals (clear k33 k34 k50 k51 k52 k53 k54 k73 k74 fk73 fk74 hlt2; revert HA3; revert w3; revert capc3; revert gc3; exact key.out)
            clear a33 a34 a50 a51 a52 a53 a54 a73 a74 fa73 fa74 g33 g34 g50 g51 g52 g53 g54 g73 g74 fg73 fg74 q0 q1 q2 q3 q4 r0 r1 r2 r3 r4 hz2
            intro gc3 capc3 w3 HA3
            obtain ⟨wc4, hw4⟩ : ∃ z, z = w3.setCell ⟨W.heap.size + 1 + 1 + 1, 3, none⟩ (.slice (some ⟨gc3, 0, none⟩) ((nv + 1) + 1) capc3) := ⟨_, rfl⟩
            have HA4 : Hid (PutInv W wc4 _ _ S ((vs ++ [x]) ++ [y]) ((xs ++ [.int .i64 x0, .int .i64 x1, .string x2, .slice A' x3 c', .slice K2 x4 d2]) ++ [.int .i64 y0, .int .i64 y1, .string y2, .slice A3 y3 c3', .slice K3 y4 d3]) (.slice (some ⟨gc3, 0, none⟩) ((nv + 1) + 1) capc3) ((ks ++ [t]) ++ [u]) (.slice (some ⟨gc, 0, none⟩) ((nk + 1) + 1) capc)) := Lib.hid (by rw [hw4]; exact HA3.out)
            rw [← hw4]
            clear hw4 HA3
            go_wp2_with fail

            go_roundw
            case rel => exact ⟨j + 1, true, ks ++ [t] ++ [u], vs ++ [x] ++ [y], xs ++ [.int .i64 x0, .int .i64 x1, .string x2, .slice A' x3 c', .slice K2 x4 d2] ++ [.int .i64 y0, .int .i64 y1, .string y2, .slice A3 y3 c3', .slice K3 y4 d3], _, _, rfl, by go_num, by omega, by (try simp); have := HKN.out; omega, by (try simp); have := HVN.out; omega, by (try simp); have := HLEN.out; omega, (fun h => by cases h), ⟨by rw [← HPUT.out.1, HST2.out]; try simp, by rw [← HPUT.out.2, HST2.out]; try simp⟩, by
              intro v hv
              try simp only [List.mem_append, List.mem_singleton, List.mem_cons, List.not_mem_nil, or_false] at hv
              rcases hv with (hv | rfl) | rfl
              · exact HUS.out v hv
              · exact HTS.out
              · exact HUSZ.out, by rw [HC3.out, HC5.out]; exact HA4.out⟩
            case measure => simp [intOf]; omega
    · obtain rfl : j = q := by omega
      have hge : ¬ (j : Int) < (j : Int) := by omega
      have HE1 : Hid (K.drop j = []) := Lib.hid (List.drop_eq_nil_of_le (by rw [HQ.out]; exact Nat.le_refl _))
      cases d with
      | true =>
        have HR : Hid ((putKL t x false K L).1 = ks ∧ (putKL t x false K L).2 = vs) := Lib.hid (by
          have h := HPUT.out
          rw [HE1.out, putKL] at h
          exact ⟨by rw [← h.1]; simp, by rw [← h.2]; simp⟩)
        go_wp2_with (first
          | (refine wpList_load_blk rfl (some 82) rfl _ (.tmp 7) rfl (W.heap.size + 3) 0 rfl _ _ H7.out [.int .i64 5, .int .i64 0, .string ⟨#[]⟩, vL, vK] (by simp) _ Tryz.underlying27 rfl sizeJson ?_; try go_frame)
          | (refine wpList_store_blk rfl none rfl _ (.tmp 6) (.tmp 82) rfl (W.heap.size + 2) 0 [.int .i64 5, .int .i64 0, .string ⟨#[]⟩, vL, vK] rfl rfl _ _ H6.out (by simp [zeros5]) sizeJson (by intro v hv; simp at hv; rcases hv with rfl | rfl | rfl | rfl | rfl <;> first | rfl | exact own_one HL.out | exact own_one HK.out) ?_; intro w5 hb5 hgr; rw [splice_all _ _ (by simp [zeros5])] at hb5; have HB5 := Lib.hid (HB.out.grown hgr HB.out.size (by intro k hk; injection hk with hk; omega)); have HG5 := Lib.hid hgr; clear hgr; try go_frame))
        refine bodyPost_ret (v := .agg #[.int .i64 5, .int .i64 0, .string ⟨#[]⟩, vL, vK]) (results_blk Tryz.results11 _ _ (W.heap.size + 2) _ [.int .i64 5, .int .i64 0, .string ⟨#[]⟩, vL, vK] _ rfl hb5 Tryz.underlying27 rfl sizeJson) rfl ?_
        refine ⟨_, rfl, ?_, HB5.out⟩
        rw [HR.out.1, HR.out.2]
        exact HI3.out.tells HS.out HG5.out (by have := HVN.out; omega) (by have := HKN.out; omega) HUS.out
      | false =>
        have HR : Hid ((putKL t x false K L).1 = ks ++ [t] ∧ (putKL t x false K L).2 = vs ++ [x]) := Lib.hid (by
          have h := HPUT.out
          rw [HE1.out, putKL] at h
          exact ⟨by rw [← h.1], by rw [← h.2]⟩)
        go_wp2_with (first
          | (at_builtin; refine wpList_append_lies _ rfl (.tmp 71) (.tmp 73) 22 rfl (W.heap.size + 4) 9 iS (.string ⟨#[]⟩) 1 16 Tryz.underlying22 hSS hS0 hS1 hS2 rfl (by decide) vK nk _ rfl (HK.out.alloc _) ⟨wr.heap.size, 0, none⟩ 1 1 [.string t] rfl rfl ?a1 ?a2 (by decide) ?a3 ?a4 ?a5 _ rfl ?_))
        case a2 => first | rfl | (intro v hv; rw [List.mem_singleton.1 hv]; rfl)
        case a3 => unfold maxLen; omega
        case a4 => omega
        case a5 => first | omega | (simp; omega)
        intro g cap w1 hown1 hgrow hat hlt1
        have HA := Lib.hid (HI3.out.addK HS.out (World.grownBy_alloc wr _ none) hgrow (by rw [HKN.out]) hown1)
        obtain ⟨k33, k34, k50, k51, k52, k53, k54, k73, k74, fk73, fk74⟩ := (HI3.out.cells.grown (World.grownBy_alloc wr _ none) (by intro k hk; cases hk)).grown hgrow (fun k hk => (HK.out.lt k hk).1)
        have HL2 := Lib.hid (own_len HA.out.2.1.1 HVN.out)
        have hz1 := HA.out.2.2.2.2
        clear hown1 hgrow hat
        go_wp2_with (first
          | (at_builtin; (refine wpList_append_lies _ rfl (.tmp 77) (.tmp 79) 23 rfl (W.heap.size + 4) 27 iJ (.agg #[.int .i64 0, .int .i64 0, .string ⟨#[]⟩, .slice none 0 0, .slice none 0 0]) 5 80 Tryz.underlying23 hJ hJ0 hJ1 hJ2 rfl (by decide) vL nv _ rfl (HL2.out.alloc _) ⟨w1.heap.size, 0, none⟩ 1 1 [.int .i64 x0, .int .i64 x1, .string x2, .slice A' x3 c', .slice K2 x4 d2] rfl rfl ?b1 ?b2 (by decide) ?b3 ?b4 ?b5 _ rfl ?_)))
        case b1 => exact World.news_of_block (cs := #[.int .i64 x0, .int .i64 x1, .string x2, .slice A' x3 c', .slice K2 x4 d2]) (heap_at (by simp) [.int .i64 x0, .int .i64 x1, .string x2, .slice A' x3 c', .slice K2 x4 d2] 27)
        case b2 => intro v hv; simp at hv; rcases hv with rfl | rfl | rfl | rfl | rfl <;> rfl
        case b3 => unfold maxLen; omega
        case b4 => omega
        case b5 => simp; simp at hz1; omega
        intro g2 cap2 w2 hown2 hgrow2 hat2 hlt2
        have HA2 := Lib.hid (HA.out.addL HS.out (World.grownBy_alloc _ _ none) hgrow2 (by rw [HVN.out]) hown2 HX.out)
        obtain ⟨m33, m34, m50, m51, m52, m53, m54, m73, m74, fm73, fm74⟩ := (HA.out.cells.grown (World.grownBy_alloc _ _ none) (by intro k hk; cases hk)).grown hgrow2 (fun k hk => (HL2.out.lt k hk).1)
        clear hown2 hgrow2 hat2 k33 k34 k50 k51 k52 k53 k54 k73 k74 fk73 fk74
        go_wp2_with (first
          | (refine wpList_load_blk rfl (some 82) rfl _ (.tmp 7) rfl (W.heap.size + 3) 0 rfl _ _ HA2.out.1.2.2.2 [.int .i64 5, .int .i64 0, .string ⟨#[]⟩, .slice (some ⟨g2, 0, none⟩) (nv + 1) cap2, .slice (some ⟨g, 0, none⟩) (nk + 1) cap] (by simp) _ Tryz.underlying27 rfl sizeJson ?_; try go_frame)
          | (refine wpList_store_blk rfl none rfl _ (.tmp 6) (.tmp 82) rfl (W.heap.size + 2) 0 [.int .i64 5, .int .i64 0, .string ⟨#[]⟩, .slice (some ⟨g2, 0, none⟩) (nv + 1) cap2, .slice (some ⟨g, 0, none⟩) (nk + 1) cap] rfl rfl _ _ HA2.out.1.2.2.1 (by simp [zeros5]) sizeJson (by intro v hv; simp at hv; rcases hv with rfl | rfl | rfl | rfl | rfl <;> rfl) ?_; intro w5 hb5 hgr; rw [splice_all _ _ (by simp [zeros5])] at hb5; have HB5 := Lib.hid (HA2.out.2.2.2.1.grown hgr HA2.out.2.2.2.1.size (by intro k hk; injection hk with hk; omega)); have HG5 := Lib.hid hgr; clear hgr; try go_frame))
        refine bodyPost_ret (v := .agg #[.int .i64 5, .int .i64 0, .string ⟨#[]⟩, .slice (some ⟨g2, 0, none⟩) (nv + 1) cap2, .slice (some ⟨g, 0, none⟩) (nk + 1) cap]) (results_blk Tryz.results11 _ _ (W.heap.size + 2) _ [.int .i64 5, .int .i64 0, .string ⟨#[]⟩, .slice (some ⟨g2, 0, none⟩) (nv + 1) cap2, .slice (some ⟨g, 0, none⟩) (nk + 1) cap] _ rfl hb5 Tryz.underlying27 rfl sizeJson) rfl ?_
        refine ⟨_, rfl, ?_, HB5.out⟩
        rw [HR.out.1, HR.out.2]
        exact HA2.out.tells HS.out HG5.out (by have := HVN.out; rw [List.length_append]; simp; omega) (by have := HKN.out; rw [List.length_append]; simp; omega) (by
          intro u hu
          rcases List.mem_append.1 hu with hu | hu
          · exact HUS.out u hu
          · rw [List.mem_singleton.1 hu]; exact HTS.out)
end Go.Proofs.YtjfgmgkhinehaaaGreatDoor
namespace Go.Proofs.YtjfgmgkhinehaaaGreatDoor
open Go Go.RowKit
theorem zeroJs : (Tryz.prog.info? 27).map (·.zero) = some (some (.agg zeros5.toArray)) := by kernel_rfl
theorem mid_below {wr w1 w2 w3 : World} {g : Nat} (h1 : Below wr.heap.size wr w1) (h2 : w1.grownBy w2 none) (hg : w1.heap.size ≤ g) (h3 : w2.grownBy w3 (some g)) : Below wr.heap.size wr w3 :=
  (h1.grown h2 h1.size (by simp)).grown h3 (Nat.le_trans h1.size h2.size) (by intro k hk; injection hk with hk; have := h1.size; omega)
end Go.Proofs.YtjfgmgkhinehaaaGreatDoor
namespace Go.Proofs.YtjfgmgkhinehaaaGreatDoor
open Go Go.RowKit
theorem putKL_len (t : ByteArray) (x : J) : ∀ (ks : List ByteArray) (d : Bool) (vs : List J), (putKL t x d ks vs).1.length = (putKL t x d ks vs).2.length ∧ (putKL t x d ks vs).1.length ≤ ks.length + (if d = true then 0 else 1)
  | [], false, _ => by rw [putKL]; simp
  | [], true, _ => by rw [putKL]; simp
  | k :: ks, d, vs => by
    have ih := putKL_len t x ks (d || !Op.bytesLess k.toList t.toList) vs.tail
    cases d with
    | false =>
      rw [putKL]
      cases hb : Op.bytesLess k.toList t.toList with
      | false =>
        rw [hb] at ih
        simp only [Bool.not_false, Bool.or_true, if_true, Nat.add_zero, Bool.or_eq_true] at ih
        by_cases e : k = t
        · simp [e]; (try simp at ih); omega
        · simp [e]; (try simp at ih); omega
      | true =>
        rw [hb] at ih
        by_cases e : k = t
        · simp [e]; (try simp at ih); omega
        · simp [e]; (try simp at ih); omega
    | true =>
      rw [putKL]
      by_cases e : k = t
      · simp [e]; (try simp at ih); omega
      · simp [e]; (try simp at ih); omega
end Go.Proofs.YtjfgmgkhinehaaaGreatDoor
namespace Go.Proofs.YtjfgmgkhinehaaaGreatDoor
open Go Go.RowKit
theorem RepJ.form {W : World} {j : J} {v : Value} (h : RepJ W j v) : ∃ x0 x1 x2 A p c K q d, v = .agg #[.int .i64 x0, .int .i64 x1, .string x2, .slice A p c, .slice K q d] := by
  obtain ⟨vk, A, c, rfl, _, hk, _, _⟩ := h.open
  obtain ⟨K, d, rfl, _, _⟩ := hk.open
  exact ⟨_, _, _, _, _, _, _, _, _, rfl⟩
end Go.Proofs.YtjfgmgkhinehaaaGreatDoor
