/- The walks of the laws' Num and Pos: an error's number and place. -/
import Derived.Test.YtcjnhgcopdofhaaDoorErrAs2
namespace Go.Proofs.YtcjnhgcopdofhaaDoor
open Go Go.RowKit Go.Extern.Stop Go.Stop Go.Extern

abbrev ErrTab (w : World) : Prop := w.cell? ⟨0, 0, none⟩ = some (.iface 98 (.agg #[.pointer (some ⟨5, 25, none⟩)]))
theorem ErrTab.below {w w' : World} (h : ErrTab w) (hb : Below w.heap.size w w') : ErrTab w' := (hb.cell (p := ⟨0, 0, none⟩) (lt_of_cell h)).trans h

theorem num_nil (w : World) : Calls Tryd.prog 10 #[.nilIface] w fun e w' => e = .returned (.int .i64 0) ∧ w = w' := by
  go_enter Tryd.func10, Tryd.ntmps10
  go_wp2
  go_ret
  exact ⟨rfl, rfl⟩
theorem pos_nil (w : World) : Calls Tryd.prog 11 #[.nilIface] w fun e w' => e = .returned (.int .i64 (-1)) ∧ Below w.heap.size w w' := by
  go_enter Tryd.func11, Tryd.ntmps11
  go_wp2
  go_ret
  exact ⟨rfl, belowAlloc _ _⟩
theorem num_of (d : TypeId) (v : Value) (n : Int) (w : World) (hg : ErrTab w)
    (has : ∀ t a tg old W, W.cell? a = some (.pointer (some t)) → W.cell? t = some old → W.frozen? t = false → Below w.heap.size w W → Calls Tryd.prog 43 #[.iface d v, tg, .agg #[.pointer (some ⟨5, 54, none⟩), .pointer (some a), .int .u64 150], .iface 98 (.agg #[.pointer (some ⟨5, 46, none⟩)])] W (Hit t (.int .i64 n) W)) :
    Calls Tryd.prog 10 #[.iface d v] w fun e w' => e = .returned (.int .i64 n) ∧ Below w.heap.size w w' := by
  have hal := asN_of d v ⟨w.heap.size, 0, none⟩ (.int .i64 0) (w.alloc (.cells #[.int .i64 0] 46)) true (fun W w' => w'.cell? ⟨w.heap.size, 0, none⟩ = some (.int .i64 n) ∧ Below w.heap.size W w') (hg.below (belowAlloc _ _)) (by simp) (by simp) (fun W a h1 h2 h3 h4 => (has _ a _ _ W h1 h2 h3 ((belowAlloc _ _).trans (h4.mono (by simp)))).mono fun e w' h => ⟨h.1, h.2⟩)
  have HA := Lib.hid hal
  clear hal has
  go_enter Tryd.func10, Tryd.ntmps10
  go_wp2_with (go_at_call 26; refine HA.out.mono ?_; rintro ev w' ⟨rfl, W, hW, hcell, hb⟩; have HB := Lib.hid ((belowAlloc w _).trans ((hW.mono (by simp)).trans hb)); clear hW hb)
  go_ret
  exact ⟨rfl, HB.out⟩
theorem num_errno (n : Int) (w : World) (hg : ErrTab w) : Calls Tryd.prog 10 #[.iface 46 (.int .i64 n)] w fun e w' => e = .returned (.int .i64 n) ∧ Below w.heap.size w w' :=
  num_of _ _ n w hg fun t a tg old W h1 h2 h3 _ => asHitN n t a tg old W h1 h2 h3
theorem num_at (n : Int) (b o : Nat) (w : World) (hg : ErrTab w) (he : w.cell? ⟨b, o + 1, none⟩ = some (.iface 46 (.int .i64 n))) : Calls Tryd.prog 10 #[.iface 55 (.pointer (some ⟨b, o, none⟩))] w fun e w' => e = .returned (.int .i64 n) ∧ Below w.heap.size w w' :=
  num_of _ _ n w hg fun t a tg old W h1 h2 h3 h4 => asAtN n t a tg old W b o ((h4.cell (p := ⟨b, o + 1, none⟩) (lt_of_cell he)).trans he) h1 h2 h3
set_option maxRecDepth 100000 in
theorem pos_errno (n : Int) (w : World) (hg : ErrTab w) : Calls Tryd.prog 11 #[.iface 46 (.int .i64 n)] w fun e w' => e = .returned (.int .i64 (-1)) ∧ Below w.heap.size w w' := by
  have hal := asA_of 46 (.int .i64 n) ⟨w.heap.size, 0, none⟩ (.pointer none) (w.alloc (.cells #[.pointer none] 55)) false (fun W w' => Below W.heap.size W w') (hg.below (belowAlloc _ _)) (by simp) (by simp) (fun W a h1 h2 h3 h4 => asMissA n ⟨w.heap.size, 0, none⟩ a _ W)
  have HA := Lib.hid hal
  clear hal
  go_enter Tryd.func11, Tryd.ntmps11
  go_wp2_with (go_at_call 26; refine HA.out.mono ?_; rintro ev w' ⟨rfl, W, hW, hb⟩; have HB := Lib.hid ((belowAlloc w (.cells #[.pointer none] 55)).trans ((hW.trans (hb.mono hW.size)).mono (by simp))); clear hW hb)
  go_ret
  exact ⟨rfl, HB.out⟩
set_option maxRecDepth 100000 in
theorem pos_at (pos : Int) (b o : Nat) (w : World) (hg : ErrTab w) (he : w.cell? ⟨b, o, none⟩ = some (.int .i64 pos)) : Calls Tryd.prog 11 #[.iface 55 (.pointer (some ⟨b, o, none⟩))] w fun e w' => e = .returned (.int .i64 pos) ∧ Below w.heap.size w w' := by
  have hlt := lt_of_cell he
  have hal := asA_of 55 (.pointer (some ⟨b, o, none⟩)) ⟨w.heap.size, 0, none⟩ (.pointer none) (w.alloc (.cells #[.pointer none] 55)) true (fun W w' => w'.cell? ⟨w.heap.size, 0, none⟩ = some (.pointer (some ⟨b, o, none⟩)) ∧ Below w.heap.size W w') (hg.below (belowAlloc _ _)) (by simp) (by simp) (fun W a h1 h2 h3 h4 => (asHitA ⟨b, o, none⟩ ⟨w.heap.size, 0, none⟩ a _ _ W h1 h2 h3).mono fun e w' h => ⟨h.1, h.2⟩)
  have HA := Lib.hid hal
  have HE := Lib.hid he
  clear hal he
  go_enter Tryd.func11, Tryd.ntmps11
  go_wp2_with (go_at_call 26; refine HA.out.mono ?_; rintro ev w' ⟨rfl, W, hW, hcell, hb⟩; have hbb := (belowAlloc w (.cells #[.pointer none] 55)).trans ((hW.mono (by simp)).trans hb); have hpc := (hbb.cell (p := ⟨b, o, none⟩) hlt).trans HE.out; have HB := Lib.hid hbb; clear hW hb hbb)
  go_ret
  exact ⟨rfl, HB.out⟩
end Go.Proofs.YtcjnhgcopdofhaaDoor
