/- The laws of urlenc: what they ask; their first part, the chapter's examples. -/
import Derived.Test.YtcjnhgcopdofhaaDoorUrRefPrint
import Derived.Test.YtcjnhgcopdofhaaDoorUrParse2
import Derived.Test.YtcjnhgcopdofhaaDoorErrNum
namespace Go.Proofs.YtcjnhgcopdofhaaDoor
open Go Go.RowKit

/-- The program's Parse. -/
theorem parse_all (s : ByteArray) (w : World) (hm : Marks w) (hM : MaxL w) : Calls Tryd.prog 8 #[.string s] w (ParseTells (parsedP s) w) := by
  by_cases h : 4096 < s.size
  · exact parse_long s w h
  · exact parse_short s w hm hM h
theorem refParse_all (s : ByteArray) (w : World) : Calls Tryd.prog 9 #[.string s] w (RefParseTells (parsedP s) w) := by
  by_cases h : 4096 < s.size
  · exact refParse_long s w h
  · exact refParse_short s w h
theorem print_all (A : Option Addr) (ps : PList) (n c : Nat) (w : World) (hm : Marks w) (hn : ps.length = n) (hnc : n ≤ c) (hl : LiesP w A ps) (hsm : smallP ps) :
    Calls Tryd.prog 14 #[.slice A n c] w (PrintTells (printedP ps) w) := by
  by_cases h : 32 < n
  · exact print_many A ps n c w hn h
  · exact print_few A ps n c w hm hn hnc hl hsm (by omega)
theorem refPrint_all (A : Option Addr) (ps : PList) (n c : Nat) (w : World) (hn : ps.length = n) (hnc : n ≤ c) (hl : LiesP w A ps) (hsm : smallP ps) :
    Calls Tryd.prog 15 #[.slice A n c] w (RefPrintTells (printedP ps) w) := by
  by_cases h : 32 < n
  · exact refPrint_many A ps n c w hn h
  · exact refPrint_few A ps n c w hn hnc hl hsm (by omega)
/-- Num and Pos of what an error tells. -/
theorem num_tells {n pos : Int} {w : World} {v : Value} {W0 W : World} (h : ErrTells n pos w v W0) (hb : Below W0.heap.size W0 W) (hg : ErrTab W) :
    Calls Tryd.prog 10 #[v] W fun e w' => e = .returned (.int .i64 n) ∧ Below W.heap.size W w' := by
  rcases h with ⟨rfl, rfl, rfl⟩ | ⟨_, rfl, rfl⟩ | ⟨_, _, b, rfl, h0, h1, _⟩
  · refine (num_nil W).mono ?_
    rintro e w' ⟨rfl, rfl⟩
    exact ⟨rfl, Below.refl _ _⟩
  · exact num_errno n W hg
  · exact num_at n b 0 W hg ((hb.cell (p := ⟨b, 0 + 1, none⟩) (lt_of_cell h1)).trans h1)
theorem pos_tells {n pos : Int} {w : World} {v : Value} {W0 W : World} (h : ErrTells n pos w v W0) (hb : Below W0.heap.size W0 W) (hg : ErrTab W) :
    Calls Tryd.prog 11 #[v] W fun e w' => e = .returned (.int .i64 pos) ∧ Below W.heap.size W w' := by
  rcases h with ⟨rfl, rfl, rfl⟩ | ⟨_, rfl, rfl⟩ | ⟨_, _, b, rfl, h0, h1, _⟩
  · exact pos_nil W
  · exact pos_errno n W hg
  · exact pos_at pos b 0 W hg ((hb.cell (p := ⟨b, 0, none⟩) (lt_of_cell h0)).trans h0)
/-- What the laws ask of the world. -/
structure Ask6 (w : World) : Prop where
  tab : ErrTab w
  marks : Marks w
  maxl : MaxL w
theorem Ask6.below {w w' : World} (h : Ask6 w) (hb : Below w.heap.size w w') : Ask6 w' := ⟨h.tab.below hb, h.marks.below hb, h.maxl.below hb⟩
end Go.Proofs.YtcjnhgcopdofhaaDoor
