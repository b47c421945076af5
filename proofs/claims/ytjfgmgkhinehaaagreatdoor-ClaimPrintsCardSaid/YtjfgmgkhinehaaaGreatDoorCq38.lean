
import Derived.Shelf.Strings.Builder1
import Derived.Shelf.Small.Bits
import Derived.Shelf.Small.Strs
import Derived.Shelf.Small.Wraps
import Derived.Shelf.Strings.BuilderF
import Derived.Shelf.Strings.BuilderK
import Derived.Shelf.Strconv.Itoa0
import Derived.Shelf.LaysM
import Derived.Shelf.Strconv.Clone
import Derived.Shelf.Strings.Search1
import Derived.Shelf.Strings.Search2
import Derived.Shelf.Strings.Cut
import Derived.Shelf.Strings.Shaped
import Derived.Shelf.Sort.Plain
import Derived.Shelf.Strings.Prefix
import Derived.Shelf.Slices.Turned
import Derived.Shelf.Slices.Equal
import Derived.Ground.Names2Prog
import Derived.Shelf.Slices.Clone
import Derived.Shelf.Slices.CompactS
import Derived.Shelf.Slices.Cells
import Derived.Shelf.Slices.In.SortNone
import Derived.Shelf.Slices.Empties2
import Derived.Ground.SlgnProg
import Derived.Shelf.SlicesE.Clone
import Derived.Test.YtjfgmgkhinehaaaGreatDoorCq04
set_option maxRecDepth 100000
set_option maxHeartbeats 16000000
set_option linter.all false
namespace Go.Proofs.YtjfgmgkhinehaaaGreatDoor
open Go Go.RowKit
theorem zeX {w w':World} {p:Addr} {v:Value} (h:w.cell? p=some v) (hg:w.grownBy w' none):w'.cell? p=some v:=(World.cell?_of_block (hg.block p.block (zab h) (by simp))).trans h
theorem RepJ.cells {W:World} {j:J} {v:Value} {b o:Nat} (h:RepJ W j v) (hf:Five W b o v): ∃A x3 c K x4 d,v= .agg #[.int .i64 j.kind,.int .i64 j.n,.string j.s,.slice A x3 c,.slice K x4 d]∧W.cell? ⟨b,o,none⟩=some (.int .i64 j.kind)∧W.cell? ⟨b,o+1,none⟩=some (.int .i64 j.n)∧W.cell? ⟨b,o+2,none⟩=some (.string j.s)∧W.cell? ⟨b,o+3,none⟩=some (.slice A x3 c)∧W.cell? ⟨b,o+4,none⟩=some (.slice K x4 d):=by
 obtain⟨vk,A,c,rfl,_,hk,_,_⟩:=h.open
 obtain⟨K,d,rfl,_,_⟩:=hk.open
 obtain⟨a0,a1,a2,a3,a4,e,h0,h1,h2,h3,h4⟩:=hf
 simp only[Value.agg.injEq,Array.mk.injEq,List.cons.injEq,and_true]at e
 obtain⟨rfl,rfl,rfl,rfl,rfl⟩:=e
 exact⟨A,_,c,K,_,d,rfl,h0,h1,h2,h3,h4⟩
end Go.Proofs.YtjfgmgkhinehaaaGreatDoor
