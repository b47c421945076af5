
import Derived.Tactics2
import Derived.Defers
import Derived.Recover
import Derived.Test.YtceddodfddlncaaGreatDoorJv14
set_option maxRecDepth 100000
set_option maxHeartbeats 16000000
set_option linter.all false
namespace Go.Proofs.YtceddodfddlncaaGreatDoor
open Go Go.RowKit Tryz
def kZ:=@results_none
def yF (w w':World) (b2 b3:Nat) (p er:Int):Prop:=
 Blk w' b2 63 zeros5∧Blk w' b3 26 [.iface 188 (.pointer (some ⟨w.heap.size+1,0,none⟩))]∧w'.cell? ⟨w.heap.size+1,0,none⟩=some (.int .i64 p)∧w'.cell? ⟨w.heap.size+1,1,none⟩=some (.iface 54 (.int .i64 er))∧
 w'.os=w.os∧w'.tape=w.tape∧w'.output=w.output∧w.heap.size≤w'.heap.size∧ ∀k,k<w.heap.size→k≠b2→k≠b3→w'.heap[k]? =w.heap[k]?
theorem ym {w:World} {q B:Nat} {p er:Int} {W V U R Q:Value} (I:Blk w q 63 [W,V,U,R,Q]) (h3:Blk w B 26 [.nilIface]) (N:q≠B):
  yF w ((((((((((w.setCell ⟨q,0,none⟩ (.int .i64 0)).setCell ⟨q,1,none⟩ (.int .i64 0)).setCell ⟨q,2,none⟩ (.string ⟨#[]⟩)).setCell ⟨q,3,none⟩ (.slice none 0 0)).setCell ⟨q,4,none⟩ (.slice none 0 0)).setCell ⟨B,0,none⟩ (.iface 188 (.pointer (some ⟨w.heap.size+1,0,none⟩)))).alloc (.cells #[.int .i64 p,.iface 54 (.int .i64 er)] 187)).alloc (.cells #[.int .i64 p,.iface 54 (.int .i64 er)] 190)).drew)) q B p er:=by
 have s5:=BP I (.int .i64 0) (.int .i64 0) (.string ⟨#[]⟩) (.slice none 0 0) (.slice none 0 0)
 have hz:(((((w.setCell ⟨q,0,none⟩ (.int .i64 0)).setCell ⟨q,1,none⟩ (.int .i64 0)).setCell ⟨q,2,none⟩ (.string ⟨#[]⟩)).setCell ⟨q,3,none⟩ (.slice none 0 0)).setCell ⟨q,4,none⟩ (.slice none 0 0)).heap.size=w.heap.size:=by simp
 generalize ((((w.setCell ⟨q,0,none⟩ (.int .i64 0)).setCell ⟨q,1,none⟩ (.int .i64 0)).setCell ⟨q,2,none⟩ (.string ⟨#[]⟩)).setCell ⟨q,3,none⟩ (.slice none 0 0)).setCell ⟨q,4,none⟩ (.slice none 0 0)=E at s5 hz⊢
 obtain⟨Y,F⟩:=s5
 have X:Blk E B 26 [.nilIface]:=h3.grown F (by intro e;injection e with e;exact N e.symm)
 have L:=X.setCell 0 (.iface 188 (.pointer (some ⟨w.heap.size+1,0,none⟩)))
 have g3:=ou E B 0 (.iface 188 (.pointer (some ⟨w.heap.size+1,0,none⟩)))
 have M:Blk (E.setCell ⟨B,0,none⟩ (.iface 188 (.pointer (some ⟨w.heap.size+1,0,none⟩)))) q 63 zeros5:=Y.grown g3 (by intro e;injection e with e;exact N e)
 have G:(E.setCell ⟨B,0,none⟩ (.iface 188 (.pointer (some ⟨w.heap.size+1,0,none⟩)))).heap.size=w.heap.size:=by simp[hz]
 generalize E.setCell ⟨B,0,none⟩ (.iface 188 (.pointer (some ⟨w.heap.size+1,0,none⟩)))=w6 at L g3 M G⊢
 have ga:=dO w6 (.cells #[.int .i64 p,.iface 54 (.int .i64 er)] 187) none
 have gb:=dO (w6.alloc (.cells #[.int .i64 p,.iface 54 (.int .i64 er)] 187)) (.cells #[.int .i64 p,.iface 54 (.int .i64 er)] 190) none
 have O:Blk ((w6.alloc (.cells #[.int .i64 p,.iface 54 (.int .i64 er)] 187)).alloc (.cells #[.int .i64 p,.iface 54 (.int .i64 er)] 190)) (w.heap.size+1) 190 [.int .i64 p,.iface 54 (.int .i64 er)]:=qb _ (by simp[G]) [.int .i64 p,.iface 54 (.int .i64 er)] _
 have D:=ga.trans gb
 have aa: ∀k,k<w.heap.size→k≠q→k≠B→((w6.alloc (.cells #[.int .i64 p,.iface 54 (.int .i64 er)] 187)).alloc (.cells #[.int .i64 p,.iface 54 (.int .i64 er)] 190)).heap[k]? =w.heap[k]? :=fun k Z h1 I=>by
  rw[D.block k (by omega) (by simp),g3.block k (by omega) (by intro e;injection e with e;exact I e),F.block k Z (by intro e;injection e with e;exact h1 e)]
 exact⟨(M.grownN D).drew,(L.grownN D).drew,O.drew.cell 0,O.drew.cell 1,D.os.trans (g3.os.trans F.os),D.tape.trans (g3.tape.trans F.tape),D.output.trans (g3.output.trans F.output),dV (iw G.symm) D.size,aa⟩
theorem MD (q D:Nat) (p er:Int) (w:World) (v0 G F v3 v4:Value) (B:Blk w q 63 [v0,G,F,v3,v4]) (E:Blk w D 26 [.nilIface]) (M:q≠D):
  CallsD prog 127 #[.pointer (some ⟨q,0,none⟩),.pointer (some ⟨D,0,none⟩)] (.panicking (v7 p er)) w fun e I w'=>
   e= .returned (.tuple #[])∧I= .panicking [{v:= .iface 187 (.agg #[.int .i64 p,.iface 54 (.int .i64 er)]),recovered:=true}]∧yF w w' q D p er:=by
 obtain⟨b0,b1,ab,aa,Z⟩:w.cell? ⟨q,0,none⟩=some v0∧w.cell? ⟨q,1,none⟩=some G∧w.cell? ⟨q,2,none⟩=some F∧w.cell? ⟨q,3,none⟩=some v3∧w.cell? ⟨q,4,none⟩=some v4:=⟨B.cell 0,B.cell 1,B.cell 2,B.cell 3,B.cell 4⟩
 obtain⟨z0,Q,O,z3,z4⟩:w.frozen? ⟨q,0,none⟩=false∧w.frozen? ⟨q,1,none⟩=false∧w.frozen? ⟨q,2,none⟩=false∧w.frozen? ⟨q,3,none⟩=false∧w.frozen? ⟨q,4,none⟩=false:=⟨B.frozen 0,B.frozen 1,B.frozen 2,B.frozen 3,B.frozen 4⟩
 have U:w.cell? ⟨D,0,none⟩=some .nilIface:=E.cell 0
 have R:w.frozen? ⟨D,0,none⟩=false:=E.frozen 0
 have W:=B.lt
 have V:=E.lt
 have N:=dM (ym (p:=p) (er:=er) B E M)
 clear B E
 refine callsD_of_wpS func127 rfl fun Y cs L=> ?_
 apply wpS_seq
 apply wpS_region
 simp[wpOpsS,go_sem,recoverD,L,v7,ntmps127,Exit.thenS]
 refine wpS_of_wp ?_
 rw[show(#[.pointer (some ⟨q,0,none⟩),.pointer (some ⟨D,0,none⟩)]++(Array.replicate 17 undef).setIfInBounds 3 (.iface 187 (.agg #[.int .i64 p,.iface 54 (.int .i64 er)])))= #[.pointer (some ⟨q,0,none⟩),.pointer (some ⟨D,0,none⟩),undef,undef,undef,.iface 187 (.agg #[.int .i64 p,.iface 54 (.int .i64 er)]),undef,undef,undef,undef,undef,undef,undef,undef,undef,undef,undef,undef,undef]from rfl]
 have X: ∀w:World,(Instr.typeAssert (.iface 187 (.agg #[.int .i64 p,.iface 54 (.int .i64 er)])) 20 187 true).run prog w= .ok (.tuple #[.agg #[.int .i64 p,.iface 54 (.int .i64 er)],.bool true]) w:=fun w=>by kernel_rfl
 go_wp2
 go_region_law(fail)
 all_goals go_wp2
 all_goals exact⟨rfl,_,rfl,_,kZ rfl _ _ _,rfl,rfl,N.out⟩
end Go.Proofs.YtceddodfddlncaaGreatDoor
