
import Derived.Tactics2
import Derived.Defers
import Derived.Recover
import Derived.Test.YtceddodfddlncaaGreatDoorJb25
set_option maxRecDepth 100000
set_option maxHeartbeats 16000000
set_option linter.all false
namespace Go.Proofs.YtceddodfddlncaaGreatDoor
open Go Go.RowKit
def Caught (w w':World) (b2 b3:Nat) (p er:Int):Prop:=
 Blk w' b2 63 zeros5∧Blk w' b3 26 [.iface 188 (.pointer (some ⟨w.heap.size+1,0,none⟩))]∧w'.cell? ⟨w.heap.size+1,0,none⟩=some (.int .i64 p)∧w'.cell? ⟨w.heap.size+1,1,none⟩=some (.iface 54 (.int .i64 er))∧
 w'.os=w.os∧w'.tape=w.tape∧w'.output=w.output∧w.heap.size≤w'.heap.size∧ ∀k,k<w.heap.size→k≠b2→k≠b3→w'.heap[k]? =w.heap[k]?
theorem caught_end {w:World} {b2 b3:Nat} {p er:Int} {y0 y1 y2 y3 y4:Value} (h2:Blk w b2 63 [y0,y1,y2,y3,y4]) (h3:Blk w b3 26 [.nilIface]) (hne:b2≠b3):
  Caught w ((((((((((w.setCell ⟨b2,0,none⟩ (.int .i64 0)).setCell ⟨b2,1,none⟩ (.int .i64 0)).setCell ⟨b2,2,none⟩ (.string ⟨#[]⟩)).setCell ⟨b2,3,none⟩ (.slice none 0 0)).setCell ⟨b2,4,none⟩ (.slice none 0 0)).setCell ⟨b3,0,none⟩ (.iface 188 (.pointer (some ⟨w.heap.size+1,0,none⟩)))).alloc (.cells #[.int .i64 p,.iface 54 (.int .i64 er)] 187)).alloc (.cells #[.int .i64 p,.iface 54 (.int .i64 er)] 190)).drew)) b2 b3 p er:=by
 have s5:=zdZ h2 (.int .i64 0) (.int .i64 0) (.string ⟨#[]⟩) (.slice none 0 0) (.slice none 0 0)
 have hz:(((((w.setCell ⟨b2,0,none⟩ (.int .i64 0)).setCell ⟨b2,1,none⟩ (.int .i64 0)).setCell ⟨b2,2,none⟩ (.string ⟨#[]⟩)).setCell ⟨b2,3,none⟩ (.slice none 0 0)).setCell ⟨b2,4,none⟩ (.slice none 0 0)).heap.size=w.heap.size:=by simp
 generalize ((((w.setCell ⟨b2,0,none⟩ (.int .i64 0)).setCell ⟨b2,1,none⟩ (.int .i64 0)).setCell ⟨b2,2,none⟩ (.string ⟨#[]⟩)).setCell ⟨b2,3,none⟩ (.slice none 0 0)).setCell ⟨b2,4,none⟩ (.slice none 0 0)=w5 at s5 hz⊢
 obtain⟨k2,g2⟩:=s5
 have k3:Blk w5 b3 26 [.nilIface]:=h3.grown g2 (by intro e;injection e with e;exact hne e.symm)
 have k3':=k3.setCell 0 (.iface 188 (.pointer (some ⟨w.heap.size+1,0,none⟩)))
 have g3:=zaV w5 b3 0 (.iface 188 (.pointer (some ⟨w.heap.size+1,0,none⟩)))
 have k2':Blk (w5.setCell ⟨b3,0,none⟩ (.iface 188 (.pointer (some ⟨w.heap.size+1,0,none⟩)))) b2 63 zeros5:=k2.grown g3 (by intro e;injection e with e;exact hne e)
 have hz6:(w5.setCell ⟨b3,0,none⟩ (.iface 188 (.pointer (some ⟨w.heap.size+1,0,none⟩)))).heap.size=w.heap.size:=by simp[hz]
 generalize w5.setCell ⟨b3,0,none⟩ (.iface 188 (.pointer (some ⟨w.heap.size+1,0,none⟩)))=w6 at k3' g3 k2' hz6⊢
 have ga:=World.grownBy_alloc w6 (.cells #[.int .i64 p,.iface 54 (.int .i64 er)] 187) none
 have gb:=World.grownBy_alloc (w6.alloc (.cells #[.int .i64 p,.iface 54 (.int .i64 er)] 187)) (.cells #[.int .i64 p,.iface 54 (.int .i64 er)] 190) none
 have hAt:Blk ((w6.alloc (.cells #[.int .i64 p,.iface 54 (.int .i64 er)] 187)).alloc (.cells #[.int .i64 p,.iface 54 (.int .i64 er)] 190)) (w.heap.size+1) 190 [.int .i64 p,.iface 54 (.int .i64 er)]:=zck _ (by simp[hz6]) [.int .i64 p,.iface 54 (.int .i64 er)] _
 have gab:=ga.trans gb
 have hfar: ∀k,k<w.heap.size→k≠b2→k≠b3→((w6.alloc (.cells #[.int .i64 p,.iface 54 (.int .i64 er)] 187)).alloc (.cells #[.int .i64 p,.iface 54 (.int .i64 er)] 190)).heap[k]? =w.heap[k]? :=fun k hk h1 h2=>by
  rw[gab.block k (by omega) (by simp),g3.block k (by omega) (by intro e;injection e with e;exact h2 e),g2.block k hk (by intro e;injection e with e;exact h1 e)]
 exact⟨(k2'.grownN gab).drew,(k3'.grownN gab).drew,hAt.drew.cell 0,hAt.drew.cell 1,gab.os.trans (g3.os.trans g2.os),gab.tape.trans (g3.tape.trans g2.tape),gab.output.trans (g3.output.trans g2.output),Nat.le_trans (Nat.le_of_eq hz6.symm) gab.size,hfar⟩
theorem zki (b2 b3:Nat) (p er:Int) (w:World) (v0 v1 v2 v3 v4:Value) (h2:Blk w b2 63 [v0,v1,v2,v3,v4]) (h3:Blk w b3 26 [.nilIface]) (hne:b2≠b3):
  CallsD Tryz.prog 127 #[.pointer (some ⟨b2,0,none⟩),.pointer (some ⟨b3,0,none⟩)] (.panicking (flt p er)) w fun e u' w'=>
   e= .returned (.tuple #[])∧u'= .panicking [{v:= .iface 187 (.agg #[.int .i64 p,.iface 54 (.int .i64 er)]),recovered:=true}]∧Caught w w' b2 b3 p er:=by
 obtain⟨b0,b1,b2',b3',b4⟩:w.cell? ⟨b2,0,none⟩=some v0∧w.cell? ⟨b2,1,none⟩=some v1∧w.cell? ⟨b2,2,none⟩=some v2∧w.cell? ⟨b2,3,none⟩=some v3∧w.cell? ⟨b2,4,none⟩=some v4:=⟨h2.cell 0,h2.cell 1,h2.cell 2,h2.cell 3,h2.cell 4⟩
 obtain⟨z0,z1,z2,z3,z4⟩:w.frozen? ⟨b2,0,none⟩=false∧w.frozen? ⟨b2,1,none⟩=false∧w.frozen? ⟨b2,2,none⟩=false∧w.frozen? ⟨b2,3,none⟩=false∧w.frozen? ⟨b2,4,none⟩=false:=⟨h2.frozen 0,h2.frozen 1,h2.frozen 2,h2.frozen 3,h2.frozen 4⟩
 have y0:w.cell? ⟨b3,0,none⟩=some .nilIface:=h3.cell 0
 have y1:w.frozen? ⟨b3,0,none⟩=false:=h3.frozen 0
 have l2:=h2.lt
 have l3:=h3.lt
 have HF:=Lib.hid (caught_end (p:=p) (er:=er) h2 h3 hne)
 clear h2 h3
 refine callsD_of_wpS Tryz.func127 rfl fun c₀ cs hu=> ?_
 apply wpS_seq
 apply wpS_region
 simp[wpOpsS,go_sem,recoverD,hu,flt,Tryz.ntmps127,Exit.thenS]
 refine wpS_of_wp ?_
 rw[show(#[.pointer (some ⟨b2,0,none⟩),.pointer (some ⟨b3,0,none⟩)]++(Array.replicate 17 undef).setIfInBounds 3 (.iface 187 (.agg #[.int .i64 p,.iface 54 (.int .i64 er)])))= #[.pointer (some ⟨b2,0,none⟩),.pointer (some ⟨b3,0,none⟩),undef,undef,undef,.iface 187 (.agg #[.int .i64 p,.iface 54 (.int .i64 er)]),undef,undef,undef,undef,undef,undef,undef,undef,undef,undef,undef,undef,undef]from rfl]
 have hta: ∀w:World,(Instr.typeAssert (.iface 187 (.agg #[.int .i64 p,.iface 54 (.int .i64 er)])) 20 187 true).run Tryz.prog w= .ok (.tuple #[.agg #[.int .i64 p,.iface 54 (.int .i64 er)],.bool true]) w:=fun w=>by kernel_rfl
 go_wp2
 go_region_law(fail)
 all_goals go_wp2
 all_goals exact⟨rfl,_,rfl,_,results_none rfl _ _ _,rfl,rfl,HF.out⟩
end Go.Proofs.YtceddodfddlncaaGreatDoor
