
import Derived.LaidSub
import Derived.Lib.LaidTab
import Derived.Test.YtceddodfddlncaaGreatDoorJv03
import Derived.Test.YtceddodfddlncaaGreatDoorJv04
set_option maxRecDepth 100000
set_option maxHeartbeats 16000000
set_option linter.all false
namespace Go.Proofs.YtceddodfddlncaaGreatDoor
open Go Go.RowKit Go.Proofs.Tryz
def ij:=@Option.map_eq_some_iff
def mr:=@Lib.cells_of_tab
theorem gMarks:prog.globalNamed "warrant/utf.firstMarks" =some 6:=by kernel_rfl
theorem tMarks:(prog.globals[6]?).map (·.type)=some 278:=by kernel_rfl
theorem LS:prog.cellsOf 3=1:=by kernel_rfl
theorem I5:prog.cellsOf 278=5:=by kernel_rfl
theorem Cj:((((begin prog (fun _ _=>0) default).world.heap[6]?).bind Obj.row?).map (·.2))=some 278:=by kernel_rfl
theorem Lr:prog.globals.size=7:=by kernel_rfl
def IR:List (String×DataW Unit):=[("warrant/utf.firstMarks",Rows.laid_warrant_utf_firstMarks)]
def C1:List (String×DataW Unit):=[("errors.errorType",Rows.laid_errors_errorType),("warrant/utf.firstMarks",Rows.laid_warrant_utf_firstMarks)]
theorem yp {W:World} {g:Nat} {t:TypeId} {n:String} {k:IntKind} {cs:Array Value} {zs:List Int} (G:W.ShapedOpen prog) (L:g<prog.globals.size)
  (I:((((begin prog (fun _ _=>0) default).world.heap[g]?).bind Obj.row?).map (·.2))=some t) (M:prog.globalNamed n=some g) (q:W.var? prog n=some cs) (O:cs.toList=zs.map fun z=>Value.int k z):
  Blk W g t (c_ k zs):=by
 obtain⟨⟨zero,F⟩,hz,B⟩:=ij.1 I
 simp only at B
 subst B
 obtain⟨E,D,_,_⟩:=G.1 g zero F L hz
 have N:E=cs:=by
  unfold World.var? at q
  simp only[M,Option.bind_some,D]at q
  exact gd q
 subst N
 unfold Blk
 rw[D]
 have:E=(c_ k zs).toArray:=by rw[c_,←O]
 rw[this]
theorem E7 {W:World} (h:laidMetH prog C1 W):ErrTab W:=Bb (h.filter (fun x=>x.1== "errors.errorType"))
theorem Gy {W:World} (h:laidMetH prog C1 W) (D:W.ShapedOpen prog):Marks W:=by
 have G:laidMet prog IR W:=(laidMetH_iff.1 h).1
 obtain⟨M,⟨O,t0,R,Q,N,L,E,B,q,F,_,_⟩,_,_⟩:=G
 obtain rfl:=gd (gMarks.symm.trans E)
 obtain rfl:=gd (tMarks.symm.trans B)
 have I:=mr (zs:=[0,0,192,224,240]) underlying278 underlying3 LS I5 F
 exact yp D (by rw[Lr];decide) Cj gMarks q I
end Go.Proofs.YtceddodfddlncaaGreatDoor
