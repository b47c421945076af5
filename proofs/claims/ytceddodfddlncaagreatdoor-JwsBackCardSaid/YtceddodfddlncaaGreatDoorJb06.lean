
import Derived.LaidSub
import Derived.Lib.LaidTab
import Derived.Test.YtceddodfddlncaaGreatDoorJb03
import Derived.Test.YtceddodfddlncaaGreatDoorJb05
set_option maxRecDepth 100000
set_option maxHeartbeats 16000000
set_option linter.all false
namespace Go.Proofs.YtceddodfddlncaaGreatDoor
open Go Go.RowKit
theorem gMarks:Tryz.prog.globalNamed "warrant/utf.firstMarks" =some 6:=by kernel_rfl
theorem tMarks:(Tryz.prog.globals[6]?).map (·.type)=some 278:=by kernel_rfl
theorem cInt:Tryz.prog.cellsOf 3=1:=by kernel_rfl
theorem cFive:Tryz.prog.cellsOf 278=5:=by kernel_rfl
theorem rowMarks:((((begin Tryz.prog (fun _ _=>0) default).world.heap[6]?).bind Obj.row?).map (·.2))=some 278:=by kernel_rfl
theorem zgj:Tryz.prog.globals.size=7:=by kernel_rfl
def laidP:List (String×DataW Unit):=[("warrant/utf.firstMarks",Rows.laid_warrant_utf_firstMarks)]
def laidB:List (String×DataW Unit):=[("errors.errorType",Rows.laid_errors_errorType),("warrant/utf.firstMarks",Rows.laid_warrant_utf_firstMarks)]
theorem blk_of {W:World} {g:Nat} {t:TypeId} {n:String} {k:IntKind} {cs:Array Value} {zs:List Int} (hsh:W.ShapedOpen Tryz.prog) (hlt:g<Tryz.prog.globals.size)
  (hrow:((((begin Tryz.prog (fun _ _=>0) default).world.heap[g]?).bind Obj.row?).map (·.2))=some t) (hg:Tryz.prog.globalNamed n=some g) (hv:W.var? Tryz.prog n=some cs) (hc:cs.toList=zs.map fun z=>Value.int k z):
  Blk W g t (ints k zs):=by
 obtain⟨⟨zero,t'⟩,hz,ht⟩:=Option.map_eq_some_iff.1 hrow
 simp only at ht
 subst ht
 obtain⟨cs',hh,_,_⟩:=hsh.1 g zero t' hlt hz
 have hcs:cs'=cs:=by
  unfold World.var? at hv
  simp only[hg,Option.bind_some,hh]at hv
  exact Option.some.inj hv
 subst hcs
 unfold Blk
 rw[hh]
 have:cs'=(ints k zs).toArray:=by rw[ints,←hc]
 rw[this]
theorem errTabB {W:World} (h:laidMetH Tryz.prog laidB W):ErrTab W:=errTab_of (h.filter (fun x=>x.1== "errors.errorType"))
theorem marksB {W:World} (h:laidMetH Tryz.prog laidB W) (hsh:W.ShapedOpen Tryz.prog):Marks W:=by
 have h':laidMet Tryz.prog laidP W:=(laidMetH_iff.1 h).1
 obtain⟨ps,⟨g0,t0,cs0,f0,p0,q0,hg0,ht0,hv0,hd0,_,_⟩,_,_⟩:=h'
 obtain rfl:=Option.some.inj (gMarks.symm.trans hg0)
 obtain rfl:=Option.some.inj (tMarks.symm.trans ht0)
 have e0:=Lib.cells_of_tab (zs:=[0,0,192,224,240]) Tryz.underlying278 Tryz.underlying3 cInt cFive hd0
 exact blk_of hsh (by rw[zgj];decide) rowMarks gMarks hv0 e0
end Go.Proofs.YtceddodfddlncaaGreatDoor
