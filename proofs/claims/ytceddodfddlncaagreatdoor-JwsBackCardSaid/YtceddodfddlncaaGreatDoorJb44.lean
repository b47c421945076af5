
import Derived.Test.YtceddodfddlncaaGreatDoorJb06
import Derived.Test.YtceddodfddlncaaGreatDoorJb43
set_option maxRecDepth 100000
set_option maxHeartbeats 16000000
set_option linter.all false
namespace Go.Proofs.YtceddodfddlncaaGreatDoor
open Go Go.RowKit
theorem gStart:Tryz.prog.globalNamed "warrant/sha.start" =some 3:=by kernel_rfl
theorem gRoots:Tryz.prog.globalNamed "warrant/sha.roots" =some 2:=by kernel_rfl
theorem tStart:(Tryz.prog.globals[3]?).map (·.type)=some 219:=by kernel_rfl
theorem tRoots:(Tryz.prog.globals[2]?).map (·.type)=some 252:=by kernel_rfl
theorem c33:Tryz.prog.cellsOf 124=1:=by kernel_rfl
theorem c34:Tryz.prog.cellsOf 219=8:=by kernel_rfl
theorem c57:Tryz.prog.cellsOf 252=64:=by kernel_rfl
theorem rowStart:((((begin Tryz.prog (fun _ _=>0) default).world.heap[3]?).bind Obj.row?).map (·.2))=some 219:=by kernel_rfl
theorem rowRoots:((((begin Tryz.prog (fun _ _=>0) default).world.heap[2]?).bind Obj.row?).map (·.2))=some 252:=by kernel_rfl
def laidT8:List (String×DataW Unit):=[("warrant/sha.start",Rows.laid_warrant_sha_start),("warrant/sha.roots",Rows.laid_warrant_sha_roots)]
def laidQ8:List (String×DataW Unit):=[("unicode/utf8.acceptRanges",Rows.laid_unicode_utf8_acceptRanges),("warrant/sha.start",Rows.laid_warrant_sha_start),("warrant/sha.roots",Rows.laid_warrant_sha_roots),("warrant/utf.firstMarks",Rows.laid_warrant_utf_firstMarks),("unicode/utf8.first",Rows.laid_unicode_utf8_first)]
def laidJ:List (String×DataW Unit):=[("unicode/utf8.acceptRanges",Rows.laid_unicode_utf8_acceptRanges),("warrant/sha.start",Rows.laid_warrant_sha_start),("warrant/sha.roots",Rows.laid_warrant_sha_roots),("errors.errorType",Rows.laid_errors_errorType),("warrant/utf.firstMarks",Rows.laid_warrant_utf_firstMarks),("unicode/utf8.first",Rows.laid_unicode_utf8_first)]
theorem tabs_of {W:World} (hL:laidMetH Tryz.prog laidT8 W) (hsh:W.ShapedOpen Tryz.prog):Tabs W:=by
 rw[MakeChecks.laidMetH_plain _ _ _ (by kernel_rfl)]at hL
 obtain⟨ps,⟨g0,t0,cs0,f0,p0,q0,hg0,ht0,hv0,hd0,⟨g1,t1,cs1,f1,p1,q1,hg1,ht1,hv1,hd1,_,_⟩,_⟩,_,_⟩:=hL
 obtain rfl:=Option.some.inj (gStart.symm.trans hg0)
 obtain rfl:=Option.some.inj (gRoots.symm.trans hg1)
 obtain rfl:=Option.some.inj (tStart.symm.trans ht0)
 obtain rfl:=Option.some.inj (tRoots.symm.trans ht1)
 have e0:=Lib.cells_of_tab (zs:=startL) Tryz.underlying219 Tryz.underlying124 c33 c34 hd0
 have e1:=Lib.cells_of_tab (zs:=rootsL) Tryz.underlying252 Tryz.underlying124 c33 c57 hd1
 exact⟨blk_of hsh (by rw[zgj];decide) rowRoots gRoots hv1 e1,blk_of hsh (by rw[zgj];decide) rowStart gStart hv0 e0⟩
theorem laidB_of8 {W:World} (h:laidMetH Tryz.prog laidJ W):laidMetH Tryz.prog laidB W:=h.filter (fun x=>x.1== "errors.errorType" ||x.1== "warrant/utf.firstMarks")
theorem laidT_of8 {W:World} (h:laidMetH Tryz.prog laidJ W):laidMetH Tryz.prog laidT8 W:=h.filter (fun x=>x.1== "warrant/sha.start" ||x.1== "warrant/sha.roots")
theorem maxLW_of {W:World} (h:W.ShapedOpen Tryz.prog):MaxLW W:=Go.Proofs.cell_of_shapedOpen_int (zero:= #[.int .i64 0]) (t:=3) h (of_decide_eq_true (by kernel_rfl)) (by kernel_rfl) rfl (by kernel_rfl) (by kernel_rfl) Tryz.underlying3
theorem ask8_of {W:World} (h:laidMetH Tryz.prog laidJ W) (hsh:W.ShapedOpen Tryz.prog):Ask8 W:=⟨⟨errTabB (laidB_of8 h),marksB (laidB_of8 h) hsh⟩,tabs_of (laidT_of8 h) hsh,maxLW_of hsh⟩
noncomputable def zdt (os:Os):World:=(zly os).layVars Tryz.prog laidQ8
theorem znd (os:Os):(zdt os).os=os:=(World.layVars_os _ _ _).trans rfl
theorem zkt (os:Os) (args:Array Value):laidMetH Tryz.prog laidJ ((zdt os).forCall (fun _ _=>0) ⟨#[],args,[]⟩).memory:=by
 refine laidMetH_of_parts ?_ (by kernel_rfl)
 have h:laidMet Tryz.prog laidQ8 (zdt os):=laidMet_layVars (w0:=zly os) ["unicode/utf8.acceptRanges", "warrant/sha.start", "warrant/sha.roots", "warrant/utf.firstMarks", "unicode/utf8.first"] [] (by kernel_rfl) (by kernel_rfl) (by kernel_rfl) LaidIn.none
 exact h.of_heap (by simp[World.memory,World.forCall,Input.heap])
end Go.Proofs.YtceddodfddlncaaGreatDoor
