
import Derived.Test.YtceddodfddlncaaGreatDoorJv05
import Derived.Test.YtceddodfddlncaaGreatDoorJv29
set_option maxRecDepth 100000
set_option maxHeartbeats 16000000
set_option linter.all false
namespace Go.Proofs.YtceddodfddlncaaGreatDoor
open Go Go.RowKit Go.Proofs.Tryz
theorem gStart:prog.globalNamed "warrant/sha.start" =some 3:=by kernel_rfl
theorem gRoots:prog.globalNamed "warrant/sha.roots" =some 2:=by kernel_rfl
theorem tStart:(prog.globals[3]?).map (·.type)=some 219:=by kernel_rfl
theorem tRoots:(prog.globals[2]?).map (·.type)=some 252:=by kernel_rfl
theorem Ny:prog.cellsOf 124=1:=by kernel_rfl
theorem Oo:prog.cellsOf 219=8:=by kernel_rfl
theorem On:prog.cellsOf 252=64:=by kernel_rfl
theorem Ch:((((begin prog (fun _ _=>0) default).world.heap[3]?).bind Obj.row?).map (·.2))=some 219:=by kernel_rfl
theorem Ci:((((begin prog (fun _ _=>0) default).world.heap[2]?).bind Obj.row?).map (·.2))=some 252:=by kernel_rfl
def CZ:List (String×DataW Unit):=[("warrant/sha.start",Rows.laid_warrant_sha_start),("warrant/sha.roots",Rows.laid_warrant_sha_roots)]
def C0:List (String×DataW Unit):=[("unicode/utf8.acceptRanges",Rows.laid_unicode_utf8_acceptRanges),("warrant/sha.start",Rows.laid_warrant_sha_start),("warrant/sha.roots",Rows.laid_warrant_sha_roots),("warrant/utf.firstMarks",Rows.laid_warrant_utf_firstMarks),("unicode/utf8.first",Rows.laid_unicode_utf8_first)]
def zh:List (String×DataW Unit):=[("unicode/utf8.acceptRanges",Rows.laid_unicode_utf8_acceptRanges),("warrant/sha.start",Rows.laid_warrant_sha_start),("warrant/sha.roots",Rows.laid_warrant_sha_roots),("errors.errorType",Rows.laid_errors_errorType),("warrant/utf.firstMarks",Rows.laid_warrant_utf_firstMarks),("unicode/utf8.first",Rows.laid_unicode_utf8_first)]
theorem El {W:World} (B:laidMetH prog CZ W) (q:W.ShapedOpen prog):Tabs W:=by
 rw[MakeChecks.laidMetH_plain _ _ _ (by kernel_rfl)]at B
 obtain⟨X,⟨g0,t0,ab,f0,Z,V,L,G,E,N,⟨g1,R,aa,f1,Y,U,I,F,D,M,_,_⟩,_⟩,_,_⟩:=B
 obtain rfl:=gd (gStart.symm.trans L)
 obtain rfl:=gd (gRoots.symm.trans I)
 obtain rfl:=gd (tStart.symm.trans G)
 obtain rfl:=gd (tRoots.symm.trans F)
 have Q:=mr (zs:=nX) fu iC Ny Oo N
 have O:=mr (zs:=rootsL) jO iC Ny On M
 exact⟨yp q (by rw[Lr];decide) Ci gRoots D O,yp q (by rw[Lr];decide) Ch gStart E Q⟩
theorem ra {W:World} (h:laidMetH prog zh W):laidMetH prog C1 W:=h.filter (fun x=>x.1== "errors.errorType" ||x.1== "warrant/utf.firstMarks")
theorem AL {W:World} (h:laidMetH prog zh W):laidMetH prog CZ W:=h.filter (fun x=>x.1== "warrant/sha.start" ||x.1== "warrant/sha.roots")
theorem CS {W:World} (h:W.ShapedOpen prog):MaxLW W:=Go.Proofs.cell_of_shapedOpen_int (zero:= #[.int .i64 0]) (t:=3) h (fG (by kernel_rfl)) (by kernel_rfl) rfl (by kernel_rfl) (by kernel_rfl) fT
theorem zw {W:World} (h:laidMetH prog zh W) (q:W.ShapedOpen prog):Ask8 W:=⟨⟨E7 (ra h),Gy (ra h) q⟩,El (AL h) q,CS q⟩
noncomputable def Ee (os:Os):World:=(L7 os).layVars prog C0
theorem Nf (q:Os):(Ee q).os=q:=(World.layVars_os _ _ _).trans rfl
theorem Nn (q:Os) (args:Array Value):laidMetH prog zh ((Ee q).forCall (fun _ _=>0) ⟨#[],args,[]⟩).memory:=by
 refine laidMetH_of_parts ?_ (by kernel_rfl)
 have h:laidMet prog C0 (Ee q):=laidMet_layVars (w0:=L7 q) ["unicode/utf8.acceptRanges", "warrant/sha.start", "warrant/sha.roots", "warrant/utf.firstMarks", "unicode/utf8.first"] [] (by kernel_rfl) (by kernel_rfl) (by kernel_rfl) LaidIn.none
 exact h.of_heap (by simp[World.memory,World.forCall,Input.heap])
end Go.Proofs.YtceddodfddlncaaGreatDoor
