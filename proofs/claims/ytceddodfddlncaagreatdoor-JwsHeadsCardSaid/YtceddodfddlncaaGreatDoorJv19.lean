
import Derived.Lib.Builder
import Derived.Lib.AppendStr
import Derived.Lib.UnsafeStr
import Derived.Lib.Slices
import Derived.Lib.Walk
import Derived.Laws.Externs
import Derived.Test.YtceddodfddlncaaGreatDoorJv01
import Derived.Test.YtceddodfddlncaaGreatDoorJv10
set_option maxRecDepth 100000
set_option maxHeartbeats 16000000
set_option linter.all false
namespace Go.Proofs.YtceddodfddlncaaGreatDoor
open Go Go.RowKit Tryz
def gz:=@info_parts
def il:=@Option.map_eq_some_iff
def jn:=@Lib.cell_of_heap
theorem zq:(prog.info? 120).map (·.size)=some 2:=by kernel_rfl
theorem Fj:liesAt prog prog.depth 120 (2/prog.cellsOf 120) 0 120 1=true:=by kernel_rfl
theorem Dy:(prog.info? 5).map (fun i=>(i.zero,i.size,i.bytes))=some (some (.int .u8 0),1,1):=by kernel_rfl
abbrev IsBld (B b:Nat) (bs:List Value) (w:World):Prop:=Lib.IsBuilder 120 5 B b bs w
theorem Nz (b:Nat) (w:World) (h0:w.cell? ⟨b,0,none⟩=some (.pointer (some ⟨b,0,none⟩))):
  Calls prog 110 #[.pointer (some ⟨b,0,none⟩)] w fun e w'=>e= .returned (.tuple #[])∧w'=w:=by
 obtain⟨j,q,_⟩:=il.1 zq
 have B:=Lib.run_neq_ptr_same (P:=prog) w ⟨b,0,none⟩ iT q
 go_enter func110,ntmps110
 go_wp2
 go_end0
 exact⟨rfl,rfl⟩
theorem N0 (b:Nat) (w:World) (h0:w.cell? ⟨b,0,none⟩=some (.pointer none)) (q:w.shape? b=some (120,2)) (E:w.frozen? ⟨b,0,none⟩=false):
  Calls prog 110 #[.pointer (some ⟨b,0,none⟩)] w fun e w'=>e= .returned (.tuple #[])∧w'=w.setCell ⟨b,0,none⟩ (.pointer (some ⟨b,0,none⟩)):=by
 obtain⟨j,B,D⟩:=il.1 zq
 have h1:=Lib.run_to_unsafe (P:=prog) w ⟨b,0,none⟩ iT kW B (by rw[D];decide) q (Nat.zero_lt_succ 1)
 have G: ∀args w,(callFunc 143 args).run prog w=_:=fun args w=>run_callFunc_extern func143 (by kernel_rfl) (by kernel_rfl) (by kernel_rfl) (e:=Extern.AbiNoEscape.same) (by kernel_rfl) args w
 have F:=Lib.run_from_unsafe (P:=prog) w ⟨b,0,none⟩ kW iT B q Fj
 go_enter func110,ntmps110
 go_wp2
 rw[Lib.run_noEscape]
 simp only[Result.andThen]
 rw[Oper.upon_value]
 go_wp2
 go_end0
 exact⟨rfl,rfl⟩
theorem sI (B b:Nat) (q:List Value) (w:World) (h:IsBld B b q w):
  Calls prog 110 #[.pointer (some ⟨b,0,none⟩)] w fun e w'=>e= .returned (.tuple #[])∧(Lib.BuilderAt 120 5 B b (.pointer (some ⟨b,0,none⟩)) q w'∧Below B w w'):=by
 rcases h with h|h
 ·refine(N0 b w h.cell0 h.shape h.frozen0).mono ?_
  rintro e w' ⟨rfl,rfl⟩
  exact⟨rfl,h.used _,(dU B w).setCell (p:=⟨b,0,none⟩) h.1 _⟩
 ·refine(Nz b w h.cell0).mono ?_
  rintro e w' ⟨rfl,rfl⟩
  exact⟨rfl,h,dU B _⟩
theorem Ll (B b:Nat) (q:List Value) (s:ByteArray) (w:World) (h:IsBld B b q w) (ad:q.length+s.size≤140737488355328) (ae:B≤w.heap.size):
  Calls prog 109 #[.pointer (some ⟨b,0,none⟩),.string s] w fun e w'=>e= .returned (.tuple #[.int .i64 s.size,.nilIface])∧IsBld B b (q++Lib.strCells s) w'∧Below B w w':=by
 obtain⟨i0,hi,Z,Y,X⟩:=gz Dy
 have HC:=dM (sI B b q w h)
 clear h
 go_enter func109,ntmps109
 go_wp2_with(go_at_call 110;refine HC.out.mono ?_)
 rintro e E ⟨rfl,h1,L⟩
 obtain⟨U,v,F,Q,aa⟩:=h1
 have c0:E.cell? ⟨b,0,none⟩=some (.pointer (some ⟨b,0,none⟩)):=by rw[jn F];rfl
 have c1:E.cell? ⟨b,1,none⟩=some v:=by rw[jn F];rfl
 go_wp2_with(at_builtin;refine Lib.wpList_append_own_string _ rfl _ _ 46 9 rfl B 5 i0 ee ew hi Z Y X _ _ _ rfl Q s rfl ?c3 ?c4 ?c5 ?_)
 case c3=>unfold maxLen;omega
 case c4=>omega
 case c5=>have:=L.size;omega
 intro W D O R _
 have ab:b<E.heap.size:=by
  rcases eX b E.heap.size with h'|h'
  ·exact h'
  ·simp[jY h']at F
 have G:D.heap[b]? =some (.cells #[.pointer (some ⟨b,0,none⟩),v] 120 (0,0)):=by
  rw[R.block b ab (fun e=>aa e.symm)]
  exact F
 have d0:D.cell? ⟨b,0,none⟩=some (.pointer (some ⟨b,0,none⟩)):=by rw[jn G];rfl
 have d1:D.cell? ⟨b,1,none⟩=some v:=by rw[jn G];rfl
 have f1:D.frozen? ⟨b,1,none⟩=false:=Lib.frozen_of_heap G 1
 obtain⟨V,N,M,rfl⟩: ∃V N M,W= .slice V N M:=by
  rcases O.2 with⟨I,_⟩|⟨g,M,af,I,_⟩
  ·exact⟨_,_,_,I⟩
  ·exact⟨_,_,_,I⟩
 go_wp2
 go_ret2
 refine⟨rfl,.inr ?_,?_⟩
 ·exact Lib.BuilderAt.put (T:=120) (e:=5) U G (bs':=q++Lib.strCells s) (by simpa[Lib.strCells_length]using O) (by decide)
 ·exact(L.grown R (by have:=L.size;omega) (fun k hk=>(Q.lt k hk).1)).setCell (p:=⟨b,1,none⟩) U _
theorem IsBld.kept {B b D:Nat} {q:List Value} {w w':World} (h:IsBld B b q w) (G:w.grownBy w' (some D)) (O:D<B):IsBld B b q w':=by
 have E: ∀p,Lib.BuilderAt 120 5 B b p q w→Lib.BuilderAt 120 5 B b p q w':=fun p h=>by
  have L:=Lib.BuilderAt.lt h
  obtain⟨N,v,M,F,I⟩:=h
  refine⟨N,v,(G.block b L (by intro e;injection e with e;omega)).trans M,F.kept G ?_,I⟩
  refine .inr (fun e=> ?_)
  have:=(F.lt D e).1
  omega
 exact h.imp (E _) (E _)
theorem NW (s:ByteArray):Lib.strCells s=c_ .u8 (a_ s):=by
 simp[Lib.strCells,c_,a_]
theorem NA {l:List Int} (h:Bytes l):Lib.byteCells (pS l)=c_ .u8 l:=by
 simp only[Lib.byteCells,pS,jV,c_]
 refine jF fun x q=> ?_
 simp only[Function.comp]
 rw[Jt (h.mem q)]
theorem Bk (B b:Nat) (l:List Int) (w:World) (q:Bytes l) (h:IsBld B b (c_ .u8 l) w) (D:B≤w.heap.size):
  Calls prog 83 #[.pointer (some ⟨b,0,none⟩)] w fun e w'=>e= .returned (.string (toS l))∧Below B w w':=
 Tryz.Builder_String_any B b (pS l) w (by rw[NA q];exact h) D
end Go.Proofs.YtceddodfddlncaaGreatDoor
