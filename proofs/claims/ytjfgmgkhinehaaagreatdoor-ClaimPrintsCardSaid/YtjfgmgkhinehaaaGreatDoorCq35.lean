
import Derived.Deep.Slices
import Derived.Deep.Fields
import Derived.ChangeSame
import Derived.Carry
import Derived.Test.YtjfgmgkhinehaaaGreatDoorCq15
set_option maxRecDepth 100000
set_option maxHeartbeats 16000000
set_option linter.all false
namespace Go.Proofs.YtjfgmgkhinehaaaGreatDoor
open Go Go.RowKit Go.ChangeShapes Go.WideShapes Go.Deep
section
variable {H:Type} {enc:TypeId×Value→H} {P:Program} {w:World} {base:Nat} {sp:Nat→Bool} {held:Bool}
theorem struct_ones {t:TypeId} {fs:Array Field} {fuel:Nat} {cs:List Value} {x:DataW H×List MemPlace} (ht:P.underlying t=some (.struct fs)) (hone:oneCellFields P fs=true) (h:DataW.trod enc P w base sp held fuel t cs=some x):
  ∃(n:Nat) (xs:List (DataW H×List MemPlace)),fuel=n+1∧cs.length=P.cellsOf t∧xs.length=fs.size∧ ∀(j:Nat) (f:Field) (v:Value),fs[j]? =some f→cs[j]? =some v→DataW.trod enc P w base sp held n f.type [v]=xs[j]? :=by
 obtain⟨xs,n,rfl,rfl,hlen,hxl,hf⟩:=DataW.trod_struct ht h
 refine⟨n,xs,rfl,hlen,hxl,fun j f v hj hv=> ?_⟩
 have h1:=hf j f hj
 obtain⟨ho,hk⟩:=hone_of hone j f hj
 rw[ho,hk]at h1
 have hlt:=(List.getElem?_eq_some_iff.1 hv).1
 rw[take1_drop _ j undef hlt,List.getD_eq_getElem?_getD,hv]at h1
 exact h1
end
section
variable {H:Type} {enc:TypeId×Value→H} {w:World} {base:Nat} {sp:Nat→Bool} {held:Bool}
end
section
variable {H:Type} {enc:TypeId×Value→H} {w:World} {base:Nat} {sp:Nat→Bool} {held:Bool}
theorem sized_strS:Tryz.prog.cellsOf 9=1:=by kernel_rfl
theorem trod_strs {fuel:Nat} {cs:List Value} {x:DataW H×List MemPlace} (h:DataW.trod enc Tryz.prog w base sp held fuel 22 cs=some x): ∃v ns,cs=[v]∧RawN w v ns:=by
 rcases open_slice Tryz.underlying22 h with⟨rfl,_⟩|⟨a,len,cap,m,n,D,Pl,rfl,_,hl,hm,hmm,_,hi⟩
 ·exact⟨_,[],rfl,none,0,rfl,Nat.le_refl _,by simp,.none _ _⟩
 ·have hlm:len≤m:=by rw[hmm];split<;>omega
  have hstr: ∀i,i<len→ ∃s:ByteArray,w.cell? (a.add i)=some (.string s):=fun i hil=>by
   obtain⟨cs',hc,ht⟩:=hi i (by omega)
   rw[sized_strS,Nat.mul_one]at hc
   obtain⟨s,rfl,_,hs⟩:=DataW.trod_string Tryz.underlying9 ht
   obtain⟨_,_,hcell⟩:=World.cells?_some hc
   have h0:=hcell 0 (by omega)
   rw[Go.Deep.add_add,Nat.add_zero]at h0
   exact⟨s,h0⟩
  refine⟨_,List.ofFn fun i:Fin len=>(hstr i.val i.isLt).choose,rfl,some a,cap,by rw[List.length_ofFn],by rw[List.length_ofFn];exact hl,by rw[List.length_ofFn];unfold maxLen at hm;omega,fun hne=> ?_⟩
  have hp:0<len:=Nat.pos_of_ne_zero fun e=>by subst e;exact hne rfl
  obtain⟨b,o,spot⟩:=a
  obtain⟨q,hq0⟩:=hstr 0 hp
  have hspot:spot=none:=by simpa[Addr.add]using World.cell?_spot hq0
  subst hspot
  refine⟨b,o,rfl,zab (by rw[Addr.add_mid]at hq0;exact hq0),fun i x hi2=> ?_⟩
  obtain⟨hil,he⟩:=List.getElem?_eq_some_iff.1 hi2
  rw[List.length_ofFn]at hil
  rw[List.getElem_ofFn]at he
  have hs:=(hstr i hil).choose_spec
  rw[he,Addr.add_mid]at hs
  exact hs
end
end Go.Proofs.YtjfgmgkhinehaaaGreatDoor
