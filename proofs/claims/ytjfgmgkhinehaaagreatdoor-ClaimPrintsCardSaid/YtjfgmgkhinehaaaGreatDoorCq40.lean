
import Derived.Laws.ResultCell
import Derived.Test.YtjfgmgkhinehaaaGreatDoorCq36
set_option maxRecDepth 100000
set_option maxHeartbeats 16000000
set_option linter.all false
namespace Go.Proofs.YtjfgmgkhinehaaaGreatDoor
open Go
def qB (xs:List Int):List Int:=xs.flatMap qOne
theorem qB_cons (c:Int) (r:List Int):qB (c::r)=qOne c++qB r:=rfl
theorem qB_app (a b:List Int):qB (a++b)=qB a++qB b:=List.flatMap_append
theorem qPre_is (l:List Int): ∀k,k≤l.length→qPre l k=34::qB (l.take k)
 |0,_=>rfl
 |k+1,h=>by
  rw[qPre,qPre_is l k (by omega),List.take_succ_eq_append_getElem (by omega),qB_app,List.getD_eq_getElem?_getD,List.getElem?_eq_getElem (by omega)]
  simp[qB]
theorem quoteL_is (l:List Int):zam l=34::(qB l++[34]):=by
 unfold zam
 rw[qPre_is l l.length (Nat.le_refl _),List.take_length];rfl
end Go.Proofs.YtjfgmgkhinehaaaGreatDoor
