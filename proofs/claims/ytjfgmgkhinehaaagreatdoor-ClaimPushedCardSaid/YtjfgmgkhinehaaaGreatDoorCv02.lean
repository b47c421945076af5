
import Derived.Test.YtjfgmgkhinehaaaGreatDoorCq01
set_option maxRecDepth 100000
set_option maxHeartbeats 16000000
set_option linter.all false
namespace Go.Proofs.YtjfgmgkhinehaaaGreatDoor
open Go Go.RowKit
mutual
def zol:J→J→Bool
 | .mk k1 n1 s1 l1 m1,.mk k2 n2 s2 l2 m2=>decide (k1=k2)&&decide (n1=n2)&&decide (s1=s2)&&decide (m1=m2)&&zoj l1 l2
def zoj:List J→List J→Bool
 |[],[]=>true
 |x::r,y::t=>zol x y&&zoj r t
 |_,_=>false
end
end Go.Proofs.YtjfgmgkhinehaaaGreatDoor
