
import Derived.Shelf.SlicesE.Clone
import Derived.Shelf.SlicesQ.IndexFunc
import Derived.Shelf.SlSortCmp.InsertionK
import Derived.Test.YtceddodfddlncaaGreatDoorProg
set_option maxRecDepth 100000
set_option maxHeartbeats 16000000
set_option linter.all false
namespace Go.Proofs
open Go.Shelf Tryz
def eJ:=@congrArg
def fU:=@underlying3
def fW:=@underlying4
def fZ:=@underlying60
def gT:=@Tryz.zeroValue4
def ib:=@underlying174
def iH:=@Tryz.sizeOf4
def iZ:=@Tryz.isAgg4
def mj:=@Tryz.zeroValue174
def Tryz.cloneM_ren:Go.Shelf.Ren:=⟨fun|41=>115|n=>n,fun|22=>174|23=>133|4=>4|n=>n,fun|n=>n⟩
theorem Tryz.cloneM:Go.Proofs.SlLaysE0.n41 prog Tryz.cloneM_ren:={
 mixed:=by kernel_rfl
 f41:=⟨Tryz.f115.name,by decide,func115.trans (eJ some (by kernel_rfl))⟩
 t4:=fW
 a4:=iZ
 z4:=iH
 v4:=gT
 t22:=ib
 a22:=Tryz.isAgg174
 z22:=Tryz.sizeOf174
 v22:=mj}
def Tryz.cloneJ_ren:Go.Shelf.Ren:=⟨fun|41=>169|n=>n,fun|22=>60|23=>63|4=>4|n=>n,fun|n=>n⟩
theorem Tryz.cloneJ:Go.Proofs.SlLaysE0.n41 prog Tryz.cloneJ_ren:={
 mixed:=by kernel_rfl
 f41:=⟨Tryz.f169.name,by decide,func169.trans (eJ some (by kernel_rfl))⟩
 t4:=fW
 a4:=iZ
 z4:=iH
 v4:=gT
 t22:=fZ
 a22:=Tryz.isAgg60
 z22:=Tryz.sizeOf60
 v22:=Tryz.zeroValue60}
def Tryz.containsM_ren:Go.Shelf.Ren:=⟨fun|8=>207|6=>219|n=>n,fun|22=>174|23=>133|25=>264|4=>4|3=>3|0=>0|n=>n,fun|n=>n⟩
theorem Tryz.containsM:Go.Proofs.SlLaysH0.n8 prog Tryz.containsM_ren:={
 mixed:=by kernel_rfl
 f6:=⟨Tryz.f219.name,by decide,func219.trans (eJ some (by kernel_rfl))⟩
 f8:=⟨Tryz.f207.name,by decide,func207.trans (eJ some (by kernel_rfl))⟩
 t0:=underlying0
 a0:=Tryz.isAgg0
 z0:=Tryz.sizeOf0
 v0:=Tryz.zeroValue0
 t3:=fU
 a3:=Tryz.isAgg3
 z3:=Tryz.sizeOf3
 v3:=Tryz.zeroValue3
 t4:=fW
 a4:=iZ
 z4:=iH
 v4:=gT
 t22:=ib
 a22:=Tryz.isAgg174
 z22:=Tryz.sizeOf174
 v22:=mj
 t25:=underlying264
 a25:=Tryz.isAgg264
 z25:=Tryz.sizeOf264
 v25:=Tryz.zeroValue264}
def Tryz.insertM_ren:Go.Shelf.Ren:=⟨fun|20=>175|n=>n,fun|24=>133|22=>174|3=>3|25=>178|4=>4|0=>0|n=>n,fun|n=>n⟩
theorem Tryz.insertM:Go.Proofs.SlLaysF0.n20 prog Tryz.insertM_ren:={
 mixed:=by kernel_rfl
 f20:=⟨Tryz.f175.name,by decide,func175.trans (eJ some (by kernel_rfl))⟩
 t0:=underlying0
 a0:=Tryz.isAgg0
 z0:=Tryz.sizeOf0
 v0:=Tryz.zeroValue0
 t3:=fU
 a3:=Tryz.isAgg3
 z3:=Tryz.sizeOf3
 v3:=Tryz.zeroValue3
 t4:=fW
 a4:=iZ
 z4:=iH
 v4:=gT
 t22:=ib
 a22:=Tryz.isAgg174
 z22:=Tryz.sizeOf174
 v22:=mj
 t25:=underlying178
 a25:=Tryz.isAgg178
 z25:=Tryz.sizeOf178
 v25:=Tryz.zeroValue178}
end Go.Proofs
