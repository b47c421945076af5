
import Derived.Test.YtjfgmgkhinehaaaGreatDoorCq01
import Derived.Test.YtjfgmgkhinehaaaGreatDoorCq06
import Derived.Test.YtjfgmgkhinehaaaGreatDoorCq14
import Derived.Test.YtjfgmgkhinehaaaGreatDoorCv04
set_option maxRecDepth 100000
set_option maxHeartbeats 16000000
set_option linter.all false
namespace Go.Proofs.YtjfgmgkhinehaaaGreatDoor
open Go Go.RowKit
def askA (j:J) (now:Int) (n:ByteArray):Int×Int:=if(askI j n).2=0∧(askI j n).1≤now then(0,90)else askI j n
theorem above_any (now:Int) (w:World):Calls Tryz.prog 70 #[.int .i64 now] w fun e w'=>e= .returned (.func (.func 100) #[] #[.pointer (some ⟨w.heap.size,0,none⟩)])∧w'.cell? ⟨w.heap.size,0,none⟩=some (.int .i64 now)∧Below w.heap.size w w':=by
 go_enter Tryz.func70,Tryz.ntmps70
 go_wp2
 go_ret
 exact⟨rfl,by simp,zaf _ _⟩
theorem above1_any (j:J) (va:Value) (name:ByteArray) (now:Int) (kb:Nat) (W:World) (ha:RepJ W j va) (hsm: ∀x∈j.l,Sm x) (hk:W.cell? ⟨kb,0,none⟩=some (.int .i64 now)):
  Calls Tryz.prog 100 #[va,.string name,.pointer (some ⟨kb,0,none⟩)] W fun e w'=>e= .returned (.tuple #[.int .i64 (askA j now name).1,errV (askA j now name).2])∧Below W.heap.size W w':=by
 obtain⟨y0,y1,y2,yA,yp,yc,yK,yq,yd,rfl⟩:=ha.form
 obtain⟨W1,hW1⟩: ∃X,X=W.alloc (.cells #[.int .i64 y0,.int .i64 y1,.string y2,.slice yA yp yc,.slice yK yq yd] 27):=⟨_,rfl⟩
 have hB1:Below W.heap.size W W1:=by rw[hW1];exact zaf W _
 have HI:=Lib.hid (intC_any j _ name W1 (RepJ.below hB1 _ _ ha) hsm)
 have HB1:=Lib.hid hB1
 have HW1:=Lib.hid hW1
 have HU:Hid (askA j now name=if(askI j name).2=0∧(askI j name).1≤now then(0,90)else askI j name):=Lib.hid rfl
 have hE:=askI_err j name
 obtain⟨R,hR⟩: ∃R,R=askA j now name:=⟨_,rfl⟩
 rw[←hR]at HU⊢
 obtain⟨q,hq⟩: ∃q,q=askI j name:=⟨_,rfl⟩
 rw[←hq]at HU HI hE
 obtain⟨n,no⟩:=q
 dsimp only at hE
 have HK:=Lib.hid hk
 have hklt:=zab hk
 have HKL:Hid (∀X,Below W.heap.size W X→X.cell? ⟨kb,0,none⟩=some (.int .i64 now)):=Lib.hid fun X hX=>(hX.cell (p:=⟨kb,0,none⟩) hklt).trans HK.out
 clear ha hsm hB1 hR hq hW1 hk hklt
 go_enter Tryz.func100,Tryz.ntmps100
 go_wp2_with fail
 rw[show W.alloc (.cells #[.int .i64 y0,.int .i64 y1,.string y2,.slice yA yp yc,.slice yK yq yd] 27)=W1 from HW1.out.symm]
 refine HI.out.mono ?_
 rintro e w2 ⟨rfl,hb⟩
 have HB2:=Lib.hid (HB1.out.trans (hb.mono HB1.out.size))
 have kc:=HKL.out _ HB2.out
 clear hb HI
 rcases hE with rfl|rfl
 ·rw[zeV]
  by_cases hle:n≤now
  ·obtain rfl:R=(0,90):=by rw[HU.out];exact if_pos ⟨rfl,hle⟩
   have hd:decide (n≤now)=true:=decide_eq_true hle
   clear HU
   go_wp2
   go_ret2
   exact⟨rfl,HB2.out⟩
  ·obtain rfl:R=(n,0):=by rw[HU.out];exact if_neg (fun h=>hle h.2)
   have hd:decide (n≤now)=false:=decide_eq_false hle
   clear HU
   go_wp2
   go_ret2
   exact⟨rfl,HB2.out⟩
 ·rw[show errV 54= .iface 95 (.int .i64 54)from rfl]
  obtain rfl:R=(n,54):=by rw[HU.out];exact if_neg (fun h=>absurd h.1 (by decide))
  clear HU
  go_wp2
  go_ret2
  exact⟨rfl,HB2.out⟩
end Go.Proofs.YtjfgmgkhinehaaaGreatDoor
