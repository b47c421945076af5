
import Derived.Test.YtjfgmgkhinehaaaGreatDoorCq56
set_option maxRecDepth 100000
set_option maxHeartbeats 16000000
set_option linter.all false
namespace Go.Proofs.YtjfgmgkhinehaaaGreatDoor
open Go Go.RowKit
theorem refValueL (s:ByteArray) (hs:s.size≤5000): ∀(d:Nat),d≤8→ ∀(i:Nat) (left:Int) (W:World),i≤s.size→0≤left→left≤256→
  Calls Tryz.prog 94 #[.string s,.int .i64 (i:Int),.int .i64 (9-(d:Int)),.int .i64 left] W (zbp W (zag (strL s) d i left))
 |0,_,i,left,W,hi,h0,h1=>by
  rw[zag]
  exact zjx s hs 9 (fun i left=>(zeroJ,i,left,51)) i left hi h0 h1 W (fun _=>rfl) (fun _ h=>absurd (by decide) h)
 |d+1,hd,i,left,W,hi,h0,h1=>by
  rw[zag]
  have hv:ValOk s (8-(d:Int)) (zag (strL s) d):=⟨fun i left W hi h0 h1=>by
    have:=refValueL s hs d (by omega) i left W hi h0 h1
    rwa [show(9:Int)-(d:Int)=8-(d:Int)+1 by omega]at this,fun i left hi h0 h1 he=>by
    have:=zbZ (strL s) d i left (by rw[zaX];exact hi) he
    rw[zaX]at this
    exact⟨this.1,this.2.1,this.2.2.1,by omega⟩⟩
  have:=zjx s hs (8-(d:Int)) (zbX (strL s) (zag (strL s) d)) i left hi h0 h1 W (fun h=>absurd h (by omega)) (fun hc hd8 hlt hl W=>by
   rcases hc with hc|hc
   ·exact refMany_list s hs (8-(d:Int)) (by omega) (by omega) (zag (strL s) d) hv i (left-1) hlt (by omega) (by omega) W hc
   ·exact refMany_obj s hs (8-(d:Int)) (by omega) (by omega) (zag (strL s) d) hv i (left-1) hlt (by omega) (by omega) W hc)
  rwa [show(9:Int)-((d+1:Nat):Int)=8-(d:Int)by omega]
theorem refParse_any (s:ByteArray) (W:World) (hs:s.size≤9223372036854775807):Calls Tryz.prog 66 #[.string s] W (zml W (zed (strL s))):=
 refParse_of s W hs fun h W=>by
  have:=refValueL s (by omega) 8 (Nat.le_refl _) (zaY (strL s) 0) 256 W (by have:=(zan (l:=strL s) (i:=0) (Nat.zero_le _)).2;rwa [zaX]at this) (by decide) (by decide)
  exact this
end Go.Proofs.YtjfgmgkhinehaaaGreatDoor
