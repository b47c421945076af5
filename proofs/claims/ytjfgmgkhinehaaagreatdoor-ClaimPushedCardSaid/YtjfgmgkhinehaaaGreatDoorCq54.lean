
import Derived.Test.YtjfgmgkhinehaaaGreatDoorCq14
import Derived.Test.YtjfgmgkhinehaaaGreatDoorCq50
set_option maxRecDepth 100000
set_option maxHeartbeats 16000000
set_option linter.all false
namespace Go.Proofs.YtjfgmgkhinehaaaGreatDoor
open Go Go.RowKit
theorem refTextC_any (j:J) (va:Value) (name:ByteArray) (W:World) (ha:RepJ W j va) (hn:name.size≤9223372036854775807):
  Calls Tryz.prog 34 #[va,.string name] W fun e w'=>e= .returned (.tuple #[.string (askT j name).1,.bool (decide ((askT j name).2=0))])∧Below W.heap.size W w':=by
 obtain⟨y0,y1,y2,yA,yp,yc,yK,yq,yd,rfl⟩:=ha.form
 have hB1:=zaf W (.cells #[.int .i64 y0,.int .i64 y1,.string y2,.slice yA yp yc,.slice yK yq yd] 27)
 have HG:=Lib.hid (zgK j _ name _ (RepJ.below hB1 _ _ ha) hn)
 have HB1:=Lib.hid hB1
 obtain⟨g,hg⟩: ∃g,g=getJ j name:=⟨_,rfl⟩
 have HM:Hid (askT j name=((zgs g 3).1.s,(zgs g 3).2)):=Lib.hid (by rw[hg];rfl)
 rw[←hg]at HG
 obtain⟨R,hR⟩: ∃R,R=askT j name:=⟨_,rfl⟩
 rw[←hR]at HM⊢
 clear hg hR hB1 ha hn
 go_enter Tryz.func34,Tryz.ntmps34
 go_wp2_with fail
 refine HG.out.mono ?_
 rintro e w2 ⟨v,rfl,hrep,hb⟩
 obtain⟨x0,x1,x2,xA,xp,xc,xK,xq,xd,rfl⟩:=hrep.form
 have HB2:=Lib.hid (HB1.out.trans (hb.mono HB1.out.size))
 have HPT:=Lib.hid hrep.parts
 clear hrep hb HG
 cases hgc:g with
 |none=>
  rw[hgc]at HM
  obtain rfl:R=(⟨#[]⟩,54):=HM.out
  clear HM hgc
  go_wp2_with(first
   |(refine zaK rfl (some 6) rfl _ rfl _ zcs ?_;intro g7 w3 hg7 hb7 hgr;have HB3:=Lib.hid (HB2.out.grown hgr HB2.out.size (by simp));have HG3:=Lib.hid hgr;have HG7:=Lib.hid hg7;clear hgr hg7;try go_frame)
   |(refine zaQ rfl none rfl _ (.tmp 6) (.tmp 12) rfl g7 0 [.int .i64 x0,.int .i64 x1,.string x2,.slice xA xp xc,.slice xK xq xd] rfl rfl _ _ hb7 (by simp[zeros5]) zaa (by intro v hv;simp at hv;rcases hv with rfl|rfl|rfl|rfl|rfl<;>rfl) ?_;intro w4 hb8 hgr;rw[zaW _ _ (by simp[zeros5])]at hb8;have HB8:=Lib.hid hb8;have HG4:=Lib.hid hgr;have HB4:=Lib.hid (HB3.out.grown hgr HB3.out.size (by intro k hk;injection hk with hk;have:=HG7.out;have:=HB2.out.size;omega));obtain⟨z0,z1,z2,z3,z4⟩:w4.cell? ⟨g7,0,none⟩=some (.int .i64 x0)∧w4.cell? ⟨g7,1,none⟩=some (.int .i64 x1)∧w4.cell? ⟨g7,2,none⟩=some (.string x2)∧w4.cell? ⟨g7,3,none⟩=some (.slice xA xp xc)∧w4.cell? ⟨g7,4,none⟩=some (.slice xK xq xd):=⟨hb8.cell 0,hb8.cell 1,hb8.cell 2,hb8.cell 3,hb8.cell 4⟩;clear hgr hb7 hb8;try go_frame))
  go_ret2
  exact⟨rfl,HB4.out⟩
 |some x=>
  rw[hgc]at HM HPT
  have hk0:x0=x.kind:=HPT.out.1
  by_cases hkd:x0=3
  ·obtain rfl:R=(x.s,0):=by rw[HM.out,show zgs (some x) 3=(x,0)from if_pos (by rw[←hk0];exact hkd)]
   have hk1:(x0==3)=true:=by rw[beq_iff_eq];exact hkd
   have HPX:Hid (x2=x.s):=Lib.hid HPT.out.2.2.1
   clear HM hgc hkd hk0 HPT
   go_wp2_with(first
    |(refine zaK rfl (some 6) rfl _ rfl _ zcs ?_;intro g7 w3 hg7 hb7 hgr;have HB3:=Lib.hid (HB2.out.grown hgr HB2.out.size (by simp));have HG3:=Lib.hid hgr;have HG7:=Lib.hid hg7;clear hgr hg7;try go_frame)
    |(refine zaQ rfl none rfl _ (.tmp 6) (.tmp 12) rfl g7 0 [.int .i64 x0,.int .i64 x1,.string x2,.slice xA xp xc,.slice xK xq xd] rfl rfl _ _ hb7 (by simp[zeros5]) zaa (by intro v hv;simp at hv;rcases hv with rfl|rfl|rfl|rfl|rfl<;>rfl) ?_;intro w4 hb8 hgr;rw[zaW _ _ (by simp[zeros5])]at hb8;have HB8:=Lib.hid hb8;have HG4:=Lib.hid hgr;have HB4:=Lib.hid (HB3.out.grown hgr HB3.out.size (by intro k hk;injection hk with hk;have:=HG7.out;have:=HB2.out.size;omega));obtain⟨z0,z1,z2,z3,z4⟩:w4.cell? ⟨g7,0,none⟩=some (.int .i64 x0)∧w4.cell? ⟨g7,1,none⟩=some (.int .i64 x1)∧w4.cell? ⟨g7,2,none⟩=some (.string x2)∧w4.cell? ⟨g7,3,none⟩=some (.slice xA xp xc)∧w4.cell? ⟨g7,4,none⟩=some (.slice xK xq xd):=⟨hb8.cell 0,hb8.cell 1,hb8.cell 2,hb8.cell 3,hb8.cell 4⟩;clear hgr hb7 hb8;try go_frame))
   go_ret2
   exact⟨by rw[←HPX.out];rfl,HB4.out⟩
  ·obtain rfl:R=(⟨#[]⟩,54):=by rw[HM.out,show zgs (some x) 3=(zeroJ,54)from if_neg (by rw[←hk0];exact hkd)];rfl
   have hk1:(x0==3)=false:=by rw[beq_eq_false_iff_ne];exact hkd
   clear HM hgc hkd hk0 HPT
   go_wp2_with(first
    |(refine zaK rfl (some 6) rfl _ rfl _ zcs ?_;intro g7 w3 hg7 hb7 hgr;have HB3:=Lib.hid (HB2.out.grown hgr HB2.out.size (by simp));have HG3:=Lib.hid hgr;have HG7:=Lib.hid hg7;clear hgr hg7;try go_frame)
    |(refine zaQ rfl none rfl _ (.tmp 6) (.tmp 12) rfl g7 0 [.int .i64 x0,.int .i64 x1,.string x2,.slice xA xp xc,.slice xK xq xd] rfl rfl _ _ hb7 (by simp[zeros5]) zaa (by intro v hv;simp at hv;rcases hv with rfl|rfl|rfl|rfl|rfl<;>rfl) ?_;intro w4 hb8 hgr;rw[zaW _ _ (by simp[zeros5])]at hb8;have HB8:=Lib.hid hb8;have HG4:=Lib.hid hgr;have HB4:=Lib.hid (HB3.out.grown hgr HB3.out.size (by intro k hk;injection hk with hk;have:=HG7.out;have:=HB2.out.size;omega));obtain⟨z0,z1,z2,z3,z4⟩:w4.cell? ⟨g7,0,none⟩=some (.int .i64 x0)∧w4.cell? ⟨g7,1,none⟩=some (.int .i64 x1)∧w4.cell? ⟨g7,2,none⟩=some (.string x2)∧w4.cell? ⟨g7,3,none⟩=some (.slice xA xp xc)∧w4.cell? ⟨g7,4,none⟩=some (.slice xK xq xd):=⟨hb8.cell 0,hb8.cell 1,hb8.cell 2,hb8.cell 3,hb8.cell 4⟩;clear hgr hb7 hb8;try go_frame))
   go_ret2
   exact⟨rfl,HB4.out⟩
theorem refIntC_any (j:J) (va:Value) (name:ByteArray) (W:World) (ha:RepJ W j va) (hn:name.size≤9223372036854775807):
  Calls Tryz.prog 37 #[va,.string name] W fun e w'=>e= .returned (.tuple #[.int .i64 (askI j name).1,.bool (decide ((askI j name).2=0))])∧Below W.heap.size W w':=by
 obtain⟨y0,y1,y2,yA,yp,yc,yK,yq,yd,rfl⟩:=ha.form
 have hB1:=zaf W (.cells #[.int .i64 y0,.int .i64 y1,.string y2,.slice yA yp yc,.slice yK yq yd] 27)
 have HG:=Lib.hid (zgK j _ name _ (RepJ.below hB1 _ _ ha) hn)
 have HB1:=Lib.hid hB1
 obtain⟨g,hg⟩: ∃g,g=getJ j name:=⟨_,rfl⟩
 have HM:Hid (askI j name=((zgs g 2).1.n,(zgs g 2).2)):=Lib.hid (by rw[hg];rfl)
 rw[←hg]at HG
 obtain⟨R,hR⟩: ∃R,R=askI j name:=⟨_,rfl⟩
 rw[←hR]at HM⊢
 clear hg hR hB1 ha hn
 go_enter Tryz.func37,Tryz.ntmps37
 go_wp2_with fail
 refine HG.out.mono ?_
 rintro e w2 ⟨v,rfl,hrep,hb⟩
 obtain⟨x0,x1,x2,xA,xp,xc,xK,xq,xd,rfl⟩:=hrep.form
 have HB2:=Lib.hid (HB1.out.trans (hb.mono HB1.out.size))
 have HPT:=Lib.hid hrep.parts
 clear hrep hb HG
 cases hgc:g with
 |none=>
  rw[hgc]at HM
  obtain rfl:R=(0,54):=HM.out
  clear HM hgc
  go_wp2_with(first
   |(refine zaK rfl (some 6) rfl _ rfl _ zcs ?_;intro g7 w3 hg7 hb7 hgr;have HB3:=Lib.hid (HB2.out.grown hgr HB2.out.size (by simp));have HG3:=Lib.hid hgr;have HG7:=Lib.hid hg7;clear hgr hg7;try go_frame)
   |(refine zaQ rfl none rfl _ (.tmp 6) (.tmp 12) rfl g7 0 [.int .i64 x0,.int .i64 x1,.string x2,.slice xA xp xc,.slice xK xq xd] rfl rfl _ _ hb7 (by simp[zeros5]) zaa (by intro v hv;simp at hv;rcases hv with rfl|rfl|rfl|rfl|rfl<;>rfl) ?_;intro w4 hb8 hgr;rw[zaW _ _ (by simp[zeros5])]at hb8;have HB8:=Lib.hid hb8;have HG4:=Lib.hid hgr;have HB4:=Lib.hid (HB3.out.grown hgr HB3.out.size (by intro k hk;injection hk with hk;have:=HG7.out;have:=HB2.out.size;omega));obtain⟨z0,z1,z2,z3,z4⟩:w4.cell? ⟨g7,0,none⟩=some (.int .i64 x0)∧w4.cell? ⟨g7,1,none⟩=some (.int .i64 x1)∧w4.cell? ⟨g7,2,none⟩=some (.string x2)∧w4.cell? ⟨g7,3,none⟩=some (.slice xA xp xc)∧w4.cell? ⟨g7,4,none⟩=some (.slice xK xq xd):=⟨hb8.cell 0,hb8.cell 1,hb8.cell 2,hb8.cell 3,hb8.cell 4⟩;clear hgr hb7 hb8;try go_frame))
  go_ret2
  exact⟨rfl,HB4.out⟩
 |some x=>
  rw[hgc]at HM HPT
  have hk0:x0=x.kind:=HPT.out.1
  by_cases hkd:x0=2
  ·obtain rfl:R=(x.n,0):=by rw[HM.out,show zgs (some x) 2=(x,0)from if_pos (by rw[←hk0];exact hkd)]
   have hk1:(x0==2)=true:=by rw[beq_iff_eq];exact hkd
   have HPX:Hid (x1=x.n):=Lib.hid HPT.out.2.1
   clear HM hgc hkd hk0 HPT
   go_wp2_with(first
    |(refine zaK rfl (some 6) rfl _ rfl _ zcs ?_;intro g7 w3 hg7 hb7 hgr;have HB3:=Lib.hid (HB2.out.grown hgr HB2.out.size (by simp));have HG3:=Lib.hid hgr;have HG7:=Lib.hid hg7;clear hgr hg7;try go_frame)
    |(refine zaQ rfl none rfl _ (.tmp 6) (.tmp 12) rfl g7 0 [.int .i64 x0,.int .i64 x1,.string x2,.slice xA xp xc,.slice xK xq xd] rfl rfl _ _ hb7 (by simp[zeros5]) zaa (by intro v hv;simp at hv;rcases hv with rfl|rfl|rfl|rfl|rfl<;>rfl) ?_;intro w4 hb8 hgr;rw[zaW _ _ (by simp[zeros5])]at hb8;have HB8:=Lib.hid hb8;have HG4:=Lib.hid hgr;have HB4:=Lib.hid (HB3.out.grown hgr HB3.out.size (by intro k hk;injection hk with hk;have:=HG7.out;have:=HB2.out.size;omega));obtain⟨z0,z1,z2,z3,z4⟩:w4.cell? ⟨g7,0,none⟩=some (.int .i64 x0)∧w4.cell? ⟨g7,1,none⟩=some (.int .i64 x1)∧w4.cell? ⟨g7,2,none⟩=some (.string x2)∧w4.cell? ⟨g7,3,none⟩=some (.slice xA xp xc)∧w4.cell? ⟨g7,4,none⟩=some (.slice xK xq xd):=⟨hb8.cell 0,hb8.cell 1,hb8.cell 2,hb8.cell 3,hb8.cell 4⟩;clear hgr hb7 hb8;try go_frame))
   go_ret2
   exact⟨by rw[←HPX.out];rfl,HB4.out⟩
  ·obtain rfl:R=(0,54):=by rw[HM.out,show zgs (some x) 2=(zeroJ,54)from if_neg (by rw[←hk0];exact hkd)];rfl
   have hk1:(x0==2)=false:=by rw[beq_eq_false_iff_ne];exact hkd
   clear HM hgc hkd hk0 HPT
   go_wp2_with(first
    |(refine zaK rfl (some 6) rfl _ rfl _ zcs ?_;intro g7 w3 hg7 hb7 hgr;have HB3:=Lib.hid (HB2.out.grown hgr HB2.out.size (by simp));have HG3:=Lib.hid hgr;have HG7:=Lib.hid hg7;clear hgr hg7;try go_frame)
    |(refine zaQ rfl none rfl _ (.tmp 6) (.tmp 12) rfl g7 0 [.int .i64 x0,.int .i64 x1,.string x2,.slice xA xp xc,.slice xK xq xd] rfl rfl _ _ hb7 (by simp[zeros5]) zaa (by intro v hv;simp at hv;rcases hv with rfl|rfl|rfl|rfl|rfl<;>rfl) ?_;intro w4 hb8 hgr;rw[zaW _ _ (by simp[zeros5])]at hb8;have HB8:=Lib.hid hb8;have HG4:=Lib.hid hgr;have HB4:=Lib.hid (HB3.out.grown hgr HB3.out.size (by intro k hk;injection hk with hk;have:=HG7.out;have:=HB2.out.size;omega));obtain⟨z0,z1,z2,z3,z4⟩:w4.cell? ⟨g7,0,none⟩=some (.int .i64 x0)∧w4.cell? ⟨g7,1,none⟩=some (.int .i64 x1)∧w4.cell? ⟨g7,2,none⟩=some (.string x2)∧w4.cell? ⟨g7,3,none⟩=some (.slice xA xp xc)∧w4.cell? ⟨g7,4,none⟩=some (.slice xK xq xd):=⟨hb8.cell 0,hb8.cell 1,hb8.cell 2,hb8.cell 3,hb8.cell 4⟩;clear hgr hb7 hb8;try go_frame))
   go_ret2
   exact⟨rfl,HB4.out⟩
end Go.Proofs.YtjfgmgkhinehaaaGreatDoor
