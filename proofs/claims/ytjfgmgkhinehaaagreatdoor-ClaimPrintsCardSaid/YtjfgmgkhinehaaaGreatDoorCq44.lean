
import Derived.Test.YtjfgmgkhinehaaaGreatDoorCq40
import Derived.Test.YtjfgmgkhinehaaaGreatDoorCq42
set_option maxRecDepth 100000
set_option maxHeartbeats 16000000
set_option linter.all false
namespace Go.Proofs.YtjfgmgkhinehaaaGreatDoor
open Go Go.RowKit
theorem qOne_by {c:Int} (h:0≤c∧c≤255):Bytes (qOne c):= .of_mem fun x hx=>by
 unfold qOne hexS at hx
 split at hx
 ·simp only[List.mem_cons,List.not_mem_nil,or_false]at hx
  rcases hx with rfl|rfl|rfl|rfl|rfl|rfl
  ·decide
  ·decide
  ·decide
  ·decide
  ·split<;>omega
  ·split<;>omega
 ·split at hx
  ·simp only[List.mem_cons,List.not_mem_nil,or_false]at hx
   rcases hx with rfl|rfl<;>omega
  ·rw[List.mem_singleton]at hx;omega
theorem qB_by: ∀xs:List Int,Bytes xs→Bytes (qB xs)
 |[],_=> .of_mem (by simp[qB])
 |c::r,h=>by
  rw[qB_cons]
  exact(qOne_by (h.mem (by simp))).append (qB_by r (.of_mem fun x hx=>h.mem (List.mem_cons_of_mem _ hx)))
theorem zkX (t:ByteArray):Bytes (zam (strL t)):=by
 rw[quoteL_is]
 have h:=qB_by _ (zcj t)
 exact .of_mem fun x hx=>by
  rcases List.mem_cons.1 hx with rfl|hx
  ·decide
  ·rcases List.mem_append.1 hx with hx|hx
   ·exact h.mem hx
   ·rw[List.mem_singleton]at hx;omega
theorem znu (o:Bool): ∀(ls:List J) (f:Bool) (k:List ByteArray),(∀x∈ls,Bytes (zbw x))→Bytes (zci o f ls k)
 |[],_,_,_=>by rw[zci];exact .of_mem (by simp)
 |x::r,f,k,h=>by
  rw[zci]
  have h1:Bytes (if f=true then[]else[44]):=by split<;>exact .of_mem (by simp)
  have h2:Bytes (if o=true then zam (strL (k.headD ⟨#[]⟩))++[58]else[]):=by
   split
   ·exact(zkX _).append (.of_mem (by simp))
   ·exact .of_mem (by simp)
  exact h1.append (h2.append ((h x (by simp)).append (znu o r false k.tail (fun y hy=>h y (List.mem_cons_of_mem _ hy)))))
theorem textL_by (j:J):Bytes (zbw j):=by
 induction j using J.ind with
 |h kind n s l k ih=>
  rw[zbw]
  split
  ·exact .of_mem (by decide)
  split
  ·split<;>exact .of_mem (by decide)
  split
  ·exact zkK n
  split
  ·exact zkX s
  split
  ·exact((Bytes.of_mem (by decide)).append (znu false l true k ih)).append (.of_mem (by decide))
  split
  ·exact((Bytes.of_mem (by decide)).append (znu true l true k ih)).append (.of_mem (by decide))
  ·exact .of_mem (by simp)
end Go.Proofs.YtjfgmgkhinehaaaGreatDoor
