
import Derived.Test.YtjfgmgkhinehaaaGreatDoorCq06
import Derived.Test.YtjfgmgkhinehaaaGreatDoorCq16
set_option maxRecDepth 100000
set_option maxHeartbeats 16000000
set_option linter.all false
namespace Go.Proofs.YtjfgmgkhinehaaaGreatDoor
open Go Go.RowKit
structure TokM where
 iss:ByteArray
 jti:ByteArray
 cid:ByteArray
 sub:ByteArray
 sc:List ByteArray
 iat:Int
 exp:Int
def visL (l:List Int):Bool:=decide (1≤l.length∧l.length≤64)&&l.all (fun x=>decide (33≤x∧x≤126))
def textsOk (t:TokM):Bool:=visL (strL t.iss)&&visL (strL t.jti)&&visL (strL t.cid)
def zjp (s:ByteArray):Bool:=decide (s.size=0)||zbh (strL s)
def zbu (a b:Int):Bool:=decide (0≤a∧a≤b∧b≤2199023255552)
def zcl (t:TokM):Bool:=textsOk t&&zjp t.sub&&zdc t.sc&&zbu t.iat t.exp
def askU (j:J) (n:ByteArray):ByteArray×Int:=if hasN j.k n=false then(⟨#[]⟩,0)else if(askT j n).2=0∧zbh (strL (askT j n).1)=false then(⟨#[]⟩,90)else askT j n
def askS (j:J) (n:ByteArray):List ByteArray×Int:=if(askT j n).2≠0 then([],54)else if okW (zcy (askT j n).1)=true then(zcY (askT j n).1,0)else([],90)
def nIss:ByteArray:=⟨#[105,115,115]⟩
def nJti:ByteArray:=⟨#[106,116,105]⟩
def nCid:ByteArray:=⟨#[99,108,105,101,110,116,95,105,100]⟩
def nSub:ByteArray:=⟨#[115,117,98]⟩
def nScope:ByteArray:=⟨#[115,99,111,112,101]⟩
def nIat:ByteArray:=⟨#[105,97,116]⟩
def nExp:ByteArray:=⟨#[101,120,112]⟩
def allNames:List ByteArray:=[nCid,nExp,nIat,nIss,nJti,nScope,nSub]
def zbs (j:J):Option TokM:=
 if(askT j nIss).2=0∧(askT j nJti).2=0∧(askT j nCid).2=0∧(askU j nSub).2=0∧(askS j nScope).2=0∧(askI j nIat).2=0∧(askI j nExp).2=0∧j.k.all (hasN allNames)=true then
  some ⟨(askT j nIss).1,(askT j nJti).1,(askT j nCid).1,(askU j nSub).1,(askS j nScope).1,(askI j nIat).1,(askI j nExp).1⟩else none
def readT (p:J×Int×Int):Option TokM:=if p.2.1≠0 then none else match zbs p.1 with|some t=>if zcl t=true then some t else none|none=>none
end Go.Proofs.YtjfgmgkhinehaaaGreatDoor
