
import Derived.Test.YtjfgmgkhinehaaaGreatDoorCq17
set_option maxRecDepth 100000
set_option maxHeartbeats 16000000
set_option linter.all false
namespace Go.Proofs.YtjfgmgkhinehaaaGreatDoor
open Go Go.RowKit
def zeroTok:TokM:=⟨⟨#[]⟩,⟨#[]⟩,⟨#[]⟩,⟨#[]⟩,[],0,0⟩
end Go.Proofs.YtjfgmgkhinehaaaGreatDoor
