import Derived.Test.YtmgjpjjglghbaaaGreatDoora6
import Derived.Test.YtmgjpjjglghbaaaGreatDoora2
namespace Go.Proofs.YtmgjpjjglghbaaaGreatDoor
set_option maxHeartbeats 16000000
set_option maxRecDepth 100000
section
def key(t:Tok):Nat×List UInt8:=(t.kind,t.text)
end
section
abbrev Key:=Nat×List UInt8
end
end Go.Proofs.YtmgjpjjglghbaaaGreatDoor
