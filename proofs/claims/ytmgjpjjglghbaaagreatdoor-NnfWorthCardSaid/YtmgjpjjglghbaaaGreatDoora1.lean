import Derived.Test.YtmgjpjjglghbaaaGreatDoora0
namespace Go.Proofs.YtmgjpjjglghbaaaGreatDoor
set_option maxHeartbeats 16000000
set_option maxRecDepth 100000
section
open Go.RowKit
structure AtE(w:World)(b:Nat)(p n:Int):Prop where
 pos:w.cell? ⟨b,0,none⟩=some (.int .i64 p)
 err:w.cell? ⟨b,1,none⟩=some (.iface 78 (.int .i64 n))
 typ:∃cs,w.heap[b]?=some (.cells cs 192 (0,0))
theorem AtE.lt{w:World}{b:Nat}{p n:Int}(h:AtE w b p n):b<w.heap.size:=World.block_lt_of_cell? w _ h.pos
theorem AtE.below{w w':World}{b:Nat}{p n:Int}(h:AtE w b p n)(hb:Below w.heap.size w w'):AtE w' b p n:=
 ⟨(hb.cell (p:=⟨b,0,none⟩) h.lt).trans h.pos,(hb.cell (p:=⟨b,1,none⟩) h.lt).trans h.err,h.typ.imp fun _ q=>(hb.block b h.lt).trans q⟩
end
end Go.Proofs.YtmgjpjjglghbaaaGreatDoor
