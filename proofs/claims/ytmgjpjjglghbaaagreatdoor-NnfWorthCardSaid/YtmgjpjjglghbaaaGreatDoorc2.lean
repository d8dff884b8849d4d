import Derived.Test.YtmgjpjjglghbaaaGreatDoorc1
import Derived.Laws.AppendOwnNone
import Derived.Maps.AppendAt
import Derived.Deep.AppendLies
namespace Go.Proofs.YtmgjpjjglghbaaaGreatDoor
set_option maxHeartbeats 16000000
set_option maxRecDepth 100000
open Go.RowKit Go.Sort Go.Maps
def HvQ(u:Bool)(er:Value)(w:World)(e:Ending)(w':World):Prop:=e= .returned (.tuple #[.bool u,er])/\Below w.heap.size w w'
theorem holdsQ{W:World}{A B N:Option Addr}{n sc m lc nc:Nat}{s l:List Int}{x:Fo}{v:FV}{u:Bool}{er:Value}{S:Nat->Prop}(wm:WM W A B s l)(hn:s.length=n)(hm:l.length=m)(c1:CapOk A n sc)(c2:CapOk B m lc)(n6:n<=1000)(m6:m<=1000)(hN:SSl W N NMS)(hx:FS W 27 S x v.c)(ho:OkF x)(hz:x.size<=4096)(hu:u=hoV NMS s l x)(he:er=tuE NMS s l x):
 Calls Tryz.prog 20 #[.agg #[.string v.o,.string v.nm,.slice v.A v.ll v.cap,.int .i64 v.p],.slice N 3 nc,.agg #[.slice A n sc,.slice B m lc]] W (HvQ u er W):=by
 subst hn hm
 refine(holds_any (nms:=NMS) (nc:=nc) (v:=v) W hN wm c1 c2 (by decide) (by omega) (by omega) hx ho hz).mono ?_
 rintro e w1 ⟨rfl,hb⟩
 exact⟨by rw[hu,he],hb⟩
theorem ho_hv{s l:List Int}{x:Fo}(hr:wR NMS s l):hoV NMS s l x=hv NMS (wl s l) x:=by
 rw[Bool.eq_iff_iff]
 unfold hoV
 rw[@decide_eq_true_iff _ (Classical.propDecidable _)]
 exact⟨fun h=>h.2,fun h=>⟨hr,h⟩⟩
def erO(b:Bool):Value:=if b=true then .nilIface else .iface 78 (.int .i64 30)
theorem tu_er{s l:List Int}{x:Fo}(hr:wR NMS s l):tuE NMS s l x=erO (hdO NMS x):=by rw[tuE,if_pos hr];rfl
end Go.Proofs.YtmgjpjjglghbaaaGreatDoor
