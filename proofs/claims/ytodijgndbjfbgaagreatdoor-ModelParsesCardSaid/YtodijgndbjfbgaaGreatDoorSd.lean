import Derived.Test.YtodijgndbjfbgaaGreatDoorSb
import Derived.Test.YtodijgndbjfbgaaGreatDoorSa
import Derived.Test.YtodijgndbjfbgaaGreatDoorH1
import Derived.Test.YtodijgndbjfbgaaGreatDoorSc
import Derived.RegionTactic
import Derived.BigRegion
namespace Go.Proofs.YtodijgndbjfbgaaGreatDoor
set_option maxHeartbeats 16000000
set_option maxRecDepth 100000
section
section
open Go.RowKit
structure B0(w:World):Prop where
 glob:Ll w
 rng:∃te pe,w.cell? ⟨3,0,none⟩=some (.iface te pe)
theorem B0.below{w w':World}(h:B0 w)(hb:Below w.heap.size w w'):B0 w':=
 ⟨h.glob.below hb,by
   obtain⟨c,b,a⟩:=h.rng
   exact⟨c,b,(hb.cell (p:=⟨3,0,none⟩) (World.block_lt_of_cell? w _ a)).trans a⟩⟩
def Ji(l:List UInt8):Value:=if AX l<9223372036854775808 then .tuple #[.int .i64 (AX l),.nilIface]else .tuple #[.int .i64 0,.iface 61 (.int .i64 10)]
def YL(l:List UInt8)(w:World)(e:Ending)(w':World):Prop:=e= .returned (Ji l)/\Below w.heap.size w w'
theorem JU(s:ByteArray)(w:World)(hG:B0 w)(hs:s.size<=65536)(h0:s.data.toList≠[])(hd:∀c∈s.data.toList,AD c=true):
 Calls Tryz.prog 72 #[.string s] w (YL s.data.toList w):=by
 have a:=Kl s.data.toList h0 hd;by_cases b:AX s.data.toList<9223372036854775808
 · rw[if_pos b]at a;have d:=zz (show Ji s.data.toList= .tuple #[.int .i64 (AX s.data.toList),.nilIface] by unfold Ji;rw[if_pos b]);have H:=zz (Tryz.strconv_ParseInt_10_at64_ok s (by omega) _ a w);clear a b hd h0;generalize((AX s.data.toList:Nat):Int)=v at*;go_enter Tryz.func72,Tryz.ntmps72;go_wp2_with fail;(with_reducible refine(H.out).mono ?_);rintro e i ⟨rfl,h⟩
   have f:Below w.heap.size w i:=by
    rcases h with rfl | ⟨t,rfl⟩
    · exact Below.refl _ _
    · exact Lib.bytesWorld_below w _ t
   clear h;go_wp2;go_ret2;exact⟨by rw[d.out];rfl,f⟩
 · rw[if_neg b]at a;have d:=zz (show Ji s.data.toList= .tuple #[.int .i64 0,.iface 61 (.int .i64 10)] by unfold Ji;rw[if_neg b]);obtain⟨k,j,g⟩:=hG.rng;have H:=zz (Tryz.strconv_ParseInt_10_at64_range s (by omega) a _ w g (.inr ⟨k,j,rfl⟩));clear a b hd h0 g;go_enter Tryz.func72,Tryz.ntmps72;go_wp2_with fail;(with_reducible refine(H.out).mono ?_);rintro e i ⟨N,rfl,_,_,f⟩
   go_wp2;go_ret2;exact⟨by rw[d.out];rfl,f⟩
theorem Ob(s:ByteArray)(w:World)(hs:s.size<=65536):Calls Tryz.prog 40 #[.string s] w fun e w'=>e= .returned (.string s)/\Below w.heap.size w w':=by
 have H:=zz (Tryz.stringslite_Clone s w (by omega));go_enter Tryz.func40,Tryz.ntmps40;go_wp2_with fail;(with_reducible refine(H.out).mono ?_);rintro e w' ⟨rfl,a⟩
 go_wp2;go_ret;exact⟨rfl,a⟩
def Mw(r:List UInt8):Value:=if Cw r=0 then .tuple #[.int .i64 0,.iface 61 (.int .i64 20)]else .tuple #[.int .i64 (Cw r),.nilIface]
def YX(r:List UInt8)(w:World)(e:Ending)(w':World):Prop:=e= .returned (Mw r)/\w=w'
theorem Pf(s:ByteArray)(w:World)(hs:s.size<=65536)(h0:0<s.size):Calls Tryz.prog 73 #[.string s] w (YX (s.data.toList.drop 1) w):=by
 have n:=zz (AU s);have HC:=zz (Ph (s.extract 1 s.size) w (by simp only[ByteArray.size_extract];omega));rw[Gx]at HC;have q:=Cx AK (s.data.toList.drop 1);rw[List.length_drop,n.out]at q;have t:(s.data.toList.drop 1)[cnt AK (s.data.toList.drop 1)]?=s.data.toList[1+cnt AK (s.data.toList.drop 1)]?:=(by rw[List.getElem?_drop]);have c:Cw (s.data.toList.drop 1)=if cnt AK (s.data.toList.drop 1)=0∨32<cnt AK (s.data.toList.drop 1)∨((s.data.toList.drop 1)[cnt AK (s.data.toList.drop 1)]?).map (·.toNat)≠some 34 then 0 else cnt AK (s.data.toList.drop 1)+2:=rfl;have a:Cw (s.data.toList.drop 1)=0->Mw (s.data.toList.drop 1)= .tuple #[.int .i64 0,.iface 61 (.int .i64 20)]:=fun h=>(by unfold Mw;rw[if_pos h]);have b:Cw (s.data.toList.drop 1)≠0->Mw (s.data.toList.drop 1)= .tuple #[.int .i64 (Cw (s.data.toList.drop 1)),.nilIface]:=fun h=>(by unfold Mw;rw[if_neg h]);rw[t]at c;clear t;generalize cnt AK (s.data.toList.drop 1)=m at*;generalize s.data.toList.drop 1=r at*;by_cases g:m=0
 · have f:=zz (a (by rw[c,if_pos (.inl g)]));clear c a b;subst g;go_enter Tryz.func73,Tryz.ntmps73;go_wp2_with fail;(with_reducible refine(HC.out).mono ?_);rintro e l ⟨rfl,rfl⟩
   go_wp2;go_ret2;exact⟨by rw[f.out];rfl,rfl⟩
 have z:((m:Int)==0)=false:=(by simp;omega);by_cases i:32<m
 · have f:=zz (a (by rw[c,if_pos (.inr (.inl i))]));have v:decide (32<(m:Int))=true:=(by simp;omega);clear c a b g;go_enter Tryz.func73,Tryz.ntmps73;go_wp2_with fail;(with_reducible refine(HC.out).mono ?_);rintro e l ⟨rfl,rfl⟩
   go_wp2;go_ret2;exact⟨by rw[f.out];rfl,rfl⟩
 have v:decide (32<(m:Int))=false:=(by simp;omega);by_cases o:1+m=s.size
 · have f:=zz (a (by rw[c,if_pos (.inr (.inr (by rw[List.getElem?_eq_none (by rw[n.out];omega)];simp)))]));have x:(1+(m:Int)==(s.size:Int))=true:=(by simp;omega);clear c a b g i o;go_enter Tryz.func73,Tryz.ntmps73;go_wp2_with fail;(with_reducible refine(HC.out).mono ?_);rintro e l ⟨rfl,rfl⟩
   go_wp2;go_ret2;exact⟨by rw[f.out];rfl,rfl⟩
 have x:(1+(m:Int)==(s.size:Int))=false:=(by simp;omega);have d:1+m<s.size:=(by omega);have p:s.data.toList[1+m]?=some (s[1+m]'d):=(by rw[List.getElem?_eq_getElem (by rw[n.out];exact d)];rfl);rw[p]at c;by_cases j:(s[1+m]'d).toNat=34
 · have k:Cw r=m+2:=(by rw[c,if_neg];simp[g,i,j]);have f:=zz (b (by omega));have u:=zz k;have y:(((s[1+m]'d).toNat:Int) != 34)=false:=(by rw[j];rfl);clear c a b g i o j p k;go_enter Tryz.func73,Tryz.ntmps73;go_wp2_with fail;(with_reducible refine(HC.out).mono ?_);rintro e l ⟨rfl,rfl⟩
   go_wp2;go_ret2;exact⟨by rw[f.out];rw[u.out];exact congrArg Ending.returned (congrArg Value.tuple (by congr 2;go_num)),rfl⟩
 · have f:=zz (a (by rw[c,if_pos (.inr (.inr (by simp[j])))]));have y:(((s[1+m]'d).toNat:Int) != 34)=true:=(by simp;omega);clear c a b g i o j p;go_enter Tryz.func73,Tryz.ntmps73;go_wp2_with fail;(with_reducible refine(HC.out).mono ?_);rintro e l ⟨rfl,rfl⟩
   go_wp2;go_ret2;exact⟨by rw[f.out];rfl,rfl⟩
end
section
open Go.RowKit
def Kq(l:List UInt8):Value:=if Al l=0 then .tuple #[.int .i64 0,.iface 61 (.int .i64 20)]else .tuple #[.int .i64 (Al l),.nilIface]
def YO(l:List UInt8)(w:World)(e:Ending)(w':World):Prop:=e= .returned (Kq l)/\w=w'
theorem Hk(l:List UInt8):IN l=(l.take 2==[45,62] || l.take 2==[60,61] || l.take 2==[62,61] || l.take 2==[33,61] || l.take 2==[61,62] || l.take 2==[46,46]):=by
 match l with
 | []=>rfl
 | [a]=>simp[IN]
 | a::b::r=>have e:∀p q:UInt8,((a::b::r).take 2==[p,q])=(a.toNat==p.toNat&&b.toNat==q.toNat):=(by intro p q;rw[Bool.eq_iff_iff];simp[UInt8.toNat_inj]);simp only[e];rfl
theorem F9{l:List UInt8}(h:IN l=true):Kq l= .tuple #[.int .i64 2,.nilIface]:=by
 cases l with
 | nil=>cases h
 | cons c r=>have e:Al (c::r)=2:=(by simp[Al,h]);unfold Kq;rw[e];rfl
theorem Bq{c:UInt8}{r:List UInt8}(h:IN (c::r)=false)(h1:DU c=true):Kq (c::r)= .tuple #[.int .i64 1,.nilIface]:=by have e:Al (c::r)=1:=(by simp[Al,h,h1]);unfold Kq;rw[e];rfl
theorem Qb{c:UInt8}{r:List UInt8}(h:IN (c::r)=false)(h1:DU c=false):Kq (c::r)= .tuple #[.int .i64 0,.iface 61 (.int .i64 20)]:=by have e:Al (c::r)=0:=(by simp[Al,h,h1]);unfold Kq;rw[e];rfl
theorem A9{c:UInt8}{n:Nat}(h:¬c.toNat=n):(((c.toNat:Nat):Int)==(n:Int))=false:=by rw[beq_eq_false_iff_ne];omega
theorem QF(s:ByteArray)(w:World)(hs:s.size<=65536)(h0:0<s.size):Calls Tryz.prog 74 #[.string s] w (YO s.data.toList w):=by
 have Q:(s.extract 0 (min 2 (s.size:Int)).toNat).toList=s.data.toList.take 2:=by
  rw[ByteArray.toList_eq,Bv,List.drop_zero,Nat.sub_zero];by_cases h:2<=s.size
  · have e:(min 2 (s.size:Int)).toNat=2:=(by omega);rw[e]
  · have e:(min 2 (s.size:Int)).toNat=s.size:=(by omega);rw[e,List.take_of_length_le (by simp),List.take_of_length_le (by simp;omega)]
 have d:=Hk s.data.toList;rw[<- Q]at d;have b:s.data.toList=(s[0]'(by omega))::s.data.toList.drop 1:=Ae s.data.toList 0 (by simp;omega);clear Q;by_cases C:((s.extract 0 (min 2 (s.size:Int)).toNat).toList==[45,62])=true
 · have a:=zz (F9 (l:=s.data.toList) (by rw[d];simp[C]));clear d b;go_enter Tryz.func74,Tryz.ntmps74;go_wp2;go_ret2;exact⟨by rw[a.out];rfl,rfl⟩
 replace C:((s.extract 0 (min 2 (s.size:Int)).toNat).toList==[45,62])=false:=(by simpa using C);by_cases D:((s.extract 0 (min 2 (s.size:Int)).toNat).toList==[60,61])=true
 · have a:=zz (F9 (l:=s.data.toList) (by rw[d];simp[D]));clear d b;go_enter Tryz.func74,Tryz.ntmps74;go_wp2;go_ret2;exact⟨by rw[a.out];rfl,rfl⟩
 replace D:((s.extract 0 (min 2 (s.size:Int)).toNat).toList==[60,61])=false:=(by simpa using D);by_cases E:((s.extract 0 (min 2 (s.size:Int)).toNat).toList==[62,61])=true
 · have a:=zz (F9 (l:=s.data.toList) (by rw[d];simp[E]));clear d b;go_enter Tryz.func74,Tryz.ntmps74;go_wp2;go_ret2;exact⟨by rw[a.out];rfl,rfl⟩
 replace E:((s.extract 0 (min 2 (s.size:Int)).toNat).toList==[62,61])=false:=(by simpa using E);by_cases F:((s.extract 0 (min 2 (s.size:Int)).toNat).toList==[33,61])=true
 · have a:=zz (F9 (l:=s.data.toList) (by rw[d];simp[F]));clear d b;go_enter Tryz.func74,Tryz.ntmps74;go_wp2;go_ret2;exact⟨by rw[a.out];rfl,rfl⟩
 replace F:((s.extract 0 (min 2 (s.size:Int)).toNat).toList==[33,61])=false:=(by simpa using F);by_cases G:((s.extract 0 (min 2 (s.size:Int)).toNat).toList==[61,62])=true
 · have a:=zz (F9 (l:=s.data.toList) (by rw[d];simp[G]));clear d b;go_enter Tryz.func74,Tryz.ntmps74;go_wp2;go_ret2;exact⟨by rw[a.out];rfl,rfl⟩
 replace G:((s.extract 0 (min 2 (s.size:Int)).toNat).toList==[61,62])=false:=(by simpa using G);by_cases H:((s.extract 0 (min 2 (s.size:Int)).toNat).toList==[46,46])=true
 · have a:=zz (F9 (l:=s.data.toList) (by rw[d];simp[H]));clear d b;go_enter Tryz.func74,Tryz.ntmps74;go_wp2;go_ret2;exact⟨by rw[a.out];rfl,rfl⟩
 replace H:((s.extract 0 (min 2 (s.size:Int)).toNat).toList==[46,46])=false:=(by simpa using H);have c:IN s.data.toList=false:=(by rw[d,C,D,E,F,G,H];rfl);clear d;rw[b]at c;have f:=zz b;clear b;by_cases q:(s[0]'(by omega)).toNat=91
 · have a:=zz (Bq c (by simp[DU,q]));have R:((((s[0]'(by omega))).toNat:Int)==91)=true:=(by rw[q];rfl);clear q c;go_enter Tryz.func74,Tryz.ntmps74;go_wp2;go_ret2;exact⟨by rw[f.out,a.out];rfl,rfl⟩
 have R:((((s[0]'(by omega))).toNat:Int)==91)=false:=A9 q;by_cases r:(s[0]'(by omega)).toNat=93
 · have a:=zz (Bq c (by simp[DU,r]));have S:((((s[0]'(by omega))).toNat:Int)==93)=true:=(by rw[r];rfl);clear r c;go_enter Tryz.func74,Tryz.ntmps74;go_wp2;go_ret2;exact⟨by rw[f.out,a.out];rfl,rfl⟩
 have S:((((s[0]'(by omega))).toNat:Int)==93)=false:=A9 r;by_cases t:(s[0]'(by omega)).toNat=40
 · have a:=zz (Bq c (by simp[DU,t]));have T:((((s[0]'(by omega))).toNat:Int)==40)=true:=(by rw[t];rfl);clear t c;go_enter Tryz.func74,Tryz.ntmps74;go_wp2;go_ret2;exact⟨by rw[f.out,a.out];rfl,rfl⟩
 have T:((((s[0]'(by omega))).toNat:Int)==40)=false:=A9 t;by_cases u:(s[0]'(by omega)).toNat=41
 · have a:=zz (Bq c (by simp[DU,u]));have U:((((s[0]'(by omega))).toNat:Int)==41)=true:=(by rw[u];rfl);clear u c;go_enter Tryz.func74,Tryz.ntmps74;go_wp2;go_ret2;exact⟨by rw[f.out,a.out];rfl,rfl⟩
 have U:((((s[0]'(by omega))).toNat:Int)==41)=false:=A9 u;by_cases v:(s[0]'(by omega)).toNat=58
 · have a:=zz (Bq c (by simp[DU,v]));have V:((((s[0]'(by omega))).toNat:Int)==58)=true:=(by rw[v];rfl);clear v c;go_enter Tryz.func74,Tryz.ntmps74;go_wp2;go_ret2;exact⟨by rw[f.out,a.out];rfl,rfl⟩
 have V:((((s[0]'(by omega))).toNat:Int)==58)=false:=A9 v;by_cases x:(s[0]'(by omega)).toNat=59
 · have a:=zz (Bq c (by simp[DU,x]));have W:((((s[0]'(by omega))).toNat:Int)==59)=true:=(by rw[x];rfl);clear x c;go_enter Tryz.func74,Tryz.ntmps74;go_wp2;go_ret2;exact⟨by rw[f.out,a.out];rfl,rfl⟩
 have W:((((s[0]'(by omega))).toNat:Int)==59)=false:=A9 x;by_cases y:(s[0]'(by omega)).toNat=44
 · have a:=zz (Bq c (by simp[DU,y]));have X:((((s[0]'(by omega))).toNat:Int)==44)=true:=(by rw[y];rfl);clear y c;go_enter Tryz.func74,Tryz.ntmps74;go_wp2;go_ret2;exact⟨by rw[f.out,a.out];rfl,rfl⟩
 have X:((((s[0]'(by omega))).toNat:Int)==44)=false:=A9 y;by_cases z:(s[0]'(by omega)).toNat=43
 · have a:=zz (Bq c (by simp[DU,z]));have Y:((((s[0]'(by omega))).toNat:Int)==43)=true:=(by rw[z];rfl);clear z c;go_enter Tryz.func74,Tryz.ntmps74;go_wp2;go_ret2;exact⟨by rw[f.out,a.out];rfl,rfl⟩
 have Y:((((s[0]'(by omega))).toNat:Int)==43)=false:=A9 z;by_cases A:(s[0]'(by omega)).toNat=45
 · have a:=zz (Bq c (by simp[DU,A]));have Z:((((s[0]'(by omega))).toNat:Int)==45)=true:=(by rw[A];rfl);clear A c;go_enter Tryz.func74,Tryz.ntmps74;go_wp2;go_ret2;exact⟨by rw[f.out,a.out];rfl,rfl⟩
 have Z:((((s[0]'(by omega))).toNat:Int)==45)=false:=A9 A;by_cases B:(s[0]'(by omega)).toNat=42
 · have a:=zz (Bq c (by simp[DU,B]));have k9:((((s[0]'(by omega))).toNat:Int)==42)=true:=(by rw[B];rfl);clear B c;go_enter Tryz.func74,Tryz.ntmps74;go_wp2;go_ret2;exact⟨by rw[f.out,a.out];rfl,rfl⟩
 have k9:((((s[0]'(by omega))).toNat:Int)==42)=false:=A9 B;by_cases g:(s[0]'(by omega)).toNat=38
 · have a:=zz (Bq c (by simp[DU,g]));have I:((((s[0]'(by omega))).toNat:Int)==38)=true:=(by rw[g];rfl);clear g c;go_enter Tryz.func74,Tryz.ntmps74;go_wp2;go_ret2;exact⟨by rw[f.out,a.out];rfl,rfl⟩
 have I:((((s[0]'(by omega))).toNat:Int)==38)=false:=A9 g;by_cases i:(s[0]'(by omega)).toNat=124
 · have a:=zz (Bq c (by simp[DU,i]));have J:((((s[0]'(by omega))).toNat:Int)==124)=true:=(by rw[i];rfl);clear i c;go_enter Tryz.func74,Tryz.ntmps74;go_wp2;go_ret2;exact⟨by rw[f.out,a.out];rfl,rfl⟩
 have J:((((s[0]'(by omega))).toNat:Int)==124)=false:=A9 i;by_cases j:(s[0]'(by omega)).toNat=33
 · have a:=zz (Bq c (by simp[DU,j]));have K:((((s[0]'(by omega))).toNat:Int)==33)=true:=(by rw[j];rfl);clear j c;go_enter Tryz.func74,Tryz.ntmps74;go_wp2;go_ret2;exact⟨by rw[f.out,a.out];rfl,rfl⟩
 have K:((((s[0]'(by omega))).toNat:Int)==33)=false:=A9 j;by_cases k:(s[0]'(by omega)).toNat=61
 · have a:=zz (Bq c (by simp[DU,k]));have L:((((s[0]'(by omega))).toNat:Int)==61)=true:=(by rw[k];rfl);clear k c;go_enter Tryz.func74,Tryz.ntmps74;go_wp2;go_ret2;exact⟨by rw[f.out,a.out];rfl,rfl⟩
 have L:((((s[0]'(by omega))).toNat:Int)==61)=false:=A9 k;by_cases m:(s[0]'(by omega)).toNat=60
 · have a:=zz (Bq c (by simp[DU,m]));have M:((((s[0]'(by omega))).toNat:Int)==60)=true:=(by rw[m];rfl);clear m c;go_enter Tryz.func74,Tryz.ntmps74;go_wp2;go_ret2;exact⟨by rw[f.out,a.out];rfl,rfl⟩
 have M:((((s[0]'(by omega))).toNat:Int)==60)=false:=A9 m;by_cases n:(s[0]'(by omega)).toNat=62
 · have a:=zz (Bq c (by simp[DU,n]));have N:((((s[0]'(by omega))).toNat:Int)==62)=true:=(by rw[n];rfl);clear n c;go_enter Tryz.func74,Tryz.ntmps74;go_wp2;go_ret2;exact⟨by rw[f.out,a.out];rfl,rfl⟩
 have N:((((s[0]'(by omega))).toNat:Int)==62)=false:=A9 n;by_cases o:(s[0]'(by omega)).toNat=63
 · have a:=zz (Bq c (by simp[DU,o]));have O:((((s[0]'(by omega))).toNat:Int)==63)=true:=(by rw[o];rfl);clear o c;go_enter Tryz.func74,Tryz.ntmps74;go_wp2;go_ret2;exact⟨by rw[f.out,a.out];rfl,rfl⟩
 have O:((((s[0]'(by omega))).toNat:Int)==63)=false:=A9 o;by_cases p:(s[0]'(by omega)).toNat=39
 · have a:=zz (Bq c (by simp[DU,p]));have P:((((s[0]'(by omega))).toNat:Int)==39)=true:=(by rw[p];rfl);clear p c;go_enter Tryz.func74,Tryz.ntmps74;go_wp2;go_ret2;exact⟨by rw[f.out,a.out];rfl,rfl⟩
 have P:((((s[0]'(by omega))).toNat:Int)==39)=false:=A9 p;have a:=zz (Qb c (by simp[DU,q,r,t,u,v,x,y,z,A,B,g,i,j,k,m,n,o,p]));clear q r t u v x y z A B g i j k m n o p c;go_enter Tryz.func74,Tryz.ntmps74;go_wp2;go_ret2;exact⟨by rw[f.out,a.out];rfl,rfl⟩
end
section
open Go.RowKit
def Pm(e:Nat):Value:=if e=0 then .nilIface else .iface 61 (.int .i64 e)
def GO(l:List UInt8):Value:=.tuple #[.int .i64 (AO l).1,.int .i64 (AO l).2.1,Pm (AO l).2.2]
def VK(l:List UInt8)(w:World)(e:Ending)(w':World):Prop:=e= .returned (GO l)/\Below w.heap.size w w'
theorem LF{c:UInt8}{r:List UInt8}(h:AD c=true):GO (c::r)= .tuple #[.int .i64 2,.int .i64 (cnt AD (c::r)),Pm (if AX ((c::r).takeWhile AD)<9223372036854775808 then 0 else 10)]:=by have e:AO (c::r)=(2,cnt AD (c::r),if AX ((c::r).takeWhile AD)<9223372036854775808 then 0 else 10):=(by simp only[AO];rw[if_pos h]);unfold GO;rw[e];rfl
theorem KT{c:UInt8}{r:List UInt8}(hd:AD c=false)(h:AZ c=true):GO (c::r)= .tuple #[.int .i64 1,.int .i64 (cnt Aw (c::r)),.nilIface]:=by have e:AO (c::r)=(1,cnt Aw (c::r),0):=(by simp only[AO];rw[if_neg (by simp[hd]),if_pos h]);unfold GO;rw[e];rfl
theorem LY{c:UInt8}{r:List UInt8}(h:CD c=true):GO (c::r)= .tuple #[.int .i64 3,.int .i64 (Cw r),Pm (if Cw r=0 then 20 else 0)]:=by obtain⟨hd,a⟩:=Ft h;have e:AO (c::r)=(3,Cw r,if Cw r=0 then 20 else 0):=(by simp only[AO];rw[if_neg (by simp[hd]),if_neg (by simp[a]),if_pos h]);unfold GO;rw[e];rfl
theorem Na{c:UInt8}{r:List UInt8}(hd:AD c=false)(hl:AZ c=false)(h:CD c=false):GO (c::r)= .tuple #[.int .i64 4,.int .i64 (Al (c::r)),Pm (if Al (c::r)=0 then 20 else 0)]:=by have e:AO (c::r)=(4,Al (c::r),if Al (c::r)=0 then 20 else 0):=(by simp only[AO];rw[if_neg (by simp[hd]),if_neg (by simp[hl]),if_neg (by simp[h])]);unfold GO;rw[e];rfl
theorem S6(r:List UInt8):Mw r= .tuple #[.int .i64 (Cw r),Pm (if Cw r=0 then 20 else 0)]:=by
 unfold Mw Pm;by_cases h:Cw r=0
 · rw[if_pos h,if_pos h,if_neg (by omega),h];rfl
 · rw[if_neg h,if_neg h,if_pos rfl]
theorem Th(l:List UInt8):Kq l= .tuple #[.int .i64 (Al l),Pm (if Al l=0 then 20 else 0)]:=by
 unfold Kq Pm;by_cases h:Al l=0
 · rw[if_pos h,if_pos h,if_neg (by omega),h];rfl
 · rw[if_neg h,if_neg h,if_pos rfl]
theorem TE(l:List UInt8):∃v:Int,Ji l= .tuple #[.int .i64 v,Pm (if AX l<9223372036854775808 then 0 else 10)]:=by
 unfold Ji Pm;by_cases h:AX l<9223372036854775808
 · exact⟨AX l,by rw[if_pos h,if_pos h,if_pos rfl]⟩
 · exact⟨0,by rw[if_neg h,if_neg h,if_neg (by omega)];rfl⟩
theorem L5(s:ByteArray)(w:World)(hG:B0 w)(hs:s.size<=65536)(h0:0<s.size):Calls Tryz.prog 42 #[.string s] w (VK s.data.toList w):=by
 have l:=zz (GT ((s[0]'h0).toNat:Int) w);have a:s.data.toList=(s[0]'h0)::s.data.toList.drop 1:=Ae s.data.toList 0 (by simp;omega);by_cases hd:AD (s[0]'h0)=true
 · have h:=zz (Ge hd);have b:=LF (r:=s.data.toList.drop 1) hd;rw[<- a]at b;have HC:=zz (Mc s w hs);have p:=Cx AD s.data.toList;rw[AU]at p;have n:(s.extract 0 (cnt AD s.data.toList)).data.toList=s.data.toList.takeWhile AD:=(by rw[Bv,List.drop_zero,Nat.sub_zero,Em]);have k:(s.extract 0 (cnt AD s.data.toList)).data.toList≠[]:=(by rw[n,a,List.takeWhile_cons,if_pos hd];simp);have q:=zz (JU (s.extract 0 (cnt AD s.data.toList)) w hG (by simp only[ByteArray.size_extract];omega) k (by rw[n];exact FE _));rw[n]at q;obtain⟨v,t⟩:=TE (s.data.toList.takeWhile AD);have u:=zz t;have g:=zz b;clear t b n k hd a hG;generalize cnt AD s.data.toList=m at*;generalize(if AX (s.data.toList.takeWhile AD)<9223372036854775808 then 0 else 10)=er at*;go_enter Tryz.func42,Tryz.ntmps42;go_wp2_with fail;(with_reducible refine(l.out).mono ?_);rintro e f ⟨rfl,rfl⟩
   rw[h.out];go_wp2_with fail;(with_reducible refine(HC.out).mono ?_);rintro e f ⟨rfl,rfl⟩
   go_wp2_with fail;(with_reducible refine(q.out).mono ?_);rintro e f ⟨rfl,x⟩
   rw[u.out];go_wp2;go_ret3;exact⟨by rw[g.out];rfl,x⟩
 have c:AD (s[0]'h0)=false:=(by simpa using hd);by_cases i:AZ (s[0]'h0)=true
 · have h:=zz (Fw i);have b:=KT (r:=s.data.toList.drop 1) c i;rw[<- a]at b;have HC:=zz (Nb s w hs);have g:=zz b;clear b hd c i a hG;generalize cnt Aw s.data.toList=m at*;go_enter Tryz.func42,Tryz.ntmps42;go_wp2_with fail;(with_reducible refine(l.out).mono ?_);rintro e f ⟨rfl,rfl⟩
   rw[h.out];go_wp2_with fail;(with_reducible refine(HC.out).mono ?_);rintro e f ⟨rfl,rfl⟩
   go_wp2;go_ret3;exact⟨by rw[g.out];rfl,Below.refl _ _⟩
 have d:AZ (s[0]'h0)=false:=(by simpa using i);by_cases j:CD (s[0]'h0)=true
 · have h:=zz (GV j);have b:=LY (r:=s.data.toList.drop 1) j;rw[<- a]at b;have HC:=zz (Pf s w hs h0);have o:=zz (S6 (s.data.toList.drop 1));have g:=zz b;clear b hd c i d j a hG;generalize s.data.toList.drop 1=r at*;generalize(if Cw r=0 then 20 else 0)=er at*;go_enter Tryz.func42,Tryz.ntmps42;go_wp2_with fail;(with_reducible refine(l.out).mono ?_);rintro e f ⟨rfl,rfl⟩
   rw[h.out];go_wp2_with fail;(with_reducible refine(HC.out).mono ?_);rintro e f ⟨rfl,rfl⟩
   rw[o.out];go_wp2;go_ret3;exact⟨by rw[g.out];rfl,Below.refl _ _⟩
 · have h:=zz (H9 c d (by simpa using j));have b:=Na (r:=s.data.toList.drop 1) c d (by simpa using j);rw[<- a]at b;have HC:=zz (QF s w hs h0);have o:=zz (Th s.data.toList);have g:=zz b;clear b hd c i d j a hG;generalize(if Al s.data.toList=0 then 20 else 0)=er at*;go_enter Tryz.func42,Tryz.ntmps42;go_wp2_with fail;(with_reducible refine(l.out).mono ?_);rintro e f ⟨rfl,rfl⟩
   rw[h.out];go_wp2_with fail;(with_reducible refine(HC.out).mono ?_);rintro e f ⟨rfl,rfl⟩
   rw[o.out];go_wp2;go_ret3;exact⟨by rw[g.out];rfl,Below.refl _ _⟩
def Bm(l:List UInt8):Value:=.string ⟨l.toArray⟩
theorem Bw{s:ByteArray}{l:List UInt8}(h:s.data.toList=l):Value.string s=Bm l:=by unfold Bm;rw[<- h]
theorem Rt(k:Nat)(s:ByteArray)(w:World)(hs:s.size<=65536)(h3:k=3->2<=s.size):Calls Tryz.prog 43 #[.int .i64 k,.string s] w fun e w'=>e= .returned (Bm (B8 k s.data.toList))/\w=w':=by
 by_cases a:k=3
 · have c:=h3 a;subst a
   have b:=zz (show Value.string (s.extract 1 (s.size - 1))=Bm (B8 3 s.data.toList)from Bw (by
    rw[Bv];unfold B8;rw[if_pos rfl,AU]
    congr 1))
   have g:((s.size:Int) - 1).toNat=s.size - 1:=(by omega);clear h3;go_enter Tryz.func43,Tryz.ntmps43;go_wp2;go_ret;exact⟨by rw[<- b.out];rfl,rfl⟩
 · have b:=zz (show Value.string s=Bm (B8 k s.data.toList)from Bw (by unfold B8;rw[if_neg a]));have g:((k:Int)==3)=false:=(by simp;omega);clear h3 a;go_enter Tryz.func43,Tryz.ntmps43;go_wp2;go_ret;exact⟨by rw[<- b.out];rfl,rfl⟩
end
section
open Go.RowKit
theorem Xq:(Tryz.prog.info? 46).map (fun i=>(i.zero,i.size,i.bytes))=some (some (.agg #[.int .i64 0,.string ⟨#[]⟩,.int .i64 0]),3,32):=by kernel_rfl
def Ly(t:AH):List Value:=[.int .i64 t.kind,Bm t.text,.int .i64 t.pos]
def CI(ts:List AH):List Value:=ts.flatMap Ly
theorem EU(ts:List AH)(t:AH):CI (ts++[t])=CI ts++Ly t:=by simp[CI]
theorem DK{a w:World}(h:Below a.heap.size a w)(row:Option Nat):a.grownBy w row:=⟨h.os,h.tape,h.output,h.size,fun i b _=>h.block i b⟩
theorem BW{w w':World}{base:Nat}{e:TypeId}{size:Nat}{v:Value}{n:Nat}{xs:List Value}(h:w.ownsRow base e size v n xs)(hb:Below w.heap.size w w'):w'.ownsRow base e size v n xs:=by
 refine h.kept (DK hb none) ?_;cases v.ownBlock with
 | none=>exact .inl rfl
 | some g=>exact .inr (by simp)
theorem D8{w:World}{base:Nat}{e:TypeId}{size:Nat}{v:Value}{n:Nat}{xs:List Value}(h:w.ownsRow base e size v n xs):∀k,v.ownBlock=some k->base<=k:=fun k a=>(h.lt k a).1
def Wm(l:List UInt8)(w0:World)(v i:Value)(wr:World):Prop:=
 ∃(acc:List AH) (k:Nat),i= .int .i64 (k:Int)/\k<=l.length/\AB false (l.drop k)=0/\CE l=Dq acc (B9 l k)/\acc.length<=k/\wr.ownsRow w0.heap.size 46 3 v acc.length (CI acc)/\Below w0.heap.size w0 wr
def YA(r:MI)(w:World)(e:Ending)(w':World):Prop:=
 (∃ts v,r= .ok ts/\e= .returned (.tuple #[v,.nilIface])/\0<ts.length/\ts.length<=65537/\w'.ownsRow w.heap.size 46 3 v ts.length (CI ts)/\Below w.heap.size w w')∨
 (∃x p b,r= .error (x,p)/\e= .returned (.tuple #[.slice none 0 0,.iface 101 (.pointer (some ⟨b,0,none⟩))])/\w.heap.size<=b/\x≠0/\w'.cell? ⟨b,0,none⟩=some (.int .i64 (p:Int))/\w'.cell? ⟨b,1,none⟩=some (.iface 61 (.int .i64 (x:Int)))/\(∃cs,w'.heap[b]?=some (.cells cs 104 (0,0)))/\Below w.heap.size w w')
theorem Ri{l:List UInt8}{acc:List AH}{k:Nat}(hk:k<l.length)(hb:AB false (l.drop k)=0)(ht:CE l=Dq acc (B9 l k))(he:(AO (l.drop k)).2.2≠0):CE l= .error ((AO (l.drop k)).2.2,k):=by rw[ht,G0 (by omega) hb,Lu,if_neg (D9 hk),if_neg he];rfl
theorem We{l:List UInt8}{acc:List AH}{k:Nat}(hk:k<l.length)(hb:AB false (l.drop k)=0)(ht:CE l=Dq acc (B9 l k))(he:(AO (l.drop k)).2.2=0):
 CE l=Dq (acc++[⟨(AO (l.drop k)).1,B8 (AO (l.drop k)).1 ((l.drop k).take (AO (l.drop k)).2.1),k⟩]) (B9 l (k+(AO (l.drop k)).2.1+AB false (l.drop (k+(AO (l.drop k)).2.1)))):=by
 have b:=G1 (l.drop k);rw[List.length_drop]at b;have a:=CU false (l.drop (k+(AO (l.drop k)).2.1));rw[List.length_drop]at a;have e:AB false (l.drop (k+(AO (l.drop k)).2.1))=AB false (l.drop (k+(AO (l.drop k)).2.1))+AB false (l.drop (k+(AO (l.drop k)).2.1+AB false (l.drop (k+(AO (l.drop k)).2.1)))):=(by rw[FI];rfl);rw[ht,G0 (by omega) hb,Lu,if_neg (D9 hk),if_pos he,Jo,FN (by omega) e]
theorem Nz{l:List UInt8}{acc:List AH}(ht:CE l=Dq acc (B9 l l.length)):CE l= .ok (acc++[⟨0,[],l.length⟩]):=by rw[ht,G0 (Nat.le_refl _) (Mv l),QN];rfl
theorem PL{l:List UInt8}{k:Nat}(hk:k<l.length)(he:(AO (l.drop k)).2.2=0)(h3:(AO (l.drop k)).1=3):2<=(AO (l.drop k)).2.1:=by
 rw[Ae l k hk]at*;simp only[AO]at*;split at h3
 · simp at h3
 · split at h3
   · simp at h3
   · split at h3
     · rename_i h1 h2 h4;rw[if_neg h1,if_neg h2,if_pos h4]at he ⊢;simp only at he ⊢;split at he
       · cases he
       · rename_i hx;unfold Cw at hx ⊢;split
         · rename_i hy;rw[if_pos hy]at hx;exact absurd rfl hx
         · omega
     · simp at h3
end
section
open Go.RowKit
theorem JY(s:ByteArray)(w:World)(hG:B0 w)(hs:s.size<=65536):Calls Tryz.prog 14 #[.string s] w (YA (CE s.data.toList) w):=by
 have D:=zz (AU s);have HG:=zz hG;obtain⟨i0,aa,hz⟩:=Option.map_eq_some_iff.1 Xq;simp only[Prod.mk.injEq]at hz;obtain⟨ae,af,r⟩:=hz;have S:=zz ae;have T:=zz af;have U:=zz r;have HI:=zz aa;have H1:=zz (Ob s w hs);obtain⟨L,u⟩:∃L,L=AB false (s.data.toList.drop 0):=⟨_,rfl⟩;have h2:∀W:World,Calls Tryz.prog 41 #[.string s,.int .i64 0] W fun e P=>e= .returned (.int .i64 (L:Int))/\W=P:=fun W=>(by have h:=J2 s 0 W hs (by omega);rw[<- u,Nat.zero_add]at h;exact h);have H2:=zz h2;have X:=CU false (s.data.toList.drop 0);rw[List.length_drop,D.out,<- u]at X;have F:=FI s.data.toList 0;rw[<- u,Nat.zero_add]at F
 have HS:=zz (show B9 s.data.toList 0=B9 s.data.toList L by
  have h:=FN (l:=s.data.toList) (i:=0) (b:=L) (by rw[D.out];omega) (by rw[Nat.zero_add,F,<- u];rfl);rw[Nat.zero_add]at h
  exact h)
 have ag:=zz F;have av:L<=s.size:=(by omega);have ap:decide (65536<(s.size:Int))=false:=(by simp;omega);clear ae af r aa hG X u F h2;go_enter Tryz.func14,Tryz.ntmps14;go_wp2_with fail;(with_reducible refine(H1.out).mono ?_);rintro e w1 ⟨rfl,V⟩
 have ah:=zz V;clear V;go_wp2_with fail;(with_reducible refine(H2.out w1).mono ?_);rintro e P ⟨rfl,rfl⟩
 clear H1 H2 ap;go_wp2_with fail;go_loopw [4,5] (fun v i wr=>Wm s.data.toList w v i wr) (fun _ i _=>s.size - (intOf i).toNat);(case atStart=>exact⟨[],L,rfl,by rw[D.out];omega,ag.out,by rw[ON,HS.out,K9],Nat.zero_le _,World.ownsRow_nil _ _ _ _,ah.out⟩);case round=>
  obtain⟨acc,k,rfl,hk,z,q,au,o,p⟩:=hrel;rw[D.out]at hk;by_cases ab:k<s.size
  · have M:B0 wr:=HG.out.below p;have f:k<s.data.toList.length:=(by rw[D.out];exact ab);have H:=L5 (s.extract k s.size) wr M (by simp only[ByteArray.size_extract];omega) (by simp only[ByteArray.size_extract];omega);rw[Gx]at H;have ar:=G1 (s.data.toList.drop k);rw[List.length_drop,D.out]at ar;have O:=Eo (s.data.toList.drop k) (D9 f);have C:=PL f;have A:=Ri f z q;have B:=We f z q;have aq:acc.length<=65536:=(by omega);unfold VK GO at H;by_cases G:(AO (s.data.toList.drop k)).2.2=0
    · have O:=O G;have C:=C G;have B:=B G;rw[G]at H;have HM:=zz H;have al:=zz B;have I:(s.extract k (k+(AO (s.data.toList.drop k)).2.1)).data.toList=(s.data.toList.drop k).take (AO (s.data.toList.drop k)).2.1:=(by rw[Bv,Nat.add_sub_cancel_left]);have N:=fun W:World=>Rt (AO (s.data.toList.drop k)).1 (s.extract k (k+(AO (s.data.toList.drop k)).2.1)) W (by simp only[ByteArray.size_extract];omega) (fun h=>by simp only[ByteArray.size_extract];have:=C h;omega);rw[I]at N;have ai:=zz N;have ac:∀W:World,Calls Tryz.prog 41 #[.string s,.int .i64 ((k:Int)+((AO (s.data.toList.drop k)).2.1:Int))] W fun e P=>e= .returned (.int .i64 ((k+(AO (s.data.toList.drop k)).2.1+AB false (s.data.toList.drop (k+(AO (s.data.toList.drop k)).2.1)):Nat):Int))/\W=P:=fun W=>J2 s (k+(AO (s.data.toList.drop k)).2.1) W hs (by omega);have am:=zz ac;have Y:=CU false (s.data.toList.drop (k+(AO (s.data.toList.drop k)).2.1));rw[List.length_drop,D.out]at Y;have an:=zz (FI s.data.toList (k+(AO (s.data.toList.drop k)).2.1));have E:=zz o;have m:=zz p;clear B H A I N ac o p q z M C G f;generalize B8 (AO (s.data.toList.drop k)).1 ((s.data.toList.drop k).take (AO (s.data.toList.drop k)).2.1)=tx at*;generalize(AO (s.data.toList.drop k)).1=kd at*;generalize(AO (s.data.toList.drop k)).2.1=n at*;generalize Z:AB false (s.data.toList.drop (k+n))=bn at*;have aw:=zz Z;clear Z;go_wp2_with fail;(with_reducible refine(HM.out).mono ?_);rintro e w2 ⟨rfl,y⟩
      have e0:Pm 0= .nilIface:=rfl;rw[e0];clear e0;have t:=zz y;clear y;go_wp2_with fail;(with_reducible refine(ai.out w2).mono ?_);rintro e P ⟨rfl,rfl⟩
      have e1:Bm tx= .string ⟨tx.toArray⟩:=rfl;rw[e1];clear e1;generalize ad:(⟨tx.toArray⟩:ByteArray)=tb;have ao:=zz ad;clear ad;have R:=zz (BW E.out t.out);have r:w.heap.size<=w2.heap.size:=Nat.le_trans m.out.size t.out.size;go_wp2_with (at_builtin;refine wpList_append_own _ rfl _ _ 42 rfl w.heap.size 46 i0 (.agg #[.int .i64 0,.string ⟨#[]⟩,.int .i64 0]) 3 32 Tryz.underlying42 HI.out S.out T.out U.out rfl (by decide) _ _ _ rfl (R.out.alloc _) ⟨w2.heap.size,0,none⟩ 1 1 [.int .i64 kd,.string tb,.int .i64 k] rfl rfl ?c1 ?c2 ?c3 ?c4 ?c5 ?_);case c1=>
       intro j x d
       match j,d with
       | 0,d=>simp at d;subst d;simp[Addr.add]
       | 1,d=>simp at d;subst d;simp[Addr.add]
       | 2,d=>simp at d;subst d;simp[Addr.add]
      (case c2=>intro x I;simp at I;rcases I with rfl | rfl | rfl<;>rfl);case c3=>unfold maxLen;omega
      (case c4=>omega);case c5=>simp;omega
      intro v3 w3 c a _;have J:=zz (((m.out.trans (t.out.mono m.out.size)).alloc r _).grown a (by simp;omega) (fun g hg=>D8 R.out g hg));have K:=zz c;clear c a;go_wp2_with fail;(with_reducible refine(am.out w3).mono ?_);rintro e P ⟨rfl,rfl⟩
      go_wp2_with fail;go_roundw;(case rel=>refine⟨acc++[⟨kd,tx,k⟩],k+n+bn,rfl,by rw[D.out];omega,an.out,al.out,by simp;omega,?_,J.out⟩;have h:=K.out;rw[<- ao.out]at h;rw[EU,List.length_append];exact h);case measure=>simp[intOf];omega
    · have A:=A G;have hv:Pm (AO (s.data.toList.drop k)).2.2= .iface 61 (.int .i64 (AO (s.data.toList.drop k)).2.2):=(by unfold Pm;rw[if_neg G]);rw[hv]at H;have HM:=zz H;have aj:=zz A;have ak:=zz G;have m:=zz p;clear H A hv B C O o p q z M G f;generalize(AO (s.data.toList.drop k)).1=kd at*;generalize(AO (s.data.toList.drop k)).2.1=n at*;generalize(AO (s.data.toList.drop k)).2.2=er at*;go_wp2_with fail;(with_reducible refine(HM.out).mono ?_);rintro e w2 ⟨rfl,y⟩
      have t:=zz y;clear y;go_wp2;go_ret2;have hb:=m.out.trans (t.out.mono m.out.size);refine .inr ⟨er,k,w2.heap.size,aj.out,rfl,hb.size,ak.out,by simp,by simp,⟨_,heap_alloc_new _ _⟩,hb.alloc hb.size _⟩
  · have f:k=s.data.toList.length:=(by rw[D.out];omega);have g:decide (k<s.size)=false:=(by simpa using ab);have Q:=zz (Nz (l:=s.data.toList) (acc:=acc) (by rw[<- f];exact q));have ax:=zz f;have E:=zz o;have m:=zz p;clear o p q z f;have r:w.heap.size<=wr.heap.size:=m.out.size;go_wp2_with (at_builtin;refine wpList_append_own _ rfl _ _ 42 rfl w.heap.size 46 i0 (.agg #[.int .i64 0,.string ⟨#[]⟩,.int .i64 0]) 3 32 Tryz.underlying42 HI.out S.out T.out U.out rfl (by decide) _ _ _ rfl (E.out.alloc _) ⟨wr.heap.size,0,none⟩ 1 1 [.int .i64 0,.string ⟨#[]⟩,.int .i64 s.size] rfl rfl ?c1 ?c2 ?c3 ?c4 ?c5 ?_);case c1=>
     intro j x d
     match j,d with
     | 0,d=>simp at d;subst d;simp[Addr.add]
     | 1,d=>simp at d;subst d;simp[Addr.add]
     | 2,d=>simp at d;subst d;simp[Addr.add]
    (case c2=>intro x I;simp at I;rcases I with rfl | rfl | rfl<;>rfl);case c3=>unfold maxLen;omega
    (case c4=>omega);case c5=>simp;omega
    intro v3 w3 c a _;have J:=zz ((m.out.alloc r _).grown a (by simp;omega) (fun g hg=>D8 E.out g hg));have K:=zz c;clear c a;go_wp2;go_ret2;refine .inl ⟨acc++[⟨0,[],s.data.toList.length⟩],v3,Q.out,rfl,by simp,by simp;omega,?_,J.out⟩;rw[EU,List.length_append,D.out];exact K.out
end
end
section
section
open Go.RowKit
def P5(w:World)(e:Ending)(w':World):Prop:=e= .returned (.bool true)/\Below w.heap.size w w'
theorem Hm(ts:List AH)(i:Nat)(t:AH)(h:ts[i]?=some t)(j:Nat)(hj:j<3):(CI ts)[i*3+j]?=(Ly t)[j]?:=by
 induction ts generalizing i with
 | nil=>simp at h
 | cons u r a=>
   have e:CI (u::r)=Ly u++CI r:=(by simp[CI]);rw[e];cases i with
   | zero=>simp only[List.getElem?_cons_zero,Option.some.injEq]at h;subst h;rw[Nat.zero_mul,Nat.zero_add,List.getElem?_append_left (by simpa[Ly]using hj)]
   | succ i=>
     rw[List.getElem?_append_right (by simp[Ly];omega)];have:=a i (by simpa using h);rw[<- this]
     congr 1
     simp[Ly];omega
theorem KA{w:World}{base g cap:Nat}{ts:List AH}{e:TypeId}(h:w.ownsRow base e 3 (.slice (some ⟨g,0,none⟩) ts.length cap) ts.length (CI ts)){i:Nat}{t:AH}(ht:ts[i]?=some t):
 w.cell? ⟨g,i*3,none⟩=some (.int .i64 t.kind)/\w.cell? ⟨g,i*3+1,none⟩=some (.string ⟨t.text.toArray⟩)/\w.cell? ⟨g,i*3+2,none⟩=some (.int .i64 t.pos):=by
 have d:i<ts.length:=(List.getElem?_eq_some_iff.1 ht).1;have a:=h.cellAt (i*3) (by omega);have b:=h.cellAt (i*3+1) (by omega);have c:=h.cellAt (i*3+2) (by omega);have c0:=Hm ts i t ht 0 (by omega);rw[Nat.add_zero]at c0;rw[c0]at a;rw[Hm ts i t ht 1 (by omega)]at b;rw[Hm ts i t ht 2 (by omega)]at c;exact⟨a,b,c⟩
theorem Eu{w:World}{base size n:Nat}{e:TypeId}{v:Value}{xs:List Value}(h:w.ownsRow base e size v n xs)(hn:0<n):∃g cap,v= .slice (some ⟨g,0,none⟩) n cap:=by
 rcases h.2 with⟨_,a⟩ | ⟨g,cap,_,rfl,_⟩
 · omega
 · exact⟨g,cap,rfl⟩
theorem Pd{s:ByteArray}{ts:List AH}(w:World)(hG:B0 w)(hs:s.size<=65536)(h:CE s.data.toList= .ok ts):
 Calls Tryz.prog 14 #[.string s] w fun e w'=>∃g cap,e= .returned (.tuple #[.slice (some ⟨g,0,none⟩) ts.length cap,.nilIface])/\0<ts.length/\ts.length<=65537/\w'.ownsRow w.heap.size 46 3 (.slice (some ⟨g,0,none⟩) ts.length cap) ts.length (CI ts)/\Below w.heap.size w w':=by
 refine(JY s w hG hs).mono ?_;rintro e w' (⟨j,v,a,rfl,c,f,d,i⟩ | ⟨x,p,b,a,_⟩)
 · rw[h]at a;obtain rfl:=MI.ok.inj a;obtain⟨g,cap,rfl⟩:=Eu d c;exact⟨g,cap,rfl,c,f,d,i⟩
 · rw[h]at a;cases a
theorem OW{s:ByteArray}{x p:Nat}(w:World)(hG:B0 w)(hs:s.size<=65536)(h:CE s.data.toList= .error (x,p)):
 Calls Tryz.prog 14 #[.string s] w fun e w'=>∃b,e= .returned (.tuple #[.slice none 0 0,.iface 101 (.pointer (some ⟨b,0,none⟩))])/\w.heap.size<=b/\x≠0/\EC w' b p x/\Below w.heap.size w w':=by
 refine(JY s w hG hs).mono ?_;rintro e w' (⟨m,v,a,_⟩ | ⟨o,n,b,a,rfl,f,g,i,j,l,k⟩)
 · rw[h]at a;cases a
 · rw[h]at a;injection a with a
   injection a with c d
   subst c d;exact⟨b,rfl,f,g,⟨i,j,l⟩,k⟩
end
section
open Go.RowKit
def Ev(t:AH):Value:=.agg #[.int .i64 t.kind,.string ⟨t.text.toArray⟩,.int .i64 t.pos]
def Di(r:Value)(t:AH)(w:World):Prop:=Calls Tryz.prog 45 #[r] w fun e w'=>e= .returned (Ev t)/\Below w.heap.size w w'
theorem RA(w:World):Di (.pointer none) ⟨0,[],0⟩ w:=by unfold Di;go_enter Tryz.func45,Tryz.ntmps45;go_wp2;exact bodyPost_ret (v:=Ev ⟨0,[],0⟩) (by simp[results,Tryz.results45,go_sem,Ev]) rfl ⟨rfl,(Below.refl _ _).alloc (Nat.le_refl _) _⟩
def RD(w:World)(rb:Nat)(ts:List AH)(k:Nat):Prop:=
 ∃g cap,w.heap[rb]?=some (.cells #[.slice (some ⟨g,0,none⟩) ts.length cap,.int .i64 (k:Int)] 127 (0,0))/\w.ownsRow 0 46 3 (.slice (some ⟨g,0,none⟩) ts.length cap) ts.length (CI ts)/\k<ts.length/\ts.length<=65537
theorem RD.lt{w:World}{rb:Nat}{ts:List AH}{k:Nat}(h:RD w rb ts k):rb<w.heap.size:=by
 obtain⟨g,d,c,_⟩:=h;rcases Nat.lt_or_ge rb w.heap.size with b | a
 · exact b
 · rw[Array.getElem?_eq_none a]at c;cases c
theorem RD.below{w w':World}{rb:Nat}{ts:List AH}{k:Nat}(h:RD w rb ts k)(hb:Below w.heap.size w w'):RD w' rb ts k:=by have f:=h.lt;obtain⟨g,a,b,c,d,e⟩:=h;exact⟨g,a,(hb.block rb f).trans b,BW c hb,d,e⟩
theorem AL{w:World}{b:Nat}{cs:Array Value}{t:TypeId}(h:w.heap[b]?=some (.cells cs t (0,0)))(i:Nat):w.cell? ⟨b,i,none⟩=cs[i]?:=cell_of_row w b i cs t (0,0) h
theorem Bf{w:World}{b:Nat}{cs:Array Value}{t:TypeId}(h:w.heap[b]?=some (.cells cs t (0,0)))(i:Nat):w.frozen? ⟨b,i,none⟩=false:=by simp[World.frozen?,h]
theorem K6{w:World}{rb:Nat}{ts:List AH}{k:Nat}{t:AH}(h:RD w rb ts k)(ht:ts[k]?=some t):Di (.pointer (some ⟨rb,0,none⟩)) t w:=by
 have e:=h.lt;obtain⟨g,c,a,b,m,o⟩:=h;have d:g<w.heap.size:=(b.lt g rfl).2;obtain⟨c0,j,l⟩:=KA b ht;have f:=AL a 0;have i:=AL a 1;simp only[List.getElem?_toArray,List.getElem?_cons_zero,List.getElem?_cons_succ]at f i;have p:((ts.length:Int)==0)=false:=(by rw[beq_eq_false_iff_ne];omega);clear a b ht;unfold Di Ev;generalize(⟨t.text.toArray⟩:ByteArray)=tb at*;generalize(t.kind:Int)=kd at*;generalize(t.pos:Int)=ps at*;generalize ts.length=n at*;go_enter Tryz.func45,Tryz.ntmps45;go_wp2
 go_region
 go_wp2;exact bodyPost_ret (v:=.agg #[.int .i64 kd,.string tb,.int .i64 ps]) (by simp[results,Tryz.results45,go_sem]) rfl ⟨rfl,((Below.refl _ _).alloc (Nat.le_refl _) _).drew⟩
def isB(t:AH)(x:List UInt8):Bool:=(t.kind==1 || t.kind==4)&&t.text==x
def D4(r:Value)(t:AH)(w:World):Prop:=∀W,Below w.heap.size w W->Di r t W
theorem D4.now{r:Value}{t:AH}{w:World}(h:D4 r t w):Di r t w:=h w (Below.refl _ _)
theorem D4.below{r:Value}{t:AH}{w w1:World}(h:D4 r t w)(hb:Below w.heap.size w w1):D4 r t w1:=fun W a=>h W (hb.trans (a.mono hb.size))
theorem H7(w:World):D4 (.pointer none) ⟨0,[],0⟩ w:=fun W _=>RA W
theorem DL{w:World}{rb:Nat}{ts:List AH}{k:Nat}{t:AH}(h:RD w rb ts k)(ht:ts[k]?=some t):D4 (.pointer (some ⟨rb,0,none⟩)) t w:=fun _ a=>K6 (h.below a) ht
theorem KY{r:Value}{t:AH}{w:World}(x:ByteArray)(hp:D4 r t w):Calls Tryz.prog 77 #[r,.string x] w fun e w'=>e= .returned (.bool (isB t x.data.toList))/\Below w.heap.size w w':=by
 have g:=hp.now;unfold Di at g;have H:=zz g;have h:=zz (show(t.text==x.toList)=(t.text==x.data.toList) by rw[ByteArray.toList_eq]);unfold isB;clear hp g;by_cases d:t.kind=1
 · have a:(t.kind==1 || t.kind==4)=true:=(by simp[d]);rw[a,Bool.true_and];have i:((t.kind:Int)==1)=true:=(by simp[d]);clear a d;go_enter Tryz.func77,Tryz.ntmps77;go_wp2_with fail;(with_reducible refine(H.out).mono ?_);rintro e j ⟨rfl,c⟩
   have b:Ev t= .agg #[.int .i64 t.kind,.string ⟨t.text.toArray⟩,.int .i64 t.pos]:=rfl;rw[b];clear b;go_wp2;go_ret;exact⟨by rw[<- h.out];rfl,c.alloc c.size _⟩
 by_cases f:t.kind=4
 · have a:(t.kind==1 || t.kind==4)=true:=(by simp[f]);rw[a,Bool.true_and];have i:((t.kind:Int)==1)=false:=(by simp[f]);have k:((t.kind:Int)==4)=true:=(by simp[f]);clear a d f;go_enter Tryz.func77,Tryz.ntmps77;go_wp2_with fail;(with_reducible refine(H.out).mono ?_);rintro e j ⟨rfl,c⟩
   have b:Ev t= .agg #[.int .i64 t.kind,.string ⟨t.text.toArray⟩,.int .i64 t.pos]:=rfl;rw[b];clear b;go_wp2;go_ret;exact⟨by rw[<- h.out];rfl,c.alloc c.size _⟩
 · have a:(t.kind==1 || t.kind==4)=false:=(by simp[d,f]);rw[a,Bool.false_and];have i:((t.kind:Int)==1)=false:=(by rw[beq_eq_false_iff_ne];omega);have k:((t.kind:Int)==4)=false:=(by rw[beq_eq_false_iff_ne];omega);clear a d f;go_enter Tryz.func77,Tryz.ntmps77;go_wp2_with fail;(with_reducible refine(H.out).mono ?_);rintro e j ⟨rfl,c⟩
   have b:Ev t= .agg #[.int .i64 t.kind,.string ⟨t.text.toArray⟩,.int .i64 t.pos]:=rfl;rw[b];clear b;go_wp2;go_ret;exact⟨rfl,c.alloc c.size _⟩
theorem ID{w1:World}{a:Nat}{u0 u1 u2:Value}(c0:w1.cell? ⟨a,0,none⟩=some u0)(c1:w1.cell? ⟨a,1,none⟩=some u1)(c2:w1.cell? ⟨a,2,none⟩=some u2)(x y z:Value):
 (((w1.setCell ⟨a,0,none⟩ x).setCell ⟨a,1,none⟩ y).setCell ⟨a,2,none⟩ z).cell? ⟨a,0,none⟩=some x/\(((w1.setCell ⟨a,0,none⟩ x).setCell ⟨a,1,none⟩ y).setCell ⟨a,2,none⟩ z).cell? ⟨a,1,none⟩=some y/\(((w1.setCell ⟨a,0,none⟩ x).setCell ⟨a,1,none⟩ y).setCell ⟨a,2,none⟩ z).cell? ⟨a,2,none⟩=some z:=by
 refine⟨?_,?_,?_⟩
 · rw[World.cell?_setCell_other _ _ _ _ (by simp),World.cell?_setCell_other _ _ _ _ (by simp)];exact World.cell?_setCell_same _ _ _ c0
 · rw[World.cell?_setCell_other _ _ _ _ (by simp)];refine World.cell?_setCell_same _ _ _ (u:=u1) ?_;rw[World.cell?_setCell_other _ _ _ _ (by simp)];exact c1
 · refine World.cell?_setCell_same _ _ _ (u:=u2) ?_;rw[World.cell?_setCell_other _ _ _ _ (by simp),World.cell?_setCell_other _ _ _ _ (by simp)];exact c2
theorem take_end{r:Value}{t:AH}{w:World}(hp:D4 r t w)(h0:t.kind=0):Calls Tryz.prog 123 #[r] w fun e w'=>e= .returned (Ev t)/\Below w.heap.size w w':=by
 have b:Below w.heap.size w (w.alloc (.cells #[.int .i64 0,.string ⟨#[]⟩,.int .i64 0] 46)):=(Below.refl _ _).alloc (Nat.le_refl _) _;have i:=hp _ b;unfold Di at i;have H:=zz i;have y:((t.kind:Int) != 0)=false:=(by simp[h0]);have h:=zz b;clear hp b h0 i;go_enter Tryz.func123,Tryz.ntmps123;go_wp2_with fail;(with_reducible refine(H.out).mono ?_);rintro e c ⟨rfl,a⟩
 have k:Ev t= .agg #[.int .i64 t.kind,.string ⟨t.text.toArray⟩,.int .i64 t.pos]:=rfl;rw[k];clear k;have j:w.heap.size<c.heap.size:=(by have:=a.size;simp at this;omega);have c0:c.cell? ⟨w.heap.size,0,none⟩=some (.int .i64 0):=(a.cell (by simp)).trans (by simp);have p:c.cell? ⟨w.heap.size,1,none⟩=some (.string ⟨#[]⟩):=(a.cell (by simp)).trans (by simp);have q:c.cell? ⟨w.heap.size,2,none⟩=some (.int .i64 0):=(a.cell (by simp)).trans (by simp);have s:c.frozen? ⟨w.heap.size,0,none⟩=false:=(a.frozen (by simp)).trans (by simp);have u:c.frozen? ⟨w.heap.size,1,none⟩=false:=(a.frozen (by simp)).trans (by simp);have x:c.frozen? ⟨w.heap.size,2,none⟩=false:=(a.frozen (by simp)).trans (by simp);have o:=zz (h.out.trans (a.mono (by simp)));clear a;obtain⟨d,f,g⟩:=ID c0 p q (.int .i64 t.kind) (.string ⟨t.text.toArray⟩) (.int .i64 t.pos);have l:=zz d;have m:=zz f;have n:=zz g;clear d f g;go_wp2;have d:=l.out;have f:=m.out;have g:=n.out;refine bodyPost_ret (v:=Ev t) (by simp[results,Tryz.results123,go_sem,Ev,d,f,g,j]) rfl ⟨rfl,?_⟩;exact(((o.out.setCell (Nat.le_refl _) _).setCell (Nat.le_refl _) _).setCell (Nat.le_refl _) _).alloc (by simp;omega) _
theorem Ul{w:World}{rb:Nat}{ts:List AH}{k:Nat}(h:RD w rb ts k)(hk:k+1<ts.length):RD (w.setCell ⟨rb,1,none⟩ (.int .i64 ((k+1:Nat):Int))) rb ts (k+1):=by
 obtain⟨g,c,d,e,n,i⟩:=h;refine⟨g,c,?_,?_,hk,i⟩
 · simp[World.setCell,Array.getElem?_modify,d]
 · refine ownsRow_setCell_other e ?_ _;intro j;have l:g=rb:=(by simpa[Value.ownBlock]using j);subst l;rcases e.2 with⟨a,_⟩ | ⟨m,_,f,a,_,b,_⟩
   · cases a
   · injection a with a
     injection a with a
     injection a with a
     subst a;rw[d]at b;injection b with b
     injection b with _ b
     exact absurd b (by decide)
theorem UI{w w1:World}{rb:Nat}{ts:List AH}{k:Nat}(h:RD w rb ts k)(hB:Below w.heap.size w w1)(hk:k+1<ts.length)(hsz:w.heap.size<w1.heap.size)(x y z:Value)(o:Obj):
 RD (((((w1.setCell ⟨rb,1,none⟩ (.int .i64 ((k:Int)+1))).setCell ⟨w.heap.size,0,none⟩ x).setCell ⟨w.heap.size,1,none⟩ y).setCell ⟨w.heap.size,2,none⟩ z).alloc o) rb ts (k+1)/\
 w.grownBy (((((w1.setCell ⟨rb,1,none⟩ (.int .i64 ((k:Int)+1))).setCell ⟨w.heap.size,0,none⟩ x).setCell ⟨w.heap.size,1,none⟩ y).setCell ⟨w.heap.size,2,none⟩ z).alloc o) (some rb):=by
 have f:=h.lt;have r:=Ul (h.below hB) hk;obtain⟨g,a,p,C,D,E⟩:=r;have F:g<w.heap.size:=by
  obtain⟨m,b,A,B,_,_⟩:=h;have q:=(hB.block rb f).trans A;have j:(w1.setCell ⟨rb,1,none⟩ (.int .i64 ((k+1:Nat):Int))).heap[rb]?=some (.cells #[.slice (some ⟨m,0,none⟩) ts.length b,.int .i64 ((k+1:Nat):Int)] 127 (0,0)):=(by simp[World.setCell,Array.getElem?_modify,q]);rw[p]at j;simp only[Option.some.injEq,Obj.cells.injEq,and_true]at j;have c:Value.slice (some ⟨g,0,none⟩) ts.length a= .slice (some ⟨m,0,none⟩) ts.length b:=(by simpa using j);injection c with c
  injection c with c
  injection c with c
  subst c;exact(B.lt g rfl).2
 have d:∀o v (W:World),W.ownsRow 0 46 3 (.slice (some ⟨g,0,none⟩) ts.length a) ts.length (CI ts)->(W.setCell ⟨w.heap.size,o,none⟩ v).ownsRow 0 46 3 (.slice (some ⟨g,0,none⟩) ts.length a) ts.length (CI ts):=(by intro o v W s;refine ownsRow_setCell_other s ?_ _;intro t;have:g=w.heap.size:=(by simpa[Value.ownBlock]using t);omega);have n:∀i,i<w.heap.size->(((((w1.setCell ⟨rb,1,none⟩ (.int .i64 ((k:Int)+1))).setCell ⟨w.heap.size,0,none⟩ x).setCell ⟨w.heap.size,1,none⟩ y).setCell ⟨w.heap.size,2,none⟩ z).alloc o).heap[i]?=(w1.setCell ⟨rb,1,none⟩ (.int .i64 ((k:Int)+1))).heap[i]?:=(by intro i l;rw[Below.heap_alloc _ _ _ (by simp;omega),Below.heap_setCell _ _ _ _ (by simp;omega),Below.heap_setCell _ _ _ _ (by simp;omega),Below.heap_setCell _ _ _ _ (by simp;omega)]);refine⟨⟨g,a,(n rb f).trans p,(d _ _ _ (d _ _ _ (d _ _ _ C))).alloc _,D,E⟩,⟨hB.os,hB.tape,hB.output,by simp;omega,fun i l u=>?_⟩⟩;rw[n i l,Below.heap_setCell _ _ _ _ (fun e=>u (by rw[e]))];exact hB.block i l
theorem take_on{w:World}{rb:Nat}{ts:List AH}{k:Nat}{t:AH}(h:RD w rb ts k)(ht:ts[k]?=some t)(h0:t.kind≠0)(hk:k+1<ts.length):
 Calls Tryz.prog 123 #[.pointer (some ⟨rb,0,none⟩)] w fun e w'=>e= .returned (Ev t)/\RD w' rb ts (k+1)/\w.grownBy w' (some rb):=by
 have b:Below w.heap.size w (w.alloc (.cells #[.int .i64 0,.string ⟨#[]⟩,.int .i64 0] 46)):=(Below.refl _ _).alloc (Nat.le_refl _) _;have o:=K6 (h.below b) ht;unfold Di at o;have H:=zz o;have Q:((t.kind:Int) != 0)=true:=(by rw[bne_iff_ne];omega);have l:=zz b;have q:=zz h;have L:=h.lt;have n:ts.length<=65537:=(by obtain⟨_,_,_,_,_,I⟩:=h;exact I);have J:k<65537:=(by omega);have B:=zz hk;clear b h0 o h ht n hk;go_enter Tryz.func123,Tryz.ntmps123;go_wp2_with fail;(with_reducible refine(H.out).mono ?_);rintro e w1 ⟨rfl,a⟩
 have r:Ev t= .agg #[.int .i64 t.kind,.string ⟨t.text.toArray⟩,.int .i64 t.pos]:=rfl;rw[r];clear r;have d:w.heap.size<w1.heap.size:=(by have:=a.size;simp at this;omega);have c0:w1.cell? ⟨w.heap.size,0,none⟩=some (.int .i64 0):=(a.cell (by simp)).trans (by simp);have D:w1.cell? ⟨w.heap.size,1,none⟩=some (.string ⟨#[]⟩):=(a.cell (by simp)).trans (by simp);have E:w1.cell? ⟨w.heap.size,2,none⟩=some (.int .i64 0):=(a.cell (by simp)).trans (by simp);have N:w1.frozen? ⟨w.heap.size,0,none⟩=false:=(a.frozen (by simp)).trans (by simp);have O:w1.frozen? ⟨w.heap.size,1,none⟩=false:=(a.frozen (by simp)).trans (by simp);have P:w1.frozen? ⟨w.heap.size,2,none⟩=false:=(a.frozen (by simp)).trans (by simp);have m:=l.out.trans (a.mono (by simp));have c:=q.out.below m;have C:=zz c;obtain⟨g,F,p,_,_,_⟩:=c;have M:=AL p 1;have G:=Bf p 1;simp only[List.getElem?_toArray,List.getElem?_cons_zero,List.getElem?_cons_succ]at M;have K:rb≠w.heap.size:=(by omega);have s:w.heap.size≠rb:=(by omega);have u:rb<w1.heap.size:=(by omega);have A:=zz m;obtain⟨f,i,j⟩:=ID (w1:=w1.setCell ⟨rb,1,none⟩ (.int .i64 ((k:Int)+1))) ((World.cell?_setCell_other _ _ _ _ (by simp<;>omega)).trans c0) ((World.cell?_setCell_other _ _ _ _ (by simp<;>omega)).trans D) ((World.cell?_setCell_other _ _ _ _ (by simp<;>omega)).trans E) (.int .i64 t.kind) (.string ⟨t.text.toArray⟩) (.int .i64 t.pos);have x:=zz f;have y:=zz i;have z:=zz j;clear a m p f i j;go_wp2;have f:=x.out;have i:=y.out;have j:=z.out;exact bodyPost_ret (v:=Ev t) (by simp[results,Tryz.results123,go_sem,Ev,f,i,j,d]) rfl ⟨rfl,UI q.out A.out B.out d _ _ _ _⟩
end
section
open Go.RowKit
theorem Df(a b c:Value)(w:World):(Instr.field 46 (.agg #[a,b,c]) 0).run Tryz.prog w= .ok a w:=by kernel_rfl
theorem C7(a b c:Value)(w:World):(Instr.field 46 (.agg #[a,b,c]) 1).run Tryz.prog w= .ok b w:=by kernel_rfl
theorem C8(a b c:Value)(w:World):(Instr.field 46 (.agg #[a,b,c]) 2).run Tryz.prog w= .ok c w:=by kernel_rfl
theorem NA{w w1:World}{rb:Nat}{ts:List AH}{k:Nat}(hG:B0 w)(hR:RD w rb ts k)(hg:w.grownBy w1 (some rb)):B0 w1:=by obtain⟨g,j,l,_⟩:=hR;have i:=AL l 0;simp only[List.getElem?_toArray,List.getElem?_cons_zero]at i;have a:∀(b:Nat) (d:TypeId) (c:Value),w.cell? ⟨b,0,none⟩=some (.iface d c)->w1.cell? ⟨b,0,none⟩=some (.iface d c):=(by intro b d c f;have h:b≠rb:=(by rintro rfl;rw[f]at i;cases i);exact(World.cell?_of_block (hg.block b (World.block_lt_of_cell? w _ f) (fun e=>h (by injection e)))).trans f);refine⟨⟨a 0 _ _ hG.glob.err⟩,?_⟩;obtain⟨d,c,m⟩:=hG.rng;exact⟨d,c,a 3 d c m⟩
theorem skip_no{r:Value}{t:AH}{w:World}(x:ByteArray)(hp:D4 r t w)(hi:isB t x.data.toList=false):Calls Tryz.prog 101 #[r,.string x] w fun e w'=>e= .returned (.bool false)/\Below w.heap.size w w':=by
 have h:=KY x hp;rw[hi]at h;have H:=zz h;clear h hi hp;go_enter Tryz.func101,Tryz.ntmps101;go_wp2_with fail;(with_reducible refine(H.out).mono ?_);rintro e b ⟨rfl,a⟩
 go_wp2;go_ret;exact⟨rfl,a⟩
theorem skip_yes{w:World}{rb:Nat}{ts:List AH}{k:Nat}{t:AH}(x:ByteArray)(h:RD w rb ts k)(ht:ts[k]?=some t)(hi:isB t x.data.toList=true)(hk:k+1<ts.length):
 Calls Tryz.prog 101 #[.pointer (some ⟨rb,0,none⟩),.string x] w fun e w'=>e= .returned (.bool true)/\RD w' rb ts (k+1)/\w.grownBy w' (some rb):=by
 have b:t.kind≠0:=(by intro b;rw[isB,b]at hi;cases hi);have c:=KY x (DL h ht);rw[hi]at c;have H:=zz c;have d:=zz (fun(W:World) (a:Below w.heap.size w W)=>take_on (h.below a) ht b hk);clear c hi h ht b hk;go_enter Tryz.func101,Tryz.ntmps101;go_wp2_with fail;(with_reducible refine(H.out).mono ?_);rintro e l ⟨rfl,a⟩
 have f:=zz (d.out l a);have g:=zz a;clear a;go_wp2_with fail;(with_reducible refine(f.out).mono ?_);rintro e m ⟨rfl,i,j⟩
 go_wp2;go_ret;exact⟨rfl,i,(DK g.out (some rb)).trans j⟩
def Xj(p:Int)(mk:Value->Value)(w:World)(e:Ending)(w':World):Prop:=∃b,e= .returned (mk (.iface 101 (.pointer (some ⟨b,0,none⟩))))/\w.heap.size<=b/\EC w' b p 20/\Below w.heap.size w w'
theorem JL(w:World):Calls Tryz.prog 102 #[.pointer none] w fun e w'=>e= .returned (.iface 61 (.int .i64 3))/\w=w':=by have a:=Df;have b:=C7;have c:=C8;go_enter Tryz.func102,Tryz.ntmps102;go_wp2;go_ret;exact⟨rfl,rfl⟩
theorem Jr{a:Addr}{t:AH}{w:World}(hp:D4 (.pointer (some a)) t w):Calls Tryz.prog 102 #[.pointer (some a)] w (Xj t.pos (fun v=>v) w):=by
 have c:=hp.now;unfold Di at c;have H:=zz c;clear c hp;have f:=Df;have g:=C7;have h:=C8;go_enter Tryz.func102,Tryz.ntmps102;go_wp2_with fail;(with_reducible refine(H.out).mono ?_);rintro e i ⟨rfl,b⟩
 have d:Ev t= .agg #[.int .i64 t.kind,.string ⟨t.text.toArray⟩,.int .i64 t.pos]:=rfl;rw[d];clear d;go_wp2;go_ret;exact⟨i.heap.size,rfl,b.size,⟨by simp,by simp,⟨_,heap_alloc_new _ _⟩⟩,b.alloc b.size _⟩
theorem SZ(x:ByteArray)(w:World):Calls Tryz.prog 76 #[.pointer none,.string x] w fun e w'=>e= .returned (.iface 61 (.int .i64 3))/\Below w.heap.size w w':=by
 have H:=zz (skip_no x (H7 w) rfl);have a:=zz JL;go_enter Tryz.func76,Tryz.ntmps76;go_wp2_with fail;(with_reducible refine(H.out).mono ?_);rintro e c ⟨rfl,b⟩
 go_wp2_with fail;(with_reducible refine(a.out c).mono ?_);rintro e d ⟨rfl,rfl⟩
 go_wp2;go_ret;exact⟨rfl,b⟩
theorem want_no{a:Addr}{t:AH}{w:World}(x:ByteArray)(hp:D4 (.pointer (some a)) t w)(hi:isB t x.data.toList=false):Calls Tryz.prog 76 #[.pointer (some a),.string x] w (Xj t.pos (fun v=>v) w):=by
 have H:=zz (skip_no x hp hi);have g:=zz (fun(W:World) (c:Below w.heap.size w W)=>Jr (hp.below c));clear hp hi;go_enter Tryz.func76,Tryz.ntmps76;go_wp2_with fail;(with_reducible refine(H.out).mono ?_);rintro e k ⟨rfl,c⟩
 have h:=zz (g.out k c);have d:=zz c;clear c;go_wp2_with fail;(with_reducible refine(h.out).mono ?_);rintro e l ⟨b,rfl,j,i,f⟩
 go_wp2;go_ret;exact⟨b,rfl,Nat.le_trans d.out.size j,i,d.out.trans (f.mono d.out.size)⟩
theorem want_yes{w:World}{rb:Nat}{ts:List AH}{k:Nat}{t:AH}(x:ByteArray)(h:RD w rb ts k)(ht:ts[k]?=some t)(hi:isB t x.data.toList=true)(hk:k+1<ts.length):
 Calls Tryz.prog 76 #[.pointer (some ⟨rb,0,none⟩),.string x] w fun e w'=>e= .returned .nilIface/\RD w' rb ts (k+1)/\w.grownBy w' (some rb):=by
 have H:=zz (skip_yes x h ht hi hk);clear h ht hi hk;go_enter Tryz.func76,Tryz.ntmps76;go_wp2_with fail;(with_reducible refine(H.out).mono ?_);rintro e c ⟨rfl,a,b⟩
 go_wp2;go_ret;exact⟨rfl,a,b⟩
theorem Oa(kd:Int)(hk:(0 != kd)=true)(w:World):Calls Tryz.prog 170 #[.pointer none,.int .i64 kd] w fun e w'=>e= .returned (.tuple #[.string ⟨#[]⟩,.iface 61 (.int .i64 3)])/\Below w.heap.size w w':=by
 have a:=(H7 w).now;unfold Di at a;have b:Ev ⟨0,[],0⟩= .agg #[.int .i64 0,.string ⟨#[]⟩,.int .i64 0]:=rfl;rw[b]at a;have H:=zz a;have c:=zz JL;clear a b;have f:=Df;have g:=C7;have h:=C8;go_enter Tryz.func170,Tryz.ntmps170;go_wp2_with fail;(with_reducible refine(H.out).mono ?_);rintro e i ⟨rfl,d⟩
 go_wp2_with fail;(with_reducible refine(c.out i).mono ?_);rintro e j ⟨rfl,rfl⟩
 go_wp2;go_ret2;exact⟨rfl,d⟩
theorem LJ{a:Addr}{t:AH}{w:World}(kd:Int)(hp:D4 (.pointer (some a)) t w)(hk:(t.kind:Int)≠kd):Calls Tryz.prog 170 #[.pointer (some a),.int .i64 kd] w (Xj t.pos (fun v=>.tuple #[.string ⟨#[]⟩,v]) w):=by
 have h:=hp.now;unfold Di Ev at h;have H:=zz h;have i:=zz (fun(W:World) (c:Below w.heap.size w W)=>Jr (hp.below c));have g:((t.kind:Int) != kd)=true:=(by rw[bne_iff_ne];exact hk);clear h hp hk;have l:=Df;have m:=C7;have n:=C8;go_enter Tryz.func170,Tryz.ntmps170;go_wp2_with fail;(with_reducible refine(H.out).mono ?_);rintro e p ⟨rfl,c⟩
 have j:=zz (i.out p c);have d:=zz c;clear c;go_wp2_with fail;(with_reducible refine(j.out).mono ?_);rintro e q ⟨b,rfl,o,k,f⟩
 go_wp2;go_ret2;exact⟨b,rfl,Nat.le_trans d.out.size o,k,d.out.trans (f.mono d.out.size)⟩
theorem KE{w:World}{rb:Nat}{ts:List AH}{k:Nat}{t:AH}(kd:Int)(h:RD w rb ts k)(ht:ts[k]?=some t)(hkd:(t.kind:Int)=kd)(h0:t.kind≠0)(hk:k+1<ts.length):
 Calls Tryz.prog 170 #[.pointer (some ⟨rb,0,none⟩),.int .i64 kd] w fun e w'=>e= .returned (.tuple #[.string ⟨t.text.toArray⟩,.nilIface])/\RD w' rb ts (k+1)/\w.grownBy w' (some rb):=by
 have b:=(DL h ht).now;unfold Di Ev at b;have H:=zz b;have d:=zz (fun(W:World) (a:Below w.heap.size w W)=>take_on (h.below a) ht h0 hk);subst hkd;have g:((t.kind:Int) != (t.kind:Int))=false:=(by simp);clear b h ht h0 hk;have l:=Df;have m:=C7;have n:=C8;go_enter Tryz.func170,Tryz.ntmps170;go_wp2_with fail;(with_reducible refine(H.out).mono ?_);rintro e p ⟨rfl,a⟩
 have f:=zz (d.out p a);have i:=zz a;clear a;go_wp2_with fail;(with_reducible refine(f.out).mono ?_);rintro e q ⟨rfl,j,o⟩
 have c:Ev t= .agg #[.int .i64 t.kind,.string ⟨t.text.toArray⟩,.int .i64 t.pos]:=rfl;rw[c];clear c;go_wp2;go_ret2;exact⟨rfl,j,(DK i.out (some rb)).trans o⟩
theorem name_no{a:Addr}{t:AH}{w:World}(hp:D4 (.pointer (some a)) t w)(hk:t.kind≠1):Calls Tryz.prog 186 #[.pointer (some a)] w (Xj t.pos (fun v=>.tuple #[.string ⟨#[]⟩,v]) w):=by
 have H:=zz (LJ 1 hp (by omega));clear hp hk;go_enter Tryz.func186,Tryz.ntmps186;go_wp2_with fail;(with_reducible refine(H.out).mono ?_);rintro e g ⟨b,rfl,f,d,c⟩
 go_wp2;go_ret2;exact⟨b,rfl,f,d,c⟩
theorem name_yes{w:World}{rb:Nat}{ts:List AH}{k:Nat}{t:AH}(h:RD w rb ts k)(ht:ts[k]?=some t)(hkd:t.kind=1)(hk:k+1<ts.length):
 Calls Tryz.prog 186 #[.pointer (some ⟨rb,0,none⟩)] w fun e w'=>e= .returned (.tuple #[.string ⟨t.text.toArray⟩,.nilIface])/\RD w' rb ts (k+1)/\w.grownBy w' (some rb):=by
 have H:=zz (KE 1 h ht (by omega) (by omega) hk);clear h ht hkd hk;go_enter Tryz.func186,Tryz.ntmps186;go_wp2_with fail;(with_reducible refine(H.out).mono ?_);rintro e c ⟨rfl,a,b⟩
 go_wp2;go_ret2;exact⟨rfl,a,b⟩
theorem M7(w:World):Calls Tryz.prog 161 #[.pointer none] w fun e w'=>e= .returned (.tuple #[.int .i64 0,.iface 61 (.int .i64 3)])/\Below w.heap.size w w':=by
 have H:=zz (Oa 2 rfl w);go_enter Tryz.func161,Tryz.ntmps161;go_wp2_with fail;(with_reducible refine(H.out).mono ?_);rintro e b ⟨rfl,a⟩
 go_wp2;go_ret2;exact⟨rfl,a⟩
theorem number_no{a:Addr}{t:AH}{w:World}(hp:D4 (.pointer (some a)) t w)(hk:t.kind≠2):Calls Tryz.prog 161 #[.pointer (some a)] w (Xj t.pos (fun v=>.tuple #[.int .i64 0,v]) w):=by
 have H:=zz (LJ 2 hp (by omega));clear hp hk;go_enter Tryz.func161,Tryz.ntmps161;go_wp2_with fail;(with_reducible refine(H.out).mono ?_);rintro e g ⟨b,rfl,f,d,c⟩
 go_wp2;go_ret2;exact⟨b,rfl,f,d,c⟩
theorem number_yes{w:World}{rb:Nat}{ts:List AH}{k:Nat}{t:AH}(hG:B0 w)(h:RD w rb ts k)(ht:ts[k]?=some t)(hkd:t.kind=2)(hk:k+1<ts.length)
 (hs:t.text.length<=65536) (h0:t.text≠[]) (hd:∀c∈t.text,AD c=true) (hv:AX t.text<9223372036854775808):
 Calls Tryz.prog 161 #[.pointer (some ⟨rb,0,none⟩)] w fun e w'=>e= .returned (.tuple #[.int .i64 (AX t.text),.nilIface])/\RD w' rb ts (k+1)/\w.grownBy w' (some rb):=by
 have H:=zz (KE 2 h ht (by omega) (by omega) hk);have i:=zz (fun(W:World) (p:B0 W)=>JU ⟨t.text.toArray⟩ W p (by simpa[ByteArray.size]using hs) (by simpa using h0) (by simpa using hd));have n:=zz (show Ji (⟨t.text.toArray⟩:ByteArray).data.toList= .tuple #[.int .i64 (AX t.text),.nilIface] by show Ji t.text=_;unfold Ji;rw[if_pos hv]);have m:=zz h;have l:=zz hG;clear h ht hkd hk h0 hd hv hG hs;go_enter Tryz.func161,Tryz.ntmps161;go_wp2_with fail;(with_reducible refine(H.out).mono ?_);rintro e q ⟨rfl,g,f⟩
 have j:=zz (i.out q (NA l.out m.out f));have d:=zz g;have o:=zz f;clear g f;go_wp2_with fail;(with_reducible refine(j.out).mono ?_);rintro e r ⟨rfl,b⟩
 rw[n.out];have a:=zz b;clear b;go_wp2;go_ret2;exact⟨rfl,d.out.below a.out,o.out.trans (DK a.out (some rb))⟩
end
section
open Go.RowKit
theorem KM{w:World}{base size n:Nat}{e:TypeId}{v:Value}{xs:List Value}(h:w.ownsRow base e size v n xs):w.ownsRow 0 e size v n xs:=by
 refine⟨h.1,?_⟩;rcases h.2 with c | ⟨g,a,b,c,_,d⟩
 · exact .inl c
 · exact .inr ⟨g,a,b,c,Nat.zero_le _,d⟩
theorem V6{s:ByteArray}{ts:List AH}(w:World)(hG:B0 w)(hs:s.size<=65536)(h:CE s.data.toList= .ok ts):
 Calls Tryz.prog 15 #[.string s] w fun e w'=>∃rb,e= .returned (.tuple #[.pointer (some ⟨rb,0,none⟩),.nilIface])/\w.heap.size<=rb/\RD w' rb ts 0/\Below w.heap.size w w':=by
 have H:=zz (Pd w hG hs h);clear hG h;go_enter Tryz.func15,Tryz.ntmps15;go_wp2_with fail;(with_reducible refine(H.out).mono ?_);rintro e i ⟨g,b,rfl,l,m,f,d⟩
 have k:=zz f;have a:=zz d;obtain⟨n,c⟩:∃n,n=ts.length:=⟨_,rfl⟩;have j:=zz c;rw[<- c];clear f d c;go_wp2;go_ret2;refine⟨i.heap.size,rfl,a.out.size,⟨g,b,?_,(KM k.out).alloc _,l,m⟩,a.out.alloc a.out.size _⟩;rw[<- j.out];exact heap_alloc_new i _
end
end
end Go.Proofs.YtodijgndbjfbgaaGreatDoor
