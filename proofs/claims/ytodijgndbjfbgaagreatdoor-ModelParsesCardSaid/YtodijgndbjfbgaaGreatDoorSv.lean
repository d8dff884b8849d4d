import Derived.Test.YtodijgndbjfbgaaGreatDoorSt
import Derived.Test.YtodijgndbjfbgaaGreatDoorSq
import Derived.Test.YtodijgndbjfbgaaGreatDoorSu
import Derived.Deep.RegionHeld3
namespace Go.Proofs.YtodijgndbjfbgaaGreatDoor
set_option maxHeartbeats 16000000
set_option maxRecDepth 100000
section
open Go.RowKit Go.Sort
def IM(pl:Bool)(n:Nat):List UInt8:=if pl then 64::CJ n else[]
def Jn(pl:Bool):Option Ex->List UInt8
 | some e=>if pl then Il e else AR e
 | none=>[]
def Br(pl:Bool)(w q:List UInt8)(d:Ad):List UInt8:=w++(q++(d.nm++(q++(IM pl d.pos++([32,61,32]++(Jn pl d.x++[59,10]))))))
def Dw(pl:Bool)(v:B7):List UInt8:=if v.isB then D5 else 91::(Jn pl v.low++([46,46]++(Jn pl v.high++[93])))
def Cq(pl:Bool)(v:B7):List UInt8:=[32,32]++(v.nm++(IM pl v.pos++([32,58,32]++(Dw pl v++((if v.has then 32::(CA++32::Jn pl v.ini)else[])++[59,10])))))
def Ce(pl:Bool)(d:Ad):List UInt8:=40::(d.nm++(IM pl d.pos++([39,32,61,32]++(Jn pl d.x++[41]))))
def ER(pl:Bool)(b:Fe):List UInt8:=CJ b.wt++(IM pl b.pos++([32,58,32]++(if b.sets=[]then Au else AF [32,38,32] (b.sets.map (Ce pl)))))
def Cb(pl:Bool)(c:Cp):List UInt8:=[32,32,91]++(c.act++([93]++(IM pl c.pos++([32]++(Jn pl c.guard++([32,45,62,32]++(AF [32,43,32] (c.brs.map (ER pl))++[59,10])))))))
def Cs(pl:Bool)(m:Ct):List UInt8:=A8++32::(m.nm++(IM pl m.pos++10::((m.vars.map (Cq pl)).flatten++((m.cmds.map (Cb pl)).flatten++(DG++[10])))))
def MJ(pl:Bool)(m:AP):List UInt8:=D6++10::((m.consts.map (Br pl (AN++[32]) [])).flatten++((m.formulas.map (Br pl (AE++[32]) [])).flatten++((m.labels.map (Br pl (BI++[32]) [34])).flatten++(m.mods.map (Cs pl)).flatten)))
theorem Hl(x:Option Ex):Jn false x=D7 x:=by cases x<;>rfl
theorem Lj(w:List UInt8)(d:Ad):Br false (w++[32]) [] d=AY w d:=by simp[Br,AY,IM,Hl]
theorem RV(d:Ad):Br false (BI++[32]) [34] d=BY d:=by simp[Br,BY,IM,Hl]
theorem Qq(v:B7):Dw false v=CS v:=by simp only[Dw,CS,Hl]
theorem RH(v:B7):Cq false v=Ap v:=by simp[Cq,Ap,IM,Hl,Qq]
theorem Qz(d:Ad):Ce false d=Ax d:=by simp[Ce,Ax,IM,Hl]
theorem Ut(b:Fe):ER false b=Bs b:=by have e:b.sets.map (Ce false)=b.sets.map Ax:=List.map_congr_left fun d _=>Qz d;simp[ER,Bs,IM,e]
theorem SP(c:Cp):Cb false c=BO c:=by have e:c.brs.map (ER false)=c.brs.map Bs:=List.map_congr_left fun d _=>Ut d;simp[Cb,BO,IM,Hl,e]
theorem SM(m:Ct):Cs false m=BR m:=by have a:m.vars.map (Cq false)=m.vars.map Ap:=List.map_congr_left fun d _=>RH d;have b:m.cmds.map (Cb false)=m.cmds.map BO:=List.map_congr_left fun d _=>SP d;simp[Cs,BR,IM,a,b]
theorem VZ(m:AP):MJ false m=Gs m:=by have a:m.consts.map (Br false (AN++[32]) [])=m.consts.map (AY AN):=List.map_congr_left fun d _=>Lj AN d;have b:m.formulas.map (Br false (AE++[32]) [])=m.formulas.map (AY AE):=List.map_congr_left fun d _=>Lj AE d;have c:m.labels.map (Br false (BI++[32]) [34])=m.labels.map BY:=List.map_congr_left fun d _=>RV d;have e:m.mods.map (Cs false)=m.mods.map BR:=List.map_congr_left fun d _=>SM d;simp only[MJ,Gs,a,b,c,e]
theorem F7(l:List UInt8)(n:Nat)(h:l.length<=n):∃t:ByteArray,t.data.toList=l/\t.size<=n:=⟨⟨l.toArray⟩,rfl,by rw[<- AU];exact h⟩
theorem Gl{s:ByteArray}{l:List UInt8}(h:s.data.toList=l):Ending.returned (.string s)= .returned (Bm l):=by have:s=⟨l.toArray⟩:=(by rw[<- h]);rw[this];rfl
theorem Us(n:Nat)(hn:n<9223372036854775808)(pl:Bool)(w:World):Calls Tryz.prog 28 #[.int .i64 (n:Int),.bool pl] w (Sn (IM pl n) w):=by
 have H:=zz (FJ n hn w);obtain⟨t,a,f⟩:=F7 (CJ n) 20 (Hb hn);have d:=zz a;have g:¬9223372036854775807<1+t.size:=(by omega);rw[show Sn (CJ n) w=Sn t.data.toList w by rw[a]]at H;clear a;cases pl with
 | true=>go_enter Tryz.func28,Tryz.ntmps28;go_wp2_with fail;refine(H.out).mono ?_;rintro e h ⟨rfl,b⟩;rw[<- Gl rfl];have c:=zz b;clear b;go_wp2;go_ret;exact⟨Gl (by simp[IM,d.out]),c.out⟩
 | false=>go_enter Tryz.func28,Tryz.ntmps28;go_wp2;go_ret;exact⟨rfl,Below.refl _ _⟩
def Km(B:Nat)(x:Option Ex):Prop:=∃e,x=some e/\Ok e/\Fh B e/\(Il e).length<=1000000/\(AR e).length<=1000000
theorem P8{B:Nat}(hB:B<9223372036854775808){x:Option Ex}(hx:Km B x)(pl:Bool)(w:World){b:Nat}{v:XV}(h:DI w b x v):Calls Tryz.prog 29 #[.agg #[.string v.o,.string v.nm,.int .i64 v.n,.slice v.A v.ll v.cap,.int .i64 v.p],.bool pl] w (Sn (Jn pl x) w):=by
 obtain⟨e,rfl,j,l,m,q⟩:=hx;have k:=h e rfl;have c:Below w.heap.size w (w.alloc (.cells #[.string v.o,.string v.nm,.int .i64 v.n,.slice v.A v.ll v.cap,.int .i64 v.p] 81)):=(Below.refl _ _).alloc (Nat.le_refl _) _;have i:=zz (Dc hB e j l (w.alloc (.cells #[.string v.o,.string v.nm,.int .i64 v.n,.slice v.A v.ll v.cap,.int .i64 v.p] 81)) _ _ (k.below c) m);have g:=zz (Fl e j (w.alloc (.cells #[.string v.o,.string v.nm,.int .i64 v.n,.slice v.A v.ll v.cap,.int .i64 v.p] 81)) _ _ (k.below c) q);have a:=zz c;clear h k c j l m q;cases pl with
 | true=>go_enter Tryz.func29,Tryz.ntmps29;go_wp2_with fail;refine(i.out).mono ?_;rintro r s ⟨rfl,d⟩;have f:=zz (a.out.trans (d.mono a.out.size));clear d;go_wp2;go_ret;exact⟨rfl,f.out⟩
 | false=>go_enter Tryz.func29,Tryz.ntmps29;go_wp2_with fail;refine(g.out).mono ?_;rintro r s ⟨rfl,d⟩;have f:=zz (a.out.trans (d.mono a.out.size));clear d;go_wp2;go_ret;exact⟨rfl,f.out⟩
end
section
open Go.RowKit Go.Sort
def Xh(l:List Ad):Prop:=∀d∈l,∃e,d.x=some e
def QI(l:List Ad)(w:World)(o i:Value)(wr:World):Prop:=∃(k:Nat) (A:Option Addr) (cap:Nat),o= .slice A k cap/\i= .int .i64 (k:Int)/\k<=l.length/\AQ wr w.heap.size 83 7 (DW wr w.heap.size) (l.take k) (.slice A k cap)/\Below w.heap.size w wr
def Yc(l:List Ad)(w:World)(e:Ending)(w':World):Prop:=∃A cap,e= .returned (.slice A l.length cap)/\AQ w' w.heap.size 83 7 (DW w' w.heap.size) l (.slice A l.length cap)/\Below w.heap.size w w'
theorem Ho{l:List Ad}{A0:Option Addr}{cap0 b:Nat}(w:World)(hx:Xh l)(hl:l.length<=1000000)(h:AQ w b 118 7 (DH w b) l (.slice A0 l.length cap0)):Calls Tryz.prog 31 #[.slice A0 l.length cap0] w (Yc l w):=by
 obtain⟨i0,V,hz⟩:=Option.map_eq_some_iff.1 EF;simp only[Prod.mk.injEq]at hz;obtain⟨aa,ab,ac⟩:=hz;have al:=zz aa;have am:=zz ab;have an:=zz ac;have HI:=zz V;have HX:=zz hx;have HR:=zz h;obtain⟨n,hn⟩:∃n,n=l.length:=⟨_,rfl⟩;have HN:=zz hn;rw[<- hn]at hl HR ⊢;clear aa ab ac V hx h hn;go_enter Tryz.func31,Tryz.ntmps31;go_wp2;go_loopw [3,4] (fun o i wr=>QI l w o i wr) (fun _ i _=>n - (intOf i).toNat);(case atStart=>exact⟨0,none,0,rfl,rfl,Nat.zero_le _,AQ.nil _ _ _ _ _,Below.refl _ _⟩);case round=>
  obtain⟨k,A,C,rfl,rfl,hk,q,T⟩:=hrel;rw[<- HN.out]at hk;by_cases G:k<n
  · have c4:decide ((k:Int)<(n:Int))=true:=(by simp;omega);have c5:decide (k<n)=true:=(by simpa using G);have kk:k<l.length:=(by rw[<- HN.out];exact G);obtain⟨g,c,ao,hg,⟨v,rfl,hv⟩,z⟩:=HR.out.get (fun a c h=>h.len) k kk;subst ao;obtain⟨e,he⟩:=HX.out _ (List.getElem_mem kk);have ak:=zz (show l.take (k+1)=l.take k++[l[k]]from List.take_succ_eq_append_getElem kk);have HC:=zz (fun(W:World) (y:Below w.heap.size w W)=>(FP e W _ _ (HS.below (by have Z:=hv;rw[he]at Z;exact Z) y)));have k0:(0:Int)<=(k:Int):=(by omega);have k1:(k:Int)<(n:Int):=(by omega);have au:=zz z;have af:=zz he;have m:=hg;obtain⟨cs,hO,Q⟩:=q;have HO:=zz hO;have ag:=zz Q;have HB:=zz T;generalize l[k]=d at*;have N:=zz (show ∀j:World,Below w.heap.size w j->(j.cell? ⟨g,k*7,none⟩=some (.string ⟨d.nm.toArray⟩)/\j.cell? ⟨g,k*7+1,none⟩=some (.string v.o)/\j.cell? ⟨g,k*7+2,none⟩=some (.string v.nm)/\j.cell? ⟨g,k*7+3,none⟩=some (.int .i64 v.n)/\j.cell? ⟨g,k*7+4,none⟩=some (.slice v.A v.ll v.cap)/\j.cell? ⟨g,k*7+5,none⟩=some (.int .i64 v.p)/\j.cell? ⟨g,k*7+6,none⟩=some (.int .i64 ((d.pos:Nat):Int)))from fun W y=>⟨(y.cell (p:=⟨g,k*7,none⟩) m).trans (z 0 _ rfl),(y.cell (p:=⟨g,k*7+1,none⟩) m).trans (z 1 _ rfl),(y.cell (p:=⟨g,k*7+2,none⟩) m).trans (z 2 _ rfl),(y.cell (p:=⟨g,k*7+3,none⟩) m).trans (z 3 _ rfl),(y.cell (p:=⟨g,k*7+4,none⟩) m).trans (z 4 _ rfl),(y.cell (p:=⟨g,k*7+5,none⟩) m).trans (z 5 _ rfl),(y.cell (p:=⟨g,k*7+6,none⟩) m).trans (z 6 _ rfl)⟩);have r:Below w.heap.size w wr:=T;have x:(l.take k).length=k:=(by rw[List.length_take];omega);rw[x]at HO;clear hO Q T hv z he x HR HX;go_wp2_with fail;replace r:=r.drew
    go_region_held3 (fun j=>j.cell? ⟨g,k*7,none⟩=some (.string ⟨d.nm.toArray⟩)/\j.cell? ⟨g,k*7+1,none⟩=some (.string v.o)/\j.cell? ⟨g,k*7+2,none⟩=some (.string v.nm)/\j.cell? ⟨g,k*7+3,none⟩=some (.int .i64 v.n)/\j.cell? ⟨g,k*7+4,none⟩=some (.slice v.A v.ll v.cap)/\j.cell? ⟨g,k*7+5,none⟩=some (.int .i64 v.p)/\j.cell? ⟨g,k*7+6,none⟩=some (.int .i64 ((d.pos:Nat):Int))) (first | exact N.out _ r | exact N.out _ (r.alloc r.size _)) (first
     | (go_at_call 32
        refine(HC.out _ r).mono ?_;rintro e4 M ⟨K,s,J,H,I,f,L,rfl,O,D⟩;have ad:=zz O;have t:=zz ((Below.refl wr.heap.size wr).drew.trans D);replace r:=r.trans (D.mono r.size)
        clear O D)
     | (refine step_append_lies (M.alloc (.cells #[.string ⟨d.nm.toArray⟩,.string K,.string s,.int .i64 J,.slice H I f,.int .i64 L,.int .i64 ((d.pos:Nat):Int)] 83)) rfl (.tmp 11) (.tmp 29) 31 rfl w.heap.size 83 i0 (.agg #[.string ⟨#[]⟩,.string ⟨#[]⟩,.string ⟨#[]⟩,.int .i64 0,.slice none 0 0,.int .i64 0,.int .i64 0]) 7 96 Tryz.underlying31 HI.out al.out am.out an.out rfl (by decide) (.slice A k C) k cs ?_ ?_ ⟨M.heap.size,0,none⟩ 1 1 [.string ⟨d.nm.toArray⟩,.string K,.string s,.int .i64 J,.slice H I f,.int .i64 L,.int .i64 ((d.pos:Nat):Int)] ?_ rfl ?_ ?_ (by omega) (by unfold maxLen;omega) (by omega) ?_ (M.heap.size+1) (by simp) ?_
        · simp[Act.eval]
        · exact BW HO.out (t.out.alloc t.out.size _)
        · simp[Act.eval]
        · exact Go.World.news_of_block (cs:= #[.string ⟨d.nm.toArray⟩,.string K,.string s,.int .i64 J,.slice H I f,.int .i64 L,.int .i64 ((d.pos:Nat):Int)]) (Bx.new M 83 [.string ⟨d.nm.toArray⟩,.string K,.string s,.int .i64 J,.slice H I f,.int .i64 L,.int .i64 ((d.pos:Nat):Int)])
        · intro u hu;simp only[List.mem_cons,List.not_mem_nil,or_false]at hu;rcases hu with rfl | rfl | rfl | rfl | rfl | rfl | rfl<;>rfl
        · have:=r.size;simp;omega
        intro g5 B w5 Y F S ar;have ah:=zz Y;have ae:=zz F;have U:Below w.heap.size w w5:=(Eg (pb:=w.heap.size) (Fr.of r) r.size (Nat.le_refl _) (BW HO.out t.out) F).below (Nat.le_refl _);replace r:=U
        clear Y F S U))
    all_goals
     have x:(l.take k).length=k:=(by rw[List.length_take];omega);have R:=BW HO.out t.out;have aq:w.heap.size<=wr.heap.size:=HB.out.size
     have R5:=AQ.grow (P:=DW) (b:=w.heap.size) (acc:=l.take k) (a:=d) (fun _ _ _ _ _ hk h=>h.keep hk (show ¬(81=83) by decide)) (ag.out.imp (fun _ _ h=>h.keep (Kt.below (E:=E0) t.out) id)) (show DW M w.heap.size d [.string ⟨d.nm.toArray⟩,.string K,.string s,.int .i64 J,.slice H I f,.int .i64 L,.int .i64 ((d.pos:Nat):Int)]from⟨⟨K,s,J,H,I,f,L⟩,rfl,DI.of (lo:=wr.heap.size) (hi:=M.heap.size) aq (fun e' ap=>by
      obtain rfl:e=e':=Option.some.inj (af.out.symm.trans ap)
      exact ad.out)⟩) (by rw[x];exact ah.out) (Cv R ae.out)
     have ai:=zz (show QI l w (.slice (some ⟨g5,0,none⟩) (k+1) B) (.int .i64 ((k:Int)+1)) w5 from⟨k+1,some ⟨g5,0,none⟩,B,rfl,by go_num,kk,by rw[ak.out];exact R5,r⟩);clear R5 R x;go_wp2;go_roundw;(case rel=>exact ai.out);case measure=>simp[intOf];omega
  · obtain rfl:k=n:=(by omega);have c4:decide ((k:Int)<(k:Int))=false:=(by simp);have c5:decide (k<k)=false:=(by simp);have X:=HN.out
    have aj:=zz (show AQ wr w.heap.size 83 7 (DW wr w.heap.size) l (.slice A k C) by
     rw[List.take_of_length_le (by omega)]at q
     exact q)
    have HB:=zz T;clear q T G;go_wp2;go_ret;exact⟨A,C,by rw[<- X];rfl,by rw[<- X];exact aj.out,HB.out⟩
end
end Go.Proofs.YtodijgndbjfbgaaGreatDoor
