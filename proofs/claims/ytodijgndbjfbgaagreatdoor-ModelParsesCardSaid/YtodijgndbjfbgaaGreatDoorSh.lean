import Derived.Test.YtodijgndbjfbgaaGreatDoorSg
import Derived.Test.YtodijgndbjfbgaaGreatDoorSa
import Derived.Test.YtodijgndbjfbgaaGreatDoorSf
import Derived.WalkSmall
import Derived.Maps.AppendAt
import Derived.Laws.AppendOwnNone
namespace Go.Proofs.YtodijgndbjfbgaaGreatDoor
set_option maxHeartbeats 16000000
set_option maxRecDepth 100000
section
section
open Go.RowKit
theorem NB{d:Dp}{lv:Nat}(hR:RC 183 (Ah d) lv)(hS:De (Ah d)):RC 182 (EY d) lv:=by
 intro xb R w C h;have hx:=h.ltx;have hr:=h.ltr;have s:=zz hR;have E:=zz hS;have T:=zz h;clear h hR hS;go_enter Tryz.func182,Tryz.ntmps182;go_wp2_with fail;refine AA (P:=fun W=>XR W xb R C lv/\Ai W w.heap.size (.string ⟨#[]⟩) (.string ⟨#[]⟩) (.int .i64 0) (.slice none 0 0) (.int .i64 0)/\Fr w.heap.size R w W) ⟨T.out.alloc _,Ai.new _ _ _ _ _ _,(Fr.refl _ _ _).alloc (Nat.le_refl _) _⟩ ?_;rintro W ⟨Q,u,m⟩;refine(L8 (k:=7) s.out E.out (by decide) W Q).mono ?_;intro e w1 B;clear Q;have y:EY d C=Ar 7 (Ah d) C:=rfl;have hs:=u.lt;have t:=zz y;clear y;cases f:Ar 7 (Ah d) C with
 | er c q=>
   rw[f]at B;obtain⟨b,rfl,aa,N,g⟩:=B;have a:=u.fr g (by omega);obtain⟨U,V,X,Y,Z⟩:=a.cells;obtain⟨z0,z1,z2,z3,z4⟩:=a.frozen;have L:=a.lt;have i:=zz a;have S:=zz N;have j:=zz (m.on m.size g);have s:=zz (t.out.trans f);clear a N m g u f;go_wp2;obtain⟨G,H,I,J,K⟩:=(i.out.set5 (.string ⟨#[]⟩) (.string ⟨#[]⟩) (.int .i64 0) (.slice none 0 0) (.int .i64 0)).cells;rw[s.out];refine bodyPost_ret (v:=.tuple #[.agg #[.string ⟨#[]⟩,.string ⟨#[]⟩,.int .i64 0,.slice none 0 0,.int .i64 0],.iface 101 (.pointer (some ⟨b,0,none⟩))]) (by simp[results,Tryz.results182,go_sem,G,H,I,J,K]) rfl ⟨b,rfl,by omega,?_,?_⟩
   · exact S.out.far5 (by omega) _ _ _ _ _
   · exact j.out.set5 (Nat.le_refl _) _ _ _ _ _
 | ok x r=>
   rw[f]at B;obtain⟨o,nm,n,A,M,l,p,rfl,O,z,g⟩:=B;have a:=u.fr g (by omega);obtain⟨U,V,X,Y,Z⟩:=a.cells;obtain⟨z0,z1,z2,z3,z4⟩:=a.frozen;have L:=a.lt;have i:=zz a;have D:=zz O;have F:=zz z;have j:=zz (m.on m.size g);have s:=zz (t.out.trans f);clear a O z m g u f;go_wp2;obtain⟨G,H,I,J,K⟩:=(i.out.set5 (.string o) (.string nm) (.int .i64 n) (.slice A M l) (.int .i64 p)).cells;rw[s.out];refine bodyPost_ret (v:=.tuple #[.agg #[.string o,.string nm,.int .i64 n,.slice A M l,.int .i64 p],.nilIface]) (by simp[results,Tryz.results182,go_sem,G,H,I,J,K]) rfl ⟨o,nm,n,A,M,l,p,rfl,?_,?_,?_⟩
   · exact(D.out.far5 (.inl (by omega)) _ _ _ _ _).mono (by omega) (by simp)
   · exact F.out.set5 i.out (by omega) _ _ _ _ _
   · exact j.out.set5 (Nat.le_refl _) _ _ _ _ _
theorem WD{d:Dp}{lv:Nat}(hR:RC 182 (EY d) lv)(hS:De (EY d)):RC 181 (Cu d) lv:=by
 intro xb R w C h;have hx:=h.ltx;have hr:=h.ltr;have s:=zz hR;have E:=zz hS;have T:=zz h;clear h hR hS;go_enter Tryz.func181,Tryz.ntmps181;go_wp2_with fail;refine AA (P:=fun W=>XR W xb R C lv/\Ai W w.heap.size (.string ⟨#[]⟩) (.string ⟨#[]⟩) (.int .i64 0) (.slice none 0 0) (.int .i64 0)/\Fr w.heap.size R w W) ⟨T.out.alloc _,Ai.new _ _ _ _ _ _,(Fr.refl _ _ _).alloc (Nat.le_refl _) _⟩ ?_;rintro W ⟨Q,u,m⟩;refine(Jd (k:=6) s.out E.out (by decide) W Q).mono ?_;intro e w1 B;clear Q;have y:Cu d C=Ar 6 (EY d) C:=rfl;have hs:=u.lt;have t:=zz y;clear y;cases f:Ar 6 (EY d) C with
 | er c q=>
   rw[f]at B;obtain⟨b,rfl,aa,N,g⟩:=B;have a:=u.fr g (by omega);obtain⟨U,V,X,Y,Z⟩:=a.cells;obtain⟨z0,z1,z2,z3,z4⟩:=a.frozen;have L:=a.lt;have i:=zz a;have S:=zz N;have j:=zz (m.on m.size g);have s:=zz (t.out.trans f);clear a N m g u f;go_wp2;obtain⟨G,H,I,J,K⟩:=(i.out.set5 (.string ⟨#[]⟩) (.string ⟨#[]⟩) (.int .i64 0) (.slice none 0 0) (.int .i64 0)).cells;rw[s.out];refine bodyPost_ret (v:=.tuple #[.agg #[.string ⟨#[]⟩,.string ⟨#[]⟩,.int .i64 0,.slice none 0 0,.int .i64 0],.iface 101 (.pointer (some ⟨b,0,none⟩))]) (by simp[results,Tryz.results181,go_sem,G,H,I,J,K]) rfl ⟨b,rfl,by omega,?_,?_⟩
   · exact S.out.far5 (by omega) _ _ _ _ _
   · exact j.out.set5 (Nat.le_refl _) _ _ _ _ _
 | ok x r=>
   rw[f]at B;obtain⟨o,nm,n,A,M,l,p,rfl,O,z,g⟩:=B;have a:=u.fr g (by omega);obtain⟨U,V,X,Y,Z⟩:=a.cells;obtain⟨z0,z1,z2,z3,z4⟩:=a.frozen;have L:=a.lt;have i:=zz a;have D:=zz O;have F:=zz z;have j:=zz (m.on m.size g);have s:=zz (t.out.trans f);clear a O z m g u f;go_wp2;obtain⟨G,H,I,J,K⟩:=(i.out.set5 (.string o) (.string nm) (.int .i64 n) (.slice A M l) (.int .i64 p)).cells;rw[s.out];refine bodyPost_ret (v:=.tuple #[.agg #[.string o,.string nm,.int .i64 n,.slice A M l,.int .i64 p],.nilIface]) (by simp[results,Tryz.results181,go_sem,G,H,I,J,K]) rfl ⟨o,nm,n,A,M,l,p,rfl,?_,?_,?_⟩
   · exact(D.out.far5 (.inl (by omega)) _ _ _ _ _).mono (by omega) (by simp)
   · exact F.out.set5 i.out (by omega) _ _ _ _ _
   · exact j.out.set5 (Nat.le_refl _) _ _ _ _ _
theorem UV{d:Dp}{lv:Nat}(hR:RC 178 (Ch d) lv)(hS:De (Ch d)):RC 176 (Eb d) lv:=by
 intro xb R w C h;have hx:=h.ltx;have hr:=h.ltr;have s:=zz hR;have E:=zz hS;have T:=zz h;clear h hR hS;go_enter Tryz.func176,Tryz.ntmps176;go_wp2_with fail;refine AA (P:=fun W=>XR W xb R C lv/\Ai W w.heap.size (.string ⟨#[]⟩) (.string ⟨#[]⟩) (.int .i64 0) (.slice none 0 0) (.int .i64 0)/\Fr w.heap.size R w W) ⟨T.out.alloc _,Ai.new _ _ _ _ _ _,(Fr.refl _ _ _).alloc (Nat.le_refl _) _⟩ ?_;rintro W ⟨Q,u,m⟩;refine(Pl (k:=3) s.out E.out (by decide) W Q).mono ?_;intro e w1 B;clear Q;have y:Eb d C=Ar 3 (Ch d) C:=rfl;have hs:=u.lt;have t:=zz y;clear y;cases f:Ar 3 (Ch d) C with
 | er c q=>
   rw[f]at B;obtain⟨b,rfl,aa,N,g⟩:=B;have a:=u.fr g (by omega);obtain⟨U,V,X,Y,Z⟩:=a.cells;obtain⟨z0,z1,z2,z3,z4⟩:=a.frozen;have L:=a.lt;have i:=zz a;have S:=zz N;have j:=zz (m.on m.size g);have s:=zz (t.out.trans f);clear a N m g u f;go_wp2;obtain⟨G,H,I,J,K⟩:=(i.out.set5 (.string ⟨#[]⟩) (.string ⟨#[]⟩) (.int .i64 0) (.slice none 0 0) (.int .i64 0)).cells;rw[s.out];refine bodyPost_ret (v:=.tuple #[.agg #[.string ⟨#[]⟩,.string ⟨#[]⟩,.int .i64 0,.slice none 0 0,.int .i64 0],.iface 101 (.pointer (some ⟨b,0,none⟩))]) (by simp[results,Tryz.results176,go_sem,G,H,I,J,K]) rfl ⟨b,rfl,by omega,?_,?_⟩
   · exact S.out.far5 (by omega) _ _ _ _ _
   · exact j.out.set5 (Nat.le_refl _) _ _ _ _ _
 | ok x r=>
   rw[f]at B;obtain⟨o,nm,n,A,M,l,p,rfl,O,z,g⟩:=B;have a:=u.fr g (by omega);obtain⟨U,V,X,Y,Z⟩:=a.cells;obtain⟨z0,z1,z2,z3,z4⟩:=a.frozen;have L:=a.lt;have i:=zz a;have D:=zz O;have F:=zz z;have j:=zz (m.on m.size g);have s:=zz (t.out.trans f);clear a O z m g u f;go_wp2;obtain⟨G,H,I,J,K⟩:=(i.out.set5 (.string o) (.string nm) (.int .i64 n) (.slice A M l) (.int .i64 p)).cells;rw[s.out];refine bodyPost_ret (v:=.tuple #[.agg #[.string o,.string nm,.int .i64 n,.slice A M l,.int .i64 p],.nilIface]) (by simp[results,Tryz.results176,go_sem,G,H,I,J,K]) rfl ⟨o,nm,n,A,M,l,p,rfl,?_,?_,?_⟩
   · exact(D.out.far5 (.inl (by omega)) _ _ _ _ _).mono (by omega) (by simp)
   · exact F.out.set5 i.out (by omega) _ _ _ _ _
   · exact j.out.set5 (Nat.le_refl _) _ _ _ _ _
theorem Ti{d:Dp}{lv:Nat}(hR:RC 176 (Eb d) lv)(hS:De (Eb d)):RC 173 (CK d) lv:=by
 intro xb R w C h;have hx:=h.ltx;have hr:=h.ltr;have s:=zz hR;have E:=zz hS;have T:=zz h;clear h hR hS;go_enter Tryz.func173,Tryz.ntmps173;go_wp2_with fail;refine AA (P:=fun W=>XR W xb R C lv/\Ai W w.heap.size (.string ⟨#[]⟩) (.string ⟨#[]⟩) (.int .i64 0) (.slice none 0 0) (.int .i64 0)/\Fr w.heap.size R w W) ⟨T.out.alloc _,Ai.new _ _ _ _ _ _,(Fr.refl _ _ _).alloc (Nat.le_refl _) _⟩ ?_;rintro W ⟨Q,u,m⟩;refine(Me (k:=2) s.out E.out (by decide) W Q).mono ?_;intro e w1 B;clear Q;have y:CK d C=Ar 2 (Eb d) C:=rfl;have hs:=u.lt;have t:=zz y;clear y;cases f:Ar 2 (Eb d) C with
 | er c q=>
   rw[f]at B;obtain⟨b,rfl,aa,N,g⟩:=B;have a:=u.fr g (by omega);obtain⟨U,V,X,Y,Z⟩:=a.cells;obtain⟨z0,z1,z2,z3,z4⟩:=a.frozen;have L:=a.lt;have i:=zz a;have S:=zz N;have j:=zz (m.on m.size g);have s:=zz (t.out.trans f);clear a N m g u f;go_wp2;obtain⟨G,H,I,J,K⟩:=(i.out.set5 (.string ⟨#[]⟩) (.string ⟨#[]⟩) (.int .i64 0) (.slice none 0 0) (.int .i64 0)).cells;rw[s.out];refine bodyPost_ret (v:=.tuple #[.agg #[.string ⟨#[]⟩,.string ⟨#[]⟩,.int .i64 0,.slice none 0 0,.int .i64 0],.iface 101 (.pointer (some ⟨b,0,none⟩))]) (by simp[results,Tryz.results173,go_sem,G,H,I,J,K]) rfl ⟨b,rfl,by omega,?_,?_⟩
   · exact S.out.far5 (by omega) _ _ _ _ _
   · exact j.out.set5 (Nat.le_refl _) _ _ _ _ _
 | ok x r=>
   rw[f]at B;obtain⟨o,nm,n,A,M,l,p,rfl,O,z,g⟩:=B;have a:=u.fr g (by omega);obtain⟨U,V,X,Y,Z⟩:=a.cells;obtain⟨z0,z1,z2,z3,z4⟩:=a.frozen;have L:=a.lt;have i:=zz a;have D:=zz O;have F:=zz z;have j:=zz (m.on m.size g);have s:=zz (t.out.trans f);clear a O z m g u f;go_wp2;obtain⟨G,H,I,J,K⟩:=(i.out.set5 (.string o) (.string nm) (.int .i64 n) (.slice A M l) (.int .i64 p)).cells;rw[s.out];refine bodyPost_ret (v:=.tuple #[.agg #[.string o,.string nm,.int .i64 n,.slice A M l,.int .i64 p],.nilIface]) (by simp[results,Tryz.results173,go_sem,G,H,I,J,K]) rfl ⟨o,nm,n,A,M,l,p,rfl,?_,?_,?_⟩
   · exact(D.out.far5 (.inl (by omega)) _ _ _ _ _).mono (by omega) (by simp)
   · exact F.out.set5 i.out (by omega) _ _ _ _ _
   · exact j.out.set5 (Nat.le_refl _) _ _ _ _ _
theorem UT{d:Dp}{lv:Nat}(hR:RC 181 (Cu d) lv):RC 180 (BC d) lv:=by
 intro xb V w us h;have hx:=h.ltx;have hr:=h.ltr;have HR:=zz hR;have HD:=zz hR;have HX:=zz h;clear h hR;go_enter Tryz.func180,Tryz.ntmps180;go_wp2_with fail;refine AA (P:=fun W=>XR W xb V us lv/\Ai W w.heap.size (.string ⟨#[]⟩) (.string ⟨#[]⟩) (.int .i64 0) (.slice none 0 0) (.int .i64 0)/\Fr w.heap.size V w W) ⟨HX.out.alloc _,Ai.new _ _ _ _ _ _,(Fr.refl _ _ _).alloc (Nat.le_refl _) _⟩ ?_;rintro W ⟨hX,hB,hF⟩;refine(HR.out xb V W us hX).mono ?_;intro e w1 U;have hs:=hB.lt;cases i:Cu d us with
 | er c q=>
   rw[i]at U;obtain⟨b,rfl,aD,hA,u⟩:=U;have k:=hB.fr u (by omega);obtain⟨b0,b1,b2,b3,b4⟩:=k.cells;obtain⟨z0,z1,z2,z3,z4⟩:=k.frozen;have aE:=k.lt;have Z:=zz k;have HA:=zz hA;have O:=zz (hF.on hF.size u);have m:=zz (show BC d us= .er c q by rw[BC,i];rfl);clear k hA hF u hX hB i;go_wp2;obtain⟨d0,d1,d2,d3,d4⟩:=((Z.out.set5 (.string ⟨#[]⟩) (.string ⟨#[]⟩) (.int .i64 0) (.slice none 0 0) (.int .i64 0)).alloc (.cells #[.string ⟨#[]⟩,.string ⟨#[]⟩,.int .i64 0,.slice none 0 0,.int .i64 0] 57)).cells;rw[m.out];refine bodyPost_ret (v:=.tuple #[.agg #[.string ⟨#[]⟩,.string ⟨#[]⟩,.int .i64 0,.slice none 0 0,.int .i64 0],.iface 101 (.pointer (some ⟨b,0,none⟩))]) (by simp[results,Tryz.results180,go_sem,d0,d1,d2,d3,d4]) rfl ⟨b,rfl,by omega,?_,?_⟩
   · exact(HA.out.far5 (by omega) _ _ _ _ _).alloc _
   · exact(O.out.set5 (Nat.le_refl _) _ _ _ _ _).alloc (by simp;omega) _
 | ok x r=>
   rw[i]at U;obtain⟨o,nm,n,A,ll,s,p,rfl,hC,T,u⟩:=U;have k:=hB.fr u (by omega);have aE:=k.lt;obtain⟨c0,_,_⟩:=T.cells;have aI:=T.ltx;have Z:=zz k;have az:=zz T;have aw:=zz hC;have O:=zz (hF.on hF.size u);have ae:=zz i;clear k T hC hF u hX hB i;go_wp2_with fail;refine AA (P:=fun X=>XR X xb V r lv/\Ai X w.heap.size (.string ⟨#[]⟩) (.string ⟨#[]⟩) (.int .i64 0) (.slice none 0 0) (.int .i64 0)/\Ai X w1.heap.size (.string o) (.string nm) (.int .i64 n) (.slice A ll s) (.int .i64 p)/\HC X 57 W.heap.size w1.heap.size x (BM o nm n A ll s p)/\Fr w.heap.size V w X) ⟨az.out.alloc _,Z.out.alloc _,Ai.new _ _ _ _ _ _,aw.out.alloc _,O.out.alloc O.out.size _⟩ ?_;rintro X ⟨M,Q,K,S,F⟩;have aK:=K.lt;clear c0 aI;by_cases hi:sg 5 (hd r)=true
   rotate_left
   · have ah:sg 5 (hd r)=false:=(by simpa using hi);refine(Nx X M 5 (by decide) ah).mono ?_;rintro e w3 ⟨rfl,G⟩;have R:=Q.below G;have ag:=K.below G;have aj:=S.below G;have aF:=ag.lt;obtain⟨b0,b1,b2,b3,b4⟩:=R.cells;obtain⟨z0,z1,z2,z3,z4⟩:=R.frozen;obtain⟨e0,e1,e2,e3,e4⟩:=ag.cells;have B:=zz R;have ab:=zz aj;have af:=zz (M.below G);have C:=zz (F.onB F.size G);have m:=zz (show BC d us= .ok x r by rw[BC,ae.out];simp[Fd,ah]);clear Q K S M F R ag aj G hi ah;go_wp2;obtain⟨d0,d1,d2,d3,d4⟩:=(B.out.set5 (.string o) (.string nm) (.int .i64 n) (.slice A ll s) (.int .i64 p)).cells;rw[m.out];refine bodyPost_ret (v:=.tuple #[.agg #[.string o,.string nm,.int .i64 n,.slice A ll s,.int .i64 p],.nilIface]) (by simp[results,Tryz.results180,go_sem,d0,d1,d2,d3,d4]) rfl ⟨o,nm,n,A,ll,s,p,rfl,?_,?_,?_⟩
     · exact(ab.out.far5 (.inl (by omega)) _ _ _ _ _).mono (by omega) (by simp;omega)
     · exact af.out.set5 B.out (by omega) _ _ _ _ _
     · exact C.out.set5 (Nat.le_refl _) _ _ _ _ _
   refine(LA X M 5 hi).mono ?_;rintro e w3 ⟨rfl,an,L⟩;have B:=zz (Q.fr L (by omega));have ac:=zz (K.fr L (by omega));have ab:=zz (S.fr L (by omega));have af:=zz an;have C:=zz (F.on F.size L);have HI:=zz hi;clear Q K S M F an L hi;go_wp2_with fail;have aF:=ac.out.lt;have aJ:=B.out.lt;refine(HD.out xb V w3 r.tail af.out).mono ?_;intro e w4 U;cases H:Cu d r.tail with
   | er c q=>
     rw[H]at U;obtain⟨b,rfl,aD,hA,f⟩:=U;have t:=ac.out.fr f (by omega);have J:=B.out.fr f (by omega);obtain⟨e0,e1,e2,e3,e4⟩:=t.cells;have aG:=t.lt;have au:=zz hA;have aa:=zz J;have I:=zz (C.out.on C.out.size f);have m:=zz (show BC d us= .er c q by rw[BC,ae.out];simp[Fd,HI.out,H,DX]);clear t J hA f H;go_wp2_with fail;refine AA (P:=fun D=>EC D b q c/\Ai D w.heap.size (.string ⟨#[]⟩) (.string ⟨#[]⟩) (.int .i64 0) (.slice none 0 0) (.int .i64 0)/\Fr w.heap.size V w D) ⟨au.out.alloc _,aa.out.alloc _,I.out.alloc I.out.size _⟩ ?_;rintro D ⟨ai,E,z⟩;refine(Hu _ _ _ _ _ _ _ _ _ _ _ _ _ _ _ _ _ D).mono ?_;rintro aC w5 ⟨rfl,l⟩;have a:=E.below l;obtain⟨b0,b1,b2,b3,b4⟩:=a.cells;obtain⟨z0,z1,z2,z3,z4⟩:=a.frozen;have aH:=a.lt;have N:=zz a;have av:=zz (ai.below l);have ad:=zz (z.onB z.size l);clear a ai E z l;go_wp2;obtain⟨d0,d1,d2,d3,d4⟩:=(N.out.set5 (.string ⟨#[]⟩) (.string ⟨#[]⟩) (.int .i64 0) (.slice none 0 0) (.int .i64 0)).cells;rw[m.out];refine bodyPost_ret (v:=.tuple #[.agg #[.string ⟨#[]⟩,.string ⟨#[]⟩,.int .i64 0,.slice none 0 0,.int .i64 0],.iface 101 (.pointer (some ⟨b,0,none⟩))]) (by simp[results,Tryz.results180,go_sem,d0,d1,d2,d3,d4]) rfl ⟨b,rfl,by omega,?_,?_⟩
     · exact av.out.far5 (by omega) _ _ _ _ _
     · exact ad.out.set5 (Nat.le_refl _) _ _ _ _ _
   | ok y r2=>
     rw[H]at U;obtain⟨o2,ar,n2,A2,aq,Y,p2,rfl,ak,ao,f⟩:=U;have t:=ac.out.fr f (by omega);have J:=B.out.fr f (by omega);obtain⟨e0,e1,e2,e3,e4⟩:=t.cells;have aG:=t.lt;have aA:=zz ao;have aa:=zz J;have ay:=zz (show HS w4 57 (fun j=>w.heap.size<j) x (BM o nm n A ll s p)from(ab.out.fr f (by omega)).wide (fun j _ hj=>by unfold Rg at hj;omega));have ax:=zz (show HS w4 57 (fun j=>w.heap.size<j) y (BM o2 ar n2 A2 aq Y p2)from ak.wide (fun j _ hj=>by unfold Rg at hj;omega));have I:=zz (C.out.on C.out.size f);have m:=zz (show BC d us= .ok (.bin (hd r).text x y x.pos) r2 by rw[BC,ae.out];simp[Fd,HI.out,H,DX]);clear t J ao ak f H;go_wp2_with fail;refine AA (P:=fun D=>XR D xb V r2 lv/\Ai D w.heap.size (.string ⟨#[]⟩) (.string ⟨#[]⟩) (.int .i64 0) (.slice none 0 0) (.int .i64 0)/\HS D 57 (fun j=>w.heap.size<j) x (BM o nm n A ll s p)/\HS D 57 (fun j=>w.heap.size<j) y (BM o2 ar n2 A2 aq Y p2)/\Fr w.heap.size V w D) ⟨aA.out.alloc _,aa.out.alloc _,ay.out.alloc _,ax.out.alloc _,I.out.alloc I.out.size _⟩ ?_;rintro D ⟨ap,E,am,al,z⟩;have aL:=E.lt;refine(Hi (hd r).text D am al (fun j hj=>by omega)).mono ?_;rintro aC w5 ⟨g,rfl,hJ,l⟩;have a:=E.below l;obtain⟨b0,b1,b2,b3,b4⟩:=a.cells;obtain⟨z0,z1,z2,z3,z4⟩:=a.frozen;have aH:=a.lt;have N:=zz a;have aB:=zz (ap.below l);have ad:=zz (z.onB z.size l);have HJ:=zz hJ;clear a ap E z l am al hJ;go_wp2;obtain⟨d0,d1,d2,d3,d4⟩:=(N.out.set5 (.string ⟨(hd r).text.toArray⟩) (.string ⟨#[]⟩) (.int .i64 0) (.slice (some ⟨g,0,none⟩) 2 2) (.int .i64 p)).cells;rw[m.out];refine bodyPost_ret (v:=.tuple #[.agg #[.string ⟨(hd r).text.toArray⟩,.string ⟨#[]⟩,.int .i64 0,.slice (some ⟨g,0,none⟩) 2 2,.int .i64 p],.nilIface]) (by simp[results,Tryz.results180,go_sem,d0,d1,d2,d3,d4]) rfl ⟨_,_,_,_,_,_,_,rfl,?_,?_,?_⟩
     · exact(HJ.out.far5S (by omega) _ _ _ _ _).wide (fun j hj hS=>by simp at hj;unfold Rg;simp;omega)
     · exact aB.out.set5 N.out (by omega) _ _ _ _ _
     · exact ad.out.set5 (Nat.le_refl _) _ _ _ _ _
theorem Uk{d:Dp}{lv:Nat}(hR:RC 173 (CK d) lv)(hD:DC 169 d.i lv):RC 169 (Am d) lv:=by
 intro xb X w us h;have hx:=h.ltx;have hr:=h.ltr;have HR:=zz hR;have HD:=zz hD;have HX:=zz h;clear h hR hD;go_enter Tryz.func169,Tryz.ntmps169;go_wp2_with fail;refine AA (P:=fun W=>XR W xb X us lv/\Ai W w.heap.size (.string ⟨#[]⟩) (.string ⟨#[]⟩) (.int .i64 0) (.slice none 0 0) (.int .i64 0)/\Fr w.heap.size X w W) ⟨HX.out.alloc _,Ai.new _ _ _ _ _ _,(Fr.refl _ _ _).alloc (Nat.le_refl _) _⟩ ?_;rintro W ⟨hX,hB,hF⟩;refine(HR.out xb X W us hX).mono ?_;intro e w1 V;have hs:=hB.lt;cases k:CK d us with
 | er c q=>
   rw[k]at V;obtain⟨b,rfl,aD,hA,z⟩:=V;have l:=hB.fr z (by omega);obtain⟨b0,b1,b2,b3,b4⟩:=l.cells;obtain⟨z0,z1,z2,z3,z4⟩:=l.frozen;have aE:=l.lt;have Z:=zz l;have HA:=zz hA;have Q:=zz (hF.on hF.size z);have s:=zz (show Am d us= .er c q by rw[Am,k];rfl);clear l hA hF z hX hB k;go_wp2;obtain⟨d0,d1,d2,d3,d4⟩:=((Z.out.set5 (.string ⟨#[]⟩) (.string ⟨#[]⟩) (.int .i64 0) (.slice none 0 0) (.int .i64 0)).alloc (.cells #[.string ⟨#[]⟩,.string ⟨#[]⟩,.int .i64 0,.slice none 0 0,.int .i64 0] 57)).cells;rw[s.out];refine bodyPost_ret (v:=.tuple #[.agg #[.string ⟨#[]⟩,.string ⟨#[]⟩,.int .i64 0,.slice none 0 0,.int .i64 0],.iface 101 (.pointer (some ⟨b,0,none⟩))]) (by simp[results,Tryz.results169,go_sem,d0,d1,d2,d3,d4]) rfl ⟨b,rfl,by omega,?_,?_⟩
   · exact(HA.out.far5 (by omega) _ _ _ _ _).alloc _
   · exact(Q.out.set5 (Nat.le_refl _) _ _ _ _ _).alloc (by simp;omega) _
 | ok x r=>
   rw[k]at V;obtain⟨o,nm,n,A,ll,t,p,rfl,hC,U,z⟩:=V;have l:=hB.fr z (by omega);have aE:=l.lt;obtain⟨c0,_,_⟩:=U.cells;have aI:=U.ltx;have Z:=zz l;have az:=zz U;have aw:=zz hC;have Q:=zz (hF.on hF.size z);have ae:=zz k;clear l U hC hF z hX hB k;go_wp2_with fail;refine AA (P:=fun W2=>XR W2 xb X r lv/\Ai W2 w.heap.size (.string ⟨#[]⟩) (.string ⟨#[]⟩) (.int .i64 0) (.slice none 0 0) (.int .i64 0)/\Ai W2 w1.heap.size (.string o) (.string nm) (.int .i64 n) (.slice A ll t) (.int .i64 p)/\HC W2 57 W.heap.size w1.heap.size x (BM o nm n A ll t p)/\Fr w.heap.size X w W2) ⟨az.out.alloc _,Z.out.alloc _,Ai.new _ _ _ _ _ _,aw.out.alloc _,Q.out.alloc Q.out.size _⟩ ?_;rintro W2 ⟨N,R,L,T,G⟩;have aK:=L.lt;clear c0 aI;by_cases hi:AG (hd r) [61,62]=true
   rotate_left
   · have ah:AG (hd r) [61,62]=false:=(by simpa using hi);refine(N.skip_no ⟨#[61,62]⟩ ah).mono ?_;rintro e w3 ⟨rfl,H⟩;have S:=R.below H;have ag:=L.below H;have aj:=T.below H;have aF:=ag.lt;obtain⟨b0,b1,b2,b3,b4⟩:=S.cells;obtain⟨z0,z1,z2,z3,z4⟩:=S.frozen;obtain⟨e0,e1,e2,e3,e4⟩:=ag.cells;have C:=zz S;have ab:=zz aj;have af:=zz (N.below H);have D:=zz (G.onB G.size H);have s:=zz (show Am d us= .ok x r by rw[Am,ae.out];simp[Fm,ah]);clear R L T N G S ag aj H hi ah;go_wp2;obtain⟨d0,d1,d2,d3,d4⟩:=(C.out.set5 (.string o) (.string nm) (.int .i64 n) (.slice A ll t) (.int .i64 p)).cells;rw[s.out];refine bodyPost_ret (v:=.tuple #[.agg #[.string o,.string nm,.int .i64 n,.slice A ll t,.int .i64 p],.nilIface]) (by simp[results,Tryz.results169,go_sem,d0,d1,d2,d3,d4]) rfl ⟨o,nm,n,A,ll,t,p,rfl,?_,?_,?_⟩
     · exact(ab.out.far5 (.inl (by omega)) _ _ _ _ _).mono (by omega) (by simp;omega)
     · exact af.out.set5 C.out (by omega) _ _ _ _ _
     · exact D.out.set5 (Nat.le_refl _) _ _ _ _ _
   refine(N.skip_yes ⟨#[61,62]⟩ hi).mono ?_;rintro e w3 ⟨rfl,an,M⟩;have C:=zz (R.fr M (by omega));have ac:=zz (L.fr M (by omega));have ab:=zz (T.fr M (by omega));have af:=zz an;have D:=zz (G.on G.size M);have HI:=zz hi;clear R L T N G an M hi;go_wp2_with fail;have aF:=ac.out.lt;have aJ:=C.out.lt;refine(HD.out xb X w3 r.tail af.out).mono ?_;intro e w4 V;cases I:d.i r.tail with
   | er c q=>
     rw[I]at V;obtain⟨b,rfl,aD,hA,f⟩:=V;have u:=ac.out.fr f (by omega);have K:=C.out.fr f (by omega);obtain⟨e0,e1,e2,e3,e4⟩:=u.cells;have aG:=u.lt;have au:=zz hA;have aa:=zz K;have J:=zz (D.out.on D.out.size f);have s:=zz (show Am d us= .er c q by rw[Am,ae.out];simp[Fm,HI.out,I,DX]);clear u K hA f I;go_wp2_with fail;refine AA (P:=fun E=>EC E b q c/\Ai E w.heap.size (.string ⟨#[]⟩) (.string ⟨#[]⟩) (.int .i64 0) (.slice none 0 0) (.int .i64 0)/\Fr w.heap.size X w E) ⟨au.out.alloc _,aa.out.alloc _,J.out.alloc J.out.size _⟩ ?_;rintro E ⟨ai,F,B⟩;refine(Hu _ _ _ _ _ _ _ _ _ _ _ _ _ _ _ _ _ E).mono ?_;rintro aC w5 ⟨rfl,m⟩;have a:=F.below m;obtain⟨b0,b1,b2,b3,b4⟩:=a.cells;obtain⟨z0,z1,z2,z3,z4⟩:=a.frozen;have aH:=a.lt;have O:=zz a;have av:=zz (ai.below m);have ad:=zz (B.onB B.size m);clear a ai F B m;go_wp2;obtain⟨d0,d1,d2,d3,d4⟩:=(O.out.set5 (.string ⟨#[]⟩) (.string ⟨#[]⟩) (.int .i64 0) (.slice none 0 0) (.int .i64 0)).cells;rw[s.out];refine bodyPost_ret (v:=.tuple #[.agg #[.string ⟨#[]⟩,.string ⟨#[]⟩,.int .i64 0,.slice none 0 0,.int .i64 0],.iface 101 (.pointer (some ⟨b,0,none⟩))]) (by simp[results,Tryz.results169,go_sem,d0,d1,d2,d3,d4]) rfl ⟨b,rfl,by omega,?_,?_⟩
     · exact av.out.far5 (by omega) _ _ _ _ _
     · exact ad.out.set5 (Nat.le_refl _) _ _ _ _ _
   | ok y r2=>
     rw[I]at V;obtain⟨o2,ar,n2,A2,aq,Y,p2,rfl,ak,ao,f⟩:=V;have u:=ac.out.fr f (by omega);have K:=C.out.fr f (by omega);obtain⟨e0,e1,e2,e3,e4⟩:=u.cells;have aG:=u.lt;have aA:=zz ao;have aa:=zz K;have ay:=zz (show HS w4 57 (fun j=>w.heap.size<j) x (BM o nm n A ll t p)from(ab.out.fr f (by omega)).wide (fun j _ hj=>by unfold Rg at hj;omega));have ax:=zz (show HS w4 57 (fun j=>w.heap.size<j) y (BM o2 ar n2 A2 aq Y p2)from ak.wide (fun j _ hj=>by unfold Rg at hj;omega));have J:=zz (D.out.on D.out.size f);have s:=zz (show Am d us= .ok (.bin [61,62] x y x.pos) r2 by rw[Am,ae.out];simp[Fm,HI.out,I,DX]);clear u K ao ak f I;go_wp2_with fail;refine AA (P:=fun E=>XR E xb X r2 lv/\Ai E w.heap.size (.string ⟨#[]⟩) (.string ⟨#[]⟩) (.int .i64 0) (.slice none 0 0) (.int .i64 0)/\HS E 57 (fun j=>w.heap.size<j) x (BM o nm n A ll t p)/\HS E 57 (fun j=>w.heap.size<j) y (BM o2 ar n2 A2 aq Y p2)/\Fr w.heap.size X w E) ⟨aA.out.alloc _,aa.out.alloc _,ay.out.alloc _,ax.out.alloc _,J.out.alloc J.out.size _⟩ ?_;rintro E ⟨ap,F,am,al,B⟩;have aL:=F.lt;refine(Hi [61,62] E am al (fun j hj=>by omega)).mono ?_;rintro aC w5 ⟨g,rfl,hJ,m⟩;have a:=F.below m;obtain⟨b0,b1,b2,b3,b4⟩:=a.cells;obtain⟨z0,z1,z2,z3,z4⟩:=a.frozen;have aH:=a.lt;have O:=zz a;have aB:=zz (ap.below m);have ad:=zz (B.onB B.size m);have HJ:=zz hJ;clear a ap F B m am al hJ;go_wp2;obtain⟨d0,d1,d2,d3,d4⟩:=(O.out.set5 (.string ⟨#[61,62]⟩) (.string ⟨#[]⟩) (.int .i64 0) (.slice (some ⟨g,0,none⟩) 2 2) (.int .i64 p)).cells;rw[s.out];refine bodyPost_ret (v:=.tuple #[.agg #[.string ⟨#[61,62]⟩,.string ⟨#[]⟩,.int .i64 0,.slice (some ⟨g,0,none⟩) 2 2,.int .i64 p],.nilIface]) (by simp[results,Tryz.results169,go_sem,d0,d1,d2,d3,d4]) rfl ⟨_,_,_,_,_,_,_,rfl,?_,?_,?_⟩
     · exact(HJ.out.far5S (by omega) _ _ _ _ _).wide (fun j hj hS=>by simp at hj;unfold Rg;simp;omega)
     · exact aB.out.set5 O.out (by omega) _ _ _ _ _
     · exact ad.out.set5 (Nat.le_refl _) _ _ _ _ _
end
section
open Go.RowKit
theorem Um{w:World}{S:Nat->Prop}{a b c:Ex}{o nm o2 nm2 o3 nm3:ByteArray}{n p n2 p2 n3 p3:Int}{A A2 A3:Option Addr}{ll cap ll2 cap2 ll3 cap3 g:Nat}(ha:HS w 57 S a (BM o nm n A ll cap p))(hb:HS w 57 S b (BM o2 nm2 n2 A2 ll2 cap2 p2))(hc:HS w 57 S c (BM o3 nm3 n3 A3 ll3 cap3 p3))(hg:S g)
 (hw:w.heap[g]?=some (.cells #[.string o,.string nm,.int .i64 n,.slice A ll cap,.int .i64 p,.string o2,.string nm2,.int .i64 n2,.slice A2 ll2 cap2,.int .i64 p2,.string o3,.string nm3,.int .i64 n3,.slice A3 ll3 cap3,.int .i64 p3] 57 (0,0))):HS w 57 S (.cond a b c a.pos) (BM ⟨#[63]⟩ ⟨#[]⟩ 0 (some ⟨g,0,none⟩) 3 3 p):=by
 refine⟨g,3,_,_,_,?_,⟨hg,_,hw,?_⟩,ha,hb,hc⟩
 · rw[ha.posn.1];rfl
 · intro j u d;simpa[BM]using d
theorem Od{d:Dp}{lv:Nat}(hR:RC 169 (Am d) lv)(hD:DC 160 d.c lv):RC 160 (Bd d) lv:=by
 intro xb rb w us h;have hx:=h.ltx;have hr:=h.ltr;have HR:=zz hR;have HD:=zz hD;have HX:=zz h;clear h hR hD;go_enter Tryz.func160,Tryz.ntmps160;go_wp2_with fail;refine AA (P:=fun W=>XR W xb rb us lv/\Ai W w.heap.size (.string ⟨#[]⟩) (.string ⟨#[]⟩) (.int .i64 0) (.slice none 0 0) (.int .i64 0)/\Fr w.heap.size rb w W) ⟨HX.out.alloc _,Ai.new _ _ _ _ _ _,(Fr.refl _ _ _).alloc (Nat.le_refl _) _⟩ ?_;rintro W ⟨hX,hB,hF⟩;refine(HR.out xb rb W us hX).mono ?_;intro e w1 B;have hs:=hB.lt;cases i:Am d us with
 | er c q=>
   rw[i]at B;obtain⟨b,rfl,ax,R,s⟩:=B;have C:=zz (hB.fr s (by omega));have HA:=zz R;have Z:=zz (hF.on hF.size s);have f:=zz (show Bd d us= .er c q by rw[Bd,i];rfl);clear R hF s hX hB i;obtain⟨b0,b1,b2,b3,b4⟩:=C.out.cells;obtain⟨z0,z1,z2,z3,z4⟩:=C.out.frozen;have ay:=C.out.lt;go_wp2;obtain⟨L,M,N,O,Q⟩:=((C.out.set5 (.string ⟨#[]⟩) (.string ⟨#[]⟩) (.int .i64 0) (.slice none 0 0) (.int .i64 0)).alloc (.cells #[.string ⟨#[]⟩,.string ⟨#[]⟩,.int .i64 0,.slice none 0 0,.int .i64 0] 57)).cells;rw[f.out];refine bodyPost_ret (v:=.tuple #[.agg #[.string ⟨#[]⟩,.string ⟨#[]⟩,.int .i64 0,.slice none 0 0,.int .i64 0],.iface 101 (.pointer (some ⟨b,0,none⟩))]) (by simp[results,Tryz.results160,go_sem,L,M,N,O,Q]) rfl ⟨b,rfl,by omega,?_,?_⟩
   · exact(HA.out.far5 (by omega) _ _ _ _ _).alloc _
   · exact(Z.out.set5 (Nat.le_refl _) _ _ _ _ _).alloc (by simp;omega) _
 | ok x r=>
   rw[i]at B;obtain⟨o,nm,n,A,ll,cap,p,rfl,hC,ag,s⟩:=B;have an:=hB.fr s (by omega);have a7:=an.lt;obtain⟨c0,_,_⟩:=ag.cells;have a2:=ag.ltx;have C:=zz an;have aV:=zz ag;have aN:=zz hC;have Z:=zz (hF.on hF.size s);have K:=zz i;clear an ag hC hF s hX hB i;go_wp2_with fail;refine AA (P:=fun W2=>XR W2 xb rb r lv/\Ai W2 w.heap.size (.string ⟨#[]⟩) (.string ⟨#[]⟩) (.int .i64 0) (.slice none 0 0) (.int .i64 0)/\Ai W2 w1.heap.size (.string o) (.string nm) (.int .i64 n) (.slice A ll cap) (.int .i64 p)/\HC W2 57 W.heap.size w1.heap.size x (BM o nm n A ll cap p)/\Fr w.heap.size rb w W2) ⟨aV.out.alloc _,C.out.alloc _,Ai.new _ _ _ _ _ _,aN.out.alloc _,Z.out.alloc Z.out.size _⟩ ?_;rintro W2 ⟨X,ab,U,ae,H⟩;have a8:=U.lt;clear c0 a2;by_cases hi:AG (hd r) [63]=true
   rotate_left
   · have u:AG (hd r) [63]=false:=(by simpa using hi);refine(X.skip_no ⟨#[63]⟩ u).mono ?_;rintro e w3 ⟨rfl,J⟩;have ac:=ab.below J;have aq:=U.below J;have aE:=ae.below J;have aZ:=aq.lt;obtain⟨b0,b1,b2,b3,b4⟩:=ac.cells;obtain⟨z0,z1,z2,z3,z4⟩:=ac.frozen;obtain⟨e0,e1,e2,e3,e4⟩:=aq.cells;have D:=zz ac;have aj:=zz aE;have am:=zz (X.below J);have F:=zz (H.onB H.size J);have f:=zz (show Bd d us= .ok x r by rw[Bd,K.out];simp[G9,u]);clear ab U ae X H ac aq aE J hi u;go_wp2;obtain⟨L,M,N,O,Q⟩:=(D.out.set5 (.string o) (.string nm) (.int .i64 n) (.slice A ll cap) (.int .i64 p)).cells;rw[f.out];refine bodyPost_ret (v:=.tuple #[.agg #[.string o,.string nm,.int .i64 n,.slice A ll cap,.int .i64 p],.nilIface]) (by simp[results,Tryz.results160,go_sem,L,M,N,O,Q]) rfl ⟨o,nm,n,A,ll,cap,p,rfl,?_,?_,?_⟩
     · exact(aj.out.far5 (.inl (by omega)) _ _ _ _ _).mono (by omega) (by simp;omega)
     · exact am.out.set5 D.out (by omega) _ _ _ _ _
     · exact F.out.set5 (Nat.le_refl _) _ _ _ _ _
   refine(X.skip_yes ⟨#[63]⟩ hi).mono ?_;rintro e w3 ⟨rfl,aH,V⟩;have D:=zz (ab.fr V (by omega));have aA:=zz (U.fr V (by omega));have aj:=zz (show HS w3 57 (fun j=>w.heap.size<j) x (BM o nm n A ll cap p)from(ae.fr V (by omega)).wide (fun j _ hj=>by unfold Rg at hj;omega));have am:=zz aH;have F:=zz (H.on H.size V);have HI:=zz hi;clear ab U ae X H aH V hi;go_wp2_with fail;have aZ:=aA.out.lt;have a4:=D.out.lt;refine(HD.out xb rb w3 r.tail am.out).mono ?_;intro e w4 B;cases a:d.c r.tail with
   | er c q=>
     rw[a]at B;obtain⟨b,rfl,ax,R,k⟩:=B;have E:=zz (D.out.fr k (by omega));have aK:=zz R;have aa:=zz (F.out.on F.out.size k);have f:=zz (show Bd d us= .er c q by rw[Bd,K.out];simp[G9,HI.out,a,It]);clear R k a;obtain⟨b0,b1,b2,b3,b4⟩:=E.out.cells;obtain⟨z0,z1,z2,z3,z4⟩:=E.out.frozen;have ay:=E.out.lt;go_wp2;obtain⟨L,M,N,O,Q⟩:=((E.out.set5 (.string ⟨#[]⟩) (.string ⟨#[]⟩) (.int .i64 0) (.slice none 0 0) (.int .i64 0)).alloc (.cells #[.string ⟨#[]⟩,.string ⟨#[]⟩,.int .i64 0,.slice none 0 0,.int .i64 0] 57)).cells;rw[f.out];refine bodyPost_ret (v:=.tuple #[.agg #[.string ⟨#[]⟩,.string ⟨#[]⟩,.int .i64 0,.slice none 0 0,.int .i64 0],.iface 101 (.pointer (some ⟨b,0,none⟩))]) (by simp[results,Tryz.results160,go_sem,L,M,N,O,Q]) rfl ⟨b,rfl,by omega,?_,?_⟩
     · exact(aK.out.far5 (by omega) _ _ _ _ _).alloc _
     · exact(aa.out.set5 (Nat.le_refl _) _ _ _ _ _).alloc (by simp;omega) _
   | ok y r2=>
     rw[a]at B;obtain⟨o2,nm2,n2,A2,ll2,cap2,p2,rfl,aF,ah,k⟩:=B;have E:=zz (D.out.fr k (by omega));have aB:=zz (aA.out.fr k (by omega));have aW:=zz ah;have aS:=zz (aj.out.frS k (by omega));have aO:=zz (show HS w4 57 (fun j=>w.heap.size<j) y (BM o2 nm2 n2 A2 ll2 cap2 p2)from aF.wide (fun j _ hj=>by unfold Rg at hj;omega));have aa:=zz (F.out.on F.out.size k);have al:=zz a;obtain⟨c0,_,_⟩:=ah.cells;have a3:=ah.ltx;have a9:=aB.out.lt;clear ah aF k a;go_wp2_with fail;refine AA (P:=fun W3=>XR W3 xb rb r2 lv/\Ai W3 w.heap.size (.string ⟨#[]⟩) (.string ⟨#[]⟩) (.int .i64 0) (.slice none 0 0) (.int .i64 0)/\Ai W3 w1.heap.size (.string o) (.string nm) (.int .i64 n) (.slice A ll cap) (.int .i64 p)/\Ai W3 w4.heap.size (.string o2) (.string nm2) (.int .i64 n2) (.slice A2 ll2 cap2) (.int .i64 p2)/\HS W3 57 (fun j=>w.heap.size<j) x (BM o nm n A ll cap p)/\HS W3 57 (fun j=>w.heap.size<j) y (BM o2 nm2 n2 A2 ll2 cap2 p2)/\Fr w.heap.size rb w W3) ⟨aW.out.alloc _,E.out.alloc _,aB.out.alloc _,Ai.new _ _ _ _ _ _,aS.out.alloc _,aO.out.alloc _,aa.out.alloc aa.out.size _⟩ ?_;rintro W3 ⟨ai,ad,ar,af,av,ao,I⟩;have a':=af.lt;clear c0 a3;by_cases Y:AG (hd r2) [58]=true
     rotate_left
     · have u:AG (hd r2) [58]=false:=(by simpa using Y);refine(ai.want_no ⟨#[58]⟩ u).mono ?_;rintro e w5 ⟨b,rfl,ax,R,aw⟩;have l:=zz (ad.below aw);have aL:=zz R;have G:=zz (I.onB I.size aw);have f:=zz (show Bd d us= .er 20 (hd r2).pos by rw[Bd,K.out];simp[G9,HI.out,al.out,It,u]);clear ai ad ar af av ao I R aw Y u;obtain⟨b0,b1,b2,b3,b4⟩:=l.out.cells;obtain⟨z0,z1,z2,z3,z4⟩:=l.out.frozen;have ay:=l.out.lt;go_wp2;obtain⟨L,M,N,O,Q⟩:=((l.out.set5 (.string ⟨#[]⟩) (.string ⟨#[]⟩) (.int .i64 0) (.slice none 0 0) (.int .i64 0))).cells;rw[f.out];refine bodyPost_ret (v:=.tuple #[.agg #[.string ⟨#[]⟩,.string ⟨#[]⟩,.int .i64 0,.slice none 0 0,.int .i64 0],.iface 101 (.pointer (some ⟨b,0,none⟩))]) (by simp[results,Tryz.results160,go_sem,L,M,N,O,Q]) rfl ⟨b,rfl,by omega,?_,?_⟩
       · exact(aL.out.far5 (by omega) _ _ _ _ _)
       · exact(G.out.set5 (Nat.le_refl _) _ _ _ _ _)
     refine(ai.want_yes ⟨#[58]⟩ Y).mono ?_;rintro e w5 ⟨rfl,aI,t⟩;have l:=zz (ad.fr t (by omega));have aC:=zz (ar.fr t (by omega));have az:=zz (af.fr t (by omega));have aT:=zz (av.frS t (by omega));have aP:=zz (ao.frS t (by omega));have aX:=zz aI;have G:=zz (I.on I.size t);have aD:=zz Y;clear ai ad ar af av ao I aI t Y;go_wp2_with fail;have ba:=aC.out.lt;have a5:=l.out.lt;have a0:=az.out.lt;refine(HD.out xb rb w5 r2.tail aX.out).mono ?_;intro e w6 B;cases a:d.c r2.tail with
     | er c q=>
       rw[a]at B;obtain⟨b,rfl,ax,R,g⟩:=B;have m:=zz (l.out.fr g (by omega));have aM:=zz R;have ak:=zz (G.out.on G.out.size g);have f:=zz (show Bd d us= .er c q by rw[Bd,K.out];simp[G9,HI.out,al.out,It,aD.out,a,OJ]);clear R g a;obtain⟨b0,b1,b2,b3,b4⟩:=m.out.cells;obtain⟨z0,z1,z2,z3,z4⟩:=m.out.frozen;have ay:=m.out.lt;go_wp2;obtain⟨L,M,N,O,Q⟩:=((m.out.set5 (.string ⟨#[]⟩) (.string ⟨#[]⟩) (.int .i64 0) (.slice none 0 0) (.int .i64 0)).alloc (.cells #[.string ⟨#[]⟩,.string ⟨#[]⟩,.int .i64 0,.slice none 0 0,.int .i64 0] 57)).cells;rw[f.out];refine bodyPost_ret (v:=.tuple #[.agg #[.string ⟨#[]⟩,.string ⟨#[]⟩,.int .i64 0,.slice none 0 0,.int .i64 0],.iface 101 (.pointer (some ⟨b,0,none⟩))]) (by simp[results,Tryz.results160,go_sem,L,M,N,O,Q]) rfl ⟨b,rfl,by omega,?_,?_⟩
       · exact(aM.out.far5 (by omega) _ _ _ _ _).alloc _
       · exact(ak.out.set5 (Nat.le_refl _) _ _ _ _ _).alloc (by simp;omega) _
     | ok z r3=>
       rw[a]at B;obtain⟨o3,nm3,n3,A3,ll3,cap3,p3,rfl,aG,aJ,g⟩:=B;have T:=l.out.fr g (by omega);have au:=aC.out.fr g (by omega);have ap:=az.out.fr g (by omega);obtain⟨b0,b1,b2,b3,b4⟩:=T.cells;obtain⟨z0,z1,z2,z3,z4⟩:=T.frozen;obtain⟨e0,e1,e2,e3,e4⟩:=au.cells;obtain⟨q0,q1,q2,q3,q4⟩:=ap.cells;have bb:=au.lt;have a6:=ap.lt;have a1:=T.lt;have m:=zz T;have aY:=zz aJ;have aU:=zz (aT.out.frS g (by omega));have aQ:=zz (aP.out.frS g (by omega));have aR:=zz (show HS w6 57 (fun j=>w.heap.size<j) z (BM o3 nm3 n3 A3 ll3 cap3 p3)from aG.wide (fun j _ hj=>by unfold Rg at hj;omega));have ak:=zz (G.out.on G.out.size g);have f:=zz (show Bd d us= .ok (.cond x y z x.pos) r3 by rw[Bd,K.out];simp[G9,HI.out,al.out,It,aD.out,a,OJ]);clear T au ap aJ aG g a;go_wp2;obtain⟨L,M,N,O,Q⟩:=(((m.out.set5 (.string ⟨#[63]⟩) (.string ⟨#[]⟩) (.int .i64 0) (.slice (some ⟨w6.heap.size+1,0,none⟩) 3 3) (.int .i64 p)).alloc (.cells #[.string o3,.string nm3,.int .i64 n3,.slice A3 ll3 cap3,.int .i64 p3] 57)).alloc (.cells #[.string o,.string nm,.int .i64 n,.slice A ll cap,.int .i64 p,.string o2,.string nm2,.int .i64 n2,.slice A2 ll2 cap2,.int .i64 p2,.string o3,.string nm3,.int .i64 n3,.slice A3 ll3 cap3,.int .i64 p3] 57)).cells;rw[f.out];refine bodyPost_ret (v:=.tuple #[.agg #[.string ⟨#[63]⟩,.string ⟨#[]⟩,.int .i64 0,.slice (some ⟨w6.heap.size+1,0,none⟩) 3 3,.int .i64 p],.nilIface]) (by simp[results,Tryz.results160,go_sem,L,M,N,O,Q]) rfl ⟨_,_,_,_,_,_,_,rfl,?_,?_,?_⟩
       · refine HS.wide (S:=fun j=>w.heap.size<j) (fun j hj hS=>by simp at hj;unfold Rg;simp;omega) ?_;refine Um (o:=o) (nm:=nm) (n:=n) (A:=A) (ll:=ll) (cap:=cap) (p:=p) (o2:=o2) (nm2:=nm2) (n2:=n2) (A2:=A2) (ll2:=ll2) (cap2:=cap2) (p2:=p2) (o3:=o3) (nm3:=nm3) (n3:=n3) (A3:=A3) (ll3:=ll3) (cap3:=cap3) (p3:=p3) ?_ ?_ ?_ (by omega) ?_
         · exact((aU.out.far5S (by omega) _ _ _ _ _).alloc _).alloc _
         · exact((aQ.out.far5S (by omega) _ _ _ _ _).alloc _).alloc _
         · exact((aR.out.far5S (by omega) _ _ _ _ _).alloc _).alloc _
         · exact Cc (by simp) _
       · exact((aY.out.set5 m.out (by omega) _ _ _ _ _).alloc _).alloc _
       · exact((ak.out.set5 (Nat.le_refl _) _ _ _ _ _).alloc (by simp;omega) _).alloc (by simp;omega) _
structure Ye(lv:Nat):Prop where
 c:DC 160 (dp lv).c lv
 i:DC 169 (dp lv).i lv
 n:DC 178 (dp lv).n lv
 m:DC 183 (dp lv).m lv
structure Y1(lv:Nat):Prop where
 c:RC 160 (Bd (dp lv)) lv
 i:RC 169 (Am (dp lv)) lv
 n:RC 178 (Ch (dp lv)) lv
 m:RC 183 (Ah (dp lv)) lv
theorem WC{lv:Nat}(h:Ye lv):Y1 lv:=by have s:=R2 lv;have m:=QK h.m (Uc h.c);have p:=NB m s.m;have b:=WD p s.p;have r:=UT b;have n:=Vh h.n r;have a:=UV n s.n;have o:=Ti a s.a;have i:=Uk o h.i;exact⟨Od i h.c,i,n,m⟩
theorem Ni:∀lv,Ye lv
 | 0=>⟨fun _ _ w _ h=>F5 w h _ _,fun _ _ w _ h=>F5 w h _ _,fun _ _ w _ h=>F5 w h _ _,fun _ _ w _ h=>F5 w h _ _⟩
 | l+1=>by have h:=WC (Ni l);exact⟨fun _ _ w _ a=>Jm h.c w a,fun _ _ w _ a=>Lk h.i w a,fun _ _ w _ a=>NJ h.n w a,fun _ _ w _ a=>KS h.m w a⟩
end
end
section
open Go.RowKit
structure TR(w:World)(rb:Nat)(us:List AH):Prop where
 rd:∃ts k,us=ts.drop k/\RD w rb ts k
 fine:Fine us
 glob:B0 w
 hi:0<rb/\3<rb
theorem XR.tr{w:World}{xb rb lv:Nat}{us:List AH}(h:XR w xb rb us lv):TR w rb us:=⟨h.rd,h.fine,h.glob,h.hi.1,h.hi.2.1⟩
theorem TR.below{w w':World}{rb:Nat}{us:List AH}(h:TR w rb us)(hb:Below w.heap.size w w'):TR w' rb us:=by refine⟨?_,h.fine,h.glob.below hb,h.hi⟩;obtain⟨c,k,a,b⟩:=h.rd;exact⟨c,k,a,b.below hb⟩
theorem TR.ltr{w:World}{rb:Nat}{us:List AH}(h:TR w rb us):rb<w.heap.size:=by obtain⟨b,k,_,a⟩:=h.rd;exact a.lt
theorem TR.xr{w:World}{rb:Nat}{us:List AH}(h:TR w rb us){lv:Nat}(hl:lv<=64){xb:Nat}(hb:w.heap[xb]?=some (.cells #[.pointer (some ⟨rb,0,none⟩),.int .i64 (lv:Int)] 246 (0,0)))(hx:rb<xb):XR w xb rb us lv:=
 ⟨h.rd,h.fine,hb,h.glob,hl,by have:=h.hi;omega⟩
theorem TR.get{w:World}{rb:Nat}{us:List AH}(h:TR w rb us):∃ts k,us=ts.drop k/\RD w rb ts k/\ts[k]?=some (hd us):=by obtain⟨ts,k,a,b⟩:=h.rd;have c:k<ts.length:=(by obtain⟨_,_,_,_,d,_⟩:=b;exact d);exact⟨ts,k,a,b,by rw[a,List.drop_eq_getElem_cons c,List.getElem?_eq_getElem c];rfl⟩
def PT(rb:Nat)(res:PR)(w:World)(e:Ending)(w':World):Prop:=
 match res with
 | .ok x r=>∃o nm n A l cap p,e= .returned (.tuple #[.agg #[.string o,.string nm,.int .i64 n,.slice A l cap,.int .i64 p],.nilIface])/\HC w' 57 w.heap.size w'.heap.size x (BM o nm n A l cap p)/\TR w' rb r/\Fr w.heap.size rb w w'
 | .er c q=>∃b,e= .returned (.tuple #[.agg #[.string ⟨#[]⟩,.string ⟨#[]⟩,.int .i64 0,.slice none 0 0,.int .i64 0],.iface 101 (.pointer (some ⟨b,0,none⟩))])/\w.heap.size<=b/\EC w' b q c/\Fr w.heap.size rb w w'
theorem Rl(n:Int)(w:World)(hn:1<=n/\n<=64):Calls Tryz.prog 145 #[.pointer none,.int .i64 n] w fun e w'=>e= .returned (.tuple #[.agg #[.string ⟨#[]⟩,.string ⟨#[]⟩,.int .i64 0,.slice none 0 0,.int .i64 0],.iface 61 (.int .i64 3)])/\Below w.heap.size w w':=by
 have H:=zz (fun W:World=>IL n W);have g:(decide (1<=n)&&decide (n<=64))=true:=(by simp;omega);rw[g]at H;clear hn g;go_enter Tryz.func145,Tryz.ntmps145;go_wp2_with fail;(with_reducible refine(H.out _).mono ?_);rintro e w' ⟨rfl,rfl⟩
 go_wp2;exact bodyPost_ret (v:=.tuple #[.agg #[.string ⟨#[]⟩,.string ⟨#[]⟩,.int .i64 0,.slice none 0 0,.int .i64 0],.iface 61 (.int .i64 3)]) (by simp[results,Tryz.results145,go_sem]) rfl ⟨rfl,(Below.refl _ _).alloc (Nat.le_refl _) _⟩
theorem QY{rb D:Nat}{us:List AH}(w:World)(h:TR w rb us)(h1:1<=D)(h64:D<=64):Calls Tryz.prog 145 #[.pointer (some ⟨rb,0,none⟩),.int .i64 (D:Int)] w (PT rb ((dp D).c us) w):=by
 have H:=zz (fun W:World=>IL (D:Int) W);have g:(decide ((1:Int)<=(D:Int))&&decide ((D:Int)<=64))=true:=(by simp;omega);rw[g]at H;have hr:=h.ltr;have O:=zz h;clear h g h1;go_enter Tryz.func145,Tryz.ntmps145;go_wp2_with fail;(with_reducible refine(H.out _).mono ?_);rintro e w' ⟨rfl,rfl⟩
 go_wp2_with fail;refine AA (P:=fun W=>XR W (w.heap.size+1) rb us D/\Ai W w.heap.size (.string ⟨#[]⟩) (.string ⟨#[]⟩) (.int .i64 0) (.slice none 0 0) (.int .i64 0)/\Fr w.heap.size rb w W) ⟨?_,(Ai.new _ _ _ _ _ _).alloc _,((Fr.refl _ _ _).alloc (Nat.le_refl _) _).alloc (by simp) _⟩ ?_
 · exact(O.out.below (((Below.refl _ _).alloc (Nat.le_refl _) _).alloc (by simp) _)).xr h64 (Cc (by simp) _) (by omega)
 rintro W ⟨M,m,l⟩;refine((Ni D).c _ _ W us M).mono ?_;intro e w1 t;clear M;have hs:=m.lt;cases d:(dp D).c us with
 | er c q=>
   rw[d]at t;obtain⟨b,rfl,V,K,f⟩:=t;have a:=m.fr f (by omega);obtain⟨Q,R,S,T,U⟩:=a.cells;obtain⟨X,Y,Z,z3,z4⟩:=a.frozen;have I:=a.lt;have i:=zz a;have N:=zz K;have j:=zz (l.on l.size f);have y:=zz d;clear a K l f m d;go_wp2;obtain⟨B,C,E,F,G⟩:=(i.out.set5 (.string ⟨#[]⟩) (.string ⟨#[]⟩) (.int .i64 0) (.slice none 0 0) (.int .i64 0)).cells;rw[y.out];refine bodyPost_ret (v:=.tuple #[.agg #[.string ⟨#[]⟩,.string ⟨#[]⟩,.int .i64 0,.slice none 0 0,.int .i64 0],.iface 101 (.pointer (some ⟨b,0,none⟩))]) (by simp[results,Tryz.results145,go_sem,B,C,E,F,G]) rfl ⟨b,rfl,by omega,?_,?_⟩
   · exact N.out.far5 (by omega) _ _ _ _ _
   · exact j.out.set5 (Nat.le_refl _) _ _ _ _ _
 | ok x r=>
   rw[d]at t;obtain⟨o,nm,n,A,J,k,p,rfl,L,s,f⟩:=t;have a:=m.fr f (by omega);obtain⟨Q,R,S,T,U⟩:=a.cells;obtain⟨X,Y,Z,z3,z4⟩:=a.frozen;have I:=a.lt;have i:=zz a;have u:=zz L;have z:=zz s;have j:=zz (l.on l.size f);have y:=zz d;clear a L s l f m d;go_wp2;obtain⟨B,C,E,F,G⟩:=(i.out.set5 (.string o) (.string nm) (.int .i64 n) (.slice A J k) (.int .i64 p)).cells;rw[y.out];refine bodyPost_ret (v:=.tuple #[.agg #[.string o,.string nm,.int .i64 n,.slice A J k,.int .i64 p],.nilIface]) (by simp[results,Tryz.results145,go_sem,B,C,E,F,G]) rfl ⟨o,nm,n,A,J,k,p,rfl,?_,?_,?_⟩
   · exact(u.out.far5 (.inl (by omega)) _ _ _ _ _).mono (by omega) (by simp)
   · exact(z.out.set5 i.out (by omega) _ _ _ _ _).tr
   · exact j.out.set5 (Nat.le_refl _) _ _ _ _ _
theorem Sv{s:ByteArray}{x p:Nat}(w:World)(hG:B0 w)(hs:s.size<=65536)(h:CE s.data.toList= .error (x,p)):
 Calls Tryz.prog 15 #[.string s] w fun e w'=>∃b,e= .returned (.tuple #[.pointer none,.iface 101 (.pointer (some ⟨b,0,none⟩))])/\w.heap.size<=b/\x≠0/\EC w' b p x/\Below w.heap.size w w':=by
 have H:=zz (OW w hG hs h);clear hG h;go_enter Tryz.func15,Tryz.ntmps15;go_wp2_with fail;(with_reducible refine(H.out).mono ?_);rintro e g ⟨b,rfl,a,f,c,d⟩
 go_wp2;go_ret2;exact⟨b,rfl,a,f,c,d⟩
theorem Vi{s:ByteArray}{ts:List AH}(w:World)(hG:B0 w)(hs:s.size<=65536)(h:CE s.data.toList= .ok ts):
 Calls Tryz.prog 15 #[.string s] w fun e w'=>∃rb,e= .returned (.tuple #[.pointer (some ⟨rb,0,none⟩),.nilIface])/\w.heap.size<=rb/\TR w' rb ts/\Below w.heap.size w w':=by
 refine(V6 w hG hs h).mono ?_;rintro e k ⟨rb,rfl,a,f,b⟩;refine⟨rb,rfl,a,⟨⟨ts,0,rfl,f⟩,Hv (by simpa using hs) h,hG.below b,?_⟩,b⟩;have c:=World.block_lt_of_cell? w _ hG.glob.err;obtain⟨j,i,g⟩:=hG.rng;have d:=World.block_lt_of_cell? w _ g;exact⟨by have:0<w.heap.size:=c;omega,by have:3<w.heap.size:=d;omega⟩
end
section
open Go.RowKit Go.Sort
structure Dt(w:World):Prop where
 s:B0 w
 t:Dj w
theorem Dt.below{w w':World}(h:Dt w)(hb:Below w.heap.size w w'):Dt w':=⟨h.s.below hb,AV h.t hb⟩
end
section
open Go.RowKit Go.Sort
structure XV where
 o:ByteArray
 nm:ByteArray
 n:Int
 A:Option Addr
 ll:Nat
 cap:Nat
 p:Int
end
section
open Go.RowKit
theorem Jw{w:World}{base size n:Nat}{e:TypeId}{v:Value}{xs:List Value}(h:w.ownsRow base e size v n xs):(v= .slice none 0 0/\n=0)∨∃g cap,v= .slice (some ⟨g,0,none⟩) n cap:=by
 rcases h.2 with h | ⟨g,cap,a,b,_⟩
 · exact .inl h
 · exact .inr ⟨g,cap,b⟩
theorem Qo{w:World}{base size n:Nat}{e:TypeId}{v:Value}{xs:List Value}(h:w.ownsRow base e size v n xs)(hn:0<n):∃g cap,v= .slice (some ⟨g,0,none⟩) n cap:=by
 rcases Jw h with⟨_,h⟩ | h
 · omega
 · exact h
theorem OQ{o nm:ByteArray}{n:Int}{A:Option Addr}{l cap:Nat}{p:Int}:∀u∈BM o nm n A l cap p,u.oneCell'=true:=by intro u a;simp only[BM,List.mem_cons,List.not_mem_nil,or_false]at a;rcases a with rfl | rfl | rfl | rfl | rfl<;>rfl
end
end Go.Proofs.YtodijgndbjfbgaaGreatDoor
