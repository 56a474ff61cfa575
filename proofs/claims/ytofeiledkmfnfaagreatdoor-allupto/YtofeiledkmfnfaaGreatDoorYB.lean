/- The reference's classes. -/
import Derived.Test.YtofeiledkmfnfaaGreatDoorYBaseSemD
namespace Go.Proofs.YtofeiledkmfnfaaGreatDoor
open World renaming heap->i,cell?->dx,frozen?->dz,alloc->dB,drewN->dD
open _root_.Array renaming size->c,size->dg
open Value renaming ownBlock->dH
open _root_.ByteArray renaming size->e
open Option renaming none->U,some->I
open Value renaming int->M,slice->K,bool->C,pointer->Ua,string->Uc,tuple->Ue,agg->Uf
open IntKind renaming i64->J
open Bool renaming false->Z,true->G
open _root_.Go.Proofs.Tryz renaming prog->V
open Go renaming World->E,Value->Y,Calls->Uh
open Go.RowKit renaming Hid->H
open Or renaming inr->O,inl->Q
open Ending renaming returned->R
open Obj renaming cells->Ub
open And renaming intro->Ur
open Ref
open _root_.Go.Proofs.Tryz
open List renaming length->D
set_option maxHeartbeats 3200000
set_option maxRecDepth 100000
variable (g:Nat)(w:World){s:Al}(b base off cap:Nat)
section
open Go.RowKit
theorem xF (n:Int)(a:0<=n)(b:n<=100000):IntKind.i64.wrap n=n:=by rw[IntKind.wrap_i64];omega
namespace Ref
theorem zd1 {st:St}(h:¬jY s st=G):(st.e == 0)=Z\/((st.e == 0)=G/\(ze s st.i == 45)=Z)\/((st.e == 0)=G/\(ze s st.i == 45)=G/\¬st.i+1<e s)\/((st.e == 0)=G/\(ze s st.i == 45)=G/\st.i+1<e s/\ze s (st.i+1)=93):=by simp only[jY,B8,decide_eq_true_eq,beq_eq_false_iff_ne,beq_iff_eq] at *;by_cases a:st.e=0;omega;exact Q a
theorem zaP {st:St}(a:Good s st.i)(_b:st.e=0):Zj s (yV s st):=by unfold yV;split;rename_i h;simp only[vI,decide_eq_true_eq] at h;have:=a.NW oa oa;exact⟨this.le,λ_=>this⟩;exact⟨a.le,λ_=>a⟩
end Ref
theorem Yb (s:Al)(k:Nat)(a:k<e s)(i:Int)(b:i=(k:Int))(w:E):(Instr.index 9 (Uc s) (M J i)).run V w=.ok (M .u8 ((s[k]'a).toNat:Int)) w:=by subst b;rw[run_index_string w 9 s J (k:Int) underlying9];simp[a]
theorem Tryz.OB:(prog.info? 274).map (λi=>(i.zero,i.size,i.bytes))=I (I (Uf #[C Z,K U 0 0]),2,32):=om
theorem ZN {b:Nat}{s:Al}{st h:St}{w W W':E}{ps:Ba}{c:Ap}{e d:Nat}(o:b<dg w.heap)(i:y9 s st=(ps,h))(l:Tt W (dg w.heap+2) (K c e d) ps)(j:Lex W b s h)(k:zg (zr b) w W)(a:zg (zr w.heap.size) W W'):∃f,Ending.returned (Uf #[M J 1,C (vI s st),K c e d,M J 0,M J 0,M J 0])=R (Uf #[M J 1,C (vI s st),f,M J 0,M J 0,M J 0])/\Tt W' w.heap.size f (y9 s st).1/\Lex W' b s (y9 s st).2/\zg (zr b) w W':=by rw[i];exact⟨_,rfl,(l.keep a (by intro g n _ m;unfold zr at m;omega)).base oa,j.keep a Af,k.NU a (AD _)⟩
theorem zgj (s:Al)(st:St)(w:E)(h:Lex w b s st)(hs:s.size<=400)(hf:Ref.Good s st.i)(he:st.e=0):Uh V 122 #[Ua (I ⟨b,0,U⟩)] w λx w'=> ∃pv,x=R (Uf #[M J 1,C (vI s st),pv,M J 0,M J 0,M J 0])/\Tt w' (dg (i w)) pv (y9 s st).1/\Lex w' b s (y9 s st).2/\zg (zr b) w w':=by
 have cQ:=zd h;have bQ:=h.lt;have ew:=hf.le;have HE:=zd he;have HG:=zd hf;clear he hf;have cl:=zd ((cQ.alloc (Ub #[M J 0,C Z,K U 0 0,M J 0,M J 0,M J 0] 177)).alloc (Ub #[M J 1,C Z,K U 0 0,M J 0,M J 0,M J 0] 177));have c5:=zd ((Tz.new (n:=dg (i w)) (a0:=M J 0) (a1:=C Z) (a2:=K U 0 0) (a3:=M J 0) (a4:=M J 0) (a5:=M J 0) w 177 rfl).keep ((zg.refl (λ_=>False) _).alloc (Ub #[M J 1,C Z,K U 0 0,M J 0,M J 0,M J 0] 177)) id);have de:=zd (Tz.new (n:=dg (i w)+1) (a0:=M J 1) (a1:=C Z) (a2:=K U 0 0) (a3:=M J 0) (a4:=M J 0) (a5:=M J 0) (dB w (Ub #[M J 0,C Z,K U 0 0,M J 0,M J 0,M J 0] 177)) 177 ov);have cW:=zd (((zg.refl (zr b) w).alloc (Ub #[M J 0,C Z,K U 0 0,M J 0,M J 0,M J 0] 177)).alloc (Ub #[M J 1,C Z,K U 0 0,M J 0,M J 0,M J 0] 177));clear h;go_enter func122,ntmps122;go_wp2_with fail;refine(Zp b s st _ cl hs).mono ?_;rintro e w1 ⟨rfl,bK⟩;have cS:=cl.keep bK id;have di:=de.keep bK id;have c9:=c5.keep bK id;have t:=zd (cW.trans (bK.mono (λ_ _ f=>f.elim)));have q:=zd cS;have B:=zd di;have z:=zd c9;clear bK cl de c5 cW;have⟨l0,l1,l2,l3,k1,k2,k3⟩:=cS;have⟨t0,t1,t2,t3,t4,t5,v0,v1,v2,v3,v4,v5⟩:=di;have⟨L,N,S,T,W,r5,u0,u1,u2,u3,u4,u5⟩:=c9;go_upto_if 12 with fail;go_cut[] (λwx=>Lex wx b s (yV s st)/\Tz wx (dg (i w)+1) (M J 1) (C (vI s st)) (K U 0 0) (M J 0) (M J 0) (M J 0)/\Tz wx (dg (i w)) (M J 0) (C Z) (K U 0 0) (M J 0) (M J 0) (M J 0)/\zg (zr b) w wx)
 case first=>
  by_cases hb:ze s st.i=94
  .have hn:vI s st=G:=(by simp[vI,hb]);have hc:yV s st=st.go 1:=(by unfold yV;rw[IN hn]);have bP:(ze s st.i == 94)=G:=(by simp[hb]);have Hn:=zd hn;have Hc:=zd hc;clear hn hc hb;go_wp2;go_meet
   case rel=>
    rw[zb Hn,zb Hc];exact⟨(q.keep ((zg.refl (zr (dg (i w)+1)) w1).NS 1 (C G)) Af).NX _ 1 oa,(B.set1 _).other ⟨b,1,U⟩ ou _,
     (z.other ⟨dg (i w)+1,1,U⟩ ov _).other ⟨b,1,U⟩ ou _,(t.NU ((zg.refl (zr (dg (i w)+1)) w1).NS 1 (C G)) oa).NS 1 _⟩
  have hn:vI s st=Z:=(by simp[vI,hb]);have hc:yV s st=st:=(by unfold yV;rw[iN (by simp[hn])]);have bP:(ze s st.i == 94)=Z:=(by simp[hb]);have Hn:=zd hn;have Hc:=zd hc;clear hn hc hb;go_wp2;go_meet
  case rel=>
   rw[zb Hn,zb Hc];exact⟨q,B,z,t⟩
 case rest=>
  have⟨cU,dj,da,cZ⟩:=hcut;clear l0 l1 l2 l3 k1 k2 k3 t0 t1 t2 t3 t4 t5 v0 v1 v2 v3 v4 v5 L N S T W r5 u0 u1 u2 u3 u4 u5 q B z t cQ;have cj:=zaP HG HE;have eb:=cj.1;have cI:=zd (Ur cU (Ur dj (Ur da (Ur cZ cj))));clear cU dj da cZ cj;go_wp2;go_loopw[6] (λd wr=>∃(ps:Ba) (pa:Ap) (pn pc:Nat) (o:St) (f:Nat),Lex wr b s o/\Tz wr (dg (i w)+1) (M J 1) (C (vI s st)) (K pa pn pc) (M J 0) (M J 0) (M J 0)/\Tz wr (dg (i w)) (M J 0) (C Z) (K U 0 0) (M J 0) (M J 0) (M J 0)/\
    Tt wr (dg (i w)+2) (K pa pn pc) ps/\zg (zr b) w wr/\Zj s o/\dg (i w)+2<=dg (i wr)/\(D ps)<=o.i/\H (s.size<o.i+f)/\H (y9 s st=yP s f ps o))
   (λ_ wr=>s.size-Eo wr b)
  have⟨h1,h2,h3,h4,h5⟩:=zb cI;exact⟨[],U,0,0,yV s st,s.size+1-(yV s st).i,h1,h2,h3,Tt.nil _ _,h4,h5,h2.lt,ov,(by show _<_;omega),rfl⟩;have⟨ps,pa,pn,pc,o,f,hL,hT,hR,hP,hO,b2,eG,eF,hf,HF⟩:=hrel;obtain⟨f,rfl⟩:∃f',f=f'+1:=⟨f-1,by have:=zb hf;have:=b2.1;omega⟩
  have q:=zd hL;have B:=zd hT;have z:=zd hR;have aK:=zd hP;have t:=zd hO;have d1:=zd b2;have eC:o.i<=s.size:=b2.1;have cT:=zd hL;have d2:=zd hP;clear cI hP hO b2 eb;have⟨l0,l1,l2,l3,k1,k2,k3⟩:=hL;have⟨t0,t1,t2,t3,t4,t5,v0,v1,v2,v3,v4,v5⟩:=hT;have⟨L,N,S,T,W,r5,u0,u1,u2,u3,u4,u5⟩:=hR;by_cases e1:o.e=0
  .have ac:(o.e == 0)=G:=(by simp[e1]);by_cases ad:ze s o.i=93
   .have bb:(ze s o.i != 93)=Z:=(by simp[ad]);have HH:H (y9 s st=(ps,o.go 1)):=(by rw[zb HF];exact vt (by intro l;exact l.2 ad));clear e1 ad;go_wp2_with fail;refine(z8 b s o _ q hs).mono ?_;rintro e r ⟨rfl,nq,rfl⟩;go_wp2_with fail;refine bodyPost_ret (v:=Uf #[M J 1,C (vI s st),K pa pn pc,M J 0,M J 0,M J 0]) (by simp[results,results122,go_sem,L,N,S,T,W,r5]) rfl ?_;exact ZN bQ HH (aK.keep (((zg.refl (zr b) wr).drewN nq).NS 1 _) (by intro g hg _ l;unfold zr at l;omega)) ((q.drewN nq).NX _ 1 oa) ((t.drewN nq).NS 1 _) (zg.six (dg (i w)) _ _ _ _ _ _ _)
   have bb:(ze s o.i != 93)=G:=(by simp[ad]);by_cases aa:ze s o.i<0
   .have HH:H (y9 s st=(ps,o.fail 3 o.i)):=(by rw[zb HF];exact YX ⟨e1,ad⟩ aa);clear e1 ad;go_wp2_with fail;refine(z8 b s o _ q hs).mono ?_;rintro e r ⟨rfl,nq,rfl⟩;go_wp2_with fail;refine(z8 b s o _ (q.drewN _) hs).mono ?_;rintro e r ⟨rfl,er,rfl⟩;go_wp2_with fail;refine(yT b s o 3 _ _ (q.drewN _)).mono ?_;rintro e w5 ⟨rfl,aR,y⟩;have ba:=(B.drewN _).keep y Af;have a8:=(z.drewN _).keep y Af;have ca:=zd aR;have cb:=zd ((t.drewN _).trans y);have cc:=zd (aK.keep (((zg.refl (zr b) wr).drewN _).trans y) (by intro g hg _ l;unfold zr at l;omega));clear aR y l0 l1 l2 l3 k1 k2 k3 t0 t1 t2 t3 t4 t5 v0 v1 v2 v3 v4 v5 L N S T W r5 u0 u1 u2 u3 u4 u5;have⟨t0,t1,t2,t3,t4,t5,v0,v1,v2,v3,v4,v5⟩:=ba;have⟨L,N,S,T,W,r5,u0,u1,u2,u3,u4,u5⟩:=a8;go_wp2_with fail;refine bodyPost_ret (v:=Uf #[M J 1,C (vI s st),K pa pn pc,M J 0,M J 0,M J 0]) (by simp[results,results122,go_sem,L,N,S,T,W,r5]) rfl ?_;exact ZN bQ HH cc ca cb (zg.six (dg (i w)) _ _ _ _ _ _ _)
   have cw:o.i<s.size:=(by rw[<-zw];omega);have b4:Ref.Good s o.i:=d1.2 e1;have b5:=wC b4 cw;have dv:=Ki b4 cw;have C1:=zd (Ur e1 ad);clear e1 ad;go_wp2_with fail;refine(z8 b s o _ q hs).mono ?_;rintro e r ⟨rfl,nq,rfl⟩;go_wp2_with fail;refine(z8 b s o _ (q.drewN _) hs).mono ?_;rintro e r ⟨rfl,er,rfl⟩;go_wp2_with fail;refine(Vj b s o _ (q.drewN _) hs cw b4).mono ?_;rintro e r ⟨sv,rfl,bR,cm,bk⟩;have df:=(B.drewN _).keep bk Af;have c6:=(z.drewN _).keep bk Af;have c0:=aK.keep (((zg.refl (zr b) wr).drewN _).trans bk) (by intro g hg _ l;unfold zr at l;omega);have cH:=zd ((t.drewN _).trans bk);have eH:dg (i wr)<=dg (i r):=bk.size;have dM:=zd ((((zg.refl (zr b) wr).drewN _).trans bk).alloc (Ub #[C (zo s o).1.neg,sv] 274));have ec:=zd (λg (hg:dH sv=I g)=>(Ur (show dg (i wr)<=g from(zh bR g hg).1) (zh bR g hg).2));obtain⟨sa,sn,sc,rfl⟩:=zq bR;have cM:=zd (bR.base (base':=dg (i w)+2) (by show _<=dg (i wr);omega));generalize hm:zo s o=m at *;have⟨u,one,a⟩:=m;simp only[] at *;have Hm:=zd hm;have cJ:=zd b5;have cK:=zd dv;have ey:a.i<=s.size:=b5.1.1;have ez:o.i<a.i:=b5.2;clear bk bR hm b5 dv b4 l0 l1 l2 l3 k1 k2 k3 t0 t1 t2 t3 t4 t5 v0 v1 v2 v3 v4 v5 L N S T W r5 u0 u1 u2 u3 u4 u5;have bH:=cm.alloc (Ub #[C u.neg,K sa sn sc] 274);have bO:=df.keep ((zg.refl (λ_=>False) r).alloc (Ub #[C u.neg,K sa sn sc] 274)) id;have bM:=c6.keep ((zg.refl (λ_=>False) r).alloc (Ub #[C u.neg,K sa sn sc] 274)) id;have bL:=c0.keep ((zg.refl (λ_=>False) r).alloc (Ub #[C u.neg,K sa sn sc] 274)) (λ_ _ _ f=>f);have bN:=cM.keep ((zg.refl (λ_=>False) r).alloc (Ub #[C u.neg,K sa sn sc] 274)) (λ_ _ _ f=>f);have bJ:=cH.alloc (Ub #[C u.neg,K sa sn sc] 274);have cO:=Gh (P:=λ_=>False) (n:=dg (i r)) (zg.refl _ (dB r (Ub #[C u.neg,K sa sn sc] 274))) rfl id;have eD:b<dg (i r):=cm.lt;have ev:decide (ze s o.i<0)=Z:=ou;have H6:=zd (Ur bH (Ur bO (Ur bM (Ur bL (Ur bN (Ur bJ cO))))));have⟨l0,l1,l2,l3,k1,k2,k3⟩:=cm;clear bH bO bM bL bN bJ cO df c6 c0 cM cH;go_wp2;generalize eh:dB r (Ub #[C u.neg,K sa sn sc] 274)=w3 at *;clear l0 l1 l2 l3 k1 k2 k3;have⟨bH,bO,bM,bL,bN,bJ,q0,q1,q2,q3,hq⟩:=zb H6;have dy:dg (i r)<dg (i w3):=hq;clear eh H6 hq;have q:=zd bH;have B:=zd bO;have z:=zd bM;have aK:=zd bL;have a9:=zd bN;have t:=zd bJ;clear bL bN bJ;have⟨l0,l1,l2,l3,k1,k2,k3⟩:=bH;have⟨t0,t1,t2,t3,t4,t5,v0,v1,v2,v3,v4,v5⟩:=bO;have⟨L,N,S,T,W,r5,u0,u1,u2,u3,u4,u5⟩:=bM;have ek:IntKind.i64.wrap ((a.i:Int)+1)=(a.i:Int)+1:=xF _ oa oa;by_cases bw:jY s a=G
   .have eg:(a.e == 0)=G/\(ze s a.i == 45)=G/\a.i+1<s.size/\ze s (a.i+1)≠93:=(by simpa [jY,and_assoc] using bw);have⟨y1,y2,y3,y4⟩:=eg;have dF:(((s[a.i+1]'y3).toNat:Int) != 93)=G:=(by rw[<-yY s (a.i+1) y3];simp[y4]);have dE:decide ((a.i:Int)+1<(s.size:Int))=G:=ou;have eu:(a.i:Int)+1<(s.size:Int):=oa;have ds:∀wx,(Instr.index 9 (Uc s) (M J ((a.i:Int)+1))).run V wx=.ok (M .u8 ((s[a.i+1]'y3).toNat:Int)) wx:=λwx=>Yb s (a.i+1) y3 _ oa wx;have dq:Ref.Good s a.i:=cJ.1.2 (by simpa using y1);have dr:Ref.Good s (a.go 1).i:=dq.NW (by have:ze s a.i=45:=(by simpa using y2);omega) (by have:ze s a.i=45:=(by simpa using y2);omega);have cu:(a.go 1).i<s.size:=y3;have ce:=zd dr;have cg:=zd bw;clear y4 dq dr bw;go_quiet((go_at_call 68;exact(z8 b s a _ (by first|exact q|exact q.drewN _) hs).mono (by rintro e et ⟨rfl,n,rfl⟩;exact⟨rfl,_,by first|rfl|(rw[LA])⟩)));rename_i nq;go_wp2_with fail;have dm:=((zg.refl (zr b) w3).drewN nq).NS 1 (M J ((a.i:Int)+1));have dl:=(q.drewN nq).NX ((a.i:Int)+1) 1 oa;refine(Vj b s (a.go 1) _ dl hs cu ce).mono ?_;rintro e w5 ⟨eK,rfl,cy,cn,cX⟩;have aJ:=dm.trans cX;have aL:=B.keep aJ Af;have c7:=z.keep aJ Af;have c2:=aK.keep aJ (by intro g hg _ l;unfold zr at l;omega);have db:=a9.keep aJ (by intro g hg _ l;unfold zr at l;omega);have bG:=Ur (zf aJ ⟨dg (i r),0,U⟩ _ q0 (by unfold zr;simp;omega)) (Ur (zf aJ ⟨dg (i r),1,U⟩ _ q1 (by unfold zr;simp;omega)) (Ur (zp aJ ⟨dg (i r),0,U⟩ dy q2 (by unfold zr;simp;omega)) (zp aJ ⟨dg (i r),1,U⟩ dy q3 (by unfold zr;simp;omega))));have cY:=t.trans aJ;have dk:=(dM.trans aJ)
    have eI:dg (i w3)<=dg (i w5):=aJ.size;obtain⟨bV,bX,bW,rfl⟩:=zq cy;have bp:=cy.base (base':=dg (i w)+2) (by show _<=_;simp;omega);have b6:=wC (st:=a.go 1) ce cu;have dw:=Ki (st:=a.go 1) ce cu;generalize du:zo s (a.go 1)=m2 at *;have⟨p2,two,aZ⟩:=m2;simp only[] at *;have hk:=(zg.refl (λ_=>False) w5).alloc (Ub #[C p2.neg,K bV bX bW] 274);have eE:b<dg (i w5):=cn.lt;have cP:=Gh (P:=λ_=>False) (n:=dg (i w5)) (zg.refl _ (dB w5 (Ub #[C p2.neg,K bV bX bW] 274))) rfl id;have dN:=zd (dk.alloc (Ub #[C p2.neg,K bV bX bW] 274));have H8:=zd (Ur (cn.keep hk id) (Ur (aL.keep hk id) (Ur (c7.keep hk id) (Ur (c2.keep hk (λ_ _ _ f=>f)) (Ur (db.keep hk (λ_ _ _ f=>f)) (Ur (bp.keep hk (λ_ _ _ f=>f)) (Ur (cY.alloc (Ub #[C p2.neg,K bV bX bW] 274)) (Ur (Ur (zf hk _ _ bG.1 id) (Ur (zf hk _ _ bG.2.1 id) (Ur (zp hk ⟨dg (i r),0,U⟩ (by show dg (i r)<_;omega) bG.2.2.1 id) (zp hk ⟨dg (i r),1,U⟩ (by show dg (i r)<_;omega) bG.2.2.2 id)))) cP))))))));have bf:=zd du;have dO:=zd b6;have cL:=zd dw;have eA:aZ.i<=s.size:=b6.1.1;have eB:a.i<aZ.i:=(by have:=b6.2;simp only[St.go] at this;omega);clear du b6 dw dm dl cX aJ aL c7 c2 db bG cY dk bp cy hk cP ds dF ek q0 q1 q2 q3 l0 l1 l2 l3 k1 k2 k3 t0 t1 t2 t3 t4 t5 v0 v1 v2 v3 v4 v5 L N S T W r5 u0 u1 u2 u3 u4 u5 q B z aK a9 t;have⟨l0,l1,l2,l3,k1,k2,k3⟩:=cn;go_upto_region 14 with fail;generalize ei:dB w5 (Ub #[C p2.neg,K bV bX bW] 274)=w6 at *;clear l0 l1 l2 l3 k1 k2 k3;have⟨cR,dh,c8,c3,dc,bh,y,⟨q0,q1,q2,q3⟩,⟨j0,j1,j2,j3,hj⟩⟩:=zb H8;have eJ:dg (i w5)<dg (i w6):=hj;clear ei H8 hj;have q:=zd cR;have B:=zd dh;have z:=zd c8;have aK:=zd c3;have a9:=zd dc;have bp:=zd bh;have t:=zd y;clear c3 dc bh y;have⟨l0,l1,l2,l3,k1,k2,k3⟩:=cR;have⟨t0,t1,t2,t3,t4,t5,v0,v1,v2,v3,v4,v5⟩:=dh;have⟨L,N,S,T,W,r5,u0,u1,u2,u3,u4,u5⟩:=c8;by_cases e2:aZ.e=0
    .have dU:(aZ.e != 0)=Z:=(by simp[e2]);go_wp2_with fail;have b1:a.e=0:=(by simpa using y1);by_cases bs:BN u p2 one two=G
     ·(have HH:H (y9 s st=(ps,aZ.fail 4 a.i)):=by rw[zb HF];have:=Qx (f:=f) (ps:=ps) C1 (show ¬ze s o.i<0 by omega) (by rw[zb Hm];exact cg) (by rw[zb Hm,zb bf];exact e2) (by rw[zb Hm,zb bf];exact bs);rw[zb Hm,zb bf] at this;exact this);have E2:=zd e2;have E1:=zd b1;clear e2 b1;cases one
      case' true=>cases two
      case' true.true=>
       have⟨c,hc⟩:=zb cK rfl E1;have⟨d,hd⟩:=zb cL rfl E2;have ea:d<c:=(by simpa [BN,A6,hc,hd] using bs);have s1:=zb a9;have s2:=zb bp;rw[hc] at s1;rw[hd] at s2;have⟨g1,dS,bS,d3,d4,d7⟩:=ZS s1 ov;have⟨g2,dT,bT,d5,d6,d8⟩:=ZS s2 ov;simp only[Value.slice.injEq] at bS bT;obtain⟨rfl,rfl,rfl⟩:=bS;obtain⟨rfl,rfl,rfl⟩:=bT;have m0:dx w6 ⟨g1,0,U⟩=I (M J c):=s1.cells rfl 0 _ rfl;have m1:dx w6 ⟨g2,0,U⟩=I (M J d):=s2.cells rfl 0 _ rfl;clear s1 s2 hc hd
      all_goals
       clear bs;go_quiet(fail);go_wp2_with fail;refine(yT b s aZ 4 _ _ (by first|exact q.drewN _)).mono ?_;rintro e w7 ⟨rfl,aR,y⟩;have bF:=(((zg.refl (zr b) w6).drewN _).trans y)
       have ba:=B.keep bF Af;have a8:=z.keep bF Af;have cc:=zd (aK.keep bF (by intro g hg _ l;unfold zr at l;omega));have ca:=zd aR;have cb:=zd (t.trans bF);clear aR y bF l0 l1 l2 l3 k1 k2 k3 t0 t1 t2 t3 t4 t5 v0 v1 v2 v3 v4 v5 L N S T W r5 u0 u1 u2 u3 u4 u5;have⟨t0,t1,t2,t3,t4,t5,v0,v1,v2,v3,v4,v5⟩:=ba;have⟨L,N,S,T,W,r5,u0,u1,u2,u3,u4,u5⟩:=a8;go_wp2_with fail;refine bodyPost_ret (v:=Uf #[M J 1,C (vI s st),K pa pn pc,M J 0,M J 0,M J 0]) (by simp[results,results122,go_sem,L,N,S,T,W,r5]) rfl ?_;exact ZN bQ HH cc ca cb (zg.six (dg (i w)) _ _ _ _ _ _ _)
     (have ed:one=G/\two=G/\¬A6 p2<A6 u:=(by simpa [BN,and_assoc] using bs);obtain⟨rfl,rfl,dn⟩:=ed;have⟨c,hc⟩:=zb cK rfl b1;have⟨d,hd⟩:=zb cL rfl e2;have ea:c<=d:=(by simp[A6,hc,hd] at dn;omega);have b9:H (y9 s st=yP s f (ps++[⟨u.neg,[(c,d)]⟩]) aZ):=by show _=_;rw[zb HF];have:=wD (f:=f) (ps:=ps) C1 (show ¬ze s o.i<0 by omega) (by rw[zb Hm];exact cg) (by rw[zb Hm,zb bf];exact e2) (by rw[zb Hm,zb bf];exact bs);rw[zb Hm,zb bf] at this;rw[this];simp[A6,hc,hd]);have s1:=zb a9;have s2:=zb bp;rw[hc] at s1;rw[hd] at s2;have⟨g1,dS,bS,d3,d4,d7⟩:=ZS s1 ov;have⟨g2,dT,bT,d5,d6,d8⟩:=ZS s2 ov;simp only[Value.slice.injEq] at bS bT;obtain⟨rfl,rfl,rfl⟩:=bS;obtain⟨rfl,rfl,rfl⟩:=bT;have m0:dx w6 ⟨g1,0,U⟩=I (M J c):=s1.cells rfl 0 _ rfl;have m1:dx w6 ⟨g2,0,U⟩=I (M J d):=s2.cells rfl 0 _ rfl;have m2:dx w6 ⟨g1,1,U⟩=I (M J c):=s1.cells rfl 1 _ rfl;have m3:dz w6 ⟨g1,1,U⟩=Z:=s1.frozenAt 1;have S1:=zd s1;clear s1 s2 bs hc hd dn e2 b1;go_quiet(fail);go_wp2;go_region;go_upto_region 20 with fail;have ee:=zb ec g1 rfl;have bm:=(((zg.refl (zr g1) w6).drewN (nq+1)).NS 1 (M J d))
     (have aR:=q.keep bm Af;have ba:=B.keep bm Af;have a8:=z.keep bm Af;have b3:=d2.keep ((dN.drewN (nq+1)).fresh ⟨g1,1,U⟩ ee.1 (M J d)) (by intro g hg _ l;unfold zr at l;omega);have bh:yB ((dD w6 (nq+1)).setCell ⟨g1,1,U⟩ (M J d)) (dg (i w)+2) (K (I ⟨g1,0,U⟩) 1 sc) [(c,d)]:=(World.ownsRow.stored (w:=dD w6 (nq+1)) S1 1 (M J d)).1;have y:=(t.drewN (nq+1)).fresh ⟨g1,1,U⟩ (show dg (i w)<=g1 by omega) (M J d);have z0:=zf bm ⟨dg (i r),0,U⟩ _ q0 (by unfold zr;simp;omega);have z1:=zf bm ⟨dg (i r),1,U⟩ _ q1 (by unfold zr;simp;omega);have cz:=bm.size;have H9:=zd (Ur aR (Ur ba (Ur a8 (Ur b3 (Ur bh (Ur y (Ur z0 (Ur z1 cz))))))));clear bm aR ba a8 b3 bh y z0 z1 cz q0 q1 q2 q3 j0 j1 j2 j3 m0 m1 m2 m3 l0 l1 l2 l3 k1 k2 k3 t0 t1 t2 t3 t4 t5 v0 v1 v2 v3 v4 v5 L N S T W r5 u0 u1 u2 u3 u4 u5 q B z aK a9 bp t;generalize ej:(dD w6 (nq+1)).setCell ⟨g1,1,U⟩ (M J d)=w7 at *;have⟨aR,ba,a8,b3,bh,y,q0,q1,cz⟩:=zb H9;clear ej H9;have q:=zd aR;have B:=zd ba;have z:=zd a8;have a9:=zd bh;have t:=zd y;have⟨ab,F,bv⟩:=b3;clear y bh aR;have⟨t0,t1,t2,t3,t4,t5,v0,v1,v2,v3,v4,v5⟩:=ba;clear a8;have⟨i0,hi,bx,bz,bA⟩:=info_parts Tryz.OB;have ef:D ps<=400:=oa;have el:dg (i w)+2<=dg (i w7):=oa;go_wp2_with(at_builtin;refine wpList_append_own _ rfl _ _ 175 rfl (dg (i w)+2) 274 i0 (Uf #[C Z,K U 0 0]) 2 32 underlying175 hi bx bz bA rfl od _ _ _ rfl (AZ F _) _ 1 1 [C u.neg,K (I ⟨g1,0,U⟩) 1 sc] rfl rfl (cell_two_new _ _ _ _) (λx hx=>by simp at hx;obtain rfl|rfl:=hx<;>rfl) Ac oa ou ?_;intro v' w8 aT ax cx;obtain⟨aG,aI,aH,rfl⟩:=zq aT;have kx:=(((zg.refl (λk=>(K pa pn pc).ownBlock=I k) w7).alloc _).trans (zg.N3 ax));have aL:=B.keep kx (by intro l;have:=(zh F _ l).1;omega);have X:=zd (Ur aL (Ur aT (Ur ax kx)));clear aT ax cx kx t0 t1 t2 t3 t4 t5 v0 v1 v2 v3 v4 v5;have⟨t0,t1,t2,t3,t4,t5,v0,v1,v2,v3,v4,v5⟩:=aL);have⟨aL,aT,ax,kx⟩:=zb X;have bP:¬(K pa pn pc).ownBlock=I b:=(by intro l;have:=(zh F _ l).1;omega);have ct:¬(K pa pn pc).ownBlock=I (dg (i w)):=(by intro l;have:=(zh F _ l).1;omega);have bI:=(q.keep kx bP).keep ((zg.refl (zr (dg (i w)+1)) w8).NS 2 (K aG aI aH)) Af;have cr:=(z.keep kx ct).other ⟨dg (i w)+1,2,U⟩ ov (K aG aI aH);have cs:=aL.set2 (K aG aI aH);have cq:=(Tt.appended (p:=⟨u.neg,[(c,d)]⟩) (AZ F _) (yw.keep (w:=w7) ((zg.refl (λ_=>False) w7).alloc _) (λ_ _ _ f=>f) ps ab bv) (a9.keep ((zg.refl (λ_=>False) w7).alloc _) (λ_ _ _ f=>f)) aT ax).keep ((zg.refl (zr (dg (i w)+1)) w8).NS 2 (K aG aI aH)) (by intro g hg _ l;unfold zr at l;omega);have co:=(((t.alloc _).grown ax (λj hj=>Or.inr (by have:=(zh F j hj).1;omega)))).NU ((zg.refl (zr (dg (i w)+1)) w8).NS 2 (K aG aI aH)) oa;go_roundw);exact⟨ps++[⟨u.neg,[(c,d)]⟩],aG,aI,aH,aZ,f,bI,cs,cr,cq,co,dO.1,by have:=kx.size;simp[World.setCell];omega,by simp;omega,(by have:=zb hf;show _<_;omega),b9⟩;rw[jr bI];have:=jr cT;rw[this];omega
    (have dU:(aZ.e != 0)=G:=(by simp[e2]);have HH:H (y9 s st=(ps,aZ)):=by rw[zb HF];have:=YY (f:=f) (ps:=ps) C1 (show ¬ze s o.i<0 by omega) (by rw[zb Hm];exact cg) (by rw[zb Hm,zb bf];exact e2);rw[zb Hm,zb bf] at this;exact this);clear e2;go_wp2_with fail;refine bodyPost_ret (v:=Uf #[M J 1,C (vI s st),K pa pn pc,M J 0,M J 0,M J 0]) (by simp[results,results122,go_sem,L,N,S,T,W,r5]) rfl ?_;exact ZN bQ HH aK q t (zg.six (dg (i w)) _ _ _ _ _ _ _)
   (have b9:H (y9 s st=yP s f (ps++[u]) a):=by rw[zb HF];have:=wS (f:=f) (ps:=ps) C1 (show ¬ze s o.i<0 by omega) (by rw[zb Hm];exact bw);rw[zb Hm] at this;exact this);have d9:=zd1 bw;clear bw;have⟨i0,hi,bx,bz,bA⟩:=info_parts Tryz.OB;have⟨ab,F,bv⟩:=zb aK;have ef:D ps<=400:=oa;have HI:=zd (Ur hi (Ur bx (Ur bz (Ur bA (Ur F bv)))));clear hi bx bz bA F bv;have el:dg (i w)+2<=dg (i w3):=oa;obtain y1|⟨y1,y2⟩|⟨y1,y2,y3⟩|⟨y1,y2,y3,y4⟩:=d9
   case' inr.inr.inl=>have dE:decide ((a.i:Int)+1<(s.size:Int))=Z:=by simp;omega
   case' inr.inr.inr=>have dF:(((s[a.i+1]'y3).toNat:Int) != 93)=Z:=by rw[<-yY s (a.i+1) y3];simp[y4]
   case' inr.inr.inr=>have dE:decide ((a.i:Int)+1<(s.size:Int))=G:=by simp;omega
   case' inr.inr.inr=>have eu:(a.i:Int)+1<(s.size:Int):=oa
   case' inr.inr.inr=>have ds:∀wx,(Instr.index 9 (Uc s) (M J ((a.i:Int)+1))).run V wx=.ok (M .u8 ((s[a.i+1]'y3).toNat:Int)) wx:=λwx=>Yb s (a.i+1) y3 _ oa wx
   case' inr.inr.inr=>clear y4
   all_goals
    go_quiet((go_at_call 68;exact(z8 b s a _ (by first|exact q|exact q.drewN _) hs).mono (by rintro e et ⟨rfl,n,rfl⟩;exact⟨rfl,_,by first|rfl|(rw[LA])⟩)));have⟨hi,bx,bz,bA,F,bv⟩:=zb HI;go_wp2_with(at_builtin;refine wpList_append_own _ rfl _ _ 175 rfl (dg (i w)+2) 274 i0 (Uf #[C Z,K U 0 0]) 2 32 underlying175 hi bx bz bA rfl od _ _ _ rfl (AZ (w:=dD w3 _) F _) _ 1 1 [C u.neg,K sa sn sc] rfl rfl (cell_two_new _ _ _ _) (λx hx=>by simp at hx;obtain rfl|rfl:=hx<;>rfl) Ac oa ou ?_;intro v' w5 aT ax cx;obtain⟨aG,aI,aH,rfl⟩:=zq aT;have kx:=((((zg.refl (λk=>(K pa pn pc).ownBlock=I k) w3).drewN _).alloc _).trans (zg.N3 ax));have aL:=B.keep kx (by intro l;have:=(zh F _ l).1;omega);have X:=zd (Ur aL (Ur aT (Ur ax kx)));clear aT ax cx kx t0 t1 t2 t3 t4 t5 v0 v1 v2 v3 v4 v5;have⟨t0,t1,t2,t3,t4,t5,v0,v1,v2,v3,v4,v5⟩:=aL);have⟨aL,aT,ax,kx⟩:=zb X;have bP:¬(K pa pn pc).ownBlock=I b:=(by intro l;have:=(zh F _ l).1;omega);have ct:¬(K pa pn pc).ownBlock=I (dg (i w)):=(by intro l;have:=(zh F _ l).1;omega);have bI:=(q.keep kx bP).keep ((zg.refl (zr (dg (i w)+1)) w5).NS 2 (K aG aI aH)) Af;have cr:=(z.keep kx ct).other ⟨dg (i w)+1,2,U⟩ ov (K aG aI aH);have cs:=aL.set2 (K aG aI aH);have cq:=(Tt.appended (p:=u) (AZ (w:=dD w3 _) F _) (yw.keep (w:=w3) (((zg.refl (λ_=>False) w3).drewN _).alloc _) (λ_ _ _ f=>f) ps ab bv) (a9.keep (((zg.refl (λ_=>False) w3).drewN _).alloc _) (λ_ _ _ f=>f)) aT ax).keep ((zg.refl (zr (dg (i w)+1)) w5).NS 2 (K aG aI aH)) (by intro g hg _ l;unfold zr at l;omega);have co:=((((t.drewN _).alloc _).grown ax (λj hj=>Or.inr (by have:=(zh F j hj).1;omega)))).NU ((zg.refl (zr (dg (i w)+1)) w5).NS 2 (K aG aI aH)) oa;go_roundw
    case rel=>exact⟨ps++[u],aG,aI,aH,a,f,bI,cs,cr,cq,co,cJ.1,by have:=kx.size;simp[World.setCell];omega,by simp;omega,(by have:=zb hf;show _<_;omega),b9⟩
    case measure=>rw[jr bI];have:=jr cT;rw[this];omega
  have ac:(o.e == 0)=Z:=(by simp[e1]);have HH:H (y9 s st=(ps,o.go 1)):=(by rw[zb HF];exact vt (by intro l;exact e1 l.1));clear e1;go_wp2_with fail;refine bodyPost_ret (v:=Uf #[M J 1,C (vI s st),K pa pn pc,M J 0,M J 0,M J 0]) (by simp[results,results122,go_sem,L,N,S,T,W,r5]) rfl ?_;exact ZN bQ HH (aK.keep ((zg.refl (zr b) wr).NS 1 _) (by intro g hg _ l;unfold zr at l;omega)) (q.NX _ 1 oa) (t.NS 1 _) (zg.six (dg (i w)) _ _ _ _ _ _ _)
structure Tok where
 kind:Int
 neg:Bool
 parts:Ba
 c:Int
 mn:Int
 mx:Int
abbrev _root_.Go.Proofs.YtofeiledkmfnfaaGreatDoor.As:=List Tok
namespace Ref
def ZD (b:Int):Bool:=(b == 42) ||(b == 43) ||(b == 63) ||(b == 123) ||(b == 125) ||(b == 93)
def zz (s:Al)(st:St):Tok×St:=
 if ze s st.i=94\/ze s st.i=36 then(⟨2,Z,[],ze s st.i,0,0⟩,st.go 1)
 else if ze s st.i=92/\(ze s (st.i+1)=98\/ze s (st.i+1)=66) then(⟨2,Z,[],ze s (st.i+1),0,0⟩,st.go 2)
 else if ze s st.i=124 then(⟨5,Z,[],0,0,0⟩,st.go 1)
 else if ze s st.i=46 then(⟨1,G,[⟨Z,[(10,10),(13,13),(8232,8233)]⟩],0,0,0⟩,st.go 1)
 else if ze s st.i=91 then(⟨1,vI s (st.go 1),(y9 s (st.go 1)).1,0,0,0⟩,(y9 s (st.go 1)).2)
 else if ze s st.i=92 then(⟨1,Z,[(zF s Z st).1],0,0,0⟩,(zF s Z st).2.2)
 else if ze s st.i=40 then(⟨3,Z,[],0,0,0⟩,km s st)
 else if ze s st.i=41 then(⟨4,Z,[],0,0,0⟩,st.go 1)
 else if ZD (ze s st.i)=G then(⟨0,Z,[],0,0,0⟩,st.fail 3 st.i)
 else match xt s st.i with
  |some (n,c)=>(⟨1,Z,[⟨Z,[(c,c)]⟩],0,0,0⟩,st.go n)
  |none=>(⟨0,Z,[],0,0,0⟩,st)
end Ref
theorem JD (W:E)(n base:Nat)(e:dg (i W)=n)(d:base<=n)(c:Array Y)(p:Pt)(a:Y)(b:c.toList=[C p.neg,a])(g:yB W base a p.spans):Tt (dB W (Ub c 274)) base (K (I ⟨n,0,U⟩) 1 1) [p]:=by subst e;refine⟨[C p.neg,a],⟨rfl,O ⟨dg (i W),1,c,rfl,d,heap_alloc_new W _,AD _,by simp[maxLen],?_,?_⟩⟩,rfl,g.keep ((zg.refl (λ_=>False) W).alloc _) (λ_ _ _ f=>f),trivial⟩;rw[<-Array.length_toList,b];rfl;rw[b];rfl
theorem zgk (s:Al)(st:St)(w:E)(h:Lex w b s st)(hs:s.size<=400)(hi:st.i<s.size)(hg:Ref.Good s st.i)(he:st.e=0):Uh V 70 #[Ua (I ⟨b,0,U⟩)] w λx w'=> ∃pv,x=R (Uf #[M J (zz s st).1.kind,C (zz s st).1.neg,pv,M J (zz s st).1.c,M J (zz s st).1.mn,M J (zz s st).1.mx])/\Tt w' (c (i w)) pv (zz s st).1.parts/\Lex w' b s (zz s st).2/\zg (zr b) w w':=by
 have bC:=h.lt;have HE:=zd he;have HG:=zd hg;have⟨on,oc,ho,aI⟩:=hg.next hi;have Ho:=zd ho;have aX:=zd aI;clear he hg ho aI;have ar:=zd (h.alloc (Ub #[M J 0,C Z,K U 0 0,M J 0,M J 0,M J 0] 177));have aE:=zd (Tz.new (n:=c (i w)) (a0:=M J 0) (a1:=C Z) (a2:=K U 0 0) (a3:=M J 0) (a4:=M J 0) (a5:=M J 0) w 177 rfl);have aC:=zd ((zg.refl (zr b) w).alloc (Ub #[M J 0,C Z,K U 0 0,M J 0,M J 0,M J 0] 177));clear h;have bf:IntKind.i64.wrap ((st.i:Int)+1)=(st.i:Int)+1:=xF _ oa oa;go_enter func70,ntmps70;go_wp2_with fail;refine(Zp b s st _ ar hs).mono ?_;rintro e w1 ⟨rfl,al⟩;have aA:=ar.keep al id;have a7:=aE.keep al id;have r:=zd (aC.trans (al.mono (λ_ _ f=>f.elim)));have q:=zd aA;have u:=zd a7;clear al ar aE aC;have⟨X,l1,l2,l3,S,T,W⟩:=aA;go_wp2;go_quiet(fail);go_upto_if 20 with fail;go_cut[4] (λs4 wx=>s4=M J (ze s (st.i+1))/\zke w1 wx)
 case first=>
  by_cases hn:st.i+1<s.size
  .have bB:∀wx,(Instr.index 9 (Uc s) (M J ((st.i:Int)+1))).run V wx=.ok (M .u8 ((s[st.i+1]'hn).toNat:Int)) wx:=λwx=>Yb s (st.i+1) hn _ oa wx;have ba:(st.i:Int)+1<(s.size:Int):=oa;have a9:=zd (yY s (st.i+1) hn);go_wp2;go_quiet(fail);go_wp2;go_meet
   case rel=>exact⟨by rw[zb a9];first|rfl|(rw[ZP])|(congr 1;rw[IntKind.wrap_i64];have:=(s[st.i+1]'hn).toNat_lt;omega),by first|exact Ah.drewN _|exact Ah⟩
  have ba:¬(st.i:Int)+1<(s.size:Int):=oa;have bb:=zd (qE s (st.i+1) oa);go_wp2;go_meet
  case rel=>exact⟨by rw[zb bb],Ah⟩
 case rest=>
  obtain⟨rfl,am⟩:=hcut;have aB:=q.keep am id;have aG:=u.keep am id;have aD:=zd (r.trans (am.mono (λ_ _ f=>f.elim)));clear X l1 l2 l3 S T W q u r bf am;have q:=zd aB;have u:=zd aG;have r:=zd aD;clear aD;have⟨X,l1,l2,l3,S,T,W⟩:=aB;have⟨d,j,k,l,m,o,u0,u1,u2,u3,u4,u5⟩:=aG;by_cases x:ze s st.i=94
  .skip
   have N:=bq x;have a:H (zz s st=(⟨2,Z,[],ze s st.i,0,0⟩,st.go 1)):=(by show _=_;unfold zz;rw[IN (Or.inl x)]);clear x;go_wp2_with fail;refine bodyPost_ret (v:=Uf #[M J 2,C Z,K U 0 0,M J (ze s st.i),M J 0,M J 0]) (by simp[results,results70,go_sem,d,j,k,l,m,o]) rfl ?_;rw[zb a];exact⟨_,rfl,Tt.nil _ _,(q.NX _ 1 oa).keep (zg.six (c (i w)) _ _ _ _ _ _ _) Af,(r.NS 1 _).NU (zg.six (c (i w)) _ _ _ _ _ _ _) (AD _)⟩
  have aU:=zd x;clear x;by_cases x:ze s st.i=36
  .skip
   have N:=bq x;have a:H (zz s st=(⟨2,Z,[],ze s st.i,0,0⟩,st.go 1)):=(by show _=_;unfold zz;rw[IN (Or.inr x)]);clear x;go_wp2_with fail;refine bodyPost_ret (v:=Uf #[M J 2,C Z,K U 0 0,M J (ze s st.i),M J 0,M J 0]) (by simp[results,results70,go_sem,d,j,k,l,m,o]) rfl ?_;rw[zb a];exact⟨_,rfl,Tt.nil _ _,(q.NX _ 1 oa).keep (zg.six (c (i w)) _ _ _ _ _ _ _) Af,(r.NS 1 _).NU (zg.six (c (i w)) _ _ _ _ _ _ _) (AD _)⟩
  have aO:=zd x;clear x;by_cases x:ze s st.i=92
  .skip
   have N:=bq x;by_cases y:ze s (st.i+1)=98
   .have y1:(ze s (st.i+1) == 98)=G:=(by simp[y]);have a:H (zz s st=(⟨2,Z,[],ze s (st.i+1),0,0⟩,st.go 2)):=(by show _=_;unfold zz;rw[iN oa,IN ⟨x,oa⟩]);clear x y;go_wp2_with fail;refine bodyPost_ret (v:=Uf #[M J 2,C Z,K U 0 0,M J (ze s (st.i+1)),M J 0,M J 0]) (by simp[results,results70,go_sem,d,j,k,l,m,o]) rfl ?_;rw[zb a];exact⟨_,rfl,Tt.nil _ _,(q.NX _ 2 oa).keep (zg.six (c (i w)) _ _ _ _ _ _ _) Af,(r.NS 1 _).NU (zg.six (c (i w)) _ _ _ _ _ _ _) (AD _)⟩
   have bH:(ze s (st.i+1) == 98)=Z:=(by simp[y]);have aZ:=zd y;clear y;by_cases y:ze s (st.i+1)=66
   .have y1:(ze s (st.i+1) == 66)=G:=(by simp[y]);have y2:(ze s (st.i+1) == 98)=Z:=(by simp[y]);have a:H (zz s st=(⟨2,Z,[],ze s (st.i+1),0,0⟩,st.go 2)):=(by show _=_;unfold zz;rw[iN oa,IN ⟨x,oa⟩]);clear x y;go_wp2_with fail;refine bodyPost_ret (v:=Uf #[M J 2,C Z,K U 0 0,M J (ze s (st.i+1)),M J 0,M J 0]) (by simp[results,results70,go_sem,d,j,k,l,m,o]) rfl ?_;rw[zb a];exact⟨_,rfl,Tt.nil _ _,(q.NX _ 2 oa).keep (zg.six (c (i w)) _ _ _ _ _ _ _) Af,(r.NS 1 _).NU (zg.six (c (i w)) _ _ _ _ _ _ _) (AD _)⟩
   (have bG:(ze s (st.i+1) == 66)=Z:=(by simp[y]);have aY:=zd y;clear y;have a:H (zz s st=(⟨1,Z,[(zF s Z st).1],0,0,0⟩,(zF s Z st).2.2)):=by show _=_;unfold zz;have q1:=zb aZ;have q2:=zb aY;rw[iN oa,iN oa,iN oa,iN oa,iN oa,IN x]);clear x;go_wp2_with fail;refine(Ve b s Z st _ q hs hi).mono ?_;rintro e B ⟨sv,rfl,P,t,p⟩;have z:=u.keep p Af;obtain⟨sa,sn,sc,rfl⟩:=zq P;have HS:=zd (P.base (base':=c (i w)+1) (by have:=Tz.lt u;omega));have F:=zd t;have L:=zd (r.trans p);have av:c (i w)<c (i B):=z.lt;clear P t p X l1 l2 l3 S T W d j k l m o u0 u1 u2 u3 u4 u5;have⟨d,j,k,l,m,o,u0,u1,u2,u3,u4,u5⟩:=z;go_wp2_with fail;refine bodyPost_ret (v:=Uf #[M J 1,C Z,K (I ⟨c (i B)+1,0,U⟩) 1 1,M J 0,M J 0,M J 0]) (by simp[results,results70,go_sem,d,j,k,l,m,o,av]) rfl ?_;rw[zb a];refine⟨_,rfl,?_,?_,?_⟩;exact JD _ _ _ ov oa _ (zF s Z st).1 (K sa sn sc) rfl ((HS.keep ((zg.six (c (i w)) B _ _ _ _ _ _).alloc _) (by intro g hg _ hh;unfold zr at hh;omega)).base oa);exact((F.keep (zg.six (c (i w)) _ _ _ _ _ _ _) Af).alloc _).alloc _;exact((L.NU (zg.six (c (i w)) _ _ _ _ _ _ _) (AD _)).alloc _).alloc _
  have aT:=zd x;clear x;by_cases x:ze s st.i=124
  .skip
   have N:=bq x;have a:H (zz s st=(⟨5,Z,[],0,0,0⟩,st.go 1)):=(by show _=_;unfold zz;rw[iN oa,iN oa,IN x]);clear x;go_wp2_with fail;refine bodyPost_ret (v:=Uf #[M J 5,C Z,K U 0 0,M J (0),M J 0,M J 0]) (by simp[results,results70,go_sem,d,j,k,l,m,o]) rfl ?_;rw[zb a];exact⟨_,rfl,Tt.nil _ _,(q.NX _ 1 oa).keep (zg.six (c (i w)) _ _ _ _ _ _ _) Af,(r.NS 1 _).NU (zg.six (c (i w)) _ _ _ _ _ _ _) (AD _)⟩
  have aN:=zd x;clear x;by_cases x:ze s st.i=41
  .skip
   have N:=bq x;have a:H (zz s st=(⟨4,Z,[],0,0,0⟩,st.go 1)):=(by show _=_;unfold zz;rw[iN oa,iN oa,iN oa,iN oa,iN oa,iN oa,iN oa,IN x]);clear x;go_wp2_with fail;refine bodyPost_ret (v:=Uf #[M J 4,C Z,K U 0 0,M J (0),M J 0,M J 0]) (by simp[results,results70,go_sem,d,j,k,l,m,o]) rfl ?_;rw[zb a];exact⟨_,rfl,Tt.nil _ _,(q.NX _ 1 oa).keep (zg.six (c (i w)) _ _ _ _ _ _ _) Af,(r.NS 1 _).NU (zg.six (c (i w)) _ _ _ _ _ _ _) (AD _)⟩
  have aQ:=zd x;clear x;by_cases x:ze s st.i=46
  .skip
   have N:=bq x;have a:H (zz s st=(⟨1,G,[⟨Z,[(10,10),(13,13),(8232,8233)]⟩],0,0,0⟩,st.go 1)):=(by show _=_;unfold zz;rw[iN oa,iN oa,iN oa,IN x]);have be:c (i w)<c (i wc):=u.lt;clear x;go_wp2_with fail;refine bodyPost_ret (v:=Uf #[M J 1,C G,K (I ⟨c (i wc)+1,0,U⟩) 1 1,M J 0,M J 0,M J 0]) (by simp[results,results70,go_sem,d,j,k,l,m,o,be]) rfl ?_;rw[zb a];refine⟨_,rfl,?_,?_,?_⟩;exact JD _ _ _ ov oa _ ⟨Z,[(10,10),(13,13),(8232,8233)]⟩ (K (I ⟨c (i wc),0,U⟩) 3 3) rfl (Yi _ _ _ ov oa _ [(10,10),(13,13),(8232,8233)] rfl (by simp[maxLen]) 3 rfl);exact(((q.NX _ 1 oa).keep (zg.six (c (i w)) _ _ _ _ _ _ _) Af).alloc _).alloc _;exact(((r.NS 1 _).NU (zg.six (c (i w)) _ _ _ _ _ _ _) (AD _)).alloc _).alloc _
  have aR:=zd x;clear x;by_cases x:ze s st.i=91
  .skip
   have N:=bq x;have a:H (zz s st=(⟨1,vI s (st.go 1),(y9 s (st.go 1)).1,0,0,0⟩,(y9 s (st.go 1)).2)):=(by show _=_;unfold zz;rw[iN oa,iN oa,iN oa,iN oa,IN x]);have a8:Ref.Good s (st.go 1).i:=HG.NW oa oa;clear x;go_wp2_with fail;have hA:=(zg.refl (zr b) wc).NS 1 (M J ((st.i:Int)+1));refine(zgj b s (st.go 1) _ (q.NX ((st.i:Int)+1) 1 oa) hs a8 HE).mono ?_;rintro e B ⟨pv,rfl,bc,t,p⟩;have hB:=hA.trans p;have z:=u.keep hB Af;have⟨cs,au,aK⟩:=bc;obtain⟨sa,sn,sc,rfl⟩:=zq au;have HP:=zd (Tt.base (base':=c (i w)+1) (show Tt B _ _ _ from⟨cs,au,aK⟩) (by have:=Tz.lt u;simp;omega));have F:=zd t;have L:=zd (r.trans hB);clear au aK t p hA hB X l1 l2 l3 S T W d j k l m o u0 u1 u2 u3 u4 u5;have⟨d,j,k,l,m,o,u0,u1,u2,u3,u4,u5⟩:=z;go_wp2_with fail;refine bodyPost_ret (v:=Uf #[M J 1,C (vI s (st.go 1)),K sa sn sc,M J 0,M J 0,M J 0]) (by simp[results,results70,go_sem,d,j,k,l,m,o]) rfl ?_;rw[zb a];exact⟨_,rfl,(HP.keep (zg.six (c (i w)) _ _ _ _ _ _ _) (by intro g hg _ hh;unfold zr at hh;omega)).base oa,F.keep (zg.six (c (i w)) _ _ _ _ _ _ _) Af,L.NU (zg.six (c (i w)) _ _ _ _ _ _ _) (AD _)⟩
  have aS:=zd x;clear x;by_cases x:ze s st.i=40
  .skip
   have N:=bq x;have a:H (zz s st=(⟨3,Z,[],0,0,0⟩,km s st)):=(by show _=_;unfold zz;rw[iN oa,iN oa,iN oa,iN oa,iN oa,iN oa,IN x]);clear x;go_wp2_with fail;refine(DZ b s st _ q hs hi).mono ?_;rintro e B ⟨rfl,t,p⟩;have z:=u.keep p Af;have F:=zd t;have L:=zd (r.trans p);clear t p X l1 l2 l3 S T W d j k l m o u0 u1 u2 u3 u4 u5;have⟨d,j,k,l,m,o,u0,u1,u2,u3,u4,u5⟩:=z;go_wp2_with fail;refine bodyPost_ret (v:=Uf #[M J 3,C Z,K U 0 0,M J (0),M J 0,M J 0]) (by simp[results,results70,go_sem,d,j,k,l,m,o]) rfl ?_;rw[zb a];exact⟨_,rfl,Tt.nil _ _,F.keep (zg.six (c (i w)) _ _ _ _ _ _ _) Af,L.NU (zg.six (c (i w)) _ _ _ _ _ _ _) (AD _)⟩
  have aP:=zd x;clear x;by_cases y:ZD (ze s st.i)=G
  .have y':ze s st.i=42\/ze s st.i=43\/ze s st.i=63\/ze s st.i=123\/ze s st.i=125\/ze s st.i=93:=(by simpa [ZD,or_assoc] using y);have a:H (zz s st=(⟨0,Z,[],0,0,0⟩,st.fail 3 st.i)):=(by show _=_;unfold zz;rw[iN oa,iN oa,iN oa,iN oa,iN oa,iN oa,iN oa,iN oa,IN y]);clear y;obtain x|x|x|x|x|x:=y'
   all_goals
    have N:=bq x;clear x;go_wp2_with fail;refine(yT b s st 3 _ _ q).mono ?_;rintro e B ⟨rfl,t,p⟩;have z:=u.keep p Af;have F:=zd t;have L:=zd (r.trans p);clear t p X l1 l2 l3 S T W d j k l m o u0 u1 u2 u3 u4 u5;have⟨d,j,k,l,m,o,u0,u1,u2,u3,u4,u5⟩:=z;go_wp2_with fail;refine bodyPost_ret (v:=Uf #[M J 0,C Z,K U 0 0,M J (0),M J 0,M J 0]) (by simp[results,results70,go_sem,d,j,k,l,m,o]) rfl ?_;rw[zb a];exact⟨_,rfl,Tt.nil _ _,F.keep (zg.six (c (i w)) _ _ _ _ _ _ _) Af,L.NU (zg.six (c (i w)) _ _ _ _ _ _ _) (AD _)⟩
  have hw:ZD (ze s st.i)=Z:=by simpa using y
  simp only[ZD,Bool.or_eq_false_iff] at hw;have⟨⟨⟨⟨⟨bs,bt⟩,bv⟩,bl⟩,bn⟩,bz⟩:=hw;clear y;have bA:(ze s st.i == 94)=Z:=by have:=zb aU;simp[this]
  have bo:(ze s st.i == 36)=Z:=by have:=zb aO;simp[this]
  have bx:(ze s st.i == 92)=Z:=by have:=zb aT;simp[this]
  have bm:(ze s st.i == 124)=Z:=by have:=zb aN;simp[this]
  have bu:(ze s st.i == 46)=Z:=by have:=zb aR;simp[this]
  have bw:(ze s st.i == 91)=Z:=by have:=zb aS;simp[this]
  have bp:(ze s st.i == 40)=Z:=by have:=zb aP;simp[this]
  have br:(ze s st.i == 41)=Z:=by have:=zb aQ;simp[this]
  have a:H (zz s st=(⟨1,Z,[⟨Z,[(oc,oc)]⟩],0,0,0⟩,st.go on)):=by show _=_;unfold zz;simp only[beq_eq_false_iff_ne] at *;rw[iN oa,iN oa,iN oa,iN oa,iN oa,iN oa,iN oa,iN oa,iN (by simp[ZD];omega),zb Ho]
  clear aU aO aT aN aR aS aP aQ;go_wp2_with fail;refine(zbW b s st on oc _ q hs hi Ho aX).mono ?_;rintro e B ⟨sv,rfl,P,t,p⟩;have z:=u.keep p Af;obtain⟨sa,sn,sc,rfl⟩:=zq P;have HS:=zd (P.base (base':=c (i w)+1) (by have:=Tz.lt u;omega));have F:=zd t;have L:=zd (r.trans p);have av:c (i w)<c (i B):=z.lt;clear P t p X l1 l2 l3 S T W d j k l m o u0 u1 u2 u3 u4 u5;have⟨d,j,k,l,m,o,u0,u1,u2,u3,u4,u5⟩:=z;go_wp2_with fail;refine bodyPost_ret (v:=Uf #[M J 1,C Z,K (I ⟨c (i B)+1,0,U⟩) 1 1,M J 0,M J 0,M J 0]) (by simp[results,results70,go_sem,d,j,k,l,m,o,av]) rfl ?_;rw[zb a];refine⟨_,rfl,?_,?_,?_⟩;exact JD _ _ _ ov oa _ ⟨Z,[(oc,oc)]⟩ (K sa sn sc) rfl ((HS.keep ((zg.six (c (i w)) B _ _ _ _ _ _).alloc _) (by intro g hg _ hh;unfold zr at hh;omega)).base oa);exact((F.keep (zg.six (c (i w)) _ _ _ _ _ _ _) Af).alloc _).alloc _;exact((L.NU (zg.six (c (i w)) _ _ _ _ _ _ _) (AD _)).alloc _).alloc _
def xr (w:E)(base:Nat):As->An->Prop
 | [],[]=>True
 |t :: a,a0 :: a1 :: a2 :: a3 :: a4 :: a5 :: vs=>(a0=M J t.kind/\a1=C t.neg/\a3=M J t.c/\a4=M J t.mn/\a5=M J t.mx)/\Tt w base a2 t.parts/\xr w base a vs
 |_,_=>False
def xK (w:E)(base:Nat)(v:Y)(l:As):Prop:=∃a,w.ownsRow base 177 6 v (D l) a/\xr w base l a
theorem xr.keep {P:Aj}{w c:E}{base:Nat}(k:zg P w c)(b:∀g,base<=g->g<dg (i w)->¬P g):∀(l:As) (a:An),xr w base l a->xr c base l a
 | [],[],_=>trivial
 |_t :: d,_e :: _f :: _i :: _j :: _m :: _n :: vs,h=>⟨h.1,h.2.1.keep k b,xr.keep k b d vs h.2.2⟩
 | [],_ :: _,h=>h
 |_ :: _,[],h=>h
 |_ :: _,[_],h=>h
 |_ :: _,[_,_],h=>h
 |_ :: _,[_,_,_],h=>h
 |_ :: _,[_,_,_,_],h=>h
 |_ :: _,[_,_,_,_,_],h=>h
theorem xK.keep {P:Aj}{w e:E}{base:Nat}{v:Y}{l:As}(h:xK w base v l)(k:zg P w e)(d:∀g,base<=g->g<dg (i w)->¬P g):xK e base v l:=by have⟨b,a,f⟩:=h;exact⟨b,zk a k (λg c=>d g (zh a g c).1 (zh a g c).2),xr.keep k d l b f⟩
theorem xK.nil:xK w base (K U 0 0) []:=⟨[],A0 _ _ _ _,trivial⟩
theorem yB.N9 {w b:E}{base base':Nat}{a v:Y}{n:Nat}{xs:An}{l:Ai}(h:yB w base a l)(f:w.ownsRow base' 177 6 v n xs)(e:w.grownBy b (dH v)):yB b base a l:=
 zk h (zg.N3 e) (λg c d=>Vm h f od g c d)
theorem yw.N9 {w d:E}{base base':Nat}{v:Y}{n:Nat}{xs:An}(c:w.ownsRow base' 177 6 v n xs)(b:w.grownBy d (dH v)):∀(l:Ba) (a:An),yw w base l a->yw d base l a
 | [],[],_=>trivial
 |_p :: ps,_b :: _v :: vs,h=>⟨h.1,h.2.1.N9 c b,yw.N9 c b ps vs h.2.2⟩
 | [],_ :: _,h=>h
 |_ :: _,[],h=>h
 |_ :: _,[_],h=>h
theorem Tt.N9 {w j:E}{base base':Nat}{i v:Y}{n:Nat}{xs:An}{l:Ba}(h:Tt w base i l)(f:w.ownsRow base' 177 6 v n xs)(e:w.grownBy j (dH v)):Tt j base i l:=by have⟨c,d,k⟩:=h;exact⟨c,zk d (zg.N3 e) (λg a b=>Vm d f od g a b),yw.N9 f e l c k⟩
theorem xr.grown {w d:E}{base base':Nat}{v:Y}{n:Nat}{xs:An}(c:w.ownsRow base' 177 6 v n xs)(b:w.grownBy d (dH v)):∀(l:As) (a:An),xr w base l a->xr d base l a
 | [],[],_=>trivial
 |_t :: e,_f :: _g :: _i :: _j :: _k :: _m :: vs,h=>⟨h.1,h.2.1.N9 c b,xr.grown c b e vs h.2.2⟩
 | [],_ :: _,h=>h
 |_ :: _,[],h=>h
 |_ :: _,[_],h=>h
 |_ :: _,[_,_],h=>h
 |_ :: _,[_,_,_],h=>h
 |_ :: _,[_,_,_,_],h=>h
 |_ :: _,[_,_,_,_,_],h=>h
theorem xr.append {w:E}{base:Nat}{t:Tok}{c:Y}(b:Tt w base c t.parts):∀(l:As) (a:An),xr w base l a->xr w base (l++[t]) (a++[M J t.kind,C t.neg,c,M J t.c,M J t.mn,M J t.mx])
 | [],[],_=>⟨⟨rfl,rfl,rfl,rfl,rfl⟩,b,trivial⟩
 |_q :: ps,_d :: _e :: _f :: _g :: _i :: _j :: vs,h=>⟨h.1,h.2.1,xr.append b ps vs h.2.2⟩
 | [],_ :: _,h=>h.elim
 |_ :: _,[],h=>h.elim
 |_ :: _,[_],h=>h.elim
 |_ :: _,[_,_],h=>h.elim
 |_ :: _,[_,_,_],h=>h.elim
 |_ :: _,[_,_,_,_],h=>h.elim
 |_ :: _,[_,_,_,_,_],h=>h.elim
theorem xK.appended {w c:E}{base:Nat}{v f:Y}{l:As}{a:An}{t:Tok}{b:Y}(d:w.ownsRow base 177 6 v (D l) a)(g:xr w base l a)(i:Tt w base b t.parts)(h:c.ownsRow base 177 6 f (D l+1) (a++[M J t.kind,C t.neg,b,M J t.c,M J t.mn,M J t.mx])) (e:w.grownBy c (dH v)):xK c base f (l++[t]):=
 ⟨a++[M J t.kind,C t.neg,b,M J t.c,M J t.mn,M J t.mx],by rw[AO];exact h,xr.append (i.N9 d e) l a (xr.grown d e l a g)⟩
namespace Ref
def xy (b:Int):Bool:=(b == 42) ||(b == 43) ||(b == 63) ||(b == 123)
def zY (k op:Int):Int:=if k=3 then op+1 else if k=4 then op-1 else op
def zO (s:Al):Nat->As->Int->Bool->St->As×Int×Int
 |0,l,_,_,st=>(l,st.e,st.a)
 |f+1,l,op,atom,st=>
  if st.i<e s/\st.e=0 then
   (if atom=G/\xy (ze s st.i)=G then zO s f (l++[⟨6,Z,[],0,(zM s st).1,(zM s st).2.1⟩]) op Z (zM s st).2.2
    else if ze s st.i=40/\op=10 then([],7,(st.i:Int))
    else zO s f (l++[(zz s st).1]) (zY (zz s st).1.kind op) (((zz s st).1.kind == 1) ||((zz s st).1.kind == 4))
     (if zY (zz s st).1.kind op<0 then(zz s st).2.fail 3 st.i else(zz s st).2))
  else(l,(if 0<op then st.fail 3 (e s) else st).e,(if 0<op then st.fail 3 (e s) else st).a)
def yF (s:Al):As×Int×Int:=zO s (e s+1) [] 0 Z ⟨0,0,0⟩
theorem zd2 {st:St}(d:Good s st.i)(e:ze s st.i=40):Zj s (km s st)/\st.i<(km s st).i:=by have a:=d.NW oa oa;unfold km;split;have b:=a.NW oa oa;split;have c:=b.NW (by show 0<=ze s (st.i+2);omega) (by show ze s (st.i+2)<128;omega);exact⟨⟨c.le,λ_=>c⟩,by simp only[St.go];omega⟩;split;exact⟨Zj.fail b.le od,by rw[xC];simp only[St.go];omega⟩;exact⟨Zj.fail b.le od,by rw[xC];simp only[St.go];omega⟩;exact⟨⟨a.le,λ_=>a⟩,by simp only[St.go];omega⟩
theorem YU (s:Al):∀(f:Nat) (ps:Ba) (st:St),Zj s st->e s<st.i+f->(st.i<=(yP s f ps st).2.i/\(yP s f ps st).2.i<=e s+1/\((yP s f ps st).2.e=0->Good s (yP s f ps st).2.i))
 |0,ps,st,h,o=>by have:=h.1;omega
 |f+1,ps,st,h,o=>by
  by_cases c1:st.e=0/\ze s st.i≠93;have p:=h.2 c1.1;by_cases c:ze s st.i<0;rw[YX c1 c];exact⟨by rw[xC];exact AD _,by rw[xC];have:=h.1;omega,λb=>absurd b (vD _ _ _ od)⟩;have q:st.i<e s:=(by rw[<-zw];omega);have m:=wC p q;by_cases a:jY s (zo s st).2.2=G;have l:(zo s st).2.2.e=0/\ze s (zo s st).2.2.i=45/\(zo s st).2.2.i+1<e s:=(by simp[jY] at a;exact⟨a.1.1.1,a.1.1.2,a.1.2⟩);have n:=(m.1.2 l.1).NW oa oa;have g:=wC (st:=(zo s st).2.2.go 1) n l.2.2;have u:(zo s st).2.2.i+1<(zo s ((zo s st).2.2.go 1)).2.2.i:=g.2;by_cases d:(zo s ((zo s st).2.2.go 1)).2.2.e=0;by_cases j:BN (zo s st).1 (zo s ((zo s st).2.2.go 1)).1 (zo s st).2.1 (zo s ((zo s st).2.2.go 1)).2.1=G;rw[Qx c1 c a d j];exact⟨by rw[xC];omega,by rw[xC];have:=g.1.1;omega,λb=>absurd b (vD _ _ _ od)⟩;rw[wD c1 c a d j];have:=YU s f (ps++[⟨(zo s st).1.neg,[(A6 (zo s st).1,A6 (zo s ((zo s st).2.2.go 1)).1)]⟩]) _ g.1 oa;exact⟨oa,this.2⟩;rw[YY c1 c a d];dsimp only;exact⟨oa,by have:=g.1.1;omega,λb=>absurd b d⟩;rw[wS c1 c a];have:=YU s f (ps++[(zo s st).1]) _ m.1 oa;exact⟨oa,this.2⟩;rw[vt c1];refine⟨by simp only[St.go];omega,by have:=h.1;simp only[St.go];omega,λb=>?_⟩;have k:st.e=0:=b;have t:ze s st.i=93:=Classical.byContradiction λr=>c1 ⟨k,r⟩;exact(h.2 k).NW oa oa
theorem Kb (s:Al):∀(f:Nat) (n:Int) (st:St),Good s st.i->Good s (countL s f n st).2.i/\(countL s f n st).2.e=st.e
 |0,n,st,h=>⟨h,rfl⟩
 |f+1,n,st,h=>by
  cases hd:jX (ze s st.i);rw[countL_stop hd];exact⟨h,rfl⟩;rw[countL_go hd];have a:=YW hd;exact Kb s f _ (st.go 1) (h.NW oa oa)
theorem Kc {st:St}(h:Good s st.i):Good s (zU s st).2.i:=by rw[zbX];exact(Kb s _ 0 st h).1
end Ref
namespace Ref
theorem zd3 {mn:Int}{st:St}(h:Good s st.i):Good s (qK s mn st).2.i:=by unfold qK;split;rename_i b;have a:=h.NW oa oa;split;exact a;exact Kc (st:=st.go 1) a;exact h
theorem DJ (s:Al)(mn:Int)(st:St):st.i<=(qK s mn st).2.i:=by unfold qK;split;split;simp only[St.go];omega;have:=(wK s (st.go 1)).2.2.1;simp only[St.go] at this ⊢;omega;exact AD _
theorem Fe (s:Al)(st:St):(yE s st).i=st.i:=by unfold yE;split;exact xC _ _ _;rfl
theorem zaQ {st:St}(h:Good s st.i)(l:ze s st.i=123):st.i<(yu s st).2.2.i/\((yu s st).2.2.e=0->Good s (yu s st).2.2.i):=by
 have f:=h.NW oa oa;have g:=zd3 (mn:=(zU s (st.go 1)).1) (Kc (st:=st.go 1) f);have n:=(wK s (st.go 1)).2.2.1;have o:=DJ s (zU s (st.go 1)).1 (zU s (st.go 1)).2;have m:(st.go 1).i=st.i+1:=rfl;unfold yu;dsimp only;generalize qK s (zU s (st.go 1)).1 (zU s (st.go 1)).2=r at *;have j:=Fe s r.2;have d:((yE s r.2).go 1).i=r.2.i+1:=by show(yE s r.2).i+1=_;rw[j]
 split;exact⟨by rw[xC,d];omega,λb=>absurd b (vD _ _ _ od)⟩;refine⟨by rw[d];omega,λb=>?_⟩;rw[d];have a:(yE s r.2).e=0:=b;by_cases c:r.2.e=0/\ze s r.2.i≠125;unfold yE at a;rw[IN c] at a;exact absurd a (vD _ _ _ od);unfold yE at a;rw[iN c] at a;have:ze s r.2.i=125:=Classical.byContradiction λk=>c ⟨a,k⟩;exact g.NW oa oa
theorem K9 {st:St}(h:st.e=0->Good s st.i)(b:st.i<=e s+2):st.i<=(xY s st).i/\(xY s st).i<=e s+2/\((xY s st).e=0->Good s (xY s st).i):=by unfold xY;split;rename_i a;have g:=(h a.1).NW oa oa;have:=g.le;exact⟨by simp only[St.go];omega,by simp only[St.go];omega,λ_=>g⟩;exact⟨AD _,b,h⟩
theorem ww {b:Int}(h:xy b=G):b=42\/b=43\/b=63\/b=123:=by simp[xy] at h;omega
theorem Kd {st:St}(h:Good s st.i)(d:xy (ze s st.i)=G):st.i<(zM s st).2.2.i/\(zM s st).2.2.i<=e s+2/\((zM s st).2.2.e=0->Good s (zM s st).2.2.i):=by
 have j:=ww d;have a:=h.NW oa oa;have k:=a.le;have one:st.i<(xY s (st.go 1)).i/\(xY s (st.go 1)).i<=e s+2/\((xY s (st.go 1)).e=0->Good s (xY s (st.go 1)).i):=by have:=K9 (st:=st.go 1) (λ_=>a) (by show st.i+1<=_;omega);exact⟨by have:=this.1;simp only[St.go] at this ⊢;omega,this.2⟩
 unfold zM;split;exact one;split;exact one;split;exact one;have f:ze s st.i=123:=by omega
 have g:st.i<e s:=by rw[<-zw];omega
 have c:=zaQ h f;have b:=WU s st g;have:=K9 (st:=(yu s st).2.2) c.2 b;exact⟨by have:=this.1;dsimp only;omega,this.2⟩
theorem zbK {st:St}(h:Good s st.i)(r:st.i<e s):(zz s st).2.i<=e s+2/\((zz s st).2.e=0->st.i<(zz s st).2.i/\Good s (zz s st).2.i)/\st.i<=(zz s st).2.i:=by
 have one:0<=ze s st.i->ze s st.i<128->(st.go 1).i<=e s+2/\((st.go 1).e=0->st.i<(st.go 1).i/\Good s (st.go 1).i)/\st.i<=(st.go 1).i:=λa b=>by have g:=h.NW a b;have:=g.le;exact⟨by simp only[St.go];omega,λ_=>⟨by simp only[St.go];omega,g⟩,by simp only[St.go];omega⟩
 unfold zz;split;exact one oa oa;split;rename_i v;have g:=(h.NW oa oa).NW oa oa;have:=g.le;exact⟨by simp only[St.go];omega,λ_=>⟨by simp only[St.go];omega,g⟩,by simp only[St.go];omega⟩;split;exact one oa oa;split;exact one oa oa;split
 .have k:=h.NW oa oa;have l:Zj s (yV s (st.go 1)):=by unfold yV;split;rename_i t;simp only[vI,decide_eq_true_eq] at t;have:=Good.NW (s:=s) (p:=(st.go 1).i) k oa oa;exact⟨this.le,λ_=>this⟩;exact⟨k.le,λ_=>k⟩
  have u:st.i+1<=(yV s (st.go 1)).i:=by unfold yV;split<;>simp only[St.go]<;>omega
  have o:=YU s (e s+1-(yV s (st.go 1)).i) [] (yV s (st.go 1)) l (by have:=l.1;omega);unfold y9;exact⟨by dsimp only;omega,λf=>⟨by dsimp only;omega,o.2.2 f⟩,by dsimp only;omega⟩
 split;rename_i j;have d:=QR (cls:=Z) h j;exact⟨by have:=d.1.1;dsimp only;omega,λf=>⟨d.2,d.1.2 f⟩,by have:=d.2;dsimp only;omega⟩;split;rename_i j;have d:=zd2 h j;exact⟨by have:=d.1.1;dsimp only;omega,λf=>⟨d.2,d.1.2 f⟩,by have:=d.2;dsimp only;omega⟩;split;exact one oa oa;split;refine⟨by rw[xC];omega,λf=>absurd f (vD _ _ _ od),by rw[xC];omega⟩;have⟨n,c,m,q⟩:=h.next r;rw[m];have j:=qo m;exact⟨by simp only[St.go];omega,λ_=>⟨by simp only[St.go];omega,q⟩,by simp only[St.go];omega⟩
section
variable {s:Al} {f:Nat} {l:As} {op:Int} {atom:Bool} {st:St}
theorem Qh (h:st.i<e s/\st.e=0)(a:atom=G/\xy (ze s st.i)=G):zO s (f+1) l op atom st=zO s f (l++[⟨6,Z,[],0,(zM s st).1,(zM s st).2.1⟩]) op Z (zM s st).2.2:=by simp only[zO];rw[IN h,IN a]
theorem QN (h:st.i<e s/\st.e=0)(a:¬(atom=G/\xy (ze s st.i)=G))(b:ze s st.i=40/\op=10):zO s (f+1) l op atom st=([],7,(st.i:Int)):=by simp only[zO];rw[IN h,iN a,IN b]
theorem qX (h:st.i<e s/\st.e=0)(a:¬(atom=G/\xy (ze s st.i)=G))(b:¬(ze s st.i=40/\op=10)):zO s (f+1) l op atom st=zO s f (l++[(zz s st).1]) (zY (zz s st).1.kind op) (((zz s st).1.kind == 1) ||((zz s st).1.kind == 4)) (if zY (zz s st).1.kind op<0 then(zz s st).2.fail 3 st.i else(zz s st).2):=by simp only[zO];rw[IN h,iN a,iN b]
theorem Zo (h:¬(st.i<e s/\st.e=0)):zO s (f+1) l op atom st=(l,(if 0<op then st.fail 3 (e s) else st).e,(if 0<op then st.fail 3 (e s) else st).a):=by simp only[zO];rw[iN h]
end
end Ref
theorem Tryz.OP:(prog.info? 177).map (λi=>(i.zero,i.size,i.bytes))=I (I (Uf #[M J 0,C Z,K U 0 0,M J 0,M J 0,M J 0]),6,64):=om
theorem Ref.tokenF_open {st:St}(h:(zz s st).1.kind=3):ze s st.i=40:=by
 unfold zz at h
 (repeat' split at h)<;>simp_all
namespace Ref
section
variable {s:Al} {f:Nat} {L:As} {k op:Int} {A B:St}
theorem tk3 (b:(k == 3)=G)(h:0<=op):zO s f L (zY k op) ((k == 1) ||(k == 4)) (if zY k op<0 then A else B)=zO s f L (op+1) Z B:=by
 have e:k=3:=by simpa using b
 subst e;have a:zY 3 op=op+1:=by simp[zY]
 rw[a,iN oa];rfl
theorem tk4 (d:(k == 3)=Z)(b:(k == 4)=G)(_c:(k == 1)=Z)(h:0<=op-1):zO s f L (zY k op) ((k == 1) ||(k == 4)) (if zY k op<0 then A else B)=zO s f L (op-1) G B:=by
 have e:k=4:=by simpa using b
 subst e;have a:zY 4 op=op-1:=by simp[zY]
 rw[a,iN oa];rfl
theorem NH (d:(k == 3)=Z)(b:(k == 4)=G)(_c:(k == 1)=Z)(h:op-1<0):zO s f L (zY k op) ((k == 1) ||(k == 4)) (if zY k op<0 then A else B)=zO s f L (op-1) G A:=by
 have e:k=4:=by simpa using b
 subst e;have a:zY 4 op=op-1:=by simp[zY]
 rw[a,IN oa];rfl
theorem tk1 (d:(k == 3)=Z)(_c:(k == 4)=Z)(b:(k == 1)=G)(h:0<=op):zO s f L (zY k op) ((k == 1) ||(k == 4)) (if zY k op<0 then A else B)=zO s f L op G B:=by
 have e:k=1:=by simpa using b
 subst e;have a:zY 1 op=op:=by simp[zY]
 rw[a,iN oa];rfl
theorem tk0 (b:(k == 3)=Z)(a:(k == 4)=Z)(d:(k == 1)=Z)(h:0<=op):zO s f L (zY k op) ((k == 1) ||(k == 4)) (if zY k op<0 then A else B)=zO s f L op Z B:=by
 have c:zY k op=op:=by simp at b a;simp[zY,b,a]
 rw[c,iN oa,a,d];rfl
end
end Ref
theorem Qi (a0 a1 a2 a3 a4 a5:Y)(T:TypeId):∀j u,[a0,a1,a2,a3,a4,a5][j]?=I u->(dB w (Ub #[a0,a1,a2,a3,a4,a5] T)).cell? ((⟨c (i w),0,U⟩:Addr).add j)=I u:=by
 intro j u a;have h:=zj w (c (i w)) rfl #[a0,a1,a2,a3,a4,a5] T j u (by simpa using a);have e:(⟨c (i w),0,U⟩:Addr).add j=⟨c (i w),j,U⟩:=by
  cases j with
  |zero=>simp[Addr.add]
  |succ j=>simp[Addr.add]
 rw[e];exact h
def IS (w:E)(b:Nat):Int:=match dx w ⟨b,2,U⟩ with
 |some v=>intOf v
 |none=>0
variable {w b}
theorem XF {s:Al}{st:St}(h:Lex w b s st):IS w b=st.e:=by unfold IS;rw[h.c2];simp[intOf]
variable (w s)
theorem Gw:Lex (dB w (Ub #[Uc s,M J 0,M J 0,M J 0] 174)) (c (i w)) s ⟨0,0,0⟩:=
 ⟨zj _ _ rfl _ _ 0 _ rfl,zj _ _ rfl _ _ 1 _ rfl,zj _ _ rfl _ _ 2 _ rfl,zj _ _ rfl _ _ 3 _ rfl,zt _ _ rfl _ _ 1,zt _ _ rfl _ _ 2,zt _ _ rfl _ _ 3⟩
theorem Qu (w:E)(hs:s.size<=400)(hg:Ref.Good s 0):Uh V 35 #[Uc s] w λx w'=> ∃v,x=R (Ue #[v,M J (yF s).2.1,M J (yF s).2.2])/\xK w' (dg w.heap+1) v (yF s).1/\zke w w':=by
 have HG:=zd hg;clear hg;go_enter func35,ntmps35;go_wp2;go_loopw[6,7,8] (λv o a wr=>∃(l:As) (pa:Ap) (pn pc:Nat) (op:Int) (atom:Bool) (b:St) (f:Nat),v=K pa pn pc/\o=M J op/\a=C atom/\-1<=op/\op<=11/\xK wr (dg w.heap+1) (K pa pn pc) l/\Lex wr w.heap.size s b/\zke w wr/\
   dg w.heap+1<=dg wr.heap/\b.i<=s.size+2/\(D l)<=b.i+1/\H (b.e=0->Ref.Good s b.i/\(D l)<=b.i/\0<=op/\op<=10/\s.size<b.i+f)/\H (1<=f)/\H (yF s=zO s f l op atom b))
  (λ_ _ _ wr=>2*(s.size+3-Eo wr w.heap.size)+(if IS wr w.heap.size=0 then 1 else 0))
 exact⟨[],U,0,0,0,Z,⟨0,0,0⟩,s.size+1,rfl,rfl,rfl,oa,oa,xK.nil _ _,Gw w s,Ag,ov,ov,ov,(λ_=>⟨HG,ov,oa,oa,ov⟩),(by show 1<=_;omega),rfl⟩;obtain⟨l,pa,pn,pc,op,atom,b,f,rfl,rfl,rfl,cp,cq,hT,hL,hO,cY,cS,cU,ce,cl,HF⟩:=hrel;obtain⟨f,rfl⟩:∃f',f=f'+1:=⟨f-1,by have:=zb cl;omega⟩
 have aa:=zd hL;have a6:=zd hT;have ai:=zd hO;have aE:=zd hL;clear hT hO;have⟨u,y,z,B,i,p,r⟩:=hL;by_cases c1:b.i<s.size/\b.e=0
 .have⟨bT,cT,a8,cs,bX⟩:=zb ce c1.2;have C1:=zd c1;have hi:b.i<s.size:=c1.1;have e0:(b.e == 0)=G:=(by simp[c1.2]);have bR:decide ((b.i:Int)<(s.size:Int))=G:=ou;have bi:=zd bT;have aO:=zd bX;clear c1 bT bX;by_cases c3:atom=G/\xy (ze s b.i)=G
  .have ao:=zd (HF.trans (Qh (f:=f) (l:=l) (op:=op) C1 c3));have bu:=Kd bi c3.2;have cu:=ww c3.2;have ck:=c3.1;subst ck
   have cw:(ze s b.i == 42)=G\/((ze s b.i == 42)=Z/\(ze s b.i == 43)=G)\/((ze s b.i == 42)=Z/\(ze s b.i == 43)=Z/\(ze s b.i == 63)=G)\/((ze s b.i == 42)=Z/\(ze s b.i == 43)=Z/\(ze s b.i == 63)=Z/\(ze s b.i == 123)=G):=ou;clear c3 cu;go_wp2_with fail;refine(Zp w.heap.size s b _ aa hs).mono ?_;rintro e w1 ⟨rfl,h⟩;have ar:=aa.keep h id;have aU:=a6.keep h (λ_ _ _ f=>f);have au:=ai.trans h;have cx:=h.size;have bo:=zd ar;clear h u y z B i p r;have⟨u,y,z,B,i,p,r⟩:=ar;have aN:=zd (Ur aU au);clear aU au;obtain y1|⟨y1,y2⟩|⟨y1,y2,y3⟩|⟨y1,y2,y3,y4⟩:=cw
   all_goals
    go_wp2_with fail;refine(Vl w.heap.size s b _ bo hs hi C1.2).mono ?_;rintro e d ⟨rfl,ad,ah⟩;have av:=aN.1.keep ah (by intro g hg _ c;unfold zr at c;omega);have aR:=(aN.2).NU ah (AD _);have co:dg w.heap<dg d.heap:=ad.lt;generalize hq:zM s b=q at *;have⟨L,N,aB⟩:=q;simp only[] at *;have hk:=(zg.refl (λ_=>False) d).alloc (Ub #[M J 6,C Z,K U 0 0,M J 0,M J L,M J N] 177);have aV:¬(K pa pn pc).ownBlock=I d.heap.size:=by
     intro c;have⟨ae,h1,_⟩:=av;have:=(zh h1 _ c).2;omega
    have bm:=zd aV;have H3:=zd (Ur (ad.keep hk id) (Ur (av.keep hk (λ_ _ _ f=>f)) (Ur (aR.trans hk) (Tz.new (n:=dg d.heap) (a0:=M J 6) (a1:=C Z) (a2:=K U 0 0) (a3:=M J 0) (a4:=M J L) (a5:=M J N) d 177 rfl))));clear hk aV ad av aR u y z B i p r;go_upto_region 10 with fail;generalize bv:dB d (Ub #[M J 6,C Z,K U 0 0,M J 0,M J L,M J N] 177)=w3 at *;have⟨aQ,bp,aS,aq⟩:=zb H3;clear bv H3;have aa:=zd aQ;have bl:=zd aq;have ai:=zd aS;have cy:dg d.heap<dg w3.heap:=aq.lt;have⟨ae,T,aH⟩:=bp;have⟨u,y,z,B,i,p,r⟩:=aQ;have⟨t0,t1,t2,t3,t4,t5,v0,v1,v2,v3,v4,v5⟩:=aq;have⟨i0,hi,aI,aJ,aK⟩:=info_parts Tryz.OP;have cn:D l<=500:=oa;clear aS;go_wp2_with(at_builtin;refine wpList_append_own _ rfl _ _ 47 rfl (dg w.heap+1) 177 i0 (Uf #[M J 0,C Z,K U 0 0,M J 0,M J 0,M J 0]) 6 64 underlying47 hi aI aJ aK rfl od _ _ _ rfl (AZ T _) _ 1 1 [M J 6,C Z,K U 0 0,M J 0,M J L,M J N] rfl rfl (Qi _ _ _ _ _ _ _ _) (λx hx=>by simp at hx;obtain rfl|rfl|rfl|rfl|rfl|rfl:=hx<;>rfl) Ac oa ou ?_;intro v' w5 ab P bs;obtain⟨ba,bc,bb,rfl⟩:=zq ab;have S:=(((zg.refl (λk=>(K pa pn pc).ownBlock=I k) w3).alloc _).trans (zg.N3 P));have F:=aa.keep S (by intro c;have:=(zh T _ c).1;omega);have an:=bl.keep S (by intro c;exact absurd c bm);have X:=zd (Ur F (Ur ab (Ur P (Ur S an))));clear ab P bs S u y z B i p r;have⟨u,y,z,B,i,p,r⟩:=F;have⟨x0,x1,x2,x3,x4,x5,z0,z1,z2,z3,z4,z5⟩:=an);have⟨F,ab,P,S,an⟩:=zb X;have a7:=xK.appended (t:=⟨6,Z,[],0,L,N⟩) (AZ T _) (xr.keep (w:=w3) ((zg.refl (λ_=>False) w3).alloc _) (λ_ _ _ f=>f) l ae aH) (Tt.nil _ _) ab P;have a2:=((ai.alloc _).grown P (λj hj=>Or.inr (by have:=(zh T j hj).1;omega)))
    have bt:=bu.1;have a9:=bu.2.1;go_roundw
    case rel=>exact⟨l++[⟨6,Z,[],0,L,N⟩],ba,bc,bb,op,Z,aB,f,rfl,rfl,rfl,cp,cq,a7,F,a2,by have:=S.size;omega,a9,by simp;omega,(λW=>⟨bu.2.2 W,by simp;omega,a8,cs,by have:=zb aO;omega⟩),(by have:=zb aO;show 1<=_;omega),ao⟩
    case measure=>rw[jr F,jr aE,XF F,XF aE,IN (zb C1).2];split<;>omega
  (have c4:atom=Z\/(atom=G/\(ze s b.i == 42)=Z/\(ze s b.i == 43)=Z/\(ze s b.i == 63)=Z/\(ze s b.i == 123)=Z):=by cases atom;exact .inl rfl;right;simp[xy] at c3;simp;omega);have C3:=zd c3;clear c3;by_cases c5:ze s b.i=40/\op=10
  .have HH:=zd (HF.trans (QN (f:=f) (l:=l) C1 C3 c5));have d1:(ze s b.i == 40)=G:=(by simp[c5.1]);have d2:(op == 10)=G:=(by simp[c5.2]);clear c5;go_wp2_with fail;refine(Zp w.heap.size s b _ aa hs).mono ?_;rintro e w1 ⟨rfl,h⟩;have ar:=aa.keep h id;have au:=zd (ai.trans h);clear h u y z B i p r;have⟨u,y,z,B,i,p,r⟩:=ar;obtain rfl|⟨rfl,y1,y2,y3,y4⟩:=c4
   all_goals
    go_wp2;go_ret3;rw[zb HH];exact⟨_,rfl,xK.nil _ _,au⟩
  have ao:=zd (HF.trans (qX (f:=f) (l:=l) C1 C3 c5));have aj:=zbK bi hi;have bZ:=tokenF_open (s:=s) (st:=b);have c6:(ze s b.i == 40)=Z\/((ze s b.i == 40)=G/\(op == 10)=Z):=ou;have C5:=zd c5;clear c5;go_wp2_with fail;refine(Zp w.heap.size s b _ aa hs).mono ?_;rintro e w1 ⟨rfl,h⟩;have ar:=aa.keep h id;have aU:=a6.keep h (λ_ _ _ f=>f);have au:=ai.trans h;have cx:=h.size;have bo:=zd ar;clear h u y z B i p r;have⟨u,y,z,B,i,p,r⟩:=ar;have aN:=zd (Ur aU au);clear aU au;obtain rfl|⟨rfl,y1,y2,y3,y4⟩:=c4
  all_goals
   obtain y5|⟨y5,y6⟩:=c6
  all_goals
   go_wp2_with fail;refine(zgk w.heap.size s b _ bo hs hi bi C1.2).mono ?_;rintro e d ⟨pv,rfl,b1,ad,ah⟩;have av:=aN.1.keep ah (by intro g hg _ c;unfold zr at c;omega);have aR:=(aN.2).NU ah (AD _);have co:dg w.heap<dg d.heap:=ad.lt;have b2:=Tt.base (base':=dg w.heap+1) b1 oa;have⟨qs,bt,a9⟩:=b1;obtain⟨qa,qn,qc,rfl⟩:=zq bt;clear bt a9;generalize hq:zz s b=q at *;have⟨⟨k,ng,pt,tc,L,N⟩,aB⟩:=q;simp only[] at *;have hk:=(zg.refl (λ_=>False) d).alloc (Ub #[M J k,C ng,K qa qn qc,M J tc,M J L,M J N] 177);have aV:¬(K pa pn pc).ownBlock=I d.heap.size:=by
    intro c;have⟨ae,h1,_⟩:=av;have:=(zh h1 _ c).2;omega
   have bm:=zd aV;have H3:=zd (Ur (ad.keep hk id) (Ur (av.keep hk (λ_ _ _ f=>f)) (Ur (aR.trans hk) (Ur (b2.keep hk (λ_ _ _ f=>f)) (Tz.new (n:=dg d.heap) (a0:=M J k) (a1:=C ng) (a2:=K qa qn qc) (a3:=M J tc) (a4:=M J L) (a5:=M J N) d 177 rfl)))));clear hk aV ad av ah aR b2 hq u y z B i p r;go_upto_region 15 with fail;generalize bv:dB d (Ub #[M J k,C ng,K qa qn qc,M J tc,M J L,M J N] 177)=w3 at *;have⟨aQ,bp,aS,bV,aq⟩:=zb H3;clear bv H3;have aa:=zd aQ;have bl:=zd aq;have ai:=zd aS;have cg:=zd bV;have cy:dg d.heap<dg w3.heap:=aq.lt;have⟨ae,T,aH⟩:=bp;have⟨u,y,z,B,i,p,r⟩:=aQ;have⟨t0,t1,t2,t3,t4,t5,v0,v1,v2,v3,v4,v5⟩:=aq;have⟨i0,bY,aI,aJ,aK⟩:=info_parts Tryz.OP;have cn:D l<=500:=oa;have b9:=zd bZ;have ca:=zd aj;have a9:=aj.1;have cW:=aj.2.2;clear aS bV bZ aj;have cm:((k == 3)=G/\(k == 4)=Z/\(k == 1)=Z)\/((k == 3)=Z/\(k == 4)=G/\(k == 1)=Z/\op-1<0)\/((k == 3)=Z/\(k == 4)=G/\(k == 1)=Z/\0<=op-1)\/((k == 3)=Z/\(k == 4)=Z/\(k == 1)=G)\/((k == 3)=Z/\(k == 4)=Z/\(k == 1)=Z):=ou;have ci:=zd (Ur T aH);have b8:=zd (Ur bY (Ur aI (Ur aJ aK)));clear T aH bY aI aJ aK;obtain⟨m1,m2,m3⟩|⟨m1,m2,m3,m4⟩|⟨m1,m2,m3,m4⟩|⟨m1,m2,m3⟩|⟨m1,m2,m3⟩:=cm
  all_goals
   have⟨T,aH⟩:=zb ci;have⟨hi,aI,aJ,aK⟩:=zb b8;go_wp2_with(at_builtin;refine wpList_append_own _ rfl _ _ 47 rfl (dg w.heap+1) 177 i0 (Uf #[M J 0,C Z,K U 0 0,M J 0,M J 0,M J 0]) 6 64 underlying47 hi aI aJ aK rfl od _ _ _ rfl (AZ T _) _ 1 1 [M J k,C ng,K qa qn qc,M J tc,M J L,M J N] rfl rfl (Qi _ _ _ _ _ _ _ _) (λx hx=>by simp at hx;obtain rfl|rfl|rfl|rfl|rfl|rfl:=hx<;>rfl) Ac oa ou ?_;intro v' w5 ab P bs;obtain⟨ba,bc,bb,rfl⟩:=zq ab;have S:=(((zg.refl (λk=>(K pa pn pc).ownBlock=I k) w3).alloc _).trans (zg.N3 P));have F:=aa.keep S (by intro c;have:=(zh T _ c).1;omega);have an:=bl.keep S (by intro c;exact absurd c bm);have X:=zd (Ur F (Ur ab (Ur P (Ur S an))));clear ab P bs S u y z B i p r;have⟨u,y,z,B,i,p,r⟩:=F;have⟨x0,x1,x2,x3,x4,x5,z0,z1,z2,z3,z4,z5⟩:=an)
  all_goals
   have⟨F,ab,P,S,an⟩:=zb X;have a7:=xK.appended (t:=⟨k,ng,pt,tc,L,N⟩) (AZ T _) (xr.keep (w:=w3) ((zg.refl (λ_=>False) w3).alloc _) (λ_ _ _ f=>f) l ae aH) (cg.keep ((zg.refl (λ_=>False) w3).alloc _) (λ_ _ _ f=>f)) ab P;have a2:=((ai.alloc _).grown P (λj hj=>Or.inr (by have:=(zh T j hj).1;omega)))
   have ct:(k == 3)=G->op<=9:=λm=>by have a1:=zb b9 (by simpa using m);have ac:=zb C5;omega
   try (have cV:=ct m1)
   have aj:=zb ca;have cZ:=S.size
   first
    |(refine(yT w.heap.size s aB 3 _ _ F).mono ?_
      rintro e w6 ⟨rfl,aD,aT⟩;have cd:=an.keep aT Af;have cj:=zd (Ur aD (Ur (a7.keep aT (by intro g hg _ c;unfold zr at c;omega)) (a2.NU aT (AD _))));have cX:=aT.size;clear aD aT x0 x1 x2 x3 x4 x5 z0 z1 z2 z3 z4 z5 u y z B i p r;have⟨x0,x1,x2,x3,x4,x5,z0,z1,z2,z3,z4,z5⟩:=cd;go_wp2;have⟨aD,ch,cf⟩:=zb cj;have b0:=vD aB 3 (b.i:Int) od;go_roundw
      case rel=>exact⟨l++[⟨k,ng,pt,tc,L,N⟩],ba,bc,bb,_,_,aB.fail 3 b.i,f,rfl,rfl,rfl,oa,oa,ch,aD,cf,oa,by rw[xC];omega,by rw[xC];simp;omega,(λW=>absurd W b0),(by have:=zb aO;show 1<=_;omega),zd (ao.trans (NH m1 m2 m3 m4))⟩
      case measure=>rw[jr aD,jr aE,XF aD,XF aE,IN (zb C1).2,iN b0,xC];omega)
    |(go_roundw
      case rel=>exact⟨l++[⟨k,ng,pt,tc,L,N⟩],ba,bc,bb,_,_,aB,f,rfl,rfl,rfl,oa,oa,a7,F,a2,oa,oa,by simp;omega,(λW=>⟨(aj.2.1 W).2,by have:=(aj.2.1 W).1;simp;omega,oa,oa,by have:=(aj.2.1 W).1;have:=zb aO;omega⟩),(by have:=zb aO;show 1<=_;omega),(by first
       |exact zd (ao.trans (tk3 m1 a8))
       |exact zd (ao.trans (tk4 m1 m2 m3 m4))
       |exact zd (ao.trans (tk1 m1 m2 m3 a8))
       |exact zd (ao.trans (tk0 m1 m2 m3 a8)))⟩
      case measure=>
       rw[jr F,jr aE,XF F,XF aE,IN (zb C1).2];by_cases W:aB.e=0;have:=(aj.2.1 W).1;rw[IN W];omega;rw[iN W];omega)
 have HH:H (yF s=(l,(if 0<op then b.fail 3 s.size else b).e,(if 0<op then b.fail 3 s.size else b).a)):=(by rw[zb HF];exact Zo c1);have c2:¬b.i<s.size\/(b.i<s.size/\(b.e == 0)=Z):=(by grind);clear c1;obtain c2|⟨c2,c3⟩:=c2
 case' inl=>have bR:decide ((b.i:Int)<(s.size:Int))=Z:=by simp;omega
 case' inr=>have bR:decide ((b.i:Int)<(s.size:Int))=G:=by simp;omega
 all_goals
  by_cases cr:0<op
  .go_wp2_with fail;refine(yT w.heap.size s b 3 _ _ aa).mono ?_;rintro e d ⟨rfl,ad,ah⟩;have cO:=zd ad;have bO:=zd ah;have⟨m0,m1,m2,m3,j1,j2,j3⟩:=ad;clear ah;go_wp2;go_quiet(fail);go_wp2;go_ret3;rw[zb HH,IN cr];exact⟨_,rfl,(a6.keep bO (by intro g hg _ c;unfold zr at c;omega)).keep ((zg.refl (λ_=>False) d).drewN _) (λ_ _ _ f=>f),((ai.mono (Q:=λ_=>False) (λ_ _ f=>f)).NU bO (AD _)).drewN _⟩
  go_wp2;go_quiet(fail);go_wp2;go_ret3;rw[zb HH,iN oa];exact⟨_,rfl,a6.keep ((zg.refl (λ_=>False) wr).drewN _) (λ_ _ _ f=>f),ai.drewN _⟩
def jW (w:E)(g off:Nat)(l:As):Prop:=∀(j:Nat) (t:Tok),l[j]?=I t->∃a c b,
 dx w ⟨g,off+j*6,U⟩=I (M J t.kind)/\dx w ⟨g,off+j*6+1,U⟩=I (C t.neg)/\dx w ⟨g,off+j*6+2,U⟩=I (K a c b)/\
 dx w ⟨g,off+j*6+3,U⟩=I (M J t.c)/\dx w ⟨g,off+j*6+4,U⟩=I (M J t.mn)/\dx w ⟨g,off+j*6+5,U⟩=I (M J t.mx)
namespace Ref
def zT (l:As)(k:Nat):Int:=match l[k]? with
 |some t=>t.kind
 |none=>0
def xH (l:As):Nat->Nat->Int->Int
 |0,_,_=>(D l:Int)-1
 |f+1,k,op=>if k<D l then(if zY (zT l k) op=0 then(k:Int) else xH l f (k+1) (zY (zT l k) op)) else(D l:Int)-1
def xz (l:As)(i:Nat):Int:=xH l (D l+1-i) i 0
end Ref
theorem jW.kind {w:E}{g off:Nat}{l:As}(h:jW w g off l)(k:Nat)(a:k<D l):dx w ⟨g,off+k*6,U⟩=I (M J (zT l k)):=by have⟨_,_,_,b,_⟩:=h k l[k] (AE a);unfold zT;rw[AE a];exact b
theorem zbL (l:As)(i:Nat)(w:E)(h:jW w g off l)(S:D l<=1000)(_N:D l<=cap)(F:i<=D l):Uh V 126 #[K (I ⟨g,off,U⟩) (D l) cap,M J i] w λx L=>x=R (M J (xz l i))/\L=w:=by
 have u:=zd h;go_enter func126,ntmps126;go_wp2_with fail
 go_loop [5,6] (λo k=>∃(op:Int) (n f:Nat),o=M J op/\k=M J n/\n<=D l/\-2000-n<=op/\op<=n/\H (D l<n+f)/\H (xz l i=xH l f n op)) (λ_ k=>D l-(intOf k).toNat)
 case atStart=>exact⟨0,i,D l+1-i,rfl,rfl,F,oa,oa,(by show _<_;omega),rfl⟩
 case round=>
  obtain⟨op,n,f,rfl,rfl,T,W,X,m,q⟩:=hrel;obtain⟨f,rfl⟩:∃y,f=y+1:=⟨f-1,by have:=zb m;omega⟩
  by_cases p:n<D l
  ·((have P:=u.kind n p;have d:H (xz l i=if zY (zT l n) op=0 then(n:Int) else xH l f (n+1) (zY (zT l n) op)):=by rw[zb q];simp only[xH];rw[IN p];rfl);generalize z:zT l n=c at *;have B:((c == 3)=G/\zY c op=op+1)\/((c == 3)=Z/\(c == 4)=G/\zY c op=op-1)\/((c == 3)=Z/\(c == 4)=Z/\zY c op=op):=by by_cases s:c=3;left;simp[zY,s];by_cases t:c=4;right;left;simp[zY,t];right;right;simp[zY,s,t]);obtain⟨r,j⟩|⟨r,v,j⟩|⟨r,v,j⟩:=B
   all_goals
    rw[j] at d
   .by_cases a:op+1=0
    .have e:(op+1 == 0)=G:=(by simp[a]);have b:H (xz l i=(n:Int)):=(by rw[zb d,IN a];rfl);go_wp2;go_ret;exact⟨qR b.symm,rfl⟩
    have e:(op+1 == 0)=Z:=(by simp[a]);have b:H (xz l i=xH l f (n+1) (op+1)):=(by rw[zb d,iN a];rfl);go_wp2;go_round
    case rel=>exact⟨op+1,n+1,f,rfl,Ae,oa,oa,oa,(by have:=zb m;show _<_;omega),b⟩
    case measure=>simp[intOf];omega
   .by_cases a:op-1=0
    .have e:(op-1 == 0)=G:=ou;have b:H (xz l i=(n:Int)):=(by rw[zb d,IN a];rfl);go_wp2;go_ret;exact⟨qR b.symm,rfl⟩
    have e:(op-1 == 0)=Z:=ou;have b:H (xz l i=xH l f (n+1) (op-1)):=(by rw[zb d,iN a];rfl);go_wp2;go_round
    case rel=>exact⟨op-1,n+1,f,rfl,Ae,oa,oa,oa,(by have:=zb m;show _<_;omega),b⟩
    case measure=>simp[intOf];omega
   by_cases a:op=0
   .have e:(op == 0)=G:=(by simp[a]);have b:H (xz l i=(n:Int)):=(by rw[zb d,IN a];rfl);go_wp2;go_ret;exact⟨qR b.symm,rfl⟩
   have e:(op == 0)=Z:=(by simp[a]);have b:H (xz l i=xH l f (n+1) op):=(by rw[zb d,iN a];rfl);go_wp2;go_round
   case rel=>exact⟨op,n+1,f,rfl,Ae,oa,oa,oa,(by have:=zb m;show _<_;omega),b⟩
   case measure=>simp[intOf];omega
  have b:H (xz l i=(D l:Int)-1):=(by rw[zb q];simp only[xH];rw[iN p];rfl);go_wp2;go_ret;exact⟨qR b.symm,rfl⟩
namespace Ref
def qQ (l:As)(i:Nat):Int:=if zT l i=3 then xz l i+1 else(i:Int)+1
def yR (l:As)(i:Nat):Int:=if qQ l i<D l/\zT l (qQ l i).toNat=6 then qQ l i+1 else qQ l i
theorem Ke (l:As):∀(f k:Nat) (op:Int),k<=D l->0<D l->0<=xH l f k op/\xH l f k op<D l
 |0,k,op,_,h=>by simp only[xH];omega
 |f+1,k,op,a,h=>by
  simp only[xH];split;split;omega;exact Ke l f (k+1) _ oa h;omega
end Ref
theorem ZO (l:As)(i:Nat)(w:E)(h:jW w g off l)(y:D l<=1000)(t:D l<=cap)(u:i<D l):Uh V 72 #[K (I ⟨g,off,U⟩) (D l) cap,M J i] w λx B=>x=R (Ue #[M J (qQ l i),M J (yR l i)])/\B=w:=by
 have L:=h.kind i u;have j:=zd h;by_cases f:zT l i=3
 .have s:(zT l i == 3)=G:=by simp[f]
  have p:=Ke l (D l+1-i) i 0 oa oa;obtain⟨c,m⟩:∃c:Nat,xz l i=(c:Int):=⟨(xz l i).toNat,by unfold xz;omega⟩
  have F:c<D l:=by have:xz l i<D l:=p.2;omega
  have a:H (qQ l i=((c+1:Nat):Int)):=by show _=_;unfold qQ;rw[IN f,m];omega
  have r:=zd m;go_enter func72,ntmps72;go_wp2_with fail;refine(zbL g off cap l i _ j y t oa).mono ?_;rintro e N ⟨rfl,q⟩;have z:=q.symm;subst z;rw[zb r];by_cases o:c+1<D l
  .have v:=j.kind (c+1) o;by_cases b:zT l (c+1)=6
   ·(have k:(zT l (c+1) == 6)=G:=(by simp[b]);have d:H (yR l i=((c+1:Nat):Int)+1):=by show _=_;unfold yR;rw[zb a,CH,IN ⟨oa,b⟩]);go_wp2;go_ret2;rw[zb d,zb a];exact⟨Ye oa oa,rfl⟩
   (have k:(zT l (c+1) == 6)=Z:=(by simp[b]);have d:H (yR l i=((c+1:Nat):Int)):=by show _=_;unfold yR;rw[zb a,CH,iN (by intro n;exact b n.2)]);go_wp2;go_ret2;rw[zb d,zb a];exact⟨Ye oa oa,rfl⟩
  (have d:H (yR l i=((c+1:Nat):Int)):=by show _=_;unfold yR;rw[zb a,iN oa]);go_wp2;go_ret2;rw[zb d,zb a];exact⟨Ye oa oa,rfl⟩
 have s:(zT l i == 3)=Z:=by simp[f]
 have a:H (qQ l i=((i+1:Nat):Int)):=by show _=_;unfold qQ;rw[iN f];omega
 go_enter func72,ntmps72;by_cases o:i+1<D l
 .have v:=j.kind (i+1) o;by_cases b:zT l (i+1)=6
  ·(have k:(zT l (i+1) == 6)=G:=(by simp[b]);have d:H (yR l i=((i+1:Nat):Int)+1):=by show _=_;unfold yR;rw[zb a,CH,IN ⟨oa,b⟩]);go_wp2;go_ret2;rw[zb d,zb a];exact⟨Ye oa oa,rfl⟩
  (have k:(zT l (i+1) == 6)=Z:=(by simp[b]);have d:H (yR l i=((i+1:Nat):Int)):=by show _=_;unfold yR;rw[zb a,CH,iN (by intro n;exact b n.2)]);go_wp2;go_ret2;rw[zb d,zb a];exact⟨Ye oa oa,rfl⟩
 (have d:H (yR l i=((i+1:Nat):Int)):=by show _=_;unfold yR;rw[zb a,iN oa]);go_wp2;go_ret2;rw[zb d,zb a];exact⟨Ye oa oa,rfl⟩
end
