/- The reference's classes. -/
import Derived.Test.YtcgleficedipkaaGreatDoorYRefKRefP
namespace Go.Proofs.YtcgleficedipkaaGreatDoor
open Option renaming none->U,some->I
open Value renaming int->M,slice->K,bool->C,pointer->Ua,string->Uc,agg->Uf
open IntKind renaming i64->J
open Bool renaming false->Z,true->G
open _root_.Go.Proofs.Tryz renaming prog->V
open Go renaming World->E,Value->Y,Calls->Uh
open Go.RowKit renaming Hid->H
open Or renaming inr->O,inl->Q
open Ending renaming returned->R
open Obj renaming cells->Ub
open And renaming intro->Ur
open Ref
open _root_.Go.Proofs.Tryz
variable {s:ByteArray}{w q:World}(b:Nat)
section
open Go.RowKit
set_option maxHeartbeats 3200000
set_option maxRecDepth 100000
theorem qA (n:Int)(a:0<=n)(b:n<=100000):IntKind.i64.wrap n=n:=by rw[IntKind.wrap_i64];omega
namespace Ref
theorem zdJ {h:St}(a:¬jK s h=G):(h.e == 0)=Z\/((h.e == 0)=G/\(zd s h.i == 45)=Z)\/((h.e == 0)=G/\(zd s h.i == 45)=G/\¬h.i+1<s.size)\/((h.e == 0)=G/\(zd s h.i == 45)=G/\h.i+1<s.size/\zd s (h.i+1)=93):=by simp only[jK,zhb,decide_eq_true_eq,beq_eq_false_iff_ne,beq_iff_eq] at *;by_cases b:h.e=0;omega;exact Q b
theorem zao {h:St}(b:Good s h.i)(_c:h.e=0):wM s (yX s h):=by unfold yX;split;rename_i a;simp only[vz,decide_eq_true_eq] at a;have:=b.ascii oa oa;exact⟨this.le,λ_=>this⟩;exact⟨b.le,λ_=>b⟩
end Ref
theorem Yb (s:ByteArray)(k:Nat)(a:k<s.size)(i:Int)(b:i=(k:Int))(w:E):(Instr.index 9 (Uc s) (M J i)).run V w=.ok (M .u8 ((s[k]'a).toNat:Int)) w:=by subst b;rw[run_index_string w 9 s J (k:Int) underlying9];simp[a]
theorem Tryz.infoPart:(prog.info? 336).map (λi=>(i.zero,i.size,i.bytes))=I (I (Uf #[C Z,K U 0 0]),2,32):=om
theorem ZF {b:Nat}{s:ByteArray}{h i:St}{w W W':E}{ps:List Pt}{c:Option Addr}{e d:Nat}(p:b<w.heap.size)(j:y9 s h=(ps,i))(m:PartsAt W (w.heap.size+2) (K c e d) ps)(k:Lex W b s i)(l:zf (zt b) w W)(a:zf (zt w.heap.size) W W'):∃f,Ending.returned (Uf #[M J 1,C (vz s h),K c e d,M J 0,M J 0,M J 0])=R (Uf #[M J 1,C (vz s h),f,M J 0,M J 0,M J 0])/\PartsAt W' w.heap.size f (y9 s h).1/\Lex W' b s (y9 s h).2/\zf (zt b) w W':=by rw[j];exact⟨_,rfl,(m.keep a (by intro g o _ n;unfold zt at n;omega)).base oa,k.keep a (by unfold zt;omega),l.young a (zgH _)⟩
theorem zfW (s:ByteArray)(h:St)(w:E)(a:Lex w b s h)(hs:s.size<=400)(hf:Ref.Good s h.i)(he:h.e=0):Uh V 179 #[Ua (I ⟨b,0,U⟩)] w λx q=> ∃pv,x=R (Uf #[M J 1,C (vz s h),pv,M J 0,M J 0,M J 0])/\PartsAt q w.heap.size pv (y9 s h).1/\Lex q b s (y9 s h).2/\zf (zt b) w q:=by
 have cO:=ze a;have bQ:=a.lt;have eu:=hf.le;have HE:=ze he;have HG:=ze hf;clear he hf;have cl:=ze ((cO.alloc (Ub #[M J 0,C Z,K U 0 0,M J 0,M J 0,M J 0] 308)).alloc (Ub #[M J 1,C Z,K U 0 0,M J 0,M J 0,M J 0] 308));have c3:=ze ((Six.new (n:=w.heap.size) (a0:=M J 0) (a1:=C Z) (a2:=K U 0 0) (a3:=M J 0) (a4:=M J 0) (a5:=M J 0) w 308 rfl).keep ((zf.refl (λ_=>False) _).alloc (Ub #[M J 1,C Z,K U 0 0,M J 0,M J 0,M J 0] 308)) id);have dc:=ze (Six.new (n:=w.heap.size+1) (a0:=M J 1) (a1:=C Z) (a2:=K U 0 0) (a3:=M J 0) (a4:=M J 0) (a5:=M J 0) (w.alloc (Ub #[M J 0,C Z,K U 0 0,M J 0,M J 0,M J 0] 308)) 308 ov);have cU:=ze (((zf.refl (zt b) w).alloc (Ub #[M J 0,C Z,K U 0 0,M J 0,M J 0,M J 0] 308)).alloc (Ub #[M J 1,C Z,K U 0 0,M J 0,M J 0,M J 0] 308));clear a;go_enter func179,ntmps179;go_wp2_with fail;refine(wY b s h _ cl hs).mono ?_;rintro e w1 ⟨rfl,bK⟩;have cQ:=cl.keep bK id;have df:=dc.keep bK id;have c7:=c3.keep bK id;have y:=ze (cU.trans (bK.mono (λ_ _ f=>f.elim)));have t:=ze cQ;have L:=ze df;have F:=ze c7;clear bK cl dc c3 cU;obtain⟨l0,l1,l2,l3,k1,k2,k3⟩:=cQ;obtain⟨t0,t1,t2,t3,t4,t5,v0,v1,v2,v3,v4,v5⟩:=df;obtain⟨S,T,W,r3,r4,r5,u0,u1,u2,u3,u4,u5⟩:=c7;go_upto_if 12 with fail;go_cut[] (λwx=>Lex wx b s (yX s h)/\Six wx (w.heap.size+1) (M J 1) (C (vz s h)) (K U 0 0) (M J 0) (M J 0) (M J 0)/\Six wx w.heap.size (M J 0) (C Z) (K U 0 0) (M J 0) (M J 0) (M J 0)/\zf (zt b) w wx)
 case first=>
  by_cases hb:zd s h.i=94
  .have hn:vz s h=G:=(by simp[vz,hb]);have hc:yX s h=h.go 1:=(by unfold yX;rw[IN hn]);have bP:(zd s h.i == 94)=G:=(by simp[hb]);have Hn:=ze hn;have Hc:=ze hc;clear hn hc hb;go_wp2_with fail;go_meet
   case rel=>
    rw[zb Hn,zb Hc];exact⟨(t.keep ((zf.refl (zt (w.heap.size+1)) w1).mine 1 (C G)) (by unfold zt;omega)).setI _ 1 oa,(L.set1 _).other ⟨b,1,U⟩ ou _,
     (F.other ⟨w.heap.size+1,1,U⟩ ov _).other ⟨b,1,U⟩ ou _,(y.young ((zf.refl (zt (w.heap.size+1)) w1).mine 1 (C G)) oa).mine 1 _⟩
  have hn:vz s h=Z:=(by simp[vz,hb]);have hc:yX s h=h:=(by unfold yX;rw[iN (by simp[hn])]);have bP:(zd s h.i == 94)=Z:=(by simp[hb]);have Hn:=ze hn;have Hc:=ze hc;clear hn hc hb;go_wp2_with fail;go_meet
  case rel=>
   rw[zb Hn,zb Hc];exact⟨t,L,F,y⟩
 case rest=>
  obtain⟨cS,dh,c8,cX⟩:=hcut;clear l0 l1 l2 l3 k1 k2 k3 t0 t1 t2 t3 t4 t5 v0 v1 v2 v3 v4 v5 S T W r3 r4 r5 u0 u1 u2 u3 u4 u5 t L F y cO;have cj:=zao HG HE;have d9:=cj.1;have cG:=ze (Ur cS (Ur dh (Ur c8 (Ur cX cj))));clear cS dh c8 cX cj;go_wp2_with fail;go_loopw[6] (λd wr=>∃(ps:List Pt) (pa:Option Addr) (pn pc:Nat) (r:St) (f:Nat),Lex wr b s r/\Six wr (w.heap.size+1) (M J 1) (C (vz s h)) (K pa pn pc) (M J 0) (M J 0) (M J 0)/\Six wr w.heap.size (M J 0) (C Z) (K U 0 0) (M J 0) (M J 0) (M J 0)/\
    PartsAt wr (w.heap.size+2) (K pa pn pc) ps/\zf (zt b) w wr/\wM s r/\w.heap.size+2<=wr.heap.size/\ps.length<=r.i/\H (s.size<r.i+f)/\H (y9 s h=yQ s f ps r))
   (λ_ wr=>s.size-lexI wr b)
  obtain⟨h1,h2,h3,h4,h5⟩:=zb cG;exact⟨[],U,0,0,yX s h,s.size+1-(yX s h).i,h1,h2,h3,PartsAt.nil _ _,h4,h5,h2.lt,ov,(by show _<_;omega),rfl⟩;obtain⟨ps,pa,pn,pc,r,f,hL,hT,hR,hP,hO,b2,eE,eD,hf,HF⟩:=hrel;obtain⟨f,rfl⟩:∃f',f=f'+1:=⟨f-1,by have:=zb hf;have:=b2.1;omega⟩
  have t:=ze hL;have L:=ze hT;have F:=ze hR;have aL:=ze hP;have y:=ze hO;have dZ:=ze b2;have eA:r.i<=s.size:=b2.1;have cR:=ze hL;have d0:=ze hP;clear cG hP hO b2 d9;obtain⟨l0,l1,l2,l3,k1,k2,k3⟩:=hL;obtain⟨t0,t1,t2,t3,t4,t5,v0,v1,v2,v3,v4,v5⟩:=hT;obtain⟨S,T,W,r3,r4,r5,u0,u1,u2,u3,u4,u5⟩:=hR;by_cases e1:r.e=0
  .have ab:(r.e == 0)=G:=(by simp[e1]);by_cases ad:zd s r.i=93
   .have bb:(zd s r.i != 93)=Z:=(by simp[ad]);have HH:H (y9 s h=(ps,r.go 1)):=(by rw[zb HF];exact vh (by intro o;exact o.2 ad));clear e1 ad;go_wp2_with fail;refine(ye b s r _ t hs).mono ?_;rintro e u ⟨rfl,nq,rfl⟩;go_wp2_with fail;refine bodyPost_ret (v:=Uf #[M J 1,C (vz s h),K pa pn pc,M J 0,M J 0,M J 0]) (by simp[results,results179,go_sem,S,T,W,r3,r4,r5]) rfl ?_;exact ZF bQ HH (aL.keep (((zf.refl (zt b) wr).drewN nq).mine 1 _) (by intro g hg _ o;unfold zt at o;omega)) ((t.drewN nq).setI _ 1 oa) ((y.drewN nq).mine 1 _) (zf.six w.heap.size _ _ _ _ _ _ _)
   have bb:(zd s r.i != 93)=G:=(by simp[ad]);by_cases aa:zd s r.i<0
   .have HH:H (y9 s h=(ps,r.fail 3 r.i)):=(by rw[zb HF];exact YT ⟨e1,ad⟩ aa);clear e1 ad;go_wp2_with fail;refine(ye b s r _ t hs).mono ?_;rintro e u ⟨rfl,nq,rfl⟩;go_wp2_with fail;refine(ye b s r _ (t.drewN _) hs).mono ?_;rintro e u ⟨rfl,ep,rfl⟩;go_wp2_with fail;refine(yU b s r 3 _ _ (t.drewN _)).mono ?_;rintro e w5 ⟨rfl,aR,B⟩;have ba:=(L.drewN _).keep B (by unfold zt;omega);have a8:=(F.drewN _).keep B (by unfold zt;omega);have ca:=ze aR;have cb:=ze ((y.drewN _).trans B);have cc:=ze (aL.keep (((zf.refl (zt b) wr).drewN _).trans B) (by intro g hg _ o;unfold zt at o;omega));clear aR B l0 l1 l2 l3 k1 k2 k3 t0 t1 t2 t3 t4 t5 v0 v1 v2 v3 v4 v5 S T W r3 r4 r5 u0 u1 u2 u3 u4 u5;obtain⟨t0,t1,t2,t3,t4,t5,v0,v1,v2,v3,v4,v5⟩:=ba;obtain⟨S,T,W,r3,r4,r5,u0,u1,u2,u3,u4,u5⟩:=a8;go_wp2_with fail;refine bodyPost_ret (v:=Uf #[M J 1,C (vz s h),K pa pn pc,M J 0,M J 0,M J 0]) (by simp[results,results179,go_sem,S,T,W,r3,r4,r5]) rfl ?_;exact ZF bQ HH cc ca cb (zf.six w.heap.size _ _ _ _ _ _ _)
   have cv:r.i<s.size:=(by rw[<-zw];omega);have b4:Ref.Good s r.i:=dZ.2 e1;have b5:=vQ b4 cv;have dt:=JE b4 cv;have C1:=ze (Ur e1 ad);clear e1 ad;go_wp2_with fail;refine(ye b s r _ t hs).mono ?_;rintro e u ⟨rfl,nq,rfl⟩;go_wp2_with fail;refine(ye b s r _ (t.drewN _) hs).mono ?_;rintro e u ⟨rfl,ep,rfl⟩;go_wp2_with fail;refine(K4 b s r _ (t.drewN _) hs cv b4).mono ?_;rintro e u ⟨sv,rfl,bR,cm,bk⟩;have dd:=(L.drewN _).keep bk (by unfold zt;omega);have c4:=(F.drewN _).keep bk (by unfold zt;omega);have cY:=aL.keep (((zf.refl (zt b) wr).drewN _).trans bk) (by intro g hg _ o;unfold zt at o;omega);have cF:=ze ((y.drewN _).trans bk);have eF:wr.heap.size<=u.heap.size:=bk.size;have dK:=ze ((((zf.refl (zt b) wr).drewN _).trans bk).alloc (Ub #[C (zq s r).1.neg,sv] 336));have ea:=ze (λg (hg:sv.ownBlock=I g)=>(Ur (show wr.heap.size<=g from(zh bR g hg).1) (zh bR g hg).2));obtain⟨sa,sn,sc,rfl⟩:=zr bR;have cK:=ze (bR.base (base':=w.heap.size+2) (by show _<=wr.heap.size;omega));generalize hm:zq s r=m at *;obtain⟨z,one,l⟩:=m;simp only[] at *;have Hm:=ze hm;have cH:=ze b5;have cI:=ze dt;have ev:l.i<=s.size:=b5.1.1;have ew:r.i<l.i:=b5.2;clear bk bR hm b5 dt b4 l0 l1 l2 l3 k1 k2 k3 t0 t1 t2 t3 t4 t5 v0 v1 v2 v3 v4 v5 S T W r3 r4 r5 u0 u1 u2 u3 u4 u5;have bH:=cm.alloc (Ub #[C z.neg,K sa sn sc] 336);have bO:=dd.keep ((zf.refl (λ_=>False) u).alloc (Ub #[C z.neg,K sa sn sc] 336)) id;have bM:=c4.keep ((zf.refl (λ_=>False) u).alloc (Ub #[C z.neg,K sa sn sc] 336)) id;have bL:=cY.keep ((zf.refl (λ_=>False) u).alloc (Ub #[C z.neg,K sa sn sc] 336)) (λ_ _ _ f=>f);have bN:=cK.keep ((zf.refl (λ_=>False) u).alloc (Ub #[C z.neg,K sa sn sc] 336)) (λ_ _ _ f=>f);have bJ:=cF.alloc (Ub #[C z.neg,K sa sn sc] 336);have cM:=res2 (P:=λ_=>False) (n:=u.heap.size) (zf.refl _ (u.alloc (Ub #[C z.neg,K sa sn sc] 336))) rfl id;have eB:b<u.heap.size:=cm.lt;have et:decide (zd s r.i<0)=Z:=ou;have H6:=ze (Ur bH (Ur bO (Ur bM (Ur bL (Ur bN (Ur bJ cM))))));obtain⟨l0,l1,l2,l3,k1,k2,k3⟩:=cm;clear bH bO bM bL bN bJ cM dd c4 cY cK cF;go_wp2_with fail;generalize ef:u.alloc (Ub #[C z.neg,K sa sn sc] 336)=w3 at *;clear l0 l1 l2 l3 k1 k2 k3;obtain⟨bH,bO,bM,bL,bN,bJ,q0,q1,q2,q3,hq⟩:=zb H6;have dw:u.heap.size<w3.heap.size:=hq;clear ef H6 hq;have t:=ze bH;have L:=ze bO;have F:=ze bM;have aL:=ze bL;have a9:=ze bN;have y:=ze bJ;clear bL bN bJ;obtain⟨l0,l1,l2,l3,k1,k2,k3⟩:=bH;obtain⟨t0,t1,t2,t3,t4,t5,v0,v1,v2,v3,v4,v5⟩:=bO;obtain⟨S,T,W,r3,r4,r5,u0,u1,u2,u3,u4,u5⟩:=bM;have ei:IntKind.i64.wrap ((l.i:Int)+1)=(l.i:Int)+1:=qA _ oa oa;by_cases bw:jK s l=G
   .have ee:(l.e == 0)=G/\(zd s l.i == 45)=G/\l.i+1<s.size/\zd s (l.i+1)≠93:=(by simpa [jK,and_assoc] using bw);obtain⟨y1,y2,y3,y4⟩:=ee;have dD:(((s[l.i+1]'y3).toNat:Int) != 93)=G:=(by rw[<-yZ s (l.i+1) y3];simp[y4]);have dC:decide ((l.i:Int)+1<(s.size:Int))=G:=ou;have es:(l.i:Int)+1<(s.size:Int):=oa;have dq:∀wx,(Instr.index 9 (Uc s) (M J ((l.i:Int)+1))).run V wx=.ok (M .u8 ((s[l.i+1]'y3).toNat:Int)) wx:=λwx=>Yb s (l.i+1) y3 _ oa wx;have dn:Ref.Good s l.i:=cH.1.2 (by simpa using y1);have dp:Ref.Good s (l.go 1).i:=dn.ascii (by have:zd s l.i=45:=(by simpa using y2);omega) (by have:zd s l.i=45:=(by simpa using y2);omega);have cu:(l.go 1).i<s.size:=y3;have ce:=ze dp;have cg:=ze bw;clear y4 dn dp bw;go_quiet((go_at_call 144;exact(ye b s l _ (by first|exact t|exact t.drewN _) hs).mono (by rintro e er ⟨rfl,n,rfl⟩;exact⟨rfl,_,by first|rfl|(rw[zh8])⟩)));rename_i nq;go_wp2_with fail;have dk:=((zf.refl (zt b) w3).drewN nq).mine 1 (M J ((l.i:Int)+1));have dj:=(t.drewN nq).setI ((l.i:Int)+1) 1 oa;refine(K4 b s (l.go 1) _ dj hs cu ce).mono ?_;rintro e w5 ⟨eI,rfl,cx,cn,cV⟩;have aK:=dk.trans cV;have aM:=L.keep aK (by unfold zt;omega);have c5:=F.keep aK (by unfold zt;omega);have cZ:=aL.keep aK (by intro g hg _ o;unfold zt at o;omega);have c9:=a9.keep aK (by intro g hg _ o;unfold zt at o;omega);have bG:=Ur (zg aK ⟨u.heap.size,0,U⟩ _ q0 (by unfold zt;simp;omega)) (Ur (zg aK ⟨u.heap.size,1,U⟩ _ q1 (by unfold zt;simp;omega)) (Ur (zo aK ⟨u.heap.size,0,U⟩ dw q2 (by unfold zt;simp;omega)) (zo aK ⟨u.heap.size,1,U⟩ dw q3 (by unfold zt;simp;omega))));have cW:=y.trans aK;have di:=(dK.trans aK)
    have eG:w3.heap.size<=w5.heap.size:=aK.size;obtain⟨bV,bX,bW,rfl⟩:=zr cx;have bp:=cx.base (base':=w.heap.size+2) (by show _<=_;simp;omega);have b6:=vQ (h:=l.go 1) ce cu;have du:=JE (h:=l.go 1) ce cu;generalize ds:zq s (l.go 1)=m2 at *;obtain⟨p2,two,aZ⟩:=m2;simp only[] at *;have hk:=(zf.refl (λ_=>False) w5).alloc (Ub #[C p2.neg,K bV bX bW] 336);have eC:b<w5.heap.size:=cn.lt;have cN:=res2 (P:=λ_=>False) (n:=w5.heap.size) (zf.refl _ (w5.alloc (Ub #[C p2.neg,K bV bX bW] 336))) rfl id;have dL:=ze (di.alloc (Ub #[C p2.neg,K bV bX bW] 336));have H8:=ze (Ur (cn.keep hk id) (Ur (aM.keep hk id) (Ur (c5.keep hk id) (Ur (cZ.keep hk (λ_ _ _ f=>f)) (Ur (c9.keep hk (λ_ _ _ f=>f)) (Ur (bp.keep hk (λ_ _ _ f=>f)) (Ur (cW.alloc (Ub #[C p2.neg,K bV bX bW] 336)) (Ur (Ur (zg hk _ _ bG.1 id) (Ur (zg hk _ _ bG.2.1 id) (Ur (zo hk ⟨u.heap.size,0,U⟩ (by show u.heap.size<_;omega) bG.2.2.1 id) (zo hk ⟨u.heap.size,1,U⟩ (by show u.heap.size<_;omega) bG.2.2.2 id)))) cN))))))));have bf:=ze ds;have dM:=ze b6;have cJ:=ze du;have ey:aZ.i<=s.size:=b6.1.1;have ez:l.i<aZ.i:=(by have:=b6.2;simp only[St.go] at this;omega);clear ds b6 du dk dj cV aK aM c5 cZ c9 bG cW di bp cx hk cN dq dD ei q0 q1 q2 q3 l0 l1 l2 l3 k1 k2 k3 t0 t1 t2 t3 t4 t5 v0 v1 v2 v3 v4 v5 S T W r3 r4 r5 u0 u1 u2 u3 u4 u5 t L F aL a9 y;obtain⟨l0,l1,l2,l3,k1,k2,k3⟩:=cn;go_upto_region 14 with fail;generalize eg:w5.alloc (Ub #[C p2.neg,K bV bX bW] 336)=w6 at *;clear l0 l1 l2 l3 k1 k2 k3;obtain⟨cP,de,c6,c0,da,bh,B,⟨q0,q1,q2,q3⟩,⟨j0,j1,j2,j3,hj⟩⟩:=zb H8;have eH:w5.heap.size<w6.heap.size:=hj;clear eg H8 hj;have t:=ze cP;have L:=ze de;have F:=ze c6;have aL:=ze c0;have a9:=ze da;have bp:=ze bh;have y:=ze B;clear c0 da bh B;obtain⟨l0,l1,l2,l3,k1,k2,k3⟩:=cP;obtain⟨t0,t1,t2,t3,t4,t5,v0,v1,v2,v3,v4,v5⟩:=de;obtain⟨S,T,W,r3,r4,r5,u0,u1,u2,u3,u4,u5⟩:=c6;by_cases e2:aZ.e=0
    .have dS:(aZ.e != 0)=Z:=(by simp[e2]);go_wp2_with fail;have b1:l.e=0:=(by simpa using y1);by_cases bs:badB z p2 one two=G
     ·(have HH:H (y9 s h=(ps,aZ.fail 4 l.i)):=by rw[zb HF];have:=XW (f:=f) (ps:=ps) C1 (show ¬zd s r.i<0 by omega) (by rw[zb Hm];exact cg) (by rw[zb Hm,zb bf];exact e2) (by rw[zb Hm,zb bf];exact bs);rw[zb Hm,zb bf] at this;exact this);have E2:=ze e2;have E1:=ze b1;clear e2 b1;cases one
      case' true=>cases two
      case' true.true=>
       obtain⟨c,hc⟩:=zb cI rfl E1;obtain⟨d,hd⟩:=zb cJ rfl E2;have d8:d<c:=(by simpa [badB,loOf,hc,hd] using bs);have s1:=zb a9;have s2:=zb bp;rw[hc] at s1;rw[hd] at s2;obtain⟨g1,dQ,bS,d1,d2,d5⟩:=ZE s1 ov;obtain⟨g2,dR,bT,d3,d4,d6⟩:=ZE s2 ov;simp only[Value.slice.injEq] at bS bT;obtain⟨rfl,rfl,rfl⟩:=bS;obtain⟨rfl,rfl,rfl⟩:=bT;have m0:w6.cell? ⟨g1,0,U⟩=I (M J c):=s1.cells rfl 0 _ rfl;have m1:w6.cell? ⟨g2,0,U⟩=I (M J d):=s2.cells rfl 0 _ rfl;clear s1 s2 hc hd
      all_goals
       clear bs;go_quiet(fail);go_wp2_with fail;refine(yU b s aZ 4 _ _ (by first|exact t.drewN _)).mono ?_;rintro e w7 ⟨rfl,aR,B⟩;have bF:=(((zf.refl (zt b) w6).drewN _).trans B)
       have ba:=L.keep bF (by unfold zt;omega);have a8:=F.keep bF (by unfold zt;omega);have cc:=ze (aL.keep bF (by intro g hg _ o;unfold zt at o;omega));have ca:=ze aR;have cb:=ze (y.trans bF);clear aR B bF l0 l1 l2 l3 k1 k2 k3 t0 t1 t2 t3 t4 t5 v0 v1 v2 v3 v4 v5 S T W r3 r4 r5 u0 u1 u2 u3 u4 u5;obtain⟨t0,t1,t2,t3,t4,t5,v0,v1,v2,v3,v4,v5⟩:=ba;obtain⟨S,T,W,r3,r4,r5,u0,u1,u2,u3,u4,u5⟩:=a8;go_wp2_with fail;refine bodyPost_ret (v:=Uf #[M J 1,C (vz s h),K pa pn pc,M J 0,M J 0,M J 0]) (by simp[results,results179,go_sem,S,T,W,r3,r4,r5]) rfl ?_;exact ZF bQ HH cc ca cb (zf.six w.heap.size _ _ _ _ _ _ _)
     (have eb:one=G/\two=G/\¬loOf p2<loOf z:=(by simpa [badB,and_assoc] using bs);obtain⟨rfl,rfl,dl⟩:=eb;obtain⟨c,hc⟩:=zb cI rfl b1;obtain⟨d,hd⟩:=zb cJ rfl e2;have d8:c<=d:=(by simp[loOf,hc,hd] at dl;omega);have b9:H (y9 s h=yQ s f (ps++[⟨z.neg,[(c,d)]⟩]) aZ):=by show _=_;rw[zb HF];have:=vR (f:=f) (ps:=ps) C1 (show ¬zd s r.i<0 by omega) (by rw[zb Hm];exact cg) (by rw[zb Hm,zb bf];exact e2) (by rw[zb Hm,zb bf];exact bs);rw[zb Hm,zb bf] at this;rw[this];simp[loOf,hc,hd]);have s1:=zb a9;have s2:=zb bp;rw[hc] at s1;rw[hd] at s2;obtain⟨g1,dQ,bS,d1,d2,d5⟩:=ZE s1 ov;obtain⟨g2,dR,bT,d3,d4,d6⟩:=ZE s2 ov;simp only[Value.slice.injEq] at bS bT;obtain⟨rfl,rfl,rfl⟩:=bS;obtain⟨rfl,rfl,rfl⟩:=bT;have m0:w6.cell? ⟨g1,0,U⟩=I (M J c):=s1.cells rfl 0 _ rfl;have m1:w6.cell? ⟨g2,0,U⟩=I (M J d):=s2.cells rfl 0 _ rfl;have m2:w6.cell? ⟨g1,1,U⟩=I (M J c):=s1.cells rfl 1 _ rfl;have m3:w6.frozen? ⟨g1,1,U⟩=Z:=s1.frozenAt 1;have S1:=ze s1;clear s1 s2 bs hc hd dl e2 b1;go_quiet(fail);go_wp2_with fail;go_region;go_upto_region 20 with fail;have ec:=zb ea g1 rfl;have bm:=(((zf.refl (zt g1) w6).drewN (nq+1)).mine 1 (M J d))
     (have aR:=t.keep bm (by unfold zt;omega);have ba:=L.keep bm (by unfold zt;omega);have a8:=F.keep bm (by unfold zt;omega);have b3:=d0.keep ((dL.drewN (nq+1)).fresh ⟨g1,1,U⟩ ec.1 (M J d)) (by intro g hg _ o;unfold zt at o;omega);have bh:yB ((w6.drewN (nq+1)).setCell ⟨g1,1,U⟩ (M J d)) (w.heap.size+2) (K (I ⟨g1,0,U⟩) 1 sc) [(c,d)]:=(World.ownsRow.stored (w:=w6.drewN (nq+1)) S1 1 (M J d)).1;have B:=(y.drewN (nq+1)).fresh ⟨g1,1,U⟩ (show w.heap.size<=g1 by omega) (M J d);have z0:=zg bm ⟨u.heap.size,0,U⟩ _ q0 (by unfold zt;simp;omega);have z1:=zg bm ⟨u.heap.size,1,U⟩ _ q1 (by unfold zt;simp;omega);have cy:=bm.size;have H9:=ze (Ur aR (Ur ba (Ur a8 (Ur b3 (Ur bh (Ur B (Ur z0 (Ur z1 cy))))))));clear bm aR ba a8 b3 bh B z0 z1 cy q0 q1 q2 q3 j0 j1 j2 j3 m0 m1 m2 m3 l0 l1 l2 l3 k1 k2 k3 t0 t1 t2 t3 t4 t5 v0 v1 v2 v3 v4 v5 S T W r3 r4 r5 u0 u1 u2 u3 u4 u5 t L F aL a9 bp y;generalize eh:(w6.drewN (nq+1)).setCell ⟨g1,1,U⟩ (M J d)=w7 at *;obtain⟨aR,ba,a8,b3,bh,B,q0,q1,cy⟩:=zb H9;clear eh H9;have t:=ze aR;have L:=ze ba;have F:=ze a8;have a9:=ze bh;have y:=ze B;obtain⟨ac,N,bv⟩:=b3;clear B bh aR;obtain⟨t0,t1,t2,t3,t4,t5,v0,v1,v2,v3,v4,v5⟩:=ba;clear a8;obtain⟨i0,hi,bx,bz,bA⟩:=info_parts Tryz.infoPart;have ed:ps.length<=400:=oa;have ej:w.heap.size+2<=w7.heap.size:=oa;go_wp2_with(at_builtin;refine wpList_append_own _ rfl _ _ 306 rfl (w.heap.size+2) 336 i0 (Uf #[C Z,K U 0 0]) 2 32 underlying306 hi bx bz bA rfl od _ _ _ rfl (zgO N _) _ 1 1 [C z.neg,K (I ⟨g1,0,U⟩) 1 sc] rfl rfl (cell_two_new _ _ _ _) (λx hx=>by simp at hx;rcases hx with rfl|rfl<;>rfl) (by unfold maxLen;omega) oa ou ?_;intro v' w8 aT az cw;obtain⟨aH,aJ,aI,rfl⟩:=zr aT;have kx:=(((zf.refl (λk=>(K pa pn pc).ownBlock=I k) w7).alloc _).trans (zf.ofGrown az));have aM:=L.keep kx (by intro o;have:=(zh N _ o).1;omega);have X:=ze (Ur aM (Ur aT (Ur az kx)));clear aT az cw kx t0 t1 t2 t3 t4 t5 v0 v1 v2 v3 v4 v5;obtain⟨t0,t1,t2,t3,t4,t5,v0,v1,v2,v3,v4,v5⟩:=aM);obtain⟨aM,aT,az,kx⟩:=zb X;have bP:¬(K pa pn pc).ownBlock=I b:=(by intro o;have:=(zh N _ o).1;omega);have ct:¬(K pa pn pc).ownBlock=I w.heap.size:=(by intro o;have:=(zh N _ o).1;omega);have bI:=(t.keep kx bP).keep ((zf.refl (zt (w.heap.size+1)) w8).mine 2 (K aH aJ aI)) (by unfold zt;omega);have cr:=(F.keep kx ct).other ⟨w.heap.size+1,2,U⟩ ov (K aH aJ aI);have cs:=aM.set2 (K aH aJ aI);have cq:=(PartsAt.appended (p:=⟨z.neg,[(c,d)]⟩) (zgO N _) (yA.keep (w:=w7) ((zf.refl (λ_=>False) w7).alloc _) (λ_ _ _ f=>f) ps ac bv) (a9.keep ((zf.refl (λ_=>False) w7).alloc _) (λ_ _ _ f=>f)) aT az).keep ((zf.refl (zt (w.heap.size+1)) w8).mine 2 (K aH aJ aI)) (by intro g hg _ o;unfold zt at o;omega);have co:=(((y.alloc _).grown az (λj hj=>Or.inr (by have:=(zh N j hj).1;omega)))).young ((zf.refl (zt (w.heap.size+1)) w8).mine 2 (K aH aJ aI)) oa;go_roundw);exact⟨ps++[⟨z.neg,[(c,d)]⟩],aH,aJ,aI,aZ,f,bI,cs,cr,cq,co,dM.1,by have:=kx.size;simp[World.setCell];omega,by simp;omega,(by have:=zb hf;show _<_;omega),b9⟩;rw[jh bI];have:=jh cR;rw[this];omega
    (have dS:(aZ.e != 0)=G:=(by simp[e2]);have HH:H (y9 s h=(ps,aZ)):=by rw[zb HF];have:=YU (f:=f) (ps:=ps) C1 (show ¬zd s r.i<0 by omega) (by rw[zb Hm];exact cg) (by rw[zb Hm,zb bf];exact e2);rw[zb Hm,zb bf] at this;exact this);clear e2;go_wp2_with fail;refine bodyPost_ret (v:=Uf #[M J 1,C (vz s h),K pa pn pc,M J 0,M J 0,M J 0]) (by simp[results,results179,go_sem,S,T,W,r3,r4,r5]) rfl ?_;exact ZF bQ HH aL t y (zf.six w.heap.size _ _ _ _ _ _ _)
   (have b9:H (y9 s h=yQ s f (ps++[z]) l):=by rw[zb HF];have:=wC (f:=f) (ps:=ps) C1 (show ¬zd s r.i<0 by omega) (by rw[zb Hm];exact bw);rw[zb Hm] at this;exact this);have d7:=zdJ bw;clear bw;obtain⟨i0,hi,bx,bz,bA⟩:=info_parts Tryz.infoPart;obtain⟨ac,N,bv⟩:=zb aL;have ed:ps.length<=400:=oa;have HI:=ze (Ur hi (Ur bx (Ur bz (Ur bA (Ur N bv)))));clear hi bx bz bA N bv;have ej:w.heap.size+2<=w3.heap.size:=oa;rcases d7 with y1|⟨y1,y2⟩|⟨y1,y2,y3⟩|⟨y1,y2,y3,y4⟩
   case' inr.inr.inl=>have dC:decide ((l.i:Int)+1<(s.size:Int))=Z:=by simp;omega
   case' inr.inr.inr=>have dD:(((s[l.i+1]'y3).toNat:Int) != 93)=Z:=by rw[<-yZ s (l.i+1) y3];simp[y4]
   case' inr.inr.inr=>have dC:decide ((l.i:Int)+1<(s.size:Int))=G:=by simp;omega
   case' inr.inr.inr=>have es:(l.i:Int)+1<(s.size:Int):=oa
   case' inr.inr.inr=>have dq:∀wx,(Instr.index 9 (Uc s) (M J ((l.i:Int)+1))).run V wx=.ok (M .u8 ((s[l.i+1]'y3).toNat:Int)) wx:=λwx=>Yb s (l.i+1) y3 _ oa wx
   case' inr.inr.inr=>clear y4
   all_goals
    go_quiet((go_at_call 144;exact(ye b s l _ (by first|exact t|exact t.drewN _) hs).mono (by rintro e er ⟨rfl,n,rfl⟩;exact⟨rfl,_,by first|rfl|(rw[zh8])⟩)));obtain⟨hi,bx,bz,bA,N,bv⟩:=zb HI;go_wp2_with(at_builtin;refine wpList_append_own _ rfl _ _ 306 rfl (w.heap.size+2) 336 i0 (Uf #[C Z,K U 0 0]) 2 32 underlying306 hi bx bz bA rfl od _ _ _ rfl (zgO (w:=w3.drewN _) N _) _ 1 1 [C z.neg,K sa sn sc] rfl rfl (cell_two_new _ _ _ _) (λx hx=>by simp at hx;rcases hx with rfl|rfl<;>rfl) (by unfold maxLen;omega) oa ou ?_;intro v' w5 aT az cw;obtain⟨aH,aJ,aI,rfl⟩:=zr aT;have kx:=((((zf.refl (λk=>(K pa pn pc).ownBlock=I k) w3).drewN _).alloc _).trans (zf.ofGrown az));have aM:=L.keep kx (by intro o;have:=(zh N _ o).1;omega);have X:=ze (Ur aM (Ur aT (Ur az kx)));clear aT az cw kx t0 t1 t2 t3 t4 t5 v0 v1 v2 v3 v4 v5;obtain⟨t0,t1,t2,t3,t4,t5,v0,v1,v2,v3,v4,v5⟩:=aM);obtain⟨aM,aT,az,kx⟩:=zb X;have bP:¬(K pa pn pc).ownBlock=I b:=(by intro o;have:=(zh N _ o).1;omega);have ct:¬(K pa pn pc).ownBlock=I w.heap.size:=(by intro o;have:=(zh N _ o).1;omega);have bI:=(t.keep kx bP).keep ((zf.refl (zt (w.heap.size+1)) w5).mine 2 (K aH aJ aI)) (by unfold zt;omega);have cr:=(F.keep kx ct).other ⟨w.heap.size+1,2,U⟩ ov (K aH aJ aI);have cs:=aM.set2 (K aH aJ aI);have cq:=(PartsAt.appended (p:=z) (zgO (w:=w3.drewN _) N _) (yA.keep (w:=w3) (((zf.refl (λ_=>False) w3).drewN _).alloc _) (λ_ _ _ f=>f) ps ac bv) (a9.keep (((zf.refl (λ_=>False) w3).drewN _).alloc _) (λ_ _ _ f=>f)) aT az).keep ((zf.refl (zt (w.heap.size+1)) w5).mine 2 (K aH aJ aI)) (by intro g hg _ o;unfold zt at o;omega);have co:=((((y.drewN _).alloc _).grown az (λj hj=>Or.inr (by have:=(zh N j hj).1;omega)))).young ((zf.refl (zt (w.heap.size+1)) w5).mine 2 (K aH aJ aI)) oa;go_roundw
    case rel=>exact⟨ps++[z],aH,aJ,aI,l,f,bI,cs,cr,cq,co,cH.1,by have:=kx.size;simp[World.setCell];omega,by simp;omega,(by have:=zb hf;show _<_;omega),b9⟩
    case measure=>rw[jh bI];have:=jh cR;rw[this];omega
  have ab:(r.e == 0)=Z:=(by simp[e1]);have HH:H (y9 s h=(ps,r.go 1)):=(by rw[zb HF];exact vh (by intro o;exact e1 o.1));clear e1;go_wp2_with fail;refine bodyPost_ret (v:=Uf #[M J 1,C (vz s h),K pa pn pc,M J 0,M J 0,M J 0]) (by simp[results,results179,go_sem,S,T,W,r3,r4,r5]) rfl ?_;exact ZF bQ HH (aL.keep ((zf.refl (zt b) wr).mine 1 _) (by intro g hg _ o;unfold zt at o;omega)) (t.setI _ 1 oa) (y.mine 1 _) (zf.six w.heap.size _ _ _ _ _ _ _)
structure Tok where
 kind:Int
 neg:Bool
 parts:List Pt
 c:Int
 mn:Int
 mx:Int
namespace Ref
def Zo (b:Int):Bool:=(b == 42) ||(b == 43) ||(b == 63) ||(b == 123) ||(b == 125) ||(b == 93)
def zB (s:ByteArray)(h:St):Tok×St:=
 if zd s h.i=94\/zd s h.i=36 then(⟨2,Z,[],zd s h.i,0,0⟩,h.go 1)
 else if zd s h.i=92/\(zd s (h.i+1)=98\/zd s (h.i+1)=66) then(⟨2,Z,[],zd s (h.i+1),0,0⟩,h.go 2)
 else if zd s h.i=124 then(⟨5,Z,[],0,0,0⟩,h.go 1)
 else if zd s h.i=46 then(⟨1,G,[⟨Z,[(10,10),(13,13),(8232,8233)]⟩],0,0,0⟩,h.go 1)
 else if zd s h.i=91 then(⟨1,vz s (h.go 1),(y9 s (h.go 1)).1,0,0,0⟩,(y9 s (h.go 1)).2)
 else if zd s h.i=92 then(⟨1,Z,[(zI s Z h).1],0,0,0⟩,(zI s Z h).2.2)
 else if zd s h.i=40 then(⟨3,Z,[],0,0,0⟩,jW s h)
 else if zd s h.i=41 then(⟨4,Z,[],0,0,0⟩,h.go 1)
 else if Zo (zd s h.i)=G then(⟨0,Z,[],0,0,0⟩,h.fail 3 h.i)
 else match xo s h.i with
  |some (n,c)=>(⟨1,Z,[⟨Z,[(c,c)]⟩],0,0,0⟩,h.go n)
  |none=>(⟨0,Z,[],0,0,0⟩,h)
end Ref
theorem Ji (W:E)(n base:Nat)(e:W.heap.size=n)(d:base<=n)(c:Array Y)(p:Pt)(a:Y)(b:c.toList=[C p.neg,a])(g:yB W base a p.spans):PartsAt (W.alloc (Ub c 336)) base (K (I ⟨n,0,U⟩) 1 1) [p]:=by subst e;refine⟨[C p.neg,a],⟨rfl,O ⟨W.heap.size,1,c,rfl,d,heap_alloc_new W _,zgH _,by simp[maxLen],?_,?_⟩⟩,rfl,g.keep ((zf.refl (λ_=>False) W).alloc _) (λ_ _ _ f=>f),trivial⟩;rw[<-Array.length_toList,b];rfl;rw[b];rfl
theorem zfX (s:ByteArray)(h:St)(w:E)(a:Lex w b s h)(hs:s.size<=400)(hi:h.i<s.size)(hg:Ref.Good s h.i)(he:h.e=0):Uh V 146 #[Ua (I ⟨b,0,U⟩)] w λx q=> ∃pv,x=R (Uf #[M J (zB s h).1.kind,C (zB s h).1.neg,pv,M J (zB s h).1.c,M J (zB s h).1.mn,M J (zB s h).1.mx])/\PartsAt q w.heap.size pv (zB s h).1.parts/\Lex q b s (zB s h).2/\zf (zt b) w q:=by
 have bB:=a.lt;have HE:=ze he;have HG:=ze hg;obtain⟨on,oc,ho,aI⟩:=hg.next hi;have Ho:=ze ho;have aW:=ze aI;clear he hg ho aI;have av:=ze (a.alloc (Ub #[M J 0,C Z,K U 0 0,M J 0,M J 0,M J 0] 308));have aF:=ze (Six.new (n:=w.heap.size) (a0:=M J 0) (a1:=C Z) (a2:=K U 0 0) (a3:=M J 0) (a4:=M J 0) (a5:=M J 0) w 308 rfl);have aD:=ze ((zf.refl (zt b) w).alloc (Ub #[M J 0,C Z,K U 0 0,M J 0,M J 0,M J 0] 308));clear a;have be:IntKind.i64.wrap ((h.i:Int)+1)=(h.i:Int)+1:=qA _ oa oa;go_enter func146,ntmps146;go_wp2_with fail;refine(wY b s h _ av hs).mono ?_;rintro e w1 ⟨rfl,an⟩;have aB:=av.keep an id;have a6:=aF.keep an id;have u:=ze (aD.trans (an.mono (λ_ _ f=>f.elim)));have t:=ze aB;have B:=ze a6;clear an av aF aD;obtain⟨l0,l1,l2,l3,W,X,k3⟩:=aB;go_wp2_with fail;go_quiet(fail);go_upto_if 20 with fail;go_cut[4] (λs4 wx=>s4=M J (zd s (h.i+1))/\ziE w1 wx)
 case first=>
  by_cases hn:h.i+1<s.size
  .have bA:∀wx,(Instr.index 9 (Uc s) (M J ((h.i:Int)+1))).run V wx=.ok (M .u8 ((s[h.i+1]'hn).toNat:Int)) wx:=λwx=>Yb s (h.i+1) hn _ oa wx;have a9:(h.i:Int)+1<(s.size:Int):=oa;have a8:=ze (yZ s (h.i+1) hn);go_wp2_with fail;go_quiet(fail);go_wp2_with fail;go_meet
   case rel=>exact⟨by rw[zb a8];first|rfl|(rw[Zs])|(congr 1;rw[IntKind.wrap_i64];have:=(s[h.i+1]'hn).toNat_lt;omega),by first|exact((zf.refl _ _).drewN _).drewN _|exact(zf.refl _ _).drewN _⟩
  have a9:¬(h.i:Int)+1<(s.size:Int):=oa;have ba:=ze (qw s (h.i+1) oa);go_wp2_with fail;go_meet
  case rel=>exact⟨by rw[zb ba],((zf.refl _ _).drewN _)⟩
 case rest=>
  obtain⟨rfl,ao⟩:=hcut;have aC:=t.keep ao id;have aG:=B.keep ao id;have aE:=ze (u.trans (ao.mono (λ_ _ f=>f.elim)));clear l0 l1 l2 l3 W X k3 t B u be ao;have t:=ze aC;have B:=ze aG;have u:=ze aE;clear aE;obtain⟨l0,l1,l2,l3,W,X,k3⟩:=aC;obtain⟨j,k,l,m,o,p,u0,u1,u2,u3,u4,u5⟩:=aG;by_cases x:zd s h.i=94
  .skip
   have S:=bq x;have d:H (zB s h=(⟨2,Z,[],zd s h.i,0,0⟩,h.go 1)):=(by show _=_;unfold zB;rw[IN (Or.inl x)]);clear x;go_wp2_with fail;refine bodyPost_ret (v:=Uf #[M J 2,C Z,K U 0 0,M J (zd s h.i),M J 0,M J 0]) (by simp[results,results146,go_sem,j,k,l,m,o,p]) rfl ?_;rw[zb d];exact⟨_,rfl,PartsAt.nil _ _,(t.setI _ 1 oa).keep (zf.six w.heap.size _ _ _ _ _ _ _) (by unfold zt;omega),(u.mine 1 _).young (zf.six w.heap.size _ _ _ _ _ _ _) (zgH _)⟩
  have aT:=ze x;clear x;by_cases x:zd s h.i=36
  .skip
   have S:=bq x;have d:H (zB s h=(⟨2,Z,[],zd s h.i,0,0⟩,h.go 1)):=(by show _=_;unfold zB;rw[IN (Or.inr x)]);clear x;go_wp2_with fail;refine bodyPost_ret (v:=Uf #[M J 2,C Z,K U 0 0,M J (zd s h.i),M J 0,M J 0]) (by simp[results,results146,go_sem,j,k,l,m,o,p]) rfl ?_;rw[zb d];exact⟨_,rfl,PartsAt.nil _ _,(t.setI _ 1 oa).keep (zf.six w.heap.size _ _ _ _ _ _ _) (by unfold zt;omega),(u.mine 1 _).young (zf.six w.heap.size _ _ _ _ _ _ _) (zgH _)⟩
  have aN:=ze x;clear x;by_cases x:zd s h.i=92
  .skip
   have S:=bq x;by_cases y:zd s (h.i+1)=98
   .have y1:(zd s (h.i+1) == 98)=G:=(by simp[y]);have d:H (zB s h=(⟨2,Z,[],zd s (h.i+1),0,0⟩,h.go 2)):=(by show _=_;unfold zB;rw[iN oa,IN ⟨x,oa⟩]);clear x y;go_wp2_with fail;refine bodyPost_ret (v:=Uf #[M J 2,C Z,K U 0 0,M J (zd s (h.i+1)),M J 0,M J 0]) (by simp[results,results146,go_sem,j,k,l,m,o,p]) rfl ?_;rw[zb d];exact⟨_,rfl,PartsAt.nil _ _,(t.setI _ 2 oa).keep (zf.six w.heap.size _ _ _ _ _ _ _) (by unfold zt;omega),(u.mine 1 _).young (zf.six w.heap.size _ _ _ _ _ _ _) (zgH _)⟩
   have bG:(zd s (h.i+1) == 98)=Z:=(by simp[y]);have aY:=ze y;clear y;by_cases y:zd s (h.i+1)=66
   .have y1:(zd s (h.i+1) == 66)=G:=(by simp[y]);have y2:(zd s (h.i+1) == 98)=Z:=(by simp[y]);have d:H (zB s h=(⟨2,Z,[],zd s (h.i+1),0,0⟩,h.go 2)):=(by show _=_;unfold zB;rw[iN oa,IN ⟨x,oa⟩]);clear x y;go_wp2_with fail;refine bodyPost_ret (v:=Uf #[M J 2,C Z,K U 0 0,M J (zd s (h.i+1)),M J 0,M J 0]) (by simp[results,results146,go_sem,j,k,l,m,o,p]) rfl ?_;rw[zb d];exact⟨_,rfl,PartsAt.nil _ _,(t.setI _ 2 oa).keep (zf.six w.heap.size _ _ _ _ _ _ _) (by unfold zt;omega),(u.mine 1 _).young (zf.six w.heap.size _ _ _ _ _ _ _) (zgH _)⟩
   (have bF:(zd s (h.i+1) == 66)=Z:=(by simp[y]);have aX:=ze y;clear y;have d:H (zB s h=(⟨1,Z,[(zI s Z h).1],0,0,0⟩,(zI s Z h).2.2)):=by show _=_;unfold zB;have q1:=zb aY;have q2:=zb aX;rw[iN oa,iN oa,iN oa,iN oa,iN oa,IN x]);clear x;go_wp2_with fail;refine(KZ b s Z h _ t hs hi).mono ?_;rintro e L ⟨sv,rfl,T,z,r⟩;have F:=B.keep r (by unfold zt;omega);obtain⟨sa,sn,sc,rfl⟩:=zr T;have HS:=ze (T.base (base':=w.heap.size+1) (by have:=Six.lt B;omega));have N:=ze z;have P:=ze (u.trans r);have ax:w.heap.size<L.heap.size:=F.lt;clear T z r l0 l1 l2 l3 W X k3 j k l m o p u0 u1 u2 u3 u4 u5;obtain⟨j,k,l,m,o,p,u0,u1,u2,u3,u4,u5⟩:=F;go_wp2_with fail;refine bodyPost_ret (v:=Uf #[M J 1,C Z,K (I ⟨L.heap.size+1,0,U⟩) 1 1,M J 0,M J 0,M J 0]) (by simp[results,results146,go_sem,j,k,l,m,o,p,ax]) rfl ?_;rw[zb d];refine⟨_,rfl,?_,?_,?_⟩;exact Ji _ _ _ ov oa _ (zI s Z h).1 (K sa sn sc) rfl ((HS.keep ((zf.six w.heap.size L _ _ _ _ _ _).alloc _) (by intro g hg _ hh;unfold zt at hh;omega)).base oa);exact((N.keep (zf.six w.heap.size _ _ _ _ _ _ _) (by unfold zt;omega)).alloc _).alloc _;exact((P.young (zf.six w.heap.size _ _ _ _ _ _ _) (zgH _)).alloc _).alloc _
  have aS:=ze x;clear x;by_cases x:zd s h.i=124
  .skip
   have S:=bq x;have d:H (zB s h=(⟨5,Z,[],0,0,0⟩,h.go 1)):=(by show _=_;unfold zB;rw[iN oa,iN oa,IN x]);clear x;go_wp2_with fail;refine bodyPost_ret (v:=Uf #[M J 5,C Z,K U 0 0,M J (0),M J 0,M J 0]) (by simp[results,results146,go_sem,j,k,l,m,o,p]) rfl ?_;rw[zb d];exact⟨_,rfl,PartsAt.nil _ _,(t.setI _ 1 oa).keep (zf.six w.heap.size _ _ _ _ _ _ _) (by unfold zt;omega),(u.mine 1 _).young (zf.six w.heap.size _ _ _ _ _ _ _) (zgH _)⟩
  have aM:=ze x;clear x;by_cases x:zd s h.i=41
  .skip
   have S:=bq x;have d:H (zB s h=(⟨4,Z,[],0,0,0⟩,h.go 1)):=(by show _=_;unfold zB;rw[iN oa,iN oa,iN oa,iN oa,iN oa,iN oa,iN oa,IN x]);clear x;go_wp2_with fail;refine bodyPost_ret (v:=Uf #[M J 4,C Z,K U 0 0,M J (0),M J 0,M J 0]) (by simp[results,results146,go_sem,j,k,l,m,o,p]) rfl ?_;rw[zb d];exact⟨_,rfl,PartsAt.nil _ _,(t.setI _ 1 oa).keep (zf.six w.heap.size _ _ _ _ _ _ _) (by unfold zt;omega),(u.mine 1 _).young (zf.six w.heap.size _ _ _ _ _ _ _) (zgH _)⟩
  have aP:=ze x;clear x;by_cases x:zd s h.i=46
  .skip
   have S:=bq x;have d:H (zB s h=(⟨1,G,[⟨Z,[(10,10),(13,13),(8232,8233)]⟩],0,0,0⟩,h.go 1)):=(by show _=_;unfold zB;rw[iN oa,iN oa,iN oa,IN x]);have bc:w.heap.size<wc.heap.size:=B.lt;clear x;go_wp2_with fail;refine bodyPost_ret (v:=Uf #[M J 1,C G,K (I ⟨wc.heap.size+1,0,U⟩) 1 1,M J 0,M J 0,M J 0]) (by simp[results,results146,go_sem,j,k,l,m,o,p,bc]) rfl ?_;rw[zb d];refine⟨_,rfl,?_,?_,?_⟩;exact Ji _ _ _ ov oa _ ⟨Z,[(10,10),(13,13),(8232,8233)]⟩ (K (I ⟨wc.heap.size,0,U⟩) 3 3) rfl (Z7 _ _ _ ov oa _ [(10,10),(13,13),(8232,8233)] rfl (by simp[maxLen]) 3 rfl);exact(((t.setI _ 1 oa).keep (zf.six w.heap.size _ _ _ _ _ _ _) (by unfold zt;omega)).alloc _).alloc _;exact(((u.mine 1 _).young (zf.six w.heap.size _ _ _ _ _ _ _) (zgH _)).alloc _).alloc _
  have aQ:=ze x;clear x;by_cases x:zd s h.i=91
  .skip
   have S:=bq x;have d:H (zB s h=(⟨1,vz s (h.go 1),(y9 s (h.go 1)).1,0,0,0⟩,(y9 s (h.go 1)).2)):=(by show _=_;unfold zB;rw[iN oa,iN oa,iN oa,iN oa,IN x]);have a7:Ref.Good s (h.go 1).i:=HG.ascii oa oa;clear x;go_wp2_with fail;have hA:=(zf.refl (zt b) wc).mine 1 (M J ((h.i:Int)+1));refine(zfW b s (h.go 1) _ (t.setI ((h.i:Int)+1) 1 oa) hs a7 HE).mono ?_;rintro e L ⟨pv,rfl,bb,z,r⟩;have hB:=hA.trans r;have F:=B.keep hB (by unfold zt;omega);obtain⟨cs,aw,aK⟩:=bb;obtain⟨sa,sn,sc,rfl⟩:=zr aw;have HP:=ze (PartsAt.base (base':=w.heap.size+1) (show PartsAt L _ _ _ from⟨cs,aw,aK⟩) (by have:=Six.lt B;simp;omega));have N:=ze z;have P:=ze (u.trans hB);clear aw aK z r hA hB l0 l1 l2 l3 W X k3 j k l m o p u0 u1 u2 u3 u4 u5;obtain⟨j,k,l,m,o,p,u0,u1,u2,u3,u4,u5⟩:=F;go_wp2_with fail;refine bodyPost_ret (v:=Uf #[M J 1,C (vz s (h.go 1)),K sa sn sc,M J 0,M J 0,M J 0]) (by simp[results,results146,go_sem,j,k,l,m,o,p]) rfl ?_;rw[zb d];exact⟨_,rfl,(HP.keep (zf.six w.heap.size _ _ _ _ _ _ _) (by intro g hg _ hh;unfold zt at hh;omega)).base oa,N.keep (zf.six w.heap.size _ _ _ _ _ _ _) (by unfold zt;omega),P.young (zf.six w.heap.size _ _ _ _ _ _ _) (zgH _)⟩
  have aR:=ze x;clear x;by_cases x:zd s h.i=40
  .skip
   have S:=bq x;have d:H (zB s h=(⟨3,Z,[],0,0,0⟩,jW s h)):=(by show _=_;unfold zB;rw[iN oa,iN oa,iN oa,iN oa,iN oa,iN oa,IN x]);clear x;go_wp2_with fail;refine(open_any b s h _ t hs hi).mono ?_;rintro e L ⟨rfl,z,r⟩;have F:=B.keep r (by unfold zt;omega);have N:=ze z;have P:=ze (u.trans r);clear z r l0 l1 l2 l3 W X k3 j k l m o p u0 u1 u2 u3 u4 u5;obtain⟨j,k,l,m,o,p,u0,u1,u2,u3,u4,u5⟩:=F;go_wp2_with fail;refine bodyPost_ret (v:=Uf #[M J 3,C Z,K U 0 0,M J (0),M J 0,M J 0]) (by simp[results,results146,go_sem,j,k,l,m,o,p]) rfl ?_;rw[zb d];exact⟨_,rfl,PartsAt.nil _ _,N.keep (zf.six w.heap.size _ _ _ _ _ _ _) (by unfold zt;omega),P.young (zf.six w.heap.size _ _ _ _ _ _ _) (zgH _)⟩
  have aO:=ze x;clear x;by_cases y:Zo (zd s h.i)=G
  .have y':zd s h.i=42\/zd s h.i=43\/zd s h.i=63\/zd s h.i=123\/zd s h.i=125\/zd s h.i=93:=(by simpa [Zo,or_assoc] using y);have d:H (zB s h=(⟨0,Z,[],0,0,0⟩,h.fail 3 h.i)):=(by show _=_;unfold zB;rw[iN oa,iN oa,iN oa,iN oa,iN oa,iN oa,iN oa,iN oa,IN y]);clear y;rcases y' with x|x|x|x|x|x
   all_goals
    have S:=bq x;clear x;go_wp2_with fail;refine(yU b s h 3 _ _ t).mono ?_;rintro e L ⟨rfl,z,r⟩;have F:=B.keep r (by unfold zt;omega);have N:=ze z;have P:=ze (u.trans r);clear z r l0 l1 l2 l3 W X k3 j k l m o p u0 u1 u2 u3 u4 u5;obtain⟨j,k,l,m,o,p,u0,u1,u2,u3,u4,u5⟩:=F;go_wp2_with fail;refine bodyPost_ret (v:=Uf #[M J 0,C Z,K U 0 0,M J (0),M J 0,M J 0]) (by simp[results,results146,go_sem,j,k,l,m,o,p]) rfl ?_;rw[zb d];exact⟨_,rfl,PartsAt.nil _ _,N.keep (zf.six w.heap.size _ _ _ _ _ _ _) (by unfold zt;omega),P.young (zf.six w.heap.size _ _ _ _ _ _ _) (zgH _)⟩
  have hw:Zo (zd s h.i)=Z:=by simpa using y
  simp only[Zo,Bool.or_eq_false_iff] at hw;obtain⟨⟨⟨⟨⟨br,bs⟩,bu⟩,bk⟩,bm⟩,bx⟩:=hw;clear y;have bz:(zd s h.i == 94)=Z:=by have:=zb aT;simp[this]
  have bn:(zd s h.i == 36)=Z:=by have:=zb aN;simp[this]
  have bw:(zd s h.i == 92)=Z:=by have:=zb aS;simp[this]
  have bl:(zd s h.i == 124)=Z:=by have:=zb aM;simp[this]
  have bt:(zd s h.i == 46)=Z:=by have:=zb aQ;simp[this]
  have bv:(zd s h.i == 91)=Z:=by have:=zb aR;simp[this]
  have bo:(zd s h.i == 40)=Z:=by have:=zb aO;simp[this]
  have bp:(zd s h.i == 41)=Z:=by have:=zb aP;simp[this]
  have d:H (zB s h=(⟨1,Z,[⟨Z,[(oc,oc)]⟩],0,0,0⟩,h.go on)):=by show _=_;unfold zB;simp only[beq_eq_false_iff_ne] at *;rw[iN oa,iN oa,iN oa,iN oa,iN oa,iN oa,iN oa,iN oa,iN (by simp[Zo];omega),zb Ho]
  clear aT aN aS aM aQ aR aO aP;go_wp2_with fail;refine(zbR b s h on oc _ t hs hi Ho aW).mono ?_;rintro e L ⟨sv,rfl,T,z,r⟩;have F:=B.keep r (by unfold zt;omega);obtain⟨sa,sn,sc,rfl⟩:=zr T;have HS:=ze (T.base (base':=w.heap.size+1) (by have:=Six.lt B;omega));have N:=ze z;have P:=ze (u.trans r);have ax:w.heap.size<L.heap.size:=F.lt;clear T z r l0 l1 l2 l3 W X k3 j k l m o p u0 u1 u2 u3 u4 u5;obtain⟨j,k,l,m,o,p,u0,u1,u2,u3,u4,u5⟩:=F;go_wp2_with fail;refine bodyPost_ret (v:=Uf #[M J 1,C Z,K (I ⟨L.heap.size+1,0,U⟩) 1 1,M J 0,M J 0,M J 0]) (by simp[results,results146,go_sem,j,k,l,m,o,p,ax]) rfl ?_;rw[zb d];refine⟨_,rfl,?_,?_,?_⟩;exact Ji _ _ _ ov oa _ ⟨Z,[(oc,oc)]⟩ (K sa sn sc) rfl ((HS.keep ((zf.six w.heap.size L _ _ _ _ _ _).alloc _) (by intro g hg _ hh;unfold zt at hh;omega)).base oa);exact((N.keep (zf.six w.heap.size _ _ _ _ _ _ _) (by unfold zt;omega)).alloc _).alloc _;exact((P.young (zf.six w.heap.size _ _ _ _ _ _ _) (zgH _)).alloc _).alloc _
def xp (w:E)(base:Nat):List Tok->List Y->Prop
 | [],[]=>True
 |t :: a,a0 :: a1 :: a2 :: a3 :: a4 :: a5 :: b=>(a0=M J t.kind/\a1=C t.neg/\a3=M J t.c/\a4=M J t.mn/\a5=M J t.mx)/\PartsAt w base a2 t.parts/\xp w base a b
 |_,_=>False
def xW (w:E)(base:Nat)(v:Y)(l:List Tok):Prop:=∃a,w.ownsRow base 308 6 v l.length a/\xp w base l a
theorem xp.keep {P:Nat->Prop}{w q:E}{base:Nat}(k:zf P w q)(b:∀g,base<=g->g<w.heap.size->¬P g):∀(l:List Tok) (a:List Y),xp w base l a->xp q base l a
 | [],[],_=>trivial
 |_t :: c,_e :: _f :: _i :: _j :: _m :: _n :: d,h=>⟨h.1,h.2.1.keep k b,xp.keep k b c d h.2.2⟩
 | [],_ :: _,h=>h
 |_ :: _,[],h=>h
 |_ :: _,[_],h=>h
 |_ :: _,[_,_],h=>h
 |_ :: _,[_,_,_],h=>h
 |_ :: _,[_,_,_,_],h=>h
 |_ :: _,[_,_,_,_,_],h=>h
theorem xW.keep {P:Nat->Prop}{w q:E}{base:Nat}{v:Y}{l:List Tok}(h:xW w base v l)(k:zf P w q)(d:∀g,base<=g->g<w.heap.size->¬P g):xW q base v l:=by obtain⟨b,a,e⟩:=h;exact⟨b,zl a k (λg c=>d g (zh a g c).1 (zh a g c).2),xp.keep k d l b e⟩
theorem xW.nil (w:E)(base:Nat):xW w base (K U 0 0) []:=⟨[],zgP _ _ _ _,trivial⟩
theorem yB.grownT {base base':Nat}{a v:Y}{n:Nat}{xs:List Y}{l:List (Int×Int)}(h:yB w base a l)(e:w.ownsRow base' 308 6 v n xs)(d:w.grownBy q v.ownBlock):yB q base a l:=
 zl h (zf.ofGrown d) (λg b c=>K7 h e od g b c)
theorem yA.grownT {w q:E}{base base':Nat}{v:Y}{n:Nat}{xs:List Y}(c:w.ownsRow base' 308 6 v n xs)(b:w.grownBy q v.ownBlock):∀(l:List Pt) (a:List Y),yA w base l a->yA q base l a
 | [],[],_=>trivial
 |_p :: ps,_b :: _v :: d,h=>⟨h.1,h.2.1.grownT c b,yA.grownT c b ps d h.2.2⟩
 | [],_ :: _,h=>h
 |_ :: _,[],h=>h
 |_ :: _,[_],h=>h
theorem PartsAt.grownT {w q:E}{base base':Nat}{i v:Y}{n:Nat}{xs:List Y}{l:List Pt}(h:PartsAt w base i l)(f:w.ownsRow base' 308 6 v n xs)(e:w.grownBy q v.ownBlock):PartsAt q base i l:=by obtain⟨c,d,j⟩:=h;exact⟨c,zl d (zf.ofGrown e) (λg a b=>K7 d f od g a b),yA.grownT f e l c j⟩
theorem xp.grown {w q:E}{base base':Nat}{v:Y}{n:Nat}{xs:List Y}(c:w.ownsRow base' 308 6 v n xs)(b:w.grownBy q v.ownBlock):∀(l:List Tok) (a:List Y),xp w base l a->xp q base l a
 | [],[],_=>trivial
 |_t :: d,_f :: _g :: _i :: _j :: _k :: _m :: e,h=>⟨h.1,h.2.1.grownT c b,xp.grown c b d e h.2.2⟩
 | [],_ :: _,h=>h
 |_ :: _,[],h=>h
 |_ :: _,[_],h=>h
 |_ :: _,[_,_],h=>h
 |_ :: _,[_,_,_],h=>h
 |_ :: _,[_,_,_,_],h=>h
 |_ :: _,[_,_,_,_,_],h=>h
theorem xp.append {w:E}{base:Nat}{t:Tok}{c:Y}(b:PartsAt w base c t.parts):∀(l:List Tok) (a:List Y),xp w base l a->xp w base (l++[t]) (a++[M J t.kind,C t.neg,c,M J t.c,M J t.mn,M J t.mx])
 | [],[],_=>⟨⟨rfl,rfl,rfl,rfl,rfl⟩,b,trivial⟩
 |_q :: ps,_e :: _f :: _g :: _i :: _j :: _k :: d,h=>⟨h.1,h.2.1,xp.append b ps d h.2.2⟩
 | [],_ :: _,h=>h.elim
 |_ :: _,[],h=>h.elim
 |_ :: _,[_],h=>h.elim
 |_ :: _,[_,_],h=>h.elim
 |_ :: _,[_,_,_],h=>h.elim
 |_ :: _,[_,_,_,_],h=>h.elim
 |_ :: _,[_,_,_,_,_],h=>h.elim
theorem xW.appended {base:Nat}{v e:Y}{l:List Tok}{a:List Y}{t:Tok}{b:Y}(c:w.ownsRow base 308 6 v l.length a)(f:xp w base l a)(h:PartsAt w base b t.parts)(g:q.ownsRow base 308 6 e (l.length+1) (a++[M J t.kind,C t.neg,b,M J t.c,M J t.mn,M J t.mx])) (d:w.grownBy q v.ownBlock):xW q base e (l++[t]):=
 ⟨a++[M J t.kind,C t.neg,b,M J t.c,M J t.mn,M J t.mx],by rw[zgK];exact g,xp.append (h.grownT c d) l a (xp.grown c d l a f)⟩
namespace Ref
def xA (b:Int):Bool:=(b == 42) ||(b == 43) ||(b == 63) ||(b == 123)
def z7 (k op:Int):Int:=if k=3 then op+1 else if k=4 then op-1 else op
def zP (s:ByteArray):Nat->List Tok->Int->Bool->St->List Tok×Int×Int
 |0,l,_,_,h=>(l,h.e,h.a)
 |f+1,l,op,atom,h=>
  if h.i<s.size/\h.e=0 then
   (if atom=G/\xA (zd s h.i)=G then zP s f (l++[⟨6,Z,[],0,(zO s h).1,(zO s h).2.1⟩]) op Z (zO s h).2.2
    else if zd s h.i=40/\op=10 then([],7,(h.i:Int))
    else zP s f (l++[(zB s h).1]) (z7 (zB s h).1.kind op) (((zB s h).1.kind == 1) ||((zB s h).1.kind == 4))
     (if z7 (zB s h).1.kind op<0 then(zB s h).2.fail 3 h.i else(zB s h).2))
  else(l,(if 0<op then h.fail 3 s.size else h).e,(if 0<op then h.fail 3 s.size else h).a)
def yG (s:ByteArray):List Tok×Int×Int:=zP s (s.size+1) [] 0 Z ⟨0,0,0⟩
theorem zdK {h:St}(d:Good s h.i)(e:zd s h.i=40):wM s (jW s h)/\h.i<(jW s h).i:=by have a:=d.ascii oa oa;unfold jW;split;have b:=a.ascii oa oa;split;have c:=b.ascii (by show 0<=zd s (h.i+2);omega) (by show zd s (h.i+2)<128;omega);exact⟨⟨c.le,λ_=>c⟩,by simp only[St.go];omega⟩;split;exact⟨wM.fail b.le od,by rw[xz];simp only[St.go];omega⟩;exact⟨wM.fail b.le od,by rw[xz];simp only[St.go];omega⟩;exact⟨⟨a.le,λ_=>a⟩,by simp only[St.go];omega⟩
theorem YV (s:ByteArray):∀(f:Nat) (ps:List Pt) (h:St),wM s h->s.size<h.i+f->(h.i<=(yQ s f ps h).2.i/\(yQ s f ps h).2.i<=s.size+1/\((yQ s f ps h).2.e=0->Good s (yQ s f ps h).2.i))
 |0,ps,h,a,p=>by have:=a.1;omega
 |f+1,ps,h,a,p=>by
  by_cases c1:h.e=0/\zd s h.i≠93;have q:=a.2 c1.1;by_cases d:zd s h.i<0;rw[YT c1 d];exact⟨by rw[xz];exact zgH _,by rw[xz];have:=a.1;omega,λc=>absurd c (vp _ _ _ od)⟩;have r:h.i<s.size:=(by rw[<-zw];omega);have n:=vQ q r;by_cases b:jK s (zq s h).2.2=G;have m:(zq s h).2.2.e=0/\zd s (zq s h).2.2.i=45/\(zq s h).2.2.i+1<s.size:=(by simp[jK] at b;exact⟨b.1.1.1,b.1.1.2,b.1.2⟩);have o:=(n.1.2 m.1).ascii oa oa;have j:=vQ (h:=(zq s h).2.2.go 1) o m.2.2;have v:(zq s h).2.2.i+1<(zq s ((zq s h).2.2.go 1)).2.2.i:=j.2;by_cases g:(zq s ((zq s h).2.2.go 1)).2.2.e=0;by_cases k:badB (zq s h).1 (zq s ((zq s h).2.2.go 1)).1 (zq s h).2.1 (zq s ((zq s h).2.2.go 1)).2.1=G;rw[XW c1 d b g k];exact⟨by rw[xz];omega,by rw[xz];have:=j.1.1;omega,λc=>absurd c (vp _ _ _ od)⟩;rw[vR c1 d b g k];have:=YV s f (ps++[⟨(zq s h).1.neg,[(loOf (zq s h).1,loOf (zq s ((zq s h).2.2.go 1)).1)]⟩]) _ j.1 oa;exact⟨oa,this.2⟩;rw[YU c1 d b g];dsimp only;exact⟨oa,by have:=j.1.1;omega,λc=>absurd c g⟩;rw[wC c1 d b];have:=YV s f (ps++[(zq s h).1]) _ n.1 oa;exact⟨oa,this.2⟩;rw[vh c1];refine⟨by simp only[St.go];omega,by have:=a.1;simp only[St.go];omega,λc=>?_⟩;have l:h.e=0:=c;have u:zd s h.i=93:=Classical.byContradiction λt=>c1 ⟨l,t⟩;exact(a.2 l).ascii oa oa
theorem JF (s:ByteArray):∀(f:Nat) (n:Int) (h:St),Good s h.i->Good s (countL s f n h).2.i/\(countL s f n h).2.e=h.e
 |0,n,h,a=>⟨a,rfl⟩
 |f+1,n,h,a=>by
  cases hd:jJ (zd s h.i);rw[countL_stop hd];exact⟨a,rfl⟩;rw[countL_go hd];have b:=YS hd;exact JF s f _ (h.go 1) (a.ascii oa oa)
theorem JG {h:St}(a:Good s h.i):Good s (zU s h).2.i:=by rw[zbS];exact(JF s _ 0 h a).1
end Ref
namespace Ref
theorem zdL {mn:Int}{h:St}(a:Good s h.i):Good s (qB s mn h).2.i:=by unfold qB;split;rename_i c;have b:=a.ascii oa oa;split;exact b;exact JG (h:=h.go 1) b;exact a
theorem restF_ge (s:ByteArray)(mn:Int)(h:St):h.i<=(qB s mn h).2.i:=by unfold qB;split;split;simp only[St.go];omega;have:=(vY s (h.go 1)).2.2.1;simp only[St.go] at this ⊢;omega;exact zgH _
theorem braceF_i (s:ByteArray)(h:St):(yD s h).i=h.i:=by unfold yD;split;exact xz _ _ _;rfl
theorem zap {h:St}(a:Good s h.i)(m:zd s h.i=123):h.i<(yz s h).2.2.i/\((yz s h).2.2.e=0->Good s (yz s h).2.2.i):=by
 have g:=a.ascii oa oa;have j:=zdL (mn:=(zU s (h.go 1)).1) (JG (h:=h.go 1) g);have o:=(vY s (h.go 1)).2.2.1;have p:=restF_ge s (zU s (h.go 1)).1 (zU s (h.go 1)).2;have n:(h.go 1).i=h.i+1:=rfl;unfold yz;dsimp only;generalize qB s (zU s (h.go 1)).1 (zU s (h.go 1)).2=r at *;have k:=braceF_i s r.2;have f:((yD s r.2).go 1).i=r.2.i+1:=by show(yD s r.2).i+1=_;rw[k]
 split;exact⟨by rw[xz,f];omega,λc=>absurd c (vp _ _ _ od)⟩;refine⟨by rw[f];omega,λc=>?_⟩;rw[f];have b:(yD s r.2).e=0:=c;by_cases d:r.2.e=0/\zd s r.2.i≠125;unfold yD at b;rw[IN d] at b;exact absurd b (vp _ _ _ od);unfold yD at b;rw[iN d] at b;have:zd s r.2.i=125:=Classical.byContradiction λl=>d ⟨b,l⟩;exact j.ascii oa oa
theorem K8 {h:St}(a:h.e=0->Good s h.i)(c:h.i<=s.size+2):h.i<=(xS s h).i/\(xS s h).i<=s.size+2/\((xS s h).e=0->Good s (xS s h).i):=by unfold xS;split;rename_i b;have g:=(a b.1).ascii oa oa;have:=g.le;exact⟨by simp only[St.go];omega,by simp only[St.go];omega,λ_=>g⟩;exact⟨zgH _,c,a⟩
theorem vS {b:Int}(h:xA b=G):b=42\/b=43\/b=63\/b=123:=by simp[xA] at h;omega
theorem JH {h:St}(a:Good s h.i)(f:xA (zd s h.i)=G):h.i<(zO s h).2.2.i/\(zO s h).2.2.i<=s.size+2/\((zO s h).2.2.e=0->Good s (zO s h).2.2.i):=by
 have k:=vS f;have b:=a.ascii oa oa;have l:=b.le;have one:h.i<(xS s (h.go 1)).i/\(xS s (h.go 1)).i<=s.size+2/\((xS s (h.go 1)).e=0->Good s (xS s (h.go 1)).i):=by have:=K8 (h:=h.go 1) (λ_=>b) (by show h.i+1<=_;omega);exact⟨by have:=this.1;simp only[St.go] at this ⊢;omega,this.2⟩
 unfold zO;split;exact one;split;exact one;split;exact one;have g:zd s h.i=123:=by omega
 have j:h.i<s.size:=by rw[<-zw];omega
 have c:=zap a g;have d:=Wh s h j;have:=K8 (h:=(yz s h).2.2) c.2 d;exact⟨by have:=this.1;dsimp only;omega,this.2⟩
theorem zbW {h:St}(d:Good s h.i)(t:h.i<s.size):(zB s h).2.i<=s.size+2/\((zB s h).2.e=0->h.i<(zB s h).2.i/\Good s (zB s h).2.i)/\h.i<=(zB s h).2.i:=by
 have one:0<=zd s h.i->zd s h.i<128->(h.go 1).i<=s.size+2/\((h.go 1).e=0->h.i<(h.go 1).i/\Good s (h.go 1).i)/\h.i<=(h.go 1).i:=λa b=>by have g:=d.ascii a b;have:=g.le;exact⟨by simp only[St.go];omega,λ_=>⟨by simp only[St.go];omega,g⟩,by simp only[St.go];omega⟩
 unfold zB;split;exact one oa oa;split;rename_i w;have g:=(d.ascii oa oa).ascii oa oa;have:=g.le;exact⟨by simp only[St.go];omega,λ_=>⟨by simp only[St.go];omega,g⟩,by simp only[St.go];omega⟩;split;exact one oa oa;split;exact one oa oa;split
 .have l:=d.ascii oa oa;have m:wM s (yX s (h.go 1)):=by unfold yX;split;rename_i u;simp only[vz,decide_eq_true_eq] at u;have:=Good.ascii (s:=s) (p:=(h.go 1).i) l oa oa;exact⟨this.le,λ_=>this⟩;exact⟨l.le,λ_=>l⟩
  have v:h.i+1<=(yX s (h.go 1)).i:=by unfold yX;split<;>simp only[St.go]<;>omega
  have q:=YV s (s.size+1-(yX s (h.go 1)).i) [] (yX s (h.go 1)) m (by have:=m.1;omega);unfold y9;exact⟨by dsimp only;omega,λj=>⟨by dsimp only;omega,q.2.2 j⟩,by dsimp only;omega⟩
 split;rename_i k;have f:=QH (cls:=Z) d k;exact⟨by have:=f.1.1;dsimp only;omega,λj=>⟨f.2,f.1.2 j⟩,by have:=f.2;dsimp only;omega⟩;split;rename_i k;have f:=zdK d k;exact⟨by have:=f.1.1;dsimp only;omega,λj=>⟨f.2,f.1.2 j⟩,by have:=f.2;dsimp only;omega⟩;split;exact one oa oa;split;refine⟨by rw[xz];omega,λj=>absurd j (vp _ _ _ od),by rw[xz];omega⟩;obtain⟨n,c,o,r⟩:=d.next t;rw[o];have k:=qr o;exact⟨by simp only[St.go];omega,λ_=>⟨by simp only[St.go];omega,r⟩,by simp only[St.go];omega⟩
section
variable {s:ByteArray} {f:Nat} {l:List Tok} {op:Int} {atom:Bool} {h:St}
theorem XI (a:h.i<s.size/\h.e=0)(b:atom=G/\xA (zd s h.i)=G):zP s (f+1) l op atom h=zP s f (l++[⟨6,Z,[],0,(zO s h).1,(zO s h).2.1⟩]) op Z (zO s h).2.2:=by simp only[zP];rw[IN a,IN b]
theorem QI (a:h.i<s.size/\h.e=0)(b:¬(atom=G/\xA (zd s h.i)=G))(c:zd s h.i=40/\op=10):zP s (f+1) l op atom h=([],7,(h.i:Int)):=by simp only[zP];rw[IN a,iN b,IN c]
theorem qO (a:h.i<s.size/\h.e=0)(h1:¬(atom=true/\xA (zd s h.i)=true))(h2:¬(zd s h.i=40/\op=10)):zP s (f+1) l op atom h=zP s f (l++[(zB s h).1]) (z7 (zB s h).1.kind op) (((zB s h).1.kind == 1) ||((zB s h).1.kind == 4)) (if z7 (zB s h).1.kind op<0 then(zB s h).2.fail 3 h.i else(zB s h).2):=by
 simp only[zP];rw[IN a,iN h1,iN h2]
theorem wZ (b:¬(h.i<s.size/\h.e=0)):zP s (f+1) l op atom h=(l,(if 0<op then h.fail 3 s.size else h).e,(if 0<op then h.fail 3 s.size else h).a):=by simp only[zP];rw[iN b]
end
end Ref
end
