/- The reference's tokens of a pattern. -/
import Derived.Test.YtcgleficedipkaaGreatDoorYRefQRefT
namespace Go.Proofs.YtcgleficedipkaaGreatDoor
open Option renaming none->U,some->I
open Value renaming int->M,slice->K,bool->C,string->Uc,tuple->Ue,agg->Uf
open IntKind renaming i64->J
open Bool renaming false->Z,true->G
open _root_.Go.Proofs.Tryz renaming prog->V
open Go renaming World->E,Value->Y,Calls->Uh
open Go.RowKit renaming Hid->H
open Ending renaming returned->R
open Obj renaming cells->Ub
open And renaming intro->Ur
open Ref
open _root_.Go.Proofs.Tryz
variable (g off cap:Nat)(w:World)(s:ByteArray)
section
open Go.RowKit
set_option maxHeartbeats 3200000
set_option maxRecDepth 100000
theorem Tryz.infoTok:(prog.info? 308).map (λi=>(i.zero,i.size,i.bytes))=I (I (Uf #[M J 0,C Z,K U 0 0,M J 0,M J 0,M J 0]),6,64):=om
theorem Ref.tokenF_open {s:ByteArray}{h:St}(a:(zB s h).1.kind=3):zd s h.i=40:=by
 unfold zB at a
 (repeat' split at a)<;>simp_all
namespace Ref
section
variable {s:ByteArray} {f:Nat} {L:List Tok} {k op:Int} {A B:St}
theorem tk3 (b:(k == 3)=G)(h:0<=op):zP s f L (z7 k op) ((k == 1) ||(k == 4)) (if z7 k op<0 then A else B)=zP s f L (op+1) Z B:=by
 have e:k=3:=by simpa using b
 subst e;have a:z7 3 op=op+1:=by simp[z7]
 rw[a,iN oa];rfl
theorem tk4 (d:(k == 3)=Z)(b:(k == 4)=G)(_c:(k == 1)=Z)(h:0<=op-1):zP s f L (z7 k op) ((k == 1) ||(k == 4)) (if z7 k op<0 then A else B)=zP s f L (op-1) G B:=by
 have e:k=4:=by simpa using b
 subst e;have a:z7 4 op=op-1:=by simp[z7]
 rw[a,iN oa];rfl
theorem tk4n (d:(k == 3)=Z)(b:(k == 4)=G)(_c:(k == 1)=Z)(h:op-1<0):zP s f L (z7 k op) ((k == 1) ||(k == 4)) (if z7 k op<0 then A else B)=zP s f L (op-1) G A:=by
 have e:k=4:=by simpa using b
 subst e;have a:z7 4 op=op-1:=by simp[z7]
 rw[a,IN oa];rfl
theorem tk1 (d:(k == 3)=Z)(_c:(k == 4)=Z)(b:(k == 1)=G)(h:0<=op):zP s f L (z7 k op) ((k == 1) ||(k == 4)) (if z7 k op<0 then A else B)=zP s f L op G B:=by
 have e:k=1:=by simpa using b
 subst e;have a:z7 1 op=op:=by simp[z7]
 rw[a,iN oa];rfl
theorem tk0 (b:(k == 3)=Z)(a:(k == 4)=Z)(d:(k == 1)=Z)(h:0<=op):zP s f L (z7 k op) ((k == 1) ||(k == 4)) (if z7 k op<0 then A else B)=zP s f L op Z B:=by
 have c:z7 k op=op:=by simp at b a;simp[z7,b,a]
 rw[c,iN oa,a,d];rfl
end
end Ref
theorem XJ (a0 a1 a2 a3 a4 a5:Y)(T:TypeId):∀j u,[a0,a1,a2,a3,a4,a5][j]?=I u->(w.alloc (Ub #[a0,a1,a2,a3,a4,a5] T)).cell? ((⟨w.heap.size,0,U⟩:Addr).add j)=I u:=by
 intro j u a;have h:=zm w w.heap.size rfl #[a0,a1,a2,a3,a4,a5] T j u (by simpa using a);have e:(⟨w.heap.size,0,U⟩:Addr).add j=⟨w.heap.size,j,U⟩:=by
  cases j with
  |zero=>simp[Addr.add]
  |succ j=>simp[Addr.add]
 rw[e];exact h
def lexE (w:E)(b:Nat):Int:=match w.cell? ⟨b,2,U⟩ with
 |some v=>intOf v
 |none=>0
theorem Xo {w:E}{b:Nat}{s:ByteArray}{h:St}(a:Lex w b s h):lexE w b=h.e:=by unfold lexE;rw[a.c2];simp[intOf]
theorem lex_new:Lex (w.alloc (Ub #[Uc s,M J 0,M J 0,M J 0] 305)) w.heap.size s ⟨0,0,0⟩:=
 ⟨zm _ _ rfl _ _ 0 _ rfl,zm _ _ rfl _ _ 1 _ rfl,zm _ _ rfl _ _ 2 _ rfl,zm _ _ rfl _ _ 3 _ rfl,zu _ _ rfl _ _ 1,zu _ _ rfl _ _ 2,zu _ _ rfl _ _ 3⟩
theorem XX (w:E)(hs:s.size<=400)(hg:Ref.Good s 0):Uh V 102 #[Uc s] w λx w'=> ∃v,x=R (Ue #[v,M J (yG s).2.1,M J (yG s).2.2])/\xW w' (w.heap.size+1) v (yG s).1/\ziE w w':=by
 have HG:=ze hg;clear hg;go_enter func102,ntmps102;go_wp2_with fail;go_loopw[6,7,8] (λv o a wr=>∃(l:List Tok) (pa:Option Addr) (pn pc:Nat) (op:Int) (aq:Bool) (b:St) (f:Nat),v=K pa pn pc/\o=M J op/\a=C aq/\-1<=op/\op<=11/\xW wr (w.heap.size+1) (K pa pn pc) l/\Lex wr w.heap.size s b/\ziE w wr/\
   w.heap.size+1<=wr.heap.size/\b.i<=s.size+2/\l.length<=b.i+1/\H (b.e=0->Ref.Good s b.i/\l.length<=b.i/\0<=op/\op<=10/\s.size<b.i+f)/\H (1<=f)/\H (yG s=zP s f l op aq b))
  (λ_ _ _ wr=>2*(s.size+3-lexI wr w.heap.size)+(if lexE wr w.heap.size=0 then 1 else 0))
 exact⟨[],U,0,0,0,Z,⟨0,0,0⟩,s.size+1,rfl,rfl,rfl,oa,oa,xW.nil _ _,lex_new w s,(zf.refl _ _).alloc _,ov,ov,ov,(λ_=>⟨HG,ov,oa,oa,ov⟩),(by show 1<=_;omega),rfl⟩;obtain⟨l,pa,pn,pc,op,aq,b,f,rfl,rfl,rfl,cp,cq,hT,hL,hO,cX,cR,cT,ce,cl,HF⟩:=hrel;obtain⟨f,rfl⟩:∃f',f=f'+1:=⟨f-1,by have:=zb cl;omega⟩
 have ab:=ze hL;have a6:=ze hT;have aj:=ze hO;have aG:=ze hL;clear hT hO;obtain⟨y,z,B,F,p,r,u⟩:=hL;by_cases c1:b.i<s.size/\b.e=0
 .obtain⟨bT,cS,a8,cs,bX⟩:=zb ce c1.2;have C1:=ze c1;have hi:b.i<s.size:=c1.1;have e0:(b.e == 0)=G:=(by simp[c1.2]);have bR:decide ((b.i:Int)<(s.size:Int))=G:=ou;have bi:=ze bT;have aO:=ze bX;clear c1 bT bX;by_cases c3:aq=G/\xA (zd s b.i)=G
  .have ap:=ze (HF.trans (XI (f:=f) (l:=l) (op:=op) C1 c3));have bu:=JH bi c3.2;have cu:=vS c3.2;have ck:=c3.1;subst ck
   have cv:(zd s b.i == 42)=G\/((zd s b.i == 42)=Z/\(zd s b.i == 43)=G)\/((zd s b.i == 42)=Z/\(zd s b.i == 43)=Z/\(zd s b.i == 63)=G)\/((zd s b.i == 42)=Z/\(zd s b.i == 43)=Z/\(zd s b.i == 63)=Z/\(zd s b.i == 123)=G):=ou;clear c3 cu;go_wp2_with fail;refine(wY w.heap.size s b _ ab hs).mono ?_;rintro e w1 ⟨rfl,i⟩;have av:=ab.keep i id;have aU:=a6.keep i (λ_ _ _ f=>f);have aw:=aj.trans i;have cw:=i.size;have bo:=ze av;clear i y z B F p r u;obtain⟨y,z,B,F,p,r,u⟩:=av;have aN:=ze (Ur aU aw);clear aU aw;rcases cv with y1|⟨y1,y2⟩|⟨y1,y2,y3⟩|⟨y1,y2,y3,y4⟩
   all_goals
    go_wp2_with fail;refine(K6 w.heap.size s b _ bo hs hi C1.2).mono ?_;rintro e d ⟨rfl,ae,ai⟩;have ax:=aN.1.keep ai (by intro g hg _ c;unfold zt at c;omega);have aR:=(aN.2).young ai (zgH _);have co:w.heap.size<d.heap.size:=ae.lt;generalize hq:zO s b=q at *;obtain⟨N,P,aD⟩:=q;simp only[] at *;have hk:=(zf.refl (λ_=>False) d).alloc (Ub #[M J 6,C Z,K U 0 0,M J 0,M J N,M J P] 308);have aV:¬(K pa pn pc).ownBlock=I d.heap.size:=by
     intro c;obtain⟨aa,h1,_⟩:=ax;have:=(zh h1 _ c).2;omega
    have bm:=ze aV;have H3:=ze (Ur (ae.keep hk id) (Ur (ax.keep hk (λ_ _ _ f=>f)) (Ur (aR.trans hk) (Six.new (n:=d.heap.size) (a0:=M J 6) (a1:=C Z) (a2:=K U 0 0) (a3:=M J 0) (a4:=M J N) (a5:=M J P) d 308 rfl))));clear hk aV ae ax aR y z B F p r u;go_upto_region 10 with fail;generalize bv:d.alloc (Ub #[M J 6,C Z,K U 0 0,M J 0,M J N,M J P] 308)=w3 at *;obtain⟨aQ,bp,aS,au⟩:=zb H3;clear bv H3;have ab:=ze aQ;have bl:=ze au;have aj:=ze aS;have cx:d.heap.size<w3.heap.size:=au.lt;obtain⟨aa,W,aI⟩:=bp;obtain⟨y,z,B,F,p,r,u⟩:=aQ;obtain⟨t0,t1,t2,t3,t4,t5,v0,v1,v2,v3,v4,v5⟩:=au;obtain⟨i0,hi,aJ,aK,aL⟩:=info_parts Tryz.infoTok;have cn:l.length<=500:=oa;clear aS;go_wp2_with(at_builtin;refine wpList_append_own _ rfl _ _ 66 rfl (w.heap.size+1) 308 i0 (Uf #[M J 0,C Z,K U 0 0,M J 0,M J 0,M J 0]) 6 64 underlying66 hi aJ aK aL rfl od _ _ _ rfl (zgO W _) _ 1 1 [M J 6,C Z,K U 0 0,M J 0,M J N,M J P] rfl rfl (XJ _ _ _ _ _ _ _ _) (λx hx=>by simp at hx;rcases hx with rfl|rfl|rfl|rfl|rfl|rfl<;>rfl) (by unfold maxLen;omega) oa ou ?_;intro v' w5 ac S bs;obtain⟨ba,bc,bb,rfl⟩:=zr ac;have T:=(((zf.refl (λk=>(K pa pn pc).ownBlock=I k) w3).alloc _).trans (zf.ofGrown S));have L:=ab.keep T (by intro c;have:=(zh W _ c).1;omega);have ao:=bl.keep T (by intro c;exact absurd c bm);have X:=ze (Ur L (Ur ac (Ur S (Ur T ao))));clear ac S bs T y z B F p r u;obtain⟨y,z,B,F,p,r,u⟩:=L;obtain⟨x0,x1,x2,x3,x4,x5,z0,z1,z2,z3,z4,z5⟩:=ao);obtain⟨L,ac,S,T,ao⟩:=zb X;have a7:=xW.appended (t:=⟨6,Z,[],0,N,P⟩) (zgO W _) (xp.keep (w:=w3) ((zf.refl (λ_=>False) w3).alloc _) (λ_ _ _ f=>f) l aa aI) (PartsAt.nil _ _) ac S;have a2:=((aj.alloc _).grown S (λj hj=>Or.inr (by have:=(zh W j hj).1;omega)))
    have bt:=bu.1;have a9:=bu.2.1;go_roundw
    case rel=>exact⟨l++[⟨6,Z,[],0,N,P⟩],ba,bc,bb,op,Z,aD,f,rfl,rfl,rfl,cp,cq,a7,L,a2,by have:=T.size;omega,a9,by simp;omega,(λh0=>⟨bu.2.2 h0,by simp;omega,a8,cs,by have:=zb aO;omega⟩),(by have:=zb aO;show 1<=_;omega),ap⟩
    case measure=>rw[jh L,jh aG,Xo L,Xo aG,IN (zb C1).2];split<;>omega
  (have c4:aq=Z\/(aq=G/\(zd s b.i == 42)=Z/\(zd s b.i == 43)=Z/\(zd s b.i == 63)=Z/\(zd s b.i == 123)=Z):=by cases aq;exact .inl rfl;right;simp[xA] at c3;simp;omega);have C3:=ze c3;clear c3;by_cases c5:zd s b.i=40/\op=10
  .have HH:=ze (HF.trans (QI (f:=f) (l:=l) C1 C3 c5));have d1:(zd s b.i == 40)=G:=(by simp[c5.1]);have d2:(op == 10)=G:=(by simp[c5.2]);clear c5;go_wp2_with fail;refine(wY w.heap.size s b _ ab hs).mono ?_;rintro e w1 ⟨rfl,i⟩;have av:=ab.keep i id;have aw:=ze (aj.trans i);clear i y z B F p r u;obtain⟨y,z,B,F,p,r,u⟩:=av;rcases c4 with rfl|⟨rfl,y1,y2,y3,y4⟩
   all_goals
    go_wp2_with fail;go_ret3;rw[zb HH];exact⟨_,rfl,xW.nil _ _,aw⟩
  have ap:=ze (HF.trans (qO (f:=f) (l:=l) C1 C3 c5));have ak:=zbW bi hi;have bZ:=tokenF_open (s:=s) (h:=b);have c6:(zd s b.i == 40)=Z\/((zd s b.i == 40)=G/\(op == 10)=Z):=ou;have C5:=ze c5;clear c5;go_wp2_with fail;refine(wY w.heap.size s b _ ab hs).mono ?_;rintro e w1 ⟨rfl,i⟩;have av:=ab.keep i id;have aU:=a6.keep i (λ_ _ _ f=>f);have aw:=aj.trans i;have cw:=i.size;have bo:=ze av;clear i y z B F p r u;obtain⟨y,z,B,F,p,r,u⟩:=av;have aN:=ze (Ur aU aw);clear aU aw;rcases c4 with rfl|⟨rfl,y1,y2,y3,y4⟩
  all_goals
   rcases c6 with y5|⟨y5,y6⟩
  all_goals
   go_wp2_with fail;refine(zfX w.heap.size s b _ bo hs hi bi C1.2).mono ?_;rintro e d ⟨pv,rfl,b1,ae,ai⟩;have ax:=aN.1.keep ai (by intro g hg _ c;unfold zt at c;omega);have aR:=(aN.2).young ai (zgH _);have co:w.heap.size<d.heap.size:=ae.lt;have b2:=PartsAt.base (base':=w.heap.size+1) b1 oa;obtain⟨qs,bt,a9⟩:=b1;obtain⟨qa,qn,qc,rfl⟩:=zr bt;clear bt a9;generalize hq:zB s b=q at *;obtain⟨⟨k,ng,pt,tc,N,P⟩,aD⟩:=q;simp only[] at *;have hk:=(zf.refl (λ_=>False) d).alloc (Ub #[M J k,C ng,K qa qn qc,M J tc,M J N,M J P] 308);have aV:¬(K pa pn pc).ownBlock=I d.heap.size:=by
    intro c;obtain⟨aa,h1,_⟩:=ax;have:=(zh h1 _ c).2;omega
   have bm:=ze aV;have H3:=ze (Ur (ae.keep hk id) (Ur (ax.keep hk (λ_ _ _ f=>f)) (Ur (aR.trans hk) (Ur (b2.keep hk (λ_ _ _ f=>f)) (Six.new (n:=d.heap.size) (a0:=M J k) (a1:=C ng) (a2:=K qa qn qc) (a3:=M J tc) (a4:=M J N) (a5:=M J P) d 308 rfl)))));clear hk aV ae ax ai aR b2 hq y z B F p r u;go_upto_region 15 with fail;generalize bv:d.alloc (Ub #[M J k,C ng,K qa qn qc,M J tc,M J N,M J P] 308)=w3 at *;obtain⟨aQ,bp,aS,bV,au⟩:=zb H3;clear bv H3;have ab:=ze aQ;have bl:=ze au;have aj:=ze aS;have cg:=ze bV;have cx:d.heap.size<w3.heap.size:=au.lt;obtain⟨aa,W,aI⟩:=bp;obtain⟨y,z,B,F,p,r,u⟩:=aQ;obtain⟨t0,t1,t2,t3,t4,t5,v0,v1,v2,v3,v4,v5⟩:=au;obtain⟨i0,bY,aJ,aK,aL⟩:=info_parts Tryz.infoTok;have cn:l.length<=500:=oa;have b9:=ze bZ;have ca:=ze ak;have a9:=ak.1;have cV:=ak.2.2;clear aS bV bZ ak;have cm:((k == 3)=G/\(k == 4)=Z/\(k == 1)=Z)\/((k == 3)=Z/\(k == 4)=G/\(k == 1)=Z/\op-1<0)\/((k == 3)=Z/\(k == 4)=G/\(k == 1)=Z/\0<=op-1)\/((k == 3)=Z/\(k == 4)=Z/\(k == 1)=G)\/((k == 3)=Z/\(k == 4)=Z/\(k == 1)=Z):=ou;have ci:=ze (Ur W aI);have b8:=ze (Ur bY (Ur aJ (Ur aK aL)));clear W aI bY aJ aK aL;rcases cm with⟨m1,m2,m3⟩|⟨m1,m2,m3,m4⟩|⟨m1,m2,m3,m4⟩|⟨m1,m2,m3⟩|⟨m1,m2,m3⟩
  all_goals
   obtain⟨W,aI⟩:=zb ci;obtain⟨hi,aJ,aK,aL⟩:=zb b8;go_wp2_with(at_builtin;refine wpList_append_own _ rfl _ _ 66 rfl (w.heap.size+1) 308 i0 (Uf #[M J 0,C Z,K U 0 0,M J 0,M J 0,M J 0]) 6 64 underlying66 hi aJ aK aL rfl od _ _ _ rfl (zgO W _) _ 1 1 [M J k,C ng,K qa qn qc,M J tc,M J N,M J P] rfl rfl (XJ _ _ _ _ _ _ _ _) (λx hx=>by simp at hx;rcases hx with rfl|rfl|rfl|rfl|rfl|rfl<;>rfl) (by unfold maxLen;omega) oa ou ?_;intro v' w5 ac S bs;obtain⟨ba,bc,bb,rfl⟩:=zr ac;have T:=(((zf.refl (λk=>(K pa pn pc).ownBlock=I k) w3).alloc _).trans (zf.ofGrown S));have L:=ab.keep T (by intro c;have:=(zh W _ c).1;omega);have ao:=bl.keep T (by intro c;exact absurd c bm);have X:=ze (Ur L (Ur ac (Ur S (Ur T ao))));clear ac S bs T y z B F p r u;obtain⟨y,z,B,F,p,r,u⟩:=L;obtain⟨x0,x1,x2,x3,x4,x5,z0,z1,z2,z3,z4,z5⟩:=ao)
  all_goals
   obtain⟨L,ac,S,T,ao⟩:=zb X;have a7:=xW.appended (t:=⟨k,ng,pt,tc,N,P⟩) (zgO W _) (xp.keep (w:=w3) ((zf.refl (λ_=>False) w3).alloc _) (λ_ _ _ f=>f) l aa aI) (cg.keep ((zf.refl (λ_=>False) w3).alloc _) (λ_ _ _ f=>f)) ac S;have a2:=((aj.alloc _).grown S (λj hj=>Or.inr (by have:=(zh W j hj).1;omega)))
   have ct:(k == 3)=G->op<=9:=λm=>by have a1:=zb b9 (by simpa using m);have ad:=zb C5;omega
   try (have cU:=ct m1)
   have ak:=zb ca;have cY:=T.size
   first
    |(refine(yU w.heap.size s aD 3 _ _ L).mono ?_
      rintro e w6 ⟨rfl,aF,aT⟩;have cd:=ao.keep aT (by unfold zt;omega);have cj:=ze (Ur aF (Ur (a7.keep aT (by intro g hg _ c;unfold zt at c;omega)) (a2.young aT (zgH _))));have cW:=aT.size;clear aF aT x0 x1 x2 x3 x4 x5 z0 z1 z2 z3 z4 z5 y z B F p r u;obtain⟨x0,x1,x2,x3,x4,x5,z0,z1,z2,z3,z4,z5⟩:=cd;go_wp2_with fail;obtain⟨aF,ch,cf⟩:=zb cj;have b0:=vp aD 3 (b.i:Int) od;go_roundw
      case rel=>exact⟨l++[⟨k,ng,pt,tc,N,P⟩],ba,bc,bb,_,_,aD.fail 3 b.i,f,rfl,rfl,rfl,oa,oa,ch,aF,cf,oa,by rw[xz];omega,by rw[xz];simp;omega,(λh0=>absurd h0 b0),(by have:=zb aO;show 1<=_;omega),ze (ap.trans (tk4n m1 m2 m3 m4))⟩
      case measure=>rw[jh aF,jh aG,Xo aF,Xo aG,IN (zb C1).2,iN b0,xz];omega)
    |(go_roundw
      case rel=>exact⟨l++[⟨k,ng,pt,tc,N,P⟩],ba,bc,bb,_,_,aD,f,rfl,rfl,rfl,oa,oa,a7,L,a2,oa,oa,by simp;omega,(λh0=>⟨(ak.2.1 h0).2,by have:=(ak.2.1 h0).1;simp;omega,oa,oa,by have:=(ak.2.1 h0).1;have:=zb aO;omega⟩),(by have:=zb aO;show 1<=_;omega),(by first
       |exact ze (ap.trans (tk3 m1 a8))
       |exact ze (ap.trans (tk4 m1 m2 m3 m4))
       |exact ze (ap.trans (tk1 m1 m2 m3 a8))
       |exact ze (ap.trans (tk0 m1 m2 m3 a8)))⟩
      case measure=>
       rw[jh L,jh aG,Xo L,Xo aG,IN (zb C1).2];by_cases h0:aD.e=0;have:=(ak.2.1 h0).1;rw[IN h0];omega;rw[iN h0];omega)
 have HH:H (yG s=(l,(if 0<op then b.fail 3 s.size else b).e,(if 0<op then b.fail 3 s.size else b).a)):=(by rw[zb HF];exact wZ c1);have c2:¬b.i<s.size\/(b.i<s.size/\(b.e == 0)=Z):=(by grind);clear c1;rcases c2 with c2|⟨c2,c3⟩
 case' inl=>have bR:decide ((b.i:Int)<(s.size:Int))=Z:=by simp;omega
 case' inr=>have bR:decide ((b.i:Int)<(s.size:Int))=G:=by simp;omega
 all_goals
  by_cases cr:0<op
  .go_wp2_with fail;refine(yU w.heap.size s b 3 _ _ ab).mono ?_;rintro e d ⟨rfl,ae,ai⟩;have cN:=ze ae;have bO:=ze ai;obtain⟨m0,m1,m2,m3,j1,j2,j3⟩:=ae;clear ai;go_wp2_with fail;go_quiet(fail);go_wp2_with fail;go_ret3;rw[zb HH,IN cr];exact⟨_,rfl,(a6.keep bO (by intro g hg _ c;unfold zt at c;omega)).keep ((zf.refl (λ_=>False) d).drewN _) (λ_ _ _ f=>f),((aj.mono (Q:=λ_=>False) (λ_ _ f=>f)).young bO (zgH _)).drewN _⟩
  go_wp2_with fail;go_quiet(fail);go_wp2_with fail;go_ret3;rw[zb HH,iN oa];exact⟨_,rfl,a6.keep ((zf.refl (λ_=>False) wr).drewN _) (λ_ _ _ f=>f),aj.drewN _⟩
def jL (w:E)(g off:Nat)(l:List Tok):Prop:=∀(j:Nat) (t:Tok),l[j]?=I t->∃a c b,
 w.cell? ⟨g,off+j*6,U⟩=I (M J t.kind)/\w.cell? ⟨g,off+j*6+1,U⟩=I (C t.neg)/\w.cell? ⟨g,off+j*6+2,U⟩=I (K a c b)/\
 w.cell? ⟨g,off+j*6+3,U⟩=I (M J t.c)/\w.cell? ⟨g,off+j*6+4,U⟩=I (M J t.mn)/\w.cell? ⟨g,off+j*6+5,U⟩=I (M J t.mx)
namespace Ref
def zT (l:List Tok)(k:Nat):Int:=match l[k]? with
 |some t=>t.kind
 |none=>0
def xG (l:List Tok):Nat->Nat->Int->Int
 |0,_,_=>(l.length:Int)-1
 |f+1,k,op=>if k<l.length then(if z7 (zT l k) op=0 then(k:Int) else xG l f (k+1) (z7 (zT l k) op)) else(l.length:Int)-1
def xB (l:List Tok)(i:Nat):Int:=xG l (l.length+1-i) i 0
end Ref
theorem jL.kind {w:E}{g off:Nat}{l:List Tok}(h:jL w g off l)(k:Nat)(a:k<l.length):w.cell? ⟨g,off+k*6,U⟩=I (M J (zT l k)):=by obtain⟨_,_,_,b,_⟩:=h k l[k] (zgE a);unfold zT;rw[zgE a];exact b
theorem zbX (l:List Tok)(i:Nat)(w:E)(h:jL w g off l)(S:l.length<=1000)(_N:l.length<=cap)(F:i<=l.length):Uh V 183 #[K (I ⟨g,off,U⟩) l.length cap,M J i] w λx L=>x=R (M J (xB l i))/\L=w:=by
 have u:=ze h;clear h;go_enter func183,ntmps183;go_wp2_with fail
 go_loop [5,6] (λo k=>∃(op:Int) (n f:Nat),o=M J op/\k=M J n/\n<=l.length/\-2000-n<=op/\op<=n/\H (l.length<n+f)/\H (xB l i=xG l f n op)) (λ_ k=>l.length-(intOf k).toNat)
 case atStart=>exact⟨0,i,l.length+1-i,rfl,rfl,F,oa,oa,(by show _<_;omega),rfl⟩
 case round=>
  obtain⟨op,n,f,rfl,rfl,T,W,X,m,q⟩:=hrel;obtain⟨f,rfl⟩:∃y,f=y+1:=⟨f-1,by have:=zb m;omega⟩
  by_cases p:n<l.length
  ·((have P:=u.kind n p;have d:H (xB l i=if z7 (zT l n) op=0 then(n:Int) else xG l f (n+1) (z7 (zT l n) op)):=by rw[zb q];simp only[xG];rw[IN p];rfl);generalize z:zT l n=c at *;clear z;have B:((c == 3)=G/\z7 c op=op+1)\/((c == 3)=Z/\(c == 4)=G/\z7 c op=op-1)\/((c == 3)=Z/\(c == 4)=Z/\z7 c op=op):=by by_cases s:c=3;left;simp[z7,s];by_cases t:c=4;right;left;simp[z7,t];right;right;simp[z7,s,t]);rcases B with⟨r,j⟩|⟨r,v,j⟩|⟨r,v,j⟩
   all_goals
    rw[j] at d;clear j
   .by_cases a:op+1=0
    .have e:(op+1 == 0)=G:=(by simp[a]);have b:H (xB l i=(n:Int)):=(by rw[zb d,IN a];rfl);clear a;go_wp2_with fail;go_ret;exact⟨qE b.symm,rfl⟩
    have e:(op+1 == 0)=Z:=(by simp[a]);have b:H (xB l i=xG l f (n+1) (op+1)):=(by rw[zb d,iN a];rfl);clear a;go_wp2_with fail;go_round
    case rel=>exact⟨op+1,n+1,f,rfl,by go_num,oa,oa,oa,(by have:=zb m;show _<_;omega),b⟩
    case measure=>simp[intOf];omega
   .by_cases a:op-1=0
    .have e:(op-1 == 0)=G:=ou;have b:H (xB l i=(n:Int)):=(by rw[zb d,IN a];rfl);clear a;go_wp2_with fail;go_ret;exact⟨qE b.symm,rfl⟩
    have e:(op-1 == 0)=Z:=ou;have b:H (xB l i=xG l f (n+1) (op-1)):=(by rw[zb d,iN a];rfl);clear a;go_wp2_with fail;go_round
    case rel=>exact⟨op-1,n+1,f,rfl,by go_num,oa,oa,oa,(by have:=zb m;show _<_;omega),b⟩
    case measure=>simp[intOf];omega
   by_cases a:op=0
   .have e:(op == 0)=G:=(by simp[a]);have b:H (xB l i=(n:Int)):=(by rw[zb d,IN a];rfl);clear a;go_wp2_with fail;go_ret;exact⟨qE b.symm,rfl⟩
   have e:(op == 0)=Z:=(by simp[a]);have b:H (xB l i=xG l f (n+1) op):=(by rw[zb d,iN a];rfl);clear a;go_wp2_with fail;go_round
   case rel=>exact⟨op,n+1,f,rfl,by go_num,oa,oa,oa,(by have:=zb m;show _<_;omega),b⟩
   case measure=>simp[intOf];omega
  have b:H (xB l i=(l.length:Int)-1):=(by rw[zb q];simp only[xG];rw[iN p];rfl);go_wp2_with fail;go_ret;exact⟨qE b.symm,rfl⟩
namespace Ref
def qF (l:List Tok)(i:Nat):Int:=if zT l i=3 then xB l i+1 else(i:Int)+1
def yV (l:List Tok)(i:Nat):Int:=if qF l i<l.length/\zT l (qF l i).toNat=6 then qF l i+1 else qF l i
theorem JI (l:List Tok):∀(f k:Nat) (op:Int),k<=l.length->0<l.length->0<=xG l f k op/\xG l f k op<l.length
 |0,k,op,_,h=>by simp only[xG];omega
 |f+1,k,op,a,h=>by
  simp only[xG];split;split;omega;exact JI l f (k+1) _ oa h;omega
end Ref
theorem ZG (l:List Tok)(i:Nat)(w:E)(h:jL w g off l)(y:l.length<=1000)(t:l.length<=cap)(u:i<l.length):Uh V 148 #[K (I ⟨g,off,U⟩) l.length cap,M J i] w λx B=>x=R (Ue #[M J (qF l i),M J (yV l i)])/\B=w:=by
 have L:=h.kind i u;have j:=ze h;clear h;by_cases f:zT l i=3
 .have s:(zT l i == 3)=G:=by simp[f]
  have p:=JI l (l.length+1-i) i 0 oa oa;obtain⟨c,m⟩:∃c:Nat,xB l i=(c:Int):=⟨(xB l i).toNat,by unfold xB;omega⟩
  have F:c<l.length:=by have:xB l i<l.length:=p.2;omega
  have a:H (qF l i=((c+1:Nat):Int)):=by show _=_;unfold qF;rw[IN f,m];omega
  have r:=ze m;clear f p m;go_enter func148,ntmps148;go_wp2_with fail;refine(zbX g off cap l i _ j y t oa).mono ?_;rintro e N ⟨rfl,q⟩;have z:=q.symm;subst z;clear q;rw[zb r];by_cases o:c+1<l.length
  .have v:=j.kind (c+1) o;by_cases b:zT l (c+1)=6
   ·(have k:(zT l (c+1) == 6)=G:=(by simp[b]);have d:H (yV l i=((c+1:Nat):Int)+1):=by show _=_;unfold yV;rw[zb a,zhm,IN ⟨oa,b⟩]);clear b;go_wp2_with fail;go_ret2;rw[zb d,zb a];exact⟨Z3 oa oa,rfl⟩
   (have k:(zT l (c+1) == 6)=Z:=(by simp[b]);have d:H (yV l i=((c+1:Nat):Int)):=by show _=_;unfold yV;rw[zb a,zhm,iN (by intro n;exact b n.2)]);clear b;go_wp2_with fail;go_ret2;rw[zb d,zb a];exact⟨Z3 oa oa,rfl⟩
  (have d:H (yV l i=((c+1:Nat):Int)):=by show _=_;unfold yV;rw[zb a,iN oa]);go_wp2_with fail;go_ret2;rw[zb d,zb a];exact⟨Z3 oa oa,rfl⟩
 have s:(zT l i == 3)=Z:=by simp[f]
 have a:H (qF l i=((i+1:Nat):Int)):=by show _=_;unfold qF;rw[iN f];omega
 clear f;go_enter func148,ntmps148;by_cases o:i+1<l.length
 .have v:=j.kind (i+1) o;by_cases b:zT l (i+1)=6
  ·(have k:(zT l (i+1) == 6)=G:=(by simp[b]);have d:H (yV l i=((i+1:Nat):Int)+1):=by show _=_;unfold yV;rw[zb a,zhm,IN ⟨oa,b⟩]);clear b;go_wp2_with fail;go_ret2;rw[zb d,zb a];exact⟨Z3 oa oa,rfl⟩
  (have k:(zT l (i+1) == 6)=Z:=(by simp[b]);have d:H (yV l i=((i+1:Nat):Int)):=by show _=_;unfold yV;rw[zb a,zhm,iN (by intro n;exact b n.2)]);clear b;go_wp2_with fail;go_ret2;rw[zb d,zb a];exact⟨Z3 oa oa,rfl⟩
 (have d:H (yV l i=((i+1:Nat):Int)):=by show _=_;unfold yV;rw[zb a,iN oa]);go_wp2_with fail;go_ret2;rw[zb d,zb a];exact⟨Z3 oa oa,rfl⟩
end
