/- The shelf's contracts of slices, laid at this program. -/
import Derived.Test.YtofeiledkmfnfaaGreatDoorYG
import Derived.Shelf.SlicesE.Compact
import Derived.Shelf.SlicesQ.IndexFunc
import Derived.Ground.SlgnProg
import Derived.Ground.SlgfProg
import Derived.Test.YtofeiledkmfnfaaGreatDoorYH
import Derived.LaidEql
import Derived.Stop.Asserts
import Derived.RowKitTokens
import Derived.KernelRfl
namespace Go.Proofs.YtofeiledkmfnfaaGreatDoor
open World renaming heap->A,cell?->B,cell?->dx,frozen?->dz,ownsRow->dA,alloc->dB,alloc->q,setCell->dC
open _root_.Array renaming size->X,size->dg,size->f
open Value renaming ownBlock->dH
open _root_.ByteArray renaming size->F,size->dJ
open List renaming replicate->dK
open Option renaming none->U,some->I
open Value renaming int->M,slice->K,bool->C,pointer->Ua,string->Uc,iface->Ud,tuple->Ue,agg->Uf,nilIface->Ui
open IntKind renaming i64->J,i32->Ug
open Bool renaming false->Z,true->G
open _root_.Go.Proofs.Tryz renaming prog->V
open Go renaming World->E,Value->Y,Calls->Uh
open Go.RowKit renaming Hid->H
open Or renaming inr->O,inl->Q
open Ending renaming returned->R
open Obj renaming cells->Ub
open Go.Instr renaming typeAssert->Uk
open Ts Ref Sm Cs TC Tw
open _root_.Go.Proofs.Tryz
open List renaming length->D
open List renaming length->Bc
set_option maxHeartbeats 4000000
set_option maxRecDepth 1000000
variable (g pb:Nat)(p:Int){n b:Nat}(s:Al)(h:Value)(e:Addr)(w:World){base:Nat}(v:Value){W:Am}{L:Ai}{rs:Ao}(a:Nat->Addr)(c:TypeId)(k:Nat)
section
open Go.RowKit Go.Shelf Go.Lib Go.Sort
def KM:Go.Shelf.Ren:=⟨fun|43=>119|n=>n,fun|22=>157|23=>21|3=>3|4=>4|0=>0|n=>n,fun|n=>n⟩
theorem zc8:Go.Proofs.SlLaysE.n43 V KM:={
 mixed:=om
 f43:=⟨Tryz.f119.name,od,func119.trans (congrArg I om)⟩
 t0:=underlying0
 a0:=Tryz.isAgg0
 z0:=Tryz.sizeOf0
 v0:=Tryz.zeroValue0
 t3:=underlying3
 a3:=Tryz.isAgg3
 z3:=Tryz.sizeOf3
 v3:=Tryz.zeroValue3
 t4:=underlying4
 a4:=Tryz.isAgg4
 z4:=Tryz.sizeOf4
 v4:=Tryz.zeroValue4
 t22:=underlying157
 a22:=Tryz.isAgg157
 z22:=Tryz.sizeOf157
 v22:=Tryz.zeroValue157
 a23:=Tryz.isAgg21
 z23:=Tryz.sizeOf21 }
def J0:Go.Shelf.Ren:=⟨fun|8=>61|6=>115|n=>n,fun|22=>145|23=>155|25=>161|4=>4|3=>3|0=>0|n=>n,fun|n=>n⟩
theorem zbr:Go.Proofs.SlLaysH0.n8 V J0:={
 mixed:=om
 f6:=⟨Tryz.f115.name,od,func115.trans (congrArg I om)⟩
 f8:=⟨Tryz.f61.name,od,func61.trans (congrArg I om)⟩
 t0:=underlying0
 a0:=Tryz.isAgg0
 z0:=Tryz.sizeOf0
 v0:=Tryz.zeroValue0
 t3:=underlying3
 a3:=Tryz.isAgg3
 z3:=Tryz.sizeOf3
 v3:=Tryz.zeroValue3
 t4:=underlying4
 a4:=Tryz.isAgg4
 z4:=Tryz.sizeOf4
 v4:=Tryz.zeroValue4
 t22:=underlying145
 a22:=Tryz.isAgg145
 z22:=Tryz.sizeOf145
 v22:=Tryz.zeroValue145
 t25:=underlying161
 a25:=Tryz.isAgg161
 z25:=Tryz.sizeOf161
 v25:=Tryz.zeroValue161 }
theorem zc9 {w:E}{a q:Nat}{d:Array Int}:zg (zr a) w (putRow (M Ug) (Sort.ahead w q) a 0 d):=by refine⟨rfl,rfl,rfl,ov,λk e b=>?_⟩;have c:k≠a:=b;unfold putRow mapBlock Sort.ahead;simp only[M1,Ne.symm c,if_false]
end
section
open Go.RowKit Go.Shelf
open Sm (Stp)
attribute [local go_sem] Oper.semAt_some
theorem wG:∀(a:List (Stp×Y)) (j:Nat) (z:Stp×Y),a[j]?=I z->(yN a)[j*5]?=I (M J (z.1.kind:Nat))/\(yN a)[j*5+1]?=I z.2/\(yN a)[j*5+2]?=I (M J z.1.asr)/\(yN a)[j*5+3]?=I (M J (z.1.next:Nat))/\(yN a)[j*5+4]?=I (M J (z.1.other:Nat))
 | [],j,z,h=>by simp at h
 |x :: a,0,z,h=>by simp at h;subst h;simp[yN]
 |x :: a,j+1,z,h=>by
  have:=wG a j z (by simpa using h);rw[show(j+1)*5=j*5+5 by omega];simpa [yN] using this
structure UK (w:E)(pb g cap:Nat)(Z:List (Stp×Y))(wv:Y):Prop where
 c0:B w ⟨pb,0,U⟩=I (K (I ⟨g,0,U⟩) (D Z) cap)
 c2:B w ⟨pb,2,U⟩=I wv
 le:D Z<=cap
 row:∀j u,(yN Z)[j]?=I u->B w ⟨g,j,U⟩=I u
 gl:g<X (A w)
abbrev AW:=Ap×Nat×Nat
def A9 (p:AW):Y:=K p.1 p.2.1 p.2.2
def Wd (p:AW):Array Y:=#[Uf #[A9 p]]
theorem zda (g cap c:Nat)(a:List (Stp×Y))(B:AW)(zs:List AW)(d:E)(h:UK d pb g cap a (A9 B))(N:dx d ⟨c,0,U⟩=I (Ua (I ⟨pb,0,U⟩)))(S:a.map Prod.snd=zs.map A9)(hl:D a<=1000)(n:Nat)(a9:1<=n):TO Fence.wide n V 120 #[Ua (I ⟨c,0,U⟩)] Wd (B :: zs) (λk=>k=c\/k=pb\/k=g) d:=by
 intro lp aE O0 W hO hD aP hJ F h0;have aU:=zic d _ N;have aX:=zic d _ h.c0;have aR:=h.gl;have b:H (kB (λk=>k=c\/k=pb\/k=g) d W O0):=kB.start (λk hk=>by obtain rfl|rfl|rfl:=hk;exact aU;exact aX;exact aR) hO hD;have aT:=(b.cell (p:=⟨c,0,U⟩) (Q rfl)).trans N;have ao:=(b.cell (p:=⟨pb,2,U⟩) (O (Q rfl))).trans h.c2;have HH:=zd h;have HJ:=zd hJ;have HY:=zd F;have HZ:=zd S;have a0:=hO.size;have ba:D zs=D a:=by have:=congrArg List.length S;simpa using this.symm
 have⟨fn,a1,assign,body,z,x⟩:=F [] O0 B W h0 ov;have⟨s,v,t⟩:=B;simp only[Wd,A9] at z ao;refine callsIn_of_wp func120 rfl trivial ?_ rfl;simp only[ntmps120,Cu,BH,Cc,Nat.reduceAdd,Nat.reduceSub,G9,He,G7,G8,Cd,Ci]
 gi_wp2
 refine x.mono ?_;rintro e W1 ⟨rfl,O1,ak,ap,an,aW⟩;have r:=zd ak;have w:=zd (b.yield ap an);have a7:=(w.cell (p:=⟨c,0,U⟩) (Q rfl)).trans N;have a8:=(w.cell (p:=⟨pb,0,U⟩) (O (Q rfl))).trans HH.c0
 gi_wp2
 gi_loopw [17] (λX wr=>∃(i:Nat) (m:Aj),X=M J i/\i<=D a/\H (aE (((s,v,t):AW) :: zs.take i) m wr)/\H (kB (λk=>k=c\/k=pb\/k=g) d wr m)) (λX _=>D a-(intOf X).toNat)
 case atStart=>exact⟨0,O1,rfl,oa,r,w⟩
 case round=>
  obtain⟨i,m,rfl,hi,r,b⟩:=hrel;by_cases aV:i<D a
  .have L:a[i]?=I a[i]:=AE aV;have⟨f0,f1,f2,f3,f4⟩:=wG a i _ L;have o:∀q u,(yN a)[q]?=I u->dx wr ⟨g,q,U⟩=I u:=λq u hq=>(b.cell (p:=⟨g,q,U⟩) (O (O rfl))).trans (HH.row q u hq);have c0:=o _ _ f0;have c1:=o _ _ f1;have c2:=o _ _ f2;have c3:=o _ _ f3;have c4:=o _ _ f4;obtain⟨⟨f,l,j⟩,aq⟩:∃q,zs[i]?=I q:=⟨_,AE (show i<D zs by omega)⟩
   (((have P:a[i].2=K f l j:=by have h1:(a.map Prod.snd)[i]?=(zs.map A9)[i]?:=(by rw[zb HZ]);rw[Bo,Bo,L,aq] at h1;simpa [A9] using h1);have T:zs[i]' oa=(f,l,j):=(by grind);have HP:H ((((s,v,t):AW) :: zs.take i++[(f,l,j)]) <+: (((s,v,t):AW) :: zs)):=by rw[Ci,<-T];exact(List.cons_prefix_cons).2 ⟨rfl,VX _ i oa⟩);have HT:H (((s,v,t):AW) :: zs.take i++[(f,l,j)]=((s,v,t):AW) :: zs.take (i+1)):=by rw[Ci,<-T,Z1 _ i oa];rfl);rw[P] at c1;generalize a[i]=y at *;have⟨⟨yk,yl,ya,yn,yo⟩,yv⟩:=y;simp only[] at P c0 c2 c3 c4;have al:=zb HJ _ m wr (dB wr (Ub #[M J (yk:Nat),K f l j,M J ya,M J (yn:Nat),M J (yo:Nat)] 155)) r ((zg.refl _ wr).alloc _);have ay:=zd (b.NU (W:=W) a0 (A':=dB wr (Ub #[M J (yk:Nat),K f l j,M J ya,M J (yn:Nat),M J (yo:Nat)] 155)) ((zg.refl _ wr).alloc _));have⟨fn,a1,assign,body,z,x⟩:=zb HY _ m (f,l,j) _ al HP;simp only[Wd,A9] at z;gi_wp2;refine x.mono ?_;rintro e W3 ⟨rfl,O',aO,aZ,aQ,a6⟩;have az:=zd (ay.yield aZ aQ);gi_wp2;exact⟨⟨i+1,O',Ae,oa,(by rw[<-zb HT];exact aO),az⟩,Ad⟩
  obtain rfl:i=D a:=by omega
  gi_wp2
  go_end0
  exact⟨⟨_,rfl⟩,m,by have:=zb r;rwa [FY oa] at this⟩
attribute [local go_sem] Oper.semAt_some
theorem zbs {F:Fence}{nF:Nat}{P:Program}(w:E){am:Array Oper}{rest:List Oper}{o:Oper}{a:Act}{Q:Exit->Act->E->Prop}(L:o.guard=U)(s x:Operand)(t:TypeId)(p:o.op=.call { callee:=.builtin .append,args:=#[s,x],argTypes:=#[t,t] })(base:Nat) (e:TypeId) (i:TypeInfo) (z:Y) (size bytes:Nat) (ht:P.underlying t=I (.slice e)) (N:P.info? e=I i) (hz:i.zero=I z)(X:i.size=size) (ag:i.bytes=bytes) (ak:z.cells.size=size) (ai:0<size)(v:Y) (n:Nat) (xs:An) (W:a.eval s=v) (q:dA w base e size v n xs)(ad:Addr) (m c:Nat) (f:An) (hx:a.eval x=K (I ad) m c) (S:D f=m*size) (T:∀j u,f[j]?=I u->dx w (ad.add j)=I u) (h1:∀u∈f,u.oneCell'=G)(_hm:0<m) (ae:n+m<=maxLen) (ah:(n+m)*bytes<=140737488355328) (af:base<=dg (A w))(h:∀l b,b.ownsRow base e size l (n+m) (xs++f)->w.grownBy b (dH v)->(∀k,dH l=I k->dH v=I k\/dg (A w)<=k)->wpListIn F nF P am Q rest (a.put o.dst l) b):wpListIn F nF P am Q (o :: rest) a w:=by
 have aq:∀b row,w.grownBy b U->w.grownBy b row:=λb row g=>⟨g.os,g.tape,g.output,g.size,λk d _=>g.block k d ov⟩
 obtain⟨rfl,rfl⟩|⟨g,y,az,rfl,aA,hg,aE,aB,aC,aG⟩:=q.2;have av:xs=[]:=Cb (by simpa using q.1);subst av;exact wpListIn_append_own w L s x t p (dg (A w)) e i z size bytes ht N hz X ag ak ai _ 0 [] W (A0 _ _ _ _) ad m c f hx S T h1 ae ah (AD _) (λl b r B _=>h l b (zL r af) B (λk d=>O (r.lt k d).1));by_cases ar:n+m<=y;exact wpListIn_append_fits w L s x t p base e i size ht N X g n y xs W q ad m c f hx S T h1 ar (λb r B=>h _ b r B (λk d=>.inl d));refine wpListIn_plain L λax ao=>?_;have⟨l,b,au,r1,r2⟩:=run_append_arg_grows (P:=P) w t o.type e i z size bytes ht N hz X ag ak ai ⟨g,0,U⟩ n y xs q.1 (q.cells (g:=g) rfl) ad m c f S T oa ae ah;unfold Oper.wpIn;refine⟨?_,?_⟩;simp[Oper.about,p,resolve,Target.leads,Sem.run_pure];rw[Oper.semAt_plain F _ _ (by rw[p];intro c ap;cases ap)];simp[execOp,p,resolve,invoke,builtin,W,hx,au,Result.andThen];exact ao _ _ (h l b (zL r1 af) (aq _ _ r2) (λk d=>O (r1.lt k d).1))
theorem Tryz.Pr:(prog.info? 21).map (λi=>(i.zero,i.size,i.bytes))=I (I (M Ug 0),1,4):=om
def qj (a:Ar):An:=a.map (M Ug)
theorem J1 (a b:Ar):qj (a++b)=qj a++qj b:=by simp[qj]
abbrev Mr:=Nat×AW×Int×Nat×Nat
def Xu (x:Mr):An:=[M J (x.1:Nat),A9 x.2.1,M J x.2.2.1,M J (x.2.2.2.1:Nat),M J (x.2.2.2.2:Nat)]
def Cy (x:Mr):Bool:=decide (x.1=2) && (decide (x.2.2.1=2) ||decide (x.2.2.1=3))
theorem Fi (x:Mr)(w:E):Uh V 62 #[Uf (Xu x).toArray] w λe j=>e=R (C (Cy x))/\zke w j:=by
 have⟨k,⟨g,i,h⟩,a,n,o⟩:=x;unfold Xu Cy A9;simp only[];have b:H (zke w (w.alloc (Ub #[M J (k:Nat),K g i h,M J a,M J (n:Nat),M J (o:Nat)] 155))):=Ag;by_cases f:k=2
 .subst f;by_cases c:a=2
  .subst c;go_enter func62,ntmps62;go_wp2;go_ret;exact⟨ov,b⟩
  have l:(a == 2)=Z:=(by simp[c]);by_cases d:a=3
  .subst d;go_enter func62,ntmps62;go_wp2;go_ret;exact⟨ov,b⟩
  have m:(a == 3)=Z:=(by simp[d]);go_enter func62,ntmps62;go_wp2;go_ret;exact⟨by simp[c,d],b⟩
 have p:((k:Int) == 2)=Z:=by simp;omega
 go_enter func62,ntmps62;go_wp2;go_ret;exact⟨by simp[f],b⟩
theorem zdb:Uh V 65 #[Ua (I ⟨pb,0,U⟩)] w λe b=>∃v,e=R v/\∃a,v=.func (.func 120) #[] #[Ua (I ⟨a,0,U⟩)]/\X (A w)<=a/\B b ⟨a,0,U⟩=I (Ua (I ⟨pb,0,U⟩))/\zke w b:=by
 have c:H (∃a,Value.func (.func 120) #[] #[Ua (I ⟨X (A w),0,U⟩)]=.func (.func 120) #[] #[Ua (I ⟨a,0,U⟩)]/\X (A w)<=a/\(q w (Ub #[Ua (I ⟨pb,0,U⟩)] 64)).cell? ⟨a,0,U⟩=I (Ua (I ⟨pb,0,U⟩))/\zke w (q w (Ub #[Ua (I ⟨pb,0,U⟩)] 64))):=⟨_,rfl,AD _,zj w _ rfl _ _ 0 _ rfl,Ag⟩
 go_enter func65,ntmps65;go_wp2;go_ret;exact⟨_,rfl,c⟩
structure vh (w V:E)(pb g cap st:Nat)(Z:List (Stp×Y))(ws:AW)(W:Am):Prop where
 at':UK V pb g cap Z (A9 ws)
 c1:B V ⟨pb,1,U⟩=I (M J (st:Nat))
 c3:∃u,B V ⟨pb,3,U⟩=I u
 f2:dz V ⟨pb,2,U⟩=false
 f3:dz V ⟨pb,3,U⟩=false
 sets:∀z∈Z,xo V (λk=>X (A w)<=k/\k≠pb) (Uf #[z.2]) (jQ z.1)
 word:xo V (λk=>X (A w)<=k/\k≠pb) (Uf #[A9 ws]) W
 own:X (A w)<=pb/\X (A w)<=g/\g≠pb
 only:zke w V
theorem vh.pl {w a:E}{pb g cap st:Nat}{b:List (Stp×Y)}{c:AW}{W:Am}(h:vh w a pb g cap st b c W):pb<X (A a):=zic _ _ h.c1
theorem vh.keep {w b c:E}{pb g cap st:Nat}{i:List (Stp×Y)}{l:AW}{W:Am}(h:vh w b pb g cap st i l W)(k:zke b c):vh w c pb g cap st i l W:=by
 have d:=h.pl;have⟨u,m⟩:=h.c3;have a:∀o u,B b ⟨pb,o,U⟩=I u->B c ⟨pb,o,U⟩=I u:=λo u e=>(k.cell (p:=⟨pb,o,U⟩) d id).trans e;exact⟨⟨a _ _ h.at'.c0,a _ _ h.at'.c2,h.at'.le,λj u e=>(k.cell (p:=⟨g,j,U⟩) h.at'.gl id).trans (h.at'.row j u e),AM h.at'.gl k.size⟩,a _ _ h.c1,⟨u,a _ _ m⟩,
  (k.frozen (p:=⟨pb,2,U⟩) d id).trans h.f2,(k.frozen (p:=⟨pb,3,U⟩) d id).trans h.f3,λz n=>(h.sets z n).keep k (λ_ _ f=>f),h.word.keep k (λ_ _ f=>f),h.own,h.only.trans k⟩
theorem vh.setOther {w a:E}{pb g cap st:Nat}{c:List (Stp×Y)}{d:AW}{W:Am}(h:vh w a pb g cap st c d W)(u:Y):vh w (a.setCell ⟨pb,3,U⟩ u) pb g cap st c d W:=by
 have k:zg (λk=>k=pb) a (a.setCell ⟨pb,3,U⟩ u):=(zg.refl (λk=>k=pb) a).setCell (p:=⟨pb,3,U⟩) (Q rfl) _;have⟨u3,i⟩:=h.c3;have f:=h.own.2.2;exact⟨⟨(AN _ _ _ _ ov).trans h.at'.c0,(AN _ _ _ _ ov).trans h.at'.c2,h.at'.le,λj u e=>(k.cell (p:=⟨g,j,U⟩) h.at'.gl f).trans (h.at'.row j u e),AM h.at'.gl k.size⟩,(AN _ _ _ _ ov).trans h.c1,⟨u,AX _ _ _ i⟩,
  (zl _ _ _ _).trans h.f2,(zl _ _ _ _).trans h.f3,λz l=>(h.sets z l).keep k (λ_ b e=>b.2 e),h.word.keep k (λ_ b e=>b.2 e),h.own,h.only.setCell (p:=⟨pb,3,U⟩) (O h.own.1) u⟩
theorem vh.PQ {w a:E}{pb g cap st:Nat}{c:List (Stp×Y)}{m ws':AW}{W W':Am}(h:vh w a pb g cap st c m W)(f:xo a (λk=>X (A w)<=k/\k≠pb) (Uf #[A9 ws']) W'):vh w (a.setCell ⟨pb,2,U⟩ (A9 ws')) pb g cap st c ws' W':=by
 have k:zg (λk=>k=pb) a (a.setCell ⟨pb,2,U⟩ (A9 ws')):=(zg.refl (λk=>k=pb) a).setCell (p:=⟨pb,2,U⟩) (Q rfl) _;have⟨u3,i⟩:=h.c3;have d:=h.own.2.2;exact⟨⟨(AN _ _ _ _ ov).trans h.at'.c0,AX _ _ _ h.at'.c2,h.at'.le,λj u e=>(k.cell (p:=⟨g,j,U⟩) h.at'.gl d).trans (h.at'.row j u e),AM h.at'.gl k.size⟩,(AN _ _ _ _ ov).trans h.c1,⟨u3,(AN _ _ _ _ ov).trans i⟩,
  (zl _ _ _ _).trans h.f2,(zl _ _ _ _).trans h.f3,λz l=>(h.sets z l).keep k (λ_ b e=>b.2 e),f.keep k (λ_ b e=>b.2 e),h.own,h.only.setCell (p:=⟨pb,2,U⟩) (O h.own.1) _⟩
theorem Np {w:E}{A:Aj}{x:Y}{S:Am}(h:xo w A (Uf #[x]) S):∃p:AW,x=A9 p:=by have⟨e,d,b,a,_⟩:=h;simp at b;subst b;obtain⟨a,_⟩|⟨g,c,a,_⟩:=a;exact⟨(U,0,0),a⟩;exact⟨(_,_,_),a⟩
theorem LW {w:E}{A:Aj}:∀(a:List (Stp×Y)),(∀z∈a,xo w A (Uf #[z.2]) (jQ z.1))->∃zs:List AW,a.map Prod.snd=zs.map A9
 | [],_=>⟨[],rfl⟩
 |z :: a,h=>by
  have⟨zs,e⟩:=LW a (λy c=>h y (Bm _ c));have⟨p,b⟩:=Np (h z A8);exact⟨p :: zs,by simp[e,b]⟩
theorem vh.spans {w a:E}{pb g cap st:Nat}{b:List (Stp×Y)}{e:AW}{W:Am}{zs:List AW}(h:vh w a pb g cap st b e W)(m:b.map Prod.snd=zs.map A9):∀p∈e :: zs,∃l A,yM a A (A9 p) l/\zQ l:=by
 have one:∀(p:AW) (S:Am),xo a (λk=>X w.heap<=k/\k≠pb) (Uf #[A9 p]) S->∃l A,yM a A (A9 p) l/\zQ l:=λp S j=>by have⟨r,q,d,f,i,_⟩:=j;simp at d;subst d;exact⟨q,_,f,i⟩
 intro p c;obtain rfl|c:=BZ.1 c;exact one _ _ h.word;have:A9 p∈b.map Prod.snd:=by rw[m];exact Im c
 have⟨z,o,n⟩:=Cf.1 this;exact one p _ (n ▸ h.sets z o)
theorem vh.prog {w c:E}{pb g cap st:Nat}{a:List (Stp×Y)}{e:AW}{W:Am}(h:vh w c pb g cap st a e W)(n:D a<=300)(m:∀(k:Nat) s,(AJ a)[k]?=I s->s.next<(AJ a).length/\s.other<(AJ a).length)(o:st<(AJ a).length):qW c (λk=>X (A w)<=k) pb (AJ a) st W:=by refine⟨h.own.1,⟨g,cap,by rw[yd];exact h.at'.c0,h.own.2.1,by rw[yd];exact h.at'.le,λk s b=>?_⟩,h.c1,⟨A9 e,h.at'.c2,h.word.mono (λ_ _ h=>h.1)⟩,by rw[yd];exact n,m,o⟩;unfold AJ at b;rw[Bo] at b;obtain⟨z,d,rfl⟩:=Cj.1 b;have⟨f,f1,i,j,l⟩:=wG a k z d;exact⟨h.at'.row _ _ f,⟨z.2,h.at'.row _ _ f1,(h.sets z (Bg d)).mono (λ_ _ h=>h.1)⟩,h.at'.row _ _ i,h.at'.row _ _ j,h.at'.row _ _ l⟩
end
section
open Go.RowKit Go.Shelf Go.Lib
open Sm (Stp Tree yI)
def LX:Y->AW
 | K a n c=>(a,n,c)
 |_=>(U,0,0)
def We (z:Stp×Y):Mr:=(z.1.kind,LX z.2,z.1.asr,z.1.next,z.1.other)
def Cp (s:Stp):Bool:=decide (s.kind=2) && (decide (s.asr=2) ||decide (s.asr=3))
theorem Wf (a:List (Stp×Y))(g cap:Nat)(c:E)(P:∀z∈a,∃p:AW,z.2=A9 p)(d:∀j u,(yN a)[j]?=I u->dx c ⟨g,j,U⟩=I u)(B:g<X (A c))(T:D a<=1000):Uh V 61 #[K (I ⟨g,0,U⟩) (D a) cap,.func (.func 62) #[] #[]] c λe l=>e=R (C (a.any (λz=>Cp z.1)))/\zke c l:=by
 have y:∀j,j<(a.map We).length->∀i v,(Xu (a.map We)[j]!)[i]?=I v->dx c ⟨g,0+j*5+i,U⟩=I v:=by
  intro j h i v b;have k:j<D a:=by simpa using h
  have F:a[j]?=I a[j]:=AE k;have⟨p,L⟩:=P a[j] (BO k);have⟨o,f1,q,r,s⟩:=wG a j _ F;have e:(a.map We)[j]! = We a[j]:=by rw[getElem!_pos _ j h];simp
  rw[e] at b;have m:Xu (We a[j])=[M J (a[j].1.kind:Nat),a[j].2,M J a[j].1.asr,M J (a[j].1.next:Nat),M J (a[j].1.other:Nat)]:=by
   unfold Xu We;simp only[];rw[L];rfl
  rw[m] at b;rw[Bv]
  match i,b with
  |0,b=>simp at b;subst b;exact d _ _ o
  |1,b=>simp at b;subst b;exact d _ _ f1
  |2,b=>simp at b;subst b;exact d _ _ q
  |3,b=>simp at b;subst b;exact d _ _ r
  |4,b=>simp at b;subst b;exact d _ _ s
  |n+5,b=>simp at b
 have N:PredBelow V 62 #[] (λx:Mr=>Uf (Xu x).toArray) Cy c:=λW x f=>by have:=Fi x W;refine Calls.mono (by simpa using this) ?_;rintro e S ⟨rfl,t⟩;exact⟨rfl,f.trans (t.below.mono f.size)⟩
 refine(AnyQ.slices_ContainsFunc zbr 5 (λw=>om) (λw=>om) Xu (λx=>by simp[Xu]) Cy 62 #[] (enters_of func62 om rfl) g 0 (D a) cap (a.map We) c N ov oa B y).mono ?_;rintro e S ⟨rfl,f⟩;refine⟨?_,zg.ON f⟩;rw[FY ov,List.any_map];rfl
theorem zdc {w a:E}{st:Nat}{b:List (Stp×Y)}{c:Y}(t:jw a (dg (A w)) b)(o:dx a ⟨dg (A w),0,U⟩=I c)(aa:0<D b)(i:zke w a):∃g cap,c=K (I ⟨g,0,U⟩) (D b) cap/\vh w (q a (Ub #[c,M J (st:Nat),K U 0 0,K U 0 0] 159)) (dg (A a)) g cap st b (U,0,0) (λ_=>Z):=by have⟨S,r,e,s⟩:=t.ex;obtain rfl:c=S:=Bz (o.symm.trans r);have N:=i.size;have k:zke a (q a (Ub #[c,M J (st:Nat),K U 0 0,K U 0 0] 159)):=Ag;have v:=λg=>zh e g;obtain⟨rfl,m⟩|⟨g,cap,n,rfl,T,x,L,W,X,P⟩:=e.2;omega;have y:=(v g rfl).2;refine⟨g,cap,rfl,⟨zj a _ rfl _ _ 0 _ rfl,zj a _ rfl _ _ 2 _ rfl,L,λj u l=>?_,by simp;omega⟩,zj a _ rfl _ _ 1 _ rfl,⟨_,zj a _ rfl _ _ 3 _ rfl⟩,zt a _ rfl _ _ 2,zt a _ rfl _ _ 3,λz m=>?_,xo.none _ _ _ (λ_=>rfl),⟨N,oa,oa⟩,i.trans k⟩;refine(k.cell (p:=⟨g,j,U⟩) y id).trans ?_;have F:j<D b*5:=(by have:=(AK.1 l).1;rwa [zcY] at this);have d:(n.toList.take (D b*5))[j]?=(yN b)[j]?:=(by rw[P]);rw[MF F,l] at d;unfold dx;rw[x];simpa using d;exact((s z m).mono (B:=λk=>dg (A w)<=k/\k≠dg (A a)) (λq hq h=>⟨oa,oa⟩)).keep k (λ_ _ f=>f)
end
section
open Go.RowKit
open Sm (Stp Tree)
variable {w v}
theorem qM.get (h:qM w v L){k:Nat}(a:k<D L):∃g cap i,v=K (I ⟨g,0,U⟩) (D L) cap/\(D L)<=cap/\B w ⟨g,k*2,U⟩=I (M J i)/\B w ⟨g,k*2+1,U⟩=I (M Ug (zi L k)):=by obtain⟨_,rfl⟩|⟨g,cap,b,c,d⟩:=h;simp at a;have⟨e,f⟩:=d k L[k] (AE a);exact⟨g,cap,_,b,c,e,by rw[Vn a];exact f⟩
theorem qM.slice (h:qM w v L):∃a c,v=K a (D L) c:=by obtain⟨rfl,rfl⟩|⟨g,d,b,_⟩:=h;exact⟨_,_,rfl⟩;exact⟨_,_,b⟩
structure qg (W:E)(b:Nat)(x y z u:Bool):Prop where
 k0:B W ⟨b,0,U⟩=I (C x)
 k1:B W ⟨b,1,U⟩=I (C y)
 k2:B W ⟨b,2,U⟩=I (C z)
 k3:B W ⟨b,3,U⟩=I (C u)
 f0:dz W ⟨b,0,U⟩=Z
 f1:dz W ⟨b,1,U⟩=Z
 f2:dz W ⟨b,2,U⟩=Z
 f3:dz W ⟨b,3,U⟩=Z
theorem qg.keep {W W':E}{b:Nat}{x y z u:Bool}(h:qg W b x y z u)(k:zke W W'):qg W' b x y z u:=by have a:b<X (A W):=zic W ⟨b,0,U⟩ h.k0;exact⟨zf k _ _ h.k0 id,zf k _ _ h.k1 id,zf k _ _ h.k2 id,zf k _ _ h.k3 id,zp k _ a h.f0 id,zp k _ a h.f1 id,zp k _ a h.f2 id,zp k _ a h.f3 id⟩
theorem qg.new (W:E)(n:Nat)(a:X (A W)=n)(x y z u:Bool)(T:TypeId):qg (q W (Ub #[C x,C y,C z,C u] T)) n x y z u:=
 ⟨zj W n a _ T 0 _ rfl,zj W n a _ T 1 _ rfl,zj W n a _ T 2 _ rfl,zj W n a _ T 3 _ rfl,zt W n a _ T 0,zt W n a _ T 1,zt W n a _ T 2,zt W n a _ T 3⟩
theorem qg.set2 {W:E}{b:Nat}{x y z u:Bool}(h:qg W b x y z u)(v:Bool):qg (W.setCell ⟨b,2,U⟩ (C v)) b x y v u:=
 ⟨by rw[AN _ _ _ _ ov];exact h.k0,by rw[AN _ _ _ _ ov];exact h.k1,World.cell?_setCell_same' _ _ _ (by rw[h.k2];rfl),by rw[AN _ _ _ _ ov];exact h.k3,by rw[CI];exact h.f0,by rw[CI];exact h.f1,by rw[CI];exact h.f2,by rw[CI];exact h.f3⟩
theorem qg.other {W:E}{b c o:Nat}{x y z u:Bool}(h:qg W b x y z u)(a:c≠b)(v:Y):qg (dC W ⟨c,o,U⟩ v) b x y z u:=by have e:∀k,(dC W ⟨c,o,U⟩ v).cell? ⟨b,k,U⟩=B W ⟨b,k,U⟩:=λk=>AN _ _ _ _ (by intro e;simp only[Addr.mk.injEq] at e;exact a e.1);exact⟨by rw[e];exact h.k0,by rw[e];exact h.k1,by rw[e];exact h.k2,by rw[e];exact h.k3,by rw[CI];exact h.f0,by rw[CI];exact h.f1,by rw[CI];exact h.f2,by rw[CI];exact h.f3⟩
theorem Jl {A:Aj}{W:Am}{pb g k:Nat}{c:Int}{a:Y}(l:B w ⟨pb,2,U⟩=I a)(m:B w ⟨g,k*2+1,U⟩=I (M Ug c))(o:∀W',zke w W'->xo W' A (Uf #[a]) W)(X W':E)(h:zke w X)(d:zke X W'):Uh V 144 #[Uf #[a],M Ug c] W' λe b=>e=R (C (W c))/\zke X b/\B b ⟨pb,2,U⟩=I a/\B b ⟨g,k*2+1,U⟩=I (M Ug c):=by refine(Nr _ W c A _ (o _ (h.trans d))).mono ?_;rintro e b ⟨rfl,n⟩;have i:=d.trans n;have j:=h.trans i;exact⟨rfl,i,zf j _ _ l id,zf j _ _ m id⟩
theorem zeR (st i:Nat)(N:Aq)(W:Am)(L:Ai)(v:Y)(A:Aj)(w:E)(hP:qW w A pb N st W)(hL:qM w v L)(hi:i<=D L)(hl:D L<=400):Uh V 97 #[Ua (I ⟨pb,0,U⟩),v,M J i] w λx d=>x=R (Uf #[C (decide (i=0)),C (decide (i=D L)),C (Co W L i),C (Cq W L i)])/\zke w d:=by
 have⟨sv,F,aD⟩:=hP.c2;have z:H (∀W',zke w W'->xo W' A (Uf #[sv]) W):=λW' k=>aD.keep k (λ_ _ f=>f);clear hP aD;have a3:pb<dg w.heap:=zic w ⟨pb,2,U⟩ F;have aR:∃a n c,sv=K a n c:=by have⟨a7,sp,e,h,_⟩:=zb z w (zg.refl _ _);simp at e;subst e;obtain⟨h,_⟩|⟨g,ap,h,_⟩:=h<;>exact⟨_,_,_,h⟩
 obtain⟨P,T,S,rfl⟩:=aR;obtain⟨va,vc,rfl⟩:=hL.slice;have HL:=zd hL;clear hL;unfold Co Cq;have hz:(decide (i=0))=((i:Int) == 0):=by grind
 have he:(decide (i=D L))=((i:Int) == (D L:Int)):=by grind
 have aG:(decide (i≠0)) = !((i:Int) == 0):=by rw[<-hz];simp
 have aB:(decide (i≠(D L))) = !((i:Int) == (D L:Int)):=by rw[<-he];simp
 rw[hz,he,aG,aB];clear hz he aG aB;by_cases h0:i=0
 .have B:((i:Int) == 0)=G:=by simp;omega
  by_cases h:i=D L
  ·(have o:((i:Int) == (D L:Int))=G:=ou;rw[B,o];have aO:D L<=i:=oa;have aP:i<=0:=oa;clear h0 h;go_enter func97,ntmps97;go_wp2_with fail;refine bodyPost_ret (v:=Uf #[C G,C G,C Z,C Z]) (by simp[results,results97,go_sem]) rfl ?_;refine⟨rfl,?_⟩;repeat refine zg.setCell ?_ (Or.inr ov) _);exact(Ag.alloc _)
  have o:((i:Int) == (D L:Int))=Z:=ou;rw[B,o];have⟨g,ap,x0,l,aA,d1,j⟩:=HL.get (k:=i) oa;simp at l;obtain⟨rfl,rfl⟩:=l;have aC:g<dg w.heap:=zic w _ j;have aQ:i<D L:=oa;have aP:i<=0:=oa;clear h0 h;go_enter func97,ntmps97;go_wp2_with fail;have y:=zd (Jl (k:=i) (A:=A) (W:=W) F j z);go_region_held3(λd=>dx d ⟨pb,2,U⟩=I (K P T S)/\dx d ⟨g,(i)*2+1,U⟩=I (M Ug (zi L (i)))) (first|go_keep|(refine⟨?_,?_⟩<;>(rw[AN _ _ _ _ (by intro e;simp only[Addr.mk.injEq] at e;omega)];assumption)))
   (first|(go_at_call 144;refine(zb y _ _ (Ag.alloc _) Ah).mono ?_;rintro e X ⟨rfl,b,z0,z1⟩;have m:=zd ((Ag.alloc _).trans b);have t:=zd ((qg.new _ (dg w.heap+1) ov _ _ _ _ _).keep b);have⟨k0,k1,k2,k3,f0,f1,f2,f3⟩:=zb t;have u:=zd (((qg.new w w.heap.size rfl _ _ _ _ _).keep Ag).keep b);have⟨p,q,r,s,q0,q1,q2,q3⟩:=zb u;clear b))
  (go_wp2_with fail;refine bodyPost_ret (v:=Uf #[C G,C Z,C Z,C (W (zi L i))]) (by simp[results,results97,go_sem,p,q,r,s]) rfl ?_;refine⟨rfl,?_⟩;repeat refine zg.setCell ?_ (Or.inr ov) _);exact m
 obtain⟨k,rfl⟩:∃k,i=k+1:=⟨i-1,oa⟩
 rw[show k+1-1=k by omega];simp only[FH,It];have B:((k:Int)+1 == 0)=Z:=by simp;omega
 have aY:(0:Int)<=(k:Int):=oa;have aZ:(k:Int)<(D L:Int):=oa;have a5:IntKind.i64.wrap ((k:Int)+1-1)=(k:Int):=by rw[show(k:Int)+1-1=(k:Int) by omega];exact xF _ oa oa
 have a4:IntKind.i64.wrap (k:Int)=(k:Int):=xF _ oa oa;by_cases h:k+1=D L
 .have o:((k:Int)+1 == (D L:Int))=G:=ou;rw[B,o];have⟨g,ap,x0,l,aA,d1,j⟩:=HL.get (k:=k) oa;simp at l;obtain⟨rfl,rfl⟩:=l;have aC:g<dg w.heap:=zic w _ j;have aO:D L<=k+1:=oa;clear h0 h;go_enter func97,ntmps97;go_wp2_with fail;have y:=zd (Jl (k:=k) (A:=A) (W:=W) F j z);go_region_held3(λd=>dx d ⟨pb,2,U⟩=I (K P T S)/\dx d ⟨g,k*2+1,U⟩=I (M Ug (zi L k))) (first|go_keep|(refine⟨?_,?_⟩<;>(rw[AN _ _ _ _ (by intro e;simp only[Addr.mk.injEq] at e;omega)];assumption)))
   (first|(go_at_call 144;refine(zb y _ _ (Ag.alloc _) Ah).mono ?_;rintro e X ⟨rfl,b,z0,z1⟩;have m:=zd ((Ag.alloc _).trans b);have t:=zd ((qg.new _ (dg w.heap+1) ov _ _ _ _ _).keep b);have⟨k0,k1,k2,k3,f0,f1,f2,f3⟩:=zb t;have u:=zd (((qg.new w w.heap.size rfl _ _ _ _ _).keep Ag).keep b);have⟨p,q,r,s,q0,q1,q2,q3⟩:=zb u;clear b))
  (go_wp2_with fail;refine bodyPost_ret (v:=Uf #[C Z,C G,C (W (zi L k)),C Z]) (by simp[results,results97,go_sem,p,q,r,s]) rfl ?_;refine⟨rfl,?_⟩;repeat refine zg.setCell ?_ (Or.inr ov) _);exact m
 have o:((k:Int)+1 == (D L:Int))=Z:=ou;rw[B,o];have⟨g,ap,x0,l,aA,d1,j⟩:=HL.get (k:=k) oa;simp at l;obtain⟨rfl,rfl⟩:=l;have aC:g<dg w.heap:=zic w _ j;have⟨g2,aU,x2,aE,_,e1,e2⟩:=HL.get (k:=k+1) oa;simp at aE;obtain⟨rfl,rfl⟩:=aE;have aQ:k+1<D L:=oa;have a0:(0:Int)<=(k:Int)+1:=oa;have a1:(k:Int)+1<(D L:Int):=oa;clear h0 h;go_enter func97,ntmps97;go_wp2_with fail;have y:=zd (Jl (k:=k) (A:=A) (W:=W) F j z);go_region_held3(λd=>dx d ⟨pb,2,U⟩=I (K P T S)/\dx d ⟨g,k*2+1,U⟩=I (M Ug (zi L k))) (first|go_keep|(refine⟨?_,?_⟩<;>(rw[AN _ _ _ _ (by intro e;simp only[Addr.mk.injEq] at e;omega)];assumption)))
  (first|(go_at_call 144;refine(zb y _ _ (Ag.alloc _) Ah).mono ?_;rintro e X ⟨rfl,b,z0,z1⟩;have m:=zd ((Ag.alloc _).trans b);have t:=zd ((qg.new _ (dg w.heap+1) ov _ _ _ _ _).keep b);have⟨k0,k1,k2,k3,f0,f1,f2,f3⟩:=zb t;have u:=zd (((qg.new w w.heap.size rfl _ _ _ _ _).keep Ag).keep b);have⟨p,q,r,s,q0,q1,q2,q3⟩:=zb u;clear b))
 (go_wp2_with fail;have aN:=zd (Jl (k:=k+1) (A:=A) (W:=W) F e2 z);have z2:(X.setCell ⟨dg w.heap+1,2,U⟩ (C (W (zi L k)))).drew.cell? ⟨g,(k+1)*2+1,U⟩=I (M Ug (zi L (k+1))):=by show(X.setCell ⟨dg w.heap+1,2,U⟩ (C (W (zi L k)))).cell? _=_;rw[AN _ _ _ _ (by intro e;simp only[Addr.mk.injEq] at e;omega)];exact zf m _ _ e2 id);have z3:(X.setCell ⟨dg w.heap+1,2,U⟩ (C (W (zi L k)))).drew.cell? ⟨pb,2,U⟩=I (K P T S):=(by simp_all);clear y z1 z0;go_region_held3(λd=>dx d ⟨pb,2,U⟩=I (K P T S)/\dx d ⟨g,(k+1)*2+1,U⟩=I (M Ug (zi L (k+1)))) (first|exact⟨z3,z2⟩|go_keep|(refine⟨?_,?_⟩<;>(rw[AN _ _ _ _ (by intro e;simp only[Addr.mk.injEq] at e;omega)];assumption)))
  (first|(go_at_call 144;refine(zb aN _ _ (m.setCell (O ov) _) Ah).mono ?_;rintro e w2 ⟨rfl,af,y0,y1⟩;have aJ:=zd ((m.setCell (O ov) _).trans af);have aK:=zd ((t.set2 _).keep af);have aL:=zd ((u.other oa _).keep af);clear k0 k1 k2 k3 f0 f1 f2 f3 p q r s q0 q1 q2 q3;have⟨k0,k1,k2,k3,f0,f1,f2,f3⟩:=zb aK;have⟨p,q,r,s,q0,q1,q2,q3⟩:=zb aL;clear af))
 (go_wp2_with fail;refine bodyPost_ret (v:=Uf #[C Z,C Z,C (W (zi L k)),C (W (zi L (k+1)))]) (by simp[results,results97,go_sem,p,q,r,s]) rfl ?_;refine⟨rfl,?_⟩;repeat refine zg.setCell ?_ (Or.inr ov) _);exact aJ
def jj (w:E)(v:Y)(rs:Ao):Prop:=(v=K U 0 0/\rs=[])\/∃g b,v=K (I ⟨g,0,U⟩) (D rs) b/\(D rs)<=b/\∀(j:Nat) a,rs[j]?=I a->B w ⟨g,j,U⟩=I (M J (a:Nat))
theorem jj.keep {b:E}{v:Y}{rs:Ao}(h:jj w v rs)(k:zke w b):jj b v rs:=by obtain h|⟨g,c,d,e,i⟩:=h;exact Q h;exact O ⟨g,c,d,e,λj a l=>zf k _ _ (i j a l) id⟩
theorem jj.slice (h:jj w v rs):∃a c,v=K a (D rs) c:=by obtain⟨rfl,rfl⟩|⟨g,d,b,_⟩:=h;exact⟨_,_,rfl⟩;exact⟨_,_,b⟩
theorem jj.get {a:Ap}{c:Nat}{rs:Ao}(h:jj w (K a (D rs) c) rs){k:Nat}(b:k<D rs):∃g,a=I ⟨g,0,U⟩/\(D rs)<=c/\B w ⟨g,k,U⟩=I (M J (rs[k]:Nat)):=by
 obtain⟨_,h⟩|⟨g,d,e,f,i⟩:=h;rw[h] at b;simp at b
 grind
namespace TC
def qJ (N:Aq)(c:Int)(a:Nat):Option Nat:=match N[a]? with
 |some s=>if jQ s c=G then I s.next else U
 |none=>U
def xZ (N:Aq)(c:Int)(rs:Ao):Ao:=rs.filterMap (qJ N c)
theorem zhg {N:Aq}{c:Int}{rs:Ao}{n:Nat}{s:Stp}(a:n<D rs)(d:N[rs[n]]?=I s)(b:jQ s c=G):xZ N c (rs.take (n+1))=xZ N c (rs.take n)++[s.next]:=by
 have e:qJ N c rs[n]=I s.next:=by simp[qJ,d,b]
 unfold xZ;rw[FK,AE a,List.filterMap_append];show _++List.filterMap (qJ N c) [rs[n]]=_;simp[e]
theorem zdd {N:Aq}{c:Int}{rs:Ao}{n:Nat}{s:Stp}(a:n<D rs)(d:N[rs[n]]?=I s)(b:jQ s c=Z):xZ N c (rs.take (n+1))=xZ N c (rs.take n):=by
 have e:qJ N c rs[n]=U:=by simp[qJ,d,b]
 unfold xZ;rw[FK,AE a,List.filterMap_append];show _++List.filterMap (qJ N c) [rs[n]]=_;simp[e]
theorem X7 (N:Aq)(c:Int)(rs:Ao):(xZ N c rs).length<=D rs:=List.length_filterMap_le _ _
theorem J2 {N:Aq}{c:Int}{rs:Ao}{b:Nat}:b∈xZ N c rs↔∃a∈rs,∃s,N[a]?=I s/\jQ s c=G/\b=s.next:=by
 unfold xZ;rw[List.mem_filterMap];constructor
 .rintro⟨a,d,h⟩;unfold qJ at h;split at h
  grind
  cases h
 rintro⟨a,d,s,f,e,rfl⟩;exact⟨a,d,by simp[qJ,f,e]⟩
end TC
theorem J3 (st:Nat)(N:Aq)(W:Am)(rv:Y)(rs:Ao)(c:Int)(A:Aj)(w:E)(t:qW w A pb N st W)(L:jj w rv rs)(hr:∀a∈rs,a<D N)(hl:D rs<=300):Uh V 99 #[Ua (I ⟨pb,0,U⟩),rv,M Ug c] w λx h=>∃u,x=R u/\dA h w.heap.size 3 1 u (xZ N c rs).length (zN (xZ N c rs))/\zke w h:=by
 have⟨i0,aH,aQ,aR,aS⟩:=info_parts Tryz.N4;obtain⟨va,vc,rfl⟩:=L.slice;have⟨gs,cs,aP,hA,a8,ah⟩:=t.c0;have a5:=t.len;have HR:=zd L;have HP:=zd t;have HW:=zd ah;have ax:=zd hr;clear L t ah hr;go_enter func99,ntmps99;go_wp2;go_loopw[7,13] (λlv k wr=>∃n:Nat,k=M J n/\n<=D rs/\H (zke w wr)/\H (wr.ownsRow w.heap.size 3 1 lv (xZ N c (rs.take n)).length (zN (xZ N c (rs.take n))))) (λ_ k _=>D rs-(intOf k).toNat);exact⟨0,rfl,oa,zg.refl _ _,A0 _ _ _ _⟩;obtain⟨n,rfl,hn,b,i⟩:=hrel;obtain⟨F,na,B,rfl⟩:=zq i;by_cases o:n<D rs
 ·(obtain⟨g,rfl,a7,ad⟩:=HR.get o;have a6:=zf b _ _ ad id;clear ad;have aL:=ax rs[n] (BO o);have P:N[rs[n]]?=I N[rs[n]]:=AE aL;have⟨s0,⟨u,s1,am⟩,s2,s3,s4⟩:=zb HW _ _ P;have e0:=zf b _ _ s0 id;have e1:=zf b _ _ s1 id;have e3:=zf b _ _ s3 id;have ep:=zf b _ _ aP id;have HG:=zd P;have HS:=zd am;clear s0 s1 s2 s3 s4 am P;generalize aN:N[rs[n]]=s at *;clear aN;generalize T:rs[n]=a at *;have aO:∃x y z,u=K x y z:=by have⟨bg,sp,e,r,_⟩:=zb HS;simp at e;subst e;obtain⟨r,_⟩|⟨g,a1,r,_⟩:=r<;>exact⟨_,_,_,r⟩);obtain⟨sx,sy,sz,rfl⟩:=aO;by_cases S:s.kind=1
  ·(have aJ:((s.kind:Int) == 1)=G:=ou;have q:H (∀v,zke wr v->Uh V 144 #[Uf #[K sx sy sz],M Ug c] v λe h=>e=R (C (jQ s c))/\zke wr h/\dx h ⟨gs,a*5,U⟩=I (M J (s.kind:Nat))/\dx h ⟨gs,a*5+1,U⟩=I (K sx sy sz)):=λv k=>by refine(Nr _ (jQ s) c A _ (HS.keep (b.trans k) (λ_ _ f=>f))).mono ?_;rintro e h ⟨rfl,hO⟩;have X:=k.trans hO;exact⟨rfl,X,zf X _ _ e0 id,zf X _ _ e1 id⟩);clear S;cases m:jQ s c
   ·(rw[m] at q;have l:H (wr.ownsRow w.heap.size 3 1 (K F na B) (xZ N c (rs.take (n+1))).length (zN (xZ N c (rs.take (n+1))))):=by rw[zdd o (by rw[T];exact HG) m];exact i);go_wp2_with(go_at_call 144;refine(zb q _ (by first|exact zg.refl _ _|exact Ah)).mono ?_;rintro e w1 ⟨rfl,d,z0,z1⟩;have p:=zd d;clear d);have av:H (w1.ownsRow w.heap.size 3 1 (K F na B) (xZ N c (rs.take (n+1))).length (zN (xZ N c (rs.take (n+1))))):=zk l p (λ_ _ f=>f);exact⟨⟨n+1,Ae,oa,b.trans p,av⟩,Ad⟩
   rw[m] at q;have HE:H (xZ N c (rs.take (n+1))=xZ N c (rs.take n)++[s.next]):=zhg o (by rw[T];exact HG) m;have be:(xZ N c (rs.take n)).length<=300:=(by have:=X7 N c (rs.take n);rw[FI] at this;omega);have bc:=b.size;go_wp2_with(first
    |(go_at_call 144;refine(zb q _ (by first|exact zg.refl _ _|exact Ah)).mono ?_;rintro e w1 ⟨rfl,d,z0,z1⟩;have z3:=zf d _ _ e3 id;have p:=zd d;have bb:=d.size;have l:=zd (zk i d (λ_ _ f=>f));clear d)
    |(at_builtin;refine wpList_append_own _ rfl _ _ 29 rfl w.heap.size 3 i0 (M J 0) 1 8 underlying29 aH aQ aR aS rfl od _ _ _ rfl (AZ l _) _ 1 1 [M J (s.next:Nat)] rfl rfl (cell_one_new _ _ _) (λx hx=>by simp at hx;subst hx;rfl) Ac oa ou ?_;intro v' w4 af ae aK;have aA:=zd af;have az:=zd ae;clear af ae aK))
   have aG:zke w w4:=(((b.trans p).alloc _)).grown az (λj hj=>Or.inr (zh l j hj).1);exact⟨⟨n+1,Ae,oa,aG,(by show dA _ _ _ _ _ _ _;rw[zb HE];unfold zN;rw[AO,CX];exact aA)⟩,Ad⟩
  (have aJ:((s.kind:Int) == 1)=Z:=ou;have m:jQ s c=Z:=(by simp[jQ,S]);have l:H (wr.ownsRow w.heap.size 3 1 (K F na B) (xZ N c (rs.take (n+1))).length (zN (xZ N c (rs.take (n+1))))):=by rw[zdd o (by rw[T];exact HG) m];exact i);clear S;go_wp2;exact⟨⟨n+1,Ae,oa,b,l⟩,Ad⟩
 obtain rfl:n=D rs:=oa;go_wp2;go_ret;rw[FR] at i;exact⟨_,rfl,i,b⟩
structure UR (w:E)(base sb rb gb n:Nat)(ms:Ay)(rs:Ao):Prop where
 s0:B w ⟨sb,0,U⟩=I (K (I ⟨gb,0,U⟩) n n)
 r0:∃rv,B w ⟨rb,0,U⟩=I rv/\dA w base 3 1 rv (D rs) (zN rs)
 rf:dz w ⟨rb,0,U⟩=Z
 ob:vA w gb ms
 ml:D ms=n
 mark:∀p,p<n->ms[p]?=I (decide (p∈rs))
 cnt:ms.countP id=D rs
 lt:∀a∈rs,a<n
 d1:sb≠rb
 d2:sb≠gb
 d3:rb≠gb
 l1:sb<base
 l2:rb<base
 l3:gb<base
 lb:base<=X (A w)
theorem UR.len {d c a n:Nat}{b:Ay}{rs:Ao}(h:UR w base d c a n b rs):D rs<=n:=by rw[<-h.cnt,<-h.ml];exact List.countP_le_length
theorem UR.keep {w e:E}{base d c a n:Nat}{b:Ay}{rs:Ao}(h:UR w base d c a n b rs)(k:zke w e):UR e base d c a n b rs:=by have⟨j,g,i⟩:=h.r0;exact { h with s0:=zf k _ _ h.s0 id,r0:=⟨j,zf k _ _ g id,zk i k (λ_ _ f=>f)⟩,rf:=zp k _ (AM h.l2 h.lb) h.rf id,ob:=h.ob.keep k id,lb:=AP h.lb k.size }
namespace TC
def ZK (rs:Ao)(p:Nat):Ao:=if p∈rs then rs else rs++[p]
end TC
def NP (base b a:Nat)(g:Nat):Prop:=g=b\/g=a\/base<=g
theorem zhh (base v c b n p:Nat)(i:Ay)(rs:Ao)(w:E)(h:UR w base v c b n i rs)(hp:p<n)(hn:n<=300):Uh V 142 #[M J (p:Nat),Ua (I ⟨v,0,U⟩),Ua (I ⟨c,0,U⟩)] w λx w'=>x=R (Ue #[])/\(∃aT,UR w' base v c b n aT (ZK rs p))/\zg (NP base c b) w w':=by
 have⟨i0,aA,aP,aQ,aR⟩:=info_parts Tryz.N4;have⟨rv,aL,W⟩:=h.r0;obtain⟨ra,rn,rc,rfl⟩:=zq W;have aO:=h.s0;have aI:=h.rf;have aZ:=h.len;have T:=h.mark p hp;have ah:=h.ob.c p _ T;have aX:=h.ob.f p _ T;have ai:=h.d1;have aj:=h.d2;have ak:=h.d3;have al:=h.l1;have aB:=h.l2;have aC:=h.l3;have aY:=h.lb;have y:=zd h;have HO:=zd W;by_cases d:p∈rs
 .have r:decide (p∈rs)=G:=decide_eq_true d;rw[r] at ah;have F:H (ZK rs p=rs):=by show _=_;unfold ZK;rw[IN d]
  go_enter func142,ntmps142;go_wp2_with fail
  go_end0
  exact⟨rfl,⟨i,by rw[zb F];exact zb y⟩,zg.refl _ _⟩
 have r:decide (p∈rs)=Z:=decide_eq_false d;rw[r] at ah;have F:H (ZK rs p=rs++[p]):=by show _=_;unfold ZK;rw[iN d]
 have au:=zd d;have av:H (zg (λg=>g=b\/base<=g) w (dC w ⟨b,p,U⟩ (C G))):=(zg.refl _ w).setCell (Or.inl (Or.inl rfl)) _;have B:H ((dC w ⟨b,p,U⟩ (C G)).ownsRow base 3 1 (K ra rn rc) (D rs) (zN rs)):=zk HO ((zg.refl (λg=>g=b) w).setCell (Or.inl rfl) _) (λg L e=>by have:=(zh HO g L).1;omega);have ap:=zd (y.ob.set p G);have aq:H (∀(j:Nat) (u:Y),[M J (p:Nat)][j]?=I u->((dC w ⟨b,p,U⟩ (C G)).alloc (Ub #[M J (p:Nat)] 3)).cell? ((⟨f (A w),0,U⟩:Addr).add j)=I u):=by have h:=cell_one_new (dC w ⟨b,p,U⟩ (C G)) (M J (p:Nat)) 3;rw[show(dC w ⟨b,p,U⟩ (C G)).heap.size=f (A w) by simp] at h;exact h
 have am:¬(c=b\/base<=c):=oa;have aK:c<f (A w):=oa;go_enter func142,ntmps142;go_wp2_with(at_builtin;refine wpList_append_own _ rfl _ _ 29 rfl base 3 i0 (M J 0) 1 8 underlying29 aA aP aQ aR rfl od _ _ _ rfl (AZ B _) _ 1 1 [M J (p:Nat)] rfl rfl aq (λx hx=>by simp at hx;subst hx;rfl) Ac oa ou ?_;intro v' m X N aE;obtain⟨xa,xn,xc,rfl⟩:=zq X;have ag:=zd X;have ar:=zd N;have s:zg (λg=>g=b\/base<=g) w m:=(av.alloc _).grown N (λj S=>Or.inl (Or.inr (zh B j S).1));have aN:=zf s _ _ aL am;have aJ:=zp s _ aK aI am;have z:=zd s)
 go_end0
 have t:zg (λg=>g=c) m (m.setCell ⟨c,0,U⟩ (K xa xn xc)):=(zg.refl (λg=>g=c) m).setCell (p:=⟨c,0,U⟩) (Or.inl (show c=c from rfl)) _;have l:=zb y;have az:∀k,k<base->k≠b->¬(k=b\/base<=k):=λk h1 h2=>oa;have aG:(m.setCell ⟨c,0,U⟩ (K xa xn xc)).ownsRow base 3 1 (K xa xn xc) (rs++[p]).length (zN (rs++[p])):=by have:=zk ag t (λg L e=>by have h1:=(zh ag g L).1;have h2:g=c:=e;omega);rw[AO];unfold zN;rw[CX];exact this
 have ay:vA m b (i.set p G):=((ap.keep ((zg.refl (λ_=>False) _).alloc _) id)).keep (P:=λg=>base<=g) ((zg.refl _ _).grown ar (λj S=>Or.inl (zh B j S).1)) oa;have aD:i[p]?=I Z:=by have:=l.mark p hp;rw[decide_eq_false au] at this;exact this
 have ab:p<D i:=by rw[l.ml];exact hp
 refine⟨rfl,⟨i.set p G,?_⟩,?_⟩;rw[zb F];refine⟨?_,⟨_,AX _ _ _ aN,aG⟩,?_,ay.keep t (λe=>ak e.symm),by rw[Ct];exact l.ml,λq hq=>?_,?_,λa o=>?_,ai,aj,ak,al,aB,aC,?_⟩;exact zf t _ _ (zf z _ _ aO (az v al aj)) ai;rw[CI];exact aJ;by_cases e:p=q;subst e;rw[Iq ab];simp;rw[FW e,l.mark q hq];simp[List.mem_append,Ne.symm e];rw[List.countP_set ab,AO,l.cnt];have:i[p]=Z:=(by have:=AE ab;rw[aD] at this;exact(Bz this).symm);simp[this];obtain o|o:=A7.1 o;exact l.lt a o;simp at o;omega;have:=z.size;simp;omega;exact(z.mono (λk _ e=>e.elim (λe=>Or.inr (Or.inl e)) (λe=>Or.inr (Or.inr e)))).trans (t.mono (λk _ e=>Or.inl e))
namespace TC
theorem vO {p q:Nat}:q∈ZK rs p↔q∈rs\/q=p:=by
 unfold ZK;split
 grind
 simp
theorem zde {p j:Nat}(h:j<D rs):(ZK rs p)[j]?=rs[j]?:=by unfold ZK;split;rfl;rw[BG h]
theorem Wg (rs:Ao)(p:Nat):D rs<=(ZK rs p).length:=by unfold ZK;split;exact AD _;simp
def BL (N:Aq)(H:Am)(a t:Nat):Prop:=∃s,N[a]?=I s/\((s.kind=2/\H s.asr=G/\t=s.next)\/(s.kind=3/\(t=s.next\/t=s.other)))
def GE (N:Aq)(H:Am)(a b:Nat):Prop:=Sm.Goes (λ_ _=>False) (λx _=>H x=G) N a 0 b 0
theorem GE.refl (N:Aq)(H:Am)(a:Nat):GE N H a a:=Sm.Goes.refl _ _ _
theorem GE.step {N:Aq}{H:Am}{a b c:Nat}(h:GE N H a b)(e:BL N H b c):GE N H a c:=by refine Sm.Goes.trans h (Sm.Goes.one ?_);obtain⟨s,f,d|d⟩:=e;exact⟨s,f,O (Q ⟨d.1,d.2.1,d.2.2,rfl⟩)⟩;exact⟨s,f,O (O ⟨d.1,d.2,rfl⟩)⟩
end TC
namespace TC
def Inv (N:Aq)(H:Am)(b:Ao)(n:Nat)(rs:Ao):Prop:=(∀p∈b,p∈rs)/\(∀q∈rs,∃p∈b,GE N H p q)/\∀(j:Nat) a,j<n->rs[j]?=I a->∀t,BL N H a t->t∈rs
theorem Inv.visit {N:Aq}{H:Am}{i rs:Ao}{n a t:Nat}(h:Inv N H i n rs)(c:rs[n]?=I a)(e:BL N H a t):Inv N H i n (ZK rs t)/\(ZK rs t)[n]?=I a/\t∈ZK rs t:=by have m:n<D rs:=(AK.1 c).1;refine⟨⟨λp d=>vO.2 (Q (h.1 p d)),λq f=>?_,λj b l k u o=>?_⟩,by rw[zde m];exact c,vO.2 (O rfl)⟩;obtain f|rfl:=vO.1 f;exact h.2.1 q f;have⟨p,d,g⟩:=h.2.1 a (Bg c);exact⟨p,d,g.step e⟩;rw[zde oa] at k;exact vO.2 (Q (h.2.2 j b l k u o))
theorem Inv.next {N:Aq}{H:Am}{c rs:Ao}{n a:Nat}(h:Inv N H c n rs)(i:rs[n]?=I a)(e:∀t,BL N H a t->t∈rs):Inv N H c (n+1) rs:=
 ⟨h.1,h.2.1,λj b k d u f=>by
  by_cases g:j=n;subst g;cases i.symm.trans d;exact e u f;exact h.2.2 j b oa d u f⟩
theorem EY {N:Aq}{H:Am}{a:Nat}{s:Stp}(b:N[a]?=I s)(e:s.kind=2)(t:Nat):BL N H a t↔H s.asr=G/\t=s.next:=by constructor;rintro⟨g,f,h⟩;cases b.symm.trans f;obtain h|h:=h;exact h.2;omega;rintro⟨c,d⟩;exact⟨s,b,Q ⟨e,c,d⟩⟩
theorem E0 {N:Aq}{H:Am}{a:Nat}{s:Stp}(b:N[a]?=I s)(c:s.kind=3)(t:Nat):BL N H a t↔t=s.next\/t=s.other:=by
 constructor;rintro⟨e,d,h⟩;cases b.symm.trans d;obtain h|h:=h;omega;exact h.2;exact λh=>⟨s,b,O ⟨c,h⟩⟩
theorem EZ {N:Aq}{H:Am}{a:Nat}{s:Stp}(d:N[a]?=I s)(b:s.kind≠2)(c:s.kind≠3)(t:Nat):¬BL N H a t:=by rintro⟨f,e,h⟩;cases d.symm.trans e;obtain h|h:=h;exact b h.1;exact c h.1
end TC
theorem zf1 {m n c:Nat}{a:Ap}{rs:Ao}(h:dA w base 3 1 (K a n c) m (zN rs))(q:m=D rs):n=m/\∀k,(b:k<D rs)->∃g,a=I ⟨g,0,U⟩/\m<=c/\B w ⟨g,k,U⟩=I (M J (rs[k]:Nat)):=by
 have d:=@World.ownsRow.cells w base 3 1 _ m _ h;obtain⟨e,l⟩|⟨g,i,j,e,o,p,f,_⟩:=h.2
 grind
 simp at e;obtain⟨rfl,rfl,rfl⟩:=e;refine⟨rfl,λk b=>⟨g,rfl,f,?_⟩⟩;have:=d (g:=g) rfl k (M J (rs[k]:Nat)) (by unfold zN;rw[Bo,AE b];rfl);have e:(⟨g,0,U⟩:Addr).add k=⟨g,k,U⟩:=by unfold Addr.add;split<;>simp_all
 rw[e] at this;exact this
theorem zg.under {P:Aj}{a b c:E}(h:zke a b)(k:zg P b c)(e:∀j,j<X (A a)->¬P j):zke a c:=
 ⟨k.os.trans h.os,k.tape.trans h.tape,k.output.trans h.output,AP h.size k.size,λj d _=>(k.block j (AM d h.size) (e j d)).trans (h.block j d id)⟩
theorem qg.Oy {P:Aj}{W W':E}{b:Nat}{x y z u:Bool}(h:qg W b x y z u)(k:zg P W W')(a:¬P b):qg W' b x y z u:=by have c:b<X (A W):=zic W ⟨b,0,U⟩ h.k0;exact⟨zf k _ _ h.k0 a,zf k _ _ h.k1 a,zf k _ _ h.k2 a,zf k _ _ h.k3 a,zp k _ c h.f0 a,zp k _ c h.f1 a,zp k _ c h.f2 a,zp k _ c h.f3 a⟩
structure UO (w wr:E)(n:Nat)(x0 x1 x2 x3:Bool)(ms:Ay)(rs:Ao):Prop where
 rch:UR wr (X (A w)+1+1+1+1) (X (A w)+1+1+1) (X (A w)+1) (X (A w)+1+1) n ms rs
 on:zke w wr
 sp:qg wr (X (A w)) x0 x1 x2 x3
theorem UO.keep {w wr b:E}{n:Nat}{c d e f:Bool}{a:Ay}{rs:Ao}(h:UO w wr n c d e f a rs)(k:zke wr b):UO w b n c d e f a rs:=⟨h.rch.keep k,h.on.trans k,h.sp.keep k⟩
theorem Jm {wr:E}{n p:Nat}{f g i k:Bool}{c:Ay}{rs:Ao}(h:UO w wr n f g i k c rs)(o:p<n)(m:n<=300):Uh V 142 #[M J (p:Nat),Ua (I ⟨X (A w)+1+1+1,0,U⟩),Ua (I ⟨X (A w)+1,0,U⟩)] wr λx d=>x=R (Ue #[])/\∃a,UO w d n f g i k a (ZK rs p):=by refine(zhh _ _ _ _ n p c rs wr h.rch o m).mono ?_;rintro e d ⟨rfl,⟨a,l⟩,b⟩;exact⟨rfl,a,l,h.on.under b (λj q e=>by unfold NP at e;omega),h.sp.Oy b (λe=>by unfold NP at e;omega)⟩
theorem UO.start (w:E)(n:Nat)(b c d e:Bool)(T:TypeId):UO w ((((q w (Ub #[C b,C c,C d,C e] T)).alloc (Ub #[K U 0 0] 29)).alloc (Ub (madeCells #[C Z] n) 4)).alloc (Ub #[K (I ⟨X (A w)+1+1,0,U⟩) n n] 113)) n b c d e (dK n Z) []:=by
 have a:∀(W:E) (o:Obj),zke W (W.alloc o):=λW o=>(zg.refl _ _).alloc o;refine⟨⟨?_,⟨K U 0 0,?_,A0 _ _ _ _⟩,?_,?_,ov,λp g=>?_,?_,ov,oa,oa,oa,oa,oa,oa,ov⟩,?_,?_⟩;exact zj _ _ ov _ _ 0 _ rfl;exact zf ((a _ _).trans (a _ _)) _ _ (zj _ _ ov _ _ 0 _ rfl) id;exact zp ((a _ _).trans (a _ _)) _ ov (zt _ _ ov _ _ 0) id;have h:=vA.made ((q w (Ub #[C b,C c,C d,C e] T)).alloc (Ub #[K U 0 0] 29)) n;rw[show((q w (Ub #[C b,C c,C d,C e] T)).alloc (Ub #[K U 0 0] 29)).heap.size=X (A w)+1+1 by simp] at h;exact h.keep (a _ _) id
 grind
 rw[List.countP_replicate];simp;exact(((a _ _).trans (a _ _)).trans (a _ _)).trans (a _ _);exact((qg.new w _ rfl _ _ _ _ _).keep (((a _ _).trans (a _ _)).trans (a _ _)))
theorem J4 (st:Nat)(N:Aq)(W:Am)(bv:Y)(b:Ao)(d i l m:Bool)(A:Aj)(w:E)(hP:qW w A pb N st W)(hB:jj w bv b)(hb:∀a∈b,a<D N)(hl:D b<=301):Uh V 96 #[Ua (I ⟨pb,0,U⟩),bv,Uf #[C d,C i,C l,C m]] w λx c=>∃rv rs,x=R rv/\dA c (f w.heap) 3 1 rv (D rs) (zN rs)/\zke w c/\(D rs)<=D N/\(∀a∈rs,a<D N)/\(∀p∈b,p∈rs)/\(∀q∈rs,∃p∈b,GE N (kX d i l m) p q)/\∀a∈rs,∀t,BL N (kX d i l m) a t->t∈rs:=by
 obtain⟨va,vc,rfl⟩:=hB.slice;have⟨gs,cs,aO,hA,bO,aN⟩:=hP.c0;have ah:=hP.len;have bh:=qI (D N) oa;have HB:=zd hB;have HP:=zd hP;have HW:=zd aN;have aY:=zd hb;clear hB hP aN hb;have bj:∀o1 o2,((dB w o1).alloc o2).cell? ⟨pb,0,U⟩=I (K (I ⟨gs,0,U⟩) (D N) cs):=λo1 o2=>zf (((zg.refl (λ_=>False) w).alloc o1).alloc o2) _ _ aO id;go_enter func96,ntmps96;go_wp2_with fail;have HR:=zd (UO.start w (D N) d i l m 223);generalize a9:((((dB w (Ub #[C d,C i,C l,C m] 223)).alloc (Ub #[K U 0 0] 29)).alloc (Ub (madeCells #[C Z] (D N)) 4)).alloc (Ub #[K (I ⟨f w.heap+1+1,0,U⟩) (D N) (D N)] 113))=W0 at HR ⊢;clear a9 bh bj;have eg:∀aD w,(callFunc 142 aD).run V w=.ok (.enter 142 aD) w:=enters_of func142 om rfl;go_loopw[23] (λk wr=>∃(n:Nat) (ms:Ay) (rs:Ao),k=M J n/\n<=D b/\Hid (UO w wr (D N) d i l m ms rs)/\Hid ((∀q∈rs,q∈b)/\∀p∈b.take n,p∈rs)) (λk _=>D b-(intOf k).toNat);exact⟨0,_,[],rfl,oa,HR,ov,ov⟩;obtain⟨n,ms,rs,rfl,hn,HG,B⟩:=hrel;by_cases al:n<D b
 ·(obtain⟨g,rfl,bM,aJ⟩:=HB.get al;have bL:=zf HG.on _ _ aJ id;clear aJ;have bc:=aY b[n] (BO al);have u:Hid ((∀q∈ZK rs b[n],q∈b)/\∀p∈b.take (n+1),p∈ZK rs b[n]):=by refine⟨λq hq=>?_,λp hp=>?_⟩;obtain h|rfl:=TC.vO.1 hq;exact B.1 q h;exact BO al;rw[FK,AE al] at hp;obtain h|h:=A7.1 hp;exact TC.vO.2 (Q (B.2 p h));exact TC.vO.2 (O (by simpa using h)));generalize b[n]=a at *;go_wp2_with(go_at_fn 142;refine(Jm HG bc ah).mono ?_;rintro e w1 ⟨rfl,bp,aG⟩;have a0:=zd aG;clear aG);exact⟨⟨n+1,bp,_,Ae,oa,a0,u⟩,Ad⟩
 obtain rfl:n=D b:=oa;rw[FR] at B;go_wp2_with fail;have aB:Hid (TC.Inv N (kX d i l m) b 0 rs):=⟨B.2,λq hq=>⟨q,B.1 q hq,GE.refl _ _ _⟩,λj a hj=>oa⟩
 clear B;go_loopw[12] (λk wq=>∃(n:Nat) (ms:Ay) (rs:Ao),k=M J n/\n<=D rs/\Hid (UO w wq (D N) d i l m ms rs)/\Hid (TC.Inv N (kX d i l m) b n rs)) (λk _=>D N-(intOf k).toNat);exact⟨0,ms,rs,rfl,oa,HG,aB⟩;clear HG aB;obtain⟨n,aS,o,rfl,bR,r,u⟩:=hrel;have bg:=r.rch.len;have⟨rv,bT,T⟩:=r.rch.r0;obtain⟨ra,rn,rc,rfl⟩:=zq T;obtain⟨rfl,aq⟩:=zf1 T rfl;by_cases au:n<D o
 .obtain⟨gr,rfl,bS,bN⟩:=aq n au;have bi:o[n]<D N:=r.rch.lt _ (BO au);have aj:N[o[n]]?=I N[o[n]]:=AE bi;have HA:Hid (o[n]?=I o[n]):=AE au;have⟨s0,_,s2,s3,s4⟩:=zb HW _ _ aj;have bf:=HP.fit _ _ aj;have bA:=zd s3;have a2:=zd s4;have e0:=zf r.on _ _ s0 id;have e2:=zf r.on _ _ s2 id;have e3:=zf r.on _ _ s3 id;have ep:=zf r.on _ _ aO id;have an:=zd aj;clear s0 s2 s3 s4 aj aq T;generalize N[o[n]]=s at *;generalize o[n]=a at *;have⟨aK,be⟩:=bf;have b1:(0:Int)<=(n:Int):=oa;have b2:(n:Int)<(D o:Int):=oa;have b3:(0:Int)<=(a:Int):=oa;have b4:(a:Int)<(D N:Int):=oa;by_cases S:s.kind=2
  ·(have aI:((s.kind:Int) == 2)=G:=ou;have⟨k0,k1,k2,k3,_,_,_,_⟩:=r.sp;have HZ:Hid (∀W',zke wr W'->Uh V 143 #[Uf #[C d,C i,C l,C m],M J s.asr] W' λe c=>e=R (C (kX d i l m s.asr))/\zke wr c/\dx c ⟨f w.heap,0,U⟩=I (C d)/\dx c ⟨f w.heap,1,U⟩=I (C i)/\dx c ⟨f w.heap,2,U⟩=I (C l)/\dx c ⟨f w.heap,3,U⟩=I (C m)/\dx c ⟨gs,a*5+2,U⟩=I (M J s.asr)):=λW' hW=>by refine(zg4 d i l m s.asr W').mono ?_;rintro e c ⟨rfl,hO⟩;have k:=hW.trans hO;exact⟨rfl,k,zf k _ _ k0 id,zf k _ _ k1 id,zf k _ _ k2 id,zf k _ _ k3 id,zf k _ _ e2 id⟩);have y:=zd (λt=>EY (H:=kX d i l m) an S t);clear S;cases hH:kX d i l m s.asr
   .have z:Hid (TC.Inv N (kX d i l m) b (n+1) o):=u.next HA (λt v=>by have:=((zb y t).1 v).1;rw[hH] at this;cases this);rw[hH] at HZ;clear hH;go_wp2;go_quiet(fail);go_wp2;go_region_held3(λc=>dx c ⟨f w.heap,0,U⟩=I (C d)/\dx c ⟨f w.heap,1,U⟩=I (C i)/\dx c ⟨f w.heap,2,U⟩=I (C l)/\dx c ⟨f w.heap,3,U⟩=I (C m)/\dx c ⟨gs,a*5+2,U⟩=I (M J s.asr)) (go_keep)
     (first|(go_at_call 143;refine(zb HZ _ (by first|exact zg.refl _ _|exact Ah|exact Ah.drewN _)).mono ?_;rintro e w1 ⟨rfl,F,y0,y1,y2,y3,y4⟩;have L:=zd (r.keep F);clear F))
    go_wp2;exact⟨⟨n+1,aS,o,Ae,oa,L,z⟩,Ad⟩
   have⟨X,i2,i3⟩:=u.visit HA ((zb y s.next).2 ⟨hH,rfl⟩);have z:Hid (TC.Inv N (kX d i l m) b (n+1) (ZK o s.next)):=X.next i2 (λt v=>by rw[((zb y t).1 v).2];exact i3);have bk:=Wg o s.next;rw[hH] at HZ;clear hH X i2 i3;go_wp2;go_quiet(fail);go_wp2;go_region_held3(λc=>dx c ⟨f w.heap,0,U⟩=I (C d)/\dx c ⟨f w.heap,1,U⟩=I (C i)/\dx c ⟨f w.heap,2,U⟩=I (C l)/\dx c ⟨f w.heap,3,U⟩=I (C m)/\dx c ⟨gs,a*5+2,U⟩=I (M J s.asr)) (go_keep)
    (first|(go_at_call 143;refine(zb HZ _ (by first|exact zg.refl _ _|exact Ah|exact Ah.drewN _)).mono ?_;rintro e w1 ⟨rfl,F,y0,y1,y2,y3,y4⟩;have z3:=zf F _ _ e3 id;have L:=zd (r.keep F);clear F))
   go_wp2_with(go_at_fn 142;refine(Jm (L.keep (by first|exact zg.refl _ _|exact Ah)) aK ah).mono ?_;rintro e w2 ⟨rfl,aT,P⟩;have am:=zd P;clear P);exact⟨⟨n+1,aT,_,Ae,oa,am,z⟩,Ad⟩
  by_cases ak:s.kind=3
  .have aI:((s.kind:Int) == 2)=Z:=ou;have bb:((s.kind:Int) == 3)=G:=ou;have y:=zd (λt=>E0 (H:=kX d i l m) an ak t);clear S ak;have⟨X,i2,i3⟩:=u.visit HA ((zb y s.next).2 (Q rfl));have⟨j1,j2,j3⟩:=X.visit i2 ((zb y s.other).2 (O rfl));have z:Hid (TC.Inv N (kX d i l m) b (n+1) (ZK (ZK o s.next) s.other)):=j1.next j2 (λt v=>by
    rcases(zb y t).1 v with rfl|rfl;exact TC.vO.2 (Q i3);exact j3)
   have bk:=Wg o s.next;have bU:=Wg (ZK o s.next) s.other;clear X i2 i3 j1 j2 j3;go_wp2;go_quiet(fail);go_wp2_with(first
    |(go_at_fn 142;refine(Jm (r.keep (by first|exact zg.refl _ _|exact Ah)) aK ah).mono ?_;rintro e w1 ⟨rfl,aT,ap⟩;have z4:=zf ap.on _ _ a2 id;have L:=zd ap;clear ap r)
    |(go_at_fn 142;refine(Jm (L.keep (by first|exact zg.refl _ _|exact Ah)) be ah).mono ?_;rintro e w2 ⟨rfl,br,P⟩;have am:=zd P;clear P))
   exact⟨⟨n+1,br,_,Ae,oa,am,z⟩,Ad⟩
  have aI:((s.kind:Int) == 2)=Z:=ou;have bb:((s.kind:Int) == 3)=Z:=ou;have z:Hid (TC.Inv N (kX d i l m) b (n+1) o):=u.next HA (λt v=>absurd v (EZ an S ak t));clear S ak;go_wp2;go_quiet(fail);go_wp2;exact⟨⟨n+1,aS,o,Ae,oa,r.keep Ah,z⟩,Ad⟩
 obtain rfl:n=D o:=oa;have HF:=zd T;clear aq T;go_wp2;go_ret;refine⟨_,o,rfl,zL HF oa,r.on,bg,r.rch.lt,u.1,u.2.1,λa ha t v=>?_⟩;have⟨j,hj⟩:=wM ha;exact u.2.2 j a (AK.1 hj).1 hj t v
theorem jj.of (h:w.ownsRow base 3 1 v (D rs) (zN rs)):jj w v rs:=by
 obtain⟨a,n,c,rfl⟩:=zq h;obtain⟨rfl,f⟩:=zf1 h rfl;by_cases d:rs=[]
 subst d;obtain⟨e,_⟩|⟨g,i,q,e,_,_,p,_⟩:=h.2;exact Q ⟨e,rfl⟩;exact O ⟨g,i,e,p,λj a b=>by simp at b⟩;have o:0<D rs:=List.length_pos_iff.2 d;obtain⟨g,rfl,l,_⟩:=f 0 o;refine O ⟨g,c,rfl,l,λj a b=>?_⟩;obtain⟨m,rfl⟩:=AK.1 b;have⟨r,e,_,k⟩:=f j m;cases e;exact k
theorem zhi (l:Y)(rs:Ao)(v:Nat)(w:E)(h:jj w l rs)(L:D rs<=1000):Uh V 145 #[l,M J (v:Nat)] w λx u=>∃k:Int,x=R (M J k)/\(0<=k↔v∈rs)/\zke w u:=by
 obtain⟨P,S,rfl⟩:=h.slice;have m:=zd h;go_enter func145,ntmps145;go_wp2;go_loopw[8] (λk wr=>∃n:Nat,k=M J n/\n<=D rs/\H (zke w wr)/\H (v∉rs.take n)) (λk _=>D rs-(intOf k).toNat);exact⟨0,rfl,oa,zg.refl _ _,by show ¬v∈rs.take 0;simp⟩;obtain⟨n,rfl,N,c,d⟩:=hrel;by_cases e:n<D rs
 ·(obtain⟨g,rfl,F,i⟩:=m.get e;have B:=zf c _ _ i id;have y:(0:Int)<=(n:Int):=oa;have z:(n:Int)<(D rs:Int):=oa;have o:H (rs[n]∈rs):=BO e;have p:H (v≠rs[n]->v∉rs.take (n+1)):=λt j=>by rw[FK,AE e] at j;obtain h|h:=A7.1 j;exact zb d h;exact t (by simpa using h));generalize rs[n]=a at *;by_cases b:v=a
  .have s:((v:Int) == (a:Int))=G:=(by simp[b]);have r:H (v∈rs):=(by show v∈rs;rw[b];exact o);go_wp2;go_ret;exact⟨n,rfl,⟨λ_=>zb r,λ_=>oa⟩,c⟩
  have s:((v:Int) == (a:Int))=Z:=ou;have q:=zd (zb p b);go_wp2;exact⟨⟨n+1,Ae,oa,c,q⟩,Ad⟩
 obtain rfl:n=D rs:=oa;rw[FR] at d;go_wp2;go_ret;exact⟨-1,rfl,⟨λh=>oa,λh=>absurd h d⟩,c⟩
theorem J5 (f:Y)(rs:Ao)(v:Nat)(w:E)(h:jj w f rs)(j:D rs<=1000):Uh V 98 #[f,M J (v:Nat)] w λx l=>x=R (C (decide (v∈rs)))/\zke w l:=by
 have g:=zd (zhi f rs v w h j);obtain⟨n,o,rfl⟩:=h.slice;clear h;by_cases c:v∈rs
 .rw[decide_eq_true c];go_enter func98,ntmps98;go_wp2_with(go_at_call 145;refine g.mono ?_;rintro e m ⟨k,rfl,b,a⟩;have i:0<=k:=b.2 c;clear b;have d:=zd a;clear a);go_ret;exact⟨rfl,d⟩
 rw[decide_eq_false c];go_enter func98,ntmps98;go_wp2_with(go_at_call 145;refine g.mono ?_;rintro e m ⟨k,rfl,b,a⟩;have i:¬0<=k:=λh=>c (b.1 h);clear b;have d:=zd a;clear a);go_ret;refine⟨?_,d⟩;show Ending.returned (C (decide (0<=k)))=_;rw[decide_eq_false oa]
namespace TC
def CJ (L:Ai)(T:Tree)(k:Nat):Prop:=k<D L/\vg T (zi L k)=G
def vZ (W:Am)(L:Ai)(k:Nat)(a:Int):Bool:=kX (decide (k=0)) (decide (k=D L)) (Co W L k) (Cq W L k) a
def CS (W:Am)(L:Ai)(a:Int)(k:Nat):Prop:=vZ W L k a=G
abbrev BY (W:Am)(L:Ai)(N:Aq)(p i q j:Nat):Prop:=Sm.Goes (CJ L) (CS W L) N p i q j
def UQ (W:Am)(L:Ai)(N:Aq)(st i m:Nat)(a:Ao):Prop:=(∀p∈a,p<D N)/\∀q,(∃p∈a,BY W L N p m q m)↔BY W L N st i q m
def TH (W:Am)(L:Ai)(N:Aq)(st i m:Nat)(js:Ao):Prop:=js.Pairwise (· < ·)/\∀j,j∈js↔j<m/\BY W L N st i 0 j
theorem UQ.first {N:Aq}{st i:Nat}(b:st<D N):UQ W L N st i i [st]:=
 ⟨λp a=>by simp at a;omega,λq=>⟨λ⟨p,a,g⟩=>by obtain rfl:=A5.1 a;exact g,λg=>⟨st,A5.2 rfl,g⟩⟩⟩
theorem TH.first {N:Aq}{st i:Nat}:TH W L N st i i []:=
 ⟨List.Pairwise.nil,λj=>⟨λh=>(by cases h),λh=>(by have:=h.2.le;omega)⟩⟩
theorem I1 {N:Aq}{m a b:Nat}:NN (CS W L) N a m b↔BL N (vZ W L m) a b:=Iff.rfl
theorem Ih {N:Aq}{m a b:Nat}(h:GE N (vZ W L m) a b):BY W L N a m b m:=by
 have⟨k,h⟩:=h
 suffices g:∀(k a b i j:Nat),UA (λ_ _=>False) (λx _=>vZ W L m x=G) N k a i b j->BY W L N a m b m from g k a b 0 0 h
 intro k
 induction k with
 |zero=>rintro a b i j ⟨rfl,_⟩;exact Sm.Goes.refl _ _ _
 |succ k o=>
  rintro a b i j ⟨r,q,⟨s,e,l⟩,n⟩;refine Sm.Goes.head ?_ (o _ _ _ _ n);obtain⟨_,f,_⟩|⟨c,d,p,_⟩|⟨c,d,_⟩:=l;exact f.elim;exact⟨s,e,O (Q ⟨c,d,p,rfl⟩)⟩;exact⟨s,e,O (O ⟨c,d,rfl⟩)⟩
theorem zhj {N:Aq}{m:Nat}{c rs:Ao}(d:∀p∈c,p∈rs)(e:∀q∈rs,∃p∈c,GE N (vZ W L m) p q)(f:∀a∈rs,∀t,BL N (vZ W L m) a t->t∈rs)(q:Nat):q∈rs↔∃p∈c,BY W L N p m q m:=
 Kf d (λq k=>by have⟨p,j,g⟩:=e q k;exact⟨p,j,Ih g⟩) (λa h b i=>f a h b (I1.1 i)) q
theorem take_all {N:Aq}{m:Nat}{rs:Ao}(h:m<D L)(b:Nat):b∈xZ N (zi L m) rs↔∃a∈rs,Lv (CJ L) N a m b:=by rw[J2];constructor;rintro⟨a,d,s,e,c,rfl⟩;unfold jQ at c;rw[B8,decide_eq_true_eq] at c;exact⟨a,d,s,e,c.1,⟨h,c.2⟩,rfl⟩;rintro⟨a,d,s,e,f,g,rfl⟩;exact⟨a,d,s,e,by unfold jQ;rw[g.2,decide_eq_true f];rfl,rfl⟩
theorem UQ.next {N:Aq}{st i m:Nat}{c rs:Ao}(h:UQ W L N st i m c)(f:i<=m)(g:m<D L)(j:∀q,q∈rs↔∃p∈c,BY W L N p m q m)(e:∀(k:Nat) s,N[k]?=I s->s.next<D N/\s.other<D N):UQ W L N st i (m+1) (xZ N (zi L m) rs):=
 ⟨λb d=>by obtain⟨a,_,s,l,_,rfl⟩:=J2.1 d;exact(e a s l).1,λq=>zgo f h.2 j (take_all g) q⟩
theorem TH.next {N:Aq}{st i m:Nat}{d rs js:Ao}(c:TH W L N st i m js)(h:UQ W L N st i m d)(n:∀q,q∈rs↔∃p∈d,BY W L N p m q m):(0∈rs->TH W L N st i (m+1) (js++[m]))/\(0∉rs->TH W L N st i (m+1) js):=by
 have e:0∈rs↔BY W L N st i 0 m:=(n 0).trans (h.2 0);constructor
 .intro g;refine⟨Io.2 ⟨c.1,ov,λa l b f=>?_⟩,λj=>?_⟩;simp at f;subst f;exact((c.2 a).1 l).1;rw[A7,c.2 j];constructor
  grind
  grind
 intro g;refine⟨c.1,λj=>?_⟩;rw[c.2 j];constructor;rintro⟨o,k⟩;exact⟨oa,k⟩
 grind
theorem TH.all {N:Aq}{st i:Nat}{js:Ao}(a:TH W L N st i (D L+1) js):jd (D L) (BY W L N st i 0) js:=⟨a.1,λj=>by rw[a.2 j];constructor<;>rintro⟨c,b⟩<;>exact⟨oa,b⟩⟩
theorem TH.none {N:Aq}{st i m:Nat}{js:Ao}(b:TH W L N st i m js)(h:UQ W L N st i m [])(f:i<=m)(n:m<=D L):jd (D L) (BY W L N st i 0) js:=by
 have k:∀q,¬BY W L N st i q m:=λq g=>by have⟨p,l,_⟩:=(h.2 q).2 g;cases l
 refine⟨b.1,λj=>?_⟩;rw[b.2 j];constructor;rintro⟨c,a⟩;exact⟨oa,a⟩;rintro⟨c,a⟩;refine⟨?_,a⟩;by_cases e:j<m;exact e;obtain⟨d,rfl⟩:∃d,j=m+d:=⟨j-m,oa⟩
 exact absurd a (WO f k d 0)
end TC
theorem zhk (st i:Nat)(N:Aq)(W:Am)(L:Ai)(v:Y)(A:Aj)(w:E)(hP:qW w A pb N st W)(hL:qM w v L)(hi:i<=D L)(hl:D L<=400):Uh V 50 #[Ua (I ⟨pb,0,U⟩),v,M J (i:Nat)] w λx w'=>∃sv js,x=R sv/\w'.ownsRow w.heap.size 3 1 sv (D js) (zN js)/\jd (D L) (BY W L N st i 0) js/\zke w w':=by
 have⟨i0,aX,a5,a6,a7⟩:=info_parts Tryz.N4;obtain⟨va,vc,rfl⟩:=hL.slice;have bN:=hP.c1;have bI:=hP.len;have o:=zd hP;have HL:=zd hL;clear hP hL;go_enter func50,ntmps50;go_wp2_with fail;have aw:H (zke w (dB w (Ub #[M J (st:Nat)] 3))):=Ag;have ao:H (jj (dB w (Ub #[M J (st:Nat)] 3)) (K (I ⟨dg w.heap,0,U⟩) 1 1) [st]):=O ⟨dg w.heap,1,rfl,ov,λj a b=>by
  have bw:j=0:=by have:=(AK.1 b).1;simp at this;omega
  subst bw;simp at b;subst b;exact zj _ _ rfl _ _ 0 _ rfl⟩
 generalize (dB w (Ub #[M J (st:Nat)] 3))=W0 at aw ao ⊢;go_loopw[7,8,9] (λev bv k wr=>∃(m:Nat) (h js:Ao),k=M J m/\i<=m/\m<=D L/\(D h)<=300/\(D js)<=m/\H (zke w wr)/\H (wr.ownsRow w.heap.size 3 1 ev (D js) (zN js))/\H (jj wr bv h)/\H (UQ W L N st i m h)/\H (TH W L N st i m js)) (λ_ _ k _=>D L+1-(intOf k).toNat);exact⟨i,[st],[],rfl,oa,oa,ov,ov,aw,A0 _ _ _ _,ao,UQ.first o.stl,TH.first⟩;clear aw ao;obtain⟨m,h,js,rfl,aE,aY,bJ,bL,y,HE,HB,HG,HD⟩:=hrel;obtain⟨ea,en,ec,rfl⟩:=zq HE;obtain⟨ba,bc,rfl⟩:=HB.slice;by_cases aD:D h=0
 .have bt:¬(0:Int)<(D h:Int):=oa;have z:H (jd (D L) (BY W L N st i 0) js):=HD.none (by rw[Cb aD] at HG;exact HG) aE aY;clear aD;go_wp2;go_ret;exact⟨_,rfl,js,HE,z,y⟩
 have bt:(0:Int)<(D h:Int):=oa;clear aD;have HA:=zd (zeR pb st m N W L _ A wr (o.keep y (λ_ _ f=>f)) (HL.keep y) aY hl);go_wp2_with(first
  |(go_at_call 97;refine HA.mono ?_;rintro e w1 ⟨rfl,aj⟩;have ar:=zd (y.trans aj);have ap:=zd (zk HE aj (λ_ _ f=>f));have aP:=zd (HB.keep aj);clear aj y HE HB HA)
  |(go_at_call 96;refine(J4 pb st N W _ h _ _ _ _ A w1 (o.keep ar (λ_ _ f=>f)) aP HG.1 oa).mono ?_;rintro e w2 ⟨rv,rs,rfl,al,aA,bM,a1,a2,a3,a4⟩;obtain⟨ra,rn,rc,rfl⟩:=zq al;have ah:=zd (jj.of al);have af:=zd (ar.trans aA);have ad:=zd (zk ap aA (λ_ _ f=>f));have HQ:=zd (zhj (W:=W) (L:=L) (m:=m) a2 a3 a4);have aR:=zd a1;have aS:=zd al;have bj:H (∀j,(K ea en ec).ownBlock=I j->j<dg w1.heap):=(λj b=>(zh ap j b).2);clear al aA a1 a2 a3 a4 ar ap aP)
  |(go_at_call 98;refine zb ?_))
 refine zd ?_;have s:Uh V 98 #[K ra rn rc,M J 0] w2 λx w'=>x=R (C (decide (0∈rs)))/\zke w2 w':=J5 _ rs 0 w2 ah oa;have ab:=zd (HD.next HG HQ);by_cases r:0∈rs
 .rw[decide_eq_true r] at s;have t:=zd (ab.1 r);clear ab r;refine s.mono ?_;rintro e w3 ⟨rfl,c⟩;have d:=zd (af.trans c);have n:=zd (zk ad c (λ_ _ f=>f));have ai:=zd (zk aS c (λ_ _ f=>f));have bO:=d.size;clear c s af ad ah aS;by_cases p:m=D L
  .have aG:((m:Int) == (D L:Int))=G:=ou;have z:H (jd (D L) (BY W L N st i 0) (js++[m])):=TH.all (by rw[<-p];exact t);clear p;go_wp2_with(at_builtin;refine wpList_append_own _ rfl _ _ 29 rfl w.heap.size 3 i0 (M J 0) 1 8 underlying29 aX a5 a6 a7 rfl od _ _ _ rfl (AZ n _) _ 1 1 [M J (m:Nat)] rfl rfl (cell_one_new _ _ _) (λx hx=>by simp at hx;subst hx;rfl) Ac oa ou ?_;intro v' l q S aH;obtain⟨xa,xn,xc,rfl⟩:=zq q;have ae:=zd S;have av:=zd q;clear q S aH);go_ret;have F:zke w l:=(d.alloc _).grown ae (λj b=>Or.inr (zh n j b).1);have u:H (l.ownsRow w.heap.size 3 1 (K xa xn xc) (js++[m]).length (zN (js++[m]))):=(by show dA _ _ _ _ _ _ _;unfold zN;rw[AO,CX];exact av);exact⟨_,js++[m],rfl,u,z,F⟩
  have aG:((m:Int) == (D L:Int))=Z:=ou;have T:m<D L:=oa;have⟨g,bp,x0,X,bu,d1,B⟩:=HL.get T;simp at X;obtain⟨rfl,rfl⟩:=X;have b1:(0:Int)<=(m:Int):=oa;have b2:(m:Int)<(D L:Int):=oa;have aq:=zd (HG.next aE T HQ o.fit);have bz:=X7 N (zi L m) rs;have bh:=zd B;clear p d1 B;go_wp2_with(first
   |(at_builtin;refine wpList_append_own _ rfl _ _ 29 rfl w.heap.size 3 i0 (M J 0) 1 8 underlying29 aX a5 a6 a7 rfl od _ _ _ rfl (AZ n _) _ 1 1 [M J (m:Nat)] rfl rfl (cell_one_new _ _ _) (λx hx=>by simp at hx;subst hx;rfl) Ac oa ou ?_;intro v' l q S aH;obtain⟨xa,xn,xc,rfl⟩:=zq q;have ae:=zd S;have av:=zd q;clear q S aH;have F:zke w l:=(d.alloc _).grown ae (λj b=>Or.inr (zh n j b).1);have d3:=zf F _ _ bh id;have ag:=zd F;clear F)
   |(go_at_call 99;refine zb ?_))
  refine zd ?_;have u:H (l.ownsRow w.heap.size 3 1 (K xa xn xc) (js++[m]).length (zN (js++[m]))):=(by show dA _ _ _ _ _ _ _;unfold zN;rw[AO,CX];exact av);have aW:l.ownsRow w1.heap.size 3 1 (K ra rn rc) (D rs) (zN rs):=zk (P:=λg=>(K ea en ec).ownBlock=I g) (AZ ai _) ((zg.refl _ _).grown ae (λj b=>Or.inl b)) (λg hg e=>by have h1:=(zh ai g hg).1;have h2:=zb bj g e;omega);refine(J3 pb st N W _ rs (zi L m) A l (o.keep ag (λ_ _ f=>f)) (jj.of aW) aR oa).mono ?_;rintro e w5 ⟨tv,rfl,a0,aC⟩;have bk:=zd (ag.trans aC);have bi:=zd (zk u aC (λ_ _ f=>f));have bg:=zd (jj.of a0);clear a0 aC aW;go_wp2;exact⟨⟨m+1,_,js++[m],Ae,oa,oa,oa,by simp;omega,bk,bi,bg,aq,t⟩,Ad⟩
 rw[decide_eq_false r] at s;have t:=zd (ab.2 r);clear ab r;refine s.mono ?_;rintro e w3 ⟨rfl,c⟩;have d:=zd (af.trans c);have n:=zd (zk ad c (λ_ _ f=>f));have ai:=zd (ah.keep c);clear c s af ad ah;by_cases p:m=D L
 .have aG:((m:Int) == (D L:Int))=G:=ou;have z:H (jd (D L) (BY W L N st i 0) js):=TH.all (by rw[<-p];exact t);clear p;go_wp2;go_ret;exact⟨_,js,rfl,n,z,d⟩
 have aG:((m:Int) == (D L:Int))=Z:=ou;have T:m<D L:=oa;have⟨g,bp,x0,X,bu,d1,B⟩:=HL.get T;simp at X;obtain⟨rfl,rfl⟩:=X;have d3:=zf d _ _ B id;have b1:(0:Int)<=(m:Int):=oa;have b2:(m:Int)<(D L:Int):=oa;have HT:=zd (J3 pb st N W _ rs (zi L m) A w3 (o.keep d (λ_ _ f=>f)) ai aR oa);have aq:=zd (HG.next aE T HQ o.fit);have bz:=X7 N (zi L m) rs;clear p d1 B;go_wp2_with(go_at_call 99;refine HT.mono ?_;rintro e l ⟨tv,rfl,aZ,aB⟩;have ag:=zd (d.trans aB);have u:=zd (zk n aB (λ_ _ f=>f));have bf:=zd (jj.of aZ);clear aZ aB);exact⟨⟨m+1,_,js,Ae,oa,oa,oa,oa,ag,u,bf,aq,t⟩,Ad⟩
namespace Tw
theorem zaB (s:Al):∀(f p:Nat) (acc:Ai),F s<p+f->p<=F s->(qb s f p acc).1=acc++(zP s f p).map (λx=>(x.2,x.1))
 |0,p,acc,h,c=>oa
 |f+1,p,acc,h,c=>by
  by_cases a:p<F s
  .have b:=Z0 a;cases h1:xt s p with
   |none=>
    rw[h1] at b;rw[q9 a h1];simp only[zP];rw[b];simp[ahead]
   |some g=>
    (have⟨m,d⟩:=g;rw[h1] at b;have i:=qo h1;have e:zP s (f+1) p=((p:Int),d) :: zP s f (p+m):=by simp only[zP];rw[b];rfl);rw[e,qm a h1,zaB s f (p+m) _ oa oa];simp
  rw[ke a];simp only[zP];rw[show qx s p=U by unfold qx;rw[iN a]];simp
theorem zf2 (s:Al):∀(f p:Nat),∀x∈zP s f p,Cs.isCh x.2=G
 |0,_,x,a=>by simp[zP] at a
 |f+1,p,x,a=>by
  by_cases c:p<F s
  .have b:=Z0 c;cases h1:xt s p with
   |none=>
    rw[h1] at b;simp only[zP] at a;rw[b] at a;simp[ahead] at a
   |some g=>
    (have⟨m,d⟩:=g;rw[h1] at b;have h:=qo h1;have e:zP s (f+1) p=((p:Int),d) :: zP s f (p+m):=by simp only[zP];rw[b];rfl);rw[e] at a;obtain rfl|a:=BZ.1 a;rw[Xl];simp only;omega;exact zf2 s f (p+m) x a
  simp only[zP] at a;rw[show qx s p=U by unfold qx;rw[iN c]] at a;simp at a
end Tw
namespace TC
structure xV (L tx:Ai):Prop where
 map:tx=L.map (λx=>(x.2,x.1))
 ch:∀x∈L,Cs.isCh x.2=G
theorem xV.of (s:Al):xV (zP s (F s+1) 0) (zu s).1:=⟨by
 have:=zaB s (F s+1) 0 [] oa oa;simpa [zu] using this,zf2 s _ _⟩
variable {L tx:Ai}
theorem xV.len (h:xV L tx):D tx=D L:=by rw[h.map];simp
theorem xV.at (h:xV L tx)(k:Nat):kH tx k=zi L k:=by unfold kH zi;rw[h.map,Bo];cases L[k]?<;>rfl
theorem xV.isCh (h:xV L tx){k:Nat}(a:k<D L):Cs.isCh (zi L k)=G:=by rw[Vn a];exact h.ch _ (BO a)
theorem xV.nn (h:xV L tx){k:Nat}(a:k<D L):0<=zi L k:=by have:=(Xl _).1 (h.isCh a);omega
theorem En (h:xV L tx)(T:Tree)(k:Nat):CJ L T k↔FM tx T k:=by unfold CJ FM;rw[h.len,h.at k];constructor;rintro⟨b,a⟩;unfold vg at a;rw[B8] at a;exact⟨b,a.2⟩;rintro⟨b,a⟩;exact⟨b,by unfold vg;rw[h.isCh b,a];rfl⟩
theorem zf3 (h:xV L tx){k:Nat}(a:k<D L):zX 119 (zi L k)=Tw.zH kK (zi L k):=by rw[<-M7,h.isCh a,zcI];rfl
theorem zf4:Tw.zH kK (-1)=Z:=od
theorem Fg (h:xV L tx){k:Nat}(b:k<=D L):Co (zX 119) L k=Tw.zH kK (Bq tx k):=by unfold Co Bq;by_cases a:k=0;subst a;simp[zf4];rw[IN oa,h.at,zf3 h oa,decide_eq_true a];rfl
theorem Fu (h:xV L tx){k:Nat}(b:k<=D L):Cq (zX 119) L k=Tw.zH kK (kH tx k):=by unfold Cq;by_cases a:k=D L;rw[h.at,qi oa,zf4];simp[a];rw[h.at,zf3 h oa,decide_eq_true a];rfl
theorem Ft (h:xV L tx){W:Am}{a:Int}{k:Nat}(b:k<=D L)(f:0<=a/\a<=3)(d:2<=a->W=zX 119):CS W L a k↔FO tx a k:=by unfold CS FO vZ kX Ic Tw.JT;have e:a=0\/a=1\/a=2\/a=3:=oa;obtain rfl|rfl|rfl|rfl:=e;simp only[if_true];unfold Bq;by_cases c:k=0;subst c;simp;rw[IN oa,h.at];have:=h.nn (k:=k-1) oa;simp;omega;simp only[show(1:Int)≠0 by decide,if_false,if_true,show(36:Int)≠94 by decide];rw[h.at];by_cases c:k=D L;rw[qi oa];simp[c];have:=h.nn (k:=k) oa;simp;omega;rw[d oa,Fg h b,Fu h b];simp;rw[d oa,Fg h b,Fu h b];simp
def BV (N:Aq)(W:Am):Prop:=∀(p:Nat) s,N[p]?=I s->s.kind=2->(0<=s.asr/\s.asr<=3)/\(2<=s.asr->W=zX 119)
theorem zdf (h:xV L tx){W:Am}{N:Aq}(e:BV N W){p i q j:Nat}(f:i<=D L):Sm.one (CJ L) (CS W L) N p i q j↔Sm.one (FM tx) (FO tx) N p i q j:=by constructor;rintro⟨s,a,⟨b,c,d⟩|⟨b,c,d⟩|k⟩;exact⟨s,a,Q ⟨b,(En h _ _).1 c,d⟩⟩;exact⟨s,a,O (Q ⟨b,(Ft h f (e p s a b).1 (e p s a b).2).1 c,d⟩)⟩;exact⟨s,a,O (O k)⟩;rintro⟨s,a,⟨b,c,d⟩|⟨b,c,d⟩|k⟩;exact⟨s,a,Q ⟨b,(En h _ _).2 c,d⟩⟩;exact⟨s,a,O (Q ⟨b,(Ft h f (e p s a b).1 (e p s a b).2).2 c,d⟩)⟩;exact⟨s,a,O (O k)⟩
theorem D3 {W:Am}{N:Aq}{p i q j:Nat}(f:i<=D L)(d:Sm.one (CJ L) (CS W L) N p i q j):j<=D L:=by obtain⟨s,g,⟨b,a,e,c⟩|⟨b,a,e,c⟩|⟨b,a,c⟩⟩:=d;have:=a.1;omega;omega;omega
theorem Jn (h:xV L tx){W:Am}{N:Aq}(b:BV N W):∀{k p i q j:Nat},i<=D L->(UA (CJ L) (CS W L) N k p i q j↔UA (FM tx) (FO tx) N k p i q j)
 |0,_,_,_,_,_=>Iff.rfl
 |k+1,p,i,q,j,c=>by
  constructor;rintro⟨f,e,a,d⟩;exact⟨f,e,(zdf h b c).1 a,(Jn h b (D3 c a)).1 d⟩;rintro⟨f,e,a,d⟩;have g:=(zdf h b c).2 a;exact⟨f,e,g,(Jn h b (D3 c g)).2 d⟩
theorem Xv (h:xV L tx){W:Am}{N:Aq}(a:BV N W){p i q j:Nat}(b:i<=D L):BY W L N p i q j↔Sm.Goes (FM tx) (FO tx) N p i q j:=
 ⟨λ⟨k,r⟩=>⟨k,(Jn h a b).1 r⟩,λ⟨k,r⟩=>⟨k,(Jn h a b).2 r⟩⟩
end TC
namespace Tw
theorem zaC (s:Al):∀(f p:Nat) (acc:Ai),F s<p+f->p<=F s->
  ((qb s f p acc).2 = -1/\(zP s f p).foldl (λ_ x=>x.1+jv x.2) (p:Int)=F s)\/
  (∃q:Nat,(qb s f p acc).2=q/\q<F s/\(zP s f p).foldl (λ_ x=>x.1+jv x.2) (p:Int)=q)
 |0,p,acc,h,c=>oa
 |f+1,p,acc,h,c=>by
  by_cases a:p<F s
  .have b:=Z0 a;cases h1:xt s p with
   |none=>
    rw[h1] at b;right;refine⟨p,by rw[q9 a h1],a,?_⟩;simp only[zP];rw[b];rfl
   |some g=>
    have⟨m,d⟩:=g;rw[h1] at b;have i:=qo h1;have e:zP s (f+1) p=((p:Int),d) :: zP s f (p+m):=by
     simp only[zP];rw[b];rfl
    rw[e,qm a h1,List.foldl_cons];have:=zaC s f (p+m) (acc++[(d,(p:Int))]) oa oa;rw[show(p:Int)+jv d=((p+m:Nat):Int) by rw[Gn h1];omega];exact this
  .left;rw[ke a];refine⟨rfl,?_⟩;simp only[zP];rw[show qx s p=U by unfold qx;rw[iN a]];show(p:Int)=F s;omega
theorem Wh:((zu s).2 = -1/\wZ (zP s (F s+1) 0)=F s)\/(0<=(zu s).2/\wZ (zP s (F s+1) 0)=(zu s).2/\wZ (zP s (F s+1) 0)<F s):=by obtain⟨a,b⟩|⟨q,a,b,d⟩:=zaC s (F s+1) 0 [] oa oa;exact Q ⟨a,b⟩;right;have e:wZ (zP s (F s+1) 0)=q:=d;have c:(zu s).2=q:=a;rw[e,c];exact⟨oa,rfl,oa⟩
end Tw
theorem zaD:∀(L:Ai) (j:Nat) (p:Int×Int),L[j]?=I p->(xU L)[j*2]?=I (M J p.1)/\(xU L)[j*2+1]?=I (M Ug p.2)
 | [],j,p,h=>by simp at h
 |(x,y) :: r,0,p,h=>by
  simp only[Ir,Option.some.injEq] at h;subst h;exact⟨rfl,rfl⟩
 |(x,y) :: r,j+1,p,h=>by
  have:=zaD r j p (by simpa using h);rw[show(j+1)*2=j*2+2 by omega];exact this
theorem X8 (h:dA w base 207 2 v (D L) (xU L)):(v=K U 0 0/\L=[])\/∃g cap,v=K (I ⟨g,0,U⟩) (D L) cap/\(D L)<=cap/\g<X (A w)/\TJ w g L:=by
 have a:=h;have⟨m,d⟩:=h;obtain⟨rfl,l⟩|⟨g,cap,k,rfl,n,f,e,q,r,s⟩:=d
 grind
 refine O ⟨g,cap,rfl,e,(A1.1 f).1,?_⟩;intro j p i;have o:j<D L:=by grind
 have⟨b,c⟩:=zaD L j p i;exact⟨(a.cellAt _ oa).trans b,(a.cellAt _ oa).trans c⟩
theorem Xw (f p:Nat):Ts.Fit (zP s f p):=by
 intro k;unfold zi;cases h:(zP s f p)[k]? with
 |none=>simp
 |some x=>
  have:=K1 s f p x (Bg h);simp only[];omega
theorem MP {r:Int}(h:dA w base 207 2 v (D L) (xU L)):yg (q w (Ub #[v,M J 0,M J r,M J 0] 134)) (X (A w)) L 0 r 0:=by refine⟨?_,zj w _ rfl _ _ 1 _ rfl,zj w _ rfl _ _ 2 _ rfl,zj w _ rfl _ _ 3 _ rfl,zt w _ rfl _ _ 1,zt w _ rfl _ _ 3⟩;obtain⟨rfl,rfl⟩|⟨g,a,rfl,b,c,d⟩:=X8 h;simp_all;exact Q ⟨g,a,zj w _ rfl _ _ 0 _ rfl,b,c,d.keep ((zg.refl (λ_=>False) w).alloc _) id⟩
theorem jH (b:Int)(i:(s.size:Int)<=b)(j:s.size<=400)(w:E)(a:Nat->Addr)(h:ym w a)(k:10<=X (A w))(m:(zu s).2<0):Uh V 46 #[Uc s,M J b] w λx c=>∃v,x=R (Ue #[v,Ui])/\c.ownsRow (X (A w)+3) 207 2 v (zP s (s.size+1) 0).length (xU (zP s (s.size+1) 0))/\zke w c:=by refine(Kt s b i j w _ _ h.s1 k).mono ?_;rintro e c ⟨g,⟨_,v,d,f⟩|⟨l,_⟩⟩;exact⟨v,d,f,g⟩;obtain⟨_,f⟩|⟨d,_,_⟩:=Wh s;omega;omega
theorem YF (d:Int)(j:(s.size:Int)<=d)(k:s.size<=400)(w:E)(a:Nat->Addr)(i:ym w a)(l:10<=X (A w))(n:0<=(zu s).2):Uh V 46 #[Uc s,M J d] w λx f=>∃v,x=R (Ue #[K U 0 0,v])/\zJ f (X (A w)) v (z7 a 1) (zu s).2/\zke w f:=by refine(Kt s d j k w _ _ i.s1 l).mono ?_;rintro e f ⟨h,⟨m,_⟩|⟨_,v,g,b⟩⟩;obtain⟨b,_⟩|⟨_,b,c⟩:=Wh s;omega;omega;obtain⟨c,_⟩|⟨_,c,_⟩:=Wh s;omega;rw[c] at b;exact⟨v,g,b,h⟩
theorem wH (b:Int)(i:b<(s.size:Int))(w:E)(a:Nat->Addr)(f:ym w a):Uh V 46 #[Uc s,M J b] w λx c=>∃v,x=R (Ue #[K U 0 0,v])/\zJ c (X (A w)) v (z7 a 2) b/\zke w c:=by have h:=f.s2;unfold z7 at h ⊢;go_enter func46,ntmps46;go_wp2_with(go_at_call 55;refine(jt _ _ _ _).mono ?_;rintro e j ⟨v,rfl,g,d⟩);go_ret2;exact⟨v,rfl,g,d⟩
variable (w)
theorem zbv (b:ym w a)(l:200<F s):Uh V 29 #[Uc s] w λx d=>∃v,x=R (Ue #[Ui,v])/\zJ d (X (A w)) v (z7 a 2) 200/\zke w d:=by have f:=zd b;go_enter func29,ntmps29;go_wp2_with(go_at_call 46;refine(wH s 200 oa _ a f).mono ?_;rintro e m ⟨v,rfl,c,j⟩;have h:=zd c;obtain⟨g,k,rfl,i,f1⟩:=c);go_ret2;exact⟨_,rfl,h,j⟩
theorem zbw (b:ym w a)(m:10<=X (A w))(o:F s<=200)(c:0<=(zu s).2):Uh V 29 #[Uc s] w λx f=>∃v,x=R (Ue #[Ui,v])/\zJ f (X (A w)) v (z7 a 1) (zu s).2/\zke w f:=by have i:=zd b;have h:=zd c;go_enter func29,ntmps29;go_wp2_with(go_at_call 46;refine(YF s 200 oa oa _ a i m h).mono ?_;rintro e p ⟨v,rfl,d,l⟩;have j:=zd d;obtain⟨g,n,rfl,k,f1⟩:=d);go_ret2;exact⟨_,rfl,j,l⟩
open Sm (Tree yI)
theorem GW {r:Int}{a:Nat->Addr}{w:E}(h:yg w b L 0 r 0)(j:ym w a)(l:10<=b)(g:D L<=400)(f:Ts.Fit L)(o:0<=D L)(m:(yQ L r (zB L r 10) 0).k≠0):Uh V 52 #[Ua (I ⟨b,0,U⟩)] w λx c=>∃v,x=R (Ue #[Ui,v])/\zJ c (X (A w)) v (z7 a (yQ L r (zB L r 10) 0).k) (yQ L r (zB L r 10) 0).p/\zg (zr b) w c:=by refine(kT b L 0 r a w h j l g oa f).mono ?_;rintro e c ⟨i,q,⟨d,_⟩|⟨_,v,rfl,n⟩⟩;exact absurd d m;exact⟨v,rfl,n,i⟩
theorem Fq {r:Int}{a:Nat->Addr}{w:E}(h:yg w b L 0 r 0)(p:ym w a)(q:10<=b)(l:D L<=400)(j:Ts.Fit L)(d:0<=D L)(f:(yQ L r (zB L r 10) 0).k=0):Uh V 52 #[Ua (I ⟨b,0,U⟩)] w λx c=>∃T y F,x=R (Ue #[Ud T y,Ui])/\yt F c (λg=>X (A w)<=g) (Ud T y) (yQ L r (zB L r 10) 0).v/\yg c b L (yQ L r (zB L r 10) 0).n r 0/\zg (zr b) w c:=by refine(kT b L 0 r a w h p q l d j).mono ?_;intro e c s;obtain⟨T,y,F,rfl,i,m,o⟩:=jD s f;exact⟨T,y,F,rfl,by rw[<-(zcE 10 0 d f).at i.wf];exact i.size,o,m⟩
theorem zdg (j:ym w a)(B:10<=dg (A w))(S:dJ s<=200)(u:(zu s).2<0)(L:Ai)(c:zP s (dJ s+1) 0=L)(o:Ts.Out)(k:yQ L s.size (zB L s.size 10) 0=o)(z:o.k≠0):Uh V 29 #[Uc s] w λx l=>∃v,x=R (Ue #[Ui,v])/\zJ l (dg (A w)) v (z7 a o.k) o.p/\zke w l:=by
 have n:H (D L<=400):=by have:=Za s (dJ s+1) 0;rw[c] at this;show _<=_;omega
 have m:H (Ts.Fit L):=by rw[<-c];exact Xw s _ _
 have h:=zd j;have N:=zd k;have F:=zd c;subst k;subst c;go_enter func29,ntmps29;go_wp2_with(first|(go_at_call 46;refine(jH s 200 oa oa _ a h B u).mono ?_;rintro e w1 ⟨v,rfl,b,d⟩;have p:=zd b;obtain⟨W,pn,X,rfl⟩:=zq b;have T:=d.size)|(go_at_call 52;refine(GW (MP p) (h.keep (d.alloc _) (λ_ _ f=>f)) oa n m oa z).mono ?_;rintro e w2 ⟨v,rfl,b,t⟩;have q:=zd b;obtain⟨g,P,rfl,r,f1⟩:=b));go_ret2;exact⟨_,rfl,q.base ou,(d.alloc _).later t (λi y=>by unfold zr at y;omega)⟩
theorem zbx (p:ym w a)(hw:10<=dg (A w))(hs:s.size<=200)(P:(zu s).2<0)(L:Ai)(c:zP s (s.size+1) 0=L)(o:Ts.Out)(q:yQ L s.size (zB L s.size 10) 0=o)(W:o.k=0)(hn:o.n≠(Bc L)):Uh V 29 #[Uc s] w λx t=>∃v,x=R (Ue #[Ui,v])/\zJ t (dg (A w)) v (z7 a 3) (zA L s.size o.n)/\zke w t:=by
 have k:H (Bc L<=400):=by have:=Za s (s.size+1) 0;rw[c] at this;show _<=_;omega
 have z:H (Ts.Fit L):=by rw[<-c];exact Xw s _ _
 have g:=zd p;have HO:=zd q;have HE:=zd c;subst q;subst c;have S:=Ys (L:=zP s (s.size+1) 0) (r:=( s.size:Int)) (D:=zB (zP s (s.size+1) 0) ( s.size:Int) 10) (qS 10) 0 oa;have ah:(((yQ (zP s (s.size+1) 0) ( s.size:Int) (zB (zP s (s.size+1) 0) ( s.size:Int) 10) 0).n:Int) == ((zP s (s.size+1) 0).length:Int))=Z:=by simp;omega
 go_enter func29,ntmps29;go_wp2_with(first|(go_at_call 46;refine(jH s 200 oa oa _ a g hw P).mono ?_;rintro e u ⟨v,rfl,b,d⟩;have B:=zd b;obtain⟨pa,pn,pc,rfl⟩:=zq b;have aj:=d.size)|(go_at_call 52;refine(Fq (MP B) (g.keep (d.alloc _) (λ_ _ f=>f)) oa k z oa W).mono ?_;rintro e w2 ⟨T,y,F,rfl,b,m,h⟩;have af:=zd b;have l:=zd m;have ab:=h.size;simp only[Iu] at ab)|(go_at_call 53;refine(vw (dg (A u)) _ _ _ _ _ l).mono ?_;rintro e wq ⟨rfl,q1,rfl⟩)|(go_at_call 54;refine(vJ (dg (A u)) _ _ _ _ a _ (l.drewN _) (ym.drewN (g.keep ((d.alloc _).later h (λi j=>by unfold zr at j;omega)) (λ_ _ f=>f)) _) k S.2.1).mono ?_;rintro e w3 ⟨v3,rfl,X,N⟩));go_ret2;exact⟨v3,rfl,X.base ou,((d.alloc _).later h (λi j=>by unfold zr at j;omega)).trans (zg.N6 N)⟩
theorem zdh (q:ym w a)(hw:10<=dg (A w))(hs:s.size<=200)(X:(zu s).2<0)(L:Ai)(d:zP s (s.size+1) 0=L)(o:Ts.Out)(h:yQ L s.size (zB L s.size 10) 0=o)(u:o.k=0)(hn:o.n=Bc L)(b:300<=o.v):Uh V 29 #[Uc s] w λx c=>∃v,x=R (Ue #[Ui,v])/\zJ c (dg (A w)) v (z7 a 8) 0/\zke w c:=by
 have B:H (Bc L<=400):=by have:=Za s (s.size+1) 0;rw[d] at this;show _<=_;omega
 have z:H (Ts.Fit L):=by rw[<-d];exact Xw s _ _
 have j:=zd q;have HO:=zd h;have HE:=zd d;subst h;subst d;have aa:=Ys (L:=zP s (s.size+1) 0) (r:=( s.size:Int)) (D:=zB (zP s (s.size+1) 0) ( s.size:Int) 10) (qS 10) 0 oa;have an:(((yQ (zP s (s.size+1) 0) ( s.size:Int) (zB (zP s (s.size+1) 0) ( s.size:Int) 10) 0).n:Int) == ((zP s (s.size+1) 0).length:Int))=G:=by simp;omega
 have al:=aa.2.2 u;have t:∀c,zke w c->dx c ⟨0,0,U⟩=I (z7 a 8):=λc h=>(j.keep h (λ_ _ f=>f)).s8;unfold z7 at t ⊢;go_enter func29,ntmps29;go_wp2_with(first|(go_at_call 46;refine(jH s 200 oa oa _ a j hw X).mono ?_;rintro e w1 ⟨v,rfl,b,g⟩;have P:=zd b;obtain⟨pa,pn,pc,rfl⟩:=zq b;have ap:=g.size)|(go_at_call 52;refine(Fq (MP P) (j.keep (g.alloc _) (λ_ _ f=>f)) oa B z oa u).mono ?_;rintro e w2 ⟨T,y,F,rfl,b,p,k⟩;have S:=zd b;have N:=zd p;have ad:=k.size;simp only[Iu] at ad)|(go_at_call 53;refine(vw (dg (A w1)) _ _ _ _ _ N).mono ?_;rintro e wq ⟨rfl,q1,rfl⟩)|(go_at_call 32;refine(vX F _ _ _ _ (yt.drewN S _)).mono ?_;rintro e w3 ⟨rfl,l⟩);have s8:=t w3 (((g.alloc _).later k (λi m=>by unfold zr at m;omega)).trans (zg.N6 l));have ae:=l.size|(go_at_call 55;refine(jt _ _ _ _).mono ?_;rintro e w4 ⟨v4,rfl,ab,W⟩));go_ret2;exact⟨v4,rfl,ab.base (by simp at ae;omega),(((g.alloc _).later k (λi m=>by unfold zr at m;omega)).trans (zg.N6 l)).trans W⟩
theorem GV {r:Int}{a:Nat->Addr}{w:E}(h:yg w b L 0 r 0)(p:ym w a)(q:10<=b)(l:D L<=400)(j:Ts.Fit L)(d:0<=D L)(f:(yQ L r (zB L r 10) 0).k=0):Uh V 52 #[Ua (I ⟨b,0,U⟩)] w λx c=>∃T y F,x=R (Ue #[Ud T y,Ui])/\zC F c (λg=>X (A w)<=g) (Ud T y) (wV L r (zB L r 10) (qL L r 10) 0)/\yI F (wV L r (zB L r 10) (qL L r 10) 0)=(yQ L r (zB L r 10) 0).v/\yg c b L (yQ L r (zB L r 10) 0).n r 0/\zg (zr b) w c:=by refine(kT b L 0 r a w h p q l d j).mono ?_;intro e c s;obtain⟨T,y,F,rfl,i,m,o⟩:=jD s f;exact⟨T,y,F,rfl,i,(zcE 10 0 d f).at i.wf,o,m⟩
theorem zdi (q:ym w a)(hw:10<=dg (A w))(hs:s.size<=200)(hc:(zu s).2<0)(L:Ai)(c:zP s (s.size+1) 0=L)(o:Ts.Out)(u:yQ L s.size (zB L s.size 10) 0=o)(t:o.k=0)(hn:o.n=Bc L)(b:o.v<300):Uh V 29 #[Uc s] w λx z=>(∃T y F,x=R (Ue #[Ud T y,Ui])/\zC F z (λg=>dg (A w)<=g) (Ud T y) (wV L s.size (zB L s.size 10) (qL L s.size 10) 0)/\yI F (wV L s.size (zB L s.size 10) (qL L s.size 10) 0)=o.v)/\zke w z:=by
 have P:H (Bc L<=400):=by have:=Za s (s.size+1) 0;rw[c] at this;show _<=_;omega
 have N:H (Ts.Fit L):=by rw[<-c];exact Xw s _ _
 have j:=zd q;have HO:=zd u;have HE:=zd c;subst u;subst c;have ad:=Ys (L:=zP s (s.size+1) 0) (r:=( s.size:Int)) (D:=zB (zP s (s.size+1) 0) ( s.size:Int) 10) (qS 10) 0 oa;have al:(((yQ (zP s (s.size+1) 0) ( s.size:Int) (zB (zP s (s.size+1) 0) ( s.size:Int) 10) 0).n:Int) == ((zP s (s.size+1) 0).length:Int))=G:=by simp;omega
 have aj:=ad.2.2 t;go_enter func29,ntmps29;go_wp2_with(first|(go_at_call 46;refine(jH s 200 oa oa _ a j hw hc).mono ?_;rintro e w1 ⟨v,rfl,b,d⟩;have W:=zd b;obtain⟨pa,pn,pc,rfl⟩:=zq b;have an:=d.size)|(go_at_call 52;refine(GV (MP W) (j.keep (d.alloc _) (λ_ _ f=>f)) oa P N oa t).mono ?_;rintro e w2 ⟨T,y,F,rfl,b,h,p,l⟩;have X:=zd b;have B:=zd h;have k:=zd b.size;rw[h] at k;have S:=zd p;have af:=l.size;simp only[Iu] at af)|(go_at_call 53;refine(vw (dg (A w1)) _ _ _ _ _ S).mono ?_;rintro e wq ⟨rfl,q1,rfl⟩)|(go_at_call 32;refine(vX F _ _ _ _ (yt.drewN k _)).mono ?_;rintro e w3 ⟨rfl,m⟩));go_ret2;exact⟨⟨T,y,F,rfl,zC.keep m (λ_ _ f=>f) F _ _ (zC.keep ((zg.refl (λ_=>False) _).drewN _) (λ_ _ f=>f) F _ _ (zC.mono (λg _ hg=>by simp at hg;omega) F _ _ X)),B⟩,((d.alloc _).later l (λi hi=>by unfold zr at hi;omega)).trans (zg.N6 m)⟩
end
section
open Go.RowKit Go.Extern.Stop Go.Stop Go.Extern
theorem Tryz.OT (w:E):(Extern.ReflectliteType.typeOf #[Ud 421 v]).run V w=.ok (Ud 303 (Uf #[Ua (I ⟨15,421,U⟩)])) w:=om
theorem Tryz.Oe: ((Extern.ReflectliteType.method fun t => do Rtype.noPackHeld "Comparable" t; (fun a => C a.comparable) <$> typeInfo t) #[Uf #[Ua (I ⟨15, 421, U⟩)]]).run V w = .ok (C G) w := by kernel_rfl
theorem Tryz.OU (w:E) : (Go.method 552 303 v "Comparable").run V w = .ok (325, v) w := by kernel_rfl
theorem Tryz.Rj:(prog.info? 421).map (·.comparable)=I G:=om
theorem Tryz.Rf:(prog.info? 440).map (·.size)=I 1:=om
theorem Tryz.Ri (w:E):(Uk (Ud 421 v) c 305 G).run V w=.ok (Ue #[Ui,C Z]) w:=run_typeAssert_lacksB underlying305 om om v c w
theorem Tryz.Rh (w:E):(Uk (Ud 421 v) c 308 G).run V w=.ok (Ue #[Ui,C Z]) w:=run_typeAssert_lacksB underlying308 om om v c w
theorem Tryz.Pz (w:E):(Uk (Ud 421 v) c 309 G).run V w=.ok (Ue #[Ui,C Z]) w:=run_typeAssert_lacksB underlying309 om om v c w
theorem Tryz.Re (w:E):(Uk (Ud 139 v) c 305 G).run V w=.ok (Ue #[Ui,C Z]) w:=run_typeAssert_lacksB underlying305 om om v c w
theorem Tryz.fUn (w:E):(Uk (Ud 139 v) c 308 G).run V w=.ok (Ue #[Ud 139 v,C G]) w:=run_typeAssert_hasB underlying308 om v c w
theorem Tryz.OS (w:E) : (Go.method 552 139 v "Unwrap").run V w = .ok (311, v) w := by kernel_rfl
theorem IW (b:Addr)(w:E)(h:B w ⟨g,0,U⟩=I (Ud 421 (Ua (I b)))):Uh V 56 #[Ud 139 (Ua (I ⟨g,0,U⟩)),Ud 421 (Ua (I b))] w λe f=>e=R (C G)/\f=w:=by
 obtain ⟨i,c,a⟩:=Cj.1 Tryz.Rj;obtain ⟨j,d,l⟩:=Cj.1 Tryz.Rf;have y:=@run_callFunc_extern V 103 _ Extern.ReflectliteType.typeOf func103 (by kernel_rfl) (by kernel_rfl) (by kernel_rfl) (by kernel_rfl);have z := @run_callFunc_extern V 325 _ (Extern.ReflectliteType.method fun t => do Rtype.noPackHeld "Comparable" t; pure (C (← typeInfo t).comparable)) func325 (by kernel_rfl) (by kernel_rfl) (by kernel_rfl) (by kernel_rfl);have n:=Tryz.OT;have o:=Tryz.Oe;have p:=Tryz.OU;have q:=Tryz.Ri;have r:=Tryz.Rh;have s:=Tryz.Pz;have u:=Tryz.Re;have v:=Tryz.fUn;have x:=Tryz.OS;have k:=run_eql_iface_ptr_same (P:=V) w b underlying91 underlying421 c a d;have m:=run_eql_iface_types (P:=V) 139 421 (Ua (I ⟨g,0,U⟩)) (Ua (I b)) underlying91 (by decide) w;go_enter func56,ntmps56;go_wp2;refine wp_loop_rounds 2 ?_;rw [rounds_succ];go_wp2;rw [rounds_succ];go_wp2;go_ret;exact ⟨rfl,rfl⟩
theorem is_no (b c:Addr)(a d:Array Y)(p tc:TypeId)(w:E)(r:dx w ⟨g,0,U⟩=I (Ud 421 (Ua (I c))))(o:c≠b)(h:w.heap[c.block]?=I (Ub d tc (0,0)))(f:w.heap[b.block]?=I (Ub a p (0,0))):Uh V 56 #[Ud 139 (Ua (I ⟨g,0,U⟩)),Ud 421 (Ua (I b))] w λe q=>e=R (C Z)/\q=w:=by
 obtain ⟨i,l,k⟩:=Cj.1 Tryz.Rj;obtain ⟨j,m,n⟩:=Cj.1 Tryz.Rf;have T:=@run_callFunc_extern V 103 _ Extern.ReflectliteType.typeOf func103 (by kernel_rfl) (by kernel_rfl) (by kernel_rfl) (by kernel_rfl);have W := @run_callFunc_extern V 325 _ (Extern.ReflectliteType.method fun t => do Rtype.noPackHeld "Comparable" t; pure (C (← typeInfo t).comparable)) func325 (by kernel_rfl) (by kernel_rfl) (by kernel_rfl) (by kernel_rfl);have v:=Tryz.OT;have x:=Tryz.Oe;have y:=Tryz.OU;have z:=Tryz.Ri;have B:=Tryz.Rh;have F:=Tryz.Pz;have L:=Tryz.Re;have N:=Tryz.fUn;have S:=Tryz.OS;have s:=run_eql_iface_ptr_other (P:=V) w underlying91 underlying421 l k m (by rw [n];decide) o h f;have u:=run_eql_iface_types (P:=V) 139 421 (Ua (I ⟨g,0,U⟩)) (Ua (I b)) underlying91 (by decide) w;go_enter func56,ntmps56;go_wp2;refine wp_loop_rounds 2 ?_;rw [rounds_succ];go_wp2;rw [rounds_succ];go_wp2;go_ret;exact ⟨rfl,rfl⟩
end
section
open Go.RowKit
structure j7 (w:E)(a:Nat->Addr):Prop where
 row:∀k,1<=k->k<=10->∃c t,w.heap[(a k).block]?=I (Ub c t (0,0))
 ne:∀j k,1<=j->j<=10->1<=k->k<=10->j≠k->a j≠a k
 s9:B w ⟨7,0,U⟩=I (z7 a 9)
 s10:B w ⟨8,0,U⟩=I (z7 a 10)
theorem j7.keep {w d:E}{a:Nat->Addr}(h:j7 w a)(k:zke w d):j7 d a:=
 ⟨λj e g=>by
  have⟨c,t,b⟩:=h.row j e g;exact⟨c,t,(k.block _ (A1.1 b).1 id).trans b⟩,h.ne,(k.cell (zic w _ h.s9) id).trans h.s9,(k.cell (zic w _ h.s10) id).trans h.s10⟩
theorem j7.is_no {w:E}{a:Nat->Addr}(h:j7 w a)(g j k:Nat)(m:B w ⟨g,0,U⟩=I (z7 a k))(b:1<=j)(c:j<=10)(d:1<=k)(f:k<=10)(p:k≠j):Uh V 56 #[Ud 139 (Ua (I ⟨g,0,U⟩)),Ud 421 (Ua (I (a j)))] w λe s=>e=R (C Z)/\s=w:=by have⟨i,q,n⟩:=h.row j b c;have⟨l,r,o⟩:=h.row k d f;exact _root_.Go.Proofs.YtofeiledkmfnfaaGreatDoor.is_no g (a j) (a k) i l q r w m (λe=>h.ne k j d f b c p e) o n
variable {w a}
theorem j7.is (h:j7 w a)(g k:Nat)(b:B w ⟨g,0,U⟩=I (z7 a k))(f:1<=k)(i:k<=10)(j:Nat)(c:1<=j)(d:j<=10):Uh V 56 #[Ud 139 (Ua (I ⟨g,0,U⟩)),Ud 421 (Ua (I (a j)))] w λe l=>e=R (C (decide (k=j)))/\l=w:=by by_cases e:k=j;subst e;rw[decide_eq_true rfl];exact IW g (a k) w b;rw[decide_eq_false e];exact h.is_no g j k b c d f i e
theorem Xx (a:Nat->Addr)(w:E)(h:ym w a)(c:j7 w a)(d:1<=k)(i:k<=8)(b:B w ⟨g,0,U⟩=I (z7 a k)):Uh V 30 #[Ud 139 (Ua (I ⟨g,0,U⟩))] w λe u=>e=R (M J k)/\u=w:=by
 have f:=zd (c.is g k b d oa);have⟨_,_,t,l⟩:=c;have⟨j,m,n,o,p,q,r,s⟩:=h;unfold z7 at j m o p q r s t l;obtain rfl|rfl|rfl|rfl|rfl|rfl|rfl|rfl:k=1\/k=2\/k=3\/k=4\/k=5\/k=6\/k=7\/k=8:=oa
 all_goals
  go_enter func30,ntmps30;go_wp2_with(go_at_call 56;refine AL (zb f _ od od) ?_);go_ret;exact⟨rfl,rfl⟩
end
section
open Go.RowKit Go.Extern.Stop Go.Stop Go.Extern
theorem Tryz.OE (t:Addr)(w:E):(ReflectliteValue.unpack (Ud 141 (Ua (I t)))).run V w = .ok (Uf #[Ua (I ⟨15,141,U⟩),Ua (I ⟨X (A w),0,U⟩),M .u64 150]) (q w (Ub #[Ua (I t)] 141)):=om
theorem Tryz.PU (a : Addr) (w : E) : (ReflectliteValue.methodAny (ReflectliteValue.valueError "reflectlite.Value.Type" 0) (fun t _ _ _ => ReflectliteType.toType t) #[Uf #[Ua (I ⟨15, 141, U⟩), Ua (I a), M .u64 150]]).run V w
  = .ok (Ud 303 (Uf #[Ua (I ⟨15,141,U⟩)])) w:=om
theorem Tryz.Ov: (Go.method 552 303 (Uf #[h]) "Kind").run V w = .ok (307, h) w := by kernel_rfl
theorem Tryz.PW:((ReflectliteType.abiMethod λt=>(λa:Nat=>M IntKind.u8 (a:Int)) <$> Rtype.kind t) #[Ua (I ⟨15,141,U⟩)]).run V w=.ok (M .u8 22) w:=om
theorem Tryz.Rs:((ReflectliteType.abiMethod λt=>(λa:Nat=>M IntKind.u8 (a:Int)) <$> Rtype.kind t) #[Ua (I ⟨15,139,U⟩)]).run V w=.ok (M .u8 22) w:=om
theorem Tryz.Ou (a:Addr)(w:E):(ReflectliteValue.parts (Uf #[Ua (I ⟨15,141,U⟩),Ua (I a),M .u64 150])).run V w=.ok (I (141,a,150)) w:=om
theorem Tryz.Pf (a p:Addr)(W:E)(b:B W a=I (Ua (I p))) :
  (ReflectliteValue.method (ReflectliteValue.valueError "reflectlite.Value.IsNil" 0) ReflectliteValue.isNil #[Uf #[Ua (I ⟨15, 141, U⟩), Ua (I a), M .u64 150]]).run V W = .ok (C Z) W := by
 show(ReflectliteValue.parts (Uf #[Ua (I ⟨15,141,U⟩),Ua (I a),M .u64 150]) >>= _:Sem Y).run V W=_;simp only[Sem.run_bind,Tryz.Ou,Result.andThen];simp[ReflectliteValue.isNil,loadVar,isAgg,underlying,underlying141,b,Result.andThen]
theorem Tryz.Ow: (Go.method 552 303 (Uf #[h]) "Elem").run V w = .ok (326, Uf #[h]) w := by kernel_rfl
theorem Tryz.Oa: (Go.method 552 303 (Uf #[h]) "Implements").run V w = .ok (327, Uf #[h]) w := by kernel_rfl
theorem Tryz.N8: (Go.method 552 303 (Uf #[h]) "AssignableTo").run V w = .ok (324, Uf #[h]) w := by kernel_rfl
theorem Tryz.PX:(ReflectliteType.method ReflectliteType.elem #[Uf #[Ua (I ⟨15,141,U⟩)]]).run V w=.ok (Ud 303 (Uf #[Ua (I ⟨15,139,U⟩)])) w:=om
theorem Tryz.On: (ReflectliteType.relation "Implements" ReflectliteType.implements_ #[Uf #[Ua (I ⟨15, 139, U⟩)], Ud 303 (Uf #[Ua (I ⟨15, 91, U⟩)])]).run V w = .ok (C G) w := by kernel_rfl
theorem Tryz.Pd (w:E):(ReflectliteType.typeOf #[Ud 139 v]).run V w=.ok (Ud 303 (Uf #[Ua (I ⟨15,139,U⟩)])) w:=om
theorem Tryz.Oo: (ReflectliteType.relation "AssignableTo" ReflectliteType.assignableTo #[Uf #[Ua (I ⟨15, 139, U⟩)], Ud 303 (Uf #[Ua (I ⟨15, 139, U⟩)])]).run V w = .ok (C G) w := by kernel_rfl
theorem Tryz.OX:(ReflectliteValue.unpack (Ud 139 (Ua (I e)))).run V w = .ok (Uf #[Ua (I ⟨15,139,U⟩),Ua (I ⟨X (A w),0,U⟩),M .u64 150]) (q w (Ub #[Ua (I e)] 139)):=om
theorem Tryz.OY:(Rtype.elem? 141).run V w=.ok (I 139) w:=om
theorem Tryz.SF (p:Addr)(w:E):(ReflectliteValue.mk 139 p ReflectliteValue.flagAddr).run V w=.ok (Uf #[Ua (I ⟨15,139,U⟩),Ua (I p),M .u64 406]) w:=om
theorem Tryz.Pg (a p:Addr)(W:E)(b:B W a=I (Ua (I p))) :
  (ReflectliteValue.method (ReflectliteValue.valueError "reflectlite.Value.Elem" 0) ReflectliteValue.elem #[Uf #[Ua (I ⟨15, 141, U⟩), Ua (I a), M .u64 150]]).run V W
   = .ok (Uf #[Ua (I ⟨15,139,U⟩),Ua (I p),M .u64 406]) W:=by
 show(ReflectliteValue.parts (Uf #[Ua (I ⟨15,141,U⟩),Ua (I a),M .u64 150]) >>= _:Sem Y).run V W=_;simp only[Sem.run_bind,Tryz.Ou,Result.andThen];simp[ReflectliteValue.elem,loadVar,isAgg,underlying,underlying141,b,Result.andThen,Tryz.OY,Tryz.SF]
theorem Tryz.Pe (a:Addr)(w:E):(ReflectliteValue.parts (Uf #[Ua (I ⟨15,139,U⟩),Ua (I a),M .u64 406])).run V w=.ok (I (139,a,406)) w:=om
theorem Tryz.PV (a:Addr)(w:E):(ReflectliteValue.parts (Uf #[Ua (I ⟨15,139,U⟩),Ua (I a),M .u64 150])).run V w=.ok (I (139,a,150)) w:=om
theorem Tryz.Ph:(Rtype.directlyAssignable 139 139).run V w=.ok G w:=om
theorem Tryz.RN (a b e:Addr)(old:Y)(W:E)(c:B W b=I (Ua (I e)))(f:B W a=I old)(d:dz W a=Z):(ReflectliteValue.set #[Uf #[Ua (I ⟨15,139,U⟩),Ua (I a),M .u64 406],Uf #[Ua (I ⟨15,139,U⟩),Ua (I b),M .u64 150]]).run V W = .ok (Ue #[]) (dC W a (Ua (I e))):=by show(ReflectliteValue.parts (Uf #[Ua (I ⟨15,139,U⟩),Ua (I a),M .u64 406]) >>= λy=>ReflectliteValue.parts (Uf #[Ua (I ⟨15,139,U⟩),Ua (I b),M .u64 150]) >>= _:Sem Y).run V W=_;simp only[Sem.run_bind,Tryz.Pe,Tryz.PV,Result.andThen];simp[ReflectliteValue.flagAddr,loadVar,isAgg,underlying,underlying139,c,Result.andThen,Tryz.Ph,storeVar,Value.cells,storeCells,Addr.add];rw[run_store V W a _ _ (by rfl)];simp[f,d]
theorem I7 (t:Addr)(old:Y)(w:E)(a:dx w ⟨10,0,U⟩=I (Ud 303 (Uf #[Ua (I ⟨15,91,U⟩)])))(b:dx w t=I old)(g:dz w t=Z):Uh V 57 #[Ud 139 (Ua (I e)),Ud 141 (Ua (I t))] w λf i=>f=R (C G)/\i=((((dB w (Ub #[Ua (I t)] 141)).alloc (Ub #[Ua (I ⟨15,141,U⟩),Ua (I ⟨dg (A w),0,U⟩),M .u64 150] 236)).alloc (Ub #[Ua (I ⟨15,141,U⟩),Ua (I ⟨dg (A w),0,U⟩),M .u64 150] 236)).alloc (Ub #[Ua (I e)] 139)).setCell t (Ua (I e)):=by
 have x:=@run_callFunc_extern V 105 _ (fun d=>ReflectliteValue.unpack (d.getD 0 (Ue #[]))) func105 (by kernel_rfl) (by kernel_rfl) (by kernel_rfl) (by kernel_rfl);have y := @run_callFunc_extern V 106 _ (ReflectliteValue.methodAny (ReflectliteValue.valueError "reflectlite.Value.Type" 0) (fun t _ _ _ => ReflectliteType.toType t)) func106 (by kernel_rfl) (by kernel_rfl) (by kernel_rfl) (by kernel_rfl);have z := @run_callFunc_extern V 107 _ (ReflectliteValue.method (ReflectliteValue.valueError "reflectlite.Value.IsNil" 0) ReflectliteValue.isNil) func107 (by kernel_rfl) (by kernel_rfl) (by kernel_rfl) (by kernel_rfl);have r:=@run_callFunc_extern V 307 _ (ReflectliteType.abiMethod fun t=>do pure (M .u8 (<-Rtype.kind t))) func307 (by kernel_rfl) (by kernel_rfl) (by kernel_rfl) (by kernel_rfl);have u:=@run_callFunc_extern V 326 _ (ReflectliteType.method ReflectliteType.elem) func326 (by kernel_rfl) (by kernel_rfl) (by kernel_rfl) (by kernel_rfl);have v := @run_callFunc_extern V 327 _ (ReflectliteType.relation "Implements" ReflectliteType.implements_) func327 (by kernel_rfl) (by kernel_rfl) (by kernel_rfl) (by kernel_rfl);have o:=@run_callFunc_extern V 103 _ ReflectliteType.typeOf func103 (by kernel_rfl) (by kernel_rfl) (by kernel_rfl) (by kernel_rfl);have s := @run_callFunc_extern V 324 _ (ReflectliteType.relation "AssignableTo" ReflectliteType.assignableTo) func324 (by kernel_rfl) (by kernel_rfl) (by kernel_rfl) (by kernel_rfl);have p := @run_callFunc_extern V 149 _ (ReflectliteValue.method (ReflectliteValue.valueError "reflectlite.Value.Elem" 0) ReflectliteValue.elem) func149 (by kernel_rfl) (by kernel_rfl) (by kernel_rfl) (by kernel_rfl);have q:=@run_callFunc_extern V 150 _ ReflectliteValue.set func150 (by kernel_rfl) (by kernel_rfl) (by kernel_rfl) (by kernel_rfl);have tO:=Tryz.Pd;have P:=Tryz.N8;have j:=Tryz.Oo;have vP:=Tryz.OX;have m:=Tryz.OE;have n:=Tryz.PU;have W:=Tryz.Ov;have S:=Tryz.Ow;have T:=Tryz.Oa;have N:=Tryz.PW;have L:=Tryz.Rs;have k:=Tryz.PX;have F:=Tryz.On;have X:=Tryz.Pf ⟨dg (A w),0,U⟩ t ((dB w (Ub #[Ua (I t)] 141)).alloc (Ub #[Ua (I ⟨15,141,U⟩),Ua (I ⟨dg (A w),0,U⟩),M .u64 150] 236)) (by simp);have h:10<dg (A w):=zic w ⟨10,0,U⟩ a;have B:((dB w (Ub #[Ua (I t)] 141)).alloc (Ub #[Ua (I ⟨15,141,U⟩),Ua (I ⟨dg (A w),0,U⟩),M .u64 150] 236)).cell? ⟨10,0,U⟩=I (Ud 303 (Uf #[Ua (I ⟨15,91,U⟩)])):=by
  rw[CV _ _ ⟨10,0,U⟩ ou,CV _ _ ⟨10,0,U⟩ h];exact a
 have c:t.block<dg (A w):=zic w t b;have l:=Tryz.Pg ⟨dg (A w),0,U⟩ t (((dB w (Ub #[Ua (I t)] 141)).alloc (Ub #[Ua (I ⟨15,141,U⟩),Ua (I ⟨dg (A w),0,U⟩),M .u64 150] 236)).alloc (Ub #[Ua (I ⟨15,141,U⟩),Ua (I ⟨dg (A w),0,U⟩),M .u64 150] 236)) (by rw[CV _ _ ⟨dg (A w),0,U⟩ ou];simp);have st:=Tryz.RN t ⟨dg (A w)+1+1+1,0,U⟩ e old ((((dB w (Ub #[Ua (I t)] 141)).alloc (Ub #[Ua (I ⟨15,141,U⟩),Ua (I ⟨dg (A w),0,U⟩),M .u64 150] 236)).alloc (Ub #[Ua (I ⟨15,141,U⟩),Ua (I ⟨dg (A w),0,U⟩),M .u64 150] 236)).alloc (Ub #[Ua (I e)] 139))
  (by rw[MA _ _ _ _ ov];rfl)
  (by rw[CV _ _ t ou,CV _ _ t ou,CV _ _ t ou,CV _ _ t c];exact b)
  (by rw[ME _ _ t ou,ME _ _ t ou,ME _ _ t ou,ME _ _ t (Nat.ne_of_lt c)];exact g)
 go_enter func57,ntmps57;go_wp2;refine wp_loop_rounds 1 ?_;rw[rounds_succ];go_wp2;go_ret;exact⟨rfl,rfl⟩
theorem I6 (t:Addr)(old:Y)(w:E)(f:B w ⟨10,0,U⟩=I (Ud 303 (Uf #[Ua (I ⟨15,91,U⟩)])))(a:B w t=I old)(d:dz w t=Z):Uh V 57 #[Ud 139 (Ua (I e)),Ud 141 (Ua (I t))] w λc b=>c=R (C G)/\B b t=I (Ua (I e))/\zg (zr t.block) w b:=by refine(I7 e t old w f a d).mono ?_;rintro c b ⟨rfl,rfl⟩;have g:t.block<X (A w):=zic w t a;refine⟨rfl,AX _ _ _ (u:=old) ?_,?_⟩;rw[CV _ _ t ou,CV _ _ t ou,CV _ _ t ou,CV _ _ t g];exact a;exact((((((zg.refl (zr t.block) w).alloc _).alloc _).alloc _).alloc _)).setCell (Q rfl) _
end
section
open Go.RowKit
namespace Ts
variable {L:Ai} {r:Int}
theorem vk {k:Nat}(h:k<=8)(p:Int)(n:Nat):(bad k p n).k<=8:=h
theorem yU (v:Int)(n:Nat):(good v n).k<=8:=FT _
theorem F0 (n:Nat):(wt L r n).k<=8:=by unfold wt;split;exact vk od _ _;exact yU _ _
theorem zeS (n:Nat):(xQ L r n).k<=8:=by unfold xQ;split;exact yU _ _;exact vk od _ _
theorem MO:∀(f:Nat) (c:Int) (n:Nat),(yG L r f c n).k<=8
 |0,c,n=>yU _ _
 |f+1,c,n=>by unfold yG;split;exact vk od _ _;exact MO f _ _
theorem zaE:∀(f:Nat) (c:Int) (d n:Nat),(xL L r f c d n).k<=8
 |0,c,_,n=>yU _ _
 |f+1,c,d,n=>by
  unfold xL;split;exact yU _ _;split;exact vk od _ _;exact zaE f _ _ _
theorem zeT (n:Nat):(yi L r n).k<=8:=by unfold yi;split;exact MO _ _ _;split;exact yU _ _;exact MO _ _ _
theorem IM (n:Nat):(vS L r n).k<=8:=by unfold vS;split;exact yU _ _;split;exact F0 _;split;exact zeS _;split;exact MO _ _ _;split;exact zaE _ _ _ _;split;exact zeT _;exact vk od _ _
theorem EX (n:Nat):(xR L r n).k<=8:=by unfold xR;split;exact yU _ _;split;exact vk od _ _;exact IM _
theorem X9 (n:Nat):(zm L r n).k<=8:=by unfold zm;split;exact yU _ _;split;exact yU _ _;split;exact EX _;exact yU _ _
theorem DR (m:Bool)(c:Int)(n:Nat):(qd L r m c n).k<=8:=by unfold qd;split;exact X9 _;split;exact vk od _ _;exact X9 _
theorem La (n:Nat):(qO L r n).k<=8:=by unfold qO;split;exact X9 _;split;exact DR _ _ _;exact X9 _
theorem zdj:∀(f n:Nat),(ja L r f n).k<=8
 |0,n=>yU _ _
 |f+1,n=>by
  unfold ja;split;exact yU _ _;split;exact vk od _ _;split;exact La _;exact zdj f _
theorem zdk (n:Nat):(yx L r n).k<=8:=by unfold yx;split;exact vk od _ _;split;exact vk od _ _;exact yU _ _
theorem zhl (n:Nat):(yh L r n).1.k<=8:=by unfold yh;simp only[];split;exact zdk _;split;exact yU _ _;split;exact vk od _ _;split;exact yU _ _;split;exact zdk _;split;exact vk od _ _;split;exact vk od _ _;exact yU _ _
theorem DU (n:Nat):(zx L r n).2.1.k<=8:=by unfold zx;split;exact yU _ _;split;exact yU _ _;split;exact yU _ _;split;exact zhl _;exact yU _ _
theorem Gm (n:Nat):(zZ L r n).k<=8:=by unfold zZ;split;split;exact yU _ _;split;exact vk od _ _;exact vk od _ _;exact yU _ _
theorem D8 {o:Out}(h:o.k<=8):(one o).k<=8:=by unfold one;split;exact yU _ _;exact h
theorem zf5 {D:Nat->Out}(a:∀n,(D n).k<=8)(n:Nat):(zK L r D n).k<=8:=by unfold zK;split;exact vk od _ _;split;exact a _;split;exact D8 (zdj _ _);split;exact D8 (EX _);exact yU _ _
theorem EK {a:Nat->Out}(b:∀n,(a n).k<=8)(n:Nat):(wU L r a n).k<=8:=by unfold wU;split;exact Gm _;split;exact b _;split;exact yU _ _;exact vk od _ _
theorem F8 {D:Nat->Out}(a:∀n,(D n).k<=8)(n:Nat):(yJ L r D n).k<=8:=by unfold yJ;split;exact yU _ _;split;exact zf5 a _;split;exact zf5 a _;split;exact DU _;exact yU _ _
theorem zdl {D:Nat->Out}(a:∀n,(D n).k<=8):∀(f:Nat) (s:Int) (n:Nat),(xG L r D f s n).k<=8
 |0,s,n=>yU _ _
 |f+1,s,n=>by
  unfold xG;split;exact yU _ _;split;exact F8 a _;exact zdl a f _ _
theorem Nh {D:Nat->Out}(a:∀n,(D n).k<=8):∀(f:Nat) (zs:Ar) (n:Nat),(vx L r D f zs n).k<=8
 |0,_,n=>yU _ _
 |f+1,zs,n=>by
  unfold vx;split;exact zdl a _ _ _;split;exact Nh a f _ _;exact yU _ _
theorem zf6:∀(a n:Nat),(zB L r a n).k<=8
 |0,n=>vk od _ _
 |a+1,n=>EK (λm=>Nh (zf6 a) _ _ m) n
theorem Kh (n:Nat):(yQ L r (zB L r 10) n).k<=8:=Nh (zf6 10) _ _ n
end Ts
open Sm (Tree yI)
structure Start (w:E)(a:Nat->Addr):Prop where
 sents:ym w a
 rows:j7 w a
 et:B w ⟨10,0,U⟩=I (Ud 303 (Uf #[Ua (I ⟨15,91,U⟩)]))
 size:10<=X (A w)
theorem Start.keep {w b:E}{a:Nat->Addr}(h:Start w a)(k:zke w b):Start b a:=
 ⟨h.sents.keep k (λ_ _ f=>f),h.rows.keep k,zf k _ _ h.et id,AP h.size k.size⟩
theorem Zd (d:B w ⟨10,0,U⟩=I (Ud 303 (Uf #[Ua (I ⟨15,91,U⟩)])))(c:B w ⟨g,1,U⟩=I (M J p)):Uh V 31 #[Ud 139 (Ua (I ⟨g,0,U⟩))] w λe l=>e=R (M J p)/\zke w l:=by
 have o:g<X (A w):=zic w ⟨g,1,U⟩ c;have h:=zd (I6 ⟨g,0,U⟩ ⟨X (A w),0,U⟩ (Ua U) (q w (Ub #[Ua U] 139)) (zf ((zg.refl (λ_=>False) w).alloc _) _ _ d id) (zj w _ rfl _ _ 0 _ rfl) (zt w _ rfl _ _ 0));have j:H (∀a,zg (zr (X (A w))) (q w (Ub #[Ua U] 139)) a->B a ⟨g,1,U⟩=I (M J p)):=λa b=>
  zf b _ _ (zf ((zg.refl (λ_=>False) w).alloc _) _ _ c id) (λe=>by have:g=X (A w):=e;omega)
 go_enter func31,ntmps31;go_wp2_with(go_at_call 57;refine h.mono ?_;rintro e a ⟨rfl,n,b⟩;have m:=j a b);go_ret;exact⟨rfl,((zg.refl (λ_=>False) w).alloc _).later b (λi k=>by unfold zr at k;omega)⟩
def MN (s:Al)(a:Nat->Addr)(k:Nat)(p:Int)(w:E):Prop:=
 Uh V 29 #[Uc s] w λx b=>∃v,x=R (Ue #[Ui,v])/\zJ b (X (A w)) v (z7 a k) p/\zke w b
def K4 (s:Al)(t:Tree)(v:Int)(w:E):Prop:=
 Uh V 29 #[Uc s] w λx a=>(∃T y F,x=R (Ue #[Ud T y,Ui])/\zC F a (λg=>X (A w)<=g) (Ud T y) t/\yI F t=v)/\zke w a
def MR (t:Tree):Prop:=∀f,kZ f t/\vd f t/\j6 f t
theorem zeV (p:Int)(f:Start w a)(o:1<=k)(q:k<=8)(h:MN s a k p w):Uh V 15 #[Uc s] w λx r=>x=R (Ue #[Ua U,M J k,M J p])/\zke w r:=by have c:=zd f;have l:=zd h;go_enter func15,ntmps15;go_wp2_with(first|(go_at_call 29;refine l.mono ?_;rintro e u ⟨v,rfl,i,b⟩;have m:=zd i;obtain⟨g,t,rfl,d,f1⟩:=i;have H0:=zd d;have j:=zd f1)|(go_at_call 30;refine AL (Xx g k a _ (c.keep b).sents (c.keep b).rows o q H0) ?_)|(go_at_call 31;refine(Zd g p _ (c.keep b).et j).mono ?_;rintro e y ⟨rfl,n⟩));go_ret3;exact⟨rfl,b.trans n⟩
theorem qW.mono {A B:Aj}{w:E}{pb:Nat}{N:List Sm.Stp}{st:Nat}{W:Am}(h:qW w A pb N st W)(a:∀g,A g->B g):qW w B pb N st W:=by have⟨g,b,c,d,e,f⟩:=h.c0;have⟨q,i,j⟩:=h.c2;refine⟨a _ h.own,⟨g,b,c,a _ d,e,λk s l=>?_⟩,h.c1,⟨q,i,j.mono (λg _ h=>a g h)⟩,h.len,h.fit,h.stl⟩;have⟨m,⟨x,n,o⟩,p⟩:=f k s l;exact⟨m,⟨x,n,o.mono (λg _ h=>a g h)⟩,p⟩
theorem zdm (z:Int)(w:E)(b:B w ⟨g,0,U⟩=I (M J z)):Uh V 7 #[Ua (I ⟨g,0,U⟩)] w λx a=>x=R (M J z)/\zke w a:=by go_enter func7,ntmps7;go_wp2;go_ret;exact⟨rfl,zg.refl _ _⟩
open Sm (Tree)
def Ng (s:Al)(k:Nat)(p:Int):Prop:=∀w:E,Uh V 16 #[Uc s] w λx a=>x=R (Ue #[Ua U,M J k,M J p])/\zke w a

end
section
open Sm (Tree)
theorem zf7 {F:Nat}{t:Tree}{W:Am}(h:j6 F t)(d:((AR F t).2.any Cp)=G->W=zX 119):BV (AR F t).2 W:=λp s b a=>by have c:=DW h s (Bg b) a;refine⟨c,λe=>d (List.any_eq_true.2 ⟨s,Bg b,?_⟩)⟩;unfold Cp;simp[a];omega
end
section
open Go.RowKit
open Sm (Tree)
theorem zdn (i:Int)(w:E)(a:Nat->Addr)(k:Nat)(p:Int)(j:Start w a)(t:1<=k)(u:k<=8)(l:Uh V 46 #[Uc s,M J 400] w λx c=>∃v,x=R (Ue #[K U 0 0,v])/\zJ c (X (A w)) v (z7 a k) p/\zke w c):Uh V 23 #[Ua (I ⟨g,0,U⟩),Uc s,M J i] w λx c=>x=R (Ue #[K U 0 0,M J k,M J p])/\zke w c:=by have d:=zd j;have o:=zd l;go_enter func23,ntmps23;go_wp2_with(first|(go_at_call 46;refine o.mono ?_;rintro e z ⟨v,rfl,m,b⟩;have q:=zd m;obtain⟨h,y,rfl,f,f1⟩:=m;have H0:=zd f;have n:=zd f1)|(go_at_call 30;refine AL (Xx h k a _ (d.keep b).sents (d.keep b).rows t u H0) ?_)|(go_at_call 31;refine(Zd h p _ (d.keep b).et n).mono ?_;rintro e B ⟨rfl,r⟩));go_ret3;exact⟨rfl,b.trans r⟩
theorem zhm (i:Int)(w:E)(a:Nat->Addr)(f:Start w a)(t:F s<=400)(h:(zu s).2<0)(k:i<0\/((zP s (F s+1) 0).length:Int)<i):Uh V 23 #[Ua (I ⟨g,0,U⟩),Uc s,M J i] w λx u=>x=R (Ue #[K U 0 0,M J 9,M J 0])/\zke w u:=by
 have j:=zd (jH s 400 oa t w a f.sents f.size h);generalize zP s (F s+1) 0=L at *;by_cases q:i<0
 .have r:decide (i<0)=G:=by simp[q]
  go_enter func23,ntmps23;go_wp2_with(go_at_call 46;refine j.mono ?_;rintro e y ⟨v,rfl,b,d⟩;obtain⟨rfl,B⟩|⟨p,n,rfl,_⟩:=X8 b<;>clear b)
  all_goals go_ret3
  all_goals exact⟨rfl,d⟩
 have z:(D L:Int)<i:=by omega
 have r:decide (i<0)=Z:=by simp;omega
 go_enter func23,ntmps23;go_wp2_with(go_at_call 46;refine j.mono ?_;rintro e y ⟨v,rfl,b,d⟩;obtain⟨l,m,rfl⟩:∃l m,v=K l (D L) m:=(by obtain⟨c,o⟩|⟨p,n,c,_⟩:=X8 b;exact⟨U,0,by rw[c,o];rfl⟩;exact⟨_,_,c⟩));go_ret3;exact⟨rfl,d⟩
theorem Er (st n:Nat)(s:Al)(N:List Sm.Stp)(W:Am)(A:Aj)(w:E)(a:Nat->Addr)(i:Start w a)(hs:dJ s<=400)(l:(zu s).2<0)(o:dx w ⟨g,1,U⟩=I (Ua (I ⟨pb,0,U⟩)))(k:qW w A pb N st W)(X:n<=(zP s (dJ s+1) 0).length):Uh V 23 #[Ua (I ⟨g,0,U⟩),Uc s,M J (n:Nat)] w λx r=>∃c js,x=R (Ue #[c,M J 0,M J 0])/\r.ownsRow w.heap.size 3 1 c (D js) (zN js)/\jd (zP s (dJ s+1) 0).length (BY W (zP s (dJ s+1) 0) N st n 0) js/\zke w r:=by
 have y:=zd (jH s 400 oa hs w a i.sents i.size l);have hl:(zP s (dJ s+1) 0).length<=dJ s:=by rw[<-(xV.of s).len];exact vB s
 generalize zP s (dJ s+1) 0=L at *;have z:=zd k;have HG:=zd o;have hd:decide ((n:Int)<0)=Z:=ov;go_enter func23,ntmps23;go_wp2_with(first|(go_at_call 46;refine y.mono ?_;rintro e t ⟨v,rfl,q,b⟩;have j:H (qM t v L):=(by show qM t v L;obtain⟨d,h⟩|⟨P,F,d,h,_,S⟩:=X8 q;exact Q ⟨d,h⟩;exact O ⟨P,F,d,h,S⟩);obtain⟨va,vc,rfl⟩:=j.slice;have ac:=zf b _ _ HG id)|(go_at_call 50;refine(zhk pb st n N W L _ A _ (z.keep b (λ_ _ f=>f)) j X oa).mono ?_;rintro e w2 ⟨c,js,rfl,p,m,T⟩;have B:=zd p;have u:=zd m));go_ret3;exact⟨c,js,rfl,zL B b.size,u,b.trans T⟩
theorem rising_eq:∀(js ks:Ao),js.Pairwise (· < ·)->ks.Pairwise (· < ·)->(∀j,j∈js↔j∈ks)->js=ks
 | [],[],_,_,_=>rfl
 | [],k :: ks,_,_,h=>absurd ((h k).2 ov) ov
 |j :: js,[],_,_,h=>absurd ((h j).1 ov) ov
 |j :: js,k :: ks,b,c,h=>by
  have a1:=Cv.1 b;have a:=Cv.1 c;have e:j=k:=by obtain e|m:=BZ.1 ((h j).1 ov);exact e;obtain e|f:=BZ.1 ((h k).2 ov);exact e.symm;have:=a1.1 k f;have:=a.1 j m;omega
  subst e;rw[rising_eq js ks a1.2 a.2 (λx=>⟨λd=>?_,λd=>?_⟩)]
  grind
  grind
theorem jd.same {X:Aj}{js ks:Ao}(h:jd n X js)(g:jd n X ks):js=ks:=
 rising_eq js ks h.1 g.1 (λj=>by rw[h.2 j,g.2 j])
theorem jd.congr {X Y:Aj}{js:Ao}(h:jd n X js)(e:∀j,X j↔Y j):jd n Y js:=⟨h.1,λj=>by rw[h.2 j,e j]⟩
theorem jd.ex (n:Nat)(X:Aj):∃js,jd n X js:=by
 classical
 refine⟨(List.range (n+1)).filter (λj=>decide (X j)),?_,λj=>?_⟩;exact(List.pairwise_lt_range (n:=n+1)).filter _
 grind
def TS (k a:Int)(js:Ao)(w:E)(x:Ending)(c:E):Prop:=
 ∃b,x=R (Ue #[b,M J k,M J a])/\c.ownsRow (X (A w)) 3 1 b (D js) (zN js)/\zke w c
def YG (s:Al)(i:Int)(X:Ai->Nat->Aj)(k a:Int)(js:Ao):Prop:=
 (400<F s/\k=2/\a=400/\js=[])\/(F s<=400/\0<=(zu s).2/\k=1/\a=(zu s).2/\js=[])\/
 (F s<=400/\(zu s).2<0/\(i<0\/((zu s).1.length:Int)<i)/\k=9/\a=0/\js=[])\/
 (∃n:Nat,i=n/\F s<=400/\(zu s).2<0/\n<=(zu s).1.length/\k=0/\a=0/\jd (zu s).1.length (X (zu s).1 n) js)
theorem YG.ex (s:Al)(i:Int)(X:Ai->Nat->Aj):∃k a js,YG s i X k a js:=by by_cases b:F s<=400;by_cases c:0<=(zu s).2;exact⟨_,_,_,O (Q ⟨b,c,rfl,rfl,rfl⟩)⟩;by_cases d:i<0\/((zu s).1.length:Int)<i;exact⟨_,_,_,O (O (Q ⟨b,oa,d,rfl,rfl,rfl⟩))⟩;have⟨js,h⟩:=jd.ex (zu s).1.length (X (zu s).1 i.toNat);exact⟨0,0,js,O (O (O ⟨i.toNat,oa,b,oa,oa,rfl,rfl,h⟩))⟩;exact⟨_,_,_,Q ⟨oa,rfl,rfl,rfl⟩⟩
theorem TS.nil {k a:Int}{w b:E}{x:Ending}(h:x=R (Ue #[K U 0 0,M J k,M J a])/\zke w b):TS k a [] w x b:=
 ⟨_,h.1,A0 _ _ _ _,h.2⟩
theorem zhn {s:Al}{i k a:Int}{js:Ao}{g:As}{kids:Au}{p:Nat}{w:E}(h:YG s i (λtx n=>Bf tx 67 kids n) k a js)(q:UD w p g kids):Uh V 24 #[Ua (I ⟨p,0,U⟩),Uc s,M J i] w (TS k a js w):=by obtain⟨b,rfl,rfl,rfl⟩|⟨b,c,rfl,rfl,rfl⟩|⟨b,c,d,rfl,rfl,rfl⟩|⟨n,rfl,b,c,d,rfl,rfl,j⟩:=h;exact(Wa p s i 2 400 w od (JZ s w b)).mono (λ_ _ h=>TS.nil h);exact(Wa p s i 1 _ w od (V8 s w b c)).mono (λ_ _ h=>TS.nil h);exact(zhf p s i w b c d).mono (λ_ _ h=>TS.nil h);refine(DK p s n g kids w q b c d).mono ?_;rintro e u ⟨r,t,l,f,m,o⟩;rw[m.same j] at f;exact⟨r,l,f,o⟩
theorem zg.Od {P Q:Aj}{a w d:E}(h:zg P a w)(k:zg Q w d)(e:∀i,i<X (A a)->Q i->P i):zg P a d:=
 ⟨k.os.trans h.os,k.tape.trans h.tape,k.output.trans h.output,AP h.size k.size,λi b c=>(k.block i (AM b h.size) (λq=>c (e i b q))).trans (h.block i b c)⟩
theorem Wi {P:Program}(w:E){am:Array Oper}{rest:List Oper}{o:Oper}{a:Act}{Q:Exit->Act->E->Prop}(L:o.guard=U)(s x:Operand)(t:TypeId)(X:o.op=.call { callee:=.builtin .append,args:=#[s,x],argTypes:=#[t,t] })(base:Nat) (e:TypeId) (i:TypeInfo) (z:Y) (size bytes:Nat) (ht:P.underlying t=I (.slice e)) (N:P.info? e=I i) (hz:i.zero=I z)(ab:i.size=size) (ah:i.bytes=bytes) (al:z.cells.size=size) (aj:0<size)(v:Y) (n:Nat) (xs:An) (hs:a.eval s=v) (r:dA w base e size v n xs)(ad:Addr) (m c:Nat) (p:An) (hx:a.eval x=K (I ad) m c) (T:D p=m*size) (W:∀j u,p[j]?=I u->dx w (ad.add j)=I u) (B:∀u∈p,u.oneCell'=G)(af:n+m<=maxLen) (ai:(n+m)*bytes<=140737488355328) (ag:base<=dg (A w)) (hm:0<m)(h:∀f d,d.ownsRow base e size f (n+m) (xs++p)->((∃g,dH v=I g/\dH f=I g/\w.grownBy d (I g))\/(w.grownBy d U/\∀k,dH f=I k->dg (A w)<=k))->wpList P am Q rest (a.put o.dst f) d):wpList P am Q (o :: rest) a w:=by obtain⟨rfl,rfl⟩|⟨g,y,aq,rfl,ar,hg,ay,au,av,az⟩:=r.2;have ap:xs=[]:=Cb (by simpa using r.1);subst ap;exact wpList_append_grows w L s x t X e i z size bytes ht N hz ab ah al aj U 0 0 [] hs (λ_=>⟨rfl,rfl⟩) ov (λb F=>by cases F) ad m c p hx T W B oa af ai (λf d l q=>h f d (zL l ag) (O ⟨q,λk S=>(l.lt k S).1⟩));by_cases ao:n+m<=y;exact wpList_append_fits w L s x t X base e i size ht N ab g n y xs hs r ad m c p hx T W B ao (λd l q=>h _ d l (.inl ⟨g,rfl,rfl,q⟩));exact wpList_append_grows w L s x t X e i z size bytes ht N hz ab ah al aj (I ⟨g,0,U⟩) n y xs hs (λhh=>by cases hh) r.1 (λb F=>by cases F;exact r.cells (g:=g) rfl) ad m c p hx T W B oa af ai (λf d l q=>h f d (zL l ag) (O ⟨q,λk S=>(l.lt k S).1⟩))
def jk:List (Nat×Nat)->An
 | []=>[]
 |q :: r=>Ua (I ⟨q.1,0,U⟩) :: Ua (I ⟨q.2,0,U⟩) :: jk r
theorem WD (ps:List (Nat×Nat))(q:Nat×Nat):jk (ps++[q])=jk ps++[Ua (I ⟨q.1,0,U⟩),Ua (I ⟨q.2,0,U⟩)]:=by
 induction ps with
 |nil=>rfl
 |cons x r a=>simp[jk,a]
theorem Xy:∀(ps:List (Nat×Nat)) (j:Nat) (q:Nat×Nat),ps[j]?=I q->(jk ps)[j*2]?=I (Ua (I ⟨q.1,0,U⟩))/\(jk ps)[j*2+1]?=I (Ua (I ⟨q.2,0,U⟩))
 | [],j,q,h=>by simp at h
 |x :: r,0,q,h=>by
  simp only[Ir,Option.some.injEq] at h;subst h;exact⟨rfl,rfl⟩
 |x :: r,j+1,q,h=>by
  have:=Xy r j q (by simpa using h);rw[show(j+1)*2=j*2+2 by omega];exact this
theorem Ze {w:E}{b i j:Nat}{v u:Y}(c:i≠j)(h:B w ⟨b,j,U⟩=I v):(dC w ⟨b,i,U⟩ u).cell? ⟨b,j,U⟩=I v:=
 (AN _ _ _ _ (by intro e;exact c (by have a:=congrArg Addr.off e;simp only[] at a;omega))).trans h
variable {w}
theorem qh {e:TypeId}{v:Y}{n:Nat}{xs:An}(h:dA w base e 1 v n xs):∃a c,v=K a n c/\∀(j:Nat) u,xs[j]?=I u->∃g,a=I ⟨g,0,U⟩/\B w ⟨g,j,U⟩=I u:=by
 have q:=h.1;obtain⟨rfl,rfl⟩|⟨g,d,f,rfl,i,m,o,k,l,p⟩:=h.2
 grind
 exact⟨_,d,rfl,λj u b=>⟨g,rfl,(h.cellAt _ (by have:=(AK.1 b).1;omega)).trans b⟩⟩
theorem IJ {g n cap size:Nat}{e:TypeId}{xs:An}(h:dA w base e size (K (I ⟨g,0,U⟩) n cap) n xs)(t:Nat):dz w ⟨g,t,U⟩=Z:=by obtain⟨a,_⟩|⟨f,c,d,a,i,b,_⟩:=h.2;cases a;cases a;simp[dz,b]
theorem Tryz.Ol:(prog.info? 29).map (λi=>(i.zero,i.size,i.bytes))=I (I (K U 0 0),1,24):=om
def Wj (s:Al)(z:Int)(b:As):Prop:=∀w:E,Uh V 16 #[Uc s] w λx a=>∃g,x=R (Ue #[Ua (I ⟨g,0,U⟩),M J 0,M J 0])/\zke w a/\X (A w)<=g/\B a ⟨g,1,U⟩=I (M J (z+1))/\∃v,B a ⟨g,0,U⟩=I v/\xK a (X (A w)) v b
def Nf (s:Al):Bool:=
 let L:=zP s (F s+1) 0
 let o:=yQ L (F s) (zB L (F s) 10) 0
 decide (F s<=200/\(zu s).2<0/\o.k=0/\o.n=D L/\o.v<300)
theorem Wk:(∃(k:Nat) (p:Int),1<=k/\k<=8/\Ng s k p/\(∀(w:E) (a:Nat->Addr),Start w a->MN s a k p w)/\Nf s=Z)\/ (∃(v:Int) (t:Tree) (i:As),0<=v/\v<300/\MR t/\Wj s v i/\(∀(w:E) (a:Nat->Addr),Start w a->K4 s t v w)/\vY (qH 22) i t.kids/\(∀x∈i,kG x)/\(Bc i)<=1000/\t.kind=5):=by
 by_cases b:s.size<=200
 .by_cases F:0<=(zu s).2;exact Q ⟨1,(zu s).2,od,od,λw=>WC s w b F,λw a h=>zbw s w a h.sents h.size b F,decide_eq_false (λh=>by have:=h.2.1;omega)⟩;have c:(zu s).2<0:=oa;have ac:Br s (zP s (s.size+1) 0) 0 0:=(by rw[zfV];exact Br.start (vF c));have⟨S,T⟩:=zeA oa ac;generalize d:yQ (zP s (s.size+1) 0) s.size (zB (zP s (s.size+1) 0) s.size 10) 0=o at S T;have ae:o.k<=8:=(by rw[<-d];exact Kh 0);by_cases g:o.k=0
  .have⟨w3,w4⟩:=T g;by_cases l:o.n=(zP s (s.size+1) 0).length
   ·(have⟨i,P,q,hA,ab⟩:=w3 l;have⟨z,af,an,y⟩:=hA.whole;have j:(yF s).1=i:=(by rw[P]);have B:(yF s).2.1=0:=(by rw[P]);have X:=Xn s;rw[j] at X;have ag:z<=10000000:=by have⟨W,ad⟩:=y;have h1:=(zcN W i 0 z 0 ad q.2 oa oa oa).2;omega);have N:=Ys (L:=zP s (s.size+1) 0) (r:=( s.size:Int)) (D:=zB (zP s (s.size+1) 0) ( s.size:Int) 10) (qS 10) 0 oa;rw[d] at N;have am:=N.2.2 g;by_cases u:o.v<300
    .have ah:z=o.v:=oa;refine O ⟨o.v,_,i,oa,u,?_,λw=>?_,λw a h=>zdi s w a h.sents h.size b c _ rfl o d g l u,ab,q.2,oa,rfl⟩
     .exact λf=>⟨C2 (Xw s _ _) 10 0 f,C6 (by have:=Za s (s.size+1) 0;omega) 10 0 f,zfG (λn f=>zcz 10 n f) 0 f⟩
     rw[<-ah,<-j];exact zbp s w z b c B (by rw[j];exact q.2) (by rw[j];exact y) oa af
    refine Q ⟨8,0,od,od,λw=>?_,λw a h=>zdh s w a h.sents h.size b c _ rfl o d g l oa,decide_eq_false (λh=>u (d ▸ h.2.2.2.2))⟩;exact zbi s w z b c B (by rw[j];exact q.2) (by rw[j];exact y) oa ag
   have⟨l',m⟩:=w4 l;refine Q ⟨3,zA (zP s (s.size+1) 0) s.size o.n,od,od,λw=>?_,λw a h=>zbx s w a h.sents h.size b c _ rfl o d g l,decide_eq_false (λh=>l (d ▸ h.2.2.2.1))⟩;have:=Jb s w b c (by rw[m];show(3:Int)≠0;decide);rw[m] at this;exact this
  have⟨l',m⟩:=S g;refine Q ⟨o.k,o.p,oa,ae,λw=>?_,λw a h=>zdg s w a h.sents h.size b c _ rfl o d g,decide_eq_false (λh=>g (d ▸ h.2.2.1))⟩;have:=Jb s w b c (by rw[m];show((o.k:Nat):Int)≠0;omega);rw[m] at this;exact this
 exact Q ⟨2,200,od,od,λw=>(WB s w oa).mono (by rintro e w' ⟨rfl,rfl⟩;exact⟨rfl,zg.refl _ _⟩),λw a h=>zbv s w a h.sents oa,decide_eq_false (λh=>b h.1)⟩
def Bi (k p f n:Int)(s:Al)(a b c:Y):Y:=Uf #[M J k,M J p,M J f,M J n,Uc s,a,b,c]
theorem zbB (b:Nat)(u p f n:Int)(s:Al)(v y z:Y)(k:Nat)(at':Int)(w:E)(a:Nat->Addr)(d:Start w a)(r:1<=k)(t:k<=8)(l:Ng s k at')(j:∀(w:E) (a:Nat->Addr),Start w a->MN s a k at' w):Uh V 9 #[Ua (I ⟨b,0,U⟩),Bi u p f n s v y z] w λe g=>e=R (C G)/\zke w g:=by have m:H (∀c,zke w c->Uh V 15 #[Uc s] c λx g=>x=R (Ue #[Ua U,M J k,M J at'])/\zke c g):=λc h=>zeV s c a k at' (d.keep h) r t (j c a (d.keep h));have o:=zd l;unfold Bi;go_enter func9,ntmps9;go_wp2_with(first|(go_at_call 15;refine(zb m _ Ag).mono ?_;rintro e c ⟨rfl,i⟩;have B:=zf i ⟨X (A w),4,U⟩ _ (zj w _ rfl _ _ 4 _ rfl) id)|(go_at_call 16;refine(zb o c).mono ?_;rintro e F ⟨rfl,q⟩));go_ret;exact⟨rfl,(Ag.trans i).trans q⟩
theorem Tryz.P1:(prog.info? 45).map (λi=>(i.zero,i.size,i.bytes))=I (I (Uf #[Ua U,Ua U]),2,16):=om
def Jo (c:Int)(n:Nat):Nat:=(if c<0 then(-(c+1)) % (n:Int) else c % (n:Int)).toNat
theorem zdo (c:Int){n:Nat}(f:0<n):Jo c n<n:=by unfold Jo;have a:=Int.emod_nonneg (-(c+1)) (show(n:Int)≠0 by omega);have b:=MH (-(c+1)) (show(0:Int)<n by omega);have d:=Int.emod_nonneg c (show(n:Int)≠0 by omega);have e:=MH c (show(0:Int)<n by omega);split<;>omega
theorem zdp (c:Int)(n:Nat)(w:E)(f:-9223372036854775808<=c)(g:c<9223372036854775808)(i:0<n)(j:n<9223372036854775808):Uh V 11 #[M J c,M J (n:Nat)] w λe d=>e=R (M J (Jo c n:Nat))/\d=w:=by
 by_cases h:c<0
 .go_enter func11,ntmps11;go_wp2;go_ret;have e:-(c+1).tmod (n:Int)=(-(c+1)) % (n:Int):=by rw[<-Int.neg_tmod,Int.tmod_eq_emod_of_nonneg oa]
  have a:=Int.emod_nonneg (-(c+1)) (show(n:Int)≠0 by omega);have b:=MH (-(c+1)) (show(0:Int)<n by omega);refine⟨?_,rfl⟩;rw[show((Jo c n:Nat):Int) = -(c+1).tmod (n:Int) by unfold Jo;rw[IN oa];omega];rfl
 go_enter func11,ntmps11;go_wp2;go_ret;have a:=Int.emod_nonneg c (show(n:Int)≠0 by omega);have b:=MH c (show(0:Int)<n by omega);refine⟨?_,rfl⟩;rw[show((Jo c n:Nat):Int)=c % (n:Int) by unfold Jo;rw[iN oa];omega];rfl
end
