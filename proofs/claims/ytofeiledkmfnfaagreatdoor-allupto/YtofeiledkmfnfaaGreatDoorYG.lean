/- The library's sort of a row of characters: the whole. -/
import Derived.Test.YtofeiledkmfnfaaGreatDoorYD
import Derived.Deep.Cut
import Derived.Deep.CutRange
import Derived.Test.YtofeiledkmfnfaaGreatDoorYF
import Derived.Shelf.SlSortCmp.NoneTotal
import Derived.Deep.RegionLawGrows
namespace Go.Proofs.YtofeiledkmfnfaaGreatDoor
open World renaming heap->A,cell?->dx,cell?->u,frozen?->dz,ownsRow->dA,alloc->dB,alloc->q,setCell->dC,putObj_heap_other->dP
open _root_.Array renaming size->P,size->dg
open Value renaming ownBlock->dH
open Option renaming none->U,some->I
open Value renaming int->M,slice->K,bool->C,pointer->Ua,iface->Ud,tuple->Ue,agg->Uf,nilIface->Ui
open IntKind renaming i64->J,i32->Ug
open Bool renaming false->Z,true->G
open _root_.Go.Proofs.Tryz renaming prog->V
open Go renaming World->E,Value->Y,Calls->Uh
open Go.RowKit renaming Hid->H
open Or renaming inr->O,inl->Q
open Obj renaming cells->Ub
open Go.Instr renaming typeAssert->Uk
open Ts Ref Sm Cs
open _root_.Go.Proofs.Tryz
open List renaming length->D
open List renaming length->Bc
set_option maxHeartbeats 8000000
set_option maxRecDepth 1000000
variable {pre:Ai}(base:Nat)(x y:Int×Int)(W:World)(sv v v1 v2:Value)(f bb n:Nat)(S:Am)(l R m:Ai)(a c:Int)(w:World)
section
open Go.RowKit

theorem Gy:Uh V 194 #[K U 0 0,M J 0,M J 0] w λe c=>e=.returned (Ue #[])/\zke w c:=by
 go_enter func194,ntmps194;go_wp2;go_loopw[6] (λb wr=>b=M J 1/\H (zke w wr)) (λ_ _=>0)
 .exact⟨by go_num,zg.refl _ _⟩
 obtain⟨rfl,a⟩:=hrel;go_wp2
 go_end0
 exact⟨rfl,a⟩
theorem NI (c:Int)(w:E):Uh V 159 #[K U 0 0,M J 0,M J 0,M J c] w λe j=>e=.returned (Ue #[])/\zke w j:=by
 go_enter func159,ntmps159;go_wp2;go_loopw[1,2,3,8,9] (λg h i d f wr=>g=M J 0/\h=M J 0/\i=M J c/\d=C G/\f=C G/\H (zke w wr)) (λ_ _ _ _ _ _=>0);exact⟨rfl,rfl,rfl,rfl,rfl,zg.refl _ _⟩;obtain⟨rfl,rfl,rfl,rfl,rfl,a⟩:=hrel;go_wp2_with(go_at_call 194;refine(Gy _).mono ?_;rintro e k ⟨rfl,b⟩;have a:=zd (a.trans b))
 (try simp only[Exit.inBlock,Exit.then]);refine bodyPost_ret (results_none rfl _ _ _) rfl ?_;exact⟨rfl,a⟩
theorem LR:Uh V 118 #[K U 0 0] w λe b=>e=.returned (Ue #[])/\zke w b:=by
 have c:=zd (zb7 0 oa);have d:=zd (NI);have wr:IntKind.u64.wrap 0=0:=by simp[IntKind.wrap,IntKind.bits,IntKind.signed]
 have h:IntKind.u64.wrap ((0:Nat):Int)=((0:Nat):Int):=by simp[IntKind.wrap,IntKind.bits,IntKind.signed]
 go_enter func118,ntmps118;go_wp2_with(first|(go_at_call 160;refine(zb c _).mono ?_;rintro e b ⟨rfl,rfl⟩)|(go_at_call 159;refine(zb d _ _).mono ?_;rintro e g ⟨rfl,a⟩;have f:=zd a))
 go_end0
 exact⟨rfl,f⟩
namespace Cs
theorem zQ.ge {a:Ai}(h:zQ a):∀(i:Nat) (x:Int×Int),a[i]?=I x->(i:Int)<=x.1
 |0,x,b=>(h.at b).2.1
 |i+1,x,b=>by
  have g:i+1<D a:=(AK.1 b).1;have c:a[i]?=I a[i]:=AE oa;have e:=zQ.ge h i _ c;have f:=h.lt c b oa;have d:=h.at c;unfold BK at d;omega
theorem zQ.len {a:Ai}(h:zQ a):D a<=1114112:=by by_cases e:D a=0;omega;have b:a[D a-1]?=I (a[D a-1]' oa):=AE oa;have d:=h.ge _ _ b;have c:=h.at b;unfold BK at c;omega
end Cs
def yM (w:E)(A:Aj)(sv:Y)(l:Ai):Prop:=
 (sv=K U 0 0/\l=[])\/∃g a,sv=K (I ⟨g,0,U⟩) (D l) a/\A g/\(D l)<=a/\g<P w.heap/\∀(j:Nat) p,l[j]?=I p->u w ⟨g,j*2,U⟩=I (M Ug p.1)/\u w ⟨g,j*2+1,U⟩=I (M Ug p.2)
theorem yM.keep {P A:Aj}{w e:E}{sv:Y}{l:Ai}(h:yM w A sv l)(k:zg P w e)(d:∀g,A g->¬P g):yM e A sv l:=by obtain h|⟨g,f,i,a,m,n,b⟩:=h;exact Q h;exact O ⟨g,f,i,a,m,AM n k.size,λj p c=>⟨zf k _ _ (b j p c).1 (d g a),zf k _ _ (b j p c).2 (d g a)⟩⟩
theorem yM.mono {A B:Aj}{w:E}{sv:Y}{l:Ai}(h:yM w A sv l)(i:∀g,g<P w.heap->A g->B g):yM w B sv l:=by obtain h|⟨g,b,d,c,e,a,f⟩:=h;exact Q h;exact O ⟨g,b,d,i g a c,e,a,f⟩
def xo (w:E)(A:Aj)(v:Y)(P:Am):Prop:=∃sv a,v=Uf #[sv]/\yM w A sv a/\zQ a/\∀c,Tw.zH a c=P c
theorem xo.keep {P A:Aj}{w a:E}{v:Y}{S:Am}(h:xo w A v S)(k:zg P w a)(e:∀g,A g->¬P g):xo a A v S:=by have⟨sv,f,b,c,d⟩:=h;exact⟨sv,f,b,c.keep k e,d⟩
theorem xo.mono {A B:Aj}{w:E}{v:Y}{S:Am}(h:xo w A v S)(d:∀g,g<P w.heap->A g->B g):xo w B v S:=by have⟨sv,e,a,b,c⟩:=h;exact⟨sv,e,a,b.mono d,c⟩
theorem YA:Uh V 180 #[Uf #[M Ug x.1,M Ug x.2],M Ug c] w λe h=>e=.returned (M J (BM x c))/\zke w h:=by
 have⟨a,b⟩:=x;have d:H (zke w (w.alloc (Ub #[M Ug a,M Ug b] 263))):=Ag;unfold BM;by_cases f:b<c
 .simp only[f,if_true];go_enter func180,ntmps180;go_wp2;go_ret;exact⟨rfl,d⟩
 by_cases g:a > c
 .simp only[f,g,if_true,if_false];go_enter func180,ntmps180;go_wp2;go_ret;exact⟨rfl,d⟩
 simp only[f,g,if_false];go_enter func180,ntmps180;go_wp2;go_ret;exact⟨rfl,d⟩
theorem GL (A:Aj)(w:E)(h:yM w A sv l)(P:zQ l):Uh V 179 #[sv,M Ug c,.func (.func 180) #[] #[]] w λe w'=>∃i:Nat,e=.returned (Ue #[M J i,C (Tw.zH l c)])/\zke w w':=by
 have aw:=P.len;have L:=zd P;have z:=zd h;obtain⟨W,pn,X,rfl⟩:∃W pn X,sv=K W pn X:=by rcases(zb z) with⟨k,_⟩|⟨g,ae,k,_⟩<;>exact⟨_,_,_,k⟩
 have ao:pn=D l:=by rcases(zb z) with⟨k,N⟩|⟨g,ae,k,_⟩<;>simp at k<;>simp[*]
 subst ao;have HC:H (D l≠0->∃g,W=I ⟨g,0,U⟩/\(D l)<=X/\∀(j:Nat) p,l[j]?=I p->dx w ⟨g,j*2,U⟩=I (M Ug p.1)/\dx w ⟨g,j*2+1,U⟩=I (M Ug p.2)):=by intro af;obtain⟨_,N⟩|⟨g,ae,k,_,N,h3,h4⟩:=zb z;rw[N] at af;exact absurd rfl af;simp at k;exact⟨g,k.1,oa,h4⟩
 have eg:∀ad w,(callFunc 180 ad).run V w=.ok (.enter 180 ad) w:=enters_of func180 om rfl;go_enter func179,ntmps179;go_wp2;go_loopw[9,10] (λS T wr=>∃i j:Nat,S=M J i/\T=M J j/\i<=j/\j<=D l/\H (zke w wr)/\H ((∀(t:Nat) x,t<i->l[t]?=I x->x.2<c)/\∀(t:Nat) x,j<=t->l[t]?=I x->c<=x.2)) (λS T _=>(intOf T-intOf S).toNat);exact⟨0,D l,rfl,rfl,oa,oa,zg.refl _ _,λt x ht=>oa,λt x ht u=>by have:=(AK.1 u).1;omega⟩;obtain⟨i,j,rfl,rfl,av,ak,d,v⟩:=hrel;by_cases ax:i<j
 .obtain⟨g,rfl,an,s⟩:=zb HC oa;have hm:(i+j) / 2<D l:=oa;have n:l[(i+j) / 2]?=I l[(i+j) / 2]:=AE hm;have⟨q,r⟩:=s _ _ n;have c1:=zf d _ _ q id;have c2:=zf d _ _ r id;have HG:=zd n;generalize l[(i+j) / 2]=y at *;by_cases b:y.2<c
  .have F:H ((∀(t:Nat) x,t<(i+j) / 2+1->l[t]?=I x->x.2<c)/\∀(t:Nat) x,j<=t->l[t]?=I x->c<=x.2):=⟨EH L HG b,v.2⟩
   have aj:BM y c<0:=(zcJ y c).2 b;go_wp2_with(go_at_fn 180;refine(YA y c _).mono ?_;rintro e w1 ⟨rfl,a⟩;have m:=zd (d.trans a));exact⟨⟨(i+j) / 2+1,j,by rw[show((i:Int)+(j:Int)) / 2+1=(((i+j) / 2+1:Nat):Int) by omega],rfl,oa,ak,m,F⟩,Ad⟩
  have F:H ((∀(t:Nat) x,t<i->l[t]?=I x->x.2<c)/\∀(t:Nat) x,(i+j) / 2<=t->l[t]?=I x->c<=x.2):=⟨v.1,zgV L HG b⟩
  have aj:¬BM y c<0:=λh=>b ((zcJ y c).1 h);go_wp2_with(go_at_fn 180;refine(YA y c _).mono ?_;rintro e w1 ⟨rfl,a⟩;have m:=zd (d.trans a));exact⟨⟨i,(i+j) / 2,rfl,by rw[show((i:Int)+(j:Int)) / 2=(((i+j) / 2:Nat):Int) by omega],oa,oa,m,F⟩,Ad⟩
 obtain rfl:i=j:=oa;have B:H (Tw.zH l c=G↔∃x,l[i]?=I x/\x.1<=c/\c<=x.2):=GD L v.1 v.2;by_cases hn:i<D l
 .obtain⟨g,rfl,an,s⟩:=zb HC oa;have n:l[i]?=I l[i]:=AE hn;have⟨q,r⟩:=s _ _ n;have c1:=zf d _ _ q id;have c2:=zf d _ _ r id;have HG:=zd n;generalize l[i]=y at *;by_cases b:BM y c=0
  .have o:H (Tw.zH l c=G):=B.2 ⟨y,HG,zar.1 b⟩;go_wp2_with(go_at_fn 180;refine(YA y c _).mono ?_;rintro e w1 ⟨rfl,a⟩;have m:=zd (d.trans a));go_ret2;exact⟨i,by rw[zb o];rfl,m⟩
  (have o:H (Tw.zH l c=(BM y c == 0)):=by rw[show(BM y c == 0)=Z by simpa using b];refine zd (G6.2 λh=>?_);have⟨x,u,ag⟩:=B.1 h;cases(zb HG).symm.trans u;exact b (zar.2 ag));go_wp2_with(go_at_fn 180;refine(YA y c _).mono ?_;rintro e w1 ⟨rfl,a⟩;have m:=zd (d.trans a));go_ret2;exact⟨i,by rw[zb o];rfl,m⟩
 (have o:H (Tw.zH l c=Z):=by refine zd (G6.2 λh=>?_);have⟨x,u,ag⟩:=B.1 h;have:=(AK.1 u).1;omega);go_wp2;go_ret2;exact⟨i,by rw[zb o];rfl,d⟩
theorem Nr (A:Aj)(w:E)(h:xo w A v S):Uh V 144 #[v,M Ug c] w λe s=>e=.returned (C (S c))/\zke w s:=by
 obtain⟨sv,r,rfl,a,l,m⟩:=h;obtain⟨b,j,d,rfl⟩:∃b j d,sv=K b j d:=by obtain⟨a,_⟩|⟨g,t,a,_⟩:=a<;>exact⟨_,_,_,a⟩
 have k:H (zke w (w.alloc (Ub #[K b j d] 152))):=Ag;have o:=zd (GL _ r c A _ (a.keep k (λ_ _ f=>f)) l);have q:=zd (m c);clear a l m;go_enter func144,ntmps144;go_wp2_with(go_at_call 179;refine o.mono ?_;rintro e u ⟨i,rfl,n⟩;have p:=zd (k.trans n);clear n);go_ret;exact⟨by rw[zb q];rfl,p⟩
end
section
open Go.RowKit Go.Shelf
attribute [local go_sem] Oper.semAt_some
def kB (D:Aj)(a wr:E)(O:Aj):Prop:=P (A a)<=P (A wr)/\∀k,D k->k<P (A a)/\¬O k/\wr.heap[k]?=a.heap[k]?
theorem kB.cell {D O:Aj}{a wr:E}(h:kB D a wr O){p:Addr}(b:D p.block):u wr p=u a p:=FX (w:=a) (h.2 _ b).2.2
theorem kB.yield {D O O':Aj}{c A A':E}(h:kB D c A O)(i:∀k,O' k->O k\/P A.heap<=k)(b:zg O A A'):kB D c A' O':=
 ⟨AP h.1 b.size,λk f=>by
  have⟨d,a,e⟩:=h.2 k f;have:=h.1;exact⟨d,λg=>by
   obtain h|h:=i k g;exact a h;omega,(b.block k oa a).trans e⟩⟩
theorem kB.NU {D O:Aj}{a W A A':E}(h:kB D a A O)(g:P a.heap<=P W.heap)(b:zg (λk=>P W.heap<=k/\¬O k) A A'):kB D a A' O:=
 ⟨AP h.1 b.size,λk f=>by
  have⟨c,d,e⟩:=h.2 k f;have:=h.1;exact⟨c,d,(b.block k oa (λi=>oa)).trans e⟩⟩
theorem kB.start {D O:Aj}{b W:E}(c:∀k,D k->k<P (A b))(h:zke b W)(d:∀k,D k->¬O k):kB D b W O:=
 ⟨h.size,λk a=>⟨c k a,d k a,h.block k (c k a) id⟩⟩
theorem VX {α:Type}(l:List α)(i:Nat)(a:i<D l):(l.take i++[l[i]]) <+: l:=by have:l.take i++[l[i]]=l.take (i+1):=ov;rw[this];exact List.take_prefix _ _
theorem Z1 {α:Type}(l:List α)(i:Nat)(a:i<D l):l.take i++[l[i]]=l.take (i+1):=ov
def Z3 (x:Int×Int):Array Y:=#[M Ug x.1,M Ug x.2]
theorem YB (A:Aj)(f:Nat)(a:E)(h:yM a A sv l)(ac:dx a ⟨f,0,U⟩=I sv)(hl:D l<=2000000)(n:Nat)(aI:1<=n):TO Fence.wide n V 193 #[Ua (I ⟨f,0,U⟩)] Z3 l (λk=>k=f\/(A k/\k<dg a.heap)) a:=by
 intro lp al w W T N ao P X F;have ar:=zic a _ ac;have b:H (kB (λk=>k=f\/(A k/\k<dg a.heap)) a W w):=kB.start (λk m=>by obtain rfl|m:=m;exact ar;exact m.2) T N;have m:=(b.cell (p:=⟨f,0,U⟩) (Q rfl)).trans ac;obtain⟨r,t,s,rfl⟩:∃r t s,sv=K r t s:=by obtain⟨d,_⟩|⟨g,x,d,_⟩:=h<;>exact⟨_,_,_,d⟩
 have au:t=D l:=by obtain⟨d,o⟩|⟨g,x,d,_⟩:=h<;>simp at d<;>simp[*]
 subst au;have HC:H (D l≠0->∃g,r=I ⟨g,0,U⟩/\(D l)<=s/\(A g/\g<dg a.heap)/\∀(j:Nat) p,l[j]?=I p->dx a ⟨g,j*2,U⟩=I (M Ug p.1)/\dx a ⟨g,j*2+1,U⟩=I (M Ug p.2)):=by
  intro ad;obtain⟨_,o⟩|⟨g,x,d,hA,o,h3,h4⟩:=h;rw[o] at ad;exact absurd rfl ad
  grind
 have HJ:=zd P;have HY:=zd X;have H0:=zd F;have aw:=T.size;refine callsIn_of_wp func193 rfl trivial ?_ rfl;simp only[ntmps193,Cu,BH,Cc,Nat.reduceAdd,Nat.reduceSub,G9,He,G7,G8,Cd,Ci]
 gi_wp2
 gi_loopw [7] (λu wr=>∃(i:Nat) (c:Aj),u=M J i/\i<=D l/\H (al (l.take i) c wr)/\H (kB (λk=>k=f\/(A k/\k<dg a.heap)) a wr c)) (λu _=>D l-(intOf u).toNat)
 case atStart=>exact⟨0,w,rfl,oa,H0,b⟩
 case round=>
  obtain⟨i,c,rfl,hi,v,b⟩:=hrel;by_cases q:i<D l
  .obtain⟨g,rfl,aJ,L,aa⟩:=zb HC oa;have ab:l[i]?=I l[i]:=AE q;have⟨z,B⟩:=aa _ _ ab;have c1:=(b.cell (p:=⟨g,i*2,U⟩) (O L)).trans z;have c2:=(b.cell (p:=⟨g,i*2+1,U⟩) (O L)).trans B;have HP:H ((l.take i++[l[i]]) <+: l):=VX l i q;have HT:H (l.take i++[l[i]]=l.take (i+1)):=Z1 l i q;generalize l[i]=y at *;have S:=zb HJ (l.take i) c wr (wr.alloc (Ub #[M Ug y.1,M Ug y.2] 263)) v ((zg.refl _ wr).alloc _);have ag:=zd (b.NU (W:=W) aw (A':=wr.alloc (Ub #[M Ug y.1,M Ug y.2] 263)) ((zg.refl _ wr).alloc _));have⟨fn,aL,assign,body,hy,hR⟩:=zb HY (l.take i) c y _ S HP;simp only[Z3] at hy;gi_wp2;refine hR.mono ?_;rintro e W3 ⟨rfl,O',an,av,ap,aH⟩;have ah:=zd (ag.yield av ap);gi_wp2;exact⟨⟨i+1,O',Ae,oa,(by rw[<-zb HT];exact an),ah⟩,Ad⟩
  obtain rfl:i=D l:=by omega
  gi_wp2
  go_end0
  exact⟨⟨_,rfl⟩,c,by have:=zb v;rwa [FR] at this⟩
attribute [local go_sem] Oper.semAt_some
theorem YieldAt.RA {m m':Nat}{P:Program}{l:Nat}{args:Array Y}{W:E}{R:Ending->E->Prop}(h:YieldAt Fence.wide m P l args W R):YieldAt Fence.wide m' P l args W R:=
 let ⟨d,f,assign,body,e,a⟩:=h
 ⟨d,f,assign,body,e,a.1,λc b _=>a.2 c b (room_wide _)⟩
def MQ (w b:E)(sv v:Y):Prop:=∃a,v=.func (.func 193) #[] #[Ua (I ⟨a,0,U⟩)]/\P (A w)<=a/\u b ⟨a,0,U⟩=I sv/\zke w b
theorem zaw (f:∃a c b,sv=K a c b):Uh V 158 #[sv] w λe g=>∃v,e=.returned v/\MQ w g sv v:=by
 obtain⟨a,c,b,rfl⟩:=f;have d:H (MQ w (q w (Ub #[K a c b] 150)) (K a c b) (.func (.func 193) #[] #[Ua (I ⟨P (A w),0,U⟩)])):=⟨_,rfl,AD _,zj w _ rfl _ _ 0 _ rfl,Ag⟩
 go_enter func158,ntmps158;go_wp2;go_ret;exact⟨_,rfl,d⟩
theorem QG (k:∃a c b,sv=K a c b):Uh V 117 #[Uf #[sv]] w λe m=>∃v,e=.returned v/\MQ w m sv v:=by obtain⟨a,c,b,rfl⟩:=k;have j:H (zke w (q w (Ub #[K a c b] 152))):=Ag;have l:(q w (Ub #[K a c b] 152)).heap.size=P (A w)+1:=ov;go_enter func117,ntmps117;go_wp2_with(go_at_call 158;refine(zaw _ _ ⟨_,_,_,rfl⟩).mono ?_;rintro e n ⟨v,rfl,h,rfl,d,f,g⟩;have i:H (MQ w n (K a c b) (.func (.func 193) #[] #[Ua (I ⟨h,0,U⟩)])):=⟨h,rfl,(by rw[l] at d;omega),f,j.trans g⟩);go_ret;exact⟨_,rfl,i⟩
theorem Jc {α:Type}{P:List α->Prop}(a:P [])(b:∀l x,P l->P (l++[x]))(l:List α):P l:=by
 rw[<-List.reverse_reverse l];generalize l.reverse=r
 induction r with
 |nil=>exact a
 |cons x r c=>rw[List.reverse_cons];exact b _ _ c
namespace Cs
def gE:Ai->Ai×Int
 |l=>l.foldl (λs x=>(s.1++[(s.2,x.1-1)],x.2+1)) ([],0)
theorem IZ:gE []=([],0):=rfl
theorem Jd (x:Int×Int):gE (l++[x])=((gE l).1++[((gE l).2,x.1-1)],x.2+1):=by simp[gE]
theorem zax:∀(l:Ai) (e:Ai) (b:Int),(l.foldl (λs x=>(s.1++[(s.2,x.1-1)],x.2+1)) (e,b)).1++[((l.foldl (λ(s:Ai×Int) x=>(s.1++[(s.2,x.1-1)],x.2+1)) (e,b)).2,1114111)]=e++Be b l
 | [],e,b=>rfl
 |x :: l,e,b=>by
  rw[List.foldl_cons,zax l];simp[Be]
theorem Nl:(gE l).1++[((gE l).2,1114111)]=Be 0 l:=by have:=zax l [] 0;simpa [gE] using this
variable {l}
theorem IY (h:pre <+: l):(gE pre).1 <+: (gE l).1:=by obtain⟨r,rfl⟩:=h;refine Jc (P:=λr=>(gE pre).1 <+: (gE (pre++r)).1) ov (λr x a=>?_) r;show _ <+: (gE (pre++(r++[x]))).1;rw[<-Bu,Jd];exact List.IsPrefix.trans a (MJ _ _)
theorem GF {x:Int×Int}(h:(pre++[x]) <+: l):((gE pre).1++[((gE pre).2,x.1-1)]) <+: Be 0 l:=by have a:=IY h;rw[Jd] at a;rw[<-Nl];exact List.IsPrefix.trans a (MJ _ _)
theorem Ia:∀(l:Ai),(∀x∈l,BK x)->0<=(gE l).2/\(gE l).2<=1114112:=by refine Jc (P:=λl=>(∀x∈l,BK x)->0<=(gE l).2/\(gE l).2<=1114112) (λ_=>by rw[IZ];exact⟨ov,ov⟩) (λl x a h=>?_);rw[Jd];have:=h x ov;unfold BK at this;simp only;omega
end Cs
structure Xo (w:E)(k lp:Nat)(b:Int):Prop where
 y:u w ⟨k,0,U⟩=I (.func (.yield lp) #[] #[])
 b:u w ⟨k+1,0,U⟩=I (M Ug b)
 f:dz w ⟨k+1,0,U⟩=Z
theorem Xo.keep {P:Aj}{w d:E}{k c:Nat}{b:Int}(h:Xo w k c b)(o:zg P w d)(e:¬P k)(a:¬P (k+1)):Xo d k c b:=
 ⟨(o.cell (p:=⟨k,0,U⟩) (zic w _ h.y) e).trans h.y,(o.cell (p:=⟨k+1,0,U⟩) (zic w _ h.b) a).trans h.b,(o.frozen (p:=⟨k+1,0,U⟩) (zic w _ h.b) a).trans h.f⟩
def NR (a d:Nat)(c:Ai->Aj->E->Prop)(pre:Ai)(O:Aj)(X:E):Prop:=
 ∃b:Aj,(∀k,O k↔b k\/k=a\/k=a+1)/\¬b a/\¬b (a+1)/\c (gE pre).1 b X/\Xo X a d (gE pre).2/\a+2<=P (A X)/\True
theorem EO (A:Aj)(B:Nat)(L:E)(h:yM L A sv l)(hr:zQ l)(aZ:dx L ⟨B,0,U⟩=I sv)(n:Nat)(bD:5<=n):TO Fence.wide n V 219 #[Ua (I ⟨B,0,U⟩)] Z3 (Be 0 l) (λk=>k=B\/(A k/\k<dg L.heap)) L:=by
 intro j bb O0 W hO hD aU hJ hY h0;have bl:=zic L _ aZ;have m:=(hO.cell (p:=⟨B,0,U⟩) bl id).trans aZ;obtain⟨pa,pn,pc,rfl⟩:∃pa pn pc,sv=K pa pn pc:=by obtain⟨b,_⟩|⟨g,bw,b,_⟩:=h<;>exact⟨_,_,_,b⟩
 have HW:H (yM W (λg=>A g/\g<dg L.heap) (K pa pn pc) l):=(h.mono (λg hg hA=>⟨hA,hg⟩)).keep hO (λ_ _ f=>f);have HJ:=zd hJ;have HY:=zd hY;have H0:=zd h0;have HD:=zd hD;have ae:=zd aU;have HR:=zd hr;have a8:=zd hO;clear h hJ hY h0 hD aU hr hO;have HA:H (zke W ((dB W (Ub #[.func (.yield j) #[] #[]] 350)).alloc (Ub #[M Ug 0] 21))):=Ag.alloc _;have bo:=zic W _ m;have bm:=(HA.cell (p:=⟨B,0,U⟩) bo id).trans m;have HB:H (Xo ((dB W (Ub #[.func (.yield j) #[] #[]] 350)).alloc (Ub #[M Ug 0] 21)) W.heap.size j 0):=by have ax:(dB W (Ub #[.func (.yield j) #[] #[]] 350)).heap.size=dg W.heap+1:=ov;refine⟨?_,zj _ _ ax _ _ 0 _ rfl,zt _ _ ax _ _ 0⟩;exact(((zg.refl (λ_=>False) _).alloc _).cell (p:=⟨dg W.heap,0,U⟩) (by rw[ax];exact Nat.lt_succ_self _) id).trans (zj W _ rfl _ _ 0 _ rfl)
 have eg:∀aJ w,(callFunc 193 aJ).run V w=.ok (.enter 193 aJ) w:=enters_of func193 om rfl;refine callsIn_of_wp_marks func219 rfl trivial ?_ rfl;simp only[ntmps219,Cu,BH,Cc,Nat.reduceAdd,Nat.reduceSub,G9,He,G7,G8,Cd,Ci];gi_wp2;refine⟨trivial,λh=>by simp[Fence.wide] at h,?_⟩;refine(callsIn_wide.2 (QG _ _ ⟨_,_,_,rfl⟩)).mono ?_;rintro e w1 ⟨v,rfl,ay,rfl,bn,aY,c⟩;have an:=zd c;have aB:=zd aY;clear c aY;gi_wp2;have ar:((dB W (Ub #[.func (.yield j) #[] #[]] 350)).alloc (Ub #[M Ug 0] 21)).heap.size=dg W.heap+2:=ov;rw[ar] at bn;have aC:=zd (HA.trans an);have br:=an.size;rw[ar] at br;have a4:H (Xo w1 W.heap.size j 0):=HB.keep an id id;have ba:=zd (HW.keep aC (λ_ _ f=>f));have bC:=HR.len;have bA:=a8.size;clear HB HW HA bm ar;refine Y9 (F:=Fence.wide) rfl oa (gf:=193) (lb:=#[Ua (I ⟨ay,0,U⟩)]) rfl trivial eg
  (YB _ l _ ay w1 ba aB oa (n-1) oa) (λ_=>rfl) (NR W.heap.size j bb) (λk=>O0 k\/k=dg W.heap\/k=dg W.heap+1) ?o ?d ?i ?z
  (λx=>{ tmps:=#[.func (.yield j) #[] #[],Ua (I ⟨B,0,U⟩),Ua (I ⟨dg W.heap,0,U⟩),Ua (I ⟨dg W.heap+1,0,U⟩),M Ug x.1,M Ug x.2,Uf #[K pa pn pc],.func (.func 193) #[] #[Ua (I ⟨ay,0,U⟩)],M Ug x.1,M Ug x.2,undef,undef,undef,undef,undef,undef,undef,undef,undef,undef,undef],defers:=[] }) ?assign ?body ?done
 case o=>
  rintro k (h|h|h);have:=zb ae k h;omega;omega;omega
 case d=>
  rintro k (rfl|⟨⟨hA,m⟩,b⟩);refine⟨zic w1 _ aB,?_⟩;rintro(h|h|h);have:=zb ae _ h;omega;omega;omega;refine⟨b,?_⟩;rintro(h|h|h);exact zb HD k (O ⟨hA,m⟩) h;omega;omega
 case i=>
  rintro pre aG X X' ⟨u,b,P,S,T,h5,h6,h7⟩ hX;exact⟨u,b,P,S,zb HJ _ _ _ _ T (hX.mono (λk _ m=>⟨oa,λh=>m.2 ((b k).2 (Q h))⟩)),h5.keep hX (λh=>oa) (λh=>oa),AP h6 hX.size,h7⟩
 case z=>
  exact⟨O0,λ_=>Iff.rfl,λh=>by have:=zb ae _ h;omega,λh=>by have:=zb ae _ h;omega,zb HJ _ _ _ _ H0 (aC.mono (λ_ _ f=>f.elim)),a4,oa,trivial⟩
 case assign=>
  intro l x W bu hK;unfold Z3;gi_wp2;exact hK
 case body=>
  rintro l2 pre aG x N bB bz ⟨a,hr⟩ ⟨u,b,P,S,T,h5,h6,h7⟩ av;have hx:=HR.2 x (av.subset ov);have hb:=Ia pre (λy q=>HR.2 y (av.subset (by simp[q])));have⟨fn,a2,assign,body,q,hR⟩:=YieldAt.RA (m':=n-1-1-1) (zb HY (gE pre).1 u ((gE pre).2,x.1-1) N T (GF av));simp only[Z3] at q;have⟨c1,c2,f2⟩:=h5;have H5:H (Xo N W.heap.size j (gE pre).2):=⟨c1,c2,f2⟩
  have⟨xa,xc⟩:=x;unfold BK at hx;simp only[] at hx q ⊢;generalize aX:(gE pre).2=gb at *;gi_wp2;refine⟨λh=>by simp[Fence.wide] at h,RoundIn.mono hR ?_⟩;rintro e V2 ⟨rfl,r,ab,s,c,a0⟩;have bf:=H5.keep c P S;have⟨e1,e2,g2⟩:=bf;have bt:H (Xo V2 W.heap.size j gb):=⟨e1,e2,g2⟩
  have n0:¬r W.heap.size:=λh=>by obtain h|h:=s _ h;exact P h;omega
  have n1:¬r (dg W.heap+1):=λh=>by obtain h|h:=s _ h;exact S h;omega
  have am:=zd ab;have a9:=zd s;have a7:=zd c;have bE:=c.size;clear ab s c q hR;gi_wp2;refine⟨λk=>r k\/k=dg W.heap\/k=dg W.heap+1,⟨r,λ_=>Iff.rfl,n0,n1,?_,?_,by simp[World.setCell];omega,trivial⟩,?_,?_,?_⟩;rw[Jd,aX];exact zb HJ _ _ _ _ am ((zg.refl _ _).setCell (p:=⟨dg W.heap+1,0,U⟩) (Q ⟨ov,n1⟩) _);rw[Jd];exact⟨(AN _ _ _ _ ov).trans e1,AX _ _ _ e2,(zl _ _ _ _).trans g2⟩;rintro k (h|h|h);obtain h|h:=zb a9 k h;exact Q ((b k).2 (Q h));exact O h;exact Q ((b k).2 (O (Q h)));exact Q ((b k).2 (O (O h)));exact(a7.mono (λk _ h=>(b k).2 (Q h))).setCell (p:=⟨dg W.heap+1,0,U⟩) (Q ((b _).2 (O (O rfl)))) _;intro k m;simp only[World.setCell,Array.size_modify];obtain h|h|h:=m;exact a0 k h;omega;omega
 case done=>
  rintro t aG N bx bi ⟨u,b,P,S,T,h5,h6,h7⟩ hK;have hb:=Ia l HR.2;have⟨fn,a2,assign,body,q,hR⟩:=YieldAt.RA (m':=n-1) (zb HY (gE l).1 u ((gE l).2,1114111) N T (by rw[Nl];exact List.prefix_refl _));simp only[Z3] at q;have⟨c1,c2,f2⟩:=h5;have HE:=zd (Nl l);generalize aX:(gE l).2=gb at *;gi_wp2;refine⟨λh=>by simp[Fence.wide] at h,RoundIn.mono hR ?_⟩;rintro e V2 ⟨rfl,r,ab,s,c,a0⟩;have am:=zd ab;have bg:t<dg N.heap:=(A1.1 hK).1;have aV:¬u t:=λh=>bi ((b t).2 (Q h));have bh:=(c.block t bg aV).trans hK;have bp:¬r t:=λh=>by obtain h|h:=s _ h;exact aV h;omega
  clear ab s c q hR;gi_wp2;refine⟨ov,Q ⟨_,_,rfl,run_takeDeferred bh,?_⟩⟩;refine⟨_,results_none rfl _ _ _,⟨_,rfl⟩,r,?_⟩;rw[<-zb HE];exact zb HJ _ _ _ _ am ((zg.refl _ _).putObj t _ (Q ⟨oa,bp⟩))
end
section
open Go.RowKit
def yA (l:Ai):An:=l.flatMap λx=>[M Ug x.1,M Ug x.2]
theorem jG:yA (l++m)=yA l++yA m:=by simp[yA]
theorem Ku:(yA l).length=D l*2:=by
 induction l with
 |nil=>rfl
 |cons x l a=>simp[yA] at a ⊢;omega
theorem QH:∀(l:Ai) (j:Nat) (p:Int×Int),l[j]?=I p->(yA l)[j*2]?=I (M Ug p.1)/\(yA l)[j*2+1]?=I (M Ug p.2)
 | [],j,p,h=>by simp at h
 |x :: l,0,p,h=>by simp at h;subst h;simp[yA]
 |x :: l,j+1,p,h=>by
  have:=QH l j p (by simpa using h);rw[show(j+1)*2=j*2+2 by omega];simpa [yA] using this
theorem Tryz.OA:(prog.info? 263).map (λi=>(i.zero,i.size,i.bytes))=I (I (Uf #[M Ug 0,M Ug 0]),2,8):=om
variable {base w}
theorem VY {sv:Y}{l:Ai}(h:w.ownsRow base 263 2 sv (D l) (yA l)):yM w (λg=>dH sv=I g) sv l:=by
 have n:=zh h;have a:=@World.ownsRow.cells w base 263 2 sv (D l) (yA l) h;obtain⟨rfl,f⟩|⟨g,d,r,rfl,s,t,o,_⟩:=h.2;exact Q ⟨rfl,Cb f⟩;exact O ⟨g,d,rfl,rfl,o,(n g rfl).2,λj p m=>by
  have⟨i,k⟩:=QH l j p m;have e:∀q,(⟨g,0,U⟩:Addr).add q=⟨g,q,U⟩:=λq=>(by unfold Addr.add;split<;>simp_all);have b:=a (g:=g) rfl _ _ i;have c:=a (g:=g) rfl _ _ k;rw[e] at b c;exact⟨b,c⟩⟩
structure UL (base:Nat)(w w':E)(sv sv':Y)(l':Ai):Prop where
 row:w'.ownsRow base 263 2 sv' (D l') (yA l')
 only:zg (λk=>dH sv=I k) w w'
 sep:∀k,dH sv'=I k->dH sv=I k\/P (A w)<=k
variable (base)
theorem Xp (b:Int)(w:E)(h:dA w base 263 2 sv (D l) (yA l))(F:base<=P (A w))(L:D l<=10000000):Uh V 188 #[sv,M Ug a,M Ug b] w λe z=>∃sv',e=.returned sv'/\UL base w z sv sv' (l++if a<=b then [(a,b)] else []):=by
 have⟨s,o,p,q,r⟩:=info_parts Tryz.OA;obtain⟨t,v,u,rfl⟩:=zq h;have d:=zd h;by_cases f:a<=b
 .simp only[f,if_true];have n:decide (b<a)=Z:=by simp;omega
  go_enter func188,ntmps188;go_wp2_with(at_builtin;refine yz _ rfl _ _ 150 rfl base 263 s (Uf #[M Ug 0,M Ug 0]) 2 8 underlying150 o p q r rfl od _ _ (yA l) rfl (AZ d _) _ 1 1 [M Ug a,M Ug b] rfl rfl (cell_two_new _ _ _ _) (λx m=>by simp at m;obtain rfl|rfl:=m<;>rfl) Ac oa ou ?_;intro y B i g j;have HG:H (UL base w B (K t v u) y (l++[(a,b)])):=⟨(by rw[AO,jG];exact i),Ag.grown g (λk c=>Q c),(λk c=>(j k c).imp_right (λh=>by simp at h;omega))⟩);go_ret;exact⟨_,rfl,HG⟩
 simp only[f,if_false,BW];have n:b<a:=by omega
 go_enter func188,ntmps188;go_wp2;go_ret;exact⟨_,rfl,d,zg.refl _ _,λk c=>Q c⟩
theorem ZJ {g off:Nat}{c:Array Y}{e:TypeId}{a:Nat×Nat}(u:Y)(h:w.heap[g]?=I (Ub c e a)):(dC w ⟨g,off,U⟩ u).heap[g]?=I (Ub (c.setIfInBounds off u) e a):=by rw[Go.Sort.setCell_eq];simp[Go.Sort.mapBlock,Array.getElem?_modify,h,Go.Sort.onCells]
theorem vN {base g n cap size i:Nat}{e:TypeId}{xs:An}(h:w.ownsRow base e size (K (I ⟨g,0,U⟩) n cap) n xs)(u:Y):(w.setCell ⟨g,i,U⟩ u).ownsRow base e size (K (I ⟨g,0,U⟩) n cap) n (xs.set i u):=by obtain⟨a,_⟩|⟨o,l,m,a,b,c,d,f,j,k⟩:=h.2;cases a;cases a;exact⟨by rw[Ct];exact h.1,O ⟨g,cap,_,rfl,b,ZJ u c,d,f,by simpa using j,by rw[Array.toList_setIfInBounds,List.take_set,k]⟩⟩
theorem zcT (a:Ai)(l:Int×Int)(z:Int):(yA (a++[l])).set (D a*2+1) (M Ug z)=yA (a++[(l.1,z)]):=by rw[jG,jG,MC _ _ (by rw[Ku];omega),Ku,show (D a)*2+1-D a*2=1 by omega];simp[yA]
theorem Cs.jn_snoc (x:Int×Int):jn [] (l++[x])=BS (jn [] l) x:=by simp[jn]
theorem Cs.jn1_len (acc:Ai)(x:Int×Int):(BS acc x).length<=D acc+1:=by obtain rfl|⟨b,l,rfl⟩:=Cs.Zz acc;simp[BS];by_cases a:x.1<=l.2+1;rw[KW a];simp;rw[KY a];simp
theorem Cs.jn1_bd {acc:Ai}{x:Int×Int}(h:∀y∈acc,0<=y.2/\y.2<=1114111)(c:0<=x.2/\x.2<=1114111):∀y∈BS acc x,0<=y.2/\y.2<=1114111:=by
 obtain rfl|⟨e,l,rfl⟩:=Cs.Zz acc;intro y a;simp[BS] at a;subst a;exact c;have d:=h l ov;by_cases b:x.1<=l.2+1
 .rw[KW b];intro y a;obtain a|a:=A7.1 a;exact h y (LC _ a)
  grind
 rw[KY b];intro y a;obtain a|a:=A7.1 a;exact h y a;obtain rfl:=A5.1 a;exact c
theorem K2 (a:P (A W)=n)(x y:Y)(T:TypeId):∀j u,[x,y][j]?=I u->(q W (Ub #[x,y] T)).cell? ((⟨n,0,U⟩:Addr).add j)=I u:=by subst a;exact cell_two_new _ _ _ _
theorem zeE (A:Aj)(w:E)(h:yM w A sv l)(aD:∀x∈l,BK x)(hl:D l<=10000000):Uh V 192 #[sv] w λe w'=>∃sv',e=.returned sv'/\w'.ownsRow w.heap.size 263 2 sv' (jn [] l).length (yA (jn [] l))/\zke w w':=by
 have⟨i0,hi,aG,aH,aI⟩:=info_parts Tryz.OA;obtain⟨pa,pn,pc,rfl⟩:∃pa pn pc,sv=K pa pn pc:=by obtain⟨a,_⟩|⟨g,au,a,_⟩:=h<;>exact⟨_,_,_,a⟩
 have aX:pn=D l:=by obtain⟨a,h2⟩|⟨g,au,a,_⟩:=h<;>simp at a<;>simp[*]
 subst aX;have HC:H (D l≠0->∃g,pa=I ⟨g,0,U⟩/\(D l)<=pc/\∀(j:Nat) p,l[j]?=I p->dx w ⟨g,j*2,U⟩=I (M Ug p.1)/\dx w ⟨g,j*2+1,U⟩=I (M Ug p.2)):=by intro aC;obtain⟨_,h2⟩|⟨g,au,a,hA,h2,h3,N⟩:=h;rw[h2] at aC;exact absurd rfl aC;simp at a;exact⟨g,a.1,oa,N⟩
 have aR:=zd aD;clear h aD;go_enter func192,ntmps192;go_wp2;go_loopw[3,9] (λvs vi wr=>∃i:Nat,vi=M J i/\i<=D l/\(jn [] (l.take i)).length<=i/\H (dA wr w.heap.size 263 2 vs (jn [] (l.take i)).length (yA (jn [] (l.take i))))/\H (∀y∈jn [] (l.take i),0<=y.2/\y.2<=1114111)/\H (zke w wr)) (λ_ vi _=>D l-(intOf vi).toNat);exact⟨0,rfl,oa,AD _,A0 _ _ _ _,(λy hy=>by simp[jn] at hy),zg.refl _ _⟩;obtain⟨i,rfl,bb,aV,d,HB,q⟩:=hrel;by_cases ag:i<D l
 .obtain⟨g,rfl,be,ay⟩:=zb HC oa;have az:l[i]?=I l[i]:=AE ag;have ai:=zb aR l[i] (BO ag);have⟨d1,d2⟩:=ay _ _ az;have c1:=zf q _ _ d1 id;have c2:=zf q _ _ d2 id;clear d1 d2 ay az;have o:H (jn [] (l.take (i+1))=BS (jn [] (l.take i)) l[i]):=(by rw[<-Z1 l i ag,jn_snoc];rfl);generalize l[i]=x at *;generalize jn [] (l.take i)=ar at *;have⟨m,c⟩:=x;unfold BK at ai;simp only[] at ai c1 c2;have S:=zd (jn1_len ar (m,c));have z:=zd (jn1_bd (x:=(m,c)) HB ⟨by simp only;omega,ai.2.2⟩);have r:=zd ((zg.refl (λ_=>False) wr).alloc (Ub #[M Ug m,M Ug c] 263));obtain⟨sa,sn,sc,rfl⟩:=zq d;obtain rfl|⟨b,y,rfl⟩:=Cs.Zz ar
  ·(have aY:sn=0:=(by rcases(zb d).2 with⟨a,_⟩|⟨L,B,F,a,_⟩<;>cases a<;>rfl);subst aY;rw[zfN] at o S z;go_wp2;go_big_quiet(fail);go_wp2_with(at_builtin;refine zb ?_);refine zd ?_;refine yz _ rfl _ _ 150 rfl w.heap.size 263 i0 (Uf #[M Ug 0,M Ug 0]) 2 8 underlying150 hi aG aH aI rfl od _ _ (yA []) rfl (zk d ((((zg.refl (λ_=>False) wr).alloc _).drewN _).alloc _) (λ_ _ f=>f)) ⟨dg wr.heap+1,0,U⟩ 1 1 [M Ug m,M Ug c] rfl rfl (K2 _ (dg wr.heap+1) ov _ _ _) (λx u=>by simp at u;obtain rfl|rfl:=u<;>rfl) (by unfold maxLen;simp<;>omega) (by simp<;>omega) (by simp;have:=q.size;omega) ?_;intro v' v t s ah;have X:H (v.ownsRow w.heap.size 263 2 v' ([]++[(m,c)]).length (yA ([]++[(m,c)]))):=by show dA _ _ _ _ _ _ _;rw[AO,jG];exact t);have T:H (zke w v):=(((q.alloc _).drewN _).alloc _).grown s (λk hk=>O (zh d k hk).1);clear t s ah;go_wp2;go_roundw
   .exact⟨i+1,Ae,oa,(by rw[zb o];have:=zb S;skip;omega),(by rw[zb o];skip;exact X),(by rw[zb o];exact z),T⟩
   simp[intOf];omega
  (have aZ:sn=D b+1:=(by rcases(zb d).2 with⟨a,h0⟩|⟨L,B,F,a,_⟩<;>cases a<;>simp_all);subst aZ;have aq:H (dA wr w.heap.size 263 2 (K sa (D b+1) sc) (D b+1) (yA (b++[y]))):=(by have h9:=zb d;rw[AO] at h9;exact h9);clear d;have d:=aq;clear aq;have bg:=zb HB y ov;have bf:wrap32 (y.2+1)=y.2+1:=(by unfold wrap32;omega);obtain⟨n,rfl⟩:∃n,sa=I ⟨n,0,U⟩:=by rcases(zb d).2 with⟨a,h0⟩|⟨L,B,F,a,_⟩;cases a;cases a;exact⟨_,rfl⟩);have aE:=VY (l:=b++[y]) (by rw[AO];exact d);obtain⟨k1,k2⟩:dx wr ⟨n,D b*2+1,U⟩=I (M Ug y.2)/\n<dg wr.heap:=by
   obtain⟨a,_⟩|⟨g3,a5,a,_,_,h3,N⟩:=aE;simp at a
   grind
  ((have m1:=r.cell (p:=⟨n,D b*2+1,U⟩) k2 id;rw[k1] at m1;have f1:(dB wr (Ub #[M Ug m,M Ug c] 263)).frozen? ⟨n,D b*2+1,U⟩=Z:=by rw[(zb r).frozen (p:=⟨n,D b*2+1,U⟩) k2 id];rcases(zb d).2 with⟨a,h0⟩|⟨L,B,F,a,_,h3,_⟩;cases a;cases a;simp[dz,h3]);have a8:D b+1<=i:=(by simpa using aV);have a9:D b+1<=sc:=by rcases(zb d).2 with⟨a,h0⟩|⟨L,B,F,a,_,_,N,_⟩;cases a;cases a;simpa using N);clear aE;by_cases hc:m<=y.2+1
  ·((go_wp2;go_big_quiet(fail);have HQ:=zd (q.trans (r.drewN nq));go_wp2;go_region;have aB:max y.2 c=if y.2<c then c else y.2:=by split<;>omega);have ab:=zd (vN (i:=D b*2+1) (zk d (r.drewN (nq+1)) (λ_ _ f=>f)) (M Ug (max y.2 c)));rw[zcT] at ab;have W:=zd ((q.trans (r.drewN (nq+1))).setCell (p:=⟨n,D b*2+1,U⟩) (O (zh d n rfl).1) (M Ug (max y.2 c)));have P:H (BS (b++[y]) (m,c)=b++[(y.1,max y.2 c)]):=KW (by simpa using hc);have aQ:H ((BS (b++[y]) (m,c)).length<=i+1):=(by rw[zb P];show _<=_;simp;omega);have aa:H ((((dB wr (Ub #[M Ug m,M Ug c] 263)).drewN (nq+1)).setCell ⟨n,D b*2+1,U⟩ (M Ug (max y.2 c))).ownsRow w.heap.size 263 2 (K (I ⟨n,0,U⟩) (D b+1) sc) (BS (b++[y]) (m,c)).length (yA (BS (b++[y]) (m,c)))):=by show dA _ _ _ _ _ _ _;rw[zb P,AO];exact ab);clear ab P;have aS:=W;have aT:=aa;rw[aB] at W aa;clear aB;go_wp2;go_roundw
   .exact⟨i+1,Ae,oa,(by rw[zb o];exact aQ),(by rw[zb o];first|exact aa|exact aT),(by rw[zb o];exact z),(by first|exact W|exact aS)⟩
   simp[intOf];omega
  (have ba:decide (m<=y.2+1)=Z:=ou;go_wp2;go_big_quiet(fail);go_wp2_with(at_builtin;refine zb ?_);refine zd ?_;refine yz _ rfl _ _ 150 rfl w.heap.size 263 i0 (Uf #[M Ug 0,M Ug 0]) 2 8 underlying150 hi aG aH aI rfl od _ _ (yA (b++[y])) rfl (zk d ((((zg.refl (λ_=>False) wr).alloc _).drewN _).alloc _) (λ_ _ f=>f)) ⟨dg wr.heap+1,0,U⟩ 1 1 [M Ug m,M Ug c] rfl rfl (K2 _ (dg wr.heap+1) ov _ _ _) (λx u=>by simp at u;obtain rfl|rfl:=u<;>rfl) (by unfold maxLen;simp<;>omega) oa (by simp;have:=q.size;omega) ?_;intro v' v t s ah;have X:H (v.ownsRow w.heap.size 263 2 v' ((b++[y])++[(m,c)]).length (yA ((b++[y])++[(m,c)]))):=by show dA _ _ _ _ _ _ _;rw[AO,jG,AO];exact t);have T:H (zke w v):=(((q.alloc _).drewN _).alloc _).grown s (λk hk=>O (zh d k hk).1);clear t s ah;go_wp2;go_roundw
  .exact⟨i+1,Ae,oa,(by rw[zb o];have:=zb S;skip;omega),(by rw[zb o];rw[KY (by simp only;omega)];exact X),(by rw[zb o];exact z),T⟩
  simp[intOf];omega
 go_wp2;go_ret;obtain rfl:i=D l:=oa;rw[FR] at d;exact⟨_,rfl,d,q⟩
end
section
open Go.RowKit Go.Shelf Go.Lib Go.Sort
theorem zcU (x y:Int)(w:E):Uh V 191 #[M Ug x,M Ug y] w λe a=>e=.returned (M J (Lib.compareInt x y))/\a=w:=by
 unfold Lib.compareInt;by_cases b:x<y
 .simp only[b,if_true];go_enter func191,ntmps191;go_wp2_with(go_at_call 222;refine(XN _ _).mono ?_;rintro e a ⟨rfl,rfl⟩);go_ret;exact⟨rfl,rfl⟩
 by_cases c:y<x
 .simp only[b,c,if_true,if_false];go_enter func191,ntmps191;go_wp2_with(go_at_call 222;refine(XN _ _).mono ?_;rintro e a ⟨rfl,rfl⟩);go_ret;exact⟨rfl,rfl⟩
 simp only[b,c,if_false];go_enter func191,ntmps191;go_wp2_with(go_at_call 222;refine(XN _ _).mono ?_;rintro e a ⟨rfl,rfl⟩);go_ret;exact⟨rfl,rfl⟩
def Cn (x:Int×Int):An:=[M Ug x.1,M Ug x.2]
def CK (x y:Int×Int):Int:=Lib.compareInt x.1 y.1
theorem X4:ltOf CK x y=decide (x.1<y.1):=by unfold ltOf CK Lib.compareInt;by_cases a:x.1<y.1;simp[a];by_cases b:y.1<x.1<;>simp[a,b]
theorem Dj:SWO (ltOf CK) where
 irrefl x:=by rw[X4];simp
 trans x y z h1 h2:=by rw[X4] at *;simp at *;omega
 ntrans x y z h1 h2:=by rw[X4] at *;simp at *;omega
theorem zg0:Uh V 190 #[Uf #[M Ug x.1,M Ug x.2],Uf #[M Ug y.1,M Ug y.2]] W λe b=>e=.returned (M J (CK x y))/\∃q d,b=grow (W.drewN q) d:=by have a:=λc=>zcU x.1 y.1 c;unfold CK;generalize Lib.compareInt x.1 y.1=r at a ⊢;go_enter func190,ntmps190;go_wp2_with(go_at_call 191;refine(a _).mono ?_;rintro e b ⟨rfl,rfl⟩);go_ret;exact⟨rfl,0,_,by rw[alloc_eq_grow,alloc_eq_grow,grow_grow];rfl⟩
theorem zeF {w:E}{a n:Nat}{d:Array (Int×Int)}{b:Array Obj}(_g:a<P (A w)):zg (zr a) w (sortWorldK Cn 2 w a 0 n d b):=by refine⟨rfl,rfl,rfl,size_sortWorldK_c Cn 2 w a 0 n d b,λk c e=>?_⟩;have f:k≠a:=e;unfold sortWorldK grow putRowK putRow mapBlock Sort.ahead;simp only[Array.getElem?_append,Array.size_modify,c,if_true,M1,Ne.symm f,if_false]
theorem zeG (g cap:Nat)(l:Ai)(w:E)(h:dA w base 263 2 (K (I ⟨g,0,U⟩) (D l) cap) (D l) (yA l))(hl:D l<=10000000):Uh V 189 #[K (I ⟨g,0,U⟩) (D l) cap,.func (.func 190) #[] #[]] w λe q=>e=.returned (Ue #[])/\∃o,o.Perm l/\o.Pairwise (λx y=>x.1<=y.1)/\yM q (zr g) (K (I ⟨g,0,U⟩) (D l) cap) o/\zg (zr g) w q:=by
 have eg:∀r w,(callFunc 190 r).run V w=.ok (.enter 190 r) w:=enters_of func190 om rfl;have f:=(zh h g rfl).2;have ak:=VY h;have ae:∀t,dz w ⟨g,t,U⟩=Z:=λt=>by obtain⟨b,_⟩|⟨g',am,ao,b,_,z,_⟩:=h.2;cases b;cases b;simp[dz,z]
 obtain⟨au,ac⟩:D l<=cap/\∀(j:Nat) p,l[j]?=I p->dx w ⟨g,j*2,U⟩=I (M Ug p.1)/\dx w ⟨g,j*2+1,U⟩=I (M Ug p.2):=by
  obtain⟨b,_⟩|⟨g3,an,b,_,u,z,h4⟩:=ak;cases b
  grind
 have B:HoldsK Cn 2 w g 0 l.toArray:=by
  intro t m;rw[size_flatK] at m;rw[get_flatK _ _ _ _ m];have L:t / 2<D l:=by simp at m;omega
  have af:l[t / 2]?=I l[t / 2]:=AE L;have d:l.toArray[t / 2]! = l[t / 2]:=by simp[L]
  have⟨c1,s⟩:=ac _ _ af;refine⟨?_,ae _⟩;rw[d,Bv];obtain e|e:=Nat.mod_two_eq_zero_or_one t;rw[show t / 2*2=t by omega] at c1;rw[e];exact c1;rw[show t / 2*2+1=t by omega] at s;rw[e];exact s
 have ad:=AnyQ.slices_SortFunc Xa 2 Tryz.isAgg263 Tryz.sizeOf263 Cn (λ_=>rfl) (λx v P=>by simp[Cn] at P;obtain rfl|rfl:=P<;>rfl) CK Dj 190 #[] g 0 cap l.toArray w eg (λ_ _ _ _ x y=>zg0 x y _) B f ou;refine Calls.mono ad ?_;rintro e q ⟨rfl,a,n,W,c,hs,rfl⟩;refine⟨rfl,a.toList,?_,?_,?_,zeF f⟩
 .have b:=c.2.2;have u:=c.1;have X:(a.extract 0 l.toArray.size).toList=a.toList:=by rw[<-u];simp
  have e2:(l.toArray.extract 0 l.toArray.size).toList=l:=ov;rw[X,e2] at b;exact b
 .rw[Lk];intro i j hi k ai;have N:=c.1;have ah:i<a.size:=by simpa using hi
  have aj:j<a.size:=by simpa using k
  have:=hs i j (FT _) ai oa;rw[X4,getElem!_pos a i ah,getElem!_pos a j aj] at this;simp at this;simpa using this
 have N:D a.toList=D l:=by have:=c.1;simpa using this
 have F:=holdsK_sortWorldK_c Cn 2 w g 0 l.toArray a n W B f c.1;refine O ⟨g,cap,by rw[N],rfl,oa,AM f (size_sortWorldK_c Cn 2 w g 0 n a W),λj p k=>?_⟩;have av:j<a.size:=by have:=(AK.1 k).1;simpa using this
 have d:a[j]! = p:=by grind
 have S:=(F (j*2) (by rw[size_flatK];omega)).1;have T:=(F (j*2+1) (by rw[size_flatK];omega)).1;rw[get_flatK _ _ _ _ oa,Bv,show j*2 / 2=j by omega,show j*2 % 2=0 by omega,d] at S;rw[get_flatK _ _ _ _ oa,Bv,show(j*2+1) / 2=j by omega,show(j*2+1) % 2=1 by omega,d] at T;exact⟨S,T⟩
end
section
open Go.RowKit Go.Shelf
attribute [local go_sem] Oper.semAt_some
theorem TO.later {α:Type}{F:Fence}{n:Nat}{P:Program}{gf:Nat}{lb:Array Y}{a:α->Array Y}{xs:List α}{D:Aj}{w w1:E}(h:TO F n P gf lb a xs D w)(o:zke w w1):TO F n P gf lb a xs D w1:=
 λl b c W d=>h l b c W (o.trans d)
theorem Tryz.NZ:(prog.info? 152).map (·.size)=I 1:=om
def US (w:E)(pre:Ai)(O:Aj)(X:E):Prop:=
 ∃sv,u X ⟨P (A w),0,U⟩=I sv/\dz X ⟨P (A w),0,U⟩=Z/\dA X (P (A w)+1) 263 2 sv (BP pre).length (yA (BP pre))/\(∀k,O k↔k=P (A w)\/dH sv=I k)/\zke w X/\P (A w)+1<=P (A X)
theorem US.keep {w:E}{pre:Ai}{O:Aj}{X X':E}(h:US w pre O X)(k:zg (λk=>P (A w)+1<=k/\¬O k) X X'):US w pre O X':=by
 have⟨sv,e,i,l,b,a,m⟩:=h;have c:¬(P (A w)+1<=P (A w)/\¬O (P (A w))):=λh=>oa;exact⟨sv,(k.cell (p:=⟨P (A w),0,U⟩) (by show _<_;simp only;omega) c).trans e,(k.frozen (p:=⟨P (A w),0,U⟩) (by show _<_;simp only;omega) c).trans i,zk l k (λg n d=>d.2 ((b g).2 (.inr n))),b,
  ⟨k.os.trans a.os,k.tape.trans a.tape,k.output.trans a.output,AP a.size k.size,λj o _=>(k.block j oa (λd=>oa)).trans (a.block j o id)⟩,AP m k.size⟩
structure UV (wA V0:E)(O:Aj)(X:E)(sv:Y)(l:Ai):Prop where
 cell:u X ⟨P (A wA),0,U⟩=I sv
 frozen:dz X ⟨P (A wA),0,U⟩=Z
 row:dA X (P (A wA)+1) 263 2 sv (D l) (yA l)
 onlyA:zke wA X
 onlyO:zg O V0 X
 sep:∀k,dH sv=I k->O k\/P (A V0)<=k
 size:P (A wA)+1<=P (A X)
theorem UV.grow {a i X c:E}{O:Aj}{sv n:Y}{l s:Ai}(h:UV a i O X sv l)(t:O (P (A a)))(g:UL (P (A a)+1) X c sv n s):UV a i O (c.setCell ⟨P (A a),0,U⟩ n) n s:=by
 have o:dH sv≠I (P (A a)):=λe=>by have:=(zh h.row _ e).1;omega
 have q:P (A a)<P (A X):=by have:=h.size;omega
 have c1:=(g.only.cell (p:=⟨P (A a),0,U⟩) q o).trans h.cell;refine⟨AX _ _ _ c1,(zl _ _ _ _).trans ((g.only.frozen (p:=⟨P (A a),0,U⟩) q o).trans h.frozen),?_,?_,?_,?_,?_⟩;exact zk g.row ((zg.refl (λk=>k=P (A a)) c).setCell (p:=⟨P (A a),0,U⟩) (Q rfl) _) (λk m e=>by have:=(zh g.row _ m).1;omega)
 .have u:zke a c:=⟨g.only.os.trans h.onlyA.os,g.only.tape.trans h.onlyA.tape,g.only.output.trans h.onlyA.output,AP h.onlyA.size g.only.size,λj d _=>(g.only.block j (AM d h.onlyA.size) (λe=>by have:=(zh h.row _ e).1;omega)).trans (h.onlyA.block j d id)⟩
  exact u.setCell (p:=⟨P (A a),0,U⟩) (.inr (AD _)) _
 .have v:zg O i c:=⟨g.only.os.trans h.onlyO.os,g.only.tape.trans h.onlyO.tape,g.only.output.trans h.onlyO.output,AP h.onlyO.size g.only.size,λj d r=>(g.only.block j (AM d h.onlyO.size) (λe=>by
   obtain b|b:=h.sep _ e;exact r b;omega)).trans (h.onlyO.block j d r)⟩
  exact v.setCell (p:=⟨P (A a),0,U⟩) (Q t) _
 intro k m;obtain b|b:=g.sep k m;exact h.sep k b;exact .inr (AP h.onlyO.size b);have:=g.only.size;have:=h.size;simp[World.setCell];omega
theorem Cs.spl_snoc (x:Int×Int):BP (l++[x])=(BP l++clip 0 55295 x)++clip 57344 1114111 x:=by simp[BP,LN]
theorem Cs.clip_len (b a:Int)(x:Int×Int):(clip b a x).length<=1:=by unfold clip;split<;>simp
theorem Cs.spl_len:(BP l).length<=2*D l:=by refine Jc (P:=λl=>(BP l).length<=2*D l) (by simp[BP]) (λl x c=>?_) l;have a:=clip_len 0 55295 x;have b:=clip_len 57344 1114111 x;rw[spl_snoc];simp only[AO,Ce];omega
theorem zeH (h:w.ownsRow base 263 2 sv (D l) (yA l))(o:D l<=10000000):Uh V 189 #[sv,.func (.func 190) #[] #[]] w λe c=>e=.returned (Ue #[])/\∃b,b.Perm l/\b.Pairwise (λx y=>x.1<=y.1)/\yM c (λg=>dH sv=I g) sv b/\zg (λk=>dH sv=I k) w c:=by obtain⟨rfl,f⟩|⟨g,d,q,rfl,_⟩:=h.2;have p:l=[]:=Cb f;subst p;refine(AnyF.slices_SortFunc_none Xa U 0 _ w).mono ?_;rintro e c ⟨rfl,rfl⟩;exact⟨rfl,[],List.Perm.refl _,List.Pairwise.nil,Q ⟨rfl,rfl⟩,zg.refl _ _⟩;refine(zeG base g d l w h o).mono ?_;rintro e c ⟨rfl,b,i,j,m,n⟩;exact⟨rfl,b,i,j,m.mono (λk _ a=>by unfold zr at a;subst a;rfl),n.mono (λk _ a=>by unfold zr at a;subst a;rfl)⟩
theorem Nk (gf:Nat)(lb:Array Y)(xs:Ai)(D:Aj)(w:E)(eg:∀args w,(callFunc gf args).run V w=.ok (.enter gf args) w)(aT:TO Fence.wide 8 V gf lb Z3 xs D w)(hD:∀k,D k->k<dg (A w))(hl:Bc xs<=2000000):Uh V 157 #[.func (.func gf) #[] lb] w λe w'=>∃v,e=.returned v/\xo w' (λg=>dg (A w)<=g) v (λc=>Cs.isCh c && Tw.zH xs c)/\zke w w':=by
 have a4:=zd aT;have HD:=zd hD;clear aT hD;refine(callsIn_wide (n:=9)).1 ?_;refine callsIn_of_wp_marks func157 rfl trivial ?_ rfl;simp only[ntmps157,Cu,BH,Cc,Nat.reduceAdd,Nat.reduceSub,G9,He,G7,G8,Cd,Ci];gi_wp2;obtain⟨a,aj⟩:∃a,a=dB w (Ub #[K U 0 0] 152):=⟨_,rfl⟩
 rw[<-aj];have aS:dg (A a)=dg (A w)+1:=by rw[aj];simp
 have S:H (zke w a):=by rw[aj];exact Ag
 have a2:H (a.heap[dg (A w)]?=I (Ub #[K U 0 0] 152 (0,0))):=by rw[aj];exact World.alloc_heap_new w _
 clear aj;rw[<-aS];have bC:dg (A w)+1<=dg (A a):=oa;have bD:dg (A a)<=dg (A w)+1:=oa;clear aS;have b:H (zke a (dB a (Ub #[K U 0 0] 150))):=Ag;have bE:(dB a (Ub #[K U 0 0] 150)).heap.size=dg (A a)+1:=ov;have aZ:H (US a [] (λk=>k=dg (A a)) (dB a (Ub #[K U 0 0] 150))):=⟨K U 0 0,zj a _ rfl _ _ 0 _ rfl,zt a _ rfl _ _ 0,A0 _ _ _ _,(λk=>by simp[dH]),b,oa⟩
 generalize dB a (Ub #[K U 0 0] 150)=w1 at *;refine Y9 (F:=Fence.wide) rfl oa (gf:=gf) (lb:=lb) rfl trivial eg
  (a4.later (S.trans b)) (λ_=>rfl) (US a) (λk=>k=dg (A a)) (λk hk=>oa) (λk hk=>by have:=zb HD k hk;exact⟨oa,oa⟩) (λpre ao X X' h k=>h.keep (k.mono (λj _ i=>⟨by have:=i.1;omega,i.2⟩))) aZ
  (λx=>{ tmps:=#[.func (.func gf) #[] lb,undef,Ua (I ⟨dg (A w),0,U⟩),Ua (I ⟨dg (A a),0,U⟩),M Ug x.1,M Ug x.2,.func (.func gf) #[] lb,M Ug x.1,M Ug x.2,undef,undef,undef,undef,undef,undef,undef,undef,undef,undef,undef,undef,undef,undef,undef,undef,undef],defers:=[] }) ?assign ?body ?done
 case assign=>
  intro l x W bp hK;unfold Z3;gi_wp2;exact hK
 case body=>
  rintro l pre ao x m bz bw ⟨r,hr⟩ ⟨sv,P,h2,u,h4,o,h6⟩ bi;obtain⟨pa,pn,pc,rfl⟩:=zq u;have bh:(BP pre).length<=4000000:=by have:=spl_len pre;have h9:=bi.length_le;simp at h9;omega
  have t:=zd u;clear u;have⟨xa,xb⟩:=x;simp only[];have S0:UV a m ao m (K pa pn pc) (BP pre):=⟨P,h2,t,o,zg.refl _ _,(λk hk=>Q ((h4 k).2 (O hk))),h6⟩
  have aC:ao (dg (A a)):=(h4 _).2 (Q rfl);have a3:=zd S0;clear S0;have c1:=clip_len 0 55295 (xa,xb);have c2:=clip_len 57344 1114111 (xa,xb);gi_wp2;refine⟨trivial,(CallsIn.inRound l (callsIn_wide.2 (Xp (dg (A a)+1) (K pa pn pc) (BP pre) (max xa 0) (min xb 55295) m t h6 oa))).mono ?_⟩;rintro e N ⟨bJ,rfl,ag⟩;obtain⟨ak,am,al,rfl⟩:=zq ag.row;have aK:UL (dg (A a)+1) m N (K pa pn pc) (K ak am al) (BP pre++clip 0 55295 (xa,xb)):=ag;have S1:=a3.grow aC aK;have k1:=S1.cell;have k2:=S1.frozen;have an:=zd S1;have m1:=(ag.only.cell (p:=⟨dg (A a),0,U⟩) (zic m _ P) (λe=>by have:=(zh t _ e).1;simp at this;omega)).trans P;have m2:=(ag.only.frozen (p:=⟨dg (A a),0,U⟩) (zic m _ P) (λe=>by have:=(zh t _ e).1;simp at this;omega)).trans h2;clear ag aK S1;gi_wp2;have bk:=an.size;refine⟨trivial,(CallsIn.inRound l (callsIn_wide.2 (Xp (dg (A a)+1) (K ak am al) _ (max xa 57344) (min xb 1114111) _ an.row bk (by simp only[AO];omega)))).mono ?_⟩;rintro e s ⟨bo,rfl,ah⟩;obtain⟨y,L,z,rfl⟩:=zq ah.row;have aL:UL (dg (A a)+1) (dC N ⟨dg (A a),0,U⟩ (K ak am al)) s (K ak am al) (K y L z) (BP (pre++[(xa,xb)])):=by rw[spl_snoc];exact ah
  have S2:=an.grow aC aL;have q:=zd S2;have aO:(K ak am al).ownBlock≠I (dg (A a)):=λe=>by have:=(zh an.row _ e).1;omega
  have n1:=(ah.only.cell (p:=⟨dg (A a),0,U⟩) (zic _ _ k1) aO).trans k1;have n2:=(ah.only.frozen (p:=⟨dg (A a),0,U⟩) (zic _ _ k1) aO).trans k2;clear ah aL S2;gi_wp2;refine⟨λk=>k=dg (A a)\/(K y L z).ownBlock=I k,⟨_,q.cell,q.frozen,q.row,λ_=>Iff.rfl,q.onlyA,q.size⟩,?_,q.onlyO,?_⟩;rintro k (h|h);exact Q (by rw[h];exact aC);exact q.sep k h;rintro k (h|h);have:=q.size;omega;exact(zh q.row k h).2
 case done=>
  rintro d ao m bv ba ⟨sv,P,h2,u,h4,o,h6⟩ hK;obtain⟨pa,pn,pc,rfl⟩:=zq u;have bh:(BP xs).length<=4000000:=by have:=spl_len xs;omega
  have a5:=zd (zeH _ _ _ m u oa);have t:=zd u;clear u
  gi_wp2_with (refine⟨trivial,?_⟩;gi_at_call 189;refine(callsIn_wide.2 a5).mono ?_;rintro e N ⟨rfl,l',i,hs,aQ,aB⟩;have bg:(K pa pn pc).ownBlock≠I (dg (A a)):=(λe=>by have:=(zh t _ e).1;omega);have m1:=(aB.cell (p:=⟨dg (A a),0,U⟩) (zic _ _ P) bg).trans P;have aG:=zd (Hj i hs);have a0:=zd (zeE _ l' _ N aQ (λx hx=>Dr xs x (i.mem_iff.1 hx)) (by have:=i.length_eq;omega));have b:=zd aB;clear aQ aB i hs)
  refine⟨trivial,(callsIn_wide.2 a0).mono ?_⟩;rintro e s ⟨bo,rfl,ai,au⟩;obtain⟨y,L,z,rfl⟩:=zq ai;have bf:(K pa pn pc).ownBlock≠I (dg (A w)):=λe=>by have:=(zh t _ e).1;omega
  have q1:=(o.block (dg (A w)) oa id).trans a2;have bc:dg (A w)<dg (A m):=by have:=o.size;omega
  have p1:=(b.block (dg (A w)) bc bf).trans q1;have bb:dg (A w)<dg (A N):=by have:=b.size;omega
  have ax:=zd ((au.block (dg (A w)) bb id).trans p1);have r1:dx s ⟨dg (A w),0,U⟩=I (K U 0 0):=by unfold dx;rw[zb ax];rfl
  have r2:dz s ⟨dg (A w),0,U⟩=Z:=by unfold dz;rw[zb ax];rfl
  clear q1 p1;have aA:d<dg (A m):=(A1.1 hK).1;have a8:=(b.block d aA (λe=>ba ((h4 d).2 (O e)))).trans hK;have aN:=(au.block d (AM aA b.size) id).trans a8;have bt:dg (A a)<=d:=oa;have bF:=b.size;have T:H (zke a s):=zg.trans ⟨b.os.trans o.os,b.tape.trans o.tape,b.output.trans o.output,AP o.size b.size,λj hj _=>(b.block j (AM hj o.size) (λe=>by have:=(zh t _ e).1;omega)).trans (o.block j hj id)⟩ au;have bj:=λg=>zh ai g;have a1:=zd (VY ai);have bB:=zd ai;clear ai au;gi_wp2;have be:=ZJ (off:=0) (K y L z) ax;have aP:d≠dg (A w):=oa;have a9:=(((zg.refl (λk=>k=dg (A w)) s).setCell (p:=⟨dg (A w),0,U⟩) (Q rfl) (K y L z)).block d (A1.1 aN).1 aP).trans aN;refine⟨ov,Q ⟨_,_,rfl,run_takeDeferred a9,?_⟩⟩;refine⟨_,results_cell_row rfl _ _ (dg (A w)) 152 #[K y L z] (0,0) _ rfl ((dP (Ne.symm aP)).trans be) underlying152 rfl Tryz.NZ,?_⟩;have hf:zg (λk=>k=dg (A w)\/k=d) s ((dC s ⟨dg (A w),0,U⟩ (K y L z)).putObj d (.deferred U)):=((zg.refl (λk=>k=dg (A w)\/k=d) s).setCell (p:=⟨dg (A w),0,U⟩) (Q (Q rfl)) _).putObj d _ (Q (O rfl));have bu:d<dg (A N):=AM aA b.size;refine⟨_,rfl,⟨K y L z,jn [] l',rfl,?_,aG.1,aG.2⟩,?_⟩;refine(a1.mono (B:=λg=>dg (A N)<=g) (λg _ hg=>(bj g hg).1)).keep hf (λg hg i=>?_)|>.mono (λg _ hg=>oa);obtain h|h:=i<;>omega;exact⟨(hf.os.trans T.os).trans S.os,(hf.tape.trans T.tape).trans S.tape,(hf.output.trans T.output).trans S.output,AP S.size (AP T.size hf.size),λj hj _=>
   (hf.block j (by have:=T.size;omega) (λi=>by obtain h|h:=i<;>omega)).trans ((T.block j oa id).trans (S.block j hj id))⟩
theorem xo.slice {w:E}{A:Aj}{v:Y}{S:Am}(h:xo w A v S):∃c e d,v=Uf #[K c e d]:=by obtain⟨sv,i,rfl,b,_⟩:=h;obtain⟨a,_⟩|⟨g,f,a,_⟩:=b;exact⟨_,_,_,by rw[a]⟩;exact⟨_,_,_,by rw[a]⟩
theorem xo.congr {w:E}{A:Aj}{v:Y}{S T:Am}(h:xo w A v S)(e:∀c,S c=T c):xo w A v T:=by have⟨sv,g,a,b,d,f⟩:=h;exact⟨sv,g,a,b,d,λc=>(f c).trans (e c)⟩
def yp (w a:E)(v:Y)(S:Am):Prop:=xo a (λg=>P (A w)<=g) v S/\zke w a
theorem yp.congr {w a:E}{v:Y}{S T:Am}(h:yp w a v S)(e:∀c,S c=T c):yp w a v T:=⟨h.1.congr e,h.2⟩
theorem yp.later {w w1 a:E}{v:Y}{S:Am}(h:yp w1 a v S)(o:zke w w1):yp w a v S:=⟨h.1.mono (λ_g _ b=>AP o.size b),o.trans h.2⟩
theorem xW {w a:E}{z sv:Y}{S:Am}(h:yp (q w (Ub #[z] 152)) a (Uf #[sv]) S):yp w (dC a ⟨P (A w),0,U⟩ sv) (Uf #[sv]) S/\(dC a ⟨P (A w),0,U⟩ sv).heap[P (A w)]?=I (Ub #[sv] 152 (0,0)):=by have c:a.heap[P (A w)]?=I (Ub #[z] 152 (0,0)):=(h.2.block (P (A w)) ov id).trans (World.alloc_heap_new w _);have o:zg (λk=>k=P (A w)) a (dC a ⟨P (A w),0,U⟩ sv):=(zg.refl (λk=>k=P (A w)) a).setCell (p:=⟨P (A w),0,U⟩) (Q rfl) _;refine⟨⟨(h.1.keep o (λg b e=>by simp at b;omega)).mono (λg _ b=>by simp at b;omega),?_⟩,by rw[ZJ sv c];rfl⟩;have d:zke w a:=((zg.refl _ w).alloc _).trans h.2;exact d.setCell (p:=⟨P (A w),0,U⟩) (O (AD _)) _
theorem xp {w a:E}{z:Y}(h:zke (q w (Ub #[z] 152)) a):u a ⟨P (A w),0,U⟩=I z/\dz a ⟨P (A w),0,U⟩=Z:=by have b:a.heap[P (A w)]?=I (Ub #[z] 152 (0,0)):=(h.block (P (A w)) ov id).trans (World.alloc_heap_new w _);exact⟨by simp[u,b],by simp[dz,b]⟩
theorem Zb (A:Aj)(w:E)(h:yM w A sv l)(hl:D l<=1000000):Uh V 116 #[sv] w λe W=>∃v,e=.returned v/\yp w W v (λc=>Cs.isCh c && Tw.zH l c):=by
 have S:∃t x u,sv=K t x u:=by obtain⟨a,_⟩|⟨g,aa,a,_⟩:=h<;>exact⟨_,_,_,a⟩
 have L:∀q w,(callFunc 193 q).run V w=.ok (.enter 193 q) w:=enters_of func193 om rfl;obtain⟨t,x,u,rfl⟩:=S;have F:=zd (h.keep ((zg.refl (λ_=>False) w).alloc (Ub #[K U 0 0] 152)) (λ_ _ f=>f));clear h;go_enter func116,ntmps116;go_wp2_with fail;generalize T:dB w (Ub #[K U 0 0] 152)=d at *;refine(zaw _ d ⟨_,_,_,rfl⟩).mono ?_;rintro e b ⟨v,rfl,s,rfl,a,i,j⟩;go_wp2_with fail;refine(Nk _ _ l (λk=>k=s\/((A k/\k<dg d.heap)/\k<dg b.heap)) b L (YB _ l (λk=>A k/\k<dg d.heap) s b ((F.mono (λg P N=>⟨N,P⟩)).keep j (λ_ _ f=>f)) i oa 8 oa) (λk n=>by
  obtain rfl|n:=n;exact zic b _ i;exact n.2) oa).mono ?_
 rintro e X ⟨v,rfl,o,r⟩;obtain⟨y,B,z,rfl⟩:=o.slice;have m:yp d X (Uf #[K y B z]) (λc=>Cs.isCh c && Tw.zH l c):=yp.later ⟨o,r⟩ j;clear o r j i a;subst T;have⟨k1,k2⟩:=xp m.2;have p:=zd (xW m);clear m;go_wp2_with fail;refine bodyPost_ret (results_cell_row rfl _ _ w.heap.size 152 #[K y B z] (0,0) _ rfl p.2 underlying152 rfl Tryz.NZ) rfl ?_;exact⟨_,rfl,p.1⟩
theorem zeJ (h:∃a c b,sv=K a c b):Uh V 184 #[Uf #[sv]] w λe g=>∃d,e=.returned (.func (.func 219) #[] #[Ua (I ⟨d,0,U⟩)])/\P (A w)<=d/\u g ⟨d,0,U⟩=I sv/\zke w g:=by
 obtain⟨a,c,b,rfl⟩:=h;have f:H ((q w (Ub #[K a c b] 152)).cell? ⟨P (A w),0,U⟩=I (K a c b)/\zke w (q w (Ub #[K a c b] 152))):=⟨zj w _ rfl _ _ 0 _ rfl,Ag⟩
 go_enter func184,ntmps184;go_wp2;go_ret;exact⟨_,rfl,AD _,f.1,f.2⟩
theorem Cs.gaps_len:∀(l:Ai) (b:Int),(Be b l).length=D l+1
 | [],_=>rfl
 |x :: l,b=>by simp[Be,gaps_len l]
theorem Je (A:Aj)(w:E)(h:xo w A v S):Uh V 154 #[v] w λe w'=>∃X,e=.returned X/\yp w w' X (λc=>Cs.isCh c && !S c):=by
 have eg:∀B w,(callFunc 219 B).run V w=.ok (.enter 219 B) w:=enters_of func219 om rfl;obtain⟨sv,l,rfl,s,t,L⟩:=h;obtain⟨b,i,d,rfl⟩:∃b i d,sv=K b i d:=by obtain⟨a,_⟩|⟨g,an,a,_⟩:=s<;>exact⟨_,_,_,a⟩
 have ac:H (zke w ((dB w (Ub #[K b i d] 152)).alloc (Ub #[K U 0 0] 152))):=Ag.alloc _;have z:=zd t;have HS:=zd L;have ao:=t.len;have aa:=zd (s.keep ac (λ_ _ f=>f));clear s t L;go_enter func154,ntmps154;go_wp2_with fail;generalize x:dB w (Ub #[K b i d] 152)=y at *;have ah:dg y.heap=dg w.heap+1:=by rw[<-x];simp
 have ab:H (zke w y):=by rw[<-x];exact Ag
 clear x;generalize ai:dB y (Ub #[K U 0 0] 152)=m at *;refine(zeJ _ m ⟨_,_,_,rfl⟩).mono ?_;rintro e j ⟨N,rfl,a,o,p⟩;go_wp2_with fail;refine(Nk _ _ (Be 0 l) (λk=>k=N\/((A k/\k<dg m.heap)/\k<dg j.heap)) j eg (EO _ l (λk=>A k/\k<dg m.heap) N j ((aa.mono (λg hg hA=>⟨hA,hg⟩)).keep p (λ_ _ f=>f)) z o 8 oa) (λk r=>by
  obtain rfl|r:=r;exact zic j _ o;exact r.2) (by have:=gaps_len l 0;omega)).mono ?_
 rintro e w2 ⟨v,rfl,u,F⟩;obtain⟨P,W,T,rfl⟩:=u.slice;have q:yp m w2 (Uf #[K P W T]) (λc=>Cs.isCh c && !S c):=(yp.later ⟨u,F⟩ p).congr (λc=>by rw[Ea z,zb HS c]);clear u F p o a;subst ai;have⟨k1,k2⟩:=xp q.2;have n:=zd (xW q);clear q;rw[ah] at k1 k2 n;go_wp2_with fail;refine bodyPost_ret (results_cell_row rfl _ _ (dg w.heap+1) 152 #[K P W T] (0,0) _ rfl n.2 underlying152 rfl Tryz.NZ) rfl ?_;exact⟨_,rfl,n.1.later ab⟩
theorem Jf (a:P (A W)=n)(l:Ai)(T:TypeId):yM (q W (Ub (yA l).toArray T)) (λg=>g=n) (K (I ⟨n,0,U⟩) (D l) (D l)) l:=
 O ⟨n,D l,rfl,rfl,AD _,by simp;omega,λj p d=>by
  have⟨b,c⟩:=QH l j p d;exact⟨zj W n a _ _ _ _ (by simpa using b),zj W n a _ _ _ _ (by simpa using c)⟩⟩
theorem Qo:Uh V 185 #[] w λe i=>∃v,e=.returned v/\yp w i v (zX 100):=by go_enter func185,ntmps185;go_wp2_with fail;have c:=Zb (K (I ⟨P (A w)+1,0,U⟩) 1 1) [(48,57)] (λg=>g=P (A w)+1) _ (Jf (q w (Ub #[K U 0 0] 152)) (P (A w)+1) ov [(48,57)] 263) od;refine Calls.mono c ?_;rintro e l ⟨v,rfl,a⟩;obtain⟨d,h,f,rfl⟩:=a.1.slice;have a:=(yp.later a ((zg.refl (λ_=>False) (q w (Ub #[K U 0 0] 152))).alloc _)).congr zfQ;have⟨j,k⟩:=xp a.2;have b:=zd (xW a);go_wp2_with fail;refine bodyPost_ret (results_cell_row rfl _ _ (P (A w)) 152 #[K d h f] (0,0) _ rfl b.2 underlying152 rfl Tryz.NZ) rfl ?_;exact⟨_,rfl,b.1⟩
theorem zbl:Uh V 153 #[] w λe j=>∃v,e=.returned v/\yp w j v (λc=>Cs.isCh c && Tw.zH Ek c):=by go_enter func153,ntmps153;go_wp2_with fail;have d:=Zb (K (I ⟨P (A w)+1,0,U⟩) 3 3) [(10,10),(13,13),(8232,8233)] (λg=>g=P (A w)+1) _ (Jf (q w (Ub #[K U 0 0] 152)) (P (A w)+1) ov [(10,10),(13,13),(8232,8233)] 263) od;refine Calls.mono d ?_;rintro e m ⟨v,rfl,a⟩;obtain⟨f,i,h,rfl⟩:=a.1.slice;have a:=(yp.later a ((zg.refl (λ_=>False) (q w (Ub #[K U 0 0] 152))).alloc _)).congr (λ_=>rfl);have⟨k,l⟩:=xp a.2;have b:=zd (xW a);go_wp2_with fail;refine bodyPost_ret (results_cell_row rfl _ _ (P (A w)) 152 #[K f i h] (0,0) _ rfl b.2 underlying152 rfl Tryz.NZ) rfl ?_;exact⟨_,rfl,b.1⟩
theorem Xq:Uh V 63 #[] w λe i=>∃v,e=.returned v/\yp w i v (zX 119):=by go_enter func63,ntmps63;go_wp2_with fail;have c:=Zb (K (I ⟨P (A w)+1,0,U⟩) 4 4) [(97,122),(65,90),(48,57),(95,95)] (λg=>g=P (A w)+1) _ (Jf (q w (Ub #[K U 0 0] 152)) (P (A w)+1) ov [(97,122),(65,90),(48,57),(95,95)] 263) od;refine Calls.mono c ?_;rintro e l ⟨v,rfl,a⟩;obtain⟨d,h,f,rfl⟩:=a.1.slice;have a:=(yp.later a ((zg.refl (λ_=>False) (q w (Ub #[K U 0 0] 152))).alloc _)).congr M7;have⟨j,k⟩:=xp a.2;have b:=zd (xW a);go_wp2_with fail;refine bodyPost_ret (results_cell_row rfl _ _ (P (A w)) 152 #[K d h f] (0,0) _ rfl b.2 underlying152 rfl Tryz.NZ) rfl ?_;exact⟨_,rfl,b.1⟩
theorem Jg:Uh V 186 #[] w λe i=>∃v,e=.returned v/\yp w i v (zX 115):=by go_enter func186,ntmps186;go_wp2_with fail;have c:=Zb (K (I ⟨P (A w)+1,0,U⟩) 10 10) [(9,13),(32,32),(160,160),(5760,5760),(8192,8202),(8232,8233),(8239,8239),(8287,8287),(12288,12288),(65279,65279)] (λg=>g=P (A w)+1) _ (Jf (q w (Ub #[K U 0 0] 152)) (P (A w)+1) ov [(9,13),(32,32),(160,160),(5760,5760),(8192,8202),(8232,8233),(8239,8239),(8287,8287),(12288,12288),(65279,65279)] 263) od;refine Calls.mono c ?_;rintro e l ⟨v,rfl,a⟩;obtain⟨d,h,f,rfl⟩:=a.1.slice;have a:=(yp.later a ((zg.refl (λ_=>False) (q w (Ub #[K U 0 0] 152))).alloc _)).congr zfR;have⟨j,k⟩:=xp a.2;have b:=zd (xW a);go_wp2_with fail;refine bodyPost_ret (results_cell_row rfl _ _ (P (A w)) 152 #[K d h f] (0,0) _ rfl b.2 underlying152 rfl Tryz.NZ) rfl ?_;exact⟨_,rfl,b.1⟩
theorem zg1:Uh V 155 #[M Ug 100] w λe g=>∃v,e=.returned v/\yp w g v (zX 100):=by go_enter func155,ntmps155;go_wp2_with fail;refine(Qo _).mono ?_;rintro e j ⟨v,rfl,a⟩;obtain⟨c,f,d,rfl⟩:=a.1.slice;have⟨h,i⟩:=xp a.2;have b:=zd (xW a);go_wp2_with fail;refine bodyPost_ret (results_cell_row rfl _ _ (P (A w)) 152 #[K c f d] (0,0) _ rfl b.2 underlying152 rfl Tryz.NZ) rfl ?_;exact⟨_,rfl,b.1⟩
theorem Dx:Uh V 155 #[M Ug 68] w λe k=>∃v,e=.returned v/\yp w k v (zX 68):=by go_enter func155,ntmps155;go_wp2_with fail;refine(Qo _).mono ?_;rintro e l ⟨v,rfl,d⟩;go_wp2_with fail;refine(Je v _ _ l d.1).mono ?_;rintro e o ⟨v,rfl,g⟩;have c:=(yp.later g d.2).congr (KZ (a:=100) (b:=68) oa);obtain⟨h,j,i,rfl⟩:=c.1.slice;have⟨m,n⟩:=xp c.2;have f:=zd (xW c);go_wp2_with fail;refine bodyPost_ret (results_cell_row rfl _ _ (P (A w)) 152 #[K h j i] (0,0) _ rfl f.2 underlying152 rfl Tryz.NZ) rfl ?_;exact⟨_,rfl,f.1⟩
theorem zg2:Uh V 155 #[M Ug 119] w λe g=>∃v,e=.returned v/\yp w g v (zX 119):=by go_enter func155,ntmps155;go_wp2_with fail;refine(Xq _).mono ?_;rintro e j ⟨v,rfl,a⟩;obtain⟨c,f,d,rfl⟩:=a.1.slice;have⟨h,i⟩:=xp a.2;have b:=zd (xW a);go_wp2_with fail;refine bodyPost_ret (results_cell_row rfl _ _ (P (A w)) 152 #[K c f d] (0,0) _ rfl b.2 underlying152 rfl Tryz.NZ) rfl ?_;exact⟨_,rfl,b.1⟩
theorem Dv:Uh V 155 #[M Ug 87] w λe k=>∃v,e=.returned v/\yp w k v (zX 87):=by go_enter func155,ntmps155;go_wp2_with fail;refine(Xq _).mono ?_;rintro e l ⟨v,rfl,d⟩;go_wp2_with fail;refine(Je v _ _ l d.1).mono ?_;rintro e o ⟨v,rfl,g⟩;have c:=(yp.later g d.2).congr (KZ (a:=119) (b:=87) oa);obtain⟨h,j,i,rfl⟩:=c.1.slice;have⟨m,n⟩:=xp c.2;have f:=zd (xW c);go_wp2_with fail;refine bodyPost_ret (results_cell_row rfl _ _ (P (A w)) 152 #[K h j i] (0,0) _ rfl f.2 underlying152 rfl Tryz.NZ) rfl ?_;exact⟨_,rfl,f.1⟩
theorem zg3:Uh V 155 #[M Ug 115] w λe g=>∃v,e=.returned v/\yp w g v (zX 115):=by go_enter func155,ntmps155;go_wp2_with fail;refine(Jg _).mono ?_;rintro e j ⟨v,rfl,a⟩;obtain⟨c,f,d,rfl⟩:=a.1.slice;have⟨h,i⟩:=xp a.2;have b:=zd (xW a);go_wp2_with fail;refine bodyPost_ret (results_cell_row rfl _ _ (P (A w)) 152 #[K c f d] (0,0) _ rfl b.2 underlying152 rfl Tryz.NZ) rfl ?_;exact⟨_,rfl,b.1⟩
theorem Dw:Uh V 155 #[M Ug 83] w λe k=>∃v,e=.returned v/\yp w k v (zX 83):=by go_enter func155,ntmps155;go_wp2_with fail;refine(Jg _).mono ?_;rintro e l ⟨v,rfl,d⟩;go_wp2_with fail;refine(Je v _ _ l d.1).mono ?_;rintro e o ⟨v,rfl,g⟩;have c:=(yp.later g d.2).congr (KZ (a:=115) (b:=83) oa);obtain⟨h,j,i,rfl⟩:=c.1.slice;have⟨m,n⟩:=xp c.2;have f:=zd (xW c);go_wp2_with fail;refine bodyPost_ret (results_cell_row rfl _ _ (P (A w)) 152 #[K h j i] (0,0) _ rfl f.2 underlying152 rfl Tryz.NZ) rfl ?_;exact⟨_,rfl,f.1⟩
def B4 (a:Int):Prop:=a=100\/a=68\/a=119\/a=87\/a=115\/a=83
theorem Qp (h:B4 a)(w:E):Uh V 155 #[M Ug a] w λe b=>∃v,e=.returned v/\yp w b v (zX a):=by obtain rfl|rfl|rfl|rfl|rfl|rfl:=h;exact zg1 w;exact Dx w;exact zg2 w;exact Dv w;exact zg3 w;exact Dw w
end
section
namespace Cs
open Tw (zH)
variable {x l}
theorem X6 (h:zQ (x :: l)):zH (x :: l) x.1=G:=by have:=h.2 x (A8 ..);rw[jF];exact⟨x,A8 ..,Iv _,this.1⟩
theorem zfW (h:zQ (x :: l)){c:Int}(d:zH (x :: l) c=G):x.1<=c:=by have⟨y,a,b,f⟩:=(jF _ _).1 d;obtain rfl|a:=BZ.1 a;exact b;have:=(Cv.1 h.1).1 y a;have e:=h.2 x (A8 ..);unfold BK at e;omega
theorem JX (h:zQ (x :: l)){c:Int}(a:zH l c=G):x.2+1<c:=by have⟨y,b,d,e⟩:=(jF _ _).1 a;have:=(Cv.1 h.1).1 y b;omega
theorem zQ.tail (h:zQ (x :: l)):zQ l:=⟨(Cv.1 h.1).2,λy a=>h.2 y (Bm _ a)⟩
variable {y m}
theorem zfX (h:zQ (x :: l))(_k:zQ (y :: m))(e:∀c,zH (x :: l) c=zH (y :: m) c)(g:x.1=y.1):y.2<=x.2:=by obtain a|a:=Int.lt_or_le x.2 y.2;have d:=h.2 x (A8 ..);unfold BK at d;have:zH (y :: m) (x.2+1)=G:=(jF _ _).2 ⟨y,A8 ..,oa,oa⟩;rw[<-e,vz,FG,kU] at this;obtain b|b:=this;omega;have:=JX h b;omega;exact a
theorem zQ.unique:∀{l m:Ai},zQ l->zQ m->(∀c,zH l c=zH m c)->l=m
 | [],[],_,_,_=>rfl
 | [],y :: m,_,k,e=>by have:=X6 k;rw[<-e] at this;simp[zH] at this
 |x :: l,[],h,_,e=>by have:=X6 h;rw[e] at this;simp[zH] at this
 |x :: l,y :: m,h,k,e=>by
  have d:x.1=y.1:=by have a:=zfW k (by rw[<-e];exact X6 h);have b:=zfW h (by rw[e];exact X6 k);omega
  have g:x.2=y.2:=by have a:=zfX h k e d;have b:=zfX k h (λc=>(e c).symm) d.symm;omega
  obtain rfl:x=y:=Prod.ext d g;congr 1;refine zQ.unique h.tail k.tail (λc=>?_);have f:=e c;rw[vz,vz] at f;obtain i|i:=Int.lt_or_le (x.2+1) c;have:CR x c=Z:=(by rw[G6,ne_eq,kU];omega);simpa [this] using f;have a:zH l c=Z:=by
   cases hh:zH l c with
   |false=>rfl
   |true=>have:=JX h hh;omega
  have b:zH m c=Z:=by
   cases hh:zH m c with
   |false=>rfl
   |true=>have:=JX k hh;omega
  rw[a,b]
noncomputable def shL (a:Int):List (Int×Int):=open Classical in if h:∃l,zQ l/\∀c,zH l c=zX a c then h.choose else []
theorem DC {a:Int}{l:Ai}(h:zQ l)(e:∀c,zH l c=zX a c):shL a=l:=by
 have b:∃l,zQ l/\∀c,zH l c=zX a c:=⟨l,h,e⟩
 unfold shL;rw[dif_pos b];exact b.choose_spec.1.unique h (λc=>(b.choose_spec.2 c).trans (e c).symm)
theorem zay (c:Int):∀(S:Ar),(∀a∈S,∀c,zH (shL a) c=zX a c)->zH (S.flatMap shL) c=S.any λa=>zX a c
 | [],_=>rfl
 |a :: S,h=>by
  rw[Lp,inSp_append,h a (A8 ..),zay c S (λb d=>h b (Bm _ d))];rfl
variable (l)
theorem IU:(jn [] l).length<=D l:=
 Jc (P:=λl=>(jn [] l).length<=D l) (by simp[jn]) (λl x a=>by
  rw[jn_snoc];have:=jn1_len (jn [] l) x;simp only[AO,Ce];omega) l
theorem YC (rs:Ai):∃l,zQ l/\(∀c,zH l c=(isCh c && zH rs c))/\(D l)<=2*D rs:=by have e:=List.mergeSort_perm (BP rs) (λx y=>decide (x.1<=y.1));have f:=List.pairwise_mergeSort (le:=λ(x y:Int×Int)=>decide (x.1<=y.1)) (λx y z a b=>by simp at *;omega) (λx y=>by simp;omega) (BP rs);have⟨a,b⟩:=Hj e (f.imp (λh=>by simpa using h));refine⟨_,a,b,?_⟩;have d:=IU ((BP rs).mergeSort λx y=>decide (x.1<=y.1));rw[List.length_mergeSort] at d;have g:=spl_len rs;omega
theorem Hi (h:B4 a):zQ (shL a)/\(∀c,zH (shL a) c=zX a c)/\(shL a).length<=42:=by
 have fin:∀l,zQ l->(∀c,zH l c=zX a c)->D l<=42->zQ (shL a)/\(∀c,zH (shL a) c=zX a c)/\(shL a).length<=42:=λl e f g=>by rw[DC e f];exact⟨e,f,g⟩
 have up:∀(b:Int) l,zQ l->(∀c,zH l c=zX b c)->D l<=20->((b=100/\a=68)\/(b=119/\a=87)\/(b=115/\a=83))->zQ (shL a)/\(∀c,zH (shL a) c=zX a c)/\(shL a).length<=42:=λb l e f P x=>by have⟨m,g,v,w⟩:=YC (Be 0 l);rw[gaps_len] at w;exact fin m g (λc=>by rw[v,Ea e,f];exact KZ x c) oa
 have⟨d,i,r,t⟩:=YC [(48,57)];have⟨q,k,y,z⟩:=YC LM;have⟨s,o,F,L⟩:=YC Qv;have j:∀c,zH d c=zX 100 c:=λc=>(r c).trans (zfQ c);have n:∀c,zH q c=zX 119 c:=λc=>(y c).trans (M7 c);have p:∀c,zH s c=zX 115 c:=λc=>(F c).trans (zfR c);have B:D q<=20:=by simp[LM] at z;omega
 have N:D s<=20:=by simp[Qv] at L;omega
 have u:D d<=20:=by simp at t;omega
 obtain rfl|rfl|rfl|rfl|rfl|rfl:=h;exact fin d i j oa;exact up 100 d i j u oa;exact fin q k n oa;exact up 119 q k n B oa;exact fin s o p oa;exact up 115 s o p N oa
theorem zcV:∀(S:Ar),(∀a∈S,(shL a).length<=42)->(S.flatMap shL).length<=42*D S
 | [],_=>ov
 |a :: S,h=>by
  have d:=h a (A8 ..);have e:=zcV S (λb c=>h b (Bm _ c));rw[Lp,AO,BH];omega
end Cs
open Go.RowKit
theorem xo.short {w:E}{A:Aj}{v:Y}{a:Int}(h:xo w A v (zX a)):∃sv,v=Uf #[sv]/\yM w A sv (shL a)/\zQ (shL a)/\∀c,Tw.zH (shL a) c=zX a c:=by have⟨sv,i,f,g,b,d⟩:=h;have e:=DC b d;exact⟨sv,f,by rw[e];exact g,by rw[e];exact b,by rw[e];exact d⟩
end
section
open Go.RowKit
open Sm (Stp Tree)
namespace TC
def jQ (s:Stp)(c:Int):Bool:=decide (s.kind=1) && vg s.leaf c
def kX (b e p n:Bool)(a:Int):Bool:=if a=0 then b else if a=1 then e else if a=2 then p != n else p == n
def Co (W:Am)(L:Ai)(i:Nat):Bool:=decide (i≠0) && W (zi L (i-1))
def Cq (W:Am)(L:Ai)(i:Nat):Bool:=decide (i≠(D L)) && W (zi L i)
end TC
def YD (w:E)(A:Aj)(g:Nat)(N:Aq):Prop:=∀(k:Nat) s,N[k]?=I s->u w ⟨g,k*5,U⟩=I (M J (s.kind:Nat))/\(∃sv,u w ⟨g,k*5+1,U⟩=I sv/\xo w A (Uf #[sv]) (TC.jQ s))/\u w ⟨g,k*5+2,U⟩=I (M J s.asr)/\u w ⟨g,k*5+3,U⟩=I (M J (s.next:Nat))/\u w ⟨g,k*5+4,U⟩=I (M J (s.other:Nat))
theorem YD.keep {P A:Aj}{w c:E}{g:Nat}{N:Aq}(h:YD w A g N)(k:zg P w c)(b:∀g,A g->¬P g)(n:A g):YD c A g N:=λj s o=>by have⟨d,⟨sv,e,f⟩,i,l,m⟩:=h j s o;have a:=b g n;exact⟨zf k _ _ d a,⟨sv,zf k _ _ e a,f.keep k b⟩,zf k _ _ i a,zf k _ _ l a,zf k _ _ m a⟩
theorem YD.mono {A B:Aj}{w:E}{g:Nat}{N:Aq}(h:YD w A g N)(e:∀g,g<P w.heap->A g->B g):YD w B g N:=λj s f=>by have⟨a,⟨sv,b,c⟩,d⟩:=h j s f;exact⟨a,⟨sv,b,c.mono e⟩,d⟩
structure qW (w:E)(A:Aj)(pb:Nat)(N:Aq)(st:Nat)(W:Am):Prop where
 own:A pb
 c0:∃g cap,u w ⟨pb,0,U⟩=I (K (I ⟨g,0,U⟩) (D N) cap)/\A g/\(D N)<=cap/\YD w A g N
 c1:u w ⟨pb,1,U⟩=I (M J (st:Nat))
 c2:∃sv,u w ⟨pb,2,U⟩=I sv/\xo w A (Uf #[sv]) W
 len:D N<=300
 fit:∀(k:Nat) s,N[k]?=I s->s.next<D N/\s.other<D N
 stl:st<D N
theorem qW.keep {P A:Aj}{w c:E}{pb:Nat}{N:Aq}{st:Nat}{W:Am}(h:qW w A pb N st W)(k:zg P w c)(a:∀g,A g->¬P g):qW c A pb N st W:=by have⟨g,d,e,b,f,i⟩:=h.c0;have⟨sv,j,l⟩:=h.c2;exact⟨h.own,⟨g,d,zf k _ _ e (a _ h.own),b,f,i.keep k a b⟩,zf k _ _ h.c1 (a _ h.own),⟨sv,zf k _ _ j (a _ h.own),l.keep k a⟩,h.len,h.fit,h.stl⟩
def qM (w:E)(v:Y)(L:Ai):Prop:=(v=K U 0 0/\L=[])\/∃g a,v=K (I ⟨g,0,U⟩) (D L) a/\(D L)<=a/\TJ w g L
theorem qM.keep {w a:E}{v:Y}{L:Ai}(h:qM w v L)(k:zke w a):qM a v L:=by obtain h|⟨g,b,c,d,e⟩:=h;exact Q h;exact O ⟨g,b,c,d,e.keep k id⟩
theorem zg4 (b e p n:Bool)(a:Int)(w:E):Uh V 143 #[Uf #[C b,C e,C p,C n],M J a] w λx h=>x=.returned (C (TC.kX b e p n a))/\zke w h:=by
 have c:H (zke w (w.alloc (Ub #[C b,C e,C p,C n] 223))):=Ag;unfold TC.kX;by_cases d:a=0
 .subst d;go_enter func143,ntmps143;go_wp2;go_ret;exact⟨rfl,c⟩
 by_cases f:a=1
 .subst f;go_enter func143,ntmps143;go_wp2;go_ret;exact⟨rfl,c⟩
 by_cases g:a=2
 .subst g;go_enter func143,ntmps143;go_wp2;go_ret;exact⟨rfl,c⟩
 simp only[d,f,g,if_false];go_enter func143,ntmps143;go_wp2;go_ret;exact⟨rfl,c⟩
end
section
open Go.RowKit Go.Shelf
attribute [local go_sem] Oper.semAt_some
theorem Qq:∀(l:Ai) (j:Nat) (p:Int×Int),l[j]?=I p->(AG l)[j*2]?=I (M Ug p.1)/\(AG l)[j*2+1]?=I (M Ug p.2)
 | [],j,p,h=>by simp at h
 |x :: l,0,p,h=>by simp at h;subst h;simp[AG]
 |x :: l,j+1,p,h=>by
  have:=Qq l j p (by simpa using h);rw[show(j+1)*2=j*2+2 by omega];simpa [AG] using this
structure UE (w:E)(A:Aj)(kb:Nat)(v1 v2:Y)(R:Ai)(S:Ar):Prop where
 c1:u w ⟨kb,1,U⟩=I v1
 c2:u w ⟨kb,2,U⟩=I v2
 r1:qz w A v1 (D R) (AG R)
 r2:qz w A v2 (D S) (jO S)
theorem qz.facts {w:E}{A:Aj}{v:Y}{n:Nat}{xs:An}(h:qz w A v n xs):∃a b,v=K a n b/\(n≠0->∃g,a=I ⟨g,0,U⟩/\n<=b/\(A g/\g<P w.heap)/\∀j x,xs[j]?=I x->u w ⟨g,j,U⟩=I x):=by
 obtain⟨rfl,rfl,rfl⟩|⟨g,c,rfl,d,e,f,i⟩:=h;exact⟨U,0,rfl,λh=>absurd rfl h⟩
 grind
def mkD (D:Nat):Deferred:={ target:=.collected D,args:=#[] }
theorem Jh {n:Nat}{P:Program}{c:Func}{tmps:Array Y}{R:Ending->E->Prop}(f:c.results=#[]):∀(a:Ao) (w:E),a.Nodup->(∀D∈a,w.heap[D]?=I (.deferred (I [])))->(∀b,zg (λk=>k∈a) w b->R (.returned (Ue #[])) b)->LeavesInM Fence.wide n P c tmps R (a.map mkD) .returning w
 | [],w,_,_,h=>⟨_,results_none f _ _ _,h w (zg.refl _ _)⟩
 |D :: a,w,m,e,h=>by
  have⟨i,j⟩:=List.nodup_cons.1 m;refine⟨ov,Q ⟨_,_,rfl,run_takeDeferred (e D (A8 ..)),?_⟩⟩;refine Jh f a _ j (λg d=>?_) (λb o=>h b ?_);rw[dP (by rintro rfl;exact i d)];exact e g (Bm _ d);exact((zg.refl (λk=>k∈D :: a) w).putObj D _ (Q (A8 ..))).trans (o.mono (λk _ l=>Bm _ l))
structure T7 (w0:E)(D:Aj)(J:Ai->Aj->E->Prop)(k0 lp:Nat)(ds:Ao)(base:Ai)(pre:Ai)(O:Aj)(X:E):Prop where
 j:J (base++pre) O X
 kept:kB D w0 X O
 nO:¬O k0
 y:u X ⟨k0,0,U⟩=I (.func (.yield lp) #[] #[])
 ms:∀m∈ds,¬O m/\X.heap[m]?=I (.deferred (I []))
 lt:∀k,O k->k<P (A X)
theorem T7.keep {g:E}{D:Aj}{b:Ai->Aj->E->Prop}{d i B B2:Nat}{e:Ao}{base pre:Ai}{O:Aj}{X X':E}(q:∀pre O A A',b pre O A->zg (λk=>B<=k/\¬O k) A A'->b pre O A')(t:B<=B2)(s:P g.heap<=B2)(u:d<B2)(r:∀m∈e,m<B2)(h:T7 g D b d i e base pre O X)(o:zg (λk=>B2<=k/\¬O k) X X'):T7 g D b d i e base pre O X':=
 ⟨q _ _ _ _ h.j (o.mono (λk _ a=>⟨oa,a.2⟩)),
  ⟨AP h.kept.1 o.size,λk a=>by
   have⟨j,l,n⟩:=h.kept.2 k a;have:=h.kept.1;exact⟨j,l,(o.block k oa (λf=>oa)).trans n⟩⟩,
  h.nO,(o.cell (p:=⟨d,0,U⟩) (zic X _ h.y) (λf=>by have:=f.1;simp at this;omega)).trans h.y,
  λm c=>⟨(h.ms m c).1,(o.block m (A1.1 (h.ms m c).2).1 (λf=>by have:=r m c;omega)).trans (h.ms m c).2⟩,
  λk a=>AM (h.lt k a) o.size⟩
theorem T7.yield {j:E}{D:Aj}{b:Ai->Aj->E->Prop}{d i:Nat}{e:Ao}{base pre:Ai}{x:Int×Int}{O O':Aj}{X X':E}(h:T7 j D b d i e base pre O X)(o:b (base++pre++[x]) O' X')(g:∀k,O' k->O k\/P (A X)<=k)(c:zg O X X')(q:∀k,O' k->k<P (A X')):T7 j D b d i e base (pre++[x]) O' X':=by
 have no:∀m,¬O m->m<P (A X)->¬O' m:=λm l r n=>by obtain h|h:=g m n;exact l h;omega
 have f:=zic X _ h.y;exact⟨by rw[<-Bu];exact o,h.kept.yield g c,no _ h.nO f,(c.cell (p:=⟨d,0,U⟩) f h.nO).trans h.y,λm a=>⟨no m (h.ms m a).1 (A1.1 (h.ms m a).2).1,(c.block m (A1.1 (h.ms m a).2).1 (h.ms m a).1).trans (h.ms m a).2⟩,q⟩
theorem zcW (S:Ar)(A:Aj)(b:Nat)(q:E)(h:UE q A b v1 v2 R S)(hS:∀a∈S,B4 a)(hR:D R<=1000)(b4:D S<=1000)(n:Nat)(cb:5<=n):TO Fence.wide n V 220 #[Ua (I ⟨b,0,U⟩)] Z3 (R++S.flatMap shL) (λk=>k=b\/(A k/\k<dg q.heap)) q:=by
 intro t ab O0 W hO hD aZ hJ hY h0;have bD:=zic q _ h.c1;have z:H (kB (λk=>k=b\/(A k/\k<dg q.heap)) q W O0):=kB.start (λk w=>by obtain rfl|w:=w;exact bD;exact w.2) hO hD;have a4:=(z.cell (p:=⟨b,1,U⟩) (Q rfl)).trans h.c1;have b7:=(z.cell (p:=⟨b,2,U⟩) (Q rfl)).trans h.c2;obtain⟨pa,pc,rfl,HC⟩:=h.r1.facts;obtain⟨qa,qc,rfl,ax⟩:=h.r2.facts;have HC:=zd HC;have ax:=zd ax;have T:=zd hJ;have HY:=zd hY;have H0:=zd h0;have bn:=zd hS;have aP:=zd aZ;have bA:=h.c2;have a8:=hO.size;clear h hJ hY h0 hD aZ hS;have HA:H (zke W (dB W (Ub #[.func (.yield t) #[] #[]] 350))):=Ag;have bE:=zic W _ a4;have bw:=(HA.cell (p:=⟨b,1,U⟩) bE id).trans a4;have a2:(dB W (Ub #[.func (.yield t) #[] #[]] 350)).cell? ⟨dg W.heap,0,U⟩=I (.func (.yield t) #[] #[]):=zj W _ rfl _ _ 0 _ rfl;have aN:H (ab [] O0 (dB W (Ub #[.func (.yield t) #[] #[]] 350))):=zb T _ _ _ _ H0 ((zg.refl _ W).alloc _);have aO:=zd (z.NU (W:=W) a8 (A':=dB W (Ub #[.func (.yield t) #[] #[]] 350)) ((zg.refl _ W).alloc _));have ch:(dB W (Ub #[.func (.yield t) #[] #[]] 350)).heap.size=dg W.heap+1:=ov
 have bG:¬O0 W.heap.size:=λh=>by have:=zb aP _ h;omega
 clear z H0;refine callsIn_of_wp_marks func220 rfl trivial ?_ rfl;simp only[ntmps220,Cu,BH,Cc,Nat.reduceAdd,Nat.reduceSub,G9,He,G7,G8,Cd,Ci]
 gi_wp2
 generalize dB W (Ub #[.func (.yield t) #[] #[]] 350)=W1 at *
 gi_loopw [12] (λvi wr=>∃(i:Nat) (o:Aj),vi=M J i/\i<=D R/\H (ab (R.take i) o wr)/\H (kB (λk=>k=b\/(A k/\k<dg q.heap)) q wr o)/\¬o W.heap.size/\dx wr ⟨dg W.heap,0,U⟩=I (.func (.yield t) #[] #[])/\dg W.heap+1<=dg wr.heap/\H (∀k,o k->k<dg wr.heap)) (λvi _=>D R-(intOf vi).toNat)
 case atStart=>exact⟨0,O0,rfl,oa,aN,aO,bG,a2,oa,(λk w=>by have:=zb aP k w;omega)⟩
 case round=>
  clear aO aN a2 bw;obtain⟨i,o,rfl,hi,ae,z,aq,ap,cd,aR⟩:=hrel;by_cases aD:i<D R
  ·(obtain⟨g,rfl,bJ,am,N⟩:=zb HC oa;have ac:R[i]?=I R[i]:=AE aD;have⟨e1,e2⟩:=Qq R i _ ac;have c1:=(z.cell (p:=⟨g,i*2,U⟩) (O am)).trans (N _ _ e1);have c2:=(z.cell (p:=⟨g,i*2+1,U⟩) (O am)).trans (N _ _ e2);clear e1 e2 N;have HP:H ((R.take i++[R[i]]) <+: (R++S.flatMap shL)):=(VX R i aD).trans (MJ _ _);have HT:H (R.take i++[R[i]]=R.take (i+1)):=Z1 R i aD;clear ac;generalize R[i]=y at *;have aV:zke wr (dB wr (Ub #[M Ug y.1,M Ug y.2] 368)):=(zg.refl _ wr).alloc _;have an:=zb T (R.take i) o wr (dB wr (Ub #[M Ug y.1,M Ug y.2] 368)) ae ((zg.refl _ wr).alloc _);have af:=zd (z.NU (W:=W) a8 (A':=dB wr (Ub #[M Ug y.1,M Ug y.2] 368)) ((zg.refl _ wr).alloc _));have a3:=(aV.cell (p:=⟨dg W.heap,0,U⟩) (zic wr _ ap) id).trans ap;have aG:(dB wr (Ub #[M Ug y.1,M Ug y.2] 368)).heap.size=dg wr.heap+1:=ov;have⟨fn,aI,assign,body,hy,hR⟩:=zb HY (R.take i) o y _ an HP;simp only[Z3] at hy;clear an aV;gi_wp2;refine⟨λh=>by simp[Fence.wide] at h,hR.mono ?_⟩;rintro e W3 ⟨rfl,O',br,a7,aC,bF⟩;have bk:=zd (af.yield a7 aC);have bz:=(aC.cell (p:=⟨dg W.heap,0,U⟩) (zic _ _ a3) aq).trans a3;have bH:¬O' W.heap.size:=λh=>by obtain h|h:=a7 _ h;exact aq h;omega);have cg:=aC.size;gi_wp2;exact⟨⟨i+1,O',Ae,oa,(by rw[<-zb HT];exact br),bk,bH,bz,oa,bF⟩,Ad⟩
  obtain rfl:i=D R:=oa;rw[FR] at ae;have bx:=(z.cell (p:=⟨b,2,U⟩) (Q rfl)).trans bA;gi_wp2;refine wpIn_loop (λa' w'=>∃(j:Nat) (B:Ao) (o:Aj) (v6 ba bb bc be bf bg aJ:Y),a' = { tmps:=#[.func (.yield t) #[] #[],Ua (I ⟨b,0,U⟩),Ua (I ⟨dg W.heap,0,U⟩),undef,u4,undef,v6,undef,undef,Ua (I ⟨b,1,U⟩),K pa (D R) pc,M J (D R:Nat),M J (D R:Nat),C Z,u14,u15,u16,u17,u18,u19,u20,u21,u22,u23,Ua (I ⟨b,2,U⟩),K qa (D S) qc,M J (D S:Nat),M J (j:Nat),ba,bb,bc,be,bf,bg,undef,undef,undef,undef,undef,undef,undef,aJ],defers:=B.map mkD }/\j<=D S/\B.Nodup/\(∀m∈B,dg W.heap<=m)/\H (T7 q (λk=>k=b\/(A k/\k<dg q.heap)) ab W.heap.size t B (R++(S.take j).flatMap shL) [] o w')) (λa' _=>D S-(intOf (a'.tmps.getD 27 undef)).toNat) ?start ?round
  case start=>exact⟨0,[],o,undef,undef,undef,undef,undef,undef,undef,undef,rfl,oa,List.nodup_nil,(λm c=>by cases c),⟨by simpa using zb ae,z,aq,ap,(λm c=>by cases c),aR⟩⟩
  case round=>
   clear ae z aq ap aR bx;rintro a' ad ⟨j,B,o,v6,ba,bb,bc,be,bf,bg,aJ,rfl,hj,a6,bB,s⟩;by_cases P:j<D S
   ·(obtain⟨g,rfl,bJ,am,N⟩:=zb ax oa;have ac:S[j]?=I S[j]:=AE P;have c1:=(s.kept.cell (p:=⟨g,j,U⟩) (O am)).trans (N j (M Ug S[j]) (by simp[jO,ac]));have bI:=zb bn S[j] (BO P);have HT:H (R++(S.take j).flatMap shL++shL S[j]=R++(S.take (j+1)).flatMap shL):=by rw[<-Z1 S j P,List.flatMap_append,Bu];simp only[Lp,List.flatMap_nil,BW];trivial);have HP:H ((R++(S.take j).flatMap shL++shL S[j]) <+: (R++S.flatMap shL)):=by
     rw[zb HT];refine(List.prefix_append_right_inj _).2 ?_
     (conv=>rhs;rw[<-List.take_append_drop (j+1) S,List.flatMap_append]);exact MJ _ _
    clear N ac;generalize S[j]=a at *;gi_wp2;refine⟨trivial,λh=>by simp[Fence.wide] at h,(callsIn_wide.2 (Qp a bI _)).mono ?_⟩;rintro e V1 ⟨v,rfl,hN⟩;obtain⟨sv,rfl,aE,bL,bC⟩:=hN.1.short;have aB:=hN.2;clear hN bC;have bM:∃pa pn pc,sv=K pa pn pc:=(by obtain⟨h1,_⟩|⟨g,b1,h1,_⟩:=aE<;>exact⟨_,_,_,h1⟩);obtain⟨ra,rn,rc,rfl⟩:=bM;gi_wp2;refine⟨trivial,λh=>by simp[Fence.wide] at h,(callsIn_wide.2 (QG _ _ ⟨_,_,_,rfl⟩)).mono ?_⟩;rintro e V2 ⟨v,rfl,aH,rfl,b8,a5,L⟩;have bl:=zd (aB.trans L);have ce:=aB.size;have cf:=L.size;have ca:=bL.len;have bm:=zd (aE.keep L (λ_ _ f=>f));have af:=zd a5;have aa:H (T7 q (λk=>k=b\/(A k/\k<dg q.heap)) ab W.heap.size t B (R++(S.take j).flatMap shL) [] o V2):=s.keep (B2:=dg ad.heap) T (by have:=zic ad _ s.y;simp at this;omega) s.kept.1 (by have:=zic ad _ s.y;simpa using this) (λm c=>(A1.1 (s.ms m c).2).1) (bl.mono (λ_ _ f=>f.elim));have bO:=zic ad _ s.y;simp only[] at bO;clear aB L aE a5;gi_wp2;refine Y9 (F:=Fence.wide) rfl oa (gf:=193) (lb:=#[Ua (I ⟨aH,0,U⟩)]) rfl trivial (enters_of func193 om rfl)
     (YB _ (shL a) _ aH V2 bm af oa (n-1) oa) (λ_=>rfl) (T7 q (λk=>k=b\/(A k/\k<dg q.heap)) ab W.heap.size t B (R++(S.take j).flatMap shL)) o aa.lt ?d ?i aa
     (λx=>{ tmps:=#[.func (.yield t) #[] #[],Ua (I ⟨b,0,U⟩),Ua (I ⟨dg W.heap,0,U⟩),undef,u4,undef,M Ug a,M Ug x.1,M Ug x.2,Ua (I ⟨b,1,U⟩),K pa (D R) pc,M J (D R:Nat),M J (D R:Nat),C Z,u14,u15,u16,u17,u18,u19,u20,u21,u22,u23,Ua (I ⟨b,2,U⟩),K (I ⟨g,0,U⟩) (D S) qc,M J (D S:Nat),M J (j:Nat),C G,Ua (I ⟨g,j,U⟩),M Ug a,M Ug a,Uf #[K ra rn rc],.func (.func 193) #[] #[Ua (I ⟨aH,0,U⟩)],M Ug x.1,M Ug x.2,undef,undef,undef,undef,undef,aJ],defers:=[] }) ?assign ?body ?done
    case d=>
     rintro k (rfl|⟨h1,h2⟩);exact⟨zic V2 _ af,λw=>by have:=s.lt _ w;omega⟩;exact⟨h2,λw=>by have:=s.lt _ w;omega⟩
    case i=>
     intro pre O1 X X' u bv;exact u.keep (B2:=dg V2.heap) T oa aa.kept.1 oa (λm c=>(A1.1 (aa.ms m c).2).1) bv
    case assign=>
     intro l x W bU hK;unfold Z3;gi_wp2;exact hK
    case body=>
     rintro l2 pre O1 x X b9 b3 ⟨r,hr⟩ u bK;have⟨fn,aI,assign,body,hy,hR⟩:=YieldAt.RA (m':=n-1-1-1) (zb HY (R++(S.take j).flatMap shL++pre) O1 x X u.j (by rw[Bu];exact List.IsPrefix.trans ((List.prefix_append_right_inj _).2 bK) HP));simp only[Z3] at hy;have ci:=u.y;have⟨xa,xc⟩:=x;simp only[] at hy ⊢;gi_wp2;refine⟨λh=>by simp[Fence.wide] at h,RoundIn.mono hR ?_⟩;rintro e X2 ⟨rfl,O',an,aG,L,P⟩;gi_wp2;exact⟨O',u.yield an aG L P,aG,L,P⟩
    case done=>
     rintro Dm O1 X b2 bu u bt;gi_wp2;refine⟨⟨j+1,Dm :: B,O1,_,_,_,_,_,_,_,_,rfl,oa,List.nodup_cons.2 ⟨λc=>?_,a6⟩,?_,?_⟩,?_⟩;have:=(A1.1 (aa.ms Dm c).2).1;omega
     grind
     refine⟨by rw[BW,<-zb HT];exact u.j,u.kept,u.nO,u.y,λm c=>?_,u.lt⟩;obtain rfl|c:=BZ.1 c;exact⟨bu,bt⟩;exact u.ms m c;simp[intOf];omega
   obtain rfl:j=D S:=oa;rw[FR] at s;gi_wp2;refine Jh rfl B ad a6 (λm c=>(s.ms m c).2) (λw' bN=>⟨⟨_,rfl⟩,o,?_⟩);have:=s.j;rw[BW] at this;exact zb T _ _ _ _ this (bN.mono (λk _ w=>⟨bB k w,(s.ms k w).1⟩))
theorem JY (neg:Bool)(v1 v2:Y)(w:E)(k:∃a c b,v1=K a c b)(l:∃a c b,v2=K a c b):Uh V 187 #[Uf #[C neg,v1,v2]] w λe j=>∃d,e=.returned (.func (.func 220) #[] #[Ua (I ⟨d,0,U⟩)])/\P (A w)<=d/\u j ⟨d,1,U⟩=I v1/\u j ⟨d,2,U⟩=I v2/\zke w j:=by
 obtain⟨a,c,b,rfl⟩:=k;obtain⟨f,h,g,rfl⟩:=l;have i:H ((q w (Ub #[C neg,K a c b,K f h g] 250)).cell? ⟨P (A w),1,U⟩=I (K a c b)/\(q w (Ub #[C neg,K a c b,K f h g] 250)).cell? ⟨P (A w),2,U⟩=I (K f h g)/\zke w (q w (Ub #[C neg,K a c b,K f h g] 250))):=⟨zj w _ rfl _ _ 1 _ rfl,zj w _ rfl _ _ 2 _ rfl,Ag⟩
 go_enter func187,ntmps187;go_wp2;go_ret;exact⟨_,rfl,AD _,i.1,i.2.1,i.2.2⟩
theorem qz.slice {w:E}{A:Aj}{v:Y}{n:Nat}{xs:An}(h:qz w A v n xs):∃a c b,v=K a c b:=by obtain⟨rfl,_⟩|⟨g,d,rfl,_⟩:=h<;>exact⟨_,_,_,rfl⟩
theorem zg5 (b:Nat)(v1 v2:Y)(R:Ai)(S:Ar)(A:Aj)(w:E)(h:UE w A b v1 v2 R S)(_q:∀k,A k->k<P w.heap)(d:∀a∈S,B4 a)(o:D R<=1000)(p:D S<=1000):Uh V 157 #[.func (.func 220) #[] #[Ua (I ⟨b,0,U⟩)]] w λe j=>∃v,e=.returned v/\yp w j v (λc=>Cs.isCh c && Tw.kt R S c):=by have l:∀i w,(callFunc 220 i).run V w=.ok (.enter 220 i) w:=enters_of func220 om rfl;have r:=zcV S (λa f=>(Hi a (d a f)).2.2);refine(Nk _ _ (R++S.flatMap shL) (λk=>k=b\/(A k/\k<P w.heap)) w l (zcW v1 v2 R S A b w h d o p 8 oa) (λk g=>?_) (by simp only[AO];omega)).mono ?_;obtain rfl|g:=g;exact zic w _ h.c1;exact g.2;rintro e j ⟨v,rfl,m,n⟩;exact⟨v,rfl,⟨m.congr (λc=>zgS (λc=>zay c S (λa f=>(Hi a (d a f)).2.1)) c),n⟩⟩
theorem zbm (neg:Bool)(v1 v2:Y)(R:Ai)(S:Ar)(A:Aj)(w:E)(x:qz w A v1 (D R) (AG R))(y:qz w A v2 (D S) (jO S))(hS:∀a∈S,B4 a)(hR:D R<=1000)(aq:D S<=1000):Uh V 156 #[Uf #[C neg,v1,v2]] w λe w'=>∃v,e=.returned v/\yp w w' v (vg (vV neg R S)):=by
 have ar:=x.slice;have au:=y.slice;obtain⟨pa,pn,pc,rfl⟩:=ar;obtain⟨qa,qn,qc,rfl⟩:=au;have H1:=zd x;have H2:=zd y;clear x y;go_enter func156,ntmps156;go_wp2_with fail;generalize l:dB w (Ub #[C neg,K pa pn pc,K qa qn qc] 250)=j at *;have aa:dg j.heap=dg w.heap+1:=by rw[<-l];simp
 have u:H (zke w j):=by rw[<-l];exact Ag
 have am:H (dx j ⟨dg w.heap,0,U⟩=I (C neg)):=by rw[<-l];exact zj w _ rfl _ _ 0 _ rfl
 clear l;generalize ab:dB j (Ub #[K U 0 0] 152)=T at *;have W:H (zke j T):=by rw[<-ab];exact Ag
 refine(JY neg _ _ T ⟨_,_,_,rfl⟩ ⟨_,_,_,rfl⟩).mono ?_;rintro e q ⟨kb,rfl,X,h,i,L⟩;have F:zke w q:=(u.trans W).trans L;have al:H (UE q (λg=>A g/\g<dg q.heap) kb (K pa pn pc) (K qa qn qc) R S):=⟨h,i,((H1.keep F (λ_ _ f=>f)).mono (λg N z=>⟨z,N⟩)),((H2.keep F (λ_ _ f=>f)).mono (λg N z=>⟨z,N⟩))⟩
 have an:=zd L;clear F L h i;go_wp2_with fail;refine(zg5 kb _ _ R S _ q al (λk X=>X.2) hS hR aq).mono ?_;rintro e P ⟨v,rfl,b⟩;obtain⟨m,o,n,rfl⟩:=b.1.slice;have s:=zd (b.later an);clear b;have r:H (zke P (P.alloc (Ub #[K m o n] 152))):=Ag;have c0:=((W.trans (s.2.trans r)).cell (p:=⟨dg w.heap,0,U⟩) (by show _<_;simp only;omega) id).trans am;have t:H (yp T (P.alloc (Ub #[K m o n] 152)) (Uf #[K m o n]) (λc=>Cs.isCh c && Tw.kt R S c)):=⟨s.1.keep r (λ_ _ f=>f),s.2.trans r⟩
 subst ab;cases neg
 .have b:=t.congr (zgU R S);have⟨h,i⟩:=xp b.2;have d:=zd (xW b);clear b;rw[aa] at h i d;go_wp2_with fail;refine bodyPost_ret (results_cell_row rfl _ _ (dg w.heap+1) 152 #[K m o n] (0,0) _ rfl d.2 underlying152 rfl Tryz.NZ) rfl ?_;exact⟨_,rfl,d.1.later u⟩
 go_wp2_with fail;refine(Je _ _ _ _ t.1).mono ?_;rintro e w4 ⟨v,rfl,B⟩;obtain⟨ta,tn,tc,rfl⟩:=B.1.slice;have b:=(yp.later B t.2).congr (zgT R S);have⟨h,i⟩:=xp b.2;have d:=zd (xW b);clear b B;rw[aa] at h i d;go_wp2_with fail;refine bodyPost_ret (results_cell_row rfl _ _ (dg w.heap+1) 152 #[K ta tn tc] (0,0) _ rfl d.2 underlying152 rfl Tryz.NZ) rfl ?_;exact⟨_,rfl,d.1.later u⟩
def FB (t:Sm.Tree):Prop:=(∀c,t=qU c->B4 c)/\∀neg R S,t=vV neg R S->(∀a∈S,B4 a)/\(D R)<=1000/\(D S)<=1000
theorem zcX (t:Sm.Tree)(A:Aj)(w:E)(h:kQ w A v t)(hn:∀c,t≠Zk c)(y:FB t):Uh V 114 #[v] w λe w'=>∃z,e=.returned z/\yp w w' z (vg t):=by
 have ak:H (zke w (dB w (Ub #[K U 0 0] 152))):=Ag;obtain⟨c,e,_⟩|⟨rfl,rfl⟩|⟨c,rfl,rfl⟩|⟨c,rfl,rfl⟩|⟨neg,R,S,v1,v2,rfl,rfl,o,p⟩:=h;exact absurd e (hn c)
 .have d:=Tryz.Sq;go_enter func114,ntmps114;go_wp2_with fail;clear d;refine(zbl _).mono ?_;rintro e B ⟨v,rfl,l⟩;go_wp2_with fail;refine(Je v _ _ B l.1).mono ?_;rintro e F ⟨v,rfl,x⟩;have a:=((yp.later x l.2).later ((zg.refl (λ_=>False) (dB w (Ub #[K U 0 0] 152))).alloc _)).congr Mn;clear l x;obtain⟨i,k,j,rfl⟩:=a.1.slice;have⟨r,s⟩:=xp a.2;have b:=zd (xW a);clear a;go_wp2_with fail;refine bodyPost_ret (results_cell_row rfl _ _ w.heap.size 152 #[K i k j] (0,0) _ rfl b.2 underlying152 rfl Tryz.NZ) rfl ?_;exact⟨_,rfl,b.1⟩
 .have d:=Tryz.Sn;have m:=Tryz.Sl;go_enter func114,ntmps114;go_wp2_with fail;clear d m;have u:=Zb (K (I ⟨dg w.heap+1,0,U⟩) 1 1) [(c,c)] (λg=>g=dg w.heap+1) _ (Jf (dB w (Ub #[K U 0 0] 152)) (dg w.heap+1) ov [(c,c)] 263) ov;refine Calls.mono u ?_;clear u;rintro e F ⟨v,rfl,a⟩;have a:=(yp.later a ((zg.refl (λ_=>False) (dB w (Ub #[K U 0 0] 152))).alloc _)).congr (I2 c);obtain⟨i,k,j,rfl⟩:=a.1.slice;have⟨r,s⟩:=xp a.2;have b:=zd (xW a);clear a;go_wp2_with fail;refine bodyPost_ret (results_cell_row rfl _ _ w.heap.size 152 #[K i k j] (0,0) _ rfl b.2 underlying152 rfl Tryz.NZ) rfl ?_;exact⟨_,rfl,b.1⟩
 .have d:=Tryz.Sj;have m:=Tryz.Si;have n:=Tryz.Sf;go_enter func114,ntmps114;go_wp2_with fail;clear d m n;refine(Qp c (y.1 c rfl) _).mono ?_;rintro e B ⟨v,rfl,l⟩;have a:=l.congr (Gb c);clear l;obtain⟨i,k,j,rfl⟩:=a.1.slice;have⟨r,s⟩:=xp a.2;have b:=zd (xW a);clear a;go_wp2_with fail;refine bodyPost_ret (results_cell_row rfl _ _ w.heap.size 152 #[K i k j] (0,0) _ rfl b.2 underlying152 rfl Tryz.NZ) rfl ?_;exact⟨_,rfl,b.1⟩
 have d:=Tryz.Sd;have m:=Tryz.Sb;have n:=Tryz.Sa;have P:=Tryz.R9;have⟨T,W,X⟩:=y.2 neg R S rfl;have ab:=o.slice;have ac:=p.slice;obtain⟨pa,pn,pc,rfl⟩:=ab;obtain⟨ua,un,uc,rfl⟩:=ac;have L:=zd o;have N:=zd p;clear o p;go_enter func114,ntmps114;go_wp2_with fail;clear d m n P;have q:zke w ((dB w (Ub #[K U 0 0] 152)).alloc (Ub #[C neg,K pa pn pc,K ua un uc] 250)):=Ag.alloc _;refine(zbm neg _ _ R S A _ (L.keep q (λ_ _ f=>f)) (N.keep q (λ_ _ f=>f)) T W X).mono ?_;clear q;rintro e F ⟨v,rfl,a⟩;have a:=yp.later a ((zg.refl (λ_=>False) (dB w (Ub #[K U 0 0] 152))).alloc _);obtain⟨i,k,j,rfl⟩:=a.1.slice;have⟨r,s⟩:=xp a.2;have b:=zd (xW a);clear a;go_wp2_with fail;refine bodyPost_ret (results_cell_row rfl _ _ w.heap.size 152 #[K i k j] (0,0) _ rfl b.2 underlying152 rfl Tryz.NZ) rfl ?_;exact⟨_,rfl,b.1⟩
end
section
open Go.RowKit
open Sm (Stp Tree)
def yN (a:List (Stp×Y)):An:=a.flatMap λz=>[M J (z.1.kind:Nat),z.2,M J z.1.asr,M J (z.1.next:Nat),M J (z.1.other:Nat)]
theorem VZ (l m:List (Stp×Y)):yN (l++m)=yN l++yN m:=by simp[yN]
theorem zcY (l:List (Stp×Y)):(yN l).length=D l*5:=by
 induction l with
 |nil=>rfl
 |cons x l a=>simp[yN] at a ⊢;omega
theorem Tryz.Pq:(prog.info? 155).map (λi=>(i.zero,i.size,i.bytes))=I (I (Uf #[M J 0,K U 0 0,M J 0,M J 0,M J 0]),5,56):=om
structure jw (w:E)(bb:Nat)(Z:List (Stp×Y)):Prop where
 ex:∃sv,u w ⟨bb,0,U⟩=I sv/\dA w (bb+1) 155 5 sv (D Z) (yN Z)/\∀z∈Z,xo w (λg=>bb<g/\dH sv≠I g) (Uf #[z.2]) (TC.jQ z.1)
 fr:dz w ⟨bb,0,U⟩=false
theorem jw.lt {w:E}{bb:Nat}{a:List (Stp×Y)}(h:jw w bb a):bb<P (A w):=by have⟨sv,b,_⟩:=h.ex;exact zic w _ b
theorem jw.NU {w b:E}{bb:Nat}{a:List (Stp×Y)}(h:jw w bb a)(o:zke w b):jw b bb a:=by have⟨sv,c,d,e⟩:=h.ex;exact⟨⟨sv,(o.cell (p:=⟨bb,0,U⟩) h.lt id).trans c,zk d o (λ_ _ f=>f),λz g=>(e z g).keep o (λ_ _ f=>f)⟩,(o.frozen (p:=⟨bb,0,U⟩) h.lt id).trans h.fr⟩
theorem xo.none (A:Aj)(S:Am)(h:∀c,S c=Z):xo w A (Uf #[K U 0 0]) S:=⟨_,[],rfl,Q ⟨rfl,rfl⟩,⟨List.Pairwise.nil,λx a=>by cases a⟩,λc=>by rw[h c];rfl⟩
theorem ET (h:P (A W)=n)(a b c d e:Y)(T:TypeId):∀j u,[a,b,c,d,e][j]?=I u->(q W (Ub #[a,b,c,d,e] T)).cell? ((⟨n,0,U⟩:Addr).add j)=I u:=by
 intro j u g;have f:(⟨n,0,U⟩:Addr).add j=⟨n,j,U⟩:=by unfold Addr.add;split<;>simp_all
 rw[f];exact zj W n h _ _ _ _ (by simpa using g)
theorem ji {P:Program}{ao:Array Oper}{o:Oper}{a:Act}{w:World}{af:Act->World->Prop}{Q:Exit->Act->World->Prop}{E:Prop}(N:o.guard=U)(s x:Operand)(t:TypeId)(X:o.op=.call { callee:=.builtin .append,args:=#[s,x],argTypes:=#[t,t] })(base:Nat) (e:TypeId) (i:TypeInfo) (z:Y) (size bytes:Nat) (ht:P.underlying t=I (.slice e)) (S:P.info? e=I i) (hz:i.zero=I z)(ab:i.size=size) (ai:i.bytes=bytes) (an:z.cells.size=size) (al:0<size)(v:Y) (n:Nat) (xs:An) (hs:a.eval s=v) (r:dA w base e size v n xs)(ad:Addr) (m c:Nat) (l:An) (hx:a.eval x=K (I ad) m c) (T:D l=m*size) (W:∀j u,l[j]?=I u->dx w (ad.add j)=I u) (B:∀u∈l,u.oneCell'=G)(hm:0<m) (ag:n+m<=maxLen) (aj:(n+m)*bytes<=140737488355328) (ah:base<=dg (A w))(h:∀p d,d.ownsRow base e size p (n+m) (xs++l)->w.grownBy d (dH v)->(∀k,dH p=I k->dH v=I k\/dg (A w)<=k)->af (a.put o.dst p) d):if Region.wanted o (yielded ao a.tmps)=G then Oper.wp P o a w af Q else E:=by
 have ak:∀d row,w.grownBy d U->w.grownBy d row:=λd row g=>⟨g.os,g.tape,g.output,g.size,λk f _=>g.block k f ov⟩
 obtain⟨rfl,rfl⟩|⟨g,y,ay,rfl,az,hg,aE,aA,aB,aG⟩:=r.2;have av:xs=[]:=Cb (by simpa using r.1);subst av;exact step_append_grows N s x t X e i z size bytes ht S hz ab ai an al U 0 0 [] hs (λ_=>⟨rfl,rfl⟩) ov (λb L=>by cases L) ad m c l hx T W B oa ag aj (λp d q F=>h p d (zL q ah) (ak _ _ F) (λk f=>O (q.lt k f).1));by_cases aq:n+m<=y;have hw:Region.wanted o (yielded ao a.tmps)=G:=(by simp[Region.wanted,N]);rw[IN hw];have⟨d,ar,r1,r2⟩:=run_append_fits (P:=P) w base t o.type e i size ht S ab g n y xs r ad m c l T W B aq;unfold Oper.wp;simp[execOp,X,resolve,invoke,builtin,hs,hx,ar,Result.andThen];exact h _ _ r1 r2 (λk f=>.inl f);exact step_append_grows N s x t X e i z size bytes ht S hz ab ai an al (I ⟨g,0,U⟩) n y xs hs (λhh=>by cases hh) r.1 (λb L=>by cases L;exact r.cells (g:=g) rfl) ad m c l hx T W B oa ag aj (λp d q F=>h p d (zL q ah) (ak _ _ F) (λk f=>O (q.lt k f).1))
def wu (w:E)(bb k:Nat):Prop:=k=bb\/∃sv,u w ⟨bb,0,U⟩=I sv/\dH sv=I k
structure qA (w w':E)(bb:Nat)(Z':List (Stp×Y)):Prop where
 at':jw w' bb Z'
 only:zg (λk=>bb<=k) w w'
 own:zg (wu w bb) w w'
 sep:∀k,wu w' bb k->wu w bb k\/P (A w)<=k
theorem zfY (b:List (Stp×Y))(s:Stp)(x:Y)(B:Nat)(w:E)(h:jw w bb b)(hx:xo w (λg=>B<=g) (Uf #[x]) (TC.jQ s))(hB:∀sv,u w ⟨bb,0,U⟩=I sv->∀k,dH sv=I k->k<B)(aN:bb<B)(hl:D b<=1000):Uh V 59 #[Ua (I ⟨bb,0,U⟩),Uf #[M J (s.kind:Nat),x,M J s.asr,M J (s.next:Nat),M J (s.other:Nat)]] w λe w'=>e=.returned (M J (D b:Nat))/\qA w w' bb (b++[(s,x)]):=by
 have⟨i0,hi,aB,aC,aD⟩:=info_parts Tryz.Pq;have⟨sv,i,r,h3⟩:=h.ex;have h0:=h.fr;have t:=h.lt;obtain⟨y,L,F,rfl⟩:=zq r;have⟨l,n,m,ay⟩:=hx.slice;have az:x=K l n m:=by injection ay with e;injection e with e;injection e
 subst az;have af:=zd r;have ai:=r;have HX:=zd hx;have H3:=zd h3;have HB:=zd (hB _ i);go_enter func59,ntmps59;have am:(K y L F).ownBlock≠I bb:=λe=>by have:=(zh ai _ e).1;omega
 have ae:H (zke w (dB w (Ub #[M J (s.kind:Nat),K l n m,M J s.asr,M J (s.next:Nat),M J (s.other:Nat)] 155))):=Ag;have k1:=(ae.cell (p:=⟨bb,0,U⟩) t id).trans i;have k0:=(ae.frozen (p:=⟨bb,0,U⟩) t id).trans h0;go_wp2;go_region_law(refine ji rfl (.tmp 9) (.tmp 11) 145 rfl (bb+1) 155 i0 (Uf #[M J 0,K U 0 0,M J 0,M J 0,M J 0]) 5 56 underlying145 hi aB aC aD rfl od (K y L F) _ (yN b) (by simp[Act.eval]) (zk af ((((zg.refl (λ_=>False) w).alloc _).drew).alloc _) (λ_ _ f=>f)) ⟨dg (A w)+1,0,U⟩ 1 1 [M J (s.kind:Nat),K l n m,M J s.asr,M J (s.next:Nat),M J (s.other:Nat)] (by simp[Act.eval]) rfl (ET _ (dg (A w)+1) ov _ _ _ _ _ _) (λu hu=>by simp at hu;obtain rfl|rfl|rfl|rfl|rfl:=hu<;>rfl) od Ac oa ou ?_;intro v' d aa al an;obtain⟨N,yn,P,rfl⟩:=zq aa;have v:zg (λk=>(K y L F).ownBlock=I k) w d:=((((zg.refl _ w).alloc _).drew).alloc _).grown al (λk c=>Q c);have m1:=(v.cell (p:=⟨bb,0,U⟩) t am).trans i;have m0:=(v.frozen (p:=⟨bb,0,U⟩) t am).trans h0;have S:=zd aa;have o:=zd v;have T:=zd an)
 all_goals
  have aA:yn=D b+1:=by rcases(zb S).2 with⟨q,e2⟩|⟨g',aJ,aK,q,_⟩<;>cases q<;>first|rfl|omega
  subst aA;have HF:H (qA w (d.setCell ⟨bb,0,U⟩ (K N (D b+1) P)) bb (b++[(s,K l n m)])):=by
   have oS:zg (λk=>k=bb) d (d.setCell ⟨bb,0,U⟩ (K N (D b+1) P)):=(zg.refl (λk=>k=bb) d).setCell (p:=⟨bb,0,U⟩) (Q rfl) _;have ax:∀k,(K N (D b+1) P).ownBlock=I k->k≠bb:=λk c e=>(by have:=(zh S k c).1;omega);refine⟨⟨⟨_,AX _ _ _ m1,?_,λz j=>?_⟩,(zl _ _ _ _).trans m0⟩,?_,?_,?_⟩;rw[AO,VZ];exact zk S oS (λk c e=>ax k c e)
   (have key:xo d (λg=>bb<g/\(K N (D b+1) P).ownBlock≠I g) (Uf #[z.2]) (TC.jQ z.1):=by obtain j|j:=A7.1 j;have W:xo w (λg=>(bb<g/\(K y L F).ownBlock≠I g)/\g<dg (A w)) (Uf #[z.2]) (TC.jQ z.1):=(zb H3 z j).mono (λg a X=>⟨X,a⟩);refine(W.keep o (λg a=>a.1.2)).mono (λg _ a=>⟨a.1.1,λe=>?_⟩);obtain h|h:=zb T g e;exact a.1.2 h;have:=a.2;simp at h;omega;obtain rfl:=A5.1 j;have W:xo w (λg=>B<=g/\g<dg (A w)) (Uf #[K l n m]) (TC.jQ s):=HX.mono (λg a X=>⟨X,a⟩);refine(W.keep o (λg a e=>by have:=zb HB g e;omega)).mono (λg _ a=>⟨oa,λe=>?_⟩);obtain h|h:=zb T g e;have:=zb HB g h;omega;have:=a.2;simp at h;omega);exact key.keep oS (λg a e=>oa);have o1:zg (λk=>bb<=k) w d:=o.mono (λk _ c=>by have:=(zh af k c).1;omega);exact o1.setCell (p:=⟨bb,0,U⟩) (Q (AD _)) _;have o1:zg (wu w bb) w d:=o.mono (λk _ c=>O ⟨_,i,c⟩);exact o1.setCell (p:=⟨bb,0,U⟩) (Q (Q rfl)) _;rintro k (rfl|⟨sv,q,e2⟩);exact Q (Q rfl);cases(AX _ _ _ m1).symm.trans q;obtain h|h:=zb T k e2;exact Q (O ⟨_,i,h⟩);exact O (by simp at h;omega)
  go_wp2;go_ret;exact⟨ov,HF⟩
open Sm (Stp Tree AH yL Zh xh vH xX)
structure YO (f:Nat)(w:E)(bb:Nat)(v:Y)(t:Tree):Prop where
 at':zC f w (λg=>g<bb) v t
 sh:kZ f t
 ln:vd f t
theorem YO.keep {f:Nat}{w a:E}{bb:Nat}{v:Y}{t:Tree}(h:YO f w bb v t)(o:zg (λk=>bb<=k) w a):YO f a bb v t:=⟨zC.keep o (λg b c=>oa) f v t h.at',h.sh,h.ln⟩
def AJ (a:List (Stp×Y)):Aq:=a.map Prod.fst
theorem yd (a:List (Stp×Y)):(AJ a).length=D a:=by simp[AJ]
def YE (w:E)(bb:Nat)(r:Nat×Aq)(e:Ending)(b:E):Prop:=∃a,e=.returned (M J (r.1:Nat))/\AJ a=r.2/\qA w b bb a
def BOK (f bb:Nat):Prop:=∀(v:Y) (t:Tree) (h:Nat) (a:List (Stp×Y)) (w:E),YO f w bb v t->jw w bb a->h<D a->(AH f t h (AJ a)).2.length<=1000->
 Uh V 60 #[Ua (I ⟨bb,0,U⟩),v,M J (h:Nat)] w (YE w bb (AH f t h (AJ a)))
theorem qA.refl {w:E}{bb:Nat}{a:List (Stp×Y)}(h:jw w bb a):qA w w bb a:=⟨h,zg.refl _ _,zg.refl _ _,λ_ h=>Q h⟩
theorem qA.trans {a b c:E}{bb:Nat}{Y f:List (Stp×Value)}(h:qA a b bb Y)(k:qA b c bb f):qA a c bb f:=
 ⟨k.at',h.only.trans k.only,⟨k.own.os.trans h.own.os,k.own.tape.trans h.own.tape,k.own.output.trans h.own.output,AP h.own.size k.own.size,λj d g=>(k.own.block j (AM d h.own.size) (λi=>by
  obtain h|h:=h.sep j i;exact g h
  .omega)).trans (h.own.block j d g)⟩,λj d=>by
  obtain e|e:=k.sep j d;exact h.sep j e;exact O (AP h.own.size e)⟩
theorem qA.NU {a b:E}{bb:Nat}{d:List (Stp×Y)}(h:jw a bb d)(o:zke a b):qA a b bb d:=
 ⟨h.NU o,o.mono (λ_ _ f=>f.elim),o.mono (λ_ _ f=>f.elim),λk g=>by
  obtain c|⟨sv,c,e⟩:=g;exact Q (Q c);exact Q (O ⟨sv,(o.cell (p:=⟨bb,0,U⟩) h.lt id).symm.trans c,e⟩)⟩
theorem qA.cell {a b:E}{bb:Nat}{c:List (Stp×Y)}(h:qA a b bb c){p:Addr}(e:p.block<P (A a))(d:¬wu a bb p.block):u b p=u a p:=h.own.cell e d
theorem wu.lt {w:E}{bb k:Nat}{a:List (Stp×Y)}(h:jw w bb a)(f:wu w bb k):k<P (A w):=by obtain rfl|⟨sv,b,c⟩:=f;exact h.lt;have⟨g,d,e,_⟩:=h.ex;cases b.symm.trans d;exact(zh e k c).2
theorem zaz (B:BOK f bb)(v:Y)(t:Tree)(a h:Nat)(d:List (Stp×Y))(w:E)(P:YO f w bb v t)(hv:∃T y,v=Ud T y)(L:jw w bb d)(hn:h<D d)(hc:a<=100)(m:(yL (AH f) t a h (AJ d)).2.length<=1000):Uh V 152 #[Ua (I ⟨bb,0,U⟩),v,M J (a:Nat),M J (h:Nat)] w (YE w bb (yL (AH f) t a h (AJ d))):=by
 obtain⟨T,y,rfl⟩:=hv;have X:=zd B;have S:=zd P;have W:=zd L;go_enter func152,ntmps152;go_wp2;go_loopw[9,13] (λvb z wr=>∃(b j:Nat) (c:List (Stp×Y)),vb=M J (b:Nat)/\z=M J (j:Nat)/\j<=a/\b<D c/\H (qA w wr bb c)/\H (yL (AH f) t a h (AJ d)=yL (AH f) t (a-j) b (AJ c))) (λ_ z _=>a-(intOf z).toNat);exact⟨h,0,d,rfl,rfl,oa,hn,qA.refl W,rfl⟩;obtain⟨b,j,c,rfl,rfl,hj,N,i,o⟩:=hrel;by_cases ai:j<a
 .obtain⟨k,u⟩:∃k,a-j=k+1:=⟨a-j-1,oa⟩
  (have aa:(AH f t b (AJ c)).2.length<=1000:=by rw[zb o,u] at m;simp only[yL] at m;split at m;exact m;exact AP (ku (xm f) k _ _) m);have ac:=jE f t b (AJ c) (by rw[yd];exact N);have F:=zd (zb X (Ud T y) t b c wr (S.keep i.only) i.at' N aa);by_cases x:(AH f t b (AJ c)).1=b
  .have g:H (yL (AH f) t a h (AJ d)=AH f t b (AJ c)):=(by rw[zb o,u];simp only[yL];rw[IN x];rfl);go_wp2_with(go_at_call 60;refine F.mono ?_;rintro e w1 ⟨s,rfl,n,l⟩;have q:=zd (i.trans l);have p:=zd n);go_ret;exact⟨s,by rw[zb g,x];rfl,by rw[zb p,zb g],q⟩
  have g:H (yL (AH f) t a h (AJ d)=yL (AH f) t k (AH f t b (AJ c)).1 (AH f t b (AJ c)).2):=(by rw[zb o,u];simp only[yL];rw[iN x];rfl);generalize hr:AH f t b (AJ c)=r at *;have aj:((r.1:Int) == (b:Int))=Z:=ou;go_wp2_with(go_at_call 60;refine F.mono ?_;rintro e w1 ⟨s,rfl,n,l⟩;have q:=zd (i.trans l);have p:=zd n);exact⟨⟨r.1,j+1,s,rfl,Ae,oa,(by rw[<-yd,zb p];exact ac),q,(by rw[zb g,zb p,show a-(j+1)=k by omega];rfl)⟩,Ad⟩
 have g:H (yL (AH f) t a h (AJ d)=(b,AJ c)):=(by rw[zb o,show a-j=0 by omega];rfl);go_wp2;go_ret;exact⟨c,by rw[zb g];rfl,by rw[zb g],i⟩
theorem zg6 {α:Type}(l:List α)(i:Nat)(a:i<D l):l.take (i+1)=l.take i++[l[i]]:=(Z1 l i a).symm
theorem zbn (z:BOK f bb)(sv:Y)(xs:An)(c:Au)(h:Nat)(i:List (Stp×Y))(w:E)(o:Zu w (λg=>g<bb) sv xs)(aI:D xs<=1000)(aA:D c=D xs)(hp:∀(j:Nat) x t,xs[j]?=I x->c[j]?=I t->YO f w bb x t)(aa:∀x∈xs,∃T y,x=Ud T y)(S:jw w bb i)(hn:h<D i)(hl:(Zh (AH f) c.reverse h (AJ i)).2.length<=1000):Uh V 112 #[Ua (I ⟨bb,0,U⟩),sv,M J (h:Nat)] w (YE w bb (Zh (AH f) c.reverse h (AJ i))):=by
 have hB:=zd z;have HP:=zd hp;have HZ:=zd S;have HI:=zd aa;obtain⟨s,u,rfl,HC⟩:∃s u,sv=K s (D xs) u/\H (D xs≠0->∃g,s=I ⟨g,0,U⟩/\(D xs)<=u/\g<bb/\g<dg (A w)/\∀j x,xs[j]?=I x->dx w ⟨g,j,U⟩=I x):=by obtain⟨rfl,rfl⟩|⟨g,aC,rfl,h1,h2,h3,h4⟩:=o;exact⟨U,0,rfl,λa=>absurd rfl a⟩;exact⟨_,_,rfl,λ_=>⟨g,rfl,h2,h1,h3,h4⟩⟩
 go_enter func112,ntmps112;go_wp2;go_loopw[7,8] (λvb v wr=>∃(b m:Nat) (d:List (Stp×Y)),vb=M J (b:Nat)/\v=M J ((m:Int)-1)/\m<=D xs/\b<D d/\H (qA w wr bb d)/\H (Zh (AH f) c.reverse h (AJ i)=Zh (AH f) (c.take m).reverse b (AJ d))) (λ_ v _=>(intOf v+1).toNat);exact⟨h,D xs,i,rfl,rfl,AD _,hn,qA.refl HZ,(by rw[<-aA,FR];rfl)⟩;obtain⟨b,m,d,rfl,rfl,hm,W,l,F⟩:=hrel;by_cases aE:0<m
 .obtain⟨k,rfl⟩:∃k,m=k+1:=⟨m-1,oa⟩
  ((obtain⟨g,rfl,aH,aD,ax,X⟩:=zb HC oa;have q:xs[k]?=I xs[k]:=AE oa;have ht:c[k]?=I (c[k]' oa):=AE oa;have c1:=(l.only.cell (p:=⟨g,k,U⟩) ax (by show ¬bb<=g;omega)).trans (X _ _ q);have n:=(zb HP k _ _ q ht).keep l.only;have⟨T,y,af⟩:=zb HI xs[k] (BO _);have L:H (Zh (AH f) c.reverse h (AJ i)=Zh (AH f) (c.take k).reverse (AH f (c[k]' oa) b (AJ d)).1 (AH f (c[k]' oa) b (AJ d)).2):=by rw[zb F,zg6 c k oa,List.reverse_append];rfl);have aw:(AH f (c[k]' oa) b (AJ d)).2.length<=1000:=by rw[zb L] at hl;exact AP (JR (xm f) _ _ _) hl);have az:=jE f (c[k]' oa) b (AJ d) (by rw[yd];exact W);rw[af] at c1 n;have ah:=zd (zb hB (Ud T y) _ b d wr n l.at' W aw);have e1:((k+1:Nat):Int)-1=(k:Nat):=oa;have e2:(0:Int)<=((k+1:Nat):Int)-1:=oa;simp only[e1] at *;generalize o:AH f (c[k]' oa) b (AJ d)=r at *;go_wp2_with(go_at_call 60;refine ah.mono ?_;rintro e w1 ⟨Y2,rfl,ad,P⟩;have ak:=zd (l.trans P);have N:=zd ad);exact⟨⟨r.1,k,Y2,rfl,Ae,oa,(by rw[<-yd,zb N];exact az),ak,(by rw[zb L,zb N];rfl)⟩,by simp[intOf]⟩
 obtain rfl:m=0:=oa;have B:H (Zh (AH f) c.reverse h (AJ i)=(b,AJ d)):=(by rw[zb F];rfl);have e2:¬(0:Int)<=((0:Nat):Int)-1:=oa;go_wp2;go_ret;exact⟨d,by rw[zb B];rfl,by rw[zb B],l⟩
theorem zg7 (s:Stp)(h:s.kind≠1)(c:Int):TC.jQ s c=Z:=by simp[TC.jQ,h]
theorem jw.Pj {w:E}{bb:Nat}{a:List (Stp×Y)}(h:jw w bb a):∀sv,u w ⟨bb,0,U⟩=I sv->∀k,dH sv=I k->k<P (A w):=λsv b k e=>by have⟨f,c,d,_⟩:=h.ex;cases b.symm.trans c;exact(zh d k e).2
theorem Z4 (a:List (Stp×Y))(s:Stp)(w:E)(h:jw w bb a)(f:s.kind≠1)(d:D a<=1000):Uh V 59 #[Ua (I ⟨bb,0,U⟩),Uf #[M J (s.kind:Nat),K U 0 0,M J s.asr,M J (s.next:Nat),M J (s.other:Nat)]] w (YE w bb (D a,AJ a++[s])):=
 (zfY bb a s (K U 0 0) (P (A w)) w h (xo.none _ _ _ (zg7 s f)) h.Pj h.lt d).mono (λe g ⟨b,c⟩=>⟨_,b,by simp[AJ],c⟩)
theorem zeK (F:BOK f bb)(sv:Y)(xs:An)(d:Tree)(a:Au)(h:Nat)(i:List (Stp×Y))(w:E)(hr:Zu w (λg=>g<bb) sv xs)(a6:D xs<=1000)(aT:(d :: a).length=D xs)(W:∀(j:Nat) x t,xs[j]?=I x->(d :: a)[j]?=I t->YO f w bb x t)(P:∀x∈xs,∃T y,x=Ud T y)(N:jw w bb i)(hn:h<D i)(hl:(xh (AH f) h a (AH f d h (AJ i)).1 (AH f d h (AJ i)).2).2.length<=1000):Uh V 111 #[Ua (I ⟨bb,0,U⟩),sv,M J (h:Nat)] w (YE w bb (xh (AH f) h a (AH f d h (AJ i)).1 (AH f d h (AJ i)).2)):=by
 have hB:=zd F;have HP:=zd W;have HZ:=zd N;have HI:=zd P;have S:D xs=D a+1:=by rw[<-aT];rfl
 obtain⟨g,q,rfl,aR,aZ,aO,HC⟩:∃g q,sv=K (I ⟨g,0,U⟩) (D xs) q/\(D xs)<=q/\g<bb/\g<dg (A w)/\H (∀j x,xs[j]?=I x->dx w ⟨g,j,U⟩=I x):=by obtain⟨rfl,rfl⟩|⟨g,aE,rfl,h1,h2,h3,h4⟩:=hr;simp at S;exact⟨g,aE,rfl,h2,h1,h3,h4⟩
 have ab:xs[0]?=I (xs[0]' oa):=AE oa;have c0:=zb HC 0 _ ab;have X:=W 0 _ d ab rfl;have⟨T0,y0,B⟩:=P _ (BO (show 0<D xs by omega));rw[B] at c0 X;have aN:(AH f d h (AJ i)).2.length<=1000:=AP (wF (xm f) a _ _) hl;have af:=zd (F (Ud T0 y0) d h i w X N hn aN);have a5:=jE f d h (AJ i) (by rw[yd];exact hn);have aQ:=xm f d h (AJ i);rw[yd] at aQ;clear F W N hr P ab X B;generalize a4:AH f d h (AJ i)=k at *;have a1:D xs<=D a+1:=oa;have a2:D a+1<=D xs:=oa;rw[S] at aR ⊢;clear S;by_cases aS:q=1
 .subst aS;obtain rfl:a=[]:=Cb oa;go_enter func111,ntmps111;go_wp2_with(go_at_call 60;refine af.mono ?_;rintro e w1 ⟨v,rfl,o,n⟩;have u:=zd n;have m:=zd o;clear n o);go_loopw[7,19] (λvb s wr=>vb=M J (k.1:Nat)/\s=M J 0/\H (qA w wr bb v)) (λ_ _ _=>0)
  exact⟨rfl,rfl,u⟩;obtain⟨rfl,rfl,l⟩:=hrel;go_wp2;go_ret;exact⟨v,rfl,m,l⟩
 have a3:1<q:=by omega
 go_enter func111,ntmps111;go_wp2_with(go_at_call 60;refine af.mono ?_;rintro e w1 ⟨v,rfl,o,n⟩;have u:=zd n;have m:=zd o;clear n o);go_loopw[7,19] (λvb s wr=>∃(b j:Nat) (c:List (Stp×Y)),vb=M J (b:Nat)/\s=M J (j:Nat)/\j<=D a/\h<D c/\H (qA w wr bb c)/\H (xh (AH f) h a k.1 k.2=xh (AH f) h (a.drop j) b (AJ c))) (λ_ s _=>D a-(intOf s).toNat)
 exact⟨k.1,0,v,rfl,rfl,oa,(by rw[<-yd,zb m];omega),u,(by rw[zb m];rfl)⟩;clear u m;obtain⟨b,j,c,rfl,rfl,hj,aP,l,HF⟩:=hrel;by_cases aq:j<D a
 .obtain⟨x,z⟩:∃x,xs[j+1]?=I x:=⟨_,AE (show j+1<D xs by omega)⟩
  ((have ht:(d :: a)[j+1]?=I a[j]:=(by simp[aq]);have c1:=(l.only.cell (p:=⟨g,j+1,U⟩) aO (by show ¬bb<=g;omega)).trans (zb HC _ _ z);rw[Nat.add_comm j 1] at c1;have au:=(zb HP (j+1) _ _ z ht).keep l.only;have⟨T,y,B⟩:=zb HI x (Bg z);subst B;have ai:H (xh (AH f) h a k.1 k.2=xh (AH f) h (a.drop (j+1)) (AH f a[j] h (AJ c)).2.length ((AH f a[j] h (AJ c)).2++[zy b (AH f a[j] h (AJ c)).1])):=by rw[zb HF,MG aq];rfl);have aY:(AH f a[j] h (AJ c)).2.length+1<=1000:=by rw[zb ai] at hl;have:=wF (xm f) (h:=h) (a.drop (j+1)) (AH f a[j] h (AJ c)).2.length ((AH f a[j] h (AJ c)).2++[zy b (AH f a[j] h (AJ c)).1]);simp only[AO,Ce] at this;omega);have aL:=xm f a[j] h (AJ c);rw[yd] at aL;have ay:=zd (zb hB (Ud T y) _ h c wr au l.at' aP oa);clear z ht au;generalize hr:AH f a[j] h (AJ c)=r at *;go_wp2_with(go_at_call 60;refine ay.mono ?_;rintro e w1 ⟨L,rfl,av,an⟩;have al:=zd (l.trans an);have aj:=zd av;clear an av);have aW:D L=D r.2:=(by rw[<-yd,zb aj]);refine(Z4 bb L (zy b r.1) w1 al.at' (by simp[zy]) oa).mono ?_;rintro e w3 ⟨Y3,rfl,aw,ao⟩;have aB:=zd (al.trans ao);have ak:=zd aw;clear ao aw;go_wp2_with fail;have aX:D Y3=D L+1:=(by rw[<-yd,zb ak];simp[yd]);exact⟨⟨D r.2,j+1,Y3,rfl,Ae,oa,oa,aB,(by rw[zb ai,zb ak,zb aj];rfl)⟩,Ad⟩
 have HE:H (xh (AH f) h a k.1 k.2=(b,AJ c)):=(by rw[zb HF,List.drop_eq_nil_of_le oa];rfl);go_wp2;go_ret;exact⟨c,by rw[zb HE];rfl,by rw[zb HE],l⟩
theorem V4:∀(a:List (Stp×Y)) (k:Nat) (s:Stp) (x:Y),a[k]?=I (s,x)->(yN a)[k*5+3]?=I (M J (s.next:Nat))
 | [],k,s,x,h=>by simp at h
 |z :: a,0,s,x,h=>by simp at h;subst h;simp[yN]
 |z :: a,k+1,s,x,h=>by
  have:=V4 a k s x (by simpa using h);rw[show(k+1)*5+3=(k*5+3)+5 by omega];simpa [yN] using this
theorem Kv:∀(a:List (Stp×Y)) (k:Nat) (s:Stp) (x:Y) (q:Nat),a[k]?=I (s,x)->(yN a).set (k*5+3) (M J (q:Nat))=yN (a.set k ({ s with next:=q },x))
 | [],k,s,x,q,h=>by simp at h
 |z :: a,0,s,x,q,h=>by simp at h;subst h;simp[yN]
 |z :: a,k+1,s,x,q,h=>by
  have:=Kv a k s x q (by simpa using h);rw[show(k+1)*5+3=(k*5+3)+5 by omega];simp[yN] at this ⊢;exact this
theorem jw.PR {w:E}{bb:Nat}{a:List (Stp×Y)}(h:jw w bb a)(k:Nat)(s:Stp)(x:Y)(c:a[k]?=I (s,x))(q:Nat):∃g cap,dx w ⟨bb,0,U⟩=I (K (I ⟨g,0,U⟩) (D a) cap)/\(D a)<=cap/\dx w ⟨g,k*5+3,U⟩=I (M J (s.next:Nat))/\dz w ⟨g,k*5+3,U⟩=Z/\qA w (dC w ⟨g,k*5+3,U⟩ (M J (q:Nat))) bb (a.set k ({ s with next:=q },x)):=by
 have⟨sv,f,l,n⟩:=h.ex;have T:k<D a:=(AK.1 c).1;obtain⟨rfl,e⟩|⟨g,cap,L,rfl,N,y,F,P,S,W⟩:=l.2;omega;have r:=@World.ownsRow.cells w (bb+1) 155 5 _ (D a) (yN a) l g rfl _ _ (V4 a k s x c);have t:∀q,(⟨g,0,U⟩:Addr).add q=⟨g,q,U⟩:=λq=>by unfold Addr.add;split<;>simp_all
 rw[t] at r;have o:zg (λj=>j=g) w (dC w ⟨g,k*5+3,U⟩ (M J (q:Nat))):=(zg.refl (λj=>j=g) w).setCell (p:=⟨g,k*5+3,U⟩) (Q rfl) _;refine⟨g,cap,f,F,r,by simp[dz,y],⟨⟨⟨_,(o.cell (p:=⟨bb,0,U⟩) h.lt (by show ¬bb=g;omega)).trans f,?_,λz m=>?_⟩,(o.frozen (p:=⟨bb,0,U⟩) h.lt (by show ¬bb=g;omega)).trans h.fr⟩,o.mono (λj _ b=>oa),o.mono (λj _ b=>by subst b;exact O ⟨_,f,rfl⟩),λj b=>?_⟩⟩;have:=vN (i:=k*5+3) l (M J (q:Nat));rw[Kv a k s x q c] at this;rw[Ct];exact this
 (have key:xo w (λd=>bb<d/\(K (I ⟨g,0,U⟩) (D a) cap).ownBlock≠I d) (Uf #[z.2]) (TC.jQ z.1):=by obtain m|rfl:=M3 m;exact n z m;exact n (s,x) (Bg c));exact key.keep o (λd B e=>B.2 (by rw[e];rfl));obtain rfl|⟨sv,u,v⟩:=b;exact Q (Q rfl);exact Q (O ⟨sv,(o.cell (p:=⟨bb,0,U⟩) h.lt (by show ¬bb=g;omega)).symm.trans u,v⟩)
theorem Ef (HB:BOK f bb)(T:TypeId)(y:Y)(l m:Int)(t:Tree)(h:Nat)(b:List (Stp×Y))(w:E)(hp:YO f w bb (Ud T y) t)(h0:0<=l)(X:l<=100)(hZ:jw w bb b)(_hn:h<D b)(r:Nat×Aq)(hr:(if l=0 then(D b,(xX (AH f) t h (AJ b)).2) else yL (AH f) t (l-1).toNat (xX (AH f) t h (AJ b)).1 (xX (AH f) t h (AJ b)).2)=r)(n:D r.2<=1000):Uh V 151 #[Ua (I ⟨bb,0,U⟩),Uf #[Ud T y,M J l,M J m],M J (h:Nat)] w (YE w bb r):=by
 have aa:(xX (AH f) t h (AJ b)).2.length<=1000:=by rw[<-hr] at n;split at n;exact n;exact AP (ku (xm f) _ _ _) n
 have ad:=zfE f t (AJ b).length (AJ b++[zy 0 h]) (AJ b).length ov;have au:=xm f t (AJ b).length (AJ b++[zy 0 h]);have ay:=jE f t (AJ b).length (AJ b++[zy 0 h]) ov;simp only[xX,Ct] at aa;have F:=hr;simp only[xX] at F;clear hr;rw[yd] at ad au ay aa F;generalize hq:AH f t (D b) (AJ b++[zy 0 h])=q at *;have hB:=zd HB;have HP:=zd hp;have W:=zd hZ;have P:=zd F;have HQ:=zd hq;clear HB hp hZ F hq;have ai:H (zke w (dB w (Ub #[Ud T y,M J l,M J m] 254))):=Ag;have b0:(dB w (Ub #[Ud T y,M J l,M J m] 254)).cell? ⟨dg (A w),0,U⟩=I (Ud T y):=zj w _ rfl _ _ 0 _ rfl;have b1:(dB w (Ub #[Ud T y,M J l,M J m] 254)).cell? ⟨dg (A w),1,U⟩=I (M J l):=zj w _ rfl _ _ 1 _ rfl;go_enter func151,ntmps151;have aL:=W.lt;have v:=zd (qA.NU W ai);have aA:=zd (HP.keep v.only);have ac:¬wu (dB w (Ub #[Ud T y,M J l,M J m] 254)) bb (dg (A w)):=λa=>by rcases(zb v).own.size,a with⟨_,X|⟨sv,X,h2⟩⟩;omega;have:=wu.lt W (k:=dg (A w)) (O ⟨sv,(ai.cell (p:=⟨bb,0,U⟩) aL id).symm.trans X,h2⟩);omega
 have a2:(dB w (Ub #[Ud T y,M J l,M J m] 254)).heap.size=dg (A w)+1:=ov;go_wp2_with fail;generalize dB w (Ub #[Ud T y,M J l,M J m] 254)=wA at *;refine(Z4 bb b (zy 0 h) wA v.at' (by simp[zy]) (by simp only[AO,Ce,yd] at au;omega)).mono ?_;rintro e w1 ⟨Y1,rfl,L,d⟩;have c0:=(d.cell (p:=⟨dg (A w),0,U⟩) (by show _<_;simp only;omega) ac).trans b0;have c1:=(d.cell (p:=⟨dg (A w),1,U⟩) (by show _<_;simp only;omega) ac).trans b1;have ab:¬wu w1 bb (dg (A w)):=λa=>by obtain a|a:=d.sep _ a;exact ac a;omega
 have a3:=d.own.size;have aC:=zd d;have aZ:D Y1=D b+1:=by rw[<-yd,L];simp[yd]
 have o:=zb hB (Ud T y) t (D b) Y1 w1 (aA.keep d.only) d.at' oa (by rw[L,zb HQ];exact aa);rw[L,zb HQ] at o;have o:=zd o;clear d b0 b1 L;go_wp2_with fail;refine o.mono ?_;rintro e w2 ⟨c,rfl,N,i⟩;have d0:=(i.cell (p:=⟨dg (A w),0,U⟩) (by show _<_;simp only;omega) ab).trans c0;have d1:=(i.cell (p:=⟨dg (A w),1,U⟩) (by show _<_;simp only;omega) ab).trans c1;have aO:¬wu w2 bb (dg (A w)):=λa=>by obtain a|a:=i.sep _ a;exact ab a;omega
 have a4:=i.own.size;obtain⟨x,hx⟩:∃x,c[D b]?=I (zy 0 h,x):=by
  rw[B9 (by rw[yd];exact AD _),yd,CU] at ad;have j:(AJ c)[D b]?=I (zy 0 h):=by rw[N,ad];rfl
  simp only[AJ,Bo] at j;cases hY:c[D b]? with
  |none=>rw[hY] at j;cases j
  |some p=>
   rw[hY] at j;simp at j;exact⟨p.2,by rw[<-j]⟩
 have⟨g,aT,k1,k2,k3,k4,aK⟩:=i.at'.PR (D b) _ x hx q.1;have u:=zd ((v.trans aC).trans (i.trans aK));have a0:D b<D c:=(AK.1 hx).1;have S:H (AJ (c.set (D b) ({ zy 0 h with next:=q.1 },x))=q.2.set (D b) (zy q.1 h)):=by show AJ _=_;rw[<-N];simp only[AJ,List.map_set];rfl
 have aX:D c<=1000:=by rw[<-yd,N];omega
 clear hx;have aY:g≠dg (A w):=λe=>aO (O ⟨_,k1,by rw[e];rfl⟩);have e0:(w2.setCell ⟨g,D b*5+3,U⟩ (M J (q.1:Nat))).cell? ⟨dg (A w),0,U⟩=I (Ud T y):=(AN _ _ _ _ ov).trans d0;have e1:(w2.setCell ⟨g,D b*5+3,U⟩ (M J (q.1:Nat))).cell? ⟨dg (A w),1,U⟩=I (M J l):=(AN _ _ _ _ ov).trans d1;by_cases B:l=0
 .have al:H ((D b,q.2.set (D b) (zy q.1 h))=r):=by have:=zb P;rw[IN B] at this;exact this
  clear P;subst B;go_wp2_with fail;go_ret;exact⟨_,by rw[<-zb al];rfl,by rw[zb S,<-zb al],u⟩
 have z:=zb P;rw[iN B] at z;have a1:(l == 0)=Z:=by simpa using B
 have aN:(c.set (D b) ({ zy 0 h with next:=q.1 },x)).length=D c:=Ct;have aP:D c=D q.2:=by rw[<-yd,N]
 have s:=zaz f bb hB (Ud T y) t (l-1).toNat q.1 _ _ (HP.keep u.only) ⟨_,_,rfl⟩ u.at' (by rw[aN,aP];exact ay) oa (by rw[zb S,z];exact n);rw[zb S,z,show(((l-1).toNat:Nat):Int)=l-1 by omega] at s;have s:=zd s;clear z;go_wp2_with(go_at_call 152;refine s.mono ?_;rintro e w4 ⟨Y4,rfl,ax,aq⟩;have aD:=zd (u.trans aq);have aB:=zd ax;clear aq ax);go_ret;exact⟨Y4,rfl,aB,aD⟩
theorem GN (t:Tree)(l m:Int)(h:Nat)(S:Aq):AH (f+1) (vW t l m) h S=if m = -1 then(if l=0 then(D S,(xX (AH f) t h S).2) else yL (AH f) t (l-1).toNat (xX (AH f) t h S).1 (xX (AH f) t h S).2) else yL (AH f) t l.toNat (vH (AH f) t h (m-l).toNat h S).1 (vH (AH f) t h (m-l).toNat h S).2:=by unfold AH;rw[iN (by simp[vW]),iN (by simp[vW]),iN (by simp[vW]),IN (by rfl)];rfl
theorem zeL (HB:BOK f bb)(T:TypeId)(y:Y)(l m:Int)(t:Tree)(h:Nat)(g:List (Stp×Y))(w:E)(hp:YO f w bb (Ud T y) t)(h0:0<=l)(B:l<=100)(h2:-1<=m)(h3:m<=100)(h4:m = -1\/l<=m)(hZ:jw w bb g)(N:h<D g)(r:Nat×Aq)(i:AH (f+1) (vW t l m) h (AJ g)=r)(L:D r.2<=1000):Uh V 113 #[Ua (I ⟨bb,0,U⟩),Uf #[Ud T y,M J l,M J m],M J (h:Nat)] w (YE w bb r):=by
 have hB:=zd HB;have HP:=zd hp;have HZ:=zd hZ;clear HB hp hZ;have ak:H (zke w (dB w (Ub #[Ud T y,M J l,M J m] 254))):=Ag;have b0:(dB w (Ub #[Ud T y,M J l,M J m] 254)).cell? ⟨dg (A w),0,U⟩=I (Ud T y):=zj w _ rfl _ _ 0 _ rfl;have b1:(dB w (Ub #[Ud T y,M J l,M J m] 254)).cell? ⟨dg (A w),1,U⟩=I (M J l):=zj w _ rfl _ _ 1 _ rfl;have b2:(dB w (Ub #[Ud T y,M J l,M J m] 254)).cell? ⟨dg (A w),2,U⟩=I (M J m):=zj w _ rfl _ _ 2 _ rfl;have aT:=HZ.lt;have s:=zd (qA.NU HZ ak);have S:=zd (HP.keep s.only);have aV:¬wu (dB w (Ub #[Ud T y,M J l,M J m] 254)) bb (dg (A w)):=λa=>by obtain B|⟨sv,B,h2⟩:=a;omega;have:=wu.lt HZ (k:=dg (A w)) (O ⟨sv,(ak.cell (p:=⟨bb,0,U⟩) aT id).symm.trans B,h2⟩);omega
 have be:(dB w (Ub #[Ud T y,M J l,M J m] 254)).heap.size=dg (A w)+1:=ov;rw[GN] at i;by_cases hm:m = -1
 .subst hm;rw[IN rfl,yd] at i;have aG:=zd (Ef f bb hB T y l (-1) t h g _ S h0 B s.at' N r i L);go_enter func113,ntmps113;go_wp2_with(go_at_call 151;refine aG.mono ?_;rintro e w4 ⟨Y4,rfl,x,v⟩;have X:=zd (s.trans v);have W:=zd x;clear v x);go_ret;exact⟨Y4,rfl,W,X⟩
 rw[iN hm] at i;have a9:(m == -1)=Z:=by simpa using hm
 go_enter func113,ntmps113;go_wp2;generalize dB w (Ub #[Ud T y,M J l,M J m] 254)=wA at *;obtain⟨c,hK⟩:∃c:Nat,(c:Int)=m-l:=⟨(m-l).toNat,oa⟩
 have av:(m-l).toNat=c:=oa;rw[av] at i;have aS:(vH (AH f) t h c h (AJ g)).2.length<=1000:=by rw[<-i] at L;exact AP (ku (xm f) _ _ _) L
 have bf:=Zx (xm f) (jE f) (t:=t) (h:=h) c h (AJ g) (by rw[yd];exact N);rw[<-hK];have HR:=zd i;have a3:c<=201:=oa;clear i av hK;go_loopw[7,21] (λvb vj wr=>∃(b j:Nat) (d:List (Stp×Y)),vb=M J (b:Nat)/\vj=M J (j:Nat)/\j<=c/\b<D d/\h<D d/\H (qA wA wr bb d)/\dx wr ⟨dg (A w),0,U⟩=I (Ud T y)/\dx wr ⟨dg (A w),1,U⟩=I (M J l)/\H (¬wu wr bb (dg (A w)))/\H (vH (AH f) t h c h (AJ g)=vH (AH f) t h (c-j) b (AJ d))) (λ_ vj _=>c-(intOf vj).toNat);exact⟨h,0,g,rfl,rfl,oa,N,N,qA.refl s.at',b0,b1,aV,rfl⟩;obtain⟨b,j,d,rfl,rfl,hj,ay,ba,n,c0,c1,Hn,HF⟩:=hrel;have bh:=n.own.size;by_cases a8:j<c
 .obtain⟨k,hk⟩:∃k,c-j=k+1:=⟨c-j-1,oa⟩
  (((have aj:H (vH (AH f) t h c h (AJ g)=vH (AH f) t h k (AH f t b (AJ d)).2.length ((AH f t b (AJ d)).2++[zy (AH f t b (AJ d)).1 h])):=(by rw[zb HF,hk];rfl);have a6:(AH f t b (AJ d)).2.length+1<=1000:=by rw[zb aj] at aS;have:=XY (xm f) (t:=t) (h:=h) k (AH f t b (AJ d)).2.length ((AH f t b (AJ d)).2++[zy (AH f t b (AJ d)).1 h]);simp only[AO,Ce] at this;omega);have aR:=xm f t b (AJ d);rw[yd] at aR;have aE:=zd (zb hB (Ud T y) _ b d wr (S.keep n.only) n.at' ay oa);generalize hq:AH f t b (AJ d)=q at *;go_wp2_with(go_at_call 60;refine aE.mono ?_;rintro e w1 ⟨Y2,rfl,aB,aw⟩;have o:=zd aw;have al:=zd aB;clear aw aB);have a4:D Y2=D q.2:=(by rw[<-yd,zb al]);have d0:=(o.cell (p:=⟨dg (A w),0,U⟩) (by show _<_;simp only;omega) Hn).trans c0;have d1:=(o.cell (p:=⟨dg (A w),1,U⟩) (by show _<_;simp only;omega) Hn).trans c1;have bg:=o.own.size;have P:¬wu w1 bb (dg (A w)):=λa=>by rcases(zb o).sep _ a with a|a;exact zb Hn a;omega);refine(Z4 bb Y2 (zy q.1 h) w1 o.at' (by simp[zy]) oa).mono ?_;rintro e w3 ⟨Y3,rfl,aC,u⟩;have f0:=(u.cell (p:=⟨dg (A w),0,U⟩) (by show _<_;simp only;omega) P).trans d0;have f1:=(u.cell (p:=⟨dg (A w),1,U⟩) (by show _<_;simp only;omega) P).trans d1;have az:¬wu w3 bb (dg (A w)):=λa=>by obtain a|a:=u.sep _ a;exact P a;omega);have aI:=zd az;have aL:=zd ((n.trans o).trans u);have am:=zd aC;clear u aC d0 d1 c0 c1 P az;go_wp2_with fail;have a5:D Y3=D Y2+1:=(by rw[<-yd,zb am];simp[yd]);exact⟨⟨D q.2,j+1,Y3,rfl,Ae,oa,oa,oa,aL,f0,f1,aI,(by rw[zb aj,zb am,zb al,show c-(j+1)=k by omega];rfl)⟩,Ad⟩
 have HE:H (vH (AH f) t h c h (AJ g)=(b,AJ d)):=(by rw[zb HF,show c-j=0 by omega];rfl);have F:=zb HR;rw[zb HE] at F;have z:=zaz f bb hB (Ud T y) t l.toNat b d wr (S.keep n.only) ⟨_,_,rfl⟩ n.at' ay oa (by rw[F];exact L);rw[F,show((l.toNat:Nat):Int)=l by omega] at z;have z:=zd z;clear F;go_wp2_with(go_at_call 152;refine z.mono ?_;rintro e w4 ⟨Y4,rfl,x,v⟩;have X:=zd (s.trans (n.trans v));have W:=zd x;clear v x);go_ret;exact⟨Y4,rfl,W,X⟩
theorem Tryz.SZ:(Uk (Ud 244 v) 89 228 G).run V w=.ok (Ue #[K U 0 0,C Z]) w:=om
theorem Tryz.SY:(Uk (Ud 244 v) 89 252 G).run V w=.ok (Ue #[K U 0 0,C Z]) w:=om
theorem Tryz.SX:(Uk (Ud 244 v) 89 254 G).run V w=.ok (Ue #[Uf #[Ui,M J 0,M J 0],C Z]) w:=om
theorem Tryz.SV:(Uk (Ud 245 v) 89 228 G).run V w=.ok (Ue #[K U 0 0,C Z]) w:=om
theorem Tryz.SU:(Uk (Ud 245 v) 89 252 G).run V w=.ok (Ue #[K U 0 0,C Z]) w:=om
theorem Tryz.SS:(Uk (Ud 245 v) 89 254 G).run V w=.ok (Ue #[Uf #[Ui,M J 0,M J 0],C Z]) w:=om
theorem Tryz.SQ:(Uk (Ud 246 v) 89 228 G).run V w=.ok (Ue #[K U 0 0,C Z]) w:=om
theorem Tryz.SP:(Uk (Ud 246 v) 89 252 G).run V w=.ok (Ue #[K U 0 0,C Z]) w:=om
theorem Tryz.SO:(Uk (Ud 246 v) 89 254 G).run V w=.ok (Ue #[Uf #[Ui,M J 0,M J 0],C Z]) w:=om
theorem Tryz.SN:(Uk (Ud 250 v) 89 228 G).run V w=.ok (Ue #[K U 0 0,C Z]) w:=om
theorem Tryz.SL:(Uk (Ud 250 v) 89 252 G).run V w=.ok (Ue #[K U 0 0,C Z]) w:=om
theorem Tryz.SK:(Uk (Ud 250 v) 89 254 G).run V w=.ok (Ue #[Uf #[Ui,M J 0,M J 0],C Z]) w:=om
theorem zC.iface:∀{f:Nat} {w:E} {A:Aj} {v:Y} {t:Tree},zC f w A v t->∃T y,v=Ud T y
 |0,_,_,_,_,h=>h.elim
 |f+1,w,A,v,t,h=>by
  obtain h|⟨sv,xs,a,_,h,_⟩|⟨sv,xs,a,_,h,_⟩|⟨p,l,m,b,_,h,_⟩:=h;obtain⟨c,_,h⟩|⟨_,h⟩|⟨c,_,h⟩|⟨c,_,h⟩|⟨neg,R,S,v1,v2,_,h,_⟩:=h<;>exact⟨_,_,h⟩;exact⟨_,_,h⟩;exact⟨_,_,h⟩;exact⟨_,_,h⟩
theorem zfZ {a:Int}(h:jy a=G):B4 a:=by simp[jy] at h;unfold B4;omega
theorem zg8 {f:Nat}{t:Tree}(h:kZ (f+1) t)(k:vd (f+1) t):FB t:=by refine⟨λc e=>?_,λneg R S e=>?_⟩;subst e;exact zfZ (h.2.1 rfl);subst e;exact⟨λa b=>zfZ ((h.2.2.1 rfl).2 a b),k.1 rfl⟩
theorem GO (h:Nat)(S:Aq):AH (f+1) (Zk c) h S=(D S,S++[tester c h]):=by unfold AH;rw[IN (by rfl)];rfl
theorem Ff (t:Tree)(a:t.kind≠0)(b:t.kind<5)(h:Nat)(S:Aq):AH (f+1) t h S=(D S,S++[taker t h]):=by unfold AH;rw[iN a,iN oa,iN oa,iN oa]
theorem GP (t:Tree)(a:Au)(h:Nat)(S:Aq):AH (f+1) (BA (t :: a)) h S=xh (AH f) h a (AH f t h S).1 (AH f t h S).2:=by rw[AH.eq_def];simp[BA]
theorem GM (a:Au)(h:Nat)(S:Aq):AH (f+1) (ZX a) h S=Zh (AH f) a.reverse h S:=by rw[AH.eq_def];simp[ZX]
theorem zg9 (t:Tree)(h:Nat)(c:Int):TC.jQ (taker t h) c=vg t c:=by simp[TC.jQ,taker]
theorem zha:∀f,BOK f bb:=by
 intro f
 induction f with
 |zero=>intro v t h N w s;exact s.at'.elim
 |succ f ih=>
  intro v t h N w s hZ hn hl;have IH:=zd ih;have aW:D N<=1000:=by have:=xm (f+1) t h (AJ N);rw[yd] at this;omega
  have X:=zd hZ;clear ih;have hq:=s.at';obtain d|⟨sv,xs,ts,rfl,rfl,hr,aL,am,hk,h0⟩|⟨sv,xs,ts,rfl,rfl,hr,aL,am,hk⟩|⟨p,l,m,t',rfl,rfl,aK,h0,h1,h2,h3,h4⟩:=hq
  .by_cases aE:∃c,t=Zk c
   ·(obtain⟨c,rfl⟩:=aE;obtain rfl:v=Ud 153 (M J c):=by obtain⟨c',e,d⟩|⟨e,d⟩|⟨c',e,d⟩|⟨c',e,d⟩|⟨neg,R,S,v1,v2,e,d,_⟩:=d;simp[Zk] at e;subst e;exact d;all_goals simp[Zk,Zl,ju,qU,vV] at e);rw[GO] at hl ⊢;have F:=Tryz.Ss;have HC:=zd (Z4 bb N (tester c h) w X (by simp[tester]) aW);clear s hZ hl d;go_enter func60,ntmps60;go_wp2_with fail;clear F;refine HC.mono ?_;rintro e q ⟨B,rfl,k,i⟩;have z:=zd i;have u:=zd k;clear i k;go_wp2_with fail;go_ret;exact⟨B,by rw[yd];rfl,u,z⟩
   (have aJ:∀c,t≠Zk c:=λc e=>aE ⟨c,e⟩;have hM:=λq (o:zke w q)=>zcX v t (λg=>g<bb) q (d.keep o (λ_ _ f=>f)) aJ (zg8 s.sh s.ln);have HM:=zd hM;have aH:t.kind≠0/\t.kind<5:=by obtain⟨c',e,d⟩|⟨e,d⟩|⟨c',e,d⟩|⟨c',e,d⟩|⟨neg,R,S,v1,v2,e,d,_⟩:=d;exact absurd e (aJ c');all_goals subst e;exact⟨by simp[Zl,ju,qU,vV],by simp[Zl,ju,qU,vV]⟩);rw[Ff f t aH.1 aH.2] at hl ⊢;have HA:H (∀(x:Y) (q P:E),jw q bb N->yp q P (Uf #[x]) (vg t)->Uh V 59 #[Ua (I ⟨bb,0,U⟩),Uf #[M J 1,x,M J 0,M J (h:Nat),M J 0]] P (YE P bb (D N,AJ N++[taker t h]))):=λx q P hb n=>
    (zfY bb N (taker t h) x (dg (A q)) P (hb.NU n.2) (n.1.congr (λc=>(zg9 t h c).symm)) (λsv a2=>hb.Pj sv ((n.2.cell (p:=⟨bb,0,U⟩) hb.lt id).symm.trans a2)) hb.lt aW).mono (λe w' ⟨h1,h2⟩=>⟨_,h1,by simp[AJ],h2⟩)
   have aq:=d;clear hM s hZ hl d aE aJ;obtain⟨c',e,d⟩|⟨e,d⟩|⟨c',e,d⟩|⟨c',e,d⟩|⟨neg,R,S,v1,v2,e,d,g1,g2⟩:=aq;subst e;exact absurd rfl aH.1
   .subst d;have F:=Tryz.Sr;have L:=Tryz.SZ;have a6:=Tryz.SY;have a7:=Tryz.SX;go_enter func60,ntmps60;go_wp2_with fail;clear F L a6 a7;refine(zb HM _ (zg.refl _ _)).mono ?_;rintro e2 q ⟨v',rfl,n⟩;obtain⟨qa,qn,qc,rfl⟩:=n.1.slice;have W:=zd n;clear n;go_wp2_with fail;refine(zb HA _ w q X W).mono ?_;rintro e2 P ⟨B,rfl,k,i⟩;have z:=zd ((qA.NU X W.2).trans i);have u:=zd k;clear i k;go_wp2_with fail;go_ret;exact⟨B,by rw[yd];rfl,u,z⟩
   .subst d;have F:=Tryz.Sp;have L:=Tryz.SV;have a6:=Tryz.SU;have a7:=Tryz.SS;go_enter func60,ntmps60;go_wp2_with fail;clear F L a6 a7;refine(zb HM _ (zg.refl _ _)).mono ?_;rintro e2 q ⟨v',rfl,n⟩;obtain⟨qa,qn,qc,rfl⟩:=n.1.slice;have W:=zd n;clear n;go_wp2_with fail;refine(zb HA _ w q X W).mono ?_;rintro e2 P ⟨B,rfl,k,i⟩;have z:=zd ((qA.NU X W.2).trans i);have u:=zd k;clear i k;go_wp2_with fail;go_ret;exact⟨B,by rw[yd];rfl,u,z⟩
   .subst d;have F:=Tryz.Sk;have L:=Tryz.SQ;have a6:=Tryz.SP;have a7:=Tryz.SO;go_enter func60,ntmps60;go_wp2_with fail;clear F L a6 a7;refine(zb HM _ (zg.refl _ _)).mono ?_;rintro e2 q ⟨v',rfl,n⟩;obtain⟨qa,qn,qc,rfl⟩:=n.1.slice;have W:=zd n;clear n;go_wp2_with fail;refine(zb HA _ w q X W).mono ?_;rintro e2 P ⟨B,rfl,k,i⟩;have z:=zd ((qA.NU X W.2).trans i);have u:=zd k;clear i k;go_wp2_with fail;go_ret;exact⟨B,by rw[yd];rfl,u,z⟩
   subst d;obtain⟨pa,pn,pc,rfl⟩:=g1.slice;obtain⟨ua,un,uc,rfl⟩:=g2.slice;clear g1 g2;have F:=Tryz.Se;have L:=Tryz.SN;have a6:=Tryz.SL;have a7:=Tryz.SK;go_enter func60,ntmps60;go_wp2_with fail;clear F L a6 a7;refine(zb HM _ (zg.refl _ _)).mono ?_;rintro e2 q ⟨v',rfl,n⟩;obtain⟨qa,qn,qc,rfl⟩:=n.1.slice;have W:=zd n;clear n;go_wp2_with fail;refine(zb HA _ w q X W).mono ?_;rintro e2 P ⟨B,rfl,k,i⟩;have z:=zd ((qA.NU X W.2).trans i);have u:=zd k;clear i k;go_wp2_with fail;go_ret;exact⟨B,by rw[yd];rfl,u,z⟩
  .obtain⟨t0,aA,rfl⟩:∃t0 aA,ts=t0 :: aA:=by
    cases ts with
    |nil=>simp at am;omega
    |cons a b=>exact⟨a,b,rfl⟩
   rw[GP] at hl ⊢;have aq:∃pa pn pc,sv=K pa pn pc:=(by obtain⟨d,_⟩|⟨g,aY,d,_⟩:=hr<;>exact⟨_,_,_,d⟩);have HC:=zd (zeK f bb IH sv xs t0 aA h N w hr aL am (λj x t hx ht=>⟨hk j x t hx ht,s.sh.2.2.2 t (Bg ht),s.ln.2 t (Bg ht)⟩) (λx hx=>by
    have⟨j,hj⟩:=Li.1 hx;have aG:j<(t0 :: aA).length:=(by rw[am];exact(AK.1 hj).1);exact(hk j x _ hj (AE aG)).iface) hZ hn hl)
   obtain⟨pa,pn,pc,rfl⟩:=aq;clear s hZ hr hk hl;have F:=Tryz.R7;have L:=Tryz.R5;go_enter func60,ntmps60;go_wp2_with fail;clear F L;refine HC.mono ?_;rintro e P ⟨B,rfl,k,i⟩;have z:=zd i;have u:=zd k;clear i k;go_wp2_with fail;go_ret;exact⟨B,rfl,u,z⟩
  .rw[GM] at hl ⊢;have aq:∃pa pn pc,sv=K pa pn pc:=(by obtain⟨d,_⟩|⟨g,aY,d,_⟩:=hr<;>exact⟨_,_,_,d⟩);have HC:=zd (zbn f bb IH sv xs ts h N w hr aL am (λj x t hx ht=>⟨hk j x t hx ht,s.sh.2.2.2 t (Bg ht),s.ln.2 t (Bg ht)⟩) (λx hx=>by
    have⟨j,hj⟩:=Li.1 hx;have aG:j<D ts:=(by rw[am];exact(AK.1 hj).1);exact(hk j x _ hj (AE aG)).iface) hZ hn hl)
   obtain⟨pa,pn,pc,rfl⟩:=aq;clear s hZ hr hk hl;have F:=Tryz.R4;have L:=Tryz.R1;have a6:=Tryz.R0;go_enter func60,ntmps60;go_wp2_with fail;clear F L a6;refine HC.mono ?_;rintro e P ⟨B,rfl,k,i⟩;have z:=zd i;have u:=zd k;clear i k;go_wp2_with fail;go_ret;exact⟨B,rfl,u,z⟩
  obtain⟨T,y,rfl⟩:=aK.iface;have HC:=zd (λq (hO:zke w q)=>zeL f bb IH T y l m t' h N q ⟨zC.keep hO (λ_ _ f=>f) f _ _ aK,s.sh.2.2.2 t' (by simp[vW]),s.ln.2 t' (by simp[vW])⟩ h0 h1 h2 h3 h4 (X.NU hO) hn _ rfl hl);generalize AH (f+1) (vW t' l m) h (AJ N)=r at *;clear s hZ aK;have F:=Tryz.RZ;have L:=Tryz.RY;have a6:=Tryz.RX;have a7:=Tryz.RV;go_enter func60,ntmps60;go_wp2_with fail;clear F L a6 a7;have hO:zke w (w.alloc (Ub #[Ud T y,M J l,M J m] 254)):=Ag;refine(zb HC _ hO).mono ?_;rintro e P ⟨B,rfl,k,i⟩;have z:=zd ((qA.NU X hO).trans i);have u:=zd k;clear i k hO;go_wp2_with fail;go_ret;exact⟨B,rfl,u,z⟩
end
