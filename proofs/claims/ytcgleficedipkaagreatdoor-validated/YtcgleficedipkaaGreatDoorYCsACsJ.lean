/- The program's sets: looking a character up (from commit d632176 on). -/
import Derived.Test.YtcgleficedipkaaGreatDoorYSetASetC
import Derived.Test.YtcgleficedipkaaGreatDoorYChARanB
import Derived.RangeFuncBound
import Derived.RangeFuncLeaves
import Derived.OwnWalkIn
import Derived.TacticsInMore
import Derived.LoopNIn
import Derived.LoopIn
import Derived.Sort.Row
import Derived.Test.YtcgleficedipkaaGreatDoorYSrtASrtH
import Derived.Shelf.SlSortCmp.NoneTotal
namespace Go.Proofs.YtcgleficedipkaaGreatDoor
open Option renaming none->U,some->I
open Value renaming int->M,slice->K,bool->C,pointer->Ua,tuple->Ue,agg->Uf
open IntKind renaming i64->J,i32->Ug
open Bool renaming false->Z,true->G
open _root_.Go.Proofs.Tryz renaming prog->V
open Go renaming World->E,Value->Y,Calls->Uh
open Go.RowKit renaming Hid->H
open Or renaming inr->O,inl->Q
open Ending renaming returned->R
open Obj renaming cells->Ub
open Ref Cs
open _root_.Go.Proofs.Tryz
variable {b:List (Int×Int)}(acc:List (Int×Int))(base:Nat)(v sv:Value)(S:Int->Bool)(x y:Int×Int)(l m:List (Int×Int))(c a:Int)(w W:World)(n:Nat)
section
open Go.RowKit
set_option maxHeartbeats 1600000
namespace Cs
theorem zQ.ge {a:List (Int×Int)}(h:zQ a):∀(i:Nat) (x:Int×Int),a[i]?=I x->(i:Int)<=x.1
 |0,x,b=>(h.at b).2.1
 |i+1,x,b=>by
  have g:i+1<a.length:=(zgG.1 b).1;have c:a[i]?=I a[i]:=zgE oa;have e:=zQ.ge h i _ c;have f:=h.lt c b oa;have d:=h.at c;unfold okS at d;omega
theorem zQ.len {a:List (Int×Int)}(h:zQ a):a.length<=1114112:=by by_cases e:a.length=0;omega;have b:a[a.length-1]?=I (a[a.length-1]' oa):=zgE oa;have d:=h.ge _ _ b;have c:=h.at b;unfold okS at c;omega
end Cs
def yO (w:E)(A:Nat->Prop)(sv:Y)(l:List (Int×Int)):Prop:=
 (sv=K U 0 0/\l=[])\/∃g a,sv=K (I ⟨g,0,U⟩) l.length a/\A g/\l.length<=a/\g<w.heap.size/\∀(j:Nat) p,l[j]?=I p->w.cell? ⟨g,j*2,U⟩=I (M Ug p.1)/\w.cell? ⟨g,j*2+1,U⟩=I (M Ug p.2)
theorem yO.keep {P A:Nat->Prop}{w e:E}{sv:Y}{l:List (Int×Int)}(h:yO w A sv l)(k:zf P w e)(d:∀g,A g->¬P g):yO e A sv l:=by rcases h with h|⟨g,f,i,a,m,n,b⟩;exact Q h;exact O ⟨g,f,i,a,m,zgJ n k.size,λj p c=>⟨zg k _ _ (b j p c).1 (d g a),zg k _ _ (b j p c).2 (d g a)⟩⟩
theorem yO.mono {A B:Nat->Prop}{w:E}{sv:Y}{l:List (Int×Int)}(h:yO w A sv l)(i:∀g,g<w.heap.size->A g->B g):yO w B sv l:=by rcases h with h|⟨g,b,d,c,e,a,f⟩;exact Q h;exact O ⟨g,b,d,i g a c,e,a,f⟩
def xu (w:E)(A:Nat->Prop)(v:Y)(P:Int->Bool):Prop:=∃sv a,v=Uf #[sv]/\yO w A sv a/\zQ a/\∀c,Eqv.zK a c=P c
theorem xu.keep {P A:Nat->Prop}{w a:E}{v:Y}{S:Int->Bool}(h:xu w A v S)(k:zf P w a)(e:∀g,A g->¬P g):xu a A v S:=by obtain⟨sv,f,b,c,d⟩:=h;exact⟨sv,f,b,c.keep k e,d⟩
theorem xu.mono {A B:Nat->Prop}{w:E}{v:Y}{S:Int->Bool}(h:xu w A v S)(d:∀g,g<w.heap.size->A g->B g):xu w B v S:=by obtain⟨sv,e,a,b,c⟩:=h;exact⟨sv,e,a,b.mono d,c⟩
theorem ZP:Uh V 177 #[Uf #[M Ug x.1,M Ug x.2],M Ug c] w λe h=>e=R (M J (cmpS x c))/\ziE w h:=by
 obtain⟨a,b⟩:=x;have d:H (ziE w (w.alloc (Ub #[M Ug a,M Ug b] 265))):=(zf.refl _ _).alloc _;unfold cmpS;by_cases f:b<c
 .simp only[f,if_true];go_enter func177,ntmps177;go_wp2_with fail;go_ret;exact⟨rfl,d⟩
 by_cases g:a > c
 .simp only[f,g,if_true,if_false];go_enter func177,ntmps177;go_wp2_with fail;go_ret;exact⟨rfl,d⟩
 simp only[f,g,if_false];go_enter func177,ntmps177;go_wp2_with fail;go_ret;exact⟨rfl,d⟩
theorem bsf_any (A:Nat->Prop)(w:E)(h:yO w A sv l)(P:zQ l):Uh V 176 #[sv,M Ug c,.func (.func 177) #[] #[]] w λe w'=>∃i:Nat,e=R (Ue #[M J i,C (Eqv.zK l c)])/\ziE w w':=by
 have aw:=P.len;have L:=ze P;have z:=ze h;clear h P;obtain⟨W,pn,X,rfl⟩:∃W pn X,sv=K W pn X:=by rcases(zb z) with⟨k,_⟩|⟨g,ae,k,_⟩<;>exact⟨_,_,_,k⟩
 have ao:pn=l.length:=by rcases(zb z) with⟨k,N⟩|⟨g,ae,k,_⟩<;>simp at k<;>simp[*]
 subst ao;have HC:H (l.length≠0->∃g,W=I ⟨g,0,U⟩/\l.length<=X/\∀(j:Nat) p,l[j]?=I p->w.cell? ⟨g,j*2,U⟩=I (M Ug p.1)/\w.cell? ⟨g,j*2+1,U⟩=I (M Ug p.2)):=by intro af;rcases zb z with⟨_,N⟩|⟨g,ae,k,_,N,h3,h4⟩;rw[N] at af;exact absurd rfl af;simp at k;exact⟨g,k.1,oa,h4⟩
 clear z;have eg:∀ad w,(callFunc 177 ad).run V w=.ok (.enter 177 ad) w:=enters_of func177 om rfl;go_enter func176,ntmps176;go_wp2_with fail;go_loopw[9,10] (λS T wr=>∃i j:Nat,S=M J i/\T=M J j/\i<=j/\j<=l.length/\H (ziE w wr)/\H ((∀(t:Nat) x,t<i->l[t]?=I x->x.2<c)/\∀(t:Nat) x,j<=t->l[t]?=I x->c<=x.2)) (λS T _=>(intOf T-intOf S).toNat);exact⟨0,l.length,rfl,rfl,oa,oa,zf.refl _ _,λt x ht=>oa,λt x ht u=>by have:=(zgG.1 u).1;omega⟩;obtain⟨i,j,rfl,rfl,av,ak,d,v⟩:=hrel;by_cases ax:i<j
 .obtain⟨g,rfl,an,s⟩:=zb HC oa;have hm:(i+j) / 2<l.length:=oa;have n:l[(i+j) / 2]?=I l[(i+j) / 2]:=zgE hm;obtain⟨q,r⟩:=s _ _ n;have c1:=zg d _ _ q id;have c2:=zg d _ _ r id;clear q r s;have HG:=ze n;clear n;generalize l[(i+j) / 2]=y at *;by_cases b:y.2<c
  .have F:H ((∀(t:Nat) x,t<(i+j) / 2+1->l[t]?=I x->x.2<c)/\∀(t:Nat) x,j<=t->l[t]?=I x->c<=x.2):=⟨has_left L HG b,v.2⟩
   have aj:cmpS y c<0:=(zcg y c).2 b;clear b;go_wp2_with(go_at_fn 177;refine(ZP y c _).mono ?_;rintro e w1 ⟨rfl,a⟩;have m:=ze (d.trans a);clear a);exact⟨⟨(i+j) / 2+1,j,by rw[show((i:Int)+(j:Int)) / 2+1=(((i+j) / 2+1:Nat):Int) by omega],rfl,oa,ak,m,F⟩,by simp[intOf];omega⟩
  have F:H ((∀(t:Nat) x,t<i->l[t]?=I x->x.2<c)/\∀(t:Nat) x,(i+j) / 2<=t->l[t]?=I x->c<=x.2):=⟨v.1,zf7 L HG b⟩
  have aj:¬cmpS y c<0:=λh=>b ((zcg y c).1 h);clear b;go_wp2_with(go_at_fn 177;refine(ZP y c _).mono ?_;rintro e w1 ⟨rfl,a⟩;have m:=ze (d.trans a);clear a);exact⟨⟨i,(i+j) / 2,rfl,by rw[show((i:Int)+(j:Int)) / 2=(((i+j) / 2:Nat):Int) by omega],oa,oa,m,F⟩,by simp[intOf];omega⟩
 obtain rfl:i=j:=oa;have B:H (Eqv.zK l c=G↔∃x,l[i]?=I x/\x.1<=c/\c<=x.2):=has_iff L v.1 v.2;by_cases hn:i<l.length
 .obtain⟨g,rfl,an,s⟩:=zb HC oa;have n:l[i]?=I l[i]:=zgE hn;obtain⟨q,r⟩:=s _ _ n;have c1:=zg d _ _ q id;have c2:=zg d _ _ r id;clear q r s;have HG:=ze n;clear n;generalize l[i]=y at *;by_cases b:cmpS y c=0
  .have o:H (Eqv.zK l c=G):=B.2 ⟨y,HG,Wr.1 b⟩;go_wp2_with(go_at_fn 177;refine(ZP y c _).mono ?_;rintro e w1 ⟨rfl,a⟩;have m:=ze (d.trans a);clear a);go_ret2;exact⟨i,by rw[zb o];rfl,m⟩
  (have o:H (Eqv.zK l c=(cmpS y c == 0)):=by rw[show(cmpS y c == 0)=Z by simpa using b];refine ze (zhL.2 λh=>?_);obtain⟨x,u,ag⟩:=B.1 h;cases(zb HG).symm.trans u;exact b (Wr.2 ag));go_wp2_with(go_at_fn 177;refine(ZP y c _).mono ?_;rintro e w1 ⟨rfl,a⟩;have m:=ze (d.trans a);clear a);go_ret2;exact⟨i,by rw[zb o];rfl,m⟩
 (have o:H (Eqv.zK l c=Z):=by refine ze (zhL.2 λh=>?_);obtain⟨x,u,ag⟩:=B.1 h;have:=(zgG.1 u).1;omega);go_wp2_with fail;go_ret2;exact⟨i,by rw[zb o];rfl,d⟩
theorem zd5 (A:Nat->Prop)(w:E)(h:xu w A v S):Uh V 134 #[v,M Ug c] w λe s=>e=R (C (S c))/\ziE w s:=by
 obtain⟨sv,r,rfl,a,l,m⟩:=h;obtain⟨b,j,d,rfl⟩:∃b j d,sv=K b j d:=by rcases a with⟨a,_⟩|⟨g,t,a,_⟩<;>exact⟨_,_,_,a⟩
 have k:H (ziE w (w.alloc (Ub #[K b j d] 161))):=(zf.refl _ _).alloc _;have o:=ze (bsf_any _ r c A _ (a.keep k (λ_ _ f=>f)) l);have q:=ze (m c);clear a l m;go_enter func134,ntmps134;go_wp2_with(go_at_call 176;refine o.mono ?_;rintro e u ⟨i,rfl,n⟩;have p:=ze (k.trans n);clear n);go_ret;exact⟨by rw[zb q];rfl,p⟩
end
section
open Go.RowKit Go.Shelf
set_option maxHeartbeats 4000000
set_option maxRecDepth 1000000
attribute [local go_sem] Oper.semAt_some
def jT (D:Nat->Prop)(a wr:E)(O:Nat->Prop):Prop:=a.heap.size<=wr.heap.size/\∀k,D k->k<a.heap.size/\¬O k/\wr.heap[k]?=a.heap[k]?
theorem jT.cell {D O:Nat->Prop}{a wr:E}(h:jT D a wr O){p:Addr}(b:D p.block):wr.cell? p=a.cell? p:=zhq (w:=a) (h.2 _ b).2.2
theorem jT.yield {D O O':Nat->Prop}{c A A':E}(h:jT D c A O)(i:∀k,O' k->O k\/A.heap.size<=k)(b:zf O A A'):jT D c A' O':=
 ⟨zgN h.1 b.size,λk f=>by
  obtain⟨d,a,e⟩:=h.2 k f;have:=h.1;exact⟨d,λg=>by
   rcases i k g with h|h;exact a h;omega,(b.block k oa a).trans e⟩⟩
theorem jT.young {D O:Nat->Prop}{a W A A':E}(h:jT D a A O)(g:a.heap.size<=W.heap.size)(b:zf (λk=>W.heap.size<=k/\¬O k) A A'):jT D a A' O:=
 ⟨zgN h.1 b.size,λk f=>by
  obtain⟨c,d,e⟩:=h.2 k f;have:=h.1;exact⟨c,d,(b.block k oa (λi=>oa)).trans e⟩⟩
theorem jT.start {D O:Nat->Prop}{b W:E}(c:∀k,D k->k<b.heap.size)(h:ziE b W)(d:∀k,D k->¬O k):jT D b W O:=
 ⟨h.size,λk a=>⟨c k a,d k a,h.block k (c k a) id⟩⟩
theorem Kj {α:Type}(l:List α)(i:Nat)(a:i<l.length):(l.take i++[l[i]]) <+: l:=by have:l.take i++[l[i]]=l.take (i+1):=ov;rw[this];exact List.take_prefix _ _
theorem Zw {α:Type}(l:List α)(i:Nat)(a:i<l.length):l.take i++[l[i]]=l.take (i+1):=ov
def Zx (x:Int×Int):Array Y:=#[M Ug x.1,M Ug x.2]
theorem ZQ (A:Nat->Prop)(f:Nat)(a:E)(h:yO a A sv l)(ac:a.cell? ⟨f,0,U⟩=I sv)(hl:l.length<=2000000)(n:Nat)(aH:1<=n):SeqO Fence.wide n V 198 #[Ua (I ⟨f,0,U⟩)] Zx l (λk=>k=f\/(A k/\k<a.heap.size)) a:=by
 intro lp al w W T N ao P X F;have ar:=zgF a _ ac;have b:H (jT (λk=>k=f\/(A k/\k<a.heap.size)) a W w):=jT.start (λk m=>by rcases m with rfl|m;exact ar;exact m.2) T N;have m:=(b.cell (p:=⟨f,0,U⟩) (Q rfl)).trans ac;obtain⟨r,t,s,rfl⟩:∃r t s,sv=K r t s:=by rcases h with⟨d,_⟩|⟨g,x,d,_⟩<;>exact⟨_,_,_,d⟩
 have au:t=l.length:=by rcases h with⟨d,o⟩|⟨g,x,d,_⟩<;>simp at d<;>simp[*]
 subst au;have HC:H (l.length≠0->∃g,r=I ⟨g,0,U⟩/\l.length<=s/\(A g/\g<a.heap.size)/\∀(j:Nat) p,l[j]?=I p->a.cell? ⟨g,j*2,U⟩=I (M Ug p.1)/\a.cell? ⟨g,j*2+1,U⟩=I (M Ug p.2)):=by
  intro ad;rcases h with⟨_,o⟩|⟨g,x,d,hA,o,h3,h4⟩;rw[o] at ad;exact absurd rfl ad
  grind
 have HJ:=ze P;have HY:=ze X;have H0:=ze F;have aw:=T.size;clear h P X F N ao;refine callsIn_of_wp func198 rfl trivial ?_ rfl;simp only[ntmps198,zhg,zg4,zhe,Nat.reduceAdd,Nat.reduceSub,zhA,zhz,zhK,zhC,zho,zhf]
 gi_wp2
 gi_loopw [7] (λu wr=>∃(i:Nat) (c:Nat->Prop),u=M J i/\i<=l.length/\H (al (l.take i) c wr)/\H (jT (λk=>k=f\/(A k/\k<a.heap.size)) a wr c)) (λu _=>l.length-(intOf u).toNat)
 case atStart=>exact⟨0,w,rfl,oa,H0,b⟩
 case round=>
  clear b;obtain⟨i,c,rfl,hi,v,b⟩:=hrel;by_cases q:i<l.length
  .obtain⟨g,rfl,aI,L,aa⟩:=zb HC oa;have ab:l[i]?=I l[i]:=zgE q;obtain⟨z,B⟩:=aa _ _ ab;have c1:=(b.cell (p:=⟨g,i*2,U⟩) (O L)).trans z;have c2:=(b.cell (p:=⟨g,i*2+1,U⟩) (O L)).trans B;clear z B aa;have HP:H ((l.take i++[l[i]]) <+: l):=Kj l i q;have HT:H (l.take i++[l[i]]=l.take (i+1)):=Zw l i q;clear ab;generalize l[i]=y at *;have S:=zb HJ (l.take i) c wr (wr.alloc (Ub #[M Ug y.1,M Ug y.2] 265)) v ((zf.refl _ wr).alloc _);have ag:=ze (b.young (W:=W) aw (A':=wr.alloc (Ub #[M Ug y.1,M Ug y.2] 265)) ((zf.refl _ wr).alloc _));obtain⟨fn,aK,assign,body,hy,hR⟩:=zb HY (l.take i) c y _ S HP;simp only[Zx] at hy;clear S;gi_wp2;refine hR.mono ?_;rintro e W3 ⟨rfl,O',an,av,ap,aG⟩;have ah:=ze (ag.yield av ap);gi_wp2;exact⟨⟨i+1,O',by go_num,oa,(by rw[<-zb HT];exact an),ah⟩,by simp[intOf];omega⟩
  obtain rfl:i=l.length:=by omega
  gi_wp2
  go_end0
  exact⟨⟨_,rfl⟩,c,by have:=zb v;rwa [zhG] at this⟩
attribute [local go_sem] Oper.semAt_some
theorem YieldAt.anyN {m m':Nat}{P:Program}{l:Nat}{args:Array Y}{W:E}{R:Ending->E->Prop}(h:YieldAt Fence.wide m P l args W R):YieldAt Fence.wide m' P l args W R:=
 let ⟨d,f,assign,body,e,a⟩:=h
 ⟨d,f,assign,body,e,a.1,λc b _=>a.2 c b (room_wide _)⟩
def WM (w b:E)(sv v:Y):Prop:=∃a,v=.func (.func 198) #[] #[Ua (I ⟨a,0,U⟩)]/\w.heap.size<=a/\b.cell? ⟨a,0,U⟩=I sv/\ziE w b
theorem VK (f:∃a c b,sv=K a c b):Uh V 167 #[sv] w λe g=>∃v,e=R v/\WM w g sv v:=by
 obtain⟨a,c,b,rfl⟩:=f;have d:H (WM w (w.alloc (Ub #[K a c b] 159)) (K a c b) (.func (.func 198) #[] #[Ua (I ⟨w.heap.size,0,U⟩)])):=⟨_,rfl,zgH _,zm w _ rfl _ _ 0 _ rfl,(zf.refl _ _).alloc _⟩
 go_enter func167,ntmps167;go_wp2_with fail;go_ret;exact⟨_,rfl,d⟩
theorem XN (k:∃a c b,sv=K a c b):Uh V 123 #[Uf #[sv]] w λe m=>∃v,e=R v/\WM w m sv v:=by obtain⟨a,c,b,rfl⟩:=k;have j:H (ziE w (w.alloc (Ub #[K a c b] 161))):=(zf.refl _ _).alloc _;have l:(w.alloc (Ub #[K a c b] 161)).heap.size=w.heap.size+1:=ov;go_enter func123,ntmps123;go_wp2_with(go_at_call 167;refine(VK _ _ ⟨_,_,_,rfl⟩).mono ?_;rintro e n ⟨v,rfl,h,rfl,d,f,g⟩;have i:H (WM w n (K a c b) (.func (.func 198) #[] #[Ua (I ⟨h,0,U⟩)])):=⟨h,rfl,(by rw[l] at d;omega),f,j.trans g⟩;clear d f g);go_ret;exact⟨_,rfl,i⟩
theorem Qc {α:Type}{P:List α->Prop}(a:P [])(b:∀l x,P l->P (l++[x]))(l:List α):P l:=by
 rw[<-List.reverse_reverse l];generalize l.reverse=r
 induction r with
 |nil=>exact a
 |cons x r c=>rw[List.reverse_cons];exact b _ _ c
namespace Cs
def gE:List (Int×Int)->List (Int×Int)×Int
 |l=>l.foldl (λs x=>(s.1++[(s.2,x.1-1)],x.2+1)) ([],0)
theorem gE_nil:gE []=([],0):=rfl
theorem Qd (x:Int×Int):gE (l++[x])=((gE l).1++[((gE l).2,x.1-1)],x.2+1):=by simp[gE]
theorem VL:∀(l:List (Int×Int)) (e:List (Int×Int)) (b:Int),(l.foldl (λs x=>(s.1++[(s.2,x.1-1)],x.2+1)) (e,b)).1++[((l.foldl (λ(s:List (Int×Int)×Int) x=>(s.1++[(s.2,x.1-1)],x.2+1)) (e,b)).2,1114111)]=e++gaps b l
 | [],e,b=>rfl
 |x :: l,e,b=>by
  rw[List.foldl_cons,VL l];simp[gaps]
theorem zcS:(gE l).1++[((gE l).2,1114111)]=gaps 0 l:=by have:=VL l [] 0;simpa [gE] using this
variable {l}
theorem gE_pre (h:b <+: l):(gE b).1 <+: (gE l).1:=by obtain⟨r,rfl⟩:=h;refine Qc (P:=λr=>(gE b).1 <+: (gE (b++r)).1) ov (λr x a=>?_) r;show _ <+: (gE (b++(r++[x]))).1;rw[<-zgX,Qd];exact List.IsPrefix.trans a (ziq _ _)
theorem gE_step {x:Int×Int}(h:(b++[x]) <+: l):((gE b).1++[((gE b).2,x.1-1)]) <+: gaps 0 l:=by have a:=gE_pre h;rw[Qd] at a;rw[<-zcS];exact List.IsPrefix.trans a (ziq _ _)
theorem gE_lo:∀(l:List (Int×Int)),(∀x∈l,okS x)->0<=(gE l).2/\(gE l).2<=1114112:=by refine Qc (P:=λl=>(∀x∈l,okS x)->0<=(gE l).2/\(gE l).2<=1114112) (λ_=>by rw[gE_nil];exact⟨ov,ov⟩) (λl x a h=>?_);rw[Qd];have:=h x ov;unfold okS at this;simp only;omega
end Cs
structure Yx (w:E)(k lp:Nat)(b:Int):Prop where
 y:w.cell? ⟨k,0,U⟩=I (.func (.yield lp) #[] #[])
 b:w.cell? ⟨k+1,0,U⟩=I (M Ug b)
 f:w.frozen? ⟨k+1,0,U⟩=Z
theorem Yx.keep {P:Nat->Prop}{w d:E}{k c:Nat}{b:Int}(h:Yx w k c b)(o:zf P w d)(e:¬P k)(a:¬P (k+1)):Yx d k c b:=
 ⟨(o.cell (p:=⟨k,0,U⟩) (zgF w _ h.y) e).trans h.y,(o.cell (p:=⟨k+1,0,U⟩) (zgF w _ h.b) a).trans h.b,(o.frozen (p:=⟨k+1,0,U⟩) (zgF w _ h.b) a).trans h.f⟩
def GapI (a e:Nat)(d:List (Int×Int)->(Nat->Prop)->E->Prop)(b:List (Int×Int))(O:Nat->Prop)(X:E):Prop:=
 ∃c:Nat->Prop,(∀k,O k↔c k\/k=a\/k=a+1)/\¬c a/\¬c (a+1)/\d (gE b).1 c X/\Yx X a e (gE b).2/\a+2<=X.heap.size/\True
theorem gaps_seq (A:Nat->Prop)(L:Nat)(N:E)(h:yO N A sv l)(hr:zQ l)(aY:N.cell? ⟨L,0,U⟩=I sv)(n:Nat)(bC:5<=n):SeqO Fence.wide n V 225 #[Ua (I ⟨L,0,U⟩)] Zx (gaps 0 l) (λk=>k=L\/(A k/\k<N.heap.size)) N:=by
 intro j ba O0 W hO hD aT hJ hY h0;have bk:=zgF N _ aY;have m:=(hO.cell (p:=⟨L,0,U⟩) bk id).trans aY;obtain⟨pa,pn,pc,rfl⟩:∃pa pn pc,sv=K pa pn pc:=by rcases h with⟨a,_⟩|⟨g,bv,a,_⟩<;>exact⟨_,_,_,a⟩
 have HW:H (yO W (λg=>A g/\g<N.heap.size) (K pa pn pc) l):=(h.mono (λg hg hA=>⟨hA,hg⟩)).keep hO (λ_ _ f=>f);have HJ:=ze hJ;have HY:=ze hY;have H0:=ze h0;have HD:=ze hD;have af:=ze aT;have HR:=ze hr;have a7:=ze hO;clear h hJ hY h0 hD aT hr hO;have HA:H (ziE W ((W.alloc (Ub #[.func (.yield j) #[] #[]] 352)).alloc (Ub #[M Ug 0] 21))):=((zf.refl _ _).alloc _).alloc _;have bn:=zgF W _ m;have bl:=(HA.cell (p:=⟨L,0,U⟩) bn id).trans m;have HB:H (Yx ((W.alloc (Ub #[.func (.yield j) #[] #[]] 352)).alloc (Ub #[M Ug 0] 21)) W.heap.size j 0):=by have ay:(W.alloc (Ub #[.func (.yield j) #[] #[]] 352)).heap.size=W.heap.size+1:=ov;refine⟨?_,zm _ _ ay _ _ 0 _ rfl,zu _ _ ay _ _ 0⟩;exact(((zf.refl (λ_=>False) _).alloc _).cell (p:=⟨W.heap.size,0,U⟩) (by rw[ay];exact Nat.lt_succ_self _) id).trans (zm W _ rfl _ _ 0 _ rfl)
 have eg:∀aJ w,(callFunc 198 aJ).run V w=.ok (.enter 198 aJ) w:=enters_of func198 om rfl;refine callsIn_of_wp_marks func225 rfl trivial ?_ rfl;simp only[ntmps225,zhg,zg4,zhe,Nat.reduceAdd,Nat.reduceSub,zhA,zhz,zhK,zhC,zho,zhf];gi_wp2;refine⟨trivial,λh=>by simp[Fence.wide] at h,?_⟩;refine(callsIn_wide.2 (XN _ _ ⟨_,_,_,rfl⟩)).mono ?_;rintro e w1 ⟨v,rfl,az,rfl,bm,aX,c⟩;have ao:=ze c;have aC:=ze aX;clear c aX;gi_wp2;have au:((W.alloc (Ub #[.func (.yield j) #[] #[]] 352)).alloc (Ub #[M Ug 0] 21)).heap.size=W.heap.size+2:=ov;rw[au] at bm;have aD:=ze (HA.trans ao);have bp:=ao.size;rw[au] at bp;have a3:H (Yx w1 W.heap.size j 0):=HB.keep ao id id;have a9:=ze (HW.keep aD (λ_ _ f=>f));have bB:=HR.len;have bz:=a7.size;clear HB HW HA bl au;refine Yw (F:=Fence.wide) rfl oa (gf:=198) (lb:=#[Ua (I ⟨az,0,U⟩)]) rfl trivial eg
  (ZQ _ l _ az w1 a9 aC oa (n-1) oa) (λ_=>rfl) (GapI W.heap.size j ba) (λk=>O0 k\/k=W.heap.size\/k=W.heap.size+1) ?o ?d ?i ?z
  (λx=>{ tmps:=#[.func (.yield j) #[] #[],Ua (I ⟨L,0,U⟩),Ua (I ⟨W.heap.size,0,U⟩),Ua (I ⟨W.heap.size+1,0,U⟩),M Ug x.1,M Ug x.2,Uf #[K pa pn pc],.func (.func 198) #[] #[Ua (I ⟨az,0,U⟩)],M Ug x.1,M Ug x.2,undef,undef,undef,undef,undef,undef,undef,undef,undef,undef,undef],defers:=[] }) ?assign ?body ?done
 case o=>
  rintro k (h|h|h);have:=zb af k h;omega;omega;omega
 case d=>
  rintro k (rfl|⟨⟨hA,m⟩,a⟩);refine⟨zgF w1 _ aC,?_⟩;rintro(h|h|h);have:=zb af _ h;omega;omega;omega;refine⟨a,?_⟩;rintro(h|h|h);exact zb HD k (O ⟨hA,m⟩) h;omega;omega
 case i=>
  rintro b aG X X' ⟨B,a,S,T,h4,h5,h6,h7⟩ hX;exact⟨B,a,S,T,zb HJ _ _ _ _ h4 (hX.mono (λk _ m=>⟨oa,λh=>m.2 ((a k).2 (Q h))⟩)),h5.keep hX (λh=>oa) (λh=>oa),zgN h6 hX.size,h7⟩
 case z=>
  exact⟨O0,λ_=>Iff.rfl,λh=>by have:=zb af _ h;omega,λh=>by have:=zb af _ h;omega,zb HJ _ _ _ _ H0 (aD.mono (λ_ _ f=>f.elim)),a3,oa,trivial⟩
 case assign=>
  intro l x W bt hK;unfold Zx;gi_wp2;exact hK
 case body=>
  rintro l2 b aG x P bA bx ⟨r,hr⟩ ⟨B,a,S,T,h4,h5,h6,h7⟩ aw;have hx:=HR.2 x (aw.subset ov);have hb:=gE_lo b (λy q=>HR.2 y (aw.subset (by simp[q])));obtain⟨fn,a1,assign,body,q,hR⟩:=YieldAt.anyN (m':=n-1-1-1) (zb HY (gE b).1 B ((gE b).2,x.1-1) P h4 (gE_step aw));simp only[Zx] at q;obtain⟨c1,c2,f2⟩:=h5;have H5:H (Yx P W.heap.size j (gE b).2):=⟨c1,c2,f2⟩
  obtain⟨xa,xc⟩:=x;unfold okS at hx;simp only[] at hx q ⊢;generalize aW:(gE b).2=gb at *;gi_wp2;refine⟨λh=>by simp[Fence.wide] at h,RoundIn.mono hR ?_⟩;rintro e V2 ⟨rfl,s,ac,t,c,aZ⟩;have be:=H5.keep c S T;obtain⟨e1,e2,g2⟩:=be;have bs:H (Yx V2 W.heap.size j gb):=⟨e1,e2,g2⟩
  have n0:¬s W.heap.size:=λh=>by rcases t _ h with h|h;exact S h;omega
  have n1:¬s (W.heap.size+1):=λh=>by rcases t _ h with h|h;exact T h;omega
  have an:=ze ac;have a8:=ze t;have a6:=ze c;have bD:=c.size;clear ac t c q hR;gi_wp2;refine⟨λk=>s k\/k=W.heap.size\/k=W.heap.size+1,⟨s,λ_=>Iff.rfl,n0,n1,?_,?_,by simp[World.setCell];omega,trivial⟩,?_,?_,?_⟩;rw[Qd,aW];exact zb HJ _ _ _ _ an ((zf.refl _ _).setCell (p:=⟨W.heap.size+1,0,U⟩) (Q ⟨ov,n1⟩) _);rw[Qd];exact⟨(zgI _ _ _ _ ov).trans e1,zgL _ _ _ e2,(zk _ _ _ _).trans g2⟩;rintro k (h|h|h);rcases zb a8 k h with h|h;exact Q ((a k).2 (Q h));exact O h;exact Q ((a k).2 (O (Q h)));exact Q ((a k).2 (O (O h)));exact(a6.mono (λk _ h=>(a k).2 (Q h))).setCell (p:=⟨W.heap.size+1,0,U⟩) (Q ((a _).2 (O (O rfl)))) _;intro k m;simp only[World.setCell,Array.size_modify];rcases m with h|h|h;exact aZ k h;omega;omega
 case done=>
  rintro u aG P bw bh ⟨B,a,S,T,h4,h5,h6,h7⟩ hK;have hb:=gE_lo l HR.2;obtain⟨fn,a1,assign,body,q,hR⟩:=YieldAt.anyN (m':=n-1) (zb HY (gE l).1 B ((gE l).2,1114111) P h4 (by rw[zcS];exact List.prefix_refl _));simp only[Zx] at q;obtain⟨c1,c2,f2⟩:=h5;have HE:=ze (zcS l);generalize aW:(gE l).2=gb at *;gi_wp2;refine⟨λh=>by simp[Fence.wide] at h,RoundIn.mono hR ?_⟩;rintro e V2 ⟨rfl,s,ac,t,c,aZ⟩;have an:=ze ac;have bf:u<P.heap.size:=(zgM.1 hK).1;have aU:¬B u:=λh=>bh ((a u).2 (Q h));have bg:=(c.block u bf aU).trans hK;have bo:¬s u:=λh=>by rcases t _ h with h|h;exact aU h;omega
  clear ac t c q hR;gi_wp2;refine⟨ov,Q ⟨_,_,rfl,run_takeDeferred bg,?_⟩⟩;refine⟨_,results_none rfl _ _ _,⟨_,rfl⟩,s,?_⟩;rw[<-zb HE];exact zb HJ _ _ _ _ an ((zf.refl _ _).putObj u _ (Q ⟨oa,bo⟩))
end
section
open Go.RowKit
set_option maxHeartbeats 1000000
def yw (l:List (Int×Int)):List Y:=l.flatMap λx=>[M Ug x.1,M Ug x.2]
theorem jl:yw (l++m)=yw l++yw m:=by simp[yw]
theorem Ju:(yw l).length=l.length*2:=by
 induction l with
 |nil=>rfl
 |cons x l a=>simp[yw] at a ⊢;omega
theorem XO:∀(l:List (Int×Int)) (j:Nat) (p:Int×Int),l[j]?=I p->(yw l)[j*2]?=I (M Ug p.1)/\(yw l)[j*2+1]?=I (M Ug p.2)
 | [],j,p,h=>by simp at h
 |x :: l,0,p,h=>by simp at h;subst h;simp[yw]
 |x :: l,j+1,p,h=>by
  have:=XO l j p (by simpa using h);rw[show(j+1)*2=j*2+2 by omega];simpa [yw] using this
theorem Tryz.infoSpan:(prog.info? 265).map (λi=>(i.zero,i.size,i.bytes))=I (I (Uf #[M Ug 0,M Ug 0]),2,8):=om
variable {base w}
theorem Kk {sv:Y}{l:List (Int×Int)}(h:w.ownsRow base 265 2 sv l.length (yw l)):yO w (λg=>sv.ownBlock=I g) sv l:=by
 have n:=zh h;have a:=@World.ownsRow.cells w base 265 2 sv l.length (yw l) h;rcases h.2 with⟨rfl,f⟩|⟨g,d,r,rfl,s,t,o,_⟩;exact Q ⟨rfl,zgY f⟩;exact O ⟨g,d,rfl,rfl,o,(n g rfl).2,λj p m=>by
  obtain⟨i,k⟩:=XO l j p m;have e:∀q,(⟨g,0,U⟩:Addr).add q=⟨g,q,U⟩:=λq=>(by unfold Addr.add;split<;>simp_all);have b:=a (g:=g) rfl _ _ i;have c:=a (g:=g) rfl _ _ k;rw[e] at b c;exact⟨b,c⟩⟩
structure Grew (base:Nat)(w w':E)(sv sv':Y)(l':List (Int×Int)):Prop where
 row:w'.ownsRow base 265 2 sv' l'.length (yw l')
 only:zf (λk=>sv.ownBlock=I k) w w'
 sep:∀k,sv'.ownBlock=I k->sv.ownBlock=I k\/w.heap.size<=k
variable (base)
theorem Yy (b:Int)(w:E)(h:w.ownsRow base 265 2 sv l.length (yw l))(F:base<=w.heap.size)(L:l.length<=10000000):Uh V 193 #[sv,M Ug a,M Ug b] w λe z=>∃sv',e=R sv'/\Grew base w z sv sv' (l++if a<=b then [(a,b)] else []):=by
 obtain⟨s,o,p,q,r⟩:=info_parts Tryz.infoSpan;obtain⟨t,v,u,rfl⟩:=zr h;have d:=ze h;clear h;by_cases f:a<=b
 .simp only[f,if_true];have n:decide (b<a)=Z:=by simp;omega
  go_enter func193,ntmps193;go_wp2_with(at_builtin;refine yq _ rfl _ _ 159 rfl base 265 s (Uf #[M Ug 0,M Ug 0]) 2 8 underlying159 o p q r rfl od _ _ (yw l) rfl (zgO d _) _ 1 1 [M Ug a,M Ug b] rfl rfl (cell_two_new _ _ _ _) (λx m=>by simp at m;rcases m with rfl|rfl<;>rfl) (by unfold maxLen;omega) oa ou ?_;intro y B i g j;have HG:H (Grew base w B (K t v u) y (l++[(a,b)])):=⟨(by rw[zgK,jl];exact i),((zf.refl _ _).alloc _).grown g (λk c=>Q c),(λk c=>(j k c).imp_right (λh=>by simp at h;omega))⟩;clear i g j);go_ret;exact⟨_,rfl,HG⟩
 simp only[f,if_false,zhc];have n:b<a:=by omega
 go_enter func193,ntmps193;go_wp2_with fail;go_ret;exact⟨_,rfl,d,zf.refl _ _,λk c=>Q c⟩
set_option maxHeartbeats 2000000
set_option maxRecDepth 1000000
theorem Zh {g off:Nat}{c:Array Y}{e:TypeId}{a:Nat×Nat}(u:Y)(h:w.heap[g]?=I (Ub c e a)):(w.setCell ⟨g,off,U⟩ u).heap[g]?=I (Ub (c.setIfInBounds off u) e a):=by rw[Go.Sort.setCell_eq];simp[Go.Sort.mapBlock,Array.getElem?_modify,h,Go.Sort.onCells]
theorem wR {base g n cap size i:Nat}{e:TypeId}{xs:List Y}(h:w.ownsRow base e size (K (I ⟨g,0,U⟩) n cap) n xs)(u:Y):(w.setCell ⟨g,i,U⟩ u).ownsRow base e size (K (I ⟨g,0,U⟩) n cap) n (xs.set i u):=by rcases h.2 with⟨a,_⟩|⟨o,l,m,a,b,c,d,f,j,k⟩;cases a;cases a;exact⟨by rw[zhw];exact h.1,O ⟨g,cap,_,rfl,b,Zh u c,d,f,by simpa using j,by rw[Array.toList_setIfInBounds,List.take_set,k]⟩⟩
theorem zaR (a:List (Int×Int))(l:Int×Int)(z:Int):(yw (a++[l])).set (a.length*2+1) (M Ug z)=yw (a++[(l.1,z)]):=by rw[jl,jl,ziv _ _ (by rw[Ju];omega),Ju,show a.length*2+1-a.length*2=1 by omega];simp[yw]
theorem Cs.jn_snoc (x:Int×Int):jn [] (l++[x])=jn1 (jn [] l) x:=by simp[jn]
theorem Cs.jn1_len:(jn1 acc x).length<=acc.length+1:=by rcases Cs.Ze acc with rfl|⟨b,l,rfl⟩;simp[jn1];by_cases a:x.1<=l.2+1;rw[J5 a];simp;rw[J6 a];simp
variable {acc x}
theorem Cs.jn1_bd (h:∀y∈acc,0<=y.2/\y.2<=1114111)(c:0<=x.2/\x.2<=1114111):∀y∈jn1 acc x,0<=y.2/\y.2<=1114111:=by
 rcases Cs.Ze acc with rfl|⟨e,l,rfl⟩;intro y a;simp[jn1] at a;subst a;exact c;have d:=h l ov;by_cases b:x.1<=l.2+1
 .rw[J5 b];intro y a;rcases zgU.1 a with a|a;exact h y (zh1 _ a)
  grind
 rw[J6 b];intro y a;rcases zgU.1 a with a|a;exact h y a;obtain rfl:=zgT.1 a;exact c
theorem zd6 (a:W.heap.size=n)(x y:Y)(T:TypeId):∀j u,[x,y][j]?=I u->(W.alloc (Ub #[x,y] T)).cell? ((⟨n,0,U⟩:Addr).add j)=I u:=by subst a;exact cell_two_new _ _ _ _
theorem zcT (A:Nat->Prop)(w:E)(h:yO w A sv l)(aC:∀x∈l,okS x)(hl:l.length<=10000000):Uh V 197 #[sv] w λe w'=>∃sv',e=R sv'/\w'.ownsRow w.heap.size 265 2 sv' (jn [] l).length (yw (jn [] l))/\ziE w w':=by
 obtain⟨i0,hi,aE,aF,aG⟩:=info_parts Tryz.infoSpan;obtain⟨pa,pn,pc,rfl⟩:∃pa pn pc,sv=K pa pn pc:=by rcases h with⟨a,_⟩|⟨g,ar,a,_⟩<;>exact⟨_,_,_,a⟩
 have aU:pn=l.length:=by rcases h with⟨a,h2⟩|⟨g,ar,a,_⟩<;>simp at a<;>simp[*]
 subst aU;have HC:H (l.length≠0->∃g,pa=I ⟨g,0,U⟩/\l.length<=pc/\∀(j:Nat) p,l[j]?=I p->w.cell? ⟨g,j*2,U⟩=I (M Ug p.1)/\w.cell? ⟨g,j*2+1,U⟩=I (M Ug p.2)):=by intro aB;rcases h with⟨_,h2⟩|⟨g,ar,a,hA,h2,h3,N⟩;rw[h2] at aB;exact absurd rfl aB;simp at a;exact⟨g,a.1,oa,N⟩
 have aO:=ze aC;clear h aC;go_enter func197,ntmps197;go_wp2_with fail;go_loopw[3,9] (λvs vi wr=>∃i:Nat,vi=M J i/\i<=l.length/\(jn [] (l.take i)).length<=i/\H (wr.ownsRow w.heap.size 265 2 vs (jn [] (l.take i)).length (yw (jn [] (l.take i))))/\H (∀y∈jn [] (l.take i),0<=y.2/\y.2<=1114111)/\H (ziE w wr)) (λ_ vi _=>l.length-(intOf vi).toNat);exact⟨0,rfl,oa,zgH _,zgP _ _ _ _,(λy hy=>by simp[jn] at hy),zf.refl _ _⟩;obtain⟨i,rfl,a8,aS,d,HB,q⟩:=hrel;by_cases ag:i<l.length
 .obtain⟨g,rfl,ba,ax⟩:=zb HC oa;have ay:l[i]?=I l[i]:=zgE ag;have ai:=zb aO l[i] (zg5 ag);obtain⟨d1,d2⟩:=ax _ _ ay;have c1:=zg q _ _ d1 id;have c2:=zg q _ _ d2 id;clear d1 d2 ax ay;have o:H (jn [] (l.take (i+1))=jn1 (jn [] (l.take i)) l[i]):=(by rw[<-Zw l i ag,jn_snoc];rfl);generalize l[i]=x at *;generalize jn [] (l.take i)=acc at *;obtain⟨m,c⟩:=x;unfold okS at ai;simp only[] at ai c1 c2;have S:=ze (jn1_len acc (m,c));have z:=ze (jn1_bd (x:=(m,c)) HB ⟨by simp only;omega,ai.2.2⟩);have r:=ze ((zf.refl (λ_=>False) wr).alloc (Ub #[M Ug m,M Ug c] 265));obtain⟨sa,sn,sc,rfl⟩:=zr d;rcases Cs.Ze acc with rfl|⟨b,y,rfl⟩
  ·(have aV:sn=0:=(by rcases(zb d).2 with⟨a,_⟩|⟨L,B,F,a,_⟩<;>cases a<;>rfl);subst aV;rw[zeC] at o S z;go_wp2_with fail;go_big_quiet(fail);go_wp2_with(at_builtin;refine zb ?_);refine ze ?_;refine yq _ rfl _ _ 159 rfl w.heap.size 265 i0 (Uf #[M Ug 0,M Ug 0]) 2 8 underlying159 hi aE aF aG rfl od _ _ (yw []) rfl (zl d ((((zf.refl (λ_=>False) wr).alloc _).drewN _).alloc _) (λ_ _ f=>f)) ⟨wr.heap.size+1,0,U⟩ 1 1 [M Ug m,M Ug c] rfl rfl (zd6 _ (wr.heap.size+1) ov _ _ _) (λx u=>by simp at u;rcases u with rfl|rfl<;>rfl) (by unfold maxLen;simp<;>omega) (by simp<;>omega) (by simp;have:=q.size;omega) ?_;intro v' v t s ah;have X:H (v.ownsRow w.heap.size 265 2 v' ([]++[(m,c)]).length (yw ([]++[(m,c)]))):=by show World.ownsRow _ _ _ _ _ _ _;rw[zgK,jl];exact t);have T:H (ziE w v):=(((q.alloc _).drewN _).alloc _).grown s (λk hk=>O (zh d k hk).1);clear t s ah;go_wp2_with fail;go_roundw
   .exact⟨i+1,by go_num,oa,(by rw[zb o];have:=zb S;skip;omega),(by rw[zb o];skip;exact X),(by rw[zb o];exact z),T⟩
   simp[intOf];omega
  (have aW:sn=b.length+1:=(by rcases(zb d).2 with⟨a,h0⟩|⟨L,B,F,a,_⟩<;>cases a<;>simp_all);subst aW;have aq:H (wr.ownsRow w.heap.size 265 2 (K sa (b.length+1) sc) (b.length+1) (yw (b++[y]))):=(by have h9:=zb d;rw[zgK] at h9;exact h9);clear d;have d:=aq;clear aq;have bc:=zb HB y ov;have bb:wrap32 (y.2+1)=y.2+1:=(by unfold wrap32;omega);obtain⟨n,rfl⟩:∃n,sa=I ⟨n,0,U⟩:=by rcases(zb d).2 with⟨a,h0⟩|⟨L,B,F,a,_⟩;cases a;cases a;exact⟨_,rfl⟩);have aD:=Kk (l:=b++[y]) (by rw[zgK];exact d);obtain⟨k1,k2⟩:wr.cell? ⟨n,b.length*2+1,U⟩=I (M Ug y.2)/\n<wr.heap.size:=by
   rcases aD with⟨a,_⟩|⟨g3,a2,a,_,_,h3,N⟩;simp at a
   grind
  ((have m1:=r.cell (p:=⟨n,b.length*2+1,U⟩) k2 id;rw[k1] at m1;have f1:(wr.alloc (Ub #[M Ug m,M Ug c] 265)).frozen? ⟨n,b.length*2+1,U⟩=Z:=by rw[(zb r).frozen (p:=⟨n,b.length*2+1,U⟩) k2 id];rcases(zb d).2 with⟨a,h0⟩|⟨L,B,F,a,_,h3,_⟩;cases a;cases a;simp[World.frozen?,h3]);have a5:b.length+1<=i:=(by simpa using aS);have a6:b.length+1<=sc:=by rcases(zb d).2 with⟨a,h0⟩|⟨L,B,F,a,_,_,N,_⟩;cases a;cases a;simpa using N);clear aD;by_cases hc:m<=y.2+1
  ·((go_wp2_with fail;go_big_quiet(fail);have HQ:=ze (q.trans (r.drewN nq));go_wp2_with fail;go_region;have aA:max y.2 c=if y.2<c then c else y.2:=by split<;>omega);have ab:=ze (wR (i:=b.length*2+1) (zl d (r.drewN (nq+1)) (λ_ _ f=>f)) (M Ug (max y.2 c)));rw[zaR] at ab;have W:=ze ((q.trans (r.drewN (nq+1))).setCell (p:=⟨n,b.length*2+1,U⟩) (O (zh d n rfl).1) (M Ug (max y.2 c)));have P:H (jn1 (b++[y]) (m,c)=b++[(y.1,max y.2 c)]):=J5 (by simpa using hc);have aN:H ((jn1 (b++[y]) (m,c)).length<=i+1):=(by rw[zb P];show _<=_;simp;omega);have aa:H ((((wr.alloc (Ub #[M Ug m,M Ug c] 265)).drewN (nq+1)).setCell ⟨n,b.length*2+1,U⟩ (M Ug (max y.2 c))).ownsRow w.heap.size 265 2 (K (I ⟨n,0,U⟩) (b.length+1) sc) (jn1 (b++[y]) (m,c)).length (yw (jn1 (b++[y]) (m,c)))):=by show World.ownsRow _ _ _ _ _ _ _;rw[zb P,zgK];exact ab);clear ab P;have aP:=W;have aQ:=aa;rw[aA] at W aa;clear aA;go_wp2_with fail;go_roundw
   .exact⟨i+1,by go_num,oa,(by rw[zb o];exact aN),(by rw[zb o];first|exact aa|exact aQ),(by rw[zb o];exact z),(by first|exact W|exact aP)⟩
   simp[intOf];omega
  (have a7:decide (m<=y.2+1)=Z:=ou;go_wp2_with fail;go_big_quiet(fail);go_wp2_with(at_builtin;refine zb ?_);refine ze ?_;refine yq _ rfl _ _ 159 rfl w.heap.size 265 i0 (Uf #[M Ug 0,M Ug 0]) 2 8 underlying159 hi aE aF aG rfl od _ _ (yw (b++[y])) rfl (zl d ((((zf.refl (λ_=>False) wr).alloc _).drewN _).alloc _) (λ_ _ f=>f)) ⟨wr.heap.size+1,0,U⟩ 1 1 [M Ug m,M Ug c] rfl rfl (zd6 _ (wr.heap.size+1) ov _ _ _) (λx u=>by simp at u;rcases u with rfl|rfl<;>rfl) (by unfold maxLen;simp<;>omega) oa (by simp;have:=q.size;omega) ?_;intro v' v t s ah;have X:H (v.ownsRow w.heap.size 265 2 v' ((b++[y])++[(m,c)]).length (yw ((b++[y])++[(m,c)]))):=by show World.ownsRow _ _ _ _ _ _ _;rw[zgK,jl,zgK];exact t);have T:H (ziE w v):=(((q.alloc _).drewN _).alloc _).grown s (λk hk=>O (zh d k hk).1);clear t s ah;go_wp2_with fail;go_roundw
  .exact⟨i+1,by go_num,oa,(by rw[zb o];have:=zb S;skip;omega),(by rw[zb o];rw[J6 (by simp only;omega)];exact X),(by rw[zb o];exact z),T⟩
  simp[intOf];omega
 go_wp2_with fail;go_ret;obtain rfl:i=l.length:=oa;rw[zhG] at d;exact⟨_,rfl,d,q⟩
end
section
open Go.RowKit Go.Shelf Go.Lib Go.Sort
set_option maxHeartbeats 1000000
theorem zaS (x y:Int)(w:E):Uh V 196 #[M Ug x,M Ug y] w λe a=>e=R (M J (Lib.compareInt x y))/\a=w:=by
 unfold Lib.compareInt;by_cases b:x<y
 .simp only[b,if_true];go_enter func196,ntmps196;go_wp2_with(go_at_call 228;refine(Xs _ _).mono ?_;rintro e a ⟨rfl,rfl⟩);go_ret;exact⟨rfl,rfl⟩
 by_cases c:y<x
 .simp only[b,c,if_true,if_false];go_enter func196,ntmps196;go_wp2_with(go_at_call 228;refine(Xs _ _).mono ?_;rintro e a ⟨rfl,rfl⟩);go_ret;exact⟨rfl,rfl⟩
 simp only[b,c,if_false];go_enter func196,ntmps196;go_wp2_with(go_at_call 228;refine(Xs _ _).mono ?_;rintro e a ⟨rfl,rfl⟩);go_ret;exact⟨rfl,rfl⟩
def encL (x:Int×Int):List Y:=[M Ug x.1,M Ug x.2]
def cmpF (x y:Int×Int):Int:=Lib.compareInt x.1 y.1
theorem Xa:ltOf cmpF x y=decide (x.1<y.1):=by unfold ltOf cmpF Lib.compareInt;by_cases a:x.1<y.1;simp[a];by_cases b:y.1<x.1<;>simp[a,b]
theorem swo_cmpF:SWO (ltOf cmpF) where
 irrefl x:=by rw[Xa];simp
 trans x y z h1 h2:=by rw[Xa] at *;simp at *;omega
 ntrans x y z h1 h2:=by rw[Xa] at *;simp at *;omega
theorem zfa:Uh V 195 #[Uf #[M Ug x.1,M Ug x.2],Uf #[M Ug y.1,M Ug y.2]] W λe b=>e=R (M J (cmpF x y))/\∃q d,b=grow (W.drewN q) d:=by have a:=λc=>zaS x.1 y.1 c;unfold cmpF;generalize Lib.compareInt x.1 y.1=r at a ⊢;go_enter func195,ntmps195;go_wp2_with(go_at_call 196;refine(a _).mono ?_;rintro e b ⟨rfl,rfl⟩);go_ret;exact⟨rfl,0,_,by rw[alloc_eq_grow,alloc_eq_grow,grow_grow];rfl⟩
theorem zcU {w:E}{a n:Nat}{d:Array (Int×Int)}{os:Array Obj}(_f:a<w.heap.size):zf (zt a) w (sortWorldK encL 2 w a 0 n d os):=by refine⟨rfl,rfl,rfl,size_sortWorldK_c encL 2 w a 0 n d os,λk b c=>?_⟩;have e:k≠a:=c;unfold sortWorldK grow putRowK putRow mapBlock Sort.ahead;simp only[Array.getElem?_append,Array.size_modify,b,if_true,zic,Ne.symm e,if_false]
theorem zcV (g cap:Nat)(l:List (Int×Int))(w:E)(h:w.ownsRow base 265 2 (K (I ⟨g,0,U⟩) l.length cap) l.length (yw l))(hl:l.length<=10000000):Uh V 194 #[K (I ⟨g,0,U⟩) l.length cap,.func (.func 195) #[] #[]] w λe q=>e=R (Ue #[])/\∃o,o.Perm l/\o.Pairwise (λx y=>x.1<=y.1)/\yO q (zt g) (K (I ⟨g,0,U⟩) l.length cap) o/\zf (zt g) w q:=by
 have eg:∀r w,(callFunc 195 r).run V w=.ok (.enter 195 r) w:=enters_of func195 om rfl;have f:=(zh h g rfl).2;have ak:=Kk h;have ae:∀t,w.frozen? ⟨g,t,U⟩=Z:=λt=>by rcases h.2 with⟨b,_⟩|⟨g',am,ao,b,_,z,_⟩;cases b;cases b;simp[World.frozen?,z]
 obtain⟨au,ac⟩:l.length<=cap/\∀(j:Nat) p,l[j]?=I p->w.cell? ⟨g,j*2,U⟩=I (M Ug p.1)/\w.cell? ⟨g,j*2+1,U⟩=I (M Ug p.2):=by
  rcases ak with⟨b,_⟩|⟨g3,an,b,_,u,z,h4⟩;cases b
  grind
 have B:HoldsK encL 2 w g 0 l.toArray:=by
  intro t m;rw[size_flatK] at m;rw[get_flatK _ _ _ _ m];have L:t / 2<l.length:=by simp at m;omega
  have af:l[t / 2]?=I l[t / 2]:=zgE L;have d:l.toArray[t / 2]! = l[t / 2]:=by simp[L]
  obtain⟨c1,s⟩:=ac _ _ af;refine⟨?_,ae _⟩;rw[d,zg6];rcases Nat.mod_two_eq_zero_or_one t with e|e;rw[show t / 2*2=t by omega] at c1;rw[e];exact c1;rw[show t / 2*2+1=t by omega] at s;rw[e];exact s
 have ad:=AnyQ.slices_SortFunc Y5 2 Tryz.isAgg265 Tryz.sizeOf265 encL (λ_=>rfl) (λx v P=>by simp[encL] at P;rcases P with rfl|rfl<;>rfl) cmpF swo_cmpF 195 #[] g 0 cap l.toArray w eg (λ_ _ _ _ x y=>zfa x y _) B f ou;refine Calls.mono ad ?_;rintro e q ⟨rfl,a,n,W,c,hs,rfl⟩;refine⟨rfl,a.toList,?_,?_,?_,zcU f⟩
 .have b:=c.2.2;have u:=c.1;have X:(a.extract 0 l.toArray.size).toList=a.toList:=by rw[<-u];simp
  have e2:(l.toArray.extract 0 l.toArray.size).toList=l:=ov;rw[X,e2] at b;exact b
 .rw[zhE];intro i j hi k ai;have N:=c.1;have ah:i<a.size:=by simpa using hi
  have aj:j<a.size:=by simpa using k
  have:=hs i j (Nat.zero_le _) ai oa;rw[Xa,getElem!_pos a i ah,getElem!_pos a j aj] at this;simp at this;simpa using this
 have N:a.toList.length=l.length:=by have:=c.1;simpa using this
 have F:=holdsK_sortWorldK_c encL 2 w g 0 l.toArray a n W B f c.1;refine O ⟨g,cap,by rw[N],rfl,oa,zgJ f (size_sortWorldK_c encL 2 w g 0 n a W),λj p k=>?_⟩;have av:j<a.size:=by have:=(zgG.1 k).1;simpa using this
 have d:a[j]! = p:=by grind
 have S:=(F (j*2) (by rw[size_flatK];omega)).1;have T:=(F (j*2+1) (by rw[size_flatK];omega)).1;rw[get_flatK _ _ _ _ oa,zg6,show j*2 / 2=j by omega,show j*2 % 2=0 by omega,d] at S;rw[get_flatK _ _ _ _ oa,zg6,show(j*2+1) / 2=j by omega,show(j*2+1) % 2=1 by omega,d] at T;exact⟨S,T⟩
end
section
open Go.RowKit Go.Shelf
set_option maxHeartbeats 4000000
set_option maxRecDepth 1000000
attribute [local go_sem] Oper.semAt_some
theorem SeqO.later {α:Type}{F:Fence}{n:Nat}{P:Program}{gf:Nat}{lb:Array Y}{a:α->Array Y}{xs:List α}{D:Nat->Prop}{w w1:E}(h:SeqO F n P gf lb a xs D w)(o:ziE w w1):SeqO F n P gf lb a xs D w1:=
 λl b c W d=>h l b c W (o.trans d)
theorem Tryz.infoSet:(prog.info? 161).map (·.size)=I 1:=om
def OfI (w:E)(b:List (Int×Int))(O:Nat->Prop)(X:E):Prop:=
 ∃sv,X.cell? ⟨w.heap.size,0,U⟩=I sv/\X.frozen? ⟨w.heap.size,0,U⟩=Z/\X.ownsRow (w.heap.size+1) 265 2 sv (spl b).length (yw (spl b))/\(∀k,O k↔k=w.heap.size\/sv.ownBlock=I k)/\ziE w X/\w.heap.size+1<=X.heap.size
theorem OfI.keep {w:E}{b:List (Int×Int)}{O:Nat->Prop}{X X':E}(h:OfI w b O X)(k:zf (λk=>w.heap.size+1<=k/\¬O k) X X'):OfI w b O X':=by
 obtain⟨sv,i,l,m,c,a,n⟩:=h;have d:¬(w.heap.size+1<=w.heap.size/\¬O w.heap.size):=λh=>oa;exact⟨sv,(k.cell (p:=⟨w.heap.size,0,U⟩) (by show _<_;simp only;omega) d).trans i,(k.frozen (p:=⟨w.heap.size,0,U⟩) (by show _<_;simp only;omega) d).trans l,zl m k (λg o e=>e.2 ((c g).2 (.inr o))),c,
  ⟨k.os.trans a.os,k.tape.trans a.tape,k.output.trans a.output,zgN a.size k.size,λj q _=>(k.block j oa (λe=>oa)).trans (a.block j q id)⟩,zgN n k.size⟩
structure OfS (wA V0:E)(O:Nat->Prop)(X:E)(sv:Y)(l:List (Int×Int)):Prop where
 cell:X.cell? ⟨wA.heap.size,0,U⟩=I sv
 frozen:X.frozen? ⟨wA.heap.size,0,U⟩=Z
 row:X.ownsRow (wA.heap.size+1) 265 2 sv l.length (yw l)
 onlyA:ziE wA X
 onlyO:zf O V0 X
 sep:∀k,sv.ownBlock=I k->O k\/V0.heap.size<=k
 size:wA.heap.size+1<=X.heap.size
theorem OfS.grow {a i X c:E}{O:Nat->Prop}{sv n:Y}{l s:List (Int×Int)}(h:OfS a i O X sv l)(t:O a.heap.size)(g:Grew (a.heap.size+1) X c sv n s):OfS a i O (c.setCell ⟨a.heap.size,0,U⟩ n) n s:=by
 have o:sv.ownBlock≠I a.heap.size:=λe=>by have:=(zh h.row _ e).1;omega
 have q:a.heap.size<X.heap.size:=by have:=h.size;omega
 have c1:=(g.only.cell (p:=⟨a.heap.size,0,U⟩) q o).trans h.cell;refine⟨zgL _ _ _ c1,(zk _ _ _ _).trans ((g.only.frozen (p:=⟨a.heap.size,0,U⟩) q o).trans h.frozen),?_,?_,?_,?_,?_⟩;exact zl g.row ((zf.refl (λk=>k=a.heap.size) c).setCell (p:=⟨a.heap.size,0,U⟩) (Q rfl) _) (λk m e=>by have:=(zh g.row _ m).1;omega)
 .have u:ziE a c:=⟨g.only.os.trans h.onlyA.os,g.only.tape.trans h.onlyA.tape,g.only.output.trans h.onlyA.output,zgN h.onlyA.size g.only.size,λj d _=>(g.only.block j (zgJ d h.onlyA.size) (λe=>by have:=(zh h.row _ e).1;omega)).trans (h.onlyA.block j d id)⟩
  exact u.setCell (p:=⟨a.heap.size,0,U⟩) (.inr (zgH _)) _
 .have v:zf O i c:=⟨g.only.os.trans h.onlyO.os,g.only.tape.trans h.onlyO.tape,g.only.output.trans h.onlyO.output,zgN h.onlyO.size g.only.size,λj d r=>(g.only.block j (zgJ d h.onlyO.size) (λe=>by
   rcases h.sep _ e with b|b;exact r b;omega)).trans (h.onlyO.block j d r)⟩
  exact v.setCell (p:=⟨a.heap.size,0,U⟩) (Q t) _
 intro k m;rcases g.sep k m with b|b;exact h.sep k b;exact .inr (zgN h.onlyO.size b);have:=g.only.size;have:=h.size;simp[World.setCell];omega
theorem Cs.spl_snoc (x:Int×Int):spl (l++[x])=(spl l++clip 0 55295 x)++clip 57344 1114111 x:=by simp[spl,zcd]
theorem Cs.clip_len (b a:Int)(x:Int×Int):(clip b a x).length<=1:=by unfold clip;split<;>simp
theorem Cs.spl_len:(spl l).length<=2*l.length:=by refine Qc (P:=λl=>(spl l).length<=2*l.length) (by simp[spl]) (λl x c=>?_) l;have a:=clip_len 0 55295 x;have b:=clip_len 57344 1114111 x;rw[spl_snoc];simp only[zgK,zg7];omega
theorem zcW (h:w.ownsRow base 265 2 sv l.length (yw l))(o:l.length<=10000000):Uh V 194 #[sv,.func (.func 195) #[] #[]] w λe c=>e=R (Ue #[])/\∃b,b.Perm l/\b.Pairwise (λx y=>x.1<=y.1)/\yO c (λg=>sv.ownBlock=I g) sv b/\zf (λk=>sv.ownBlock=I k) w c:=by rcases h.2 with⟨rfl,f⟩|⟨g,d,q,rfl,_⟩;have p:l=[]:=zgY f;subst p;refine(AnyF.slices_SortFunc_none Y5 U 0 _ w).mono ?_;rintro e c ⟨rfl,rfl⟩;exact⟨rfl,[],List.Perm.refl _,List.Pairwise.nil,Q ⟨rfl,rfl⟩,zf.refl _ _⟩;refine(zcV base g d l w h o).mono ?_;rintro e c ⟨rfl,b,i,j,m,n⟩;exact⟨rfl,b,i,j,m.mono (λk _ a=>by unfold zt at a;subst a;rfl),n.mono (λk _ a=>by unfold zt at a;subst a;rfl)⟩
theorem zcX (gf:Nat)(lb:Array Y)(xs:List (Int×Int))(D:Nat->Prop)(w:E)(eg:∀args w,(callFunc gf args).run V w=.ok (.enter gf args) w)(aS:SeqO Fence.wide 8 V gf lb Zx xs D w)(hD:∀k,D k->k<w.heap.size)(hl:xs.length<=2000000):Uh V 166 #[.func (.func gf) #[] lb] w λe w'=>∃v,e=R v/\xu w' (λg=>w.heap.size<=g) v (λc=>Cs.isCh c && Eqv.zK xs c)/\ziE w w':=by
 have a3:=ze aS;have HD:=ze hD;clear aS hD;refine(callsIn_wide (n:=9)).1 ?_;refine callsIn_of_wp_marks func166 rfl trivial ?_ rfl;simp only[ntmps166,zhg,zg4,zhe,Nat.reduceAdd,Nat.reduceSub,zhA,zhz,zhK,zhC,zho,zhf];gi_wp2;obtain⟨a,ak⟩:∃a,a=w.alloc (Ub #[K U 0 0] 161):=⟨_,rfl⟩
 rw[<-ak];have aR:a.heap.size=w.heap.size+1:=by rw[ak];simp
 have T:H (ziE w a):=by rw[ak];exact(zf.refl _ _).alloc _
 have a1:H (a.heap[w.heap.size]?=I (Ub #[K U 0 0] 161 (0,0))):=by rw[ak];exact World.alloc_heap_new w _
 clear ak;rw[<-aR];have bB:w.heap.size+1<=a.heap.size:=oa;have bC:a.heap.size<=w.heap.size+1:=oa;clear aR;have d:H (ziE a (a.alloc (Ub #[K U 0 0] 159))):=(zf.refl _ _).alloc _;have bD:(a.alloc (Ub #[K U 0 0] 159)).heap.size=a.heap.size+1:=ov;have aY:H (OfI a [] (λk=>k=a.heap.size) (a.alloc (Ub #[K U 0 0] 159))):=⟨K U 0 0,zm a _ rfl _ _ 0 _ rfl,zu a _ rfl _ _ 0,zgP _ _ _ _,(λk=>by simp[Value.ownBlock]),d,oa⟩
 generalize a.alloc (Ub #[K U 0 0] 159)=w1 at *;refine Yw (F:=Fence.wide) rfl oa (gf:=gf) (lb:=lb) rfl trivial eg
  (a3.later (T.trans d)) (λ_=>rfl) (OfI a) (λk=>k=a.heap.size) (λk hk=>oa) (λk hk=>by have:=zb HD k hk;exact⟨oa,oa⟩) (λb ap X X' h k=>h.keep (k.mono (λj _ m=>⟨by have:=m.1;omega,m.2⟩))) aY
  (λx=>{ tmps:=#[.func (.func gf) #[] lb,undef,Ua (I ⟨w.heap.size,0,U⟩),Ua (I ⟨a.heap.size,0,U⟩),M Ug x.1,M Ug x.2,.func (.func gf) #[] lb,M Ug x.1,M Ug x.2,undef,undef,undef,undef,undef,undef,undef,undef,undef,undef,undef,undef,undef,undef,undef,undef,undef],defers:=[] }) ?assign ?body ?done
 case assign=>
  intro l x W bo hK;unfold Zx;gi_wp2;exact hK
 case body=>
  rintro l b ap x o bx bv ⟨r,hr⟩ ⟨sv,S,h2,y,h4,q,h6⟩ bh;obtain⟨pa,pn,pc,rfl⟩:=zr y;have bg:(spl b).length<=4000000:=by have:=spl_len b;have h9:=bh.length_le;simp at h9;omega
  have u:=ze y;clear y;obtain⟨xa,xb⟩:=x;simp only[];have S0:OfS a o ap o (K pa pn pc) (spl b):=⟨S,h2,u,q,zf.refl _ _,(λk hk=>Q ((h4 k).2 (O hk))),h6⟩
  have aD:ap a.heap.size:=(h4 _).2 (Q rfl);have a2:=ze S0;clear S0;have c1:=clip_len 0 55295 (xa,xb);have c2:=clip_len 57344 1114111 (xa,xb);gi_wp2;refine⟨trivial,(CallsIn.inRound l (callsIn_wide.2 (Yy (a.heap.size+1) (K pa pn pc) (spl b) (max xa 0) (min xb 55295) o u h6 oa))).mono ?_⟩;rintro e P ⟨bI,rfl,ah⟩;obtain⟨al,an,am,rfl⟩:=zr ah.row;have aK:Grew (a.heap.size+1) o P (K pa pn pc) (K al an am) (spl b++clip 0 55295 (xa,xb)):=ah;have S1:=a2.grow aD aK;have k1:=S1.cell;have k2:=S1.frozen;have ao:=ze S1;have m1:=(ah.only.cell (p:=⟨a.heap.size,0,U⟩) (zgF o _ S) (λe=>by have:=(zh u _ e).1;simp at this;omega)).trans S;have m2:=(ah.only.frozen (p:=⟨a.heap.size,0,U⟩) (zgF o _ S) (λe=>by have:=(zh u _ e).1;simp at this;omega)).trans h2;clear ah aK S1;gi_wp2;have bj:=ao.size;refine⟨trivial,(CallsIn.inRound l (callsIn_wide.2 (Yy (a.heap.size+1) (K al an am) _ (max xa 57344) (min xb 1114111) _ ao.row bj (by simp only[zgK];omega)))).mono ?_⟩;rintro e t ⟨bn,rfl,ai⟩;obtain⟨z,N,L,rfl⟩:=zr ai.row;have aL:Grew (a.heap.size+1) (P.setCell ⟨a.heap.size,0,U⟩ (K al an am)) t (K al an am) (K z N L) (spl (b++[(xa,xb)])):=by rw[spl_snoc];exact ai
  have S2:=ao.grow aD aL;have s:=ze S2;have aN:(K al an am).ownBlock≠I a.heap.size:=λe=>by have:=(zh ao.row _ e).1;omega
  have n1:=(ai.only.cell (p:=⟨a.heap.size,0,U⟩) (zgF _ _ k1) aN).trans k1;have n2:=(ai.only.frozen (p:=⟨a.heap.size,0,U⟩) (zgF _ _ k1) aN).trans k2;clear ai aL S2;gi_wp2;refine⟨λk=>k=a.heap.size\/(K z N L).ownBlock=I k,⟨_,s.cell,s.frozen,s.row,λ_=>Iff.rfl,s.onlyA,s.size⟩,?_,s.onlyO,?_⟩;rintro k (h|h);exact Q (by rw[h];exact aD);exact s.sep k h;rintro k (h|h);have:=s.size;omega;exact(zh s.row k h).2
 case done=>
  rintro i ap o bu a9 ⟨sv,S,h2,y,h4,q,h6⟩ hK;obtain⟨pa,pn,pc,rfl⟩:=zr y;have bg:(spl xs).length<=4000000:=by have:=spl_len xs;omega
  have a4:=ze (zcW _ _ _ o y oa);have u:=ze y;clear y
  gi_wp2_with (refine⟨trivial,?_⟩;gi_at_call 194;refine(callsIn_wide.2 a4).mono ?_;rintro e P ⟨rfl,l',m,hs,aP,aC⟩;have bf:(K pa pn pc).ownBlock≠I a.heap.size:=(λe=>by have:=(zh u _ e).1;omega);have m1:=(aC.cell (p:=⟨a.heap.size,0,U⟩) (zgF _ _ S) bf).trans S;have aG:=ze (of_ok m hs);have aZ:=ze (zcT _ l' _ P aP (λx hx=>spl_ok xs x (m.mem_iff.1 hx)) (by have:=m.length_eq;omega));have d:=ze aC;clear aP aC m hs)
  refine⟨trivial,(callsIn_wide.2 aZ).mono ?_⟩;rintro e t ⟨bn,rfl,aj,av⟩;obtain⟨z,N,L,rfl⟩:=zr aj;have be:(K pa pn pc).ownBlock≠I w.heap.size:=λe=>by have:=(zh u _ e).1;omega
  have q1:=(q.block w.heap.size oa id).trans a1;have bb:w.heap.size<o.heap.size:=by have:=q.size;omega
  have p1:=(d.block w.heap.size bb be).trans q1;have ba:w.heap.size<P.heap.size:=by have:=d.size;omega
  have ay:=ze ((av.block w.heap.size ba id).trans p1);have r1:t.cell? ⟨w.heap.size,0,U⟩=I (K U 0 0):=by unfold World.cell?;rw[zb ay];rfl
  have r2:t.frozen? ⟨w.heap.size,0,U⟩=Z:=by unfold World.frozen?;rw[zb ay];rfl
  clear q1 p1;have aB:i<o.heap.size:=(zgM.1 hK).1;have a7:=(d.block i aB (λe=>a9 ((h4 i).2 (O e)))).trans hK;have aM:=(av.block i (zgJ aB d.size) id).trans a7;have bs:a.heap.size<=i:=oa;have bE:=d.size;have aa:H (ziE a t):=zf.trans ⟨d.os.trans q.os,d.tape.trans q.tape,d.output.trans q.output,zgN q.size d.size,λj hj _=>(d.block j (zgJ hj q.size) (λe=>by have:=(zh u _ e).1;omega)).trans (q.block j hj id)⟩ av;have bi:=λg=>zh aj g;have a0:=ze (Kk aj);have bA:=ze aj;clear aj av;gi_wp2;have bc:=Zh (off:=0) (K z N L) ay;have aO:i≠w.heap.size:=oa;have a8:=(((zf.refl (λk=>k=w.heap.size) t).setCell (p:=⟨w.heap.size,0,U⟩) (Q rfl) (K z N L)).block i (zgM.1 aM).1 aO).trans aM;refine⟨ov,Q ⟨_,_,rfl,run_takeDeferred a8,?_⟩⟩;refine⟨_,results_cell_row rfl _ _ w.heap.size 161 #[K z N L] (0,0) _ rfl ((World.putObj_heap_other (Ne.symm aO)).trans bc) underlying161 rfl Tryz.infoSet,?_⟩;have hf:zf (λk=>k=w.heap.size\/k=i) t ((t.setCell ⟨w.heap.size,0,U⟩ (K z N L)).putObj i (.deferred U)):=((zf.refl (λk=>k=w.heap.size\/k=i) t).setCell (p:=⟨w.heap.size,0,U⟩) (Q (Q rfl)) _).putObj i _ (Q (O rfl));have bt:i<P.heap.size:=zgJ aB d.size;refine⟨_,rfl,⟨K z N L,jn [] l',rfl,?_,aG.1,aG.2⟩,?_⟩;refine(a0.mono (B:=λg=>P.heap.size<=g) (λg _ hg=>(bi g hg).1)).keep hf (λg hg m=>?_)|>.mono (λg _ hg=>oa);rcases m with h|h<;>omega;exact⟨(hf.os.trans aa.os).trans T.os,(hf.tape.trans aa.tape).trans T.tape,(hf.output.trans aa.output).trans T.output,zgN T.size (zgN aa.size hf.size),λj hj _=>
   (hf.block j (by have:=aa.size;omega) (λm=>by rcases m with h|h<;>omega)).trans ((aa.block j oa id).trans (T.block j hj id))⟩
theorem xu.slice {w:E}{A:Nat->Prop}{v:Y}{S:Int->Bool}(h:xu w A v S):∃c e d,v=Uf #[K c e d]:=by obtain⟨sv,i,rfl,b,_⟩:=h;rcases b with⟨a,_⟩|⟨g,f,a,_⟩;exact⟨_,_,_,by rw[a]⟩;exact⟨_,_,_,by rw[a]⟩
theorem xu.congr {w:E}{A:Nat->Prop}{v:Y}{S T:Int->Bool}(h:xu w A v S)(e:∀c,S c=T c):xu w A v T:=by obtain⟨sv,g,a,b,d,f⟩:=h;exact⟨sv,g,a,b,d,λc=>(f c).trans (e c)⟩
def yp (w a:E)(v:Y)(S:Int->Bool):Prop:=xu a (λg=>w.heap.size<=g) v S/\ziE w a
theorem yp.congr {w a:E}{v:Y}{S T:Int->Bool}(h:yp w a v S)(e:∀c,S c=T c):yp w a v T:=⟨h.1.congr e,h.2⟩
theorem yp.later {w w1 a:E}{v:Y}{S:Int->Bool}(h:yp w1 a v S)(o:ziE w w1):yp w a v S:=⟨h.1.mono (λ_g _ b=>zgN o.size b),o.trans h.2⟩
theorem xQ {w a:E}{z sv:Y}{S:Int->Bool}(h:yp (w.alloc (Ub #[z] 161)) a (Uf #[sv]) S):yp w (a.setCell ⟨w.heap.size,0,U⟩ sv) (Uf #[sv]) S/\(a.setCell ⟨w.heap.size,0,U⟩ sv).heap[w.heap.size]?=I (Ub #[sv] 161 (0,0)):=by have c:a.heap[w.heap.size]?=I (Ub #[z] 161 (0,0)):=(h.2.block w.heap.size ov id).trans (World.alloc_heap_new w _);have o:zf (λk=>k=w.heap.size) a (a.setCell ⟨w.heap.size,0,U⟩ sv):=(zf.refl (λk=>k=w.heap.size) a).setCell (p:=⟨w.heap.size,0,U⟩) (Q rfl) _;refine⟨⟨(h.1.keep o (λg b e=>by simp at b;omega)).mono (λg _ b=>by simp at b;omega),?_⟩,by rw[Zh sv c];rfl⟩;have d:ziE w a:=((zf.refl _ w).alloc _).trans h.2;exact d.setCell (p:=⟨w.heap.size,0,U⟩) (O (zgH _)) _
theorem xk {w a:E}{z:Y}(h:ziE (w.alloc (Ub #[z] 161)) a):a.cell? ⟨w.heap.size,0,U⟩=I z/\a.frozen? ⟨w.heap.size,0,U⟩=Z:=by have b:a.heap[w.heap.size]?=I (Ub #[z] 161 (0,0)):=(h.block w.heap.size ov id).trans (World.alloc_heap_new w _);exact⟨by simp[World.cell?,b],by simp[World.frozen?,b]⟩
theorem wh (A:Nat->Prop)(w:E)(h:yO w A sv l)(hl:l.length<=1000000):Uh V 122 #[sv] w λe W=>∃v,e=R v/\yp w W v (λc=>Cs.isCh c && Eqv.zK l c):=by
 have S:∃t x u,sv=K t x u:=by rcases h with⟨a,_⟩|⟨g,aa,a,_⟩<;>exact⟨_,_,_,a⟩
 have L:∀q w,(callFunc 198 q).run V w=.ok (.enter 198 q) w:=enters_of func198 om rfl;obtain⟨t,x,u,rfl⟩:=S;have F:=ze (h.keep ((zf.refl (λ_=>False) w).alloc (Ub #[K U 0 0] 161)) (λ_ _ f=>f));clear h;go_enter func122,ntmps122;go_wp2_with fail;generalize T:w.alloc (Ub #[K U 0 0] 161)=d at *;refine(VK _ d ⟨_,_,_,rfl⟩).mono ?_;rintro e b ⟨v,rfl,s,rfl,a,i,j⟩;go_wp2_with fail;refine(zcX _ _ l (λk=>k=s\/((A k/\k<d.heap.size)/\k<b.heap.size)) b L (ZQ _ l (λk=>A k/\k<d.heap.size) s b ((F.mono (λg P N=>⟨N,P⟩)).keep j (λ_ _ f=>f)) i oa 8 oa) (λk n=>by
  rcases n with rfl|n;exact zgF b _ i;exact n.2) oa).mono ?_
 rintro e X ⟨v,rfl,o,r⟩;obtain⟨y,B,z,rfl⟩:=o.slice;have m:yp d X (Uf #[K y B z]) (λc=>Cs.isCh c && Eqv.zK l c):=yp.later ⟨o,r⟩ j;clear o r j i a;subst T;obtain⟨k1,k2⟩:=xk m.2;have p:=ze (xQ m);clear m;go_wp2_with fail;refine bodyPost_ret (results_cell_row rfl _ _ w.heap.size 161 #[K y B z] (0,0) _ rfl p.2 underlying161 rfl Tryz.infoSet) rfl ?_;exact⟨_,rfl,p.1⟩
theorem zcY (h:∃a c b,sv=K a c b):Uh V 189 #[Uf #[sv]] w λe g=>∃d,e=R (.func (.func 225) #[] #[Ua (I ⟨d,0,U⟩)])/\w.heap.size<=d/\g.cell? ⟨d,0,U⟩=I sv/\ziE w g:=by
 obtain⟨a,c,b,rfl⟩:=h;have f:H ((w.alloc (Ub #[K a c b] 161)).cell? ⟨w.heap.size,0,U⟩=I (K a c b)/\ziE w (w.alloc (Ub #[K a c b] 161))):=⟨zm w _ rfl _ _ 0 _ rfl,(zf.refl _ _).alloc _⟩
 go_enter func189,ntmps189;go_wp2_with fail;go_ret;exact⟨_,rfl,zgH _,f.1,f.2⟩
theorem Cs.gaps_len:∀(l:List (Int×Int)) (b:Int),(gaps b l).length=l.length+1
 | [],_=>rfl
 |x :: l,b=>by simp[gaps,gaps_len l]
theorem Qe (A:Nat->Prop)(w:E)(h:xu w A v S):Uh V 163 #[v] w λe w'=>∃X,e=R X/\yp w w' X (λc=>Cs.isCh c && !S c):=by
 have eg:∀B w,(callFunc 225 B).run V w=.ok (.enter 225 B) w:=enters_of func225 om rfl;obtain⟨sv,l,rfl,s,t,L⟩:=h;obtain⟨b,i,d,rfl⟩:∃b i d,sv=K b i d:=by rcases s with⟨a,_⟩|⟨g,an,a,_⟩<;>exact⟨_,_,_,a⟩
 have ac:H (ziE w ((w.alloc (Ub #[K b i d] 161)).alloc (Ub #[K U 0 0] 161))):=((zf.refl _ _).alloc _).alloc _;have z:=ze t;have HS:=ze L;have ao:=t.len;have aa:=ze (s.keep ac (λ_ _ f=>f));clear s t L;go_enter func163,ntmps163;go_wp2_with fail;generalize x:w.alloc (Ub #[K b i d] 161)=y at *;have ah:y.heap.size=w.heap.size+1:=by rw[<-x];simp
 have ab:H (ziE w y):=by rw[<-x];exact(zf.refl _ _).alloc _
 clear x;generalize ai:y.alloc (Ub #[K U 0 0] 161)=m at *;refine(zcY _ m ⟨_,_,_,rfl⟩).mono ?_;rintro e j ⟨N,rfl,a,o,p⟩;go_wp2_with fail;refine(zcX _ _ (gaps 0 l) (λk=>k=N\/((A k/\k<m.heap.size)/\k<j.heap.size)) j eg (gaps_seq _ l (λk=>A k/\k<m.heap.size) N j ((aa.mono (λg hg hA=>⟨hA,hg⟩)).keep p (λ_ _ f=>f)) z o 8 oa) (λk r=>by
  rcases r with rfl|r;exact zgF j _ o;exact r.2) (by have:=gaps_len l 0;omega)).mono ?_
 rintro e w2 ⟨v,rfl,u,F⟩;obtain⟨P,W,T,rfl⟩:=u.slice;have q:yp m w2 (Uf #[K P W T]) (λc=>Cs.isCh c && !S c):=(yp.later ⟨u,F⟩ p).congr (λc=>by rw[not_ok z,zb HS c]);clear u F p o a;subst ai;obtain⟨k1,k2⟩:=xk q.2;have n:=ze (xQ q);clear q;rw[ah] at k1 k2 n;go_wp2_with fail;refine bodyPost_ret (results_cell_row rfl _ _ (w.heap.size+1) 161 #[K P W T] (0,0) _ rfl n.2 underlying161 rfl Tryz.infoSet) rfl ?_;exact⟨_,rfl,n.1.later ab⟩
theorem Qf (a:W.heap.size=n)(l:List (Int×Int))(T:TypeId):yO (W.alloc (Ub (yw l).toArray T)) (λg=>g=n) (K (I ⟨n,0,U⟩) l.length l.length) l:=
 O ⟨n,l.length,rfl,rfl,zgH _,by simp;omega,λj p d=>by
  obtain⟨b,c⟩:=XO l j p d;exact⟨zm W n a _ _ _ _ (by simpa using b),zm W n a _ _ _ _ (by simpa using c)⟩⟩
theorem XA:Uh V 190 #[] w λe i=>∃v,e=R v/\yp w i v (zX 100):=by go_enter func190,ntmps190;go_wp2_with fail;have c:=wh (K (I ⟨w.heap.size+1,0,U⟩) 1 1) [(48,57)] (λg=>g=w.heap.size+1) _ (Qf (w.alloc (Ub #[K U 0 0] 161)) (w.heap.size+1) ov [(48,57)] 265) od;refine Calls.mono c ?_;clear c;rintro e l ⟨v,rfl,a⟩;obtain⟨d,h,f,rfl⟩:=a.1.slice;have a:=(yp.later a ((zf.refl (λ_=>False) (w.alloc (Ub #[K U 0 0] 161))).alloc _)).congr zeF;obtain⟨j,k⟩:=xk a.2;have b:=ze (xQ a);clear a;go_wp2_with fail;refine bodyPost_ret (results_cell_row rfl _ _ w.heap.size 161 #[K d h f] (0,0) _ rfl b.2 underlying161 rfl Tryz.infoSet) rfl ?_;exact⟨_,rfl,b.1⟩
theorem WN:Uh V 162 #[] w λe j=>∃v,e=R v/\yp w j v (λc=>Cs.isCh c && Eqv.zK lineL c):=by go_enter func162,ntmps162;go_wp2_with fail;have d:=wh (K (I ⟨w.heap.size+1,0,U⟩) 3 3) [(10,10),(13,13),(8232,8233)] (λg=>g=w.heap.size+1) _ (Qf (w.alloc (Ub #[K U 0 0] 161)) (w.heap.size+1) ov [(10,10),(13,13),(8232,8233)] 265) od;refine Calls.mono d ?_;clear d;rintro e m ⟨v,rfl,a⟩;obtain⟨f,i,h,rfl⟩:=a.1.slice;have a:=(yp.later a ((zf.refl (λ_=>False) (w.alloc (Ub #[K U 0 0] 161))).alloc _)).congr (λ_=>rfl);obtain⟨k,l⟩:=xk a.2;have b:=ze (xQ a);clear a;go_wp2_with fail;refine bodyPost_ret (results_cell_row rfl _ _ w.heap.size 161 #[K f i h] (0,0) _ rfl b.2 underlying161 rfl Tryz.infoSet) rfl ?_;exact⟨_,rfl,b.1⟩
theorem Yz:Uh V 70 #[] w λe i=>∃v,e=R v/\yp w i v (zX 119):=by go_enter func70,ntmps70;go_wp2_with fail;have c:=wh (K (I ⟨w.heap.size+1,0,U⟩) 4 4) [(97,122),(65,90),(48,57),(95,95)] (λg=>g=w.heap.size+1) _ (Qf (w.alloc (Ub #[K U 0 0] 161)) (w.heap.size+1) ov [(97,122),(65,90),(48,57),(95,95)] 265) od;refine Calls.mono c ?_;clear c;rintro e l ⟨v,rfl,a⟩;obtain⟨d,h,f,rfl⟩:=a.1.slice;have a:=(yp.later a ((zf.refl (λ_=>False) (w.alloc (Ub #[K U 0 0] 161))).alloc _)).congr zdO;obtain⟨j,k⟩:=xk a.2;have b:=ze (xQ a);clear a;go_wp2_with fail;refine bodyPost_ret (results_cell_row rfl _ _ w.heap.size 161 #[K d h f] (0,0) _ rfl b.2 underlying161 rfl Tryz.infoSet) rfl ?_;exact⟨_,rfl,b.1⟩
theorem Qg:Uh V 191 #[] w λe i=>∃v,e=R v/\yp w i v (zX 115):=by go_enter func191,ntmps191;go_wp2_with fail;have c:=wh (K (I ⟨w.heap.size+1,0,U⟩) 10 10) [(9,13),(32,32),(160,160),(5760,5760),(8192,8202),(8232,8233),(8239,8239),(8287,8287),(12288,12288),(65279,65279)] (λg=>g=w.heap.size+1) _ (Qf (w.alloc (Ub #[K U 0 0] 161)) (w.heap.size+1) ov [(9,13),(32,32),(160,160),(5760,5760),(8192,8202),(8232,8233),(8239,8239),(8287,8287),(12288,12288),(65279,65279)] 265) od;refine Calls.mono c ?_;clear c;rintro e l ⟨v,rfl,a⟩;obtain⟨d,h,f,rfl⟩:=a.1.slice;have a:=(yp.later a ((zf.refl (λ_=>False) (w.alloc (Ub #[K U 0 0] 161))).alloc _)).congr zeG;obtain⟨j,k⟩:=xk a.2;have b:=ze (xQ a);clear a;go_wp2_with fail;refine bodyPost_ret (results_cell_row rfl _ _ w.heap.size 161 #[K d h f] (0,0) _ rfl b.2 underlying161 rfl Tryz.infoSet) rfl ?_;exact⟨_,rfl,b.1⟩
theorem zfb:Uh V 164 #[M Ug 100] w λe g=>∃v,e=R v/\yp w g v (zX 100):=by go_enter func164,ntmps164;go_wp2_with fail;refine(XA _).mono ?_;rintro e j ⟨v,rfl,a⟩;obtain⟨c,f,d,rfl⟩:=a.1.slice;obtain⟨h,i⟩:=xk a.2;have b:=ze (xQ a);clear a;go_wp2_with fail;refine bodyPost_ret (results_cell_row rfl _ _ w.heap.size 161 #[K c f d] (0,0) _ rfl b.2 underlying161 rfl Tryz.infoSet) rfl ?_;exact⟨_,rfl,b.1⟩
theorem short_68:Uh V 164 #[M Ug 68] w λe k=>∃v,e=R v/\yp w k v (zX 68):=by go_enter func164,ntmps164;go_wp2_with fail;refine(XA _).mono ?_;rintro e l ⟨v,rfl,d⟩;go_wp2_with fail;refine(Qe v _ _ l d.1).mono ?_;rintro e o ⟨v,rfl,g⟩;have c:=(yp.later g d.2).congr (J7 (a:=100) (b:=68) oa);clear d g;obtain⟨h,j,i,rfl⟩:=c.1.slice;obtain⟨m,n⟩:=xk c.2;have f:=ze (xQ c);clear c;go_wp2_with fail;refine bodyPost_ret (results_cell_row rfl _ _ w.heap.size 161 #[K h j i] (0,0) _ rfl f.2 underlying161 rfl Tryz.infoSet) rfl ?_;exact⟨_,rfl,f.1⟩
theorem zfc:Uh V 164 #[M Ug 119] w λe g=>∃v,e=R v/\yp w g v (zX 119):=by go_enter func164,ntmps164;go_wp2_with fail;refine(Yz _).mono ?_;rintro e j ⟨v,rfl,a⟩;obtain⟨c,f,d,rfl⟩:=a.1.slice;obtain⟨h,i⟩:=xk a.2;have b:=ze (xQ a);clear a;go_wp2_with fail;refine bodyPost_ret (results_cell_row rfl _ _ w.heap.size 161 #[K c f d] (0,0) _ rfl b.2 underlying161 rfl Tryz.infoSet) rfl ?_;exact⟨_,rfl,b.1⟩
theorem short_87:Uh V 164 #[M Ug 87] w λe k=>∃v,e=R v/\yp w k v (zX 87):=by go_enter func164,ntmps164;go_wp2_with fail;refine(Yz _).mono ?_;rintro e l ⟨v,rfl,d⟩;go_wp2_with fail;refine(Qe v _ _ l d.1).mono ?_;rintro e o ⟨v,rfl,g⟩;have c:=(yp.later g d.2).congr (J7 (a:=119) (b:=87) oa);clear d g;obtain⟨h,j,i,rfl⟩:=c.1.slice;obtain⟨m,n⟩:=xk c.2;have f:=ze (xQ c);clear c;go_wp2_with fail;refine bodyPost_ret (results_cell_row rfl _ _ w.heap.size 161 #[K h j i] (0,0) _ rfl f.2 underlying161 rfl Tryz.infoSet) rfl ?_;exact⟨_,rfl,f.1⟩
theorem zfd:Uh V 164 #[M Ug 115] w λe g=>∃v,e=R v/\yp w g v (zX 115):=by go_enter func164,ntmps164;go_wp2_with fail;refine(Qg _).mono ?_;rintro e j ⟨v,rfl,a⟩;obtain⟨c,f,d,rfl⟩:=a.1.slice;obtain⟨h,i⟩:=xk a.2;have b:=ze (xQ a);clear a;go_wp2_with fail;refine bodyPost_ret (results_cell_row rfl _ _ w.heap.size 161 #[K c f d] (0,0) _ rfl b.2 underlying161 rfl Tryz.infoSet) rfl ?_;exact⟨_,rfl,b.1⟩
theorem short_83:Uh V 164 #[M Ug 83] w λe k=>∃v,e=R v/\yp w k v (zX 83):=by go_enter func164,ntmps164;go_wp2_with fail;refine(Qg _).mono ?_;rintro e l ⟨v,rfl,d⟩;go_wp2_with fail;refine(Qe v _ _ l d.1).mono ?_;rintro e o ⟨v,rfl,g⟩;have c:=(yp.later g d.2).congr (J7 (a:=115) (b:=83) oa);clear d g;obtain⟨h,j,i,rfl⟩:=c.1.slice;obtain⟨m,n⟩:=xk c.2;have f:=ze (xQ c);clear c;go_wp2_with fail;refine bodyPost_ret (results_cell_row rfl _ _ w.heap.size 161 #[K h j i] (0,0) _ rfl f.2 underlying161 rfl Tryz.infoSet) rfl ?_;exact⟨_,rfl,f.1⟩
def okSh (a:Int):Prop:=a=100\/a=68\/a=119\/a=87\/a=115\/a=83
theorem XB (h:okSh a)(w:E):Uh V 164 #[M Ug a] w λe b=>∃v,e=R v/\yp w b v (zX a):=by rcases h with rfl|rfl|rfl|rfl|rfl|rfl;exact zfb w;exact short_68 w;exact zfc w;exact short_87 w;exact zfd w;exact short_83 w
end
section
namespace Cs
open Eqv (zK)
variable {x l}
theorem Xb (h:zQ (x :: l)):zK (x :: l) x.1=G:=by have:=h.2 x (zgQ ..);rw[jt];exact⟨x,zgQ ..,zij _,this.1⟩
theorem zd7 (h:zQ (x :: l)){c:Int}(d:zK (x :: l) c=G):x.1<=c:=by obtain⟨y,a,b,f⟩:=(jt _ _).1 d;rcases zhh.1 a with rfl|a;exact b;have:=(zhk.1 h.1).1 y a;have e:=h.2 x (zgQ ..);unfold okS at e;omega
theorem QX (h:zQ (x :: l)){c:Int}(a:zK l c=G):x.2+1<c:=by obtain⟨y,b,d,e⟩:=(jt _ _).1 a;have:=(zhk.1 h.1).1 y b;omega
theorem zQ.tail (h:zQ (x :: l)):zQ l:=⟨(zhk.1 h.1).2,λy a=>h.2 y (zgR _ a)⟩
variable {y m}
theorem zd8 (h:zQ (x :: l))(_k:zQ (y :: m))(e:∀c,zK (x :: l) c=zK (y :: m) c)(g:x.1=y.1):y.2<=x.2:=by rcases Int.lt_or_le x.2 y.2 with a|a;have d:=h.2 x (zgQ ..);unfold okS at d;have:zK (y :: m) (x.2+1)=G:=(jt _ _).2 ⟨y,zgQ ..,oa,oa⟩;rw[<-e,vm,zhD,kE] at this;rcases this with b|b;omega;have:=QX h b;omega;exact a
theorem zQ.unique:∀{l m:List (Int×Int)},zQ l->zQ m->(∀c,zK l c=zK m c)->l=m
 | [],[],_,_,_=>rfl
 | [],y :: m,_,k,e=>by have:=Xb k;rw[<-e] at this;simp[zK] at this
 |x :: l,[],h,_,e=>by have:=Xb h;rw[e] at this;simp[zK] at this
 |x :: l,y :: m,h,k,e=>by
  have d:x.1=y.1:=by have a:=zd7 k (by rw[<-e];exact Xb h);have b:=zd7 h (by rw[e];exact Xb k);omega
  have g:x.2=y.2:=by have a:=zd8 h k e d;have b:=zd8 k h (λc=>(e c).symm) d.symm;omega
  obtain rfl:x=y:=Prod.ext d g;congr 1;refine zQ.unique h.tail k.tail (λc=>?_);have f:=e c;rw[vm,vm] at f;rcases Int.lt_or_le (x.2+1) c with i|i;have:in1 x c=Z:=(by rw[zhL,ne_eq,kE];omega);simpa [this] using f;have a:zK l c=Z:=by
   cases hh:zK l c with
   |false=>rfl
   |true=>have:=QX h hh;omega
  have b:zK m c=Z:=by
   cases hh:zK m c with
   |false=>rfl
   |true=>have:=QX k hh;omega
  rw[a,b]
noncomputable def shL (a:Int):List (Int×Int):=open Classical in if h:∃l,zQ l/\∀c,zK l c=zX a c then h.choose else []
theorem shL_of {a:Int}{l:List (Int×Int)}(h:zQ l)(e:∀c,zK l c=zX a c):shL a=l:=by
 have b:∃l,zQ l/\∀c,zK l c=zX a c:=⟨l,h,e⟩
 unfold shL;rw[dif_pos b];exact b.choose_spec.1.unique h (λc=>(b.choose_spec.2 c).trans (e c).symm)
theorem VM (c:Int):∀(S:List Int),(∀a∈S,∀c,zK (shL a) c=zX a c)->zK (S.flatMap shL) c=S.any λa=>zX a c
 | [],_=>rfl
 |a :: S,h=>by
  rw[zhZ,inSp_append,h a (zgQ ..),VM c S (λb d=>h b (zgR _ d))];rfl
variable (l)
theorem jn_len:(jn [] l).length<=l.length:=
 Qc (P:=λl=>(jn [] l).length<=l.length) (by simp[jn]) (λl x a=>by
  rw[jn_snoc];have:=jn1_len (jn [] l) x;simp only[zgK,zg7];omega) l
theorem ZR (rs:List (Int×Int)):∃l,zQ l/\(∀c,zK l c=(isCh c && zK rs c))/\l.length<=2*rs.length:=by have e:=List.mergeSort_perm (spl rs) (λx y=>decide (x.1<=y.1));have f:=List.pairwise_mergeSort (le:=λ(x y:Int×Int)=>decide (x.1<=y.1)) (λx y z a b=>by simp at *;omega) (λx y=>by simp;omega) (spl rs);obtain⟨a,b⟩:=of_ok e (f.imp (λh=>by simpa using h));refine⟨_,a,b,?_⟩;have d:=jn_len ((spl rs).mergeSort λx y=>decide (x.1<=y.1));rw[List.length_mergeSort] at d;have g:=spl_len rs;omega
theorem sh_ok (h:okSh a):zQ (shL a)/\(∀c,zK (shL a) c=zX a c)/\(shL a).length<=42:=by
 have fin:∀l,zQ l->(∀c,zK l c=zX a c)->l.length<=42->zQ (shL a)/\(∀c,zK (shL a) c=zX a c)/\(shL a).length<=42:=λl e f g=>by rw[shL_of e f];exact⟨e,f,g⟩
 have up:∀(b:Int) l,zQ l->(∀c,zK l c=zX b c)->l.length<=20->((b=100/\a=68)\/(b=119/\a=87)\/(b=115/\a=83))->zQ (shL a)/\(∀c,zK (shL a) c=zX a c)/\(shL a).length<=42:=λb l e f P x=>by obtain⟨m,g,v,w⟩:=ZR (gaps 0 l);rw[gaps_len] at w;exact fin m g (λc=>by rw[v,not_ok e,f];exact J7 x c) oa
 obtain⟨d,i,r,t⟩:=ZR [(48,57)];obtain⟨q,k,y,z⟩:=ZR zce;obtain⟨s,o,F,L⟩:=ZR XU;have j:∀c,zK d c=zX 100 c:=λc=>(r c).trans (zeF c);have n:∀c,zK q c=zX 119 c:=λc=>(y c).trans (zdO c);have p:∀c,zK s c=zX 115 c:=λc=>(F c).trans (zeG c);have B:q.length<=20:=by simp[zce] at z;omega
 have N:s.length<=20:=by simp[XU] at L;omega
 have u:d.length<=20:=by simp at t;omega
 rcases h with rfl|rfl|rfl|rfl|rfl|rfl;exact fin d i j oa;exact up 100 d i j u oa;exact fin q k n oa;exact up 119 q k n B oa;exact fin s o p oa;exact up 115 s o p N oa
theorem zaT:∀(S:List Int),(∀a∈S,(shL a).length<=42)->(S.flatMap shL).length<=42*S.length
 | [],_=>ov
 |a :: S,h=>by
  have d:=h a (zgQ ..);have e:=zaT S (λb c=>h b (zgR _ c));rw[zhZ,zgK,zg4];omega
end Cs
open Go.RowKit
theorem xu.short {w:E}{A:Nat->Prop}{v:Y}{a:Int}(h:xu w A v (zX a)):∃sv,v=Uf #[sv]/\yO w A sv (shL a)/\zQ (shL a)/\∀c,Eqv.zK (shL a) c=zX a c:=by obtain⟨sv,i,f,g,b,d⟩:=h;have e:=shL_of b d;exact⟨sv,f,by rw[e];exact g,by rw[e];exact b,by rw[e];exact d⟩
end
