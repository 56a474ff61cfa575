/- Sizes of trees: a program has no more steps than its tree's size; more depth changes nothing. -/
import Derived.Test.YtcgleficedipkaaGreatDoorYTrATrK
namespace Go.Proofs.YtcgleficedipkaaGreatDoor
open Option renaming some->I
open Go renaming World->E,Value->Y
open Or renaming inr->O,inl->Q
open Value renaming iface->Ud
open Pro Sm
section
open Sm (Tree Stp)
namespace Sm
def yJ:Nat->Tree->Int
 |0,_=>0
 |f+1,T=>
  if T.kind=5 then min (xr 0 (T.kids.map (yJ f))+T.kids.length-1) 301
  else if T.kind=6 then xr 0 (T.kids.map (yJ f))
  else if T.kind=7 then min (j7 (yJ f T.kid) T.a T.b) 301
  else 1
theorem J2:∀(zs:List Int) (t:Int),(∀z∈zs,0<=z)->t<=301->t<=xr t zs
 | [],t,_,_=>zij t
 |z :: r,t,h,b=>by
  have c:=h z (zgQ ..);have:=J2 r (min (t+z) 301) (λy a=>h y (zgR _ a)) oa;show t<=xr (min (t+z) 301) r;omega
theorem zf0 {z t:Int}{r:List Int}(h:∀y∈z :: r,0<=y)(d:xr t (z :: r)<=300):t+z<=300/\xr t (z :: r)=xr (t+z) r:=by have f:=h z (zgQ ..);have c:=J2 r (min (t+z) 301) (λy b=>h y (zgR _ b)) oa;have e:xr t (z :: r)=xr (min (t+z) 301) r:=rfl;have a:t+z<=300:=oa;refine⟨a,?_⟩;rw[e,show min (t+z) 301=t+z by omega]
theorem zb4:∀(zs:List Int) (t:Int),(∀z∈zs,0<=z)->0<=t->t<=301->xr t zs<=300->xr t zs=t+zs.sum
 | [],t,_,_,_,_=>by simp[xr]
 |z :: r,t,h,d,f,a=>by
  obtain⟨e,b⟩:=zf0 h a;have g:=h z (zgQ ..);rw[b] at a ⊢;rw[zb4 r (t+z) (λy c=>h y (zgR _ c)) oa oa a];simp only[zii];omega
theorem WF.up:∀{f g:Nat} {T:Tree},WF f T->f<=g->WF g T
 |0,_,_,h,_=>h.elim
 |f+1,0,_,_,h=>oa
 |f+1,g+1,T,h,c=>⟨h.1,λa t b=>WF.up (h.2.1 a t b) oa,λa=>⟨WF.up (h.2.2 a).1 oa,(h.2.2 a).2⟩⟩
theorem J3:∀{f:Nat} {T:Tree},WF f T->0<=yJ f T
 |0,_,h=>h.elim
 |f+1,T,h=>by
  unfold yJ;have key:T.kind=5\/T.kind=6->∀z∈T.kids.map (yJ f),0<=z:=λa z c=>by obtain⟨t,b,rfl⟩:=zhF.1 c;exact J3 (h.2.1 a t b)
  split;rename_i a;have:=J2 (T.kids.map (yJ f)) 0 (key (Q a)) oa;have:T.kids.length≠0:=λe=>h.1 a (zgY e);omega;split;rename_i a;exact J2 (T.kids.map (yJ f)) 0 (key (O a)) oa;split;rename_i a;have:=Yd (J3 (h.2.2 a).1) (h.2.2 a).2.1 (h.2.2 a).2.2;omega;omega
theorem zas:∀{f g:Nat} {T:Tree},WF f T->f<=g->yJ g T=yJ f T
 |0,_,_,h,_=>h.elim
 |f+1,0,_,_,h=>oa
 |f+1,g+1,T,h,c=>by
  unfold yJ;have key:T.kind=5\/T.kind=6->T.kids.map (yJ g)=T.kids.map (yJ f):=λa=>List.map_congr_left λt b=>zas (h.2.1 a t b) oa;split;rename_i a;rw[key (Q a)];split;rename_i a;rw[key (O a)];split;rename_i a;rw[zas (h.2.2 a).1 oa];rfl
section
variable {B C:Tree->Nat->List Stp->Nat×List Stp}
end
theorem zev {R R':Nat->Nat->Prop}(h:∀i j,R i j↔R' i j):∀(k i j:Nat),pow R k i j↔pow R' k i j:=by
 have:R=R':=by funext i j;exact propext (h i j)
 subst this;exact λ_ _ _=>Iff.rfl
theorem Jl {X X':Tree->Nat->Nat->Prop}:∀(a:List Tree),(∀t∈a,∀i j,X t i j↔X' t i j)->∀i j,kN X a i j↔kN X' a i j
 | [],_,_,_=>Iff.rfl
 |t :: a,h,i,j=>by
  simp only[kN];constructor;rintro⟨m,b,c⟩;exact⟨m,(h t (zgQ ..) i m).1 b,(Jl a (λy d=>h y (zgR _ d)) m j).1 c⟩;rintro⟨m,b,c⟩;exact⟨m,(h t (zgQ ..) i m).2 b,(Jl a (λy d=>h y (zgR _ d)) m j).2 c⟩
theorem M_up {lf:Tree->Nat->Prop}{ah:Int->Nat->Prop}:∀{f g:Nat} {T:Tree},WF f T->f<=g->∀i j,M lf ah g T i j↔M lf ah f T i j
 |0,_,_,h,_=>h.elim
 |f+1,0,_,_,h=>oa
 |f+1,g+1,T,h,m=>by
  intro i j;unfold M;have key:T.kind=5\/T.kind=6->∀t∈T.kids,∀i j,M lf ah g t i j↔M lf ah f t i j:=λa t l=>M_up (h.2.1 a t l) oa;split;exact Iff.rfl;split
  grind
  split;rename_i a;exact Jl _ (key (O a)) i j;split;rename_i a;have e:=M_up (lf:=lf) (ah:=ah) (h.2.2 a).1 (show f<=g by omega);exact⟨λ⟨k,b,c,d⟩=>⟨k,b,c,(zev e k i j).1 d⟩,λ⟨k,b,c,d⟩=>⟨k,b,c,(zev e k i j).2 d⟩⟩;exact Iff.rfl
theorem M_any {lf:Tree->Nat->Prop}{ah:Int->Nat->Prop}{f g:Nat}{T:Tree}(a:WF f T)(b:WF g T)(i j:Nat):M lf ah g T i j↔M lf ah f T i j:=by by_cases h:f<=g;exact M_up a h i j;exact(M_up b oa i j).symm
end Sm
theorem kF.leaf {w:E}{A:Nat->Prop}{v:Y}{t:Tree}(h:kF w A v t):t.kind<=4/\∃T x,leafT T/\v=Ud T x:=by rcases h with⟨c,rfl,rfl⟩|⟨rfl,rfl⟩|⟨c,rfl,rfl⟩|⟨c,rfl,rfl⟩|⟨neg,a,S,b,d,rfl,rfl,_⟩;exact⟨by simp[wO],_,_,Q rfl,rfl⟩;exact⟨by simp[wP],_,_,O (Q rfl),rfl⟩;exact⟨by simp[ji],_,_,O (O (Q rfl)),rfl⟩;exact⟨by simp[qJ],_,_,O (O (O (Q rfl))),rfl⟩;exact⟨by simp[vG],_,_,O (O (O (O rfl))),rfl⟩
theorem zew {α β:Type}{xs:List α}{a:List β}(h:a.length=xs.length){j:Nat}{t:β}(b:a[j]?=I t):∃x,xs[j]?=I x:=by have:=(zgG.1 b).1;exact⟨xs[j]' oa,zgE oa⟩
theorem zG.wf {w:E}{A:Nat->Prop}:∀{f:Nat} {v:Y} {t:Tree},zG f w A v t->WF f t
 |0,_,_,h=>h.elim
 |f+1,v,t,h=>by
  rcases h with h|⟨r,xs,b,rfl,_,_,_,d,c,o⟩|⟨r,xs,b,rfl,_,_,_,d,c⟩|⟨p,l,m,u,rfl,_,k,n,c,o,s,q⟩;have:=h.leaf.1;exact⟨λe=>oa,λe=>oa,λe=>oa⟩;refine⟨λ_ e=>?_,λ_ t g=>?_,λe=>absurd e (by simp[tAlt])⟩;have:b.length=0:=(by have:b=[]:=e;simp[this]);omega;obtain⟨j,a⟩:=vZ (show t∈b from g);obtain⟨x,i⟩:=zew d a;exact zG.wf (c j x t i a);refine⟨λe=>absurd e (by simp[ZH]),λ_ t g=>?_,λe=>absurd e (by simp[ZH])⟩;obtain⟨j,a⟩:=vZ (show t∈b from g);obtain⟨x,i⟩:=zew d a;exact zG.wf (c j x t i a);refine⟨λe=>absurd e (by simp[vH]),λe=>absurd e (by simp[vH]),λ_=>⟨?_,n,q⟩⟩;exact zG.wf k
theorem zG.size {w:E}{A:Nat->Prop}:∀{f:Nat} {v:Y} {t:Tree},zG f w A v t->yu f w A v (Sm.yJ f t)
 |0,_,_,h=>h.elim
 |f+1,v,t,h=>by
  have key:∀(xs:List Y) (a:List Tree),a.length=xs.length->(∀(j:Nat) x c,xs[j]?=I x->a[j]?=I c->zG f w A x c)->∀(j:Nat) x q,xs[j]?=I x->(a.map (Sm.yJ f))[j]?=I q->yu f w A x q:=by
   intro xs a _ z j x q F i;rw[zgZ] at i;cases ht:a[j]? with
   |none=>rw[ht] at i;cases i
   |some c=>rw[ht] at i;cases i;exact zG.size (z j x c F ht)
  rcases h with h|⟨o,xs,a,rfl,d,e,k,b,g,n⟩|⟨o,xs,a,rfl,d,e,k,b,g⟩|⟨p,l,m,c,rfl,d,e,r,g,n,s,u⟩;obtain⟨L,T,x,y,B⟩:=h.leaf;refine Q ⟨?_,T,x,y,B⟩;unfold Sm.yJ;rw[iN oa,iN oa,iN oa];refine O (Q ⟨o,xs,a.map (Sm.yJ f),d,e,k,by simp[b],key xs a b g,n,?_⟩);unfold Sm.yJ;rw[IN (by rfl),<-b];rfl;refine O (O (Q ⟨o,xs,a.map (Sm.yJ f),d,e,k,by simp[b],key xs a b g,?_⟩));unfold Sm.yJ;rw[iN (by simp[ZH]),IN (by rfl)];rfl;refine O (O (O ⟨p,l,m,Sm.yJ f c,d,zG.size e,r,g,n,s,u,?_⟩))
  (conv=>lhs;unfold Sm.yJ);rw[iN (by simp[vH]),iN (by simp[vH]),IN (by rfl)];rfl
namespace Sm
section
variable {B:Tree->Nat->List Stp->Nat×List Stp}
def Len (B:Tree->Nat->List Stp->Nat×List Stp)(t:Tree)(z:Int):Prop:=∀r S,((B t r S).2.length:Int)<=S.length+z
theorem JJ {r:Nat}{z:Tree->Int}:∀(a:List Tree) (b:Nat) (S:List Stp),(∀t∈a,Len B t (z t))->((xg B r a b S).2.length:Int)<=S.length+(a.map z).sum+a.length
 | [],_,_,_=>by simp[xg]
 |t :: a,b,S,h=>by
  have e:=h t (zgQ ..) r S;have c:=JJ (r:=r) a (B t r S).2.length ((B t r S).2++[zA b (B t r S).1]) (λy d=>h y (zgR _ d));simp only[xg,List.map_cons,zii,zg4,zgK,zhe] at c ⊢;omega
theorem zb5 {z:Tree->Int}:∀(a:List Tree) (b:Nat) (S:List Stp),(∀t∈a,Len B t (z t))->((wJ B a b S).2.length:Int)<=S.length+(a.map z).sum
 | [],_,_,_=>by simp[wJ]
 |t :: a,b,S,h=>by
  have e:=h t (zgQ ..) b S;have c:=zb5 a (B t b S).1 (B t b S).2 (λy d=>h y (zgR _ d));simp only[wJ,List.map_cons,zii] at c ⊢;omega
theorem zb6 {t:Tree}{r:Nat}{z:Int}:∀(k b:Nat) (S:List Stp),(k≠0->Len B t z)->((vt B t r k b S).2.length:Int)<=S.length+k*(z+1)
 |0,_,_,_=>by simp[vt]
 |k+1,b,S,h=>by
  have a:=h oa;have d:=a b S;have c:=zb6 (r:=r) k (B t b S).2.length ((B t b S).2++[zA (B t b S).1 r]) (λ_=>a);have e:((k+1:Nat):Int)*(z+1)=k*(z+1)+(z+1):=by rw[show((k+1:Nat):Int)=k+1 by omega,Int.add_mul,Int.one_mul]
  simp only[vt,zgK,zg4,zhe] at c ⊢;omega
theorem X4 {t:Tree}{z:Int}(c:0<=z):∀(k b:Nat) (S:List Stp),(k≠0->Len B t z)->((yM B t k b S).2.length:Int)<=S.length+k*z
 |0,_,_,_=>by simp[yM]
 |k+1,b,S,h=>by
  have a:=h oa;have f:=a b S;have e:((k+1:Nat):Int)*z=k*z+z:=by rw[show((k+1:Nat):Int)=k+1 by omega,Int.add_mul,Int.one_mul]
  have d:0<=(k:Int)*z:=zhu oa c;simp only[yM];split;omega;have g:=X4 c k (B t b S).1 (B t b S).2 (λ_=>a);omega
theorem zf1 {t:Tree}{r:Nat}{z:Int}(h:Len B t z)(S:List Stp):((xR B t r S).2.length:Int)<=S.length+z+1:=by have a:=h S.length (S++[zA 0 r]);simp only[xR,zhw,zgK,zg4,zhe] at a ⊢;omega
end
theorem sum_ge:∀{zs:List Int},(∀z∈zs,0<=z)->0<=zs.sum
 | [],_=>ov
 |z :: r,h=>by
  have b:=h z (zgQ ..);have:=sum_ge (zs:=r) (λy a=>h y (zgR _ a));simp only[zii];omega
theorem zex:∀{zs:List Int},(∀z∈zs,0<=z)->∀y∈zs,y<=zs.sum
 | [],_,y,a=>by cases a
 |z :: r,h,y,a=>by
  have b:∀y∈r,0<=y:=λy a=>h y (zgR _ a);have c:=h z (zgQ ..);have d:=sum_ge b;simp only[zii];rcases zhh.1 a with rfl|a;omega;have:=zex b y a;omega
theorem J4:∀{f:Nat} {T:Tree},WF f T->yJ f T<=300->Len (bld f) T (yJ f T)
 |0,_,h,_=>h.elim
 |f+1,T,h,F=>by
  intro r S;have key:T.kind=5\/T.kind=6->∀z∈T.kids.map (yJ f),0<=z:=λa z c=>by obtain⟨t,n,rfl⟩:=zhF.1 c;exact J3 (h.2.1 a t n)
  have kids:(T.kind=5\/T.kind=6)->xr 0 (T.kids.map (yJ f))<=300->xr 0 (T.kids.map (yJ f))=(T.kids.map (yJ f)).sum/\∀t∈T.kids,Len (bld f) t (yJ f t):=by intro a P;have e:=zb4 _ 0 (key a) oa oa P;rw[Int.zero_add] at e;refine⟨e,λt n=>J4 (h.2.1 a t n) ?_⟩;have:=zex (key a) _ (zhS (f:=yJ f) n);omega
  unfold bld;by_cases u:T.kind=0;rw[IN u];have e:yJ (f+1) T=1:=(by unfold yJ;rw[iN oa,iN oa,iN oa]);rw[e];simp;rw[iN u];by_cases b:T.kind=5
  .rw[IN b];have e:yJ (f+1) T=min (xr 0 (T.kids.map (yJ f))+T.kids.length-1) 301:=(by conv=>lhs;unfold yJ;rw[IN b]);have L:=h.1 b;cases a:T.kids with
   |nil=>exact absurd a L
   |cons t w=>
    have ac:T.kids.length=w.length+1:=(by rw[a];rfl);obtain⟨o,i⟩:=kids (Q b) oa;rw[a] at o i;have s:=i t (zgQ ..) r S;have g:=JJ (r:=r) (z:=yJ f) w (bld f t r S).1 (bld f t r S).2 (λy q=>i y (zgR _ q));rw[a] at e;simp only[List.map_cons,zii,zg4] at o e;simp only;omega
  rw[iN b];by_cases d:T.kind=6
  .rw[IN d];have e:yJ (f+1) T=xr 0 (T.kids.map (yJ f)):=(by conv=>lhs;unfold yJ;rw[iN b,IN d]);obtain⟨o,i⟩:=kids (O d) oa;have g:=zb5 (z:=yJ f) T.kids.reverse r S (λy q=>i y (List.mem_reverse.1 q));rw[List.map_reverse,List.sum_reverse] at g;omega
  rw[iN d];by_cases j:T.kind=7
  .rw[IN j];have e:yJ (f+1) T=min (j7 (yJ f T.kid) T.a T.b) 301:=(by conv=>lhs;unfold yJ;rw[iN b,iN d,IN j]);obtain⟨p,x,hb⟩:=h.2.2 j;have c:=J3 p;have l:=F;rw[e] at l ⊢;have N:min (j7 (yJ f T.kid) T.a T.b) 301=j7 (yJ f T.kid) T.a T.b:=oa;rw[N] at l ⊢;unfold j7 at l ⊢;generalize v:yJ f T.kid=z at *;by_cases m:T.b = -1
   ·(rw[IN m] at l ⊢;rw[IN m];have W:z<=300:=by have:1*z<=max T.a 1*z:=zhr oa c;omega);have k:Len (bld f) T.kid z:=(by rw[<-v];exact J4 p oa);have s:=zf1 (r:=r) k S;by_cases B:T.a=0
    grind
    rw[iN B];have g:=X4 c (T.a-1).toNat (xR (bld f) T.kid r S).1 (xR (bld f) T.kid r S).2 (λ_=>k);rw[show((T.a-1).toNat:Int)=T.a-1 by omega,Int.sub_mul,Int.one_mul] at g;rw[show max T.a 1=T.a by omega];omega
   (rw[iN m] at l ⊢;rw[iN m];have X:T.a<=T.b:=oa;have p1:0<=T.a*z:=zhu x c;have p2:0<=(T.b-T.a)*(z+1):=zhu oa oa;have k:0<T.b->Len (bld f) T.kid z:=λhp=>by (have W:z<=300:=by by_cases hl:T.a=0;have:1*(z+1)<=(T.b-T.a)*(z+1):=zhr oa oa;omega;have:1*z<=T.a*z:=zhr oa c;omega);rw[<-v];exact J4 p oa);have s:=zb6 (r:=r) (z:=z) (T.b-T.a).toNat r S (λa=>k oa);have g:=X4 c T.a.toNat (vt (bld f) T.kid r (T.b-T.a).toNat r S).1 (vt (bld f) T.kid r (T.b-T.a).toNat r S).2 (λa=>k oa);rw[show((T.b-T.a).toNat:Int)=T.b-T.a by omega] at s;rw[show(T.a.toNat:Int)=T.a by omega] at g;omega
  rw[iN j];have e:yJ (f+1) T=1:=(by unfold yJ;rw[iN b,iN d,iN j]);rw[e];simp
end Sm
namespace Sm
def Adds (B:Tree->Nat->List Stp->Nat×List Stp):Prop:=∀t r S,S.length<=(B t r S).2.length
theorem vT {B:Tree->Nat->List Stp->Nat×List Stp}(c:Adds B){r:Nat}:∀(a:List Tree) (b:Nat) (S:List Stp),S.length<=(xg B r a b S).2.length
 | [],_,_=>zgH _
 |t :: a,b,S=>by
  have e:=c t r S;have d:=vT c (r:=r) a (B t r S).2.length ((B t r S).2++[zA b (B t r S).1]);simp only[zgK,zg7] at d;show _<=(xg B r a (B t r S).2.length ((B t r S).2++[zA b (B t r S).1])).2.length;omega
theorem Jm {B:Tree->Nat->List Stp->Nat×List Stp}(c:Adds B):∀(a:List Tree) (b:Nat) (S:List Stp),S.length<=(wJ B a b S).2.length
 | [],_,_=>zgH _
 |t :: a,b,S=>zgN (c t b S) (Jm c a (B t b S).1 (B t b S).2)
theorem Xp {B:Tree->Nat->List Stp->Nat×List Stp}(a:Adds B){t:Tree}{r:Nat}:∀(k b:Nat) (S:List Stp),S.length<=(vt B t r k b S).2.length
 |0,_,_=>zgH _
 |k+1,b,S=>by
  have d:=a t b S;have c:=Xp a (t:=t) (r:=r) k (B t b S).2.length ((B t b S).2++[zA (B t b S).1 r]);simp only[zgK,zg7] at c;show _<=(vt B t r k (B t b S).2.length ((B t b S).2++[zA (B t b S).1 r])).2.length;omega
theorem jX {B:Tree->Nat->List Stp->Nat×List Stp}(c:Adds B){t:Tree}:∀(k b:Nat) (S:List Stp),S.length<=(yM B t k b S).2.length
 |0,_,_=>zgH _
 |k+1,b,S=>by
  have a:=c t b S;simp only[yM];split;exact a;exact zgN a (jX c k (B t b S).1 (B t b S).2)
theorem Yc {B:Tree->Nat->List Stp->Nat×List Stp}(b:Adds B){t:Tree}{r:Nat}(S:List Stp):S.length<(xR B t r S).2.length:=by have a:=b t S.length (S++[zA 0 r]);simp only[zgK,zg7] at a;simp only[xR,zhw];omega
theorem xl:∀f,Adds (bld f)
 |0,_,_,_=>zgH _
 |f+1,T,r,S=>by
  have a:=xl f;simp only[bld];split;simp;split;split;exact zgH _;rename_i t b _;exact zgN (a t r S) (vT a b _ _);split;exact Jm a _ _ _;split;split;split;exact Nat.le_of_lt (Yc a S);exact zgN (Nat.le_of_lt (Yc a (t:=T.kid) (r:=r) S)) (jX a _ _ _);exact zgN (Xp a _ _ _) (jX a _ _ _);simp
def Olds (B:Tree->Nat->List Stp->Nat×List Stp):Prop:=∀t r S k,k<S.length->(B t r S).2[k]?=S[k]?
theorem JK {B:Tree->Nat->List Stp->Nat×List Stp}(c:Adds B)(d:Olds B){r:Nat}:∀(a:List Tree) (b:Nat) (S:List Stp) (k:Nat),k<S.length->(xg B r a b S).2[k]?=S[k]?
 | [],_,_,_,_=>rfl
 |t :: a,b,S,k,e=>by
  have f:=c t r S;show(xg B r a (B t r S).2.length ((B t r S).2++[zA b (B t r S).1])).2[k]?=_;rw[JK c d a _ _ k ou,zgW oa,d t r S k e]
theorem zb7 {B:Tree->Nat->List Stp->Nat×List Stp}(c:Adds B)(d:Olds B):∀(a:List Tree) (b:Nat) (S:List Stp) (k:Nat),k<S.length->(wJ B a b S).2[k]?=S[k]?
 | [],_,_,_,_=>rfl
 |t :: a,b,S,k,e=>by
  show(wJ B a (B t b S).1 (B t b S).2).2[k]?=_;rw[zb7 c d a _ _ k (zgJ e (c t b S)),d t b S k e]
theorem zb8 {B:Tree->Nat->List Stp->Nat×List Stp}(a:Adds B)(c:Olds B){t:Tree}{r:Nat}:∀(m b:Nat) (S:List Stp) (k:Nat),k<S.length->(vt B t r m b S).2[k]?=S[k]?
 |0,_,_,_,_=>rfl
 |m+1,b,S,k,d=>by
  have e:=a t b S;show(vt B t r m (B t b S).2.length ((B t b S).2++[zA (B t b S).1 r])).2[k]?=_;rw[zb8 a c m _ _ k ou,zgW oa,c t b S k d]
theorem X6 {B:Tree->Nat->List Stp->Nat×List Stp}(d:Adds B)(a:Olds B){t:Tree}:∀(m b:Nat) (S:List Stp) (k:Nat),k<S.length->(yM B t m b S).2[k]?=S[k]?
 |0,_,_,_,_=>rfl
 |m+1,b,S,k,c=>by
  simp only[yM];split;exact a t b S k c;rw[X6 d a m _ _ k (zgJ c (d t b S)),a t b S k c]
theorem Wl {B:Tree->Nat->List Stp->Nat×List Stp}(_c:Adds B)(a:Olds B){t:Tree}{r:Nat}(S:List Stp)(k:Nat)(b:k<S.length):(xR B t r S).2[k]?=S[k]?:=by simp only[xR];rw[zhP oa,a t _ _ k ou,zgW b]
theorem zey:∀f,Olds (bld f)
 |0,_,_,_,_,_=>rfl
 |f+1,T,r,S,k,a=>by
  have c:=zey f;have b:=xl f;simp only[bld];split;exact zgW a;split;split;rfl;rename_i t d _;rw[JK b c d _ _ k (zgJ a (b t r S)),c t r S k a];split;exact zb7 b c _ _ _ k a;split;split;split;exact Wl b c S k a;rw[X6 b c _ _ _ k (Nat.lt_trans a (Yc b S)),Wl b c S k a];rw[X6 b c _ _ _ k (zgJ a (Xp b _ _ _)),zb8 b c _ _ _ k a];exact zgW a
def wD (B:Tree->Nat->List Stp->Nat×List Stp):Prop:=∀t r S,r<S.length->(B t r S).1<(B t r S).2.length
theorem YY {B:Tree->Nat->List Stp->Nat×List Stp}(c:Adds B)(_e:wD B){r:Nat}:∀(a:List Tree) (b:Nat) (S:List Stp),r<S.length->b<S.length->(xg B r a b S).1<(xg B r a b S).2.length
 | [],_,_,_,d=>d
 |t :: a,b,S,g,d=>by
  have f:=c t r S;exact YY c _e (r:=r) a (B t r S).2.length ((B t r S).2++[zA b (B t r S).1]) ou ov
theorem JL {B:Tree->Nat->List Stp->Nat×List Stp}(_e:Adds B)(d:wD B):∀(a:List Tree) (b:Nat) (S:List Stp),b<S.length->(wJ B a b S).1<(wJ B a b S).2.length
 | [],_,_,c=>c
 |t :: a,b,S,c=>JL _e d a (B t b S).1 (B t b S).2 (d t b S c)
theorem Za {B:Tree->Nat->List Stp->Nat×List Stp}(_c:Adds B)(_d:wD B){t:Tree}{r:Nat}:∀(k b:Nat) (S:List Stp),b<S.length->(vt B t r k b S).1<(vt B t r k b S).2.length
 |0,_,_,a=>a
 |k+1,b,S,a=>Za _c _d k (B t b S).2.length ((B t b S).2++[zA (B t b S).1 r]) ov
theorem Zp {B:Tree->Nat->List Stp->Nat×List Stp}(_e:Adds B)(d:wD B){t:Tree}:∀(k b:Nat) (S:List Stp),b<S.length->(yM B t k b S).1<(yM B t k b S).2.length
 |0,_,_,a=>a
 |k+1,b,S,a=>by
  have c:=d t b S a;simp only[yM];split;exact c;exact Zp _e d k (B t b S).1 (B t b S).2 c
theorem QO {B:Tree->Nat->List Stp->Nat×List Stp}(_c:Adds B)(b:wD B){t:Tree}{r:Nat}(S:List Stp):(xR B t r S).1<(xR B t r S).2.length:=by have a:=b t S.length (S++[zA 0 r]) ov;simp only[xR,zhw];exact a
theorem jr:∀f,wD (bld f)
 |0,_,_,_,h=>h
 |f+1,T,r,S,c=>by
  have b:=jr f;have a:=xl f;simp only[bld];split;simp;split;split;exact c;rename_i t d _;have:=a t r S;exact YY a b d _ _ oa (b t r S c);split;exact JL a b _ _ _ c;split;split;split;exact Yc a S;exact Zp a b _ _ _ (QO a b S);exact Zp a b _ _ _ (Za a b _ _ _ c);simp
end Sm
namespace Sm
def jS (S:List Stp):Prop:=∀s∈S,s.next<S.length/\s.other<S.length
theorem jS.snoc {S:List Stp}{x:Stp}(h:jS S)(b:x.next<S.length+1)(c:x.other<S.length+1):jS (S++[x]):=λs a=>by
 simp only[zgK,zg7];rcases zgU.1 a with a|a;have:=h s a;omega
 grind
def Fits (B:Tree->Nat->List Stp->Nat×List Stp):Prop:=∀t r S,r<S.length->jS S->jS (B t r S).2
theorem QP {B:Tree->Nat->List Stp->Nat×List Stp}(c:Adds B)(d:wD B)(e:Fits B){r:Nat}:∀(a:List Tree) (b:Nat) (S:List Stp),r<S.length->b<S.length->jS S->jS (xg B r a b S).2
 | [],_,_,_,_,h=>h
 |t :: a,b,S,f,j,h=>by
  have g:=c t r S;have i:=d t r S f;exact QP c d e (r:=r) a (B t r S).2.length ((B t r S).2++[zA b (B t r S).1]) ou ov ((e t r S f h).snoc (by simp only[zA];omega) (by simp only[zA];omega))
theorem Wm {B:Tree->Nat->List Stp->Nat×List Stp}(_f:Adds B)(c:wD B)(d:Fits B):∀(a:List Tree) (b:Nat) (S:List Stp),b<S.length->jS S->jS (wJ B a b S).2
 | [],_,_,_,h=>h
 |t :: a,b,S,e,h=>Wm _f c d a (B t b S).1 (B t b S).2 (c t b S e) (d t b S e h)
theorem Wn {B:Tree->Nat->List Stp->Nat×List Stp}(a:Adds B)(c:wD B)(d:Fits B){t:Tree}{r:Nat}:∀(k b:Nat) (S:List Stp),r<S.length->b<S.length->jS S->jS (vt B t r k b S).2
 |0,_,_,_,_,h=>h
 |k+1,b,S,i,e,h=>by
  have f:=a t b S;have g:=c t b S e;exact Wn a c d k (B t b S).2.length ((B t b S).2++[zA (B t b S).1 r]) ou ov ((d t b S e h).snoc (by simp only[zA];omega) (by simp only[zA];omega))
theorem YZ {B:Tree->Nat->List Stp->Nat×List Stp}(_f:Adds B)(c:wD B)(d:Fits B){t:Tree}:∀(k b:Nat) (S:List Stp),b<S.length->jS S->jS (yM B t k b S).2
 |0,_,_,_,h=>h
 |k+1,b,S,e,h=>by
  have g:=c t b S e;have a:=d t b S e h;simp only[yM];split;exact a;exact YZ _f c d k (B t b S).1 (B t b S).2 g a
theorem Vd {B:Tree->Nat->List Stp->Nat×List Stp}(e:Adds B)(f:wD B)(g:Fits B){t:Tree}{r:Nat}(S:List Stp)(i:r<S.length)(h:jS S):jS (xR B t r S).2:=by have b:=f t S.length (S++[zA 0 r]) ov;have c:=g t S.length (S++[zA 0 r]) ov (h.snoc (by simp[zA]) (by simp only[zA];omega));have d:=e t S.length (S++[zA 0 r]);simp only[zgK,zg7] at d;intro s a;simp only[xR,zhw] at a ⊢;rcases zim a with a|rfl;exact c s a;exact⟨b,show r<_ by omega⟩
theorem zb9:∀f,Fits (bld f)
 |0,_,_,_,_,h=>h
 |f+1,T,r,S,b,h=>by
  have c:=zb9 f;have is:=jr f;have a:=xl f;simp only[bld];split;exact h.snoc (by simp only[tester];omega) (by simp[tester]);split;split;exact h;rename_i t d _;have:=a t r S;exact QP a is c d _ _ oa (is t r S b) (c t r S b h);split;exact Wm a is c _ _ _ b h;split;split;split;exact Vd a is c S b h;exact YZ a is c _ _ _ (QO a is S) (Vd a is c S b h);exact YZ a is c _ _ _ (Za a is _ _ _ b) (Wn a is c _ _ _ b b h);exact h.snoc (by simp only[taker];omega) (by simp[taker])
end Sm
end
