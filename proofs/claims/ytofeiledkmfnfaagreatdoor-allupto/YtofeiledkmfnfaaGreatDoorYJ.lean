/- Plain: groups of characters between cuts. -/
import Derived.Lib.ItoaNum
import Derived.Test.YtofeiledkmfnfaaGreatDoorYI
import Derived.Sort.Walk7
import Derived.Sort.Walk13a
import Derived.Sort.LotD4
import Derived.Sort.AssemblyPlain
import Derived.Shelf.Sort.Plain
import Derived.Shelf.Strconv.AppendIntPublic10
import Derived.Laws.IdiomStrings
import Derived.Maps.OwnSet
import Derived.Maps.AppendAt
import Derived.Carry
namespace Go.Proofs.YtofeiledkmfnfaaGreatDoor
open World renaming heap->V,cell?->T,cell?->dx,frozen?->dz,ownsRow->dA,alloc->dB,setCell->dC,putObj_heap_other->dP
open _root_.Array renaming size->A,size->dg,size->q
open Value renaming ownBlock->W,ownBlock->dH
open List renaming replicate->dK
open _root_.Go.Proofs.Tryz renaming prog->L,prog->dQ
open Option renaming none->U,some->I
open Value renaming int->M,slice->K,bool->C,pointer->Ua,string->Uc,iface->Ud,tuple->Ue,agg->Uf
open IntKind renaming i64->J,i32->Ug
open Bool renaming false->Z,true->G
open Go renaming World->E,Value->Y,Calls->Uh
open Go.RowKit renaming Hid->H
open Ending renaming returned->R
open Obj renaming cells->Ub
open Go.Sort renaming ltInt->Uj,Holds->Ut
open Go.Calls renaming quiet_of_same->Uq
open And renaming intro->Ur
open Ts Sm Cs TC
open List renaming length->Bc
set_option maxHeartbeats 16000000
set_option maxRecDepth 1000000
variable (sb pb g off n cap:Nat)(d:Array Int){w X S:World}{v:Value}{cs:Ar}{u b:Nat}{ps:Ao}(mb most st:Nat){c:Int}{x y z:Value}
section
open Tw (zH)
namespace Tv
def grp (cs:Ar)(c:Int):Nat:=cs.countP (λx=>decide (x<=c))
theorem IX {d:Int}(h:c<=d):∀cs:Ar,grp cs c<=grp cs d:=λcs=>by unfold grp;exact List.countP_mono_left (λx _ a=>by simp at a ⊢;omega)
theorem Nc {c d:Int}(h:c<=d):∀cs:Ar,grp cs c=grp cs d->∀x∈cs,x<=d->x<=c
 | [],_,x,a,_=>by simp at a
 |y :: r,e,x,a,b=>by
  have k:=IX h r;have f:grp (y :: r) c=grp r c+if y<=c then 1 else 0:=by unfold grp;rw[List.countP_cons];simp
  have g:grp (y :: r) d=grp r d+if y<=d then 1 else 0:=by unfold grp;rw[List.countP_cons];simp
  rw[f,g] at e;have j:y<=d->y<=c:=λb=>by rw[IN b] at e;split at e;assumption;omega
  obtain rfl|a:=BZ.1 a;exact j b;refine Nc h r ?_ x a b;by_cases i:y<=c;rw[IN i,IN oa] at e;omega
  grind
theorem Jp {d:Int}(h:grp cs c=grp cs d):∀x∈cs,(x<=c↔x<=d):=λx b=>by obtain a|a:=Int.le_total c d;exact⟨λq=>oa,Nc a cs h x b⟩;exact⟨Nc a cs h.symm x b,λq=>oa⟩
theorem alike {i:Ai}{cs:Ar}{c d:Int}(f:∀x∈i,x.1∈cs/\x.2+1∈cs)(h:grp cs c=grp cs d):zH i c=zH i d:=by rw[FE,jF,jF];constructor;rintro⟨x,e,g,j⟩;have a:=(Jp h x.1 (f x e).1).1 g;have b:=Jp h (x.2+1) (f x e).2;exact⟨x,e,a,oa⟩;rintro⟨x,e,g,j⟩;have a:=(Jp h x.1 (f x e).1).2 g;have b:=Jp h (x.2+1) (f x e).2;exact⟨x,e,a,oa⟩
theorem grp_at (o:cs.Pairwise (· < ·)){c:Int}{i:Nat}(b:∀(j:Nat) x,cs[j]?=I x->(j<i↔x<c))(a:i<=Bc cs):grp cs c=if cs[i]?=I c then i+1 else i:=by
 have key:∀(cs:Ar) (i:Nat),cs.Pairwise (· < ·)->(∀(j:Nat) x,cs[j]?=I x->(j<i↔x<c))->i<=Bc cs->grp cs c=if cs[i]?=I c then i+1 else i:=by
  intro cs
  induction cs with
  |nil=>intro i _ _ a;simp at a;subst a;rfl
  |cons y r t=>
   intro i k b a;have d:grp (y :: r) c=grp r c+if y<=c then 1 else 0:=by unfold grp;rw[List.countP_cons];simp
   have⟨l,m⟩:=Cv.1 k;have f:=b 0 y rfl;cases i with
   |zero=>
    (have s:¬y<c:=λq=>(by have:=f.2 q;omega);have n:grp r c=0:=by unfold grp;rw[List.countP_eq_zero];intro x p;have:=l x p;simp;omega);rw[d,n];by_cases e:y=c;subst e;simp;rw[iN oa,iN (by simp;exact e)]
   |succ i=>
    have s:y<c:=f.1 oa;have g:=t i m (λj x h=>by have:=b (j+1) x (by simpa using h);rw[<-this];omega) (by simp at a;omega);rw[d,g,IN (by omega:y<=c),List.getElem?_cons_succ];split<;>omega
 exact key cs i o b a
end Tv
namespace Tv
open Go.Lib (decDigits)
theorem jR (h:u<10):decDigits u=[UInt8.ofNat (48+u)]:=by rw[decDigits,dif_pos h]
theorem ZA (h:¬u<10):decDigits u=decDigits (u / 10)++[UInt8.ofNat (48+u % 10)]:=by rw[decDigits,dif_neg h]
theorem zaF {a b:Nat}(c:a<10)(d:b<10)(h:UInt8.ofNat (48+a)=UInt8.ofNat (48+b)):a=b:=by have:=congrArg UInt8.toNat h;simp only[UInt8.toNat_ofNat'] at this;omega
theorem Xz:∀(n u:Nat),u<n->(32:UInt8)∉decDigits u
 |0,_,h=>oa
 |n+1,u,h=>by
  by_cases a:u<10;rw[jR a];intro q;have q:=A5.1 q;have:=congrArg UInt8.toNat q;simp only[UInt8.toNat_ofNat'] at this;have e:(32:UInt8).toNat=32:=rfl;omega;rw[ZA a];intro q;obtain q|q:=A7.1 q;exact Xz n (u / 10) oa q;have q:=A5.1 q;have:=congrArg UInt8.toNat q;simp only[UInt8.toNat_ofNat'] at this;have e:(32:UInt8).toNat=32:=rfl;omega
theorem Nb (u:Nat):decDigits u≠[]:=by by_cases a:u<10;rw[jR a];simp;rw[ZA a];simp
theorem zf8:∀(n u v:Nat),u<n->decDigits u=decDigits v->u=v
 |0,_,_,h,_=>oa
 |n+1,u,v,h,e=>by
  by_cases c:u<10;by_cases a:v<10;rw[jR c,jR a] at e;exact zaF c a (List.cons.inj e).1;rw[jR c,ZA a] at e;have b:=congrArg List.length e;have:=List.length_pos_iff.2 (Nb (v / 10));simp at b;exact absurd b (Nb _);by_cases a:v<10;rw[ZA c,jR a] at e;have b:=congrArg List.length e;simp at b;exact absurd b (Nb _);rw[ZA c,ZA a] at e;have:=List.append_inj' e rfl;have d:=zf8 n (u / 10) (v / 10) oa this.1;have f:=zaF (Nat.mod_lt _ od) (Nat.mod_lt _ od) (List.cons.inj this.2).1;omega
def keyP:Ao->List UInt8
 | []=>[]
 |p :: r=>32 :: (decDigits p++keyP r)
theorem J6:∀ps:Ao,keyP ps=[]\/∃t,keyP ps=32 :: t
 | []=>.inl rfl
 |_ :: _=>.inr ⟨_,rfl⟩
theorem GH {a b s t:List UInt8}(c:(32:UInt8)∉a)(d:(32:UInt8)∉b)(g:s=[]\/∃x,s=32 :: x)(i:t=[]\/∃x,t=32 :: x)(h:a++s=b++t):a=b/\s=t:=by
 induction a generalizing b with
 |nil=>
  cases b with
  |nil=>exact⟨rfl,h⟩
  |cons y b=>
   obtain rfl|⟨x,rfl⟩:=g;simp at h;simp at h;exact absurd (by rw[h.1];simp) d
 |cons x a j=>
  cases b with
  |nil=>
   obtain rfl|⟨y,rfl⟩:=i;simp at h;simp at h;exact absurd (by rw[<-h.1];simp) c
  |cons y b=>
   simp only[Ci,List.cons.injEq] at h;have⟨e,f⟩:=j (b:=b) (λq=>c (Bm _ q)) (λq=>d (Bm _ q)) h.2;exact⟨by rw[h.1,e],f⟩
theorem zdq:∀(ps a:Ao),keyP ps=keyP a->ps=a
 | [],[],_=>rfl
 | [],_ :: _,h=>by simp[keyP] at h
 |_ :: _,[],h=>by simp[keyP] at h
 |p :: ps,q :: a,h=>by
  simp only[keyP,List.cons.injEq,true_and] at h;have⟨b,c⟩:=GH (Xz (p+1) p oa) (Xz (q+1) q oa) (J6 ps) (J6 a) h;rw[zf8 (p+1) p q oa b,zdq ps a c]
def keyS (b w:Bool)(ps:Ao):List UInt8:=(if b then [94] else [])++(if w then [119] else [])++keyP ps
theorem keyS_inj {b w a S:Bool}{ps ps':Ao}(h:keyS b w ps=keyS a S ps'):b=a/\w=S/\ps=ps':=by
 unfold keyS at h;have d:∀(c:UInt8) (ps:Ao) t,c≠32->keyP ps≠c :: t:=λc ps t f e=>by
  obtain q|⟨x,q⟩:=J6 ps;rw[q] at e;cases e
  grind
 cases b<;>cases a<;>cases w<;>cases S<;>simp at h
 all_goals first
  |exact⟨rfl,rfl,zdq _ _ h⟩
  |exact absurd h (d _ _ _ od)
  |exact absurd h.symm (d _ _ _ od)
end Tv
open Sm (Stp Tree)
namespace Tv
theorem rising_eq:∀(js ks:Ao),js.Pairwise (· < ·)->ks.Pairwise (· < ·)->(∀j,j∈js↔j∈ks)->js=ks
 | [],[],_,_,_=>rfl
 | [],k :: ks,_,_,h=>absurd ((h k).2 ov) ov
 |j :: js,[],_,_,h=>absurd ((h j).1 ov) ov
 |j :: js,k :: ks,b,c,h=>by
  have a1:=Cv.1 b;have a:=Cv.1 c;have e:j=k:=by obtain e|m:=BZ.1 ((h j).1 ov);exact e;obtain e|f:=BZ.1 ((h k).2 ov);exact e.symm;have:=a1.1 k f;have:=a.1 j m;omega
  subst e;rw[rising_eq js ks a1.2 a.2 (λx=>⟨λd=>?_,λd=>?_⟩)]
  grind
  grind
structure St where
 b:Bool
 w:Bool
 ps:Ao
def rch (N:Aq)(s:St)(e n:Bool)(q:Nat):Prop:=∃p∈s.ps,GE N (kX s.b e s.w n) p q
def fst (st:Nat):St:=⟨G,Z,[st]⟩
open Classical in
noncomputable def aft (N:List Stp)(st:Nat)(W:Int->Bool)(s:St)(c:Int):St:=
 if rch N s Z (W c) 0 then⟨Z,Z,[0]⟩ else⟨Z,W c,(List.range N.length).filter (λq=>decide (q=st\/∃a,rch N s Z (W c) a/\qJ N c a=I q))⟩
def hit (N:Aq)(s:St):Prop:=rch N s G Z 0
structure St.OK (N:Aq)(s:St):Prop where
 ne:0<Bc s.ps
 up:s.ps.Pairwise (· < ·)
 lt:∀p∈s.ps,p<Bc N
theorem St.OK.len {N:Aq}{s:St}(h:s.OK N):Bc s.ps<=Bc N:=by
 have c:=h.up;have d:=h.lt;generalize s.ps=ps at c d;have key:∀(ps:Ao) (a n:Nat),ps.Pairwise (· < ·)->(∀p∈ps,a<=p/\p<n)->a<=n->Bc ps<=n-a:=by
  intro ps
  induction ps with
  |nil=>intro a n _ _ _;simp
  |cons y r g=>
   intro a n b e _;have⟨i,j⟩:=Cv.1 b;have k:=e y ov;have:=g (y+1) n j (λx f=>⟨by have:=i x f;omega,(e x (by simp[f])).2⟩) oa;simp only[BH];omega
 have:=key ps 0 (Bc N) c (λp b=>⟨oa,d p b⟩) oa;omega
theorem fst_ok {N:Aq}{st:Nat}(h:st<Bc N):(fst st).OK N:=⟨by simp[fst],by simp[fst],λp a=>by simp[fst] at a;omega⟩
theorem rch_of {N:Aq}{H:Am}{c rs:Ao}(d:∀p∈c,p∈rs)(e:∀q∈rs,∃p∈c,GE N H p q)(f:∀a∈rs,∀t,BL N H a t->t∈rs)(q:Nat):q∈rs↔∃p∈c,GE N H p q:=
 Kf d e (λa g b h=>f a g b h) q
theorem aft_yes {N:Aq}{st:Nat}{W:Am}{s:St}{c:Int}(h:rch N s Z (W c) 0):aft N st W s c=⟨Z,Z,[0]⟩:=by unfold aft;rw[IN h]
theorem Qa {N:Aq}{st:Nat}{W:Am}{s:St}{c:Int}(h:¬rch N s Z (W c) 0)(q:Nat):q∈(aft N st W s c).ps↔q<Bc N/\(q=st\/∃a,rch N s Z (W c) a/\qJ N c a=I q):=by unfold aft;rw[iN h];simp[List.mem_filter,List.mem_range]
theorem CB (N:Aq)(st:Nat)(W:Am)(s:St)(c:Int):(aft N st W s c).b=Z:=by unfold aft;split<;>rfl
theorem Cz {N:Aq}{st:Nat}{W:Am}{s:St}{c:Int}(h:¬rch N s Z (W c) 0):(aft N st W s c).w=W c:=by unfold aft;rw[iN h]
theorem aft_ok {N:Aq}{st:Nat}(W:Am)(s:St)(c:Int)(h:st<Bc N):(aft N st W s c).OK N:=by by_cases a:rch N s Z (W c) 0;rw[aft_yes a];exact⟨ov,ov,λp b=>by simp at b;omega⟩;refine⟨List.length_pos_of_mem ((Qa a st).2 ⟨h,.inl rfl⟩),?_,λp b=>((Qa a p).1 b).1⟩;unfold aft;rw[iN a];exact(List.pairwise_lt_range (n:=Bc N)).filter _
theorem aft_is {N:Aq}{st:Nat}{W:Am}{s:St}{c:Int}{rs ps':Ao}(i:st<Bc N)(o:∀(k:Nat) s,N[k]?=I s->s.next<Bc N/\s.other<Bc N)(d:∀q,q∈rs↔rch N s Z (W c) q)(n:0∉rs)(t:ps'.Pairwise (· < ·))(p:∀q,q∈ps'↔q∈xZ N c rs\/q=st):aft N st W s c=⟨Z,W c,ps'⟩:=by
 have f:¬rch N s Z (W c) 0:=λh=>n ((d 0).2 h);have j:=CB N st W s c;have l:=Cz (st:=st) f;have m:(aft N st W s c).ps=ps':=by
  refine rising_eq _ _ (aft_ok W s c i).up t (λq=>?_);rw[Qa f,p,J2];constructor
  .rintro⟨u,rfl|⟨a,b,e⟩⟩;exact .inr rfl;refine .inl ⟨a,(d a).2 b,?_⟩;unfold qJ at e;split at e
   grind
   cases e
  rintro(⟨a,b,x,g,r,rfl⟩|rfl);exact⟨(o a x g).1,.inr ⟨a,(d a).1 b,by simp[qJ,g,r]⟩⟩;exact⟨i,.inl rfl⟩
 revert j l m
 cases aft N st W s c;rintro rfl rfl rfl;rfl
theorem zdr (N:Aq)(st:Nat)(W:Am)(s:St)(c d:Int)(h:¬rch N s Z (W c) 0)(b:¬rch N s Z (W d) 0)(e:∀q,(∃a,rch N s Z (W c) a/\qJ N c a=I q)=(∃a,rch N s Z (W d) a/\qJ N d a=I q)):(aft N st W s c).ps=(aft N st W s d).ps:=by unfold aft;rw[iN h,iN b];exact List.filter_congr (λq _=>decide_eq_decide.2 (by rw[e q]))
theorem aft_alike {N:Aq}{st:Nat}{W:Am}{s:St}{c d:Int}(f:W c=W d)(p:∀x∈N,jQ x c=jQ x d):aft N st W s c=aft N st W s d:=by
 have e:∀a,qJ N c a=qJ N d a:=λa=>by
  unfold qJ;split
  grind
  rfl
 have i:(λq=>∃a,rch N s Z (W c) a/\qJ N c a=I q)=(λq=>∃a,rch N s Z (W d) a/\qJ N d a=I q):=by grind
 have j:=congrFun i;by_cases b:rch N s Z (W c) 0;rw[aft_yes b,aft_yes (f ▸ b)];have g:¬rch N s Z (W d) 0:=f ▸ b;have k:(aft N st W s c).ps=(aft N st W s d).ps:=zdr N st W s c d b g j;have l:=CB N st W s c;have m:=CB N st W s d;have n:=Cz (st:=st) b;have o:=Cz (st:=st) g
 revert k l m n o
 cases aft N st W s c;cases aft N st W s d;rintro rfl rfl rfl rfl h;simp only at h ⊢;rw[f,h]
noncomputable def run (N:List Stp)(st:Nat)(W:Int->Bool)(L:List (Int×Int)):Nat->St
 |0=>fst st
 |k+1=>aft N st W (run N st W L k) (zi L k)
theorem EN {W:Am}{L:Ai}{N:Aq}{m a b:Nat}:GE N (vZ W L m) a b↔BY W L N a m b m:=by
 refine⟨Ih,?_⟩;rintro⟨k,h⟩
 induction k generalizing a with
 |zero=>obtain⟨rfl,_⟩:=h;exact GE.refl _ _ _
 |succ k i=>
  have⟨o,n,⟨s,g,j⟩,c⟩:=h;obtain⟨_,_,_,e⟩|⟨d,f,l,e⟩|⟨d,f,e⟩:=j;have:=UA.le c;omega;subst e;exact Sm.Goes.head ⟨s,g,.inr (.inl ⟨d,f,l,rfl⟩)⟩ (i c);subst e;exact Sm.Goes.head ⟨s,g,.inr (.inr ⟨d,f,rfl⟩)⟩ (i c)
theorem zds {L:Ai}{N:Aq}{m a b:Nat}(c:m<Bc L):qJ N (zi L m) a=I b↔Lv (CJ L) N a m b:=by have h:=TC.take_all (N:=N) (rs:=[a]) c b;unfold xZ at h;simp only[List.mem_filterMap,A5,exists_eq_left] at h;exact h
def Mt (W:Am)(L:Ai)(N:Aq)(st k:Nat)(s:St):Prop:=(LK (CJ L) (CS W L) N st k/\s.ps=[0])\/(¬LK (CJ L) (CS W L) N st k/\Fy (CJ L) (CS W L) N st k s.ps/\s.b=decide (k=0)/\s.w=Co W L k)
theorem LZ {W:Am}{L:Ai}{N:Aq}{st:Nat}(t:st<Bc N)(n:∀(k:Nat) s,N[k]?=I s->s.next<Bc N/\s.other<Bc N):∀k,k<=Bc L->Mt W L N st k (run N st W L k)
 |0,_=>.inr ⟨λ⟨_,h,_⟩=>absurd h (Bs _),za8 N st,rfl,rfl⟩
 |k+1,X=>by
  have r:k<Bc L:=oa;have v:=LZ (W:=W) (L:=L) t n k oa;show Mt W L N st (k+1) (aft N st W (run N st W L k) (zi L k));generalize run N st W L k=s at v;obtain⟨j,l⟩|⟨j,B,P,T⟩:=v
  .have c:rch N s Z (W (zi L k)) 0:=⟨0,by rw[l];simp,GE.refl _ _ _⟩
   rw[aft_yes c];exact .inl ⟨wT.2 (.inl j),rfl⟩
  ((have S:kX s.b Z s.w (W (zi L k))=vZ W L k:=by funext a;unfold vZ Cq;rw[P,T,decide_eq_false (by omega:¬k=Bc L),decide_eq_true (by omega:k≠(Bc L))];simp);have d:∀q,rch N s Z (W (zi L k)) q↔FD (CJ L) (CS W L) N st k q:=λq=>by unfold rch;rw[S,<-B q];exact exists_congr (λp=>and_congr_right (λ_=>EN)));by_cases c:rch N s Z (W (zi L k)) 0;rw[aft_yes c];exact .inl ⟨wT.2 (.inr ((d 0).1 c)),rfl⟩;refine .inr ⟨λf=>?_,λq=>?_,CB ..,?_⟩;obtain f|f:=wT.1 f;exact j f;exact c ((d 0).2 f);constructor;rintro⟨p,l,g⟩;obtain⟨_,rfl|⟨a,F,m⟩⟩:=(Qa c p).1 l;exact⟨k+1,AD _,g⟩;have⟨i,o,w⟩:=(d a).1 F;exact⟨i,oa,(XG o).2 ⟨a,p,w,(zds r).1 m,g⟩⟩;rintro⟨i,o,g⟩;by_cases e:i=k+1;subst e;exact⟨st,(Qa c st).2 ⟨t,.inl rfl⟩,g⟩;have⟨a,b,y,u,z⟩:=(XG (at':=k) oa).1 g;refine⟨b,(Qa c b).2 ⟨?_,.inr ⟨a,(d a).2 ⟨i,oa,y⟩,(zds r).2 u⟩⟩,z⟩;obtain⟨x,m,_,_,rfl⟩:=u;exact(n a x m).1;rw[Cz c];unfold Co;simp
theorem BX {W:Am}{L:Ai}{N:Aq}{st:Nat}(o:st<Bc N)(l:∀(k:Nat) s,N[k]?=I s->s.next<Bc N/\s.other<Bc N):hit N (run N st W L (Bc L))↔∃i j,i<=Bc L/\j<=Bc L/\BY W L N st i 0 j:=by
 have h:=LZ (W:=W) (L:=L) o l (Bc L) (AD _);generalize run N st W L (Bc L)=s at h;rw[<-zgE];obtain⟨b,n⟩|⟨b,c,d,q⟩:=h;exact⟨λ_=>wT.2 (.inl b),λ_=>⟨0,by rw[n];simp,GE.refl _ _ _⟩⟩;have m:kX s.b G s.w Z=vZ W L (Bc L):=by funext a;unfold vZ Cq;rw[d,q];simp
 rw[wT];have e:hit N s↔FD (CJ L) (CS W L) N st (Bc L) 0:=by unfold hit rch;rw[m,<-c 0];exact exists_congr (λp=>and_congr_right (λ_=>EN))
 rw[e];exact⟨.inr,λf=>f.elim (λg=>absurd g b) id⟩
end Tv
end
section
open Go.RowKit
theorem zdt {M:Int}:∀(cs:Ar) (a:Int),cs.Pairwise (· < ·)->(∀x∈cs,a<=x/\x<=M)->a<=M+1->(Bc cs:Int)<=M+1-a
 | [],a,_,_,h=>by simp;omega
 |y :: r,a,f,b,_=>by
  have⟨d,e⟩:=Cv.1 f;have g:=b y ov;have:=zdt r (y+1) e (λx c=>⟨by have:=d x c;omega,(b x (by simp[c])).2⟩) oa;simp only[BH];omega
def Ij (w:E)(v:Y)(cs:Ar):Prop:=(v=K U 0 0/\cs=[])\/∃g cap,v=K (I ⟨g,0,U⟩) (Bc cs) cap/\∀(j:Nat) x,cs[j]?=I x->T w ⟨g,j,U⟩=I (M Ug x)
theorem Gf (e:cs.Pairwise (· < ·)){i j:Nat}{x y:Int}(c:cs[i]?=I x)(d:cs[j]?=I y)(h:i<j):x<y:=by obtain⟨a,rfl⟩:=AK.1 c;obtain⟨b,rfl⟩:=AK.1 d;exact Lk.1 e i j a b h
theorem zf9 (c:cs.Pairwise (· < ·)){i j:Nat}{x y:Int}(a:cs[i]?=I x)(b:cs[j]?=I y)(h:i<=j):x<=y:=by by_cases e:i=j;subst e;cases a.symm.trans b;omega;have:=Gf c a b oa;omega
theorem Wl (x:Int)(w:E):Uh L 210 #[M Ug x] w λe S=>e=R (C Z)/\S=w:=by go_enter Tryz.func210,Tryz.ntmps210;go_wp2_with fail;go_ret;exact⟨ov,rfl⟩
variable (v cs c)
theorem I3 (w:E)(h:Ij w v cs)(F:cs.Pairwise (· < ·))(hl:Bc cs<=1114113):Uh dQ 174 #[v,M Ug c] w λe S=>∃i:Nat,e=R (Ue #[M J i,C (decide (cs[i]?=I c))])/\i<=Bc cs/\(∀(j:Nat) x,cs[j]?=I x->(j<i↔x<c))/\S=w:=by
 obtain⟨u,L,rfl,z⟩:∃u L,v=K u (Bc cs) L/\H (Bc cs≠0->∃g,u=I ⟨g,0,U⟩/\∀(j:Nat) x,cs[j]?=I x->dx w ⟨g,j,U⟩=I (M Ug x)):=by obtain⟨rfl,rfl⟩|⟨g,cap,rfl,N⟩:=h;exact⟨U,0,rfl,λh=>absurd rfl h⟩;exact⟨_,_,rfl,λ_=>⟨g,rfl,N⟩⟩
 have B:=zd F;clear h F;go_enter Tryz.func174,Tryz.ntmps174;go_wp2_with fail;go_loopw[7,8] (λr s wr=>wr=w/\∃i j:Nat,r=M J i/\s=M J j/\i<=j/\j<=Bc cs/\H ((∀(t:Nat) x,t<i->cs[t]?=I x->x<c)/\∀(t:Nat) x,j<=t->cs[t]?=I x->c<=x)) (λr s _=>(intOf s-intOf r).toNat);exact⟨rfl,0,Bc cs,rfl,rfl,oa,oa,λt x o=>oa,λt x o b=>by have:=(AK.1 b).1;omega⟩;obtain⟨rfl,i,j,rfl,rfl,ab,T,n⟩:=hrel;by_cases ad:i<j
 .obtain⟨g,rfl,l⟩:=zb z oa;have W:(i+j) / 2<Bc cs:=oa;have d:cs[(i+j) / 2]?=I cs[(i+j) / 2]:=AE W;have c1:=l _ _ d;clear l;have HG:=zd d;clear d;generalize cs[(i+j) / 2]=y at *;by_cases a:y<c
  .have q:H ((∀(t:Nat) x,t<(i+j) / 2+1->cs[t]?=I x->x<c)/\∀(t:Nat) x,j<=t->cs[t]?=I x->c<=x):=⟨λt x o b=>by have:=zf9 B b HG oa;omega,n.2⟩
   have k:Uj y c=G:=(by simp[Uj,a]);clear a;go_wp2_with(go_at_call 200;refine(zV _ _ _).mono ?_;rw[k];rintro e wq ⟨rfl,m⟩;obtain rfl:=m.symm;clear m);exact⟨⟨trivial,(i+j) / 2+1,j,by rw[show((i:Int)+(j:Int)) / 2+1=(((i+j) / 2+1:Nat):Int) by omega],rfl,oa,T,q⟩,Ad⟩
  have q:H ((∀(t:Nat) x,t<i->cs[t]?=I x->x<c)/\∀(t:Nat) x,(i+j) / 2<=t->cs[t]?=I x->c<=x):=⟨n.1,λt x o b=>by have:=zf9 B HG b o;omega⟩
  have k:Uj y c=Z:=(by simp[Uj];omega);clear a;go_wp2_with(go_at_call 200;refine(zV _ _ _).mono ?_;rw[k];rintro e wq ⟨rfl,m⟩;obtain rfl:=m.symm;clear m);exact⟨⟨trivial,i,(i+j) / 2,rfl,by rw[show((i:Int)+(j:Int)) / 2=(((i+j) / 2:Nat):Int) by omega],oa,oa,q⟩,Ad⟩
 obtain rfl:i=j:=oa;have p:H (∀(j:Nat) x,cs[j]?=I x->(j<i↔x<c)):=λj x b=>⟨λh=>n.1 j x h b,λh=>by
  by_cases P:j<i;exact P;have:=n.2 j x oa b;omega⟩
 by_cases X:i<Bc cs
 .obtain⟨g,rfl,l⟩:=zb z oa;have d:cs[i]?=I cs[i]:=AE X;have c1:=l _ _ d;clear l;have HG:=zd d;clear d;generalize cs[i]=y at *;by_cases a:y=c
  .have k:(y == c)=G:=(by simp[a]);have f:H (decide (cs[i]?=I c)=G):=(by show _=_;rw[zb HG,a];simp);clear a;go_wp2_with(go_at_call 210;refine AL (Wl _ _) ?_);go_ret2;exact⟨i,by rw[zb f];rfl,oa,p,rfl⟩
  have k:(y == c)=Z:=(by simp[a]);have f:H (decide (cs[i]?=I c)=Z):=(by show _=_;rw[zb HG];simp[a]);clear a;go_wp2_with(go_at_call 210;refine AL (Wl _ _) ?_);go_ret2;exact⟨i,by rw[zb f];rfl,oa,p,rfl⟩
 have f:H (decide (cs[i]?=I c)=Z):=(by show _=_;rw[Hh oa];simp);go_wp2_with fail;go_ret2;exact⟨i,by rw[zb f];rfl,oa,p,rfl⟩
theorem Ex.aside {a b:E}{g off c:Nat}{d:Array Int}(h:Ex a g off d b)(f:A (V a)<=c)(i:g≠c)(u:Y):Ex a g off d (b.setCell ⟨c,0,U⟩ u):=
 ⟨h.1.setCell (p:=⟨c,0,U⟩) (.inr f) u,λt e=>⟨(AN _ _ _ _ ov).trans (h.2 t e).1,(zl _ _ _ _).trans (h.2 t e).2⟩⟩
open Go.Shelf Go.Lib Go.Sort in
theorem Ma (a:Nat)(r:UInt64)(w:E)(b:T w ⟨a,0,U⟩=I (M .u64 (r.toNat:Nat)))(c:dz w ⟨a,0,U⟩=Z):Uh L 225 #[Ua (I ⟨a,0,U⟩)] w λe S=>e=R (M .u64 ((Sort.xorNext r).toNat:Nat))/\S=(dC w ⟨a,0,U⟩ (M .u64 ((Sort.xorNext r).toNat:Nat))).drewN 3:=by rw[Sort.xorNext_toNat];exact AnyF.xorshift_Next { Xa with } a 0 r.toNat r.toNat_lt w b c
theorem I4 (a b:Nat)(d:Array Int)(w:E)(h:Ut (Value.int Ug) w g off d)(aq:g<A (V w))(aQ:a+12<b)(hb:b<=d.size)(hn:d.size<1099511627776):Uh dQ 196 #[K (I ⟨g,off,U⟩) d.size cap,.int J a,.int J b] w λe S=>e=R (Ue #[])/\Ex w g off (Sort.breakPatterns d a b) S:=by
 obtain⟨L,rfl⟩:∃L,b=a+L:=⟨b-a,oa⟩
 have F:=zd (breakPatterns_eq d a L oa);generalize Sort.breakPatterns d a (a+L)=ae at *;have X:=zd (Ex.refl h);clear h;generalize hN:d.size=N at *;obtain⟨q,hq⟩:∃q,q=L / 4:=⟨_,rfl⟩
 have aW:(L:Int) / 4=q:=by rw[hq];rfl
 have aX:4*q<=L/\L<4*q+4:=oa;have e0:(a:Int)+L-a=L:=oa;have eL:IntKind.u64.wrap (L:Int)=L:=by simp[IntKind.wrap,IntKind.bits,IntKind.signed];omega
 have hM:=pow_le L oa;obtain⟨M,aa⟩:∃M,M=1 <<< Sort.bitsLen L:=⟨_,rfl⟩
 have aP:1<=M:=by rw[aa,Nat.one_shiftLeft];exact Nat.one_le_two_pow
 have HN:=zd (L9 L oa);rw[<-aa] at hM HN F;rw[<-hq] at F;have eX:(UInt64.ofNat L).toNat=L:=by simp;omega
 have ah:H (d.size=N):=hN;clear aa hq hN;go_enter Tryz.func196,Tryz.ntmps196;go_wp2_with(go_at_call 224;refine(zb HN _).mono ?_;rintro e S ⟨rfl,rfl⟩);have ak:H (Ex w g off d (dB w (Ub #[.int .u64 (L:Int)] 370))):=⟨Ag,λt ht=>⟨(((zg.refl (λ_=>False) _).alloc _).cell (p:=⟨g,off+t,U⟩) aq id).trans (X.2 t ht).1,(((zg.refl (λ_=>False) _).alloc _).frozen (p:=⟨g,off+t,U⟩) aq id).trans (X.2 t ht).2⟩⟩
 have ag:H (YS (dB w (Ub #[.int .u64 (L:Int)] 370)) (A (V w)) (UInt64.ofNat L).toNat):=by rw[eX];exact⟨zj w _ rfl _ _ 0 _ rfl,zt w _ rfl _ _ 0⟩
 have eM:IntKind.u64.wrap ((M:Int)-1)=(M:Int)-1:=by simp[IntKind.wrap,IntKind.bits,IntKind.signed];omega
 go_loopw[9] (λvi wr=>∃(t s:Nat) (r:UInt64) (k:Array Int),vi=.int J t/\H (t=a+q*2-1+s)/\a+q*2<=t+1/\t<=a+q*2+2/\s<=3/\H (k.size=N)/\H (Ex w g off k wr)/\H (YS wr (A (V w)) r.toNat)/\H (ae=bpRest a L M (a+q*2-1) (3-s) s (r,k))) (λvi _=>a+q*2+2-(intOf vi).toNat);exact⟨a+q*2-1,0,_,d,by congr 1;omega,rfl,oa,oa,oa,ah,ak,ag,F⟩;clear ak ag F X ah;obtain⟨t,s,r,k,rfl,m,aZ,a0,aY,P,HS,HC,v⟩:=hrel;by_cases hs:s<3
 .have aT:(t:Int)<=a+q*2+1:=(by have:=zb m;omega);have u:=zd (λo=>bp_step (α:=Int) a L M (a+q*2-1) s r k o hs);rw[<-zb m] at u;have⟨c0,f0⟩:=zb HC;go_wp2_with(go_at_call 225;refine(Ma _ r _ c0 f0).mono ?_;rintro e w1 ⟨rfl,ad⟩;have j:H (Ex w g off k w1):=(by rw[ad];exact(HS.aside (AD _) oa _).drewN _);have i:H (YS w1 (A (V w)) (Sort.xorNext r).toNat):=(by rw[ad];exact⟨AX _ _ _ c0,(zl _ _ _ _).trans f0⟩);have hY:(Sort.xorNext r).toNat<18446744073709551616:=(Sort.xorNext r).toNat_lt;generalize au:Sort.xorNext r=n at *;generalize W:n.toNat=T at *;have ap:bits .and .u64 (T:Int) ((M:Int)-1)=((T &&& (M-1):Nat):Int):=(by rw[show(M:Int)-1=((M-1:Nat):Int) by omega];exact bits_and_u64_nat _ _ hY oa);have ho:T &&& (M-1)<=M-1:=Nat.and_le_right;generalize aI:T &&& (M-1)=o at *;have ar:IntKind.i64.wrap (o:Int)=o:=(by simp[IntKind.wrap,IntKind.bits,IntKind.signed];omega);clear ad aI)
  .rename_i aO;obtain⟨c,aG⟩:∃c,c=o-L:=⟨_,rfl⟩
   have e9:(o:Int)-L=(c:Nat):=oa;simp only[e9];have aH:c<L:=oa;have⟨l,HG,z,B⟩:=j.OI P;have x:H (ae=bpRest a L M (a+q*2-1) (3-(s+1)) (s+1) (n,(k.setIfInBounds t (l (a+c))).setIfInBounds (a+c) (l t))):=(by show _=_;rw[zb v,jb HG];exact zb u c (by rw[IN oa];omega));have y:H (((k.setIfInBounds t (l (a+c))).setIfInBounds (a+c) (l t)).size=N):=(by show _=_;simp;exact P);rw[<-W] at i;clear e9 aG ap ar u v HG W au;have d1:=z t oa;have g1:=B t oa;have d2:=z (a+c) oa;have g2:=B (a+c) oa;by_cases ac:t=a+c
   .subst ac;go_region;go_wp2_with fail;go_roundw
    .exact⟨a+c+1,s+1,n,_,Ae,(by show _=_;have:=zb m;omega),oa,oa,oa,y,(by first|exact j.two rfl rfl|exact((j.set (a+c) _).set (a+c) _).drew),(by first|exact YS.two i oa|exact YS.PL i oa),x⟩
    simp[intOf];omega
   go_region;go_wp2_with fail;go_roundw
   .exact⟨t+1,s+1,n,_,Ae,(by show _=_;have:=zb m;omega),oa,oa,oa,y,(by first|exact j.two rfl rfl|exact((j.set t _).set (a+c) _).drew),(by first|exact YS.two i oa|exact YS.PL i oa),x⟩
   simp[intOf];omega
  have aH:o<L:=oa;have⟨l,HG,z,B⟩:=j.OI P;have x:H (ae=bpRest a L M (a+q*2-1) (3-(s+1)) (s+1) (n,(k.setIfInBounds t (l (a+o))).setIfInBounds (a+o) (l t))):=(by show _=_;rw[zb v,jb HG];exact zb u o (by rw[iN oa]));have y:H (((k.setIfInBounds t (l (a+o))).setIfInBounds (a+o) (l t)).size=N):=(by show _=_;simp;exact P);rw[<-W] at i;clear ap ar u v HG W au;have d1:=z t oa;have g1:=B t oa;have d2:=z (a+o) oa;have g2:=B (a+o) oa;by_cases ac:t=a+o
  .subst ac;go_region;go_wp2_with fail;go_roundw
   .exact⟨a+o+1,s+1,n,_,Ae,(by show _=_;have:=zb m;omega),oa,oa,oa,y,(by first|exact j.two rfl rfl|exact((j.set (a+o) _).set (a+o) _).drew),(by first|exact YS.two i oa|exact YS.PL i oa),x⟩
   simp[intOf];omega
  go_region;go_wp2_with fail;go_roundw
  .exact⟨t+1,s+1,n,_,Ae,(by show _=_;have:=zb m;omega),oa,oa,oa,y,(by first|exact j.two rfl rfl|exact((j.set t _).set (a+o) _).drew),(by first|exact YS.two i oa|exact YS.PL i oa),x⟩
  simp[intOf];omega
 have aS:decide ((t:Int)<=a+q*2+1)=Z:=(by have:=zb m;simp;omega);obtain rfl:s=3:=oa;go_wp2_with fail
 go_end0
 refine⟨rfl,?_⟩;rw[zb v];exact HS
end
section
open Go.RowKit Go.Sort
theorem zho {h:Hint}(e:YM h=2):h=.decreasing:=by cases h<;>simp[YM] at e ⊢
theorem Ex.same {a b c:E}{g off:Nat}{d:Array Int}(h:Ex a g off d b)(e:g<A (V b))(k:zke b c):Ex a g off d c:=
 ⟨h.1.trans (k.mono (λ_ _ f=>f.elim)),λt i=>⟨(k.cell (p:=⟨g,off+t,U⟩) e id).trans (h.2 t i).1,(k.frozen (p:=⟨g,off+t,U⟩) e id).trans (h.2 t i).2⟩⟩
theorem zga {x y p q:Nat}(a:q<=p)(b:y<=x):decide (((x:Int)-(y:Int)) / 8<=(p:Int)-(q:Int))=decide (p-q≥(x-y) / 8):=
 decide_eq_decide.2 ⟨λh=>oa,λh=>oa⟩
theorem NJ (hn:n<1099511627776):∀(N a b limit:Nat) (d:Array Int) (w:E),b-a<N->d.size=n->Holds (M Ug) w g off d->g<A (V w)->a<=b->b<=n->limit<1000->Below ltInt a b d->Uh dQ 159 #[K (I ⟨g,off,U⟩) n cap,M J a,M J b,M J limit] w λe S=>e=R (Ue #[])/\Ex w g off (pdq ltInt d a b limit G G) S:=by
 intro N
 induction N with
 |zero=>intro _ _ _ _ _ h;exact absurd h (Bs _)
 |succ N ih=>
  intro aa b0 limit d w hN a8 hH aJ bv bQ bC a5;have IH:=zd ih;clear ih;obtain⟨ar,ht⟩:∃ar,pdq ltInt d aa b0 limit G G=ar:=⟨_,rfl⟩
  rw[ht];have aZ:H (d.size=n/\Below ltInt aa b0 d/\Ex w g off d w/\pdq ltInt d aa b0 limit G G=ar):=⟨a8,a5,Ex.refl hH,ht⟩
  clear a8 a5 hH ht;go_enter Tryz.func159,Tryz.ntmps159;go_wp2_with fail;go_loopw[1,2,3,8,9] (λva vb vl v8 v9 wr=>∃(a b f:Nat) (j k:Bool) (i:Array Int),va=M J a/\vb=M J b/\vl=M J f/\v8=C j/\v9=C k/\aa<=a/\a<=b/\b<=b0/\f<1000/\H (i.size=n/\Below ltInt a b i/\Ex w g off i wr/\pdq ltInt i a b f j k=ar)) (λva vb _ _ _ _=>(intOf vb-intOf va).toNat);exact⟨aa,b0,limit,G,G,d,rfl,rfl,rfl,rfl,rfl,AD _,bv,AD _,bC,aZ⟩;clear aZ;obtain⟨a,b,f,j,k,i,rfl,rfl,rfl,rfl,rfl,bO,bu,bR,bV,HR⟩:=hrel;have hb:b<=n:=oa;have⟨X,a4,hX,a9⟩:=zb HR;have W:b<=i.size:=oa;have ag:i.size<1099511627776:=oa;have l:=zd hX;have B:=zd a9;have bm:=zd a4;have L:=zd X;clear HR hX a9 a4;by_cases T:b-a<=12
  .have bs:(b:Int)-a<=12:=oa;have y:=Gz g off cap a b i wr l.2 bu W ag;rw[X] at y;have HC:=zd y;clear y X W ag;go_wp2_with(go_at_call 194;refine HC.mono ?_;rintro e w1 ⟨rfl,m⟩;have p:=zd (l.trans m);clear m)
   (try simp only[Exit.inBlock,Exit.then]);refine bodyPost_ret (results_none rfl _ _ _) rfl ?_;refine⟨rfl,?_⟩;rw[<-zb B,pdq_small T];exact p
  have bs:¬(b:Int)-a<=12:=oa;have bM:decide ((b:Int)-a<=12)=Z:=ou;by_cases hl:f=0
  .subst hl;have y:=Mh g off cap a b i wr l.2 oa W ag;rw[X] at y;have HC:=zd y;clear y X W ag;go_wp2_with(go_at_call 195;refine HC.mono ?_;rintro e w1 ⟨rfl,m⟩;have p:=zd (l.trans m);clear m)
   (try simp only[Exit.inBlock,Exit.then]);refine bodyPost_ret (results_none rfl _ _ _) rfl ?_;refine⟨rfl,?_⟩;rw[<-zb B,pdq_heap T rfl];exact p
  have bT:((f:Int) == 0)=Z:=ou;have HF:=zd (rd_facts (limit:=f) (wb:=j) (wp:=k) swo_ltInt partialInsertionSort_holds reverseRange_holds (show a<b by omega) W bm);clear X W ag;have bU:=rd_lim_le (lt:=ltInt) (d:=i) (a:=a) (b:=b) (limit:=f) (wb:=j) (wp:=k);have au:=zd (λw9 (h9:Ex w g off i w9)=>I4 g off cap a b i w9 h9.2 (AM aJ h9.1.size) oa (by rw[zb L];omega) (by rw[zb L];omega));rw[zb L] at au;go_upto_if 35 with fail;go_cut[3] from 19 to 133 (λs3 u=>s3=M J (rd ltInt i a b f j k).lim/\H (Ex w g off (rd ltInt i a b f j k).d1 u))
  case first=>
   cases j
   .go_wp2_with(go_at_call 196;refine(zb au _ l).mono ?_;rintro e w1 ⟨rfl,m⟩;have p:=zd (l.trans m);clear m);go_meet;refine⟨?_,p⟩;show M J ((f:Int)-1)=M J ((f-1:Nat):Int);congr 1;omega
   go_wp2_with fail;go_meet;exact⟨rfl,l⟩
  case rest=>
   clear l au;obtain⟨rfl,l⟩:=hcut;have⟨s1,B1,bS,s2,B2,x,s3,B3⟩:=zb HF;have P:=zd (s1.trans L);have aB:=zd (s2.trans L);have r:=zd (s3.trans L);have aS:=zd B3;clear HF s1 B1 s2 B2 s3 B3;have aw:=zd (II g off cap a b (rd ltInt i a b f j k).d1 wc l.2 (AM aJ l.1.size) oa (by rw[zb P];omega) (by rw[zb P];omega));rw[zb P] at aw;have aT:H (Uh dQ 197 #[K (I ⟨g,off,U⟩) n cap,M J a,M J b] wc λe S=>e=R (Ue #[M J ((rd ltInt i a b f j k).c.1:Nat),M J (YM (rd ltInt i a b f j k).c.2)])/\zke wc S):=zb aw;clear aw;go_upto_if 50 with(go_at_call 197;refine aT.mono ?_;rintro e w2 ⟨rfl,ba⟩);have a0:=zd (l.same (AM aJ l.1.size) ba);clear l aT ba;have l:=a0;clear a0;go_cut[11,12] from 19 to 133 (λbD aN u=>bD=M J (rd ltInt i a b f j k).pivot/\aN=M J (YM (rd ltInt i a b f j k).hint)/\H (Ex w g off (rd ltInt i a b f j k).d2 u))
   case first=>
    by_cases hh:(rd ltInt i a b f j k).c.2=.decreasing
    .have bw:YM (rd ltInt i a b f j k).c.2=2:=(by rw[hh];rfl);have HD:=zd (rd_dec hh);clear hh;have aU:=zd (DG g off cap a b (rd ltInt i a b f j k).d1 w2 l.2 oa (by rw[zb P];omega) (by rw[zb P];omega));rw[zb P] at aU;go_wp2_with(go_at_call 198;refine aU.mono ?_;rintro e w3 ⟨rfl,m⟩;have p:=zd (l.trans m);clear m);go_meet;have⟨e2,aH,aE⟩:=zb HD;refine⟨?_,by rw[aE];rfl,by show Ex _ _ _ _ _;rw[e2];exact zb p⟩;rw[aH];congr 1;omega
    have bw:¬(YM (rd ltInt i a b f j k).c.2=2):=λh=>hh (zho h);have HD:=zd (rd_not hh);clear hh;go_wp2_with fail;go_meet;have⟨e2,aH,aE⟩:=zb HD;exact⟨by rw[aH],by rw[aE],by show Ex _ _ _ _ _;rw[e2];exact zb l⟩
   case rest=>
    clear l;obtain⟨rfl,rfl,l⟩:=hcut;go_upto_region 15 with fail;go_cut[12,68] from 19 to 133 (λaN bE u=>aN=M J (YM (rd ltInt i a b f j k).hint)/\bE=C (j && k && decide ((rd ltInt i a b f j k).hint=.increasing))/\H (Ex w g off (rd ltInt i a b f j k).d2 u))
    case first=>
     cases j<;>cases k<;>cases hh3:(rd ltInt i a b f _ _).hint <;>
      (have bx:=congrArg YM hh3
       simp only[YM] at bx;go_wp2_with fail;go_meet;exact⟨by simp[hh3,YM],by simp[hh3,YM],l⟩)
    case rest=>
     clear l;obtain⟨rfl,rfl,l⟩:=hcut;go_upto_if 68 with fail;go_cut[72] from 19 to 133 (λbY u=>(rd ltInt i a b f j k).pi.2=Z/\H (Ex w g off (rd ltInt i a b f j k).pi.1 u))
     case first=>
      cases h68:(j && k && decide ((rd ltInt i a b f j k).hint=.increasing))
      .have ac:=zd (rd_pi_no h68);go_wp2_with fail;go_meet;exact⟨by rw[zb ac],by show Ex _ _ _ _ _;rw[zb ac];exact zb l⟩
      have aG:=rd_pi_yes h68;have aV:=zd (DX g off cap a b (rd ltInt i a b f j k).d2 _ l.2 oa (by rw[zb aB];omega) (by rw[zb aB];omega));rw[zb aB,<-aG] at aV;have ac:=zd aG;clear aG;go_wp2_with(go_at_call 199;refine aV.mono ?_;rintro e w4 ⟨rfl,m⟩;have p:=zd (l.trans m);clear m)
      all_goals first
       |(have ab:(rd ltInt i a b f j k).pi.2=Z:=by first|assumption|(rw[zb ac];assumption)
         go_meet;exact⟨ab,p⟩)
       |(have ab:(rd ltInt i a b f j k).pi.2=G:=by first|assumption|(rw[zb ac];assumption)
         (try simp only[Exit.inBlock,Exit.then]);refine bodyPost_ret (results_none rfl _ _ _) rfl ?_
         refine⟨rfl,?_⟩;rw[<-zb B,pdq_done T hl ab];exact p)
     case rest=>
      clear l;have⟨ab,l⟩:=hcut;have aA:=zd ab;clear ab;have⟨bL,HG,bz,bA⟩:=l.OI r;go_upto_region 17 with fail;go_cut[87] from 19 to 133 (λbF u=>bF=C (decide (a > 0) && !ltInt (rd ltInt i a b f j k).pi.1[a-1]! (rd ltInt i a b f j k).pi.1[(rd ltInt i a b f j k).pivot]!)/\H (Ex w g off (rd ltInt i a b f j k).pi.1 u))
      case first=>
       obtain ha|ha:=MK a
       .have bB:decide ((0:Int)<(a:Int))=Z:=ou;go_wp2_with fail;go_big_quiet(first|(go_at_call 200;refine Uq (zV _ _ _)));go_wp2_with fail;go_meet;exact⟨by simp[ha],l.drewN _⟩
       have bB:(0:Int)<(a:Int):=oa;go_wp2_with fail;go_big_quiet(first|(go_at_call 200;refine Uq (zV _ _ _)));go_wp2_with fail;go_meet;exact⟨by rw[<-zb HG,<-zb HG];simp[ha],l.drewN _⟩
      case rest=>
       clear l bz bA HG;obtain⟨rfl,l⟩:=hcut;cases h87:(decide (a > 0) && !ltInt (rd ltInt i a b f j k).pi.1[a-1]! (rd ltInt i a b f j k).pi.1[(rd ltInt i a b f j k).pivot]!)
       .obtain⟨o,ap,q,t⟩:∃o ap q,partition ltInt (rd ltInt i a b f j k).pi.1 a b (rd ltInt i a b f j k).pivot=(o,ap,q):=⟨(partition ltInt (rd ltInt i a b f j k).pi.1 a b (rd ltInt i a b f j k).pivot).1,(partition ltInt (rd ltInt i a b f j k).pi.1 a b (rd ltInt i a b f j k).pivot).2.1,(partition ltInt (rd ltInt i a b f j k).pi.1 a b (rd ltInt i a b f j k).pivot).2.2,rfl⟩
        have⟨r1,r2,r3,r4,r5,r6,r7⟩:=round_part swo_ltInt (partition_holds _) x.1 x.2 (show b<=(rd ltInt i a b f j k).pi.1.size by rw[zb r];omega) aS t;have F:=zd (L8 g off cap a b (rd ltInt i a b f j k).pivot (rd ltInt i a b f j k).pi.1 _ l.2 x.1 x.2 (by rw[zb r];omega) (by rw[zb r];omega));rw[zb r,t] at F;have ak:=zd h87;have s:=zd t;have v:=zd (r3.trans r);have al:=zd r4;have aY:=zd r5;have bp:=zd r6;have br:=zd r7;clear t h87 r3 r4 r5 r6 r7;go_upto_if 113 with(go_at_call 202;refine F.mono ?_;rintro e w7 ⟨rfl,m⟩;have p:=zd (l.trans m);clear m);clear l F;have bX:=p.1.size;by_cases h4:o-a<b-o
        .have bt:(o:Int)-(a:Int)<(b:Int)-(o:Int):=oa;have HI:=zd (zb IH a o (rd ltInt i a b f j k).lim q w7 oa v p.2 oa oa oa oa al);have⟨z,sL⟩:=pdq_sorts ltInt swo_ltInt q a o (rd ltInt i a b f j k).lim G G oa (by rw[zb v];omega) al;have HP:=zd z;have bn:=zd (zb bp _ z sL).1;clear z sL;go_wp2_with(go_at_call 159;refine HI.mono ?_;rintro e w8 ⟨rfl,m⟩;have HT:=zd (p.trans m);clear m);go_roundw
         .refine⟨o+1,b,(rd ltInt i a b f j k).lim,decide (o-a≥(b-a) / 8),ap,pdq ltInt q a o (rd ltInt i a b f j k).lim G G,Ae,rfl,rfl,?_,rfl,oa,oa,oa,oa,HP.1.trans v,bn,HT,?_⟩;exact congrArg C (zga oa oa);rw[<-zb B,pdq_left T hl aA ak (by rw[zb s];exact⟨r1,r2⟩) (by rw[zb s];exact h4),zb s]
         simp[intOf];omega
        (have bt:¬((o:Int)-(a:Int)<(b:Int)-(o:Int)):=oa;have hi:=zb IH (o+1) b (rd ltInt i a b f j k).lim q w7 oa v p.2 oa oa oa oa aY;rw[show((o+1:Nat):Int)=(o:Int)+1 by omega] at hi;have HI:=zd hi;clear hi;have⟨z,sL⟩:=pdq_sorts ltInt swo_ltInt q (o+1) b (rd ltInt i a b f j k).lim G G oa (by rw[zb v];omega) aY;have HP:=zd z;have bo:=zd (zb br _ z sL).1;clear z sL;go_wp2_with(go_at_call 159;refine HI.mono ?_;rintro e w8 ⟨rfl,m⟩;have HT:=zd (p.trans m);clear m);go_roundw);refine⟨a,o,(rd ltInt i a b f j k).lim,decide (b-o≥(b-a) / 8),ap,pdq ltInt q (o+1) b (rd ltInt i a b f j k).lim G G,rfl,rfl,rfl,?_,rfl,oa,oa,oa,oa,HP.1.trans v,bo,HT,?_⟩;exact congrArg C (zga oa oa);rw[<-zb B,pdq_right T hl aA ak (by rw[zb s];exact⟨r1,r2⟩) (by rw[zb s];exact h4),zb s];simp[intOf];omega
       have an:=h87;simp only[B8,decide_eq_true_eq,Ly] at an;obtain⟨o,q,t⟩:∃o q,partitionEqual ltInt (rd ltInt i a b f j k).pi.1 a b (rd ltInt i a b f j k).pivot=(o,q):=⟨(partitionEqual ltInt (rd ltInt i a b f j k).pi.1 a b (rd ltInt i a b f j k).pivot).1,(partitionEqual ltInt (rd ltInt i a b f j k).pi.1 a b (rd ltInt i a b f j k).pivot).2,rfl⟩
       (have⟨r1,r2,r3,r4,_⟩:=round_eq swo_ltInt (partitionEqual_holds _) an.1 x.1 x.2 (show b<=(rd ltInt i a b f j k).pi.1.size by rw[zb r];omega) aS an.2 t;have F:=zd (Gk g off cap a b (rd ltInt i a b f j k).pivot (rd ltInt i a b f j k).pi.1 _ l.2 x.1 x.2 (by rw[zb r];omega) (by rw[zb r];omega));rw[zb r,t] at F;have ak:=zd h87;have s:=zd t;have v:=zd (r3.trans r);have al:=zd r4;clear t h87 an r3 r4;go_wp2_with(go_at_call 201;refine F.mono ?_;rintro e w7 ⟨rfl,m⟩;have p:=zd (l.trans m);clear m);go_roundw);exact⟨o,b,(rd ltInt i a b f j k).lim,j,k,q,rfl,rfl,rfl,rfl,rfl,oa,oa,oa,oa,v,al,p,by rw[<-zb B,pdq_eq T hl aA ak (by rw[zb s];exact⟨r1,r2⟩),zb s]⟩;simp[intOf];omega
theorem LU (w:E)(h:Holds (M Ug) w g 0 d)(k:g<A (V w))(l:d.size<1099511627776):Uh L 118 #[K (I ⟨g,0,U⟩) d.size cap] w λe S=>e=R (Ue #[])/\Ex w g 0 (sort ltInt d) S:=by
 have m:Lib.bitLen d.size<=62:=Lib.bitLen_le d.size 62 oa oa;have b:Lib.bitLen d.size=bitsLen d.size:=bitLen_eq _ oa;have f:=zd (NJ g 0 d.size cap l (d.size+1) 0 d.size (Lib.bitLen d.size) d w oa rfl h k oa oa oa (Or.inl rfl));have j:H (pdq ltInt d 0 d.size (Lib.bitLen d.size) G G=sort ltInt d):=by show _=_;rw[b];rfl
 have c:=zd (zb7 d.size oa);have wr:IntKind.u64.wrap (d.size:Int)=d.size:=by simp[IntKind.wrap,IntKind.bits,IntKind.signed];omega
 clear h b;generalize d.size=n at *;go_enter Tryz.func118,Tryz.ntmps118;go_wp2_with(first|(go_at_call 160;refine(zb c _).mono ?_;rintro e S ⟨rfl,rfl⟩)|(go_at_call 159;refine f.mono ?_;rintro e o ⟨rfl,a⟩;have i:=zd a;clear a))
 go_end0
 refine⟨rfl,?_⟩;rw[<-zb j];exact i
theorem zaG:(sort ltInt d).toList.Pairwise (λx y=>x<=y)/\(sort ltInt d).toList.Perm d.toList:=by
 have h:(sort ltInt d).toList=d.toList.mergeSort (λx y=>decide (x<=y)):=by have:=sortInt d.toList;rwa [Array.toArray_toList] at this
 rw[h];refine⟨?_,List.mergeSort_perm _ _⟩;have e:=List.pairwise_mergeSort (le:=λx y:Int=>decide (x<=y)) (by intro a b c;simp;omega) (by intro a b;simp;omega) d.toList;exact e.imp (by intro a b h;simpa using h)
end
section
open Go.RowKit Go.Shelf Go.Lib Go.Sort
theorem QI:(compactUpTo d d.size).length<=d.size:=by unfold compactUpTo;rw[CW];exact AP (List.length_filter_le _ _) ov
theorem Fa (w:E)(h:Holds (M Ug) w g 0 d)(b:d.size<1099511627776)(a:d.size<=cap):Uh L 119 #[K (I ⟨g,0,U⟩) d.size cap] w λe S=>e=R (K (I ⟨g,0,U⟩) (compactUpTo d d.size).length cap)/\Ex w g 0 (compactUpTo d d.size++dK (d.size-(compactUpTo d d.size).length) 0).toArray S:=by refine(AnyE.slices_Compact zc8 (M Ug) (λ_=>rfl) (EqlAt.intD _ _ _) (NeqAt.intD _ _ _) 0 (λw=>om) g 0 cap d w h oa a).mono ?_;rintro e S ⟨rfl,q,rfl⟩;exact⟨rfl,zc9,holds_putRow _ _ g 0 d _ (holds_ahead _ w q g 0 d h) (by have:=QI d;simp;omega)⟩
theorem zhp {d:Array Int}(h:d.toList.Pairwise (λx y=>x<=y)):∀i j,i<=j->j<d.size->d[i]!<=d[j]!:=by
 intro i j e a;obtain b|c:=FU i j;have:=Lk.1 h i j ou (by simpa using a) b;rw[getElem!_pos d i oa,getElem!_pos d j a];simpa using this
 grind
theorem zbC {d:Array Int}(h:∀i j,i<=j->j<d.size->d[i]!<=d[j]!):∀m,m<=d.size->(compactUpTo d m).Pairwise (λx y=>x<y)/\(∀x∈compactUpTo d m,∃j,j<m/\d[j]! = x)/\∀j,j<m->d[j]!∈compactUpTo d m:=by
 intro m
 induction m with
 |zero=>intro _;exact⟨by simp[compactUpTo],by simp[compactUpTo],λj b=>oa⟩
 |succ m l=>
  intro q;have⟨g,k,r⟩:=l oa;rw[compactUpTo_succ];by_cases a:keeps d m=G
  .rw[IN a];refine⟨Io.2 ⟨g,ov,λx c y f=>?_⟩,λx c=>?_,λj b=>?_⟩;simp at f;subst f;obtain⟨j,b,rfl⟩:=k x c;simp[keeps] at a;have n:=h j (m-1) oa oa;have o:=h (m-1) m oa oa;obtain a|a:=a;omega;omega
   grind
   grind
  rw[iN a,BW];have p:m≠0/\d[m]! = d[m-1]!:=(by unfold keeps at a;simp only[decide_eq_true_eq] at a;exact⟨λe=>a (.inl e),Classical.byContradiction λe=>a (.inr e)⟩);refine⟨g,λx c=>?_,λj b=>?_⟩
  grind
  grind
theorem Jq:(compactUpTo (sort ltInt d) (sort ltInt d).size).Pairwise (λx y=>x<y)/\∀x,x∈compactUpTo (sort ltInt d) (sort ltInt d).size↔x∈d.toList:=by
 have⟨c,f⟩:=zaG d;have⟨g,i,h⟩:=zbC (zhp c) _ (AD _);refine⟨g,λx=>⟨λb=>?_,λb=>?_⟩⟩
 grind
 have⟨j,a,e⟩:=ML (f.mem_iff.2 b);have:=h j (by simpa using a);rw[getElem!_pos _ j (by simpa using a)] at this;simpa [<-e] using this
attribute [local go_sem] Oper.semAt_some
theorem zhq (w:E):Uh L 119 #[K U 0 0] w λe S=>e=R (K U 0 0)/\zke w S:=by have a:H (zke w w):=zg.refl _ _;go_enter Tryz.func119,Tryz.ntmps119;go_wp2_with fail;go_ret;exact⟨rfl,a⟩
theorem KN {a:Addr}(h:S.heap[a.block]?=w.heap[a.block]?):dz S a=dz w a:=by unfold dz;rw[h]
structure YT (w:E)(O:Aj)(X:E)(B:Nat)(cs:Ar):Prop where
 ex:∃sv,T X ⟨A (V w),0,U⟩=I sv/\dA X (A (V w)+1) 21 1 sv (Bc cs) (qj cs)/\(Bc cs)<=B/\∀k,O k↔k=A (V w)\/W sv=I k
 fr:dz X ⟨A (V w),0,U⟩=Z
 only:zke w X
 size:A (V w)+1<=A (V X)
theorem YT.keep {X':E}{O:Aj}{B B2:Nat}{cs:Ar}(h:YT w O X B cs)(n:A (V w)+1<=B2)(k:zg (λk=>B2<=k/\¬O k) X X'):YT w O X' B cs:=by
 have⟨sv,d,e,i,a⟩:=h.ex;have b:¬(B2<=A (V w)/\¬O (A (V w))):=λh=>oa;have o:=h.size;exact⟨⟨sv,(k.cell (p:=⟨A (V w),0,U⟩) (by show _<_;simp only;omega) b).trans d,zk e k (λg l c=>c.2 ((a g).2 (.inr l))),i,a⟩,(k.frozen (p:=⟨A (V w),0,U⟩) (by show _<_;simp only;omega) b).trans h.fr,
  ⟨k.os.trans h.only.os,k.tape.trans h.only.tape,k.output.trans h.only.output,AP h.only.size k.size,λj m _=>(k.block j oa (λc=>oa)).trans (h.only.block j m id)⟩,AP h.size k.size⟩
theorem YT.lt {O:Aj}{B:Nat}{cs:Ar}(h:YT w O X B cs):∀k,O k->k<A (V X):=λk c=>by have⟨sv,d,a,f,b⟩:=h.ex;rcases(b k).1 c with e|e;have:=h.size;omega;exact(zh a k e).2
theorem YT.up {O:Aj}{B C:Nat}{cs:Ar}(h:YT w O X B cs)(e:B<=C):YT w O X C cs:=by have⟨sv,a,b,d,c⟩:=h.ex;exact⟨⟨sv,a,b,oa,c⟩,h.fr,h.only,h.size⟩
theorem YT.push {d:E}{O:Aj}{B B':Nat}{sv c:Y}{cs:Ar}{a b:Int}(h:YT w O X B cs)(m:T X ⟨A (V w),0,U⟩=I sv)(r:dA X (A (V w)+1) 21 1 sv (Bc cs) (qj cs))(N:Bc cs+2<=B')(n:∀k,O k↔k=A (V w)\/W sv=I k)(l:zg (λk=>W sv=I k) X d) (q:d.ownsRow (A (V w)+1) 21 1 c (Bc cs+2) (qj cs++[M Ug a,M Ug b])) (L:∀k,W c=I k->W sv=I k\/A (V X)<=k):YT w (λk=>k=A (V w)\/W c=I k) (d.setCell ⟨A (V w),0,U⟩ c) B' (cs++[a,b])/\(∀k,(k=A (V w)\/W c=I k)->O k\/A (V X)<=k)/\zg O X (d.setCell ⟨A (V w),0,U⟩ c):=by
 have y:=h.size;have o:¬W sv=I (A (V w)):=λe=>by have:=(zh r _ e).1;omega
 have x:¬W c=I (A (V w)):=λe=>by have:=(zh q _ e).1;omega
 have c1:=(l.cell (p:=⟨A (V w),0,U⟩) (zic _ _ m) o).trans m;have s:=(l.frozen (p:=⟨A (V w),0,U⟩) (zic _ _ m) o).trans h.fr;have z:zg (λk=>k=A (V w)) d (d.setCell ⟨A (V w),0,U⟩ c):=(zg.refl (λk=>k=A (V w)) d).setCell (p:=⟨A (V w),0,U⟩) (.inl rfl) _;have i:zg O X (d.setCell ⟨A (V w),0,U⟩ c):=(l.mono (λk _ e=>(n k).2 (.inr e))).setCell (p:=⟨A (V w),0,U⟩) (.inl ((n _).2 (.inl rfl))) _;have v:(cs++[a,b]).length=Bc cs+2:=ov;refine⟨⟨⟨c,AX _ _ _ c1,?_,oa,λk=>Iff.rfl⟩,(zl _ _ _ _).trans s,?_,AP y i.size⟩,λk F=>?_,i⟩;rw[v,J1];exact zk q z (λg t e=>x (e ▸ t))
 .exact⟨i.os.trans h.only.os,i.tape.trans h.only.tape,i.output.trans h.only.output,AP h.only.size i.size,λj u _=>(i.block j (by have:=h.only.size;omega) (λe=>by
   rcases(n j).1 e with e|e;omega;have:=(zh r _ e).1;omega)).trans (h.only.block j u id)⟩
 grind
theorem YT.row {g n cap:Nat}{cs:Ar}(h:X.ownsRow (A (V w)+1) 21 1 (K (I ⟨g,0,U⟩) n cap) n (qj cs)):Holds (M Ug) X g 0 cs.toArray/\n=Bc cs/\n<=cap:=by
 obtain⟨a,_⟩|⟨l,k,b,a,m,d,o,p,q,i⟩:=h.2;cases a;cases a;have e:Bc cs=n:=by have:=h.1;simpa [qj] using this
 have j:∀t,t<n->b[t]?=I (M Ug (cs.toArray[t]!)):=λt f=>by have c:(b.toList.take (n*1))[t]?=(qj cs)[t]?:=(by rw[i]);rw[MF oa] at c;rw[<-MZ,c];rw[getElem!_pos _ t ou];simp[qj,List.getElem?_map,List.getElem?_eq_getElem (show t<Bc cs by omega)]
 refine⟨λt f=>⟨?_,?_⟩,e.symm,oa⟩;unfold T;rw[d];simpa using j t (by simpa [e] using f);unfold dz;rw[d];simp
def BI (l:Ai):Ar:=l.flatMap (λy=>[y.1,y.2+1])
def Zn (a:AW->Ai)(xs:List AW):Ar:=xs.flatMap (λp=>BI (a p))
theorem zhr (l:Ai)(y:Int×Int):BI (l++[y])=BI l++[y.1,y.2+1]:=by simp[BI]
theorem zhs (a:AW->Ai)(xs:List AW)(p:AW):Zn a (xs++[p])=Zn a xs++BI (a p):=by simp[Zn]
def vm (cs:Ar):Ar:=compactUpTo (sort ltInt cs.toArray) (sort ltInt cs.toArray).size
def UM (w S:E)(v:Y)(cs:Ar):Prop:=(v=K U 0 0/\cs=[])\/∃g cap,v=K (I ⟨g,0,U⟩) (vm cs).length cap/\A (V w)<g/\Holds (M Ug) S g 0 (vm cs).toArray
theorem kC:(sort ltInt d).size=d.size:=by have:=(zaG d).2.length_eq;simpa using this
theorem Holds.front {g:Nat}{zs:Ar}{k:Nat}(h:Holds (M Ug) w g 0 (zs++dK k 0).toArray):Holds (M Ug) w g 0 zs.toArray:=by
 intro j a;have d:j<Bc zs:=by simpa using a
 have⟨b,c⟩:=h j ou;refine⟨?_,c⟩;rw[b,getElem!_pos _ j ou,getElem!_pos _ j a];simp[List.getElem_append_left d]
theorem Jr (N:AW->Ai)(gf:Nat)(lb:Array Y)(xs:List AW)(D:Aj)(w:E)(eg:∀args w,(callFunc gf args).run dQ w=.ok (.enter gf args) w)(bl:TO Fence.wide 8 dQ gf lb Wd xs D w)(hD:∀k,D k->k<dg (V w))(hl:Bc xs<=1001)(bm:∀p∈xs,∃A,yM w A (A9 p) (N p)/\zQ (N p)):Uh dQ 64 #[.func (.func gf) #[] lb] w λe S=>(∃v,e=R v/\UM w S v (Zn N xs))/\zke w S:=by
 have⟨i0,hi,aJ,aK,aL⟩:=info_parts Tryz.Pr;have bF:=zd bl;have HD:=zd hD;have bG:=zd bm;have bx:=zd (Ur hi (Ur aJ (Ur aK aL)));clear bl hD bm hi aJ aK aL;refine(callsIn_wide (n:=9)).1 ?_;refine callsIn_of_wp_marks Tryz.func64 rfl trivial ?_ rfl;simp only[Tryz.ntmps64,Cu,BH,Cc,Nat.reduceAdd,Nat.reduceSub,G9,He,G7,G8,Cd,Ci];gi_wp2;have aj:H (zke w (dB w (Ub #[K U 0 0] 157))):=Ag;have cm:(dB w (Ub #[K U 0 0] 157)).heap.size=dg (V w)+1:=ov;have bw:H (YT w (λk=>k=dg (V w)) (dB w (Ub #[K U 0 0] 157)) 0 []):=⟨⟨K U 0 0,zj w _ rfl _ _ 0 _ rfl,A0 _ _ _ _,AD _,(λk=>by simp[dH])⟩,zt w _ rfl _ _ 0,aj,oa⟩
 generalize dB w (Ub #[K U 0 0] 157)=w1 at *;refine zb5 (F:=Fence.wide) rfl oa (gf:=gf) (lb:=lb) rfl trivial eg
  (bF.later aj) (λ_=>rfl) (λL O X=>YT w O X (2300000*Bc L) (Zn N L)) (λk=>k=dg (V w)) (λk q=>oa) (λk q=>by have:=zb HD k q;exact⟨oa,oa⟩) (λL O X X' h k=>h.keep oa k) bw
  (λx a ad=>∃k,a = { tmps:=#[.func (.func gf) #[] lb,undef,K U 0 0,Ua (I ⟨dg (V w),0,U⟩),Ua (I ⟨k,0,U⟩),undef,undef,.func (.func gf) #[] lb,Uf #[A9 x],undef,undef,undef,undef,undef,undef,undef,undef,undef,undef,undef,undef,undef,undef],defers:=[] }/\dx ad ⟨k,0,U⟩=I (A9 x)) ?ax ?assign ?body ?done
 case ax=>
  rintro x a ad l o o' ⟨k,h1,h2⟩ bg ho;have bU:k≠l:=by
   rintro rfl;unfold dx at h2;rw[bg] at h2;cases o with
   |cells c T f=>simp[Obj.isCells] at ho
   |_=>simp at h2
  exact⟨k,h1,(FX (w:=ad) (dP bU)).trans h2⟩
 case assign=>
  intro l x W bI hK;have⟨xa,xn,xc⟩:=x;unfold Wd;simp only[A9] at hK ⊢;have hA:zke W (dB W (Ub #[K xa xn xc] 152)):=Ag;have hC:(dB W (Ub #[K xa xn xc] 152)).cell? ⟨dg (V W),0,U⟩=I (K xa xn xc):=zj W _ rfl _ _ 0 _ rfl;gi_wp2;exact hK _ _ hA ⟨dg (V W),rfl,hC⟩
 case body=>
  rintro l L O x a ad cf b9 ⟨r,hr⟩ hI bh ⟨k,rfl,q⟩;have⟨A,aH,aG⟩:=zb bG x (bh.subset ov);obtain⟨ls,aR⟩:∃ls,N x=ls:=⟨_,rfl⟩
  rw[aR] at aH aG;have bB:H (Zn N (L++[x])=Zn N L++BI ls):=by show _=_;rw[zhs,aR]
  clear aR;have⟨xa,xn,xc⟩:=x;simp only[A9] at q aH ⊢;have aA:=zd hI;have cg:=aG.len;have bW:=bh.length_le;simp only[AO,Ce] at bW;have bC:=zd aG;have bD:=zd (aH.mono (B:=λg=>g<dg (V w)) (λg hg _=>hg));clear hI aH aG;gi_wp2;refine⟨trivial,(CallsIn.inRound l (callsIn_wide.2 (QG _ _ ⟨_,_,_,rfl⟩))).mono ?_⟩;rintro e V1 ⟨v,rfl,aV,rfl,cd,bf,b⟩;have aw:=zd b;have a4:=zd bf;have bX:=(b.block l (A1.1 hr).1 id).trans hr;have cl:=aA.size;have ck:=b.size;have a3:H (YT w O V1 (2300000*Bc L) (Zn N L)):=aA.keep (B2:=dg (V w)+1) (AD _) (b.mono (λ_ _ f=>f.elim));have bE:=zd (bD.keep (aA.only.trans b) (λ_ _ f=>f));clear b bf;gi_wp2;refine zb6 (F:=Fence.wide.inRound l) rfl bX oa (gf:=193) (lb:=#[Ua (I ⟨aV,0,U⟩)]) rfl trivial (enters_of Tryz.func193 om rfl)
   (YB _ ls _ aV V1 bE a4 oa (9-1-1-1) oa) (λ_=>rfl) (λai O2 X=>YT w O2 X (2300000*Bc L+2*Bc ai) (Zn N L++BI ai)/\zg O V1 X/\∀k,O2 k->O k\/dg (V V1)<=k) O a3.lt ?d (λai O2 X X' h k=>⟨h.1.keep oa k,⟨k.os.trans h.2.1.os,k.tape.trans h.2.1.tape,k.output.trans h.2.1.output,AP h.2.1.size k.size,λj z hn=>(k.block j (AM z h.2.1.size) (λhp=>oa)).trans (h.2.1.block j z hn)⟩,h.2.2⟩) ⟨by simpa [BI] using zb a3,zg.refl _ _,λk q=>.inl q⟩
   (λy=>{ tmps:=#[.func (.func gf) #[] lb,undef,K U 0 0,Ua (I ⟨dg (V w),0,U⟩),Ua (I ⟨k,0,U⟩),M Ug y.1,M Ug y.2,.func (.func gf) #[] lb,Uf #[K xa xn xc],Uf #[K xa xn xc],.func (.func 193) #[] #[Ua (I ⟨aV,0,U⟩)],M Ug y.1,M Ug y.2,undef,undef,undef,undef,undef,undef,undef,undef,undef,undef],defers:=[] }) ?assign2 ?body2 ?done2
  case d=>
   have⟨sv,P,s,q3,q4⟩:=aA.ex;rintro j (rfl|⟨h1,h2⟩);refine⟨zic V1 _ a4,λz=>?_⟩;rcases(q4 j).1 z with e|e;omega;have:=(zh s j e).2;omega;refine⟨h2,λz=>?_⟩;rcases(q4 j).1 z with e|e;omega;have:=(zh s j e).1;omega
  case assign2=>
   intro l' y W bI hK;unfold Z3;gi_wp2;exact hK
  case body2=>
   rintro l' ai O2 y X bg ca ⟨r',cj⟩ ⟨m,i,aI⟩ bi;have hy:=bC.2 y (bi.subset ov);have bV:=bi.length_le;simp only[AO,Ce] at bV;obtain⟨cs,ab⟩:∃cs,Zn N L++BI ai=cs:=⟨_,rfl⟩
   rw[ab] at m;have bs:H (∀y,Zn N L++BI (ai++[y])=cs++[y.1,y.2+1]):=(by intro y;rw[zhr,<-ab,Bu]);clear ab;have⟨sv,P,s,q3,q4⟩:=m.ex;have q5:=m.fr;obtain⟨pa,pn,pc,rfl⟩:=zq s;have⟨hi,aJ,aK,aL⟩:=zb bx;have⟨ya,yb⟩:=y;unfold BK at hy;simp only[] at hy ⊢;have cn:wrap32 (yb+1)=yb+1:=(by unfold wrap32;omega);have bH:=zd m;have aP:=zd s;have aO:=zd (Ur i aI);have bP:=m.size;clear m s i aI
   gi_wp2_with (gi_at_builtin;refine zb ?_)
   refine zd ?_;refine zbs _ rfl _ _ 157 rfl (dg (V w)+1) 21 i0 (M Ug 0) 1 4 Tryz.underlying157 hi aJ aK aL rfl od (K pa pn pc) (Bc cs) (qj cs) rfl (AZ aP _) ⟨dg (V X),0,U⟩ 2 2 [M Ug ya,M Ug (yb+1)] rfl rfl (cell_two_new _ _ _ _) (λu hu=>by simp at hu;obtain rfl|rfl:=hu<;>rfl) oa Ac oa ou ?_;intro v' V3 aU be bk;obtain⟨cp,cr,cq,rfl⟩:=zq aU;have aB:=((zg.refl (λk=>(K pa pn pc).ownBlock=I k) X).alloc (Ub #[M Ug ya,M Ug (yb+1)] 21)).grown be (λk q=>.inl q);have ay:¬(K pa pn pc).ownBlock=I (dg (V w)):=λe=>(by have:=(zh aP _ e).1;omega);have c1:=(aB.cell (p:=⟨dg (V w),0,U⟩) (zic _ _ P) ay).trans P;have c2:=(aB.frozen (p:=⟨dg (V w),0,U⟩) (zic _ _ P) ay).trans q5;have bz:=zd (bH.push P aP (B':=2300000*Bc L+2*(Bc ai+1)) oa q4 aB aU (λk q=>(bk k q).imp_right (λh=>by simp at h;omega)));clear aU be bk aB;gi_wp2;have⟨g1,g2,g3⟩:=zb bz;have i:=aO.1;refine⟨_,⟨by rw[zb bs (ya,yb)];simpa using g1,⟨g3.os.trans i.os,g3.tape.trans i.tape,g3.output.trans i.output,AP i.size g3.size,λj z hn=>(g3.block j (AM z i.size) (λho=>(aO.2 j ho).elim hn (λh=>oa))).trans (i.block j z hn)⟩,λk q=>?_⟩,g2,g3,g1.lt⟩;obtain h|h:=g2 k q;exact aO.2 k h;exact .inr (AP i.size h)
  case done2=>
   rintro O2 X ⟨m,i,aI⟩;have b:=zb aw;refine⟨O2,by show YT _ _ _ _ _;rw[zb bB];exact m.up ou,λk q=>(aI k q).imp_right (λh=>oa),⟨i.os.trans b.os,i.tape.trans b.tape,i.output.trans b.output,AP b.size i.size,λj z hn=>(i.block j oa hn).trans (b.block j z id)⟩,m.lt⟩
 case done=>
  rintro Dm O ad b8 bO m hK;obtain⟨cs,ab⟩:∃cs,Zn N xs=cs:=⟨_,rfl⟩
  rw[ab] at m;have a0:=zd ab;clear ab;have⟨sv,P,s,q3,q4⟩:=m.ex;have af:=m.only;have bP:=m.size;have bN:Dm<dg (V ad):=(A1.1 hK).1;have aC:¬dH sv=I Dm:=λe=>bO ((q4 Dm).2 (.inr e));have ay:¬dH sv=I (dg (V w)):=λe=>by have:=(zh s _ e).1;omega
  have aS:∀k,dH sv=I k->dg (V w)+1<=k:=λk e=>(zh s k e).1;clear m;have a2:H (∀V2,zg (λk=>dH sv=I k) ad V2->V2.heap[Dm]?=I (.deferred (I []))/\zke w (V2.putObj Dm (.deferred U))):=λV2 h=>⟨(h.block Dm bN aC).trans hK,⟨h.os.trans af.os,h.tape.trans af.tape,h.output.trans af.output,by rw[xP];exact AP af.size h.size,λj z _=>(dP oa).trans ((h.block j (by have:=af.size;omega) (λe=>by have:=aS j e;omega)).trans (af.block j z id))⟩⟩
  obtain⟨rfl,b0⟩|⟨g,cap,b7,rfl,cb,hg,ch,cc,ab,bY⟩:=s.2
  .have bR:cs=[]:=(by simpa using b0);subst bR;clear s aC ay aS af
   gi_wp2_with (refine⟨trivial,?_⟩;gi_at_call 118;refine(callsIn_wide.2 (LR _)).mono ?_;rintro e V1 ⟨rfl,ah⟩;have m1:=(ah.cell (p:=⟨dg (V w),0,U⟩) (zic _ _ P) id).trans P;have aj:=zd ah;clear ah)
   refine⟨trivial,(callsIn_wide.2 (zhq _)).mono ?_⟩;rintro e V2 ⟨rfl,b⟩;have aw:=zd (aj.trans b);clear b
   gi_wp2
   have⟨g1,g2⟩:=zb a2 _ (aw.mono (λ_ _ f=>f.elim));refine⟨ov,.inl ⟨_,_,rfl,run_takeDeferred g1,?_⟩⟩;exact⟨_,results_tmp rfl _ _ _,⟨_,rfl,.inl ⟨rfl,a0⟩⟩,g2⟩
  have aQ:=YT.row s;have bS:=(zh s g rfl).2;have a5:=zd (LU g cap cs.toArray ad aQ.1 bS ou);have bQ:=aQ.2.2;have bZ:dg (V w)<g:=oa;have aD:g≠Dm:=λe=>aC (by simp only[dH];exact congrArg I e);rw[Cu] at a5;clear s aC aS af aQ ab bY;have bT:¬zr g (dg (V w)):=λe=>ay (by simp only[dH];exact congrArg I e.symm)
  gi_wp2_with (refine⟨trivial,?_⟩;gi_at_call 118;refine(callsIn_wide.2 a5).mono ?_;rintro e V1 ⟨rfl,ah,bb⟩;have m1:=(ah.cell (p:=⟨dg (V w),0,U⟩) (zic _ _ P) bT).trans P;have aj:=zd ah;have bA:=zd bb;clear ah bb)
  have a1:=zd (Fa g cap (sort ltInt cs.toArray) V1 bA (by rw[kC];simp;omega) (by rw[kC];simpa using bQ));rw[kC,Cu] at a1;refine⟨trivial,(callsIn_wide.2 a1).mono ?_⟩;rintro e V2 ⟨rfl,b,a9⟩;have aw:=zd (aj.trans b);have bu:=zd a9;clear b a9;gi_wp2;have h9:Holds (M Ug) V2 g 0 (vm cs).toArray:=(by unfold vm;rw[kC,Cu];exact Holds.front bu);have bv:H (Holds (M Ug) (V2.putObj Dm (.deferred U)) g 0 (vm cs).toArray):=λt ht=>⟨(FX (w:=V2) (dP (by first|exact aD|exact aD.symm))).trans (h9 t ht).1,(KN (dP (by first|exact aD|exact aD.symm))).trans (h9 t ht).2⟩
  have⟨g1,g2⟩:=zb a2 _ (aw.mono (λk _ f=>by simp only[dH];exact congrArg I (Eq.symm f)));refine⟨ov,.inl ⟨_,_,rfl,run_takeDeferred g1,?_⟩⟩;refine⟨_,results_tmp rfl _ _ _,⟨_,rfl,by rw[zb a0];exact .inr ⟨g,cap,by first|(unfold vm;rw[kC,Cu];done)|(unfold vm;rw[kC,Cu];rfl)|(unfold vm;simp[kC,Act.put,Act.eval]),bZ,bv⟩⟩,g2⟩
open Sm (Stp Tree yI)
theorem yM.one {A B:Aj}{v:Y}{l e:Ai}(h:yM w A v l)(k:yM w B v e):l=e:=by
 obtain⟨b,m⟩|⟨g,cap,b,_,_,_,n⟩:=h<;>obtain⟨a,r⟩|⟨u,t,a,_,_,_,s⟩:=k
 rw[m,r];rw[b] at a;simp at a;rw[b] at a;simp at a;rw[b] at a;simp at a;obtain⟨rfl,q,rfl⟩:=a;refine List.ext_getElem q (λi o p=>?_);have⟨f,j⟩:=n i _ (AE o);have⟨c,d⟩:=s i _ (AE p);rw[f] at c;rw[j] at d;simp at c d;exact Prod.ext c d
open Classical in
theorem vh.O9 {i:E}{pb g cap st:Nat}{j:List (Stp×Y)}{f:AW}{W:Am}{zs:List AW}(h:vh w i pb g cap st j f W)(q:j.map Prod.snd=zs.map A9):∃e:AW->Ai,(∀p∈f :: zs,∃A,yM i A (A9 p) (e p)/\zQ (e p))/\(∀c,Tw.zH (e f) c=W c)/\∀z∈j,∃p∈zs,∀c,Tw.zH (e p) c=jQ z.1 c:=by
 have o:=h.spans q;refine⟨λp=>if a:∃l A,yM i A (A9 p) l/\zQ l then Classical.choose a else [],λp a=>?_,λc=>?_,λz r=>?_⟩
 grind
 have a:=o f A8;simp only[dif_pos a];have⟨A,m,_⟩:=Classical.choose_spec a;have⟨sv,l,b,d,_,k⟩:=h.word;simp at b;subst b;rw[m.one d];exact k c;have:z.2∈zs.map A9:=by rw[<-q];exact Im r
 have⟨p,n,s⟩:=Cf.1 this;refine⟨p,n,λc=>?_⟩;have a:=o p (Bm _ n);simp only[dif_pos a];have⟨A,m,_⟩:=Classical.choose_spec a;have⟨sv,l,b,d,_,k⟩:=h.sets z r;simp at b;subst b;rw[<-s] at d;rw[m.one d];exact k c
theorem zgb {a:AW->Ai}{xs:List AW}{p:AW}(d:p∈xs):∀x∈a p,x.1∈vm (Zn a xs)/\x.2+1∈vm (Zn a xs):=by
 intro x c;have h:=(Jq (Zn a xs).toArray).2;have b:∀y,y∈BI (a p)->y∈vm (Zn a xs):=λy e=>by unfold vm;rw[h];simp only[Zn];exact Lo.2 ⟨p,d,e⟩
 exact⟨b _ (Lo.2 ⟨x,c,ov⟩),b _ (Lo.2 ⟨x,c,ov⟩)⟩
theorem zgc {a:AW->Ai}{xs:List AW}{c:E}(h:∀p∈xs,∃A,yM c A (A9 p) (a p)/\zQ (a p)):∀x∈vm (Zn a xs),0<=x/\x<=1114112:=by intro x f;have b:=((Jq (Zn a xs).toArray).2 x).1 f;simp only[Zn,Lo] at b;have⟨p,e,g⟩:=b;have⟨A,_,_,d⟩:=h p e;have⟨y,j,i⟩:=Lo.1 g;have:=d y j;simp[BK] at this i;omega
theorem Js (cs:Ar):(vm cs).Pairwise (· < ·):=(Jq cs.toArray).1
theorem zdu {f:List (Stp×Y)}{a:AW->Ai}{b:AW}{zs:List AW}{W:Am}(g:∀c,Tw.zH (a b) c=W c)(i:∀z∈f,∃p∈zs,∀c,Tw.zH (a p) c=jQ z.1 c){c d:Int}(h :  Tv.grp (vm (Zn a (b :: zs))) c =  Tv.grp (vm (Zn a (b :: zs))) d):W c=W d/\∀z∈f,jQ z.1 c=jQ z.1 d:=by refine⟨?_,λz k=>?_⟩;rw[<-g,<-g];exact  Tv.alike (zgb A8) h;have⟨p,j,e⟩:=i z k;rw[<-e,<-e];exact  Tv.alike (zgb (Bm _ j)) h
end
section
open Go.RowKit Go.Shelf Go.Lib
open Sm (Stp Tree yI)
def T8 (w:E)(A:Aj)(pb:Nat)(cs:Ar):Prop:=∃v,T w ⟨pb,3,U⟩=I v/\((v=K U 0 0/\cs=[])\/∃g cap,v=K (I ⟨g,0,U⟩) (Bc cs) cap/\A g/\g≠pb/\Ut (M Ug) w g 0 cs.toArray)
theorem UM.slice (h:UM w S v cs):∃a k c,v=K a k c:=by obtain⟨h,_⟩|⟨g,cap,h,_⟩:=h<;>exact⟨_,_,_,h⟩
theorem zht:vm []=[]:=List.eq_nil_iff_forall_not_mem.2 (λx a=>by have:=((Jq (#[]:Array Int)).2 x).1 a;simp at this)
theorem UM.PC {pb:Nat}{A:Aj}(h:UM w S v cs)(i:pb<q (V w))(e:∀g,q (V w)<g->A g):(∃u,T S ⟨pb,3,U⟩=I u)->T8 (dC S ⟨pb,3,U⟩ v) A pb (vm cs):=by rintro⟨u,f⟩;refine⟨v,AX _ _ _ f,?_⟩;obtain⟨a,b⟩|⟨g,cap,a,b,c⟩:=h;exact .inl ⟨a,by rw[b];exact zht⟩;refine .inr ⟨g,cap,a,e g b,oa,λt d=>⟨?_,(zl _ _ _ _).trans (c t d).2⟩⟩;exact(AN _ _ _ _ (by simp<;>omega)).trans (c t d).1
theorem Mc (F:Nat)(T:Tree)(v:Y)(w:E)(hp:YO F w (q (V w)) v T)(bi:∃T y,v=Ud T y)(hc:yI F T<=299):Uh dQ 33 #[v] w λe S=>∃pb W cs,e=R (Ua (I ⟨pb,0,U⟩))/\qW S (λg=>q (V w)<=g) pb (AR F T).2 (AR F T).1 W/\(((AR F T).2.any Cp)=G->W=zX 119)/\T8 S (λg=>q (V w)<=g) pb cs/\cs.Pairwise (· < ·)/\(∀x∈cs,0<=x/\x<=1114112)/\(∀c d,Tv.grp cs c=Tv.grp cs d->W c=W d/\∀s∈(AR F T).2,jQ s c=jQ s d)/\zke w S:=by
 obtain⟨iT,iy,rfl⟩:=bi;have bl:((AR F T).2.length:Int)<=300:=by have:=KU hp.at'.wf oa 0 [kI];simp at this;unfold AR;omega
 have HP:=zd hp;clear hp;have a9:H (zke w (dB w (Ub #[K U 0 0] 147))):=Ag;have a7:H (jw (dB w (Ub #[K U 0 0] 147)) (q (V w)) []):=⟨⟨K U 0 0,zj w _ rfl _ _ 0 _ rfl,A0 _ _ _ _,λz hz=>by cases hz⟩,zt w _ rfl _ _ 0⟩
 go_enter Tryz.func33,Tryz.ntmps33;go_upto_region 4 with(first|(go_at_call 59;refine(Z4 (q (V w)) [] kI _ a7 od od).mono ?_;rintro e w2 ⟨Z2,rfl,a0,aW⟩;have aR:=zd aW;have bc:=zd a0;clear aW a0));have al:AJ Z2=[kI]:=by have:=zb bc;simpa [AJ] using this
 have ay:zg (λk=>q (V w)<=k) w w2:=(a9.mono (λ_ _ f=>f.elim)).trans aR.only;have a8:H (Uh dQ 60 #[Ua (I ⟨q (V w),0,U⟩),Ud iT iy,M J 0] w2 (YE w2 (q (V w)) (AR F T))):=by have hb:=zha (q (V w)) F (Ud iT iy) T 0 Z2 w2 (HP.keep ay) aR.at' (by rw[<-yd,al];decide) (by rw[al];unfold AR at bl;omega);rw[al] at hb;exact hb
 clear al;refine a8.mono ?_;rintro e w3 ⟨i,rfl,hZ,aj⟩;have⟨sv,d1,_⟩:=aj.at'.ex;have aY:zke w w3:=by have:=ay.trans aj.only;exact⟨this.os,this.tape,this.output,this.size,λj hj _=>this.block j hj oa⟩
 have aA:Bc i=(AR F T).2.length:=by rw[<-hZ,yd]
 have a3:0<Bc i:=by have:=xm F T 0 [kI];simp at this;unfold AR at aA;omega
 obtain⟨g,cap,rfl,hN⟩:=zdc (st:=(AR F T).1) aj.at' d1 a3 aY;have m:=zd hN;have b:=zd hZ;have be:=zd aA;clear hZ aA hN aj aY ay;have bu:Bc i<=300:=by have:=zb be;omega
 have aS:H (∀(k:Nat) s,(AR F T).2[k]?=I s->s.next<(AR F T).2.length/\s.other<(AR F T).2.length):=by intro k s hk;exact zcx F T 0 [kI] ov (λs p=>by obtain rfl:=A5.1 p;decide) s (Bg hk)
 have aT:H ((AR F T).1<(AR F T).2.length):=jE F T 0 [kI] ov;go_upto_region 5 with fail;generalize dB w3 (Ub #[K (I ⟨g,0,U⟩) (Bc i) cap,M J ((AR F T).1:Nat),K U 0 0,K U 0 0] 159)=w4 at *;generalize q (V w3)=pb at *;have bw:=m.at'.c0;have⟨zs,a4⟩:=LW i m.sets;have u:=zd a4;clear a4;have L:=zd (Wf i g cap w4 (λz hz=>Np (m.sets z hz)) m.at'.row m.at'.gl oa);have a1:i.any (λz=>Cp z.1)=(AR F T).2.any Cp:=by rw[<-zb b];unfold AJ;rw[List.any_map];rfl
 rw[a1] at L;clear a1 a3 d1;cases hcb:(AR F T).2.any Cp
 .rw[hcb] at L;have bf:=zd hcb;clear hcb;go_upto_region 7 with(go_at_call 61;refine L.mono ?_;rintro e w5 ⟨rfl,aa⟩;have ar:=zd (m.keep aa);clear aa);go_wp2_with(first|(go_at_call 65;refine(zdb pb _).mono ?_;rintro e w8 ⟨v,rfl,t,rfl,bk,o,ab⟩;have a:=zd (ar.keep ab);have ap:=zd o;have aB:=zic w8 _ o;clear ab o)|(go_at_call 64;(have⟨sp,r,ah,ai⟩:=a.O9 u);have P:=zd (Ur ah ai);have ao:=zd (zgc r);have ag:=a.pl;have aC:=a.only.size;refine(Jr sp 120 #[Ua (I ⟨t,0,U⟩)] (((U,0,0):AW) :: zs) (λk=>k=t\/k=pb\/k=g) _ (enters_of Tryz.func120 om rfl) (zda pb g cap t i ((U,0,0):AW) zs _ a.at' ap u oa 8 oa) (λk hk=>by obtain rfl|rfl|rfl:=hk;exact aB;exact a.pl;exact a.at'.gl) (by have h9:=congrArg List.length u;simp at h9;simp;omega) r).mono ?_;rintro e w9 ⟨⟨v9,rfl,n⟩,ac⟩;(obtain⟨ra,rk,rc,rfl⟩:=n.slice);have au:=zd (n.PC (pb:=pb) (A:=λg=>q (V w)<=g) ag (λg hg=>oa));clear r ah ai ag aC n;have l:=a.keep ac;(have⟨u9,d3⟩:=l.c3);have f3:=l.f3;have N:=zd l;clear ac l));go_ret;have X:=N.setOther (K ra rk rc);refine⟨pb,(λ_=>Z),_,rfl,?_,?_,zb au N.c3,Js _,ao,λc d hg=>?_,X.only⟩
  have ad:=X.prog oa ?_ ?_;rw[zb b] at ad;exact ad;rw[zb b];exact aS;rw[zb b];exact aT;intro h;rw[zb bf] at h;cases h;have⟨ae,a2⟩:=zdu P.1 P.2 hg;refine⟨ae,λs p=>?_⟩;rw[<-zb b] at p;obtain⟨z,aG,rfl⟩:=Cf.1 p;exact a2 z aG
 rw[hcb] at L;clear hcb;go_upto_region 7 with(first|(go_at_call 61;refine L.mono ?_;rintro e w5 ⟨rfl,aa⟩;have aq:=zd (m.keep aa);clear aa)|(go_at_call 63;refine(Xq _).mono ?_;rintro e w6 ⟨v,rfl,B,aZ⟩;(obtain⟨bA,bz,rfl,_⟩:=id B);(obtain⟨⟨aH,aJ,aI⟩,rfl⟩:=Np B);unfold A9 at B ⊢;simp only[] at B ⊢;have ak:=aq.keep aZ;have d2:=ak.at'.c2;have f2:=ak.f2;have HW:=zd (ak.PQ (ws':=(aH,aJ,aI)) (W':=zX 119) (B.mono (λq _ hq=>⟨by have:=aq.only.size;omega,by have:=aq.pl;omega⟩)));clear ak B aZ));have ar:=HW;go_wp2_with(first|(go_at_call 65;refine(zdb pb _).mono ?_;rintro e w8 ⟨v,rfl,t,rfl,bk,o,ab⟩;have a:=zd (ar.keep ab);have ap:=zd o;have aB:=zic w8 _ o;clear ab o)|(go_at_call 64;(have⟨sp,r,ah,ai⟩:=a.O9 u);have P:=zd (Ur ah ai);have ao:=zd (zgc r);have ag:=a.pl;have aC:=a.only.size;refine(Jr sp 120 #[Ua (I ⟨t,0,U⟩)] (((aH,aJ,aI):AW) :: zs) (λk=>k=t\/k=pb\/k=g) _ (enters_of Tryz.func120 om rfl) (zda pb g cap t i ((aH,aJ,aI):AW) zs _ a.at' ap u oa 8 oa) (λk hk=>by obtain rfl|rfl|rfl:=hk;exact aB;exact a.pl;exact a.at'.gl) (by have h9:=congrArg List.length u;simp at h9;simp;omega) r).mono ?_;rintro e w9 ⟨⟨v9,rfl,n⟩,ac⟩;(obtain⟨ra,rk,rc,rfl⟩:=n.slice);have au:=zd (n.PC (pb:=pb) (A:=λg=>q (V w)<=g) ag (λg hg=>oa));clear r ah ai ag aC n;have l:=a.keep ac;(have⟨u9,d3⟩:=l.c3);have f3:=l.f3;have N:=zd l;clear ac l));go_ret;have X:=N.setOther (K ra rk rc);refine⟨pb,zX 119,_,rfl,?_,?_,zb au N.c3,Js _,ao,λc d hg=>?_,X.only⟩
 have ad:=X.prog oa ?_ ?_;rw[zb b] at ad;exact ad;rw[zb b];exact aS;rw[zb b];exact aT;intro _;rfl;have⟨ae,a2⟩:=zdu P.1 P.2 hg;refine⟨ae,λs p=>?_⟩;rw[<-zb b] at p;obtain⟨z,aG,rfl⟩:=Cf.1 p;exact a2 z aG
end
section
open Go.RowKit
def XA (w:E)(A:Aj)(pb:Nat)(cs:Ar):Prop:=∃v,T w ⟨pb,3,U⟩=I v/\((v=K U 0 0/\cs=[])\/∃g cap,v=K (I ⟨g,0,U⟩) (Bc cs) cap/\(0<Bc cs->A g)/\Ut (M Ug) w g 0 cs.toArray)
theorem T8.Rk {A:Aj}{pb:Nat}{cs:Ar}(h:T8 w A pb cs):XA w (λg=>A g/\g<q (V w)) pb cs:=by obtain⟨v,a,c|⟨g,cap,rfl,d,_,b⟩⟩:=h;exact⟨v,a,.inl c⟩;exact⟨_,a,.inr ⟨g,cap,rfl,λe=>⟨d,zic w _ (b 0 (by simpa using e)).1⟩,b⟩⟩
theorem XA.sl {A:Aj}{pb:Nat}{cs:Ar}(h:XA w A pb cs):∃a n c,T w ⟨pb,3,U⟩=I (K a n c)/\Ij w (K a n c) cs:=by obtain⟨v,b,⟨rfl,e⟩|⟨g,cap,rfl,k,f⟩⟩:=h;exact⟨_,_,_,b,.inl ⟨rfl,e⟩⟩;refine⟨_,_,_,b,.inr ⟨g,cap,rfl,λj x i=>?_⟩⟩;obtain⟨d,rfl⟩:=AK.1 i;have:=(f j (by simpa using d)).1;rw[Bv] at this;rw[this,getElem!_pos _ j (by simpa using d)];simp
theorem XA.keep {P A:Aj}{w S:E}{pb:Nat}{cs:Ar}(h:XA w A pb cs)(k:zg P w S)(a:∀g,A g->¬P g)(i:A pb):XA S A pb cs:=by obtain⟨v,d,j|⟨g,cap,rfl,e,c⟩⟩:=h;exact⟨v,zf k _ _ d (a _ i),.inl j⟩;refine⟨_,zf k _ _ d (a _ i),.inr ⟨g,cap,rfl,e,λt b=>?_⟩⟩;have l:g<q (V w):=zic w _ (c t b).1;have f:A g:=e (by have:t<Bc cs:=(by simpa using b);omega);exact⟨zf k _ _ (c t b).1 (a _ f),zp k _ l (c t b).2 (a _ f)⟩
theorem XA.mono {A B:Aj}{w:E}{pb:Nat}{cs:Ar}(h:XA w A pb cs)(e:∀g,A g->B g):XA w B pb cs:=by obtain⟨v,a,b|⟨g,cap,rfl,c,d⟩⟩:=h;exact⟨v,a,.inl b⟩;exact⟨_,a,.inr ⟨g,cap,rfl,λf=>e _ (c f),d⟩⟩
variable (cs c)
theorem zhu (A:Aj)(w:E)(h:XA w A pb cs)(f:cs.Pairwise (· < ·))(m:∀x∈cs,0<=x/\x<=1114112):Uh L 138 #[Ua (I ⟨pb,0,U⟩),M Ug c] w λe S=>e=R (M J (Tv.grp cs c:Nat))/\S=w:=by
 have t:Bc cs<=1114113:=by have:=zdt cs 0 f m oa;omega
 have⟨a,n,k,v,o⟩:=h.sl;have p:=zd (I3 _ cs c w o f t);have HG:H (∀(i:Nat),(∀(j:Nat) x,cs[j]?=I x->(j<i↔x<c))->i<=Bc cs->Tv.grp cs c=if cs[i]?=I c then i+1 else i):=λi q r=>Tv.grp_at f q r;clear h f m o;generalize u:Tv.grp cs c=y at HG ⊢;clear u;go_enter Tryz.func138,Tryz.ntmps138;go_wp2_with(go_at_call 174;refine zb ?_);refine zd ?_;refine p.mono ?_;rintro e z ⟨i,rfl,s,l,rfl⟩;have b:=zb HG i l s;by_cases d:cs[i]?=I c
 .rw[IN d] at b;rw[decide_eq_true d];have g:=zd b;clear b l d;go_wp2_with fail;go_ret;exact⟨by rw[zb g];rfl,rfl⟩
 rw[iN d] at b;rw[decide_eq_false d];have g:=zd b;clear b l d;go_wp2_with fail;go_ret;exact⟨by rw[zb g];rfl,rfl⟩
open Sm (Stp Tree)
def ve (w:E)(A:Aj)(v:Y)(ps:Ao):Prop:=∃g cap,v=K (I ⟨g,0,U⟩) (Bc ps) cap/\(Bc ps)<=cap/\A g/\∀(j:Nat) a,ps[j]?=I a->T w ⟨g,j,U⟩=I (M J (a:Nat))
theorem ve.keep {P A:Aj}{w S:E}{v:Y}{ps:Ao}(h:ve w A v ps)(k:zg P w S)(i:∀g,A g->¬P g):ve S A v ps:=by have⟨g,cap,c,d,b,e⟩:=h;exact⟨g,cap,c,d,b,λj a f=>zf k _ _ (e j a f) (i g b)⟩
theorem ve.mono {A B:Aj}{w:E}{v:Y}{ps:Ao}(h:ve w A v ps)(e:∀g,A g->B g):ve w B v ps:=by have⟨g,cap,a,b,c,d⟩:=h;exact⟨g,cap,a,b,e g c,d⟩
theorem ve.int {A:Aj}{w:E}{v:Y}{ps:Ao}(h:ve w A v ps):jj w v ps:=by have⟨g,cap,a,b,d,c⟩:=h;exact .inr ⟨g,cap,a,b,c⟩
theorem ve.slice {A:Aj}{w:E}{v:Y}{ps:Ao}(h:ve w A v ps):∃a c,v=K a (Bc ps) c:=h.int.slice
theorem ve.one (w:E)(n:Nat)(e:q (V w)=n)(p:Nat)(T:TypeId){A:Aj}(c:A n):ve (dB w (Ub #[M J (p:Nat)] T)) A (K (I ⟨n,0,U⟩) 1 1) [p]:=
 ⟨n,1,rfl,ov,c,λj a b=>by
  have d:j=0:=by have:=(AK.1 b).1;simp at this;omega
  subst d;simp at b;subst b;exact zj _ _ e _ _ 0 _ rfl⟩
theorem yj (w:E)(o:Obj):(dB w o).heap.size=A (V w)+1:=by unfold World.alloc;exact Array.size_push _
def FL (sv:Y)(b wb:Bool):Y:=Uf #[sv,C b,C wb]
theorem zhv (N:Aq)(W:Am)(A:Aj)(w:E)(b:qW w A pb N st W):Uh L 89 #[Ua (I ⟨pb,0,U⟩)] w λx S=>∃sv,x=R (FL sv G Z)/\ve S (λg=>q (V w)<=g) sv [st]/\zke w S:=by have a:=b.c1;have c:(dB w (Ub #[K U 0 0,C Z,C Z] 212)).cell? ⟨pb,1,U⟩=I (M J (st:Nat)):=zf ((zg.refl (λ_=>False) w).alloc _) _ _ a id;unfold FL;clear b a;go_enter Tryz.func89,Tryz.ntmps89;go_wp2_with fail;refine bodyPost_ret (v:=Uf #[K (I ⟨q (V w)+1,0,U⟩) 1 1,C G,C Z]) (by simp[results,Tryz.results89,go_sem]) rfl ?_;refine⟨_,rfl,ve.one _ _ (yj _ _) st _ oa,Ag.alloc _⟩
theorem Wm (N:Aq)(W:Am)(sv:Y)(s:Tv.St)(A:Aj)(w:E)(c:qW w A pb N st W)(d:jj w sv s.ps)(h:s.OK N):Uh dQ 92 #[Ua (I ⟨pb,0,U⟩),FL sv s.b s.w] w λx S=>∃r,x=R (C r)/\(r=G↔Tv.hit N s)/\zke w S:=by
 have⟨b,n,ps⟩:=s;obtain⟨B,F,rfl⟩:=d.slice;have v:=h.len;have L:=c.len;have a:H (zke w (w.alloc (Ub #[K B (Bc ps) F,C b,C n] 212))):=Ag;have t:=zd (J4 pb st N W _ ps b G n Z A _ (c.keep a (λ_ _ f=>f)) (d.keep a) h.lt (by simp at v;omega));unfold FL;clear c d h;go_enter Tryz.func92,Tryz.ntmps92;go_wp2_with(first
  |(go_at_call 96;refine t.mono ?_;rintro e w1 ⟨rv,z,rfl,g,i,P,y,k,l,m⟩;obtain⟨T,rn,X,rfl⟩:=zq g;have u:=zd (jj.of g);have o:=zd (a.trans i);have q:=zd (Tv.rch_of k l m);clear g i y k l m)
  |(go_at_call 98;refine(J5 _ z 0 _ u oa).mono ?_;rintro e w2 ⟨rfl,j⟩;have p:=zd (o.trans j);clear j))
 go_ret;exact⟨_,rfl,by rw[decide_eq_true_iff];exact zb q 0,p⟩
end
section
open Go.RowKit Go.Shelf Go.Lib Go.Sort
def J7:Go.Shelf.Ren:=⟨fun|43=>176|n=>n,fun|22=>29|23=>3|3=>3|4=>4|0=>0|n=>n,fun|n=>n⟩
theorem zbD:Go.Proofs.SlLaysE.n43 L J7:={
 mixed:=om
 f43:=⟨Tryz.f176.name,od,Tryz.func176.trans (congrArg I om)⟩
 t0:=Tryz.underlying0
 a0:=Tryz.isAgg0
 z0:=Tryz.sizeOf0
 v0:=Tryz.zeroValue0
 t3:=Tryz.underlying3
 a3:=Tryz.isAgg3
 z3:=Tryz.sizeOf3
 v3:=Tryz.zeroValue3
 t4:=Tryz.underlying4
 a4:=Tryz.isAgg4
 z4:=Tryz.sizeOf4
 v4:=Tryz.zeroValue4
 t22:=Tryz.underlying29
 a22:=Tryz.isAgg29
 z22:=Tryz.sizeOf29
 v22:=Tryz.zeroValue29
 a23:=Tryz.isAgg3
 z23:=Tryz.sizeOf3 }
def WE:Go.Shelf.Ren:=⟨fun|189=>175|125=>160|257=>211|128=>203|129=>204|294=>232|295=>233|296=>234|297=>235|298=>236|299=>237|216=>238|300=>239|301=>240|328=>259|329=>224|330=>225|331=>260|332=>261|215=>262|343=>281|n=>n,fun|28=>29|3=>3|46=>324|0=>0|51=>359|53=>361|4=>4|183=>353|182=>352|131=>292|5=>5|9=>9|218=>370|222=>374|228=>396|229=>167|n=>n,fun|n=>n⟩
theorem zhw:Go.Proofs.Lays.n189 L WE:={
 mixed:=om
 f125:=Tryz.func160.trans (congrArg I om)
 f128:=Tryz.func203.trans (congrArg I om)
 f129:=Tryz.func204.trans (congrArg I om)
 f189:=Tryz.func175.trans (congrArg I om)
 f215:=Tryz.func262.trans (congrArg I om)
 f216:=Tryz.func238.trans (congrArg I om)
 f257:=Tryz.func211.trans (congrArg I om)
 f294:=Tryz.func232.trans (congrArg I om)
 f295:=Tryz.func233.trans (congrArg I om)
 f296:=Tryz.func234.trans (congrArg I om)
 f297:=Tryz.func235.trans (congrArg I om)
 f298:=Tryz.func236.trans (congrArg I om)
 f299:=Tryz.func237.trans (congrArg I om)
 f300:=Tryz.func239.trans (congrArg I om)
 f301:=Tryz.func240.trans (congrArg I om)
 f328:=Tryz.func259.trans (congrArg I om)
 f329:=Tryz.func224.trans (congrArg I om)
 f330:=Tryz.func225.trans (congrArg I om)
 f331:=Tryz.func260.trans (congrArg I om)
 f332:=Tryz.func261.trans (congrArg I om)
 f343:=Tryz.func281.trans (congrArg I om)
 t0:=Tryz.underlying0
 a0:=Tryz.isAgg0
 z0:=Tryz.sizeOf0
 v0:=Tryz.zeroValue0
 t3:=Tryz.underlying3
 a3:=Tryz.isAgg3
 z3:=Tryz.sizeOf3
 v3:=Tryz.zeroValue3
 t4:=Tryz.underlying4
 a4:=Tryz.isAgg4
 z4:=Tryz.sizeOf4
 v4:=Tryz.zeroValue4
 t5:=Tryz.underlying5
 a5:=Tryz.isAgg5
 z5:=Tryz.sizeOf5
 v5:=Tryz.zeroValue5
 t9:=Tryz.underlying9
 a9:=Tryz.isAgg9
 z9:=Tryz.sizeOf9
 v9:=Tryz.zeroValue9
 t28:=Tryz.underlying29
 a28:=Tryz.isAgg29
 z28:=Tryz.sizeOf29
 v28:=Tryz.zeroValue29
 t46:=Tryz.underlying324
 a46:=Tryz.isAgg324
 z46:=Tryz.sizeOf324
 v46:=Tryz.zeroValue324
 t51:=Tryz.underlying359
 a51:=Tryz.isAgg359
 z51:=Tryz.sizeOf359
 v51:=Tryz.zeroValue359
 t53:=Tryz.underlying361
 a53:=Tryz.isAgg361
 z53:=Tryz.sizeOf361
 v53:=Tryz.zeroValue361
 t131:=Tryz.underlying292
 a131:=Tryz.isAgg292
 z131:=Tryz.sizeOf292
 v131:=Tryz.zeroValue292
 t182:=Tryz.underlying352
 a182:=Tryz.isAgg352
 z182:=Tryz.sizeOf352
 v182:=Tryz.zeroValue352
 t183:=Tryz.underlying353
 a183:=Tryz.isAgg353
 z183:=Tryz.sizeOf353
 v183:=Tryz.zeroValue353
 t218:=Tryz.underlying370
 a218:=Tryz.isAgg370
 z218:=Tryz.sizeOf370
 v218:=Tryz.zeroValue370
 t222:=Tryz.underlying374
 a222:=Tryz.isAgg374
 z222:=Tryz.sizeOf374
 v222:=Tryz.zeroValue374
 t228:=Tryz.underlying396
 a228:=Tryz.isAgg396
 z228:=Tryz.sizeOf396
 v228:=Tryz.zeroValue396
 t229:=Tryz.underlying167
 a229:=Tryz.isAgg167
 z229:=Tryz.sizeOf167
 v229:=Tryz.zeroValue167 }
theorem Jt {g q:Nat}{d:Array Int}:zg (zr g) w (putRow (M J) (Sort.ahead w q) g 0 d):=by refine⟨rfl,rfl,rfl,ov,λk c a=>?_⟩;have b:k≠g:=a;unfold putRow mapBlock Sort.ahead;simp only[M1,Ne.symm b,if_false]
theorem zg.grow {P:Aj}{w v:E}(h:zg P w v)(b:Array Obj):zg P w (Sort.grow v b):=
 ⟨h.os,h.tape,h.output,by rw[Sort.size_grow];have:=h.size;omega,λj a c=>(Sort.heap_grow_old v b (AM a h.size)).trans (h.block j a c)⟩
theorem LS (zs:Ar)(w:E)(h:Holds (M J) w g 0 zs.toArray)(a:g<A (V w))(f:Bc zs<1099511627776):Uh L 175 #[K (I ⟨g,0,U⟩) (Bc zs) cap] w λe S=>e=R (Ue #[])/\zg (zr g) w S/\Holds (M J) S g 0 (sort ltInt zs.toArray):=by
 refine(Any.slices_Sort_int zhw g 0 cap zs w h a oa).mono ?_;rintro e S ⟨rfl,n,d,rfl⟩;have c:=sortInt zs;have b:sort ltInt zs.toArray=(zs.mergeSort λx y=>decide (x<=y)).toArray:=by rw[<-c]
 refine⟨rfl,Jt.grow d,?_⟩;rw[b];refine holds_grow _ _ _ _ _ _ (by simpa using a) ?_;exact holds_putRow _ _ g 0 zs.toArray _ (holds_ahead _ w n g 0 _ h) ov
theorem E9 (w:E)(h:Holds (M J) w g 0 d)(b:d.size<1099511627776)(a:d.size<=cap):Uh L 176 #[K (I ⟨g,0,U⟩) d.size cap] w λe S=>e=R (K (I ⟨g,0,U⟩) (compactUpTo d d.size).length cap)/\zg (zr g) w S/\Holds (M J) S g 0 (compactUpTo d d.size++dK (d.size-(compactUpTo d d.size).length) 0).toArray:=by refine(AnyE.slices_Compact zbD (M J) (λ_=>rfl) (EqlAt.intD _ _ _) (NeqAt.intD _ _ _) 0 (λw=>om) g 0 cap d w h oa a).mono ?_;rintro e S ⟨rfl,q,rfl⟩;exact⟨rfl,Jt,holds_putRow _ _ g 0 d _ (holds_ahead _ w q g 0 d h) (by have:=QI d;simp;omega)⟩
def AI (rs:Ao):Ar:=rs.map (λa:Nat=>(a:Int))
theorem zhx (rs:Ao):∃ps:Ao,compactUpTo (sort ltInt (AI rs).toArray) (sort ltInt (AI rs).toArray).size=AI ps/\ps.Pairwise (· < ·)/\(∀q,q∈ps↔q∈rs):=by
 have⟨h,c⟩:=Jq (AI rs).toArray;generalize compactUpTo (sort ltInt (AI rs).toArray) (sort ltInt (AI rs).toArray).size=cs at h c;have f:∀x∈cs,∃a:Nat,a∈rs/\x=a:=λx g=>by have:=(c x).1 g;simp[AI] at this;have⟨a,d,e⟩:=this;exact⟨a,d,e.symm⟩
 have j:AI (cs.map Int.toNat)=cs:=by
  unfold AI;rw[List.map_map]
  conv=>rhs;rw[<-List.map_id cs]
  exact List.map_congr_left (λx g=>by obtain⟨a,_,rfl⟩:=f x g;simp)
 refine⟨cs.map Int.toNat,j.symm,?_,λq=>?_⟩;rw[List.pairwise_map];refine List.Pairwise.imp_of_mem (λ{a b} d i l=>?_) h;obtain⟨x,_,rfl⟩:=f a d;obtain⟨y,_,rfl⟩:=f b i;simp;omega;rw[Cf];constructor
 grind
 intro k;exact⟨(q:Int),(c _).2 (by simp[AI];exact⟨q,k,rfl⟩),ov⟩
theorem zhy {base:Nat}{v:Y}{n:Nat}{rs:Ao}(h:dA w base 3 1 v n (zN rs))(l:rs≠[]):∃g cap,v=K (I ⟨g,0,U⟩) (AI rs).length cap/\(AI rs).length<=cap/\base<=g/\g<A (V w)/\Holds (M J) w g 0 (AI rs).toArray:=by
 have e:Bc rs=n:=by have:=h.1;simpa [zN] using this
 have q:0<Bc rs:=List.length_pos_iff.2 l;obtain⟨_,d⟩|⟨g,cap,b,i,d,a,m,o,p,j⟩:=h.2;omega;have k:∀t,t<n->b[t]?=I (M J ((AI rs).toArray[t]!)):=λt f=>by have c:(b.toList.take (n*1))[t]?=(zN rs)[t]?:=(by rw[j]);rw[MF oa] at c;rw[<-MZ,c];rw[getElem!_pos _ t (by simp[AI];omega)];simp[zN,AI,List.getElem?_map,List.getElem?_eq_getElem (show t<Bc rs by omega)]
 refine⟨g,cap,by rw[i];simp[AI,e],by simp[AI];omega,d,(A1.1 a).1,λt f=>⟨?_,?_⟩⟩;unfold T;rw[a];simpa using k t (by simpa [AI,e] using f);unfold dz;rw[a];simp
theorem zhz {base:Nat}{v:Y}{n:Nat}{rs:Ao}(h:dA w base 3 1 v n (zN rs))(l:rs≠[]):∃(g cap:Nat) (zs:Ar) (ps':Ao),v=K (I ⟨g,0,U⟩) (Bc zs) cap/\(Bc zs)=Bc rs/\(Bc zs)<=cap/\base<=g/\g<A (V w)/\Holds (M J) w g 0 zs.toArray/\(sort ltInt zs.toArray).size=Bc zs/\compactUpTo (sort ltInt zs.toArray) (Bc zs)=AI ps'/\ps'.Pairwise (· < ·)/\∀q,q∈ps'↔q∈rs:=by
 have⟨g,cap,e,f,i,j,k⟩:=zhy h l;have⟨ps',a,c,d⟩:=zhx rs;have b:(sort ltInt (AI rs).toArray).size=(AI rs).length:=by rw[kC,Cu]
 rw[b] at a;exact⟨g,cap,_,ps',e,by simp[AI],f,i,j,k,b,a,c,d⟩
theorem zbE {g:Nat}{cs z:Ar}{ps:Ao}(h:Holds (M J) w g 0 (cs++z).toArray)(e:cs=AI ps):∀(j:Nat) a,ps[j]?=I a->T w ⟨g,j,U⟩=I (M J (a:Nat)):=λj a c=>by
 obtain⟨d,rfl⟩:=AK.1 c;have f:j<Bc cs:=by rw[e];simpa [AI] using d
 have:=(h j ou).1;rw[Bv] at this;rw[this,getElem!_pos _ j ou];subst e;have b:(AI ps++z)[j]'(by simp[AI];omega)=((ps[j]:Nat):Int):=by rw[List.getElem_append_left f];simp[AI]
 simp only[ziM];rw[b]
end
section
open Go.RowKit Go.Sort Go.Lib
open Sm (Stp Tree)
structure TN (w:E)(b:Nat)(x y z:Y):Prop where
 k0:T w ⟨b,0,U⟩=I x
 k1:T w ⟨b,1,U⟩=I y
 k2:T w ⟨b,2,U⟩=I z
 f0:dz w ⟨b,0,U⟩=Z
 f1:dz w ⟨b,1,U⟩=Z
 f2:dz w ⟨b,2,U⟩=Z
theorem TN.new (w:E)(n:Nat)(a:A (V w)=n)(x y z:Y)(T:TypeId):TN (dB w (Ub #[x,y,z] T)) n x y z:=
 ⟨zj w n a _ T 0 _ rfl,zj w n a _ T 1 _ rfl,zj w n a _ T 2 _ rfl,zt w n a _ T 0,zt w n a _ T 1,zt w n a _ T 2⟩
theorem TN.lt (h:TN w b x y z):b<A (V w):=zic w _ h.k0
theorem TN.keep {P:Aj}{w S:E}{b:Nat}{x y z:Y}(h:TN w b x y z)(k:zg P w S)(a:¬P b):TN S b x y z:=
 ⟨zf k _ _ h.k0 a,zf k _ _ h.k1 a,zf k _ _ h.k2 a,zp k _ h.lt h.f0 a,zp k _ h.lt h.f1 a,zp k _ h.lt h.f2 a⟩
theorem TN.set0 (h:TN w b x y z)(a:Y):TN (w.setCell ⟨b,0,U⟩ a) b a y z:=
 ⟨AX _ _ _ h.k0,(AN _ _ _ _ ov).trans h.k1,(AN _ _ _ _ ov).trans h.k2,(zl _ _ _ _).trans h.f0,(zl _ _ _ _).trans h.f1,(zl _ _ _ _).trans h.f2⟩
theorem TN.set1 (h:TN w b x y z)(a:Y):TN (w.setCell ⟨b,1,U⟩ a) b x a z:=
 ⟨(AN _ _ _ _ ov).trans h.k0,AX _ _ _ h.k1,(AN _ _ _ _ ov).trans h.k2,(zl _ _ _ _).trans h.f0,(zl _ _ _ _).trans h.f1,(zl _ _ _ _).trans h.f2⟩
theorem TN.set2 (h:TN w b x y z)(a:Y):TN (w.setCell ⟨b,2,U⟩ a) b x y a:=
 ⟨(AN _ _ _ _ ov).trans h.k0,(AN _ _ _ _ ov).trans h.k1,AX _ _ _ h.k2,(zl _ _ _ _).trans h.f0,(zl _ _ _ _).trans h.f1,(zl _ _ _ _).trans h.f2⟩
theorem TN.NU (h:TN w b x y z)(o:Obj):TN (w.alloc o) b x y z:=h.keep ((zg.refl (λ_=>False) w).alloc o) id
theorem zhA (N:Aq)(W:Am)(sv:Y)(s:Tv.St)(c:Int)(A:Aj)(w:E)(p:qW w A pb N st W)(hS:jj w sv s.ps)(aL:s.OK N):Uh dQ 139 #[Ua (I ⟨pb,0,U⟩),FL sv s.b s.w,M Ug c] w λx S=>∃sv',x=R (FL sv' (Tv.aft N st W s c).b (Tv.aft N st W s c).w)/\ve S (λg=>dg (V w)<=g) sv' (Tv.aft N st W s c).ps/\zke w S:=by
 have⟨i0,bT,b5,b6,b7⟩:=info_parts Tryz.N4;have HA:H (∀d,(∀q,q∈d↔Tv.rch N s Z (W c) q)->(0∈d->Tv.aft N st W s c=⟨Z,Z,[0]⟩)/\(0∉d->∀k:Ao,k.Pairwise (· < ·)->(∀q,q∈k↔q∈xZ N c d++[st])->Tv.aft N st W s c=⟨Z,W c,k⟩)):=λd hr=>
  ⟨λh0=>Tv.aft_yes ((hr 0).1 h0),λh0 k hu hp=>Tv.aft_is p.stl p.fit hr h0 hu (λq=>by rw[hp q];simp)⟩
 have⟨b,wb,ps⟩:=s;obtain⟨va,vc,rfl⟩:=hS.slice;have bV:=aL.len;have co:=p.len;have bW:=zd aL.lt;simp only[] at bV;have bi:=p.c1;have⟨sw,bj,aO⟩:=p.c2;obtain⟨wa,wn,wc,rfl⟩:∃a n c,sw=K a n c:=by obtain⟨sv',sp,e,F,_⟩:=aO;simp at e;subst e;obtain⟨F,_⟩|⟨g,cap,F,_⟩:=F<;>exact⟨_,_,_,F⟩
 have ag:H (zke w ((dB w (Ub #[K va (Bc ps) vc,C b,C wb] 212)).alloc (Ub #[K U 0 0,C Z,C Z] 212))):=Ag.alloc _;have HH:=zd (Nr _ W c A _ (aO.keep ag (λ_ _ f=>f)));have aX:H (TN ((dB w (Ub #[K va (Bc ps) vc,C b,C wb] 212)).alloc (Ub #[K U 0 0,C Z,C Z] 212)) (dg (V w)) (K va (Bc ps) vc) (C b) (C wb)):=(TN.new w _ rfl _ _ _ _).keep ((zg.refl (λ_=>False) _).alloc _) id;have aY:H (TN ((dB w (Ub #[K va (Bc ps) vc,C b,C wb] 212)).alloc (Ub #[K U 0 0,C Z,C Z] 212)) (dg (V w)+1) (K U 0 0) (C Z) (C Z)):=TN.new _ _ (yj _ _) _ _ _ _;have b1:=zf ag _ _ bj id;have HP:=zd p;have HS:=zd hS;unfold FL;generalize Tv.aft N st W ⟨b,wb,ps⟩ c=T at HA ⊢;clear p hS aL aO;generalize W c=aS at HA HH;go_enter Tryz.func139,Tryz.ntmps139;go_wp2_with(go_at_call 144;refine HH.mono ?_;rintro e w1 ⟨rfl,ak⟩;refine zb ?_);refine zd ?_;have au:=zd (ag.trans ak);have⟨p0,p1,p2,_,_,_⟩:=aX.keep ak id;have bA:=zd (aY.keep ak id);clear ak aX aY HH ag b1;go_wp2_with(first
  |(go_at_call 96;refine(J4 pb st N W _ ps b Z wb aS A _ (HP.keep au (λ_ _ f=>f)) (HS.keep au) bW oa).mono ?_;rintro e w2 ⟨rv,d,rfl,aJ,aA,cr,bc,be,bf,bg⟩;obtain⟨ra,rn,rc,rfl⟩:=zq aJ;have av:=zd (jj.of aJ);have aV:=zd (au.trans aA);have aZ:=zd (bA.keep aA id);have HQ:=zd (zb HA d (Tv.rch_of be bf bg));have bE:=zd bc;clear aJ aA bc be bf bg p0 p1 p2)
  |(go_at_call 98;refine zb ?_))
 refine zd ?_;have L:Uh dQ 98 #[K ra rn rc,M J 0] w2 λx S=>x=R (C (decide (0∈d)))/\zke w2 S:=J5 _ d 0 w2 av oa;by_cases B:0∈d
 .rw[decide_eq_true B] at L;have hT:=HQ.1 B;subst hT;clear HQ B HA;refine L.mono ?_;rintro e h ⟨rfl,l⟩;have o:=zd (aV.trans l);have al:=aZ.keep l id;have cq:=al.lt;have s0:=al.set0 (K (I ⟨dg (V h),0,U⟩) 1 1);have s1:=s0.set1 (C Z);have s2:=s1.set2 (C Z);have⟨q0,q1,q2,g0,g1,g2⟩:=al.NU (Ub #[M J 0] 3);have⟨_,a1,_,_,ac,_⟩:=s0.NU (Ub #[M J 0] 3);have⟨_,_,aa,_,_,ab⟩:=s1.NU (Ub #[M J 0] 3);have⟨u,y,z,_,_,_⟩:=s2.NU (Ub #[M J 0] 3);have HE:=zd (Ur u (Ur y z));clear l L al s0 s1 s2 u y z;go_wp2_with fail;have⟨u,y,z⟩:=zb HE;refine bodyPost_ret (v:=Uf #[K (I ⟨dg (V h),0,U⟩) 1 1,C Z,C Z]) (by simp[results,Tryz.results139,go_sem,u,y,z]) rfl ?_;have bP:zke w ((((dC h ⟨dg (V w)+1,0,U⟩ (K (I ⟨dg (V h),0,U⟩) 1 1)).setCell ⟨dg (V w)+1,1,U⟩ (C Z)).setCell ⟨dg (V w)+1,2,U⟩ (C Z))):=by refine zg.setCell ?_ (Or.inr ov) _;refine zg.setCell ?_ (Or.inr ov) _;refine zg.setCell ?_ (Or.inr ov) _;exact o
  exact⟨_,rfl,ve.one _ _ ov 0 _ o.size,bP.alloc _⟩
 rw[decide_eq_false B] at L;have HT:=zd (HQ.2 B);clear HQ B HA;refine L.mono ?_;rintro e h ⟨rfl,l⟩;have o:=zd (aV.trans l);have bB:=zd (av.keep l);have a0:=zd (aZ.keep l id);have b0:=zf o _ _ bi id;have ar:H (∀t,zke h t->Uh dQ 99 #[Ua (I ⟨pb,0,U⟩),K ra rn rc,M Ug c] t λx S=>∃sv,x=R sv/\S.ownsRow (dg (V t)) 3 1 sv (xZ N c d).length (zN (xZ N c d))/\zke t S):=λt hV=>J3 pb st N W _ d c A t (HP.keep (o.trans hV) (λ_ _ f=>f)) (bB.keep hV) bE oa;have b2:=X7 N c d;clear l L av bi bj;generalize b3:xZ N c d=ts at ar HT b2;clear b3;go_wp2_with fail;go_region_law(first
  |(refine ji rfl (.tmp 33) (.tmp 38) 29 rfl (dg (V h)) 3 i0 (M J 0) 1 8 Tryz.underlying29 bT b5 b6 b7 rfl od (K ta tn tc) _ (zN ts) (by simp[Act.eval]) (zk ax (P:=λ_=>False) Aa (λ_ _ f=>f)) _ 1 1 [M J (st:Nat)] (by simp[Act.eval];rfl) rfl (by first|exact cell_one_new _ _ _|(intro j u9 m;match j,m with|0,m=>simp at m;subst m;simp[Addr.add];exact bX)) (λx hx=>by simp at hx;subst hx;rfl) od Ac oa (by have:=ah.size;first|omega|(simp;omega)) ?_;intro v' w5 aN a8 bZ;have a5:zke h w5:=zg.grown (by repeat (first|exact zg.refl _ _|exact ah|refine zg.alloc ?_ _|refine zg.drew ?_|refine zg.drewN ?_ _)) a8 (λj m=>Or.inr (zh ax j m).1);have aU:H (w5.ownsRow (dg (V h)) 3 1 v' (Bc ts+1) (zN (ts++[st]))):=(by show dA _ _ _ _ _ _ _;unfold zN;rw[CX];exact aN);have aq:=zd a5;obtain⟨ya,yn,yc,rfl⟩:=zq aN;clear aN a8 bZ a5)
  |(go_simp;go_wp2_with(go_at_call 99;refine(zb ar _ Aa).mono ?_;rintro e w4 ⟨tv,rfl,aK,aB⟩;obtain⟨ta,tn,tc,rfl⟩:=zq aK;have ah:H (zke h w4):=zg.trans Aa aB;have cs:=zf ah _ _ b0 id;have ax:=zd (zL aK (base':=dg (V h)) ov);try (have bX:dx w4 ⟨dg (V h),0,U⟩=I (M J (st:Nat)):=zf aB _ _ (zj _ _ rfl _ _ 0 _ rfl) id);clear aK aB)))
 all_goals
  (have⟨g,cap,r,k,bS,bm,bQ,cp,bR,a2,hz,X,hu,hm⟩:=zhz aU ov;injection bS with x1 x2 x3);subst x1;subst x2;subst x3;have hT:=zb HT k hu hm;subst hT;have a6:=a0.keep aq id;have bh:dg (V w)+1≠g:=(by have:=a0.lt;omega);have ct:Bc r<=400:=(by rw[bm];simp;omega);have bH:=zd (LS g yc _ w5 a2 bR oa);have HZ:=zd hz;have aT:=zd X;have bw:=zd (o.trans aq);have bC:=zd a6;have b4:dg (V w)<=g:=(by have:=o.size;omega);clear a2 hu hm HT X aU a6 aq ax ah ar hz bm;go_wp2_with(go_at_call 175;refine bH.mono ?_;rintro e w6 ⟨rfl,aC,a3⟩;refine zb ?_);refine zd ?_;have bx:H (zke w w6):=bw.N2 aC (λi hi=>by have F:i=g:=hi;omega);have bD:=zd (bC.keep aC (λe=>bh e));have az:=E9 g yc _ w6 a3 (by rw[zb HZ];omega) (by rw[zb HZ];exact bQ);rw[zb HZ] at az;have bu:=zd az;clear az aC a3;go_wp2_with(go_at_call 176;refine bu.mono ?_;rintro e w7 ⟨rfl,aD,a4⟩;refine zb ?_);refine zd ?_;have bz:H (zke w w7):=bx.N2 aD (λi hi=>by have F:i=g:=hi;omega);have aE:=bD.keep aD (λe=>bh e);have X:=zb aT;have ba:(compactUpTo (sort ltInt r.toArray) (Bc r)).length=Bc k:=(by rw[X];simp[AI]);have bU:(compactUpTo (sort ltInt r.toArray) (Bc r)).length<=Bc r:=(by have h9:=QI (sort ltInt r.toArray);rw[zb HZ] at h9;exact h9);have bt:=zd (zbE a4 X);rw[ba] at bU ⊢;clear aD a4 X ba aT;have⟨q0,q1,q2,g0,g1,g2⟩:=id aE;have s0:=aE.set0 (K (I ⟨g,0,U⟩) (Bc k) yc);have s1:=s0.set1 (C Z);have s2:=s1.set2 (C aS);have bG:=zd s2;have⟨_,a1,_,_,ac,_⟩:=s0;have⟨_,_,aa,_,_,ab⟩:=s1;clear s2 aE;go_wp2_with fail;have⟨u,y,z,_,_,_⟩:=zb bG;refine bodyPost_ret (v:=Uf #[K (I ⟨g,0,U⟩) (Bc k) yc,C Z,C aS]) (by simp[results,Tryz.results139,go_sem,u,y,z]) rfl ?_;refine⟨_,rfl,⟨g,yc,rfl,oa,b4,λj a m=>?_⟩,?_⟩
  .exact(AN _ _ _ _ (by first|(simp;done)|(simp;omega))).trans ((AN _ _ _ _ (by first|(simp;done)|(simp;omega))).trans ((AN _ _ _ _ (by first|(simp;done)|(simp;omega))).trans (zb bt j a m)))
  refine zg.setCell ?_ (Or.inr ov) _;refine zg.setCell ?_ (Or.inr ov) _;refine zg.setCell ?_ (Or.inr ov) _;exact bz
end
section
open Go.RowKit Go.Shelf Go.Lib
def ZB:Go.Shelf.Ren:=⟨fun|176=>173|249=>209|288=>231|283=>255|284=>256|285=>257|286=>258|129=>204|317=>277|318=>278|319=>279|320=>280|337=>289|338=>290|n=>n,fun|37=>334|2=>2|3=>3|53=>361|4=>4|9=>9|171=>398|0=>0|173=>400|212=>411|51=>359|5=>5|20=>20|213=>412|46=>324|232=>419|233=>420|n=>n,fun|17=>11|18=>13|19=>14|n=>n⟩
theorem WG:Go.Proofs.LaysM.n176 L ZB:={
 mixed:=om
 f129:=Tryz.func204.trans (congrArg I om)
 f176:=Tryz.func173.trans (congrArg I om)
 f249:=Tryz.func209.trans (congrArg I om)
 f283:=Tryz.func255.trans (congrArg I om)
 f284:=Tryz.func256.trans (congrArg I om)
 f285:=Tryz.func257.trans (congrArg I om)
 f286:=Tryz.func258.trans (congrArg I om)
 f288:=Tryz.func231.trans (congrArg I om)
 f317:=Tryz.func277.trans (congrArg I om)
 f318:=Tryz.func278.trans (congrArg I om)
 f319:=Tryz.func279.trans (congrArg I om)
 f320:=Tryz.func280.trans (congrArg I om)
 f337:=Tryz.func289.trans (congrArg I om)
 f338:=Tryz.func290.trans (congrArg I om)
 t0:=Tryz.underlying0
 a0:=Tryz.isAgg0
 z0:=Tryz.sizeOf0
 v0:=Tryz.zeroValue0
 t2:=Tryz.underlying2
 a2:=Tryz.isAgg2
 z2:=Tryz.sizeOf2
 v2:=Tryz.zeroValue2
 t3:=Tryz.underlying3
 a3:=Tryz.isAgg3
 z3:=Tryz.sizeOf3
 v3:=Tryz.zeroValue3
 t4:=Tryz.underlying4
 a4:=Tryz.isAgg4
 z4:=Tryz.sizeOf4
 v4:=Tryz.zeroValue4
 t5:=Tryz.underlying5
 a5:=Tryz.isAgg5
 z5:=Tryz.sizeOf5
 v5:=Tryz.zeroValue5
 t9:=Tryz.underlying9
 a9:=Tryz.isAgg9
 z9:=Tryz.sizeOf9
 v9:=Tryz.zeroValue9
 t20:=Tryz.underlying20
 a20:=Tryz.isAgg20
 z20:=Tryz.sizeOf20
 v20:=Tryz.zeroValue20
 t37:=Tryz.underlying334
 a37:=Tryz.isAgg334
 z37:=Tryz.sizeOf334
 v37:=Tryz.zeroValue334
 t46:=Tryz.underlying324
 a46:=Tryz.isAgg324
 z46:=Tryz.sizeOf324
 v46:=Tryz.zeroValue324
 t51:=Tryz.underlying359
 a51:=Tryz.isAgg359
 z51:=Tryz.sizeOf359
 v51:=Tryz.zeroValue359
 t53:=Tryz.underlying361
 a53:=Tryz.isAgg361
 z53:=Tryz.sizeOf361
 v53:=Tryz.zeroValue361
 t171:=Tryz.underlying398
 a171:=Tryz.isAgg398
 z171:=Tryz.sizeOf398
 v171:=Tryz.zeroValue398
 t173:=Tryz.underlying400
 a173:=Tryz.isAgg400
 z173:=Tryz.sizeOf400
 v173:=Tryz.zeroValue400
 t212:=Tryz.underlying411
 a212:=Tryz.isAgg411
 z212:=Tryz.sizeOf411
 v212:=Tryz.zeroValue411
 t213:=Tryz.underlying412
 a213:=Tryz.isAgg412
 z213:=Tryz.sizeOf412
 t232:=Tryz.underlying419
 a232:=Tryz.isAgg419
 z232:=Tryz.sizeOf419
 v232:=Tryz.zeroValue419
 t233:=Tryz.underlying420
 a233:=Tryz.isAgg420
 z233:=Tryz.sizeOf420
 v233:=Tryz.zeroValue420
 g17:=om
 g18:=om
 g19:=om
 i0:=om
 i2:=om
 i3:=om
 i4:=om
 i5:=om
 i9:=om
 i20:=om
 i37:=om
 i46:=om
 i51:=om
 i53:=om
 i171:=om
 i173:=om
 i212:=om
 i232:=om
 i233:=om
 m17:=om
 m18:=om
 m19:=by kernel_rfl }
theorem Tryz.Pw:(Tryz.prog.info? 5).map (λi=>(i.zero,i.size,i.bytes))=I (I (M .u8 0),1,1):=om
namespace Tv
theorem zaH:∀(ps:Ao) (p:Nat),keyP (ps++[p])=keyP ps++([32]++decDigits p)
 | [],p=>by simp[keyP]
 |q :: r,p=>by simp[keyP,zaH r p]
theorem keyP_take {n:Nat}(h:n<Bc ps):keyP (ps.take (n+1))=keyP (ps.take n)++([32]++decDigits ps[n]):=by rw[FK,AE h];exact zaH _ _
def keyH (b w:Bool):List UInt8:=(if b then [94] else [])++(if w then [119] else [])
theorem keyS_eq (b w:Bool)(ps:Ao):keyS b w ps=keyH b w++keyP ps:=rfl
theorem dec_len {p:Nat}(h:p<1000):(decDigits p).length<=3:=by by_cases a:p<10;rw[jR a];simp;rw[ZA a];by_cases b:p / 10<10;rw[jR b];simp;rw[ZA b,jR oa];simp
theorem keyP_pos (h:0<Bc ps):0<(keyP ps).length:=by
 cases ps with
 |nil=>simp at h
 |cons p r=>simp[keyP]
end Tv
theorem J8 (a b:List UInt8):byteCells (a++b)=byteCells a++byteCells b:=by simp[byteCells]
def UB (w:E)(B:Nat)(v:Y)(l:List UInt8):Prop:=w.ownsRow B 5 1 v (Bc l) (byteCells l)
theorem UB.slice {B:Nat}{v:Y}{l:List UInt8}(h:UB w B v l):∃a n c,v=K a n c:=by obtain⟨rfl,_⟩|⟨g,cap,b,rfl,_⟩:=h.2<;>exact⟨_,_,_,rfl⟩
theorem UB.appended {B:Nat}{v:Y}{l m:List UInt8}(h:w.ownsRow B 5 1 v (Bc l+Bc m) (byteCells l++byteCells m)):UB w B v (l++m):=by unfold UB;rw[J8,AO];exact h
theorem zg.Rz {v b:E}(h:zke w v)(k:Below (A (V w)) v b):zke w b:=
 ⟨k.os.trans h.os,k.tape.trans h.tape,k.output.trans h.output,AP h.size k.size,λj a c=>(k.block j a).trans (h.block j a c)⟩
theorem zg.OJ {v:E}(h:zke w v):Below (A (V w)) w v:=⟨h.os,h.tape,h.output,h.size,λk a=>h.block k a id⟩
theorem WH (B n p : Nat) (k : p ≤ 1000) (sv : Y) (xs : List Y) (w : E) (i : dA w B 5 1 sv n xs) (f : B ≤ A (V w)) (g : n + 21 ≤ 140737488355328) (j : TabBelow L B w "internal/strconv.uint64pow10" .u64 pow10Tab) :
  Uh L 173 #[sv,M J (p:Nat),M J 10] w λe S=>∃a,e=R a/\S.ownsRow B 5 1 a (n+(decDigits p).length) (xs++byteCells (decDigits p))/\Below B w S:=by
 have c:ZB.t 5=5:=rfl;have h:=Any.strconv_AppendInt_10 WG B n (p:Nat) oa oa sv xs w (by rw[c];exact i) f g j;rw[c] at h;refine h.mono ?_;rintro e S ⟨a,rfl,b,d,-⟩;rw[itoa_nonneg] at b;exact⟨a,rfl,b,d⟩
theorem Gx (sv : Y) (b wb : Bool) (ps : List Nat) (w : E) (hS : jj w sv ps) (h0 : 0 < ps.length) (hl : ps.length ≤ 301) (hb : ∀ p ∈ ps, p ≤ 301) (aB : TabIs dQ w "internal/strconv.uint64pow10" .u64 pow10Tab) :
  Uh dQ 137 #[Uf #[sv,C b,C wb]] w λe S=>e=R (Uc ⟨(Tv.keyS b wb ps).toArray⟩)/\zke w S:=by
 obtain⟨i0,ae,af,ag,ah⟩:=info_parts Tryz.Pw;have aK:=zd (tabBelow_of_tabIs aB);obtain⟨va,vc,rfl⟩:=hS.slice;have HS:=zd hS;have HB:=zd hb;clear hS hb aB;rw[Tv.keyS_eq];have a7:=Tv.keyP_pos h0;obtain⟨s,W⟩:∃aN,aN=dB w (Ub #[K va ps.length vc,C b,C wb] 212):=⟨_,rfl⟩
 obtain⟨t,ad⟩:∃aL,aL=Tv.keyH b wb:=⟨_,rfl⟩
 have al:H (zke w s):=by rw[W];exact Ag
 have h:A (V s)=A (V w)+1:=by rw[W];exact yj _ _
 have HT : H (TabBelow dQ (A (V w) + 1) s "internal/strconv.uint64pow10" .u64 pow10Tab) := (by rw [← h]; exact zd (tabBelow_of_tabIs (zb aK _ al.OJ)))
 have N:H (dx s ⟨A (V w),0,U⟩=I (K va ps.length vc)/\dx s ⟨A (V w),2,U⟩=I (C wb)):=by rw[W];exact⟨zj w _ rfl _ _ 0 _ rfl,zj w _ rfl _ _ 2 _ rfl⟩
 have aQ:t.length<=2:=by rw[ad];cases b<;>cases wb<;>simp[Tv.keyH]
 have HW:=zd W;have ab:=zd ad;rw[<-ad];clear W ad;cases b<;>cases wb
 all_goals
  go_enter Tryz.func137,Tryz.ntmps137
  first
   |(
     go_wp2_with(at_builtin;refine wpList_append_own _ rfl _ _ 334 rfl (A (V w)+1) 5 i0 (M .u8 0) 1 1 Tryz.underlying334 ae af ag ah rfl od _ _ _ rfl (A0 _ _ _ _) _ 1 1 [M .u8 94] rfl rfl (by first|exact cell_one_new _ _ _|(intro j u9 a;match j,a with|0,a=>simp at a;subst a;simp[Addr.add])) (λx q=>by simp at q;subst q;rfl) (by unfold maxLen;first|omega|(simp;done)|(simp;omega)) (by first|omega|(simp;done)|(simp;omega)) (by have:=h;have:=h;first|(simp;done)|(simp;omega)) ?_;intro v d o i u;refine zb ?_);refine zd ?_;have c:H (zke s d):=(by rw[zb HW];exact Ag.grown i (λj a=>by cases a))
     have r:H (UB d (A (V w)+1) v [94]):=o;obtain⟨B,L,F,rfl⟩:=r.slice;have d0:=zf c _ _ N.1 id;have d2:=zf c _ _ N.2 id;clear o i u
     first
      |(
       go_wp2_with(at_builtin;refine wpList_append_own _ rfl _ _ 334 rfl (A (V w)+1) 5 i0 (M .u8 0) 1 1 Tryz.underlying334 ae af ag ah rfl od _ _ _ rfl (AZ r _) _ 1 1 [M .u8 119] rfl rfl (by first|exact cell_one_new _ _ _|(intro j u9 a;match j,a with|0,a=>simp at a;subst a;simp[Addr.add])) (λx q=>by simp at q;subst q;rfl) (by unfold maxLen;first|omega|(simp;done)|(simp;omega)) (by first|omega|(simp;done)|(simp;omega)) (by have:=h;have:=c.size;first|(simp;done)|(simp;omega)) ?_;intro v w2 o i u;refine zb ?_);refine zd ?_;have z:H (zke s w2):=(c.alloc _).grown i (λj a=>Or.inr (by rw[h];exact(zh r j a).1));have y:H (UB w2 (A (V w)+1) v t):=(by rw[zb ab];exact UB.appended (l:=[94]) (m:=[119]) o)
       obtain⟨bb,be,bc,rfl⟩:=y.slice;have e0:=zf z _ _ N.1 id;clear o i u c r d0 d2;go_wp2_with fail)
      |(
       have z:=c;have y:H (UB d (A (V w)+1) (K B L F) t):=(by rw[zb ab];exact r)
       clear c r;go_wp2_with fail))
   |(
     go_wp2_with(at_builtin;refine wpList_append_own _ rfl _ _ 334 rfl (A (V w)+1) 5 i0 (M .u8 0) 1 1 Tryz.underlying334 ae af ag ah rfl od _ _ _ rfl (A0 _ _ _ _) _ 1 1 [M .u8 119] rfl rfl (by first|exact cell_one_new _ _ _|(intro j u9 a;match j,a with|0,a=>simp at a;subst a;simp[Addr.add])) (λx q=>by simp at q;subst q;rfl) (by unfold maxLen;first|omega|(simp;done)|(simp;omega)) (by first|omega|(simp;done)|(simp;omega)) (by have:=h;have:=h;first|(simp;done)|(simp;omega)) ?_;intro v d o i u;refine zb ?_);refine zd ?_;have c:H (zke s d):=(by rw[zb HW];exact Ag.grown i (λj a=>by cases a))
     have r:H (UB d (A (V w)+1) v [119]):=o;obtain⟨B,L,F,rfl⟩:=r.slice;have d0:=zf c _ _ N.1 id;have d2:=zf c _ _ N.2 id;clear o i u;have z:=c;have y:H (UB d (A (V w)+1) (K B L F) t):=(by rw[zb ab];exact r)
     clear c r;go_wp2_with fail)
   |(
     have y:H (UB (dB w (Ub #[K va ps.length vc,C Z,C Z] 212)) (A (V w)+1) (K U 0 0) t):=(by rw[zb ab];exact A0 _ _ _ _)
     have z:H (zke s (dB w (Ub #[K va ps.length vc,C Z,C Z] 212))):=(by rw[<-zb HW];exact zg.refl _ _)
     go_wp2_with fail)
  go_loopw[3,19] (λkv k wr=>∃(n:Nat) (l:List UInt8),k=M J n/\n<=ps.length/\l.length<=2+22*n/\H (l=t++Tv.keyP (ps.take n))/\H (zke s wr)/\H (UB wr (A (V w)+1) kv l)) (λ_ k _=>ps.length-(RowKit.intOf k).toNat)
  case atStart=>exact⟨0,t,rfl,oa,by have:=aQ;omega,by show _=_;simp[Tv.keyP],z,y⟩
  case round=>
   clear z y;obtain⟨n,l,rfl,hn,a3,X,HK,T⟩:=hrel;obtain⟨ka,kn,kc,rfl⟩:=T.slice;by_cases ap:n<ps.length
   .obtain⟨g,rfl,aZ,az⟩:=HS.get ap;have aY:=zf HK _ _ (zf al _ _ az id) id;clear az;have hp:=zb HB ps[n] (BO ap);have aE:H ((l++[32])++decDigits ps[n]=t++Tv.keyP (ps.take (n+1))):=(by show _=_;rw[zb X,Tv.keyP_take ap];simp);have b1:(0:Int)<=(n:Int):=oa;have b2:(n:Int)<(ps.length:Int):=oa;have a1:=Tv.dec_len (show ps[n]<1000 by omega);generalize ps[n]=p at *;go_wp2_with(at_builtin;refine wpList_append_own _ rfl _ _ 334 rfl (A (V w)+1) 5 i0 (M .u8 0) 1 1 Tryz.underlying334 ae af ag ah rfl od _ _ _ rfl (AZ T _) _ 1 1 [M .u8 32] rfl rfl (by first|exact cell_one_new _ _ _|(intro j u9 a;match j,a with|0,a=>simp at a;subst a;simp[Addr.add])) (λx q=>by simp at q;subst q;rfl) (by unfold maxLen;first|omega|(simp;done)|(simp;omega)) (by first|omega|(simp;done)|(simp;omega)) (by have:=HK.size;first|(simp;done)|(simp;omega)) ?_;intro v d o i u;refine zb ?_);refine zd ?_;have ac:zke _ d:=(HK.alloc _).grown i (λj a=>Or.inr (by rw[h];exact(zh T j a).1));have an:UB d (A (V w)+1) v (l++[32]):=UB.appended o;obtain⟨B,L,F,rfl⟩:=an.slice;have aw:d.ownsRow (A (V w)+1) 5 1 (K B L F) (l++[32]).length (byteCells (l++[32])):=an;have aC:=zd (WH (A (V w)+1) _ p oa (K B L F) _ d aw (by rw[<-h];exact ac.size) ou (HT.on (by rw[<-h];exact ac.OJ)));have aG:=zd ac;clear o i u an aw ac;go_wp2_with(go_at_call 173;refine aC.mono ?_;rintro e w2 ⟨v2,rfl,aA,ay⟩;refine zb ?_);refine zd ?_;have ar:=zd (UB.appended aA);have aH:=zd (aG.Rz (by rw[h];exact ay));clear aA ay;obtain⟨ya,yn,yc,rfl⟩:=ar.slice;go_wp2_with fail;exact⟨⟨n+1,_,Ae,oa,by simp;omega,aE,aH,ar⟩,by simp[RowKit.intOf];omega⟩
   .obtain rfl:n=ps.length:=oa;rw[FR] at X;have a6:0<l.length:=(by have:=zb X;rw[this];simp;omega);rcases(zb T).2 with⟨-,h9⟩|⟨g,cap,aV,e9,-,-,-,-,-,-⟩
    .omega
    .cases e9;have a0:=run_convert_bytes_back (P:=dQ) _ 334 9 5 ⟨g,0,U⟩ kc l Tryz.underlying334 Tryz.underlying5 Tryz.underlying9 (λj a=>zjh T (g:=g) rfl j _ (by simp[byteCells,a]));go_wp2_with fail;go_ret;exact⟨by rw[<-zb X];rfl,al.trans HK⟩
end
section
open Go.RowKit
def jS (w:E)(b:Nat)(es:List (Y×Y)):Prop:=∃a c,w.heap[b]?=I (.map a c)/\a.toList.map (λe=>(e.key,e.val))=es
theorem jS.lt {es:List (Y×Y)}(h:jS w b es):b<A (V w):=by have⟨c,d,a,_⟩:=h;exact(A1.1 a).1
theorem jS.keep {P:Aj}{w S:E}{b:Nat}{es:List (Y×Y)}(h:jS w b es)(k:zg P w S)(g:¬P b):jS S b es:=by have f:=h.lt;have⟨a,c,d,e⟩:=h;exact⟨a,c,(k.block b f g).trans d,e⟩
theorem jS.made (w:E)(n:Nat)(a:A (V w)=n):jS (dB w (.map #[] 0)) n []:=by subst a;exact⟨#[],0,(MapKept.heap_alloc w _).1,rfl⟩
theorem jS.noCell {es:List (Y×Y)}(h:jS w b es)(o:Nat):T w ⟨b,o,U⟩=U:=by have⟨c,d,a,_⟩:=h;simp[T,a]
theorem zaI {P:Program}{w:E}{t k e:TypeId}{d:TypeDesc}{z key:Y}{b:Nat}{es:List (Y×Y)}(l:P.underlying t=I (.map k e))(a:P.underlying k=I d)(u:(zeroValue e).run P w=.ok z w)(r:jS w b es)(o:∀p∈es,MapKept.IsKey d p.1)(g:MapKept.IsKey d key):(∃v,(key,v)∈es/\(Instr.lookup t (.map (I b)) key G).run P w=.ok (Ue #[v,C G]) w)\/((∀p∈es,p.1≠key)/\(Instr.lookup t (.map (I b)) key G).run P w=.ok (Ue #[z,C Z]) w):=by
 have⟨h,y,i,n⟩:=r;have q:∀x∈h.toList,MapKept.IsKey d x.key:=λx s=>o (x.key,x.val) (by rw[<-n];exact Im (f:=λe:MapEntry=>(e.key,e.val)) s);obtain⟨c,m⟩|⟨j,x,c,m,B⟩:=MapKept.findNow_spec g h.toList 0 q
 .refine .inr ⟨λp F=>?_,?_⟩
  grind
  simp[Instr.lookup,run_underlying l,MapKept.run_getObj_map i,MapKept.run_checkKey a g,MapKept.run_findKey a c,u,Result.andThen]
 refine .inl ⟨x.val,?_,?_⟩
 grind
 simp[Instr.lookup,run_underlying l,MapKept.run_getObj_map i,MapKept.run_checkKey a g,MapKept.run_findKey a c,Result.andThen]
theorem Ky (o:Obj):zg (zr b) w { w with heap:=w.heap.setIfInBounds b o }:=
 ⟨rfl,rfl,rfl,ov,λk _ a=>by
  have c:k≠b:=a;simp[Ne.symm c]⟩
theorem ze0 {P:Program}{w:E}{t k e:TypeId}{d:TypeDesc}{key val:Y}{b:Nat}{es:List (Y×Y)}(y:P.underlying t=I (.map k e))(m:P.underlying k=I d)(u:jS w b es)(r:∀p∈es,MapKept.IsKey d p.1)(n:MapKept.IsKey d key)(v:∀p∈es,p.1≠key):∃S,(Instr.mapUpdate t (.map (I b)) key val).run P w=.ok () S/\jS S b (es++[(key,val)])/\zg (zr b) w S:=by have⟨a,h,c,g⟩:=u;have s:∀x∈a.toList,MapKept.IsKey d x.key:=λx z=>r (x.key,x.val) (by rw[<-g];exact Im (f:=λe:MapEntry=>(e.key,e.val)) z);obtain⟨i,l⟩|⟨j,x,i,l,q⟩:=MapKept.findNow_spec n a.toList 0 s;refine⟨{ w with heap:=w.heap.setIfInBounds b (.map (a.push { key:=key,val:=val,born:=h }) (h+1)) },?_,⟨_,_,(MapKept.heap_set c).1,?_⟩,Ky _⟩;simp[Instr.mapUpdate,run_underlying y,MapKept.run_getObj_map c,MapKept.run_checkKey m n,MapKept.run_findKey m i,MapKept.run_setObj_map _ c,Result.andThen];simp[<-g];refine absurd q (v (x.key,x.val) ?_);rw[<-g];exact Im (f:=λe:MapEntry=>(e.key,e.val)) (Bg l)
theorem ze1 {P:Program}{w:E}{t k e ty:TypeId}{b:Nat}{es:List (Y×Y)}(g:P.underlying t=I (.map k e))(f:jS w b es):∃S,(Builtin.clear_ #[t] ty #[.map (I b)]).run P w=.ok (Ue #[]) S/\jS S b []/\zg (zr b) w S:=by have⟨h,d,a,i⟩:=f;refine⟨{ w with heap:=w.heap.setIfInBounds b (.map #[] d) },?_,⟨_,_,(MapKept.heap_set a).1,?_⟩,Ky _⟩;simp[Builtin.clear_,run_underlying g,MapKept.run_getObj_map a,MapKept.run_setObj_map _ a,Result.andThen];simp
section
variable {P:Program} (w:World) {f:Array Oper} {rest:List Oper} {o:Oper} {a:Act} {Q:Exit->Act->World->Prop}
theorem Wn (e:o.guard=U)(m x:Operand)(t:TypeId)(h:o.op=Op.lookup t m x G)(b:Nat)(g:a.eval m=.map (I b))(key:Y)(j:a.eval x=key)(v:Y)(i:(Instr.lookup t (.map (I b)) key G).run P w=.ok v w)(c:wpList P f Q rest (a.put o.dst v) w):wpList P f Q (o :: rest) a w:=by refine wpList_plain e λk d=>?_;unfold Oper.wp;simp[execOp,h,g,j,i,Result.andThen];exact d _ _ c
theorem Qs (i:o.guard=U)(m x v:Operand)(t:TypeId)(r:o.op=Op.mapUpdate t m x v)(k e:TypeId)(d:TypeDesc)(y:P.underlying t=I (.map k e))(j:P.underlying k=I d)(b:Nat)(es:List (Y×Y))(n:a.eval m=.map (I b))(key val:Y)(B:a.eval x=key)(z:a.eval v=val)(s:jS w b es)(h:∀p∈es,MapKept.IsKey d p.1)(l:MapKept.IsKey d key)(q:∀p∈es,p.1≠key)(c:∀S,jS S b (es++[(key,val)])->zg (zr b) w S->wpList P f Q rest (a.put o.dst undef) S):wpList P f Q (o :: rest) a w:=by refine wpList_plain i λN g=>?_;have⟨S,u,F,L⟩:=ze0 (val:=val) y j s h l q;unfold Oper.wp;simp[execOp,r,n,B,z,u,Result.andThen];exact g _ _ (c S F L)
end
open Sm (Stp Tree)
structure T6 where
 s:Tv.St
 pv:Y
 nb:Nat
abbrev _root_.Go.Proofs.YtofeiledkmfnfaaGreatDoor.Az:=List T6
def Cm (e:T6):An:=[e.pv,C e.s.b,C e.s.w,.map (I e.nb)]
def jl (es:Az):An:=es.flatMap Cm
theorem KO (l m:Az):jl (l++m)=jl l++jl m:=by simp[jl]
theorem Kz:∀(es:Az) (i:Nat) (e:T6),es[i]?=I e->∀k,k<4->(jl es)[i*4+k]?=(Cm e)[k]?
 | [],i,e,h,_,_=>by simp at h
 |x :: r,0,e,h,k,b=>by
  simp at h;subst h;simp only[jl,Lp,FV,Bv];rw[BG (by simp[Cm];omega)]
 |x :: r,i+1,e,h,k,b=>by
  have a:=Kz r i e (by simpa using h) k b;simp only[jl,Lp] at a ⊢;rw[B9 (by simp[Cm];omega)];rw[<-a];congr 1;simp[Cm];omega
def Bj (s:Tv.St):Y:=Uc ⟨(Tv.keyS s.b s.w s.ps).toArray⟩
theorem Ey {s d:Tv.St}(h:Bj s=Bj d):s=d:=by
 unfold Bj at h;have e:Tv.keyS s.b s.w s.ps=Tv.keyS d.b d.w d.ps:=by simpa using h
 have⟨a,b,c⟩:=Tv.keyS_inj e;cases s;cases d;simp at a b c;rw[a,b,c]
def BC (es:Az):List (Y×Y):=es.mapIdx (λi e=>(Bj e.s,M J (i:Nat)))
theorem zdv {es:Az}{k v:Y}(h:(k,v)∈BC es):∃(i:Nat) (e:T6),es[i]?=I e/\k=Bj e.s/\v=M J (i:Nat):=by have⟨i,a,e⟩:=List.mem_iff_getElem.1 h;simp[BC] at a e;exact⟨i,es[i],AE a,e.1.symm,e.2.symm⟩
theorem zhB (es:Az)(e:T6):BC (es++[e])=BC es++[(Bj e.s,M J (Bc es:Nat))]:=by simp[BC,List.mapIdx_append]
theorem zdw {es:Az}:∀p∈BC es,MapKept.IsKey .string p.1:=λp a=>by have⟨i,e,_,h,_⟩:=zdv (k:=p.1) (v:=p.2) a;rw[h];simp[Bj,MapKept.IsKey]
theorem J9 {base n size:Nat}{T:TypeId}{v:Y}{d:List (Y×Y)}{xs:An}(h:jS w b d)(r:w.ownsRow base T size v n xs):W v≠I b:=by have⟨f,i,c,_⟩:=h;intro e;obtain⟨rfl,_⟩|⟨g,cap,j,rfl,_,a,_⟩:=r.2;cases e;simp[W] at e;subst e;rw[c] at a;cases a
theorem zdx {sb o:Nat}{v:Y}{a:List (Y×Y)}(h:jS w b a)(c:T w ⟨sb,o,U⟩=I v):b≠sb:=λe=>by subst e;rw[h.noCell] at c;cases c
def UJ (X:Tv.St->Nat->Tv.St->Prop)(es:Az)(s:Tv.St)(a:List (Y×Y)):Prop:=∀p∈a,∃(g j:Nat) (f:T6),p=(M J (g:Nat),M J (j:Nat))/\es[j]?=I f/\X s g f.s
theorem UJ.key {X:Tv.St->Nat->Tv.St->Prop}{es:Az}{s:Tv.St}{a:List (Y×Y)}(h:UJ X es s a):∀p∈a,MapKept.IsKey (.int J) p.1:=λp b=>by obtain⟨g,j,f,rfl,_⟩:=h p b;simp[MapKept.IsKey]
structure TA (w:E)(O D:Aj)(sb pb mb most:Nat)(N:Aq)(X:Tv.St->Nat->Tv.St->Prop)(es:Az)(sv:Y):Prop where
 c0:T w ⟨sb,0,U⟩=I (Ua (I ⟨pb,0,U⟩))
 c1:T w ⟨sb,1,U⟩=I (M J (most:Nat))
 c2:T w ⟨sb,2,U⟩=I sv
 c3:T w ⟨sb,3,U⟩=I (.map (I mb))
 f2:dz w ⟨sb,2,U⟩=Z
 row:dA w 0 218 4 sv (Bc es) (jl es)
 rown:∀g,W sv=I g->O g/\g≠sb
 num:jS w mb (BC es)
 osb:O sb
 omb:O mb
 ent:∀e∈es,O e.nb/\e.nb≠mb/\ve w D e.pv e.s.ps/\e.s.OK N/\∃ms,jS w e.nb ms/\UJ X es e.s ms
 nd:es.Pairwise (λa b=>a.nb≠b.nb)
 olt:∀g,O g->g<A (V w)
 dlt:∀g,D g->g<A (V w)
 dis:∀g,D g->¬O g
section
variable {w S:World} {O D:Aj} {sb pb mb most:Nat} {N:Aq} {X:Tv.St->Nat->Tv.St->Prop} {es:Az} {sv:Value}
theorem TA.keep {P:Aj}(h:TA w O D sb pb mb most N X es sv)(k:zg P w S)(a:∀g,O g->¬P g)(m:∀g,D g->¬P g):TA S O D sb pb mb most N X es sv where
 c0:=zf k _ _ h.c0 (a _ h.osb)
 c1:=zf k _ _ h.c1 (a _ h.osb)
 c2:=zf k _ _ h.c2 (a _ h.osb)
 c3:=zf k _ _ h.c3 (a _ h.osb)
 f2:=zp k _ (h.olt _ h.osb) h.f2 (a _ h.osb)
 row:=zk h.row k (λg b=>a g (h.rown g b).1)
 rown:=h.rown
 num:=h.num.keep k (a _ h.omb)
 osb:=h.osb
 omb:=h.omb
 ent:=λe n=>by
  have⟨c,d,f,i,o,j,l⟩:=h.ent e n;exact⟨c,d,f.keep k m,i,o,j.keep k (a _ c),l⟩
 nd:=h.nd
 olt:=λg b=>AM (h.olt g b) k.size
 dlt:=λg b=>AM (h.dlt g b) k.size
 dis:=h.dis
theorem TA.NU (h:TA w O D sb pb mb most N X es sv)(k:zke w S):TA S O D sb pb mb most N X es sv:=h.keep k (λ_ _ f=>f) (λ_ _ f=>f)
theorem TA.get (h:TA w O D sb pb mb most N X es sv){i:Nat}{e:T6}(a:es[i]?=I e):∃g cap,sv=K (I ⟨g,0,U⟩) (Bc es) cap/\T w ⟨g,i*4,U⟩=I e.pv/\T w ⟨g,i*4+1,U⟩=I (C e.s.b)/\T w ⟨g,i*4+2,U⟩=I (C e.s.w)/\T w ⟨g,i*4+3,U⟩=I (.map (I e.nb)):=by
 have m:=(AK.1 a).1;have c:=@World.ownsRow.cells w 0 218 4 _ _ _ h.row;obtain⟨_,l⟩|⟨g,cap,j,rfl,_⟩:=h.row.2;omega;have key:∀k v,k<4->(Cm e)[k]?=I v->T w ⟨g,i*4+k,U⟩=I v:=λk v d f=>by have:=c (g:=g) rfl (i*4+k) v (by rw[Kz es i e a k d];exact f);have b:(⟨g,0,U⟩:Addr).add (i*4+k)=⟨g,i*4+k,U⟩:=(by unfold Addr.add;split<;>simp_all);rw[b] at this;exact this
 exact⟨g,cap,rfl,key 0 _ oa rfl,key 1 _ oa rfl,key 2 _ oa rfl,key 3 _ oa rfl⟩
theorem TA.slice (h:TA w O D sb pb mb most N X es sv):∃a c,sv=K a (Bc es) c:=by obtain⟨rfl,b⟩|⟨g,cap,d,rfl,_⟩:=h.row.2;exact⟨U,0,by rw[b]⟩;exact⟨_,_,rfl⟩
theorem TA.Pm (h:TA w O D sb pb mb most N X es sv){e:T6}(b:e∈es):W sv≠I e.nb/\e.nb≠sb:=by have⟨_,_,_,_,c,a,_⟩:=h.ent e b;exact⟨J9 a h.row,zdx a h.c0⟩
theorem TA.Ox (h:TA w O D sb pb mb most N X es sv):W sv≠I mb/\mb≠sb:=⟨J9 h.num h.row,zdx h.num h.c0⟩
theorem TA.push {E:Aj}{sv':Y}{e:T6}(h:TA w O D sb pb mb most N X es sv)(k:zg (λg=>g=sb\/g=mb\/dH sv=I g) w S)(t:dx S ⟨sb,0,U⟩=I (Ua (I ⟨pb,0,U⟩))) (c1:dx S ⟨sb,1,U⟩=I (M J (most:Nat))) (u:dx S ⟨sb,2,U⟩=I sv') (v:dx S ⟨sb,3,U⟩=I (.map (I mb))) (B:dz S ⟨sb,2,U⟩=Z)(row:dA S 0 218 4 sv' (Bc es+1) (jl es++Cm e)) (s:∀g,dH sv'=I g->dH sv=I g\/A (V w)<=g) (num:jS S mb (BC es++[(Bj e.s,M J (Bc es:Nat))]))(ai:A (V w)<=e.nb) (r:jS S e.nb []) (ae:ve w E e.pv e.s.ps) (m:∀g,E g->¬O g/\g<A (V w)) (ad:e.s.OK N):TA S (λg=>O g\/g=e.nb\/dH sv'=I g) (λg=>D g\/E g) sb pb mb most N X (es++[e]) sv':=by
 have ak:=h.olt _ h.osb;have ah:=h.olt _ h.omb;have o:∀g,D g\/E g->¬(g=sb\/g=mb\/dH sv=I g):=λg c d=>by have l:¬O g:=c.elim (h.dis g) (λq=>(m g q).1);obtain rfl|rfl|d:=d;exact l h.osb;exact l h.omb;exact l (h.rown g d).1
 have aj:∀g,dH sv'=I g->O g\/A (V w)<=g:=λg c=>(s g c).imp (λq=>(h.rown g q).1) id;refine⟨t,c1,u,v,B,?_,λg c=>⟨.inr (.inr c),?_⟩,?_,.inl h.osb,.inl h.omb,λx i=>?_,?_,λg c=>?_,λg c=>?_,λg c d=>?_⟩;rw[AO,KO];simp only[jl,Lp,List.flatMap_nil,BW,BH,Cc];exact row;obtain q|q:=s g c;exact(h.rown g q).2;omega;rw[zhB];exact num
 .rcases A7.1 i with i|i
  .have⟨F,L,P,T,ms,W,h6⟩:=h.ent x i;have⟨n1,n2⟩:=h.Pm i;refine⟨.inl F,L,(P.mono (λg c=>.inl c)).keep k (λg c=>o g c),T,ms,W.keep k (λq=>?_),λp d=>?_⟩
   grind
   have⟨g,j,f,y,n,z⟩:=h6 p d;exact⟨g,j,f,y,by rw[BG (AK.1 n).1];exact n,z⟩
  obtain rfl:=A5.1 i;exact⟨.inr (.inl rfl),oa,(ae.mono (λg c=>.inr c)).keep k (λg c=>o g c),ad,[],r,λp d=>by cases d⟩
 refine Io.2 ⟨h.nd,ov,λa ha b hb=>?_⟩;obtain rfl:=A5.1 hb;have:=h.olt _ (h.ent a ha).1;omega;obtain c|rfl|c:=c;exact AM (h.olt g c) k.size;exact r.lt;exact(zh row g c).2;obtain c|c:=c;exact AM (h.dlt g c) k.size;exact AM (m g c).2 k.size;have l:¬O g:=c.elim (h.dis g) (λq=>(m g q).1);have ag:g<A (V w):=c.elim (h.dlt g) (λq=>(m g q).2);obtain d|rfl|d:=d;exact l d;omega
 grind
theorem TA.clear (h:TA w O D sb pb mb most N X es sv)(k:zg (λg=>g=sb\/g=mb) w S)(b:T S ⟨sb,0,U⟩=I (Ua (I ⟨pb,0,U⟩))) (c1:T S ⟨sb,1,U⟩=I (M J (most:Nat))) (c:T S ⟨sb,2,U⟩=I (K U 0 0)) (d:T S ⟨sb,3,U⟩=I (.map (I mb))) (f:dz S ⟨sb,2,U⟩=Z) (num:jS S mb []):TA S O D sb pb mb most N X [] (K U 0 0):=
 ⟨b,c1,c,d,f,A0 _ _ _ _,λg a=>(by cases a),num,h.osb,h.omb,λe i=>(by cases i),List.Pairwise.nil,λg a=>AM (h.olt g a) k.size,λg a=>AM (h.dlt g a) k.size,h.dis⟩
theorem TA.way {i j g:Nat}{e f:T6}{z:List (Y×Y)}(h:TA w O D sb pb mb most N X es sv)(t:es[i]?=I e)(hj:es[j]?=I f)(hX:X e.s g f.s)(W:UJ X es e.s z)(k:zg (zr e.nb) w S)(T:jS S e.nb (z++[(M J (g:Nat),M J (j:Nat))])):TA S O D sb pb mb most N X es sv:=by
 have s:=Bg t;have⟨o1,o2,_⟩:=h.ent e s;have⟨n1,n2⟩:=h.Pm s;have b:∀q,q≠e.nb->¬zr e.nb q:=λq a f=>a f;refine⟨zf k _ _ h.c0 (b _ n2.symm),zf k _ _ h.c1 (b _ n2.symm),zf k _ _ h.c2 (b _ n2.symm),zf k _ _ h.c3 (b _ n2.symm),zp k _ (h.olt _ h.osb) h.f2 (b _ n2.symm),zk h.row k (λq a f=>?_),h.rown,h.num.keep k (b _ o2.symm),h.osb,h.omb,λx y=>?_,h.nd,λq a=>AM (h.olt q a) k.size,λq a=>AM (h.dlt q a) k.size,h.dis⟩
 grind
 have⟨l,m,F,r,ab,L,P⟩:=h.ent x y;have o:=F.keep k (λq a f=>h.dis q a (by have B:q=e.nb:=f;rw[B];exact o1));by_cases d:x.nb=e.nb
 ·(have aa:x=e:=by obtain⟨n,v,rfl⟩:=List.mem_iff_getElem.1 y;obtain⟨u,rfl⟩:=AK.1 t;obtain q|q|q:=Nat.lt_trichotomy n i;exact absurd d (Lk.1 h.nd n i v u q);subst q;rfl;exact absurd d.symm (Lk.1 h.nd i n u v q));subst aa;refine⟨l,m,o,r,_,T,λp c=>?_⟩;obtain c|c:=A7.1 c;exact W p c
  grind
 exact⟨l,m,o,r,ab,L.keep k (b _ d),P⟩
end
theorem Tryz.infoState:(Tryz.prog.info? 218).map (λi=>(i.zero,i.size,i.bytes))=I (I (Uf #[K U 0 0,C Z,C Z,.map U]),4,40):=om
theorem zdy (W:E)(n:Nat)(g:A (V W)=n)(a b c d:Y)(T:TypeId):∀j u,[a,b,c,d][j]?=I u->(dB W (Ub #[a,b,c,d] T)).cell? ((⟨n,0,U⟩:Addr).add j)=I u:=by
 intro j u f;have e:(⟨n,0,U⟩:Addr).add j=⟨n,j,U⟩:=by unfold Addr.add;split<;>simp_all
 rw[e];exact zj W n g _ _ _ _ (by simpa using f)
section
variable {w S:World} {O D:Aj} {sb pb mb most:Nat} {N:Aq} {X:Tv.St->Nat->Tv.St->Prop} {es:Az} {sv:Value}
theorem TA.more {a:Aj}(h:TA w O D sb pb mb most N X es sv)(k:∀g,D g->a g)(c:∀g,a g->¬O g/\g<A (V w)):TA w O a sb pb mb most N X es sv:=
 { h with ent:=λe l=>(by have⟨d,f,i,j⟩:=h.ent e l;exact⟨d,f,i.mono k,j⟩),dlt:=λg b=>(c g b).2,dis:=λg b=>(c g b).1 }
end
theorem Ej (O D:Aj)(N:Aq)(X:Tv.St->Nat->Tv.St->Prop)(es:Az)(sv:Y)(w:E)(h:TA w O D sb pb mb most N X es sv):Uh L 28 #[Ua (I ⟨sb,0,U⟩)] w λx S=>x=R (M J (Bc es:Nat))/\S=w:=by have b:=h.c2;obtain⟨a,c,rfl⟩:=h.slice;clear h;go_enter Tryz.func28,Tryz.ntmps28;go_wp2_with fail;go_ret;exact⟨rfl,rfl⟩
theorem Wo (O D:Aj)(N:Aq)(X:Tv.St->Nat->Tv.St->Prop)(es:Az)(sv:Y)(w:E)(h:TA w O D sb pb mb most N X es sv):Uh L 86 #[Ua (I ⟨sb,0,U⟩)] w λx S=>x=R (C (decide (most<=Bc es)))/\zke w S:=by have b:=h.c1;have d:=h.c2;obtain⟨a,c,rfl⟩:=h.slice;clear h;go_enter Tryz.func86,Tryz.ntmps86;go_wp2_with fail;go_region;go_wp2_with fail;go_ret;exact⟨rfl,by first|exact Ah|exact(zg.refl _ _).drew|exact zg.refl _ _⟩
theorem zaJ (O D:Aj)(N:Aq)(X:Tv.St->Nat->Tv.St->Prop)(es:Az)(sv:Y)(w:E)(h:TA w O D sb pb mb most N X es sv):Uh L 87 #[Ua (I ⟨sb,0,U⟩)] w λx S=>x=R (Ue #[])/\TA S O D sb pb mb most N X [] (K U 0 0)/\zg O w S:=by
 have f:=h.c2;have s:=h.c3;have r:=h.f2;have l:=(h.Ox).2;have m:=h.num.keep (P:=λk=>k=sb) ((zg.refl (λk=>k=sb) w).setCell (p:=⟨sb,2,U⟩) (.inl rfl) (K U 0 0)) l;have⟨u,v,j,i⟩:=ze1 (P:=L) (ty:=0) Tryz.underlying129 m;have q:=zd j;have a:=zd i;have o:=zd h;have t:(w.setCell ⟨sb,2,U⟩ (K U 0 0)).cell? ⟨sb,3,U⟩=I (.map (I mb)):=(AN _ _ _ _ ov).trans s;clear h m j i;go_enter Tryz.func87,Tryz.ntmps87;go_wp2_with fail
 go_end0
 have n:zg (λg=>g=sb\/g=mb) w u:=(((zg.refl _ w).setCell (p:=⟨sb,2,U⟩) (.inl (.inl rfl)) (K U 0 0))).trans (a.mono (λk _ d=>.inr d));have c:¬zr mb sb:=λe=>l e.symm;have b:=zb o;refine⟨rfl,b.clear n ?_ ?_ ?_ ?_ ?_ q,n.mono (λk _ d=>by obtain rfl|rfl:=d;exact b.osb;exact b.omb)⟩;exact zf a _ _ ((AN _ _ _ _ ov).trans b.c0) c;exact zf a _ _ ((AN _ _ _ _ ov).trans b.c1) c;exact zf a _ _ (AX _ _ _ f) c;exact zf a _ _ t c;exact zp a _ (by rw[World.size_setCell];exact zic w _ f) ((zl _ _ _ _).trans r) c
def Mq (sb mb:Nat)(sv:Y)(g:Nat):Prop:=g=sb\/g=mb\/W sv=I g
theorem TA.Sv {O D:Aj}{sb pb mb most:Nat}{N:Aq}{X:Tv.St->Nat->Tv.St->Prop}{es:Az}{sv:Y}(h:TA w O D sb pb mb most N X es sv){g:Nat}(a:Mq sb mb sv g):O g:=by obtain rfl|rfl|a:=a;exact h.osb;exact h.omb;exact(h.rown g a).1
theorem DV {c h o:World}{O D E:Aj}{sb pb mb most:Nat}{N:Aq}{X:Tv.St->Nat->Tv.St->Prop}{es:Az}{sv sv' t:Y}{s:Tv.St}(a:TA c O D sb pb mb most N X es sv)(u:zke w c)(z:∀g,E g->¬O g/\g<A (V w))(ad:ve w E t s.ps)(ac:s.OK N)(j:zg (λk=>dH sv=I k) c h) (B:h.ownsRow 0 218 4 sv' (Bc es+1) (jl es++[t,C s.b,C s.w,.map (I (A (V c)))])) (v:∀g,dH sv'=I g->dH sv=I g\/A (V c)<=g) (T:jS h (A (V c)) [])(W:jS o mb (BC es++[(Bj s,M J (Bc es:Nat))])) (d:zg (zr mb) (h.setCell ⟨sb,2,U⟩ sv') o):∃(i:Nat) (e:T6) (r:Az) (ah:Y) (O':Aj),Ending.returned (M J (Bc es:Nat))=R (M J (i:Nat))/\r[i]?=I e/\e.s=s/\TA o O' (λg=>D g\/E g) sb pb mb most N X r ah/\(r=es\/∃S,r=es++[S])/\(∀g,O g->O' g)/\(∀g,O' g->O g\/A (V w)<=g)/\zg (Mq sb mb sv) w o:=by
 have ag:=a.olt _ a.osb;have ai:=a.olt _ a.omb;have aa:=a.Ox.2;have n:¬dH sv=I sb:=λe=>(a.rown sb e).2 rfl;have ab:jS h mb (BC es):=a.num.keep j a.Ox.1;have ae:=J9 ab B;have af:∀g,dH sv'=I g->g≠sb:=λg b=>by obtain q|q:=v g b;exact(a.rown g q).2;omega
 have x:zg (λk=>k=sb) h (h.setCell ⟨sb,2,U⟩ sv'):=(zg.refl (λk=>k=sb) h).setCell (p:=⟨sb,2,U⟩) (.inl rfl) _;have m:¬zr mb sb:=λe=>aa e.symm;have P:=zf j _ _ a.c2 n;have L:zg (λg=>g=sb\/g=mb\/dH sv=I g) c o:=((j.mono (λk _ l=>.inr (.inr l))).trans (x.mono (λk _ l=>.inl l))).trans (d.mono (λk _ l=>.inr (.inl l)));have aj:=d.size;have F:=u.size;have key:=a.push (E:=E) (sv':=sv') (e:=⟨s,t,A (V c)⟩) L
  (zf d _ _ ((AN _ _ _ _ ov).trans (zf j _ _ a.c0 n)) m) (zf d _ _ ((AN _ _ _ _ ov).trans (zf j _ _ a.c1 n)) m)
  (zf d _ _ (AX _ _ _ P) m) (zf d _ _ ((AN _ _ _ _ ov).trans (zf j _ _ a.c3 n)) m)
  (zp d _ (by rw[World.size_setCell];exact zic h _ P) ((zl _ _ _ _).trans (zp j _ ag a.f2 n)) m)
  (zk (zk B x (λg b e=>af g b e)) d (λg b e=>ae (by have y:g=mb:=e;rw[<-y];exact b))) v W (AD _)
  ((T.keep x (λe=>oa)).keep d (λe=>by have y:A (V c)=mb:=e;omega)) (ad.keep u (λ_ _ f=>f)) (λg b=>⟨(z g b).1,AM (z g b).2 F⟩) ac
 refine⟨Bc es,⟨s,t,A (V c)⟩,_,_,_,rfl,ov,rfl,key,.inr ⟨_,rfl⟩,λg b=>.inl b,λg b=>?_,(u.mono (λ_ _ f=>f.elim)).trans (L.mono (λk _ l=>l))⟩;obtain b|rfl|b:=b;exact .inl b;exact .inr F;obtain q|q:=v g b;exact .inl (a.rown g q).1;exact .inr oa
theorem XB (O D E:Nat → Prop)(N:List Stp)(X:Tv.St → Nat → Tv.St → Prop)(es:List T6)(sv pv:Y)(s:Tv.St)(w:World)(h:TA w O D sb pb mb most N X es sv)(hE:∀ g, E g → ¬ O g ∧ g < A (V w))(af:ve w E pv s.ps)(L:s.OK N)(hN:N.length ≤ 300)(hl:es.length ≤ 1000)(aH:Lib.TabIs dQ w "internal/strconv.uint64pow10" .u64 Lib.pow10Tab) :
  Uh dQ 88 #[Ua (I ⟨sb,0,U⟩),FL pv s.b s.w] w λx S=>∃(i:Nat) (e:T6) (ad:List T6) (sv':Y) (O':Nat->Prop),x=R (M J (i:Nat))/\ad[i]?=I e/\e.s=s/\TA S O' (λg=>D g\/E g) sb pb mb most N X ad sv'/\(ad=es\/∃e',ad=es++[e'])/\(∀g,O g->O' g)/\(∀g,O' g->O g\/A (V w)<=g)/\zg (Mq sb mb sv) w S:=by
 obtain⟨i0,a7,be,bf,bg⟩:=info_parts Tryz.infoState;obtain⟨n,o,rfl⟩:=af.slice;obtain⟨ra,rc,rfl⟩:=h.slice;have ac:H (zke w (dB w (Ub #[K n s.ps.length o,C s.b,C s.w] 212))):=Ag;have br:=L.len;have aS:=zd (Gx _ s.b s.w s.ps _ ((af.int).keep ac) L.ne oa (λp hp=>by have:=L.lt p hp;omega) (Lib.tabBelow_of_tabIs aH _ ac.OJ));have hz:∀w,(zeroValue 3).run dQ w=.ok (M J 0) w:=λw=>om
 have H1:=zd (h.NU ac);have HE:=zd hE;have HP:=zd af;have aY:=zd L;have bt:(dB w (Ub #[K n s.ps.length o,C s.b,C s.w] 212)).heap.size=A (V w)+1:=yj _ _;have HC:H ((dB w (Ub #[K n s.ps.length o,C s.b,C s.w] 212)).cell? ⟨A (V w),0,U⟩=I (K n s.ps.length o)/\(dB w (Ub #[K n s.ps.length o,C s.b,C s.w] 212)).cell? ⟨A (V w),1,U⟩=I (C s.b)/\(dB w (Ub #[K n s.ps.length o,C s.b,C s.w] 212)).cell? ⟨A (V w),2,U⟩=I (C s.w)):=⟨zj w _ rfl _ _ 0 _ rfl,zj w _ rfl _ _ 1 _ rfl,zj w _ rfl _ _ 2 _ rfl⟩
 have bj:=zd h;unfold FL;clear h hE af L aH;have bs:=@run_makeMap dQ;go_enter Tryz.func88,Tryz.ntmps88;go_wp2_with(first
  |(go_at_call 137;refine aS.mono ?_;rintro e c ⟨rfl,m⟩;refine zb ?_))
 refine zd ?_;have a:=H1.NU m;have F:=ac.trans m;obtain⟨r,y,B⟩:=zb HC;have r:=zf m _ _ r id;have y:=zf m _ _ y id;have B:=zf m _ _ B id;have c2:=a.c2;have c3:=a.c3;rcases zaI (P:=dQ) (w:=c) (t:=129) (k:=9) (e:=3) (d:=.string) (z:=M J 0) (key:=Bj s) (b:=mb) Tryz.underlying129 Tryz.underlying9 (hz c) a.num zdw (by simp[Bj,MapKept.IsKey]) with⟨v,hv,T⟩|⟨aE,T⟩
 .obtain⟨i,e,hi,l,rfl⟩:=zdv hv;have aB:e.s=s:=(Ey l).symm;have HF:H (TA c O (λg=>D g\/E g) sb pb mb most N X es (K ra es.length rc)):=a.more (λg j=>.inl j) (λg j=>j.elim (λq=>⟨a.dis g q,a.dlt g q⟩) (λq=>⟨(zb HE g q).1,AM (zb HE g q).2 F.size⟩));have HO:=zd F;have HI:=zd hi;have HS:=zd aB;clear a F hi aB l hv m r y B;unfold Bj at T;go_wp2_with(at_lookup;refine Wn _ rfl _ _ 129 rfl mb rfl _ rfl _ T ?_);go_ret;exact⟨i,e,es,_,O,rfl,HI,HS,HF,.inl rfl,λg j=>j,λg j=>.inl j,HO.mono (λ_ _ f=>f.elim)⟩
 .have aW:=zd aE;have H2:=zd a;have HO:=zd F;have al:=zd a.row;have f2:=a.f2;have ap:=a.olt _ a.osb;have ao:=λg j=>(a.rown g j).2;have ba:=(a.Ox).1;clear a F m aE;have W:zke c (dB c (.map #[] 0)):=Ag;have a0:=zf W _ _ r id;have aa:=zf W _ _ y id;have a2:=zf W _ _ B id;have a3:=zf W _ _ c2 id;clear W;unfold Bj at T;go_wp2_with fail;go_region_law(refine ji rfl (.tmp 31) (.tmp 35) 128 rfl 0 218 i0 (Uf #[K U 0 0,C Z,C Z,.map U]) 4 40 Tryz.underlying128 a7 be bf bg rfl od (K ra es.length rc) _ (jl es) (by simp[Act.eval]) (zk al (P:=λ_=>False) (by repeat (first|refine zg.alloc ?_ _|refine zg.drew ?_|refine zg.drewN ?_ _|exact zg.refl _ _)) (λ_ _ f=>f)) ⟨A (V c)+1,0,U⟩ 1 1 [K n s.ps.length o,C s.b,C s.w,.map (I (A (V c)))] (by simp[Act.eval]) rfl (zdy _ (A (V c)+1) ov _ _ _ _ _) (λu hu=>by simp at hu;rcases hu with rfl|rfl|rfl|rfl<;>rfl) od Ac oa ov ?_;intro v' w4 an ae aG;obtain⟨ya,yn,yc,rfl⟩:=zq an;have oW:zg (λk=>(K ra es.length rc).ownBlock=I k) c w4:=zg.grown Aa ae (λk l=>.inl l);have m2:=(oW.cell (p:=⟨sb,2,U⟩) ap (λe=>ao sb e rfl)).trans c2;have m3:=(oW.cell (p:=⟨sb,3,U⟩) ap (λe=>ao sb e rfl)).trans c3;have m0:=(oW.frozen (p:=⟨sb,2,U⟩) ap (λe=>ao sb e rfl)).trans f2;have aV:H (jS w4 (A (V c)) []):=(by first|exact(jS.made c _ rfl).keep (zg.grown Aa ae (λk l=>.inl l)) (λe=>by have:=(zh al _ e).2;omega)|exact(jS.made c.drew _ rfl).keep (zg.grown Aa ae (λk l=>.inl l)) (λe=>by have:=(zh al _ e).2;omega));have av:=zd oW;have au:=zd an;have a1:H (∀g,(K ya yn yc).ownBlock=I g->(K ra es.length rc).ownBlock=I g\/A (V c)<=g):=(λg j=>(aG g j).imp_right (λq=>by simp at q;omega));clear oW an ae aG)
  all_goals
   have bb:yn=es.length+1:=(by rcases(zb au).2 with⟨e1,e2⟩|⟨g',bk,bl,e1,_⟩<;>cases e1<;>first|rfl|omega);subst bb;have a8:=H2.Ox.2;have aT:H (jS (w4.setCell ⟨sb,2,U⟩ (K ya (es.length+1) yc)) mb (BC es)):=(H2.num.keep av ba).keep ((zg.refl (λk=>k=sb) w4).setCell (p:=⟨sb,2,U⟩) (.inl rfl) _) a8;have bv:(w4.setCell ⟨sb,2,U⟩ (K ya (es.length+1) yc)).cell? ⟨sb,3,U⟩=I (.map (I mb)):=(AN _ _ _ _ ov).trans m3;clear a0 aa a2 a3 r y B c2 c3 T f2 m3 m0;go_wp2_with(at_mapUpdate;refine Qs _ rfl _ _ _ 129 rfl 9 3 .string Tryz.underlying129 Tryz.underlying9 mb (BC es) rfl (Bj s) (M J (es.length:Nat)) rfl rfl aT zdw (by simp[Bj,MapKept.IsKey]) aW ?_;intro w6 aD aA;have aU:=zd aD;have aX:=zd aA;clear aD aA);go_ret;exact DV H2 HO HE HP aY av au a1 aV aU (zb aX)
structure TX (w:E)(A:Aj)(pb:Nat)(N:Aq)(st:Nat)(W:Am)(cs:Ar):Prop where
 at':qW w A pb N st W
 cut:XA w A pb cs
 up:cs.Pairwise (· < ·)
 bd:∀x∈cs,0<=x/\x<=1114112
 al:∀c d,Tv.grp cs c=Tv.grp cs d->W c=W d/\∀s∈N,jQ s c=jQ s d
theorem TX.keep {P A:Aj}{w S:E}{pb st:Nat}{N:Aq}{W:Am}{cs:Ar}(h:TX w A pb N st W cs)(k:zg P w S)(a:∀g,A g->¬P g):TX S A pb N st W cs:=
 ⟨h.at'.keep k a,h.cut.keep k a h.at'.own,h.up,h.bd,h.al⟩
def qB (N:Aq)(st:Nat)(W:Am)(cs:Ar)(s:Tv.St)(g:Nat)(a:Tv.St):Prop:=∀c,Tv.grp cs c=g->a=Tv.aft N st W s c
def Tx (w : E) : Prop := Lib.TabIs L w "internal/strconv.uint64pow10" .u64 Lib.pow10Tab
theorem Dh : Tryz.prog.globalNamed "internal/strconv.uint64pow10" = I 11 := by kernel_rfl
theorem Tx.lt (h:Tx w):11<A (V w):=by
 unfold Tx Lib.TabIs World.var? at h;rw[Dh] at h;simp only[Option.bind_some] at h;obtain a|a:=FU 11 (A (V w));exact a
 grind
theorem Tx.keep {P:Aj}{w S:E}(h:Tx w)(k:zg P w S)(b:¬P 11):Tx S:=by have a:=h.lt;unfold Tx Lib.TabIs World.var? at h ⊢;rw[Dh] at h ⊢;simp only[Option.bind_some] at h ⊢;rw[k.block _ a b];exact h
structure Env (w:E)(A O:Aj)(pb:Nat)(N:Aq)(st:Nat)(W:Am)(cs:Ar):Prop where
 prog:TX w A pb N st W cs
 tab:Tx w
 ao:∀g,A g->¬O g
 ot:∀g,O g->g≠11
 alt:∀g,A g->g<q (V w)
theorem Env.keep {A O O':Aj}{w S:E}{pb st:Nat}{N:Aq}{W:Am}{cs:Ar}(h:Env w A O pb N st W cs)(k:zg O w S)(b:∀g,O' g->O g\/dg (V w)<=g):Env S A O' pb N st W cs:=
 ⟨h.prog.keep k h.ao,h.tab.keep k (λq=>h.ot _ q rfl),λg a q=>(b g q).elim (h.ao g a) (λq=>by have:=h.alt g a;omega),λg a e=>(b g a).elim (λq=>h.ot g q e) (λq=>by have:=h.tab.lt;omega),λg a=>AM (h.alt g a) k.size⟩
theorem Env.NU {A O:Aj}{w S:E}{pb st:Nat}{N:Aq}{W:Am}{cs:Ar}(h:Env w A O pb N st W cs)(k:zke w S):Env S A O pb N st W cs:=h.keep (k.mono (λ_ _ f=>f.elim)) (λ_ a=>.inl a)
theorem ve.bound {A:Aj}{w:E}{v:Y}{ps:Ao}(h:ve w A v ps)(e:0<Bc ps):ve w (λg=>A g/\g<q (V w)) v ps:=by have⟨g,cap,b,c,d,a⟩:=h;exact⟨g,cap,b,c,⟨d,zic w _ (a 0 _ (AE e))⟩,a⟩
def Leaves (w S:E)(O D:Aj)(sb pb mb most:Nat)(N:Aq)(X:Tv.St->Nat->Tv.St->Prop)(s:Tv.St)(d:Nat)(x:Ending):Prop:=
 ∃(j:Nat) (e:T6) (a:Az) (f:Y) (c b:Aj),x=R (M J (j:Nat))/\a[j]?=I e/\e.s=s/\TA S c b sb pb mb most N X a f/\(Bc a)<=d/\(∀g,c g->O g\/A (V w)<=g)/\(∀g,b g->D g\/A (V w)<=g)/\zg O w S
theorem QJ (i:Nat)(A O D:Aj)(N:Aq)(W:Am)(cs:Ar)(es:Az)(sv:Y)(e:T6)(c:Int)(w:E)(n:Env w A O pb N st W cs)(h:TA w O D sb pb mb most N (qB N st W cs) es sv)(r:es[i]?=I e)(hl:Bc es<=1000):Uh dQ 91 #[Ua (I ⟨sb,0,U⟩),M J (i:Nat),M Ug c] w λx S=>Leaves w S O D sb pb mb most N (qB N st W cs) (Tv.aft N st W e.s c) (Bc es+1) x:=by
 obtain⟨g,cap,rfl,r0,r1,r2,r3⟩:=h.get r;have bJ:i<Bc es:=(AK.1 r).1;have c0:=h.c0;have c2:=h.c2;have⟨o1,o2,aj,aD,ms,ai,X⟩:=h.ent e (Bg r);have aB:=zhu pb cs c A w n.prog.cut n.prog.up n.prog.bd;have ap:=zd aB;have hz:∀w,(zeroValue 3).run dQ w=.ok (M J 0) w:=λw=>om;have b1:(0:Int)<=(i:Int):=oa;have b2:(i:Int)<(Bc es:Int):=oa;have⟨pa,pc,aZ⟩:=aj.slice;rcases zaI (P:=dQ) (w:=w) (t:=216) (k:=3) (e:=3) (d:=.int J) (z:=M J 0) (key:=M J (Tv.grp cs c:Nat)) (b:=e.nb) Tryz.underlying216 Tryz.underlying3 (hz w) ai X.key (by simp[MapKept.IsKey]) with⟨v,hv,a1⟩|⟨aX,a1⟩
 .have⟨g9,j,f,e1,e2,e3⟩:=X _ hv;simp only[Prod.mk.injEq] at e1;obtain⟨aO,rfl⟩:=e1;have aA:Tv.grp cs c=g9:=by have h9:((Tv.grp cs c:Nat):Int)=(g9:Nat):=(by simpa using aO);omega
  have HF:H (Leaves w w O D sb pb mb most N (qB N st W cs) (Tv.aft N st W e.s c) (Bc es+1) (R (M J (j:Nat)))):=⟨j,f,es,_,O,D,rfl,e2,e3 c aA,h,oa,λg a=>.inl a,λg a=>.inl a,zg.refl _ _⟩
  clear h n aj aD ai X hv aB e2 e3 r aO aA;go_enter Tryz.func91,Tryz.ntmps91;go_wp2_with(go_at_call 138;refine AL ap ?_);go_ret;exact HF
 have al:H (∀o,zke w o->Uh dQ 139 #[Ua (I ⟨pb,0,U⟩),Uf #[e.pv,C e.s.b,C e.s.w],M Ug c] o λx S=>∃aa,x=R (Uf #[aa,C (Tv.aft N st W e.s c).b,C (Tv.aft N st W e.s c).w])/\ve S (λg=>dg (V o)<=g) aa (Tv.aft N st W e.s c).ps/\zke o S):=λo aV=>zhA pb st N W e.pv e.s c A o (n.prog.at'.keep aV (λ_ _ f=>f)) (aj.int.keep aV) aD;have u:=zd h;have HV:=zd n;have aI:=zd aX;have HM:=zd ai;have HW:=zd X;have HI:=zd r;have a9:=zd o2;have a8:=zd n.prog.at'.len;have aT:(Tv.aft N st W e.s c).OK N:=Tv.aft_ok W e.s c n.prog.at'.stl;have an:=zd aT;have am:H (∀s',s'=Tv.aft N st W e.s c->qB N st W cs e.s (Tv.grp cs c) s'):=λs' hs c' bi=>by have⟨ad,a2⟩:=n.prog.al c' c bi;rw[hs];exact(Tv.aft_alike ad a2).symm
 rw[aZ] at r0 al;generalize Tv.aft N st W e.s c=T at al an am ⊢;generalize bj:Tv.grp cs c=gc at ap aI am a1;clear h n aj aD ai X aB aX r aT aZ o1 o2 bj;go_enter Tryz.func91,Tryz.ntmps91;have aK:H (∀l ab,zke w l->ve l (λg=>dg (V w)<=g) ab T.ps->Uh dQ 88 #[Ua (I ⟨sb,0,U⟩),Uf #[ab,C T.b,C T.w]] l λx S=>∃(i:Nat) (e:T6) (m:Az) (aa:Y) (y:Aj),x=R (M J (i:Nat))/\m[i]?=I e/\e.s=T/\TA S y (λg=>D g\/(dg (V w)<=g/\g<dg (V l))) sb pb mb most N (qB N st W cs) m aa/\(m=es\/∃e',m=es++[e'])/\(∀g,O g->y g)/\(∀g,y g->O g\/dg (V l)<=g)/\zg (Mq sb mb (K (I ⟨g,0,U⟩) (Bc es) cap)) l S):=λl ab B L=>
  XB sb pb mb most O D (λg=>dg (V w)<=g/\g<dg (V l)) N (qB N st W cs) es _ ab T l (u.NU B) (λg a=>⟨λq=>by have:=u.olt g q;omega,a.2⟩) (L.bound an.ne) an a8 hl (HV.NU B).tab
 go_wp2_with(go_at_call 138;refine AL ap ?_);go_region_with(first
  |(go_at_call 139;refine(zb al _ Aa).mono ?_;rintro e9 l ⟨ab,rfl,L,B⟩;obtain⟨xa,xc,rfl⟩:=L.slice;have ac:H (zke w l):=zg.trans Aa B;have ba:H (ve l (λg=>dg (V w)<=g) (K xa (Bc T.ps) xc) T.ps):=L.mono (λg a=>by first|exact a|(simp at a;omega));clear L B)
  |(go_at_call 88;refine(zb aK _ _ ac ba).mono ?_;rintro e9 w2 ⟨j,f,m,aa,y,rfl,a0⟩;have aJ:=zd a0;clear a0))
 all_goals
  have⟨hj,az,h2,ax,bh,aU,aw⟩:=zb aJ;have ay:∀(k:Nat) x,es[k]?=I x->m[k]?=I x:=λk x hk=>by
   obtain rfl|⟨e',rfl⟩:=ax;exact hk
   grind
  have ag:=ay i e HI;obtain⟨g2,bG,rfl,bs,bu,bw,bO⟩:=h2.get ag;have bF:=h2.c2;have aY:=u.Pm (Bg HI);have aW:jS w2 e.nb ms:=(HM.keep ac id).keep aw (λq=>by
   obtain q|q|q:=q;exact aY.2 q;exact a9 q;exact aY.1 q)
  have a7:=zd aW;have aN:H (UJ (qB N st W cs) m e.s ms):=λp hp=>by
   have⟨g9,j9,f9,ad,a2,a3⟩:=zb HW p hp;exact⟨g9,j9,f9,ad,ay j9 f9 a2,a3⟩
  have bK:i<Bc m:=(AK.1 ag).1;have bD:(i:Int)<(Bc m:Int):=oa;have HF:H (∀s,jS s e.nb (ms++[(M J (gc:Nat),M J (j:Nat))])->zg (zr e.nb) w2 s->Leaves w s O D sb pb mb most N (qB N st W cs) T (Bc es+1) (R (M J (j:Nat)))):=λs ah F=>by
   have bL:=ac.size;refine⟨j,f,m,_,y,_,rfl,hj,az,h2.way ag hj (zb am f.s az) aN F ah,?_,λg a=>(aU g a).imp_right (λq=>oa),λg a=>a.imp_right (λq=>q.1),?_⟩;obtain rfl|⟨e',rfl⟩:=ax;omega;simp;have k1:zg O w w2:=(ac.mono (λ_ _ f=>f.elim)).trans (aw.mono (λg _ a=>u.Sv a));exact k1.trans (F.mono (λg aA a=>by have e1:g=e.nb:=a;rw[e1];exact(u.ent e (Bg HI)).1))
  clear hj az h2 ax bh aU aw ay ag aW aK HM HW r0 r1 r2 r3 c2 bs bu bw aJ;go_wp2_with(at_mapUpdate;refine Qs _ rfl _ _ _ 216 rfl 3 3 (.int J) Tryz.underlying216 Tryz.underlying3 e.nb ms rfl (M J (gc:Nat)) (M J (j:Nat)) rfl rfl a7 aN.key (by simp[MapKept.IsKey]) aI ?_;intro s ah F;have HL:=zd (zb HF s ah F);clear ah F);go_ret;exact HL
theorem KC (i:Nat)(A O D:Aj)(N:Aq)(W:Am)(cs:Ar)(es:Az)(sv:Y)(e:T6)(w:E)(T:Env w A O pb N st W cs)(h:TA w O D sb pb mb most N (qB N st W cs) es sv)(m:es[i]?=I e):Uh dQ 90 #[Ua (I ⟨sb,0,U⟩),M J (i:Nat)] w λx S=>Leaves w S O D sb pb mb most N (qB N st W cs) e.s 1 x:=by
 obtain⟨g,cap,rfl,r0,r1,r2,r3⟩:=h.get m;have az:i<Bc es:=(AK.1 m).1;have c2:=h.c2;have⟨_,_,n,aa,_⟩:=h.ent e (Bg m);have b1:(0:Int)<=(i:Int):=oa;have b2:(i:Int)<(Bc es:Int):=oa;have⟨p,r,aq⟩:=n.slice;rw[aq] at r0 n;have k:∀o,zke w (dB w o):=λo=>(zg.refl _ _).alloc o;have aE:=λo=>zf (k o) _ _ r0 id;have aG:=λo=>zf (k o) _ _ r1 id;have aH:=λo=>zf (k o) _ _ r2 id;have ay:=λo=>zf (k o) _ _ c2 id;have u:=zd h;have L:=zd T;have HP:=zd n;have af:=zd aa;clear h T n aa m k;go_enter Tryz.func90,Tryz.ntmps90;have B:H (zke w (dB w (Ub #[K p (Bc e.s.ps) r,C e.s.b,C e.s.w] 212))):=Ag;have z:H (TN (dB w (Ub #[K p (Bc e.s.ps) r,C e.s.b,C e.s.w] 212)) (dg (V w)) (K p (Bc e.s.ps) r) (C e.s.b) (C e.s.w)):=TN.new w _ rfl _ _ _ _;have y:=zd (zaJ sb pb mb most O D N (qB N st W cs) es _ _ (u.NU B));go_wp2_with(go_at_call 87;refine y.mono ?_;rintro e9 t ⟨rfl,d,v⟩;refine zb ?_);refine zd ?_;have l:zg O w t:=(B.mono (λ_ _ f=>f.elim)).trans v;have ap:¬O (dg (V w)):=λq=>by have:=u.olt _ q;omega
 have⟨q0,q1,q2,_,_,_⟩:=z.keep v ap;have X:=L.keep (O':=O) l (λg a=>.inl a);have F:=zd (XB sb pb mb most O D D N (qB N st W cs) [] _ (K p (Bc e.s.ps) r) e.s t d (λg a=>⟨d.dis g a,d.dlt g a⟩) (HP.keep l (λg a=>u.dis g a)) af L.prog.at'.len ov X.tab);unfold FL at F;have HF:H (∀x S,(∃(i:Nat) (f:T6) (c:Az) (s:Y) (b:Aj),x=R (M J (i:Nat))/\c[i]?=I f/\f.s=e.s/\TA S b (λg=>D g\/D g) sb pb mb most N (qB N st W cs) c s/\(c=[]\/∃P,c=[]++[P])/\(∀g,O g->b g)/\(∀g,b g->O g\/dg (V t)<=g)/\zg (Mq sb mb (K U 0 0)) t S)->Leaves w S O D sb pb mb most N (qB N st W cs) e.s 1 x):=by rintro x S ⟨j,f,c,s,b,rfl,a1,a2,a3,a4,a5,a6,a7⟩;have hs:=l.size;refine⟨j,f,c,s,b,_,rfl,a1,a2,a3,?_,λg a=>(a6 g a).imp_right (λq=>oa),λg a=>a.elim .inl .inl,l.trans (a7.mono (λg _ a=>d.Sv a))⟩;obtain rfl|⟨P,rfl⟩:=a4<;>simp
 clear d v l X y z;go_wp2_with(go_at_call 88;refine F.mono ?_;intro e9 w3 ab;have HL:=zd (zb HF _ _ ab);(obtain⟨j,f,c,s,b,rfl,_⟩:=ab));go_ret;exact HL
def qN (w:E)(B:Aj)(v:Y)(ks:Ar):Prop:=(ks=[]/\∃a c,v=K a 0 c)\/∃g off cap,v=K (I ⟨g,off,U⟩) (Bc ks) cap/\B g/\∀(j:Nat) k,ks[j]?=I k->T w ⟨g,off+j,U⟩=I (M J k)
theorem qN.keep {P B:Aj}{w S:E}{v:Y}{ks:Ar}(h:qN w B v ks)(k:zg P w S)(e:∀g,B g->¬P g):qN S B v ks:=by obtain h|⟨g,off,cap,b,a,c⟩:=h;exact .inl h;exact .inr ⟨g,off,cap,b,a,λj x d=>zf k _ _ (c j x d) (e g a)⟩
theorem qN.slice {B:Aj}{w:E}{v:Y}{ks:Ar}(h:qN w B v ks):∃a c,v=K a (Bc ks) c:=by obtain⟨rfl,x,c,rfl⟩|⟨g,off,cap,b,_⟩:=h;exact⟨_,_,rfl⟩;exact⟨_,_,b⟩
theorem qN.get {B:Aj}{w:E}{a:Ap}{c:Nat}{ks:Ar}(h:qN w B (K a (Bc ks) c) ks){k:Nat}(b:k<Bc ks):∃g off,a=I ⟨g,off,U⟩/\T w ⟨g,off+k,U⟩=I (M J ks[k]):=by obtain⟨h,_⟩|⟨g,off,cap,d,_,e⟩:=h;rw[h] at b;simp at b;simp at d;exact⟨g,off,d.1,e k ks[k] (AE b)⟩
theorem zhC (o:Y)(ks:Ar)(n:Nat)(B:Aj)(w:E)(h:qN w B o ks)(N:Bc ks<4611686018427387904)(W:n<=400):Uh dQ 85 #[o,M J (n:Nat)] w λx S=>∃g a,x=R (K (I ⟨g,0,U⟩) n n)/\vA S g a/\(Bc a)=n/\A (V w)<=g/\zke w S:=by
 obtain⟨X,vc,rfl⟩:=h.slice;have T:=qI n oa;have r:=zd h;have i:H (zke w (dB w (Ub (madeCells #[C Z] n) 4))):=Ag;have e:H (vA (dB w (Ub (madeCells #[C Z] n) 4)) (A (V w)) (dK n Z)):=vA.made w n;clear h;go_enter Tryz.func85,Tryz.ntmps85;go_wp2_with fail;go_loopw[12] (λk wr=>∃(m:Nat) (a:Ay),k=M J m/\m<=Bc ks/\(Bc a)=n/\H (zke w wr)/\H (vA wr (A (V w)) a)) (λk _=>Bc ks-(intOf k).toNat);exact⟨0,_,rfl,oa,ov,i,e⟩;clear i e;obtain⟨m,a,rfl,P,d,c,b⟩:=hrel;by_cases s:m<Bc ks
 .obtain⟨g,off,rfl,j⟩:=r.get s;have z:=zf c _ _ j id;clear j;have t:(0:Int)<=(m:Int):=oa;have u:(m:Int)<(Bc ks:Int):=oa;generalize ks[m]=k at *;by_cases F:0<=k
  .by_cases L:k<n
   .obtain⟨q,rfl⟩:∃q:Nat,k=q:=⟨k.toNat,oa⟩
    have l:q<Bc a:=oa;have v:=b.c q _ (AE l);have y:=b.f q _ (AE l);go_wp2_with fail;exact⟨⟨m+1,a.set q G,Ae,oa,by simpa using d,(c.setCell (p:=⟨A (V w),q,U⟩) (.inr (AD _)) _),b.set q G⟩,Ad⟩
   go_wp2_with fail;exact⟨⟨m+1,a,Ae,oa,d,c,b⟩,Ad⟩
  go_wp2_with fail;exact⟨⟨m+1,a,Ae,oa,d,c,b⟩,Ad⟩
 obtain rfl:m=Bc ks:=oa;go_wp2_with fail;go_ret;exact⟨_,a,rfl,b,d,AD _,c⟩
theorem zg.NY {P Q:Aj}{a w S:E}(h:zg P a w)(k:zg Q w S)(d:∀i,i<A (V a)->Q i->P i):zg P a S:=
 ⟨k.os.trans h.os,k.tape.trans h.tape,k.output.trans h.output,AP h.size k.size,λj b c=>(k.block j (AM b h.size) (λq=>c (d j b q))).trans (h.block j b c)⟩
theorem qM.Oy {P:Aj}{w S:E}{v:Y}{L:Ai}(h:qM w v L)(k:zg P w S)(d:∀g,W v=I g->¬P g):qM S v L:=by obtain h|⟨g,cap,a,b,c⟩:=h;exact .inl h;exact .inr ⟨g,cap,a,b,c.keep k (d g (by rw[a];rfl))⟩
structure TQ (w1 wr:E)(A O:Aj)(sb pb mb most:Nat)(N:Aq)(st:Nat)(W:Am)(cs:Ar)(D:Aj)(s:Tv.St)(i:Nat)(O' D':Aj)(es:Az)(sv:Y):Prop where
 sto:TA wr O' D' sb pb mb most N (qB N st W cs) es sv
 env:Env wr A O' pb N st W cs
 at':∃e,es[i]?=I e/\e.s=s
 len:Bc es<=most
 oo:∀g,O' g->O g\/q (V w1)<=g
 dd:∀g,D' g->D g\/q (V w1)<=g
 only:zg O w1 wr
theorem TQ.NU {w1 wr S:E}{A O D O' a:Aj}{sb pb mb most st i:Nat}{N:Aq}{W:Am}{cs:Ar}{s:Tv.St}{es:Az}{sv:Y}(h:TQ w1 wr A O sb pb mb most N st W cs D s i O' a es sv)(k:zke wr S):TQ w1 S A O sb pb mb most N st W cs D s i O' a es sv:=
 ⟨h.sto.NU k,h.env.NU k,h.at',h.len,h.oo,h.dd,h.only.NY k (λ_ _ f=>f.elim)⟩
theorem Leaves.only {O D:Aj}{sb pb mb most b:Nat}{N:Aq}{X:Tv.St->Nat->Tv.St->Prop}{s:Tv.St}{x:Ending}(k:Leaves w S O D sb pb mb most N X s b x):zg O w S:=by have⟨j,e,f,g,d,c,_,_,_,_,_,_,_,a⟩:=k;exact a
theorem TQ.back {w1 wr:E}{A O D O' b:Aj}{sb pb mb most st i:Nat}{N:Aq}{W:Am}{cs:Ar}{s:Tv.St}{es:Az}{sv:Y}(h:TQ w1 wr A O sb pb mb most N st W cs D s i O' b es sv)(k:zke w w1):TQ w wr A O sb pb mb most N st W cs D s i O' b es sv:=by have c:=k.size;exact⟨h.sto,h.env,h.at',h.len,λg a=>(h.oo g a).imp_right (λq=>oa),λg a=>(h.dd g a).imp_right (λq=>oa),(k.mono (λ_ _ f=>f.elim)).trans h.only⟩
theorem Leaves.RI {w1 wr S:E}{A O D O' f:Aj}{sb pb mb most st d:Nat}{N:Aq}{W:Am}{cs:Ar}{l:Tv.St}{x:Ending}(k:Leaves wr S O' f sb pb mb most N (qB N st W cs) l d x)(s:Env wr A O' pb N st W cs)(t:∀g,O' g->O g\/dg (V w1)<=g)(v:∀g,f g->D g\/dg (V w1)<=g)(only:zg O w1 wr)(w:d<=most):∃j a sv' c b,x=R (M J (j:Nat))/\TQ w1 S A O sb pb mb most N st W cs D l j c b a sv'/\(Bc a)<=d:=by
 obtain⟨j,e,a,sv',c,b,rfl,m,n,o,p,r,u,h⟩:=k;have y:=only.size;refine⟨j,a,sv',c,b,rfl,⟨o,s.keep h r,⟨e,m,n⟩,oa,λg i=>?_,λg i=>?_,only.NY h (λg i q=>(t g q).elim id (λq=>oa))⟩,p⟩
 grind
 grind
theorem TQ.on {w1 wr S:E}{A O D O' b:Aj}{sb pb mb most st i a:Nat}{N:Aq}{W:Am}{cs:Ar}{s d:Tv.St}{es:Az}{sv:Y}{x:Ending}(h:TQ w1 wr A O sb pb mb most N st W cs D s i O' b es sv)(k:Leaves wr S O' b sb pb mb most N (qB N st W cs) d a x)(g:a<=most):∃j c sv' f e,x=R (M J (j:Nat))/\TQ w1 S A O sb pb mb most N st W cs D d j f e c sv'/\(Bc c)<=a:=k.RI h.env h.oo h.dd h.only g
theorem LV (A O D:Aj)(N:Aq)(W:Am)(cs:Ar)(es:Az)(sv c:Y)(s:Tv.St)(b w:E)(d:Env b A O pb N st W cs)(h:TA b O D sb pb mb most N (qB N st W cs) es sv)(k:zke b w)(y:ve w (λg=>dg (V b)<=g) c s.ps)(i:s.OK N)(v:Bc es<=1000):Uh L 88 #[Ua (I ⟨sb,0,U⟩),Uf #[c,C s.b,C s.w]] w λx S=>Leaves b S O D sb pb mb most N (qB N st W cs) s (Bc es+1) x:=by refine(XB sb pb mb most O D (λg=>dg (V b)<=g/\g<dg (V w)) N (qB N st W cs) es sv c s w (h.NU k) (λg a=>⟨λq=>by have:=h.olt g q;omega,a.2⟩) (y.bound i.ne) i d.prog.at'.len v (d.NU k).tab).mono ?_;rintro x S ⟨j,e,u,z,l,rfl,m,n,o,p,_,r,t⟩;have F:=k.size;refine⟨j,e,u,z,l,_,rfl,m,n,o,?_,λg a=>(r g a).imp_right (λq=>oa),λg a=>a.imp_right (λq=>q.1),(k.mono (λ_ _ f=>f.elim)).trans (t.mono (λg _ a=>h.Sv a))⟩;obtain rfl|⟨B,rfl⟩:=p;omega;simp
theorem zaK (A O D:Aj)(N:Aq)(W:Am)(cs:Ar)(es:Az)(sv tv ev:Y)(L:Ai)(ks:Ar)(w:E)(hV:Env w A O pb N st W cs)(h:TA w O D sb pb mb most N (qB N st W cs) es sv)(b0:2<=most)(b1:most<=64)(bV:Bc es<=most)(hL:qM w tv L)(aU:∀g,dH tv=I g->¬O g/\g<dg (V w))(bu:Bc L<=400)(hE:qN w (λ_=>True) ev ks)(bv:Bc ks<4611686018427387904):Uh dQ 47 #[Ua (I ⟨sb,0,U⟩),tv,ev] w λx S=>∃(r:Bool) (i:Nat) (O' D':Aj) (bs:Az) (sv':Y),x=R (C r)/\(r=G↔Tv.hit N (Tv.run N st W L (Bc L)))/\TQ w S A O sb pb mb most N st W cs D (Tv.run N st W L (Bc L)) i O' D' bs sv':=by
 obtain⟨ta,tc,rfl⟩:=hL.slice;obtain⟨ea,ec,rfl⟩:=hE.slice;have c0:=h.c0;have aO:=zd (zhC _ ks (Bc L) _ w hE bv bu);have ao:=zd h;have HV:=zd hV;have HL:=zd hL;have bj:=zd aU;clear h hV hL aU hE;go_enter Tryz.func47,Tryz.ntmps47;go_wp2_with(go_at_call 85;refine aO.mono ?_;rintro d u ⟨ga,ms,rfl,hB,b2,bW,aC⟩;refine zb ?_);refine zd ?_;have bX:0<Bc L->ga<dg (V u):=λhp=>zic u _ (hB.c 0 _ (AE oa));have HB:=zd hB;have T:=zd aC;have HF:=zd (Wo sb pb mb most O D N (qB N st W cs) es sv u (ao.NU aC));have bg:H (∀e,zg O u e->Uh dQ 89 #[Ua (I ⟨pb,0,U⟩)] e λx S=>∃sv,x=R (Uf #[sv,C G,C Z])/\ve S (λg=>dg (V e)<=g) sv [st]/\zke e S):=λe k=>zhv pb st N W A e ((HV.NU T).keep k (λg o=>.inl o)).prog.at';clear hB aC aO;by_cases hf:most<=Bc es
 all_goals
  first
   |(rw[decide_eq_true hf] at HF;go_wp2_with(first|(go_at_call 86;refine HF.mono ?_;rintro d wf ⟨rfl,p⟩;have bf:=zd (zaJ sb pb mb most O D N (qB N st W cs) es sv wf (ao.NU (T.trans p)));have bl:=zd p;clear p)|(go_at_call 87;refine bf.mono ?_;rintro d V0 ⟨rfl,h0,aV⟩;have H0:=zd h0;have ad:H (zg O u V0):=(bl.mono (λ_ _ f=>f.elim)).trans aV;have br:=h0.c0;clear h0 aV)|(go_at_call 89;refine zb ?_)))
   |(rw[decide_eq_false hf] at HF;go_wp2_with(first|(go_at_call 86;refine HF.mono ?_;rintro d V0 ⟨rfl,p⟩;have H0:=zd (ao.NU (T.trans p));have ad:H (zg O u V0):=p.mono (λ_ _ f=>f.elim);have br:=H0.c0;clear p)|(go_at_call 89;refine zb ?_)))
  refine zd ?_;refine(zb bg V0 ad).mono ?_;rintro d w2 ⟨ca,rfl,aE,aW⟩
  (obtain⟨xa,xc,rfl⟩:=aE.slice)
  have aP:=zd (LV sb pb mb most st A O D N W cs _ _ _ (Tv.fst st) V0 w2 ((HV.NU T).keep ad (λg o=>.inl o)) H0 aW aE (Tv.fst_ok HV.prog.at'.stl) (by first|omega|(simp;done)|(simp;omega)));clear aE aW;go_wp2_with(go_at_call 88;refine aP.mono ?_;intro d w3 b;(obtain⟨j0,bt,bF,O2,D2,rfl,aY,_⟩:=b.RI (w1:=u) (O:=O) (D:=D) ((HV.NU T).keep ad (λg o=>.inl o)) (λg o=>.inl o) (λg o=>.inl o) ad (by first|omega|(simp;done)|(simp;omega)));have aw:=zd aY;clear aY b aP);go_wp2_with fail;have bz:=zb aw;go_loopw[8,28] (λnv k wr=>∃(m i:Nat) (t v:Aj) (n:Az) (aa:Y),k=M J m/\nv=M J i/\m<=Bc L/\H (TQ u wr A O sb pb mb most N st W cs D (Tv.run N st W L m) i t v n aa)) (λ_ k _=>Bc L-(intOf k).toNat)
  case atStart=>exact⟨0,j0,O2,D2,bt,bF,rfl,rfl,oa,aw⟩
  case round=>
   clear aw bz;obtain⟨m,i,t,v,n,aa,rfl,rfl,hm,j⟩:=hrel;by_cases bx:m<Bc L
   .have p:∀g,(K ta (Bc L) tc).ownBlock=I g->¬O g:=λg o=>(zb bj g o).1;have⟨g,cap,x0,hv,bU,d1,d2⟩:=((HL.keep T).Oy j.only p).get bx;simp at hv;obtain⟨rfl,rfl⟩:=hv;have aT:vA wr ga ms:=HB.keep j.only (λq=>by have:=ao.olt _ q;omega);have da:=aT.c m _ (AE oa);have af:(0:Int)<=(m:Int):=oa;have ab:(m:Int)<(Bc L:Int):=oa;have kA:zke wr (dB wr (Ub #[M J x0,M Ug (zi L m)] 207)):=Ag;have bQ:=zf kA _ _ da id;have y:=zd (j.NU kA);have aJ:(dB wr (Ub #[M J x0,M Ug (zi L m)] 207)).cell? ⟨dg (V wr),1,U⟩=I (M Ug (zi L m)):=zj wr _ rfl _ _ 1 _ rfl;have a3:¬t (dg (V wr)):=λq=>(by have:=j.sto.olt _ q;omega);clear da aT kA p;generalize ms[m]=a at *;cases a
    .by_cases a2:most<=Bc n
     .have ac:=zd (Wo sb pb mb most t v N (qB N st W cs) n aa (dB wr (Ub #[M J x0,M Ug (zi L m)] 207)) y.sto);rw[decide_eq_true a2] at ac;go_wp2_with(first
       |(go_at_call 86;refine ac.mono ?_;rintro d w4 ⟨rfl,X⟩;have aq:=zd (y.NU X);have a8:=zf X _ _ aJ id;clear X)
       |(go_at_call 90;(have⟨l,s,F⟩:=aq.at');refine(KC sb pb mb most st i A t v N W cs n aa l _ aq.env aq.sto s).mono ?_;intro d w5 b;rw[F] at b;have kq:=b.only;(obtain⟨i5,ai,aK,O5,D5,rfl,ak,aD⟩:=aq.on b oa);have c:=zd ak;have bw:Bc ai<most:=oa;have bB:=zf kq _ _ a8 a3;clear ak aD b kq s F)
       |(go_at_call 91;(have⟨e8,B,P⟩:=c.at');refine(QJ sb pb mb most st i5 A O5 D5 N W cs ai aK e8 (zi L m) _ c.env c.sto B oa).mono ?_;intro d w6 b;rw[P] at b;(obtain⟨i6,aj,an,O6,D6,rfl,z,_⟩:=c.on b oa);have ae:=zd z;clear z b B P))
      exact⟨⟨m+1,i6,O6,D6,aj,an,Ae,rfl,oa,ae⟩,Ad⟩
     have ac:=zd (Wo sb pb mb most t v N (qB N st W cs) n aa (dB wr (Ub #[M J x0,M Ug (zi L m)] 207)) y.sto);rw[decide_eq_false a2] at ac;go_wp2_with(first
      |(go_at_call 86;refine ac.mono ?_;rintro d w4 ⟨rfl,X⟩;have c:=zd (y.NU X);have a8:=zf X _ _ aJ id;clear X)
      |(go_at_call 91;(have⟨e8,B,P⟩:=c.at');refine(QJ sb pb mb most st i A t v N W cs n aa e8 (zi L m) _ c.env c.sto B oa).mono ?_;intro d w6 b;rw[P] at b;(obtain⟨i6,aj,an,O6,D6,rfl,z,_⟩:=c.on b oa);have ae:=zd z;clear z b B P))
     exact⟨⟨m+1,i6,O6,D6,aj,an,Ae,rfl,oa,ae⟩,Ad⟩
    go_wp2_with(first
      |(go_at_call 90;(have⟨l,s,F⟩:=y.at');refine(KC sb pb mb most st i A t v N W cs n aa l _ y.env y.sto s).mono ?_;intro d w5 b;rw[F] at b;have kq:=b.only;(obtain⟨i5,ai,aK,O5,D5,rfl,ak,aD⟩:=y.on b oa);have c:=zd ak;have bw:Bc ai<most:=oa;have bB:=zf kq _ _ aJ a3;clear ak aD b kq s F)
      |(go_at_call 91;(have⟨e8,B,P⟩:=c.at');refine(QJ sb pb mb most st i5 A O5 D5 N W cs ai aK e8 (zi L m) _ c.env c.sto B oa).mono ?_;intro d w6 b;rw[P] at b;(obtain⟨i6,aj,an,O6,D6,rfl,z,_⟩:=c.on b oa);have ae:=zd z;clear z b B P))
    exact⟨⟨m+1,i6,O6,D6,aj,an,Ae,rfl,oa,ae⟩,Ad⟩
   obtain rfl:m=Bc L:=oa;have⟨l,s,F⟩:=j.at';obtain⟨g7,bN,rfl,r0,r1,r2,r3⟩:=j.sto.get s;have⟨_,_,aG,a4,_⟩:=j.sto.ent l (Bg s);have k0:=j.sto.c0;have k2:=j.sto.c2;have bY:i<Bc n:=(AK.1 s).1;have af:(0:Int)<=(i:Int):=oa;have ab:(i:Int)<(Bc n:Int):=oa;have⟨pa,pc,a5⟩:=aG.slice;have aN:H (∀e,zke wr e->Uh dQ 92 #[Ua (I ⟨pb,0,U⟩),Uf #[l.pv,C l.s.b,C l.s.w]] e λx S=>∃r,x=R (C r)/\(r=G↔Tv.hit N l.s)/\zke e S):=λe a0=>Wm pb st N W l.pv l.s A e (j.env.prog.at'.keep a0 (λ_ _ f=>f)) (aG.int.keep a0) a4;rw[a5] at r0 aN;have bh:=zd F;clear aG a4 F a5 s r3;go_wp2_with fail;go_region_with(go_at_call 92;refine(zb aN _ Aa).mono ?_;rintro d w9 ⟨r,rfl,hr,aX⟩;have HR:=zd hr;have bk:H (zke wr w9):=zg.trans Aa aX;clear hr aX)
   all_goals
    go_wp2_with fail;go_ret;refine⟨r,i,t,v,n,_,rfl,?_,(j.NU bk).back T⟩;rw[<-zb bh];exact HR
end
