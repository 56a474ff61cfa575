/- Plain: groups of characters between cuts. -/
import Derived.Lib.ItoaNum
import Derived.Test.YtcgleficedipkaaGreatDoorYPrgEPrgH
namespace Go.Proofs.YtcgleficedipkaaGreatDoor
open Option renaming none->U,some->I
open Value renaming int->M,slice->K,bool->C,tuple->Ue
open IntKind renaming i64->J,i32->Ug
open Bool renaming false->Z,true->G
open Go renaming World->E,Value->Y,Calls->Uh
open Go.RowKit renaming Hid->H
open Or renaming inr->O,inl->Q
open Ending renaming returned->R
open Go.Sort renaming ltInt->Uj
open Pro Sm Cs Prg
variable {f:List Int}{c d:Int}{u:Nat}{W:Int->Bool}{L:List (Int×Int)}
section
open Eqv (zK)
namespace Fnd
def grp (f:List Int)(c:Int):Nat:=f.countP (λx=>decide (x<=c))
theorem grp_le (h:c<=d):∀f:List Int,grp f c<=grp f d:=λf=>by unfold grp;exact List.countP_mono_left (λx _ a=>by simp at a ⊢;omega)
theorem zdg {c d:Int}(h:c<=d):∀f:List Int,grp f c=grp f d->∀x∈f,x<=d->x<=c
 | [],_,x,a,_=>by simp at a
 |y :: r,e,x,a,b=>by
  have l:=grp_le h r;have g:grp (y :: r) c=grp r c+if y<=c then 1 else 0:=by unfold grp;rw[List.countP_cons];simp
  have i:grp (y :: r) d=grp r d+if y<=d then 1 else 0:=by unfold grp;rw[List.countP_cons];simp
  rw[g,i] at e;have k:y<=d->y<=c:=λb=>by rw[IN b] at e;split at e;assumption;omega
  rcases zhh.1 a with rfl|a;exact k b;refine zdg h r ?_ x a b;by_cases j:y<=c;rw[IN j,IN oa] at e;omega
  grind
theorem Qm (h:grp f c=grp f d):∀x∈f,(x<=c↔x<=d):=λx b=>by rcases Int.le_total c d with a|a;exact⟨λq=>oa,zdg a f h x b⟩;exact⟨zdg a f h.symm x b,λq=>oa⟩
theorem alike {j:List (Int×Int)}{f:List Int}{c d:Int}(g:∀x∈j,x.1∈f/\x.2+1∈f)(h:grp f c=grp f d):zK j c=zK j d:=by rw[zhM,jt,jt];constructor;rintro⟨x,e,i,k⟩;have a:=(Qm h x.1 (g x e).1).1 i;have b:=Qm h (x.2+1) (g x e).2;exact⟨x,e,a,oa⟩;rintro⟨x,e,i,k⟩;have a:=(Qm h x.1 (g x e).1).2 i;have b:=Qm h (x.2+1) (g x e).2;exact⟨x,e,a,oa⟩
theorem grp_at (p:f.Pairwise (· < ·)){c:Int}{i:Nat}(b:∀(j:Nat) x,f[j]?=I x->(j<i↔x<c))(a:i<=f.length):grp f c=if f[i]?=I c then i+1 else i:=by
 have key:∀(f:List Int) (i:Nat),f.Pairwise (· < ·)->(∀(j:Nat) x,f[j]?=I x->(j<i↔x<c))->i<=f.length->grp f c=if f[i]?=I c then i+1 else i:=by
  intro f
  induction f with
  |nil=>intro i _ _ a;simp at a;subst a;rfl
  |cons y r u=>
   intro i l b a;have d:grp (y :: r) c=grp r c+if y<=c then 1 else 0:=by unfold grp;rw[List.countP_cons];simp
   obtain⟨m,n⟩:=zhk.1 l;have g:=b 0 y rfl;cases i with
   |zero=>
    (have t:¬y<c:=λq=>(by have:=g.2 q;omega);have o:grp r c=0:=by unfold grp;rw[List.countP_eq_zero];intro x s;have:=m x s;simp;omega);rw[d,o];by_cases e:y=c;subst e;simp;rw[iN oa,iN (by simp;exact e)]
   |succ i=>
    have t:y<c:=g.1 oa;have h:=u i n (λj x k=>by have:=b (j+1) x (by simpa using k);rw[<-this];omega) (by simp at a;omega);rw[d,h,IN (by omega:y<=c),List.getElem?_cons_succ];split<;>omega
 exact key f i p b a
end Fnd
namespace Fnd
open Go.Lib (decDigits)
theorem jA (h:u<10):decDigits u=[UInt8.ofNat (48+u)]:=by rw[decDigits,dif_pos h]
theorem wS (h:¬u<10):decDigits u=decDigits (u / 10)++[UInt8.ofNat (48+u % 10)]:=by rw[decDigits,dif_neg h]
theorem VV {a b:Nat}(c:a<10)(d:b<10)(h:UInt8.ofNat (48+a)=UInt8.ofNat (48+b)):a=b:=by have:=congrArg UInt8.toNat h;simp only[UInt8.toNat_ofNat'] at this;omega
theorem YE:∀(n u:Nat),u<n->(32:UInt8)∉decDigits u
 |0,_,h=>oa
 |n+1,u,h=>by
  by_cases a:u<10;rw[jA a];intro q;have q:=zgT.1 q;have:=congrArg UInt8.toNat q;simp only[UInt8.toNat_ofNat'] at this;have e:(32:UInt8).toNat=32:=rfl;omega;rw[wS a];intro q;rcases zgU.1 q with q|q;exact YE n (u / 10) oa q;have q:=zgT.1 q;have:=congrArg UInt8.toNat q;simp only[UInt8.toNat_ofNat'] at this;have e:(32:UInt8).toNat=32:=rfl;omega
theorem zdh (u:Nat):decDigits u≠[]:=by by_cases a:u<10;rw[jA a];simp;rw[wS a];simp
theorem zef:∀(n u v:Nat),u<n->decDigits u=decDigits v->u=v
 |0,_,_,h,_=>oa
 |n+1,u,v,h,e=>by
  by_cases c:u<10;by_cases a:v<10;rw[jA c,jA a] at e;exact VV c a (List.cons.inj e).1;rw[jA c,wS a] at e;have b:=congrArg List.length e;have:=List.length_pos_iff.2 (zdh (v / 10));simp at b;exact absurd b (zdh _);by_cases a:v<10;rw[wS c,jA a] at e;have b:=congrArg List.length e;simp at b;exact absurd b (zdh _);rw[wS c,wS a] at e;have:=List.append_inj' e rfl;have d:=zef n (u / 10) (v / 10) oa this.1;have f:=VV (Nat.mod_lt _ od) (Nat.mod_lt _ od) (List.cons.inj this.2).1;omega
def keyP:List Nat->List UInt8
 | []=>[]
 |p :: r=>32 :: (decDigits p++keyP r)
theorem Q4:∀ps:List Nat,keyP ps=[]\/∃t,keyP ps=32 :: t
 | []=>Q rfl
 |_ :: _=>O ⟨_,rfl⟩
theorem cut_inj {a b s t:List UInt8}(c:(32:UInt8)∉a)(d:(32:UInt8)∉b)(g:s=[]\/∃x,s=32 :: x)(i:t=[]\/∃x,t=32 :: x)(h:a++s=b++t):a=b/\s=t:=by
 induction a generalizing b with
 |nil=>
  cases b with
  |nil=>exact⟨rfl,h⟩
  |cons y b=>
   rcases g with rfl|⟨x,rfl⟩;simp at h;simp at h;exact absurd (by rw[h.1];simp) d
 |cons x a j=>
  cases b with
  |nil=>
   rcases i with rfl|⟨y,rfl⟩;simp at h;simp at h;exact absurd (by rw[<-h.1];simp) c
  |cons y b=>
   simp only[zhf,List.cons.injEq] at h;obtain⟨e,f⟩:=j (b:=b) (λq=>c (zgR _ q)) (λq=>d (zgR _ q)) h.2;exact⟨by rw[h.1,e],f⟩
theorem za8:∀(ps a:List Nat),keyP ps=keyP a->ps=a
 | [],[],_=>rfl
 | [],_ :: _,h=>by simp[keyP] at h
 |_ :: _,[],h=>by simp[keyP] at h
 |p :: ps,q :: a,h=>by
  simp only[keyP,List.cons.injEq,true_and] at h;obtain⟨b,c⟩:=cut_inj (YE (p+1) p oa) (YE (q+1) q oa) (Q4 ps) (Q4 a) h;rw[zef (p+1) p q oa b,za8 ps a c]
def keyS (b w:Bool)(ps:List Nat):List UInt8:=(if b then [94] else [])++(if w then [119] else [])++keyP ps
theorem keyS_inj {b w a d:Bool}{ps g:List Nat}(h:keyS b w ps=keyS a d g):b=a/\w=d/\ps=g:=by
 unfold keyS at h;have f:∀(c:UInt8) (ps:List Nat) t,c≠32->keyP ps≠c :: t:=λc ps t i e=>by
  rcases Q4 ps with q|⟨x,q⟩;rw[q] at e;cases e
  grind
 cases b<;>cases a<;>cases w<;>cases d<;>simp at h
 all_goals first
  |exact⟨rfl,rfl,za8 _ _ h⟩
  |exact absurd h (f _ _ _ od)
  |exact absurd h.symm (f _ _ _ od)
end Fnd
open Sm (Stp Tree)
namespace Fnd
theorem rising_eq:∀(a b:List Nat),a.Pairwise (· < ·)->b.Pairwise (· < ·)->(∀j,j∈a↔j∈b)->a=b
 | [],[],_,_,_=>rfl
 | [],k :: b,_,_,h=>absurd ((h k).2 ov) ov
 |j :: a,[],_,_,h=>absurd ((h j).1 ov) ov
 |j :: a,k :: b,d,f,h=>by
  have a1:=zhk.1 d;have c:=zhk.1 f;have e:j=k:=by rcases zhh.1 ((h j).1 ov) with e|m;exact e;rcases zhh.1 ((h k).2 ov) with e|i;exact e.symm;have:=a1.1 k i;have:=c.1 j m;omega
  subst e;rw[rising_eq a b a1.2 c.2 (λx=>⟨λg=>?_,λg=>?_⟩)]
  grind
  grind
structure St where
 b:Bool
 w:Bool
 ps:List Nat
def rch (N:List Stp)(s:St)(e n:Bool)(q:Nat):Prop:=∃p∈s.ps,GE N (kp s.b e s.w n) p q
def fst (h:Nat):St:=⟨G,Z,[h]⟩
open Classical in
noncomputable def aft (N:List Stp)(h:Nat)(W:Int->Bool)(s:St)(c:Int):St:=
 if rch N s Z (W c) 0 then⟨Z,Z,[0]⟩ else⟨Z,W c,(List.range N.length).filter (λq=>decide (q=h\/∃a,rch N s Z (W c) a/\qx N c a=I q))⟩
def hit (N:List Stp)(s:St):Prop:=rch N s G Z 0
structure St.OK (N:List Stp)(s:St):Prop where
 ne:0<s.ps.length
 up:s.ps.Pairwise (· < ·)
 lt:∀p∈s.ps,p<N.length
theorem St.OK.len {N:List Stp}{s:St}(h:s.OK N):s.ps.length<=N.length:=by
 have c:=h.up;have d:=h.lt;generalize s.ps=ps at c d;have key:∀(ps:List Nat) (a n:Nat),ps.Pairwise (· < ·)->(∀p∈ps,a<=p/\p<n)->a<=n->ps.length<=n-a:=by
  intro ps
  induction ps with
  |nil=>intro a n _ _ _;simp
  |cons y r g=>
   intro a n b e _;obtain⟨i,j⟩:=zhk.1 b;have k:=e y ov;have:=g (y+1) n j (λx f=>⟨by have:=i x f;omega,(e x (by simp[f])).2⟩) oa;simp only[zg4];omega
 have:=key ps 0 N.length c (λp b=>⟨oa,d p b⟩) oa;omega
theorem fst_ok {N:List Stp}{h:Nat}(a:h<N.length):(fst h).OK N:=⟨by simp[fst],by simp[fst],λp b=>by simp[fst] at b;omega⟩
theorem rch_of {N:List Stp}{H:Int->Bool}{c rs:List Nat}(d:∀p∈c,p∈rs)(e:∀q∈rs,∃p∈c,GE N H p q)(f:∀a∈rs,∀t,epsB N H a t->t∈rs)(q:Nat):q∈rs↔∃p∈c,GE N H p q:=
 zaI d e (λa g b h=>f a g b h) q
theorem aft_yes {N:List Stp}{h:Nat}{W:Int->Bool}{s:St}{c:Int}(a:rch N s Z (W c) 0):aft N h W s c=⟨Z,Z,[0]⟩:=by unfold aft;rw[IN a]
theorem Xf {N:List Stp}{h:Nat}{W:Int->Bool}{s:St}{c:Int}(b:¬rch N s Z (W c) 0)(q:Nat):q∈(aft N h W s c).ps↔q<N.length/\(q=h\/∃a,rch N s Z (W c) a/\qx N c a=I q):=by unfold aft;rw[iN b];simp[List.mem_filter,List.mem_range]
theorem aft_b (N:List Stp)(h:Nat)(W:Int->Bool)(s:St)(c:Int):(aft N h W s c).b=Z:=by unfold aft;split<;>rfl
theorem aft_w {N:List Stp}{h:Nat}{W:Int->Bool}{s:St}{c:Int}(a:¬rch N s Z (W c) 0):(aft N h W s c).w=W c:=by unfold aft;rw[iN a]
theorem aft_ok {N:List Stp}{h:Nat}(W:Int->Bool)(s:St)(c:Int)(a:h<N.length):(aft N h W s c).OK N:=by by_cases b:rch N s Z (W c) 0;rw[aft_yes b];exact⟨ov,ov,λp d=>by simp at d;omega⟩;refine⟨List.length_pos_of_mem ((Xf b h).2 ⟨a,Q rfl⟩),?_,λp d=>((Xf b p).1 d).1⟩;unfold aft;rw[iN b];exact(List.pairwise_lt_range (n:=N.length)).filter _
theorem aft_is {N:List Stp}{h:Nat}{W:Int->Bool}{s:St}{c:Int}{rs d:List Nat}(l:h<N.length)(r:∀(k:Nat) s,N[k]?=I s->s.next<N.length/\s.other<N.length)(f:∀q,q∈rs↔rch N s Z (W c) q)(p:0∉rs)(v:d.Pairwise (· < ·))(t:∀q,q∈d↔q∈qg N c rs\/q=h):aft N h W s c=⟨Z,W c,d⟩:=by
 have i:¬rch N s Z (W c) 0:=λb=>p ((f 0).2 b);have m:=aft_b N h W s c;have n:=aft_w (h:=h) i;have o:(aft N h W s c).ps=d:=by
  refine rising_eq _ _ (aft_ok W s c l).up v (λq=>?_);rw[Xf i,t,V9];constructor
  .rintro⟨w,rfl|⟨a,e,g⟩⟩;exact O rfl;refine Q ⟨a,(f a).2 e,?_⟩;unfold qx at g;split at g
   grind
   cases g
  rintro(⟨a,e,x,j,u,rfl⟩|rfl);exact⟨(r a x j).1,O ⟨a,(f a).1 e,by simp[qx,j,u]⟩⟩;exact⟨l,Q rfl⟩
 revert m n o
 cases aft N h W s c;rintro rfl rfl rfl;rfl
theorem za9 (N:List Stp)(h:Nat)(W:Int->Bool)(s:St)(c d:Int)(b:¬rch N s Z (W c) 0)(f:¬rch N s Z (W d) 0)(e:∀q,(∃a,rch N s Z (W c) a/\qx N c a=I q)=(∃a,rch N s Z (W d) a/\qx N d a=I q)):(aft N h W s c).ps=(aft N h W s d).ps:=by unfold aft;rw[iN b,iN f];exact List.filter_congr (λq _=>decide_eq_decide.2 (by rw[e q]))
theorem aft_alike {N:List Stp}{h:Nat}{W:Int->Bool}{s:St}{c d:Int}(f:W c=W d)(r:∀x∈N,jC x c=jC x d):aft N h W s c=aft N h W s d:=by
 have e:∀a,qx N c a=qx N d a:=λa=>by
  unfold qx;split
  grind
  rfl
 have j:(λq=>∃a,rch N s Z (W c) a/\qx N c a=I q)=(λq=>∃a,rch N s Z (W d) a/\qx N d a=I q):=by grind
 have k:=congrFun j;by_cases b:rch N s Z (W c) 0;rw[aft_yes b,aft_yes (f ▸ b)];have g:¬rch N s Z (W d) 0:=f ▸ b;have l:(aft N h W s c).ps=(aft N h W s d).ps:=za9 N h W s c d b g k;have m:=aft_b N h W s c;have n:=aft_b N h W s d;have o:=aft_w (h:=h) b;have p:=aft_w (h:=h) g
 revert l m n o p
 cases aft N h W s c;cases aft N h W s d;rintro rfl rfl rfl rfl i;simp only at i ⊢;rw[f,i]
noncomputable def run (N:List Stp)(h:Nat)(W:Int->Bool)(L:List (Int×Int)):Nat->St
 |0=>fst h
 |k+1=>aft N h W (run N h W L k) (zj L k)
theorem ge_iff {N:List Stp}{m a b:Nat}:GE N (ZX W L m) a b↔GoP W L N a m b m:=by
 refine⟨GE_at,?_⟩;rintro⟨k,h⟩
 induction k generalizing a with
 |zero=>obtain⟨rfl,_⟩:=h;exact GE.refl _ _ _
 |succ k i=>
  obtain⟨o,n,⟨s,g,j⟩,c⟩:=h;rcases j with⟨_,_,_,e⟩|⟨d,f,l,e⟩|⟨d,f,e⟩;have:=Run.le c;omega;subst e;exact Sm.Goes.head ⟨s,g,O (Q ⟨d,f,l,rfl⟩)⟩ (i c);subst e;exact Sm.Goes.head ⟨s,g,O (O ⟨d,f,rfl⟩)⟩ (i c)
theorem zba {N:List Stp}{m a b:Nat}(c:m<L.length):qx N (zj L m) a=I b↔tkr (lfP L) N a m b:=by have h:=Prg.take_all (N:=N) (rs:=[a]) c b;unfold qg at h;simp only[List.mem_filterMap,zgT,exists_eq_left] at h;exact h
def Sees (W:Int->Bool)(L:List (Int×Int))(N:List Stp)(h k:Nat)(s:St):Prop:=(zca (lfP L) (ahP W L) N h k/\s.ps=[0])\/(¬zca (lfP L) (ahP W L) N h k/\Stands (lfP L) (ahP W L) N h k s.ps/\s.b=decide (k=0)/\s.w=befB W L k)
theorem sees {W:Int->Bool}{L:List (Int×Int)}{N:List Stp}{h:Nat}(u:h<N.length)(o:∀(k:Nat) s,N[k]?=I s->s.next<N.length/\s.other<N.length):∀k,k<=L.length->Sees W L N h k (run N h W L k)
 |0,_=>O ⟨λ⟨_,c,_⟩=>absurd c (zgV _),zat N h,rfl,rfl⟩
 |k+1,hk=>by
  have t:k<L.length:=oa;have w:=sees (W:=W) (L:=L) u o k oa;show Sees W L N h (k+1) (aft N h W (run N h W L k) (zj L k));generalize run N h W L k=s at w;rcases w with⟨l,m⟩|⟨l,F,S,X⟩
  .have d:rch N s Z (W (zj L k)) 0:=⟨0,by rw[m];simp,GE.refl _ _ _⟩
   rw[aft_yes d];exact Q ⟨wE.2 (Q l),rfl⟩
  ((have T:kp s.b Z s.w (W (zj L k))=ZX W L k:=by funext a;unfold ZX aftB;rw[S,X,decide_eq_false (by omega:¬k=L.length),decide_eq_true (by omega:k≠L.length)];simp);have i:∀q,rch N s Z (W (zj L k)) q↔Come (lfP L) (ahP W L) N h k q:=λq=>by unfold rch;rw[T,<-F q];exact exists_congr (λp=>and_congr_right (λ_=>ge_iff)));by_cases d:rch N s Z (W (zj L k)) 0;rw[aft_yes d];exact Q ⟨wE.2 (O ((i 0).1 d)),rfl⟩;refine O ⟨λf=>?_,λq=>?_,aft_b ..,?_⟩;rcases wE.1 f with f|f;exact l f;exact d ((i 0).2 f);constructor;rintro⟨p,m,g⟩;obtain⟨_,rfl|⟨a,P,n⟩⟩:=(Xf d p).1 m;exact⟨k+1,zgH _,g⟩;obtain⟨j,r,y⟩:=(i a).1 P;exact⟨j,oa,(VH r).2 ⟨a,p,y,(zba t).1 n,g⟩⟩;rintro⟨j,r,g⟩;by_cases e:j=k+1;subst e;exact⟨h,(Xf d h).2 ⟨u,Q rfl⟩,g⟩;obtain⟨a,b,z,v,B⟩:=(VH (at':=k) oa).1 g;refine⟨b,(Xf d b).2 ⟨?_,O ⟨a,(i a).2 ⟨j,oa,z⟩,(zba t).2 v⟩⟩,B⟩;obtain⟨x,n,_,_,rfl⟩:=v;exact(o a x n).1;rw[aft_w d];unfold befB;simp
theorem found_iff {N:List Stp}{h:Nat}(q:h<N.length)(m:∀(k:Nat) s,N[k]?=I s->s.next<N.length/\s.other<N.length):hit N (run N h W L L.length)↔∃i j,i<=L.length/\j<=L.length/\GoP W L N h i 0 j:=by
 have b:=sees (W:=W) (L:=L) q m L.length (zgH _);generalize run N h W L L.length=s at b;rw[<-zf2];rcases b with⟨c,o⟩|⟨c,d,l,r⟩;exact⟨λ_=>wE.2 (Q c),λ_=>⟨0,by rw[o];simp,GE.refl _ _ _⟩⟩;have n:kp s.b G s.w Z=ZX W L L.length:=by funext a;unfold ZX aftB;rw[l,r];simp
 rw[wE];have e:hit N s↔Come (lfP L) (ahP W L) N h L.length 0:=by unfold hit rch;rw[n,<-d 0];exact exists_congr (λp=>and_congr_right (λ_=>ge_iff))
 rw[e];exact⟨O,λf=>f.elim (λg=>absurd g c) id⟩
end Fnd
end
section
open Go.RowKit
set_option maxHeartbeats 1600000
theorem zbb {M:Int}:∀(f:List Int) (a:Int),f.Pairwise (· < ·)->(∀x∈f,a<=x/\x<=M)->a<=M+1->(f.length:Int)<=M+1-a
 | [],a,_,_,h=>by simp;omega
 |y :: r,a,g,b,_=>by
  obtain⟨d,e⟩:=zhk.1 g;have i:=b y ov;have:=zbb r (y+1) e (λx c=>⟨by have:=d x c;omega,(b x (by simp[c])).2⟩) oa;simp only[zg4];omega
def CutSl (w:E)(v:Y)(f:List Int):Prop:=(v=K U 0 0/\f=[])\/∃g a,v=K (I ⟨g,0,U⟩) f.length a/\∀(j:Nat) x,f[j]?=I x->w.cell? ⟨g,j,U⟩=I (M Ug x)
theorem rise_at (e:f.Pairwise (· < ·)){i j:Nat}{x y:Int}(c:f[i]?=I x)(d:f[j]?=I y)(h:i<j):x<y:=by obtain⟨a,rfl⟩:=zgG.1 c;obtain⟨b,rfl⟩:=zgG.1 d;exact zhE.1 e i j a b h
theorem zeg (c:f.Pairwise (· < ·)){i j:Nat}{x y:Int}(a:f[i]?=I x)(b:f[j]?=I y)(h:i<=j):x<=y:=by by_cases e:i=j;subst e;cases a.symm.trans b;omega;have:=rise_at c a b oa;omega
theorem Kw (x:Int)(w:E):Uh Tryz.prog 211 #[M Ug x] w λe a=>e=R (C Z)/\a=w:=by go_enter Tryz.func211,Tryz.ntmps211;go_wp2_with fail;go_ret;exact⟨ov,rfl⟩
theorem bs_any (v:Y)(f:List Int)(c:Int)(w:E)(h:CutSl w v f)(L:f.Pairwise (· < ·))(hl:f.length<=1114113):Uh Tryz.prog 173 #[v,M Ug c] w λe w'=>∃i:Nat,e=R (Ue #[M J i,C (decide (f[i]?=I c))])/\i<=f.length/\(∀(j:Nat) x,f[j]?=I x->(j<i↔x<c))/\w'=w:=by
 obtain⟨z,N,rfl,B⟩:∃z N,v=K z f.length N/\H (f.length≠0->∃g,z=I ⟨g,0,U⟩/\∀(j:Nat) x,f[j]?=I x->w.cell? ⟨g,j,U⟩=I (M Ug x)):=by rcases h with⟨rfl,rfl⟩|⟨g,ac,rfl,P⟩;exact⟨U,0,rfl,λh=>absurd rfl h⟩;exact⟨_,_,rfl,λ_=>⟨g,rfl,P⟩⟩
 have F:=ze L;clear h L;go_enter Tryz.func173,Tryz.ntmps173;go_wp2_with fail;go_loopw[7,8] (λs u wr=>wr=w/\∃i j:Nat,s=M J i/\u=M J j/\i<=j/\j<=f.length/\H ((∀(t:Nat) x,t<i->f[t]?=I x->x<c)/\∀(t:Nat) x,j<=t->f[t]?=I x->c<=x)) (λs u _=>(intOf u-intOf s).toNat);exact⟨rfl,0,f.length,rfl,rfl,oa,oa,λt x p=>oa,λt x p b=>by have:=(zgG.1 b).1;omega⟩;obtain⟨rfl,i,j,rfl,rfl,ad,T,o⟩:=hrel;by_cases af:i<j
 .obtain⟨g,rfl,m⟩:=zb B oa;have W:(i+j) / 2<f.length:=oa;have d:f[(i+j) / 2]?=I f[(i+j) / 2]:=zgE W;have c1:=m _ _ d;clear m;have HG:=ze d;clear d;generalize f[(i+j) / 2]=y at *;by_cases a:y<c
  .have r:H ((∀(t:Nat) x,t<(i+j) / 2+1->f[t]?=I x->x<c)/\∀(t:Nat) x,j<=t->f[t]?=I x->c<=x):=⟨λt x p b=>by have:=zeg F b HG oa;omega,o.2⟩
   have l:Uj y c=G:=(by simp[Uj,a]);clear a;go_wp2_with(go_at_call 205;refine(zY _ _ _).mono ?_;rw[l];rintro e wq ⟨rfl,n⟩;obtain rfl:=n.symm;clear n);exact⟨⟨trivial,(i+j) / 2+1,j,by rw[show((i:Int)+(j:Int)) / 2+1=(((i+j) / 2+1:Nat):Int) by omega],rfl,oa,T,r⟩,by simp[intOf];omega⟩
  have r:H ((∀(t:Nat) x,t<i->f[t]?=I x->x<c)/\∀(t:Nat) x,(i+j) / 2<=t->f[t]?=I x->c<=x):=⟨o.1,λt x p b=>by have:=zeg F HG b p;omega⟩
  have l:Uj y c=Z:=(by simp[Uj];omega);clear a;go_wp2_with(go_at_call 205;refine(zY _ _ _).mono ?_;rw[l];rintro e wq ⟨rfl,n⟩;obtain rfl:=n.symm;clear n);exact⟨⟨trivial,i,(i+j) / 2,rfl,by rw[show((i:Int)+(j:Int)) / 2=(((i+j) / 2:Nat):Int) by omega],oa,oa,r⟩,by simp[intOf];omega⟩
 obtain rfl:i=j:=oa;have q:H (∀(j:Nat) x,f[j]?=I x->(j<i↔x<c)):=λj x b=>⟨λh=>o.1 j x h b,λh=>by
  by_cases S:j<i;exact S;have:=o.2 j x oa b;omega⟩
 by_cases X:i<f.length
 .obtain⟨g,rfl,m⟩:=zb B oa;have d:f[i]?=I f[i]:=zgE X;have c1:=m _ _ d;clear m;have HG:=ze d;clear d;generalize f[i]=y at *;by_cases a:y=c
  .have l:(y == c)=G:=(by simp[a]);have k:H (decide (f[i]?=I c)=G):=(by show _=_;rw[zb HG,a];simp);clear a;go_wp2_with(go_at_call 211;refine ziD (Kw _ _) ?_);go_ret2;exact⟨i,by rw[zb k];rfl,oa,q,rfl⟩
  have l:(y == c)=Z:=(by simp[a]);have k:H (decide (f[i]?=I c)=Z):=(by show _=_;rw[zb HG];simp[a]);clear a;go_wp2_with(go_at_call 211;refine ziD (Kw _ _) ?_);go_ret2;exact⟨i,by rw[zb k];rfl,oa,q,rfl⟩
 have k:H (decide (f[i]?=I c)=Z):=(by show _=_;rw[zhv oa];simp);go_wp2_with fail;go_ret2;exact⟨i,by rw[zb k];rfl,oa,q,rfl⟩
end
