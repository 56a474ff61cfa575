/- Sizes of trees: a program has no more steps than its tree's size; more depth changes nothing. -/
import Derived.Test.YtcgleficedipkaaGreatDoorYTrATrK
namespace Go.Proofs.YtcgleficedipkaaGreatDoor
section
open Sm (Tree Stp)
namespace Sm
def capT:Nat->Tree->Int
 |0,_=>0
 |f+1,T=>
  if T.kind=5 then min (Pro.sumS 0 (T.kids.map (capT f))+T.kids.length-1) 301
  else if T.kind=6 then Pro.sumS 0 (T.kids.map (capT f))
  else if T.kind=7 then min (Pro.repS (capT f T.kid) T.a T.b) 301
  else 1
theorem XG:∀ (zs:List Int) (t:Int),(∀ z∈zs,0<=z)->t<=301->t<=Pro.sumS t zs
 | [],t,_,_=>YD t
 |z :: r,t,h,ht=>by
  have hz:=h z (xF ..);have:=XG r (min (t+z) 301) (fun y hy=>h y (xp _ hy)) (by omega);show t<=Pro.sumS (min (t+z) 301) r;omega
theorem zcz {z t:Int}{r:List Int}(h:∀ y∈z :: r,0<=y)(hs:Pro.sumS t (z :: r)<=300):t+z<=300/\Pro.sumS t (z :: r)=Pro.sumS (t+z) r:=by
 have hz:=h z (xF ..);have h2:=XG r (min (t+z) 301) (fun y hy=>h y (xp _ hy)) (by omega);have e:Pro.sumS t (z :: r)=Pro.sumS (min (t+z) 301) r:=rfl;have h3:t+z<=300:=by omega
 refine ⟨h3,?_⟩;rw [e,show min (t+z) 301=t+z by omega]
theorem VI:∀ (zs:List Int) (t:Int),(∀ z∈zs,0<=z)->0<=t->t<=301->Pro.sumS t zs<=300->Pro.sumS t zs=t+zs.sum
 | [],t,_,_,_,_=>by simp [Pro.sumS]
 |z :: r,t,h,h0,ht,hs=>by
  obtain ⟨h1,h2⟩:=zcz h hs;have hz:=h z (xF ..);rw [h2] at hs ⊢;rw [VI r (t+z) (fun y hy=>h y (xp _ hy)) (by omega) (by omega) hs];simp only [XQ];omega
theorem WF.up:∀ {f g:Nat} {T:Tree},WF f T->f<=g->WF g T
 |0,_,_,h,_=>h.elim
 |f+1,0,_,_,h=>by omega
 |f+1,g+1,T,h,hfg=>⟨h.1,fun hk t ht=>WF.up (h.2.1 hk t ht) (by omega),fun hk=>⟨WF.up (h.2.2 hk).1 (by omega),(h.2.2 hk).2⟩⟩
theorem XH:∀ {f:Nat} {T:Tree},WF f T->0<=capT f T
 |0,_,h=>h.elim
 |f+1,T,h=>by
  unfold capT;have key:T.kind=5\/T.kind=6->∀ z∈T.kids.map (capT f),0<=z:=fun hk z hz=>by
   obtain ⟨t,ht,rfl⟩:=Zz.1 hz;exact XH (h.2.1 hk t ht)
  split
  ·rename_i hk;have:=XG (T.kids.map (capT f)) 0 (key (.inl hk)) (by omega);have:T.kids.length≠0:=fun e=>h.1 hk (qg e);omega
  ·split
   ·rename_i hk;exact XG (T.kids.map (capT f)) 0 (key (.inr hk)) (by omega)
   ·split
    ·rename_i hk;have:=Pro.XJ (XH (h.2.2 hk).1) (h.2.2 hk).2.1 (h.2.2 hk).2.2;omega
    ·omega
theorem Kx:∀ {f g:Nat} {T:Tree},WF f T->f<=g->capT g T=capT f T
 |0,_,_,h,_=>h.elim
 |f+1,0,_,_,h=>by omega
 |f+1,g+1,T,h,hfg=>by
  unfold capT;have key:T.kind=5\/T.kind=6->T.kids.map (capT g)=T.kids.map (capT f):=fun hk=>List.map_congr_left fun t ht=>Kx (h.2.1 hk t ht) (by omega);split
  ·rename_i hk;rw [key (.inl hk)]
  ·split
   ·rename_i hk;rw [key (.inr hk)]
   ·split
    ·rename_i hk;rw [Kx (h.2.2 hk).1 (by omega)]
    ·rfl
section
variable {B C:Tree->Nat->List Stp->Nat×List Stp}
end
theorem pow_iff {R R':Nat->Nat->Prop}(h:∀ i j,R i j↔R' i j):∀ (k i j:Nat),pow R k i j↔pow R' k i j:=by
 have:R=R':=by funext i j;exact propext (h i j)
 subst this;exact fun _ _ _=>Iff.rfl
theorem YW {X X':Tree->Nat->Nat->Prop}:∀ (ts:List Tree),(∀ t∈ts,∀ i j,X t i j↔X' t i j)->∀ i j,q7 X ts i j↔q7 X' ts i j
 | [],_,_,_=>Iff.rfl
 |t :: ts,h,i,j=>by
  simp only [q7];constructor
  ·rintro ⟨m,h1,h2⟩;exact ⟨m,(h t (xF ..) i m).1 h1,(YW ts (fun y hy=>h y (xp _ hy)) m j).1 h2⟩
  ·rintro ⟨m,h1,h2⟩;exact ⟨m,(h t (xF ..) i m).2 h1,(YW ts (fun y hy=>h y (xp _ hy)) m j).2 h2⟩
theorem M_up {lf:Tree->Nat->Prop}{ah:Int->Nat->Prop}:∀ {f g:Nat} {T:Tree},WF f T->f<=g->∀ i j,M lf ah g T i j↔M lf ah f T i j
 |0,_,_,h,_=>h.elim
 |f+1,0,_,_,h=>by omega
 |f+1,g+1,T,h,hfg=>by
  intro i j;unfold M;have key:T.kind=5\/T.kind=6->∀ t∈T.kids,∀ i j,M lf ah g t i j↔M lf ah f t i j:=fun hk t ht=>M_up (h.2.1 hk t ht) (by omega);split
  ·exact Iff.rfl
  ·split
   ·rename_i hk;exact ⟨fun ⟨t,ht,hm⟩=>⟨t,ht,(key (.inl hk) t ht i j).1 hm⟩,fun ⟨t,ht,hm⟩=>⟨t,ht,(key (.inl hk) t ht i j).2 hm⟩⟩
   ·split
    ·rename_i hk;exact YW _ (key (.inr hk)) i j
    ·split
     ·rename_i hk;have e:=M_up (lf:=lf) (ah:=ah) (h.2.2 hk).1 (show f<=g by omega);exact ⟨fun ⟨k,h1,h2,h3⟩=>⟨k,h1,h2,(pow_iff e k i j).1 h3⟩,fun ⟨k,h1,h2,h3⟩=>⟨k,h1,h2,(pow_iff e k i j).2 h3⟩⟩
     ·exact Iff.rfl
theorem M_any {lf:Tree->Nat->Prop}{ah:Int->Nat->Prop}{f g:Nat}{T:Tree}(hf:WF f T)(hg:WF g T)(i j:Nat):M lf ah g T i j↔M lf ah f T i j:=by
 by_cases h:f<=g
 ·exact M_up hf h i j
 ·exact (M_up hg (by omega) i j).symm
end Sm
theorem jd.leaf {w:World}{A:Nat->Prop}{v:Value}{t:Tree}(h:jd w A v t):t.kind<=4/\∃ T x,leafT T/\v = .iface T x:=by
 rcases h with ⟨c,rfl,rfl⟩ |⟨rfl,rfl⟩ |⟨c,rfl,rfl⟩ |⟨c,rfl,rfl⟩ |⟨neg,R,S,v1,v2,rfl,rfl,_⟩
 ·exact ⟨by simp [Pro.tAsr],_,_,.inl rfl,rfl⟩
 ·exact ⟨by simp [Pro.tAny],_,_,.inr (.inl rfl),rfl⟩
 ·exact ⟨by simp [Pro.qK],_,_,.inr (.inr (.inl rfl)),rfl⟩
 ·exact ⟨by simp [Pro.xV],_,_,.inr (.inr (.inr (.inl rfl))),rfl⟩
 ·exact ⟨by simp [Pro.tCls],_,_,.inr (.inr (.inr (.inr rfl))),rfl⟩
theorem zaP {α β:Type}{xs:List α}{ts:List β}(h:ts.length=xs.length){j:Nat}{t:β}(ht:ts[j]?=some t):∃ x,xs[j]?=some x:=by
 have:=(yd.1 ht).1;exact ⟨xs[j]'(by omega),zD (by omega)⟩
theorem zA.wf {w:World}{A:Nat->Prop}:∀ {f:Nat} {v:Value} {t:Tree},zA f w A v t->Sm.WF f t
 |0,_,_,h=>h.elim
 |f+1,v,t,h=>by
  rcases h with h |⟨sv,xs,ts,rfl,_,_,_,hl,h4,h5⟩ |⟨sv,xs,ts,rfl,_,_,_,hl,h4⟩ |⟨p,l,m,t',rfl,_,h2,h3,h4,h5,h6,h7⟩
  ·have:=h.leaf.1;exact ⟨fun e=>by omega,fun e=>by omega,fun e=>by omega⟩
  ·refine ⟨fun _ e=>?_,fun _ t ht=>?_,fun e=>absurd e (by simp [Pro.tAlt])⟩
   ·have:ts.length=0:=(by have:ts=[]:=e;simp [this]);omega
   ·obtain ⟨j,hj⟩:=j5 (show t∈ts from ht);obtain ⟨x,hx⟩:=zaP hl hj;exact zA.wf (h4 j x t hx hj)
  ·refine ⟨fun e=>absurd e (by simp [Pro.tSeq]),fun _ t ht=>?_,fun e=>absurd e (by simp [Pro.tSeq])⟩;obtain ⟨j,hj⟩:=j5 (show t∈ts from ht);obtain ⟨x,hx⟩:=zaP hl hj;exact zA.wf (h4 j x t hx hj)
  ·refine ⟨fun e=>absurd e (by simp [Pro.tRep]),fun e=>absurd e (by simp [Pro.tRep]),fun _=>⟨?_,h3,h7⟩⟩;exact zA.wf h2
theorem zA.size {w:World}{A:Nat->Prop}:∀ {f:Nat} {v:Value} {t:Tree},zA f w A v t->ye f w A v (Sm.capT f t)
 |0,_,_,h=>h.elim
 |f+1,v,t,h=>by
  have key:∀ (xs:List Value) (ts:List Tree),ts.length=xs.length->(∀ (j:Nat) x t',xs[j]?=some x->ts[j]?=some t'->zA f w A x t')->∀ (j:Nat) x z',xs[j]?=some x->(ts.map (Sm.capT f))[j]?=some z'->ye f w A x z':=by
   intro xs ts _ hh j x z' hx hz;rw [ky] at hz;cases ht:ts[j]? with
   |none=>rw [ht] at hz;cases hz
   |some t'=>rw [ht] at hz;cases hz;exact zA.size (hh j x t' hx ht)
  rcases h with h |⟨sv,xs,ts,rfl,h1,h2,h0,hl,h4,h5⟩ |⟨sv,xs,ts,rfl,h1,h2,h0,hl,h4⟩ |⟨p,l,m,t',rfl,h1,h2,h3,h4,h5,h6,h7⟩
  ·obtain ⟨hk,T,x,hT,hv⟩:=h.leaf;refine .inl ⟨?_,T,x,hT,hv⟩;unfold Sm.capT;rw [if_neg (by omega),if_neg (by omega),if_neg (by omega)]
  ·refine .inr (.inl ⟨sv,xs,ts.map (Sm.capT f),h1,h2,h0,by simp [hl],key xs ts hl h4,h5,?_⟩);unfold Sm.capT;rw [if_pos (by rfl),<-hl];rfl
  ·refine .inr (.inr (.inl ⟨sv,xs,ts.map (Sm.capT f),h1,h2,h0,by simp [hl],key xs ts hl h4,?_⟩));unfold Sm.capT;rw [if_neg (by simp [Pro.tSeq]),if_pos (by rfl)];rfl
  ·refine .inr (.inr (.inr ⟨p,l,m,Sm.capT f t',h1,zA.size h2,h3,h4,h5,h6,h7,?_⟩))
   conv=>lhs;unfold Sm.capT
   rw [if_neg (by simp [Pro.tRep]),if_neg (by simp [Pro.tRep]),if_pos (by rfl)];rfl
namespace Sm
section
variable {B:Tree->Nat->List Stp->Nat×List Stp}
def Len (B:Tree->Nat->List Stp->Nat×List Stp)(t:Tree)(z:Int):Prop:=∀ nx S,((B t nx S).2.length:Int)<=S.length+z
theorem Xo {nx:Nat}{z:Tree->Int}:∀ (ts:List Tree) (b:Nat) (S:List Stp),(∀ t∈ts,Len B t (z t))->((yM B nx ts b S).2.length:Int)<=S.length+(ts.map z).sum+ts.length
 | [],_,_,_=>by simp [yM]
 |t :: ts,b,S,h=>by
  have h1:=h t (xF ..) nx S;have h2:=Xo (nx:=nx) ts (B t nx S).2.length ((B t nx S).2++[zx b (B t nx S).1]) (fun y hy=>h y (xp _ hy));simp only [yM,List.map_cons,XQ,qH,yS,jU] at h2 ⊢;omega
theorem VJ {z:Tree->Int}:∀ (ts:List Tree) (b:Nat) (S:List Stp),(∀ t∈ts,Len B t (z t))->((bSeq B ts b S).2.length:Int)<=S.length+(ts.map z).sum
 | [],_,_,_=>by simp [bSeq]
 |t :: ts,b,S,h=>by
  have h1:=h t (xF ..) b S;have h2:=VJ ts (B t b S).1 (B t b S).2 (fun y hy=>h y (xp _ hy));simp only [bSeq,List.map_cons,XQ] at h2 ⊢;omega
theorem VK {t:Tree}{nx:Nat}{z:Int}:∀ (k b:Nat) (S:List Stp),(k≠0->Len B t z)->((bOpt B t nx k b S).2.length:Int)<=S.length+k*(z+1)
 |0,_,_,_=>by simp [bOpt]
 |k+1,b,S,h=>by
  have hh:=h (by omega);have h1:=hh b S;have h2:=VK (nx:=nx) k (B t b S).2.length ((B t b S).2++[zx (B t b S).1 nx]) (fun _=>hh);have e:((k+1:Nat):Int)*(z+1)=k*(z+1)+(z+1):=by rw [show ((k+1:Nat):Int)=k+1 by omega,Int.add_mul,Int.one_mul]
  simp only [bOpt,yS,qH,jU] at h2 ⊢;omega
theorem ZG {t:Tree}{z:Int}(hz:0<=z):∀ (k b:Nat) (S:List Stp),(k≠0->Len B t z)->((yr B t k b S).2.length:Int)<=S.length+k*z
 |0,_,_,_=>by simp [yr]
 |k+1,b,S,h=>by
  have hh:=h (by omega);have h1:=hh b S;have e:((k+1:Nat):Int)*z=k*z+z:=by rw [show ((k+1:Nat):Int)=k+1 by omega,Int.add_mul,Int.one_mul]
  have h0:0<=(k:Int)*z:=wg (by omega) hz;simp only [yr];split
  ·omega
  ·have h2:=ZG hz k (B t b S).1 (B t b S).2 (fun _=>hh);omega
theorem zcA {t:Tree}{nx:Nat}{z:Int}(h:Len B t z)(S:List Stp):((xm B t nx S).2.length:Int)<=S.length+z+1:=by
 have h1:=h S.length (S++[zx 0 nx]);simp only [xm,ve,yS,qH,jU] at h1 ⊢;omega
end
theorem sum_ge:∀ {zs:List Int},(∀ z∈zs,0<=z)->0<=zs.sum
 | [],_=>by simp
 |z :: r,h=>by
  have h1:=h z (xF ..);have:=sum_ge (zs:=r) (fun y hy=>h y (xp _ hy));simp only [XQ];omega
theorem zaQ:∀ {zs:List Int},(∀ z∈zs,0<=z)->∀ y∈zs,y<=zs.sum
 | [],_,y,hy=>by cases hy
 |z :: r,h,y,hy=>by
  have hr:∀ y∈r,0<=y:=fun y hy=>h y (xp _ hy);have h1:=h z (xF ..);have h2:=sum_ge hr;simp only [XQ];rcases qP.1 hy with rfl |hy
  ·omega
  ·have:=zaQ hr y hy;omega
theorem XI:∀ {f:Nat} {T:Tree},WF f T->capT f T<=300->Len (bld f) T (capT f T)
 |0,_,h,_=>h.elim
 |f+1,T,h,hc=>by
  intro nx S;have key:T.kind=5\/T.kind=6->∀ z∈T.kids.map (capT f),0<=z:=fun hk z hz=>by
   obtain ⟨t,ht,rfl⟩:=Zz.1 hz;exact XH (h.2.1 hk t ht)
  have kids:(T.kind=5\/T.kind=6)->Pro.sumS 0 (T.kids.map (capT f))<=300->Pro.sumS 0 (T.kids.map (capT f))=(T.kids.map (capT f)).sum/\∀ t∈T.kids,Len (bld f) t (capT f t):=by
   intro hk hs;have e:=VI _ 0 (key hk) (by omega) (by omega) hs;rw [Int.zero_add] at e;refine ⟨e,fun t ht=>XI (h.2.1 hk t ht) ?_⟩;have:=zaQ (key hk) _ (Yn (f:=capT f) ht);omega
  unfold bld;by_cases h0:T.kind=0
  ·rw [if_pos h0];have e:capT (f+1) T=1:=(by unfold capT;rw [if_neg (by omega),if_neg (by omega),if_neg (by omega)]);rw [e];simp
  ·rw [if_neg h0];by_cases h5:T.kind=5
   ·rw [if_pos h5];have e:capT (f+1) T=min (Pro.sumS 0 (T.kids.map (capT f))+T.kids.length-1) 301:=(by conv=>lhs;unfold capT;rw [if_pos h5]);have hne:=h.1 h5;cases hk:T.kids with
    |nil=>exact absurd hk hne
    |cons t ts=>
     have hlen:T.kids.length=ts.length+1:=(by rw [hk];rfl);obtain ⟨e1,e2⟩:=kids (.inl h5) (by omega);rw [hk] at e1 e2;have l1:=e2 t (xF ..) nx S;have l2:=Xo (nx:=nx) (z:=capT f) ts (bld f t nx S).1 (bld f t nx S).2 (fun y hy=>e2 y (xp _ hy));rw [hk] at e;simp only [List.map_cons,XQ,qH] at e1 e;simp only;omega
   ·rw [if_neg h5];by_cases h6:T.kind=6
    ·rw [if_pos h6];have e:capT (f+1) T=Pro.sumS 0 (T.kids.map (capT f)):=(by conv=>lhs;unfold capT;rw [if_neg h5,if_pos h6]);obtain ⟨e1,e2⟩:=kids (.inr h6) (by omega);have l2:=VJ (z:=capT f) T.kids.reverse nx S (fun y hy=>e2 y (List.mem_reverse.1 hy));rw [List.map_reverse,List.sum_reverse] at l2;omega
    ·rw [if_neg h6];by_cases h7:T.kind=7
     ·rw [if_pos h7];have e:capT (f+1) T=min (Pro.repS (capT f T.kid) T.a T.b) 301:=(by conv=>lhs;unfold capT;rw [if_neg h5,if_neg h6,if_pos h7]);obtain ⟨hw,ha,hb⟩:=h.2.2 h7;have hz:=XH hw;have he:=hc;rw [e] at he ⊢;have hr:min (Pro.repS (capT f T.kid) T.a T.b) 301=Pro.repS (capT f T.kid) T.a T.b:=(by omega);rw [hr] at he ⊢;unfold Pro.repS at he ⊢;generalize hzz:capT f T.kid=z at *;by_cases hb1:T.b = -1
      ·rw [if_pos hb1] at he ⊢;rw [if_pos hb1];have hz3:z<=300:=by
        have:1*z<=max T.a 1*z:=vz (by omega) hz;omega
       have hL:Len (bld f) T.kid z:=(by rw [<-hzz];exact XI hw (by omega));have l1:=zcA (nx:=nx) hL S;by_cases ha0:T.a=0
       ·rw [if_pos ha0,ha0];rw [show max (0:Int) 1=1 by omega,Int.one_mul];simp only;omega
       ·rw [if_neg ha0];have l2:=ZG hz (T.a-1).toNat (xm (bld f) T.kid nx S).1 (xm (bld f) T.kid nx S).2 (fun _=>hL);rw [show ((T.a-1).toNat:Int)=T.a-1 by omega,Int.sub_mul,Int.one_mul] at l2;rw [show max T.a 1=T.a by omega];omega
      ·rw [if_neg hb1] at he ⊢;rw [if_neg hb1];have hab:T.a<=T.b:=(by omega);have p1:0<=T.a*z:=wg ha hz;have p2:0<=(T.b-T.a)*(z+1):=wg (by omega) (by omega);have hL:0<T.b->Len (bld f) T.kid z:=fun hp=>by
        have hz3:z<=300:=by
         by_cases hl:T.a=0
         ·have:1*(z+1)<=(T.b-T.a)*(z+1):=vz (by omega) (by omega);omega
         ·have:1*z<=T.a*z:=vz (by omega) hz;omega
        rw [<-hzz];exact XI hw (by omega)
       have l1:=VK (nx:=nx) (z:=z) (T.b-T.a).toNat nx S (fun hk=>hL (by omega));have l2:=ZG hz T.a.toNat (bOpt (bld f) T.kid nx (T.b-T.a).toNat nx S).1 (bOpt (bld f) T.kid nx (T.b-T.a).toNat nx S).2 (fun hk=>hL (by omega));rw [show ((T.b-T.a).toNat:Int)=T.b-T.a by omega] at l1;rw [show (T.a.toNat:Int)=T.a by omega] at l2;omega
     ·rw [if_neg h7];have e:capT (f+1) T=1:=(by unfold capT;rw [if_neg h5,if_neg h6,if_neg h7]);rw [e];simp
end Sm
namespace Sm
def Adds (B:Tree->Nat->List Stp->Nat×List Stp):Prop:=∀ t nx S,S.length<=(B t nx S).2.length
theorem jX {B:Tree->Nat->List Stp->Nat×List Stp}(hB:Adds B){nx:Nat}:∀ (ts:List Tree) (b:Nat) (S:List Stp),S.length<=(yM B nx ts b S).2.length
 | [],_,_=>z8 _
 |t :: ts,b,S=>by
  have h1:=hB t nx S;have h2:=jX hB (nx:=nx) ts (B t nx S).2.length ((B t nx S).2++[zx b (B t nx S).1]);simp only [yS,jq] at h2;show _<=(yM B nx ts (B t nx S).2.length ((B t nx S).2++[zx b (B t nx S).1])).2.length;omega
theorem YX {B:Tree->Nat->List Stp->Nat×List Stp}(hB:Adds B):∀ (ts:List Tree) (b:Nat) (S:List Stp),S.length<=(bSeq B ts b S).2.length
 | [],_,_=>z8 _
 |t :: ts,b,S=>yZ (hB t b S) (YX hB ts (B t b S).1 (B t b S).2)
theorem wZ {B:Tree->Nat->List Stp->Nat×List Stp}(hB:Adds B){t:Tree}{nx:Nat}:∀ (k b:Nat) (S:List Stp),S.length<=(bOpt B t nx k b S).2.length
 |0,_,_=>z8 _
 |k+1,b,S=>by
  have h1:=hB t b S;have h2:=wZ hB (t:=t) (nx:=nx) k (B t b S).2.length ((B t b S).2++[zx (B t b S).1 nx]);simp only [yS,jq] at h2;show _<=(bOpt B t nx k (B t b S).2.length ((B t b S).2++[zx (B t b S).1 nx])).2.length;omega
theorem qX {B:Tree->Nat->List Stp->Nat×List Stp}(hB:Adds B){t:Tree}:∀ (k b:Nat) (S:List Stp),S.length<=(yr B t k b S).2.length
 |0,_,_=>z8 _
 |k+1,b,S=>by
  have h1:=hB t b S;simp only [yr];split
  ·exact h1
  ·exact yZ h1 (qX hB k (B t b S).1 (B t b S).2)
theorem vF {B:Tree->Nat->List Stp->Nat×List Stp}(hB:Adds B){t:Tree}{nx:Nat}(S:List Stp):S.length<(xm B t nx S).2.length:=by
 have h1:=hB t S.length (S++[zx 0 nx]);simp only [yS,jq] at h1;simp only [xm,ve];omega
theorem yU:∀ f,Adds (bld f)
 |0,_,_,_=>z8 _
 |f+1,T,nx,S=>by
  have ih:=yU f;simp only [bld];split
  ·simp
  ·split
   ·split
    ·exact z8 _
    ·rename_i t ts _;exact yZ (ih t nx S) (jX ih ts _ _)
   ·split
    ·exact YX ih _ _ _
    ·split
     ·split
      ·split
       ·exact Nat.le_of_lt (vF ih S)
       ·exact yZ (Nat.le_of_lt (vF ih (t:=T.kid) (nx:=nx) S)) (qX ih _ _ _)
      ·exact yZ (wZ ih _ _ _) (qX ih _ _ _)
     ·simp
def Olds (B:Tree->Nat->List Stp->Nat×List Stp):Prop:=∀ t nx S k,k<S.length->(B t nx S).2[k]?=S[k]?
theorem Xp {B:Tree->Nat->List Stp->Nat×List Stp}(hA:Adds B)(hB:Olds B){nx:Nat}:∀ (ts:List Tree) (b:Nat) (S:List Stp) (k:Nat),k<S.length->(yM B nx ts b S).2[k]?=S[k]?
 | [],_,_,_,_=>rfl
 |t :: ts,b,S,k,hk=>by
  have h1:=hA t nx S;show (yM B nx ts (B t nx S).2.length ((B t nx S).2++[zx b (B t nx S).1])).2[k]?=_;rw [Xp hA hB ts _ _ k (by simp;omega),qh (by omega),hB t nx S k hk]
theorem VL {B:Tree->Nat->List Stp->Nat×List Stp}(hA:Adds B)(hB:Olds B):∀ (ts:List Tree) (b:Nat) (S:List Stp) (k:Nat),k<S.length->(bSeq B ts b S).2[k]?=S[k]?
 | [],_,_,_,_=>rfl
 |t :: ts,b,S,k,hk=>by
  show (bSeq B ts (B t b S).1 (B t b S).2).2[k]?=_;rw [VL hA hB ts _ _ k (yh hk (hA t b S)),hB t b S k hk]
theorem VM {B:Tree->Nat->List Stp->Nat×List Stp}(hA:Adds B)(hB:Olds B){t:Tree}{nx:Nat}:∀ (m b:Nat) (S:List Stp) (k:Nat),k<S.length->(bOpt B t nx m b S).2[k]?=S[k]?
 |0,_,_,_,_=>rfl
 |m+1,b,S,k,hk=>by
  have h1:=hA t b S;show (bOpt B t nx m (B t b S).2.length ((B t b S).2++[zx (B t b S).1 nx])).2[k]?=_;rw [VM hA hB m _ _ k (by simp;omega),qh (by omega),hB t b S k hk]
theorem ZH {B:Tree->Nat->List Stp->Nat×List Stp}(hA:Adds B)(hB:Olds B){t:Tree}:∀ (m b:Nat) (S:List Stp) (k:Nat),k<S.length->(yr B t m b S).2[k]?=S[k]?
 |0,_,_,_,_=>rfl
 |m+1,b,S,k,hk=>by
  simp only [yr];split
  ·exact hB t b S k hk
  ·rw [ZH hA hB m _ _ k (yh hk (hA t b S)),hB t b S k hk]
theorem Jt {B:Tree->Nat->List Stp->Nat×List Stp}(_hA:Adds B)(hB:Olds B){t:Tree}{nx:Nat}(S:List Stp)(k:Nat)(hk:k<S.length):(xm B t nx S).2[k]?=S[k]?:=by
 simp only [xm];rw [Z0 (by omega),hB t _ _ k (by simp;omega),qh hk]
theorem zaR:∀ f,Olds (bld f)
 |0,_,_,_,_,_=>rfl
 |f+1,T,nx,S,k,hk=>by
  have ih:=zaR f;have ia:=yU f;simp only [bld];split
  ·exact qh hk
  ·split
   ·split
    ·rfl
    ·rename_i t ts _;rw [Xp ia ih ts _ _ k (yh hk (ia t nx S)),ih t nx S k hk]
   ·split
    ·exact VL ia ih _ _ _ k hk
    ·split
     ·split
      ·split
       ·exact Jt ia ih S k hk
       ·rw [ZH ia ih _ _ _ k (Nat.lt_trans hk (vF ia S)),Jt ia ih S k hk]
      ·rw [ZH ia ih _ _ _ k (yh hk (wZ ia _ _ _)),VM ia ih _ _ _ k hk]
     ·exact qh hk
def kl (B:Tree->Nat->List Stp->Nat×List Stp):Prop:=∀ t nx S,nx<S.length->(B t nx S).1<(B t nx S).2.length
theorem wG {B:Tree->Nat->List Stp->Nat×List Stp}(hA:Adds B)(_hB:kl B){nx:Nat}:∀ (ts:List Tree) (b:Nat) (S:List Stp),nx<S.length->b<S.length->(yM B nx ts b S).1<(yM B nx ts b S).2.length
 | [],_,_,_,hb=>hb
 |t :: ts,b,S,hn,hb=>by
  have h1:=hA t nx S;exact wG hA _hB (nx:=nx) ts (B t nx S).2.length ((B t nx S).2++[zx b (B t nx S).1]) (by simp;omega) (by simp)
theorem Xq {B:Tree->Nat->List Stp->Nat×List Stp}(_hA:Adds B)(hB:kl B):∀ (ts:List Tree) (b:Nat) (S:List Stp),b<S.length->(bSeq B ts b S).1<(bSeq B ts b S).2.length
 | [],_,_,hb=>hb
 |t :: ts,b,S,hb=>Xq _hA hB ts (B t b S).1 (B t b S).2 (hB t b S hb)
theorem kH {B:Tree->Nat->List Stp->Nat×List Stp}(_hA:Adds B)(_hB:kl B){t:Tree}{nx:Nat}:∀ (k b:Nat) (S:List Stp),b<S.length->(bOpt B t nx k b S).1<(bOpt B t nx k b S).2.length
 |0,_,_,hb=>hb
 |k+1,b,S,hb=>kH _hA _hB k (B t b S).2.length ((B t b S).2++[zx (B t b S).1 nx]) (by simp)
theorem kR {B:Tree->Nat->List Stp->Nat×List Stp}(_hA:Adds B)(hB:kl B){t:Tree}:∀ (k b:Nat) (S:List Stp),b<S.length->(yr B t k b S).1<(yr B t k b S).2.length
 |0,_,_,hb=>hb
 |k+1,b,S,hb=>by
  have h1:=hB t b S hb;simp only [yr];split
  ·exact h1
  ·exact kR _hA hB k (B t b S).1 (B t b S).2 h1
theorem Yj {B:Tree->Nat->List Stp->Nat×List Stp}(_hA:Adds B)(hB:kl B){t:Tree}{nx:Nat}(S:List Stp):(xm B t nx S).1<(xm B t nx S).2.length:=by
 have h1:=hB t S.length (S++[zx 0 nx]) (by simp);simp only [xm,ve];exact h1
theorem qt:∀ f,kl (bld f)
 |0,_,_,_,h=>h
 |f+1,T,nx,S,hn=>by
  have ih:=qt f;have ia:=yU f;simp only [bld];split
  ·simp
  ·split
   ·split
    ·exact hn
    ·rename_i t ts _;have:=ia t nx S;exact wG ia ih ts _ _ (by omega) (ih t nx S hn)
   ·split
    ·exact Xq ia ih _ _ _ hn
    ·split
     ·split
      ·split
       ·exact vF ia S
       ·exact kR ia ih _ _ _ (Yj ia ih S)
      ·exact kR ia ih _ _ _ (kH ia ih _ _ _ hn)
     ·simp
end Sm
namespace Sm
def qS (S:List Stp):Prop:=∀ s∈S,s.next<S.length/\s.other<S.length
theorem qS.snoc {S:List Stp}{x:Stp}(h:qS S)(h1:x.next<S.length+1)(h2:x.other<S.length+1):qS (S++[x]):=fun s hs=>by
 simp only [yS,jq];rcases qe.1 hs with hs |hs
 ·have:=h s hs;omega
 ·obtain rfl:=xf.1 hs;exact ⟨h1,h2⟩
def Fits (B:Tree->Nat->List Stp->Nat×List Stp):Prop:=∀ t nx S,nx<S.length->qS S->qS (B t nx S).2
theorem Yk {B:Tree->Nat->List Stp->Nat×List Stp}(hA:Adds B)(hB:kl B)(hF:Fits B){nx:Nat}:∀ (ts:List Tree) (b:Nat) (S:List Stp),nx<S.length->b<S.length->qS S->qS (yM B nx ts b S).2
 | [],_,_,_,_,h=>h
 |t :: ts,b,S,hn,hb,h=>by
  have h1:=hA t nx S;have h2:=hB t nx S hn;exact Yk hA hB hF (nx:=nx) ts (B t nx S).2.length ((B t nx S).2++[zx b (B t nx S).1]) (by simp;omega) (by simp) ((hF t nx S hn h).snoc (by simp only [zx];omega) (by simp only [zx];omega))
theorem Ju {B:Tree->Nat->List Stp->Nat×List Stp}(_hA:Adds B)(hB:kl B)(hF:Fits B):∀ (ts:List Tree) (b:Nat) (S:List Stp),b<S.length->qS S->qS (bSeq B ts b S).2
 | [],_,_,_,h=>h
 |t :: ts,b,S,hb,h=>Ju _hA hB hF ts (B t b S).1 (B t b S).2 (hB t b S hb) (hF t b S hb h)
theorem Jv {B:Tree->Nat->List Stp->Nat×List Stp}(hA:Adds B)(hB:kl B)(hF:Fits B){t:Tree}{nx:Nat}:∀ (k b:Nat) (S:List Stp),nx<S.length->b<S.length->qS S->qS (bOpt B t nx k b S).2
 |0,_,_,_,_,h=>h
 |k+1,b,S,hn,hb,h=>by
  have h1:=hA t b S;have h2:=hB t b S hb;exact Jv hA hB hF k (B t b S).2.length ((B t b S).2++[zx (B t b S).1 nx]) (by simp;omega) (by simp) ((hF t b S hb h).snoc (by simp only [zx];omega) (by simp only [zx];omega))
theorem wH {B:Tree->Nat->List Stp->Nat×List Stp}(_hA:Adds B)(hB:kl B)(hF:Fits B){t:Tree}:∀ (k b:Nat) (S:List Stp),b<S.length->qS S->qS (yr B t k b S).2
 |0,_,_,_,h=>h
 |k+1,b,S,hb,h=>by
  have h1:=hB t b S hb;have h2:=hF t b S hb h;simp only [yr];split
  ·exact h2
  ·exact wH _hA hB hF k (B t b S).1 (B t b S).2 h1 h2
theorem QB {B:Tree->Nat->List Stp->Nat×List Stp}(hA:Adds B)(hB:kl B)(hF:Fits B){t:Tree}{nx:Nat}(S:List Stp)(hn:nx<S.length)(h:qS S):qS (xm B t nx S).2:=by
 have h1:=hB t S.length (S++[zx 0 nx]) (by simp);have h2:=hF t S.length (S++[zx 0 nx]) (by simp) (h.snoc (by simp [zx]) (by simp only [zx];omega));have h3:=hA t S.length (S++[zx 0 nx]);simp only [yS,jq] at h3;intro s hs;simp only [xm,ve] at hs ⊢;rcases X9 hs with hs |rfl
 ·exact h2 s hs
 ·exact ⟨h1,show nx<_ by omega⟩
theorem VN:∀ f,Fits (bld f)
 |0,_,_,_,_,h=>h
 |f+1,T,nx,S,hn,h=>by
  have ih:=VN f;have is:=qt f;have ia:=yU f;simp only [bld];split
  ·exact h.snoc (by simp only [tester];omega) (by simp [tester])
  ·split
   ·split
    ·exact h
    ·rename_i t ts _;have:=ia t nx S;exact Yk ia is ih ts _ _ (by omega) (is t nx S hn) (ih t nx S hn h)
   ·split
    ·exact Ju ia is ih _ _ _ hn h
    ·split
     ·split
      ·split
       ·exact QB ia is ih S hn h
       ·exact wH ia is ih _ _ _ (Yj ia is S) (QB ia is ih S hn h)
      ·exact wH ia is ih _ _ _ (kH ia is _ _ _ hn) (Jv ia is ih _ _ _ hn hn h)
     ·exact h.snoc (by simp only [taker];omega) (by simp [taker])
end Sm
end
end Go.Proofs.YtcgleficedipkaaGreatDoor
