/- A search that begins anew ahead of every character, by places of the program: plain. -/
import Derived.Test.YtfnkbmglodopkaaGreatDoorZTrATrH
namespace Go.Proofs.YtfnkbmglodopkaaGreatDoor
section
namespace Sm
variable {lf:Tree→Nat→Prop} {ah:Int→Nat→Prop}
def Come (lf:Tree→Nat→Prop)(ah:Int→Nat→Prop)(N:List Stp)(s i q:Nat):Prop:=∃ i0,i0≤i∧Goes lf ah N s i0 q i
def Stands (lf:Tree→Nat→Prop)(ah:Int→Nat→Prop)(N:List Stp)(s i:Nat)(ps:List Nat):Prop:=∀ q,(∃ p∈ps,Goes lf ah N p i q i)↔Come lf ah N s i q
theorem X6 (N:List Stp)(s:Nat):Stands lf ah N s 0 [s]:=by
 intro q
 constructor
 ·rintro ⟨p,hp,g⟩
  obtain rfl:=List.mem_singleton.1 hp
  exact ⟨0,Nat.le_refl _,g⟩
 ·rintro ⟨i0,h,g⟩
  obtain rfl:i0=0:=by omega
  exact ⟨s,List.mem_singleton.2 rfl,g⟩
def Q2 (lf:Tree→Nat→Prop)(ah:Int→Nat→Prop)(N:List Stp)(s n:Nat):Prop:=∃ i,i<n∧Come lf ah N s i 0
theorem jp {N:List Stp}{s i:Nat}:Q2 lf ah N s (i+1)↔Q2 lf ah N s i∨Come lf ah N s i 0:=by
 constructor
 ·rintro ⟨j,hj,h⟩
  by_cases e:j=i
  ·subst e;exact .inr h
  ·exact .inl ⟨j,by omega,h⟩
 ·rintro (⟨j,hj,h⟩ |h)
  ·exact ⟨j,by omega,h⟩
  ·exact ⟨i,by omega,h⟩
theorem VM {N:List Stp}{s n:Nat}:Q2 lf ah N s (n+1)↔∃ i j,i≤n∧j≤n∧Goes lf ah N s i 0 j:=by
 constructor
 ·rintro ⟨j,hj,i,hi,g⟩
  exact ⟨i,j,by omega,by omega,g⟩
 ·rintro ⟨i,j,_,hj,g⟩
  exact ⟨j,by omega,i,g.le,g⟩
end Sm
open Sm (Tree Stp)
namespace Sm
def capT:Nat→Tree→Int
 |0,_=>0
 |f+1,T=>
  if T.kind=5 then min (Pro.sumS 0 (T.kids.map (capT f))+T.kids.length-1) 301
  else if T.kind=6 then Pro.sumS 0 (T.kids.map (capT f))
  else if T.kind=7 then min (Pro.repS (capT f T.kid) T.a T.b) 301
  else 1
theorem ZQ:∀ (zs:List Int) (t:Int),(∀ z∈zs,0≤z)→t≤301→t≤Pro.sumS t zs
 | [],t,_,_=>Int.le_refl t
 |z :: r,t,h,ht=>by
  have hz:=h z (List.mem_cons_self ..)
  have:=ZQ r (min (t+z) 301) (fun y hy=>h y (List.mem_cons_of_mem _ hy)) (by omega)
  show t≤Pro.sumS (min (t+z) 301) r
  omega
theorem VN {z t:Int}{r:List Int}(h:∀ y∈z :: r,0≤y)(hs:Pro.sumS t (z :: r)≤300):t+z≤300∧Pro.sumS t (z :: r)=Pro.sumS (t+z) r:=by
 have hz:=h z (List.mem_cons_self ..)
 have h2:=ZQ r (min (t+z) 301) (fun y hy=>h y (List.mem_cons_of_mem _ hy)) (by omega)
 have e:Pro.sumS t (z :: r)=Pro.sumS (min (t+z) 301) r:=rfl
 have h3:t+z≤300:=by omega
 refine ⟨h3,?_⟩
 rw [e,show min (t+z) 301=t+z by omega]
theorem Q3:∀ (zs:List Int) (t:Int),(∀ z∈zs,0≤z)→0≤t→t≤301→Pro.sumS t zs≤300→Pro.sumS t zs=t+zs.sum
 | [],t,_,_,_,_=>by simp [Pro.sumS]
 |z :: r,t,h,h0,ht,hs=>by
  obtain ⟨h1,h2⟩:=VN h hs
  have hz:=h z (List.mem_cons_self ..)
  rw [h2] at hs ⊢
  rw [Q3 r (t+z) (fun y hy=>h y (List.mem_cons_of_mem _ hy)) (by omega) (by omega) hs]
  simp only [List.sum_cons];omega
theorem WF.up:∀ {f g:Nat} {T:Tree},WF f T→f≤g→WF g T
 |0,_,_,h,_=>h.elim
 |f+1,0,_,_,h=>by omega
 |f+1,g+1,T,h,hfg=>⟨h.1,fun hk t ht=>WF.up (h.2.1 hk t ht) (by omega),fun hk=>⟨WF.up (h.2.2 hk).1 (by omega),(h.2.2 hk).2⟩⟩
theorem ZR:∀ {f:Nat} {T:Tree},WF f T→0≤capT f T
 |0,_,h=>h.elim
 |f+1,T,h=>by
  unfold capT
  have key:T.kind=5∨T.kind=6→∀ z∈T.kids.map (capT f),0≤z:=fun hk z hz=>by
   obtain ⟨t,ht,rfl⟩:=List.mem_map.1 hz
   exact ZR (h.2.1 hk t ht)
  split
  ·rename_i hk
   have:=ZQ (T.kids.map (capT f)) 0 (key (.inl hk)) (by omega)
   have:T.kids.length≠0:=fun e=>h.1 hk (List.eq_nil_of_length_eq_zero e)
   omega
  ·split
   ·rename_i hk
    exact ZQ (T.kids.map (capT f)) 0 (key (.inr hk)) (by omega)
   ·split
    ·rename_i hk
     have:=Pro.ZO (ZR (h.2.2 hk).1) (h.2.2 hk).2.1 (h.2.2 hk).2.2
     omega
    ·omega
theorem X7:∀ {f g:Nat} {T:Tree},WF f T→f≤g→capT g T=capT f T
 |0,_,_,h,_=>h.elim
 |f+1,0,_,_,h=>by omega
 |f+1,g+1,T,h,hfg=>by
  unfold capT
  have key:T.kind=5∨T.kind=6→T.kids.map (capT g)=T.kids.map (capT f):=fun hk=>List.map_congr_left fun t ht=>X7 (h.2.1 hk t ht) (by omega)
  split
  ·rename_i hk;rw [key (.inl hk)]
  ·split
   ·rename_i hk;rw [key (.inr hk)]
   ·split
    ·rename_i hk;rw [X7 (h.2.2 hk).1 (by omega)]
    ·rfl
section
variable {B C:Tree→Nat→List Stp→Nat×List Stp}
end
theorem Kw {R R':Nat→Nat→Prop}(h:∀ i j,R i j↔R' i j):∀ (k i j:Nat),pow R k i j↔pow R' k i j:=by
 have:R=R':=by funext i j;exact propext (h i j)
 subst this;exact fun _ _ _=>Iff.rfl
theorem Zf {X X':Tree→Nat→Nat→Prop}:∀ (ts:List Tree),(∀ t∈ts,∀ i j,X t i j↔X' t i j)→∀ i j,jQ X ts i j↔jQ X' ts i j
 | [],_,_,_=>Iff.rfl
 |t :: ts,h,i,j=>by
  simp only [jQ]
  constructor
  ·rintro ⟨m,h1,h2⟩
   exact ⟨m,(h t (List.mem_cons_self ..) i m).1 h1,(Zf ts (fun y hy=>h y (List.mem_cons_of_mem _ hy)) m j).1 h2⟩
  ·rintro ⟨m,h1,h2⟩
   exact ⟨m,(h t (List.mem_cons_self ..) i m).2 h1,(Zf ts (fun y hy=>h y (List.mem_cons_of_mem _ hy)) m j).2 h2⟩
theorem M_up {lf:Tree→Nat→Prop}{ah:Int→Nat→Prop}:∀ {f g:Nat} {T:Tree},WF f T→f≤g→∀ i j,M lf ah g T i j↔M lf ah f T i j
 |0,_,_,h,_=>h.elim
 |f+1,0,_,_,h=>by omega
 |f+1,g+1,T,h,hfg=>by
  intro i j
  unfold M
  have key:T.kind=5∨T.kind=6→∀ t∈T.kids,∀ i j,M lf ah g t i j↔M lf ah f t i j:=fun hk t ht=>M_up (h.2.1 hk t ht) (by omega)
  split
  ·exact Iff.rfl
  ·split
   ·rename_i hk
    exact ⟨fun ⟨t,ht,hm⟩=>⟨t,ht,(key (.inl hk) t ht i j).1 hm⟩,fun ⟨t,ht,hm⟩=>⟨t,ht,(key (.inl hk) t ht i j).2 hm⟩⟩
   ·split
    ·rename_i hk
     exact Zf _ (key (.inr hk)) i j
    ·split
     ·rename_i hk
      have e:=M_up (lf:=lf) (ah:=ah) (h.2.2 hk).1 (show f≤g by omega)
      exact ⟨fun ⟨k,h1,h2,h3⟩=>⟨k,h1,h2,(Kw e k i j).1 h3⟩,fun ⟨k,h1,h2,h3⟩=>⟨k,h1,h2,(Kw e k i j).2 h3⟩⟩
     ·exact Iff.rfl
theorem M_any {lf:Tree→Nat→Prop}{ah:Int→Nat→Prop}{f g:Nat}{T:Tree}(hf:WF f T)(hg:WF g T)(i j:Nat):M lf ah g T i j↔M lf ah f T i j:=by
 by_cases h:f≤g
 ·exact M_up hf h i j
 ·exact (M_up hg (by omega) i j).symm
end Sm
theorem qj.leaf {w:World}{A:Nat→Prop}{v:Value}{t:Tree}(h:qj w A v t):t.kind≤4∧∃ T x,leafT T∧v = .iface T x:=by
 rcases h with ⟨c,rfl,rfl⟩ |⟨rfl,rfl⟩ |⟨c,rfl,rfl⟩ |⟨c,rfl,rfl⟩ |⟨neg,R,S,v1,v2,rfl,rfl,_⟩
 ·exact ⟨by simp [Pro.tAsr],_,_,.inl rfl,rfl⟩
 ·exact ⟨by simp [Pro.tAny],_,_,.inr (.inl rfl),rfl⟩
 ·exact ⟨by simp [Pro.xL],_,_,.inr (.inr (.inl rfl)),rfl⟩
 ·exact ⟨by simp [Pro.xi],_,_,.inr (.inr (.inr (.inl rfl))),rfl⟩
 ·exact ⟨by simp [Pro.tCls],_,_,.inr (.inr (.inr (.inr rfl))),rfl⟩
theorem Kx {α β:Type}{xs:List α}{ts:List β}(h:ts.length=xs.length){j:Nat}{t:β}(ht:ts[j]?=some t):∃ x,xs[j]?=some x:=by
 have:=(List.getElem?_eq_some_iff.1 ht).1
 exact ⟨xs[j]'(by omega),List.getElem?_eq_getElem (by omega)⟩
theorem zu.wf {w:World}{A:Nat→Prop}:∀ {f:Nat} {v:Value} {t:Tree},zu f w A v t→Sm.WF f t
 |0,_,_,h=>h.elim
 |f+1,v,t,h=>by
  rcases h with h |⟨sv,xs,ts,rfl,_,_,_,hl,h4,h5⟩ |⟨sv,xs,ts,rfl,_,_,_,hl,h4⟩ |⟨p,l,m,t',rfl,_,h2,h3,h4,h5,h6,h7⟩
  ·have:=h.leaf.1
   exact ⟨fun e=>by omega,fun e=>by omega,fun e=>by omega⟩
  ·refine ⟨fun _ e=>?_,fun _ t ht=>?_,fun e=>absurd e (by simp [Pro.tAlt])⟩
   ·have:ts.length=0:=by have:ts=[]:=e;simp [this]
    omega
   ·obtain ⟨j,hj⟩:=jc (show t∈ts from ht)
    obtain ⟨x,hx⟩:=Kx hl hj
    exact zu.wf (h4 j x t hx hj)
  ·refine ⟨fun e=>absurd e (by simp [Pro.tSeq]),fun _ t ht=>?_,fun e=>absurd e (by simp [Pro.tSeq])⟩
   obtain ⟨j,hj⟩:=jc (show t∈ts from ht)
   obtain ⟨x,hx⟩:=Kx hl hj
   exact zu.wf (h4 j x t hx hj)
  ·refine ⟨fun e=>absurd e (by simp [Pro.tRep]),fun e=>absurd e (by simp [Pro.tRep]),fun _=>⟨?_,h3,h7⟩⟩
   exact zu.wf h2
theorem zu.size {w:World}{A:Nat→Prop}:∀ {f:Nat} {v:Value} {t:Tree},zu f w A v t→zQ f w A v (Sm.capT f t)
 |0,_,_,h=>h.elim
 |f+1,v,t,h=>by
  have key:∀ (xs:List Value) (ts:List Tree),ts.length=xs.length→(∀ (j:Nat) x t',xs[j]?=some x→ts[j]?=some t'→zu f w A x t')→∀ (j:Nat) x z',xs[j]?=some x→(ts.map (Sm.capT f))[j]?=some z'→zQ f w A x z':=by
   intro xs ts _ hh j x z' hx hz
   rw [List.getElem?_map] at hz
   cases ht:ts[j]? with
   |none=>rw [ht] at hz;cases hz
   |some t'=>rw [ht] at hz;cases hz;exact zu.size (hh j x t' hx ht)
  rcases h with h |⟨sv,xs,ts,rfl,h1,h2,h0,hl,h4,h5⟩ |⟨sv,xs,ts,rfl,h1,h2,h0,hl,h4⟩ |⟨p,l,m,t',rfl,h1,h2,h3,h4,h5,h6,h7⟩
  ·obtain ⟨hk,T,x,hT,hv⟩:=h.leaf
   refine .inl ⟨?_,T,x,hT,hv⟩
   unfold Sm.capT
   rw [if_neg (by omega),if_neg (by omega),if_neg (by omega)]
  ·refine .inr (.inl ⟨sv,xs,ts.map (Sm.capT f),h1,h2,h0,by simp [hl],key xs ts hl h4,h5,?_⟩)
   unfold Sm.capT
   rw [if_pos (by rfl),←hl]
   rfl
  ·refine .inr (.inr (.inl ⟨sv,xs,ts.map (Sm.capT f),h1,h2,h0,by simp [hl],key xs ts hl h4,?_⟩))
   unfold Sm.capT
   rw [if_neg (by simp [Pro.tSeq]),if_pos (by rfl)]
   rfl
  ·refine .inr (.inr (.inr ⟨p,l,m,Sm.capT f t',h1,zu.size h2,h3,h4,h5,h6,h7,?_⟩))
   conv=>lhs;unfold Sm.capT
   rw [if_neg (by simp [Pro.tRep]),if_neg (by simp [Pro.tRep]),if_pos (by rfl)]
   rfl
namespace Sm
section
variable {B:Tree→Nat→List Stp→Nat×List Stp}
def Len (B:Tree→Nat→List Stp→Nat×List Stp)(t:Tree)(z:Int):Prop:=∀ nx S,((B t nx S).2.length:Int)≤S.length+z
theorem ZB {nx:Nat}{z:Tree→Int}:∀ (ts:List Tree) (b:Nat) (S:List Stp),(∀ t∈ts,Len B t (z t))→((yt B nx ts b S).2.length:Int)≤S.length+(ts.map z).sum+ts.length
 | [],_,_,_=>by simp [yt]
 |t :: ts,b,S,h=>by
  have h1:=h t (List.mem_cons_self ..) nx S
  have h2:=ZB (nx:=nx) ts (B t nx S).2.length ((B t nx S).2++[zt b (B t nx S).1]) (fun y hy=>h y (List.mem_cons_of_mem _ hy))
  simp only [yt,List.map_cons,List.sum_cons,List.length_cons,List.length_append,List.length_nil] at h2 ⊢
  omega
theorem Q4 {z:Tree→Int}:∀ (ts:List Tree) (b:Nat) (S:List Stp),(∀ t∈ts,Len B t (z t))→((bSeq B ts b S).2.length:Int)≤S.length+(ts.map z).sum
 | [],_,_,_=>by simp [bSeq]
 |t :: ts,b,S,h=>by
  have h1:=h t (List.mem_cons_self ..) b S
  have h2:=Q4 ts (B t b S).1 (B t b S).2 (fun y hy=>h y (List.mem_cons_of_mem _ hy))
  simp only [bSeq,List.map_cons,List.sum_cons] at h2 ⊢
  omega
theorem Q5 {t:Tree}{nx:Nat}{z:Int}:∀ (k b:Nat) (S:List Stp),(k≠0→Len B t z)→((bOpt B t nx k b S).2.length:Int)≤S.length+k*(z+1)
 |0,_,_,_=>by simp [bOpt]
 |k+1,b,S,h=>by
  have hh:=h (by omega)
  have h1:=hh b S
  have h2:=Q5 (nx:=nx) k (B t b S).2.length ((B t b S).2++[zt (B t b S).1 nx]) (fun _=>hh)
  have e:((k+1:Nat):Int)*(z+1)=k*(z+1)+(z+1):=by rw [show ((k+1:Nat):Int)=k+1 by omega,Int.add_mul,Int.one_mul]
  simp only [bOpt,List.length_append,List.length_cons,List.length_nil] at h2 ⊢
  omega
theorem vR {t:Tree}{z:Int}(hz:0≤z):∀ (k b:Nat) (S:List Stp),(k≠0→Len B t z)→((zX B t k b S).2.length:Int)≤S.length+k*z
 |0,_,_,_=>by simp [zX]
 |k+1,b,S,h=>by
  have hh:=h (by omega)
  have h1:=hh b S
  have e:((k+1:Nat):Int)*z=k*z+z:=by rw [show ((k+1:Nat):Int)=k+1 by omega,Int.add_mul,Int.one_mul]
  have h0:0≤(k:Int)*z:=Int.mul_nonneg (by omega) hz
  simp only [zX]
  split
  ·omega
  ·have h2:=vR hz k (B t b S).1 (B t b S).2 (fun _=>hh)
   omega
theorem VO {t:Tree}{nx:Nat}{z:Int}(h:Len B t z)(S:List Stp):((yU B t nx S).2.length:Int)≤S.length+z+1:=by
 have h1:=h S.length (S++[zt 0 nx])
 simp only [yU,List.length_set,List.length_append,List.length_cons,List.length_nil] at h1 ⊢
 omega
end
theorem sum_ge:∀ {zs:List Int},(∀ z∈zs,0≤z)→0≤zs.sum
 | [],_=>by simp
 |z :: r,h=>by
  have h1:=h z (List.mem_cons_self ..)
  have:=sum_ge (zs:=r) (fun y hy=>h y (List.mem_cons_of_mem _ hy))
  simp only [List.sum_cons];omega
theorem Ky:∀ {zs:List Int},(∀ z∈zs,0≤z)→∀ y∈zs,y≤zs.sum
 | [],_,y,hy=>by cases hy
 |z :: r,h,y,hy=>by
  have hr:∀ y∈r,0≤y:=fun y hy=>h y (List.mem_cons_of_mem _ hy)
  have h1:=h z (List.mem_cons_self ..)
  have h2:=sum_ge hr
  simp only [List.sum_cons]
  rcases List.mem_cons.1 hy with rfl |hy
  ·omega
  ·have:=Ky hr y hy;omega
theorem ZS:∀ {f:Nat} {T:Tree},WF f T→capT f T≤300→Len (bld f) T (capT f T)
 |0,_,h,_=>h.elim
 |f+1,T,h,hc=>by
  intro nx S
  have key:T.kind=5∨T.kind=6→∀ z∈T.kids.map (capT f),0≤z:=fun hk z hz=>by
   obtain ⟨t,ht,rfl⟩:=List.mem_map.1 hz
   exact ZR (h.2.1 hk t ht)
  have kids:(T.kind=5∨T.kind=6)→Pro.sumS 0 (T.kids.map (capT f))≤300→Pro.sumS 0 (T.kids.map (capT f))=(T.kids.map (capT f)).sum∧∀ t∈T.kids,Len (bld f) t (capT f t):=by
   intro hk hs
   have e:=Q3 _ 0 (key hk) (by omega) (by omega) hs
   rw [Int.zero_add] at e
   refine ⟨e,fun t ht=>ZS (h.2.1 hk t ht) ?_⟩
   have:=Ky (key hk) _ (List.mem_map_of_mem (f:=capT f) ht)
   omega
  unfold bld
  by_cases h0:T.kind=0
  ·rw [if_pos h0]
   have e:capT (f+1) T=1:=by unfold capT;rw [if_neg (by omega),if_neg (by omega),if_neg (by omega)]
   rw [e];simp
  ·rw [if_neg h0]
   by_cases h5:T.kind=5
   ·rw [if_pos h5]
    have e:capT (f+1) T=min (Pro.sumS 0 (T.kids.map (capT f))+T.kids.length-1) 301:=by conv=>lhs;unfold capT;rw [if_pos h5]
    have hne:=h.1 h5
    cases hk:T.kids with
    |nil=>exact absurd hk hne
    |cons t ts=>
     have hlen:T.kids.length=ts.length+1:=by rw [hk];rfl
     obtain ⟨e1,e2⟩:=kids (.inl h5) (by omega)
     rw [hk] at e1 e2
     have l1:=e2 t (List.mem_cons_self ..) nx S
     have l2:=ZB (nx:=nx) (z:=capT f) ts (bld f t nx S).1 (bld f t nx S).2 (fun y hy=>e2 y (List.mem_cons_of_mem _ hy))
     rw [hk] at e
     simp only [List.map_cons,List.sum_cons,List.length_cons] at e1 e
     simp only
     omega
   ·rw [if_neg h5]
    by_cases h6:T.kind=6
    ·rw [if_pos h6]
     have e:capT (f+1) T=Pro.sumS 0 (T.kids.map (capT f)):=by conv=>lhs;unfold capT;rw [if_neg h5,if_pos h6]
     obtain ⟨e1,e2⟩:=kids (.inr h6) (by omega)
     have l2:=Q4 (z:=capT f) T.kids.reverse nx S (fun y hy=>e2 y (List.mem_reverse.1 hy))
     rw [List.map_reverse,List.sum_reverse] at l2
     omega
    ·rw [if_neg h6]
     by_cases h7:T.kind=7
     ·rw [if_pos h7]
      have e:capT (f+1) T=min (Pro.repS (capT f T.kid) T.a T.b) 301:=by conv=>lhs;unfold capT;rw [if_neg h5,if_neg h6,if_pos h7]
      obtain ⟨hw,ha,hb⟩:=h.2.2 h7
      have hz:=ZR hw
      have he:=hc
      rw [e] at he ⊢
      have hr:min (Pro.repS (capT f T.kid) T.a T.b) 301=Pro.repS (capT f T.kid) T.a T.b:=by omega
      rw [hr] at he ⊢
      unfold Pro.repS at he ⊢
      generalize hzz:capT f T.kid=z at *
      by_cases hb1:T.b = -1
      ·rw [if_pos hb1] at he ⊢
       rw [if_pos hb1]
       have hz3:z≤300:=by
        have:1*z≤max T.a 1*z:=Int.mul_le_mul_of_nonneg_right (by omega) hz
        omega
       have hL:Len (bld f) T.kid z:=by rw [←hzz];exact ZS hw (by omega)
       have l1:=VO (nx:=nx) hL S
       by_cases ha0:T.a=0
       ·rw [if_pos ha0,ha0]
        rw [show max (0:Int) 1=1 by omega,Int.one_mul]
        simp only
        omega
       ·rw [if_neg ha0]
        have l2:=vR hz (T.a-1).toNat (yU (bld f) T.kid nx S).1 (yU (bld f) T.kid nx S).2 (fun _=>hL)
        rw [show ((T.a-1).toNat:Int)=T.a-1 by omega,Int.sub_mul,Int.one_mul] at l2
        rw [show max T.a 1=T.a by omega]
        omega
      ·rw [if_neg hb1] at he ⊢
       rw [if_neg hb1]
       have hab:T.a≤T.b:=by omega
       have p1:0≤T.a*z:=Int.mul_nonneg ha hz
       have p2:0≤(T.b-T.a)*(z+1):=Int.mul_nonneg (by omega) (by omega)
       have hL:0<T.b→Len (bld f) T.kid z:=fun hp=>by
        have hz3:z≤300:=by
         by_cases hl:T.a=0
         ·have:1*(z+1)≤(T.b-T.a)*(z+1):=Int.mul_le_mul_of_nonneg_right (by omega) (by omega)
          omega
         ·have:1*z≤T.a*z:=Int.mul_le_mul_of_nonneg_right (by omega) hz
          omega
        rw [←hzz];exact ZS hw (by omega)
       have l1:=Q5 (nx:=nx) (z:=z) (T.b-T.a).toNat nx S (fun hk=>hL (by omega))
       have l2:=vR hz T.a.toNat (bOpt (bld f) T.kid nx (T.b-T.a).toNat nx S).1 (bOpt (bld f) T.kid nx (T.b-T.a).toNat nx S).2 (fun hk=>hL (by omega))
       rw [show ((T.b-T.a).toNat:Int)=T.b-T.a by omega] at l1
       rw [show (T.a.toNat:Int)=T.a by omega] at l2
       omega
     ·rw [if_neg h7]
      have e:capT (f+1) T=1:=by unfold capT;rw [if_neg h5,if_neg h6,if_neg h7]
      rw [e];simp
end Sm
namespace Sm
def Adds (B:Tree→Nat→List Stp→Nat×List Stp):Prop:=∀ t nx S,S.length≤(B t nx S).2.length
theorem ja {B:Tree→Nat→List Stp→Nat×List Stp}(hB:Adds B){nx:Nat}:∀ (ts:List Tree) (b:Nat) (S:List Stp),S.length≤(yt B nx ts b S).2.length
 | [],_,_=>Nat.le_refl _
 |t :: ts,b,S=>by
  have h1:=hB t nx S
  have h2:=ja hB (nx:=nx) ts (B t nx S).2.length ((B t nx S).2++[zt b (B t nx S).1])
  simp only [List.length_append,List.length_singleton] at h2
  show _≤(yt B nx ts (B t nx S).2.length ((B t nx S).2++[zt b (B t nx S).1])).2.length
  omega
theorem Zg {B:Tree→Nat→List Stp→Nat×List Stp}(hB:Adds B):∀ (ts:List Tree) (b:Nat) (S:List Stp),S.length≤(bSeq B ts b S).2.length
 | [],_,_=>Nat.le_refl _
 |t :: ts,b,S=>Nat.le_trans (hB t b S) (Zg hB ts (B t b S).1 (B t b S).2)
theorem vk {B:Tree→Nat→List Stp→Nat×List Stp}(hB:Adds B){t:Tree}{nx:Nat}:∀ (k b:Nat) (S:List Stp),S.length≤(bOpt B t nx k b S).2.length
 |0,_,_=>Nat.le_refl _
 |k+1,b,S=>by
  have h1:=hB t b S
  have h2:=vk hB (t:=t) (nx:=nx) k (B t b S).2.length ((B t b S).2++[zt (B t b S).1 nx])
  simp only [List.length_append,List.length_singleton] at h2
  show _≤(bOpt B t nx k (B t b S).2.length ((B t b S).2++[zt (B t b S).1 nx])).2.length
  omega
theorem xX {B:Tree→Nat→List Stp→Nat×List Stp}(hB:Adds B){t:Tree}:∀ (k b:Nat) (S:List Stp),S.length≤(zX B t k b S).2.length
 |0,_,_=>Nat.le_refl _
 |k+1,b,S=>by
  have h1:=hB t b S
  simp only [zX]
  split
  ·exact h1
  ·exact Nat.le_trans h1 (xX hB k (B t b S).1 (B t b S).2)
theorem kl {B:Tree→Nat→List Stp→Nat×List Stp}(hB:Adds B){t:Tree}{nx:Nat}(S:List Stp):S.length<(yU B t nx S).2.length:=by
 have h1:=hB t S.length (S++[zt 0 nx])
 simp only [List.length_append,List.length_singleton] at h1
 simp only [yU,List.length_set]
 omega
theorem yz:∀ f,Adds (bld f)
 |0,_,_,_=>Nat.le_refl _
 |f+1,T,nx,S=>by
  have ih:=yz f
  simp only [bld]
  split
  ·simp
  ·split
   ·split
    ·exact Nat.le_refl _
    ·rename_i t ts _
     exact Nat.le_trans (ih t nx S) (ja ih ts _ _)
   ·split
    ·exact Zg ih _ _ _
    ·split
     ·split
      ·split
       ·exact Nat.le_of_lt (kl ih S)
       ·exact Nat.le_trans (Nat.le_of_lt (kl ih (t:=T.kid) (nx:=nx) S)) (xX ih _ _ _)
      ·exact Nat.le_trans (vk ih _ _ _) (xX ih _ _ _)
     ·simp
def Olds (B:Tree→Nat→List Stp→Nat×List Stp):Prop:=∀ t nx S k,k<S.length→(B t nx S).2[k]?=S[k]?
theorem ZC {B:Tree→Nat→List Stp→Nat×List Stp}(hA:Adds B)(hB:Olds B){nx:Nat}:∀ (ts:List Tree) (b:Nat) (S:List Stp) (k:Nat),k<S.length→(yt B nx ts b S).2[k]?=S[k]?
 | [],_,_,_,_=>rfl
 |t :: ts,b,S,k,hk=>by
  have h1:=hA t nx S
  show (yt B nx ts (B t nx S).2.length ((B t nx S).2++[zt b (B t nx S).1])).2[k]?=_
  rw [ZC hA hB ts _ _ k (by simp;omega),List.getElem?_append_left (by omega),hB t nx S k hk]
theorem Q6 {B:Tree→Nat→List Stp→Nat×List Stp}(hA:Adds B)(hB:Olds B):∀ (ts:List Tree) (b:Nat) (S:List Stp) (k:Nat),k<S.length→(bSeq B ts b S).2[k]?=S[k]?
 | [],_,_,_,_=>rfl
 |t :: ts,b,S,k,hk=>by
  show (bSeq B ts (B t b S).1 (B t b S).2).2[k]?=_
  rw [Q6 hA hB ts _ _ k (Nat.lt_of_lt_of_le hk (hA t b S)),hB t b S k hk]
theorem Q7 {B:Tree→Nat→List Stp→Nat×List Stp}(hA:Adds B)(hB:Olds B){t:Tree}{nx:Nat}:∀ (m b:Nat) (S:List Stp) (k:Nat),k<S.length→(bOpt B t nx m b S).2[k]?=S[k]?
 |0,_,_,_,_=>rfl
 |m+1,b,S,k,hk=>by
  have h1:=hA t b S
  show (bOpt B t nx m (B t b S).2.length ((B t b S).2++[zt (B t b S).1 nx])).2[k]?=_
  rw [Q7 hA hB m _ _ k (by simp;omega),List.getElem?_append_left (by omega),hB t b S k hk]
theorem vS {B:Tree→Nat→List Stp→Nat×List Stp}(hA:Adds B)(hB:Olds B){t:Tree}:∀ (m b:Nat) (S:List Stp) (k:Nat),k<S.length→(zX B t m b S).2[k]?=S[k]?
 |0,_,_,_,_=>rfl
 |m+1,b,S,k,hk=>by
  simp only [zX]
  split
  ·exact hB t b S k hk
  ·rw [vS hA hB m _ _ k (Nat.lt_of_lt_of_le hk (hA t b S)),hB t b S k hk]
theorem Xe {B:Tree→Nat→List Stp→Nat×List Stp}(_hA:Adds B)(hB:Olds B){t:Tree}{nx:Nat}(S:List Stp)(k:Nat)(hk:k<S.length):(yU B t nx S).2[k]?=S[k]?:=by
 simp only [yU]
 rw [List.getElem?_set_ne (by omega),hB t _ _ k (by simp;omega),List.getElem?_append_left hk]
theorem Kz:∀ f,Olds (bld f)
 |0,_,_,_,_,_=>rfl
 |f+1,T,nx,S,k,hk=>by
  have ih:=Kz f
  have ia:=yz f
  simp only [bld]
  split
  ·exact List.getElem?_append_left hk
  ·split
   ·split
    ·rfl
    ·rename_i t ts _
     rw [ZC ia ih ts _ _ k (Nat.lt_of_lt_of_le hk (ia t nx S)),ih t nx S k hk]
   ·split
    ·exact Q6 ia ih _ _ _ k hk
    ·split
     ·split
      ·split
       ·exact Xe ia ih S k hk
       ·rw [vS ia ih _ _ _ k (Nat.lt_trans hk (kl ia S)),Xe ia ih S k hk]
      ·rw [vS ia ih _ _ _ k (Nat.lt_of_lt_of_le hk (vk ia _ _ _)),Q7 ia ih _ _ _ k hk]
     ·exact List.getElem?_append_left hk
def jq (B:Tree→Nat→List Stp→Nat×List Stp):Prop:=∀ t nx S,nx<S.length→(B t nx S).1<(B t nx S).2.length
theorem kU {B:Tree→Nat→List Stp→Nat×List Stp}(hA:Adds B)(_hB:jq B){nx:Nat}:∀ (ts:List Tree) (b:Nat) (S:List Stp),nx<S.length→b<S.length→(yt B nx ts b S).1<(yt B nx ts b S).2.length
 | [],_,_,_,hb=>hb
 |t :: ts,b,S,hn,hb=>by
  have h1:=hA t nx S
  exact kU hA _hB (nx:=nx) ts (B t nx S).2.length ((B t nx S).2++[zt b (B t nx S).1]) (by simp;omega) (by simp)
theorem ZD {B:Tree→Nat→List Stp→Nat×List Stp}(_hA:Adds B)(hB:jq B):∀ (ts:List Tree) (b:Nat) (S:List Stp),b<S.length→(bSeq B ts b S).1<(bSeq B ts b S).2.length
 | [],_,_,hb=>hb
 |t :: ts,b,S,hb=>ZD _hA hB ts (B t b S).1 (B t b S).2 (hB t b S hb)
theorem jH {B:Tree→Nat→List Stp→Nat×List Stp}(_hA:Adds B)(_hB:jq B){t:Tree}{nx:Nat}:∀ (k b:Nat) (S:List Stp),b<S.length→(bOpt B t nx k b S).1<(bOpt B t nx k b S).2.length
 |0,_,_,hb=>hb
 |k+1,b,S,hb=>jH _hA _hB k (B t b S).2.length ((B t b S).2++[zt (B t b S).1 nx]) (by simp)
theorem jP {B:Tree→Nat→List Stp→Nat×List Stp}(_hA:Adds B)(hB:jq B){t:Tree}:∀ (k b:Nat) (S:List Stp),b<S.length→(zX B t k b S).1<(zX B t k b S).2.length
 |0,_,_,hb=>hb
 |k+1,b,S,hb=>by
  have h1:=hB t b S hb
  simp only [zX]
  split
  ·exact h1
  ·exact jP _hA hB k (B t b S).1 (B t b S).2 h1
theorem wF {B:Tree→Nat→List Stp→Nat×List Stp}(_hA:Adds B)(hB:jq B){t:Tree}{nx:Nat}(S:List Stp):(yU B t nx S).1<(yU B t nx S).2.length:=by
 have h1:=hB t S.length (S++[zt 0 nx]) (by simp)
 simp only [yU,List.length_set]
 exact h1
theorem xw:∀ f,jq (bld f)
 |0,_,_,_,h=>h
 |f+1,T,nx,S,hn=>by
  have ih:=xw f
  have ia:=yz f
  simp only [bld]
  split
  ·simp
  ·split
   ·split
    ·exact hn
    ·rename_i t ts _
     have:=ia t nx S
     exact kU ia ih ts _ _ (by omega) (ih t nx S hn)
   ·split
    ·exact ZD ia ih _ _ _ hn
    ·split
     ·split
      ·split
       ·exact kl ia S
       ·exact jP ia ih _ _ _ (wF ia ih S)
      ·exact jP ia ih _ _ _ (jH ia ih _ _ _ hn)
     ·simp
end Sm
namespace Sm
def xU (S:List Stp):Prop:=∀ s∈S,s.next<S.length∧s.other<S.length
theorem xU.snoc {S:List Stp}{x:Stp}(h:xU S)(h1:x.next<S.length+1)(h2:x.other<S.length+1):xU (S++[x]):=fun s hs=>by
 simp only [List.length_append,List.length_singleton]
 rcases List.mem_append.1 hs with hs |hs
 ·have:=h s hs;omega
 ·obtain rfl:=List.mem_singleton.1 hs;exact ⟨h1,h2⟩
def Fits (B:Tree→Nat→List Stp→Nat×List Stp):Prop:=∀ t nx S,nx<S.length→xU S→xU (B t nx S).2
theorem wG {B:Tree→Nat→List Stp→Nat×List Stp}(hA:Adds B)(hB:jq B)(hF:Fits B){nx:Nat}:∀ (ts:List Tree) (b:Nat) (S:List Stp),nx<S.length→b<S.length→xU S→xU (yt B nx ts b S).2
 | [],_,_,_,_,h=>h
 |t :: ts,b,S,hn,hb,h=>by
  have h1:=hA t nx S
  have h2:=hB t nx S hn
  exact wG hA hB hF (nx:=nx) ts (B t nx S).2.length ((B t nx S).2++[zt b (B t nx S).1]) (by simp;omega) (by simp) ((hF t nx S hn h).snoc (by simp only [zt];omega) (by simp only [zt];omega))
theorem Xf {B:Tree→Nat→List Stp→Nat×List Stp}(_hA:Adds B)(hB:jq B)(hF:Fits B):∀ (ts:List Tree) (b:Nat) (S:List Stp),b<S.length→xU S→xU (bSeq B ts b S).2
 | [],_,_,_,h=>h
 |t :: ts,b,S,hb,h=>Xf _hA hB hF ts (B t b S).1 (B t b S).2 (hB t b S hb) (hF t b S hb h)
theorem Xg {B:Tree→Nat→List Stp→Nat×List Stp}(hA:Adds B)(hB:jq B)(hF:Fits B){t:Tree}{nx:Nat}:∀ (k b:Nat) (S:List Stp),nx<S.length→b<S.length→xU S→xU (bOpt B t nx k b S).2
 |0,_,_,_,_,h=>h
 |k+1,b,S,hn,hb,h=>by
  have h1:=hA t b S
  have h2:=hB t b S hb
  exact Xg hA hB hF k (B t b S).2.length ((B t b S).2++[zt (B t b S).1 nx]) (by simp;omega) (by simp) ((hF t b S hb h).snoc (by simp only [zt];omega) (by simp only [zt];omega))
theorem kV {B:Tree→Nat→List Stp→Nat×List Stp}(_hA:Adds B)(hB:jq B)(hF:Fits B){t:Tree}:∀ (k b:Nat) (S:List Stp),b<S.length→xU S→xU (zX B t k b S).2
 |0,_,_,_,h=>h
 |k+1,b,S,hb,h=>by
  have h1:=hB t b S hb
  have h2:=hF t b S hb h
  simp only [zX]
  split
  ·exact h2
  ·exact kV _hA hB hF k (B t b S).1 (B t b S).2 h1 h2
theorem Yx {B:Tree→Nat→List Stp→Nat×List Stp}(hA:Adds B)(hB:jq B)(hF:Fits B){t:Tree}{nx:Nat}(S:List Stp)(hn:nx<S.length)(h:xU S):xU (yU B t nx S).2:=by
 have h1:=hB t S.length (S++[zt 0 nx]) (by simp)
 have h2:=hF t S.length (S++[zt 0 nx]) (by simp) (h.snoc (by simp [zt]) (by simp only [zt];omega))
 have h3:=hA t S.length (S++[zt 0 nx])
 simp only [List.length_append,List.length_singleton] at h3
 intro s hs
 simp only [yU,List.length_set] at hs ⊢
 rcases List.mem_or_eq_of_mem_set hs with hs |rfl
 ·exact h2 s hs
 ·exact ⟨h1,show nx<_ by omega⟩
theorem Q8:∀ f,Fits (bld f)
 |0,_,_,_,_,h=>h
 |f+1,T,nx,S,hn,h=>by
  have ih:=Q8 f
  have is:=xw f
  have ia:=yz f
  simp only [bld]
  split
  ·exact h.snoc (by simp only [tester];omega) (by simp [tester])
  ·split
   ·split
    ·exact h
    ·rename_i t ts _
     have:=ia t nx S
     exact wG ia is ih ts _ _ (by omega) (is t nx S hn) (ih t nx S hn h)
   ·split
    ·exact Xf ia is ih _ _ _ hn h
    ·split
     ·split
      ·split
       ·exact Yx ia is ih S hn h
       ·exact kV ia is ih _ _ _ (wF ia is S) (Yx ia is ih S hn h)
      ·exact kV ia is ih _ _ _ (jH ia is _ _ _ hn) (Xg ia is ih _ _ _ hn hn h)
     ·exact h.snoc (by simp only [taker];omega) (by simp [taker])
end Sm
end
end Go.Proofs.YtfnkbmglodopkaaGreatDoor
