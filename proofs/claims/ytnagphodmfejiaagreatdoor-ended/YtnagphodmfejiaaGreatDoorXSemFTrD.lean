/- A program has no more steps than its tree's size. -/
import Derived.Test.YtnagphodmfejiaaGreatDoorXProRSemE
namespace Go.Proofs.YtnagphodmfejiaaGreatDoor
section
open Sm (Tree Stp)
namespace Sm
section
variable {B:Tree→Nat→List Stp→Nat×List Stp}
def Len (B:Tree→Nat→List Stp→Nat×List Stp)(t:Tree)(z:Int):Prop:=∀ nx S,((B t nx S).2.length:Int)≤S.length+z
theorem YQ {nx:Nat}{z:Tree→Int}:∀ (ts:List Tree) (b:Nat) (S:List Stp),(∀ t∈ts,Len B t (z t))→((yE B nx ts b S).2.length:Int)≤S.length+(ts.map z).sum+ts.length
 | [],_,_,_=>by simp [yE]
 |t :: ts,b,S,h=>by
  have h1:=h t (List.mem_cons_self ..) nx S
  have h2:=YQ (nx:=nx) ts (B t nx S).2.length ((B t nx S).2++[zA b (B t nx S).1]) (fun y hy=>h y (List.mem_cons_of_mem _ hy))
  simp only [yE,List.map_cons,List.sum_cons,List.length_cons,List.length_append,List.length_nil] at h2 ⊢
  omega
theorem Vt {z:Tree→Int}:∀ (ts:List Tree) (b:Nat) (S:List Stp),(∀ t∈ts,Len B t (z t))→((bSeq B ts b S).2.length:Int)≤S.length+(ts.map z).sum
 | [],_,_,_=>by simp [bSeq]
 |t :: ts,b,S,h=>by
  have h1:=h t (List.mem_cons_self ..) b S
  have h2:=Vt ts (B t b S).1 (B t b S).2 (fun y hy=>h y (List.mem_cons_of_mem _ hy))
  simp only [bSeq,List.map_cons,List.sum_cons] at h2 ⊢
  omega
theorem Vu {t:Tree}{nx:Nat}{z:Int}:∀ (k b:Nat) (S:List Stp),(k≠0→Len B t z)→((bOpt B t nx k b S).2.length:Int)≤S.length+k*(z+1)
 |0,_,_,_=>by simp [bOpt]
 |k+1,b,S,h=>by
  have hh:=h (by omega)
  have h1:=hh b S
  have h2:=Vu (nx:=nx) k (B t b S).2.length ((B t b S).2++[zA (B t b S).1 nx]) (fun _=>hh)
  have e:((k+1:Nat):Int)*(z+1)=k*(z+1)+(z+1):=by rw [show ((k+1:Nat):Int)=k+1 by omega,Int.add_mul,Int.one_mul]
  simp only [bOpt,List.length_append,List.length_cons,List.length_nil] at h2 ⊢
  omega
theorem Zt {t:Tree}{z:Int}(hz:0≤z):∀ (k b:Nat) (S:List Stp),(k≠0→Len B t z)→((ym B t k b S).2.length:Int)≤S.length+k*z
 |0,_,_,_=>by simp [ym]
 |k+1,b,S,h=>by
  have hh:=h (by omega)
  have h1:=hh b S
  have e:((k+1:Nat):Int)*z=k*z+z:=by rw [show ((k+1:Nat):Int)=k+1 by omega,Int.add_mul,Int.one_mul]
  have h0:0≤(k:Int)*z:=Int.mul_nonneg (by omega) hz
  simp only [ym]
  split
  ·omega
  ·have h2:=Zt hz k (B t b S).1 (B t b S).2 (fun _=>hh)
   omega
theorem zbP {t:Tree}{nx:Nat}{z:Int}(h:Len B t z)(S:List Stp):((xf B t nx S).2.length:Int)≤S.length+z+1:=by
 have h1:=h S.length (S++[zA 0 nx])
 simp only [xf,List.length_set,List.length_append,List.length_cons,List.length_nil] at h1 ⊢
 omega
end
theorem sum_ge:∀ {zs:List Int},(∀ z∈zs,0≤z)→0≤zs.sum
 | [],_=>by simp
 |z :: r,h=>by
  have h1:=h z (List.mem_cons_self ..)
  have:=sum_ge (zs:=r) (fun y hy=>h y (List.mem_cons_of_mem _ hy))
  simp only [List.sum_cons];omega
theorem zav:∀ {zs:List Int},(∀ z∈zs,0≤z)→∀ y∈zs,y≤zs.sum
 | [],_,y,hy=>by cases hy
 |z :: r,h,y,hy=>by
  have hr:∀ y∈r,0≤y:=fun y hy=>h y (List.mem_cons_of_mem _ hy)
  have h1:=h z (List.mem_cons_self ..)
  have h2:=sum_ge hr
  simp only [List.sum_cons]
  rcases List.mem_cons.1 hy with rfl |hy
  ·omega
  ·have:=zav hr y hy;omega
theorem Xc:∀ {f:Nat}{T:Tree},WF f T→capT f T≤300→Len (bld f) T (capT f T)
 |0,_,h,_=>h.elim
 |f+1,T,h,hc=>by
  intro nx S
  have key:T.kind=5∨T.kind=6→∀ z∈T.kids.map (capT f),0≤z:=fun hk z hz=>by
   obtain ⟨t,ht,rfl⟩:=List.mem_map.1 hz
   exact Xa (h.2.1 hk t ht)
  have kids:(T.kind=5∨T.kind=6)→Pro.sumS 0 (T.kids.map (capT f))≤300→Pro.sumS 0 (T.kids.map (capT f))=(T.kids.map (capT f)).sum∧∀ t∈T.kids,Len (bld f) t (capT f t):=by
   intro hk hs
   have e:=Va _ 0 (key hk) (by omega) (by omega) hs
   rw [Int.zero_add] at e
   refine ⟨e,fun t ht=>Xc (h.2.1 hk t ht) ?_⟩
   have:=zav (key hk) _ (List.mem_map_of_mem (f:=capT f) ht)
   omega
  unfold bld
  by_cases h0:T.kind=0
  ·rw [if_pos h0]
   have e:capT (f+1) T=1:=by unfold capT;rw [if_neg (by omega),if_neg (by omega),if_neg (by omega)]
   rw [e];simp
  ·rw [if_neg h0]
   by_cases h5:T.kind=5
   ·rw [if_pos h5]
    have e:capT (f+1) T=min (Pro.sumS 0 (T.kids.map (capT f))+T.kids.length-1) 301:=by conv=>lhs;unfold capT;rw [if_pos h5]
    have hne:=h.1 h5
    cases hk:T.kids with
    |nil=>exact absurd hk hne
    |cons t ts=>
     have hlen:T.kids.length=ts.length+1:=by rw [hk];rfl
     obtain ⟨e1,e2⟩:=kids (.inl h5) (by omega)
     rw [hk] at e1 e2
     have l1:=e2 t (List.mem_cons_self ..) nx S
     have l2:=YQ (nx:=nx) (z:=capT f) ts (bld f t nx S).1 (bld f t nx S).2 (fun y hy=>e2 y (List.mem_cons_of_mem _ hy))
     rw [hk] at e
     simp only [List.map_cons,List.sum_cons,List.length_cons] at e1 e
     simp only
     omega
   ·rw [if_neg h5]
    by_cases h6:T.kind=6
    ·rw [if_pos h6]
     have e:capT (f+1) T=Pro.sumS 0 (T.kids.map (capT f)):=by conv=>lhs;unfold capT;rw [if_neg h5,if_pos h6]
     obtain ⟨e1,e2⟩:=kids (.inr h6) (by omega)
     have l2:=Vt (z:=capT f) T.kids.reverse nx S (fun y hy=>e2 y (List.mem_reverse.1 hy))
     rw [List.map_reverse,List.sum_reverse] at l2
     omega
    ·rw [if_neg h6]
     by_cases h7:T.kind=7
     ·rw [if_pos h7]
      have e:capT (f+1) T=min (Pro.repS (capT f T.kid) T.a T.b) 301:=by conv=>lhs;unfold capT;rw [if_neg h5,if_neg h6,if_pos h7]
      obtain ⟨hw,ha,hb⟩:=h.2.2 h7
      have hz:=Xa hw
      have he:=hc
      rw [e] at he ⊢
      have hr:min (Pro.repS (capT f T.kid) T.a T.b) 301=Pro.repS (capT f T.kid) T.a T.b:=by omega
      rw [hr] at he ⊢
      unfold Pro.repS at he ⊢
      generalize hzz:capT f T.kid=z at *
      by_cases hb1:T.b = -1
      ·rw [if_pos hb1] at he ⊢
       rw [if_pos hb1]
       have hz3:z≤300:=by
        have:1*z≤max T.a 1*z:=Int.mul_le_mul_of_nonneg_right (by omega) hz
        omega
       have hL:Len (bld f) T.kid z:=by rw [←hzz];exact Xc hw (by omega)
       have l1:=zbP (nx:=nx) hL S
       by_cases ha0:T.a=0
       ·rw [if_pos ha0,ha0]
        rw [show max (0:Int) 1=1 by omega,Int.one_mul]
        simp only
        omega
       ·rw [if_neg ha0]
        have l2:=Zt hz (T.a-1).toNat (xf (bld f) T.kid nx S).1 (xf (bld f) T.kid nx S).2 (fun _=>hL)
        rw [show ((T.a-1).toNat:Int)=T.a-1 by omega,Int.sub_mul,Int.one_mul] at l2
        rw [show max T.a 1=T.a by omega]
        omega
      ·rw [if_neg hb1] at he ⊢
       rw [if_neg hb1]
       have hab:T.a≤T.b:=by omega
       have p1:0≤T.a*z:=Int.mul_nonneg ha hz
       have p2:0≤(T.b-T.a)*(z+1):=Int.mul_nonneg (by omega) (by omega)
       have hL:0<T.b→Len (bld f) T.kid z:=fun hp=>by
        have hz3:z≤300:=by
         by_cases hl:T.a=0
         ·have:1*(z+1)≤(T.b-T.a)*(z+1):=Int.mul_le_mul_of_nonneg_right (by omega) (by omega)
          omega
         ·have:1*z≤T.a*z:=Int.mul_le_mul_of_nonneg_right (by omega) hz
          omega
        rw [←hzz];exact Xc hw (by omega)
       have l1:=Vu (nx:=nx) (z:=z) (T.b-T.a).toNat nx S (fun hk=>hL (by omega))
       have l2:=Zt hz T.a.toNat (bOpt (bld f) T.kid nx (T.b-T.a).toNat nx S).1 (bOpt (bld f) T.kid nx (T.b-T.a).toNat nx S).2 (fun hk=>hL (by omega))
       rw [show ((T.b-T.a).toNat:Int)=T.b-T.a by omega] at l1
       rw [show (T.a.toNat:Int)=T.a by omega] at l2
       omega
     ·rw [if_neg h7]
      have e:capT (f+1) T=1:=by unfold capT;rw [if_neg h5,if_neg h6,if_neg h7]
      rw [e];simp
end Sm
end
section
namespace Sm
def Adds (B:Tree→Nat→List Stp→Nat×List Stp):Prop:=∀ t nx S,S.length≤(B t nx S).2.length
theorem jM {B:Tree→Nat→List Stp→Nat×List Stp}(hB:Adds B){nx:Nat}:∀ (ts:List Tree) (b:Nat) (S:List Stp),S.length≤(yE B nx ts b S).2.length
 | [],_,_=>Nat.le_refl _
 |t :: ts,b,S=>by
  have h1:=hB t nx S
  have h2:=jM hB (nx:=nx) ts (B t nx S).2.length ((B t nx S).2++[zA b (B t nx S).1])
  simp only [List.length_append,List.length_singleton] at h2
  show _≤(yE B nx ts (B t nx S).2.length ((B t nx S).2++[zA b (B t nx S).1])).2.length
  omega
theorem Yv {B:Tree→Nat→List Stp→Nat×List Stp}(hB:Adds B):∀ (ts:List Tree) (b:Nat) (S:List Stp),S.length≤(bSeq B ts b S).2.length
 | [],_,_=>Nat.le_refl _
 |t :: ts,b,S=>Nat.le_trans (hB t b S) (Yv hB ts (B t b S).1 (B t b S).2)
theorem wO {B:Tree→Nat→List Stp→Nat×List Stp}(hB:Adds B){t:Tree}{nx:Nat}:∀ (k b:Nat) (S:List Stp),S.length≤(bOpt B t nx k b S).2.length
 |0,_,_=>Nat.le_refl _
 |k+1,b,S=>by
  have h1:=hB t b S
  have h2:=wO hB (t:=t) (nx:=nx) k (B t b S).2.length ((B t b S).2++[zA (B t b S).1 nx])
  simp only [List.length_append,List.length_singleton] at h2
  show _≤(bOpt B t nx k (B t b S).2.length ((B t b S).2++[zA (B t b S).1 nx])).2.length
  omega
theorem qQ {B:Tree→Nat→List Stp→Nat×List Stp}(hB:Adds B){t:Tree}:∀ (k b:Nat) (S:List Stp),S.length≤(ym B t k b S).2.length
 |0,_,_=>Nat.le_refl _
 |k+1,b,S=>by
  have h1:=hB t b S
  simp only [ym]
  split
  ·exact h1
  ·exact Nat.le_trans h1 (qQ hB k (B t b S).1 (B t b S).2)
theorem vp {B:Tree→Nat→List Stp→Nat×List Stp}(hB:Adds B){t:Tree}{nx:Nat}(S:List Stp):S.length<(xf B t nx S).2.length:=by
 have h1:=hB t S.length (S++[zA 0 nx])
 simp only [List.length_append,List.length_singleton] at h1
 simp only [xf,List.length_set]
 omega
theorem yN:∀ f,Adds (bld f)
 |0,_,_,_=>Nat.le_refl _
 |f+1,T,nx,S=>by
  have ih:=yN f
  simp only [bld]
  split
  ·simp
  ·split
   ·split
    ·exact Nat.le_refl _
    ·rename_i t ts _
     exact Nat.le_trans (ih t nx S) (jM ih ts _ _)
   ·split
    ·exact Yv ih _ _ _
    ·split
     ·split
      ·split
       ·exact Nat.le_of_lt (vp ih S)
       ·exact Nat.le_trans (Nat.le_of_lt (vp ih (t:=T.kid) (nx:=nx) S)) (qQ ih _ _ _)
      ·exact Nat.le_trans (wO ih _ _ _) (qQ ih _ _ _)
     ·simp
def Olds (B:Tree→Nat→List Stp→Nat×List Stp):Prop:=∀ t nx S k,k<S.length→(B t nx S).2[k]?=S[k]?
theorem YR {B:Tree→Nat→List Stp→Nat×List Stp}(hA:Adds B)(hB:Olds B){nx:Nat}:∀ (ts:List Tree) (b:Nat) (S:List Stp) (k:Nat),k<S.length→(yE B nx ts b S).2[k]?=S[k]?
 | [],_,_,_,_=>rfl
 |t :: ts,b,S,k,hk=>by
  have h1:=hA t nx S
  show (yE B nx ts (B t nx S).2.length ((B t nx S).2++[zA b (B t nx S).1])).2[k]?=_
  rw [YR hA hB ts _ _ k (by simp;omega),List.getElem?_append_left (by omega),hB t nx S k hk]
theorem Vv {B:Tree→Nat→List Stp→Nat×List Stp}(hA:Adds B)(hB:Olds B):∀ (ts:List Tree) (b:Nat) (S:List Stp) (k:Nat),k<S.length→(bSeq B ts b S).2[k]?=S[k]?
 | [],_,_,_,_=>rfl
 |t :: ts,b,S,k,hk=>by
  show (bSeq B ts (B t b S).1 (B t b S).2).2[k]?=_
  rw [Vv hA hB ts _ _ k (Nat.lt_of_lt_of_le hk (hA t b S)),hB t b S k hk]
theorem Vw {B:Tree→Nat→List Stp→Nat×List Stp}(hA:Adds B)(hB:Olds B){t:Tree}{nx:Nat}:∀ (m b:Nat) (S:List Stp) (k:Nat),k<S.length→(bOpt B t nx m b S).2[k]?=S[k]?
 |0,_,_,_,_=>rfl
 |m+1,b,S,k,hk=>by
  have h1:=hA t b S
  show (bOpt B t nx m (B t b S).2.length ((B t b S).2++[zA (B t b S).1 nx])).2[k]?=_
  rw [Vw hA hB m _ _ k (by simp;omega),List.getElem?_append_left (by omega),hB t b S k hk]
theorem Zu {B:Tree→Nat→List Stp→Nat×List Stp}(hA:Adds B)(hB:Olds B){t:Tree}:∀ (m b:Nat) (S:List Stp) (k:Nat),k<S.length→(ym B t m b S).2[k]?=S[k]?
 |0,_,_,_,_=>rfl
 |m+1,b,S,k,hk=>by
  simp only [ym]
  split
  ·exact hB t b S k hk
  ·rw [Zu hA hB m _ _ k (Nat.lt_of_lt_of_le hk (hA t b S)),hB t b S k hk]
theorem Jc {B:Tree→Nat→List Stp→Nat×List Stp}(_hA:Adds B)(hB:Olds B){t:Tree}{nx:Nat}(S:List Stp)(k:Nat)(hk:k<S.length):(xf B t nx S).2[k]?=S[k]?:=by
 simp only [xf]
 rw [List.getElem?_set_ne (by omega),hB t _ _ k (by simp;omega),List.getElem?_append_left hk]
theorem zaw:∀ f,Olds (bld f)
 |0,_,_,_,_,_=>rfl
 |f+1,T,nx,S,k,hk=>by
  have ih:=zaw f
  have ia:=yN f
  simp only [bld]
  split
  ·exact List.getElem?_append_left hk
  ·split
   ·split
    ·rfl
    ·rename_i t ts _
     rw [YR ia ih ts _ _ k (Nat.lt_of_lt_of_le hk (ia t nx S)),ih t nx S k hk]
   ·split
    ·exact Vv ia ih _ _ _ k hk
    ·split
     ·split
      ·split
       ·exact Jc ia ih S k hk
       ·rw [Zu ia ih _ _ _ k (Nat.lt_trans hk (vp ia S)),Jc ia ih S k hk]
      ·rw [Zu ia ih _ _ _ k (Nat.lt_of_lt_of_le hk (wO ia _ _ _)),Vw ia ih _ _ _ k hk]
     ·exact List.getElem?_append_left hk
def j5 (B:Tree→Nat→List Stp→Nat×List Stp):Prop:=∀ t nx S,nx<S.length→(B t nx S).1<(B t nx S).2.length
theorem wh {B:Tree→Nat→List Stp→Nat×List Stp}(hA:Adds B)(_hB:j5 B){nx:Nat}:∀ (ts:List Tree) (b:Nat) (S:List Stp),nx<S.length→b<S.length→(yE B nx ts b S).1<(yE B nx ts b S).2.length
 | [],_,_,_,hb=>hb
 |t :: ts,b,S,hn,hb=>by
  have h1:=hA t nx S
  exact wh hA _hB (nx:=nx) ts (B t nx S).2.length ((B t nx S).2++[zA b (B t nx S).1]) (by simp;omega) (by simp)
theorem YS {B:Tree→Nat→List Stp→Nat×List Stp}(_hA:Adds B)(hB:j5 B):∀ (ts:List Tree) (b:Nat) (S:List Stp),b<S.length→(bSeq B ts b S).1<(bSeq B ts b S).2.length
 | [],_,_,hb=>hb
 |t :: ts,b,S,hb=>YS _hA hB ts (B t b S).1 (B t b S).2 (hB t b S hb)
theorem ko {B:Tree→Nat→List Stp→Nat×List Stp}(_hA:Adds B)(_hB:j5 B){t:Tree}{nx:Nat}:∀ (k b:Nat) (S:List Stp),b<S.length→(bOpt B t nx k b S).1<(bOpt B t nx k b S).2.length
 |0,_,_,hb=>hb
 |k+1,b,S,hb=>ko _hA _hB k (B t b S).2.length ((B t b S).2++[zA (B t b S).1 nx]) (by simp)
theorem kv {B:Tree→Nat→List Stp→Nat×List Stp}(_hA:Adds B)(hB:j5 B){t:Tree}:∀ (k b:Nat) (S:List Stp),b<S.length→(ym B t k b S).1<(ym B t k b S).2.length
 |0,_,_,hb=>hb
 |k+1,b,S,hb=>by
  have h1:=hB t b S hb
  simp only [ym]
  split
  ·exact h1
  ·exact kv _hA hB k (B t b S).1 (B t b S).2 h1
theorem Z8 {B:Tree→Nat→List Stp→Nat×List Stp}(_hA:Adds B)(hB:j5 B){t:Tree}{nx:Nat}(S:List Stp):(xf B t nx S).1<(xf B t nx S).2.length:=by
 have h1:=hB t S.length (S++[zA 0 nx]) (by simp)
 simp only [xf,List.length_set]
 exact h1
theorem qi:∀ f,j5 (bld f)
 |0,_,_,_,h=>h
 |f+1,T,nx,S,hn=>by
  have ih:=qi f
  have ia:=yN f
  simp only [bld]
  split
  ·simp
  ·split
   ·split
    ·exact hn
    ·rename_i t ts _
     have:=ia t nx S
     exact wh ia ih ts _ _ (by omega) (ih t nx S hn)
   ·split
    ·exact YS ia ih _ _ _ hn
    ·split
     ·split
      ·split
       ·exact vp ia S
       ·exact kv ia ih _ _ _ (Z8 ia ih S)
      ·exact kv ia ih _ _ _ (ko ia ih _ _ _ hn)
     ·simp
end Sm
namespace Sm
def AllFit (S:List Stp):Prop:=∀ s∈S,s.next<S.length∧s.other<S.length
theorem AllFit.snoc {S:List Stp}{x:Stp}(h:AllFit S)(h1:x.next<S.length+1)(h2:x.other<S.length+1):AllFit (S++[x]):=fun s hs=>by
 simp only [List.length_append,List.length_singleton]
 rcases List.mem_append.1 hs with hs |hs
 ·have:=h s hs;omega
 ·obtain rfl:=List.mem_singleton.1 hs;exact ⟨h1,h2⟩
def Fits (B:Tree→Nat→List Stp→Nat×List Stp):Prop:=∀ t nx S,nx<S.length→AllFit S→AllFit (B t nx S).2
theorem Z9 {B:Tree→Nat→List Stp→Nat×List Stp}(hA:Adds B)(hB:j5 B)(hF:Fits B){nx:Nat}:∀ (ts:List Tree) (b:Nat) (S:List Stp),nx<S.length→b<S.length→AllFit S→AllFit (yE B nx ts b S).2
 | [],_,_,_,_,h=>h
 |t :: ts,b,S,hn,hb,h=>by
  have h1:=hA t nx S
  have h2:=hB t nx S hn
  exact Z9 hA hB hF (nx:=nx) ts (B t nx S).2.length ((B t nx S).2++[zA b (B t nx S).1]) (by simp;omega) (by simp) ((hF t nx S hn h).snoc (by simp only [zA];omega) (by simp only [zA];omega))
theorem Jd {B:Tree→Nat→List Stp→Nat×List Stp}(_hA:Adds B)(hB:j5 B)(hF:Fits B):∀ (ts:List Tree) (b:Nat) (S:List Stp),b<S.length→AllFit S→AllFit (bSeq B ts b S).2
 | [],_,_,_,h=>h
 |t :: ts,b,S,hb,h=>Jd _hA hB hF ts (B t b S).1 (B t b S).2 (hB t b S hb) (hF t b S hb h)
theorem Je {B:Tree→Nat→List Stp→Nat×List Stp}(hA:Adds B)(hB:j5 B)(hF:Fits B){t:Tree}{nx:Nat}:∀ (k b:Nat) (S:List Stp),nx<S.length→b<S.length→AllFit S→AllFit (bOpt B t nx k b S).2
 |0,_,_,_,_,h=>h
 |k+1,b,S,hn,hb,h=>by
  have h1:=hA t b S
  have h2:=hB t b S hb
  exact Je hA hB hF k (B t b S).2.length ((B t b S).2++[zA (B t b S).1 nx]) (by simp;omega) (by simp) ((hF t b S hb h).snoc (by simp only [zA];omega) (by simp only [zA];omega))
theorem wj {B:Tree→Nat→List Stp→Nat×List Stp}(_hA:Adds B)(hB:j5 B)(hF:Fits B){t:Tree}:∀ (k b:Nat) (S:List Stp),b<S.length→AllFit S→AllFit (ym B t k b S).2
 |0,_,_,_,h=>h
 |k+1,b,S,hb,h=>by
  have h1:=hB t b S hb
  have h2:=hF t b S hb h
  simp only [ym]
  split
  ·exact h2
  ·exact wj _hA hB hF k (B t b S).1 (B t b S).2 h1 h2
theorem Qf {B:Tree→Nat→List Stp→Nat×List Stp}(hA:Adds B)(hB:j5 B)(hF:Fits B){t:Tree}{nx:Nat}(S:List Stp)(hn:nx<S.length)(h:AllFit S):AllFit (xf B t nx S).2:=by
 have h1:=hB t S.length (S++[zA 0 nx]) (by simp)
 have h2:=hF t S.length (S++[zA 0 nx]) (by simp) (h.snoc (by simp [zA]) (by simp only [zA];omega))
 have h3:=hA t S.length (S++[zA 0 nx])
 simp only [List.length_append,List.length_singleton] at h3
 intro s hs
 simp only [xf,List.length_set] at hs ⊢
 rcases List.mem_or_eq_of_mem_set hs with hs |rfl
 ·exact h2 s hs
 ·exact ⟨h1,show nx<_ by omega⟩
theorem Vx:∀ f,Fits (bld f)
 |0,_,_,_,_,h=>h
 |f+1,T,nx,S,hn,h=>by
  have ih:=Vx f
  have is:=qi f
  have ia:=yN f
  simp only [bld]
  split
  ·exact h.snoc (by simp only [tester];omega) (by simp [tester])
  ·split
   ·split
    ·exact h
    ·rename_i t ts _
     have:=ia t nx S
     exact Z9 ia is ih ts _ _ (by omega) (is t nx S hn) (ih t nx S hn h)
   ·split
    ·exact Jd ia is ih _ _ _ hn h
    ·split
     ·split
      ·split
       ·exact Qf ia is ih S hn h
       ·exact wj ia is ih _ _ _ (Z8 ia is S) (Qf ia is ih S hn h)
      ·exact wj ia is ih _ _ _ (ko ia is _ _ _ hn) (Je ia is ih _ _ _ hn hn h)
     ·exact h.snoc (by simp only [taker];omega) (by simp [taker])
end Sm
end
section
open Sm (Tree)
namespace Pro
def nOK (v:Int):Prop:=-1≤v∧v≤1114111
def ShOK:Nat→Tree→Prop
 |0,_=>True
 |f+1,T=>(T.kind=2→nOK T.a)∧(T.kind=3→setB T.a=true)∧(T.kind=4→(∀ r∈T.rs,nOK r.1∧nOK r.2)∧∀ s∈T.ss,setB s=true)∧∀ t∈T.kids,ShOK f t
section
variable {L:List (Int×Int)} {len:Int}
theorem Vy (k:Nat)(p:Int)(n:Nat):nOK (bad k p n).v:=by unfold nOK bad;simp
theorem hex_v {f:Nat}(hf:f≤4)(n:Nat):0≤(hexO L len f 0 n).v∧(hexO L len f 0 n).v≤65535:=
 JR L len f 0 n (by omega) (by have:(0:Int)<16 ^ (4-f):=Int.pow_pos (by omega);omega) hf
theorem Jf:∀ (f:Nat)(c:Int)(d n:Nat),0≤c→c≤1114111→nOK (xe L len f c d n).v
 |0,c,d,n,h0,h1=>⟨by show -1≤c;omega,h1⟩
 |f+1,c,d,n,h0,h1=>by
  unfold xe
  split
  ·exact ⟨by show -1≤c;omega,h1⟩
  ·split
   ·exact Vy _ _ _
   ·exact Jf f _ _ _ (by omega) (by omega)
theorem WP (n:Nat):nOK (z8 L len n).v:=by
 have h1:=hex_v (L:=L) (len:=len) (f:=4) (by omega) n
 have e:nOK (hexO L len 4 0 n).v:=⟨by omega,by omega⟩
 unfold z8
 split
 ·exact e
 ·split
  ·rename_i h2 h3
   have h4:lowV L len (hexO L len 4 0 n).n≤57343∧(0≤lowV L len (hexO L len 4 0 n).n→56320≤lowV L len (hexO L len 4 0 n).n):=by
    unfold lowV
    split
    ·rename_i h5;exact ⟨h5.2.2.2.2,fun _=>h5.2.2.2.1⟩
    ·exact ⟨by omega,fun h=>by omega⟩
   unfold nOK good
   simp only
   omega
  ·exact e
theorem numO_v (hF:Fit L)(n:Nat):nOK (numO L len n).v:=by
 have hl:=hF n
 unfold numO
 split
 ·unfold nOK good jC ctlV
  simp only
  split
  ·split<;>(try split)<;>(try split)<;>(try split)<;>(try split)<;>omega
  ·omega
 ·split
  ·unfold jy;split
   ·exact Vy _ _ _
   ·unfold nOK good;simp
  ·split
   ·unfold xd;split
    ·unfold nOK good;simp only;omega
    ·exact Vy _ _ _
   ·split
    ·have:=hex_v (L:=L) (len:=len) (f:=2) (by omega) (n+1)
     exact ⟨by omega,by omega⟩
    ·split
     ·exact Jf _ _ _ _ (by omega) (by omega)
     ·split
      ·exact WP _
      ·exact Vy _ _ _
theorem escO_v (hF:Fit L)(n:Nat):nOK (escO L len n).v:=by
 unfold escO
 split
 ·exact hF (n+1)
 ·split
  ·exact Vy _ _ _
  ·exact numO_v hF _
theorem Vz {n:Nat}(h:setB (zh L (n+1))=true):(escO L len n).v=zh L (n+1):=by unfold escO;rw [if_pos h];rfl
theorem wP (hF:Fit L)(n:Nat):nOK (zj L len n).v:=by
 unfold zj
 split
 ·unfold nOK good;simp
 ·split
  ·unfold nOK good;simp
  ·split
   ·exact escO_v hF n
   ·exact hF n
theorem VA {n:Nat}(h:many L n=true):setB (zj L len n).v=true:=by
 unfold many at h
 rw [Bool.and_eq_true,decide_eq_true_eq] at h
 unfold zj
 rw [if_neg (fun e=>by rw [e.2] at h;exact absurd h.2 (by decide)),if_neg (fun e=>by rw [e.2] at h;exact absurd h.2 (by decide)),if_pos h.1,Vz h.2]
 exact h.2
theorem Jg (hF:Fit L):∀ (f n:Nat) (R:List (Int×Int)) (S:List Int),(∀ r∈R,nOK r.1∧nOK r.2)→(∀ s∈S,setB s=true)→(∀ r∈(xL L len f n R S).1,nOK r.1∧nOK r.2)∧∀ s∈(xL L len f n R S).2,setB s=true
 |0,_,_,_,h1,h2=>⟨h1,h2⟩
 |f+1,n,R,S,h1,h2=>by
  unfold xL
  split
  ·exact ⟨h1,h2⟩
  ·refine Jg hF f _ _ _ (fun r hr=>?_) (fun s hs=>?_)
   ·unfold addR at hr
    split at hr
    ·rcases List.mem_append.1 hr with hr |hr
     ·exact h1 r hr
     ·obtain rfl:=List.mem_singleton.1 hr
      exact ⟨wP hF _,wP hF _⟩
    ·split at hr
     ·exact h1 r hr
     ·rcases List.mem_append.1 hr with hr |hr
      ·exact h1 r hr
      ·obtain rfl:=List.mem_singleton.1 hr
       exact ⟨wP hF _,wP hF _⟩
   ·unfold addS at hs
    split at hs
    ·exact h2 s hs
    ·split at hs
     ·rename_i hm
      rcases List.mem_append.1 hs with hs |hs
      ·exact h2 s hs
      ·obtain rfl:=List.mem_singleton.1 hs
       exact VA hm
     ·exact h2 s hs
theorem zax {c:Int}(h:nOK c):∀ f,ShOK f (xY c)
 |0=>trivial
 |f+1=>⟨fun _=>h,fun e=>by simp [xY] at e,fun e=>by simp [xY] at e,fun t ht=>by simp [xY] at ht⟩
theorem sh_short {c:Int}(h:setB c=true):∀ f,ShOK f (xK c)
 |0=>trivial
 |f+1=>⟨fun e=>by simp [xK] at e,fun _=>h,fun e=>by simp [xK] at e,fun t ht=>by simp [xK] at ht⟩
theorem sh_any:∀ f,ShOK f tAny
 |0=>trivial
 |f+1=>⟨fun e=>by simp [tAny] at e,fun e=>by simp [tAny] at e,fun e=>by simp [tAny] at e,fun t ht=>by simp [tAny] at ht⟩
theorem sh_asr (a:Int):∀ f,ShOK f (tAsr a)
 |0=>trivial
 |f+1=>⟨fun e=>by simp [tAsr] at e,fun e=>by simp [tAsr] at e,fun e=>by simp [tAsr] at e,fun t ht=>by simp [tAsr] at ht⟩
theorem J2 {T:Tree}(hk:5≤T.kind)(h:∀ t∈T.kids,∀ f,ShOK f t):∀ f,ShOK f T
 |0=>trivial
 |f+1=>⟨fun e=>by omega,fun e=>by omega,fun e=>by omega,fun t ht=>h t ht f⟩
theorem zbQ (hF:Fit L)(n:Nat):∀ f,ShOK f (xh L len n)
 |0=>trivial
 |f+1=>⟨fun e=>by simp [xh,tCls] at e,fun e=>by simp [xh,tCls] at e,fun _=>Jg hF _ _ [] [] (by simp) (by simp),fun t ht=>by simp [xh,tCls] at ht⟩
theorem VB (hF:Fit L){DT:Nat→Tree}(hD:∀ n f,ShOK f (DT n))(n f:Nat):ShOK f (yH L len DT n):=by
 unfold yH
 split
 ·exact hD n f
 ·split
  ·exact zbQ hF n f
  ·split
   ·unfold oneT
    split
    ·rename_i h
     have:=Vz (L:=L) (len:=len) h
     rw [this]
     exact sh_short h f
    ·exact zax (escO_v hF n) f
   ·split
    ·exact sh_any f
    ·exact zax (hF n) f
theorem termT_sh (hF:Fit L){D:Nat→Out}{DT:Nat→Tree}(hD:∀ n f,ShOK f (DT n))(n f:Nat):ShOK f (xR L len D DT n):=by
 unfold xR
 split
 ·exact sh_asr _ f
 ·split
  ·exact VB hF hD n f
  ·refine J2 (by simp [tRep]) (fun t ht f=>?_) f
   obtain rfl:t=yH L len DT n:=by simpa [tRep] using ht
   exact VB hF hD n f
theorem Jh (hF:Fit L){D:Nat→Out}{DT:Nat→Tree}(hD:∀ n f,ShOK f (DT n)):∀ (g:Nat) (ts:List Tree) (n:Nat),(∀ t∈ts,∀ f,ShOK f t)→∀ t∈qg L len D DT g ts n,∀ f,ShOK f t
 |0,_,_,h=>h
 |g+1,ts,n,h=>by
  unfold qg
  split
  ·exact h
  ·refine Jh hF hD g _ _ (fun t ht=>?_)
   rcases List.mem_append.1 ht with ht |ht
   ·exact h t ht
   ·obtain rfl:=List.mem_singleton.1 ht
    exact fun f=>termT_sh hF hD n f
theorem zbR (hF:Fit L){D:Nat→Out}{DT:Nat→Tree}(hD:∀ n f,ShOK f (DT n))(n f:Nat):ShOK f (xj L len D DT n):=
 J2 (by simp [xj,tSeq]) (Jh hF hD _ [] n (by simp)) f
theorem zay (hF:Fit L){D:Nat→Out}{DT:Nat→Tree}(hD:∀ n f,ShOK f (DT n)):∀ (g:Nat) (ts:List Tree) (n:Nat),(∀ t∈ts,∀ f,ShOK f t)→∀ t∈altT L len D DT g ts n,∀ f,ShOK f t
 |0,_,_,h=>h
 |g+1,ts,n,h=>by
  have h2:∀ t∈ts++[xj L len D DT n],∀ f,ShOK f t:=fun t ht=>by
   rcases List.mem_append.1 ht with ht |ht
   ·exact h t ht
   ·obtain rfl:=List.mem_singleton.1 ht
    exact fun f=>zbR hF hD n f
  unfold altT
  split
  ·exact zay hF hD g _ _ h2
  ·exact h2
theorem zaz (hF:Fit L){D:Nat→Out}{DT:Nat→Tree}(hD:∀ n f,ShOK f (DT n))(n f:Nat):ShOK f (altQ L len D DT n):=
 J2 (by simp [altQ,tAlt]) (zay hF hD _ [] n (by simp)) f
theorem VC (hF:Fit L):∀ (r n f:Nat),ShOK f (xF L len r n)
 |0,_,f=>sh_any f
 |r+1,_,f=>zaz hF (fun n f=>VC hF r n f) _ f
theorem whole_sh (hF:Fit L)(r n f:Nat):ShOK f (altQ L len (zC L len r) (xF L len r) n):=zaz hF (fun n f=>VC hF r n f) n f
end
end Pro
end
section
open Sm (Tree Stp)
namespace Pro
def AsOK:Nat→Tree→Prop
 |0,_=>True
 |f+1,T=>(T.kind=0→0≤T.a∧T.a≤3)∧∀ t∈T.kids,AsOK f t
section
variable {L:List (Int×Int)} {len:Int}
theorem wQ {T:Tree}(h0:T.kind≠0)(hk:T.kids=[]):∀ f,AsOK f T
 |0=>trivial
 |f+1=>⟨fun e=>absurd e h0,fun t ht=>by rw [hk] at ht;cases ht⟩
theorem J3 {T:Tree}(h0:T.kind≠0)(h:∀ t∈T.kids,∀ f,AsOK f t):∀ f,AsOK f T
 |0=>trivial
 |f+1=>⟨fun e=>absurd e h0,fun t ht=>h t ht f⟩
theorem as_asr (n:Nat):∀ f,AsOK f (tAsr (asV L n))
 |0=>trivial
 |f+1=>⟨fun _=>by
   show 0≤asV L n∧asV L n≤3
   unfold asV
   split
   ·omega
   ·split
    ·omega
    ·split<;>omega,fun t ht=>by simp [tAsr] at ht⟩
theorem VD {DT:Nat→Tree}(hD:∀ n f,AsOK f (DT n))(n f:Nat):AsOK f (yH L len DT n):=by
 unfold yH
 split
 ·exact hD n f
 ·split
  ·exact wQ (by simp [xh,tCls]) rfl f
  ·split
   ·unfold oneT
    split
    ·exact wQ (by simp [xK]) rfl f
    ·exact wQ (by simp [xY]) rfl f
   ·split
    ·exact wQ (by simp [tAny]) rfl f
    ·exact wQ (by simp [xY]) rfl f
theorem termT_as {D:Nat→Out}{DT:Nat→Tree}(hD:∀ n f,AsOK f (DT n))(n f:Nat):AsOK f (xR L len D DT n):=by
 unfold xR
 split
 ·exact as_asr n f
 ·split
  ·exact VD hD n f
  ·refine J3 (by simp [tRep]) (fun t ht f=>?_) f
   obtain rfl:t=yH L len DT n:=by simpa [tRep] using ht
   exact VD hD n f
theorem Ji {D:Nat→Out}{DT:Nat→Tree}(hD:∀ n f,AsOK f (DT n)):∀ (g:Nat) (ts:List Tree) (n:Nat),(∀ t∈ts,∀ f,AsOK f t)→∀ t∈qg L len D DT g ts n,∀ f,AsOK f t
 |0,_,_,h=>h
 |g+1,ts,n,h=>by
  unfold qg
  split
  ·exact h
  ·refine Ji hD g _ _ (fun t ht=>?_)
   rcases List.mem_append.1 ht with ht |ht
   ·exact h t ht
   ·obtain rfl:=List.mem_singleton.1 ht
    exact fun f=>termT_as hD n f
theorem zbS {D:Nat→Out}{DT:Nat→Tree}(hD:∀ n f,AsOK f (DT n))(n f:Nat):AsOK f (xj L len D DT n):=
 J3 (by simp [xj,tSeq]) (Ji hD _ [] n (by simp)) f
theorem zaA {D:Nat→Out}{DT:Nat→Tree}(hD:∀ n f,AsOK f (DT n)):∀ (g:Nat) (ts:List Tree) (n:Nat),(∀ t∈ts,∀ f,AsOK f t)→∀ t∈altT L len D DT g ts n,∀ f,AsOK f t
 |0,_,_,h=>h
 |g+1,ts,n,h=>by
  have h2:∀ t∈ts++[xj L len D DT n],∀ f,AsOK f t:=fun t ht=>by
   rcases List.mem_append.1 ht with ht |ht
   ·exact h t ht
   ·obtain rfl:=List.mem_singleton.1 ht
    exact fun f=>zbS hD n f
  unfold altT
  split
  ·exact zaA hD g _ _ h2
  ·exact h2
theorem zaB {D:Nat→Out}{DT:Nat→Tree}(hD:∀ n f,AsOK f (DT n))(n f:Nat):AsOK f (altQ L len D DT n):=
 J3 (by simp [altQ,tAlt]) (zaA hD _ [] n (by simp)) f
theorem VE:∀ (r n f:Nat),AsOK f (xF L len r n)
 |0,_,f=>wQ (by simp [xF,tAny]) rfl f
 |r+1,_,f=>zaB (fun n f=>VE r n f) _ f
theorem AsOK.down:∀ {f:Nat}{T:Tree},AsOK (f+1) T→AsOK f T
 |0,_,_=>trivial
 |_+1,_,h=>⟨h.1,fun t ht=>AsOK.down (h.2 t ht)⟩
theorem AsOK.kid {f:Nat}{T:Tree}(h:AsOK (f+1) T):AsOK f T.kid:=by
 unfold Sm.Tree.kid
 split
 ·exact h.down
 ·rename_i t ts e
  exact h.2 t (by rw [e];exact List.mem_cons_self ..)
end
end Pro
namespace Sm
variable {P:Stp→Prop} {B:Tree→Nat→List Stp→Nat×List Stp}
def AllS (P:Stp→Prop)(S:List Stp):Prop:=∀ s∈S,P s
def wk (P:Stp→Prop)(B:Tree→Nat→List Stp→Nat×List Stp)(t:Tree):Prop:=∀ nx S,AllS P S→AllS P (B t nx S).2
theorem AllS.snoc {S:List Stp}{s:Stp}(h:AllS P S)(hs:P s):AllS P (S++[s]):=fun x hx=>by
 rcases List.mem_append.1 hx with hx |hx
 ·exact h x hx
 ·obtain rfl:=List.mem_singleton.1 hx;exact hs
theorem Zc (hf:∀ x y,P (zA x y)){nx:Nat}:∀ (ts:List Tree) (b:Nat) (S:List Stp),(∀ t∈ts,wk P B t)→AllS P S→AllS P (yE B nx ts b S).2
 | [],_,_,_,hS=>hS
 |t :: ts,_,S,h,hS=>Zc hf ts _ _ (fun y hy=>h y (List.mem_cons_of_mem _ hy)) ((h t (List.mem_cons_self ..) nx S hS).snoc (hf _ _))
theorem Qg:∀ (ts:List Tree)(b:Nat)(S:List Stp),(∀ t∈ts,wk P B t)→AllS P S→AllS P (bSeq B ts b S).2
 | [],_,_,_,hS=>hS
 |t :: ts,b,S,h,hS=>Qg ts _ _ (fun y hy=>h y (List.mem_cons_of_mem _ hy)) (h t (List.mem_cons_self ..) b S hS)
theorem Qh (hf:∀ x y,P (zA x y)){t:Tree}{nx:Nat}(h:wk P B t):∀ (k b:Nat) (S:List Stp),AllS P S→AllS P (bOpt B t nx k b S).2
 |0,_,_,hS=>hS
 |k+1,b,S,hS=>Qh hf h k _ _ ((h b S hS).snoc (hf _ _))
theorem vq {t:Tree}(h:wk P B t):∀ (k b:Nat) (S:List Stp),AllS P S→AllS P (ym B t k b S).2
 |0,_,_,hS=>hS
 |k+1,b,S,hS=>by
  simp only [ym]
  split
  ·exact h b S hS
  ·exact vq h k _ _ (h b S hS)
theorem YT (hf:∀ x y,P (zA x y)){t:Tree}{nx:Nat}(h:wk P B t)(S:List Stp)(hS:AllS P S):AllS P (xf B t nx S).2:=fun x hx=>by
 rcases List.mem_or_eq_of_mem_set hx with hx |rfl
 ·exact h _ _ (hS.snoc (hf _ _)) x hx
 ·exact hf _ _
theorem Yw (hf:∀ x y,P (zA x y))(ht:∀ T nx,P (taker T nx))(ha:∀ a nx,0≤a→a≤3→P (tester a nx)):∀ (f:Nat) (T:Tree),Pro.AsOK f T→wk P (bld f) T
 |0,_,_=>fun _ _ hS=>hS
 |f+1,T,h=>by
  intro nx S hS
  have kids:∀ t∈T.kids,wk P (bld f) t:=fun t ht'=>Yw hf ht ha f t (h.2 t ht')
  have kid:wk P (bld f) T.kid:=Yw hf ht ha f T.kid h.kid
  unfold bld
  split
  ·rename_i h0
   exact hS.snoc (ha _ _ (h.1 h0).1 (h.1 h0).2)
  ·split
   ·split
    ·exact hS
    ·rename_i t ts e
     rw [e] at kids
     exact Zc hf ts _ _ (fun y hy=>kids y (List.mem_cons_of_mem _ hy)) (kids t (List.mem_cons_self ..) nx S hS)
   ·split
    ·exact Qg _ _ _ (fun y hy=>kids y (List.mem_reverse.1 hy)) hS
    ·split
     ·split
      ·split
       ·exact YT hf kid S hS
       ·exact vq kid _ _ _ (YT hf kid S hS)
      ·exact vq kid _ _ _ (Qh hf kid _ _ _ hS)
     ·exact hS.snoc (ht _ _)
theorem prg_asks {f:Nat}{T:Tree}(h:Pro.AsOK f T):∀ s∈(prg f T).2,s.kind=2→0≤s.asr∧s.asr≤3:=
 Yw (P:=fun s=>s.kind=2→0≤s.asr∧s.asr≤3) (fun _ _ e=>by simp [zA] at e) (fun _ _ e=>by simp [taker] at e) (fun _ _ h1 h2 _=>⟨h1,h2⟩) f T h 0 [qR] (fun s hs e=>by obtain rfl:=List.mem_singleton.1 hs;simp [qR] at e)
end Sm
end
section
open Go.RowKit
open Sm (Tree)
set_option maxHeartbeats 4000000
set_option maxRecDepth 1000000
theorem VF (b:Nat)(L:List (Int×Int))(n:Nat)(len dp:Int)(a:Nat→Addr)(w:World)(h:RdAt w b L n len dp)(hS:Sents w a)(hb:10≤b)(hL:L.length≤400)(hn:n<L.length)(hF:Pro.Fit L) :
  Calls Tryz.prog 217 #[.pointer (some ⟨b,0,none⟩)] w fun x w'=>∃ cv,Tells b L len dp a w (Pro.xE L len n) (.iface 250 cv) .nilIface x w'∧((Pro.xE L len n).k=0→LeafAt w' (fun g=>w.heap.size≤g) (.iface 250 cv) (Pro.xh L len n)):=by
 have T:=ze (Trk.start h hS hb)
 have c1:=h.c1
 have f1:=h.f1
 clear h hS
 have hbe:(Pro.behind L (n+1) { data:=#[94] }=n+1∧Pro.zh L (n+1)≠94)∨(Pro.behind L (n+1) { data:=#[94] }=n+2∧Pro.zh L (n+1)=94):=by
  by_cases hneg:Pro.zh L (n+1)=94
  ·right;exact ⟨Pro.Zq (by rw [Pro.zt L (n+1) 94 94 rfl];simp [hneg]),hneg⟩
  ·left;exact ⟨Pro.Ys (by rw [Pro.zt L (n+1) 94 94 rfl];simp [hneg]),hneg⟩
 have hN:n+1≤Pro.behind L (n+1) { data:=#[94] }∧Pro.behind L (n+1) { data:=#[94] }≤L.length:=by
  rcases hbe with ⟨e,_⟩ |⟨e,h1⟩
  ·omega
  ·have:n+1<L.length:=Pro.zD (by omega)
   omega
 have HP:Hid (Pro.xE L len n=Pro.xP L len (L.length+1-n) (Pro.behind L (n+1) { data:=#[94] })):=by
  unfold Pro.xE
  rcases hbe with ⟨e,h1⟩ |⟨e,h1⟩
  ·rw [e,if_neg h1];rfl
  ·rw [e,if_pos h1];rfl
 have HT:Hid (Pro.xh L len n=Pro.tCls (Pro.zz L (n+1) { data:=#[94] }) (Pro.xL L len (L.length+1-n) (Pro.behind L (n+1) { data:=#[94] }) [] []).1 (Pro.xL L len (L.length+1-n) (Pro.behind L (n+1) { data:=#[94] }) [] []).2):=by
  unfold Pro.xh
  rcases hbe with ⟨e,h1⟩ |⟨e,h1⟩
  ·rw [e,if_neg h1,Pro.zt L (n+1) 94 94 rfl];simp [h1,Hid]
  ·rw [e,if_pos h1,Pro.zt L (n+1) 94 94 rfl];simp [h1,Hid]
 clear hbe
 go_enter Tryz.func217,Tryz.ntmps217
 go_wp2_with (go_at_call 102;refine (taken_t (n:=n+1) _ (by exact (zb T).setN _ _ (by omega)) hL (by omega) (by decide)).mono ?_;rintro e wq ⟨rfl,tq⟩;have T:=ze tq;have c1:=tq.c1;have f1:=tq.f1)
 generalize hN0:Pro.behind L (n+1) { data:=#[94] }=N0 at *
 generalize Pro.zz L (n+1) { data:=#[94] }=neg at *
 have T1:=ze (zb T)
 clear c1 f1
 have hcb:w.heap.size≤wq.heap.size:=(zb T1).on.size
 have hC0:ClassAt (wq.alloc (.cells #[.bool neg,.slice none 0 0,.slice none 0 0] 250)) wq.heap.size neg [] [] (.slice none 0 0) (.slice none 0 0):=
  ⟨zm wq _ rfl _ _ 0 _ rfl,zm wq _ rfl _ _ 1 _ rfl,zm wq _ rfl _ _ 2 _ rfl,World.ownsRow_nil _ _ _ _,World.ownsRow_nil _ _ _ _,zu wq _ rfl _ _ 1,zu wq _ rfl _ _ 2⟩
 have T2:Trk wq.heap.size (wq.alloc (.cells #[.bool neg,.slice none 0 0,.slice none 0 0] 250)) b L N0 len dp a (wq.alloc (.cells #[.bool neg,.slice none 0 0,.slice none 0 0] 250)):=
  have t:=(zb T1).calm ((Only.refl _ _).alloc _)
  ⟨t.rd,t.se,Only.refl _ _,t.hb,(zb T1).rd.lt,by simp⟩
 generalize hW:wq.alloc (.cells #[.bool neg,.slice none 0 0,.slice none 0 0] 250)=W at *
 have hOW:Only (zl b) w W:=by rw [←hW];exact (Own.to (zb T1).on).alloc _
 have HOW:=ze hOW
 have T2:=ze T2
 have HC0:=ze hC0
 clear hC0 hW hOW
 generalize hcbb:wq.heap.size=cb at *
 clear hcbb
 go_loopw [5] (fun _ wr=>∃ (m f:Nat) (R:List (Int×Int)) (S:List Int) (v1 v2:Value),m≤L.length∧R.length≤m∧S.length≤m∧Hid (L.length<m+f)∧Hid (Trk cb W b L m len dp a wr)∧Hid (ClassAt wr cb neg R S v1 v2)∧Hid (Pro.xE L len n=Pro.xP L len f m)∧Hid (Pro.xh L len n=Pro.tCls neg (Pro.xL L len f m R S).1 (Pro.xL L len f m R S).2)) (fun _ wr=>L.length-rdN wr b)
 case atStart=>exact ⟨N0,L.length+1-n,[],[],_,_,hN.2,by simp,by simp,(by show _<_;omega),T2,HC0,HP,HT⟩
 case round=>
  obtain ⟨m,f,R,S,v1,v2,hm,hR,hS,hf,T,HC,HF,HT⟩:=hrel
  obtain ⟨f,rfl⟩:∃ f',f=f'+1:=⟨f-1,by have:=zb hf;omega⟩
  have hrd:=(zb T).rdN
  by_cases h93:Pro.zh L m=93
  ·have m1:Pro.zz L m { data:=#[93] }=true:=by rw [Pro.zt L m 93 93 rfl];simp [h93]
   have HO:Hid (Pro.xE L len n=Pro.good 1 (m+1)):=by rw [zb HF];simp only [Pro.xP];rw [if_pos h93];rfl
   have HT1:Hid (Pro.xh L len n=Pro.tCls neg R S):=by rw [zb HT];simp only [Pro.xL];rw [if_pos h93];rfl
   clear h93
   have T0:=T
   have T:=ze (Trk.start (zb T0).rd (zb T0).se hb)
   have hbc:=(zb T0).lt
   go_wp2_with ((go_at_call 102;refine (jz (n:=m) _ (by exact zb T) hL (by omega) (by decide) (by assumption)).mono ?_;rintro e wq ⟨rfl,tq⟩;have tq:Trk _ _ b L ((m)+1) len dp a wq:=tq;have T:=ze tq;have c1:=tq.c1;have f1:=tq.f1);(have hC1:=(zb HC).step hbc (zb T));(have k0:=hC1.k0);(have k1:=hC1.k1);(have k2:=hC1.k2);(have HC1:=ze hC1);(clear hC1))
   go_ret2
   refine ⟨_,qM (zb HO) rfl (Own.back (zb HOW) ((zb T0).join (zb T)).on hcb) (zb T).rd,fun _=>?_⟩
   rw [zb HT1]
   have hCC:=zb HC1
   exact .inr (.inr (.inr (.inr ⟨neg,R,S,v1,v2,rfl,rfl,(K9 hCC.o1 (fun e=>by rw [List.eq_nil_of_length_eq_zero e];rfl)).mono (fun g _ hg=>by omega),(K9 hCC.o2 (fun e=>by rw [List.eq_nil_of_length_eq_zero e];rfl)).mono (fun g _ hg=>by omega)⟩)))
  ·have m1:Pro.zz L m { data:=#[93] }=false:=by rw [Pro.zt L m 93 93 rfl];simp [h93]
   by_cases hend:L.length≤m
   ·have hme:m=L.length:=by omega
    have he:((m:Int) == (L.length:Int))=true:=by simp;omega
    have HO:Hid (Pro.xE L len n=Pro.bad 3 (Pro.zB L len m) m):=by rw [zb HF];simp only [Pro.xP];rw [if_neg h93,if_pos hend,Pro.kn hend];rfl
    clear h93
    go_wp2_with (first |(go_at_call 102;refine (yZ (n:=m) _ (by exact zb T) hL (by omega) (by decide) (by assumption)).mono ?_;rintro e wq ⟨rfl,qq,rfl⟩) |(go_at_call 54;refine (wE (n:=m) (by exact (zb T).drewN _)).mono ?_;rintro e wq ⟨rfl,qq,rfl⟩) |(go_at_call 55;refine (ZT (n:=m) (by exact (zb T).drewN _) hL (by omega)).mono ?_;rintro e wq ⟨v,rfl,hv,tq⟩;have T:=ze tq;have c1:=tq.c1;have f1:=tq.f1))
    go_ret2
    exact ⟨.nilIface,jw (zb HO) (by decide) (Own.back (zb HOW) (zb T).on hcb) (zb T).rd (hv.base (zb HOW).size),fun e=>by rw [zb HO] at e;exact absurd e (show (3:Nat)≠0 by decide)⟩
   ·have he:((m:Int) == (L.length:Int))=false:=by simp;omega
    have hml:m<L.length:=by omega
    have hin:=Pro.zao (L:=L) (len:=len) m hml
    have hmi:=Pro.qI (L:=L) (len:=len) m hml
    by_cases hk:(Pro.addO L len m).k=0
    ·have HO:Hid (Pro.xE L len n=Pro.xP L len f (Pro.addO L len m).n):=by rw [zb HF];simp only [Pro.xP];rw [if_neg h93,if_neg hend,if_neg (by simp [hk])];rfl
     have HT1:Hid (Pro.xh L len n=Pro.tCls neg (Pro.xL L len f (Pro.addO L len m).n (Pro.addR L len m R) (Pro.addS L len m S)).1 (Pro.xL L len f (Pro.addO L len m).n (Pro.addR L len m R) (Pro.addS L len m S)).2):=by rw [zb HT];simp only [Pro.xL];rw [if_neg h93];rfl
     clear h93
     go_wp2_with (first |(go_at_call 102;refine (yZ (n:=m) _ (by exact zb T) hL (by omega) (by decide) (by assumption)).mono ?_;rintro e wq ⟨rfl,qq,rfl⟩) |(go_at_call 54;refine (wE (n:=m) (by exact (zb T).drewN _)).mono ?_;rintro e wq ⟨rfl,qq,rfl⟩) |(go_at_call 243;refine (wZ b L m len dp a cb W _ neg R S v1 v2 (by exact (zb T).drewN _) (by first |exact zb HC |exact (zb HC).keep ((Only.refl (fun _=>False) _).drewN _) (fun _ _ f=>f) |exact (zb HC).keep (((Only.refl (fun _=>False) _).drewN _).drewN _) (fun _ _ f=>f)) hL hml (by omega) hF (by omega) (by omega)).mono ?_;rintro e w9 ⟨tq,hA⟩;obtain ⟨rfl,u1,u2,hC9⟩:=vS hA hk;have T9:=ze tq;have HC9:=ze hC9;clear hA hC9))
     have hR':=Pro.addR_len (L:=L) (len:=len) m R
     have hS':=Pro.addS_len (L:=L) (len:=len) m S
     exact ⟨⟨(Pro.addO L len m).n,f,_,_,u1,u2,hin.2,by omega,by omega,(by have:=zb hf;show _<_;omega),T9,HC9,HO,HT1⟩,by rw [(zb T9).rdN,hrd];omega⟩
    ·have HO:Hid (Pro.xE L len n=Pro.addO L len m):=by rw [zb HF];simp only [Pro.xP];rw [if_neg h93,if_neg hend,if_pos hk];rfl
     clear h93
     go_wp2_with (first |(go_at_call 102;refine (yZ (n:=m) _ (by exact zb T) hL (by omega) (by decide) (by assumption)).mono ?_;rintro e wq ⟨rfl,qq,rfl⟩) |(go_at_call 54;refine (wE (n:=m) (by exact (zb T).drewN _)).mono ?_;rintro e wq ⟨rfl,qq,rfl⟩) |(go_at_call 243;refine (wZ b L m len dp a cb W _ neg R S v1 v2 (by exact (zb T).drewN _) (by first |exact zb HC |exact (zb HC).keep ((Only.refl (fun _=>False) _).drewN _) (fun _ _ f=>f) |exact (zb HC).keep (((Only.refl (fun _=>False) _).drewN _).drewN _) (fun _ _ f=>f)) hL hml (by omega) hF (by omega) (by omega)).mono ?_;rintro e w9 ⟨tq,hA⟩;obtain ⟨xv,rfl,hv⟩:=JU hA hk;obtain ⟨gv,hgv⟩:=hv.form;subst hgv;have T9:=ze tq;clear hA))
     go_ret2
     rw [zb HO]
     exact ⟨.nilIface,Tells.no hk (Own.back (zb HOW) (zb T9).on hcb) (zb T9).rd (hv.base (zb HOW).size),fun e=>absurd e hk⟩
theorem j6 (b:Nat)(L:List (Int×Int))(n:Nat)(len dp:Int)(a:Nat→Addr)(w:World)(h:RdAt w b L n len dp)(hS:Sents w a)(hb:10≤b)(hL:L.length≤400)(hn:n≤L.length) :
  Calls Tryz.prog 182 #[.pointer (some ⟨b,0,none⟩)] w fun x w'=>Only (zl b) w w'∧RdAt w' b L (n+Pro.asN L n) len dp∧((Pro.asN L n≠0∧x = .returned (.tuple #[.int .i64 (Pro.asV L n),.bool true]))∨(Pro.asN L n=0∧x = .returned (.tuple #[.int .i64 0,.bool false]))):=by
 have T:=ze (Trk.start h hS hb)
 clear h hS
 by_cases h1:Pro.zh L n=94
 ·have HA:Hid (Pro.asN L n=1):=by unfold Pro.asN;rw [if_pos (.inl h1)];rfl
  have HV:Hid (Pro.asV L n=0):=by unfold Pro.asV;rw [if_pos h1];rfl
  have m1:Pro.zz L n { data:=#[94] }=true:=by rw [Pro.zt L n 94 94 rfl];simp [h1]
  go_enter Tryz.func182,Tryz.ntmps182
  go_wp2_with (first |(go_at_call 102;refine (jz (n:=n) _ (by exact zb T) hL (by omega) (by decide) (by assumption)).mono ?_;rintro e wq ⟨rfl,tq⟩;have tq:Trk _ _ b L ((n)+1) len dp a wq:=tq;have T:=ze tq;have c1:=tq.c1;have f1:=tq.f1))
  go_ret2
  rw [zb HA,zb HV]
  exact ⟨Own.to (zb T).on,(zb T).rd,.inl ⟨by decide,rfl⟩⟩
 ·have m1:Pro.zz L n { data:=#[94] }=false:=by rw [Pro.zt L n 94 94 rfl];simp [h1]
  by_cases h2:Pro.zh L n=36
  ·have HA:Hid (Pro.asN L n=1):=by unfold Pro.asN;rw [if_pos (.inr h2)];rfl
   have HV:Hid (Pro.asV L n=1):=by unfold Pro.asV;rw [if_neg h1,if_pos h2];rfl
   have m2:Pro.zz L n { data:=#[36] }=true:=by rw [Pro.zt L n 36 36 rfl];simp [h2]
   go_enter Tryz.func182,Tryz.ntmps182
   go_wp2_with (first |(go_at_call 102;refine (yZ (n:=n) _ (by first |exact zb T |exact (zb T).drewN _) hL (by omega) (by decide) (by assumption)).mono ?_;rintro e wq ⟨rfl,qq,rfl⟩) |(go_at_call 102;refine (jz (n:=n) _ (by exact (zb T).drewN _) hL (by omega) (by decide) (by assumption)).mono ?_;rintro e wq ⟨rfl,tq⟩;have tq:Trk _ _ b L ((n)+1) len dp a wq:=tq;have T:=ze tq;have c1:=tq.c1;have f1:=tq.f1))
   go_ret2
   rw [zb HA,zb HV]
   exact ⟨Own.to (zb T).on,(zb T).rd,.inl ⟨by decide,rfl⟩⟩
  ·have m2:Pro.zz L n { data:=#[36] }=false:=by rw [Pro.zt L n 36 36 rfl];simp [h2]
   by_cases h3:Pro.zh L n=92∧Pro.zh L (n+1)=98
   ·have HA:Hid (Pro.asN L n=2):=by unfold Pro.asN;rw [if_neg (by omega),if_pos ⟨h3.1,.inl h3.2⟩];rfl
    have HV:Hid (Pro.asV L n=2):=by unfold Pro.asV;rw [if_neg h1,if_neg h2,if_pos h3.2];rfl
    have m3:Pro.zz L n { data:=#[92,98] }=true:=by rw [Pro.yC L n 92 98 92 98 rfl rfl];simp [h3]
    clear h3
    go_enter Tryz.func182,Tryz.ntmps182
    go_wp2_with (first |(go_at_call 102;refine (yZ (n:=n) _ (by first |exact zb T |exact (zb T).drewN _) hL (by omega) (by decide) (by assumption)).mono ?_;rintro e wq ⟨rfl,qq,rfl⟩) |(go_at_call 102;refine (jz (n:=n) _ (by exact (zb T).drewN _) hL (by omega) (by decide) (by assumption)).mono ?_;rintro e wq ⟨rfl,tq⟩;have tq:Trk _ _ b L ((n)+2) len dp a wq:=tq;have T:=ze tq;have c1:=tq.c1;have f1:=tq.f1))
    go_ret2
    rw [zb HA,zb HV]
    exact ⟨Own.to (zb T).on,(zb T).rd,.inl ⟨by decide,rfl⟩⟩
   ·have m3:Pro.zz L n { data:=#[92,98] }=false:=by rw [Pro.yC L n 92 98 92 98 rfl rfl];simp;omega
    by_cases h4:Pro.zh L n=92∧Pro.zh L (n+1)=66
    ·have HA:Hid (Pro.asN L n=2):=by unfold Pro.asN;rw [if_neg (by omega),if_pos ⟨h4.1,.inr h4.2⟩];rfl
     have HV:Hid (Pro.asV L n=3):=by unfold Pro.asV;rw [if_neg h1,if_neg h2,if_neg (by omega)];rfl
     have m4:Pro.zz L n { data:=#[92,66] }=true:=by rw [Pro.yC L n 92 66 92 66 rfl rfl];simp [h4]
     clear h3 h4
     go_enter Tryz.func182,Tryz.ntmps182
     go_wp2_with (first |(go_at_call 102;refine (yZ (n:=n) _ (by first |exact zb T |exact (zb T).drewN _) hL (by omega) (by decide) (by assumption)).mono ?_;rintro e wq ⟨rfl,qq,rfl⟩) |(go_at_call 102;refine (jz (n:=n) _ (by exact (zb T).drewN _) hL (by omega) (by decide) (by assumption)).mono ?_;rintro e wq ⟨rfl,tq⟩;have tq:Trk _ _ b L ((n)+2) len dp a wq:=tq;have T:=ze tq;have c1:=tq.c1;have f1:=tq.f1))
     go_ret2
     rw [zb HA,zb HV]
     exact ⟨Own.to (zb T).on,(zb T).rd,.inl ⟨by decide,rfl⟩⟩
    ·have m4:Pro.zz L n { data:=#[92,66] }=false:=by rw [Pro.yC L n 92 66 92 66 rfl rfl];simp;omega
     have HA:Hid (Pro.asN L n=0):=by unfold Pro.asN;rw [if_neg (by omega),if_neg (by omega)];rfl
     clear h3 h4
     go_enter Tryz.func182,Tryz.ntmps182
     go_wp2_with (first |(go_at_call 102;refine (yZ (n:=n) _ (by first |exact zb T |exact (zb T).drewN _) hL (by omega) (by decide) (by assumption)).mono ?_;rintro e wq ⟨rfl,qq,rfl⟩))
     go_ret2
     rw [zb HA]
     exact ⟨Own.to ((zb T).drewN _).on,((zb T).drewN _).rd,.inr ⟨rfl,rfl⟩⟩
def j7 (b:Nat)(L:List (Int×Int))(len dp:Int)(a:Nat→Addr)(D:Nat→Pro.Out)(DT:Nat→Tree):Prop:=∀ (n:Nat) (w:World),RdAt w b L n len dp→Sents w a→n<L.length→Calls Tryz.prog 216 #[.pointer (some ⟨b,0,none⟩)] w (GivesT b L len dp a w (D n) (DT n))
theorem one_leaf (m:Bool)(c:Int):∃ T y,oneV m c = .iface T y∧∀ w A,LeafAt w A (.iface T y) (Pro.oneT m c):=by
 cases m
 ·exact ⟨_,_,rfl,fun w A=>.inr (.inr (.inl ⟨_,rfl,rfl⟩))⟩
 ·exact ⟨_,_,rfl,fun w A=>.inr (.inr (.inr (.inl ⟨_,rfl,rfl⟩)))⟩
theorem Qi (b:Nat)(L:List (Int×Int))(n:Nat)(len dp:Int)(a:Nat→Addr)(D:Nat→Pro.Out)(DT:Nat→Tree)(w:World)(h:RdAt w b L n len dp)(hS:Sents w a)(hb:10≤b)(hL:L.length≤400)(hn:n<L.length)(hF:Pro.Fit L)(hG:j7 b L len dp a D DT) :
  Calls Tryz.prog 183 #[.pointer (some ⟨b,0,none⟩)] w (GivesT b L len dp a w (Pro.zJ L len D n) (Pro.yH L len DT n)):=by
 have T:=ze (Trk.start h hS hb)
 have HR:=ze h
 have HS:=ze hS
 have c1:=h.c1
 have f1:=h.f1
 have HG:=ze hG
 clear h hS hG
 cases hw:Pro.vd (Pro.zh L n)
 ·have hq:(Pro.zh L n == 42)=false∧(Pro.zh L n == 43)=false∧(Pro.zh L n == 63)=false∧(Pro.zh L n == 123)=false∧(Pro.zh L n == 125)=false∧(Pro.zh L n == 93)=false:=by
   unfold Pro.vd at hw;simpa [and_assoc] using hw
  obtain ⟨q1,q2,q3,q4,q5,q6⟩:=hq
  by_cases h40:Pro.zh L n=40
  ·have HO:Hid (Pro.zJ L len D n=D n):=by unfold Pro.zJ;rw [if_neg (by simp [hw]),if_pos h40];rfl
   have HT:Hid (Pro.yH L len DT n=DT n):=by unfold Pro.yH;rw [if_pos h40];rfl
   have h40':(Pro.zh L n == 40)=true:=by simp [h40]
   clear h40 hw
   go_enter Tryz.func183,Tryz.ntmps183
   go_wp2_with (first |(go_at_call 147;refine (yG (n:=n) (by exact zb T) hL (by omega)).mono ?_;rintro e wq ⟨rfl,hwq⟩;obtain rfl:=hwq.symm;clear hwq) |(go_at_call 216;refine (zb HG n _ (zb HR) (zb HS) hn).mono ?_;intro e w1 hg;obtain ⟨p1,p2,rfl⟩:=hg.pair;have Hg:=ze hg;clear hg))
   go_ret2
   rw [zb HO,zb HT]
   exact zb Hg
  ·have h40':(Pro.zh L n == 40)=false:=by simp [h40]
   by_cases h91:Pro.zh L n=91
   ·have HO:Hid (Pro.zJ L len D n=Pro.one (Pro.xE L len n)):=by unfold Pro.zJ;rw [if_neg (by simp [hw]),if_neg h40,if_pos h91];rfl
    have HT:Hid (Pro.yH L len DT n=Pro.xh L len n):=by unfold Pro.yH;rw [if_neg h40,if_pos h91];rfl
    have h91':(Pro.zh L n == 91)=true:=by simp [h91]
    clear h91 hw h40
    go_enter Tryz.func183,Tryz.ntmps183
    go_wp2_with (first |(go_at_call 147;refine (yG (n:=n) (by exact zb T) hL (by omega)).mono ?_;rintro e wq ⟨rfl,hwq⟩;obtain rfl:=hwq.symm;clear hwq) |(go_at_call 217;refine (VF b L n len dp a _ (zb HR) (zb HS) hb hL hn hF).mono ?_;rintro e w1 ⟨cv,hc,hlf⟩;have hg:=hc.givesT hlf;obtain ⟨p1,p2,rfl⟩:=hg.pair;have Hg:=ze hg;clear hg hc hlf))
    go_ret2
    rw [zb HO,zb HT]
    exact zb Hg
   ·have h91':(Pro.zh L n == 91)=false:=by simp [h91]
    by_cases h92:Pro.zh L n=92
    ·have HO:Hid (Pro.zJ L len D n=Pro.one (Pro.escO L len n)):=by unfold Pro.zJ;rw [if_neg (by simp [hw]),if_neg h40,if_neg h91,if_pos h92];rfl
     have HT:Hid (Pro.yH L len DT n=Pro.oneT (Pro.setB (Pro.zh L (n+1))) (Pro.escO L len n).v):=by unfold Pro.yH;rw [if_neg h40,if_neg h91,if_pos h92];rfl
     have h92':(Pro.zh L n == 92)=true:=by simp [h92]
     clear h91 hw h40 h92
     obtain ⟨TT,yy,hy,hlf⟩:=one_leaf (Pro.setB (Pro.zh L (n+1))) (Pro.escO L len n).v
     have Hy:=ze hy
     have Hlf:=ze hlf
     clear hy hlf
     go_enter Tryz.func183,Tryz.ntmps183
     go_wp2_with (first |(go_at_call 147;refine (yG (n:=n) (by exact zb T) hL (by omega)).mono ?_;rintro e wq ⟨rfl,hwq⟩;obtain rfl:=hwq.symm;clear hwq) |(go_at_call 218;refine (vQ b L n len dp a _ (zb HR) (zb HS) hb hL hn hF).mono ?_;intro e w1 hc;rw [zb Hy] at hc;have hg:=hc.givesT (fun _=>zb Hlf _ _);obtain ⟨p1,p2,rfl⟩:=hg.pair;have Hg:=ze hg;clear hg hc))
     go_ret2
     rw [zb HO,zb HT]
     exact zb Hg
    ·have h92':(Pro.zh L n == 92)=false:=by simp [h92]
     have HO:Hid (Pro.zJ L len D n=Pro.good 1 (n+1)):=by unfold Pro.zJ;rw [if_neg (by simp [hw]),if_neg h40,if_neg h91,if_neg h92];rfl
     have HT1:Hid (Pro.zh L n=46→Pro.yH L len DT n=Pro.tAny):=fun e=>by unfold Pro.yH;rw [if_neg h40,if_neg h91,if_neg h92,if_pos e]
     have HT2:Hid (Pro.zh L n≠46→Pro.yH L len DT n=Pro.xY (Pro.zh L n)):=fun e=>by unfold Pro.yH;rw [if_neg h40,if_neg h91,if_neg h92,if_neg e]
     clear h91 hw h40 h92
     have hdot:(Pro.zh L n == 46)=true∨(Pro.zh L n == 46)=false:=by cases (Pro.zh L n == 46)<;>simp
     rcases hdot with hd |hd
     ·go_enter Tryz.func183,Tryz.ntmps183
      go_wp2_with (first |(go_at_call 147;refine (yG (n:=n) (by exact zb T) hL (by omega)).mono ?_;rintro e wq ⟨rfl,hwq⟩;obtain rfl:=hwq.symm;clear hwq))
      go_ret2
      rw [zb HT1 (by simpa using hd)]
      exact GivesT.good (zb HO) ((Only.refl _ _).mine _ _) ((zb HR).setN _ _ (by omega)) (PartAt.leaf (.inr (.inl ⟨rfl,rfl⟩)))
     ·go_enter Tryz.func183,Tryz.ntmps183
      go_wp2_with (first |(go_at_call 147;refine (yG (n:=n) (by exact zb T) hL (by omega)).mono ?_;rintro e wq ⟨rfl,hwq⟩;obtain rfl:=hwq.symm;clear hwq))
      go_ret2
      rw [zb HT2 (by simpa using hd)]
      exact GivesT.good (zb HO) ((Only.refl _ _).mine _ _) ((zb HR).setN _ _ (by omega)) (PartAt.leaf (.inr (.inr (.inl ⟨_,rfl,rfl⟩))))
 ·have HO:Hid (Pro.zJ L len D n=Pro.bad 3 (Pro.zB L len n) n):=by unfold Pro.zJ;rw [if_pos hw];rfl
  have hq:(Pro.zh L n == 42)=true∨(Pro.zh L n == 42)=false∧((Pro.zh L n == 43)=true∨(Pro.zh L n == 43)=false∧((Pro.zh L n == 63)=true∨(Pro.zh L n == 63)=false∧((Pro.zh L n == 123)=true∨(Pro.zh L n == 123)=false∧((Pro.zh L n == 125)=true∨(Pro.zh L n == 125)=false∧(Pro.zh L n == 93)=true)))):=by
   unfold Pro.vd at hw
   cases hq1:(Pro.zh L n == 42)<;>cases hq2:(Pro.zh L n == 43)<;>cases hq3:(Pro.zh L n == 63)<;>cases hq4:(Pro.zh L n == 123)<;>cases hq5:(Pro.zh L n == 125)<;>cases hq6:(Pro.zh L n == 93)<;>simp_all
  clear hw
  rcases hq with q1 |⟨q1,q2 |⟨q2,q3 |⟨q3,q4 |⟨q4,q5 |⟨q5,q6⟩⟩⟩⟩⟩
  all_goals
   go_enter Tryz.func183,Tryz.ntmps183
   go_wp2_with (first |(go_at_call 147;refine (yG (n:=n) (by exact zb T) hL (by omega)).mono ?_;rintro e wq ⟨rfl,hwq⟩;obtain rfl:=hwq.symm;clear hwq) |(go_at_call 55;refine (ZT (n:=n) (by exact zb T) hL (by omega)).mono ?_;rintro e wq ⟨v,rfl,hv,tq⟩;have T:=ze tq;have c1:=tq.c1;have f1:=tq.f1))
   go_ret2
   exact GivesT.bad (zb HO) (by decide) (Own.to (zb T).on) (zb T).rd hv
theorem Quants.givesT {b:Nat}{L:List (Int×Int)}{len dp:Int}{a:Nat→Addr}{w w1 w':World}{T:TypeId}{y:Value}{z t:Tree}{F:Nat}{n:Nat}{x:Ending}{o:Pro.Out}(hlt:b<w.heap.size)(hO:Only (zl b) w w1)(hs:PartAt F w1 (fun g=>w.heap.size≤g) (.iface T y) z)(h:Quants b L len dp a w1 (.iface T y) (Pro.zy L len n) x w')
  (h0:(Pro.zy L len n).1=false→o.k=0∧t=z∧o.n=(Pro.zy L len n).2.1.n) (h1:(Pro.zy L len n).1=true→(Pro.zy L len n).2.1.k≠0→o=(Pro.zy L len n).2.1)
  (h2:(Pro.zy L len n).1=true→(Pro.zy L len n).2.1.k=0→(∃ v,o=Pro.good v (Pro.kg L (Pro.zy L len n).2.1.n))∧t=Pro.tRep z (Pro.zy L len n).2.1.v (Pro.zy L len n).2.2):GivesT b L len dp a w o t x w':=by
 obtain ⟨hO',h⟩:=h
 have hs':=PartAt.keep hO' (A:=fun g=>w.heap.size≤g) (fun g hg e=>by unfold zl at e;subst e;exact absurd hlt (Nat.not_lt.2 hg)) F _ _ hs
 rcases h with ⟨hq,hx,hR⟩ |⟨hq,hk,hx,hR⟩ |⟨hq,hk,hR,v,hx,hv⟩
 ·obtain ⟨e1,e2,e3⟩:=h0 hq
  exact ⟨hO.trans hO',by rw [e3];exact hR,.inl ⟨e1,T,y,F,hx,by rw [e2];exact hs'⟩⟩
 ·subst hx
  obtain ⟨⟨vv,ho⟩,ht⟩:=h2 hq hk
  rw [ht]
  refine GivesT.good (F:=F+1) ho (hO.trans hO') hR ?_
  have hv:=Pro.XW (L:=L) (len:=len) n hq hk
  exact .inr (.inr (.inr ⟨_,_,_,z,rfl,rfl,hs',hv.1,hv.2.1,hv.2.2.1,hv.2.2.2.1,hv.2.2.2.2⟩))
 ·rw [h1 hq hk]
  exact ⟨hO.trans hO',hR,.inr ⟨hk,v,hx,hv.base hO.size⟩⟩
theorem Quants.pairT {b:Nat}{L:List (Int×Int)}{len dp:Int}{a:Nat→Addr}{w w':World}{p:Value}{o:Bool×Pro.Out×Int}{x:Ending}(h:Quants b L len dp a w p o x w'):∃ p q,x = .returned (.tuple #[p,q]):=by
 obtain ⟨_,⟨_,h,_⟩ |⟨_,_,h,_⟩ |⟨_,_,_,v,h,_⟩⟩:=h
 ·exact ⟨_,_,h⟩
 ·exact ⟨_,_,h⟩
 ·exact ⟨_,_,h⟩
theorem as_noT {k:Nat}{x:Ending}{c:Int}(h:(k≠0∧x = .returned (.tuple #[.int .i64 c,.bool true]))∨(k=0∧x = .returned (.tuple #[.int .i64 0,.bool false])))(hk:k=0):True∧x = .returned (.tuple #[.int .i64 0,.bool false]):=by
 rcases h with ⟨h,_⟩ |⟨_,h⟩
 ·exact absurd hk h
 ·exact ⟨trivial,h⟩
theorem as_yesT {k:Nat}{x:Ending}{c:Int}(h:(k≠0∧x = .returned (.tuple #[.int .i64 c,.bool true]))∨(k=0∧x = .returned (.tuple #[.int .i64 0,.bool false])))(hk:k≠0):True∧x = .returned (.tuple #[.int .i64 c,.bool true]):=by
 rcases h with ⟨_,h⟩ |⟨h,_⟩
 ·exact ⟨trivial,h⟩
 ·exact absurd h hk
theorem Jj (b:Nat)(L:List (Int×Int))(n:Nat)(len dp:Int)(a:Nat→Addr)(D:Nat→Pro.Out)(DT:Nat→Tree)(w:World)(h:RdAt w b L n len dp)(hS:Sents w a)(hb:10≤b)(hL:L.length≤400)(hn:n<L.length)(hF:Pro.Fit L)(hG:j7 b L len dp a D DT)(hD:Pro.DOK L D) :
  Calls Tryz.prog 148 #[.pointer (some ⟨b,0,none⟩)] w (GivesT b L len dp a w (Pro.yq L len D n) (Pro.xR L len D DT n)):=by
 have hlt:=h.lt
 have HR:=ze h
 have HS:=ze hS
 have HG:=ze hG
 have HD:=ze hD
 clear h hS hG hD
 by_cases has:Pro.asN L n=0
 ·have hin:=Pro.XV (len:=len) (zb HD) n hn
  by_cases hk:(Pro.zJ L len D n).k=0
  ·go_enter Tryz.func148,Tryz.ntmps148
   go_wp2_with (first
    |(go_at_call 182;refine (j6 b L n len dp a _ (zb HR) (zb HS) hb hL (by omega)).mono ?_;rintro e w1 ⟨hO1,hR1,hT1⟩;rw [has] at hR1;obtain ⟨_,rfl⟩:=as_noT hT1 has;clear hT1;have HR1:=ze hR1;have HS1:=ze ((zb HS).mine hO1 hb);have HO1:=ze hO1;clear hR1 hO1)
    |(go_at_call 183;refine (Qi b L n len dp a D DT _ (zb HR1) (zb HS1) hb hL hn hF (zb HG)).mono ?_;intro e w2 hg;obtain ⟨T2,y2,F2,rfl,hs2,hO2,hR2⟩:=qh (hg.after (zb HO1)) hk;have Hs2:=ze hs2;have HO2:=ze hO2;have HR2:=ze hR2;have HS2:=ze ((zb HS).mine hO2 hb);clear hg hs2 hO2 hR2)
    |(go_at_call 184;refine (XU b L (Pro.zJ L len D n).n len dp a _ T2 y2 (zb HR2) (zb HS2) hb hL hin.2.1 hF).mono ?_;intro e w3 hq;obtain ⟨p1,p2,rfl⟩:=hq.pairT;have Hq:=ze hq;clear hq))
   go_ret2
   refine (zb Hq).givesT hlt (zb HO2) (zb Hs2) ?_ ?_ ?_
   ·intro hq0
    have hqn:=(Pro.Q2 (L:=L) (len:=len) (Pro.zJ L len D n).n hin.2.1).2.2 hq0
    unfold Pro.yq
    rw [if_neg (by simp [has]),if_neg (by simp [hk]),if_pos hq0,hqn]
    refine ⟨hk,?_,rfl⟩
    unfold Pro.xR
    rw [if_neg (by simp [has]),if_pos hq0]
   ·intro hq1 hk2
    unfold Pro.yq
    rw [if_neg (by simp [has]),if_neg (by simp [hk]),if_neg (by simp [hq1]),if_pos hk2]
   ·intro hq1 hk2
    unfold Pro.yq
    rw [if_neg (by simp [has]),if_neg (by simp [hk]),if_neg (by simp [hq1]),if_neg (by simp [hk2])]
    refine ⟨⟨_,rfl⟩,?_⟩
    unfold Pro.xR
    rw [if_neg (by simp [has]),if_neg (by simp [hq1])]
  ·have HO:Hid (Pro.yq L len D n=Pro.zJ L len D n):=by unfold Pro.yq;rw [if_neg (by simp [has]),if_pos hk];rfl
   go_enter Tryz.func148,Tryz.ntmps148
   go_wp2_with (first
    |(go_at_call 182;refine (j6 b L n len dp a _ (zb HR) (zb HS) hb hL (by omega)).mono ?_;rintro e w1 ⟨hO1,hR1,hT1⟩;rw [has] at hR1;obtain ⟨_,rfl⟩:=as_noT hT1 has;clear hT1;have HR1:=ze hR1;have HS1:=ze ((zb HS).mine hO1 hb);have HO1:=ze hO1;clear hR1 hO1)
    |(go_at_call 183;refine (Qi b L n len dp a D DT _ (zb HR1) (zb HS1) hb hL hn hF (zb HG)).mono ?_;intro e w2 hg;obtain ⟨g2,rfl,hv2,hO2,hR2⟩:=wI (hg.after (zb HO1)) hk;have Hv2:=ze hv2;have HO2:=ze hO2;have HR2:=ze hR2;clear hg hv2 hO2 hR2))
   go_ret2
   rw [zb HO]
   exact ⟨zb HO2,zb HR2,.inr ⟨hk,_,rfl,zb Hv2⟩⟩
 ·have HO:Hid (Pro.yq L len D n=Pro.good 1 (n+Pro.asN L n)):=by unfold Pro.yq;rw [if_pos has];rfl
  go_enter Tryz.func148,Tryz.ntmps148
  go_wp2_with (go_at_call 182;refine (j6 b L n len dp a _ (zb HR) (zb HS) hb hL (by omega)).mono ?_;rintro e w1 ⟨hO1,hR1,hT1⟩;obtain ⟨_,rfl⟩:=as_yesT hT1 has;clear hT1;have HR1:=ze hR1;have HO1:=ze hO1;clear hR1 hO1)
  go_ret2
  have ht:Pro.xR L len D DT n=Pro.tAsr (Pro.asV L n):=by unfold Pro.xR;rw [if_pos has]
  rw [ht]
  exact GivesT.good (zb HO) (zb HO1) (zb HR1) (PartAt.leaf (.inl ⟨_,rfl,rfl⟩))
end
end Go.Proofs.YtnagphodmfejiaaGreatDoor
