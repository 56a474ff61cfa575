/- A pattern that stands within brackets reads as it does alone (or its brackets are too deep). -/
import Derived.Test.YtfnkbmglodopkaaGreatDoorWTeOTeB
namespace Go.Proofs.YtfnkbmglodopkaaGreatDoor
section
open Sm (Tree)
namespace Pro
structure Shf (L L':List (Int×Int))(d:Nat):Prop where
 inn:∀ k,k<L.length→zf L' (k+d)=zf L k
 close:zf L' (L.length+d)=41
def shO (d:Nat)(o:Out):Out:=⟨o.k,o.p,o.v,o.n+d⟩
theorem xp {k:Nat}{p:Int}{n:Nat}(h:(bad (k+1) p n).k=0):False:=Nat.succ_ne_zero k h
theorem kB (d:Nat)(v:Int)(n:Nat):shO d (good v n)=good v (n+d):=rfl
section
variable {L L':List (Int×Int)} {len len':Int} {d:Nat}
theorem Shf.look (h:Shf L L' d){k:Nat}(hk:k≤L.length):zf L' (k+d)=zf L k∨(zf L k = -1∧zf L' (k+d)=41):=by
 rcases Nat.lt_or_ge k L.length with h1 |h1
 ·exact .inl (h.inn k h1)
 ·have e:k=L.length:=by omega
  subst e
  exact .inr ⟨zO (Nat.le_refl _),h.close⟩
theorem Shf.long (h:Shf L L' d):L.length+d<L'.length:=zq (by rw [h.close];decide)
theorem sh_zero (h:Shf L L' d){n:Nat}(hn:n≤L.length)(hk:(xY L len n).k=0):xY L' len' (n+d)=shO d (xY L len n):=by
 have hz:dig (zf L n)=false:=by
  unfold xY at hk
  by_cases c:dig (zf L n)=true
  ·rw [if_pos c] at hk;exact (xp hk).elim
  ·simpa using c
 have hz':dig (zf L' (n+d))=false:=by
  rcases h.look hn with e |⟨_,e⟩
  ·rw [e];exact hz
  ·rw [e];rfl
 unfold xY
 rw [hz,hz']
 rfl
theorem WO (h:Shf L L' d){n:Nat}(_hn:n≤L.length)(hk:(ym L len n).k=0):ym L' len' (n+d)=shO d (ym L len n):=by
 unfold ym at hk ⊢
 rcases Nat.lt_or_ge n L.length with h1 |h1
 ·rw [h.inn n h1]
  by_cases c:letter (zf L n)
  ·rw [if_pos c,if_pos c,kB,Nat.add_right_comm]
  ·rw [if_neg c] at hk;exact (xp hk).elim
 ·rw [zO h1,if_neg (by unfold letter;omega)] at hk
  exact (xp hk).elim
theorem Ke (h:Shf L L' d):∀ (f:Nat) (c:Int) (n:Nat),n≤L.length→(hexO L' len' f c (n+d)).k=(hexO L len f c n).k∧(hexO L' len' f c (n+d)).v=(hexO L len f c n).v∧((hexO L len f c n).k=0→hexO L' len' f c (n+d)=shO d (hexO L len f c n)∧(hexO L len f c n).n≤L.length)
 |0,c,n,hn=>⟨rfl,rfl,fun _=>⟨rfl,hn⟩⟩
 |f+1,c,n,hn=>by
  unfold hexO
  rcases Nat.lt_or_ge n L.length with h1 |h1
  ·rw [h.inn n h1]
   by_cases hc:hexV (zf L n)<0
   ·simp only [if_pos hc]
    exact ⟨rfl,rfl,fun k=>(xp k).elim⟩
   ·simp only [if_neg hc]
    rw [show n+d+1=n+1+d by omega]
    exact Ke h f _ (n+1) (by omega)
  ·have e:n=L.length:=by omega
   subst e
   rw [h.close,zO (Nat.le_refl _)]
   simp only [if_pos (show hexV 41<0 by decide),if_pos (show hexV (-1)<0 by decide)]
   exact ⟨rfl,rfl,fun k=>(xp k).elim⟩
theorem Q8 (h:Shf L L' d):∀ (f f':Nat) (c:Int) (g n:Nat),n≤L.length→L.length<n+f→f≤f'→(yw L len f c g n).k=0→yw L' len' f' c g (n+d)=shO d (yw L len f c g n)
 |0,_,_,_,_,hn,hf,_,_=>by omega
 |f+1,0,_,_,_,_,_,hff,_=>by omega
 |f+1,f'+1,c,g,n,hn,hf,hff,hk=>by
  have h1:n<L.length:=by
   rcases Nat.lt_or_ge n L.length with q |q
   ·exact q
   ·unfold yw at hk
    rw [zO q,if_neg (by omega),if_pos (.inl (by decide))] at hk
    exact (xp hk).elim
  unfold yw at hk ⊢
  rw [h.inn n h1]
  by_cases c1:0<g∧zf L n=125
  ·simp only [if_pos c1]
   rw [kB,Nat.add_right_comm]
  ·simp only [if_neg c1] at hk ⊢
   by_cases c2:hexV (zf L n)<0∨1114111<16*c+hexV (zf L n)
   ·simp only [if_pos c2] at hk
    exact (xp hk).elim
   ·simp only [if_neg c2] at hk ⊢
    rw [show n+d+1=n+1+d by omega]
    exact Q8 h f f' _ _ (n+1) (by omega) (by omega) (by omega) hk
theorem sh_low (h:Shf L L' d){n:Nat}(hn:n≤L.length):lowV L' len' (n+d)=lowV L len n:=by
 unfold lowV
 rcases Nat.lt_or_ge n L.length with h1 |h1
 ·rw [h.inn n h1,show n+d+1=n+1+d by omega,show n+d+2=n+2+d by omega]
  rcases Nat.lt_or_ge (n+1) L.length with h2 |h2
  ·rw [h.inn _ h2]
   obtain ⟨e1,e2,_⟩:=Ke (len:=len) (len':=len') h 4 0 (n+2) (by omega)
   rw [e1,e2]
  ·have e:n+1=L.length:=by omega
   rw [zO h2,e,h.close]
   rw [if_neg (fun q=>absurd q.2.1 (by decide)),if_neg (fun q=>absurd q.2.1 (by decide))]
 ·have e:n=L.length:=by omega
  subst e
  rw [h.close,zO (Nat.le_refl _),if_neg (fun q=>absurd q.1 (by decide)),if_neg (fun q=>absurd q.1 (by decide))]
theorem WP (h:Shf L L' d){n:Nat}(hn:n≤L.length)(hk:(zY L len n).k=0):zY L' len' (n+d)=shO d (zY L len n):=by
 obtain ⟨e1,e2,e3⟩:=Ke (len:=len) (len':=len') h 4 0 n hn
 unfold zY at hk ⊢
 rw [e1,e2]
 by_cases c1:(hexO L len 4 0 n).k≠0∨(hexO L len 4 0 n).v<55296∨56319<(hexO L len 4 0 n).v
 ·simp only [if_pos c1] at hk ⊢
  exact (e3 hk).1
 ·simp only [if_neg c1] at hk ⊢
  have hk0:(hexO L len 4 0 n).k=0:=by omega
  obtain ⟨e4,e5⟩:=e3 hk0
  have e6:(hexO L' len' 4 0 (n+d)).n=(hexO L len 4 0 n).n+d:=by rw [e4];rfl
  rw [e6,sh_low (len:=len) h e5]
  by_cases c2:0≤lowV L len (hexO L len 4 0 n).n
  ·simp only [if_pos c2]
   rw [kB,Nat.add_right_comm]
  ·simp only [if_neg c2] at hk ⊢
   exact e4
theorem sh_num (h:Shf L L' d){n:Nat}(_hn:n≤L.length)(hk:(numO L len n).k=0):numO L' len' (n+d)=shO d (numO L len n):=by
 have h1:n<L.length:=by
  rcases Nat.lt_or_ge n L.length with q |q
  ·exact q
  ·unfold numO at hk
   rw [zO q,if_neg (by decide),if_neg (by decide),if_neg (by decide),if_neg (by decide),if_neg (fun q=>absurd q.1 (by decide)),if_neg (by decide)] at hk
   exact (xp hk).elim
 have e5:(zf L n=117∧zf L' (n+1+d)=123)↔(zf L n=117∧zf L (n+1)=123):=by
  rcases h.look (show n+1≤L.length by omega) with e |⟨e,e'⟩
  ·rw [e]
  ·rw [e,e']
   exact ⟨fun q=>absurd q.2 (by decide),fun q=>absurd q.2 (by decide)⟩
 have hlen:=h.long
 unfold numO at hk ⊢
 rw [h.inn n h1,show n+d+1=n+1+d by omega,show n+d+2=n+2+d by omega]
 by_cases c1:wy (zf L n)=true
 ·simp only [if_pos c1];rfl
 simp only [if_neg c1] at hk ⊢
 by_cases c2:zf L n=48
 ·simp only [if_pos c2] at hk ⊢;exact sh_zero h (by omega) hk
 simp only [if_neg c2] at hk ⊢
 by_cases c3:zf L n=99
 ·simp only [if_pos c3] at hk ⊢;exact WO h (by omega) hk
 simp only [if_neg c3] at hk ⊢
 by_cases c4:zf L n=120
 ·simp only [if_pos c4] at hk ⊢;exact ((Ke h 2 0 (n+1) (by omega)).2.2 hk).1
 simp only [if_neg c4] at hk ⊢
 by_cases c6:zf L n=117∧zf L (n+1)=123
 ·rw [if_pos (e5.2 c6),if_pos c6]
  rw [if_pos c6] at hk
  have h2:n+1<L.length:=zq (by rw [c6.2];decide)
  exact Q8 h _ _ 0 0 (n+2) (by omega) (by omega) (by omega) hk
 ·rw [if_neg (fun q=>c6 (e5.1 q)),if_neg c6]
  rw [if_neg c6] at hk
  by_cases c7:zf L n=117
  ·simp only [if_pos c7] at hk ⊢;exact WP h (by omega) hk
  ·simp only [if_neg c7] at hk;exact (xp hk).elim
theorem WQ (h:Shf L L' d){n:Nat}(hn:n≤L.length):setB (zf L' (n+d))=setB (zf L n):=by
 rcases h.look hn with e |⟨e,e'⟩
 ·rw [e]
 ·rw [e,e'];rfl
theorem sh_back (h:Shf L L' d){n:Nat}(hn:n≤L.length):VE (zf L' (n+d))=VE (zf L n):=by
 rcases h.look hn with e |⟨e,e'⟩
 ·rw [e]
 ·rw [e,e'];rfl
theorem jj (h:Shf L L' d){n:Nat}(hn:n≤L.length){c:Int}(h1:c≠-1)(h2:c≠41):zf L' (n+d)=c↔zf L n=c:=by
 rcases h.look hn with e |⟨e,e'⟩
 ·rw [e]
 ·rw [e,e']
  exact ⟨fun q=>absurd q.symm h2,fun q=>absurd q.symm h1⟩
theorem sh_esc (h:Shf L L' d){n:Nat}(hn:n<L.length)(hk:(escO L len n).k=0):escO L' len' (n+d)=shO d (escO L len n):=by
 unfold escO at hk ⊢
 rw [show n+d+1=n+1+d by omega,show n+d+2=n+2+d by omega,WQ h (by omega),sh_back h (by omega)]
 by_cases c1:setB (zf L (n+1))=true
 ·simp only [if_pos c1]
  have h2:n+1<L.length:=by
   rcases Nat.lt_or_ge (n+1) L.length with q |q
   ·exact q
   ·rw [zO q] at c1;exact absurd c1 (by decide)
  rw [h.inn _ h2]
  rfl
 simp only [if_neg c1] at hk ⊢
 by_cases c2:VE (zf L (n+1))=true
 ·simp only [if_pos c2] at hk;exact (xp hk).elim
 simp only [if_neg c2] at hk ⊢
 exact sh_num h (by omega) hk
theorem YJ (h:Shf L L' d){n:Nat}(hn:n<L.length)(hk:(zi L len n).k=0):zi L' len' (n+d)=shO d (zi L len n):=by
 unfold zi at hk ⊢
 rw [h.inn n hn,show n+d+1=n+1+d by omega,show n+d+2=n+2+d by omega]
 simp only [jj h (show n+1≤L.length by omega) (show (98:Int)≠-1 by decide) (show (98:Int)≠41 by decide),jj h (show n+1≤L.length by omega) (show (45:Int)≠-1 by decide) (show (45:Int)≠41 by decide)]
 by_cases c1:zf L n=92∧zf L (n+1)=98
 ·simp only [if_pos c1];rfl
 simp only [if_neg c1] at hk ⊢
 by_cases c2:zf L n=92∧zf L (n+1)=45
 ·simp only [if_pos c2];rfl
 simp only [if_neg c2] at hk ⊢
 by_cases c3:zf L n=92
 ·simp only [if_pos c3] at hk ⊢;exact sh_esc h hn hk
 ·simp only [if_neg c3];rfl
theorem zaB (h:Shf L L' d){n:Nat}(hn:n≤L.length):many L' (n+d)=many L n:=by
 unfold many
 rcases Nat.lt_or_ge n L.length with h1 |h1
 ·rw [h.inn n h1,show n+d+1=n+1+d by omega,WQ h (by omega)]
 ·have e:n=L.length:=by omega
  subst e
  rw [h.close,zO (Nat.le_refl _)]
  rfl
theorem sh_dash (h:Shf L L' d){n:Nat}(hn:n≤L.length)(hm:n+1≠L.length∨zf L n≠45):xJ L' (n+d)=xJ L n:=by
 unfold xJ
 rcases Nat.lt_or_ge n L.length with h1 |h1
 ·rw [h.inn n h1,show n+d+1=n+1+d by omega]
  by_cases c:zf L n=45
  ·rw [h.inn (n+1) (by omega)]
  ·simp [c]
 ·have e:n=L.length:=by omega
  subst e
  rw [h.close,zO (Nat.le_refl _)]
  rfl
theorem sh_range (h:Shf L L' d){m:Bool}{c:Int}{n:Nat}(hn:n+1<L.length)(hk:(xj L len m c n).k=0):xj L' len' m c (n+d)=shO d (xj L len m c n)∧(zi L len (n+1)).k=0:=by
 unfold xj at hk ⊢
 by_cases c1:(zi L len (n+1)).k≠0
 ·simp only [if_pos c1] at hk;exact absurd hk c1
 simp only [if_neg c1] at hk ⊢
 have hk0:(zi L len (n+1)).k=0:=by omega
 have e1:=YJ (len':=len') h hn hk0
 rw [show n+d+1=n+1+d by omega,e1,zaB h (by omega)]
 have c1':¬(shO d (zi L len (n+1))).k≠0:=c1
 simp only [if_neg c1']
 by_cases c2:m=true∨many L (n+1)=true∨(zi L len (n+1)).v<c
 ·simp only [if_pos c2] at hk;exact (xp hk).elim
 ·have c2':¬(m=true∨many L (n+1)=true∨(shO d (zi L len (n+1))).v<c):=c2
  simp only [if_neg c2,if_neg c2']
  exact ⟨trivial,hk0⟩
theorem addO_k0 {n:Nat}(hk:(addO L len n).k=0):(zi L len n).k=0:=by
 unfold addO at hk
 by_cases c1:(zi L len n).k≠0
 ·simp only [if_pos c1] at hk;exact absurd hk c1
 ·omega
theorem addO_ge {n:Nat}:(zi L len n).n≤(addO L len n).n:=by
 unfold addO
 split
 ·exact Nat.le_refl _
 ·split
  ·exact Nat.le_of_lt (Jq _ _ _ (by assumption)).1
  ·exact Nat.le_refl _
theorem zaC {n:Nat}(h:xJ L n=true):n+1<L.length:=by
 unfold xJ at h
 rcases Nat.lt_or_ge (n+1) L.length with q |q
 ·exact q
 ·rw [zO q] at h
  simp at h
theorem sh_add (h:Shf L L' d){n:Nat}(hn:n<L.length)(hd:xJ L' ((zi L len n).n+d)=xJ L (zi L len n).n)(hk:(addO L len n).k=0):addO L' len' (n+d)=shO d (addO L len n)∧(∀ R,addR L' len' (n+d) R=addR L len n R)∧∀ S,addS L' len' (n+d) S=addS L len n S:=by
 have hk0:=addO_k0 hk
 have e1:=YJ (len':=len') h hn hk0
 have e2:(zi L' len' (n+d)).n=(zi L len n).n+d:=by rw [e1];rfl
 have e3:(zi L' len' (n+d)).v=(zi L len n).v:=by rw [e1];rfl
 have e4:(zi L' len' (n+d)).k=0:=by rw [e1];exact hk0
 have em:=zaB h (show n≤L.length by omega)
 unfold addO addR addS at *
 rw [e2,e3,em,hd]
 simp only [if_neg (show ¬(zi L len n).k≠0 by omega),if_neg (show ¬(zi L' len' (n+d)).k≠0 by omega)] at hk ⊢
 by_cases c:xJ L (zi L len n).n=true
 ·simp only [if_pos c] at hk ⊢
  obtain ⟨r1,r2⟩:=sh_range (len':=len') h (zaC c) hk
  refine ⟨r1,fun R=>?_,by intros;trivial⟩
  rw [show (zi L len n).n+d+1=(zi L len n).n+1+d by omega,YJ (len':=len') h (zaC c) r2]
  rfl
 ·simp only [if_neg c]
  exact ⟨e1,by intros;trivial,by intros;trivial⟩
theorem Q9:∀ (f n:Nat),n≤L.length→L.length<n+f→(yG L len f n).k=0→n<(yG L len f n).n∧(yG L len f n).n≤L.length∧zf L ((yG L len f n).n-1)=93
 |0,n,hn,hf,_=>by omega
 |f+1,n,hn,hf,hk=>by
  unfold yG at hk ⊢
  by_cases c1:zf L n=93
  ·simp only [if_pos c1]
   have:n<L.length:=zq (by rw [c1];decide)
   exact ⟨Nat.lt_succ_self _,this,c1⟩
  simp only [if_neg c1] at hk ⊢
  by_cases c2:L.length≤n
  ·simp only [if_pos c2] at hk;exact (xp hk).elim
  simp only [if_neg c2] at hk ⊢
  by_cases c3:(addO L len n).k≠0
  ·simp only [if_pos c3] at hk;exact absurd hk c3
  simp only [if_neg c3] at hk ⊢
  have ha:=XF (L:=L) (len:=len) n (by omega)
  obtain ⟨a1,a2,a3⟩:=Q9 f (addO L len n).n (by omega) (by omega) hk
  exact ⟨by omega,a2,a3⟩
theorem Qf (h:Shf L L' d):∀ (f f' n:Nat),n≤L.length→L.length<n+f→f≤f'→(yG L len f n).k=0→yG L' len' f' (n+d)=shO d (yG L len f n)∧∀ R S,xM L' len' f' (n+d) R S=xM L len f n R S
 |0,_,_,_,_,_,_=>by omega
 |f+1,0,_,_,_,_,_=>by omega
 |f+1,f'+1,n,hn,hf,hff,hk=>by
  have hk9:=hk
  unfold yG at hk
  unfold yG xM
  by_cases c1:zf L n=93
  ·have h1:n<L.length:=zq (by rw [c1];decide)
   rw [h.inn n h1]
   simp only [if_pos c1]
   refine ⟨?_,by intros;trivial⟩
   rw [kB,Nat.add_right_comm]
  simp only [if_neg c1] at hk
  by_cases c2:L.length≤n
  ·simp only [if_pos c2] at hk;exact (xp hk).elim
  simp only [if_neg c2] at hk
  by_cases c3:(addO L len n).k≠0
  ·simp only [if_pos c3] at hk;exact absurd hk c3
  simp only [if_neg c3] at hk
  have h1:n<L.length:=by omega
  have hlen:=h.long
  have ha:=XF (len:=len) n h1
  have hm:=vD (len:=len) n h1
  have hg:=addO_ge (L:=L) (len:=len) (n:=n)
  obtain ⟨a1,a2,a3⟩:=Q9 f (addO L len n).n (by omega) (by omega) hk
  have hd:xJ L' ((zi L len n).n+d)=xJ L (zi L len n).n:=by
   refine sh_dash h (by omega) ?_
   by_cases q:(zi L len n).n+1=L.length
   ·right
    have e:(yG L len f (addO L len n).n).n-1=(zi L len n).n:=by omega
    rw [←e,a3]
    decide
   ·exact .inl q
  obtain ⟨b1,b2,b3⟩:=sh_add (len':=len') h h1 hd (by omega)
  rw [h.inn n h1,b1]
  have c3':¬(shO d (addO L len n)).k≠0:=c3
  simp only [if_neg c1,if_neg c2,if_neg (show ¬L'.length≤n+d by omega),if_neg c3,if_neg c3']
  obtain ⟨d1,d2⟩:=Qf h f f' (addO L len n).n (by omega) (by omega) (by omega) hk
  refine ⟨d1,fun R S=>?_⟩
  rw [b2,b3]
  exact d2 _ _
theorem zcb (h:Shf L L' d){n:Nat}(hn:n<L.length)(hk:(qf L len n).k=0):qf L' len' (n+d)=shO d (qf L len n)∧xN L' len' (n+d)=xN L len n:=by
 have hlen:=h.long
 have e9:zf L' (n+1+d)=94↔zf L (n+1)=94:=jj h (by omega) (by decide) (by decide)
 unfold qf at hk ⊢
 unfold xN
 rw [show n+d+1=n+1+d by omega,show n+d+2=n+2+d by omega]
 by_cases c:zf L (n+1)=94
 ·have h1:n+1<L.length:=zq (by rw [c];decide)
  simp only [if_pos c,e9] at hk ⊢
  obtain ⟨a,b⟩:=Qf (len':=len') h (L.length+1-n) (L'.length+1-(n+d)) (n+2) (by omega) (by omega) (by omega) hk
  rw [a,b]
  exact ⟨rfl,rfl⟩
 ·have c':¬zf L' (n+1+d)=94:=fun q=>c (e9.1 q)
  simp only [if_neg c,e9] at hk ⊢
  obtain ⟨a,b⟩:=Qf (len':=len') h (L.length+1-n) (L'.length+1-(n+d)) (n+1) (by omega) (by omega) (by omega) hk
  rw [a,b]
  exact ⟨rfl,rfl⟩
theorem Ja (h:Shf L L' d):∀ (f f':Nat) (c:Int) (n:Nat),n≤L.length→L.length<n+f→f≤f'→qg L' f' c (n+d)=((qg L f c n).1,(qg L f c n).2+d)
 |0,_,_,_,_,_,_=>by omega
 |f+1,0,_,_,_,_,_=>by omega
 |f+1,f'+1,c,n,hn,hf,hff=>by
  unfold qg
  rcases Nat.lt_or_ge n L.length with h1 |h1
  ·rw [h.inn n h1]
   by_cases c1:dig (zf L n)=true
   ·simp only [if_pos c1]
    rw [show n+d+1=n+1+d by omega]
    exact Ja h f f' _ (n+1) (by omega) (by omega) (by omega)
   ·simp only [if_neg c1]
  ·have e:n=L.length:=by omega
   subst e
   rw [h.close,zO (Nat.le_refl _)]
   rfl
theorem Jb (h:Shf L L' d){n:Nat}(hn:n≤L.length)(hk:(zj L len n).k=0):zj L' len' (n+d)=shO d (zj L len n):=by
 have hlen:=h.long
 have hp:countP L' (n+d)=((countP L n).1,(countP L n).2+d):=Ja h _ _ 0 n hn (by omega) (by omega)
 unfold zj at hk ⊢
 by_cases c1:dig (zf L n)=false
 ·simp only [if_pos c1] at hk;exact (xp hk).elim
 have h1:n<L.length:=WY (by simpa using c1)
 rw [h.inn n h1,hp]
 simp only [if_neg c1] at hk ⊢
 by_cases c2:100<(countP L n).1
 ·simp only [if_pos c2] at hk;exact (xp hk).elim
 ·simp only [if_neg c2];rfl
theorem zcc (h:Shf L L' d){n:Nat}(hn:n<L.length)(hk:(zJ L len n).1.k=0):zJ L' len' (n+d)=(shO d (zJ L len n).1,(zJ L len n).2):=by
 unfold zJ at hk ⊢
 simp only at hk ⊢
 rw [show n+d+1=n+1+d by omega]
 by_cases c1:(zj L len (n+1)).k≠0
 ·simp only [if_pos c1] at hk;exact absurd hk c1
 have e1:=Jb (len':=len') h (show n+1≤L.length by omega) (show (zj L len (n+1)).k=0 by omega)
 have i1:=qV (len:=len) (n+1) (show n+1≤L.length by omega)
 rw [e1]
 generalize hA:zj L len (n+1)=A at *
 have c1':¬(shO d A).k≠0:=c1
 have eN:(shO d A).n=A.n+d:=rfl
 have eV:(shO d A).v=A.v:=rfl
 simp only [if_neg c1,if_neg c1',eN,eV] at hk ⊢
 rw [show A.n+d+1=A.n+1+d by omega,show A.n+d+2=A.n+2+d by omega]
 have q1:=jj h (show A.n≤L.length by omega) (show (125:Int)≠-1 by decide) (show (125:Int)≠41 by decide)
 have q2:=jj h (show A.n≤L.length by omega) (show (44:Int)≠-1 by decide) (show (44:Int)≠41 by decide)
 by_cases c2:zf L A.n=125
 ·simp only [if_pos c2,if_pos (q1.2 c2)]
  rfl
 simp only [if_neg c2,if_neg (fun q=>c2 (q1.1 q))] at hk ⊢
 by_cases c3:zf L A.n≠44
 ·simp only [if_pos c3] at hk;exact (xp hk).elim
 have c3':¬zf L' (A.n+d)≠44:=fun q=>c3 (fun e=>q (q2.2 e))
 simp only [if_neg c3,if_neg c3'] at hk ⊢
 have h2:A.n<L.length:=zq (by rw [show zf L A.n=44 by simpa using c3];decide)
 have q3:=jj h (show A.n+1≤L.length by omega) (show (125:Int)≠-1 by decide) (show (125:Int)≠41 by decide)
 by_cases c4:zf L (A.n+1)=125
 ·simp only [if_pos c4,if_pos (q3.2 c4)]
  rfl
 simp only [if_neg c4,if_neg (fun q=>c4 (q3.1 q))] at hk ⊢
 by_cases c5:(zj L len (A.n+1)).k≠0
 ·simp only [if_pos c5] at hk;exact absurd hk c5
 have e2:=Jb (len':=len') h (show A.n+1≤L.length by omega) (show (zj L len (A.n+1)).k=0 by omega)
 have i2:=qV (len:=len) (A.n+1) (show A.n+1≤L.length by omega)
 rw [e2]
 generalize hM:zj L len (A.n+1)=M at *
 have c5':¬(shO d M).k≠0:=c5
 have eN':(shO d M).n=M.n+d:=rfl
 have eV':(shO d M).v=M.v:=rfl
 simp only [if_neg c5,if_neg c5',eN',eV'] at hk ⊢
 rw [show M.n+d+1=M.n+1+d by omega]
 have q4:=jj h (show M.n≤L.length by omega) (show (125:Int)≠-1 by decide) (show (125:Int)≠41 by decide)
 by_cases c6:zf L M.n≠125
 ·simp only [if_pos c6] at hk;exact (xp hk).elim
 have c6':¬zf L' (M.n+d)≠125:=fun q=>c6 (fun e=>q (q4.2 e))
 simp only [if_neg c6,if_neg c6'] at hk ⊢
 by_cases c7:M.v<A.v
 ·simp only [if_pos c7] at hk;exact (xp hk).elim
 ·simp only [if_neg c7]
  rfl
theorem Vg (h:Shf L L' d){n:Nat}(hn:n≤L.length)(hk:(zu L len n).2.1.k=0):zu L' len' (n+d)=((zu L len n).1,shO d (zu L len n).2.1,(zu L len n).2.2):=by
 have q1:=jj h hn (show (42:Int)≠-1 by decide) (show (42:Int)≠41 by decide)
 have q2:=jj h hn (show (43:Int)≠-1 by decide) (show (43:Int)≠41 by decide)
 have q3:=jj h hn (show (63:Int)≠-1 by decide) (show (63:Int)≠41 by decide)
 have q4:=jj h hn (show (123:Int)≠-1 by decide) (show (123:Int)≠41 by decide)
 unfold zu at hk ⊢
 rw [show n+d+1=n+1+d by omega]
 by_cases c1:zf L n=42
 ·simp only [if_pos c1,if_pos (q1.2 c1)];rfl
 simp only [if_neg c1,if_neg (fun q=>c1 (q1.1 q))] at hk ⊢
 by_cases c2:zf L n=43
 ·simp only [if_pos c2,if_pos (q2.2 c2)];rfl
 simp only [if_neg c2,if_neg (fun q=>c2 (q2.1 q))] at hk ⊢
 by_cases c3:zf L n=63
 ·simp only [if_pos c3,if_pos (q3.2 c3)];rfl
 simp only [if_neg c3,if_neg (fun q=>c3 (q3.1 q))] at hk ⊢
 by_cases c4:zf L n=123
 ·simp only [if_pos c4,if_pos (q4.2 c4)] at hk ⊢
  rw [zcc h (zq (by rw [c4];decide)) hk]
 ·simp only [if_neg c4,if_neg (fun q=>c4 (q4.1 q))];rfl
theorem sh_lazy (h:Shf L L' d){n:Nat}(hn:n≤L.length):jR L' (n+d)=jR L n+d:=by
 have q3:=jj h hn (show (63:Int)≠-1 by decide) (show (63:Int)≠41 by decide)
 unfold jR
 by_cases c3:zf L n=63
 ·rw [if_pos c3,if_pos (q3.2 c3)];omega
 ·rw [if_neg c3,if_neg (fun q=>c3 (q3.1 q))]
theorem sh_open (h:Shf L L' d){n:Nat}(hn:n<L.length)(hk:(zS L len n).k=0):zS L' len' (n+d)=shO d (zS L len n):=by
 have q1:=jj h (show n+1≤L.length by omega) (show (63:Int)≠-1 by decide) (show (63:Int)≠41 by decide)
 unfold zS at hk ⊢
 rw [show n+d+1=n+1+d by omega,show n+d+2=n+2+d by omega,show n+d+3=n+3+d by omega]
 by_cases c1:zf L (n+1)=63
 ·simp only [if_pos c1,if_pos (q1.2 c1)] at hk ⊢
  have h2:n+1<L.length:=zq (by rw [c1];decide)
  by_cases c2:zf L (n+2)=58
  ·simp only [if_pos c2,if_pos ((jj h (show n+2≤L.length by omega) (show (58:Int)≠-1 by decide) (show (58:Int)≠41 by decide)).2 c2)]
   rfl
  ·simp only [if_neg c2] at hk
   split at hk<;>exact (xp hk).elim
 ·simp only [if_neg c1,if_neg (fun q=>c1 (q1.1 q))];rfl
theorem sh_asN (h:Shf L L' d){n:Nat}(hn:n≤L.length):asN L' (n+d)=asN L n:=by
 unfold asN
 rcases Nat.lt_or_ge n L.length with h1 |h1
 ·rw [h.inn n h1,show n+d+1=n+1+d by omega]
  simp only [jj h (show n+1≤L.length by omega) (show (98:Int)≠-1 by decide) (show (98:Int)≠41 by decide),jj h (show n+1≤L.length by omega) (show (66:Int)≠-1 by decide) (show (66:Int)≠41 by decide)]
 ·have e:n=L.length:=by omega
  subst e
  rw [h.close,zO (Nat.le_refl _)]
  simp
theorem sh_asV (h:Shf L L' d){n:Nat}(hn:n<L.length):asV L' (n+d)=asV L n:=by
 unfold asV
 rw [h.inn n hn,show n+d+1=n+1+d by omega]
 simp only [jj h (show n+1≤L.length by omega) (show (98:Int)≠-1 by decide) (show (98:Int)≠41 by decide)]
end
end Pro
namespace Pro
section
variable {L L':List (Int×Int)} {len len':Int} {d:Nat} {D D':Nat→Out} {DT DT':Nat→Tree}
def ShD (L:List (Int×Int))(d:Nat)(D D':Nat→Out)(DT DT':Nat→Tree):Prop:=∀ n,n<L.length→zf L n=40→(D n).k=0→(D' (n+d)=shO d (D n)∧DT' (n+d)=DT n)∨(D' (n+d)).k=7
theorem Kf {o:Out}(hk:(one o).k=0):o.k=0:=by
 unfold one at hk
 by_cases c:o.k=0
 ·exact c
 ·rw [if_neg c] at hk;exact hk
theorem sh_one {o:Out}(hk:o.k=0):one (shO d o)=shO d (one o):=by
 unfold one
 rw [if_pos hk,if_pos (show (shO d o).k=0 from hk)]
 rfl
theorem sh_atom (h:Shf L L' d)(hD:ShD L d D D' DT DT'){n:Nat}(hn:n<L.length)(hk:(zL L len D n).k=0):(zL L' len' D' (n+d)=shO d (zL L len D n)∧xk L' len' DT' (n+d)=xk L len DT n)∨(zL L' len' D' (n+d)).k=7:=by
 unfold zL at hk ⊢
 unfold xk
 rw [h.inn n hn]
 by_cases c1:ZI (zf L n)=true
 ·simp only [if_pos c1] at hk;exact (xp hk).elim
 simp only [if_neg c1] at hk ⊢
 by_cases c2:zf L n=40
 ·simp only [if_pos c2] at hk ⊢
  exact hD n hn c2 hk
 simp only [if_neg c2] at hk ⊢
 by_cases c3:zf L n=91
 ·simp only [if_pos c3] at hk ⊢
  obtain ⟨a,b⟩:=zcb (len':=len') h hn (Kf hk)
  rw [a,b,sh_one (Kf hk)]
  exact .inl ⟨rfl,rfl⟩
 simp only [if_neg c3] at hk ⊢
 by_cases c4:zf L n=92
 ·simp only [if_pos c4] at hk ⊢
  have a:=sh_esc (len':=len') h hn (Kf hk)
  rw [a,sh_one (Kf hk),show n+d+1=n+1+d by omega,WQ h (by omega)]
  exact .inl ⟨rfl,rfl⟩
 simp only [if_neg c4]
 left
 rw [kB,show n+d+1=n+1+d by omega]
 exact ⟨rfl,by first |rfl |trivial⟩
theorem sh_term (h:Shf L L' d)(hO:DOK L D)(hD:ShD L d D D' DT DT'){n:Nat}(hn:n<L.length)(hk:(zV L len D n).k=0):(zV L' len' D' (n+d)=shO d (zV L len D n)∧xO L' len' D' DT' (n+d)=xO L len D DT n)∨(zV L' len' D' (n+d)).k=7:=by
 unfold zV at hk ⊢
 unfold xO
 rw [sh_asN h (by omega),sh_asV h hn]
 by_cases c1:asN L n≠0
 ·simp only [if_pos c1]
  left
  rw [kB,show n+d+asN L n=n+asN L n+d by omega]
  exact ⟨rfl,by first |rfl |trivial⟩
 simp only [if_neg c1] at hk ⊢
 by_cases c2:(zL L len D n).k≠0
 ·simp only [if_pos c2] at hk;exact absurd hk c2
 have i1:=QC (len:=len) hO n hn
 simp only [if_neg c2] at hk ⊢
 rcases sh_atom (len:=len) (len':=len') h hD hn (show (zL L len D n).k=0 by omega) with ⟨a,b⟩ |a
 ·rw [a,b]
  generalize zL L len D n=A at *
  have c2':¬(shO d A).k≠0:=c2
  have eN:(shO d A).n=A.n+d:=rfl
  have eV:(shO d A).v=A.v:=rfl
  simp only [if_neg c2',eN,eV] at hk ⊢
  by_cases c3:(zu L len A.n).1=false
  ·have hq:(zu L len A.n).2.1.k=0:=by
    unfold zu at c3 ⊢
    repeat' (split at c3;· cases c3)
    simp_all [good]
   rw [Vg (len':=len') (len:=len) h (by omega) hq]
   simp only [if_pos c3]
   exact .inl ⟨by first |rfl |trivial,by first |rfl |trivial⟩
  ·simp only [if_neg c3] at hk ⊢
   by_cases c4:(zu L len A.n).2.1.k≠0
   ·simp only [if_pos c4] at hk;exact absurd hk c4
   have i2:=YY (len:=len) A.n (show A.n≤L.length by omega)
   rw [Vg (len':=len') (len:=len) h (by omega) (by omega)]
   generalize zu L len A.n=Q at *
   have c4':¬(shO d Q.2.1).k≠0:=c4
   simp only [if_neg c3,if_neg c4,if_neg c4']
   left
   rw [kB]
   refine ⟨?_,rfl⟩
   rw [←sh_lazy h (show Q.2.1.n≤L.length by omega)]
   rfl
 ·right
  rw [if_pos (by omega)]
  exact a
theorem sh_stop (h:Shf L L' d){n:Nat}(hn:n≤L.length):yx L' (n+d)=yx L n:=by
 have hl:=h.long
 unfold yx
 rcases Nat.lt_or_ge n L.length with h1 |h1
 ·rw [h.inn n h1]
  have e1:decide (L.length≤n)=false:=by simp;omega
  have e2:decide (L'.length≤n+d)=false:=by simp;omega
  rw [e1,e2]
 ·have e:n=L.length:=by omega
  subst e
  rw [h.close]
  simp
theorem Vh (h:Shf L L' d)(hO:DOK L D)(hD:ShD L d D D' DT DT'):∀ (f f':Nat) (s:Int) (ts:List Tree) (n:Nat),n≤L.length→L.length<n+f→f≤f'→(yp L len D f s n).k=0→(yp L' len' D' f' s (n+d)=shO d (yp L len D f s n)∧xt L' len' D' DT' f' ts (n+d)=xt L len D DT f ts n)∨(yp L' len' D' f' s (n+d)).k=7
 |0,_,_,_,_,_,_,_,_=>by omega
 |f+1,0,_,_,_,_,_,_,_=>by omega
 |f+1,f'+1,s,ts,n,hn,hf,hff,hk=>by
  unfold yp at hk ⊢
  unfold xt
  rw [sh_stop h hn]
  by_cases c1:yx L n=true
  ·simp only [if_pos c1]
   exact .inl ⟨rfl,trivial⟩
  simp only [if_neg c1] at hk ⊢
  have h1:n<L.length:=by
   unfold yx at c1
   simp at c1
   omega
  by_cases c2:(zV L len D n).k≠0
  ·simp only [if_pos c2] at hk;exact absurd hk c2
  simp only [if_neg c2] at hk ⊢
  have i1:=Ym (len:=len) hO n h1
  rcases sh_term (len:=len) (len':=len') h hO hD h1 (by omega) with ⟨a,b⟩ |a
  ·rw [a,b]
   have c2':¬(shO d (zV L len D n)).k≠0:=c2
   simp only [if_neg c2']
   exact Vh h hO hD f f' _ _ (zV L len D n).n (by omega) (by omega) (by omega) hk
  ·right
   rw [if_pos (by omega)]
   exact a
theorem zcd (h:Shf L L' d)(hO:DOK L D)(hD:ShD L d D D' DT DT'){n:Nat}(hn:n≤L.length)(hk:(zw L len D n).k=0):(zw L' len' D' (n+d)=shO d (zw L len D n)∧yq L' len' D' DT' (n+d)=yq L len D DT n)∨(zw L' len' D' (n+d)).k=7:=by
 have hl:=h.long
 rcases Vh (len:=len) (len':=len') h hO hD (L.length+1-n) (L'.length+1-(n+d)) 0 [] n hn (by omega) (by omega) hk with ⟨a,b⟩ |a
 ·exact .inl ⟨a,by unfold yq;rw [b]⟩
 ·exact .inr a
theorem sh_alt (h:Shf L L' d)(hO:DOK L D)(hD:ShD L d D D' DT DT'):∀ (f f':Nat) (zs:List Int) (ts:List Tree) (n:Nat),n≤L.length→L.length<n+f→f≤f'→(altO L len D f zs n).k=0→(altO L' len' D' f' zs (n+d)=shO d (altO L len D f zs n)∧altT L' len' D' DT' f' ts (n+d)=altT L len D DT f ts n)∨(altO L' len' D' f' zs (n+d)).k=7
 |0,_,_,_,_,_,_,_,_=>by omega
 |f+1,0,_,_,_,_,_,_,_=>by omega
 |f+1,f'+1,zs,ts,n,hn,hf,hff,hk=>by
  unfold altO at hk ⊢
  unfold altT
  by_cases c1:(zw L len D n).k≠0
  ·simp only [if_pos c1] at hk;exact absurd hk c1
  simp only [if_neg c1] at hk ⊢
  have i1:=vk (len:=len) hO n hn
  rcases zcd (len:=len) (len':=len') h hO hD hn (by omega) with ⟨a,b⟩ |a
  ·rw [a,b]
   generalize zw L len D n=A at *
   have c1':¬(shO d A).k≠0:=c1
   have eN:(shO d A).n=A.n+d:=rfl
   have eV:(shO d A).v=A.v:=rfl
   have q1:=jj h (show A.n≤L.length by omega) (show (124:Int)≠-1 by decide) (show (124:Int)≠41 by decide)
   simp only [if_neg c1',eN,eV] at hk ⊢
   by_cases c2:zf L A.n=124
   ·simp only [if_pos c2,if_pos (q1.2 c2)] at hk ⊢
    have h2:A.n<L.length:=zq (by rw [c2];decide)
    rw [show A.n+d+1=A.n+1+d by omega]
    exact sh_alt h hO hD f f' _ _ (A.n+1) (by omega) (by omega) (by omega) hk
   ·simp only [if_neg c2,if_neg (fun q=>c2 (q1.1 q))]
    exact .inl ⟨rfl,trivial⟩
  ·right
   rw [if_pos (by omega)]
   exact a
theorem zaD (h:Shf L L' d)(hO:DOK L D)(hD:ShD L d D D' DT DT'){n:Nat}(hn:n≤L.length)(hk:(altP L len D n).k=0):(altP L' len' D' (n+d)=shO d (altP L len D n)∧altQ L' len' D' DT' (n+d)=altQ L len D DT n)∨(altP L' len' D' (n+d)).k=7:=by
 have hl:=h.long
 rcases sh_alt (len:=len) (len':=len') h hO hD (L.length+1-n) (L'.length+1-(n+d)) [] [] n hn (by omega) (by omega) hk with ⟨a,b⟩ |a
 ·exact .inl ⟨a,by unfold altQ;rw [b]⟩
 ·exact .inr a
theorem zaE (h:Shf L L' d):∀ (r r':Nat),r'≤r→ShD L d (zl L len r) (zl L' len' r') (zH L len r) (zH L' len' r')
 |0,_,_=>fun n _ _ hk=>by unfold zl at hk;exact (xp hk).elim
 |r+1,0,_=>fun n _ _ _=>.inr rfl
 |r+1,r'+1,hr=>fun n hn h40 hk=>by
  unfold zl qE at hk ⊢
  unfold zH
  by_cases c1:(zS L len n).k≠0
  ·simp only [if_pos c1] at hk;exact absurd hk c1
  have i1:=wI (len:=len) n hn
  rw [sh_open (len:=len) h hn (by omega)]
  generalize zS L len n=A at *
  have c1':¬(shO d A).k≠0:=c1
  have eN:(shO d A).n=A.n+d:=rfl
  simp only [if_neg c1,if_neg c1',eN] at hk ⊢
  by_cases c2:(altP L len (zl L len r) A.n).k≠0
  ·simp only [if_pos c2] at hk;exact absurd hk c2
  have i2:=yF (len:=len) (zQ (L:=L) (len:=len) r) A.n (by omega)
  simp only [if_neg c2] at hk ⊢
  rcases zaD (len:=len) (len':=len') h (zQ r) (zaE h r r' (by omega)) (n:=A.n) (by omega) (by omega) with ⟨a,b⟩ |a
  ·rw [a,b]
   generalize altP L len (zl L len r) A.n=B at *
   have c2':¬(shO d B).k≠0:=c2
   have eN':(shO d B).n=B.n+d:=rfl
   have eV':(shO d B).v=B.v:=rfl
   simp only [if_neg c2',eN',eV'] at hk ⊢
   by_cases c3:zf L B.n=41
   ·have h3:B.n<L.length:=zq (by rw [c3];decide)
    rw [h.inn _ h3]
    simp only [if_pos c3]
    rw [kB,show B.n+d+1=B.n+1+d by omega]
    exact .inl ⟨rfl,by first |rfl |trivial⟩
   ·simp only [if_neg c3] at hk;exact (xp hk).elim
  ·right
   rw [if_pos (by omega)]
   exact a
theorem sh_whole (h:Shf L L' d){r:Nat}(hr:r≤10)(hk:(altP L len (zl L len 10) 0).k=0):(altP L' len' (zl L' len' r) d=shO d (altP L len (zl L len 10) 0)∧altQ L' len' (zl L' len' r) (zH L' len' r) d=altQ L len (zl L len 10) (zH L len 10) 0)∨(altP L' len' (zl L' len' r) d).k=7:=by
 have:=zaD (len:=len) (len':=len') (n:=0) h (zQ 10) (zaE (len':=len') h 10 r hr) (Nat.zero_le _) hk
 simpa using this
end
end Pro
namespace Pro
section
variable {L:List (Int×Int)} {len:Int}
theorem qp {k:Nat}(h:k≠7)(p:Int)(n:Nat):(bad k p n).k≠7:=h
theorem z8 (v:Int)(n:Nat):(good v n).k≠7:=by show (0:Nat)≠7;decide
theorem zeroO_n7 (n:Nat):(xY L len n).k≠7:=by unfold xY;split;exact qp (by decide) _ _;exact z8 _ _
theorem Vi (n:Nat):(ym L len n).k≠7:=by unfold ym;split;exact z8 _ _;exact qp (by decide) _ _
theorem XD:∀ (f:Nat) (c:Int) (n:Nat),(hexO L len f c n).k≠7
 |0,c,n=>z8 _ _
 |f+1,c,n=>by unfold hexO;split;exact qp (by decide) _ _;exact XD f _ _
theorem Qg:∀ (f:Nat) (c:Int) (d n:Nat),(yw L len f c d n).k≠7
 |0,c,_,n=>z8 _ _
 |f+1,c,d,n=>by
  unfold yw;split
  ·exact z8 _ _
  ·split;exact qp (by decide) _ _;exact Qg f _ _ _
theorem Vj (n:Nat):(zY L len n).k≠7:=by
 unfold zY;split
 ·exact XD _ _ _
 ·split;exact z8 _ _;exact XD _ _ _
theorem numO_n7 (n:Nat):(numO L len n).k≠7:=by
 unfold numO;split
 ·exact z8 _ _
 ·split
  ·exact zeroO_n7 _
  ·split
   ·exact Vi _
   ·split
    ·exact XD _ _ _
    ·split
     ·exact Qg _ _ _ _
     ·split;exact Vj _;exact qp (by decide) _ _
theorem zaF (n:Nat):(escO L len n).k≠7:=by
 unfold escO;split
 ·exact z8 _ _
 ·split;exact qp (by decide) _ _;exact numO_n7 _
theorem vz (n:Nat):(zi L len n).k≠7:=by
 unfold zi;split
 ·exact z8 _ _
 ·split
  ·exact z8 _ _
  ·split;exact zaF _;exact z8 _ _
theorem zce (m:Bool)(c:Int)(n:Nat):(xj L len m c n).k≠7:=by
 unfold xj;split
 ·exact vz _
 ·split;exact qp (by decide) _ _;exact vz _
theorem addO_n7 (n:Nat):(addO L len n).k≠7:=by
 unfold addO;split
 ·exact vz _
 ·split;exact zce _ _ _;exact vz _
theorem Jc:∀ (f n:Nat),(yG L len f n).k≠7
 |0,n=>z8 _ _
 |f+1,n=>by
  unfold yG;split
  ·exact z8 _ _
  ·split
   ·exact qp (by decide) _ _
   ·split;exact addO_n7 _;exact Jc f _
theorem Jd (n:Nat):(zj L len n).k≠7:=by
 unfold zj;split
 ·exact qp (by decide) _ _
 ·split;exact qp (by decide) _ _;exact z8 _ _
theorem WR (n:Nat):(zJ L len n).1.k≠7:=by
 unfold zJ;simp only []
 split
 ·exact Jd _
 ·split
  ·exact z8 _ _
  ·split
   ·exact qp (by decide) _ _
   ·split
    ·exact z8 _ _
    ·split
     ·exact Jd _
     ·split
      ·exact qp (by decide) _ _
      ·split;exact qp (by decide) _ _;exact z8 _ _
theorem zcf (n:Nat):(zu L len n).2.1.k≠7:=by
 unfold zu;split
 ·exact z8 _ _
 ·split
  ·exact z8 _ _
  ·split
   ·exact z8 _ _
   ·split;exact WR _;exact z8 _ _
theorem openO_n7 (n:Nat):(zS L len n).k≠7:=by
 unfold zS;split
 ·split
  ·exact z8 _ _
  ·split;exact qp (by decide) _ _;exact qp (by decide) _ _
 ·exact z8 _ _
theorem zaG {o:Out}(h:o.k≠7):(one o).k≠7:=by unfold one;split;exact z8 _ _;exact h
variable {D:Nat→Out}
theorem atom7 {n:Nat}(hk:(zL L len D n).k=7):zf L n=40∧(D n).k=7:=by
 unfold zL at hk
 by_cases c1:ZI (zf L n)=true
 ·simp only [if_pos c1] at hk;exact absurd hk (qp (by decide) _ _)
 simp only [if_neg c1] at hk
 by_cases c2:zf L n=40
 ·simp only [if_pos c2] at hk;exact ⟨c2,hk⟩
 simp only [if_neg c2] at hk
 by_cases c3:zf L n=91
 ·simp only [if_pos c3] at hk;exact absurd hk (zaG (Jc _ _))
 simp only [if_neg c3] at hk
 by_cases c4:zf L n=92
 ·simp only [if_pos c4] at hk;exact absurd hk (zaG (zaF _))
 simp only [if_neg c4] at hk
 exact absurd hk (z8 _ _)
theorem term7 {n:Nat}(hk:(zV L len D n).k=7):zf L n=40∧(D n).k=7:=by
 unfold zV at hk
 by_cases c1:asN L n≠0
 ·simp only [if_pos c1] at hk;exact absurd hk (z8 _ _)
 simp only [if_neg c1] at hk
 by_cases c2:(zL L len D n).k≠0
 ·simp only [if_pos c2] at hk;exact atom7 hk
 simp only [if_neg c2] at hk
 split at hk
 ·omega
 ·split at hk
  ·exact absurd hk (zcf _)
  ·exact absurd hk (z8 _ _)
theorem terms7 (hO:DOK L D):∀ (f:Nat) (s:Int) (n:Nat),n≤L.length→(yp L len D f s n).k=7→∃ m,n≤m∧m<L.length∧zf L m=40∧(D m).k=7
 |0,_,_,_,hk=>absurd hk (z8 _ _)
 |f+1,s,n,hn,hk=>by
  unfold yp at hk
  by_cases c1:yx L n=true
  ·simp only [if_pos c1] at hk;exact absurd hk (z8 _ _)
  simp only [if_neg c1] at hk
  have h1:n<L.length:=by
   unfold yx at c1
   simp at c1
   omega
  by_cases c2:(zV L len D n).k≠0
  ·simp only [if_pos c2] at hk
   obtain ⟨a,b⟩:=term7 hk
   exact ⟨n,Nat.le_refl _,h1,a,b⟩
  simp only [if_neg c2] at hk
  have i1:=Ym (len:=len) hO n h1
  obtain ⟨m,a,b⟩:=terms7 hO f _ (zV L len D n).n (by omega) hk
  exact ⟨m,by omega,b⟩
theorem alt7 (hO:DOK L D):∀ (f:Nat) (zs:List Int) (n:Nat),n≤L.length→(altO L len D f zs n).k=7→∃ m,n≤m∧m<L.length∧zf L m=40∧(D m).k=7
 |0,_,_,_,hk=>absurd hk (z8 _ _)
 |f+1,zs,n,hn,hk=>by
  unfold altO at hk
  by_cases c1:(zw L len D n).k≠0
  ·simp only [if_pos c1] at hk
   exact terms7 hO _ _ n hn hk
  simp only [if_neg c1] at hk
  have i1:=vk (len:=len) hO n hn
  by_cases c2:zf L (zw L len D n).n=124
  ·simp only [if_pos c2] at hk
   have h2:(zw L len D n).n<L.length:=zq (by rw [c2];decide)
   obtain ⟨m,a,b⟩:=alt7 hO f _ _ (by omega) hk
   exact ⟨m,by omega,b⟩
  ·simp only [if_neg c2] at hk;exact absurd hk (z8 _ _)
def vK (L:List (Int×Int))(n:Nat):Nat:=(L.drop n).countP (fun p=>p.2 == 40)
theorem Vk {n m:Nat}(h:n≤m):vK L m≤vK L n:=by
 unfold vK
 have e:L.drop m=(L.drop n).drop (m-n):=by rw [List.drop_drop];congr 1;omega
 rw [e]
 exact List.Sublist.countP_le (List.drop_sublist _ _)
theorem Vl {n:Nat}(h:zf L n=40):vK L n=vK L (n+1)+1:=by
 have hn:n<L.length:=zq (by rw [h];decide)
 unfold vK
 rw [List.drop_eq_getElem_cons hn,List.countP_cons,if_pos]
 rw [Yd hn] at h
 rw [h]
 rfl
theorem deep7:∀ (r n:Nat),n<L.length→zf L n=40→(zl L len r n).k=7→r+1≤vK L n
 |0,n,_,h40,_=>by rw [Vl h40];omega
 |r+1,n,hn,h40,hk=>by
  unfold zl qE at hk
  by_cases c1:(zS L len n).k≠0
  ·simp only [if_pos c1] at hk;exact absurd hk (openO_n7 _)
  simp only [if_neg c1] at hk
  have i1:=wI (len:=len) n hn
  by_cases c2:(altP L len (zl L len r) (zS L len n).n).k≠0
  ·simp only [if_pos c2] at hk
   obtain ⟨m,a,b,c,e⟩:=alt7 (zQ r) _ _ _ i1.2 hk
   have:=deep7 r m b c e
   have h2:=Vk (L:=L) (show n+1≤m by omega)
   rw [Vl h40]
   omega
  simp only [if_neg c2] at hk
  split at hk
  ·exact absurd hk (z8 _ _)
  ·exact absurd hk (qp (by decide) _ _)
theorem whole7 (hk:(altP L len (zl L len 10) 0).k=7):11≤vK L 0:=by
 obtain ⟨m,a,b,c,e⟩:=alt7 (zQ 10) _ _ _ (Nat.zero_le _) hk
 have:=deep7 10 m b c e
 have h2:=Vk (L:=L) a
 omega
end
end Pro
theorem Xf {x y:ByteArray}{k:Nat}(h:k<x.size):zd (x++y) k=zd x k:=by
 rw [xZ _ _ (by simp;omega),xZ _ _ h]
 congr 2
 exact ByteArray.getElem_append_left h
theorem Z1 {x y:ByteArray}{k:Nat}:zd (x++y) (x.size+k)=zd y k:=by
 by_cases h:k<y.size
 ·rw [xZ _ _ (by simp;omega),xZ _ _ h]
  congr 2
  rw [ByteArray.getElem_append_right (by omega)]
  congr 1
  omega
 ·rw [Zq _ _ (by simp;omega),Zq _ _ (by omega)]
structure At (T s:ByteArray)(d:Nat):Prop where
 le:d+s.size≤T.size
 eq:∀ k,k<s.size→zd T (d+k)=zd s k
theorem At.refl (s:ByteArray):At s s 0:=⟨by omega,fun k _=>by rw [Nat.zero_add]⟩
theorem At.left {T s:ByteArray}{d:Nat}(h:At T s d)(y:ByteArray):At (T++y) s d:=⟨by have:=h.le;simp;omega,fun k hk=>by rw [Xf (by have:=h.le;omega)];exact h.eq k hk⟩
theorem At.right (x y:ByteArray):At (x++y) y x.size:=⟨by simp,fun k _=>Z1⟩
namespace Ref
theorem Je {s T:ByteArray}{p q n:Nat}{c:Int}(h:oneF s p=some (n,c))(hq:q+n≤T.size)(hb:∀ k,k<n→zd T (q+k)=zd s (p+k)):oneF T q=some (n,c):=by
 obtain ⟨h1,h4,hp,hv,hc,he⟩:=Kc.of_one h
 have e:Kc.valueV T q n=Kc.valueV s p n∧Kc.bytesI T q n=Kc.bytesI s p n:=by
  have b0:=hb 0 (by omega)
  rw [Nat.add_zero,Nat.add_zero] at b0
  obtain rfl |rfl |rfl |rfl:n=1∨n=2∨n=3∨n=4:=by omega
  ·rw [Kc.val1,Kc.val1,Kc.bytes1,Kc.bytes1,b0];exact ⟨rfl,rfl⟩
  ·rw [Kc.val2,Kc.val2,Kc.bytes2,Kc.bytes2,b0,hb 1 (by omega)];exact ⟨rfl,rfl⟩
  ·rw [Kc.val3,Kc.val3,Kc.bytes3,Kc.bytes3,b0,hb 1 (by omega),hb 2 (by omega)];exact ⟨rfl,rfl⟩
  ·rw [Kc.val4,Kc.val4,Kc.bytes4,Kc.bytes4,b0,hb 1 (by omega),hb 2 (by omega),hb 3 (by omega)];exact ⟨rfl,rfl⟩
 have:=Kc.one_of h1 h4 hq (by rw [e.1,hv];exact hc) (by rw [e.1,e.2,hv];exact he)
 rw [this,e.1,hv]
theorem Good.of_next {s:ByteArray}{p n:Nat}{c:Int}(h:oneF s p=some (n,c))(hg:Good s (p+n)):Good s p:=by
 obtain ⟨f,hf⟩:=hg
 have:=qC h
 exact ⟨f+1,by simp only [Zn];rw [if_pos (by omega),h];exact hf⟩
theorem Good.fin (s:ByteArray):Good s s.size:=⟨0,by simp [Zn]⟩
theorem Qh {s:ByteArray}:∀ (f p:Nat) (acc:List (Int×Int)),Good s p→(xL s f p acc).2 = -1
 |0,_,_,_=>rfl
 |f+1,p,acc,h=>by
  by_cases hp:p<s.size
  ·obtain ⟨n,c,h1,hg⟩:=h.next hp
   rw [qW hp h1]
   exact Qh f _ _ hg
  ·rw [vE hp]
theorem Z3 {s:ByteArray}:(zo s).2<0↔Good s 0:=by
 constructor
 ·intro h
  refine vM s (s.size+1) 0 [] (by omega) ?_ (by omega)
  have:(zo s).2 = -1:=by
   rcases Eqv.ZU s with ⟨a,_⟩ |⟨a,_⟩
   ·exact a
   ·omega
  exact this
 ·intro h
  have:=Qh (s.size+1) 0 [] h
  unfold zo
  omega
theorem Good.move {T s:ByteArray}{d:Nat}(h:At T s d)(hT:Good T (d+s.size)):∀ (f p:Nat),s.size<p+f→Good s p→Good T (d+p)
 |0,p,hf,hg=>by have:=hg.le;omega
 |f+1,p,hf,hg=>by
  by_cases hp:p<s.size
  ·obtain ⟨n,c,h1,hg2⟩:=hg.next hp
   have bd:=qC h1
   have hle:=h.le
   have h2:oneF T (d+p)=some (n,c):=Je h1 (by omega) (fun k hk=>by rw [Nat.add_assoc];exact h.eq _ (by omega))
   exact Good.of_next h2 (by rw [Nat.add_assoc];exact Good.move h hT f (p+n) (by omega) hg2)
  ·have:=hg.le
   have e:p=s.size:=by omega
   subst e
   exact hT
theorem Good.app {T s:ByteArray}{d:Nat}(h:At T s d)(hs:(zo s).2<0)(hT:Good T (d+s.size)):Good T d:=by
 have:=Good.move h hT (s.size+1) 0 (by omega) (Z3.1 hs)
 simpa using this
end Ref
namespace Pro
theorem vd {s:ByteArray}{f p:Nat}(h:s.size≤p):letM s f p=[]:=by
 cases f with
 |zero=>rfl
 |succ f=>
  have:yi s p=none:=by unfold yi;rw [if_neg (by omega)]
  simp only [letM,this]
theorem Jf {s:ByteArray}:∀ (f f' p:Nat),s.size<p+f→s.size<p+f'→letM s f p=letM s f' p
 |0,f',p,hf,_=>by rw [vd (by omega),vd (by omega)]
 |f+1,0,p,_,hf=>by rw [vd (by omega),vd (by omega)]
 |f+1,f'+1,p,hf,hf'=>by
  simp only [letM]
  cases h:yi s p with
  |none=>rfl
  |some x=>
   obtain ⟨n,c⟩:=x
   have:=XY h
   simp only
   rw [Jf f f' n (by omega) (by omega)]
theorem Jg {T s:ByteArray}{d:Nat}(h:At T s d):∀ (f p:Nat),s.size<p+f→Ref.Good s p→∀ f' f'',T.size<d+p+f'→T.size<d+s.size+f''→letM T f' (d+p)=(letM s f p).map (fun x=>(x.1+(d:Int),x.2))++letM T f'' (d+s.size)
 |0,p,hf,hg,_,_,_,_=>by have:=hg.le;omega
 |f+1,p,hf,hg,f',f'',h1,h2=>by
  have hle:=h.le
  by_cases hp:p<s.size
  ·obtain ⟨n,c,ho,hg2⟩:=hg.next hp
   have bd:=Ref.qC ho
   have ho2:Ref.oneF T (d+p)=some (n,c):=Ref.Je ho (by omega) (fun k hk=>by rw [Nat.add_assoc];exact h.eq _ (by omega))
   have r1:yi s p=some (p+n,c):=by rw [Eqv.jE hp,ho];rfl
   have r2:yi T (d+p)=some (d+p+n,c):=by rw [Eqv.jE (by omega),ho2];rfl
   cases f' with
   |zero=>omega
   |succ f'=>
    simp only [letM,r1,r2,List.map_cons,List.cons_append]
    have ih:=Jg h f (p+n) (by omega) hg2 f' f'' (by omega) h2
    rw [show d+p+n=d+(p+n) by omega,ih]
    congr 2
    omega
  ·have:=hg.le
   have e:p=s.size:=by omega
   subst e
   rw [vd (Nat.le_refl _)]
   exact Jf _ _ _ (by omega) (by omega)
def lets (s:ByteArray):List (Int×Int):=letM s (s.size+1) 0
def sft (d:Nat)(L:List (Int×Int)):List (Int×Int):=L.map (fun x=>(x.1+(d:Int),x.2))
def letF (T:ByteArray)(p:Nat):List (Int×Int):=letM T (T.size+1) p
theorem jG {T s:ByteArray}{d:Nat}(h:At T s d)(hs:(Ref.zo s).2<0):letF T d=sft d (lets s)++letF T (d+s.size):=by
 have:=Jg h (s.size+1) 0 (by omega) (Ref.Z3.1 hs) (T.size+1) (T.size+1) (by omega) (by omega)
 simpa [letF,sft,lets] using this
theorem Vm (T:ByteArray){p:Nat}(h:T.size≤p):letF T p=[]:=vd h
theorem Jh (T:ByteArray):letF T 0=lets T:=rfl
theorem qk (d:Nat)(L:List (Int×Int)):(sft d L).length=L.length:=by unfold sft;simp
theorem xf (d:Nat)(L:List (Int×Int))(k:Nat):zf (sft d L) k=zf L k:=by
 unfold zf sft
 rw [List.getElem?_map]
 cases L[k]?<;>rfl
theorem qr {A B:List (Int×Int)}{k:Nat}(h:k<A.length):zf (A++B) k=zf A k:=by
 unfold zf
 rw [List.getElem?_append_left h]
theorem yS {A B:List (Int×Int)}{k:Nat}:zf (A++B) (k+A.length)=zf B k:=by
 unfold zf
 rw [List.getElem?_append_right (by omega)]
 rw [show k+A.length-A.length=k by omega]
def yK (s:ByteArray):Nat→Nat
 |0=>0
 |i+1=>yK s i+if zd s i=40 then 1 else 0
theorem wh {s:ByteArray}{p:Nat}:∀ (k:Nat),yK s p≤yK s (p+k)
 |0=>Nat.le_refl _
 |k+1=>Nat.le_trans (wh k) (Nat.le_add_right _ _)
theorem Ji {s:ByteArray}:∀ (f p:Nat),p≤s.size→(letM s f p).countP (fun x=>x.2 == 40)+yK s p≤yK s s.size
 |0,p,hp=>by
  have:=wh (s:=s) (p:=p) (s.size-p)
  rw [show p+(s.size-p)=s.size by omega] at this
  simpa [letM] using this
 |f+1,p,hp=>by
  simp only [letM]
  cases h:yi s p with
  |none=>
   have:=wh (s:=s) (p:=p) (s.size-p)
   rw [show p+(s.size-p)=s.size by omega] at this
   simpa using this
  |some x=>
   obtain ⟨n,c⟩:=x
   have hi:=XY h
   have ih:=Ji (s:=s) f n (by omega)
   simp only [List.countP_cons]
   by_cases hc:c=40
   ·subst hc
    have hlt:p<s.size:=by omega
    rw [Eqv.jE hlt] at h
    cases ho:Ref.oneF s p with
    |none=>rw [ho] at h;cases h
    |some y=>
     obtain ⟨m,c'⟩:=y
     rw [ho] at h
     have h':p+m=n∧c'=40:=by simpa [Eqv.ahead] using h
     obtain ⟨rfl,rfl⟩:=h'
     obtain ⟨m1,_,_,_,_,he⟩:=Kc.of_one ho
     have hb:zd s p=40:=by
      cases m with
      |zero=>omega
      |succ m=>
       simp [Kc.encI,Kc.bytesI] at he
       exact he.1.symm
     have h5:=wh (s:=s) (p:=p+1) (p+m-(p+1))
     rw [show p+1+(p+m-(p+1))=p+m by omega] at h5
     simp only [yK,hb,if_true] at h5
     simp
     omega
   ·have h5:=wh (s:=s) (p:=p) (n-p)
    rw [show p+(n-p)=n by omega] at h5
    simp [hc]
    omega
theorem Qj (s:ByteArray):vK (lets s) 0≤yK s s.size:=by
 have:=Ji (s:=s) (s.size+1) 0 (by omega)
 simpa [vK,lets,yK] using this
end Pro
namespace Pro
section
variable {L L':List (Int×Int)} {len len':Int} {D:Nat→Out} {DT:Nat→Tree}
theorem ve {e:Nat}(h:Shf L L' (e+3))(_h0:zf L' e=40)(h1:zf L' (e+1)=63)(h2:zf L' (e+2)=58)(hk:(altP L len (zl L len 10) 0).k=0)(hn:(altP L len (zl L len 10) 0).n=L.length) :
  (zl L' len' 10 e=good (altP L len (zl L len 10) 0).v (L.length+e+4)∧zH L' len' 10 e=altQ L len (zl L len 10) (zH L len 10) 0)∨(zl L' len' 10 e).k=7:=by
 have ho:zS L' len' e=good 0 (e+3):=by
  unfold zS
  rw [if_pos h1,if_pos h2]
 have eN:(good 0 (e+3)).n=e+3:=rfl
 have eK:(good 0 (e+3)).k=0:=rfl
 have eD:zl L' len' 10 e=qE L' len' (altP L' len' (zl L' len' 9)) e:=rfl
 have eT:zH L' len' 10 e=altQ L' len' (zl L' len' 9) (zH L' len' 9) (zS L' len' e).n:=rfl
 rw [eD,eT,ho]
 unfold qE
 rw [ho]
 simp only [eK,eN,ne_eq,not_true_eq_false,if_false]
 rcases sh_whole (len:=len) (len':=len') h (show 9≤10 by decide) hk with ⟨a,b⟩ |a
 ·rw [a,b]
  have q1:(shO (e+3) (altP L len (zl L len 10) 0)).k=0:=hk
  have q2:(shO (e+3) (altP L len (zl L len 10) 0)).n=L.length+(e+3):=by show _+(e+3)=_;rw [hn]
  have q3:(shO (e+3) (altP L len (zl L len 10) 0)).v=(altP L len (zl L len 10) 0).v:=rfl
  rw [q1,q2,q3,h.close]
  left
  simp only [not_true_eq_false,if_false,if_true,and_true]
  congr 1
 ·right
  rw [if_pos (by rw [a];decide)]
  exact a
theorem yh {f n m:Nat}{s v:Int}{ts:List Tree}(hs:yx L n=false)(h:zV L len D n=good v m):yp L len D (f+1) s n=yp L len D f (min (s+v) 301) m∧xt L len D DT (f+1) ts n=xt L len D DT f (ts++[xO L len D DT n]) m:=by
 have hv:(good v m).v=v:=rfl
 have hm:(good v m).n=m:=rfl
 have hk:(good v m).k=0:=rfl
 constructor
 ·rw [yp,hs,h,hk,hv,hm]
  simp
 ·rw [xt,hs,h,hm]
  simp
theorem jY {f n:Nat}{s:Int}(hs:yx L n=false)(h:(zV L len D n).k=7):(yp L len D (f+1) s n).k=7:=by
 rw [yp,hs]
 simp only [Bool.false_eq_true,if_false]
 rw [if_pos (by rw [h];decide)]
 exact h
theorem xF {f n:Nat}{s:Int}{ts:List Tree}(hs:yx L n=true):yp L len D (f+1) s n=good s n∧xt L len D DT (f+1) ts n=ts:=by
 constructor
 ·rw [yp,hs];rfl
 ·rw [xt,hs];rfl
theorem jZ {n:Nat}(h:zf L n=40)(hD:(D n).k=7):(zV L len D n).k=7:=by
 have ha:asN L n=0:=by unfold asN;rw [h];simp
 have ho:zL L len D n=D n:=by
  unfold zL
  rw [h,if_neg (by decide),if_pos rfl]
 unfold zV
 rw [ha,ho,if_neg (by decide),if_pos (by rw [hD];decide)]
 exact hD
theorem term_rep {n m:Nat}{v:Int}{q:Out}{hi:Int}(h:zf L n=40)(hD:D n=good v m)(hq:zu L len m=(true,q,hi))(hk:q.k=0):zV L len D n=good (min (repS v q.v hi) 301) (jR L q.n)∧xO L len D DT n=tRep (DT n) q.v hi:=by
 have ha:asN L n=0:=by unfold asN;rw [h];simp
 have ho:zL L len D n=good v m:=by
  unfold zL
  rw [h,if_neg (by decide),if_pos rfl,hD]
 have ht:xk L len DT n=DT n:=by
  unfold xk
  rw [if_pos h]
 have hk':(good v m).k=0:=rfl
 have hm:(good v m).n=m:=rfl
 have hv:(good v m).v=v:=rfl
 unfold zV xO
 rw [ha,ho,hk',hm,hv,hq,ht]
 simp [hk]
theorem Z4 {f n m:Nat}{zs:List Int}{ts:List Tree}{s:Int}{t:Tree}(hT:zw L len D n=good s m)(hQ:yq L len D DT n=t)(hb:zf L m≠124):altO L len D (f+1) zs n=good (min (sumS 0 (zs++[s])+((zs.length:Int)+1)-1) 301) m∧altT L len D DT (f+1) ts n=ts++[t]:=by
 have hk:(good s m).k=0:=rfl
 have hm:(good s m).n=m:=rfl
 have hv:(good s m).v=s:=rfl
 rw [altO,altT,hT,hk,hm,hv,hQ,if_neg hb,if_neg hb]
 simp
theorem alt_bad {f n:Nat}{zs:List Int}(hT:(zw L len D n).k=7):(altO L len D (f+1) zs n).k=7:=by
 rw [altO,if_pos (by rw [hT];decide)]
 exact hT
end
theorem Kg (v:Int)(n:Nat):(good v n).k=0:=rfl
theorem Kh (v:Int)(n:Nat):(good v n).n=n:=rfl
theorem Ki (v:Int)(n:Nat):(good v n).v=v:=rfl
def zD (s:ByteArray):Out:=altP (lets s) (s.size:Nat) (zl (lets s) (s.size:Nat) 10) 0
def zE (s:ByteArray):Tree:=altQ (lets s) (s.size:Nat) (zl (lets s) (s.size:Nat) 10) (zH (lets s) (s.size:Nat) 10) 0
structure Reads (s:ByteArray):Prop where
 ch:(Ref.zo s).2<0
 k:(zD s).k=0
 n:(zD s).n=(lets s).length
end Pro
end
section
open Go.RowKit
open Sm (Stp Tree capT)
set_option maxHeartbeats 2000000
set_option maxRecDepth 1000000
theorem Kj (s:ByteArray)(w:World)(t:Tree)(v:Int)(hv:v<300)(ht:Zu t)(hp:wQ s t v w) :
  Calls Tryz.prog 15 #[.string s] w fun x w'=>∃ g pb F W cs,x = .returned (.tuple #[.pointer (some ⟨g,0,none⟩),.int .i64 0,.int .i64 0])∧we w' (fun k=>w.heap.size≤k∧k<w'.heap.size) g pb (Sm.prg F t).2 (Sm.prg F t).1 W cs (min (v+1) 301)∧Sm.WF F t∧Prg.Asks (Sm.prg F t).2 W∧ze (fun _=>False) w w':=by
 have HP:=zc hp
 have HT:=zc ht
 clear hp ht
 go_enter Tryz.func15,Tryz.ntmps15
 go_wp2_with (first |(go_at_call 44;refine (zb HP).mono ?_;rintro e w1 ⟨⟨T,y,F,rfl,hq,hcap⟩,hO1⟩;have HV:=zc hq;have Hcap:=zc hcap;clear hq hcap) |(go_at_call 47;refine (qO F _ _ _ v (by have h9:=(zb HV).size;rw [zb Hcap] at h9;exact h9)).mono ?_;rintro e w3 ⟨rfl,hO3⟩;have HQ:Hid (vJ F w3 w3.heap.size (.iface T y) t):=⟨zA.keep hO3 (fun _ _ f=>f) F _ _ (zb HV) |> zA.mono (fun g hg _=>hg) F _ _,(zb HT F).1,(zb HT F).2.1⟩) |(go_at_call 48;refine (newX F t (.iface T y) _ (zb HQ) ⟨_,_,rfl⟩ (by have:=zb Hcap;omega)).mono ?_;rintro e w4 ⟨pb,W,cs,rfl,hPr,hW,hC1,hC2,hC3,hC4,hO4⟩;have HPr:=zc (⟨hPr.bound,hC1.cutsB,hC2,hC3,hC4⟩:ProgX w4 _ pb _ _ W cs);have HW:=zc (asks_of (zb HT F).2.2 hW);clear hPr hW hC1 hC2 hC3 hC4))
 go_ret3
 have hs1:=hO1.size
 have hs3:=hO3.size
 have hs4:=hO4.size
 have hk:ze (fun _=>False) w4 (w4.alloc (.cells #[.int .i64 (min (v+1) 301),.pointer (some ⟨pb,0,none⟩)] 81)):=(ze.refl _ _).alloc _
 have hX:=zb HPr
 have hz:=yX w4 (.cells #[.int .i64 (min (v+1) 301),.pointer (some ⟨pb,0,none⟩)] 81)
 refine ⟨_,pb,F,W,cs,rfl,⟨⟨by omega,by rw [hz];omega⟩,zm _ _ rfl _ _ 0 _ rfl,zm _ _ rfl _ _ 1 _ rfl,?_,fun k hk=>hk.2⟩,(zb HV).wf,zb HW,((hO1.trans hO3).trans hO4).alloc _⟩
 have h10:=hX.keep hk (fun _ _ f=>f)
 exact ⟨h10.at'.mono (fun k h=>⟨by omega,by rw [hz];omega⟩),h10.cut.mono (fun k h=>⟨by omega,by rw [hz];omega⟩),h10.up,h10.bd,h10.al⟩
structure qD (s:ByteArray):Prop where
 size:s.size≤200
 rd:Pro.Reads s
 v:(Pro.zD s).v<300
structure FailOf (s:ByteArray)(k:Nat)(p:Int):Prop where
 no:¬qD s
 long:200<s.size→k=2∧p=200
 out:s.size≤200→(Ref.zo s).2<0→(Pro.zD s).k≠0→k=(Pro.zD s).k
 big:s.size≤200→Pro.Reads s→k=8∧p=0
theorem pat_is (s:ByteArray):(∃ (k:Nat) (p:Int),1≤k∧k≤8∧FailOf s k p∧∀ (w:World) (a:Nat→Addr),Start w a→JX s a k p w)∨(qD s∧Zu (Pro.zE s)∧∀ (w:World) (a:Nat→Addr),Start w a→wQ s (Pro.zE s) (Pro.zD s).v w):=by
 by_cases hs:s.size≤200
 ·by_cases hc:0≤(Ref.zo s).2
  ·exact .inl ⟨1,(Ref.zo s).2,by decide,by decide,⟨fun h=>by have:=h.rd.ch;omega,fun h=>by omega,fun _ h=>by omega,fun _ h=>by have:=h.ch;omega⟩,fun w a h=>Z8 s w a h.sents h.size hs hc⟩
  ·have hc':(Ref.zo s).2<0:=by omega
   have ho:Pro.altP (Pro.letM s (s.size+1) 0) (s.size:Nat) (Pro.zl (Pro.letM s (s.size+1) 0) (s.size:Nat) 10) 0=Pro.zD s:=rfl
   have hk8:(Pro.zD s).k≤8:=by rw [←ho];exact Pro.altP_k 0
   by_cases hk:(Pro.zD s).k=0
   ·by_cases hn:(Pro.zD s).n=(Pro.letM s (s.size+1) 0).length
    ·have hR:Pro.Reads s:=⟨hc',hk,hn⟩
     by_cases hv:(Pro.zD s).v<300
     ·exact .inr ⟨⟨hs,hR,hv⟩,fun f=>⟨Pro.Yt (jH s _ _) 10 0 f,Pro.Yv (by have:=Pro.qG s (s.size+1) 0;unfold Pro.lets;omega) 10 0 f,Pro.Yu (fun n f=>Pro.wL 10 n f) 0 f⟩,fun w a h=>kD s w a h.sents h.size hs hc' _ rfl _ ho hk hn hv⟩
     ·exact .inl ⟨8,0,by decide,by decide,⟨fun h=>hv h.v,fun h=>by omega,fun _ _ h=>absurd hk h,fun _ _=>⟨rfl,rfl⟩⟩,fun w a h=>Xj s w a h.sents h.size hs hc' _ rfl _ ho hk hn (by omega)⟩
    ·exact .inl ⟨3,Pro.zC (Pro.letM s (s.size+1) 0) (s.size:Nat) (Pro.zD s).n,by decide,by decide,⟨fun h=>hn h.rd.n,fun h=>by omega,fun _ _ h=>absurd hk h,fun _ h=>absurd h.n hn⟩,fun w a h=>Z9 s w a h.sents h.size hs hc' _ rfl _ ho hk hn⟩
   ·exact .inl ⟨(Pro.zD s).k,(Pro.zD s).p,by omega,hk8,⟨fun h=>hk h.rd.k,fun h=>by omega,fun _ _ _=>rfl,fun _ h=>absurd h.k hk⟩,fun w a h=>wt s w a h.sents h.size hs hc' _ rfl _ ho hk⟩
 ·exact .inl ⟨2,200,by decide,by decide,⟨fun h=>hs h.size,fun _=>⟨rfl,rfl⟩,fun h=>absurd h hs,fun h=>absurd h hs⟩,fun w a h=>Z7 s w a h.sents (by omega)⟩
structure PatM (w:World)(A:Nat→Prop)(s:ByteArray)(g pb F:Nat)(W:Int→Bool)(cs:List Int):Prop where
 c:we w A g pb (Sm.prg F (Pro.zE s)).2 (Sm.prg F (Pro.zE s)).1 W cs ((Pro.zD s).v+1)
 wf:Sm.WF F (Pro.zE s)
 ask:Prg.Asks (Sm.prg F (Pro.zE s)).2 W
theorem PatM.keep {P A:Nat→Prop}{w w':World}{s:ByteArray}{g pb F:Nat}{W:Int→Bool}{cs:List Int}(h:PatM w A s g pb F W cs)(k:ze P w w')(hn:∀ g,A g→¬P g):PatM w' A s g pb F W cs:=⟨h.c.keep k hn,h.wf,h.ask⟩
theorem Qk (s:ByteArray)(w:World)(a:Nat→Addr)(hS:Start w a):Calls Tryz.prog 15 #[.string s] w fun x w'=>ze (fun _=>False) w w'∧((∃ (k:Nat) (p:Int),1≤k∧k≤8∧x = .returned (.tuple #[.pointer none,.int .i64 k,.int .i64 p])∧FailOf s k p)∨(qD s∧∃ g pb F W cs,x = .returned (.tuple #[.pointer (some ⟨g,0,none⟩),.int .i64 0,.int .i64 0])∧PatM w' (fun k=>w.heap.size≤k∧k<w'.heap.size) s g pb F W cs)):=by
 rcases pat_is s with ⟨k,p,k1,k2,ht,h⟩ |⟨hI,ht,h⟩
 ·refine (Zv s w a k p hS k1 k2 (h w a hS)).mono ?_
  rintro x w' ⟨rfl,hO⟩
  exact ⟨hO,.inl ⟨k,p,k1,k2,rfl,ht⟩⟩
 ·refine (Kj s w _ _ hI.v ht (h w a hS)).mono ?_
  rintro x w' ⟨g,pb,F,W,cs,rfl,h1,h2,h3,hO⟩
  have e:min ((Pro.zD s).v+1) 301=(Pro.zD s).v+1:=by have:=hI.v;omega
  rw [e] at h1
  exact ⟨hO,.inr ⟨hI,g,pb,F,W,cs,rfl,h1,h2,h3⟩⟩
theorem Z5 (s:ByteArray)(w:World)(a:Nat→Addr)(hS:Start w a):Calls Tryz.prog 37 #[.string s] w (fun x w'=>ze (fun _=>False) w w'∧((x = .returned (.pointer none)∧∃ k p,FailOf s k p)∨(qD s∧∃ g pb F W cs,x = .returned (.pointer (some ⟨g,0,none⟩))∧PatM w' (fun k=>w.heap.size≤k∧k<w'.heap.size) s g pb F W cs))):=by
 have HC:=zc (Qk s w a hS)
 clear hS
 go_enter Tryz.func37,Tryz.ntmps37
 go_wp2_with (go_at_call 15;refine zb ?_)
 refine zc ?_
 refine (zb HC).mono ?_
 rintro x w1 ⟨hO,⟨k,p,k1,k2,rfl,hf⟩ |⟨hI,g,pb,F,W,cs,rfl,h1⟩⟩
 ·have hk:((k:Int) == 0)=false:=by simp;omega
  have HO:=zc hO
  have HFa:=zc hf
  clear hO hf
  go_wp2_with fail
  go_ret
  exact ⟨zb HO,.inl ⟨rfl,_,_,zb HFa⟩⟩
 ·have HF:=zc (And.intro hO (And.intro hI h1))
  clear hO h1 hI
  go_wp2_with fail
  go_ret
  exact ⟨(zb HF).1,.inr ⟨(zb HF).2.1,g,pb,F,W,cs,rfl,(zb HF).2.2⟩⟩
def Mng (s:ByteArray)(t:Tree)(i j:Nat):Prop:=∃ F,Sm.WF F t∧Sm.M (Ref.lfT (Ref.zo s).1) (Ref.ahT (Ref.zo s).1) F t i j
theorem kh {s:ByteArray}{t:Tree}{F:Nat}(hF:Sm.WF F t){i j:Nat}:Mng s t i j↔Sm.M (Ref.lfT (Ref.zo s).1) (Ref.ahT (Ref.zo s).1) F t i j:=
 ⟨fun ⟨_,hG,h⟩=>(Sm.M_any hG hF i j).2 h,fun h=>⟨F,hF,h⟩⟩
theorem Kk (s:ByteArray){W:Int→Bool}{F:Nat}{t:Tree}(hF:Sm.WF F t)(hA:Prg.Asks (Sm.prg F t).2 W){i j:Nat}(hi:i≤(Pro.letM s (s.size+1) 0).length):Prg.GoP W (Pro.letM s (s.size+1) 0) (Sm.prg F t).2 (Sm.prg F t).1 i 0 j↔Mng s t i j:=
 (Prg.goP_same (Prg.yj.of s) hA hi).trans ((Sm.QT hF i j).trans (kh hF).symm)
theorem Jj (s:ByteArray)(w:World)(hs:s.size≤4398046511104) :
  Calls Tryz.prog 39 #[.string s] w fun x w'=>x = .returned (.bool (decide (10<Pro.yK s s.size)))∧ze (fun _=>False) w w':=by
 have HT:Hid (∃ T,Pro.yK s s.size=T):=⟨_,rfl⟩
 go_enter Tryz.func39,Tryz.ntmps39
 go_wp2_with fail
 go_loopw [3,4] (fun nv iv wr=>∃ (m c:Nat),iv = .int .i64 m∧nv = .int .i64 c∧m≤s.size∧c≤m∧Hid (c=Pro.yK s m)∧Hid (ze (fun _=>False) w wr)) (fun _ iv _=>s.size-(intOf iv).toNat)
 case atStart=>exact ⟨0,0,rfl,rfl,by omega,by omega,rfl,ze.refl _ _⟩
 case round=>
  obtain ⟨m,c,rfl,rfl,hm,hc,HC,HK⟩:=hrel
  by_cases hlt:m<s.size
  ·obtain ⟨b,e,l,u,x⟩:=jF s m hlt
   have hx:=fun w=>x (m:Int) w rfl
   have HN:Hid (Pro.yK s (m+1)=c+if b=40 then 1 else 0):=by show _=_;rw [zb HC,Pro.yK,e]
   have hw1:IntKind.i64.wrap ((m:Int)+1)=(m:Int)+1:=yY _ (by omega) (by omega)
   have hw2:IntKind.i64.wrap ((c:Int)+1)=(c:Int)+1:=yY _ (by omega) (by omega)
   clear x e HC
   by_cases hb:b=40
   ·subst hb
    go_wp2_with fail
    exact ⟨⟨m+1,c+1,by go_num,by go_num,by omega,by omega,(by show _=_;rw [zb HN];rfl),HK⟩,by simp [intOf];omega⟩
   ·have hb2:(b == 40)=false:=by simpa using hb
    have HN2:Hid (c=Pro.yK s (m+1)):=by show _=_;rw [zb HN,if_neg hb];rfl
    clear HN hb
    go_wp2_with fail
    exact ⟨⟨m+1,c,by go_num,rfl,by omega,by omega,HN2,HK⟩,by simp [intOf];omega⟩
  ·have e:m=s.size:=by omega
   have HC2:Hid (c=Pro.yK s s.size):=by show _=_;rw [←e];exact zb HC
   clear HC e
   by_cases h9:10<c
   ·have hd:decide ((10:Int)<(c:Int))=true:=by simp;omega
    have HR:Hid (decide (10<Pro.yK s s.size)=true):=by show _=_;rw [←zb HC2];simpa using h9
    clear HC2
    go_wp2_with fail
    go_ret
    exact ⟨by rw [zb HR];rfl,zb HK⟩
   ·have hd:decide ((10:Int)<(c:Int))=false:=by simp;omega
    have HR:Hid (decide (10<Pro.yK s s.size)=false):=by show _=_;rw [←zb HC2];simpa using h9
    clear HC2
    go_wp2_with fail
    go_ret
    exact ⟨by rw [zb HR];rfl,zb HK⟩
end
end Go.Proofs.YtfnkbmglodopkaaGreatDoor
