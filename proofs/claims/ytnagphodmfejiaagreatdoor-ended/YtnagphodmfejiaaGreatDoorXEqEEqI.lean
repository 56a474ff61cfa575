/- The reader's classes, counts and quantifiers beside the lexer's. -/
import Derived.Test.YtnagphodmfejiaaGreatDoorXChBEqD
namespace Go.Proofs.YtnagphodmfejiaaGreatDoor
section
open Go.RowKit
namespace Eqv
variable {s:ByteArray} {L:List (Int×Int)}
theorem kS {st:St}(he:st.e=0)(ha:st.a=0):st=st0 st.i:=by cases st;simp only at he ha;subst he;subst ha;rfl
theorem fail_nz {st:St}(h:st.e≠0)(e a:Int):st.fail e a=st:=by unfold St.fail;rw [if_neg h]
theorem V8:∀ (g:Nat)(ps:List Pt)(st:St),st.e≠0→(Ref.yt s g ps st).2.e=st.e∧(Ref.yt s g ps st).2.a=st.a
 |0,ps,st,h=>⟨rfl,rfl⟩
 |g+1,ps,st,h=>by rw [Ref.jm (fun hh=>h hh.1)];exact ⟨rfl,rfl⟩
theorem QN {n p:Nat}(h:Br s L n p):Pro.qD L n=Ref.qz s (st0 p):=by
 have hi:(st0 p).i=p:=rfl
 unfold Pro.qD Ref.qz
 rw [hi]
 by_cases h45:zd s p=45
 ·have h1:=h.go h45 (by omega) (by omega)
  have e1:=(h.eqv 45 (by omega)).2 h45
  have e2:=h1.eqv 93 (by omega)
  have e3:=h1.eqv (-1) (by omega)
  have e4:=zw s (p+1)
  have e5:=qj s (p+1)
  by_cases k1:zd s (p+1)=93<;>by_cases k2:p+1<s.size
  ·simp [e1,h45,e2.2 k1,k1]
  ·simp [e1,h45,e2.2 k1,k1]
  ·have k3:¬Pro.zh L (n+1) = -1:=fun hh=>by have:=e3.1 hh;omega
   have k4:¬Pro.zh L (n+1)=93:=fun hh=>k1 (e2.1 hh)
   simp [e1,h45,k1,k2,k3,k4,st0]
  ·have k3:Pro.zh L (n+1) = -1:=e3.2 (by omega)
   simp [e1,h45,k1,k2,k3,st0]
 ·have e1:¬Pro.zh L n=45:=fun hh=>h45 ((h.eqv 45 (by omega)).1 hh)
  simp [e1,h45]
theorem kT {n m p q:Nat}(h1:Br s L n p)(h2:Br s L m q)(hq:q≤p):m≤n:=by
 by_cases hnm:m≤n
 ·exact hnm
 ·exfalso
  have key:∀ k n p,Br s L n p→n+k≤L.length→∃ r,Br s L (n+k) r∧p+k≤r:=by
   intro k
   induction k with
   |zero=>intro n p h _;exact ⟨p,h,by omega⟩
   |succ k ih=>
    intro n p h hl
    have hp:p<s.size:=h.lt.1 (by omega)
    obtain ⟨j,c,ho,_,hn⟩:=h.step hp
    obtain ⟨r,hr,hle⟩:=ih (n+1) (p+j) hn (by omega)
    have:=Ref.xu ho
    exact ⟨r,by rw [show n+(k+1)=n+1+k by omega];exact hr,by omega⟩
  obtain ⟨r,hr,hle⟩:=key (m-n) n p h1 (by have:=h2.le;omega)
  rw [show n+(m-n)=m by omega] at hr
  have e1:=hr.place
  have e2:=h2.place
  rw [e1] at e2
  omega
theorem kU:∀ (f g:Nat)(ps:List Pt)(n p:Nat),Br s L n p→L.length<n+f→s.size<p+g→Same s L (Pro.xP L (s.size:Nat) f n) 1 (Ref.yt s g ps (st0 p)).2
 |0,g,ps,n,p,h,hf,hg=>by have:=h.le;omega
 |f+1,0,ps,n,p,h,hf,hg=>by have:=h.good.le;omega
 |f+1,g+1,ps,n,p,h,hf,hg=>by
  simp only [Pro.xP]
  by_cases h93:zd s p=93
  ·rw [if_pos ((h.eqv 93 (by omega)).2 h93),Ref.jm (fun hh=>hh.2 h93),go0]
   exact xU (h.go h93 (by omega) (by omega))
  ·have hc:(st0 p).e=0∧zd s (st0 p).i≠93:=⟨rfl,h93⟩
   rw [if_neg (fun hh=>h93 ((h.eqv 93 (by omega)).1 hh))]
   by_cases hlt:p<s.size
   ·have hln:=h.lt.2 hlt
    have hb0:=(zw s p).2 hlt
    have hc1:¬zd s (st0 p).i<0:=by show ¬zd s p<0;omega
    rw [if_neg (by omega)]
    have hm:=ju h hlt
    have hmi:=Pro.qI (L:=L) (len:=(s.size:Nat)) n hln
    by_cases hk:(Pro.zj L (s.size:Nat) n).k=0
    ·obtain ⟨m1,m2,_,hb1⟩:=hm.1.1 hk
     obtain ⟨hone,hlo⟩:=hm.2 hk
     have hst:=kS m1 m2
     have hd:=QN hb1
     cases hdd:Pro.qD L (Pro.zj L (s.size:Nat) n).n
     ·rw [hdd] at hd
      have ha:Pro.addO L (s.size:Nat) n=Pro.zj L (s.size:Nat) n:=by unfold Pro.addO;rw [if_neg (by simp [hk]),if_neg (by simp [hdd])]
      rw [ha,if_neg (by simp [hk]),Ref.jZ hc hc1 (by rw [hst,←hd];simp),hst]
      have hgt:p<(Ref.zk s (st0 p)).2.2.i:=by
       have:=hb1.good.le
       by_cases hh:p<(Ref.zk s (st0 p)).2.2.i
       ·exact hh
       ·exfalso
        have:=kT h hb1 (by omega)
        omega
      exact kU f g _ _ _ hb1 (by omega) (by omega)
     ·rw [hdd] at hd
      have hdy:=Pro.wF hdd
      have h45:=(hb1.eqv 45 (by omega)).1 hdy.1
      have hb2:=hb1.go h45 (by omega) (by omega)
      have hlt2:(Ref.zk s (st0 p)).2.2.i+1<s.size:=by
       by_cases hh:(Ref.zk s (st0 p)).2.2.i+1<s.size
       ·exact hh
       ·exact absurd ((hb2.eqv (-1) (by omega)).2 (xC _ _ (by omega))) hdy.2.2
      have hm2:=ju hb2 hlt2
      have hgo:(Ref.zk s (st0 p)).2.2.go 1=st0 ((Ref.zk s (st0 p)).2.2.i+1):=by rw [hst];rfl
      have hr2:Ref.qz s (Ref.zk s (st0 p)).2.2=true:=by rw [hst];exact hd.symm
      have hmi2:=Pro.qI (L:=L) (len:=(s.size:Nat)) ((Pro.zj L (s.size:Nat) n).n+1) (Pro.ZV hdy.2.2)
      by_cases hk2:(Pro.zj L (s.size:Nat) ((Pro.zj L (s.size:Nat) n).n+1)).k=0
      ·obtain ⟨p1,p2,_,hb3⟩:=hm2.1.1 hk2
       obtain ⟨htwo,hlo2⟩:=hm2.2 hk2
       have hst2:=kS p1 p2
       have hbad:Ref.badB (Ref.zk s (st0 p)).1 (Ref.zk s ((Ref.zk s (st0 p)).2.2.go 1)).1 (Ref.zk s (st0 p)).2.1 (Ref.zk s ((Ref.zk s (st0 p)).2.2.go 1)).2.1=true↔(Pro.many L n=true∨Pro.many L ((Pro.zj L (s.size:Nat) n).n+1)=true∨(Pro.zj L (s.size:Nat) ((Pro.zj L (s.size:Nat) n).n+1)).v<(Pro.zj L (s.size:Nat) n).v):=by
        rw [hgo]
        unfold Ref.badB
        rw [hone,htwo]
        cases q1:Pro.many L n
        ·cases q2:Pro.many L ((Pro.zj L (s.size:Nat) n).n+1)
         ·rw [q1] at hone
          rw [q2] at htwo
          rw [hlo hone,hlo2 htwo]
          simp [Ref.loOf]
          exact decide_eq_true_iff
         ·simp
        ·simp
       by_cases hbb:Pro.many L n=true∨Pro.many L ((Pro.zj L (s.size:Nat) n).n+1)=true∨(Pro.zj L (s.size:Nat) ((Pro.zj L (s.size:Nat) n).n+1)).v<(Pro.zj L (s.size:Nat) n).v
       ·have ha:Pro.addO L (s.size:Nat) n=Pro.bad 4 (Pro.zB L (s.size:Nat) (Pro.zj L (s.size:Nat) n).n) (Pro.zj L (s.size:Nat) ((Pro.zj L (s.size:Nat) n).n+1)).n:=by
         unfold Pro.addO;rw [if_neg (by simp [hk]),if_pos hdd];unfold Pro.xl;rw [if_neg (by simp [hk2]),if_pos hbb]
        rw [ha,if_pos (by simp [Pro.bad]),Ref.Zo hc hc1 hr2 (by rw [hgo];exact p1) (hbad.2 hbb),hgo,hst2,fail0]
        exact yP (by decide) rfl hb1.place.symm
       ·have ha:Pro.addO L (s.size:Nat) n=Pro.zj L (s.size:Nat) ((Pro.zj L (s.size:Nat) n).n+1):=by
         unfold Pro.addO;rw [if_neg (by simp [hk]),if_pos hdd];unfold Pro.xl;rw [if_neg (by simp [hk2]),if_neg hbb]
        rw [ha,if_neg (by simp [hk2]),Ref.jJ hc hc1 hr2 (by rw [hgo];exact p1) (fun hh=>hbb (hbad.1 hh)),hgo,hst2]
        have hgt:p<(Ref.zk s (st0 ((Ref.zk s (st0 p)).2.2.i+1))).2.2.i:=by
         by_cases hh:p<(Ref.zk s (st0 ((Ref.zk s (st0 p)).2.2.i+1))).2.2.i
         ·exact hh
         ·exfalso
          have:=kT h hb3 (by omega)
          omega
        exact kU f g _ _ _ hb3 (by omega) (by omega)
      ·have ha:Pro.addO L (s.size:Nat) n=Pro.zj L (s.size:Nat) ((Pro.zj L (s.size:Nat) n).n+1):=by
        unfold Pro.addO;rw [if_neg (by simp [hk]),if_pos hdd];unfold Pro.xl;rw [if_pos hk2]
       have he:=hm2.1.2 hk2
       rw [ha,if_pos hk2,Ref.vW hc hc1 hr2 (by rw [hgo,he.1];omega),hgo]
       exact ⟨fun hh=>absurd hh hk2,fun _=>he⟩
    ·have ha:Pro.addO L (s.size:Nat) n=Pro.zj L (s.size:Nat) n:=by unfold Pro.addO;rw [if_pos hk]
     have he:=hm.1.2 hk
     have hne:(Ref.zk s (st0 p)).2.2.e≠0:=by rw [he.1];omega
     rw [ha,if_pos hk,Ref.jZ hc hc1 (by unfold Ref.qz;simp [hne])]
     have hce:=V8 (s:=s) g (ps++[(Ref.zk s (st0 p)).1]) (Ref.zk s (st0 p)).2.2 hne
     exact ⟨fun hh=>absurd hh hk,fun _=>⟨by rw [hce.1];exact he.1,by rw [hce.2];exact he.2⟩⟩
   ·have hb0:zd s p = -1:=xC s p (by omega)
    have hend:=h.stop hlt
    rw [if_pos (by omega),Ref.vV hc (by show zd s p<0;omega),fail0]
    exact yP (by decide) rfl (by have:=h.good.le;show (p:Int)=((s.size:Nat):Int);omega)
end Eqv
end
section
open Go.RowKit
namespace Eqv
variable {s:ByteArray} {L:List (Int×Int)}
theorem Kz {n p:Nat}(h:Br s L n p):Pro.dig (Pro.zh L n)=Ref.qx (zd s p):=by
 unfold Pro.dig Ref.qx
 rcases h.alike with ⟨e,_⟩ |⟨a,b⟩
 ·rw [e]
 ·have a1:decide (Pro.zh L n≤57)=false:=decide_eq_false (by omega)
  have b1:decide (zd s p≤57)=false:=decide_eq_false (by omega)
  rw [a1,b1,Bool.and_false,Bool.and_false]
theorem digb {b:Int}(h:Ref.qx b=true):48≤b∧b≤57:=by unfold Ref.qx at h;simpa using h
theorem vE:∀ (f g:Nat)(c d:Int)(n p:Nat),Br s L n p→L.length<n+f→s.size<p+g→0≤d→c=min d 101→
  (Pro.countL L f c n).1=min (Ref.countL s g d (st0 p)).1 101∧0≤(Ref.countL s g d (st0 p)).1∧(Ref.countL s g d (st0 p)).2=st0 (Ref.countL s g d (st0 p)).2.i∧Br s L (Pro.countL L f c n).2 (Ref.countL s g d (st0 p)).2.i∧p≤(Ref.countL s g d (st0 p)).2.i
 |0,g,c,d,n,p,h,hf,hg,hd,hc=>by have:=h.le;omega
 |f+1,0,c,d,n,p,h,hf,hg,hd,hc=>by have:=h.good.le;omega
 |f+1,g+1,c,d,n,p,h,hf,hg,hd,hc=>by
  have hds:=Kz h
  cases hb:Ref.qx (zd s p)
  ·rw [hb] at hds
   rw [Ref.countL_stop (st:=st0 p) hb,Pro.countL_stop hds]
   exact ⟨hc,hd,rfl,h,Nat.le_refl _⟩
  ·rw [hb] at hds
   have hx:=digb hb
   have hl:Pro.zh L n=zd s p:=h.ascii (by omega)
   rw [Ref.countL_go (st:=st0 p) hb,Pro.countL_go hds,hl,go0]
   have hi:(st0 p).i=p:=rfl
   rw [hi]
   have:=vE f g (min (c*10+(zd s p-48)) 101) (if d≤100 then 10*d+zd s p-48 else d) (n+1) (p+1) (h.next (by omega) (by omega)) (by omega) (by omega) (by split<;>omega) (by split<;>omega)
   exact ⟨this.1,this.2.1,this.2.2.1,this.2.2.2.1,by have:=this.2.2.2.2;omega⟩
theorem Xw {n p:Nat}(h:Br s L n p):Same s L (Pro.zp L (s.size:Nat) n) (Ref.zR s (st0 p)).1 (Ref.zR s (st0 p)).2:=by
 have hl:=h.le
 have hg:=h.good.le
 have hi:(st0 p).i=p:=rfl
 have hc:=vE (L.length+1-n) (s.size+1-p) 0 0 n p h (by omega) (by omega) (by omega) (by omega)
 have hN:Ref.jY s (st0 p)=Ref.countL s (s.size+1-p) 0 (st0 p):=rfl
 have hP:Pro.countP L n=Pro.countL L (L.length+1-n) 0 n:=rfl
 have hds:=Kz h
 have hR:=Ref.qt (s:=s) (st:=st0 p) (n:=(Ref.jY s (st0 p)).1) (st':=(Ref.jY s (st0 p)).2) rfl
 rw [hR,hN,hi]
 unfold Pro.zp
 rw [hP]
 cases hb:Ref.qx (zd s p)
 ·rw [hb] at hds
  have hz:Ref.countL s (s.size+1-p) 0 (st0 p)=(0,st0 p):=by rw [show s.size+1-p=(s.size-p)+1 by omega];exact Ref.countL_stop (st:=st0 p) hb
  rw [if_pos hds,hz]
  rw [if_neg (show ¬(100:Int)<((0:Int),st0 p).1 from (by decide:¬(100:Int)<0)),if_pos (show ((0:Int),st0 p).2.i=p from rfl)]
  show Same s L _ 0 ((st0 p).fail 3 p)
  rw [fail0]
  exact yP (by decide) rfl h.place.symm
 ·rw [hb] at hds
  rw [if_neg (by simp [hds])]
  have hx:=digb hb
  have hgt:p<(Ref.countL s (s.size+1-p) 0 (st0 p)).2.i:=by
   rw [show s.size+1-p=(s.size-p)+1 by omega,Ref.countL_go (st:=st0 p) hb,go0]
   have:=vE (L.length+1-(n+1)) (s.size-p) (min (if (0:Int)≤100 then 10*0+zd s (st0 p).i-48 else 0) 101) (if (0:Int)≤100 then 10*0+zd s (st0 p).i-48 else 0) (n+1) (p+1) (h.next (by omega) (by omega)) (by have:=h.lt.2 ((zw s p).1 (by omega));omega) (by have:=(zw s p).1 (by omega);omega) (by rw [if_pos (by decide),hi];omega) rfl
   have:=this.2.2.2.2
   omega
  generalize Ref.countL s (s.size+1-p) 0 (st0 p)=r at *
  generalize Pro.countL L (L.length+1-n) 0 n=t at *
  obtain ⟨e1,e2,e3,e4,e5⟩:=hc
  rw [e1]
  by_cases hbig:100<r.1
  ·rw [if_pos (by omega),if_pos hbig,if_neg (by omega),e3,fail0]
   exact yP (by decide) rfl h.place.symm
  ·rw [if_neg (by omega),if_neg hbig,if_neg (by omega),e3]
   exact ⟨fun _=>⟨rfl,rfl,by show r.1=min r.1 101;omega,e4⟩,fun hh=>absurd rfl hh⟩
def SameQ (s:ByteArray)(L:List (Int×Int))(o:Pro.Out)(n:Nat)(mx:Int)(r:Int×Int×St):Prop:=(o.k=0→r.1=o.v∧r.2.1=mx∧r.2.2=st0 r.2.2.i∧Br s L n r.2.2.i)∧(o.k≠0→r.2.2.e=(o.k:Int)∧r.2.2.a=o.p)
theorem KA {n p:Nat}(h:Br s L n p)(hb:zd s p=123):SameQ s L (Pro.zQ L (s.size:Nat) n).1 (Pro.zQ L (s.size:Nat) n).1.n (Pro.zQ L (s.size:Nat) n).2 (Ref.zZ s (st0 p)):=by
 have h1:=h.go hb (by omega) (by omega)
 have ha:=Xw h1
 have hva:=Pro.qN (L:=L) (len:=(s.size:Nat)) (n+1) h1.le
 have hi:(st0 p).i=p:=rfl
 unfold Pro.zQ Ref.zZ
 simp only []
 rw [go0,hi]
 by_cases hk:(Pro.zp L (s.size:Nat) (n+1)).k=0
 ·obtain ⟨a1,a2,a3,a4⟩:=ha.1 hk
  have hst:=kS a1 a2
  rw [if_neg (by simp [hk]),a3,hst]
  generalize (Ref.zR s (st0 (p+1))).2.i=p1 at *
  generalize Pro.zp L (s.size:Nat) (n+1)=A at *
  by_cases h125:zd s p1=125
  ·have e1:Ref.xw s A.v (st0 p1)=(A.v,st0 p1):=by unfold Ref.xw;rw [if_neg (fun hh=>by have:zd s p1=44:=hh.2;omega)]
   have e2:Ref.yh s (st0 p1)=st0 p1:=by unfold Ref.yh;rw [if_neg (fun hh=>hh.2 h125)]
   rw [if_pos ((a4.eqv 125 (by omega)).2 h125),e1,e2,go0,if_neg (by omega)]
   exact ⟨fun _=>⟨rfl,rfl,rfl,a4.go h125 (by omega) (by omega)⟩,fun hh=>absurd rfl hh⟩
  ·rw [if_neg (fun hh=>h125 ((a4.eqv 125 (by omega)).1 hh))]
   by_cases h44:zd s p1=44
   ·rw [if_neg (by simp;exact (a4.eqv 44 (by omega)).2 h44)]
    have b1:=a4.go h44 (by omega) (by omega)
    by_cases h3:zd s (p1+1)=125
    ·have e1:Ref.xw s A.v (st0 p1)=(-1,st0 (p1+1)):=by unfold Ref.xw;rw [if_pos ⟨rfl,h44⟩,if_pos (show zd s ((st0 p1).i+1)=125 from h3),go0]
     have e2:Ref.yh s (st0 (p1+1))=st0 (p1+1):=by unfold Ref.yh;rw [if_neg (fun hh=>hh.2 h3)]
     rw [if_pos ((b1.eqv 125 (by omega)).2 h3),e1,e2,go0,if_neg (by omega)]
     exact ⟨fun _=>⟨rfl,rfl,rfl,b1.go h3 (by omega) (by omega)⟩,fun hh=>absurd rfl hh⟩
    ·rw [if_neg (fun hh=>h3 ((b1.eqv 125 (by omega)).1 hh))]
     have e1:Ref.xw s A.v (st0 p1)=Ref.zR s (st0 (p1+1)):=by unfold Ref.xw;rw [if_pos ⟨rfl,h44⟩,if_neg (show ¬zd s ((st0 p1).i+1)=125 from h3),go0]
     rw [e1]
     have hm:=Xw b1
     have hvm:=Pro.qN (L:=L) (len:=(s.size:Nat)) (A.n+1) b1.le
     by_cases hk2:(Pro.zp L (s.size:Nat) (A.n+1)).k=0
     ·obtain ⟨c1,c2,c3,c4⟩:=hm.1 hk2
      have hst2:=kS c1 c2
      rw [if_neg (by simp [hk2]),c3,hst2]
      generalize (Ref.zR s (st0 (p1+1))).2.i=p2 at *
      generalize Pro.zp L (s.size:Nat) (A.n+1)=M at *
      by_cases h4:zd s p2=125
      ·have e2:Ref.yh s (st0 p2)=st0 p2:=by unfold Ref.yh;rw [if_neg (fun hh=>hh.2 h4)]
       rw [if_neg (by simp;exact (c4.eqv 125 (by omega)).2 h4),e2,go0]
       by_cases h5:M.v<A.v
       ·rw [if_pos h5,if_pos ⟨rfl,hvm.2.2.1,h5⟩,fail0]
        exact ⟨fun hh=>absurd hh (by simp [Pro.bad]),fun _=>⟨rfl,h.place.symm⟩⟩
       ·rw [if_neg h5,if_neg (fun hh=>h5 hh.2.2)]
        exact ⟨fun _=>⟨rfl,rfl,rfl,c4.go h4 (by omega) (by omega)⟩,fun hh=>absurd rfl hh⟩
      ·have e2:Ref.yh s (st0 p2)=⟨p2,3,p2⟩:=by unfold Ref.yh;rw [if_pos ⟨rfl,h4⟩,fail0];rfl
       rw [if_pos (fun hh=>h4 ((c4.eqv 125 (by omega)).1 hh)),e2]
       rw [if_neg (fun hh=>absurd hh.1 (show ¬(3:Int)=0 by decide))]
       exact ⟨fun hh=>absurd hh (by simp [Pro.bad]),fun _=>⟨rfl,c4.place.symm⟩⟩
     ·have he:=hm.2 hk2
      have hne:(Ref.zR s (st0 (p1+1))).2.e≠0:=by rw [he.1];omega
      have e2:Ref.yh s (Ref.zR s (st0 (p1+1))).2=(Ref.zR s (st0 (p1+1))).2:=by unfold Ref.yh;rw [if_neg (fun hh=>hne hh.1)]
      rw [if_pos hk2,e2,if_neg (fun hh=>hne hh.1)]
      exact ⟨fun hh=>absurd hh hk2,fun _=>he⟩
   ·have e1:Ref.xw s A.v (st0 p1)=(A.v,st0 p1):=by unfold Ref.xw;rw [if_neg (fun hh=>h44 hh.2)]
    have e2:Ref.yh s (st0 p1)=⟨p1,3,p1⟩:=by unfold Ref.yh;rw [if_pos ⟨rfl,h125⟩,fail0];rfl
    rw [if_pos (fun hh=>h44 ((a4.eqv 44 (by omega)).1 hh)),e1,e2]
    rw [if_neg (fun hh=>absurd hh.1 (show ¬(3:Int)=0 by decide))]
    exact ⟨fun hh=>absurd hh (by simp [Pro.bad]),fun _=>⟨rfl,a4.place.symm⟩⟩
 ·have he:=ha.2 hk
  have hne:(Ref.zR s (st0 (p+1))).2.e≠0:=by rw [he.1];omega
  have e1:Ref.xw s (Ref.zR s (st0 (p+1))).1 (Ref.zR s (st0 (p+1))).2=((Ref.zR s (st0 (p+1))).1,(Ref.zR s (st0 (p+1))).2):=by unfold Ref.xw;rw [if_neg (fun hh=>hne hh.1)]
  have e2:Ref.yh s (Ref.zR s (st0 (p+1))).2=(Ref.zR s (st0 (p+1))).2:=by unfold Ref.yh;rw [if_neg (fun hh=>hne hh.1)]
  rw [if_pos hk,e1,e2,if_neg (fun hh=>hne hh.1)]
  exact ⟨fun hh=>absurd hh hk,fun _=>he⟩
end Eqv
end
section
open Go.RowKit
namespace Eqv
variable {s:ByteArray} {L:List (Int×Int)}
theorem wy {n p:Nat}(h:Br s L n p):Ref.xx s (st0 p)=st0 (Ref.xx s (st0 p)).i∧Br s L (Pro.kg L n) (Ref.xx s (st0 p)).i:=by
 unfold Ref.xx Pro.kg
 by_cases hb:zd s p=63
 ·rw [if_pos ⟨rfl,hb⟩,if_pos ((h.eqv 63 (by omega)).2 hb)]
  exact ⟨rfl,h.go hb (by omega) (by omega)⟩
 ·rw [if_neg (fun hh=>hb hh.2),if_neg (fun hh=>hb ((h.eqv 63 (by omega)).1 hh))]
  exact ⟨rfl,h⟩
theorem V9 {n p:Nat}(h:Br s L n p)(hq:Ref.yV (zd s p)=true):(Pro.zy L (s.size:Nat) n).1=true∧SameQ s L (Pro.zy L (s.size:Nat) n).2.1 (Pro.kg L (Pro.zy L (s.size:Nat) n).2.1.n) (Pro.zy L (s.size:Nat) n).2.2 (Ref.zK s (st0 p)):=by
 have hi:(st0 p).i=p:=rfl
 have hc:=Ref.jK hq
 have e42:=h.eqv 42 (by omega)
 have e43:=h.eqv 43 (by omega)
 have e63:=h.eqv 63 (by omega)
 have e123:=h.eqv 123 (by omega)
 unfold Pro.zy Ref.zK
 rw [hi]
 by_cases k1:zd s p=42
 ·have hz:=wy (h.go k1 (by omega) (by omega))
  rw [if_pos (e42.2 k1),if_neg (by omega),if_neg (by omega),if_pos k1,go0]
  exact ⟨rfl,fun _=>⟨rfl,rfl,hz.1,hz.2⟩,fun hh=>absurd rfl hh⟩
 ·by_cases k2:zd s p=43
  ·have hz:=wy (h.go k2 (by omega) (by omega))
   rw [if_neg (fun hh=>k1 (e42.1 hh)),if_pos (e43.2 k2),if_pos k2,go0]
   exact ⟨rfl,fun _=>⟨rfl,rfl,hz.1,hz.2⟩,fun hh=>absurd rfl hh⟩
  ·by_cases k3:zd s p=63
   ·have hz:=wy (h.go k3 (by omega) (by omega))
    rw [if_neg (fun hh=>k1 (e42.1 hh)),if_neg (fun hh=>k2 (e43.1 hh)),if_pos (e63.2 k3),if_neg k2,if_pos k3,go0]
    exact ⟨rfl,fun _=>⟨rfl,rfl,hz.1,hz.2⟩,fun hh=>absurd rfl hh⟩
   ·have k4:zd s p=123:=by omega
    have hcs:=KA h k4
    rw [if_neg (fun hh=>k1 (e42.1 hh)),if_neg (fun hh=>k2 (e43.1 hh)),if_neg (fun hh=>k3 (e63.1 hh)),if_pos (e123.2 k4),if_neg k2,if_neg k3,if_neg k1]
    refine ⟨rfl,fun hk=>?_,fun hk=>?_⟩
    ·obtain ⟨a1,a2,a3,a4⟩:=hcs.1 hk
     rw [a3]
     have hz:=wy a4
     exact ⟨a1,a2,hz.1,hz.2⟩
    ·have he:=hcs.2 hk
     have:Ref.xx s (Ref.zZ s (st0 p)).2.2=(Ref.zZ s (st0 p)).2.2:=by unfold Ref.xx;rw [if_neg (fun hh=>by have e1:=hh.1;have e2:=he.1;have:(Pro.zQ L (s.size:Nat) n).1.k≠0:=hk;omega)]
     rw [this]
     exact he
theorem Wa {n p:Nat}(h:Br s L n p)(hq:Ref.yV (zd s p)=false):Pro.zy L (s.size:Nat) n=(false,Pro.good 0 n,0):=by
 have e42:=h.eqv 42 (by omega)
 have e43:=h.eqv 43 (by omega)
 have e63:=h.eqv 63 (by omega)
 have e123:=h.eqv 123 (by omega)
 have hn:zd s p≠42∧zd s p≠43∧zd s p≠63∧zd s p≠123:=by unfold Ref.yV at hq;simpa [and_assoc] using hq
 unfold Pro.zy
 rw [if_neg (fun hh=>hn.1 (e42.1 hh)),if_neg (fun hh=>hn.2.1 (e43.1 hh)),if_neg (fun hh=>hn.2.2.1 (e63.1 hh)),if_neg (fun hh=>hn.2.2.2 (e123.1 hh))]
theorem zbc {n p:Nat}(h:Br s L n p)(hb:zd s p=40):Same s L (Pro.zV L (s.size:Nat) n) 0 (Ref.qP s (st0 p)):=by
 have h1:=h.go hb (by omega) (by omega)
 have hi:(st0 p).i=p:=rfl
 unfold Pro.zV Ref.qP
 rw [hi]
 by_cases k1:zd s (p+1)=63
 ·have h2:=h1.go k1 (by omega) (by omega)
  rw [if_pos ((h1.eqv 63 (by omega)).2 k1),if_pos k1]
  by_cases k2:zd s (p+2)=58
  ·rw [if_pos ((h2.eqv 58 (by omega)).2 k2),if_pos k2,go0]
   exact xU (h2.go k2 (by omega) (by omega))
  ·rw [if_neg (fun hh=>k2 ((h2.eqv 58 (by omega)).1 hh)),if_neg k2]
   have a1:=h2.eqv 61 (by omega)
   have a2:=h2.eqv 33 (by omega)
   have a3:=h2.eqv 60 (by omega)
   by_cases k3:zd s (p+2)=61∨zd s (p+2)=33∨zd s (p+2)=60
   ·have k3':Pro.zh L (n+2)=61∨Pro.zh L (n+2)=33∨Pro.zh L (n+2)=60:=by
     rcases k3 with k |k |k
     ·exact .inl (a1.2 k)
     ·exact .inr (.inl (a2.2 k))
     ·exact .inr (.inr (a3.2 k))
    rw [if_pos k3',if_pos k3,go0,fail0]
    exact yP (by decide) rfl h.place.symm
   ·have k3':¬(Pro.zh L (n+2)=61∨Pro.zh L (n+2)=33∨Pro.zh L (n+2)=60):=fun hh=>by
     rcases hh with k |k |k
     ·exact k3 (.inl (a1.1 k))
     ·exact k3 (.inr (.inl (a2.1 k)))
     ·exact k3 (.inr (.inr (a3.1 k)))
    rw [if_neg k3',if_neg k3,go0,fail0]
    exact yP (by decide) rfl h2.place.symm
 ·rw [if_neg (fun hh=>k1 ((h1.eqv 63 (by omega)).1 hh)),if_neg k1,go0]
  exact xU h1
end Eqv
end
section
open Go.RowKit
namespace Ref
def scan:List Tok→Int→Nat→Option Nat
 | [],_,_=>none
 |t :: r,op,k=>if zW t.kind op=0 then some k else scan r (zW t.kind op) (k+1)
theorem jN (t:Tok)(r:List Tok)(op:Int)(k:Nat):scan (t :: r) op k=if zW t.kind op=0 then some k else scan r (zW t.kind op) (k+1):=rfl
def yB (k mn mx:Int):Int:=if mx<0 then (if mn=0 then 1 else mn)*k+1 else mn*k+(mx-mn)*(k+1)
def xI (l:List Tok):Int:=zP l 0
def zN (rest:List Tok)(k:Int):Int×List Tok:=match rest with
 | []=>(k,[])
 |q :: r=>if q.kind=6 then (yB k q.mn q.mx,r) else (k,q :: r)
def yp:Nat→List Tok→Int→Option Int
 |0,_,_=>none
 |_+1,[],n=>some n
 |f+1,t :: r,n=>
  if t.kind=5 then yp f r (n+1)
  else if t.kind=3 then
   (match scan r 1 0 with
    |none=>none
    |some j=>match yp f (r.take j) 0 with
     |none=>none
     |some k=>yp f (zN (r.drop (j+1)) k).2 (min 1000000 (n+(zN (r.drop (j+1)) k).1)))
  else yp f (zN r 1).2 (min 1000000 (n+(zN r 1).1))
def Yh (l:List Tok)(n z:Int):Prop:=∃ f,yp f l n=some z
theorem vF:∀ (f:Nat)(l:List Tok)(n z:Int),yp f l n=some z→yp (f+1) l n=some z
 |0,l,n,z,h=>by simp [yp] at h
 |f+1,[],n,z,h=>by simpa [yp] using h
 |f+1,t :: r,n,z,h=>by
  unfold yp at h
  rw [show f+1+1=(f+1)+1 from rfl]
  unfold yp
  split at h
  ·rename_i h5;rw [if_pos h5];exact vF f _ _ _ h
  ·rename_i h5
   rw [if_neg h5]
   split at h
   ·rename_i h3
    rw [if_pos h3]
    split at h
    ·cases h
    ·rename_i j hj
     split at h
     ·cases h
     ·rename_i k hk
      rw [vF f _ _ _ hk]
      exact vF f _ _ _ h
   ·rename_i h3;rw [if_neg h3];exact vF f _ _ _ h
theorem vG {f g:Nat}{l:List Tok}{n z:Int}(h:yp f l n=some z)(hg:f≤g):yp g l n=some z:=by
 induction g with
 |zero=>have:f=0:=by omega
      subst this;exact h
 |succ g ih=>
  by_cases hfg:f=g+1
  ·subst hfg;exact h
  ·exact vF g l n z (ih (by omega))
def TokB (t:Tok):Prop:=0≤t.mn∧t.mn≤100∧-1≤t.mx∧t.mx≤100∧(t.mx = -1∨t.mn≤t.mx)
def Bal (ts:List Tok):Prop:=(∀ (op:Int) (rest:List Tok) (k:Nat),1≤op→scan (ts++rest) op k=scan rest op (k+ts.length))∧∀ t∈ts,TokB t
theorem Bal.nil:Bal []:=⟨fun op rest k _=>by simp,fun t h=>by cases h⟩
theorem Bal.append {a b:List Tok}(ha:Bal a)(hb:Bal b):Bal (a++b):=by
 refine ⟨fun op rest k h=>?_,fun t h=>?_⟩
 ·rw [List.append_assoc,ha.1 op _ k h,hb.1 op _ _ h,List.length_append,Nat.add_assoc]
 ·rcases List.mem_append.1 h with h |h
  ·exact ha.2 t h
  ·exact hb.2 t h
theorem Bal.one {t:Tok}(h3:t.kind≠3)(h4:t.kind≠4)(hb:TokB t):Bal [t]:=by
 refine ⟨fun op rest k h=>?_,fun u h=>by simp at h;subst h;exact hb⟩
 have:zW t.kind op=op:=by unfold zW;rw [if_neg h3,if_neg h4]
 show scan (t :: rest) op k=_
 rw [jN,this,if_neg (by omega)]
 rfl
theorem Bal.group {o c:Tok}{ts:List Tok}(ho:o.kind=3)(hc:c.kind=4)(hbo:TokB o)(hbc:TokB c)(h:Bal ts):Bal (o :: ts++[c]):=by
 refine ⟨fun op rest k hop=>?_,fun t ht=>by
  simp at ht
  rcases ht with rfl |ht |rfl
  ·exact hbo
  ·exact h.2 t ht
  ·exact hbc⟩
 have e1:zW o.kind op=op+1:=by unfold zW;rw [if_pos ho]
 have e2:zW c.kind (op+1)=op:=by unfold zW;rw [if_neg (by omega),if_pos hc];omega
 show scan (o :: (ts++[c]++rest)) op k=_
 rw [jN,e1,if_neg (by omega),List.append_assoc,h.1 (op+1) _ _ (by omega)]
 show scan (c :: rest) (op+1) _=_
 rw [jN,e2,if_neg (by omega)]
 simp only [List.length_cons,List.length_append,List.length_nil]
 rw [show k+1+ts.length+1=k+(ts.length+1+(0+1)) by omega]
def AddsTo (ts:List Tok)(v:Int):Prop:=∀ n:Int,0≤n→∃ n',0≤n'∧min n' 301=min (n+v) 301∧∀ rest z,xI rest≠6→Yh rest n' z→Yh (ts++rest) n z
theorem AddsTo.nil:AddsTo [] 0:=fun n h=>⟨n,h,by rw [Int.add_zero],fun _ _ _ hz=>hz⟩
theorem AddsTo.append {a b:List Tok}{x y:Int}(ha:AddsTo a x)(hb:AddsTo b y)(hx:0≤x)(hy:0≤y)(hh:xI b≠6):AddsTo (a++b) (min (x+y) 301):=fun n h=>by
 obtain ⟨n1,p1,q1,r1⟩:=ha n h
 obtain ⟨n2,p2,q2,r2⟩:=hb n1 p1
 refine ⟨n2,p2,by omega,fun rest z hr hz=>?_⟩
 rw [List.append_assoc]
 refine r1 (b++rest) z ?_ (r2 rest z hr hz)
 cases b with
 |nil=>exact hr
 |cons t r=>exact hh
theorem AddsTo.weak {a:List Tok}{x y:Int}(ha:AddsTo a x)(h:min x 301=min y 301)(hx:0≤x)(_hy:0≤y):AddsTo a y:=fun n hn=>by
 obtain ⟨n1,p1,q1,r1⟩:=ha n hn
 exact ⟨n1,p1,by omega,r1⟩
theorem AddsTo.bar {t:Tok}(h:t.kind=5):AddsTo [t] 1:=fun n hn=>⟨n+1,by omega,rfl,fun rest z _ ⟨f,hf⟩=>⟨f+1,by show yp (f+1) (t :: rest) n=_;unfold yp;rw [if_pos h];exact hf⟩⟩
theorem AddsTo.one {t:Tok}(h5:t.kind≠5)(h3:t.kind≠3):AddsTo [t] 1:=fun n hn=>⟨min 1000000 (n+1),by omega,by omega,fun rest z hr ⟨f,hf⟩=>⟨f+1,by
 show yp (f+1) (t :: rest) n=_
 unfold yp
 rw [if_neg h5,if_neg h3]
 have:zN rest 1=(1,rest):=by
  unfold zN
  cases rest with
  |nil=>rfl
  |cons q r=>simp only [];rw [if_neg (show ¬q.kind=6 from hr)]
 rw [this]
 exact hf⟩⟩
theorem AddsTo.oneQ {t q:Tok}(h5:t.kind≠5)(h3:t.kind≠3)(h6:q.kind=6)(hq:0≤yB 1 q.mn q.mx):AddsTo [t,q] (yB 1 q.mn q.mx):=fun n hn=>⟨min 1000000 (n+yB 1 q.mn q.mx),by omega,by omega,fun rest z hr ⟨f,hf⟩=>⟨f+1,by
 show yp (f+1) (t :: q :: rest) n=_
 unfold yp
 rw [if_neg h5,if_neg h3]
 have:zN (q :: rest) 1=(yB 1 q.mn q.mx,rest):=by unfold zN;simp only [];rw [if_pos h6]
 rw [this]
 exact hf⟩⟩
theorem AddsTo.whole {ts:List Tok}{v:Int}(h:AddsTo ts v):∃ z,0≤z∧min z 301=min v 301∧Yh ts 0 z:=by
 obtain ⟨n',p,q,r⟩:=h 0 (by omega)
 refine ⟨n',p,by omega,?_⟩
 have:=r [] n' (by decide) ⟨1,rfl⟩
 rw [List.append_nil] at this
 exact this
theorem Zj {ts rest:List Tok}{c:Tok}(hB:Bal ts)(hc:c.kind=4):scan (ts++c :: rest) 1 0=some ts.length:=by
 rw [hB.1 1 _ 0 (by omega),jN]
 have:zW c.kind 1=0:=by unfold zW;rw [if_neg (by omega),if_pos hc];rfl
 rw [this,if_pos rfl,Nat.zero_add]
theorem AddsTo.group {o c:Tok}{ts:List Tok}{v:Int}(ho:o.kind=3)(hc:c.kind=4)(hB:Bal ts)(h:AddsTo ts v)(hv:0≤v):AddsTo (o :: ts++[c]) v:=fun n hn=>by
 obtain ⟨k,hk0,hk1,fk,hk2⟩:=h.whole
 refine ⟨min 1000000 (n+k),by omega,by omega,fun rest z hr ⟨f,hf⟩=>⟨max fk f+1,?_⟩⟩
 show yp (max fk f+1) (o :: (ts++[c]++rest)) n=_
 rw [List.append_assoc]
 show yp (max fk f+1) (o :: (ts++c :: rest)) n=_
 unfold yp
 rw [if_neg (by omega),if_pos ho,Zj hB hc]
 simp only []
 rw [List.take_left,vG hk2 (by omega)]
 have hd:(ts++c :: rest).drop (ts.length+1)=rest:=by rw [←List.drop_drop,List.drop_left];rfl
 rw [hd]
 have:zN rest k=(k,rest):=by
  unfold zN
  cases rest with
  |nil=>rfl
  |cons q r=>simp only [];rw [if_neg (show ¬q.kind=6 from hr)]
 simp only [this]
 exact vG hf (by omega)
theorem AddsTo.groupQ {o c q:Tok}{ts:List Tok}{v w:Int}(ho:o.kind=3)(hc:c.kind=4)(h6:q.kind=6)(hB:Bal ts)(h:AddsTo ts v)(hw:0≤w)(hq:∀ k,0≤k→min k 301=min v 301→0≤yB k q.mn q.mx∧min (yB k q.mn q.mx) 301=min w 301):AddsTo (o :: ts++[c,q]) w:=fun n hn=>by
 obtain ⟨k,hk0,hk1,fk,hk2⟩:=h.whole
 obtain ⟨hq0,hq1⟩:=hq k hk0 hk1
 refine ⟨min 1000000 (n+yB k q.mn q.mx),by omega,by omega,fun rest z hr ⟨f,hf⟩=>⟨max fk f+1,?_⟩⟩
 show yp (max fk f+1) (o :: (ts++[c,q]++rest)) n=_
 rw [List.append_assoc]
 show yp (max fk f+1) (o :: (ts++c :: (q :: rest))) n=_
 unfold yp
 rw [if_neg (by omega),if_pos ho,Zj hB hc]
 simp only []
 rw [List.take_left,vG hk2 (by omega)]
 have hd:(ts++c :: (q :: rest)).drop (ts.length+1)=q :: rest:=by rw [←List.drop_drop,List.drop_left];rfl
 rw [hd]
 have:zN (q :: rest) k=(yB k q.mn q.mx,rest):=by unfold zN;simp only [];rw [if_pos h6]
 simp only [this]
 exact vG hf (by omega)
end Ref
end
section
open Go.RowKit
open Sm (Tree)
namespace Eqv
variable {s:ByteArray} {L:List (Int×Int)}
def inSp (sp:List (Int×Int))(c:Int):Bool:=sp.any fun x=>decide (x.1≤c) && decide (c≤x.2)
def inPt (p:Pt)(c:Int):Bool:=inSp p.spans c != p.neg
def anyPt (ps:List Pt)(c:Int):Bool:=ps.any fun p=>inPt p c
def vH (t:Tok)(c:Int):Bool:=anyPt t.parts c != t.neg
def qT (a c:Int):Bool:=inPt ⟨decide (a<97),Ref.setL a⟩ c
def qL (R:List (Int×Int))(S:List Int)(c:Int):Bool:=inSp R c ||S.any fun a=>qT a c
def tkTree (T:Tree)(c:Int):Bool:=
 if T.kind=1 then !inSp [(10,10),(13,13),(8232,8233)] c
 else if T.kind=2 then decide (c=T.a)
 else if T.kind=3 then qT T.a c
 else if T.kind=4 then qL T.rs T.ss c != T.neg
 else false
def QO (T:Tree):Prop:=1≤T.kind∧T.kind≤4
def LeafTok (t:Tok)(T:Tree):Prop:=QO T∧(∀ c,vH t c=tkTree T c)∧t.parts.length≤1000∧∀ p∈t.parts,p.spans.length≤10
theorem inSp_one (a c:Int):inSp [(a,a)] c=decide (c=a):=by
 unfold inSp
 simp only [List.any_cons,List.any_nil,Bool.or_false]
 by_cases h:c=a
 ·subst h;simp
 ·simp only [h,decide_false]
  by_cases h2:a≤c
  ·simp [h2];omega
  ·simp [h2]
theorem inSp_append (a b:List (Int×Int))(c:Int):inSp (a++b) c=(inSp a c ||inSp b c):=by unfold inSp;rw [List.any_append]
theorem Xx (ps:List Pt)(p:Pt)(c:Int):anyPt (ps++[p]) c=(anyPt ps c ||inPt p c):=by unfold anyPt;simp [List.any_append]
theorem W6 (R:List (Int×Int))(S:List Int)(x:Int×Int)(c:Int):qL (R++[x]) S c=(qL R S c ||inSp [x] c):=by
 unfold qL;rw [inSp_append];cases inSp R c<;>cases inSp [x] c<;>simp
theorem anyRS_s (R:List (Int×Int))(S:List Int)(a:Int)(c:Int):qL R (S++[a]) c=(qL R S c ||qT a c):=by
 unfold qL;rw [List.any_append];simp [Bool.or_assoc]
theorem kB (sp:List (Int×Int))(c:Int):inPt ⟨false,sp⟩ c=inSp sp c:=by unfold inPt;simp
theorem KB (cls:Bool){m q:Nat}(h:Br s L m q)(h92:zd s q=92)(hs:Pro.setB (Pro.zh L (m+1))=true) :
  (Ref.zG s cls (st0 q)).1=⟨decide ((Pro.escO L (s.size:Nat) m).v<97),Ref.setL (Pro.escO L (s.size:Nat) m).v⟩:=by
 have h1:=h.go h92 (by omega) (by omega)
 have hi:(st0 q).i=q:=rfl
 have hlet:Pro.zh L (m+1)=zd s (q+1):=by
  rcases h1.alike with ⟨e,_⟩ |⟨a,b⟩
  ·exact e
  ·rw [Xm (.inl a)] at hs;cases hs
 have hs':=hs
 rw [hlet] at hs'
 have hsb:=Xn hs'
 have hb:Ref.backB (zd s (q+1))=false:=by rw [←Ye];exact hsb.1
 have e1:Pro.escO L (s.size:Nat) m=Pro.good (Pro.zh L (m+1)) (m+2):=by unfold Pro.escO;rw [if_pos hs]
 rw [e1]
 unfold Ref.zG
 rw [hi,if_neg (by simp [hb]),if_pos ((Zw _).1 hs')]
 show (⟨decide (zd s (q+1)<97),Ref.setL (zd s (q+1))⟩:Pt)=⟨decide (Pro.zh L (m+1)<97),Ref.setL (Pro.zh L (m+1))⟩
 rw [hlet]
theorem KC {m q:Nat}(h:Br s L m q)(hm:Pro.many L m=true) :
  (Ref.zk s (st0 q)).1=⟨decide ((Pro.zj L (s.size:Nat) m).v<97),Ref.setL (Pro.zj L (s.size:Nat) m).v⟩:=by
 have hi:(st0 q).i=q:=rfl
 have hmm:Pro.zh L m=92∧Pro.setB (Pro.zh L (m+1))=true:=by unfold Pro.many at hm;simpa using hm
 have h92:=(h.eqv 92 (by omega)).1 hmm.1
 have hb:=Xn hmm.2
 have e1:Pro.zj L (s.size:Nat) m=Pro.escO L (s.size:Nat) m:=by
  unfold Pro.zj
  rw [if_neg (fun hh=>hb.2.2.2.1 hh.2),if_neg (fun hh=>hb.2.2.2.2 hh.2),if_pos hmm.1]
 have eR:Ref.zk s (st0 q)=Ref.zG s true (st0 q):=by unfold Ref.zk;rw [hi,if_pos h92]
 rw [eR,e1]
 exact KB true h h92 hmm.2
theorem JG {m q:Nat}(h:Br s L m q)(hlt:q<s.size)(hk:(Pro.zj L (s.size:Nat) m).k=0)(c:Int) :
  inPt (Ref.zk s (st0 q)).1 c=if Pro.many L m=true then qT (Pro.zj L (s.size:Nat) m).v c else inSp [((Pro.zj L (s.size:Nat) m).v,(Pro.zj L (s.size:Nat) m).v)] c:=by
 by_cases hm:Pro.many L m=true
 ·rw [if_pos hm,KC h hm];rfl
 ·rw [if_neg hm]
  have hs:=(ju h hlt).2 hk
  have h1:(Ref.zk s (st0 q)).2.1=true:=by rw [hs.1];simp [hm]
  rw [hs.2 h1,kB]
theorem setL_bd (b:Int):(Ref.setL b).length≤10:=by
 unfold Ref.setL
 (repeat' split)<;>first |decide |simp
theorem Xy (cls:Bool)(st:St):(Ref.zG s cls st).1.spans.length≤10:=by
 unfold Ref.zG
 split
 ·simp
 ·split
  ·exact setL_bd _
  ·simp
theorem Wb (st:St):(Ref.zk s st).1.spans.length≤10:=by
 unfold Ref.zk
 split
 ·exact Xy true st
 ·split<;>simp
theorem wz:∀ (f:Nat)(ps:List Pt)(st:St),(∀ p∈ps,p.spans.length≤10)→(∀ p∈(Ref.yt s f ps st).1,p.spans.length≤10)∧(Ref.yt s f ps st).1.length≤ps.length+f
 |0,ps,st,h=>⟨h,by simp [Ref.yt]⟩
 |f+1,ps,st,h=>by
  simp only [Ref.yt]
  split
  ·split
   ·exact ⟨h,by simp⟩
   ·split
    ·split
     ·exact ⟨h,by simp⟩
     ·split
      ·exact ⟨h,by simp⟩
      ·have:=wz f (ps++[⟨(Ref.zk s st).1.neg,[(Ref.loOf (Ref.zk s st).1,Ref.loOf (Ref.zk s ((Ref.zk s st).2.2.go 1)).1)]⟩]) (Ref.zk s ((Ref.zk s st).2.2.go 1)).2.2 (fun p hp=>by
        rcases List.mem_append.1 hp with hp |hp
        ·exact h p hp
        ·simp at hp;subst hp;simp)
       exact ⟨this.1,by have:=this.2;simp at this;omega⟩
    ·have:=wz f (ps++[(Ref.zk s st).1]) (Ref.zk s st).2.2 (fun p hp=>by
      rcases List.mem_append.1 hp with hp |hp
      ·exact h p hp
      ·simp at hp;subst hp;exact Wb st)
     exact ⟨this.1,by have:=this.2;simp at this;omega⟩
  ·exact ⟨h,by simp⟩
theorem kV:∀ (f g:Nat)(ps:List Pt)(R:List (Int×Int))(S:List Int)(n p:Nat),Br s L n p→L.length<n+f→s.size<p+g→(Pro.xP L (s.size:Nat) f n).k=0→(∀ c,anyPt ps c=qL R S c)→
  ∀ c,anyPt (Ref.yt s g ps (st0 p)).1 c=qL (Pro.xL L (s.size:Nat) f n R S).1 (Pro.xL L (s.size:Nat) f n R S).2 c
 |0,g,ps,R,S,n,p,h,hf,hg,_,_=>by have:=h.le;omega
 |f+1,0,ps,R,S,n,p,h,hf,hg,_,_=>by have:=h.good.le;omega
 |f+1,g+1,ps,R,S,n,p,h,hf,hg,hk0,hps=>by
  simp only [Pro.xP] at hk0
  simp only [Pro.xL]
  by_cases h93:zd s p=93
  ·rw [if_pos ((h.eqv 93 (by omega)).2 h93),Ref.jm (fun hh=>hh.2 h93)]
   exact hps
  ·have hc:(st0 p).e=0∧zd s (st0 p).i≠93:=⟨rfl,h93⟩
   have n93:¬Pro.zh L n=93:=fun hh=>h93 ((h.eqv 93 (by omega)).1 hh)
   rw [if_neg n93] at hk0 ⊢
   by_cases hlt:p<s.size
   ·have hln:=h.lt.2 hlt
    have hb0:=(zw s p).2 hlt
    have hc1:¬zd s (st0 p).i<0:=by show ¬zd s p<0;omega
    rw [if_neg (by omega)] at hk0
    have hka:(Pro.addO L (s.size:Nat) n).k=0:=by
     by_cases hh:(Pro.addO L (s.size:Nat) n).k=0
     ·exact hh
     ·rw [if_pos hh] at hk0;exact absurd hk0 hh
    rw [if_neg (by simp [hka])] at hk0
    have hm:=ju h hlt
    have hmi:=Pro.qI (L:=L) (len:=(s.size:Nat)) n hln
    have hk:(Pro.zj L (s.size:Nat) n).k=0:=by
     by_cases hh:(Pro.zj L (s.size:Nat) n).k=0
     ·exact hh
     ·have ha:Pro.addO L (s.size:Nat) n=Pro.zj L (s.size:Nat) n:=by unfold Pro.addO;rw [if_pos hh]
      rw [ha] at hka;exact absurd hka hh
    obtain ⟨m1,m2,_,hb1⟩:=hm.1.1 hk
    have hst:=kS m1 m2
    have hd:=QN hb1
    have htk:=JG h hlt hk
    cases hdd:Pro.qD L (Pro.zj L (s.size:Nat) n).n
    ·rw [hdd] at hd
     have ha:Pro.addO L (s.size:Nat) n=Pro.zj L (s.size:Nat) n:=by unfold Pro.addO;rw [if_neg (by simp [hk]),if_neg (by simp [hdd])]
     rw [ha] at hk0 ⊢
     rw [Ref.jZ hc hc1 (by rw [hst,←hd];simp),hst]
     have hgt:p<(Ref.zk s (st0 p)).2.2.i:=by
      have:=hb1.good.le
      by_cases hh:p<(Ref.zk s (st0 p)).2.2.i
      ·exact hh
      ·exfalso
       have:=kT h hb1 (by omega)
       omega
     refine kV f g _ _ _ _ _ hb1 (by omega) (by omega) hk0 (fun c=>?_)
     rw [Xx,hps c,htk c]
     by_cases hmn:Pro.many L n=true
     ·have e1:Pro.addR L (s.size:Nat) n R=R:=by unfold Pro.addR;rw [if_neg (by simp [hdd]),if_pos hmn]
      have e2:Pro.addS L (s.size:Nat) n S=S++[(Pro.zj L (s.size:Nat) n).v]:=by unfold Pro.addS;rw [if_neg (by simp [hdd]),if_pos hmn]
      rw [if_pos hmn,e1,e2,anyRS_s]
     ·have e1:Pro.addR L (s.size:Nat) n R=R++[((Pro.zj L (s.size:Nat) n).v,(Pro.zj L (s.size:Nat) n).v)]:=by unfold Pro.addR;rw [if_neg (by simp [hdd]),if_neg hmn]
      have e2:Pro.addS L (s.size:Nat) n S=S:=by unfold Pro.addS;rw [if_neg (by simp [hdd]),if_neg hmn]
      rw [if_neg hmn,e1,e2,W6]
    ·rw [hdd] at hd
     have hdy:=Pro.wF hdd
     have h45:=(hb1.eqv 45 (by omega)).1 hdy.1
     have hb2:=hb1.go h45 (by omega) (by omega)
     have hlt2:(Ref.zk s (st0 p)).2.2.i+1<s.size:=by
      by_cases hh:(Ref.zk s (st0 p)).2.2.i+1<s.size
      ·exact hh
      ·exact absurd ((hb2.eqv (-1) (by omega)).2 (xC _ _ (by omega))) hdy.2.2
     have hm2:=ju hb2 hlt2
     have hgo:(Ref.zk s (st0 p)).2.2.go 1=st0 ((Ref.zk s (st0 p)).2.2.i+1):=by rw [hst];rfl
     have hr2:Ref.qz s (Ref.zk s (st0 p)).2.2=true:=by rw [hst];exact hd.symm
     have hmi2:=Pro.qI (L:=L) (len:=(s.size:Nat)) ((Pro.zj L (s.size:Nat) n).n+1) (Pro.ZV hdy.2.2)
     have hro:Pro.addO L (s.size:Nat) n=Pro.xl L (s.size:Nat) (Pro.many L n) (Pro.zj L (s.size:Nat) n).v (Pro.zj L (s.size:Nat) n).n:=by unfold Pro.addO;rw [if_neg (by simp [hk]),if_pos hdd]
     have hk2:(Pro.zj L (s.size:Nat) ((Pro.zj L (s.size:Nat) n).n+1)).k=0:=by
      by_cases hh:(Pro.zj L (s.size:Nat) ((Pro.zj L (s.size:Nat) n).n+1)).k=0
      ·exact hh
      ·rw [hro] at hka;unfold Pro.xl at hka;rw [if_pos hh] at hka;exact absurd hka hh
     have hbb:¬(Pro.many L n=true∨Pro.many L ((Pro.zj L (s.size:Nat) n).n+1)=true∨(Pro.zj L (s.size:Nat) ((Pro.zj L (s.size:Nat) n).n+1)).v<(Pro.zj L (s.size:Nat) n).v):=fun hh=>by
      rw [hro] at hka;unfold Pro.xl at hka;rw [if_neg (by simp [hk2]),if_pos hh] at hka;exact absurd hka (by simp [Pro.bad])
     obtain ⟨p1,p2,_,hb3⟩:=hm2.1.1 hk2
     have hst2:=kS p1 p2
     obtain ⟨hone,hlo⟩:=hm.2 hk
     obtain ⟨htwo,hlo2⟩:=hm2.2 hk2
     have q1:Pro.many L n=false:=by cases hq:Pro.many L n;rfl;exact absurd (.inl hq) hbb
     have q2:Pro.many L ((Pro.zj L (s.size:Nat) n).n+1)=false:=by cases hq:Pro.many L ((Pro.zj L (s.size:Nat) n).n+1);rfl;exact absurd (.inr (.inl hq)) hbb
     rw [q1] at hone
     rw [q2] at htwo
     have hbad:¬Ref.badB (Ref.zk s (st0 p)).1 (Ref.zk s ((Ref.zk s (st0 p)).2.2.go 1)).1 (Ref.zk s (st0 p)).2.1 (Ref.zk s ((Ref.zk s (st0 p)).2.2.go 1)).2.1=true:=by
      rw [hgo]
      unfold Ref.badB
      rw [hlo hone,hlo2 htwo,hone,htwo]
      have hv:¬(Pro.zj L (s.size:Nat) ((Pro.zj L (s.size:Nat) n).n+1)).v<(Pro.zj L (s.size:Nat) n).v:=fun hh=>hbb (.inr (.inr hh))
      simp [Ref.loOf,hv]
     have ha:Pro.addO L (s.size:Nat) n=Pro.zj L (s.size:Nat) ((Pro.zj L (s.size:Nat) n).n+1):=by
      rw [hro];unfold Pro.xl;rw [if_neg (by simp [hk2]),if_neg hbb]
     rw [ha] at hk0 ⊢
     rw [Ref.jJ hc hc1 hr2 (by rw [hgo];exact p1) hbad,hgo,hst2]
     have hgt:p<(Ref.zk s (st0 ((Ref.zk s (st0 p)).2.2.i+1))).2.2.i:=by
      by_cases hh:p<(Ref.zk s (st0 ((Ref.zk s (st0 p)).2.2.i+1))).2.2.i
      ·exact hh
      ·exfalso
       have:=kT h hb3 (by omega)
       omega
     refine kV f g _ _ _ _ _ hb3 (by omega) (by omega) hk0 (fun c=>?_)
     rw [Xx,hps c,hlo hone,hlo2 htwo,kB]
     unfold Pro.addR Pro.addS
     rw [if_pos hdd,if_pos hdd,W6]
     rfl
   ·have hend:=h.stop hlt
    rw [if_pos (by omega)] at hk0
    exact absurd hk0 (by simp [Pro.bad])
end Eqv
end
section
namespace Cs
open Eqv (inSp)
def isCh (c:Int):Bool:=(decide (0≤c) && decide (c≤55295)) ||(decide (57344≤c) && decide (c≤1114111))
def in1 (x:Int×Int)(c:Int):Bool:=decide (x.1≤c) && decide (c≤x.2)
theorem inSp_append (a b:List (Int×Int))(c:Int):inSp (a++b) c=(inSp a c ||inSp b c):=by simp [inSp]
theorem inSp_one (x:Int×Int)(c:Int):inSp [x] c=in1 x c:=by simp [inSp,in1]
theorem jf (x:Int×Int)(r:List (Int×Int))(c:Int):inSp (x :: r) c=(in1 x c ||inSp r c):=by simp [inSp,in1]
theorem qU (sp:List (Int×Int))(c:Int):inSp sp c=true↔∃ x∈sp,x.1≤c∧c≤x.2:=by simp [inSp]
theorem qV (x:Int×Int)(c:Int):in1 x c=true↔x.1≤c∧c≤x.2:=by simp [in1]
theorem vI (c:Int):isCh c=true↔(0≤c∧c≤55295)∨(57344≤c∧c≤1114111):=by simp [isCh]
def okS (x:Int×Int):Prop:=x.1≤x.2∧0≤x.1∧x.2≤1114111
def Rising (sp:List (Int×Int)):Prop:=sp.Pairwise (fun x y=>x.2+1<y.1)∧∀ x∈sp,okS x
def clip (lo hi:Int)(r:Int×Int):List (Int×Int):=if max r.1 lo≤min r.2 hi then [(max r.1 lo,min r.2 hi)] else []
def KD (r:Int×Int):List (Int×Int):=clip 0 55295 r++clip 57344 1114111 r
def spl (rs:List (Int×Int)):List (Int×Int):=rs.flatMap KD
theorem W7 (lo hi:Int)(r:Int×Int)(c:Int):inSp (clip lo hi r) c=true↔(lo≤c∧c≤hi)∧r.1≤c∧c≤r.2:=by
 unfold clip
 split
 ·rw [inSp_one,qV];simp only;omega
 ·simp [inSp];omega
theorem clips_in (r:Int×Int)(c:Int):inSp (KD r) c=(isCh c && in1 r c):=by
 rw [Bool.eq_iff_iff,Bool.and_eq_true,vI,qV]
 unfold KD
 rw [inSp_append,Bool.or_eq_true,W7,W7]
 omega
theorem spl_in:∀ (rs:List (Int×Int))(c:Int),inSp (spl rs) c=(isCh c && inSp rs c)
 | [],c=>by simp [spl,inSp]
 |r :: rs,c=>by
  show inSp (KD r++spl rs) c=_
  rw [inSp_append,clips_in,spl_in rs c,jf,←Bool.and_or_distrib_left]
theorem W8 {lo hi:Int}{r:Int×Int}(h0:0≤lo)(h1:hi≤1114111):∀ x∈clip lo hi r,okS x:=by
 intro x hx
 unfold clip at hx
 split at hx
 ·obtain rfl:=List.mem_singleton.1 hx
  refine ⟨?_,?_,?_⟩<;>simp only<;>omega
 ·cases hx
theorem spl_ok (rs:List (Int×Int)):∀ x∈spl rs,okS x:=by
 intro x hx
 obtain ⟨r,_,hr⟩:=List.mem_flatMap.1 hx
 rcases List.mem_append.1 hr with h |h
 ·exact W8 (by omega) (by omega) x h
 ·exact W8 (by omega) (by omega) x h
def jn1 (acc:List (Int×Int))(s:Int×Int):List (Int×Int):=
 match acc.getLast? with
 |some l=>if s.1≤l.2+1 then acc.dropLast++[(l.1,max l.2 s.2)] else acc++[s]
 |none=>[s]
def jn (acc xs:List (Int×Int)):List (Int×Int):=xs.foldl jn1 acc
theorem W9 (s:Int×Int):jn1 [] s=[s]:=rfl
theorem Y5 {init:List (Int×Int)}{l s:Int×Int}(h:s.1≤l.2+1):jn1 (init++[l]) s=init++[(l.1,max l.2 s.2)]:=by simp [jn1,h]
theorem Y6 {init:List (Int×Int)}{l s:Int×Int}(h:¬s.1≤l.2+1):jn1 (init++[l]) s=init++[l]++[s]:=by simp [jn1,h]
theorem j9 (xs:List (Int×Int)):xs=[]∨∃ init l,xs=init++[l]:=by
 rcases List.eq_nil_or_concat xs with h |⟨i,l,h⟩
 ·exact .inl h
 ·exact .inr ⟨i,l,by simpa using h⟩
theorem jn1_ok {acc:List (Int×Int)}{s:Int×Int}(h:Rising acc)(hs:okS s)(hl:∀ l,acc.getLast?=some l→l.1≤s.1) :
  Rising (jn1 acc s)∧(∀ c,inSp (jn1 acc s) c=(inSp acc c ||in1 s c))∧∀ l,(jn1 acc s).getLast?=some l→l.1≤s.1:=by
 rcases j9 acc with rfl |⟨init,l,rfl⟩
 ·rw [W9]
  refine ⟨⟨by simp,fun x hx=>?_⟩,fun c=>by rw [inSp_one];simp [inSp],fun l e=>?_⟩
  ·obtain rfl:=List.mem_singleton.1 hx;exact hs
  ·cases e;exact Int.le_refl _
 ·have hls:=hl l (by simp)
  have hlo:=h.2 l (by simp)
  have hp:=List.pairwise_append.1 h.1
  by_cases hc:s.1≤l.2+1
  ·rw [Y5 hc]
   refine ⟨⟨List.pairwise_append.2 ⟨hp.1,by simp,fun a ha b hb=>?_⟩,fun x hx=>?_⟩,fun c=>?_,fun l' e=>?_⟩
   ·obtain rfl:=List.mem_singleton.1 hb
    exact hp.2.2 a ha l (by simp)
   ·rcases List.mem_append.1 hx with hx |hx
    ·exact h.2 x (List.mem_append_left _ hx)
    ·obtain rfl:=List.mem_singleton.1 hx
     unfold okS at hlo hs ⊢
     simp only
     omega
   ·rw [inSp_append,inSp_append,inSp_one,inSp_one,Bool.or_assoc]
    congr 1
    rw [Bool.eq_iff_iff,Bool.or_eq_true,qV,qV,qV]
    unfold okS at hlo hs
    simp only
    omega
   ·simp at e;subst e;exact hls
  ·rw [Y6 hc]
   refine ⟨⟨List.pairwise_append.2 ⟨h.1,by simp,fun a ha b hb=>?_⟩,fun x hx=>?_⟩,fun c=>?_,fun l' e=>?_⟩
   ·obtain rfl:=List.mem_singleton.1 hb
    rcases List.mem_append.1 ha with ha |ha
    ·have:=hp.2.2 a ha l (by simp)
     omega
    ·obtain rfl:=List.mem_singleton.1 ha
     omega
   ·rcases List.mem_append.1 hx with hx |hx
    ·exact h.2 x hx
    ·obtain rfl:=List.mem_singleton.1 hx;exact hs
   ·rw [inSp_append _ [s],inSp_one]
   ·simp at e;subst e;exact Int.le_refl _
theorem jn_ok:∀ (xs acc:List (Int×Int)),Rising acc→(∀ x∈xs,okS x)→xs.Pairwise (fun x y=>x.1≤y.1)→(∀ l,acc.getLast?=some l→∀ x∈xs,l.1≤x.1)→
  Rising (jn acc xs)∧∀ c,inSp (jn acc xs) c=(inSp acc c ||inSp xs c)
 | [],acc,h,_,_,_=>⟨h,fun c=>by simp [jn,inSp]⟩
 |s :: xs,acc,h,ho,hp,hl=>by
  obtain ⟨h1,h2,h3⟩:=jn1_ok h (ho s (List.mem_cons_self ..)) (fun l e=>hl l e s (List.mem_cons_self ..))
  obtain ⟨hp1,hp2⟩:=List.pairwise_cons.1 hp
  obtain ⟨r1,r2⟩:=jn_ok xs (jn1 acc s) h1 (fun x hx=>ho x (List.mem_cons_of_mem _ hx)) hp2 (fun l e x hx=>Int.le_trans (h3 l e) (hp1 x hx))
  refine ⟨r1,fun c=>?_⟩
  show inSp (jn (jn1 acc s) xs) c=_
  rw [r2,h2,jf,Bool.or_assoc]
theorem of_ok {rs xs:List (Int×Int)}(hp:xs.Perm (spl rs))(hs:xs.Pairwise (fun x y=>x.1≤y.1)):Rising (jn [] xs)∧∀ c,inSp (jn [] xs) c=(isCh c && inSp rs c):=by
 obtain ⟨h1,h2⟩:=jn_ok xs [] ⟨by simp,by simp⟩ (fun x hx=>spl_ok rs x (hp.mem_iff.1 hx)) hs (by simp)
 refine ⟨h1,fun c=>?_⟩
 rw [h2,←spl_in]
 simp only [inSp,List.any_nil,Bool.false_or]
 exact hp.any_eq
def gaps:Int→List (Int×Int)→List (Int×Int)
 |b,[]=>[(b,1114111)]
 |b,x :: r=>(b,x.1-1) :: gaps (x.2+1) r
theorem zaa:∀ (sp:List (Int×Int))(b c:Int),Rising sp→(∀ x∈sp,b≤x.1)→b≤c→c≤1114111→inSp (gaps b sp) c = !inSp sp c
 | [],b,c,_,_,h0,h1=>by
  show inSp [(b,1114111)] c=_
  rw [inSp_one]
  simp [inSp,in1,h0,h1]
 |x :: r,b,c,h,hb,h0,h1=>by
  obtain ⟨hp1,hp2⟩:=List.pairwise_cons.1 h.1
  have hx:=h.2 x (List.mem_cons_self ..)
  have hr:Rising r:=⟨hp2,fun y hy=>h.2 y (List.mem_cons_of_mem _ hy)⟩
  have hbx:=hb x (List.mem_cons_self ..)
  show inSp ((b,x.1-1) :: gaps (x.2+1) r) c=_
  rw [jf,jf]
  by_cases hc:x.2+1≤c
  ·rw [zaa r (x.2+1) c hr (fun y hy=>by have:=hp1 y hy;omega) hc h1]
   have e1:in1 (b,x.1-1) c=false:=by rw [Bool.eq_false_iff,ne_eq,qV];unfold okS at hx;simp only;omega
   have e2:in1 x c=false:=by rw [Bool.eq_false_iff,ne_eq,qV];omega
   rw [e1,e2];simp
  ·have e3:inSp (gaps (x.2+1) r) c=false:=by
    rw [Bool.eq_false_iff,ne_eq,qU]
    rintro ⟨y,hy,hyc⟩
    exact absurd hyc.1 (by have:=gaps_ge r (x.2+1) (fun y hy=>by have:=hp1 y hy;omega) hr y hy;omega)
   have e4:inSp r c=false:=by
    rw [Bool.eq_false_iff,ne_eq,qU]
    rintro ⟨y,hy,hyc⟩
    have:=hp1 y hy
    omega
   rw [e3,e4,Bool.or_false,Bool.or_false,Bool.eq_iff_iff,Bool.not_eq_true',Bool.eq_false_iff,ne_eq,qV,qV]
   simp only
   omega
where gaps_ge:∀ (sp:List (Int×Int)) (b:Int),(∀ x∈sp,b≤x.1)→Rising sp→∀ y∈gaps b sp,b≤y.1
 | [],b,_,_,y,hy=>by
  obtain rfl:=List.mem_singleton.1 (show y∈[(b,1114111)] from hy)
  exact Int.le_refl _
 |x :: r,b,hb,h,y,hy=>by
  obtain ⟨hp1,hp2⟩:=List.pairwise_cons.1 h.1
  have hx:=h.2 x (List.mem_cons_self ..)
  have hbx:=hb x (List.mem_cons_self ..)
  rcases List.mem_cons.1 (show y∈(b,x.1-1) :: gaps (x.2+1) r from hy) with rfl |hy
  ·exact Int.le_refl _
  ·have:=gaps_ge r (x.2+1) (fun z hz=>by have:=hp1 z hz;omega) ⟨hp2,fun z hz=>h.2 z (List.mem_cons_of_mem _ hz)⟩ y hy
   unfold okS at hx
   omega
theorem not_ok {sp:List (Int×Int)}(h:Rising sp)(c:Int):(isCh c && inSp (gaps 0 sp) c)=(isCh c && !inSp sp c):=by
 by_cases hc:isCh c=true
 ·rw [zaa sp 0 c h (fun x hx=>(h.2 x hx).2.1) (by have:=(vI c).1 hc;omega) (by have:=(vI c).1 hc;omega)]
 ·simp [hc]
end Cs
end
section
open Sm (Tree)
namespace Cs
open Eqv (inSp inPt qT qL tkTree)
def ja (T:Tree)(c:Int):Bool:=isCh c && tkTree T c
def zT (a c:Int):Bool:=isCh c && qT a c
def lineL:List (Int×Int):=[(10,10),(13,13),(8232,8233)]
def KE:List (Int×Int):=[(97,122),(65,90),(48,57),(95,95)]
theorem KF (c:Int):inSp KE c=inSp Ref.qO c:=by
 rw [Bool.eq_iff_iff,qU,qU]
 simp only [KE,Ref.qO,List.mem_cons,List.not_mem_nil,or_false]
 constructor
 ·rintro ⟨x,rfl |rfl |rfl |rfl,h⟩
  ·exact ⟨(97,122),by simp,h⟩
  ·exact ⟨(65,90),by simp,h⟩
  ·exact ⟨(48,57),by simp,h⟩
  ·exact ⟨(95,95),by simp,h⟩
 ·rintro ⟨x,rfl |rfl |rfl |rfl,h⟩
  ·exact ⟨(48,57),by simp,h⟩
  ·exact ⟨(65,90),by simp,h⟩
  ·exact ⟨(95,95),by simp,h⟩
  ·exact ⟨(97,122),by simp,h⟩
theorem Wc (c:Int):(isCh c && inSp KE c)=zT 119 c:=by
 unfold zT qT inPt Ref.setL
 rw [if_neg (by omega),if_pos (by omega)]
 simp [KF]
theorem zab (c:Int):(isCh c && inSp [(48,57)] c)=zT 100 c:=by
 unfold zT qT inPt Ref.setL
 rw [if_pos (by omega)]
 simp [Ref.Yo]
theorem zac (c:Int):(isCh c && inSp Ref.vT c)=zT 115 c:=by
 unfold zT qT inPt Ref.setL
 rw [if_neg (by omega),if_neg (by omega),if_pos (by omega)]
 simp
theorem Y7 {a b:Int}(h:(a=100∧b=68)∨(a=119∧b=87)∨(a=115∧b=83))(c:Int):(isCh c && !shortP a c)=zT b c:=by
 unfold zT qT inPt Ref.setL
 rcases h with ⟨rfl,rfl⟩ |⟨rfl,rfl⟩ |⟨rfl,rfl⟩
 ·cases isCh c<;>cases inSp Ref.Yo c<;>simp_all
 ·cases isCh c<;>cases inSp Ref.qO c<;>simp_all
 ·cases isCh c<;>cases inSp Ref.vT c<;>simp_all
theorem any_P (c:Int):(isCh c && !(isCh c && inSp lineL c))=ja Pro.tAny c:=by
 unfold ja tkTree
 rw [if_pos (by rfl)]
 show _=(isCh c && !inSp lineL c)
 cases isCh c<;>simp
theorem char_P (a c:Int):(isCh c && inSp [(a,a)] c)=ja (Pro.xY a) c:=by
 unfold ja tkTree
 rw [if_neg (by simp [Pro.xY]),if_pos (by rfl),Eqv.inSp_one]
 rfl
theorem short_P (a c:Int):zT a c=ja (Pro.xK a) c:=by
 unfold ja tkTree zT
 rw [if_neg (by simp [Pro.xK]),if_neg (by simp [Pro.xK]),if_pos (by rfl)]
 rfl
theorem zbd {R:List (Int×Int)}{S:List Int}{ms:List (Int×Int)}(hm:∀ c,inSp ms c=(S.any fun a=>zT a c))(c:Int):(isCh c && inSp (R++ms) c)=(isCh c && qL R S c):=by
 rw [inSp_append,hm]
 unfold qL zT
 cases h:isCh c
 ·rfl
 ·simp
theorem zad (neg:Bool)(R:List (Int×Int))(S:List Int)(c:Int):ja (Pro.tCls neg R S) c=(isCh c && (qL R S c != neg)):=by
 unfold ja tkTree
 rw [if_neg (by simp [Pro.tCls]),if_neg (by simp [Pro.tCls]),if_neg (by simp [Pro.tCls]),if_pos (by rfl)]
 rfl
theorem zbe (R:List (Int×Int))(S:List Int)(c:Int):(isCh c && !(isCh c && qL R S c))=ja (Pro.tCls true R S) c:=by
 rw [zad]
 cases isCh c<;>cases qL R S c<;>rfl
theorem zbf (R:List (Int×Int))(S:List Int)(c:Int):(isCh c && qL R S c)=ja (Pro.tCls false R S) c:=by
 rw [zad]
 cases isCh c<;>cases qL R S c<;>rfl
end Cs
end
section
namespace Cs
open Eqv (inSp)
theorem Rising.at {sp:List (Int×Int)}(h:Rising sp){i:Nat}{x:Int×Int}(hx:sp[i]?=some x):okS x:=h.2 x (List.mem_of_getElem? hx)
theorem Rising.lt {sp:List (Int×Int)}(h:Rising sp){i j:Nat}{x y:Int×Int}(hx:sp[i]?=some x)(hy:sp[j]?=some y)(hij:i<j):x.2+1<y.1:=by
 obtain ⟨hi,rfl⟩:=List.getElem?_eq_some_iff.1 hx
 obtain ⟨hj,rfl⟩:=List.getElem?_eq_some_iff.1 hy
 exact List.pairwise_iff_getElem.1 h.1 i j hi hj hij
theorem Rising.le {sp:List (Int×Int)}(h:Rising sp){i j:Nat}{x y:Int×Int}(hx:sp[i]?=some x)(hy:sp[j]?=some y)(hij:i≤j):x.1≤y.1∧x.2≤y.2:=by
 by_cases e:i=j
 ·subst e
  cases hx.symm.trans hy
  exact ⟨Int.le_refl _,Int.le_refl _⟩
 ·have h1:=h.lt hx hy (by omega)
  have h2:=h.at hy
  have h3:=h.at hx
  unfold okS at h2 h3
  omega
theorem has_iff {sp:List (Int×Int)}(h:Rising sp){c:Int}{i:Nat}(h1:∀ (t:Nat) x,t<i→sp[t]?=some x→x.2<c)(h2:∀ (t:Nat) x,i≤t→sp[t]?=some x→c≤x.2):inSp sp c=true↔∃ x,sp[i]?=some x∧x.1≤c∧c≤x.2:=by
 rw [qU]
 constructor
 ·rintro ⟨x,hx,hc1,hc2⟩
  obtain ⟨t,ht⟩:=jO hx
  by_cases e:t<i
  ·have:=h1 t x e ht;omega
  ·by_cases e2:t=i
   ·subst e2;exact ⟨x,ht,hc1,hc2⟩
   ·have hlt:t<sp.length:=(List.getElem?_eq_some_iff.1 ht).1
    have hi:sp[i]?=some (sp[i]'(by omega)):=List.getElem?_eq_getElem (by omega)
    have:=h.lt hi ht (by omega)
    have:=h2 i _ (Nat.le_refl _) hi
    omega
 ·rintro ⟨x,hx,hc⟩
  exact ⟨x,List.mem_of_getElem? hx,hc⟩
theorem has_left {sp:List (Int×Int)}(h:Rising sp){c:Int}{m:Nat}{y:Int×Int}(hy:sp[m]?=some y)(hc:y.2<c):∀ (t:Nat) x,t<m+1→sp[t]?=some x→x.2<c:=fun t x ht hx=>by
 have:=h.le hx hy (by omega)
 omega
theorem zbg {sp:List (Int×Int)}(h:Rising sp){c:Int}{m:Nat}{y:Int×Int}(hy:sp[m]?=some y)(hc:¬y.2<c):∀ (t:Nat) x,m≤t→sp[t]?=some x→c≤x.2:=fun t x ht hx=>by
 have:=h.le hy hx ht
 omega
def cmpS (x:Int×Int)(c:Int):Int:=if x.2<c then -1 else if x.1 > c then 1 else 0
theorem KG (x:Int×Int)(c:Int):cmpS x c<0↔x.2<c:=by
 unfold cmpS
 split
 ·omega
 ·split<;>omega
theorem QP {x:Int×Int}{c:Int}:cmpS x c=0↔x.1≤c∧c≤x.2:=by
 unfold cmpS
 split
 ·omega
 ·split<;>omega
end Cs
end
section
open Go.RowKit
namespace Eqv
variable {s:ByteArray} {L:List (Int×Int)}
theorem Wd {a b:Int}(ha:1≤a)(hb:301≤b):301≤a*b:=by
 have:=Int.mul_le_mul_of_nonneg_right ha (show (0:Int)≤b by omega)
 omega
theorem Xz {k v mn mx:Int}(hk:0≤k)(hv0:0≤v)(hv1:v≤301)(h:min k 301=min v 301)(h0:0≤mn)(h1:-1≤mx)(h2:mx = -1∨mn≤mx):0≤Ref.yB k mn mx∧min (Ref.yB k mn mx) 301=min (Pro.repS v mn mx) 301:=by
 have hnn:∀ z:Int,0≤z→Ref.yB z mn mx=Pro.repS z mn mx:=by
  intro z hz
  unfold Ref.yB Pro.repS
  by_cases hm:mx = -1
  ·rw [if_pos (by omega),if_pos hm]
   by_cases h0':mn=0
   ·rw [if_pos h0',h0'];rfl
   ·rw [if_neg h0',show max mn 1=mn by omega]
  ·rw [if_neg (by omega),if_neg hm]
 have hr0:0≤Pro.repS k mn mx:=Pro.kZ hk h0 h2
 rw [hnn k hk]
 refine ⟨hr0,?_⟩
 by_cases he:k=v
 ·rw [he]
 ·have hk1:301≤k:=by omega
  have hv2:301≤v:=by omega
  have big:∀ z:Int,301≤z→Pro.repS z mn mx=0∧mn=0∧mx=0∨301≤Pro.repS z mn mx:=by
   intro z hz
   unfold Pro.repS
   by_cases hm:mx = -1
   ·right
    rw [if_pos hm]
    have:=Wd (a:=max mn 1) (b:=z) (by omega) hz
    omega
   ·rw [if_neg hm]
    by_cases h0':mn=0
    ·by_cases h00:mx=0
     ·left;subst h0';subst h00;simp
     ·right
      have:=Wd (a:=mx-mn) (b:=z+1) (by omega) (by omega)
      rw [h0'] at this ⊢
      omega
    ·right
     have:=Wd (a:=mn) (b:=z) (by omega) hz
     have h3:0≤(mx-mn)*(z+1):=Int.mul_nonneg (by omega) (by omega)
     omega
  rcases big k hk1 with ⟨a1,a2,a3⟩ |a1<;>rcases big v hv2 with ⟨b1,b2,b3⟩ |b1
  ·rw [a1,b1]
  ·rw [a2,a3] at b1;unfold Pro.repS at b1;simp at b1
  ·rw [b2,b3] at a1;unfold Pro.repS at a1;simp at a1
  ·omega
theorem ZF {t:Tok}(h1:t.mn=0)(h2:t.mx=0):Ref.TokB t:=by unfold Ref.TokB;omega
def AtomOK (ts:List Tok)(v:Int):Prop:=Ref.Bal ts∧Ref.xI ts≠6∧ts≠[]∧Ref.AddsTo ts v∧∀ q:Tok,q.kind=6→0≤q.mn→-1≤q.mx→(q.mx = -1∨q.mn≤q.mx)→Ref.AddsTo (ts++[q]) (min (Pro.repS v q.mn q.mx) 301)
theorem AtomOK.one {t:Tok}(h1:t.kind=1)(hb:Ref.TokB t):AtomOK [t] 1:=by
 refine ⟨Ref.Bal.one (by omega) (by omega) hb,?_,by simp,Ref.AddsTo.one (by omega) (by omega),?_⟩
 ·show t.kind≠6;omega
 ·intro q h6 a b c
  have hq:=Xz (k:=1) (v:=1) (by omega) (by omega) (by omega) rfl a b c
  have hr:=Pro.kZ (z:=1) (by omega) a c
  exact (Ref.AddsTo.oneQ (t:=t) (q:=q) (by omega) (by omega) h6 hq.1).weak (by omega) hq.1 (by omega)
theorem AtomOK.group {o c:Tok}{ts:List Tok}{v:Int}(ho:o.kind=3)(hc:c.kind=4)(hbo:Ref.TokB o)(hbc:Ref.TokB c)(hB:Ref.Bal ts)(h:Ref.AddsTo ts v)(hv0:0≤v)(hv1:v≤301):AtomOK (o :: ts++[c]) v:=by
 refine ⟨hB.group ho hc hbo hbc,?_,by simp,Ref.AddsTo.group ho hc hB h hv0,?_⟩
 ·show o.kind≠6;omega
 ·intro q h6 a b e
  have hr:=Pro.kZ (z:=v) hv0 a e
  have:=Ref.AddsTo.groupQ (w:=min (Pro.repS v q.mn q.mx) 301) ho hc h6 hB h (by omega) (fun k hk hkv=>by have:=Xz hk hv0 hv1 hkv a b e;exact ⟨this.1,by omega⟩)
  rw [show o :: ts++[c]++[q]=o :: ts++[c,q] by simp]
  exact this
theorem jg {f:Nat}{l:List Tok}{op:Int}{atom:Bool}{st:St}(h:st.e≠0):∃ l',Ref.zM s f l op atom st=(l',st.e,st.a):=by
 cases f with
 |zero=>exact ⟨l,rfl⟩
 |succ f=>
  rw [Ref.km (fun hh=>h hh.2)]
  refine ⟨l,?_⟩
  split
  ·rw [fail_nz h]
  ·rfl
def Goes (s:ByteArray)(L:List (Int×Int))(f:Nat)(l:List Tok)(op:Int)(atom:Bool)(p:Nat)(o:Pro.Out)(P:List Tok→Prop):Prop:=
 (o.k≠0→∃ l',Ref.zM s f l op atom (st0 p)=(l',(o.k:Int),o.p))∧
 (o.k=0→∃ ts f' p' atom',Ref.zM s f l op atom (st0 p)=Ref.zM s f' (l++ts) op atom' (st0 p')∧Br s L o.n p'∧s.size<p'+f'∧(atom'=true→Ref.yV (zd s p')=false)∧P ts)
def TermP (v:Int)(ts:List Tok):Prop:=Ref.Bal ts∧Ref.AddsTo ts v∧Ref.xI ts≠6
theorem We {f:Nat}{l:List Tok}{op:Int}{n p:Nat}{at':List Tok}{v:Int}(h:Br s L n p)(hf:s.size<p+f)(hA:AtomOK at' v)(hv0:0≤v)(hv1:v≤301){A:Pro.Out}(hk:A.k=0)(hn:A.n=n)(hv:A.v=v) :
  Goes s L f (l++at') op true p (if (Pro.zy L (s.size:Nat) A.n).1=false then A else if (Pro.zy L (s.size:Nat) A.n).2.1.k≠0 then (Pro.zy L (s.size:Nat) A.n).2.1 else Pro.good (min (Pro.repS A.v (Pro.zy L (s.size:Nat) A.n).2.1.v (Pro.zy L (s.size:Nat) A.n).2.2) 301) (Pro.kg L (Pro.zy L (s.size:Nat) A.n).2.1.n)) (fun ts=>ts=[]∧(if (Pro.zy L (s.size:Nat) A.n).1=false then True else False)∨∃ q:Tok,ts=[q]∧Ref.AddsTo (at'++[q]) (min (Pro.repS v (Pro.zy L (s.size:Nat) A.n).2.1.v (Pro.zy L (s.size:Nat) A.n).2.2) 301)∧Ref.Bal [q]∧(Pro.zy L (s.size:Nat) A.n).1=true∧q.kind=6∧q.mn=(Pro.zy L (s.size:Nat) A.n).2.1.v∧q.mx=(Pro.zy L (s.size:Nat) A.n).2.2):=by
 subst hv
 rw [hn]
 cases hq:Ref.yV (zd s p)
 ·have hqn:=Wa h hq
  rw [hqn]
  simp only [if_true]
  exact ⟨fun hh=>absurd hk hh,fun _=>⟨[],f,p,true,by rw [List.append_nil],by rw [hn];exact h,hf,fun _=>hq,.inl ⟨rfl,trivial⟩⟩⟩
 ·obtain ⟨hq1,hqs⟩:=V9 h hq
  have hqc:=Ref.jK hq
  have hlt:p<s.size:=(zw s p).1 (by omega)
  obtain ⟨f,rfl⟩:∃ f',f=f'+1:=⟨f-1,by omega⟩
  have hstep:=Ref.Za (s:=s) (f:=f) (l:=l++at') (op:=op) (atom:=true) (st:=st0 p) ⟨hlt,rfl⟩ ⟨rfl,hq⟩
  rw [if_neg (by simp [hq1])]
  by_cases hk2:(Pro.zy L (s.size:Nat) n).2.1.k=0
  ·obtain ⟨a1,a2,a3,a4⟩:=hqs.1 hk2
   have hvb:=Pro.XW (L:=L) (len:=(s.size:Nat)) n hq1 hk2
   rw [if_neg (by simp [hk2])]
   refine ⟨fun hh=>absurd rfl hh,fun _=>⟨[⟨6,false,[],0,(Ref.zK s (st0 p)).1,(Ref.zK s (st0 p)).2.1⟩],f,(Ref.zK s (st0 p)).2.2.i,false,?_,a4,?_,(fun hh=>by cases hh),.inr ⟨_,rfl,?_,Ref.Bal.one (show (6:Int)≠3 by decide) (show (6:Int)≠4 by decide) ⟨by show 0≤(Ref.zK s (st0 p)).1;rw [a1];exact hvb.1,by show (Ref.zK s (st0 p)).1≤100;rw [a1];exact hvb.2.1,by show -1≤(Ref.zK s (st0 p)).2.1;rw [a2];exact hvb.2.2.1,by show (Ref.zK s (st0 p)).2.1≤100;rw [a2];exact hvb.2.2.2.1,by show (Ref.zK s (st0 p)).2.1 = -1∨(Ref.zK s (st0 p)).1≤(Ref.zK s (st0 p)).2.1;rw [a1,a2];exact hvb.2.2.2.2⟩,hq1,rfl,a1,a2⟩⟩⟩
   ·rw [hstep,←a3]
   ·have:=(Ref.YM (s:=s) (st:=st0 p) h.good hq).1
    have hi:(st0 p).i=p:=rfl
    omega
   ·have:=hA.2.2.2.2 ⟨6,false,[],0,(Ref.zK s (st0 p)).1,(Ref.zK s (st0 p)).2.1⟩ rfl (by show 0≤(Ref.zK s (st0 p)).1;rw [a1];exact hvb.1) (by show -1≤(Ref.zK s (st0 p)).2.1;rw [a2];exact hvb.2.2.1) (by show (Ref.zK s (st0 p)).2.1 = -1∨(Ref.zK s (st0 p)).1≤(Ref.zK s (st0 p)).2.1;rw [a1,a2];exact hvb.2.2.2.2)
    have e1:({ kind:=6,neg:=false,parts:=[],c:=0,mn:=(Ref.zK s (st0 p)).1,mx:=(Ref.zK s (st0 p)).2.1 }:Tok).mn=(Pro.zy L (s.size:Nat) n).2.1.v:=a1
    have e2:({ kind:=6,neg:=false,parts:=[],c:=0,mn:=(Ref.zK s (st0 p)).1,mx:=(Ref.zK s (st0 p)).2.1 }:Tok).mx=(Pro.zy L (s.size:Nat) n).2.2:=a2
    rw [e1,e2] at this
    exact this
  ·have he:=hqs.2 hk2
   rw [if_pos hk2]
   refine ⟨fun _=>?_,fun hh=>absurd hh hk2⟩
   obtain ⟨l',hl⟩:=jg (s:=s) (f:=f) (l:=l++at'++[⟨6,false,[],0,(Ref.zK s (st0 p)).1,(Ref.zK s (st0 p)).2.1⟩]) (op:=op) (atom:=false) (st:=(Ref.zK s (st0 p)).2.2) (by rw [he.1];omega)
   exact ⟨l',by rw [hstep,hl,he.1,he.2]⟩
end Eqv
end
end Go.Proofs.YtnagphodmfejiaaGreatDoor
