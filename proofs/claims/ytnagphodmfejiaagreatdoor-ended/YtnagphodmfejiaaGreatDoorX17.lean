/- What leaves take: the lexer's tokens beside the reader's trees. -/
import Derived.Test.YtnagphodmfejiaaGreatDoorX16
import Derived.Test.YtnagphodmfejiaaGreatDoorX11
namespace Go.Proofs.YtnagphodmfejiaaGreatDoor
section
open Go.RowKit
open Sm (Tree)
namespace Eqv
variable {s:ByteArray} {L:List (Int×Int)}
def inSp (sp:List (Int×Int))(c:Int):Bool:=sp.any fun x=>decide (x.1≤c) && decide (c≤x.2)
def inPt (p:Pt)(c:Int):Bool:=inSp p.spans c != p.neg
def anyPt (ps:List Pt)(c:Int):Bool:=ps.any fun p=>inPt p c
def Zo (t:Tok)(c:Int):Bool:=anyPt t.parts c != t.neg
def jQ (a c:Int):Bool:=inPt ⟨decide (a<97),Ref.setL a⟩ c
def jE (R:List (Int×Int))(S:List Int)(c:Int):Bool:=inSp R c ||S.any fun a=>jQ a c
def tkTree (T:Tree)(c:Int):Bool:=
 if T.kind=1 then !inSp [(10,10),(13,13),(8232,8233)] c
 else if T.kind=2 then decide (c=T.a)
 else if T.kind=3 then jQ T.a c
 else if T.kind=4 then jE T.rs T.ss c != T.neg
 else false
def Ke (T:Tree):Prop:=1≤T.kind∧T.kind≤4
def LeafTok (t:Tok)(T:Tree):Prop:=Ke T∧(∀ c,Zo t c=tkTree T c)∧t.parts.length≤1000∧∀ p∈t.parts,p.spans.length≤10
theorem inSp_one (a c:Int):inSp [(a,a)] c=decide (c=a):=by
 unfold inSp
 simp only [List.any_cons,List.any_nil,Bool.or_false]
 by_cases h:c=a
 ·subst h;simp
 ·simp only [h,decide_false]
  by_cases h2:a≤c
  ·simp [h2];omega
  ·simp [h2]
theorem inSp_append (a b:List (Int×Int))(c:Int):inSp (a++b) c=(inSp a c ||inSp b c):=by unfold inSp;rw [List.any_append]
theorem QV (ps:List Pt)(p:Pt)(c:Int):anyPt (ps++[p]) c=(anyPt ps c ||inPt p c):=by unfold anyPt;simp [List.any_append]
theorem zbz (R:List (Int×Int))(S:List Int)(x:Int×Int)(c:Int):jE (R++[x]) S c=(jE R S c ||inSp [x] c):=by
 unfold jE;rw [inSp_append];cases inSp R c<;>cases inSp [x] c<;>simp
theorem anyRS_s (R:List (Int×Int))(S:List Int)(a:Int)(c:Int):jE R (S++[a]) c=(jE R S c ||jQ a c):=by
 unfold jE;rw [List.any_append];simp [Bool.or_assoc]
theorem vT (sp:List (Int×Int))(c:Int):inPt ⟨false,sp⟩ c=inSp sp c:=by unfold inPt;simp
theorem VY (cls:Bool){m q:Nat}(h:Br s L m q)(h92:zd s q=92)(hs:Pro.setB (Pro.zi L (m+1))=true) :
  (Ref.zI s cls (st0 q)).1=⟨decide ((Pro.escO L (s.size:Nat) m).v<97),Ref.setL (Pro.escO L (s.size:Nat) m).v⟩:=by
 have h1:=h.go h92 (by omega) (by omega)
 have hi:(st0 q).i=q:=rfl
 have hlet:Pro.zi L (m+1)=zd s (q+1):=by
  rcases h1.alike with ⟨e,_⟩ |⟨a,b⟩
  ·exact e
  ·rw [QR (.inl a)] at hs;cases hs
 have hs':=hs
 rw [hlet] at hs'
 have hsb:=QS hs'
 have hb:Ref.backB (zd s (q+1))=false:=by rw [←XA];exact hsb.1
 have e1:Pro.escO L (s.size:Nat) m=Pro.good (Pro.zi L (m+1)) (m+2):=by unfold Pro.escO;rw [if_pos hs]
 rw [e1]
 unfold Ref.zI
 rw [hi,if_neg (by simp [hb]),if_pos ((YP _).1 hs')]
 show (⟨decide (zd s (q+1)<97),Ref.setL (zd s (q+1))⟩:Pt)=⟨decide (Pro.zi L (m+1)<97),Ref.setL (Pro.zi L (m+1))⟩
 rw [hlet]
theorem VZ {m q:Nat}(h:Br s L m q)(hm:Pro.many L m=true) :
  (Ref.zl s (st0 q)).1=⟨decide ((Pro.zk L (s.size:Nat) m).v<97),Ref.setL (Pro.zk L (s.size:Nat) m).v⟩:=by
 have hi:(st0 q).i=q:=rfl
 have hmm:Pro.zi L m=92∧Pro.setB (Pro.zi L (m+1))=true:=by unfold Pro.many at hm;simpa using hm
 have h92:=(h.eqv 92 (by omega)).1 hmm.1
 have hb:=QS hmm.2
 have e1:Pro.zk L (s.size:Nat) m=Pro.escO L (s.size:Nat) m:=by
  unfold Pro.zk
  rw [if_neg (fun hh=>hb.2.2.2.1 hh.2),if_neg (fun hh=>hb.2.2.2.2 hh.2),if_pos hmm.1]
 have eR:Ref.zl s (st0 q)=Ref.zI s true (st0 q):=by unfold Ref.zl;rw [hi,if_pos h92]
 rw [eR,e1]
 exact VY true h h92 hmm.2
theorem KN {m q:Nat}(h:Br s L m q)(hlt:q<s.size)(hk:(Pro.zk L (s.size:Nat) m).k=0)(c:Int) :
  inPt (Ref.zl s (st0 q)).1 c=if Pro.many L m=true then jQ (Pro.zk L (s.size:Nat) m).v c else inSp [((Pro.zk L (s.size:Nat) m).v,(Pro.zk L (s.size:Nat) m).v)] c:=by
 by_cases hm:Pro.many L m=true
 ·rw [if_pos hm,VZ h hm];rfl
 ·rw [if_neg hm]
  have hs:=(kv h hlt).2 hk
  have h1:(Ref.zl s (st0 q)).2.1=true:=by rw [hs.1];simp [hm]
  rw [hs.2 h1,vT]
theorem setL_bd (b:Int):(Ref.setL b).length≤10:=by
 unfold Ref.setL
 (repeat' split)<;>first |decide |simp
theorem QW (cls:Bool)(st:St):(Ref.zI s cls st).1.spans.length≤10:=by
 unfold Ref.zI
 split
 ·simp
 ·split
  ·exact setL_bd _
  ·simp
theorem zas (st:St):(Ref.zl s st).1.spans.length≤10:=by
 unfold Ref.zl
 split
 ·exact QW true st
 ·split<;>simp
theorem Z3:∀ (f:Nat)(ps:List Pt)(st:St),(∀ p∈ps,p.spans.length≤10)→(∀ p∈(Ref.yK s f ps st).1,p.spans.length≤10)∧(Ref.yK s f ps st).1.length≤ps.length+f
 |0,ps,st,h=>⟨h,by simp [Ref.yK]⟩
 |f+1,ps,st,h=>by
  simp only [Ref.yK]
  split
  ·split
   ·exact ⟨h,by simp⟩
   ·split
    ·split
     ·exact ⟨h,by simp⟩
     ·split
      ·exact ⟨h,by simp⟩
      ·have:=Z3 f (ps++[⟨(Ref.zl s st).1.neg,[(Ref.loOf (Ref.zl s st).1,Ref.loOf (Ref.zl s ((Ref.zl s st).2.2.go 1)).1)]⟩]) (Ref.zl s ((Ref.zl s st).2.2.go 1)).2.2 (fun p hp=>by
        rcases List.mem_append.1 hp with hp |hp
        ·exact h p hp
        ·simp at hp;subst hp;simp)
       exact ⟨this.1,by have:=this.2;simp at this;omega⟩
    ·have:=Z3 f (ps++[(Ref.zl s st).1]) (Ref.zl s st).2.2 (fun p hp=>by
      rcases List.mem_append.1 hp with hp |hp
      ·exact h p hp
      ·simp at hp;subst hp;exact zas st)
     exact ⟨this.1,by have:=this.2;simp at this;omega⟩
  ·exact ⟨h,by simp⟩
theorem wK:∀ (f g:Nat)(ps:List Pt)(R:List (Int×Int))(S:List Int)(n p:Nat),Br s L n p→L.length<n+f→s.size<p+g→(Pro.qH L (s.size:Nat) f n).k=0→(∀ c,anyPt ps c=jE R S c)→
  ∀ c,anyPt (Ref.yK s g ps (st0 p)).1 c=jE (Pro.qz L (s.size:Nat) f n R S).1 (Pro.qz L (s.size:Nat) f n R S).2 c
 |0,g,ps,R,S,n,p,h,hf,hg,_,_=>by have:=h.le;omega
 |f+1,0,ps,R,S,n,p,h,hf,hg,_,_=>by have:=h.good.le;omega
 |f+1,g+1,ps,R,S,n,p,h,hf,hg,hk0,hps=>by
  simp only [Pro.qH] at hk0
  simp only [Pro.qz]
  by_cases h93:zd s p=93
  ·rw [if_pos ((h.eqv 93 (by omega)).2 h93),Ref.km (fun hh=>hh.2 h93)]
   exact hps
  ·have hc:(st0 p).e=0∧zd s (st0 p).i≠93:=⟨rfl,h93⟩
   have n93:¬Pro.zi L n=93:=fun hh=>h93 ((h.eqv 93 (by omega)).1 hh)
   rw [if_neg n93] at hk0 ⊢
   by_cases hlt:p<s.size
   ·have hln:=h.lt.2 hlt
    have hb0:=(zx s p).2 hlt
    have hc1:¬zd s (st0 p).i<0:=by show ¬zd s p<0;omega
    rw [if_neg (by omega)] at hk0
    have hka:(Pro.addO L (s.size:Nat) n).k=0:=by
     by_cases hh:(Pro.addO L (s.size:Nat) n).k=0
     ·exact hh
     ·rw [if_pos hh] at hk0;exact absurd hk0 hh
    rw [if_neg (by simp [hka])] at hk0
    have hm:=kv h hlt
    have hmi:=Pro.jB (L:=L) (len:=(s.size:Nat)) n hln
    have hk:(Pro.zk L (s.size:Nat) n).k=0:=by
     by_cases hh:(Pro.zk L (s.size:Nat) n).k=0
     ·exact hh
     ·have ha:Pro.addO L (s.size:Nat) n=Pro.zk L (s.size:Nat) n:=by unfold Pro.addO;rw [if_pos hh]
      rw [ha] at hka;exact absurd hka hh
    obtain ⟨m1,m2,_,hb1⟩:=hm.1.1 hk
    have hst:=wH m1 m2
    have hd:=Kd hb1
    have htk:=KN h hlt hk
    cases hdd:Pro.ju L (Pro.zk L (s.size:Nat) n).n
    ·rw [hdd] at hd
     have ha:Pro.addO L (s.size:Nat) n=Pro.zk L (s.size:Nat) n:=by unfold Pro.addO;rw [if_neg (by simp [hk]),if_neg (by simp [hdd])]
     rw [ha] at hk0 ⊢
     rw [Ref.vq hc hc1 (by rw [hst,←hd];simp),hst]
     have hgt:p<(Ref.zl s (st0 p)).2.2.i:=by
      have:=hb1.good.le
      by_cases hh:p<(Ref.zl s (st0 p)).2.2.i
      ·exact hh
      ·exfalso
       have:=wI h hb1 (by omega)
       omega
     refine wK f g _ _ _ _ _ hb1 (by omega) (by omega) hk0 (fun c=>?_)
     rw [QV,hps c,htk c]
     by_cases hmn:Pro.many L n=true
     ·have e1:Pro.addR L (s.size:Nat) n R=R:=by unfold Pro.addR;rw [if_neg (by simp [hdd]),if_pos hmn]
      have e2:Pro.addS L (s.size:Nat) n S=S++[(Pro.zk L (s.size:Nat) n).v]:=by unfold Pro.addS;rw [if_neg (by simp [hdd]),if_pos hmn]
      rw [if_pos hmn,e1,e2,anyRS_s]
     ·have e1:Pro.addR L (s.size:Nat) n R=R++[((Pro.zk L (s.size:Nat) n).v,(Pro.zk L (s.size:Nat) n).v)]:=by unfold Pro.addR;rw [if_neg (by simp [hdd]),if_neg hmn]
      have e2:Pro.addS L (s.size:Nat) n S=S:=by unfold Pro.addS;rw [if_neg (by simp [hdd]),if_neg hmn]
      rw [if_neg hmn,e1,e2,zbz]
    ·rw [hdd] at hd
     have hdy:=Pro.Ye hdd
     have h45:=(hb1.eqv 45 (by omega)).1 hdy.1
     have hb2:=hb1.go h45 (by omega) (by omega)
     have hlt2:(Ref.zl s (st0 p)).2.2.i+1<s.size:=by
      by_cases hh:(Ref.zl s (st0 p)).2.2.i+1<s.size
      ·exact hh
      ·exact absurd ((hb2.eqv (-1) (by omega)).2 (ql _ _ (by omega))) hdy.2.2
     have hm2:=kv hb2 hlt2
     have hgo:(Ref.zl s (st0 p)).2.2.go 1=st0 ((Ref.zl s (st0 p)).2.2.i+1):=by rw [hst];rfl
     have hr2:Ref.jm s (Ref.zl s (st0 p)).2.2=true:=by rw [hst];exact hd.symm
     have hmi2:=Pro.jB (L:=L) (len:=(s.size:Nat)) ((Pro.zk L (s.size:Nat) n).n+1) (Pro.Xs hdy.2.2)
     have hro:Pro.addO L (s.size:Nat) n=Pro.xR L (s.size:Nat) (Pro.many L n) (Pro.zk L (s.size:Nat) n).v (Pro.zk L (s.size:Nat) n).n:=by unfold Pro.addO;rw [if_neg (by simp [hk]),if_pos hdd]
     have hk2:(Pro.zk L (s.size:Nat) ((Pro.zk L (s.size:Nat) n).n+1)).k=0:=by
      by_cases hh:(Pro.zk L (s.size:Nat) ((Pro.zk L (s.size:Nat) n).n+1)).k=0
      ·exact hh
      ·rw [hro] at hka;unfold Pro.xR at hka;rw [if_pos hh] at hka;exact absurd hka hh
     have hbb:¬(Pro.many L n=true∨Pro.many L ((Pro.zk L (s.size:Nat) n).n+1)=true∨(Pro.zk L (s.size:Nat) ((Pro.zk L (s.size:Nat) n).n+1)).v<(Pro.zk L (s.size:Nat) n).v):=fun hh=>by
      rw [hro] at hka;unfold Pro.xR at hka;rw [if_neg (by simp [hk2]),if_pos hh] at hka;exact absurd hka (by simp [Pro.bad])
     obtain ⟨p1,p2,_,hb3⟩:=hm2.1.1 hk2
     have hst2:=wH p1 p2
     obtain ⟨hone,hlo⟩:=hm.2 hk
     obtain ⟨htwo,hlo2⟩:=hm2.2 hk2
     have q1:Pro.many L n=false:=by cases hq:Pro.many L n;rfl;exact absurd (.inl hq) hbb
     have q2:Pro.many L ((Pro.zk L (s.size:Nat) n).n+1)=false:=by cases hq:Pro.many L ((Pro.zk L (s.size:Nat) n).n+1);rfl;exact absurd (.inr (.inl hq)) hbb
     rw [q1] at hone
     rw [q2] at htwo
     have hbad:¬Ref.badB (Ref.zl s (st0 p)).1 (Ref.zl s ((Ref.zl s (st0 p)).2.2.go 1)).1 (Ref.zl s (st0 p)).2.1 (Ref.zl s ((Ref.zl s (st0 p)).2.2.go 1)).2.1=true:=by
      rw [hgo]
      unfold Ref.badB
      rw [hlo hone,hlo2 htwo,hone,htwo]
      have hv:¬(Pro.zk L (s.size:Nat) ((Pro.zk L (s.size:Nat) n).n+1)).v<(Pro.zk L (s.size:Nat) n).v:=fun hh=>hbb (.inr (.inr hh))
      simp [Ref.loOf,hv]
     have ha:Pro.addO L (s.size:Nat) n=Pro.zk L (s.size:Nat) ((Pro.zk L (s.size:Nat) n).n+1):=by
      rw [hro];unfold Pro.xR;rw [if_neg (by simp [hk2]),if_neg hbb]
     rw [ha] at hk0 ⊢
     rw [Ref.kR hc hc1 hr2 (by rw [hgo];exact p1) hbad,hgo,hst2]
     have hgt:p<(Ref.zl s (st0 ((Ref.zl s (st0 p)).2.2.i+1))).2.2.i:=by
      by_cases hh:p<(Ref.zl s (st0 ((Ref.zl s (st0 p)).2.2.i+1))).2.2.i
      ·exact hh
      ·exfalso
       have:=wI h hb3 (by omega)
       omega
     refine wK f g _ _ _ _ _ hb3 (by omega) (by omega) hk0 (fun c=>?_)
     rw [QV,hps c,hlo hone,hlo2 htwo,vT]
     unfold Pro.addR Pro.addS
     rw [if_pos hdd,if_pos hdd,zbz]
     rfl
   ·have hend:=h.stop hlt
    rw [if_pos (by omega)] at hk0
    exact absurd hk0 (by simp [Pro.bad])
end Eqv
end
end Go.Proofs.YtnagphodmfejiaaGreatDoor
