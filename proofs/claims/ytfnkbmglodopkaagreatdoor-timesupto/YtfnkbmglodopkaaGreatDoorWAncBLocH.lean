/- Anchored: the law. -/
import Derived.Test.YtfnkbmglodopkaaGreatDoorWLocAAncA
namespace Go.Proofs.YtfnkbmglodopkaaGreatDoor
section
open Go.RowKit
open Sm (Stp Tree capT)
set_option maxHeartbeats 8000000
set_option maxRecDepth 1000000
end
section
open Sm (Tree)
namespace Pro
def mixS (a p b q c:ByteArray):ByteArray:=a++p++b++q++c
theorem XQ (a p b q c:ByteArray):(mixS a p b q c).size=a.size+p.size+b.size+q.size+c.size:=by unfold mixS;simp [ByteArray.size_append]
theorem Yw {a p b q c:ByteArray}(ha:(Ref.zo a).2<0)(hp:(Ref.zo p).2<0)(hb:(Ref.zo b).2<0)(hq:(Ref.zo q).2<0)(hc:(Ref.zo c).2<0):(Ref.zo (mixS a p b q c)).2<0:=by
 rw [Ref.Z3]
 have h5:Ref.Good (mixS a p b q c) ((a++p++b++q).size+c.size):=by
  have:=Ref.Good.fin (mixS a p b q c)
  unfold mixS at this ⊢
  rw [ByteArray.size_append] at this
  exact this
 have h4:Ref.Good (mixS a p b q c) (a++p++b++q).size:=Ref.Good.app (At.right _ _) hc h5
 rw [ByteArray.size_append] at h4
 have h3:Ref.Good (mixS a p b q c) (a++p++b).size:=Ref.Good.app ((At.right _ _).left c) hq h4
 rw [ByteArray.size_append] at h3
 have h2:Ref.Good (mixS a p b q c) (a++p).size:=Ref.Good.app (((At.right _ _).left q).left c) hb h3
 rw [ByteArray.size_append] at h2
 have h1:Ref.Good (mixS a p b q c) a.size:=Ref.Good.app ((((At.right _ _).left b).left q).left c) hp h2
 exact Ref.Good.app (((((At.refl a).left p).left b).left q).left c) ha (by rw [Nat.zero_add];exact h1)
theorem XR {a p b q c:ByteArray}(ha:(Ref.zo a).2<0)(hp:(Ref.zo p).2<0)(hb:(Ref.zo b).2<0)(hq:(Ref.zo q).2<0)(hc:(Ref.zo c).2<0):lets (mixS a p b q c)=sft 0 (lets a)++(sft a.size (lets p)++(sft (a++p).size (lets b)++(sft (a++p++b).size (lets q)++sft (a++p++b++q).size (lets c)))):=by
 have e0:=jG (((((At.refl a).left p).left b).left q).left c) ha
 have e1:=jG ((((At.right a p).left b).left q).left c) hp
 have e2:=jG (((At.right (a++p) b).left q).left c) hb
 have e3:=jG ((At.right (a++p++b) q).left c) hq
 have e4:=jG (At.right (a++p++b++q) c) hc
 have z:letF (a++p++b++q++c) ((a++p++b++q).size+c.size)=[]:=Vm _ (by rw [ByteArray.size_append];exact Nat.le_refl _)
 rw [z,List.append_nil] at e4
 rw [←ByteArray.size_append,e4] at e3
 rw [←ByteArray.size_append,e3] at e2
 rw [←ByteArray.size_append,e2] at e1
 rw [Nat.zero_add,e1,Jh] at e0
 exact e0
def sGo:ByteArray:=⟨#[40,63,58]⟩
def zF:ByteArray:=⟨#[41]⟩
theorem Wn:lets sGo=[(0,40),(1,63),(2,58)]:=by decide +kernel
theorem kT:lets zF=[(0,41)]:=by decide +kernel
theorem ZN:(Ref.zo sGo).2<0:=by decide +kernel
theorem jS:(Ref.zo zF).2<0:=by decide +kernel
end Pro
namespace Pro
end Pro
namespace Pro
theorem zbs {p c t:ByteArray}{l hi:Int}(h:Reads p)(hc:(Ref.zo c).2<0)(ht:(Ref.zo t).2<0)
  (hq:∀ (L':List (Int×Int)) (len':Int) (m:Nat),(∀ k,zf L' (k+m)=zf (lets c++lets t) k)→L'.length=m+(lets c++lets t).length→∃ n,zu L' len' m=(true,good l n,hi)∧jR L' n=L'.length)
  (h0:∀ v,0≤v→v<300→0≤repS v l hi) (hv:(zD p).v<300) :
  (zD (mixS sGo p zF c t)).k=7∨(Reads (mixS sGo p zF c t)∧(zD (mixS sGo p zF c t)).v=min (repS (zD p).v l hi) 301∧zE (mixS sGo p zF c t)=tAlt [tSeq [tRep (zE p) l hi]]):=by
 have hL:=XR ZN h.ch jS hc ht
 have hch:=Yw ZN h.ch jS hc ht
 have i0:=(yF (len:=(p.size:Nat)) (zQ (L:=lets p) (len:=(p.size:Nat)) 10) 0 (Nat.zero_le _)).2.2 h.k
 have hk:=h.k
 have hn:=h.n
 unfold zD at hk hn hv
 obtain ⟨V,hV⟩:∃ V,V=(altP (lets p) (p.size:Nat) (zl (lets p) (p.size:Nat) 10) 0).v:=⟨_,rfl⟩
 obtain ⟨Tp,hTp⟩:∃ T,T=altQ (lets p) (p.size:Nat) (zl (lets p) (p.size:Nat) 10) (zH (lets p) (p.size:Nat) 10) 0:=⟨_,rfl⟩
 rw [←hV] at i0 hv
 have hr:=h0 V i0.1 hv
 have key:∀ (L':List (Int×Int)) (len':Int) (P B C:List (Int×Int)),L'=[(0,40),(1,63),(2,58)]++(P++(B++C))→P.length=(lets p).length→(∀ k,zf P k=zf (lets p) k)→B.length=1→zf B 0=41→C.length=(lets c++lets t).length→(∀ k,zf C k=zf (lets c++lets t) k)→(altP L' len' (zl L' len' 10) 0).k=7∨((altP L' len' (zl L' len' 10) 0)=good (min (repS V l hi) 301) L'.length∧altQ L' len' (zl L' len' 10) (zH L' len' 10) 0=tAlt [tSeq [tRep Tp l hi]]):=by
  intro L' len' P B C e hP hA hB z0 hC hD
  have hl:L'.length=(lets p).length+4+(lets c++lets t).length:=by rw [e];simp only [List.length_append,hP,hB,hC,List.length_cons,List.length_nil];omega
  have a0:zf L' 0=40:=by rw [e];rfl
  have a1:zf L' 1=63:=by rw [e];rfl
  have a2:zf L' 2=58:=by rw [e];rfl
  have hmid:∀ k,zf L' (k+3)=zf (P++(B++C)) k:=fun k=>by rw [e];exact yS (A:=[(0,40),(1,63),(2,58)])
  have hb:zf L' ((lets p).length+3)=41:=by
   have:=yS (A:=P) (B:=B++C) (k:=0)
   rw [Nat.zero_add,hP] at this
   rw [hmid,this,qr (by omega)]
   exact z0
  have hq2:∀ k,zf L' (k+((lets p).length+4))=zf (lets c++lets t) k:=fun k=>by
   rw [show k+((lets p).length+4)=k+1+(lets p).length+3 by omega,hmid,←hP,yS,←hB,yS]
   exact hD k
  have hS:Shf (lets p) L' (0+3):=⟨fun k hk=>by rw [Nat.zero_add,hmid,qr (by omega)];exact hA k,by rw [Nat.zero_add];exact hb⟩
  obtain ⟨n,hQ,hZ⟩:=hq L' len' ((lets p).length+4) hq2 hl
  have s0:yx L' 0=false:=by unfold yx;rw [a0,hl];simp
  have s1:yx L' L'.length=true:=by unfold yx;simp
  have c3:zf L' L'.length = -1:=zO (Nat.le_refl _)
  obtain ⟨f,hf⟩:∃ f,L'.length+1-0=f+1+1:=⟨(lets p).length+3+(lets c++lets t).length,by omega⟩
  rcases ve (len:=(p.size:Nat)) (len':=len') hS a0 a1 a2 hk hn with ⟨g1,g2⟩ |g9
  ·rw [←hV,Nat.add_zero] at g1
   rw [←hTp] at g2
   have t1:=term_rep (L:=L') (len:=len') (D:=zl L' len' 10) (DT:=zH L' len' 10) a0 g1 hQ rfl
   have eV:(good l n).v=l:=rfl
   have eN:(good l n).n=n:=rfl
   rw [eV,eN,hZ,g2] at t1
   right
   have hT:zw L' len' (zl L' len' 10) 0=good (min (0+min (repS V l hi) 301) 301) L'.length:=by
    unfold zw
    rw [hf,(yh (DT:=zH L' len' 10) (ts:=[]) s0 t1.1).1,(xF (DT:=zH L' len' 10) (ts:=[]) s1).1]
   have hQ2:yq L' len' (zl L' len' 10) (zH L' len' 10) 0=tSeq [tRep Tp l hi]:=by
    unfold yq
    rw [hf,(yh (s:=0) s0 t1.1).2,(xF (s:=0) s1).2,t1.2]
    simp
   have hx:=Z4 (DT:=zH L' len' 10) (f:=f+1) (zs:=[]) (ts:=[]) hT hQ2 (by rw [c3];decide)
   constructor
   ·unfold altP
    have hw:min (sumS 0 ([]++[min (0+min (repS V l hi) 301) 301])+((([]:List Int).length:Int)+1)-1) 301=min (repS V l hi) 301:=by
     simp [sumS]
    rw [hf,hx.1,hw]
   ·unfold altQ
    rw [hf,hx.2]
    rfl
  ·left
   have t1:=jZ (L:=L') (len:=len') (D:=zl L' len' 10) a0 g9
   have hT:(zw L' len' (zl L' len' 10) 0).k=7:=by
    unfold zw
    rw [hf]
    exact jY s0 t1
   unfold altP
   rw [hf]
   exact alt_bad hT
 have hL2:lets (mixS sGo p zF c t)=[(0,40),(1,63),(2,58)]++(sft sGo.size (lets p)++(sft (sGo++p).size (lets zF)++(sft (sGo++p++zF).size (lets c)++sft (sGo++p++zF++c).size (lets t)))):=by
  rw [hL,Wn]
  rfl
 have hC:∀ d e k,zf (sft d (lets c)++sft e (lets t)) k=zf (lets c++lets t) k:=fun d e k=>by
  by_cases hk:k<(lets c).length
  ·rw [qr (by rw [qk];exact hk),qr hk,xf]
  ·obtain ⟨j,rfl⟩:∃ j,k=j+(lets c).length:=⟨k-(lets c).length,by omega⟩
   have h1:=yS (A:=sft d (lets c)) (B:=sft e (lets t)) (k:=j)
   rw [qk] at h1
   rw [h1,yS,xf]
 rcases key _ ((mixS sGo p zF c t).size:Nat) _ _ _ hL2 (qk _ _) (xf _ _) (by rw [qk,kT];rfl) (by rw [xf,kT];rfl) (by simp [qk]) (hC _ _) with k7 |⟨q1,q2⟩
 ·exact .inl k7
 ·right
  have e1:zD (mixS sGo p zF c t)=good (min (repS V l hi) 301) (lets (mixS sGo p zF c t)).length:=q1
  have e2:V=(zD p).v:=hV
  have e3:Tp=zE p:=hTp
  have e4:zE (mixS sGo p zF c t)=tAlt [tSeq [tRep Tp l hi]]:=q2
  rw [e2] at e1
  rw [e3] at e4
  refine ⟨⟨hch,?_,?_⟩,?_,e4⟩
  ·rw [e1,Kg]
  ·rw [e1,Kh]
  ·rw [e1,Ki]
theorem JT:lets ByteArray.empty=[]:=by decide +kernel
theorem nil_ch:(Ref.zo ByteArray.empty).2<0:=by decide +kernel
end Pro
end
end Go.Proofs.YtfnkbmglodopkaaGreatDoor
