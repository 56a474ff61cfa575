/- Sets of characters as rising spans: plain. -/
import Derived.Test.YtcgleficedipkaaGreatDoorYTrITqA
namespace Go.Proofs.YtcgleficedipkaaGreatDoor
variable {init sp:List (Int×Int)}(R:List (Int×Int))(S:List Int)(lo hi:Int)(x r:Int×Int)(a c:Int){l s:Int×Int}(rs xs:List (Int×Int))
section
namespace Cs
open Eqv (inSp)
def isCh (c:Int):Bool:=(decide (0<=c) && decide (c<=55295)) ||(decide (57344<=c) && decide (c<=1114111))
def in1 (x:Int×Int)(c:Int):Bool:=decide (x.1<=c) && decide (c<=x.2)
theorem inSp_append (a b:List (Int×Int))(c:Int):inSp (a++b) c=(inSp a c ||inSp b c):=by simp [inSp]
theorem inSp_one:inSp [x] c=in1 x c:=by simp [inSp,in1]
theorem jy (r:List (Int×Int))(c:Int):inSp (x :: r) c=(in1 x c ||inSp r c):=by simp [inSp,in1]
variable (sp)
theorem qv:inSp sp c=true↔∃ x∈sp,x.1<=c/\c<=x.2:=by simp [inSp]
theorem jc:in1 x c=true↔x.1<=c/\c<=x.2:=by simp [in1]
theorem wJ:isCh c=true↔(0<=c/\c<=55295)\/(57344<=c/\c<=1114111):=by simp [isCh]
def okS (x:Int×Int):Prop:=x.1<=x.2/\0<=x.1/\x.2<=1114111
def zK (sp:List (Int×Int)):Prop:=sp.Pairwise (fun x y=>x.2+1<y.1)/\∀ x∈sp,okS x
def clip (lo hi:Int)(r:Int×Int):List (Int×Int):=if max r.1 lo<=min r.2 hi then [(max r.1 lo,min r.2 hi)] else []
def VQ (r:Int×Int):List (Int×Int):=clip 0 55295 r++clip 57344 1114111 r
def spl (rs:List (Int×Int)):List (Int×Int):=rs.flatMap VQ
theorem zaT:inSp (clip lo hi r) c=true↔(lo<=c/\c<=hi)/\r.1<=c/\c<=r.2:=by
 unfold clip;split
 ·rw [inSp_one,jc];simp only;omega
 ·simp [inSp];omega
theorem clips_in:inSp (VQ r) c=(isCh c && in1 r c):=by
 rw [YH,kt,wJ,jc];unfold VQ;rw [inSp_append,Z5,zaT,zaT];omega
theorem spl_in:∀ (rs:List (Int×Int)) (c:Int),inSp (spl rs) c=(isCh c && inSp rs c)
 | [],c=>by simp [spl,inSp]
 |r :: rs,c=>by
  show inSp (VQ r++spl rs) c=_;rw [inSp_append,clips_in,spl_in rs c,jy,<-Bool.and_or_distrib_left]
variable {lo hi r}
theorem zaU (h0:0<=lo)(h1:hi<=1114111):∀ x∈clip lo hi r,okS x:=by
 intro x hx;unfold clip at hx;split at hx
 ·obtain rfl:=xf.1 hx;refine ⟨?_,?_,?_⟩<;>simp only<;>omega
 ·cases hx
theorem spl_ok:∀ x∈spl rs,okS x:=by
 intro x hx;obtain ⟨r,_,hr⟩:=Xc.1 hx;rcases qe.1 hr with h |h
 ·exact zaU (by omega) (by omega) x h
 ·exact zaU (by omega) (by omega) x h
def jn1 (acc:List (Int×Int))(s:Int×Int):List (Int×Int):=
 match acc.getLast? with
 |some l=>if s.1<=l.2+1 then acc.dropLast++[(l.1,max l.2 s.2)] else acc++[s]
 |none=>[s]
def jn (acc xs:List (Int×Int)):List (Int×Int):=xs.foldl jn1 acc
theorem zaV (s:Int×Int):jn1 [] s=[s]:=rfl
theorem XK (h:s.1<=l.2+1):jn1 (init++[l]) s=init++[(l.1,max l.2 s.2)]:=by simp [jn1,h]
theorem XL (h:¬s.1<=l.2+1):jn1 (init++[l]) s=init++[l]++[s]:=by simp [jn1,h]
theorem kK:xs=[]\/∃ init l,xs=init++[l]:=by
 rcases List.eq_nil_or_concat xs with h |⟨i,l,h⟩
 ·exact .inl h
 ·exact .inr ⟨i,l,by simpa using h⟩
theorem jn1_ok {acc:List (Int×Int)}{s:Int×Int}(h:zK acc)(hs:okS s)(hl:∀ l,acc.getLast?=some l->l.1<=s.1) :
  zK (jn1 acc s)/\(∀ c,inSp (jn1 acc s) c=(inSp acc c ||in1 s c))/\∀ l,(jn1 acc s).getLast?=some l->l.1<=s.1:=by
 rcases kK acc with rfl |⟨init,l,rfl⟩
 ·rw [zaV];refine ⟨⟨by simp,fun x hx=>?_⟩,fun c=>by rw [inSp_one];simp [inSp],fun l e=>?_⟩
  ·obtain rfl:=xf.1 hx;exact hs
  ·cases e;exact YD _
 ·have hls:=hl l (by simp);have hlo:=h.2 l (by simp);have hp:=YJ.1 h.1;by_cases hc:s.1<=l.2+1
  ·rw [XK hc];refine ⟨⟨YJ.2 ⟨hp.1,by simp,fun a ha b hb=>?_⟩,fun x hx=>?_⟩,fun c=>?_,fun l' e=>?_⟩
   ·obtain rfl:=xf.1 hb;exact hp.2.2 a ha l (by simp)
   ·rcases qe.1 hx with hx |hx
    ·exact h.2 x (Yb _ hx)
    ·obtain rfl:=xf.1 hx;unfold okS at hlo hs ⊢;simp only;omega
   ·rw [inSp_append,inSp_append,inSp_one,inSp_one,Bool.or_assoc];congr 1;rw [YH,Z5,jc,jc,jc];unfold okS at hlo hs;simp only;omega
   ·simp at e;subst e;exact hls
  ·rw [XL hc];refine ⟨⟨YJ.2 ⟨h.1,by simp,fun a ha b hb=>?_⟩,fun x hx=>?_⟩,fun c=>?_,fun l' e=>?_⟩
   ·obtain rfl:=xf.1 hb;rcases qe.1 ha with ha |ha
    ·have:=hp.2.2 a ha l (by simp);omega
    ·obtain rfl:=xf.1 ha;omega
   ·rcases qe.1 hx with hx |hx
    ·exact h.2 x hx
    ·obtain rfl:=xf.1 hx;exact hs
   ·rw [inSp_append _ [s],inSp_one]
   ·simp at e;subst e;exact YD _
theorem jn_ok:∀ (xs acc:List (Int×Int)),zK acc->(∀ x∈xs,okS x)->xs.Pairwise (fun x y=>x.1<=y.1)->(∀ l,acc.getLast?=some l->∀ x∈xs,l.1<=x.1)->
  zK (jn acc xs)/\∀ c,inSp (jn acc xs) c=(inSp acc c ||inSp xs c)
 | [],acc,h,_,_,_=>⟨h,fun c=>by simp [jn,inSp]⟩
 |s :: xs,acc,h,ho,hp,hl=>by
  obtain ⟨h1,h2,h3⟩:=jn1_ok h (ho s (xF ..)) (fun l e=>hl l e s (xF ..));obtain ⟨hp1,hp2⟩:=kg.1 hp;obtain ⟨r1,r2⟩:=jn_ok xs (jn1 acc s) h1 (fun x hx=>ho x (xp _ hx)) hp2 (fun l e x hx=>Int.le_trans (h3 l e) (hp1 x hx));refine ⟨r1,fun c=>?_⟩;show inSp (jn (jn1 acc s) xs) c=_;rw [r2,h2,jy,Bool.or_assoc]
variable {rs xs}
theorem of_ok (hp:xs.Perm (spl rs))(hs:xs.Pairwise (fun x y=>x.1<=y.1)):zK (jn [] xs)/\∀ c,inSp (jn [] xs) c=(isCh c && inSp rs c):=by
 obtain ⟨h1,h2⟩:=jn_ok xs [] ⟨by simp,by simp⟩ (fun x hx=>spl_ok rs x (hp.mem_iff.1 hx)) hs (by simp);refine ⟨h1,fun c=>?_⟩;rw [h2,<-spl_in];simp only [inSp,List.any_nil,Bool.false_or];exact hp.any_eq
def gaps:Int->List (Int×Int)->List (Int×Int)
 |b,[]=>[(b,1114111)]
 |b,x :: r=>(b,x.1-1) :: gaps (x.2+1) r
theorem zaW:∀ (sp:List (Int×Int)) (b:Int),(∀ x∈sp,b<=x.1)->zK sp->∀ y∈gaps b sp,b<=y.1
 | [],b,_,_,y,hy=>by
  obtain rfl:=xf.1 (show y∈[(b,1114111)] from hy);exact YD _
 |x :: r,b,hb,h,y,hy=>by
  obtain ⟨hp1,hp2⟩:=kg.1 h.1;have hx:=h.2 x (xF ..);have hbx:=hb x (xF ..);rcases qP.1 (show y∈(b,x.1-1) :: gaps (x.2+1) r from hy) with rfl |hy
  ·exact YD _
  ·have:=zaW r (x.2+1) (fun z hz=>by have:=hp1 z hz;omega) ⟨hp2,fun z hz=>h.2 z (xp _ hz)⟩ y hy;unfold okS at hx;omega
theorem zaX:∀ (sp:List (Int×Int)) (b c:Int),zK sp->(∀ x∈sp,b<=x.1)->b<=c->c<=1114111->inSp (gaps b sp) c = !inSp sp c
 | [],b,c,_,_,h0,h1=>by
  show inSp [(b,1114111)] c=_;rw [inSp_one];simp [inSp,in1,h0,h1]
 |x :: r,b,c,h,hb,h0,h1=>by
  obtain ⟨hp1,hp2⟩:=kg.1 h.1;have hx:=h.2 x (xF ..);have hr:zK r:=⟨hp2,fun y hy=>h.2 y (xp _ hy)⟩
  have hbx:=hb x (xF ..);show inSp ((b,x.1-1) :: gaps (x.2+1) r) c=_;rw [jy,jy];by_cases hc:x.2+1<=c
  ·rw [zaX r (x.2+1) c hr (fun y hy=>by have:=hp1 y hy;omega) hc h1];have e1:in1 (b,x.1-1) c=false:=(by rw [Z3,ne_eq,jc];unfold okS at hx;simp only;omega);have e2:in1 x c=false:=(by rw [Z3,ne_eq,jc];omega);rw [e1,e2];simp
  ·have e3:inSp (gaps (x.2+1) r) c=false:=by
    rw [Z3,ne_eq,qv];rintro ⟨y,hy,hyc⟩;exact absurd hyc.1 (by have:=zaW r (x.2+1) (fun y hy=>by have:=hp1 y hy;omega) hr y hy;omega)
   have e4:inSp r c=false:=by
    rw [Z3,ne_eq,qv];rintro ⟨y,hy,hyc⟩;have:=hp1 y hy;omega
   rw [e3,e4,Bool.or_false,Bool.or_false,YH,Bool.not_eq_true',Z3,ne_eq,jc,jc];simp only;omega
variable {sp}
theorem not_ok (h:zK sp)(c:Int):(isCh c && inSp (gaps 0 sp) c)=(isCh c && !inSp sp c):=by
 by_cases hc:isCh c=true
 ·rw [zaX sp 0 c h (fun x hx=>(h.2 x hx).2.1) (by have:=(wJ c).1 hc;omega) (by have:=(wJ c).1 hc;omega)]
 ·simp [hc]
end Cs
open Sm (Tree)
namespace Cs
open Eqv (inSp inPt kM wN ZM)
def qY (T:Tree)(c:Int):Bool:=isCh c && ZM T c
def zT (a c:Int):Bool:=isCh c && kM a c
def lineL:List (Int×Int):=[(10,10),(13,13),(8232,8233)]
def VR:List (Int×Int):=[(97,122),(65,90),(48,57),(95,95)]
theorem VS:inSp VR c=inSp Ref.vL c:=by
 rw [YH,qv,qv];simp only [VR,Ref.vL,qP,List.not_mem_nil,or_false];constructor
 ·rintro ⟨x,rfl |rfl |rfl |rfl,h⟩
  ·exact ⟨(97,122),by simp,h⟩
  ·exact ⟨(65,90),by simp,h⟩
  ·exact ⟨(48,57),by simp,h⟩
  ·exact ⟨(95,95),by simp,h⟩
 ·rintro ⟨x,rfl |rfl |rfl |rfl,h⟩
  ·exact ⟨(48,57),by simp,h⟩
  ·exact ⟨(65,90),by simp,h⟩
  ·exact ⟨(95,95),by simp,h⟩
  ·exact ⟨(97,122),by simp,h⟩
theorem W7:(isCh c && inSp VR c)=zT 119 c:=by
 unfold zT kM inPt Ref.setL;rw [if_neg (by omega),if_pos (by omega)];simp [VS]
theorem zaY:(isCh c && inSp [(48,57)] c)=zT 100 c:=by
 unfold zT kM inPt Ref.setL;rw [if_pos (by omega)];simp [Ref.W4]
theorem zaZ:(isCh c && inSp Ref.QA c)=zT 115 c:=by
 unfold zT kM inPt Ref.setL;rw [if_neg (by omega),if_neg (by omega),if_pos (by omega)];simp
theorem XM {a b:Int}(h:(a=100/\b=68)\/(a=119/\b=87)\/(a=115/\b=83))(c:Int):(isCh c && !zT a c)=zT b c:=by
 unfold zT kM inPt Ref.setL;rcases h with ⟨rfl,rfl⟩ |⟨rfl,rfl⟩ |⟨rfl,rfl⟩
 ·cases isCh c<;>cases inSp Ref.W4 c<;>simp_all
 ·cases isCh c<;>cases inSp Ref.vL c<;>simp_all
 ·cases isCh c<;>cases inSp Ref.QA c<;>simp_all
theorem any_P:(isCh c && !(isCh c && inSp lineL c))=qY Pro.tAny c:=by
 unfold qY ZM;rw [if_pos (by rfl)];show _=(isCh c && !inSp lineL c)
 cases isCh c<;>simp
theorem char_P:(isCh c && inSp [(a,a)] c)=qY (Pro.qK a) c:=by
 unfold qY ZM;rw [if_neg (by simp [Pro.qK]),if_pos (by rfl),Eqv.inSp_one];rfl
theorem short_P:zT a c=qY (Pro.xV a) c:=by
 unfold qY ZM zT;rw [if_neg (by simp [Pro.xV]),if_neg (by simp [Pro.xV]),if_pos (by rfl)];rfl
variable {R S}
theorem zcE {ms:List (Int×Int)}(hm:∀ c,inSp ms c=(S.any fun a=>zT a c))(c:Int):(isCh c && inSp (R++ms) c)=(isCh c && wN R S c):=by
 rw [inSp_append,hm];unfold wN zT;cases h:isCh c
 ·rfl
 ·simp
theorem za0 (neg:Bool)(R:List (Int×Int))(S:List Int)(c:Int):qY (Pro.tCls neg R S) c=(isCh c && (wN R S c != neg)):=by
 unfold qY ZM;rw [if_neg (by simp [Pro.tCls]),if_neg (by simp [Pro.tCls]),if_neg (by simp [Pro.tCls]),if_pos (by rfl)];rfl
variable (R S)
theorem zcF:(isCh c && !(isCh c && wN R S c))=qY (Pro.tCls true R S) c:=by
 rw [za0];cases isCh c<;>cases wN R S c<;>rfl
theorem zcG:(isCh c && wN R S c)=qY (Pro.tCls false R S) c:=by
 rw [za0];cases isCh c<;>cases wN R S c<;>rfl
end Cs
namespace Cs
open Eqv (inSp)
theorem zK.at (h:zK sp){i:Nat}{x:Int×Int}(hx:sp[i]?=some x):okS x:=h.2 x (xP hx)
theorem zK.lt (h:zK sp){i j:Nat}{x y:Int×Int}(hx:sp[i]?=some x)(hy:sp[j]?=some y)(hij:i<j):x.2+1<y.1:=by
 obtain ⟨hi,rfl⟩:=yd.1 hx;obtain ⟨hj,rfl⟩:=yd.1 hy;exact Zs.1 h.1 i j hi hj hij
theorem zK.le (h:zK sp){i j:Nat}{x y:Int×Int}(hx:sp[i]?=some x)(hy:sp[j]?=some y)(hij:i<=j):x.1<=y.1/\x.2<=y.2:=by
 by_cases e:i=j
 ·subst e;cases hx.symm.trans hy;exact ⟨YD _,YD _⟩
 ·have h1:=h.lt hx hy (by omega);have h2:=h.at hy;have h3:=h.at hx;unfold okS at h2 h3;omega
theorem has_iff (h:zK sp){c:Int}{i:Nat}(h1:∀ (t:Nat) x,t<i->sp[t]?=some x->x.2<c)(h2:∀ (t:Nat) x,i<=t->sp[t]?=some x->c<=x.2):inSp sp c=true↔∃ x,sp[i]?=some x/\x.1<=c/\c<=x.2:=by
 rw [qv];constructor
 ·rintro ⟨x,hx,hc1,hc2⟩;obtain ⟨t,ht⟩:=j5 hx;by_cases e:t<i
  ·have:=h1 t x e ht;omega
  ·by_cases e2:t=i
   ·subst e2;exact ⟨x,ht,hc1,hc2⟩
   ·have hlt:t<sp.length:=(yd.1 ht).1;have hi:sp[i]?=some (sp[i]'(by omega)):=zD (by omega);have:=h.lt hi ht (by omega);have:=h2 i _ (z8 _) hi;omega
 ·rintro ⟨x,hx,hc⟩;exact ⟨x,xP hx,hc⟩
theorem has_left (h:zK sp){c:Int}{m:Nat}{y:Int×Int}(hy:sp[m]?=some y)(hc:y.2<c):∀ (t:Nat) x,t<m+1->sp[t]?=some x->x.2<c:=fun t x ht hx=>by
 have:=h.le hx hy (by omega);omega
theorem zcH (h:zK sp){c:Int}{m:Nat}{y:Int×Int}(hy:sp[m]?=some y)(hc:¬y.2<c):∀ (t:Nat) x,m<=t->sp[t]?=some x->c<=x.2:=fun t x ht hx=>by
 have:=h.le hy hx ht;omega
def cmpS (x:Int×Int)(c:Int):Int:=if x.2<c then -1 else if x.1 > c then 1 else 0
theorem VT:cmpS x c<0↔x.2<c:=by
 unfold cmpS;split
 ·omega
 ·split<;>omega
variable {x c}
theorem Jx:cmpS x c=0↔x.1<=c/\c<=x.2:=by
 unfold cmpS;split
 ·omega
 ·split<;>omega
end Cs
end
end Go.Proofs.YtcgleficedipkaaGreatDoor
