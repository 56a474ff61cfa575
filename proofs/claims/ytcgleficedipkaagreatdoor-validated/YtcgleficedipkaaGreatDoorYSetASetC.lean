/- Sets of characters as rising spans: plain. -/
import Derived.Test.YtcgleficedipkaaGreatDoorYTrATrK
namespace Go.Proofs.YtcgleficedipkaaGreatDoor
open Option renaming some->I
open Bool renaming false->Z,true->G
open Or renaming inr->O,inl->Q
open Pro Ref
variable {g f:List (Int×Int)}(R:List (Int×Int))(S:List Int)(e b:Int)(x r:Int×Int)(a c:Int){l s:Int×Int}(rs xs:List (Int×Int))
section
namespace Cs
open Eqv (zK)
def isCh (c:Int):Bool:=(decide (0<=c) && decide (c<=55295)) ||(decide (57344<=c) && decide (c<=1114111))
def in1 (x:Int×Int)(c:Int):Bool:=decide (x.1<=c) && decide (c<=x.2)
theorem inSp_append (a b:List (Int×Int))(c:Int):zK (a++b) c=(zK a c ||zK b c):=by simp[zK]
theorem inSp_one:zK [x] c=in1 x c:=by simp[zK,in1]
theorem vm (r:List (Int×Int))(c:Int):zK (x :: r) c=(in1 x c ||zK r c):=by simp[zK,in1]
variable (f)
theorem jt:zK f c=G↔∃x∈f,x.1<=c/\c<=x.2:=by simp[zK]
theorem kE:in1 x c=G↔x.1<=c/\c<=x.2:=by simp[in1]
theorem Y0:isCh c=G↔(0<=c/\c<=55295)\/(57344<=c/\c<=1114111):=by simp[isCh]
def okS (x:Int×Int):Prop:=x.1<=x.2/\0<=x.1/\x.2<=1114111
def zQ (f:List (Int×Int)):Prop:=f.Pairwise (λx y=>x.2+1<y.1)/\∀x∈f,okS x
def clip (e b:Int)(r:Int×Int):List (Int×Int):=if max r.1 e<=min r.2 b then [(max r.1 e,min r.2 b)] else []
def zcd (r:Int×Int):List (Int×Int):=clip 0 55295 r++clip 57344 1114111 r
def spl (rs:List (Int×Int)):List (Int×Int):=rs.flatMap zcd
theorem zeA:zK (clip e b r) c=G↔(e<=c/\c<=b)/\r.1<=c/\c<=r.2:=by unfold clip;split;rw[inSp_one,kE];simp only;omega;simp[zK];omega
theorem clips_in:zK (zcd r) c=(isCh c && in1 r c):=by rw[zhM,zhb,Y0,kE];unfold zcd;rw[inSp_append,zhD,zeA,zeA];omega
theorem spl_in:∀(rs:List (Int×Int)) (c:Int),zK (spl rs) c=(isCh c && zK rs c)
 | [],c=>by simp[spl,zK]
 |r :: rs,c=>by
  show zK (zcd r++spl rs) c=_;rw[inSp_append,clips_in,spl_in rs c,vm,<-Bool.and_or_distrib_left]
variable {e b r}
theorem zeB (c:0<=e)(d:b<=1114111):∀x∈clip e b r,okS x:=by intro x a;unfold clip at a;split at a;obtain rfl:=zgT.1 a;refine⟨?_,?_,?_⟩<;>simp only<;>omega;cases a
theorem spl_ok:∀x∈spl rs,okS x:=by intro x b;obtain⟨r,_,a⟩:=zh2.1 b;rcases zgU.1 a with h|h;exact zeB oa oa x h;exact zeB oa oa x h
def jn1 (acc:List (Int×Int))(s:Int×Int):List (Int×Int):=
 match acc.getLast? with
 |some l=>if s.1<=l.2+1 then acc.dropLast++[(l.1,max l.2 s.2)] else acc++[s]
 |none=>[s]
def jn (acc xs:List (Int×Int)):List (Int×Int):=xs.foldl jn1 acc
theorem zeC (s:Int×Int):jn1 [] s=[s]:=rfl
theorem J5 (h:s.1<=l.2+1):jn1 (g++[l]) s=g++[(l.1,max l.2 s.2)]:=by simp[jn1,h]
theorem J6 (h:¬s.1<=l.2+1):jn1 (g++[l]) s=g++[l]++[s]:=by simp[jn1,h]
theorem Ze:xs=[]\/∃g l,xs=g++[l]:=by rcases List.eq_nil_or_concat xs with h|⟨i,l,h⟩;exact Q h;exact O ⟨i,l,by simpa using h⟩
theorem jn1_ok {acc:List (Int×Int)}{s:Int×Int}(h:zQ acc)(f:okS s)(n:∀l,acc.getLast?=I l->l.1<=s.1):zQ (jn1 acc s)/\(∀c,zK (jn1 acc s) c=(zK acc c ||in1 s c))/\∀l,(jn1 acc s).getLast?=I l->l.1<=s.1:=by
 rcases Ze acc with rfl|⟨g,l,rfl⟩
 .rw[zeC];refine⟨⟨ov,λx d=>?_⟩,λc=>by rw[inSp_one];simp[zK],λl e=>?_⟩
  grind
  cases e;exact zij _
 have o:=n l ov;have j:=h.2 l ov;have p:=zh0.1 h.1;by_cases i:s.1<=l.2+1
 .rw[J5 i];refine⟨⟨zh0.2 ⟨p.1,ov,λa k b m=>?_⟩,λx d=>?_⟩,λc=>?_,λq e=>?_⟩
  grind
  rcases zgU.1 d with d|d;exact h.2 x (zh1 _ d);obtain rfl:=zgT.1 d;unfold okS at j f ⊢;simp only;omega;rw[inSp_append,inSp_append,inSp_one,inSp_one,Bool.or_assoc];congr 1;rw[zhM,zhD,kE,kE,kE];unfold okS at j f;simp only;omega;simp at e;subst e;exact o
 rw[J6 i];refine⟨⟨zh0.2 ⟨h.1,ov,λa k b m=>?_⟩,λx d=>?_⟩,λc=>?_,λq e=>?_⟩
 grind
 rcases zgU.1 d with d|d;exact h.2 x d;obtain rfl:=zgT.1 d;exact f;rw[inSp_append _ [s],inSp_one];simp at e;subst e;exact zij _
theorem jn_ok:∀(xs acc:List (Int×Int)),zQ acc->(∀x∈xs,okS x)->xs.Pairwise (λx y=>x.1<=y.1)->(∀l,acc.getLast?=I l->∀x∈xs,l.1<=x.1)->
  zQ (jn acc xs)/\∀c,zK (jn acc xs) c=(zK acc c ||zK xs c)
 | [],acc,h,_,_,_=>⟨h,λc=>by simp[jn,zK]⟩
 |s :: xs,acc,h,b,j,i=>by
  obtain⟨d,f,g⟩:=jn1_ok h (b s (zgQ ..)) (λl e=>i l e s (zgQ ..));obtain⟨k,m⟩:=zhk.1 j;obtain⟨n,o⟩:=jn_ok xs (jn1 acc s) d (λx a=>b x (zgR _ a)) m (λl e x a=>Int.le_trans (g l e) (k x a));refine⟨n,λc=>?_⟩;show zK (jn (jn1 acc s) xs) c=_;rw[o,f,vm,Bool.or_assoc]
variable {rs xs}
theorem of_ok (a:xs.Perm (spl rs))(e:xs.Pairwise (λx y=>x.1<=y.1)):zQ (jn [] xs)/\∀c,zK (jn [] xs) c=(isCh c && zK rs c):=by obtain⟨b,d⟩:=jn_ok xs [] ⟨ov,ov⟩ (λx f=>spl_ok rs x (a.mem_iff.1 f)) e ov;refine⟨b,λc=>?_⟩;rw[d,<-spl_in];simp only[zK,List.any_nil,Bool.false_or];exact a.any_eq
def gaps:Int->List (Int×Int)->List (Int×Int)
 |b,[]=>[(b,1114111)]
 |b,x :: r=>(b,x.1-1) :: gaps (x.2+1) r
theorem zeD:∀(f:List (Int×Int)) (b:Int),(∀x∈f,b<=x.1)->zQ f->∀y∈gaps b f,b<=y.1
 | [],b,_,_,y,a=>by
  obtain rfl:=zgT.1 (show y∈[(b,1114111)] from a);exact zij _
 |x :: r,b,d,h,y,a=>by
  obtain⟨e,g⟩:=zhk.1 h.1;have i:=h.2 x (zgQ ..);have j:=d x (zgQ ..);rcases zhh.1 (show y∈(b,x.1-1) :: gaps (x.2+1) r from a) with rfl|a;exact zij _;have:=zeD r (x.2+1) (λz c=>by have:=e z c;omega) ⟨g,λz c=>h.2 z (zgR _ c)⟩ y a;unfold okS at i;omega
theorem zeE:∀(f:List (Int×Int)) (b c:Int),zQ f->(∀x∈f,b<=x.1)->b<=c->c<=1114111->zK (gaps b f) c = !zK f c
 | [],b,c,_,_,g,d=>by
  show zK [(b,1114111)] c=_;rw[inSp_one];simp[zK,in1,g,d]
 |x :: r,b,c,h,o,g,d=>by
  obtain⟨e,q⟩:=zhk.1 h.1;have s:=h.2 x (zgQ ..);have i:zQ r:=⟨q,λy a=>h.2 y (zgR _ a)⟩
  have t:=o x (zgQ ..);show zK ((b,x.1-1) :: gaps (x.2+1) r) c=_;rw[vm,vm];by_cases p:x.2+1<=c;rw[zeE r (x.2+1) c i (λy a=>by have:=e y a;omega) p d];have k:in1 (b,x.1-1) c=Z:=(by rw[zhL,ne_eq,kE];unfold okS at s;simp only;omega);have l:in1 x c=Z:=(by rw[zhL,ne_eq,kE];omega);rw[k,l];simp
  ((have m:zK (gaps (x.2+1) r) c=Z:=by rw[zhL,ne_eq,jt];rintro⟨y,a,j⟩;exact absurd j.1 (by have:=zeD r (x.2+1) (λy a=>by have:=e y a;omega) i y a;omega));have n:zK r c=Z:=by rw[zhL,ne_eq,jt];rintro⟨y,a,j⟩;have:=e y a;omega);rw[m,n,ziu,ziu,zhM,zh9,zhL,ne_eq,kE,kE];simp only;omega
variable {f}
theorem not_ok (h:zQ f)(c:Int):(isCh c && zK (gaps 0 f) c)=(isCh c && !zK f c):=by by_cases a:isCh c=G;rw[zeE f 0 c h (λx b=>(h.2 x b).2.1) (by have:=(Y0 c).1 a;omega) (by have:=(Y0 c).1 a;omega)];simp[a]
end Cs
open Sm (Tree)
namespace Cs
open Eqv (zK wQ kG jZ tkTree)
def kT (T:Tree)(c:Int):Bool:=isCh c && tkTree T c
def zX (a c:Int):Bool:=isCh c && kG a c
def lineL:List (Int×Int):=[(10,10),(13,13),(8232,8233)]
def zce:List (Int×Int):=[(97,122),(65,90),(48,57),(95,95)]
theorem zcf:zK zce c=zK kD c:=by rw[zhM,jt,jt];simp only[zce,kD,zhh,List.not_mem_nil,or_false];constructor;rintro⟨x,rfl|rfl|rfl|rfl,h⟩;exact⟨(97,122),ov,h⟩;exact⟨(65,90),ov,h⟩;exact⟨(48,57),ov,h⟩;exact⟨(95,95),ov,h⟩;rintro⟨x,rfl|rfl|rfl|rfl,h⟩;exact⟨(48,57),ov,h⟩;exact⟨(65,90),ov,h⟩;exact⟨(95,95),ov,h⟩;exact⟨(97,122),ov,h⟩
theorem zdO:(isCh c && zK zce c)=zX 119 c:=by unfold zX kG wQ Ref.setL;rw[iN oa,IN oa];simp[zcf]
theorem zeF:(isCh c && zK [(48,57)] c)=zX 100 c:=by unfold zX kG wQ Ref.setL;rw[IN oa];simp[KY]
theorem zeG:(isCh c && zK XU c)=zX 115 c:=by unfold zX kG wQ Ref.setL;rw[iN oa,iN oa,IN oa];simp
theorem J7 {a b:Int}(h:(a=100/\b=68)\/(a=119/\b=87)\/(a=115/\b=83))(c:Int):(isCh c && !zX a c)=zX b c:=by
 unfold zX kG wQ Ref.setL;rcases h with⟨rfl,rfl⟩|⟨rfl,rfl⟩|⟨rfl,rfl⟩
 grind
 grind
 grind
theorem any_P:(isCh c && !(isCh c && zK lineL c))=kT wP c:=by
 unfold kT tkTree;rw[IN (by rfl)];show _=(isCh c && !zK lineL c)
 cases isCh c<;>simp
theorem char_P:(isCh c && zK [(a,a)] c)=kT (ji a) c:=by unfold kT tkTree;rw[iN (by simp[ji]),IN (by rfl),Eqv.inSp_one];rfl
theorem short_P:zX a c=kT (qJ a) c:=by unfold kT tkTree zX;rw[iN (by simp[qJ]),iN (by simp[qJ]),IN (by rfl)];rfl
variable {R S}
theorem zf4 {b:List (Int×Int)}(d:∀c,zK b c=(S.any λa=>zX a c))(c:Int):(isCh c && zK (R++b) c)=(isCh c && jZ R S c):=by rw[inSp_append,d];unfold jZ zX;cases h:isCh c;rfl;simp
theorem zeH (neg:Bool)(R:List (Int×Int))(S:List Int)(c:Int):kT (vG neg R S) c=(isCh c && (jZ R S c != neg)):=by unfold kT tkTree;rw[iN (by simp[vG]),iN (by simp[vG]),iN (by simp[vG]),IN (by rfl)];rfl
variable (R S)
theorem zf5:(isCh c && !(isCh c && jZ R S c))=kT (vG G R S) c:=by rw[zeH];cases isCh c<;>cases jZ R S c<;>rfl
theorem zf6:(isCh c && jZ R S c)=kT (vG Z R S) c:=by rw[zeH];cases isCh c<;>cases jZ R S c<;>rfl
end Cs
namespace Cs
open Eqv (zK)
theorem zQ.at (h:zQ f){i:Nat}{x:Int×Int}(a:f[i]?=I x):okS x:=h.2 x (zgS a)
theorem zQ.lt (h:zQ f){i j:Nat}{x y:Int×Int}(d:f[i]?=I x)(e:f[j]?=I y)(a:i<j):x.2+1<y.1:=by obtain⟨b,rfl⟩:=zgG.1 d;obtain⟨c,rfl⟩:=zgG.1 e;exact zhE.1 h.1 i j b c a
theorem zQ.le (h:zQ f){i j:Nat}{x y:Int×Int}(a:f[i]?=I x)(b:f[j]?=I y)(k:i<=j):x.1<=y.1/\x.2<=y.2:=by
 by_cases e:i=j
 grind
 have g:=h.lt a b oa;have c:=h.at b;have d:=h.at a;unfold okS at c d;omega
theorem has_iff (h:zQ f){c:Int}{i:Nat}(g:∀(t:Nat) x,t<i->f[t]?=I x->x.2<c)(j:∀(t:Nat) x,i<=t->f[t]?=I x->c<=x.2):zK f c=G↔∃x,f[i]?=I x/\x.1<=c/\c<=x.2:=by
 rw[jt];constructor;rintro⟨x,m,k,l⟩;obtain⟨t,a⟩:=vZ m;by_cases e:t<i;have:=g t x e a;omega;by_cases d:t=i;subst d;exact⟨x,a,k,l⟩;have n:t<f.length:=(zgG.1 a).1;have b:f[i]?=I (f[i]' oa):=zgE oa;have:=h.lt b a oa;have:=j i _ (zgH _) b;omega
 grind
theorem has_left (h:zQ f){c:Int}{m:Nat}{y:Int×Int}(b:f[m]?=I y)(d:y.2<c):∀(t:Nat) x,t<m+1->f[t]?=I x->x.2<c:=λt x e a=>by have:=h.le a b oa;omega
theorem zf7 (h:zQ f){c:Int}{m:Nat}{y:Int×Int}(d:f[m]?=I y)(e:¬y.2<c):∀(t:Nat) x,m<=t->f[t]?=I x->c<=x.2:=λt x a b=>by have:=h.le d b a;omega
def cmpS (x:Int×Int)(c:Int):Int:=if x.2<c then -1 else if x.1 > c then 1 else 0
theorem zcg:cmpS x c<0↔x.2<c:=by unfold cmpS;split;omega;split<;>omega
variable {x c}
theorem Wr:cmpS x c=0↔x.1<=c/\c<=x.2:=by unfold cmpS;split;omega;split<;>omega
end Cs
end
