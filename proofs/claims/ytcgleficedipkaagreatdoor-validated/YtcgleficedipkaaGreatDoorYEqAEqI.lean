/- The reader's letters beside the lexer's bytes. -/
import Derived.Test.YtcgleficedipkaaGreatDoorYRefURefV
import Derived.Test.YtcgleficedipkaaGreatDoorYSemGParC
namespace Go.Proofs.YtcgleficedipkaaGreatDoor
open Option renaming none->U,some->I
open Bool renaming false->Z,true->G
open Or renaming inr->O,inl->Q
open Pro Ref
variable {s:ByteArray}{L:List (Int×Int)}{n p k:Nat}{c:Int}
section
open Go.RowKit
namespace Eqv
def letF (s:ByteArray):Nat->Nat->List (Int×Int)
 |0,_=>[]
 |f+1,p=>if p<s.size then(match xo s p with
   |none=>[]
   |some (n,c)=>((p:Int),c) :: letF s f (p+n)) else []
structure Br (s:ByteArray)(L:List (Int×Int))(n p:Nat):Prop where
 good:Ref.Good s p
 le:n<=L.length
 rest:∃f,s.size<p+f/\L.drop n=letF s f p
theorem Br.step (h:Br s L n p)(d:p<s.size):∃k c,xo s p=I (k,c)/\L[n]?=I ((p:Int),c)/\Br s L (n+1) (p+k):=by
 obtain⟨k,c,b,g⟩:=h.good.next d;obtain⟨f,l,a⟩:=h.rest;obtain⟨f,rfl⟩:∃e,f=e+1:=⟨f-1,oa⟩
 simp only[letF] at a;rw[IN d,b] at a;have j:=Ref.qr b;have m:n<L.length:=by have:(L.drop n).length=L.length-n:=zhH;rw[a] at this;simp only[zg4] at this;omega
 have i:L[n]?=I ((p:Int),c):=by have:(L.drop n)[0]?=L[n+0]?:=zhI;rw[a] at this;simpa using this.symm
 refine⟨k,c,b,i,g,oa,f,oa,?_⟩;rw[<-zhT,a];rfl
theorem Br.stop (h:Br s L n p)(c:¬p<s.size):n=L.length:=by
 obtain⟨f,d,a⟩:=h.rest;have b:letF s f p=[]:=by
  cases f with
  |zero=>rfl
  |succ f=>simp only[letF];rw[iN c]
 have:(L.drop n).length=L.length-n:=zhH;rw[a,b] at this;simp only[zhe] at this;have:=h.le;omega
theorem Br.lt (h:Br s L n p):n<L.length↔p<s.size:=by
 constructor;intro b;by_cases a:p<s.size;exact a;have:=h.stop a;omega;intro a;obtain⟨k,c,_,d,_⟩:=h.step a;by_cases b:n<L.length;exact b
 grind
theorem Br.place (h:Br s L n p):zC L s.size n=p:=by by_cases a:p<s.size;obtain⟨k,c,_,b,_⟩:=h.step a;unfold zC;rw[b];have:=h.stop a;rw[wU oa];have:=h.good.le;omega
theorem zd9 (a:xo s p=I (k,c))(b:zd s p<128):k=1/\c=zd s p:=by
 have d:Ref.headK (zd s p)=1:=by unfold Ref.headK headN;rw[IN b];rfl
 have e:jH (zd s p)=zd s p:=by unfold jH;rw[IN b]
 have f:=(Ref.qr a).2.2.2.1;refine⟨oa,?_⟩;unfold xo at a;split at a;cases a;rw[d,e] at a;simp only[zhV,q9] at a;split at a;cases a
 grind
theorem one_high (a:xo s p=I (k,c))(h:128<=zd s p):128<=c:=by
 have b:=Ref.qr a;have i:k≠1:=by
  rw[b.2.2.2.1];unfold Ref.headK headN;rw[iN oa]
  (repeat' split)<;>decide
 unfold xo at a;split at a;cases a;split at a;cases a;split at a;cases a
 (rename_i d;simp only[Option.some.injEq,Prod.mk.injEq] at a;obtain⟨e,rfl⟩:=a;simp only[Z8,zhD,zhb,decide_eq_true_eq] at d;rw[e] at d;have:128<=jq (k:Int):=by have g:=b.2.2.1;have f:=b.1;have:k=2\/k=3\/k=4:=oa;rcases this with rfl|rfl|rfl<;>decide);omega
theorem Br.letter (h:Br s L n p)(f:p<s.size)(e:xo s p=I (k,c)):zj L n=c/\Br s L (n+1) (p+k):=by obtain⟨i,g,a,b,d⟩:=h.step f;rw[e] at a;simp only[Option.some.injEq,Prod.mk.injEq] at a;obtain⟨rfl,rfl⟩:=a;exact⟨by unfold zj;rw[b],d⟩
theorem Br.ascii (h:Br s L n p)(b:zd s p<128):zj L n=zd s p:=by by_cases a:p<s.size;obtain⟨k,c,e,d,_⟩:=h.step a;unfold zj;rw[d];exact(zd9 e b).2;have:=h.stop a;rw[xZ oa,qw s p oa]
theorem Br.high (h:Br s L n p)(a:128<=zd s p):128<=zj L n:=by have e:p<s.size:=(zw s p).1 oa;obtain⟨k,c,d,b,_⟩:=h.step e;unfold zj;rw[b];exact one_high d a
theorem Br.alike (h:Br s L n p):(zj L n=zd s p/\zd s p<128)\/(128<=zj L n/\128<=zd s p):=by by_cases a:zd s p<128;exact Q ⟨h.ascii a,a⟩;exact O ⟨h.high oa,oa⟩
theorem Br.next (h:Br s L n p)(a:0<=zd s p)(b:zd s p<128):Br s L (n+1) (p+1):=by have f:p<s.size:=(zw s p).1 a;obtain⟨k,c,e,g,d⟩:=h.step f;obtain⟨rfl,_⟩:=zd9 e b;exact d
theorem Br.hexV {s:ByteArray}{L:List (Int×Int)}{n p:Nat}(h:Br s L n p):Pro.hexV (zj L n)=Ref.hexV (zd s p):=by have:Pro.hexV=Ref.hexV:=rfl;rw[this];rcases h.alike with⟨e,_⟩|⟨a,b⟩;rw[e];unfold Ref.hexV;rw[iN oa,iN oa,iN oa,iN oa,iN oa,iN oa]
theorem Br.start (h:Ref.Good s 0):Br s (letF s (s.size+1) 0) 0 0:=⟨h,oa,s.size+1,oa,rfl⟩
def Same (s:ByteArray)(L:List (Int×Int))(o:Pro.Out)(v:Int)(h:St):Prop:=
 (o.k=0->h.e=0/\h.a=0/\v=o.v/\Br s L o.n h.i)/\(o.k≠0->h.e=(o.k:Int)/\h.a=o.p)
end Eqv
namespace Eqv
variable {s:ByteArray} {L:List (Int×Int)}
theorem Br.eqv {n p:Nat}(h:Br s L n p)(k:Int)(d:k<128):zj L n=k↔zd s p=k:=by rcases h.alike with⟨e,_⟩|⟨a,b⟩;rw[e];constructor<;>intro c<;>omega
theorem Br.go {n p:Nat}(h:Br s L n p){k:Int}(c:zd s p=k)(a:0<=k)(b:k<128):Br s L (n+1) (p+1):=h.next oa oa
def st0 (p:Nat):St:=⟨p,0,0⟩
theorem fail0 (p:Nat)(e a:Int):(st0 p).fail e a=⟨p,e,a⟩:=by unfold st0 St.fail;rw[IN rfl]
theorem go0 (p k:Nat):(st0 p).go k=st0 (p+k):=rfl
theorem xm {k n:Nat}{q:Int}{v:Int}{h:St}(d:k≠0)(c:h.e=(k:Int))(b:h.a=q):Same s L (Pro.bad k q n) v h:=⟨λa=>absurd a d,λ_=>⟨c,b⟩⟩
theorem jc {v:Int}{n p:Nat}(h:Br s L n p):Same s L (good v n) v (st0 p):=⟨λ_=>⟨rfl,rfl,rfl,h⟩,λh=>absurd rfl h⟩
theorem Kl:∀(f:Nat) (c:Int) (n p:Nat),Br s L n p->Same s L (yF L s.size f c n) (wL s f c (st0 p)).1 (wL s f c (st0 p)).2
 |0,c,n,p,a=>jc a
 |f+1,c,n,p,a=>by
  by_cases d:Ref.hexV (zd s p)<0;rw[KW (h:=st0 p) d,YJ (by rw[a.hexV];exact d),fail0];exact xm od rfl a.place.symm;have b:0<=Ref.hexV (zd s p):=oa;rw[Je (h:=st0 p) b,ZB (by rw[a.hexV];exact b),a.hexV,go0];have e:48<=zd s p/\zd s p<=102:=(by unfold Ref.hexV at b;(repeat' split at b)<;>omega);exact Kl f _ (n+1) (p+1) (a.next oa oa)
theorem hexd {b:Int}(h:0<=Ref.hexV b):48<=b/\b<=102:=by unfold Ref.hexV at h;(repeat' split at h)<;>omega
theorem Jv:∀(f g:Nat) (c:Int) (d n p:Nat),Br s L n p->L.length<n+f->s.size<p+g->Same s L (xH L s.size f c d n) (qT s g c d (st0 p)).1 (qT s g c d (st0 p)).2
 |0,g,c,d,n,p,a,k,l=>by have:=a.le;omega
 |f+1,0,c,d,n,p,a,k,l=>by have:=a.good.le;omega
 |f+1,g+1,c,d,n,p,a,k,l=>by
  by_cases e:0<d/\zd s p=125;rw[Zn (h:=st0 p) e.1 e.2,Zk e.1 ((a.eqv 125 oa).2 e.2),go0];exact jc (a.go e.2 oa oa);have j:¬(0<d/\zj L n=125):=λm=>e ⟨m.1,(a.eqv 125 oa).1 m.2⟩;by_cases i:Ref.hexV (zd s p)<0\/1114111<16*c+Ref.hexV (zd s p);rw[YR (h:=st0 p) e i,YK j (by rw[a.hexV];exact i),fail0];exact xm od rfl a.place.symm;rw[Z5 (h:=st0 p) e i,Z0 j (by rw[a.hexV];exact i),a.hexV,go0];have q:=hexd (b:=zd s p) oa;have o:=a.next oa oa;exact Jv f g _ (d+1) (n+1) (p+1) o oa oa
theorem Xc:∀(f:Nat) (c:Int) (n p:Nat),Br s L n p->((yF L s.size f c n).k=0->vK s f p c=(yF L s.size f c n).v/\Br s L (yF L s.size f c n).n (p+f))/\((yF L s.size f c n).k≠0->vK s f p c = -1)
 |0,c,n,p,h=>⟨λ_=>⟨rfl,h⟩,λb=>absurd rfl b⟩
 |f+1,c,n,p,h=>by
  by_cases d:Ref.hexV (zd s p)<0;rw[Xm d,YJ (by rw[h.hexV];exact d)];exact⟨λb=>absurd b (by simp[Pro.bad]),λ_=>rfl⟩;have a:0<=Ref.hexV (zd s p):=oa;rw[Z6 a,ZB (by rw[h.hexV];exact a),h.hexV];have e:=hexd a;have:=Xc f (16*c+Ref.hexV (zd s p)) (n+1) (p+1) (h.next oa oa);rw[show p+(f+1)=p+1+f by omega];exact this
theorem WP {n p:Nat}(h:Br s L n p)(d:zd s p=92)(e:zd s (p+1)=117):xx s p=(if(yF L s.size 4 0 (n+2)).k=0 then(yF L s.size 4 0 (n+2)).v else -1):=by have f:=(h.go d oa oa).go e oa oa;have b:=Xc 4 0 (n+2) (p+2) f;by_cases a:(yF L s.size 4 0 (n+2)).k=0;rw[IN a];have:=(b.1 a).2.good.le;rw[Jf oa];exact(b.1 a).1;rw[iN a];by_cases c:s.size<p+6\/zd s p≠92\/zd s (p+1)≠117;exact wu c;rw[Jf c];exact b.2 a
theorem low_same {n p:Nat}(h:Br s L n p):j6 L s.size n=(if 56320<=xx s p/\xx s p<=57343 then xx s p else -1):=by by_cases a:zd s p=92;have d:=h.go a oa oa;by_cases b:zd s (p+1)=117;rw[WP h a b];unfold j6;have e:=(h.eqv 92 oa).2 a;have f:=(d.eqv 117 oa).2 b;by_cases g:(yF L s.size 4 0 (n+2)).k=0;omega;omega;rw[wu (O (O b)),iN oa];unfold j6;rw[iN (λc=>b ((d.eqv 117 oa).1 c.2.1))];rw[wu (O (Q a)),iN oa];unfold j6;rw[iN (λc=>a ((h.eqv 92 oa).1 c.1))]
end Eqv
namespace Eqv
variable {s:ByteArray} {L:List (Int×Int)}
theorem VN {x:Int}(h:128<=x):Pro.sign x=Z:=by unfold Pro.sign;simp;omega
theorem zff (x:Int):Pro.sign x=signB x:=rfl
theorem zaX (x:Int):ctlV x=yT x:=rfl
theorem zaY {x:Int}(h:128<=x):¬0<=ctlV x:=by unfold ctlV;(repeat' split)<;>omega
theorem zc2 {x:Int}(h:128<=x):kB x=Z:=by unfold kB;simp[VN h,zaY h]
theorem zc3 {x:Int}(h:Pro.sign x=G):36<=x/\x<=125/\x≠48/\x≠99/\x≠120/\x≠117:=by unfold Pro.sign at h;simp at h;omega
theorem zfg {x:Int}(h:0<=ctlV x):x=116\/x=110\/x=118\/x=102\/x=114:=by unfold ctlV at h;(repeat' split at h)<;>omega
theorem WQ {m q:Nat}(h:Br s L m q)(z:zd s q=92)(y:zd s (q+1)=117):Same s L (if zj L (m+2)=123 then ku L s.size (m+3) else ym L s.size (m+2)) (xy s (st0 (q+1))).1 (xy s (st0 (q+1))).2:=by
 have S:=h.go z oa oa;have c:=S.go y oa oa;by_cases g:zd s (q+2)=123;have r:=c.go g oa oa;rw[IN ((c.eqv 123 oa).2 g)];unfold xy;rw[IN (show zd s ((st0 (q+1)).i+1)=123 from g)];unfold vo ku;have e:=r.le;have hg:=r.good.le;exact Jv _ _ 0 0 (m+3) (q+3) r oa (by show s.size<q+3+(s.size+1-(q+1+2));omega);rw[iN (λu=>g ((c.eqv 123 oa).1 u))];unfold xy;rw[iN (show ¬zd s ((st0 (q+1)).i+1)=123 from g)];have d:=WP h z y;have u:=Xc 4 0 (m+2) (q+2) c;have x:=Kl (s:=s) (L:=L) 4 0 (m+2) (q+2) c;have f:xx s ((st0 (q+1)).i-1)=xx s q:=rfl;have p:xx s ((st0 (q+1)).i+5)=xx s (q+6):=rfl;by_cases j:(yF L s.size 4 0 (m+2)).k=0
 .have B:=(u.1 j).2;have w:=(YL L s.size 4 0 (m+2) c.le).2.2 j;have t:Br s L (m+6) (q+6):=(by rw[w] at B;exact B);have n:=low_same t;rw[IN j] at d;by_cases P:55296<=(yF L s.size 4 0 (m+2)).v/\(yF L s.size 4 0 (m+2)).v<=56319
  .by_cases e:56320<=xx s (q+6)/\xx s (q+6)<=57343
   ·(have a:ZD s (st0 (q+1))=G:=(by unfold ZD;rw[f,p,d];simp[P.1,P.2,e.1,e.2]);rw[IN e] at n;rw[IN a,f,p,d];have b:ym L s.size (m+2)=good (65536+((yF L s.size 4 0 (m+2)).v-55296)*1024+(xx s (q+6)-56320)) (m+6+6):=by unfold ym;rw[iN oa,w,show m+2+4=m+6 by omega,n,IN oa]);rw[b];have ab:0<=j6 L s.size (m+6):=(by rw[n];omega);have o:zd s (q+6)=92/\zd s (q+7)=117:=by
     by_cases X:s.size<q+6+6\/zd s (q+6)≠92\/zd s (q+6+1)≠117;rw[wu X] at e;omega
     grind
    (have F:=(t.go o.1 oa oa).go o.2 oa oa;have T:=Xc 4 0 (m+6+2) (q+6+2) F;have l:(yF L s.size 4 0 (m+6+2)).k=0:=by by_cases l:(yF L s.size 4 0 (m+6+2)).k=0;exact l;have:=WP t o.1 o.2;rw[iN l] at this;omega);have N:=(T.1 l).2;have W:=(YL L s.size 4 0 (m+6+2) F.le).2.2 l;rw[W] at N;rw[go0];refine⟨λ_=>⟨rfl,rfl,?_,N⟩,λh=>absurd rfl h⟩;show 65536+(_-55296)*1024+xx s (q+6)-56320=65536+(_-55296)*1024+(xx s (q+6)-56320)
    omega
   (have a:¬ZD s (st0 (q+1))=G:=(by unfold ZD;rw[f,p];simp;intro _ _;omega);rw[iN e] at n;rw[iN a];have b:ym L s.size (m+2)=yF L s.size 4 0 (m+2):=by unfold ym;rw[iN oa,w,show m+2+4=m+6 by omega,n,iN oa]);rw[b];exact x
  (have a:¬ZD s (st0 (q+1))=G:=(by unfold ZD;rw[f,d];simp;omega);rw[iN a];have b:ym L s.size (m+2)=yF L s.size 4 0 (m+2):=by unfold ym;rw[IN oa]);rw[b];exact x
 (rw[iN j] at d;have a:¬ZD s (st0 (q+1))=G:=(by unfold ZD;rw[f,d];simp);rw[iN a];have b:ym L s.size (m+2)=yF L s.size 4 0 (m+2):=by unfold ym;rw[IN (Q j)]);rw[b];exact x
end Eqv
namespace Eqv
variable {s:ByteArray} {L:List (Int×Int)}
theorem num_same (cls:Bool){m q:Nat}(h:Br s L m q)(h92:zd s q=92)(hcl:cls=true->zd s (q+1)≠45/\zd s (q+1)≠98):Same s L (vE L s.size (m+1)) (zL s cls (st0 (q+1))).1 (zL s cls (st0 (q+1))).2:=by
 have h1:=h.go h92 oa oa;have hi:(st0 (q+1)).i=q+1:=rfl;have hbad:∀(hs:kB (zj L (m+1))=false) (k1:zd s (q+1)≠48) (k2:zd s (q+1)≠99) (k3:zd s (q+1)≠120) (k4:zd s (q+1)≠117) (hc:¬0<=yT (zd s (q+1))) (hg:signB (zd s (q+1))=false),
   Same s L (vE L s.size (m+1)) (zL s cls (st0 (q+1))).1 (zL s cls (st0 (q+1))).2:=by
  intro hs k1 k2 k3 k4 hc hg;have n1:=fun e=>k1 ((h1.eqv 48 oa).1 e);have n2:=fun e=>k2 ((h1.eqv 99 oa).1 e);have n3:=fun e=>k3 ((h1.eqv 120 oa).1 e);have n4:=fun e=>k4 ((h1.eqv 117 oa).1 e);unfold vE zL;rw[hi,iN (by simp[hs]),iN n1,iN n2,iN n3,iN (fun hh=>n4 hh.1),iN n4,iN hc,iN k1,iN k2,iN k3,iN k4,iN (by
   rintro(hh |⟨hh,he⟩)
   ·rw[hg] at hh;cases hh
   ·exact(hcl hh).1 he),iN (fun hh=>(hcl hh.1).2 hh.2),fail0]
  exact xm od rfl h1.place.symm
 rcases h1.alike with⟨e,hb⟩ |⟨hhi,hbi⟩
 ·cases hs:kB (zj L (m+1))
  ·have hc:¬0<=yT (zd s (q+1)):=(by rw[e] at hs;unfold kB at hs;simp at hs;rw[<-zaX];omega);have hg:signB (zd s (q+1))=false:=(by rw[e] at hs;unfold kB at hs;simp at hs;exact hs.2);by_cases k1:zd s (q+1)=48
   ·have h2:=h1.go k1 oa oa;unfold vE zL;rw[hi,iN (by simp[hs]),IN ((h1.eqv 48 oa).2 k1),iN hc,IN k1];unfold vJ dig;rcases h2.alike with⟨e2,hb2⟩ |⟨hh2,hb2⟩
    ·rw[e2];by_cases hd:48<=zd s (q+1+1)/\zd s (q+1+1)<=57
     ·rw[IN (by simp[hd.1,hd.2]),IN hd,go0,fail0];exact xm od rfl h2.place.symm
     ·rw[iN ou,iN hd,go0];exact jc h2
    ·rw[iN ou,iN oa,go0];exact jc h2
   ·by_cases k2:zd s (q+1)=99
    ·have h2:=h1.go k2 oa oa;unfold vE zL;rw[hi,iN (by simp[hs]),iN (by rw[e];exact k1),IN ((h1.eqv 99 oa).2 k2),iN hc,iN k1,IN k2];unfold xN;rcases h2.alike with⟨e2,hb2⟩ |⟨hh2,hb2⟩
     ·rw[e2];by_cases hd:(97<=zd s (q+1+1)/\zd s (q+1+1)<=122)\/(65<=zd s (q+1+1)/\zd s (q+1+1)<=90)
      ·rw[IN (show Pro.letter _ from hd),IN hd,go0];exact jc (h2.next oa oa)
      ·rw[iN (show ¬Pro.letter _ from hd),iN hd,go0,fail0];exact xm od rfl h2.place.symm
     ·rw[iN (show ¬Pro.letter _ by unfold Pro.letter;omega),iN oa,go0,fail0];exact xm od rfl h2.place.symm
    ·by_cases k3:zd s (q+1)=120
     ·have h2:=h1.go k3 oa oa;unfold vE zL;rw[hi,iN (by simp[hs]),iN (by rw[e];exact k1),iN (by rw[e];exact k2),IN ((h1.eqv 120 oa).2 k3),iN hc,iN k1,iN k2,IN k3,go0];exact Kl 2 0 (m+2) (q+2) h2
     ·by_cases k4:zd s (q+1)=117
      ·have hu:=WQ h h92 k4;unfold vE zL;rw[hi,iN (by simp[hs]),iN (by rw[e];exact k1),iN (by rw[e];exact k2),iN (by rw[e];exact k3),iN hc,iN k1,iN k2,iN k3,IN k4];have e117:=(h1.eqv 117 oa).2 k4;by_cases h123:zj L (m+2)=123
       ·rw[IN h123] at hu;rw[IN ⟨e117,h123⟩];exact hu
       ·rw[iN h123] at hu;rw[iN (fun hh=>h123 hh.2),IN e117];exact hu
      ·exact hbad hs k1 k2 k3 k4 hc hg
  ·unfold vE zL;rw[hi,IN hs,e];by_cases hc:0<=yT (zd s (q+1))
   ·have hcs:=zfg hc;rw[IN hc,go0];have:vD (zd s (q+1))=yT (zd s (q+1)):=(by unfold vD;rw[IN (show 0<=ctlV _ from hc)];rfl);rw[this];exact jc (h1.next oa oa)
   ·have hg:Pro.sign (zd s (q+1))=true:=(by rw[e] at hs;unfold kB at hs;simp at hs;rcases hs with hs |hs;exact absurd hs hc;exact hs);have hcs:=zc3 hg;rw[iN hc,iN hcs.2.2.1,iN hcs.2.2.2.1,iN hcs.2.2.2.2.1,iN hcs.2.2.2.2.2,IN (.inl hg),go0];have:vD (zd s (q+1))=zd s (q+1):=(by unfold vD;rw[iN (show ¬0<=ctlV _ from hc)]);rw[this];exact jc (h1.next oa oa)
 ·exact hbad (zc2 hhi) oa oa oa oa (by rw[<-zaX];exact zaY hbi) (by rw[<-zff];exact VN hbi)
theorem Qi (x:Int):jj x=G↔Ref.setL x≠[]:=by
 unfold jj Ref.setL;simp only[List.any_cons,List.any_nil,ziu,zhD,decide_eq_true_eq];constructor
 .intro h
  (repeat' split)<;>first|(intro a;cases a;done)|omega
 intro h
 (repeat' split at h)<;>first|omega|exact absurd rfl h
theorem QZ (x:Int):Pro.backB x=Ref.backB x:=by
 have:(Pro.backB x=G)↔(Ref.backB x=G):=by unfold Pro.backB Ref.backB;simp;omega
 cases h1:Pro.backB x<;>cases h2:Ref.backB x<;>simp_all
theorem Km {x:Int}(h:128<=x\/x<0):jj x=Z:=by unfold jj;simp;omega
theorem VO {x:Int}(h:128<=x\/x<0):Pro.backB x=Z:=by unfold Pro.backB;simp;omega
theorem Kn {x:Int}(h:jj x=G):Pro.backB x=Z/\68<=x/\x<=119/\x≠98/\x≠45:=by unfold jj at h;unfold Pro.backB;simp at h ⊢;omega
theorem Ko (cls:Bool){m q:Nat}(h:Br s L m q)(r:zd s q=92)(u:cls=G->zd s (q+1)≠45/\zd s (q+1)≠98):Same s L (xO L s.size m) (xO L s.size m).v (zI s cls (st0 q)).2.2/\((xO L s.size m).k=0->(zI s cls (st0 q)).2.1 = !jj (zj L (m+1))/\((zI s cls (st0 q)).2.1=G->(zI s cls (st0 q)).1=⟨Z,[((xO L s.size m).v,(xO L s.size m).v)]⟩)):=by
 have l:=h.go r oa oa;have o:(st0 q).i=q:=rfl;have j:jj (zj L (m+1))=jj (zd s (q+1)):=by rcases l.alike with⟨e,_⟩|⟨a,b⟩;rw[e];rw[Km (Q a),Km (Q b)]
 have t:Pro.backB (zj L (m+1))=Ref.backB (zd s (q+1)):=by rw[<-QZ];rcases l.alike with⟨e,_⟩|⟨a,b⟩;rw[e];rw[VO (Q a),VO (Q b)]
 cases hs:jj (zd s (q+1))
 .have w:¬Ref.setL (zd s (q+1))≠[]:=λn=>by rw[(Qi _).2 n] at hs;cases hs
  cases d:Ref.backB (zd s (q+1))
  (have f:xO L s.size m=vE L s.size (m+1):=(by unfold xO;rw[j,t,hs,d];simp);have g:zI s cls (st0 q)=(⟨Z,[((zL s cls (st0 (q+1))).1,(zL s cls (st0 (q+1))).1)]⟩,G,(zL s cls (st0 (q+1))).2):=by unfold zI;rw[o,d,iN ov,iN w,go0]);have p:=num_same cls h r u;rw[f,g,j,hs];refine⟨⟨λc=>?_,p.2⟩,λc=>⟨rfl,λ_=>?_⟩⟩;have:=p.1 c;exact⟨this.1,this.2.1,rfl,this.2.2.2⟩;have:=(p.1 c).2.2.1;rw[this];have f:xO L s.size m=Pro.bad 6 (zC L s.size m) (m+1):=(by unfold xO;rw[j,t,hs,d];simp);have g:(zI s cls (st0 q)).2.2=⟨q+1,6,q⟩:=(by unfold zI;rw[o,IN d,go0,fail0]);rw[f,g];exact⟨xm od rfl h.place.symm,λc=>absurd c (by simp[Pro.bad])⟩
 have x:=Kn hs;have d:Ref.backB (zd s (q+1))=Z:=by rw[<-QZ];exact x.1
 have f:xO L s.size m=good (zj L (m+1)) (m+2):=by unfold xO;rw[j,hs,IN rfl]
 have g:zI s cls (st0 q)=(⟨decide (zd s (q+1)<97),Ref.setL (zd s (q+1))⟩,Z,st0 (q+2)):=by unfold zI;rw[o,iN (by simp[d]),IN ((Qi _).1 hs),go0]
 rw[f,g,j,hs];exact⟨⟨λ_=>⟨rfl,rfl,rfl,l.next oa oa⟩,λc=>absurd rfl c⟩,λ_=>⟨rfl,λn=>by cases n⟩⟩
theorem vu {m q:Nat}(h:Br s L m q)(x:q<s.size):Same s L (zp L s.size m) (zp L s.size m).v (zq s (st0 q)).2.2/\((zp L s.size m).k=0->(zq s (st0 q)).2.1 = !many L m/\((zq s (st0 q)).2.1=G->(zq s (st0 q)).1=⟨Z,[((zp L s.size m).v,(zp L s.size m).v)]⟩)):=by
 have o:(st0 q).i=q:=rfl;by_cases d:zd s q=92
 .have g:=h.go d oa oa;have f:=(h.eqv 92 oa).2 d;have y:many L m=jj (zj L (m+1)):=QC f;have u:zq s (st0 q)=zI s G (st0 q):=by unfold zq;rw[o,IN d]
  by_cases b:zd s (q+1)=98\/zd s (q+1)=45
  ((have N:zd s (q+1)<128:=oa;have e:=g.ascii N;have t:jj (zd s (q+1))=Z:=(by rcases b with a|a<;>rw[a]<;>decide);have W:¬Ref.setL (zd s (q+1))≠[]:=λa=>(by rw[(Qi _).2 a] at t;cases t);have F:Ref.backB (zd s (q+1))=Z:=(by rcases b with a|a<;>rw[a]<;>decide);have n:zI s G (st0 q)=(⟨Z,[((zL s G (st0 (q+1))).1,(zL s G (st0 (q+1))).1)]⟩,G,(zL s G (st0 (q+1))).2):=by unfold zI;rw[o,F,iN ov,iN W,go0]);have r:∃v,zL s G (st0 (q+1))=(v,st0 (q+2))/\zp L s.size m=good v (m+2):=by have w:(st0 (q+1)).i=q+1:=rfl;rcases b with a|a;refine⟨8,?_,?_⟩;unfold zL;rw[w,a,iN od,iN od,iN od,iN od,iN od,iN od,IN ⟨rfl,rfl⟩,go0];unfold zp;rw[IN ⟨f,by rw[e];exact a⟩];refine⟨45,?_,?_⟩;unfold zL;rw[w,a,iN od,iN od,iN od,iN od,iN od,IN (O ⟨rfl,rfl⟩),go0];unfold zp;rw[iN (λB=>by rw[e,a] at B;exact absurd B.2 od),IN ⟨f,by rw[e];exact a⟩]);obtain⟨v,S,T⟩:=r;rw[u,n,S,T,y,e,t];exact⟨⟨λ_=>⟨rfl,rfl,rfl,g.next oa oa⟩,λp=>absurd rfl p⟩,λ_=>⟨rfl,λ_=>rfl⟩⟩
  (have l:zp L s.size m=xO L s.size m:=by unfold zp;rw[iN (λa=>b (Q ((g.eqv 98 oa).1 a.2))),iN (λa=>b (O ((g.eqv 45 oa).1 a.2))),IN f]);rw[l,u,y];exact Ko G h d (λ_=>⟨λa=>b (O a),λa=>b (Q a)⟩)
 have j:¬zj L m=92:=λa=>d ((h.eqv 92 oa).1 a);obtain⟨k,c,z,X,r⟩:=h.step x;have P:=(h.letter x z).1;have l:zp L s.size m=good c (m+1):=by unfold zp;rw[iN (λa=>j a.1),iN (λa=>j a.1),iN j,P]
 have n:zq s (st0 q)=(⟨Z,[(c,c)]⟩,G,st0 (q+k)):=by unfold zq;rw[o,iN d,z];rfl
 rw[l,n,zeq j];exact⟨⟨λ_=>⟨rfl,rfl,rfl,r⟩,λp=>absurd rfl p⟩,λ_=>⟨rfl,λ_=>rfl⟩⟩
end Eqv
namespace Eqv
variable {s:ByteArray} {L:List (Int×Int)}
theorem ZS {h:St}(b:h.e=0)(a:h.a=0):h=st0 h.i:=by cases h;simp only at b a;subst b;subst a;rfl
theorem fail_nz {h:St}(b:h.e≠0)(e a:Int):h.fail e a=h:=by unfold St.fail;rw[iN b]
theorem zc4:∀(g:Nat) (ps:List Pt) (h:St),h.e≠0->(yQ s g ps h).2.e=h.e/\(yQ s g ps h).2.a=h.a
 |0,ps,h,b=>⟨rfl,rfl⟩
 |g+1,ps,h,b=>by rw[vh (λc=>b c.1)];exact⟨rfl,rfl⟩
theorem VP {n p:Nat}(h:Br s L n p):jN L n=jK s (st0 p):=by
 have j:(st0 p).i=p:=rfl;unfold jN jK;rw[j];by_cases a:zd s p=45
 .have f:=h.go a oa oa;have c:=(h.eqv 45 oa).2 a;have e:=f.eqv 93 oa;have g:=f.eqv (-1) oa;have o:=zw s (p+1);have q:=jw s (p+1);by_cases b:zd s (p+1)=93<;>by_cases k:p+1<s.size;simp[c,a,e.2 b,b];simp[c,a,e.2 b,b];have l:¬zj L (n+1) = -1:=λd=>(by have:=g.1 d;omega);have m:¬zj L (n+1)=93:=λd=>b (e.1 d);simp[c,a,b,k,l,m,st0]
  grind
 have c:¬zj L n=45:=λd=>a ((h.eqv 45 oa).1 d);simp[c,a]
theorem ZT {n m p q:Nat}(f:Br s L n p)(b:Br s L m q)(w:q<=p):m<=n:=by
 by_cases l:m<=n;exact l;exfalso;have key:∀k n p,Br s L n p->n+k<=L.length->∃r,Br s L (n+k) r/\p+k<=r:=by
  intro k
  induction k with
  |zero=>intro n p h _;exact⟨p,h,oa⟩
  |succ k u=>
   intro n p h v;have t:p<s.size:=h.lt.1 oa;obtain⟨j,c,o,_,i⟩:=h.step t;obtain⟨r,a,g⟩:=u (n+1) (p+j) i oa;have:=Ref.qr o;exact⟨r,by rw[show n+(k+1)=n+1+k by omega];exact a,oa⟩
 obtain⟨r,a,g⟩:=key (m-n) n p f (by have:=b.le;omega);rw[show n+(m-n)=m by omega] at a;have d:=a.place;have e:=b.place;rw[d] at e;omega
theorem ZU:∀(f g:Nat) (ps:List Pt) (n p:Nat),Br s L n p->L.length<n+f->s.size<p+g->Same s L (qS L s.size f n) 1 (yQ s g ps (st0 p)).2
 |0,g,ps,n,p,h,hf,hg=>by have:=h.le;omega
 |f+1,0,ps,n,p,h,hf,hg=>by have:=h.good.le;omega
 |f+1,g+1,ps,n,p,h,hf,hg=>by
  simp only[qS];by_cases q:zd s p=93;rw[IN ((h.eqv 93 oa).2 q),vh (λa=>a.2 q),go0];exact jc (h.go q oa oa);have m:(st0 p).e=0/\zd s (st0 p).i≠93:=⟨rfl,q⟩
  rw[iN (λa=>q ((h.eqv 93 oa).1 a))];by_cases w:p<s.size
  .have aj:=h.lt.2 w;have ah:=(zw s p).2 w;have r:¬zd s (st0 p).i<0:=(by show ¬zd s p<0;omega);rw[iN oa];have z:=vu h w;have ar:=jQ (L:=L) (T:= s.size) n aj;by_cases b:(zp L s.size n).k=0
   .obtain⟨m1,m2,_,j⟩:=z.1.1 b;obtain⟨F,ak⟩:=z.2 b;have x:=ZS m1 m2;have u:=VP j;cases hdd:jN L (zp L s.size n).n
    (rw[hdd] at u;have c:qD L s.size n=zp L s.size n:=(by unfold qD;rw[iN (by simp[b]),iN (by simp[hdd])]);rw[c,iN (by simp[b]),wC m r (by rw[x,<-u];simp),x];have ai:p<(zq s (st0 p)).2.2.i:=by have:=j.good.le;by_cases a:p<(zq s (st0 p)).2.2.i;exact a;exfalso;have:=ZT h j oa;omega);exact ZU f g _ _ _ j oa oa
    (rw[hdd] at u;have y:=Xl hdd;have ag:=(j.eqv 45 oa).1 y.1;have W:=j.go ag oa oa;have am:(zq s (st0 p)).2.2.i+1<s.size:=by by_cases a:(zq s (st0 p)).2.2.i+1<s.size;exact a;exact absurd ((W.eqv (-1) oa).2 (qw _ _ oa)) y.2.2);have B:=vu W am;have l:(zq s (st0 p)).2.2.go 1=st0 ((zq s (st0 p)).2.2.i+1):=(by rw[x];rfl);have N:jK s (zq s (st0 p)).2.2=G:=(by rw[x];exact u.symm);have au:=jQ (L:=L) (T:= s.size) ((zp L s.size n).n+1) (QD y.2.2);by_cases d:(zp L s.size ((zp L s.size n).n+1)).k=0
    ·(obtain⟨S,p2,_,X⟩:=B.1.1 d;obtain⟨P,al⟩:=B.2 d;have af:=ZS S p2;have aa:badB (zq s (st0 p)).1 (zq s ((zq s (st0 p)).2.2.go 1)).1 (zq s (st0 p)).2.1 (zq s ((zq s (st0 p)).2.2.go 1)).2.1=G↔(many L n=G\/many L ((zp L s.size n).n+1)=G\/(zp L s.size ((zp L s.size n).n+1)).v<(zp L s.size n).v):=by rw[l];unfold badB;rw[F,P];cases q1:many L n;cases q2:many L ((zp L s.size n).n+1);rw[q1] at F;rw[q2] at P;rw[ak F,al P];simp[loOf];exact decide_eq_true_iff;simp;simp);by_cases t:many L n=G\/many L ((zp L s.size n).n+1)=G\/(zp L s.size ((zp L s.size n).n+1)).v<(zp L s.size n).v
     (have c:qD L s.size n=Pro.bad 4 (zC L s.size (zp L s.size n).n) (zp L s.size ((zp L s.size n).n+1)).n:=by unfold qD;rw[iN (by simp[b]),IN hdd];unfold xU;rw[iN (by simp[d]),IN t]);rw[c,IN (by simp[Pro.bad]),XW m r N (by rw[l];exact S) (aa.2 t),l,af,fail0];exact xm od rfl j.place.symm
     ((have c:qD L s.size n=zp L s.size ((zp L s.size n).n+1):=by unfold qD;rw[iN (by simp[b]),IN hdd];unfold xU;rw[iN (by simp[d]),iN t]);rw[c,iN (by simp[d]),vR m r N (by rw[l];exact S) (λa=>t (aa.1 a)),l,af];have ai:p<(zq s (st0 ((zq s (st0 p)).2.2.i+1))).2.2.i:=by by_cases a:p<(zq s (st0 ((zq s (st0 p)).2.2.i+1))).2.2.i;exact a;exfalso;have:=ZT h X oa;omega);exact ZU f g _ _ _ X oa oa
    (have c:qD L s.size n=zp L s.size ((zp L s.size n).n+1):=by unfold qD;rw[iN (by simp[b]),IN hdd];unfold xU;rw[IN d]);have o:=B.1.2 d;rw[c,IN d,YU m r N (by rw[l,o.1];omega),l];exact⟨λa=>absurd a d,λ_=>o⟩
   have c:qD L s.size n=zp L s.size n:=(by unfold qD;rw[IN b]);have o:=z.1.2 b;have ae:(zq s (st0 p)).2.2.e≠0:=(by rw[o.1];omega);rw[c,IN b,wC m r (by unfold jK;simp[ae])];have ab:=zc4 (s:=s) g (ps++[(zq s (st0 p)).1]) (zq s (st0 p)).2.2 ae;exact⟨λa=>absurd a b,λ_=>⟨by rw[ab.1];exact o.1,by rw[ab.2];exact o.2⟩⟩
  have ah:zd s p = -1:=qw s p oa;have aq:=h.stop w;rw[IN oa,YT m (by show zd s p<0;omega),fail0];exact xm od rfl (by have:=h.good.le;show(p:Int)=( s.size:Int);omega)
end Eqv
namespace Eqv
variable {s:ByteArray} {L:List (Int×Int)}
theorem zaZ {n p:Nat}(h:Br s L n p):dig (zj L n)=jJ (zd s p):=by
 unfold dig jJ;rcases h.alike with⟨e,_⟩|⟨a,b⟩;rw[e]
 grind
theorem digb {b:Int}(h:jJ b=G):48<=b/\b<=57:=by unfold jJ at h;simpa using h
theorem YA:∀(f g:Nat) (c d:Int) (n p:Nat),Br s L n p->L.length<n+f->s.size<p+g->0<=d->c=min d 101->
  (Pro.countL L f c n).1=min (Ref.countL s g d (st0 p)).1 101/\0<=(Ref.countL s g d (st0 p)).1/\(Ref.countL s g d (st0 p)).2=st0 (Ref.countL s g d (st0 p)).2.i/\Br s L (Pro.countL L f c n).2 (Ref.countL s g d (st0 p)).2.i/\p<=(Ref.countL s g d (st0 p)).2.i
 |0,g,c,d,n,p,a,k,l,j,e=>by have:=a.le;omega
 |f+1,0,c,d,n,p,a,k,l,j,e=>by have:=a.good.le;omega
 |f+1,g+1,c,d,n,p,a,k,l,j,e=>by
  have b:=zaZ a;cases hb:jJ (zd s p)
  .rw[hb] at b;rw[Ref.countL_stop (h:=st0 p) hb,Pro.countL_stop b];exact⟨e,j,rfl,a,zgH _⟩
  .rw[hb] at b;have q:=digb hb;have o:zj L n=zd s p:=a.ascii oa;rw[Ref.countL_go (h:=st0 p) hb,Pro.countL_go b,o,go0];have m:(st0 p).i=p:=rfl;rw[m];have:=YA f g (min (c*10+(zd s p-48)) 101) (if d<=100 then 10*d+zd s p-48 else d) (n+1) (p+1) (a.next oa oa) oa oa (by split<;>omega) (by split<;>omega);exact⟨this.1,this.2.1,this.2.2.1,this.2.2.2.1,by have:=this.2.2.2.2;omega⟩
theorem Kp {n p:Nat}(a:Br s L n p):Same s L (yx L s.size n) (Ref.zU s (st0 p)).1 (Ref.zU s (st0 p)).2:=by
 have y:=a.le;have w:=a.good.le;have e:(st0 p).i=p:=rfl;have m:=YA (L.length+1-n) (s.size+1-p) 0 0 n p a oa oa oa oa;have j:ww s (st0 p)=Ref.countL s (s.size+1-p) 0 (st0 p):=rfl;have k:countP L n=Pro.countL L (L.length+1-n) 0 n:=rfl;have b:=zaZ a;have l:=jF (s:=s) (h:=st0 p) (n:=(ww s (st0 p)).1) (st':=(ww s (st0 p)).2) rfl;rw[l,j,e];unfold yx;rw[k];cases hb:jJ (zd s p)
 .rw[hb] at b;have q:Ref.countL s (s.size+1-p) 0 (st0 p)=(0,st0 p):=by rw[show s.size+1-p=(s.size-p)+1 by omega];exact Ref.countL_stop (h:=st0 p) hb
  rw[IN b,q];rw[iN (show ¬(100:Int)<((0:Int),st0 p).1 from(by decide:¬(100:Int)<0)),IN (show((0:Int),st0 p).2.i=p from rfl)];show Same s L _ 0 ((st0 p).fail 3 p);rw[fail0];exact xm od rfl a.place.symm
 rw[hb] at b;rw[iN (by simp[b])];have z:=digb hb;have x:p<(Ref.countL s (s.size+1-p) 0 (st0 p)).2.i:=by rw[show s.size+1-p=(s.size-p)+1 by omega,Ref.countL_go (h:=st0 p) hb,go0];have:=YA (L.length+1-(n+1)) (s.size-p) (min (if(0:Int)<=100 then 10*0+zd s (st0 p).i-48 else 0) 101) (if(0:Int)<=100 then 10*0+zd s (st0 p).i-48 else 0) (n+1) (p+1) (a.next oa oa) (by have:=a.lt.2 ((zw s p).1 oa);omega) (by have:=(zw s p).1 oa;omega) (by rw[IN od,e];omega) rfl;have:=this.2.2.2.2;omega
 generalize Ref.countL s (s.size+1-p) 0 (st0 p)=r at *;generalize Pro.countL L (L.length+1-n) 0 n=t at *;obtain⟨f,u,c,g,v⟩:=m;rw[f];by_cases d:100<r.1;rw[IN oa,IN d,iN oa,c,fail0];exact xm od rfl a.place.symm;rw[iN oa,iN d,iN oa,c];exact⟨λ_=>⟨rfl,rfl,by show r.1=min r.1 101;omega,g⟩,λo=>absurd rfl o⟩
def SameQ (s:ByteArray)(L:List (Int×Int))(o:Pro.Out)(n:Nat)(mx:Int)(r:Int×Int×St):Prop:=(o.k=0->r.1=o.v/\r.2.1=mx/\r.2.2=st0 r.2.2.i/\Br s L n r.2.2.i)/\(o.k≠0->r.2.2.e=(o.k:Int)/\r.2.2.a=o.p)
theorem za0 {n p:Nat}(h:Br s L n p)(hb:zd s p=123):SameQ s L (yi L s.size n).1 (yi L s.size n).1.n (yi L s.size n).2 (yz s (st0 p)):=by
 have z:=h.go hb oa oa;have B:=Kp z;have af:=jV (L:=L) (T:= s.size) (n+1) z.le;have hi:(st0 p).i=p:=rfl;unfold yi yz;simp only[];rw[go0,hi];by_cases v:(yx L s.size (n+1)).k=0;obtain⟨N,P,S,g⟩:=B.1 v;have ac:=ZS N P;rw[iN (by simp[v]),S,ac];generalize (Ref.zU s (st0 (p+1))).2.i=b at *;generalize yx L s.size (n+1)=d at *;by_cases r:zd s b=125;have f:Ref.qB s d.v (st0 b)=(d.v,st0 b):=(by unfold Ref.qB;rw[iN (λa=>by have:zd s b=44:=a.2;omega)]);have c:yD s (st0 b)=st0 b:=(by unfold yD;rw[iN (λa=>a.2 r)]);rw[IN ((g.eqv 125 oa).2 r),f,c,go0,iN oa];exact⟨λ_=>⟨rfl,rfl,rfl,g.go r oa oa⟩,λa=>absurd rfl a⟩;rw[iN (λa=>r ((g.eqv 125 oa).1 a))];by_cases l:zd s b=44;rw[iN (by simp;exact(g.eqv 44 oa).2 l)];have q:=g.go l oa oa;by_cases j:zd s (b+1)=125;have f:Ref.qB s d.v (st0 b)=(-1,st0 (b+1)):=(by unfold Ref.qB;rw[IN ⟨rfl,l⟩,IN (show zd s ((st0 b).i+1)=125 from j),go0]);have c:yD s (st0 (b+1))=st0 (b+1):=(by unfold yD;rw[iN (λa=>a.2 j)]);rw[IN ((q.eqv 125 oa).2 j),f,c,go0,iN oa];exact⟨λ_=>⟨rfl,rfl,rfl,q.go j oa oa⟩,λa=>absurd rfl a⟩;rw[iN (λa=>j ((q.eqv 125 oa).1 a))];have f:Ref.qB s d.v (st0 b)=Ref.zU s (st0 (b+1)):=(by unfold Ref.qB;rw[IN ⟨rfl,l⟩,iN (show ¬zd s ((st0 b).i+1)=125 from j),go0]);rw[f];have F:=Kp q;have ae:=jV (L:=L) (T:= s.size) (d.n+1) q.le;by_cases w:(yx L s.size (d.n+1)).k=0;obtain⟨c1,W,X,x⟩:=F.1 w;have ad:=ZS c1 W;rw[iN (by simp[w]),X,ad];generalize (Ref.zU s (st0 (b+1))).2.i=o at *;generalize yx L s.size (d.n+1)=M at *;by_cases t:zd s o=125;have c:yD s (st0 o)=st0 o:=(by unfold yD;rw[iN (λa=>a.2 t)]);rw[iN (by simp;exact(x.eqv 125 oa).2 t),c,go0];by_cases y:M.v<d.v;rw[IN y,IN ⟨rfl,ae.2.2.1,y⟩,fail0];exact⟨λa=>absurd a (by simp[Pro.bad]),λ_=>⟨rfl,h.place.symm⟩⟩;rw[iN y,iN (λa=>y a.2.2)];exact⟨λ_=>⟨rfl,rfl,rfl,x.go t oa oa⟩,λa=>absurd rfl a⟩;have c:yD s (st0 o)=⟨o,3,o⟩:=(by unfold yD;rw[IN ⟨rfl,t⟩,fail0];rfl);rw[IN (λa=>t ((x.eqv 125 oa).1 a)),c];rw[iN (λa=>absurd a.1 (show ¬(3:Int)=0 by decide))];exact⟨λa=>absurd a (by simp[Pro.bad]),λ_=>⟨rfl,x.place.symm⟩⟩;have u:=F.2 w;have m:(Ref.zU s (st0 (b+1))).2.e≠0:=(by rw[u.1];omega);have c:yD s (Ref.zU s (st0 (b+1))).2=(Ref.zU s (st0 (b+1))).2:=(by unfold yD;rw[iN (λa=>m a.1)]);rw[IN w,c,iN (λa=>m a.1)];exact⟨λa=>absurd a w,λ_=>u⟩;have f:Ref.qB s d.v (st0 b)=(d.v,st0 b):=(by unfold Ref.qB;rw[iN (λa=>l a.2)]);have c:yD s (st0 b)=⟨b,3,b⟩:=(by unfold yD;rw[IN ⟨rfl,r⟩,fail0];rfl);rw[IN (λa=>l ((g.eqv 44 oa).1 a)),f,c];rw[iN (λa=>absurd a.1 (show ¬(3:Int)=0 by decide))];exact⟨λa=>absurd a (by simp[Pro.bad]),λ_=>⟨rfl,g.place.symm⟩⟩;have u:=B.2 v;have m:(Ref.zU s (st0 (p+1))).2.e≠0:=by rw[u.1];omega
 have f:Ref.qB s (Ref.zU s (st0 (p+1))).1 (Ref.zU s (st0 (p+1))).2=((Ref.zU s (st0 (p+1))).1,(Ref.zU s (st0 (p+1))).2):=by unfold Ref.qB;rw[iN (λa=>m a.1)]
 have c:yD s (Ref.zU s (st0 (p+1))).2=(Ref.zU s (st0 (p+1))).2:=by unfold yD;rw[iN (λa=>m a.1)]
 rw[IN v,f,c,iN (λa=>m a.1)];exact⟨λa=>absurd a v,λ_=>u⟩
end Eqv
namespace Eqv
variable {s:ByteArray} {L:List (Int×Int)}
theorem Xd {n p:Nat}(h:Br s L n p):xS s (st0 p)=st0 (xS s (st0 p)).i/\Br s L (wX L n) (xS s (st0 p)).i:=by unfold xS wX;by_cases a:zd s p=63;rw[IN ⟨rfl,a⟩,IN ((h.eqv 63 oa).2 a)];exact⟨rfl,h.go a oa oa⟩;rw[iN (λb=>a b.2),iN (λb=>a ((h.eqv 63 oa).1 b))];exact⟨rfl,h⟩
theorem zc5 {n p:Nat}(h:Br s L n p)(y:xA (zd s p)=G):(zy L s.size n).1=G/\SameQ s L (zy L s.size n).2.1 (wX L (zy L s.size n).2.1.n) (zy L s.size n).2.2 (zO s (st0 p)):=by have x:(st0 p).i=p:=rfl;have F:=vS y;have f:=h.eqv 42 oa;have j:=h.eqv 43 oa;have l:=h.eqv 63 oa;have w:=h.eqv 123 oa;unfold zy zO;rw[x];by_cases c:zd s p=42;have b:=Xd (h.go c oa oa);rw[IN (f.2 c),iN oa,iN oa,IN c,go0];exact⟨rfl,λ_=>⟨rfl,rfl,b.1,b.2⟩,λa=>absurd rfl a⟩;by_cases d:zd s p=43;have b:=Xd (h.go d oa oa);rw[iN (λa=>c (f.1 a)),IN (j.2 d),IN d,go0];exact⟨rfl,λ_=>⟨rfl,rfl,b.1,b.2⟩,λa=>absurd rfl a⟩;by_cases e:zd s p=63;have b:=Xd (h.go e oa oa);rw[iN (λa=>c (f.1 a)),iN (λa=>d (j.1 a)),IN (l.2 e),iN d,IN e,go0];exact⟨rfl,λ_=>⟨rfl,rfl,b.1,b.2⟩,λa=>absurd rfl a⟩;have q:zd s p=123:=oa;have m:=za0 h q;rw[iN (λa=>c (f.1 a)),iN (λa=>d (j.1 a)),iN (λa=>e (l.1 a)),IN (w.2 q),iN d,iN e,iN c];refine⟨rfl,λg=>?_,λg=>?_⟩;obtain⟨r,t,u,v⟩:=m.1 g;rw[u];have b:=Xd v;exact⟨r,t,b.1,b.2⟩;have o:=m.2 g;have:xS s (yz s (st0 p)).2.2=(yz s (st0 p)).2.2:=(by unfold xS;rw[iN (λa=>by have z:=a.1;have B:=o.1;have:(yi L s.size n).1.k≠0:=g;omega)]);rw[this];exact o
theorem zc6 {n p:Nat}(h:Br s L n p)(c:xA (zd s p)=Z):zy L s.size n=(Z,good 0 n,0):=by
 have e:=h.eqv 42 oa;have f:=h.eqv 43 oa;have g:=h.eqv 63 oa;have d:=h.eqv 123 oa;have b:zd s p≠42/\zd s p≠43/\zd s p≠63/\zd s p≠123:=by unfold xA at c;simpa [and_assoc] using c
 unfold zy;rw[iN (λa=>b.1 (e.1 a)),iN (λa=>b.2.1 (f.1 a)),iN (λa=>b.2.2.1 (g.1 a)),iN (λa=>b.2.2.2 (d.1 a))]
theorem zfh {n p:Nat}(h:Br s L n p)(o:zd s p=40):Same s L (z8 L s.size n) 0 (jW s (st0 p)):=by
 have f:=h.go o oa oa;have q:(st0 p).i=p:=rfl;unfold z8 jW;rw[q];by_cases d:zd s (p+1)=63
 .have a:=f.go d oa oa;rw[IN ((f.eqv 63 oa).2 d),IN d];by_cases e:zd s (p+2)=58;rw[IN ((a.eqv 58 oa).2 e),IN e,go0];exact jc (a.go e oa oa);rw[iN (λc=>e ((a.eqv 58 oa).1 c)),iN e];have j:=a.eqv 61 oa;have l:=a.eqv 33 oa;have m:=a.eqv 60 oa;by_cases b:zd s (p+2)=61\/zd s (p+2)=33\/zd s (p+2)=60
  (have g:zj L (n+2)=61\/zj L (n+2)=33\/zj L (n+2)=60:=by rcases b with k|k|k;exact Q (j.2 k);exact O (Q (l.2 k));exact O (O (m.2 k)));rw[IN g,IN b,go0,fail0];exact xm od rfl h.place.symm
  (have g:¬(zj L (n+2)=61\/zj L (n+2)=33\/zj L (n+2)=60):=λc=>by rcases c with k|k|k;exact b (Q (j.1 k));exact b (O (Q (l.1 k)));exact b (O (O (m.1 k))));rw[iN g,iN b,go0,fail0];exact xm od rfl a.place.symm
 rw[iN (λc=>d ((f.eqv 63 oa).1 c)),iN d,go0];exact jc f
end Eqv
namespace Ref
def scan:List Tok->Int->Nat->Option Nat
 | [],_,_=>U
 |t :: r,op,k=>if z7 t.kind op=0 then I k else scan r (z7 t.kind op) (k+1)
theorem vW (t:Tok)(r:List Tok)(op:Int)(k:Nat):scan (t :: r) op k=if z7 t.kind op=0 then I k else scan r (z7 t.kind op) (k+1):=rfl
def qe (k mn mx:Int):Int:=if mx<0 then(if mn=0 then 1 else mn)*k+1 else mn*k+(mx-mn)*(k+1)
def qG (l:List Tok):Int:=zT l 0
def zR (rest:List Tok)(k:Int):Int×List Tok:=match rest with
 | []=>(k,[])
 |q :: r=>if q.kind=6 then(qe k q.mn q.mx,r) else(k,q :: r)
def yK:Nat->List Tok->Int->Option Int
 |0,_,_=>U
 |_+1,[],n=>I n
 |f+1,t :: r,n=>
  if t.kind=5 then yK f r (n+1)
  else if t.kind=3 then
   (match scan r 1 0 with
    |none=>U
    |some j=>match yK f (r.take j) 0 with
     |none=>U
     |some k=>yK f (zR (r.drop (j+1)) k).2 (min 1000000 (n+(zR (r.drop (j+1)) k).1)))
  else yK f (zR r 1).2 (min 1000000 (n+(zR r 1).1))
def Q1 (l:List Tok)(n z:Int):Prop:=∃f,yK f l n=I z
theorem YB:∀(f:Nat) (l:List Tok) (n z:Int),yK f l n=I z->yK (f+1) l n=I z
 |0,l,n,z,h=>by simp[yK] at h
 |f+1,[],n,z,h=>by simpa [yK] using h
 |f+1,t :: r,n,z,h=>by
  unfold yK at h;rw[show f+1+1=(f+1)+1 from rfl];unfold yK;split at h;rename_i b;rw[IN b];exact YB f _ _ _ h;rename_i b;rw[iN b];split at h;rename_i a;rw[IN a];split at h;cases h;rename_i j d;split at h;cases h;rename_i k c;rw[YB f _ _ _ c];exact YB f _ _ _ h;rename_i a;rw[iN a];exact YB f _ _ _ h
theorem YC {f g:Nat}{l:List Tok}{n z:Int}(h:yK f l n=I z)(c:f<=g):yK g l n=I z:=by
 induction g with
 |zero=>
  have:f=0:=oa;subst this;exact h
 |succ g b=>
  by_cases a:f=g+1;subst a;exact h;exact YB g l n z (b oa)
def kJ (t:Tok):Prop:=0<=t.mn/\t.mn<=100/\-1<=t.mx/\t.mx<=100/\(t.mx = -1\/t.mn<=t.mx)
def Bal (b:List Tok):Prop:=(∀(a:Int) (rest:List Tok) (k:Nat),1<=a->scan (b++rest) a k=scan rest a (k+b.length))/\∀t∈b,kJ t
theorem Bal.nil:Bal []:=⟨λa rest k _=>ov,λt h=>by cases h⟩
theorem Bal.append {a b:List Tok}(c:Bal a)(d:Bal b):Bal (a++b):=by refine⟨λe rest k h=>?_,λt h=>?_⟩;rw[zgX,c.1 e _ k h,d.1 e _ _ h,zgK,zih];rcases zgU.1 h with h|h;exact c.2 t h;exact d.2 t h
theorem Bal.one {t:Tok}(b:t.kind≠3)(c:t.kind≠4)(d:kJ t):Bal [t]:=by
 refine⟨λa rest k h=>?_,λu h=>by simp at h;subst h;exact d⟩;have:z7 t.kind a=a:=by unfold z7;rw[iN b,iN c]
 show scan (t :: rest) a k=_;rw[vW,this,iN oa];rfl
theorem Bal.group {o c:Tok}{b:List Tok}(l:o.kind=3)(j:c.kind=4)(i:kJ o)(g:kJ c)(h:Bal b):Bal (o :: b++[c]):=by
 refine⟨λa rest k m=>?_,λt d=>by
  simp at d;rcases d with rfl|d|rfl;exact i;exact h.2 t d;exact g⟩
 have e:z7 o.kind a=a+1:=by unfold z7;rw[IN l]
 have f:z7 c.kind (a+1)=a:=by unfold z7;rw[iN oa,IN j];omega
 show scan (o :: (b++[c]++rest)) a k=_;rw[vW,e,iN oa,zgX,h.1 (a+1) _ _ oa];show scan (c :: rest) (a+1) _=_;rw[vW,f,iN oa];simp only[zg4,zgK,zhe];rw[show k+1+b.length+1=k+(b.length+1+(0+1)) by omega]
def yg (b:List Tok)(v:Int):Prop:=∀n:Int,0<=n->∃a,0<=a/\min a 301=min (n+v) 301/\∀rest z,qG rest≠6->Q1 rest a z->Q1 (b++rest) n z
theorem yg.nil:yg [] 0:=λn h=>⟨n,h,by rw[Int.add_zero],λ_ _ _ a=>a⟩
theorem yg.append {a b:List Tok}{x y:Int}(d:yg a x)(e:yg b y)(m:0<=x)(o:0<=y)(f:qG b≠6):yg (a++b) (min (x+y) 301):=λn h=>by
 obtain⟨n1,i,p,k⟩:=d n h;obtain⟨n2,j,q,l⟩:=e n1 i;refine⟨n2,j,oa,λrest z c g=>?_⟩;rw[zgX];refine k (b++rest) z ?_ (l rest z c g);cases b with
 |nil=>exact c
 |cons t r=>exact f
theorem yg.weak {a:List Tok}{x y:Int}(b:yg a x)(h:min x 301=min y 301)(g:0<=x)(_f:0<=y):yg a y:=λn c=>by obtain⟨n1,d,i,e⟩:=b n c;exact⟨n1,d,oa,e⟩
theorem yg.bar {t:Tok}(h:t.kind=5):yg [t] 1:=λn b=>⟨n+1,oa,rfl,λrest z _ ⟨f,a⟩=>⟨f+1,by show yK (f+1) (t :: rest) n=_;unfold yK;rw[IN h];exact a⟩⟩
theorem yg.one {t:Tok}(b:t.kind≠5)(a:t.kind≠3):yg [t] 1:=λn e=>⟨min 1000000 (n+1),oa,oa,λrest z d ⟨f,c⟩=>⟨f+1,by
 show yK (f+1) (t :: rest) n=_;unfold yK;rw[iN b,iN a];have:zR rest 1=(1,rest):=by
  unfold zR;cases rest with
  |nil=>rfl
  |cons q r=>simp only[];rw[iN (show ¬q.kind=6 from d)]
 rw[this];exact c⟩⟩
theorem yg.oneQ {t q:Tok}(b:t.kind≠5)(a:t.kind≠3)(c:q.kind=6)(g:0<=qe 1 q.mn q.mx):yg [t,q] (qe 1 q.mn q.mx):=λn e=>⟨min 1000000 (n+qe 1 q.mn q.mx),oa,oa,λrest z h ⟨f,d⟩=>⟨f+1,by
 show yK (f+1) (t :: q :: rest) n=_;unfold yK;rw[iN b,iN a];have:zR (q :: rest) 1=(qe 1 q.mn q.mx,rest):=by unfold zR;simp only[];rw[IN c]
 rw[this];exact d⟩⟩
theorem yg.whole {b:List Tok}{v:Int}(h:yg b v):∃z,0<=z/\min z 301=min v 301/\Q1 b 0 z:=by obtain⟨a,p,q,r⟩:=h 0 oa;refine⟨a,p,oa,?_⟩;have:=r [] a od ⟨1,rfl⟩;rw[zhc] at this;exact this
theorem XQ {a rest:List Tok}{c:Tok}(b:Bal a)(d:c.kind=4):scan (a++c :: rest) 1 0=I a.length:=by
 rw[b.1 1 _ 0 oa,vW];have:z7 c.kind 1=0:=by unfold z7;rw[iN oa,IN d];rfl
 rw[this,IN rfl,zg6]
theorem yg.group {o c:Tok}{a:List Tok}{v:Int}(l:o.kind=3)(e:c.kind=4)(d:Bal a)(h:yg a v)(u:0<=v):yg (o :: a++[c]) v:=λn t=>by
 obtain⟨k,p,s,b,j⟩:=h.whole;refine⟨min 1000000 (n+k),oa,oa,λrest z m ⟨f,i⟩=>⟨max b f+1,?_⟩⟩;show yK (max b f+1) (o :: (a++[c]++rest)) n=_;rw[zgX];show yK (max b f+1) (o :: (a++c :: rest)) n=_;unfold yK;rw[iN oa,IN l,XQ d e];simp only[];rw[List.take_left,YC j oa];have g:(a++c :: rest).drop (a.length+1)=rest:=by rw[<-zhT,List.drop_left];rfl
 rw[g];have:zR rest k=(k,rest):=by
  unfold zR;cases rest with
  |nil=>rfl
  |cons q r=>simp only[];rw[iN (show ¬q.kind=6 from m)]
 simp only[this];exact YC i oa
theorem yg.groupQ {o c q:Tok}{a:List Tok}{v w:Int}(r:o.kind=3)(g:c.kind=4)(d:q.kind=6)(e:Bal a)(h:yg a v)(B:0<=w)(s:∀k,0<=k->min k 301=min v 301->0<=qe k q.mn q.mx/\min (qe k q.mn q.mx) 301=min w 301):yg (o :: a++[c,q]) w:=λn t=>by
 obtain⟨k,l,m,b,p⟩:=h.whole;obtain⟨u,x⟩:=s k l m;refine⟨min 1000000 (n+qe k q.mn q.mx),oa,oa,λrest z y ⟨f,j⟩=>⟨max b f+1,?_⟩⟩;show yK (max b f+1) (o :: (a++[c,q]++rest)) n=_;rw[zgX];show yK (max b f+1) (o :: (a++c :: (q :: rest))) n=_;unfold yK;rw[iN oa,IN r,XQ e g];simp only[];rw[List.take_left,YC p oa];have i:(a++c :: (q :: rest)).drop (a.length+1)=q :: rest:=by rw[<-zhT,List.drop_left];rfl
 rw[i];have:zR (q :: rest) k=(qe k q.mn q.mx,rest):=by unfold zR;simp only[];rw[IN d]
 simp only[this];exact YC j oa
end Ref
namespace Eqv
variable {s:ByteArray} {L:List (Int×Int)}
theorem zc7 {a b:Int}(c:1<=a)(d:301<=b):301<=a*b:=by have:=zhr c (show(0:Int)<=b by omega);omega
theorem Kq {k v mn mx:Int}(j:0<=k)(F:0<=v)(L:v<=301)(h:min k 301=min v 301)(p:0<=mn)(y:-1<=mx)(r:mx = -1\/mn<=mx):0<=qe k mn mx/\min (qe k mn mx) 301=min (j7 v mn mx) 301:=by
 have u:∀z:Int,0<=z->qe z mn mx=j7 z mn mx:=by
  intro z f;unfold qe j7;by_cases e:mx = -1
  grind
  rw[iN oa,iN e]
 have w:0<=j7 k mn mx:=Yd j p r;rw[u k j];refine⟨w,?_⟩;by_cases s:k=v;rw[s];have t:301<=k:=by omega
 have x:301<=v:=oa;have g:∀z:Int,301<=z->j7 z mn mx=0/\mn=0/\mx=0\/301<=j7 z mn mx:=by intro z f;unfold j7;by_cases e:mx = -1;right;rw[IN e];have:=zc7 (a:=max mn 1) (b:=z) oa f;omega;rw[iN e];by_cases i:mn=0;by_cases q:mx=0;left;subst i;subst q;simp;right;have:=zc7 (a:=mx-mn) (b:=z+1) oa oa;rw[i] at this ⊢;omega;right;have:=zc7 (a:=mn) (b:=z) oa f;have B:0<=(mx-mn)*(z+1):=zhu oa oa;omega
 rcases g k t with⟨c,l,m⟩|c<;>rcases g v x with⟨d,n,o⟩|d
 rw[c,d];rw[l,m] at d;unfold j7 at d;simp at d;rw[n,o] at c;unfold j7 at c;simp at c;omega
theorem Qj {t:Tok}(a:t.mn=0)(b:t.mx=0):kJ t:=by unfold kJ;omega
def vC (a:List Tok)(v:Int):Prop:=Bal a/\qG a≠6/\a≠[]/\yg a v/\∀q:Tok,q.kind=6->0<=q.mn->-1<=q.mx->(q.mx = -1\/q.mn<=q.mx)->yg (a++[q]) (min (j7 v q.mn q.mx) 301)
theorem vC.one {t:Tok}(g:t.kind=1)(f:kJ t):vC [t] 1:=by refine⟨Bal.one oa oa f,?_,ov,yg.one oa oa,?_⟩;show t.kind≠6;omega;intro q e a b c;have d:=Kq (k:=1) (v:=1) oa oa oa rfl a b c;have h:=Yd (z:=1) oa a c;exact(yg.oneQ (t:=t) (q:=q) oa oa e d.1).weak oa d.1 oa
theorem vC.group {o c:Tok}{d:List Tok}{v:Int}(i:o.kind=3)(g:c.kind=4)(n:kJ o)(m:kJ c)(f:Bal d)(h:yg d v)(j:0<=v)(s:v<=301):vC (o :: d++[c]) v:=by refine⟨f.group i g n m,?_,ov,yg.group i g f h j,?_⟩;show o.kind≠6;omega;intro q l a b e;have t:=Yd (z:=v) j a e;have:=yg.groupQ (w:=min (j7 v q.mn q.mx) 301) i g l f h oa (λk p r=>by have:=Kq p j s r a b e;exact⟨this.1,oa⟩);rw[show o :: d++[c]++[q]=o :: d++[c,q] by simp];exact this
theorem kX {f:Nat}{l:List Tok}{op:Int}{atom:Bool}{h:St}(a:h.e≠0):∃c,zP s f l op atom h=(c,h.e,h.a):=by
 cases f with
 |zero=>exact⟨l,rfl⟩
 |succ f=>
  rw[wZ (λb=>a b.2)];refine⟨l,?_⟩;split;rw[fail_nz a];rfl
def Goes (s:ByteArray)(L:List (Int×Int))(f:Nat)(l:List Tok)(op:Int)(atom:Bool)(p:Nat)(o:Pro.Out)(P:List Tok->Prop):Prop:=
 (o.k≠0->∃e,zP s f l op atom (st0 p)=(e,(o.k:Int),o.p))/\
 (o.k=0->∃d c a b,zP s f l op atom (st0 p)=zP s c (l++d) op b (st0 a)/\Br s L o.n a/\s.size<a+c/\(b=G->xA (zd s a)=Z)/\P d)
def TermP (v:Int)(a:List Tok):Prop:=Bal a/\yg a v/\qG a≠6
theorem zc8 {f:Nat}{l:List Tok}{op:Int}{n p:Nat}{at':List Tok}{v:Int}(a:Br s L n p)(P:s.size<p+f)(N:vC at' v)(af:0<=v)(ag:v<=301){A:Pro.Out}(S:A.k=0)(r:A.n=n)(hv:A.v=v):Goes s L f (l++at') op G p (if(zy L s.size A.n).1=Z then A else if(zy L s.size A.n).2.1.k≠0 then(zy L s.size A.n).2.1 else good (min (j7 A.v (zy L s.size A.n).2.1.v (zy L s.size A.n).2.2) 301) (wX L (zy L s.size A.n).2.1.n)) (λw=>w=[]/\(if(zy L s.size A.n).1=Z then True else False)\/∃q:Tok,w=[q]/\yg (at'++[q]) (min (j7 v (zy L s.size A.n).2.1.v (zy L s.size A.n).2.2) 301)/\Bal [q]/\(zy L s.size A.n).1=G/\q.kind=6/\q.mn=(zy L s.size A.n).2.1.v/\q.mx=(zy L s.size A.n).2.2):=by
 subst hv;rw[r];cases hq:xA (zd s p);have aa:=zc6 a hq;rw[aa];simp only[if_true];exact⟨λg=>absurd S g,λ_=>⟨[],f,p,G,by rw[zhc],by rw[r];exact a,P,λ_=>hq,Q ⟨rfl,trivial⟩⟩⟩;obtain⟨o,t⟩:=zc5 a hq;have ae:=vS hq;have X:p<s.size:=(zw s p).1 oa;obtain⟨f,rfl⟩:∃F,f=F+1:=⟨f-1,oa⟩
 have u:=XI (s:=s) (f:=f) (l:=l++at') (op:=op) (atom:=G) (h:=st0 p) ⟨X,rfl⟩ ⟨rfl,hq⟩;rw[iN (by simp[o])];by_cases j:(zy L s.size n).2.1.k=0;obtain⟨d,e,x,y⟩:=t.1 j;have b:=Vf (L:=L) (T:= s.size) n o j;rw[iN (by simp[j])];refine⟨λg=>absurd rfl g,λ_=>⟨[⟨6,Z,[],0,(zO s (st0 p)).1,(zO s (st0 p)).2.1⟩],f,(zO s (st0 p)).2.2.i,Z,?_,y,?_,(λg=>by cases g),O ⟨_,rfl,?_,Bal.one (show(6:Int)≠3 by decide) (show(6:Int)≠4 by decide) ⟨by show 0<=(zO s (st0 p)).1;rw[d];exact b.1,by show(zO s (st0 p)).1<=100;rw[d];exact b.2.1,by show -1<=(zO s (st0 p)).2.1;rw[e];exact b.2.2.1,by show(zO s (st0 p)).2.1<=100;rw[e];exact b.2.2.2.1,by show(zO s (st0 p)).2.1 = -1\/(zO s (st0 p)).1<=(zO s (st0 p)).2.1;rw[d,e];exact b.2.2.2.2⟩,o,rfl,d,e⟩⟩⟩;rw[u,<-x];have:=(JH (s:=s) (h:=st0 p) a.good hq).1;have hi:(st0 p).i=p:=rfl;omega;have:=N.2.2.2.2 ⟨6,Z,[],0,(zO s (st0 p)).1,(zO s (st0 p)).2.1⟩ rfl (by show 0<=(zO s (st0 p)).1;rw[d];exact b.1) (by show -1<=(zO s (st0 p)).2.1;rw[e];exact b.2.2.1) (by show(zO s (st0 p)).2.1 = -1\/(zO s (st0 p)).1<=(zO s (st0 p)).2.1;rw[d,e];exact b.2.2.2.2);have z:({ kind:=6,neg:=Z,parts:=[],c:=0,mn:=(zO s (st0 p)).1,mx:=(zO s (st0 p)).2.1 }:Tok).mn=(zy L s.size n).2.1.v:=d;have B:({ kind:=6,neg:=Z,parts:=[],c:=0,mn:=(zO s (st0 p)).1,mx:=(zO s (st0 p)).2.1 }:Tok).mx=(zy L s.size n).2.2:=e;rw[z,B] at this;exact this;have m:=t.2 j;rw[IN j];refine⟨λ_=>?_,λg=>absurd g j⟩;obtain⟨l',W⟩:=kX (s:=s) (f:=f) (l:=l++at'++[⟨6,Z,[],0,(zO s (st0 p)).1,(zO s (st0 p)).2.1⟩]) (op:=op) (atom:=Z) (h:=(zO s (st0 p)).2.2) (by rw[m.1];omega);exact⟨l',by rw[u,W,m.1,m.2]⟩
end Eqv
end
