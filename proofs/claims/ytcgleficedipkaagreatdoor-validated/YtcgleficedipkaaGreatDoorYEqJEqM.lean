/- The reader beside the lexer: a term. -/
import Derived.Test.YtcgleficedipkaaGreatDoorYTrATrK
import Derived.Test.YtcgleficedipkaaGreatDoorYChARanB
namespace Go.Proofs.YtcgleficedipkaaGreatDoor
open Option renaming none->U,some->I
open Bool renaming false->Z,true->G
open Or renaming inr->O,inl->Q
open Pro Ref
section
open Go.RowKit
open Sm (Tree)
namespace Eqv
variable {s:ByteArray} {L:List (Int×Int)}
def Q2 (a:Int):Int:=if a=0 then 94 else if a=1 then 36 else if a=2 then 98 else 66
section
variable (A:List Tok->Tree->Prop)
def TokS:List Tok->List Tree->Prop
 |c,[]=>c=[]
 |c,t :: r=>∃a b,c=a++b/\A a t/\TokS b r
def TokP:List Tok->List Tree->Prop
 |c,[]=>c=[]
 |c,t :: r=>∃a b bar,c=a++bar :: b/\bar.kind=5/\t.kind=6/\TokS A a t.kids/\TokP b r
def wK (d:List Tok)(kids:List Tree):Prop:=∃c fin b a,d=c++fin/\kids=b++[a]/\TokP A c b/\a.kind=6/\TokS A fin a.kids
end
def qL:Nat->List Tok->Tree->Prop
 |0,_,_=>False
 |f+1,b,T=>
  (T.kind=0/\0<=T.a/\T.a<=3/\∃t,b=[t]/\t.kind=2/\t.c=Q2 T.a/\t.parts=[])\/(∃t,b=[t]/\t.kind=1/\LeafTok t T)\/
  (T.kind=5/\∃o c a,b=o :: a++[c]/\o.kind=3/\c.kind=4/\Bal a/\wK (qL f) a T.kids)\/
  (T.kind=7/\∃a q,b=a++[q]/\q.kind=6/\q.mn=T.a/\q.mx=T.b/\(T.kid.kind=5\/Wx T.kid)/\qL f a T.kid)
section
variable {A B:List Tok->Tree->Prop}
theorem TokS.mono (h:∀a t,A a t->B a t):∀(c:List Tok) (l:List Tree),TokS A c l->TokS B c l
 |_,[],e=>e
 |_,_ :: r,⟨a,b,e,d,f⟩=>⟨a,b,e,h _ _ d,TokS.mono h b r f⟩
theorem TokP.mono (h:∀a t,A a t->B a t):∀(c:List Tok) (l:List Tree),TokP A c l->TokP B c l
 |_,[],e=>e
 |_,_ :: r,⟨a,b,bar,e,d,f,g,i⟩=>⟨a,b,bar,e,d,f,TokS.mono h a _ g,TokP.mono h b r i⟩
theorem wK.mono (h:∀a t,A a t->B a t){b:List Tok}{l:List Tree}:wK A b l->wK B b l
 |⟨k,fin,i,j,c,d,e,f,g⟩=>⟨k,fin,i,j,c,d,TokP.mono h _ _ e,f,TokS.mono h _ _ g⟩
theorem qL.up:∀(f g:Nat) (m:List Tok) (T:Tree),f<=g->qL f m T->qL g m T
 |0,_,_,_,_,h=>h.elim
 |f+1,0,_,_,r,_=>oa
 |f+1,g+1,m,T,r,h=>by
  rcases h with h|h|⟨d,o,c,b,e,i,j,k,l⟩|⟨d,b,q,e,i,j,k,l,n⟩;exact Q h;exact O (Q h);exact O (O (Q ⟨d,o,c,b,e,i,j,k,wK.mono (λa t p=>qL.up f g a t oa p) l⟩));exact O (O (O ⟨d,b,q,e,i,j,k,l,qL.up f g b T.kid oa n⟩))
end
def jz (s:ByteArray)(L:List (Int×Int))(op:Int)(D:Nat->Pro.Out)(F:Nat)(DT:Nat->Tree):Prop:=∀(f:Nat) (l:List Tok) (c:Bool) (n p:Nat),Br s L n p->s.size<p+f->zd s p=40->
 ((D n).k≠0->∃e,zP s f l op c (st0 p)=(e,((D n).k:Int),(D n).p))/\
 ((D n).k=0->∃b d a,zP s f l op c (st0 p)=zP s d (l++b) op G (st0 a)/\Br s L (D n).n a/\s.size<a+d/\vC b (D n).v/\(DT n).kind=5/\qL F b (DT n))
theorem no_q {atom:Bool}{p:Nat}(d:atom=G->xA (zd s p)=Z):¬(atom=G/\xA (zd s (st0 p).i)=G):=λb=>by have c:=d b.1;have a:xA (zd s p)=G:=b.2;rw[c] at a;cases a
theorem Qk {f:Nat}{l:List Tok}{op:Int}{atom:Bool}{p:Nat}(g:p<s.size)(d:atom=G->xA (zd s p)=Z)(c:zd s p≠40)(i:0<=op)(b:(zB s (st0 p)).1.kind=1):zP s (f+1) l op atom (st0 p)=zP s f (l++[(zB s (st0 p)).1]) op G (zB s (st0 p)).2:=by
 rw[qO (h:=st0 p) ⟨g,rfl⟩ (no_q d) (λe=>c e.1),b];have a:z7 1 op=op:=by unfold z7;simp
 rw[a,iN oa];rfl
theorem VQ (m:Bool)(c:Int):Wx (oneT m c):=by cases m;exact⟨by show 1<=2;decide,by show 2<=4;decide⟩;exact⟨by show 1<=3;decide,by show 3<=4;decide⟩
theorem zc9 {o:Pro.Out}{v:Int}{h:St}(a:Same s L o v h)(b:o.k≠0):h.e≠0:=by rw[(a.2 b).1];omega
theorem zfi (aW:s.size<=400){op:Int}{D:Nat->Pro.Out}{F:Nat}{DT:Nat->Tree}(hD:jz s L op D (F+1) DT)(an:0<=op){f:Nat}{l:List Tok}{atom:Bool}{n p:Nat}(d:Br s L n p)(hf:s.size<p+f)(x:p<s.size)(hA:atom=G->xA (zd s p)=Z)(ax:zd s p≠124/\zd s p≠41)(ac:asN L n=0):((zM L s.size D n).k≠0->∃N,zP s f l op atom (st0 p)=(N,((zM L s.size D n).k:Int),(zM L s.size D n).p))/\((zM L s.size D n).k=0->∃ts f' p',zP s f l op atom (st0 p)=zP s f' (l++ts) op G (st0 p')/\Br s L (zM L s.size D n).n p'/\s.size<p'+f'/\vC ts (zM L s.size D n).v/\((xi L s.size DT n).kind=5\/Wx (xi L s.size DT n))/\qL (F+1) ts (xi L s.size DT n)):=by
 have hi:(st0 p).i=p:=rfl;have aU:=(zw s p).2 x;have aT:=d.eqv 94 oa;have aS:=d.eqv 36 oa;have S:=d.eqv 92 oa;have aq:=d.eqv 40 oa;have P:=d.eqv 91 oa;have aY:zd s p≠94/\zd s p≠36:=by unfold asN at ac;by_cases g:zj L n=94\/zj L n=36;rw[IN g] at ac;cases ac;omega
 have ak:¬(zd s p=92/\(zd s (p+1)=98\/zd s (p+1)=66)):=by rintro⟨k1,k2⟩;have m:=d.go k1 oa oa;unfold asN at ac;rw[iN (by rw[S.2 k1];omega),IN ⟨S.2 k1,by rcases k2 with k|k;exact Q ((m.eqv 98 oa).2 k);exact O ((m.eqv 66 oa).2 k)⟩] at ac;cases ac
 have hw:Ye (zj L n)=Zo (zd s p):=by
  unfold Ye Zo;rcases d.alike with⟨e,_⟩|⟨a,b⟩;rw[e]
  grind
 obtain⟨f,rfl⟩:∃f',f=f'+1:=⟨f-1,oa⟩
 by_cases r:zd s p=40
 .have ai:Ye (zj L n)=Z:=by rw[hw,r];decide
  have e:zM L s.size D n=D n:=by unfold zM;rw[iN (by simp[ai]),IN (aq.2 r)]
  have z:xi L s.size DT n=DT n:=by unfold xi;rw[IN (aq.2 r)]
  rw[e,z];obtain⟨d1,d2⟩:=hD (f+1) l atom n p d hf r;refine⟨d1,λj=>?_⟩;obtain⟨ts,f',p',d3,d4,d5,d6,d7,d8⟩:=d2 j;exact⟨ts,f',p',d3,d4,d5,d6,Q d7,d8⟩
 have aa:¬zj L n=40:=λg=>r (aq.1 g);cases hwb:Zo (zd s p)
 .have ai:¬Ye (zj L n)=G:=(by rw[hw,hwb];simp);by_cases u:zd s p=91
  ·((have m:=d.go u oa oa;have e:zM L s.size D n=Pro.one (qy L s.size n):=(by unfold zM;rw[iN ai,iN aa,IN (P.2 u)]);have q:zB s (st0 p)=(⟨1,vz s (st0 (p+1)),(y9 s (st0 (p+1))).1,0,0,0⟩,(y9 s (st0 (p+1))).2):=by unfold zB;rw[hi,iN oa,iN ak,iN oa,iN oa,IN u,go0]);have B:=Qk (f:=f) (l:=l) x hA r an (by rw[q]);have W:Same s L (qy L s.size n) 1 (y9 s (st0 (p+1))).2:=by unfold qy y9 yX vz;have ar:(st0 (p+1)).i=p+1:=rfl;rw[ar];by_cases t:zd s (p+1)=94;have w:=m.go t oa oa;have:=w.le;have:=w.good.le;rw[IN ((m.eqv 94 oa).2 t),IN (by simp[t]),go0];exact ZU _ _ [] (n+2) (p+1+1) w oa (by show s.size<p+1+1+(s.size+1-(p+1+1));omega);have:=m.le;have:=m.good.le;rw[iN (λg=>t ((m.eqv 94 oa).1 g)),iN (by simp[t])];exact ZU _ _ [] (n+1) (p+1) m oa (by show s.size<p+1+(s.size+1-(p+1));omega));have z:xi L s.size DT n=xP L s.size n:=(by unfold xi;rw[iN aa,IN (P.2 u)]);rw[e,B,q,zcc,zcb,z];by_cases j:(qy L s.size n).k=0
   .obtain⟨a1,a2,_,a4⟩:=W.1 j;refine⟨λg=>absurd j g,λ_=>⟨_,f,(y9 s (st0 (p+1))).2.i,by rw[<-ZS a1 a2],a4,?_,by rw[one_v _ j];exact vC.one rfl (Qj rfl rfl),O (show Wx _ from⟨by show 1<=4;decide,by show 4<=4;decide⟩),O (Q ⟨_,rfl,rfl,⟨by show 1<=4;decide,by show 4<=4;decide⟩,λc=>?_,by
     show(y9 s (st0 (p+1))).1.length<=1000;have hb:=(Xw (s:=s) (s.size+1-(yX s (st0 (p+1))).i) [] (yX s (st0 (p+1))) (λp o=>by cases o)).2;show(yQ s (s.size+1-(yX s (st0 (p+1))).i) [] (yX s (st0 (p+1)))).1.length<=1000;simp at hb;omega,(Xw (s:=s) (s.size+1-(yX s (st0 (p+1))).i) [] (yX s (st0 (p+1))) (λp o=>by cases o)).1⟩)⟩⟩
    rotate_left
    (((show(anyPt (y9 s (st0 (p+1))).1 c != vz s (st0 (p+1)))=tkTree (xP L s.size n) c;have aL:anyPt (y9 s (st0 (p+1))).1 c=jZ (xP L s.size n).rs (xP L s.size n).ss c:=by unfold qy at j;unfold y9 yX vz xP;have ar:(st0 (p+1)).i=p+1:=rfl;rw[ar];by_cases t:zd s (p+1)=94;have w:=m.go t oa oa;have:=w.le;have:=w.good.le;rw[IN ((m.eqv 94 oa).2 t)] at j;simp only[IN ((m.eqv 94 oa).2 t)];rw[IN (by simp[t]),go0];exact Yg _ _ [] [] [] (n+2) (p+1+1) w oa (by show s.size<p+1+1+(s.size+1-(p+1+1));omega) j (λ_=>rfl) c;have:=m.le;have:=m.good.le;have ay:¬zj L (n+1)=94:=λg=>t ((m.eqv 94 oa).1 g);rw[iN ay] at j;simp only[iN ay];rw[iN (by simp[t])];exact Yg _ _ [] [] [] (n+1) (p+1) m oa (by show s.size<p+1+(s.size+1-(p+1));omega) j (λ_=>rfl) c);have aP:vz s (st0 (p+1))=(xP L s.size n).neg:=by show decide (zd s (p+1)=94)=decide (zj L (n+1)=94);exact decide_eq_decide.2 ((m.eqv 94 oa).symm));rw[aL,aP];rfl;have aN:p<(y9 s (st0 (p+1))).2.i:=by by_cases g:p<(y9 s (st0 (p+1))).2.i;exact g;exfalso;have:=ZT d a4 oa;have:=Wo (L:=L) (T:= s.size) n (d.lt.2 x);omega);omega
   have he:=W.2 j;obtain⟨N,X⟩:=kX (s:=s) (f:=f) (l:=l++[⟨1,vz s (st0 (p+1)),(y9 s (st0 (p+1))).1,0,0,0⟩]) (op:=op) (atom:=G) (zc9 W j);have e1:Pro.one (qy L s.size n)=qy L s.size n:=(by unfold Pro.one;rw[iN j]);exact⟨λ_=>⟨N,by rw[X,he.1,he.2,e1]⟩,λg=>absurd g j⟩
  by_cases y:zd s p=92
  ·(have e:zM L s.size D n=Pro.one (xO L s.size n):=(by unfold zM;rw[iN ai,iN aa,iN (λg=>u (P.1 g)),IN (S.2 y)]);have q:zB s (st0 p)=(⟨1,Z,[(zI s Z (st0 p)).1],0,0,0⟩,(zI s Z (st0 p)).2.2):=by unfold zB;rw[hi,iN oa,iN ak,iN oa,iN oa,iN u,IN y]);have B:=Qk (f:=f) (l:=l) x hA r an (by rw[q]);have W:=(Ko Z d y (λg=>by cases g)).1;have z:xi L s.size DT n=oneT (jj (zj L (n+1))) (xO L s.size n).v:=(by unfold xi;rw[iN aa,iN (λg=>u (P.1 g)),IN (S.2 y)]);rw[e,B,q,zcc,zcb,z];by_cases j:(xO L s.size n).k=0
   .obtain⟨a1,a2,_,a4⟩:=W.1 j;refine⟨λg=>absurd j g,λ_=>⟨_,f,(zI s Z (st0 p)).2.2.i,by rw[<-ZS a1 a2],a4,?_,by rw[one_v _ j];exact vC.one rfl (Qj rfl rfl),O (VQ _ _),O (Q ⟨_,rfl,rfl,VQ _ _,λc=>?_,by show 1<=1000;decide,λp o=>by
     have o:p∈[(zI s Z (st0 _)).1]:=o;simp at o;subst o;exact Vk Z _⟩)⟩⟩
    rotate_left
    (show(anyPt [(zI s Z (st0 p)).1] c != Z)=_;have e0:anyPt [(zI s Z (st0 p)).1] c=wQ (zI s Z (st0 p)).1 c:=(by unfold anyPt;simp);rw[e0];cases hset:jj (zj L (n+1));have w:=(Ko Z d y (λg=>by cases g)).2 j;have h3:(zI s Z (st0 p)).2.1=G:=(by rw[w.1,hset];rfl);rw[w.2 h3,ZI,inSp_one];simp[tkTree,oneT,ji];rfl;rw[zcq Z d y hset];simp[tkTree,oneT,qJ,kG];rfl;have aN:p<(zI s Z (st0 p)).2.2.i:=by by_cases g:p<(zI s Z (st0 p)).2.2.i;exact g;exfalso;have:=ZT d a4 oa;have:=zah (L:=L) (T:= s.size) n (d.lt.2 x);omega);omega
   have he:=W.2 j;obtain⟨N,X⟩:=kX (s:=s) (f:=f) (l:=l++[⟨1,Z,[(zI s Z (st0 p)).1],0,0,0⟩]) (op:=op) (atom:=G) (zc9 W j);have e1:Pro.one (xO L s.size n)=xO L s.size n:=(by unfold Pro.one;rw[iN j]);exact⟨λ_=>⟨N,by rw[X,he.1,he.2,e1]⟩,λg=>absurd g j⟩
  have e:zM L s.size D n=good 1 (n+1):=(by unfold zM;rw[iN ai,iN aa,iN (λg=>u (P.1 g)),iN (λg=>y (S.1 g))]);rw[e];refine⟨λg=>absurd rfl g,λ_=>?_⟩;by_cases aj:zd s p=46
  (have q:zB s (st0 p)=(⟨1,G,[⟨Z,[(10,10),(13,13),(8232,8233)]⟩],0,0,0⟩,st0 (p+1)):=by unfold zB;rw[hi,iN oa,iN ak,iN oa,IN aj,go0]);have B:=Qk (f:=f) (l:=l) x hA r an (by rw[q]);rw[q] at B;have z:xi L s.size DT n=wP:=(by unfold xi;rw[iN aa,iN (λg=>u (P.1 g)),iN (λg=>y (S.1 g)),IN ((d.eqv 46 oa).2 aj)]);rw[z];exact⟨_,f,p+1,B,d.go aj oa oa,oa,vC.one rfl (Qj rfl rfl),O ⟨zgH 1,by show 1<=4;decide⟩,O (Q ⟨_,rfl,rfl,⟨zgH 1,by show 1<=4;decide⟩,λc=>by simp[Y6,anyPt,ZI,tkTree,wP],by show 1<=1000;decide,λp o=>by simp at o;subst o;simp⟩)⟩
  (obtain⟨k,c,ho,hg,hn⟩:=d.step x;have q:zB s (st0 p)=(⟨1,Z,[⟨Z,[(c,c)]⟩],0,0,0⟩,st0 (p+k)):=by unfold zB;rw[hi,iN oa,iN ak,iN oa,iN aj,iN u,iN y,iN r,iN ax.2,iN (by simp[hwb]),ho];rfl);have B:=Qk (f:=f) (l:=l) x hA r an (by rw[q]);rw[q] at B;have:=Ref.qr ho;have X:=(d.letter x ho).1;have z:xi L s.size DT n=ji c:=(by unfold xi;rw[iN aa,iN (λg=>u (P.1 g)),iN (λg=>y (S.1 g)),iN (λg=>aj ((d.eqv 46 oa).1 g)),X]);rw[z];exact⟨_,f,p+k,B,hn,oa,vC.one rfl (Qj rfl rfl),O ⟨by show 1<=2;decide,by show 2<=4;decide⟩,O (Q ⟨_,rfl,rfl,⟨by show 1<=2;decide,by show 2<=4;decide⟩,λc'=>by simp[Y6,anyPt,ZI,inSp_one,tkTree,ji];rfl,by show 1<=1000;decide,λp o=>by simp at o;subst o;simp⟩)⟩
 (have e:zM L s.size D n=Pro.bad 3 (zC L s.size n) n:=(by unfold zM;rw[IN (by rw[hw];exact hwb)]);have aX:zd s p=42\/zd s p=43\/zd s p=63\/zd s p=123\/zd s p=125\/zd s p=93:=(by unfold Zo at hwb;simp at hwb;omega);have q:zB s (st0 p)=(⟨0,Z,[],0,0,0⟩,⟨p,3,p⟩):=by unfold zB;rw[hi,iN oa,iN ak,iN oa,iN oa,iN oa,iN oa,iN r,iN ax.2,IN hwb,fail0]);rw[e];refine⟨λ_=>?_,λg=>absurd g (by simp[Pro.bad])⟩;rw[qO (h:=st0 p) ⟨x,rfl⟩ (no_q hA) (λg=>r g.1),q];have e1:z7 0 op=op:=(by unfold z7;simp);simp only[];rw[e1,iN oa];obtain⟨N,X⟩:=kX (s:=s) (f:=f) (l:=l++[⟨0,Z,[],0,0,0⟩]) (op:=op) (atom:=((0:Int) == 1) ||((0:Int) == 4)) (h:=⟨p,3,p⟩) (show(3:Int)≠0 by decide);exact⟨N,by rw[X];show(N,(3:Int),(p:Int))=(N,((3:Nat):Int),zC L s.size n);rw[d.place];rfl⟩
end Eqv
namespace Eqv
variable {s:ByteArray} {L:List (Int×Int)}
theorem zfj (aI:s.size<=400){op:Int}{D:Nat->Pro.Out}{F:Nat}{DT:Nat->Tree}(hD:jz s L op D (F+1) DT)(ar:DOK L D)(aD:0<=op){f:Nat}{l:List Tok}{atom:Bool}{n p:Nat}(a:Br s L n p)(hf:s.size<p+f)(B:p<s.size)(P:atom=G->xA (zd s p)=Z)(aJ:zd s p≠124/\zd s p≠41):Goes s L f l op atom p (yL L s.size D n) (λm=>TermP (yL L s.size D n).v m/\qL (F+2) m (ja L s.size D DT n)):=by
 have S:(st0 p).i=p:=rfl;have aS:=(zw s p).2 B;by_cases c:asN L n=0
 .obtain⟨g1,g2⟩:=zfi aI hD aD (l:=l) a hf B P aJ c;have aB:=Ve (T:= s.size) ar n (a.lt.2 B);by_cases j:(zM L s.size D n).k=0
  ·(obtain⟨m,f1,p1,x,b1,az,g,aC,ab⟩:=g2 j;have ac:=aB.2.2 j;have W:=zc8 (s:=s) (L:=L) (l:=l) (op:=op) b1 az g ac.2.1 ac.2.2 j rfl rfl;have u:yL L s.size D n=(if(zy L s.size (zM L s.size D n).n).1=Z then zM L s.size D n else if(zy L s.size (zM L s.size D n).n).2.1.k≠0 then(zy L s.size (zM L s.size D n).n).2.1 else good (min (j7 (zM L s.size D n).v (zy L s.size (zM L s.size D n).n).2.1.v (zy L s.size (zM L s.size D n).n).2.2) 301) (wX L (zy L s.size (zM L s.size D n).n).2.1.n)):=by unfold yL;rw[iN (by simp[c]),iN (by simp[j])]);rw[u];refine⟨λb=>by rw[x];exact W.1 b,λb=>?_⟩;obtain⟨us,f2,p2,ae,e2,b2,aA,av,hP⟩:=W.2 b;refine⟨m++us,f2,p2,ae,by rw[x,e2,zgX],b2,aA,av,?_⟩;rcases hP with⟨rfl,X⟩|⟨q,rfl,aw,ax,N,aE,aF,aG⟩
   ((have aa:(zy L s.size (zM L s.size D n).n).1=Z:=by by_cases w:(zy L s.size (zM L s.size D n).n).1=Z;exact w;rw[iN w] at X;exact X.elim);have o:ja L s.size D DT n=xi L s.size DT n:=(by unfold ja;rw[iN (by simp[c]),IN aa]);rw[IN aa,zhc,o];exact⟨⟨g.1,g.2.2.2.1,g.2.1⟩,qL.up _ _ _ _ oa ab⟩;have z:¬(zy L s.size (zM L s.size D n).n).2.1.k≠0:=λw=>by rw[iN (by simp[N]),IN w] at b;exact w b);have o:ja L s.size D DT n=vH (xi L s.size DT n) (zy L s.size (zM L s.size D n).n).2.1.v (zy L s.size (zM L s.size D n).n).2.2:=(by unfold ja;rw[iN (by simp[c]),iN (by simp[N])]);rw[iN (by simp[N]),iN z,o];refine⟨⟨g.1.append ax,aw,?_⟩,O (O (O ⟨rfl,m,q,rfl,aE,aF,aG,aC,ab⟩))⟩;have d:=g.2.1;have h3:=g.2.2.1;cases m with
   |nil=>exact absurd rfl h3
   |cons t r=>exact d
  have u:yL L s.size D n=zM L s.size D n:=(by unfold yL;rw[iN (by simp[c]),IN j]);rw[u];exact⟨g1,λb=>absurd b j⟩
 have u:yL L s.size D n=good 1 (n+asN L n):=by unfold yL;rw[IN c]
 rw[u];refine⟨λb=>absurd rfl b,λ_=>?_⟩;obtain⟨f,rfl⟩:∃f',f=f'+1:=⟨f-1,oa⟩
 have hs:∃t k,zB s (st0 p)=(t,st0 (p+k))/\(t.kind=2/\kJ t)/\Br s L (n+asN L n) (p+k)/\1<=k/\zd s p≠40/\0<=asV L n/\asV L n<=3/\t.c=Q2 (asV L n)/\t.parts=[]:=by
  unfold asN at c ⊢;by_cases y:zj L n=94\/zj L n=36
  .rw[IN y];have an:zd s p=94\/zd s p=36:=(by rcases y with k|k;exact Q ((a.eqv 94 oa).1 k);exact O ((a.eqv 36 oa).1 k));refine⟨⟨2,Z,[],zd s p,0,0⟩,1,?_,⟨rfl,Qj rfl rfl⟩,a.next oa oa,oa,oa,?_⟩;unfold zB;rw[S,IN an,go0];show 0<=asV L n/\asV L n<=3/\zd s p=Q2 (asV L n)/\([]:List Pt)=[]
   unfold asV;rcases y with k|k;rw[IN k];exact⟨od,od,(a.eqv 94 oa).1 k,rfl⟩;rw[iN oa,IN k];exact⟨od,od,(a.eqv 36 oa).1 k,rfl⟩
  rw[iN y] at c ⊢;by_cases d:zj L n=92/\(zj L (n+1)=98\/zj L (n+1)=66)
  .rw[IN d];have k1:=(a.eqv 92 oa).1 d.1;have e:=a.go k1 oa oa;have k2:zd s (p+1)=98\/zd s (p+1)=66:=(by rcases d.2 with k|k;exact Q ((e.eqv 98 oa).1 k);exact O ((e.eqv 66 oa).1 k));refine⟨⟨2,Z,[],zd s (p+1),0,0⟩,2,?_,⟨rfl,Qj rfl rfl⟩,e.next oa oa,oa,oa,?_⟩;unfold zB;rw[S,iN oa,IN ⟨k1,k2⟩,go0];show 0<=asV L n/\asV L n<=3/\zd s (p+1)=Q2 (asV L n)/\([]:List Pt)=[]
   unfold asV;rw[iN oa,iN oa];by_cases k:zj L (n+1)=98;rw[IN k];exact⟨od,od,(e.eqv 98 oa).1 k,rfl⟩;rw[iN k];exact⟨od,od,(e.eqv 66 oa).1 (by rcases d.2 with q|q;exact absurd q k;exact q),rfl⟩
  rw[iN d] at c;exact absurd rfl c
 obtain⟨t,k,ai,⟨z,aK⟩,e,aT,ap,aN,aO,aL,aM⟩:=hs;have o:ja L s.size D DT n=wO (asV L n):=by unfold ja;rw[IN c]
 rw[o];refine⟨[t],f,p+k,Z,?_,e,oa,(λb=>by cases b),⟨Bal.one oa oa aK,yg.one oa oa,by show t.kind≠6;omega⟩,Q ⟨rfl,aN,aO,t,rfl,z,aL,aM⟩⟩;rw[qO (h:=st0 p) ⟨B,rfl⟩ (no_q P) (λb=>ap b.1),ai];simp only[];rw[z];have x:z7 2 op=op:=by unfold z7;simp
 rw[x,iN oa];rfl
theorem Q3 {n p:Nat}(h:Br s L n p):Zc L n=G↔(¬p<s.size\/zd s p=124\/zd s p=41):=by have a:=h.eqv 124 oa;have b:=h.eqv 41 oa;have c:=h.lt;unfold Zc;simp only[zhD,decide_eq_true_eq];constructor;omega;omega
theorem Kr (z:s.size<=400){op:Int}{D:Nat->Pro.Out}{F:Nat}{DT:Nat->Tree}(u:jz s L op D (F+1) DT)(j:DOK L D)(y:0<=op):∀(g f:Nat) (l:List Tok) (v:Int) (atom:Bool) (n p:Nat),Br s L n p->s.size<p+f->L.length<n+g->(atom=G->xA (zd s p)=Z)->0<=v->v<=301->
  Goes s L f l op atom p (xD L s.size D g v n) (λb=>(Bal b/\qG b≠6/\∀e,yg e v->yg (e++b) (xD L s.size D g v n).v)/\∃new,(∀zs,ju L s.size D DT g zs n=zs++new)/\TokS (qL (F+2)) b new)/\((xD L s.size D g v n).k=0->Zc L (xD L s.size D g v n).n=G)
 |0,f,l,v,atom,n,p,h,m,hg,i,N,au=>by have:=h.le;omega
 |g+1,f,l,v,atom,n,p,h,m,hg,i,N,au=>by
  simp only[xD];by_cases d:Zc L n=G
  .rw[IN d];exact⟨⟨λa=>absurd rfl a,λ_=>⟨[],f,p,atom,by rw[zhc],h,m,i,⟨Bal.nil,od,λe hu=>by rw[zhc];exact hu⟩,[],λzs=>by simp only[ju];rw[IN d,zhc],rfl⟩⟩,λ_=>d⟩
  .rw[iN d];have o:=λa=>d ((Q3 h).2 a);have x:p<s.size:=Classical.byContradiction λa=>o (Q a);have B:=zfj z u j y (l:=l) h m x i ⟨λa=>o (O (Q a)),λa=>o (O (O a))⟩;have an:=Vg (T:= s.size) j n (h.lt.2 x);by_cases c:(yL L s.size D n).k=0
   .rw[iN (by simp[c])];obtain⟨b,f1,p1,S,q,X,ak,ag,⟨hB,ai,w⟩,ap⟩:=B.2 c;have av:=an.2.2 c;obtain⟨P,r2⟩:=Kr z u j y g f1 (l++b) (min (v+(yL L s.size D n).v) 301) S _ p1 X ak oa ag oa oa;refine⟨⟨λa=>by rw[q];exact P.1 a,λa=>?_⟩,r2⟩;obtain⟨e,f2,p2,W,e2,b2,al,ah,⟨af,ad,aj⟩,new,ao,aq⟩:=P.2 a;refine⟨b++e,f2,p2,W,by rw[q,e2,zgX],b2,al,ah,⟨hB.append af,?_,λws hw=>?_⟩,ja L s.size D DT n :: new,λzs=>?_,b,e,rfl,ap,aq⟩
    .cases b with
     |nil=>exact ad
     |cons t r=>exact w
    .rw[<-zgX];exact aj (ws++b) (hw.append ai N av.2.1 w)
    .simp only[ju];rw[iN d,ao,zgX];rfl
   .rw[IN c];exact⟨⟨B.1,λa=>absurd a c⟩,λa=>absurd a c⟩
end Eqv
namespace Eqv
variable {s:ByteArray} {L:List (Int×Int)}
theorem Ks (af:s.size<=400){op:Int}{D:Nat->Pro.Out}{F:Nat}{DT:Nat->Tree}(hD:jz s L op D (F+1) DT)(B:DOK L D)(ae:0<=op):∀(g f:Nat) (l:List Tok) (zs:List Int) (n p:Nat),Br s L n p->s.size<p+f->L.length<n+g->(∀z∈zs,0<=z)->
  Goes s L f l op Z p (vk L s.size D g zs n) (λb=>(Bal b/\qG b≠6/\∀q,yg q (min (xr 0 zs+zs.length) 301)->yg (q++b) (vk L s.size D g zs n).v)/\∃new,(∀u,altT L s.size D DT g u n=u++new)/\wK (qL (F+2)) b new)/\((vk L s.size D g zs n).k=0->Zc L (vk L s.size D g zs n).n=G/\zj L (vk L s.size D g zs n).n≠124)
 |0,f,l,zs,n,p,a,hf,hg,hz=>by have:=a.le;omega
 |g+1,f,l,zs,n,p,a,hf,hg,hz=>by
  have aP:=a.le;have a1:=Xq zs 0 oa oa hz;obtain⟨S,t2⟩:=Kr af hD B ae (L.length+1-n) f l 0 Z n p a hf oa (λc=>by cases c) oa oa;have aS:=Xr (T:= s.size) B n aP;have e0:zS L s.size D n=xD L s.size D (L.length+1-n) 0 n:=rfl;rw[<-e0] at S t2;simp only[vk];by_cases e:(zS L s.size D n).k=0
  .rw[iN (by simp[e])];obtain⟨b,f1,d,W,x,w,aL,ab,⟨X,o,aI⟩,m,aT,ah⟩:=S.2 e;have ai:xX L s.size D DT n=ZH m:=(by unfold xX;rw[aT,zho]);have aR:=t2 e;have aj:yg b (zS L s.size D n).v:=aI [] yg.nil;have ak:=aS.2.2 e;have N:=sumS_append zs 0 (zS L s.size D n).v;by_cases j:zj L (zS L s.size D n).n=124
   .rw[IN j];have hb:=(w.eqv 124 oa).1 j;have aQ:d<s.size:=(zw s d).1 oa;have b2:=w.go hb oa oa;obtain⟨f1,rfl⟩:∃f',f1=f'+1:=⟨f1-1,oa⟩
    have et:zB s (st0 d)=(⟨5,Z,[],0,0,0⟩,st0 (d+1)):=by
     have hi:(st0 d).i=d:=rfl;unfold zB;rw[hi,iN oa,iN oa,IN hb,go0]
    have ag:zP s (f1+1) (l++b) op W (st0 d)=zP s f1 (l++b++[⟨5,Z,[],0,0,0⟩]) op Z (st0 (d+1)):=by
     rw[qO (h:=st0 d) ⟨aQ,rfl⟩ (no_q ab) (λc=>by have:zd s d=40:=c.1;omega),et];simp only[];have e5:z7 5 op=op:=(by unfold z7;simp);rw[e5,iN oa];rfl
    have aU:∀z∈zs++[(zS L s.size D n).v],0<=z:=(by grind);obtain⟨r1,r2⟩:=Ks af hD B ae g f1 (l++b++[⟨5,Z,[],0,0,0⟩]) (zs++[(zS L s.size D n).v]) _ (d+1) b2 oa oa aU;refine⟨⟨λc=>by rw[x,ag];exact r1.1 c,λc=>?_⟩,r2⟩;obtain⟨q,f2,p2,aq,e2,b3,aM,aH,⟨aG,a0,aJ⟩,an,aK,am,fin,aV,aW,c1,c2,c3,c4,c5⟩:=r1.2 c;refine⟨b++[⟨5,Z,[],0,0,0⟩]++q,f2,p2,aq,by rw[x,ag,e2];simp only[zgX],b3,aM,aH,⟨(X.append (Bal.one (show(5:Int)≠3 by decide) (show(5:Int)≠4 by decide) (Qj rfl rfl))).append aG,?_,λws P=>?_⟩,ZH m :: an,λu=>?_,b++[⟨5,Z,[],0,0,0⟩]++am,fin,ZH m :: aV,aW,by rw[c1];simp only[zgX],by rw[c2];rfl,⟨b,am,⟨5,Z,[],0,0,0⟩,ov,rfl,rfl,ah,c3⟩,c4,c5⟩
    .cases b with
     |nil=>exact(show(5:Int)≠6 by decide)
     |cons t r=>exact o
    .rw[<-zgX,<-zgX];refine aJ _ ?_;have y:=P.append aj oa ak.1 o;have h2:=y.append (yg.bar (t:=⟨5,Z,[],0,0,0⟩) rfl) oa oa (show(5:Int)≠6 by decide);refine h2.weak ?_ oa ?_
     .grind
     .rw[N];omega
    .simp only[altT];rw[IN j,ai,aK,zgX];rfl
   .rw[iN j];refine⟨⟨λc=>absurd rfl c,λ_=>⟨b,f1,d,W,x,w,aL,ab,⟨X,o,λws P=>?_⟩,[ZH m],λu=>by simp only[altT];rw[iN j,ai],[],b,[],ZH m,rfl,rfl,rfl,rfl,ah⟩⟩,λ_=>⟨aR,j⟩⟩;have y:=P.append aj oa ak.1 o;refine y.weak ?_ oa ?_
    .show min (min (min (xr 0 zs+zs.length) 301+_) 301) 301=min (min (xr 0 (zs++[_])+((zs.length:Int)+1)-1) 301) 301;rw[N];omega
    .show 0<=min (xr 0 (zs++[_])+((zs.length:Int)+1)-1) 301;rw[N];omega
  .rw[IN e];exact⟨⟨S.1,λc=>absurd c e⟩,λc=>absurd c e⟩
theorem zda:jz s L 10 (zD L s.size 0) 1 (qC L s.size 0):=by
 intro f l g n p a i c;have e:p<s.size:=(zw s p).1 oa;obtain⟨f,rfl⟩:∃d,f=d+1:=⟨f-1,oa⟩
 refine⟨λ_=>⟨[],?_⟩,λb=>absurd b (by simp[zD,Pro.bad])⟩;rw[QI (h:=st0 p) ⟨e,rfl⟩ (λb=>by have:xA (zd s p)=G:=b.2;rw[c] at this;exact absurd this od) ⟨c,rfl⟩];show([],(7:Int),(p:Int))=([],((7:Nat):Int),zC L s.size n)
 rw[a.place];rfl
theorem zdb (ax:s.size<=400){op:Int}{r F:Nat}(aK:0<=op)(aE:op<10)(hD:jz s L (op+1) (zD L s.size r) (F+1) (qC L s.size r)):jz s L op (zD L s.size (r+1)) (F+3) (qC L s.size (r+1)):=by
 intro f l t n p a hf w;have P:p<s.size:=(zw s p).1 oa;have aq:=a.lt.2 P;obtain⟨f,rfl⟩:∃m,f=m+1:=⟨f-1,oa⟩
 have hi:(st0 p).i=p:=rfl;have et:zB s (st0 p)=(⟨3,Z,[],0,0,0⟩,jW s (st0 p)):=by unfold zB;rw[hi,iN oa,iN oa,iN oa,iN oa,iN oa,iN oa,IN w]
 have ar:¬(t=G/\xA (zd s (st0 p).i)=G):=λb=>by have:xA (zd s p)=G:=b.2;rw[w] at this;exact absurd this od
 have ay:zP s (f+1) l op t (st0 p)=zP s f (l++[⟨3,Z,[],0,0,0⟩]) (op+1) Z (jW s (st0 p)):=by
  rw[qO (h:=st0 p) ⟨P,rfl⟩ ar (λb=>by have:=b.2;omega),et];simp only[];have e3:z7 3 op=op+1:=by unfold z7;simp
  rw[e3,iN oa];rfl
 have y:=zfh a w;have au:=QQ (L:=L) (T:= s.size) n aq;rw[ay];simp only[zD];unfold wF;by_cases g:(z8 L s.size n).k=0
 .obtain⟨X,a2,_,u⟩:=y.1 g;rw[iN (by simp[g]),ZS X a2];have aJ:p<(jW s (st0 p)).i:=by by_cases b:p<(jW s (st0 p)).i;exact b;exfalso;have:=ZT a u oa;omega
  have aG:=u.le;obtain⟨z,W⟩:=Ks ax hD (qI r) oa (L.length+1-(z8 L s.size n).n) f (l++[⟨3,Z,[],0,0,0⟩]) [] (z8 L s.size n).n _ u oa oa ov;have e0:yR L s.size (zD L s.size r) (z8 L s.size n).n=vk L s.size (zD L s.size r) (L.length+1-(z8 L s.size n).n) [] (z8 L s.size n).n:=rfl;rw[<-e0] at z W;have aj:=Yf (L:=L) (T:= s.size) (D:=zD L s.size r) (qI r) (z8 L s.size n).n au.2;by_cases j:(yR L s.size (zD L s.size r) (z8 L s.size n).n).k=0
  .rw[iN (by simp[j])];obtain⟨o,e,c,aD,e2,d,aI,aF,⟨B,_,ai⟩,aa,ak,az⟩:=z.2 j;obtain⟨av,aw⟩:=W j;have aA:yg o (yR L s.size (zD L s.size r) (z8 L s.size n).n).v:=ai [] (by exact yg.nil);have S:=aj.2.2 j;rw[e2];by_cases q:zj L (yR L s.size (zD L s.size r) (z8 L s.size n).n).n=41
   .rw[IN q];have x:=(d.eqv 41 oa).1 q;have ap:c<s.size:=(zw s c).1 oa;obtain⟨e,rfl⟩:∃m,e=m+1:=⟨e-1,oa⟩
    refine⟨λb=>absurd rfl b,λ_=>⟨⟨3,Z,[],0,0,0⟩ :: o++[⟨4,Z,[],0,0,0⟩],e,c+1,?_,d.go x oa oa,oa,vC.group rfl rfl (Qj rfl rfl) (Qj rfl rfl) B aA S.1 S.2,rfl,O (O (Q ⟨rfl,_,_,o,rfl,rfl,rfl,B,?_⟩))⟩⟩
    rotate_left
    (show wK (qL (F+2)) o (altT L s.size (zD L s.size r) (qC L s.size r) (L.length+1-(z8 L s.size n).n) [] (z8 L s.size n).n);rw[ak,zho];exact az;have an:(st0 c).i=c:=rfl;have ag:zB s (st0 c)=(⟨4,Z,[],0,0,0⟩,st0 (c+1)):=by unfold zB;rw[an,iN oa,iN oa,iN oa,iN oa,iN oa,iN oa,iN oa,IN x,go0]);rw[qO (h:=st0 c) ⟨ap,rfl⟩ (λb=>by have:xA (zd s c)=G:=b.2;rw[x] at this;exact absurd this od) (λb=>by have:zd s c=40:=b.1;omega),ag];simp only[];have e4:z7 4 (op+1)=op:=(by unfold z7;rw[iN od,IN rfl];omega);rw[e4,iN oa];simp only[zgX,zhf,zho];rfl
   (rw[iN q];refine⟨λ_=>?_,λb=>absurd b (by simp[Pro.bad])⟩;have al:¬c<s.size:=by rcases(Q3 d).1 av with k|k|k;exact k;exact absurd ((d.eqv 124 oa).2 k) aw;exact absurd ((d.eqv 41 oa).2 k) q);obtain⟨e,rfl⟩:∃m,e=m+1:=⟨e-1,by have:=d.good.le;omega⟩
   rw[wZ (h:=st0 c) (λb=>al b.1),IN oa,fail0];refine⟨l++[⟨3,Z,[],0,0,0⟩]++o,?_⟩;have:=d.good.le;have:=d.place;show(_,(3:Int),( s.size:Int))=(_,((3:Nat):Int),zC L s.size _)
   rw[d.place,show c=s.size by omega];rfl
  rw[IN j];exact⟨z.1,λb=>absurd b j⟩
 rw[IN g];have N:=y.2 g;obtain⟨l',hl⟩:=kX (s:=s) (f:=f) (l:=l++[⟨3,Z,[],0,0,0⟩]) (op:=op+1) (atom:=Z) (zc9 y g);exact⟨λ_=>⟨l',by rw[hl,N.1,N.2]⟩,λb=>absurd b g⟩
theorem Jw (a:s.size<=400):∀r:Nat,r<=10->jz s L ((10:Int)-r) (zD L s.size r) (2*r+1) (qC L s.size r)
 |0,_=>zda
 |r+1,b=>by
  refine zdb a (F:=2*r) oa oa ?_;rw[show((10:Int)-((r+1:Nat):Int))+1=(10:Int)-r by omega];exact Jw a r oa
theorem zdc (w:s.size<=400)(a:Br s L 0 0):((yR L s.size (zD L s.size 10) 0).k≠0->∃j,yG s=(j,((yR L s.size (zD L s.size 10) 0).k:Int),(yR L s.size (zD L s.size 10) 0).p))/\((yR L s.size (zD L s.size 10) 0).k=0->((yR L s.size (zD L s.size 10) 0).n=L.length->∃c,yG s=(c,0,0)/\Bal c/\yg c (yR L s.size (zD L s.size 10) 0).v/\wK (qL 22) c (wG L s.size (zD L s.size 10) (qC L s.size 10) 0).kids)/\((yR L s.size (zD L s.size 10) 0).n≠L.length->∃j,yG s=(j,3,zC L s.size (yR L s.size (zD L s.size 10) 0).n))):=by
 have T:jz s L 0 (zD L s.size 10) 21 (qC L s.size 10):=Jw w 10 oa;obtain⟨o,x⟩:=Ks w T (qI 10) oa (L.length+1-0) (s.size+1) [] [] 0 0 a oa oa ov;have z:yR L s.size (zD L s.size 10) 0=vk L s.size (zD L s.size 10) (L.length+1-0) [] 0:=rfl;rw[<-z] at o x;have N:yG s=zP s (s.size+1) [] 0 Z (st0 0):=rfl;rw[N];refine⟨o.1,λt=>?_⟩;obtain⟨c,e,b,ai,B,d,ak,aj,⟨S,_,W⟩,y,X,ag⟩:=o.2 t;obtain⟨ae,af⟩:=x t;have ah:yg c _:=W [] (by exact yg.nil);rw[B];constructor
 .intro hn;have aa:¬b<s.size:=λg=>by have:=d.lt.2 g;omega
  obtain⟨e,rfl⟩:∃m,e=m+1:=⟨e-1,by have:=d.good.le;omega⟩
  have ab:(wG L s.size (zD L s.size 10) (qC L s.size 10) 0).kids=y:=(X []).trans (zho _);refine⟨c,?_,S,ah,by rw[ab];exact ag⟩;rw[wZ (h:=st0 b) (λg=>aa g.1),iN oa];rfl
 intro hn;have u:b<s.size:=d.lt.1 (by have:=d.le;omega);have q:zd s b=41:=by rcases(Q3 d).1 ae with k|k|k;exact absurd u k;exact absurd ((d.eqv 124 oa).2 k) af;exact k
 obtain⟨e,rfl⟩:∃m,e=m+1:=⟨e-1,oa⟩
 have r:(st0 b).i=b:=rfl;have P:zB s (st0 b)=(⟨4,Z,[],0,0,0⟩,st0 (b+1)):=by unfold zB;rw[r,iN oa,iN oa,iN oa,iN oa,iN oa,iN oa,iN oa,IN q,go0]
 rw[qO (h:=st0 b) ⟨u,rfl⟩ (λg=>by have:xA (zd s b)=G:=g.2;rw[q] at this;exact absurd this od) (λg=>by have:zd s b=40:=g.1;omega),P];simp only[];have F:z7 4 0 = -1:=od;rw[F,IN od,fail0,r];obtain⟨j,hl⟩:=kX (s:=s) (f:=e) (l:=[]++c++[⟨4,Z,[],0,0,0⟩]) (op:=-1) (atom:=((4:Int) == 1) ||((4:Int) == 4)) (h:=⟨b+1,3,b⟩) (show(3:Int)≠0 by decide);exact⟨j,by rw[hl,d.place]⟩
end Eqv
namespace Eqv
variable {s:ByteArray}
abbrev cont (b:Int):Prop:=128<=b/\b<=191
theorem WR {k:Nat}(h:cont (zd s k)):k<s.size:=(zw s k).1 (by unfold cont at h;omega)
theorem qY (k:Nat)(b a:Int)(d:128<=b)(_c:a<=191):jk s k b a=G↔(b<=zd s k/\zd s k<=a):=by constructor;exact λh=>zaK h;intro h;exact VJ ((zw s k).1 oa) oa oa
theorem zea {p:Nat}(d:192<=zd s p/\zd s p<224):(cont (zd s (p+1))->xo s p=if Z8 2 ((zd s p-192)*64+zd s (p+1)-128)=G then U else I (2,(zd s p-192)*64+zd s (p+1)-128))/\(¬cont (zd s (p+1))->xo s p=U):=by
 have a:Ref.headK (zd s p)=2:=by unfold Ref.headK headN;rw[iN oa,IN d];rfl
 have c:jH (zd s p)=zd s p-192:=by unfold jH;rw[iN oa,IN d]
 constructor
 .intro b;have:=WR b;have e:q9 s p 1 1 (zd s p-192)=I ((zd s p-192)*64+zd s (p+1)-128):=by rw[qz (by unfold cont at b;omega)];rfl
  unfold xo;rw[a,c,iN oa];simp only[show 2-1=1 from rfl,e]
 intro b;by_cases f:s.size<p+2;exact vf (by rw[a];exact O f);exact Z9 (by rw[a];omega) (by rw[a,c];exact ve (by unfold cont at b;omega))
theorem VR {p:Nat}(f:224<=zd s p/\zd s p<240):(cont (zd s (p+1))/\cont (zd s (p+2))->xo s p=if Z8 3 (((zd s p-224)*64+zd s (p+1)-128)*64+zd s (p+2)-128)=G then U else I (3,((zd s p-224)*64+zd s (p+1)-128)*64+zd s (p+2)-128))/\(¬(cont (zd s (p+1))/\cont (zd s (p+2)))->xo s p=U):=by
 have a:Ref.headK (zd s p)=3:=by unfold Ref.headK headN;rw[iN oa,iN oa,IN f];rfl
 have d:jH (zd s p)=zd s p-224:=by unfold jH;rw[iN oa,iN oa,IN f]
 constructor
 .rintro⟨b,g⟩;have:=WR g;have e:q9 s p 2 1 (zd s p-224)=I (((zd s p-224)*64+zd s (p+1)-128)*64+zd s (p+2)-128):=by rw[qz (by unfold cont at b;omega),qz (by unfold cont at g;show ¬(zd s (p+2)<128\/191<zd s (p+2));omega)];rfl
  unfold xo;rw[a,d,iN oa];simp only[show 3-1=2 from rfl,e]
 intro b;by_cases h:s.size<p+3;exact vf (by rw[a];exact O h);refine Z9 (by rw[a];omega) ?_;rw[a,d];show q9 s p 2 1 _=U;by_cases c:cont (zd s (p+1));rw[qz (by unfold cont at c;omega)];exact ve (by unfold cont at b c;show zd s (p+2)<128\/191<zd s (p+2);omega);exact ve (by unfold cont at c;omega)
theorem za1 {p:Nat}(g:240<=zd s p/\zd s p<248):(cont (zd s (p+1))/\cont (zd s (p+2))/\cont (zd s (p+3))->xo s p=if Z8 4 ((((zd s p-240)*64+zd s (p+1)-128)*64+zd s (p+2)-128)*64+zd s (p+3)-128)=G then U else I (4,(((zd s p-240)*64+zd s (p+1)-128)*64+zd s (p+2)-128)*64+zd s (p+3)-128))/\(¬(cont (zd s (p+1))/\cont (zd s (p+2))/\cont (zd s (p+3)))->xo s p=U):=by
 have a:Ref.headK (zd s p)=4:=by unfold Ref.headK headN;rw[iN oa,iN oa,iN oa,IN g];rfl
 have f:jH (zd s p)=zd s p-240:=by unfold jH;rw[iN oa,iN oa,iN oa,IN g]
 constructor
 .rintro⟨b,i,h⟩;have:=WR h;have e:q9 s p 3 1 (zd s p-240)=I ((((zd s p-240)*64+zd s (p+1)-128)*64+zd s (p+2)-128)*64+zd s (p+3)-128):=by rw[qz (by unfold cont at b;omega),qz (by unfold cont at i;show ¬(zd s (p+2)<128\/191<zd s (p+2));omega),qz (by unfold cont at h;show ¬(zd s (p+3)<128\/191<zd s (p+3));omega)];rfl
  unfold xo;rw[a,f,iN oa];simp only[show 4-1=3 from rfl,e]
 intro b;by_cases j:s.size<p+4;exact vf (by rw[a];exact O j);refine Z9 (by rw[a];omega) ?_;rw[a,f];show q9 s p 3 1 _=U;by_cases c:cont (zd s (p+1));rw[qz (by unfold cont at c;omega)];by_cases d:cont (zd s (p+2));rw[qz (by unfold cont at d;show ¬(zd s (p+2)<128\/191<zd s (p+2));omega)];exact ve (by unfold cont at b c d;show zd s (p+3)<128\/191<zd s (p+3);omega);exact ve (by unfold cont at d;show zd s (p+2)<128\/191<zd s (p+2);omega);exact ve (by unfold cont at c;omega)
def ahead (p:Nat):Option (Nat×Int)->Option (Nat×Int)
 |none=>U
 |some (n,c)=>I (p+n,c)
theorem kf (n:Nat)(c:Int):Z8 n c=G↔(c<jq n\/1114111<c\/(55296<=c/\c<=57343)):=by unfold Z8;simp[or_assoc]
theorem Zy {p:Nat}(r:p<s.size):qd s p=ahead p (xo s p):=by
 have W:=(zw s p).2 r;have X:=xj s p;have F:jq ((2:Nat):Int)=128:=rfl;have L:jq ((3:Nat):Int)=2048:=rfl;have N:jq ((4:Nat):Int)=65536:=rfl;by_cases f:zd s p<128
 .have j:Ref.headK (zd s p)=1:=by unfold Ref.headK headN;rw[IN f];rfl
  have x:jH (zd s p)=zd s p:=by unfold jH;rw[IN f]
  have z:jq ((1:Nat):Int)=0:=rfl;have:xo s p=I (1,zd s p):=by have:=Wd (s:=s) (p:=p) (c:=zd s p) (by rw[j];omega) (by rw[j,x];rfl) (by rw[j];cases hx:Z8 1 (zd s p) with|false=>rfl|true=>have:=(kf 1 _).1 hx;omega);rw[j] at this;exact this
  rw[this,Js r f];have:qM (zd s p)=zd s p:=by unfold qM;rw[IN f]
  rw[this];rfl
 by_cases c1:zd s p<192;have j:Ref.headK (zd s p)=0:=(by unfold Ref.headK headN;rw[iN f,iN oa,iN oa,iN oa];rfl);rw[vf (Q j),vV (by unfold jG;rw[iN f,IN oa])];rfl;by_cases i:zd s p<224;have q:=zea (s:=s) (p:=p) ⟨oa,i⟩;by_cases d:cont (zd s (p+1));rw[q.1 d];by_cases h:zd s p<194;rw[vV (by unfold jG;rw[iN f,IN h]),IN ((kf 2 _).2 (by rw[F];unfold cont at d;omega))];rfl;rw[iN (λe=>by have:=(kf 2 _).1 e;rw[F] at this;unfold cont at d;omega)];rw[jy r (l:=0) (by unfold jG;rw[iN f,iN h,IN i]) oa];show oneM s (p+1) _=_;unfold oneM;rw[IN ((qY _ _ _ oa oa).2 d)];have:qM (zd s p)=zd s p-192:=(by unfold qM;rw[iN f,IN i];omega);rw[this];rfl;rw[q.2 d];by_cases h:zd s p<194;rw[vV (by unfold jG;rw[iN f,IN h])];rfl;rw[jy r (l:=0) (by unfold jG;rw[iN f,iN h,IN i]) oa];show oneM s (p+1) _=_;unfold oneM;rw[iN (λe=>d ((qY _ _ _ oa oa).1 e))];rfl;by_cases h:zd s p<240
 ·(have q:=VR (s:=s) (p:=p) ⟨oa,h⟩;have z:qM (zd s p)=zd s p-224:=(by unfold qM;rw[iN f,iN i,IN h];omega);have key:qd s p=(if(if zd s p=224 then 160 else 128)<=zd s (p+1)/\zd s (p+1)<=(if zd s p=237 then 159 else 191) then(if cont (zd s (p+2)) then I (p+3,((zd s p-224)*64+zd s (p+1)-128)*64+zd s (p+2)-128) else U) else U):=by (have w:∀o n:Int,128<=o->n<=191->(if jk s (p+1) o n=G then oneM s (p+1+1) (qM (zd s p)*64+zd s (p+1)-128) else U)=(if o<=zd s (p+1)/\zd s (p+1)<=n then(if cont (zd s (p+2)) then I (p+3,((zd s p-224)*64+zd s (p+1)-128)*64+zd s (p+2)-128) else U) else U):=by intro o n j x;by_cases g:o<=zd s (p+1)/\zd s (p+1)<=n;rw[IN ((qY _ _ _ j x).2 g),IN g,z];unfold oneM;by_cases d:cont (zd s (p+2));rw[IN ((qY (p+2) _ _ oa oa).2 d),IN d];rw[iN (λe=>d ((qY (p+2) _ _ oa oa).1 e)),iN d];rw[iN (λe=>g ((qY _ _ _ j x).1 e)),iN g]);by_cases k:zd s p=224;rw[jy r (l:=1) (by unfold jG;rw[iN f,iN oa,iN i,IN k]) oa,IN k,iN (show ¬zd s p=237 by omega)];exact w 160 191 oa oa;by_cases v:zd s p=237;rw[jy r (l:=2) (by unfold jG;rw[iN f,iN oa,iN i,iN k,IN v]) oa,iN k,IN v];exact w 128 159 oa oa;rw[jy r (l:=3) (by unfold jG;rw[iN f,iN oa,iN i,iN k,iN v,IN h]) oa,iN k,iN v];exact w 128 191 oa oa);rw[key];by_cases d:cont (zd s (p+1))/\cont (zd s (p+2));rw[q.1 d];obtain⟨u,m⟩:=d;rw[IN m];by_cases t:Z8 3 (((zd s p-224)*64+zd s (p+1)-128)*64+zd s (p+2)-128)=G;rw[IN t,iN (λe=>by have:=(kf 3 _).1 t;rw[L] at this;unfold cont at u m;split at e<;>split at e<;>omega)];rfl;have S:¬(((zd s p-224)*64+zd s (p+1)-128)*64+zd s (p+2)-128<2048\/1114111<((zd s p-224)*64+zd s (p+1)-128)*64+zd s (p+2)-128\/(55296<=((zd s p-224)*64+zd s (p+1)-128)*64+zd s (p+2)-128/\((zd s p-224)*64+zd s (p+1)-128)*64+zd s (p+2)-128<=57343)):=λe=>t ((kf 3 _).2 (by rw[L];exact e));rw[iN t,IN (by unfold cont at u m;constructor<;>split<;>omega)];rfl;rw[q.2 d];by_cases g:(if zd s p=224 then(160:Int) else 128)<=zd s (p+1)/\zd s (p+1)<=(if zd s p=237 then(159:Int) else 191)
  have u:cont (zd s (p+1)):=(by unfold cont;obtain⟨a,b⟩:=g;split at a<;>split at b<;>omega);rw[IN g,iN (λe=>d ⟨u,e⟩)];rfl;rw[iN g];rfl
 by_cases P:zd s p<248
 .have q:=za1 (s:=s) (p:=p) ⟨oa,P⟩;have z:qM (zd s p)=zd s p-240:=(by unfold qM;rw[iN f,iN i,iN h];omega);by_cases T:245<=zd s p;rw[vV (by unfold jG;rw[iN f,iN oa,iN i,iN oa,iN oa,iN h,iN oa,iN oa,iN oa])];by_cases d:cont (zd s (p+1))/\cont (zd s (p+2))/\cont (zd s (p+3));rw[q.1 d,IN ((kf 4 _).2 (by unfold cont at d;omega))];rfl;rw[q.2 d];rfl
  (have key:qd s p=(if(if zd s p=240 then 144 else 128)<=zd s (p+1)/\zd s (p+1)<=(if zd s p=244 then 143 else 191) then(if cont (zd s (p+2)) then(if cont (zd s (p+3)) then I (p+4,(((zd s p-240)*64+zd s (p+1)-128)*64+zd s (p+2)-128)*64+zd s (p+3)-128) else U) else U) else U):=by (have w:∀o n:Int,128<=o->n<=191->(if jk s (p+1) o n=G then twoM s (p+1+1) (qM (zd s p)*64+zd s (p+1)-128) else U)=(if o<=zd s (p+1)/\zd s (p+1)<=n then(if cont (zd s (p+2)) then(if cont (zd s (p+3)) then I (p+4,(((zd s p-240)*64+zd s (p+1)-128)*64+zd s (p+2)-128)*64+zd s (p+3)-128) else U) else U) else U):=by intro o n j x;by_cases g:o<=zd s (p+1)/\zd s (p+1)<=n;rw[IN ((qY _ _ _ j x).2 g),IN g,z];unfold twoM oneM;by_cases d:cont (zd s (p+2));rw[IN ((qY (p+2) _ _ oa oa).2 d),IN d];by_cases y:cont (zd s (p+3));rw[IN ((qY (p+3) _ _ oa oa).2 y),IN y];rw[iN (λe=>y ((qY (p+3) _ _ oa oa).1 e)),iN y];rw[iN (λe=>d ((qY (p+2) _ _ oa oa).1 e)),iN d];rw[iN (λe=>g ((qY _ _ _ j x).1 e)),iN g]);by_cases k:zd s p=240;rw[jy r (l:=4) (by unfold jG;rw[iN f,iN oa,iN i,iN oa,iN oa,iN h,IN k]) oa,IN k,iN (show ¬zd s p=244 by omega)];exact w 144 191 oa oa;by_cases v:zd s p=244;rw[jy r (l:=6) (by unfold jG;rw[iN f,iN oa,iN i,iN oa,iN oa,iN h,iN k,iN oa,IN v]) oa,iN k,IN v];exact w 128 143 oa oa;rw[jy r (l:=5) (by unfold jG;rw[iN f,iN oa,iN i,iN oa,iN oa,iN h,iN k,IN oa]) oa,iN k,iN v];exact w 128 191 oa oa);rw[key];by_cases d:cont (zd s (p+1))/\cont (zd s (p+2))/\cont (zd s (p+3));rw[q.1 d];obtain⟨u,m,B⟩:=d;rw[IN m,IN B];by_cases t:Z8 4 ((((zd s p-240)*64+zd s (p+1)-128)*64+zd s (p+2)-128)*64+zd s (p+3)-128)=G;rw[IN t,iN (λe=>by have:=(kf 4 _).1 t;rw[N] at this;unfold cont at u m B;split at e<;>split at e<;>omega)];rfl;have S:¬((((zd s p-240)*64+zd s (p+1)-128)*64+zd s (p+2)-128)*64+zd s (p+3)-128<65536\/1114111<(((zd s p-240)*64+zd s (p+1)-128)*64+zd s (p+2)-128)*64+zd s (p+3)-128\/(55296<=(((zd s p-240)*64+zd s (p+1)-128)*64+zd s (p+2)-128)*64+zd s (p+3)-128/\(((zd s p-240)*64+zd s (p+1)-128)*64+zd s (p+2)-128)*64+zd s (p+3)-128<=57343)):=λe=>t ((kf 4 _).2 (by rw[N];exact e));rw[iN t,IN (by unfold cont at u m B;constructor<;>split<;>omega)];rfl;rw[q.2 d];by_cases g:(if zd s p=240 then(144:Int) else 128)<=zd s (p+1)/\zd s (p+1)<=(if zd s p=244 then(143:Int) else 191)
  have u:cont (zd s (p+1)):=(by unfold cont;obtain⟨a,b⟩:=g;split at a<;>split at b<;>omega);rw[IN g];by_cases m:cont (zd s (p+2));rw[IN m,iN (λe=>d ⟨u,m,e⟩)];rfl;rw[iN m];rfl;rw[iN g];rfl
 have j:Ref.headK (zd s p)=0:=(by unfold Ref.headK headN;rw[iN f,iN oa,iN oa,iN oa];rfl);rw[vf (Q j),vV (by unfold jG;rw[iN f,iN oa,iN i,iN oa,iN oa,iN h,iN oa,iN oa,iN oa])];rfl
end Eqv
end
