/- The reference's sizes: an atom without its brackets. -/
import Derived.Test.YtcgleficedipkaaGreatDoorYEqAEqI
namespace Go.Proofs.YtcgleficedipkaaGreatDoor
open Option renaming none->U,some->I
open Value renaming int->M,slice->K,bool->C,pointer->Ua,string->Uc,tuple->Ue
open IntKind renaming i64->J
open Bool renaming false->Z,true->G
open _root_.Go.Proofs.Tryz renaming prog->V
open Go renaming World->E,Value->Y,Calls->Uh
open Go.RowKit renaming Hid->H
open Or renaming inr->O,inl->Q
open Ending renaming returned->R
open Ref
open _root_.Go.Proofs.Tryz
variable (s:ByteArray)(w:World){base g off:Nat}(x:Int)(F:Nat){v:Value}
section
open Go.RowKit
set_option maxHeartbeats 800000
namespace Ref
theorem QJ (l:List Tok):∀(f k:Nat) (op:Int) (m:Nat),scan (l.drop k) op k=I m->l.length<k+f->xG l f k op=(m:Int)/\m<l.length/\k<=m
 |0,k,op,m,h,c=>by rw[zit oa] at h;cases h
 |f+1,k,op,m,h,c=>by
  by_cases a:k<l.length
  .have b:l.drop k=l[k] :: l.drop (k+1):=zin a;have d:zT l k=l[k].kind:=(by unfold zT;rw[zgE a]);rw[b,vW] at h;simp only[xG];rw[IN a,d];by_cases e:z7 l[k].kind op=0
   grind
   rw[iN e] at h ⊢;have:=QJ l f (k+1) _ m h oa;exact⟨this.1,this.2.1,oa⟩
  rw[zit oa] at h;cases h
theorem zbY:∀(r:List Tok) (op:Int) (a b j:Nat),scan r op a=I j->scan r op (a+b)=I (j+b)
 | [],op,a,b,j,h=>by cases h
 |t :: r,op,a,b,j,h=>by
  rw[vW] at h ⊢;by_cases c:z7 t.kind op=0;rw[IN c] at h ⊢;cases h;rfl;rw[iN c] at h ⊢;rw[show a+b+1=a+1+b by omega];exact zbY r _ (a+1) b j h
theorem zdM (r:List Tok)(op:Int)(k j:Nat)(h:scan r op 0=I j):scan r op k=I (j+k):=by have:=zbY r op 0 k j h;rw[zg6] at this;exact this
theorem XK {l:List Tok}{i j:Nat}(c:i<l.length)(a:zT l i=3)(h:scan (l.drop (i+1)) 1 0=I j):qF l i=((i+j+2:Nat):Int)/\i+j+2<=l.length:=by
 have d:=zdM _ _ (i+1) j h;have b:=QJ l (l.length-i) (i+1) 1 _ d oa;have e:xB l i=((j+(i+1):Nat):Int):=by
  unfold xB;rw[show l.length+1-i=(l.length-i)+1 by omega];simp only[xG];have:z7 (zT l i) 0=1:=by rw[a];rfl
  rw[IN c,this,iN od];exact b.1
 unfold qF;rw[IN a,e];omega
theorem zbZ {k:Int}{t:Tok}(a:0<=k)(h:kJ t):0<=qe k t.mn t.mx:=by unfold kJ at h;unfold qe;split;have:0<=(if t.mn=0 then(1:Int) else t.mn)*k:=zhu (by split<;>omega) a;omega;have b:0<=t.mn*k:=zhu h.1 a;have c:0<=(t.mx-t.mn)*(k+1):=zhu oa oa;omega
theorem K9 {rest:List Tok}{k:Int}{t:Tok}(h:t∈(zR rest k).2):t∈rest:=by
 unfold zR at h;cases rest with
 |nil=>exact h
 |cons q r=>
  simp only[] at h;split at h;exact zgR _ h;exact h
theorem Va (rest:List Tok)(k:Int):(zR rest k).2.length<=rest.length:=by
 unfold zR;cases rest with
 |nil=>exact zgH _
 |cons q r=>simp only[];split<;>simp
theorem Wj {rest:List Tok}{k:Int}(a:0<=k)(h:∀t∈rest,kJ t):0<=(zR rest k).1:=by
 unfold zR;cases rest with
 |nil=>exact a
 |cons q r=>
  simp only[];split;exact zbZ a (h q (zgQ ..));exact a
theorem zb0:∀(f:Nat) (l:List Tok) (n z b:Int),yK f l n=I z->(∀t∈l,kJ t)->0<=n->0<=b->n<=1000000+b->0<=z/\z<=1000000+b+l.length:=by
 intro f
 induction f with
 |zero=>intro l n z b h;cases h
 |succ f d=>
  intro l n z b h m v e w;cases l with
  |nil=>simp[yK] at h;subst h;simp;omega
  |cons t r=>
   have c:∀u∈r,kJ u:=λu a=>m u (zgR _ a);unfold yK at h;simp only[zg4];split at h;have:=d r (n+1) z (b+1) h c oa oa oa;omega;split at h;split at h;cases h;rename_i j s;split at h;cases h;rename_i k o;have p:=(d (r.take j) 0 k 0 o (λu a=>c u (ziA a)) oa oa oa).1;have g:∀u∈r.drop (j+1),kJ u:=λu a=>c u (ziB a);have q:=Wj p g;have:=d _ _ z b h (λu a=>g u (K9 a)) oa e oa;have i:=Va (r.drop (j+1)) k;rw[zhH] at i;omega;have q:=Wj (k:=1) oa c;have:=d _ _ z b h (λu a=>c u (K9 a)) oa e oa;have i:=Va r 1;omega
end Ref
variable {w}
theorem jL.sub {l:List Tok}(h:jL w g off l)(i m:Nat):jL w g (off+i*6) ((l.drop i).take m):=by
 intro j t a;rw[zir] at a;split at a
 .rw[zhI] at a;obtain⟨o,q,p,b,c,d,f,k,n⟩:=h (i+j) t a;have e:off+i*6+j*6=off+(i+j)*6:=by omega
  rw[e];exact⟨o,q,p,b,c,d,f,k,n⟩
 cases a
theorem Wk (g off cap:Nat)(l:List Tok)(w:E)(h:jL w g off l)(j:l.length<=1000)(e:l.length<=cap)(c:2<=l.length)(a:zT l 0=3):Uh V 149 #[K (I ⟨g,off,U⟩) l.length cap] w λx b=>x=R (K (I ⟨g,off+6,U⟩) (l.length-2) (cap-1))/\b=w:=by
 have i:w.cell? ⟨g,off,U⟩=I (M J (zT l 0)):=by have:=h.kind 0 oa;rw[zia,zhl] at this;exact this
 have d:(zT l 0 == 3)=G:=by simp[a]
 have f:¬cap=1:=oa;clear a h;go_enter func149,ntmps149;go_wp2_with fail;go_ret;exact⟨by rw[show l.length-2=l.length-1-1 by omega];rfl,rfl⟩
set_option maxHeartbeats 4000000
set_option maxRecDepth 1000000
def SizedOK (f:Nat):Prop:=∀(g off a:Nat) (l:List Tok) (w:E) (z:Int),jL w g off l->l.length<=1000->l.length<=a->(∀t∈l,kJ t)->yK f l 0=I z->
 Uh V 103 #[K (I ⟨g,off,U⟩) l.length a] w λx b=>x=R (M J z)/\ziE w b
theorem jL.only {a:E}{g off:Nat}{l:List Tok}(h:jL w g off l)(k:ziE w a):jL a g off l:=by intro j t c;obtain⟨d,m,i,n,o,q,r,s,u⟩:=h j t c;have e:∀(p:Addr) (v:Y),w.cell? p=I v->a.cell? p=I v:=λp v b=>(k.cell (zgF w p b) id).trans b;exact⟨d,m,i,e _ _ n,e _ _ o,e _ _ q,e _ _ r,e _ _ s,e _ _ u⟩
namespace Ref
theorem XY {l:List Tok}{i:Nat}(a:i<l.length):zT l i=l[i].kind:=by unfold zT;rw[zgE a]
theorem Jj {l:List Tok}{i:Nat}(a:i<l.length):l.drop i=l[i]:: l.drop (i+1):=zin a
theorem zb1 {rest:List Tok}{k:Int}(h:qG rest≠6):zR rest k=(k,rest):=by
 unfold zR;cases rest with
 |nil=>rfl
 |cons q r=>simp only[];rw[iN (show ¬q.kind=6 from h)]
theorem Jk {l:List Tok}{i:Nat}:qG (l.drop i)=zT l i:=by unfold qG zT;rw[zhI,zhl]
theorem drop_not {l:List Tok}{i:Nat}(h:¬(i<l.length/\zT l i=6)):qG (l.drop i)≠6:=by rw[Jk];intro a;by_cases b:i<l.length;exact h ⟨b,a⟩;unfold zT at a;rw[zhv oa] at a;exact absurd a od
end Ref
theorem zaq {x y X Y:Int}(d:0<=x)(e:x<=X)(c:0<=y)(f:y<=Y):0<=x*y/\x*y<=X*Y:=by refine⟨zhu d c,?_⟩;have a:=zhr e c;have b:=Int.mul_le_mul_of_nonneg_left f (show(0:Int)<=X by omega);omega
theorem QK {cap:Nat}{l:List Tok}{i j:Nat}{w:E}(h:jL w g off l)(f:l.length<=1000)(e:l.length<=cap)(d:i+j+2<=l.length)(b:zT l i=3):Uh V 149 #[K (I ⟨g,off+i*6,U⟩) (i+j+2-i) (cap-i)] w λx c=>x=R (K (I ⟨g,off+i*6+6,U⟩) (i+j+2-i-2) (cap-i-1))/\c=w:=by
 have a:((l.drop i).take (j+2)).length=i+j+2-i:=by rw[zhy,zhH];omega
 have:=Wk g (off+i*6) (cap-i) ((l.drop i).take (j+2)) w (h.sub i (j+2)) (by rw[a];omega) (by rw[a];omega) (by rw[a];omega) (by
  unfold zT at b ⊢;rw[zir,IN oa,zhI,zhl];exact b)
 rw[a] at this;exact this
theorem QL {F:Nat}(b:SizedOK F){g off cap:Nat}{l:List Tok}{i j f:Nat}{k:Int}{w:E}(h:jL w g off l)(q:l.length<=1000)(p:l.length<=cap)(o:i+j+2<=l.length)(c:∀t∈l,kJ t)(e:yK f ((l.drop (i+1)).take j) 0=I k)(d:f<=F):Uh V 103 #[K (I ⟨g,off+i*6+6,U⟩) (i+j+2-i-2) (cap-i-1)] w λx n=>x=R (M J k)/\ziE w n:=by
 have a:((l.drop (i+1)).take j).length=i+j+2-i-2:=by rw[zhy,zhH];omega
 have:=b g (off+(i+1)*6) (cap-i-1) ((l.drop (i+1)).take j) w k (h.sub (i+1) j) (by rw[a];omega) (by rw[a];omega) (λt m=>c t (ziB (ziA m))) (YC e d);rw[a,show off+(i+1)*6=off+i*6+6 by omega] at this;exact this
namespace Ref
theorem zb2 {l:List Tok}{i:Nat}{k:Int}(a:i<l.length)(b:zT l i=6):zR (l.drop i) k=(qe k l[i].mn l[i].mx,l.drop (i+1)):=by rw[Jj a];unfold zR;simp only[];rw[IN (by rw[<-XY a];exact b)]
end Ref
theorem XZ:(if(1000000:Int)<x then(1000000:Int) else x)=min 1000000 x:=by split<;>omega
theorem zdN (hF:SizedOK F):SizedOK (F+1):=by
 intro g off am l w z h v s hb hz;have aI:=ze h;have HF:=ze hF;have HB:=ze hb;clear h hF hb;go_enter func103,ntmps103;go_wp2_with fail;go_loopw[3,4] (λa b wr=>∃(i f:Nat) (n:Int),a=M J n/\b=M J i/\i<=l.length/\f<=F+1/\0<=n/\n<=1000000+i/\ziE w wr/\H (yK f (l.drop i) n=I z)) (λ_ b _=>l.length-(intOf b).toNat);exact⟨0,F+1,0,rfl,rfl,oa,oa,oa,oa,zf.refl _ _,hz⟩;obtain⟨i,f,n,rfl,rfl,hi,hf,a2,a3,p,HZ⟩:=hrel;have q:=ze (aI.only p);obtain⟨f,rfl⟩:∃f',f=f'+1:=by
  cases f with
  |zero=>exact absurd (zb HZ) (by simp[yK])
  |succ f=>exact⟨f,rfl⟩
 by_cases W:i<l.length
 .have a1:=q.kind i W;have ag:=Jj W;have T:=XY W;by_cases S:zT l i=5
  ·(have L:H (yK f (l.drop (i+1)) (n+1)=I z):=by have:=zb HZ;rw[ag] at this;unfold yK at this;rw[IN (by rw[<-T];exact S)] at this;exact this);have aN:(zT l i == 5)=G:=(by simp[S]);clear S ag T;go_wp2_with fail;exact⟨⟨i+1,f,n+1,rfl,by go_num,oa,oa,oa,oa,p,L⟩,by simp[intOf];omega⟩
  have aN:(zT l i == 5)=Z:=(by simp[S]);obtain⟨e,k,hE,aW,aZ,a0,L,HG⟩:∃(e:Nat) (k:Int),qF l i=(e:Int)/\(i<e/\e<=l.length)/\0<=k/\k<=1010000/\H (yK f (zR (l.drop e) k).2 (min 1000000 (n+(zR (l.drop e) k).1))=I z)/\((zT l i == 3)=G/\zT l i=3/\¬am=i/\(∃j,e=i+j+2/\i+j+2<=l.length/\H (yK f ((l.drop (i+1)).take j) 0=I k))\/(zT l i == 3)=Z/\e=i+1/\k=1):=by
   by_cases m:zT l i=3
   ·(obtain⟨j,k,hj,hk,L⟩:∃j k,scan (l.drop (i+1)) 1 0=I j/\yK f ((l.drop (i+1)).take j) 0=I k/\H (yK f (zR ((l.drop (i+1)).drop (j+1)) k).2 (min 1000000 (n+(zR ((l.drop (i+1)).drop (j+1)) k).1))=I z):=by have:=zb HZ;rw[ag] at this;unfold yK at this;rw[iN (by rw[<-T];exact S),IN (by rw[<-T];exact m)] at this;split at this;cases this;rename_i j hj;split at this;cases this;rename_i k hk;exact⟨j,k,hj,hk,this⟩);obtain⟨hE,r⟩:=XK W m hj;have aP:=zb0 f _ 0 k 0 hk (λu hu=>zb HB u (ziB (ziA hu))) oa oa oa;rw[zhT,show i+1+(j+1)=i+j+2 by omega] at L;have:((l.drop (i+1)).take j).length<=l.length:=by(rw[zhy,zhH];omega)
    exact⟨i+j+2,k,hE,⟨oa,oa⟩,aP.1,oa,L,Q ⟨by simp[m],m,oa,j,rfl,oa,hk⟩⟩
   refine⟨i+1,1,by unfold qF;rw[iN m];omega,⟨oa,oa⟩,oa,oa,?_,O ⟨by simp[m],rfl,rfl⟩⟩;have:=zb HZ;rw[ag] at this;unfold yK at this;rw[iN (by rw[<-T];exact S),iN (by rw[<-T];exact m)] at this;exact this
  have HE:=ze hE;by_cases hq:e<l.length/\zT l e=6
  ·(obtain⟨aA,aB⟩:=hq;have HC:H (∀w',ziE w w'->∃pa pn pc,w'.cell? ⟨g,off+e*6,U⟩=I (M J l[e].kind)/\w'.cell? ⟨g,off+e*6+1,U⟩=I (C l[e].neg)/\w'.cell? ⟨g,off+e*6+2,U⟩=I (K pa pn pc)/\w'.cell? ⟨g,off+e*6+3,U⟩=I (M J l[e].c)/\w'.cell? ⟨g,off+e*6+4,U⟩=I (M J l[e].mn)/\w'.cell? ⟨g,off+e*6+5,U⟩=I (M J l[e].mx)):=λw' ho=>(aI.only ho) e l[e] (zgE aA);have aL:=zb HB l[e] (zg5 aA);have HN:H (yV l i=(e:Int)+1):=(by show _=_;unfold yV;rw[hE,IN ⟨oa,by rw[zhm];exact aB⟩]);have al:H (yK f (l.drop (e+1)) (min 1000000 (n+qe k l[e].mn l[e].mx))=I z):=by have:=zb L;rw[zb2 aA aB] at this;exact this);have a5:=zbZ (k:=k) (t:=l[e]) oa aL;unfold kJ at aL;generalize l[e].mn=d at *;generalize l[e].mx=o at *;generalize l[e].neg=ng at *;generalize l[e].c=cc at *;generalize l[e].kind=kd at *;clear hE ag T S aB L;obtain⟨pa,pn,pc,z0,z1,z2,z3,z4,z5⟩:=zb HC _ p;by_cases ay:o<0
   .by_cases ah:d=0
    .have aQ:(d == 0)=G:=(by simp[ah]);have P:H (1*k+1=qe k d o):=(by show _=_;unfold qe;rw[IN ay,IN ah]);clear ah;rcases HG with⟨ad,m,aw,j,rfl,r,HK⟩|⟨ad,rfl,rfl⟩
     case' inl=>have H3:=ze m;have B:=ze r;clear m r
     all_goals
      go_wp2_with(first|(go_at_call 148;refine ziD (ZG g off am l i _ q v s W) ?_;rw[zb HE,zb HN])|(go_at_call 149;refine ziD (QK q v s B H3) ?_)|(go_at_call 103;refine(QL HF q v s B HB HK oa).mono ?_;rintro e w1 ⟨rfl,N⟩;obtain⟨pa,pn,pc,z0,z1,z2,z3,z4,z5⟩:=zb HC w1 (p.trans N))|(go_at_call 150;refine ziD (Z4 _ _ _) ?_));exact⟨⟨_,f,_,by first|rw[XZ,show n+(k+1)=n+qe _ d o by((rw[<-zb P])<;>omega)]|rw[XZ,show n+2=n+qe _ d o by((rw[<-zb P])<;>omega)],by go_num,oa,oa,oa,oa,by first|exact(p.trans N).alloc _|exact p.alloc _,al⟩,by simp[intOf];omega⟩
    have aQ:(d == 0)=Z:=(by simp[ah]);have P:H (d*k+1=qe k d o):=(by show _=_;unfold qe;rw[IN ay,iN ah]);have aS:=zaq (x:=d) (y:=k) (X:=100) (Y:=1010000) oa oa oa oa;clear ah;rcases HG with⟨ad,m,aw,j,rfl,r,HK⟩|⟨ad,rfl,rfl⟩
    case' inl=>have H3:=ze m;have B:=ze r;clear m r
    all_goals
     go_wp2_with(first|(go_at_call 148;refine ziD (ZG g off am l i _ q v s W) ?_;rw[zb HE,zb HN])|(go_at_call 149;refine ziD (QK q v s B H3) ?_)|(go_at_call 103;refine(QL HF q v s B HB HK oa).mono ?_;rintro e w1 ⟨rfl,N⟩;obtain⟨pa,pn,pc,z0,z1,z2,z3,z4,z5⟩:=zb HC w1 (p.trans N))|(go_at_call 150;refine ziD (Z4 _ _ _) ?_));exact⟨⟨_,f,_,by first|rw[XZ,show n+(d*k+1)=n+qe _ d o by((rw[<-zb P])<;>omega)]|rw[XZ,show n+(d+1)=n+qe _ d o by((rw[<-zb P])<;>omega)],by go_num,oa,oa,oa,oa,by first|exact(p.trans N).alloc _|exact p.alloc _,al⟩,by simp[intOf];omega⟩
   have P:H (d*k+(o-d)*(k+1)=qe k d o):=(by show _=_;unfold qe;rw[iN ay]);have aS:=zaq (x:=d) (y:=k) (X:=100) (Y:=1010000) oa oa oa oa;have a4:=zaq (x:=o-d) (y:=k+1) (X:=100) (Y:=1010001) oa oa oa oa;rcases HG with⟨ad,m,aw,j,rfl,r,HK⟩|⟨ad,rfl,rfl⟩
   case' inl=>have H3:=ze m;have B:=ze r;clear m r
   all_goals
    go_wp2_with(first|(go_at_call 148;refine ziD (ZG g off am l i _ q v s W) ?_;rw[zb HE,zb HN])|(go_at_call 149;refine ziD (QK q v s B H3) ?_)|(go_at_call 103;refine(QL HF q v s B HB HK oa).mono ?_;rintro e w1 ⟨rfl,N⟩;obtain⟨pa,pn,pc,z0,z1,z2,z3,z4,z5⟩:=zb HC w1 (p.trans N))|(go_at_call 150;refine ziD (Z4 _ _ _) ?_));exact⟨⟨_,f,_,by first|rw[XZ,show n+(d*k+(o-d)*(k+1))=n+qe _ d o by((rw[<-zb P])<;>omega)]|rw[XZ,show n+(d+(o-d)*2)=n+qe _ d o by((rw[<-zb P])<;>omega)],by go_num,oa,oa,oa,oa,by first|exact(p.trans N).alloc _|exact p.alloc _,al⟩,by simp[intOf];omega⟩
  (have HN:H (yV l i=(e:Int)):=(by show _=_;unfold yV;rw[hE,iN (λhh=>hq ⟨oa,by have:=hh.2;rw[zhm] at this;exact this⟩)]);have al:H (yK f (l.drop e) (min 1000000 (n+k))=I z):=by have:=zb L;rw[zb1 (drop_not hq)] at this;exact this);clear hE ag T S L;rcases HG with⟨ad,m,aw,j,rfl,r,HK⟩|⟨ad,rfl,rfl⟩
  case' inl=>have H3:=ze m;have B:=ze r;clear m r
  all_goals
   go_wp2_with(first|(go_at_call 148;refine ziD (ZG g off am l i _ q v s W) ?_;rw[zb HE,zb HN])|(go_at_call 149;refine ziD (QK q v s B H3) ?_)|(go_at_call 103;refine(QL HF q v s B HB HK oa).mono ?_;rintro e w1 ⟨rfl,N⟩)|(go_at_call 150;refine ziD (Z4 _ _ _) ?_));exact⟨⟨_,f,_,by rw[XZ],by go_num,oa,oa,oa,oa,by first|exact p.trans N|exact p,al⟩,by simp[intOf];omega⟩
 (have L:H (n=z):=by have:=zb HZ;rw[zit oa] at this;unfold yK at this;exact zg0 this);go_wp2_with fail;go_ret;rw[zb L];exact⟨rfl,p⟩
theorem zfY:∀f,SizedOK f:=by
 intro f
 induction f with
 |zero=>intro g off c l w z _ _ _ _ a;exact absurd a (by simp[yK])
 |succ f b=>exact zdN f b
theorem zfZ (w:E):Uh V 103 #[K U 0 0] w λx a=>x=R (M J 0)/\a=w:=by go_enter func103,ntmps103;go_wp2_with fail;refine wp_loop_rounds 1 ?_;rw[rounds_succ];go_wp2_with fail;go_ret;exact⟨rfl,rfl⟩
namespace Ref
theorem YW (s:ByteArray):∀(f:Nat) (l:List Tok) (op:Int) (atom:Bool) (h:St),(zP s f l op atom h).1.length<=l.length+f
 |0,l,_,_,_=>by simp[zP]
 |f+1,l,op,atom,h=>by
  unfold zP;split;split;exact zgN (YW s f _ _ _ _) ou;split;simp;exact zgN (YW s f _ _ _ _) ou;simp
theorem YX:(yG s).1.length<=s.size+1:=by have:=YW s (s.size+1) [] 0 Z ⟨0,0,0⟩;simp only[zhe] at this;unfold yG;omega
theorem Vb (s:ByteArray):∀(f p:Nat) (acc:List (Int×Int)),(xV s f p acc).2<0->(xV s f p acc).2 = -1
 |0,p,acc=>by simp[xV]
 |f+1,p,acc=>by
  intro h;by_cases a:p<s.size
  .cases h1:xo s p with
   |none=>rw[qU a h1] at h;simp only[] at h;omega
   |some b=>
    obtain⟨n,c⟩:=b;rw[qo a h1] at h ⊢;exact Vb s f _ _ h
  rw[jR a]
theorem vq {s:ByteArray}(h:(zF s).2<0):Good s 0:=Yo s (s.size+1) 0 [] oa (Vb s _ _ _ h) oa
end Ref
theorem QM {w:E}{base:Nat}:∀(l:List Tok) (a:List Y),xp w base l a->∀(j:Nat) (t:Tok),l[j]?=I t->∃c e d,
  a[j*6]?=I (M J t.kind)/\a[j*6+1]?=I (C t.neg)/\a[j*6+2]?=I (K c e d)/\a[j*6+3]?=I (M J t.c)/\a[j*6+4]?=I (M J t.mn)/\a[j*6+5]?=I (M J t.mx)
 | [],_,_,j,t,b=>by simp at b
 |u :: f,a0 :: a1 :: a2 :: a3 :: a4 :: a5 :: g,h,0,t,b=>by
  simp only[zh4,Option.some.injEq] at b;subst b;obtain⟨⟨rfl,rfl,rfl,rfl,rfl⟩,⟨xs,i,_⟩,_⟩:=h;obtain⟨c,e,d,rfl⟩:=zr i;exact⟨c,e,d,rfl,rfl,rfl,rfl,rfl,rfl⟩
 |u :: f,a0 :: a1 :: a2 :: a3 :: a4 :: a5 :: g,h,j+1,t,b=>by
  obtain⟨c,e,d,z⟩:=QM f g h.2.2 j t (by simpa using b);exact⟨c,e,d,by
   rw[show(j+1)*6=j*6+6 by omega];exact z⟩
 |_ :: _,[],h,_,_,_=>absurd h id
 |_ :: _,[_],h,_,_,_=>absurd h id
 |_ :: _,[_,_],h,_,_,_=>absurd h id
 |_ :: _,[_,_,_],h,_,_,_=>absurd h id
 |_ :: _,[_,_,_,_],h,_,_,_=>absurd h id
 |_ :: _,[_,_,_,_,_],h,_,_,_=>absurd h id
theorem zb3 {l:List Tok}(h:xW w base v l):(v=K U 0 0/\l=[])\/∃g cap,v=K (I ⟨g,0,U⟩) l.length cap/\base<=g/\l.length<=cap/\jL w g 0 l:=by
 obtain⟨b,p,n⟩:=h;obtain⟨f,i⟩:=p;rcases i with⟨rfl,P⟩|⟨g,cap,e,rfl,c,k,d,o,q,r⟩
 grind
 refine O ⟨g,cap,rfl,c,d,?_⟩;intro j t m;obtain⟨s,x,u,y,z,B,F,L,N⟩:=QM l b n j t m;have S:j<l.length:=by grind
 have a:w.ownsRow base 308 6 (K (I ⟨g,0,U⟩) l.length cap) l.length b:=⟨f,O ⟨g,cap,e,rfl,c,k,d,o,q,r⟩⟩
 exact⟨s,x,u,by rw[zg6,a.cellAt _ oa];exact y,by rw[zg6,a.cellAt _ oa];exact z,by rw[zg6,a.cellAt _ oa];exact B,by rw[zg6,a.cellAt _ oa];exact F,by rw[zg6,a.cellAt _ oa];exact L,by rw[zg6,a.cellAt _ oa];exact N⟩
theorem Vc {l:List Tok}{z:Int}(h:xW w base v l)(j:l.length<=1000)(d:∀t∈l,kJ t)(m:Q1 l 0 z):Uh V 103 #[v] w λx b=>x=R (M J z)/\ziE w b:=by
 obtain⟨f,a⟩:=m;rcases zb3 h with⟨rfl,rfl⟩|⟨g,c,rfl,_,i,k⟩
 .have:z=0:=by
   cases f with
   |zero=>simp[yK] at a
   |succ f=>unfold yK at a;exact(zg0 a).symm
  subst this;exact(zfZ w).mono (by rintro e b ⟨rfl,rfl⟩;exact⟨rfl,zf.refl _ _⟩)
 exact zfY f g 0 c l w z k j i d a
theorem VE (w:E)(b:200<s.size):Uh V 53 #[Uc s] w λx a=>x=R (Ue #[Ua U,M J 2,M J 200])/\a=w:=by go_enter func53,ntmps53;go_wp2_with fail;go_ret3;exact⟨rfl,rfl⟩
theorem VF (w:E)(h:s.size<=200)(g:0<=(zF s).2):Uh V 53 #[Uc s] w λx d=>x=R (Ue #[Ua U,M J 1,M J (zF s).2])/\ziE w d:=by generalize a:(zF s).2=f at *;go_enter func53,ntmps53;go_wp2_with(go_at_call 101;refine(vg s _ oa).mono ?_;rintro e l ⟨v,rfl,c,b⟩;rw[a];obtain⟨i,k,j,rfl⟩:=zr c);go_ret3;exact⟨rfl,b⟩
theorem QN (w:E)(q:s.size<=200)(h:(zF s).2<0)(i:(yG s).2.1≠0):Uh V 53 #[Uc s] w λx l=>x=R (Ue #[Ua U,M J (yG s).2.1,M J (yG s).2.2])/\ziE w l:=by
 have HG:=ze (vq h);generalize b:(zF s).2=m at *;generalize c:(yG s).2.1=a at *;generalize g:(yG s).2.2=P at *;have o:(a == 0)=Z:=by simp[i]
 go_enter func53,ntmps53;go_wp2_with(first|(go_at_call 101;refine(vg s _ oa).mono ?_;rintro e L ⟨v,rfl,j,d⟩;rw[b];obtain⟨r,u,t,rfl⟩:=zr j)|(go_at_call 102;refine(XX s _ oa HG).mono ?_;rintro e N ⟨F,rfl,⟨n,k,p⟩,f⟩;rw[c,g];obtain⟨y,B,z,rfl⟩:=zr k));go_ret3;exact⟨rfl,d.trans f⟩
theorem zar (w:E)(z:Int)(F:s.size<=200)(o:(zF s).2<0)(p:(yG s).2.1=0)(b:∀t∈(yG s).1,kJ t)(c:Q1 (yG s).1 0 z)(y:300<=z)(B:z<=10000000):Uh V 53 #[Uc s] w λx r=>x=R (Ue #[Ua U,M J 8,M J 0])/\ziE w r:=by have HG:=ze (vq o);have d:=ze b;have h:=ze c;have f:=ze (YX s);clear b c;generalize i:(zF s).2=u at *;generalize m:(yG s).2.2=P at *;generalize n:(yG s).1=ts at *;go_enter func53,ntmps53;go_wp2_with(first|(go_at_call 101;refine(vg s _ oa).mono ?_;rintro e w1 ⟨v,rfl,q,j⟩;rw[i];obtain⟨L,S,N,rfl⟩:=zr q)|(go_at_call 102;refine(XX s _ oa HG).mono ?_;rintro e w2 ⟨v2,rfl,a,k⟩;rw[p,m];rw[n] at a;obtain⟨T,X,W,rfl⟩:=zr a.choose_spec.1;have g:=ze a;clear a)|(go_at_call 103;refine(Vc g (by have:=zb f;omega) d h).mono ?_;rintro e w3 ⟨rfl,l⟩));go_ret3;exact⟨rfl,(j.trans k).trans l⟩
end
