/- Validate, the program: what its table says, on the way. -/
import Derived.Test.YtcgleficedipkaaGreatDoorYVaF
import Derived.Test.YtcgleficedipkaaGreatDoorYVaUVaX
namespace Go.Proofs.YtcgleficedipkaaGreatDoor
open Option renaming none->U,some->I
open Value renaming int->M,bool->C,pointer->Ua,tuple->Ue,agg->Uf
open IntKind renaming i64->J
open Bool renaming false->Z,true->G
open Go renaming World->E,Value->Y,Calls->Uh
open Go.RowKit renaming Hid->H
open Or renaming inr->O
open Ending renaming returned->R
open Obj renaming cells->Ub
open And renaming intro->Ur
open Pro
open _root_.Go.Proofs.Tryz
variable {w0:World}{ow0:Nat->Nat}
section
open Go.RowKit
section
variable {ns:List Nd} {ss:List Sc} {k s j y:Nat} {n:Nd} {c:Sc}
def Ch (ns:List Nd)(c:Sc)(j y:Nat):Prop:=∃n,ns[j]?=I n/\(((y:Nat):Int)∈(c.agn n.key).1\/(y=11/\(c.agn n.key).2=G))
def Sg (n:Nd)(c:Sc)(y:Nat):Prop:=(y=9/\(c.hp && !vU c.pat n.text)=G)\/(y=10/\((c.fmt != 0) && !vU (Zq c.fmt) n.text)=G)
def Bt (ns:List Nd)(ss:List Sc)(k s j y:Nat):Prop:=∃n c,ns[k]?=I n/\ss[s]?=I c/\qu ns ss k s/\((n.kind=5/\kI ns k j=G/\Ch ns c j y)\/(n.kind=3/\j=k/\Sg n c y))
def Tb (ns:List Nd)(ss:List Sc)(k s j y:Nat):Prop:=(j=0/\y=0)\/∃a b,Dk k s a b/\Bt ns ss a b j y
theorem Bt.iff (b:ns[k]?=I n)(a:ss[s]?=I c):Bt ns ss k s j y↔qu ns ss k s/\((n.kind=5/\kI ns k j=G/\Ch ns c j y)\/(n.kind=3/\j=k/\Sg n c y)):=
 ⟨λ⟨g,f,d,e,h⟩=>by cases b.symm.trans d;cases a.symm.trans e;exact h,λh=>⟨n,c,b,a,h⟩⟩
theorem Bt.lt:Bt ns ss k s j y->s<ss.length:=λ⟨_,_,_,h,_⟩=>(zgG.1 h).1
theorem Tb.step:Tb ns ss k (s+1) j y↔Tb ns ss k s j y\/Bt ns ss k s j y:=by constructor;rintro(h|⟨a,c,d,b⟩);exact .inl (.inl h);rcases Dk.next.1 d with d|⟨rfl,rfl⟩;exact .inl (O ⟨a,c,d,b⟩);exact O b;rintro((h|⟨a,c,d,b⟩)|b);exact .inl h;exact O ⟨a,c,Dk.next.2 (.inl d),b⟩;exact O ⟨k,s,Dk.next.2 (O ⟨rfl,rfl⟩),b⟩
theorem Tb.row:Tb ns ss k ss.length j y↔Tb ns ss (k+1) 0 j y:=or_congr Iff.rfl ⟨λ⟨a,c,d,b⟩=>⟨a,c,(Dk.row b.lt).1 d,b⟩,λ⟨a,c,d,b⟩=>⟨a,c,(Dk.row b.lt).2 d,b⟩⟩
theorem Tb.start:(j=0/\y=0)↔Tb ns ss 0 0 j y:=⟨.inl,λh=>h.elim id (λ⟨_,_,d,_⟩=>by unfold Dk at d;omega)⟩
theorem JZ:kI ns k j=G↔∃n,ns[j]?=I n/\1<=j/\n.parent=(k:Int):=by unfold kI;split<;>rename_i e<;>rw[e]<;>simp
theorem Tb.held (r:VFine ns ss)(g:k<ns.length)(B:y<8):Tb ns ss k s k y↔qu ns ss k y:=by
 constructor
 .rintro(⟨rfl,rfl⟩|⟨F,L,d,n,c,w,t,u,⟨f,g,z,x,v|⟨rfl,_⟩⟩|⟨_,_,⟨rfl,_⟩|⟨rfl,_⟩⟩⟩);exact .root;obtain⟨n1,b,i,a⟩:=JZ.1 g;cases x.symm.trans b;exact .kid i b a w f u t v;all_goals omega
 intro h;rcases h.inv with h|⟨_,_,_,_,_,j,e,l,m,f,o,p,q⟩;exact .inl h;obtain⟨z,b,_,a⟩:=r.nodes k g;cases e.symm.trans b;unfold Nd.there at a;rw[iN oa] at a;exact O ⟨_,_,.inl (by have:=a.2.1;omega),_,_,m,p,o,.inl ⟨f,JZ.2 ⟨_,e,j,l⟩,_,e,.inl q⟩⟩
theorem Tb.ends (u:VFine ns ss)(v:k<ns.length):(Tb ns ss k ss.length k 9↔FailP ns ss k)/\(Tb ns ss k ss.length k 10↔FailF ns ss k)/\(Tb ns ss k ss.length k 11↔Jq ns ss k)/\¬Tb ns ss k ss.length k 8:=by
 have key:∀{y},8<=y->Tb ns ss k ss.length k y->∃i g n c,ns[i]?=I n/\ss[g]?=I c/\qu ns ss i g/\((n.kind=5/\kI ns i k=G/\y=11/\∃n,ns[k]?=I n/\(c.agn n.key).2=G)\/(n.kind=3/\k=i/\Sg n c y)):=by rintro y W (⟨_,rfl⟩|⟨i,g,d,n,c,b,a,f,⟨m,v,r,x,w|⟨rfl,w⟩⟩|h⟩);omega;have:=(Sc.agn_in (u.schemas g c a) r.key _ w).2;have:=u.m1;omega;exact⟨i,g,n,c,b,a,f,.inl ⟨m,v,rfl,r,x,w⟩⟩;exact⟨i,g,n,c,b,a,f,O h⟩
 have put:∀{y s n c},ns[k]?=I n->ss[s]?=I c->qu ns ss k s->n.kind=3->Sg n c y->Tb ns ss k ss.length k y:=λb a f j S=>O ⟨k,_,O ⟨rfl,(zgG.1 a).1⟩,_,_,b,a,f,O ⟨j,rfl,S⟩⟩;refine⟨⟨λh=>?_,λ⟨s,h⟩=>?_⟩,⟨λh=>?_,λ⟨s,h⟩=>?_⟩,⟨λh=>?_,λh=>?_⟩,λh=>?_⟩;obtain⟨i,g,n,c,b,a,f,⟨_,_,e,_⟩|⟨j,rfl,⟨_,e⟩|⟨e,_⟩⟩⟩:=key od h;cases e;exact⟨g,(Vr b a).1.2 ⟨⟨f,j⟩,e⟩⟩;cases e;obtain⟨n,c,f,b,j,a,_⟩:=id h;exact put b a f j (.inl ⟨rfl,((Vr b a).1.1 h).2⟩);obtain⟨i,g,n,c,b,a,f,⟨_,_,e,_⟩|⟨j,rfl,⟨e,_⟩|⟨_,e⟩⟩⟩:=key od h;cases e;cases e;exact⟨g,(Vr b a).2.2 ⟨⟨f,j⟩,e⟩⟩;obtain⟨n,c,f,b,j,a,_⟩:=id h;exact put b a f j (O ⟨rfl,((Vr b a).2.1 h).2⟩)
 .obtain⟨i,g,n,c,b,a,f,⟨m,e,_,r,x,T⟩|⟨_,_,⟨e,_⟩|⟨e,_⟩⟩⟩:=key od h;obtain⟨n1,o,z,l⟩:=JZ.1 e;cases x.symm.trans o;exact⟨i,g,_,_,_,z,o,l,b,m,f,a,T⟩;all_goals cases e
 obtain⟨p,s,n,q,c,B,t,j,F,m,L,N,P⟩:=h;obtain⟨r,o,_,l⟩:=u.nodes k v;cases t.symm.trans o;unfold Nd.there at l;rw[iN oa] at l;exact O ⟨p,s,.inl (by have:=l.2.1;omega),_,_,F,N,L,.inl ⟨m,JZ.2 ⟨_,t,B,j⟩,_,t,O ⟨rfl,P⟩⟩⟩;obtain⟨i,g,n,c,b,a,f,⟨_,_,e,_⟩|⟨_,_,⟨e,_⟩|⟨e,_⟩⟩⟩:=key od h<;>cases e
end
open Sm (Tree)
structure H0 (w:E)(ow:Nat->Nat)(L:List (Nat×Tree))(ns:List Nd)(ss:List Sc)(tb rb:Nat)(K T V:Nat->Y)(Q:Nat->Nat):Prop where
 fine:VFine ns ss
 st:Sts w ow L
 nd:∀(k:Nat) n,ns[k]?=I n->(w.cell? ⟨tb,k*4,U⟩=I (M J n.kind)/\w.cell? ⟨tb,k*4+1,U⟩=I (K k)/\w.cell? ⟨tb,k*4+2,U⟩=I (T k)/\w.cell? ⟨tb,k*4+3,U⟩=I (V k))/\jo w (K k) (zV n.key (n.key.size+1) 0)/\jo w (T k) (zV n.text (n.text.size+1) 0)
 kd:∀k,k<ns.length->w.ownsRow (tb+1) 3 1 (V k) (xt ns k ns.length).length (yr (xt ns k ns.length))
 ob:∀k g,k<ns.length->(K k).ownBlock=I g\/(T k).ownBlock=I g\/(V k).ownBlock=I g->ow g=0/\g<w.heap.size
 ot:ow tb=0
 or:ow rb=0
 sc:∀(i:Nat) c,ss[i]?=I c->w.cell? ⟨rb,i,U⟩=I (Ua (I ⟨Q i,0,U⟩))/\PS w ow L c (Q i)
 tl:11<w.heap.size
structure HG (w0:E)(ow0:Nat->Nat)(L:List (Nat×Tree))(n m tb rb rc hb zv:Nat)(lv:Y)(fl:List (Int×Int))(X:Nat->Nat->Prop)(w:E)(ow:Nat->Nat):Prop where
 st:Sts w ow L
 eo:∀g,g<w0.heap.size->ow g=ow0 g
 oh:ow hb=0
 oz:ow zv=0
 lz:w0.heap.size<=zv
 ne:zv<hb
 h0:w.cell? ⟨hb,0,U⟩=I (.slice (I ⟨tb,0,U⟩) n n)
 h1:w.cell? ⟨hb,1,U⟩=I (.slice (I ⟨rb,0,U⟩) m rc)
 h2:w.cell? ⟨hb,2,U⟩=I (.slice (I ⟨zv,0,U⟩) n n)
 tab:BT w zv n 12 X
 lt:zv<w.heap.size
 on:zf (λg=>ow0 g≠0) w0 w
 fr:w.ownsRow (hb+1) 49 2 lv fl.length (yC fl)
 fo:∀g,lv.ownBlock=I g->ow g=0
section
variable {w0 w B:World} {ow0 ow:Nat->Nat} {L:List (Nat×Tree)} {ns:List Nd} {ss:List Sc} {n m tb rb rc hb zv:Nat} {lv:Value} {fl:List (Int×Int)} {K T V:Nat->Value} {Q:Nat->Nat} {X X':Nat->Nat->Prop}
theorem HG.stg (h:HG w0 ow0 L n m tb rb rc hb zv lv fl X w ow)(k:StG w ow L B):∃i,HG w0 ow0 L n m tb rb rc hb zv lv fl X B i:=by obtain⟨i,p,d,b⟩:=k;have q:=h.on.size;have o:=zgF w _ h.h0;have c:∀{j v},w.cell? ⟨hb,j,U⟩=I v->B.cell? ⟨hb,j,U⟩=I v:=λl=>zg b _ _ l (λf=>f h.oh);exact⟨i,p,λg a=>(d g oa).trans (h.eo g a),(d _ o).trans h.oh,(d _ h.lt).trans h.oz,h.lz,h.ne,c h.h0,c h.h1,c h.h2,BF.keep h.tab b (λf=>f h.oz),zgJ h.lt b.size,h.on.laterO b (λg a e=>by rw[<-h.eo g a];exact e),zl h.fr b (λg a f=>f (h.fo g a)),λg a=>(d g (zh h.fr g a).2).trans (h.fo g a)⟩
theorem HG.to (h:HG w0 ow0 L n m tb rb rc hb zv lv fl X w ow)(e:∀j y,j<n->y<12->(X j y↔X' j y)):HG w0 ow0 L n m tb rb rc hb zv lv fl X' w ow:={ h with tab:=BT.to h.tab e }
theorem HG.set (h:HG w0 ow0 L n m tb rb rc hb zv lv fl X w ow)(r:11<w0.heap.size){j y:Nat}(l:j<n)(p:y<12)(e:∀d f,d<n->f<12->¬(d=j/\f=y)->(X d f↔X' d f))(o:X' j y):HG w0 ow0 L n m tb rb rc hb zv lv fl X' (w.setCell ⟨zv,j*12+y,U⟩ (C G)) ow:=by have a:zf (λg=>g=zv) w (w.setCell ⟨zv,j*12+y,U⟩ (C G)):=(zf.refl (λg=>g=zv) _).setCell (.inl rfl) _;have q:=h.lz;have i:=h.ne;have c:∀{j v},w.cell? ⟨hb,j,U⟩=I v->_:=λk=>zg a _ _ k (Nat.ne_of_gt i);exact⟨h.st.keep a (λg b=>by subst b;exact⟨h.oz,oa⟩),h.eo,h.oh,h.oz,q,i,c h.h0,c h.h1,c h.h2,BT.set h.tab l p G e ⟨λ_=>o,λ_=>rfl⟩,zgJ h.lt a.size,h.on.laterO a (λg b e=>oa),zl h.fr a (λg b e=>by have:=(zh h.fr g b).1;omega),h.fo⟩
theorem HG.cell (h:HG w0 ow0 L n m tb rb rc hb zv lv fl X w ow){g j:Nat}{v:Y}(a:w0.cell? ⟨g,j,U⟩=I v)(e:ow0 g=0):w.cell? ⟨g,j,U⟩=I v:=zg h.on _ _ a (λf=>f e)
theorem HG.ps (h:HG w0 ow0 L n m tb rb rc hb zv lv fl X w ow){c:Sc}{q:Nat}(b:PS w0 ow0 L c q):PS w ow L c q:=b.keep h.on (λ_ f=>f) (λg a e=>(h.eo g a).trans e)
theorem HG.let (h:HG w0 ow0 L n m tb rb rc hb zv lv fl X w ow){v:Y}{l:List (Int×Int)}(c:jo w0 v l)(b:∀g,v.ownBlock=I g->ow0 g=0/\g<w0.heap.size):jo w v l/\∀g,v.ownBlock=I g->ow g=0/\g<w.heap.size:=
 ⟨c.keepP h.on (λg a f=>f (b g a).1),λg a=>⟨(h.eo g (b g a).2).trans (b g a).1,zgJ (b g a).2 h.on.size⟩⟩
end
set_option maxHeartbeats 4000000
set_option maxRecDepth 1000000
theorem hstr_all {L:List (Nat×Tree)}{ns:List Nd}{ss:List Sc}{tb rb rc hb zv:Nat}{lv:Y}{fl:List (Int×Int)}{K T V:Nat->Y}{Q:Nat->Nat}{X:Nat->Nat->Prop}(a:H0 w0 ow0 L ns ss tb rb K T V Q)(k i:Nat){n:Nd}{c:Sc}(z:ns[k]?=I n)(hc:ss[i]?=I c)(w:E)(ow:Nat->Nat)(h:HG w0 ow0 L ns.length ss.length tb rb rc hb zv lv fl X w ow):Uh prog 99 #[Ua (I ⟨hb,0,U⟩),M J (k:Nat),Ua (I ⟨Q i,0,U⟩)] w λx B=>x=R (Ue #[])/\∃ax,HG w0 ow0 L ns.length ss.length tb rb rc hb zv lv fl (λj y=>X j y\/(j=k/\Sg n c y)) B ax:=by
 have o:=(zgG.1 z).1;have aC:=a.fine.n1;obtain⟨⟨_,_,W,_⟩,_,m⟩:=a.nd k n z;have p:=λg hg=>a.ob k g o (O (.inl hg));obtain⟨ta,tc,ht⟩:=m.slice;rw[ht] at W m p;have P:=(a.sc i c hc).2;have S:txB n.text=G:=by obtain⟨n',e1,e2,_⟩:=a.fine.nodes k o;cases z.symm.trans e1;exact e2.2.1
 have HP:H (∀(X:Nat->Nat->Prop) (w:E) (ow:Nat->Nat),HG w0 ow0 L ns.length ss.length tb rb rc hb zv lv fl X w ow->_):=λX w ow h=>zgt (q:=Q i) (s:=c) n.text _ w h.st (h.ps P) S (h.let m p).1 (h.let m p).2;have HF:H (∀(X:Nat->Nat->Prop) (w:E) (ow:Nat->Nat),HG w0 ow0 L ns.length ss.length tb rb rc hb zv lv fl X w ow->_):=λX w ow h=>zgu (q:=Q i) (s:=c) n.text _ w h.st (h.ps P) S (h.let m p).1 (h.let m p).2;have ac:=ze h;have HT:=ze a.tl;have x0:=h.h0;have x2:=h.cell W a.ot;generalize af:(c.hp && !vU c.pat n.text)=f at HP;generalize ag:((c.fmt != 0) && !vU (Zq c.fmt) n.text)=N at HF;have HX:H (∀w ow,HG w0 ow0 L ns.length ss.length tb rb rc hb zv lv fl (λj y=>X j y\/(j=k/\y=9/\f=G)) w ow->(N=Z->HG w0 ow0 L ns.length ss.length tb rb rc hb zv lv fl (λj y=>X j y\/(j=k/\Sg n c y)) w ow)/\(N=G->HG w0 ow0 L ns.length ss.length tb rb rc hb zv lv fl (λj y=>X j y\/(j=k/\Sg n c y)) (w.setCell ⟨zv,k*12+10,U⟩ (C G)) ow)):=by
  subst af ag;refine λw ow h=>⟨λe=>h.to (λj y _ _=>or_congr Iff.rfl (and_congr Iff.rfl ?_)),λe=>h.set a.tl o od (λj y _ _ q=>or_congr Iff.rfl (and_congr_right λej=>?_)) (O ⟨rfl,O ⟨rfl,e⟩⟩)⟩
  unfold Sg;rw[e];simp;unfold Sg;exact⟨.inl,λd=>d.elim id (λd=>absurd ⟨ej,d.1⟩ q)⟩
 have am:H (∀w ow,HG w0 ow0 L ns.length ss.length tb rb rc hb zv lv fl X w ow->(f=Z->HG w0 ow0 L ns.length ss.length tb rb rc hb zv lv fl (λj y=>X j y\/(j=k/\y=9/\f=G)) w ow)/\(f=G->HG w0 ow0 L ns.length ss.length tb rb rc hb zv lv fl (λj y=>X j y\/(j=k/\y=9/\f=G)) (w.setCell ⟨zv,k*12+9,U⟩ (C G)) ow)):=
  λw ow h=>⟨λe=>h.to (λj y _ _=>⟨.inl,λq=>q.elim id (λq=>by rw[e] at q;cases q.2.2)⟩),λe=>h.set a.tl o od (λj y _ _ q=>⟨.inl,λd=>d.elim id (λd=>absurd ⟨d.1,d.2.1⟩ q)⟩) (O ⟨rfl,rfl,e⟩)⟩
 clear h a m p P S W ht af ag z hc;go_enter func99,ntmps99;go_upto_if 18 with(go_at_call 139;refine(zb HP X w ow ac).mono ?_;rintro e w1 ⟨rfl,t⟩;have H1:=ze (ac.stg t);clear t);go_cut[6] (λv wx=>v=.slice ta (zV n.text (n.text.size+1) 0).length tc/\H (∃ow,HG w0 ow0 L ns.length ss.length tb rb rc hb zv lv fl (λj y=>X j y\/(j=k/\y=9/\f=G)) wx ow))
 case first=>
  obtain⟨o1,l⟩:=zb H1;have i2:=l.h2;obtain⟨⟨b,cb,-⟩,fb⟩:=l.tab.get o (i:=9) od;have r:=ze (zb am _ _ l);clear l;cases f
  all_goals
   go_wp2_with fail
   all_goals go_meet
  exact⟨rfl,_,r.1 trivial⟩;exact⟨rfl,_,r.2 trivial⟩
 case rest=>
  obtain⟨rfl,ak⟩:=hcut;clear H1;obtain⟨o1,l⟩:=zb ak;have r:=ze l;clear l;go_upto_if 30 with(go_at_call 140;refine(zb HF _ _ _ r).mono ?_;rintro e F ⟨rfl,t⟩;have H2:=ze (r.stg t);clear t);obtain⟨o2,u⟩:=zb H2;have i2:=u.h2;obtain⟨⟨b,cb,-⟩,fb⟩:=u.tab.get o (i:=10) od;have ad:=ze (zb HX _ _ u);clear u;cases N
  all_goals
   go_wp2_with fail
   go_end0
  exact⟨rfl,_,ad.1 trivial⟩;exact⟨rfl,_,ad.2 trivial⟩
set_option maxHeartbeats 8000000
def Xk (ns:List Nd)(c:Sc)(X:Nat->Nat->Prop)(l:List Int)(i j y:Nat):Prop:=X j y\/((∃t,t<i/\l[t]?=I ((j:Nat):Int))/\Ch ns c j y)
section
variable {w0 w B:World} {ow0 ow:Nat->Nat} {L:List (Nat×Tree)} {ns:List Nd} {ss:List Sc} {n m tb rb rc hb zv:Nat} {lv:Value} {fl:List (Int×Int)} {X:Nat->Nat->Prop} {c:Sc} {l:List Int} {i p:Nat} {q:Nd}
theorem Xk.next (d:l[i]?=I ((p:Nat):Int))(f:ns[p]?=I q)(j y:Nat):Xk ns c X l (i+1) j y↔Xk ns c X l i j y\/(j=p/\(((y:Nat):Int)∈(c.agn q.key).1\/(y=11/\(c.agn q.key).2=G))):=by unfold Xk;constructor;rintro(h|⟨⟨t,m,a⟩,b⟩);exact .inl (.inl h);by_cases e:t=i;subst e;have:=zg0 (d.symm.trans a);obtain rfl:j=p:=oa;obtain⟨n,g,k⟩:=b;cases f.symm.trans g;exact O ⟨rfl,k⟩;exact .inl (O ⟨⟨t,oa,a⟩,b⟩);rintro((h|⟨⟨t,m,a⟩,b⟩)|⟨rfl,h⟩);exact .inl h;exact O ⟨⟨t,oa,a⟩,b⟩;exact O ⟨⟨i,oa,d⟩,q,f,h⟩
theorem HG.num {K:Nat->Nat->Prop}{k y:Nat}{l:List Int}(h:HG w0 ow0 L n m tb rb rc hb zv lv fl (KI K k l i) w ow)(f:11<w0.heap.size)(g:l[i]?=I ((y:Nat):Int))(o:y<12)(d:k<n):HG w0 ow0 L n m tb rb rc hb zv lv fl (KI K k l (i+1)) (w.setCell ⟨zv,k*12+y,U⟩ (C G)) ow:=by
 refine h.set f d o (λj r _ _ q=>or_congr Iff.rfl (and_congr_right λe=>⟨λ⟨c,a,b⟩=>⟨c,oa,b⟩,λ⟨c,a,b⟩=>⟨c,?_,b⟩⟩)) (O ⟨rfl,i,oa,g⟩);by_cases p:c=i
 grind
 omega
end
theorem zfs {L:List (Nat×Tree)}{ns:List Nd}{ss:List Sc}{tb rb rc hb zv:Nat}{lv:Y}{fl:List (Int×Int)}{K T V:Nat->Y}{Q:Nat->Nat}{X:Nat->Nat->Prop}(d:H0 w0 ow0 L ns ss tb rb K T V Q)(k i:Nat){n:Nd}{c:Sc}(hn:ns[k]?=I n)(hc:ss[i]?=I c)(w:E)(ow:Nat->Nat)(h:HG w0 ow0 L ns.length ss.length tb rb rc hb zv lv fl X w ow):Uh prog 100 #[Ua (I ⟨hb,0,U⟩),M J (k:Nat),Ua (I ⟨Q i,0,U⟩)] w λx B=>x=R (Ue #[])/\∃bg,HG w0 ow0 L ns.length ss.length tb rb rc hb zv lv fl (λj y=>X j y\/(kI ns k j=G/\Ch ns c j y)) B bg:=by
 have hk:=(zgG.1 hn).1;have bs:=d.fine.n1;have bu:=d.fine.m1;obtain⟨⟨_,_,_,v3⟩,_⟩:=d.nd k n hn;obtain⟨va,vc,hv,aJ⟩:=jI (d.kd k hk);have aj:=λg N=>d.ob k g hk (O (O N));rw[hv] at v3 aj;have hm:∀x∈xt ns k ns.length,∃j:Nat,x=j/\j<ns.length:=λx f=>by obtain⟨j,m,F,_⟩:=Yj.1 f;exact⟨j,m,F⟩
 have HD:H (∀w ow,HG w0 ow0 L ns.length ss.length tb rb rc hb zv lv fl (Xk ns c X (xt ns k ns.length) (xt ns k ns.length).length) w ow->HG w0 ow0 L ns.length ss.length tb rb rc hb zv lv fl (λj y=>X j y\/(kI ns k j=G/\Ch ns c j y)) w ow):=λw ow h=>h.to (λj y hj _=>or_congr Iff.rfl (and_congr_left λ_=>⟨λ⟨t,_,e⟩=>(by obtain⟨j',m,_,F⟩:=Yj.1 (zgS e);have e3:j=j':=oa;subst e3;exact F),λe=>(by obtain⟨t,m⟩:=zhN.1 (Yj.2 ⟨j,rfl,hj,e⟩);exact⟨t,(zgG.1 m).1,m⟩)⟩));have bt:=Qa ns k ns.length;generalize xt ns k ns.length=l at *;have S:=(d.sc i c hc).2;have P:=d.fine.schemas i c hc;have HC:H (∀(p:Nat) q X w ow,ns[p]?=I q->HG w0 ow0 L ns.length ss.length tb rb rc hb zv lv fl X w ow->∃kv,w.cell? ⟨tb,p*4+1,U⟩=I kv/\(∃a n c,kv=.slice a n c)/\Uh prog 141 #[Ua (I ⟨Q i,0,U⟩),kv] w λx B=>∃lv,x=R (Ue #[lv,C (c.agn q.key).2])/\CG w ow L (c.agn q.key).1 lv B):=λp q X w ow v h=>by
  have aH:=(zgG.1 v).1;obtain⟨⟨_,k1,_,_⟩,kl,_⟩:=d.nd p q v;have ko:=λg N=>d.ob p g aH (.inl N);obtain⟨a,cc,e⟩:=kl.slice;have tx:txB q.key=G:=by obtain⟨n',m,F,_⟩:=d.fine.nodes p aH;cases v.symm.trans m;exact F.1
  refine⟨_,h.cell k1 d.ot,⟨_,_,_,e⟩,zgv q.key _ w h.st (h.ps S) tx (h.let kl ko).1 (h.let kl ko).2 (by have:=P.1.2.2.1;omega) P.1.2.2.2 (zgJ d.tl h.on.size)⟩
 have HV:H (∀X w ow,HG w0 ow0 L ns.length ss.length tb rb rc hb zv lv fl X w ow->∀(j:Nat) x,l[j]?=I x->∃g,va=I ⟨g,0,U⟩/\w.cell? ⟨g,j,U⟩=I (M J x)):=λX w ow h j x hj=>by obtain⟨g,rfl,e⟩:=aJ j (M J x) (by rw[yr,zgZ,hj];rfl);exact⟨g,rfl,h.cell e (aj g rfl).1⟩
 have aY:=ze (λkey=>Sc.agn_in P key);have aW:=ze (λkey=>Sc.agn_len P.1.2.2.2 key);have ap:=ze h;have HT:=ze d.tl;have Hm:=ze hm;have x0:=h.h0;have x3:=h.cell v3 d.ot;clear h d S P v3 hv aJ aj hm hn hc;go_enter func100,ntmps100;go_upto_region 1 with fail;clear x0 x3;go_loopw[21] (λx wr=>∃t:Nat,x=M J t/\t<=l.length/\H (∃ow,HG w0 ow0 L ns.length ss.length tb rb rc hb zv lv fl (Xk ns c X l t) wr ow)) (λx _=>l.length-(intOf x).toNat);exact⟨0,rfl,oa,ow,ap.to (λj y _ _=>⟨.inl,λq=>q.elim id (λ⟨⟨_,q,_⟩,_⟩=>absurd q (zgV _))⟩)⟩;clear ap;obtain⟨t,rfl,ht,HR⟩:=hrel;obtain⟨o1,o⟩:=zb HR;by_cases aE:t<l.length
 .have f:=zgE aE;obtain⟨p,S,W⟩:=zb Hm l[t] (zg5 aE);rw[S] at f;obtain⟨g,rfl,cv⟩:=zb HV _ _ _ o t _ f;have v:=zgE W;generalize ns[p]=q at v;obtain⟨kv,ck,⟨ka,kn,kc,rfl⟩,hC⟩:=zb HC p q _ _ _ v o;have an:=ze hC;have y0:=o.h0;have aq:=ze o;have HN:=ze (λj y=>Xk.next (c:=c) (X:=X) f v j y);have ax:=ze o.lt;clear o hC f v S HR;go_upto_region 4 with(go_at_call 141;refine an.mono ?_;rintro e w1 ⟨nv,rfl,ag⟩;obtain⟨na,nn,nc,a8⟩:=zr ag.choose_spec.2.2.2.2;subst a8;have am:=ze ag;clear ag);obtain⟨o2,f1,f2,f3,f4,f5⟩:=zb am;obtain⟨o3,g2⟩:=aq.stg ⟨o2,f1,f2,f3⟩;obtain⟨a',c',m,HL⟩:=jI f5;cases m;have aU:=ze HL;have aX:H (∀g,(Value.slice na (c.agn q.key).1.length nc).ownBlock=I g->g≠zv):=λg N e=>(by have:=(zh f5 g N).1;have:=zb ax;omega);have HI:=ze (zb aY q.key);have br:=zb aW q.key;have ar:=ze g2;clear f1 f2 f3 f4 f5 HL am an aq ax g2 cv ck y0;generalize (c.agn q.key).1=z at *;generalize (c.agn q.key).2=ex at *;go_upto_region 5 with fail;go_loopw[40] (λx wi=>∃u:Nat,x=M J u/\u<=z.length/\H (∃ow,HG w0 ow0 L ns.length ss.length tb rb rc hb zv lv fl (KI (Xk ns c X l t) p z u) wi ow)/\H (zf (λg=>g=zv) w1 wi)) (λx _=>z.length-(intOf x).toNat);exact⟨0,rfl,oa,⟨_,ar.to (λj y _ _=>KI.zero)⟩,zf.refl _ _⟩;clear ar;obtain⟨u,rfl,hu,HU,HO⟩:=hrel;obtain⟨o4,s⟩:=zb HU;have y2:=s.h2;by_cases aF:u<z.length
  .have f:=zgE aF;obtain⟨a9,aK⟩:=zb HI z[u] (zg5 aF);obtain⟨y,hy⟩:∃y:Nat,z[u]=(y:Int):=⟨z[u].toNat,oa⟩
   rw[hy] at f aK;have bx:y<8:=oa;obtain⟨gn,rfl,aC⟩:=zb aU u (M J (y:Nat)) (by rw[yr,zgZ,f];rfl);have m:=zg HO _ _ aC (λe=>zb aX gn rfl e);obtain⟨⟨b,cb,-⟩,fb⟩:=s.tab.get W (i:=y) oa;have aS:=ze (s.num HT f oa W);clear f a9 aK hy aC s HU;go_wp2_with fail;exact⟨⟨u+1,by go_num,oa,⟨_,aS⟩,HO.setCell (.inl rfl) _⟩,by simp[intOf];omega⟩
  obtain rfl:u=z.length:=oa;obtain⟨⟨b,cb,-⟩,fb⟩:=s.tab.get W (i:=11) od;have HE:H ((ex=Z->HG w0 ow0 L ns.length ss.length tb rb rc hb zv lv fl (Xk ns c X l (t+1)) wr o4)/\(ex=G->HG w0 ow0 L ns.length ss.length tb rb rc hb zv lv fl (Xk ns c X l (t+1)) (wr.setCell ⟨zv,p*12+11,U⟩ (C G)) o4)):=
   ⟨λe=>s.to (λj y _ _=>by rw[KI.all,zb HN j y];exact or_congr Iff.rfl (and_congr_right λ_=>⟨.inl,λq=>q.elim id (λq=>by rw[e] at q;cases q.2)⟩)),λe=>s.set HT W od (λj y _ _ q=>by rw[KI.all,zb HN j y];exact or_congr Iff.rfl (and_congr_right λej=>⟨.inl,λr=>r.elim id (λr=>absurd ⟨ej,r.1⟩ q)⟩)) ((zb HN p 11).2 (O ⟨rfl,O ⟨rfl,e⟩⟩))⟩
  clear s HU HN;cases ex;all_goals go_wp2_with fail
  .exact⟨⟨t+1,by go_num,oa,_,HE.1 rfl⟩,by simp[intOf];omega⟩
  exact⟨⟨t+1,by go_num,oa,_,HE.2 rfl⟩,by simp[intOf];omega⟩
 obtain rfl:t=l.length:=oa;have HF:=ze (zb HD _ _ o);clear o HR;go_wp2_with fail
 go_end0
 exact⟨rfl,_,HF⟩
theorem hall_all {L:List (Nat×Tree)}{ns:List Nd}{ss:List Sc}{tb rb rc hb zv:Nat}{lv:Y}{fl:List (Int×Int)}{K T V:Nat->Y}{Q:Nat->Nat}(F:H0 w0 ow0 L ns ss tb rb K T V Q)(k:Nat)(hk:k<ns.length)(w:E)(ow:Nat->Nat)(h:HG w0 ow0 L ns.length ss.length tb rb rc hb zv lv fl (Tb ns ss k 0) w ow):Uh prog 52 #[Ua (I ⟨hb,0,U⟩),M J (k:Nat)] w λx B=>x=R (Ue #[])/\∃ak,HG w0 ow0 L ns.length ss.length tb rb rc hb zv lv fl (Tb ns ss k ss.length) B ak:=by
 have aw:=F.fine.n1;have ax:=F.fine.m1;have hn:=zgE hk;generalize ns[k]=n at hn;have d:=ze F;have ad:=ze h;have z:=ze hn;have x1:=h.h1;clear h F hn;go_enter func52,ntmps52;go_upto_region 1 with fail;clear x1;go_loopw[11] (λx wr=>∃i:Nat,x=M J i/\i<=ss.length/\H (∃ow,HG w0 ow0 L ns.length ss.length tb rb rc hb zv lv fl (Tb ns ss k i) wr ow)) (λx _=>ss.length-(intOf x).toNat);exact⟨0,rfl,oa,ow,ad⟩;clear ad;obtain⟨i,rfl,hi,S⟩:=hrel;obtain⟨o1,a⟩:=zb S;by_cases ai:i<ss.length
 .have v:=zgE ai;generalize ss[i]=c at v;have cq:=a.cell (d.sc i c v).1 d.or;have W:=a.cell (d.nd k n z).1.1 d.ot;have y0:=a.h0;have y2:=a.h2;obtain⟨⟨b,cb,af⟩,fb⟩:=a.tab.get hk (i:=i) oa;have hh:=af.trans (Tb.held d.fine hk oa);have X:=λj y=>Bt.iff (j:=j) (y:=y) z v;have m:H (¬(qu ns ss k i/\(n.kind=5\/n.kind=3))->HG w0 ow0 L ns.length ss.length tb rb rc hb zv lv fl (Tb ns ss k (i+1)) wr o1):=λq=>a.to (λj y _ _=>by rw[Tb.step,X];exact⟨.inl,λr=>r.elim id (λr=>absurd ⟨r.1,r.2.imp And.left And.left⟩ q)⟩);have p:=ze hh;have o:=ze X;have l:=ze a;have Hc:=ze v;clear a af hh X v S;cases b
  .have f:=ze (zb m (λq=>Bool.noConfusion (p.2 q.1)));clear m p o l W y0;go_wp2_with fail;exact⟨⟨i+1,by go_num,oa,_,f⟩,by simp[intOf];omega⟩
  have u:=p.1 rfl;by_cases g:n.kind=3
  .have N:=ze (hstr_all d k i z Hc wr o1 l);have f:H (∀w ow,HG w0 ow0 L ns.length ss.length tb rb rc hb zv lv fl (λj y=>Tb ns ss k i j y\/(j=k/\Sg n c y)) w ow->HG w0 ow0 L ns.length ss.length tb rb rc hb zv lv fl (Tb ns ss k (i+1)) w ow):=λw ow h=>h.to (λj y _ _=>by rw[Tb.step,zb o];exact or_congr Iff.rfl ⟨λq=>⟨u,O ⟨g,q⟩⟩,λq=>q.2.elim (λq=>oa) And.right⟩);rw[g] at W;clear m p o l u g;go_wp2_with(go_at_call 99;refine N.mono ?_;rintro e w1 ⟨rfl,o2,t⟩;have P:=ze (zb f _ _ t);clear t);exact⟨⟨i+1,by go_num,oa,_,P⟩,by simp[intOf];omega⟩
  by_cases s:n.kind=5
  .have N:=ze (zfs d k i z Hc wr o1 l);have f:H (∀w ow,HG w0 ow0 L ns.length ss.length tb rb rc hb zv lv fl (λj y=>Tb ns ss k i j y\/(kI ns k j=G/\Ch ns c j y)) w ow->HG w0 ow0 L ns.length ss.length tb rb rc hb zv lv fl (Tb ns ss k (i+1)) w ow):=λw ow h=>h.to (λj y _ _=>by rw[Tb.step,zb o];exact or_congr Iff.rfl ⟨λq=>⟨u,.inl ⟨s,q⟩⟩,λq=>q.2.elim And.right (λq=>oa)⟩);rw[s] at W;clear m p o l u g s;go_wp2_with(go_at_call 100;refine N.mono ?_;rintro e w1 ⟨rfl,o2,t⟩;have P:=ze (zb f _ _ t);clear t);exact⟨⟨i+1,by go_num,oa,_,P⟩,by simp[intOf];omega⟩
  have f:=ze (zb m (λq=>q.2.elim s g));have d3:(n.kind == 3)=Z:=(by simp[g]);have d5:(n.kind == 5)=Z:=(by simp[s]);clear m p o l u g s;go_wp2_with fail;exact⟨⟨i+1,by go_num,oa,_,f⟩,by simp[intOf];omega⟩
 obtain rfl:i=ss.length:=oa;have HF:=ze a;clear a S;go_wp2_with fail
 go_end0
 exact⟨rfl,_,HF⟩
theorem Tryz.infoKn:(prog.info? 139).map (λi=>(i.zero.map (·.cells),i.size,i.bytes))=I (I (Array.replicate 12 (C Z)),12,12):=om
theorem idx4b (a b c d:Bool)(t:Nat)(e:t<4)(w:E):(Instr.index 137 (Uf #[C a,C b,C c,C d]) (M J (t:Nat))).run prog w=.ok (C ([a,b,c,d].getD t Z)) w:=by have h:prog.underlying 137=I (.array 4 4):=underlying137;simp[Instr.index,asIntOf,part];rw[IN e];obtain rfl|rfl|rfl|rfl:t=0\/t=1\/t=2\/t=3:=oa;all_goals rfl
def fpre (k:Nat)(a:List Bool):Nat->List (Int×Int)
 |0=>[]
 |t+1=>fpre k a t++(if a.getD t Z then [((k:Int),(t:Int))] else [])
theorem fpre_all (k:Nat)(a b c:Bool):fpre k [Z,a,b,c] 4=fail1 k a b c:=by cases a<;>cases b<;>cases c<;>rfl
theorem zbc (k:Nat)(a:List Bool):∀t,(fpre k a t).length<=t
 |0=>zgH _
 |t+1=>by
  have:=zbc k a t;rw[fpre,zgK];split<;>simp<;>omega
section
variable {w0 w F:World} {ow0 ow:Nat->Nat} {L:List (Nat×Tree)} {ns:List Nd} {ss:List Sc} {n m tb rb rc hb zv:Nat} {lv v2:Value} {fl:List (Int×Int)} {K T V:Nat->Value} {Q:Nat->Nat} {X:Nat->Nat->Prop} {k t:Int}
theorem HG.app (h:HG w0 ow0 L n m tb rb rc hb zv lv fl X w ow)(q:11<w0.heap.size)(d:zf (λg=>lv.ownBlock=I g) w F)(l:F.ownsRow (hb+1) 49 2 v2 (fl.length+1) (yC fl++[M J k,M J t]))(i:∀g,v2.ownBlock=I g->lv.ownBlock=I g\/w.heap.size<=g):HG w0 ow0 L n m tb rb rc hb zv v2 (fl++[(k,t)]) X F ow:=by have b:∀g,lv.ownBlock=I g->hb<g:=λg a=>(zh h.fr g a).1;have o:=h.lz;have p:=h.ne;have c:∀{j v},w.cell? ⟨hb,j,U⟩=I v->_:=λf=>zg d _ _ f (λe=>Nat.lt_irrefl _ (b _ e));exact⟨h.st.keep d (λg a=>⟨h.fo g a,by have:=b g a;omega⟩),h.eo,h.oh,h.oz,o,p,c h.h0,c h.h1,c h.h2,BF.keep h.tab d (λe=>by have:=b _ e;omega),zgJ h.lt d.size,h.on.laterO d (λg a e=>by have:=b g e;omega),by rw[zgK,Zr];exact l,λg a=>(i g a).elim (h.fo g) (h.st.n g)⟩
theorem HG.made (b:H0 w0 ow0 L ns ss tb rb K T V Q)(F:E)(a:F=(w0.alloc (Ub (madeCells (Array.replicate 12 (C Z)) (n*12)) 139)).alloc (Ub #[.slice (I ⟨tb,0,U⟩) n n,.slice (I ⟨rb,0,U⟩) m rc,.slice (I ⟨w0.heap.size,0,U⟩) n n] 135)):HG w0 ow0 L n m tb rb rc (w0.heap.size+1) w0.heap.size (.slice U 0 0) [] (λ_ _=>False) F ow0:=by
 have l:=(zf.refl (λ_=>False) w0).alloc (Ub (madeCells (Array.replicate 12 (C Z)) (n*12)) 139);have d:=l.alloc (Ub #[.slice (I ⟨tb,0,U⟩) n n,.slice (I ⟨rb,0,U⟩) m rc,.slice (I ⟨w0.heap.size,0,U⟩) n n] 135);rw[<-a] at d;have c:∀(j:Nat) u,_->F.cell? ⟨w0.heap.size+1,j,U⟩=I u:=λj u h=>a ▸ zm (w0.alloc _) _ ov #[.slice (I ⟨tb,0,U⟩) n n,.slice (I ⟨rb,0,U⟩) m rc,.slice (I ⟨w0.heap.size,0,U⟩) n n] 135 j u h;have o:F.heap.size=w0.heap.size+2:=by rw[a];simp
 refine⟨b.st.keep d (λ_ f=>f.elim),λ_ _=>rfl,b.st.n _ oa,b.st.n _ (zgH _),zgH _,oa,c 0 _ rfl,c 1 _ rfl,c 2 _ rfl,λx k=>?_,oa,d.mono (λ_ _ f=>f.elim),zgP _ _ _ _,λg e=>by simp[Value.ownBlock] at e⟩;have e:=J9 (Array.replicate 12 (C Z)) n (x / 12) (x % 12) (zif (by rw[zix];exact k)) ou;simp only[Array.size_replicate,Array.getElem_replicate,Nat.div_add_mod'] at e;have i:ziE (w0.alloc (Ub (madeCells (Array.replicate 12 (C Z)) (n*12)) 139)) F:=a ▸ (zf.refl _ _).alloc _;exact⟨⟨Z,zg i _ _ (zm w0 _ rfl _ _ x _ e) id,⟨λh=>Bool.noConfusion h,False.elim⟩⟩,zo i _ ov (zu w0 _ rfl _ _ x) id⟩
end
theorem zft {L:List (Nat×Tree)}{ns:List Nd}{ss:List Sc}{tb rb rc:Nat}{K T V:Nat->Y}{Q:Nat->Nat}(o:H0 w0 ow0 L ns ss tb rb K T V Q):Uh prog 28 #[.slice (I ⟨tb,0,U⟩) ns.length ns.length,.slice (I ⟨rb,0,U⟩) ss.length rc] w0 λx B=>∃v,x=R v/\B.ownsRow w0.heap.size 49 2 v (yP ns ss ns.length).length (yC (yP ns ss ns.length))/\zf (λg=>ow0 g≠0) w0 B:=by
 obtain⟨i0,aF,aL,aM,aN⟩:=info_parts Tryz.infoFl;have aV:=o.fine.n1;have hp:=o.fine.n0;have aK:=Xy 133 139 _ 12 12 underlying133 Tryz.infoKn ns.length oa oa;have w:=ze o;have s:=HG.made (n:=ns.length) (m:=ss.length) (rc:=rc) o _ rfl;have ac:H (HG w0 ow0 L ns.length ss.length tb rb rc (w0.heap.size+1) w0.heap.size (.slice U 0 0) (yP ns ss 0) (Tb ns ss 0 0) (World.setCell _ ⟨w0.heap.size,0,U⟩ (C G)) ow0):=(s.set (X':=λj y=>j=0/\y=0) o.tl hp (y:=0) od (λj y _ _ q=>⟨False.elim,q⟩) ⟨rfl,rfl⟩).to (λ_ _ _ _=>Tb.start);obtain⟨⟨b,q0,-⟩,qf⟩:=s.tab.get hp (i:=0) od;simp only[zia,zhl] at q0 qf;have x2:=s.h2;clear o s;go_enter func28,ntmps28;go_upto_region 2 with fail;generalize (w0.alloc (Ub (madeCells (Array.replicate 12 (C Z)) (ns.length*12)) 139)).alloc (Ub #[.slice (I ⟨tb,0,U⟩) ns.length ns.length,.slice (I ⟨rb,0,U⟩) ss.length rc,.slice (I ⟨w0.heap.size,0,U⟩) ns.length ns.length] 135)=W at *;go_upto_region 5 with fail;clear q0 qf aK x2;go_loopw[6,26] (λv x wr=>∃k:Nat,x=M J k/\k<=ns.length/\H (∃ow,HG w0 ow0 L ns.length ss.length tb rb rc (w0.heap.size+1) w0.heap.size v (yP ns ss k) (Tb ns ss k 0) wr ow)) (λ_ x _=>ns.length-(intOf x).toNat);exact⟨0,rfl,oa,_,ac⟩;clear ac;obtain⟨k,rfl,hi,P⟩:=hrel;obtain⟨o1,h⟩:=zb P;obtain⟨va,vn,vc,rfl⟩:=zr h.fr;by_cases p:k<ns.length
 .have HC:=ze (hall_all w k p wr o1 h);clear h P;go_upto_region 8 with(go_at_call 52;refine HC.mono ?_;rintro e w1 ⟨rfl,o2,g2⟩;have f:=ze g2;clear g2);have y2:=f.h2;obtain⟨⟨b0,c8,e8⟩,-⟩:=f.tab.get p (i:=8) od;obtain⟨⟨a,c9,e9⟩,-⟩:=f.tab.get p (i:=9) od;obtain⟨⟨c,aA,ae⟩,-⟩:=f.tab.get p (i:=10) od;obtain⟨⟨d,aB,af⟩,-⟩:=f.tab.get p (i:=11) od;obtain⟨t1,t2,t3,t4⟩:=Tb.ends w.fine p;obtain rfl:b0=Z:=(by cases b0;rfl;exact absurd (e8.1 rfl) t4);have HS:H (yP ns ss (k+1)=yP ns ss k++fpre k [Z,a,c,d] 4):=(by rw[fpre_all];exact QW (e9.trans t1) (ae.trans t2) (af.trans t3));clear e8 e9 ae af t1 t2 t3 t4 HC;go_upto_region 9 with fail;clear y2 c8 c9 aA aB;go_loopw[6,40] (λv x wi=>∃t:Nat,x=M J t/\t<=4/\H (∃ow,HG w0 ow0 L ns.length ss.length tb rb rc (w0.heap.size+1) w0.heap.size v (yP ns ss k++fpre k [Z,a,c,d] t) (Tb ns ss k ss.length) wi ow)) (λ_ x _=>4-(intOf x).toNat);exact⟨0,rfl,oa,_,by rw[fpre,zhc];exact zb f⟩;clear f;obtain⟨t,rfl,ht,S⟩:=hrel;obtain⟨o3,l⟩:=zb S;obtain⟨ua,un,uc,rfl⟩:=zr l.fr;have F:=ze l;by_cases aJ:t<4
  .have hx:=idx4b Z a c d t aJ;have u:fpre k [Z,a,c,d] (t+1)=fpre k [Z,a,c,d] t++(if [Z,a,c,d].getD t Z then [((k:Int),(t:Int))] else []):=rfl;have aH:=Zg (ns:=ns) (ss:=ss) k;have aI:=zbc k [Z,a,c,d] t;have hl:(yP ns ss k++fpre k [Z,a,c,d] t).length<=200:=(by rw[zgK];omega);generalize [Z,a,c,d].getD t Z=b at *;clear l S aH aI;cases b
   .have N:H (fpre k [Z,a,c,d] (t+1)=fpre k [Z,a,c,d] t):=(by show _=_;rw[u];simp);clear u;go_wp2_with fail;exact⟨⟨t+1,by go_num,oa,_,by rw[zb N];exact zb F⟩,by simp[intOf];omega⟩
   have N:H (yP ns ss k++fpre k [Z,a,c,d] (t+1)=(yP ns ss k++fpre k [Z,a,c,d] t)++[((k:Int),(t:Int))]):=(by show _=_;rw[u];simp);clear u;go_wp2_with(at_builtin;refine zb ?_);refine ze ?_;have r:=zb F;have z3:w0.heap.size+1<wr.heap.size:=zgF wr _ r.h0;refine yq _ rfl _ _ 42 rfl (w0.heap.size+1+1) 49 i0 (Uf #[M J 0,M J 0]) 2 16 underlying42 aF aL aM aN rfl od (.slice ua un uc) _ _ rfl (zgO r.fr _) _ 1 1 [M J k,M J t] rfl rfl (cell_two_new _ _ _ _) (λx hx=>by simp at hx;rcases hx with rfl|rfl<;>rfl) (by unfold maxLen;omega) oa ou ?_;intro v2 w3 X aj am;have ak:zf (λg=>(Value.slice ua un uc).ownBlock=I g) wr w3:=((zf.refl _ _).alloc _).grown aj (λj hj=>.inl hj);have HE:=ze (r.app w.tl ak X (λg hg=>(am g hg).imp_right (λe=>by simp at e;omega)));obtain⟨ya,yn,yc,rfl⟩:=zr X;clear X aj am ak r;go_wp2_with fail;exact⟨⟨t+1,by go_num,oa,_,by rw[zb N];exact zb HE⟩,by simp[intOf];omega⟩
  obtain rfl:t=4:=oa;rw[<-zb HS] at l;have z:=ze (l.to (λ_ _ _ _=>Tb.row));clear l S F;go_wp2_with fail;exact⟨⟨k+1,by go_num,oa,_,z⟩,by simp[intOf];omega⟩
 obtain rfl:k=ns.length:=oa;have z:=ze (Ur (zZ h.fr (show w0.heap.size<=w0.heap.size+1+1 by omega)) h.on);clear h P;go_wp2_with fail;go_ret;exact⟨_,rfl,z⟩
theorem H0.of {w1 F:E}{tb rb rc:Nat}{ns:List Nd}{ss:List Sc}{K T V:Nat->Y}{l:List Nat}{L:List (Nat×Tree)}{t:Nat->Nat}(o:DT w1 tb ns ns.length ns.length K T V)(h:SR w1 ss (.slice (I ⟨rb,0,U⟩) ss.length rc) l F L t)(s:l.length=ss.length)(w:VFine ns ss)(N:11<F.heap.size):H0 F t L ns ss tb rb K T V (λi=>l.getD i 0):=by
 have z:=h.on.size;have lt:∀{k n},ns[k]?=I n->k<ns.length:=λe=>(zgG.1 e).1;have d:=o.keep h.on;refine⟨w,h.st,λk n b=>⟨⟨?_,d.c1 k (lt b),d.c2 k (lt b),d.c3 k (lt b)⟩,(d.l k n (lt b) b).1.1,(d.l k n (lt b) b).2.1⟩,λk j=>d.v k j,λk g j x=>?_,h.lo tb o.lt,h.ob rb rfl,λi c r=>?_,N⟩;obtain⟨z,m,p⟩:=d.c0 k (lt b);rw[m,p n (lt b) b]
 .have y:g<w1.heap.size:=by have:=o.l k _ j (zgE j);rcases x with e|e|e;exact(this.1.2 g e).2;exact(this.2.2 g e).2;exact(zh (o.v k j) g e).2
  exact⟨h.lo g y,oa⟩
 have B:i<l.length:=by rw[s];exact(zgG.1 r).1
 have q:=zgE B;obtain⟨a,P,m,p⟩:=jI h.row;obtain⟨g,u,v⟩:=p i (Ua (I ⟨l[i],0,U⟩)) (by rw[qCells,zgZ,q];rfl);subst u;rw[s] at m;cases m;simp only[zg3,q,Option.getD_some];exact⟨v,(h.ps i c _ r q).keep (zf.refl (λ_=>False) _) (λ_ f=>f.elim) (λg _ e=>(j4.1 e).2)⟩
theorem zfu (ns:List Nd)(ss:List Sc)(nv sv:Y)(w:E)(a:Nat->Addr)(S:Start w a)(hT:TabAt w)(hN:vA w nv ns)(ax:∀a n c,nv=.slice a n c->n<=c)(hM:vB w sv ss)(X:ns.length<4611686018427387904)(W:ss.length<4611686018427387904):Uh prog 12 #[nv,sv] w (VAns ns ss w):=by
 have HD:=ze (zgs ns nv w a S hN ax X);have ad:H (∀V,ziE w V->_):=λV k=>zgy ss sv V a (S.keep k) (hT.keep k id) (hM.keep k) W;have HS:=ze S;have aH:=hT.lt;obtain⟨na,nc,rfl,_⟩:=hN;obtain⟨sa,sc,rfl,_⟩:=hM;clear S hT ax;go_enter func12,ntmps12;by_cases l:0<ns.length/\ns.length<=40/\∀j,j<ns.length->xI ns j
 .by_cases t:0<ss.length/\ss.length<=8/\∀(j:Nat) d,ss[j]?=I d->d.OK j ss.length
  .have hF:VFine ns ss:=⟨l.1,l.2.1,l.2.2,t.1,t.2.1,t.2.2⟩
   ((have ag:=ze l;have ah:=ze t;have HF:=ze hF;clear l t hF X W;have dN:∀{p},Qb ns p->False:=λh=>by obtain⟨i,u,m⟩:=zb ag;rcases h with h|h|⟨_,_,k,o,_,q,_⟩;omega;omega;exact q (m k o));have dS:∀{p},SErr ss p->False:=λh=>by obtain⟨i,u,m⟩:=zb ah;rcases h with h|h|⟨_,_,k,c,o,_,q,_⟩;omega;omega;exact q (m k c o));have ae:=ze (λp=>@dN p);have aF:=ze (λp=>@dS p);clear dN dS;go_wp2_with(first|(go_at_call 24;refine HD.mono ?_;rintro e w1 ⟨b,⟨v,p,_,_,no⟩|⟨_,tb,K,T,V,ht,rfl,P⟩⟩;exact(zb ae _ no).elim;have aB:=ze P;clear P)|(go_at_call 27;refine(zb ad _ b).mono ?_;rintro e F ⟨x,⟨v,p,_,_,no⟩|⟨_,rb,rc,qs,L,oo,rfl,hl,hR⟩⟩;exact(zb aF _ no).elim;have aD:=ze hR;have HH:=ze (H0.of aB hR hl HF (by have:=b.size;have:=x.size;omega));clear hR hl)|(go_at_call 28;refine(zft HH).mono ?_;rintro e w3 ⟨v,rfl,s,N⟩;obtain⟨va,vn,vc,rfl⟩:=zr s;have HV:=ze s;clear s));go_ret3;have z1:=b.size;have z2:=x.size;exact⟨(b.trans x).laterB N (λg hg=>Nat.le_of_not_lt λe=>hg (aD.lo g oa)),O ⟨HF,_,rfl,zZ HV oa⟩⟩
  have HE:H (∀B p,SErr ss p->ziE w B->VAns ns ss w (R (Ue #[.slice U 0 0,M J 11,M J p])) B):=λB p h k=>⟨k,.inl ⟨_,_,O (O (O ⟨l,h.imp (λh=>⟨h.1,rfl,h.2⟩) (λh=>h.imp (λh=>⟨h.1,rfl,h.2⟩) (λ⟨i,u,k,c,m,o,q,h6⟩=>⟨i,u,k,c,m,o,q,rfl,h6⟩))⟩)),rfl⟩⟩
  (have ae:H (∀p,Qb ns p->False):=λp h=>by obtain⟨i,u,m⟩:=l;rcases h with h|h|⟨_,_,k,o,_,q,_⟩;omega;omega;exact q (m k o));have ah:=ze t;clear l t X W;go_wp2_with(first|(go_at_call 24;refine HD.mono ?_;rintro e w1 ⟨b,⟨v,p,_,_,no⟩|⟨_,tb,K,T,V,ht,rfl,P⟩⟩;exact(zb ae _ no).elim;clear P)|(go_at_call 27;refine(zb ad _ b).mono ?_;rintro e F ⟨x,⟨v,p,rfl,s,z⟩|⟨yes,_⟩⟩;rotate_left;exact absurd yes ah;have r:=ze (HS.keep (b.trans x));obtain⟨g,hg,rfl,y,f1⟩:=s;have h0:=ze y;have i:=ze f1;have af:=ze z;clear y f1 z)|(go_at_call 25;refine ziD (JO g 10 a _ r.sents r.rows (O rfl) h0) ?_)|(go_at_call 26;refine(Kv g p _ r.et i).mono ?_;rintro e w3 ⟨rfl,N⟩));go_ret3;exact zb HE _ _ af ((b.trans x).trans N)
 have HE:H (∀B p,Qb ns p->ziE w B->VAns ns ss w (R (Ue #[.slice U 0 0,M J 10,M J p])) B):=λB p h k=>⟨k,.inl ⟨_,_,h.imp (λh=>⟨h.1,rfl,h.2⟩) (λh=>h.imp (λh=>⟨h.1,rfl,h.2⟩) (λ⟨i,u,k,m,o,q,h6⟩=>.inl ⟨i,u,k,m,o,q,rfl,h6⟩)),rfl⟩⟩
 have ag:=ze l;clear l X W ad;go_wp2_with(first|(go_at_call 24;refine HD.mono ?_;rintro e w1 ⟨b,⟨v,p,rfl,s,z⟩|⟨yes,_⟩⟩;rotate_left;exact absurd yes ag;have r:=ze (HS.keep b);obtain⟨g,hg,rfl,y,f1⟩:=s;have h0:=ze y;have i:=ze f1;have af:=ze z;clear y f1 z)|(go_at_call 25;refine ziD (JO g 9 a _ r.sents r.rows (.inl rfl) h0) ?_)|(go_at_call 26;refine(Kv g p _ r.et i).mono ?_;rintro e w3 ⟨rfl,N⟩));go_ret3;exact zb HE _ _ af (b.trans N)
end
