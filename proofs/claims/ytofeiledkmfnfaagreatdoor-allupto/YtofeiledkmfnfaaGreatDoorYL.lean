/- Validate, the program: may a node stand there? Validate, the program: a node is read. -/
import Derived.Test.YtofeiledkmfnfaaGreatDoorYK
import Derived.Laws.CopyOwn
namespace Go.Proofs.YtofeiledkmfnfaaGreatDoor
open World renaming heap->A,cell?->d,cell?->dx,frozen?->dz,ownsRow->dA,alloc->dB,setCell->dC
open _root_.Array renaming size->dg,size->r
open Value renaming ownBlock->dH,ownBlock->o
open _root_.ByteArray renaming size->dJ
open Bool renaming noConfusion->dL
open Option renaming none->U,some->I
open Value renaming int->M,bool->C,pointer->Ua,string->Uc,iface->Ud,tuple->Ue,agg->Uf,nilIface->Ui
open IntKind renaming i64->J
open Bool renaming false->Z,true->G
open Go renaming World->E,Value->Y,Calls->Uh
open Go.RowKit renaming Hid->H
open Or renaming inr->O
open Ending renaming returned->R
open Obj renaming cells->Ub
open And renaming intro->Ur
open Ts Ref Sm TC Tv
open _root_.Go.Proofs.Tryz
open List renaming length->D
set_option maxHeartbeats 8000000
set_option maxRecDepth 1000000
variable (p:Al)(w:World)(g k:Nat)(a:Nat->Addr){w0:World}(t e:TypeId)(z:Array Value){oo ow0 ow:Ak}(f:Int){w1 F:World}
section
open Go.RowKit
def Nd.fit (n:Nd):Prop:=0<=n.kind/\n.kind<=5/\(n.kind=3\/n.text.toList=[])
def B6 (ns:Av)(k:Nat):Prop:=∃n,ns[k]?=I n/\n.fit/\n.there ns k
theorem Eb {ns:Av}{k:Nat}{n:Nd}(a:ns[k]?=I n):xM ns k↔B6 ns k/\AV n.key=G/\AV n.text=G:=by constructor;rintro⟨m,b,⟨c,d,e⟩,f⟩;cases a.symm.trans b;exact⟨⟨n,a,e,f⟩,c,d⟩;rintro⟨⟨m,b,e,f⟩,c,d⟩;cases a.symm.trans b;exact⟨n,a,⟨c,d,e⟩,f⟩
def Nd.Of (m:Nd)(b:Int)(a:Al):Bool:=(m.parent == b) && (m.key.toList == a.toList)
theorem zdJ {m:Nd}{b:Int}{a:Al}:m.Of b a=G↔m.parent=b/\m.key.toList=a.toList:=by simp[Nd.Of]
theorem El (m:Nd)(pb:Nat)(b:Int)(e:Al)(w:E)(c:dx w ⟨pb,1,U⟩=I (M J b))(d:dx w ⟨pb,2,U⟩=I (Uc e)):Uh prog 128 #[Uf #[M J m.kind,M J m.parent,Uc m.key,Uc m.text],Ua (I ⟨pb,0,U⟩)] w λx B=>x=R (C (m.Of b e))/\zke w B:=by
 have a:=(zg.refl (λ_=>False) w).alloc (Ub #[M J m.kind,M J m.parent,Uc m.key,Uc m.text] 61);have h:=zf a _ _ c id;have i:=zf a _ _ d id;have g:=zd a;have j:=zic _ _ h;unfold Nd.Of;cases hp:(m.parent == b)
 all_goals
  go_enter func128,ntmps128;go_wp2;go_ret;exact⟨rfl,by repeat (first|exact g|refine zg.drewN ?_ _)⟩
theorem zhI (ns:Av)(d off c k pb:Nat)(b:Int)(a:Al)(w:E)(v:∀(i:Nat) n,ns[i]?=I n->∀(j:Nat) u,n.cells[j]?=I u->dx w ⟨d,off+i*4+j,U⟩=I u)(s:dx w ⟨pb,1,U⟩=I (M J b))(t:dx w ⟨pb,2,U⟩=I (Uc a))(hk:1<=k)(hl:k<=D ns)(hm:D ns<=40):Uh prog 127 #[.slice (I ⟨d,off+4,U⟩) (k-1) c,.func (.func 128) #[] #[Ua (I ⟨pb,0,U⟩)]] w (CM w (∃(i:Nat) (m:Nd),1<=i/\i<k/\ns[i]?=I m/\m.Of b a=G)):=by
 have W:H (Uh prog 167 #[.slice (I ⟨d,off+4,U⟩) (k-1) c,.func (.func 128) #[] #[Ua (I ⟨pb,0,U⟩)]] w λx B=>∃z:Int,x=R (M J z)/\(0<=z↔∃(i:Nat) (m:Nd),1<=i/\i<k/\ns[i]?=I m/\m.Of b a=G)/\zke w B):=by
  show Uh _ _ _ _ _;have HN:=zd v;have X:H (∀V,zke w V->∀m:Nd,_):=λV k m=>El m pb b a V (zf k _ _ s id) (zf k _ _ t id);go_enter func167,ntmps167;go_wp2;go_loopw[8] (λx wr=>∃i:Nat,x=M J i/\i<=k-1/\H (zke w wr)/\H (∀(j:Nat) m,1<=j->j<i+1->ns[j]?=I m->m.Of b a=Z)) (λx _=>k-(intOf x).toNat);exact⟨0,rfl,oa,zg.refl _ _,λj _ _ _=>oa⟩;obtain⟨i,rfl,hi,g,L⟩:=hrel;by_cases al:i<k-1
  .have F:=AE (show i+1<D ns by omega);generalize ns[i+1]=m at *;have l:=λj u h=>zf g _ _ (zb HN (i+1) m F j u h) id;have c0:dx wr ⟨d,off+4+i*4,U⟩=I (M J m.kind):=(by have:=l 0 _ rfl;rwa [show off+(i+1)*4+0=off+4+i*4 by omega] at this);have c1:dx wr ⟨d,off+4+i*4+1,U⟩=I (M J m.parent):=(by have:=l 1 _ rfl;rwa [show off+(i+1)*4+1=off+4+i*4+1 by omega] at this);have c2:dx wr ⟨d,off+4+i*4+2,U⟩=I (Uc m.key):=(by have:=l 2 _ rfl;rwa [show off+(i+1)*4+2=off+4+i*4+2 by omega] at this);have c3:dx wr ⟨d,off+4+i*4+3,U⟩=I (Uc m.text):=(by have:=l 3 _ rfl;rwa [show off+(i+1)*4+3=off+4+i*4+3 by omega] at this);have o:=zd (zb X wr g m);have N:=zd F;cases hb:m.Of b a
   ·(have T:H (∀(j:Nat) m,1<=j->j<i+1+1->ns[j]?=I m->m.Of b a=Z):=λj m' r a2 p=>by by_cases e:j=i+1;subst e;cases(zb N).symm.trans p;exact hb;exact zb L j m' r oa p);rw[hb] at o;go_wp2_with(go_at_fn 128;refine zb ?_);refine zd ?_;refine o.mono ?_;rintro e w1 ⟨rfl,y⟩;go_wp2;exact⟨⟨i+1,Ae,oa,g.trans y,T⟩,Ad⟩
   have q:H (∃(i:Nat) (m:Nd),1<=i/\i<k/\ns[i]?=I m/\m.Of b a=G):=⟨i+1,m,oa,oa,N,hb⟩
   rw[hb] at o;go_wp2_with(go_at_fn 128;refine zb ?_);refine zd ?_;refine o.mono ?_;rintro e w1 ⟨rfl,y⟩;go_wp2;go_ret;exact⟨_,rfl,⟨λ_=>zb q,λ_=>oa⟩,g.trans y⟩
  have q:H ((0:Int)<=-1↔∃(i:Nat) (m:Nd),1<=i/\i<k/\ns[i]?=I m/\m.Of b a=G):=⟨λh=>oa,λ⟨j,m,r,a2,p,P⟩=>by rw[zb L j m r oa p] at P;cases P⟩
  go_wp2;go_ret;exact⟨_,rfl,q,g⟩
 go_enter func127,ntmps127;go_wp2_with(go_at_call 167;refine W.mono ?_;rintro e w1 ⟨z,rfl,S,hO⟩;have HZ:=zd S);go_ret;exact⟨_,rfl,by rw[<-zb HZ];simp,hO⟩
theorem EU (ns:Av)(v:Y)(k:Nat)(w:E)(hN:Zf w v ns)(hk:k<D ns)(hl:D ns<=40)(aq:∀a n c,v=.slice a n c->n<=c):Uh prog 75 #[v,M J (k:Nat)] w (CM w (B6 ns k)):=by
 obtain⟨a,aw,rfl,hC⟩:=hN;obtain⟨T,ab,rfl,L⟩:=hC k ns[k] (AE hk);have aR:=aq _ _ _ rfl;have HC:H (∀V,zke w V->∀(i:Nat) n,ns[i]?=I n->∀(j:Nat) u,n.cells[j]?=I u->dx V ⟨T,ab+i*4+j,U⟩=I u):=λV kk i n hi j u hu=>by have⟨_,_,e,h⟩:=hC i n hi;cases e;exact zf kk _ _ (h j u hu) id
 have hn:=AE hk;generalize ns[k]=n at *;have⟨g,d,l,o⟩:=n;have c0:dx w ⟨T,ab+k*4,U⟩=I (M J g):=L 0 _ rfl;have c1:=L 1 _ rfl;have c2:=L 2 _ rfl;have c3:=L 3 _ rfl;have HX:H (∀b:Bool,(b=G↔Nd.fit ⟨g,d,l,o⟩/\Nd.there ns k ⟨g,d,l,o⟩)->(b=G↔B6 ns k)):=λb hb=>hb.trans ⟨λh=>⟨_,hn,h⟩,λ⟨m,h1,F⟩=>by cases hn.symm.trans h1;exact F⟩;have r:H (zke w (dB w (Ub #[M J g,M J d,Uc l,Uc o] 61))):=Ag;have y:=zj w _ rfl #[M J g,M J d,Uc l,Uc o] 61 1 _ rfl;have z:=zj w _ rfl #[M J g,M J d,Uc l,Uc o] 61 2 _ rfl;clear hC L hn aq;have W:(Nd.fit ⟨g,d,l,o⟩/\(o.toList == [])=G/\0<=g/\g<=5)\/(Nd.fit ⟨g,d,l,o⟩/\(o.toList == [])=Z/\g=3)\/(¬Nd.fit ⟨g,d,l,o⟩/\(g<0\/(0<=g/\5<g)\/(0<=g/\g<=5/\(o.toList == [])=Z/\(g == 3)=Z))):=by
  unfold Nd.fit;cases ht:(o.toList == [])
  grind
  grind
 obtain W|W|⟨N,h⟩:=W
 rotate_left 2
 .have HF:H (Z=G↔B6 ns k):=zb HX Z ⟨λq=>dL q,λq=>absurd q.1 N⟩;clear N y z;obtain h|⟨h,h'⟩|⟨h,h',aP,h3⟩:=h
  all_goals
   go_enter func75,ntmps75;go_wp2;go_ret;exact⟨_,rfl,HF,r⟩
 all_goals
  have⟨N,h1,F⟩:=W;have S:H (∀b:Bool,(b=G↔Nd.there ns k ⟨g,d,l,o⟩)->(b=G↔B6 ns k)):=λb h=>zb HX b (h.trans ⟨λq=>⟨N,q⟩,And.right⟩);clear N HX;first|have⟨F,h3⟩:=F|subst F
  by_cases X:k=0
  ·(have aG:((k:Int) == 0)=G:=(by simp[X]);have B:H (∀q,Nd.there ns k ⟨q,d,l,o⟩↔d = -1/\l.toList=[]):=λq=>(by unfold Nd.there;rw[IN X]);clear y z X;go_enter func75,ntmps75;go_wp2;all_goals go_ret);all_goals exact⟨_,rfl,zb S _ (by rw[zb B _];simp[*]),Ag⟩
  have aG:((k:Int) == 0)=Z:=ou;have B:H (∀q,Nd.there ns k ⟨q,d,l,o⟩↔0<=d/\d<k/\∃p,ns[d.toNat]?=I p/\(if p.kind=5 then ∀(i:Nat) m,1<=i->i<k->ns[i]?=I m->¬(m.parent=d/\m.key.toList=l.toList) else p.kind=4/\l.toList=[])):=λq=>(by unfold Nd.there;rw[iN X]);by_cases t:0<=d/\d<k
  .obtain⟨m,rfl⟩:∃m:Nat,d=m:=⟨d.toNat,oa⟩
   have aI:m<D ns:=oa;have aS:(m:Int)<(k:Int):=t.2;have aa:=AE aI;generalize ns[m]=p at *;have d0:∀V,zke w V->dx V ⟨T,ab+m*4,U⟩=I (M J p.kind):=λV kk=>zb HC V kk m p aa 0 _ rfl;have d1:=d0 _ r;have P:H (∀b:Bool,(b=G↔if p.kind=5 then ∀(i:Nat) q,1<=i->i<k->ns[i]?=I q->¬(q.parent=m/\q.key.toList=l.toList) else p.kind=4/\l.toList=[])->(b=G↔B6 ns k)):=λb hb=>zb S b (hb.trans ((zb B _).trans ⟨λ⟨_,_,q,g1,g2⟩=>by cases aa.symm.trans g1;exact g2,λq=>⟨t.1,t.2,p,aa,q⟩⟩).symm);clear t aa B S d0;by_cases s:p.kind=5
   .have aQ:(p.kind == 4)=Z:=ou;have aB:(p.kind == 5)=G:=(by simp[s]);rw[IN s] at P;have HL:H (Uh prog _ _ _ _):=zhI ns T ab (aw-1) k (dg (A w)) m l _ (zb HC _ r) y z oa oa hl;clear s y z;go_enter func75,ntmps75;go_wp2_with(go_at_call 127;refine HL.mono ?_;rintro e w1 ⟨b,rfl,hb,aD⟩;have HB:=zd hb;clear hb);go_ret;exact⟨_,rfl,zb P _ (by rw[Ly,<-Lx,zb HB];exact⟨λq i x a1 a2 a3 a4=>q ⟨i,x,a1,a2,a3,zdJ.2 a4⟩,λq ⟨i,x,a1,a2,a3,a4⟩=>q i x a1 a2 a3 (zdJ.1 a4)⟩),r.trans aD⟩
   rw[iN s] at P;have aB:(p.kind == 5)=Z:=beq_eq_false_iff_ne.2 s;clear s y z;cases h4:(p.kind == 4)
   all_goals
    have ap:=h4;go_enter func75,ntmps75;go_wp2;go_ret;exact⟨_,rfl,zb P _ (by simp at ap;simp[ap]),r⟩
  have HF:H (Z=G↔B6 ns k):=zb S Z ((zb B _).trans ⟨λq=>absurd ⟨q.1,q.2.1⟩ t,λq=>by cases q⟩).symm;have ak:d<0\/(0<=d/\(k:Int)<=d):=oa;clear t y z;obtain ak|⟨ak,aT⟩:=ak
  all_goals
   go_enter func75,ntmps75;go_wp2;go_ret;exact⟨_,rfl,HF,r⟩
def Mw (w B:E)(s:Al)(v e:Y):Prop:=(e=Ui/\AV s=G/\yX B (r (A w)) v s)\/((∃T y,e=Ud T y)/\AV s=Z)
theorem Ws (s:Al)(w:E)(a:Nat->Addr)(i:ym w a)(k:10<=r (A w)):Uh prog 46 #[Uc s,M J 400] w λx B=>∃b n c e,x=R (Ue #[.slice b n c,e])/\Mw w B s (.slice b n c) e/\zke w B:=by by_cases f:dJ s<=400;by_cases j:(zu s).2<0;refine(zdE s w a i k f j).mono ?_;rintro x B ⟨b,n,c,rfl,h,d⟩;exact⟨b,n,c,_,rfl,.inl ⟨rfl,by unfold AV;rw[decide_eq_true j,decide_eq_true f];rfl,h⟩,d⟩;refine(YF s 400 oa f w a i k oa).mono ?_;rintro x B ⟨v,rfl,h,d⟩;obtain⟨g,rfl⟩:=h.form;exact⟨_,_,_,_,rfl,O ⟨⟨_,_,rfl⟩,by unfold AV;rw[decide_eq_false j];rfl⟩,d⟩;refine(wH s 400 oa w a i).mono ?_;rintro x B ⟨v,rfl,h,d⟩;obtain⟨g,rfl⟩:=h.form;exact⟨_,_,_,_,rfl,O ⟨⟨_,_,rfl⟩,by unfold AV;rw[decide_eq_false f,Bool.and_false]⟩,d⟩
def Lg (w:E)(tb o:Nat)(k:Int)(key a:Al)(x:Ending)(B:E):Prop:=∃kv tv w1,x=R (C (AV key && AV a))/\B=((w1.setCell ⟨tb,o,U⟩ (M J k)).setCell ⟨tb,o+1,U⟩ kv).setCell ⟨tb,o+2,U⟩ tv/\(AV key=G->AV a=G->yX w1 (r (A w)) kv key/\yX w1 (r (A w)) tv a)/\zke w w1
theorem zhJ (tb o:Nat)(k p:Int)(key b:Al)(z0 z1 z2:Y)(w:E)(a:Nat->Addr)(W:ym w a)(hw:10<=dg (A w))(t:dx w ⟨tb,o,U⟩=I z0) (c1:dx w ⟨tb,o+1,U⟩=I z1) (S:dx w ⟨tb,o+2,U⟩=I z2) (T:∀j,dz w ⟨tb,j,U⟩=Z):Uh prog 76 #[Ua (I ⟨tb,o,U⟩),Uf #[M J k,M J p,Uc key,Uc b]] w (Lg w tb o k key b):=by
 have L:=zd W;have af:tb<dg (A w):=zic w _ t;have u:=(zg.refl (λ_=>False) w).alloc (Ub #[M J k,M J p,Uc key,Uc b] 61);have hz:(dB w (Ub #[M J k,M J p,Uc key,Uc b] 61)).heap.size=dg (A w)+1:=ov;have y:=zd (Ws key _ a (W.keep u (λ_ _ f=>f)) oa);go_enter func76,ntmps76;go_wp2_with(go_at_call 46;refine y.mono ?_;rintro e w1 ⟨i,n1,n,e1,rfl,X,d⟩;refine zb ?_);refine zd ?_;have c:=u.trans d;have aq:=d.size;have N:=zd X;have p0:=zf d _ _ (zj w _ rfl _ _ 0 _ rfl) id;have p3:=zf d _ _ (zj w _ rfl _ _ 3 _ rfl) id;have z:=zd (Ws b w1 a (L.keep c (λ_ _ f=>f)) oa);have B:=zd c;go_wp2_with(go_at_call 46;refine z.mono ?_;rintro e F ⟨l,n2,r,e2,rfl,aa,m⟩;refine zb ?_);refine zd ?_;have c:=B.trans m;have q0:=zf m _ _ p0 id;have d0:=zf c _ _ t id;have d1:=zf c _ _ c1 id;have d2:=zf c _ _ S id;have g0:∀j,dz F ⟨tb,j,U⟩=Z:=λj=>(c.frozen (p:=⟨tb,j,U⟩) af id).trans (T j);have ae:=zd c;have x:=zd m;have P:=zd aa;obtain⟨rfl,g,l1⟩|⟨⟨T1,y1,rfl⟩,g⟩:=zb N<;>obtain⟨rfl,s,l2⟩|⟨⟨T2,y2,rfl⟩,s⟩:=zb P
 case' inl.inl=>have h:H (AV key=G->AV b=G->yX F (dg (A w)) (.slice i n1 n) key/\yX F (dg (A w)) (.slice l n2 r) b):=λ_ _=>⟨(l1.keep x (λ_ _ f=>f)).base oa,l2.base oa⟩
 case' inl.inr=>have h:H (AV key=G->AV b=G->yX F (dg (A w)) (.slice i n1 n) key/\yX F (dg (A w)) (.slice l n2 r) b):=λ_ q=>absurd (s.symm.trans q) od
 case' inr.inl=>have h:H (AV key=G->AV b=G->yX F (dg (A w)) (.slice i n1 n) key/\yX F (dg (A w)) (.slice l n2 r) b):=λq _=>absurd (g.symm.trans q) od
 case' inr.inr=>have h:H (AV key=G->AV b=G->yX F (dg (A w)) (.slice i n1 n) key/\yX F (dg (A w)) (.slice l n2 r) b):=λq _=>absurd (g.symm.trans q) od
 all_goals
  have v:=zd (Ur g s)
  try clear l1
  try clear l2
  go_wp2;go_ret;exact⟨_,_,F,by rw[(zb v).1,(zb v).2];rfl,rfl,h,ae⟩
theorem Qc (size bytes:Nat)(d:prog.underlying t=I (.slice e))(c:(prog.info? e).map (λi=>(i.zero.map (·.cells),i.size,i.bytes))=I (I z,size,bytes))(n:Nat)(l:bytes*n<=281474976710656)(k:n<=9223372036854775807)(w:E):(Instr.makeSlice t (M J (n:Int)) (M J (n:Int))).run prog w=.ok (.slice (I ⟨r (A w),0,U⟩) n n) (dB w (Ub (madeCells z (n*size)) e)):=by have⟨i,b,a⟩:=Cj.1 c;simp only[Prod.mk.injEq] at a;obtain⟨f,rfl,rfl⟩:=a;obtain⟨j,g,rfl⟩:=Cj.1 f;have h:=run_make (P:=prog) w t e i j d b g J J n n oa oa (by rw[<-Ln];omega) oa;rw[CH] at h;exact h
theorem K6 (n k c:Nat)(b:k<n)(a:c<z.size):(madeCells z (n*z.size))[k*z.size+c]?=I z[c]:=by have d:=Lt b a;unfold madeCells;rw[Array.getElem?_map,Array.getElem?_range,IN d,Option.map_some,(Nn a).2,getElem!_pos z c a]
def kY (ns:Av)(k i:Nat):Bool:=match ns[i]? with
 |some n=>decide (1<=i) && (n.parent == (k:Int))
 |none=>Z
def xx (ns:Av)(k:Nat):Nat->Ar
 |0=>[]
 |i+1=>xx ns k i++(if kY ns k i then [(i:Int)] else [])
theorem QL (ns:Av)(k:Nat):∀i,(xx ns k i).length<=i
 |0=>AD _
 |i+1=>by
  have:=QL ns k i;rw[xx,AO];split<;>simp<;>omega
theorem YH {ns:Av}{k:Nat}{x:Int}:∀{i:Nat},x∈xx ns k i↔∃j:Nat,x=j/\j<i/\kY ns k j=G
 |0=>by simp[xx]
 |i+1=>by
  rw[xx,A7,YH (i:=i)];constructor
  grind
  grind
structure DT (w:E)(tb:Nat)(ns:Av)(i j:Nat)(K T V:Nat->Y):Prop where
 fz:∀q,dz w ⟨tb,q,U⟩=Z
 lt:tb<r (A w)
 c0:∀k,k<D ns->∃z,d w ⟨tb,k*4,U⟩=I z/\∀n,k<i->ns[k]?=I n->z=M J n.kind
 c1:∀k,k<D ns->d w ⟨tb,k*4+1,U⟩=I (K k)
 c2:∀k,k<D ns->d w ⟨tb,k*4+2,U⟩=I (T k)
 c3:∀k,k<D ns->d w ⟨tb,k*4+3,U⟩=I (V k)
 l:∀k n,k<i->ns[k]?=I n->yX w (tb+1) (K k) n.key/\yX w (tb+1) (T k) n.text
 v:∀k,k<D ns->dA w (tb+1) 3 1 (V k) (xx ns k j).length (yq (xx ns k j))
 s:∀k g,k<D ns->(V k).ownBlock=I g->∀k',k'<D ns->(k'≠k->(V k').ownBlock≠I g)/\(k'<i->(K k').ownBlock≠I g/\(T k').ownBlock≠I g)
section
variable {w B:World} {tb i j p:Nat} {ns:Av} {K T V:Nat->Value}
theorem DT.keep (h:DT w tb ns i j K T V)(k:zke w B):DT B tb ns i j K T V:=
 ⟨λq=>zp k _ h.lt (h.fz q) id,AM h.lt k.size,λq a=>by
  have⟨z,b,c⟩:=h.c0 q a;exact⟨z,zf k _ _ b id,c⟩,λq a=>zf k _ _ (h.c1 q a) id,λq a=>zf k _ _ (h.c2 q a) id,λq a=>zf k _ _ (h.c3 q a) id,λq n b c=>⟨(h.l q n b c).1.keep k (λ_ _ f=>f),(h.l q n b c).2.keep k (λ_ _ f=>f)⟩,λq a=>zk (h.v q a) k (λ_ _ f=>f),h.s⟩
theorem DT.made (w:E)(ns:Av):DT (dB w (Ub (madeCells #[M J 0,.slice U 0 0,.slice U 0 0,.slice U 0 0] (D ns*4)) 183)) (r (A w)) ns 0 0 (λ_=>.slice U 0 0) (λ_=>.slice U 0 0) (λ_=>.slice U 0 0):=by have c:∀k c,k<D ns->(b:c<4)->_:=λk c a b=>zj w _ rfl _ 183 (k*4+c) _ (K6 #[M J 0,.slice U 0 0,.slice U 0 0,.slice U 0 0] (D ns) k c a b);exact⟨λq=>zt w _ rfl _ _ q,ov,λk a=>⟨_,c k 0 a od,λ_ h=>absurd h (Bs _)⟩,λk a=>c k 1 a od,λk a=>c k 2 a od,λk a=>c k 3 a od,λ_ _ h=>absurd h (Bs _),λ_ _=>A0 _ _ _ _,λ_ _ _ h=>by simp[o] at h⟩
theorem DT.root (h:DT w tb ns i j K T V)(a:j=0):DT w tb ns i (j+1) K T V:=by
 subst a;refine⟨h.fz,h.lt,h.c0,h.c1,h.c2,h.c3,h.l,λk b=>?_,h.s⟩;have:xx ns k 1=xx ns k 0:=by
  have:kY ns k 0=Z:=by unfold kY;split<;>simp
  show xx ns k 0++(if kY ns k 0 then [((0:Nat):Int)] else [])=_;rw[this];simp
 rw[this];exact h.v k b
theorem DT.read {kv tv:Y}{n:Nd}{w1:E}(h:DT w tb ns i j K T V)(u:ns[i]?=I n)(k:zke w w1)(t:yX w1 (dg (A w)) kv n.key)(y:yX w1 (dg (A w)) tv n.text)(F:B=((w1.setCell ⟨tb,i*4,U⟩ (M J n.kind)).setCell ⟨tb,i*4+1,U⟩ kv).setCell ⟨tb,i*4+2,U⟩ tv):DT B tb ns (i+1) j (λq=>if q=i then kv else K q) (λq=>if q=i then tv else T q) V:=by
 have p:=(AK.1 u).1;have⟨z,S,d1⟩:=h.c0 i p;have⟨e0,W,X,l,ef,o⟩:=set3 F k S (h.c1 i p) (h.c2 i p) h.fz;have hl:=h.lt;have f:∀g,tb+1<=g->¬zr tb g:=λg d e=>by unfold zr at e;omega
 have L:zg (zr tb) w1 B:=by rw[F];exact(((zg.refl _ _).NS _ _).NS _ _).NS _ _
 have sz:=k.size;refine⟨ef,AM hl o.size,λq a=>?_,λq a=>?_,λq a=>?_,λq a=>l _ _ oa oa oa (h.c3 q a),λq x s m=>?_,λq a=>zk (h.v q a) o (λg d=>f g (zh (h.v q a) g d).1),λq g a d r v=>⟨(h.s q g a d r v).1,λs=>?_⟩⟩
 .by_cases e:q=i
  grind
  have⟨z,N,P⟩:=h.c0 q a;exact⟨z,l _ _ oa oa oa N,λx s m=>P x oa m⟩
 by_cases e:q=i;subst e;simpa using W;rw[iN e];exact l _ _ oa oa oa (h.c1 q a);by_cases e:q=i;subst e;simpa using X;rw[iN e];exact l _ _ oa oa oa (h.c2 q a);by_cases e:q=i;subst e;cases u.symm.trans m;simp only[IN];exact⟨(t.base oa).keep L f,(y.base oa).keep L f⟩;simp only[iN e];have:=h.l q x oa m;exact⟨this.1.keep o f,this.2.keep o f⟩;have b:=(zh (h.v q a) g d).2;by_cases e:r=i;simp only[IN e];exact⟨λc=>by have:=(t.2 g c).1;omega,λc=>by have:=(y.2 g c).1;omega⟩;simp only[iN e];exact(h.s q g a d r v).2 oa
theorem DT.app {t:Y}(h:DT w tb ns i j K T V)(F:p<D ns)(ao:kY ns p j=G)(al:∀q,q≠p->kY ns q j=Z)(k:zg (λg=>(V p).ownBlock=I g) w B)(hv:B.ownsRow (tb+1) 3 1 t (xx ns p (j+1)).length (yq (xx ns p (j+1))))(W:∀g,dH t=I g->(V p).ownBlock=I g\/dg (A w)<=g):DT (B.setCell ⟨tb,p*4+3,U⟩ t) tb ns i (j+1) K T (λq=>if q=p then t else V q):=by
 have hl:=h.lt;have nt:¬(V p).ownBlock=I tb:=λe=>by have:=(zh (h.v p F) tb e).1;omega
 have N:zg (zr tb) B (B.setCell ⟨tb,p*4+3,U⟩ t):=(zg.refl _ _).NS _ _;have X:∀g,tb+1<=g->¬zr tb g:=λg l e=>by unfold zr at e;omega
 have o:∀q u,q≠p*4+3->dx w ⟨tb,q,U⟩=I u->(B.setCell ⟨tb,p*4+3,U⟩ t).cell? ⟨tb,q,U⟩=I u:=λq u e hc=>(AN _ _ _ _ ov).trans (zf k _ _ hc nt);have lt:∀q n,q<i->ns[q]?=I n->q<D ns:=λq n _ e=>(AK.1 e).1;have lk:∀{x:Y} {s:Al},yX w (tb+1) x s->(∀g,(V p).ownBlock=I g->dH x≠I g)->yX (B.setCell ⟨tb,p*4+3,U⟩ t) (tb+1) x s:=λ{x s} a b=>by refine yX.keep (P:=zr tb) ⟨?_,λg l=>⟨(a.2 g l).1,AM (a.2 g l).2 k.size⟩⟩ N X;obtain v|⟨g,aj,v,a2,a3⟩:=a.1;exact .inl v;exact O ⟨g,aj,v,a2,a3.keep k (λe=>b g e (by rw[v];rfl))⟩
 refine⟨λq=>by rw[zl];exact zp k _ hl (h.fz q) nt,AM hl (AP k.size N.size),λq f=>?_,λq f=>o _ _ oa (h.c1 q f),λq f=>o _ _ oa (h.c2 q f),λq f=>?_,λq n m L=>⟨lk (h.l q n m L).1 (λg e=>((h.s p g F e q (lt q n m L)).2 m).1),lk (h.l q n m L).2 (λg e=>((h.s p g F e q (lt q n m L)).2 m).2)⟩,λq f=>?_,λq g f l r y=>?_⟩;have⟨z,a0,v⟩:=h.c0 q f;exact⟨z,o _ _ oa a0,v⟩;by_cases e:q=p;subst e;rw[IN rfl];exact AX _ _ _ (zf k _ _ (h.c3 q f) nt);rw[iN e];exact o _ _ oa (h.c3 q f);by_cases e:q=p;subst e;simp only[IN];exact zk hv N (λg l=>X g (zh hv g l).1);simp only[iN e];have:xx ns q (j+1)=xx ns q j:=(by rw[xx,al q e];simp);rw[this];exact zk (zk (h.v q f) k (λg l c=>(h.s p g F c q f).1 e l)) N (λg l=>X g (zh (h.v q f) g l).1);have lb:∀x,x<D ns->∀g,(V x).ownBlock=I g->g<dg (A w):=λx hx g c=>(zh (h.v x hx) g c).2;by_cases e:q=p
 .subst e;simp only[IN] at l;refine⟨λS=>?_,λm=>?_⟩;simp only[iN S];intro c;obtain d|d:=W g l;exact(h.s q g f d r y).1 S c;have:=lb r y g c;omega;obtain d|d:=W g l;exact(h.s q g f d r y).2 m;obtain⟨n,hn⟩:∃n,ns[r]?=I n:=⟨_,AE y⟩
  have:=h.l r n m hn;exact⟨λc=>by have:=(this.1.2 g c).2;omega,λc=>by have:=(this.2.2 g c).2;omega⟩
 simp only[iN e] at l;refine⟨λS=>?_,(h.s q g f l r y).2⟩;by_cases e2:r=p;simp only[IN e2];intro c;obtain d|d:=W g c;exact(h.s q g f l p F).1 (λx=>e x.symm) d;have:=lb q f g l;omega;simp only[iN e2];exact(h.s q g f l r y).1 S
end
def QM (ns:Av)(p:Int):Prop:=(D ns=0/\p=0)\/(40<D ns/\p=40)\/(0<D ns/\(D ns)<=40/\∃k:Nat,k<D ns/\(∀j,j<k->xM ns j)/\¬xM ns k/\p=k)
def FC (w:E)(a:Nat->Addr)(ns:Av)(x:Ending)(B:E):Prop:=zke w B/\((∃v p,x=R (Ue #[.slice U 0 0,v])/\zJ B (r (A w)) v (z7 a 9) p/\QM ns p)\/
 ((0<D ns/\(D ns)<=40/\∀j,j<D ns->xM ns j)/\∃tb K T V,r (A w)<=tb/\x=R (Ue #[.slice (I ⟨tb,0,U⟩) (D ns) (D ns),Ui])/\DT B tb ns (D ns) (D ns) K T V))
theorem Tryz.Ru:(prog.info? 183).map (λi=>(i.zero.map (·.cells),i.size,i.bytes))=I (I #[M J 0,.slice U 0 0,.slice U 0 0,.slice U 0 0],4,80):=om
theorem zhK (ns:List Nd)(nv:Y)(w:E)(a:Nat->Addr)(hS:Start w a)(hN:Zf w nv ns)(bb:∀a n c,nv=.slice a n c->n<=c)(hl:ns.length<4611686018427387904):Uh prog 37 #[nv] w (FC w a ns):=by
 obtain⟨i0,bC,bJ,bK,bL⟩:=info_parts Tryz.N4;have HN:=zd hN;have HS:=zd hS;have bw:=zd bb;obtain⟨na,nc,rfl,_⟩:=hN;have HE:H (∀V v p,zke w V->zJ V (dg (A w)) v (z7 a 9) p->QM ns p->FC w a ns (R (Ue #[.slice U 0 0,v])) V):=λV v p X h2 h3=>⟨X,.inl ⟨v,p,rfl,h2,h3⟩⟩
 have s9:=hS.rows.s9;have b5:=s9;unfold z7 at s9;clear hS bb;go_enter func37,ntmps37;by_cases h0:ns.length=0
 .have d0:((ns.length:Int) == 0)=G:=by simp[h0]
  have t:H (QM ns 0):=.inl ⟨h0,rfl⟩;clear h0;go_wp2_with(go_at_call 55;refine(jt _ _ _ _).mono ?_;rintro e w1 ⟨v,rfl,hv,y⟩);go_ret2;exact zb HE _ _ _ y hv t
 .have d0:((ns.length:Int) == 0)=Z:=beq_eq_false_iff_ne.2 oa;by_cases X:40<ns.length
  .have d1:(40:Int)<(ns.length:Int):=oa;have t:H (QM ns 40):=O (.inl ⟨X,rfl⟩);clear h0 X;go_wp2_with(go_at_call 55;refine(jt _ _ _ _).mono ?_;rintro e w1 ⟨v,rfl,hv,y⟩);go_ret2;exact zb HE _ _ _ y hv t
  .have d1:¬(40:Int)<(ns.length:Int):=oa;have hp:0<ns.length:=oa;have aB:ns.length<=40:=oa;have bF:=Qc 104 183 _ 4 80 underlying104 Tryz.Ru ns.length oa oa;clear h0 X;go_upto_region 7 with fail;have hW:zke w (dB w (Ub (madeCells #[M J 0,.slice U 0 0,.slice U 0 0,.slice U 0 0] (ns.length*4)) 183)):=Ag;have a3:H (∃K T V,DT _ (dg (A w)) ns 0 0 K T V):=⟨_,_,_,DT.made w ns⟩
   have HW:=zd hW;clear hW bF;generalize dB w (Ub (madeCells #[M J 0,.slice U 0 0,.slice U 0 0,.slice U 0 0] (ns.length*4)) 183)=W at *;obtain⟨m,no,rfl⟩:=HN.Rl hp;go_loopw[22] (λx wr=>∃i:Nat,x=M J i/\i<=ns.length/\H (zke w wr)/\H (∃K T V,DT wr (dg (A w)) ns i i K T V)/\H (∀j,j<i->xM ns j)) (λx _=>ns.length-(intOf x).toNat)
   case atStart=>exact⟨0,rfl,oa,HW,a3,λj hj=>absurd hj (Bs _)⟩
   case round=>
    clear HW a3;obtain⟨i,rfl,hi,s,HD,L⟩:=hrel;by_cases ac:i<ns.length
    .have hn:=AE ac;generalize ns[i]=n at *;have HC:H (∀V,zke w V->dx V ⟨m,no+i*4,U⟩=I (M J n.kind)/\dx V ⟨m,no+i*4+1,U⟩=I (M J n.parent)/\dx V ⟨m,no+i*4+2,U⟩=I (Uc n.key)/\dx V ⟨m,no+i*4+3,U⟩=I (Uc n.text)):=λV kk=>by
      have c:=(HN.keep kk).all.2 i n hn;exact⟨c 0 _ rfl,c 1 _ rfl,c 2 _ rfl,c 3 _ rfl⟩
     obtain⟨c0,c1,c2,c3⟩:=zb HC wr s;obtain⟨K,T,V,l⟩:=zb HD;obtain⟨z,z0,-⟩:=l.c0 i ac;obtain⟨c,hc⟩:∃c:Bool,c=G↔B6 ns i:=by
      by_cases q:B6 ns i
      .exact⟨G,λ_=>q,λ_=>rfl⟩
      .simp_all
     have aw:H (∀V,zke wr V->Uh prog 75 #[.slice (I ⟨m,no,U⟩) ns.length nc,M J (i:Nat)] V λx B=>x=R (C c)/\zke V B):=λV k=>(EU ns _ i V (HN.keep (s.trans k)) ac aB bw).mono (by
      rintro e B ⟨b,rfl,hb,y⟩;exact⟨by rw[FE.2 (hb.trans hc.symm)],y⟩)
     obtain⟨d,hd⟩:∃d,d=(AV n.key && AV n.text):=⟨_,rfl⟩
     have ay:H (∀V,zke wr V->Uh prog 76 #[Ua (I ⟨dg (A w),i*4,U⟩),Uf #[M J n.kind,M J n.parent,Uc n.key,Uc n.text]] V λx B=>x=R (C d)/\∃kv tv w1,B=((w1.setCell ⟨dg (A w),i*4,U⟩ (M J n.kind)).setCell ⟨dg (A w),i*4+1,U⟩ kv).setCell ⟨dg (A w),i*4+2,U⟩ tv/\(AV n.key=G->AV n.text=G->yX w1 (dg (A V)) kv n.key/\yX w1 (dg (A V)) tv n.text)/\zke V w1):=λV k=>by
      have hs:=(HS.keep (s.trans k))
      refine(zhJ (dg (A w)) (i*4) n.kind n.parent n.key n.text z _ _ V a hs.sents hs.size (zf k _ _ z0 id) (zf k _ _ (l.c1 i ac) id) (zf k _ _ (l.c2 i ac) id) (λq=>zp k _ l.lt (l.fz q) id)).mono ?_;rintro x B ⟨kv,tv,w1,rfl,h⟩;exact⟨by rw[hd],kv,tv,w1,h⟩
     have ah:=zd (Eb hn);have au:=zd l;have Hc:=zd hc;have Hd:=zd hd;have Hn:=zd hn;have b1:=l.lt;clear l z0 hc hd hn HD;have ax:H (∀V B,zke wr V->(∃kv tv w1,B=((w1.setCell ⟨dg (A w),i*4,U⟩ (M J n.kind)).setCell ⟨dg (A w),i*4+1,U⟩ kv).setCell ⟨dg (A w),i*4+2,U⟩ tv/\(AV n.key=G->AV n.text=G->yX w1 (dg (A V)) kv n.key/\yX w1 (dg (A V)) tv n.text)/\zke V w1)->zke w B/\∃kv tv w1,B=((w1.setCell ⟨dg (A w),i*4,U⟩ (M J n.kind)).setCell ⟨dg (A w),i*4+1,U⟩ kv).setCell ⟨dg (A w),i*4+2,U⟩ tv/\(AV n.key=G->AV n.text=G->yX w1 (dg (A wr)) kv n.key/\yX w1 (dg (A wr)) tv n.text)/\zke wr w1):=λV B k ⟨kv,tv,w1,X,h2,h3⟩=>⟨(s.trans (k.trans h3)).later (X ▸ (((zg.refl (zr (dg (A w))) _).NS _ _).NS _ _).NS _ _) (λi hi=>by unfold zr at hi;omega),kv,tv,w1,X,λq1 q2=>⟨(h2 q1 q2).1.base k.size,(h2 q1 q2).2.base k.size⟩,k.trans h3⟩
     cases c
     ·have t:H (QM ns i):=O (O ⟨hp,aB,i,ac,L,fun q=>dL (Hc.2 (ah.1 q).1),rfl⟩);clear ah au Hc Hd Hn ay ax L;go_upto_region 9 with fail;refine wp_region_held_drew (S:=fun _=>True) (by kernel_rfl) trivial (fun _=>?_);refine wpAnyH_take (i:=0) rfl (by kernel_rfl) (by kernel_rfl) (by kernel_rfl) (fun _ _ _ h=>h) (Or.inl ⟨rfl,fun _ _=>rfl⟩) trivial ?_;refine wpAnyH_take (i:=1) rfl (by kernel_rfl) (by kernel_rfl) (by kernel_rfl) (fun _ _ _ h=>h) (Or.inl ⟨rfl,fun _ _=>rfl⟩) trivial ?_;refine wpAnyH_all (rs:=[2]) (by kernel_rfl) (by simp) (fun q hq=>?_);obtain rfl:q=2:=(by simpa using hq);refine wpOp_step (o := { dst := I 27, op := .call { callee := .value (.func 75), args := #[.tmp 25, .tmp 26], argTypes := #[36, 3] }, type := 4, pos := "document.go:33", after := #[{ on := 0, ground := .data }, { on := 1, ground := .data }], guard := U }) rfl (fun KK a8 => ?_);rw [if_pos (by rfl)];simp only [Act.put,ziD,ziW,ziP,ziM,ziL,ziK];have bs:=zd a8;clear a8;go_wp2_with (first |(go_at_call 75;refine (zb aw _ (by first |exact zg.refl _ _ |exact (zg.refl _ _).drew |exact Ah)).mono ?_;rintro e w1 ⟨rfl,aa⟩;have r:H (zke wr w1):=zg.trans (by first |exact zg.refl _ _ |exact (zg.refl _ _).drew |exact Ah) aa;have ai:=zd (zb HC w1 (s.trans r));clear aa));refine zb bs _ _ ⟨trivial,?_⟩;refine wpAnyH_take (i:=3) (v:=C G) rfl (by kernel_rfl) (by kernel_rfl) (by kernel_rfl) (fun _ _ _ h=>h) (Or.inl ⟨rfl,fun _ _=>rfl⟩) trivial ?_;simp only [Act.put,ziD,ziW,ziP,ziM,ziL,ziK];refine wpAnyH_take (i:=4) (v:=C G) rfl (by kernel_rfl) (by kernel_rfl) (by kernel_rfl) (fun _ _ _ h=>h) (Or.inl ⟨rfl,fun _ _=>rfl⟩) trivial ?_;simp only [Act.put,ziD,ziW,ziP,ziM,ziL,ziK];refine wpAnyH_take (i:=5) (v:=undef) rfl (by kernel_rfl) (by kernel_rfl) (by kernel_rfl) (fun _ _ _ h=>h) (Or.inr ⟨by rfl,rfl⟩) trivial ?_;simp only [Act.put,ziD,ziW,ziP,ziM,ziL,ziK];refine wpAnyH_take (i:=6) (v:=undef) rfl (by kernel_rfl) (by kernel_rfl) (by kernel_rfl) (fun _ _ _ h=>h) (Or.inr ⟨by rfl,rfl⟩) trivial ?_;simp only [Act.put,ziD,ziW,ziP,ziM,ziL,ziK];refine wpAnyH_take (i:=7) (v:=undef) rfl (by kernel_rfl) (by kernel_rfl) (by kernel_rfl) (fun _ _ _ h=>h) (Or.inr ⟨by rfl,rfl⟩) trivial ?_;simp only [Act.put,ziD,ziW,ziP,ziM,ziL,ziK];refine wpAnyH_take (i:=8) (v:=undef) rfl (by kernel_rfl) (by kernel_rfl) (by kernel_rfl) (fun _ _ _ h=>h) (Or.inr ⟨by rfl,rfl⟩) trivial ?_;simp only [Act.put,ziD,ziW,ziP,ziM,ziL,ziK];refine wpAnyH_take (i:=9) (v:=undef) rfl (by kernel_rfl) (by kernel_rfl) (by kernel_rfl) (fun _ _ _ h=>h) (Or.inr ⟨by rfl,rfl⟩) trivial ?_;simp only [Act.put,ziD,ziW,ziP,ziM,ziL,ziK];refine wpAnyH_take (i:=10) (v:=undef) rfl (by kernel_rfl) (by kernel_rfl) (by kernel_rfl) (fun _ _ _ h=>h) (Or.inr ⟨by rfl,rfl⟩) trivial ?_;simp only [Act.put,ziD,ziW,ziP,ziM,ziL,ziK];refine wpAnyH_take (i:=11) (v:=undef) rfl (by kernel_rfl) (by kernel_rfl) (by kernel_rfl) (fun _ _ _ h=>h) (Or.inr ⟨by rfl,rfl⟩) trivial ?_;simp only [Act.put,ziD,ziW,ziP,ziM,ziL,ziK];refine wpAnyH_take (i:=12) (v:=undef) rfl (by kernel_rfl) (by kernel_rfl) (by kernel_rfl) (fun _ _ _ h=>h) (Or.inr ⟨by rfl,rfl⟩) trivial ?_;simp only [Act.put,ziD,ziW,ziP,ziM,ziL,ziK];refine wpAnyH_take (i:=13) (v:=undef) rfl (by kernel_rfl) (by kernel_rfl) (by kernel_rfl) (fun _ _ _ h=>h) (Or.inr ⟨by rfl,rfl⟩) trivial ?_;simp only [Act.put,ziD,ziW,ziP,ziM,ziL,ziK];refine wpAnyH_take (i:=14) (v:=C G) rfl (by kernel_rfl) (by kernel_rfl) (by kernel_rfl) (fun _ _ _ h=>h) (Or.inl ⟨rfl,fun _ _=>rfl⟩) trivial ?_;simp only [Act.put,ziD,ziW,ziP,ziM,ziL,ziK];refine wpAnyH_done (by kernel_rfl) ?_ _;have t9:=zf (s.trans r) _ _ s9 (fun f=>f);go_wp2_with (go_at_call 55;refine (jt _ _ _ _).mono ?_;rintro e F ⟨v,rfl,hv,y⟩);go_ret2;exact zb HE _ _ _ ((s.trans r).trans y) (hv.base (s.trans r).size) t
     .cases d
      .have t:H (QM ns i):=O (O ⟨hp,aB,i,ac,L,λq=>(by have:=ah.1 q;have e:=zb Hd;rw[this.2.1,this.2.2] at e;cases e),rfl⟩);clear ah au Hc Hd Hn L;go_upto_region 9 with fail;go_region_held3(λB=>dx B ⟨m,no+i*4,U⟩=I (M J n.kind)/\dx B ⟨m,no+i*4+1,U⟩=I (M J n.parent)/\dx B ⟨m,no+i*4+2,U⟩=I (Uc n.key)/\dx B ⟨m,no+i*4+3,U⟩=I (Uc n.text)) (first|go_keep|exact ai|exact aq) (first|(go_at_call 75;refine(zb aw _ Ab).mono ?_;rintro e w1 ⟨rfl,aa⟩;have r:H (zke wr w1):=zg.trans Ab aa;have ai:=zd (zb HC w1 (s.trans r));clear aa)|(go_at_call 76;refine(zb ay _ (zg.trans r Ab)).mono ?_;rintro e w3 ⟨rfl,am⟩;have P:=zd (zb ax _ _ (zg.trans r Ab) am);have aq:=zd (zb HC w3 P.1);clear am));have t9:=zf P.1 _ _ s9 id;go_wp2_with(go_at_call 55;refine(jt _ _ _ _).mono ?_;rintro e w4 ⟨v,rfl,hv,y⟩);go_ret2;exact zb HE _ _ _ (P.1.trans y) (hv.base P.1.size) t
      .have aQ:xM ns i:=ah.2 ⟨Hc.1 rfl,Bool.and_eq_true_iff.1 Hd.symm⟩;have a4:H (∀j,j<i+1->xM ns j):=λj hj=>by
        by_cases e:j=i
        .subst e;exact aQ
        .exact zb L j oa
       have aj:H (AV n.key=G/\AV n.text=G):=Bool.and_eq_true_iff.1 Hd.symm;have bt:=zd aQ;clear ah Hc Hd L aQ;go_upto_region 9 with fail;go_region_held3(λB=>dx B ⟨m,no+i*4,U⟩=I (M J n.kind)/\dx B ⟨m,no+i*4+1,U⟩=I (M J n.parent)/\dx B ⟨m,no+i*4+2,U⟩=I (Uc n.key)/\dx B ⟨m,no+i*4+3,U⟩=I (Uc n.text)) (first|go_keep|exact ai|exact aq) (first|(go_at_call 75;refine(zb aw _ Ab).mono ?_;rintro e w1 ⟨rfl,aa⟩;have r:H (zke wr w1):=zg.trans Ab aa;have ai:=zd (zb HC w1 (s.trans r));clear aa)|(go_at_call 76;refine(zb ay _ (zg.trans r Ab)).mono ?_;rintro e w3 ⟨rfl,am⟩;have P:=zd (zb ax _ _ (zg.trans r Ab) am);have aq:=zd (zb HC w3 P.1);clear am));have bB:=zb P;obtain⟨aR,kv,tv,b6,e1,e2,e3⟩:=bB;have u:=au.read Hn e3 (e2 aj.1 aj.2).1 (e2 aj.1 aj.2).2 e1;generalize (λq=>if q=i then kv else K q)=K' at u;generalize (λq=>if q=i then tv else T q)=T' at u;have aN:=zd aR;have aP:=zb HC w3 aR;clear e1 e2 e3 aj au P aq aR ay ax aw ai;by_cases aW:i=0
       .have di:¬(0:Int)<(i:Int):=oa;have bp:H (∃K T V,DT w3 (dg (A w)) ns (i+1) (i+1) K T V):=⟨_,_,_,u.root aW⟩
        clear u aW aP;go_wp2_with fail;exact⟨⟨i+1,Ae,oa,aN,bp,a4⟩,Ad⟩
       .have di:(0:Int)<(i:Int):=oa;obtain⟨n',bG,_,aZ⟩:=zb bt;cases(zb Hn).symm.trans bG;unfold Nd.there at aZ;rw[iN aW] at aZ;obtain⟨bH,bI,-⟩:=aZ;obtain⟨p,aY⟩:∃p:Nat,n.parent=(p:Int):=⟨n.parent.toNat,oa⟩
        have ap:p<ns.length:=oa;have x1:=aP.2.1;rw[aY] at x1;obtain⟨la,lc,hV,-⟩:=qh (u.v p ap);have x3:=u.c3 p ap;rw[hV] at x3;have xf:=u.fz (p*4+3);have be:kY ns p i=G:=(by unfold kY;rw[zb Hn];simp[aY];omega);have bD:∀q,q≠p->kY ns q i=Z:=λq hq=>(by unfold kY;rw[zb Hn];simp[aY];omega);have bZ:=QL ns p i;have l:=zd u;clear aP u bH bI;go_wp2_with(at_builtin;refine zb ?_);refine zd ?_;have b2:=aN.size;have bE:=l.lt;refine yz _ rfl _ _ 29 rfl (dg (A w)+1) 3 i0 (M J 0) 1 8 underlying29 bC bJ bK bL rfl od (.slice la (xx ns p i).length lc) _ (yq (xx ns p i)) rfl (AZ (hV ▸ l.v p ap) _) _ 1 1 [M J (i:Nat)] rfl rfl (cell_one_new _ _ _) (λx hx=>by simp at hx;subst hx;rfl) Ac oa ou ?_;intro N F aX bc bi;obtain⟨va,vn,vc,rfl⟩:=zq aX;have ao:zg (λg=>(V p).ownBlock=I g) w3 F:=Ag.grown bc (λj hj=>.inl (by rw[hV];exact hj));have bg:F.ownsRow (dg (A w)+1) 3 1 (.slice va vn vc) (xx ns p (i+1)).length (yq (xx ns p (i+1))):=by
         rw[xx,be];simpa [yq] using aX
        have bj:∀g,(Value.slice va vn vc).ownBlock=I g->(V p).ownBlock=I g\/dg (A w3)<=g:=λg hg=>(bi g hg).imp (λe=>by rw[hV];exact e) (λe=>by simp at e;omega);have br:H (∃K T V,DT (F.setCell ⟨dg (A w),p*4+3,U⟩ (.slice va vn vc)) (dg (A w)) ns (i+1) (i+1) K T V):=⟨_,_,_,l.app ap be bD ao bg bj⟩
        have hb:=λg hg=>(zh (l.v p ap) g hg).1;have nt:¬(V p).ownBlock=I (dg (A w)):=λe=>(by have:=hb _ e;omega);have y3:=zf ao _ _ x3 nt;have yf:=zp ao ⟨dg (A w),p*4+3,U⟩ bE xf nt;have bu:H (zke w (F.setCell ⟨dg (A w),p*4+3,U⟩ (.slice va vn vc))):=(aN.N2 ao (λg hg=>by have:=hb g hg;omega)).N2 ((zg.refl (λg=>g=dg (A w)) _).setCell (.inl rfl) _) (λi hi=>oa);clear aX bc bi ao bg bj hb nt l x3 xf;go_wp2_with fail;exact⟨⟨i+1,Ae,oa,bu,br,a4⟩,Ad⟩
    .obtain rfl:i=ns.length:=oa;have t:H (FC w a ns (R (Ue #[.slice (I ⟨dg (A w),0,U⟩) ns.length ns.length,Ui])) wr):=by
      obtain⟨K,T,V,h⟩:=zb HD;exact⟨s,O ⟨⟨hp,aB,L⟩,_,K,T,V,AD _,rfl,h⟩⟩
     clear HD L;go_wp2_with fail;go_ret2;exact t
def Sc.O8 (s:Sc)(k m:Nat):Prop:=(0<=s.fmt/\s.fmt<=6/\(D s.keys)=D s.subs/\(D s.keys)<=6)/\(∀(i:Nat) x,s.subs[i]?=I x->(k:Int)<x/\x<m)/\(s.more = -2\/s.more = -1\/((k:Int)<s.more/\s.more<m))
theorem GQ (a b:Nat)(n c o:Int)(w:E)(f:dx w ⟨a,0,U⟩=I (M J n))(g:dx w ⟨b,0,U⟩=I (M J c)):Uh prog 129 #[M J o,Ua (I ⟨a,0,U⟩),Ua (I ⟨b,0,U⟩)] w λx B=>x=R (C (decide (n<o) && decide (o<c)))/\B=w:=by
 by_cases d:n<o<;>by_cases e:o<c
 all_goals
  go_enter func129,ntmps129;go_wp2;go_ret;exact⟨by simp;try omega,rfl⟩
theorem zgd (s:Sc)(k m gb o:Nat)(ka:Ap)(kc:Nat)(sa:Ap)(sc:Nat)(w:E)(hL:Uz w s ka kc sa sc)(v:∀(j:Nat) u,(s.cells ka kc sa sc)[j]?=I u->dx w ⟨gb,o+j,U⟩=I u)(_ax:k<9/\m<9):Uh prog 77 #[Ua (I ⟨gb,o,U⟩),M J (k:Nat),M J (m:Nat)] w (CM w (s.O8 k m)):=by
 have p:zke w ((dB w (Ub #[M J (k:Nat)] 3)).alloc (Ub #[M J (m:Nat)] 3)):=Ag.alloc _;have c2:=zf p _ _ (v 2 _ rfl) id;have c3:=zf p _ _ (v 3 _ rfl) id;have c4:=zf p _ _ (v 4 _ rfl) id;have c5:=zf p _ _ (v 5 _ rfl) id;have n1:((dB w (Ub #[M J (k:Nat)] 3)).alloc (Ub #[M J (m:Nat)] 3)).cell? ⟨dg (A w),0,U⟩=I (M J (k:Nat)):=zf ((zg.refl (λ_=>False) _).alloc _) _ _ (zj w _ rfl _ _ 0 _ rfl) id;have n2:((dB w (Ub #[M J (k:Nat)] 3)).alloc (Ub #[M J (m:Nat)] 3)).cell? ⟨dg (A w)+1,0,U⟩=I (M J (m:Nat)):=zj (dB w _) _ ov _ _ 0 _ rfl;have HL:=zd (hL.keep p);have l:=zd p;clear hL v p;go_enter func77,ntmps77;go_upto_region 1 with fail;generalize (dB w (Ub #[M J (k:Nat)] 3)).alloc (Ub #[M J (m:Nat)] 3)=W at *;by_cases N:0<=s.fmt/\s.fmt<=6
 .have⟨af,ag⟩:=N;by_cases B:D s.keys<=6
  .have d6:¬(6:Int)<(D s.keys:Int):=oa;by_cases F:D s.keys=D s.subs
   .have de:((D s.subs:Int) != (D s.keys:Int))=Z:=ou;have P:H (∀b:Bool,(b=G↔(∀(i:Nat) x,s.subs[i]?=I x->(k:Int)<x/\x<m)/\(s.more = -2\/s.more = -1\/((k:Int)<s.more/\s.more<m)))->(b=G↔s.O8 k m)):=λb h=>h.trans ⟨λq=>⟨⟨af,ag,F,B⟩,q⟩,And.right⟩;have aC:D s.subs<=6:=oa;clear F B;go_wp2;go_quiet(fail);go_upto_region 7 with fail;have T:H (zke W (W.drewN nq)):=Ah;clear c2 c3 c4 d6 de af ag;go_loopw[47] (λx wr=>∃i:Nat,x=M J i/\i<=D s.subs/\H (zke W wr)/\H (∀(j:Nat) x,j<i->s.subs[j]?=I x->(k:Int)<x/\x<m)) (λx _=>D s.subs-(intOf x).toNat);exact⟨0,rfl,oa,T,λj _ h=>absurd h (Bs _)⟩;clear T;obtain⟨i,rfl,hi,g,L⟩:=hrel;have t:H (∀x:Int,_):=λx=>GQ (dg (A w)) (dg (A w)+1) k m x wr (zf g _ _ n1 id) (zf g _ _ n2 id);have e5:=zf g _ _ c5 id;by_cases ah:i<D s.subs
    .obtain⟨gs,os,rfl,ae⟩:=(HL.s).get ah;have es:=zf g _ _ ae id;have hx:=AE ah;generalize s.subs[i]=x at *;have X:=zd hx;clear ae hx e5;by_cases hb:(k:Int)<x/\x<m
     ·(have z:(decide ((k:Int)<x) && decide (x<(m:Int)))=G:=(by simp[hb]);have am:H (∀(j:Nat) x,j<i+1->s.subs[j]?=I x->(k:Int)<x/\x<m):=λj y n c=>by by_cases e:j=i;subst e;cases(zb X).symm.trans c;exact hb;exact zb L j y oa c);have d:=zd (zb t x);rw[z] at d;clear hb z t;go_wp2_with(go_at_fn 129;refine zb ?_);refine zd ?_;refine d.mono ?_;rintro e w1 ⟨rfl,rfl⟩;go_wp2;exact⟨⟨i+1,Ae,oa,g,am⟩,Ad⟩
     have z:(decide ((k:Int)<x) && decide (x<(m:Int)))=Z:=(by simpa using hb);have a:H (Z=G↔s.O8 k m):=⟨λq=>dL q,λq=>absurd (q.2.1 i x X) hb⟩
     have d:=zd (zb t x);rw[z] at d;clear hb z t;go_wp2_with(go_at_fn 129;refine zb ?_);refine zd ?_;refine d.mono ?_;rintro e w1 ⟨rfl,rfl⟩;go_wp2;go_ret;exact⟨_,rfl,a,l.trans g⟩
    obtain rfl:i=D s.subs:=oa;have S:H (∀(i:Nat) x,s.subs[i]?=I x->(k:Int)<x/\x<m):=λi x h=>zb L i x (AK.1 h).1 h;have r:H (∀b:Bool,(b=G↔(s.more = -2\/s.more = -1\/((k:Int)<s.more/\s.more<m)))->(b=G↔s.O8 k m)):=λb h=>zb P b (h.trans ⟨λq=>⟨S,q⟩,And.right⟩);have d:=zd (zb t s.more);clear P S L t;by_cases c:s.more = -2
    .have b2:(s.more == -2)=G:=(by simp[c]);have a:H (s.O8 k m):=(zb r G ⟨λ_=>.inl c,λ_=>rfl⟩).1 rfl;clear c r d;go_wp2;go_ret;exact⟨_,rfl,⟨λ_=>zb a,λ_=>rfl⟩,l.trans g⟩
    have b2:(s.more == -2)=Z:=(by simp[c]);by_cases n:s.more = -1
    .have b1:(s.more == -1)=G:=(by simp[n]);have a:H (s.O8 k m):=(zb r G ⟨λ_=>O (.inl n),λ_=>rfl⟩).1 rfl;clear n c r d;go_wp2;go_ret;exact⟨_,rfl,⟨λ_=>zb a,λ_=>rfl⟩,l.trans g⟩
    have b1:(s.more == -1)=Z:=(by simp[n]);have a:=zd ((zb r (decide ((k:Int)<s.more) && decide (s.more<(m:Int))) ⟨λq=>O (O (by simpa using q)),λq=>(q.resolve_left c).resolve_left n|> λq=>by simpa using q⟩));clear n c r;go_wp2_with(go_at_fn 129;refine zb ?_);refine zd ?_;refine d.mono ?_;rintro e w1 ⟨rfl,rfl⟩;go_wp2;go_ret;exact⟨_,rfl,a,l.trans g⟩
   have de:((D s.subs:Int) != (D s.keys:Int))=G:=ou;have a:H (Z=G↔s.O8 k m):=⟨λq=>dL q,λq=>absurd q.1.2.2.1 F⟩
   clear F;go_wp2;go_quiet(fail);go_wp2;go_ret;exact⟨_,rfl,a,l.drewN _⟩
  have d6:(6:Int)<(D s.keys:Int):=oa;have a:H (Z=G↔s.O8 k m):=⟨λq=>dL q,λq=>absurd q.1.2.2.2 B⟩
  clear B;go_wp2;go_quiet(fail);go_wp2;go_ret;exact⟨_,rfl,a,l.drewN _⟩
 have a:H (Z=G↔s.O8 k m):=⟨λq=>dL q,λq=>absurd ⟨q.1.1,q.1.2.1⟩ N⟩
 have h:s.fmt<0\/(0<=s.fmt/\6<s.fmt):=oa;clear N;obtain h|⟨h,h'⟩:=h
 all_goals
  go_wp2;go_ret;exact⟨_,rfl,a,l⟩
open Sm (Stp Tree yI)
def Ux (w:E)(h:Aj)(sb:Nat)(t:Tree):Prop:=
 (∃p v k,Tk p v t k)/\∃(b a c:Aj) (f i F:Nat) (W:Am) (d:Ar) (e:Az) (j:Y),TA w a c sb f i 64 (AR F t).2 (qB (AR F t).2 (AR F t).1 W d) e j/\Env w b a f (AR F t).2 (AR F t).1 W d/\(D e)<=64/\WF F t/\BV (AR F t).2 W/\∀g,b g\/a g\/c g->h g
theorem Ux.keep {P d:Aj}{w B:E}{sb:Nat}{t:Tree}(h:Ux w d sb t)(k:zg P w B)(e:∀g,d g->¬P g)(s:¬P 11):Ux B d sb t:=by have⟨r,f,j,i,v,u,F,W,l,m,x,n,b,o,p,q,c⟩:=h;exact⟨r,f,j,i,v,u,F,W,l,m,x,n.keep k (λg a=>e g (c g (O (.inl a)))) (λg a=>e g (c g (O (O a)))),⟨b.prog.keep k (λg a=>e g (c g (.inl a))),b.tab.keep k s,b.ao,b.ot,λg a=>AM (b.alt g a) k.size⟩,o,p,q,c⟩
theorem Ux.NU {a:Aj}{w B:E}{sb:Nat}{t:Tree}(h:Ux w a sb t)(k:zke w B):Ux B a sb t:=h.keep k (λ_ _ f=>f) id
def My (w B:E)(b:Aj)(sb:Nat)(t:Tree)(s:Al)(x:Ending):Prop:=x=R (C (hitT t s))/\Ux B (λg=>(b g\/r (A w)<=g)/\g<r (A B)) sb t/\∃a:Aj,(∀g,a g->b g/\g≠11)/\zg a w B
theorem DO (sb:Nat)(t:Tree)(s:Al)(f:Aj)(tv:Y)(w:E)(h:Ux w f sb t)(S:AV s=G)(hL:qM w tv (zP s (dJ s+1) 0))(P:∀g,dH tv=I g->¬f g/\g<dg (A w)):Uh prog 47 #[Ua (I ⟨sb,0,U⟩),tv,.slice U 0 0] w λx B=>My w B f sb t s x:=by
 have⟨⟨p,v,ts,d⟩,y,z,aa,X,T,F,W,N,es,sv,h1,e,h3,n,o,c⟩:=h;have u:=xV.of s;have ar:=u.len;have au:(zu s).2<0/\dJ s<=400:=by unfold AV at S;simpa using S
 have hl:(zP s (dJ s+1) 0).length<=400:=by have e1:=vB s;omega
 refine(zaK sb X T 64 _ y z aa _ W N es sv tv (.slice U 0 0) _ [] w e h1 od od h3 hL (λg a=>⟨λq=>(P g a).1 (c g (O (.inl q))),(P g a).2⟩) hl (.inl ⟨rfl,U,0,rfl⟩) ov).mono ?_;rintro x B ⟨r,i,O',D',af,ao,rfl,hr,b⟩;refine⟨?_,⟨⟨p,v,ts,d⟩,y,O',D',X,T,F,W,N,af,ao,b.sto,b.env,b.len,n,o,λg a=>?_⟩,z,λg a=>⟨c g (O (.inl a)),e.ot g a⟩,b.only⟩
 .have⟨k,q,hA⟩:=zdF t s;have ai:hitT t s=G↔∃i j,i<=(zu s).1.length/\j<=(zu s).1.length/\Bf (zu s).1 67 t.kids i j:=by obtain⟨l,_⟩|⟨_,l,_⟩|⟨_,_,_,_,l⟩:=hA;omega;omega;exact l
  rw[FE.2 (hr.trans ((BX e.prog.at'.stl e.prog.at'.fit).trans (Iff.trans ⟨λ⟨i,j,L,b2,m⟩=>⟨i,j,oa,oa,(Xt d.tok d.k5 n _ _ _).1 ((Xv u o L).1 m)⟩,λ⟨i,j,L,b2,m⟩=>⟨i,j,oa,oa,(Xv u o oa).2 ((Xt d.tok d.k5 n _ _ _).2 m)⟩⟩ ai.symm)))]
 obtain a|a|a:=a;exact⟨.inl (c g (.inl a)),b.env.alt g a⟩;exact⟨(b.oo g a).imp_left (λq=>c g (O (.inl q))),b.sto.olt g a⟩;exact⟨(b.dd g a).imp_left (λq=>c g (O (O q))),b.sto.dlt g a⟩
theorem XD (v:Int)(t:Tree)(i:As)(w:E)(a:Nat->Addr)(c:Start w a)(X:Tx w)(d:Tk p v t i):Uh prog 131 #[Uc p] w λx B=>∃sb,x=R (Ue #[Ua (I ⟨sb,0,U⟩),Ui])/\Ux B (λg=>dg (A w)<=g/\g<dg (A B)) sb t/\zke w B:=by
 have HP:=zd (d.pat w a c);have j:=zd d.ok;have s:=zd X;have hv:=d.v1;have HI:H (∃p v i,Tk p v t i):=⟨p,v,i,d⟩
 go_enter func131,ntmps131;go_wp2_with(first|(go_at_call 29;refine HP.mono ?_;rintro e w1 ⟨⟨T,y,F,rfl,n,ab⟩,l⟩;have HQ:H (YO F w1 (dg (A w1)) (Ud T y) t):=⟨zC.mono (λg b _=>b) F _ _ n,(zb j F).1,(zb j F).2.1⟩;have HW:=zd n.wf;have ak:=zd ab)|(go_at_call 33;refine(Mc F _ (Ud T y) _ HQ ⟨_,_,rfl⟩ (by have:=zb ak;omega)).mono ?_;rintro e r ⟨o,W,k,rfl,P,hW,u,z,L,N,m⟩;have ag:=zd (⟨P.bound,u.Rk,z,L,N⟩:TX r _ o _ _ W k);have HA:=zd (zf7 (zb j F).2.2 hW))|(go_at_call 51;refine(zdz o 64 (AR F t).2 (qB (AR F t).2 (AR F t).1 W k) r).mono ?_;rintro e w5 ⟨sb,mb,rfl,hs,hm,S,h⟩;have ai:=zd S));go_ret2;have ao:=l.size;have ap:=m.size;have aq:=h.size;have ar:=s.lt;have hX:=zb ag;have c:=zb ai;have o1:=c.olt sb c.osb;have o2:=c.olt mb c.omb;refine⟨sb,rfl,⟨HI,λg=>dg (A w1)<=g/\g<dg (A r),_,_,o,mb,F,W,k,[],_,c,⟨(hX.keep h (λ_ _ f=>f)),(s.keep ((l.trans m).trans h) id),λg b q=>(by obtain q|q:=q<;>omega),λg b=>(by obtain q|q:=b<;>omega),λg b=>oa⟩,ov,HW,HA,λg b=>?_⟩,(l.trans m).trans h⟩;obtain b|b|b:=b
 exact⟨oa,oa⟩;omega;exact b.elim
theorem Wt (b:Start w a)(h:Bd p):Uh prog 131 #[Uc p] w λx B=>∃T y,x=R (Ue #[Ua U,Ud T y])/\zke w B:=by have⟨k,q,_,_,_,hb,_⟩:=h;have c:=zd (hb w a b);go_enter func131,ntmps131;go_wp2_with(go_at_call 29;refine c.mono ?_;rintro e w1 ⟨v,rfl,f,d⟩;obtain⟨g,rfl⟩:=f.form);go_ret2;exact⟨_,_,rfl,d⟩
open Sm (Tree)
theorem Ux.mono {a b:Aj}{w:E}{sb:Nat}{t:Tree}(h:Ux w a sb t)(r:∀g,a g->b g):Ux w b sb t:=by have⟨p,c,e,d,u,s,F,W,f,i,v,j,k,l,m,n,o⟩:=h;exact⟨p,c,e,d,u,s,F,W,f,i,v,j,k,l,m,n,λg q=>r g (o g q)⟩
structure TU (w:E)(ow:Ak)(L:List (Nat×Tree)):Prop where
 r:∀(i:Nat) sb t,L[i]?=I (sb,t)->Ux w (λg=>ow g=i+1/\g<dg (A w)) sb t
 z:ow 11=0
 n:∀g,dg (A w)<=g->ow g=0
section
variable {w B:World} {ow:Ak} {L:List (Nat×Tree)}
theorem TU.keep {P:Aj}(h:TU w ow L)(k:zg P w B)(b:∀g,P g->ow g=0/\g≠11):TU B ow L:=
 ⟨λi sb t e=>((h.r i sb t e).keep k (λg a q=>by have:=(b g q).1;omega) (λq=>(b _ q).2 rfl)).mono (λg a=>⟨a.1,AM a.2 k.size⟩),h.z,λg a=>h.n g (AP k.size a)⟩
def B0 (ow:Ak)(n a i g:Nat):Nat:=if g<n then ow g else if g<a then i+1 else 0
theorem TU.more {sb:Nat}{t:Tree}(h:TU w ow L)(k:zke w B)(d:Ux B (λg=>w.heap.size<=g/\g<B.heap.size) sb t)(f:11<w.heap.size):TU B (B0 ow w.heap.size B.heap.size (D L)) (L++[(sb,t)]):=by
 have m:=k.size;refine⟨λi j l e=>?_,by unfold B0;rw[IN f];exact h.z,λg a=>by unfold B0;rw[iN oa,iN oa]⟩;unfold B0;by_cases b:i<D L;rw[BG b] at e;exact((h.r i j l e).NU k).mono (λg a=>⟨by rw[IN a.2];exact a.1,AM a.2 k.size⟩);have c:=(AK.1 e).1;simp at c;obtain rfl:i=D L:=by omega
 rw[B9 (AD _),CU] at e;cases e;exact d.mono (λg a=>⟨by rw[iN oa,IN a.2],a.2⟩)
theorem zdK (i sb:Nat)(t:Tree)(s:Al)(tv:Y)(w:E)(h:TU w ow L)(b:L[i]?=I (sb,t))(p:AV s=G)(n:qM w tv (zP s (dJ s+1) 0))(d:∀g,dH tv=I g->ow g=0/\g<dg (A w)):Uh prog 47 #[Ua (I ⟨sb,0,U⟩),tv,.slice U 0 0] w λx B=>x=R (C (hitT t s))/\TU B (B0 ow (dg (A w)) (dg (A B)) i) L/\zg (λg=>ow g=i+1) w B:=by
 refine(DO sb t s _ tv w (h.r i sb t b) p n (λg a=>⟨λq=>by have:=(d g a).1;omega,(d g a).2⟩)).mono ?_;rintro x B ⟨rfl,o,c,f,k⟩;have l:∀g,c g->ow g=i+1:=λg a=>(f g a).1.1;have v:11<dg (A w):=by have⟨_,y,c,z,pb,X,F,W,N,P,sv,T,m,_⟩:=h.r i sb t b;exact m.tab.lt
 refine⟨rfl,⟨λj r u e=>?_,by unfold B0;rw[IN v];exact h.z,λg a=>by unfold B0;have:=k.size;rw[iN oa,iN oa]⟩,k.mono (λg _ a=>l g a)⟩;by_cases S:j=i;subst S;cases b.symm.trans e;refine o.mono (λg a=>⟨?_,a.2⟩);unfold B0;split;omega;rw[IN a.2];refine((h.r j r u e).keep k (λg a q=>by have:=l g q;omega) (λq=>(f _ q).2 rfl)).mono (λg a=>⟨?_,AM a.2 k.size⟩);unfold B0;rw[IN a.2];exact a.1
end
def UN (w:E)(ow:Ak)(L:List (Nat×Tree))(B:E):Prop:=∃ow',TU B ow' L/\(∀g,g<r (A w)->ow' g=ow g)/\zg (λg=>ow g≠0) w B
structure TI (w:E)(ow:Ak)(L:List (Nat×Tree))(s:Sc)(q:Nat):Prop where
 o:ow q=0
 p:(s.hp=Z/\d w ⟨q,0,U⟩=I (Ua U))\/(s.hp=G/\∃(i sb:Nat) (t:Tree),L[i]?=I (sb,t)/\jm s.pat=I t/\d w ⟨q,0,U⟩=I (Ua (I ⟨sb,0,U⟩)))
 f:(s.fmt=0/\d w ⟨q,1,U⟩=I (Ua U))\/(s.fmt≠0/\∃(i sb:Nat) (t:Tree),L[i]?=I (sb,t)/\jm (ZL s.fmt)=I t/\d w ⟨q,1,U⟩=I (Ua (I ⟨sb,0,U⟩)))
 u:∃a c,d w ⟨q,3,U⟩=I (.slice a (D s.subs) c)/\∀(j:Nat) x,s.subs[j]?=I x->∃g,a=I ⟨g,0,U⟩/\(ow g=0/\g<q)/\d w ⟨g,j,U⟩=I (M J x)
 m:d w ⟨q,4,U⟩=I (M J s.more)
structure PS (w:E)(ow:Ak)(L:List (Nat×Tree))(s:Sc)(q:Nat):Prop extends TI w ow L s q where
 k:∃a c,d w ⟨q,2,U⟩=I (.slice a (D s.keys) c)/\∀(j:Nat) key,s.keys[j]?=I key->∃(g i sb:Nat) (t:Tree),a=I ⟨g,0,U⟩/\(ow g=0/\g≠q)/\d w ⟨g,j,U⟩=I (Ua (I ⟨sb,0,U⟩))/\L[i]?=I (sb,t)/\jm key=I t
section
variable {w B u:World} {ow ow':Ak} {L:List (Nat×Tree)} {s:Sc} {q:Nat}
theorem UN.refl (h:TU w ow L):UN w ow L w:=⟨ow,h,λ_ _=>rfl,zg.refl _ _⟩
theorem TI.cell {P:Aj}(k:zg P w B)(c:∀g,P g->ow g≠0)(b:∀g,g<r (A w)->ow g=0->ow' g=0){g j:Nat}{v:Y}(a:d w ⟨g,j,U⟩=I v)(e:ow g=0):d B ⟨g,j,U⟩=I v/\ow' g=0:=⟨zf k _ _ a (λf=>c _ f e),b _ (zic w _ a) e⟩
theorem TI.NV (h:TI w ow L s q)(c:∀{g j v},dx w ⟨g,j,U⟩=I v->ow g=0->g<=q->dx B ⟨g,j,U⟩=I v/\ow' g=0):TI B ow' L s q:=by have d:∀{j v},dx w ⟨q,j,U⟩=I v->dx B ⟨q,j,U⟩=I v:=λe=>(c e h.o (AD _)).1;refine⟨(c h.m h.o (AD _)).2,h.p.imp (λ⟨a,b⟩=>⟨a,d b⟩) (λ⟨a,i,sb,t,f,k,l⟩=>⟨a,i,sb,t,f,k,d l⟩),h.f.imp (λ⟨a,b⟩=>⟨a,d b⟩) (λ⟨a,i,sb,t,f,k,l⟩=>⟨a,i,sb,t,f,k,d l⟩),?_,d h.m⟩;have⟨a,n,r,u⟩:=h.u;refine⟨a,n,d r,λj x y=>?_⟩;have⟨g,o,m,p⟩:=u j x y;have:=c p m.1 (Nat.le_of_lt m.2);exact⟨g,o,⟨this.2,m.2⟩,this.1⟩
theorem TI.keep {P:Aj}(h:TI w ow L s q)(k:zg P w B)(c:∀g,P g->ow g≠0)(b:∀g,g<r (A w)->ow g=0->ow' g=0):TI B ow' L s q:=h.NV (λa e _=>TI.cell k c b a e)
theorem PS.keep {P:Aj}(h:PS w ow L s q)(k:zg P w B)(f:∀g,P g->ow g≠0)(e:∀g,g<dg (A w)->ow g=0->ow' g=0):PS B ow' L s q:=by have c:∀{g j v},dx w ⟨g,j,U⟩=I v->ow g=0->dx B ⟨g,j,U⟩=I v/\ow' g=0:=TI.cell k f e;refine⟨h.toTI.keep k f e,?_⟩;have⟨a,l,p,r⟩:=h.k;refine⟨a,l,(c p h.o).1,λj key u=>?_⟩;have⟨g,i,sb,t,m,b,d,n,o⟩:=r j key u;exact⟨g,i,sb,t,m,⟨(c d b.1).2,b.2⟩,(c d b.1).1,n,o⟩
theorem zdL (i sb:Nat)(t:Tree)(a:Al)(tv:Y)(w:E)(h:TU w ow L)(l:L[i]?=I (sb,t))(m:AV a=G)(f:qM w tv (zP a (a.size+1) 0))(j:∀g,o tv=I g->ow g=0/\g<r (A w)):Uh prog 47 #[Ua (I ⟨sb,0,U⟩),tv,.slice U 0 0] w λx B=>x=R (C (hitT t a))/\UN w ow L B:=
 (zdK i sb t a tv w h l m f j).mono (λ_ _ ⟨b,c,d⟩=>⟨b,_,c,λg k=>by unfold B0;rw[IN k],d.mono (λg _ e=>oa)⟩)
theorem Ny {p s:Al}{t:Tree}(h:jm p=I t):wI p s=hitT t s:=by unfold wI;rw[h]
theorem zhL (b:Al)(tv:Y)(w:E)(h:TU w ow L)(j:PS w ow L s q)(k:AV b=G)(c:qM w tv (zP b (b.size+1) 0))(f:∀g,dH tv=I g->ow g=0/\g<dg (A w)):Uh prog 168 #[Ua (I ⟨q,0,U⟩),tv] w λx B=>x=R (C (!(s.hp && !wI s.pat b)))/\UN w ow L B:=by
 obtain⟨r,u,rfl⟩:=c.slice;obtain⟨a,p⟩|⟨a,i,sb,t,l,m,p⟩:=j.p
 .have d:H (UN w ow L w):=UN.refl h;rw[a];go_enter func168,ntmps168;go_wp2;go_ret;exact⟨rfl,d⟩
 have d:=zd (zdL i sb t b _ w h l k c f);rw[a,Ny m];go_enter func168,ntmps168;go_wp2_with(go_at_call 47;refine d.mono ?_;rintro e w1 ⟨rfl,n⟩;have o:=zd n);go_ret;exact⟨ov,o⟩
theorem zhM (b:Al)(tv:Y)(w:E)(h:TU w ow L)(j:PS w ow L s q)(k:AV b=G)(c:qM w tv (zP b (b.size+1) 0))(f:∀g,dH tv=I g->ow g=0/\g<dg (A w)):Uh prog 169 #[Ua (I ⟨q,0,U⟩),tv] w λx B=>x=R (C (!((s.fmt != 0) && !wI (ZL s.fmt) b)))/\UN w ow L B:=by
 obtain⟨r,u,rfl⟩:=c.slice;obtain⟨a,p⟩|⟨a,i,sb,t,l,m,p⟩:=j.f
 .have d:H (UN w ow L w):=UN.refl h;rw[show(s.fmt != 0)=Z by simp[a]];go_enter func169,ntmps169;go_wp2;go_ret;exact⟨rfl,d⟩
 have d:=zd (zdL i sb t b _ w h l k c f);rw[show(s.fmt != 0)=G by simp[a],Ny m];go_enter func169,ntmps169;go_wp2_with(go_at_call 47;refine d.mono ?_;rintro e w1 ⟨rfl,n⟩;have o:=zd n);go_ret;exact⟨ov,o⟩
end
def CG (w:E)(ow:Ak)(T:List (Nat×Tree))(l:Ar)(lv:Y)(wr:E):Prop:=∃ow',TU wr ow' T/\(∀g,g<r (A w)->ow' g=ow g)/\zg (λg=>ow g≠0) w wr/\(∀g,o lv=I g->ow' g=0)/\wr.ownsRow (r (A w)) 3 1 lv (D l) (yq l)
theorem zhN {T:List (Nat×Tree)}{s:Sc}{q:Nat}(key:Al)(tv:Y)(w:E)(h:TU w ow T)(hq:PS w ow T s q)(hs:AV key=G)(L:qM w tv (zP key (key.size+1) 0))(ac:∀g,dH tv=I g->ow g=0/\g<dg (A w))(he:D s.keys<=D s.subs)(hl:D s.keys<=6)(a4:11<dg (A w)):Uh prog 170 #[Ua (I ⟨q,0,U⟩),tv] w λx B=>∃lv,x=R (Ue #[lv,C (s.agn key).2])/\CG w ow T (s.agn key).1 lv B:=by
 have⟨i0,aP,aT,aU,aV⟩:=info_parts Tryz.N4;have H0:H (CG w ow T (s.hits key 0) (.slice U 0 0) w):=⟨ow,h,λ_ _=>rfl,zg.refl _ _,λg e=>by simp[dH] at e,A0 _ _ _ _⟩
 have HQ:=zd hq;have ap:H (∀(wr:E) (ow':Ak),zg (λg=>ow g≠0) w wr->(∀g,g<dg (A w)->ow' g=ow g)->qM wr tv (zP key (key.size+1) 0)/\∀g,dH tv=I g->ow' g=0/\g<dg (A wr)):=λwr ow' k e=>⟨L.Oy k (λg a f=>f (ac g a).1),λg a=>⟨(e g (ac g a).2).trans (ac g a).1,AM (ac g a).2 k.size⟩⟩
 obtain⟨ta,tc,rfl⟩:=L.slice;have⟨ka,kc,k2,aB⟩:=hq.k;have HK:=zd aB;clear h hq L ac aB;go_enter func170,ntmps170;go_upto_region 2 with fail;go_loopw[4,13] (λlv x wr=>∃i:Nat,x=M J i/\i<=D s.keys/\H (CG w ow T (s.hits key i) lv wr)) (λ_ x _=>D s.keys-(intOf x).toNat);exact⟨0,rfl,oa,H0⟩;clear H0;obtain⟨i,rfl,hi,HG⟩:=hrel;have⟨ow',W,v,m,g4,X⟩:=zb HG;have hP:=HQ.keep m (λ_ f=>f) (λg a e=>(v g a).trans e);obtain⟨la,ln,lc,rfl⟩:=zq X;obtain rfl:ln=(s.hits key i).length:=by obtain⟨e,h0⟩|⟨g,aZ,a0,e,_⟩:=X.2<;>cases e;exact h0.symm;rfl
 have y4:=hP.m;by_cases aC:i<D s.keys
 ·((obtain⟨g,j,sb,t,rfl,⟨e2,-⟩,e3,e4,e5⟩:=zb HK i s.keys[i] (AE aC);have ek:=zf m _ _ e3 (λf=>f e2);have aR:=s.N7 key i;have L:=zb ap wr ow' m v;have HF:H (Uh prog _ _ wr _):=zdK j sb t key _ wr W e4 hs L.1 L.2;have hh:s.hits key (i+1)=s.hits key i++(if hitT t key then [s.subs[i]' oa] else []):=by simp only[Sc.hits];rw[B7,AE aC,B7,AE (show i<D s.subs by omega)];show _++(if wI s.keys[i] key then _ else _)=_;rw[Ny e5];rfl);have aE:=AE (show i<D s.subs by omega);generalize s.subs[i]=x at *;generalize hitT t key=b at *;have HX:H (∀w1,TU w1 (B0 ow' (dg (A wr)) (dg (A w1)) j) T->zg (λg=>ow' g=j+1) wr w1->(∀g,g<dg (A w)->B0 ow' (dg (A wr)) (dg (A w1)) j g=ow g)/\zg (λg=>ow g≠0) w w1/\(∀g,(Value.slice la (s.hits key i).length lc).ownBlock=I g->B0 ow' (dg (A wr)) (dg (A w1)) j g=0)/\dA w1 (dg (A w)) 3 1 (.slice la (s.hits key i).length lc) (s.hits key i).length (yq (s.hits key i))/\PS w1 (B0 ow' (dg (A wr)) (dg (A w1)) j) T s q):=λw1 d p=>by have s3:=m.size;have eo:∀g,g<dg (A wr)->B0 ow' (dg (A wr)) (dg (A w1)) j g=ow' g:=λg a=>(by unfold B0;rw[IN a]);refine⟨λg a=>(eo g oa).trans (v g a),m.NY p (λg a e=>by rw[<-v g a];omega),λg a=>(eo g (zh X g a).2).trans (g4 g a),zk X p (λg a e=>by have:=g4 g a;omega),hP.keep p (λg e=>oa) (λg a e=>(eo g a).trans e)⟩);have HH:=zd hh;have aq:=zd aE;have a8:=m.size;clear W v m g4 X hP L hh aE e2 e3 e4 e5 HG y4;cases b
  .have S:H (s.hits key (i+1)=s.hits key i):=(by show _=_;rw[zb HH];simp);go_wp2_with(go_at_call 47;refine HF.mono ?_;rintro e w1 ⟨rfl,d,p⟩);obtain⟨z,r,u,o,-⟩:=zb HX _ d p;exact⟨⟨i+1,Ae,oa,⟨_,d,z,r,u,by rw[zb S];exact o⟩⟩,Ad⟩
  (have S:H (s.hits key (i+1)=s.hits key i++[x]):=(by show _=_;rw[zb HH];simp);go_wp2_with(first|(go_at_call 47;refine HF.mono ?_;rintro e w1 ⟨rfl,d,p⟩;have⟨z,r,u,o,b5⟩:=zb HX _ d p;have⟨ua,uc,u1,hu⟩:=b5.u;obtain⟨gu,rfl,-,u2⟩:=hu i x aq;have HB:=zd (Ur d (Ur z (Ur r (Ur u o))));clear d p z r u o b5 hu)|(at_builtin;refine zb ?_));refine zd ?_;have⟨d,z,r,u,o⟩:=zb HB;have s2:=r.size;refine yz _ rfl _ _ 29 rfl (dg (A w)) 3 i0 (M J 0) 1 8 underlying29 aP aT aU aV rfl od (.slice la (s.hits key i).length lc) _ (yq (s.hits key i)) rfl (AZ o _) _ 1 1 [M J x] rfl rfl (cell_one_new _ _ _) (λx hx=>by simp at hx;subst hx;rfl) Ac oa ou ?_;intro N F al ay aD;have aI:H (CG w ow T (s.hits key (i+1)) N F):=by have hk:zg (λg=>(Value.slice la (s.hits key i).length lc).ownBlock=I g) w1 F:=Ag.grown ay (λj hj=>.inl hj);refine⟨_,d.keep hk (λg a=>⟨u g a,λe=>?_⟩),z,r.NY hk (λg a e=>?_),λg a=>(aD g a).elim (u g) (λe=>d.n g (by simp at e;omega)),by rw[zb S];simpa [yq] using al⟩;have:=(zh o g a).1;omega;have:=(zh o g e).1;omega);obtain⟨va,vn,vc,rfl⟩:=zq al;clear al ay aD d z r u o HB HX HF HH aq S u1 u2;go_wp2;exact⟨⟨i+1,Ae,oa,aI⟩,Ad⟩
 (obtain rfl:i=D s.keys:=oa;have n:s.agn key=if s.hits key (D s.keys)≠[]\/s.more = -2 then(s.hits key (D s.keys),Z) else if s.more = -1 then([],G) else([s.more],Z):=rfl);have aR:=s.N7 key (D s.keys);have S:H (CG w ow T [] (.slice U 0 0) wr):=⟨ow',W,v,m,λg e=>by simp[dH] at e,A0 _ _ _ _⟩
 (have HM:H (CG w ow T [s.more] (.slice (I ⟨dg (A wr),0,U⟩) 1 1) (dB wr (Ub #[M J s.more] 3))):=by have sz:=m.size;refine⟨ow',W.keep ((zg.refl (λ_=>False) _).alloc _) (λ_ f=>f.elim),v,m.alloc _,λg e=>W.n g ?_,⟨rfl,O ⟨_,_,#[M J s.more],rfl,oa,Lj,AD _,Ac,rfl,rfl⟩⟩⟩;simp[dH] at e;omega);generalize s.hits key (D s.keys)=l at *;clear W v m g4 X hP ap HK;by_cases y:l=[]/\¬s.more = -2
 .obtain⟨rfl,y⟩:=y;have d2:(s.more == -2)=Z:=(by simp[y]);rw[iN (by simp[y])] at n;by_cases h1:s.more = -1
  .rw[IN h1] at n;have d1:(s.more == -1)=G:=(by simp[h1]);have P:=zd n;clear n h1 y;go_wp2;go_ret2;rw[zb P];exact⟨_,rfl,S⟩
  rw[iN h1] at n;have d1:(s.more == -1)=Z:=(by simp[h1]);have P:=zd n;clear n h1 y;go_wp2;go_ret2;rw[zb P];exact⟨_,rfl,HM⟩
 rw[IN (by obtain c|c:=Classical.em (s.more = -2);exact O c;exact .inl (λe=>y ⟨e,c⟩))] at n;have P:=zd n;have h3:(l=[]/\s.more = -2)\/0<D l:=(by grind);clear n y;obtain⟨rfl,h3⟩|h3:=h3
 .have d2:(s.more == -2)=G:=(by simp[h3]);clear h3;go_wp2;go_ret2;rw[zb P];exact⟨_,rfl,HG⟩
 have h4:(0:Int)<(D l:Int):=oa;go_wp2;go_ret2;rw[zb P];exact⟨_,rfl,HG⟩
theorem KD (w:E)(f:ym w a)(c:j7 w a)(h:k=9\/k=10)(b:dx w ⟨g,0,U⟩=I (z7 a k)):Uh prog 30 #[Ud 139 (Ua (I ⟨g,0,U⟩))] w λe B=>e=R (M J (k+1:Nat))/\B=w:=by
 have d:=zd (c.is g k b oa oa);have⟨_,_,s,j⟩:=c;have⟨i,l,m,n,o,p,q,r⟩:=f;unfold z7 at i l n o p q r s j;obtain rfl|rfl:=h
 all_goals
  go_enter func30,ntmps30;go_wp2_with(go_at_call 56;refine AL (zb d _ od od) ?_);go_ret;exact⟨rfl,rfl⟩
theorem zhO (a:Ap)(n c:Nat)(l:Ar)(w:E)(h:qN w (λ_=>True) (.slice a n c) l)(hl:D l<=6):Uh prog 130 #[.slice a n c] w λx B=>∃b m d,x=R (.slice b m d)/\B.ownsRow (dg (A w)) 3 1 (.slice b m d) (D l) (yq l)/\zke w B:=by
 have⟨i0,z,T,W,X⟩:=info_parts Tryz.N4;have r:∀V:E,(binOp .eql 29 (.slice a n c) (.slice U 0 0)).run prog V=.ok (C a.isNone) V:=Gs a n c;cases a with
 |none=>
  obtain⟨rfl,-⟩:l=[]/\True:=by obtain⟨h,_⟩|⟨g,ab,y,e,_⟩:=h;exact⟨h,trivial⟩;cases e
  simp only[Option.isNone] at r;go_enter func130,ntmps130;go_wp2;go_ret;exact⟨_,_,_,rfl,A0 _ _ _ _,zg.refl _ _⟩
 |some p=>
  obtain⟨rfl,k⟩:n=D l/\∀(j:Nat) u,(yq l)[j]?=I u->dx w (p.add j)=I u:=by obtain⟨rfl,a',c',e⟩|⟨g,ab,y,e,_,k⟩:=h;cases e;exact⟨rfl,λj u i=>by simp[yq] at i⟩;cases e;refine⟨rfl,λj u i=>?_⟩;rw[yq,Bo] at i;obtain⟨x,S,rfl⟩:=Cj.1 i;rw[Addr.add_lit];exact k j x S
  have s:=zd k;simp only[Option.isNone] at r;go_enter func130,ntmps130;go_wp2_with(at_builtin;refine zb ?_);refine zd ?_;refine yz _ rfl _ _ 29 rfl (dg (A w)) 3 i0 (M J 0) 1 8 underlying29 z T W X rfl od (.slice (I ⟨dg (A w),0,U⟩) 0 0) 0 [] rfl ⟨rfl,O ⟨_,0,#[],rfl,AD _,Lj,AD _,Ac,rfl,rfl⟩⟩ p (D l) c (yq l) rfl (by simp[yq]) (λj u i=>zf ((zg.refl (λ_=>False) w).alloc _) _ _ (zb s j u i) id) (λu i=>by obtain⟨x,_,rfl⟩:=Cf.1 i;rfl) Ac oa ov ?_;intro N F o q P;obtain⟨va,vn,vc,rfl⟩:=zq o;have t:H (zke w F):=Ag.grown q (λj L=>O (by simp[dH] at L;omega));have v:H (F.ownsRow (dg (A w)) 3 1 (.slice va vn vc) (D l) (yq l)):=by show dA _ _ _ _ _ _ _;rw[Bv,Cd] at o;exact o
  go_wp2;go_ret;exact⟨_,_,_,rfl,v,t⟩
section
variable {w B:World} {ow:Ak} {L:List (Nat×Tree)} {s:Sc} {q:Nat}
theorem YI (a:List (Nat×Tree)){i:Nat}{x:Nat×Tree}(h:L[i]?=I x):(L++a)[i]?=I x:=by rw[BG (AK.1 h).1];exact h
theorem TI.longer (h:TI w ow L s q)(b:List (Nat×Tree)):TI w ow (L++b) s q:=
 ⟨h.o,h.p.imp_right (λ⟨a,i,sb,t,c,d⟩=>⟨a,i,sb,t,YI b c,d⟩),h.f.imp_right (λ⟨a,i,sb,t,c,d⟩=>⟨a,i,sb,t,YI b c,d⟩),h.u,h.m⟩
theorem PS.longer (h:PS w ow L s q)(b:List (Nat×Tree)):PS w ow (L++b) s q:=by have⟨a,c,m,n⟩:=h.k;refine⟨h.toTI.longer b,a,c,m,λj key o=>?_⟩;have⟨g,i,sb,t,d,e,f,k,l⟩:=n j key o;exact⟨g,i,sb,t,d,e,f,YI b k,l⟩
theorem xl {g j:Nat}{x:Nat}{u v:Y}(h:d w ⟨g,j,U⟩=I v)(c:¬(g=q/\j=x)):(dC w ⟨q,x,U⟩ u).cell? ⟨g,j,U⟩=I v:=
 (AN _ _ _ _ (by intro e;exact c (by have a:=congrArg Addr.block e;have b:=congrArg Addr.off e;simp at a b;exact⟨a.symm,b.symm⟩))).trans h
theorem TI.Rn (h:TI w ow L s q){x:Nat}(m:x≠3)(u:Y):∃a c,(w.setCell ⟨q,x,U⟩ u).cell? ⟨q,3,U⟩=I (.slice a (D s.subs) c)/\∀(j:Nat) y,s.subs[j]?=I y->∃g,a=I ⟨g,0,U⟩/\(ow g=0/\g<q)/\(w.setCell ⟨q,x,U⟩ u).cell? ⟨g,j,U⟩=I (M J y):=by have⟨a,c,i,k⟩:=h.u;refine⟨a,c,xl i (λe=>m e.2.symm),λj y l=>?_⟩;have⟨g,d,b,f⟩:=k j y l;exact⟨g,d,b,xl f (λe=>by have:=b.2;omega)⟩
theorem TI.Sy {i sb:Nat}{t:Tree}(h:TI w ow L { s with hp:=Z } q)(j:L[i]?=I (sb,t))(k:jm s.pat=I t)(g:s.hp=G):TI (dC w ⟨q,0,U⟩ (Ua (I ⟨sb,0,U⟩))) ow L s q:=by
 have l:dx w ⟨q,0,U⟩=I (Ua U):=by obtain⟨_,e⟩|⟨e,_⟩:=h.p;exact e;cases e
 exact⟨h.o,O ⟨g,i,sb,t,j,k,AX _ _ _ l⟩,h.f.imp (λ⟨a,b⟩=>⟨a,xl b ov⟩) (λ⟨a,i,sb,t,c,d,f⟩=>⟨a,i,sb,t,c,d,xl f ov⟩),h.Rn od _,xl h.m ov⟩
theorem TI.Sz {i sb:Nat}{t:Tree}(h:TI w ow L { s with fmt:=0 } q)(j:L[i]?=I (sb,t))(k:jm (ZL s.fmt)=I t)(g:s.fmt≠0):TI (dC w ⟨q,1,U⟩ (Ua (I ⟨sb,0,U⟩))) ow L s q:=by
 have l:dx w ⟨q,1,U⟩=I (Ua U):=by obtain⟨_,e⟩|⟨e,_⟩:=h.f;exact e;exact absurd rfl e
 exact⟨h.o,h.p.imp (λ⟨a,b⟩=>⟨a,xl b ov⟩) (λ⟨a,i,sb,t,c,d,f⟩=>⟨a,i,sb,t,c,d,xl f ov⟩),O ⟨g,i,sb,t,j,k,AX _ _ _ l⟩,h.Rn od _,xl h.m ov⟩
end
def Sc.OM (s:Sc):Prop:=(s.hp=G->(jm s.pat).isSome=G)/\∀(i:Nat) key,s.keys[i]?=I key->(jm key).isSome=G
def B5 (w:E)(oo:Ak)(g:Nat):Nat:=if r (A w)<=g then oo g else 1
variable {w}
theorem K7 {g:Nat}(h:r (A w)<=g):B5 w oo g=oo g:=IN h
theorem wO {g:Nat}(h:B5 w oo g=0):r (A w)<=g/\oo g=0:=by unfold B5 at h;split at h;exact⟨‹_›,h⟩;cases h
def Fz (w:E)(ow:Ak)(T:List (Nat×Tree))(s:Sc)(x:Ending)(B:E):Prop:=zke w B/\((¬s.OM/\∃X y,x=R (Ue #[Ua U,Ud X y]))\/(s.OM/\∃q a ow',x=R (Ue #[Ua (I ⟨q,0,U⟩),Ui])/\r (A w)<=q/\TU B ow' (T++a)/\(∀g,g<r (A w)->ow' g=ow g)/\PS B (B5 w ow') (T++a) s q))
structure RK (w:E)(ow:Ak)(T:List (Nat×Tree))(q:Nat)(s:Sc)(kv:Y)(xs:An)(wx:E)(L:List (Nat×Tree))(oo:Ak):Prop where
 pre:∃T',L=T++T'
 st:TU wx oo L
 eo:∀g,g<r (A w)->oo g=ow g
 ps:TI wx (B5 w oo) L s q
 c2:d wx ⟨q,2,U⟩=I kv
 fz:∀j,dz wx ⟨q,j,U⟩=Z
 on:zke w wx
 ob:∀g,o kv=I g->oo g=0
 row:dA wx (q+1) 85 1 kv (D xs) xs
 key:∀(j:Nat) key,j<D xs->s.keys[j]?=I key->∃(i sb:Nat) (t:Tree),xs[j]?=I (Ua (I ⟨sb,0,U⟩))/\L[i]?=I (sb,t)/\jm key=I t
def RD (w:E)(ow:Ak)(T:List (Nat×Tree))(q:Nat)(s:Sc)(wx:E):Prop:=∃L oo,RK w ow T q s (.slice U 0 0) [] wx L oo
section
variable {w wx w1 F:World} {ow oo:Ak} {T L:List (Nat×Tree)} {s W:Sc} {q sb i:Nat} {t:Tree} {kv N v:Value} {xs:An}
theorem RD.start (h:TU w ow T)(k:zke w w1)(d:dA w1 (r (A w)) 3 1 v (D s.subs) (yq s.subs)):RD w ow T (r (A w1)) { s with hp:=Z,fmt:=0 } (dB w1 (Ub #[Ua U,Ua U,.slice U 0 0,v,M J s.more] 284)):=by have c:=λ(j:Nat) u h=>zj w1 _ rfl #[Ua U,Ua U,.slice U 0 0,v,M J s.more] 284 j u h;have i:=(zg.refl (λ_=>False) w1).alloc (Ub #[Ua U,Ua U,.slice U 0 0,v,M J s.more] 284);have l:=k.trans i;refine⟨T,ow,⟨[],(BW _).symm⟩,h.keep l (λ_ f=>f.elim),λ_ _=>rfl,⟨(K7 k.size).trans (h.n _ k.size),.inl ⟨rfl,c 0 _ rfl⟩,.inl ⟨rfl,c 1 _ rfl⟩,?_,c 4 _ rfl⟩,c 2 _ rfl,λj=>zt w1 _ rfl _ _ j,l,λg e=>by simp[dH] at e,A0 _ _ _ _,λj _ b=>absurd b (Bs j)⟩;obtain⟨a,m,rfl,n⟩:=qh d;refine⟨a,m,c 3 _ rfl,λj x b=>?_⟩;obtain⟨g,rfl,o⟩:=n j (M J x) (by rw[yq,Bo,b];rfl);have hb:=zh d g rfl;exact⟨g,rfl,⟨(K7 hb.1).trans (h.n g hb.1),hb.2⟩,zf i _ _ o id⟩
theorem RK.more (h:RK w ow T q s kv xs wx L oo)(k:zke wx w1)(p:Ux w1 (λg=>dg (A wx)<=g/\g<dg (A w1)) sb t)(x:11<dg (A w)):RK w ow T q s kv xs w1 (L++[(sb,t)]) (B0 oo (dg (A wx)) (dg (A w1)) (D L)):=by
 have y:=h.on.size;have r:=zic wx _ h.c2;have b:∀g,g<dg (A wx)->B0 oo (dg (A wx)) (dg (A w1)) (D L) g=oo g:=λg a=>by unfold B0;rw[IN a]
 have⟨c,e⟩:=h.pre;refine⟨⟨c++[(sb,t)],by rw[e,Bu]⟩,h.st.more k p oa,λg a=>(b g oa).trans (h.eo g a),(h.ps.keep k (λ_ f=>f.elim) (λg a e=>(K7 (wO e).1).trans ((b g a).trans (wO e).2))).longer _,zf k _ _ h.c2 id,λj=>zp k _ r (h.fz j) id,h.on.trans k,λg a=>(b g (zh h.row g a).2).trans (h.ob g a),zk h.row k (λ_ _ f=>f),λj key n o=>?_⟩;have⟨i,u,v,d,l,m⟩:=h.key j key n o;exact⟨i,u,v,d,YI _ l,m⟩
theorem zdM (L:List (Nat×Tree))(x:Nat×Tree):(L++[x])[D L]?=I x:=by rw[B9 (AD _),CU];rfl
theorem RK.set (h:RK w ow T q W kv xs wx L oo){x:Nat}{u:Y}(f:x≠2)(i:r (A w)<=q)(k:11<r (A w))(d:s.keys=W.keys)(c:TI (wx.setCell ⟨q,x,U⟩ u) (B5 w oo) L s q):RK w ow T q s kv xs (wx.setCell ⟨q,x,U⟩ u) L oo:=by have b:zg (λg=>g=q) wx (wx.setCell ⟨q,x,U⟩ u):=(zg.refl (λg=>g=q) _).setCell (.inl rfl) _;exact⟨h.pre,h.st.keep b (λg a=>by subst a;exact⟨(wO h.ps.o).2,oa⟩),h.eo,c,xl h.c2 (λe=>f e.2.symm),λj=>by rw[zl];exact h.fz j,h.on.N2 b (λg a=>oa),h.ob,zk h.row b (λg a e=>by have:=(zh h.row g a).1;omega),d ▸ h.key⟩
theorem RK.app (h:RK w ow T q s kv xs w1 L oo)(k:zg (λg=>dH kv=I g) w1 F)(u:F.ownsRow (q+1) 85 1 N (D xs+1) (xs++[Ua (I ⟨sb,0,U⟩)]))(W:∀g,dH N=I g->dH kv=I g\/dg (A w1)<=g)(hq:dg (A w)<=q)(ac:11<dg (A w)){v:Al}(S:s.keys[D xs]?=I v)(B:L[i]?=I (sb,t))(X:jm v=I t):RK w ow T q s N (xs++[Ua (I ⟨sb,0,U⟩)]) (F.setCell ⟨q,2,U⟩ N) L oo:=by have ql:=zic w1 _ h.c2;have hb:∀g,dH kv=I g->q<g:=λg c=>(zh h.row g c).1;have y:∀g,dH N=I g->q<g:=λg c=>(zh u g c).1;have o:zg (λg=>g=q) F (F.setCell ⟨q,2,U⟩ N):=(zg.refl (λg=>g=q) _).setCell (.inl rfl) _;have d:TI F (B5 w oo) L s q:=h.ps.NV (λz e c=>⟨zf k _ _ z (λf=>Nat.not_lt.2 c (hb _ f)),e⟩);have x:=zf k _ _ h.c2 (λf=>Nat.lt_irrefl _ (hb _ f));refine⟨h.pre,(h.st.keep k (λg c=>⟨h.ob g c,by have:=hb g c;omega⟩)).keep o (λg c=>by subst c;exact⟨(wO h.ps.o).2,oa⟩),h.eo,⟨d.o,?_,?_,d.Rn od _,xl d.m ov⟩,AX _ _ _ x,λj=>by rw[zl];exact zp k _ ql (h.fz j) (λf=>Nat.lt_irrefl _ (hb _ f)),(h.on.N2 k (λg c=>by have:=hb g c;omega)).N2 o (λg c=>oa),λg c=>(W g c).elim (h.ob g) (h.st.n g),?_,λj key P p=>?_⟩;exact d.p.imp (λ⟨a,b⟩=>⟨a,xl b ov⟩) (λ⟨a,i,sb,t,l,m,n⟩=>⟨a,i,sb,t,l,m,xl n ov⟩);exact d.f.imp (λ⟨a,b⟩=>⟨a,xl b ov⟩) (λ⟨a,i,sb,t,l,m,n⟩=>⟨a,i,sb,t,l,m,xl n ov⟩);rw[AO];exact zk u o (λg c e=>by have:=y g c;omega);by_cases r:j<D xs;rw[BG r];exact h.key j key r p;obtain rfl:j=D xs:=(by simp at P;omega);cases S.symm.trans p;exact⟨i,sb,t,by rw[B9 (AD _),CU];rfl,B,X⟩
theorem RD.put {x:Nat}(h:RD w ow T q W wx)(k:zke wx w1)(e:Ux w1 (λg=>r (A wx)<=g/\g<r (A w1)) sb t)(c:11<r (A w))(d:r (A w)<=q)(j:x≠2)(f:s.keys=W.keys)(st:∀(V:E) (oo:Ak) (a:List (Nat×Tree)) (i:Nat),TI V oo a W q->a[i]?=I (sb,t)->TI (V.setCell ⟨q,x,U⟩ (Ua (I ⟨sb,0,U⟩))) oo a s q):RD w ow T q s (dC w1 ⟨q,x,U⟩ (Ua (I ⟨sb,0,U⟩))):=by have⟨L,oo,h⟩:=h;have b:=h.more k e c;exact⟨_,_,b.set j d c f (st _ _ _ _ b.ps (zdM _ _))⟩
theorem RK.done (h:RK w ow T q s kv xs wx L oo)(n:r (A w)<=q)(d:D xs=D s.keys):PS wx (B5 w oo) L s q:=by obtain⟨a,c,rfl,l⟩:=qh h.row;refine⟨h.ps,a,c,d ▸ h.c2,λj key b=>?_⟩;have⟨i,sb,t,e,f,k⟩:=h.key j key (by rw[d];exact(AK.1 b).1) b;obtain⟨g,rfl,m⟩:=l j _ e;exact⟨g,i,sb,t,rfl,by have:=(zh h.row g rfl).1;exact⟨(K7 oa).trans (h.ob g rfl),oa⟩,m,f,k⟩
end
theorem ER:∃t,jm (ZL f)=I t:=by
 cases hp:jm (ZL f) with
 |some t=>exact⟨t,rfl⟩
 |none=>
  have⟨_,_,_,_,_,_,hb⟩:=Z6 hp;have key:∀k:Nat,Nf (fmtS k)=G:=λk=>by unfold fmtS;split<;>decide +kernel
  unfold ZL at hb;split at hb<;>(rw[key] at hb;cases hb)
theorem ES (a:1<=f)(b:f<=6)(w:E):Uh prog 132 #[M J f] w λx B=>x=R (Uc (ZL f))/\zke w B:=by
 obtain⟨k,rfl⟩:=Int.eq_ofNat_of_zero_le (show 0<=f by omega);have e:ZL (k:Nat)=fmtS k:=by unfold ZL;split;rfl;obtain rfl:k=6:=oa;rfl
 rw[e];exact ze5 k oa oa w
theorem Tryz.PY:(prog.info? 85).map (λi=>(i.zero,i.size,i.bytes))=I (I (Ua U),1,8):=om
theorem zhP (s:Sc)(gb o:Nat)(ow:Ak)(T:List (Nat×Tree))(ka:Ap)(kc:Nat)(sa:Ap)(sc:Nat)(w:E)(a:Nat->Addr)(hS:Start w a)(hT:Tx w)(h:TU w ow T)(hL:Uz w s ka kc sa sc)(hC:∀(j:Nat) u,(s.cells ka kc sa sc)[j]?=I u->dx w ⟨gb,o+j,U⟩=I u)(hf:0<=s.fmt/\s.fmt<=6)(he:D s.keys=D s.subs)(hl:D s.keys<=6):Uh prog 78 #[Ua (I ⟨gb,o,U⟩)] w (Fz w ow T s):=by
 have aT:H (∀V,zke w V->_):=λV k=>zhO sa (D s.subs) sc s.subs V (hL.s.keep k (λ_ _ f=>f)) oa;have S:H (∀V,zke w V->∀(j:Nat) u,(s.cells ka kc sa sc)[j]?=I u->dx V ⟨gb,o+j,U⟩=I u):=λV k j u hu=>zf k _ _ (hC j u hu) id;have c4:=hC 4 _ rfl;have c5:=hC 5 _ rfl;have HS:=zd hS;have HT:=zd hT;have bn:=zd h;have HL:=zd hL;clear hC hS hT h hL;go_enter func78,ntmps78;go_upto_region 1 with fail;go_region_held3(λB=>dx B ⟨gb,o+4,U⟩=I (.slice sa (D s.subs) sc)/\dx B ⟨gb,o+5,U⟩=I (M J s.more)) (first|go_keep|exact⟨zb S _ af 4 _ rfl,zb S _ af 5 _ rfl⟩)
  (first|(go_at_call 130;refine(zb aT _ (by first|exact(zg.refl _ _).drew|exact Ah)).mono ?_;rintro e w1 ⟨ua,un,uc,rfl,a7,a1⟩;have HW:=zd a7;have af:H (zke w w1):=zg.trans (by first|exact(zg.refl _ _).drew|exact Ah) a1;clear a7 a1))
 have P:=zd (RD.start (s:=s) bn af HW);generalize hq:dg (A w1)=q at *;have ak:dg (A w)<=q:=hq ▸ af.size;have az:=HT.lt;generalize dB w1 (Ub #[Ua U,Ua U,.slice U 0 0,.slice ua un uc,M J s.more] 284)=W at *;have c0:dx W ⟨gb,o,U⟩=I (C s.hp):=zb S W P.choose_spec.choose_spec.on 0 _ rfl;have c1:=zb S W P.choose_spec.choose_spec.on 1 _ rfl;clear HW c4 c5 aT hq af;go_upto_if 24 with fail;go_cut[5] (λe wx=>e=Ui/\H ((s.hp=G->(jm s.pat).isSome=G)/\RD w ow T q { s with fmt:=0 } wx))
 case first=>
  cases n:s.hp
  .rw[n] at c0;have m:H ((s.hp=G->(jm s.pat).isSome=G)/\RD w ow T q { s with fmt:=0 } W):=⟨λe=>(by rw[n] at e;cases e),by have⟨_,_,_,_,_,_⟩:=s;simp only at n;subst n;exact zb P⟩
   (clear P;go_wp2;all_goals go_meet);exact⟨rfl,m⟩
  rw[n] at c0;have⟨L,oo,r⟩:=zb P;have a6:=r.on;have d0:dx W ⟨q,0,U⟩=I (Ua U):=by obtain⟨_,e⟩|⟨e,_⟩:=r.ps.p;exact e;cases e
  have f0:=r.fz 0;have aO:q<dg (A W):=zic W _ r.c2;have HK:H (∀V,zke W V->dx V ⟨q,0,U⟩=I (Ua U)/\dz V ⟨q,0,U⟩=Z):=λV k=>⟨zf k _ _ d0 id,zp k _ aO f0 id⟩
  have ag:=zd (HS.keep a6);have aG:=zd (HT.keep a6 id);have bk:=zd a6;clear r a6 d0 f0;cases b:jm s.pat with
  |none=>
   have z:=zd (Wt s.pat W a ag (Z6 b));have m:H (¬s.OM):=λe=>(by have:=e.1 n;rw[b] at this;cases this);clear b P;go_wp2_with(go_at_call 131;refine z.mono ?_;rintro e F ⟨X,y,rfl,c⟩;have⟨e0,ef⟩:=zb HK _ c);go_ret2;exact⟨(bk.trans c).N2 ((zg.refl (λg=>g=q) _).setCell (.inl rfl) _) (λg hg=>oa),.inl ⟨m,_,_,rfl⟩⟩
  |some t=>
   have⟨v,ts,hk⟩:=Z7 b;have z:=zd (XD s.pat v t ts W a ag aG hk);have m:H (∀F sb,zke W F->Ux F (λg=>dg (A W)<=g/\g<dg (A F)) sb t->(s.hp=G->(jm s.pat).isSome=G)/\RD w ow T q { s with fmt:=0 } (dC F ⟨q,0,U⟩ (Ua (I ⟨sb,0,U⟩)))):=λF sb k p=>⟨λ_=>by rw[b];rfl,P.put k p az ak od rfl (λV oo LL i h hi=>TI.Sy (s:={ s with fmt:=0 }) h hi b n)⟩
   ((clear hk P;go_wp2_with(go_at_call 131;refine z.mono ?_;rintro e F ⟨sb,rfl,p,c⟩;have⟨e0,ef⟩:=zb HK _ c;have HR:=zd (zb m _ _ c p);clear p));all_goals go_meet);exact⟨rfl,HR⟩
 case rest=>
  obtain⟨rfl,HP⟩:=hcut;have HH:=zd HP.1;have aa:=zd HP.2;have c2:=zb S wc aa.choose_spec.choose_spec.on 2 _ rfl;have c3:=zb S wc aa.choose_spec.choose_spec.on 3 _ rfl;clear P c0 c1 HP;go_upto_if 43 with fail;go_cut[5] (λe wx=>e=Ui/\H (RD w ow T q s wx))
  case first=>
   by_cases n:s.fmt=0
   ·(rw[n] at c2;have m:H (RD w ow T q s wc):=(by have⟨_,_,_,_,_,_⟩:=s;simp only at n;subst n;exact aa);clear aa;go_wp2;all_goals go_meet);exact⟨rfl,m⟩
   (have d:(s.fmt != 0)=G:=(by simp[n]);have⟨L,oo,r⟩:=zb aa;have a6:=r.on;have d0:dx wc ⟨q,1,U⟩=I (Ua U):=by obtain⟨_,e⟩|⟨e,_⟩:=r.ps.f;exact e;exact absurd rfl e);have f0:=r.fz 1;have aO:q<dg (A wc):=zic wc _ r.c2;have HK:H (∀V,zke wc V->dx V ⟨q,1,U⟩=I (Ua U)/\dz V ⟨q,1,U⟩=Z):=λV k=>⟨zf k _ _ d0 id,zp k _ aO f0 id⟩
   ((have⟨t,b⟩:=ER s.fmt;have⟨v,ts,hk⟩:=Z7 b;have bg:=zd (ES s.fmt oa oa wc);have z:H (∀V,zke wc V->_):=λV k=>XD (ZL s.fmt) v t ts V a (HS.keep (a6.trans k)) (HT.keep (a6.trans k) id) hk;have m:H (∀F sb,zke wc F->Ux F (λg=>dg (A wc)<=g/\g<dg (A F)) sb t->RD w ow T q s (dC F ⟨q,1,U⟩ (Ua (I ⟨sb,0,U⟩)))):=λF sb k p=>aa.put k p az ak od rfl (λV oo LL i h hi=>TI.Sz h hi b n);clear r a6 d0 f0 hk aa b;go_wp2_with(first|(go_at_call 132;refine bg.mono ?_;rintro e F ⟨rfl,c⟩;have hz:=c.size)|(go_at_call 131;refine(zb z _ c).mono ?_;rintro e w3 ⟨sb,rfl,p,a2⟩;have⟨e0,ef⟩:=zb HK _ (c.trans a2);have HR:=zd (zb m _ _ (c.trans a2) (p.mono (λg hg=>⟨oa,hg.2⟩)));clear p)));all_goals go_meet);exact⟨rfl,HR⟩
  case rest=>
   obtain⟨rfl,aD⟩:=hcut;have⟨i0,bu,bx,bz,bA⟩:=info_parts Tryz.PY;have c3:=zb S wc aD.choose_spec.choose_spec.on 3 _ rfl;clear aa S c2 hf;go_upto_region 12 with fail;go_loopw[64] (λx wr=>∃i:Nat,x=M J i/\i<=D s.keys/\H (∃kv xs L oo,D xs=i/\RK w ow T q s kv xs wr L oo)) (λx _=>D s.keys-(intOf x).toNat);exact⟨0,rfl,oa,by have⟨L,oo,h⟩:=zb aD;exact⟨_,[],L,oo,rfl,h⟩⟩;clear aD c3;obtain⟨i,rfl,hi,HG⟩:=hrel;obtain⟨kv,xs,L,oo,rfl,l⟩:=zb HG;by_cases aL:D xs<D s.keys
   .have ay:=AE aL;generalize s.keys[D xs]=ky at ay;obtain⟨g,al,ar,e,hc⟩:∃g al ar,Value.slice ka (D s.keys) kc=.slice (I ⟨g,al,U⟩) (D s.keys) ar/\∀(j:Nat) x,s.keys[j]?=I x->dx w ⟨g,al+j,U⟩=I (Uc x):=by
     rcases(zb HL).k with⟨e,_⟩|⟨g,al,ar,e,_,hc⟩;rw[e] at aL;simp at aL;exact⟨g,al,ar,e,hc⟩
    have ck:=zf l.on _ _ (hc _ _ ay) id;cases e;obtain⟨va,vn,vc,rfl⟩:=zq l.row;have ag:=zd (HS.keep l.on);have aG:=zd (HT.keep l.on id);have bl:=zd l;have HO:=zd l.on;have aU:=zd ay;clear l HG hc ay;cases b:jm ky with
    |none=>
     have z:=zd (Wt ky wr a ag (Z6 b));have m:H (¬s.OM):=λe=>(by have:=e.2 _ _ aU;rw[b] at this;cases this);clear b;go_wp2_with(go_at_call 131;refine z.mono ?_;rintro e w1 ⟨X,y,rfl,c⟩);go_ret2;exact⟨HO.trans c,.inl ⟨m,_,_,rfl⟩⟩
    |some t=>
     have⟨v,ts,hk⟩:=Z7 b;have z:=zd (XD ky v t ts wr a ag aG hk);have Hp:=zd b;clear hk b;go_wp2_with(first|(go_at_call 131;refine z.mono ?_;rintro e w1 ⟨sb,rfl,p,c⟩;have HM:=zd (bl.more c p az);have e2:=HM.c2;clear p)|(at_builtin;refine zb ?_));refine zd ?_;have hM:=zb HM;have ql:q<dg (A w1):=zic w1 _ e2;refine yz _ rfl _ _ 282 rfl (q+1) 85 i0 (Ua U) 1 8 underlying282 bu bx bz bA rfl od (.slice va vn vc) _ xs rfl (AZ hM.row _) _ 1 1 [Ua (I ⟨sb,0,U⟩)] rfl rfl (cell_one_new _ _ _) (λx hx=>by simp at hx;subst hx;rfl) Ac oa ou ?_;intro N F aN a5 a9;have ax:zg (λg=>(Value.slice va vn vc).ownBlock=I g) w1 F:=Ag.grown a5 (λj hj=>.inl hj);have hn:¬(Value.slice va vn vc).ownBlock=I q:=λe=>(by have:=(zh hM.row q e).1;omega);have HE:=zd (hM.app ax aN (λg hg=>(a9 g hg).imp_right (λe=>by simp at e;omega)) ak az aU (zdM _ _) Hp);have m2:=zf ax _ _ e2 hn;have mf:=zp ax ⟨q,2,U⟩ ql (hM.fz 2) hn;obtain⟨ua,un,uc,rfl⟩:=zq aN;clear aN a5 a9 ax hM e2 z;go_wp2;exact⟨⟨D xs+1,Ae,oa,_,_,_,_,ov,HE⟩,Ad⟩
   obtain⟨T',rfl⟩:=l.pre;have m:H (Fz w ow T s (R (Ue #[Ua (I ⟨q,0,U⟩),Ui])) wr):=⟨l.on,O ⟨⟨HH,λi key hi=>by have⟨_,_,t,_,_,e⟩:=l.key i key (by have:=(AK.1 hi).1;omega) hi;rw[e];rfl⟩,q,T',oo,rfl,ak,l.st,l.eo,l.done ak oa⟩⟩
   clear l HG;go_wp2;go_ret2;exact m
theorem M5 {s:Sc}{k m:Nat}:s.OK k m↔s.O8 k m/\s.OM:=by unfold Sc.OK Sc.O8 Sc.OM;constructor;rintro⟨a,c,d,b⟩;refine⟨⟨a,λi x g=>?_,c⟩,d,λi key f=>?_⟩;have:=(b i (by rw[a.2.2.1];exact(AK.1 g).1)).2;rwa [B7,g] at this;have:=(b i (AK.1 f).1).1;rwa [B7,f] at this;rintro⟨⟨a,c,d⟩,b,h⟩;refine⟨a,d,b,λi e=>?_⟩;rw[B7,B7,AE e,AE (show i<D s.subs by omega)];exact⟨h i _ (AE e),c i _ (AE _)⟩
def TV (ss:Aw)(p:Int):Prop:=(D ss=0/\p=0)\/(8<D ss/\p=8)\/(0<D ss/\(D ss)<=8/\∃(k:Nat) (c:Sc),ss[k]?=I c/\(∀(j:Nat) d,j<k->ss[j]?=I d->d.OK j (D ss))/\¬c.OK k (D ss)/\p=k)
def Ck (v:Y)(oo:Ak)(g:Nat):Nat:=if o v=I g then 1 else oo g
theorem kD {v:Y}{oo:Ak}{g:Nat}:Ck v oo g=0↔o v≠I g/\oo g=0:=by unfold Ck;split<;>rename_i h<;>simp[h]
def Bw (a:Ao):An:=a.map (λq=>Ua (I ⟨q,0,U⟩))
structure SR (w:E)(ss:Aw)(lv:Y)(qs:Ao)(wr:E)(L:List (Nat×Tree))(oo:Ak):Prop where
 st:TU wr oo L
 on:zke w wr
 row:wr.ownsRow (r (A w)) 188 1 lv (D qs) (Bw qs)
 ob:∀g,o lv=I g->oo g=0
 lo:∀g,g<r (A w)->oo g=0
 ps:∀(i:Nat) c q,ss[i]?=I c->qs[i]?=I q->PS wr (Ck lv oo) L c q
theorem SR.start (w:E)(ss:Aw)(_h:11<r (A w)):SR w ss (.slice U 0 0) [] w [] (λ_=>0):=by exact⟨⟨λi _ _ e=>by simp at e,rfl,λ_ _=>rfl⟩,zg.refl _ _,A0 _ _ _ _,λ_ _=>rfl,λ_ _=>rfl,λi _ _ _ e=>by simp at e⟩
theorem SR.step {wr V w1 F:E}{ss:Aw}{lv N:Y}{b:Ao}{L T':List (Nat×Tree)}{oo ow':Ak}{c:Sc}{q:Nat}(h:SR w ss lv b wr L oo)(T:dg (A wr)<=dg (A V))(k:zke wr w1)(s:TU w1 ow' (L++T'))(m:∀g,g<dg (A V)->ow' g=oo g)(P:PS w1 (B5 V ow') (L++T') c q)(x:ss[D b]?=I c)(n:zg (λg=>dH lv=I g) w1 F) (S:F.ownsRow (dg (A w)) 188 1 N (D b+1) (Bw b++[Ua (I ⟨q,0,U⟩)])) (r:∀g,dH N=I g->dH lv=I g\/dg (A w1)<=g) (W:11<dg (A w)):SR w ss N (b++[q]) F (L++T') ow':=by
 have X:=h.on.size;have hb:=zh h.row;have t:∀g,dH lv=I g->ow' g=0:=λg a=>(m g (by have:=(hb g a).2;omega)).trans (h.ob g a);have y:∀g,g<dg (A w1)->Ck lv ow' g=0->Ck N ow' g=0:=λg a e=>by have⟨u,v⟩:=kD.1 e;exact kD.2 ⟨λl=>(r g l).elim u (λ_=>oa),v⟩
 have B:∀g,dH lv=I g->Ck lv ow' g≠0:=λg a e=>(kD.1 e).1 a;refine⟨s.keep n (λg a=>⟨t g a,by have:=(hb g a).1;omega⟩),(h.on.trans k).N2 n (λg a=>(hb g a).1),?_,λg a=>(r g a).elim (t g) (s.n g),λg a=>(m g oa).trans (h.lo g a),λi d p o j=>?_⟩;rw[AO,Bw,CX];exact S;refine PS.keep (ow:=Ck lv ow') ?_ n B y;by_cases z:i<D b;rw[BG z] at j;exact((h.ps i d p o j).keep k (λ_ f=>f.elim) (λg a e=>kD.2 ⟨(kD.1 e).1,(m g oa).trans (kD.1 e).2⟩)).longer T'
 (obtain rfl:i=D b:=by have:=(AK.1 j).1;simp at this;omega);rw[B9 (AD _),CU] at j;cases j;cases x.symm.trans o;exact P.keep (zg.refl (λ_=>False) _) (λ_ f=>f.elim) (λg _ e=>kD.2 ⟨λl=>by have:=(hb g l).2;have:=(wO e).1;omega,(wO e).2⟩)
def Le (w:E)(a:Nat->Addr)(ss:Aw)(x:Ending)(B:E):Prop:=zke w B/\((∃v p,x=R (Ue #[.slice U 0 0,v])/\zJ B (r (A w)) v (z7 a 10) p/\TV ss p)\/
 ((0<D ss/\(D ss)<=8/\∀(j:Nat) d,ss[j]?=I d->d.OK j (D ss))/\∃rb rc b L oo,x=R (Ue #[.slice (I ⟨rb,0,U⟩) (D ss) rc,Ui])/\(D b)=D ss/\SR w ss (.slice (I ⟨rb,0,U⟩) (D ss) rc) b B L oo))
theorem Tryz.PZ:(prog.info? 188).map (λi=>(i.zero,i.size,i.bytes))=I (I (Ua U),1,8):=om
theorem zhQ (ss:Aw)(sv:Y)(w:E)(a:Nat->Addr)(hS:Start w a)(hT:Tx w)(hN:Zg w sv ss)(hl:D ss<4611686018427387904):Uh prog 38 #[sv] w (Le w a ss):=by
 have⟨i0,a7,a9,ba,bb⟩:=info_parts Tryz.PZ;have HN:=zd hN;have HS:=zd hS;have HT:=zd hT;obtain⟨na,nc,rfl,_⟩:=hN;have HE:H (∀V v p,zke w V->zJ V (dg (A w)) v (z7 a 10) p->TV ss p->Le w a ss (R (Ue #[.slice U 0 0,v])) V):=λV v p h1 h2 h3=>⟨h1,.inl ⟨v,p,rfl,h2,h3⟩⟩
 have s9:=hS.rows.s10;have aQ:=hT.lt;unfold z7 at s9;clear hS hT;go_enter func38,ntmps38;by_cases h0:D ss=0
 .have d0:((D ss:Int) == 0)=G:=by simp[h0]
  have o:H (TV ss 0):=.inl ⟨h0,rfl⟩;clear h0;go_wp2_with(go_at_call 55;refine(jt _ _ _ _).mono ?_;rintro e w1 ⟨v,rfl,W,T⟩);go_ret2;exact zb HE _ _ _ T W o
 have d0:((D ss:Int) == 0)=Z:=beq_eq_false_iff_ne.2 oa;by_cases h1:8<D ss
 .have d1:(8:Int)<(D ss:Int):=oa;have o:H (TV ss 8):=O (.inl ⟨h1,rfl⟩);clear h0 h1;go_wp2_with(go_at_call 55;refine(jt _ _ _ _).mono ?_;rintro e w1 ⟨v,rfl,W,T⟩);go_ret2;exact zb HE _ _ _ T W o
 have d1:¬(8:Int)<(D ss:Int):=oa;have hp:0<D ss:=oa;have h8:D ss<=8:=oa;clear h0 h1;obtain⟨nb,no,rfl⟩:=HN.Rl hp;go_upto_region 7 with fail;go_loopw[4,20] (λlv x wr=>∃i:Nat,x=M J i/\i<=D ss/\H (∃h L oo,D h=i/\SR w ss lv h wr L oo)/\H (∀(j:Nat) d,j<i->ss[j]?=I d->d.OK j (D ss))) (λ_ x _=>D ss-(intOf x).toNat);exact⟨0,rfl,oa,⟨[],[],_,rfl,SR.start w ss aQ⟩,λj _ hj=>absurd hj (Bs _)⟩;obtain⟨i,rfl,hi,HR,S⟩:=hrel;obtain⟨h,L,oo,rfl,k⟩:=zb HR;obtain⟨la,ln,lc,rfl⟩:=zq k.row;have HO:=zd k.on;have aq:=zd k;by_cases a8:D h<D ss
 .have hc:=AE a8;generalize ss[D h]=c at hc;have HC:H (∀V,zke w V->∃s t z P,Uz V c s t z P/\∀(j:Nat) u,(c.cells s t z P)[j]?=I u->dx V ⟨nb,no+D h*6+j,U⟩=I u):=λV kk=>(HN.keep kk).all.2 _ c hc;have Hc:=zd hc;have t9:=zf k.on _ _ s9 id;have ad:H (¬c.OK (D h) (D ss)->TV ss ((D h:Nat):Int)):=λq=>O (O ⟨hp,h8,_,c,hc,S,q,rfl⟩);clear k HR hc;by_cases l:c.O8 (D h) (D ss)
  ·((have al:H (Uh prog 77 #[Ua (I ⟨nb,no+D h*6,U⟩),M J (D h:Nat),M J (D ss:Nat)] wr λx B=>x=R (C G)/\zke wr B):=by have⟨s,t,z,P,n,r⟩:=zb HC wr HO;refine(zgd c _ _ nb _ s t z P wr n r oa).mono ?_;rintro e B ⟨b,rfl,hb,T⟩;exact⟨by rw[hb.2 l],T⟩);have aG:H (∀V,zke wr V->Uh prog 78 #[Ua (I ⟨nb,no+D h*6,U⟩)] V (Fz V oo L c)):=λV kk=>by have k2:=HO.trans kk;have⟨s,t,z,P,n,r⟩:=zb HC V k2;exact zhP c nb _ oo L s t z P V a (HS.keep k2) (HT.keep k2 id) (aq.st.keep kk (λ_ f=>f.elim)) n r ⟨l.1.1,l.1.2.1⟩ l.1.2.2.1 l.1.2.2.2);by_cases am:c.OM
   ·(have aV:H (∀(j:Nat) d,j<D h+1->ss[j]?=I d->d.OK j (D ss)):=λj d hj hd=>by obtain q|q:=FU j (D h);exact zb S j d q hd;obtain rfl:j=D h:=oa;cases(zb Hc).symm.trans hd;exact M5.2 ⟨l,am⟩);clear l ad S t9;go_wp2_with(first|(go_at_call 77;refine al.mono ?_;rintro e w1 ⟨rfl,m⟩)|(go_at_call 78;refine(zb aG _ m).mono ?_;rintro e F ⟨ac,⟨be,_⟩|⟨_,q,T',ow',rfl,hq,aP,a5,aN⟩⟩;exact absurd am be;have aY:=zd aP;have aW:=zd aN;clear aP aN)|(at_builtin;refine zb ?_));refine zd ?_;have k:=zb aq;have z1:=m.size;have z0:=k.on.size;have z2:=ac.size;refine yz _ rfl _ _ 107 rfl (dg (A w)) 188 i0 (Ua U) 1 8 underlying107 a7 a9 ba bb rfl od (.slice la ln lc) _ (Bw h) rfl (AZ (zk k.row (m.trans ac) (λ_ _ f=>f)) _) _ 1 1 [Ua (I ⟨q,0,U⟩)] rfl rfl (cell_one_new _ _ _) (λx hx=>by simp at hx;subst hx;rfl) Ac oa ou ?_;intro N w3 aw aK aO;have aL:zg (λg=>(Value.slice la ln lc).ownBlock=I g) F w3:=Ag.grown aK (λj hj=>.inl hj);have aU:=zd (k.step z1 (m.trans ac) aY a5 aW Hc aL aw (λg hg=>(aO g hg).imp_right (λe=>by simp at e;omega)) aQ);obtain⟨ua,un,uc,rfl⟩:=zq aw;clear aw aK aO aL k;go_wp2;exact⟨⟨D h+1,Ae,oa,⟨_,_,_,ov,aU⟩,aV⟩,Ad⟩
   have o:=zd (zb ad (λq=>am (M5.1 q).2));clear l ad S;go_wp2_with(first|(go_at_call 77;refine al.mono ?_;rintro e w1 ⟨rfl,m⟩)|(go_at_call 78;refine(zb aG _ m).mono ?_;rintro e F ⟨ac,⟨_,X,y,rfl⟩|⟨yes,_⟩⟩;rotate_left;exact absurd yes am;have r9:=zf (m.trans ac) _ _ t9 id)|(go_at_call 55;refine(jt _ _ _ _).mono ?_;rintro e w3 ⟨v,rfl,W,ar⟩));go_ret2;have k3:=HO.trans (m.trans ac);exact zb HE _ _ _ (k3.trans ar) (W.base k3.size) o
  (have al:H (Uh prog 77 #[Ua (I ⟨nb,no+D h*6,U⟩),M J (D h:Nat),M J (D ss:Nat)] wr λx B=>x=R (C Z)/\zke wr B):=by have⟨s,t,z,P,n,r⟩:=zb HC wr HO;refine(zgd c _ _ nb _ s t z P wr n r oa).mono ?_;rintro e B ⟨b,rfl,hb,T⟩;exact⟨by cases b;rfl;exact absurd (hb.1 rfl) l,T⟩);have o:=zd (zb ad (λq=>l (M5.1 q).1));clear l ad S HC;go_wp2_with(first|(go_at_call 77;refine al.mono ?_;rintro e w1 ⟨rfl,m⟩;have r9:=zf m _ _ t9 id)|(go_at_call 55;refine(jt _ _ _ _).mono ?_;rintro e w3 ⟨v,rfl,W,ar⟩));go_ret2;have k3:=HO.trans m;exact zb HE _ _ _ (k3.trans ar) (W.base k3.size) o
 (have e:D h=D ss:=oa;have⟨a',c',n,r⟩:=qh k.row;have o:H (Le w a ss (R (Ue #[.slice la ln lc,Ui])) wr):=by obtain⟨g,rfl,_⟩:=r 0 _ (by rw[Bw,Bo,AE oa];rfl);rw[e] at n;refine⟨k.on,O ⟨⟨hp,h8,λj d hd=>zb S j d (by have:=(AK.1 hd).1;omega) hd⟩,g,c',h,L,oo,by rw[n],e,n ▸ k⟩⟩);clear k HR S n r HO aq;go_wp2;go_ret2;exact o
section
variable {ns:Av} {ss:Aw} {k s j y:Nat} {n:Nd} {c:Sc}
def Ch (ns:Av)(c:Sc)(j y:Nat):Prop:=∃n,ns[j]?=I n/\(((y:Nat):Int)∈(c.agn n.key).1\/(y=11/\(c.agn n.key).2=G))
def Sg (n:Nd)(c:Sc)(y:Nat):Prop:=(y=9/\(c.hp && !wI c.pat n.text)=G)\/(y=10/\((c.fmt != 0) && !wI (ZL c.fmt) n.text)=G)
def Bt (ns:Av)(ss:Aw)(k s j y:Nat):Prop:=∃n c,ns[k]?=I n/\ss[s]?=I c/\qC ns ss k s/\((n.kind=5/\kY ns k j=G/\Ch ns c j y)\/(n.kind=3/\j=k/\Sg n c y))
def Tb (ns:Av)(ss:Aw)(k s j y:Nat):Prop:=(j=0/\y=0)\/∃a b,Dk k s a b/\Bt ns ss a b j y
theorem Bt.iff (b:ns[k]?=I n)(a:ss[s]?=I c):Bt ns ss k s j y↔qC ns ss k s/\((n.kind=5/\kY ns k j=G/\Ch ns c j y)\/(n.kind=3/\j=k/\Sg n c y)):=
 ⟨λ⟨g,f,d,e,h⟩=>by cases b.symm.trans d;cases a.symm.trans e;exact h,λh=>⟨n,c,b,a,h⟩⟩
theorem Bt.lt:Bt ns ss k s j y->s<D ss:=λ⟨_,_,_,h,_⟩=>(AK.1 h).1
theorem Tb.step:Tb ns ss k (s+1) j y↔Tb ns ss k s j y\/Bt ns ss k s j y:=by constructor;rintro(h|⟨a,c,d,b⟩);exact .inl (.inl h);obtain d|⟨rfl,rfl⟩:=Dk.next.1 d;exact .inl (O ⟨a,c,d,b⟩);exact O b;rintro((h|⟨a,c,d,b⟩)|b);exact .inl h;exact O ⟨a,c,Dk.next.2 (.inl d),b⟩;exact O ⟨k,s,Dk.next.2 (O ⟨rfl,rfl⟩),b⟩
theorem Tb.row:Tb ns ss k (D ss) j y↔Tb ns ss (k+1) 0 j y:=or_congr Iff.rfl ⟨λ⟨a,c,d,b⟩=>⟨a,c,(Dk.row b.lt).1 d,b⟩,λ⟨a,c,d,b⟩=>⟨a,c,(Dk.row b.lt).2 d,b⟩⟩
theorem Tb.start:(j=0/\y=0)↔Tb ns ss 0 0 j y:=⟨.inl,λh=>h.elim id (λ⟨_,_,d,_⟩=>by unfold Dk at d;omega)⟩
theorem K8:kY ns k j=G↔∃n,ns[j]?=I n/\1<=j/\n.parent=(k:Int):=by unfold kY;split<;>rename_i e<;>rw[e]<;>simp
theorem Tb.held (r:TE ns ss)(g:k<D ns)(B:y<8):Tb ns ss k s k y↔qC ns ss k y:=by
 constructor
 .rintro(⟨rfl,rfl⟩|⟨F,L,d,n,c,w,t,u,⟨f,g,z,x,v|⟨rfl,_⟩⟩|⟨_,_,⟨rfl,_⟩|⟨rfl,_⟩⟩⟩);exact .root;have⟨n1,b,i,a⟩:=K8.1 g;cases x.symm.trans b;exact .kid i b a w f u t v;all_goals omega
 intro h;obtain h|⟨_,_,_,_,_,j,e,l,m,f,o,p,q⟩:=h.inv;exact .inl h;have⟨z,b,_,a⟩:=r.nodes k g;cases e.symm.trans b;unfold Nd.there at a;rw[iN oa] at a;exact O ⟨_,_,.inl (by have:=a.2.1;omega),_,_,m,p,o,.inl ⟨f,K8.2 ⟨_,e,j,l⟩,_,e,.inl q⟩⟩
theorem Tb.ends (u:TE ns ss)(v:k<D ns):(Tb ns ss k (D ss) k 9↔CE ns ss k)/\(Tb ns ss k (D ss) k 10↔CF ns ss k)/\(Tb ns ss k (D ss) k 11↔Ka ns ss k)/\¬Tb ns ss k (D ss) k 8:=by
 have key:∀{y},8<=y->Tb ns ss k (D ss) k y->∃i g n c,ns[i]?=I n/\ss[g]?=I c/\qC ns ss i g/\((n.kind=5/\kY ns i k=G/\y=11/\∃n,ns[k]?=I n/\(c.agn n.key).2=G)\/(n.kind=3/\k=i/\Sg n c y)):=by rintro y W (⟨_,rfl⟩|⟨i,g,d,n,c,b,a,f,⟨m,v,r,x,w|⟨rfl,w⟩⟩|h⟩);omega;have:=(Sc.OL (u.schemas g c a) r.key _ w).2;have:=u.m1;omega;exact⟨i,g,n,c,b,a,f,.inl ⟨m,v,rfl,r,x,w⟩⟩;exact⟨i,g,n,c,b,a,f,O h⟩
 have put:∀{y s n c},ns[k]?=I n->ss[s]?=I c->qC ns ss k s->n.kind=3->Sg n c y->Tb ns ss k (D ss) k y:=λb a f j S=>O ⟨k,_,O ⟨rfl,(AK.1 a).1⟩,_,_,b,a,f,O ⟨j,rfl,S⟩⟩;refine⟨⟨λh=>?_,λ⟨s,h⟩=>?_⟩,⟨λh=>?_,λ⟨s,h⟩=>?_⟩,⟨λh=>?_,λh=>?_⟩,λh=>?_⟩;obtain⟨i,g,n,c,b,a,f,⟨_,_,e,_⟩|⟨j,rfl,⟨_,e⟩|⟨e,_⟩⟩⟩:=key od h;cases e;exact⟨g,(Wq b a).1.2 ⟨⟨f,j⟩,e⟩⟩;cases e;have⟨n,c,f,b,j,a,_⟩:=id h;exact put b a f j (.inl ⟨rfl,((Wq b a).1.1 h).2⟩);obtain⟨i,g,n,c,b,a,f,⟨_,_,e,_⟩|⟨j,rfl,⟨e,_⟩|⟨_,e⟩⟩⟩:=key od h;cases e;cases e;exact⟨g,(Wq b a).2.2 ⟨⟨f,j⟩,e⟩⟩;have⟨n,c,f,b,j,a,_⟩:=id h;exact put b a f j (O ⟨rfl,((Wq b a).2.1 h).2⟩)
 .obtain⟨i,g,n,c,b,a,f,⟨m,e,_,r,x,T⟩|⟨_,_,⟨e,_⟩|⟨e,_⟩⟩⟩:=key od h;have⟨n1,o,z,l⟩:=K8.1 e;cases x.symm.trans o;exact⟨i,g,_,_,_,z,o,l,b,m,f,a,T⟩;all_goals cases e
 have⟨p,s,n,q,c,B,t,j,F,m,L,N,P⟩:=h;have⟨r,o,_,l⟩:=u.nodes k v;cases t.symm.trans o;unfold Nd.there at l;rw[iN oa] at l;exact O ⟨p,s,.inl (by have:=l.2.1;omega),_,_,F,N,L,.inl ⟨m,K8.2 ⟨_,t,B,j⟩,_,t,O ⟨rfl,P⟩⟩⟩;obtain⟨i,g,n,c,b,a,f,⟨_,_,e,_⟩|⟨_,_,⟨e,_⟩|⟨e,_⟩⟩⟩:=key od h<;>cases e
end
structure H0 (w:E)(ow:Ak)(L:List (Nat×Tree))(ns:Av)(ss:Aw)(tb rb:Nat)(K T V:Nat->Y)(Q:Ak):Prop where
 fine:TE ns ss
 st:TU w ow L
 nd:∀(k:Nat) n,ns[k]?=I n->(d w ⟨tb,k*4,U⟩=I (M J n.kind)/\d w ⟨tb,k*4+1,U⟩=I (K k)/\d w ⟨tb,k*4+2,U⟩=I (T k)/\d w ⟨tb,k*4+3,U⟩=I (V k))/\qM w (K k) (zP n.key (n.key.size+1) 0)/\qM w (T k) (zP n.text (n.text.size+1) 0)
 kd:∀k,k<D ns->dA w (tb+1) 3 1 (V k) (xx ns k (D ns)).length (yq (xx ns k (D ns)))
 ob:∀k g,k<D ns->(K k).ownBlock=I g\/(T k).ownBlock=I g\/(V k).ownBlock=I g->ow g=0/\g<r (A w)
 ot:ow tb=0
 or:ow rb=0
 sc:∀(i:Nat) c,ss[i]?=I c->d w ⟨rb,i,U⟩=I (Ua (I ⟨Q i,0,U⟩))/\PS w ow L c (Q i)
 tl:11<r (A w)
structure HG (w0:E)(ow0:Ak)(L:List (Nat×Tree))(n m tb rb rc hb zv:Nat)(lv:Y)(fl:Ai)(X:Nat->Aj)(w:E)(ow:Ak):Prop where
 st:TU w ow L
 eo:∀g,g<r (A w0)->ow g=ow0 g
 oh:ow hb=0
 oz:ow zv=0
 lz:r (A w0)<=zv
 ne:zv<hb
 h0:d w ⟨hb,0,U⟩=I (.slice (I ⟨tb,0,U⟩) n n)
 h1:d w ⟨hb,1,U⟩=I (.slice (I ⟨rb,0,U⟩) m rc)
 h2:d w ⟨hb,2,U⟩=I (.slice (I ⟨zv,0,U⟩) n n)
 tab:BT w zv n 12 X
 lt:zv<r (A w)
 on:zg (λg=>ow0 g≠0) w0 w
 fr:dA w (hb+1) 58 2 lv (D fl) (yD fl)
 fo:∀g,o lv=I g->ow g=0
section
variable {w0 w B:World} {ow0 ow:Ak} {L:List (Nat×Tree)} {ns:Av} {ss:Aw} {n m tb rb rc hb zv:Nat} {lv:Value} {fl:Ai} {K T V:Nat->Value} {Q:Ak} {X X':Nat->Aj}
theorem HG.Sx (h:HG w0 ow0 L n m tb rb rc hb zv lv fl X w ow)(k:UN w ow L B):∃ow',HG w0 ow0 L n m tb rb rc hb zv lv fl X B ow':=by have⟨ow',o,d,b⟩:=k;have p:=h.on.size;have l:=zic w _ h.h0;have c:∀{j v},dx w ⟨hb,j,U⟩=I v->dx B ⟨hb,j,U⟩=I v:=λi=>zf b _ _ i (λf=>f h.oh);exact⟨ow',o,λg a=>(d g oa).trans (h.eo g a),(d _ l).trans h.oh,(d _ h.lt).trans h.oz,h.lz,h.ne,c h.h0,c h.h1,c h.h2,BF.keep h.tab b (λf=>f h.oz),AM h.lt b.size,h.on.NY b (λg a e=>by rw[<-h.eo g a];exact e),zk h.fr b (λg a f=>f (h.fo g a)),λg a=>(d g (zh h.fr g a).2).trans (h.fo g a)⟩
theorem HG.to (h:HG w0 ow0 L n m tb rb rc hb zv lv fl X w ow)(e:∀j y,j<n->y<12->(X j y↔X' j y)):HG w0 ow0 L n m tb rb rc hb zv lv fl X' w ow:={ h with tab:=BT.to h.tab e }
theorem HG.set (h:HG w0 ow0 L n m tb rb rc hb zv lv fl X w ow)(r:11<dg (A w0)){j y:Nat}(l:j<n)(p:y<12)(e:∀d f,d<n->f<12->¬(d=j/\f=y)->(X d f↔X' d f))(o:X' j y):HG w0 ow0 L n m tb rb rc hb zv lv fl X' (dC w ⟨zv,j*12+y,U⟩ (C G)) ow:=by have a:zg (λg=>g=zv) w (dC w ⟨zv,j*12+y,U⟩ (C G)):=(zg.refl (λg=>g=zv) _).setCell (.inl rfl) _;have q:=h.lz;have i:=h.ne;have c:∀{j v},dx w ⟨hb,j,U⟩=I v->_:=λk=>zf a _ _ k (Nat.ne_of_gt i);exact⟨h.st.keep a (λg b=>by subst b;exact⟨h.oz,oa⟩),h.eo,h.oh,h.oz,q,i,c h.h0,c h.h1,c h.h2,BT.set h.tab l p G e ⟨λ_=>o,λ_=>rfl⟩,AM h.lt a.size,h.on.NY a (λg b e=>oa),zk h.fr a (λg b e=>by have:=(zh h.fr g b).1;omega),h.fo⟩
theorem HG.cell (h:HG w0 ow0 L n m tb rb rc hb zv lv fl X w ow){g j:Nat}{v:Y}(a:d w0 ⟨g,j,U⟩=I v)(e:ow0 g=0):d w ⟨g,j,U⟩=I v:=zf h.on _ _ a (λf=>f e)
theorem HG.ps (h:HG w0 ow0 L n m tb rb rc hb zv lv fl X w ow){c:Sc}{q:Nat}(b:PS w0 ow0 L c q):PS w ow L c q:=b.keep h.on (λ_ f=>f) (λg a e=>(h.eo g a).trans e)
theorem HG.let (h:HG w0 ow0 L n m tb rb rc hb zv lv fl X w ow){v:Y}{l:Ai}(c:qM w0 v l)(b:∀g,o v=I g->ow0 g=0/\g<r (A w0)):qM w v l/\∀g,o v=I g->ow g=0/\g<r (A w):=
 ⟨c.Oy h.on (λg a f=>f (b g a).1),λg a=>⟨(h.eo g (b g a).2).trans (b g a).1,AM (b g a).2 h.on.size⟩⟩
end
theorem EE {L:List (Nat×Tree)}{ns:Av}{ss:Aw}{tb rb rc hb zv:Nat}{lv:Y}{fl:Ai}{K T V:Nat->Y}{Q:Ak}{X:Nat->Aj}(a:H0 w0 ow0 L ns ss tb rb K T V Q)(k i:Nat){n:Nd}{c:Sc}(z:ns[k]?=I n)(hc:ss[i]?=I c)(w:E)(ow:Ak)(h:HG w0 ow0 L (D ns) (D ss) tb rb rc hb zv lv fl X w ow):Uh prog 133 #[Ua (I ⟨hb,0,U⟩),M J (k:Nat),Ua (I ⟨Q i,0,U⟩)] w λx B=>x=R (Ue #[])/\∃ow',HG w0 ow0 L (D ns) (D ss) tb rb rc hb zv lv fl (λj y=>X j y\/(j=k/\Sg n c y)) B ow':=by
 have o:=(AK.1 z).1;have aA:=a.fine.n1;have⟨⟨_,_,W,_⟩,_,m⟩:=a.nd k n z;have p:=λg hg=>a.ob k g o (O (.inl hg));have⟨ta,tc,ht⟩:=m.slice;rw[ht] at W m p;have P:=(a.sc i c hc).2;have S:AV n.text=G:=by have⟨n',e1,e2,_⟩:=a.fine.nodes k o;cases z.symm.trans e1;exact e2.2.1
 have HP:H (∀(X:Nat->Aj) (w:E) (ow:Ak),HG w0 ow0 L (D ns) (D ss) tb rb rc hb zv lv fl X w ow->_):=λX w ow h=>zhL (q:=Q i) (s:=c) n.text _ w h.st (h.ps P) S (h.let m p).1 (h.let m p).2;have HF:H (∀(X:Nat->Aj) (w:E) (ow:Ak),HG w0 ow0 L (D ns) (D ss) tb rb rc hb zv lv fl X w ow->_):=λX w ow h=>zhM (q:=Q i) (s:=c) n.text _ w h.st (h.ps P) S (h.let m p).1 (h.let m p).2;have ac:=zd h;have HT:=zd a.tl;have x0:=h.h0;have x2:=h.cell W a.ot;generalize af:(c.hp && !wI c.pat n.text)=f at HP;generalize ag:((c.fmt != 0) && !wI (ZL c.fmt) n.text)=N at HF;have HX:H (∀w ow,HG w0 ow0 L (D ns) (D ss) tb rb rc hb zv lv fl (λj y=>X j y\/(j=k/\y=9/\f=G)) w ow->(N=Z->HG w0 ow0 L (D ns) (D ss) tb rb rc hb zv lv fl (λj y=>X j y\/(j=k/\Sg n c y)) w ow)/\(N=G->HG w0 ow0 L (D ns) (D ss) tb rb rc hb zv lv fl (λj y=>X j y\/(j=k/\Sg n c y)) (w.setCell ⟨zv,k*12+10,U⟩ (C G)) ow)):=by
  subst af ag;refine λw ow h=>⟨λe=>h.to (λj y _ _=>or_congr Iff.rfl (and_congr Iff.rfl ?_)),λe=>h.set a.tl o od (λj y _ _ q=>or_congr Iff.rfl (and_congr_right λej=>?_)) (O ⟨rfl,O ⟨rfl,e⟩⟩)⟩
  unfold Sg;rw[e];simp;unfold Sg;exact⟨.inl,λd=>d.elim id (λd=>absurd ⟨ej,d.1⟩ q)⟩
 have am:H (∀w ow,HG w0 ow0 L (D ns) (D ss) tb rb rc hb zv lv fl X w ow->(f=Z->HG w0 ow0 L (D ns) (D ss) tb rb rc hb zv lv fl (λj y=>X j y\/(j=k/\y=9/\f=G)) w ow)/\(f=G->HG w0 ow0 L (D ns) (D ss) tb rb rc hb zv lv fl (λj y=>X j y\/(j=k/\y=9/\f=G)) (w.setCell ⟨zv,k*12+9,U⟩ (C G)) ow)):=
  λw ow h=>⟨λe=>h.to (λj y _ _=>⟨.inl,λq=>q.elim id (λq=>by rw[e] at q;cases q.2.2)⟩),λe=>h.set a.tl o od (λj y _ _ q=>⟨.inl,λd=>d.elim id (λd=>absurd ⟨d.1,d.2.1⟩ q)⟩) (O ⟨rfl,rfl,e⟩)⟩
 go_enter func133,ntmps133;go_upto_if 18 with(go_at_call 168;refine(zb HP X w ow ac).mono ?_;rintro e w1 ⟨rfl,t⟩;have H1:=zd (ac.Sx t));go_cut[6] (λv wx=>v=.slice ta (zP n.text (n.text.size+1) 0).length tc/\H (∃ow,HG w0 ow0 L (D ns) (D ss) tb rb rc hb zv lv fl (λj y=>X j y\/(j=k/\y=9/\f=G)) wx ow))
 case first=>
  have⟨o1,l⟩:=zb H1;have i2:=l.h2;obtain⟨⟨b,cb,-⟩,fb⟩:=l.tab.get o (i:=9) od;have r:=zd (zb am _ _ l);cases f
  all_goals
   go_wp2_with fail
   all_goals go_meet
  exact⟨rfl,_,r.1 trivial⟩;exact⟨rfl,_,r.2 trivial⟩
 case rest=>
  obtain⟨rfl,ak⟩:=hcut;have⟨o1,l⟩:=zb ak;have r:=zd l;go_upto_if 30 with(go_at_call 169;refine(zb HF _ _ _ r).mono ?_;rintro e F ⟨rfl,t⟩;have H2:=zd (r.Sx t));have⟨o2,u⟩:=zb H2;have i2:=u.h2;obtain⟨⟨b,cb,-⟩,fb⟩:=u.tab.get o (i:=10) od;have ad:=zd (zb HX _ _ u);cases N
  all_goals
   go_wp2_with fail
   go_end0
  exact⟨rfl,_,ad.1 trivial⟩;exact⟨rfl,_,ad.2 trivial⟩
def Xk (ns:Av)(c:Sc)(X:Nat->Aj)(l:Ar)(i j y:Nat):Prop:=X j y\/((∃t,t<i/\l[t]?=I ((j:Nat):Int))/\Ch ns c j y)
section
variable {w0 w B:World} {ow0 ow:Ak} {L:List (Nat×Tree)} {ns:Av} {ss:Aw} {n m tb rb rc hb zv:Nat} {lv:Value} {fl:Ai} {X:Nat->Aj} {c:Sc} {l:Ar} {i p:Nat} {q:Nd}
theorem Xk.next (d:l[i]?=I ((p:Nat):Int))(f:ns[p]?=I q)(j y:Nat):Xk ns c X l (i+1) j y↔Xk ns c X l i j y\/(j=p/\(((y:Nat):Int)∈(c.agn q.key).1\/(y=11/\(c.agn q.key).2=G))):=by unfold Xk;constructor;rintro(h|⟨⟨t,m,a⟩,b⟩);exact .inl (.inl h);by_cases e:t=i;subst e;have:=Bz (d.symm.trans a);obtain rfl:j=p:=oa;have⟨n,g,k⟩:=b;cases f.symm.trans g;exact O ⟨rfl,k⟩;exact .inl (O ⟨⟨t,oa,a⟩,b⟩);rintro((h|⟨⟨t,m,a⟩,b⟩)|⟨rfl,h⟩);exact .inl h;exact O ⟨⟨t,oa,a⟩,b⟩;exact O ⟨⟨i,oa,d⟩,q,f,h⟩
theorem HG.num {K:Nat->Aj}{k y:Nat}{l:Ar}(h:HG w0 ow0 L n m tb rb rc hb zv lv fl (KI K k l i) w ow)(f:11<r (A w0))(g:l[i]?=I ((y:Nat):Int))(o:y<12)(d:k<n):HG w0 ow0 L n m tb rb rc hb zv lv fl (KI K k l (i+1)) (w.setCell ⟨zv,k*12+y,U⟩ (C G)) ow:=by
 refine h.set f d o (λj p _ _ q=>or_congr Iff.rfl (and_congr_right λe=>⟨λ⟨c,a,b⟩=>⟨c,oa,b⟩,λ⟨c,a,b⟩=>⟨c,?_,b⟩⟩)) (O ⟨rfl,i,oa,g⟩);by_cases S:c=i
 grind
 omega
end
theorem zhR {L:List (Nat×Tree)}{ns:Av}{ss:Aw}{tb rb rc hb zv:Nat}{lv:Y}{fl:Ai}{K T V:Nat->Y}{Q:Ak}{X:Nat->Aj}(d:H0 w0 ow0 L ns ss tb rb K T V Q)(k i:Nat){n:Nd}{c:Sc}(hn:ns[k]?=I n)(hc:ss[i]?=I c)(w:E)(ow:Ak)(h:HG w0 ow0 L (D ns) (D ss) tb rb rc hb zv lv fl X w ow):Uh prog 134 #[Ua (I ⟨hb,0,U⟩),M J (k:Nat),Ua (I ⟨Q i,0,U⟩)] w λx B=>x=R (Ue #[])/\∃ow',HG w0 ow0 L (D ns) (D ss) tb rb rc hb zv lv fl (λj y=>X j y\/(kY ns k j=G/\Ch ns c j y)) B ow':=by
 have hk:=(AK.1 hn).1;have bo:=d.fine.n1;have br:=d.fine.m1;have⟨⟨_,_,_,v3⟩,_⟩:=d.nd k n hn;have⟨va,vc,hv,aK⟩:=qh (d.kd k hk);have aj:=λg N=>d.ob k g hk (O (O N));rw[hv] at v3 aj;have hm:∀x∈xx ns k (D ns),∃j:Nat,x=j/\j<D ns:=λx f=>by have⟨j,m,F,_⟩:=YH.1 f;exact⟨j,m,F⟩
 have HD:H (∀w ow,HG w0 ow0 L (D ns) (D ss) tb rb rc hb zv lv fl (Xk ns c X (xx ns k (D ns)) (xx ns k (D ns)).length) w ow->HG w0 ow0 L (D ns) (D ss) tb rb rc hb zv lv fl (λj y=>X j y\/(kY ns k j=G/\Ch ns c j y)) w ow):=λw ow h=>h.to (λj y hj _=>or_congr Iff.rfl (and_congr_left λ_=>⟨λ⟨t,_,e⟩=>(by have⟨j',m,_,F⟩:=YH.1 (Bg e);have e3:j=j':=oa;subst e3;exact F),λe=>(by have⟨t,m⟩:=Li.1 (YH.2 ⟨j,rfl,hj,e⟩);exact⟨t,(AK.1 m).1,m⟩)⟩));have bp:=QL ns k (D ns);generalize xx ns k (D ns)=l at *;have W:=(d.sc i c hc).2;have S:=d.fine.schemas i c hc;have HC:H (∀(p:Nat) q X w ow,ns[p]?=I q->HG w0 ow0 L (D ns) (D ss) tb rb rc hb zv lv fl X w ow->∃kv,dx w ⟨tb,p*4+1,U⟩=I kv/\(∃a n c,kv=.slice a n c)/\Uh prog 170 #[Ua (I ⟨Q i,0,U⟩),kv] w λx B=>∃lv,x=R (Ue #[lv,C (c.agn q.key).2])/\CG w ow L (c.agn q.key).1 lv B):=λp q X w ow v h=>by
  have aI:=(AK.1 v).1;have⟨⟨_,k1,_,_⟩,kl,_⟩:=d.nd p q v;have ko:=λg N=>d.ob p g aI (.inl N);have⟨a,cc,e⟩:=kl.slice;have tx:AV q.key=G:=by have⟨n',m,F,_⟩:=d.fine.nodes p aI;cases v.symm.trans m;exact F.1
  refine⟨_,h.cell k1 d.ot,⟨_,_,_,e⟩,zhN q.key _ w h.st (h.ps W) tx (h.let kl ko).1 (h.let kl ko).2 (by have:=S.1.2.2.1;omega) S.1.2.2.2 (AM d.tl h.on.size)⟩
 have HV:H (∀X w ow,HG w0 ow0 L (D ns) (D ss) tb rb rc hb zv lv fl X w ow->∀(j:Nat) x,l[j]?=I x->∃g,va=I ⟨g,0,U⟩/\dx w ⟨g,j,U⟩=I (M J x)):=λX w ow h j x hj=>by obtain⟨g,rfl,e⟩:=aK j (M J x) (by rw[yq,Bo,hj];rfl);exact⟨g,rfl,h.cell e (aj g rfl).1⟩
 have aZ:=zd (λkey=>Sc.OL S key);have aX:=zd (λkey=>Sc.OW S.1.2.2.2 key);have ap:=zd h;have HT:=zd d.tl;have Hm:=zd hm;have x0:=h.h0;have x3:=h.cell v3 d.ot;clear h d W S v3 hv aK aj hm hn hc;go_enter func134,ntmps134;go_upto_region 1 with fail;clear x0 x3;go_loopw[21] (λx wr=>∃t:Nat,x=M J t/\t<=D l/\H (∃ow,HG w0 ow0 L (D ns) (D ss) tb rb rc hb zv lv fl (Xk ns c X l t) wr ow)) (λx _=>D l-(intOf x).toNat);exact⟨0,rfl,oa,ow,ap.to (λj y _ _=>⟨.inl,λq=>q.elim id (λ⟨⟨_,q,_⟩,_⟩=>absurd q (Bs _))⟩)⟩;clear ap;obtain⟨t,rfl,ht,HR⟩:=hrel;have⟨o1,o⟩:=zb HR;by_cases aE:t<D l
 .have f:=AE aE;have⟨p,W,aa⟩:=zb Hm l[t] (BO aE);rw[W] at f;obtain⟨g,rfl,cv⟩:=zb HV _ _ _ o t _ f;have v:=AE aa;generalize ns[p]=q at v;obtain⟨kv,ck,⟨ka,kn,kc,rfl⟩,hC⟩:=zb HC p q _ _ _ v o;have an:=zd hC;have y0:=o.h0;have aq:=zd o;have HN:=zd (λj y=>Xk.next (c:=c) (X:=X) f v j y);have ax:=zd o.lt;clear o hC f v W HR;go_upto_region 4 with(go_at_call 170;refine an.mono ?_;rintro e w1 ⟨nv,rfl,ag⟩;have⟨na,nn,nc,a8⟩:=zq ag.choose_spec.2.2.2.2;subst a8;have am:=zd ag;clear ag);have⟨o2,f1,f2,f3,f4,f5⟩:=zb am;have⟨o3,g2⟩:=aq.Sx ⟨o2,f1,f2,f3⟩;have⟨a',c',m,HL⟩:=qh f5;cases m;have aV:=zd HL;have aY:H (∀g,(Value.slice na (c.agn q.key).1.length nc).ownBlock=I g->g≠zv):=λg N e=>(by have:=(zh f5 g N).1;have:=zb ax;omega);have HI:=zd (zb aZ q.key);have bn:=zb aX q.key;have ar:=zd g2;clear f1 f2 f3 f4 f5 HL am an aq ax g2 cv ck y0;generalize (c.agn q.key).1=z at *;generalize (c.agn q.key).2=ex at *;go_upto_region 5 with fail;go_loopw[40] (λx P=>∃u:Nat,x=M J u/\u<=D z/\H (∃ow,HG w0 ow0 L (D ns) (D ss) tb rb rc hb zv lv fl (KI (Xk ns c X l t) p z u) P ow)/\H (zg (λg=>g=zv) w1 P)) (λx _=>D z-(intOf x).toNat);exact⟨0,rfl,oa,⟨_,ar.to (λj y _ _=>KI.zero)⟩,zg.refl _ _⟩;clear ar;obtain⟨u,rfl,hu,HU,HO⟩:=hrel;have⟨o4,s⟩:=zb HU;have y2:=s.h2;by_cases aG:u<D z
  .have f:=AE aG;have⟨a9,aL⟩:=zb HI z[u] (BO aG);obtain⟨y,hy⟩:∃y:Nat,z[u]=(y:Int):=⟨z[u].toNat,oa⟩
   rw[hy] at f aL;have bu:y<8:=oa;obtain⟨gn,rfl,aC⟩:=zb aV u (M J (y:Nat)) (by rw[yq,Bo,f];rfl);have m:=zf HO _ _ aC (λe=>zb aY gn rfl e);obtain⟨⟨b,cb,-⟩,fb⟩:=s.tab.get aa (i:=y) oa;have aT:=zd (s.num HT f oa aa);clear f a9 aL hy aC s HU;go_wp2;exact⟨⟨u+1,Ae,oa,⟨_,aT⟩,HO.setCell (.inl rfl) _⟩,Ad⟩
  obtain rfl:u=D z:=oa;obtain⟨⟨b,cb,-⟩,fb⟩:=s.tab.get aa (i:=11) od;have HE:H ((ex=Z->HG w0 ow0 L (D ns) (D ss) tb rb rc hb zv lv fl (Xk ns c X l (t+1)) wr o4)/\(ex=G->HG w0 ow0 L (D ns) (D ss) tb rb rc hb zv lv fl (Xk ns c X l (t+1)) (wr.setCell ⟨zv,p*12+11,U⟩ (C G)) o4)):=
   ⟨λe=>s.to (λj y _ _=>by rw[KI.all,zb HN j y];exact or_congr Iff.rfl (and_congr_right λ_=>⟨.inl,λq=>q.elim id (λq=>by rw[e] at q;cases q.2)⟩)),λe=>s.set HT aa od (λj y _ _ q=>by rw[KI.all,zb HN j y];exact or_congr Iff.rfl (and_congr_right λej=>⟨.inl,λr=>r.elim id (λr=>absurd ⟨ej,r.1⟩ q)⟩)) ((zb HN p 11).2 (O ⟨rfl,O ⟨rfl,e⟩⟩))⟩
  clear s HU HN;cases ex;all_goals go_wp2_with fail
  .exact⟨⟨t+1,Ae,oa,_,HE.1 rfl⟩,Ad⟩
  exact⟨⟨t+1,Ae,oa,_,HE.2 rfl⟩,Ad⟩
 obtain rfl:t=D l:=oa;have HF:=zd (zb HD _ _ o);clear o HR;go_wp2_with fail
 go_end0
 exact⟨rfl,_,HF⟩
theorem EI {L:List (Nat×Tree)}{ns:Av}{ss:Aw}{tb rb rc hb zv:Nat}{lv:Y}{fl:Ai}{K T V:Nat->Y}{Q:Ak}(F:H0 w0 ow0 L ns ss tb rb K T V Q)(k:Nat)(hk:k<D ns)(w:E)(ow:Ak)(h:HG w0 ow0 L (D ns) (D ss) tb rb rc hb zv lv fl (Tb ns ss k 0) w ow):Uh prog 79 #[Ua (I ⟨hb,0,U⟩),M J (k:Nat)] w λx B=>x=R (Ue #[])/\∃ow',HG w0 ow0 L (D ns) (D ss) tb rb rc hb zv lv fl (Tb ns ss k (D ss)) B ow':=by
 have au:=F.fine.n1;have av:=F.fine.m1;have hn:=AE hk;generalize ns[k]=n at hn;have d:=zd F;have ad:=zd h;have z:=zd hn;have x1:=h.h1;go_enter func79,ntmps79;go_upto_region 1 with fail;go_loopw[11] (λx wr=>∃i:Nat,x=M J i/\i<=D ss/\H (∃ow,HG w0 ow0 L (D ns) (D ss) tb rb rc hb zv lv fl (Tb ns ss k i) wr ow)) (λx _=>D ss-(intOf x).toNat);exact⟨0,rfl,oa,ow,ad⟩;obtain⟨i,rfl,hi,S⟩:=hrel;have⟨o1,a⟩:=zb S;by_cases ai:i<D ss
 .have v:=AE ai;generalize ss[i]=c at v;have cq:=a.cell (d.sc i c v).1 d.or;have W:=a.cell (d.nd k n z).1.1 d.ot;have y0:=a.h0;have y2:=a.h2;have⟨⟨b,cb,af⟩,fb⟩:=a.tab.get hk (i:=i) oa;have hh:=af.trans (Tb.held d.fine hk oa);have X:=λj y=>Bt.iff (j:=j) (y:=y) z v;have m:H (¬(qC ns ss k i/\(n.kind=5\/n.kind=3))->HG w0 ow0 L (D ns) (D ss) tb rb rc hb zv lv fl (Tb ns ss k (i+1)) wr o1):=λq=>a.to (λj y _ _=>by rw[Tb.step,X];exact⟨.inl,λr=>r.elim id (λr=>absurd ⟨r.1,r.2.imp And.left And.left⟩ q)⟩);have p:=zd hh;have o:=zd X;have l:=zd a;have Hc:=zd v;cases b
  .have f:=zd (zb m (λq=>dL (p.2 q.1)));go_wp2;exact⟨⟨i+1,Ae,oa,_,f⟩,Ad⟩
  have u:=p.1 rfl;by_cases g:n.kind=3
  .have N:=zd (EE d k i z Hc wr o1 l);have f:H (∀w ow,HG w0 ow0 L (D ns) (D ss) tb rb rc hb zv lv fl (λj y=>Tb ns ss k i j y\/(j=k/\Sg n c y)) w ow->HG w0 ow0 L (D ns) (D ss) tb rb rc hb zv lv fl (Tb ns ss k (i+1)) w ow):=λw ow h=>h.to (λj y _ _=>by rw[Tb.step,zb o];exact or_congr Iff.rfl ⟨λq=>⟨u,O ⟨g,q⟩⟩,λq=>q.2.elim (λq=>oa) And.right⟩);rw[g] at W;go_wp2_with(go_at_call 133;refine N.mono ?_;rintro e w1 ⟨rfl,o2,t⟩;have P:=zd (zb f _ _ t));exact⟨⟨i+1,Ae,oa,_,P⟩,Ad⟩
  by_cases s:n.kind=5
  .have N:=zd (zhR d k i z Hc wr o1 l);have f:H (∀w ow,HG w0 ow0 L (D ns) (D ss) tb rb rc hb zv lv fl (λj y=>Tb ns ss k i j y\/(kY ns k j=G/\Ch ns c j y)) w ow->HG w0 ow0 L (D ns) (D ss) tb rb rc hb zv lv fl (Tb ns ss k (i+1)) w ow):=λw ow h=>h.to (λj y _ _=>by rw[Tb.step,zb o];exact or_congr Iff.rfl ⟨λq=>⟨u,.inl ⟨s,q⟩⟩,λq=>q.2.elim And.right (λq=>oa)⟩);rw[s] at W;go_wp2_with(go_at_call 134;refine N.mono ?_;rintro e w1 ⟨rfl,o2,t⟩;have P:=zd (zb f _ _ t));exact⟨⟨i+1,Ae,oa,_,P⟩,Ad⟩
  have f:=zd (zb m (λq=>q.2.elim s g));have d3:(n.kind == 3)=Z:=(by simp[g]);have d5:(n.kind == 5)=Z:=(by simp[s]);go_wp2;exact⟨⟨i+1,Ae,oa,_,f⟩,Ad⟩
 obtain rfl:i=D ss:=oa;have HF:=zd a;go_wp2_with fail
 go_end0
 exact⟨rfl,_,HF⟩
theorem Tryz.Rv:(prog.info? 198).map (λi=>(i.zero.map (·.cells),i.size,i.bytes))=I (I (Array.replicate 12 (C Z)),12,12):=om
theorem Mf (a b c d:Bool)(t:Nat)(e:t<4)(w:E):(Instr.index 196 (Uf #[C a,C b,C c,C d]) (M J (t:Nat))).run prog w=.ok (C ([a,b,c,d].getD t Z)) w:=by have h:prog.underlying 196=I (.array 4 4):=underlying196;simp[Instr.index,asIntOf,part];rw[IN e];obtain rfl|rfl|rfl|rfl:t=0\/t=1\/t=2\/t=3:=oa;all_goals rfl
def Bp (k:Nat)(a:Ay):Nat->Ai
 |0=>[]
 |t+1=>Bp k a t++(if a.getD t Z then [((k:Int),(t:Int))] else [])
theorem EP (a b c:Bool):Bp k [Z,a,b,c] 4=Cx k a b c:=by cases a<;>cases b<;>cases c<;>rfl
theorem zdN (k:Nat)(a:Ay):∀t,(Bp k a t).length<=t
 |0=>AD _
 |t+1=>by
  have:=zdN k a t;rw[Bp,AO];split<;>simp<;>omega
section
variable {w0 w F:World} {ow0 ow:Ak} {L:List (Nat×Tree)} {ns:Av} {ss:Aw} {n m tb rb rc hb zv:Nat} {lv N:Value} {fl:Ai} {K T V:Nat->Value} {Q:Ak} {X:Nat->Aj} {k t:Int}
theorem HG.app (h:HG w0 ow0 L n m tb rb rc hb zv lv fl X w ow)(q:11<r (A w0))(d:zg (λg=>dH lv=I g) w F)(l:F.ownsRow (hb+1) 58 2 N (D fl+1) (yD fl++[M J k,M J t]))(i:∀g,dH N=I g->dH lv=I g\/r (A w)<=g):HG w0 ow0 L n m tb rb rc hb zv N (fl++[(k,t)]) X F ow:=by have b:∀g,dH lv=I g->hb<g:=λg a=>(zh h.fr g a).1;have o:=h.lz;have p:=h.ne;have c:∀{j v},dx w ⟨hb,j,U⟩=I v->_:=λf=>zf d _ _ f (λe=>Nat.lt_irrefl _ (b _ e));exact⟨h.st.keep d (λg a=>⟨h.fo g a,by have:=b g a;omega⟩),h.eo,h.oh,h.oz,o,p,c h.h0,c h.h1,c h.h2,BF.keep h.tab d (λe=>by have:=b _ e;omega),AM h.lt d.size,h.on.NY d (λg a e=>by have:=b g e;omega),by rw[AO,ZM];exact l,λg a=>(i g a).elim (h.fo g) (h.st.n g)⟩
theorem HG.made (b:H0 w0 ow0 L ns ss tb rb K T V Q)(F:E)(a:F=(dB w0 (Ub (madeCells (Array.replicate 12 (C Z)) (n*12)) 198)).alloc (Ub #[.slice (I ⟨tb,0,U⟩) n n,.slice (I ⟨rb,0,U⟩) m rc,.slice (I ⟨r (A w0),0,U⟩) n n] 194)):HG w0 ow0 L n m tb rb rc (r (A w0)+1) (r (A w0)) (.slice U 0 0) [] (λ_ _=>False) F ow0:=by
 have l:=(zg.refl (λ_=>False) w0).alloc (Ub (madeCells (Array.replicate 12 (C Z)) (n*12)) 198);have d:=l.alloc (Ub #[.slice (I ⟨tb,0,U⟩) n n,.slice (I ⟨rb,0,U⟩) m rc,.slice (I ⟨r (A w0),0,U⟩) n n] 194);rw[<-a] at d;have c:∀(j:Nat) u,_->dx F ⟨r (A w0)+1,j,U⟩=I u:=λj u h=>a ▸ zj (dB w0 _) _ ov #[.slice (I ⟨tb,0,U⟩) n n,.slice (I ⟨rb,0,U⟩) m rc,.slice (I ⟨r (A w0),0,U⟩) n n] 194 j u h;have o:r (A F)=r (A w0)+2:=by rw[a];simp
 refine⟨b.st.keep d (λ_ f=>f.elim),λ_ _=>rfl,b.st.n _ oa,b.st.n _ (AD _),AD _,oa,c 0 _ rfl,c 1 _ rfl,c 2 _ rfl,λx k=>?_,oa,d.mono (λ_ _ f=>f.elim),A0 _ _ _ _,λg e=>by simp[dH] at e⟩;have e:=K6 (Array.replicate 12 (C Z)) n (x / 12) (x % 12) (Mz (by rw[Nat.mul_comm];exact k)) ou;simp only[Array.size_replicate,Array.getElem_replicate,Nat.div_add_mod'] at e;have i:zke (dB w0 (Ub (madeCells (Array.replicate 12 (C Z)) (n*12)) 198)) F:=a ▸ Ag;exact⟨⟨Z,zf i _ _ (zj w0 _ rfl _ _ x _ e) id,⟨λh=>dL h,False.elim⟩⟩,zp i _ ov (zt w0 _ rfl _ _ x) id⟩
end
theorem zhS {L:List (Nat×Tree)}{ns:Av}{ss:Aw}{tb rb rc:Nat}{K T V:Nat->Y}{Q:Ak}(o:H0 w0 ow0 L ns ss tb rb K T V Q):Uh prog 39 #[.slice (I ⟨tb,0,U⟩) (D ns) (D ns),.slice (I ⟨rb,0,U⟩) (D ss) rc] w0 λx B=>∃v,x=R v/\B.ownsRow (dg (A w0)) 58 2 v (yO ns ss (D ns)).length (yD (yO ns ss (D ns)))/\zg (λg=>ow0 g≠0) w0 B:=by
 have⟨i0,aI,aP,aQ,aR⟩:=info_parts Tryz.OH;have aY:=o.fine.n1;have hp:=o.fine.n0;have aO:=Qc 192 198 _ 12 12 underlying192 Tryz.Rv (D ns) oa oa;have w:=zd o;have s:=HG.made (n:=D ns) (m:=D ss) (rc:=rc) o _ rfl;have ae:H (HG w0 ow0 L (D ns) (D ss) tb rb rc (dg (A w0)+1) (dg (A w0)) (.slice U 0 0) (yO ns ss 0) (Tb ns ss 0 0) (World.setCell _ ⟨dg (A w0),0,U⟩ (C G)) ow0):=(s.set (X':=λj y=>j=0/\y=0) o.tl hp (y:=0) od (λj y _ _ q=>⟨False.elim,q⟩) ⟨rfl,rfl⟩).to (λ_ _ _ _=>Tb.start);obtain⟨⟨b,q0,-⟩,qf⟩:=s.tab.get hp (i:=0) od;simp only[FV,BD] at q0 qf;have x2:=s.h2;clear o s;go_enter func39,ntmps39;go_upto_region 2 with fail;generalize (dB w0 (Ub (madeCells (Array.replicate 12 (C Z)) (D ns*12)) 198)).alloc (Ub #[.slice (I ⟨tb,0,U⟩) (D ns) (D ns),.slice (I ⟨rb,0,U⟩) (D ss) rc,.slice (I ⟨dg (A w0),0,U⟩) (D ns) (D ns)] 194)=W at *;go_upto_region 5 with fail;clear q0 qf aO x2;go_loopw[6,26] (λv x wr=>∃k:Nat,x=M J k/\k<=D ns/\H (∃ow,HG w0 ow0 L (D ns) (D ss) tb rb rc (dg (A w0)+1) (dg (A w0)) v (yO ns ss k) (Tb ns ss k 0) wr ow)) (λ_ x _=>D ns-(intOf x).toNat);exact⟨0,rfl,oa,_,ae⟩;clear ae;obtain⟨k,rfl,hi,X⟩:=hrel;have⟨o1,h⟩:=zb X;obtain⟨va,vn,vc,rfl⟩:=zq h.fr;by_cases p:k<D ns
 .have HC:=zd (EI w k p wr o1 h);clear h X;go_upto_region 8 with(go_at_call 79;refine HC.mono ?_;rintro e w1 ⟨rfl,o2,g2⟩;have f:=zd g2;clear g2);have y2:=f.h2;obtain⟨⟨b0,c8,e8⟩,-⟩:=f.tab.get p (i:=8) od;obtain⟨⟨a,c9,e9⟩,-⟩:=f.tab.get p (i:=9) od;obtain⟨⟨c,aC,ag⟩,-⟩:=f.tab.get p (i:=10) od;obtain⟨⟨d,aD,ah⟩,-⟩:=f.tab.get p (i:=11) od;have⟨t1,t2,t3,t4⟩:=Tb.ends w.fine p;obtain rfl:b0=Z:=(by cases b0;rfl;exact absurd (e8.1 rfl) t4);have HS:H (yO ns ss (k+1)=yO ns ss k++Bp k [Z,a,c,d] 4):=(by rw[EP];exact Jv (e9.trans t1) (ag.trans t2) (ah.trans t3));clear e8 e9 ag ah t1 t2 t3 t4 HC;go_upto_region 9 with fail;clear y2 c8 c9 aC aD;go_loopw[6,40] (λv x P=>∃t:Nat,x=M J t/\t<=4/\H (∃ow,HG w0 ow0 L (D ns) (D ss) tb rb rc (dg (A w0)+1) (dg (A w0)) v (yO ns ss k++Bp k [Z,a,c,d] t) (Tb ns ss k (D ss)) P ow)) (λ_ x _=>4-(intOf x).toNat);exact⟨0,rfl,oa,_,by rw[Bp,BW];exact zb f⟩;clear f;obtain⟨t,rfl,ht,HU⟩:=hrel;have⟨o3,l⟩:=zb HU;obtain⟨ua,un,uc,rfl⟩:=zq l.fr;have F:=zd l;by_cases aN:t<4
  .have hx:=Mf Z a c d t aN;have u:Bp k [Z,a,c,d] (t+1)=Bp k [Z,a,c,d] t++(if [Z,a,c,d].getD t Z then [((k:Int),(t:Int))] else []):=rfl;have aK:=ZC (ns:=ns) (ss:=ss) k;have aL:=zdN k [Z,a,c,d] t;have hl:(yO ns ss k++Bp k [Z,a,c,d] t).length<=200:=(by rw[AO];omega);generalize [Z,a,c,d].getD t Z=b at *;clear l HU aK aL;cases b
   .have S:H (Bp k [Z,a,c,d] (t+1)=Bp k [Z,a,c,d] t):=(by show _=_;rw[u];simp);clear u;go_wp2;exact⟨⟨t+1,Ae,oa,_,by rw[zb S];exact zb F⟩,Ad⟩
   have S:H (yO ns ss k++Bp k [Z,a,c,d] (t+1)=(yO ns ss k++Bp k [Z,a,c,d] t)++[((k:Int),(t:Int))]):=(by show _=_;rw[u];simp);clear u;go_wp2_with(at_builtin;refine zb ?_);refine zd ?_;have r:=zb F;have z3:dg (A w0)+1<dg (A wr):=zic wr _ r.h0;refine yz _ rfl _ _ 56 rfl (dg (A w0)+1+1) 58 i0 (Uf #[M J 0,M J 0]) 2 16 underlying56 aI aP aQ aR rfl od (.slice ua un uc) _ _ rfl (AZ r.fr _) _ 1 1 [M J k,M J t] rfl rfl (cell_two_new _ _ _ _) (λx hx=>by simp at hx;obtain rfl|rfl:=hx<;>rfl) Ac oa ou ?_;intro N w3 ab al ao;have am:zg (λg=>(Value.slice ua un uc).ownBlock=I g) wr w3:=Ag.grown al (λj hj=>.inl hj);have HE:=zd (r.app w.tl am ab (λg hg=>(ao g hg).imp_right (λe=>by simp at e;omega)));obtain⟨ya,yn,yc,rfl⟩:=zq ab;clear ab al ao am r;go_wp2;exact⟨⟨t+1,Ae,oa,_,by rw[zb S];exact zb HE⟩,Ad⟩
  obtain rfl:t=4:=oa;rw[<-zb HS] at l;have z:=zd (l.to (λ_ _ _ _=>Tb.row));clear l HU F;go_wp2;exact⟨⟨k+1,Ae,oa,_,z⟩,Ad⟩
 obtain rfl:k=D ns:=oa;have z:=zd (Ur (zL h.fr (show dg (A w0)<=dg (A w0)+1+1 by omega)) h.on);clear h X;go_wp2;go_ret;exact⟨_,rfl,z⟩
theorem H0.of {tb rb rc:Nat}{ns:Av}{ss:Aw}{K T V:Nat->Y}{l:Ao}{L:List (Nat×Tree)}{oo:Ak}(o:DT w1 tb ns (D ns) (D ns) K T V)(h:SR w1 ss (.slice (I ⟨rb,0,U⟩) (D ss) rc) l F L oo)(s:D l=D ss)(v:TE ns ss)(B:11<dg (A F)):H0 F oo L ns ss tb rb K T V (λi=>l.getD i 0):=by
 have z:=h.on.size;have lt:∀{k n},ns[k]?=I n->k<D ns:=λe=>(AK.1 e).1;have d:=o.keep h.on;refine⟨v,h.st,λk n b=>⟨⟨?_,d.c1 k (lt b),d.c2 k (lt b),d.c3 k (lt b)⟩,(d.l k n (lt b) b).1.1,(d.l k n (lt b) b).2.1⟩,λk j=>d.v k j,λk g j w=>?_,h.lo tb o.lt,h.ob rb rfl,λi c r=>?_,B⟩;have⟨z,m,p⟩:=d.c0 k (lt b);rw[m,p n (lt b) b]
 .have x:g<dg (A w1):=by have:=o.l k _ j (AE j);obtain e|e|e:=w;exact(this.1.2 g e).2;exact(this.2.2 g e).2;exact(zh (o.v k j) g e).2
  exact⟨h.lo g x,oa⟩
 have y:i<D l:=by rw[s];exact(AK.1 r).1
 have q:=AE y;have⟨a,N,m,p⟩:=qh h.row;have⟨g,t,u⟩:=p i (Ua (I ⟨l[i],0,U⟩)) (by rw[Bw,Bo,q];rfl);subst t;rw[s] at m;cases m;simp only[B7,q,Option.getD_some];exact⟨u,(h.ps i c _ r q).keep (zg.refl (λ_=>False) _) (λ_ f=>f.elim) (λg _ e=>(kD.1 e).2)⟩
theorem zhT (ns:Av)(ss:Aw)(nv sv:Y)(w:E)(a:Nat->Addr)(S:Start w a)(hT:Tx w)(hN:Zf w nv ns)(ax:∀a n c,nv=.slice a n c->n<=c)(hM:Zg w sv ss)(X:D ns<4611686018427387904)(W:D ss<4611686018427387904):Uh prog 17 #[nv,sv] w (T5 ns ss w):=by
 have HD:=zd (zhK ns nv w a S hN ax X);have ad:H (∀V,zke w V->_):=λV k=>zhQ ss sv V a (S.keep k) (hT.keep k id) (hM.keep k) W;have HS:=zd S;have aH:=hT.lt;obtain⟨na,nc,rfl,_⟩:=hN;obtain⟨sa,sc,rfl,_⟩:=hM;go_enter func17,ntmps17;by_cases l:0<D ns/\(D ns)<=40/\∀j,j<D ns->xM ns j
 .by_cases t:0<D ss/\(D ss)<=8/\∀(j:Nat) d,ss[j]?=I d->d.OK j (D ss)
  .have hF:TE ns ss:=⟨l.1,l.2.1,l.2.2,t.1,t.2.1,t.2.2⟩
   ((have ag:=zd l;have ah:=zd t;have HF:=zd hF;have dN:∀{p},QM ns p->False:=λh=>by have⟨i,u,m⟩:=zb ag;obtain h|h|⟨_,_,k,o,_,q,_⟩:=h;omega;omega;exact q (m k o));have dS:∀{p},TV ss p->False:=λh=>by have⟨i,u,m⟩:=zb ah;obtain h|h|⟨_,_,k,c,o,_,q,_⟩:=h;omega;omega;exact q (m k c o));have ae:=zd (λp=>@dN p);have aE:=zd (λp=>@dS p);go_wp2_with(first|(go_at_call 37;refine HD.mono ?_;rintro e w1 ⟨b,⟨v,p,_,_,no⟩|⟨_,tb,K,T,V,ht,rfl,P⟩⟩;exact(zb ae _ no).elim;have aA:=zd P)|(go_at_call 38;refine(zb ad _ b).mono ?_;rintro e F ⟨x,⟨v,p,_,_,no⟩|⟨_,rb,rc,qs,L,oo,rfl,hl,hR⟩⟩;exact(zb aE _ no).elim;have aC:=zd hR;have HH:=zd (H0.of aA hR hl HF (by have:=b.size;have:=x.size;omega)))|(go_at_call 39;refine(zhS HH).mono ?_;rintro e w3 ⟨v,rfl,s,N⟩;obtain⟨va,vn,vc,rfl⟩:=zq s;have HV:=zd s));go_ret3;have z1:=b.size;have z2:=x.size;exact⟨(b.trans x).N2 N (λg hg=>Nat.le_of_not_lt λe=>hg (aC.lo g oa)),O ⟨HF,_,rfl,zL HV oa⟩⟩
  have HE:H (∀B p,TV ss p->zke w B->T5 ns ss w (R (Ue #[.slice U 0 0,M J 11,M J p])) B):=λB p h k=>⟨k,.inl ⟨_,_,O (O (O ⟨l,h.imp (λh=>⟨h.1,rfl,h.2⟩) (λh=>h.imp (λh=>⟨h.1,rfl,h.2⟩) (λ⟨i,u,k,c,m,o,q,h6⟩=>⟨i,u,k,c,m,o,q,rfl,h6⟩))⟩)),rfl⟩⟩
  (have ae:H (∀p,QM ns p->False):=λp h=>by have⟨i,u,m⟩:=l;obtain h|h|⟨_,_,k,o,_,q,_⟩:=h;omega;omega;exact q (m k o));have ah:=zd t;go_wp2_with(first|(go_at_call 37;refine HD.mono ?_;rintro e w1 ⟨b,⟨v,p,_,_,no⟩|⟨_,tb,K,T,V,ht,rfl,P⟩⟩;exact(zb ae _ no).elim)|(go_at_call 38;refine(zb ad _ b).mono ?_;rintro e F ⟨x,⟨v,p,rfl,s,z⟩|⟨yes,_⟩⟩;rotate_left;exact absurd yes ah;have r:=zd (HS.keep (b.trans x));obtain⟨g,hg,rfl,y,f1⟩:=s;have h0:=zd y;have i:=zd f1;have af:=zd z)|(go_at_call 30;refine AL (KD g 10 a _ r.sents r.rows (O rfl) h0) ?_)|(go_at_call 31;refine(Zd g p _ r.et i).mono ?_;rintro e w3 ⟨rfl,N⟩));go_ret3;exact zb HE _ _ af ((b.trans x).trans N)
 have HE:H (∀B p,QM ns p->zke w B->T5 ns ss w (R (Ue #[.slice U 0 0,M J 10,M J p])) B):=λB p h k=>⟨k,.inl ⟨_,_,h.imp (λh=>⟨h.1,rfl,h.2⟩) (λh=>h.imp (λh=>⟨h.1,rfl,h.2⟩) (λ⟨i,u,k,m,o,q,h6⟩=>.inl ⟨i,u,k,m,o,q,rfl,h6⟩)),rfl⟩⟩
 have ag:=zd l;go_wp2_with(first|(go_at_call 37;refine HD.mono ?_;rintro e w1 ⟨b,⟨v,p,rfl,s,z⟩|⟨yes,_⟩⟩;rotate_left;exact absurd yes ag;have r:=zd (HS.keep b);obtain⟨g,hg,rfl,y,f1⟩:=s;have h0:=zd y;have i:=zd f1;have af:=zd z)|(go_at_call 30;refine AL (KD g 9 a _ r.sents r.rows (.inl rfl) h0) ?_)|(go_at_call 31;refine(Zd g p _ r.et i).mono ?_;rintro e w3 ⟨rfl,N⟩));go_ret3;exact zb HE _ _ af (b.trans N)
def Rows (w:E)(d:Aj)(v:Y)(z:Nat)(F:Nat->Y):Prop:=∃a n c,v=.slice a n c/\n<4611686018427387904/\∀i,i<n->∃g b m e,a=I ⟨g,0,U⟩/\d g/\dx w ⟨g,i,U⟩=I (.slice b m e)/\m<4611686018427387904/\∀k,k<m->∃h,b=I ⟨h,0,U⟩/\d h/\∀j,j<z->dx w ⟨h,k*z+j,U⟩=I (F j)
def Cg (j:Nat):Y:=match j with|0=>M J (-7)|1=>M J 0|_=>Uc ⟨#[]⟩
def A3 (j:Nat):Y:=match j with|0=>C Z|1=>Uc ⟨#[]⟩|2=>M J 0|5=>M J (-7)|_=>.slice U 0 0
def Lu:Al:=⟨#[116,117,114,110,101,100]⟩

def setL (g:Nat):E->Nat->An->E
 |w,_,[]=>w
 |w,o,v :: r=>setL g (w.setCell ⟨g,o,U⟩ v) (o+1) r
theorem Z8 {g:Nat}:∀{w:E} {o:Nat} (vs:An),zg (λx=>x=g) w (setL g w o vs)
 |_w,_,[]=>zg.refl _ _
 |w,o,v :: r=>((zg.refl (λx=>x=g) w).setCell (p:=⟨g,o,U⟩) (.inl rfl) v).NY (Z8 r) (λ_ _ e=>e)
theorem Jw {g q:Nat}:∀{w:E} {o:Nat} (vs:An),(setL g w o vs).frozen? ⟨g,q,U⟩=dz w ⟨g,q,U⟩
 |_w,_,[]=>rfl
 |_w,_o,_v :: r=>(Jw r).trans (zl _ _ _ _)
theorem jo {g q:Nat}:∀{w:E} {o:Nat} (vs:An),q<o\/o+D vs<=q->(setL g w o vs).cell? ⟨g,q,U⟩=d w ⟨g,q,U⟩
 |w,_,[],_=>rfl
 |w,o,v :: r,h=>(jo r (by simp at h;omega)).trans (AN _ _ _ _ (by intro e;have:=congrArg Addr.off e;simp at this h;omega))
theorem Jx {g:Nat}:∀{w:E} {o:Nat} (vs:An),(∀j,j<D vs->∃u,d w ⟨g,o+j,U⟩=I u)->∀(j:Nat) v,vs[j]?=I v->(setL g w o vs).cell? ⟨g,o+j,U⟩=I v
 |w,o,[],_,j,v,e=>by simp at e
 |w,o,u :: r,h,0,v,e=>by
  cases e;have⟨y,a⟩:=h 0 ov;exact(jo r (.inl oa)).trans (AX _ _ _ a)
 |w,o,u :: r,h,j+1,v,e=>by
  have b:∀j,o+1+j=o+(j+1):=λj=>oa;have:=Jx (g:=g) (w:=dC w ⟨g,o,U⟩ u) (o:=o+1) r (λj c=>by
   have⟨y,a⟩:=h (j+1) (by simpa using c);exact⟨y,by rw[b,AN _ _ _ _ (by intro e;have:=congrArg Addr.off e;simp at this)];exact a⟩) j v e
  rwa [b] at this
theorem qN.at' {a:Ap}{n c:Nat}{js:Ar}(h:qN w (λ_=>True) (.slice a n c) js):n=D js/\∀(j:Nat) x,js[j]?=I x->∃g o,a=I ⟨g,o,U⟩/\dx w ⟨g,o+j,U⟩=I (M J x):=by obtain⟨rfl,_,_,e⟩|⟨g,o,d,e,_,h⟩:=h;cases e;exact⟨rfl,λj x b=>by simp at b⟩;cases e;exact⟨rfl,λj x b=>⟨g,o,rfl,h j x b⟩⟩
theorem XC.at' {a:Ap}{n c:Nat}{js:List Al}(h:XC w (.slice a n c) js):n=D js/\∀(j:Nat) x,js[j]?=I x->∃g o,a=I ⟨g,o,U⟩/\dx w ⟨g,o+j,U⟩=I (Uc x):=by obtain⟨rfl,_,_,e⟩|⟨g,o,d,e,_,h⟩:=h;cases e;exact⟨rfl,λj x b=>by simp at b⟩;cases e;exact⟨rfl,λj x b=>⟨g,o,rfl,h j x b⟩⟩
theorem zaN {aa ba:Ap}{ac bc:Nat}{js:Ar}(d:qN w (λ_=>True) (.slice aa (D js) ac) js)(hb:qN w (λ_=>True) (.slice ba (D js) bc) js)(m:D js<4611686018427387904):Uh prog 25 #[.slice aa (D js) ac,.slice ba (D js) bc] w λe B=>e=R (C G)/\zke w B:=by
 have b:=zd d.at'.2;have c:=zd hb.at'.2;go_enter func25,ntmps25;go_wp2;go_loopw[5] (λk wr=>∃n:Nat,k=M J n/\n<=D js/\H (zke w wr)) (λk _=>D js-(intOf k).toNat);exact⟨0,rfl,oa,zg.refl _ _⟩;obtain⟨n,rfl,o,a⟩:=hrel;by_cases g:n<D js
 .obtain⟨j,p,rfl,h⟩:=zb b n js[n] (AE g);obtain⟨l,q,rfl,i⟩:=zb c n js[n] (AE g);have r:=zf a _ _ h id;have s:=zf a _ _ i id;generalize js[n]=x at *;go_wp2;go_region;go_wp2;exact⟨⟨n+1,Ae,oa,a.drew⟩,Ad⟩
 go_wp2;go_ret;exact⟨rfl,a⟩
theorem Ge {s:Sc}{w:E}{q r v y:Ap}{kc t z F:Nat}(h:Uz w s q kc v z)(o:Uz w s r t y F)(hk:D s.keys<4611686018427387904)(T:D s.subs<4611686018427387904):Uh prog 44 #[s.val q kc v z,s.val r t y F] w λe B=>e=R (C G)/\zke w B:=by
 have l:H (∀V,zke w V->_):=λV k=>zaN (h.keep k).s (o.keep k).s T;have g:=zd h.k.at'.2;have i:=zd o.k.at'.2;unfold Sc.val;go_enter func44,ntmps44;go_upto_region 2 with(go_at_call 25;refine(zb l _ (Ag.alloc _)).mono ?_;rintro e w1 ⟨rfl,P⟩;have d:=zd P);have c:=λ(j:Nat) u p=>zf d _ _ (zf ((zg.refl (λ_=>False) _).alloc _) _ _ (zj w _ rfl #[C s.hp,Uc s.pat,M J s.fmt,.slice q (D s.keys) kc,.slice v (D s.subs) z,M J s.more] 63 j u p) id) id;have a:=λ(j:Nat) u p=>zf d _ _ (zj (dB w _) (dg (A w)+1) ov #[C s.hp,Uc s.pat,M J s.fmt,.slice r (D s.keys) t,.slice y (D s.subs) F,M J s.more] 63 j u p) id;have a0:=c 0 _ rfl;have a1:=c 1 _ rfl;have a2:=c 2 _ rfl;have L:=c 3 _ rfl;have a5:=c 5 _ rfl;have b0:=a 0 _ rfl;have b1:=a 1 _ rfl;have b2:=a 2 _ rfl;have N:=a 3 _ rfl;have b5:=a 5 _ rfl;have HW:=zd ((((zg.refl (λ_=>False) w).alloc _).alloc _).trans d);go_upto_region 5 with fail;go_loopw[6] (λk wr=>∃n:Nat,k=M J n/\n<=D s.keys/\H (zke w1 wr)) (λk _=>D s.keys-(intOf k).toNat);exact⟨0,rfl,oa,zg.refl _ _⟩;obtain⟨n,rfl,hn,b⟩:=hrel;have e3:=zf b _ _ L id;have f3:=zf b _ _ N id;have m:=zd (HW.trans b);by_cases S:n<D s.keys
 .obtain⟨g1,o1,rfl,W⟩:=zb g n s.keys[n] (AE S);obtain⟨g2,o2,rfl,X⟩:=zb i n s.keys[n] (AE S);have z1:=zf m _ _ W id;have z2:=zf m _ _ X id;generalize s.keys[n]=x at *;go_wp2;go_region;go_wp2;exact⟨⟨n+1,Ae,oa,b.drew⟩,Ad⟩
 go_wp2;go_ret;exact⟨rfl,m⟩
def Bh:Sc:=⟨Z,⟨#[]⟩,0,[],[],0⟩
def A2 (B n:Ak)(i:Nat):An:=(List.range i).map (λj=>.slice (I ⟨B j,0,U⟩) (n j) (n j))
theorem Wu (B n:Ak)(i:Nat):A2 B n (i+1)=A2 B n i++[.slice (I ⟨B i,0,U⟩) (n i) (n i)]:=by rw[A2,List.range_succ,CX];rfl
def nT (ss:Aw)(i:Nat):Nat:=(ss.getD i Bh).subs.length+1
def nK (ss:Aw)(i:Nat):Nat:=(ss.getD i Bh).keys.length+1
section
variable {w1 wr P:World} {ow:Ak} {ss:Aw} {wb it ik i k:Nat} {KB TB:Ak} {PT x:Nat->Aj} {tv kv N:Value}
end
theorem Ht (wb:Nat)(l:Int)(w:E)(c:d w ⟨wb,10,U⟩=I (M J l))(f:dz w ⟨wb,10,U⟩=Z):Uh prog 45 #[Ua (I ⟨wb,0,U⟩)] w λe B=>∃m,e=R (M J m)/\B=dC w ⟨wb,10,U⟩ (M J m):=by go_enter func45,ntmps45;go_wp2;go_ret;exact⟨_,rfl,rfl⟩
section
variable {w1 wr P:World} {xv fv mv lw N:Value} {wb n a b c:Nat} {m:Int}
end
theorem zge {base n z:Nat}{e:TypeId}{a:Ap}{c:Nat}{xs:An}(h:dA w base e z (.slice a n c) n xs)(s:0<n):∃g,a=I ⟨g,0,U⟩/\∀(j:Nat) u,xs[j]?=I u->dx w ⟨g,j,U⟩=I u:=by
 obtain⟨b,o⟩|⟨g,m,d,b,p,f,t,q,r,l⟩:=h.2;omega;cases b;refine⟨g,rfl,λj u i=>?_⟩;have b:(d.toList.take (n*z))[j]?=I u:=by rw[l];exact i
 have k:=(AK.1 b).1;rw[FI] at k;rw[MF oa] at b;unfold dx;rw[f];simpa using b
theorem NO (off i:Nat):(⟨g,off,U⟩:Addr).add i=⟨g,off+i,U⟩:=by unfold Addr.add;split<;>simp_all
theorem zhU (w:E)(n sT ty f:TypeId)(z g d u:Nat)(m:Ap)(b aa:Nat)(c:Array Y)(t:TypeId)(a:An)(s:prog.underlying n=I (.slice f))(p:(prog.info? f).map (·.size)=I z)(L:w.heap[g]?=I (Ub c t (0,0)))(X:D a=b*z)(W:b<=d)(q:∀(j:Nat) v,a[j]?=I v->∃l so,m=I ⟨l,so,U⟩/\dx w ⟨l,so+j,U⟩=I v)(F:D a<=c.size)(y:∀v∈a,v.oneCell'=G):(Builtin.copy_ #[n,sT] ty #[.slice (I ⟨g,0,U⟩) d u,.slice m b aa]).run prog w=.ok (goInt b) (w.setRow g (a++c.toList.drop (D a)).toArray):=by
 have h:=run_storeCells_at prog g 0 t a 0 c w L (by simpa using F) y;simp only[BD,Bv,List.take_zero,Cd] at h;cases hq:prog.info? f with
 |none=>simp[hq] at p
 |some i=>
  have N:i.size=z:=by simpa [hq] using p
  have o:Nat.min b d=b:=Nat.min_eq_left W;have T:∀(x:Addr),(∀(j:Nat) v,a[j]?=I v->dx w (x.add j)=I v)->(loadCells x (b*z)).run prog w=.ok a.toArray w:=λx k=>X ▸ run_loadCells_list (P:=prog) w x a k;cases m with
  |none=>
   have:a=[]:=by
    cases a with
    |nil=>rfl
    |cons v r=>have⟨_,_,e,_⟩:=q 0 v rfl;cases e
   subst this;simp[Builtin.copy_,run_underlying s,Builtin.lenOf,Builtin.firstCells,sizeOf,typeInfo,hq,o,h]
  |some x=>
   have k:=T x (λj v S=>by
    have⟨l,so,e,B⟩:=q j v S;cases e;rw[NO];exact B)
   simp[Builtin.copy_,run_underlying s,Builtin.lenOf,Builtin.firstCells,sizeOf,typeInfo,hq,N,o,k,h]
theorem Ib (w:E)(f sT ty h:TypeId)(z g e n:Nat)(m:Ap)(d o:Nat)(b:Array Y)(t:TypeId)(a:An)(P:prog.underlying f=I (.slice h))(L:(prog.info? h).map (·.size)=I z)(i:w.heap[g]?=I (Ub b t (0,0)))(F:D a=d*z)(y:d<=e)(N:∀(j:Nat) v,a[j]?=I v->∃p so,m=I ⟨p,so,U⟩/\dx w ⟨p,so+j,U⟩=I v)(r:D a<=b.size)(q:∀v∈a,v.oneCell'=G):∃B,(Builtin.copy_ #[f,sT] ty #[.slice (I ⟨g,0,U⟩) e n,.slice m d o]).run prog w=.ok (goInt d) B/\zg (λx=>x=g) w B/\(∀(j:Nat) u,a[j]?=I u->dx B ⟨g,j,U⟩=I u)/\(∀j,D a<=j->dx B ⟨g,j,U⟩=dx w ⟨g,j,U⟩)/\∀j,dz B ⟨g,j,U⟩=Z:=by have l:=setRow_heap w g b (a++b.toList.drop (D a)).toArray t (0,0) i;refine⟨_,zhU w f sT ty h z g e n m d o b t a P L i F y N r q,⟨rfl,rfl,rfl,by simp[World.setRow],λk _ s=>setRow_other w g k _ s⟩,λj u c=>?_,λj c=>?_,λj=>?_⟩;have:=(AK.1 c).1;unfold dx;rw[l];simp[List.getElem?_append_left this,c];unfold dx;rw[l,i];simp[List.getElem?_append_right c,List.getElem?_drop,Nat.add_sub_cancel' c];unfold dz;rw[l];simp
theorem Ec (W:World)(T E ty:TypeId)(b:Y)(xs:An)(n:Nat)(L:D xs=n)(d:Ap)(k:Nat)(w:prog.underlying T=I (.slice E))(s:(prog.info? E).map (·.size)=I 1)(t:∀(j:Nat) v,xs[j]?=I v->∃c so,d=I ⟨c,so,U⟩/\dx W ⟨c,so+j,U⟩=I v)(p:∀v∈xs,v.oneCell'=G):∃a,(Builtin.copy_ #[T,T] ty #[.slice (I ⟨dg (A W),0,U⟩) (n+1) (n+1),.slice d n k]).run prog (dB W (Ub (madeCells #[b] (n+1)) E))=.ok (goInt n) a/\zke W a/\(∀(j:Nat) u,xs[j]?=I u->dx a ⟨dg (A W),j,U⟩=I u)/\dx a ⟨dg (A W),n,U⟩=I b/\(∀j,dz a ⟨dg (A W),j,U⟩=Z)/\dg (A W)<dg (A a):=by
 have i:zke W (dB W (Ub (madeCells #[b] (n+1)) E)):=Ag;have x:(madeCells #[b] (n+1))[n]?=I b:=by unfold madeCells;rw[Array.getElem?_map,Array.getElem?_range,IN oa];simp[Nat.mod_one]
 have q:=zj W _ rfl _ E n b x;have⟨a,o,y,z,B,F⟩:=Ib (dB W (Ub (madeCells #[b] (n+1)) E)) T T ty E 1 (dg (A W)) (n+1) (n+1) d n k _ _ xs w s Lj oa oa (λj v r=>by
  have⟨c,so,l,m⟩:=t j v r;exact⟨c,so,l,zf i _ _ m id⟩) (by unfold madeCells;simp;omega) p
 have h:=(B n oa).trans q;exact⟨a,o,i.N2 y (λg e=>oa),z,h,F,zic _ _ h⟩
def Iw (f:Ak)(i x:Nat):Ak:=λj=>if j=i then x else f j
theorem YJ (f:Ak)(i x:Nat):Iw f i x i=x:=IN rfl
theorem wJ {f:Ak}{i x j:Nat}(h:j≠i):Iw f i x j=f j:=iN h
theorem zgf (B n:Ak)(i x:Nat):A2 (Iw B i x) n (i+1)=A2 B n i++[.slice (I ⟨x,0,U⟩) (n i) (n i)]:=by rw[Wu,YJ];congr 1;refine List.map_congr_left (λj a=>?_);rw[wJ (by have:=Ik.1 a;omega)]
structure GB (wl w:E)(ow:Ak)(ss:Aw)(t:Nat)(kv tv:Y)(KB TB:Ak):Prop where
 on:zke wl w
 s:∀(i:Nat) c,i<t->ss[i]?=I c->∀(j:Nat) u,(c.cells (I ⟨KB i,0,U⟩) (D c.keys+1) (I ⟨TB i,0,U⟩) (D c.subs+1))[j]?=I u->d w ⟨r (A wl),i*6+j,U⟩=I u
 z:∀(i j:Nat) u,t<=i->i<=D ss->(Bh.cells U 0 U 0)[j]?=I u->d w ⟨r (A wl),i*6+j,U⟩=I u
 fs:∀j,dz w ⟨r (A wl),j,U⟩=Z
 k:∀(i:Nat) c,i<t->ss[i]?=I c->(∀(j:Nat) x,c.keys[j]?=I x->d w ⟨KB i,j,U⟩=I (Uc x))/\d w ⟨KB i,D c.keys,U⟩=I (Uc ⟨#[]⟩)
 n:∀(i:Nat) c,i<t->ss[i]?=I c->(∀(j:Nat) x,c.subs[j]?=I x->d w ⟨TB i,j,U⟩=I (M J x))/\d w ⟨TB i,D c.subs,U⟩=I (M J 0)
 f:∀i j,i<t->dz w ⟨KB i,j,U⟩=Z/\dz w ⟨TB i,j,U⟩=Z
 rk:dA w (r (A wl)+1) 59 1 kv t (A2 KB (nK ss) t)
 rt:dA w (r (A wl)+1) 29 1 tv t (A2 TB (nT ss) t)
 ds:∀g,o kv=I g->o tv≠I g
 ro:∀g,o kv=I g\/o tv=I g->ow g=0
 os:ow (r (A wl))=2
 ok:∀i,i<t->ow (KB i)=2*i+4/\ow (TB i)=2*i+5
 oz:∀g,g<r (A wl)\/r (A w)<=g->ow g=0
theorem GB.start (a:E)(ss:Aw):GB a (dB a (Ub (madeCells #[C Z,Uc ⟨#[]⟩,M J 0,.slice U 0 0,.slice U 0 0,M J 0] ((D ss+1)*6)) 63)) (λg=>if g=r (A a) then 2 else 0) ss 0 (.slice U 0 0) (.slice U 0 0) (λ_=>0) (λ_=>0):=by refine⟨Ag,λ_ _ h=>absurd h (Bs _),λi j u _ d c=>?_,λj=>zt a _ rfl _ _ j,λ_ _ h=>absurd h (Bs _),λ_ _ h=>absurd h (Bs _),λ_ _ h=>absurd h (Bs _),A0 _ _ _ _,A0 _ _ _ _,λg e=>by simp[o] at e,λg e=>by simp[o] at e,IN rfl,λ_ h=>absurd h (Bs _),λg e=>iN (λq=>by rw[yj] at e;omega)⟩;obtain⟨b,rfl⟩:=AK.1 c;exact zj a _ rfl _ _ _ _ (K6 #[C Z,Uc ⟨#[]⟩,M J 0,.slice U 0 0,.slice U 0 0,M J 0] (D ss+1) i j oa b)
theorem GI (T E:TypeId)(a:prog.elem T=E)(c:prog.underlying T=I (.slice E))(b:∀W,∃s,(sizeOf E).run prog W=.ok s W)(g n:Nat)(W:World):(Instr.slice T (.slice (I ⟨g,0,U⟩) (n+1) (n+1)) U (I (M J (n:Nat))) U).run prog W=.ok (.slice (I ⟨g,0,U⟩) n (n+1)) W:=by rw[run_slice_h W T _ _ _ (by rw[a];exact c) J _ oa oa,a];have⟨s,e⟩:=b W;simp[go_sem,sliced,e]
theorem GB.step {l wr W:E}{ow:Ak}{ss:Aw}{i:Nat}{kv tv N y:Y}{KB TB:Ak}{c:Sc}{m tb:Nat}(h:GB l wr ow ss i kv tv KB TB)(B:ss[i]?=I c)(n:zg (λg=>g=dg (A l)\/dH kv=I g\/dH tv=I g) wr W)(hs:∀(j:Nat) u,(c.cells (I ⟨m,0,U⟩) (D c.keys+1) (I ⟨tb,0,U⟩) (D c.subs+1))[j]?=I u->dx W ⟨dg (A l),i*6+j,U⟩=I u) (P:∀q,q<i*6\/(i+1)*6<=q->dx W ⟨dg (A l),q,U⟩=dx wr ⟨dg (A l),q,U⟩) (hf:∀j,dz W ⟨dg (A l),j,U⟩=Z)(hk:(∀(j:Nat) x,c.keys[j]?=I x->dx W ⟨m,j,U⟩=I (Uc x))/\dx W ⟨m,D c.keys,U⟩=I (Uc ⟨#[]⟩)) (ht:(∀(j:Nat) x,c.subs[j]?=I x->dx W ⟨tb,j,U⟩=I (M J x))/\dx W ⟨tb,D c.subs,U⟩=I (M J 0)) (ab:∀j,dz W ⟨m,j,U⟩=Z/\dz W ⟨tb,j,U⟩=Z)(rk:dA W (dg (A l)+1) 59 1 N (i+1) (A2 KB (nK ss) i++[.slice (I ⟨m,0,U⟩) (nK ss i) (nK ss i)])) (rt:dA W (dg (A l)+1) 29 1 y (i+1) (A2 TB (nT ss) i++[.slice (I ⟨tb,0,U⟩) (nT ss i) (nT ss i)])) (sk:∀g,dH N=I g->dH kv=I g\/(dg (A wr)<=g/\g≠m/\g≠tb)) (st:∀g,dH y=I g->dH tv=I g\/(dg (A wr)<=g/\g≠m/\g≠tb)) (S:∀g,dH N=I g->dH y≠I g) (b:dg (A wr)<=m/\m<dg (A W)/\dg (A wr)<=tb/\tb<dg (A W)/\m≠tb):∃ow',GB l W ow' ss (i+1) N y (Iw KB i m) (Iw TB i tb):=by
 have⟨b1,b2,b3,b4,b5⟩:=b;have z:=h.on.size;have zW:=n.size;have s:∀g,g<dg (A wr)->(if g=m then 2*i+4 else if g=tb then 2*i+5 else ow g)=ow g:=λg hg=>by rw[iN oa,iN oa]
 have lt:∀{j d},j<i->ss[j]?=I d->KB j<dg (A wr)/\TB j<dg (A wr):=λ{j d} f k=>⟨zic _ _ (h.k _ d f k).2,zic _ _ (h.n _ d f k).2⟩
 have p:∀{j},j<i->(¬(KB j=dg (A l)\/dH kv=I (KB j)\/dH tv=I (KB j)))/\¬(TB j=dg (A l)\/dH kv=I (TB j)\/dH tv=I (TB j)):=λ{j} f=>by
  have⟨a,t⟩:=h.ok j f;have w:=h.os;constructor
  all_goals
   rintro(e|e)
   ·(first|rw[e] at a|rw[e] at t);omega
   have:=h.ro _ e;omega
 have L:∀g,dH kv=I g\/dH tv=I g->g<dg (A wr):=λg e=>e.elim (λe=>(zh h.rk g e).2) (λe=>(zh h.rt g e).2);have T:dg (A l)<dg (A wr):=by obtain q|q:=FU (dg (A l)) (dg (A wr));exact q;have:=h.oz (dg (A l)) (O q);have:=h.os;omega
 have v:∀{j d},j<i+1->ss[j]?=I d->(j<i)\/(j=i/\d=c):=λ{j d} f k=>by obtain q|q:=FS (Il f);exact .inl q;subst q;cases B.symm.trans k;exact O ⟨rfl,rfl⟩
 refine⟨λg=>if g=m then 2*i+4 else if g=tb then 2*i+5 else ow g,h.on.N2 n (λg e=>e.elim (λe=>oa) (λe=>e.elim (λe=>by have:=(zh h.rk g e).1;omega) (λe=>by have:=(zh h.rt g e).1;omega))),λj d f k q u o=>?_,λj q u h1 X o=>(P _ oa).trans (h.z j q u oa X o),hf,λj d f k=>?_,λj d f k=>?_,λj q f=>?_,by rw[zgf];exact rk,by rw[zgf];exact rt,S,λg e=>?_,(s _ T).trans h.os,λj f=>?_,λg e=>?_⟩;obtain a|⟨rfl,rfl⟩:=v f k;rw[wJ oa,wJ oa] at o;have hl:q<6:=(AK.1 o).1;exact(P _ oa).trans (h.s j d a k q u o);rw[YJ,YJ] at o;exact hs q u o;obtain a|⟨rfl,rfl⟩:=v f k;rw[wJ oa];exact⟨λq x F=>zf n _ _ ((h.k j d a k).1 q x F) (p a).1,zf n _ _ (h.k j d a k).2 (p a).1⟩;rw[YJ];exact hk;obtain a|⟨rfl,rfl⟩:=v f k;rw[wJ oa];exact⟨λq x F=>zf n _ _ ((h.n j d a k).1 q x F) (p a).2,zf n _ _ (h.n j d a k).2 (p a).2⟩;rw[YJ];exact ht;have hl:=(AK.1 B).1;rcases v f (AE (show j<D ss by omega)) with a|⟨rfl,_⟩;rw[wJ oa,wJ oa];have r:=lt a (AE (show j<D ss by omega));exact⟨zp n _ r.1 (h.f j q a).1 (p a).1,zp n _ r.2 (h.f j q a).2 (p a).2⟩;rw[YJ,YJ];exact ab q;obtain e|e:=e;obtain q|⟨a,t,w⟩:=sk g e;exact(s g (L g (.inl q))).trans (h.ro g (.inl q));rw[iN t,iN w];exact h.oz g (O a);obtain q|⟨a,t,w⟩:=st g e;exact(s g (L g (O q))).trans (h.ro g (O q));rw[iN t,iN w];exact h.oz g (O a);obtain q|q:=FS (Il f);rw[wJ oa,wJ oa];have r:=lt q (AE (show j<D ss by have:=(AK.1 B).1;omega));rw[s _ r.1,s _ r.2];exact h.ok j q;subst q;rw[YJ,YJ,IN rfl,iN oa,IN rfl];exact⟨rfl,rfl⟩;rw[iN oa,iN oa];exact h.oz g oa
section
variable {ns:Av} {ss:Aw} {p q e a S a':Int}
theorem QM.one (h:QM ns p)(k:QM ns q):p=q:=by
 obtain⟨a,rfl⟩|⟨a,rfl⟩|⟨a,g,i,l,c,d,rfl⟩:=h<;>obtain⟨b,rfl⟩|⟨b,rfl⟩|⟨b,m,j,n,e,f,rfl⟩:=k<;>try omega
 obtain q|q|q:=Nat.lt_trichotomy i j;exact absurd (e i q) d;rw[q];exact absurd (c j q) f
theorem TV.one (h:TV ss p)(k:TV ss q):p=q:=by
 obtain⟨a,rfl⟩|⟨a,rfl⟩|⟨a,o,i,c,e,f,g,rfl⟩:=h<;>obtain⟨b,rfl⟩|⟨b,rfl⟩|⟨b,r,j,d,l,m,n,rfl⟩:=k<;>try omega
 obtain q|q|q:=Nat.lt_trichotomy i j;exact absurd (m i c q e) g;rw[q];exact absurd (f j d q l) n
theorem QM.no (h:QM ns p)(k:0<D ns/\(D ns)<=40/\∀j,j<D ns->xM ns j):False:=by obtain⟨a,rfl⟩|⟨a,rfl⟩|⟨_,_,i,b,_,c,rfl⟩:=h;omega;omega;exact c (k.2.2 i b)
theorem UC.two (h:UC ns ss e a):(QM ns a/\e=10)\/((0<D ns/\(D ns)<=40/\∀j,j<D ns->xM ns j)/\TV ss a/\e=11):=by obtain⟨b,d,f⟩|⟨b,d,f⟩|⟨b,d,i,f,g,k,l,m⟩|⟨h,⟨b,d,f⟩|⟨b,d,f⟩|⟨b,d,i,c,f,g,k,l,m⟩⟩:=h;exact .inl ⟨.inl ⟨b,f⟩,d⟩;exact .inl ⟨O (.inl ⟨b,f⟩),d⟩;exact .inl ⟨O (O ⟨b,d,i,f,g,k,m⟩),l⟩;exact O ⟨h,.inl ⟨b,f⟩,d⟩;exact O ⟨h,O (.inl ⟨b,f⟩),d⟩;exact O ⟨h,O (O ⟨b,d,i,c,f,g,k,m⟩),l⟩
def UF (ns:Av)(ss:Aw)(e a:Int)(fl:Ai):Prop:=(UC ns ss e a/\fl=[])\/(TE ns ss/\e=0/\a=0/\fl=yO ns ss (D ns))
theorem UC.no (h:UC ns ss e a)(k:TE ns ss):False:=by obtain⟨h,_⟩|⟨_,h,_⟩:=h.two;exact h.no ⟨k.n0,k.n1,k.nodes⟩;have:=k.m0;have:=k.m1;obtain⟨b,rfl⟩|⟨b,rfl⟩|⟨_,_,i,c,d,_,f,rfl⟩:=h;omega;omega;exact f (k.schemas i c d)
theorem UF.one {fl d:Ai}(h:UF ns ss e a fl)(k:UF ns ss S a' d):e=S/\a=a'/\fl=d:=by
 obtain⟨h,rfl⟩|⟨h,rfl,rfl,rfl⟩:=h<;>obtain⟨k,rfl⟩|⟨k,rfl,rfl,rfl⟩:=k
 .rcases h.two with⟨n1,n2⟩|⟨g,n1,n2⟩<;>obtain⟨b,c⟩|⟨f,b,c⟩:=k.two
  exact⟨n2.trans c.symm,n1.one b,rfl⟩;exact(n1.no f).elim;exact(b.no g).elim;exact⟨n2.trans c.symm,n1.one b,rfl⟩
 exact(h.no k).elim;exact(k.no h).elim;exact⟨rfl,rfl,rfl⟩
theorem T5.tell {w B:E}{x:Ending}(h:T5 ns ss w x B):zke w B/\∃b c e a fl,x=R (Ue #[.slice b (D fl) c,M J e,M J a])/\UF ns ss e a fl/\B.ownsRow (r (A w)) 58 2 (.slice b (D fl) c) (D fl) (yD fl)/\(D fl)<=120:=by
 obtain⟨k,⟨e,a,h,rfl⟩|⟨h,v,rfl,d⟩⟩:=h;exact⟨k,U,0,e,a,[],rfl,.inl ⟨h,rfl⟩,A0 _ _ _ _,od⟩;obtain⟨b,i,c,rfl⟩:=zq d;have e:i=(yO ns ss (D ns)).length:=by obtain⟨e,f⟩|⟨g,j,l,e,_⟩:=d.2<;>cases e;exact f.symm;rfl
 subst e;exact⟨k,b,c,0,0,_,rfl,O ⟨h,rfl,rfl,rfl⟩,d,by have:=ZC (ns:=ns) (ss:=ss) (D ns);have:=h.n1;omega⟩
theorem Jy:∀(fl:Ai) (i:Nat) (f:Int×Int),fl[i]?=I f->(yD fl)[i*2]?=I (M J f.1)/\(yD fl)[i*2+1]?=I (M J f.2)
 | [],i,f,h=>by simp at h
 |x :: r,0,f,h=>by cases h;exact⟨rfl,rfl⟩
 |x :: r,i+1,f,h=>by
  have:=Jy r i f h;rw[show(i+1)*2=i*2+1+1 by omega];exact this
theorem XC.of {w:E}{g c:Nat}{a:List Al}(b:g<r (A w))(h:∀(j:Nat) s,a[j]?=I s->d w ⟨g,j,U⟩=I (Uc s)):XC w (.slice (I ⟨g,0,U⟩) (D a) c) a:=O ⟨g,0,c,rfl,b,λj s e=>by rw[Bv];exact h j s e⟩
theorem qN.of {w:E}{g c:Nat}{ks:Ar}(h:∀(j:Nat) k,ks[j]?=I k->d w ⟨g,j,U⟩=I (M J k)):qN w (λ_=>True) (.slice (I ⟨g,0,U⟩) (D ks) c) ks:=O ⟨g,0,c,rfl,trivial,λj s e=>by rw[Bv];exact h j s e⟩
theorem GB.given {e wr V:E}{ow:Ak}{kv tv:Y}{KB TB:Ak}(h:GB e wr ow ss (D ss) kv tv KB TB)(k:zke wr V)(cap:Nat):Zg V (.slice (I ⟨r (A e),0,U⟩) (D ss) cap) ss:=by refine⟨_,_,rfl,λi c a=>?_⟩;have b:=(AK.1 a).1;have⟨m,n⟩:=h.k i c b a;have⟨n1,n2⟩:=h.n i c b a;have g:KB i<r (A wr):=zic wr _ n;refine⟨r (A e),0,I ⟨KB i,0,U⟩,D c.keys+1,I ⟨TB i,0,U⟩,D c.subs+1,rfl,⟨.of (AM g k.size) (λj s d=>zf k _ _ (m j s d) id),.of (λj s d=>zf k _ _ (n1 j s d) id)⟩,λj u l=>?_⟩;rw[Bv];exact zf k _ _ (h.s i c b a j u l) id
end
end
