/- Validate, the program: may a node stand there? Validate, the program: a node is read. -/
import Derived.Test.YtcgleficedipkaaGreatDoorYVaAVaH
import Derived.Test.YtcgleficedipkaaGreatDoorYHeCLfA
namespace Go.Proofs.YtcgleficedipkaaGreatDoor
open Option renaming none->U,some->I
open Value renaming int->M,bool->C,pointer->Ua,string->Uc,iface->Ud,tuple->Ue,agg->Uf,nilIface->Ui
open IntKind renaming i64->J
open Bool renaming false->Z,true->G
open Go renaming World->E,Value->Y,Calls->Uh
open Go.RowKit renaming Hid->H
open Or renaming inr->O,inl->Q
open Ending renaming returned->R
open Obj renaming cells->Ub
open And renaming intro->Ur
open Pro Ref Sm Prg Fnd
open _root_.Go.Proofs.Tryz
variable (p:ByteArray)(w:World)(a:Nat->Addr)(z:Array Value)(n k c:Nat)
section
open Go.RowKit
set_option maxHeartbeats 4000000
def Nd.fit (n:Nd):Prop:=0<=n.kind/\n.kind<=5/\(n.kind=3\/n.text.toList=[])
def FitP (ns:List Nd)(k:Nat):Prop:=∃n,ns[k]?=I n/\n.fit/\n.there ns k
theorem node_fit {ns:List Nd}{k:Nat}{n:Nd}(a:ns[k]?=I n):xI ns k↔FitP ns k/\txB n.key=G/\txB n.text=G:=by constructor;rintro⟨m,b,⟨c,d,e⟩,f⟩;cases a.symm.trans b;exact⟨⟨n,a,e,f⟩,c,d⟩;rintro⟨⟨m,b,e,f⟩,c,d⟩;cases a.symm.trans b;exact⟨n,a,⟨c,d,e⟩,f⟩
def Nd.like (m:Nd)(b:Int)(a:ByteArray):Bool:=(m.parent == b) && (m.key.toList == a.toList)
theorem zcG {m:Nd}{b:Int}{a:ByteArray}:m.like b a=G↔m.parent=b/\m.key.toList=a.toList:=by simp[Nd.like]
theorem like_any (m:Nd)(pb:Nat)(b:Int)(e:ByteArray)(w:E)(c:w.cell? ⟨pb,1,U⟩=I (M J b))(d:w.cell? ⟨pb,2,U⟩=I (Uc e)):Uh prog 88 #[Uf #[M J m.kind,M J m.parent,Uc m.key,Uc m.text],Ua (I ⟨pb,0,U⟩)] w λx B=>x=R (C (m.like b e))/\ziE w B:=by
 have a:=(zf.refl (λ_=>False) w).alloc (Ub #[M J m.kind,M J m.parent,Uc m.key,Uc m.text] 41);have h:=zg a _ _ c id;have i:=zg a _ _ d id;have g:=ze a;have j:=zgF _ _ h;clear a c d;unfold Nd.like;cases hp:(m.parent == b)
 all_goals
  go_enter func88,ntmps88;go_wp2_with fail;go_ret;exact⟨rfl,by repeat (first|exact g|refine zf.drewN ?_ _)⟩
theorem zgq (ns:List Nd)(d off c k pb:Nat)(b:Int)(a:ByteArray)(w:E)(v:∀(i:Nat) n,ns[i]?=I n->∀(j:Nat) u,n.cells[j]?=I u->w.cell? ⟨d,off+i*4+j,U⟩=I u)(s:w.cell? ⟨pb,1,U⟩=I (M J b))(t:w.cell? ⟨pb,2,U⟩=I (Uc a))(hk:1<=k)(hl:k<=ns.length)(hm:ns.length<=40):Uh prog 87 #[.slice (I ⟨d,off+4,U⟩) (k-1) c,.func (.func 88) #[] #[Ua (I ⟨pb,0,U⟩)]] w (Says w (∃(i:Nat) (m:Nd),1<=i/\i<k/\ns[i]?=I m/\m.like b a=G)):=by
 have X:H (Uh prog 136 #[.slice (I ⟨d,off+4,U⟩) (k-1) c,.func (.func 88) #[] #[Ua (I ⟨pb,0,U⟩)]] w λx B=>∃z:Int,x=R (M J z)/\(0<=z↔∃(i:Nat) (m:Nd),1<=i/\i<k/\ns[i]?=I m/\m.like b a=G)/\ziE w B):=by
  show Uh _ _ _ _ _;have HN:=ze v;have HL:H (∀V,ziE w V->∀m:Nd,_):=λV k m=>like_any m pb b a V (zg k _ _ s id) (zg k _ _ t id);clear v s t;go_enter func136,ntmps136;go_wp2_with fail;go_loopw[8] (λx wr=>∃i:Nat,x=M J i/\i<=k-1/\H (ziE w wr)/\H (∀(j:Nat) m,1<=j->j<i+1->ns[j]?=I m->m.like b a=Z)) (λx _=>k-(intOf x).toNat);exact⟨0,rfl,oa,zf.refl _ _,λj _ _ _=>oa⟩;obtain⟨i,rfl,hi,g,L⟩:=hrel;by_cases am:i<k-1
  .have F:=zgE (show i+1<ns.length by omega);generalize ns[i+1]=m at *;have l:=λj u h=>zg g _ _ (zb HN (i+1) m F j u h) id;have c0:wr.cell? ⟨d,off+4+i*4,U⟩=I (M J m.kind):=(by have:=l 0 _ rfl;rwa [show off+(i+1)*4+0=off+4+i*4 by omega] at this);have c1:wr.cell? ⟨d,off+4+i*4+1,U⟩=I (M J m.parent):=(by have:=l 1 _ rfl;rwa [show off+(i+1)*4+1=off+4+i*4+1 by omega] at this);have c2:wr.cell? ⟨d,off+4+i*4+2,U⟩=I (Uc m.key):=(by have:=l 2 _ rfl;rwa [show off+(i+1)*4+2=off+4+i*4+2 by omega] at this);have c3:wr.cell? ⟨d,off+4+i*4+3,U⟩=I (Uc m.text):=(by have:=l 3 _ rfl;rwa [show off+(i+1)*4+3=off+4+i*4+3 by omega] at this);have o:=ze (zb HL wr g m);have N:=ze F;clear l F;cases hb:m.like b a
   ·(have W:H (∀(j:Nat) m,1<=j->j<i+1+1->ns[j]?=I m->m.like b a=Z):=λj m' r a2 p=>by by_cases e:j=i+1;subst e;cases(zb N).symm.trans p;exact hb;exact zb L j m' r oa p);rw[hb] at o;go_wp2_with(go_at_fn 88;refine zb ?_);refine ze ?_;refine o.mono ?_;rintro e T ⟨rfl,y⟩;go_wp2_with fail;exact⟨⟨i+1,by go_num,oa,g.trans y,W⟩,by simp[intOf];omega⟩
   have q:H (∃(i:Nat) (m:Nd),1<=i/\i<k/\ns[i]?=I m/\m.like b a=G):=⟨i+1,m,oa,oa,N,hb⟩
   rw[hb] at o;go_wp2_with(go_at_fn 88;refine zb ?_);refine ze ?_;refine o.mono ?_;rintro e T ⟨rfl,y⟩;go_wp2_with fail;go_ret;exact⟨_,rfl,⟨λ_=>zb q,λ_=>oa⟩,g.trans y⟩
  have q:H ((0:Int)<=-1↔∃(i:Nat) (m:Nd),1<=i/\i<k/\ns[i]?=I m/\m.like b a=G):=⟨λh=>oa,λ⟨j,m,r,a2,p,P⟩=>by rw[zb L j m r oa p] at P;cases P⟩
  go_wp2_with fail;go_ret;exact⟨_,rfl,q,g⟩
 clear v s t;go_enter func87,ntmps87;go_wp2_with(go_at_call 136;refine X.mono ?_;rintro e T ⟨z,rfl,S,hO⟩;have HZ:=ze S;clear S);go_ret;exact⟨_,rfl,by rw[<-zb HZ];simp,hO⟩
theorem fits_any (ns:List Nd)(v:Y)(k:Nat)(w:E)(hN:vA w v ns)(hk:k<ns.length)(hl:ns.length<=40)(ar:∀a n c,v=.slice a n c->n<=c):Uh prog 46 #[v,M J (k:Nat)] w (Says w (FitP ns k)):=by
 obtain⟨a,ax,rfl,hC⟩:=hN;obtain⟨W,ac,rfl,N⟩:=hC k ns[k] (zgE hk);have aQ:=ar _ _ _ rfl;have HC:H (∀V,ziE w V->∀(i:Nat) n,ns[i]?=I n->∀(j:Nat) u,n.cells[j]?=I u->V.cell? ⟨W,ac+i*4+j,U⟩=I u):=λV kk i n hi j u hu=>by obtain⟨_,_,e,h⟩:=hC i n hi;cases e;exact zg kk _ _ (h j u hu) id
 have hn:=zgE hk;generalize ns[k]=n at *;obtain⟨g,d,l,o⟩:=n;have c0:w.cell? ⟨W,ac+k*4,U⟩=I (M J g):=N 0 _ rfl;have c1:=N 1 _ rfl;have c2:=N 2 _ rfl;have c3:=N 3 _ rfl;have HX:H (∀b:Bool,(b=G↔Nd.fit ⟨g,d,l,o⟩/\Nd.there ns k ⟨g,d,l,o⟩)->(b=G↔FitP ns k)):=λb t=>t.trans ⟨λh=>⟨_,hn,h⟩,λ⟨m,h1,L⟩=>by cases hn.symm.trans h1;exact L⟩;have r:H (ziE w (w.alloc (Ub #[M J g,M J d,Uc l,Uc o] 41))):=(zf.refl _ _).alloc _;have z:=zm w _ rfl #[M J g,M J d,Uc l,Uc o] 41 1 _ rfl;have B:=zm w _ rfl #[M J g,M J d,Uc l,Uc o] 41 2 _ rfl;clear hC N hn ar;have X:(Nd.fit ⟨g,d,l,o⟩/\(o.toList == [])=G/\0<=g/\g<=5)\/(Nd.fit ⟨g,d,l,o⟩/\(o.toList == [])=Z/\g=3)\/(¬Nd.fit ⟨g,d,l,o⟩/\(g<0\/(0<=g/\5<g)\/(0<=g/\g<=5/\(o.toList == [])=Z/\(g == 3)=Z))):=by
  unfold Nd.fit;cases ht:(o.toList == [])
  grind
  grind
 rcases X with X|X|⟨P,h⟩
 rotate_left 2
 .have HF:H (Z=G↔FitP ns k):=zb HX Z ⟨λq=>Bool.noConfusion q,λq=>absurd q.1 P⟩;clear P z B;rcases h with h|⟨h,h'⟩|⟨h,h',aO,h3⟩
  all_goals
   go_enter func46,ntmps46;go_wp2_with fail;go_ret;exact⟨_,rfl,HF,r⟩
 all_goals
  obtain⟨P,h1,L⟩:=X;have T:H (∀b:Bool,(b=G↔Nd.there ns k ⟨g,d,l,o⟩)->(b=G↔FitP ns k)):=λb h=>zb HX b (h.trans ⟨λq=>⟨P,q⟩,And.right⟩);clear P HX;first|obtain⟨L,h3⟩:=L|subst L
  by_cases aa:k=0
  ·(have aG:((k:Int) == 0)=G:=(by simp[aa]);have F:H (∀q,Nd.there ns k ⟨q,d,l,o⟩↔d = -1/\l.toList=[]):=λq=>(by unfold Nd.there;rw[IN aa]);clear z B aa;go_enter func46,ntmps46;go_wp2_with fail;all_goals go_ret);all_goals exact⟨_,rfl,zb T _ (by rw[zb F _];simp[*]),(zf.refl _ _).alloc _⟩
  have aG:((k:Int) == 0)=Z:=ou;have F:H (∀q,Nd.there ns k ⟨q,d,l,o⟩↔0<=d/\d<k/\∃p,ns[d.toNat]?=I p/\(if p.kind=5 then ∀(i:Nat) m,1<=i->i<k->ns[i]?=I m->¬(m.parent=d/\m.key.toList=l.toList) else p.kind=4/\l.toList=[])):=λq=>(by unfold Nd.there;rw[iN aa]);by_cases y:0<=d/\d<k
  .obtain⟨m,rfl⟩:∃m:Nat,d=m:=⟨d.toNat,oa⟩
   have aI:m<ns.length:=oa;have aR:(m:Int)<(k:Int):=y.2;have ab:=zgE aI;generalize ns[m]=p at *;have d0:∀V,ziE w V->V.cell? ⟨W,ac+m*4,U⟩=I (M J p.kind):=λV kk=>zb HC V kk m p ab 0 _ rfl;have d1:=d0 _ r;have S:H (∀b:Bool,(b=G↔if p.kind=5 then ∀(i:Nat) q,1<=i->i<k->ns[i]?=I q->¬(q.parent=m/\q.key.toList=l.toList) else p.kind=4/\l.toList=[])->(b=G↔FitP ns k)):=λb t=>zb T b (t.trans ((zb F _).trans ⟨λ⟨_,_,q,g1,g2⟩=>by cases ab.symm.trans g1;exact g2,λq=>⟨y.1,y.2,p,ab,q⟩⟩).symm);clear y ab F T d0;by_cases s:p.kind=5
   .have aP:(p.kind == 4)=Z:=ou;have aC:(p.kind == 5)=G:=(by simp[s]);rw[IN s] at S;have HL:H (Uh prog _ _ _ _):=zgq ns W ac (ax-1) k w.heap.size m l _ (zb HC _ r) z B oa oa hl;clear s z B;go_enter func46,ntmps46;go_wp2_with(go_at_call 87;refine HL.mono ?_;rintro e w1 ⟨b,rfl,t,aE⟩;have HB:=ze t;clear t);go_ret;exact⟨_,rfl,zb S _ (by rw[zh9,<-zid,zb HB];exact⟨λq i x a1 a2 a3 a4=>q ⟨i,x,a1,a2,a3,zcG.2 a4⟩,λq ⟨i,x,a1,a2,a3,a4⟩=>q i x a1 a2 a3 (zcG.1 a4)⟩),r.trans aE⟩
   rw[iN s] at S;have aC:(p.kind == 5)=Z:=beq_eq_false_iff_ne.2 s;clear s z B;cases h4:(p.kind == 4)
   all_goals
    have aq:=h4;go_enter func46,ntmps46;go_wp2_with fail;go_ret;exact⟨_,rfl,zb S _ (by simp at aq;simp[aq]),r⟩
  have HF:H (Z=G↔FitP ns k):=zb T Z ((zb F _).trans ⟨λq=>absurd ⟨q.1,q.2.1⟩ y,λq=>by cases q⟩).symm;have al:d<0\/(0<=d/\(k:Int)<=d):=oa;clear y z B;rcases al with al|⟨al,aS⟩
  all_goals
   go_enter func46,ntmps46;go_wp2_with fail;go_ret;exact⟨_,rfl,HF,r⟩
set_option maxRecDepth 100000
def LetTx (w B:E)(s:ByteArray)(v e:Y):Prop:=(e=Ui/\txB s=G/\yY B w.heap.size v s)\/((∃T y,e=Ud T y)/\txB s=Z)
theorem Vt (s:ByteArray)(w:E)(a:Nat->Addr)(i:yt w a)(k:11<=w.heap.size):Uh prog 39 #[Uc s,M J 400] w λx B=>∃b n c e,x=R (Ue #[.slice b n c,e])/\LetTx w B s (.slice b n c) e/\ziE w B:=by by_cases f:s.size<=400;by_cases j:(zF s).2<0;refine(zbf s w a i k f j).mono ?_;rintro x B ⟨b,n,c,rfl,h,d⟩;exact⟨b,n,c,_,rfl,Q ⟨rfl,by unfold txB;rw[decide_eq_true j,decide_eq_true f];rfl,h⟩,d⟩;refine(Ku s 400 oa f w a i k oa).mono ?_;rintro x B ⟨v,rfl,h,d⟩;obtain⟨g,rfl⟩:=h.form;exact⟨_,_,_,_,rfl,O ⟨⟨_,_,rfl⟩,by unfold txB;rw[decide_eq_false j];rfl⟩,d⟩;refine(Ql s 400 oa w a i).mono ?_;rintro x B ⟨v,rfl,h,d⟩;obtain⟨g,rfl⟩:=h.form;exact⟨_,_,_,_,rfl,O ⟨⟨_,_,rfl⟩,by unfold txB;rw[decide_eq_false f,Bool.and_false]⟩,d⟩
def ReadIs (w:E)(tb o:Nat)(k:Int)(key b:ByteArray)(x:Ending)(B:E):Prop:=∃c d a,x=R (C (txB key && txB b))/\B=((a.setCell ⟨tb,o,U⟩ (M J k)).setCell ⟨tb,o+1,U⟩ c).setCell ⟨tb,o+2,U⟩ d/\(txB key=G->txB b=G->yY a w.heap.size c key/\yY a w.heap.size d b)/\ziE w a
theorem zgr (tb o:Nat)(k p:Int)(key b:ByteArray)(z0 z1 z2:Y)(w:E)(a:Nat->Addr)(W:yt w a)(hw:11<=w.heap.size)(u:w.cell? ⟨tb,o,U⟩=I z0) (c1:w.cell? ⟨tb,o+1,U⟩=I z1) (S:w.cell? ⟨tb,o+2,U⟩=I z2) (T:∀j,w.frozen? ⟨tb,j,U⟩=Z):Uh prog 47 #[Ua (I ⟨tb,o,U⟩),Uf #[M J k,M J p,Uc key,Uc b]] w (ReadIs w tb o k key b):=by
 have L:=ze W;have af:tb<w.heap.size:=zgF w _ u;have v:=(zf.refl (λ_=>False) w).alloc (Ub #[M J k,M J p,Uc key,Uc b] 41);have hz:(w.alloc (Ub #[M J k,M J p,Uc key,Uc b] 41)).heap.size=w.heap.size+1:=ov;have z:=ze (Vt key _ a (W.keep v (λ_ _ f=>f)) oa);go_enter func47,ntmps47;go_wp2_with(go_at_call 39;refine z.mono ?_;rintro e w1 ⟨l,n1,r,e1,rfl,X,g⟩;refine zb ?_);refine ze ?_;have d:=v.trans g;have av:=g.size;have N:=ze X;have p0:=zg g _ _ (zm w _ rfl _ _ 0 _ rfl) id;have p3:=zg g _ _ (zm w _ rfl _ _ 3 _ rfl) id;have B:=ze (Vt b w1 a (L.keep d (λ_ _ f=>f)) oa);have F:=ze d;clear g X z v;go_wp2_with(go_at_call 39;refine B.mono ?_;rintro e c ⟨m,n2,s,e2,rfl,aa,n⟩;refine zb ?_);refine ze ?_;have d:=F.trans n;have q0:=zg n _ _ p0 id;have d0:=zg d _ _ u id;have d1:=zg d _ _ c1 id;have d2:=zg d _ _ S id;have g0:∀j,c.frozen? ⟨tb,j,U⟩=Z:=λj=>(d.frozen (p:=⟨tb,j,U⟩) af id).trans (T j);have ae:=ze d;have y:=ze n;have P:=ze aa;clear d n aa B F p0 p3 u c1 S T L;rcases zb N with⟨rfl,h,l1⟩|⟨⟨T1,y1,rfl⟩,h⟩<;>rcases zb P with⟨rfl,t,l2⟩|⟨⟨T2,y2,rfl⟩,t⟩
 case' inl.inl=>have i:H (txB key=G->txB b=G->yY c w.heap.size (.slice l n1 r) key/\yY c w.heap.size (.slice m n2 s) b):=λ_ _=>⟨(l1.keep y (λ_ _ f=>f)).base oa,l2.base oa⟩
 case' inl.inr=>have i:H (txB key=G->txB b=G->yY c w.heap.size (.slice l n1 r) key/\yY c w.heap.size (.slice m n2 s) b):=λ_ q=>absurd (t.symm.trans q) od
 case' inr.inl=>have i:H (txB key=G->txB b=G->yY c w.heap.size (.slice l n1 r) key/\yY c w.heap.size (.slice m n2 s) b):=λq _=>absurd (h.symm.trans q) od
 case' inr.inr=>have i:H (txB key=G->txB b=G->yY c w.heap.size (.slice l n1 r) key/\yY c w.heap.size (.slice m n2 s) b):=λq _=>absurd (h.symm.trans q) od
 all_goals
  have x:=ze (Ur h t);clear N P y h t
  try clear l1
  try clear l2
  go_wp2_with fail;go_ret;exact⟨_,_,c,by rw[(zb x).1,(zb x).2];rfl,rfl,i,ae⟩
theorem Xy (t e:TypeId)(z:Array Y)(size bytes:Nat)(d:prog.underlying t=I (.slice e))(c:(prog.info? e).map (λi=>(i.zero.map (·.cells),i.size,i.bytes))=I (I z,size,bytes))(n:Nat)(l:bytes*n<=281474976710656)(k:n<=9223372036854775807)(w:E):(Instr.makeSlice t (M J (n:Int)) (M J (n:Int))).run prog w=.ok (.slice (I ⟨w.heap.size,0,U⟩) n n) (w.alloc (Ub (madeCells z (n*size)) e)):=by obtain⟨i,b,a⟩:=zhd.1 c;simp only[Prod.mk.injEq] at a;obtain⟨f,rfl,rfl⟩:=a;obtain⟨j,g,rfl⟩:=zhd.1 f;have h:=run_make (P:=prog) w t e i j d b g J J n n oa oa (by rw[<-zh5];omega) oa;rw[zhm] at h;exact h
theorem J9 (b:k<n)(a:c<z.size):(madeCells z (n*z.size))[k*z.size+c]?=I z[c]:=by have d:=WH b a;unfold madeCells;rw[Array.getElem?_map,Array.getElem?_range,IN d,Option.map_some,(zdX a).2,getElem!_pos z c a]
def kI (ns:List Nd)(k i:Nat):Bool:=match ns[i]? with
 |some n=>decide (1<=i) && (n.parent == (k:Int))
 |none=>Z
def xt (ns:List Nd)(k:Nat):Nat->List Int
 |0=>[]
 |i+1=>xt ns k i++(if kI ns k i then [(i:Int)] else [])
theorem Qa (ns:List Nd)(k:Nat):∀i,(xt ns k i).length<=i
 |0=>zgH _
 |i+1=>by
  have:=Qa ns k i;rw[xt,zgK];split<;>simp<;>omega
theorem Yj {ns:List Nd}{k:Nat}{x:Int}:∀{i:Nat},x∈xt ns k i↔∃j:Nat,x=j/\j<i/\kI ns k j=G
 |0=>by simp[xt]
 |i+1=>by
  rw[xt,zgU,Yj (i:=i)];constructor
  grind
  grind
structure DT (w:E)(tb:Nat)(ns:List Nd)(i j:Nat)(K T V:Nat->Y):Prop where
 fz:∀q,w.frozen? ⟨tb,q,U⟩=Z
 lt:tb<w.heap.size
 c0:∀k,k<ns.length->∃z,w.cell? ⟨tb,k*4,U⟩=I z/\∀n,k<i->ns[k]?=I n->z=M J n.kind
 c1:∀k,k<ns.length->w.cell? ⟨tb,k*4+1,U⟩=I (K k)
 c2:∀k,k<ns.length->w.cell? ⟨tb,k*4+2,U⟩=I (T k)
 c3:∀k,k<ns.length->w.cell? ⟨tb,k*4+3,U⟩=I (V k)
 l:∀k n,k<i->ns[k]?=I n->yY w (tb+1) (K k) n.key/\yY w (tb+1) (T k) n.text
 v:∀k,k<ns.length->w.ownsRow (tb+1) 3 1 (V k) (xt ns k j).length (yr (xt ns k j))
 s:∀k g,k<ns.length->(V k).ownBlock=I g->∀k',k'<ns.length->(k'≠k->(V k').ownBlock≠I g)/\(k'<i->(K k').ownBlock≠I g/\(T k').ownBlock≠I g)
section
variable {w B:World} {tb i j p:Nat} {ns:List Nd} {K T V:Nat->Value}
theorem DT.keep (h:DT w tb ns i j K T V)(k:ziE w B):DT B tb ns i j K T V:=
 ⟨λq=>zo k _ h.lt (h.fz q) id,zgJ h.lt k.size,λq a=>by
  obtain⟨z,b,c⟩:=h.c0 q a;exact⟨z,zg k _ _ b id,c⟩,λq a=>zg k _ _ (h.c1 q a) id,λq a=>zg k _ _ (h.c2 q a) id,λq a=>zg k _ _ (h.c3 q a) id,λq n b c=>⟨(h.l q n b c).1.keep k (λ_ _ f=>f),(h.l q n b c).2.keep k (λ_ _ f=>f)⟩,λq a=>zl (h.v q a) k (λ_ _ f=>f),h.s⟩
theorem DT.made (w:E)(ns:List Nd):DT (w.alloc (Ub (madeCells #[M J 0,.slice U 0 0,.slice U 0 0,.slice U 0 0] (ns.length*4)) 118)) w.heap.size ns 0 0 (λ_=>.slice U 0 0) (λ_=>.slice U 0 0) (λ_=>.slice U 0 0):=by have c:∀k c,k<ns.length->(b:c<4)->_:=λk c a b=>zm w _ rfl _ 118 (k*4+c) _ (J9 #[M J 0,.slice U 0 0,.slice U 0 0,.slice U 0 0] ns.length k c a b);exact⟨λq=>zu w _ rfl _ _ q,ov,λk a=>⟨_,c k 0 a od,λ_ h=>absurd h (zgV _)⟩,λk a=>c k 1 a od,λk a=>c k 2 a od,λk a=>c k 3 a od,λ_ _ h=>absurd h (zgV _),λ_ _=>zgP _ _ _ _,λ_ _ _ h=>by simp[Value.ownBlock] at h⟩
theorem DT.root (h:DT w tb ns i j K T V)(a:j=0):DT w tb ns i (j+1) K T V:=by
 subst a;refine⟨h.fz,h.lt,h.c0,h.c1,h.c2,h.c3,h.l,λk b=>?_,h.s⟩;have:xt ns k 1=xt ns k 0:=by
  have:kI ns k 0=Z:=by unfold kI;split<;>simp
  show xt ns k 0++(if kI ns k 0 then [((0:Nat):Int)] else [])=_;rw[this];simp
 rw[this];exact h.v k b
theorem DT.read {r t:Y}{n:Nd}{w1:E}(h:DT w tb ns i j K T V)(y:ns[i]?=I n)(k:ziE w w1)(v:yY w1 w.heap.size r n.key)(L:yY w1 w.heap.size t n.text)(N:B=((w1.setCell ⟨tb,i*4,U⟩ (M J n.kind)).setCell ⟨tb,i*4+1,U⟩ r).setCell ⟨tb,i*4+2,U⟩ t):DT B tb ns (i+1) j (λq=>if q=i then r else K q) (λq=>if q=i then t else T q) V:=by
 have p:=(zgG.1 y).1;obtain⟨z,X,d1⟩:=h.c0 i p;obtain⟨e0,e1,e2,l,ef,o⟩:=set3 N k X (h.c1 i p) (h.c2 i p) h.fz;have hl:=h.lt;have f:∀g,tb+1<=g->¬zt tb g:=λg d e=>by unfold zt at e;omega
 have P:zf (zt tb) w1 B:=by rw[N];exact(((zf.refl _ _).mine _ _).mine _ _).mine _ _
 have sz:=k.size;refine⟨ef,zgJ hl o.size,λq a=>?_,λq a=>?_,λq a=>?_,λq a=>l _ _ oa oa oa (h.c3 q a),λq x u m=>?_,λq a=>zl (h.v q a) o (λg d=>f g (zh (h.v q a) g d).1),λq g a d s F=>⟨(h.s q g a d s F).1,λu=>?_⟩⟩
 .by_cases e:q=i
  grind
  obtain⟨z,S,W⟩:=h.c0 q a;exact⟨z,l _ _ oa oa oa S,λx u m=>W x oa m⟩
 by_cases e:q=i;subst e;simpa using e1;rw[iN e];exact l _ _ oa oa oa (h.c1 q a);by_cases e:q=i;subst e;simpa using e2;rw[iN e];exact l _ _ oa oa oa (h.c2 q a);by_cases e:q=i;subst e;cases y.symm.trans m;simp only[IN];exact⟨(v.base oa).keep P f,(L.base oa).keep P f⟩;simp only[iN e];have:=h.l q x oa m;exact⟨this.1.keep o f,this.2.keep o f⟩;have b:=(zh (h.v q a) g d).2;by_cases e:s=i;simp only[IN e];exact⟨λc=>by have:=(v.2 g c).1;omega,λc=>by have:=(L.2 g c).1;omega⟩;simp only[iN e];exact(h.s q g a d s F).2 oa
theorem DT.app {t:Y}(h:DT w tb ns i j K T V)(F:p<ns.length)(ao:kI ns p j=G)(al:∀q,q≠p->kI ns q j=Z)(k:zf (λg=>(V p).ownBlock=I g) w B)(hv:B.ownsRow (tb+1) 3 1 t (xt ns p (j+1)).length (yr (xt ns p (j+1))))(W:∀g,t.ownBlock=I g->(V p).ownBlock=I g\/w.heap.size<=g):DT (B.setCell ⟨tb,p*4+3,U⟩ t) tb ns i (j+1) K T (λq=>if q=p then t else V q):=by
 have hl:=h.lt;have nt:¬(V p).ownBlock=I tb:=λe=>by have:=(zh (h.v p F) tb e).1;omega
 have S:zf (zt tb) B (B.setCell ⟨tb,p*4+3,U⟩ t):=(zf.refl _ _).mine _ _;have X:∀g,tb+1<=g->¬zt tb g:=λg l e=>by unfold zt at e;omega
 have o:∀q u,q≠p*4+3->w.cell? ⟨tb,q,U⟩=I u->(B.setCell ⟨tb,p*4+3,U⟩ t).cell? ⟨tb,q,U⟩=I u:=λq u e hc=>(zgI _ _ _ _ ov).trans (zg k _ _ hc nt);have lt:∀q n,q<i->ns[q]?=I n->q<ns.length:=λq n _ e=>(zgG.1 e).1;have lk:∀{x:Y} {s:ByteArray},yY w (tb+1) x s->(∀g,(V p).ownBlock=I g->x.ownBlock≠I g)->yY (B.setCell ⟨tb,p*4+3,U⟩ t) (tb+1) x s:=λ{x s} a b=>by refine yY.keep (P:=zt tb) ⟨?_,λg l=>⟨(a.2 g l).1,zgJ (a.2 g l).2 k.size⟩⟩ S X;rcases a.1 with v|⟨g,aj,v,a2,a3⟩;exact Q v;exact O ⟨g,aj,v,a2,a3.keep k (λe=>b g e (by rw[v];rfl))⟩
 refine⟨λq=>by rw[zk];exact zo k _ hl (h.fz q) nt,zgJ hl (zgN k.size S.size),λq f=>?_,λq f=>o _ _ oa (h.c1 q f),λq f=>o _ _ oa (h.c2 q f),λq f=>?_,λq n m N=>⟨lk (h.l q n m N).1 (λg e=>((h.s p g F e q (lt q n m N)).2 m).1),lk (h.l q n m N).2 (λg e=>((h.s p g F e q (lt q n m N)).2 m).2)⟩,λq f=>?_,λq g f l r y=>?_⟩;obtain⟨z,a0,v⟩:=h.c0 q f;exact⟨z,o _ _ oa a0,v⟩;by_cases e:q=p;subst e;rw[IN rfl];exact zgL _ _ _ (zg k _ _ (h.c3 q f) nt);rw[iN e];exact o _ _ oa (h.c3 q f);by_cases e:q=p;subst e;simp only[IN];exact zl hv S (λg l=>X g (zh hv g l).1);simp only[iN e];have:xt ns q (j+1)=xt ns q j:=(by rw[xt,al q e];simp);rw[this];exact zl (zl (h.v q f) k (λg l c=>(h.s p g F c q f).1 e l)) S (λg l=>X g (zh (h.v q f) g l).1);have lb:∀x,x<ns.length->∀g,(V x).ownBlock=I g->g<w.heap.size:=λx hx g c=>(zh (h.v x hx) g c).2;by_cases e:q=p
 .subst e;simp only[IN] at l;refine⟨λL=>?_,λm=>?_⟩;simp only[iN L];intro c;rcases W g l with d|d;exact(h.s q g f d r y).1 L c;have:=lb r y g c;omega;rcases W g l with d|d;exact(h.s q g f d r y).2 m;obtain⟨n,hn⟩:∃n,ns[r]?=I n:=⟨_,zgE y⟩
  have:=h.l r n m hn;exact⟨λc=>by have:=(this.1.2 g c).2;omega,λc=>by have:=(this.2.2 g c).2;omega⟩
 simp only[iN e] at l;refine⟨λL=>?_,(h.s q g f l r y).2⟩;by_cases e2:r=p;simp only[IN e2];intro c;rcases W g c with d|d;exact(h.s q g f l p F).1 (λx=>e x.symm) d;have:=lb q f g l;omega;simp only[iN e2];exact(h.s q g f l r y).1 L
end
set_option maxHeartbeats 8000000
set_option maxRecDepth 1000000
def Qb (ns:List Nd)(p:Int):Prop:=(ns.length=0/\p=0)\/(40<ns.length/\p=40)\/(0<ns.length/\ns.length<=40/\∃k:Nat,k<ns.length/\(∀j,j<k->xI ns j)/\¬xI ns k/\p=k)
def DRead (w:E)(a:Nat->Addr)(ns:List Nd)(x:Ending)(B:E):Prop:=ziE w B/\((∃v p,x=R (Ue #[.slice U 0 0,v])/\zN B w.heap.size v (yj a 9) p/\Qb ns p)\/
 ((0<ns.length/\ns.length<=40/\∀j,j<ns.length->xI ns j)/\∃tb K T V,w.heap.size<=tb/\x=R (Ue #[.slice (I ⟨tb,0,U⟩) ns.length ns.length,Ui])/\DT B tb ns ns.length ns.length K T V))
theorem Tryz.infoNd:(prog.info? 118).map (λi=>(i.zero.map (·.cells),i.size,i.bytes))=I (I #[M J 0,.slice U 0 0,.slice U 0 0,.slice U 0 0],4,80):=om
theorem zgs (ns:List Nd)(nv:Y)(w:E)(a:Nat->Addr)(hS:Start w a)(hN:vA w nv ns)(bc:∀a n c,nv=.slice a n c->n<=c)(hl:ns.length<4611686018427387904):Uh prog 24 #[nv] w (DRead w a ns):=by
 obtain⟨i0,bD,bK,bL,bM⟩:=info_parts Tryz.infoInt;have HN:=ze hN;have HS:=ze hS;have bx:=ze bc;obtain⟨na,nc,rfl,_⟩:=hN;have HE:H (∀V v p,ziE w V->zN V w.heap.size v (yj a 9) p->Qb ns p->DRead w a ns (R (Ue #[.slice U 0 0,v])) V):=λV v p h1 h2 h3=>⟨h1,Q ⟨v,p,rfl,h2,h3⟩⟩
 have s9:=hS.rows.s9;have b6:=s9;unfold yj at s9;clear hS bc;go_enter func24,ntmps24;by_cases h0:ns.length=0
 .have d0:((ns.length:Int) == 0)=G:=by simp[h0]
  have F:H (Qb ns 0):=Q ⟨h0,rfl⟩;clear h0;go_wp2_with(go_at_call 45;refine(jg _ _ _ _).mono ?_;rintro e l ⟨v,rfl,hv,N⟩);go_ret2;exact zb HE _ _ _ N hv F
 .have d0:((ns.length:Int) == 0)=Z:=beq_eq_false_iff_ne.2 oa;by_cases h1:40<ns.length
  .have d1:(40:Int)<(ns.length:Int):=oa;have F:H (Qb ns 40):=O (Q ⟨h1,rfl⟩);clear h0 h1;go_wp2_with(go_at_call 45;refine(jg _ _ _ _).mono ?_;rintro e l ⟨v,rfl,hv,N⟩);go_ret2;exact zb HE _ _ _ N hv F
  .have d1:¬(40:Int)<(ns.length:Int):=oa;have hp:0<ns.length:=oa;have aE:ns.length<=40:=oa;have bG:=Xy 82 118 _ 4 80 underlying82 Tryz.infoNd ns.length oa oa;clear h0 h1;go_upto_region 7 with fail;have hW:ziE w (w.alloc (Ub (madeCells #[M J 0,.slice U 0 0,.slice U 0 0,.slice U 0 0] (ns.length*4)) 118)):=(zf.refl _ _).alloc _;have a4:H (∃K T V,DT _ w.heap.size ns 0 0 K T V):=⟨_,_,_,DT.made w ns⟩
   have HW:=ze hW;clear hW bG;generalize w.alloc (Ub (madeCells #[M J 0,.slice U 0 0,.slice U 0 0,.slice U 0 0] (ns.length*4)) 118)=W at *;obtain⟨t,no,rfl⟩:=HN.adr hp;go_loopw[22] (λx wr=>∃i:Nat,x=M J i/\i<=ns.length/\H (ziE w wr)/\H (∃K T V,DT wr w.heap.size ns i i K T V)/\H (∀j,j<i->xI ns j)) (λx _=>ns.length-(intOf x).toNat)
   case atStart=>exact⟨0,rfl,oa,HW,a4,λj hj=>absurd hj (zgV _)⟩
   case round=>
    clear HW a4;obtain⟨i,rfl,hi,y,HD,P⟩:=hrel;by_cases ad:i<ns.length
    .have hn:=zgE ad;generalize ns[i]=n at *;have HC:H (∀V,ziE w V->V.cell? ⟨t,no+i*4,U⟩=I (M J n.kind)/\V.cell? ⟨t,no+i*4+1,U⟩=I (M J n.parent)/\V.cell? ⟨t,no+i*4+2,U⟩=I (Uc n.key)/\V.cell? ⟨t,no+i*4+3,U⟩=I (Uc n.text)):=λV kk=>by
      have c:=(HN.keep kk).all.2 i n hn;exact⟨c 0 _ rfl,c 1 _ rfl,c 2 _ rfl,c 3 _ rfl⟩
     obtain⟨c0,c1,c2,c3⟩:=zb HC wr y;obtain⟨K,T,V,m⟩:=zb HD;obtain⟨z,z0,-⟩:=m.c0 i ad;obtain⟨c,hc⟩:∃c:Bool,c=G↔FitP ns i:=by
      by_cases q:FitP ns i
      .exact⟨G,λ_=>q,λ_=>rfl⟩
      .simp_all
     have az:H (∀V,ziE wr V->Uh prog 46 #[.slice (I ⟨t,no,U⟩) ns.length nc,M J (i:Nat)] V λx B=>x=R (C c)/\ziE V B):=λV k=>(fits_any ns _ i V (HN.keep (y.trans k)) ad aE bx).mono (by
      rintro e B ⟨b,rfl,hb,N⟩;exact⟨by rw[zhM.2 (hb.trans hc.symm)],N⟩)
     obtain⟨d,hd⟩:∃d,d=(txB n.key && txB n.text):=⟨_,rfl⟩
     have aB:H (∀V,ziE wr V->Uh prog 47 #[Ua (I ⟨w.heap.size,i*4,U⟩),Uf #[M J n.kind,M J n.parent,Uc n.key,Uc n.text]] V λx B=>x=R (C d)/\∃r s l,B=((l.setCell ⟨w.heap.size,i*4,U⟩ (M J n.kind)).setCell ⟨w.heap.size,i*4+1,U⟩ r).setCell ⟨w.heap.size,i*4+2,U⟩ s/\(txB n.key=G->txB n.text=G->yY l V.heap.size r n.key/\yY l V.heap.size s n.text)/\ziE V l):=λV k=>by
      have hs:=(HS.keep (y.trans k))
      refine(zgr w.heap.size (i*4) n.kind n.parent n.key n.text z _ _ V a hs.sents hs.size (zg k _ _ z0 id) (zg k _ _ (m.c1 i ad) id) (zg k _ _ (m.c2 i ad) id) (λq=>zo k _ m.lt (m.fz q) id)).mono ?_;rintro x B ⟨r,s,l,rfl,h⟩;exact⟨by rw[hd],r,s,l,h⟩
     have ai:=ze (node_fit hn);have ax:=ze m;have Hc:=ze hc;have Hd:=ze hd;have Hn:=ze hn;have b2:=m.lt;clear m z0 hc hd hn HD;have aA:H (∀V B,ziE wr V->(∃r s l,B=((l.setCell ⟨w.heap.size,i*4,U⟩ (M J n.kind)).setCell ⟨w.heap.size,i*4+1,U⟩ r).setCell ⟨w.heap.size,i*4+2,U⟩ s/\(txB n.key=G->txB n.text=G->yY l V.heap.size r n.key/\yY l V.heap.size s n.text)/\ziE V l)->ziE w B/\∃r s l,B=((l.setCell ⟨w.heap.size,i*4,U⟩ (M J n.kind)).setCell ⟨w.heap.size,i*4+1,U⟩ r).setCell ⟨w.heap.size,i*4+2,U⟩ s/\(txB n.key=G->txB n.text=G->yY l wr.heap.size r n.key/\yY l wr.heap.size s n.text)/\ziE wr l):=λV B k ⟨r,s,l,h1,h2,h3⟩=>⟨(y.trans (k.trans h3)).later (h1 ▸ (((zf.refl (zt w.heap.size) _).mine _ _).mine _ _).mine _ _) (λi hi=>by unfold zt at hi;omega),r,s,l,h1,λq1 q2=>⟨(h2 q1 q2).1.base k.size,(h2 q1 q2).2.base k.size⟩,k.trans h3⟩
     cases c
     ·have F:H (Qb ns i):=O (O ⟨hp,aE,i,ad,P,fun q=>Bool.noConfusion (Hc.2 (ai.1 q).1),rfl⟩);clear ai ax Hc Hd Hn aB aA P;go_upto_region 9 with fail;refine wp_region_held_drew (S:=fun _=>True) (by kernel_rfl) trivial (fun _=>?_);refine wpAnyH_take (i:=0) rfl (by kernel_rfl) (by kernel_rfl) (by kernel_rfl) (fun _ _ _ h=>h) (Or.inl ⟨rfl,fun _ _=>rfl⟩) trivial ?_;refine wpAnyH_take (i:=1) rfl (by kernel_rfl) (by kernel_rfl) (by kernel_rfl) (fun _ _ _ h=>h) (Or.inl ⟨rfl,fun _ _=>rfl⟩) trivial ?_;refine wpAnyH_all (rs:=[2]) (by kernel_rfl) (by simp) (fun q hq=>?_);obtain rfl:q=2:=(by simpa using hq);refine wpOp_step (o := { dst := I 27, op := .call { callee := .value (.func 46), args := #[.tmp 25, .tmp 26], argTypes := #[25, 3] }, type := 4, pos := "document.go:33", after := #[{ on := 0, ground := .data }, { on := 1, ground := .data }], guard := U }) rfl (fun KK a9 => ?_);rw [if_pos (by rfl)];simp only [Act.put,zg1,zhi,zhj,zha,zg9,zg8];have bt:=ze a9;clear a9;go_wp2_with (first |(go_at_call 46;refine (zb az _ (by first |exact zf.refl _ _ |exact (zf.refl _ _).drew |exact (zf.refl _ _).drewN _)).mono ?_;rintro e l ⟨rfl,ab⟩;have u:H (ziE wr l):=zf.trans (by first |exact zf.refl _ _ |exact (zf.refl _ _).drew |exact (zf.refl _ _).drewN _) ab;have aj:=ze (zb HC l (y.trans u));clear ab));refine zb bt _ _ ⟨trivial,?_⟩;refine wpAnyH_take (i:=3) (v:=C G) rfl (by kernel_rfl) (by kernel_rfl) (by kernel_rfl) (fun _ _ _ h=>h) (Or.inl ⟨rfl,fun _ _=>rfl⟩) trivial ?_;simp only [Act.put,zg1,zhi,zhj,zha,zg9,zg8];refine wpAnyH_take (i:=4) (v:=C G) rfl (by kernel_rfl) (by kernel_rfl) (by kernel_rfl) (fun _ _ _ h=>h) (Or.inl ⟨rfl,fun _ _=>rfl⟩) trivial ?_;simp only [Act.put,zg1,zhi,zhj,zha,zg9,zg8];refine wpAnyH_take (i:=5) (v:=undef) rfl (by kernel_rfl) (by kernel_rfl) (by kernel_rfl) (fun _ _ _ h=>h) (Or.inr ⟨by rfl,rfl⟩) trivial ?_;simp only [Act.put,zg1,zhi,zhj,zha,zg9,zg8];refine wpAnyH_take (i:=6) (v:=undef) rfl (by kernel_rfl) (by kernel_rfl) (by kernel_rfl) (fun _ _ _ h=>h) (Or.inr ⟨by rfl,rfl⟩) trivial ?_;simp only [Act.put,zg1,zhi,zhj,zha,zg9,zg8];refine wpAnyH_take (i:=7) (v:=undef) rfl (by kernel_rfl) (by kernel_rfl) (by kernel_rfl) (fun _ _ _ h=>h) (Or.inr ⟨by rfl,rfl⟩) trivial ?_;simp only [Act.put,zg1,zhi,zhj,zha,zg9,zg8];refine wpAnyH_take (i:=8) (v:=undef) rfl (by kernel_rfl) (by kernel_rfl) (by kernel_rfl) (fun _ _ _ h=>h) (Or.inr ⟨by rfl,rfl⟩) trivial ?_;simp only [Act.put,zg1,zhi,zhj,zha,zg9,zg8];refine wpAnyH_take (i:=9) (v:=undef) rfl (by kernel_rfl) (by kernel_rfl) (by kernel_rfl) (fun _ _ _ h=>h) (Or.inr ⟨by rfl,rfl⟩) trivial ?_;simp only [Act.put,zg1,zhi,zhj,zha,zg9,zg8];refine wpAnyH_take (i:=10) (v:=undef) rfl (by kernel_rfl) (by kernel_rfl) (by kernel_rfl) (fun _ _ _ h=>h) (Or.inr ⟨by rfl,rfl⟩) trivial ?_;simp only [Act.put,zg1,zhi,zhj,zha,zg9,zg8];refine wpAnyH_take (i:=11) (v:=undef) rfl (by kernel_rfl) (by kernel_rfl) (by kernel_rfl) (fun _ _ _ h=>h) (Or.inr ⟨by rfl,rfl⟩) trivial ?_;simp only [Act.put,zg1,zhi,zhj,zha,zg9,zg8];refine wpAnyH_take (i:=12) (v:=undef) rfl (by kernel_rfl) (by kernel_rfl) (by kernel_rfl) (fun _ _ _ h=>h) (Or.inr ⟨by rfl,rfl⟩) trivial ?_;simp only [Act.put,zg1,zhi,zhj,zha,zg9,zg8];refine wpAnyH_take (i:=13) (v:=undef) rfl (by kernel_rfl) (by kernel_rfl) (by kernel_rfl) (fun _ _ _ h=>h) (Or.inr ⟨by rfl,rfl⟩) trivial ?_;simp only [Act.put,zg1,zhi,zhj,zha,zg9,zg8];refine wpAnyH_take (i:=14) (v:=C G) rfl (by kernel_rfl) (by kernel_rfl) (by kernel_rfl) (fun _ _ _ h=>h) (Or.inl ⟨rfl,fun _ _=>rfl⟩) trivial ?_;simp only [Act.put,zg1,zhi,zhj,zha,zg9,zg8];refine wpAnyH_done (by kernel_rfl) ?_ _;have t9:=zg (y.trans u) _ _ s9 (fun f=>f);go_wp2_with (go_at_call 45;refine (jg _ _ _ _).mono ?_;rintro e w2 ⟨v,rfl,hv,N⟩);go_ret2;exact zb HE _ _ _ ((y.trans u).trans N) (hv.base (y.trans u).size) F
     .cases d
      .have F:H (Qb ns i):=O (O ⟨hp,aE,i,ad,P,λq=>(by have:=ai.1 q;have e:=zb Hd;rw[this.2.1,this.2.2] at e;cases e),rfl⟩);clear ai ax Hc Hd Hn P;go_upto_region 9 with fail;go_region_held3(λB=>B.cell? ⟨t,no+i*4,U⟩=I (M J n.kind)/\B.cell? ⟨t,no+i*4+1,U⟩=I (M J n.parent)/\B.cell? ⟨t,no+i*4+2,U⟩=I (Uc n.key)/\B.cell? ⟨t,no+i*4+3,U⟩=I (Uc n.text)) (first|go_keep|exact aj|exact av) (first|(go_at_call 46;refine(zb az _ (by first|exact zf.refl _ _|exact(zf.refl _ _).drew|exact(zf.refl _ _).drewN _)).mono ?_;rintro e l ⟨rfl,ab⟩;have u:H (ziE wr l):=zf.trans (by first|exact zf.refl _ _|exact(zf.refl _ _).drew|exact(zf.refl _ _).drewN _) ab;have aj:=ze (zb HC l (y.trans u));clear ab)|(go_at_call 47;refine(zb aB _ (zf.trans u (by first|exact zf.refl _ _|exact(zf.refl _ _).drew|exact(zf.refl _ _).drewN _))).mono ?_;rintro e w3 ⟨rfl,an⟩;have X:=ze (zb aA _ _ (zf.trans u (by first|exact zf.refl _ _|exact(zf.refl _ _).drew|exact(zf.refl _ _).drewN _)) an);have av:=ze (zb HC w3 X.1);clear an));have t9:=zg X.1 _ _ s9 id;go_wp2_with(go_at_call 45;refine(jg _ _ _ _).mono ?_;rintro e w4 ⟨v,rfl,hv,N⟩);go_ret2;exact zb HE _ _ _ (X.1.trans N) (hv.base X.1.size) F
      .have aR:xI ns i:=ai.2 ⟨Hc.1 rfl,Bool.and_eq_true_iff.1 Hd.symm⟩;have a5:H (∀j,j<i+1->xI ns j):=λj hj=>by
        by_cases e:j=i
        .subst e;exact aR
        .exact zb P j oa
       have ak:H (txB n.key=G/\txB n.text=G):=Bool.and_eq_true_iff.1 Hd.symm;have bu:=ze aR;clear ai Hc Hd P aR;go_upto_region 9 with fail;go_region_held3(λB=>B.cell? ⟨t,no+i*4,U⟩=I (M J n.kind)/\B.cell? ⟨t,no+i*4+1,U⟩=I (M J n.parent)/\B.cell? ⟨t,no+i*4+2,U⟩=I (Uc n.key)/\B.cell? ⟨t,no+i*4+3,U⟩=I (Uc n.text)) (first|go_keep|exact aj|exact av) (first|(go_at_call 46;refine(zb az _ (by first|exact zf.refl _ _|exact(zf.refl _ _).drew|exact(zf.refl _ _).drewN _)).mono ?_;rintro e l ⟨rfl,ab⟩;have u:H (ziE wr l):=zf.trans (by first|exact zf.refl _ _|exact(zf.refl _ _).drew|exact(zf.refl _ _).drewN _) ab;have aj:=ze (zb HC l (y.trans u));clear ab)|(go_at_call 47;refine(zb aB _ (zf.trans u (by first|exact zf.refl _ _|exact(zf.refl _ _).drew|exact(zf.refl _ _).drewN _))).mono ?_;rintro e w3 ⟨rfl,an⟩;have X:=ze (zb aA _ _ (zf.trans u (by first|exact zf.refl _ _|exact(zf.refl _ _).drew|exact(zf.refl _ _).drewN _)) an);have av:=ze (zb HC w3 X.1);clear an));have bC:=zb X;obtain⟨aS,r,s,b8,e1,e2,e3⟩:=bC;have L:=ax.read Hn e3 (e2 ak.1 ak.2).1 (e2 ak.1 ak.2).2 e1;generalize (λq=>if q=i then r else K q)=K' at L;generalize (λq=>if q=i then s else T q)=T' at L;have aO:=ze aS;have aQ:=zb HC w3 aS;clear e1 e2 e3 ak ax X av aS aB aA az aj;by_cases aX:i=0
       .have di:¬(0:Int)<(i:Int):=oa;have br:H (∃K T V,DT w3 w.heap.size ns (i+1) (i+1) K T V):=⟨_,_,_,L.root aX⟩
        clear L aX aQ;go_wp2_with fail;exact⟨⟨i+1,by go_num,oa,aO,br,a5⟩,by simp[intOf];omega⟩
       .have di:(0:Int)<(i:Int):=oa;obtain⟨n',bH,_,a0⟩:=zb bu;cases(zb Hn).symm.trans bH;unfold Nd.there at a0;rw[iN aX] at a0;obtain⟨bI,bJ,-⟩:=a0;obtain⟨p,aZ⟩:∃p:Nat,n.parent=(p:Int):=⟨n.parent.toNat,oa⟩
        have ar:p<ns.length:=oa;have x1:=aQ.2.1;rw[aZ] at x1;obtain⟨la,lc,hV,-⟩:=jI (L.v p ar);have x3:=L.c3 p ar;rw[hV] at x3;have xf:=L.fz (p*4+3);have bf:kI ns p i=G:=(by unfold kI;rw[zb Hn];simp[aZ];omega);have bE:∀q,q≠p->kI ns q i=Z:=λq hq=>(by unfold kI;rw[zb Hn];simp[aZ];omega);have b0:=Qa ns p i;have m:=ze L;clear aQ L bI bJ;go_wp2_with(at_builtin;refine zb ?_);refine ze ?_;have b3:=aO.size;have bF:=m.lt;refine yq _ rfl _ _ 27 rfl (w.heap.size+1) 3 i0 (M J 0) 1 8 underlying27 bD bK bL bM rfl od (.slice la (xt ns p i).length lc) _ (yr (xt ns p i)) rfl (zgO (hV ▸ m.v p ar) _) _ 1 1 [M J (i:Nat)] rfl rfl (cell_one_new _ _ _) (λx hx=>by simp at hx;subst hx;rfl) (by unfold maxLen;omega) oa ou ?_;intro v2 w2 aY be bj;obtain⟨va,vn,vc,rfl⟩:=zr aY;have aq:zf (λg=>(V p).ownBlock=I g) w3 w2:=((zf.refl _ _).alloc _).grown be (λj hj=>Q (by rw[hV];exact hj));have bh:w2.ownsRow (w.heap.size+1) 3 1 (.slice va vn vc) (xt ns p (i+1)).length (yr (xt ns p (i+1))):=by
         rw[xt,bf];simpa [yr] using aY
        have bk:∀g,(Value.slice va vn vc).ownBlock=I g->(V p).ownBlock=I g\/w3.heap.size<=g:=λg hg=>(bj g hg).imp (λe=>by rw[hV];exact e) (λe=>by simp at e;omega);have bs:H (∃K T V,DT (w2.setCell ⟨w.heap.size,p*4+3,U⟩ (.slice va vn vc)) w.heap.size ns (i+1) (i+1) K T V):=⟨_,_,_,m.app ar bf bE aq bh bk⟩
        have hb:=λg hg=>(zh (m.v p ar) g hg).1;have nt:¬(V p).ownBlock=I w.heap.size:=λe=>(by have:=hb _ e;omega);have y3:=zg aq _ _ x3 nt;have yf:=zo aq ⟨w.heap.size,p*4+3,U⟩ bF xf nt;have bv:H (ziE w (w2.setCell ⟨w.heap.size,p*4+3,U⟩ (.slice va vn vc))):=(aO.laterB aq (λg hg=>by have:=hb g hg;omega)).laterB ((zf.refl (λg=>g=w.heap.size) _).setCell (Q rfl) _) (λi hi=>oa);clear aY be bj aq bh bk hb nt m x3 xf;go_wp2_with fail;exact⟨⟨i+1,by go_num,oa,bv,bs,a5⟩,by simp[intOf];omega⟩
    .obtain rfl:i=ns.length:=oa;have F:H (DRead w a ns (R (Ue #[.slice (I ⟨w.heap.size,0,U⟩) ns.length ns.length,Ui])) wr):=by
      obtain⟨K,T,V,h⟩:=zb HD;exact⟨y,O ⟨⟨hp,aE,P⟩,_,K,T,V,zgH _,rfl,h⟩⟩
     clear HD P;go_wp2_with fail;go_ret2;exact F
def Sc.Num (s:Sc)(k m:Nat):Prop:=(0<=s.fmt/\s.fmt<=6/\s.keys.length=s.subs.length/\s.keys.length<=6)/\(∀(i:Nat) x,s.subs[i]?=I x->(k:Int)<x/\x<m)/\(s.more = -2\/s.more = -1\/((k:Int)<s.more/\s.more<m))
theorem beh_any (a b:Nat)(n c o:Int)(w:E)(f:w.cell? ⟨a,0,U⟩=I (M J n))(g:w.cell? ⟨b,0,U⟩=I (M J c)):Uh prog 95 #[M J o,Ua (I ⟨a,0,U⟩),Ua (I ⟨b,0,U⟩)] w λx B=>x=R (C (decide (n<o) && decide (o<c)))/\B=w:=by
 by_cases d:n<o<;>by_cases e:o<c
 all_goals
  go_enter func95,ntmps95;go_wp2_with fail;go_ret;exact⟨by simp;try omega,rfl⟩
theorem ze0 (s:Sc)(k m gb o:Nat)(ka:Option Addr)(kc:Nat)(sa:Option Addr)(sc:Nat)(w:E)(hL:ScL w s ka kc sa sc)(z:∀(j:Nat) u,(s.cells ka kc sa sc)[j]?=I u->w.cell? ⟨gb,o+j,U⟩=I u)(_az:k<9/\m<9):Uh prog 50 #[Ua (I ⟨gb,o,U⟩),M J (k:Nat),M J (m:Nat)] w (Says w (s.Num k m)):=by
 have p:ziE w ((w.alloc (Ub #[M J (k:Nat)] 3)).alloc (Ub #[M J (m:Nat)] 3)):=((zf.refl _ _).alloc _).alloc _;have c2:=zg p _ _ (z 2 _ rfl) id;have c3:=zg p _ _ (z 3 _ rfl) id;have c4:=zg p _ _ (z 4 _ rfl) id;have c5:=zg p _ _ (z 5 _ rfl) id;have n1:((w.alloc (Ub #[M J (k:Nat)] 3)).alloc (Ub #[M J (m:Nat)] 3)).cell? ⟨w.heap.size,0,U⟩=I (M J (k:Nat)):=zg ((zf.refl (λ_=>False) _).alloc _) _ _ (zm w _ rfl _ _ 0 _ rfl) id;have n2:((w.alloc (Ub #[M J (k:Nat)] 3)).alloc (Ub #[M J (m:Nat)] 3)).cell? ⟨w.heap.size+1,0,U⟩=I (M J (m:Nat)):=zm (w.alloc _) _ ov _ _ 0 _ rfl;have HL:=ze (hL.keep p);have l:=ze p;clear hL z p;go_enter func50,ntmps50;go_upto_region 1 with fail;generalize (w.alloc (Ub #[M J (k:Nat)] 3)).alloc (Ub #[M J (m:Nat)] 3)=W at *;by_cases P:0<=s.fmt/\s.fmt<=6
 .obtain⟨ag,ah⟩:=P;by_cases F:s.keys.length<=6
  .have d6:¬(6:Int)<(s.keys.length:Int):=oa;by_cases L:s.keys.length=s.subs.length
   .have de:((s.subs.length:Int) != (s.keys.length:Int))=Z:=ou;have S:H (∀b:Bool,(b=G↔(∀(i:Nat) x,s.subs[i]?=I x->(k:Int)<x/\x<m)/\(s.more = -2\/s.more = -1\/((k:Int)<s.more/\s.more<m)))->(b=G↔s.Num k m)):=λb h=>h.trans ⟨λq=>⟨⟨ag,ah,L,F⟩,q⟩,And.right⟩;have aE:s.subs.length<=6:=oa;clear L F;go_wp2_with fail;go_quiet(fail);go_upto_region 7 with fail;have X:H (ziE W (W.drewN nq)):=(zf.refl _ _).drewN _;clear c2 c3 c4 d6 de ag ah;go_loopw[47] (λx wr=>∃i:Nat,x=M J i/\i<=s.subs.length/\H (ziE W wr)/\H (∀(j:Nat) x,j<i->s.subs[j]?=I x->(k:Int)<x/\x<m)) (λx _=>s.subs.length-(intOf x).toNat);exact⟨0,rfl,oa,X,λj _ h=>absurd h (zgV _)⟩;clear X;obtain⟨i,rfl,hi,g,N⟩:=hrel;have t:H (∀x:Int,_):=λx=>beh_any w.heap.size (w.heap.size+1) k m x wr (zg g _ _ n1 id) (zg g _ _ n2 id);have e5:=zg g _ _ c5 id;by_cases ai:i<s.subs.length
    .obtain⟨gs,os,rfl,af⟩:=(HL.s).get ai;have es:=zg g _ _ af id;have hx:=zgE ai;generalize s.subs[i]=x at *;have HX:=ze hx;clear af hx e5;by_cases v:(k:Int)<x/\x<m
     ·(have B:(decide ((k:Int)<x) && decide (x<(m:Int)))=G:=(by simp[v]);have ao:H (∀(j:Nat) x,j<i+1->s.subs[j]?=I x->(k:Int)<x/\x<m):=λj y n c=>by by_cases e:j=i;subst e;cases(zb HX).symm.trans c;exact v;exact zb N j y oa c);have d:=ze (zb t x);rw[B] at d;clear v B t;go_wp2_with(go_at_fn 95;refine zb ?_);refine ze ?_;refine d.mono ?_;rintro e w1 ⟨rfl,rfl⟩;go_wp2_with fail;exact⟨⟨i+1,by go_num,oa,g,ao⟩,by simp[intOf];omega⟩
     have B:(decide ((k:Int)<x) && decide (x<(m:Int)))=Z:=(by simpa using v);have a:H (Z=G↔s.Num k m):=⟨λq=>Bool.noConfusion q,λq=>absurd (q.2.1 i x HX) v⟩
     have d:=ze (zb t x);rw[B] at d;clear v B t;go_wp2_with(go_at_fn 95;refine zb ?_);refine ze ?_;refine d.mono ?_;rintro e w1 ⟨rfl,rfl⟩;go_wp2_with fail;go_ret;exact⟨_,rfl,a,l.trans g⟩
    obtain rfl:i=s.subs.length:=oa;have T:H (∀(i:Nat) x,s.subs[i]?=I x->(k:Int)<x/\x<m):=λi x h=>zb N i x (zgG.1 h).1 h;have r:H (∀b:Bool,(b=G↔(s.more = -2\/s.more = -1\/((k:Int)<s.more/\s.more<m)))->(b=G↔s.Num k m)):=λb h=>zb S b (h.trans ⟨λq=>⟨T,q⟩,And.right⟩);have d:=ze (zb t s.more);clear S T N t;by_cases c:s.more = -2
    .have b2:(s.more == -2)=G:=(by simp[c]);have a:H (s.Num k m):=(zb r G ⟨λ_=>Q c,λ_=>rfl⟩).1 rfl;clear c r d;go_wp2_with fail;go_ret;exact⟨_,rfl,⟨λ_=>zb a,λ_=>rfl⟩,l.trans g⟩
    have b2:(s.more == -2)=Z:=(by simp[c]);by_cases n:s.more = -1
    .have b1:(s.more == -1)=G:=(by simp[n]);have a:H (s.Num k m):=(zb r G ⟨λ_=>O (Q n),λ_=>rfl⟩).1 rfl;clear n c r d;go_wp2_with fail;go_ret;exact⟨_,rfl,⟨λ_=>zb a,λ_=>rfl⟩,l.trans g⟩
    have b1:(s.more == -1)=Z:=(by simp[n]);have a:=ze ((zb r (decide ((k:Int)<s.more) && decide (s.more<(m:Int))) ⟨λq=>O (O (by simpa using q)),λq=>(q.resolve_left c).resolve_left n|> λq=>by simpa using q⟩));clear n c r;go_wp2_with(go_at_fn 95;refine zb ?_);refine ze ?_;refine d.mono ?_;rintro e w1 ⟨rfl,rfl⟩;go_wp2_with fail;go_ret;exact⟨_,rfl,a,l.trans g⟩
   have de:((s.subs.length:Int) != (s.keys.length:Int))=G:=ou;have a:H (Z=G↔s.Num k m):=⟨λq=>Bool.noConfusion q,λq=>absurd q.1.2.2.1 L⟩
   clear L;go_wp2_with fail;go_quiet(fail);go_wp2_with fail;go_ret;exact⟨_,rfl,a,l.drewN _⟩
  have d6:(6:Int)<(s.keys.length:Int):=oa;have a:H (Z=G↔s.Num k m):=⟨λq=>Bool.noConfusion q,λq=>absurd q.1.2.2.2 F⟩
  clear F;go_wp2_with fail;go_quiet(fail);go_wp2_with fail;go_ret;exact⟨_,rfl,a,l.drewN _⟩
 have a:H (Z=G↔s.Num k m):=⟨λq=>Bool.noConfusion q,λq=>absurd ⟨q.1.1,q.1.2.1⟩ P⟩
 have h:s.fmt<0\/(0<=s.fmt/\6<s.fmt):=oa;clear P;rcases h with h|⟨h,h'⟩
 all_goals
  go_wp2_with fail;go_ret;exact⟨_,rfl,a,l⟩
open Sm (Stp Tree yJ)
def Rdy (w:E)(R:Nat->Prop)(i:Nat)(t:Tree):Prop:=
 (∃p v k,Tk p v t k)/\∃(b a c:Nat->Prop) (f h F:Nat) (W:Int->Bool) (d:List Int) (e:List Ent) (j:Y),Sto w a c i f h 64 (prg F t).2 (qH (prg F t).2 (prg F t).1 W d) e j/\Env w b a f (prg F t).2 (prg F t).1 W d/\e.length<=64/\WF F t/\Asks (prg F t).2 W/\∀g,b g\/a g\/c g->R g
theorem Rdy.keep {P R:Nat->Prop}{w B:E}{e:Nat}{t:Tree}(h:Rdy w R e t)(k:zf P w B)(d:∀g,R g->¬P g)(s:¬P 11):Rdy B R e t:=by obtain⟨r,f,j,i,v,u,F,W,l,m,x,n,b,o,p,q,c⟩:=h;exact⟨r,f,j,i,v,u,F,W,l,m,x,n.keep k (λg a=>d g (c g (O (Q a)))) (λg a=>d g (c g (O (O a)))),⟨b.prog.keep k (λg a=>d g (c g (Q a))),b.tab.keep k s,b.ao,b.ot,λg a=>zgJ (b.alt g a) k.size⟩,o,p,q,c⟩
theorem Rdy.young {R:Nat->Prop}{w B:E}{a:Nat}{t:Tree}(h:Rdy w R a t)(k:ziE w B):Rdy B R a t:=h.keep k (λ_ _ f=>f) id
def FindT (w B:E)(R:Nat->Prop)(b:Nat)(t:Tree)(s:ByteArray)(x:Ending):Prop:=x=.returned (C (hitT t s))/\Rdy B (λg=>(R g\/w.heap.size<=g)/\g<B.heap.size) b t/\∃a:Nat->Prop,(∀g,a g->R g/\g≠11)/\zf a w B
theorem rdy_find (f:Nat)(t:Tree)(s:ByteArray)(R:Nat->Prop)(l:Y)(w:E)(h:Rdy w R f t)(T:txB s=G)(hL:jo w l (zV s (s.size+1) 0))(S:∀g,l.ownBlock=I g->¬R g/\g<w.heap.size):Uh prog 40 #[Ua (I ⟨f,0,U⟩),l,.slice U 0 0] w λx B=>FindT w B R f t s x:=by
 obtain⟨⟨p,v,ts,d⟩,z,L,ab,pb,X,F,W,P,es,sv,h1,e,h3,o,u,c⟩:=h;have y:=qR.of s;have au:=y.len;have av:(zF s).2<0/\s.size<=400:=by unfold txB at T;simpa using T
 have hl:(zV s (s.size+1) 0).length<=400:=by have e1:=KG s;omega
 refine(zfB f pb X 64 _ z L ab _ W P es sv l (.slice U 0 0) _ [] w e h1 od od h3 hL (λg a=>⟨λq=>(S g a).1 (c g (O (Q q))),(S g a).2⟩) hl (Q ⟨rfl,U,0,rfl⟩) ov).mono ?_;rintro x B ⟨r,i,O',D',ag,ap,rfl,hr,b⟩;refine⟨?_,⟨⟨p,v,ts,d⟩,z,O',D',pb,X,F,W,P,ag,ap,b.sto,b.env,b.len,o,u,λg a=>?_⟩,L,λg a=>⟨c g (O (Q a)),e.ot g a⟩,b.only⟩
 .obtain⟨k,q,hA⟩:=zcC t s;have aj:hitT t s=G↔∃i j,i<=(zF s).1.length/\j<=(zF s).1.length/\altR (zF s).1 67 t.kids i j:=by rcases hA with⟨m,_⟩|⟨_,m,_⟩|⟨_,_,_,_,m⟩;omega;omega;exact m
  rw[zhM.2 (hr.trans ((found_iff e.prog.at'.stl e.prog.at'.fit).trans (Iff.trans ⟨λ⟨i,j,N,b2,n⟩=>⟨i,j,oa,oa,(zbw d.tok d.k5 o _ _ _).1 ((zbz y u N).1 n)⟩,λ⟨i,j,N,b2,n⟩=>⟨i,j,oa,oa,(zbz y u oa).2 ((zbw d.tok d.k5 o _ _ _).2 n)⟩⟩ aj.symm)))]
 rcases a with a|a|a;exact⟨Q (c g (Q a)),b.env.alt g a⟩;exact⟨(b.oo g a).imp_left (λq=>c g (O (Q q))),b.sto.olt g a⟩;exact⟨(b.dd g a).imp_left (λq=>c g (O (O q))),b.sto.dlt g a⟩
theorem Y8 (v:Int)(t:Tree)(j:List Tok)(w:E)(a:Nat->Addr)(c:Start w a)(hT:TabAt w)(d:Tk p v t j):Uh prog 97 #[Uc p] w λx B=>∃h,x=R (Ue #[Ua (I ⟨h,0,U⟩),Ui])/\Rdy B (λg=>w.heap.size<=g/\g<B.heap.size) h t/\ziE w B:=by
 have HP:=ze (d.pat w a c);have k:=ze d.ok;have z:=ze hT;have hv:=d.v1;have HI:H (∃p v j,Tk p v t j):=⟨p,v,j,d⟩
 clear c hT d;go_enter func97,ntmps97;go_wp2_with(first|(go_at_call 35;refine HP.mono ?_;rintro e s ⟨⟨T,y,F,rfl,o,ad⟩,m⟩;have HQ:H (Yv F s s.heap.size (Ud T y) t):=⟨zG.mono (λg b _=>b) F _ _ o,(zb k F).1,(zb k F).2.1⟩;have HW:=ze o.wf;have am:=ze ad;clear o ad)|(go_at_call 37;refine(newX F _ (Ud T y) _ HQ ⟨_,_,rfl⟩ (by have:=zb am;omega)).mono ?_;rintro e u ⟨r,W,l,rfl,X,hW,L,N,P,S,n⟩;have ai:=ze (⟨X.bound,L.cutsB,N,P,S⟩:ProgX u _ r _ _ W l);have HA:=ze (asks_of (zb k F).2.2 hW);clear X hW L N P S)|(go_at_call 38;refine(snew_any r 64 (prg F t).2 (qH (prg F t).2 (prg F t).1 W l) u).mono ?_;rintro e w5 ⟨h,mb,rfl,hs,hm,aa,i⟩;have ak:=ze aa;clear aa));go_ret2;have aq:=m.size;have ar:=n.size;have au:=i.size;have av:=z.lt;have hX:=zb ai;have c:=zb ak;have o1:=c.olt h c.osb;have o2:=c.olt mb c.omb;refine⟨h,rfl,⟨HI,λg=>s.heap.size<=g/\g<u.heap.size,_,_,r,mb,F,W,l,[],_,c,⟨(hX.keep i (λ_ _ f=>f)),(z.keep ((m.trans n).trans i) id),λg b q=>(by rcases q with q|q<;>omega),λg b=>(by rcases b with q|q<;>omega),λg b=>oa⟩,ov,HW,HA,λg b=>?_⟩,(m.trans n).trans i⟩;rcases b with b|b|b
 exact⟨oa,oa⟩;omega;exact b.elim
theorem Vu (b:Start w a)(h:Bd p):Uh prog 97 #[Uc p] w λx B=>∃T y,x=R (Ue #[Ua U,Ud T y])/\ziE w B:=by obtain⟨k,q,_,_,_,c,_⟩:=h;have d:=ze (c w a b);clear c b;go_enter func97,ntmps97;go_wp2_with(go_at_call 35;refine d.mono ?_;rintro e j ⟨v,rfl,i,f⟩;obtain⟨g,rfl⟩:=i.form);go_ret2;exact⟨_,_,rfl,f⟩
open Sm (Tree)
theorem Rdy.mono {R R':Nat->Prop}{w:E}{a:Nat}{t:Tree}(h:Rdy w R a t)(q:∀g,R g->R' g):Rdy w R' a t:=by obtain⟨o,b,d,c,s,r,F,W,e,f,u,i,j,k,l,m,n⟩:=h;exact⟨o,b,d,c,s,r,F,W,e,f,u,i,j,k,l,m,λg p=>q g (n g p)⟩
structure Sts (w:E)(ow:Nat->Nat)(L:List (Nat×Tree)):Prop where
 r:∀(i:Nat) sb t,L[i]?=I (sb,t)->Rdy w (λg=>ow g=i+1/\g<w.heap.size) sb t
 z:ow 11=0
 n:∀g,w.heap.size<=g->ow g=0
section
variable {w B:World} {ow:Nat->Nat} {L:List (Nat×Tree)}
theorem Sts.keep {P:Nat->Prop}(h:Sts w ow L)(k:zf P w B)(b:∀g,P g->ow g=0/\g≠11):Sts B ow L:=
 ⟨λi c t e=>((h.r i c t e).keep k (λg a q=>by have:=(b g q).1;omega) (λq=>(b _ q).2 rfl)).mono (λg a=>⟨a.1,zgJ a.2 k.size⟩),h.z,λg a=>h.n g (zgN k.size a)⟩
def owF (ow:Nat->Nat)(n a i g:Nat):Nat:=if g<n then ow g else if g<a then i+1 else 0
theorem Sts.more {b:Nat}{t:Tree}(h:Sts w ow L)(k:ziE w B)(f:Rdy B (λg=>w.heap.size<=g/\g<B.heap.size) b t)(j:11<w.heap.size):Sts B (owF ow w.heap.size B.heap.size L.length) (L++[(b,t)]):=by
 have n:=k.size;refine⟨λi l m e=>?_,by unfold owF;rw[IN j];exact h.z,λg a=>by unfold owF;rw[iN oa,iN oa]⟩;unfold owF;by_cases c:i<L.length;rw[zgW c] at e;exact((h.r i l m e).young k).mono (λg a=>⟨by rw[IN a.2];exact a.1,zgJ a.2 k.size⟩);have d:=(zgG.1 e).1;simp at d;obtain rfl:i=L.length:=by omega
 rw[zg2 (zgH _),zhV] at e;cases e;exact f.mono (λg a=>⟨by rw[iN oa,IN a.2],a.2⟩)
theorem zcH (i b:Nat)(t:Tree)(s:ByteArray)(c:Y)(w:E)(h:Sts w ow L)(d:L[i]?=I (b,t))(v:txB s=G)(r:jo w c (zV s (s.size+1) 0))(l:∀g,c.ownBlock=I g->ow g=0/\g<w.heap.size):Uh prog 40 #[Ua (I ⟨b,0,U⟩),c,.slice U 0 0] w λx B=>x=R (C (hitT t s))/\Sts B (owF ow w.heap.size B.heap.size i) L/\zf (λg=>ow g=i+1) w B:=by
 refine(rdy_find b t s _ c w (h.r i b t d) v r (λg a=>⟨λq=>by have:=(l g a).1;omega,(l g a).2⟩)).mono ?_;rintro x B ⟨rfl,u,f,m,k⟩;have n:∀g,f g->ow g=i+1:=λg a=>(m g a).1.1;have N:11<w.heap.size:=by obtain⟨_,P,f,S,pb,mb,F,W,T,X,sv,h1,p,_⟩:=h.r i b t d;exact p.tab.lt
 refine⟨rfl,⟨λj y z e=>?_,by unfold owF;rw[IN N];exact h.z,λg a=>by unfold owF;have:=k.size;rw[iN oa,iN oa]⟩,k.mono (λg _ a=>n g a)⟩;by_cases o:j=i;subst o;cases d.symm.trans e;refine u.mono (λg a=>⟨?_,a.2⟩);unfold owF;split;omega;rw[IN a.2];refine((h.r j y z e).keep k (λg a q=>by have:=n g q;omega) (λq=>(m _ q).2 rfl)).mono (λg a=>⟨?_,zgJ a.2 k.size⟩);unfold owF;rw[IN a.2];exact a.1
end
def StG (w:E)(ow:Nat->Nat)(L:List (Nat×Tree))(B:E):Prop:=∃m,Sts B m L/\(∀g,g<w.heap.size->m g=ow g)/\zf (λg=>ow g≠0) w B
structure PS0 (w:E)(ow:Nat->Nat)(L:List (Nat×Tree))(s:Sc)(q:Nat):Prop where
 o:ow q=0
 p:(s.hp=Z/\w.cell? ⟨q,0,U⟩=I (Ua U))\/(s.hp=G/\∃(i sb:Nat) (t:Tree),L[i]?=I (sb,t)/\jb s.pat=I t/\w.cell? ⟨q,0,U⟩=I (Ua (I ⟨sb,0,U⟩)))
 f:(s.fmt=0/\w.cell? ⟨q,1,U⟩=I (Ua U))\/(s.fmt≠0/\∃(i sb:Nat) (t:Tree),L[i]?=I (sb,t)/\jb (Zq s.fmt)=I t/\w.cell? ⟨q,1,U⟩=I (Ua (I ⟨sb,0,U⟩)))
 u:∃a c,w.cell? ⟨q,3,U⟩=I (.slice a s.subs.length c)/\∀(j:Nat) x,s.subs[j]?=I x->∃g,a=I ⟨g,0,U⟩/\(ow g=0/\g<q)/\w.cell? ⟨g,j,U⟩=I (M J x)
 m:w.cell? ⟨q,4,U⟩=I (M J s.more)
structure PS (w:E)(ow:Nat->Nat)(L:List (Nat×Tree))(s:Sc)(q:Nat):Prop extends PS0 w ow L s q where
 k:∃a c,w.cell? ⟨q,2,U⟩=I (.slice a s.keys.length c)/\∀(j:Nat) key,s.keys[j]?=I key->∃(g i sb:Nat) (t:Tree),a=I ⟨g,0,U⟩/\(ow g=0/\g≠q)/\w.cell? ⟨g,j,U⟩=I (Ua (I ⟨sb,0,U⟩))/\L[i]?=I (sb,t)/\jb key=I t
section
variable {w B b:World} {ow m:Nat->Nat} {L:List (Nat×Tree)} {s:Sc} {q:Nat}
theorem StG.refl (h:Sts w ow L):StG w ow L w:=⟨ow,h,λ_ _=>rfl,zf.refl _ _⟩
theorem PS0.cell {P:Nat->Prop}(k:zf P w B)(c:∀g,P g->ow g≠0)(b:∀g,g<w.heap.size->ow g=0->m g=0){g j:Nat}{v:Y}(a:w.cell? ⟨g,j,U⟩=I v)(e:ow g=0):B.cell? ⟨g,j,U⟩=I v/\m g=0:=⟨zg k _ _ a (λf=>c _ f e),b _ (zgF w _ a) e⟩
theorem PS0.keep0 (h:PS0 w ow L s q)(c:∀{g j v},w.cell? ⟨g,j,U⟩=I v->ow g=0->g<=q->B.cell? ⟨g,j,U⟩=I v/\m g=0):PS0 B m L s q:=by have d:∀{j v},w.cell? ⟨q,j,U⟩=I v->B.cell? ⟨q,j,U⟩=I v:=λe=>(c e h.o (zgH _)).1;refine⟨(c h.m h.o (zgH _)).2,h.p.imp (λ⟨a,b⟩=>⟨a,d b⟩) (λ⟨a,i,o,t,f,k,l⟩=>⟨a,i,o,t,f,k,d l⟩),h.f.imp (λ⟨a,b⟩=>⟨a,d b⟩) (λ⟨a,i,o,t,f,k,l⟩=>⟨a,i,o,t,f,k,d l⟩),?_,d h.m⟩;obtain⟨a,p,y,z⟩:=h.u;refine⟨a,p,d y,λj x F=>?_⟩;obtain⟨g,r,n,u⟩:=z j x F;have:=c u n.1 (Nat.le_of_lt n.2);exact⟨g,r,⟨this.2,n.2⟩,this.1⟩
theorem PS0.keep {P:Nat->Prop}(h:PS0 w ow L s q)(k:zf P w B)(c:∀g,P g->ow g≠0)(b:∀g,g<w.heap.size->ow g=0->m g=0):PS0 B m L s q:=h.keep0 (λa e _=>PS0.cell k c b a e)
theorem PS.keep {P:Nat->Prop}(h:PS w ow L s q)(k:zf P w B)(f:∀g,P g->ow g≠0)(e:∀g,g<w.heap.size->ow g=0->m g=0):PS B m L s q:=by have c:∀{g j v},w.cell? ⟨g,j,U⟩=I v->ow g=0->B.cell? ⟨g,j,U⟩=I v/\m g=0:=PS0.cell k f e;refine⟨h.toPS0.keep k f e,?_⟩;obtain⟨a,l,r,u⟩:=h.k;refine⟨a,l,(c r h.o).1,λj key x=>?_⟩;obtain⟨g,i,y,t,n,b,d,o,p⟩:=u j key x;exact⟨g,i,y,t,n,⟨(c d b.1).2,b.2⟩,(c d b.1).1,o,p⟩
theorem zcI (i c:Nat)(t:Tree)(a:ByteArray)(b:Y)(w:E)(h:Sts w ow L)(n:L[i]?=I (c,t))(o:txB a=G)(k:jo w b (zV a (a.size+1) 0))(l:∀g,b.ownBlock=I g->ow g=0/\g<w.heap.size):Uh prog 40 #[Ua (I ⟨c,0,U⟩),b,.slice U 0 0] w λx B=>x=R (C (hitT t a))/\StG w ow L B:=
 (zcH i c t a b w h n o k l).mono (λ_ _ ⟨d,f,j⟩=>⟨d,_,f,λg m=>by unfold owF;rw[IN m],j.mono (λg _ e=>oa)⟩)
theorem zaE {p s:ByteArray}{t:Tree}(h:jb p=I t):vU p s=hitT t s:=by unfold vU;rw[h]
theorem zgt (b:ByteArray)(l:Y)(w:E)(h:Sts w ow L)(j:PS w ow L s q)(k:txB b=G)(c:jo w l (zV b (b.size+1) 0))(f:∀g,l.ownBlock=I g->ow g=0/\g<w.heap.size):Uh prog 139 #[Ua (I ⟨q,0,U⟩),l] w λx B=>x=R (C (!(s.hp && !vU s.pat b)))/\StG w ow L B:=by
 obtain⟨v,y,rfl⟩:=c.slice;rcases j.p with⟨a,r⟩|⟨a,i,u,t,m,n,r⟩
 .have d:H (StG w ow L w):=StG.refl h;rw[a];clear a h j c f k;go_enter func139,ntmps139;go_wp2_with fail;go_ret;exact⟨rfl,d⟩
 have d:=ze (zcI i u t b _ w h m k c f);rw[a,zaE n];clear a h j c f k m n;go_enter func139,ntmps139;go_wp2_with(go_at_call 40;refine d.mono ?_;rintro e z ⟨rfl,o⟩;have p:=ze o;clear o);go_ret;exact⟨ov,p⟩
theorem zgu (b:ByteArray)(l:Y)(w:E)(h:Sts w ow L)(j:PS w ow L s q)(k:txB b=G)(c:jo w l (zV b (b.size+1) 0))(f:∀g,l.ownBlock=I g->ow g=0/\g<w.heap.size):Uh prog 140 #[Ua (I ⟨q,0,U⟩),l] w λx B=>x=R (C (!((s.fmt != 0) && !vU (Zq s.fmt) b)))/\StG w ow L B:=by
 obtain⟨v,y,rfl⟩:=c.slice;rcases j.f with⟨a,r⟩|⟨a,i,u,t,m,n,r⟩
 .have d:H (StG w ow L w):=StG.refl h;rw[show(s.fmt != 0)=Z by simp[a]];clear a h j c f k;go_enter func140,ntmps140;go_wp2_with fail;go_ret;exact⟨rfl,d⟩
 have d:=ze (zcI i u t b _ w h m k c f);rw[show(s.fmt != 0)=G by simp[a],zaE n];clear a h j c f k m n;go_enter func140,ntmps140;go_wp2_with(go_at_call 40;refine d.mono ?_;rintro e z ⟨rfl,o⟩;have p:=ze o;clear o);go_ret;exact⟨ov,p⟩
end
def CG (w:E)(ow:Nat->Nat)(T:List (Nat×Tree))(l:List Int)(a:Y)(wr:E):Prop:=∃m,Sts wr m T/\(∀g,g<w.heap.size->m g=ow g)/\zf (λg=>ow g≠0) w wr/\(∀g,a.ownBlock=I g->m g=0)/\wr.ownsRow w.heap.size 3 1 a l.length (yr l)
theorem zgv {ow:Nat->Nat}{T:List (Nat×Tree)}{s:Sc}{q:Nat}(key:ByteArray)(tv:Y)(w:E)(h:Sts w ow T)(hq:PS w ow T s q)(hs:txB key=G)(N:jo w tv (zV key (key.size+1) 0))(ac:∀g,tv.ownBlock=I g->ow g=0/\g<w.heap.size)(he:s.keys.length<=s.subs.length)(hl:s.keys.length<=6)(a7:11<w.heap.size):Uh prog 141 #[Ua (I ⟨q,0,U⟩),tv] w λx B=>∃lv,x=R (Ue #[lv,C (s.agn key).2])/\CG w ow T (s.agn key).1 lv B:=by
 obtain⟨i0,aQ,aU,aV,aW⟩:=info_parts Tryz.infoInt;have H0:H (CG w ow T (s.hits key 0) (.slice U 0 0) w):=⟨ow,h,λ_ _=>rfl,zf.refl _ _,λg e=>by simp[Value.ownBlock] at e,zgP _ _ _ _⟩
 have HQ:=ze hq;have ar:H (∀(wr:E) (m:Nat->Nat),zf (λg=>ow g≠0) w wr->(∀g,g<w.heap.size->m g=ow g)->jo wr tv (zV key (key.size+1) 0)/\∀g,tv.ownBlock=I g->m g=0/\g<wr.heap.size):=λwr m k e=>⟨N.keepP k (λg a f=>f (ac g a).1),λg a=>⟨(e g (ac g a).2).trans (ac g a).1,zgJ (ac g a).2 k.size⟩⟩
 obtain⟨ta,tc,rfl⟩:=N.slice;obtain⟨ka,kc,k2,aD⟩:=hq.k;have HK:=ze aD;clear h hq N ac aD;go_enter func141,ntmps141;go_upto_region 2 with fail;go_loopw[4,13] (λlv x wr=>∃i:Nat,x=M J i/\i<=s.keys.length/\H (CG w ow T (s.hits key i) lv wr)) (λ_ x _=>s.keys.length-(intOf x).toNat);exact⟨0,rfl,oa,H0⟩;clear H0;obtain⟨i,rfl,hi,HG⟩:=hrel;obtain⟨m,W,z,o,g4,X⟩:=zb HG;have hP:=HQ.keep o (λ_ f=>f) (λg a e=>(z g a).trans e);obtain⟨la,ln,lc,rfl⟩:=zr X;obtain rfl:ln=(s.hits key i).length:=by rcases X.2 with⟨e,h0⟩|⟨g,a2,a3,e,_⟩<;>cases e;exact h0.symm;rfl
 have y4:=hP.m;by_cases aE:i<s.keys.length
 ·((obtain⟨g,j,sb,t,rfl,⟨e2,-⟩,e3,e4,e5⟩:=zb HK i s.keys[i] (zgE aE);have ek:=zg o _ _ e3 (λf=>f e2);have aS:=s.hits_len key i;have N:=zb ar wr m o z;have HF:H (Uh prog _ _ wr _):=zcH j sb t key _ wr W e4 hs N.1 N.2;have hh:s.hits key (i+1)=s.hits key i++(if hitT t key then [s.subs[i]' oa] else []):=by simp only[Sc.hits];rw[zg3,zgE aE,zg3,zgE (show i<s.subs.length by omega)];show _++(if vU s.keys[i] key then _ else _)=_;rw[zaE e5];rfl);have aG:=zgE (show i<s.subs.length by omega);generalize s.subs[i]=x at *;generalize hitT t key=b at *;have HX:H (∀d,Sts d (owF m wr.heap.size d.heap.size j) T->zf (λg=>m g=j+1) wr d->(∀g,g<w.heap.size->owF m wr.heap.size d.heap.size j g=ow g)/\zf (λg=>ow g≠0) w d/\(∀g,(Value.slice la (s.hits key i).length lc).ownBlock=I g->owF m wr.heap.size d.heap.size j g=0)/\d.ownsRow w.heap.size 3 1 (.slice la (s.hits key i).length lc) (s.hits key i).length (yr (s.hits key i))/\PS d (owF m wr.heap.size d.heap.size j) T s q):=λd n u=>by have s3:=o.size;have eo:∀g,g<wr.heap.size->owF m wr.heap.size d.heap.size j g=m g:=λg a=>(by unfold owF;rw[IN a]);refine⟨λg a=>(eo g oa).trans (z g a),o.laterO u (λg a e=>by rw[<-z g a];omega),λg a=>(eo g (zh X g a).2).trans (g4 g a),zl X u (λg a e=>by have:=g4 g a;omega),hP.keep u (λg e=>oa) (λg a e=>(eo g a).trans e)⟩);have HH:=ze hh;have au:=ze aG;have bb:=o.size;clear W z o g4 X hP N hh aG e2 e3 e4 e5 HG y4;cases b
  .have S:H (s.hits key (i+1)=s.hits key i):=(by show _=_;rw[zb HH];simp);go_wp2_with(go_at_call 40;refine HF.mono ?_;rintro e d ⟨rfl,n,u⟩);obtain⟨L,v,y,r,-⟩:=zb HX _ n u;exact⟨⟨i+1,by go_num,oa,⟨_,n,L,v,y,by rw[zb S];exact r⟩⟩,by simp[intOf];omega⟩
  (have S:H (s.hits key (i+1)=s.hits key i++[x]):=(by show _=_;rw[zb HH];simp);go_wp2_with(first|(go_at_call 40;refine HF.mono ?_;rintro e d ⟨rfl,n,u⟩;obtain⟨L,v,y,r,b5⟩:=zb HX _ n u;obtain⟨ua,uc,u1,hu⟩:=b5.u;obtain⟨gu,rfl,-,u2⟩:=hu i x au;have HB:=ze (Ur n (Ur L (Ur v (Ur y r))));clear n u L v y r b5 hu)|(at_builtin;refine zb ?_));refine ze ?_;obtain⟨n,L,v,y,r⟩:=zb HB;have s2:=v.size;refine yq _ rfl _ _ 27 rfl w.heap.size 3 i0 (M J 0) 1 8 underlying27 aQ aU aV aW rfl od (.slice la (s.hits key i).length lc) _ (yr (s.hits key i)) rfl (zgO r _) _ 1 1 [M J x] rfl rfl (cell_one_new _ _ _) (λx hx=>by simp at hx;subst hx;rfl) (by unfold maxLen;omega) oa ou ?_;intro v2 w2 an aA aF;have aK:H (CG w ow T (s.hits key (i+1)) v2 w2):=by have hk:zf (λg=>(Value.slice la (s.hits key i).length lc).ownBlock=I g) d w2:=((zf.refl _ _).alloc _).grown aA (λj hj=>Q hj);refine⟨_,n.keep hk (λg a=>⟨y g a,λe=>?_⟩),L,v.laterO hk (λg a e=>?_),λg a=>(aF g a).elim (y g) (λe=>n.n g (by simp at e;omega)),by rw[zb S];simpa [yr] using an⟩;have:=(zh r g a).1;omega;have:=(zh r g e).1;omega);obtain⟨va,vn,vc,rfl⟩:=zr an;clear an aA aF n L v y r HB HX HF HH au S u1 u2;go_wp2_with fail;exact⟨⟨i+1,by go_num,oa,aK⟩,by simp[intOf];omega⟩
 (obtain rfl:i=s.keys.length:=oa;have p:s.agn key=if s.hits key s.keys.length≠[]\/s.more = -2 then(s.hits key s.keys.length,Z) else if s.more = -1 then([],G) else([s.more],Z):=rfl);have aS:=s.hits_len key s.keys.length;have S:H (CG w ow T [] (.slice U 0 0) wr):=⟨m,W,z,o,λg e=>by simp[Value.ownBlock] at e,zgP _ _ _ _⟩
 (have HM:H (CG w ow T [s.more] (.slice (I ⟨wr.heap.size,0,U⟩) 1 1) (wr.alloc (Ub #[M J s.more] 3))):=by have sz:=o.size;refine⟨m,W.keep ((zf.refl (λ_=>False) _).alloc _) (λ_ f=>f.elim),z,o.alloc _,λg e=>W.n g ?_,⟨rfl,O ⟨_,_,#[M J s.more],rfl,oa,zhR,zgH _,by unfold maxLen;omega,rfl,rfl⟩⟩⟩;simp[Value.ownBlock] at e;omega);generalize s.hits key s.keys.length=l at *;clear W z o g4 X hP ar HK;by_cases F:l=[]/\¬s.more = -2
 .obtain⟨rfl,F⟩:=F;have d2:(s.more == -2)=Z:=(by simp[F]);rw[iN (by simp[F])] at p;by_cases h1:s.more = -1
  .rw[IN h1] at p;have d1:(s.more == -1)=G:=(by simp[h1]);have P:=ze p;clear p h1 F;go_wp2_with fail;go_ret2;rw[zb P];exact⟨_,rfl,S⟩
  rw[iN h1] at p;have d1:(s.more == -1)=Z:=(by simp[h1]);have P:=ze p;clear p h1 F;go_wp2_with fail;go_ret2;rw[zb P];exact⟨_,rfl,HM⟩
 rw[IN (by rcases Classical.em (s.more = -2) with c|c;exact O c;exact Q (λe=>F ⟨e,c⟩))] at p;have P:=ze p;have h3:(l=[]/\s.more = -2)\/0<l.length:=(by grind);clear p F;rcases h3 with⟨rfl,h3⟩|h3
 .have d2:(s.more == -2)=G:=(by simp[h3]);clear h3;go_wp2_with fail;go_ret2;rw[zb P];exact⟨_,rfl,HG⟩
 have h4:(0:Int)<(l.length:Int):=oa;go_wp2_with fail;go_ret2;rw[zb P];exact⟨_,rfl,HG⟩
theorem JO (g k:Nat)(a:Nat->Addr)(w:E)(f:yt w a)(c:kh w a)(h:k=9\/k=10)(b:w.cell? ⟨g,0,U⟩=I (yj a k)):Uh prog 25 #[Ud 122 (Ua (I ⟨g,0,U⟩))] w λe B=>e=R (M J (k+1:Nat))/\B=w:=by
 have d:=ze (c.is g k b oa oa);obtain⟨_,_,s,j⟩:=c;obtain⟨i,l,m,n,o,p,q,r⟩:=f;clear b m;unfold yj at i l n o p q r s j;rcases h with rfl|rfl
 all_goals
  go_enter func25,ntmps25;go_wp2_with(go_at_call 48;refine ziD (zb d _ od od) ?_);go_ret;exact⟨rfl,rfl⟩
theorem zgw (a:Option Addr)(n c:Nat)(l:List Int)(w:E)(h:km w (λ_=>True) (.slice a n c) l)(hl:l.length<=6):Uh prog 96 #[.slice a n c] w λx B=>∃b m d,x=R (.slice b m d)/\B.ownsRow w.heap.size 3 1 (.slice b m d) l.length (yr l)/\ziE w B:=by
 obtain⟨X,F,S,T,W⟩:=info_parts Tryz.infoInt;have r:∀V:E,(binOp .eql 27 (.slice a n c) (.slice U 0 0)).run prog V=.ok (C a.isNone) V:=nil_eqI a n c;cases a with
 |none=>
  obtain⟨rfl,-⟩:l=[]/\True:=by rcases h with⟨h,_⟩|⟨g,aa,z,e,_⟩;exact⟨h,trivial⟩;cases e
  clear h;simp only[Option.isNone] at r;go_enter func96,ntmps96;go_wp2_with fail;go_ret;exact⟨_,_,_,rfl,zgP _ _ _ _,zf.refl _ _⟩
 |some p=>
  obtain⟨rfl,k⟩:n=l.length/\∀(j:Nat) u,(yr l)[j]?=I u->w.cell? (p.add j)=I u:=by rcases h with⟨rfl,a',c',e⟩|⟨g,aa,z,e,_,k⟩;cases e;exact⟨rfl,λj u i=>by simp[yr] at i⟩;cases e;refine⟨rfl,λj u i=>?_⟩;rw[yr,zgZ] at i;obtain⟨x,P,rfl⟩:=zhd.1 i;rw[Addr.add_lit];exact k j x P
  have t:=ze k;clear h k;simp only[Option.isNone] at r;go_enter func96,ntmps96;go_wp2_with(at_builtin;refine zb ?_);refine ze ?_;refine yq _ rfl _ _ 27 rfl w.heap.size 3 X (M J 0) 1 8 underlying27 F S T W rfl od (.slice (I ⟨w.heap.size,0,U⟩) 0 0) 0 [] rfl ⟨rfl,O ⟨_,0,#[],rfl,zgH _,zhR,zgH _,by unfold maxLen;omega,rfl,rfl⟩⟩ p l.length c (yr l) rfl (by simp[yr]) (λj u i=>zg ((zf.refl (λ_=>False) w).alloc _) _ _ (zb t j u i) id) (λu i=>by obtain⟨x,_,rfl⟩:=zhF.1 i;rfl) (by unfold maxLen;omega) oa ov ?_;intro v2 s o q N;obtain⟨va,vn,vc,rfl⟩:=zr o;have v:H (ziE w s):=((zf.refl _ _).alloc _).grown q (λj L=>O (by simp[Value.ownBlock] at L;omega));have y:H (s.ownsRow w.heap.size 3 1 (.slice va vn vc) l.length (yr l)):=by show World.ownsRow _ _ _ _ _ _ _;rw[zg6,zho] at o;exact o
  clear o q N;go_wp2_with fail;go_ret;exact⟨_,_,_,rfl,y,v⟩
section
variable {w B:World} {ow:Nat->Nat} {L:List (Nat×Tree)} {s:Sc} {q:Nat}
theorem Yk (a:List (Nat×Tree)){i:Nat}{x:Nat×Tree}(h:L[i]?=I x):(L++a)[i]?=I x:=by rw[zgW (zgG.1 h).1];exact h
theorem PS0.longer (h:PS0 w ow L s q)(b:List (Nat×Tree)):PS0 w ow (L++b) s q:=
 ⟨h.o,h.p.imp_right (λ⟨a,i,e,t,c,d⟩=>⟨a,i,e,t,Yk b c,d⟩),h.f.imp_right (λ⟨a,i,e,t,c,d⟩=>⟨a,i,e,t,Yk b c,d⟩),h.u,h.m⟩
theorem PS.longer (h:PS w ow L s q)(b:List (Nat×Tree)):PS w ow (L++b) s q:=by obtain⟨a,c,m,n⟩:=h.k;refine⟨h.toPS0.longer b,a,c,m,λj key o=>?_⟩;obtain⟨g,i,p,t,d,e,f,k,l⟩:=n j key o;exact⟨g,i,p,t,d,e,f,Yk b k,l⟩
theorem yH {g j:Nat}{x:Nat}{u v:Y}(h:w.cell? ⟨g,j,U⟩=I v)(c:¬(g=q/\j=x)):(w.setCell ⟨q,x,U⟩ u).cell? ⟨g,j,U⟩=I v:=
 (zgI _ _ _ _ (by intro e;exact c (by have a:=congrArg Addr.block e;have b:=congrArg Addr.off e;simp at a b;exact⟨a.symm,b.symm⟩))).trans h
theorem PS0.usub (h:PS0 w ow L s q){x:Nat}(m:x≠3)(u:Y):∃a c,(w.setCell ⟨q,x,U⟩ u).cell? ⟨q,3,U⟩=I (.slice a s.subs.length c)/\∀(j:Nat) y,s.subs[j]?=I y->∃g,a=I ⟨g,0,U⟩/\(ow g=0/\g<q)/\(w.setCell ⟨q,x,U⟩ u).cell? ⟨g,j,U⟩=I (M J y):=by obtain⟨a,c,i,k⟩:=h.u;refine⟨a,c,yH i (λe=>m e.2.symm),λj y l=>?_⟩;obtain⟨g,d,b,f⟩:=k j y l;exact⟨g,d,b,yH f (λe=>by have:=b.2;omega)⟩
theorem PS0.setp {i c:Nat}{t:Tree}(h:PS0 w ow L { s with hp:=Z } q)(k:L[i]?=I (c,t))(l:jb s.pat=I t)(j:s.hp=G):PS0 (w.setCell ⟨q,0,U⟩ (Ua (I ⟨c,0,U⟩))) ow L s q:=by
 have m:w.cell? ⟨q,0,U⟩=I (Ua U):=by rcases h.p with⟨_,e⟩|⟨e,_⟩;exact e;cases e
 exact⟨h.o,O ⟨j,i,c,t,k,l,zgL _ _ _ m⟩,h.f.imp (λ⟨a,b⟩=>⟨a,yH b ov⟩) (λ⟨a,i,c,t,d,f,g⟩=>⟨a,i,c,t,d,f,yH g ov⟩),h.usub od _,yH h.m ov⟩
theorem PS0.setf {i c:Nat}{t:Tree}(h:PS0 w ow L { s with fmt:=0 } q)(k:L[i]?=I (c,t))(l:jb (Zq s.fmt)=I t)(j:s.fmt≠0):PS0 (w.setCell ⟨q,1,U⟩ (Ua (I ⟨c,0,U⟩))) ow L s q:=by
 have m:w.cell? ⟨q,1,U⟩=I (Ua U):=by rcases h.f with⟨_,e⟩|⟨e,_⟩;exact e;exact absurd rfl e
 exact⟨h.o,h.p.imp (λ⟨a,b⟩=>⟨a,yH b ov⟩) (λ⟨a,i,c,t,d,f,g⟩=>⟨a,i,c,t,d,f,yH g ov⟩),O ⟨j,i,c,t,k,l,zgL _ _ _ m⟩,h.usub od _,yH h.m ov⟩
end
end
