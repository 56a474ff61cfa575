/- Validate, the program: a schema that is being read: its stores, one by one. -/
import Derived.Test.YtcgleficedipkaaGreatDoorYVaIVaT
namespace Go.Proofs.YtcgleficedipkaaGreatDoor
open Option renaming none->U,some->I
open Value renaming int->M,slice->K,bool->C,pointer->Ua,string->Uc,iface->Ud,tuple->Ue,nilIface->Ui
open IntKind renaming i64->J
open Bool renaming false->Z,true->G
open _root_.Go.Proofs.Tryz renaming prog->V
open Go renaming World->E,Value->Y,Calls->Uh
open Go.RowKit renaming Hid->H
open Or renaming inr->O,inl->Q
open Ending renaming returned->R
open Obj renaming cells->Ub
open _root_.Go.Proofs.Tryz
variable {w:World}{oo:Nat->Nat}{g:Nat}(f:Int)
section
open Go.RowKit
open Sm (Tree)
def Sc.Pats (s:Sc):Prop:=(s.hp=G->(jb s.pat).isSome=G)/\∀(i:Nat) key,s.keys[i]?=I key->(jb key).isSome=G
def lowO (w:E)(oo:Nat->Nat)(g:Nat):Nat:=if w.heap.size<=g then oo g else 1
theorem Ka (h:w.heap.size<=g):lowO w oo g=oo g:=IN h
theorem v7 (h:lowO w oo g=0):w.heap.size<=g/\oo g=0:=by unfold lowO at h;split at h;exact⟨‹_›,h⟩;cases h
def SRead (w:E)(ow:Nat->Nat)(T:List (Nat×Tree))(s:Sc)(x:Ending)(b:E):Prop:=ziE w b/\((¬s.Pats/\∃X y,x=R (Ue #[Ua U,Ud X y]))\/(s.Pats/\∃q c a,x=R (Ue #[Ua (I ⟨q,0,U⟩),Ui])/\w.heap.size<=q/\Sts b a (T++c)/\(∀g,g<w.heap.size->a g=ow g)/\PS b (lowO w a) (T++c) s q))
structure RK (w:E)(ow:Nat->Nat)(T:List (Nat×Tree))(q:Nat)(s:Sc)(kv:Y)(xs:List Y)(wx:E)(L:List (Nat×Tree))(oo:Nat->Nat):Prop where
 pre:∃T',L=T++T'
 st:Sts wx oo L
 eo:∀g,g<w.heap.size->oo g=ow g
 ps:PS0 wx (lowO w oo) L s q
 c2:wx.cell? ⟨q,2,U⟩=I kv
 fz:∀j,wx.frozen? ⟨q,j,U⟩=Z
 on:ziE w wx
 ob:∀g,kv.ownBlock=I g->oo g=0
 row:wx.ownsRow (q+1) 104 1 kv xs.length xs
 key:∀(j:Nat) key,j<xs.length->s.keys[j]?=I key->∃(i sb:Nat) (t:Tree),xs[j]?=I (Ua (I ⟨sb,0,U⟩))/\L[i]?=I (sb,t)/\jb key=I t
def RD (w:E)(ow:Nat->Nat)(T:List (Nat×Tree))(q:Nat)(s:Sc)(wx:E):Prop:=∃L oo,RK w ow T q s (K U 0 0) [] wx L oo
section
variable {w wx w1 l:World} {ow oo:Nat->Nat} {T L:List (Nat×Tree)} {s a:Sc} {q sb i:Nat} {t:Tree} {kv v2 v:Value} {xs:List Value}
theorem RD.start (h:Sts w ow T)(k:ziE w w1)(i:w1.ownsRow w.heap.size 3 1 v s.subs.length (yr s.subs)):RD w ow T w1.heap.size { s with hp:=Z,fmt:=0 } (w1.alloc (Ub #[Ua U,Ua U,K U 0 0,v,M J s.more] 223)):=by have c:=λ(j:Nat) u h=>zm w1 _ rfl #[Ua U,Ua U,K U 0 0,v,M J s.more] 223 j u h;have l:=(zf.refl (λ_=>False) w1).alloc (Ub #[Ua U,Ua U,K U 0 0,v,M J s.more] 223);have m:=k.trans l;refine⟨T,ow,⟨[],(zhc _).symm⟩,h.keep m (λ_ f=>f.elim),λ_ _=>rfl,⟨(Ka k.size).trans (h.n _ k.size),Q ⟨rfl,c 0 _ rfl⟩,Q ⟨rfl,c 1 _ rfl⟩,?_,c 4 _ rfl⟩,c 2 _ rfl,λj=>zu w1 _ rfl _ _ j,m,λg e=>by simp[Value.ownBlock] at e,zgP _ _ _ _,λj _ d=>absurd d (zgV j)⟩;obtain⟨a,n,rfl,o⟩:=jI i;refine⟨a,n,c 3 _ rfl,λj x d=>?_⟩;obtain⟨g,rfl,p⟩:=o j (M J x) (by rw[yr,zgZ,d];rfl);have b:=zh i g rfl;exact⟨g,rfl,⟨(Ka b.1).trans (h.n g b.1),b.2⟩,zg l _ _ p id⟩
theorem RK.more (h:RK w ow T q s kv xs wx L oo)(k:ziE wx w1)(p:Rdy w1 (λg=>wx.heap.size<=g/\g<w1.heap.size) sb t)(x:11<w.heap.size):RK w ow T q s kv xs w1 (L++[(sb,t)]) (owF oo wx.heap.size w1.heap.size L.length):=by
 have y:=h.on.size;have r:=zgF wx _ h.c2;have b:∀g,g<wx.heap.size->owF oo wx.heap.size w1.heap.size L.length g=oo g:=λg a=>by unfold owF;rw[IN a]
 obtain⟨c,e⟩:=h.pre;refine⟨⟨c++[(sb,t)],by rw[e,zgX]⟩,h.st.more k p oa,λg a=>(b g oa).trans (h.eo g a),(h.ps.keep k (λ_ f=>f.elim) (λg a e=>(Ka (v7 e).1).trans ((b g a).trans (v7 e).2))).longer _,zg k _ _ h.c2 id,λj=>zo k _ r (h.fz j) id,h.on.trans k,λg a=>(b g (zh h.row g a).2).trans (h.ob g a),zl h.row k (λ_ _ f=>f),λj key n o=>?_⟩;obtain⟨i,u,v,d,l,m⟩:=h.key j key n o;exact⟨i,u,v,d,Yk _ l,m⟩
theorem zcJ (L:List (Nat×Tree))(x:Nat×Tree):(L++[x])[L.length]?=I x:=by rw[zg2 (zgH _),zhV];rfl
theorem RK.set (h:RK w ow T q a kv xs wx L oo){x:Nat}{u:Y}(i:x≠2)(k:w.heap.size<=q)(l:11<w.heap.size)(f:s.keys=a.keys)(d:PS0 (wx.setCell ⟨q,x,U⟩ u) (lowO w oo) L s q):RK w ow T q s kv xs (wx.setCell ⟨q,x,U⟩ u) L oo:=by have c:zf (λg=>g=q) wx (wx.setCell ⟨q,x,U⟩ u):=(zf.refl (λg=>g=q) _).setCell (Q rfl) _;exact⟨h.pre,h.st.keep c (λg b=>by subst b;exact⟨(v7 h.ps.o).2,oa⟩),h.eo,d,yH h.c2 (λe=>i e.2.symm),λj=>by rw[zk];exact h.fz j,h.on.laterB c (λg b=>oa),h.ob,zl h.row c (λg b e=>by have:=(zh h.row g b).1;omega),f ▸ h.key⟩
theorem RK.app (h:RK w ow T q s kv xs w1 L oo)(k:zf (λg=>kv.ownBlock=I g) w1 l)(x:l.ownsRow (q+1) 104 1 v2 (xs.length+1) (xs++[Ua (I ⟨sb,0,U⟩)]))(W:∀g,v2.ownBlock=I g->kv.ownBlock=I g\/w1.heap.size<=g)(hq:w.heap.size<=q)(ac:11<w.heap.size){y:ByteArray}(S:s.keys[xs.length]?=I y)(N:L[i]?=I (sb,t))(X:jb y=I t):RK w ow T q s v2 (xs++[Ua (I ⟨sb,0,U⟩)]) (l.setCell ⟨q,2,U⟩ v2) L oo:=by have ql:=zgF w1 _ h.c2;have d:∀g,kv.ownBlock=I g->q<g:=λg c=>(zh h.row g c).1;have B:∀g,v2.ownBlock=I g->q<g:=λg c=>(zh x g c).1;have r:zf (λg=>g=q) l (l.setCell ⟨q,2,U⟩ v2):=(zf.refl (λg=>g=q) _).setCell (Q rfl) _;have m:PS0 l (lowO w oo) L s q:=h.ps.keep0 (λF e c=>⟨zg k _ _ F (λf=>Nat.not_lt.2 c (d _ f)),e⟩);have z:=zg k _ _ h.c2 (λf=>Nat.lt_irrefl _ (d _ f));refine⟨h.pre,(h.st.keep k (λg c=>⟨h.ob g c,by have:=d g c;omega⟩)).keep r (λg c=>by subst c;exact⟨(v7 h.ps.o).2,oa⟩),h.eo,⟨m.o,?_,?_,m.usub od _,yH m.m ov⟩,zgL _ _ _ z,λj=>by rw[zk];exact zo k _ ql (h.fz j) (λf=>Nat.lt_irrefl _ (d _ f)),(h.on.laterB k (λg c=>by have:=d g c;omega)).laterB r (λg c=>oa),λg c=>(W g c).elim (h.ob g) (h.st.n g),?_,λj key P u=>?_⟩;exact m.p.imp (λ⟨a,b⟩=>⟨a,yH b ov⟩) (λ⟨a,i,sb,t,n,o,p⟩=>⟨a,i,sb,t,n,o,yH p ov⟩);exact m.f.imp (λ⟨a,b⟩=>⟨a,yH b ov⟩) (λ⟨a,i,sb,t,n,o,p⟩=>⟨a,i,sb,t,n,o,yH p ov⟩);rw[zgK];exact zl x r (λg c e=>by have:=B g c;omega);by_cases v:j<xs.length;rw[zgW v];exact h.key j key v u;obtain rfl:j=xs.length:=(by simp at P;omega);cases S.symm.trans u;exact⟨i,sb,t,by rw[zg2 (zgH _),zhV];rfl,N,X⟩
theorem RD.put {x:Nat}(b:RD w ow T q a wx)(k:ziE wx w1)(l:Rdy w1 (λg=>wx.heap.size<=g/\g<w1.heap.size) sb t)(f:11<w.heap.size)(j:w.heap.size<=q)(n:x≠2)(m:s.keys=a.keys)(h:∀(d:E) (oo:Nat->Nat) (c:List (Nat×Tree)) (i:Nat),PS0 d oo c a q->c[i]?=I (sb,t)->PS0 (d.setCell ⟨q,x,U⟩ (Ua (I ⟨sb,0,U⟩))) oo c s q):RD w ow T q s (w1.setCell ⟨q,x,U⟩ (Ua (I ⟨sb,0,U⟩))):=by obtain⟨L,oo,b⟩:=b;have e:=b.more k l f;exact⟨_,_,e.set n j f m (h _ _ _ _ e.ps (zcJ _ _))⟩
theorem RK.done (h:RK w ow T q s kv xs wx L oo)(n:w.heap.size<=q)(d:xs.length=s.keys.length):PS wx (lowO w oo) L s q:=by obtain⟨a,c,rfl,l⟩:=jI h.row;refine⟨h.ps,a,c,d ▸ h.c2,λj key b=>?_⟩;obtain⟨i,sb,t,e,f,k⟩:=h.key j key (by rw[d];exact(zgG.1 b).1) b;obtain⟨g,rfl,m⟩:=l j _ e;exact⟨g,i,sb,t,rfl,by have:=(zh h.row g rfl).1;exact⟨(Ka oa).trans (h.ob g rfl),oa⟩,m,f,k⟩
end
theorem fmt_some:∃t,jb (Zq f)=I t:=by
 cases hp:jb (Zq f) with
 |some t=>exact⟨t,rfl⟩
 |none=>
  obtain⟨_,_,_,_,_,_,a⟩:=ZK hp;have key:∀k:Nat,zc0 (fmtS k)=G:=λk=>by unfold fmtS;split<;>decide +kernel
  unfold Zq at a;split at a<;>(rw[key] at a;cases a)
theorem fmt_call (b:1<=f)(c:f<=6)(w:E):Uh V 98 #[M J f] w λx a=>x=R (Uc (Zq f))/\ziE w a:=by
 obtain⟨k,rfl⟩:=Int.eq_ofNat_of_zero_le (show 0<=f by omega);have e:Zq (k:Nat)=fmtS k:=by unfold Zq;split;rfl;obtain rfl:k=6:=oa;rfl
 rw[e];exact zdk k oa oa w
set_option maxHeartbeats 8000000
set_option maxRecDepth 1000000
theorem Tryz.infoStP:(prog.info? 104).map (λi=>(i.zero,i.size,i.bytes))=I (I (Ua U),1,8):=om
theorem zgx (s:Sc)(gb o:Nat)(ow:Nat->Nat)(T:List (Nat×Tree))(ka:Option Addr)(kc:Nat)(sa:Option Addr)(sc:Nat)(w:E)(a:Nat->Addr)(hS:Start w a)(hT:TabAt w)(h:Sts w ow T)(hL:ScL w s ka kc sa sc)(hC:∀(j:Nat) u,(s.cells ka kc sa sc)[j]?=I u->w.cell? ⟨gb,o+j,U⟩=I u)(hf:0<=s.fmt/\s.fmt<=6)(he:s.keys.length=s.subs.length)(hl:s.keys.length<=6):Uh V 51 #[Ua (I ⟨gb,o,U⟩)] w (SRead w ow T s):=by
 have aQ:H (∀b,ziE w b->_):=λb k=>zgw sa s.subs.length sc s.subs b (hL.s.keep k (λ_ _ f=>f)) oa;have P:H (∀b,ziE w b->∀(j:Nat) u,(s.cells ka kc sa sc)[j]?=I u->b.cell? ⟨gb,o+j,U⟩=I u):=λb k j u hu=>zg k _ _ (hC j u hu) id;have c4:=hC 4 _ rfl;have c5:=hC 5 _ rfl;have HS:=ze hS;have HT:=ze hT;have bl:=ze h;have HL:=ze hL;clear hC hS hT h hL;go_enter func51,ntmps51;go_upto_region 1 with fail;go_region_held3(λw'=>w'.cell? ⟨gb,o+4,U⟩=I (K sa s.subs.length sc)/\w'.cell? ⟨gb,o+5,U⟩=I (M J s.more)) (first|go_keep|exact⟨zb P _ ae 4 _ rfl,zb P _ ae 5 _ rfl⟩)
  (first|(go_at_call 96;refine(zb aQ _ (by first|exact(zf.refl _ _).drew|exact(zf.refl _ _).drewN _)).mono ?_;rintro e w1 ⟨ua,un,uc,rfl,a4,aY⟩;have HW:=ze a4;have ae:H (ziE w w1):=zf.trans (by first|exact(zf.refl _ _).drew|exact(zf.refl _ _).drewN _) aY;clear a4 aY))
 have N:=ze (RD.start (s:=s) bl ae HW);generalize hq:w1.heap.size=q at *;have aj:w.heap.size<=q:=hq ▸ ae.size;have ay:=HT.lt;generalize w1.alloc (Ub #[Ua U,Ua U,K U 0 0,K ua un uc,M J s.more] 223)=W at *;have c0:W.cell? ⟨gb,o,U⟩=I (C s.hp):=zb P W N.choose_spec.choose_spec.on 0 _ rfl;have c1:=zb P W N.choose_spec.choose_spec.on 1 _ rfl;clear HW c4 c5 aQ hq ae;go_upto_if 24 with fail;go_cut[5] (λe wx=>e=Ui/\H ((s.hp=G->(jb s.pat).isSome=G)/\RD w ow T q { s with fmt:=0 } wx))
 case first=>
  cases r:s.hp
  .rw[r] at c0;have p:H ((s.hp=G->(jb s.pat).isSome=G)/\RD w ow T q { s with fmt:=0 } W):=⟨λe=>(by rw[r] at e;cases e),by obtain⟨_,_,_,_,_,_⟩:=s;simp only at r;subst r;exact zb N⟩
   (clear N;go_wp2_with fail;all_goals go_meet);exact⟨rfl,p⟩
  rw[r] at c0;obtain⟨L,oo,B⟩:=zb N;have aa:=B.on;have d0:W.cell? ⟨q,0,U⟩=I (Ua U):=by rcases B.ps.p with⟨_,e⟩|⟨e,_⟩;exact e;cases e
  have f0:=B.fz 0;have aL:q<W.heap.size:=zgF W _ B.c2;have HK:H (∀b,ziE W b->b.cell? ⟨q,0,U⟩=I (Ua U)/\b.frozen? ⟨q,0,U⟩=Z):=λb k=>⟨zg k _ _ d0 id,zo k _ aL f0 id⟩
  have af:=ze (HS.keep aa);have aE:=ze (HT.keep aa id);have bi:=ze aa;clear B aa d0 f0;cases c:jb s.pat with
  |none=>
   have F:=ze (Vu s.pat W a af (ZK c));have p:H (¬s.Pats):=λe=>(by have:=e.1 r;rw[c] at this;cases this);clear c N;go_wp2_with(go_at_call 97;refine F.mono ?_;rintro e l ⟨X,y,rfl,m⟩;obtain⟨e0,ef⟩:=zb HK _ m);go_ret2;exact⟨(bi.trans m).laterB ((zf.refl (λg=>g=q) _).setCell (Q rfl) _) (λg hg=>oa),Q ⟨p,_,_,rfl⟩⟩
  |some t=>
   obtain⟨v,ts,hk⟩:=ZL c;have F:=ze (Y8 s.pat v t ts W a af aE hk);have p:H (∀l sb,ziE W l->Rdy l (λg=>W.heap.size<=g/\g<l.heap.size) sb t->(s.hp=G->(jb s.pat).isSome=G)/\RD w ow T q { s with fmt:=0 } (l.setCell ⟨q,0,U⟩ (Ua (I ⟨sb,0,U⟩)))):=λl sb k z=>⟨λ_=>by rw[c];rfl,N.put k z ay aj od rfl (λb oo LL i h hi=>PS0.setp (s:={ s with fmt:=0 }) h hi c r)⟩
   ((clear hk N;go_wp2_with(go_at_call 97;refine F.mono ?_;rintro e l ⟨sb,rfl,z,m⟩;obtain⟨e0,ef⟩:=zb HK _ m;have HR:=ze (zb p _ _ m z);clear z));all_goals go_meet);exact⟨rfl,HR⟩
 case rest=>
  obtain⟨rfl,HP⟩:=hcut;have HH:=ze HP.1;have S:=ze HP.2;have c2:=zb P wc S.choose_spec.choose_spec.on 2 _ rfl;have c3:=zb P wc S.choose_spec.choose_spec.on 3 _ rfl;clear N c0 c1 HP;go_upto_if 43 with fail;go_cut[5] (λe wx=>e=Ui/\H (RD w ow T q s wx))
  case first=>
   by_cases r:s.fmt=0
   ·(rw[r] at c2;have p:H (RD w ow T q s wc):=(by obtain⟨_,_,_,_,_,_⟩:=s;simp only at r;subst r;exact S);clear S;go_wp2_with fail;all_goals go_meet);exact⟨rfl,p⟩
   (have d:(s.fmt != 0)=G:=(by simp[r]);obtain⟨L,oo,B⟩:=zb S;have aa:=B.on;have d0:wc.cell? ⟨q,1,U⟩=I (Ua U):=by rcases B.ps.f with⟨_,e⟩|⟨e,_⟩;exact e;exact absurd rfl e);have f0:=B.fz 1;have aL:q<wc.heap.size:=zgF wc _ B.c2;have HK:H (∀b,ziE wc b->b.cell? ⟨q,1,U⟩=I (Ua U)/\b.frozen? ⟨q,1,U⟩=Z):=λb k=>⟨zg k _ _ d0 id,zo k _ aL f0 id⟩
   ((obtain⟨t,c⟩:=fmt_some s.fmt;obtain⟨v,ts,hk⟩:=ZL c;have be:=ze (fmt_call s.fmt oa oa wc);have F:H (∀b,ziE wc b->_):=λb k=>Y8 (Zq s.fmt) v t ts b a (HS.keep (aa.trans k)) (HT.keep (aa.trans k) id) hk;have p:H (∀l sb,ziE wc l->Rdy l (λg=>wc.heap.size<=g/\g<l.heap.size) sb t->RD w ow T q s (l.setCell ⟨q,1,U⟩ (Ua (I ⟨sb,0,U⟩)))):=λl sb k z=>S.put k z ay aj od rfl (λb oo LL i h hi=>PS0.setf h hi c r);clear B aa d0 f0 hk S c;go_wp2_with(first|(go_at_call 98;refine be.mono ?_;rintro e l ⟨rfl,m⟩;have hz:=m.size)|(go_at_call 97;refine(zb F _ m).mono ?_;rintro e w3 ⟨sb,rfl,z,aZ⟩;obtain⟨e0,ef⟩:=zb HK _ (m.trans aZ);have HR:=ze (zb p _ _ (m.trans aZ) (z.mono (λg hg=>⟨oa,hg.2⟩)));clear z)));all_goals go_meet);exact⟨rfl,HR⟩
  case rest=>
   obtain⟨rfl,aC⟩:=hcut;obtain⟨i0,bs,bv,bw,bx⟩:=info_parts Tryz.infoStP;have c3:=zb P wc aC.choose_spec.choose_spec.on 3 _ rfl;clear S P c2 hf;go_upto_region 12 with fail;go_loopw[64] (λx wr=>∃i:Nat,x=M J i/\i<=s.keys.length/\H (∃kv xs L oo,xs.length=i/\RK w ow T q s kv xs wr L oo)) (λx _=>s.keys.length-(intOf x).toNat);exact⟨0,rfl,oa,by obtain⟨L,oo,h⟩:=zb aC;exact⟨_,[],L,oo,rfl,h⟩⟩;clear aC c3;obtain⟨i,rfl,hi,HG⟩:=hrel;obtain⟨kv,xs,L,oo,rfl,n⟩:=zb HG;by_cases aJ:xs.length<s.keys.length
   .have ax:=zgE aJ;generalize s.keys[xs.length]=ky at ax;obtain⟨g,ak,aq,e,hc⟩:∃g ak aq,K ka s.keys.length kc=K (I ⟨g,ak,U⟩) s.keys.length aq/\∀(j:Nat) x,s.keys[j]?=I x->w.cell? ⟨g,ak+j,U⟩=I (Uc x):=by
     rcases(zb HL).k with⟨e,_⟩|⟨g,ak,aq,e,_,hc⟩;rw[e] at aJ;simp at aJ;exact⟨g,ak,aq,e,hc⟩
    have ck:=zg n.on _ _ (hc _ _ ax) id;cases e;obtain⟨va,vn,vc,rfl⟩:=zr n.row;have af:=ze (HS.keep n.on);have aE:=ze (HT.keep n.on id);have bj:=ze n;have HO:=ze n.on;have aR:=ze ax;clear n HG hc ax;cases c:jb ky with
    |none=>
     have F:=ze (Vu ky wr a af (ZK c));have p:H (¬s.Pats):=λe=>(by have:=e.2 _ _ aR;rw[c] at this;cases this);clear c;go_wp2_with(go_at_call 97;refine F.mono ?_;rintro e w1 ⟨X,y,rfl,m⟩);go_ret2;exact⟨HO.trans m,Q ⟨p,_,_,rfl⟩⟩
    |some t=>
     obtain⟨v,ts,hk⟩:=ZL c;have F:=ze (Y8 ky v t ts wr a af aE hk);have Hp:=ze c;clear hk c;go_wp2_with(first|(go_at_call 97;refine F.mono ?_;rintro e w1 ⟨sb,rfl,z,m⟩;have HM:=ze (bj.more m z ay);have e2:=HM.c2;clear z)|(at_builtin;refine zb ?_));refine ze ?_;have hM:=zb HM;have ql:q<w1.heap.size:=zgF w1 _ e2;refine yq _ rfl _ _ 221 rfl (q+1) 104 i0 (Ua U) 1 8 underlying221 bs bv bw bx rfl od (K va vn vc) _ xs rfl (zgO hM.row _) _ 1 1 [Ua (I ⟨sb,0,U⟩)] rfl rfl (cell_one_new _ _ _) (λx hx=>by simp at hx;subst hx;rfl) (by unfold maxLen;omega) oa ou ?_;intro v2 l aK a2 a6;have aw:zf (λg=>(K va vn vc).ownBlock=I g) w1 l:=((zf.refl _ _).alloc _).grown a2 (λj hj=>Q hj);have hn:¬(K va vn vc).ownBlock=I q:=λe=>(by have:=(zh hM.row q e).1;omega);have HE:=ze (hM.app aw aK (λg hg=>(a6 g hg).imp_right (λe=>by simp at e;omega)) aj ay aR (zcJ _ _) Hp);have m2:=zg aw _ _ e2 hn;have mf:=zo aw ⟨q,2,U⟩ ql (hM.fz 2) hn;obtain⟨ua,un,uc,rfl⟩:=zr aK;clear aK a2 a6 aw hM e2 F;go_wp2_with fail;exact⟨⟨xs.length+1,by go_num,oa,_,_,_,_,ov,HE⟩,by simp[intOf];omega⟩
   obtain⟨T',rfl⟩:=n.pre;have p:H (SRead w ow T s (R (Ue #[Ua (I ⟨q,0,U⟩),Ui])) wr):=⟨n.on,O ⟨⟨HH,λi key hi=>by obtain⟨_,_,t,_,_,e⟩:=n.key i key (by have:=(zgG.1 hi).1;omega) hi;rw[e];rfl⟩,q,T',oo,rfl,aj,n.st,n.eo,n.done aj oa⟩⟩
   clear n HG;go_wp2_with fail;go_ret2;exact p
theorem zdZ {s:Sc}{k m:Nat}:s.OK k m↔s.Num k m/\s.Pats:=by unfold Sc.OK Sc.Num Sc.Pats;constructor;rintro⟨a,c,d,b⟩;refine⟨⟨a,λi x g=>?_,c⟩,d,λi key f=>?_⟩;have:=(b i (by rw[a.2.2.1];exact(zgG.1 g).1)).2;rwa [zg3,g] at this;have:=(b i (zgG.1 f).1).1;rwa [zg3,f] at this;rintro⟨⟨a,c,d⟩,b,h⟩;refine⟨a,d,b,λi e=>?_⟩;rw[zg3,zg3,zgE e,zgE (show i<s.subs.length by omega)];exact⟨h i _ (zgE e),c i _ (zgE _)⟩
def SErr (ss:List Sc)(p:Int):Prop:=(ss.length=0/\p=0)\/(8<ss.length/\p=8)\/(0<ss.length/\ss.length<=8/\∃(k:Nat) (c:Sc),ss[k]?=I c/\(∀(j:Nat) d,j<k->ss[j]?=I d->d.OK j ss.length)/\¬c.OK k ss.length/\p=k)
def rowO (v:Y)(oo:Nat->Nat)(g:Nat):Nat:=if v.ownBlock=I g then 1 else oo g
theorem j4 {v:Y}{oo:Nat->Nat}{g:Nat}:rowO v oo g=0↔v.ownBlock≠I g/\oo g=0:=by unfold rowO;split<;>rename_i h<;>simp[h]
def qCells (a:List Nat):List Y:=a.map (λq=>Ua (I ⟨q,0,U⟩))
structure SR (w:E)(ss:List Sc)(lv:Y)(qs:List Nat)(wr:E)(L:List (Nat×Tree))(oo:Nat->Nat):Prop where
 st:Sts wr oo L
 on:ziE w wr
 row:wr.ownsRow w.heap.size 129 1 lv qs.length (qCells qs)
 ob:∀g,lv.ownBlock=I g->oo g=0
 lo:∀g,g<w.heap.size->oo g=0
 ps:∀(i:Nat) c q,ss[i]?=I c->qs[i]?=I q->PS wr (rowO lv oo) L c q
theorem SR.start (w:E)(ss:List Sc)(_h:11<w.heap.size):SR w ss (K U 0 0) [] w [] (λ_=>0):=by exact⟨⟨λi _ _ e=>by simp at e,rfl,λ_ _=>rfl⟩,zf.refl _ _,zgP _ _ _ _,λ_ _=>rfl,λ_ _=>rfl,λi _ _ _ e=>by simp at e⟩
theorem SR.step {wr r w1 l:E}{ss:List Sc}{j v2:Y}{m:List Nat}{L T':List (Nat×Tree)}{oo b:Nat->Nat}{c:Sc}{q:Nat}(h:SR w ss j m wr L oo)(hV:wr.heap.size<=r.heap.size)(k:ziE wr w1)(y:Sts w1 b (L++T'))(t:∀g,g<r.heap.size->b g=oo g)(W:PS w1 (lowO r b) (L++T') c q)(N:ss[m.length]?=I c)(u:zf (λg=>j.ownBlock=I g) w1 l) (X:l.ownsRow w.heap.size 129 1 v2 (m.length+1) (qCells m++[Ua (I ⟨q,0,U⟩)])) (x:∀g,v2.ownBlock=I g->j.ownBlock=I g\/w1.heap.size<=g) (ab:11<w.heap.size):SR w ss v2 (m++[q]) l (L++T') b:=by
 have sz:=h.on.size;have o:=zh h.row;have z:∀g,j.ownBlock=I g->b g=0:=λg a=>(t g (by have:=(o g a).2;omega)).trans (h.ob g a);have P:∀g,g<w1.heap.size->rowO j b g=0->rowO v2 b g=0:=λg a e=>by obtain⟨B,F⟩:=j4.1 e;exact j4.2 ⟨λs=>(x g s).elim B (λ_=>oa),F⟩
 have T:∀g,j.ownBlock=I g->rowO j b g≠0:=λg a e=>(j4.1 e).1 a;refine⟨y.keep u (λg a=>⟨z g a,by have:=(o g a).1;omega⟩),(h.on.trans k).laterB u (λg a=>(o g a).1),?_,λg a=>(x g a).elim (z g) (y.n g),λg a=>(t g oa).trans (h.lo g a),λi d p v n=>?_⟩;rw[zgK,qCells,zhO];exact X;refine PS.keep (ow:=rowO j b) ?_ u T P;by_cases S:i<m.length;rw[zgW S] at n;exact((h.ps i d p v n).keep k (λ_ f=>f.elim) (λg a e=>j4.2 ⟨(j4.1 e).1,(t g oa).trans (j4.1 e).2⟩)).longer T'
 (obtain rfl:i=m.length:=by have:=(zgG.1 n).1;simp at this;omega);rw[zg2 (zgH _),zhV] at n;cases n;cases N.symm.trans v;exact W.keep (zf.refl (λ_=>False) _) (λ_ f=>f.elim) (λg _ e=>j4.2 ⟨λs=>by have:=(o g s).2;have:=(v7 e).1;omega,(v7 e).2⟩)
def SAns (w:E)(a:Nat->Addr)(ss:List Sc)(x:Ending)(b:E):Prop:=ziE w b/\((∃v p,x=R (Ue #[K U 0 0,v])/\zN b w.heap.size v (yj a 10) p/\SErr ss p)\/
 ((0<ss.length/\ss.length<=8/\∀(j:Nat) d,ss[j]?=I d->d.OK j ss.length)/\∃e f c L oo,x=R (Ue #[K (I ⟨e,0,U⟩) ss.length f,Ui])/\c.length=ss.length/\SR w ss (K (I ⟨e,0,U⟩) ss.length f) c b L oo))
theorem Tryz.infoScP:(prog.info? 129).map (λi=>(i.zero,i.size,i.bytes))=I (I (Ua U),1,8):=om
theorem zgy (ss:List Sc)(sv:Y)(w:E)(a:Nat->Addr)(hS:Start w a)(hT:TabAt w)(hN:vB w sv ss)(hl:ss.length<4611686018427387904):Uh V 27 #[sv] w (SAns w a ss):=by
 obtain⟨i0,a6,a8,a9,ba⟩:=info_parts Tryz.infoScP;have HN:=ze hN;have HS:=ze hS;have HT:=ze hT;obtain⟨na,nc,rfl,_⟩:=hN;have HE:H (∀k v p,ziE w k->zN k w.heap.size v (yj a 10) p->SErr ss p->SAns w a ss (R (Ue #[K U 0 0,v])) k):=λk v p h1 h2 h3=>⟨h1,Q ⟨v,p,rfl,h2,h3⟩⟩
 have s9:=hS.rows.s10;have aP:=hT.lt;unfold yj at s9;clear hS hT;go_enter func27,ntmps27;by_cases h0:ss.length=0
 .have d0:((ss.length:Int) == 0)=G:=by simp[h0]
  have s:H (SErr ss 0):=Q ⟨h0,rfl⟩;clear h0;go_wp2_with(go_at_call 45;refine(jg _ _ _ _).mono ?_;rintro e w1 ⟨v,rfl,T,S⟩);go_ret2;exact zb HE _ _ _ S T s
 have d0:((ss.length:Int) == 0)=Z:=beq_eq_false_iff_ne.2 oa;by_cases h1:8<ss.length
 .have d1:(8:Int)<(ss.length:Int):=oa;have s:H (SErr ss 8):=O (Q ⟨h1,rfl⟩);clear h0 h1;go_wp2_with(go_at_call 45;refine(jg _ _ _ _).mono ?_;rintro e w1 ⟨v,rfl,T,S⟩);go_ret2;exact zb HE _ _ _ S T s
 have d1:¬(8:Int)<(ss.length:Int):=oa;have hp:0<ss.length:=oa;have h8:ss.length<=8:=oa;clear h0 h1;obtain⟨W,no,rfl⟩:=HN.adr hp;go_upto_region 7 with fail;go_loopw[4,20] (λlv x wr=>∃i:Nat,x=M J i/\i<=ss.length/\H (∃h L oo,h.length=i/\SR w ss lv h wr L oo)/\H (∀(j:Nat) d,j<i->ss[j]?=I d->d.OK j ss.length)) (λ_ x _=>ss.length-(intOf x).toNat);exact⟨0,rfl,oa,⟨[],[],_,rfl,SR.start w ss aP⟩,λj _ hj=>absurd hj (zgV _)⟩;obtain⟨i,rfl,hi,HR,P⟩:=hrel;obtain⟨h,L,oo,rfl,m⟩:=zb HR;obtain⟨la,ln,lc,rfl⟩:=zr m.row;have HO:=ze m.on;have aq:=ze m;by_cases a7:h.length<ss.length
 .have hc:=zgE a7;generalize ss[h.length]=c at hc;have HC:H (∀k,ziE w k->∃z B F N,ScL k c z B F N/\∀(j:Nat) u,(c.cells z B F N)[j]?=I u->k.cell? ⟨W,no+h.length*6+j,U⟩=I u):=λk kk=>(HN.keep kk).all.2 _ c hc;have Hc:=ze hc;have t9:=zg m.on _ _ s9 id;have ac:H (¬c.OK h.length ss.length->SErr ss ((h.length:Nat):Int)):=λq=>O (O ⟨hp,h8,_,c,hc,P,q,rfl⟩);clear m HR hc;by_cases n:c.Num h.length ss.length
  ·((have al:H (Uh V 50 #[Ua (I ⟨W,no+h.length*6,U⟩),M J (h.length:Nat),M J (ss.length:Nat)] wr λx w'=>x=R (C G)/\ziE wr w'):=by obtain⟨z,B,F,N,r,t⟩:=zb HC wr HO;refine(ze0 c _ _ W _ z B F N wr r t oa).mono ?_;rintro e w' ⟨b,rfl,hb,S⟩;exact⟨by rw[hb.2 n],S⟩);have aG:H (∀k,ziE wr k->Uh V 51 #[Ua (I ⟨W,no+h.length*6,U⟩)] k (SRead k oo L c)):=λk kk=>by have k2:=HO.trans kk;obtain⟨z,B,F,N,r,t⟩:=zb HC k k2;exact zgx c W _ oo L z B F N k a (HS.keep k2) (HT.keep k2 id) (aq.st.keep kk (λ_ f=>f.elim)) r t ⟨n.1.1,n.1.2.1⟩ n.1.2.2.1 n.1.2.2.2);by_cases am:c.Pats
   ·(have aU:H (∀(j:Nat) d,j<h.length+1->ss[j]?=I d->d.OK j ss.length):=λj d hj hd=>by rcases zhW j h.length with q|q;exact zb P j d q hd;obtain rfl:j=h.length:=oa;cases(zb Hc).symm.trans hd;exact zdZ.2 ⟨n,am⟩);clear n ac P t9;go_wp2_with(first|(go_at_call 50;refine al.mono ?_;rintro e w1 ⟨rfl,o⟩)|(go_at_call 51;refine(zb aG _ o).mono ?_;rintro e l ⟨ab,⟨be,_⟩|⟨_,q,T',bo,rfl,hq,aO,a4,aM⟩⟩;exact absurd am be;have aX:=ze aO;have aV:=ze aM;clear aO aM)|(at_builtin;refine zb ?_));refine ze ?_;have m:=zb aq;have z1:=o.size;have z0:=m.on.size;have z2:=ab.size;refine yq _ rfl _ _ 89 rfl w.heap.size 129 i0 (Ua U) 1 8 underlying89 a6 a8 a9 ba rfl od (K la ln lc) _ (qCells h) rfl (zgO (zl m.row (o.trans ab) (λ_ _ f=>f)) _) _ 1 1 [Ua (I ⟨q,0,U⟩)] rfl rfl (cell_one_new _ _ _) (λx hx=>by simp at hx;subst hx;rfl) (by unfold maxLen;omega) oa ou ?_;intro v2 w3 ax aK aN;have aL:zf (λg=>(K la ln lc).ownBlock=I g) l w3:=((zf.refl _ _).alloc _).grown aK (λj hj=>Q hj);have aT:=ze (m.step z1 (o.trans ab) aX a4 aV Hc aL ax (λg hg=>(aN g hg).imp_right (λe=>by simp at e;omega)) aP);obtain⟨ua,un,uc,rfl⟩:=zr ax;clear ax aK aN aL m;go_wp2_with fail;exact⟨⟨h.length+1,by go_num,oa,⟨_,_,_,ov,aT⟩,aU⟩,by simp[intOf];omega⟩
   have s:=ze (zb ac (λq=>am (zdZ.1 q).2));clear n ac P;go_wp2_with(first|(go_at_call 50;refine al.mono ?_;rintro e w1 ⟨rfl,o⟩)|(go_at_call 51;refine(zb aG _ o).mono ?_;rintro e l ⟨ab,⟨_,X,y,rfl⟩|⟨yes,_⟩⟩;rotate_left;exact absurd yes am;have r9:=zg (o.trans ab) _ _ t9 id)|(go_at_call 45;refine(jg _ _ _ _).mono ?_;rintro e w3 ⟨v,rfl,T,ar⟩));go_ret2;have k3:=HO.trans (o.trans ab);exact zb HE _ _ _ (k3.trans ar) (T.base k3.size) s
  (have al:H (Uh V 50 #[Ua (I ⟨W,no+h.length*6,U⟩),M J (h.length:Nat),M J (ss.length:Nat)] wr λx w'=>x=R (C Z)/\ziE wr w'):=by obtain⟨z,B,F,N,r,t⟩:=zb HC wr HO;refine(ze0 c _ _ W _ z B F N wr r t oa).mono ?_;rintro e w' ⟨b,rfl,hb,S⟩;exact⟨by cases b;rfl;exact absurd (hb.1 rfl) n,S⟩);have s:=ze (zb ac (λq=>n (zdZ.1 q).1));clear n ac P HC;go_wp2_with(first|(go_at_call 50;refine al.mono ?_;rintro e w1 ⟨rfl,o⟩;have r9:=zg o _ _ t9 id)|(go_at_call 45;refine(jg _ _ _ _).mono ?_;rintro e w3 ⟨v,rfl,T,ar⟩));go_ret2;have k3:=HO.trans o;exact zb HE _ _ _ (k3.trans ar) (T.base k3.size) s
 (have e:h.length=ss.length:=oa;obtain⟨a',c',r,t⟩:=jI m.row;have s:H (SAns w a ss (R (Ue #[K la ln lc,Ui])) wr):=by obtain⟨g,rfl,_⟩:=t 0 _ (by rw[qCells,zgZ,zgE oa];rfl);rw[e] at r;refine⟨m.on,O ⟨⟨hp,h8,λj d hd=>zb P j d (by have:=(zgG.1 hd).1;omega) hd⟩,g,c',h,L,oo,by rw[r],e,r ▸ m⟩⟩);clear m HR P r t HO aq;go_wp2_with fail;go_ret2;exact s
end
