/- The program's classes in memory; a range read into one. -/
import Derived.Test.YtofeiledkmfnfaaGreatDoorYC
import Derived.Test.YtofeiledkmfnfaaGreatDoorYB
import Derived.ArgAppend
import Derived.OwnWalk
namespace Go.Proofs.YtofeiledkmfnfaaGreatDoor
open World renaming heap->A,cell?->dx,frozen?->dz,ownsRow->dA,alloc->dB,drewN->dD
open _root_.Array renaming size->dg,size->k
open Value renaming ownBlock->dH
open _root_.ByteArray renaming size->dJ,size->i
open Option renaming none->U,some->I
open Value renaming int->M,slice->K,pointer->Ua,string->Uc,iface->Ud,tuple->Ue,agg->Uf,nilIface->Ui
open IntKind renaming i64->J,i32->Ug
open Bool renaming false->Z,true->G
open _root_.Go.Proofs.Tryz renaming prog->V
open Go renaming World->E,Value->Y,Calls->Uh
open Go.RowKit renaming Hid->H
open Or renaming inr->O,inl->Q
open Obj renaming cells->Ub
open Go.Instr renaming typeAssert->Uk
open Ts Ref Sm
open _root_.Go.Proofs.Tryz
open List renaming length->Bc
set_option maxHeartbeats 4000000
set_option maxRecDepth 1000000
variable {rb:Nat}{s:Al}(w0:World){b:Nat}{L:Ai}{f n:Nat}{c r dp:Int}{a:Nat->Addr}{w W N:World}{cb p:Nat}{neg:Bool}{R:Ai}{S:Ar}{v1 v2:Value}
section
open Go.RowKit
def AG:Ai->An
 | []=>[]
 |(a,b) :: r=>M Ug a :: M Ug b :: AG r
theorem Zs:∀(l r:Ai),AG (l++r)=AG l++AG r
 | [],r=>rfl
 |(a,b) :: l,r=>by simp only[Ci,AG,Zs l r]
def jO (l:Ar):An:=l.map (M Ug)
structure yW (w:E)(cb:Nat)(neg:Bool)(R:Ai)(S:Ar)(v1 v2:Y):Prop where
 k0:dx w ⟨cb,0,U⟩=I (.bool neg)
 k1:dx w ⟨cb,1,U⟩=I v1
 k2:dx w ⟨cb,2,U⟩=I v2
 o1:dA w (cb+1) 368 2 v1 (Bc R) (AG R)
 o2:dA w (cb+1) 246 1 v2 (Bc S) (jO S)
 f1:dz w ⟨cb,1,U⟩=Z
 f2:dz w ⟨cb,2,U⟩=Z
theorem yW.lt (h:yW w cb neg R S v1 v2):cb<k (A w):=zic w ⟨cb,0,U⟩ h.k0
theorem yW.keep {P:Aj}{w N:E}{cb:Nat}{neg:Bool}{R:Ai}{S:Ar}{v1 v2:Y}(h:yW w cb neg R S v1 v2)(k:zg P w N)(a:∀g,cb<=g->¬P g):yW N cb neg R S v1 v2:=
 ⟨(k.cell (p:=⟨cb,0,U⟩) h.lt (a _ (AD _))).trans h.k0,(k.cell (p:=⟨cb,1,U⟩) h.lt (a _ (AD _))).trans h.k1,(k.cell (p:=⟨cb,2,U⟩) h.lt (a _ (AD _))).trans h.k2,
  zk h.o1 k (λg b=>a g (by have:=(zh h.o1 g b).1;omega)),zk h.o2 k (λg b=>a g (by have:=(zh h.o2 g b).1;omega)),
  (k.frozen (p:=⟨cb,1,U⟩) h.lt (a _ (AD _))).trans h.f1,(k.frozen (p:=⟨cb,2,U⟩) h.lt (a _ (AD _))).trans h.f2⟩
theorem Tryz.Oj:(prog.info? 368).map (λi=>(i.zero,i.size,i.bytes))=I (I (Uf #[M Ug 0,M Ug 0]),2,8):=om
theorem Tryz.O3:(prog.info? 246).map (λi=>(i.zero,i.size,i.bytes))=I (I (M Ug 0),1,4):=om
theorem Tryz.OF (v:Y)(w:E):(Uk (Ud 245 v) 89 245 G).run V w=.ok (Ue #[v,.bool G]) w:=om
theorem Tryz.OO (v:Y)(w:E):(Uk (Ud 246 v) 89 245 G).run V w=.ok (Ue #[M Ug 0,.bool Z]) w:=om
theorem Tryz.Rt (v:Y)(w:E):(Uk (Ud 246 v) 89 246 G).run V w=.ok (Ue #[v,.bool G]) w:=om
theorem Tu.join {w0 w N:E}{b:Nat}{L:Ai}{n m:Nat}{r dp:Int}{a:Nat->Addr}(t:Tu cb w0 b L n r dp a w)(T:Tu (k (A w)) w b L m r dp a N):Tu cb w0 b L m r dp a N:=t.NS (Own.to T.on) T.rd
theorem yW.step {w N:E}{b:Nat}{L:Ai}{m:Nat}{r dp:Int}{a:Nat->Addr}{neg:Bool}{R:Ai}{S:Ar}{v1 v2:Y}(h:yW w cb neg R S v1 v2)(c:b<cb)(T:Tu (k (A w)) w b L m r dp a N):yW N cb neg R S v1 v2:=
 h.keep (Own.to T.on) (λg d e=>by unfold zr at e;omega)
theorem Tu.push {w0 w N:E}{b:Nat}{L:Ai}{n:Nat}{r dp:Int}{a:Nat->Addr}(t:Tu cb w0 b L n r dp a w)(k:zg (λg=>cb<=g) w N):Tu cb w0 b L n r dp a N:=
 have c:=t.hb;have d:=t.lt
 ⟨t.rd.keep k (by show ¬cb<=b;omega) (λg e=>by show ¬cb<=g;omega),t.se.keep k (λj f=>by show ¬cb<=j;omega),t.on.trans (k.mono (λ_ _ h=>O h)),c,d,t.le⟩
theorem yW.Rc {a:Y}{x y:Int}(h:yW w cb neg R S v1 v2)(q:zke w W)(_t:W.ownsRow (cb+1) 368 2 v1 (Bc R) (AG R))(r:W.grownBy N (dH v1))(j:N.ownsRow (cb+1) 368 2 a (Bc R+1) (AG R++[M Ug x,M Ug y])):yW (N.setCell ⟨cb,1,U⟩ a) cb neg (R++[(x,y)]) S a v2/\zg (λg=>cb<=g) w (N.setCell ⟨cb,1,U⟩ a):=by
 have c:=h.lt;have k:zg (λg=>dH v1=I g) w N:=(q.mono (λ_ _ f=>f.elim)).trans (zg.N3 r);have d:¬(dH v1=I cb):=λe=>by have:=(zh h.o1 cb e).1;omega
 have m:=(k.cell (p:=⟨cb,0,U⟩) c d).trans h.k0;have c1:=(k.cell (p:=⟨cb,1,U⟩) c d).trans h.k1;have n:=(k.cell (p:=⟨cb,2,U⟩) c d).trans h.k2;have f1:=(k.frozen (p:=⟨cb,1,U⟩) c d).trans h.f1;have o:=(k.frozen (p:=⟨cb,2,U⟩) c d).trans h.f2;have i:zg (λg=>g=cb) N (N.setCell ⟨cb,1,U⟩ a):=(zg.refl (λg=>g=cb) N).setCell (p:=⟨cb,1,U⟩) (Q rfl) a;have l:N.ownsRow (cb+1) 246 1 v2 (Bc S) (jO S):=zk h.o2 k (λg b s=>Vm h.o2 h.o1 od g b s);refine⟨⟨(AN _ _ _ _ ov).trans m,AX _ _ _ c1,(AN _ _ _ _ ov).trans n,?_,?_,(zl _ _ _ _).trans f1,(zl _ _ _ _).trans o⟩,?_⟩;rw[Zs,AO];exact zk j i (λg b e=>by have:=(zh j g b).1;omega);exact zk l i (λg b e=>by have:=(zh l g b).1;omega);exact(k.mono (λg _ e=>by have:=(zh h.o1 g e).1;show cb<=g;omega)).trans (i.mono (λg _ e=>by show cb<=g;omega))
theorem yW.RO {a:Y}{x:Int}(h:yW w cb neg R S v1 v2)(q:zke w W)(_t:W.ownsRow (cb+1) 246 1 v2 (Bc S) (jO S))(r:W.grownBy N (dH v2))(j:N.ownsRow (cb+1) 246 1 a (Bc S+1) (jO S++[M Ug x])):yW (N.setCell ⟨cb,2,U⟩ a) cb neg R (S++[x]) v1 a/\zg (λg=>cb<=g) w (N.setCell ⟨cb,2,U⟩ a):=by
 have c:=h.lt;have k:zg (λg=>dH v2=I g) w N:=(q.mono (λ_ _ f=>f.elim)).trans (zg.N3 r);have d:¬(dH v2=I cb):=λe=>by have:=(zh h.o2 cb e).1;omega
 have m:=(k.cell (p:=⟨cb,0,U⟩) c d).trans h.k0;have c1:=(k.cell (p:=⟨cb,1,U⟩) c d).trans h.k1;have n:=(k.cell (p:=⟨cb,2,U⟩) c d).trans h.k2;have f1:=(k.frozen (p:=⟨cb,1,U⟩) c d).trans h.f1;have o:=(k.frozen (p:=⟨cb,2,U⟩) c d).trans h.f2;have i:zg (λg=>g=cb) N (N.setCell ⟨cb,2,U⟩ a):=(zg.refl (λg=>g=cb) N).setCell (p:=⟨cb,2,U⟩) (Q rfl) a;have l:N.ownsRow (cb+1) 368 2 v1 (Bc R) (AG R):=zk h.o1 k (λg b s=>Vm h.o1 h.o2 od g b s);refine⟨⟨(AN _ _ _ _ ov).trans m,(AN _ _ _ _ ov).trans c1,AX _ _ _ n,?_,?_,(zl _ _ _ _).trans f1,(zl _ _ _ _).trans o⟩,?_⟩;exact zk l i (λg b e=>by have:=(zh l g b).1;omega);unfold jO at j ⊢;rw[CX,AO];exact zk j i (λg b e=>by have:=(zh j g b).1;omega);exact(k.mono (λg _ e=>by have:=(zh h.o2 g e).1;show cb<=g;omega)).trans (i.mono (λg _ e=>by show cb<=g;omega))
theorem yW.cells {o:Option Nat}(h:yW w cb neg R S v1 v2)(c:zke w W)(d:W.grownBy N o)(b:¬(o=I cb)):dx N ⟨cb,1,U⟩=I v1/\dx N ⟨cb,2,U⟩=I v2/\dz N ⟨cb,1,U⟩=Z/\dz N ⟨cb,2,U⟩=Z:=by have a:=h.lt;have k:zg (λg=>o=I g) w N:=(c.mono (λ_ _ f=>f.elim)).trans (zg.N3 d);exact⟨(k.cell (p:=⟨cb,1,U⟩) a b).trans h.k1,(k.cell (p:=⟨cb,2,U⟩) a b).trans h.k2,(k.frozen (p:=⟨cb,1,U⟩) a b).trans h.f1,(k.frozen (p:=⟨cb,2,U⟩) a b).trans h.f2⟩
theorem yW.n1 (h:yW w cb neg R S v1 v2):¬(dH v1=I cb):=λe=>by have:=(zh h.o1 cb e).1;omega
theorem yW.n2 (h:yW w cb neg R S v1 v2):¬(dH v2=I cb):=λe=>by have:=(zh h.o2 cb e).1;omega
def Adds (b:Nat)(L:Ai)(r dp:Int)(a:Nat->Addr)(cb:Nat)(w0:E)(o:Ts.Out)(neg:Bool)(R:Ai)(S:Ar)(x:Ending)(N:E):Prop:=
 Tu cb w0 b L o.n r dp a N/\((o.k=0/\x=.returned Ui/\∃v1 v2,yW N cb neg R S v1 v2)\/(o.k≠0/\∃v,x=.returned v/\zJ N (k (A w0)) v (z7 a o.k) o.p))
namespace Ts
theorem XQ (h:j5 L n=G):zi L n=45/\zi L (n+1)≠93/\zi L (n+1)≠-1:=by unfold j5 at h;simpa [and_assoc] using h
theorem QZ (h:zi L n≠-1):n<Bc L:=by by_cases a:n<Bc L;exact a;exact absurd (qi oa) h
end Ts
variable (b L n r dp a cb)
theorem za4 (w0 w:E)(neg:Bool)(R:Ai)(S:Ar)(v1 v2:Y)(m:Bool)(c:Int)(t:Tu cb w0 b L n r dp a w)(y:yW w cb neg R S v1 v2)(h:Bc L<=400)(hd:j5 L n=G)(u:Ts.Fit L)(hR:Bc R<=400):Uh V 265 #[Ua (I ⟨b,0,U⟩),Ua (I ⟨cb,0,U⟩),BB m c] w (Adds b L r dp a cb w0 (qd L r m c n) neg (R++[(c,(zm L r (n+1)).v)]) S):=by
 have⟨i0,hi,aw,ax,ay⟩:=info_parts Tryz.Oj;have ah:=XQ hd;have aH:n+1<Bc L:=QZ ah.2.2;clear hd ah;have s:=zd t;have T:=zd (Tu.start t.rd t.se t.hb);have B:=t.on.size;have am:=t.lt;have c1:=t.c1;have f1:=t.f1;have HC:=zd y;have z:=t.se.s4;have ap:∀X:Y,X=BB m c->Uh V 265 #[Ua (I ⟨b,0,U⟩),Ua (I ⟨cb,0,U⟩),X] w (Adds b L r dp a cb w0 (qd L r m c n) neg (R++[(c,(zm L r (n+1)).v)]) S):=by
  intro X q;by_cases i:(zm L r (n+1)).k=0
  .by_cases j:m=G\/many L (n+1)=G\/(zm L r (n+1)).v<c
   .have o:H (qd L r m c n=Ts.bad 4 (zA L r n) (zm L r (n+1)).n):=(by unfold qd;rw[iN (by simp[i]),IN j];rfl);clear t y;have an:(X=Ud 246 (M Ug c))\/(X=Ud 245 (M Ug c)/\BB (many L (n+1)) (zm L r (n+1)).v=Ud 246 (M Ug (zm L r (n+1)).v))\/
      (X=Ud 245 (M Ug c)/\BB (many L (n+1)) (zm L r (n+1)).v=Ud 245 (M Ug (zm L r (n+1)).v)/\(zm L r (n+1)).v<c):=by
     cases m with
     |true=>left;exact q
     |false=>
      right;cases ab:many L (n+1) with
      |true=>left;exact⟨q,rfl⟩
      |false=>right;exact⟨q,rfl,by rw[ab] at j;simpa using j⟩
    clear j q;have a1:=Tryz.OF;have a2:=Tryz.OO;obtain rfl|⟨rfl,F⟩|⟨rfl,F,aG⟩:=an
    .cases ab:many L (n+1)
     .have F:BB Z (zm L r (n+1)).v=Ud 245 (M Ug (zm L r (n+1)).v):=rfl;go_enter func265,ntmps265;go_wp2_with(first|(go_at_call 102;refine(qu (n:=n) T h oa).mono ?_;rintro e g ⟨rfl,N,rfl⟩)|(go_at_call 263;refine(jM (n:=n+1) ((T.drewN _).N1 _ _ oa) (qw b L (n+1) r dp a _ (Tu.rd (n:=n+1) ((T.drewN _).N1 _ _ oa)) (Tu.se (n:=n+1) ((T.drewN _).N1 _ _ oa)) T.hb h oa u)).mono ?_;rintro e g ⟨d,f⟩;obtain rfl:=qt f i;clear f;have T:=zd d;have c1:=d.c1;have f1:=d.f1);(have z:=T.se.s4)|(go_at_call 55;refine(Kj (n:=(zm L r (n+1)).n) _ 4 _ _ rfl T).mono ?_;rintro e g ⟨v,rfl,l,d⟩;have T:=zd d;have c1:=d.c1;have f1:=d.f1));go_ret;rw[zb o];exact⟨s.join T,O ⟨(show(4:Nat)≠0 by decide),_,rfl,l.base B⟩⟩
     have F:BB G (zm L r (n+1)).v=Ud 246 (M Ug (zm L r (n+1)).v):=rfl;go_enter func265,ntmps265;go_wp2_with(first|(go_at_call 102;refine(qu (n:=n) T h oa).mono ?_;rintro e g ⟨rfl,N,rfl⟩)|(go_at_call 263;refine(jM (n:=n+1) ((T.drewN _).N1 _ _ oa) (qw b L (n+1) r dp a _ (Tu.rd (n:=n+1) ((T.drewN _).N1 _ _ oa)) (Tu.se (n:=n+1) ((T.drewN _).N1 _ _ oa)) T.hb h oa u)).mono ?_;rintro e g ⟨d,f⟩;obtain rfl:=qt f i;clear f;have T:=zd d;have c1:=d.c1;have f1:=d.f1);(have z:=T.se.s4)|(go_at_call 55;refine(Kj (n:=(zm L r (n+1)).n) _ 4 _ _ rfl T).mono ?_;rintro e g ⟨v,rfl,l,d⟩;have T:=zd d;have c1:=d.c1;have f1:=d.f1));go_ret;rw[zb o];exact⟨s.join T,O ⟨(show(4:Nat)≠0 by decide),_,rfl,l.base B⟩⟩
    all_goals
     go_enter func265,ntmps265;go_wp2_with(first|(go_at_call 102;refine(qu (n:=n) T h oa).mono ?_;rintro e g ⟨rfl,N,rfl⟩)|(go_at_call 263;refine(jM (n:=n+1) ((T.drewN _).N1 _ _ oa) (qw b L (n+1) r dp a _ (Tu.rd (n:=n+1) ((T.drewN _).N1 _ _ oa)) (Tu.se (n:=n+1) ((T.drewN _).N1 _ _ oa)) T.hb h oa u)).mono ?_;rintro e g ⟨d,f⟩;obtain rfl:=qt f i;clear f;have T:=zd d;have c1:=d.c1;have f1:=d.f1);(have z:=T.se.s4)|(go_at_call 55;refine(Kj (n:=(zm L r (n+1)).n) _ 4 _ _ rfl T).mono ?_;rintro e g ⟨v,rfl,l,d⟩;have T:=zd d;have c1:=d.c1;have f1:=d.f1));go_ret;rw[zb o];exact⟨s.join T,O ⟨(show(4:Nat)≠0 by decide),_,rfl,l.base B⟩⟩
   have o:H (qd L r m c n=zm L r (n+1)):=(by unfold qd;rw[iN (by simp[i]),iN j];rfl);have au:m=Z:=(by cases m with|true=>exact absurd (Q rfl) j|false=>rfl);have ab:many L (n+1)=Z:=(by cases hh:many L (n+1) with|true=>exact absurd (O (Q hh)) j|false=>rfl);have aD:c<=(zm L r (n+1)).v:=(by by_cases hh:(zm L r (n+1)).v<c;exact absurd (O (O hh)) j;omega);subst au;have al:X=Ud 245 (M Ug c):=q;clear q;subst al;have F:BB Z (zm L r (n+1)).v=Ud 245 (M Ug (zm L r (n+1)).v):=rfl;have a1:=Tryz.OF;clear j t y;go_enter func265,ntmps265;go_wp2_with(first|(go_at_call 102;refine(qu (n:=n) T h oa).mono ?_;rintro e g ⟨rfl,N,rfl⟩)|(go_at_call 263;refine(jM (n:=n+1) ((T.drewN _).N1 _ _ oa) (qw b L (n+1) r dp a _ (Tu.rd (n:=n+1) ((T.drewN _).N1 _ _ oa)) (Tu.se (n:=n+1) ((T.drewN _).N1 _ _ oa)) T.hb h oa u)).mono ?_;rintro e g ⟨d,f⟩;obtain rfl:=qt f i;clear f;have T:=zd d;have c1:=d.c1;have f1:=d.f1);(have p:=HC.step am T);(have k1:=p.k1);(have q1:=p.f1);(have ac:=p.o1);(obtain⟨sa,sn,sc,rfl⟩:=zq ac);(have aE:=p.lt);(have P:=zd p);(clear p);(have af:=zd ac);(clear ac)|(at_builtin;refine wpList_append_own _ rfl _ _ 247 rfl (cb+1) 368 i0 (Uf #[M Ug 0,M Ug 0]) 2 8 underlying247 hi aw ax ay rfl od _ _ _ rfl (AZ af _) _ 1 1 [M Ug c,M Ug (zm L r (n+1)).v] rfl rfl (cell_two_new _ _ _ _) (λx hx=>by simp at hx;obtain rfl|rfl:=hx<;>rfl) Ac oa ou ?_;intro v' w8 ad W av;obtain⟨pa,pn,pc,rfl⟩:=zq ad;have ao:=P.cells Ag W P.n1;have HP:=zd (P.Rc Ag (AZ af _) W ad);clear ad W av;have⟨z1,z2,z3,z4⟩:=ao));go_ret;rw[zb o];exact⟨(s.join T).push HP.2,Q ⟨i,rfl,_,_,HP.1⟩⟩
  have o:H (qd L r m c n=zm L r (n+1)):=(by unfold qd;rw[IN i];rfl);clear t y;go_enter func265,ntmps265;go_wp2_with(first|(go_at_call 102;refine(qu (n:=n) T h oa).mono ?_;rintro e g ⟨rfl,N,rfl⟩)|(go_at_call 263;refine(jM (n:=n+1) ((T.drewN _).N1 _ _ oa) (qw b L (n+1) r dp a _ (Tu.rd (n:=n+1) ((T.drewN _).N1 _ _ oa)) (Tu.se (n:=n+1) ((T.drewN _).N1 _ _ oa)) T.hb h oa u)).mono ?_;rintro e g ⟨d,f⟩;obtain⟨v,rfl,l⟩:=XK f i;have⟨gv,aq⟩:=l.form;subst aq;clear f;have T:=zd d;have c1:=d.c1;have f1:=d.f1);(have z:=T.se.s4)|(go_at_call 55;refine(Kj (n:=(zm L r (n+1)).n) _ 4 _ _ rfl T).mono ?_;rintro e g ⟨v,rfl,l,d⟩;have T:=zd d;have c1:=d.c1;have f1:=d.f1));go_ret;rw[zb o];exact⟨s.join T,O ⟨i,_,rfl,l.base B⟩⟩
 exact ap _ rfl
namespace Ts
def ZG (L:Ai)(r:Int)(n:Nat)(R:Ai):Ai:=
 if j5 L (zm L r n).n=G then R++[((zm L r n).v,(zm L r ((zm L r n).n+1)).v)]
 else if many L n=G then R else R++[((zm L r n).v,(zm L r n).v)]
def ZH (L:Ai)(r:Int)(n:Nat)(S:Ar):Ar:=
 if j5 L (zm L r n).n=G then S else if many L n=G then S++[(zm L r n).v] else S
end Ts
theorem Fv {A B C:Prop}{D:Y->Prop}{x:Ending}(h:(A/\x=.returned Ui/\B)\/(C/\∃v,x=.returned v/\D v)):∃v,x=.returned v:=by grind
theorem Ql (w0 w:E)(neg:Bool)(R:Ai)(S:Ar)(v1 v2:Y)(t:Tu cb w0 b L n r dp a w)(F:yW w cb neg R S v1 v2)(h:Bc L<=400)(hn:n<Bc L)(aZ:(zm L r n).n<=450)(y:Ts.Fit L)(hR:Bc R<=400)(hS:Bc S<=400):Uh V 242 #[Ua (I ⟨b,0,U⟩),Ua (I ⟨cb,0,U⟩)] w (Adds b L r dp a cb w0 (qO L r n) neg (ZG L r n R) (ZH L r n S)):=by
 have⟨i0,hi,ar,au,av⟩:=info_parts Tryz.Oj;have⟨j0,hj,ao,ap,aq⟩:=info_parts Tryz.O3;have B:=zd t;have T:=zd (Tu.start t.rd t.se t.hb);have am:=t.on.size;have X:=t.lt;have N:=zd F;by_cases g:(zm L r n).k=0
 .cases hd:j5 L (zm L r n).n
  .have p:H (qO L r n=zm L r n):=(by unfold qO;rw[iN (by simp[g]),iN (by simp[hd])];rfl);have a1:=Tryz.OF;have a2:=Tryz.OO;have a3:=Tryz.Rt;clear t F;cases hm:many L n
   .have s:H (ZG L r n R=R++[((zm L r n).v,(zm L r n).v)]):=(by unfold ZG;rw[hd,hm];rfl);have u:H (ZH L r n S=S):=(by unfold ZH;rw[hd,hm];rfl);have an:BB Z (zm L r n).v=Ud 245 (M Ug (zm L r n).v):=rfl;go_enter func242,ntmps242;go_wp2_with(first|(go_at_call 263;refine(jM (n:=n) T (qw b L n r dp a _ (Tu.rd (n:=n) T) (Tu.se (n:=n) T) T.hb h oa y)).mono ?_;rintro e wq ⟨d,f⟩;obtain rfl:=qt f g;clear f;have T:=zd d;have c1:=d.c1;have f1:=d.f1);(have c:=N.step X T);(have k1:=c.k1);(have k2:=c.k2);(have q1:=c.f1);(have q2:=c.f2);(have l:=c.o1);(have m:=c.o2);(obtain⟨sa,sn,sc,rfl⟩:=zq l);(obtain⟨ua,un,uc,rfl⟩:=zq m);(have al:=c.lt);(have i:=zd c);(clear c);(have P:=zd l);(clear l);(have W:=zd m);(clear m)|(go_at_call 264;refine AL (Y8 b L (zm L r n).n r dp a _ _ _ T h oa) ?_)|(at_builtin;refine wpList_append_own _ rfl _ _ 247 rfl (cb+1) 368 i0 (Uf #[M Ug 0,M Ug 0]) 2 8 underlying247 hi ar au av rfl od _ _ _ rfl (AZ P _) _ 1 1 [M Ug (zm L r n).v,M Ug (zm L r n).v] rfl rfl (cell_two_new _ _ _ _) (λx z=>by simp at z;obtain rfl|rfl:=z<;>rfl) Ac oa ou ?_;intro v' w8 o j ab;obtain⟨pa,pn,pc,rfl⟩:=zq o;have aa:=i.cells Ag j i.n1;have q:=zd (i.Rc Ag (AZ P _) j o);clear o j ab;have⟨z1,z2,z3,z4⟩:=aa));go_ret;rw[zb p,zb s,zb u];exact⟨(B.join T).push q.2,Q ⟨g,rfl,_,_,q.1⟩⟩
   have s:H (ZG L r n R=R):=(by unfold ZG;rw[hd,hm];rfl);have u:H (ZH L r n S=S++[(zm L r n).v]):=(by unfold ZH;rw[hd,hm];rfl);have an:BB G (zm L r n).v=Ud 246 (M Ug (zm L r n).v):=rfl;go_enter func242,ntmps242;go_wp2_with(first|(go_at_call 263;refine(jM (n:=n) T (qw b L n r dp a _ (Tu.rd (n:=n) T) (Tu.se (n:=n) T) T.hb h oa y)).mono ?_;rintro e wq ⟨d,f⟩;obtain rfl:=qt f g;clear f;have T:=zd d;have c1:=d.c1;have f1:=d.f1);(have c:=N.step X T);(have k1:=c.k1);(have k2:=c.k2);(have q1:=c.f1);(have q2:=c.f2);(have l:=c.o1);(have m:=c.o2);(obtain⟨sa,sn,sc,rfl⟩:=zq l);(obtain⟨ua,un,uc,rfl⟩:=zq m);(have al:=c.lt);(have i:=zd c);(clear c);(have P:=zd l);(clear l);(have W:=zd m);(clear m)|(go_at_call 264;refine AL (Y8 b L (zm L r n).n r dp a _ _ _ T h oa) ?_)|(at_builtin;refine wpList_append_own _ rfl _ _ 248 rfl (cb+1) 246 j0 (M Ug 0) 1 4 underlying248 hj ao ap aq rfl od _ _ _ rfl (AZ W _) _ 1 1 [M Ug (zm L r n).v] rfl rfl (cell_one_new _ _ _) (λx z=>by simp at z;subst z;rfl) Ac oa ou ?_;intro v' w8 o j ab;obtain⟨pa,pn,pc,rfl⟩:=zq o;have aa:=i.cells Ag j i.n2;have q:=zd (i.RO Ag (AZ W _) j o);clear o j ab;have⟨z1,z2,z3,z4⟩:=aa));go_ret;rw[zb p,zb s,zb u];exact⟨(B.join T).push q.2,Q ⟨g,rfl,_,_,q.1⟩⟩
  have p:H (qO L r n=qd L r (many L n) (zm L r n).v (zm L r n).n):=(by unfold qO;rw[iN (by simp[g]),IN hd];rfl);have s:H (ZG L r n R=R++[((zm L r n).v,(zm L r ((zm L r n).n+1)).v)]):=(by unfold ZG;rw[hd];rfl);have u:H (ZH L r n S=S):=(by unfold ZH;rw[hd];rfl);clear t F;go_enter func242,ntmps242;go_wp2_with(first|(go_at_call 263;refine(jM (n:=n) T (qw b L n r dp a _ (Tu.rd (n:=n) T) (Tu.se (n:=n) T) T.hb h oa y)).mono ?_;rintro e wq ⟨d,f⟩;obtain rfl:=qt f g;clear f;have T:=zd d;have c1:=d.c1;have f1:=d.f1)|(go_at_call 264;refine AL (Y8 b L (zm L r n).n r dp a _ _ _ T h oa) ?_)|(go_at_call 265;refine(za4 b L (zm L r n).n r dp a cb w0 _ neg R S _ _ (many L n) (zm L r n).v (B.join T) (N.step X T) h hd y hR).mono ?_;intro e w9 HA;have ag:=zd HA;have⟨_,hA⟩:=HA;obtain⟨xv,rfl⟩:=Fv hA;clear hA));go_ret;rw[zb p,zb s,zb u];exact ag
 have p:H (qO L r n=zm L r n):=by unfold qO;rw[IN g];rfl
 clear t F;go_enter func242,ntmps242;go_wp2_with(go_at_call 263;refine(jM (n:=n) T (qw b L n r dp a _ (Tu.rd (n:=n) T) (Tu.se (n:=n) T) T.hb h oa y)).mono ?_;rintro e wq ⟨d,f⟩;obtain⟨v,rfl,hv⟩:=XK f g;have⟨gv,ai⟩:=hv.form;subst ai;clear f;have T:=zd d;have c1:=d.c1;have f1:=d.f1);go_ret;rw[zb p];exact⟨B.join T,O ⟨g,_,rfl,hv.base am⟩⟩
namespace Ts
section
variable {L:Ai} {r:Int}
theorem CZ (n:Nat)(h:n<=Bc L):n<=(wt L r n).n/\(wt L r n).n<=Bc L:=by rw[FZ];omega
theorem zb9 (n:Nat)(h:n<=Bc L):n<=(xQ L r n).n/\(xQ L r n).n<=Bc L:=by unfold xQ;split;rename_i a;have:n<Bc L:=zG (by unfold letter at a;omega);simp only[good];omega;simp only[bad];omega
theorem Vv:∀(f:Nat) (c:Int) (d n:Nat),n<=Bc L->n<=(xL L r f c d n).n/\(xL L r f c d n).n<=Bc L
 |0,c,d,n,h=>by simp only[xL,good];omega
 |f+1,c,d,n,h=>by
  by_cases a:0<d/\zi L n=125;rw[ZF a.1 a.2];have:n<Bc L:=zG oa;simp only[good];omega;by_cases b:hexV (zi L n)<0\/1114111<16*c+hexV (zi L n);rw[Y0 a b];simp only[bad];omega;rw[Yo a b];have:n<Bc L:=QS oa;have:=Vv f (16*c+hexV (zi L n)) (d+1) (n+1) oa;omega
theorem Gu (n:Nat)(h:0<=kE L r n):n+6<=Bc L:=by unfold kE at h;split at h;rename_i a;have b:n+1<Bc L:=zG oa;have:=Y5 L r 4 0 (n+2) oa;have:=this.2.2 a.2.2.1;omega;omega
theorem zca (n:Nat)(h:n<=Bc L):n<=(yi L r n).n/\(yi L r n).n<=Bc L:=by have b:=Y5 L r 4 0 n h;unfold yi;split;omega;split;rename_i a;have:=Gu _ a;simp only[good];omega;omega
theorem Gp (n:Nat)(h:n<=Bc L):n<=(vS L r n).n/\(vS L r n).n<=Bc L:=by
 unfold vS;split
 .rename_i a;have:n<Bc L:=by by_cases b:n<Bc L;exact b;rw[qi oa] at a;exact absurd a od
  simp only[good];omega
 split;have:n<Bc L:=zG oa;have:=CZ (L:=L) (r:=r) (n+1) oa;omega;split;have:n<Bc L:=zG oa;have:=zb9 (L:=L) (r:=r) (n+1) oa;omega;split;have:n<Bc L:=zG oa;have:=Y5 L r 2 0 (n+1) oa;omega;split;have:n+1<Bc L:=zG oa;have:=Vv (L:=L) (r:=r) (Bc L+1-(n+2)) 0 0 (n+2) oa;unfold kL;omega;split;have:n<Bc L:=zG oa;have:=zca (L:=L) (r:=r) (n+1) oa;omega;simp only[bad];omega
theorem NF (n:Nat)(h:n<Bc L):n<(xR L r n).n/\(xR L r n).n<=Bc L:=by
 unfold xR;split
 .rename_i a;have:n+1<Bc L:=by by_cases b:n+1<Bc L;exact b;rw[qi oa] at a;exact absurd a od
  simp only[good];omega
 split;simp only[bad];omega;have:=Gp (L:=L) (r:=r) (n+1) oa;omega
theorem kf (n:Nat)(h:n<Bc L):n<(zm L r n).n/\(zm L r n).n<=Bc L:=by unfold zm;split;have:n+1<Bc L:=zG oa;simp only[good];omega;split;have:n+1<Bc L:=zG oa;simp only[good];omega;split;exact NF n h;simp only[good];omega
theorem zgD (m:Bool)(c:Int)(n:Nat)(h:j5 L n=G):n<(qd L r m c n).n/\(qd L r m c n).n<=Bc L:=by have b:=XQ h;have a:n+1<Bc L:=QZ b.2.2;have:=kf (L:=L) (r:=r) (n+1) a;unfold qd;split;omega;split;simp only[bad];omega;omega
theorem zfp (n:Nat)(h:n<Bc L):n<(qO L r n).n/\(qO L r n).n<=Bc L:=by have:=kf (L:=L) (r:=r) n h;unfold qO;split;omega;split;rename_i a;have:=zgD (r:=r) (many L n) (zm L r n).v _ a;omega;omega
theorem Fx (n:Nat)(R:Ai):(ZG L r n R).length<=Bc R+1:=by unfold ZG;split;simp;split;omega;simp
theorem Fw (n:Nat)(S:Ar):(ZH L r n S).length<=Bc S+1:=by unfold ZH;split;omega;split;simp;omega
theorem JN:∀(f n:Nat),n<=Bc L->n<=(ja L r f n).n/\(ja L r f n).n<=Bc L
 |0,n,h=>by simp only[ja,good];omega
 |f+1,n,h=>by
  simp only[ja];split;have:n<Bc L:=zG oa;simp only[good];omega;split;simp only[bad];omega;have:=zfp (L:=L) (r:=r) n oa;split;omega;have:=JN f (qO L r n).n oa;omega
end
end Ts
theorem Xb {o:Ts.Out}{B:Prop}{D:Y->Prop}{x:Ending}(h:(o.k=0/\x=.returned Ui/\B)\/(o.k≠0/\∃v,x=.returned v/\D v))(a:o.k=0):x=.returned Ui/\B:=by grind
theorem ND {o:Ts.Out}{B:Prop}{D:Y->Prop}{x:Ending}(h:(o.k=0/\x=.returned Ui/\B)\/(o.k≠0/\∃v,x=.returned v/\D v))(a:o.k≠0):∃v,x=.returned v/\D v:=by grind
theorem Own.back {b cb:Nat}{w W N:E}(a:zg (zr b) w W)(c:zg (Own b cb) W N)(g:dg (A w)<=cb):zg (zr b) w N:=
 ⟨c.os.trans a.os,c.tape.trans a.tape,c.output.trans a.output,AP a.size c.size,λk d f=>(c.block k (AM d a.size) (λe=>by
  obtain e|e:=e;exact f e;omega)).trans (a.block k d f)⟩
namespace Ts
variable {L n}
theorem countL_go (h:dig (zi L n)=G):countL L (f+1) c n=countL L f (min (c*10+(zi L n-48)) 101) (n+1):=by simp only[countL];rw[IN h]
theorem countL_stop (h:dig (zi L n)=Z):countL L (f+1) c n=(c,n):=by simp only[countL];rw[iN (by simp[h])]
theorem E7 (h:dig (zi L n)=G):n<Bc L:=zG (by unfold dig at h;simp at h;omega)
theorem WZ (L:Ai):∀(f:Nat) (c:Int) (n:Nat),n<=Bc L->0<=c->c<=101->n<=(countL L f c n).2/\(countL L f c n).2<=Bc L/\0<=(countL L f c n).1/\(countL L f c n).1<=101
 |0,c,n,h,a,b=>by simp only[countL];omega
 |f+1,c,n,h,a,b=>by
  cases hd:dig (zi L n);rw[countL_stop hd];simp only[];omega;rw[countL_go hd];have:=E7 hd;have d:48<=zi L n:=(by unfold dig at hd;simp at hd;omega);have:=WZ L f (min (c*10+(zi L n-48)) 101) (n+1) oa oa oa;omega
theorem kr {r:Int}(n:Nat)(h:n<=Bc L):n<=(yx L r n).n/\(yx L r n).n<=Bc L/\0<=(yx L r n).v/\(yx L r n).v<=100:=by have:=WZ L (Bc L+1-n) 0 n h oa oa;unfold yx countP;split;simp only[bad];omega;split;simp only[bad];omega;simp only[good];omega
end Ts
theorem zek (w:E)(h:yg w b L n r dp)(t:ym w a)(y:10<=b)(d:Bc L<=400)(B:n<=Bc L)(_N:Ts.Fit L):Uh V 245 #[Ua (I ⟨b,0,U⟩)] w (xI b L r dp a w (yx L r n) (M J (yx L r n).v) (M J 0)):=by
 have T:=zd (Tu.start h t y);cases hd:dig (zi L n)
 .have g:H (yx L r n=Ts.bad 3 (zA L r n) n):=by unfold yx;rw[IN hd];rfl
  have j:(decide (48<=zi L n) && decide (zi L n<=57))=Z:=hd;go_enter func245,ntmps245;go_wp2_with(first|(go_at_call 102;refine(qu (n:=n) T d oa).mono ?_;rintro e o ⟨rfl,l,rfl⟩)|(go_at_call 146;refine AL (xd (n:=n) (T.drewN _) d oa) ?_)|(go_at_call 273;refine AL (xD _ _) ?_);(rw[j])|(go_at_call 54;refine(QV (n:=n) (T.drewN _) d oa).mono ?_;rintro e o ⟨v,rfl,k,f⟩;have T:=zd f;have c1:=f.c1;have f1:=f.f1));go_ret2;exact T.bad g od k
 have j:(decide (48<=zi L n) && decide (zi L n<=57))=G:=hd;go_enter func245,ntmps245;go_wp2_with(first|(go_at_call 102;refine(qu (n:=n) T d oa).mono ?_;rintro e o ⟨rfl,l,rfl⟩)|(go_at_call 146;refine AL (xd (n:=n) (T.drewN _) d oa) ?_)|(go_at_call 273;refine AL (xD _ _) ?_);(rw[j]));have x:=zd (T.drewN l);generalize dD w l=w1 at *;go_loopw[5] (λc wr=>∃(q:Int) (m:Nat),c=M J q/\0<=q/\q<=101/\m<=Bc L/\H (Tu (dg (A w)) w b L m r dp a wr)/\H (countP L n=Ts.countL L (Bc L+1-m) q m)) (λ_ wr=>Bc L-rdN wr b)
 exact⟨0,n,rfl,oa,oa,B,x,rfl⟩;obtain⟨q,m,rfl,X,aa,S,T,p⟩:=hrel;have F:=T.rdN;have z:H (Bc L+1-m=(Bc L-m)+1):=(by show _=_;omega);cases he:dig (zi L m)
 .have i:(decide (48<=zi L m) && decide (zi L m<=57))=Z:=he;have HG:H (countP L n=(q,m)):=(by rw[zb p,zb z];exact Ts.countL_stop he);by_cases u:100<q
  .have g:H (yx L r n=Ts.bad 5 (zA L r n) m):=(by unfold yx;rw[iN (by simp[hd]),zb HG,IN u];rfl);have ab:=T.se.s5;go_wp2_with(first|(go_at_call 146;refine AL (xd (n:=m) T d oa) ?_)|(go_at_call 273;refine AL (xD _ _) ?_);(rw[i])|(go_at_call 55;refine(Kj (n:=m) _ 5 _ _ rfl T).mono ?_;rintro e o ⟨v,rfl,k,f⟩;have T:=zd f;have c1:=f.c1;have f1:=f.f1));go_ret2;exact T.bad g od k
  have g:H (yx L r n=good q m):=(by unfold yx;rw[iN (by simp[hd]),zb HG,iN u];rfl);go_wp2_with(first|(go_at_call 146;refine AL (xd (n:=m) T d oa) ?_)|(go_at_call 273;refine AL (xD _ _) ?_);(rw[i]));go_ret2;exact T.good g (by rw[zb g];rfl)
 have i:(decide (48<=zi L m) && decide (zi L m<=57))=G:=he;have W:=E7 he;have HG:H (countP L n=Ts.countL L (Bc L+1-(m+1)) (min (q*10+(zi L m-48)) 101) (m+1)):=(by rw[zb p,show (Bc L)+1-m=(Bc L+1-(m+1))+1 by omega];exact Ts.countL_go he);have P:48<=zi L m/\zi L m<=57:=(by simpa using i);have c1:=T.c1;have f1:=T.f1;go_wp2_with(first|(go_at_call 146;refine AL (xd (n:=m) T d oa) ?_)|(go_at_call 273;refine AL (xD _ _) ?_);(rw[i]));have s:=T.N1 (m+1) ((m:Int)+1) oa;refine⟨⟨min (q*10+(zi L m-48)) 101,m+1,?_,oa,oa,oa,zd s,HG⟩,by rw[s.rdN,F];omega⟩;rw[show(if 101<q*10+(zi L m-48) then(101:Int) else q*10+(zi L m-48))=min (q*10+(zi L m-48)) 101 by split<;>omega]
structure ZW (w:E)(rb:Nat)(p:Y)(l m:Int):Prop where
 k0:dx w ⟨rb,0,U⟩=I p
 k1:dx w ⟨rb,1,U⟩=I (M J l)
 k2:dx w ⟨rb,2,U⟩=I (M J m)
 f1:dz w ⟨rb,1,U⟩=Z
 f2:dz w ⟨rb,2,U⟩=Z
theorem ZW.lt {rb:Nat}{p:Y}{l m:Int}(h:ZW w rb p l m):rb<k (A w):=zic w ⟨rb,0,U⟩ h.k0
theorem ZW.keep {P:Aj}{w N:E}{rb:Nat}{p:Y}{l m:Int}(h:ZW w rb p l m)(k:zg P w N)(a:¬P rb):ZW N rb p l m:=
 ⟨(k.cell (p:=⟨rb,0,U⟩) h.lt a).trans h.k0,(k.cell (p:=⟨rb,1,U⟩) h.lt a).trans h.k1,(k.cell (p:=⟨rb,2,U⟩) h.lt a).trans h.k2,(k.frozen (p:=⟨rb,1,U⟩) h.lt a).trans h.f1,(k.frozen (p:=⟨rb,2,U⟩) h.lt a).trans h.f2⟩
theorem ZW.set1 {rb:Nat}{p:Y}{l m:Int}(h:ZW w rb p l m)(x:Int):ZW (w.setCell ⟨rb,1,U⟩ (M J x)) rb p x m:=
 ⟨(AN _ _ _ _ ov).trans h.k0,AX _ _ _ h.k1,(AN _ _ _ _ ov).trans h.k2,(zl _ _ _ _).trans h.f1,(zl _ _ _ _).trans h.f2⟩
theorem ZW.set2 {rb:Nat}{p:Y}{l m:Int}(h:ZW w rb p l m)(x:Int):ZW (w.setCell ⟨rb,2,U⟩ (M J x)) rb p l x:=
 ⟨(AN _ _ _ _ ov).trans h.k0,(AN _ _ _ _ ov).trans h.k1,AX _ _ _ h.k2,(zl _ _ _ _).trans h.f1,(zl _ _ _ _).trans h.f2⟩
structure Rp (rb:Nat)(w0:E)(b:Nat)(L:Ai)(n:Nat)(len dp:Int)(a:Nat->Addr)(p:Y)(l m:Int)(w:E):Prop where
 t:Tu rb w0 b L n len dp a w
 r:ZW w rb p l m
section
variable {rb:Nat} {w0:World} {b:Nat} {L:Ai} {n:Nat} {r dp:Int} {a:Nat->Addr} {p:Value} {l m:Int} {w N:World}
theorem Rp.drewN (h:Rp rb w0 b L n r dp a p l m w)(q:Nat):Rp rb w0 b L n r dp a p l m (w.drewN q):=⟨h.t.drewN q,h.r.keep ((zg.refl (λ_=>False) w).drewN q) id⟩
theorem Rp.NS {c:Nat}(h:Rp rb w0 b L n r dp a p l m w)(k:zg (zr b) w N)(d:yg N b L c r dp):Rp rb w0 b L c r dp a p l m N:=⟨h.t.NS k d,h.r.keep k (λe=>by have:=h.t.lt;unfold zr at e;omega)⟩
theorem Rp.calm (h:Rp rb w0 b L n r dp a p l m w)(k:zke w N):Rp rb w0 b L n r dp a p l m N:=⟨h.t.calm k,h.r.keep k id⟩
theorem Rp.N1 (h:Rp rb w0 b L n r dp a p l m w)(i:Nat)(j:Int)(c:j=(i:Int)):Rp rb w0 b L i r dp a p l m (w.setCell ⟨b,1,U⟩ (M J j)):=h.NS ((zg.refl _ _).NS _ _) (h.t.rd.N1 i j c)
theorem Rp.set1 (h:Rp rb w0 b L n r dp a p l m w)(x:Int):Rp rb w0 b L n r dp a p x m (w.setCell ⟨rb,1,U⟩ (M J x)):=⟨h.t.push ((zg.refl _ _).setCell (p:=⟨rb,1,U⟩) (Q (AD _)) _),h.r.set1 x⟩
theorem Rp.set2 (h:Rp rb w0 b L n r dp a p l m w)(x:Int):Rp rb w0 b L n r dp a p l x (w.setCell ⟨rb,2,U⟩ (M J x)):=⟨h.t.push ((zg.refl _ _).setCell (p:=⟨rb,2,U⟩) (Q (AD _)) _),h.r.set2 x⟩
theorem kN (word:Al)(h:Rp rb w0 b L n r dp a p l m w)(c:Bc L<=400)(e:n<=1000)(f:word.size<=10)(d:zD L n word=Z):Uh V 101 #[Ua (I ⟨b,0,U⟩),Uc word] w λx N=>x=.returned (.bool Z)/\∃q,N=w.drewN q:=Ym b L n r dp word w h.t.rd c e f d
theorem Xc (word:Al)(h:Rp rb w0 b L n r dp a p l m w)(f:Bc L<=400)(i:n<=1000)(j:word.size<=10)(g:zD L n word=G):Uh V 101 #[Ua (I ⟨b,0,U⟩),Uc word] w λx N=>x=.returned (.bool G)/\Rp rb w0 b L (n+word.size) r dp a p l m N:=
 (j4 b L n r dp word w h.t.rd f i j g).mono (by rintro e k ⟨rfl,c,d⟩;exact⟨rfl,h.NS d c⟩)
theorem zfq (h:Rp rb w0 b L n r dp a p l m w)(c:Bc L<=400)(f:n<=Bc L):Uh V 54 #[Ua (I ⟨b,0,U⟩)] w λx N=>∃v,x=.returned v/\zJ N (k (A w0)) v (z7 a 3) (zA L r n)/\Rp rb w0 b L n r dp a p l m N:=
 (vJ b L n r dp a w h.t.rd h.t.se c f).mono (by rintro e i ⟨v,rfl,g,d⟩;exact⟨v,rfl,g.base h.t.on.size,h.calm d⟩)
theorem Mb (T:TypeId)(k:Nat)(q:Int)(x:Y)(f : Ud T x=z7 a k)(h:Rp rb w0 b L n r dp a p l m w):Uh V 55 #[Ud T x,M J q] w λe N=>∃v,e=.returned v/\zJ N (dg (A w0)) v (z7 a k) q/\Rp rb w0 b L n r dp a p l m N:=
 (jt T x q w).mono (by rintro e g ⟨v,rfl,c,d⟩;rw[f] at c;exact⟨v,rfl,c.base h.t.on.size,h.calm d⟩)
theorem zfr (h:Rp rb w0 b L n r dp a p l m w)(e:Bc L<=400)(j:n<=Bc L)(d:Ts.Fit L):Uh V 245 #[Ua (I ⟨b,0,U⟩)] w λx N=>Rp rb w0 b L (yx L r n).n r dp a p l m N/\(((yx L r n).k=0/\x=.returned (Ue #[M J (yx L r n).v,Ui]))\/((yx L r n).k≠0/\∃v,x=.returned (Ue #[M J 0,v])/\zJ N (k (A w0)) v (z7 a (yx L r n).k) (yx L r n).p)):=
 (zek b L n r dp a w h.t.rd h.t.se h.t.hb e j d).mono (by
  rintro x s ⟨f,g,c⟩;refine⟨h.NS f g,?_⟩;obtain c|⟨i,v,q,o⟩:=c;exact Q c;exact O ⟨i,v,q,o.base h.t.on.size⟩)
end
def Lh (rb:Nat)(w0:E)(b:Nat)(L:Ai)(r dp:Int)(a:Nat->Addr)(p:Y)(o:Ts.Out×Int)(x:Ending)(N:E):Prop:=
 Tu rb w0 b L o.1.n r dp a N/\((o.1.k=0/\x=.returned Ui/\ZW N rb p o.1.v o.2)\/(o.1.k≠0/\∃v,x=.returned v/\zJ N (k (A w0)) v (z7 a o.1.k) o.1.p))
variable (rb)
theorem Km (p:Y)(l m:Int)(w:E)(h:Rp rb w0 b L n r dp a p l m w)(s:Bc L<=400)(hn:n<Bc L)(hF:Ts.Fit L)(aq:rb<dg (A w0)):Uh V 218 #[Ua (I ⟨b,0,U⟩),Ua (I ⟨rb,0,U⟩)] w (Lh rb w0 b L r dp a p (yh L r n)):=by
 have X:=zd h;have c1:=h.t.c1;have f1:=h.t.f1;clear h;have hA:=kr (L:=L) (r:=r) (n+1) oa;have i:H (yh L r n=_):=(by show _=_;unfold yh;rfl)
 have one:∀k (c:UInt8) (j:Int),j=(c.toNat:Int)->(zD L k { data:=#[c] }=G↔zi L k=j):=λk c j hj=>by rw[zE L k c j hj,decide_eq_true_eq]
 go_enter func218,ntmps218;go_wp2_with(first|(go_at_call 102;refine(qu (n:=n) (Rp.t X) s oa).mono ?_;rintro e f ⟨rfl,qq,rfl⟩)|(go_at_call 245;refine zb ?_));refine zd ?_;refine(zfr (n:=n+1) ((X.drewN _).N1 _ _ oa) s oa hF).mono ?_;generalize yx L r (n+1)=C at *;rintro e f ⟨d,⟨z,rfl⟩|⟨z,v,rfl,y⟩⟩
 .clear X;have X:=zd d;have B:=d.r.k0;have c1:=d.t.c1;have f1:=d.t.f1;have F:=d.r.k1;have N:=d.r.k2;have P:=d.r.f1;have S:=d.r.f2;by_cases x:zi L C.n=125
  .have m1:=(one C.n 125 125 rfl).2 x;have o:H (yh L r n=(good C.v (C.n+1),C.v)):=(by show _=_;rw[zb i];simp[z,x]);clear x i one;go_wp2_with(first|(go_at_call 101;refine(Xc (n:=C.n) _ ((X.set1 _).set2 _) s oa od ox).mono ?_;rintro e f ⟨rfl,d⟩;have d:Rp _ _ b L ((C.n)+1) r dp a _ _ _ f:=d;have X:=zd d;have B:=d.r.k0;have c1:=d.t.c1;have f1:=d.t.f1;have F:=d.r.k1;have N:=d.r.k2;have P:=d.r.f1;have S:=d.r.f2));go_ret;rw[zb o];exact⟨Rp.t (n:=C.n+1) X,Q ⟨rfl,rfl,Rp.r (n:=C.n+1) X⟩⟩
  have m1:zD L C.n { data:=#[125] }=Z:=(by rw[<-Lx,one _ 125 125 rfl];exact x);by_cases q:zi L C.n=44
  .have m2:=(one C.n 44 44 rfl).2 q;have ao:C.n<Bc L:=zG oa;go_wp2_with(first|(go_at_call 101;refine(kN (n:=C.n) _ (by first|exact(X.set1 _).set2 _|exact((X.set1 _).set2 _).drewN _) s oa od ox).mono ?_;rintro e f ⟨rfl,qq,rfl⟩)|(go_at_call 101;refine(Xc (n:=C.n) _ (by exact((X.set1 _).set2 _).drewN _) s oa od ox).mono ?_;rintro e f ⟨rfl,d⟩;have d:Rp _ _ b L ((C.n)+1) r dp a _ _ _ f:=d;have X:=zd d;have B:=d.r.k0;have c1:=d.t.c1;have f1:=d.t.f1;have F:=d.r.k1;have N:=d.r.k2;have P:=d.r.f1;have S:=d.r.f2);refine zb ?_);refine zd ?_;by_cases u:zi L (C.n+1)=125
   .have m3:=(one (C.n+1) 125 125 rfl).2 u;have o:H (yh L r n=(good C.v (C.n+2),-1)):=(by show _=_;rw[zb i];simp[z,q,u]);clear x q u i one;go_wp2_with(first|(go_at_call 101;refine(Xc (n:=C.n+1) _ X s oa od ox).mono ?_;rintro e f ⟨rfl,d⟩;have d:Rp _ _ b L ((C.n+1)+1) r dp a _ _ _ f:=d;have X:=zd d;have B:=d.r.k0;have c1:=d.t.c1;have f1:=d.t.f1;have F:=d.r.k1;have N:=d.r.k2;have P:=d.r.f1;have S:=d.r.f2));go_ret;rw[zb o];exact⟨Rp.t (n:=C.n+2) (X.set2 _),Q ⟨rfl,rfl,Rp.r (n:=C.n+2) (X.set2 _)⟩⟩
   have m3:zD L (C.n+1) { data:=#[125] }=Z:=(by rw[<-Lx,one _ 125 125 rfl];exact u);have hM:=kr (L:=L) (r:=r) (C.n+1) oa;go_wp2_with(first|(go_at_call 101;refine(kN (n:=C.n+1) _ X s oa od ox).mono ?_;rintro e f ⟨rfl,qq,rfl⟩)|(go_at_call 245;refine zb ?_));refine zd ?_;refine(zfr (n:=C.n+1) (X.drewN _) s oa hF).mono ?_;generalize yx L r (C.n+1)=D at *;rintro e f ⟨d,⟨W,rfl⟩|⟨W,v,rfl,y⟩⟩
   .clear X;have X:=zd d;have B:=d.r.k0;have c1:=d.t.c1;have f1:=d.t.f1;have F:=d.r.k1;have N:=d.r.k2;have P:=d.r.f1;have S:=d.r.f2;have ag:=d.t.se.s4;by_cases T:zi L D.n=125
    .have m4:=(one D.n 125 125 rfl).2 T;by_cases h5:D.v<C.v
     .have o:H (yh L r n=(Ts.bad 4 (zA L r n) (D.n+1),0)):=(by show _=_;rw[zb i];simp[z,q,u,W,T,h5]);clear x q u T i one;go_wp2_with(first|(go_at_call 101;refine(Xc (n:=D.n) _ (X.set2 _) s oa od ox).mono ?_;rintro e f ⟨rfl,d⟩;have d:Rp _ _ b L ((D.n)+1) r dp a _ _ _ f:=d;have X:=zd d;have B:=d.r.k0;have c1:=d.t.c1;have f1:=d.t.f1;have F:=d.r.k1;have N:=d.r.k2;have P:=d.r.f1;have S:=d.r.f2);(have ag:=X.t.se.s4)|(go_at_call 55;refine(Mb (n:=D.n+1) _ 4 _ _ rfl X).mono ?_;rintro e f ⟨v,rfl,y,d⟩;have X:=zd d;have B:=d.r.k0;have c1:=d.t.c1;have f1:=d.t.f1;have F:=d.r.k1;have N:=d.r.k2;have P:=d.r.f1;have S:=d.r.f2));go_ret;rw[zb o];exact⟨Rp.t (n:=D.n+1) X,O ⟨(show(4:Nat)≠0 by decide),v,rfl,y⟩⟩
     have o:H (yh L r n=(good C.v (D.n+1),D.v)):=(by show _=_;rw[zb i];simp[z,q,u,W,T,h5]);clear x q u T i one;go_wp2_with(first|(go_at_call 101;refine(Xc (n:=D.n) _ (X.set2 _) s oa od ox).mono ?_;rintro e f ⟨rfl,d⟩;have d:Rp _ _ b L ((D.n)+1) r dp a _ _ _ f:=d;have X:=zd d;have B:=d.r.k0;have c1:=d.t.c1;have f1:=d.t.f1;have F:=d.r.k1;have N:=d.r.k2;have P:=d.r.f1;have S:=d.r.f2));go_ret;rw[zb o];exact⟨Rp.t (n:=D.n+1) X,Q ⟨rfl,rfl,Rp.r (n:=D.n+1) X⟩⟩
    have m4:zD L D.n { data:=#[125] }=Z:=(by rw[<-Lx,one _ 125 125 rfl];exact T);have o:H (yh L r n=(Ts.bad 3 (zA L r D.n) D.n,0)):=(by show _=_;rw[zb i];simp[z,q,u,W,T]);clear x q u T i one;go_wp2_with(first|(go_at_call 101;refine(kN (n:=D.n) _ (X.set2 _) s oa od ox).mono ?_;rintro e f ⟨rfl,qq,rfl⟩)|(go_at_call 54;refine(zfq (n:=D.n) ((X.set2 _).drewN _) s oa).mono ?_;rintro e f ⟨v,rfl,y,d⟩;have X:=zd d;have B:=d.r.k0;have c1:=d.t.c1;have f1:=d.t.f1;have F:=d.r.k1;have N:=d.r.k2;have P:=d.r.f1;have S:=d.r.f2));go_ret;rw[zb o];exact⟨Rp.t (n:=D.n) X,O ⟨(show(3:Nat)≠0 by decide),v,rfl,y⟩⟩
   have o:H (yh L r n=(D,0)):=(by show _=_;rw[zb i];simp[z,q,u,W]);have⟨gv,ab⟩:=y.form;subst ab;clear X;have X:=zd d;have B:=d.r.k0;have c1:=d.t.c1;have f1:=d.t.f1;have F:=d.r.k1;have N:=d.r.k2;have P:=d.r.f1;have S:=d.r.f2;clear x q u i one d;go_wp2;go_ret;rw[zb o];exact⟨(X.set2 _).t,O ⟨W,_,rfl,y.keep ((zg.refl (λg=>g=rb) _).setCell (p:=⟨rb,2,U⟩) (Q rfl) _) (λg hg e=>oa)⟩⟩
  have m2:zD L C.n { data:=#[44] }=Z:=(by rw[<-Lx,one _ 44 44 rfl];exact q);have o:H (yh L r n=(Ts.bad 3 (zA L r C.n) C.n,0)):=(by show _=_;rw[zb i];simp[z,x,q]);clear x q i one;go_wp2_with(first|(go_at_call 101;refine(kN (n:=C.n) _ (by first|exact(X.set1 _).set2 _|exact((X.set1 _).set2 _).drewN _) s oa od ox).mono ?_;rintro e f ⟨rfl,qq,rfl⟩)|(go_at_call 54;refine(zfq (n:=C.n) (by exact((X.set1 _).set2 _).drewN _) s oa).mono ?_;rintro e f ⟨v,rfl,y,d⟩;have X:=zd d;have B:=d.r.k0;have c1:=d.t.c1;have f1:=d.t.f1;have F:=d.r.k1;have N:=d.r.k2;have P:=d.r.f1;have S:=d.r.f2));go_ret;rw[zb o];exact⟨Rp.t (n:=C.n) X,O ⟨(show(3:Nat)≠0 by decide),v,rfl,y⟩⟩
 have o:H (yh L r n=(C,0)):=by show _=_;rw[zb i];simp[z]
 have⟨gv,ab⟩:=y.form;subst ab;have X:=zd d;clear i one d;go_wp2;go_ret;rw[zb o];exact⟨X.t,O ⟨z,_,rfl,y⟩⟩
namespace Ts
def zx (L:Ai)(r:Int)(n:Nat):Bool×Out×Int:=
 if zi L n=42 then(G,good 0 (n+1),-1)
 else if zi L n=43 then(G,good 1 (n+1),-1)
 else if zi L n=63 then(G,good 0 (n+1),1)
 else if zi L n=123 then(G,yh L r n)
 else(Z,good 0 n,0)
def Zt (L:Ai)(n:Nat):Nat:=if zi L n=63 then n+1 else n
end Ts
def TW (b:Nat)(L:Ai)(r dp:Int)(a:Nat->Addr)(w:E)(p:Y)(o:Bool×Ts.Out×Int)(x:Ending)(N:E):Prop:=
 zg (zr b) w N/\((o.1=Z/\x=.returned (Ue #[p,Ui])/\yg N b L o.2.1.n r dp)\/
  (o.1=G/\o.2.1.k=0/\x=.returned (Ue #[Ud 254 (Uf #[p,M J o.2.1.v,M J o.2.2]),Ui])/\yg N b L (Zt L o.2.1.n) r dp)\/
  (o.1=G/\o.2.1.k≠0/\yg N b L o.2.1.n r dp/\∃v,x=.returned (Ue #[Ui,v])/\zJ N (k (A w)) v (z7 a o.2.1.k) o.2.1.p))
variable {rb w0 b L n r dp a}
theorem MU {p:Y}{l m:Int}{w:E}(h:Rp rb w0 b L n r dp a p l m w)(g:Bc L<=400)(i:n<=1000):Uh V 101 #[Ua (I ⟨b,0,U⟩),Uc { data:=#[63] }] w λx N=>∃q,x=.returned (.bool q)/\Rp rb w0 b L (Zt L n) r dp a p l m N:=
 (zb1 b L n r dp { data:=#[63] } w h.t.rd g i od).mono (by
  rintro e j ⟨rfl,d,f⟩;refine⟨_,rfl,h.NS f ?_⟩;have:Ts.behind L n { data:=#[63] }=Zt L n:=by unfold Zt;by_cases c:zi L n=63;rw[IN c];exact Qy (by rw[zE L n 63 63 rfl];simp[c]);rw[iN c];exact JJ (by rw[zE L n 63 63 rfl];simp[c])
  rw[this] at d;exact d)
theorem Rp.start {b:Nat}{L:Ai}{n:Nat}{r dp:Int}{a:Nat->Addr}{w:E}(p:Y)(h:yg w b L n r dp)(c:ym w a)(d:10<=b):Rp (k (A w)) (dB w (Ub #[p,M J 0,M J 0] 254)) b L n r dp a p 0 0 (dB w (Ub #[p,M J 0,M J 0] 254)):=
 have t:=(Tu.start h c d).calm ((zg.refl _ _).alloc (Ub #[p,M J 0,M J 0] 254))
 ⟨⟨t.rd,t.se,zg.refl _ _,t.hb,h.lt,ov⟩,⟨zj w _ rfl _ _ 0 _ rfl,zj w _ rfl _ _ 1 _ rfl,zj w _ rfl _ _ 2 _ rfl,zt w _ rfl _ _ 1,zt w _ rfl _ _ 2⟩⟩
namespace Ts
theorem Vw (n:Nat)(h:n<Bc L):n<=(yh L r n).1.n/\(yh L r n).1.n<=Bc L:=by have e:=kr (L:=L) (r:=r) (n+1) oa;unfold yh;simp only[];split;simp only[];omega;split;have:=zG (L:=L) (n:=(yx L r (n+1)).n) oa;simp only[good];omega;split;simp only[bad];omega;rename_i d;have a:=zG (L:=L) (n:=(yx L r (n+1)).n) oa;split;have:=zG (L:=L) (n:=(yx L r (n+1)).n+1) oa;simp only[good];omega;have f:=kr (L:=L) (r:=r) ((yx L r (n+1)).n+1) oa;split;simp only[];omega;split;simp only[bad];omega;rename_i b;have c:=zG (L:=L) (n:=(yx L r ((yx L r (n+1)).n+1)).n) oa;split;simp only[bad];omega;simp only[good];omega
end Ts
variable (b L n r dp a w)
theorem Vx (l:TypeId)(s:Y)(h:yg w b L n r dp)(hS:ym w a)(hb:10<=b)(d:Bc L<=400)(hn:n<=Bc L)(hF:Ts.Fit L):Uh V 183 #[Ua (I ⟨b,0,U⟩),Ud l s] w (TW b L r dp a w (Ud l s) (zx L r n)):=by
 have X0:=zd (Rp.start (Ud l s) h hS hb);clear h hS;go_enter func183,ntmps183;go_wp2_with fail;have y:H (zg (zr b) w (dB w (Ub #[Ud l s,M J 0,M J 0] 254))):=Ag;have ae:k (A w)<(dB w (Ub #[Ud l s,M J 0,M J 0] 254)).heap.size:=ov;have X:=zb X0;generalize dB w (Ub #[Ud l s,M J 0,M J 0] 254)=W at *;have ar:k (A w)<=k (A w):=AD _;generalize au:k (A w)=rb at *;have c1:=X.t.c1;have f1:=X.t.f1;have o:=X.r.k0;have p:=X.r.k1;have q:=X.r.k2;have u:=X.r.f1;have x:=X.r.f2;have X:=zd X;clear X0;by_cases g:zi L n=42
 .have al:zD L n { data:=#[42] }=G:=by rw[zE L n 42 42 rfl];simp[g]
  have i:H (zx L r n=(G,good 0 (n+1),-1)):=by unfold zx;rw[IN g];rfl
  clear g;go_wp2_with(first|(go_at_call 101;refine(Xc (n:=n) _ X d oa od ox).mono ?_;rintro e f ⟨rfl,c⟩;have c:Rp _ _ b L ((n)+1) r dp a _ _ _ f:=c;have X:=zd c;have o:=c.r.k0;have c1:=c.t.c1;have f1:=c.t.f1;have p:=c.r.k1;have q:=c.r.k2;have u:=c.r.f1;have x:=c.r.f2)|(go_at_call 101;refine(MU (n:=n+1) (X.set2 _) d oa).mono ?_;rintro e f ⟨S,rfl,c⟩;have X:=zd c;have o:=c.r.k0;have c1:=c.t.c1;have f1:=c.t.f1;have p:=c.r.k1;have q:=c.r.k2;have u:=c.r.f1;have x:=c.r.f2));go_ret2;rw[zb i];exact⟨Own.back y X.t.on oa,O (Q ⟨rfl,rfl,rfl,X.t.rd⟩)⟩
 have al:zD L n { data:=#[42] }=Z:=by rw[zE L n 42 42 rfl];simp[g]
 by_cases j:zi L n=43
 .have am:zD L n { data:=#[43] }=G:=(by rw[zE L n 43 43 rfl];simp[j]);have i:H (zx L r n=(G,good 1 (n+1),-1)):=(by unfold zx;rw[iN g,IN j];rfl);clear g j;go_wp2_with(first|(go_at_call 101;refine(kN (n:=n) _ (by first|exact X|exact X.drewN _) d oa od ox).mono ?_;rintro e f ⟨rfl,N,rfl⟩)|(go_at_call 101;refine(Xc (n:=n) _ (X.drewN _) d oa od ox).mono ?_;rintro e f ⟨rfl,c⟩;have c:Rp _ _ b L ((n)+1) r dp a _ _ _ f:=c;have X:=zd c;have o:=c.r.k0;have c1:=c.t.c1;have f1:=c.t.f1;have p:=c.r.k1;have q:=c.r.k2;have u:=c.r.f1;have x:=c.r.f2)|(go_at_call 101;refine(MU (n:=n+1) ((X.set1 _).set2 _) d oa).mono ?_;rintro e f ⟨S,rfl,c⟩;have X:=zd c;have o:=c.r.k0;have c1:=c.t.c1;have f1:=c.t.f1;have p:=c.r.k1;have q:=c.r.k2;have u:=c.r.f1;have x:=c.r.f2));go_ret2;rw[zb i];exact⟨Own.back y X.t.on oa,O (Q ⟨rfl,rfl,rfl,X.t.rd⟩)⟩
 have am:zD L n { data:=#[43] }=Z:=(by rw[zE L n 43 43 rfl];simp[j]);by_cases m:zi L n=63
 .have an:zD L n { data:=#[63] }=G:=(by rw[zE L n 63 63 rfl];simp[m]);have i:H (zx L r n=(G,good 0 (n+1),1)):=(by unfold zx;rw[iN g,iN j,IN m];rfl);clear g j m;go_wp2_with(first|(go_at_call 101;refine(kN (n:=n) _ (by first|exact X|exact X.drewN _) d oa od ox).mono ?_;rintro e f ⟨rfl,N,rfl⟩)|(go_at_call 101;refine(Xc (n:=n) _ (X.drewN _) d oa od ox).mono ?_;rintro e f ⟨rfl,c⟩;have c:Rp _ _ b L ((n)+1) r dp a _ _ _ f:=c;have X:=zd c;have o:=c.r.k0;have c1:=c.t.c1;have f1:=c.t.f1;have p:=c.r.k1;have q:=c.r.k2;have u:=c.r.f1;have x:=c.r.f2)|(go_at_call 101;refine(MU (n:=n+1) (X.set2 _) d oa).mono ?_;rintro e f ⟨S,rfl,c⟩;have X:=zd c;have o:=c.r.k0;have c1:=c.t.c1;have f1:=c.t.f1;have p:=c.r.k1;have q:=c.r.k2;have u:=c.r.f1;have x:=c.r.f2));go_ret2;rw[zb i];exact⟨Own.back y X.t.on oa,O (Q ⟨rfl,rfl,rfl,X.t.rd⟩)⟩
 have an:zD L n { data:=#[63] }=Z:=(by rw[zE L n 63 63 rfl];simp[m]);by_cases z:zi L n=123
 .have P:n<Bc L:=zG oa;have ah:(zi L n == 123)=G:=(by simp[z]);have i:H (zx L r n=(G,yh L r n)):=(by unfold zx;rw[iN g,iN j,iN m,IN z];rfl);clear g j m z;have ap:=Vw (r:=r) n P;by_cases F:(yh L r n).1.k=0
  .go_wp2_with(first|(go_at_call 101;refine(kN (n:=n) _ (by first|exact X|exact X.drewN _) d oa od ox).mono ?_;rintro e f ⟨rfl,N,rfl⟩)|(go_at_call 146;refine AL (xd (n:=n) (Rp.t (X.drewN _)) d oa) ?_)|(go_at_call 218;refine(Km rb W b L n r dp a (Ud l s) 0 0 _ (X.drewN _) d P hF ae).mono ?_;rintro e wc ⟨tq,B⟩;obtain⟨rfl,hr⟩:=Xb B F;clear B;have c:Rp rb W b L _ r dp a _ _ _ wc:=⟨tq,hr⟩;have X:=zd c;have o:=c.r.k0;have c1:=c.t.c1;have f1:=c.t.f1;have p:=c.r.k1;have q:=c.r.k2;have u:=c.r.f1;have x:=c.r.f2)|(go_at_call 101;refine(MU (n:=(yh L r n).1.n) X d oa).mono ?_;rintro e f ⟨S,rfl,c⟩;have X:=zd c;have o:=c.r.k0;have c1:=c.t.c1;have f1:=c.t.f1;have p:=c.r.k1;have q:=c.r.k2;have u:=c.r.f1;have x:=c.r.f2));go_ret2;rw[zb i];exact⟨Own.back y X.t.on oa,O (Q ⟨rfl,F,rfl,X.t.rd⟩)⟩
  go_wp2_with(first|(go_at_call 101;refine(kN (n:=n) _ (by first|exact X|exact X.drewN _) d oa od ox).mono ?_;rintro e f ⟨rfl,N,rfl⟩)|(go_at_call 146;refine AL (xd (n:=n) (Rp.t (X.drewN _)) d oa) ?_)|(go_at_call 218;refine(Km rb W b L n r dp a (Ud l s) 0 0 _ (X.drewN _) d P hF ae).mono ?_;rintro e wc ⟨tq,B⟩;obtain⟨v,rfl,hv⟩:=ND B F;clear B;have⟨gv,aj⟩:=hv.form;subst aj;have T:=zd tq));go_ret2;rw[zb i];exact⟨Own.back y T.on oa,O (O ⟨rfl,F,T.rd,_,rfl,hv.base oa⟩)⟩
 have ah:(zi L n == 123)=Z:=(by simp[z]);have i:H (zx L r n=(Z,good 0 n,0)):=(by unfold zx;rw[iN g,iN j,iN m,iN z];rfl);clear g j m z;go_wp2_with(first|(go_at_call 101;refine(kN (n:=n) _ (by first|exact X|exact X.drewN _) d oa od ox).mono ?_;rintro e f ⟨rfl,N,rfl⟩)|(go_at_call 146;refine AL (xd (n:=n) (Rp.t (X.drewN _)) d oa) ?_));go_ret2;rw[zb i];exact⟨Own.back y (X.drewN _).t.on oa,Q ⟨rfl,rfl,(X.drewN _).t.rd⟩⟩
end
section
namespace Sm
variable {lf:Tree->Aj} {ah:Int->Aj}
def FD (lf:Tree->Aj)(ah:Int->Aj)(N:Aq)(s i q:Nat):Prop:=∃a,a<=i/\Goes lf ah N s a q i
def Fy (lf:Tree->Aj)(ah:Int->Aj)(N:Aq)(s i:Nat)(ps:Ao):Prop:=∀q,(∃p∈ps,Goes lf ah N p i q i)↔FD lf ah N s i q
theorem za8 (N:Aq)(s:Nat):Fy lf ah N s 0 [s]:=by
 intro q;constructor;rintro⟨p,a,g⟩;obtain rfl:=A5.1 a;exact⟨0,AD _,g⟩;rintro⟨b,h,g⟩;obtain rfl:b=0:=by omega
 exact⟨s,A5.2 rfl,g⟩
def LK (lf:Tree->Aj)(ah:Int->Aj)(N:Aq)(s n:Nat):Prop:=∃i,i<n/\FD lf ah N s i 0
theorem wT {N:Aq}{s i:Nat}:LK lf ah N s (i+1)↔LK lf ah N s i\/FD lf ah N s i 0:=by constructor;rintro⟨j,a,h⟩;by_cases e:j=i;subst e;exact O h;exact Q ⟨j,oa,h⟩;rintro(⟨j,a,h⟩|h);exact⟨j,oa,h⟩;exact⟨i,oa,h⟩
theorem zgE {N:Aq}{s n:Nat}:LK lf ah N s (n+1)↔∃i j,i<=n/\j<=n/\Goes lf ah N s i 0 j:=by constructor;rintro⟨j,a,i,b,g⟩;exact⟨i,j,oa,oa,g⟩;rintro⟨i,j,_,a,g⟩;exact⟨j,oa,i,g.le,g⟩
end Sm
end
section
open Go.RowKit
theorem yz {P:Program}(w:E){an:Array Oper}{rest:List Oper}{o:Oper}{a:Act}{Q:Exit->Act->E->Prop}(B:o.guard=U)(s x:Operand)(t:TypeId)(T:o.op=.call { callee:=.builtin .append,args:=#[s,x],argTypes:=#[t,t] })(base:Nat) (e:TypeId) (i:TypeInfo) (z:Y) (size bytes:Nat) (ht:P.underlying t=I (.slice e)) (F:P.info? e=I i) (hz:i.zero=I z)(X:i.size=size) (ah:i.bytes=bytes) (al:z.cells.size=size) (aj:0<size)(v:Y) (n:Nat) (xs:An) (W:a.eval s=v) (r:dA w base e size v n xs)(ad:Addr) (m c:Nat) (p:An) (hx:a.eval x=K (I ad) m c) (L:Bc p=m*size) (S:∀j u,p[j]?=I u->dx w (ad.add j)=I u) (y:∀u∈p,u.oneCell'=G)(ae:n+m<=maxLen) (ai:(n+m)*bytes<=140737488355328) (ag:base<=dg (A w))(h:∀d N,N.ownsRow base e size d (n+m) (xs++p)->w.grownBy N (dH v)->(∀k,dH d=I k->dH v=I k\/dg (A w)<=k)->wpList P an Q rest (a.put o.dst d) N):wpList P an Q (o :: rest) a w:=by
 have am:∀N row,w.grownBy N U->w.grownBy N row:=λN row g=>⟨g.os,g.tape,g.output,g.size,λk l _=>g.block k l ov⟩
 obtain⟨rfl,rfl⟩|⟨g,ac,av,rfl,aw,hg,aA,ax,ay,aB⟩:=r.2
 .have au:xs=[]:=Cb (by simpa using r.1);subst au;by_cases hm:m=0
  .subst hm;exact wpList_append_own w B s x t T base e i z size bytes ht F hz X ah al aj _ 0 [] W r ad 0 c p hx L S y ae ai ag (λd N f q h4=>h d N f q (λk l=>by
    have:d=K U 0 0:=h4.2 ⟨rfl,rfl⟩;subst this;simp[dH] at l))
  exact wpList_append_grows w B s x t T e i z size bytes ht F hz X ah al aj U 0 0 [] W (λ_=>⟨rfl,rfl⟩) ov (λb hb=>by cases hb) ad m c p hx L S y oa ae ai (λd N f q=>h d N (zL f ag) (am _ _ q) (λk l=>O (f.lt k l).1))
 by_cases ar:n+m<=ac;exact wpList_append_fits w B s x t T base e i size ht F X g n ac xs W r ad m c p hx L S y ar (λN f q=>h _ N f q (λk l=>.inl l));exact wpList_append_grows w B s x t T e i z size bytes ht F hz X ah al aj (I ⟨g,0,U⟩) n ac xs W (λhh=>by cases hh) r.1 (λb hb=>by cases hb;exact r.cells (g:=g) rfl) ad m c p hx L S y oa ae ai (λd N f q=>h d N (zL f ag) (am _ _ q) (λk l=>O (f.lt k l).1))
namespace Ts
def xu:Int->Ar->Int
 |t,[]=>t
 |t,z :: r=>xu (min (t+z) 301) r
def kF (z l m:Int):Int:=if m = -1 then max l 1*z+1 else l*z+(m-l)*(z+1)
end Ts
def Zu (w:E)(A:Aj)(b:Y)(xs:An):Prop:=
 (b=K U 0 0/\xs=[])\/∃g a,b=K (I ⟨g,0,U⟩) (Bc xs) a/\A g/\(Bc xs)<=a/\g<k w.heap/\∀j x,xs[j]?=I x->dx w ⟨g,j,U⟩=I x
def Et (T:TypeId):Prop:=T=153\/T=244\/T=245\/T=246\/T=250
def yt:Nat->E->Aj->Y->Int->Prop
 |0,_,_,_,_=>False
 |f+1,w,A,v,z=>
  (z=1/\∃T x,Et T/\v=Ud T x)\/
  (∃b xs zs,v=Ud 228 b/\Zu w A b xs/\(Bc xs)<=1000/\(Bc zs)=Bc xs/\(∀(j:Nat) x a,xs[j]?=I x->zs[j]?=I a->yt f w A x a)/\0<Bc xs/\z=min (xu 0 zs+Bc xs-1) 301)\/
  (∃b xs zs,v=Ud 252 b/\Zu w A b xs/\(Bc xs)<=1000/\(Bc zs)=Bc xs/\(∀(j:Nat) x a,xs[j]?=I x->zs[j]?=I a->yt f w A x a)/\z=xu 0 zs)\/
  (∃p l m a,v=Ud 254 (Uf #[p,M J l,M J m])/\yt f w A p a/\0<=l/\l<=100/\-1<=m/\m<=100/\(m = -1\/l<=m)/\z=min (kF a l m) 301)
theorem Zu.keep {P A:Aj}{w N:E}{d:Y}{xs:An}(h:Zu w A d xs)(k:zg P w N)(m:∀g,A g->¬P g):Zu N A d xs:=by obtain h|⟨g,e,f,a,i,l,b⟩:=h;exact Q h;exact O ⟨g,e,f,a,i,AM l k.size,λj x c=>(k.cell (zic w _ (b j x c)) (m g a)).trans (b j x c)⟩
theorem Zu.mono {A B:Aj}{w:E}{b:Y}{xs:An}(h:Zu w A b xs)(j:∀g,g<k w.heap->A g->B g):Zu w B b xs:=by obtain h|⟨g,c,d,e,f,a,i⟩:=h;exact Q h;exact O ⟨g,c,d,j g a e,f,a,i⟩
theorem yt.keep {P A:Aj}{w N:E}(k:zg P w N)(e:∀g,A g->¬P g):∀(f:Nat) (v:Y) (z:Int),yt f w A v z->yt f N A v z
 |0,_,_,h=>h
 |f+1,v,z,h=>by
  obtain h|⟨s,xs,zs,b,c,i,d,n,o,t⟩|⟨s,xs,zs,b,c,i,d,n,o⟩|⟨p,l,m,a,b,c,d⟩:=h;exact Q h;exact O (Q ⟨s,xs,zs,b,c.keep k e,i,d,λj x a q r=>yt.keep k e f x a (n j x a q r),o,t⟩);exact O (O (Q ⟨s,xs,zs,b,c.keep k e,i,d,λj x a q r=>yt.keep k e f x a (n j x a q r),o⟩));exact O (O (O ⟨p,l,m,a,b,yt.keep k e f p a c,d⟩))
namespace Ts
theorem XR:∀(zs:Ar) (t:Int),0<=t->t<=301->(∀z∈zs,0<=z)->0<=xu t zs/\xu t zs<=301
 | [],t,a,b,_=>⟨a,b⟩
 |z :: r,t,a,b,h=>by
  have d:=h z (A8 ..);exact XR r (min (t+z) 301) oa oa (λy c=>h y (Bm _ c))
theorem Yq {z l m:Int}(a:0<=z)(b:0<=l)(e:m = -1\/l<=m):0<=kF z l m:=by unfold kF;split;have:0<=max l 1*z:=CQ oa a;omega;have c:0<=l*z:=CQ b a;have d:0<=(m-l)*(z+1):=CQ oa oa;omega
end Ts
theorem wM {α:Type}{l:List α}{x:α}(h:x∈l):∃j:Nat,l[j]?=I x:=by have⟨j,a,e⟩:=ML h;exact⟨j,by rw[AE a,e]⟩
theorem yt.bd {A:Aj}{w:E}:∀(f:Nat) (v:Y) (z:Int),yt f w A v z->0<=z/\z<=301
 |0,_,_,h=>h.elim
 |f+1,v,z,h=>by
  have key:∀(xs:An) (zs:Ar),Bc zs=Bc xs->(∀(j:Nat) x c,xs[j]?=I x->zs[j]?=I c->yt f w A x c)->∀y∈zs,0<=y:=by intro xs zs B o y s;have⟨j,q⟩:=wM s;have r:j<Bc xs:=(by grind);exact(yt.bd f _ _ (o j xs[j] y (AE r) q)).1
  obtain⟨h,_⟩|⟨t,xs,zs,e,d,i,a,b,g,k⟩|⟨t,xs,zs,e,d,i,a,b,g⟩|⟨p,l,m,c,e,d,a,b,g,k,n,u⟩:=h;omega;have:=XR zs 0 oa oa (key xs zs a b);omega;have:=XR zs 0 oa oa (key xs zs a b);omega;have:=yt.bd f p c d;have:=Yq this.1 a n;omega
def Ie (f:Nat)(w:E)(A:Aj)(xs:An)(zs:Ar):Prop:=Bc zs=Bc xs/\∀(j:Nat) x a,xs[j]?=I x->zs[j]?=I a->yt f w A x a
namespace Ts
section
variable (L:Ai) (r:Int)
def zZ (n:Nat):Out:=
 if zi L (n+1)=63 then
  (if zi L (n+2)=58 then good 0 (n+3)
   else if zi L (n+2)=61\/zi L (n+2)=33\/zi L (n+2)=60 then bad 6 (zA L r n) (n+2)
   else bad 3 (zA L r (n+2)) (n+2))
 else good 0 (n+1)
def Bn (n:Nat):Nat:=if zi L n=94\/zi L n=36 then 1 else if zi L n=92/\(zi L (n+1)=98\/zi L (n+1)=66) then 2 else 0
def Yr (c:Int):Bool:=(c == 42) ||(c == 43) ||(c == 63) ||(c == 123) ||(c == 125) ||(c == 93)
def one (o:Out):Out:=if o.k=0 then good 1 o.n else o
def zK (D:Nat->Out)(n:Nat):Out:=
 if Yr (zi L n)=G then bad 3 (zA L r n) n
 else if zi L n=40 then D n
 else if zi L n=91 then one (qG L r n)
 else if zi L n=92 then one (xR L r n)
 else good 1 (n+1)
def wU (a:Nat->Out)(n:Nat):Out:=
 if(zZ L r n).k≠0 then zZ L r n
 else if(a (zZ L r n).n).k≠0 then a (zZ L r n).n
 else if zi L (a (zZ L r n).n).n=41 then good (a (zZ L r n).n).v ((a (zZ L r n).n).n+1)
 else bad 3 (zA L r (a (zZ L r n).n).n) (a (zZ L r n).n).n
def yJ (D:Nat->Out)(n:Nat):Out:=
 if Bn L n≠0 then good 1 (n+Bn L n)
 else if(zK L r D n).k≠0 then zK L r D n
 else if(zx L r (zK L r D n).n).1=Z then zK L r D n
 else if(zx L r (zK L r D n).n).2.1.k≠0 then(zx L r (zK L r D n).n).2.1
 else good (min (kF (zK L r D n).v (zx L r (zK L r D n).n).2.1.v (zx L r (zK L r D n).n).2.2) 301) (Zt L (zx L r (zK L r D n).n).2.1.n)
def Zv (n:Nat):Bool:=decide (Bc L<=n) ||decide (zi L n=124) ||decide (zi L n=41)
def xG (D:Nat->Out):Nat->Int->Nat->Out
 |0,s,n=>good s n
 |f+1,s,n=>if Zv L n=G then good s n
  else if(yJ L r D n).k≠0 then yJ L r D n
  else xG D f (min (s+(yJ L r D n).v) 301) (yJ L r D n).n
def zR (D:Nat->Out)(n:Nat):Out:=xG L r D (Bc L+1-n) 0 n
def vx (D:Nat->Out):Nat->Ar->Nat->Out
 |0,_,n=>good 0 n
 |f+1,zs,n=>if(zR L r D n).k≠0 then zR L r D n
  else if zi L (zR L r D n).n=124 then vx D f (zs++[(zR L r D n).v]) ((zR L r D n).n+1)
  else good (min (xu 0 (zs++[(zR L r D n).v])+((Bc zs:Int)+1)-1) 301) (zR L r D n).n
def yQ (D:Nat->Out)(n:Nat):Out:=vx L r D (Bc L+1-n) [] n
def zB:Nat->Nat->Out
 |0,n=>bad 7 (zA L r n) n
 |a+1,n=>wU L r (yQ L r (zB a)) n
end
def Cr (L:Ai)(D:Nat->Out):Prop:=∀n,n<Bc L->n<=(D n).n/\(D n).n<=Bc L/\((D n).k=0->n<(D n).n/\0<=(D n).v/\(D n).v<=301)
section
variable {L:Ai} {r:Int} {D:Nat->Out}
theorem Q1 (n:Nat)(h:n<Bc L):n<(zZ L r n).n/\(zZ L r n).n<=Bc L:=by unfold zZ;split;have a:n+1<Bc L:=zG oa;split;have b:n+2<Bc L:=zG oa;simp only[good];omega;split;simp only[bad];omega;simp only[bad];omega;simp only[good];omega
theorem I9 (n:Nat)(h:Bn L n≠0):n<n+Bn L n/\n+Bn L n<=Bc L:=by
 refine⟨oa,?_⟩;unfold Bn at h ⊢;split;have:=zG (L:=L) (n:=n) oa;omega;split;have:=zG (L:=L) (n:=n+1) oa;omega
 grind
theorem LJ (o:Out):(one o).n=o.n:=by unfold one;split<;>rfl
theorem LI (o:Out):(one o).k=o.k:=by unfold one;split<;>simp_all [good]
theorem Cw (o:Out)(h:o.k=0):(one o).v=1:=by unfold one;rw[IN h];rfl
theorem W7 (n:Nat)(h:n<Bc L):n<(qG L r n).n/\(qG L r n).n<=Bc L:=by unfold qG;split;have:=zG (L:=L) (n:=n+1) oa;have:=JN (L:=L) (r:=r) (Bc L+1-n) (n+2) oa;omega;have:=JN (L:=L) (r:=r) (Bc L+1-n) (n+1) oa;omega
theorem Vy (b:Cr L D)(n:Nat)(h:n<Bc L):n<=(zK L r D n).n/\(zK L r D n).n<=Bc L/\((zK L r D n).k=0->n<(zK L r D n).n/\0<=(zK L r D n).v/\(zK L r D n).v<=301):=by unfold zK;split;simp only[bad];omega;split;exact b n h;split;have:=W7 (L:=L) (r:=r) n h;rw[LJ,LI];exact⟨oa,oa,λa=>by rw[Cw _ a];omega⟩;split;have:=NF (L:=L) (r:=r) n h;rw[LJ,LI];exact⟨oa,oa,λa=>by rw[Cw _ a];omega⟩;simp only[good];omega
theorem Ev (n:Nat)(h:n<=Bc L):n<=Zt L n/\Zt L n<=Bc L:=by unfold Zt;split;have:=zG (L:=L) (n:=n) oa;omega;omega
theorem W8 (n:Nat)(h:n<=Bc L):n<=(zx L r n).2.1.n/\(zx L r n).2.1.n<=Bc L/\((zx L r n).1=Z->(zx L r n).2.1.n=n):=by unfold zx;split;have:=zG (L:=L) (n:=n) oa;simp[good];omega;split;have:=zG (L:=L) (n:=n) oa;simp[good];omega;split;have:=zG (L:=L) (n:=n) oa;simp[good];omega;split;have a:=zG (L:=L) (n:=n) oa;have:=Vw (r:=r) n a;simp;omega;simp[good];omega
theorem zgF (n:Nat)(h:n<Bc L)(a:(yh L r n).1.k=0):0<=(yh L r n).1.v/\(yh L r n).1.v<=100/\-1<=(yh L r n).2/\(yh L r n).2<=100/\((yh L r n).2 = -1\/(yh L r n).1.v<=(yh L r n).2):=by
 have j:=kr (L:=L) (r:=r) (n+1) oa;unfold yh at a ⊢;simp only[] at a ⊢;split
 grind
 rename_i d;rw[iN d] at a;split;simp[good];omega;rename_i e;rw[iN e] at a;split;rename_i b;rw[IN b] at a;cases a;rename_i b;rw[iN b] at a;have l:=zG (L:=L) (n:=(yx L r (n+1)).n) oa;split;simp[good];omega;rename_i f;rw[iN f] at a;have m:=kr (L:=L) (r:=r) ((yx L r (n+1)).n+1) oa;split
 grind
 rename_i g;rw[iN g] at a;split;rename_i c;rw[IN c] at a;cases a;rename_i c;rw[iN c] at a;split;rename_i i;rw[IN i] at a;cases a;simp[good];omega
theorem Vz (n:Nat)(b:(zx L r n).1=G)(a:(zx L r n).2.1.k=0):0<=(zx L r n).2.1.v/\(zx L r n).2.1.v<=100/\-1<=(zx L r n).2.2/\(zx L r n).2.2<=100/\((zx L r n).2.2 = -1\/(zx L r n).2.1.v<=(zx L r n).2.2):=by unfold zx at b a ⊢;split;simp[good];rename_i d;rw[iN d] at b a;split;simp[good];rename_i e;rw[iN e] at b a;split;simp[good];rename_i f;rw[iN f] at b a;split;rename_i c;rw[IN c] at a;exact zgF n (zG oa) a;rename_i c;rw[iN c] at b;cases b
theorem VA (g:Cr L D)(n:Nat)(h:n<Bc L):n<=(yJ L r D n).n/\(yJ L r D n).n<=Bc L/\((yJ L r D n).k=0->n<(yJ L r D n).n/\0<=(yJ L r D n).v/\(yJ L r D n).v<=301):=by
 have a:=Vy (r:=r) g n h;have i:=W8 (L:=L) (r:=r) (zK L r D n).n a.2.1;unfold yJ;split;rename_i b;have:=I9 (L:=L) n b;simp only[good];omega;split;omega;rename_i b j;have c:(zK L r D n).k=0:=oa;split;exact a;rename_i e;split;omega;rename_i l;have f:(zx L r (zK L r D n).n).2.1.k=0:=by omega
 have m:=Ev (L:=L) (zx L r (zK L r D n).n).2.1.n i.2.1;have d:=Vz (L:=L) (r:=r) (zK L r D n).n (by simpa using e) f;have o:=Yq (z:=(zK L r D n).v) (a.2.2 c).2.1 d.1 d.2.2.2.2;have:=(a.2.2 c).1;simp only[good];omega
theorem W9 (a:Cr L D):∀(f:Nat) (s:Int) (n:Nat),n<=Bc L->0<=s->s<=301->n<=(xG L r D f s n).n/\(xG L r D f s n).n<=Bc L/\((xG L r D f s n).k=0->0<=(xG L r D f s n).v/\(xG L r D f s n).v<=301)
 |0,s,n,h,d,e=>by simp only[xG,good];omega
 |f+1,s,n,h,d,e=>by
  simp only[xG];split;simp only[good];omega;rename_i b;have i:n<Bc L:=(by unfold Zv at b;simp at b;omega);have c:=VA (r:=r) a n i;split;omega;rename_i j;have g:(yJ L r D n).k=0:=oa;have l:=c.2.2 g;have:=W9 a f (min (s+(yJ L r D n).v) 301) (yJ L r D n).n c.2.1 oa oa;omega
theorem XS (a:Cr L D)(n:Nat)(h:n<=Bc L):n<=(zR L r D n).n/\(zR L r D n).n<=Bc L/\((zR L r D n).k=0->0<=(zR L r D n).v/\(zR L r D n).v<=301):=W9 a _ 0 n h oa oa
theorem zfs (a:Cr L D):∀(f:Nat) (zs:Ar) (n:Nat),n<=Bc L->(∀z∈zs,0<=z)->n<=(vx L r D f zs n).n/\(vx L r D f zs n).n<=Bc L/\((vx L r D f zs n).k=0->0<=(vx L r D f zs n).v/\(vx L r D f zs n).v<=301)
 |0,zs,n,h,c=>by simp only[vx,good];omega
 |f+1,zs,n,h,c=>by
  have i:=XS (r:=r) a n h;simp only[vx];split;omega;rename_i e;have g:(zR L r D n).k=0:=oa;have b:∀z∈zs++[(zR L r D n).v],0<=z:=by grind
  split;have d:=zG (L:=L) (n:=(zR L r D n).n) oa;have:=zfs a f (zs++[(zR L r D n).v]) ((zR L r D n).n+1) oa b;omega;have:=XR (zs++[(zR L r D n).v]) 0 oa oa b;simp only[good];omega
theorem Ys (a:Cr L D)(n:Nat)(h:n<=Bc L):n<=(yQ L r D n).n/\(yQ L r D n).n<=Bc L/\((yQ L r D n).k=0->0<=(yQ L r D n).v/\(yQ L r D n).v<=301):=zfs a _ [] n h ov
theorem qS:∀a,Cr L (zB L r a)
 |0=>λn h=>by simp only[zB,bad];omega
 |a+1=>λn h=>by
  have d:=Q1 (L:=L) (r:=r) n h;have b:=Ys (r:=r) (qS a) (zZ L r n).n d.2;simp only[zB];unfold wU;split;omega;split;omega;rename_i f g;have c:(yQ L r (zB L r a) (zZ L r n).n).k=0:=oa;have i:=b.2.2 c;split;have e:=zG (L:=L) (n:=(yQ L r (zB L r a) (zZ L r n).n).n) oa;simp only[good];omega;simp only[bad];omega
end
end Ts
theorem Ts.sumS_append:∀(zs:Ar) (t z:Int),xu t (zs++[z])=min (xu t zs+z) 301
 | [],_t,_z=>rfl
 |y :: r,t,z=>sumS_append r (min (t+y) 301) z
def Mu (b:Nat)(L:Ai)(r dp:Int)(a:Nat->Addr)(w:E)(o:Ts.Out)(x:Ending)(N:E):Prop:=
 Tu (k (A w)) w b L o.n r dp a N/\((o.k=0/\x=.returned Ui/\True)\/(o.k≠0/\∃v,x=.returned v/\zJ N (k (A w)) v (z7 a o.k) o.p))
variable (b L n r dp a w)
theorem Zw (h:yg w b L n r dp)(m:ym w a)(t:10<=b)(f:Bc L<=400)(F:n<Bc L):Uh V 241 #[Ua (I ⟨b,0,U⟩)] w (Mu b L r dp a w (zZ L r n)):=by
 have T:=zd (Tu.start h m t);have c1:=h.c1;have f1:=h.f1;have u:=m.s6;by_cases g:zi L (n+1)=63
 .have x:zD L (n+1) { data:=#[63] }=G:=by rw[zE L (n+1) 63 63 rfl];simp[g]
  have B:=zG (L:=L) (n:=n+1) oa;by_cases i:zi L (n+2)=58
  .have y:zD L (n+1+1) { data:=#[58] }=G:=(by rw[zE L (n+1+1) 58 58 rfl];simp[i]);have j:H (zZ L r n=good 0 (n+3)):=(by unfold zZ;rw[IN g,IN i];rfl);go_enter func241,ntmps241;go_wp2_with(first|(go_at_call 102;refine(qu (n:=n) T f oa).mono ?_;rintro e d ⟨rfl,k,rfl⟩)|(go_at_call 101;refine(vT (n:=n+1) _ ((T.drewN _).N1 _ _ oa) f oa od ox).mono ?_;rintro e d ⟨rfl,c⟩;have c:Tu _ _ b L ((n+1)+1) r dp a d:=c;have T:=zd c;have c1:=c.c1;have f1:=c.f1)|(go_at_call 101;refine(vT (n:=n+1+1) _ T f oa od ox).mono ?_;rintro e d ⟨rfl,c⟩;have c:Tu _ _ b L ((n+1+1)+1) r dp a d:=c;have T:=zd c;have c1:=c.c1;have f1:=c.f1));go_ret;rw[zb j];exact⟨T,Q ⟨rfl,rfl,trivial⟩⟩
  have y:zD L (n+1+1) { data:=#[58] }=Z:=(by rw[zE L (n+1+1) 58 58 rfl];simp[i]);by_cases l:zi L (n+2)=61\/zi L (n+2)=33\/zi L (n+2)=60
  .have j:H (zZ L r n=Ts.bad 6 (zA L r n) (n+2)):=(by unfold zZ;rw[IN g,iN i,IN l];rfl);have s:((zi L (n+2) == 61)=G)\/((zi L (n+2) == 61)=Z/\(zi L (n+2) == 33)=G)\/((zi L (n+2) == 61)=Z/\(zi L (n+2) == 33)=Z/\(zi L (n+2) == 60)=G):=(by grind);obtain p|⟨p,q⟩|⟨p,q,z⟩:=s
   all_goals
    go_enter func241,ntmps241;go_wp2_with(first|(go_at_call 102;refine(qu (n:=n) T f oa).mono ?_;rintro e d ⟨rfl,k,rfl⟩)|(go_at_call 101;refine(vT (n:=n+1) _ ((T.drewN _).N1 _ _ oa) f oa od ox).mono ?_;rintro e d ⟨rfl,c⟩;have c:Tu _ _ b L ((n+1)+1) r dp a d:=c;have T:=zd c;have c1:=c.c1;have f1:=c.f1);(have u:=T.se.s6)|(go_at_call 101;refine(xJ (n:=n+1+1) _ T f oa od ox).mono ?_;rintro e d ⟨rfl,k,rfl⟩)|(go_at_call 146;refine AL (xd (n:=n+2) (T.drewN _) f oa) ?_)|(go_at_call 55;refine(Kj (n:=n+2) _ 6 _ _ rfl (T.drewN _)).mono ?_;rintro e d ⟨v,rfl,o,c⟩;have T:=zd c;have c1:=c.c1;have f1:=c.f1));go_ret;rw[zb j];exact⟨T,O ⟨(show(6:Nat)≠0 by decide),v,rfl,o⟩⟩
  have j:H (zZ L r n=Ts.bad 3 (zA L r (n+2)) (n+2)):=(by unfold zZ;rw[IN g,iN i,iN l];rfl);have p:(zi L (n+2) == 61)=Z:=ou;have q:(zi L (n+2) == 33)=Z:=ou;have z:(zi L (n+2) == 60)=Z:=ou;go_enter func241,ntmps241;go_wp2_with(first|(go_at_call 102;refine(qu (n:=n) T f oa).mono ?_;rintro e d ⟨rfl,k,rfl⟩)|(go_at_call 101;refine(vT (n:=n+1) _ ((T.drewN _).N1 _ _ oa) f oa od ox).mono ?_;rintro e d ⟨rfl,c⟩;have c:Tu _ _ b L ((n+1)+1) r dp a d:=c;have T:=zd c;have c1:=c.c1;have f1:=c.f1)|(go_at_call 101;refine(xJ (n:=n+1+1) _ T f oa od ox).mono ?_;rintro e d ⟨rfl,k,rfl⟩)|(go_at_call 146;refine AL (xd (n:=n+2) (T.drewN _) f oa) ?_)|(go_at_call 54;refine(QV (n:=n+2) (T.drewN _) f oa).mono ?_;rintro e d ⟨v,rfl,o,c⟩;have T:=zd c;have c1:=c.c1;have f1:=c.f1));go_ret;rw[zb j];exact⟨T,O ⟨(show(3:Nat)≠0 by decide),v,rfl,o⟩⟩
 have x:zD L (n+1) { data:=#[63] }=Z:=by rw[zE L (n+1) 63 63 rfl];simp[g]
 have j:H (zZ L r n=good 0 (n+1)):=by unfold zZ;rw[iN g];rfl
 go_enter func241,ntmps241;go_wp2_with(first|(go_at_call 102;refine(qu (n:=n) T f oa).mono ?_;rintro e d ⟨rfl,k,rfl⟩)|(go_at_call 101;refine(xJ (n:=n+1) _ ((T.drewN _).N1 _ _ oa) f oa od ox).mono ?_;rintro e d ⟨rfl,k,rfl⟩));go_ret;rw[zb j];exact⟨Tu.drewN (Tu.N1 (by first|exact T.drewN _|exact T) (n+1) _ oa) _,Q ⟨rfl,rfl,trivial⟩⟩
namespace Tw
def Ca (s:Al):Nat->Nat->Ai
 |0,_=>[]
 |f+1,p=>if p<i s then(match xt s p with
   |none=>[]
   |some (n,c)=>((p:Int),c) :: Ca s f (p+n)) else []
structure Br (s:Al)(L:Ai)(n p:Nat):Prop where
 good:Ref.Good s p
 le:n<=Bc L
 rest:∃f,i s<p+f/\L.drop n=Ca s f p
variable {L n}
theorem Br.step (h:Br s L n p)(d:p<dJ s):∃k c,xt s p=I (k,c)/\L[n]?=I ((p:Int),c)/\Br s L (n+1) (p+k):=by
 have⟨k,c,b,g⟩:=h.good.next d;have⟨f,l,a⟩:=h.rest;obtain⟨f,rfl⟩:∃e,f=e+1:=⟨f-1,oa⟩
 simp only[Ca] at a;rw[IN d,b] at a;have j:=qo b;have m:n<Bc L:=by have:(L.drop n).length=Bc L-n:=FQ;rw[a] at this;simp only[BH] at this;omega
 have i:L[n]?=I ((p:Int),c):=by have:(L.drop n)[0]?=L[n+0]?:=Hf;rw[a] at this;simpa using this.symm
 refine⟨k,c,b,i,g,oa,f,oa,?_⟩;rw[<-G5,a];rfl
theorem Br.stop (h:Br s L n p)(c:¬p<i s):n=Bc L:=by
 have⟨f,d,a⟩:=h.rest;have b:Ca s f p=[]:=by
  cases f with
  |zero=>rfl
  |succ f=>simp only[Ca];rw[iN c]
 have:(L.drop n).length=Bc L-n:=FQ;rw[a,b] at this;simp only[Cc] at this;have:=h.le;omega
theorem Br.lt (h:Br s L n p):n<Bc L↔p<i s:=by
 constructor;intro b;by_cases a:p<i s;exact a;have:=h.stop a;omega;intro a;have⟨k,c,_,d,_⟩:=h.step a;by_cases b:n<Bc L;exact b
 grind
theorem Br.place (h:Br s L n p):zA L (i s) n=p:=by by_cases a:p<i s;have⟨k,c,_,b,_⟩:=h.step a;unfold zA;rw[b];have:=h.stop a;rw[Zq oa];have:=h.good.le;omega
theorem zft {k:Nat}{c:Int}(a:xt s p=I (k,c))(b:ze s p<128):k=1/\c=ze s p:=by
 have d:Ref.headK (ze s p)=1:=by unfold Ref.headK headN;rw[IN b];rfl
 have e:jU (ze s p)=ze s p:=by unfold jU;rw[IN b]
 have f:=(qo a).2.2.2.1;refine⟨oa,?_⟩;unfold xt at a;split at a;cases a;rw[d,e] at a;simp only[CU,jf] at a;split at a;cases a
 grind
theorem D4 {k:Nat}{c:Int}(a:xt s p=I (k,c))(h:128<=ze s p):128<=c:=by
 have b:=qo a;have i:k≠1:=by
  rw[b.2.2.2.1];unfold Ref.headK headN;rw[iN oa]
  (repeat' split)<;>decide
 unfold xt at a;split at a;cases a;split at a;cases a;split at a;cases a
 (rename_i d;simp only[Option.some.injEq,Prod.mk.injEq] at a;obtain⟨e,rfl⟩:=a;simp only[Yj,FG,B8,decide_eq_true_eq] at d;rw[e] at d;have:128<=jz (k:Int):=by have g:=b.2.2.1;have f:=b.1;have:k=2\/k=3\/k=4:=oa;obtain rfl|rfl|rfl:=this<;>decide);omega
theorem Br.letter {k:Nat}{c:Int}(h:Br s L n p)(f:p<dJ s)(e:xt s p=I (k,c)):zi L n=c/\Br s L (n+1) (p+k):=by have⟨i,g,a,b,d⟩:=h.step f;rw[e] at a;simp only[Option.some.injEq,Prod.mk.injEq] at a;obtain⟨rfl,rfl⟩:=a;exact⟨by unfold zi;rw[b],d⟩
theorem Br.NW (h:Br s L n p)(b:ze s p<128):zi L n=ze s p:=by by_cases a:p<i s;have⟨k,c,e,d,_⟩:=h.step a;unfold zi;rw[d];exact(zft e b).2;have:=h.stop a;rw[qi oa,qE s p oa]
theorem Br.high (h:Br s L n p)(a:128<=ze s p):128<=zi L n:=by have e:p<i s:=(zw s p).1 oa;have⟨k,c,d,b,_⟩:=h.step e;unfold zi;rw[b];exact D4 d a
theorem Br.alike (h:Br s L n p):(zi L n=ze s p/\ze s p<128)\/(128<=zi L n/\128<=ze s p):=by by_cases a:ze s p<128;exact Q ⟨h.NW a,a⟩;exact O ⟨h.high oa,oa⟩
theorem Br.next (h:Br s L n p)(a:0<=ze s p)(b:ze s p<128):Br s L (n+1) (p+1):=by have f:p<i s:=(zw s p).1 a;have⟨k,c,e,g,d⟩:=h.step f;obtain⟨rfl,_⟩:=zft e b;exact d
theorem Br.hexV {s:Al}{L:Ai}{n p:Nat}(h:Br s L n p):Ts.hexV (zi L n)=Ref.hexV (ze s p):=by have:Ts.hexV=Ref.hexV:=rfl;rw[this];obtain⟨e,_⟩|⟨a,b⟩:=h.alike;rw[e];unfold Ref.hexV;rw[iN oa,iN oa,iN oa,iN oa,iN oa,iN oa]
theorem Br.start (h:Ref.Good s 0):Br s (Ca s (i s+1) 0) 0 0:=⟨h,oa,i s+1,oa,rfl⟩
def Bl (s:Al)(L:Ai)(o:Ts.Out)(v:Int)(st:St):Prop:=
 (o.k=0->st.e=0/\st.a=0/\v=o.v/\Br s L o.n st.i)/\(o.k≠0->st.e=(o.k:Int)/\st.a=o.p)
end Tw
namespace Tw
variable {s:Al} {L:Ai}
theorem Br.eqv {n p:Nat}(h:Br s L n p)(k:Int)(d:k<128):zi L n=k↔ze s p=k:=by obtain⟨e,_⟩|⟨a,b⟩:=h.alike;rw[e];constructor<;>intro c<;>omega
theorem Br.go {n p:Nat}(h:Br s L n p){k:Int}(c:ze s p=k)(a:0<=k)(b:k<128):Br s L (n+1) (p+1):=h.next oa oa
def AA (p:Nat):St:=⟨p,0,0⟩
theorem AQ (p:Nat)(e a:Int):(AA p).fail e a=⟨p,e,a⟩:=by unfold AA St.fail;rw[IN rfl]
theorem AY (p k:Nat):(AA p).go k=AA (p+k):=rfl
theorem xw {k n:Nat}{q:Int}{v:Int}{st:St}(c:k≠0)(b:st.e=(k:Int))(a:st.a=q):Bl s L (Ts.bad k q n) v st:=⟨λh=>absurd h c,λ_=>⟨b,a⟩⟩
theorem jp {v:Int}{n p:Nat}(h:Br s L n p):Bl s L (good v n) v (AA p):=⟨λ_=>⟨rfl,rfl,rfl,h⟩,λh=>absurd rfl h⟩
theorem VB:∀(f:Nat) (c:Int) (n p:Nat),Br s L n p->Bl s L (yG L (i s) f c n) (Zi s f c (AA p)).1 (Zi s f c (AA p)).2
 |0,c,n,p,h=>jp h
 |f+1,c,n,p,h=>by
  by_cases b:Ref.hexV (ze s p)<0;rw[Ref.Vc (st:=AA p) b,YZ (by rw[h.hexV];exact b),AQ];exact xw od rfl h.place.symm;have a:0<=Ref.hexV (ze s p):=oa;rw[JF (st:=AA p) a,ZU (by rw[h.hexV];exact a),h.hexV,AY];have d:48<=ze s p/\ze s p<=102:=(by unfold Ref.hexV at a;(repeat' split at a)<;>omega);exact VB f _ (n+1) (p+1) (h.next oa oa)
theorem Mg {b:Int}(h:0<=Ref.hexV b):48<=b/\b<=102:=by unfold Ref.hexV at h;(repeat' split at h)<;>omega
theorem Kn:∀(f g:Nat) (c:Int) (d n p:Nat),Br s L n p->Bc L<n+f->dJ s<p+g->Bl s L (xL L s.size f c d n) (qZ s g c d (AA p)).1 (qZ s g c d (AA p)).2
 |0,g,c,d,n,p,h,j,k=>by have:=h.le;omega
 |f+1,0,c,d,n,p,h,j,k=>by have:=h.good.le;omega
 |f+1,g+1,c,d,n,p,h,j,k=>by
  by_cases a:0<d/\ze s p=125;rw[ZE (st:=AA p) a.1 a.2,ZF a.1 ((h.eqv 125 oa).2 a.2),AY];exact jp (h.go a.2 oa oa);have i:¬(0<d/\zi L n=125):=λl=>a ⟨l.1,(h.eqv 125 oa).1 l.2⟩;by_cases e:Ref.hexV (ze s p)<0\/1114111<16*c+Ref.hexV (ze s p);rw[YV (st:=AA p) a e,Y0 i (by rw[h.hexV];exact e),AQ];exact xw od rfl h.place.symm;rw[Yg (st:=AA p) a e,Yo i (by rw[h.hexV];exact e),h.hexV,AY];have o:=Mg (b:=ze s p) oa;have m:=h.next oa oa;exact Kn f g _ (d+1) (n+1) (p+1) m oa oa
theorem XT:∀(f:Nat) (c:Int) (n p:Nat),Br s L n p->((yG L (i s) f c n).k=0->wh s f p c=(yG L (i s) f c n).v/\Br s L (yG L (i s) f c n).n (p+f))/\((yG L (i s) f c n).k≠0->wh s f p c = -1)
 |0,c,n,p,h=>⟨λ_=>⟨rfl,h⟩,λb=>absurd rfl b⟩
 |f+1,c,n,p,h=>by
  by_cases d:Ref.hexV (ze s p)<0;rw[XH d,YZ (by rw[h.hexV];exact d)];exact⟨λb=>absurd b (by simp[Ts.bad]),λ_=>rfl⟩;have a:0<=Ref.hexV (ze s p):=oa;rw[Yh a,ZU (by rw[h.hexV];exact a),h.hexV];have e:=Mg a;have:=XT f (16*c+Ref.hexV (ze s p)) (n+1) (p+1) (h.next oa oa);rw[show p+(f+1)=p+1+f by omega];exact this
theorem NC {n p:Nat}(h:Br s L n p)(d:ze s p=92)(e:ze s (p+1)=117):xA s p=(if(yG L (i s) 4 0 (n+2)).k=0 then(yG L (i s) 4 0 (n+2)).v else -1):=by have f:=(h.go d oa oa).go e oa oa;have b:=XT 4 0 (n+2) (p+2) f;by_cases a:(yG L (i s) 4 0 (n+2)).k=0;rw[IN a];have:=(b.1 a).2.good.le;rw[JG oa];exact(b.1 a).1;rw[iN a];by_cases c:i s<p+6\/ze s p≠92\/ze s (p+1)≠117;exact wQ c;rw[JG c];exact b.2 a
theorem Ee {n p:Nat}(h:Br s L n p):kE L (i s) n=(if 56320<=xA s p/\xA s p<=57343 then xA s p else -1):=by by_cases a:ze s p=92;have d:=h.go a oa oa;by_cases b:ze s (p+1)=117;rw[NC h a b];unfold kE;have e:=(h.eqv 92 oa).2 a;have f:=(d.eqv 117 oa).2 b;by_cases g:(yG L (i s) 4 0 (n+2)).k=0;omega;omega;rw[wQ (O (O b)),iN oa];unfold kE;rw[iN (λc=>b ((d.eqv 117 oa).1 c.2.1))];rw[wQ (O (Q a)),iN oa];unfold kE;rw[iN (λc=>a ((h.eqv 92 oa).1 c.1))]
end Tw
namespace Tw
variable {s:Al} {L:Ai}
theorem zaa {x:Int}(h:128<=x):Ts.sign x=Z:=by unfold Ts.sign;simp;omega
theorem zgG (x:Int):Ts.sign x=signB x:=rfl
theorem zce (x:Int):ctlV x=yS x:=rfl
theorem zcf {x:Int}(h:128<=x):¬0<=ctlV x:=by unfold ctlV;(repeat' split)<;>omega
theorem zel {x:Int}(h:128<=x):kM x=Z:=by unfold kM;simp[zaa h,zcf h]
theorem zem {x:Int}(h:Ts.sign x=G):36<=x/\x<=125/\x≠48/\x≠99/\x≠120/\x≠117:=by unfold Ts.sign at h;simp at h;omega
theorem zgH {x:Int}(h:0<=ctlV x):x=116\/x=110\/x=118\/x=102\/x=114:=by unfold ctlV at h;(repeat' split at h)<;>omega
theorem zba {m q:Nat}(h:Br s L m q)(z:ze s q=92)(y:ze s (q+1)=117):Bl s L (if zi L (m+2)=123 then kL L (i s) (m+3) else yi L (i s) (m+2)) (xB s (AA (q+1))).1 (xB s (AA (q+1))).2:=by
 have S:=h.go z oa oa;have c:=S.go y oa oa;by_cases g:ze s (q+2)=123;have r:=c.go g oa oa;rw[IN ((c.eqv 123 oa).2 g)];unfold xB;rw[IN (show ze s ((AA (q+1)).i+1)=123 from g)];unfold vC kL;have e:=r.le;have hg:=r.good.le;exact Kn _ _ 0 0 (m+3) (q+3) r oa (by show i s<q+3+(i s+1-(q+1+2));omega);rw[iN (λu=>g ((c.eqv 123 oa).1 u))];unfold xB;rw[iN (show ¬ze s ((AA (q+1)).i+1)=123 from g)];have d:=NC h z y;have u:=XT 4 0 (m+2) (q+2) c;have x:=VB (s:=s) (L:=L) 4 0 (m+2) (q+2) c;have f:xA s ((AA (q+1)).i-1)=xA s q:=rfl;have p:xA s ((AA (q+1)).i+5)=xA s (q+6):=rfl;by_cases j:(yG L (i s) 4 0 (m+2)).k=0
 .have B:=(u.1 j).2;have w:=(Y5 L (i s) 4 0 (m+2) c.le).2.2 j;have t:Br s L (m+6) (q+6):=(by rw[w] at B;exact B);have n:=Ee t;rw[IN j] at d;by_cases P:55296<=(yG L (i s) 4 0 (m+2)).v/\(yG L (i s) 4 0 (m+2)).v<=56319
  .by_cases e:56320<=xA s (q+6)/\xA s (q+6)<=57343
   ·(have a:ZR s (AA (q+1))=G:=(by unfold ZR;rw[f,p,d];simp[P.1,P.2,e.1,e.2]);rw[IN e] at n;rw[IN a,f,p,d];have b:yi L (i s) (m+2)=good (65536+((yG L (i s) 4 0 (m+2)).v-55296)*1024+(xA s (q+6)-56320)) (m+6+6):=by unfold yi;rw[iN oa,w,show m+2+4=m+6 by omega,n,IN oa]);rw[b];have ab:0<=kE L (i s) (m+6):=(by rw[n];omega);have o:ze s (q+6)=92/\ze s (q+7)=117:=by
     by_cases X:i s<q+6+6\/ze s (q+6)≠92\/ze s (q+6+1)≠117;rw[wQ X] at e;omega
     grind
    (have F:=(t.go o.1 oa oa).go o.2 oa oa;have T:=XT 4 0 (m+6+2) (q+6+2) F;have l:(yG L (i s) 4 0 (m+6+2)).k=0:=by by_cases l:(yG L (i s) 4 0 (m+6+2)).k=0;exact l;have:=NC t o.1 o.2;rw[iN l] at this;omega);have N:=(T.1 l).2;have W:=(Y5 L (i s) 4 0 (m+6+2) F.le).2.2 l;rw[W] at N;rw[AY];refine⟨λ_=>⟨rfl,rfl,?_,N⟩,λh=>absurd rfl h⟩;show 65536+(_-55296)*1024+xA s (q+6)-56320=65536+(_-55296)*1024+(xA s (q+6)-56320)
    omega
   (have a:¬ZR s (AA (q+1))=G:=(by unfold ZR;rw[f,p];simp;intro _ _;omega);rw[iN e] at n;rw[iN a];have b:yi L (i s) (m+2)=yG L (i s) 4 0 (m+2):=by unfold yi;rw[iN oa,w,show m+2+4=m+6 by omega,n,iN oa]);rw[b];exact x
  (have a:¬ZR s (AA (q+1))=G:=(by unfold ZR;rw[f,d];simp;omega);rw[iN a];have b:yi L (i s) (m+2)=yG L (i s) 4 0 (m+2):=by unfold yi;rw[IN oa]);rw[b];exact x
 (rw[iN j] at d;have a:¬ZR s (AA (q+1))=G:=(by unfold ZR;rw[f,d];simp);rw[iN a];have b:yi L (i s) (m+2)=yG L (i s) 4 0 (m+2):=by unfold yi;rw[IN (Q j)]);rw[b];exact x
end Tw
namespace Tw
variable {s:Al} {L:Ai}
theorem D9 (cls:Bool){m q:Nat}(h:Br s L m q)(h92:ze s q=92)(hcl:cls=true->ze s (q+1)≠45/\ze s (q+1)≠98):Bl s L (vS L (i s) (m+1)) (zI s cls (AA (q+1))).1 (zI s cls (AA (q+1))).2:=by
 have h1:=h.go h92 oa oa;have hi:(AA (q+1)).i=q+1:=rfl;have hbad:∀(hs:kM (zi L (m+1))=false) (k1:ze s (q+1)≠48) (k2:ze s (q+1)≠99) (k3:ze s (q+1)≠120) (k4:ze s (q+1)≠117) (hc:¬0<=yS (ze s (q+1))) (hg:signB (ze s (q+1))=false),
   Bl s L (vS L (i s) (m+1)) (zI s cls (AA (q+1))).1 (zI s cls (AA (q+1))).2:=by
  intro hs k1 k2 k3 k4 hc hg;have n1:=fun e=>k1 ((h1.eqv 48 oa).1 e);have n2:=fun e=>k2 ((h1.eqv 99 oa).1 e);have n3:=fun e=>k3 ((h1.eqv 120 oa).1 e);have n4:=fun e=>k4 ((h1.eqv 117 oa).1 e);unfold vS zI;rw[hi,iN (by simp[hs]),iN n1,iN n2,iN n3,iN (fun hh=>n4 hh.1),iN n4,iN hc,iN k1,iN k2,iN k3,iN k4,iN (by
   rintro(hh |⟨hh,he⟩)
   ·rw[hg] at hh;cases hh
   ·exact(hcl hh).1 he),iN (fun hh=>(hcl hh.1).2 hh.2),AQ]
  exact xw od rfl h1.place.symm
 rcases h1.alike with⟨e,hb⟩ |⟨hhi,hbi⟩
 ·cases hs:kM (zi L (m+1))
  ·have hc:¬0<=yS (ze s (q+1)):=(by rw[e] at hs;unfold kM at hs;simp at hs;rw[<-zce];omega);have hg:signB (ze s (q+1))=false:=(by rw[e] at hs;unfold kM at hs;simp at hs;exact hs.2);by_cases k1:ze s (q+1)=48
   ·have h2:=h1.go k1 oa oa;unfold vS zI;rw[hi,iN (by simp[hs]),IN ((h1.eqv 48 oa).2 k1),iN hc,IN k1];unfold wt dig;rcases h2.alike with⟨e2,hb2⟩ |⟨hh2,hb2⟩
    ·rw[e2];by_cases hd:48<=ze s (q+1+1)/\ze s (q+1+1)<=57
     ·rw[IN (by simp[hd.1,hd.2]),IN hd,AY,AQ];exact xw od rfl h2.place.symm
     ·rw[iN ou,iN hd,AY];exact jp h2
    ·rw[iN ou,iN oa,AY];exact jp h2
   ·by_cases k2:ze s (q+1)=99
    ·have h2:=h1.go k2 oa oa;unfold vS zI;rw[hi,iN (by simp[hs]),iN (by rw[e];exact k1),IN ((h1.eqv 99 oa).2 k2),iN hc,iN k1,IN k2];unfold xQ;rcases h2.alike with⟨e2,hb2⟩ |⟨hh2,hb2⟩
     ·rw[e2];by_cases hd:(97<=ze s (q+1+1)/\ze s (q+1+1)<=122)\/(65<=ze s (q+1+1)/\ze s (q+1+1)<=90)
      ·rw[IN (show Ts.letter _ from hd),IN hd,AY];exact jp (h2.next oa oa)
      ·rw[iN (show ¬Ts.letter _ from hd),iN hd,AY,AQ];exact xw od rfl h2.place.symm
     ·rw[iN (show ¬Ts.letter _ by unfold Ts.letter;omega),iN oa,AY,AQ];exact xw od rfl h2.place.symm
    ·by_cases k3:ze s (q+1)=120
     ·have h2:=h1.go k3 oa oa;unfold vS zI;rw[hi,iN (by simp[hs]),iN (by rw[e];exact k1),iN (by rw[e];exact k2),IN ((h1.eqv 120 oa).2 k3),iN hc,iN k1,iN k2,IN k3,AY];exact VB 2 0 (m+2) (q+2) h2
     ·by_cases k4:ze s (q+1)=117
      ·have hu:=zba h h92 k4;unfold vS zI;rw[hi,iN (by simp[hs]),iN (by rw[e];exact k1),iN (by rw[e];exact k2),iN (by rw[e];exact k3),iN hc,iN k1,iN k2,iN k3,IN k4];have e117:=(h1.eqv 117 oa).2 k4;by_cases h123:zi L (m+2)=123
       ·rw[IN h123] at hu;rw[IN ⟨e117,h123⟩];exact hu
       ·rw[iN h123] at hu;rw[iN (fun hh=>h123 hh.2),IN e117];exact hu
      ·exact hbad hs k1 k2 k3 k4 hc hg
  ·unfold vS zI;rw[hi,IN hs,e];by_cases hc:0<=yS (ze s (q+1))
   ·have hcs:=zgH hc;rw[IN hc,AY];have:vR (ze s (q+1))=yS (ze s (q+1)):=(by unfold vR;rw[IN (show 0<=ctlV _ from hc)];rfl);rw[this];exact jp (h1.next oa oa)
   ·have hg:Ts.sign (ze s (q+1))=true:=(by rw[e] at hs;unfold kM at hs;simp at hs;rcases hs with hs |hs;exact absurd hs hc;exact hs);have hcs:=zem hg;rw[iN hc,iN hcs.2.2.1,iN hcs.2.2.2.1,iN hcs.2.2.2.2.1,iN hcs.2.2.2.2.2,IN (.inl hg),AY];have:vR (ze s (q+1))=ze s (q+1):=(by unfold vR;rw[iN (show ¬0<=ctlV _ from hc)]);rw[this];exact jp (h1.next oa oa)
 ·exact hbad (zel hhi) oa oa oa oa (by rw[<-zce];exact zcf hbi) (by rw[<-zgG];exact zaa hbi)
theorem Q2 (x:Int):jy x=G↔Ref.setL x≠[]:=by
 unfold jy Ref.setL;simp only[List.any_cons,List.any_nil,LD,FG,decide_eq_true_eq];constructor
 .intro h
  (repeat' split)<;>first|(intro a;cases a;done)|omega
 intro h
 (repeat' split at h)<;>first|omega|exact absurd rfl h
theorem JO (x:Int):Ts.backB x=Ref.backB x:=by
 have:(Ts.backB x=G)↔(Ref.backB x=G):=by unfold Ts.backB Ref.backB;simp;omega
 cases h1:Ts.backB x<;>cases h2:Ref.backB x<;>simp_all
theorem VC {x:Int}(h:128<=x\/x<0):jy x=Z:=by unfold jy;simp;omega
theorem zab {x:Int}(h:128<=x\/x<0):Ts.backB x=Z:=by unfold Ts.backB;simp;omega
theorem VD {x:Int}(h:jy x=G):Ts.backB x=Z/\68<=x/\x<=119/\x≠98/\x≠45:=by unfold jy at h;unfold Ts.backB;simp at h ⊢;omega
theorem VE (cls:Bool){m q:Nat}(h:Br s L m q)(r:ze s q=92)(u:cls=G->ze s (q+1)≠45/\ze s (q+1)≠98):Bl s L (xR L (i s) m) (xR L (i s) m).v (zF s cls (AA q)).2.2/\((xR L (i s) m).k=0->(zF s cls (AA q)).2.1 = !jy (zi L (m+1))/\((zF s cls (AA q)).2.1=G->(zF s cls (AA q)).1=⟨Z,[((xR L (i s) m).v,(xR L (i s) m).v)]⟩)):=by
 have l:=h.go r oa oa;have o:(AA q).i=q:=rfl;have j:jy (zi L (m+1))=jy (ze s (q+1)):=by obtain⟨e,_⟩|⟨a,b⟩:=l.alike;rw[e];rw[VC (Q a),VC (Q b)]
 have t:Ts.backB (zi L (m+1))=Ref.backB (ze s (q+1)):=by rw[<-JO];obtain⟨e,_⟩|⟨a,b⟩:=l.alike;rw[e];rw[zab (Q a),zab (Q b)]
 cases hs:jy (ze s (q+1))
 .have w:¬Ref.setL (ze s (q+1))≠[]:=λn=>by rw[(Q2 _).2 n] at hs;cases hs
  cases d:Ref.backB (ze s (q+1))
  (have f:xR L (i s) m=vS L (i s) (m+1):=(by unfold xR;rw[j,t,hs,d];simp);have g:zF s cls (AA q)=(⟨Z,[((zI s cls (AA (q+1))).1,(zI s cls (AA (q+1))).1)]⟩,G,(zI s cls (AA (q+1))).2):=by unfold zF;rw[o,d,iN ov,iN w,AY]);have p:=D9 cls h r u;rw[f,g,j,hs];refine⟨⟨λc=>?_,p.2⟩,λc=>⟨rfl,λ_=>?_⟩⟩;have:=p.1 c;exact⟨this.1,this.2.1,rfl,this.2.2.2⟩;have:=(p.1 c).2.2.1;rw[this];have f:xR L (i s) m=Ts.bad 6 (zA L (i s) m) (m+1):=(by unfold xR;rw[j,t,hs,d];simp);have g:(zF s cls (AA q)).2.2=⟨q+1,6,q⟩:=(by unfold zF;rw[o,IN d,AY,AQ]);rw[f,g];exact⟨xw od rfl h.place.symm,λc=>absurd c (by simp[Ts.bad])⟩
 have x:=VD hs;have d:Ref.backB (ze s (q+1))=Z:=by rw[<-JO];exact x.1
 have f:xR L (i s) m=good (zi L (m+1)) (m+2):=by unfold xR;rw[j,hs,IN rfl]
 have g:zF s cls (AA q)=(⟨decide (ze s (q+1)<97),Ref.setL (ze s (q+1))⟩,Z,AA (q+2)):=by unfold zF;rw[o,iN (by simp[d]),IN ((Q2 _).1 hs),AY]
 rw[f,g,j,hs];exact⟨⟨λ_=>⟨rfl,rfl,rfl,l.next oa oa⟩,λc=>absurd rfl c⟩,λ_=>⟨rfl,λn=>by cases n⟩⟩
theorem vL {m q:Nat}(h:Br s L m q)(x:q<i s):Bl s L (zm L (i s) m) (zm L (i s) m).v (zo s (AA q)).2.2/\((zm L (i s) m).k=0->(zo s (AA q)).2.1 = !many L m/\((zo s (AA q)).2.1=G->(zo s (AA q)).1=⟨Z,[((zm L (i s) m).v,(zm L (i s) m).v)]⟩)):=by
 have o:(AA q).i=q:=rfl;by_cases d:ze s q=92
 .have g:=h.go d oa oa;have f:=(h.eqv 92 oa).2 d;have y:many L m=jy (zi L (m+1)):=QW f;have u:zo s (AA q)=zF s G (AA q):=by unfold zo;rw[o,IN d]
  by_cases b:ze s (q+1)=98\/ze s (q+1)=45
  ((have N:ze s (q+1)<128:=oa;have e:=g.NW N;have t:jy (ze s (q+1))=Z:=(by obtain a|a:=b<;>rw[a]<;>decide);have W:¬Ref.setL (ze s (q+1))≠[]:=λa=>(by rw[(Q2 _).2 a] at t;cases t);have F:Ref.backB (ze s (q+1))=Z:=(by obtain a|a:=b<;>rw[a]<;>decide);have n:zF s G (AA q)=(⟨Z,[((zI s G (AA (q+1))).1,(zI s G (AA (q+1))).1)]⟩,G,(zI s G (AA (q+1))).2):=by unfold zF;rw[o,F,iN ov,iN W,AY]);have r:∃v,zI s G (AA (q+1))=(v,AA (q+2))/\zm L (i s) m=good v (m+2):=by have w:(AA (q+1)).i=q+1:=rfl;obtain a|a:=b;refine⟨8,?_,?_⟩;unfold zI;rw[w,a,iN od,iN od,iN od,iN od,iN od,iN od,IN ⟨rfl,rfl⟩,AY];unfold zm;rw[IN ⟨f,by rw[e];exact a⟩];refine⟨45,?_,?_⟩;unfold zI;rw[w,a,iN od,iN od,iN od,iN od,iN od,IN (O ⟨rfl,rfl⟩),AY];unfold zm;rw[iN (λB=>by rw[e,a] at B;exact absurd B.2 od),IN ⟨f,by rw[e];exact a⟩]);have⟨v,S,T⟩:=r;rw[u,n,S,T,y,e,t];exact⟨⟨λ_=>⟨rfl,rfl,rfl,g.next oa oa⟩,λp=>absurd rfl p⟩,λ_=>⟨rfl,λ_=>rfl⟩⟩
  (have l:zm L (i s) m=xR L (i s) m:=by unfold zm;rw[iN (λa=>b (Q ((g.eqv 98 oa).1 a.2))),iN (λa=>b (O ((g.eqv 45 oa).1 a.2))),IN f]);rw[l,u,y];exact VE G h d (λ_=>⟨λa=>b (O a),λa=>b (Q a)⟩)
 have j:¬zi L m=92:=λa=>d ((h.eqv 92 oa).1 a);have⟨k,c,z,X,r⟩:=h.step x;have P:=(h.letter x z).1;have l:zm L (i s) m=good c (m+1):=by unfold zm;rw[iN (λa=>j a.1),iN (λa=>j a.1),iN j,P]
 have n:zo s (AA q)=(⟨Z,[(c,c)]⟩,G,AA (q+k)):=by unfold zo;rw[o,iN d,z];rfl
 rw[l,n,zfm j];exact⟨⟨λ_=>⟨rfl,rfl,rfl,r⟩,λp=>absurd rfl p⟩,λ_=>⟨rfl,λ_=>rfl⟩⟩
end Tw
namespace Tw
variable {s:Al} {L:Ai}
theorem Yt {st:St}(b:st.e=0)(a:st.a=0):st=AA st.i:=by cases st;simp only at b a;subst b;subst a;rfl
theorem GG {st:St}(h:st.e≠0)(e a:Int):st.fail e a=st:=by unfold St.fail;rw[iN h]
theorem zen:∀(g:Nat) (ps:Ba) (st:St),st.e≠0->(yP s g ps st).2.e=st.e/\(yP s g ps st).2.a=st.a
 |0,ps,st,h=>⟨rfl,rfl⟩
 |g+1,ps,st,h=>by rw[vt (λb=>h b.1)];exact⟨rfl,rfl⟩
theorem zac {n p:Nat}(h:Br s L n p):j5 L n=jY s (AA p):=by
 have j:(AA p).i=p:=rfl;unfold j5 jY;rw[j];by_cases a:ze s p=45
 .have f:=h.go a oa oa;have c:=(h.eqv 45 oa).2 a;have e:=f.eqv 93 oa;have g:=f.eqv (-1) oa;have o:=zw s (p+1);have q:=jJ s (p+1);by_cases b:ze s (p+1)=93<;>by_cases k:p+1<i s;simp[c,a,e.2 b,b];simp[c,a,e.2 b,b];have l:¬zi L (n+1) = -1:=λd=>(by have:=g.1 d;omega);have m:¬zi L (n+1)=93:=λd=>b (e.1 d);simp[c,a,b,k,l,m,AA]
  grind
 have c:¬zi L n=45:=λd=>a ((h.eqv 45 oa).1 d);simp[c,a]
theorem Yu {n m p q:Nat}(f:Br s L n p)(b:Br s L m q)(w:q<=p):m<=n:=by
 by_cases l:m<=n;exact l;exfalso;have key:∀k n p,Br s L n p->n+k<=Bc L->∃r,Br s L (n+k) r/\p+k<=r:=by
  intro k
  induction k with
  |zero=>intro n p h _;exact⟨p,h,oa⟩
  |succ k u=>
   intro n p h v;have t:p<dJ s:=h.lt.1 oa;have⟨j,c,o,_,i⟩:=h.step t;have⟨r,a,g⟩:=u (n+1) (p+j) i oa;have:=qo o;exact⟨r,by rw[show n+(k+1)=n+1+k by omega];exact a,oa⟩
 have⟨r,a,g⟩:=key (m-n) n p f (by have:=b.le;omega);rw[show n+(m-n)=m by omega] at a;have d:=a.place;have e:=b.place;rw[d] at e;omega
theorem Yv:∀(f g:Nat) (ps:Ba) (n p:Nat),Br s L n p->Bc L<n+f->s.size<p+g->Bl s L (ja L s.size f n) 1 (yP s g ps (AA p)).2
 |0,g,ps,n,p,h,hf,hg=>by have:=h.le;omega
 |f+1,0,ps,n,p,h,hf,hg=>by have:=h.good.le;omega
 |f+1,g+1,ps,n,p,h,hf,hg=>by
  simp only[ja];by_cases q:ze s p=93;rw[IN ((h.eqv 93 oa).2 q),vt (λa=>a.2 q),AY];exact jp (h.go q oa oa);have m:(AA p).e=0/\ze s (AA p).i≠93:=⟨rfl,q⟩
  rw[iN (λa=>q ((h.eqv 93 oa).1 a))];by_cases x:p<s.size
  .have aj:=h.lt.2 x;have ah:=(zw s p).2 x;have t:¬ze s (AA p).i<0:=(by show ¬ze s p<0;omega);rw[iN oa];have B:=vL h x;have ar:=kf (L:=L) (r:= s.size) n aj;by_cases b:(zm L s.size n).k=0
   .have⟨m1,m2,_,j⟩:=B.1.1 b;have⟨N,ak⟩:=B.2 b;have y:=Yt m1 m2;have w:=zac j;cases hdd:j5 L (zm L s.size n).n
    (rw[hdd] at w;have c:qO L s.size n=zm L s.size n:=(by unfold qO;rw[iN (by simp[b]),iN (by simp[hdd])]);rw[c,iN (by simp[b]),wS m t (by rw[y,<-w];simp),y];have ai:p<(zo s (AA p)).2.2.i:=by have:=j.good.le;by_cases a:p<(zo s (AA p)).2.2.i;exact a;exfalso;have:=Yu h j oa;omega);exact Yv f g _ _ _ j oa oa
    (rw[hdd] at w;have z:=XQ hdd;have ag:=(j.eqv 45 oa).1 z.1;have W:=j.go ag oa oa;have am:(zo s (AA p)).2.2.i+1<s.size:=by by_cases a:(zo s (AA p)).2.2.i+1<s.size;exact a;exact absurd ((W.eqv (-1) oa).2 (qE _ _ oa)) z.2.2);have F:=vL W am;have l:(zo s (AA p)).2.2.go 1=AA ((zo s (AA p)).2.2.i+1):=(by rw[y];rfl);have P:jY s (zo s (AA p)).2.2=G:=(by rw[y];exact w.symm);have au:=kf (L:=L) (r:= s.size) ((zm L s.size n).n+1) (QZ z.2.2);by_cases d:(zm L s.size ((zm L s.size n).n+1)).k=0
    ·(have⟨T,p2,_,X⟩:=F.1.1 d;have⟨S,al⟩:=F.2 d;have af:=Yt T p2;have aa:BN (zo s (AA p)).1 (zo s ((zo s (AA p)).2.2.go 1)).1 (zo s (AA p)).2.1 (zo s ((zo s (AA p)).2.2.go 1)).2.1=G↔(many L n=G\/many L ((zm L s.size n).n+1)=G\/(zm L s.size ((zm L s.size n).n+1)).v<(zm L s.size n).v):=by rw[l];unfold BN;rw[N,S];cases q1:many L n;cases q2:many L ((zm L s.size n).n+1);rw[q1] at N;rw[q2] at S;rw[ak N,al S];simp[A6];exact decide_eq_true_iff;simp;simp);by_cases u:many L n=G\/many L ((zm L s.size n).n+1)=G\/(zm L s.size ((zm L s.size n).n+1)).v<(zm L s.size n).v
     (have c:qO L s.size n=Ts.bad 4 (zA L s.size (zm L s.size n).n) (zm L s.size ((zm L s.size n).n+1)).n:=by unfold qO;rw[iN (by simp[b]),IN hdd];unfold qd;rw[iN (by simp[d]),IN u]);rw[c,IN (by simp[Ts.bad]),Qx m t P (by rw[l];exact T) (aa.2 u),l,af,AQ];exact xw od rfl j.place.symm
     ((have c:qO L s.size n=zm L s.size ((zm L s.size n).n+1):=by unfold qO;rw[iN (by simp[b]),IN hdd];unfold qd;rw[iN (by simp[d]),iN u]);rw[c,iN (by simp[d]),wD m t P (by rw[l];exact T) (λa=>u (aa.1 a)),l,af];have ai:p<(zo s (AA ((zo s (AA p)).2.2.i+1))).2.2.i:=by by_cases a:p<(zo s (AA ((zo s (AA p)).2.2.i+1))).2.2.i;exact a;exfalso;have:=Yu h X oa;omega);exact Yv f g _ _ _ X oa oa
    (have c:qO L s.size n=zm L s.size ((zm L s.size n).n+1):=by unfold qO;rw[iN (by simp[b]),IN hdd];unfold qd;rw[IN d]);have o:=F.1.2 d;rw[c,IN d,YY m t P (by rw[l,o.1];omega),l];exact⟨λa=>absurd a d,λ_=>o⟩
   have c:qO L s.size n=zm L s.size n:=(by unfold qO;rw[IN b]);have o:=B.1.2 b;have ae:(zo s (AA p)).2.2.e≠0:=(by rw[o.1];omega);rw[c,IN b,wS m t (by unfold jY;simp[ae])];have ab:=zen (s:=s) g (ps++[(zo s (AA p)).1]) (zo s (AA p)).2.2 ae;exact⟨λa=>absurd a b,λ_=>⟨by rw[ab.1];exact o.1,by rw[ab.2];exact o.2⟩⟩
  have ah:ze s p = -1:=qE s p oa;have aq:=h.stop x;rw[IN oa,YX m (by show ze s p<0;omega),AQ];exact xw od rfl (by have:=h.good.le;show(p:Int)=( s.size:Int);omega)
end Tw
namespace Tw
variable {s:Al} {L:Ai}
theorem zcg {n p:Nat}(h:Br s L n p):dig (zi L n)=jX (ze s p):=by
 unfold dig jX;obtain⟨e,_⟩|⟨a,b⟩:=h.alike;rw[e]
 grind
theorem Mk {b:Int}(h:jX b=G):48<=b/\b<=57:=by unfold jX at h;simpa using h
theorem Xd:∀(f g:Nat) (c d:Int) (n p:Nat),Br s L n p->Bc L<n+f->i s<p+g->0<=d->c=min d 101->
  (Ts.countL L f c n).1=min (Ref.countL s g d (AA p)).1 101/\0<=(Ref.countL s g d (AA p)).1/\(Ref.countL s g d (AA p)).2=AA (Ref.countL s g d (AA p)).2.i/\Br s L (Ts.countL L f c n).2 (Ref.countL s g d (AA p)).2.i/\p<=(Ref.countL s g d (AA p)).2.i
 |0,g,c,d,n,p,h,j,k,e,b=>by have:=h.le;omega
 |f+1,0,c,d,n,p,h,j,k,e,b=>by have:=h.good.le;omega
 |f+1,g+1,c,d,n,p,h,j,k,e,b=>by
  have a:=zcg h;cases hb:jX (ze s p)
  .rw[hb] at a;rw[Ref.countL_stop (st:=AA p) hb,Ts.countL_stop a];exact⟨b,e,rfl,h,AD _⟩
  .rw[hb] at a;have o:=Mk hb;have m:zi L n=ze s p:=h.NW oa;rw[Ref.countL_go (st:=AA p) hb,Ts.countL_go a,m,AY];have l:(AA p).i=p:=rfl;rw[l];have:=Xd f g (min (c*10+(ze s p-48)) 101) (if d<=100 then 10*d+ze s p-48 else d) (n+1) (p+1) (h.next oa oa) oa oa (by split<;>omega) (by split<;>omega);exact⟨this.1,this.2.1,this.2.2.1,this.2.2.2.1,by have:=this.2.2.2.2;omega⟩
theorem VF {n p:Nat}(h:Br s L n p):Bl s L (yx L (i s) n) (Ref.zU s (AA p)).1 (Ref.zU s (AA p)).2:=by
 have x:=h.le;have v:=h.good.le;have d:(AA p).i=p:=rfl;have l:=Xd (Bc L+1-n) (i s+1-p) 0 0 n p h oa oa oa oa;have g:wR s (AA p)=Ref.countL s (i s+1-p) 0 (AA p):=rfl;have j:countP L n=Ts.countL L (Bc L+1-n) 0 n:=rfl;have a:=zcg h;have k:=jL (s:=s) (st:=AA p) (n:=(wR s (AA p)).1) (st':=(wR s (AA p)).2) rfl;rw[k,g,d];unfold yx;rw[j];cases hb:jX (ze s p)
 .rw[hb] at a;have o:Ref.countL s (i s+1-p) 0 (AA p)=(0,AA p):=by rw[show i s+1-p=(i s-p)+1 by omega];exact Ref.countL_stop (st:=AA p) hb
  rw[IN a,o];rw[iN (show ¬(100:Int)<((0:Int),AA p).1 from(by decide:¬(100:Int)<0)),IN (show((0:Int),AA p).2.i=p from rfl)];show Bl s L _ 0 ((AA p).fail 3 p);rw[AQ];exact xw od rfl h.place.symm
 rw[hb] at a;rw[iN (by simp[a])];have y:=Mk hb;have w:p<(Ref.countL s (i s+1-p) 0 (AA p)).2.i:=by rw[show i s+1-p=(i s-p)+1 by omega,Ref.countL_go (st:=AA p) hb,AY];have:=Xd (Bc L+1-(n+1)) (i s-p) (min (if(0:Int)<=100 then 10*0+ze s (AA p).i-48 else 0) 101) (if(0:Int)<=100 then 10*0+ze s (AA p).i-48 else 0) (n+1) (p+1) (h.next oa oa) (by have:=h.lt.2 ((zw s p).1 oa);omega) (by have:=(zw s p).1 oa;omega) (by rw[IN od,d];omega) rfl;have:=this.2.2.2.2;omega
 generalize Ref.countL s (i s+1-p) 0 (AA p)=r at *;generalize Ts.countL L (Bc L+1-n) 0 n=t at *;have⟨e,q,b,f,u⟩:=l;rw[e];by_cases c:100<r.1;rw[IN oa,IN c,iN oa,b,AQ];exact xw od rfl h.place.symm;rw[iN oa,iN c,iN oa,b];exact⟨λ_=>⟨rfl,rfl,by show r.1=min r.1 101;omega,f⟩,λm=>absurd rfl m⟩
def If (s:Al)(L:Ai)(o:Ts.Out)(n:Nat)(mx:Int)(r:Int×Int×St):Prop:=(o.k=0->r.1=o.v/\r.2.1=mx/\r.2.2=AA r.2.2.i/\Br s L n r.2.2.i)/\(o.k≠0->r.2.2.e=(o.k:Int)/\r.2.2.a=o.p)
theorem zch {n p:Nat}(h:Br s L n p)(hb:ze s p=123):If s L (yh L (i s) n).1 (yh L (i s) n).1.n (yh L (i s) n).2 (yu s (AA p)):=by
 have B:=h.go hb oa oa;have F:=VF B;have af:=kr (L:=L) (r:= i s) (n+1) B.le;have hi:(AA p).i=p:=rfl;unfold yh yu;simp only[];rw[AY,hi];by_cases w:(yx L (i s) (n+1)).k=0;have⟨P,S,T,g⟩:=F.1 w;have ac:=Yt P S;rw[iN (by simp[w]),T,ac];generalize (Ref.zU s (AA (p+1))).2.i=b at *;generalize yx L (i s) (n+1)=d at *;by_cases t:ze s b=125;have f:Ref.qK s d.v (AA b)=(d.v,AA b):=(by unfold Ref.qK;rw[iN (λa=>by have:ze s b=44:=a.2;omega)]);have c:yE s (AA b)=AA b:=(by unfold yE;rw[iN (λa=>a.2 t)]);rw[IN ((g.eqv 125 oa).2 t),f,c,AY,iN oa];exact⟨λ_=>⟨rfl,rfl,rfl,g.go t oa oa⟩,λa=>absurd rfl a⟩;rw[iN (λa=>t ((g.eqv 125 oa).1 a))];by_cases l:ze s b=44;rw[iN (by simp;exact(g.eqv 44 oa).2 l)];have q:=g.go l oa oa;by_cases j:ze s (b+1)=125;have f:Ref.qK s d.v (AA b)=(-1,AA (b+1)):=(by unfold Ref.qK;rw[IN ⟨rfl,l⟩,IN (show ze s ((AA b).i+1)=125 from j),AY]);have c:yE s (AA (b+1))=AA (b+1):=(by unfold yE;rw[iN (λa=>a.2 j)]);rw[IN ((q.eqv 125 oa).2 j),f,c,AY,iN oa];exact⟨λ_=>⟨rfl,rfl,rfl,q.go j oa oa⟩,λa=>absurd rfl a⟩;rw[iN (λa=>j ((q.eqv 125 oa).1 a))];have f:Ref.qK s d.v (AA b)=Ref.zU s (AA (b+1)):=(by unfold Ref.qK;rw[IN ⟨rfl,l⟩,iN (show ¬ze s ((AA b).i+1)=125 from j),AY]);rw[f];have N:=VF q;have ae:=kr (L:=L) (r:= i s) (d.n+1) q.le;by_cases x:(yx L (i s) (d.n+1)).k=0;have⟨c1,W,X,y⟩:=N.1 x;have ad:=Yt c1 W;rw[iN (by simp[x]),X,ad];generalize (Ref.zU s (AA (b+1))).2.i=o at *;generalize yx L (i s) (d.n+1)=M at *;by_cases u:ze s o=125;have c:yE s (AA o)=AA o:=(by unfold yE;rw[iN (λa=>a.2 u)]);rw[iN (by simp;exact(y.eqv 125 oa).2 u),c,AY];by_cases z:M.v<d.v;rw[IN z,IN ⟨rfl,ae.2.2.1,z⟩,AQ];exact⟨λa=>absurd a (by simp[Ts.bad]),λ_=>⟨rfl,h.place.symm⟩⟩;rw[iN z,iN (λa=>z a.2.2)];exact⟨λ_=>⟨rfl,rfl,rfl,y.go u oa oa⟩,λa=>absurd rfl a⟩;have c:yE s (AA o)=⟨o,3,o⟩:=(by unfold yE;rw[IN ⟨rfl,u⟩,AQ];rfl);rw[IN (λa=>u ((y.eqv 125 oa).1 a)),c];rw[iN (λa=>absurd a.1 (show ¬(3:Int)=0 by decide))];exact⟨λa=>absurd a (by simp[Ts.bad]),λ_=>⟨rfl,y.place.symm⟩⟩;have v:=N.2 x;have m:(Ref.zU s (AA (b+1))).2.e≠0:=(by rw[v.1];omega);have c:yE s (Ref.zU s (AA (b+1))).2=(Ref.zU s (AA (b+1))).2:=(by unfold yE;rw[iN (λa=>m a.1)]);rw[IN x,c,iN (λa=>m a.1)];exact⟨λa=>absurd a x,λ_=>v⟩;have f:Ref.qK s d.v (AA b)=(d.v,AA b):=(by unfold Ref.qK;rw[iN (λa=>l a.2)]);have c:yE s (AA b)=⟨b,3,b⟩:=(by unfold yE;rw[IN ⟨rfl,t⟩,AQ];rfl);rw[IN (λa=>l ((g.eqv 44 oa).1 a)),f,c];rw[iN (λa=>absurd a.1 (show ¬(3:Int)=0 by decide))];exact⟨λa=>absurd a (by simp[Ts.bad]),λ_=>⟨rfl,g.place.symm⟩⟩;have v:=F.2 w;have m:(Ref.zU s (AA (p+1))).2.e≠0:=by rw[v.1];omega
 have f:Ref.qK s (Ref.zU s (AA (p+1))).1 (Ref.zU s (AA (p+1))).2=((Ref.zU s (AA (p+1))).1,(Ref.zU s (AA (p+1))).2):=by unfold Ref.qK;rw[iN (λa=>m a.1)]
 have c:yE s (Ref.zU s (AA (p+1))).2=(Ref.zU s (AA (p+1))).2:=by unfold yE;rw[iN (λa=>m a.1)]
 rw[IN w,f,c,iN (λa=>m a.1)];exact⟨λa=>absurd a w,λ_=>v⟩
end Tw
namespace Tw
variable {s:Al} {L:Ai}
theorem XU {n p:Nat}(h:Br s L n p):xY s (AA p)=AA (xY s (AA p)).i/\Br s L (Zt L n) (xY s (AA p)).i:=by unfold xY Zt;by_cases a:ze s p=63;rw[IN ⟨rfl,a⟩,IN ((h.eqv 63 oa).2 a)];exact⟨rfl,h.go a oa oa⟩;rw[iN (λb=>a b.2),iN (λb=>a ((h.eqv 63 oa).1 b))];exact⟨rfl,h⟩
theorem zeo {n p:Nat}(h:Br s L n p)(y:xy (ze s p)=G):(zx L (i s) n).1=G/\If s L (zx L (i s) n).2.1 (Zt L (zx L (i s) n).2.1.n) (zx L (i s) n).2.2 (zM s (AA p)):=by have x:(AA p).i=p:=rfl;have F:=ww y;have f:=h.eqv 42 oa;have j:=h.eqv 43 oa;have l:=h.eqv 63 oa;have w:=h.eqv 123 oa;unfold zx zM;rw[x];by_cases c:ze s p=42;have b:=XU (h.go c oa oa);rw[IN (f.2 c),iN oa,iN oa,IN c,AY];exact⟨rfl,λ_=>⟨rfl,rfl,b.1,b.2⟩,λa=>absurd rfl a⟩;by_cases d:ze s p=43;have b:=XU (h.go d oa oa);rw[iN (λa=>c (f.1 a)),IN (j.2 d),IN d,AY];exact⟨rfl,λ_=>⟨rfl,rfl,b.1,b.2⟩,λa=>absurd rfl a⟩;by_cases e:ze s p=63;have b:=XU (h.go e oa oa);rw[iN (λa=>c (f.1 a)),iN (λa=>d (j.1 a)),IN (l.2 e),iN d,IN e,AY];exact⟨rfl,λ_=>⟨rfl,rfl,b.1,b.2⟩,λa=>absurd rfl a⟩;have q:ze s p=123:=oa;have m:=zch h q;rw[iN (λa=>c (f.1 a)),iN (λa=>d (j.1 a)),iN (λa=>e (l.1 a)),IN (w.2 q),iN d,iN e,iN c];refine⟨rfl,λg=>?_,λg=>?_⟩;have⟨r,t,u,v⟩:=m.1 g;rw[u];have b:=XU v;exact⟨r,t,b.1,b.2⟩;have o:=m.2 g;have:xY s (yu s (AA p)).2.2=(yu s (AA p)).2.2:=(by unfold xY;rw[iN (λa=>by have z:=a.1;have B:=o.1;have:(yh L (i s) n).1.k≠0:=g;omega)]);rw[this];exact o
theorem zep {n p:Nat}(h:Br s L n p)(c:xy (ze s p)=Z):zx L (i s) n=(Z,good 0 n,0):=by
 have e:=h.eqv 42 oa;have f:=h.eqv 43 oa;have g:=h.eqv 63 oa;have d:=h.eqv 123 oa;have b:ze s p≠42/\ze s p≠43/\ze s p≠63/\ze s p≠123:=by unfold xy at c;simpa [and_assoc] using c
 unfold zx;rw[iN (λa=>b.1 (e.1 a)),iN (λa=>b.2.1 (f.1 a)),iN (λa=>b.2.2.1 (g.1 a)),iN (λa=>b.2.2.2 (d.1 a))]
theorem zgI {n p:Nat}(h:Br s L n p)(o:ze s p=40):Bl s L (zZ L (i s) n) 0 (km s (AA p)):=by
 have f:=h.go o oa oa;have q:(AA p).i=p:=rfl;unfold zZ km;rw[q];by_cases d:ze s (p+1)=63
 .have a:=f.go d oa oa;rw[IN ((f.eqv 63 oa).2 d),IN d];by_cases e:ze s (p+2)=58;rw[IN ((a.eqv 58 oa).2 e),IN e,AY];exact jp (a.go e oa oa);rw[iN (λc=>e ((a.eqv 58 oa).1 c)),iN e];have j:=a.eqv 61 oa;have l:=a.eqv 33 oa;have m:=a.eqv 60 oa;by_cases b:ze s (p+2)=61\/ze s (p+2)=33\/ze s (p+2)=60
  (have g:zi L (n+2)=61\/zi L (n+2)=33\/zi L (n+2)=60:=by obtain k|k|k:=b;exact Q (j.2 k);exact O (Q (l.2 k));exact O (O (m.2 k)));rw[IN g,IN b,AY,AQ];exact xw od rfl h.place.symm
  (have g:¬(zi L (n+2)=61\/zi L (n+2)=33\/zi L (n+2)=60):=λc=>by obtain k|k|k:=c;exact b (Q (j.1 k));exact b (O (Q (l.1 k)));exact b (O (O (m.1 k))));rw[iN g,iN b,AY,AQ];exact xw od rfl a.place.symm
 rw[iN (λc=>d ((f.eqv 63 oa).1 c)),iN d,AY];exact jp f
end Tw
namespace Ref
def scan:As->Int->Nat->Option Nat
 | [],_,_=>U
 |t :: r,op,k=>if zY t.kind op=0 then I k else scan r (zY t.kind op) (k+1)
theorem wN (t:Tok)(r:As)(op:Int)(k:Nat):scan (t :: r) op k=if zY t.kind op=0 then I k else scan r (zY t.kind op) (k+1):=rfl
def qy (k mn mx:Int):Int:=if mx<0 then(if mn=0 then 1 else mn)*k+1 else mn*k+(mx-mn)*(k+1)
def qT (l:As):Int:=zT l 0
def zS (rest:As)(k:Int):Int×As:=match rest with
 | []=>(k,[])
 |q :: r=>if q.kind=6 then(qy k q.mn q.mx,r) else(k,q :: r)
def yK:Nat->As->Int->Option Int
 |0,_,_=>U
 |_+1,[],n=>I n
 |f+1,t :: r,n=>
  if t.kind=5 then yK f r (n+1)
  else if t.kind=3 then
   (match scan r 1 0 with
    |none=>U
    |some j=>match yK f (r.take j) 0 with
     |none=>U
     |some k=>yK f (zS (r.drop (j+1)) k).2 (min 1000000 (n+(zS (r.drop (j+1)) k).1)))
  else yK f (zS r 1).2 (min 1000000 (n+(zS r 1).1))
def JP (l:As)(n z:Int):Prop:=∃f,yK f l n=I z
theorem Xe:∀(f:Nat) (l:As) (n z:Int),yK f l n=I z->yK (f+1) l n=I z
 |0,l,n,z,h=>by simp[yK] at h
 |f+1,[],n,z,h=>by simpa [yK] using h
 |f+1,t :: r,n,z,h=>by
  unfold yK at h;rw[show f+1+1=(f+1)+1 from rfl];unfold yK;split at h;rename_i b;rw[IN b];exact Xe f _ _ _ h;rename_i b;rw[iN b];split at h;rename_i a;rw[IN a];split at h;cases h;rename_i j d;split at h;cases h;rename_i k c;rw[Xe f _ _ _ c];exact Xe f _ _ _ h;rename_i a;rw[iN a];exact Xe f _ _ _ h
theorem Xf {g:Nat}{l:As}{n z:Int}(h:yK f l n=I z)(c:f<=g):yK g l n=I z:=by
 induction g with
 |zero=>
  have:f=0:=oa;subst this;exact h
 |succ g b=>
  by_cases a:f=g+1;subst a;exact h;exact Xe g l n z (b oa)
def kG (t:Tok):Prop:=0<=t.mn/\t.mn<=100/\-1<=t.mx/\t.mx<=100/\(t.mx = -1\/t.mn<=t.mx)
def TK (b:As):Prop:=(∀(a:Int) (rest:As) (k:Nat),1<=a->scan (b++rest) a k=scan rest a (k+Bc b))/\∀t∈b,kG t
theorem TK.nil:TK []:=⟨λa rest k _=>ov,λt h=>by cases h⟩
theorem TK.append {a b:As}(c:TK a)(d:TK b):TK (a++b):=by refine⟨λe rest k h=>?_,λt h=>?_⟩;rw[Bu,c.1 e _ k h,d.1 e _ _ h,AO,Lm];obtain h|h:=A7.1 h;exact c.2 t h;exact d.2 t h
theorem TK.one {t:Tok}(b:t.kind≠3)(c:t.kind≠4)(d:kG t):TK [t]:=by
 refine⟨λa rest k h=>?_,λu h=>by simp at h;subst h;exact d⟩;have:zY t.kind a=a:=by unfold zY;rw[iN b,iN c]
 show scan (t :: rest) a k=_;rw[wN,this,iN oa];rfl
theorem TK.group {o c:Tok}{b:As}(l:o.kind=3)(j:c.kind=4)(i:kG o)(g:kG c)(h:TK b):TK (o :: b++[c]):=by
 refine⟨λa rest k m=>?_,λt d=>by
  simp at d;obtain rfl|d|rfl:=d;exact i;exact h.2 t d;exact g⟩
 have e:zY o.kind a=a+1:=by unfold zY;rw[IN l]
 have f:zY c.kind (a+1)=a:=by unfold zY;rw[iN oa,IN j];omega
 show scan (o :: (b++[c]++rest)) a k=_;rw[wN,e,iN oa,Bu,h.1 (a+1) _ _ oa];show scan (c :: rest) (a+1) _=_;rw[wN,f,iN oa];simp only[BH,AO,Cc];rw[show k+1+Bc b+1=k+(Bc b+1+(0+1)) by omega]
def ye (b:As)(v:Int):Prop:=∀n:Int,0<=n->∃a,0<=a/\min a 301=min (n+v) 301/\∀rest z,qT rest≠6->JP rest a z->JP (b++rest) n z
theorem ye.nil:ye [] 0:=λn h=>⟨n,h,by rw[Int.add_zero],λ_ _ _ a=>a⟩
theorem ye.append {a b:As}{x y:Int}(d:ye a x)(e:ye b y)(m:0<=x)(o:0<=y)(f:qT b≠6):ye (a++b) (min (x+y) 301):=λn h=>by
 have⟨n1,i,p,k⟩:=d n h;have⟨n2,j,q,l⟩:=e n1 i;refine⟨n2,j,oa,λrest z c g=>?_⟩;rw[Bu];refine k (b++rest) z ?_ (l rest z c g);cases b with
 |nil=>exact c
 |cons t r=>exact f
theorem ye.Rm {a:As}{x y:Int}(b:ye a x)(h:min x 301=min y 301)(g:0<=x)(_f:0<=y):ye a y:=λn c=>by have⟨n1,d,i,e⟩:=b n c;exact⟨n1,d,oa,e⟩
theorem ye.bar {t:Tok}(h:t.kind=5):ye [t] 1:=λn b=>⟨n+1,oa,rfl,λrest z _ ⟨f,a⟩=>⟨f+1,by show yK (f+1) (t :: rest) n=_;unfold yK;rw[IN h];exact a⟩⟩
theorem ye.one {t:Tok}(b:t.kind≠5)(a:t.kind≠3):ye [t] 1:=λn e=>⟨min 1000000 (n+1),oa,oa,λrest z d ⟨f,c⟩=>⟨f+1,by
 show yK (f+1) (t :: rest) n=_;unfold yK;rw[iN b,iN a];have:zS rest 1=(1,rest):=by
  unfold zS;cases rest with
  |nil=>rfl
  |cons q r=>simp only[];rw[iN (show ¬q.kind=6 from d)]
 rw[this];exact c⟩⟩
theorem ye.SH {t q:Tok}(b:t.kind≠5)(a:t.kind≠3)(c:q.kind=6)(g:0<=qy 1 q.mn q.mx):ye [t,q] (qy 1 q.mn q.mx):=λn e=>⟨min 1000000 (n+qy 1 q.mn q.mx),oa,oa,λrest z h ⟨f,d⟩=>⟨f+1,by
 show yK (f+1) (t :: q :: rest) n=_;unfold yK;rw[iN b,iN a];have:zS (q :: rest) 1=(qy 1 q.mn q.mx,rest):=by unfold zS;simp only[];rw[IN c]
 rw[this];exact d⟩⟩
theorem ye.whole {b:As}{v:Int}(h:ye b v):∃z,0<=z/\min z 301=min v 301/\JP b 0 z:=by have⟨a,p,q,r⟩:=h 0 oa;refine⟨a,p,oa,?_⟩;have:=r [] a od ⟨1,rfl⟩;rw[BW] at this;exact this
theorem QA {a rest:As}{c:Tok}(b:TK a)(d:c.kind=4):scan (a++c :: rest) 1 0=I (Bc a):=by
 rw[b.1 1 _ 0 oa,wN];have:zY c.kind 1=0:=by unfold zY;rw[iN oa,IN d];rfl
 rw[this,IN rfl,Bv]
theorem ye.group {o c:Tok}{a:As}{v:Int}(l:o.kind=3)(e:c.kind=4)(d:TK a)(h:ye a v)(u:0<=v):ye (o :: a++[c]) v:=λn t=>by
 have⟨k,p,s,b,j⟩:=h.whole;refine⟨min 1000000 (n+k),oa,oa,λrest z m ⟨f,i⟩=>⟨max b f+1,?_⟩⟩;show yK (max b f+1) (o :: (a++[c]++rest)) n=_;rw[Bu];show yK (max b f+1) (o :: (a++c :: rest)) n=_;unfold yK;rw[iN oa,IN l,QA d e];simp only[];rw[List.take_left,Xf j oa];have g:(a++c :: rest).drop (Bc a+1)=rest:=by rw[<-G5,List.drop_left];rfl
 rw[g];have:zS rest k=(k,rest):=by
  unfold zS;cases rest with
  |nil=>rfl
  |cons q r=>simp only[];rw[iN (show ¬q.kind=6 from m)]
 simp only[this];exact Xf i oa
theorem ye.Rw {o c q:Tok}{a:As}{v w:Int}(r:o.kind=3)(g:c.kind=4)(d:q.kind=6)(e:TK a)(h:ye a v)(B:0<=w)(s:∀k,0<=k->min k 301=min v 301->0<=qy k q.mn q.mx/\min (qy k q.mn q.mx) 301=min w 301):ye (o :: a++[c,q]) w:=λn t=>by
 have⟨k,l,m,b,p⟩:=h.whole;have⟨u,x⟩:=s k l m;refine⟨min 1000000 (n+qy k q.mn q.mx),oa,oa,λrest z y ⟨f,j⟩=>⟨max b f+1,?_⟩⟩;show yK (max b f+1) (o :: (a++[c,q]++rest)) n=_;rw[Bu];show yK (max b f+1) (o :: (a++c :: (q :: rest))) n=_;unfold yK;rw[iN oa,IN r,QA e g];simp only[];rw[List.take_left,Xf p oa];have i:(a++c :: (q :: rest)).drop (Bc a+1)=q :: rest:=by rw[<-G5,List.drop_left];rfl
 rw[i];have:zS (q :: rest) k=(qy k q.mn q.mx,rest):=by unfold zS;simp only[];rw[IN d]
 simp only[this];exact Xf j oa
end Ref
namespace Tw
variable {s:Al} {L:Ai}
theorem M9 {a b:Int}(c:1<=a)(d:301<=b):301<=a*b:=by have:=Lr c (show(0:Int)<=b by omega);omega
theorem VG {k v mn mx:Int}(j:0<=k)(F:0<=v)(L:v<=301)(h:min k 301=min v 301)(p:0<=mn)(y:-1<=mx)(r:mx = -1\/mn<=mx):0<=qy k mn mx/\min (qy k mn mx) 301=min (kF v mn mx) 301:=by
 have u:∀z:Int,0<=z->qy z mn mx=kF z mn mx:=by
  intro z f;unfold qy kF;by_cases e:mx = -1
  grind
  rw[iN oa,iN e]
 have w:0<=kF k mn mx:=Yq j p r;rw[u k j];refine⟨w,?_⟩;by_cases s:k=v;rw[s];have t:301<=k:=by omega
 have x:301<=v:=oa;have g:∀z:Int,301<=z->kF z mn mx=0/\mn=0/\mx=0\/301<=kF z mn mx:=by intro z f;unfold kF;by_cases e:mx = -1;right;rw[IN e];have:=M9 (a:=max mn 1) (b:=z) oa f;omega;rw[iN e];by_cases i:mn=0;by_cases q:mx=0;left;subst i;subst q;simp;right;have:=M9 (a:=mx-mn) (b:=z+1) oa oa;rw[i] at this ⊢;omega;right;have:=M9 (a:=mn) (b:=z) oa f;have B:0<=(mx-mn)*(z+1):=CQ oa oa;omega
 obtain⟨c,l,m⟩|c:=g k t<;>obtain⟨d,n,o⟩|d:=g v x
 rw[c,d];rw[l,m] at d;unfold kF at d;simp at d;rw[n,o] at c;unfold kF at c;simp at c;omega
theorem Q3 {t:Tok}(a:t.mn=0)(b:t.mx=0):kG t:=by unfold kG;omega
def vU (a:As)(v:Int):Prop:=TK a/\qT a≠6/\a≠[]/\ye a v/\∀q:Tok,q.kind=6->0<=q.mn->-1<=q.mx->(q.mx = -1\/q.mn<=q.mx)->ye (a++[q]) (min (kF v q.mn q.mx) 301)
theorem vU.one {t:Tok}(g:t.kind=1)(f:kG t):vU [t] 1:=by refine⟨TK.one oa oa f,?_,ov,ye.one oa oa,?_⟩;show t.kind≠6;omega;intro q e a b c;have d:=VG (k:=1) (v:=1) oa oa oa rfl a b c;have h:=Yq (z:=1) oa a c;exact(ye.SH (t:=t) (q:=q) oa oa e d.1).Rm oa d.1 oa
theorem vU.group {o c:Tok}{d:As}{v:Int}(i:o.kind=3)(g:c.kind=4)(n:kG o)(m:kG c)(f:TK d)(h:ye d v)(j:0<=v)(s:v<=301):vU (o :: d++[c]) v:=by refine⟨f.group i g n m,?_,ov,ye.group i g f h j,?_⟩;show o.kind≠6;omega;intro q l a b e;have t:=Yq (z:=v) j a e;have:=ye.Rw (w:=min (kF v q.mn q.mx) 301) i g l f h oa (λk p r=>by have:=VG p j s r a b e;exact⟨this.1,oa⟩);rw[show o :: d++[c]++[q]=o :: d++[c,q] by simp];exact this
theorem vy {f:Nat}{l:As}{op:Int}{atom:Bool}{st:St}(h:st.e≠0):∃b,zO s f l op atom st=(b,st.e,st.a):=by
 cases f with
 |zero=>exact⟨l,rfl⟩
 |succ f=>
  rw[Zo (λa=>h a.2)];refine⟨l,?_⟩;split;rw[GG h];rfl
def Goes (s:Al)(L:Ai)(f:Nat)(l:As)(op:Int)(atom:Bool)(p:Nat)(o:Ts.Out)(P:As->Prop):Prop:=
 (o.k≠0->∃e,zO s f l op atom (AA p)=(e,(o.k:Int),o.p))/\
 (o.k=0->∃d c a b,zO s f l op atom (AA p)=zO s c (l++d) op b (AA a)/\Br s L o.n a/\i s<a+c/\(b=G->xy (ze s a)=Z)/\P d)
def Mp (v:Int)(a:As):Prop:=TK a/\ye a v/\qT a≠6
theorem zer {f:Nat}{l:As}{op:Int}{n p:Nat}{at':As}{v:Int}(h:Br s L n p)(P:i s<p+f)(N:vU at' v)(ae:0<=v)(af:v<=301){A:Ts.Out}(S:A.k=0)(o:A.n=n)(hv:A.v=v):Goes s L f (l++at') op G p (if(zx L (i s) A.n).1=Z then A else if(zx L (i s) A.n).2.1.k≠0 then(zx L (i s) A.n).2.1 else good (min (kF A.v (zx L (i s) A.n).2.1.v (zx L (i s) A.n).2.2) 301) (Zt L (zx L (i s) A.n).2.1.n)) (λw=>w=[]/\(if(zx L (i s) A.n).1=Z then True else False)\/∃q:Tok,w=[q]/\ye (at'++[q]) (min (kF v (zx L (i s) A.n).2.1.v (zx L (i s) A.n).2.2) 301)/\TK [q]/\(zx L (i s) A.n).1=G/\q.kind=6/\q.mn=(zx L (i s) A.n).2.1.v/\q.mx=(zx L (i s) A.n).2.2):=by
 subst hv;rw[o];cases hq:xy (ze s p);have X:=zep h hq;rw[X];simp only[if_true];exact⟨λe=>absurd S e,λ_=>⟨[],f,p,G,by rw[BW],by rw[o];exact h,P,λ_=>hq,Q ⟨rfl,trivial⟩⟩⟩;have⟨m,t⟩:=zeo h hq;have ad:=ww hq;have W:p<i s:=(zw s p).1 oa;obtain⟨f,rfl⟩:∃F,f=F+1:=⟨f-1,oa⟩
 have u:=Qh (s:=s) (f:=f) (l:=l++at') (op:=op) (atom:=G) (st:=AA p) ⟨W,rfl⟩ ⟨rfl,hq⟩;rw[iN (by simp[m])];by_cases g:(zx L (i s) n).2.1.k=0;have⟨b,d,x,y⟩:=t.1 g;have a:=Vz (L:=L) (r:= i s) n m g;rw[iN (by simp[g])];refine⟨λe=>absurd rfl e,λ_=>⟨[⟨6,Z,[],0,(zM s (AA p)).1,(zM s (AA p)).2.1⟩],f,(zM s (AA p)).2.2.i,Z,?_,y,?_,(λe=>by cases e),O ⟨_,rfl,?_,TK.one (show(6:Int)≠3 by decide) (show(6:Int)≠4 by decide) ⟨by show 0<=(zM s (AA p)).1;rw[b];exact a.1,by show(zM s (AA p)).1<=100;rw[b];exact a.2.1,by show -1<=(zM s (AA p)).2.1;rw[d];exact a.2.2.1,by show(zM s (AA p)).2.1<=100;rw[d];exact a.2.2.2.1,by show(zM s (AA p)).2.1 = -1\/(zM s (AA p)).1<=(zM s (AA p)).2.1;rw[b,d];exact a.2.2.2.2⟩,m,rfl,b,d⟩⟩⟩;rw[u,<-x];have:=(Kd (s:=s) (st:=AA p) h.good hq).1;have hi:(AA p).i=p:=rfl;omega;have:=N.2.2.2.2 ⟨6,Z,[],0,(zM s (AA p)).1,(zM s (AA p)).2.1⟩ rfl (by show 0<=(zM s (AA p)).1;rw[b];exact a.1) (by show -1<=(zM s (AA p)).2.1;rw[d];exact a.2.2.1) (by show(zM s (AA p)).2.1 = -1\/(zM s (AA p)).1<=(zM s (AA p)).2.1;rw[b,d];exact a.2.2.2.2);have z:({ kind:=6,neg:=Z,parts:=[],c:=0,mn:=(zM s (AA p)).1,mx:=(zM s (AA p)).2.1 }:Tok).mn=(zx L (i s) n).2.1.v:=b;have B:({ kind:=6,neg:=Z,parts:=[],c:=0,mn:=(zM s (AA p)).1,mx:=(zM s (AA p)).2.1 }:Tok).mx=(zx L (i s) n).2.2:=d;rw[z,B] at this;exact this;have j:=t.2 g;rw[IN g];refine⟨λ_=>?_,λe=>absurd e g⟩;have⟨l',T⟩:=vy (s:=s) (f:=f) (l:=l++at'++[⟨6,Z,[],0,(zM s (AA p)).1,(zM s (AA p)).2.1⟩]) (op:=op) (atom:=Z) (st:=(zM s (AA p)).2.2) (by rw[j.1];omega);exact⟨l',by rw[u,T,j.1,j.2]⟩
end Tw
open Sm (Tree)
namespace Ts
def Zk (a:Int):Tree:=⟨0,a,0,Z,[],[],[]⟩
def Zl:Tree:=⟨1,0,0,Z,[],[],[]⟩
def ju (c:Int):Tree:=⟨2,c,0,Z,[],[],[]⟩
def qU (c:Int):Tree:=⟨3,c,0,Z,[],[],[]⟩
def vV (neg:Bool)(R:Ai)(S:Ar):Tree:=⟨4,0,0,neg,R,S,[]⟩
def BA (a:Au):Tree:=⟨5,0,0,Z,[],[],a⟩
def ZX (a:Au):Tree:=⟨6,0,0,Z,[],[],a⟩
def vW (t:Tree)(l m:Int):Tree:=⟨7,l,m,Z,[],[],[t]⟩
section
variable (L:Ai) (r:Int)
def By (n:Nat):Int:=if zi L n=94 then 0 else if zi L n=36 then 1 else if zi L (n+1)=98 then 2 else 3
def qV:Nat->Nat->Ai->Ar->Ai×Ar
 |0,_,R,S=>(R,S)
 |f+1,n,R,S=>if zi L n=93 then(R,S) else qV f (qO L r n).n (ZG L r n R) (ZH L r n S)
def xS (n:Nat):Tree:=vV (decide (zi L (n+1)=94)) (qV L r (Bc L+1-n) (if zi L (n+1)=94 then n+2 else n+1) [] []).1 (qV L r (Bc L+1-n) (if zi L (n+1)=94 then n+2 else n+1) [] []).2
def BJ (m:Bool)(c:Int):Tree:=match m with
 |true=>qU c
 |false=>ju c
def xj (DT:Nat->Tree)(n:Nat):Tree:=
 if zi L n=40 then DT n
 else if zi L n=91 then xS L r n
 else if zi L n=92 then BJ (jy (zi L (n+1))) (xR L r n).v
 else if zi L n=46 then Zl
 else ju (zi L n)
def jg (D:Nat->Out)(DT:Nat->Tree)(n:Nat):Tree:=
 if Bn L n≠0 then Zk (By L n)
 else if(zx L r (zK L r D n).n).1=Z then xj L r DT n
 else vW (xj L r DT n) (zx L r (zK L r D n).n).2.1.v (zx L r (zK L r D n).n).2.2
def jC (D:Nat->Out)(DT:Nat->Tree):Nat->Au->Nat->Au
 |0,a,_=>a
 |f+1,a,n=>if Zv L n=G then a else jC D DT f (a++[jg L r D DT n]) (yJ L r D n).n
def qe (D:Nat->Out)(DT:Nat->Tree)(n:Nat):Tree:=ZX (jC L r D DT (Bc L+1-n) [] n)
def A4 (D:Nat->Out)(DT:Nat->Tree):Nat->Au->Nat->Au
 |0,a,_=>a
 |f+1,a,n=>if zi L (zR L r D n).n=124 then A4 D DT f (a++[qe L r D DT n]) ((zR L r D n).n+1) else a++[qe L r D DT n]
def wV (D:Nat->Out)(DT:Nat->Tree)(n:Nat):Tree:=BA (A4 L r D DT (Bc L+1-n) [] n)
def qL:Nat->Nat->Tree
 |0,_=>Zl
 |a+1,n=>wV L r (zB L r a) (qL a) (zZ L r n).n
end
end Ts
def qz (w:E)(A:Aj)(b:Y)(n:Nat)(xs:An):Prop:=
 (b=K U 0 0/\n=0/\xs=[])\/∃g a,b=K (I ⟨g,0,U⟩) n a/\A g/\n<=a/\g<k w.heap/\∀j x,xs[j]?=I x->dx w ⟨g,j,U⟩=I x
theorem qz.keep {P A:Aj}{w N:E}{d:Y}{n:Nat}{xs:An}(h:qz w A d n xs)(k:zg P w N)(m:∀g,A g->¬P g):qz N A d n xs:=by obtain h|⟨g,e,f,a,i,l,b⟩:=h;exact Q h;exact O ⟨g,e,f,a,i,AM l k.size,λj x c=>(k.cell (zic w _ (b j x c)) (m g a)).trans (b j x c)⟩
theorem qz.mono {A B:Aj}{w:E}{b:Y}{n:Nat}{xs:An}(h:qz w A b n xs)(j:∀g,g<k w.heap->A g->B g):qz w B b n xs:=by obtain h|⟨g,c,d,e,f,a,i⟩:=h;exact Q h;exact O ⟨g,c,d,j g a e,f,a,i⟩
theorem zci {base k n:Nat}{w:E}{T:TypeId}{a:Y}{xs:An}(h:w.ownsRow base T k a n xs)(o:n=0->xs=[]):qz w (λg=>base<=g) a n xs:=by
 have l:=zh h;have f:=@World.ownsRow.cells w base T k a n xs h;obtain⟨rfl,b⟩|⟨g,c,p,rfl,d,q,m,_⟩:=h.2;exact Q ⟨rfl,b,o b⟩;exact O ⟨g,c,rfl,d,m,(l g rfl).2,λj x i=>by
  have:=f (g:=g) rfl j x i;have e:(⟨g,0,U⟩:Addr).add j=⟨g,j,U⟩:=(by unfold Addr.add;split<;>simp_all);rw[e] at this;exact this⟩
def kQ (w:E)(A:Aj)(v:Y)(t:Tree):Prop:=
 (∃c,t=Zk c/\v=Ud 153 (M J c))\/
 (t=Zl/\v=Ud 244 (Uf #[]))\/
 (∃c,t=ju c/\v=Ud 245 (M Ug c))\/
 (∃c,t=qU c/\v=Ud 246 (M Ug c))\/
 (∃neg R S v1 v2,t=vV neg R S/\v=Ud 250 (Uf #[.bool neg,v1,v2])/\qz w A v1 (Bc R) (AG R)/\qz w A v2 (Bc S) (jO S))
def zC:Nat->E->Aj->Y->Tree->Prop
 |0,_,_,_,_=>False
 |f+1,w,A,v,t=>
  kQ w A v t\/
  (∃c xs b,t=BA b/\v=Ud 228 c/\Zu w A c xs/\(Bc xs)<=1000/\(Bc b)=Bc xs/\(∀(j:Nat) x a,xs[j]?=I x->b[j]?=I a->zC f w A x a)/\0<Bc xs)\/
  (∃c xs b,t=ZX b/\v=Ud 252 c/\Zu w A c xs/\(Bc xs)<=1000/\(Bc b)=Bc xs/\(∀(j:Nat) x a,xs[j]?=I x->b[j]?=I a->zC f w A x a))\/
  (∃p l m a,t=vW a l m/\v=Ud 254 (Uf #[p,M J l,M J m])/\zC f w A p a/\0<=l/\l<=100/\-1<=m/\m<=100/\(m = -1\/l<=m))
theorem kQ.keep {P A:Aj}{w N:E}{v:Y}{t:Tree}(h:kQ w A v t)(k:zg P w N)(a:∀g,A g->¬P g):kQ N A v t:=by obtain h|h|h|h|⟨neg,R,S,v1,v2,b,c,d,e⟩:=h;exact Q h;exact O (Q h);exact O (O (Q h));exact O (O (O (Q h)));exact O (O (O (O ⟨neg,R,S,v1,v2,b,c,d.keep k a,e.keep k a⟩)))
theorem kQ.mono {A B:Aj}{w:E}{v:Y}{t:Tree}(h:kQ w A v t)(a:∀g,g<k w.heap->A g->B g):kQ w B v t:=by obtain h|h|h|h|⟨neg,R,S,v1,v2,b,c,d,e⟩:=h;exact Q h;exact O (Q h);exact O (O (Q h));exact O (O (O (Q h)));exact O (O (O (O ⟨neg,R,S,v1,v2,b,c,d.mono a,e.mono a⟩)))
theorem zC.keep {P A:Aj}{w N:E}(k:zg P w N)(b:∀g,A g->¬P g):∀(f:Nat) (v:Y) (t:Tree),zC f w A v t->zC f N A v t
 |0,_,_,h=>h
 |f+1,v,z,h=>by
  obtain h|⟨s,xs,zs,e,c,d,n,i,o,u⟩|⟨s,xs,zs,e,c,d,n,i,o⟩|⟨p,l,m,a,e,c,d,i⟩:=h;exact Q (h.keep k b);exact O (Q ⟨s,xs,zs,e,c,d.keep k b,n,i,λj x a q r=>zC.keep k b f x a (o j x a q r),u⟩);exact O (O (Q ⟨s,xs,zs,e,c,d.keep k b,n,i,λj x a q r=>zC.keep k b f x a (o j x a q r)⟩));exact O (O (O ⟨p,l,m,a,e,c,zC.keep k b f p a d,i⟩))
theorem zC.mono {A B:Aj}{w:E}(b:∀g,g<dg w.heap->A g->B g):∀(f:Nat) (v:Y) (t:Tree),zC f w A v t->zC f w B v t
 |0,_,_,h=>h
 |f+1,v,z,h=>by
  obtain h|⟨r,xs,zs,e,c,d,k,i,n,s⟩|⟨r,xs,zs,e,c,d,k,i,n⟩|⟨p,l,m,a,e,c,d,i⟩:=h;exact Q (h.mono b);exact O (Q ⟨r,xs,zs,e,c,d.mono b,k,i,λj x a o q=>zC.mono b f x a (n j x a o q),s⟩);exact O (O (Q ⟨r,xs,zs,e,c,d.mono b,k,i,λj x a o q=>zC.mono b f x a (n j x a o q)⟩));exact O (O (O ⟨p,l,m,a,e,c,zC.mono b f p a d,i⟩))
theorem zC.up {A:Aj}{w:E}:∀(f g:Nat) (v:Y) (t:Tree),f<=g->zC f w A v t->zC g w A v t
 |0,_,_,_,_,h=>h.elim
 |f+1,0,_,_,s,_=>oa
 |f+1,g+1,v,z,s,h=>by
  obtain h|⟨q,xs,zs,e,b,c,i,d,k,r⟩|⟨q,xs,zs,e,b,c,i,d,k⟩|⟨p,l,m,a,e,b,c,d⟩:=h;exact Q h;exact O (Q ⟨q,xs,zs,e,b,c,i,d,λj x a n o=>zC.up f g x a oa (k j x a n o),r⟩);exact O (O (Q ⟨q,xs,zs,e,b,c,i,d,λj x a n o=>zC.up f g x a oa (k j x a n o)⟩));exact O (O (O ⟨p,l,m,a,e,b,zC.up f g p a oa c,d⟩))
theorem zC.leaf {w:E}{A:Aj}{v:Y}{t:Tree}(h:kQ w A v t):zC 1 w A v t:=Q h
def vM (f:Nat)(w:E)(A:Aj)(xs:An)(zs:Au):Prop:=Bc zs=Bc xs/\∀(j:Nat) x a,xs[j]?=I x->zs[j]?=I a->zC f w A x a
theorem vM.append {g:Nat}{w:E}{A:Aj}{xs:An}{zs:Au}{x:Y}{z:Tree}(h:vM f w A xs zs)(e:zC g w A x z):vM (max f g) w A (xs++[x]) (zs++[z]):=by
 refine⟨by simp[h.1],?_⟩;intro j y i a b;by_cases c:j<Bc xs;rw[BG c] at a;rw[BG (by rw[h.1];exact c)] at b;exact zC.up f _ _ _ oa (h.2 j y i a b);rw[B9 oa] at a;rw[B9 (by rw[h.1];omega),h.1] at b;by_cases d:j-Bc xs=0;rw[d] at a b;simp at a b;subst a;subst b;exact zC.up g _ _ _ oa e
 grind
theorem vM.keep {P A:Aj}{f:Nat}{w N:E}{xs:An}{zs:Au}(h:vM f w A xs zs)(k:zg P w N)(a:∀g,A g->¬P g):vM f N A xs zs:=⟨h.1,λj x z b c=>zC.keep k a f x z (h.2 j x z b c)⟩
theorem vM.mono {A B:Aj}{f:Nat}{w:E}{xs:An}{zs:Au}(h:vM f w A xs zs)(a:∀g,g<k w.heap->A g->B g):vM f w B xs zs:=⟨h.1,λj x z b c=>zC.mono a f x z (h.2 j x z b c)⟩
def xe (b:Nat)(L:Ai)(r dp:Int)(a:Nat->Addr)(w:E)(o:Ts.Out)(t:Tree)(x:Ending)(N:E):Prop:=
 zg (zr b) w N/\yg N b L o.n r dp/\((o.k=0/\∃T y F,x=.returned (Ue #[Ud T y,Ui])/\zC F N (λg=>k (A w)<=g) (Ud T y) t)\/
  (o.k≠0/\∃v,x=.returned (Ue #[Ui,v])/\zJ N (k (A w)) v (z7 a o.k) o.p))
variable {b L r dp a w}
theorem xe.good {o:Ts.Out}{v:Int}{n:Nat}{T:TypeId}{y:Y}{F:Nat}{t:Tree}(e:o=good v n)(c:zg (zr b) w N)(d:yg N b L n r dp)(f:zC F N (λg=>k (A w)<=g) (Ud T y) t):xe b L r dp a w o t (.returned (Ue #[Ud T y,Ui])) N:=by subst e;exact⟨c,d,Q ⟨rfl,T,y,F,rfl,f⟩⟩
theorem xe.bad {o:Ts.Out}{k:Nat}{p:Int}{n:Nat}{v:Y}{t:Tree}(f:o=Ts.bad k p n)(e:k≠0)(c:zg (zr b) w N)(d:yg N b L n r dp)(g:zJ N (dg (A w)) v (z7 a k) p):xe b L r dp a w o t (.returned (Ue #[Ui,v])) N:=by subst f;exact⟨c,d,O ⟨e,v,rfl,g⟩⟩
theorem xI.Oq {o:Ts.Out}{T:TypeId}{y:Y}{x:Ending}{t:Tree}(h:xI b L r dp a w o (Ud T y) Ui x N)(i:o.k=0->kQ N (λg=>k (A w)<=g) (Ud T y) t):xe b L r dp a w (Ts.one o) t x N:=by
 have⟨e,f,h⟩:=h;refine⟨e,by rw[LJ];exact f,?_⟩;obtain⟨c,d⟩|⟨c,v,d,j⟩:=h;exact Q ⟨by rw[LI];exact c,T,y,1,d,zC.leaf (i c)⟩;have:Ts.one o=o:=by unfold Ts.one;rw[iN c]
 rw[this];exact O ⟨c,v,d,j⟩
theorem xe.pair {o:Ts.Out}{t:Tree}{x:Ending}(h:xe b L r dp a w o t x N):∃p q,x=.returned (Ue #[p,q]):=by obtain⟨_,_,⟨_,T,y,F,c,_⟩|⟨_,v,c,_⟩⟩:=h;exact⟨_,_,c⟩;exact⟨_,_,c⟩
theorem xe.after {w1 N:E}{o:Ts.Out}{t:Tree}{x:Ending}(c:zg (zr b) w w1)(h:xe b L r dp a w1 o t x N):xe b L r dp a w o t x N:=by have⟨f,i,j⟩:=h;refine⟨c.trans f,i,?_⟩;obtain⟨d,T,y,F,e,l⟩|⟨d,v,e,m⟩:=j;exact Q ⟨d,T,y,F,e,zC.mono (λg _ k=>AP c.size k) F _ _ l⟩;exact O ⟨d,v,e,m.base c.size⟩
theorem jD {o:Ts.Out}{t:Tree}{x:Ending}(h:xe b L r dp a w o t x N)(f:o.k=0):∃T y F,x=.returned (Ue #[Ud T y,Ui])/\zC F N (λg=>k (A w)<=g) (Ud T y) t/\zg (zr b) w N/\yg N b L o.n r dp:=by obtain⟨c,d,⟨_,T,y,F,j,i⟩|⟨e,_⟩⟩:=h;exact⟨T,y,F,j,i,c,d⟩;exact absurd f e
theorem XV {o:Ts.Out}{t:Tree}{x:Ending}(h:xe b L r dp a w o t x N)(i:o.k≠0):∃g,x=.returned (Ue #[Ui,Ud 139 (Ua (I ⟨g,0,U⟩))])/\zJ N (k (A w)) (Ud 139 (Ua (I ⟨g,0,U⟩))) (z7 a o.k) o.p/\zg (zr b) w N/\yg N b L o.n r dp:=by obtain⟨d,e,⟨f,_⟩|⟨_,v,j,c⟩⟩:=h;exact absurd f i;obtain⟨g,rfl⟩:=c.form;exact⟨g,j,c,d,e⟩
end
section
open Sm (Tree)
namespace Ts
def BQ (v:Int):Prop:=-1<=v/\v<=1114111
def kZ:Nat->Tree->Prop
 |0,_=>True
 |f+1,T=>(T.kind=2->BQ T.a)/\(T.kind=3->jy T.a=G)/\(T.kind=4->(∀r∈T.rs,BQ r.1/\BQ r.2)/\∀s∈T.ss,jy s=G)/\∀t∈T.kids,kZ f t
section
variable {L:Ai} {r:Int}
theorem LH (k:Nat)(p:Int)(n:Nat):BQ (bad k p n).v:=by unfold BQ bad;simp
theorem Hx {f:Nat}(a:f<=4)(n:Nat):0<=(yG L r f 0 n).v/\(yG L r f 0 n).v<=65535:=
 zaZ L r f 0 n oa (by have:(0:Int)<16 ^ (4-f):=Int.pow_pos oa;omega) a
theorem zad:∀(f:Nat) (c:Int) (d n:Nat),0<=c->c<=1114111->BQ (xL L r f c d n).v
 |0,c,d,n,b,a=>⟨by show -1<=c;omega,a⟩
 |f+1,c,d,n,b,a=>by
  unfold xL;split;exact⟨by show -1<=c;omega,a⟩;split;exact LH _ _ _;exact zad f _ _ _ oa oa
theorem zes (n:Nat):BQ (yi L r n).v:=by
 have a:=Hx (L:=L) (r:=r) (f:=4) oa n;have e:BQ (yG L r 4 0 n).v:=⟨oa,oa⟩
 unfold yi;split;exact e;split
 (rename_i b c;have d:kE L r (yG L r 4 0 n).n<=57343/\(0<=kE L r (yG L r 4 0 n).n->56320<=kE L r (yG L r 4 0 n).n):=by unfold kE;split;omega;exact⟨oa,λh=>oa⟩);unfold BQ good;simp only;omega;exact e
theorem IL (a:Fit L)(n:Nat):BQ (vS L r n).v:=by have b:=a n;unfold vS;split;unfold BQ good vR ctlV;simp only;split;omega;omega;split;unfold wt;split;exact LH _ _ _;unfold BQ good;simp;split;unfold xQ;split;unfold BQ good;simp only;omega;exact LH _ _ _;split;have:=Hx (L:=L) (r:=r) (f:=2) oa (n+1);exact⟨oa,oa⟩;split;exact zad _ _ _ _ oa oa;split;exact zes _;exact LH _ _ _
theorem EW (a:Fit L)(n:Nat):BQ (xR L r n).v:=by unfold xR;split;exact a (n+1);split;exact LH _ _ _;exact IL a _
theorem zck {n:Nat}(h:jy (zi L (n+1))=G):(xR L r n).v=zi L (n+1):=by unfold xR;rw[IN h];rfl
theorem XW (a:Fit L)(n:Nat):BQ (zm L r n).v:=by unfold zm;split;unfold BQ good;simp;split;unfold BQ good;simp;split;exact EW a n;exact a n
theorem zcl {n:Nat}(h:many L n=G):jy (zm L r n).v=G:=by unfold many at h;rw[B8,decide_eq_true_eq] at h;unfold zm;rw[iN (λe=>by rw[e.2] at h;exact absurd h.2 od),iN (λe=>by rw[e.2] at h;exact absurd h.2 od),IN h.1,zck h.2];exact h.2
theorem zae (g:Fit L):∀(f n:Nat) (R:Ai) (S:Ar),(∀a∈R,BQ a.1/\BQ a.2)->(∀s∈S,jy s=G)->(∀a∈(qV L r f n R S).1,BQ a.1/\BQ a.2)/\∀s∈(qV L r f n R S).2,jy s=G
 |0,_,_,_,d,e=>⟨d,e⟩
 |f+1,n,R,S,d,e=>by
  unfold qV;split;exact⟨d,e⟩;refine zae g f _ _ _ (λa b=>?_) (λs c=>?_);unfold ZG at b;split at b;obtain b|b:=A7.1 b;exact d a b;obtain rfl:=A5.1 b;exact⟨XW g _,XW g _⟩;split at b;exact d a b;obtain b|b:=A7.1 b;exact d a b;obtain rfl:=A5.1 b;exact⟨XW g _,XW g _⟩;unfold ZH at c;split at c;exact e s c;split at c;rename_i h;obtain c|c:=A7.1 c;exact e s c;obtain rfl:=A5.1 c;exact zcl h;exact e s c
theorem zfu {c:Int}(h:BQ c):∀f,kZ f (ju c)
 |0=>trivial
 |f+1=>⟨λ_=>h,λe=>by simp[ju] at e,λe=>by simp[ju] at e,λt a=>by simp[ju] at a⟩
theorem Dy {c:Int}(h:jy c=G):∀f,kZ f (qU c)
 |0=>trivial
 |f+1=>⟨λe=>by simp[qU] at e,λ_=>h,λe=>by simp[qU] at e,λt a=>by simp[qU] at a⟩
theorem Dz:∀f,kZ f Zl
 |0=>trivial
 |f+1=>⟨λe=>by simp[Zl] at e,λe=>by simp[Zl] at e,λe=>by simp[Zl] at e,λt a=>by simp[Zl] at a⟩
theorem IE (a:Int):∀f,kZ f (Zk a)
 |0=>trivial
 |f+1=>⟨λe=>by simp[Zk] at e,λe=>by simp[Zk] at e,λe=>by simp[Zk] at e,λt b=>by simp[Zk] at b⟩
theorem Nx {T:Tree}(b:5<=T.kind)(h:∀t∈T.kids,∀f,kZ f t):∀f,kZ f T
 |0=>trivial
 |f+1=>⟨λe=>oa,λe=>oa,λe=>oa,λt a=>h t a f⟩
theorem zgJ (a:Fit L)(n:Nat):∀f,kZ f (xS L r n)
 |0=>trivial
 |f+1=>⟨λe=>by simp[xS,vV] at e,λe=>by simp[xS,vV] at e,λ_=>zae a _ _ [] [] ov ov,λt b=>by simp[xS,vV] at b⟩
theorem zcm (a:Fit L){DT:Nat->Tree}(b:∀n f,kZ f (DT n))(n f:Nat):kZ f (xj L r DT n):=by unfold xj;split;exact b n f;split;exact zgJ a n f;split;unfold BJ;split;rename_i h;have:=zck (L:=L) (r:=r) h;rw[this];exact Dy h f;exact zfu (EW a n) f;split;exact Dz f;exact zfu (a n) f
theorem Dc (b:Fit L){D:Nat->Out}{DT:Nat->Tree}(a:∀n f,kZ f (DT n))(n f:Nat):kZ f (jg L r D DT n):=by unfold jg;split;exact IE _ f;split;exact zcm b a n f;refine Nx (by simp[vW]) (λt c f=>?_) f;obtain rfl:t=xj L r DT n:=(by simpa [vW] using c);exact zcm b a n f
theorem zaf (d:Fit L){D:Nat->Out}{DT:Nat->Tree}(c:∀n f,kZ f (DT n)):∀(g:Nat) (b:Au) (n:Nat),(∀t∈b,∀f,kZ f t)->∀t∈jC L r D DT g b n,∀f,kZ f t
 |0,_,_,h=>h
 |g+1,b,n,h=>by
  unfold jC;split;exact h;refine zaf d c g _ _ (λt a=>?_);obtain a|a:=A7.1 a;exact h t a;obtain rfl:=A5.1 a;exact λf=>Dc d c n f
theorem zgK (b:Fit L){D:Nat->Out}{DT:Nat->Tree}(a:∀n f,kZ f (DT n))(n f:Nat):kZ f (qe L r D DT n):=
 Nx (by simp[qe,ZX]) (zaf b a _ [] n ov) f
theorem zfv (e:Fit L){D:Nat->Out}{DT:Nat->Tree}(d:∀n f,kZ f (DT n)):∀(g:Nat) (b:Au) (n:Nat),(∀t∈b,∀f,kZ f t)->∀t∈A4 L r D DT g b n,∀f,kZ f t
 |0,_,_,h=>h
 |g+1,b,n,h=>by
  have c:∀t∈b++[qe L r D DT n],∀f,kZ f t:=λt a=>by obtain a|a:=A7.1 a;exact h t a;obtain rfl:=A5.1 a;exact λf=>zgK e d n f
  unfold A4;split;exact zfv e d g _ _ c;exact c
theorem zfw (b:Fit L){D:Nat->Out}{DT:Nat->Tree}(a:∀n f,kZ f (DT n))(n f:Nat):kZ f (wV L r D DT n):=
 Nx (by simp[wV,BA]) (zfv b a _ [] n ov) f
theorem zcn (b:Fit L):∀(a n f:Nat),kZ f (qL L r a n)
 |0,_,f=>Dz f
 |a+1,_,f=>zfw b (λn f=>zcn b a n f) _ f
theorem C2 (b:Fit L)(a n f:Nat):kZ f (wV L r (zB L r a) (qL L r a) n):=zfw b (λn f=>zcn b a n f) n f
end
end Ts
end
section
open Go.RowKit
open Sm (Tree)
namespace Tw
variable {s:Al} {L:Ai}
def zH (a:Ai)(c:Int):Bool:=a.any λx=>decide (x.1<=c) && decide (c<=x.2)
def Zm (p:Pt)(c:Int):Bool:=zH p.spans c != p.neg
def AU (ps:Ba)(c:Int):Bool:=ps.any λp=>Zm p c
def Xg (t:Tok)(c:Int):Bool:=AU t.parts c != t.neg
def kR (a c:Int):Bool:=Zm ⟨decide (a<97),Ref.setL a⟩ c
def kt (R:Ai)(S:Ar)(c:Int):Bool:=zH R c ||S.any λa=>kR a c
def AT (T:Tree)(c:Int):Bool:=
 if T.kind=1 then !zH [(10,10),(13,13),(8232,8233)] c
 else if T.kind=2 then decide (c=T.a)
 else if T.kind=3 then kR T.a c
 else if T.kind=4 then kt T.rs T.ss c != T.neg
 else Z
def Ls (T:Tree):Prop:=1<=T.kind/\T.kind<=4
def G4 (t:Tok)(T:Tree):Prop:=Ls T/\(∀c,Xg t c=AT T c)/\(Bc t.parts)<=1000/\∀p∈t.parts,Bc p.spans<=10
theorem inSp_one (a c:Int):zH [(a,a)] c=decide (c=a):=by
 unfold zH;simp only[List.any_cons,List.any_nil,LD];by_cases h:c=a;subst h;simp
 grind
theorem inSp_append (a b:Ai)(c:Int):zH (a++b) c=(zH a c ||zH b c):=by unfold zH;rw[List.any_append]
theorem VH (ps:Ba)(p:Pt)(c:Int):AU (ps++[p]) c=(AU ps c ||Zm p c):=by unfold AU;simp[List.any_append]
theorem zfx (R:Ai)(S:Ar)(x:Int×Int)(c:Int):kt (R++[x]) S c=(kt R S c ||zH [x] c):=by unfold kt;rw[inSp_append];cases zH R c<;>cases zH [x] c<;>simp
theorem GU (R:Ai)(S:Ar)(a:Int)(c:Int):kt R (S++[a]) c=(kt R S c ||kR a c):=by unfold kt;rw[List.any_append];simp[Bool.or_assoc]
theorem ZY (a:Ai)(c:Int):Zm ⟨Z,a⟩ c=zH a c:=by unfold Zm;simp
theorem zco (cls:Bool){m q:Nat}(h:Br s L m q)(k:ze s q=92)(c:jy (zi L (m+1))=G):(zF s cls (AA q)).1=⟨decide ((xR L (i s) m).v<97),Ref.setL (xR L (i s) m).v⟩:=by
 have j:=h.go k oa oa;have n:(AA q).i=q:=rfl;have f:zi L (m+1)=ze s (q+1):=by obtain⟨e,_⟩|⟨a,b⟩:=j.alike;exact e;rw[VC (Q a)] at c;cases c
 have d:=c;rw[f] at d;have o:=VD d;have l:Ref.backB (ze s (q+1))=Z:=by rw[<-JO];exact o.1
 have g:xR L (i s) m=good (zi L (m+1)) (m+2):=by unfold xR;rw[IN c]
 rw[g];unfold zF;rw[n,iN (by simp[l]),IN ((Q2 _).1 d)];show(⟨decide (ze s (q+1)<97),Ref.setL (ze s (q+1))⟩:Pt)=⟨decide (zi L (m+1)<97),Ref.setL (zi L (m+1))⟩
 rw[f]
theorem zcp {m q:Nat}(h:Br s L m q)(e:many L m=G):(zo s (AA q)).1=⟨decide ((zm L (i s) m).v<97),Ref.setL (zm L (i s) m).v⟩:=by
 have j:(AA q).i=q:=rfl;have a:zi L m=92/\jy (zi L (m+1))=G:=by unfold many at e;simpa using e
 have c:=(h.eqv 92 oa).1 a.1;have d:=VD a.2;have f:zm L (i s) m=xR L (i s) m:=by unfold zm;rw[iN (λb=>d.2.2.2.1 b.2),iN (λb=>d.2.2.2.2 b.2),IN a.1]
 have g:zo s (AA q)=zF s G (AA q):=by unfold zo;rw[j,IN c]
 rw[g,f];exact zco G h c a.2
theorem zbc {m q:Nat}(h:Br s L m q)(f:q<i s)(e:(zm L (i s) m).k=0)(c:Int):Zm (zo s (AA q)).1 c=if many L m=G then kR (zm L (i s) m).v c else zH [((zm L (i s) m).v,(zm L (i s) m).v)] c:=by
 by_cases a:many L m=G;rw[IN a,zcp h a];rfl;rw[iN a];have b:=(vL h f).2 e;have d:(zo s (AA q)).2.1=G:=by rw[b.1];simp[a]
 rw[b.2 d,ZY]
theorem Gc (b:Int):(Ref.setL b).length<=10:=by
 unfold Ref.setL
 (repeat' split)<;>first|decide|simp
theorem VI (cls:Bool)(st:St):(zF s cls st).1.spans.length<=10:=by unfold zF;split;simp;split;exact Gc _;simp
theorem zet (st:St):(zo s st).1.spans.length<=10:=by unfold zo;split;exact VI G st;split<;>simp
theorem XX:∀(f:Nat) (ps:Ba) (st:St),(∀p∈ps,Bc p.spans<=10)->(∀p∈(yP s f ps st).1,Bc p.spans<=10)/\(yP s f ps st).1.length<=Bc ps+f
 |0,ps,st,h=>⟨h,by simp[yP]⟩
 |f+1,ps,st,h=>by
  simp only[yP];split
  .split;exact⟨h,ov⟩;split
   .split;exact⟨h,ov⟩;split;exact⟨h,ov⟩;have:=XX f (ps++[⟨(zo s st).1.neg,[(A6 (zo s st).1,A6 (zo s ((zo s st).2.2.go 1)).1)]⟩]) (zo s ((zo s st).2.2.go 1)).2.2 (λp a=>by
     obtain a|a:=A7.1 a;exact h p a;simp at a;subst a;simp)
    exact⟨this.1,by have:=this.2;simp at this;omega⟩
   have:=XX f (ps++[(zo s st).1]) (zo s st).2.2 (λp a=>by
    obtain a|a:=A7.1 a;exact h p a;simp at a;subst a;exact zet st)
   exact⟨this.1,by have:=this.2;simp at this;omega⟩
  exact⟨h,ov⟩
theorem Yw:∀(f g:Nat) (ps:Ba) (R:Ai) (S:Ar) (n p:Nat),Br s L n p->Bc L<n+f->i s<p+g->(ja L (i s) f n).k=0->(∀c,AU ps c=kt R S c)->
  ∀c,AU (yP s g ps (AA p)).1 c=kt (qV L (i s) f n R S).1 (qV L (i s) f n R S).2 c
 |0,g,ps,R,S,n,p,h,hf,hg,_,_=>by have:=h.le;omega
 |f+1,0,ps,R,S,n,p,h,hf,hg,_,_=>by have:=h.good.le;omega
 |f+1,g+1,ps,R,S,n,p,h,hf,hg,d,W=>by
  simp only[ja] at d;simp only[qV];by_cases t:ze s p=93
  .rw[IN ((h.eqv 93 oa).2 t),vt (λa=>a.2 t)];exact W
  .have hc:(AA p).e=0/\ze s (AA p).i≠93:=⟨rfl,t⟩
   have az:¬zi L n=93:=λa=>t ((h.eqv 93 oa).1 a);rw[iN az] at d ⊢;by_cases q:p<i s
   .have ap:=h.lt.2 q;have aD:=(zw s p).2 q;have ae:¬ze s (AA p).i<0:=(by show ¬ze s p<0;omega);rw[iN oa] at d;have b:(qO L (i s) n).k=0:=(by grind);rw[iN (by simp[b])] at d;have hm:=vL h q;have aG:=kf (L:=L) (r:= i s) n ap;have o:(zm L (i s) n).k=0:=by
     by_cases a:(zm L (i s) n).k=0
     .exact a
     .have m:qO L (i s) n=zm L (i s) n:=(by unfold qO;rw[IN a]);rw[m] at b;exact absurd b a
    have⟨m1,m2,_,j⟩:=hm.1.1 o;have z:=Yt m1 m2;have w:=zac j;have av:=zbc h q o;cases hdd:j5 L (zm L (i s) n).n
    .rw[hdd] at w;have m:qO L (i s) n=zm L (i s) n:=(by unfold qO;rw[iN (by simp[o]),iN (by simp[hdd])]);rw[m] at d ⊢;rw[wS hc ae (by rw[z,<-w];simp),z];have ao:p<(zo s (AA p)).2.2.i:=by
      have:=j.good.le;by_cases a:p<(zo s (AA p)).2.2.i
      .exact a
      .exfalso;have:=Yu h j oa;omega
     refine Yw f g _ _ _ _ _ j oa oa d (λc=>?_);rw[VH,W c,av c];by_cases l:many L n=G
     .have F:ZG L (i s) n R=R:=(by unfold ZG;rw[iN (by simp[hdd]),IN l]);have N:ZH L (i s) n S=S++[(zm L (i s) n).v]:=(by unfold ZH;rw[iN (by simp[hdd]),IN l]);rw[IN l,F,N,GU]
     .have F:ZG L (i s) n R=R++[((zm L (i s) n).v,(zm L (i s) n).v)]:=(by unfold ZG;rw[iN (by simp[hdd]),iN l]);have N:ZH L (i s) n S=S:=(by unfold ZH;rw[iN (by simp[hdd]),iN l]);rw[iN l,F,N,zfx]
    .rw[hdd] at w;have P:=XQ hdd;have am:=(j.eqv 45 oa).1 P.1;have ab:=j.go am oa oa;have aq:(zo s (AA p)).2.2.i+1<i s:=by
      by_cases a:(zo s (AA p)).2.2.i+1<i s
      .exact a
      .exact absurd ((ab.eqv (-1) oa).2 (qE _ _ oa)) P.2.2
     have ak:=vL ab aq;have T:(zo s (AA p)).2.2.go 1=AA ((zo s (AA p)).2.2.i+1):=(by rw[z];rfl);have ar:jY s (zo s (AA p)).2.2=G:=(by rw[z];exact w.symm);have aH:=kf (L:=L) (r:= i s) ((zm L (i s) n).n+1) (QZ P.2.2);have aa:qO L (i s) n=qd L (i s) (many L n) (zm L (i s) n).v (zm L (i s) n).n:=(by unfold qO;rw[iN (by simp[o]),IN hdd]);have x:(zm L (i s) ((zm L (i s) n).n+1)).k=0:=by
      by_cases a:(zm L (i s) ((zm L (i s) n).n+1)).k=0
      .exact a
      .rw[aa] at b;unfold qd at b;rw[IN a] at b;exact absurd b a
     have u:¬(many L n=G\/many L ((zm L (i s) n).n+1)=G\/(zm L (i s) ((zm L (i s) n).n+1)).v<(zm L (i s) n).v):=λa=>by
      rw[aa] at b;unfold qd at b;rw[iN (by simp[x]),IN a] at b;exact absurd b (by simp[Ts.bad])
     have⟨p1,p2,_,ac⟩:=ak.1.1 x;have au:=Yt p1 p2;have⟨y,ah⟩:=hm.2 o;have⟨B,ai⟩:=ak.2 x;have q1:many L n=Z:=(by cases X:many L n;rfl;exact absurd (Q X) u);have q2:many L ((zm L (i s) n).n+1)=Z:=(by cases X:many L ((zm L (i s) n).n+1);rfl;exact absurd (O (Q X)) u);rw[q1] at y;rw[q2] at B;have an:¬BN (zo s (AA p)).1 (zo s ((zo s (AA p)).2.2.go 1)).1 (zo s (AA p)).2.1 (zo s ((zo s (AA p)).2.2.go 1)).2.1=G:=by
      rw[T];unfold BN;rw[ah y,ai B,y,B];have hv:¬(zm L (i s) ((zm L (i s) n).n+1)).v<(zm L (i s) n).v:=λa=>u (O (O a));simp[A6,hv]
     have m:qO L (i s) n=zm L (i s) ((zm L (i s) n).n+1):=by
      rw[aa];unfold qd;rw[iN (by simp[x]),iN u]
     rw[m] at d ⊢;rw[wD hc ae ar (by rw[T];exact p1) an,T,au];have ao:p<(zo s (AA ((zo s (AA p)).2.2.i+1))).2.2.i:=by
      by_cases a:p<(zo s (AA ((zo s (AA p)).2.2.i+1))).2.2.i
      .exact a
      .exfalso;have:=Yu h ac oa;omega
     refine Yw f g _ _ _ _ _ ac oa oa d (λc=>?_);rw[VH,W c,ah y,ai B,ZY];unfold ZG ZH;rw[IN hdd,IN hdd,zfx];rfl
   .have aE:=h.stop q;rw[IN oa] at d;exact absurd d (by simp[Ts.bad])
end Tw
end
section
open Sm (Tree)
namespace Ts
def vd:Nat->Tree->Prop
 |0,_=>True
 |f+1,T=>(T.kind=4->Bc T.rs<=1000/\(Bc T.ss)<=1000)/\∀t∈T.kids,vd f t
section
variable {L:Ai} {r:Int}
theorem GZ (n:Nat)(R:Ai):(ZG L r n R).length<=Bc R+1:=by unfold ZG;split;simp;split<;>simp
theorem GY (n:Nat)(S:Ar):(ZH L r n S).length<=Bc S+1:=by unfold ZH;split;simp;split<;>simp
theorem zah:∀(f n:Nat) (R:Ai) (S:Ar),(qV L r f n R S).1.length<=Bc R+f/\(qV L r f n R S).2.length<=Bc S+f
 |0,_,R,S=>⟨AD _,AD _⟩
 |f+1,n,R,S=>by
  unfold qV;split
  grind
  have a:=GZ (L:=L) (r:=r) n R;have b:=GY (L:=L) (r:=r) n S;have c:=zah f (qO L r n).n (ZG L r n R) (ZH L r n S);omega
theorem zfy (c:Int):∀f,vd f (ju c)
 |0=>trivial
 |f+1=>⟨λe=>by simp[ju] at e,λt a=>by simp[ju] at a⟩
theorem Eg (c:Int):∀f,vd f (qU c)
 |0=>trivial
 |f+1=>⟨λe=>by simp[qU] at e,λt a=>by simp[qU] at a⟩
theorem Eh:∀f,vd f Zl
 |0=>trivial
 |f+1=>⟨λe=>by simp[Zl] at e,λt a=>by simp[Zl] at a⟩
theorem IQ (a:Int):∀f,vd f (Zk a)
 |0=>trivial
 |f+1=>⟨λe=>by simp[Zk] at e,λt b=>by simp[Zk] at b⟩
theorem Nw {T:Tree}(b:5<=T.kind)(h:∀t∈T.kids,∀f,vd f t):∀f,vd f T
 |0=>trivial
 |f+1=>⟨λe=>oa,λt a=>h t a f⟩
theorem zgL (b:Bc L<=400)(n:Nat):∀f,vd f (xS L r n)
 |0=>trivial
 |f+1=>⟨λ_=>by
   have:=zah (L:=L) (r:=r) (Bc L+1-n) (if zi L (n+1)=94 then n+2 else n+1) [] [];simp only[Cc] at this;simp only[xS,vV];omega,λt a=>by simp[xS,vV] at a⟩
theorem zcq (b:Bc L<=400){DT:Nat->Tree}(a:∀n f,vd f (DT n))(n f:Nat):vd f (xj L r DT n):=by unfold xj;split;exact a n f;split;exact zgL b n f;split;unfold BJ;split;exact Eg _ f;exact zfy _ f;split;exact Eh f;exact zfy _ f
theorem Dd (b:Bc L<=400){D:Nat->Out}{DT:Nat->Tree}(a:∀n f,vd f (DT n))(n f:Nat):vd f (jg L r D DT n):=by unfold jg;split;exact IQ _ f;split;exact zcq b a n f;refine Nw (by simp[vW]) (λt c f=>?_) f;obtain rfl:t=xj L r DT n:=(by simpa [vW] using c);exact zcq b a n f
theorem zai (d:Bc L<=400){D:Nat->Out}{DT:Nat->Tree}(c:∀n f,vd f (DT n)):∀(g:Nat) (b:Au) (n:Nat),(∀t∈b,∀f,vd f t)->∀t∈jC L r D DT g b n,∀f,vd f t
 |0,_,_,h=>h
 |g+1,b,n,h=>by
  unfold jC;split;exact h;refine zai d c g _ _ (λt a=>?_);obtain a|a:=A7.1 a;exact h t a;obtain rfl:=A5.1 a;exact λf=>Dd d c n f
theorem zgM (b:Bc L<=400){D:Nat->Out}{DT:Nat->Tree}(a:∀n f,vd f (DT n))(n f:Nat):vd f (qe L r D DT n):=
 Nw (by simp[qe,ZX]) (zai b a _ [] n ov) f
theorem zfz (e:Bc L<=400){D:Nat->Out}{DT:Nat->Tree}(d:∀n f,vd f (DT n)):∀(g:Nat) (b:Au) (n:Nat),(∀t∈b,∀f,vd f t)->∀t∈A4 L r D DT g b n,∀f,vd f t
 |0,_,_,h=>h
 |g+1,b,n,h=>by
  have c:∀t∈b++[qe L r D DT n],∀f,vd f t:=λt a=>by obtain a|a:=A7.1 a;exact h t a;obtain rfl:=A5.1 a;exact λf=>zgM e d n f
  unfold A4;split;exact zfz e d g _ _ c;exact c
theorem zfA (b:Bc L<=400){D:Nat->Out}{DT:Nat->Tree}(a:∀n f,vd f (DT n))(n f:Nat):vd f (wV L r D DT n):=
 Nw (by simp[wV,BA]) (zfz b a _ [] n ov) f
theorem zcr (b:Bc L<=400):∀(a n f:Nat),vd f (qL L r a n)
 |0,_,f=>Eh f
 |a+1,_,f=>zfA b (λn f=>zcr b a n f) _ f
theorem C6 (b:Bc L<=400)(a n f:Nat):vd f (wV L r (zB L r a) (qL L r a) n):=zfA b (λn f=>zcr b a n f) n f
end
end Ts
open Sm (Tree Stp)
namespace Sm
def yI:Nat->Tree->Int
 |0,_=>0
 |f+1,T=>
  if T.kind=5 then min (xu 0 (T.kids.map (yI f))+Bc T.kids-1) 301
  else if T.kind=6 then xu 0 (T.kids.map (yI f))
  else if T.kind=7 then min (kF (yI f T.kid) T.a T.b) 301
  else 1
theorem KS:∀(zs:Ar) (t:Int),(∀z∈zs,0<=z)->t<=301->t<=xu t zs
 | [],t,_,_=>Iv t
 |z :: r,t,h,b=>by
  have c:=h z (A8 ..);have:=KS r (min (t+z) 301) (λy a=>h y (Bm _ a)) oa;show t<=xu (min (t+z) 301) r;omega
theorem zgN {z t:Int}{r:Ar}(h:∀y∈z :: r,0<=y)(d:xu t (z :: r)<=300):t+z<=300/\xu t (z :: r)=xu (t+z) r:=by have f:=h z (A8 ..);have c:=KS r (min (t+z) 301) (λy b=>h y (Bm _ b)) oa;have e:xu t (z :: r)=xu (min (t+z) 301) r:=rfl;have a:t+z<=300:=oa;refine⟨a,?_⟩;rw[e,show min (t+z) 301=t+z by omega]
theorem zcs:∀(zs:Ar) (t:Int),(∀z∈zs,0<=z)->0<=t->t<=301->xu t zs<=300->xu t zs=t+zs.sum
 | [],t,_,_,_,_=>by simp[xu]
 |z :: r,t,h,d,f,a=>by
  have⟨e,b⟩:=zgN h a;have g:=h z (A8 ..);rw[b] at a ⊢;rw[zcs r (t+z) (λy c=>h y (Bm _ c)) oa oa a];simp only[Ll];omega
theorem WF.up:∀{f g:Nat} {T:Tree},WF f T->f<=g->WF g T
 |0,_,_,h,_=>h.elim
 |f+1,0,_,_,h=>oa
 |f+1,g+1,T,h,c=>⟨h.1,λa t b=>WF.up (h.2.1 a t b) oa,λa=>⟨WF.up (h.2.2 a).1 oa,(h.2.2 a).2⟩⟩
theorem KT:∀{f:Nat} {T:Tree},WF f T->0<=yI f T
 |0,_,h=>h.elim
 |f+1,T,h=>by
  unfold yI;have key:T.kind=5\/T.kind=6->∀z∈T.kids.map (yI f),0<=z:=λa z c=>by obtain⟨t,b,rfl⟩:=Cf.1 c;exact KT (h.2.1 a t b)
  split;rename_i a;have:=KS (T.kids.map (yI f)) 0 (key (Q a)) oa;have:Bc T.kids≠0:=λe=>h.1 a (Cb e);omega;split;rename_i a;exact KS (T.kids.map (yI f)) 0 (key (O a)) oa;split;rename_i a;have:=Yq (KT (h.2.2 a).1) (h.2.2 a).2.1 (h.2.2 a).2.2;omega;omega
theorem Nv:∀{f g:Nat} {T:Tree},WF f T->f<=g->yI g T=yI f T
 |0,_,_,h,_=>h.elim
 |f+1,0,_,_,h=>oa
 |f+1,g+1,T,h,c=>by
  unfold yI;have key:T.kind=5\/T.kind=6->T.kids.map (yI g)=T.kids.map (yI f):=λa=>List.map_congr_left λt b=>Nv (h.2.1 a t b) oa;split;rename_i a;rw[key (Q a)];split;rename_i a;rw[key (O a)];split;rename_i a;rw[Nv (h.2.2 a).1 oa];rfl
section
variable {B C:Tree->Nat->Aq->Nat×Aq}
end
theorem zfB {R a:Nat->Aj}(h:∀i j,R i j↔a i j):∀(k i j:Nat),pow R k i j↔pow a k i j:=by
 have:R=a:=by funext i j;exact propext (h i j)
 subst this;exact λ_ _ _=>Iff.rfl
theorem JQ {X X':Tree->Nat->Aj}:∀(a:Au),(∀t∈a,∀i j,X t i j↔X' t i j)->∀i j,vf X a i j↔vf X' a i j
 | [],_,_,_=>Iff.rfl
 |t :: a,h,i,j=>by
  simp only[vf];constructor;rintro⟨m,b,c⟩;exact⟨m,(h t (A8 ..) i m).1 b,(JQ a (λy d=>h y (Bm _ d)) m j).1 c⟩;rintro⟨m,b,c⟩;exact⟨m,(h t (A8 ..) i m).2 b,(JQ a (λy d=>h y (Bm _ d)) m j).2 c⟩
theorem G1 {lf:Tree->Aj}{ah:Int->Aj}:∀{f g:Nat} {T:Tree},WF f T->f<=g->∀i j,M lf ah g T i j↔M lf ah f T i j
 |0,_,_,h,_=>h.elim
 |f+1,0,_,_,h=>oa
 |f+1,g+1,T,h,m=>by
  intro i j;unfold M;have key:T.kind=5\/T.kind=6->∀t∈T.kids,∀i j,M lf ah g t i j↔M lf ah f t i j:=λa t l=>G1 (h.2.1 a t l) oa;split;exact Iff.rfl;split
  grind
  split;rename_i a;exact JQ _ (key (O a)) i j;split;rename_i a;have e:=G1 (lf:=lf) (ah:=ah) (h.2.2 a).1 (show f<=g by omega);exact⟨λ⟨k,b,c,d⟩=>⟨k,b,c,(zfB e k i j).1 d⟩,λ⟨k,b,c,d⟩=>⟨k,b,c,(zfB e k i j).2 d⟩⟩;exact Iff.rfl
theorem Mv {lf:Tree->Aj}{ah:Int->Aj}{f g:Nat}{T:Tree}(a:WF f T)(b:WF g T)(i j:Nat):M lf ah g T i j↔M lf ah f T i j:=by by_cases h:f<=g;exact G1 a h i j;exact(G1 b oa i j).symm
end Sm
theorem kQ.leaf {A:Aj}{v:Y}{t:Tree}(h:kQ w A v t):t.kind<=4/\∃T x,Et T/\v=Ud T x:=by obtain⟨c,rfl,rfl⟩|⟨rfl,rfl⟩|⟨c,rfl,rfl⟩|⟨c,rfl,rfl⟩|⟨neg,R,S,v1,v2,rfl,rfl,_⟩:=h;exact⟨by simp[Zk],_,_,Q rfl,rfl⟩;exact⟨by simp[Zl],_,_,O (Q rfl),rfl⟩;exact⟨by simp[ju],_,_,O (O (Q rfl)),rfl⟩;exact⟨by simp[qU],_,_,O (O (O (Q rfl))),rfl⟩;exact⟨by simp[vV],_,_,O (O (O (O rfl))),rfl⟩
theorem zfC {α β:Type}{xs:List α}{a:List β}(h:Bc a=Bc xs){j:Nat}{t:β}(b:a[j]?=I t):∃x,xs[j]?=I x:=by have:=(AK.1 b).1;exact⟨xs[j]' oa,AE oa⟩
theorem zC.wf {w:E}{A:Aj}:∀{f:Nat} {v:Y} {t:Tree},zC f w A v t->WF f t
 |0,_,_,h=>h.elim
 |f+1,v,t,h=>by
  obtain h|⟨r,xs,b,rfl,_,_,_,d,c,o⟩|⟨r,xs,b,rfl,_,_,_,d,c⟩|⟨p,l,m,u,rfl,_,k,n,c,o,s,q⟩:=h;have:=h.leaf.1;exact⟨λe=>oa,λe=>oa,λe=>oa⟩;refine⟨λ_ e=>?_,λ_ t g=>?_,λe=>absurd e (by simp[BA])⟩;have:Bc b=0:=(by have:b=[]:=e;simp[this]);omega;have⟨j,a⟩:=wM (show t∈b from g);have⟨x,i⟩:=zfC d a;exact zC.wf (c j x t i a);refine⟨λe=>absurd e (by simp[ZX]),λ_ t g=>?_,λe=>absurd e (by simp[ZX])⟩;have⟨j,a⟩:=wM (show t∈b from g);have⟨x,i⟩:=zfC d a;exact zC.wf (c j x t i a);refine⟨λe=>absurd e (by simp[vW]),λe=>absurd e (by simp[vW]),λ_=>⟨?_,n,q⟩⟩;exact zC.wf k
theorem zC.size {w:E}{A:Aj}:∀{f:Nat} {v:Y} {t:Tree},zC f w A v t->yt f w A v (Sm.yI f t)
 |0,_,_,h=>h.elim
 |f+1,v,t,h=>by
  have key:∀(xs:An) (a:Au),Bc a=Bc xs->(∀(j:Nat) x c,xs[j]?=I x->a[j]?=I c->zC f w A x c)->∀(j:Nat) x q,xs[j]?=I x->(a.map (Sm.yI f))[j]?=I q->yt f w A x q:=by
   intro xs a _ z j x q F i;rw[Bo] at i;cases ht:a[j]? with
   |none=>rw[ht] at i;cases i
   |some c=>rw[ht] at i;cases i;exact zC.size (z j x c F ht)
  obtain h|⟨o,xs,a,rfl,d,e,k,b,g,n⟩|⟨o,xs,a,rfl,d,e,k,b,g⟩|⟨p,l,m,c,rfl,d,e,r,g,n,s,u⟩:=h;have⟨L,T,x,y,B⟩:=h.leaf;refine Q ⟨?_,T,x,y,B⟩;unfold Sm.yI;rw[iN oa,iN oa,iN oa];refine O (Q ⟨o,xs,a.map (Sm.yI f),d,e,k,by simp[b],key xs a b g,n,?_⟩);unfold Sm.yI;rw[IN (by rfl),<-b];rfl;refine O (O (Q ⟨o,xs,a.map (Sm.yI f),d,e,k,by simp[b],key xs a b g,?_⟩));unfold Sm.yI;rw[iN (by simp[ZX]),IN (by rfl)];rfl;refine O (O (O ⟨p,l,m,Sm.yI f c,d,zC.size e,r,g,n,s,u,?_⟩))
  (conv=>lhs;unfold Sm.yI);rw[iN (by simp[vW]),iN (by simp[vW]),IN (by rfl)];rfl
namespace Sm
section
variable {B:Tree->Nat->Aq->Nat×Aq}
def G3 (B:Tree->Nat->Aq->Nat×Aq)(t:Tree)(z:Int):Prop:=∀h S,((B t h S).2.length:Int)<=Bc S+z
theorem Ko {h:Nat}{z:Tree->Int}:∀(c:Au) (b:Nat) (S:Aq),(∀t∈c,G3 B t (z t))->((xh B h c b S).2.length:Int)<=Bc S+(c.map z).sum+Bc c
 | [],_,_,_=>by simp[xh]
 |t :: c,b,S,a=>by
  have f:=a t (A8 ..) h S;have d:=Ko (h:=h) c (B t h S).2.length ((B t h S).2++[zy b (B t h S).1]) (λy e=>a y (Bm _ e));simp only[xh,List.map_cons,Ll,BH,AO,Cc] at d ⊢;omega
theorem zct {z:Tree->Int}:∀(a:Au) (b:Nat) (S:Aq),(∀t∈a,G3 B t (z t))->((Zh B a b S).2.length:Int)<=Bc S+(a.map z).sum
 | [],_,_,_=>by simp[Zh]
 |t :: a,b,S,h=>by
  have e:=h t (A8 ..) b S;have c:=zct a (B t b S).1 (B t b S).2 (λy d=>h y (Bm _ d));simp only[Zh,List.map_cons,Ll] at c ⊢;omega
theorem zcu {t:Tree}{h:Nat}{z:Int}:∀(k b:Nat) (S:Aq),(k≠0->G3 B t z)->((vH B t h k b S).2.length:Int)<=Bc S+k*(z+1)
 |0,_,_,_=>by simp[vH]
 |k+1,b,S,a=>by
  have c:=a oa;have f:=c b S;have d:=zcu (h:=h) k (B t b S).2.length ((B t b S).2++[zy (B t b S).1 h]) (λ_=>c);have e:((k+1:Nat):Int)*(z+1)=k*(z+1)+(z+1):=by rw[show((k+1:Nat):Int)=k+1 by omega,Int.add_mul,Int.one_mul]
  simp only[vH,AO,BH,Cc] at d ⊢;omega
theorem QB {t:Tree}{z:Int}(c:0<=z):∀(k b:Nat) (S:Aq),(k≠0->G3 B t z)->((yL B t k b S).2.length:Int)<=Bc S+k*z
 |0,_,_,_=>by simp[yL]
 |k+1,b,S,h=>by
  have a:=h oa;have f:=a b S;have e:((k+1:Nat):Int)*z=k*z+z:=by rw[show((k+1:Nat):Int)=k+1 by omega,Int.add_mul,Int.one_mul]
  have d:0<=(k:Int)*z:=CQ oa c;simp only[yL];split;omega;have g:=QB c k (B t b S).1 (B t b S).2 (λ_=>a);omega
theorem zgO {t:Tree}{h:Nat}{z:Int}(a:G3 B t z)(S:Aq):((xX B t h S).2.length:Int)<=Bc S+z+1:=by have b:=a (Bc S) (S++[zy 0 h]);simp only[xX,Ct,AO,BH,Cc] at b ⊢;omega
end
theorem Dl:∀{zs:Ar},(∀z∈zs,0<=z)->0<=zs.sum
 | [],_=>ov
 |z :: r,h=>by
  have b:=h z (A8 ..);have:=Dl (zs:=r) (λy a=>h y (Bm _ a));simp only[Ll];omega
theorem zfD:∀{zs:Ar},(∀z∈zs,0<=z)->∀y∈zs,y<=zs.sum
 | [],_,y,a=>by cases a
 |z :: r,h,y,a=>by
  have b:∀y∈r,0<=y:=λy a=>h y (Bm _ a);have c:=h z (A8 ..);have d:=Dl b;simp only[Ll];obtain rfl|a:=BZ.1 a;omega;have:=zfD b y a;omega
theorem KU:∀{f:Nat} {T:Tree},WF f T->yI f T<=300->G3 (AH f) T (yI f T)
 |0,_,a,_=>a.elim
 |f+1,T,a,F=>by
  intro h S;have key:T.kind=5\/T.kind=6->∀z∈T.kids.map (yI f),0<=z:=λb z d=>by obtain⟨t,o,rfl⟩:=Cf.1 d;exact KT (a.2.1 b t o)
  have kids:(T.kind=5\/T.kind=6)->xu 0 (T.kids.map (yI f))<=300->xu 0 (T.kids.map (yI f))=(T.kids.map (yI f)).sum/\∀t∈T.kids,G3 (AH f) t (yI f t):=by intro b P;have e:=zcs _ 0 (key b) oa oa P;rw[Int.zero_add] at e;refine⟨e,λt o=>KU (a.2.1 b t o) ?_⟩;have:=zfD (key b) _ (Im (f:=yI f) o);omega
  unfold AH;by_cases u:T.kind=0;rw[IN u];have e:yI (f+1) T=1:=(by unfold yI;rw[iN oa,iN oa,iN oa]);rw[e];simp;rw[iN u];by_cases c:T.kind=5
  .rw[IN c];have e:yI (f+1) T=min (xu 0 (T.kids.map (yI f))+Bc T.kids-1) 301:=(by conv=>lhs;unfold yI;rw[IN c]);have L:=a.1 c;cases b:T.kids with
   |nil=>exact absurd b L
   |cons t w=>
    have ac:Bc T.kids=Bc w+1:=(by rw[b];rfl);have⟨p,j⟩:=kids (Q c) oa;rw[b] at p j;have s:=j t (A8 ..) h S;have i:=Ko (h:=h) (z:=yI f) w (AH f t h S).1 (AH f t h S).2 (λy r=>j y (Bm _ r));rw[b] at e;simp only[List.map_cons,Ll,BH] at p e;simp only;omega
  rw[iN c];by_cases g:T.kind=6
  .rw[IN g];have e:yI (f+1) T=xu 0 (T.kids.map (yI f)):=(by conv=>lhs;unfold yI;rw[iN c,IN g]);have⟨p,j⟩:=kids (O g) oa;have i:=zct (z:=yI f) T.kids.reverse h S (λy r=>j y (List.mem_reverse.1 r));rw[List.map_reverse,List.sum_reverse] at i;omega
  rw[iN g];by_cases k:T.kind=7
  .rw[IN k];have e:yI (f+1) T=min (kF (yI f T.kid) T.a T.b) 301:=(by conv=>lhs;unfold yI;rw[iN c,iN g,IN k]);have⟨q,x,hb⟩:=a.2.2 k;have d:=KT q;have m:=F;rw[e] at m ⊢;have N:min (kF (yI f T.kid) T.a T.b) 301=kF (yI f T.kid) T.a T.b:=oa;rw[N] at m ⊢;unfold kF at m ⊢;generalize v:yI f T.kid=z at *;by_cases n:T.b = -1
   ·(rw[IN n] at m ⊢;rw[IN n];have W:z<=300:=by have:1*z<=max T.a 1*z:=Lr oa d;omega);have l:G3 (AH f) T.kid z:=(by rw[<-v];exact KU q oa);have s:=zgO (h:=h) l S;by_cases B:T.a=0
    grind
    rw[iN B];have i:=QB d (T.a-1).toNat (xX (AH f) T.kid h S).1 (xX (AH f) T.kid h S).2 (λ_=>l);rw[show((T.a-1).toNat:Int)=T.a-1 by omega,Int.sub_mul,Int.one_mul] at i;rw[show max T.a 1=T.a by omega];omega
   (rw[iN n] at m ⊢;rw[iN n];have X:T.a<=T.b:=oa;have p1:0<=T.a*z:=CQ x d;have p2:0<=(T.b-T.a)*(z+1):=CQ oa oa;have l:0<T.b->G3 (AH f) T.kid z:=λhp=>by (have W:z<=300:=by by_cases hl:T.a=0;have:1*(z+1)<=(T.b-T.a)*(z+1):=Lr oa oa;omega;have:1*z<=T.a*z:=Lr oa d;omega);rw[<-v];exact KU q oa);have s:=zcu (h:=h) (z:=z) (T.b-T.a).toNat h S (λb=>l oa);have i:=QB d T.a.toNat (vH (AH f) T.kid h (T.b-T.a).toNat h S).1 (vH (AH f) T.kid h (T.b-T.a).toNat h S).2 (λb=>l oa);rw[show((T.b-T.a).toNat:Int)=T.b-T.a by omega] at s;rw[show(T.a.toNat:Int)=T.a by omega] at i;omega
  rw[iN k];have e:yI (f+1) T=1:=(by unfold yI;rw[iN c,iN g,iN k]);rw[e];simp
end Sm
namespace Sm
def Adds (B:Tree->Nat->Aq->Nat×Aq):Prop:=∀t h S,Bc S<=(B t h S).2.length
theorem wF {B:Tree->Nat->Aq->Nat×Aq}(c:Adds B){h:Nat}:∀(a:Au) (b:Nat) (S:Aq),Bc S<=(xh B h a b S).2.length
 | [],_,_=>AD _
 |t :: a,b,S=>by
  have e:=c t h S;have d:=wF c (h:=h) a (B t h S).2.length ((B t h S).2++[zy b (B t h S).1]);simp only[AO,Ce] at d;show _<=(xh B h a (B t h S).2.length ((B t h S).2++[zy b (B t h S).1])).2.length;omega
theorem JR {B:Tree->Nat->Aq->Nat×Aq}(c:Adds B):∀(a:Au) (b:Nat) (S:Aq),Bc S<=(Zh B a b S).2.length
 | [],_,_=>AD _
 |t :: a,b,S=>AP (c t b S) (JR c a (B t b S).1 (B t b S).2)
theorem XY {B:Tree->Nat->Aq->Nat×Aq}(a:Adds B){t:Tree}{h:Nat}:∀(k b:Nat) (S:Aq),Bc S<=(vH B t h k b S).2.length
 |0,_,_=>AD _
 |k+1,b,S=>by
  have d:=a t b S;have c:=XY a (t:=t) (h:=h) k (B t b S).2.length ((B t b S).2++[zy (B t b S).1 h]);simp only[AO,Ce] at c;show _<=(vH B t h k (B t b S).2.length ((B t b S).2++[zy (B t b S).1 h])).2.length;omega
theorem ku {B:Tree->Nat->Aq->Nat×Aq}(c:Adds B){t:Tree}:∀(k b:Nat) (S:Aq),Bc S<=(yL B t k b S).2.length
 |0,_,_=>AD _
 |k+1,b,S=>by
  have a:=c t b S;simp only[yL];split;exact a;exact AP a (ku c k (B t b S).1 (B t b S).2)
theorem Yx {B:Tree->Nat->Aq->Nat×Aq}(b:Adds B){t:Tree}{h:Nat}(S:Aq):Bc S<(xX B t h S).2.length:=by have a:=b t (Bc S) (S++[zy 0 h]);simp only[AO,Ce] at a;simp only[xX,Ct];omega
theorem xm:∀f,Adds (AH f)
 |0,_,_,_=>AD _
 |f+1,T,h,S=>by
  have a:=xm f;simp only[AH];split;simp;split;split;exact AD _;rename_i t b _;exact AP (a t h S) (wF a b _ _);split;exact JR a _ _ _;split;split;split;exact Nat.le_of_lt (Yx a S);exact AP (Nat.le_of_lt (Yx a (t:=T.kid) (h:=h) S)) (ku a _ _ _);exact AP (XY a _ _ _) (ku a _ _ _);simp
def CN (B:Tree->Nat->Aq->Nat×Aq):Prop:=∀t h S k,k<Bc S->(B t h S).2[k]?=S[k]?
theorem Kp {B:Tree->Nat->Aq->Nat×Aq}(c:Adds B)(d:CN B){h:Nat}:∀(a:Au) (b:Nat) (S:Aq) (k:Nat),k<Bc S->(xh B h a b S).2[k]?=S[k]?
 | [],_,_,_,_=>rfl
 |t :: a,b,S,k,e=>by
  have f:=c t h S;show(xh B h a (B t h S).2.length ((B t h S).2++[zy b (B t h S).1])).2[k]?=_;rw[Kp c d a _ _ k ou,BG oa,d t h S k e]
theorem zcv {B:Tree->Nat->Aq->Nat×Aq}(c:Adds B)(d:CN B):∀(a:Au) (b:Nat) (S:Aq) (k:Nat),k<Bc S->(Zh B a b S).2[k]?=S[k]?
 | [],_,_,_,_=>rfl
 |t :: a,b,S,k,e=>by
  show(Zh B a (B t b S).1 (B t b S).2).2[k]?=_;rw[zcv c d a _ _ k (AM e (c t b S)),d t b S k e]
theorem zcw {B:Tree->Nat->Aq->Nat×Aq}(a:Adds B)(c:CN B){t:Tree}{h:Nat}:∀(m b:Nat) (S:Aq) (k:Nat),k<Bc S->(vH B t h m b S).2[k]?=S[k]?
 |0,_,_,_,_=>rfl
 |m+1,b,S,k,d=>by
  have e:=a t b S;show(vH B t h m (B t b S).2.length ((B t b S).2++[zy (B t b S).1 h])).2[k]?=_;rw[zcw a c m _ _ k ou,BG oa,c t b S k d]
theorem QC {B:Tree->Nat->Aq->Nat×Aq}(d:Adds B)(a:CN B){t:Tree}:∀(m b:Nat) (S:Aq) (k:Nat),k<Bc S->(yL B t m b S).2[k]?=S[k]?
 |0,_,_,_,_=>rfl
 |m+1,b,S,k,c=>by
  simp only[yL];split;exact a t b S k c;rw[QC d a m _ _ k (AM c (d t b S)),a t b S k c]
theorem zaj {B:Tree->Nat->Aq->Nat×Aq}(_c:Adds B)(a:CN B){t:Tree}{h:Nat}(S:Aq)(k:Nat)(b:k<Bc S):(xX B t h S).2[k]?=S[k]?:=by simp only[xX];rw[FW oa,a t _ _ k ou,BG b]
theorem zfE:∀f,CN (AH f)
 |0,_,_,_,_,_=>rfl
 |f+1,T,h,S,k,a=>by
  have c:=zfE f;have b:=xm f;simp only[AH];split;exact BG a;split;split;rfl;rename_i t d _;rw[Kp b c d _ _ k (AM a (b t h S)),c t h S k a];split;exact zcv b c _ _ _ k a;split;split;split;exact zaj b c S k a;rw[QC b c _ _ _ k (Nat.lt_trans a (Yx b S)),zaj b c S k a];rw[QC b c _ _ _ k (AM a (XY b _ _ _)),zcw b c _ _ _ k a];exact BG a
def wW (B:Tree->Nat->Aq->Nat×Aq):Prop:=∀t h S,h<Bc S->(B t h S).1<(B t h S).2.length
theorem Xh {B:Tree->Nat->Aq->Nat×Aq}(c:Adds B)(_e:wW B){h:Nat}:∀(a:Au) (b:Nat) (S:Aq),h<Bc S->b<Bc S->(xh B h a b S).1<(xh B h a b S).2.length
 | [],_,_,_,d=>d
 |t :: a,b,S,g,d=>by
  have f:=c t h S;exact Xh c _e (h:=h) a (B t h S).2.length ((B t h S).2++[zy b (B t h S).1]) ou ov
theorem Kq {B:Tree->Nat->Aq->Nat×Aq}(_e:Adds B)(d:wW B):∀(a:Au) (b:Nat) (S:Aq),b<Bc S->(Zh B a b S).1<(Zh B a b S).2.length
 | [],_,_,c=>c
 |t :: a,b,S,c=>Kq _e d a (B t b S).1 (B t b S).2 (d t b S c)
theorem Zx {B:Tree->Nat->Aq->Nat×Aq}(_c:Adds B)(_d:wW B){t:Tree}{h:Nat}:∀(k b:Nat) (S:Aq),b<Bc S->(vH B t h k b S).1<(vH B t h k b S).2.length
 |0,_,_,a=>a
 |k+1,b,S,a=>Zx _c _d k (B t b S).2.length ((B t b S).2++[zy (B t b S).1 h]) ov
theorem ZI {B:Tree->Nat->Aq->Nat×Aq}(_e:Adds B)(d:wW B){t:Tree}:∀(k b:Nat) (S:Aq),b<Bc S->(yL B t k b S).1<(yL B t k b S).2.length
 |0,_,_,a=>a
 |k+1,b,S,a=>by
  have c:=d t b S a;simp only[yL];split;exact c;exact ZI _e d k (B t b S).1 (B t b S).2 c
theorem Q4 {B:Tree->Nat->Aq->Nat×Aq}(_c:Adds B)(b:wW B){t:Tree}{h:Nat}(S:Aq):(xX B t h S).1<(xX B t h S).2.length:=by have a:=b t (Bc S) (S++[zy 0 h]) ov;simp only[xX,Ct];exact a
theorem jE:∀f,wW (AH f)
 |0,_,_,_,a=>a
 |f+1,T,h,S,d=>by
  have c:=jE f;have b:=xm f;simp only[AH];split;simp;split;split;exact d;rename_i t e _;have:=b t h S;exact Xh b c e _ _ oa (c t h S d);split;exact Kq b c _ _ _ d;split;split;split;exact Yx b S;exact ZI b c _ _ _ (Q4 b c S);exact ZI b c _ _ _ (Zx b c _ _ _ d);simp
end Sm
namespace Sm
def kh (S:Aq):Prop:=∀s∈S,s.next<Bc S/\s.other<Bc S
theorem kh.snoc {S:Aq}{x:Stp}(h:kh S)(b:x.next<Bc S+1)(c:x.other<Bc S+1):kh (S++[x]):=λs a=>by
 simp only[AO,Ce];obtain a|a:=A7.1 a;have:=h s a;omega
 grind
def Fits (B:Tree->Nat->Aq->Nat×Aq):Prop:=∀t h S,h<Bc S->kh S->kh (B t h S).2
theorem Q5 {B:Tree->Nat->Aq->Nat×Aq}(d:Adds B)(e:wW B)(f:Fits B){h:Nat}:∀(c:Au) (b:Nat) (S:Aq),h<Bc S->b<Bc S->kh S->kh (xh B h c b S).2
 | [],_,_,_,_,a=>a
 |t :: c,b,S,g,k,a=>by
  have i:=d t h S;have j:=e t h S g;exact Q5 d e f (h:=h) c (B t h S).2.length ((B t h S).2++[zy b (B t h S).1]) ou ov ((f t h S g a).snoc (by simp only[zy];omega) (by simp only[zy];omega))
theorem zak {B:Tree->Nat->Aq->Nat×Aq}(_f:Adds B)(c:wW B)(d:Fits B):∀(a:Au) (b:Nat) (S:Aq),b<Bc S->kh S->kh (Zh B a b S).2
 | [],_,_,_,h=>h
 |t :: a,b,S,e,h=>zak _f c d a (B t b S).1 (B t b S).2 (c t b S e) (d t b S e h)
theorem zal {B:Tree->Nat->Aq->Nat×Aq}(c:Adds B)(d:wW B)(e:Fits B){t:Tree}{h:Nat}:∀(k b:Nat) (S:Aq),h<Bc S->b<Bc S->kh S->kh (vH B t h k b S).2
 |0,_,_,_,_,a=>a
 |k+1,b,S,j,f,a=>by
  have g:=c t b S;have i:=d t b S f;exact zal c d e k (B t b S).2.length ((B t b S).2++[zy (B t b S).1 h]) ou ov ((e t b S f a).snoc (by simp only[zy];omega) (by simp only[zy];omega))
theorem Xi {B:Tree->Nat->Aq->Nat×Aq}(_f:Adds B)(c:wW B)(d:Fits B){t:Tree}:∀(k b:Nat) (S:Aq),b<Bc S->kh S->kh (yL B t k b S).2
 |0,_,_,_,h=>h
 |k+1,b,S,e,h=>by
  have g:=c t b S e;have a:=d t b S e h;simp only[yL];split;exact a;exact Xi _f c d k (B t b S).1 (B t b S).2 g a
theorem VJ {B:Tree->Nat->Aq->Nat×Aq}(f:Adds B)(g:wW B)(i:Fits B){t:Tree}{h:Nat}(S:Aq)(j:h<Bc S)(a:kh S):kh (xX B t h S).2:=by have c:=g t (Bc S) (S++[zy 0 h]) ov;have d:=i t (Bc S) (S++[zy 0 h]) ov (a.snoc (by simp[zy]) (by simp only[zy];omega));have e:=f t (Bc S) (S++[zy 0 h]);simp only[AO,Ce] at e;intro s b;simp only[xX,Ct] at b ⊢;obtain b|rfl:=M3 b;exact d s b;exact⟨c,show h<_ by omega⟩
theorem zcx:∀f,Fits (AH f)
 |0,_,_,_,_,a=>a
 |f+1,T,h,S,c,a=>by
  have d:=zcx f;have is:=jE f;have b:=xm f;simp only[AH];split;exact a.snoc (by simp only[tester];omega) (by simp[tester]);split;split;exact a;rename_i t e _;have:=b t h S;exact Q5 b is d e _ _ oa (is t h S c) (d t h S c a);split;exact zak b is d _ _ _ c a;split;split;split;exact VJ b is d S c a;exact Xi b is d _ _ _ (Q4 b is S) (VJ b is d S c a);exact Xi b is d _ _ _ (Zx b is _ _ _ c) (zal b is d _ _ _ c c a);exact a.snoc (by simp only[taker];omega) (by simp[taker])
end Sm
end
