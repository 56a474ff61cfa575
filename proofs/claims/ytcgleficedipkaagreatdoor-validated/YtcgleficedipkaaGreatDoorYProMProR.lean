/- The program's classes in memory; a range read into one. -/
import Derived.Test.YtcgleficedipkaaGreatDoorYProAProL
import Derived.Test.YtcgleficedipkaaGreatDoorYRefQRefT
namespace Go.Proofs.YtcgleficedipkaaGreatDoor
open Option renaming none->U,some->I
open Value renaming int->M,bool->C,pointer->Ua,string->Uc,iface->Ud,tuple->Ue,agg->Uf,nilIface->Ui
open IntKind renaming i64->J,i32->Ug
open Bool renaming false->Z,true->G
open _root_.Go.Proofs.Tryz renaming prog->V
open Go renaming World->E,Value->Y,Calls->Uh
open Go.RowKit renaming Hid->H
open Or renaming inr->O,inl->Q
open Obj renaming cells->Ub
open Go.Instr renaming typeAssert->Uk
open Pro
open _root_.Go.Proofs.Tryz
variable {w W c:World}{rb:Nat}(w0:World)(b:Nat){L:List (Int×Int)}{n:Nat}{T:Int}(dp:Int)(a:Nat->Addr){cb:Nat}(v:Value){neg:Bool}{R:List (Int×Int)}{S:List Int}{v1 v2 j p:Value}{l m:Int}
section
open Go.RowKit
set_option maxHeartbeats 2000000
set_option maxRecDepth 1000000
def rangeCells:List (Int×Int)->List Y
 | []=>[]
 |(a,b) :: r=>M Ug a :: M Ug b :: rangeCells r
theorem wW:∀(l r:List (Int×Int)),rangeCells (l++r)=rangeCells l++rangeCells r
 | [],r=>rfl
 |(a,b) :: l,r=>by simp only[zhf,rangeCells,wW l r]
def jE (l:List Int):List Y:=l.map (M Ug)
structure yW (w:E)(cb:Nat)(neg:Bool)(R:List (Int×Int))(S:List Int)(v1 v2:Y):Prop where
 k0:w.cell? ⟨cb,0,U⟩=I (C neg)
 k1:w.cell? ⟨cb,1,U⟩=I v1
 k2:w.cell? ⟨cb,2,U⟩=I v2
 o1:w.ownsRow (cb+1) 373 2 v1 R.length (rangeCells R)
 o2:w.ownsRow (cb+1) 248 1 v2 S.length (jE S)
 f1:w.frozen? ⟨cb,1,U⟩=Z
 f2:w.frozen? ⟨cb,2,U⟩=Z
theorem yW.lt (h:yW w cb neg R S v1 v2):cb<w.heap.size:=zgF w ⟨cb,0,U⟩ h.k0
theorem yW.keep {P:Nat->Prop}{w c:E}{cb:Nat}{neg:Bool}{R:List (Int×Int)}{S:List Int}{v1 v2:Y}(h:yW w cb neg R S v1 v2)(k:zf P w c)(a:∀g,cb<=g->¬P g):yW c cb neg R S v1 v2:=
 ⟨(k.cell (p:=⟨cb,0,U⟩) h.lt (a _ (zgH _))).trans h.k0,(k.cell (p:=⟨cb,1,U⟩) h.lt (a _ (zgH _))).trans h.k1,(k.cell (p:=⟨cb,2,U⟩) h.lt (a _ (zgH _))).trans h.k2,
  zl h.o1 k (λg b=>a g (by have:=(zh h.o1 g b).1;omega)),zl h.o2 k (λg b=>a g (by have:=(zh h.o2 g b).1;omega)),
  (k.frozen (p:=⟨cb,1,U⟩) h.lt (a _ (zgH _))).trans h.f1,(k.frozen (p:=⟨cb,2,U⟩) h.lt (a _ (zgH _))).trans h.f2⟩
theorem Tryz.infoRange:(prog.info? 373).map (λi=>(i.zero,i.size,i.bytes))=I (I (Uf #[M Ug 0,M Ug 0]),2,8):=om
theorem Tryz.infoShort:(prog.info? 248).map (λi=>(i.zero,i.size,i.bytes))=I (I (M Ug 0),1,4):=om
theorem Tryz.isChar (w:E):(Uk (Ud 247 v) 99 247 G).run V w=.ok (Ue #[v,C G]) w:=om
theorem Tryz.notChar (w:E):(Uk (Ud 248 v) 99 247 G).run V w=.ok (Ue #[M Ug 0,C Z]) w:=om
theorem Tryz.isMany (w:E):(Uk (Ud 248 v) 99 248 G).run V w=.ok (Ue #[v,C G]) w:=om
theorem Trk.join {w0 w c:E}{b:Nat}{L:List (Int×Int)}{n m:Nat}{T dp:Int}{a:Nat->Addr}(t:Trk cb w0 b L n T dp a w)(d:Trk w.heap.size w b L m T dp a c):Trk cb w0 b L m T dp a c:=t.mine (Own.to d.on) d.rd
theorem yW.step {w c:E}{b:Nat}{L:List (Int×Int)}{m:Nat}{T dp:Int}{a:Nat->Addr}{neg:Bool}{R:List (Int×Int)}{S:List Int}{v1 v2:Y}(h:yW w cb neg R S v1 v2)(f:b<cb)(d:Trk w.heap.size w b L m T dp a c):yW c cb neg R S v1 v2:=
 h.keep (Own.to d.on) (λg i e=>by unfold zt at e;omega)
theorem Trk.push {w0 w c:E}{b:Nat}{L:List (Int×Int)}{n:Nat}{T dp:Int}{a:Nat->Addr}(t:Trk cb w0 b L n T dp a w)(k:zf (λg=>cb<=g) w c):Trk cb w0 b L n T dp a c:=
 have d:=t.hb;have e:=t.lt
 ⟨t.rd.keep k (by show ¬cb<=b;omega) (λg f=>by show ¬cb<=g;omega),t.se.keep k (λj i=>by show ¬cb<=j;omega),t.on.trans (k.mono (λ_ _ h=>O h)),d,e,t.le⟩
theorem yW.push1 {x y:Int}(h:yW w cb neg R S v1 v2)(r:ziE w W)(_u:W.ownsRow (cb+1) 373 2 v1 R.length (rangeCells R))(s:W.grownBy c v1.ownBlock)(l:c.ownsRow (cb+1) 373 2 j (R.length+1) (rangeCells R++[M Ug x,M Ug y])):yW (c.setCell ⟨cb,1,U⟩ j) cb neg (R++[(x,y)]) S j v2/\zf (λg=>cb<=g) w (c.setCell ⟨cb,1,U⟩ j):=by
 have b:=h.lt;have k:zf (λg=>v1.ownBlock=I g) w c:=(r.mono (λ_ _ f=>f.elim)).trans (zf.ofGrown s);have d:¬(v1.ownBlock=I cb):=λe=>by have:=(zh h.o1 cb e).1;omega
 have n:=(k.cell (p:=⟨cb,0,U⟩) b d).trans h.k0;have c1:=(k.cell (p:=⟨cb,1,U⟩) b d).trans h.k1;have o:=(k.cell (p:=⟨cb,2,U⟩) b d).trans h.k2;have f1:=(k.frozen (p:=⟨cb,1,U⟩) b d).trans h.f1;have q:=(k.frozen (p:=⟨cb,2,U⟩) b d).trans h.f2;have i:zf (λg=>g=cb) c (c.setCell ⟨cb,1,U⟩ j):=(zf.refl (λg=>g=cb) c).setCell (p:=⟨cb,1,U⟩) (Q rfl) j;have m:c.ownsRow (cb+1) 248 1 v2 S.length (jE S):=zl h.o2 k (λg a t=>K7 h.o2 h.o1 od g a t);refine⟨⟨(zgI _ _ _ _ ov).trans n,zgL _ _ _ c1,(zgI _ _ _ _ ov).trans o,?_,?_,(zk _ _ _ _).trans f1,(zk _ _ _ _).trans q⟩,?_⟩;rw[wW,zgK];exact zl l i (λg a e=>by have:=(zh l g a).1;omega);exact zl m i (λg a e=>by have:=(zh m g a).1;omega);exact(k.mono (λg _ e=>by have:=(zh h.o1 g e).1;show cb<=g;omega)).trans (i.mono (λg _ e=>by show cb<=g;omega))
theorem yW.push2 {x:Int}(h:yW w cb neg R S v1 v2)(r:ziE w W)(_u:W.ownsRow (cb+1) 248 1 v2 S.length (jE S))(s:W.grownBy c v2.ownBlock)(l:c.ownsRow (cb+1) 248 1 j (S.length+1) (jE S++[M Ug x])):yW (c.setCell ⟨cb,2,U⟩ j) cb neg R (S++[x]) v1 j/\zf (λg=>cb<=g) w (c.setCell ⟨cb,2,U⟩ j):=by
 have b:=h.lt;have k:zf (λg=>v2.ownBlock=I g) w c:=(r.mono (λ_ _ f=>f.elim)).trans (zf.ofGrown s);have d:¬(v2.ownBlock=I cb):=λe=>by have:=(zh h.o2 cb e).1;omega
 have n:=(k.cell (p:=⟨cb,0,U⟩) b d).trans h.k0;have c1:=(k.cell (p:=⟨cb,1,U⟩) b d).trans h.k1;have o:=(k.cell (p:=⟨cb,2,U⟩) b d).trans h.k2;have f1:=(k.frozen (p:=⟨cb,1,U⟩) b d).trans h.f1;have q:=(k.frozen (p:=⟨cb,2,U⟩) b d).trans h.f2;have i:zf (λg=>g=cb) c (c.setCell ⟨cb,2,U⟩ j):=(zf.refl (λg=>g=cb) c).setCell (p:=⟨cb,2,U⟩) (Q rfl) j;have m:c.ownsRow (cb+1) 373 2 v1 R.length (rangeCells R):=zl h.o1 k (λg a t=>K7 h.o1 h.o2 od g a t);refine⟨⟨(zgI _ _ _ _ ov).trans n,(zgI _ _ _ _ ov).trans c1,zgL _ _ _ o,?_,?_,(zk _ _ _ _).trans f1,(zk _ _ _ _).trans q⟩,?_⟩;exact zl m i (λg a e=>by have:=(zh m g a).1;omega);unfold jE at l ⊢;rw[zhO,zgK];exact zl l i (λg a e=>by have:=(zh l g a).1;omega);exact(k.mono (λg _ e=>by have:=(zh h.o2 g e).1;show cb<=g;omega)).trans (i.mono (λg _ e=>by show cb<=g;omega))
theorem yW.cells {o:Option Nat}(h:yW w cb neg R S v1 v2)(d:ziE w W)(e:W.grownBy c o)(b:¬(o=I cb)):c.cell? ⟨cb,1,U⟩=I v1/\c.cell? ⟨cb,2,U⟩=I v2/\c.frozen? ⟨cb,1,U⟩=Z/\c.frozen? ⟨cb,2,U⟩=Z:=by have a:=h.lt;have k:zf (λg=>o=I g) w c:=(d.mono (λ_ _ f=>f.elim)).trans (zf.ofGrown e);exact⟨(k.cell (p:=⟨cb,1,U⟩) a b).trans h.k1,(k.cell (p:=⟨cb,2,U⟩) a b).trans h.k2,(k.frozen (p:=⟨cb,1,U⟩) a b).trans h.f1,(k.frozen (p:=⟨cb,2,U⟩) a b).trans h.f2⟩
theorem yW.n1 (h:yW w cb neg R S v1 v2):¬(v1.ownBlock=I cb):=λe=>by have:=(zh h.o1 cb e).1;omega
theorem yW.n2 (h:yW w cb neg R S v1 v2):¬(v2.ownBlock=I cb):=λe=>by have:=(zh h.o2 cb e).1;omega
def Adds (b:Nat)(L:List (Int×Int))(T dp:Int)(a:Nat->Addr)(cb:Nat)(w0:E)(o:Pro.Out)(neg:Bool)(R:List (Int×Int))(S:List Int)(x:Ending)(c:E):Prop:=
 Trk cb w0 b L o.n T dp a c/\((o.k=0/\x=.returned Ui/\∃v1 v2,yW c cb neg R S v1 v2)\/(o.k≠0/\∃v,x=.returned v/\zN c w0.heap.size v (yj a o.k) o.p))
namespace Pro
theorem Xl (h:jN L n=G):zj L n=45/\zj L (n+1)≠93/\zj L (n+1)≠-1:=by unfold jN at h;simpa [and_assoc] using h
theorem QD (h:zj L n≠-1):n<L.length:=by by_cases a:n<L.length;exact a;exact absurd (xZ oa) h
end Pro
variable (L n T cb)
theorem zag (w0 w:E)(neg:Bool)(R:List (Int×Int))(S:List Int)(v1 v2:Y)(m:Bool)(c:Int)(t:Trk cb w0 b L n T dp a w)(z:yW w cb neg R S v1 v2)(i:L.length<=400)(hd:jN L n=G)(y:Pro.Fit L)(hR:R.length<=400):Uh V 278 #[Ua (I ⟨b,0,U⟩),Ua (I ⟨cb,0,U⟩),oneV m c] w (Adds b L T dp a cb w0 (xU L T m c n) neg (R++[(c,(zp L T (n+1)).v)]) S):=by
 obtain⟨i0,hi,ax,ay,az⟩:=info_parts Tryz.infoRange;have ai:=Xl hd;have aH:n+1<L.length:=QD ai.2.2;clear hd ai;have u:=ze t;have d:=ze (Trk.start t.rd t.se t.hb);have F:=t.on.size;have an:=t.lt;have c1:=t.c1;have f1:=t.f1;have HC:=ze z;have B:=t.se.s4;have aq:∀X:Y,X=oneV m c->Uh V 278 #[Ua (I ⟨b,0,U⟩),Ua (I ⟨cb,0,U⟩),X] w (Adds b L T dp a cb w0 (xU L T m c n) neg (R++[(c,(zp L T (n+1)).v)]) S):=by
  intro X s;by_cases l:(zp L T (n+1)).k=0
  .by_cases o:m=G\/many L (n+1)=G\/(zp L T (n+1)).v<c
   .have q:H (xU L T m c n=Pro.bad 4 (zC L T n) (zp L T (n+1)).n):=(by unfold xU;rw[iN (by simp[l]),IN o];rfl);clear t z;have ao:(X=Ud 248 (M Ug c))\/(X=Ud 247 (M Ug c)/\oneV (many L (n+1)) (zp L T (n+1)).v=Ud 248 (M Ug (zp L T (n+1)).v))\/
      (X=Ud 247 (M Ug c)/\oneV (many L (n+1)) (zp L T (n+1)).v=Ud 247 (M Ug (zp L T (n+1)).v)/\(zp L T (n+1)).v<c):=by
     cases m with
     |true=>left;exact s
     |false=>
      right;cases ac:many L (n+1) with
      |true=>left;exact⟨s,rfl⟩
      |false=>right;exact⟨s,rfl,by rw[ac] at o;simpa using o⟩
    clear o s;have a1:=Tryz.isChar;have a2:=Tryz.notChar;rcases ao with rfl|⟨rfl,N⟩|⟨rfl,N,aG⟩
    .cases ac:many L (n+1)
     .have N:oneV Z (zp L T (n+1)).v=Ud 247 (M Ug (zp L T (n+1)).v):=rfl;go_enter func278,ntmps278;go_wp2_with(first|(go_at_call 114;refine(qj (n:=n) (by exact d) i oa).mono ?_;rintro e h ⟨rfl,P,rfl⟩)|(go_at_call 276;refine(jD (n:=n+1) (by exact(d.drewN _).setN _ _ oa) (qm b L (n+1) T dp a _ (Trk.rd (n:=n+1) (by exact(d.drewN _).setN _ _ oa)) (Trk.se (n:=n+1) (by exact(d.drewN _).setN _ _ oa)) d.hb i oa y)).mono ?_;rintro e h ⟨f,g⟩;obtain rfl:=qi g l;clear g;have d:=ze f;have c1:=f.c1;have f1:=f.f1);(have B:=d.se.s4)|(go_at_call 45;refine(JB (n:=(zp L T (n+1)).n) _ 4 _ _ rfl (by exact d)).mono ?_;rintro e h ⟨v,rfl,p,f⟩;have d:=ze f;have c1:=f.c1;have f1:=f.f1));go_ret;rw[zb q];exact⟨u.join d,O ⟨(show(4:Nat)≠0 by decide),_,rfl,p.base F⟩⟩
     have N:oneV G (zp L T (n+1)).v=Ud 248 (M Ug (zp L T (n+1)).v):=rfl;go_enter func278,ntmps278;go_wp2_with(first|(go_at_call 114;refine(qj (n:=n) (by exact d) i oa).mono ?_;rintro e h ⟨rfl,P,rfl⟩)|(go_at_call 276;refine(jD (n:=n+1) (by exact(d.drewN _).setN _ _ oa) (qm b L (n+1) T dp a _ (Trk.rd (n:=n+1) (by exact(d.drewN _).setN _ _ oa)) (Trk.se (n:=n+1) (by exact(d.drewN _).setN _ _ oa)) d.hb i oa y)).mono ?_;rintro e h ⟨f,g⟩;obtain rfl:=qi g l;clear g;have d:=ze f;have c1:=f.c1;have f1:=f.f1);(have B:=d.se.s4)|(go_at_call 45;refine(JB (n:=(zp L T (n+1)).n) _ 4 _ _ rfl (by exact d)).mono ?_;rintro e h ⟨v,rfl,p,f⟩;have d:=ze f;have c1:=f.c1;have f1:=f.f1));go_ret;rw[zb q];exact⟨u.join d,O ⟨(show(4:Nat)≠0 by decide),_,rfl,p.base F⟩⟩
    all_goals
     go_enter func278,ntmps278;go_wp2_with(first|(go_at_call 114;refine(qj (n:=n) (by exact d) i oa).mono ?_;rintro e h ⟨rfl,P,rfl⟩)|(go_at_call 276;refine(jD (n:=n+1) (by exact(d.drewN _).setN _ _ oa) (qm b L (n+1) T dp a _ (Trk.rd (n:=n+1) (by exact(d.drewN _).setN _ _ oa)) (Trk.se (n:=n+1) (by exact(d.drewN _).setN _ _ oa)) d.hb i oa y)).mono ?_;rintro e h ⟨f,g⟩;obtain rfl:=qi g l;clear g;have d:=ze f;have c1:=f.c1;have f1:=f.f1);(have B:=d.se.s4)|(go_at_call 45;refine(JB (n:=(zp L T (n+1)).n) _ 4 _ _ rfl (by exact d)).mono ?_;rintro e h ⟨v,rfl,p,f⟩;have d:=ze f;have c1:=f.c1;have f1:=f.f1));go_ret;rw[zb q];exact⟨u.join d,O ⟨(show(4:Nat)≠0 by decide),_,rfl,p.base F⟩⟩
   have q:H (xU L T m c n=zp L T (n+1)):=(by unfold xU;rw[iN (by simp[l]),iN o];rfl);have av:m=Z:=(by cases m with|true=>exact absurd (Q rfl) o|false=>rfl);have ac:many L (n+1)=Z:=(by cases hh:many L (n+1) with|true=>exact absurd (O (Q hh)) o|false=>rfl);have aE:c<=(zp L T (n+1)).v:=(by by_cases hh:(zp L T (n+1)).v<c;exact absurd (O (O hh)) o;omega);subst av;have am:X=Ud 247 (M Ug c):=s;clear s;subst am;have N:oneV Z (zp L T (n+1)).v=Ud 247 (M Ug (zp L T (n+1)).v):=rfl;have a1:=Tryz.isChar;clear o t z;go_enter func278,ntmps278;go_wp2_with(first|(go_at_call 114;refine(qj (n:=n) (by exact d) i oa).mono ?_;rintro e h ⟨rfl,P,rfl⟩)|(go_at_call 276;refine(jD (n:=n+1) (by exact(d.drewN _).setN _ _ oa) (qm b L (n+1) T dp a _ (Trk.rd (n:=n+1) (by exact(d.drewN _).setN _ _ oa)) (Trk.se (n:=n+1) (by exact(d.drewN _).setN _ _ oa)) d.hb i oa y)).mono ?_;rintro e h ⟨f,g⟩;obtain rfl:=qi g l;clear g;have d:=ze f;have c1:=f.c1;have f1:=f.f1);(have r:=HC.step an d);(have k1:=r.k1);(have q1:=r.f1);(have ad:=r.o1);(obtain⟨sa,sn,sc,rfl⟩:=zr ad);(have aF:=r.lt);(have W:=ze r);(clear r);(have ag:=ze ad);(clear ad)|(at_builtin;refine wpList_append_own _ rfl _ _ 249 rfl (cb+1) 373 i0 (Uf #[M Ug 0,M Ug 0]) 2 8 underlying249 hi ax ay az rfl od _ _ _ rfl (zgO ag _) _ 1 1 [M Ug c,M Ug (zp L T (n+1)).v] rfl rfl (cell_two_new _ _ _ _) (λx hx=>by simp at hx;rcases hx with rfl|rfl<;>rfl) (by unfold maxLen;omega) oa ou ?_;intro j w8 ae aa aw;obtain⟨pa,pn,pc,rfl⟩:=zr ae;have ap:=W.cells ((zf.refl _ _).alloc _) aa W.n1;have HP:=ze (W.push1 ((zf.refl _ _).alloc _) (zgO ag _) aa ae);clear ae aa aw;obtain⟨z1,z2,z3,z4⟩:=ap));go_ret;rw[zb q];exact⟨(u.join d).push HP.2,Q ⟨l,rfl,_,_,HP.1⟩⟩
  have q:H (xU L T m c n=zp L T (n+1)):=(by unfold xU;rw[IN l];rfl);clear t z;go_enter func278,ntmps278;go_wp2_with(first|(go_at_call 114;refine(qj (n:=n) (by exact d) i oa).mono ?_;rintro e h ⟨rfl,P,rfl⟩)|(go_at_call 276;refine(jD (n:=n+1) (by exact(d.drewN _).setN _ _ oa) (qm b L (n+1) T dp a _ (Trk.rd (n:=n+1) (by exact(d.drewN _).setN _ _ oa)) (Trk.se (n:=n+1) (by exact(d.drewN _).setN _ _ oa)) d.hb i oa y)).mono ?_;rintro e h ⟨f,g⟩;obtain⟨v,rfl,p⟩:=Xi g l;obtain⟨gv,ar⟩:=p.form;subst ar;clear g;have d:=ze f;have c1:=f.c1;have f1:=f.f1);(have B:=d.se.s4)|(go_at_call 45;refine(JB (n:=(zp L T (n+1)).n) _ 4 _ _ rfl (by exact d)).mono ?_;rintro e h ⟨v,rfl,p,f⟩;have d:=ze f;have c1:=f.c1;have f1:=f.f1));go_ret;rw[zb q];exact⟨u.join d,O ⟨l,_,rfl,p.base F⟩⟩
 exact aq _ rfl
set_option maxHeartbeats 4000000
namespace Pro
def Zl (L:List (Int×Int))(T:Int)(n:Nat)(R:List (Int×Int)):List (Int×Int):=
 if jN L (zp L T n).n=G then R++[((zp L T n).v,(zp L T ((zp L T n).n+1)).v)]
 else if many L n=G then R else R++[((zp L T n).v,(zp L T n).v)]
def Zm (L:List (Int×Int))(T:Int)(n:Nat)(S:List Int):List Int:=
 if jN L (zp L T n).n=G then S else if many L n=G then S++[(zp L T n).v] else S
end Pro
theorem adds_ret {A B C:Prop}{D:Y->Prop}{x:Ending}(h:(A/\x=.returned Ui/\B)\/(C/\∃v,x=.returned v/\D v)):∃v,x=.returned v:=by grind
theorem XH (w0 w:E)(neg:Bool)(R:List (Int×Int))(S:List Int)(v1 v2:Y)(t:Trk cb w0 b L n T dp a w)(N:yW w cb neg R S v1 v2)(i:L.length<=400)(hn:n<L.length)(aX:(zp L T n).n<=450)(z:Pro.Fit L)(hR:R.length<=400)(hS:S.length<=400):Uh V 252 #[Ua (I ⟨b,0,U⟩),Ua (I ⟨cb,0,U⟩)] w (Adds b L T dp a cb w0 (qD L T n) neg (Zl L T n R) (Zm L T n S)):=by
 obtain⟨i0,hi,au,av,aw⟩:=info_parts Tryz.infoRange;obtain⟨j0,hj,ap,aq,ar⟩:=info_parts Tryz.infoShort;have F:=ze t;have c:=ze (Trk.start t.rd t.se t.hb);have an:=t.on.size;have aa:=t.lt;have P:=ze N;by_cases h:(zp L T n).k=0
 .cases hd:jN L (zp L T n).n
  .have r:H (qD L T n=zp L T n):=(by unfold qD;rw[iN (by simp[h]),iN (by simp[hd])];rfl);have a1:=Tryz.isChar;have a2:=Tryz.notChar;have a3:=Tryz.isMany;clear t N;cases hm:many L n
   .have u:H (Zl L T n R=R++[((zp L T n).v,(zp L T n).v)]):=(by unfold Zl;rw[hd,hm];rfl);have y:H (Zm L T n S=S):=(by unfold Zm;rw[hd,hm];rfl);have ao:oneV Z (zp L T n).v=Ud 247 (M Ug (zp L T n).v):=rfl;go_enter func252,ntmps252;go_wp2_with(first|(go_at_call 276;refine(jD (n:=n) (by exact c) (qm b L n T dp a _ (Trk.rd (n:=n) (by exact c)) (Trk.se (n:=n) (by exact c)) c.hb i oa z)).mono ?_;rintro e wq ⟨f,g⟩;obtain rfl:=qi g h;clear g;have c:=ze f;have c1:=f.c1;have f1:=f.f1);(have d:=P.step aa c);(have k1:=d.k1);(have k2:=d.k2);(have q1:=d.f1);(have q2:=d.f2);(have o:=d.o1);(have p:=d.o2);(obtain⟨sa,sn,sc,rfl⟩:=zr o);(obtain⟨ua,un,uc,rfl⟩:=zr p);(have am:=d.lt);(have l:=ze d);(clear d);(have W:=ze o);(clear o);(have X:=ze p);(clear p)|(go_at_call 277;refine ziD (YO b L (zp L T n).n T dp a _ _ _ (by exact c) i oa) ?_)|(at_builtin;refine wpList_append_own _ rfl _ _ 249 rfl (cb+1) 373 i0 (Uf #[M Ug 0,M Ug 0]) 2 8 underlying249 hi au av aw rfl od _ _ _ rfl (zgO W _) _ 1 1 [M Ug (zp L T n).v,M Ug (zp L T n).v] rfl rfl (cell_two_new _ _ _ _) (λx B=>by simp at B;rcases B with rfl|rfl<;>rfl) (by unfold maxLen;omega) oa ou ?_;intro j w8 q m ac;obtain⟨pa,pn,pc,rfl⟩:=zr q;have ab:=l.cells ((zf.refl _ _).alloc _) m l.n1;have s:=ze (l.push1 ((zf.refl _ _).alloc _) (zgO W _) m q);clear q m ac;obtain⟨z1,z2,z3,z4⟩:=ab));go_ret;rw[zb r,zb u,zb y];exact⟨(F.join c).push s.2,Q ⟨h,rfl,_,_,s.1⟩⟩
   have u:H (Zl L T n R=R):=(by unfold Zl;rw[hd,hm];rfl);have y:H (Zm L T n S=S++[(zp L T n).v]):=(by unfold Zm;rw[hd,hm];rfl);have ao:oneV G (zp L T n).v=Ud 248 (M Ug (zp L T n).v):=rfl;go_enter func252,ntmps252;go_wp2_with(first|(go_at_call 276;refine(jD (n:=n) (by exact c) (qm b L n T dp a _ (Trk.rd (n:=n) (by exact c)) (Trk.se (n:=n) (by exact c)) c.hb i oa z)).mono ?_;rintro e wq ⟨f,g⟩;obtain rfl:=qi g h;clear g;have c:=ze f;have c1:=f.c1;have f1:=f.f1);(have d:=P.step aa c);(have k1:=d.k1);(have k2:=d.k2);(have q1:=d.f1);(have q2:=d.f2);(have o:=d.o1);(have p:=d.o2);(obtain⟨sa,sn,sc,rfl⟩:=zr o);(obtain⟨ua,un,uc,rfl⟩:=zr p);(have am:=d.lt);(have l:=ze d);(clear d);(have W:=ze o);(clear o);(have X:=ze p);(clear p)|(go_at_call 277;refine ziD (YO b L (zp L T n).n T dp a _ _ _ (by exact c) i oa) ?_)|(at_builtin;refine wpList_append_own _ rfl _ _ 250 rfl (cb+1) 248 j0 (M Ug 0) 1 4 underlying250 hj ap aq ar rfl od _ _ _ rfl (zgO X _) _ 1 1 [M Ug (zp L T n).v] rfl rfl (cell_one_new _ _ _) (λx B=>by simp at B;subst B;rfl) (by unfold maxLen;omega) oa ou ?_;intro j w8 q m ac;obtain⟨pa,pn,pc,rfl⟩:=zr q;have ab:=l.cells ((zf.refl _ _).alloc _) m l.n2;have s:=ze (l.push2 ((zf.refl _ _).alloc _) (zgO X _) m q);clear q m ac;obtain⟨z1,z2,z3,z4⟩:=ab));go_ret;rw[zb r,zb u,zb y];exact⟨(F.join c).push s.2,Q ⟨h,rfl,_,_,s.1⟩⟩
  have r:H (qD L T n=xU L T (many L n) (zp L T n).v (zp L T n).n):=(by unfold qD;rw[iN (by simp[h]),IN hd];rfl);have u:H (Zl L T n R=R++[((zp L T n).v,(zp L T ((zp L T n).n+1)).v)]):=(by unfold Zl;rw[hd];rfl);have y:H (Zm L T n S=S):=(by unfold Zm;rw[hd];rfl);clear t N;go_enter func252,ntmps252;go_wp2_with(first|(go_at_call 276;refine(jD (n:=n) (by exact c) (qm b L n T dp a _ (Trk.rd (n:=n) (by exact c)) (Trk.se (n:=n) (by exact c)) c.hb i oa z)).mono ?_;rintro e wq ⟨f,g⟩;obtain rfl:=qi g h;clear g;have c:=ze f;have c1:=f.c1;have f1:=f.f1)|(go_at_call 277;refine ziD (YO b L (zp L T n).n T dp a _ _ _ (by exact c) i oa) ?_)|(go_at_call 278;refine(zag b L (zp L T n).n T dp a cb w0 _ neg R S _ _ (many L n) (zp L T n).v (F.join c) (P.step aa c) i hd z hR).mono ?_;intro e w9 HA;have ah:=ze HA;obtain⟨_,hA⟩:=HA;obtain⟨xv,rfl⟩:=adds_ret hA;clear hA));go_ret;rw[zb r,zb u,zb y];exact ah
 have r:H (qD L T n=zp L T n):=by unfold qD;rw[IN h];rfl
 clear t N;go_enter func252,ntmps252;go_wp2_with(go_at_call 276;refine(jD (n:=n) (by exact c) (qm b L n T dp a _ (Trk.rd (n:=n) (by exact c)) (Trk.se (n:=n) (by exact c)) c.hb i oa z)).mono ?_;rintro e wq ⟨f,g⟩;obtain⟨v,rfl,hv⟩:=Xi g h;obtain⟨gv,aj⟩:=hv.form;subst aj;clear g;have c:=ze f;have c1:=f.c1;have f1:=f.f1);go_ret;rw[zb r];exact⟨F.join c,O ⟨h,_,rfl,hv.base an⟩⟩
namespace Pro
section
variable {L:List (Int×Int)} {T:Int}
theorem zeroO_in (n:Nat)(h:n<=L.length):n<=(vJ L T n).n/\(vJ L T n).n<=L.length:=by rw[zeroO_n];omega
theorem zbH (n:Nat)(h:n<=L.length):n<=(xN L T n).n/\(xN L T n).n<=L.length:=by unfold xN;split;rename_i a;have:n<L.length:=zJ (by unfold letter at a;omega);simp only[good];omega;simp only[bad];omega
theorem KT:∀(f:Nat) (c:Int) (d n:Nat),n<=L.length->n<=(xH L T f c d n).n/\(xH L T f c d n).n<=L.length
 |0,c,d,n,h=>by simp only[xH,good];omega
 |f+1,c,d,n,h=>by
  by_cases a:0<d/\zj L n=125;rw[Zk a.1 a.2];have:n<L.length:=zJ oa;simp only[good];omega;by_cases b:hexV (zj L n)<0\/1114111<16*c+hexV (zj L n);rw[YK a b];simp only[bad];omega;rw[Z0 a b];have:n<L.length:=Qy oa;have:=KT f (16*c+hexV (zj L n)) (d+1) (n+1) oa;omega
theorem lowV_in (n:Nat)(h:0<=j6 L T n):n+6<=L.length:=by unfold j6 at h;split at h;rename_i a;have b:n+1<L.length:=zJ oa;have:=YL L T 4 0 (n+2) oa;have:=this.2.2 a.2.2.1;omega;omega
theorem zbI (n:Nat)(h:n<=L.length):n<=(ym L T n).n/\(ym L T n).n<=L.length:=by have b:=YL L T 4 0 n h;unfold ym;split;omega;split;rename_i a;have:=lowV_in _ a;simp only[good];omega;omega
theorem numO_in (n:Nat)(h:n<=L.length):n<=(vE L T n).n/\(vE L T n).n<=L.length:=by
 unfold vE;split
 .rename_i a;have:n<L.length:=by by_cases b:n<L.length;exact b;rw[xZ oa] at a;exact absurd a od
  simp only[good];omega
 split;have:n<L.length:=zJ oa;have:=zeroO_in (L:=L) (T:=T) (n+1) oa;omega;split;have:n<L.length:=zJ oa;have:=zbH (L:=L) (T:=T) (n+1) oa;omega;split;have:n<L.length:=zJ oa;have:=YL L T 2 0 (n+1) oa;omega;split;have:n+1<L.length:=zJ oa;have:=KT (L:=L) (T:=T) (L.length+1-(n+2)) 0 0 (n+2) oa;unfold ku;omega;split;have:n<L.length:=zJ oa;have:=zbI (L:=L) (T:=T) (n+1) oa;omega;simp only[bad];omega
theorem zah (n:Nat)(h:n<L.length):n<(xO L T n).n/\(xO L T n).n<=L.length:=by
 unfold xO;split
 .rename_i a;have:n+1<L.length:=by by_cases b:n+1<L.length;exact b;rw[xZ oa] at a;exact absurd a od
  simp only[good];omega
 split;simp only[bad];omega;have:=numO_in (L:=L) (T:=T) (n+1) oa;omega
theorem jQ (n:Nat)(h:n<L.length):n<(zp L T n).n/\(zp L T n).n<=L.length:=by unfold zp;split;have:n+1<L.length:=zJ oa;simp only[good];omega;split;have:n+1<L.length:=zJ oa;simp only[good];omega;split;exact zah n h;simp only[good];omega
theorem zfP (m:Bool)(c:Int)(n:Nat)(h:jN L n=G):n<(xU L T m c n).n/\(xU L T m c n).n<=L.length:=by have b:=Xl h;have a:n+1<L.length:=QD b.2.2;have:=jQ (L:=L) (T:=T) (n+1) a;unfold xU;split;omega;split;simp only[bad];omega;omega
theorem zer (n:Nat)(h:n<L.length):n<(qD L T n).n/\(qD L T n).n<=L.length:=by have:=jQ (L:=L) (T:=T) n h;unfold qD;split;omega;split;rename_i a;have:=zfP (T:=T) (many L n) (zp L T n).v _ a;omega;omega
theorem addR_len (n:Nat)(R:List (Int×Int)):(Zl L T n R).length<=R.length+1:=by unfold Zl;split;simp;split;omega;simp
theorem addS_len (n:Nat)(S:List Int):(Zm L T n S).length<=S.length+1:=by unfold Zm;split;omega;split;simp;omega
theorem Jc:∀(f n:Nat),n<=L.length->n<=(qS L T f n).n/\(qS L T f n).n<=L.length
 |0,n,h=>by simp only[qS,good];omega
 |f+1,n,h=>by
  simp only[qS];split;have:n<L.length:=zJ oa;simp only[good];omega;split;simp only[bad];omega;have:=zer (L:=L) (T:=T) n oa;split;omega;have:=Jc f (qD L T n).n oa;omega
end
end Pro
theorem YP {o:Pro.Out}{B:Prop}{D:Y->Prop}{x:Ending}(h:(o.k=0/\x=.returned Ui/\B)\/(o.k≠0/\∃v,x=.returned v/\D v))(a:o.k=0):x=.returned Ui/\B:=by grind
theorem zai {o:Pro.Out}{B:Prop}{D:Y->Prop}{x:Ending}(h:(o.k=0/\x=.returned Ui/\B)\/(o.k≠0/\∃v,x=.returned v/\D v))(a:o.k≠0):∃v,x=.returned v/\D v:=by grind
theorem Own.back {b cb:Nat}{w W c:E}(a:zf (zt b) w W)(d:zf (Own b cb) W c)(h:w.heap.size<=cb):zf (zt b) w c:=
 ⟨d.os.trans a.os,d.tape.trans a.tape,d.output.trans a.output,zgN a.size d.size,λk f g=>(d.block k (zgJ f a.size) (λe=>by
  rcases e with e|e;exact g e;omega)).trans (a.block k f g)⟩
namespace Pro
variable {L}
theorem countL_go {f n:Nat}{c:Int}(h:dig (zj L n)=G):countL L (f+1) c n=countL L f (min (c*10+(zj L n-48)) 101) (n+1):=by simp only[countL];rw[IN h]
theorem countL_stop {f n:Nat}{c:Int}(h:dig (zj L n)=Z):countL L (f+1) c n=(c,n):=by simp only[countL];rw[iN (by simp[h])]
theorem dig_in {n:Nat}(h:dig (zj L n)=G):n<L.length:=zJ (by unfold dig at h;simp at h;omega)
theorem Wb (L:List (Int×Int)):∀(f:Nat) (c:Int) (n:Nat),n<=L.length->0<=c->c<=101->n<=(countL L f c n).2/\(countL L f c n).2<=L.length/\0<=(countL L f c n).1/\(countL L f c n).1<=101
 |0,c,n,h,a,b=>by simp only[countL];omega
 |f+1,c,n,h,a,b=>by
  cases hd:dig (zj L n);rw[countL_stop hd];simp only[];omega;rw[countL_go hd];have:=dig_in hd;have d:48<=zj L n:=(by unfold dig at hd;simp at hd;omega);have:=Wb L f (min (c*10+(zj L n-48)) 101) (n+1) oa oa oa;omega
theorem jV {T:Int}(n:Nat)(h:n<=L.length):n<=(yx L T n).n/\(yx L T n).n<=L.length/\0<=(yx L T n).v/\(yx L T n).v<=100:=by have:=Wb L (L.length+1-n) 0 n h oa oa;unfold yx countP;split;simp only[bad];omega;split;simp only[bad];omega;simp only[good];omega
end Pro
theorem zdA (w:E)(h:yh w b L n T dp)(t:yt w a)(y:11<=b)(f:L.length<=400)(B:n<=L.length)(_N:Pro.Fit L):Uh V 255 #[Ua (I ⟨b,0,U⟩)] w (xE b L T dp a w (yx L T n) (M J (yx L T n).v) (M J 0)):=by
 have d:=ze (Trk.start h t y);clear h t;cases hd:dig (zj L n)
 .have i:H (yx L T n=Pro.bad 3 (zC L T n) n):=by unfold yx;rw[IN hd];rfl
  have k:(decide (48<=zj L n) && decide (zj L n<=57))=Z:=hd;go_enter func255,ntmps255;go_wp2_with(first|(go_at_call 114;refine(qj (n:=n) (by exact d) f oa).mono ?_;rintro e p ⟨rfl,o,rfl⟩)|(go_at_call 157;refine ziD (y8 (n:=n) (by exact d.drewN _) f oa) ?_)|(go_at_call 286;refine ziD (xw _ _) ?_);(rw[k])|(go_at_call 64;refine(QB (n:=n) (by exact d.drewN _) f oa).mono ?_;rintro e p ⟨v,rfl,l,g⟩;have d:=ze g;have c1:=g.c1;have f1:=g.f1));go_ret2;exact d.bad i od l
 have k:(decide (48<=zj L n) && decide (zj L n<=57))=G:=hd;go_enter func255,ntmps255;go_wp2_with(first|(go_at_call 114;refine(qj (n:=n) (by exact d) f oa).mono ?_;rintro e p ⟨rfl,o,rfl⟩)|(go_at_call 157;refine ziD (y8 (n:=n) (by exact d.drewN _) f oa) ?_)|(go_at_call 286;refine ziD (xw _ _) ?_);(rw[k]));have x:=ze (d.drewN o);generalize w.drewN o=w1 at *;go_loopw[5] (λc wr=>∃(q:Int) (m:Nat),c=M J q/\0<=q/\q<=101/\m<=L.length/\H (Trk w.heap.size w b L m T dp a wr)/\H (countP L n=Pro.countL L (L.length+1-m) q m)) (λ_ wr=>L.length-rdN wr b)
 exact⟨0,n,rfl,oa,oa,B,x,rfl⟩;obtain⟨q,m,rfl,X,aa,S,d,r⟩:=hrel;have F:=d.rdN;have z:H (L.length+1-m=(L.length-m)+1):=(by show _=_;omega);cases he:dig (zj L m)
 .have j:(decide (48<=zj L m) && decide (zj L m<=57))=Z:=he;have HG:H (countP L n=(q,m)):=(by rw[zb r,zb z];exact Pro.countL_stop he);by_cases u:100<q
  .have i:H (yx L T n=Pro.bad 5 (zC L T n) m):=(by unfold yx;rw[iN (by simp[hd]),zb HG,IN u];rfl);have ab:=d.se.s5;go_wp2_with(first|(go_at_call 157;refine ziD (y8 (n:=m) (by exact d) f oa) ?_)|(go_at_call 286;refine ziD (xw _ _) ?_);(rw[j])|(go_at_call 45;refine(JB (n:=m) _ 5 _ _ rfl (by exact d)).mono ?_;rintro e p ⟨v,rfl,l,g⟩;have d:=ze g;have c1:=g.c1;have f1:=g.f1));go_ret2;exact d.bad i od l
  have i:H (yx L T n=good q m):=(by unfold yx;rw[iN (by simp[hd]),zb HG,iN u];rfl);go_wp2_with(first|(go_at_call 157;refine ziD (y8 (n:=m) (by exact d) f oa) ?_)|(go_at_call 286;refine ziD (xw _ _) ?_);(rw[j]));go_ret2;exact d.good i (by rw[zb i];rfl)
 have j:(decide (48<=zj L m) && decide (zj L m<=57))=G:=he;have W:=dig_in he;have HG:H (countP L n=Pro.countL L (L.length+1-(m+1)) (min (q*10+(zj L m-48)) 101) (m+1)):=(by rw[zb r,show L.length+1-m=(L.length+1-(m+1))+1 by omega];exact Pro.countL_go he);have P:48<=zj L m/\zj L m<=57:=(by simpa using j);have c1:=d.c1;have f1:=d.f1;go_wp2_with(first|(go_at_call 157;refine ziD (y8 (n:=m) (by exact d) f oa) ?_)|(go_at_call 286;refine ziD (xw _ _) ?_);(rw[j]));have s:=d.setN (m+1) ((m:Int)+1) oa;refine⟨⟨min (q*10+(zj L m-48)) 101,m+1,?_,oa,oa,oa,ze s,HG⟩,by rw[s.rdN,F];omega⟩;rw[show(if 101<q*10+(zj L m-48) then(101:Int) else q*10+(zj L m-48))=min (q*10+(zj L m-48)) 101 by split<;>omega]
structure ZC (w:E)(rb:Nat)(p:Y)(l m:Int):Prop where
 k0:w.cell? ⟨rb,0,U⟩=I p
 k1:w.cell? ⟨rb,1,U⟩=I (M J l)
 k2:w.cell? ⟨rb,2,U⟩=I (M J m)
 f1:w.frozen? ⟨rb,1,U⟩=Z
 f2:w.frozen? ⟨rb,2,U⟩=Z
theorem ZC.lt (h:ZC w rb p l m):rb<w.heap.size:=zgF w ⟨rb,0,U⟩ h.k0
theorem ZC.keep {P:Nat->Prop}{w c:E}{rb:Nat}{p:Y}{l m:Int}(h:ZC w rb p l m)(k:zf P w c)(a:¬P rb):ZC c rb p l m:=
 ⟨(k.cell (p:=⟨rb,0,U⟩) h.lt a).trans h.k0,(k.cell (p:=⟨rb,1,U⟩) h.lt a).trans h.k1,(k.cell (p:=⟨rb,2,U⟩) h.lt a).trans h.k2,(k.frozen (p:=⟨rb,1,U⟩) h.lt a).trans h.f1,(k.frozen (p:=⟨rb,2,U⟩) h.lt a).trans h.f2⟩
theorem ZC.set1 (h:ZC w rb p l m)(x:Int):ZC (w.setCell ⟨rb,1,U⟩ (M J x)) rb p x m:=
 ⟨(zgI _ _ _ _ ov).trans h.k0,zgL _ _ _ h.k1,(zgI _ _ _ _ ov).trans h.k2,(zk _ _ _ _).trans h.f1,(zk _ _ _ _).trans h.f2⟩
theorem ZC.set2 (h:ZC w rb p l m)(x:Int):ZC (w.setCell ⟨rb,2,U⟩ (M J x)) rb p l x:=
 ⟨(zgI _ _ _ _ ov).trans h.k0,(zgI _ _ _ _ ov).trans h.k1,zgL _ _ _ h.k2,(zk _ _ _ _).trans h.f1,(zk _ _ _ _).trans h.f2⟩
structure Rp (rb:Nat)(w0:E)(b:Nat)(L:List (Int×Int))(n:Nat)(len dp:Int)(a:Nat->Addr)(p:Y)(l m:Int)(w:E):Prop where
 t:Trk rb w0 b L n len dp a w
 r:ZC w rb p l m
section
variable {rb:Nat} {w0:World} {b:Nat} {L:List (Int×Int)} {n:Nat} {T dp:Int} {a:Nat->Addr} {p:Value} {l m:Int} {w c:World}
theorem Rp.drewN (h:Rp rb w0 b L n T dp a p l m w)(q:Nat):Rp rb w0 b L n T dp a p l m (w.drewN q):=⟨h.t.drewN q,h.r.keep ((zf.refl (λ_=>False) w).drewN q) id⟩
theorem Rp.mine {d:Nat}(h:Rp rb w0 b L n T dp a p l m w)(k:zf (zt b) w c)(f:yh c b L d T dp):Rp rb w0 b L d T dp a p l m c:=⟨h.t.mine k f,h.r.keep k (λe=>by have:=h.t.lt;unfold zt at e;omega)⟩
theorem Rp.calm (h:Rp rb w0 b L n T dp a p l m w)(k:ziE w c):Rp rb w0 b L n T dp a p l m c:=⟨h.t.calm k,h.r.keep k id⟩
theorem Rp.setN (h:Rp rb w0 b L n T dp a p l m w)(i:Nat)(j:Int)(c:j=(i:Int)):Rp rb w0 b L i T dp a p l m (w.setCell ⟨b,1,U⟩ (M J j)):=h.mine ((zf.refl _ _).mine _ _) (h.t.rd.setN i j c)
theorem Rp.set1 (h:Rp rb w0 b L n T dp a p l m w)(x:Int):Rp rb w0 b L n T dp a p x m (w.setCell ⟨rb,1,U⟩ (M J x)):=⟨h.t.push ((zf.refl _ _).setCell (p:=⟨rb,1,U⟩) (Q (zgH _)) _),h.r.set1 x⟩
theorem Rp.set2 (h:Rp rb w0 b L n T dp a p l m w)(x:Int):Rp rb w0 b L n T dp a p l x (w.setCell ⟨rb,2,U⟩ (M J x)):=⟨h.t.push ((zf.refl _ _).setCell (p:=⟨rb,2,U⟩) (Q (zgH _)) _),h.r.set2 x⟩
theorem kC (word:ByteArray)(h:Rp rb w0 b L n T dp a p l m w)(d:L.length<=400)(f:n<=1000)(g:word.size<=10)(e:zE L n word=Z):Uh V 113 #[Ua (I ⟨b,0,U⟩),Uc word] w λx c=>x=.returned (C Z)/\∃q,c=w.drewN q:=ZY b L n T dp word w h.t.rd d f g e
theorem YQ (word:ByteArray)(h:Rp rb w0 b L n T dp a p l m w)(g:L.length<=400)(j:n<=1000)(k:word.size<=10)(i:zE L n word=G):Uh V 113 #[Ua (I ⟨b,0,U⟩),Uc word] w λx c=>x=.returned (C G)/\Rp rb w0 b L (n+word.size) T dp a p l m c:=
 (jM b L n T dp word w h.t.rd g j k i).mono (by rintro e o ⟨rfl,d,f⟩;exact⟨rfl,h.mine f d⟩)
theorem zes (h:Rp rb w0 b L n T dp a p l m w)(d:L.length<=400)(g:n<=L.length):Uh V 64 #[Ua (I ⟨b,0,U⟩)] w λx c=>∃v,x=.returned v/\zN c w0.heap.size v (yj a 3) (zC L T n)/\Rp rb w0 b L n T dp a p l m c:=
 (vx b L n T dp a w h.t.rd h.t.se d g).mono (by rintro e j ⟨v,rfl,i,f⟩;exact⟨v,rfl,i.base h.t.on.size,h.calm f⟩)
theorem new_r (d:TypeId)(k:Nat)(q:Int)(x:Y)(i : Ud d x=yj a k)(h:Rp rb w0 b L n T dp a p l m w):Uh V 45 #[Ud d x,M J q] w λe c=>∃v,e=.returned v/\zN c w0.heap.size v (yj a k) q/\Rp rb w0 b L n T dp a p l m c:=
 (jg d x q w).mono (by rintro e j ⟨v,rfl,f,g⟩;rw[i] at f;exact⟨v,rfl,f.base h.t.on.size,h.calm g⟩)
theorem zet (h:Rp rb w0 b L n T dp a p l m w)(f:L.length<=400)(o:n<=L.length)(e:Pro.Fit L):Uh V 255 #[Ua (I ⟨b,0,U⟩)] w λx c=>Rp rb w0 b L (yx L T n).n T dp a p l m c/\(((yx L T n).k=0/\x=.returned (Ue #[M J (yx L T n).v,Ui]))\/((yx L T n).k≠0/\∃v,x=.returned (Ue #[M J 0,v])/\zN c w0.heap.size v (yj a (yx L T n).k) (yx L T n).p)):=
 (zdA b L n T dp a w h.t.rd h.t.se h.t.hb f o e).mono (by
  rintro x s ⟨g,i,d⟩;refine⟨h.mine g i,?_⟩;rcases d with d|⟨j,v,r,q⟩;exact Q d;exact O ⟨j,v,r,q.base h.t.on.size⟩)
end
def Counts (rb:Nat)(w0:E)(b:Nat)(L:List (Int×Int))(T dp:Int)(a:Nat->Addr)(p:Y)(o:Pro.Out×Int)(x:Ending)(c:E):Prop:=
 Trk rb w0 b L o.1.n T dp a c/\((o.1.k=0/\x=.returned Ui/\ZC c rb p o.1.v o.2)\/(o.1.k≠0/\∃v,x=.returned v/\zN c w0.heap.size v (yj a o.1.k) o.1.p))
variable (rb p l m)
theorem JC (w:E)(h:Rp rb w0 b L n T dp a p l m w)(u:L.length<=400)(hn:n<L.length)(hF:Pro.Fit L)(au:rb<w0.heap.size):Uh V 224 #[Ua (I ⟨b,0,U⟩),Ua (I ⟨rb,0,U⟩)] w (Counts rb w0 b L T dp a p (yi L T n)):=by
 have X:=ze h;have c1:=h.t.c1;have f1:=h.t.f1;clear h;have hA:=jV (L:=L) (T:=T) (n+1) oa;have q:H (yi L T n=_):=(by show _=_;unfold yi;rfl)
 have one:∀k (c:UInt8) (j:Int),j=(c.toNat:Int)->(zE L k { data:=#[c] }=G↔zj L k=j):=λk c j hj=>by rw[zH L k c j hj,decide_eq_true_eq]
 go_enter func224,ntmps224;go_wp2_with(first|(go_at_call 114;refine(qj (n:=n) (Rp.t (by exact X)) u oa).mono ?_;rintro e o ⟨rfl,qq,rfl⟩)|(go_at_call 255;refine zb ?_));refine ze ?_;refine(zet (n:=n+1) (by exact(X.drewN _).setN _ _ oa) u oa hF).mono ?_;generalize yx L T (n+1)=f at *;rintro e o ⟨d,⟨B,rfl⟩|⟨B,v,rfl,z⟩⟩
 .clear X;have X:=ze d;have F:=d.r.k0;have c1:=d.t.c1;have f1:=d.t.f1;have N:=d.r.k1;have P:=d.r.k2;have S:=d.r.f1;have W:=d.r.f2;by_cases y:zj L f.n=125
  .have m1:=(one f.n 125 125 rfl).2 y;have r:H (yi L T n=(good f.v (f.n+1),f.v)):=(by show _=_;rw[zb q];simp[B,y]);clear y q one;go_wp2_with(first|(go_at_call 113;refine(YQ (n:=f.n) _ (by exact(X.set1 _).set2 _) u oa od ox).mono ?_;rintro e o ⟨rfl,d⟩;have d:Rp _ _ b L ((f.n)+1) T dp a _ _ _ o:=d;have X:=ze d;have F:=d.r.k0;have c1:=d.t.c1;have f1:=d.t.f1;have N:=d.r.k1;have P:=d.r.k2;have S:=d.r.f1;have W:=d.r.f2));go_ret;rw[zb r];exact⟨Rp.t (n:=f.n+1) (by exact X),Q ⟨rfl,rfl,Rp.r (n:=f.n+1) (by exact X)⟩⟩
  have m1:zE L f.n { data:=#[125] }=Z:=(by rw[<-zid,one _ 125 125 rfl];exact y);by_cases s:zj L f.n=44
  .have m2:=(one f.n 44 44 rfl).2 s;have aq:f.n<L.length:=zJ oa;go_wp2_with(first|(go_at_call 113;refine(kC (n:=f.n) _ (by first|exact(X.set1 _).set2 _|exact((X.set1 _).set2 _).drewN _) u oa od ox).mono ?_;rintro e o ⟨rfl,qq,rfl⟩)|(go_at_call 113;refine(YQ (n:=f.n) _ (by exact((X.set1 _).set2 _).drewN _) u oa od ox).mono ?_;rintro e o ⟨rfl,d⟩;have d:Rp _ _ b L ((f.n)+1) T dp a _ _ _ o:=d;have X:=ze d;have F:=d.r.k0;have c1:=d.t.c1;have f1:=d.t.f1;have N:=d.r.k1;have P:=d.r.k2;have S:=d.r.f1;have W:=d.r.f2);refine zb ?_);refine ze ?_;by_cases x:zj L (f.n+1)=125
   .have m3:=(one (f.n+1) 125 125 rfl).2 x;have r:H (yi L T n=(good f.v (f.n+2),-1)):=(by show _=_;rw[zb q];simp[B,s,x]);clear y s x q one;go_wp2_with(first|(go_at_call 113;refine(YQ (n:=f.n+1) _ (by exact X) u oa od ox).mono ?_;rintro e o ⟨rfl,d⟩;have d:Rp _ _ b L ((f.n+1)+1) T dp a _ _ _ o:=d;have X:=ze d;have F:=d.r.k0;have c1:=d.t.c1;have f1:=d.t.f1;have N:=d.r.k1;have P:=d.r.k2;have S:=d.r.f1;have W:=d.r.f2));go_ret;rw[zb r];exact⟨Rp.t (n:=f.n+2) (by exact X.set2 _),Q ⟨rfl,rfl,Rp.r (n:=f.n+2) (by exact X.set2 _)⟩⟩
   have m3:zE L (f.n+1) { data:=#[125] }=Z:=(by rw[<-zid,one _ 125 125 rfl];exact x);have hM:=jV (L:=L) (T:=T) (f.n+1) oa;go_wp2_with(first|(go_at_call 113;refine(kC (n:=f.n+1) _ (by exact X) u oa od ox).mono ?_;rintro e o ⟨rfl,qq,rfl⟩)|(go_at_call 255;refine zb ?_));refine ze ?_;refine(zet (n:=f.n+1) (by exact X.drewN _) u oa hF).mono ?_;generalize yx L T (f.n+1)=i at *;rintro e o ⟨d,⟨ab,rfl⟩|⟨ab,v,rfl,z⟩⟩
   .clear X;have X:=ze d;have F:=d.r.k0;have c1:=d.t.c1;have f1:=d.t.f1;have N:=d.r.k1;have P:=d.r.k2;have S:=d.r.f1;have W:=d.r.f2;have ai:=d.t.se.s4;by_cases h4:zj L i.n=125
    .have m4:=(one i.n 125 125 rfl).2 h4;by_cases h5:i.v<f.v
     .have r:H (yi L T n=(Pro.bad 4 (zC L T n) (i.n+1),0)):=(by show _=_;rw[zb q];simp[B,s,x,ab,h4,h5]);clear y s x h4 q one;go_wp2_with(first|(go_at_call 113;refine(YQ (n:=i.n) _ (by exact X.set2 _) u oa od ox).mono ?_;rintro e o ⟨rfl,d⟩;have d:Rp _ _ b L ((i.n)+1) T dp a _ _ _ o:=d;have X:=ze d;have F:=d.r.k0;have c1:=d.t.c1;have f1:=d.t.f1;have N:=d.r.k1;have P:=d.r.k2;have S:=d.r.f1;have W:=d.r.f2);(have ai:=X.t.se.s4)|(go_at_call 45;refine(new_r (n:=i.n+1) _ 4 _ _ rfl (by exact X)).mono ?_;rintro e o ⟨v,rfl,z,d⟩;have X:=ze d;have F:=d.r.k0;have c1:=d.t.c1;have f1:=d.t.f1;have N:=d.r.k1;have P:=d.r.k2;have S:=d.r.f1;have W:=d.r.f2));go_ret;rw[zb r];exact⟨Rp.t (n:=i.n+1) X,O ⟨(show(4:Nat)≠0 by decide),v,rfl,z⟩⟩
     have r:H (yi L T n=(good f.v (i.n+1),i.v)):=(by show _=_;rw[zb q];simp[B,s,x,ab,h4,h5]);clear y s x h4 q one;go_wp2_with(first|(go_at_call 113;refine(YQ (n:=i.n) _ (by exact X.set2 _) u oa od ox).mono ?_;rintro e o ⟨rfl,d⟩;have d:Rp _ _ b L ((i.n)+1) T dp a _ _ _ o:=d;have X:=ze d;have F:=d.r.k0;have c1:=d.t.c1;have f1:=d.t.f1;have N:=d.r.k1;have P:=d.r.k2;have S:=d.r.f1;have W:=d.r.f2));go_ret;rw[zb r];exact⟨Rp.t (n:=i.n+1) (by exact X),Q ⟨rfl,rfl,Rp.r (n:=i.n+1) (by exact X)⟩⟩
    have m4:zE L i.n { data:=#[125] }=Z:=(by rw[<-zid,one _ 125 125 rfl];exact h4);have r:H (yi L T n=(Pro.bad 3 (zC L T i.n) i.n,0)):=(by show _=_;rw[zb q];simp[B,s,x,ab,h4]);clear y s x h4 q one;go_wp2_with(first|(go_at_call 113;refine(kC (n:=i.n) _ (by exact X.set2 _) u oa od ox).mono ?_;rintro e o ⟨rfl,qq,rfl⟩)|(go_at_call 64;refine(zes (n:=i.n) (by exact(X.set2 _).drewN _) u oa).mono ?_;rintro e o ⟨v,rfl,z,d⟩;have X:=ze d;have F:=d.r.k0;have c1:=d.t.c1;have f1:=d.t.f1;have N:=d.r.k1;have P:=d.r.k2;have S:=d.r.f1;have W:=d.r.f2));go_ret;rw[zb r];exact⟨Rp.t (n:=i.n) X,O ⟨(show(3:Nat)≠0 by decide),v,rfl,z⟩⟩
   have r:H (yi L T n=(i,0)):=(by show _=_;rw[zb q];simp[B,s,x,ab]);obtain⟨gv,ad⟩:=z.form;subst ad;clear X;have X:=ze d;have F:=d.r.k0;have c1:=d.t.c1;have f1:=d.t.f1;have N:=d.r.k1;have P:=d.r.k2;have S:=d.r.f1;have W:=d.r.f2;clear y s x q one d;go_wp2_with fail;go_ret;rw[zb r];exact⟨(X.set2 _).t,O ⟨ab,_,rfl,z.keep ((zf.refl (λg=>g=rb) _).setCell (p:=⟨rb,2,U⟩) (Q rfl) _) (λg hg e=>oa)⟩⟩
  have m2:zE L f.n { data:=#[44] }=Z:=(by rw[<-zid,one _ 44 44 rfl];exact s);have r:H (yi L T n=(Pro.bad 3 (zC L T f.n) f.n,0)):=(by show _=_;rw[zb q];simp[B,y,s]);clear y s q one;go_wp2_with(first|(go_at_call 113;refine(kC (n:=f.n) _ (by first|exact(X.set1 _).set2 _|exact((X.set1 _).set2 _).drewN _) u oa od ox).mono ?_;rintro e o ⟨rfl,qq,rfl⟩)|(go_at_call 64;refine(zes (n:=f.n) (by exact((X.set1 _).set2 _).drewN _) u oa).mono ?_;rintro e o ⟨v,rfl,z,d⟩;have X:=ze d;have F:=d.r.k0;have c1:=d.t.c1;have f1:=d.t.f1;have N:=d.r.k1;have P:=d.r.k2;have S:=d.r.f1;have W:=d.r.f2));go_ret;rw[zb r];exact⟨Rp.t (n:=f.n) X,O ⟨(show(3:Nat)≠0 by decide),v,rfl,z⟩⟩
 have r:H (yi L T n=(f,0)):=by show _=_;rw[zb q];simp[B]
 obtain⟨gv,ad⟩:=z.form;subst ad;have X:=ze d;clear q one d;go_wp2_with fail;go_ret;rw[zb r];exact⟨X.t,O ⟨B,_,rfl,z⟩⟩
namespace Pro
def zy (L:List (Int×Int))(T:Int)(n:Nat):Bool×Out×Int:=
 if zj L n=42 then(G,good 0 (n+1),-1)
 else if zj L n=43 then(G,good 1 (n+1),-1)
 else if zj L n=63 then(G,good 0 (n+1),1)
 else if zj L n=123 then(G,yi L T n)
 else(Z,good 0 n,0)
def wX (L:List (Int×Int))(n:Nat):Nat:=if zj L n=63 then n+1 else n
end Pro
def Quants (b:Nat)(L:List (Int×Int))(T dp:Int)(a:Nat->Addr)(w:E)(p:Y)(o:Bool×Pro.Out×Int)(x:Ending)(c:E):Prop:=
 zf (zt b) w c/\((o.1=Z/\x=.returned (Ue #[p,Ui])/\yh c b L o.2.1.n T dp)\/
  (o.1=G/\o.2.1.k=0/\x=.returned (Ue #[Ud 256 (Uf #[p,M J o.2.1.v,M J o.2.2]),Ui])/\yh c b L (wX L o.2.1.n) T dp)\/
  (o.1=G/\o.2.1.k≠0/\yh c b L o.2.1.n T dp/\∃v,x=.returned (Ue #[Ui,v])/\zN c w.heap.size v (yj a o.2.1.k) o.2.1.p))
variable {rb w0 b L n T dp a p l m}
theorem zaj {w:E}(h:Rp rb w0 b L n T dp a p l m w)(i:L.length<=400)(j:n<=1000):Uh V 113 #[Ua (I ⟨b,0,U⟩),Uc { data:=#[63] }] w λx c=>∃q,x=.returned (C q)/\Rp rb w0 b L (wX L n) T dp a p l m c:=
 (zbG b L n T dp { data:=#[63] } w h.t.rd i j od).mono (by
  rintro e k ⟨rfl,f,g⟩;refine⟨_,rfl,h.mine g ?_⟩;have:Pro.behind L n { data:=#[63] }=wX L n:=by unfold wX;by_cases d:zj L n=63;rw[IN d];exact XS (by rw[zH L n 63 63 rfl];simp[d]);rw[iN d];exact Ja (by rw[zH L n 63 63 rfl];simp[d])
  rw[this] at f;exact f)
theorem Rp.start {b:Nat}{L:List (Int×Int)}{n:Nat}{T dp:Int}{a:Nat->Addr}{w:E}(p:Y)(h:yh w b L n T dp)(c:yt w a)(d:11<=b):Rp w.heap.size (w.alloc (Ub #[p,M J 0,M J 0] 256)) b L n T dp a p 0 0 (w.alloc (Ub #[p,M J 0,M J 0] 256)):=
 have t:=(Trk.start h c d).calm ((zf.refl _ _).alloc (Ub #[p,M J 0,M J 0] 256))
 ⟨⟨t.rd,t.se,zf.refl _ _,t.hb,h.lt,ov⟩,⟨zm w _ rfl _ _ 0 _ rfl,zm w _ rfl _ _ 1 _ rfl,zm w _ rfl _ _ 2 _ rfl,zu w _ rfl _ _ 1,zu w _ rfl _ _ 2⟩⟩
namespace Pro
theorem KU (n:Nat)(h:n<L.length):n<=(yi L T n).1.n/\(yi L T n).1.n<=L.length:=by have e:=jV (L:=L) (T:=T) (n+1) oa;unfold yi;simp only[];split;simp only[];omega;split;have:=zJ (L:=L) (n:=(yx L T (n+1)).n) oa;simp only[good];omega;split;simp only[bad];omega;rename_i d;have a:=zJ (L:=L) (n:=(yx L T (n+1)).n) oa;split;have:=zJ (L:=L) (n:=(yx L T (n+1)).n+1) oa;simp only[good];omega;have f:=jV (L:=L) (T:=T) ((yx L T (n+1)).n+1) oa;split;simp only[];omega;split;simp only[bad];omega;rename_i b;have c:=zJ (L:=L) (n:=(yx L T ((yx L T (n+1)).n+1)).n) oa;split;simp only[bad];omega;simp only[good];omega
end Pro
variable (b L n T dp a)
theorem KV (w:E)(m:TypeId)(s:Y)(h:yh w b L n T dp)(hS:yt w a)(hb:11<=b)(f:L.length<=400)(hn:n<=L.length)(hF:Pro.Fit L):Uh V 188 #[Ua (I ⟨b,0,U⟩),Ud m s] w (Quants b L T dp a w (Ud m s) (zy L T n)):=by
 have X0:=ze (Rp.start (Ud m s) h hS hb);clear h hS;go_enter func188,ntmps188;go_wp2_with fail;have y:H (zf (zt b) w (w.alloc (Ub #[Ud m s,M J 0,M J 0] 256))):=(zf.refl _ _).alloc _;have ae:w.heap.size<(w.alloc (Ub #[Ud m s,M J 0,M J 0] 256)).heap.size:=ov;have X:=zb X0;generalize w.alloc (Ub #[Ud m s,M J 0,M J 0] 256)=W at *;have ar:w.heap.size<=w.heap.size:=zgH _;generalize au:w.heap.size=rb at *;have c1:=X.t.c1;have f1:=X.t.f1;have p:=X.r.k0;have q:=X.r.k1;have r:=X.r.k2;have u:=X.r.f1;have x:=X.r.f2;have X:=ze X;clear X0;by_cases i:zj L n=42
 .have al:zE L n { data:=#[42] }=G:=by rw[zH L n 42 42 rfl];simp[i]
  have j:H (zy L T n=(G,good 0 (n+1),-1)):=by unfold zy;rw[IN i];rfl
  clear i;go_wp2_with(first|(go_at_call 113;refine(YQ (n:=n) _ (by exact X) f oa od ox).mono ?_;rintro e g ⟨rfl,d⟩;have d:Rp _ _ b L ((n)+1) T dp a _ _ _ g:=d;have X:=ze d;have p:=d.r.k0;have c1:=d.t.c1;have f1:=d.t.f1;have q:=d.r.k1;have r:=d.r.k2;have u:=d.r.f1;have x:=d.r.f2)|(go_at_call 113;refine(zaj (n:=n+1) (by exact X.set2 _) f oa).mono ?_;rintro e g ⟨S,rfl,d⟩;have X:=ze d;have p:=d.r.k0;have c1:=d.t.c1;have f1:=d.t.f1;have q:=d.r.k1;have r:=d.r.k2;have u:=d.r.f1;have x:=d.r.f2));go_ret2;rw[zb j];exact⟨Own.back y X.t.on oa,O (Q ⟨rfl,rfl,rfl,X.t.rd⟩)⟩
 have al:zE L n { data:=#[42] }=Z:=by rw[zH L n 42 42 rfl];simp[i]
 by_cases l:zj L n=43
 .have am:zE L n { data:=#[43] }=G:=(by rw[zH L n 43 43 rfl];simp[l]);have j:H (zy L T n=(G,good 1 (n+1),-1)):=(by unfold zy;rw[iN i,IN l];rfl);clear i l;go_wp2_with(first|(go_at_call 113;refine(kC (n:=n) _ (by first|exact X|exact X.drewN _) f oa od ox).mono ?_;rintro e g ⟨rfl,N,rfl⟩)|(go_at_call 113;refine(YQ (n:=n) _ (by exact X.drewN _) f oa od ox).mono ?_;rintro e g ⟨rfl,d⟩;have d:Rp _ _ b L ((n)+1) T dp a _ _ _ g:=d;have X:=ze d;have p:=d.r.k0;have c1:=d.t.c1;have f1:=d.t.f1;have q:=d.r.k1;have r:=d.r.k2;have u:=d.r.f1;have x:=d.r.f2)|(go_at_call 113;refine(zaj (n:=n+1) (by exact(X.set1 _).set2 _) f oa).mono ?_;rintro e g ⟨S,rfl,d⟩;have X:=ze d;have p:=d.r.k0;have c1:=d.t.c1;have f1:=d.t.f1;have q:=d.r.k1;have r:=d.r.k2;have u:=d.r.f1;have x:=d.r.f2));go_ret2;rw[zb j];exact⟨Own.back y X.t.on oa,O (Q ⟨rfl,rfl,rfl,X.t.rd⟩)⟩
 have am:zE L n { data:=#[43] }=Z:=(by rw[zH L n 43 43 rfl];simp[l]);by_cases o:zj L n=63
 .have an:zE L n { data:=#[63] }=G:=(by rw[zH L n 63 63 rfl];simp[o]);have j:H (zy L T n=(G,good 0 (n+1),1)):=(by unfold zy;rw[iN i,iN l,IN o];rfl);clear i l o;go_wp2_with(first|(go_at_call 113;refine(kC (n:=n) _ (by first|exact X|exact X.drewN _) f oa od ox).mono ?_;rintro e g ⟨rfl,N,rfl⟩)|(go_at_call 113;refine(YQ (n:=n) _ (by exact X.drewN _) f oa od ox).mono ?_;rintro e g ⟨rfl,d⟩;have d:Rp _ _ b L ((n)+1) T dp a _ _ _ g:=d;have X:=ze d;have p:=d.r.k0;have c1:=d.t.c1;have f1:=d.t.f1;have q:=d.r.k1;have r:=d.r.k2;have u:=d.r.f1;have x:=d.r.f2)|(go_at_call 113;refine(zaj (n:=n+1) (by exact X.set2 _) f oa).mono ?_;rintro e g ⟨S,rfl,d⟩;have X:=ze d;have p:=d.r.k0;have c1:=d.t.c1;have f1:=d.t.f1;have q:=d.r.k1;have r:=d.r.k2;have u:=d.r.f1;have x:=d.r.f2));go_ret2;rw[zb j];exact⟨Own.back y X.t.on oa,O (Q ⟨rfl,rfl,rfl,X.t.rd⟩)⟩
 have an:zE L n { data:=#[63] }=Z:=(by rw[zH L n 63 63 rfl];simp[o]);by_cases z:zj L n=123
 .have P:n<L.length:=zJ oa;have ah:(zj L n == 123)=G:=(by simp[z]);have j:H (zy L T n=(G,yi L T n)):=(by unfold zy;rw[iN i,iN l,iN o,IN z];rfl);clear i l o z;have ap:=KU (T:=T) n P;by_cases F:(yi L T n).1.k=0
  .go_wp2_with(first|(go_at_call 113;refine(kC (n:=n) _ (by first|exact X|exact X.drewN _) f oa od ox).mono ?_;rintro e g ⟨rfl,N,rfl⟩)|(go_at_call 157;refine ziD (y8 (n:=n) (Rp.t (by exact X.drewN _)) f oa) ?_)|(go_at_call 224;refine(JC rb W b L n T dp a (Ud m s) 0 0 _ (by exact X.drewN _) f P hF ae).mono ?_;rintro e wc ⟨tq,B⟩;obtain⟨rfl,hr⟩:=YP B F;clear B;have d:Rp rb W b L _ T dp a _ _ _ wc:=⟨tq,hr⟩;have X:=ze d;have p:=d.r.k0;have c1:=d.t.c1;have f1:=d.t.f1;have q:=d.r.k1;have r:=d.r.k2;have u:=d.r.f1;have x:=d.r.f2)|(go_at_call 113;refine(zaj (n:=(yi L T n).1.n) (by exact X) f oa).mono ?_;rintro e g ⟨S,rfl,d⟩;have X:=ze d;have p:=d.r.k0;have c1:=d.t.c1;have f1:=d.t.f1;have q:=d.r.k1;have r:=d.r.k2;have u:=d.r.f1;have x:=d.r.f2));go_ret2;rw[zb j];exact⟨Own.back y X.t.on oa,O (Q ⟨rfl,F,rfl,X.t.rd⟩)⟩
  go_wp2_with(first|(go_at_call 113;refine(kC (n:=n) _ (by first|exact X|exact X.drewN _) f oa od ox).mono ?_;rintro e g ⟨rfl,N,rfl⟩)|(go_at_call 157;refine ziD (y8 (n:=n) (Rp.t (by exact X.drewN _)) f oa) ?_)|(go_at_call 224;refine(JC rb W b L n T dp a (Ud m s) 0 0 _ (by exact X.drewN _) f P hF ae).mono ?_;rintro e wc ⟨tq,B⟩;obtain⟨v,rfl,hv⟩:=zai B F;clear B;obtain⟨gv,aj⟩:=hv.form;subst aj;have c:=ze tq));go_ret2;rw[zb j];exact⟨Own.back y c.on oa,O (O ⟨rfl,F,c.rd,_,rfl,hv.base oa⟩)⟩
 have ah:(zj L n == 123)=Z:=(by simp[z]);have j:H (zy L T n=(Z,good 0 n,0)):=(by unfold zy;rw[iN i,iN l,iN o,iN z];rfl);clear i l o z;go_wp2_with(first|(go_at_call 113;refine(kC (n:=n) _ (by first|exact X|exact X.drewN _) f oa od ox).mono ?_;rintro e g ⟨rfl,N,rfl⟩)|(go_at_call 157;refine ziD (y8 (n:=n) (Rp.t (by exact X.drewN _)) f oa) ?_));go_ret2;rw[zb j];exact⟨Own.back y (X.drewN _).t.on oa,Q ⟨rfl,rfl,(X.drewN _).t.rd⟩⟩
end
