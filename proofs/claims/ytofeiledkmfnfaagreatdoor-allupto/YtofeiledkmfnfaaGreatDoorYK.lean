/- What the package-level variables hold, whatever the stores turn; a new store; Finder. -/
import Derived.Test.YtofeiledkmfnfaaGreatDoorYJ
import Derived.Test.YtofeiledkmfnfaaGreatDoorRows
import Derived.ChangeSame
import Derived.ChangeVars
import Derived.JoinedOf
import Derived.RowKit
import Derived.LaidLaws
import Derived.LaidHandle
import Derived.LaidSub
import Derived.Stop.Joined
import Derived.ChangeSlices
import Derived.SliceStrings
import Derived.SizedLaws
import Derived.OpenShut
import Derived.Laws.Append
import Derived.Test.YtofeiledkmfnfaaGreatDoorTie
import Derived.Test.YtofeiledkmfnfaaGreatDoorCards
import Derived.ProofKit
import Derived.LaidMore
import Derived.SevenTiedAt
import Derived.ReadAgain
namespace Go.Proofs.YtofeiledkmfnfaaGreatDoor
open World renaming heap->V,heap->o,cell?->A,cell?->dx,frozen?->dz,ownsRow->dA,alloc->dB,setCell->dC
open _root_.Array renaming size->X,size->dg,size->f
open Value renaming ownBlock->dH
open _root_.ByteArray renaming size->dJ,size->u
open Bool renaming noConfusion->dL
open _root_.Go.Proofs.Tryz renaming prog->S,prog->dQ
open Option renaming none->U,some->I
open Value renaming int->M,bool->C,pointer->Ua,string->Uc,iface->Ud,tuple->Ue,agg->Uf,nilIface->Ui
open IntKind renaming i64->J
open Bool renaming false->Z,true->G
open Go renaming World->E,Value->Y,Calls->Uh
open Or renaming inr->O,inl->Q
open Ending renaming returned->R
open Obj renaming cells->Ub
open And renaming intro->Ur
open Ts Ref Sm TC Tw Tv
open List renaming length->D
open List renaming length->Bc
set_option maxHeartbeats 8000000
set_option maxRecDepth 1000000
variable (g fb:Nat)(p s:Al)(w:World)(sb pb mb most st:Nat){W B:World}{v:Value}(a:Nat->Addr){ts:List Al}
section
open Go.RowKit
open Sm (Stp Tree yI)
structure UT (w:E)(a:Nat->Addr)(base:Nat):Prop where
 st:Start w a
 tab:Tx w
 bl:∀k,1<=k->k<=10->(a k).block<base
 le:base<=X (V w)
 ng:11<base
structure TM (w:E)(A:Aj)(g pb:Nat)(N:Aq)(st:Nat)(W:Am)(cs:Ar)(z:Int):Prop where
 own:A g
 size:dx w ⟨g,0,U⟩=I (M J z)
 ptr:dx w ⟨g,1,U⟩=I (Ua (I ⟨pb,0,U⟩))
 prog:TX w A pb N st W cs
 alt:∀k,A k->k<X (V w)
theorem TM.keep {P A:Aj}{w B:E}{g pb st:Nat}{N:Aq}{W:Am}{b:Ar}{z:Int}(h:TM w A g pb N st W b z)(k:zg P w B)(a:∀g,A g->¬P g):TM B A g pb N st W b z:=
 ⟨h.own,zf k _ _ h.size (a _ h.own),zf k _ _ h.ptr (a _ h.own),h.prog.keep k a,λq c=>AM (h.alt q c) k.size⟩
theorem qW.bound {A:Aj}{w:E}{pb:Nat}{N:List Sm.Stp}{st:Nat}{W:Am}(h:qW w A pb N st W):qW w (λg=>A g/\g<X (V w)) pb N st W:=by have⟨g,d,e,f,i,c⟩:=h.c0;have⟨m,j,k⟩:=h.c2;have n:=h.stl;have l:g<X (V w):=zic w _ (c 0 _ (AE oa)).1;exact⟨⟨h.own,zic w _ h.c1⟩,⟨g,d,e,⟨f,l⟩,i,c.mono (λq b a=>⟨a,b⟩)⟩,h.c1,⟨m,j,k.mono (λq b a=>⟨a,b⟩)⟩,h.len,h.fit,h.stl⟩
theorem zdz (N:Aq)(X:Tv.St->Nat->Tv.St->Prop)(w:E):Uh S 51 #[Ua (I ⟨pb,0,U⟩),M J (most:Nat)] w λx B=>∃sb mb,x=R (Ua (I ⟨sb,0,U⟩))/\f (V w)<=sb/\f (V w)<=mb/\TA B (λg=>g=sb\/g=mb) (λ_=>False) sb pb mb most N X [] (.slice U 0 0)/\zke w B:=by have h:=@run_makeMap S;go_enter Tryz.func51,Tryz.ntmps51;go_wp2;go_ret;have b:=yj w (.map #[] 0);have d:=yj (dB w (.map #[] 0)) (Ub #[Ua (I ⟨pb,0,U⟩),M J (most:Nat),.slice U 0 0,.map (I (f (V w)))] 131);refine⟨f (V w)+1,f (V w),rfl,oa,oa,⟨zj _ _ b _ _ 0 _ rfl,zj _ _ b _ _ 1 _ rfl,zj _ _ b _ _ 2 _ rfl,zj _ _ b _ _ 3 _ rfl,zt _ _ b _ _ 2,A0 _ _ _ _,λg a=>(by cases a),(jS.made w _ rfl).keep ((zg.refl (λ_=>False) _).alloc _) id,Q rfl,O rfl,λe c=>(by cases c),List.Pairwise.nil,λg a=>(by rw[d,b];omega),λg a=>a.elim,λg a=>a.elim⟩,Ag.alloc _⟩
structure UG (w:E)(A O D:Aj)(fb sb pb mb most:Nat)(N:Aq)(st:Nat)(W:Am)(cs:Ar)(es:Az)(sv:Y):Prop where
 f0:dx w ⟨fb,0,U⟩=I (Ua (I ⟨sb,0,U⟩))
 nf:¬O fb
 sto:TA w O D sb pb mb most N (qB N st W cs) es sv
 env:Env w A O pb N st W cs
 m1:2<=most
 m2:most<=64
 len:Bc es<=most
theorem UG.keep {P A O D:Aj}{w B:E}{fb sb pb mb most st:Nat}{N:Aq}{W:Am}{c:Ar}{d:Az}{e:Y}(h:UG w A O D fb sb pb mb most N st W c d e)(k:zg P w B)(b:∀g,P g->¬O g/\¬D g/\¬A g/\g≠fb/\g≠11):UG B A O D fb sb pb mb most N st W c d e:=
 ⟨zf k _ _ h.f0 (λq=>(b _ q).2.2.2.1 rfl),h.nf,h.sto.keep k (λg a q=>(b g q).1 a) (λg a q=>(b g q).2.1 a),⟨h.env.prog.keep k (λg a q=>(b g q).2.2.1 a),h.env.tab.keep k (λq=>(b _ q).2.2.2.2 rfl),h.env.ao,h.env.ot,λg a=>AM (h.env.alt g a) k.size⟩,h.m1,h.m2,h.len⟩
theorem UG.NU {A O D:Aj}{w B:E}{fb sb pb mb most st:Nat}{N:Aq}{W:Am}{a:Ar}{b:Az}{c:Y}(h:UG w A O D fb sb pb mb most N st W a b c)(k:zke w B):UG B A O D fb sb pb mb most N st W a b c:=h.keep k (λ_ f=>f.elim)
theorem ze2 (most:Nat)(A:Aj)(N:Aq)(W:Am)(i:Ar)(z:Int)(w:E)(b:TM w A g pb N st W i z)(n:Tx w)(s:2<=most)(t:most<=64):Uh dQ 27 #[Ua (I ⟨g,0,U⟩),M J (most:Nat)] w λx B=>∃fb sb mb,x=R (Ue #[Ua (I ⟨fb,0,U⟩),M J 0])/\X (V w)<=fb/\X (V w)<=sb/\X (V w)<=mb/\UG B A (λk=>k=sb\/k=mb) (λ_=>False) fb sb pb mb most N st W i [] (.slice U 0 0)/\zke w B:=by have c1:=b.ptr;have o:=zd b;have l:=zd n;have p:=zd (zdz pb most N (qB N st W i) w);have F:¬(most:Int)<2:=oa;have L:¬(64:Int)<(most:Int):=oa;go_enter Tryz.func27,Tryz.ntmps27;go_wp2_with(go_at_call 51;refine p.mono ?_;rintro e j ⟨sb,mb,rfl,v,u,m,a⟩;have h:=zd m;have r:=zd a);go_ret2;have a:=zb r;have d:zke j (dB j (Ub #[Ua (I ⟨sb,0,U⟩)] 87)):=Ag;have y:=a.size;have b:=zb o;have S:=h.olt sb (Q rfl);have P:=h.olt mb (O rfl);have T:=l.lt;refine⟨X (V j),sb,mb,rfl,y,v,u,⟨zj _ _ rfl _ _ 0 _ rfl,λq=>by obtain q|q:=q<;>omega,h.NU d,⟨b.prog.keep (a.trans d) (λ_ _ f=>f),l.keep (a.trans d) id,λk c q=>(by have:=b.alt k c;obtain q|q:=q<;>omega),λk c=>(by obtain q|q:=c<;>omega),λk c=>AM (b.alt k c) (a.trans d).size⟩,s,t,ov⟩,a.trans d⟩
theorem zhD (A O D:Aj)(N:Aq)(W:Am)(d:Ar)(a:Az)(b:Y)(w:E)(h:UG w A O D fb sb pb mb most N st W d a b):Uh S 14 #[Ua (I ⟨fb,0,U⟩)] w λx B=>x=R (M J (Bc a:Nat))/\B=w:=by have e:=h.f0;have c:=zd (Ej sb pb mb most O D N _ a b w h.sto);go_enter Tryz.func14,Tryz.ntmps14;go_wp2_with(go_at_call 28;refine AL c ?_);go_ret;exact⟨rfl,rfl⟩
def Nz (s:Al)(N:Aq)(st:Nat)(W:Am)(r:Bool)(k p:Int):Prop:=
 (400<u s/\r=Z/\k=2/\p=400)\/(u s<=400/\0<=(zu s).2/\r=Z/\k=1/\p=(zu s).2)\/
 (u s<=400/\(zu s).2<0/\k=0/\p=0/\(r=G↔Tv.hit N (Tv.run N st W (zP s (u s+1) 0) (zP s (u s+1) 0).length)))
theorem zdA (f:Y)(w:E)(a:Nat->Addr)(k:Nat)(p:Int)(t:∃x n c,f=.slice x n c)(i:Start w a)(u:1<=k)(y:k<=8)(j:Uh dQ 46 #[Uc s,M J 400] w λx B=>∃v,x=R (Ue #[.slice U 0 0,v])/\zJ B (X (V w)) v (z7 a k) p/\zke w B):Uh dQ 21 #[Ua (I ⟨fb,0,U⟩),Uc s,f] w λx B=>x=R (Ue #[C Z,M J k,M J p])/\zke w B:=by obtain⟨z,L,F,rfl⟩:=t;have d:=zd i;have o:=zd j;go_enter Tryz.func21,Tryz.ntmps21;go_wp2_with(first|(go_at_call 46;refine o.mono ?_;rintro e P ⟨v,rfl,l,b⟩;have q:=zd l;obtain⟨h,N,rfl,g,f1⟩:=l;have H0:=zd g;have m:=zd f1)|(go_at_call 30;refine AL (Xx h k a _ (d.keep b).sents (d.keep b).rows u y H0) ?_)|(go_at_call 31;refine(Zd h p _ (d.keep b).et m).mono ?_;rintro e S ⟨rfl,r⟩));go_ret3;exact⟨rfl,b.trans r⟩
def Wp (w B:E)(s:Al)(A O D:Aj)(fb sb pb mb most:Nat)(N:Aq)(st:Nat)(W:Am)(d:Ar)(x:Ending):Prop:=
 ∃(r:Bool) (k p:Int) (b a:Aj) (c:Az) (e:Y),x=R (Ue #[C r,M J k,M J p])/\Nz s N st W r k p/\UG B A b a fb sb pb mb most N st W d c e/\(k=0->1<=Bc c)/\(∀g,b g->O g\/X (V w)<=g)/\(∀g,a g->D g\/X (V w)<=g)/\zg O w B
theorem Em (A O D:Aj)(N:Aq)(W:Am)(n:Ar)(es:Az)(sv ev:Y)(s:Al)(ks:Ar)(w:E)(a:Nat->Addr)(X:Start w a)(h:UG w A O D fb sb pb mb most N st W n es sv)(S:qN w (λ_=>True) ev ks)(aA:Bc ks<4611686018427387904)(hs:dJ s<=400)(hc:(zu s).2<0):Uh dQ 21 #[Ua (I ⟨fb,0,U⟩),Uc s,ev] w (λx B=>Wp w B s A O D fb sb pb mb most N st W n x):=by
 have z:=zd (jH s 400 oa hs w a X.sents X.size hc);have hl:(zP s (dJ s+1) 0).length<=dJ s:=by rw[<-(xV.of s).len];exact vB s
 have HF:Hid (∀b k p l j m r B,Nz s N st W b k p->UG B A l j fb sb pb mb most N st W n m r->(k=0->1<=Bc m)->(∀g,l g->O g\/dg (V w)<=g)->(∀g,j g->D g\/dg (V w)<=g)->zg O w B->Wp w B s A O D fb sb pb mb most N st W n (R (Ue #[C b,M J k,M J p]))):=λb k p l j m r B a1 a2 a3 a4 a5 a6=>⟨b,k,p,l,j,m,r,rfl,a1,a2,a3,a4,a5,a6⟩
 have HA:Hid (∀b,(b=G↔Tv.hit N (Tv.run N st W (zP s (dJ s+1) 0) (zP s (dJ s+1) 0).length))->Nz s N st W b 0 0):=λb u=>.inr (.inr ⟨hs,hc,rfl,rfl,u⟩);generalize zP s (dJ s+1) 0=L at z hl HA;obtain⟨ea,ec,rfl⟩:=S.slice;have HE:=zd S;have H:=zd h;have F:=h.f0;go_enter Tryz.func21,Tryz.ntmps21;go_wp2_with(go_at_call 46;refine z.mono ?_;rintro e w1 ⟨v,rfl,y,o⟩;refine zb ?_);refine zd ?_;have T:qM w1 v L:=by obtain⟨d,P⟩|⟨gl,aw,d,P,_,h3⟩:=X8 y;exact Q ⟨d,P⟩;exact .inr ⟨gl,aw,d,P,h3⟩
 have f1:=zf o _ _ F id;have d:=H.NU o;have am:=zd (zaK sb pb mb most st A O D N W n es sv v _ L ks w1 d.env d.sto d.m1 d.m2 d.len T (λg hg=>⟨λq=>by have h8:=H.sto.olt g q;have h9:=(zh y g hg).1;omega,(zh y g hg).2⟩) oa (HE.keep o (λ_ _ f=>f)) aA);obtain⟨va,vc,rfl⟩:=T.slice;have ak:=zd o;go_wp2_with(go_at_call 47;refine am.mono ?_;rintro e w2 ⟨b,i,l,j,m,r,rfl,u,c⟩;have HR:=zd u;have an:=zd c);go_ret3;have c:=an.back ak;have t:=zb H;have⟨e9,az,_⟩:=c.at';refine zb HF b 0 0 l j m r w2 (zb HA b HR) ⟨zf c.only _ _ F t.nf,λq=>?_,c.sto,c.env,t.m1,t.m2,c.len⟩ (λ_=>by have:=(AK.1 az).1;omega) c.oo c.dd c.only;obtain q|q:=c.oo _ q
 exact t.nf q;have:=zic w _ F;simp at this;omega



def XC (w:E)(v:Y)(ts:List Al):Prop:=(ts=[]/\∃a c,v=.slice a 0 c)\/∃g b d,v=.slice (I ⟨g,b,U⟩) (D ts) d/\g<X (V w)/\∀(j:Nat) s,ts[j]?=I s->A w ⟨g,b+j,U⟩=I (Uc s)
theorem XC.get {w:E}{a:Ap}{c:Nat}{ts:List Al}(h:XC w (.slice a (D ts) c) ts){k:Nat}(b:k<D ts):∃g off,a=I ⟨g,off,U⟩/\g<X (V w)/\A w ⟨g,off+k,U⟩=I (Uc ts[k]):=by obtain⟨h,_⟩|⟨g,off,i,d,e,f⟩:=h;rw[h] at b;simp at b;simp at d;exact⟨g,off,d.1,e,f k ts[k] (AE b)⟩
end
section
open Go.ChangeShapes Go.WideShapes Go.RowKit
theorem Tryz.SG:ownKnob Tryz.prog.godebug=U:=om
theorem Tryz.gEt : Tryz.prog.globalNamed "errors.errorType" = I 10 := by kernel_rfl
theorem Tryz.tRt : (Tryz.prog.cutTypes.find? (·.1 == "internal/reflectlite.rtype")).map (·.2) = I 303 := by kernel_rfl
theorem Tryz.Pn:Tryz.prog.types.size=452:=om
theorem Tryz.Pk:((List.range 452).filter λt=>Tryz.prog.rowNamed t [101,114,114,111,114])=[91]:=om
theorem Tryz.P9:Tryz.prog.cellsOf 440=1:=om
theorem Tryz.PD:Tryz.prog.cellsOf 9=1:=om
theorem starES : "*" ++ "errors.errorString" = "*errors.errorString" := by decide
theorem Tryz.RJ (u : TypeId) (h : Tryz.prog.typeName? 3 u = I "*errors.errorString") : u = 421 :=
 typeName_ptr_named (nm := "errors.errorString") (by rw [starES]; kernel_rfl) (by kernel_rfl) (by decide) u (by rw [starES]; exact h)
theorem Tryz.RR : Tryz.prog.globalNamed "lineal/fault.Text" = I 1 := by kernel_rfl
theorem Tryz.RE:(Tryz.prog.globals[1]?).map (·.type)=I 91:=om
theorem Tryz.RS : Tryz.prog.globalNamed "lineal/fault.Long" = I 2 := by kernel_rfl
theorem Tryz.RF:(Tryz.prog.globals[2]?).map (·.type)=I 91:=om
theorem Tryz.P4 : Tryz.prog.globalNamed "lineal/fault.Syntax" = I 9 := by kernel_rfl
theorem Tryz.PM:(Tryz.prog.globals[9]?).map (·.type)=I 91:=om
theorem Tryz.Rx : Tryz.prog.globalNamed "lineal/fault.Range" = I 3 := by kernel_rfl
theorem Tryz.Ro:(Tryz.prog.globals[3]?).map (·.type)=I 91:=om
theorem Tryz.Ry : Tryz.prog.globalNamed "lineal/fault.Count" = I 4 := by kernel_rfl
theorem Tryz.Rq:(Tryz.prog.globals[4]?).map (·.type)=I 91:=om
theorem Tryz.Ot : Tryz.prog.globalNamed "lineal/fault.Unsupported" = I 5 := by kernel_rfl
theorem Tryz.Om:(Tryz.prog.globals[5]?).map (·.type)=I 91:=om
theorem Tryz.RU : Tryz.prog.globalNamed "lineal/fault.Deep" = I 6 := by kernel_rfl
theorem Tryz.RH:(Tryz.prog.globals[6]?).map (·.type)=I 91:=om
theorem Tryz.RQ : Tryz.prog.globalNamed "lineal/fault.Tree" = I 7 := by kernel_rfl
theorem Tryz.RB:(Tryz.prog.globals[7]?).map (·.type)=I 91:=om
theorem Tryz.P5 : Tryz.prog.globalNamed "lineal/fault.Schema" = I 8 := by kernel_rfl
theorem Tryz.PN:(Tryz.prog.globals[8]?).map (·.type)=I 91:=om
theorem Tryz.SJ : Tryz.prog.globalNamed "lineal/fault.Big" = I 0 := by kernel_rfl
theorem Tryz.Sw:(Tryz.prog.globals[0]?).map (·.type)=I 91:=om
theorem zhE (h:handlesMet S [("errors.errorType", (Rows.laid_errors_errorType : DataW Unit))] W) : ∀ j, A W ⟨10, j, U⟩ = (#[Ud 303 (Uf #[Ua (I ⟨15, 91, U⟩)])] : Array Y)[j]? := by
 obtain⟨k,u,l,c,d,e,f,a⟩:=h _ (A5.2 rfl);have g:k=[101,114,114,111,114]:=(Bz c).symm;subst g;obtain rfl:=Bz (Tryz.tRt.symm.trans d);have b:l∈(List.range 452).filter λt=>Tryz.prog.rowNamed t [101,114,114,111,114]:=List.mem_filter.2 ⟨Ik.2 (by rw[<-Tryz.Pn];exact e),f⟩;rw[Tryz.Pk] at b;obtain rfl:=A5.1 b;have i:typeHandle S 91=Ua (I ⟨15,91,U⟩):=om
 rw[i] at a;exact λj=>World.var?_cell Tryz.gEt a j
theorem Z5 {n:String}{d:DataW Unit}{r:List (String×DataW Unit)}(h:laidMet S ((n,d):: r) W):laidMet S r W:=by obtain⟨ps,⟨g,t,j,k,p,q,_,_,_,_,e,rfl⟩,c,f⟩:=h;exact⟨q,e,List.Nodup.sublist (List.sublist_append_right _ _) c,λb i a=>f b i (M0 _ a)⟩
theorem jq {n:String}{g:Nat}{text:List UInt8}{r:List (String × DataW Unit)}(h:laidMet S ((n, .iface "*errors.errorString" (.ptr (.agg [.lit (.string text)]))) :: r) W)
  (hg:Tryz.prog.globalNamed n=some g) (ht:(Tryz.prog.globals[g]?).map (·.type)=some 91) :
  ∃(b:Addr) (s:ByteArray),(∀j,A W ⟨g,j,none⟩=(#[Value.iface 421 (.pointer (some b))]:Array Value)[j]?)/\A W b=some (.string s)/\s.data.toList=text/\(∃c t,W.heap[b.block]?=some (.cells c t (0,0)))/\laidMet S r W:=by
 have htail:laidMet S r W:=by
  obtain⟨ps,⟨g,t,cs,fuel,p,q,_,_,_,_,hq,rfl⟩,hnd,hrows⟩:=h;exact⟨q,hq,List.Nodup.sublist (List.sublist_append_right _ _) hnd,fun b off hm=>hrows b off (M0 _ hm)⟩
 obtain⟨ps,⟨g0,t0,cs0,f0,p0,q0,hg0,ht0,hv0,hd0,_,e0⟩,_,hrows⟩:=h;obtain rfl:=Bz (hg.symm.trans hg0);obtain rfl:=Bz (ht.symm.trans ht0);subst e0;obtain⟨l0⟩:=cs0;have ok0:∀u v,l0=[.iface u v]->Value.okWide S W .any 0 u v:=fun u v e=>by
  subst e;exact(hrows g 0 (by simp[MemPlace.row])).2 u v (by simpa using World.var?_cell hg0 hv0 0)
 obtain⟨b,s,rfl,hc,hs,_,hp⟩:=errorString_of_trod Tryz.underlying91 Tryz.RJ Tryz.underlying421 Tryz.underlying440 rfl rfl Tryz.underlying9 Tryz.P9 Tryz.PD hd0 ok0;refine⟨b,s,fun j=>World.var?_cell hg0 hv0 j,hc,hs,(hrows b.block b.off ?_).1,htail⟩;rw[hp];simp[MemPlace.row]
theorem jI {g:Nat}{T:TypeId}{x:Y}{b:Addr}{s:Al}(h:∀j,A W ⟨g,j,U⟩=(#[Ud T x]:Array Y)[j]?)(a:A W b=I (Uc s)):b.block≠g:=by
 intro e;have⟨d,c,i⟩:=b;cases i with
 |none=>
  have f:d=g:=e;subst f;rw[h c] at a;cases c with
  |zero=>simp at a
  |succ o=>simp at a
 |some y=>
  unfold A at a;simp at a;split at a<;>simp at a
def Ju:Nat->List UInt8
 |1=>[98,121,116,101,115,32,116,104,97,116,32,97,114,101,32,110,111,32,116,101,120,116]
 |2=>[116,111,111,32,109,97,110,121,32,98,121,116,101,115]
 |3=>[110,111,32,112,97,116,116,101,114,110]
 |4=>[97,32,114,97,110,103,101,32,111,114,32,99,111,117,110,116,115,32,116,104,101,32,119,114,111,110,103,32,119,97,121,32,97,98,111,117,116]
 |5=>[97,32,99,111,117,110,116,32,116,104,97,116,32,105,115,32,116,111,111,32,103,114,101,97,116]
 |6=>[97,32,112,97,116,116,101,114,110,32,116,104,97,116,32,110,101,101,100,115,32,109,101,109,111,114,121]
 |7=>[103,114,111,117,112,115,32,116,111,111,32,100,101,101,112,32,105,110,32,111,110,101,32,97,110,111,116,104,101,114]
 |8=>[97,32,112,97,116,116,101,114,110,32,116,104,97,116,32,105,115,32,116,111,111,32,108,97,114,103,101]
 |9=>[110,111,100,101,115,32,116,104,97,116,32,97,114,101,32,110,111,32,100,111,99,117,109,101,110,116]
 |10=>[115,99,104,101,109,97,115,32,116,104,97,116,32,109,97,121,32,110,111,116,32,98,101]
 |_=>[]
theorem zdB:((List.range 11).all λj=>(List.range 11).all λk=>decide (j=0) ||decide (k=0) ||decide (j=k) || !(Ju j == Ju k))=G:=by decide +kernel
theorem ze3 (j:Nat)(a:j<11)(k:Nat)(b:k<11)(d:1<=j)(f:1<=k)(c:j≠k):Ju j≠Ju k:=by have h:=List.all_eq_true.1 (List.all_eq_true.1 zdB j (Ik.2 a)) k (Ik.2 b);intro e;rw[e] at h;simp at h;omega
theorem WI (h:laidMetH dQ Rows.allRow.laid W):∃a,Start W a:=by
 obtain ⟨h1,h2⟩:=laidMetH_iff.1 h;have aq : handlesMet dQ [("errors.errorType", (Rows.laid_errors_errorType : DataW Unit))] W := h2;have L:=zhE aq;have an : laidMet dQ ([("math/bits.deBruijn32tab", Rows.laid_math_bits_deBruijn32tab), ("math/bits.deBruijn64tab", Rows.laid_math_bits_deBruijn64tab), ("internal/strconv.uint64pow10", Rows.laid_internal_strconv_uint64pow10), ("lineal/fault.Text", Rows.laid_lineal_fault_Text), ("lineal/fault.Long", Rows.laid_lineal_fault_Long), ("lineal/fault.Syntax", Rows.laid_lineal_fault_Syntax), ("lineal/fault.Range", Rows.laid_lineal_fault_Range), ("lineal/fault.Count", Rows.laid_lineal_fault_Count), ("lineal/fault.Unsupported", Rows.laid_lineal_fault_Unsupported), ("lineal/fault.Deep", Rows.laid_lineal_fault_Deep), ("lineal/fault.Big", Rows.laid_lineal_fault_Big), ("lineal/fault.Tree", Rows.laid_lineal_fault_Tree), ("lineal/fault.Schema", Rows.laid_lineal_fault_Schema)] : List (String × DataW Unit)) W := h1;have ao:=Z5 (Z5 (Z5 an));obtain ⟨f,s1,c1,b,x1,r1,t1⟩:=jq ao Tryz.RR Tryz.RE;obtain ⟨i,s2,u,T,x2,r2,t2⟩:=jq t1 Tryz.RS Tryz.RF;obtain ⟨l,s3,v,X,x3,r3,t3⟩:=jq t2 Tryz.P4 Tryz.PM;obtain ⟨m,s4,w,d4,x4,r4,t4⟩:=jq t3 Tryz.Rx Tryz.Ro;obtain ⟨n,s5,x,d5,x5,r5,t5⟩:=jq t4 Tryz.Ry Tryz.Rq;obtain ⟨o,s6,y,d6,x6,r6,t6⟩:=jq t5 Tryz.Ot Tryz.Om;obtain ⟨p,s7,z,d7,x7,r7,t7⟩:=jq t6 Tryz.RU Tryz.RH;obtain ⟨q,s8,B,d8,x8,r8,t8⟩:=jq t7 Tryz.SJ Tryz.Sw;obtain ⟨r,s9,F,d9,x9,r9,t9⟩:=jq t8 Tryz.RQ Tryz.RB;obtain ⟨g,aI,t,S,a2,aw,bo⟩:=jq t9 Tryz.P5 Tryz.PN;refine ⟨fun k=>match k with |1=>f |2=>i |3=>l |4=>m |5=>n |6=>o |7=>p |8=>q |9=>r |10=>g |_=>f,⟨(c1 0).trans rfl,(u 0).trans rfl,(v 0).trans rfl,(w 0).trans rfl,(x 0).trans rfl,(y 0).trans rfl,(z 0).trans rfl,(B 0).trans rfl⟩,⟨?_,?_,(F 0).trans rfl,(t 0).trans rfl⟩,L 0,?_⟩
 .intro k c d
  match k,c,d with
  |1,_,_=>exact r1
  |2,_,_=>exact r2
  |3,_,_=>exact r3
  |4,_,_=>exact r4
  |5,_,_=>exact r5
  |6,_,_=>exact r6
  |7,_,_=>exact r7
  |8,_,_=>exact r8
  |9,_,_=>exact r9
  |10,_,_=>exact aw
  |0,c,_=>exact absurd c od
  |k+11,_,d=>exact absurd d oa
 .have N:∀k,1<=k->k<=10->∃s:ByteArray,A W ((λk=>match k with|1=>f|2=>i|3=>l|4=>m|5=>n|6=>o|7=>p|8=>q|9=>r|10=>g|_=>f:Nat->Addr) k)=I (Uc s)/\s.data.toList=Ju k:=by
   intro k c d
   match k,c,d with
   |1,_,_=>exact⟨s1,b,x1⟩
   |2,_,_=>exact⟨s2,T,x2⟩
   |3,_,_=>exact⟨s3,X,x3⟩
   |4,_,_=>exact⟨s4,d4,x4⟩
   |5,_,_=>exact⟨s5,d5,x5⟩
   |6,_,_=>exact⟨s6,d6,x6⟩
   |7,_,_=>exact⟨s7,d7,x7⟩
   |8,_,_=>exact⟨s8,d8,x8⟩
   |9,_,_=>exact⟨s9,d9,x9⟩
   |10,_,_=>exact⟨aI,S,a2⟩
   |0,c,_=>exact absurd c od
   |k+11,_,d=>exact absurd d oa
  intro j k P j2 c d ar e;obtain⟨s,e1,e2⟩:=N j P j2;obtain⟨s',e3,e4⟩:=N k c d;have e6:=e1.symm.trans ((congrArg W.cell? e).trans e3);have es:s=s':=by simpa using e6
  subst es;exact ze3 j oa k oa P c ar (e2.symm.trans e4)
 .have bn:=zic W f b;have a1:=jI c1 b;have aa:=jI u b;have a3:=jI v b;have a4:=jI w b;have a5:=jI x b;have a6:=jI y b;have a7:=jI z b;have a8:=jI B b;have a9:=jI L b;have bc:=jI F b;have be:=jI t b;omega
theorem zdC (h:laidMetH S Rows.allRow.laid W):Tx W:=by
 obtain ⟨b,_⟩:=laidMetH_iff.1 h;have c : laidMet S (("math/bits.deBruijn32tab", (Rows.laid_math_bits_deBruijn32tab : DataW Unit)) :: ("math/bits.deBruijn64tab", Rows.laid_math_bits_deBruijn64tab) :: ("internal/strconv.uint64pow10", Rows.laid_internal_strconv_uint64pow10) :: _) W := b;have a:=Z5 (Z5 c);have e:(Rows.laid_internal_strconv_uint64pow10:DataW Unit)=Lib.tabData .u64 Lib.pow10Tab:=by rfl
 rw[e] at a;exact Lib.tabIs_of_head (t:=411) (e:=361) (n:=20) Dh om Tryz.underlying411 Tryz.underlying361 om om a
theorem WJ (h:laidMetH S Rows.allRow.laid W):∃a,UT W a (X (V W)):=by have⟨a,b⟩:=WI h;have d:=zdC h;refine⟨a,b,d,λk f g=>?_,AD _,d.lt⟩;have⟨c,t,e⟩:=b.rows.row k f g;exact(A1.1 e).1
end
section
open Go.RowKit Go.Deep Go.ChangeShapes
theorem No {w:E}{a:Addr}{v:Y}(h:A w a=I v):a.spot=U:=by unfold A at h;split at h;split at h;cases h;rename_i q;simpa using q;cases h
theorem Qb (off i:Nat):(⟨g,off,U⟩:Addr).add i=⟨g,off+i,U⟩:=by unfold Addr.add;split<;>simp_all
theorem Tryz.N5:Tryz.prog.cellsOf 3=1:=om
theorem Tryz.Ob:Tryz.prog.cellsOf 9=1:=om
theorem Tryz.Rb:Tryz.prog.bytesOf 3=8:=om
theorem Tryz.Ra:Tryz.prog.bytesOf 9=16:=om
section
variable {H:Type} {enc:TypeId×Value->H}
theorem zdD {W:E}{a0:Ap}{d c:Nat}{d0:DataW H}{p:List MemPlace}(v:DataW.Trod enc dQ W 0 (λ_=>G) G 29 (.slice a0 d c) d0 p){ts:List TypeId}{n:List (DataW H)}(L:(DataW.weightsEach dQ ts n).all (·<=reachBytes)=G){j:Nat}(B:ts[j]?=I 29)(s:n[j]?=I d0):∃ks,qN W (λg=>g<dg (V W)) (.slice a0 d c) ks/\(D ks)<=17592186044416:=by
 have⟨T,h⟩:=v;obtain⟨l,X⟩|⟨a,r,f,b,l,hb,ae,ab,N,F,o,_⟩:=open_ints Tryz.underlying29 Tryz.underlying3 Tryz.N5 h
 .have e:Value.slice a0 d c=.slice U 0 0:=by simpa [Value.cells] using l
  exact⟨[],Q ⟨rfl,U,0,e⟩,ov⟩
 have e:Value.slice a0 d c=.slice (I a) r f:=by simpa [Value.cells] using l
 rw[IN rfl] at N;have w:d0=.slice (lits J (b.take r)) (lits J (b.drop r)):=congrArg Prod.fst F;rw[w] at s;have m:=sized_slice L B s Tryz.underlying29;have t:(b.take r).length=r:=by simp;omega
 rw[Tryz.Rb] at m;simp[lits] at m;unfold reachBytes at m;refine⟨b.take r,?_,by rw[t];omega⟩;by_cases y:r=0;subst y;exact Q ⟨ov,I a,f,e⟩
 (have q:=o 0 oa;have⟨g,P,S⟩:=a;have u:=No q;have z:S=U:=by unfold Addr.add at u;split at u<;>simp_all);subst z;refine O ⟨g,P,f,by rw[t];exact e,?_,λi k x=>?_⟩;have:=zic W _ q;rw[Qb] at this;exact this;obtain⟨hi,rfl⟩:=AK.1 x;have ad:i<r:=oa;have:=o i oa;rw[Qb] at this;rw[this];simp[List.getD,List.getElem?_eq_getElem (show i<D b by omega)]
theorem Do {W:E}{a0:Ap}{c b:Nat}{d0:DataW H}{p:List MemPlace}(w:DataW.Trod enc dQ W 0 (λ_=>G) G 59 (.slice a0 c b) d0 p){ts:List TypeId}{n:List (DataW H)}(L:(DataW.weightsEach dQ ts n).all (·<=reachBytes)=G){j:Nat}(B:ts[j]?=I 59)(s:n[j]?=I d0):∃xs,XC W (.slice a0 c b) xs/\(D xs)<8796093022207:=by
 have⟨T,h⟩:=w;obtain⟨f,X⟩|⟨a,r,d,m,f,hb,ae,ab,N,F,o,_⟩:=open_strings Tryz.underlying59 Tryz.underlying9 Tryz.Ob h
 .have e:Value.slice a0 c b=.slice U 0 0:=by simpa [Value.cells] using f
  exact⟨[],Q ⟨rfl,U,0,e⟩,ov⟩
 have e:Value.slice a0 c b=.slice (I a) r d:=by simpa [Value.cells] using f
 rw[IN rfl] at N;have t:=congrArg Prod.fst F;simp only at t;rw[t] at s;have l:=sized_slice L B s Tryz.underlying59;have u:(m.take r).length=r:=by simp;omega
 rw[Tryz.Ra] at l;simp[strs] at l;unfold reachBytes at l;refine⟨m.take r,?_,by rw[u];omega⟩;by_cases y:r=0;subst y;exact Q ⟨ov,I a,d,e⟩
 (have q:=o 0 oa;have⟨g,P,S⟩:=a;have v:=No q;have z:S=U:=by unfold Addr.add at v;split at v<;>simp_all);subst z;refine O ⟨g,P,d,by rw[u];exact e,?_,λi k x=>?_⟩;have:=zic W _ q;rw[Qb] at this;exact this;obtain⟨hi,rfl⟩:=AK.1 x;have ad:i<r:=oa;have:=o i oa;rw[Qb] at this;rw[this];simp[List.getD,List.getElem?_eq_getElem (show i<D m by omega)]
end
end
section
open Go.RowKit
open Sm (Stp Tree yI)
theorem zbG (t:Tree)(v:Int)(hv:v<300)(ht:MR t)(X:K4 s t v w):Uh dQ 15 #[Uc s] w λx B=>∃g pb F W b,x=R (Ue #[Ua (I ⟨g,0,U⟩),M J 0,M J 0])/\TM B (λk=>dg (V w)<=k/\k<dg (V B)) g pb (AR F t).2 (AR F t).1 W b (v+1)/\WF F t/\BV (AR F t).2 W/\zke w B:=by have HP:=zd X;have d:=zd ht;have hm:min (v+1) 301=v+1:=oa;go_enter Tryz.func15,Tryz.ntmps15;go_wp2_with(first|(go_at_call 29;refine HP.mono ?_;rintro e w1 ⟨⟨T,y,F,rfl,hq,S⟩,z⟩;have i:=zd hq;have n:=zd S)|(go_at_call 32;refine(vX F _ _ _ v (by have o:=i.size;rw[zb n] at o;exact o)).mono ?_;rintro e w3 ⟨rfl,j⟩;have HQ:Hid (YO F w3 (dg (V w3)) (Ud T y) t):=⟨zC.keep j (λ_ _ f=>f) F _ _ i|> zC.mono (λg hg _=>hg) F _ _,(zb d F).1,(zb d F).2.1⟩)|(go_at_call 33;refine(Mc F t (Ud T y) _ HQ ⟨_,_,rfl⟩ (by have:=zb n;omega)).mono ?_;rintro e c ⟨pb,W,b,rfl,N,P,p,q,r,u,L⟩;have ae:=zd (⟨N.bound,p.Rk,q,r,u⟩:TX c _ pb _ _ W b);have HW:=zd (zf7 (zb d F).2.2 P)));go_ret3;have aj:=z.size;have ak:=j.size;have al:=L.size;have l:zke c (c.alloc (Ub #[M J (v+1),Ua (I ⟨pb,0,U⟩)] 66)):=Ag;have m:=yj c (Ub #[M J (v+1),Ua (I ⟨pb,0,U⟩)] 66);have a:=ae.keep l (λ_ _ f=>f);exact⟨_,pb,F,W,b,rfl,⟨⟨oa,by rw[m];omega⟩,zj _ _ rfl _ _ 0 _ rfl,zj _ _ rfl _ _ 1 _ rfl,⟨a.at'.mono (λk h=>⟨oa,by rw[m];omega⟩),a.cut.mono (λk h=>⟨oa,by rw[m];omega⟩),a.up,a.bd,a.al⟩,λk l=>l.2⟩,i.wf,HW,((z.trans j).trans L).alloc _⟩
def Uw (s:Al)(kids:Au)(r:Bool)(k p:Int):Prop:=
 (400<u s/\r=Z/\k=2/\p=400)\/(u s<=400/\0<=(zu s).2/\r=Z/\k=1/\p=(zu s).2)\/
 (u s<=400/\(zu s).2<0/\k=0/\p=0/\(r=G↔∃i j,i<=(zu s).1.length/\j<=(zu s).1.length/\Bf (zu s).1 67 kids i j))
theorem Uw.ex (kids:Au):∃r k p,Uw s kids r k p:=by
 by_cases a:u s<=400
 .by_cases b:0<=(zu s).2;exact⟨_,_,_,O (Q ⟨a,b,rfl,rfl,rfl⟩)⟩
  classical
  exact⟨decide _,0,0,O (O ⟨a,oa,rfl,rfl,decide_eq_true_iff⟩)⟩
 exact⟨_,_,_,Q ⟨oa,rfl,rfl,rfl⟩⟩
theorem DF {s:Al}{kids:Au}{r:Bool}{k p:Int}{ts:As}{q:Nat}{w:E}(h:Uw s kids r k p)(f:UD w q ts kids):Uh S 22 #[Ua (I ⟨q,0,U⟩),Uc s] w λx B=>x=R (Ue #[C r,M J k,M J p])/\zke w B:=by obtain⟨a,rfl,rfl,rfl⟩|⟨a,c,rfl,rfl,rfl⟩|⟨a,c,rfl,rfl,d⟩:=h;exact Wb q s 2 400 w od (JZ s w a);exact Wb q s 1 _ w od (V8 s w a c);refine(DD q s ts kids w f a c).mono ?_;rintro x B ⟨b,rfl,g,e⟩;rw[FE.2 (g.trans d.symm)];exact⟨rfl,e⟩
def Ii (w B:E)(A O D:Aj)(fb sb pb mb most:Nat)(N:Aq)(st:Nat)(W:Am)(d:Ar)(e:Az)(k:Int):Prop:=
 ∃(c b:Aj) (a:Az) (f:Y),UG B A c b fb sb pb mb most N st W d a f/\(k=0->1<=Bc a)/\(k≠0->a=e)/\(∀g,c g->O g\/X (V w)<=g)/\(∀g,b g->D g\/X (V w)<=g)/\zg O w B
theorem IR {s:Al}{t:Tree}{r:Bool}{k p:Int}{ts:As}{F fb sb pb mb most:Nat}{A O D:Aj}{W:Am}{m ks:Ar}{l:Az}{N b:Y}{w:E}{a:Nat->Addr}(h:Uw s t.kids r k p)(d:Start w a)(y:UG w A O D fb sb pb mb most (AR F t).2 (AR F t).1 W m l N)(T:BV (AR F t).2 W)(hT:vY (qH 22) ts t.kids)(S:t.kind=5)(hw:WF F t)(X:qN w (λ_=>True) b ks)(al:Bc ks<4611686018427387904):Uh dQ 21 #[Ua (I ⟨fb,0,U⟩),Uc s,b] w λx B=>x=R (Ue #[C r,M J k,M J p])/\Ii w B A O D fb sb pb mb most (AR F t).2 (AR F t).1 W m l k:=by
 have ad:∃x n c,b=.slice x n c:=by have⟨x,c,e⟩:=X.slice;exact⟨_,_,_,e⟩
 have key:∀(k:Nat) B,k≠0->zke w B->Ii w B A O D fb sb pb mb most (AR F t).2 (AR F t).1 W m l k:=λk B hk hO=>⟨O,D,l,N,y.NU hO,λe=>oa,λ_=>rfl,λg z=>Q z,λg z=>Q z,hO.mono (λ_ _ f=>f.elim)⟩
 obtain⟨o,rfl,rfl,rfl⟩|⟨o,v,rfl,rfl,rfl⟩|⟨o,v,rfl,rfl,h3⟩:=h;exact(zdA fb s b w a 2 400 ad d od od (wH s 400 oa w a d.sents)).mono (λx B q=>⟨q.1,key 2 B od q.2⟩);exact(zdA fb s b w a 1 _ ad d od od (YF s 400 oa o w a d.sents d.size v)).mono (λx B q=>⟨q.1,key 1 B od q.2⟩);refine(Em fb sb pb mb most _ A O D _ W m l N b s ks w a d y X al o v).mono ?_;rintro x B ⟨r',k',p',O',D',aj,ar,rfl,hr,q1,q2,q3⟩;obtain⟨a1,_⟩|⟨_,a2,_⟩|⟨_,_,rfl,rfl,a5⟩:=hr;omega;omega;have L:=xV.of s;have ax:=L.len;have hX:=y.env.prog.at';have e:r'=r:=FE.2 (a5.trans ((BX hX.stl hX.fit).trans (Iff.trans ⟨λ⟨i,j,P,b2,u⟩=>⟨i,j,oa,oa,(Xt hT S hw _ _ _).1 ((Xv L T P).1 u)⟩,λ⟨i,j,P,b2,u⟩=>⟨i,j,oa,oa,(Xv L T oa).2 ((Xt hT S hw _ _ _).2 u)⟩⟩ h3.symm)));rw[e];exact⟨rfl,O',D',aj,ar,q1,q2,λe=>absurd rfl e,q3⟩
def fmtS (f:Nat):Al:=match f with
 |1=>⟨#[94,92,100,123,52,125,45,92,100,123,50,125,45,92,100,123,50,125,36]⟩
 |2=>⟨#[94,92,100,123,50,125,58,92,100,123,50,125,40,58,92,100,123,50,125,41,63,36]⟩
 |3=>⟨#[94,91,48,45,57,97,45,102,65,45,70,93,43,36]⟩
 |4=>⟨#[94,40,92,100,123,49,44,51,125,92,46,41,123,51,125,92,100,123,49,44,51,125,36]⟩
 |5=>⟨#[94,91,94,64,92,115,93,43,64,91,94,64,92,115,93,43,36]⟩
 |_=>⟨#[94,92,119,43,40,45,92,119,43,41,42,36]⟩
theorem ze5 (f:Nat)(b:1<=f)(c:f<=6)(w:E):Uh S 132 #[M J (f:Nat)] w λx B=>x=R (Uc (fmtS f))/\zke w B:=by
 have a:Hid (zke w w):=zg.refl _ _;obtain rfl|rfl|rfl|rfl|rfl|rfl:f=1\/f=2\/f=3\/f=4\/f=5\/f=6:=oa
 all_goals
  go_enter Tryz.func132,Tryz.ntmps132;go_wp2;go_ret;exact⟨rfl,a⟩

def yX (w:E)(base:Nat)(v:Y)(s:Al):Prop:=qM w v (zP s (u s+1) 0)/\∀g,dH v=I g->base<=g/\g<X (V w)
theorem yX.keep {P:Aj}{w B:E}{base:Nat}{v:Y}{s:Al}(h:yX w base v s)(k:zg P w B)(f:∀g,base<=g->¬P g):yX B base v s:=by refine⟨?_,λg b=>⟨(h.2 g b).1,AM (h.2 g b).2 k.size⟩⟩;obtain a|⟨g,c,a,d,e⟩:=h.1;exact Q a;exact O ⟨g,c,a,d,e.keep k (f g (h.2 g (by rw[a];rfl)).1)⟩
theorem yX.base {w:E}{b c:Nat}{v:Y}{s:Al}(h:yX w b v s)(d:c<=b):yX w c v s:=⟨h.1,λg a=>⟨AP d (h.2 g a).1,(h.2 g a).2⟩⟩
theorem zdE (o:ym w a)(r:10<=X (V w))(q:u s<=400)(p:(zu s).2<0):Uh S 46 #[Uc s,M J 400] w λx B=>∃b n c,x=R (Ue #[.slice b n c,Ui])/\yX B (X (V w)) (.slice b n c) s/\zke w B:=by refine(jH s 400 oa q w a o r p).mono ?_;rintro e t ⟨v,rfl,d,m⟩;obtain⟨b,n,c,rfl⟩:=zq d;refine⟨b,n,c,rfl,⟨?_,λg i=>⟨by have:=(zh d g i).1;omega,(zh d g i).2⟩⟩,m⟩;obtain⟨f,h⟩|⟨k,j,f,h,_,l⟩:=X8 d;exact Q ⟨f,h⟩;exact O ⟨k,j,f,h,l⟩
theorem set3 {a g b:E}{T o:Nat}{x y z N P S:Y}(h:b=((g.setCell ⟨T,o,U⟩ x).setCell ⟨T,o+1,U⟩ y).setCell ⟨T,o+2,U⟩ z)(k:zke a g)(d:A a ⟨T,o,U⟩=I N)(q:A a ⟨T,o+1,U⟩=I P)(r:A a ⟨T,o+2,U⟩=I S)(p:∀j,dz a ⟨T,j,U⟩=Z):A b ⟨T,o,U⟩=I x/\A b ⟨T,o+1,U⟩=I y/\A b ⟨T,o+2,U⟩=I z/\(∀j v,j≠o->j≠o+1->j≠o+2->A a ⟨T,j,U⟩=I v->A b ⟨T,j,U⟩=I v)/\(∀j,dz b ⟨T,j,U⟩=Z)/\zg (zr T) a b:=by subst h;have w:T<X (V a):=zic a _ d;have l:=zf k _ _ d id;have m:=zf k _ _ q id;have n:=zf k _ _ r id;have s:∀(c:E) (i j:Nat) (u:Y),i≠j->(dC c ⟨T,j,U⟩ u).cell? ⟨T,i,U⟩=A c ⟨T,i,U⟩:=λc i j u e=>AN _ _ _ _ ov;refine⟨?_,?_,?_,λj v B F L t=>?_,λj=>?_,((((k.mono (λ_ _ f=>f.elim)).NS o x).NS (o+1) y).NS (o+2) z)⟩;rw[s _ _ _ _ oa,s _ _ _ _ oa];exact AX _ _ _ l;rw[s _ _ _ _ oa];exact AX _ _ _ ((s _ _ _ _ oa).trans m);exact AX _ _ _ (((s _ _ _ _ oa).trans (s _ _ _ _ oa)).trans n);rw[s _ _ _ _ L,s _ _ _ _ F,s _ _ _ _ B];exact zf k _ _ t id;rw[zl,zl,zl];exact zp k _ w (p j) id

theorem Gs (x:Ap)(l c:Nat)(a:E):(binOp .eql 29 (.slice x l c) (.slice U 0 0)).run S a=.ok (C x.isNone) a:=by have h:=run_equal_slice_nil (P:=S) a 29 3 x l c Tryz.underlying29;simp[binOp,h]
end
section
open Go.ChangeShapes Go.WideShapes Go.ChangeAt Go.RowKit
open Go.ChangeMaps (open_string)
theorem Tryz.kids:Kids S (· < Tryz.prog.types.size):=kids_rows om om
theorem Tryz.full:∀t e,t<Tryz.prog.types.size->Tryz.prog.underlying t=I (.slice e)->0<Tryz.prog.cellsOf e:=slices_full_of S om
section
variable {H:Type} {enc:TypeId×Value->H}
theorem Qt {W W':E}{j:Nat->Bool}(a:zke W W'):∀{ts:List TypeId} {vs:An} {d:List (DataW H)} {ps:List MemPlace},DataW.TrodAll enc S W 0 j G ts vs d ps->(∀q∈ps,q.block<X (V W))->DataW.TrodAll enc S W' 0 j G ts vs d ps
 | [],[],[],_,h,_=>h
 |_ :: _,_ :: _,_ :: _,_,⟨p,q,⟨n,k⟩,l,e⟩,g=>⟨p,q,⟨n,DataW.trod_carry n _ _ _ k (λx c=>by
   have i:=g x (by rw[e];exact LC _ c);cases x with
   |cell b off=>exact a.cell (p:=⟨b,off,U⟩) i id
   |map b=>exact a.block b i id)⟩,Qt a l (λx c=>g x (by rw[e];exact M0 _ c)),e⟩
end
theorem K5 {H:Type}{d:DataW H}:∀{l:List (DataW H)},d∈l->Rows.uptoBulk d<=Rows.uptoBulkAll l
 | [],h=>by cases h
 |x :: r,h=>by
  simp only[Rows.uptoBulkAll];obtain rfl|e:=BZ.1 h;omega;have:=K5 e;omega
theorem Dt {H:Type}{l:List (DataW H)}(h:Rows.uptoSmall H l=G):Rows.uptoBulkAll l<=1048576:=of_decide_eq_true h
end
section
open Go.RowKit
open Sm (Stp Tree)
structure Tk (s:Al)(v:Int)(t:Tree)(ts:As):Prop where
 v0:0<=v
 v1:v<300
 ok:MR t
 ref:Wj s v ts
 pat:∀(w:E) (a:Nat->Addr),Start w a->K4 s t v w
 tok:vY (qH 22) ts t.kids
 tb:∀x∈ts,kG x
 len:D ts<=1000
 k5:t.kind=5
def Bd (s:Al):Prop:=∃(k:Nat) (p:Int),1<=k/\k<=8/\Ng s k p/\(∀(w:E) (a:Nat->Addr),Start w a->MN s a k p w)/\Nf s=Z
theorem Df:Bd s\/∃t v ts,Tk s v t ts:=by obtain h|⟨v,t,ts,a,b,c,d,e,f,g,i,j⟩:=Wk s;exact Q h;exact O ⟨t,v,ts,a,b,c,d,e,f,g,i,j⟩
open Classical in
noncomputable def jm (s:ByteArray):Option Tree:=if h:∃t v ts,Tk s v t ts then I (Classical.choose h) else U
theorem Z6 {s:Al}(h:jm s=U):Bd s:=by unfold jm at h;split at h;cases h;rename_i q;exact(Df s).resolve_right q
theorem Z7 {s:Al}{t:Tree}(h:jm s=I t):∃v ts,Tk s v t ts:=by
 unfold jm at h;split at h
 grind
 cases h
noncomputable def hitT (t:Tree)(s:ByteArray):Bool:=Classical.choose (Uw.ex s t.kids)
theorem zdF (t:Tree)(s:Al):∃k p,Uw s t.kids (hitT t s) k p:=Classical.choose_spec (Uw.ex s t.kids)
noncomputable def wI (p s:ByteArray):Bool:=match jm p with
 |none=>Z
 |some t=>hitT t s
theorem ze6:Uh S 80 #[Uc p] w λx B=>x=R (C (jm p).isSome)/\zke w B:=by
 cases hp:jm p with
 |none=>
  have⟨k,q,i,j,c,_⟩:=Z6 hp;have a:=zd c;have f:((k:Int) == 0)=Z:=by simp;omega
  go_enter Tryz.func80,Tryz.ntmps80;go_wp2_with(go_at_call 16;refine(zb a _).mono ?_;rintro e d ⟨rfl,b⟩);go_ret;exact⟨rfl,b⟩
 |some t=>
  have⟨v,ts,h⟩:=Z7 hp;have a:=zd h.ref;go_enter Tryz.func80,Tryz.ntmps80;go_wp2_with(go_at_call 16;refine(zb a _).mono ?_;rintro e d ⟨g,rfl,b,_⟩);go_ret;exact⟨rfl,b⟩
theorem QK:Uh dQ 81 #[Uc p,Uc s] w λx B=>x=R (C (wI p s))/\zke w B:=by
 unfold wI;cases hp:jm p with
 |none=>
  have⟨k,q,T,W,n,_⟩:=Z6 hp;have d:=zd n;have S:((k:Int) != 0)=G:=by simp;omega
  go_enter Tryz.func81,Tryz.ntmps81;go_wp2_with(go_at_call 16;refine(zb d _).mono ?_;rintro e a ⟨rfl,f⟩);go_ret;exact⟨rfl,f⟩
 |some t=>
  have⟨v,ts,h⟩:=Z7 hp;have⟨k,q,l⟩:=zdF t s;simp only[];generalize hitT t s=r at *;have d:=zd h.ref;have o:Hid (∀(i a:E) (g:Nat) (b:Y),dg (V i)<=g->A a ⟨g,0,U⟩=I b->xK a (dg (V i)) b ts->Uh dQ 22 #[Ua (I ⟨g,0,U⟩),Uc s] a λx B=>x=R (Ue #[C r,M J k,M J q])/\zke a B):=λi a g b _ m c=>by refine DF l ⟨?_,h.tok,h.tb,h.len⟩;obtain⟨rfl,rfl⟩|⟨L,y,rfl,z,F⟩:=TF.of c;exact⟨U,0,m,Q ⟨rfl,rfl⟩⟩;exact⟨_,_,m,O ⟨L,y,rfl,z,F⟩⟩
  go_enter Tryz.func81,Tryz.ntmps81;go_wp2_with(first|(go_at_call 16;refine(zb d _).mono ?_;rintro e a ⟨g,rfl,f,P,_,b,j,c⟩;have u:=zd c;have H0:=zd j)|(go_at_call 22;refine(zb o _ _ _ b P H0 u).mono ?_;rintro e X ⟨rfl,N⟩));go_ret;exact⟨rfl,f.trans N⟩
def CM (w:E)(Q:Prop)(x:Ending)(B:E):Prop:=∃b:Bool,x=R (C b)/\(b=G↔Q)/\zke w B
structure Nd where
 kind:Int
 parent:Int
 key:Al
 text:Al
abbrev _root_.Go.Proofs.YtofeiledkmfnfaaGreatDoor.Av:=List Nd
def Nd.cells (n:Nd):An:=[M J n.kind,M J n.parent,Uc n.key,Uc n.text]
def Zf (w:E)(v:Y)(ns:Av):Prop:=∃a d,v=.slice a (D ns) d/\∀(i:Nat) n,ns[i]?=I n->∃b c,a=I ⟨b,c,U⟩/\∀(j:Nat) u,n.cells[j]?=I u->A w ⟨b,c+i*4+j,U⟩=I u
variable {w}
theorem Zf.keep {ns:Av}(h:Zf w v ns)(k:zke w B):Zf B v ns:=by have⟨a,c,d,g⟩:=h;refine⟨a,c,d,λi n m=>?_⟩;have⟨b,p,e,l⟩:=g i n m;exact⟨b,p,e,λj u o=>zf k _ _ (l j u o) id⟩
def AV (s:Al):Bool:=decide ((zu s).2<0) && decide (u s<=400)
def Nd.own (n:Nd):Prop:=AV n.key=G/\AV n.text=G/\0<=n.kind/\n.kind<=5/\(n.kind=3\/n.text.toList=[])
def Nd.there (ns:Av)(k:Nat)(n:Nd):Prop:=
 if k=0 then n.parent = -1/\n.key.toList=[] else 0<=n.parent/\n.parent<k/\∃p,ns[n.parent.toNat]?=I p/\(if p.kind=5 then ∀(i:Nat) m,1<=i->i<k->ns[i]?=I m->¬(m.parent=n.parent/\m.key.toList=n.key.toList) else p.kind=4/\n.key.toList=[])
def xM (ns:Av)(k:Nat):Prop:=∃n,ns[k]?=I n/\n.own/\n.there ns k
theorem zaL (w:E):Uh S 48 #[Uc s] w λx B=>∃a n c e p,x=R (Ue #[.slice a n c,M J e,M J p])/\(e != 0) = !AV s/\zke w B:=by by_cases d:u s<=400;by_cases f:0<=(zu s).2;refine(V8 s w d f).mono ?_;rintro x B ⟨rfl,b⟩;exact⟨_,_,_,_,_,rfl,by unfold AV;rw[decide_eq_false (p:=(zu s).2<0) oa];rfl,b⟩;refine(K3 s w d oa).mono ?_;rintro x B ⟨g,h,rfl,_,b⟩;exact⟨_,_,_,_,_,rfl,by unfold AV;rw[decide_eq_true (p:=(zu s).2<0) oa,decide_eq_true d];rfl,b⟩;refine(JZ s w oa).mono ?_;rintro x B ⟨rfl,b⟩;exact⟨_,_,_,_,_,rfl,by unfold AV;rw[decide_eq_false d,Bool.and_false];rfl,b⟩
theorem zhF (ns:Av)(v:Y)(k:Nat)(w:E)(hN:Zf w v ns)(hk:k<D ns)(hl:D ns<=40):Uh dQ 40 #[v,M J (k:Nat)] w (CM w (xM ns k)):=by
 obtain⟨a,a6,rfl,hC⟩:=hN;obtain⟨aC,aO,rfl,X⟩:=hC k ns[k] (AE hk);have hn:=AE hk;generalize ns[k]=n at *;have⟨o,d,l,r⟩:=n;have c0:A w ⟨aC,aO+k*4,U⟩=I (M J o):=X 0 _ rfl;have c1:=X 1 _ rfl;have c2:=X 2 _ rfl;have c3:=X 3 _ rfl;have HC:=zd hC;have HX:Hid (∀b:Bool,(b=G↔Nd.own ⟨o,d,l,r⟩/\Nd.there ns k ⟨o,d,l,r⟩)->(b=G↔xM ns k)):=λb y=>y.trans ⟨λh=>⟨_,hn,h⟩,λ⟨m,h1,h2⟩=>by cases hn.symm.trans h1;exact h2⟩;clear hC X hn;have HB:Hid (∀W,zke (dB w (Ub #[M J o,M J d,Uc l,Uc r] 61)) W->A W ⟨f (V w),0,U⟩=I (M J o)/\A W ⟨f (V w),1,U⟩=I (M J d)/\A W ⟨f (V w),2,U⟩=I (Uc l)/\A W ⟨f (V w),3,U⟩=I (Uc r)):=λW k=>⟨zf k _ _ (zj w _ rfl _ _ 0 _ rfl) id,zf k _ _ (zj w _ rfl _ _ 1 _ rfl) id,zf k _ _ (zj w _ rfl _ _ 2 _ rfl) id,zf k _ _ (zj w _ rfl _ _ 3 _ rfl) id⟩
 go_enter Tryz.func40,Tryz.ntmps40;go_upto_region 3 with(go_at_call 48;refine(zaL l _).mono ?_;rintro e w1 ⟨_,_,_,e1,p1,rfl,aH,ap⟩;have⟨y0,y1,y2,y3⟩:=zb HB w1 ap);go_upto_region 4 with(go_at_call 48;refine(zaL r _).mono ?_;rintro e w2 ⟨_,_,_,e2,p2,rfl,aI,aG⟩;have aq:=ap.trans aG;clear y0 y1 y2 y3;have⟨y0,y1,y2,y3⟩:=zb HB w2 aq);have t:Hid (zke w w2):=Ag.trans aq;have HV:Hid (Nd.own ⟨o,d,l,r⟩↔e1=0/\e2=0/\0<=o/\o<=5/\(o=3\/r.toList=[])):=by
  have t1:AV l=G↔e1=0:=by rw[<-Bool.not_eq_false',<-aH];simp
  have t2:AV r=G↔e2=0:=by rw[<-Bool.not_eq_false',<-aI];simp
  show _↔_;unfold Nd.own;rw[t1,t2]
 clear c0 c1 c2 c3 ap aG aq aH aI;go_cut[7,10,57] (λ_ _ c wx=>(∃b:Bool,c=C b/\(b=G↔¬Nd.own ⟨o,d,l,r⟩))/\wx=w2)
 case first=>
  go_wp2;all_goals go_meet
  all_goals
   refine⟨⟨_,rfl,?_⟩,rfl⟩;rw[zb HV];clear y0 y1 y2 y3;simp[*]
   try omega
 case rest=>
  obtain⟨⟨b,rfl,y⟩,rfl⟩:=hcut;have HY:=zd HX;cases b
  .have ho:Nd.own ⟨o,d,l,r⟩:=Classical.byContradiction λc=>(by simpa using y.2 c);have ac:Hid (∀b:Bool,(b=G↔Nd.there ns k ⟨o,d,l,r⟩)->(b=G↔xM ns k)):=λb h=>zb HX b (h.trans ⟨λq=>⟨ho,q⟩,λq=>q.2⟩);clear y ho HX HY HV;by_cases aK:k=0
   ·(subst aK;have N:Hid (Nd.there ns 0 ⟨o,d,l,r⟩↔d = -1/\l.toList=[]):=(by show _↔_;unfold Nd.there;rw[IN rfl]);go_wp2;all_goals go_ret);all_goals exact⟨_,rfl,zb ac _ (by rw[zb N];simp[*]),t⟩
   have a9:((k:Int) == 0)=Z:=ou;have N:Hid (Nd.there ns k ⟨o,d,l,r⟩↔0<=d/\d<k/\∃p,ns[d.toNat]?=I p/\(if p.kind=5 then ∀(i:Nat) m,1<=i->i<k->ns[i]?=I m->¬(m.parent=d/\m.key.toList=l.toList) else p.kind=4/\l.toList=[])):=(by show _↔_;unfold Nd.there;rw[iN aK]);by_cases hp:0<=d/\d<k
   .obtain⟨m,rfl⟩:∃m:Nat,d=m:=⟨d.toNat,oa⟩
    have aL:m<D ns:=oa;have bb:(m:Int)<(k:Int):=hp.2;have⟨aQ,a1,e',ar⟩:=zb HC m ns[m] (AE aL);cases e';have ag:=AE aL;generalize ns[m]=p at ar ag;have d0:A wc ⟨aC,aO+m*4,U⟩=I (M J p.kind):=zf t _ _ (ar 0 _ rfl) id;have P:Hid (∀b:Bool,(b=G↔if p.kind=5 then ∀(i:Nat) q,1<=i->i<k->ns[i]?=I q->¬(q.parent=m/\q.key.toList=l.toList) else p.kind=4/\l.toList=[])->(b=G↔xM ns k)):=λb y=>zb ac b (y.trans (N.trans ⟨λ⟨_,_,q,T,g2⟩=>by rw[CH,ag] at T;cases T;exact g2,λg=>⟨oa,oa,p,by rw[CH];exact ag,g⟩⟩).symm);clear hp ar ag N ac;by_cases L:p.kind=5
    .have aX:(p.kind != 5)=Z:=(by simp[L]);rw[IN L] at P;clear L;go_wp2;go_loopw[13] (λx wr=>∃i:Nat,x=M J i/\1<=i/\i<=k/\Hid (zke wc wr)/\Hid (∀(j:Nat) q,1<=j->j<i->ns[j]?=I q->¬(q.parent=m/\q.key.toList=l.toList))) (λx _=>k-(intOf x).toNat);exact⟨1,rfl,oa,oa,zg.refl _ _,λj _ T g2=>oa⟩;obtain⟨i,rfl,T,g2,u,HD⟩:=hrel;replace y1:=zf u _ _ y1 id;replace y2:=zf u _ _ y2 id;clear y0 y3 d0;by_cases aZ:i<k
     .have⟨aQ,a1,e',ae⟩:=zb HC i ns[i] (AE oa);cases e';have aw:=AE (show i<D ns by omega);generalize ns[i]=q at ae aw;have d1:=zf (t.trans u) _ _ (ae 1 _ rfl) id;have d2:=zf (t.trans u) _ _ (ae 2 _ rfl) id;have HQ:=zd aw;clear ae aw;by_cases F:q.parent=m
      .have a0:(q.parent == (m:Int))=G:=(by simp[F]);cases hk2:(q.key.toList == l.toList)
       ·(have HN:Hid (∀(j:Nat) s,1<=j->j<i+1->ns[j]?=I s->¬(s.parent=m/\s.key.toList=l.toList)):=λj s S a2 B=>by by_cases c:j<i;exact zb HD j s S c B;obtain rfl:j=i:=oa;cases(zb HQ).symm.trans B;intro c;rw[c.2] at hk2;simp at hk2);clear F;go_wp2;go_region;go_wp2;exact⟨⟨i+1,Ae,oa,oa,u.drewN _,HN⟩,Ad⟩
       have z:Hid (Z=G↔xM ns k):=zb P Z (Iff.intro (λc=>by cases c) (λc=>absurd ⟨F,by simpa using hk2⟩ (c i q T aZ HQ)));clear F;go_wp2;go_region;go_wp2;go_ret;exact⟨_,rfl,z,t.trans (u.drewN _)⟩
      (have a0:(q.parent == (m:Int))=Z:=(by simp[F]);have HN:Hid (∀(j:Nat) s,1<=j->j<i+1->ns[j]?=I s->¬(s.parent=m/\s.key.toList=l.toList)):=λj s S a2 B=>by by_cases c:j<i;exact zb HD j s S c B;obtain rfl:j=i:=oa;cases(zb HQ).symm.trans B;exact λc=>F c.1);clear F;go_wp2;go_region;go_wp2;exact⟨⟨i+1,Ae,oa,oa,u.drewN _,HN⟩,Ad⟩
     have z:Hid (xM ns k):=(zb P G (Iff.intro (λ_ j q S a2 B=>zb HD j q S oa B) (λ_=>rfl))).1 rfl;go_wp2;go_ret;exact⟨_,rfl,⟨λ_=>zb z,λ_=>rfl⟩,t.trans u⟩
    (have aX:(p.kind != 5)=G:=(by simp[L]);rw[iN L] at P;clear L;go_wp2;all_goals go_ret);all_goals exact⟨_,rfl,zb P _ (by simp[*]),t⟩
   have z:Hid (Z=G↔xM ns k):=zb ac Z (N.trans ⟨λq=>absurd ⟨q.1,q.2.1⟩ hp,λq=>by cases q⟩).symm;have av:d<0\/(0<=d/\(k:Int)<=d):=oa;clear hp;obtain av|⟨av,bc⟩:=av
   all_goals
    go_wp2;go_ret;exact⟨_,rfl,z,t⟩
  have z:Hid (Z=G↔xM ns k):=zb HX Z (Iff.intro (λq=>by cases q) (λq=>absurd q.1 (y.1 rfl)));clear y;go_wp2;go_ret;exact⟨_,rfl,z,t⟩
structure Sc where
 hp:Bool
 pat:Al
 fmt:Int
 keys:List Al
 subs:Ar
 more:Int
abbrev _root_.Go.Proofs.YtofeiledkmfnfaaGreatDoor.Aw:=List Sc
theorem XC.keep (h:XC w v ts)(k:zke w B):XC B v ts:=by obtain h|⟨g,i,a,b,c,d⟩:=h;exact Q h;exact O ⟨g,i,a,b,AM c k.size,λj s e=>zf k _ _ (d j s e) id⟩
structure Uz (w:E)(s:Sc)(ka:Ap)(kc:Nat)(sa:Ap)(sc:Nat):Prop where
 k:XC w (.slice ka (D s.keys) kc) s.keys
 s:qN w (λ_=>True) (.slice sa (D s.subs) sc) s.subs
theorem Uz.keep {w B:E}{s:Sc}{a b:Ap}{kc c:Nat}(h:Uz w s a kc b c)(k:zke w B):Uz B s a kc b c:=⟨h.k.keep k,h.s.keep k (λ_ _ f=>f)⟩
def Sc.val (s:Sc)(a:Ap)(kc:Nat)(b:Ap)(c:Nat):Y:=Uf #[C s.hp,Uc s.pat,M J s.fmt,.slice a (D s.keys) kc,.slice b (D s.subs) c,M J s.more]
def ZL (f:Int):Al:=if 1<=f/\f<=5 then fmtS f.toNat else fmtS 6
theorem zdG (f:Int)(w:E):Uh S 82 #[M J f] w λx B=>x=R (Uc (ZL f))/\B=w:=by
 by_cases h:1<=f/\f<=5
 .obtain rfl|rfl|rfl|rfl|rfl:f=1\/f=2\/f=3\/f=4\/f=5:=by omega
  all_goals
   go_enter Tryz.func82,Tryz.ntmps82;go_wp2;go_ret;exact⟨rfl,rfl⟩
 have e:ZL f=fmtS 6:=iN h;rw[e];have a:(f == 1)=Z:=by simp;omega
 have b:(f == 2)=Z:=by simp;omega
 have c:(f == 3)=Z:=by simp;omega
 have d:(f == 4)=Z:=by simp;omega
 have g:(f == 5)=Z:=by simp;omega
 go_enter Tryz.func82,Tryz.ntmps82;go_wp2;go_ret;exact⟨rfl,rfl⟩
theorem ze7 (s:Sc)(t:Al)(n:Ap)(kc:Nat)(o:Ap)(p:Nat)(w:E):Uh S 43 #[s.val n kc o p,Uc t] w λx B=>x=R (Ue #[C (s.hp && !wI s.pat t),C ((s.fmt != 0) && !wI (ZL s.fmt) t)])/\zke w B:=by
 have⟨h,i,a,v,y,more⟩:=s;unfold Sc.val;simp only[];have l:=zd (QK i t);have d:=zd (QK (ZL a) t);generalize wI i t=F at *;generalize wI (ZL a) t=L at *;generalize m:ZL a=r at *;have HG:Hid (∀W,Uh S 82 #[M J a] W λx B=>x=R (Uc r)/\B=W):=λW=>by rw[<-m];exact zdG a W
 clear m;have j:Hid (∀W,zke (dB w (Ub #[C h,Uc i,M J a,.slice n (D v) kc,.slice o (D y) p,M J more] 63)) W->A W ⟨X (V w),2,U⟩=I (M J a)):=λW k=>zf k _ _ (zj w _ rfl _ _ 2 _ rfl) id;by_cases c:a=0
 .have g:(a != 0)=Z:=by simp[c]
  rw[g];clear c d HG;cases h
  .go_enter Tryz.func43,Tryz.ntmps43;go_wp2_with fail;go_ret2;exact⟨rfl,Ag⟩
  go_enter Tryz.func43,Tryz.ntmps43;go_wp2_with(go_at_call 81;refine(zb l _).mono ?_;rintro e q ⟨rfl,b⟩;have z:=zb j _ b);go_ret2;exact⟨ov,Ag.trans b⟩
 have g:(a != 0)=G:=by simp[c]
 rw[g];clear c;cases h
 .go_enter Tryz.func43,Tryz.ntmps43;go_wp2_with(first|(go_at_call 82;refine AL (zb HG _) ?_)|(go_at_call 81;refine(zb d _).mono ?_;rintro e q ⟨rfl,b⟩));go_ret2;exact⟨ov,Ag.trans b⟩
 go_enter Tryz.func43,Tryz.ntmps43;go_upto_region 5 with(go_at_call 81;refine(zb l _).mono ?_;rintro e q ⟨rfl,b⟩;have z:=zb j _ b);go_wp2_with(first|(go_at_call 82;refine AL (zb HG _) ?_)|(go_at_call 81;refine(zb d _).mono ?_;rintro e N ⟨rfl,u⟩));go_ret2;exact⟨ov,(Ag.trans b).trans u⟩
noncomputable def Sc.hits (s:Sc)(key:ByteArray):Nat->List Int
 |0=>[]
 |i+1=>s.hits key i++(if wI (s.keys.getD i ⟨#[]⟩) key then [s.subs.getD i 0] else [])
theorem Sc.N7 (s:Sc)(key:Al):∀i,(s.hits key i).length<=i
 |0=>AD _
 |i+1=>by
  have:=s.N7 key i;simp only[Sc.hits,AO];split<;>simp<;>omega
noncomputable def Sc.agn (s:Sc)(key:ByteArray):List Int×Bool:=
 if s.hits key s.keys.length≠[]\/s.more = -2 then(s.hits key s.keys.length,Z) else if s.more = -1 then([],G) else([s.more],Z)
def yq (l:Ar):An:=l.map (M J)
theorem zbH (s:Sc)(key:Al)(p:Ap)(kc:Nat)(q:Ap)(r:Nat)(w:E)(hL:Uz w s p kc q r)(he:D s.keys<=D s.subs)(hl:D s.keys<=6):Uh dQ 42 #[s.val p kc q r,Uc key] w λx B=>∃z,x=R (Ue #[z,C (s.agn key).2])/\B.ownsRow (dg (V w)) 3 1 z (s.agn key).1.length (yq (s.agn key).1)/\zke w B:=by
 have⟨i0,ax,aC,aD,aE⟩:=info_parts Tryz.N4;have HL:=zd hL;have S:Hid (∀W,zke (dB w (Ub #[C s.hp,Uc s.pat,M J s.fmt,.slice p (D s.keys) kc,.slice q (D s.subs) r,M J s.more] 63)) W->A W ⟨dg (V w),3,U⟩=I (.slice p (D s.keys) kc)/\A W ⟨dg (V w),4,U⟩=I (.slice q (D s.subs) r)/\A W ⟨dg (V w),5,U⟩=I (M J s.more)):=λW k=>⟨zf k _ _ (zj w _ rfl _ _ 3 _ rfl) id,zf k _ _ (zj w _ rfl _ _ 4 _ rfl) id,zf k _ _ (zj w _ rfl _ _ 5 _ rfl) id⟩
 have u:Hid (zke w (dB w (Ub #[C s.hp,Uc s.pat,M J s.fmt,.slice p (D s.keys) kc,.slice q (D s.subs) r,M J s.more] 63))):=Ag;clear hL;unfold Sc.val;go_enter Tryz.func42,Tryz.ntmps42;go_wp2;generalize aw:dB w (Ub #[C s.hp,Uc s.pat,M J s.fmt,.slice p (D s.keys) kc,.slice q (D s.subs) r,M J s.more] 63)=W at *;clear aw;go_loopw[6,7] (λz x wr=>∃i:Nat,x=M J i/\i<=D s.keys/\Hid (zke W wr)/\Hid (wr.ownsRow (dg (V W)) 3 1 z (s.hits key i).length (yq (s.hits key i)))) (λ_ x _=>D s.keys-(intOf x).toNat);exact⟨0,rfl,oa,zg.refl _ _,A0 _ _ _ _⟩;obtain⟨i,rfl,hi,h,m⟩:=hrel;have⟨y3,y4,y5⟩:=zb S wr h;obtain⟨la,ln,lc,rfl⟩:=zq m;have aA:ln=(s.hits key i).length:=by rcases(zb m).2 with⟨e,h0⟩|⟨g,aL,aN,e,_⟩<;>cases e;exact h0.symm;rfl
 subst aA;by_cases ah:i<D s.keys
 ·(obtain⟨gk,ok,rfl,_,ad⟩:=(HL.k).get ah;obtain⟨gs,os,rfl,ae⟩:=(HL.s).get (show i<D s.subs by omega);have ek:=zf (u.trans h) _ _ ad id;have es:=zf (u.trans h) _ _ ae id;have hh:s.hits key (i+1)=s.hits key i++(if wI s.keys[i] key then [s.subs[i]' oa] else []):=by simp only[Sc.hits];rw[B7,AE ah,B7,AE (show i<D s.subs by omega)];rfl);have X:=zd hh;have T:=zd (QK s.keys[i] key);generalize wI s.keys[i] key=b at *;generalize s.keys[i]=kk at *;generalize s.subs[i]=ss at *;clear ad ae hh;have az:=s.N7 key i;cases b
  .have F:Hid (s.hits key (i+1)=s.hits key i):=(by show _=_;rw[zb X];simp);go_wp2_with(go_at_call 81;refine(zb T _).mono ?_;rintro e w1 ⟨rfl,o⟩);exact⟨⟨i+1,Ae,oa,h.trans o,by rw[zb F];exact zk m o (λ_ _ f=>f)⟩,Ad⟩
  have F:Hid (s.hits key (i+1)=s.hits key i++[ss]):=(by show _=_;rw[zb X];simp);go_wp2_with(first|(go_at_call 81;refine(zb T _).mono ?_;rintro e w1 ⟨rfl,o⟩;have N:=zd (h.trans o);have ab:=zd (zk m o (λ_ _ f=>f));clear y3 y4 y5;have⟨y3,y4,y5⟩:=zb S w1 N;have aP:=zf o _ _ es id)|(at_builtin;refine zb ?_));refine zd ?_;have ai:=u.size;have aW:=N.size;refine yz _ rfl _ _ 29 rfl (dg (V W)) 3 i0 (M J 0) 1 8 Tryz.underlying29 ax aC aD aE rfl od (.slice la (s.hits key i).length lc) _ (yq (s.hits key i)) rfl (AZ ab _) _ 1 1 [M J ss] rfl rfl (cell_one_new _ _ _) (λx hx=>by simp at hx;subst hx;rfl) Ac oa ou ?_;intro v2 w2 P af aB;have ap:Hid (zke W w2):=((N.alloc _).grown af (λj hj=>O (by have:=(zh ab j hj).1;omega)))
  (have y:Hid (w2.ownsRow (dg (V W)) 3 1 v2 (s.hits key (i+1)).length (yq (s.hits key (i+1)))):=by show dA _ _ _ _ _ _ _;rw[zb F];unfold yq;rw[AO,CX];exact P);obtain⟨va,vn,vc,rfl⟩:=zq P;clear P af aB;go_wp2;exact⟨⟨i+1,Ae,oa,ap,y⟩,Ad⟩
 (obtain rfl:i=D s.keys:=oa;have az:=s.N7 key (D s.keys);have ai:=u.size;have t:=zd (u.trans h);have y:=zd (zL m ai);have a:s.agn key=if s.hits key (D s.keys)≠[]\/s.more = -2 then(s.hits key (D s.keys),Z) else if s.more = -1 then([],G) else([s.more],Z):=rfl);generalize s.hits key (D s.keys)=L at *;clear m h;by_cases d:L=[]/\¬s.more = -2
 .obtain⟨rfl,d⟩:=d;have d2:(s.more == -2)=Z:=(by simp[d]);rw[iN (by simp[d])] at a;by_cases n:s.more = -1
  .rw[IN n] at a;have d1:(s.more == -1)=G:=(by simp[n]);have l:=zd a;clear a n d;go_wp2;go_ret2;rw[zb l];exact⟨_,rfl,A0 _ _ _ _,t⟩
  rw[iN n] at a;have d1:(s.more == -1)=Z:=(by simp[n]);have l:=zd a;clear a n d;go_wp2;go_ret2;rw[zb l];refine⟨_,rfl,⟨rfl,O ⟨_,_,#[M J s.more],rfl,?_,?_,AD _,Ac,rfl,rfl⟩⟩,t.alloc _⟩;have:=t.size;omega;exact Lj
 rw[IN (by obtain c|c:=Classical.em (s.more = -2);exact O c;exact Q (λe=>d ⟨e,c⟩))] at a;have l:=zd a;have v:(L=[]/\s.more = -2)\/0<D L:=(by grind);clear a d;obtain⟨rfl,v⟩|v:=v
 .have d2:(s.more == -2)=G:=(by simp[v]);clear v;go_wp2;go_ret2;rw[zb l];exact⟨_,rfl,y,t⟩
 have h4:(0:Int)<(D L:Int):=oa;go_wp2;go_ret2;rw[zb l];exact⟨_,rfl,y,t⟩
def Sc.OK (s:Sc)(k m:Nat):Prop:=
 (0<=s.fmt/\s.fmt<=6/\(D s.keys)=D s.subs/\(D s.keys)<=6)/\(s.more = -2\/s.more = -1\/((k:Int)<s.more/\s.more<m))/\(s.hp=G->(jm s.pat).isSome=G)/\
 ∀i,i<D s.keys->(jm (s.keys.getD i ⟨#[]⟩)).isSome=G/\(k:Int)<s.subs.getD i 0/\s.subs.getD i 0<m
theorem zdH (s:Sc)(k m:Nat)(t:Ap)(kc:Nat)(u:Ap)(v:Nat)(w:E)(hL:Uz w s t kc u v):Uh dQ 41 #[s.val t kc u v,M J (k:Nat),M J (m:Nat)] w (CM w (s.OK k m)):=by
 have S:=zd hL;have p:Hid (∀W,zke (dB w (Ub #[C s.hp,Uc s.pat,M J s.fmt,.slice t (D s.keys) kc,.slice u (D s.subs) v,M J s.more] 63)) W->A W ⟨f (V w),3,U⟩=I (.slice t (D s.keys) kc)/\A W ⟨f (V w),4,U⟩=I (.slice u (D s.subs) v)):=λW k=>⟨zf k _ _ (zj w _ rfl _ _ 3 _ rfl) id,zf k _ _ (zj w _ rfl _ _ 4 _ rfl) id⟩
 have h:Hid (zke w (dB w (Ub #[C s.hp,Uc s.pat,M J s.fmt,.slice t (D s.keys) kc,.slice u (D s.subs) v,M J s.more] 63))):=Ag;clear hL;unfold Sc.val;go_enter Tryz.func41,Tryz.ntmps41;go_upto_region 1 with fail;generalize F:dB w (Ub #[C s.hp,Uc s.pat,M J s.fmt,.slice t (D s.keys) kc,.slice u (D s.subs) v,M J s.more] 63)=W at *;have P:A W ⟨f (V w),0,U⟩=I (C s.hp):=by rw[<-F];exact zj w _ rfl _ _ 0 _ rfl
 have y1:A W ⟨f (V w),1,U⟩=I (Uc s.pat):=by rw[<-F];exact zj w _ rfl _ _ 1 _ rfl
 have y2:A W ⟨f (V w),2,U⟩=I (M J s.fmt):=by rw[<-F];exact zj w _ rfl _ _ 2 _ rfl
 have y5:A W ⟨f (V w),5,U⟩=I (M J s.more):=by rw[<-F];exact zj w _ rfl _ _ 5 _ rfl
 have⟨l,n⟩:=zb p W (zg.refl _ _);clear F;go_cut[32] (λc N=>(∃b:Bool,c=C b/\(b=G↔¬(0<=s.fmt/\s.fmt<=6/\(D s.keys)=D s.subs/\(D s.keys)<=6)))/\N=W)
 case first=>
  clear P y1 y5;go_wp2;all_goals go_meet
  all_goals
   refine⟨⟨_,rfl,?_⟩,rfl⟩;clear y2 l n p h S;simp[*]
   try omega
 case rest=>
  obtain⟨⟨b,rfl,o⟩,rfl⟩:=hcut;cases b
  .have z:0<=s.fmt/\s.fmt<=6/\(D s.keys)=D s.subs/\(D s.keys)<=6:=Classical.byContradiction λc=>(by simpa using o.2 c);clear o;go_upto_region 3 with fail;go_cut[0,52] (λ_ c N=>(∃b:Bool,c=C b/\(b=G↔¬(s.more = -2\/s.more = -1\/((k:Int)<s.more/\s.more<m))))/\N=wc)
   case first=>
    clear P y1 y2 l n p h S z;go_wp2;all_goals go_meet
    all_goals
     refine⟨⟨_,rfl,?_⟩,rfl⟩;clear y5;simp[*]
     try omega
   case rest=>
    obtain⟨⟨b,rfl,o⟩,rfl⟩:=hcut;cases b
    .have hM:s.more = -2\/s.more = -1\/((k:Int)<s.more/\s.more<m):=Classical.byContradiction λc=>(by simpa using o.2 c);have aH:=z.2.2.2;have aI:D s.keys<=D s.subs:=oa;have HQ:Hid ((s.hp=G->(jm s.pat).isSome=G)/\(∀i,i<D s.keys->(jm (s.keys.getD i ⟨#[]⟩)).isSome=G/\(k:Int)<s.subs.getD i 0/\s.subs.getD i 0<m)↔s.OK k m):=⟨λq=>⟨z,hM,q⟩,λq=>q.2.2⟩
     clear o z hM;have HT:=zd ze6;generalize wc=W1 at *;go_upto_if 54 with fail;go_cut[6] (λ_ N=>Hid (s.hp=G->(jm s.pat).isSome=G)/\Hid (zke W1 N))
     case first=>
      cases hh:s.hp
      .rw[hh] at P;have y:Hid (s.hp=G->(jm s.pat).isSome=G):=λq=>(by rw[hh] at q;cases q);clear hh;go_wp2;go_meet
       case rel=>exact⟨y,zg.refl _ _⟩
      rw[hh] at P;cases hp:(jm s.pat).isSome
      .have a:Hid (∀W,Uh dQ 80 #[Uc s.pat] W λx B=>x=R (C Z)/\zke W B):=λW=>(by rw[<-hp];exact zb HT s.pat W);have g:Hid (¬s.OK k m):=λq=>(by have:=q.2.2.1 hh;rw[hp] at this;cases this);clear hh hp;go_wp2_with(go_at_call 80;refine(zb a _).mono ?_;rintro e r ⟨rfl,d⟩);go_ret;exact⟨_,rfl,Iff.intro (λq=>dL q) (λq=>absurd q g),h.trans d⟩
      have a:Hid (∀W,Uh dQ 80 #[Uc s.pat] W λx B=>x=R (C G)/\zke W B):=λW=>(by rw[<-hp];exact zb HT s.pat W);have y:Hid (s.hp=G->(jm s.pat).isSome=G):=λ_=>hp;clear hh hp;go_wp2_with(go_at_call 80;refine(zb a _).mono ?_;rintro e r ⟨rfl,d⟩);go_meet
      case rel=>exact⟨y,d⟩
     case rest=>
      have⟨y,HO⟩:=hcut;generalize wc=W2 at *;clear P y1 y2 l n y5;go_wp2;go_loopw[8] (λx wr=>∃i:Nat,x=M J i/\i<=D s.keys/\Hid (zke W1 wr)/\Hid (∀j,j<i->(jm (s.keys.getD j ⟨#[]⟩)).isSome=G/\(k:Int)<s.subs.getD j 0/\s.subs.getD j 0<m)) (λx _=>D s.keys-(intOf x).toNat);exact⟨0,rfl,oa,HO,λj hj=>absurd hj (Bs _)⟩;clear HO;obtain⟨i,rfl,hi,a,X⟩:=hrel;have⟨l,n⟩:=zb p wr a;by_cases ac:i<D s.keys
      .obtain⟨gk,ok,rfl,_,ao⟩:=(S.k).get ac;obtain⟨gs,os,rfl,ap⟩:=(S.s).get (show i<D s.subs by omega);have ek:=zf (h.trans a) _ _ ao id;have es:=zf (h.trans a) _ _ ap id;have d1:s.keys.getD i ⟨#[]⟩=s.keys[i]:=(by rw[B7,AE ac];rfl);have d2:s.subs.getD i 0=s.subs[i]' oa:=(by rw[B7,AE (show i<D s.subs by omega)];rfl);have HN:Hid (s.OK k m->(jm s.keys[i]).isSome=G/\(k:Int)<s.subs[i]' oa/\s.subs[i]' oa<m):=λq=>(by have:=q.2.2.2 i ac;rw[d1,d2] at this;exact this);have HM:Hid ((jm s.keys[i]).isSome=G->(k:Int)<s.subs[i]' oa->s.subs[i]' oa<m->∀j,j<i+1->(jm (s.keys.getD j ⟨#[]⟩)).isSome=G/\(k:Int)<s.subs.getD j 0/\s.subs.getD j 0<m):=λa1 a2 a3 j hj=>by
        by_cases c:j<i;exact zb X j c
        grind
       have ab:=zd (zb HT s.keys[i]);generalize (jm s.keys[i]).isSome=b at *;generalize s.keys[i]=kk at *;generalize s.subs[i]=ss at *;clear ao ap d1 d2 X;cases b
       .have g:Hid (¬s.OK k m):=λq=>dL (zb HN q).1;go_wp2_with(go_at_call 80;refine(zb ab _).mono ?_;rintro e r ⟨rfl,d⟩;clear l n;have⟨l,n⟩:=zb p r (a.trans d));go_ret;exact⟨_,rfl,Iff.intro (λq=>dL q) (λq=>absurd q g),(h.trans a).trans d⟩
       by_cases L:(k:Int)<ss/\ss<m
       .have au:=zd (zb HM rfl L.1 L.2);have⟨T,h2⟩:=L;go_wp2_with(go_at_call 80;refine(zb ab _).mono ?_;rintro e r ⟨rfl,d⟩;clear l n;have⟨l,n⟩:=zb p r (a.trans d);have aw:=zf d _ _ es id);exact⟨⟨i+1,Ae,oa,a.trans d,au⟩,Ad⟩
       have g:Hid (¬s.OK k m):=λq=>L (zb HN q).2;have T:ss<=(k:Int)\/((k:Int)<ss/\(m:Int)<=ss):=oa;clear L;obtain T|⟨T,h2⟩:=T
       all_goals
        go_wp2_with(go_at_call 80;refine(zb ab _).mono ?_;rintro e r ⟨rfl,d⟩;clear l n;have⟨l,n⟩:=zb p r (a.trans d);have aw:=zf d _ _ es id);go_ret;exact⟨_,rfl,Iff.intro (λq=>dL q) (λq=>absurd q g),(h.trans a).trans d⟩
      obtain rfl:i=D s.keys:=oa;have g:=zd (HQ.1 ⟨y,X⟩);go_wp2;go_ret;exact⟨_,rfl,Iff.intro (λ_=>zb g) (λ_=>rfl),h.trans a⟩
    have g:Hid (¬s.OK k m):=λq=>(o.1 rfl) q.2.1;clear o z;go_wp2;go_ret;exact⟨_,rfl,Iff.intro (λq=>dL q) (λq=>absurd q g),h⟩
  have g:Hid (¬s.OK k m):=λq=>(o.1 rfl) q.1;clear o;go_wp2;go_ret;exact⟨_,rfl,Iff.intro (λq=>dL q) (λq=>absurd q g),h⟩
def BF (w:E)(g N:Nat)(K:Aj):Prop:=∀i,i<N->(∃b:Bool,A w ⟨g,i,U⟩=I (C b)/\(b=G↔K i))/\dz w ⟨g,i,U⟩=Z
def BT (w:E)(g n m:Nat)(K:Nat->Aj):Prop:=BF w g (n*m) (λx=>K (x / m) (x % m))
section
variable {w B:World} {g N n m i j:Nat} {K k:Aj} {T T':Nat->Aj} {P:Aj}
theorem BF.keep (h:BF w g N K)(k:zg P w B)(a:¬P g):BF B g N K:=λi d=>by have⟨⟨b,c,e⟩,f⟩:=h i d;exact⟨⟨b,zf k _ _ c a,e⟩,zp k _ (zic w _ c) f a⟩
theorem BF.to (h:BF w g N K)(e:∀i,i<N->(K i↔k i)):BF w g N k:=λi a=>by have⟨⟨b,c,d⟩,f⟩:=h i a;exact⟨⟨b,c,d.trans (e i a)⟩,f⟩
theorem BF.set (h:BF w g N K)(n:i<N)(b:Bool)(e:∀x,x<N->x≠i->(K x↔k x))(l:b=G↔k i):BF (w.setCell ⟨g,i,U⟩ (C b)) g N k:=λx a=>by rw[zl];have⟨⟨j,c,d⟩,f⟩:=h x a;by_cases q:x=i;subst q;exact⟨⟨b,AX _ _ _ c,l⟩,f⟩;exact⟨⟨j,(AN _ _ _ _ (by intro m;exact q (by have:=congrArg Addr.off m;simpa using this.symm))).trans c,d.trans (e x a q)⟩,f⟩
theorem Lt (a:j<n)(b:i<m):j*m+i<n*m:=by have:=Nat.mul_le_mul_right m a;rw[Lq] at this;omega
theorem Nn (a:i<m):(j*m+i) / m=j/\(j*m+i) % m=i:=by rw[Nat.mul_comm,Nat.mul_add_div oa,Nat.mul_add_mod,Nat.div_eq_of_lt a,Nat.mod_eq_of_lt a];exact⟨rfl,rfl⟩
theorem BT.get (h:BT w g n m T)(c:j<n)(a:i<m):(∃b:Bool,A w ⟨g,j*m+i,U⟩=I (C b)/\(b=G↔T j i))/\dz w ⟨g,j*m+i,U⟩=Z:=by have:=h _ (Lt c a);simp only[Nn a] at this;exact this
theorem BT.to (h:BT w g n m T)(e:∀j i,j<n->i<m->(T j i↔T' j i)):BT w g n m T':=
 BF.to h (λx a=>e _ _ (Mz (by rw[Nat.mul_comm];exact a)) (Nat.mod_lt _ (by obtain rfl|q:=MK m;simp at a;exact q)))
theorem BT.set (h:BT w g n m T)(o:j<n)(k:i<m)(b:Bool)(e:∀f d,f<n->d<m->¬(f=j/\d=i)->(T f d↔T' f d))(l:b=G↔T' j i):BT (w.setCell ⟨g,j*m+i,U⟩ (C b)) g n m T':=by have p:0<m:=oa;refine BF.set h (Lt o k) b (λx r q=>e _ _ (Mz (by rw[Nat.mul_comm];exact r)) (Nat.mod_lt _ p) (λ⟨a,c⟩=>q ?_)) (by simp only[Nn k];exact l);rw[<-Nat.div_add_mod x m,a,c,Nat.mul_comm]
theorem BF.made (w:E)(n:Nat):BF (dB w (Ub (madeCells #[C Z] n) 4)) (X (V w)) n (λ_=>False):=λi a=>⟨⟨Z,zj w _ rfl _ _ i _ (Xr n i a),⟨λh=>dL h,False.elim⟩⟩,zt w _ rfl _ _ i⟩
end
def qC (ns:Av)(ss:Aw)(k s:Nat):Prop:=∀P:Nat->Aj,P 0 0->(∀{k p s a:Nat} {n q:Nd} {c:Sc},1<=k->ns[k]?=I n->n.parent=(p:Int)->ns[p]?=I q->q.kind=5->P p s->ss[s]?=I c->((a:Nat):Int)∈(c.agn n.key).1->P k a)->P k s
theorem qC.root {ns:Av}{ss:Aw}:qC ns ss 0 0:=λ_ h _=>h
theorem qC.kid {ns:Av}{ss:Aw}{k p s d:Nat}{n q:Nd}{c:Sc}(e:1<=k)(f:ns[k]?=I n)(g:n.parent=(p:Int))(h:ns[p]?=I q)(i:q.kind=5)(j:qC ns ss p s)(l:ss[s]?=I c)(m:((d:Nat):Int)∈(c.agn n.key).1):qC ns ss k d:=λP a b=>b e f g h i (j P a b) l m
theorem qC.inv {ns:Av}{ss:Aw}{k a:Nat}(h:qC ns ss k a):(k=0/\a=0)\/∃(p s:Nat) (n q:Nd) (c:Sc),1<=k/\ns[k]?=I n/\n.parent=(p:Int)/\ns[p]?=I q/\q.kind=5/\qC ns ss p s/\ss[s]?=I c/\((a:Nat):Int)∈(c.agn n.key).1:=
 (h (λk a=>qC ns ss k a/\((k=0/\a=0)\/∃(p s:Nat) (n q:Nd) (c:Sc),1<=k/\ns[k]?=I n/\n.parent=(p:Int)/\ns[p]?=I q/\q.kind=5/\qC ns ss p s/\ss[s]?=I c/\((a:Nat):Int)∈(c.agn n.key).1)) ⟨.root,Q ⟨rfl,rfl⟩⟩ (λb d e f g i j l=>⟨.kid b d e f g i.1 j l,O ⟨_,_,_,_,_,b,d,e,f,g,i.1,j,l⟩⟩)).2
def Ka (ns:Av)(ss:Aw)(k:Nat):Prop:=∃(p s:Nat) (n q:Nd) (c:Sc),1<=k/\ns[k]?=I n/\n.parent=(p:Int)/\ns[p]?=I q/\q.kind=5/\qC ns ss p s/\ss[s]?=I c/\(c.agn n.key).2=G
def FP (ns:Av)(ss:Aw)(k s:Nat):Prop:=∃(n:Nd) (c:Sc),qC ns ss k s/\ns[k]?=I n/\n.kind=3/\ss[s]?=I c/\c.hp=G/\wI c.pat n.text=Z
def FF (ns:Av)(ss:Aw)(k s:Nat):Prop:=∃(n:Nd) (c:Sc),qC ns ss k s/\ns[k]?=I n/\n.kind=3/\ss[s]?=I c/\c.fmt≠0/\wI (ZL c.fmt) n.text=Z
def CE (ns:Av)(ss:Aw)(k:Nat):Prop:=∃s,FP ns ss k s
def CF (ns:Av)(ss:Aw)(k:Nat):Prop:=∃s,FF ns ss k s
open Classical in
noncomputable def yO (ns:List Nd)(ss:List Sc):Nat->List (Int×Int)
 |0=>[]
 |k+1=>yO ns ss k++((if CE ns ss k then [((k:Int),1)] else [])++((if CF ns ss k then [((k:Int),2)] else [])++(if Ka ns ss k then [((k:Int),3)] else [])))
def yD:Ai->An
 | []=>[]
 |f :: r=>M J f.1 :: M J f.2 :: yD r
def UC (ns:Av)(ss:Aw)(e a:Int):Prop:=
 (D ns=0/\e=10/\a=0)\/(40<D ns/\e=10/\a=40)\/(0<D ns/\(D ns)<=40/\∃k:Nat,k<D ns/\(∀j,j<k->xM ns j)/\¬xM ns k/\e=10/\a=k)\/
 ((0<D ns/\(D ns)<=40/\∀j,j<D ns->xM ns j)/\((D ss=0/\e=11/\a=0)\/(8<D ss/\e=11/\a=8)\/(0<D ss/\(D ss)<=8/\∃(k:Nat) (c:Sc),ss[k]?=I c/\(∀(j:Nat) d,j<k->ss[j]?=I d->d.OK j (D ss))/\¬c.OK k (D ss)/\e=11/\a=k)))
structure TE (ns:Av)(ss:Aw):Prop where
 n0:0<D ns
 n1:D ns<=40
 nodes:∀j,j<D ns->xM ns j
 m0:0<D ss
 m1:D ss<=8
 schemas:∀(j:Nat) d,ss[j]?=I d->d.OK j (D ss)
def T5 (ns:Av)(ss:Aw)(w:E)(x:Ending)(B:E):Prop:=
 zke w B/\((∃e a,UC ns ss e a/\x=R (Ue #[.slice U 0 0,M J e,M J a]))\/
  (TE ns ss/\∃v,x=R (Ue #[v,M J 0,M J 0])/\B.ownsRow (X (V w)) 58 2 v (yO ns ss (D ns)).length (yD (yO ns ss (D ns)))))
def Sc.cells (s:Sc)(a:Ap)(kc:Nat)(b:Ap)(c:Nat):An:=[C s.hp,Uc s.pat,M J s.fmt,.slice a (D s.keys) kc,.slice b (D s.subs) c,M J s.more]
def Zg (w:E)(v:Y)(ss:Aw):Prop:=∃a h,v=.slice a (D ss) h/\∀(i:Nat) s,ss[i]?=I s->∃b e c d f g,a=I ⟨b,e,U⟩/\Uz w s c d f g/\∀(j:Nat) u,(s.cells c d f g)[j]?=I u->A w ⟨b,e+i*6+j,U⟩=I u
theorem Zg.keep {w B:E}{v:Y}{ss:Aw}(h:Zg w v ss)(k:zke w B):Zg B v ss:=by have⟨a,c,d,g⟩:=h;refine⟨a,c,d,λi n o=>?_⟩;have⟨b,s,q,r,t,x,e,m,l⟩:=g i n o;exact⟨b,s,q,r,t,x,e,m.keep k,λj u p=>zf k _ _ (l j u p) id⟩
section
variable {ns:Av} {ss:Aw}
def TP (ns:Av)(ss:Aw)(k s a:Nat):Prop:=∃(p:Nat) (n q:Nd) (c:Sc),ns[k]?=I n/\n.parent=(p:Int)/\ns[p]?=I q/\q.kind=5/\qC ns ss p s/\ss[s]?=I c/\((a:Nat):Int)∈(c.agn n.key).1
def XP (ns:Av)(ss:Aw)(k s:Nat):Prop:=∃(p:Nat) (n q:Nd) (c:Sc),ns[k]?=I n/\n.parent=(p:Int)/\ns[p]?=I q/\q.kind=5/\qC ns ss p s/\ss[s]?=I c/\(c.agn n.key).2=G
theorem TP.lt {k s a:Nat}:TP ns ss k s a->s<D ss:=λ⟨_,_,_,_,_,_,_,_,_,e,_⟩=>(AK.1 e).1
theorem XP.lt {k s:Nat}:XP ns ss k s->s<D ss:=λ⟨_,_,_,_,_,_,_,_,_,e,_⟩=>(AK.1 e).1
theorem EF {k j:Nat}(l:1<=k):qC ns ss k j↔∃s,s<D ss/\TP ns ss k s j:=by constructor;intro h;obtain h|⟨_,_,_,_,_,_,b,d,e,f,g,a,i⟩:=h.inv;omega;exact⟨_,(AK.1 a).1,_,_,_,_,b,d,e,f,g,a,i⟩;rintro⟨s,_,p,n,q,c,b,d,e,f,g,a,i⟩;exact .kid l b d e f g a i
theorem zhG {k:Nat}(i:1<=k):Ka ns ss k↔∃s,s<D ss/\XP ns ss k s:=by constructor;rintro⟨p,s,n,q,c,_,b,d,e,f,g,a,h⟩;exact⟨s,(AK.1 a).1,p,n,q,c,b,d,e,f,g,a,h⟩;rintro⟨s,_,p,n,q,c,b,d,e,f,g,a,h⟩;exact⟨p,s,n,q,c,i,b,d,e,f,g,a,h⟩
theorem zhH {s:Nat}:qC ns ss 0 s↔s=0:=by constructor;intro h;obtain h|⟨_,_,_,_,_,h,_⟩:=h.inv;exact h.2;omega;rintro rfl;exact .root
def KA (ns:Av)(ss:Aw)(D:Nat->Aj)(j a:Nat):Prop:=(j=0/\a=0)\/(1<=j/\∃s,D j s/\TP ns ss j s a)
def KX (ns:Av)(ss:Aw)(D:Nat->Aj)(j:Nat):Prop:=1<=j/\∃s,D j s/\XP ns ss j s
theorem KA.all {D:Nat->Aj}{j b:Nat}(h:∀s,1<=j->s<Bc ss->D j s):KA ns ss D j b↔qC ns ss j b:=by obtain rfl|a:=MK j;rw[zhH];exact⟨λq=>q.elim And.right (λq=>absurd q.1 od),λq=>Q ⟨rfl,q⟩⟩;rw[EF a];exact⟨λq=>q.elim (λq=>oa) (λ⟨_,s,_,q⟩=>⟨s,q.lt,q⟩),λ⟨s,q,r⟩=>O ⟨a,s,h s a q,r⟩⟩
theorem KX.all {D:Nat->Aj}{j:Nat}(h:∀s,1<=j->s<Bc ss->D j s):KX ns ss D j↔Ka ns ss j:=by obtain rfl|a:=MK j;exact⟨λq=>absurd q.1 od,λ⟨_,_,_,_,_,q,_⟩=>absurd q od⟩;rw[zhG a];exact⟨λ⟨_,s,_,q⟩=>⟨s,q.lt,q⟩,λ⟨s,q,r⟩=>⟨a,s,h s a q,r⟩⟩
def Dn (D:Nat->Aj)(k s j a:Nat):Prop:=D j a\/(j=k/\a=s)
theorem KA.more {D:Nat->Aj}{k s j a:Nat}(c:1<=k):KA ns ss (Dn D k s) j a↔KA ns ss D j a\/(j=k/\TP ns ss k s a):=by constructor;rintro(h|⟨h,b,e|⟨rfl,rfl⟩,t⟩);exact Q (Q h);exact Q (O ⟨h,b,e,t⟩);exact O ⟨rfl,t⟩;rintro((h|⟨h,b,e,t⟩)|⟨rfl,t⟩);exact Q h;exact O ⟨h,b,Q e,t⟩;exact O ⟨c,s,O ⟨rfl,rfl⟩,t⟩
theorem KX.more {D:Nat->Aj}{k s j:Nat}(b:1<=k):KX ns ss (Dn D k s) j↔KX ns ss D j\/(j=k/\XP ns ss k s):=by constructor;rintro⟨h,a,e|⟨rfl,rfl⟩,t⟩;exact Q ⟨h,a,e,t⟩;exact O ⟨rfl,t⟩;rintro(⟨h,a,e,t⟩|⟨rfl,t⟩);exact⟨h,a,Q e,t⟩;exact⟨b,s,O ⟨rfl,rfl⟩,t⟩
theorem KA.same {D c:Nat->Aj}{j d:Nat}(h:∀s,s<Bc ss->(D j s↔c j s)):KA ns ss D j d↔KA ns ss c j d:=
 or_congr Iff.rfl (and_congr Iff.rfl ⟨λ⟨s,a,b⟩=>⟨s,(h s b.lt).1 a,b⟩,λ⟨s,a,b⟩=>⟨s,(h s b.lt).2 a,b⟩⟩)
theorem KX.same {D c:Nat->Aj}{j:Nat}(h:∀s,s<Bc ss->(D j s↔c j s)):KX ns ss D j↔KX ns ss c j:=
 and_congr Iff.rfl ⟨λ⟨s,a,b⟩=>⟨s,(h s b.lt).1 a,b⟩,λ⟨s,a,b⟩=>⟨s,(h s b.lt).2 a,b⟩⟩
def Dk (k s j a:Nat):Prop:=j<k\/(j=k/\a<s)
theorem KX.start {j:Nat}:False↔KX ns ss (Dk 1 0) j:=⟨False.elim,λ⟨h,s,d,_⟩=>by unfold Dk at d;omega⟩
theorem KA.start {w:E}{g n m:Nat}(a:0<n*m)(h:BT w g n m (λ_ _=>False)):BT (w.setCell ⟨g,0,U⟩ (C G)) g n m (KA ns ss (Dk 1 0)):=by have b:0<m:=Nat.pos_of_mul_pos_left a;have c:0<n:=Nat.pos_of_mul_pos_right a;have:=BT.set (T':=KA ns ss (Dk 1 0)) h c b G (λj s _ _ q=>⟨False.elim,?_⟩) ⟨λ_=>Q ⟨rfl,rfl⟩,λ_=>rfl⟩;simpa using this;rintro(e|⟨e,f,d,_⟩);exact q e;unfold Dk at d;omega
theorem Dk.next {k s j a:Nat}:Dk k (s+1) j a↔Dn (Dk k s) k s j a:=by unfold Dk Dn;omega
theorem KA.skip {w:E}{g n m k s:Nat}(h:BT w g n m (KA ns ss (Dk k s)))(b:1<=k)(no:∀a,¬TP ns ss k s a):BT w g n m (KA ns ss (Dk k (s+1))):=
 BT.to h (λj a _ _=>by rw[KA.same (λ_ _=>Dk.next),KA.more b];exact⟨Q,λq=>q.elim id (λq=>absurd q.2 (no a))⟩)
theorem KX.skip {w:E}{g n k s:Nat}(h:BF w g n (KX ns ss (Dk k s)))(a:1<=k)(no:¬XP ns ss k s):BF w g n (KX ns ss (Dk k (s+1))):=
 BF.to h (λj _=>by rw[KX.same (λ_ _=>Dk.next),KX.more a];exact⟨Q,λq=>q.elim id (λq=>absurd q.2 no)⟩)
theorem Dk.row {k j s m:Nat}(h:s<m):Dk k m j s↔Dk (k+1) 0 j s:=by unfold Dk;omega
def KI (K:Nat->Aj)(k:Nat)(l:Ar)(i j b:Nat):Prop:=K j b\/(j=k/\∃a,a<i/\l[a]?=I ((b:Nat):Int))
theorem KI.zero {K:Nat->Aj}{k j a:Nat}{l:Ar}:K j a↔KI K k l 0 j a:=⟨Q,λh=>h.elim id (λ⟨_,_i,h,_⟩=>absurd h (Bs _))⟩
theorem KI.set {w:E}{g n m k i y:Nat}{K:Nat->Aj}{l:Ar}(h:BT w g n m (KI K k l i))(d:l[i]?=I ((y:Nat):Int))(p:y<m)(o:k<n):BT (w.setCell ⟨g,k*m+y,U⟩ (C G)) g n m (KI K k l (i+1)):=by refine BT.set h o p G (λj r _ _ q=>or_congr Iff.rfl (and_congr_right λe=>⟨λ⟨c,a,b⟩=>⟨c,oa,b⟩,λ⟨c,a,b⟩=>⟨c,?_,b⟩⟩)) ⟨λ_=>O ⟨rfl,i,oa,d⟩,λ_=>rfl⟩;by_cases f:c=i;subst f;have:=Bz (d.symm.trans b);exact absurd ⟨e,oa⟩ q;omega
theorem KI.all {K:Nat->Aj}{k j a:Nat}{l:Ar}:KI K k l (D l) j a↔K j a\/(j=k/\((a:Nat):Int)∈l):=
 or_congr Iff.rfl (and_congr_right λ_=>⟨λ⟨i,_,h⟩=>Bg h,λh=>by have⟨i,h⟩:=Li.1 h;exact⟨i,(AK.1 h).1,h⟩⟩)
theorem KA.step {w:E}{g n m k s:Nat}{l:Ar}(h:BT w g n m (KI (KA ns ss (Dk k s)) k l (D l)))(b:1<=k)(e:∀a:Nat,TP ns ss k s a↔((a:Nat):Int)∈l):BT w g n m (KA ns ss (Dk k (s+1))):=
 BT.to h (λj a _ _=>by rw[KI.all,KA.same (λ_ _=>Dk.next),KA.more b,e])
theorem KX.step {w:E}{g n k s:Nat}{b x:Bool}(h:BF w g n (KX ns ss (Dk k s)))(a:1<=k)(d:k<n)(e:XP ns ss k s↔x=G)(c:b=G↔KX ns ss (Dk k s) k):BF (w.setCell ⟨g,k,U⟩ (C (b ||x))) g n (KX ns ss (Dk k (s+1))):=
 BF.set h d _ (λj _ q=>by rw[KX.same (λ_ _=>Dk.next),KX.more a];exact⟨Q,λr=>r.elim id (λr=>absurd r.1 q)⟩) (by rw[KX.same (λ_ _=>Dk.next),KX.more a,FG,c,e];exact or_congr Iff.rfl ⟨λq=>⟨rfl,q⟩,And.right⟩)
theorem Zf.Rl {w:E}{a:Option Addr}{n c:Nat}(h:Zf w (.slice a n c) ns)(d:0<ns.length):∃f no,a=I ⟨f,no,U⟩:=by obtain⟨a,i,e,h⟩:=h;cases e;obtain⟨b,g,e,_⟩:=h 0 _ (AE d);exact⟨b,g,e⟩
theorem Zg.Rl {w:E}{a:Option Addr}{n c:Nat}(h:Zg w (.slice a n c) ss)(d:0<ss.length):∃f no,a=I ⟨f,no,U⟩:=by obtain⟨a,i,e,h⟩:=h;cases e;obtain⟨b,g,_,_,_,_,e,_⟩:=h 0 _ (AE d);exact⟨b,g,e⟩
theorem Zf.all {w:E}{b no c n:Nat}(h:Zf w (.slice (I ⟨b,no,U⟩) n c) ns):n=ns.length/\∀(i:Nat) x,ns[i]?=I x->∀(j:Nat) u,x.cells[j]?=I u->A w ⟨b,no+i*4+j,U⟩=I u:=by obtain⟨a,k,e,h⟩:=h;cases e;refine⟨rfl,λi x f=>?_⟩;obtain⟨g,l,e,d⟩:=h i x f;cases e;exact d
theorem Zg.all {w:E}{g no c n:Nat}(h:Zg w (.slice (I ⟨g,no,U⟩) n c) ss):n=ss.length/\∀(i:Nat) x,ss[i]?=I x->∃b kc d f,Uz w x b kc d f/\∀(j:Nat) u,(x.cells b kc d f)[j]?=I u->A w ⟨g,no+i*6+j,U⟩=I u:=by obtain⟨a,p,e,h⟩:=h;cases e;refine⟨rfl,λi x m=>?_⟩;obtain⟨o,q,b,kc,d,f,e,l,k⟩:=h i x m;cases e;exact⟨b,kc,d,f,l,k⟩
theorem Iz {k s p:Nat}{n q:Nd}{c:Sc}(j:ns[k]?=I n)(t:n.parent=(p:Int))(l:ns[p]?=I q)(m:ss[s]?=I c):(∀o:Nat,TP ns ss k s o↔(qC ns ss p s/\q.kind=5)/\((o:Nat):Int)∈(c.agn n.key).1)/\(XP ns ss k s↔(qC ns ss p s/\q.kind=5)/\(c.agn n.key).2=G):=by
 have key:∀(a:Nat) (b e:Nd) (d:Sc),ns[k]?=I b->b.parent=(a:Int)->ns[a]?=I e->ss[s]?=I d->a=p/\b=n/\e=q/\d=c:=by intro a b e d f r g i;cases j.symm.trans f;obtain rfl:a=p:=oa;cases l.symm.trans g;cases m.symm.trans i;exact⟨rfl,rfl,rfl,rfl⟩
 refine⟨λo=>⟨?_,λh=>⟨p,n,q,c,j,t,l,h.1.2,h.1.1,m,h.2⟩⟩,⟨?_,λh=>⟨p,n,q,c,j,t,l,h.1.2,h.1.1,m,h.2⟩⟩⟩
 all_goals
  rintro⟨a,b,e,d,f,r,g,i,u,v,w⟩;obtain⟨rfl,rfl,rfl,rfl⟩:=key a b e d f r g v;exact⟨⟨u,i⟩,w⟩
theorem Sc.OR {s:Sc}{k m:Nat}(h:s.OK k m)(key:Al):∀i,i<=D s.keys->∀x∈s.hits key i,0<=x/\x<(m:Int)
 |0,_,x,a=>by simp[Sc.hits] at a
 |i+1,b,x,a=>by
  obtain e|e:=A7.1 a;exact s.OR h key i oa x e;have:=(h.2.2.2 i oa).2;split at e;rw[A5.1 e];omega;simp at e
theorem Sc.OL {s:Sc}{k m:Nat}(h:s.OK k m)(key:Al):∀x∈(s.agn key).1,0<=x/\x<(m:Int):=by intro x a;unfold Sc.agn at a;split at a;exact Sc.OR h key _ (AD _) x a;split at a;simp at a;obtain rfl:x=_:=(by simpa using a);have:=h.2.1;simp at *;omega
theorem Sc.OW {s:Sc}(h:D s.keys<=6)(key:Al):(s.agn key).1.length<=6:=by have:=s.N7 key (D s.keys);unfold Sc.agn;split;simp only;omega;split<;>simp
def Fs (Q:Aj)(s:Nat):Prop:=∃i,i<s/\Q i
theorem Fs.zero {Q:Aj}:Z=G↔Fs Q 0:=⟨λh=>dL h,λ⟨_,h,_⟩=>absurd h (Bs _)⟩
theorem Fs.step {Q:Aj}{s:Nat}{a b:Bool}(h:a=G↔Fs Q s)(k:b=G↔Q s):(a ||b)=G↔Fs Q (s+1):=by rw[FG,h,k];constructor;rintro(⟨i,d,c⟩|h);exact⟨i,oa,c⟩;exact⟨s,oa,h⟩;rintro⟨i,d,c⟩;by_cases e:i=s;subst e;exact O c;exact .inl ⟨i,oa,c⟩
theorem Fs.skip {Q:Aj}{s:Nat}{a:Bool}(h:a=G↔Fs Q s)(k:¬Q s):a=G↔Fs Q (s+1):=by have:=Fs.step (b:=Z) h ⟨λe=>dL e,λe=>absurd e k⟩;rwa [LD] at this
theorem Wq {k s:Nat}{n:Nd}{c:Sc}(d:ns[k]?=I n)(f:ss[s]?=I c):(FP ns ss k s↔(qC ns ss k s/\n.kind=3)/\(c.hp && !wI c.pat n.text)=G)/\(FF ns ss k s↔(qC ns ss k s/\n.kind=3)/\((c.fmt != 0) && !wI (ZL c.fmt) n.text)=G):=by constructor<;>constructor;rintro⟨m,l,a,g,b,h,i,j⟩;cases d.symm.trans g;cases f.symm.trans h;exact⟨⟨a,b⟩,by rw[i,j];rfl⟩;rintro⟨⟨a,b⟩,e⟩;rw[B8,Ly] at e;exact⟨n,c,a,d,b,f,e.1,e.2⟩;rintro⟨m,l,a,g,b,h,i,j⟩;cases d.symm.trans g;cases f.symm.trans h;exact⟨⟨a,b⟩,by rw[j];simp[i]⟩;rintro⟨⟨a,b⟩,e⟩;rw[B8,Ly] at e;exact⟨n,c,a,d,b,f,by simpa using e.1,e.2⟩
theorem zdI {k:Nat}:(Fs (FP ns ss k) (D ss)↔CE ns ss k)/\(Fs (FF ns ss k) (D ss)↔CF ns ss k):=
 ⟨⟨λ⟨i,_,h⟩=>⟨i,h⟩,λ⟨i,h⟩=>⟨i,by have⟨n,c,_,_,_,h,_⟩:=h;exact(AK.1 h).1,h⟩⟩,⟨λ⟨i,_,h⟩=>⟨i,h⟩,λ⟨i,h⟩=>⟨i,by have⟨n,c,_,_,_,h,_⟩:=h;exact(AK.1 h).1,h⟩⟩⟩
def Cx (k:Nat)(a b c:Bool):Ai:=(if a then [((k:Int),1)] else [])++((if b then [((k:Int),2)] else [])++(if c then [((k:Int),3)] else []))
theorem EB {P:Prop}{_d:Decidable P}{a:Bool}(h:a=G↔P){α:Type}(x y:α):(if P then x else y)=if a then x else y:=by cases a<;>simp at h<;>simp[h]
theorem Jv {k:Nat}{a b c:Bool}(d:a=G↔CE ns ss k)(e:b=G↔CF ns ss k)(f:c=G↔Ka ns ss k):yO ns ss (k+1)=yO ns ss k++Cx k a b c:=by rw[yO,Cx,EB d,EB e,EB f]
theorem ZC:∀k,(yO ns ss k).length<=3*k
 |0=>AD _
 |k+1=>by
  have:=ZC k;simp only[yO,AO];split<;>split<;>split<;>simp<;>omega
theorem ZM:∀a b:Ai,yD (a++b)=yD a++yD b
 | [],_=>rfl
 |x :: a,b=>by simp[yD,ZM a b]
end
theorem Tryz.OH:(Tryz.prog.info? 58).map (λi=>(i.zero,i.size,i.bytes))=I (I (Uf #[M J 0,M J 0]),2,16):=om
theorem Wr {e:Array Oper}{rest:List Oper}{o:Oper}{a:Act}{Q:Exit->Act->E->Prop}(i:o.guard=U)(s x:Operand)(n:o.op=.call { callee:=.builtin .append,args:=#[s,x],argTypes:=#[56,56] }) (base:Nat) (L:Ai) (v:Y) (p:a.eval s=v) (d:dA w base 58 2 v (D L) (yD L)) (k y:Int) (b:a.eval x=.slice (I ⟨X (V w),0,U⟩) 1 1) (F:D L<=1000) (N:base<=X (V w))(h:∀c B,B.ownsRow base 58 2 c (L++[(k,y)]).length (yD (L++[(k,y)]))->(∀a0,zke a0 w->X (V a0)<=base->zke a0 B)->wpList S e Q rest (a.put o.dst c) B):wpList S e Q (o :: rest) a (dB w (Ub #[M J k,M J y] 58)):=by have⟨u,l,q,r,t⟩:=info_parts Tryz.OH;refine yz _ i s x 56 n base 58 u (Uf #[M J 0,M J 0]) 2 16 Tryz.underlying56 l q r t rfl od v _ _ p (AZ d _) _ 1 1 [M J k,M J y] b rfl (cell_two_new _ _ _ _) (λx b=>by simp at b;obtain rfl|rfl:=b<;>rfl) Ac oa ou (λc B f g _=>h c B ?_ λa0 z P=>?_);rw[AO,ZM];exact f;exact(z.alloc _).grown g (λj m=>O (by have:=(zh d j m).1;omega))
theorem ze9 (ns:List Nd)(ss:List Sc)(nv sv:Value)(w:World)(hN:Zf w nv ns)(hS:Zg w sv ss)(hn:ns.length<4611686018427387904)(hm:ss.length<4611686018427387904):Calls S 18 #[nv,sv] w (T5 ns ss w):=by
 have HN:=zd hN;have HS:=zd hS;obtain⟨na,nc,rfl,_⟩:=hN;obtain⟨sa,sc,rfl,_⟩:=hS;have HE:Hid (∀e a B,UC ns ss e a->zke w B->T5 ns ss w (.returned (.tuple #[.slice none 0 0,.int .i64 e,.int .i64 a])) B):=fun e a B h k=>⟨k,.inl ⟨e,a,h,rfl⟩⟩
 go_enter Tryz.func18,Tryz.ntmps18;by_cases h0:ns.length=0
 ·have d0:((ns.length:Int) == 0)=true:=by simp[h0]
  have HF:=zd (zb HE 10 0 w (.inl ⟨h0,rfl,rfl⟩) (zg.refl _ _));clear h0;go_wp2_with fail;go_ret3;exact zb HF
 ·have d0:((ns.length:Int) == 0)=false:=beq_eq_false_iff_ne.2 oa;by_cases h1:40<ns.length
  ·have d1:(40:Int)<(ns.length:Int):=oa;have HF:=zd (zb HE 10 40 w (.inr (.inl ⟨h1,rfl,rfl⟩)) (zg.refl _ _));clear h0 h1;go_wp2_with fail;go_ret3;exact zb HF
  ·have d1:¬(40:Int)<(ns.length:Int):=oa;have hp:0<ns.length:=oa;have h40:ns.length<=40:=oa;clear h0 h1;go_wp2_with fail;go_loopw[9] (fun x wr=>∃i:Nat,x=.int .i64 i/\i<=ns.length/\Hid (zke w wr)/\Hid (∀j,j<i->xM ns j)) (fun x _=>ns.length-(intOf x).toNat)
   case atStart=>exact⟨0,rfl,oa,zg.refl _ _,fun j hj=>absurd hj (Bs _)⟩
   case round=>
    obtain⟨i,rfl,hi,HR,HD⟩:=hrel;by_cases hlt:i<ns.length
    ·have HC:=zd (zhF ns _ i wr ((zb HN).keep (zb HR)) hlt h40);go_upto_region 11 with(go_at_call 40;refine(zb HC).mono ?_;rintro e w1 ⟨b,rfl,hb,hO1⟩;have HB:=zd hb;clear hb);cases b
     ·have HF:=zd (zb HE 10 i w1 (.inr (.inr (.inl ⟨hp,h40,i,hlt,zb HD,fun q=>dL ((zb HB).2 q),rfl,rfl⟩))) ((zb HR).trans hO1));clear HB;go_wp2_with fail;go_ret3;exact zb HF
     ·have HD2:Hid (∀j,j<i+1->xM ns j):=fun j hj=>by
       by_cases c:j<i
       ·exact zb HD j c
       ·obtain rfl:j=i:=oa;exact(zb HB).1 rfl
      clear HB;go_wp2_with fail;exact⟨⟨i+1,by go_num,oa,(zb HR).trans hO1,zb HD2⟩,by simp[intOf];omega⟩
    ·obtain rfl:i=ns.length:=oa;generalize wr=wn at *;have HND:=zd (And.intro hp (And.intro h40 (zb HD)));by_cases m0:ss.length=0
     ·have e0:((ss.length:Int) == 0)=true:=(by simp[m0]);have HF:=zd (zb HE 11 0 wn (.inr (.inr (.inr ⟨zb HND,.inl ⟨m0,rfl,rfl⟩⟩))) (zb HR));clear m0;go_wp2_with fail;go_ret3;exact zb HF
     ·have e0:((ss.length:Int) == 0)=false:=beq_eq_false_iff_ne.2 oa;by_cases m1:8<ss.length
      ·have e1:(8:Int)<(ss.length:Int):=oa;have HF:=zd (zb HE 11 8 wn (.inr (.inr (.inr ⟨zb HND,.inr (.inl ⟨m1,rfl,rfl⟩)⟩))) (zb HR));clear m0 m1;go_wp2_with fail;go_ret3;exact zb HF
      ·have e1:¬(8:Int)<(ss.length:Int):=oa;have mp:0<ss.length:=oa;have m8:ss.length<=8:=oa;clear m0 m1;go_wp2_with fail;go_loopw[11] (fun x wr=>∃i:Nat,x=.int .i64 i/\i<=ss.length/\Hid (zke w wr)/\Hid (∀(j:Nat) d,j<i->ss[j]?=some d->d.OK j ss.length)) (fun x _=>ss.length-(intOf x).toNat)
       case atStart=>exact⟨0,rfl,oa,HR,fun j _ hj=>absurd hj (Bs _)⟩
       case round=>
        clear HR HD;obtain⟨i,rfl,hi,HR,HD⟩:=hrel;by_cases hlt:i<ss.length
        ·obtain⟨a',cap',e',hc⟩:=(zb HS).keep (zb HR);cases e';have hd:=AE hlt;obtain⟨blk,off,ka,kc,qa,qc,rfl,hl,hcs⟩:=hc i ss[i] hd;generalize ss[i]=d at *;have c0:A wr ⟨blk,off+i*6,none⟩=some (.bool d.hp):=hcs 0 _ rfl;have c1:=hcs 1 _ rfl;have c2:=hcs 2 _ rfl;have c3:=hcs 3 _ rfl;have c4:=hcs 4 _ rfl;have c5:=hcs 5 _ rfl;have HC:Hid (Calls S 41 #[.agg #[.bool d.hp,.string d.pat,.int .i64 d.fmt,.slice ka d.keys.length kc,.slice qa d.subs.length qc,.int .i64 d.more],.int .i64 (i:Nat),.int .i64 (ss.length:Nat)] wr (CM wr (d.OK i ss.length))):=zdH d i ss.length ka kc qa qc wr hl;have HDD:=zd hd;clear hc hcs hl hd;go_upto_region 21 with(go_at_call 41;refine(zb HC).mono ?_;rintro e w1 ⟨b,rfl,hb,hO1⟩;have HB:=zd hb;clear hb);cases b
         ·have HF:=zd (zb HE 11 i w1 (.inr (.inr (.inr ⟨zb HND,.inr (.inr ⟨mp,m8,i,d,zb HDD,zb HD,fun q=>dL ((zb HB).2 q),rfl,rfl⟩)⟩))) ((zb HR).trans hO1));clear HB;go_wp2_with fail;go_ret3;exact zb HF
         ·have HD2:Hid (∀(j:Nat) d,j<i+1->ss[j]?=some d->d.OK j ss.length):=fun j d' hj hd'=>by
           by_cases c:j<i
           ·exact zb HD j d' c hd'
           ·obtain rfl:j=i:=oa;cases(zb HDD).symm.trans hd';exact(zb HB).1 rfl
          clear HB;go_wp2_with fail;exact⟨⟨i+1,by go_num,oa,(zb HR).trans hO1,zb HD2⟩,by simp[intOf];omega⟩
        ·obtain rfl:i=ss.length:=oa;have HV:Hid (TE ns ss):=⟨(zb HND).1,(zb HND).2.1,(zb HND).2.2,mp,m8,fun j d hd=>zb HD j d (AK.1 hd).1 hd⟩
         generalize wr=wm at *;obtain⟨nb,no,rfl⟩:=(zb HN).Rl hp;obtain⟨sb,so,rfl⟩:=(zb HS).Rl mp;have HNc:Hid (∀V,zke w V->_):=fun V k=>((zb HN).keep k).all.2;have HSc:Hid (∀V,zke w V->_):=fun V k=>((zb HS).keep k).all.2;clear HN HS;have hnm:ns.length*ss.length<=320:=Nat.mul_le_mul h40 m8;have hmk1:=qI (ns.length*ss.length) oa;have hmk2:=qI ns.length oa;simp only[Ln] at hmk1;have hb1:(0:Int)<=(ns.length:Int)*(ss.length:Int)/\(ns.length:Int)*(ss.length:Int)<=320:=(by rw[<-Ln];omega);have hwr:IntKind.i64.wrap ((ns.length:Int)*(ss.length:Int))=(ns.length:Int)*(ss.length:Int):=xF _ hb1.1 (by have:=hb1.2;omega);go_upto_region 25 with fail;clear HD HND hmk1 hmk2 hwr hb1 HE hi;have hG:=(zb HR).size;have hpos:0<ns.length*ss.length:=Nat.mul_pos hp mp;have hBT:BT ((dB wm (.cells (madeCells #[.bool false] (ns.length*ss.length)) 4)).alloc (.cells (madeCells #[.bool false] ns.length) 4)) (X (o wm)) ns.length ss.length (fun _ _=>False):=BF.keep (BF.made wm _) ((zg.refl (fun _=>False) _).alloc _) (fun f=>f);have hBF:=BF.made (dB wm (.cells (madeCells #[.bool false] (ns.length*ss.length)) 4)) ns.length;have hW:zke w ((dB wm (.cells (madeCells #[.bool false] (ns.length*ss.length)) 4)).alloc (.cells (madeCells #[.bool false] ns.length) 4)):=((zb HR).alloc _).alloc _;have hsz:(dB wm (.cells (madeCells #[.bool false] (ns.length*ss.length)) 4)).heap.size=X (o wm)+1:=ov;rw[hsz] at hBF;clear HR hsz;generalize (dB wm (.cells (madeCells #[.bool false] (ns.length*ss.length)) 4)).alloc (.cells (madeCells #[.bool false] ns.length) 4)=W at *;generalize X (o wm)=G at *;obtain⟨⟨b0,c0,-⟩,f0⟩:=hBT 0 hpos;have HT:Hid (BT (W.setCell ⟨G,0,none⟩ (.bool true)) G ns.length ss.length (KA ns ss (Dk 1 0))):=KA.start hpos hBT;have HX:Hid (BF (W.setCell ⟨G,0,none⟩ (.bool true)) (G+1) ns.length (KX ns ss (Dk 1 0))):=(BF.keep hBF ((zg.refl (fun g=>g=G) _).setCell (.inl rfl) _) oa).to (fun i _=>KX.start);have HO:Hid (zke w (W.setCell ⟨G,0,none⟩ (.bool true))):=hW.N2 ((zg.refl (fun g=>g=G) _).setCell (.inl rfl) _) (fun i hi=>oa);clear hBT hBF hW;go_upto_region 27 with fail;clear c0 f0 b0 hpos;go_loopw[15] (fun x wr=>∃k:Nat,x=.int .i64 k/\1<=k/\k<=ns.length/\Hid (zke w wr)/\Hid (BT wr G ns.length ss.length (KA ns ss (Dk k 0)))/\Hid (BF wr (G+1) ns.length (KX ns ss (Dk k 0)))) (fun x _=>ns.length-(intOf x).toNat)
         case atStart=>exact⟨1,rfl,oa,oa,HO,HT,HX⟩
         case round=>
          clear HO HT HX;obtain⟨k,rfl,hk1,hk,HO,HT,HX⟩:=hrel;by_cases hlt:k<ns.length
          ·obtain⟨n,hn,_,hth⟩:=(zb HV).nodes k hlt;unfold Nd.there at hth;rw[iN oa] at hth;obtain⟨hp0,hp1,q,hq,_⟩:=hth;obtain⟨p,hpp⟩:∃p:Nat,n.parent=(p:Int):=⟨n.parent.toNat,oa⟩
           rw[hpp] at hq hp1;have y1:=zb HNc wr (zb HO) k n hn 1 _ rfl;rw[hpp] at y1;have hpk:p<k:=oa;clear hp0 hp1;have Hn:=zd hn;have Hp:=zd hpp;have Hq:=zd hq;clear hn hpp hq;go_upto_region 31 with fail;clear y1;go_loopw[17] (fun x wr=>∃s:Nat,x=.int .i64 s/\s<=ss.length/\Hid (zke w wr)/\Hid (BT wr G ns.length ss.length (KA ns ss (Dk k s)))/\Hid (BF wr (G+1) ns.length (KX ns ss (Dk k s)))) (fun x _=>ss.length-(intOf x).toNat)
           case atStart=>exact⟨0,rfl,oa,HO,HT,HX⟩
           case round=>
            clear HO HT HX;obtain⟨s,rfl,hs,HO,HT,HX⟩:=hrel;by_cases hls:s<ss.length
            ·have hd:=AE hls;generalize ss[s]=d at *;obtain⟨⟨b,cb,hb⟩,-⟩:=(zb HT).get (show p<ns.length by omega) hls;have Hb:=zd (hb.trans (KA.all (fun s0 _ _=>.inl hpk)));have q0:A wr ⟨nb,no+p*4,none⟩=_:=zb HNc wr (zb HO) p q (zb Hq) 0 _ rfl;have Hti:=zd (Iz (zb Hn) (zb Hp) (zb Hq) hd);have Hd:=zd hd;have hat:=Lt (show p<ns.length by omega) hls;have hw1:IntKind.i64.wrap ((p:Int)*(ss.length:Int))=((p*ss.length:Nat):Int):=by
              rw[<-Ln];exact xF _ oa oa
             have hw2:IntKind.i64.wrap (((p*ss.length:Nat):Int)+(s:Int))=((p*ss.length+s:Nat):Int):=by
              rw[<-FH];exact xF _ oa oa
             clear hb hd;by_cases hgo:b=true/\q.kind=5
             ·obtain⟨rfl,h5⟩:=hgo;have d5:(q.kind == 5)=true:=(by simp[h5]);have hP:=(zb Hb).1 rfl;have hdo:=(zb HV).schemas s d (zb Hd);have hle:=hdo.1.2.2.1;have hl6:=hdo.1.2.2.2;have Hin:=zd (Sc.OL hdo n.key);have hll:=Sc.OW hl6 n.key;have Ht1:Hid (∀s':Nat,TP ns ss k s s'↔((s':Nat):Int)∈(d.agn n.key).1):=fun s'=>((zb Hti).1 s').trans ⟨And.right,fun e=>⟨⟨hP,h5⟩,e⟩⟩;have Ht2:Hid (XP ns ss k s↔(d.agn n.key).2=true):=(zb Hti).2.trans ⟨And.right,fun e=>⟨⟨hP,h5⟩,e⟩⟩;obtain⟨ka,kc,qa,qc,hsl,hsc⟩:=zb HSc wr (zb HO) s d (zb Hd);have s0:A wr ⟨sb,so+s*6,none⟩=some (.bool d.hp):=hsc 0 _ rfl;have s1:=hsc 1 _ rfl;have s2:=hsc 2 _ rfl;have s3:=hsc 3 _ rfl;have s4:=hsc 4 _ rfl;have s5:=hsc 5 _ rfl;have n2:=zb HNc wr (zb HO) k n (zb Hn) 2 _ rfl;have HA:Hid (∀V,zke wr V->Calls S 42 #[.agg #[.bool d.hp,.string d.pat,.int .i64 d.fmt,.slice ka d.keys.length kc,.slice qa d.subs.length qc,.int .i64 d.more],.string n.key] V _):=fun V k=>zbH d n.key ka kc qa qc V (hsl.keep k) oa hl6;have HC:Hid (∀V,zke wr V->_/\_/\_/\_/\_/\_/\_):=fun V k=>⟨zf k _ _ s0 (fun f=>f),zf k _ _ s1 (fun f=>f),zf k _ _ s2 (fun f=>f),zf k _ _ s3 (fun f=>f),zf k _ _ s4 (fun f=>f),zf k _ _ s5 (fun f=>f),zf k _ _ n2 (fun f=>f)⟩
              clear hdo hle hl6 hsl hsc hP Hb Hti h5;generalize d.agn n.key=ag at *;obtain⟨l,x⟩:=ag;simp only[] at *;go_upto_region 34 with fail;clear cb q0 hw1 hw2 hat d5;go_region_held3(fun B=>A B ⟨sb,so+s*6,none⟩=some (.bool d.hp)/\A B ⟨sb,so+s*6+1,none⟩=some (.string d.pat)/\A B ⟨sb,so+s*6+2,none⟩=some (.int .i64 d.fmt)/\A B ⟨sb,so+s*6+3,none⟩=some (.slice ka d.keys.length kc)/\A B ⟨sb,so+s*6+4,none⟩=some (.slice qa d.subs.length qc)/\A B ⟨sb,so+s*6+5,none⟩=some (.int .i64 d.more)/\A B ⟨nb,no+k*4+2,none⟩=some (.string n.key)) (first |go_keep |exact zb HC _ (zb HO1))
               (first |(go_at_call 42;refine(zb HA _ (by first |exact(zg.refl _ _).drew |exact(zg.refl _ _).drewN _)).mono ?_;rintro e w1 ⟨lv,rfl,hown,hO1⟩;have HW:=zd hown;have HO1:Hid (zke wr w1):=zg.trans (by first |exact(zg.refl _ _).drew |exact(zg.refl _ _).drewN _) hO1;clear hown hO1))
              have hGl:G+1<X (o wr):=by
               obtain⟨⟨_,cx,-⟩,-⟩:=zb HX k hlt;exact zic wr _ cx
              obtain⟨la,lc,rfl,hlc⟩:=qh (zb HW);have Hbl:Hid (∀g,la=some ⟨g,0,none⟩->X (o wr)<=g):=fun g e=>(zh (zb HW) g (by rw[e];rfl)).1;have HL:=zd hlc;have HT1:Hid (BT w1 G ns.length ss.length (KI (KA ns ss (Dk k s)) k l 0)):=BT.to (BF.keep (zb HT) (zb HO1) (fun f=>f)) (fun _ _ _ _=>KI.zero);have HX1:=zd (BF.keep (zb HX) (zb HO1) (fun f=>f));have HOw:=zd ((zb HO).trans (zb HO1));clear hlc HW HC HA HT HX HO HO1 s0 s1 s2 s3 s4 s5 n2;rename_i hheld;clear hheld;go_wp2_with fail;go_loopw[20] (fun y wi=>∃i:Nat,y=.int .i64 i/\i<=l.length/\Hid (zg (fun g=>g=G) w1 wi)/\Hid (BT wi G ns.length ss.length (KI (KA ns ss (Dk k s)) k l i))) (fun y _=>l.length-(intOf y).toNat)
              case atStart=>exact⟨0,rfl,oa,zg.refl _ _,HT1⟩
              case round=>
               clear HT1;obtain⟨i,rfl,hi,HK,HTi⟩:=hrel;by_cases hli:i<l.length
               ·have hx:=AE hli;obtain⟨hx0,hx1⟩:=zb Hin l[i] (BO hli);obtain⟨y,hy⟩:∃y:Nat,l[i]=(y:Int):=⟨l[i].toNat,oa⟩
                rw[hy] at hx hx1;have hym:y<ss.length:=oa;obtain⟨g,rfl,hcl⟩:=zb HL i (.int .i64 (y:Nat)) (by rw[yq,Bo,hx];rfl);have e1:=zf (zb HK) _ _ hcl (fun e=>by have e:g=G:=e;have:=zb Hbl g rfl;omega);obtain⟨⟨b,cb,-⟩,fb⟩:=(zb HTi).get hlt hym;have hat:=Lt hlt hym;have hw1:IntKind.i64.wrap ((k:Int)*(ss.length:Int))=((k*ss.length:Nat):Int):=by
                 rw[<-Ln];exact xF _ oa oa
                have hw2:IntKind.i64.wrap (((k*ss.length:Nat):Int)+(y:Int))=((k*ss.length+y:Nat):Int):=by
                 rw[<-FH];exact xF _ oa oa
                have HTn:=zd (KI.set (zb HTi) hx hym hlt);clear hx hx0 hx1 hy hcl HTi;go_wp2_with fail;exact⟨⟨i+1,by go_num,oa,(zb HK).setCell (.inl rfl) _,HTn⟩,by simp[intOf];omega⟩
               ·obtain rfl:i=l.length:=oa;have HT2:=zd (KA.step (zb HTi) hk1 (zb Ht1));have hX2:=BF.keep (zb HX1) (zb HK) oa;obtain⟨⟨b,cb,hb⟩,fb⟩:=hX2 k hlt;have HX2:=zd (KX.step hX2 hk1 hlt (zb Ht2) hb);have HO2:=zd ((zb HOw).N2 (zb HK) (fun i hi=>oa));clear hX2 hb HTi HX1 Ht1 Ht2 HOw HK;cases b
                all_goals
                 go_wp2_with fail;exact⟨⟨s+1,by go_num,oa,(zb HO2).N2 ((zg.refl (fun g=>g=G+1) _).setCell (.inl rfl) _) (fun i hi=>oa),BF.keep (zb HT2) ((zg.refl (fun g=>g=G+1) _).setCell (.inl rfl) _) oa,zb HX2⟩,by simp[intOf];omega⟩
             ·have HT':=zd (KA.skip (zb HT) hk1 (fun s' e=>hgo ((((zb Hti).1 s').1 e).1.imp (zb Hb).2 id)));have HX':=zd (KX.skip (zb HX) hk1 (fun e=>hgo (((zb Hti).2.1 e).1.imp (zb Hb).2 id)));clear HT HX Hb Hti;cases b
              ·clear hgo;go_wp2_with fail;exact⟨⟨s+1,by go_num,oa,HO,HT',HX'⟩,by simp[intOf];omega⟩
              ·have d5:(q.kind == 5)=false:=beq_eq_false_iff_ne.2 (fun e=>hgo ⟨rfl,e⟩);clear hgo;go_wp2_with fail;exact⟨⟨s+1,by go_num,oa,HO,HT',HX'⟩,by simp[intOf];omega⟩
            ·obtain rfl:s=ss.length:=oa;go_wp2_with fail;exact⟨⟨k+1,by go_num,oa,oa,HO,BT.to (zb HT) (fun j s' _ _=>KA.same (fun _=>Dk.row)),BF.to (zb HX) (fun j _=>KX.same (fun _=>Dk.row))⟩,by simp[intOf];omega⟩
          ·obtain rfl:k=ns.length:=oa;generalize wr=wq at *;have HT2:Hid (BT wq G ns.length ss.length (qC ns ss)):=BT.to (zb HT) (fun j s' hj _=>KA.all (fun _ _ _=>.inl hj));have HX2:Hid (BF wq (G+1) ns.length (Ka ns ss)):=BF.to (zb HX) (fun j hj=>KX.all (fun _ _ _=>.inl hj));clear HT HX hk1 hk hlt;go_upto_region 42 with fail;go_loopw[21,22] (fun lv x wr=>∃k:Nat,x=.int .i64 k/\k<=ns.length/\Hid (zke wq wr)/\Hid (dA wr (X (o wq)) 58 2 lv (yO ns ss k).length (yD (yO ns ss k)))) (fun _ x _=>ns.length-(intOf x).toNat)
           case atStart=>exact⟨0,rfl,oa,zg.refl _ _,A0 _ _ _ _⟩
           case round=>
            obtain⟨k,rfl,hk,HR,HW⟩:=hrel;by_cases hlt:k<ns.length
            ·have hn:=AE hlt;generalize ns[k]=n at *;have Hn:=zd hn;clear hn;generalize wr=wk at *;go_upto_region 46 with fail;go_loopw[23,24,25] (fun a b x wr=>∃(s:Nat) (p q:Bool),a=.bool p/\b=.bool q/\x=.int .i64 s/\s<=ss.length/\Hid (p=true↔Fs (FP ns ss k) s)/\Hid (q=true↔Fs (FF ns ss k) s)/\Hid (zke wk wr)) (fun _ _ x _=>ss.length-(intOf x).toNat)
             case atStart=>exact⟨0,false,false,rfl,rfl,rfl,oa,Fs.zero,Fs.zero,zg.refl _ _⟩
             case round=>
              obtain⟨s,a,b,rfl,rfl,rfl,hs,Ha,Hb,HI⟩:=hrel;have HRI:=zd ((zb HR).trans (zb HI));by_cases hls:s<ss.length
              ·have hd:=AE hls;generalize ss[s]=d at *;obtain⟨⟨c,cb,hc⟩,-⟩:=BT.get (BF.keep (zb HT2) (zb HRI) (fun f=>f)) hlt hls;have hOO:=(zb HO).trans (zb HRI);have q0:A wr ⟨nb,no+k*4,none⟩=_:=zb HNc wr hOO k n (zb Hn) 0 _ rfl;have hfi:=Wq (zb Hn) hd;have hat:=Lt hlt hls;have hw1:IntKind.i64.wrap ((k:Int)*(ss.length:Int))=((k*ss.length:Nat):Int):=by
                rw[<-Ln];exact xF _ oa oa
               have hw2:IntKind.i64.wrap (((k*ss.length:Nat):Int)+(s:Int))=((k*ss.length+s:Nat):Int):=by
                rw[<-FH];exact xF _ oa oa
               by_cases hgo:c=true/\n.kind=3
               ·obtain⟨rfl,h3⟩:=hgo;have d3:(n.kind == 3)=true:=(by simp[h3]);have Ht1:=zd (Fs.step (zb Ha) (hfi.1.trans ⟨And.right,fun e=>⟨⟨hc.1 rfl,h3⟩,e⟩⟩).symm);have Ht2:=zd (Fs.step (zb Hb) (hfi.2.trans ⟨And.right,fun e=>⟨⟨hc.1 rfl,h3⟩,e⟩⟩).symm);obtain⟨ka,kc,qa,qc,hsl,hsc⟩:=zb HSc wr hOO s d hd;have s0:A wr ⟨sb,so+s*6,none⟩=some (.bool d.hp):=hsc 0 _ rfl;have s1:=hsc 1 _ rfl;have s2:=hsc 2 _ rfl;have s3:=hsc 3 _ rfl;have s4:=hsc 4 _ rfl;have s5:=hsc 5 _ rfl;have n3:=zb HNc wr hOO k n (zb Hn) 3 _ rfl;have HA:Hid (∀V,Calls S 43 #[.agg #[.bool d.hp,.string d.pat,.int .i64 d.fmt,.slice ka d.keys.length kc,.slice qa d.subs.length qc,.int .i64 d.more],.string n.text] V _):=fun V=>ze7 d n.text ka kc qa qc V;have HC:Hid (∀V,zke wr V->_/\_/\_/\_/\_/\_/\_):=fun V k=>⟨zf k _ _ s0 (fun f=>f),zf k _ _ s1 (fun f=>f),zf k _ _ s2 (fun f=>f),zf k _ _ s3 (fun f=>f),zf k _ _ s4 (fun f=>f),zf k _ _ s5 (fun f=>f),zf k _ _ n3 (fun f=>f)⟩
                generalize (d.hp && !wI d.pat n.text)=x at *;generalize ((d.fmt != 0) && !wI (ZL d.fmt) n.text)=y at *;clear hc hd hOO hfi h3 hsl hsc Ha Hb;go_upto_region 49 with fail;clear cb q0 hw1 hw2 hat d3;go_region_held3(fun B=>A B ⟨sb,so+s*6,none⟩=some (.bool d.hp)/\A B ⟨sb,so+s*6+1,none⟩=some (.string d.pat)/\A B ⟨sb,so+s*6+2,none⟩=some (.int .i64 d.fmt)/\A B ⟨sb,so+s*6+3,none⟩=some (.slice ka d.keys.length kc)/\A B ⟨sb,so+s*6+4,none⟩=some (.slice qa d.subs.length qc)/\A B ⟨sb,so+s*6+5,none⟩=some (.int .i64 d.more)/\A B ⟨nb,no+k*4+3,none⟩=some (.string n.text)) (first |go_keep |exact zb HC _ (zb HO1))
                 (first |(go_at_call 43;refine(zb HA _).mono ?_;rintro e w1 ⟨rfl,hO1⟩;have HO1:Hid (zke wr w1):=zg.trans (by first |exact(zg.refl _ _).drew |exact(zg.refl _ _).drewN _) hO1;clear hO1))
                rename_i hheld;clear hheld HA HC s0 s1 s2 s3 s4 s5 n3;cases a<;>cases b
                all_goals
                 go_wp2_with fail;exact⟨⟨s+1,_,_,rfl,rfl,by go_num,oa,Ht1,Ht2,(zb HI).trans (zb HO1)⟩,by simp[intOf];omega⟩
               ·have Ht1:=zd (Fs.skip (zb Ha) (fun e=>hgo ((hfi.1.1 e).1.imp hc.2 id)));have Ht2:=zd (Fs.skip (zb Hb) (fun e=>hgo ((hfi.2.1 e).1.imp hc.2 id)));clear hc hd hOO hfi Ha Hb;cases c
                ·clear hgo;go_wp2_with fail;exact⟨⟨s+1,_,_,rfl,rfl,by go_num,oa,Ht1,Ht2,HI⟩,by simp[intOf];omega⟩
                ·have d3:(n.kind == 3)=false:=beq_eq_false_iff_ne.2 (fun e=>hgo ⟨rfl,e⟩);clear hgo;go_wp2_with fail;exact⟨⟨s+1,_,_,rfl,rfl,by go_num,oa,Ht1,Ht2,HI⟩,by simp[intOf];omega⟩
              ·obtain rfl:s=ss.length:=oa;obtain⟨⟨c,-,hc⟩,-⟩:=BF.keep (zb HX2) (zb HRI) (fun f=>f) k hlt;have HN:=zd (Jv ((zb Ha).trans zdI.1) ((zb Hb).trans zdI.2) hc);have HWi:=zd (zk (zb HW) (zb HI) (fun _ _ f=>f));have hL:=ZC (ns:=ns) (ss:=ss) k;have Hc:=zd hc;clear HW HR HI Ha Hb hc hs hls;generalize yO ns ss k=L at *;generalize wr=wz at *;go_upto_if 191 with fail;go_cut[21] (fun lv wx=>Hid (zke wq wx)/\Hid (wx.ownsRow (X (o wq)) 58 2 lv (L++(if a then [((k:Int),(1:Int))] else [])).length (yD (L++(if a then [((k:Int),(1:Int))] else [])))))
               case first=>
                cases a
                ·go_wp2_with fail
                 all_goals go_meet
                 exact⟨HRI,zd (by simpa using zb HWi)⟩
                ·go_wp2_with(at_builtin;refine zb ?_);refine zd ?_;refine Wr rfl _ _ rfl (X (o wq)) L _ rfl (zb HWi) k 1 rfl oa (zb HRI).size (fun v' B h1 h2=>?_);have HRJ:=zd (h2 _ (zb HRI) (AD _));have HWj:=zd h1;clear h1 h2;go_wp2_with fail
                 all_goals go_meet
                 exact⟨HRJ,HWj⟩
               case rest=>
                clear HRI HWi;obtain⟨HRI,HWi⟩:=hcut;go_upto_if 197 with fail;go_cut[21] (fun lv wx=>Hid (zke wq wx)/\Hid (wx.ownsRow (X (o wq)) 58 2 lv (L++(if a then [((k:Int),(1:Int))] else [])++(if b then [((k:Int),(2:Int))] else [])).length (yD (L++(if a then [((k:Int),(1:Int))] else [])++(if b then [((k:Int),(2:Int))] else [])))))
                case first=>
                 cases b
                 ·go_wp2_with fail
                  all_goals go_meet
                  exact⟨HRI,zd (by simpa using zb HWi)⟩
                 ·go_wp2_with(at_builtin;refine zb ?_);refine zd ?_;refine Wr rfl _ _ rfl (X (o wq)) (L++(if a then [((k:Int),(1:Int))] else [])) _ rfl (zb HWi) k 2 rfl (by rw[AO];cases a<;>simp<;>omega) (zb HRI).size (fun v' B h1 h2=>?_);have HRJ:=zd (h2 _ (zb HRI) (AD _));have HWj:=zd h1;clear h1 h2;go_wp2_with fail
                  all_goals go_meet
                  exact⟨HRJ,HWj⟩
                case rest=>
                 clear HRI HWi;obtain⟨HRI,HWi⟩:=hcut;obtain⟨⟨c',cc,hc'⟩,-⟩:=BF.keep (zb HX2) (zb HRI) (fun f=>f) k hlt;obtain rfl:c'=c:=FE.2 (hc'.trans (zb Hc).symm);have HM:Hid (∀v (V:World),V.ownsRow (X (o wq)) 58 2 v (L++(if a then [((k:Int),(1:Int))] else [])++(if b then [((k:Int),(2:Int))] else [])++(if c' then [((k:Int),(3:Int))] else [])).length (yD (L++(if a then [((k:Int),(1:Int))] else [])++(if b then [((k:Int),(2:Int))] else [])++(if c' then [((k:Int),(3:Int))] else [])))->V.ownsRow (X (o wq)) 58 2 v (yO ns ss (k+1)).length (yD (yO ns ss (k+1)))):=fun v V h=>by
                  rw[zb HN,Cx];simpa [List.append_assoc] using h
                 clear hc' Hc HN;cases c'
                 ·go_wp2_with fail;exact⟨⟨k+1,by go_num,oa,HRI,zd (zb HM _ _ (by simpa using zb HWi))⟩,by simp[intOf];omega⟩
                 ·go_wp2_with(at_builtin;refine zb ?_);refine zd ?_;refine Wr rfl _ _ rfl (X (o wq)) (L++(if a then [((k:Int),(1:Int))] else [])++(if b then [((k:Int),(2:Int))] else [])) _ rfl (zb HWi) k 3 rfl (by rw[AO,AO];cases a<;>cases b<;>simp<;>omega) (zb HRI).size (fun v' B h1 h2=>?_);have HRJ:=zd (h2 _ (zb HRI) (AD _));have HWj:=zd (zb HM _ _ h1);clear h1 h2;go_wp2_with fail;exact⟨⟨k+1,by go_num,oa,HRJ,HWj⟩,by simp[intOf];omega⟩
            ·obtain rfl:k=ns.length:=oa;have HZ:Hid (∀v,dA wr (X (o wq)) 58 2 v (yO ns ss ns.length).length (yD (yO ns ss ns.length))->T5 ns ss w (.returned (.tuple #[v,.int .i64 0,.int .i64 0])) wr):=fun v h=>⟨(zb HO).trans (zb HR),.inr ⟨zb HV,v,rfl,zL h (zb HO).size⟩⟩
             have HF:=zd (zb HZ _ (zb HW));clear HZ HW;go_wp2_with fail;go_ret3;exact zb HF
end
