/- What the package-level variables hold, whatever the stores turn; a new store; Finder. -/
import Derived.Test.YtcgleficedipkaaGreatDoorYMapAStoF
import Derived.Test.YtcgleficedipkaaGreatDoorYCmpAEndB0
namespace Go.Proofs.YtcgleficedipkaaGreatDoor
variable (fb sb pb mb most st:Nat)
section
open Go.RowKit
open Sm (Stp Tree capT)
structure wd (w:World)(a:Nat->Addr)(base:Nat):Prop where
 st:Start w a
 tab:TabAt w
 bl:∀ k,1<=k->k<=10->(a k).block<base
 le:base<=w.heap.size
 ng:11<base
structure we (w:World)(A:Nat->Prop)(g pb:Nat)(N:List Stp)(st:Nat)(W:Int->Bool)(cs:List Int)(z:Int):Prop where
 own:A g
 size:w.cell? ⟨g,0,none⟩=some (.int .i64 z)
 ptr:w.cell? ⟨g,1,none⟩=some (.pointer (some ⟨pb,0,none⟩))
 prog:ProgX w A pb N st W cs
 alt:∀ k,A k->k<w.heap.size
theorem we.keep {P A:Nat->Prop}{w w':World}{g pb st:Nat}{N:List Stp}{W:Int->Bool}{cs:List Int}{z:Int}(h:we w A g pb N st W cs z)(k:ze P w w')(hn:∀ g,A g->¬P g):we w' A g pb N st W cs z:=
 ⟨h.own,zg k _ _ h.size (hn _ h.own),zg k _ _ h.ptr (hn _ h.own),h.prog.keep k hn,fun q hq=>yh (h.alt q hq) k.size⟩
theorem xi.bound {A:Nat->Prop}{w:World}{pb:Nat}{N:List Sm.Stp}{st:Nat}{W:Int->Bool}(h:xi w A pb N st W):xi w (fun g=>A g/\g<w.heap.size) pb N st W:=by
 obtain ⟨g,cap,h1,h2,h3,h4⟩:=h.c0;obtain ⟨sv,h5,h6⟩:=h.c2;have hpos:=h.stl;have hg:g<w.heap.size:=zE w _ (h4 0 _ (zD (by omega))).1;exact ⟨⟨h.own,zE w _ h.c1⟩,⟨g,cap,h1,⟨h2,hg⟩,h3,h4.mono (fun q hq hA=>⟨hA,hq⟩)⟩,h.c1,⟨sv,h5,h6.mono (fun q hq hA=>⟨hA,hq⟩)⟩,h.len,h.fit,h.stl⟩
set_option maxHeartbeats 2000000
set_option maxRecDepth 1000000
theorem snew_any (N:List Stp)(X:Fnd.St->Nat->Fnd.St->Prop)(w:World) :
  Calls Tryz.prog 38 #[.pointer (some ⟨pb,0,none⟩),.int .i64 (most:Nat)] w fun x w'=>∃ sb mb,x = .returned (.pointer (some ⟨sb,0,none⟩))/\w.heap.size<=sb/\w.heap.size<=mb/\Sto w' (fun g=>g=sb\/g=mb) (fun _=>False) sb pb mb most N X [] (.slice none 0 0)/\Q8 w w':=by
 have hmm:=@run_makeMap Tryz.prog;go_enter Tryz.func38,Tryz.ntmps38;go_wp2_with fail;go_ret;have hz1:=yX w (.map #[] 0);have hz2:=yX (w.alloc (.map #[] 0)) (.cells #[.pointer (some ⟨pb,0,none⟩),.int .i64 (most:Nat),.slice none 0 0,.map (some w.heap.size)] 179);refine ⟨w.heap.size+1,w.heap.size,rfl,by omega,by omega,⟨zm _ _ hz1 _ _ 0 _ rfl,zm _ _ hz1 _ _ 1 _ rfl,zm _ _ hz1 _ _ 2 _ rfl,zm _ _ hz1 _ _ 3 _ rfl,zG _ _ hz1 _ _ 2,qD _ _ _ _,fun g hg=>(by cases hg),(qy.made w _ rfl).keep ((ze.refl (fun _=>False) _).alloc _) (fun f=>f),.inl rfl,.inr rfl,fun e he=>(by cases he),List.Pairwise.nil,fun g hg=>(by rw [hz2,hz1];omega),fun g hg=>hg.elim,fun g hg=>hg.elim⟩,((ze.refl _ _).alloc _).alloc _⟩
structure Fdr (w:World)(A O D:Nat->Prop)(fb sb pb mb most:Nat)(N:List Stp)(st:Nat)(W:Int->Bool)(cs:List Int)(es:List Ent)(sv:Value):Prop where
 f0:w.cell? ⟨fb,0,none⟩=some (.pointer (some ⟨sb,0,none⟩))
 nf:¬O fb
 sto:Sto w O D sb pb mb most N (xA N st W cs) es sv
 env:Env w A O pb N st W cs
 m1:2<=most
 m2:most<=64
 len:es.length<=most
theorem Fdr.keep {P A O D:Nat->Prop}{w w':World}{fb sb pb mb most st:Nat}{N:List Stp}{W:Int->Bool}{cs:List Int}{es:List Ent}{sv:Value}(h:Fdr w A O D fb sb pb mb most N st W cs es sv)(k:ze P w w')(hO:∀ g,P g->¬O g/\¬D g/\¬A g/\g≠fb/\g≠11):Fdr w' A O D fb sb pb mb most N st W cs es sv:=
 ⟨zg k _ _ h.f0 (fun q=>(hO _ q).2.2.2.1 rfl),h.nf,h.sto.keep k (fun g hg q=>(hO g q).1 hg) (fun g hg q=>(hO g q).2.1 hg),⟨h.env.prog.keep k (fun g hg q=>(hO g q).2.2.1 hg),h.env.tab.keep k (fun q=>(hO _ q).2.2.2.2 rfl),h.env.ao,h.env.ot,fun g hg=>yh (h.env.alt g hg) k.size⟩,h.m1,h.m2,h.len⟩
theorem Fdr.young {A O D:Nat->Prop}{w w':World}{fb sb pb mb most st:Nat}{N:List Stp}{W:Int->Bool}{cs:List Int}{es:List Ent}{sv:Value}(h:Fdr w A O D fb sb pb mb most N st W cs es sv)(k:Q8 w w'):Fdr w' A O D fb sb pb mb most N st W cs es sv:=h.keep k (fun _ f=>f.elim)
theorem Qe (g pb st most:Nat)(A:Nat->Prop)(N:List Stp)(W:Int->Bool)(cs:List Int)(z:Int)(w:World)(hC:we w A g pb N st W cs z)(hT:TabAt w)(h1:2<=most)(h2:most<=64) :
  Calls Tryz.prog 20 #[.pointer (some ⟨g,0,none⟩),.int .i64 (most:Nat)] w fun x w'=>∃ fb sb mb,x = .returned (.tuple #[.pointer (some ⟨fb,0,none⟩),.int .i64 0])/\w.heap.size<=fb/\w.heap.size<=sb/\w.heap.size<=mb/\Fdr w' A (fun k=>k=sb\/k=mb) (fun _=>False) fb sb pb mb most N st W cs [] (.slice none 0 0)/\Q8 w w':=by
 have c1:=hC.ptr;have HC:=zc hC;have HT:=zc hT;have HN:=zc (snew_any pb most N (xA N st W cs) w);have d1:¬(most:Int)<2:=by omega
 have d2:¬(64:Int)<(most:Int):=by omega
 clear hC hT;go_enter Tryz.func20,Tryz.ntmps20;go_wp2_with (go_at_call 38;refine (zb HN).mono ?_;rintro e w1 ⟨sb,mb,rfl,hs,hm,hS,hO⟩;have HS:=zc hS;have HO:=zc hO;clear hS hO);go_ret2;have hO:=zb HO;have kA:Q8 w1 (w1.alloc (.cells #[.pointer (some ⟨sb,0,none⟩)] 107)):=(ze.refl _ _).alloc _;have hs1:=hO.size;have hC:=zb HC;have hsb:=(zb HS).olt sb (.inl rfl);have hmb:=(zb HS).olt mb (.inr rfl);have htl:=(zb HT).lt;refine ⟨w1.heap.size,sb,mb,rfl,hs1,hs,hm,⟨zm _ _ rfl _ _ 0 _ rfl,fun q=>by rcases q with q |q<;>omega,(zb HS).young kA,⟨hC.prog.keep (hO.trans kA) (fun _ _ f=>f),(zb HT).keep (hO.trans kA) (fun f=>f),fun k hk q=>(by have:=hC.alt k hk;rcases q with q |q<;>omega),fun k hk=>(by rcases hk with q |q<;>omega),fun k hk=>yh (hC.alt k hk) (hO.trans kA).size⟩,h1,h2,by simp⟩,hO.trans kA⟩
theorem zhB (A O D:Nat->Prop)(N:List Stp)(W:Int->Bool)(cs:List Int)(es:List Ent)(sv:Value)(w:World)(h:Fdr w A O D fb sb pb mb most N st W cs es sv) :
  Calls Tryz.prog 34 #[.pointer (some ⟨fb,0,none⟩)] w fun x w'=>x = .returned (.int .i64 (es.length:Nat))/\w'=w:=by
 have h0:=h.f0;have HL:=zc (live_any sb pb mb most O D N _ es sv w h.sto);clear h;go_enter Tryz.func34,Tryz.ntmps34;go_wp2_with (go_at_call 61;refine Q7 (zb HL) ?_);go_ret;exact ⟨rfl,rfl⟩
def vx (s:ByteArray)(N:List Stp)(st:Nat)(W:Int->Bool)(r:Bool)(k p:Int):Prop:=
 (400<s.size/\r=false/\k=2/\p=400)\/(s.size<=400/\0<=(Ref.zo s).2/\r=false/\k=1/\p=(Ref.zo s).2)\/
 (s.size<=400/\(Ref.zo s).2<0/\k=0/\p=0/\(r=true↔Fnd.hit N (Fnd.run N st W (Pro.letM s (s.size+1) 0) (Pro.letM s (s.size+1) 0).length)))
theorem Vf (s:ByteArray)(ev:Value)(w:World)(a:Nat->Addr)(k:Nat)(p:Int)(hev:∃ x n c,ev = .slice x n c)(hS:Start w a)(k1:1<=k)(k2:k<=8)(hp:Calls Tryz.prog 39 #[.string s,.int .i64 400] w fun x w'=>∃ v,x = .returned (.tuple #[.slice none 0 0,v])/\zI w' w.heap.size v (zN a k) p/\Q8 w w') :
  Calls Tryz.prog 21 #[.pointer (some ⟨fb,0,none⟩),.string s,ev] w fun x w'=>x = .returned (.tuple #[.bool false,.int .i64 k,.int .i64 p])/\Q8 w w':=by
 obtain ⟨ea,en,ec,rfl⟩:=hev;have HS:=zc hS;have HP:=zc hp;clear hS hp;go_enter Tryz.func21,Tryz.ntmps21;go_wp2_with (first |(go_at_call 39;refine (zb HP).mono ?_;rintro e w1 ⟨v,rfl,hv,hO1⟩;have HV:=zc hv;obtain ⟨gq,hg,rfl,f0,f1⟩:=hv;have H0:=zc f0;have H1:=zc f1;clear f0 f1 HV) |(go_at_call 25;refine Q7 (vX gq k a _ ((zb HS).keep hO1).sents ((zb HS).keep hO1).rows k1 k2 (zb H0)) ?_) |(go_at_call 26;refine (Zt gq p _ ((zb HS).keep hO1).et (zb H1)).mono ?_;rintro e w2 ⟨rfl,hO2⟩));go_ret3;exact ⟨rfl,hO1.trans hO2⟩
def vy (w w':World)(s:ByteArray)(A O D:Nat->Prop)(fb sb pb mb most:Nat)(N:List Stp)(st:Nat)(W:Int->Bool)(cs:List Int)(x:Ending):Prop:=
 ∃ (r:Bool) (k p:Int) (O' D':Nat->Prop) (es':List Ent) (sv':Value),x = .returned (.tuple #[.bool r,.int .i64 k,.int .i64 p])/\vx s N st W r k p/\Fdr w' A O' D' fb sb pb mb most N st W cs es' sv'/\(k=0->1<=es'.length)/\(∀ g,O' g->O g\/w.heap.size<=g)/\(∀ g,D' g->D g\/w.heap.size<=g)/\ze O w w'
theorem lfind_ok (A O D:Nat->Prop)(N:List Stp)(W:Int->Bool)(cs:List Int)(es:List Ent)(sv ev:Value)(s:ByteArray)(ks:List Int)(w:World)(a:Nat->Addr)(hS:Start w a)(h:Fdr w A O D fb sb pb mb most N st W cs es sv)(hE:wk w (fun _=>True) ev ks)(hkl:ks.length<4611686018427387904)(hs:s.size<=400)(hc:(Ref.zo s).2<0) :
  Calls Tryz.prog 21 #[.pointer (some ⟨fb,0,none⟩),.string s,ev] w (fun x w'=>vy w w' s A O D fb sb pb mb most N st W cs x):=by
 have HL:=zc (qR s 400 (by omega) hs w a hS.sents hS.size hc);have hl:(Pro.letM s (s.size+1) 0).length<=s.size:=by rw [<-(Prg.yj.of s).len];exact Ref.xh s
 have HF:Hid (∀ r k p O' D' es' sv' w',vx s N st W r k p->Fdr w' A O' D' fb sb pb mb most N st W cs es' sv'->(k=0->1<=es'.length)->(∀ g,O' g->O g\/w.heap.size<=g)->(∀ g,D' g->D g\/w.heap.size<=g)->ze O w w'->vy w w' s A O D fb sb pb mb most N st W cs (.returned (.tuple #[.bool r,.int .i64 k,.int .i64 p]))):=fun r k p O' D' es' sv' w' a1 a2 a3 a4 a5 a6=>⟨r,k,p,O',D',es',sv',rfl,a1,a2,a3,a4,a5,a6⟩
 have HA:Hid (∀ r,(r=true↔Fnd.hit N (Fnd.run N st W (Pro.letM s (s.size+1) 0) (Pro.letM s (s.size+1) 0).length))->vx s N st W r 0 0):=fun r hr=>.inr (.inr ⟨hs,hc,rfl,rfl,hr⟩);generalize Pro.letM s (s.size+1) 0=L at HL hl HA;obtain ⟨ea,ec,rfl⟩:=hE.slice;have HE:=zc hE;have H:=zc h;have f0:=h.f0;clear hS h hE hc;go_enter Tryz.func21,Tryz.ntmps21;go_wp2_with (go_at_call 39;refine (zb HL).mono ?_;rintro e w1 ⟨v,rfl,hv,hO1⟩;refine zb ?_);refine zc ?_;have hLS:jQ w1 v L:=by
  rcases Z6 hv with ⟨h1,h2⟩ |⟨gl,cap,h1,h2,_,h3⟩
  ·exact .inl ⟨h1,h2⟩
  ·exact .inr ⟨gl,cap,h1,h2,h3⟩
 have f1:=zg hO1 _ _ f0 (fun f=>f);have h1:=(zb H).young hO1;have HSf:=zc (zcm sb pb mb most st A O D N W cs es sv v _ L ks w1 h1.env h1.sto h1.m1 h1.m2 h1.len hLS (fun g hg=>⟨fun q=>by have h8:=(zb H).sto.olt g q;have h9:=(zh hv g hg).1;omega,(zh hv g hg).2⟩) (by omega) ((zb HE).keep hO1 (fun _ _ f=>f)) hkl);obtain ⟨va,vc,rfl⟩:=hLS.slice;have HO1:=zc hO1;clear hv hLS h1 hO1 HL;go_wp2_with (go_at_call 40;refine (zb HSf).mono ?_;rintro e w2 ⟨r,i,O',D',es',sv',rfl,hr,hSk⟩;have HR:=zc hr;have HSk:=zc hSk;clear hr hSk);go_ret3;have hSk:=(zb HSk).back (zb HO1);have hH:=zb H;obtain ⟨e9,he9,_⟩:=hSk.at';refine zb HF r 0 0 O' D' es' sv' w2 (zb HA r (zb HR)) ⟨zg hSk.only _ _ f0 hH.nf,fun q=>?_,hSk.sto,hSk.env,hH.m1,hH.m2,hSk.len⟩ (fun _=>by have:=(yd.1 he9).1;omega) hSk.oo hSk.dd hSk.only;rcases hSk.oo _ q with q |q
 ·exact hH.nf q
 ·have:=zE w _ f0;simp at this;omega




end
end Go.Proofs.YtcgleficedipkaaGreatDoor
