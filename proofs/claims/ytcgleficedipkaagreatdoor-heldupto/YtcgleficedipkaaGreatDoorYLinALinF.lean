/- What the package-level variables hold, whatever the stores turn; a new store; Finder. -/
import Derived.Test.YtcgleficedipkaaGreatDoorYMapAStoF
import Derived.Test.YtcgleficedipkaaGreatDoorYCmpAEndB0
namespace Go.Proofs.YtcgleficedipkaaGreatDoor
section
open Go.RowKit
open Sm (Stp Tree capT)
set_option maxHeartbeats 2000000
set_option maxRecDepth 1000000
structure wd (w:World)(a:Nat→Addr)(base:Nat):Prop where
 st:Start w a
 tab:TabAt w
 bl:∀ k,1≤k→k≤10→(a k).block<base
 le:base≤w.heap.size
 ng:11<base
theorem wd.keep {P:Nat→Prop}{w w':World}{a:Nat→Addr}{base:Nat}(h:wd w a base)(k:ze P w w')(hP:∀ g,P g→base≤g):wd w' a base:=by
 have hng:=h.ng
 have hn:∀ g,g<base→¬P g:=fun g hg q=>by have:=hP g q;omega
 refine ⟨⟨h.st.sents.keep k (fun j hj=>hn j (by omega)),⟨fun j h1 h2=>?_,h.st.rows.ne,zg k _ _ h.st.rows.s9 (hn _ (Nat.lt_of_le_of_lt (by decide) hng)),zg k _ _ h.st.rows.s10 (hn _ (Nat.lt_of_le_of_lt (by decide) hng))⟩,zg k _ _ h.st.et (hn _ (Nat.lt_of_le_of_lt (by decide) hng)),Nat.le_trans h.st.size k.size⟩,h.tab.keep k (hn _ (Nat.lt_of_le_of_lt (by decide) hng)),h.bl,Nat.le_trans h.le k.size,h.ng⟩
 obtain ⟨c,t,hc⟩:=h.st.rows.row j h1 h2
 exact ⟨c,t,(k.block _ (Array.getElem?_eq_some_iff.1 hc).1 (hn _ (h.bl j h1 h2))).trans hc⟩
structure we (w:World)(A:Nat→Prop)(g pb:Nat)(N:List Stp)(st:Nat)(W:Int→Bool)(cs:List Int)(z:Int):Prop where
 own:A g
 size:w.cell? ⟨g,0,none⟩=some (.int .i64 z)
 ptr:w.cell? ⟨g,1,none⟩=some (.pointer (some ⟨pb,0,none⟩))
 prog:ProgX w A pb N st W cs
 alt:∀ k,A k→k<w.heap.size
theorem we.keep {P A:Nat→Prop}{w w':World}{g pb st:Nat}{N:List Stp}{W:Int→Bool}{cs:List Int}{z:Int}(h:we w A g pb N st W cs z)(k:ze P w w')(hn:∀ g,A g→¬P g):we w' A g pb N st W cs z:=
 ⟨h.own,zg k _ _ h.size (hn _ h.own),zg k _ _ h.ptr (hn _ h.own),h.prog.keep k hn,fun q hq=>Nat.lt_of_lt_of_le (h.alt q hq) k.size⟩
theorem xi.bound {A:Nat→Prop}{w:World}{pb:Nat}{N:List Sm.Stp}{st:Nat}{W:Int→Bool}(h:xi w A pb N st W):xi w (fun g=>A g∧g<w.heap.size) pb N st W:=by
 obtain ⟨g,cap,h1,h2,h3,h4⟩:=h.c0
 obtain ⟨sv,h5,h6⟩:=h.c2
 have hpos:=h.stl
 have hg:g<w.heap.size:=World.block_lt_of_cell? w _ (h4 0 _ (List.getElem?_eq_getElem (by omega))).1
 exact ⟨⟨h.own,World.block_lt_of_cell? w _ h.c1⟩,⟨g,cap,h1,⟨h2,hg⟩,h3,h4.mono (fun q hq hA=>⟨hA,hq⟩)⟩,h.c1,⟨sv,h5,h6.mono (fun q hq hA=>⟨hA,hq⟩)⟩,h.len,h.fit,h.stl⟩
theorem vw (s:ByteArray)(w:World)(t:Tree)(v:Int)(hv:v<300)(ht:Zu t)(hp:wQ s t v w) :
  Calls Tryz.prog 19 #[.string s] w fun x w'=>∃ g pb F W cs,x = .returned (.tuple #[.pointer (some ⟨g,0,none⟩),.int .i64 0,.int .i64 0])∧we w' (fun k=>w.heap.size≤k∧k<w'.heap.size) g pb (Sm.prg F t).2 (Sm.prg F t).1 W cs (min (v+1) 301)∧Sm.WF F t∧ze (fun _=>False) w w':=by
 have HP:=zc hp
 have HT:=zc ht
 clear hp ht
 go_enter Tryz.func19,Tryz.ntmps19
 go_wp2_with (first |(go_at_call 35;refine (zb HP).mono ?_;rintro e w1 ⟨⟨T,y,F,rfl,hq,hcap⟩,hO1⟩;have HV:=zc hq;have Hcap:=zc hcap;clear hq hcap) |(go_at_call 36;refine (qO F _ _ _ v (by have h9:=(zb HV).size;rw [zb Hcap] at h9;exact h9)).mono ?_;rintro e w3 ⟨rfl,hO3⟩;have HQ:Hid (vJ F w3 w3.heap.size (.iface T y) t):=⟨zA.keep hO3 (fun _ _ f=>f) F _ _ (zb HV) |> zA.mono (fun g hg _=>hg) F _ _,(zb HT F).1,(zb HT F).2.1⟩) |(go_at_call 37;refine (newX F t (.iface T y) _ (zb HQ) ⟨_,_,rfl⟩ (by have:=zb Hcap;omega)).mono ?_;rintro e w4 ⟨pb,W,cs,rfl,hPr,hW,hC1,hC2,hC3,hC4,hO4⟩;have HPr:=zc (⟨hPr.bound,hC1.cutsB,hC2,hC3,hC4⟩:ProgX w4 _ pb _ _ W cs);clear hPr hW hC1 hC2 hC3 hC4))
 go_ret3
 have hs1:=hO1.size
 have hs3:=hO3.size
 have hs4:=hO4.size
 have hk:ze (fun _=>False) w4 (w4.alloc (.cells #[.int .i64 (min (v+1) 301),.pointer (some ⟨pb,0,none⟩)] 97)):=(ze.refl _ _).alloc _
 have hX:=zb HPr
 have hz:=yX w4 (.cells #[.int .i64 (min (v+1) 301),.pointer (some ⟨pb,0,none⟩)] 97)
 refine ⟨_,pb,F,W,cs,rfl,⟨⟨by omega,by rw [hz];omega⟩,zm _ _ rfl _ _ 0 _ rfl,zm _ _ rfl _ _ 1 _ rfl,?_,fun k hk=>hk.2⟩,(zb HV).wf,((hO1.trans hO3).trans hO4).alloc _⟩
 have h10:=hX.keep hk (fun _ _ f=>f)
 exact ⟨h10.at'.mono (fun k h=>⟨by omega,by rw [hz];omega⟩),h10.cut.mono (fun k h=>⟨by omega,by rw [hz];omega⟩),h10.up,h10.bd,h10.al⟩
theorem snew_any (pb most:Nat)(N:List Stp)(X:Fnd.St→Nat→Fnd.St→Prop)(w:World) :
  Calls Tryz.prog 38 #[.pointer (some ⟨pb,0,none⟩),.int .i64 (most:Nat)] w fun x w'=>∃ sb mb,x = .returned (.pointer (some ⟨sb,0,none⟩))∧w.heap.size≤sb∧w.heap.size≤mb∧Sto w' (fun g=>g=sb∨g=mb) (fun _=>False) sb pb mb most N X [] (.slice none 0 0)∧ze (fun _=>False) w w':=by
 have hmm:=@run_makeMap Tryz.prog
 go_enter Tryz.func38,Tryz.ntmps38
 go_wp2_with fail
 go_ret
 have hz1:=yX w (.map #[] 0)
 have hz2:=yX (w.alloc (.map #[] 0)) (.cells #[.pointer (some ⟨pb,0,none⟩),.int .i64 (most:Nat),.slice none 0 0,.map (some w.heap.size)] 179)
 refine ⟨w.heap.size+1,w.heap.size,rfl,by omega,by omega,⟨zm _ _ hz1 _ _ 0 _ rfl,zm _ _ hz1 _ _ 1 _ rfl,zm _ _ hz1 _ _ 2 _ rfl,zm _ _ hz1 _ _ 3 _ rfl,zG _ _ hz1 _ _ 2,World.ownsRow_nil _ _ _ _,fun g hg=>(by cases hg),(qy.made w _ rfl).keep ((ze.refl (fun _=>False) _).alloc _) (fun f=>f),.inl rfl,.inr rfl,fun e he=>(by cases he),List.Pairwise.nil,fun g hg=>(by rw [hz2,hz1];omega),fun g hg=>hg.elim,fun g hg=>hg.elim⟩,((ze.refl _ _).alloc _).alloc _⟩
structure Fdr (w:World)(A O D:Nat→Prop)(fb sb pb mb most:Nat)(N:List Stp)(st:Nat)(W:Int→Bool)(cs:List Int)(es:List Ent)(sv:Value):Prop where
 f0:w.cell? ⟨fb,0,none⟩=some (.pointer (some ⟨sb,0,none⟩))
 nf:¬O fb
 sto:Sto w O D sb pb mb most N (xA N st W cs) es sv
 env:Env w A O pb N st W cs
 m1:2≤most
 m2:most≤64
 len:es.length≤most
theorem Fdr.keep {P A O D:Nat→Prop}{w w':World}{fb sb pb mb most st:Nat}{N:List Stp}{W:Int→Bool}{cs:List Int}{es:List Ent}{sv:Value}(h:Fdr w A O D fb sb pb mb most N st W cs es sv)(k:ze P w w')(hO:∀ g,P g→¬O g∧¬D g∧¬A g∧g≠fb∧g≠11):Fdr w' A O D fb sb pb mb most N st W cs es sv:=
 ⟨zg k _ _ h.f0 (fun q=>(hO _ q).2.2.2.1 rfl),h.nf,h.sto.keep k (fun g hg q=>(hO g q).1 hg) (fun g hg q=>(hO g q).2.1 hg),⟨h.env.prog.keep k (fun g hg q=>(hO g q).2.2.1 hg),h.env.tab.keep k (fun q=>(hO _ q).2.2.2.2 rfl),h.env.ao,h.env.ot,fun g hg=>Nat.lt_of_lt_of_le (h.env.alt g hg) k.size⟩,h.m1,h.m2,h.len⟩
theorem Fdr.young {A O D:Nat→Prop}{w w':World}{fb sb pb mb most st:Nat}{N:List Stp}{W:Int→Bool}{cs:List Int}{es:List Ent}{sv:Value}(h:Fdr w A O D fb sb pb mb most N st W cs es sv)(k:ze (fun _=>False) w w'):Fdr w' A O D fb sb pb mb most N st W cs es sv:=h.keep k (fun _ f=>f.elim)
theorem Qe (g pb st most:Nat)(A:Nat→Prop)(N:List Stp)(W:Int→Bool)(cs:List Int)(z:Int)(w:World)(hC:we w A g pb N st W cs z)(hT:TabAt w)(h1:2≤most)(h2:most≤64) :
  Calls Tryz.prog 20 #[.pointer (some ⟨g,0,none⟩),.int .i64 (most:Nat)] w fun x w'=>∃ fb sb mb,x = .returned (.tuple #[.pointer (some ⟨fb,0,none⟩),.int .i64 0])∧w.heap.size≤fb∧w.heap.size≤sb∧w.heap.size≤mb∧Fdr w' A (fun k=>k=sb∨k=mb) (fun _=>False) fb sb pb mb most N st W cs [] (.slice none 0 0)∧ze (fun _=>False) w w':=by
 have c1:=hC.ptr
 have HC:=zc hC
 have HT:=zc hT
 have HN:=zc (snew_any pb most N (xA N st W cs) w)
 have d1:¬(most:Int)<2:=by omega
 have d2:¬(64:Int)<(most:Int):=by omega
 clear hC hT
 go_enter Tryz.func20,Tryz.ntmps20
 go_wp2_with (go_at_call 38;refine (zb HN).mono ?_;rintro e w1 ⟨sb,mb,rfl,hs,hm,hS,hO⟩;have HS:=zc hS;have HO:=zc hO;clear hS hO)
 go_ret2
 have hO:=zb HO
 have kA:ze (fun _=>False) w1 (w1.alloc (.cells #[.pointer (some ⟨sb,0,none⟩)] 107)):=(ze.refl _ _).alloc _
 have hs1:=hO.size
 have hC:=zb HC
 have hsb:=(zb HS).olt sb (.inl rfl)
 have hmb:=(zb HS).olt mb (.inr rfl)
 have htl:=(zb HT).lt
 refine ⟨w1.heap.size,sb,mb,rfl,hs1,hs,hm,⟨zm _ _ rfl _ _ 0 _ rfl,fun q=>by rcases q with q |q<;>omega,(zb HS).young kA,⟨hC.prog.keep (hO.trans kA) (fun _ _ f=>f),(zb HT).keep (hO.trans kA) (fun f=>f),fun k hk q=>(by have:=hC.alt k hk;rcases q with q |q<;>omega),fun k hk=>(by rcases hk with q |q<;>omega),fun k hk=>Nat.lt_of_lt_of_le (hC.alt k hk) (hO.trans kA).size⟩,h1,h2,by simp⟩,hO.trans kA⟩
def vx (s:ByteArray)(N:List Stp)(st:Nat)(W:Int→Bool)(r:Bool)(k p:Int):Prop:=
 (400<s.size∧r=false∧k=2∧p=400)∨(s.size≤400∧0≤(Ref.zo s).2∧r=false∧k=1∧p=(Ref.zo s).2)∨
 (s.size≤400∧(Ref.zo s).2<0∧k=0∧p=0∧(r=true↔Fnd.hit N (Fnd.run N st W (Pro.letM s (s.size+1) 0) (Pro.letM s (s.size+1) 0).length)))
theorem Vf (fb:Nat)(s:ByteArray)(ev:Value)(w:World)(a:Nat→Addr)(k:Nat)(p:Int)(hev:∃ x n c,ev = .slice x n c)(hS:Start w a)(k1:1≤k)(k2:k≤8)(hp:Calls Tryz.prog 39 #[.string s,.int .i64 400] w fun x w'=>∃ v,x = .returned (.tuple #[.slice none 0 0,v])∧zI w' w.heap.size v (zN a k) p∧ze (fun _=>False) w w') :
  Calls Tryz.prog 21 #[.pointer (some ⟨fb,0,none⟩),.string s,ev] w fun x w'=>x = .returned (.tuple #[.bool false,.int .i64 k,.int .i64 p])∧ze (fun _=>False) w w':=by
 obtain ⟨ea,en,ec,rfl⟩:=hev
 have HS:=zc hS
 have HP:=zc hp
 clear hS hp
 go_enter Tryz.func21,Tryz.ntmps21
 go_wp2_with (first |(go_at_call 39;refine (zb HP).mono ?_;rintro e w1 ⟨v,rfl,hv,hO1⟩;have HV:=zc hv;obtain ⟨gq,hg,rfl,f0,f1⟩:=hv;have H0:=zc f0;have H1:=zc f1;clear f0 f1 HV) |(go_at_call 25;refine (vX gq k a _ ((zb HS).keep hO1).sents ((zb HS).keep hO1).rows k1 k2 (zb H0)).mono ?_;rintro e wq ⟨rfl,hwq⟩;obtain rfl:=hwq.symm;clear hwq) |(go_at_call 26;refine (Zt gq p _ ((zb HS).keep hO1).et (zb H1)).mono ?_;rintro e w2 ⟨rfl,hO2⟩))
 go_ret3
 exact ⟨rfl,hO1.trans hO2⟩
def vy (w w':World)(s:ByteArray)(A O D:Nat→Prop)(fb sb pb mb most:Nat)(N:List Stp)(st:Nat)(W:Int→Bool)(cs:List Int)(x:Ending):Prop:=
 ∃ (r:Bool) (k p:Int) (O' D':Nat→Prop) (es':List Ent) (sv':Value),x = .returned (.tuple #[.bool r,.int .i64 k,.int .i64 p])∧vx s N st W r k p∧Fdr w' A O' D' fb sb pb mb most N st W cs es' sv'∧(k=0→1≤es'.length)∧(∀ g,O' g→O g∨w.heap.size≤g)∧(∀ g,D' g→D g∨w.heap.size≤g)∧ze O w w'
theorem lfind_ok (fb sb pb mb most st:Nat)(A O D:Nat→Prop)(N:List Stp)(W:Int→Bool)(cs:List Int)(es:List Ent)(sv ev:Value)(s:ByteArray)(ks:List Int)(w:World)(a:Nat→Addr)(hS:Start w a)(h:Fdr w A O D fb sb pb mb most N st W cs es sv)(hE:wk w (fun _=>True) ev ks)(hkl:ks.length<4611686018427387904)(hs:s.size≤400)(hc:(Ref.zo s).2<0) :
  Calls Tryz.prog 21 #[.pointer (some ⟨fb,0,none⟩),.string s,ev] w (fun x w'=>vy w w' s A O D fb sb pb mb most N st W cs x):=by
 have HL:=zc (qR s 400 (by omega) hs w a hS.sents hS.size hc)
 have hl:(Pro.letM s (s.size+1) 0).length≤s.size:=by rw [←(Prg.yj.of s).len];exact Ref.xh s
 have HF:Hid (∀ r k p O' D' es' sv' w',vx s N st W r k p→Fdr w' A O' D' fb sb pb mb most N st W cs es' sv'→(k=0→1≤es'.length)→(∀ g,O' g→O g∨w.heap.size≤g)→(∀ g,D' g→D g∨w.heap.size≤g)→ze O w w'→vy w w' s A O D fb sb pb mb most N st W cs (.returned (.tuple #[.bool r,.int .i64 k,.int .i64 p]))):=fun r k p O' D' es' sv' w' a1 a2 a3 a4 a5 a6=>⟨r,k,p,O',D',es',sv',rfl,a1,a2,a3,a4,a5,a6⟩
 have HA:Hid (∀ r,(r=true↔Fnd.hit N (Fnd.run N st W (Pro.letM s (s.size+1) 0) (Pro.letM s (s.size+1) 0).length))→vx s N st W r 0 0):=fun r hr=>.inr (.inr ⟨hs,hc,rfl,rfl,hr⟩)
 generalize Pro.letM s (s.size+1) 0=L at HL hl HA
 obtain ⟨ea,ec,rfl⟩:=hE.slice
 have HE:=zc hE
 have H:=zc h
 have f0:=h.f0
 clear hS h hE hc
 go_enter Tryz.func21,Tryz.ntmps21
 go_wp2_with (go_at_call 39;refine (zb HL).mono ?_;rintro e w1 ⟨v,rfl,hv,hO1⟩;refine zb ?_)
 refine zc ?_
 have hLS:jQ w1 v L:=by
  rcases Z6 hv with ⟨h1,h2⟩ |⟨gl,cap,h1,h2,_,h3⟩
  ·exact .inl ⟨h1,h2⟩
  ·exact .inr ⟨gl,cap,h1,h2,h3⟩
 have f1:=zg hO1 _ _ f0 (fun f=>f)
 have h1:=(zb H).young hO1
 have HSf:=zc (zcm sb pb mb most st A O D N W cs es sv v _ L ks w1 h1.env h1.sto h1.m1 h1.m2 h1.len hLS (fun g hg=>⟨fun q=>by have h8:=(zb H).sto.olt g q;have h9:=(zh hv g hg).1;omega,(zh hv g hg).2⟩) (by omega) ((zb HE).keep hO1 (fun _ _ f=>f)) hkl)
 obtain ⟨va,vc,rfl⟩:=hLS.slice
 have HO1:=zc hO1
 clear hv hLS h1 hO1 HL
 go_wp2_with (go_at_call 40;refine (zb HSf).mono ?_;rintro e w2 ⟨r,i,O',D',es',sv',rfl,hr,hSk⟩;have HR:=zc hr;have HSk:=zc hSk;clear hr hSk)
 go_ret3
 have hSk:=(zb HSk).back (zb HO1)
 have hH:=zb H
 obtain ⟨e9,he9,_⟩:=hSk.at'
 refine zb HF r 0 0 O' D' es' sv' w2 (zb HA r (zb HR)) ⟨zg hSk.only _ _ f0 hH.nf,fun q=>?_,hSk.sto,hSk.env,hH.m1,hH.m2,hSk.len⟩ (fun _=>by have:=(List.getElem?_eq_some_iff.1 he9).1;omega) hSk.oo hSk.dd hSk.only
 rcases hSk.oo _ q with q |q
 ·exact hH.nf q
 ·have:=World.block_lt_of_cell? w _ f0;simp at this;omega
theorem YI (fb sb pb mb most st:Nat)(A O D:Nat→Prop)(N:List Stp)(W:Int→Bool)(cs:List Int)(es:List Ent)(sv ev:Value)(s:ByteArray)(ks:List Int)(w:World)(a:Nat→Addr)(hS:Start w a)(h:Fdr w A O D fb sb pb mb most N st W cs es sv)(hE:wk w (fun _=>True) ev ks)(hkl:ks.length<4611686018427387904) :
  Calls Tryz.prog 21 #[.pointer (some ⟨fb,0,none⟩),.string s,ev] w (fun x w'=>vy w w' s A O D fb sb pb mb most N st W cs x):=by
 have hev:∃ x n c,ev = .slice x n c:=by obtain ⟨x,c,e⟩:=hE.slice;exact ⟨_,_,_,e⟩
 have key:∀ (k:Nat) (p:Int),vx s N st W false k p→k≠0→∀ x w',(x = .returned (.tuple #[.bool false,.int .i64 k,.int .i64 p])∧ze (fun _=>False) w w')→vy w w' s A O D fb sb pb mb most N st W cs x:=by
  rintro k p hA hk x w' ⟨rfl,hO⟩
  exact ⟨false,k,p,O,D,es,sv,rfl,hA,h.young hO,fun e=>by omega,fun g hg=>.inl hg,fun g hg=>.inl hg,hO.mono (fun _ _ f=>f.elim)⟩
 by_cases hs:s.size≤400
 ·by_cases hc:0≤(Ref.zo s).2
  ·exact (Vf fb s ev w a 1 _ hev hS (by decide) (by decide) (ZB s 400 (by omega) hs w a hS.sents hS.size hc)).mono (key 1 _ (.inr (.inl ⟨hs,hc,rfl,rfl,rfl⟩)) (by decide))
  ·exact lfind_ok fb sb pb mb most st A O D N W cs es sv ev s ks w a hS h hE hkl hs (by omega)
 ·exact (Vf fb s ev w a 2 400 hev hS (by decide) (by decide) (vA s 400 (by omega) w a hS.sents)).mono (key 2 _ (.inl ⟨by omega,rfl,rfl,rfl⟩) (by decide))
def abS:ByteArray:=⟨#[97,42,98]⟩
def abT:Tree:=⟨5,0,0,false,[],[],[⟨6,0,0,false,[],[],[⟨7,0,-1,false,[],[],[⟨2,97,0,false,[],[],[]⟩]⟩,⟨2,98,0,false,[],[],[]⟩]⟩]⟩
theorem ab_let:Pro.letM abS (abS.size+1) 0=[(0,97),(1,42),(2,98)]:=by decide +kernel
theorem ab_ch:(Ref.zo abS).2<0:=by decide +kernel
theorem Kd:(Pro.altP [(0,97),(1,42),(2,98)] (abS.size:Nat) (Pro.zl [(0,97),(1,42),(2,98)] (abS.size:Nat) 10) 0).k=0∧(Pro.altP [(0,97),(1,42),(2,98)] (abS.size:Nat) (Pro.zl [(0,97),(1,42),(2,98)] (abS.size:Nat) 10) 0).n=3∧(Pro.altP [(0,97),(1,42),(2,98)] (abS.size:Nat) (Pro.zl [(0,97),(1,42),(2,98)] (abS.size:Nat) 10) 0).v=3:=by decide +kernel
theorem zaA:Pro.altQ [(0,97),(1,42),(2,98)] (abS.size:Nat) (Pro.zl [(0,97),(1,42),(2,98)] (abS.size:Nat) 10) (Pro.zH [(0,97),(1,42),(2,98)] (abS.size:Nat) 10) 0=abT:=by kernel_rfl
def aT:Tree:=⟨2,97,0,false,[],[],[]⟩
def bT:Tree:=⟨2,98,0,false,[],[],[]⟩
theorem ab_wf:Sm.WF 5 abT:=by simp [Sm.WF,abT,Sm.Tree.kid]
theorem ab_M {lf:Tree→Nat→Prop}{ah:Int→Nat→Prop}{F:Nat}(hF:Sm.WF F abT)(i j:Nat):Sm.M lf ah F abT i j↔∃ m,(∃ k,Sm.pow (fun i j=>lf aT i∧j=i+1) k i m)∧lf bT m∧j=m+1:=by
 rw [Sm.M_any ab_wf hF i j]
 simp [Sm.M,abT,Sm.q7,Sm.Tree.kid,aT,bT]
theorem ab_go {W:Int→Bool}{L:List (Int×Int)}{F:Nat}(hF:Sm.WF F abT)(i j:Nat):Prg.GoP W L (Sm.prg F abT).2 (Sm.prg F abT).1 i 0 j↔∃ m,(∃ k,Sm.pow (fun i j=>Prg.lfP L aT i∧j=i+1) k i m)∧Prg.lfP L bT m∧j=m+1:=(Sm.QT hF i j).trans (ab_M hF i j)
def t1S:ByteArray:=⟨#[120,97,97,98]⟩
def t2S:ByteArray:=⟨#[120,97,97,99]⟩
def t3S:ByteArray:=⟨#[97,97,98]⟩
def t4S:ByteArray:=⟨#[42,97]⟩
theorem t1_let:Pro.letM t1S (t1S.size+1) 0=[(0,120),(1,97),(2,97),(3,98)]:=by decide +kernel
theorem t2_let:Pro.letM t2S (t2S.size+1) 0=[(0,120),(1,97),(2,97),(3,99)]:=by decide +kernel
theorem t3_let:Pro.letM t3S (t3S.size+1) 0=[(0,97),(1,97),(2,98)]:=by decide +kernel
theorem t4_let:Pro.letM t4S (t4S.size+1) 0=[(0,42),(1,97)]:=by decide +kernel
theorem t1_ch:(Ref.zo t1S).2<0:=by decide +kernel
theorem t2_ch:(Ref.zo t2S).2<0:=by decide +kernel
theorem t3_ch:(Ref.zo t3S).2<0:=by decide +kernel
theorem t4_ch:(Ref.zo t4S).2<0:=by decide +kernel
theorem t4_out:(Pro.altP [(0,42),(1,97)] (t4S.size:Nat) (Pro.zl [(0,42),(1,97)] (t4S.size:Nat) 10) 0).k=3:=by decide +kernel
theorem t1_hit {W:Int→Bool}{F:Nat}(hF:Sm.WF F abT)(hst:(Sm.prg F abT).1<(Sm.prg F abT).2.length)(hf:∀ (k:Nat) s,(Sm.prg F abT).2[k]?=some s→s.next<(Sm.prg F abT).2.length∧s.other<(Sm.prg F abT).2.length):Fnd.hit (Sm.prg F abT).2 (Fnd.run (Sm.prg F abT).2 (Sm.prg F abT).1 W (Pro.letM t1S (t1S.size+1) 0) (Pro.letM t1S (t1S.size+1) 0).length):=by
 rw [t1_let]
 refine (Fnd.found_iff hst hf).2 ⟨3,4,by decide,by decide,(ab_go hF 3 4).2 ⟨3,⟨0,rfl⟩,⟨by decide,by decide⟩,rfl⟩⟩
theorem t2_hit {W:Int→Bool}{F:Nat}(hF:Sm.WF F abT)(hst:(Sm.prg F abT).1<(Sm.prg F abT).2.length)(hf:∀ (k:Nat) s,(Sm.prg F abT).2[k]?=some s→s.next<(Sm.prg F abT).2.length∧s.other<(Sm.prg F abT).2.length):¬Fnd.hit (Sm.prg F abT).2 (Fnd.run (Sm.prg F abT).2 (Sm.prg F abT).1 W (Pro.letM t2S (t2S.size+1) 0) (Pro.letM t2S (t2S.size+1) 0).length):=by
 rw [t2_let]
 intro h
 obtain ⟨i,j,_,_,g⟩:=(Fnd.found_iff hst hf).1 h
 obtain ⟨m,_,⟨hm,hb⟩,_⟩:=(ab_go hF i j).1 g
 have hm4:m<4:=hm
 have key:∀ m,m<4→Cs.qY bT (Pro.zf [(0,120),(1,97),(2,97),(3,99)] m)=false:=by decide
 rw [key m hm4] at hb
 cases hb
theorem t3_ends {W:Int→Bool}{F:Nat}(hF:Sm.WF F abT){js:List Nat}(h:wl (Pro.letM t3S (t3S.size+1) 0).length (Prg.GoP W (Pro.letM t3S (t3S.size+1) 0) (Sm.prg F abT).2 (Sm.prg F abT).1 0 0) js):js=[3]:=by
 rw [t3_let] at h
 refine Fnd.rising_eq js [3] h.1 (by simp) (fun j=>?_)
 rw [h.2 j,ab_go hF 0 j]
 constructor
 ·rintro ⟨_,m,_,⟨hm,hb⟩,rfl⟩
  have hm3:m<3:=hm
  have key:∀ m,m<3→Cs.qY bT (Pro.zf [(0,97),(1,97),(2,98)] m)=true→m=2:=by decide
  have:=key m hm3 hb
  simp;omega
 ·intro hj
  have hj3:j=3:=by simpa using hj
  subst hj3
  exact ⟨by decide,2,⟨2,1,⟨⟨by decide,by decide⟩,rfl⟩,2,⟨⟨by decide,by decide⟩,rfl⟩,rfl⟩,⟨by decide,by decide⟩,rfl⟩
theorem ab_ok (w:World)(a:Nat→Addr)(hS:Start w a):wQ abS abT 3 w:=by
 have h:=kD abS w a hS.sents hS.size (by decide) ab_ch _ ab_let _ rfl Kd.1 (by rw [Kd.2.1];rfl) (by rw [Kd.2.2];decide)
 rw [zaA,Kd.2.2] at h
 exact h
theorem ab_fine:Zu abT:=by
 have h:Zu (Pro.altQ (Pro.letM abS (abS.size+1) 0) (abS.size:Nat) (Pro.zl (Pro.letM abS (abS.size+1) 0) (abS.size:Nat) 10) (Pro.zH (Pro.letM abS (abS.size+1) 0) (abS.size:Nat) 10) 0):=fun f=>⟨Pro.Yt (jH abS _ _) 10 0 f,Pro.Yv (by have:=Pro.qG abS (abS.size+1) 0;have e:abS.size=3:=rfl;omega) 10 0 f,Pro.Yu (fun n f=>Pro.wL 10 n f) 0 f⟩
 rw [ab_let,zaA] at h
 exact h
theorem t4_bad (w:World)(a:Nat→Addr)(hS:Start w a):∃ p,JX t4S a 3 p w:=by
 have h:=wt t4S w a hS.sents hS.size (by decide) t4_ch _ t4_let _ rfl (by rw [t4_out];decide)
 rw [t4_out] at h
 exact ⟨_,h⟩
set_option maxHeartbeats 4000000
theorem vx.ok {s:ByteArray}{N:List Stp}{st:Nat}{W:Int→Bool}{r:Bool}{k p:Int}(h:vx s N st W r k p)(hs:s.size≤400)(hc:(Ref.zo s).2<0):k=0∧p=0∧(r=true↔Fnd.hit N (Fnd.run N st W (Pro.letM s (s.size+1) 0) (Pro.letM s (s.size+1) 0).length)):=by
 rcases h with ⟨a1,a2,a3,a4⟩ |⟨a1,a2,a3,a4,a5⟩ |⟨a1,a2,a3,a4,a5⟩
 ·omega
 ·omega
 ·exact ⟨a3,a4,a5⟩
theorem zb9 {w:World}{base:Nat}{sv:Value}(h:w.ownsRow base 3 1 sv [3].length (zM [3])):∃ g c,sv = .slice (some ⟨g,0,none⟩) 1 c∧w.cell? ⟨g,0,none⟩=some (.int .i64 3):=by
 rcases xI.of h with ⟨_,e⟩ |⟨g,cap,rfl,h1,h2⟩
 ·cases e
 ·exact ⟨g,cap,rfl,h2 0 3 rfl⟩
theorem wg (w:World)(a:Nat→Addr)(base:Nat)(hB:wd w a base) :
  Calls Tryz.prog 8 #[] w fun x w'=>x = .returned (.bool true)∧ze (fun _=>False) w w':=by
 have HB:=zc hB
 have HC:=zc (vw abS w abT 3 (by decide) ab_fine (ab_ok w a hB.st))
 have H4:Hid (∀ V,Start V a→∃ p,Calls Tryz.prog 19 #[.string t4S] V fun x w'=>x = .returned (.tuple #[.pointer none,.int .i64 (3:Nat),.int .i64 p])∧ze (fun _=>False) V w'):=fun V hV=>by
  obtain ⟨p,hp⟩:=t4_bad V a hV
  exact ⟨p,Zv t4S V a 3 p hV (by decide) (by decide) hp⟩
 clear hB
 go_enter Tryz.func8,Tryz.ntmps8
 go_wp2_with (go_at_call 19;refine (zb HC).mono ?_;rintro e w1 ⟨g,pb,F,W,cs,rfl,hX,hF,hO1⟩;refine zb ?_)
 refine zc ?_
 have hB1:=(zb HB).keep hO1 (fun _ f=>f.elim)
 have HFi:=zc (Qe g pb _ 2 _ _ W cs _ w1 hX hB1.tab (by decide) (by decide))
 have HX:=zc hX
 have HO1:=zc hO1
 have HWF:=zc hF
 clear hX hO1 hB1 hF HC
 go_wp2_with (go_at_call 20;refine (zb HFi).mono ?_;rintro e w2 ⟨fb,sb,mb,rfl,hfb,hsb,hmb,hFd,hO2⟩;refine zb ?_)
 refine zc ?_
 have hB2:=((zb HB).keep (zb HO1) (fun _ f=>f.elim)).keep hO2 (fun _ f=>f.elim)
 have hP:=(zb HX).prog.at'
 have HF1:=zc (YI fb sb pb mb 2 _ _ _ _ _ W cs [] _ (.slice none 0 0) t1S [] w2 a hB2.st hFd (.inl ⟨rfl,none,0,rfl⟩) (by simp))
 have HO2:=zc hO2
 have HHit:=zc (And.intro (t1_hit (W:=W) (zb HWF) hP.stl hP.fit) (t2_hit (W:=W) (zb HWF) hP.stl hP.fit))
 clear hFd hO2 hB2 hP HFi
 go_wp2_with (go_at_call 21;refine (zb HF1).mono ?_;rintro e w3 ⟨r1,k1,p1,O1,D1,es1,sv1,rfl,hA1,hFd1,_,hoo1,hdd1,hO3⟩;refine zb ?_)
 refine zc ?_
 have hR1:k1=0∧p1=0∧r1=true:=by
  obtain ⟨e1,e2,hr1⟩:=hA1.ok (by decide) t1_ch
  exact ⟨e1,e2,hr1.2 (zb HHit).1⟩
 obtain ⟨rfl,rfl,rfl⟩:=hR1
 have hs1:=(zb HO1).size
 have hs2:=(zb HO2).size
 have hBb:=(zb HB).le
 have hB3:=(((zb HB).keep (zb HO1) (fun _ f=>f.elim)).keep (zb HO2) (fun _ f=>f.elim)).keep hO3 (fun q hq=>by rcases hq with rfl |rfl<;>omega)
 have hK3:ze (fun q=>w1.heap.size≤q) w1 w3:=((zb HO2).mono (fun _ _ f=>f.elim)).trans (hO3.mono (fun q _ hq=>by rcases hq with rfl |rfl<;>omega))
 have hO1b:∀ q,O1 q→w1.heap.size≤q:=fun q hq=>by
  rcases hoo1 q hq with (rfl |rfl) |h
  ·omega
  ·omega
  ·omega
 have HF2:=zc (YI fb sb pb mb 2 _ _ _ _ _ W cs es1 sv1 (.slice none 0 0) t2S [] w3 a hB3.st hFd1 (.inl ⟨rfl,none,0,rfl⟩) (by simp))
 have HB3:=zc hB3
 have HK3:=zc hK3
 have HO1b:=zc hO1b
 clear hA1 hFd1 hoo1 hdd1 hO3 hB3 hK3 hO1b HF1
 go_wp2_with (go_at_call 21;refine (zb HF2).mono ?_;rintro e w4 ⟨r2,k2,p2,O2,D2,es2,sv2,rfl,hA2,hFd2,_,hoo2,hdd2,hO4⟩;refine zb ?_)
 refine zc ?_
 have HR2:Hid (k2=0∧p2=0∧r2=false):=by
  obtain ⟨e1,e2,hr2⟩:=hA2.ok (by decide) t2_ch
  refine ⟨e1,e2,?_⟩
  cases r2
  ·rfl
  ·exact absurd (hr2.1 rfl) (zb HHit).2
 have hB4:=(zb HB3).keep hO4 (fun q hq=>by have:=zb HO1b q hq;omega)
 have hK4:ze (fun q=>w1.heap.size≤q) w1 w4:=(zb HK3).trans (hO4.mono (fun q _ hq=>zb HO1b q hq))
 have hX4:=(zb HX).keep hK4 (fun q hq h=>by have:=hq.2;omega)
 have HEn:Hid (Calls Tryz.prog 22 #[.pointer (some ⟨g,0,none⟩),.string t3S,.int .i64 0] w4 fun x w'=>∃ sv,x = .returned (.tuple #[sv,.int .i64 0,.int .i64 0])∧w'.ownsRow w4.heap.size 3 1 sv [3].length (zM [3])∧ze (fun _=>False) w4 w'):=by
  refine (X4 g pb _ 0 t3S _ W _ w4 a hB4.st (by decide) t3_ch hX4.ptr hX4.prog.at' (by omega)).mono ?_
  rintro x w' ⟨sv,js,rfl,e1,e2,e3⟩
  have e4:=t3_ends (zb HWF) e2
  subst e4
  exact ⟨sv,rfl,e1,e3⟩
 have HB4:=zc hB4
 have HK4:=zc hK4
 have z4:w4.cell? ⟨g,0,none⟩=some (.int .i64 4):=hX4.size
 have HZ4:=zc z4
 clear hA2 hFd2 hoo2 hdd2 hO4 hB4 hK4 hX4 HF2 HHit HO1b HK3 HB3 HX z4 hs1 hs2 hBb
 go_wp2_with (go_at_call 22;refine (zb HEn).mono ?_;rintro e w5 ⟨sv5,rfl,ho5,hO5⟩;refine zb ?_)
 refine zc ?_
 obtain ⟨p9,hp9⟩:=zb H4 w5 ((zb HB4).keep hO5 (fun _ f=>f.elim)).st
 have HP9:=zc hp9
 obtain ⟨g5,c5,rfl,d5⟩:=zb9 ho5
 have z5:=zg hO5 _ _ (zb HZ4) (fun f=>f)
 have HK5:Hid (ze (fun q=>w1.heap.size≤q) w1 w5):=(zb HK4).trans (hO5.mono (fun _ _ f=>f.elim))
 clear hp9 ho5 hO5 HEn HZ4 HK4
 go_wp2_with (go_at_call 19;refine (zb HP9).mono ?_;rintro e w6 ⟨rfl,hO6⟩;refine zb ?_)
 refine zc ?_
 obtain ⟨rfl,rfl,rfl⟩:=zb HR2
 have z6:=zg hO6 _ _ z5 (fun f=>f)
 have d6:=zg hO6 _ _ d5 (fun f=>f)
 have HK6:Hid (ze (fun q=>w1.heap.size≤q) w1 w6):=(zb HK5).trans (hO6.mono (fun _ _ f=>f.elim))
 have HSz:=zc (kX g _ w6 z6)
 clear z5 d5 hO6 HK5 HP9
 go_wp2_with (go_at_call 17;refine (zb HSz).mono ?_;rintro e w7 ⟨rfl,hO7⟩;have d7:=zg hO7 _ _ d6 (fun f=>f);have HK7:Hid (ze (fun q=>w1.heap.size≤q) w1 w7):=(zb HK6).trans (hO7.mono (fun _ _ f=>f.elim));clear hO7)
 go_ret
 refine ⟨rfl,?_⟩
 exact (zb HO1).laterO (zb HK7) (fun i hi h=>by have:=(zb HO1).size;omega)

end
end Go.Proofs.YtcgleficedipkaaGreatDoor
