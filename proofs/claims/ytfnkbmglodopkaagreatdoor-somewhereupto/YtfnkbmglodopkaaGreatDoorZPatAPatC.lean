/- The program's Pattern: a pattern read, or its first fault. -/
import Derived.Test.YtfnkbmglodopkaaGreatDoorZEqNEqO
import Derived.Test.YtfnkbmglodopkaaGreatDoorZTrITrG
import Derived.Test.YtfnkbmglodopkaaGreatDoorZTrJTrK
import Derived.Test.YtfnkbmglodopkaaGreatDoorZSizA
namespace Go.Proofs.YtfnkbmglodopkaaGreatDoor
section
open Go.RowKit
set_option maxHeartbeats 800000
theorem Y8:∀ (L:List (Int×Int)) (j:Nat) (p:Int×Int),L[j]?=some p→(Pro.yL L)[j*2]?=some (.int .i64 p.1)∧(Pro.yL L)[j*2+1]?=some (.int .i32 p.2)
 | [],j,p,h=>by simp at h
 |(x,y) :: r,0,p,h=>by
  simp only [List.getElem?_cons_zero,Option.some.injEq] at h
  subst h
  exact ⟨rfl,rfl⟩
 |(x,y) :: r,j+1,p,h=>by
  have:=Y8 r j p (by simpa using h)
  rw [show (j+1)*2=j*2+2 by omega]
  exact this
theorem XN {w:World}{base:Nat}{v:Value}{L:List (Int×Int)}(h:w.ownsRow base 156 2 v L.length (Pro.yL L)) :
  (v = .slice none 0 0∧L=[])∨∃ g cap,v = .slice (some ⟨g,0,none⟩) L.length cap∧L.length≤cap∧g<w.heap.size∧LetRow w g L:=by
 have how:=h
 obtain ⟨h1,h2⟩:=h
 rcases h2 with ⟨rfl,h0⟩ |⟨g,cap,cur,rfl,hb,hg,hc,hm,hs,ht⟩
 ·exact .inl ⟨rfl,List.eq_nil_of_length_eq_zero h0⟩
 ·refine .inr ⟨g,cap,rfl,hc,(Array.getElem?_eq_some_iff.1 hg).1,?_⟩
  intro j p hj
  have hjl:j<L.length:=by
   by_cases hlt:j<L.length
   ·exact hlt
   ·rw [List.getElem?_eq_none (by omega)] at hj;cases hj
  obtain ⟨e0,e1⟩:=Y8 L j p hj
  exact ⟨(how.cellAt _ (by omega)).trans e0,(how.cellAt _ (by omega)).trans e1⟩
theorem jX (s:ByteArray)(f p:Nat):Pro.Fit (Pro.letM s f p):=by
 intro k
 unfold Pro.ze
 cases h:(Pro.letM s f p)[k]? with
 |none=>simp
 |some x=>
  have:=Pro.ZM s f p x (List.mem_of_getElem? h)
  simp only []
  omega
theorem XO {w:World}{base:Nat}{v:Value}{L:List (Int×Int)}{len:Int}(h:w.ownsRow base 156 2 v L.length (Pro.yL L)) :
  zG (w.alloc (.cells #[v,.int .i64 0,.int .i64 len,.int .i64 0] 119)) w.heap.size L 0 len 0:=by
 refine ⟨?_,zj w _ rfl _ _ 1 _ rfl,zj w _ rfl _ _ 2 _ rfl,zj w _ rfl _ _ 3 _ rfl,zz w _ rfl _ _ 1,zz w _ rfl _ _ 3⟩
 rcases XN h with ⟨rfl,rfl⟩ |⟨g,cap,rfl,hc,hg,hr⟩
 ·exact .inr ⟨rfl,zj w _ rfl _ _ 0 _ rfl⟩
 ·exact .inl ⟨g,cap,zj w _ rfl _ _ 0 _ rfl,hc,hg,hr.keep ((zd.refl (fun _=>False) w).alloc _) (fun f=>f)⟩
theorem qB (s:ByteArray)(most:Int)(hm:(s.size:Int)≤most)(hs:s.size≤400)(w:World)(a:Nat→Addr)(hS:zK w a)(hw:10≤w.heap.size)(hc:(Ref.zJ s).2<0) :
  Calls Tryz.prog 50 #[.string s,.int .i64 most] w fun x w'=>∃ v,x = .returned (.tuple #[v,.nilIface])∧w'.ownsRow (w.heap.size+3) 156 2 v (Pro.letM s (s.size+1) 0).length (Pro.yL (Pro.letM s (s.size+1) 0))∧zd (fun _=>False) w w':=by
 refine (Zn s most hm hs w _ _ hS.s1 hw).mono ?_
 rintro e w' ⟨hO,⟨_,v,h1,h2⟩ |⟨hE,_⟩⟩
 ·exact ⟨v,h1,h2,hO⟩
 ·rcases Eqv.Ya s with ⟨_,h2⟩ |⟨h1,_,_⟩
  ·omega
  ·omega
theorem Yi (s:ByteArray)(most:Int)(hm:(s.size:Int)≤most)(hs:s.size≤400)(w:World)(a:Nat→Addr)(hS:zK w a)(hw:10≤w.heap.size)(hc:0≤(Ref.zJ s).2) :
  Calls Tryz.prog 50 #[.string s,.int .i64 most] w fun x w'=>∃ v,x = .returned (.tuple #[.slice none 0 0,v])∧zA w' w.heap.size v (zE a 1) (Ref.zJ s).2∧zd (fun _=>False) w w':=by
 refine (Zn s most hm hs w _ _ hS.s1 hw).mono ?_
 rintro e w' ⟨hO,⟨hE,_⟩ |⟨_,v,h1,h2⟩⟩
 ·rcases Eqv.Ya s with ⟨h2,_⟩ |⟨_,h2,h3⟩
  ·omega
  ·omega
 ·rcases Eqv.Ya s with ⟨h3,_⟩ |⟨_,h3,_⟩
  ·omega
  ·rw [h3] at h2;exact ⟨v,h1,h2,hO⟩
theorem wo (s:ByteArray)(most:Int)(hm:most<(s.size:Int))(w:World)(a:Nat→Addr)(hS:zK w a) :
  Calls Tryz.prog 50 #[.string s,.int .i64 most] w fun x w'=>∃ v,x = .returned (.tuple #[.slice none 0 0,v])∧zA w' w.heap.size v (zE a 2) most∧zd (fun _=>False) w w':=by
 have s2:=hS.s2
 unfold zE at s2 ⊢
 go_enter Tryz.func50,Tryz.ntmps50
 go_wp2_with (go_at_call 62;refine (vg _ _ _ _).mono ?_;rintro e w1 ⟨v,rfl,hv,hO1⟩)
 go_ret2
 exact ⟨v,rfl,hv,hO1⟩
theorem XP (s:ByteArray)(w:World)(a:Nat→Addr)(hS:zK w a)(hs:200<s.size) :
  Calls Tryz.prog 44 #[.string s] w fun x w'=>∃ v,x = .returned (.tuple #[.nilIface,v])∧zA w' w.heap.size v (zE a 2) 200∧zd (fun _=>False) w w':=by
 have HS:=zb hS
 clear hS
 go_enter Tryz.func44,Tryz.ntmps44
 go_wp2_with (go_at_call 50;refine (wo s 200 (by omega) _ a (za HS)).mono ?_;rintro e w1 ⟨v,rfl,hv,hO1⟩;have HV:=zb hv;obtain ⟨g,hg,rfl,f0,f1⟩:=hv;clear f0 f1)
 go_ret2
 exact ⟨_,rfl,za HV,hO1⟩
theorem XQ (s:ByteArray)(w:World)(a:Nat→Addr)(hS:zK w a)(hw:10≤w.heap.size)(hs:s.size≤200)(hc:0≤(Ref.zJ s).2) :
  Calls Tryz.prog 44 #[.string s] w fun x w'=>∃ v,x = .returned (.tuple #[.nilIface,v])∧zA w' w.heap.size v (zE a 1) (Ref.zJ s).2∧zd (fun _=>False) w w':=by
 have HS:=zb hS
 have HC:=zb hc
 clear hS hc
 go_enter Tryz.func44,Tryz.ntmps44
 go_wp2_with (go_at_call 50;refine (Yi s 200 (by omega) (by omega) _ a (za HS) hw (za HC)).mono ?_;rintro e w1 ⟨v,rfl,hv,hO1⟩;have HV:=zb hv;obtain ⟨g,hg,rfl,f0,f1⟩:=hv;clear f0 f1)
 go_ret2
 exact ⟨_,rfl,za HV,hO1⟩
open Sm (Tree capT)
set_option maxHeartbeats 2000000
set_option maxRecDepth 1000000
theorem alt_bad {b:Nat}{L:List (Int×Int)}{len:Int}{a:Nat→Addr}{w:World}(h:zG w b L 0 len 0)(hS:zK w a)(hb:10≤b)(hL:L.length≤400)(hF:Pro.Fit L)(h0:0≤L.length)(hk:(Pro.altP L len (Pro.zy L len 10) 0).k≠0) :
  Calls Tryz.prog 59 #[.pointer (some ⟨b,0,none⟩)] w fun x w'=>∃ v,x = .returned (.tuple #[.nilIface,v])∧zA w' w.heap.size v (zE a (Pro.altP L len (Pro.zy L len 10) 0).k) (Pro.altP L len (Pro.zy L len 10) 0).p∧zd (zo b) w w':=by
 refine (ql b L 0 len a w h hS hb hL (by omega) hF).mono ?_
 rintro e w' ⟨hO,hR,⟨h1,_⟩ |⟨_,v,rfl,hv⟩⟩
 ·exact absurd h1 hk
 ·exact ⟨v,rfl,hv,hO⟩
theorem alt_ok {b:Nat}{L:List (Int×Int)}{len:Int}{a:Nat→Addr}{w:World}(h:zG w b L 0 len 0)(hS:zK w a)(hb:10≤b)(hL:L.length≤400)(hF:Pro.Fit L)(h0:0≤L.length)(hk:(Pro.altP L len (Pro.zy L len 10) 0).k=0) :
  Calls Tryz.prog 59 #[.pointer (some ⟨b,0,none⟩)] w fun x w'=>∃ T y F,x = .returned (.tuple #[.iface T y,.nilIface])∧zQ F w' (fun g=>w.heap.size≤g) (.iface T y) (Pro.altP L len (Pro.zy L len 10) 0).v∧zG w' b L (Pro.altP L len (Pro.zy L len 10) 0).n len 0∧zd (zo b) w w':=by
 refine (ql b L 0 len a w h hS hb hL h0 hF).mono ?_
 intro e w' hg
 obtain ⟨T,y,F,rfl,hp,hO,hR⟩:=xB hg hk
 exact ⟨T,y,F,rfl,by rw [←(Pro.Jt 10 0 h0 hk).at hp.wf];exact hp.size,hR,hO⟩
theorem Zv (s:ByteArray)(w:World)(a:Nat→Addr)(hS:zK w a)(hw:10≤w.heap.size)(hs:s.size≤200)(hc:(Ref.zJ s).2<0)(L:List (Int×Int))(hLe:Pro.letM s (s.size+1) 0=L)(o:Pro.Out)(ho:Pro.altP L (s.size:Nat) (Pro.zy L (s.size:Nat) 10) 0=o)(hk:o.k≠0) :
  Calls Tryz.prog 44 #[.string s] w fun x w'=>∃ v,x = .returned (.tuple #[.nilIface,v])∧zA w' w.heap.size v (zE a o.k) o.p∧zd (fun _=>False) w w':=by
 have HL:Hid (L.length≤400):=by
  have:=Pro.qJ s (s.size+1) 0
  rw [hLe] at this;show _≤_;omega
 have HF:Hid (Pro.Fit L):=by rw [←hLe];exact jX s _ _
 have HS:=zb hS
 have HO:=zb ho
 have HE:=zb hLe
 subst ho
 subst hLe
 clear hS
 go_enter Tryz.func44,Tryz.ntmps44
 go_wp2_with (first |(go_at_call 50;refine (qB s 200 (by omega) (by omega) _ a (za HS) hw hc).mono ?_;rintro e w1 ⟨v,rfl,hv,hO1⟩;have HV:=zb hv;obtain ⟨pa,pn,pc,rfl⟩:=zp hv;clear hv;have hz1:=hO1.size) |(go_at_call 59;refine (alt_bad (XO (za HV)) ((za HS).keep (hO1.alloc _) (fun _ _ f=>f)) (by omega) (za HL) (za HF) (by omega) hk).mono ?_;rintro e w2 ⟨v,rfl,hv,hO2⟩;have HV2:=zb hv;obtain ⟨g,hg,rfl,f0,f1⟩:=hv;clear f0 f1))
 go_ret2
 exact ⟨_,rfl,(za HV2).base (by simp;omega),(hO1.alloc _).later hO2 (fun i hi=>by unfold zo at hi;omega)⟩
theorem XR (s:ByteArray)(w:World)(a:Nat→Addr)(hS:zK w a)(hw:10≤w.heap.size)(hs:s.size≤200)(hc:(Ref.zJ s).2<0)(L:List (Int×Int))(hLe:Pro.letM s (s.size+1) 0=L)(o:Pro.Out)(ho:Pro.altP L (s.size:Nat) (Pro.zy L (s.size:Nat) 10) 0=o)(hk:o.k=0)(hn:o.n≠L.length) :
  Calls Tryz.prog 44 #[.string s] w fun x w'=>∃ v,x = .returned (.tuple #[.nilIface,v])∧zA w' w.heap.size v (zE a 3) (Pro.zx L (s.size:Nat) o.n)∧zd (fun _=>False) w w':=by
 have HL:Hid (L.length≤400):=by
  have:=Pro.qJ s (s.size+1) 0
  rw [hLe] at this;show _≤_;omega
 have HF:Hid (Pro.Fit L):=by rw [←hLe];exact jX s _ _
 have HS:=zb hS
 have HO:=zb ho
 have HE:=zb hLe
 subst ho
 subst hLe
 clear hS
 have hin:=Pro.wm (L:=Pro.letM s (s.size+1) 0) (len:=((s.size:Nat):Int)) (D:=Pro.zy (Pro.letM s (s.size+1) 0) ((s.size:Nat):Int) 10) (Pro.qe 10) 0 (by omega)
 have hn':(((Pro.altP (Pro.letM s (s.size+1) 0) ((s.size:Nat):Int) (Pro.zy (Pro.letM s (s.size+1) 0) ((s.size:Nat):Int) 10) 0).n:Int) == ((Pro.letM s (s.size+1) 0).length:Int))=false:=by simp;omega
 go_enter Tryz.func44,Tryz.ntmps44
 go_wp2_with (first |(go_at_call 50;refine (qB s 200 (by omega) (by omega) _ a (za HS) hw hc).mono ?_;rintro e w1 ⟨v,rfl,hv,hO1⟩;have HV:=zb hv;obtain ⟨pa,pn,pc,rfl⟩:=zp hv;clear hv;have hz1:=hO1.size) |(go_at_call 59;refine (alt_ok (XO (za HV)) ((za HS).keep (hO1.alloc _) (fun _ _ f=>f)) (by omega) (za HL) (za HF) (by omega) hk).mono ?_;rintro e w2 ⟨T,y,F,rfl,hv,hR,hO2⟩;have HV2:=zb hv;have HR:=zb hR;clear hv hR;have hz2:=hO2.size;simp only [World.size_alloc] at hz2) |(go_at_call 60;refine (qD w1.heap.size _ _ _ _ _ (za HR)).mono ?_;rintro e wq ⟨rfl,q1,rfl⟩) |(go_at_call 61;refine (qL w1.heap.size _ _ _ _ a _ ((za HR).drewN _) (zK.drewN ((za HS).keep ((hO1.alloc _).later hO2 (fun i hi=>by unfold zo at hi;omega)) (fun _ _ f=>f)) _) (za HL) hin.2.1).mono ?_;rintro e w3 ⟨v3,rfl,hv3,hO3⟩))
 go_ret2
 exact ⟨v3,rfl,hv3.base (by simp;omega),((hO1.alloc _).later hO2 (fun i hi=>by unfold zo at hi;omega)).trans (zd.undrewN hO3)⟩
theorem QM (s:ByteArray)(w:World)(a:Nat→Addr)(hS:zK w a)(hw:10≤w.heap.size)(hs:s.size≤200)(hc:(Ref.zJ s).2<0)(L:List (Int×Int))(hLe:Pro.letM s (s.size+1) 0=L)(o:Pro.Out)(ho:Pro.altP L (s.size:Nat) (Pro.zy L (s.size:Nat) 10) 0=o)(hk:o.k=0)(hn:o.n=L.length)(hv:300≤o.v) :
  Calls Tryz.prog 44 #[.string s] w fun x w'=>∃ v,x = .returned (.tuple #[.nilIface,v])∧zA w' w.heap.size v (zE a 8) 0∧zd (fun _=>False) w w':=by
 have HL:Hid (L.length≤400):=by
  have:=Pro.qJ s (s.size+1) 0
  rw [hLe] at this;show _≤_;omega
 have HF:Hid (Pro.Fit L):=by rw [←hLe];exact jX s _ _
 have HS:=zb hS
 have HO:=zb ho
 have HE:=zb hLe
 subst ho
 subst hLe
 clear hS
 have hin:=Pro.wm (L:=Pro.letM s (s.size+1) 0) (len:=((s.size:Nat):Int)) (D:=Pro.zy (Pro.letM s (s.size+1) 0) ((s.size:Nat):Int) 10) (Pro.qe 10) 0 (by omega)
 have hn':(((Pro.altP (Pro.letM s (s.size+1) 0) ((s.size:Nat):Int) (Pro.zy (Pro.letM s (s.size+1) 0) ((s.size:Nat):Int) 10) 0).n:Int) == ((Pro.letM s (s.size+1) 0).length:Int))=true:=by simp;omega
 have hin3:=hin.2.2 hk
 have hS8:∀ w',zd (fun _=>False) w w'→w'.cell? ⟨0,0,none⟩=some (zE a 8):=fun w' ho=>((za HS).keep ho (fun _ _ f=>f)).s8
 unfold zE at hS8 ⊢
 go_enter Tryz.func44,Tryz.ntmps44
 go_wp2_with (first |(go_at_call 50;refine (qB s 200 (by omega) (by omega) _ a (za HS) hw hc).mono ?_;rintro e w1 ⟨v,rfl,hv,hO1⟩;have HV:=zb hv;obtain ⟨pa,pn,pc,rfl⟩:=zp hv;clear hv;have hz1:=hO1.size) |(go_at_call 59;refine (alt_ok (XO (za HV)) ((za HS).keep (hO1.alloc _) (fun _ _ f=>f)) (by omega) (za HL) (za HF) (by omega) hk).mono ?_;rintro e w2 ⟨T,y,F,rfl,hv,hR,hO2⟩;have HV2:=zb hv;have HR:=zb hR;clear hv hR;have hz2:=hO2.size;simp only [World.size_alloc] at hz2) |(go_at_call 60;refine (qD w1.heap.size _ _ _ _ _ (za HR)).mono ?_;rintro e wq ⟨rfl,q1,rfl⟩) |(go_at_call 47;refine (qT F _ _ _ _ (zQ.drewN (za HV2) _)).mono ?_;rintro e w3 ⟨rfl,hO3⟩);have s8:=hS8 w3 (((hO1.alloc _).later hO2 (fun i hi=>by unfold zo at hi;omega)).trans (zd.undrewN hO3));have hz3:=hO3.size |(go_at_call 62;refine (vg _ _ _ _).mono ?_;rintro e w4 ⟨v4,rfl,hv4,hO4⟩))
 go_ret2
 exact ⟨v4,rfl,hv4.base (by simp at hz3;omega),(((hO1.alloc _).later hO2 (fun i hi=>by unfold zo at hi;omega)).trans (zd.undrewN hO3)).trans hO4⟩
theorem alt_okT {b:Nat}{L:List (Int×Int)}{len:Int}{a:Nat→Addr}{w:World}(h:zG w b L 0 len 0)(hS:zK w a)(hb:10≤b)(hL:L.length≤400)(hF:Pro.Fit L)(h0:0≤L.length)(hk:(Pro.altP L len (Pro.zy L len 10) 0).k=0) :
  Calls Tryz.prog 59 #[.pointer (some ⟨b,0,none⟩)] w fun x w'=>∃ T y F,x = .returned (.tuple #[.iface T y,.nilIface])∧zu F w' (fun g=>w.heap.size≤g) (.iface T y) (Pro.altQ L len (Pro.zy L len 10) (Pro.xI L len 10) 0)∧capT F (Pro.altQ L len (Pro.zy L len 10) (Pro.xI L len 10) 0)=(Pro.altP L len (Pro.zy L len 10) 0).v∧zG w' b L (Pro.altP L len (Pro.zy L len 10) 0).n len 0∧zd (zo b) w w':=by
 refine (ql b L 0 len a w h hS hb hL h0 hF).mono ?_
 intro e w' hg
 obtain ⟨T,y,F,rfl,hp,hO,hR⟩:=xB hg hk
 exact ⟨T,y,F,rfl,hp,(Pro.Jt 10 0 h0 hk).at hp.wf,hR,hO⟩
theorem Zw (s:ByteArray)(w:World)(a:Nat→Addr)(hS:zK w a)(hw:10≤w.heap.size)(hs:s.size≤200)(hc:(Ref.zJ s).2<0)(L:List (Int×Int))(hLe:Pro.letM s (s.size+1) 0=L)(o:Pro.Out)(ho:Pro.altP L (s.size:Nat) (Pro.zy L (s.size:Nat) 10) 0=o)(hk:o.k=0)(hn:o.n=L.length)(hv:o.v<300) :
  Calls Tryz.prog 44 #[.string s] w fun x w'=>(∃ T y F,x = .returned (.tuple #[.iface T y,.nilIface])∧zu F w' (fun g=>w.heap.size≤g) (.iface T y) (Pro.altQ L (s.size:Nat) (Pro.zy L (s.size:Nat) 10) (Pro.xI L (s.size:Nat) 10) 0)∧capT F (Pro.altQ L (s.size:Nat) (Pro.zy L (s.size:Nat) 10) (Pro.xI L (s.size:Nat) 10) 0)=o.v)∧zd (fun _=>False) w w':=by
 have HL:Hid (L.length≤400):=by
  have:=Pro.qJ s (s.size+1) 0
  rw [hLe] at this;show _≤_;omega
 have HF:Hid (Pro.Fit L):=by rw [←hLe];exact jX s _ _
 have HS:=zb hS
 have HO:=zb ho
 have HE:=zb hLe
 subst ho
 subst hLe
 clear hS
 have hin:=Pro.wm (L:=Pro.letM s (s.size+1) 0) (len:=((s.size:Nat):Int)) (D:=Pro.zy (Pro.letM s (s.size+1) 0) ((s.size:Nat):Int) 10) (Pro.qe 10) 0 (by omega)
 have hn':(((Pro.altP (Pro.letM s (s.size+1) 0) ((s.size:Nat):Int) (Pro.zy (Pro.letM s (s.size+1) 0) ((s.size:Nat):Int) 10) 0).n:Int) == ((Pro.letM s (s.size+1) 0).length:Int))=true:=by simp;omega
 have hin3:=hin.2.2 hk
 go_enter Tryz.func44,Tryz.ntmps44
 go_wp2_with (first |(go_at_call 50;refine (qB s 200 (by omega) (by omega) _ a (za HS) hw hc).mono ?_;rintro e w1 ⟨v,rfl,hv,hO1⟩;have HV:=zb hv;obtain ⟨pa,pn,pc,rfl⟩:=zp hv;clear hv;have hz1:=hO1.size) |(go_at_call 59;refine (alt_okT (XO (za HV)) ((za HS).keep (hO1.alloc _) (fun _ _ f=>f)) (by omega) (za HL) (za HF) (by omega) hk).mono ?_;rintro e w2 ⟨T,y,F,rfl,hv,hc0,hR,hO2⟩;have HVT:=zb hv;have HC0:=zb hc0;have HV2:=zb hv.size;rw [hc0] at HV2;clear hc0;have HR:=zb hR;clear hv hR;have hz2:=hO2.size;simp only [World.size_alloc] at hz2) |(go_at_call 60;refine (qD w1.heap.size _ _ _ _ _ (za HR)).mono ?_;rintro e wq ⟨rfl,q1,rfl⟩) |(go_at_call 47;refine (qT F _ _ _ _ (zQ.drewN (za HV2) _)).mono ?_;rintro e w3 ⟨rfl,hO3⟩))
 go_ret2
 exact ⟨⟨T,y,F,rfl,zu.keep hO3 (fun _ _ f=>f) F _ _ (zu.keep ((zd.refl (fun _=>False) _).drewN _) (fun _ _ f=>f) F _ _ (zu.mono (fun g _ hg=>by simp at hg;omega) F _ _ (za HVT))),za HC0⟩,((hO1.alloc _).later hO2 (fun i hi=>by unfold zo at hi;omega)).trans (zd.undrewN hO3)⟩
end
end Go.Proofs.YtfnkbmglodopkaaGreatDoor
