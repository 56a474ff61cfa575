/- The program's Pattern: a pattern read, or its first fault. -/
import Derived.Test.YtcgleficedipkaaGreatDoorYEqNEqO
namespace Go.Proofs.YtcgleficedipkaaGreatDoor
open _root_.Go.Proofs.Tryz
variable (s:ByteArray)(w:World){b base:Nat}{v:Value}{L:List (Int×Int)}(a:Nat->Addr){len:Int}(most:Int)
section
open Go.RowKit
set_option maxHeartbeats 800000
theorem Jm:∀ (L:List (Int×Int)) (j:Nat) (p:Int×Int),L[j]?=some p->(Pro.xg L)[j*2]?=some (.int .i64 p.1)/\(Pro.xg L)[j*2+1]?=some (.int .i32 p.2)
 | [],j,p,h=>by simp at h
 |(x,y) :: r,0,p,h=>by
  simp only [wh,Option.some.injEq] at h;subst h;exact ⟨rfl,rfl⟩
 |(x,y) :: r,j+1,p,h=>by
  have:=Jm r j p (by simpa using h);rw [show (j+1)*2=j*2+2 by omega];exact this
variable {w}
theorem Z6 (h:w.ownsRow base 184 2 v L.length (Pro.xg L)) :
  (v = .slice none 0 0/\L=[])\/∃ g cap,v = .slice (some ⟨g,0,none⟩) L.length cap/\L.length<=cap/\g<w.heap.size/\LetRow w g L:=by
 have how:=h;obtain ⟨h1,h2⟩:=h;rcases h2 with ⟨rfl,h0⟩ |⟨g,cap,cur,rfl,hb,hg,hc,hm,hs,ht⟩
 ·exact .inl ⟨rfl,qg h0⟩
 ·refine .inr ⟨g,cap,rfl,hc,(yK.1 hg).1,?_⟩;intro j p hj;have hjl:j<L.length:=by
   by_cases hlt:j<L.length
   ·exact hlt
   ·rw [jF (by omega)] at hj;cases hj
  obtain ⟨e0,e1⟩:=Jm L j p hj;exact ⟨(how.cellAt _ (by omega)).trans e0,(how.cellAt _ (by omega)).trans e1⟩
theorem jH (f p:Nat):Pro.Fit (Pro.letM s f p):=by
 intro k;unfold Pro.zf;cases h:(Pro.letM s f p)[k]? with
 |none=>simp
 |some x=>
  have:=Pro.XB s f p x (xP h);simp only [];omega
theorem Kl (h:w.ownsRow base 184 2 v L.length (Pro.xg L)) :
  zR (w.alloc (.cells #[v,.int .i64 0,.int .i64 len,.int .i64 0] 150)) w.heap.size L 0 len 0:=by
 refine ⟨?_,zm w _ rfl _ _ 1 _ rfl,zm w _ rfl _ _ 2 _ rfl,zm w _ rfl _ _ 3 _ rfl,zG w _ rfl _ _ 1,zG w _ rfl _ _ 3⟩;rcases Z6 h with ⟨rfl,rfl⟩ |⟨g,cap,rfl,hc,hg,hr⟩
 ·exact .inr ⟨rfl,zm w _ rfl _ _ 0 _ rfl⟩
 ·exact .inl ⟨g,cap,zm w _ rfl _ _ 0 _ rfl,hc,hg,hr.keep ((ze.refl (fun _=>False) w).alloc _) (fun f=>f)⟩
theorem qR (hm:(s.size:Int)<=most)(hs:s.size<=400)(w:World)(a:Nat->Addr)(hS:zW w a)(hw:11<=w.heap.size)(hc:(Ref.zo s).2<0) :
  Calls prog 39 #[.string s,.int .i64 most] w fun x w'=>∃ v,x = .returned (.tuple #[v,.nilIface])/\w'.ownsRow (w.heap.size+3) 184 2 v (Pro.letM s (s.size+1) 0).length (Pro.xg (Pro.letM s (s.size+1) 0))/\Q8 w w':=by
 refine (Y9 s most hm hs w _ _ hS.s1 hw).mono ?_;rintro e w' ⟨hO,⟨_,v,h1,h2⟩ |⟨hE,_⟩⟩
 ·exact ⟨v,h1,h2,hO⟩
 ·rcases Eqv.ZU s with ⟨_,h2⟩ |⟨h1,_,_⟩
  ·omega
  ·omega
theorem ZB (hm:(s.size:Int)<=most)(hs:s.size<=400)(w:World)(a:Nat->Addr)(hS:zW w a)(hw:11<=w.heap.size)(hc:0<=(Ref.zo s).2) :
  Calls prog 39 #[.string s,.int .i64 most] w fun x w'=>∃ v,x = .returned (.tuple #[.slice none 0 0,v])/\zI w' w.heap.size v (zN a 1) (Ref.zo s).2/\Q8 w w':=by
 refine (Y9 s most hm hs w _ _ hS.s1 hw).mono ?_;rintro e w' ⟨hO,⟨hE,_⟩ |⟨_,v,h1,h2⟩⟩
 ·rcases Eqv.ZU s with ⟨h2,_⟩ |⟨_,h2,h3⟩
  ·omega
  ·omega
 ·rcases Eqv.ZU s with ⟨h3,_⟩ |⟨_,h3,_⟩
  ·omega
  ·rw [h3] at h2;exact ⟨v,h1,h2,hO⟩
theorem vA (hm:most<(s.size:Int))(w:World)(a:Nat->Addr)(hS:zW w a) :
  Calls prog 39 #[.string s,.int .i64 most] w fun x w'=>∃ v,x = .returned (.tuple #[.slice none 0 0,v])/\zI w' w.heap.size v (zN a 2) most/\Q8 w w':=by
 have s2:=hS.s2;unfold zN at s2 ⊢;go_enter func39,ntmps39;go_wp2_with (go_at_call 45;refine (wX _ _ _ _).mono ?_;rintro e w1 ⟨v,rfl,hv,hO1⟩);go_ret2;exact ⟨v,rfl,hv,hO1⟩
variable (w)
theorem Z7 (hS:zW w a)(hs:200<s.size) :
  Calls prog 35 #[.string s] w fun x w'=>∃ v,x = .returned (.tuple #[.nilIface,v])/\zI w' w.heap.size v (zN a 2) 200/\Q8 w w':=by
 have HS:=zc hS;clear hS;go_enter func35,ntmps35;go_wp2_with (go_at_call 39;refine (vA s 200 (by omega) _ a (zb HS)).mono ?_;rintro e w1 ⟨v,rfl,hv,hO1⟩;have HV:=zc hv;obtain ⟨g,hg,rfl,f0,f1⟩:=hv;clear f0 f1);go_ret2;exact ⟨_,rfl,zb HV,hO1⟩
theorem Z8 (hS:zW w a)(hw:11<=w.heap.size)(hs:s.size<=200)(hc:0<=(Ref.zo s).2) :
  Calls prog 35 #[.string s] w fun x w'=>∃ v,x = .returned (.tuple #[.nilIface,v])/\zI w' w.heap.size v (zN a 1) (Ref.zo s).2/\Q8 w w':=by
 have HS:=zc hS;have HC:=zc hc;clear hS hc;go_enter func35,ntmps35;go_wp2_with (go_at_call 39;refine (ZB s 200 (by omega) (by omega) _ a (zb HS) hw (zb HC)).mono ?_;rintro e w1 ⟨v,rfl,hv,hO1⟩;have HV:=zc hv;obtain ⟨g,hg,rfl,f0,f1⟩:=hv;clear f0 f1);go_ret2;exact ⟨_,rfl,zb HV,hO1⟩
open Sm (Tree capT)
set_option maxHeartbeats 2000000
set_option maxRecDepth 1000000
theorem alt_bad {a:Nat->Addr}{w:World}(h:zR w b L 0 len 0)(hS:zW w a)(hb:11<=b)(hL:L.length<=400)(hF:Pro.Fit L)(h0:0<=L.length)(hk:(Pro.altP L len (Pro.zl L len 10) 0).k≠0) :
  Calls prog 62 #[.pointer (some ⟨b,0,none⟩)] w fun x w'=>∃ v,x = .returned (.tuple #[.nilIface,v])/\zI w' w.heap.size v (zN a (Pro.altP L len (Pro.zl L len 10) 0).k) (Pro.altP L len (Pro.zl L len 10) 0).p/\ze (zt b) w w':=by
 refine (je b L 0 len a w h hS hb hL (by omega) hF).mono ?_;rintro e w' ⟨hO,hR,⟨h1,_⟩ |⟨_,v,rfl,hv⟩⟩
 ·exact absurd h1 hk
 ·exact ⟨v,rfl,hv,hO⟩
theorem alt_ok {a:Nat->Addr}{w:World}(h:zR w b L 0 len 0)(hS:zW w a)(hb:11<=b)(hL:L.length<=400)(hF:Pro.Fit L)(h0:0<=L.length)(hk:(Pro.altP L len (Pro.zl L len 10) 0).k=0) :
  Calls prog 62 #[.pointer (some ⟨b,0,none⟩)] w fun x w'=>∃ T y F,x = .returned (.tuple #[.iface T y,.nilIface])/\ye F w' (fun g=>w.heap.size<=g) (.iface T y) (Pro.altP L len (Pro.zl L len 10) 0).v/\zR w' b L (Pro.altP L len (Pro.zl L len 10) 0).n len 0/\ze (zt b) w w':=by
 refine (je b L 0 len a w h hS hb hL h0 hF).mono ?_;intro e w' hg;obtain ⟨T,y,F,rfl,hp,hO,hR⟩:=qw hg hk;exact ⟨T,y,F,rfl,by rw [<-(Pro.Wi 10 0 h0 hk).at hp.wf];exact hp.size,hR,hO⟩
theorem wt (hS:zW w a)(hw:11<=w.heap.size)(hs:s.size<=200)(hc:(Ref.zo s).2<0)(L:List (Int×Int))(hLe:Pro.letM s (s.size+1) 0=L)(o:Pro.Out)(ho:Pro.altP L (s.size:Nat) (Pro.zl L (s.size:Nat) 10) 0=o)(hk:o.k≠0) :
  Calls prog 35 #[.string s] w fun x w'=>∃ v,x = .returned (.tuple #[.nilIface,v])/\zI w' w.heap.size v (zN a o.k) o.p/\Q8 w w':=by
 have HL:Hid (L.length<=400):=by
  have:=Pro.qG s (s.size+1) 0;rw [hLe] at this;show _<=_;omega
 have HF:Hid (Pro.Fit L):=by rw [<-hLe];exact jH s _ _
 have HS:=zc hS;have HO:=zc ho;have HE:=zc hLe;subst ho;subst hLe;clear hS;go_enter func35,ntmps35;go_wp2_with (first |(go_at_call 39;refine (qR s 200 (by omega) (by omega) _ a (zb HS) hw hc).mono ?_;rintro e w1 ⟨v,rfl,hv,hO1⟩;have HV:=zc hv;obtain ⟨pa,pn,pc,rfl⟩:=zy hv;clear hv;have hz1:=hO1.size) |(go_at_call 62;refine (alt_bad (Kl (zb HV)) ((zb HS).keep (hO1.alloc _) (fun _ _ f=>f)) (by omega) (zb HL) (zb HF) (by omega) hk).mono ?_;rintro e w2 ⟨v,rfl,hv,hO2⟩;have HV2:=zc hv;obtain ⟨g,hg,rfl,f0,f1⟩:=hv;clear f0 f1));go_ret2;exact ⟨_,rfl,(zb HV2).base (by simp;omega),(hO1.alloc _).later hO2 (fun i hi=>by unfold zt at hi;omega)⟩
theorem Z9 (hS:zW w a)(hw:11<=w.heap.size)(hs:s.size<=200)(hc:(Ref.zo s).2<0)(L:List (Int×Int))(hLe:Pro.letM s (s.size+1) 0=L)(o:Pro.Out)(ho:Pro.altP L (s.size:Nat) (Pro.zl L (s.size:Nat) 10) 0=o)(hk:o.k=0)(hn:o.n≠L.length) :
  Calls prog 35 #[.string s] w fun x w'=>∃ v,x = .returned (.tuple #[.nilIface,v])/\zI w' w.heap.size v (zN a 3) (Pro.zC L (s.size:Nat) o.n)/\Q8 w w':=by
 have HL:Hid (L.length<=400):=by
  have:=Pro.qG s (s.size+1) 0;rw [hLe] at this;show _<=_;omega
 have HF:Hid (Pro.Fit L):=by rw [<-hLe];exact jH s _ _
 have HS:=zc hS;have HO:=zc ho;have HE:=zc hLe;subst ho;subst hLe;clear hS;have hin:=Pro.yF (L:=Pro.letM s (s.size+1) 0) (len:=((s.size:Nat):Int)) (D:=Pro.zl (Pro.letM s (s.size+1) 0) ((s.size:Nat):Int) 10) (Pro.zQ 10) 0 (by omega);have hn':(((Pro.altP (Pro.letM s (s.size+1) 0) ((s.size:Nat):Int) (Pro.zl (Pro.letM s (s.size+1) 0) ((s.size:Nat):Int) 10) 0).n:Int) == ((Pro.letM s (s.size+1) 0).length:Int))=false:=by simp;omega
 go_enter func35,ntmps35;go_wp2_with (first |(go_at_call 39;refine (qR s 200 (by omega) (by omega) _ a (zb HS) hw hc).mono ?_;rintro e w1 ⟨v,rfl,hv,hO1⟩;have HV:=zc hv;obtain ⟨pa,pn,pc,rfl⟩:=zy hv;clear hv;have hz1:=hO1.size) |(go_at_call 62;refine (alt_ok (Kl (zb HV)) ((zb HS).keep (hO1.alloc _) (fun _ _ f=>f)) (by omega) (zb HL) (zb HF) (by omega) hk).mono ?_;rintro e w2 ⟨T,y,F,rfl,hv,hR,hO2⟩;have HV2:=zc hv;have HR:=zc hR;clear hv hR;have hz2:=hO2.size;simp only [Yz] at hz2) |(go_at_call 63;refine (jw w1.heap.size _ _ _ _ _ (zb HR)).mono ?_;rintro e wq ⟨rfl,q1,rfl⟩) |(go_at_call 64;refine (jJ w1.heap.size _ _ _ _ a _ ((zb HR).drewN _) (zW.drewN ((zb HS).keep ((hO1.alloc _).later hO2 (fun i hi=>by unfold zt at hi;omega)) (fun _ _ f=>f)) _) (zb HL) hin.2.1).mono ?_;rintro e w3 ⟨v3,rfl,hv3,hO3⟩));go_ret2;exact ⟨v3,rfl,hv3.base (by simp;omega),((hO1.alloc _).later hO2 (fun i hi=>by unfold zt at hi;omega)).trans (ze.undrewN hO3)⟩
theorem Xj (hS:zW w a)(hw:11<=w.heap.size)(hs:s.size<=200)(hc:(Ref.zo s).2<0)(L:List (Int×Int))(hLe:Pro.letM s (s.size+1) 0=L)(o:Pro.Out)(ho:Pro.altP L (s.size:Nat) (Pro.zl L (s.size:Nat) 10) 0=o)(hk:o.k=0)(hn:o.n=L.length)(hv:300<=o.v) :
  Calls prog 35 #[.string s] w fun x w'=>∃ v,x = .returned (.tuple #[.nilIface,v])/\zI w' w.heap.size v (zN a 8) 0/\Q8 w w':=by
 have HL:Hid (L.length<=400):=by
  have:=Pro.qG s (s.size+1) 0;rw [hLe] at this;show _<=_;omega
 have HF:Hid (Pro.Fit L):=by rw [<-hLe];exact jH s _ _
 have HS:=zc hS;have HO:=zc ho;have HE:=zc hLe;subst ho;subst hLe;clear hS;have hin:=Pro.yF (L:=Pro.letM s (s.size+1) 0) (len:=((s.size:Nat):Int)) (D:=Pro.zl (Pro.letM s (s.size+1) 0) ((s.size:Nat):Int) 10) (Pro.zQ 10) 0 (by omega);have hn':(((Pro.altP (Pro.letM s (s.size+1) 0) ((s.size:Nat):Int) (Pro.zl (Pro.letM s (s.size+1) 0) ((s.size:Nat):Int) 10) 0).n:Int) == ((Pro.letM s (s.size+1) 0).length:Int))=true:=by simp;omega
 have hin3:=hin.2.2 hk;have hS8:∀ w',Q8 w w'->w'.cell? ⟨7,0,none⟩=some (zN a 8):=fun w' ho=>((zb HS).keep ho (fun _ _ f=>f)).s8;unfold zN at hS8 ⊢;go_enter func35,ntmps35;go_wp2_with (first |(go_at_call 39;refine (qR s 200 (by omega) (by omega) _ a (zb HS) hw hc).mono ?_;rintro e w1 ⟨v,rfl,hv,hO1⟩;have HV:=zc hv;obtain ⟨pa,pn,pc,rfl⟩:=zy hv;clear hv;have hz1:=hO1.size) |(go_at_call 62;refine (alt_ok (Kl (zb HV)) ((zb HS).keep (hO1.alloc _) (fun _ _ f=>f)) (by omega) (zb HL) (zb HF) (by omega) hk).mono ?_;rintro e w2 ⟨T,y,F,rfl,hv,hR,hO2⟩;have HV2:=zc hv;have HR:=zc hR;clear hv hR;have hz2:=hO2.size;simp only [Yz] at hz2) |(go_at_call 63;refine (jw w1.heap.size _ _ _ _ _ (zb HR)).mono ?_;rintro e wq ⟨rfl,q1,rfl⟩) |(go_at_call 36;refine (qO F _ _ _ _ (ye.drewN (zb HV2) _)).mono ?_;rintro e w3 ⟨rfl,hO3⟩);have s8:=hS8 w3 (((hO1.alloc _).later hO2 (fun i hi=>by unfold zt at hi;omega)).trans (ze.undrewN hO3));have hz3:=hO3.size |(go_at_call 45;refine (wX _ _ _ _).mono ?_;rintro e w4 ⟨v4,rfl,hv4,hO4⟩));go_ret2;exact ⟨v4,rfl,hv4.base (by simp at hz3;omega),(((hO1.alloc _).later hO2 (fun i hi=>by unfold zt at hi;omega)).trans (ze.undrewN hO3)).trans hO4⟩
theorem alt_okT {a:Nat->Addr}{w:World}(h:zR w b L 0 len 0)(hS:zW w a)(hb:11<=b)(hL:L.length<=400)(hF:Pro.Fit L)(h0:0<=L.length)(hk:(Pro.altP L len (Pro.zl L len 10) 0).k=0) :
  Calls prog 62 #[.pointer (some ⟨b,0,none⟩)] w fun x w'=>∃ T y F,x = .returned (.tuple #[.iface T y,.nilIface])/\zA F w' (fun g=>w.heap.size<=g) (.iface T y) (Pro.altQ L len (Pro.zl L len 10) (Pro.zH L len 10) 0)/\capT F (Pro.altQ L len (Pro.zl L len 10) (Pro.zH L len 10) 0)=(Pro.altP L len (Pro.zl L len 10) 0).v/\zR w' b L (Pro.altP L len (Pro.zl L len 10) 0).n len 0/\ze (zt b) w w':=by
 refine (je b L 0 len a w h hS hb hL h0 hF).mono ?_;intro e w' hg;obtain ⟨T,y,F,rfl,hp,hO,hR⟩:=qw hg hk;exact ⟨T,y,F,rfl,hp,(Pro.Wi 10 0 h0 hk).at hp.wf,hR,hO⟩
theorem kD (hS:zW w a)(hw:11<=w.heap.size)(hs:s.size<=200)(hc:(Ref.zo s).2<0)(L:List (Int×Int))(hLe:Pro.letM s (s.size+1) 0=L)(o:Pro.Out)(ho:Pro.altP L (s.size:Nat) (Pro.zl L (s.size:Nat) 10) 0=o)(hk:o.k=0)(hn:o.n=L.length)(hv:o.v<300) :
  Calls prog 35 #[.string s] w fun x w'=>(∃ T y F,x = .returned (.tuple #[.iface T y,.nilIface])/\zA F w' (fun g=>w.heap.size<=g) (.iface T y) (Pro.altQ L (s.size:Nat) (Pro.zl L (s.size:Nat) 10) (Pro.zH L (s.size:Nat) 10) 0)/\capT F (Pro.altQ L (s.size:Nat) (Pro.zl L (s.size:Nat) 10) (Pro.zH L (s.size:Nat) 10) 0)=o.v)/\Q8 w w':=by
 have HL:Hid (L.length<=400):=by
  have:=Pro.qG s (s.size+1) 0;rw [hLe] at this;show _<=_;omega
 have HF:Hid (Pro.Fit L):=by rw [<-hLe];exact jH s _ _
 have HS:=zc hS;have HO:=zc ho;have HE:=zc hLe;subst ho;subst hLe;clear hS;have hin:=Pro.yF (L:=Pro.letM s (s.size+1) 0) (len:=((s.size:Nat):Int)) (D:=Pro.zl (Pro.letM s (s.size+1) 0) ((s.size:Nat):Int) 10) (Pro.zQ 10) 0 (by omega);have hn':(((Pro.altP (Pro.letM s (s.size+1) 0) ((s.size:Nat):Int) (Pro.zl (Pro.letM s (s.size+1) 0) ((s.size:Nat):Int) 10) 0).n:Int) == ((Pro.letM s (s.size+1) 0).length:Int))=true:=by simp;omega
 have hin3:=hin.2.2 hk;go_enter func35,ntmps35;go_wp2_with (first |(go_at_call 39;refine (qR s 200 (by omega) (by omega) _ a (zb HS) hw hc).mono ?_;rintro e w1 ⟨v,rfl,hv,hO1⟩;have HV:=zc hv;obtain ⟨pa,pn,pc,rfl⟩:=zy hv;clear hv;have hz1:=hO1.size) |(go_at_call 62;refine (alt_okT (Kl (zb HV)) ((zb HS).keep (hO1.alloc _) (fun _ _ f=>f)) (by omega) (zb HL) (zb HF) (by omega) hk).mono ?_;rintro e w2 ⟨T,y,F,rfl,hv,hc0,hR,hO2⟩;have HVT:=zc hv;have HC0:=zc hc0;have HV2:=zc hv.size;rw [hc0] at HV2;clear hc0;have HR:=zc hR;clear hv hR;have hz2:=hO2.size;simp only [Yz] at hz2) |(go_at_call 63;refine (jw w1.heap.size _ _ _ _ _ (zb HR)).mono ?_;rintro e wq ⟨rfl,q1,rfl⟩) |(go_at_call 36;refine (qO F _ _ _ _ (ye.drewN (zb HV2) _)).mono ?_;rintro e w3 ⟨rfl,hO3⟩));go_ret2;exact ⟨⟨T,y,F,rfl,zA.keep hO3 (fun _ _ f=>f) F _ _ (zA.keep ((ze.refl (fun _=>False) _).drewN _) (fun _ _ f=>f) F _ _ (zA.mono (fun g _ hg=>by simp at hg;omega) F _ _ (zb HVT))),zb HC0⟩,((hO1.alloc _).later hO2 (fun i hi=>by unfold zt at hi;omega)).trans (ze.undrewN hO3)⟩
end
end Go.Proofs.YtcgleficedipkaaGreatDoor
