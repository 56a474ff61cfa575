/- The reader's faults are never of the first kind. -/
import Derived.Test.YtfnkbmglodopkaaGreatDoorYKcAKcI
namespace Go.Proofs.YtfnkbmglodopkaaGreatDoor
section
open Go.RowKit
namespace Pro
variable {L:List (Int×Int)} {len:Int}
theorem qh {k:Nat}(h:k≠1)(p:Int)(n:Nat):(bad k p n).k≠1:=h
theorem yd (v:Int)(n:Nat):(good v n).k≠1:=by show (0:Nat)≠1;decide
theorem zeroO_n1 (n:Nat):(xY L len n).k≠1:=by unfold xY;split;exact qh (by decide) _ _;exact yd _ _
theorem VY (n:Nat):(ym L len n).k≠1:=by unfold ym;split;exact yd _ _;exact qh (by decide) _ _
theorem XN:∀ (f:Nat) (c:Int) (n:Nat),(hexO L len f c n).k≠1
 |0,c,n=>yd _ _
 |f+1,c,n=>by unfold hexO;split;exact qh (by decide) _ _;exact XN f _ _
theorem QG:∀ (f:Nat) (c:Int) (d n:Nat),(yw L len f c d n).k≠1
 |0,c,_,n=>yd _ _
 |f+1,c,d,n=>by
  unfold yw;split
  ·exact yd _ _
  ·split;exact qh (by decide) _ _;exact QG f _ _ _
theorem VZ (n:Nat):(zY L len n).k≠1:=by
 unfold zY;split
 ·exact XN _ _ _
 ·split;exact yd _ _;exact XN _ _ _
theorem numO_n1 (n:Nat):(numO L len n).k≠1:=by
 unfold numO;split
 ·exact yd _ _
 ·split
  ·exact zeroO_n1 _
  ·split
   ·exact VY _
   ·split
    ·exact XN _ _ _
    ·split
     ·exact QG _ _ _ _
     ·split;exact VZ _;exact qh (by decide) _ _
theorem za9 (n:Nat):(escO L len n).k≠1:=by
 unfold escO;split
 ·exact yd _ _
 ·split;exact qh (by decide) _ _;exact numO_n1 _
theorem vG (n:Nat):(zi L len n).k≠1:=by
 unfold zi;split
 ·exact yd _ _
 ·split
  ·exact yd _ _
  ·split;exact za9 _;exact yd _ _
theorem zcU (m:Bool)(c:Int)(n:Nat):(xj L len m c n).k≠1:=by
 unfold xj;split
 ·exact vG _
 ·split;exact qh (by decide) _ _;exact vG _
theorem addO_n1 (n:Nat):(addO L len n).k≠1:=by
 unfold addO;split
 ·exact vG _
 ·split;exact zcU _ _ _;exact vG _
theorem JD:∀ (f n:Nat),(yG L len f n).k≠1
 |0,n=>yd _ _
 |f+1,n=>by
  unfold yG;split
  ·exact yd _ _
  ·split
   ·exact qh (by decide) _ _
   ·split;exact addO_n1 _;exact JD f _
theorem JE (n:Nat):(zj L len n).k≠1:=by
 unfold zj;split
 ·exact qh (by decide) _ _
 ·split;exact qh (by decide) _ _;exact yd _ _
theorem zad (n:Nat):(zJ L len n).1.k≠1:=by
 unfold zJ;simp only []
 split
 ·exact JE _
 ·split
  ·exact yd _ _
  ·split
   ·exact qh (by decide) _ _
   ·split
    ·exact yd _ _
    ·split
     ·exact JE _
     ·split
      ·exact qh (by decide) _ _
      ·split;exact qh (by decide) _ _;exact yd _ _
theorem zcV (n:Nat):(zu L len n).2.1.k≠1:=by
 unfold zu;split
 ·exact yd _ _
 ·split
  ·exact yd _ _
  ·split
   ·exact yd _ _
   ·split;exact zad _;exact yd _ _
theorem openO_n1 (n:Nat):(zS L len n).k≠1:=by
 unfold zS;split
 ·split
  ·exact yd _ _
  ·split;exact qh (by decide) _ _;exact qh (by decide) _ _
 ·exact yd _ _
theorem zba {o:Out}(h:o.k≠1):(one o).k≠1:=by unfold one;split;exact yd _ _;exact h
theorem V4 {D:Nat→Out}(hD:∀ n,(D n).k≠1)(n:Nat):(zL L len D n).k≠1:=by
 unfold zL;split
 ·exact qh (by decide) _ _
 ·split
  ·exact hD _
  ·split
   ·exact zba (JD _ _)
   ·split;exact zba (za9 _);exact yd _ _
theorem zcW {alt:Nat→Out}(hA:∀ n,(alt n).k≠1)(n:Nat):(qE L len alt n).k≠1:=by
 unfold qE;split
 ·exact openO_n1 _
 ·split
  ·exact hA _
  ·split;exact yd _ _;exact qh (by decide) _ _
theorem termO_n1 {D:Nat→Out}(hD:∀ n,(D n).k≠1)(n:Nat):(zV L len D n).k≠1:=by
 unfold zV;split
 ·exact yd _ _
 ·split
  ·exact V4 hD _
  ·split
   ·exact V4 hD _
   ·split;exact zcV _;exact yd _ _
theorem JF {D:Nat→Out}(hD:∀ n,(D n).k≠1):∀ (f:Nat) (s:Int) (n:Nat),(yp L len D f s n).k≠1
 |0,s,n=>yd _ _
 |f+1,s,n=>by
  unfold yp;split
  ·exact yd _ _
  ·split;exact termO_n1 hD _;exact JF hD f _ _
theorem KF {D:Nat→Out}(hD:∀ n,(D n).k≠1):∀ (f:Nat) (zs:List Int) (n:Nat),(altO L len D f zs n).k≠1
 |0,_,n=>yd _ _
 |f+1,zs,n=>by
  unfold altO;split
  ·exact JF hD _ _ _
  ·split;exact KF hD f _ _;exact yd _ _
theorem V5:∀ (r n:Nat),(zl L len r n).k≠1
 |0,n=>qh (by decide) _ _
 |r+1,n=>zcW (fun m=>KF (V5 r) _ _ m) n
theorem altP_n1 (n:Nat):(altP L len (zl L len 10) n).k≠1:=KF (V5 10) _ _ n
end Pro
open Sm (Stp Tree capT)
def Told (z:Nat)(bad:Int)(k:Nat)(p:Int):Prop:=(200<z∧k=2∧p=200)∨(z≤200∧0≤bad∧k=1∧p=bad)∨(z≤200∧bad<0∧k≠1)
theorem pat_told (s:ByteArray):(∃ (k:Nat) (p:Int),1≤k∧k≤8∧Told s.size (Ref.zo s).2 k p∧∀ (w:World) (a:Nat→Addr),Start w a→JX s a k p w)∨(s.size≤200∧(Ref.zo s).2<0∧∃ (v:Int) (t:Tree),v<300∧Zu t∧∀ (w:World) (a:Nat→Addr),Start w a→wQ s t v w):=by
 by_cases hs:s.size≤200
 ·by_cases hc:0≤(Ref.zo s).2
  ·exact .inl ⟨1,(Ref.zo s).2,by decide,by decide,.inr (.inl ⟨hs,hc,rfl,rfl⟩),fun w a h=>Z8 s w a h.sents h.size hs hc⟩
  ·have hc':(Ref.zo s).2<0:=by omega
   generalize ho:Pro.altP (Pro.letM s (s.size+1) 0) (s.size:Nat) (Pro.zl (Pro.letM s (s.size+1) 0) (s.size:Nat) 10) 0=o
   have hk8:o.k≤8:=by rw [←ho];exact Pro.altP_k 0
   have hk1:o.k≠1:=by rw [←ho];exact Pro.altP_n1 0
   by_cases hk:o.k=0
   ·by_cases hn:o.n=(Pro.letM s (s.size+1) 0).length
    ·by_cases hv:o.v<300
     ·exact .inr ⟨hs,hc',o.v,_,hv,fun f=>⟨Pro.Yt (jH s _ _) 10 0 f,Pro.Yv (by have:=Pro.qG s (s.size+1) 0;omega) 10 0 f,Pro.Yu (fun n f=>Pro.wL 10 n f) 0 f⟩,fun w a h=>kD s w a h.sents h.size hs hc' _ rfl o ho hk hn hv⟩
     ·exact .inl ⟨8,0,by decide,by decide,.inr (.inr ⟨hs,hc',by decide⟩),fun w a h=>Xj s w a h.sents h.size hs hc' _ rfl o ho hk hn (by omega)⟩
    ·exact .inl ⟨3,Pro.zC (Pro.letM s (s.size+1) 0) (s.size:Nat) o.n,by decide,by decide,.inr (.inr ⟨hs,hc',by decide⟩),fun w a h=>Z9 s w a h.sents h.size hs hc' _ rfl o ho hk hn⟩
   ·exact .inl ⟨o.k,o.p,by omega,hk8,.inr (.inr ⟨hs,hc',hk1⟩),fun w a h=>wt s w a h.sents h.size hs hc' _ rfl o ho hk⟩
 ·exact .inl ⟨2,200,by decide,by decide,.inl ⟨by omega,rfl,rfl⟩,fun w a h=>Z7 s w a h.sents (by omega)⟩
theorem KG (s:ByteArray)(w:World)(a:Nat→Addr)(hS:Start w a):Calls Tryz.prog 15 #[.string s] w fun x w'=>ze (fun _=>False) w w'∧((∃ (k:Nat) (p:Int),1≤k∧k≤8∧x = .returned (.tuple #[.pointer none,.int .i64 k,.int .i64 p])∧Told s.size (Ref.zo s).2 k p)∨(s.size≤200∧(Ref.zo s).2<0∧∃ g,x = .returned (.tuple #[.pointer (some ⟨g,0,none⟩),.int .i64 0,.int .i64 0]))):=by
 rcases pat_told s with ⟨k,p,k1,k2,ht,h⟩ |⟨hs,hc,v,t,hv,ht,h⟩
 ·refine (Zv s w a k p hS k1 k2 (h w a hS)).mono ?_
  rintro x w' ⟨rfl,hO⟩
  exact ⟨hO,.inl ⟨k,p,k1,k2,rfl,ht⟩⟩
 ·refine (vw s w t v hv ht (h w a hS)).mono ?_
  rintro x w' ⟨g,pb,F,W,cs,rfl,h1,h2,hO⟩
  exact ⟨hO,.inr ⟨hs,hc,g,rfl⟩⟩
theorem em_let:Pro.letM ByteArray.empty (ByteArray.empty.size+1) 0=[]:=by decide +kernel
theorem em_ch:(Ref.zo ByteArray.empty).2<0:=by decide +kernel
theorem em_out:(Pro.altP [] (ByteArray.empty.size:Nat) (Pro.zl [] (ByteArray.empty.size:Nat) 10) 0).k=0∧(Pro.altP [] (ByteArray.empty.size:Nat) (Pro.zl [] (ByteArray.empty.size:Nat) 10) 0).n=0∧(Pro.altP [] (ByteArray.empty.size:Nat) (Pro.zl [] (ByteArray.empty.size:Nat) 10) 0).v=0:=by decide +kernel
theorem em_ok:∃ t,Zu t∧∀ (w:World) (a:Nat→Addr),Start w a→wQ ByteArray.empty t 0 w:=by
 refine ⟨Pro.altQ (Pro.letM ByteArray.empty (ByteArray.empty.size+1) 0) (ByteArray.empty.size:Nat) (Pro.zl (Pro.letM ByteArray.empty (ByteArray.empty.size+1) 0) (ByteArray.empty.size:Nat) 10) (Pro.zH (Pro.letM ByteArray.empty (ByteArray.empty.size+1) 0) (ByteArray.empty.size:Nat) 10) 0,fun f=>⟨Pro.Yt (jH ByteArray.empty _ _) 10 0 f,Pro.Yv (by have:=Pro.qG ByteArray.empty (ByteArray.empty.size+1) 0;have e:ByteArray.empty.size=0:=rfl;omega) 10 0 f,Pro.Yu (fun n f=>Pro.wL 10 n f) 0 f⟩,fun w a hS=>?_⟩
 have e0:(Pro.altP (Pro.letM ByteArray.empty (ByteArray.empty.size+1) 0) (ByteArray.empty.size:Nat) (Pro.zl (Pro.letM ByteArray.empty (ByteArray.empty.size+1) 0) (ByteArray.empty.size:Nat) 10) 0).k=0∧(Pro.altP (Pro.letM ByteArray.empty (ByteArray.empty.size+1) 0) (ByteArray.empty.size:Nat) (Pro.zl (Pro.letM ByteArray.empty (ByteArray.empty.size+1) 0) (ByteArray.empty.size:Nat) 10) 0).n=(Pro.letM ByteArray.empty (ByteArray.empty.size+1) 0).length∧(Pro.altP (Pro.letM ByteArray.empty (ByteArray.empty.size+1) 0) (ByteArray.empty.size:Nat) (Pro.zl (Pro.letM ByteArray.empty (ByteArray.empty.size+1) 0) (ByteArray.empty.size:Nat) 10) 0).v=0:=by rw [em_let];exact em_out
 have h:=kD ByteArray.empty w a hS.sents hS.size (by decide) em_ch _ rfl _ rfl e0.1 e0.2.1 (by rw [e0.2.2];decide)
 rw [e0.2.2] at h
 exact h
theorem zae (w:World)(a:Nat→Addr)(hS:Start w a):Calls Tryz.prog 15 #[.string ByteArray.empty] w fun x w'=>∃ g pb st N W cs,x = .returned (.tuple #[.pointer (some ⟨g,0,none⟩),.int .i64 0,.int .i64 0])∧we w' (fun k=>w.heap.size≤k∧k<w'.heap.size) g pb N st W cs 1∧ze (fun _=>False) w w':=by
 obtain ⟨t,ht,h⟩:=em_ok
 refine (vw ByteArray.empty w t 0 (by decide) ht (h w a hS)).mono ?_
 rintro x w' ⟨g,pb,F,W,cs,rfl,h1,h2,hO⟩
 exact ⟨g,pb,_,_,W,cs,rfl,h1,hO⟩
def KH (z n:Nat)(bad:Int)(i:Nat)(k p:Int):Prop:=(400<z∧k=2∧p=400)∨(z≤400∧0≤bad∧k=1∧p=bad)∨(z≤400∧bad<0∧n<i∧k=9∧p=0)∨(z≤400∧bad<0∧i≤n∧k=0∧p=0)
theorem zaf (s:ByteArray)(i:Nat){A:Nat→Prop}{g pb st:Nat}{N:List Stp}{W:Int→Bool}{cs:List Int}{z:Int}(w:World)(a:Nat→Addr)(hS:Start w a)(hX:we w A g pb N st W cs z) :
  Calls Tryz.prog 18 #[.pointer (some ⟨g,0,none⟩),.string s,.int .i64 (i:Nat)] w fun x w'=>(∃ sv k p,x = .returned (.tuple #[sv,.int .i64 k,.int .i64 p])∧KH s.size (Ref.zo s).1.length (Ref.zo s).2 i k p)∧ze (fun _=>False) w w':=by
 have hlen:=(Prg.yj.of s).len
 by_cases hs:s.size≤400
 ·by_cases hc:0≤(Ref.zo s).2
  ·refine (KX g s i w a 1 _ hS (by decide) (by decide) (ZB s 400 (by omega) hs w a hS.sents hS.size hc)).mono ?_
   rintro x w' ⟨rfl,hO⟩
   exact ⟨⟨_,_,_,rfl,.inr (.inl ⟨hs,hc,rfl,rfl⟩)⟩,hO⟩
  ·have hc':(Ref.zo s).2<0:=by omega
   by_cases hi:(Ref.zo s).1.length<i
   ·refine (zbC g s i w a hS hs hc' (.inr (by omega))).mono ?_
    rintro x w' ⟨rfl,hO⟩
    exact ⟨⟨_,_,_,rfl,.inr (.inr (.inl ⟨hs,hc',hi,rfl,rfl⟩))⟩,hO⟩
   ·refine (X4 g pb _ i s _ W _ w a hS hs hc' hX.ptr hX.prog.at' (by omega)).mono ?_
    rintro x w' ⟨sv,js,rfl,_,_,hO⟩
    exact ⟨⟨_,_,_,rfl,.inr (.inr (.inr ⟨hs,hc',by omega,rfl,rfl⟩))⟩,hO⟩
 ·refine (KX g s i w a 2 400 hS (by decide) (by decide) (vA s 400 (by omega) w a hS.sents)).mono ?_
  rintro x w' ⟨rfl,hO⟩
  exact ⟨⟨_,_,_,rfl,.inl ⟨by omega,rfl,rfl⟩⟩,hO⟩
set_option maxHeartbeats 8000000
set_option maxRecDepth 1000000
theorem zcX (s:ByteArray)(w:World)(a:Nat→Addr)(hB:wd w a w.heap.size)(hs:s.size≤1099511627776) :
  Calls Tryz.prog 3 #[.string s] w fun x w'=>x = .returned (.bool true)∧ze (fun _=>False) w w':=by
 have HB:=zc hB
 have HSu:=zc (wg w a _ hB)
 have hn:(Ref.zo s).1.length≤s.size:=Ref.xh s
 have HCh:Hid (∀ V,Calls Tryz.prog 17 #[.string s] V fun x w'=>∃ xa xc,x = .returned (.tuple #[.slice xa (Ref.zo s).1.length xc,.int .i64 (Ref.zo s).2])∧ze (fun _=>False) V w'):=fun V=>by
  refine (Qb s V hs).mono ?_
  rintro x w' ⟨v,rfl,h1,h2⟩
  obtain ⟨xa,xc,rfl⟩:=Qc h1
  exact ⟨xa,xc,rfl,h2⟩
 have HEn:=zc (fun (i:Nat) (V:World) (A:Nat→Prop) (g pb st:Nat) (N:List Stp) (W:Int→Bool) (cs:List Int) (hS:Start V a) (hX:we V A g pb N st W cs 1)=>zaf s i V a hS hX)
 have HCo:=zc (fun (V:World) (hS:Start V a)=>KG s V a hS)
 generalize (Ref.zo s).2=bad at *
 generalize (Ref.zo s).1.length=n at *
 clear hB
 go_enter Tryz.func3,Tryz.ntmps3
 go_wp2_with (go_at_call 14;refine (zb HSu).mono ?_;rintro e w1 ⟨rfl,hO1⟩;refine zb ?_)
 refine zc ?_
 have hB1:=(zb HB).keep hO1 (fun _ f=>f.elim)
 have HEm:=zc (zae w1 a hB1.st)
 have HO1:=zc hO1
 clear hO1 hB1 HSu
 go_wp2_with (go_at_call 15;refine (zb HEm).mono ?_;rintro e w2 ⟨g,pb,st,N,W,cs,rfl,hX,hO2⟩;refine zb ?_)
 refine zc ?_
 have HSz:=zc (kX g _ w2 hX.size)
 have HX:=zc hX
 have HO2:=zc ((zb HO1).trans hO2)
 generalize (fun k=>w1.heap.size≤k∧k<w2.heap.size)=A at *
 clear hX hO2 HEm HO1
 go_wp2_with (go_at_call 16;refine (zb HSz).mono ?_;rintro e w3 ⟨rfl,hO3⟩;refine zb ?_)
 refine zc ?_
 have HX3:=zc ((zb HX).keep hO3 (fun _ _ f=>f))
 have HO3:=zc ((zb HO2).trans hO3)
 clear hO3 HSz HX HO2
 go_wp2_with (go_at_call 17;refine (zb HCh w3).mono ?_;rintro e w4 ⟨xa,xc,rfl,hO4⟩;refine zb ?_)
 refine zc ?_
 have HX4:=zc ((zb HX3).keep hO4 (fun _ _ f=>f))
 have HO4:=zc ((zb HO3).trans hO4)
 have hw1:IntKind.i64.wrap ((n:Int)+1)=(n:Int)+1:=yY _ (by omega) (by omega)
 have HE1:Hid (Calls Tryz.prog 18 #[.pointer (some ⟨g,0,none⟩),.string s,.int .i64 ((n:Int)+1)] w4 fun x w'=>(∃ sv k p,x = .returned (.tuple #[sv,.int .i64 k,.int .i64 p])∧KH s.size n bad (n+1) k p)∧ze (fun _=>False) w4 w'):=
  zb HEn (n+1) w4 A g pb st N W cs ((zb HB).keep (zb HO4) (fun _ f=>f.elim)).st (zb HX4)
 clear hO4 HX3 HO3 HCh
 go_wp2_with (go_at_call 18;refine (zb HE1).mono ?_;rintro e w5 ⟨⟨sv1,k1,p1,rfl,ht1⟩,hO5⟩;refine zb ?_)
 refine zc ?_
 have HT1:=zc ht1
 have HX5:=zc ((zb HX4).keep hO5 (fun _ _ f=>f))
 have HO5:=zc ((zb HO4).trans hO5)
 have HE2:=zc (zb HEn n w5 A g pb st N W cs ((zb HB).keep (zb HO5) (fun _ f=>f.elim)).st (zb HX5))
 clear hO5 HX4 HO4 HE1 ht1
 go_wp2_with (go_at_call 18;refine (zb HE2).mono ?_;rintro e w6 ⟨⟨sv2,k2,p2,rfl,ht2⟩,hO6⟩;refine zb ?_)
 refine zc ?_
 have HT2:=zc ht2
 have HO6:=zc ((zb HO5).trans hO6)
 have HC6:=zc (zb HCo w6 ((zb HB).keep (zb HO6) (fun _ f=>f.elim)).st)
 clear hO6 HX5 HO5 HE2 ht2 HCo HEn
 go_wp2_with (go_at_call 15;refine zb ?_)
 refine zc ?_
 refine (zb HC6).mono ?_
 rintro x w7 ⟨hO7,hC⟩
 have HO7:=zc ((zb HO6).trans hO7)
 have ht1:=zb HT1
 have ht2:=zb HT2
 clear hO7 HO6 HC6 HT1 HT2
 unfold KH at ht1 ht2
 by_cases z4:400<s.size
 ·obtain ⟨rfl,rfl,rfl,rfl⟩:k1=2∧p1=400∧k2=2∧p2=400:=by omega
  rcases hC with ⟨k,p,q1,q2,rfl,hT⟩ |⟨h,_⟩
  ·unfold Told at hT
   obtain ⟨rfl,rfl⟩:k=2∧p=200:=by omega
   have d1:decide ((200:Int)<(s.size:Int))=true:=by simp;omega
   have d2:decide ((400:Int)<(s.size:Int))=true:=by simp;omega
   clear hT q1 q2 ht1 ht2
   go_wp2_with fail
   go_ret
   exact ⟨rfl,zb HO7⟩
  ·omega
 ·have d2:decide ((400:Int)<(s.size:Int))=false:=by simp;omega
  by_cases z2:200<s.size
  ·have d1:decide ((200:Int)<(s.size:Int))=true:=by simp;omega
   rcases hC with ⟨k,p,q1,q2,rfl,hT⟩ |⟨h,_⟩
   ·unfold Told at hT
    obtain ⟨rfl,rfl⟩:k=2∧p=200:=by omega
    by_cases hb:0≤bad
    ·obtain ⟨rfl,rfl,rfl,rfl⟩:k1=1∧p1=bad∧k2=1∧p2=bad:=by omega
     have d3:decide ((0:Int)≤p2)=true:=by simp;omega
     clear hT q1 q2 ht1 ht2
     go_wp2_with fail
     all_goals go_ret
     all_goals exact ⟨by first |rfl |simp,zb HO7⟩
    ·obtain ⟨rfl,rfl,rfl,rfl⟩:k1=9∧p1=0∧k2=0∧p2=0:=by omega
     have d3:decide ((0:Int)≤bad)=false:=by simp;omega
     clear hT q1 q2 ht1 ht2
     go_wp2_with fail
     all_goals go_ret
     all_goals exact ⟨by first |rfl |simp,zb HO7⟩
   ·omega
  ·have d1:decide ((200:Int)<(s.size:Int))=false:=by simp;omega
   by_cases hb:0≤bad
   ·obtain ⟨rfl,rfl,rfl,rfl⟩:k1=1∧p1=bad∧k2=1∧p2=bad:=by omega
    rcases hC with ⟨k,p,q1,q2,rfl,hT⟩ |⟨_,h,_⟩
    ·unfold Told at hT
     obtain ⟨rfl,rfl⟩:k=1∧p=p2:=by omega
     have d3:decide ((0:Int)≤p)=true:=by simp;omega
     clear hT q1 q2 ht1 ht2
     go_wp2_with fail
     all_goals go_ret
     all_goals exact ⟨by first |rfl |simp,zb HO7⟩
    ·omega
   ·obtain ⟨rfl,rfl,rfl,rfl⟩:k1=9∧p1=0∧k2=0∧p2=0:=by omega
    have d3:decide ((0:Int)≤bad)=false:=by simp;omega
    have d4:decide (bad<(0:Int))=true:=by simp;omega
    rcases hC with ⟨k,p,q1,q2,rfl,hT⟩ |⟨_,_,g9,rfl⟩
    ·unfold Told at hT
     have d5:((k:Int) == 1)=false:=by simp;omega
     clear hT q1 q2 ht1 ht2
     go_wp2_with fail
     all_goals go_ret
     all_goals exact ⟨by first |rfl |simp,zb HO7⟩
    ·clear ht1 ht2
     go_wp2_with fail
     all_goals go_ret
     all_goals exact ⟨by first |rfl |simp,zb HO7⟩
end
end Go.Proofs.YtfnkbmglodopkaaGreatDoor
