/- The program's escapes. -/
import Derived.Test.YtfnkbmglodopkaaGreatDoorZProAProI2
import Derived.Test.YtfnkbmglodopkaaGreatDoorZRefARefV
namespace Go.Proofs.YtfnkbmglodopkaaGreatDoor
section
open Go.RowKit
set_option maxHeartbeats 2000000
theorem inB_sign (r:Int):Pro.inB { data:=#[94,36,92,46,42,43,63,40,41,91,93,123,125,124,47] } r=Pro.sign r:=rfl
theorem zN (c:Int)(w:World)(h1:c≤1114111) :
  Calls Tryz.prog 292 #[.int .i32 c] w fun x w'=>x = .returned (.tuple #[.int .i32 (Pro.kL c),.bool (Pro.vL c)])∧zd (fun _=>False) w w':=by
 by_cases hc:0≤Pro.ctlV c
 ·have HV:Hid (Pro.kL c=Pro.ctlV c∧Pro.vL c=true):=⟨by unfold Pro.kL;rw [if_pos hc],by unfold Pro.vL;simp [hc]⟩
  have hcs:c=116∨c=110∨c=118∨c=102∨c=114:=by unfold Pro.ctlV at hc;(repeat' split at hc)<;>omega
  clear hc h1
  rcases hcs with rfl |rfl |rfl |rfl |rfl
  all_goals
   go_enter Tryz.func292,Tryz.ntmps292
   go_wp2_with fail
   go_ret2
   rw [HV.out.1,HV.out.2]
   exact ⟨rfl,zd.refl _ _⟩
 ·have HV:Hid (Pro.kL c=c∧Pro.vL c=Pro.sign c):=⟨by unfold Pro.kL;rw [if_neg hc],by unfold Pro.vL;simp [hc]⟩
  have hcs:(c == 116)=false∧(c == 110)=false∧(c == 118)=false∧(c == 102)=false∧(c == 114)=false:=by
   unfold Pro.ctlV at hc
   (repeat' split at hc)<;>simp<;>omega
  obtain ⟨k1,k2,k3,k4,k5⟩:=hcs
  clear hc
  go_enter Tryz.func292,Tryz.ntmps292
  go_wp2_with (go_at_call 256;refine (wC _ _ _ h1 (by decide) (by decide)).mono ?_;rintro e w1 ⟨rfl,hO⟩)
  go_ret2
  rw [HV.out.1,HV.out.2,←inB_sign]
  exact ⟨rfl,hO⟩
theorem Tells.yes {b:Nat}{L:List (Int×Int)}{len dp:Int}{a:Nat→Addr}{w w':World}{o:Pro.Out}{yes no:Value}(hk:o.k=0)(hO:zd (zo b) w w')(hR:zG w' b L o.n len dp):Tells b L len dp a w o yes no (.returned (.tuple #[yes,.nilIface])) w':=⟨hO,hR,.inl ⟨hk,rfl⟩⟩
theorem Tells.no {b:Nat}{L:List (Int×Int)}{len dp:Int}{a:Nat→Addr}{w w':World}{o:Pro.Out}{yes no v:Value}(hk:o.k≠0)(hO:zd (zo b) w w')(hR:zG w' b L o.n len dp)(hv:zA w' w.heap.size v (zE a o.k) o.p):Tells b L len dp a w o yes no (.returned (.tuple #[no,v])) w':=⟨hO,hR,.inr ⟨hk,v,rfl,hv⟩⟩
theorem Yr (b:Nat)(L:List (Int×Int))(n:Nat)(len dp:Int)(a:Nat→Addr)(w:World)(h:zG w b L n len dp)(hS:zK w a)(_hb:10≤b)(hL:L.length≤400)(hn:n≤L.length)(_hF:Pro.Fit L) :
  Calls Tryz.prog 293 #[.pointer (some ⟨b,0,none⟩)] w (Tells b L len dp a w (Pro.qY L len n) (.int .i32 (Pro.qY L len n).v) (.int .i32 0)):=by
 refine (zero_any b L n len dp a w h hS hL hn).mono ?_
 rintro e w1 ⟨hO,⟨hd,rfl⟩ |⟨hd,v,rfl,hv⟩⟩
 ·have e1:Pro.qY L len n=Pro.good 0 n:=by unfold Pro.qY Pro.dig;rw [hd];rfl
  exact xW e1 (by rw [e1];rfl) hO.none (h.keep hO (fun f=>f) (fun _ _ f=>f))
 ·have e1:Pro.qY L len n=Pro.bad 3 (Pro.zx L len n) n:=by unfold Pro.qY Pro.dig;rw [hd];rfl
  exact qN e1 (by decide) hO.none (h.keep hO (fun f=>f) (fun _ _ f=>f)) hv
namespace Pro
theorem zeroO_n (L:List (Int×Int))(len:Int)(n:Nat):(qY L len n).n=n:=by unfold qY;split<;>rfl
end Pro
theorem jE (b:Nat)(L:List (Int×Int))(n:Nat)(len dp:Int)(a:Nat→Addr)(w:World)(h:zG w b L n len dp)(hS:zK w a)(hb:10≤b)(hL:L.length≤400)(hn:n≤L.length)(hF:Pro.Fit L) :
  Calls Tryz.prog 257 #[.pointer (some ⟨b,0,none⟩)] w (Tells b L len dp a w (Pro.numO L len n) (.int .i32 (Pro.numO L len n).v) (.int .i32 0)):=by
 have H:=zb h
 have HS:=zb hS
 clear h hS
 have hfit:=hF n
 cases hsh:Pro.vL (Pro.ze L n)
 ·by_cases q0:Pro.ze L n=48
  ·have HO:Hid (Pro.numO L len n=Pro.qY L len (n+1)):=by unfold Pro.numO;rw [hsh];simp only [Bool.false_eq_true,if_false];rw [if_pos q0];rfl
   have hlt:n<L.length:=Pro.zr (by omega)
   have m0:Pro.zn L n { data:=#[48] }=true:=by rw [Pro.zm L n 48 48 rfl];simp;omega
   clear q0
   by_cases hk:(Pro.qY L len (n+1)).k=0
   ·go_enter Tryz.func257,Tryz.ntmps257
    go_wp2_with (first |(go_at_call 131;refine (zZ b L (n) len dp _ (by exact za H) hL (by omega)).mono ?_;rintro e wq ⟨rfl,hwq⟩;obtain rfl:=hwq.symm;clear hwq) |(go_at_call 292;refine (zN _ _ (by omega)).mono ?_;rintro e w1 ⟨rfl,hOs⟩;have H:=zb ((za H).keep hOs (fun f=>f) (fun _ _ f=>f));have HS:=zb ((za HS).keep hOs (fun _ _ f=>f));have c1:=(za H).c1;have f1:=(za H).f1) |(go_at_call 93;refine (y5 b L (n) len dp _ _ (by exact za H) hL (by omega) (by decide) (by assumption)).mono ?_;rintro e wq ⟨rfl,qq,rfl⟩) |(go_at_call 93;refine (yx b L (n) len dp _ _ (by exact za H) hL (by omega) (by decide) (by assumption)).mono ?_;rintro e w3 ⟨rfl,hR3,hO3⟩;have hR3:zG w3 b L ((n)+1) len dp:=hR3;have H3:=zb hR3);(have HS:=zb ((za HS).mine (by first |exact hO3 |exact ((zd.refl _ _).drewN _).trans hO3) hb)) |(go_at_call 293;refine (Yr b L (n+1) len dp a _ (by exact za H3) (by exact za HS) hb hL (by omega) hF).mono ?_;rintro e w4 ⟨hO4,hR4,hT4⟩;obtain rfl:=zM hT4 hk;have H4:=zb hR4;have c14:=hR4.c1;have f14:=hR4.f1))
    go_ret2
    rw [za HO]
    exact Tells.yes hk (by first |exact (hOs.none.trans hO3).trans hO4 |exact ((hOs.none.drewN _).trans hO3).trans hO4) hR4
   ·go_enter Tryz.func257,Tryz.ntmps257
    go_wp2_with (first |(go_at_call 131;refine (zZ b L (n) len dp _ (by exact za H) hL (by omega)).mono ?_;rintro e wq ⟨rfl,hwq⟩;obtain rfl:=hwq.symm;clear hwq) |(go_at_call 292;refine (zN _ _ (by omega)).mono ?_;rintro e w1 ⟨rfl,hOs⟩;have H:=zb ((za H).keep hOs (fun f=>f) (fun _ _ f=>f));have HS:=zb ((za HS).keep hOs (fun _ _ f=>f));have c1:=(za H).c1;have f1:=(za H).f1) |(go_at_call 93;refine (y5 b L (n) len dp _ _ (by exact za H) hL (by omega) (by decide) (by assumption)).mono ?_;rintro e wq ⟨rfl,qq,rfl⟩) |(go_at_call 93;refine (yx b L (n) len dp _ _ (by exact za H) hL (by omega) (by decide) (by assumption)).mono ?_;rintro e w3 ⟨rfl,hR3,hO3⟩;have hR3:zG w3 b L ((n)+1) len dp:=hR3;have H3:=zb hR3);(have HS:=zb ((za HS).mine (by first |exact hO3 |exact ((zd.refl _ _).drewN _).trans hO3) hb)) |(go_at_call 293;refine (Yr b L (n+1) len dp a _ (by exact za H3) (by exact za HS) hb hL (by omega) hF).mono ?_;rintro e w4 ⟨hO4,hR4,hT4⟩;obtain ⟨v4,rfl,hv4⟩:=xF hT4 hk;obtain ⟨g4,hg4⟩:=hv4.form;subst hg4;have H4:=zb hR4;have c14:=hR4.c1;have f14:=hR4.f1))
    go_ret2
    rw [za HO]
    exact Tells.no hk (by first |exact (hOs.none.trans hO3).trans hO4 |exact ((hOs.none.drewN _).trans hO3).trans hO4) hR4 (hv4.base (by first |exact (hOs.none.trans hO3).size |exact ((hOs.none.drewN _).trans hO3).size))
  ·by_cases q1:Pro.ze L n=99
   ·have HO:Hid (Pro.numO L len n=Pro.yN L len (n+1)):=by unfold Pro.numO;rw [hsh];simp only [Bool.false_eq_true,if_false];rw [if_neg q0];rw [if_pos q1];rfl
    have hlt:n<L.length:=Pro.zr (by omega)
    have m0:Pro.zn L n { data:=#[48] }=false:=by rw [Pro.zm L n 48 48 rfl];simp;omega
    have m1:Pro.zn L n { data:=#[99] }=true:=by rw [Pro.zm L n 99 99 rfl];simp;omega
    clear q0 q1
    by_cases hk:(Pro.yN L len (n+1)).k=0
    ·go_enter Tryz.func257,Tryz.ntmps257
     go_wp2_with (first |(go_at_call 131;refine (zZ b L (n) len dp _ (by exact za H) hL (by omega)).mono ?_;rintro e wq ⟨rfl,hwq⟩;obtain rfl:=hwq.symm;clear hwq) |(go_at_call 292;refine (zN _ _ (by omega)).mono ?_;rintro e w1 ⟨rfl,hOs⟩;have H:=zb ((za H).keep hOs (fun f=>f) (fun _ _ f=>f));have HS:=zb ((za HS).keep hOs (fun _ _ f=>f));have c1:=(za H).c1;have f1:=(za H).f1) |(go_at_call 93;refine (y5 b L (n) len dp _ _ (by first |exact za H |exact (za H).drewN _) hL (by omega) (by decide) (by assumption)).mono ?_;rintro e wq ⟨rfl,qq,rfl⟩) |(go_at_call 93;refine (yx b L (n) len dp _ _ (by exact (za H).drewN _) hL (by omega) (by decide) (by assumption)).mono ?_;rintro e w3 ⟨rfl,hR3,hO3⟩;have hR3:zG w3 b L ((n)+1) len dp:=hR3;have H3:=zb hR3);(have HS:=zb ((za HS).mine (by first |exact hO3 |exact ((zd.refl _ _).drewN _).trans hO3) hb)) |(go_at_call 294;refine (wy b L (n+1) len dp a _ (by exact za H3) (by exact za HS) hb hL (by omega) hF).mono ?_;rintro e w4 ⟨hO4,hR4,hT4⟩;obtain rfl:=zM hT4 hk;have H4:=zb hR4;have c14:=hR4.c1;have f14:=hR4.f1))
     go_ret2
     rw [za HO]
     exact Tells.yes hk (by first |exact (hOs.none.trans hO3).trans hO4 |exact ((hOs.none.drewN _).trans hO3).trans hO4) hR4
    ·go_enter Tryz.func257,Tryz.ntmps257
     go_wp2_with (first |(go_at_call 131;refine (zZ b L (n) len dp _ (by exact za H) hL (by omega)).mono ?_;rintro e wq ⟨rfl,hwq⟩;obtain rfl:=hwq.symm;clear hwq) |(go_at_call 292;refine (zN _ _ (by omega)).mono ?_;rintro e w1 ⟨rfl,hOs⟩;have H:=zb ((za H).keep hOs (fun f=>f) (fun _ _ f=>f));have HS:=zb ((za HS).keep hOs (fun _ _ f=>f));have c1:=(za H).c1;have f1:=(za H).f1) |(go_at_call 93;refine (y5 b L (n) len dp _ _ (by first |exact za H |exact (za H).drewN _) hL (by omega) (by decide) (by assumption)).mono ?_;rintro e wq ⟨rfl,qq,rfl⟩) |(go_at_call 93;refine (yx b L (n) len dp _ _ (by exact (za H).drewN _) hL (by omega) (by decide) (by assumption)).mono ?_;rintro e w3 ⟨rfl,hR3,hO3⟩;have hR3:zG w3 b L ((n)+1) len dp:=hR3;have H3:=zb hR3);(have HS:=zb ((za HS).mine (by first |exact hO3 |exact ((zd.refl _ _).drewN _).trans hO3) hb)) |(go_at_call 294;refine (wy b L (n+1) len dp a _ (by exact za H3) (by exact za HS) hb hL (by omega) hF).mono ?_;rintro e w4 ⟨hO4,hR4,hT4⟩;obtain ⟨v4,rfl,hv4⟩:=xF hT4 hk;obtain ⟨g4,hg4⟩:=hv4.form;subst hg4;have H4:=zb hR4;have c14:=hR4.c1;have f14:=hR4.f1))
     go_ret2
     rw [za HO]
     exact Tells.no hk (by first |exact (hOs.none.trans hO3).trans hO4 |exact ((hOs.none.drewN _).trans hO3).trans hO4) hR4 (hv4.base (by first |exact (hOs.none.trans hO3).size |exact ((hOs.none.drewN _).trans hO3).size))
   ·by_cases q2:Pro.ze L n=120
    ·have HO:Hid (Pro.numO L len n=Pro.hexO L len 2 0 (n+1)):=by unfold Pro.numO;rw [hsh];simp only [Bool.false_eq_true,if_false];rw [if_neg q0];rw [if_neg q1];rw [if_pos q2];rfl
     have hlt:n<L.length:=Pro.zr (by omega)
     have m0:Pro.zn L n { data:=#[48] }=false:=by rw [Pro.zm L n 48 48 rfl];simp;omega
     have m1:Pro.zn L n { data:=#[99] }=false:=by rw [Pro.zm L n 99 99 rfl];simp;omega
     have m2:Pro.zn L n { data:=#[120] }=true:=by rw [Pro.zm L n 120 120 rfl];simp;omega
     clear q0 q1 q2
     by_cases hk:(Pro.hexO L len 2 0 (n+1)).k=0
     ·go_enter Tryz.func257,Tryz.ntmps257
      go_wp2_with (first |(go_at_call 131;refine (zZ b L (n) len dp _ (by exact za H) hL (by omega)).mono ?_;rintro e wq ⟨rfl,hwq⟩;obtain rfl:=hwq.symm;clear hwq) |(go_at_call 292;refine (zN _ _ (by omega)).mono ?_;rintro e w1 ⟨rfl,hOs⟩;have H:=zb ((za H).keep hOs (fun f=>f) (fun _ _ f=>f));have HS:=zb ((za HS).keep hOs (fun _ _ f=>f));have c1:=(za H).c1;have f1:=(za H).f1) |(go_at_call 93;refine (y5 b L (n) len dp _ _ (by first |exact za H |exact (za H).drewN _) hL (by omega) (by decide) (by assumption)).mono ?_;rintro e wq ⟨rfl,qq,rfl⟩) |(go_at_call 93;refine (yx b L (n) len dp _ _ (by exact (za H).drewN _) hL (by omega) (by decide) (by assumption)).mono ?_;rintro e w3 ⟨rfl,hR3,hO3⟩;have hR3:zG w3 b L ((n)+1) len dp:=hR3;have H3:=zb hR3);(have HS:=zb ((za HS).mine (by first |exact hO3 |exact ((zd.refl _ _).drewN _).trans hO3) hb)) |(go_at_call 295;refine (yC b L (n+1) len dp a 2 _ (by exact za H3) (by exact za HS) hb hL (by omega) hF (by omega)).mono ?_;rintro e w4 ⟨hO4,hR4,hT4⟩;obtain rfl:=zM hT4 hk;have H4:=zb hR4;have c14:=hR4.c1;have f14:=hR4.f1))
      go_ret2
      rw [za HO]
      exact Tells.yes hk (by first |exact (hOs.none.trans hO3).trans hO4 |exact ((hOs.none.drewN _).trans hO3).trans hO4) hR4
     ·go_enter Tryz.func257,Tryz.ntmps257
      go_wp2_with (first |(go_at_call 131;refine (zZ b L (n) len dp _ (by exact za H) hL (by omega)).mono ?_;rintro e wq ⟨rfl,hwq⟩;obtain rfl:=hwq.symm;clear hwq) |(go_at_call 292;refine (zN _ _ (by omega)).mono ?_;rintro e w1 ⟨rfl,hOs⟩;have H:=zb ((za H).keep hOs (fun f=>f) (fun _ _ f=>f));have HS:=zb ((za HS).keep hOs (fun _ _ f=>f));have c1:=(za H).c1;have f1:=(za H).f1) |(go_at_call 93;refine (y5 b L (n) len dp _ _ (by first |exact za H |exact (za H).drewN _) hL (by omega) (by decide) (by assumption)).mono ?_;rintro e wq ⟨rfl,qq,rfl⟩) |(go_at_call 93;refine (yx b L (n) len dp _ _ (by exact (za H).drewN _) hL (by omega) (by decide) (by assumption)).mono ?_;rintro e w3 ⟨rfl,hR3,hO3⟩;have hR3:zG w3 b L ((n)+1) len dp:=hR3;have H3:=zb hR3);(have HS:=zb ((za HS).mine (by first |exact hO3 |exact ((zd.refl _ _).drewN _).trans hO3) hb)) |(go_at_call 295;refine (yC b L (n+1) len dp a 2 _ (by exact za H3) (by exact za HS) hb hL (by omega) hF (by omega)).mono ?_;rintro e w4 ⟨hO4,hR4,hT4⟩;obtain ⟨v4,rfl,hv4⟩:=xF hT4 hk;obtain ⟨g4,hg4⟩:=hv4.form;subst hg4;have H4:=zb hR4;have c14:=hR4.c1;have f14:=hR4.f1))
      go_ret2
      rw [za HO]
      exact Tells.no hk (by first |exact (hOs.none.trans hO3).trans hO4 |exact ((hOs.none.drewN _).trans hO3).trans hO4) hR4 (hv4.base (by first |exact (hOs.none.trans hO3).size |exact ((hOs.none.drewN _).trans hO3).size))
    ·by_cases q3:Pro.ze L n=117∧Pro.ze L (n+1)=123
     ·have HO:Hid (Pro.numO L len n=Pro.qH L len (n+2)):=by unfold Pro.numO;rw [hsh];simp only [Bool.false_eq_true,if_false];rw [if_neg q0];rw [if_neg q1];rw [if_neg q2];rw [if_pos q3];rfl
      have hlt:n<L.length:=Pro.zr (by omega)
      have hlt2:n+1<L.length:=Pro.zr (by omega)
      have m0:Pro.zn L n { data:=#[48] }=false:=by rw [Pro.zm L n 48 48 rfl];simp;omega
      have m1:Pro.zn L n { data:=#[99] }=false:=by rw [Pro.zm L n 99 99 rfl];simp;omega
      have m2:Pro.zn L n { data:=#[120] }=false:=by rw [Pro.zm L n 120 120 rfl];simp;omega
      have m3:Pro.zn L n { data:=#[117,123] }=true:=by rw [Pro.yd L n 117 123 117 123 rfl rfl];simp;omega
      clear q0 q1 q2 q3
      by_cases hk:(Pro.qH L len (n+2)).k=0
      ·go_enter Tryz.func257,Tryz.ntmps257
       go_wp2_with (first |(go_at_call 131;refine (zZ b L (n) len dp _ (by exact za H) hL (by omega)).mono ?_;rintro e wq ⟨rfl,hwq⟩;obtain rfl:=hwq.symm;clear hwq) |(go_at_call 292;refine (zN _ _ (by omega)).mono ?_;rintro e w1 ⟨rfl,hOs⟩;have H:=zb ((za H).keep hOs (fun f=>f) (fun _ _ f=>f));have HS:=zb ((za HS).keep hOs (fun _ _ f=>f));have c1:=(za H).c1;have f1:=(za H).f1) |(go_at_call 93;refine (y5 b L (n) len dp _ _ (by first |exact za H |exact (za H).drewN _) hL (by omega) (by decide) (by assumption)).mono ?_;rintro e wq ⟨rfl,qq,rfl⟩) |(go_at_call 93;refine (yx b L (n) len dp _ _ (by exact (za H).drewN _) hL (by omega) (by decide) (by assumption)).mono ?_;rintro e w3 ⟨rfl,hR3,hO3⟩;have hR3:zG w3 b L ((n)+2) len dp:=hR3;have H3:=zb hR3);(have HS:=zb ((za HS).mine (by first |exact hO3 |exact ((zd.refl _ _).drewN _).trans hO3) hb)) |(go_at_call 296;refine (jZ b L (n+2) len dp a _ (by exact za H3) (by exact za HS) hb hL (by omega) hF).mono ?_;rintro e w4 ⟨hO4,hR4,hT4⟩;obtain rfl:=zM hT4 hk;have H4:=zb hR4;have c14:=hR4.c1;have f14:=hR4.f1))
       go_ret2
       rw [za HO]
       exact Tells.yes hk (by first |exact (hOs.none.trans hO3).trans hO4 |exact ((hOs.none.drewN _).trans hO3).trans hO4) hR4
      ·go_enter Tryz.func257,Tryz.ntmps257
       go_wp2_with (first |(go_at_call 131;refine (zZ b L (n) len dp _ (by exact za H) hL (by omega)).mono ?_;rintro e wq ⟨rfl,hwq⟩;obtain rfl:=hwq.symm;clear hwq) |(go_at_call 292;refine (zN _ _ (by omega)).mono ?_;rintro e w1 ⟨rfl,hOs⟩;have H:=zb ((za H).keep hOs (fun f=>f) (fun _ _ f=>f));have HS:=zb ((za HS).keep hOs (fun _ _ f=>f));have c1:=(za H).c1;have f1:=(za H).f1) |(go_at_call 93;refine (y5 b L (n) len dp _ _ (by first |exact za H |exact (za H).drewN _) hL (by omega) (by decide) (by assumption)).mono ?_;rintro e wq ⟨rfl,qq,rfl⟩) |(go_at_call 93;refine (yx b L (n) len dp _ _ (by exact (za H).drewN _) hL (by omega) (by decide) (by assumption)).mono ?_;rintro e w3 ⟨rfl,hR3,hO3⟩;have hR3:zG w3 b L ((n)+2) len dp:=hR3;have H3:=zb hR3);(have HS:=zb ((za HS).mine (by first |exact hO3 |exact ((zd.refl _ _).drewN _).trans hO3) hb)) |(go_at_call 296;refine (jZ b L (n+2) len dp a _ (by exact za H3) (by exact za HS) hb hL (by omega) hF).mono ?_;rintro e w4 ⟨hO4,hR4,hT4⟩;obtain ⟨v4,rfl,hv4⟩:=xF hT4 hk;obtain ⟨g4,hg4⟩:=hv4.form;subst hg4;have H4:=zb hR4;have c14:=hR4.c1;have f14:=hR4.f1))
       go_ret2
       rw [za HO]
       exact Tells.no hk (by first |exact (hOs.none.trans hO3).trans hO4 |exact ((hOs.none.drewN _).trans hO3).trans hO4) hR4 (hv4.base (by first |exact (hOs.none.trans hO3).size |exact ((hOs.none.drewN _).trans hO3).size))
     ·by_cases q4:Pro.ze L n=117
      ·have HO:Hid (Pro.numO L len n=Pro.yf L len (n+1)):=by unfold Pro.numO;rw [hsh];simp only [Bool.false_eq_true,if_false];rw [if_neg q0];rw [if_neg q1];rw [if_neg q2];rw [if_neg q3];rw [if_pos q4];rfl
       have hlt:n<L.length:=Pro.zr (by omega)
       have m0:Pro.zn L n { data:=#[48] }=false:=by rw [Pro.zm L n 48 48 rfl];simp;omega
       have m1:Pro.zn L n { data:=#[99] }=false:=by rw [Pro.zm L n 99 99 rfl];simp;omega
       have m2:Pro.zn L n { data:=#[120] }=false:=by rw [Pro.zm L n 120 120 rfl];simp;omega
       have m3:Pro.zn L n { data:=#[117,123] }=false:=by rw [Pro.yd L n 117 123 117 123 rfl rfl];simp;omega
       have m4:Pro.zn L n { data:=#[117] }=true:=by rw [Pro.zm L n 117 117 rfl];simp;omega
       clear q0 q1 q2 q3 q4
       by_cases hk:(Pro.yf L len (n+1)).k=0
       ·go_enter Tryz.func257,Tryz.ntmps257
        go_wp2_with (first |(go_at_call 131;refine (zZ b L (n) len dp _ (by exact za H) hL (by omega)).mono ?_;rintro e wq ⟨rfl,hwq⟩;obtain rfl:=hwq.symm;clear hwq) |(go_at_call 292;refine (zN _ _ (by omega)).mono ?_;rintro e w1 ⟨rfl,hOs⟩;have H:=zb ((za H).keep hOs (fun f=>f) (fun _ _ f=>f));have HS:=zb ((za HS).keep hOs (fun _ _ f=>f));have c1:=(za H).c1;have f1:=(za H).f1) |(go_at_call 93;refine (y5 b L (n) len dp _ _ (by first |exact za H |exact (za H).drewN _) hL (by omega) (by decide) (by assumption)).mono ?_;rintro e wq ⟨rfl,qq,rfl⟩) |(go_at_call 93;refine (yx b L (n) len dp _ _ (by exact (za H).drewN _) hL (by omega) (by decide) (by assumption)).mono ?_;rintro e w3 ⟨rfl,hR3,hO3⟩;have hR3:zG w3 b L ((n)+1) len dp:=hR3;have H3:=zb hR3);(have HS:=zb ((za HS).mine (by first |exact hO3 |exact ((zd.refl _ _).drewN _).trans hO3) hb)) |(go_at_call 297;refine (jD b L (n+1) len dp a _ (by exact za H3) (by exact za HS) hb hL (by omega) hF).mono ?_;rintro e w4 ⟨hO4,hR4,hT4⟩;obtain rfl:=zM hT4 hk;have H4:=zb hR4;have c14:=hR4.c1;have f14:=hR4.f1))
        go_ret2
        rw [za HO]
        exact Tells.yes hk (by first |exact (hOs.none.trans hO3).trans hO4 |exact ((hOs.none.drewN _).trans hO3).trans hO4) hR4
       ·go_enter Tryz.func257,Tryz.ntmps257
        go_wp2_with (first |(go_at_call 131;refine (zZ b L (n) len dp _ (by exact za H) hL (by omega)).mono ?_;rintro e wq ⟨rfl,hwq⟩;obtain rfl:=hwq.symm;clear hwq) |(go_at_call 292;refine (zN _ _ (by omega)).mono ?_;rintro e w1 ⟨rfl,hOs⟩;have H:=zb ((za H).keep hOs (fun f=>f) (fun _ _ f=>f));have HS:=zb ((za HS).keep hOs (fun _ _ f=>f));have c1:=(za H).c1;have f1:=(za H).f1) |(go_at_call 93;refine (y5 b L (n) len dp _ _ (by first |exact za H |exact (za H).drewN _) hL (by omega) (by decide) (by assumption)).mono ?_;rintro e wq ⟨rfl,qq,rfl⟩) |(go_at_call 93;refine (yx b L (n) len dp _ _ (by exact (za H).drewN _) hL (by omega) (by decide) (by assumption)).mono ?_;rintro e w3 ⟨rfl,hR3,hO3⟩;have hR3:zG w3 b L ((n)+1) len dp:=hR3;have H3:=zb hR3);(have HS:=zb ((za HS).mine (by first |exact hO3 |exact ((zd.refl _ _).drewN _).trans hO3) hb)) |(go_at_call 297;refine (jD b L (n+1) len dp a _ (by exact za H3) (by exact za HS) hb hL (by omega) hF).mono ?_;rintro e w4 ⟨hO4,hR4,hT4⟩;obtain ⟨v4,rfl,hv4⟩:=xF hT4 hk;obtain ⟨g4,hg4⟩:=hv4.form;subst hg4;have H4:=zb hR4;have c14:=hR4.c1;have f14:=hR4.f1))
        go_ret2
        rw [za HO]
        exact Tells.no hk (by first |exact (hOs.none.trans hO3).trans hO4 |exact ((hOs.none.drewN _).trans hO3).trans hO4) hR4 (hv4.base (by first |exact (hOs.none.trans hO3).size |exact ((hOs.none.drewN _).trans hO3).size))
      ·have HO:Hid (Pro.numO L len n=Pro.bad 3 (Pro.zx L len n) n):=by unfold Pro.numO;rw [hsh];simp only [Bool.false_eq_true,if_false];rw [if_neg q0];rw [if_neg q1];rw [if_neg q2];rw [if_neg q3];rw [if_neg q4];rfl
       have m0:Pro.zn L n { data:=#[48] }=false:=by rw [Pro.zm L n 48 48 rfl];simp;omega
       have m1:Pro.zn L n { data:=#[99] }=false:=by rw [Pro.zm L n 99 99 rfl];simp;omega
       have m2:Pro.zn L n { data:=#[120] }=false:=by rw [Pro.zm L n 120 120 rfl];simp;omega
       have m3:Pro.zn L n { data:=#[117,123] }=false:=by rw [Pro.yd L n 117 123 117 123 rfl rfl];simp;omega
       have m4:Pro.zn L n { data:=#[117] }=false:=by rw [Pro.zm L n 117 117 rfl];simp;omega
       clear q0 q1 q2 q3 q4
       go_enter Tryz.func257,Tryz.ntmps257
       go_wp2_with (first |(go_at_call 131;refine (zZ b L (n) len dp _ (by exact za H) hL (by omega)).mono ?_;rintro e wq ⟨rfl,hwq⟩;obtain rfl:=hwq.symm;clear hwq) |(go_at_call 292;refine (zN _ _ (by omega)).mono ?_;rintro e w1 ⟨rfl,hOs⟩;have H:=zb ((za H).keep hOs (fun f=>f) (fun _ _ f=>f));have HS:=zb ((za HS).keep hOs (fun _ _ f=>f));have c1:=(za H).c1;have f1:=(za H).f1) |(go_at_call 93;refine (y5 b L (n) len dp _ _ (by first |exact za H |exact (za H).drewN _) hL (by omega) (by decide) (by assumption)).mono ?_;rintro e wq ⟨rfl,qq,rfl⟩) |(go_at_call 61;refine (qL b L (n) len dp a _ (by exact (za H).drewN _) (by exact (za HS).drewN _) hL (by omega)).mono ?_;rintro e wq ⟨v,rfl,hv,hO1⟩))
       go_ret2
       exact qN (za HO) (by decide) ((hOs.none.drewN _).trans hO1.none) (((za H).drewN _).keep hO1 (fun f=>f) (fun _ _ f=>f)) (hv.base hOs.size)
 ·have HO:Hid (Pro.numO L len n=Pro.good (Pro.kL (Pro.ze L n)) (n+1)):=by unfold Pro.numO;rw [if_pos hsh];rfl
  have hlt:n<L.length:=by
   by_cases hlt:n<L.length
   ·exact hlt
   ·rw [Pro.xE (by omega)] at hsh;exact absurd hsh (by decide)
  go_enter Tryz.func257,Tryz.ntmps257
  go_wp2_with (first |(go_at_call 131;refine (zZ b L (n) len dp _ (by exact za H) hL (by omega)).mono ?_;rintro e wq ⟨rfl,hwq⟩;obtain rfl:=hwq.symm;clear hwq) |(go_at_call 292;refine (zN _ _ (by omega)).mono ?_;rintro e w1 ⟨rfl,hOs⟩;have H:=zb ((za H).keep hOs (fun f=>f) (fun _ _ f=>f));have HS:=zb ((za HS).keep hOs (fun _ _ f=>f));have c1:=(za H).c1;have f1:=(za H).f1))
  go_ret2
  exact xW (za HO) (by rw [za HO];rfl) (hOs.none.mine _ _) ((za H).setN _ _ (by omega))
def Own (b base:Nat)(k:Nat):Prop:=k=b∨base≤k
theorem Own.of {b base:Nat}{w w':World}(k:zd (zo b) w w'):zd (Own b base) w w':=k.mono (fun _ _ h=>.inl h)
theorem Own.to {b:Nat}{w w':World}(k:zd (Own b w.heap.size) w w'):zd (zo b) w w':=k.mono (fun j hj h=>by rcases h with h |h;exact h;omega)
structure Trk (base:Nat)(w0:World)(b:Nat)(L:List (Int×Int))(n:Nat)(len dp:Int)(a:Nat→Addr)(w:World):Prop where
 rd:zG w b L n len dp
 se:zK w a
 on:zd (Own b base) w0 w
 hb:10≤b
 lt:b<base
 le:base≤w0.heap.size
section
variable {base:Nat} {w0:World} {b:Nat} {L:List (Int×Int)} {n:Nat} {len dp:Int} {a:Nat→Addr} {w w':World}
theorem Trk.start (h:zG w b L n len dp)(hS:zK w a)(hb:10≤b):Trk w.heap.size w b L n len dp a w:=⟨h,hS,zd.refl _ _,hb,h.lt,Nat.le_refl _⟩
theorem Trk.drewN (t:Trk base w0 b L n len dp a w)(q:Nat):Trk base w0 b L n len dp a (w.drewN q):=⟨t.rd.drewN q,t.se.drewN q,t.on.drewN q,t.hb,t.lt,t.le⟩
theorem Trk.setN (t:Trk base w0 b L n len dp a w)(m:Nat)(j:Int)(hj:j=(m:Int)):Trk base w0 b L m len dp a (w.setCell ⟨b,1,none⟩ (.int .i64 j)):=⟨t.rd.setN m j hj,t.se.mine ((zd.refl _ _).mine _ _) t.hb,t.on.trans (Own.of ((zd.refl _ _).mine _ _)),t.hb,t.lt,t.le⟩
theorem Trk.calm (t:Trk base w0 b L n len dp a w)(k:zd (fun _=>False) w w'):Trk base w0 b L n len dp a w':=⟨t.rd.keep k (fun f=>f) (fun _ _ f=>f),t.se.keep k (fun _ _ f=>f),t.on.trans k.none,t.hb,t.lt,t.le⟩
theorem Trk.mine {m:Nat}(t:Trk base w0 b L n len dp a w)(k:zd (zo b) w w')(h:zG w' b L m len dp):Trk base w0 b L m len dp a w':=⟨h,t.se.mine k t.hb,t.on.trans (Own.of k),t.hb,t.lt,t.le⟩
theorem Trk.c1 (t:Trk base w0 b L n len dp a w):w.cell? ⟨b,1,none⟩=some (.int .i64 n):=t.rd.c1
theorem Trk.f1 (t:Trk base w0 b L n len dp a w):w.frozen? ⟨b,1,none⟩=false:=t.rd.f1
theorem Trk.good {o:Pro.Out}{yes yes' no:Value}{v:Int}(t:Trk w0.heap.size w0 b L n len dp a w)(ho:o=Pro.good v n)(hy:yes'=yes):Tells b L len dp a w0 o yes no (.returned (.tuple #[yes',.nilIface])) w:=xW ho hy (Own.to t.on) t.rd
theorem Trk.bad {o:Pro.Out}{yes no v:Value}{k:Nat}{p:Int}(t:Trk w0.heap.size w0 b L n len dp a w)(ho:o=Pro.bad k p n)(hk:k≠0)(hF:zA w w0.heap.size v (zE a k) p):Tells b L len dp a w0 o yes no (.returned (.tuple #[no,v])) w:=qN ho hk (Own.to t.on) t.rd hF
theorem Trk.yes {o:Pro.Out}{yes no:Value}(t:Trk w0.heap.size w0 b L o.n len dp a w)(hk:o.k=0):Tells b L len dp a w0 o yes no (.returned (.tuple #[yes,.nilIface])) w:=Tells.yes hk (Own.to t.on) t.rd
theorem Trk.no {o:Pro.Out}{yes no v:Value}(t:Trk w0.heap.size w0 b L o.n len dp a w)(hk:o.k≠0)(hv:zA w w0.heap.size v (zE a o.k) o.p):Tells b L len dp a w0 o yes no (.returned (.tuple #[no,v])) w:=Tells.no hk (Own.to t.on) t.rd hv
theorem yh (t:Trk base w0 b L n len dp a w)(hL:L.length≤400)(hn:n≤1000) :
  Calls Tryz.prog 131 #[.pointer (some ⟨b,0,none⟩)] w fun x w'=>x = .returned (.int .i32 (Pro.ze L n))∧w'=w:=zZ b L n len dp w t.rd hL hn
theorem ZP (k:Nat)(t:Trk base w0 b L n len dp a w)(hL:L.length≤400)(hn:n≤1000)(hk:k≤1000) :
  Calls Tryz.prog 133 #[.pointer (some ⟨b,0,none⟩),.int .i64 k] w fun x w'=>x = .returned (.int .i32 (Pro.ze L (n+k)))∧w'=w:=vf b L n len dp k w t.rd hL hn hk
theorem yg (t:Trk base w0 b L n len dp a w)(hL:L.length≤400)(hn:n≤L.length) :
  Calls Tryz.prog 94 #[.pointer (some ⟨b,0,none⟩)] w fun x w'=>x = .returned (.int .i64 (Pro.zx L len n))∧∃ q,w'=w.drewN q:=Xa b L n len dp w t.rd hL hn
theorem vh (t:Trk base w0 b L n len dp a w) :
  Calls Tryz.prog 60 #[.pointer (some ⟨b,0,none⟩)] w fun x w'=>x = .returned (.bool ((n:Int) == (L.length:Int)))∧∃ q,w'=w.drewN q:=qD b L n len dp w t.rd
theorem yG (word:ByteArray)(t:Trk base w0 b L n len dp a w)(hL:L.length≤400)(hn:n≤1000)(hw:word.size≤10)(hm:Pro.zn L n word=false) :
  Calls Tryz.prog 93 #[.pointer (some ⟨b,0,none⟩),.string word] w fun x w'=>x = .returned (.bool false)∧∃ q,w'=w.drewN q:=y5 b L n len dp word w t.rd hL hn hw hm
theorem qR (word:ByteArray)(t:Trk base w0 b L n len dp a w)(hL:L.length≤400)(hn:n≤1000)(hw:word.size≤10)(hm:Pro.zn L n word=true) :
  Calls Tryz.prog 93 #[.pointer (some ⟨b,0,none⟩),.string word] w fun x w'=>x = .returned (.bool true)∧Trk base w0 b L (n+word.size) len dp a w':=
 (yx b L n len dp word w t.rd hL hn hw hm).mono (by rintro e w1 ⟨rfl,h1,h2⟩;exact ⟨rfl,t.mine h2 h1⟩)
theorem taken_t (word:ByteArray)(t:Trk base w0 b L n len dp a w)(hL:L.length≤400)(hn:n≤1000)(hw:word.size≤10) :
  Calls Tryz.prog 93 #[.pointer (some ⟨b,0,none⟩),.string word] w fun x w'=>x = .returned (.bool (Pro.zn L n word))∧Trk base w0 b L (Pro.behind L n word) len dp a w':=
 (QV b L n len dp word w t.rd hL hn hw).mono (by rintro e w1 ⟨rfl,h1,h2⟩;exact ⟨rfl,t.mine h2 h1⟩)
def rdN (w:World)(b:Nat):Nat:=match w.cell? ⟨b,1,none⟩ with
 |some v=>(intOf v).toNat
 |none=>0
theorem Trk.rdN (t:Trk base w0 b L n len dp a w):rdN w b=n:=by
 unfold Go.Proofs.YtfnkbmglodopkaaGreatDoor.rdN;rw [t.c1];simp [intOf]
theorem wD (t:Trk base w0 b L n len dp a w)(hL:L.length≤400)(hn:n≤L.length) :
  Calls Tryz.prog 61 #[.pointer (some ⟨b,0,none⟩)] w fun x w'=>∃ v,x = .returned v∧zA w' w0.heap.size v (zE a 3) (Pro.zx L len n)∧Trk base w0 b L n len dp a w':=
 (qL b L n len dp a w t.rd t.se hL hn).mono (by rintro e w1 ⟨v,rfl,hv,hO⟩;exact ⟨v,rfl,hv.base t.on.size,t.calm hO⟩)
theorem kk (s:ByteArray)(r:Int)(t:Trk base w0 b L n len dp a w)(h1:r≤1114111)(hs:∀ b∈s.data.toList,b.toNat<128)(hz:s.size≤20) :
  Calls Tryz.prog 256 #[.string s,.int .i32 r] w fun e w'=>e = .returned (.bool (Pro.inB s r))∧Trk base w0 b L n len dp a w':=
 (wC s r w h1 hs hz).mono (by rintro e w1 ⟨rfl,hO⟩;exact ⟨rfl,t.calm hO⟩)
theorem Zy (T:TypeId)(k:Nat)(p:Int)(x:Value)(hx : .iface T x=zE a k)(t:Trk base w0 b L n len dp a w) :
  Calls Tryz.prog 62 #[.iface T x,.int .i64 p] w fun e w'=>∃ v,e = .returned v∧zA w' w0.heap.size v (zE a k) p∧Trk base w0 b L n len dp a w':=
 (vg T x p w).mono (by rintro e w1 ⟨v,rfl,hv,hO⟩;rw [hx] at hv;exact ⟨v,rfl,hv.base t.on.size,t.calm hO⟩)
theorem xG {f:FuncId}{args:Array Value}{o:Pro.Out}{yes no:Value}(t:Trk base w0 b L n len dp a w)(h:Calls Tryz.prog f args w (Tells b L len dp a w o yes no)) :
  Calls Tryz.prog f args w fun x w'=>Trk base w0 b L o.n len dp a w'∧((o.k=0∧x = .returned (.tuple #[yes,.nilIface]))∨(o.k≠0∧∃ v,x = .returned (.tuple #[no,v])∧zA w' w0.heap.size v (zE a o.k) o.p)):=
 h.mono (by
  rintro x w1 ⟨hO,hR,hT⟩
  refine ⟨t.mine hO hR,?_⟩
  rcases hT with hT |⟨hk,v,hx,hv⟩
  ·exact .inl hT
  ·exact .inr ⟨hk,v,hx,hv.base t.on.size⟩)
end
def charV (c:Int):Value:=.iface 206 (.int .i32 c)
def manyV (c:Int):Value:=.iface 207 (.int .i32 c)
def oneV (m:Bool)(c:Int):Value:=match m with
 |true=>manyV c
 |false=>charV c
theorem kN (b:Nat)(L:List (Int×Int))(n:Nat)(len dp:Int)(a:Nat→Addr)(w:World)(h:zG w b L n len dp)(hS:zK w a)(hb:10≤b)(hL:L.length≤400)(hn:n<L.length)(hF:Pro.Fit L) :
  Calls Tryz.prog 217 #[.pointer (some ⟨b,0,none⟩)] w (Tells b L len dp a w (Pro.escO L len n) (oneV (Pro.setB (Pro.ze L (n+1))) (Pro.escO L len n).v) .nilIface):=by
 have T:=zb (Trk.start h hS hb)
 have c1:=h.c1
 have f1:=h.f1
 clear h hS
 have hfit:=hF (n+1)
 cases hset:Pro.setB (Pro.ze L (n+1))
 ·have hset':Pro.inB { data:=#[100,68,119,87,115,83] } (Pro.ze L (n+1))=false:=hset
  cases hback:Pro.backB (Pro.ze L (n+1))
  ·have HO:Hid (Pro.escO L len n=Pro.numO L len (n+1)):=by unfold Pro.escO;rw [if_neg (by simp [hset]),if_neg (by simp [hback])];rfl
   have hback':Pro.inB { data:=#[49,50,51,52,53,54,55,56,57,107,112,80] } (Pro.ze L (n+1))=false:=hback
   by_cases hk:(Pro.numO L len (n+1)).k=0
   ·go_enter Tryz.func217,Tryz.ntmps217
    go_wp2_with (first |(go_at_call 94;refine (yg (n:=n) (by exact za T) hL (by omega)).mono ?_;rintro e wq ⟨rfl,qq,rfl⟩) |(go_at_call 131;refine (yh (n:=n+1) (by exact ((za T).drewN _).setN _ _ (by omega)) hL (by omega)).mono ?_;rintro e wq ⟨rfl,hwq⟩;obtain rfl:=hwq.symm;clear hwq) |(go_at_call 256;refine (kk (n:=n+1) _ _ (by first |exact za T |exact ((za T).drewN _).setN _ _ (by omega)) (by omega) (by decide) (by decide)).mono ?_;rintro e wq ⟨rfl,tq⟩;have T:=zb tq;have c1:=tq.c1;have f1:=tq.f1) |(go_at_call 257;refine (xG (n:=n+1) (by exact za T) (jE b L (n+1) len dp a _ (Trk.rd (n:=n+1) (by exact za T)) (Trk.se (n:=n+1) (by exact za T)) hb hL (by omega) hF)).mono ?_;rintro e wq ⟨tq,hT⟩;obtain rfl:=zM hT hk;clear hT;have T:=zb tq;have c1:=tq.c1;have f1:=tq.f1))
    go_ret2
    rw [za HO]
    exact (za T).yes hk
   ·go_enter Tryz.func217,Tryz.ntmps217
    go_wp2_with (first |(go_at_call 94;refine (yg (n:=n) (by exact za T) hL (by omega)).mono ?_;rintro e wq ⟨rfl,qq,rfl⟩) |(go_at_call 131;refine (yh (n:=n+1) (by exact ((za T).drewN _).setN _ _ (by omega)) hL (by omega)).mono ?_;rintro e wq ⟨rfl,hwq⟩;obtain rfl:=hwq.symm;clear hwq) |(go_at_call 256;refine (kk (n:=n+1) _ _ (by first |exact za T |exact ((za T).drewN _).setN _ _ (by omega)) (by omega) (by decide) (by decide)).mono ?_;rintro e wq ⟨rfl,tq⟩;have T:=zb tq;have c1:=tq.c1;have f1:=tq.f1) |(go_at_call 257;refine (xG (n:=n+1) (by exact za T) (jE b L (n+1) len dp a _ (Trk.rd (n:=n+1) (by exact za T)) (Trk.se (n:=n+1) (by exact za T)) hb hL (by omega) hF)).mono ?_;rintro e wq ⟨tq,hT⟩;obtain ⟨v,rfl,hv⟩:=xF hT hk;obtain ⟨gv,hgv⟩:=hv.form;subst hgv;clear hT;have T:=zb tq;have c1:=tq.c1;have f1:=tq.f1))
    go_ret2
    rw [za HO]
    exact (za T).no hk hv
  ·have HO:Hid (Pro.escO L len n=Pro.bad 6 (Pro.zx L len n) (n+1)):=by unfold Pro.escO;rw [if_neg (by simp [hset]),if_pos hback];rfl
   have hback':Pro.inB { data:=#[49,50,51,52,53,54,55,56,57,107,112,80] } (Pro.ze L (n+1))=true:=hback
   have hs6:=(za T).se.s6
   go_enter Tryz.func217,Tryz.ntmps217
   go_wp2_with (first |(go_at_call 94;refine (yg (n:=n) (by exact za T) hL (by omega)).mono ?_;rintro e wq ⟨rfl,qq,rfl⟩) |(go_at_call 131;refine (yh (n:=n+1) (by exact ((za T).drewN _).setN _ _ (by omega)) hL (by omega)).mono ?_;rintro e wq ⟨rfl,hwq⟩;obtain rfl:=hwq.symm;clear hwq) |(go_at_call 256;refine (kk (n:=n+1) _ _ (by first |exact za T |exact ((za T).drewN _).setN _ _ (by omega)) (by omega) (by decide) (by decide)).mono ?_;rintro e wq ⟨rfl,tq⟩;have T:=zb tq;have c1:=tq.c1;have f1:=tq.f1);(have hs6:=(za T).se.s6) |(go_at_call 62;refine (Zy (n:=n+1) _ 6 _ _ rfl (by exact za T)).mono ?_;rintro e wq ⟨v,rfl,hv,tq⟩;have T:=zb tq;have c1:=tq.c1;have f1:=tq.f1))
   go_ret2
   exact (za T).bad (za HO) (by decide) hv
 ·have HO:Hid (Pro.escO L len n=Pro.good (Pro.ze L (n+1)) (n+2)):=by unfold Pro.escO;rw [if_pos hset];rfl
  have hset':Pro.inB { data:=#[100,68,119,87,115,83] } (Pro.ze L (n+1))=true:=hset
  go_enter Tryz.func217,Tryz.ntmps217
  go_wp2_with (first |(go_at_call 94;refine (yg (n:=n) (by exact za T) hL (by omega)).mono ?_;rintro e wq ⟨rfl,qq,rfl⟩) |(go_at_call 131;refine (yh (n:=n+1) (by exact ((za T).drewN _).setN _ _ (by omega)) hL (by omega)).mono ?_;rintro e wq ⟨rfl,hwq⟩;obtain rfl:=hwq.symm;clear hwq) |(go_at_call 256;refine (kk (n:=n+1) _ _ (by exact ((za T).drewN _).setN _ _ (by omega)) (by omega) (by decide) (by decide)).mono ?_;rintro e wq ⟨rfl,tq⟩;have T:=zb tq;have c1:=tq.c1;have f1:=tq.f1))
  go_ret2
  exact ((za T).setN (n+2) _ (by omega)).good (za HO) (by rw [za HO];rfl)
namespace Pro
theorem setB_b:setB 98=false:=by decide
theorem setB_d:setB 45=false:=by decide
theorem many_no {L:List (Int×Int)}{n:Nat}(h:ze L n≠92):many L n=false:=by unfold many;simp [h]
theorem Ys {L:List (Int×Int)}{n:Nat}(h:ze L n=92):many L n=setB (ze L (n+1)):=by unfold many;simp [h]
end Pro
theorem y6 (b:Nat)(L:List (Int×Int))(n:Nat)(len dp:Int)(a:Nat→Addr)(w:World)(h:zG w b L n len dp)(hS:zK w a)(hb:10≤b)(hL:L.length≤400)(hn:n<L.length)(hF:Pro.Fit L) :
  Calls Tryz.prog 288 #[.pointer (some ⟨b,0,none⟩)] w (Tells b L len dp a w (Pro.zl L len n) (oneV (Pro.many L n) (Pro.zl L len n).v) .nilIface):=by
 have T:=zb (Trk.start h hS hb)
 have c1:=h.c1
 have f1:=h.f1
 clear h hS
 have hfit:=hF n
 by_cases he:Pro.ze L n=92
 ·by_cases h1:Pro.ze L (n+1)=98
  ·have HO:Hid (Pro.zl L len n=Pro.good 8 (n+2)):=by unfold Pro.zl;rw [if_pos ⟨he,h1⟩];rfl
   have HM:Hid (Pro.many L n=false):=by rw [Pro.Ys he,h1];exact Pro.setB_b
   have m1:Pro.zn L n { data:=#[92,98] }=true:=by rw [Pro.yd L n 92 98 92 98 rfl rfl];simp [he,h1]
   clear he h1
   go_enter Tryz.func288,Tryz.ntmps288
   go_wp2_with (go_at_call 93;refine (qR (n:=n) _ (by exact za T) hL (by omega) (by decide) (by assumption)).mono ?_;rintro e wq ⟨rfl,tq⟩;have tq:Trk _ _ b L ((n)+2) len dp a wq:=tq;have T:=zb tq;have c1:=tq.c1;have f1:=tq.f1)
   go_ret2
   exact (za T).good (za HO) (by rw [za HO,za HM];rfl)
  ·have m1:Pro.zn L n { data:=#[92,98] }=false:=by rw [Pro.yd L n 92 98 92 98 rfl rfl];simp [he,h1]
   by_cases h2:Pro.ze L (n+1)=45
   ·have HO:Hid (Pro.zl L len n=Pro.good 45 (n+2)):=by unfold Pro.zl;rw [if_neg (fun hh=>h1 hh.2),if_pos ⟨he,h2⟩];rfl
    have HM:Hid (Pro.many L n=false):=by rw [Pro.Ys he,h2];exact Pro.setB_d
    have m2:Pro.zn L n { data:=#[92,45] }=true:=by rw [Pro.yd L n 92 45 92 45 rfl rfl];simp [he,h2]
    clear he h1 h2
    go_enter Tryz.func288,Tryz.ntmps288
    go_wp2_with (first |(go_at_call 93;refine (yG (n:=n) _ (by first |exact za T |exact (za T).drewN _) hL (by omega) (by decide) (by assumption)).mono ?_;rintro e wq ⟨rfl,qq,rfl⟩) |(go_at_call 93;refine (qR (n:=n) _ (by exact (za T).drewN _) hL (by omega) (by decide) (by assumption)).mono ?_;rintro e wq ⟨rfl,tq⟩;have tq:Trk _ _ b L ((n)+2) len dp a wq:=tq;have T:=zb tq;have c1:=tq.c1;have f1:=tq.f1))
    go_ret2
    exact (za T).good (za HO) (by rw [za HO,za HM];rfl)
   ·have m2:Pro.zn L n { data:=#[92,45] }=false:=by rw [Pro.yd L n 92 45 92 45 rfl rfl];simp [he,h2]
    have HO:Hid (Pro.zl L len n=Pro.escO L len n):=by unfold Pro.zl;rw [if_neg (fun hh=>h1 hh.2),if_neg (fun hh=>h2 hh.2),if_pos he];rfl
    have HM:Hid (Pro.many L n=Pro.setB (Pro.ze L (n+1))):=Pro.Ys he
    have he':(Pro.ze L n == 92)=true:=by simp [he]
    clear he h1 h2
    by_cases hk:(Pro.escO L len n).k=0
    ·go_enter Tryz.func288,Tryz.ntmps288
     go_wp2_with (first |(go_at_call 93;refine (yG (n:=n) _ (by first |exact za T |exact (za T).drewN _) hL (by omega) (by decide) (by assumption)).mono ?_;rintro e wq ⟨rfl,qq,rfl⟩) |(go_at_call 131;refine (yh (n:=n) (by exact (za T).drewN _) hL (by omega)).mono ?_;rintro e wq ⟨rfl,hwq⟩;obtain rfl:=hwq.symm;clear hwq) |(go_at_call 217;refine (xG (n:=n) (by exact (za T).drewN _) (kN b L n len dp a _ (Trk.rd (n:=n) (by exact (za T).drewN _)) (Trk.se (n:=n) (by exact (za T).drewN _)) hb hL (by omega) hF)).mono ?_;rintro e wq ⟨tq,hT⟩;obtain rfl:=zM hT hk;clear hT;have T:=zb tq;have c1:=tq.c1;have f1:=tq.f1))
     go_ret2
     rw [za HO,za HM]
     exact (za T).yes hk
    ·go_enter Tryz.func288,Tryz.ntmps288
     go_wp2_with (first |(go_at_call 93;refine (yG (n:=n) _ (by first |exact za T |exact (za T).drewN _) hL (by omega) (by decide) (by assumption)).mono ?_;rintro e wq ⟨rfl,qq,rfl⟩) |(go_at_call 131;refine (yh (n:=n) (by exact (za T).drewN _) hL (by omega)).mono ?_;rintro e wq ⟨rfl,hwq⟩;obtain rfl:=hwq.symm;clear hwq) |(go_at_call 217;refine (xG (n:=n) (by exact (za T).drewN _) (kN b L n len dp a _ (Trk.rd (n:=n) (by exact (za T).drewN _)) (Trk.se (n:=n) (by exact (za T).drewN _)) hb hL (by omega) hF)).mono ?_;rintro e wq ⟨tq,hT⟩;obtain ⟨v,rfl,hv⟩:=xF hT hk;obtain ⟨gv,hgv⟩:=hv.form;subst hgv;clear hT;have T:=zb tq;have c1:=tq.c1;have f1:=tq.f1))
     go_ret2
     rw [za HO,za HM]
     exact (za T).no hk hv
 ·have m1:Pro.zn L n { data:=#[92,98] }=false:=by rw [Pro.yd L n 92 98 92 98 rfl rfl];simp [he]
  have m2:Pro.zn L n { data:=#[92,45] }=false:=by rw [Pro.yd L n 92 45 92 45 rfl rfl];simp [he]
  have HO:Hid (Pro.zl L len n=Pro.good (Pro.ze L n) (n+1)):=by unfold Pro.zl;rw [if_neg (fun hh=>he hh.1),if_neg (fun hh=>he hh.1),if_neg he];rfl
  have HM:Hid (Pro.many L n=false):=Pro.many_no he
  have he':(Pro.ze L n == 92)=false:=by simp [he]
  clear he
  go_enter Tryz.func288,Tryz.ntmps288
  go_wp2_with (first |(go_at_call 93;refine (yG (n:=n) _ (by first |exact za T |exact (za T).drewN _) hL (by omega) (by decide) (by assumption)).mono ?_;rintro e wq ⟨rfl,qq,rfl⟩) |(go_at_call 131;refine (yh (n:=n) (by exact (za T).drewN _) hL (by omega)).mono ?_;rintro e wq ⟨rfl,hwq⟩;obtain rfl:=hwq.symm;clear hwq))
  go_ret2
  exact (Trk.setN (by exact (za T).drewN _) (n+1) _ (by omega)).good (za HO) (by rw [za HO,za HM];rfl)
theorem kQ (b:Nat)(L:List (Int×Int))(n:Nat)(len dp:Int)(a:Nat→Addr)(base:Nat)(w0 w:World)(t:Trk base w0 b L n len dp a w)(hL:L.length≤400)(hn:n≤500) :
  Calls Tryz.prog 289 #[.pointer (some ⟨b,0,none⟩)] w fun x w'=>x = .returned (.bool (Pro.qM L n))∧w'=w:=by
 have T:=zb t
 clear t
 by_cases h1:Pro.ze L n=45
 ·by_cases h2:Pro.ze L (n+1)=93
  ·have HD:Hid (Pro.qM L n=false):=by unfold Pro.qM;simp [h1,h2];trivial
   go_enter Tryz.func289,Tryz.ntmps289
   go_wp2_with (first |(go_at_call 131;refine (yh (n:=n) (by exact za T) hL (by omega)).mono ?_;rintro e wq ⟨rfl,hwq⟩;obtain rfl:=hwq.symm;clear hwq) |(go_at_call 133;refine (ZP (n:=n) 1 (by exact za T) hL (by omega) (by omega)).mono ?_;rintro e wq ⟨rfl,hwq⟩;obtain rfl:=hwq.symm;clear hwq))
   go_ret
   rw [za HD]
   exact ⟨rfl,rfl⟩
  ·by_cases h3:Pro.ze L (n+1) = -1
   ·have HD:Hid (Pro.qM L n=false):=by unfold Pro.qM;simp [h1,h3];trivial
    go_enter Tryz.func289,Tryz.ntmps289
    go_wp2_with (first |(go_at_call 131;refine (yh (n:=n) (by exact za T) hL (by omega)).mono ?_;rintro e wq ⟨rfl,hwq⟩;obtain rfl:=hwq.symm;clear hwq) |(go_at_call 133;refine (ZP (n:=n) 1 (by exact za T) hL (by omega) (by omega)).mono ?_;rintro e wq ⟨rfl,hwq⟩;obtain rfl:=hwq.symm;clear hwq))
    go_ret
    rw [za HD]
    exact ⟨rfl,rfl⟩
   ·have HD:Hid (Pro.qM L n=true):=by unfold Pro.qM;simp [h1,h2,h3];trivial
    have h2':(Pro.ze L (n+1) != 93)=true:=by simp [h2]
    have h3':(Pro.ze L (n+1) != -1)=true:=by simp [h3]
    clear h2 h3
    go_enter Tryz.func289,Tryz.ntmps289
    go_wp2_with (first |(go_at_call 131;refine (yh (n:=n) (by exact za T) hL (by omega)).mono ?_;rintro e wq ⟨rfl,hwq⟩;obtain rfl:=hwq.symm;clear hwq) |(go_at_call 133;refine (ZP (n:=n) 1 (by exact za T) hL (by omega) (by omega)).mono ?_;rintro e wq ⟨rfl,hwq⟩;obtain rfl:=hwq.symm;clear hwq))
    go_ret
    rw [za HD]
    exact ⟨rfl,rfl⟩
 ·have HD:Hid (Pro.qM L n=false):=by unfold Pro.qM;simp [h1];trivial
  have h1':(Pro.ze L n == 45)=false:=by simp [h1]
  clear h1
  go_enter Tryz.func289,Tryz.ntmps289
  go_wp2_with (first |(go_at_call 131;refine (yh (n:=n) (by exact za T) hL (by omega)).mono ?_;rintro e wq ⟨rfl,hwq⟩;obtain rfl:=hwq.symm;clear hwq) |(go_at_call 133;refine (ZP (n:=n) 1 (by exact za T) hL (by omega) (by omega)).mono ?_;rintro e wq ⟨rfl,hwq⟩;obtain rfl:=hwq.symm;clear hwq))
  go_ret
  rw [za HD]
  exact ⟨rfl,rfl⟩
set_option maxRecDepth 1000000
def rangeCells:List (Int×Int)→List Value
 | []=>[]
 |(a,b) :: r=>.int .i32 a :: .int .i32 b :: rangeCells r
theorem jF:∀ (l r:List (Int×Int)),rangeCells (l++r)=rangeCells l++rangeCells r
 | [],r=>rfl
 |(a,b) :: l,r=>by simp only [List.cons_append,rangeCells,jF l r]
def xH (l:List Int):List Value:=l.map (Value.int .i32)
structure z7 (w:World)(cb:Nat)(neg:Bool)(R:List (Int×Int))(S:List Int)(v1 v2:Value):Prop where
 k0:w.cell? ⟨cb,0,none⟩=some (.bool neg)
 k1:w.cell? ⟨cb,1,none⟩=some v1
 k2:w.cell? ⟨cb,2,none⟩=some v2
 o1:w.ownsRow (cb+1) 364 2 v1 R.length (rangeCells R)
 o2:w.ownsRow (cb+1) 207 1 v2 S.length (xH S)
 f1:w.frozen? ⟨cb,1,none⟩=false
 f2:w.frozen? ⟨cb,2,none⟩=false
theorem z7.lt {w:World}{cb:Nat}{neg:Bool}{R:List (Int×Int)}{S:List Int}{v1 v2:Value}(h:z7 w cb neg R S v1 v2):cb<w.heap.size:=World.block_lt_of_cell? w ⟨cb,0,none⟩ h.k0
theorem z7.keep {P:Nat→Prop}{w w':World}{cb:Nat}{neg:Bool}{R:List (Int×Int)}{S:List Int}{v1 v2:Value}(h:z7 w cb neg R S v1 v2)(k:zd P w w')(hn:∀ g,cb≤g→¬P g):z7 w' cb neg R S v1 v2:=
 ⟨(k.cell (p:=⟨cb,0,none⟩) h.lt (hn _ (Nat.le_refl _))).trans h.k0,(k.cell (p:=⟨cb,1,none⟩) h.lt (hn _ (Nat.le_refl _))).trans h.k1,(k.cell (p:=⟨cb,2,none⟩) h.lt (hn _ (Nat.le_refl _))).trans h.k2,
  zk h.o1 k (fun g hg=>hn g (by have:=(zg h.o1 g hg).1;omega)),zk h.o2 k (fun g hg=>hn g (by have:=(zg h.o2 g hg).1;omega)),
  (k.frozen (p:=⟨cb,1,none⟩) h.lt (hn _ (Nat.le_refl _))).trans h.f1,(k.frozen (p:=⟨cb,2,none⟩) h.lt (hn _ (Nat.le_refl _))).trans h.f2⟩
theorem Tryz.infoRange:(Tryz.prog.info? 364).map (fun i=>(i.zero,i.size,i.bytes))=some (some (.agg #[.int .i32 0,.int .i32 0]),2,8):=by kernel_rfl
theorem Tryz.infoShort:(Tryz.prog.info? 207).map (fun i=>(i.zero,i.size,i.bytes))=some (some (.int .i32 0),1,4):=by kernel_rfl
theorem Tryz.isChar (v:Value)(w:World):(Instr.typeAssert (.iface 206 v) 70 206 true).run Tryz.prog w = .ok (.tuple #[v,.bool true]) w:=by kernel_rfl
theorem Tryz.notChar (v:Value)(w:World):(Instr.typeAssert (.iface 207 v) 70 206 true).run Tryz.prog w = .ok (.tuple #[.int .i32 0,.bool false]) w:=by kernel_rfl
theorem Tryz.isMany (v:Value)(w:World):(Instr.typeAssert (.iface 207 v) 70 207 true).run Tryz.prog w = .ok (.tuple #[v,.bool true]) w:=by kernel_rfl
theorem Trk.join {cb:Nat}{w0 w w':World}{b:Nat}{L:List (Int×Int)}{n m:Nat}{len dp:Int}{a:Nat→Addr}(t:Trk cb w0 b L n len dp a w)(T:Trk w.heap.size w b L m len dp a w'):Trk cb w0 b L m len dp a w':=t.mine (Own.to T.on) T.rd
theorem z7.step {cb:Nat}{w w':World}{b:Nat}{L:List (Int×Int)}{m:Nat}{len dp:Int}{a:Nat→Addr}{neg:Bool}{R:List (Int×Int)}{S:List Int}{v1 v2:Value}(h:z7 w cb neg R S v1 v2)(hbc:b<cb)(T:Trk w.heap.size w b L m len dp a w'):z7 w' cb neg R S v1 v2:=
 h.keep (Own.to T.on) (fun g hg e=>by unfold zo at e;omega)
theorem Trk.push {cb:Nat}{w0 w w':World}{b:Nat}{L:List (Int×Int)}{n:Nat}{len dp:Int}{a:Nat→Addr}(t:Trk cb w0 b L n len dp a w)(k:zd (fun g=>cb≤g) w w'):Trk cb w0 b L n len dp a w':=
 have hb:=t.hb
 have hl:=t.lt
 ⟨t.rd.keep k (by show ¬cb≤b;omega) (fun g hg=>by show ¬cb≤g;omega),t.se.keep k (fun j hj=>by show ¬cb≤j;omega),t.on.trans (k.mono (fun _ _ h=>.inr h)),hb,hl,t.le⟩
theorem z7.push1 {w W w':World}{cb:Nat}{neg:Bool}{R:List (Int×Int)}{S:List Int}{v1 v2 v':Value}{x y:Int}(h:z7 w cb neg R S v1 v2)(hW:zd (fun _=>False) w W)(_hoW:W.ownsRow (cb+1) 364 2 v1 R.length (rangeCells R))(hg:W.grownBy w' v1.ownBlock)
  (ho:w'.ownsRow (cb+1) 364 2 v' (R.length+1) (rangeCells R++[.int .i32 x,.int .i32 y])):z7 (w'.setCell ⟨cb,1,none⟩ v') cb neg (R++[(x,y)]) S v' v2∧zd (fun g=>cb≤g) w (w'.setCell ⟨cb,1,none⟩ v'):=by
 have hlt:=h.lt
 have k:zd (fun g=>v1.ownBlock=some g) w w':=(hW.mono (fun _ _ f=>f.elim)).trans (zd.ofGrown hg)
 have hn:¬(v1.ownBlock=some cb):=fun e=>by have:=(zg h.o1 cb e).1;omega
 have c0:=(k.cell (p:=⟨cb,0,none⟩) hlt hn).trans h.k0
 have c1:=(k.cell (p:=⟨cb,1,none⟩) hlt hn).trans h.k1
 have c2:=(k.cell (p:=⟨cb,2,none⟩) hlt hn).trans h.k2
 have f1:=(k.frozen (p:=⟨cb,1,none⟩) hlt hn).trans h.f1
 have f2:=(k.frozen (p:=⟨cb,2,none⟩) hlt hn).trans h.f2
 have hS:zd (fun g=>g=cb) w' (w'.setCell ⟨cb,1,none⟩ v'):=(zd.refl (fun g=>g=cb) w').setCell (p:=⟨cb,1,none⟩) (.inl rfl) v'
 have o2:w'.ownsRow (cb+1) 207 1 v2 S.length (xH S):=zk h.o2 k (fun g hg1 hg2=>own_ne h.o2 h.o1 (by decide) g hg1 hg2)
 refine ⟨⟨(World.cell?_setCell_other _ _ _ _ (by simp)).trans c0,World.cell?_setCell_same _ _ _ c1,(World.cell?_setCell_other _ _ _ _ (by simp)).trans c2,?_,?_,(zh _ _ _ _).trans f1,(zh _ _ _ _).trans f2⟩,?_⟩
 ·rw [jF,List.length_append]
  exact zk ho hS (fun g hg1 e=>by have:=(zg ho g hg1).1;omega)
 ·exact zk o2 hS (fun g hg1 e=>by have:=(zg o2 g hg1).1;omega)
 ·exact (k.mono (fun g _ e=>by have:=(zg h.o1 g e).1;show cb≤g;omega)).trans (hS.mono (fun g _ e=>by show cb≤g;omega))
theorem z7.push2 {w W w':World}{cb:Nat}{neg:Bool}{R:List (Int×Int)}{S:List Int}{v1 v2 v':Value}{x:Int}(h:z7 w cb neg R S v1 v2)(hW:zd (fun _=>False) w W)(_hoW:W.ownsRow (cb+1) 207 1 v2 S.length (xH S))(hg:W.grownBy w' v2.ownBlock)
  (ho:w'.ownsRow (cb+1) 207 1 v' (S.length+1) (xH S++[.int .i32 x])):z7 (w'.setCell ⟨cb,2,none⟩ v') cb neg R (S++[x]) v1 v'∧zd (fun g=>cb≤g) w (w'.setCell ⟨cb,2,none⟩ v'):=by
 have hlt:=h.lt
 have k:zd (fun g=>v2.ownBlock=some g) w w':=(hW.mono (fun _ _ f=>f.elim)).trans (zd.ofGrown hg)
 have hn:¬(v2.ownBlock=some cb):=fun e=>by have:=(zg h.o2 cb e).1;omega
 have c0:=(k.cell (p:=⟨cb,0,none⟩) hlt hn).trans h.k0
 have c1:=(k.cell (p:=⟨cb,1,none⟩) hlt hn).trans h.k1
 have c2:=(k.cell (p:=⟨cb,2,none⟩) hlt hn).trans h.k2
 have f1:=(k.frozen (p:=⟨cb,1,none⟩) hlt hn).trans h.f1
 have f2:=(k.frozen (p:=⟨cb,2,none⟩) hlt hn).trans h.f2
 have hS:zd (fun g=>g=cb) w' (w'.setCell ⟨cb,2,none⟩ v'):=(zd.refl (fun g=>g=cb) w').setCell (p:=⟨cb,2,none⟩) (.inl rfl) v'
 have o1:w'.ownsRow (cb+1) 364 2 v1 R.length (rangeCells R):=zk h.o1 k (fun g hg1 hg2=>own_ne h.o1 h.o2 (by decide) g hg1 hg2)
 refine ⟨⟨(World.cell?_setCell_other _ _ _ _ (by simp)).trans c0,(World.cell?_setCell_other _ _ _ _ (by simp)).trans c1,World.cell?_setCell_same _ _ _ c2,?_,?_,(zh _ _ _ _).trans f1,(zh _ _ _ _).trans f2⟩,?_⟩
 ·exact zk o1 hS (fun g hg1 e=>by have:=(zg o1 g hg1).1;omega)
 ·unfold xH at ho ⊢
  rw [List.map_append,List.length_append]
  exact zk ho hS (fun g hg1 e=>by have:=(zg ho g hg1).1;omega)
 ·exact (k.mono (fun g _ e=>by have:=(zg h.o2 g e).1;show cb≤g;omega)).trans (hS.mono (fun g _ e=>by show cb≤g;omega))
theorem z7.cells {w W w':World}{cb:Nat}{neg:Bool}{R:List (Int×Int)}{S:List Int}{v1 v2:Value}{o:Option Nat}(h:z7 w cb neg R S v1 v2)(hW:zd (fun _=>False) w W)(hg:W.grownBy w' o)(hn:¬(o=some cb)):w'.cell? ⟨cb,1,none⟩=some v1∧w'.cell? ⟨cb,2,none⟩=some v2∧w'.frozen? ⟨cb,1,none⟩=false∧w'.frozen? ⟨cb,2,none⟩=false:=by
 have hlt:=h.lt
 have k:zd (fun g=>o=some g) w w':=(hW.mono (fun _ _ f=>f.elim)).trans (zd.ofGrown hg)
 exact ⟨(k.cell (p:=⟨cb,1,none⟩) hlt hn).trans h.k1,(k.cell (p:=⟨cb,2,none⟩) hlt hn).trans h.k2,(k.frozen (p:=⟨cb,1,none⟩) hlt hn).trans h.f1,(k.frozen (p:=⟨cb,2,none⟩) hlt hn).trans h.f2⟩
theorem z7.n1 {w:World}{cb:Nat}{neg:Bool}{R:List (Int×Int)}{S:List Int}{v1 v2:Value}(h:z7 w cb neg R S v1 v2):¬(v1.ownBlock=some cb):=fun e=>by have:=(zg h.o1 cb e).1;omega
theorem z7.n2 {w:World}{cb:Nat}{neg:Bool}{R:List (Int×Int)}{S:List Int}{v1 v2:Value}(h:z7 w cb neg R S v1 v2):¬(v2.ownBlock=some cb):=fun e=>by have:=(zg h.o2 cb e).1;omega
def Adds (b:Nat)(L:List (Int×Int))(len dp:Int)(a:Nat→Addr)(cb:Nat)(w0:World)(o:Pro.Out)(neg:Bool)(R:List (Int×Int))(S:List Int)(x:Ending)(w':World):Prop:=
 Trk cb w0 b L o.n len dp a w'∧((o.k=0∧x = .returned .nilIface∧∃ v1 v2,z7 w' cb neg R S v1 v2)∨(o.k≠0∧∃ v,x = .returned v∧zA w' w0.heap.size v (zE a o.k) o.p))
namespace Pro
theorem Xb {L:List (Int×Int)}{n:Nat}(h:qM L n=true):ze L n=45∧ze L (n+1)≠93∧ze L (n+1)≠-1:=by
 unfold qM at h;simpa [and_assoc] using h
theorem QW {L:List (Int×Int)}{n:Nat}(h:ze L n≠-1):n<L.length:=by
 by_cases hn:n<L.length
 ·exact hn
 ·exact absurd (xE (by omega)) h
end Pro
theorem XY (b:Nat)(L:List (Int×Int))(n:Nat)(len dp:Int)(a:Nat→Addr)(cb:Nat)(w0 w:World)(neg:Bool)(R:List (Int×Int))(S:List Int)(v1 v2:Value)(m:Bool)(c:Int)(t:Trk cb w0 b L n len dp a w)(hC:z7 w cb neg R S v1 v2)(hL:L.length≤400)(hd:Pro.qM L n=true)(hF:Pro.Fit L)(hR:R.length≤400) :
  Calls Tryz.prog 290 #[.pointer (some ⟨b,0,none⟩),.pointer (some ⟨cb,0,none⟩),oneV m c] w (Adds b L len dp a cb w0 (Pro.xR L len m c n) neg (R++[(c,(Pro.zl L len (n+1)).v)]) S):=by
 obtain ⟨i0,hi,hz0,hz1,hz2⟩:=info_parts Tryz.infoRange
 have hdd:=Pro.Xb hd
 have hn1:n+1<L.length:=Pro.QW hdd.2.2
 clear hd hdd
 have T0:=zb t
 have T:=zb (Trk.start t.rd t.se t.hb)
 have hsz:=t.on.size
 have hbc:=t.lt
 have c1:=t.c1
 have f1:=t.f1
 have HC:=zb hC
 have hs4:=t.se.s4
 have hgen:∀ X:Value,X=oneV m c→Calls Tryz.prog 290 #[.pointer (some ⟨b,0,none⟩),.pointer (some ⟨cb,0,none⟩),X] w (Adds b L len dp a cb w0 (Pro.xR L len m c n) neg (R++[(c,(Pro.zl L len (n+1)).v)]) S):=by
  intro X hX
  by_cases hk:(Pro.zl L len (n+1)).k=0
  ·by_cases hbad:m=true∨Pro.many L (n+1)=true∨(Pro.zl L len (n+1)).v<c
   ·have HO:Hid (Pro.xR L len m c n=Pro.bad 4 (Pro.zx L len n) (Pro.zl L len (n+1)).n):=by unfold Pro.xR;rw [if_neg (by simp [hk]),if_pos hbad];rfl
    clear t hC
    have hcs:(X = .iface 207 (.int .i32 c))∨(X = .iface 206 (.int .i32 c)∧oneV (Pro.many L (n+1)) (Pro.zl L len (n+1)).v = .iface 207 (.int .i32 (Pro.zl L len (n+1)).v))∨
      (X = .iface 206 (.int .i32 c)∧oneV (Pro.many L (n+1)) (Pro.zl L len (n+1)).v = .iface 206 (.int .i32 (Pro.zl L len (n+1)).v)∧(Pro.zl L len (n+1)).v<c):=by
     cases m with
     |true=>left;exact hX
     |false=>
      right
      cases hmm:Pro.many L (n+1) with
      |true=>left;exact ⟨hX,rfl⟩
      |false=>right;exact ⟨hX,rfl,by rw [hmm] at hbad;simpa using hbad⟩
    clear hbad hX
    have a1:=Tryz.isChar
    have a2:=Tryz.notChar
    rcases hcs with rfl |⟨rfl,hv2⟩ |⟨rfl,hv2,hlt⟩
    ·cases hmm:Pro.many L (n+1)
     ·have hv2:oneV false (Pro.zl L len (n+1)).v = .iface 206 (.int .i32 (Pro.zl L len (n+1)).v):=rfl
      go_enter Tryz.func290,Tryz.ntmps290
      go_wp2_with (first |(go_at_call 94;refine (yg (n:=n) (by exact za T) hL (by omega)).mono ?_;rintro e wq ⟨rfl,qq,rfl⟩) |(go_at_call 288;refine (xG (n:=n+1) (by exact ((za T).drewN _).setN _ _ (by omega)) (y6 b L (n+1) len dp a _ (Trk.rd (n:=n+1) (by exact ((za T).drewN _).setN _ _ (by omega))) (Trk.se (n:=n+1) (by exact ((za T).drewN _).setN _ _ (by omega))) (za T).hb hL (by omega) hF)).mono ?_;rintro e wq ⟨tq,hT⟩;obtain rfl:=zM hT hk;clear hT;have T:=zb tq;have c1:=tq.c1;have f1:=tq.f1);(have hs4:=(za T).se.s4) |(go_at_call 62;refine (Zy (n:=(Pro.zl L len (n+1)).n) _ 4 _ _ rfl (by exact za T)).mono ?_;rintro e wq ⟨v,rfl,hv,tq⟩;have T:=zb tq;have c1:=tq.c1;have f1:=tq.f1))
      go_ret
      rw [za HO]
      exact ⟨(za T0).join (za T),.inr ⟨(show (4:Nat)≠0 by decide),_,rfl,hv.base hsz⟩⟩
     ·have hv2:oneV true (Pro.zl L len (n+1)).v = .iface 207 (.int .i32 (Pro.zl L len (n+1)).v):=rfl
      go_enter Tryz.func290,Tryz.ntmps290
      go_wp2_with (first |(go_at_call 94;refine (yg (n:=n) (by exact za T) hL (by omega)).mono ?_;rintro e wq ⟨rfl,qq,rfl⟩) |(go_at_call 288;refine (xG (n:=n+1) (by exact ((za T).drewN _).setN _ _ (by omega)) (y6 b L (n+1) len dp a _ (Trk.rd (n:=n+1) (by exact ((za T).drewN _).setN _ _ (by omega))) (Trk.se (n:=n+1) (by exact ((za T).drewN _).setN _ _ (by omega))) (za T).hb hL (by omega) hF)).mono ?_;rintro e wq ⟨tq,hT⟩;obtain rfl:=zM hT hk;clear hT;have T:=zb tq;have c1:=tq.c1;have f1:=tq.f1);(have hs4:=(za T).se.s4) |(go_at_call 62;refine (Zy (n:=(Pro.zl L len (n+1)).n) _ 4 _ _ rfl (by exact za T)).mono ?_;rintro e wq ⟨v,rfl,hv,tq⟩;have T:=zb tq;have c1:=tq.c1;have f1:=tq.f1))
      go_ret
      rw [za HO]
      exact ⟨(za T0).join (za T),.inr ⟨(show (4:Nat)≠0 by decide),_,rfl,hv.base hsz⟩⟩
    all_goals
     go_enter Tryz.func290,Tryz.ntmps290
     go_wp2_with (first |(go_at_call 94;refine (yg (n:=n) (by exact za T) hL (by omega)).mono ?_;rintro e wq ⟨rfl,qq,rfl⟩) |(go_at_call 288;refine (xG (n:=n+1) (by exact ((za T).drewN _).setN _ _ (by omega)) (y6 b L (n+1) len dp a _ (Trk.rd (n:=n+1) (by exact ((za T).drewN _).setN _ _ (by omega))) (Trk.se (n:=n+1) (by exact ((za T).drewN _).setN _ _ (by omega))) (za T).hb hL (by omega) hF)).mono ?_;rintro e wq ⟨tq,hT⟩;obtain rfl:=zM hT hk;clear hT;have T:=zb tq;have c1:=tq.c1;have f1:=tq.f1);(have hs4:=(za T).se.s4) |(go_at_call 62;refine (Zy (n:=(Pro.zl L len (n+1)).n) _ 4 _ _ rfl (by exact za T)).mono ?_;rintro e wq ⟨v,rfl,hv,tq⟩;have T:=zb tq;have c1:=tq.c1;have f1:=tq.f1))
     go_ret
     rw [za HO]
     exact ⟨(za T0).join (za T),.inr ⟨(show (4:Nat)≠0 by decide),_,rfl,hv.base hsz⟩⟩
   ·have HO:Hid (Pro.xR L len m c n=Pro.zl L len (n+1)):=by unfold Pro.xR;rw [if_neg (by simp [hk]),if_neg hbad];rfl
    have hm0:m=false:=by cases m with |true=>exact absurd (.inl rfl) hbad |false=>rfl
    have hmm:Pro.many L (n+1)=false:=by cases hh:Pro.many L (n+1) with |true=>exact absurd (.inr (.inl hh)) hbad |false=>rfl
    have hge:c≤(Pro.zl L len (n+1)).v:=by by_cases hh:(Pro.zl L len (n+1)).v<c;exact absurd (.inr (.inr hh)) hbad;omega
    subst hm0
    have hX':X = .iface 206 (.int .i32 c):=hX
    clear hX
    subst hX'
    have hv2:oneV false (Pro.zl L len (n+1)).v = .iface 206 (.int .i32 (Pro.zl L len (n+1)).v):=rfl
    have a1:=Tryz.isChar
    clear hbad t hC
    go_enter Tryz.func290,Tryz.ntmps290
    go_wp2_with (first |(go_at_call 94;refine (yg (n:=n) (by exact za T) hL (by omega)).mono ?_;rintro e wq ⟨rfl,qq,rfl⟩) |(go_at_call 288;refine (xG (n:=n+1) (by exact ((za T).drewN _).setN _ _ (by omega)) (y6 b L (n+1) len dp a _ (Trk.rd (n:=n+1) (by exact ((za T).drewN _).setN _ _ (by omega))) (Trk.se (n:=n+1) (by exact ((za T).drewN _).setN _ _ (by omega))) (za T).hb hL (by omega) hF)).mono ?_;rintro e wq ⟨tq,hT⟩;obtain rfl:=zM hT hk;clear hT;have T:=zb tq;have c1:=tq.c1;have f1:=tq.f1);(have hC1:=(za HC).step hbc (za T));(have k1:=hC1.k1);(have q1:=hC1.f1);(have ho1:=hC1.o1);(obtain ⟨sa,sn,sc,rfl⟩:=zp ho1);(have hlc:=hC1.lt);(have HC1:=zb hC1);(clear hC1);(have Ho1:=zb ho1);(clear ho1) |(at_builtin;refine wpList_append_own _ rfl _ _ 208 rfl (cb+1) 364 i0 (.agg #[.int .i32 0,.int .i32 0]) 2 8 Tryz.underlying208 hi hz0 hz1 hz2 rfl (by decide) _ _ _ rfl (World.ownsRow.alloc (za Ho1) _) _ 1 1 [.int .i32 c,.int .i32 (Pro.zl L len (n+1)).v] rfl rfl (cell_two_new _ _ _ _) (fun x hx=>by simp at hx;rcases hx with rfl |rfl<;>rfl) (by unfold maxLen;omega) (by omega) (by simp;omega) ?_;intro v' w8 hown' hgrow hnil;obtain ⟨pa,pn,pc,rfl⟩:=zp hown';have hcs8:=(za HC1).cells ((zd.refl _ _).alloc _) hgrow (za HC1).n1;have HP:=zb ((za HC1).push1 ((zd.refl _ _).alloc _) (World.ownsRow.alloc (za Ho1) _) hgrow hown');clear hown' hgrow hnil;obtain ⟨z1,z2,z3,z4⟩:=hcs8))
    go_ret
    rw [za HO]
    exact ⟨((za T0).join (za T)).push (za HP).2,.inl ⟨hk,rfl,_,_,(za HP).1⟩⟩
  ·have HO:Hid (Pro.xR L len m c n=Pro.zl L len (n+1)):=by unfold Pro.xR;rw [if_pos hk];rfl
   clear t hC
   go_enter Tryz.func290,Tryz.ntmps290
   go_wp2_with (first |(go_at_call 94;refine (yg (n:=n) (by exact za T) hL (by omega)).mono ?_;rintro e wq ⟨rfl,qq,rfl⟩) |(go_at_call 288;refine (xG (n:=n+1) (by exact ((za T).drewN _).setN _ _ (by omega)) (y6 b L (n+1) len dp a _ (Trk.rd (n:=n+1) (by exact ((za T).drewN _).setN _ _ (by omega))) (Trk.se (n:=n+1) (by exact ((za T).drewN _).setN _ _ (by omega))) (za T).hb hL (by omega) hF)).mono ?_;rintro e wq ⟨tq,hT⟩;obtain ⟨v,rfl,hv⟩:=xF hT hk;obtain ⟨gv,hgv⟩:=hv.form;subst hgv;clear hT;have T:=zb tq;have c1:=tq.c1;have f1:=tq.f1);(have hs4:=(za T).se.s4) |(go_at_call 62;refine (Zy (n:=(Pro.zl L len (n+1)).n) _ 4 _ _ rfl (by exact za T)).mono ?_;rintro e wq ⟨v,rfl,hv,tq⟩;have T:=zb tq;have c1:=tq.c1;have f1:=tq.f1))
   go_ret
   rw [za HO]
   exact ⟨(za T0).join (za T),.inr ⟨hk,_,rfl,hv.base hsz⟩⟩
 exact hgen _ rfl
end
end Go.Proofs.YtfnkbmglodopkaaGreatDoor
