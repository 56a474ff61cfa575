/- Kinds: the law's walk. -/
import Derived.Test.YtfnkbmglodopkaaGreatDoorVKnG
namespace Go.Proofs.YtfnkbmglodopkaaGreatDoor
section
open Go.RowKit
set_option maxHeartbeats 16000000
set_option maxRecDepth 1000000
namespace Kn
def uS (d:Nat):ByteArray:=⟨#[92,117,123]⟩++hexS d++⟨#[125]⟩
theorem cat_one (d:Nat):⟨#[94]⟩++uS d++⟨#[36]⟩=Pro.triS aOne (hexS d) bOne:=by
 have ea:aOne=⟨#[94]⟩++⟨#[92,117,123]⟩:=by decide +kernel
 have eb:bOne=⟨#[125]⟩++⟨#[36]⟩:=by decide +kernel
 unfold Pro.triS uS
 rw [ea,eb]
 simp only [ByteArray.append_assoc]
theorem cat_not (d:Nat):⟨#[94,91,94]⟩++uS d++⟨#[93,36]⟩=Pro.triS aNot (hexS d) bNot:=by
 have ea:aNot=⟨#[94,91,94]⟩++⟨#[92,117,123]⟩:=by decide +kernel
 have eb:bNot=⟨#[125]⟩++⟨#[93,36]⟩:=by decide +kernel
 unfold Pro.triS uS
 rw [ea,eb]
 simp only [ByteArray.append_assoc]
theorem cat_up (d:Nat):⟨#[94,91,92,48,45]⟩++uS d++⟨#[93,36]⟩=Pro.triS aUp (hexS d) bNot:=by
 have ea:aUp=⟨#[94,91,92,48,45]⟩++⟨#[92,117,123]⟩:=by decide +kernel
 have eb:bNot=⟨#[125]⟩++⟨#[93,36]⟩:=by decide +kernel
 unfold Pro.triS uS
 rw [ea,eb]
 simp only [ByteArray.append_assoc]
theorem cat_from (d:Nat):⟨#[94,91]⟩++uS d++⟨#[45,92,117,123,49,48,70,70,70,70,125,93,36]⟩=Pro.triS aFr (hexS d) bFr:=by
 have ea:aFr=⟨#[94,91]⟩++⟨#[92,117,123]⟩:=by decide +kernel
 have eb:bFr=⟨#[125]⟩++⟨#[45,92,117,123,49,48,70,70,70,70,125,93,36]⟩:=by decide +kernel
 unfold Pro.triS uS
 rw [ea,eb]
 simp only [ByteArray.append_assoc]
theorem u_size {d:Nat}(h:d≤1114111):(uS d).size≤10:=by
 have:=hex_six h
 unfold uS
 rw [ByteArray.size_append,ByteArray.size_append]
 show 3+_+1≤_
 omega
end Kn
theorem kindsLaw (c d:Int)(w:World)(a:Nat→Addr)(hB:wd w a w.heap.size)(_:-9223372036854775808≤c)(_:c≤9223372036854775807)(_:-9223372036854775808≤d)(_:d≤9223372036854775807) :
  Calls Tryz.prog 9 #[.int .i64 c,.int .i64 d] w fun x w'=>x = .returned (.bool true)∧ze (fun _=>False) w w':=by
 have HB:=zc hB
 have HSu:=zc (wg w a _ hB)
 have HCh:=zc Xc
 clear hB
 by_cases hd:Kc.isCharB d=true
 ·by_cases hc:Kc.isCharB c=true
  ·have hd2:=hd
   have hc2:=hc
   unfold Kc.isCharB at hd2 hc2
   simp at hd2 hc2
   obtain ⟨n,rfl⟩:∃ n:Nat,d=(n:Int):=⟨d.toNat,by omega⟩
   have hn:n≤1114111:=by omega
   have H:=zc (fun (p:ByteArray) (b:Bool) (h:Hits p (Kc.encS c)↔b=true) (V:World) (hV:ze (fun _=>False) w V)=>zdI h V a w.heap.size ((zb HB).keep hV (fun _ f=>f.elim)))
   have M1:=zc (zb H _ _ (Kn.hitPd hc))
   have M2:=zc (zb H _ _ (Kn.hitPD hc))
   have M3:=zc (zb H _ _ (Kn.hitPNd hc))
   have M4:=zc (zb H _ _ (Kn.hitPCD hc))
   have M5:=zc (zb H _ _ (Kn.hitPw hc))
   have M6:=zc (zb H _ _ (Kn.hitPW hc))
   have M7:=zc (zb H _ _ (Kn.hitPNw hc))
   have M8:=zc (zb H _ _ (Kn.hitPb hc))
   have M9:=zc (zb H _ _ (Kn.hitPs hc))
   have M10:=zc (zb H _ _ (Kn.hitPS hc))
   have M11:=zc (zb H _ _ (Kn.hitPCS hc))
   have M12:=zc (zb H _ _ (Kn.hitPA hc))
   have M13:=zc (zb H _ _ (Kn.hitPAll hc))
   have M14:=zc (zb H _ _ (Kn.hit0 hc))
   have M15:=zc (zb H _ (c == (n:Int)) ((Kn.hitOne hn hc).trans (by simp)))
   have M16:=zc (zb H _ (c != (n:Int)) ((Kn.hitNot hn hc).trans (by simp)))
   have M17:=zc (zb H _ _ (Kn.hitUp hn hc))
   have M18:=zc (zb H _ _ (Kn.hitFrom hn hc))
   have HEn:=zc (fun V=>ZY c V hc2.1.1 hc2.1.2)
   have HHx:=zc (zdL n hn)
   have HDg:=zc (zdB c)
   have HWd:=zc (zdT c)
   have HBl:=zc (zdN c)
   have HLn:=zc (zdM c)
   have h6:=Kn.hex_six hn
   have hu:=Kn.u_size hn
   generalize hE:Kc.encS c=E at *
   generalize Kn.dgB c=dg at *
   generalize Kn.wdB c=wd at *
   generalize Kn.blB c=bl at *
   generalize Kn.lnB c=ln at *
   obtain ⟨U0,hU0⟩:∃ U,U=⟨#[92,117,123]⟩++Kn.hexS n:=⟨_,rfl⟩
   obtain ⟨U,hU⟩:∃ U,U=Kn.uS n:=⟨_,rfl⟩
   have hz0:U0.size≤9:=by rw [hU0,ByteArray.size_append];show 3+_≤_;omega
   have hz:U.size≤10:=by rw [hU];exact hu
   obtain ⟨U1,hU1⟩:∃ V,V=⟨#[94]⟩++U:=⟨_,rfl⟩
   obtain ⟨U2,hU2⟩:∃ V,V=⟨#[94,91,94]⟩++U:=⟨_,rfl⟩
   obtain ⟨U3,hU3⟩:∃ V,V=⟨#[94,91,92,48,45]⟩++U:=⟨_,rfl⟩
   obtain ⟨U4,hU4⟩:∃ V,V=⟨#[94,91]⟩++U:=⟨_,rfl⟩
   have z1:U1.size≤20:=by rw [hU1,ByteArray.size_append];show 1+_≤_;omega
   have z2:U2.size≤20:=by rw [hU2,ByteArray.size_append];show 3+_≤_;omega
   have z3:U3.size≤20:=by rw [hU3,ByteArray.size_append];show 5+_≤_;omega
   have z4:U4.size≤20:=by rw [hU4,ByteArray.size_append];show 2+_≤_;omega
   have k1:∀ V:World,(Op.stringOp .add ⟨#[92,117,123]⟩ (Kn.hexS n)).run Tryz.prog V = .ok (.string U0) V:=fun V=>by rw [hU0];exact run_string_add_sum V _ _ (by show 3+_≤_;omega)
   have k2:∀ V:World,(Op.stringOp .add U0 ⟨#[125]⟩).run Tryz.prog V = .ok (.string U) V:=fun V=>by rw [hU];unfold Kn.uS;rw [←hU0];exact run_string_add_sum V _ _ (by show _+1≤_;omega)
   have k3:∀ V:World,(Op.stringOp .add ⟨#[94]⟩ U).run Tryz.prog V = .ok (.string U1) V:=fun V=>by rw [hU1];exact run_string_add_sum V _ _ (by show 1+_≤_;omega)
   have k4:∀ V:World,(Op.stringOp .add U1 ⟨#[36]⟩).run Tryz.prog V = .ok (.string (Pro.triS Kn.aOne (Kn.hexS n) Kn.bOne)) V:=fun V=>by rw [←Kn.cat_one,←hU,←hU1];exact run_string_add_sum V _ _ (by show _+1≤_;omega)
   have k5:∀ V:World,(Op.stringOp .add ⟨#[94,91,94]⟩ U).run Tryz.prog V = .ok (.string U2) V:=fun V=>by rw [hU2];exact run_string_add_sum V _ _ (by show 3+_≤_;omega)
   have k6:∀ V:World,(Op.stringOp .add U2 ⟨#[93,36]⟩).run Tryz.prog V = .ok (.string (Pro.triS Kn.aNot (Kn.hexS n) Kn.bNot)) V:=fun V=>by rw [←Kn.cat_not,←hU,←hU2];exact run_string_add_sum V _ _ (by show _+2≤_;omega)
   have k7:∀ V:World,(Op.stringOp .add ⟨#[94,91,92,48,45]⟩ U).run Tryz.prog V = .ok (.string U3) V:=fun V=>by rw [hU3];exact run_string_add_sum V _ _ (by show 5+_≤_;omega)
   have k8:∀ V:World,(Op.stringOp .add U3 ⟨#[93,36]⟩).run Tryz.prog V = .ok (.string (Pro.triS Kn.aUp (Kn.hexS n) Kn.bNot)) V:=fun V=>by rw [←Kn.cat_up,←hU,←hU3];exact run_string_add_sum V _ _ (by show _+2≤_;omega)
   have k9:∀ V:World,(Op.stringOp .add ⟨#[94,91]⟩ U).run Tryz.prog V = .ok (.string U4) V:=fun V=>by rw [hU4];exact run_string_add_sum V _ _ (by show 2+_≤_;omega)
   have k10:∀ V:World,(Op.stringOp .add U4 ⟨#[45,92,117,123,49,48,70,70,70,70,125,93,36]⟩).run Tryz.prog V = .ok (.string (Pro.triS Kn.aFr (Kn.hexS n) Kn.bFr)) V:=fun V=>by rw [←Kn.cat_from,←hU,←hU4];exact run_string_add_sum V _ _ (by show _+13≤_;omega)
   have g1:(dg != dg)=false:=by simp
   have g2:((!dg) == dg)=false:=by cases dg<;>rfl
   have g3:(wd != wd)=false:=by simp
   have g4:((!wd) == wd)=false:=by cases wd<;>rfl
   have g5:(bl != bl)=false:=by simp
   have g6:((!bl) == bl)=false:=by cases bl<;>rfl
   have g7:((!ln) == ln)=false:=by cases ln<;>rfl
   have HCc:Hid (Kc.isCharB c=true):=hc
   have HCd:Hid (Kc.isCharB (n:Int)=true):=hd
   clear H h6 hu hE hU0 hU hU1 hU2 hU3 hU4 hz0 hz z1 z2 z3 z4 hc hd hc2 hd2 hn
   go_enter Tryz.func9,Tryz.ntmps9
   go_wp2_with (go_at_call 14;refine (zb HSu).mono ?_;rintro e w1 ⟨rfl,hO1⟩;refine zb ?_)
   refine zc ?_
   have HO1:=zc hO1
   clear hO1 HSu
   have HI1:Hid (Calls Tryz.prog 27 #[.int .i64 c] w1 fun x w'=>x = .returned (.bool true)∧w'=w1):=by have h:=zb HCh c w1;rw [zb HCc] at h;exact h
   have HI2:Hid (Calls Tryz.prog 27 #[.int .i64 (n:Int)] w1 fun x w'=>x = .returned (.bool true)∧w'=w1):=by have h:=zb HCh (n:Int) w1;rw [zb HCd] at h;exact h
   clear HCh HCc HCd
   go_wp2_with (go_at_call 27;refine (zb HI1).mono ?_;rintro e wq ⟨rfl,hwq⟩;obtain rfl:=hwq.symm;clear hwq;refine zb ?_)
   refine zc ?_
   clear HI1
   go_wp2_with (go_at_call 27;refine (zb HI2).mono ?_;rintro e wq ⟨rfl,hwq⟩;obtain rfl:=hwq.symm;clear hwq;refine zb ?_)
   refine zc ?_
   clear HI2
   go_wp2_with (go_at_call 28;refine (zb HEn w1).mono ?_;rintro e w2 ⟨rfl,hO2⟩;refine zb ?_)
   refine zc ?_
   have HO2:=zc ((zb HO1).trans hO2)
   clear hO2 HO1 HEn
   go_wp2_with (go_at_call 29;refine (zb HDg w2).mono ?_;rintro e wq ⟨rfl,hwq⟩;obtain rfl:=hwq.symm;clear hwq;refine zb ?_)
   refine zc ?_
   go_wp2_with (go_at_call 30;refine (zb HWd w2).mono ?_;rintro e wq ⟨rfl,hwq⟩;obtain rfl:=hwq.symm;clear hwq;refine zb ?_)
   refine zc ?_
   go_wp2_with (go_at_call 31;refine (zb HBl w2).mono ?_;rintro e wq ⟨rfl,hwq⟩;obtain rfl:=hwq.symm;clear hwq;refine zb ?_)
   refine zc ?_
   go_wp2_with (go_at_call 32;refine (zb HLn w2).mono ?_;rintro e wq ⟨rfl,hwq⟩;obtain rfl:=hwq.symm;clear hwq;refine zb ?_)
   refine zc ?_
   clear HDg HWd HBl HLn
   go_wp2_with (go_at_call 33;refine (zb M1 w2 (zb HO2)).mono ?_;rintro e w3 ⟨rfl,hO3⟩;refine zb ?_)
   refine zc ?_
   have HO3:=zc ((zb HO2).trans hO3)
   clear hO3 HO2 M1
   go_wp2_with (go_at_call 33;refine (zb M2 w3 (zb HO3)).mono ?_;rintro e w4 ⟨rfl,hO4⟩;refine zb ?_)
   refine zc ?_
   have HO4:=zc ((zb HO3).trans hO4)
   clear hO4 HO3 M2
   go_wp2_with (go_at_call 33;refine (zb M3 w4 (zb HO4)).mono ?_;rintro e w5 ⟨rfl,hO5⟩;refine zb ?_)
   refine zc ?_
   have HO5:=zc ((zb HO4).trans hO5)
   clear hO5 HO4 M3
   go_wp2_with (go_at_call 33;refine (zb M4 w5 (zb HO5)).mono ?_;rintro e w6 ⟨rfl,hO6⟩;refine zb ?_)
   refine zc ?_
   have HO6:=zc ((zb HO5).trans hO6)
   clear hO6 HO5 M4
   go_wp2_with (go_at_call 33;refine (zb M5 w6 (zb HO6)).mono ?_;rintro e w7 ⟨rfl,hO7⟩;refine zb ?_)
   refine zc ?_
   have HO7:=zc ((zb HO6).trans hO7)
   clear hO7 HO6 M5
   go_wp2_with (go_at_call 33;refine (zb M6 w7 (zb HO7)).mono ?_;rintro e w8 ⟨rfl,hO8⟩;refine zb ?_)
   refine zc ?_
   have HO8:=zc ((zb HO7).trans hO8)
   clear hO8 HO7 M6
   go_wp2_with (go_at_call 33;refine (zb M7 w8 (zb HO8)).mono ?_;rintro e w9 ⟨rfl,hO9⟩;refine zb ?_)
   refine zc ?_
   have HO9:=zc ((zb HO8).trans hO9)
   clear hO9 HO8 M7
   go_wp2_with (go_at_call 33;refine (zb M8 w9 (zb HO9)).mono ?_;rintro e w10 ⟨rfl,hO10⟩;refine zb ?_)
   refine zc ?_
   have HO10:=zc ((zb HO9).trans hO10)
   clear hO10 HO9 M8
   go_wp2_with (go_at_call 33;refine (zb M9 w10 (zb HO10)).mono ?_;rintro e w11 ⟨rfl,hO11⟩;refine zb ?_)
   refine zc ?_
   have HO11:=zc ((zb HO10).trans hO11)
   clear hO11 HO10 M9
   go_wp2_with (go_at_call 33;refine (zb M10 w11 (zb HO11)).mono ?_;rintro e w12 ⟨rfl,hO12⟩;refine zb ?_)
   refine zc ?_
   have HO12:=zc ((zb HO11).trans hO12)
   clear hO12 HO11 M10
   go_wp2_with (go_at_call 33;refine (zb M11 w12 (zb HO12)).mono ?_;rintro e w13 ⟨rfl,hO13⟩;refine zb ?_)
   refine zc ?_
   have HO13:=zc ((zb HO12).trans hO13)
   clear hO13 HO12 M11
   go_wp2_with (go_at_call 33;refine (zb M12 w13 (zb HO13)).mono ?_;rintro e w14 ⟨rfl,hO14⟩;refine zb ?_)
   refine zc ?_
   have HO14:=zc ((zb HO13).trans hO14)
   clear hO14 HO13 M12
   go_wp2_with (go_at_call 33;refine (zb M13 w14 (zb HO14)).mono ?_;rintro e w15 ⟨rfl,hO15⟩;refine zb ?_)
   refine zc ?_
   have HO15:=zc ((zb HO14).trans hO15)
   clear hO15 HO14 M13
   go_wp2_with (go_at_call 33;refine (zb M14 w15 (zb HO15)).mono ?_;rintro e w16 ⟨rfl,hO16⟩;refine zb ?_)
   refine zc ?_
   have HO16:=zc ((zb HO15).trans hO16)
   clear hO16 HO15 M14
   go_wp2_with (go_at_call 34;refine (zb HHx w16).mono ?_;rintro e w17 ⟨rfl,hO17⟩;refine zb ?_)
   refine zc ?_
   have HO17:=zc ((zb HO16).trans hO17)
   clear hO17 HO16 HHx
   go_wp2_with (go_at_call 33;refine (zb M15 w17 (zb HO17)).mono ?_;rintro e w18 ⟨rfl,hO18⟩;refine zb ?_)
   refine zc ?_
   have HO18:=zc ((zb HO17).trans hO18)
   clear hO18 HO17 M15
   go_wp2_with (go_at_call 33;refine (zb M16 w18 (zb HO18)).mono ?_;rintro e w19 ⟨rfl,hO19⟩;refine zb ?_)
   refine zc ?_
   have HO19:=zc ((zb HO18).trans hO19)
   clear hO19 HO18 M16
   go_wp2_with (go_at_call 33;refine (zb M17 w19 (zb HO19)).mono ?_;rintro e w20 ⟨rfl,hO20⟩;refine zb ?_)
   refine zc ?_
   have HO20:=zc ((zb HO19).trans hO20)
   clear hO20 HO19 M17
   go_wp2_with (go_at_call 33;refine (zb M18 w20 (zb HO20)).mono ?_;rintro e w21 ⟨rfl,hO21⟩;have HO21:=zc ((zb HO20).trans hO21);clear hO21)
   all_goals go_ret
   all_goals exact ⟨by first |rfl |simp,zb HO21⟩
  ·have hc':Kc.isCharB c=false:=by simpa using hc
   go_enter Tryz.func9,Tryz.ntmps9
   go_wp2_with (go_at_call 14;refine (zb HSu).mono ?_;rintro e w1 ⟨rfl,hO1⟩;refine zb ?_)
   refine zc ?_
   have HO1:=zc hO1
   have HI1:Hid (Calls Tryz.prog 27 #[.int .i64 c] w1 fun x w'=>x = .returned (.bool false)∧w'=w1):=by have h:=zb HCh c w1;rw [hc'] at h;exact h
   have HI2:=zc (zb HCh d w1)
   clear hO1 hc hc' HSu hd
   generalize Kc.isCharB d=b at *
   go_wp2_with (go_at_call 27;refine (zb HI1).mono ?_;rintro e wq ⟨rfl,hwq⟩;obtain rfl:=hwq.symm;clear hwq;refine zb ?_)
   refine zc ?_
   go_wp2_with (go_at_call 27;refine (zb HI2).mono ?_;rintro e wq ⟨rfl,hwq⟩;obtain rfl:=hwq.symm;clear hwq;refine zb ?_)
   refine zc ?_
   go_wp2_with fail
   all_goals go_ret
   all_goals exact ⟨rfl,zb HO1⟩
 ·have hd':Kc.isCharB d=false:=by simpa using hd
  go_enter Tryz.func9,Tryz.ntmps9
  go_wp2_with (go_at_call 14;refine (zb HSu).mono ?_;rintro e w1 ⟨rfl,hO1⟩;refine zb ?_)
  refine zc ?_
  have HO1:=zc hO1
  have HI1:=zc (zb HCh c w1)
  have HI2:Hid (Calls Tryz.prog 27 #[.int .i64 d] w1 fun x w'=>x = .returned (.bool false)∧w'=w1):=by have h:=zb HCh d w1;rw [hd'] at h;exact h
  clear hO1 hd hd' HSu
  generalize Kc.isCharB c=b at *
  go_wp2_with (go_at_call 27;refine (zb HI1).mono ?_;rintro e wq ⟨rfl,hwq⟩;obtain rfl:=hwq.symm;clear hwq;refine zb ?_)
  refine zc ?_
  go_wp2_with (go_at_call 27;refine (zb HI2).mono ?_;rintro e wq ⟨rfl,hwq⟩;obtain rfl:=hwq.symm;clear hwq;refine zb ?_)
  refine zc ?_
  cases b
  all_goals go_wp2_with fail
  all_goals go_ret
  all_goals exact ⟨rfl,zb HO1⟩
end
end Go.Proofs.YtfnkbmglodopkaaGreatDoor
