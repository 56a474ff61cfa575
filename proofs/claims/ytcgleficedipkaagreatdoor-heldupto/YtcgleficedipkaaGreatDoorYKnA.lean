/- The law's own matches: what it tells of any two texts. -/
import Derived.Test.YtcgleficedipkaaGreatDoorYLocAMeaA
namespace Go.Proofs.YtcgleficedipkaaGreatDoor
section
open Go.RowKit
open Sm (Stp Tree capT)
set_option maxHeartbeats 4000000
set_option maxRecDepth 1000000
def Hits (p s:ByteArray):Prop:=qD p∧Kc.textB s=true∧∃ i j,i≤(Ref.zo s).1.length∧j≤(Ref.zo s).1.length∧Mng s (Pro.zE p) i j
def HitsOut (p s:ByteArray)(x:Ending):Prop:=∃ b:Bool,x = .returned (.bool b)∧(b=true↔Hits p s)
theorem zdF (p s:ByteArray)(w:World)(a:Nat→Addr)(base:Nat)(hB:wd w a base) :
  Calls Tryz.prog 13 #[.string p,.string s] w fun x w'=>HitsOut p s x∧ze (fun _=>False) w w':=by
 have HB:=zc hB
 have HTk:=zc (Z5 p w a hB.st)
 clear hB
 go_enter Tryz.func13,Tryz.ntmps13
 go_wp2_with (go_at_call 10;refine zb ?_)
 refine zc ?_
 refine (zb HTk).mono ?_
 rintro x w1 ⟨hO1,⟨rfl,k,q,hF⟩ |⟨hI,g,pb,F,W,cs,rfl,hM⟩⟩
 ·have HO1:=zc hO1
  have HNo:Hid (¬Hits p s):=fun h=>hF.no h.1
  clear hO1 hF HTk
  go_wp2_with fail
  go_ret
  exact ⟨⟨false,rfl,by simp;exact zb HNo⟩,zb HO1⟩
 ·have HO1:=zc hO1
  have HB1:=zc ((zb HB).keep hO1 (fun _ f=>f.elim))
  have HM:=zc hM
  have HI:=zc hI
  have HFi:=zc (Qe g pb _ 3 _ _ W cs _ w1 hM.c (zb HB1).tab (by decide) (by decide))
  clear hO1 hM hI HTk
  go_wp2_with (go_at_call 20;refine (zb HFi).mono ?_;rintro e w2 ⟨fb,sb,mb,rfl,hfb,hsb,hmb,hFd,hO2⟩;refine zb ?_)
  refine zc ?_
  have HF2:=zc (YI fb sb pb mb 3 _ _ _ _ _ W cs [] _ (.slice none 0 0) s [] w2 a ((zb HB1).keep hO2 (fun _ f=>f.elim)).st hFd (.inl ⟨rfl,none,0,rfl⟩) (by simp))
  have HO2:=zc ((zb HO1).trans hO2)
  have hs1:=(zb HO1).size
  clear hFd hO2 HFi
  go_wp2_with (go_at_call 21;refine (zb HF2).mono ?_;rintro e w3 ⟨r1,k1,p1,O1,D1,es1,sv1,rfl,hA1,hFd1,_,hoo1,hdd1,hO3⟩;refine zb ?_)
  refine zc ?_
  have HOz:Hid (ze (fun _=>False) w w3):=(zb HO2).laterO hO3 (fun i hi q=>by have e:i=sb∨i=mb:=q;rcases e with rfl |rfl<;>omega)
  have hlen:=(Prg.yj.of s).len
  rcases zb0 hA1 (zb HM).c.prog.at' with ⟨t1,t2,t3⟩ |⟨t1,t2,t3,t4,t5,t6⟩
  ·have HNo:Hid (¬Hits p s):=fun h=>by have:=h.2.1;rw [t1] at this;cases this
   subst t2
   clear hA1 hFd1 hoo1 hdd1 hO3 HF2 t1 hlen
   rcases t3 with rfl |rfl
   all_goals go_wp2_with fail
   all_goals go_ret
   all_goals exact ⟨⟨false,rfl,by simp;exact zb HNo⟩,zb HOz⟩
  ·have HYe:Hid (r1=true↔Hits p s):=by
    show _↔_
    rw [t6]
    constructor
    ·rintro ⟨i,j,hi,hj,hg⟩
     exact ⟨zb HI,t1,i,j,by omega,by omega,(Kk s (zb HM).wf (zb HM).ask hi).1 hg⟩
    ·rintro ⟨_,_,i,j,hi,hj,hg⟩
     exact ⟨i,j,by omega,by omega,(Kk s (zb HM).wf (zb HM).ask (by omega)).2 hg⟩
   subst t4
   clear hA1 hFd1 hoo1 hdd1 hO3 HF2 t1 t2 t3 t5 t6 hlen
   cases r1
   all_goals go_wp2_with fail
   all_goals go_ret
   ·exact ⟨⟨false,rfl,by simpa using zb HYe⟩,zb HOz⟩
   ·exact ⟨⟨true,rfl,by simpa using zb HYe⟩,zb HOz⟩
end
end Go.Proofs.YtcgleficedipkaaGreatDoor
