/- The program's machine: a character, by labels. -/
import Derived.Test.YtnagphodmfejiaaGreatDoorXTrEChA
import Derived.ScopeJumps
namespace Go.Proofs.YtnagphodmfejiaaGreatDoor
section
open Go.RowKit
set_option maxHeartbeats 4000000
set_option maxRecDepth 1000000
def Exit.jumps (J:Nat→Act→World→Prop)(Q:Exit→Act→World→Prop):Exit→Act→World→Prop
 | .goto l,a,w=>J l a w
 |e,a,w=>Q e a w
theorem Qo {P:Program}{a:Act}{w:World}{Q:Exit→Act→World→Prop}{c:Code}(J:Nat→Act→World→Prop)(μ:Nat→Nat)(rest:Nat→Code)(hf:∀ l a w,J l a w→findLabel c l=some (rest l))
  (first:c.wp P (Exit.jumps J Q) a w)
  (pass:∀ l a w,J l a w→(rest l).wp P (Exit.jumps (fun l' a' w'=>J l' a' w'∧μ l'<μ l) Q) a w):(Code.scope c).wp P Q a w:=by
 intro b k cs
 have hg:∀ l a w,J l a w→gotoIn l (.inScope c :: k)=some (.code (rest l) :: .inScope c :: k):=fun l a w h=>by simp [gotoIn,hf l a w h]
 have key:∀ n l a w,μ l=n→J l a w→∃ e a' w',Q e a' w'∧Arrives P (lone (b.at a (.code (rest l) :: .inScope c :: k)) cs w) b k cs e a' w':=by
  intro n
  induction n using Nat.strongRecOn with
  |_ n ih=>
   intro l a w hn hJ
   obtain ⟨e,a₁,w₁,hq,harr⟩:=pass l a w hJ b (.inScope c :: k) cs
   cases e with
   |normal=>exact ⟨.normal,a₁,w₁,hq,Steps.trans harr (.one step_inScope)⟩
   |exit id=>exact ⟨.exit id,a₁,w₁,hq,fun k' hk=>harr k' (by simp [exitTo,hk])⟩
   |goto l'=>
    obtain ⟨hJ',hlt⟩:=hq
    obtain ⟨e₂,a₂,w₂,hq₂,harr₂⟩:=ih _ (by omega) l' a₁ w₁ rfl hJ'
    exact ⟨e₂,a₂,w₂,hq₂,.of_steps (harr _ (hg l' a₁ w₁ hJ')) harr₂⟩
   |ret=>exact ⟨_,a₁,w₁,hq,harr⟩
   |panic ch=>exact ⟨_,a₁,w₁,hq,harr⟩
   |outgrown=>exact ⟨_,a₁,w₁,hq,harr⟩
 obtain ⟨e,a₁,w₁,hq,harr⟩:=first b (.inScope c :: k) cs
 cases e with
 |normal=>exact ⟨.normal,a₁,w₁,hq,.head step_scope (Steps.trans harr (.one step_inScope))⟩
 |exit id=>exact ⟨.exit id,a₁,w₁,hq,fun k' hk=>.head step_scope (harr k' (by simp [exitTo,hk]))⟩
 |goto l'=>
  obtain ⟨e₂,a₂,w₂,hq₂,harr₂⟩:=key _ l' a₁ w₁ rfl hq
  exact ⟨e₂,a₂,w₂,hq₂,.of_steps (.head step_scope (harr _ (hg l' a₁ w₁ hq))) harr₂⟩
 |ret=>exact ⟨_,a₁,w₁,hq,.of_steps (.one step_scope) harr⟩
 |panic ch=>exact ⟨_,a₁,w₁,hq,.of_steps (.one step_scope) harr⟩
 |outgrown=>exact ⟨_,a₁,w₁,hq,.of_steps (.one step_scope) harr⟩
theorem Xk {P:Program}{a:Act}{w:World}{Q:Exit→Act→World→Prop}{c r0 r1 r2 r3 r4 r5 r6:Code}(J:Nat→Act→World→Prop)(μ:Nat→Nat)
  (h0:findLabel c 0=some r0) (h1:findLabel c 1=some r1) (h2:findLabel c 2=some r2) (h3:findLabel c 3=some r3) (h4:findLabel c 4=some r4) (h5:findLabel c 5=some r5) (h6:findLabel c 6=some r6)
  (hJ:∀ l a w,J l a w→l≤6) (first:c.wp P (Exit.jumps J Q) a w)
  (p0:∀ a w,J 0 a w→r0.wp P (Exit.jumps (fun l' a' w'=>J l' a' w'∧μ l'<μ 0) Q) a w) (p1:∀ a w,J 1 a w→r1.wp P (Exit.jumps (fun l' a' w'=>J l' a' w'∧μ l'<μ 1) Q) a w)
  (p2:∀ a w,J 2 a w→r2.wp P (Exit.jumps (fun l' a' w'=>J l' a' w'∧μ l'<μ 2) Q) a w) (p3:∀ a w,J 3 a w→r3.wp P (Exit.jumps (fun l' a' w'=>J l' a' w'∧μ l'<μ 3) Q) a w)
  (p4:∀ a w,J 4 a w→r4.wp P (Exit.jumps (fun l' a' w'=>J l' a' w'∧μ l'<μ 4) Q) a w) (p5:∀ a w,J 5 a w→r5.wp P (Exit.jumps (fun l' a' w'=>J l' a' w'∧μ l'<μ 5) Q) a w)
  (p6:∀ a w,J 6 a w→r6.wp P (Exit.jumps (fun l' a' w'=>J l' a' w'∧μ l'<μ 6) Q) a w):(Code.scope c).wp P Q a w:=by
 have hcs:∀ l,l≤6→l=0∨l=1∨l=2∨l=3∨l=4∨l=5∨l=6:=fun l h=>by omega
 refine Qo J μ (fun l=>match l with
  |0=>r0
  |1=>r1
  |2=>r2
  |3=>r3
  |4=>r4
  |5=>r5
  |_=>r6) ?_ first ?_
 ·intro l a w h
  rcases hcs l (hJ l a w h) with rfl |rfl |rfl |rfl |rfl |rfl |rfl
  ·exact h0
  ·exact h1
  ·exact h2
  ·exact h3
  ·exact h4
  ·exact h5
  ·exact h6
 ·intro l a w h
  rcases hcs l (hJ l a w h) with rfl |rfl |rfl |rfl |rfl |rfl |rfl
  ·exact p0 a w h
  ·exact p1 a w h
  ·exact p2 a w h
  ·exact p3 a w h
  ·exact p4 a w h
  ·exact p5 a w h
  ·exact p6 a w h
namespace Pro
section
variable (s:ByteArray)
def oneM (nx:Nat)(ch:Int):Option (Nat×Int):=if xA s nx 128 191=true then some (nx+1,ch*64+zd s nx-128) else none
def twoM (nx:Nat)(ch:Int):Option (Nat×Int):=if xA s nx 128 191=true then oneM s (nx+1) (ch*64+zd s nx-128) else none
def kr (lo hi:Int)(nx:Nat)(ch:Int):Option (Nat×Int):=if xA s nx lo hi=true then oneM s (nx+1) (ch*64+zd s nx-128) else none
def qH (lo hi:Int)(nx:Nat)(ch:Int):Option (Nat×Int):=if xA s nx lo hi=true then twoM s (nx+1) (ch*64+zd s nx-128) else none
def atLab (l:Nat)(nx:Nat)(ch:Int):Option (Nat×Int):=match l with
 |0=>oneM s nx ch
 |1=>kr s 160 191 nx ch
 |2=>kr s 128 159 nx ch
 |3=>twoM s nx ch
 |4=>qH s 144 191 nx ch
 |5=>qH s 128 191 nx ch
 |_=>qH s 128 143 nx ch
def yJ (b:Int):Nat:=if b<128 then 7 else if b<194 then 8 else if b<224 then 0 else if b=224 then 1 else if b=237 then 2 else if b<240 then 3 else if b=240 then 4 else if b<244 then 5 else if b=244 then 6 else 8
def yw (p:Nat):Option (Nat×Int):=
 if p<s.size then (if yJ (zd s p)=7 then some (p+1,zd s p) else if yJ (zd s p)=8 then none else atLab s (yJ (zd s p)) (p+1) (yI (zd s p))) else none
end
end Pro
def LabAt (b:Nat)(s:ByteArray)(p:Nat)(w:World)(l:Nat)(a':Act)(w':World):Prop:=l≤6∧(∃ (nx:Nat) (ch:Int),MacAt w' b s nx p ch∧0≤ch∧ch<(if l=0 then 33554432 else if l≤3 then 524288 else 8192)∧nx≤s.size∧Pro.yw s p=Pro.atLab s l nx ch)∧Only (zl b) w w'∧
 ∃ u1 u2 u3 u4 u5 u6 u7 u8 u9 u10 u11 u12 u13 u14 u15 u16 u17 u18 u19 u20 u21 u22 u23 u24 u25 u26 u27 u28 u29 u30 u31 u32 u33 u34 u35 u36 u37 u38 u39 u40 u41 u42 u43 u44 u45 u46 u47 u48 u49 u50 u51 u52 u53 u54 u55 u56 u57 u58 u59 u60 u61 u62 u63:Value,a' = { tmps:=#[.pointer (some ⟨b,0,none⟩),u1,u2,u3,u4,u5,u6,u7,u8,u9,u10,u11,u12,u13,u14,u15,u16,u17,u18,u19,u20,u21,u22,u23,u24,u25,u26,u27,u28,u29,u30,u31,u32,u33,u34,u35,u36,u37,u38,u39,u40,u41,u42,u43,u44,u45,u46,u47,u48,u49,u50,u51,u52,u53,u54,u55,u56,u57,u58,u59,u60,u61,u62,u63],defers:=[] }
theorem xo {J:Nat→Act→World→Prop}{Q:Exit→Act→World→Prop}{a:Act}{w:World}:Exit.jumps J Q .ret a w=Q .ret a w:=rfl
theorem Zd {t:Bool}{x y z:Ending}{A B:Prop}(h:(t=true∧x=y∧A)∨(t=false∧x=z∧B))(ht:t=true):x=y∧A:=by
 rcases h with ⟨_,h⟩ |⟨h,_⟩
 ·exact h
 ·rw [ht] at h;cases h
theorem Ze {t:Bool}{x y z:Ending}{A B:Prop}(h:(t=true∧x=y∧A)∨(t=false∧x=z∧B))(ht:t=false):x=z:=by
 rcases h with ⟨h,_⟩ |⟨_,h,_⟩
 ·rw [ht] at h;cases h
 ·exact h
namespace Pro
theorem Yy {s:ByteArray}{p:Nat}(h:p<s.size)(hl:zd s p<128):yw s p=some (p+1,yI (zd s p)):=by
 have e:yJ (zd s p)=7:=by unfold yJ;rw [if_pos hl]
 have e2:yI (zd s p)=zd s p:=by unfold yI;rw [if_pos hl]
 unfold yw;rw [if_pos h,if_pos e,e2]
theorem jc {s:ByteArray}{p:Nat}(hl:yJ (zd s p)=8):yw s p=none:=by
 unfold yw;rw [hl];simp
theorem yO {s:ByteArray}{p l:Nat}(h:p<s.size)(hl:yJ (zd s p)=l)(h7:l≤6):yw s p=atLab s l (p+1) (yI (zd s p)):=by
 subst hl
 unfold yw;rw [if_pos h,if_neg (by omega),if_neg (by omega)]
theorem jR {s:ByteArray}{nx:Nat}{lo hi:Int}(h:xA s nx lo hi=true):nx<s.size:=by unfold xA at h;simp at h;exact h.1.1
theorem jS {s:ByteArray}{nx:Nat}{lo hi:Int}(h:xA s nx lo hi=true):lo≤zd s nx∧zd s nx≤hi:=by unfold xA at h;simp at h;exact ⟨h.1.2,h.2⟩
theorem jd {b:Int}(h0:128≤b)(h1:b<256):0≤yI b∧yI b<32:=by unfold yI;(repeat' split)<;>omega
end Pro
def labM (l:Nat):Nat:=if l=0 then 0 else if l≤3 then 1 else 2
theorem Kb (b:Nat)(s:ByteArray)(nx p:Nat)(ch:Int)(w:World)(h:MacAt w b s nx p ch)(hs:s.size≤400)(hn:nx≤s.size) :
  Calls Tryz.prog 137 #[.pointer (some ⟨b,0,none⟩)] w fun x w'=>Only (zl b) w w'∧((∃ n c,Pro.yw s nx=some (n,c)∧x = .returned (.bool true)∧MacAt w' b s n nx c)∨(Pro.yw s nx=none∧x = .returned (.bool false))):=by
 have H:=ze h
 have c0:=h.c0
 have c1:=h.c1
 have c2:=h.c2
 have f2:=h.f2
 clear h
 go_enter Tryz.func137,Tryz.ntmps137
 go_wp2_with fail
 refine Xk (LabAt b s nx w) labM rfl rfl rfl rfl rfl rfl rfl (fun l a w h=>h.1) ?_ ?_ ?_ ?_ ?_ ?_ ?_ ?_
 case refine_1=>
  by_cases hlt:nx<s.size
  ·have he:((nx:Int) == (s.size:Int))=false:=by simp;omega
   have hb0:=(zw s nx).2 hlt
   have hb1:=ye s nx
   have hcs:(zd s nx<128)∨(128≤zd s nx∧zd s nx<194)∨(194≤zd s nx∧zd s nx<224)∨(zd s nx=224)∨(zd s nx=237)∨(225≤zd s nx∧zd s nx<240∧zd s nx≠237)∨(zd s nx=240)∨(241≤zd s nx∧zd s nx<244)∨(zd s nx=244)∨(245≤zd s nx):=by omega
   rcases hcs with hc |hc |hc |hc |hc |hc |hc |hc |hc |hc
   ·have t0:zd s nx<128:=by omega
    clear hc
    go_wp2_with fail
    go_quiet (fail)
    go_wp2_with (go_at_call 172;refine (qE b s nx nx ch _ (by first |exact ((zb H).set2 nx _ rfl).drewN _ |exact (zb H).set2 nx _ rfl) hs hlt).mono ?_;rintro e w1 ⟨rfl,hm1,hO1⟩;have HM1:=ze hm1;have HO1:Hid (Only (zl b) w w1):=by first |exact (((Only.refl (zl b) w).mine 2 _).drewN _).trans hO1 |exact (((Only.refl (zl b) w).drewN _).mine 2 _).trans hO1 |exact ((Only.refl (zl b) w).mine 2 _).trans hO1;clear hm1 hO1)
    rw [xo]
    go_ret
    exact ⟨zb HO1,.inl ⟨nx+1,Pro.yI (zd s nx),Pro.Yy hlt (by omega),rfl,zb HM1⟩⟩
   ·have t0:128≤zd s nx:=by omega
    have t1:zd s nx<194:=by omega
    have hl:Hid (Pro.yJ (zd s nx)=8):=ze (by unfold Pro.yJ;(repeat' split)<;>omega)
    clear hc
    go_wp2_with fail
    go_quiet (fail)
    go_wp2_with (go_at_call 172;refine (qE b s nx nx ch _ (by first |exact ((zb H).set2 nx _ rfl).drewN _ |exact (zb H).set2 nx _ rfl) hs hlt).mono ?_;rintro e w1 ⟨rfl,hm1,hO1⟩;have HM1:=ze hm1;have HO1:Hid (Only (zl b) w w1):=by first |exact (((Only.refl (zl b) w).mine 2 _).drewN _).trans hO1 |exact (((Only.refl (zl b) w).drewN _).mine 2 _).trans hO1 |exact ((Only.refl (zl b) w).mine 2 _).trans hO1;clear hm1 hO1)
    rw [xo]
    go_ret
    exact ⟨zb HO1,.inr ⟨Pro.jc (zb hl),rfl⟩⟩
   ·have t0:128≤zd s nx:=by omega
    have t1:194≤zd s nx:=by omega
    have t2:zd s nx<224:=by omega
    have hl:Hid (Pro.yJ (zd s nx)=0):=ze (by unfold Pro.yJ;(repeat' split)<;>omega)
    clear hc
    go_wp2_with fail
    go_quiet (fail)
    go_wp2_with (go_at_call 172;refine (qE b s nx nx ch _ (by first |exact ((zb H).set2 nx _ rfl).drewN _ |exact (zb H).set2 nx _ rfl) hs hlt).mono ?_;rintro e w1 ⟨rfl,hm1,hO1⟩;have HM1:=ze hm1;have HO1:Hid (Only (zl b) w w1):=by first |exact (((Only.refl (zl b) w).mine 2 _).drewN _).trans hO1 |exact (((Only.refl (zl b) w).drewN _).mine 2 _).trans hO1 |exact ((Only.refl (zl b) w).mine 2 _).trans hO1;clear hm1 hO1)
    go_step3
    have hle:=Pro.jd (b:=zd s nx) (by omega) (by omega)
    exact ⟨by decide,⟨nx+1,Pro.yI (zd s nx),zb HM1,hle.1,(show Pro.yI (zd s nx)<33554432 by omega),by omega,Pro.yO hlt (zb hl) (by decide)⟩,zb HO1,_,_,_,_,_,_,_,_,_,_,_,_,_,_,_,_,_,_,_,_,_,_,_,_,_,_,_,_,_,_,_,_,_,_,_,_,_,_,_,_,_,_,_,_,_,_,_,_,_,_,_,_,_,_,_,_,_,_,_,_,_,_,_,rfl⟩
   ·have t0:128≤zd s nx:=by omega
    have t1:194≤zd s nx:=by omega
    have t2:224≤zd s nx:=by omega
    have t3:(zd s nx == 224)=true:=by simp;omega
    have hl:Hid (Pro.yJ (zd s nx)=1):=ze (by unfold Pro.yJ;(repeat' split)<;>omega)
    clear hc
    go_wp2_with fail
    go_quiet (fail)
    go_wp2_with (go_at_call 172;refine (qE b s nx nx ch _ (by first |exact ((zb H).set2 nx _ rfl).drewN _ |exact (zb H).set2 nx _ rfl) hs hlt).mono ?_;rintro e w1 ⟨rfl,hm1,hO1⟩;have HM1:=ze hm1;have HO1:Hid (Only (zl b) w w1):=by first |exact (((Only.refl (zl b) w).mine 2 _).drewN _).trans hO1 |exact (((Only.refl (zl b) w).drewN _).mine 2 _).trans hO1 |exact ((Only.refl (zl b) w).mine 2 _).trans hO1;clear hm1 hO1)
    go_step3
    have hle:=Pro.jd (b:=zd s nx) (by omega) (by omega)
    exact ⟨by decide,⟨nx+1,Pro.yI (zd s nx),zb HM1,hle.1,(show Pro.yI (zd s nx)<524288 by omega),by omega,Pro.yO hlt (zb hl) (by decide)⟩,zb HO1,_,_,_,_,_,_,_,_,_,_,_,_,_,_,_,_,_,_,_,_,_,_,_,_,_,_,_,_,_,_,_,_,_,_,_,_,_,_,_,_,_,_,_,_,_,_,_,_,_,_,_,_,_,_,_,_,_,_,_,_,_,_,_,rfl⟩
   ·have t0:128≤zd s nx:=by omega
    have t1:194≤zd s nx:=by omega
    have t2:224≤zd s nx:=by omega
    have t3:(zd s nx == 224)=false:=by simp;omega
    have t4:(zd s nx == 237)=true:=by simp;omega
    have hl:Hid (Pro.yJ (zd s nx)=2):=ze (by unfold Pro.yJ;(repeat' split)<;>omega)
    clear hc
    go_wp2_with fail
    go_quiet (fail)
    go_wp2_with (go_at_call 172;refine (qE b s nx nx ch _ (by first |exact ((zb H).set2 nx _ rfl).drewN _ |exact (zb H).set2 nx _ rfl) hs hlt).mono ?_;rintro e w1 ⟨rfl,hm1,hO1⟩;have HM1:=ze hm1;have HO1:Hid (Only (zl b) w w1):=by first |exact (((Only.refl (zl b) w).mine 2 _).drewN _).trans hO1 |exact (((Only.refl (zl b) w).drewN _).mine 2 _).trans hO1 |exact ((Only.refl (zl b) w).mine 2 _).trans hO1;clear hm1 hO1)
    go_step3
    have hle:=Pro.jd (b:=zd s nx) (by omega) (by omega)
    exact ⟨by decide,⟨nx+1,Pro.yI (zd s nx),zb HM1,hle.1,(show Pro.yI (zd s nx)<524288 by omega),by omega,Pro.yO hlt (zb hl) (by decide)⟩,zb HO1,_,_,_,_,_,_,_,_,_,_,_,_,_,_,_,_,_,_,_,_,_,_,_,_,_,_,_,_,_,_,_,_,_,_,_,_,_,_,_,_,_,_,_,_,_,_,_,_,_,_,_,_,_,_,_,_,_,_,_,_,_,_,_,rfl⟩
   ·have t0:128≤zd s nx:=by omega
    have t1:194≤zd s nx:=by omega
    have t2:224≤zd s nx:=by omega
    have t3:(zd s nx == 224)=false:=by simp;omega
    have t4:(zd s nx == 237)=false:=by simp;omega
    have t5:zd s nx<240:=by omega
    have hl:Hid (Pro.yJ (zd s nx)=3):=ze (by unfold Pro.yJ;(repeat' split)<;>omega)
    clear hc
    go_wp2_with fail
    go_quiet (fail)
    go_wp2_with (go_at_call 172;refine (qE b s nx nx ch _ (by first |exact ((zb H).set2 nx _ rfl).drewN _ |exact (zb H).set2 nx _ rfl) hs hlt).mono ?_;rintro e w1 ⟨rfl,hm1,hO1⟩;have HM1:=ze hm1;have HO1:Hid (Only (zl b) w w1):=by first |exact (((Only.refl (zl b) w).mine 2 _).drewN _).trans hO1 |exact (((Only.refl (zl b) w).drewN _).mine 2 _).trans hO1 |exact ((Only.refl (zl b) w).mine 2 _).trans hO1;clear hm1 hO1)
    go_step3
    have hle:=Pro.jd (b:=zd s nx) (by omega) (by omega)
    exact ⟨by decide,⟨nx+1,Pro.yI (zd s nx),zb HM1,hle.1,(show Pro.yI (zd s nx)<524288 by omega),by omega,Pro.yO hlt (zb hl) (by decide)⟩,zb HO1,_,_,_,_,_,_,_,_,_,_,_,_,_,_,_,_,_,_,_,_,_,_,_,_,_,_,_,_,_,_,_,_,_,_,_,_,_,_,_,_,_,_,_,_,_,_,_,_,_,_,_,_,_,_,_,_,_,_,_,_,_,_,_,rfl⟩
   ·have t0:128≤zd s nx:=by omega
    have t1:194≤zd s nx:=by omega
    have t2:224≤zd s nx:=by omega
    have t3:(zd s nx == 224)=false:=by simp;omega
    have t4:(zd s nx == 237)=false:=by simp;omega
    have t5:240≤zd s nx:=by omega
    have t6:(zd s nx == 240)=true:=by simp;omega
    have hl:Hid (Pro.yJ (zd s nx)=4):=ze (by unfold Pro.yJ;(repeat' split)<;>omega)
    clear hc
    go_wp2_with fail
    go_quiet (fail)
    go_wp2_with (go_at_call 172;refine (qE b s nx nx ch _ (by first |exact ((zb H).set2 nx _ rfl).drewN _ |exact (zb H).set2 nx _ rfl) hs hlt).mono ?_;rintro e w1 ⟨rfl,hm1,hO1⟩;have HM1:=ze hm1;have HO1:Hid (Only (zl b) w w1):=by first |exact (((Only.refl (zl b) w).mine 2 _).drewN _).trans hO1 |exact (((Only.refl (zl b) w).drewN _).mine 2 _).trans hO1 |exact ((Only.refl (zl b) w).mine 2 _).trans hO1;clear hm1 hO1)
    go_step3
    have hle:=Pro.jd (b:=zd s nx) (by omega) (by omega)
    exact ⟨by decide,⟨nx+1,Pro.yI (zd s nx),zb HM1,hle.1,(show Pro.yI (zd s nx)<8192 by omega),by omega,Pro.yO hlt (zb hl) (by decide)⟩,zb HO1,_,_,_,_,_,_,_,_,_,_,_,_,_,_,_,_,_,_,_,_,_,_,_,_,_,_,_,_,_,_,_,_,_,_,_,_,_,_,_,_,_,_,_,_,_,_,_,_,_,_,_,_,_,_,_,_,_,_,_,_,_,_,_,rfl⟩
   ·have t0:128≤zd s nx:=by omega
    have t1:194≤zd s nx:=by omega
    have t2:224≤zd s nx:=by omega
    have t3:(zd s nx == 224)=false:=by simp;omega
    have t4:(zd s nx == 237)=false:=by simp;omega
    have t5:240≤zd s nx:=by omega
    have t6:(zd s nx == 240)=false:=by simp;omega
    have t7:zd s nx<244:=by omega
    have hl:Hid (Pro.yJ (zd s nx)=5):=ze (by unfold Pro.yJ;(repeat' split)<;>omega)
    clear hc
    go_wp2_with fail
    go_quiet (fail)
    go_wp2_with (go_at_call 172;refine (qE b s nx nx ch _ (by first |exact ((zb H).set2 nx _ rfl).drewN _ |exact (zb H).set2 nx _ rfl) hs hlt).mono ?_;rintro e w1 ⟨rfl,hm1,hO1⟩;have HM1:=ze hm1;have HO1:Hid (Only (zl b) w w1):=by first |exact (((Only.refl (zl b) w).mine 2 _).drewN _).trans hO1 |exact (((Only.refl (zl b) w).drewN _).mine 2 _).trans hO1 |exact ((Only.refl (zl b) w).mine 2 _).trans hO1;clear hm1 hO1)
    go_step3
    have hle:=Pro.jd (b:=zd s nx) (by omega) (by omega)
    exact ⟨by decide,⟨nx+1,Pro.yI (zd s nx),zb HM1,hle.1,(show Pro.yI (zd s nx)<8192 by omega),by omega,Pro.yO hlt (zb hl) (by decide)⟩,zb HO1,_,_,_,_,_,_,_,_,_,_,_,_,_,_,_,_,_,_,_,_,_,_,_,_,_,_,_,_,_,_,_,_,_,_,_,_,_,_,_,_,_,_,_,_,_,_,_,_,_,_,_,_,_,_,_,_,_,_,_,_,_,_,_,rfl⟩
   ·have t0:128≤zd s nx:=by omega
    have t1:194≤zd s nx:=by omega
    have t2:224≤zd s nx:=by omega
    have t3:(zd s nx == 224)=false:=by simp;omega
    have t4:(zd s nx == 237)=false:=by simp;omega
    have t5:240≤zd s nx:=by omega
    have t6:(zd s nx == 240)=false:=by simp;omega
    have t7:244≤zd s nx:=by omega
    have t8:(zd s nx == 244)=true:=by simp;omega
    have hl:Hid (Pro.yJ (zd s nx)=6):=ze (by unfold Pro.yJ;(repeat' split)<;>omega)
    clear hc
    go_wp2_with fail
    go_quiet (fail)
    go_wp2_with (go_at_call 172;refine (qE b s nx nx ch _ (by first |exact ((zb H).set2 nx _ rfl).drewN _ |exact (zb H).set2 nx _ rfl) hs hlt).mono ?_;rintro e w1 ⟨rfl,hm1,hO1⟩;have HM1:=ze hm1;have HO1:Hid (Only (zl b) w w1):=by first |exact (((Only.refl (zl b) w).mine 2 _).drewN _).trans hO1 |exact (((Only.refl (zl b) w).drewN _).mine 2 _).trans hO1 |exact ((Only.refl (zl b) w).mine 2 _).trans hO1;clear hm1 hO1)
    go_step3
    have hle:=Pro.jd (b:=zd s nx) (by omega) (by omega)
    exact ⟨by decide,⟨nx+1,Pro.yI (zd s nx),zb HM1,hle.1,(show Pro.yI (zd s nx)<8192 by omega),by omega,Pro.yO hlt (zb hl) (by decide)⟩,zb HO1,_,_,_,_,_,_,_,_,_,_,_,_,_,_,_,_,_,_,_,_,_,_,_,_,_,_,_,_,_,_,_,_,_,_,_,_,_,_,_,_,_,_,_,_,_,_,_,_,_,_,_,_,_,_,_,_,_,_,_,_,_,_,_,rfl⟩
   ·have t0:128≤zd s nx:=by omega
    have t1:194≤zd s nx:=by omega
    have t2:224≤zd s nx:=by omega
    have t3:(zd s nx == 224)=false:=by simp;omega
    have t4:(zd s nx == 237)=false:=by simp;omega
    have t5:240≤zd s nx:=by omega
    have t6:(zd s nx == 240)=false:=by simp;omega
    have t7:244≤zd s nx:=by omega
    have t8:(zd s nx == 244)=false:=by simp;omega
    have hl:Hid (Pro.yJ (zd s nx)=8):=ze (by unfold Pro.yJ;(repeat' split)<;>omega)
    clear hc
    go_wp2_with fail
    go_quiet (fail)
    go_wp2_with (go_at_call 172;refine (qE b s nx nx ch _ (by first |exact ((zb H).set2 nx _ rfl).drewN _ |exact (zb H).set2 nx _ rfl) hs hlt).mono ?_;rintro e w1 ⟨rfl,hm1,hO1⟩;have HM1:=ze hm1;have HO1:Hid (Only (zl b) w w1):=by first |exact (((Only.refl (zl b) w).mine 2 _).drewN _).trans hO1 |exact (((Only.refl (zl b) w).drewN _).mine 2 _).trans hO1 |exact ((Only.refl (zl b) w).mine 2 _).trans hO1;clear hm1 hO1)
    rw [xo]
    go_ret
    exact ⟨zb HO1,.inr ⟨Pro.jc (zb hl),rfl⟩⟩
  ·have he:((nx:Int) == (s.size:Int))=true:=by simp;omega
   have HR:Hid (Pro.yw s nx=none):=by unfold Pro.yw;rw [if_neg hlt];rfl
   go_wp2_with fail
   go_quiet (fail)
   go_wp2_with fail
   rw [xo]
   go_ret
   exact ⟨((Only.refl _ _).mine _ _).drewN _,.inr ⟨zb HR,rfl⟩⟩
 case refine_2=>
  rintro a' w' ⟨_,⟨n1,ch1,hm,hc0,hc1,hn1,hR⟩,hO,u1,u2,u3,u4,u5,u6,u7,u8,u9,u10,u11,u12,u13,u14,u15,u16,u17,u18,u19,u20,u21,u22,u23,u24,u25,u26,u27,u28,u29,u30,u31,u32,u33,u34,u35,u36,u37,u38,u39,u40,u41,u42,u43,u44,u45,u46,u47,u48,u49,u50,u51,u52,u53,u54,u55,u56,u57,u58,u59,u60,u61,u62,u63,rfl⟩
  have hc1:ch1<33554432:=hc1
  have HM:=ze hm
  have HO:=ze hO
  have HRR:=ze hR
  clear hm hO hR c0 c1 c2 f2
  have hby:=ye s n1
  cases hT:Pro.xA s n1 128 191
  ·have HN:Hid (Pro.yw s nx=none):=by rw [zb HRR];show Pro.oneM s n1 ch1=none;unfold Pro.oneM;rw [if_neg (by simp [hT])]
   go_wp2_with (go_at_call 173;refine (xB b s n1 nx ch1 128 191 _ (zb HM) hs hn1 hc0 (by omega) (by decide) (by decide)).mono ?_;rintro e w1 ⟨hO1,hT1⟩;obtain rfl:=Ze hT1 hT;have HO1:=ze ((zb HO).trans hO1);clear hT1 hO1)
   rw [xo]
   go_ret
   exact ⟨zb HO1,.inr ⟨zb HN,rfl⟩⟩
  ·have hlt1:n1<s.size:=Pro.jR hT
   have HN:Hid (Pro.yw s nx=some (n1+1,ch1*64+zd s n1-128)):=by rw [zb HRR];show Pro.oneM s n1 ch1=_;unfold Pro.oneM;rw [if_pos hT]
   go_wp2_with (go_at_call 173;refine (xB b s n1 nx ch1 128 191 _ (zb HM) hs hn1 hc0 (by omega) (by decide) (by decide)).mono ?_;rintro e w1 ⟨hO1,hT1⟩;obtain ⟨rfl,hm1⟩:=Zd hT1 hT;have HM1:=ze hm1;have HO1:=ze ((zb HO).trans hO1);clear hT1 hO1 hm1)
   rw [xo]
   go_ret
   exact ⟨zb HO1,.inl ⟨_,_,zb HN,rfl,zb HM1⟩⟩
 case refine_3=>
  rintro a' w' ⟨_,⟨n1,ch1,hm,hc0,hc1,hn1,hR⟩,hO,u1,u2,u3,u4,u5,u6,u7,u8,u9,u10,u11,u12,u13,u14,u15,u16,u17,u18,u19,u20,u21,u22,u23,u24,u25,u26,u27,u28,u29,u30,u31,u32,u33,u34,u35,u36,u37,u38,u39,u40,u41,u42,u43,u44,u45,u46,u47,u48,u49,u50,u51,u52,u53,u54,u55,u56,u57,u58,u59,u60,u61,u62,u63,rfl⟩
  have hc1:ch1<524288:=hc1
  have HM:=ze hm
  have HO:=ze hO
  have HRR:=ze hR
  clear hm hO hR c0 c1 c2 f2
  have hby:=ye s n1
  cases hT:Pro.xA s n1 160 191
  ·have HN:Hid (Pro.yw s nx=none):=by rw [zb HRR];show Pro.kr s 160 191 n1 ch1=none;unfold Pro.kr;rw [if_neg (by simp [hT])]
   go_wp2_with (go_at_call 173;refine (xB b s n1 nx ch1 160 191 _ (zb HM) hs hn1 hc0 (by omega) (by decide) (by decide)).mono ?_;rintro e w1 ⟨hO1,hT1⟩;obtain rfl:=Ze hT1 hT;have HO1:=ze ((zb HO).trans hO1);clear hT1 hO1)
   rw [xo]
   go_ret
   exact ⟨zb HO1,.inr ⟨zb HN,rfl⟩⟩
  ·have hlt1:n1<s.size:=Pro.jR hT
   have hge:=Pro.jS hT
   have HN:Hid (Pro.yw s nx=Pro.oneM s (n1+1) (ch1*64+zd s n1-128)):=by rw [zb HRR];show Pro.kr s 160 191 n1 ch1=_;unfold Pro.kr;rw [if_pos hT]
   go_wp2_with (go_at_call 173;refine (xB b s n1 nx ch1 160 191 _ (zb HM) hs hn1 hc0 (by omega) (by decide) (by decide)).mono ?_;rintro e w1 ⟨hO1,hT1⟩;obtain ⟨rfl,hm1⟩:=Zd hT1 hT;have HM1:=ze hm1;have HO1:=ze ((zb HO).trans hO1);clear hT1 hO1 hm1)
   go_step3
   exact ⟨⟨by decide,⟨n1+1,ch1*64+zd s n1-128,zb HM1,by omega,(show ch1*64+zd s n1-128<33554432 by omega),by omega,zb HN⟩,zb HO1,_,_,_,_,_,_,_,_,_,_,_,_,_,_,_,_,_,_,_,_,_,_,_,_,_,_,_,_,_,_,_,_,_,_,_,_,_,_,_,_,_,_,_,_,_,_,_,_,_,_,_,_,_,_,_,_,_,_,_,_,_,_,_,rfl⟩,by decide⟩
 case refine_4=>
  rintro a' w' ⟨_,⟨n1,ch1,hm,hc0,hc1,hn1,hR⟩,hO,u1,u2,u3,u4,u5,u6,u7,u8,u9,u10,u11,u12,u13,u14,u15,u16,u17,u18,u19,u20,u21,u22,u23,u24,u25,u26,u27,u28,u29,u30,u31,u32,u33,u34,u35,u36,u37,u38,u39,u40,u41,u42,u43,u44,u45,u46,u47,u48,u49,u50,u51,u52,u53,u54,u55,u56,u57,u58,u59,u60,u61,u62,u63,rfl⟩
  have hc1:ch1<524288:=hc1
  have HM:=ze hm
  have HO:=ze hO
  have HRR:=ze hR
  clear hm hO hR c0 c1 c2 f2
  have hby:=ye s n1
  cases hT:Pro.xA s n1 128 159
  ·have HN:Hid (Pro.yw s nx=none):=by rw [zb HRR];show Pro.kr s 128 159 n1 ch1=none;unfold Pro.kr;rw [if_neg (by simp [hT])]
   go_wp2_with (go_at_call 173;refine (xB b s n1 nx ch1 128 159 _ (zb HM) hs hn1 hc0 (by omega) (by decide) (by decide)).mono ?_;rintro e w1 ⟨hO1,hT1⟩;obtain rfl:=Ze hT1 hT;have HO1:=ze ((zb HO).trans hO1);clear hT1 hO1)
   rw [xo]
   go_ret
   exact ⟨zb HO1,.inr ⟨zb HN,rfl⟩⟩
  ·have hlt1:n1<s.size:=Pro.jR hT
   have hge:=Pro.jS hT
   have HN:Hid (Pro.yw s nx=Pro.oneM s (n1+1) (ch1*64+zd s n1-128)):=by rw [zb HRR];show Pro.kr s 128 159 n1 ch1=_;unfold Pro.kr;rw [if_pos hT]
   go_wp2_with (go_at_call 173;refine (xB b s n1 nx ch1 128 159 _ (zb HM) hs hn1 hc0 (by omega) (by decide) (by decide)).mono ?_;rintro e w1 ⟨hO1,hT1⟩;obtain ⟨rfl,hm1⟩:=Zd hT1 hT;have HM1:=ze hm1;have HO1:=ze ((zb HO).trans hO1);clear hT1 hO1 hm1)
   go_step3
   exact ⟨⟨by decide,⟨n1+1,ch1*64+zd s n1-128,zb HM1,by omega,(show ch1*64+zd s n1-128<33554432 by omega),by omega,zb HN⟩,zb HO1,_,_,_,_,_,_,_,_,_,_,_,_,_,_,_,_,_,_,_,_,_,_,_,_,_,_,_,_,_,_,_,_,_,_,_,_,_,_,_,_,_,_,_,_,_,_,_,_,_,_,_,_,_,_,_,_,_,_,_,_,_,_,_,rfl⟩,by decide⟩
 case refine_5=>
  rintro a' w' ⟨_,⟨n1,ch1,hm,hc0,hc1,hn1,hR⟩,hO,u1,u2,u3,u4,u5,u6,u7,u8,u9,u10,u11,u12,u13,u14,u15,u16,u17,u18,u19,u20,u21,u22,u23,u24,u25,u26,u27,u28,u29,u30,u31,u32,u33,u34,u35,u36,u37,u38,u39,u40,u41,u42,u43,u44,u45,u46,u47,u48,u49,u50,u51,u52,u53,u54,u55,u56,u57,u58,u59,u60,u61,u62,u63,rfl⟩
  have hc1:ch1<524288:=hc1
  have HM:=ze hm
  have HO:=ze hO
  have HRR:=ze hR
  clear hm hO hR c0 c1 c2 f2
  have hby:=ye s n1
  cases hT:Pro.xA s n1 128 191
  ·have HN:Hid (Pro.yw s nx=none):=by rw [zb HRR];show Pro.twoM s n1 ch1=none;unfold Pro.twoM;rw [if_neg (by simp [hT])]
   go_wp2_with (go_at_call 173;refine (xB b s n1 nx ch1 128 191 _ (zb HM) hs hn1 hc0 (by omega) (by decide) (by decide)).mono ?_;rintro e w1 ⟨hO1,hT1⟩;obtain rfl:=Ze hT1 hT;have HO1:=ze ((zb HO).trans hO1);clear hT1 hO1)
   rw [xo]
   go_ret
   exact ⟨zb HO1,.inr ⟨zb HN,rfl⟩⟩
  ·have hlt1:n1<s.size:=Pro.jR hT
   have hge:=Pro.jS hT
   have HN:Hid (Pro.yw s nx=Pro.oneM s (n1+1) (ch1*64+zd s n1-128)):=by rw [zb HRR];show Pro.twoM s n1 ch1=_;unfold Pro.twoM;rw [if_pos hT]
   go_wp2_with (go_at_call 173;refine (xB b s n1 nx ch1 128 191 _ (zb HM) hs hn1 hc0 (by omega) (by decide) (by decide)).mono ?_;rintro e w1 ⟨hO1,hT1⟩;obtain ⟨rfl,hm1⟩:=Zd hT1 hT;have HM1:=ze hm1;have HO1:=ze ((zb HO).trans hO1);clear hT1 hO1 hm1)
   go_step3
   exact ⟨⟨by decide,⟨n1+1,ch1*64+zd s n1-128,zb HM1,by omega,(show ch1*64+zd s n1-128<33554432 by omega),by omega,zb HN⟩,zb HO1,_,_,_,_,_,_,_,_,_,_,_,_,_,_,_,_,_,_,_,_,_,_,_,_,_,_,_,_,_,_,_,_,_,_,_,_,_,_,_,_,_,_,_,_,_,_,_,_,_,_,_,_,_,_,_,_,_,_,_,_,_,_,_,rfl⟩,by decide⟩
 case refine_6=>
  rintro a' w' ⟨_,⟨n1,ch1,hm,hc0,hc1,hn1,hR⟩,hO,u1,u2,u3,u4,u5,u6,u7,u8,u9,u10,u11,u12,u13,u14,u15,u16,u17,u18,u19,u20,u21,u22,u23,u24,u25,u26,u27,u28,u29,u30,u31,u32,u33,u34,u35,u36,u37,u38,u39,u40,u41,u42,u43,u44,u45,u46,u47,u48,u49,u50,u51,u52,u53,u54,u55,u56,u57,u58,u59,u60,u61,u62,u63,rfl⟩
  have hc1:ch1<8192:=hc1
  have HM:=ze hm
  have HO:=ze hO
  have HRR:=ze hR
  clear hm hO hR c0 c1 c2 f2
  have hby:=ye s n1
  cases hT:Pro.xA s n1 144 191
  ·have HN:Hid (Pro.yw s nx=none):=by rw [zb HRR];show Pro.qH s 144 191 n1 ch1=none;unfold Pro.qH;rw [if_neg (by simp [hT])]
   go_wp2_with (go_at_call 173;refine (xB b s n1 nx ch1 144 191 _ (zb HM) hs hn1 hc0 (by omega) (by decide) (by decide)).mono ?_;rintro e w1 ⟨hO1,hT1⟩;obtain rfl:=Ze hT1 hT;have HO1:=ze ((zb HO).trans hO1);clear hT1 hO1)
   rw [xo]
   go_ret
   exact ⟨zb HO1,.inr ⟨zb HN,rfl⟩⟩
  ·have hlt1:n1<s.size:=Pro.jR hT
   have hge:=Pro.jS hT
   have HN:Hid (Pro.yw s nx=Pro.twoM s (n1+1) (ch1*64+zd s n1-128)):=by rw [zb HRR];show Pro.qH s 144 191 n1 ch1=_;unfold Pro.qH;rw [if_pos hT]
   go_wp2_with (go_at_call 173;refine (xB b s n1 nx ch1 144 191 _ (zb HM) hs hn1 hc0 (by omega) (by decide) (by decide)).mono ?_;rintro e w1 ⟨hO1,hT1⟩;obtain ⟨rfl,hm1⟩:=Zd hT1 hT;have HM1:=ze hm1;have HO1:=ze ((zb HO).trans hO1);clear hT1 hO1 hm1)
   go_step3
   exact ⟨⟨by decide,⟨n1+1,ch1*64+zd s n1-128,zb HM1,by omega,(show ch1*64+zd s n1-128<524288 by omega),by omega,zb HN⟩,zb HO1,_,_,_,_,_,_,_,_,_,_,_,_,_,_,_,_,_,_,_,_,_,_,_,_,_,_,_,_,_,_,_,_,_,_,_,_,_,_,_,_,_,_,_,_,_,_,_,_,_,_,_,_,_,_,_,_,_,_,_,_,_,_,_,rfl⟩,by decide⟩
 case refine_7=>
  rintro a' w' ⟨_,⟨n1,ch1,hm,hc0,hc1,hn1,hR⟩,hO,u1,u2,u3,u4,u5,u6,u7,u8,u9,u10,u11,u12,u13,u14,u15,u16,u17,u18,u19,u20,u21,u22,u23,u24,u25,u26,u27,u28,u29,u30,u31,u32,u33,u34,u35,u36,u37,u38,u39,u40,u41,u42,u43,u44,u45,u46,u47,u48,u49,u50,u51,u52,u53,u54,u55,u56,u57,u58,u59,u60,u61,u62,u63,rfl⟩
  have hc1:ch1<8192:=hc1
  have HM:=ze hm
  have HO:=ze hO
  have HRR:=ze hR
  clear hm hO hR c0 c1 c2 f2
  have hby:=ye s n1
  cases hT:Pro.xA s n1 128 191
  ·have HN:Hid (Pro.yw s nx=none):=by rw [zb HRR];show Pro.qH s 128 191 n1 ch1=none;unfold Pro.qH;rw [if_neg (by simp [hT])]
   go_wp2_with (go_at_call 173;refine (xB b s n1 nx ch1 128 191 _ (zb HM) hs hn1 hc0 (by omega) (by decide) (by decide)).mono ?_;rintro e w1 ⟨hO1,hT1⟩;obtain rfl:=Ze hT1 hT;have HO1:=ze ((zb HO).trans hO1);clear hT1 hO1)
   rw [xo]
   go_ret
   exact ⟨zb HO1,.inr ⟨zb HN,rfl⟩⟩
  ·have hlt1:n1<s.size:=Pro.jR hT
   have hge:=Pro.jS hT
   have HN:Hid (Pro.yw s nx=Pro.twoM s (n1+1) (ch1*64+zd s n1-128)):=by rw [zb HRR];show Pro.qH s 128 191 n1 ch1=_;unfold Pro.qH;rw [if_pos hT]
   go_wp2_with (go_at_call 173;refine (xB b s n1 nx ch1 128 191 _ (zb HM) hs hn1 hc0 (by omega) (by decide) (by decide)).mono ?_;rintro e w1 ⟨hO1,hT1⟩;obtain ⟨rfl,hm1⟩:=Zd hT1 hT;have HM1:=ze hm1;have HO1:=ze ((zb HO).trans hO1);clear hT1 hO1 hm1)
   go_step3
   exact ⟨⟨by decide,⟨n1+1,ch1*64+zd s n1-128,zb HM1,by omega,(show ch1*64+zd s n1-128<524288 by omega),by omega,zb HN⟩,zb HO1,_,_,_,_,_,_,_,_,_,_,_,_,_,_,_,_,_,_,_,_,_,_,_,_,_,_,_,_,_,_,_,_,_,_,_,_,_,_,_,_,_,_,_,_,_,_,_,_,_,_,_,_,_,_,_,_,_,_,_,_,_,_,_,rfl⟩,by decide⟩
 case refine_8=>
  rintro a' w' ⟨_,⟨n1,ch1,hm,hc0,hc1,hn1,hR⟩,hO,u1,u2,u3,u4,u5,u6,u7,u8,u9,u10,u11,u12,u13,u14,u15,u16,u17,u18,u19,u20,u21,u22,u23,u24,u25,u26,u27,u28,u29,u30,u31,u32,u33,u34,u35,u36,u37,u38,u39,u40,u41,u42,u43,u44,u45,u46,u47,u48,u49,u50,u51,u52,u53,u54,u55,u56,u57,u58,u59,u60,u61,u62,u63,rfl⟩
  have hc1:ch1<8192:=hc1
  have HM:=ze hm
  have HO:=ze hO
  have HRR:=ze hR
  clear hm hO hR c0 c1 c2 f2
  have hby:=ye s n1
  cases hT:Pro.xA s n1 128 143
  ·have HN:Hid (Pro.yw s nx=none):=by rw [zb HRR];show Pro.qH s 128 143 n1 ch1=none;unfold Pro.qH;rw [if_neg (by simp [hT])]
   go_wp2_with (go_at_call 173;refine (xB b s n1 nx ch1 128 143 _ (zb HM) hs hn1 hc0 (by omega) (by decide) (by decide)).mono ?_;rintro e w1 ⟨hO1,hT1⟩;obtain rfl:=Ze hT1 hT;have HO1:=ze ((zb HO).trans hO1);clear hT1 hO1)
   rw [xo]
   go_ret
   exact ⟨zb HO1,.inr ⟨zb HN,rfl⟩⟩
  ·have hlt1:n1<s.size:=Pro.jR hT
   have hge:=Pro.jS hT
   have HN:Hid (Pro.yw s nx=Pro.twoM s (n1+1) (ch1*64+zd s n1-128)):=by rw [zb HRR];show Pro.qH s 128 143 n1 ch1=_;unfold Pro.qH;rw [if_pos hT]
   go_wp2_with (go_at_call 173;refine (xB b s n1 nx ch1 128 143 _ (zb HM) hs hn1 hc0 (by omega) (by decide) (by decide)).mono ?_;rintro e w1 ⟨hO1,hT1⟩;obtain ⟨rfl,hm1⟩:=Zd hT1 hT;have HM1:=ze hm1;have HO1:=ze ((zb HO).trans hO1);clear hT1 hO1 hm1)
   go_step3
   exact ⟨⟨by decide,⟨n1+1,ch1*64+zd s n1-128,zb HM1,by omega,(show ch1*64+zd s n1-128<524288 by omega),by omega,zb HN⟩,zb HO1,_,_,_,_,_,_,_,_,_,_,_,_,_,_,_,_,_,_,_,_,_,_,_,_,_,_,_,_,_,_,_,_,_,_,_,_,_,_,_,_,_,_,_,_,_,_,_,_,_,_,_,_,_,_,_,_,_,_,_,_,_,_,_,rfl⟩,by decide⟩
end
section
open Go.RowKit
namespace Eqv
def letF (s:ByteArray):Nat→Nat→List (Int×Int)
 |0,_=>[]
 |f+1,p=>if p<s.size then (match Ref.oneF s p with
   |none=>[]
   |some (n,c)=>((p:Int),c) :: letF s f (p+n)) else []
structure Br (s:ByteArray)(L:List (Int×Int))(n p:Nat):Prop where
 good:Ref.Good s p
 le:n≤L.length
 rest:∃ f,s.size<p+f∧L.drop n=letF s f p
theorem Br.step {s:ByteArray}{L:List (Int×Int)}{n p:Nat}(h:Br s L n p)(hp:p<s.size):∃ k c,Ref.oneF s p=some (k,c)∧L[n]?=some ((p:Int),c)∧Br s L (n+1) (p+k):=by
 obtain ⟨k,c,ho,hg⟩:=h.good.next hp
 obtain ⟨f,hf,hd⟩:=h.rest
 obtain ⟨f,rfl⟩:∃ f',f=f'+1:=⟨f-1,by omega⟩
 simp only [letF] at hd
 rw [if_pos hp,ho] at hd
 have hb:=Ref.xu ho
 have hlt:n<L.length:=by
  have:(L.drop n).length=L.length-n:=List.length_drop
  rw [hd] at this
  simp only [List.length_cons] at this
  omega
 have hg0:L[n]?=some ((p:Int),c):=by
  have:(L.drop n)[0]?=L[n+0]?:=List.getElem?_drop
  rw [hd] at this
  simpa using this.symm
 refine ⟨k,c,ho,hg0,hg,by omega,f,by omega,?_⟩
 rw [←List.drop_drop,hd]
 rfl
theorem Br.stop {s:ByteArray}{L:List (Int×Int)}{n p:Nat}(h:Br s L n p)(hp:¬p<s.size):n=L.length:=by
 obtain ⟨f,hf,hd⟩:=h.rest
 have he:letF s f p=[]:=by
  cases f with
  |zero=>rfl
  |succ f=>simp only [letF];rw [if_neg hp]
 have:(L.drop n).length=L.length-n:=List.length_drop
 rw [hd,he] at this
 simp only [List.length_nil] at this
 have:=h.le
 omega
theorem Br.lt {s:ByteArray}{L:List (Int×Int)}{n p:Nat}(h:Br s L n p):n<L.length↔p<s.size:=by
 constructor
 ·intro hn
  by_cases hp:p<s.size
  ·exact hp
  ·have:=h.stop hp;omega
 ·intro hp
  obtain ⟨k,c,_,hg,_⟩:=h.step hp
  by_cases hn:n<L.length
  ·exact hn
  ·rw [List.getElem?_eq_none (by omega)] at hg;cases hg
theorem Br.place {s:ByteArray}{L:List (Int×Int)}{n p:Nat}(h:Br s L n p):Pro.zB L (s.size:Nat) n=p:=by
 by_cases hp:p<s.size
 ·obtain ⟨k,c,_,hg,_⟩:=h.step hp
  unfold Pro.zB;rw [hg]
 ·have:=h.stop hp
  rw [Pro.kn (by omega)]
  have:=h.good.le
  omega
theorem WU {s:ByteArray}{p k:Nat}{c:Int}(ho:Ref.oneF s p=some (k,c))(hb:zd s p<128):k=1∧c=zd s p:=by
 have h1:Ref.headK (zd s p)=1:=by unfold Ref.headK Ref.headN;rw [if_pos hb];rfl
 have h2:Ref.qw (zd s p)=zd s p:=by unfold Ref.qw;rw [if_pos hb]
 have hk:=(Ref.xu ho).2.2.2.1
 refine ⟨by omega,?_⟩
 unfold Ref.oneF at ho
 split at ho
 ·cases ho
 ·rw [h1,h2] at ho
  simp only [Nat.sub_self,Ref.xS] at ho
  split at ho
  ·cases ho
  ·simp only [Option.some.injEq,Prod.mk.injEq] at ho
   exact ho.2.symm
theorem one_high {s:ByteArray}{p k:Nat}{c:Int}(ho:Ref.oneF s p=some (k,c))(hb:128≤zd s p):128≤c:=by
 have hbd:=Ref.xu ho
 have hk:k≠1:=by
  rw [hbd.2.2.2.1]
  unfold Ref.headK Ref.headN
  rw [if_neg (by omega)]
  (repeat' split)<;>decide
 unfold Ref.oneF at ho
 split at ho
 ·cases ho
 ·split at ho
  ·cases ho
  ·split at ho
   ·cases ho
   ·rename_i hbad
    simp only [Option.some.injEq,Prod.mk.injEq] at ho
    obtain ⟨hk1,rfl⟩:=ho
    simp only [Ref.badC,Bool.or_eq_true,Bool.and_eq_true,decide_eq_true_eq] at hbad
    rw [hk1] at hbad
    have:128≤Ref.qb (k:Int):=by
     have h4:=hbd.2.2.1
     have h1:=hbd.1
     have:k=2∨k=3∨k=4:=by omega
     rcases this with rfl |rfl |rfl<;>decide
    omega
theorem Br.letter {s:ByteArray}{L:List (Int×Int)}{n p k:Nat}{c:Int}(h:Br s L n p)(hp:p<s.size)(ho:Ref.oneF s p=some (k,c)):Pro.zh L n=c∧Br s L (n+1) (p+k):=by
 obtain ⟨k',c',ho',hg,hn⟩:=h.step hp
 rw [ho] at ho'
 simp only [Option.some.injEq,Prod.mk.injEq] at ho'
 obtain ⟨rfl,rfl⟩:=ho'
 exact ⟨by unfold Pro.zh;rw [hg],hn⟩
theorem Br.ascii {s:ByteArray}{L:List (Int×Int)}{n p:Nat}(h:Br s L n p)(hb:zd s p<128):Pro.zh L n=zd s p:=by
 by_cases hp:p<s.size
 ·obtain ⟨k,c,ho,hg,_⟩:=h.step hp
  unfold Pro.zh;rw [hg]
  exact (WU ho hb).2
 ·have:=h.stop hp
  rw [Pro.xp (by omega),xC s p (by omega)]
theorem Br.high {s:ByteArray}{L:List (Int×Int)}{n p:Nat}(h:Br s L n p)(hb:128≤zd s p):128≤Pro.zh L n:=by
 have hp:p<s.size:=(zw s p).1 (by omega)
 obtain ⟨k,c,ho,hg,_⟩:=h.step hp
 unfold Pro.zh;rw [hg]
 exact one_high ho hb
theorem Br.alike {s:ByteArray}{L:List (Int×Int)}{n p:Nat}(h:Br s L n p):(Pro.zh L n=zd s p∧zd s p<128)∨(128≤Pro.zh L n∧128≤zd s p):=by
 by_cases hb:zd s p<128
 ·exact .inl ⟨h.ascii hb,hb⟩
 ·exact .inr ⟨h.high (by omega),by omega⟩
theorem Br.next {s:ByteArray}{L:List (Int×Int)}{n p:Nat}(h:Br s L n p)(h0:0≤zd s p)(hb:zd s p<128):Br s L (n+1) (p+1):=by
 have hp:p<s.size:=(zw s p).1 h0
 obtain ⟨k,c,ho,hg,hn⟩:=h.step hp
 obtain ⟨rfl,_⟩:=WU ho hb
 exact hn
theorem Br.hexV {s:ByteArray}{L:List (Int×Int)}{n p:Nat}(h:Br s L n p):Pro.hexV (Pro.zh L n)=Ref.hexV (zd s p):=by
 have:Pro.hexV=Ref.hexV:=rfl
 rw [this]
 rcases h.alike with ⟨e,_⟩ |⟨h1,h2⟩
 ·rw [e]
 ·unfold Ref.hexV
  rw [if_neg (by omega),if_neg (by omega),if_neg (by omega),if_neg (by omega),if_neg (by omega),if_neg (by omega)]
theorem Br.start {s:ByteArray}(h:Ref.Good s 0):Br s (letF s (s.size+1) 0) 0 0:=⟨h,by omega,s.size+1,by omega,rfl⟩
def Same (s:ByteArray)(L:List (Int×Int))(o:Pro.Out)(v:Int)(st:St):Prop:=
 (o.k=0→st.e=0∧st.a=0∧v=o.v∧Br s L o.n st.i)∧(o.k≠0→st.e=(o.k:Int)∧st.a=o.p)
end Eqv
namespace Eqv
variable {s:ByteArray} {L:List (Int×Int)}
theorem Br.eqv {n p:Nat}(h:Br s L n p)(k:Int)(hk:k<128):Pro.zh L n=k↔zd s p=k:=by
 rcases h.alike with ⟨e,_⟩ |⟨h1,h2⟩
 ·rw [e]
 ·constructor<;>intro hh<;>omega
theorem Br.go {n p:Nat}(h:Br s L n p){k:Int}(hb:zd s p=k)(h0:0≤k)(h1:k<128):Br s L (n+1) (p+1):=h.next (by omega) (by omega)
def st0 (p:Nat):St:=⟨p,0,0⟩
theorem fail0 (p:Nat)(e a:Int):(st0 p).fail e a=⟨p,e,a⟩:=by unfold st0 St.fail;rw [if_pos rfl]
theorem go0 (p k:Nat):(st0 p).go k=st0 (p+k):=rfl
theorem yP {k n:Nat}{q:Int}{v:Int}{st:St}(hk:k≠0)(he:st.e=(k:Int))(ha:st.a=q):Same s L (Pro.bad k q n) v st:=⟨fun h=>absurd h hk,fun _=>⟨he,ha⟩⟩
theorem xU {v:Int}{n p:Nat}(h:Br s L n p):Same s L (Pro.good v n) v (st0 p):=⟨fun _=>⟨rfl,rfl,rfl,h⟩,fun h=>absurd rfl h⟩
theorem Xl:∀ (f:Nat)(c:Int)(n p:Nat),Br s L n p→Same s L (Pro.hexO L (s.size:Nat) f c n) (Ref.hexF s f c (st0 p)).1 (Ref.hexF s f c (st0 p)).2
 |0,c,n,p,h=>xU h
 |f+1,c,n,p,h=>by
  by_cases hb:Ref.hexV (zd s p)<0
  ·rw [Ref.Xg (st:=st0 p) hb,Pro.vL (by rw [h.hexV];exact hb),fail0]
   exact yP (by decide) rfl h.place.symm
  ·have hb0:0≤Ref.hexV (zd s p):=by omega
   rw [Ref.Yb (st:=st0 p) hb0,Pro.kD (by rw [h.hexV];exact hb0),h.hexV,go0]
   have hx:48≤zd s p∧zd s p≤102:=by unfold Ref.hexV at hb0;(repeat' split at hb0)<;>omega
   exact Xl f _ (n+1) (p+1) (h.next (by omega) (by omega))
theorem hexd {b:Int}(h:0≤Ref.hexV b):48≤b∧b≤102:=by unfold Ref.hexV at h;(repeat' split at h)<;>omega
theorem Yz:∀ (f g:Nat)(c:Int)(d n p:Nat),Br s L n p→L.length<n+f→s.size<p+g→Same s L (Pro.xe L (s.size:Nat) f c d n) (Ref.xN s g c d (st0 p)).1 (Ref.xN s g c d (st0 p)).2
 |0,g,c,d,n,p,h,hf,hg=>by have:=h.le;omega
 |f+1,0,c,d,n,p,h,hf,hg=>by have:=h.good.le;omega
 |f+1,g+1,c,d,n,p,h,hf,hg=>by
  by_cases hc:0<d∧zd s p=125
  ·rw [Ref.kq (st:=st0 p) hc.1 hc.2,Pro.ku hc.1 ((h.eqv 125 (by omega)).2 hc.2),go0]
   exact xU (h.go hc.2 (by omega) (by omega))
  ·have hc':¬(0<d∧Pro.zh L n=125):=fun hh=>hc ⟨hh.1,(h.eqv 125 (by omega)).1 hh.2⟩
   by_cases hb:Ref.hexV (zd s p)<0∨1114111<16*c+Ref.hexV (zd s p)
   ·rw [Ref.vy (st:=st0 p) hc hb,Pro.vM hc' (by rw [h.hexV];exact hb),fail0]
    exact yP (by decide) rfl h.place.symm
   ·rw [Ref.kM (st:=st0 p) hc hb,Pro.kX hc' (by rw [h.hexV];exact hb),h.hexV,go0]
    have hx:=hexd (b:=zd s p) (by omega)
    have hn:=h.next (by omega) (by omega)
    exact Yz f g _ (d+1) (n+1) (p+1) hn (by omega) (by omega)
theorem wm:∀ (f:Nat)(c:Int)(n p:Nat),Br s L n p→((Pro.hexO L (s.size:Nat) f c n).k=0→Ref.jE s f p c=(Pro.hexO L (s.size:Nat) f c n).v∧Br s L (Pro.hexO L (s.size:Nat) f c n).n (p+f))∧((Pro.hexO L (s.size:Nat) f c n).k≠0→Ref.jE s f p c = -1)
 |0,c,n,p,h=>⟨fun _=>⟨rfl,h⟩,fun hk=>absurd rfl hk⟩
 |f+1,c,n,p,h=>by
  by_cases hb:Ref.hexV (zd s p)<0
  ·rw [Ref.wl hb,Pro.vL (by rw [h.hexV];exact hb)]
   exact ⟨fun hk=>absurd hk (by simp [Pro.bad]),fun _=>rfl⟩
  ·have hb0:0≤Ref.hexV (zd s p):=by omega
   rw [Ref.kN hb0,Pro.kD (by rw [h.hexV];exact hb0),h.hexV]
   have hx:=hexd hb0
   have:=wm f (16*c+Ref.hexV (zd s p)) (n+1) (p+1) (h.next (by omega) (by omega))
   rw [show p+(f+1)=p+1+f by omega]
   exact this
theorem Jr {n p:Nat}(h:Br s L n p)(h1:zd s p=92)(h2:zd s (p+1)=117):Ref.yT s p=(if (Pro.hexO L (s.size:Nat) 4 0 (n+2)).k=0 then (Pro.hexO L (s.size:Nat) 4 0 (n+2)).v else -1):=by
 have hb:=(h.go h1 (by omega) (by omega)).go h2 (by omega) (by omega)
 have hh:=wm 4 0 (n+2) (p+2) hb
 by_cases hk:(Pro.hexO L (s.size:Nat) 4 0 (n+2)).k=0
 ·rw [if_pos hk]
  have:=(hh.1 hk).2.good.le
  rw [Ref.Yc (by omega)]
  exact (hh.1 hk).1
 ·rw [if_neg hk]
  by_cases hsz:s.size<p+6∨zd s p≠92∨zd s (p+1)≠117
  ·exact Ref.jQ hsz
  ·rw [Ref.Yc hsz];exact hh.2 hk
theorem low_same {n p:Nat}(h:Br s L n p):Pro.lowV L (s.size:Nat) n=(if 56320≤Ref.yT s p∧Ref.yT s p≤57343 then Ref.yT s p else -1):=by
 by_cases h1:zd s p=92
 ·have hb:=h.go h1 (by omega) (by omega)
  by_cases h2:zd s (p+1)=117
  ·rw [Jr h h1 h2]
   unfold Pro.lowV
   have e1:=(h.eqv 92 (by omega)).2 h1
   have e2:=(hb.eqv 117 (by omega)).2 h2
   by_cases hk:(Pro.hexO L (s.size:Nat) 4 0 (n+2)).k=0
   ·simp only [if_pos hk]
    by_cases hr:56320≤(Pro.hexO L (s.size:Nat) 4 0 (n+2)).v∧(Pro.hexO L (s.size:Nat) 4 0 (n+2)).v≤57343
    ·rw [if_pos ⟨e1,e2,hk,hr.1,hr.2⟩,if_pos hr]
    ·rw [if_neg (fun hh=>hr ⟨hh.2.2.2.1,hh.2.2.2.2⟩),if_neg hr]
   ·simp only [if_neg hk]
    rw [if_neg (fun hh=>hk hh.2.2.1),if_neg (by omega)]
  ·rw [Ref.jQ (.inr (.inr h2)),if_neg (by omega)]
   unfold Pro.lowV
   rw [if_neg (fun hh=>h2 ((hb.eqv 117 (by omega)).1 hh.2.1))]
 ·rw [Ref.jQ (.inr (.inl h1)),if_neg (by omega)]
  unfold Pro.lowV
  rw [if_neg (fun hh=>h1 ((h.eqv 92 (by omega)).1 hh.1))]
end Eqv
end
section
open Go.RowKit
namespace Eqv
variable {s:ByteArray} {L:List (Int×Int)}
theorem QB {x:Int}(h:128≤x):Pro.sign x=false:=by unfold Pro.sign;simp;omega
theorem zaQ (x:Int):Pro.sign x=Ref.signB x:=rfl
theorem Kc (x:Int):Pro.ctlV x=Ref.yu x:=rfl
theorem Kd {x:Int}(h:128≤x):¬0≤Pro.ctlV x:=by unfold Pro.ctlV;(repeat' split)<;>omega
theorem VQ {x:Int}(h:128≤x):Pro.qY x=false:=by unfold Pro.qY;simp [QB h,Kd h]
theorem VR {x:Int}(h:Pro.sign x=true):36≤x∧x≤125∧x≠48∧x≠99∧x≠120∧x≠117:=by unfold Pro.sign at h;simp at h;omega
theorem zaR {x:Int}(h:0≤Pro.ctlV x):x=116∨x=110∨x=118∨x=102∨x=114:=by unfold Pro.ctlV at h;(repeat' split at h)<;>omega
theorem Js {m q:Nat}(h:Br s L m q)(h92:zd s q=92)(h117:zd s (q+1)=117) :
  Same s L (if Pro.zh L (m+2)=123 then Pro.qG L (s.size:Nat) (m+3) else Pro.z8 L (s.size:Nat) (m+2)) (Ref.yU s (st0 (q+1))).1 (Ref.yU s (st0 (q+1))).2:=by
 have h1:=h.go h92 (by omega) (by omega)
 have h2:=h1.go h117 (by omega) (by omega)
 by_cases h123:zd s (q+2)=123
 ·have h3:=h2.go h123 (by omega) (by omega)
  rw [if_pos ((h2.eqv 123 (by omega)).2 h123)]
  unfold Ref.yU
  rw [if_pos (show zd s ((st0 (q+1)).i+1)=123 from h123)]
  unfold Ref.jr Pro.qG
  have hl:=h3.le
  have hg:=h3.good.le
  exact Yz _ _ 0 0 (m+3) (q+3) h3 (by omega) (by show s.size<q+3+(s.size+1-(q+1+2));omega)
 ·rw [if_neg (fun hh=>h123 ((h2.eqv 123 (by omega)).1 hh))]
  unfold Ref.yU
  rw [if_neg (show ¬zd s ((st0 (q+1)).i+1)=123 from h123)]
  have hf:=Jr h h92 h117
  have hh:=wm 4 0 (m+2) (q+2) h2
  have hx:=Xl (s:=s) (L:=L) 4 0 (m+2) (q+2) h2
  have e1:Ref.yT s ((st0 (q+1)).i-1)=Ref.yT s q:=rfl
  have e2:Ref.yT s ((st0 (q+1)).i+5)=Ref.yT s (q+6):=rfl
  by_cases hk:(Pro.hexO L (s.size:Nat) 4 0 (m+2)).k=0
  ·have hb:=(hh.1 hk).2
   have hn:=(Pro.vN L (s.size:Nat) 4 0 (m+2) h2.le).2.2 hk
   have hb':Br s L (m+6) (q+6):=by rw [hn] at hb;exact hb
   have hlow:=low_same hb'
   rw [if_pos hk] at hf
   by_cases hr:55296≤(Pro.hexO L (s.size:Nat) 4 0 (m+2)).v∧(Pro.hexO L (s.size:Nat) 4 0 (m+2)).v≤56319
   ·by_cases hl:56320≤Ref.yT s (q+6)∧Ref.yT s (q+6)≤57343
    ·have hp:Ref.kF s (st0 (q+1))=true:=by unfold Ref.kF;rw [e1,e2,hf];simp [hr.1,hr.2,hl.1,hl.2]
     rw [if_pos hl] at hlow
     rw [if_pos hp,e1,e2,hf]
     have hu:Pro.z8 L (s.size:Nat) (m+2)=Pro.good (65536+((Pro.hexO L (s.size:Nat) 4 0 (m+2)).v-55296)*1024+(Ref.yT s (q+6)-56320)) (m+6+6):=by
      unfold Pro.z8
      rw [if_neg (by omega),hn,show m+2+4=m+6 by omega,hlow,if_pos (by omega)]
     rw [hu]
     have hlo:0≤Pro.lowV L (s.size:Nat) (m+6):=by rw [hlow];omega
     have h92':zd s (q+6)=92∧zd s (q+7)=117:=by
      by_cases hn92:s.size<q+6+6∨zd s (q+6)≠92∨zd s (q+6+1)≠117
      ·rw [Ref.jQ hn92] at hl;omega
      ·have e:q+6+1=q+7:=rfl
       rw [e] at hn92
       exact ⟨Classical.byContradiction fun hh=>hn92 (.inr (.inl hh)),Classical.byContradiction fun hh=>hn92 (.inr (.inr hh))⟩
     have hbb:=(hb'.go h92'.1 (by omega) (by omega)).go h92'.2 (by omega) (by omega)
     have hh2:=wm 4 0 (m+6+2) (q+6+2) hbb
     have hk2:(Pro.hexO L (s.size:Nat) 4 0 (m+6+2)).k=0:=by
      by_cases hk2:(Pro.hexO L (s.size:Nat) 4 0 (m+6+2)).k=0
      ·exact hk2
      ·have:=Jr hb' h92'.1 h92'.2
       rw [if_neg hk2] at this
       omega
     have hend:=(hh2.1 hk2).2
     have hn2:=(Pro.vN L (s.size:Nat) 4 0 (m+6+2) hbb.le).2.2 hk2
     rw [hn2] at hend
     rw [go0]
     refine ⟨fun _=>⟨rfl,rfl,?_,hend⟩,fun h=>absurd rfl h⟩
     show 65536+(_-55296)*1024+Ref.yT s (q+6)-56320=65536+(_-55296)*1024+(Ref.yT s (q+6)-56320)
     omega
    ·have hp:¬Ref.kF s (st0 (q+1))=true:=by unfold Ref.kF;rw [e1,e2];simp;intro _ _;omega
     rw [if_neg hl] at hlow
     rw [if_neg hp]
     have hu:Pro.z8 L (s.size:Nat) (m+2)=Pro.hexO L (s.size:Nat) 4 0 (m+2):=by
      unfold Pro.z8
      rw [if_neg (by omega),hn,show m+2+4=m+6 by omega,hlow,if_neg (by omega)]
     rw [hu]
     exact hx
   ·have hp:¬Ref.kF s (st0 (q+1))=true:=by unfold Ref.kF;rw [e1,hf];simp;omega
    rw [if_neg hp]
    have hu:Pro.z8 L (s.size:Nat) (m+2)=Pro.hexO L (s.size:Nat) 4 0 (m+2):=by
     unfold Pro.z8
     rw [if_pos (by omega)]
    rw [hu]
    exact hx
  ·rw [if_neg hk] at hf
   have hp:¬Ref.kF s (st0 (q+1))=true:=by unfold Ref.kF;rw [e1,hf];simp
   rw [if_neg hp]
   have hu:Pro.z8 L (s.size:Nat) (m+2)=Pro.hexO L (s.size:Nat) 4 0 (m+2):=by
    unfold Pro.z8
    rw [if_pos (.inl hk)]
   rw [hu]
   exact hx
end Eqv
end
section
open Go.RowKit
namespace Eqv
variable {s:ByteArray} {L:List (Int×Int)}
theorem num_same (cls:Bool){m q:Nat}(h:Br s L m q)(h92:zd s q=92)(hcl:cls=true→zd s (q+1)≠45∧zd s (q+1)≠98) :
  Same s L (Pro.numO L (s.size:Nat) (m+1)) (Ref.zI s cls (st0 (q+1))).1 (Ref.zI s cls (st0 (q+1))).2:=by
 have h1:=h.go h92 (by omega) (by omega)
 have hi:(st0 (q+1)).i=q+1:=rfl
 have hbad:∀ (hs:Pro.qY (Pro.zh L (m+1))=false) (k1:zd s (q+1)≠48) (k2:zd s (q+1)≠99) (k3:zd s (q+1)≠120) (k4:zd s (q+1)≠117) (hc:¬0≤Ref.yu (zd s (q+1))) (hg:Ref.signB (zd s (q+1))=false),
   Same s L (Pro.numO L (s.size:Nat) (m+1)) (Ref.zI s cls (st0 (q+1))).1 (Ref.zI s cls (st0 (q+1))).2:=by
  intro hs k1 k2 k3 k4 hc hg
  have n1:=fun e=>k1 ((h1.eqv 48 (by omega)).1 e)
  have n2:=fun e=>k2 ((h1.eqv 99 (by omega)).1 e)
  have n3:=fun e=>k3 ((h1.eqv 120 (by omega)).1 e)
  have n4:=fun e=>k4 ((h1.eqv 117 (by omega)).1 e)
  unfold Pro.numO Ref.zI
  rw [hi,if_neg (by simp [hs]),if_neg n1,if_neg n2,if_neg n3,if_neg (fun hh=>n4 hh.1),if_neg n4,if_neg hc,if_neg k1,if_neg k2,if_neg k3,if_neg k4,if_neg (by
   rintro (hh |⟨hh,he⟩)
   ·rw [hg] at hh;cases hh
   ·exact (hcl hh).1 he),if_neg (fun hh=>(hcl hh.1).2 hh.2),fail0]
  exact yP (by decide) rfl h1.place.symm
 rcases h1.alike with ⟨e,hb⟩ |⟨hhi,hbi⟩
 ·cases hs:Pro.qY (Pro.zh L (m+1))
  ·have hc:¬0≤Ref.yu (zd s (q+1)):=by rw [e] at hs;unfold Pro.qY at hs;simp at hs;rw [←Kc];omega
   have hg:Ref.signB (zd s (q+1))=false:=by rw [e] at hs;unfold Pro.qY at hs;simp at hs;exact hs.2
   by_cases k1:zd s (q+1)=48
   ·have h2:=h1.go k1 (by omega) (by omega)
    unfold Pro.numO Ref.zI
    rw [hi,if_neg (by simp [hs]),if_pos ((h1.eqv 48 (by omega)).2 k1),if_neg hc,if_pos k1]
    unfold Pro.jy Pro.dig
    rcases h2.alike with ⟨e2,hb2⟩ |⟨hh2,hb2⟩
    ·rw [e2]
     by_cases hd:48≤zd s (q+1+1)∧zd s (q+1+1)≤57
     ·rw [if_pos (by simp [hd.1,hd.2]),if_pos hd,go0,fail0]
      exact yP (by decide) rfl h2.place.symm
     ·rw [if_neg (by simp;omega),if_neg hd,go0]
      exact xU h2
    ·rw [if_neg (by simp;omega),if_neg (by omega),go0]
     exact xU h2
   ·by_cases k2:zd s (q+1)=99
    ·have h2:=h1.go k2 (by omega) (by omega)
     unfold Pro.numO Ref.zI
     rw [hi,if_neg (by simp [hs]),if_neg (by rw [e];exact k1),if_pos ((h1.eqv 99 (by omega)).2 k2),if_neg hc,if_neg k1,if_pos k2]
     unfold Pro.xd
     rcases h2.alike with ⟨e2,hb2⟩ |⟨hh2,hb2⟩
     ·rw [e2]
      by_cases hd:(97≤zd s (q+1+1)∧zd s (q+1+1)≤122)∨(65≤zd s (q+1+1)∧zd s (q+1+1)≤90)
      ·rw [if_pos (show Pro.letter _ from hd),if_pos hd,go0]
       exact xU (h2.next (by omega) (by omega))
      ·rw [if_neg (show ¬Pro.letter _ from hd),if_neg hd,go0,fail0]
       exact yP (by decide) rfl h2.place.symm
     ·rw [if_neg (show ¬Pro.letter _ by unfold Pro.letter;omega),if_neg (by omega),go0,fail0]
      exact yP (by decide) rfl h2.place.symm
    ·by_cases k3:zd s (q+1)=120
     ·have h2:=h1.go k3 (by omega) (by omega)
      unfold Pro.numO Ref.zI
      rw [hi,if_neg (by simp [hs]),if_neg (by rw [e];exact k1),if_neg (by rw [e];exact k2),if_pos ((h1.eqv 120 (by omega)).2 k3),if_neg hc,if_neg k1,if_neg k2,if_pos k3,go0]
      exact Xl 2 0 (m+2) (q+2) h2
     ·by_cases k4:zd s (q+1)=117
      ·have hu:=Js h h92 k4
       unfold Pro.numO Ref.zI
       rw [hi,if_neg (by simp [hs]),if_neg (by rw [e];exact k1),if_neg (by rw [e];exact k2),if_neg (by rw [e];exact k3),if_neg hc,if_neg k1,if_neg k2,if_neg k3,if_pos k4]
       have e117:=(h1.eqv 117 (by omega)).2 k4
       by_cases h123:Pro.zh L (m+2)=123
       ·rw [if_pos h123] at hu
        rw [if_pos ⟨e117,h123⟩]
        exact hu
       ·rw [if_neg h123] at hu
        rw [if_neg (fun hh=>h123 hh.2),if_pos e117]
        exact hu
      ·exact hbad hs k1 k2 k3 k4 hc hg
  ·unfold Pro.numO Ref.zI
   rw [hi,if_pos hs,e]
   by_cases hc:0≤Ref.yu (zd s (q+1))
   ·have hcs:=zaR hc
    rw [if_pos hc,go0]
    have:Pro.jC (zd s (q+1))=Ref.yu (zd s (q+1)):=by unfold Pro.jC;rw [if_pos (show 0≤Pro.ctlV _ from hc)];rfl
    rw [this]
    exact xU (h1.next (by omega) (by omega))
   ·have hg:Pro.sign (zd s (q+1))=true:=by rw [e] at hs;unfold Pro.qY at hs;simp at hs;rcases hs with hs |hs;exact absurd hs hc;exact hs
    have hcs:=VR hg
    rw [if_neg hc,if_neg hcs.2.2.1,if_neg hcs.2.2.2.1,if_neg hcs.2.2.2.2.1,if_neg hcs.2.2.2.2.2,if_pos (.inl hg),go0]
    have:Pro.jC (zd s (q+1))=zd s (q+1):=by unfold Pro.jC;rw [if_neg (show ¬0≤Pro.ctlV _ from hc)]
    rw [this]
    exact xU (h1.next (by omega) (by omega))
 ·exact hbad (VQ hhi) (by omega) (by omega) (by omega) (by omega) (by rw [←Kc];exact Kd hbi) (by rw [←zaQ];exact QB hbi)
theorem Zw (x:Int):Pro.setB x=true↔Ref.setL x≠[]:=by
 unfold Pro.setB Ref.setL
 simp only [List.any_cons,List.any_nil,Bool.or_false,Bool.or_eq_true,decide_eq_true_eq]
 constructor
 ·intro h
  (repeat' split)<;>first |(intro hh;cases hh;done) |omega
 ·intro h
  (repeat' split at h)<;>first |omega |exact absurd rfl h
theorem Ye (x:Int):Pro.backB x=Ref.backB x:=by
 have:(Pro.backB x=true)↔(Ref.backB x=true):=by
  unfold Pro.backB Ref.backB
  simp
  omega
 cases h1:Pro.backB x<;>cases h2:Ref.backB x<;>simp_all
theorem Xm {x:Int}(h:128≤x∨x<0):Pro.setB x=false:=by unfold Pro.setB;simp;omega
theorem QC {x:Int}(h:128≤x∨x<0):Pro.backB x=false:=by unfold Pro.backB;simp;omega
theorem Xn {x:Int}(h:Pro.setB x=true):Pro.backB x=false∧68≤x∧x≤119∧x≠98∧x≠45:=by unfold Pro.setB at h;unfold Pro.backB;simp at h ⊢;omega
theorem Xo (cls:Bool){m q:Nat}(h:Br s L m q)(h92:zd s q=92)(hcl:cls=true→zd s (q+1)≠45∧zd s (q+1)≠98) :
  Same s L (Pro.escO L (s.size:Nat) m) (Pro.escO L (s.size:Nat) m).v (Ref.zG s cls (st0 q)).2.2∧((Pro.escO L (s.size:Nat) m).k=0→(Ref.zG s cls (st0 q)).2.1 = !Pro.setB (Pro.zh L (m+1))∧((Ref.zG s cls (st0 q)).2.1=true→(Ref.zG s cls (st0 q)).1=⟨false,[((Pro.escO L (s.size:Nat) m).v,(Pro.escO L (s.size:Nat) m).v)]⟩)):=by
 have h1:=h.go h92 (by omega) (by omega)
 have hi:(st0 q).i=q:=rfl
 have hset:Pro.setB (Pro.zh L (m+1))=Pro.setB (zd s (q+1)):=by
  rcases h1.alike with ⟨e,_⟩ |⟨a,b⟩
  ·rw [e]
  ·rw [Xm (.inl a),Xm (.inl b)]
 have hback:Pro.backB (Pro.zh L (m+1))=Ref.backB (zd s (q+1)):=by
  rw [←Ye]
  rcases h1.alike with ⟨e,_⟩ |⟨a,b⟩
  ·rw [e]
  ·rw [QC (.inl a),QC (.inl b)]
 cases hs:Pro.setB (zd s (q+1))
 ·have hs':¬Ref.setL (zd s (q+1))≠[]:=fun hh=>by rw [(Zw _).2 hh] at hs;cases hs
  cases hb:Ref.backB (zd s (q+1))
  ·have e1:Pro.escO L (s.size:Nat) m=Pro.numO L (s.size:Nat) (m+1):=by unfold Pro.escO;rw [hset,hback,hs,hb];simp
   have e2:Ref.zG s cls (st0 q)=(⟨false,[((Ref.zI s cls (st0 (q+1))).1,(Ref.zI s cls (st0 (q+1))).1)]⟩,true,(Ref.zI s cls (st0 (q+1))).2):=by
    unfold Ref.zG;rw [hi,hb,if_neg (by simp),if_neg hs',go0]
   have hn:=num_same cls h h92 hcl
   rw [e1,e2,hset,hs]
   refine ⟨⟨fun hk=>?_,hn.2⟩,fun hk=>⟨rfl,fun _=>?_⟩⟩
   ·have:=hn.1 hk;exact ⟨this.1,this.2.1,rfl,this.2.2.2⟩
   ·have:=(hn.1 hk).2.2.1;rw [this]
  ·have e1:Pro.escO L (s.size:Nat) m=Pro.bad 6 (Pro.zB L (s.size:Nat) m) (m+1):=by unfold Pro.escO;rw [hset,hback,hs,hb];simp
   have e2:(Ref.zG s cls (st0 q)).2.2=⟨q+1,6,q⟩:=by unfold Ref.zG;rw [hi,if_pos hb,go0,fail0]
   rw [e1,e2]
   exact ⟨yP (by decide) rfl h.place.symm,fun hk=>absurd hk (by simp [Pro.bad])⟩
 ·have hsb:=Xn hs
  have hb:Ref.backB (zd s (q+1))=false:=by rw [←Ye];exact hsb.1
  have e1:Pro.escO L (s.size:Nat) m=Pro.good (Pro.zh L (m+1)) (m+2):=by unfold Pro.escO;rw [hset,hs,if_pos rfl]
  have e2:Ref.zG s cls (st0 q)=(⟨decide (zd s (q+1)<97),Ref.setL (zd s (q+1))⟩,false,st0 (q+2)):=by
   unfold Ref.zG;rw [hi,if_neg (by simp [hb]),if_pos ((Zw _).1 hs),go0]
  rw [e1,e2,hset,hs]
  exact ⟨⟨fun _=>⟨rfl,rfl,rfl,h1.next (by omega) (by omega)⟩,fun hk=>absurd rfl hk⟩,fun _=>⟨rfl,fun hh=>by cases hh⟩⟩
theorem ju {m q:Nat}(h:Br s L m q)(hlt:q<s.size) :
  Same s L (Pro.zj L (s.size:Nat) m) (Pro.zj L (s.size:Nat) m).v (Ref.zk s (st0 q)).2.2∧((Pro.zj L (s.size:Nat) m).k=0→(Ref.zk s (st0 q)).2.1 = !Pro.many L m∧((Ref.zk s (st0 q)).2.1=true→(Ref.zk s (st0 q)).1=⟨false,[((Pro.zj L (s.size:Nat) m).v,(Pro.zj L (s.size:Nat) m).v)]⟩)):=by
 have hi:(st0 q).i=q:=rfl
 by_cases h92:zd s q=92
 ·have h1:=h.go h92 (by omega) (by omega)
  have e92:=(h.eqv 92 (by omega)).2 h92
  have hm:Pro.many L m=Pro.setB (Pro.zh L (m+1)):=Pro.ZU e92
  have eR:Ref.zk s (st0 q)=Ref.zG s true (st0 q):=by unfold Ref.zk;rw [hi,if_pos h92]
  by_cases hsp:zd s (q+1)=98∨zd s (q+1)=45
  ·have hb0:zd s (q+1)<128:=by omega
   have e:=h1.ascii hb0
   have hset:Pro.setB (zd s (q+1))=false:=by rcases hsp with hh |hh<;>rw [hh]<;>decide
   have hs':¬Ref.setL (zd s (q+1))≠[]:=fun hh=>by rw [(Zw _).2 hh] at hset;cases hset
   have hb:Ref.backB (zd s (q+1))=false:=by rcases hsp with hh |hh<;>rw [hh]<;>decide
   have e2:Ref.zG s true (st0 q)=(⟨false,[((Ref.zI s true (st0 (q+1))).1,(Ref.zI s true (st0 (q+1))).1)]⟩,true,(Ref.zI s true (st0 (q+1))).2):=by
    unfold Ref.zG;rw [hi,hb,if_neg (by simp),if_neg hs',go0]
   have hn:∃ v,Ref.zI s true (st0 (q+1))=(v,st0 (q+2))∧Pro.zj L (s.size:Nat) m=Pro.good v (m+2):=by
    have hi1:(st0 (q+1)).i=q+1:=rfl
    rcases hsp with hh |hh
    ·refine ⟨8,?_,?_⟩
     ·unfold Ref.zI;rw [hi1,hh,if_neg (by decide),if_neg (by decide),if_neg (by decide),if_neg (by decide),if_neg (by decide),if_neg (by decide),if_pos ⟨rfl,rfl⟩,go0]
     ·unfold Pro.zj;rw [if_pos ⟨e92,by rw [e];exact hh⟩]
    ·refine ⟨45,?_,?_⟩
     ·unfold Ref.zI;rw [hi1,hh,if_neg (by decide),if_neg (by decide),if_neg (by decide),if_neg (by decide),if_neg (by decide),if_pos (.inr ⟨rfl,rfl⟩),go0]
     ·unfold Pro.zj;rw [if_neg (fun hx=>by rw [e,hh] at hx;exact absurd hx.2 (by decide)),if_pos ⟨e92,by rw [e];exact hh⟩]
   obtain ⟨v,hn1,hn2⟩:=hn
   rw [eR,e2,hn1,hn2,hm,e,hset]
   exact ⟨⟨fun _=>⟨rfl,rfl,rfl,h1.next (by omega) (by omega)⟩,fun hk=>absurd rfl hk⟩,fun _=>⟨rfl,fun _=>rfl⟩⟩
  ·have e1:Pro.zj L (s.size:Nat) m=Pro.escO L (s.size:Nat) m:=by
    unfold Pro.zj
    rw [if_neg (fun hh=>hsp (.inl ((h1.eqv 98 (by omega)).1 hh.2))),if_neg (fun hh=>hsp (.inr ((h1.eqv 45 (by omega)).1 hh.2))),if_pos e92]
   rw [e1,eR,hm]
   exact Xo true h h92 (fun _=>⟨fun hh=>hsp (.inr hh),fun hh=>hsp (.inl hh)⟩)
 ·have n92:¬Pro.zh L m=92:=fun hh=>h92 ((h.eqv 92 (by omega)).1 hh)
  obtain ⟨k,c,ho,hg,hn⟩:=h.step hlt
  have hl:=(h.letter hlt ho).1
  have e1:Pro.zj L (s.size:Nat) m=Pro.good c (m+1):=by
   unfold Pro.zj
   rw [if_neg (fun hh=>n92 hh.1),if_neg (fun hh=>n92 hh.1),if_neg n92,hl]
  have e2:Ref.zk s (st0 q)=(⟨false,[(c,c)]⟩,true,st0 (q+k)):=by unfold Ref.zk;rw [hi,if_neg h92,ho];rfl
  rw [e1,e2,Pro.zan n92]
  exact ⟨⟨fun _=>⟨rfl,rfl,rfl,hn⟩,fun hk=>absurd rfl hk⟩,fun _=>⟨rfl,fun _=>rfl⟩⟩
end Eqv
end
end Go.Proofs.YtnagphodmfejiaaGreatDoor
