/- The program's machine that reads characters: its first byte, and its further ones. -/
import Derived.Test.YtcgleficedipkaaGreatDoorYProAProJ2
import Derived.Laws.BitsLemmas
import Derived.ScopeJumps
import Derived.RangeFuncWrites
import Derived.RangeFuncCalls
import Derived.RangeFuncNested
namespace Go.Proofs.YtcgleficedipkaaGreatDoor
open _root_.Go.Proofs.Tryz
section
open Go.RowKit
set_option maxHeartbeats 2000000
structure y6 (w:World)(b:Nat)(s:ByteArray)(nx p:Nat)(ch:Int):Prop where
 c0:w.cell? ⟨b,0,none⟩=some (.string s)
 c1:w.cell? ⟨b,1,none⟩=some (.int .i64 nx)
 c2:w.cell? ⟨b,2,none⟩=some (.int .i64 p)
 c3:w.cell? ⟨b,3,none⟩=some (.int .i32 ch)
 f1:w.frozen? ⟨b,1,none⟩=false
 f2:w.frozen? ⟨b,2,none⟩=false
 f3:w.frozen? ⟨b,3,none⟩=false
section
variable {w w':World} {b:Nat} {s:ByteArray} {nx p:Nat} {ch:Int}
theorem y6.lt (h:y6 w b s nx p ch):b<w.heap.size:=zE w ⟨b,0,none⟩ h.c0
theorem y6.keep {P:Nat->Prop}(h:y6 w b s nx p ch)(k:ze P w w')(hn:¬P b):y6 w' b s nx p ch:=
 ⟨(k.cell (p:=⟨b,0,none⟩) h.lt hn).trans h.c0,(k.cell (p:=⟨b,1,none⟩) h.lt hn).trans h.c1,(k.cell (p:=⟨b,2,none⟩) h.lt hn).trans h.c2,(k.cell (p:=⟨b,3,none⟩) h.lt hn).trans h.c3,
  (k.frozen (p:=⟨b,1,none⟩) h.lt hn).trans h.f1,(k.frozen (p:=⟨b,2,none⟩) h.lt hn).trans h.f2,(k.frozen (p:=⟨b,3,none⟩) h.lt hn).trans h.f3⟩
theorem y6.drewN (h:y6 w b s nx p ch)(q:Nat):y6 (w.drewN q) b s nx p ch:=h.keep ((ze.refl (fun _=>False) w).drewN q) (fun f=>f)
theorem y6.set1 (h:y6 w b s nx p ch)(n:Nat)(j:Int)(hj:j=(n:Int)):y6 (w.setCell ⟨b,1,none⟩ (.int .i64 j)) b s n p ch:=by
 subst hj;exact ⟨(zF _ _ _ _ (by simp)).trans h.c0,yY _ _ _ h.c1,(zF _ _ _ _ (by simp)).trans h.c2,(zF _ _ _ _ (by simp)).trans h.c3,(zk _ _ _ _).trans h.f1,(zk _ _ _ _).trans h.f2,(zk _ _ _ _).trans h.f3⟩
theorem y6.set2 (h:y6 w b s nx p ch)(n:Nat)(j:Int)(hj:j=(n:Int)):y6 (w.setCell ⟨b,2,none⟩ (.int .i64 j)) b s nx n ch:=by
 subst hj;exact ⟨(zF _ _ _ _ (by simp)).trans h.c0,(zF _ _ _ _ (by simp)).trans h.c1,yY _ _ _ h.c2,(zF _ _ _ _ (by simp)).trans h.c3,(zk _ _ _ _).trans h.f1,(zk _ _ _ _).trans h.f2,(zk _ _ _ _).trans h.f3⟩
theorem y6.set3 (h:y6 w b s nx p ch)(j k:Int)(hj:k=j):y6 (w.setCell ⟨b,3,none⟩ (.int .i32 k)) b s nx p j:=by
 subst hj;exact ⟨(zF _ _ _ _ (by simp)).trans h.c0,(zF _ _ _ _ (by simp)).trans h.c1,(zF _ _ _ _ (by simp)).trans h.c2,yY _ _ _ h.c3,(zk _ _ _ _).trans h.f1,(zk _ _ _ _).trans h.f2,(zk _ _ _ _).trans h.f3⟩
end
namespace Pro
def yN (b:Int):Int:=if b<128 then b else if b<224 then b % 32 else if b<240 then b % 16 else b % 8
def xy (s:ByteArray)(nx:Nat)(lo hi:Int):Bool:=decide (nx<s.size) && decide (lo<=zd s nx) && decide (zd s nx<=hi)
theorem QX {s:ByteArray}{nx:Nat}{lo hi:Int}(h:nx<s.size)(h1:¬zd s nx<lo)(h2:¬hi<zd s nx):xy s nx lo hi=true:=by
 unfold xy;simp;omega
theorem XW {s:ByteArray}{nx:Nat}{lo hi:Int}(h:¬(nx<s.size/\lo<=zd s nx/\zd s nx<=hi)):xy s nx lo hi=false:=by
 cases hb:xy s nx lo hi with
 |false=>rfl
 |true=>unfold xy at hb;simp at hb;exact absurd ⟨hb.1.1,hb.1.2,hb.2⟩ h
end Pro
theorem qF (b:Nat)(s:ByteArray)(nx p:Nat)(ch:Int)(w:World)(h:y6 w b s nx p ch)(hs:s.size<=400)(hn:nx<s.size) :
  Calls prog 170 #[.pointer (some ⟨b,0,none⟩)] w fun x w'=>x = .returned (.int .u8 (zd s nx))/\y6 w' b s (nx+1) p (Pro.yN (zd s nx))/\ze (zt b) w w':=by
 have H:=zc h;obtain ⟨c0,c1,c2,c3,f1,f2,f3⟩:=h;have hb0:=(yL s nx).2 hn;have hb1:=yD s nx;have hix:∀ wx,(Instr.index 9 (.string s) (.int .i64 (nx:Int))).run prog wx = .ok (.int .u8 (zd s nx)) wx:=fun wx=>vf s nx hn _ rfl wx;have hcs:(zd s nx<128/\Hid (Pro.yN (zd s nx)=zd s nx))\/(128<=zd s nx/\zd s nx<224/\Hid (Pro.yN (zd s nx)=zd s nx % 32))\/(128<=zd s nx/\224<=zd s nx/\zd s nx<240/\Hid (Pro.yN (zd s nx)=zd s nx % 16))\/(128<=zd s nx/\224<=zd s nx/\240<=zd s nx/\Hid (Pro.yN (zd s nx)=zd s nx % 8)):=by
  unfold Pro.yN;by_cases h1:zd s nx<128
  ·left;rw [if_pos h1];exact ⟨h1,rfl⟩
  ·right;rw [if_neg h1];by_cases h2:zd s nx<224
   ·left;rw [if_pos h2];exact ⟨by omega,h2,rfl⟩
   ·right;rw [if_neg h2];by_cases h3:zd s nx<240
    ·left;rw [if_pos h3];exact ⟨by omega,by omega,h3,rfl⟩
    ·right;rw [if_neg h3];exact ⟨by omega,by omega,by omega,rfl⟩
 have e31:=u8_and31 (zd s nx) hb0 (by omega);have e15:=u8_and15 (zd s nx) hb0 (by omega);have e7:=u8_and7 (zd s nx) hb0 (by omega);have hcv:IntKind.i32.wrap (zd s nx)=zd s nx:=wraps_i32 _ hb0 (by omega);rcases hcs with ⟨k1,HL⟩ |⟨k1,k2,HL⟩ |⟨k1,k2,k3,HL⟩ |⟨k1,k2,k3,HL⟩
 all_goals
  go_enter func170,ntmps170;go_wp2_with fail;go_quiet (fail);go_wp2_with fail;go_ret;refine ⟨rfl,(((zb H).drewN _).set1 (nx+1) _ (by omega)).set3 _ _ ?_,(((ze.refl _ _).drewN _).mine _ _).mine _ _⟩;rw [zb HL]
  try rw [wraps_i32 _ (by omega) (by omega)]
theorem xz (b:Nat)(s:ByteArray)(nx p:Nat)(ch lo hi:Int)(w:World)(h:y6 w b s nx p ch)(hs:s.size<=400)(hn:nx<=s.size)(hc0:0<=ch)(hc1:ch<33554432)(hl:128<=lo)(hh:hi<=191) :
  Calls prog 171 #[.pointer (some ⟨b,0,none⟩),.int .u8 lo,.int .u8 hi] w fun x w'=>ze (zt b) w w'/\((Pro.xy s nx lo hi=true/\x = .returned (.bool true)/\y6 w' b s (nx+1) p (ch*64+zd s nx-128))\/(Pro.xy s nx lo hi=false/\x = .returned (.bool false)/\y6 w' b s nx p ch)):=by
 have H:=zc h;obtain ⟨c0,c1,c2,c3,f1,f2,f3⟩:=h;by_cases hlt:nx<s.size
 ·have he:((nx:Int) == (s.size:Int))=false:=by simp;omega
  have hb0:=(yL s nx).2 hlt;have hb1:=yD s nx;have hix:∀ wx,(Instr.index 9 (.string s) (.int .i64 (nx:Int))).run prog wx = .ok (.int .u8 (zd s nx)) wx:=fun wx=>vf s nx hlt _ rfl wx;by_cases h1:zd s nx<lo
  ·have HB:Hid (Pro.xy s nx lo hi=false):=Pro.XW (by omega);go_enter func171,ntmps171;go_wp2_with fail;go_quiet (fail);go_wp2_with fail;go_quiet (fail);go_wp2_with fail;go_ret;exact ⟨by first |exact (ze.refl _ _).drewN _ |exact ((ze.refl _ _).drewN _).drewN _,.inr ⟨zb HB,rfl,by first |exact (zb H).drewN _ |exact ((zb H).drewN _).drewN _⟩⟩
  ·by_cases h2:hi<zd s nx
   ·have HB:Hid (Pro.xy s nx lo hi=false):=Pro.XW (by omega);go_enter func171,ntmps171;go_wp2_with fail;go_quiet (fail);go_wp2_with fail;go_quiet (fail);go_wp2_with fail;go_ret;exact ⟨by first |exact (ze.refl _ _).drewN _ |exact ((ze.refl _ _).drewN _).drewN _,.inr ⟨zb HB,rfl,by first |exact (zb H).drewN _ |exact ((zb H).drewN _).drewN _⟩⟩
   ·have HB:Hid (Pro.xy s nx lo hi=true):=Pro.QX hlt h1 h2;have e63:=u8_and63 (zd s nx) hb0 (by omega);have hor:bits BinOp.or IntKind.i32 (ch*64) (zd s nx % 64)=ch*64+zd s nx-128:=by
     rw [i32_or6 (ch*64) (zd s nx % 64) (by omega) (by omega) (by omega) (by omega) (by omega)];omega
    go_enter func171,ntmps171;go_wp2_with fail;go_quiet (fail);go_wp2_with fail;go_quiet (fail);go_wp2_with fail;go_ret;exact ⟨(((ze.refl _ _).drewN _).mine _ _).mine _ _,.inl ⟨zb HB,rfl,(((zb H).drewN _).set1 (nx+1) _ (by omega)).set3 _ _ rfl⟩⟩
 ·have he:((nx:Int) == (s.size:Int))=true:=by simp;omega
  have HB:Hid (Pro.xy s nx lo hi=false):=Pro.XW (by omega);go_enter func171,ntmps171;go_wp2_with fail;go_quiet (fail);go_wp2_with fail;go_ret;exact ⟨(ze.refl _ _).drewN _,.inr ⟨zb HB,rfl,(zb H).drewN _⟩⟩
set_option maxHeartbeats 4000000
set_option maxRecDepth 1000000
def Exit.jumps (J:Nat->Act->World->Prop)(Q:Exit->Act->World->Prop):Exit->Act->World->Prop
 | .goto l,a,w=>J l a w
 |e,a,w=>Q e a w
theorem QO {P:Program}{a:Act}{w:World}{Q:Exit->Act->World->Prop}{c:Code}(J:Nat->Act->World->Prop)(μ:Nat->Nat)(rest:Nat->Code)(hf:∀ l a w,J l a w->findLabel c l=some (rest l))
  (first:c.wp P (Exit.jumps J Q) a w)
  (pass:∀ l a w,J l a w->(rest l).wp P (Exit.jumps (fun l' a' w'=>J l' a' w'/\μ l'<μ l) Q) a w):(Code.scope c).wp P Q a w:=by
 intro b k cs;have hg:∀ l a w,J l a w->gotoIn l (.inScope c :: k)=some (.code (rest l) :: .inScope c :: k):=fun l a w h=>by simp [gotoIn,hf l a w h]
 have key:∀ n l a w,μ l=n->J l a w->∃ e a' w',Q e a' w'/\Arrives P (lone (b.at a (.code (rest l) :: .inScope c :: k)) cs w) b k cs e a' w':=by
  intro n
  induction n using Nat.strongRecOn with
  |_ n ih=>
   intro l a w hn hJ;obtain ⟨e,a₁,w₁,hq,harr⟩:=pass l a w hJ b (.inScope c :: k) cs;cases e with
   |normal=>exact ⟨.normal,a₁,w₁,hq,Steps.trans harr (.one step_inScope)⟩
   |exit id=>exact ⟨.exit id,a₁,w₁,hq,fun k' hk=>harr k' (by simp [exitTo,hk])⟩
   |goto l'=>
    obtain ⟨hJ',hlt⟩:=hq;obtain ⟨e₂,a₂,w₂,hq₂,harr₂⟩:=ih _ (by omega) l' a₁ w₁ rfl hJ';exact ⟨e₂,a₂,w₂,hq₂,.of_steps (harr _ (hg l' a₁ w₁ hJ')) harr₂⟩
   |ret=>exact ⟨_,a₁,w₁,hq,harr⟩
   |panic ch=>exact ⟨_,a₁,w₁,hq,harr⟩
   |outgrown=>exact ⟨_,a₁,w₁,hq,harr⟩
 obtain ⟨e,a₁,w₁,hq,harr⟩:=first b (.inScope c :: k) cs
 cases e with
 |normal=>exact ⟨.normal,a₁,w₁,hq,.head step_scope (Steps.trans harr (.one step_inScope))⟩
 |exit id=>exact ⟨.exit id,a₁,w₁,hq,fun k' hk=>.head step_scope (harr k' (by simp [exitTo,hk]))⟩
 |goto l'=>
  obtain ⟨e₂,a₂,w₂,hq₂,harr₂⟩:=key _ l' a₁ w₁ rfl hq;exact ⟨e₂,a₂,w₂,hq₂,.of_steps (.head step_scope (harr _ (hg l' a₁ w₁ hq))) harr₂⟩
 |ret=>exact ⟨_,a₁,w₁,hq,.of_steps (.one step_scope) harr⟩
 |panic ch=>exact ⟨_,a₁,w₁,hq,.of_steps (.one step_scope) harr⟩
 |outgrown=>exact ⟨_,a₁,w₁,hq,.of_steps (.one step_scope) harr⟩
theorem XX {P:Program}{a:Act}{w:World}{Q:Exit->Act->World->Prop}{c r0 r1 r2 r3 r4 r5 r6:Code}(J:Nat->Act->World->Prop)(μ:Nat->Nat)
  (h0:findLabel c 0=some r0) (h1:findLabel c 1=some r1) (h2:findLabel c 2=some r2) (h3:findLabel c 3=some r3) (h4:findLabel c 4=some r4) (h5:findLabel c 5=some r5) (h6:findLabel c 6=some r6)
  (hJ:∀ l a w,J l a w->l<=6) (first:c.wp P (Exit.jumps J Q) a w)
  (p0:∀ a w,J 0 a w->r0.wp P (Exit.jumps (fun l' a' w'=>J l' a' w'/\μ l'<μ 0) Q) a w) (p1:∀ a w,J 1 a w->r1.wp P (Exit.jumps (fun l' a' w'=>J l' a' w'/\μ l'<μ 1) Q) a w)
  (p2:∀ a w,J 2 a w->r2.wp P (Exit.jumps (fun l' a' w'=>J l' a' w'/\μ l'<μ 2) Q) a w) (p3:∀ a w,J 3 a w->r3.wp P (Exit.jumps (fun l' a' w'=>J l' a' w'/\μ l'<μ 3) Q) a w)
  (p4:∀ a w,J 4 a w->r4.wp P (Exit.jumps (fun l' a' w'=>J l' a' w'/\μ l'<μ 4) Q) a w) (p5:∀ a w,J 5 a w->r5.wp P (Exit.jumps (fun l' a' w'=>J l' a' w'/\μ l'<μ 5) Q) a w)
  (p6:∀ a w,J 6 a w->r6.wp P (Exit.jumps (fun l' a' w'=>J l' a' w'/\μ l'<μ 6) Q) a w):(Code.scope c).wp P Q a w:=by
 have hcs:∀ l,l<=6->l=0\/l=1\/l=2\/l=3\/l=4\/l=5\/l=6:=fun l h=>by omega
 refine QO J μ (fun l=>match l with
  |0=>r0
  |1=>r1
  |2=>r2
  |3=>r3
  |4=>r4
  |5=>r5
  |_=>r6) ?_ first ?_
 ·intro l a w h;rcases hcs l (hJ l a w h) with rfl |rfl |rfl |rfl |rfl |rfl |rfl
  ·exact h0
  ·exact h1
  ·exact h2
  ·exact h3
  ·exact h4
  ·exact h5
  ·exact h6
 ·intro l a w h;rcases hcs l (hJ l a w h) with rfl |rfl |rfl |rfl |rfl |rfl |rfl
  ·exact p0 a w h
  ·exact p1 a w h
  ·exact p2 a w h
  ·exact p3 a w h
  ·exact p4 a w h
  ·exact p5 a w h
  ·exact p6 a w h
namespace Pro
section
variable (s:ByteArray)
def oneM (nx:Nat)(ch:Int):Option (Nat×Int):=if xy s nx 128 191=true then some (nx+1,ch*64+zd s nx-128) else none
def twoM (nx:Nat)(ch:Int):Option (Nat×Int):=if xy s nx 128 191=true then oneM s (nx+1) (ch*64+zd s nx-128) else none
def kN (lo hi:Int)(nx:Nat)(ch:Int):Option (Nat×Int):=if xy s nx lo hi=true then oneM s (nx+1) (ch*64+zd s nx-128) else none
def qQ (lo hi:Int)(nx:Nat)(ch:Int):Option (Nat×Int):=if xy s nx lo hi=true then twoM s (nx+1) (ch*64+zd s nx-128) else none
def atLab (l:Nat)(nx:Nat)(ch:Int):Option (Nat×Int):=match l with
 |0=>oneM s nx ch
 |1=>kN s 160 191 nx ch
 |2=>kN s 128 159 nx ch
 |3=>twoM s nx ch
 |4=>qQ s 144 191 nx ch
 |5=>qQ s 128 191 nx ch
 |_=>qQ s 128 143 nx ch
def yO (b:Int):Nat:=if b<128 then 7 else if b<194 then 8 else if b<224 then 0 else if b=224 then 1 else if b=237 then 2 else if b<240 then 3 else if b=240 then 4 else if b<244 then 5 else if b=244 then 6 else 8
def yi (p:Nat):Option (Nat×Int):=
 if p<s.size then (if yO (zd s p)=7 then some (p+1,zd s p) else if yO (zd s p)=8 then none else atLab s (yO (zd s p)) (p+1) (yN (zd s p))) else none
end
end Pro
def LabAt (b:Nat)(s:ByteArray)(p:Nat)(w:World)(l:Nat)(a':Act)(w':World):Prop:=l<=6/\(∃ (nx:Nat) (ch:Int),y6 w' b s nx p ch/\0<=ch/\ch<(if l=0 then 33554432 else if l<=3 then 524288 else 8192)/\nx<=s.size/\Pro.yi s p=Pro.atLab s l nx ch)/\ze (zt b) w w'/\
 ∃ u1 u2 u3 u4 u5 u6 u7 u8 u9 u10 u11 u12 u13 u14 u15 u16 u17 u18 u19 u20 u21 u22 u23 u24 u25 u26 u27 u28 u29 u30 u31 u32 u33 u34 u35 u36 u37 u38 u39 u40 u41 u42 u43 u44 u45 u46 u47 u48 u49 u50 u51 u52 u53 u54 u55 u56 u57 u58 u59 u60 u61 u62 u63:Value,a' = { tmps:=#[.pointer (some ⟨b,0,none⟩),u1,u2,u3,u4,u5,u6,u7,u8,u9,u10,u11,u12,u13,u14,u15,u16,u17,u18,u19,u20,u21,u22,u23,u24,u25,u26,u27,u28,u29,u30,u31,u32,u33,u34,u35,u36,u37,u38,u39,u40,u41,u42,u43,u44,u45,u46,u47,u48,u49,u50,u51,u52,u53,u54,u55,u56,u57,u58,u59,u60,u61,u62,u63],defers:=[] }
theorem xu {J:Nat->Act->World->Prop}{Q:Exit->Act->World->Prop}{a:Act}{w:World}:Exit.jumps J Q .ret a w=Q .ret a w:=rfl
namespace Pro
theorem Y8 {s:ByteArray}{p:Nat}(h:p<s.size)(hl:zd s p<128):yi s p=some (p+1,yN (zd s p)):=by
 have e:yO (zd s p)=7:=by unfold yO;rw [if_pos hl]
 have e2:yN (zd s p)=zd s p:=by unfold yN;rw [if_pos hl]
 unfold yi;rw [if_pos h,if_pos e,e2]
theorem jo {s:ByteArray}{p:Nat}(hl:yO (zd s p)=8):yi s p=none:=by
 unfold yi;rw [hl];simp
theorem yV {s:ByteArray}{p l:Nat}(h:p<s.size)(hl:yO (zd s p)=l)(h7:l<=6):yi s p=atLab s l (p+1) (yN (zd s p)):=by
 subst hl;unfold yi;rw [if_pos h,if_neg (by omega),if_neg (by omega)]
theorem j6 {s:ByteArray}{nx:Nat}{lo hi:Int}(h:xy s nx lo hi=true):nx<s.size:=by unfold xy at h;simp at h;exact h.1.1
theorem j7 {s:ByteArray}{nx:Nat}{lo hi:Int}(h:xy s nx lo hi=true):lo<=zd s nx/\zd s nx<=hi:=by unfold xy at h;simp at h;exact ⟨h.1.2,h.2⟩
theorem jp {b:Int}(h0:128<=b)(h1:b<256):0<=yN b/\yN b<32:=by unfold yN;(repeat' split)<;>omega
end Pro
def labM (l:Nat):Nat:=if l=0 then 0 else if l<=3 then 1 else 2
theorem KR (b:Nat)(s:ByteArray)(nx p:Nat)(ch:Int)(w:World)(h:y6 w b s nx p ch)(hs:s.size<=400)(hn:nx<=s.size) :
  Calls prog 128 #[.pointer (some ⟨b,0,none⟩)] w fun x w'=>ze (zt b) w w'/\((∃ n c,Pro.yi s nx=some (n,c)/\x = .returned (.bool true)/\y6 w' b s n nx c)\/(Pro.yi s nx=none/\x = .returned (.bool false))):=by
 have H:=zc h;have c0:=h.c0;have c1:=h.c1;have c2:=h.c2;have f2:=h.f2;clear h;go_enter func128,ntmps128;go_wp2_with fail;refine XX (LabAt b s nx w) labM rfl rfl rfl rfl rfl rfl rfl (fun l a w h=>h.1) ?_ ?_ ?_ ?_ ?_ ?_ ?_ ?_
 case refine_1=>
  by_cases hlt:nx<s.size
  ·have he:((nx:Int) == (s.size:Int))=false:=(by simp;omega);have hb0:=(yL s nx).2 hlt;have hb1:=yD s nx;go_wp2_with fail;go_quiet (fail);go_wp2_with (go_at_call 170;refine (qF b s nx nx ch _ (by first |exact ((zb H).set2 nx _ rfl).drewN _ |exact (zb H).set2 nx _ rfl) hs hlt).mono ?_;rintro e w1 ⟨rfl,hm1,hO1⟩;have HM1:=zc hm1;have HO1:Hid (ze (zt b) w w1):=by first |exact (((ze.refl (zt b) w).mine 2 _).drewN _).trans hO1 |exact (((ze.refl (zt b) w).drewN _).mine 2 _).trans hO1 |exact ((ze.refl (zt b) w).mine 2 _).trans hO1;clear hm1 hO1)
   all_goals have hle:=Pro.jp (b:=zd s nx)
   all_goals try simp only [beq_iff_eq,beq_eq_false_iff_ne,ne_eq] at *
   all_goals first
    |(rw [xu];go_ret;first |exact ⟨zb HO1,.inr ⟨Pro.jo (by unfold Pro.yO;(repeat' split)<;>omega),rfl⟩⟩ |exact ⟨zb HO1,.inl ⟨nx+1,Pro.yN (zd s nx),Pro.Y8 hlt (by omega),rfl,zb HM1⟩⟩)
    |(go_step3;exact ⟨by decide,⟨nx+1,Pro.yN (zd s nx),zb HM1,(hle (by omega) (by omega)).1,(by have:=(hle (by omega) (by omega)).2;simp;omega),by omega,Pro.yV hlt (by unfold Pro.yO;(repeat' split)<;>omega) (by decide)⟩,zb HO1,_,_,_,_,_,_,_,_,_,_,_,_,_,_,_,_,_,_,_,_,_,_,_,_,_,_,_,_,_,_,_,_,_,_,_,_,_,_,_,_,_,_,_,_,_,_,_,_,_,_,_,_,_,_,_,_,_,_,_,_,_,_,_,rfl⟩)
  ·have he:((nx:Int) == (s.size:Int))=true:=(by simp;omega);have HR:Hid (Pro.yi s nx=none):=(by unfold Pro.yi;rw [if_neg hlt];rfl);go_wp2_with fail;go_quiet (fail);go_wp2_with fail;rw [xu];go_ret;exact ⟨((ze.refl _ _).mine _ _).drewN _,.inr ⟨zb HR,rfl⟩⟩
 all_goals
  rintro a' w' ⟨_,⟨n1,ch1,hm,hc0,hc1,hn1,hR⟩,hO,u1,u2,u3,u4,u5,u6,u7,u8,u9,u10,u11,u12,u13,u14,u15,u16,u17,u18,u19,u20,u21,u22,u23,u24,u25,u26,u27,u28,u29,u30,u31,u32,u33,u34,u35,u36,u37,u38,u39,u40,u41,u42,u43,u44,u45,u46,u47,u48,u49,u50,u51,u52,u53,u54,u55,u56,u57,u58,u59,u60,u61,u62,u63,rfl⟩;simp at hc1;have HM:=zc hm;have HO:=zc hO;have HRR:=zc hR;clear hm hO hR c0 c1 c2 f2;have hby:=yD s n1;go_wp2_with (go_at_call 171;refine zb ?_);refine zc ?_;refine (xz b s n1 nx ch1 _ _ _ (zb HM) hs hn1 hc0 (by omega) (by decide) (by decide)).mono ?_;rintro e w1 ⟨hO1,⟨hT,rfl,hm1⟩ |⟨hT,rfl,_⟩⟩
  all_goals have HO1:=zc ((zb HO).trans hO1)
  ·have hlt1:=Pro.j6 hT;have hge:=Pro.j7 hT;have HM1:=zc hm1;clear hO1 hm1;go_wp2_with fail
   first
    |(rw [xu];go_ret;exact ⟨zb HO1,.inl ⟨_,_,(zb HRR).trans (if_pos hT),rfl,zb HM1⟩⟩)
    |(go_step3;exact ⟨⟨by decide,⟨n1+1,ch1*64+zd s n1-128,zb HM1,by omega,(by simp;omega),by omega,(zb HRR).trans (if_pos hT)⟩,zb HO1,_,_,_,_,_,_,_,_,_,_,_,_,_,_,_,_,_,_,_,_,_,_,_,_,_,_,_,_,_,_,_,_,_,_,_,_,_,_,_,_,_,_,_,_,_,_,_,_,_,_,_,_,_,_,_,_,_,_,_,_,_,_,_,rfl⟩,by decide⟩)
  ·have HT:Hid (¬Pro.xy s n1 _ _=true):=fun h=>(by rw [hT] at h;cases h);clear hO1 hT;go_wp2_with fail;rw [xu];go_ret;exact ⟨zb HO1,.inr ⟨(zb HRR).trans (if_neg (zb HT)),rfl⟩⟩
theorem ze.putObj {P:Nat->Prop}{a w:World}(h:ze P a w)(l:Nat)(o:Obj)(hp:P l\/a.heap.size<=l):ze P a (w.putObj l o):=
 ⟨h.os,h.tape,h.output,yZ h.size (by simp [World.putObj]),fun k hk hn=>(World.putObj_heap_other (by
  rintro rfl;rcases hp with hp |hp
  ·exact hn hp
  ·omega)).trans (h.block k hk hn)⟩
def strB (A:World)(k:Nat):Prop:=∃ s,A.cell? ⟨k,0,none⟩=some (.string s)
theorem Wt {A:World}{k:Nat}{o:Obj}(h:A.heap[k]?=some o)(ho:o.isCells=false):¬strB A k:=by
 rintro ⟨s,hs⟩;unfold World.cell? at hs;rw [h] at hs;cases o with
 |cells c T f=>simp [Obj.isCells] at ho
 |_=>simp at hs
structure kW (W W':World):Prop where
 size:W.heap.size<=W'.heap.size
 same:∀ (k:Nat),strB W k->W'.heap[k]?=W.heap[k]?
theorem kW.trans {A B C:World}(h:kW A B)(k:kW B C):kW A C:=⟨yZ h.size k.size,fun i hi=>(k.same i (by
 obtain ⟨s,hs⟩:=hi;exact ⟨s,(vw (w:=A) (h.same i ⟨s,hs⟩)).trans hs⟩)).trans (h.same i hi)⟩
theorem kW.putObj (W:World)(l:Nat)(o o':Obj)(ho:W.heap[l]?=some o)(hc:o.isCells=false):kW W (W.putObj l o'):=
 ⟨by simp [World.putObj],fun k hk=>World.putObj_heap_other (by
  rintro rfl;exact Wt ho hc hk)⟩
def SeqT {α:Type}(F:Fence)(n:Nat)(P:Program)(gf:Nat)(lb:Array Value)(encs:α->Array Value)(xs:List α)(w0:World):Prop:=
 ∀ (l:Nat) (J:List α->World->Prop) (W:World),Q8 w0 W->
  (∀ pre A A',J pre A->ze (fun k=>W.heap.size<=k/\strB A k) A A'->J pre A')->
  (∀ pre x A,J pre A->(pre++[x]) <+: xs->YieldAt F (n-1) P l (encs x) A fun e A'=>e = .returned (.bool true)/\J (pre++[x]) A'/\kW A A')->
  J [] W->CallsIn F n P gf (#[.func (.yield l) #[] #[]]++lb) W fun e W'=>(∃ v,e = .returned v)/\J xs W'
def goesPost {α:Type}(B:Nat)(I:List α->World->Prop)(xs:List α)(W:World):Exit->Act->World->Prop
 | .normal,_,W'=>KeepsFrom B W W'/\kW W W'/\I xs W'
 |_,_,_=>False
variable {F:Fence} {n:Nat} {P:Program}
theorem KS {α:Type}{g:Operand}{ps:Array Tmp}{assign body:Code}{Q:Exit->Act->World->Prop}{a:Act}{w:World}
  (hro:F.round=none) (h1:1<=n) {gf:Nat} {lb:Array Value} (hg:a.eval g = .func (.func gf) #[] lb) (hFg:F.fn gf) (eg:∀ args w,(callFunc gf args).run P w = .ok (.enter gf args) w)
  {encs:α->Array Value} {xs:List α} (hseq:SeqT F (n-1) P gf lb encs xs w) (hps:∀ x,(encs x).size=ps.size)
  (I:List α->World->Prop)
  (hI:∀ pre A A',I pre A->ze (fun k=>w.heap.size<=k/\(strB A k\/∃ o,A.heap[k]?=some o/\o.isCells=false)) A A'->I pre A')
  (h0:I [] w) (a₁:α->Act)
  (hassign:∀ (l:Nat) (x:α) (W:World) (K:Act->World->Prop),K (a₁ x) W->
   assign.wpIn (F.inRound l) (n-1-1) P (Exit.then K (fun _ _ _=>False)) { tmps:=(ps.zip (encs x)).foldl (fun t (p,v)=>t.setIfInBounds p v) a.tmps,defers:=[] } W)
  (hbody:∀ (l:Nat) (pre:List α) (x:α) (W:World),I pre W->(pre++[x]) <+: xs->body.wpIn (F.inRound l) (n-1-1) P (goesPost w.heap.size I (pre++[x]) W) (a₁ x) W)
  (hdone:∀ (D:Nat) (W:World),w.heap.size<=D->I xs W->W.heap[D]?=some (.deferred (some []))->Q .normal { a with defers:={ target:=.collected D,args:=#[] } :: a.defers } W) :
  (Code.rangeFunc g ps assign body).wpIn F n P Q a w:=by
 refine wpIn_rangeFunc ?_;intro fn hfn;rw [hro];obtain ⟨rec,hrec⟩:∃ rec:LoopState->Loop,rec=fun st=>{ state:=st,pending:=none,fn,tmps:=a.tmps,params:=ps,assign,body,defers:=w.heap.size }:=⟨_,rfl⟩
 obtain ⟨V,hV⟩:∃ V,(w.alloc (.deferred (some []))).alloc (.loop (rec .ready))=V:=⟨_,rfl⟩
 have hO:Q8 w V:=by rw [<-hV];exact ((ze.refl _ w).alloc _).alloc _
 have hsz:V.heap.size=w.heap.size+1+1:=by rw [<-hV];simp
 have hL1:V.heap[w.heap.size+1]?=some (.loop (rec .ready)):=by
  rw [<-hV];have:=World.alloc_heap_new (w.alloc (.deferred (some []))) (.loop (rec .ready));rwa [Yz] at this
 have hD1:V.heap[w.heap.size]?=some (.deferred (some [])):=by
  rw [<-hV];exact (Below.heap_alloc _ _ _ (by simp)).trans (World.alloc_heap_new w _)
 refine ⟨w.heap.size+1,[{ target:=.collected w.heap.size,args:=#[] }],V,{ target:=.fn (.func gf) lb,args:=#[.func (.yield (w.heap.size+1)) #[] #[]] },V,gf,
  #[.func (.yield (w.heap.size+1)) #[] #[]]++lb,V,?_,?_,?_,?_,fun _=>h1,?_⟩
 ·rw [<-hV,hrec];exact run_enterLoop_outer _ _ _ _ _
 ·simp only [resolve,hg];simp [go_sem]
 ·intro f' hf';simp [Target.leads] at hf';subst hf';exact hFg
 ·simp [invoke,go_sem,eg]
 ·have put:∀ pre A o o',I pre A->A.heap[w.heap.size+1]?=some o->o.isCells=false->I pre (A.putObj (w.heap.size+1) o'):=fun pre A o o' hi ho hc=>
   hI pre A _ hi ((ze.refl _ A).putObj _ _ (.inl ⟨by omega,.inr ⟨o,ho,hc⟩⟩))
  refine (hseq (w.heap.size+1) (fun pre W=>I pre W/\W.heap[w.heap.size+1]?=some (.loop (rec .ready))/\W.heap[w.heap.size]?=some (.deferred (some []))) V hO ?_ ?_ ⟨hI _ _ _ h0 (hO.mono (fun _ _ f=>f.elim)),hL1,hD1⟩).mono ?_
  ·rintro pre A A' ⟨hi,hl,hd⟩ hA;have lt:∀ k o,A.heap[k]?=some o->k<V.heap.size->A'.heap[k]?=some o:=fun k o hk hlt=>(hA.block k (yK.1 hk).1 (fun hp=>by omega)).trans hk;exact ⟨hI pre A A' hi (hA.mono (fun k hk hp=>⟨by omega,.inl hp.2⟩)),lt _ _ hl (by omega),lt _ _ hd (by omega)⟩
  ·rintro pre x W ⟨hi,hl,hd⟩ hpre;have hlt:w.heap.size+1<W.heap.size:=(yK.1 hl).1;have hy:=run_yield (P:=P) (args:=encs x) hl (by rw [hrec];exact hps x);rw [hrec] at hy;refine ⟨fn,_,assign,body,hy,roundIn_of_wpIn hfn (hassign _ x W _ ⟨_,run_beginRound hl (by rw [hrec]),?_⟩)⟩;have hl2:(W.putObj (w.heap.size+1) (.loop { rec .ready with state:=.busy })).heap[w.heap.size+1]?=some (.loop { rec .ready with state:=.busy }):=World.putObj_heap_same hlt;have hd2:(W.putObj (w.heap.size+1) (.loop { rec .ready with state:=.busy })).heap[w.heap.size]?=some (.deferred (some [])):=(World.putObj_heap_other (by omega)).trans hd;have hk2:kW W (W.putObj (w.heap.size+1) (.loop { rec .ready with state:=.busy })):=kW.putObj _ _ _ _ hl rfl;refine wpIn_mono (hbody _ pre x _ (put _ _ _ _ hi hl rfl) hpre) ?_;rintro e a3 W3 hp;cases e with
   |normal=>
    obtain ⟨hk3,hkt3,hi3⟩:=hp;have hl3:=hk3.same _ _ (by omega) hl2 rfl;have hd3:=hk3.same _ _ (z8 _) hd2 rfl;have hr:=run_endRound (P:=P) none hl3;refine ⟨_,_,hr,rfl,⟨put _ _ _ _ hi3 hl3 rfl,?_,(World.putObj_heap_other (by omega)).trans hd3⟩,(hk2.trans hkt3).trans (kW.putObj _ _ _ _ hl3 rfl)⟩;rw [World.putObj_heap_same (yK.1 hl3).1,hrec];rfl
   |ret=>exact hp.elim
   |exit id=>exact hp.elim
   |goto t=>exact hp.elim
   |panic ch=>exact hp.elim
   |outgrown=>exact hp.elim
  ·rintro e W2 ⟨⟨v,rfl⟩,hi,hl,hd⟩;have he:=run_endLoop (P:=P) hl (by rw [hrec];simp);refine ⟨none,_,he.trans (by rw [hrec]),?_⟩;exact hdone _ _ (z8 _) (put _ _ _ _ hi hl rfl) ((World.putObj_heap_other (by omega)).trans hd)
end
section
open Go.RowKit
def SeqO {α:Type}(F:Fence)(n:Nat)(P:Program)(gf:Nat)(lb:Array Value)(encs:α->Array Value)(xs:List α)(D:Nat->Prop)(w0:World):Prop:=
 ∀ (l:Nat) (J:List α->(Nat->Prop)->World->Prop) (O0:Nat->Prop) (W:World),Q8 w0 W->(∀ k,D k->¬O0 k)->(∀ k,O0 k->k<W.heap.size)->
  (∀ pre O A A',J pre O A->ze (fun k=>W.heap.size<=k/\¬O k) A A'->J pre O A')->
  (∀ pre O x A,J pre O A->(pre++[x]) <+: xs->YieldAt F (n-1) P l (encs x) A fun e A'=>e = .returned (.bool true)/\∃ O',J (pre++[x]) O' A'/\(∀ k,O' k->O k\/A.heap.size<=k)/\ze O A A'/\∀ k,O' k->k<A'.heap.size)->
  J [] O0 W->CallsIn F n P gf (#[.func (.yield l) #[] #[]]++lb) W fun e W'=>(∃ v,e = .returned v)/\∃ O',J xs O' W'
def goesO {α:Type}(I:List α->(Nat->Prop)->World->Prop)(xs:List α)(O:Nat->Prop)(W:World):Exit->Act->World->Prop
 | .normal,_,W'=>∃ O',I xs O' W'/\(∀ k,O' k->O k\/W.heap.size<=k)/\ze O W W'/\∀ k,O' k->k<W'.heap.size
 |_,_,_=>False
variable {F:Fence} {n:Nat} {P:Program}
theorem yP (W:World)(l:Nat)(o:Obj):(W.putObj l o).heap.size=W.heap.size:=by simp [World.putObj]
theorem vT {α:Type}{g:Operand}{ps:Array Tmp}{assign body:Code}{Q:Exit->Act->World->Prop}{a:Act}{w:World}
  (hro:F.round=none) (h1:1<=n) {gf:Nat} {lb:Array Value} (hg:a.eval g = .func (.func gf) #[] lb) (hFg:F.fn gf) (eg:∀ args w,(callFunc gf args).run P w = .ok (.enter gf args) w)
  {encs:α->Array Value} {xs:List α} {D:Nat->Prop} (hseq:SeqO F (n-1) P gf lb encs xs D w) (hps:∀ x,(encs x).size=ps.size)
  (I:List α->(Nat->Prop)->World->Prop) (O0:Nat->Prop) (hO0:∀ k,O0 k->k<w.heap.size) (hD:∀ k,D k->k<w.heap.size/\¬O0 k)
  (hI:∀ pre O A A',I pre O A->ze (fun k=>w.heap.size<=k/\¬O k) A A'->I pre O A')
  (h0:I [] O0 w) (a₁:α->Act)
  (hassign:∀ (l:Nat) (x:α) (W:World) (K:Act->World->Prop),K (a₁ x) W->
   assign.wpIn (F.inRound l) (n-1-1) P (Exit.then K (fun _ _ _=>False)) { tmps:=(ps.zip (encs x)).foldl (fun t (p,v)=>t.setIfInBounds p v) a.tmps,defers:=[] } W)
  (hbody:∀ (l:Nat) (pre:List α) (O:Nat->Prop) (x:α) (W:World),w.heap.size<=l->¬O l->(∃ r,W.heap[l]?=some (.loop r))->I pre O W->(pre++[x]) <+: xs->body.wpIn (F.inRound l) (n-1-1) P (goesO I (pre++[x]) O W) (a₁ x) W)
  (hdone:∀ (D:Nat) (O:Nat->Prop) (W:World),w.heap.size<=D->¬O D->I xs O W->W.heap[D]?=some (.deferred (some []))->Q .normal { a with defers:={ target:=.collected D,args:=#[] } :: a.defers } W) :
  (Code.rangeFunc g ps assign body).wpIn F n P Q a w:=by
 refine wpIn_rangeFunc ?_;intro fn hfn;rw [hro];obtain ⟨rec,hrec⟩:∃ rec:LoopState->Loop,rec=fun st=>{ state:=st,pending:=none,fn,tmps:=a.tmps,params:=ps,assign,body,defers:=w.heap.size }:=⟨_,rfl⟩
 obtain ⟨V,hV⟩:∃ V,(w.alloc (.deferred (some []))).alloc (.loop (rec .ready))=V:=⟨_,rfl⟩
 have hO:Q8 w V:=by rw [<-hV];exact ((ze.refl _ w).alloc _).alloc _
 have hsz:V.heap.size=w.heap.size+1+1:=by rw [<-hV];simp
 have hL1:V.heap[w.heap.size+1]?=some (.loop (rec .ready)):=by
  rw [<-hV];have:=World.alloc_heap_new (w.alloc (.deferred (some []))) (.loop (rec .ready));rwa [Yz] at this
 have hD1:V.heap[w.heap.size]?=some (.deferred (some [])):=by
  rw [<-hV];exact (Below.heap_alloc _ _ _ (by simp)).trans (World.alloc_heap_new w _)
 refine ⟨w.heap.size+1,[{ target:=.collected w.heap.size,args:=#[] }],V,{ target:=.fn (.func gf) lb,args:=#[.func (.yield (w.heap.size+1)) #[] #[]] },V,gf,
  #[.func (.yield (w.heap.size+1)) #[] #[]]++lb,V,?_,?_,?_,?_,fun _=>h1,?_⟩
 ·rw [<-hV,hrec];exact run_enterLoop_outer _ _ _ _ _
 ·simp only [resolve,hg];simp [go_sem]
 ·intro f' hf';simp [Target.leads] at hf';subst hf';exact hFg
 ·simp [invoke,go_sem,eg]
 ·have put:∀ pre Ob A o',I pre Ob A->¬Ob (w.heap.size+1)->I pre Ob (A.putObj (w.heap.size+1) o'):=fun pre Ob A o' hi hn=>
   hI pre Ob A _ hi ((ze.refl _ A).putObj _ _ (.inl ⟨by omega,hn⟩))
  refine (hseq (w.heap.size+1) (fun pre O W=>∃ Ob:Nat->Prop,(∀ k,O k↔Ob k\/k=w.heap.size+1)/\¬Ob (w.heap.size+1)/\¬Ob w.heap.size/\I pre Ob W/\W.heap[w.heap.size+1]?=some (.loop (rec .ready))/\W.heap[w.heap.size]?=some (.deferred (some []))) (fun k=>O0 k\/k=w.heap.size+1) V hO ?_ ?_ ?_ ?_
   ⟨O0,fun _=>Iff.rfl,fun h=>by have:=hO0 _ h;omega,fun h=>by have:=hO0 _ h;omega,hI _ _ _ _ h0 (hO.mono (fun _ _ f=>f.elim)),hL1,hD1⟩).mono ?_
  ·intro k hk hor;obtain ⟨h1,h2⟩:=hD k hk;rcases hor with h |h
   ·exact h2 h
   ·omega
  ·rintro k (h |h)
   ·have:=hO0 k h;omega
   ·omega
  ·rintro pre O A A' ⟨Ob,hOb,hnL,hnD,hi,hl,hd⟩ hA;have lt:∀ k o,A.heap[k]?=some o->k<V.heap.size->A'.heap[k]?=some o:=fun k o hk hlt=>(hA.block k (yK.1 hk).1 (fun hp=>by omega)).trans hk;exact ⟨Ob,hOb,hnL,hnD,hI pre Ob A A' hi (hA.mono (fun k hk hp=>⟨by omega,fun h=>hp.2 ((hOb k).2 (.inl h))⟩)),lt _ _ hl (by omega),lt _ _ hd (by omega)⟩
  ·rintro pre O x W ⟨Ob,hOb,hnL,hnD,hi,hl,hd⟩ hpre;have hlt:w.heap.size+1<W.heap.size:=(yK.1 hl).1;have hy:=run_yield (P:=P) (args:=encs x) hl (by rw [hrec];exact hps x);rw [hrec] at hy;refine ⟨fn,_,assign,body,hy,roundIn_of_wpIn hfn (hassign _ x W _ ⟨_,run_beginRound hl (by rw [hrec]),?_⟩)⟩;have hl2:(W.putObj (w.heap.size+1) (.loop { rec .ready with state:=.busy })).heap[w.heap.size+1]?=some (.loop { rec .ready with state:=.busy }):=World.putObj_heap_same hlt;have hd2:(W.putObj (w.heap.size+1) (.loop { rec .ready with state:=.busy })).heap[w.heap.size]?=some (.deferred (some [])):=(World.putObj_heap_other (by omega)).trans hd;have hs2:(W.putObj (w.heap.size+1) (.loop { rec .ready with state:=.busy })).heap.size=W.heap.size:=(by simp [World.putObj]);have hk2:ze O W (W.putObj (w.heap.size+1) (.loop { rec .ready with state:=.busy })):=(ze.refl _ W).putObj _ _ (.inl ((hOb _).2 (.inr rfl)));refine wpIn_mono (hbody _ pre Ob x _ (by omega) hnL ⟨_,hl2⟩ (put _ _ _ _ hi hnL) hpre) ?_;rintro e a3 W3 hp;cases e with
   |normal=>
    obtain ⟨O2,hi3,hsub,hO3,hlt3⟩:=hp;have keep:∀ k o,(W.putObj (w.heap.size+1) (.loop { rec .ready with state:=.busy })).heap[k]?=some o->¬Ob k->W3.heap[k]?=some o:=fun k o hk hn=>(hO3.block k (yK.1 hk).1 hn).trans hk;have hl3:=keep _ _ hl2 hnL;have hd3:=keep _ _ hd2 hnD;have hr:=run_endRound (P:=P) none hl3;have hn2:¬O2 (w.heap.size+1):=fun h=>by
     rcases hsub _ h with h |h
     ·exact hnL h
     ·rw [yP] at h;omega
    have hn3:¬O2 w.heap.size:=fun h=>by
     rcases hsub _ h with h |h
     ·exact hnD h
     ·rw [yP] at h;omega
    refine ⟨_,_,hr,rfl,fun k=>O2 k\/k=w.heap.size+1,⟨O2,fun _=>Iff.rfl,hn2,hn3,put _ _ _ _ hi3 hn2,?_,(World.putObj_heap_other (by omega)).trans hd3⟩,?_,(hk2.trans (hO3.mono (fun k _ h=>(hOb k).2 (.inl h)))).putObj _ _ (.inl ((hOb _).2 (.inr rfl))),fun k hk=>by
     rw [yP];rcases hk with h |h
     ·exact hlt3 k h
     ·rw [h];exact (yK.1 hl3).1⟩
    ·rw [World.putObj_heap_same (yK.1 hl3).1,hrec];rfl
    ·rintro k (h |h)
     ·rcases hsub k h with h |h
      ·exact .inl ((hOb k).2 (.inl h))
      ·rw [yP] at h;exact .inr h
     ·exact .inl ((hOb k).2 (.inr h))
   |ret=>exact hp.elim
   |exit id=>exact hp.elim
   |goto t=>exact hp.elim
   |panic ch=>exact hp.elim
   |outgrown=>exact hp.elim
  ·rintro e W2 ⟨⟨v,rfl⟩,O',Ob,hOb,hnL,hnD,hi,hl,hd⟩;have he:=run_endLoop (P:=P) hl (by rw [hrec];simp);refine ⟨none,_,he.trans (by rw [hrec]),?_⟩;exact hdone _ Ob _ (z8 _) hnD (put _ _ _ _ hi hnL) ((World.putObj_heap_other (by omega)).trans hd)
theorem KT {α:Type}{g:Operand}{ps:Array Tmp}{assign body:Code}{Q:Exit->Act->World->Prop}{a:Act}{w:World}
  (hro:F.round=none) (h1:1<=n) {gf:Nat} {lb:Array Value} (hg:a.eval g = .func (.func gf) #[] lb) (hFg:F.fn gf) (eg:∀ args w,(callFunc gf args).run P w = .ok (.enter gf args) w)
  {encs:α->Array Value} {xs:List α} {D:Nat->Prop} (hseq:SeqO F (n-1) P gf lb encs xs D w) (hps:∀ x,(encs x).size=ps.size)
  (I:List α->(Nat->Prop)->World->Prop) (O0:Nat->Prop) (hO0:∀ k,O0 k->k<w.heap.size) (hD:∀ k,D k->k<w.heap.size/\¬O0 k)
  (hI:∀ pre O A A',I pre O A->ze (fun k=>w.heap.size<=k/\¬O k) A A'->I pre O A')
  (h0:I [] O0 w) (Ax:α->Act->World->Prop) (hAx:∀ x a V l o o',Ax x a V->V.heap[l]?=some o->o.isCells=false->Ax x a (V.putObj l o'))
  (hassign:∀ (l:Nat) (x:α) (W:World) (K:Act->World->Prop),(∀ a' V,Q8 W V->Ax x a' V->K a' V)->
   assign.wpIn (F.inRound l) (n-1-1) P (Exit.then K (fun _ _ _=>False)) { tmps:=(ps.zip (encs x)).foldl (fun t (p,v)=>t.setIfInBounds p v) a.tmps,defers:=[] } W)
  (hbody:∀ (l:Nat) (pre:List α) (O:Nat->Prop) (x:α) (a':Act) (W:World),w.heap.size<=l->¬O l->(∃ r,W.heap[l]?=some (.loop r))->I pre O W->(pre++[x]) <+: xs->Ax x a' W->body.wpIn (F.inRound l) (n-1-1) P (goesO I (pre++[x]) O W) a' W)
  (hdone:∀ (D:Nat) (O:Nat->Prop) (W:World),w.heap.size<=D->¬O D->I xs O W->W.heap[D]?=some (.deferred (some []))->Q .normal { a with defers:={ target:=.collected D,args:=#[] } :: a.defers } W) :
  (Code.rangeFunc g ps assign body).wpIn F n P Q a w:=by
 refine wpIn_rangeFunc ?_;intro fn hfn;rw [hro];obtain ⟨rec,hrec⟩:∃ rec:LoopState->Loop,rec=fun st=>{ state:=st,pending:=none,fn,tmps:=a.tmps,params:=ps,assign,body,defers:=w.heap.size }:=⟨_,rfl⟩
 obtain ⟨V,hV⟩:∃ V,(w.alloc (.deferred (some []))).alloc (.loop (rec .ready))=V:=⟨_,rfl⟩
 have hO:Q8 w V:=by rw [<-hV];exact ((ze.refl _ w).alloc _).alloc _
 have hsz:V.heap.size=w.heap.size+1+1:=by rw [<-hV];simp
 have hL1:V.heap[w.heap.size+1]?=some (.loop (rec .ready)):=by
  rw [<-hV];have:=World.alloc_heap_new (w.alloc (.deferred (some []))) (.loop (rec .ready));rwa [Yz] at this
 have hD1:V.heap[w.heap.size]?=some (.deferred (some [])):=by
  rw [<-hV];exact (Below.heap_alloc _ _ _ (by simp)).trans (World.alloc_heap_new w _)
 refine ⟨w.heap.size+1,[{ target:=.collected w.heap.size,args:=#[] }],V,{ target:=.fn (.func gf) lb,args:=#[.func (.yield (w.heap.size+1)) #[] #[]] },V,gf,
  #[.func (.yield (w.heap.size+1)) #[] #[]]++lb,V,?_,?_,?_,?_,fun _=>h1,?_⟩
 ·rw [<-hV,hrec];exact run_enterLoop_outer _ _ _ _ _
 ·simp only [resolve,hg];simp [go_sem]
 ·intro f' hf';simp [Target.leads] at hf';subst hf';exact hFg
 ·simp [invoke,go_sem,eg]
 ·have put:∀ pre Ob A o',I pre Ob A->¬Ob (w.heap.size+1)->I pre Ob (A.putObj (w.heap.size+1) o'):=fun pre Ob A o' hi hn=>
   hI pre Ob A _ hi ((ze.refl _ A).putObj _ _ (.inl ⟨by omega,hn⟩))
  refine (hseq (w.heap.size+1) (fun pre O W=>∃ Ob:Nat->Prop,(∀ k,O k↔Ob k\/k=w.heap.size+1)/\¬Ob (w.heap.size+1)/\¬Ob w.heap.size/\I pre Ob W/\W.heap[w.heap.size+1]?=some (.loop (rec .ready))/\W.heap[w.heap.size]?=some (.deferred (some []))) (fun k=>O0 k\/k=w.heap.size+1) V hO ?_ ?_ ?_ ?_
   ⟨O0,fun _=>Iff.rfl,fun h=>by have:=hO0 _ h;omega,fun h=>by have:=hO0 _ h;omega,hI _ _ _ _ h0 (hO.mono (fun _ _ f=>f.elim)),hL1,hD1⟩).mono ?_
  ·intro k hk hor;obtain ⟨h1,h2⟩:=hD k hk;rcases hor with h |h
   ·exact h2 h
   ·omega
  ·rintro k (h |h)
   ·have:=hO0 k h;omega
   ·omega
  ·rintro pre O A A' ⟨Ob,hOb,hnL,hnD,hi,hl,hd⟩ hA;have lt:∀ k o,A.heap[k]?=some o->k<V.heap.size->A'.heap[k]?=some o:=fun k o hk hlt=>(hA.block k (yK.1 hk).1 (fun hp=>by omega)).trans hk;exact ⟨Ob,hOb,hnL,hnD,hI pre Ob A A' hi (hA.mono (fun k hk hp=>⟨by omega,fun h=>hp.2 ((hOb k).2 (.inl h))⟩)),lt _ _ hl (by omega),lt _ _ hd (by omega)⟩
  ·rintro pre O x W0 ⟨Ob,hOb,hnL,hnD,hi0,hl0,hd0⟩ hpre;have hlt0:w.heap.size+1<W0.heap.size:=(yK.1 hl0).1;have hy:=run_yield (P:=P) (args:=encs x) hl0 (by rw [hrec];exact hps x);rw [hrec] at hy;refine ⟨fn,_,assign,body,hy,roundIn_of_wpIn hfn (hassign _ x W0 _ (fun a' W hoW hax=>?_))⟩;have hl:=(hoW.block _ hlt0 (fun f=>f)).trans hl0;have hd:=(hoW.block _ (yK.1 hd0).1 (fun f=>f)).trans hd0;have hi:=hI _ _ _ _ hi0 (hoW.mono (fun _ _ f=>f.elim));have hlt:w.heap.size+1<W.heap.size:=(yK.1 hl).1;refine ⟨_,run_beginRound hl (by rw [hrec]),?_⟩;have hl2:(W.putObj (w.heap.size+1) (.loop { rec .ready with state:=.busy })).heap[w.heap.size+1]?=some (.loop { rec .ready with state:=.busy }):=World.putObj_heap_same hlt;have hd2:(W.putObj (w.heap.size+1) (.loop { rec .ready with state:=.busy })).heap[w.heap.size]?=some (.deferred (some [])):=(World.putObj_heap_other (by omega)).trans hd;have hk2:ze O W0 (W.putObj (w.heap.size+1) (.loop { rec .ready with state:=.busy })):=(hoW.mono (fun _ _ f=>f.elim)).putObj _ _ (.inl ((hOb _).2 (.inr rfl)));refine wpIn_mono (hbody _ pre Ob x a' _ (by omega) hnL ⟨_,hl2⟩ (put _ _ _ _ hi hnL) hpre (hAx _ _ _ _ _ _ hax hl rfl)) ?_;rintro e a3 W3 hp;cases e with
   |normal=>
    obtain ⟨O2,hi3,hsub,hO3,hlt3⟩:=hp;have keep:∀ k o,(W.putObj (w.heap.size+1) (.loop { rec .ready with state:=.busy })).heap[k]?=some o->¬Ob k->W3.heap[k]?=some o:=fun k o hk hn=>(hO3.block k (yK.1 hk).1 hn).trans hk;have hl3:=keep _ _ hl2 hnL;have hd3:=keep _ _ hd2 hnD;have hr:=run_endRound (P:=P) none hl3;have hn2:¬O2 (w.heap.size+1):=fun h=>by
     rcases hsub _ h with h |h
     ·exact hnL h
     ·rw [yP] at h;omega
    have hn3:¬O2 w.heap.size:=fun h=>by
     rcases hsub _ h with h |h
     ·exact hnD h
     ·rw [yP] at h;omega
    refine ⟨_,_,hr,rfl,fun k=>O2 k\/k=w.heap.size+1,⟨O2,fun _=>Iff.rfl,hn2,hn3,put _ _ _ _ hi3 hn2,?_,(World.putObj_heap_other (by omega)).trans hd3⟩,?_,(hk2.trans (hO3.mono (fun k _ h=>(hOb k).2 (.inl h)))).putObj _ _ (.inl ((hOb _).2 (.inr rfl))),fun k hk=>by
     rw [yP];rcases hk with h |h
     ·exact hlt3 k h
     ·rw [h];exact (yK.1 hl3).1⟩
    ·rw [World.putObj_heap_same (yK.1 hl3).1,hrec];rfl
    ·rintro k (h |h)
     ·rcases hsub k h with h |h
      ·exact .inl ((hOb k).2 (.inl h))
      ·rw [yP] at h;exact .inr (yZ hoW.size h)
     ·exact .inl ((hOb k).2 (.inr h))
   |ret=>exact hp.elim
   |exit id=>exact hp.elim
   |goto t=>exact hp.elim
   |panic ch=>exact hp.elim
   |outgrown=>exact hp.elim
  ·rintro e W2 ⟨⟨v,rfl⟩,O',Ob,hOb,hnL,hnD,hi,hl,hd⟩;have he:=run_endLoop (P:=P) hl (by rw [hrec];simp);refine ⟨none,_,he.trans (by rw [hrec]),?_⟩;exact hdone _ Ob _ (z8 _) hnD (put _ _ _ _ hi hnL) ((World.putObj_heap_other (by omega)).trans hd)
theorem KU {α:Type}{g:Operand}{ps:Array Tmp}{assign body:Code}{Q:Exit->Act->World->Prop}{a:Act}{w:World}
  {l₀:Nat} {r₀:Loop} (hro:F.round=some l₀) (hl₀:w.heap[l₀]?=some (.loop r₀)) (h1:1<=n) {gf:Nat} {lb:Array Value} (hg:a.eval g = .func (.func gf) #[] lb) (hFg:F.fn gf) (eg:∀ args w,(callFunc gf args).run P w = .ok (.enter gf args) w)
  {encs:α->Array Value} {xs:List α} {D:Nat->Prop} (hseq:SeqO F (n-1) P gf lb encs xs D w) (hps:∀ x,(encs x).size=ps.size)
  (I:List α->(Nat->Prop)->World->Prop) (O0:Nat->Prop) (hO0:∀ k,O0 k->k<w.heap.size) (hD:∀ k,D k->k<w.heap.size/\¬O0 k)
  (hI:∀ pre O A A',I pre O A->ze (fun k=>w.heap.size<=k/\¬O k) A A'->I pre O A')
  (h0:I [] O0 w) (a₁:α->Act)
  (hassign:∀ (l:Nat) (x:α) (W:World) (K:Act->World->Prop),K (a₁ x) W->
   assign.wpIn (F.inRound l) (n-1-1) P (Exit.then K (fun _ _ _=>False)) { tmps:=(ps.zip (encs x)).foldl (fun t (p,v)=>t.setIfInBounds p v) a.tmps,defers:=[] } W)
  (hbody:∀ (l:Nat) (pre:List α) (O:Nat->Prop) (x:α) (W:World),w.heap.size<=l->¬O l->(∃ r,W.heap[l]?=some (.loop r))->I pre O W->(pre++[x]) <+: xs->body.wpIn (F.inRound l) (n-1-1) P (goesO I (pre++[x]) O W) (a₁ x) W)
  (hdone:∀ (O:Nat->Prop) (W:World),I xs O W->Q .normal a W) :
  (Code.rangeFunc g ps assign body).wpIn F n P Q a w:=by
 refine wpIn_rangeFunc ?_;intro fn hfn;rw [hro];obtain ⟨rec,hrec⟩:∃ rec:LoopState->Loop,rec=fun st=>{ state:=st,pending:=none,fn,tmps:=a.tmps,params:=ps,assign,body,defers:=r₀.defers }:=⟨_,rfl⟩
 obtain ⟨V,hV⟩:∃ V,w.alloc (.loop (rec .ready))=V:=⟨_,rfl⟩
 have hO:Q8 w V:=by rw [<-hV];exact (ze.refl _ w).alloc _
 have hsz:V.heap.size=w.heap.size+1:=by rw [<-hV];simp
 have hL1:V.heap[w.heap.size]?=some (.loop (rec .ready)):=by rw [<-hV];exact World.alloc_heap_new w _
 refine ⟨w.heap.size,[],V,{ target:=.fn (.func gf) lb,args:=#[.func (.yield w.heap.size) #[] #[]] },V,gf,
  #[.func (.yield w.heap.size) #[] #[]]++lb,V,?_,?_,?_,?_,fun _=>h1,?_⟩
 ·rw [<-hV,hrec];exact run_enterLoop_inner hl₀ _ _ _ _ _
 ·simp only [resolve,hg];simp [go_sem]
 ·intro f' hf';simp [Target.leads] at hf';subst hf';exact hFg
 ·simp [invoke,go_sem,eg]
 ·have put:∀ pre Ob A o',I pre Ob A->¬Ob w.heap.size->I pre Ob (A.putObj w.heap.size o'):=fun pre Ob A o' hi hn=>
   hI pre Ob A _ hi ((ze.refl _ A).putObj _ _ (.inl ⟨by omega,hn⟩))
  refine (hseq w.heap.size (fun pre O W=>∃ Ob:Nat->Prop,(∀ k,O k↔Ob k\/k=w.heap.size)/\¬Ob w.heap.size/\I pre Ob W/\W.heap[w.heap.size]?=some (.loop (rec .ready))) (fun k=>O0 k\/k=w.heap.size) V hO ?_ ?_ ?_ ?_
   ⟨O0,fun _=>Iff.rfl,fun h=>by have:=hO0 _ h;omega,hI _ _ _ _ h0 (hO.mono (fun _ _ f=>f.elim)),hL1⟩).mono ?_
  ·intro k hk hor;obtain ⟨h1,h2⟩:=hD k hk;rcases hor with h |h
   ·exact h2 h
   ·omega
  ·rintro k (h |h)
   ·have:=hO0 k h;omega
   ·omega
  ·rintro pre O A A' ⟨Ob,hOb,hnL,hi,hl⟩ hA;have lt:∀ k o,A.heap[k]?=some o->k<V.heap.size->A'.heap[k]?=some o:=fun k o hk hlt=>(hA.block k (yK.1 hk).1 (fun hp=>by omega)).trans hk;exact ⟨Ob,hOb,hnL,hI pre Ob A A' hi (hA.mono (fun k hk hp=>⟨by omega,fun h=>hp.2 ((hOb k).2 (.inl h))⟩)),lt _ _ hl (by omega)⟩
  ·rintro pre O x W ⟨Ob,hOb,hnL,hi,hl⟩ hpre;have hlt:w.heap.size<W.heap.size:=(yK.1 hl).1;have hy:=run_yield (P:=P) (args:=encs x) hl (by rw [hrec];exact hps x);rw [hrec] at hy;refine ⟨fn,_,assign,body,hy,roundIn_of_wpIn hfn (hassign _ x W _ ⟨_,run_beginRound hl (by rw [hrec]),?_⟩)⟩;have hl2:(W.putObj w.heap.size (.loop { rec .ready with state:=.busy })).heap[w.heap.size]?=some (.loop { rec .ready with state:=.busy }):=World.putObj_heap_same hlt;have hs2:(W.putObj w.heap.size (.loop { rec .ready with state:=.busy })).heap.size=W.heap.size:=(by simp [World.putObj]);have hk2:ze O W (W.putObj w.heap.size (.loop { rec .ready with state:=.busy })):=(ze.refl _ W).putObj _ _ (.inl ((hOb _).2 (.inr rfl)));refine wpIn_mono (hbody _ pre Ob x _ (by omega) hnL ⟨_,hl2⟩ (put _ _ _ _ hi hnL) hpre) ?_;rintro e a3 W3 hp;cases e with
   |normal=>
    obtain ⟨O2,hi3,hsub,hO3,hlt3⟩:=hp;have hl3:W3.heap[w.heap.size]?=some (.loop { rec .ready with state:=.busy }):=(hO3.block _ (yK.1 hl2).1 hnL).trans hl2;have hr:=run_endRound (P:=P) none hl3;have hn2:¬O2 w.heap.size:=fun h=>by
     rcases hsub _ h with h |h
     ·exact hnL h
     ·rw [yP] at h;omega
    refine ⟨_,_,hr,rfl,fun k=>O2 k\/k=w.heap.size,⟨O2,fun _=>Iff.rfl,hn2,put _ _ _ _ hi3 hn2,?_⟩,?_,(hk2.trans (hO3.mono (fun k _ h=>(hOb k).2 (.inl h)))).putObj _ _ (.inl ((hOb _).2 (.inr rfl))),fun k hk=>by
     rw [yP];rcases hk with h |h
     ·exact hlt3 k h
     ·rw [h];exact (yK.1 hl3).1⟩
    ·rw [World.putObj_heap_same (yK.1 hl3).1,hrec];rfl
    ·rintro k (h |h)
     ·rcases hsub k h with h |h
      ·exact .inl ((hOb k).2 (.inl h))
      ·rw [yP] at h;exact .inr h
     ·exact .inl ((hOb k).2 (.inr h))
   |ret=>exact hp.elim
   |exit id=>exact hp.elim
   |goto t=>exact hp.elim
   |panic ch=>exact hp.elim
   |outgrown=>exact hp.elim
  ·rintro e W2 ⟨⟨v,rfl⟩,O',Ob,hOb,hnL,hi,hl⟩;have he:=run_endLoop (P:=P) hl (by rw [hrec];simp);exact ⟨none,_,he.trans (by rw [hrec]),hdone Ob _ (put _ _ _ _ hi hnL)⟩
end
end Go.Proofs.YtcgleficedipkaaGreatDoor
