/- The reference's escapes of one number. -/
import Derived.Test.YtnagphodmfejiaaGreatDoorXBaseRefC
import Derived.Lib.Strings
import Derived.Lib.IndexBytes
namespace Go.Proofs.YtnagphodmfejiaaGreatDoor
section
open Go.RowKit
set_option maxHeartbeats 800000
namespace Ref
def kF (s:ByteArray)(st:St):Bool:=decide (55296≤yT s (st.i-1)) && decide (yT s (st.i-1)≤56319) && decide (56320≤yT s (st.i+5)) && decide (yT s (st.i+5)≤57343)
def yU (s:ByteArray)(st:St):Int×St:=
 if zd s (st.i+1)=123 then jr s (st.go 2)
 else if kF s st=true then (65536+(yT s (st.i-1)-55296)*1024+yT s (st.i+5)-56320,st.go 11)
 else hexF s 4 0 (st.go 1)
def zI (s:ByteArray)(cls:Bool)(st:St):Int×St:=
 if 0≤yu (zd s st.i) then (yu (zd s st.i),st.go 1)
 else if zd s st.i=48 then (0,if 48≤zd s (st.i+1)∧zd s (st.i+1)≤57 then (st.go 1).fail 3 (st.i+1:Nat) else st.go 1)
 else if zd s st.i=99 then
  (if (97≤zd s (st.i+1)∧zd s (st.i+1)≤122)∨(65≤zd s (st.i+1)∧zd s (st.i+1)≤90) then (zd s (st.i+1) % 32,st.go 2) else (0,(st.go 1).fail 3 (st.i+1:Nat)))
 else if zd s st.i=120 then hexF s 2 0 (st.go 1)
 else if zd s st.i=117 then yU s st
 else if signB (zd s st.i)=true∨cls=true∧zd s st.i=45 then (zd s st.i,st.go 1)
 else if cls=true∧zd s st.i=98 then (8,st.go 1)
 else (0,st.fail 3 st.i)
theorem Vb (s:ByteArray):∀ (n k:Nat) (c:Int),0≤c→c<(16:Int) ^ (4-n)→n≤4→-1≤jE s n k c∧jE s n k c≤65535
 |0,k,c,h1,h2,_=>by simp only [jE];simp at h2;omega
 |n+1,k,c,h1,h2,h3=>by
  have hp:(16:Int) ^ (4-n)=16*(16:Int) ^ (4-(n+1)):=by rw [show 4-n=(4-(n+1))+1 by omega,Int.pow_succ];omega
  have hd:=hexV_hi (zd s k)
  by_cases hb:hexV (zd s k)<0
  ·rw [wl hb];omega
  ·rw [kN (by omega)]
   exact Vb s n (k+1) _ (by omega) (by omega) (by omega)
theorem Vc (s:ByteArray)(i:Nat):-1≤yT s i∧yT s i≤65535:=by
 unfold yT;split
 ·omega
 ·exact Vb s 4 _ 0 (by omega) (by decide) (by omega)
end Ref
theorem Vd (s:ByteArray)(i:Int)(w:World)(hs:s.size≤400)(h0:0≤i)(hi:i≤1000) :
  Calls Tryz.prog 230 #[.string s,.int .i64 i] w fun x w'=>x = .returned (.int .i64 (Ref.yT s i.toNat))∧w'=w:=by
 obtain ⟨n,rfl⟩:=Int.eq_ofNat_of_zero_le h0
 rw [Int.toNat_natCast]
 exact half_any s n w hs (by omega)
theorem Lex.setI {w:World}{b:Nat}{s:ByteArray}{st:St}(h:Lex w b s st)(j:Int)(n:Nat)(hj:j=((st.i+n:Nat):Int)):Lex (w.setCell ⟨b,1,none⟩ (.int .i64 j)) b s (st.go n):=by
 subst hj;exact LexAt.setI h _
theorem Lex.drewN {w:World}{b:Nat}{s:ByteArray}{st:St}(h:Lex w b s st)(n:Nat):Lex (w.drewN n) b s st:=LexAt.drewN h n
theorem Ve (b:Nat)(s:ByteArray)(st:St)(w:World)(h:Lex w b s st)(hs:s.size≤400)(hi1:1≤st.i)(hi:st.i<s.size) :
  Calls Tryz.prog 209 #[.pointer (some ⟨b,0,none⟩)] w fun x w'=>
   x = .returned (.int .i64 (Ref.yU s st).1)∧Lex w' b s (Ref.yU s st).2∧Only (zl b) w w':=by
 have hL1:=ze h
 obtain ⟨c0,c1,c2,c3,f1,f2,f3⟩:=h
 have e1:((st.i:Int)-1).toNat=st.i-1:=by omega
 have e2:((st.i:Int)+5).toNat=st.i+5:=by omega
 have b1:=Ref.Vc s (st.i-1)
 have b2:=Ref.Vc s (st.i+5)
 go_enter Tryz.func209,Tryz.ntmps209
 go_wp2_with fail
 go_quiet ((go_at_call 230;exact (Vd _ _ _ hs (by omega) (by omega)).mono (by rintro e w'' ⟨rfl,rfl⟩;exact ⟨rfl,_,rfl⟩)))
 go_wp2_with fail
 go_quiet ((go_at_call 230;exact (Vd _ _ _ hs (by omega) (by omega)).mono (by rintro e w'' ⟨rfl,rfl⟩;exact ⟨rfl,_,rfl⟩)))
 go_wp2_with fail
 refine (zL b s (st.go 1) _ (((zb hL1).drewN _).setI _ 1 (by omega)) hs).mono ?_
 rintro e w1 ⟨rfl,nq,rfl⟩
 simp only [St.go]
 by_cases hbr:zd s (st.i+1)=123
 ·have hb:(zd s (st.i+1) == 123)=true:=by simp [hbr]
  have HF:Hid (Ref.yU s st=Ref.jr s (st.go 2)):=by show _=_;unfold Ref.yU;rw [if_pos hbr]
  have hlt:st.i+1<s.size:=by rw [←zw];omega
  clear hbr
  go_wp2_with fail
  refine (VN b s (st.go 2) _ (((((zb hL1).drewN _).setI _ 1 (by omega)).drewN _).setI _ 1 (by simp only [St.go];omega)) hs (by simp only [St.go];omega)).mono ?_
  rintro e w2 ⟨rfl,hL2,hO2⟩
  go_wp2_with fail
  go_ret
  rw [zb HF]
  exact ⟨rfl,hL2,(((((Only.refl _ _).drewN _).mine _ _).drewN _).mine _ _).trans hO2⟩
 ·have hb:(zd s (st.i+1) == 123)=false:=by simp [hbr]
  by_cases hp:Ref.kF s st=true
  ·have HF:Hid (Ref.yU s st=(65536+(Ref.yT s (st.i-1)-55296)*1024+Ref.yT s (st.i+5)-56320,st.go 11)):=by show _=_;unfold Ref.yU;rw [if_neg hbr,if_pos hp]
   simp only [Ref.kF,Bool.and_eq_true,decide_eq_true_eq] at hp
   obtain ⟨⟨⟨p1,p2⟩,p3⟩,p4⟩:=hp
   clear hbr e1 e2
   go_wp2_with fail
   go_ret
   rw [zb HF]
   exact ⟨rfl,(((((zb hL1).drewN _).setI _ 1 (by omega)).drewN _).setI _ 10 (by simp only [St.go];omega)),((((Only.refl _ _).drewN _).mine _ _).drewN _).mine _ _⟩
  ·have HF:Hid (Ref.yU s st=Ref.hexF s 4 0 (st.go 1)):=by show _=_;unfold Ref.yU;rw [if_neg hbr,if_neg hp]
   simp only [Ref.kF,Bool.and_eq_true,decide_eq_true_eq] at hp
   have Hp:=ze hp
   clear hbr e1 e2 hp
   go_wp2_with fail
   all_goals first
    |exact absurd (zb Hp) (by intro hn;exact hn ⟨⟨⟨‹_›,‹_›⟩,‹_›⟩,‹_›⟩)
    |skip
   all_goals
    refine (WS b s 4 (st.go 1) _ (by omega) ((((zb hL1).drewN _).setI _ 1 (by omega)).drewN _) hs (by simp only [St.go];omega)).mono ?_
    rintro e w2 ⟨rfl,hL2,hO2⟩
    go_wp2_with fail
    go_ret
    rw [zb HF]
    exact ⟨rfl,hL2,((((Only.refl _ _).drewN _).mine _ _).drewN _).trans hO2⟩
namespace Ref
end Ref
theorem WB (b:Nat)(s:ByteArray)(cls:Bool)(st:St)(w:World)(h:Lex w b s st)(hs:s.size≤400)(hi1:1≤st.i)(hi:st.i≤s.size) :
  Calls Tryz.prog 167 #[.pointer (some ⟨b,0,none⟩),.bool cls] w fun x w'=>
   x = .returned (.int .i64 (Ref.zI s cls st).1)∧Lex w' b s (Ref.zI s cls st).2∧Only (zl b) w w':=by
 have hL1:=ze h
 have hlo:=qj s st.i
 have hhi:=ye s st.i
 have hlo1:=qj s (st.i+1)
 have hhi1:=ye s (st.i+1)
 have hin:0≤zd s st.i→st.i<s.size:=(zw s st.i).1
 have Hin:=ze hin
 clear hin
 go_enter Tryz.func167,Tryz.ntmps167
 go_wp2_with fail
 refine (zL b s st _ h hs).mono ?_
 rintro e w1 ⟨rfl,nq,rfl⟩
 go_wp2_with fail
 refine (J6 _ _).mono ?_
 rintro e w1 ⟨rfl,rfl⟩
 obtain ⟨c0,c1,c2,c3,f1,f2,f3⟩:=h
 generalize hB:zd s st.i=B at *
 by_cases hc:0≤Ref.yu B
 ·have HF:Hid (Ref.zI s cls st=(Ref.yu B,st.go 1)):=by show _=_;unfold Ref.zI;rw [hB,if_pos hc]
  clear hB
  go_wp2_with fail
  go_ret
  rw [zb HF]
  exact ⟨rfl,((zb hL1).drewN _).setI _ 1 (by omega),((Only.refl _ _).drewN _).mine _ _⟩
 ·have HB:=ze hB
  have hcc:=ze hc
  clear hB
  go_wp2_with fail
  refine (VM _ _ hlo hhi).mono ?_
  rintro e w1 ⟨rfl,rfl⟩
  clear hc
  by_cases x1:B=48
  ·have hb:(B == 48)=true:=by simp [x1]
   by_cases hd:48≤zd s (st.i+1)∧zd s (st.i+1)≤57
   ·have HF:Hid (Ref.zI s cls st=(0,(st.go 1).fail 3 (st.i+1:Nat))):=by show _=_;unfold Ref.zI;rw [zb HB,if_neg (show ¬0≤Ref.yu B by have:=zb hcc;omega),if_pos x1,if_pos hd]
    clear x1
    obtain ⟨d1,d2⟩:=hd
    go_wp2_with fail
    refine (zL b s (st.go 1) _ (((zb hL1).drewN _).setI _ 1 (by omega)) hs).mono ?_
    rintro e w1 ⟨rfl,nq1,rfl⟩
    simp only [St.go]
    go_wp2_with fail
    refine (zL b s (st.go 1) _ ((((zb hL1).drewN _).setI _ 1 (by omega)).drewN _) hs).mono ?_
    rintro e w1 ⟨rfl,nq2,rfl⟩
    simp only [St.go]
    go_wp2_with fail
    refine (zY b s (st.go 1) 3 _ _ (((((zb hL1).drewN _).setI _ 1 (by omega)).drewN _))).mono ?_
    rintro e w2 ⟨rfl,hL2,hO2⟩
    go_wp2_with fail
    go_ret
    rw [zb HF]
    exact ⟨rfl,hL2,((((Only.refl _ _).drewN _).mine _ _).drewN _).trans hO2⟩
   ·have HF:Hid (Ref.zI s cls st=(0,st.go 1)):=by show _=_;unfold Ref.zI;rw [zb HB,if_neg (show ¬0≤Ref.yu B by have:=zb hcc;omega),if_pos x1,if_neg hd]
    have Hd:=ze hd
    clear x1
    by_cases d1:48≤zd s (st.i+1)
    ·have d2:57<zd s (st.i+1):=by omega
     clear hd
     go_wp2_with fail
     refine (zL b s (st.go 1) _ (((zb hL1).drewN _).setI _ 1 (by omega)) hs).mono ?_
     rintro e w1 ⟨rfl,nq1,rfl⟩
     simp only [St.go]
     go_wp2_with fail
     refine (zL b s (st.go 1) _ ((((zb hL1).drewN _).setI _ 1 (by omega)).drewN _) hs).mono ?_
     rintro e w1 ⟨rfl,nq2,rfl⟩
     simp only [St.go]
     go_wp2_with fail
     go_ret
     rw [zb HF]
     exact ⟨rfl,(((zb hL1).drewN _).setI _ 1 (by omega)).drewN _,(((Only.refl _ _).drewN _).mine _ _).drewN _⟩
    ·clear hd
     go_wp2_with fail
     refine (zL b s (st.go 1) _ (((zb hL1).drewN _).setI _ 1 (by omega)) hs).mono ?_
     rintro e w1 ⟨rfl,nq1,rfl⟩
     simp only [St.go]
     go_wp2_with fail
     go_ret
     rw [zb HF]
     exact ⟨rfl,(((zb hL1).drewN _).setI _ 1 (by omega)).drewN _,(((Only.refl _ _).drewN _).mine _ _).drewN _⟩
  ·have hb:(B == 48)=false:=by simp [x1]
   by_cases x2:B=99
   ·have hb2:(B == 99)=true:=by simp [x2]
    by_cases hd:(97≤zd s (st.i+1)∧zd s (st.i+1)≤122)∨(65≤zd s (st.i+1)∧zd s (st.i+1)≤90)
    ·have HF:Hid (Ref.zI s cls st=(zd s (st.i+1) % 32,st.go 2)):=by show _=_;unfold Ref.zI;rw [zb HB,if_neg (show ¬0≤Ref.yu B by have:=zb hcc;omega),if_neg x1,if_pos x2,if_pos hd]
     have Hd:=ze hd
     clear x1 x2 hd
     go_wp2_with fail
     refine (zL b s (st.go 1) _ (((zb hL1).drewN _).setI _ 1 (by omega)) hs).mono ?_
     rintro e w1 ⟨rfl,nq1,rfl⟩
     simp only [St.go]
     rcases zb Hd with ⟨d1,d2⟩ |⟨d1,d2⟩
     case' inr=>have d3:¬97≤zd s (st.i+1):=by omega
     all_goals
      go_wp2_with fail
      go_ret
      rw [zb HF]
      refine ⟨xG ?_,((((zb hL1).drewN _).setI _ 1 (by omega)).drewN _).setI _ 1 (by simp only [St.go];omega),((((Only.refl _ _).drewN _).mine _ _).drewN _).mine _ _⟩
      first |rfl |omega
    ·have HF:Hid (Ref.zI s cls st=(0,(st.go 1).fail 3 (st.i+1:Nat))):=by show _=_;unfold Ref.zI;rw [zb HB,if_neg (show ¬0≤Ref.yu B by have:=zb hcc;omega),if_neg x1,if_pos x2,if_neg hd]
     have Hd:=ze hd
     clear x1 x2 hd
     go_wp2_with fail
     refine (zL b s (st.go 1) _ (((zb hL1).drewN _).setI _ 1 (by omega)) hs).mono ?_
     rintro e w1 ⟨rfl,nq1,rfl⟩
     simp only [St.go]
     go_wp2_with fail
     all_goals first
      |(exfalso;have:=zb Hd;omega)
      |skip
     all_goals
      refine (zY b s (st.go 1) 3 _ _ (((((zb hL1).drewN _).setI _ 1 (by omega)).drewN _))).mono ?_
      rintro e w2 ⟨rfl,hL2,hO2⟩
      go_wp2_with fail
      go_ret
      rw [zb HF]
      exact ⟨rfl,hL2,((((Only.refl _ _).drewN _).mine _ _).drewN _).trans hO2⟩
   ·have hb2:(B == 99)=false:=by simp [x2]
    by_cases x3:B=120
    ·have hb3:(B == 120)=true:=by simp [x3]
     have HF:Hid (Ref.zI s cls st=Ref.hexF s 2 0 (st.go 1)):=by show _=_;unfold Ref.zI;rw [zb HB,if_neg (show ¬0≤Ref.yu B by have:=zb hcc;omega),if_neg x1,if_neg x2,if_pos x3]
     clear x1 x2 x3
     go_wp2_with fail
     refine (WS b s 2 (st.go 1) _ (by omega) (((zb hL1).drewN _).setI _ 1 (by omega)) hs (by simp only [St.go];omega)).mono ?_
     rintro e w2 ⟨rfl,hL2,hO2⟩
     go_wp2_with fail
     go_ret
     rw [zb HF]
     exact ⟨rfl,hL2,(((Only.refl _ _).drewN _).mine _ _).trans hO2⟩
    ·have hb3:(B == 120)=false:=by simp [x3]
     by_cases x4:B=117
     ·have hb4:(B == 117)=true:=by simp [x4]
      have HF:Hid (Ref.zI s cls st=Ref.yU s st):=by show _=_;unfold Ref.zI;rw [zb HB,if_neg (show ¬0≤Ref.yu B by have:=zb hcc;omega),if_neg x1,if_neg x2,if_neg x3,if_pos x4]
      have hin:=zb Hin (by omega)
      clear x1 x2 x3 x4
      go_wp2_with fail
      refine (Ve b s st _ ((zb hL1).drewN _) hs hi1 hin).mono ?_
      rintro e w2 ⟨rfl,hL2,hO2⟩
      go_wp2_with fail
      go_ret
      rw [zb HF]
      exact ⟨rfl,hL2,((Only.refl _ _).drewN _).trans hO2⟩
     ·have hb4:(B == 117)=false:=by simp [x4]
      by_cases x5:Ref.signB B=true∨cls=true∧B=45
      ·have HF:Hid (Ref.zI s cls st=(B,st.go 1)):=by show _=_;unfold Ref.zI;rw [zb HB,if_neg (show ¬0≤Ref.yu B by have:=zb hcc;omega),if_neg x1,if_neg x2,if_neg x3,if_neg x4,if_pos x5]
       have X5:=ze x5
       clear x1 x2 x3 x4 x5
       by_cases y1:Ref.signB B=true
       case' neg=>
        have y2:cls=true:=by rcases zb X5 with h |h;exact absurd h y1;exact h.1
        have y3:(B == 45)=true:=by rcases zb X5 with h |h;exact absurd h y1;simp [h.2]
        have y4:Ref.signB B=false:=by simpa using y1
        clear y1
        subst y2
       all_goals
        go_wp2_with fail
        go_ret
        rw [zb HF]
        exact ⟨rfl,((zb hL1).drewN _).setI _ 1 (by omega),((Only.refl _ _).drewN _).mine _ _⟩
      ·have y4:Ref.signB B=false:=by simp at x5;exact x5.1
       by_cases x6:cls=true∧B=98
       ·have HF:Hid (Ref.zI s cls st=(8,st.go 1)):=by show _=_;unfold Ref.zI;rw [zb HB,if_neg (show ¬0≤Ref.yu B by have:=zb hcc;omega),if_neg x1,if_neg x2,if_neg x3,if_neg x4,if_neg x5,if_pos x6]
        obtain ⟨y2,y3⟩:=x6
        have y5:(B == 98)=true:=by simp [y3]
        have y6:(B == 45)=false:=by simp [y3]
        clear x1 x2 x3 x4 x5 y3
        subst y2
        go_wp2_with fail
        go_ret
        rw [zb HF]
        exact ⟨rfl,((zb hL1).drewN _).setI _ 1 (by omega),((Only.refl _ _).drewN _).mine _ _⟩
       ·have HF:Hid (Ref.zI s cls st=(0,st.fail 3 st.i)):=by show _=_;unfold Ref.zI;rw [zb HB,if_neg (show ¬0≤Ref.yu B by have:=zb hcc;omega),if_neg x1,if_neg x2,if_neg x3,if_neg x4,if_neg x5,if_neg x6]
        cases cls
        case' true=>
         have y5:(B == 98)=false:=by simp at x6;simpa using x6
         have y6:(B == 45)=false:=by simp at x5;simpa using x5.2
        all_goals
         clear x1 x2 x3 x4 x5 x6
         go_wp2_with fail
         refine (zY b s st 3 _ _ ((zb hL1).drewN _)).mono ?_
         rintro e w2 ⟨rfl,hL2,hO2⟩
         go_wp2_with fail
         go_ret
         rw [zb HF]
         exact ⟨rfl,hL2,((Only.refl _ _).drewN _).trans hO2⟩
def spanCells:List (Int×Int)→List Value
 | []=>[]
 |(a,b) :: r=>.int .i64 a :: .int .i64 b :: spanCells r
def SpansAt (w:World)(base:Nat)(v:Value)(l:List (Int×Int)):Prop:=w.ownsRow base 271 2 v l.length (spanCells l)
theorem wJ (w:World)(c:Array Value)(l:List (Int×Int))(hc:c.toList=spanCells l)(hl:spanCells l=spanCells l→(spanCells l).length=l.length*2)(hm:l.length≤maxLen) :
  SpansAt (w.alloc (.cells c 271)) w.heap.size (.slice (some ⟨w.heap.size,0,none⟩) l.length l.length) l:=by
 have hl':=hl rfl
 refine ⟨hl',.inr ⟨w.heap.size,l.length,c,rfl,Nat.le_refl _,heap_alloc_new w _,Nat.le_refl _,hm,?_,?_⟩⟩
 ·rw [←hl',←hc];simp
 ·rw [hc,List.take_of_length_le (by omega)]
theorem qB:∀ l:List (Int×Int),(spanCells l).length=l.length*2
 | []=>rfl
 |(a,b) :: r=>by simp only [spanCells,List.length_cons,qB r];omega
theorem vf (W:World)(n base:Nat)(hn:W.heap.size=n)(hb:base≤n)(c:Array Value)(l:List (Int×Int))(hc:c.toList=spanCells l)(hm:l.length≤maxLen)(k:Nat)(hk:k=l.length) :
  SpansAt (W.alloc (.cells c 271)) base (.slice (some ⟨n,0,none⟩) k k) l:=by
 subst hn;subst hk
 obtain ⟨h1,h2⟩:=wJ W c l hc (fun _=>qB l) hm
 refine ⟨h1,?_⟩
 rcases h2 with h2 |⟨g,cap,cur,hv,hb',hh,h3⟩
 ·exact .inl h2
 ·refine .inr ⟨g,cap,cur,hv,?_,hh,h3⟩
  omega
theorem WC (w:World) :
  Calls Tryz.prog 164 #[] w fun x w'=>x = .returned (.slice (some ⟨w.heap.size,0,none⟩) 1 1)∧SpansAt w' w.heap.size (.slice (some ⟨w.heap.size,0,none⟩) 1 1) [(48,57)]∧Only (fun _=>False) w w':=by
 go_enter Tryz.func164,Tryz.ntmps164
 go_wp2
 go_ret
 exact ⟨rfl,wJ w _ [(48,57)] rfl (fun _=>qB _) (by decide),(Only.refl _ _).alloc _⟩
theorem Q4 (w:World) :
  Calls Tryz.prog 165 #[] w fun x w'=>x = .returned (.slice (some ⟨w.heap.size,0,none⟩) 4 4)∧SpansAt w' w.heap.size (.slice (some ⟨w.heap.size,0,none⟩) 4 4) [(48,57),(65,90),(95,95),(97,122)]∧Only (fun _=>False) w w':=by
 go_enter Tryz.func165,Tryz.ntmps165
 go_wp2
 go_ret
 exact ⟨rfl,wJ w _ [(48,57),(65,90),(95,95),(97,122)] rfl (fun _=>qB _) (by decide),(Only.refl _ _).alloc _⟩
theorem WD (w:World) :
  Calls Tryz.prog 166 #[] w fun x w'=>x = .returned (.slice (some ⟨w.heap.size,0,none⟩) 10 10)∧SpansAt w' w.heap.size (.slice (some ⟨w.heap.size,0,none⟩) 10 10) [(9,13),(32,32),(160,160),(5760,5760),(8192,8202),(8232,8233),(8239,8239),(8287,8287),(12288,12288),(65279,65279)]∧Only (fun _=>False) w w':=by
 go_enter Tryz.func166,Tryz.ntmps166
 go_wp2
 go_ret
 exact ⟨rfl,wJ w _ [(9,13),(32,32),(160,160),(5760,5760),(8192,8202),(8232,8233),(8239,8239),(8287,8287),(12288,12288),(65279,65279)] rfl (fun _=>qB _) (by decide),(Only.refl _ _).alloc _⟩
theorem zo {P:Nat→Prop}{w w':World}{base:Nat}{e:TypeId}{size:Nat}{v:Value}{n:Nat}{xs:List Value}(h:w.ownsRow base e size v n xs)(k:Only P w w')(hn:∀ g,v.ownBlock=some g→¬P g) :
  w'.ownsRow base e size v n xs:=by
 obtain ⟨h1,h2⟩:=h
 refine ⟨h1,?_⟩
 rcases h2 with h2 |⟨g,cap,cur,rfl,hb,hh,h3⟩
 ·exact .inl h2
 ·refine .inr ⟨g,cap,cur,rfl,hb,?_,h3⟩
  have hg:g<w.heap.size:=(Array.getElem?_eq_some_iff.1 hh).1
  rw [k.block g hg (hn g rfl)];exact hh
theorem yi {w:World}{base base':Nat}{e:TypeId}{size:Nat}{v:Value}{n:Nat}{xs:List Value}(h:w.ownsRow base e size v n xs)(hb:base'≤base):w.ownsRow base' e size v n xs:=by
 obtain ⟨h1,h2⟩:=h
 refine ⟨h1,?_⟩
 rcases h2 with h2 |⟨g,cap,cur,rfl,hb',hh,h3⟩
 ·exact .inl h2
 ·exact .inr ⟨g,cap,cur,rfl,by omega,hh,h3⟩
theorem zg {w:World}{base:Nat}{e:TypeId}{size:Nat}{v:Value}{n:Nat}{xs:List Value}(h:w.ownsRow base e size v n xs)(g:Nat)(hg:v.ownBlock=some g):base≤g∧g<w.heap.size:=h.lt g hg
theorem SpansAt.keep {P:Nat→Prop}{w w':World}{base:Nat}{v:Value}{l:List (Int×Int)}(h:SpansAt w base v l)(k:Only P w w')(hn:∀ g,base≤g→g<w.heap.size→¬P g):SpansAt w' base v l:=
 zo h k fun g hg=>hn g (zg h g hg).1 (zg h g hg).2
theorem SpansAt.base {w:World}{base base':Nat}{v:Value}{l:List (Int×Int)}(h:SpansAt w base v l)(hb:base'≤base):SpansAt w base' v l:=yi h hb
theorem zbE (w:World)(n:Nat)(hn:w.heap.size=n):Calls Tryz.prog 164 #[] w fun x w'=>x = .returned (.slice (some ⟨n,0,none⟩) 1 1)∧SpansAt w' n (.slice (some ⟨n,0,none⟩) 1 1) [(48,57)]∧Only (fun _=>False) w w':=by
 subst hn;exact WC w
theorem words_at (w:World)(n:Nat)(hn:w.heap.size=n):Calls Tryz.prog 165 #[] w fun x w'=>x = .returned (.slice (some ⟨n,0,none⟩) 4 4)∧SpansAt w' n (.slice (some ⟨n,0,none⟩) 4 4) [(48,57),(65,90),(95,95),(97,122)]∧Only (fun _=>False) w w':=by
 subst hn;exact Q4 w
theorem zbF (w:World)(n:Nat)(hn:w.heap.size=n):Calls Tryz.prog 166 #[] w fun x w'=>x = .returned (.slice (some ⟨n,0,none⟩) 10 10)∧SpansAt w' n (.slice (some ⟨n,0,none⟩) 10 10) [(9,13),(32,32),(160,160),(5760,5760),(8192,8202),(8232,8233),(8239,8239),(8287,8287),(12288,12288),(65279,65279)]∧Only (fun _=>False) w w':=by
 subst hn;exact WD w
structure Pt where
 neg:Bool
 spans:List (Int×Int)
namespace Ref
def Yo:List (Int×Int):=[(48,57)]
def qO:List (Int×Int):=[(48,57),(65,90),(95,95),(97,122)]
def vT:List (Int×Int):=[(9,13),(32,32),(160,160),(5760,5760),(8192,8202),(8232,8233),(8239,8239),(8287,8287),(12288,12288),(65279,65279)]
def backB (b:Int):Bool:=(decide (49≤b) && decide (b≤57)) ||(b == 107) ||(b == 112) ||(b == 80)
def setL (b:Int):List (Int×Int):=if b=100∨b=68 then Yo else if b=119∨b=87 then qO else if b=115∨b=83 then vT else []
def zG (s:ByteArray)(cls:Bool)(st:St):Pt×Bool×St:=
 if backB (zd s (st.i+1))=true then (⟨false,[]⟩,true,(st.go 1).fail 6 st.i)
 else if setL (zd s (st.i+1))≠[] then (⟨decide (zd s (st.i+1)<97),setL (zd s (st.i+1))⟩,false,st.go 2)
 else (⟨false,[((zI s cls (st.go 1)).1,(zI s cls (st.go 1)).1)]⟩,true,(zI s cls (st.go 1)).2)
end Ref
theorem Ref.backB_cases {b:Int}(h:Ref.backB b=true):(49≤b∧b≤57)∨b=107∨b=112∨b=80:=by
 simp [Ref.backB] at h;omega
theorem Ref.backB_not {b:Int}(h:¬Ref.backB b=true):¬(49≤b∧b≤57)∧b≠107∧b≠112∧b≠80:=by
 simp [Ref.backB] at h;omega
theorem Ref.setL_nil {b:Int}(h:Ref.setL b=[]):(b == 100)=false∧(b == 68)=false∧(b == 119)=false∧(b == 87)=false∧(b == 115)=false∧(b == 83)=false:=by
 unfold Ref.setL at h
 (repeat' split at h)<;>simp_all [Ref.Yo,Ref.qO,Ref.vT]
theorem Ref.setL_cases {b:Int}(h:¬Ref.setL b=[]):((b == 100)=true∧Ref.setL b=Ref.Yo)∨((b == 100)=false∧(b == 68)=true∧Ref.setL b=Ref.Yo)∨
  ((b == 100)=false∧(b == 68)=false∧(b == 119)=true∧Ref.setL b=Ref.qO)∨((b == 100)=false∧(b == 68)=false∧(b == 119)=false∧(b == 87)=true∧Ref.setL b=Ref.qO)∨
  ((b == 100)=false∧(b == 68)=false∧(b == 119)=false∧(b == 87)=false∧(b == 115)=true∧Ref.setL b=Ref.vT)∨
  ((b == 100)=false∧(b == 68)=false∧(b == 119)=false∧(b == 87)=false∧(b == 115)=false∧(b == 83)=true∧Ref.setL b=Ref.vT):=by
 unfold Ref.setL at *
 by_cases h1:b=100
 ·subst h1;simp
 by_cases h2:b=68
 ·subst h2;simp
 by_cases h3:b=119
 ·subst h3;simp
 by_cases h4:b=87
 ·subst h4;simp
 by_cases h5:b=115
 ·subst h5;simp
 by_cases h6:b=83
 ·subst h6;simp
 simp [h1,h2,h3,h4,h5,h6] at h
theorem zf {P:Nat→Prop}{w w':World}(h:Only P w w')(p:Addr)(v:Value)(hp:w.cell? p=some v)(hn:¬P p.block):w'.cell? p=some v:=
 (h.cell (World.block_lt_of_cell? w p hp) hn).trans hp
theorem zv {P:Nat→Prop}{w w':World}(h:Only P w w')(p:Addr)(hl:p.block<w.heap.size)(hp:w.frozen? p=false)(hn:¬P p.block):w'.frozen? p=false:=
 (h.frozen hl hn).trans hp
theorem Lex.keep {P:Nat→Prop}{w w':World}{b:Nat}{s:ByteArray}{st:St}(h:Lex w b s st)(k:Only P w w')(hn:¬P b):Lex w' b s st:=LexAt.keep h k hn
theorem Lex.alloc {w:World}{b:Nat}{s:ByteArray}{st:St}(h:Lex w b s st)(o:Obj):Lex (w.alloc o) b s st:=h.keep ((Only.refl (fun _=>False) w).alloc o) (fun f=>f)
theorem Lex.lt {w:World}{b:Nat}{s:ByteArray}{st:St}(h:Lex w b s st):b<w.heap.size:=LexAt.lt h
theorem zm (W:World)(n:Nat)(hn:W.heap.size=n)(c:Array Value)(T:TypeId)(off:Nat)(v:Value)(h:c[off]?=some v):(W.alloc (.cells c T)).cell? ⟨n,off,none⟩=some v:=by
 subst hn;rw [World.cell?_alloc_at _ _ _ _ rfl];exact h
theorem zu (W:World)(n:Nat)(hn:W.heap.size=n)(c:Array Value)(T:TypeId)(off:Nat):(W.alloc (.cells c T)).frozen? ⟨n,off,none⟩=false:=by
 subst hn;exact World.frozen?_alloc_at _ _ _ _ rfl
theorem Only.fresh {P:Nat→Prop}{a w:World}(h:Only P a w)(p:Addr)(hp:a.heap.size≤p.block)(u:Value):Only P a (w.setCell p u):=h.setCell (Or.inr hp) u
theorem zbG (w:World)(base:Nat):SpansAt w base (.slice none 0 0) []:=World.ownsRow_nil w base _ _
theorem XY (b:Nat)(s:ByteArray)(cls:Bool)(st:St)(w:World)(h:Lex w b s st)(hs:s.size≤400)(hi:st.i<s.size) :
  Calls Tryz.prog 124 #[.pointer (some ⟨b,0,none⟩),.bool cls] w fun x w'=>
   ∃ sv,x = .returned (.tuple #[.agg #[.bool (Ref.zG s cls st).1.neg,sv],.bool (Ref.zG s cls st).2.1])∧SpansAt w' w.heap.size sv (Ref.zG s cls st).1.spans∧
    Lex w' b s (Ref.zG s cls st).2.2∧Only (zl b) w w':=by
 have hL1:=ze h
 have hlt:=h.lt
 have hlo:=qj s (st.i+1)
 have hhi:=ye s (st.i+1)
 have hne:∀ w a n c n' c',(binOp .neq 272 (.slice a n c) (.slice none n' c')).run Tryz.prog w = .ok (.bool (!a.isNone)) w:=fun w a n c n' c'=>run_neq_slice_nil_any (P:=Tryz.prog) w 272 271 a n c n' c' Tryz.underlying272
 obtain ⟨c0,c1,c2,c3,f1,f2,f3⟩:=h
 go_enter Tryz.func124,Tryz.ntmps124
 go_wp2_with fail
 have hL2:=ze (((zb hL1).setI ((st.i:Int)+1) 1 (by omega)).alloc (.cells #[.bool false,.slice none 0 0] 274))
 refine (zL b s (st.go 1) _ (zb hL2) hs).mono ?_
 rintro e w1 ⟨rfl,nq,rfl⟩
 simp only [St.go]
 generalize hB:zd s (st.i+1)=B at *
 by_cases hbk:Ref.backB B=true
 ·have HF:Hid (Ref.zG s cls st=(⟨false,[]⟩,true,(st.go 1).fail 6 st.i)):=by show _=_;unfold Ref.zG;rw [hB,if_pos hbk]
  have hcs:=Ref.backB_cases hbk
  clear hB hbk
  have hcs':(49≤B∧B≤57)∨(¬49≤B∨57<B)∧((B == 107)=true∨(B == 107)=false∧((B == 112)=true∨(B == 112)=false∧(B == 80)=true)):=by simp;omega
  clear hcs
  rcases hcs' with ⟨q1,q2⟩ |⟨q1 |q1,q2 |⟨q2,q3 |⟨q3,q4⟩⟩⟩
  all_goals
   go_wp2_with fail
   refine (zY b s (st.go 1) 6 _ _ ((zb hL2).drewN _)).mono ?_
   rintro e w2 ⟨rfl,hL3,hO3⟩
   have r0:w2.cell? ⟨w.heap.size,0,none⟩=some (.bool false):=zf (hO3) _ _ (zm _ _ (by simp) _ _ 0 _ rfl) (by unfold zl;simp;omega)
   have r1:w2.cell? ⟨w.heap.size,1,none⟩=some (.slice none 0 0):=zf hO3 _ _ (zm _ _ (by simp) _ _ 1 _ rfl) (by unfold zl;simp;omega)
   have r2:w2.frozen? ⟨w.heap.size,0,none⟩=false:=zv hO3 _ (by simp) (zu _ _ (by simp) _ _ 0) (by unfold zl;simp;omega)
   have r3:w2.frozen? ⟨w.heap.size,1,none⟩=false:=zv hO3 _ (by simp) (zu _ _ (by simp) _ _ 1) (by unfold zl;simp;omega)
   go_wp2_with fail
   refine bodyPost_ret (v:=.tuple #[.agg #[.bool false,.slice none 0 0],.bool true]) (by simp [results,Tryz.results124,go_sem,r0,r1]) rfl ?_
   rw [zb HF]
   exact ⟨_,rfl,zbG _ _,hL3.keep (((Only.refl (zl w.heap.size) _).mine _ _).mine _ _) (by unfold zl;omega),
    (((((((Only.refl _ _).mine _ _).alloc _).drewN _).trans hO3).fresh ⟨w.heap.size,0,none⟩ (Nat.le_refl _) _).fresh ⟨w.heap.size,1,none⟩ (Nat.le_refl _) _)⟩
 ·have hcs:=Ref.backB_not hbk
  have hcs':(¬49≤B∨57<B)∧(B == 107)=false∧(B == 112)=false∧(B == 80)=false:=by simp;omega
  obtain ⟨q1,q2,q3,q4⟩:=hcs'
  by_cases hset:Ref.setL B=[]
  ·have HF:Hid (Ref.zG s cls st=(⟨false,[((Ref.zI s cls (st.go 1)).1,(Ref.zI s cls (st.go 1)).1)]⟩,true,(Ref.zI s cls (st.go 1)).2)):=by
    show _=_;unfold Ref.zG;rw [hB,if_neg hbk,if_neg (by simp [hset])]
   have hs6:=Ref.setL_nil hset
   obtain ⟨x1,x2,x3,x4,x5,x6⟩:=hs6
   clear hB hbk hset hcs
   rcases q1 with q1 |q1
   all_goals
    go_wp2_with fail
    refine (WB b s cls (st.go 1) _ ((zb hL2).drewN _) hs (by simp only [St.go];omega) (by simp only [St.go];omega)).mono ?_
    rintro e w2 ⟨rfl,hL3,hO3⟩
    have r0:w2.cell? ⟨w.heap.size,0,none⟩=some (.bool false):=zf (hO3) _ _ (zm _ _ (by simp) _ _ 0 _ rfl) (by unfold zl;simp;omega)
    have r1:w2.cell? ⟨w.heap.size,1,none⟩=some (.slice none 0 0):=zf hO3 _ _ (zm _ _ (by simp) _ _ 1 _ rfl) (by unfold zl;simp;omega)
    have r2:w2.frozen? ⟨w.heap.size,0,none⟩=false:=zv hO3 _ (by simp) (zu _ _ (by simp) _ _ 0) (by unfold zl;simp;omega)
    have r3:w2.frozen? ⟨w.heap.size,1,none⟩=false:=zv hO3 _ (by simp) (zu _ _ (by simp) _ _ 1) (by unfold zl;simp;omega)
    have hsz:w.heap.size<w2.heap.size:=World.block_lt_of_cell? w2 ⟨w.heap.size,0,none⟩ r0
    go_wp2_with fail
    refine bodyPost_ret (v:=.tuple #[.agg #[.bool false,.slice (some ⟨w2.heap.size,0,none⟩) 1 1],.bool true]) (by simp [results,Tryz.results124,go_sem,r0,r1,hsz]) rfl ?_
    rw [zb HF]
    generalize (Ref.zI s cls (st.go 1)).1=N at *
    refine ⟨_,rfl,?_,?_,?_⟩
    ·exact vf _ _ _ (by simp) (by omega) _ [(N,N)] rfl (by simp [maxLen]) 1 rfl
    ·exact (hL3.keep (((Only.refl (zl w.heap.size) _).mine _ _).mine _ _) (by unfold zl;omega)).alloc _
    ·exact (((((((Only.refl _ _).mine _ _).alloc _).drewN _).trans hO3).fresh ⟨w.heap.size,0,none⟩ (Nat.le_refl _) _).fresh ⟨w.heap.size,1,none⟩ (Nat.le_refl _) _).alloc _
  ·have HF:Hid (Ref.zG s cls st=(⟨decide (B<97),Ref.setL B⟩,false,st.go 2)):=by
    show _=_;unfold Ref.zG;rw [hB,if_neg hbk,if_pos hset]
   have hs6:=Ref.setL_cases hset
   clear hB hbk hset hcs
   rcases q1 with q1 |q1
   case' inl=>have q1':¬49≤B:=q1
   all_goals
    rcases hs6 with ⟨x1,hq⟩ |⟨x1,x2,hq⟩ |⟨x1,x2,x3,hq⟩ |⟨x1,x2,x3,x4,hq⟩ |⟨x1,x2,x3,x4,x5,hq⟩ |⟨x1,x2,x3,x4,x5,x6,hq⟩
   all_goals
    have Hq:=ze hq
    clear hq
    go_wp2_with fail
    first
     |(refine (zbE _ (w.heap.size+1) (by simp)).mono ?_;rintro e w2 ⟨rfl,hsp,hO3⟩)
     |(refine (words_at _ (w.heap.size+1) (by simp)).mono ?_;rintro e w2 ⟨rfl,hsp,hO3⟩)
     |(refine (zbF _ (w.heap.size+1) (by simp)).mono ?_;rintro e w2 ⟨rfl,hsp,hO3⟩)
   all_goals
    have hL3:=((zb hL2).drewN nq).keep hO3 (fun f=>f)
    have hL4:=ze hL3
    obtain ⟨d0,d1,d2,d3,g1,g2,g3⟩:=hL3
    have r0:w2.cell? ⟨w.heap.size,0,none⟩=some (.bool false):=zf (hO3) _ _ (zm _ _ (by simp) _ _ 0 _ rfl) (fun f=>f)
    have r1:w2.cell? ⟨w.heap.size,1,none⟩=some (.slice none 0 0):=zf hO3 _ _ (zm _ _ (by simp) _ _ 1 _ rfl) (fun f=>f)
    have r2:w2.frozen? ⟨w.heap.size,0,none⟩=false:=zv hO3 _ (by simp) (zu _ _ (by simp) _ _ 0) (fun f=>f)
    have r3:w2.frozen? ⟨w.heap.size,1,none⟩=false:=zv hO3 _ (by simp) (zu _ _ (by simp) _ _ 1) (fun f=>f)
    have hgi:(st.go 1).i≤1000:=by simp only [St.go];omega
    have Hsp:=ze hsp
    have HO3:=ze hO3
    clear hsp hO3
    go_wp2_with fail
   all_goals
    refine bodyPost_ret (v:=.tuple #[.agg #[.bool (decide (B<97)),_],.bool false]) (by simp [results,Tryz.results124,go_sem,r0,r1];rfl) rfl ?_
    rw [zb HF]
    refine ⟨_,rfl,?_,?_,?_⟩
    ·rw [zb Hq]
     exact ((zb Hsp).keep ((((Only.refl (fun k=>k=b∨k=w.heap.size) _).setCell (Or.inl (Or.inl rfl)) _).setCell (Or.inl (Or.inr rfl)) _).setCell (Or.inl (Or.inr rfl)) _) (by intro g hg _ hh;omega)).base (by omega)
    ·exact ((zb hL4).setI _ 1 (by simp only [St.go];omega)).keep (((Only.refl (zl w.heap.size) _).mine _ _).mine _ _) (by unfold zl;omega)
    ·exact ((((((((Only.refl _ _).mine _ _).alloc _).drewN _).trans ((zb HO3).mono (fun _ _ f=>f.elim))).mine _ _).fresh ⟨w.heap.size,0,none⟩ (Nat.le_refl _) _).fresh ⟨w.heap.size,1,none⟩ (Nat.le_refl _) _)
set_option maxHeartbeats 1000000
set_option maxRecDepth 100000
namespace Ref
def xS (s:ByteArray)(p:Nat):Nat→Nat→Int→Option Int
 |0,_,c=>some c
 |k+1,i,c=>if zd s (p+i)<128∨191<zd s (p+i) then none else xS s p k (i+1) (c*64+zd s (p+i)-128)
def headK (b:Int):Nat:=(headN b).toNat
theorem XZ (b:Int):headN b=(headK b:Int):=by unfold headK headN;(repeat' split)<;>rfl
theorem Vf (b:Int):headK b≤4:=by unfold headK headN;(repeat' split)<;>decide
theorem headC_bd (b:Int)(h0:0≤b):0≤qw b∧qw b<128:=by unfold qw;(repeat' split)<;>omega
def badC (n:Nat)(c:Int):Bool:=decide (c<qb n) ||decide (1114111<c) ||(decide (55296≤c) && decide (c≤57343))
def oneF (s:ByteArray)(p:Nat):Option (Nat×Int):=
 if headK (zd s p)=0∨s.size<p+headK (zd s p) then none
 else match xS s p (headK (zd s p)-1) 1 (qw (zd s p)) with
  |none=>none
  |some c=>if badC (headK (zd s p)) c=true then none else some (headK (zd s p),c)
def xk (s:ByteArray):Nat→Nat→List (Int×Int)→List (Int×Int)×Int
 |0,_,acc=>(acc,-1)
 |f+1,p,acc=>if p<s.size then (match oneF s p with
   |none=>(acc,(p:Int))
   |some (n,c)=>xk s f (p+n) (acc++[(c,(p:Int))])) else (acc,-1)
def zE (s:ByteArray):List (Int×Int)×Int:=xk s (s.size+1) 0 []
theorem jj {s:ByteArray}{p k i:Nat}{c:Int}(h:zd s (p+i)<128∨191<zd s (p+i)):xS s p (k+1) i c=none:=by simp only [xS];rw [if_pos h]
theorem xD {s:ByteArray}{p k i:Nat}{c:Int}(h:¬(zd s (p+i)<128∨191<zd s (p+i))):xS s p (k+1) i c=xS s p k (i+1) (c*64+zd s (p+i)-128):=by simp only [xS];rw [if_neg h]
theorem qJ {s:ByteArray}{f p:Nat}{acc:List (Int×Int)}(h:¬p<s.size):xk s (f+1) p acc=(acc,-1):=by simp only [xk];rw [if_neg h]
theorem xO {s:ByteArray}{f p:Nat}{acc:List (Int×Int)}(h:p<s.size)(h1:oneF s p=none):xk s (f+1) p acc=(acc,(p:Int)):=by simp only [xk];rw [if_pos h,h1]
theorem xt {s:ByteArray}{f p n:Nat}{c:Int}{acc:List (Int×Int)}(h:p<s.size)(h1:oneF s p=some (n,c)):xk s (f+1) p acc=xk s f (p+n) (acc++[(c,(p:Int))]):=by simp only [xk];rw [if_pos h,h1]
theorem jk {s:ByteArray}{p:Nat}(h:headK (zd s p)=0∨s.size<p+headK (zd s p)):oneF s p=none:=by unfold oneF;rw [if_pos h]
theorem vg {s:ByteArray}{p:Nat}(h:¬(headK (zd s p)=0∨s.size<p+headK (zd s p)))(h1:xS s p (headK (zd s p)-1) 1 (qw (zd s p))=none):oneF s p=none:=by unfold oneF;rw [if_neg h,h1]
theorem WE {s:ByteArray}{p:Nat}{c:Int}(h:¬(headK (zd s p)=0∨s.size<p+headK (zd s p)))(h1:xS s p (headK (zd s p)-1) 1 (qw (zd s p))=some c)(h2:badC (headK (zd s p)) c=true):oneF s p=none:=by
 unfold oneF;rw [if_neg h,h1];simp [h2]
theorem Q5 {s:ByteArray}{p:Nat}{c:Int}(h:¬(headK (zd s p)=0∨s.size<p+headK (zd s p)))(h1:xS s p (headK (zd s p)-1) 1 (qw (zd s p))=some c)(h2:badC (headK (zd s p)) c=false):oneF s p=some (headK (zd s p),c):=by
 unfold oneF;rw [if_neg h,h1];simp [h2]
end Ref
theorem Tryz.infoChar:(Tryz.prog.info? 172).map (fun i=>(i.zero,i.size,i.bytes))=some (some (.agg #[.int .i64 0,.int .i64 0]),2,16):=by kernel_rfl
def Xb (w:World)(base:Nat)(v:Value)(l:List (Int×Int)):Prop:=w.ownsRow base 172 2 v l.length (spanCells l)
theorem Yp (l m:List (Int×Int)):spanCells (l++m)=spanCells l++spanCells m:=by
 induction l with
 |nil=>rfl
 |cons x r ih=>obtain ⟨a,b⟩:=x;simp only [List.cons_append,spanCells,ih]
def capC:Nat→Int
 |0=>128
 |1=>8192
 |2=>524288
 |3=>33554432
 |_=>2147483648
theorem capC_le (k:Nat):capC k≤2147483648:=by unfold capC;split<;>omega
theorem zbH (k:Nat)(h:k≤3)(d b:Int)(h0:d<capC k)(h1:b≤191):d*64+b-128<capC (k+1):=by
 have h5:k=0∨k=1∨k=2∨k=3:=by omega
 rcases h5 with rfl |rfl |rfl |rfl<;>simp only [capC] at *<;>omega
theorem jl (s:ByteArray)(w:World)(hs:s.size≤400) :
  Calls Tryz.prog 35 #[.string s] w fun x w'=>
   ∃ v,x = .returned (.tuple #[v,.int .i64 (Ref.zE s).2])∧Xb w' w.heap.size v (Ref.zE s).1∧Only (fun _=>False) w w':=by
 obtain ⟨i0,hi,hz0,hz1,hz2⟩:=info_parts Tryz.infoChar
 go_enter Tryz.func35,Tryz.ntmps35
 go_wp2_with fail
 go_loopw [4,5] (fun v p wr=>∃ (q f:Nat) (acc:List (Int×Int)),p = .int .i64 q∧q≤s.size∧acc.length≤q∧Xb wr w.heap.size v acc∧Only (fun _=>False) w wr∧Hid (s.size<q+f)∧Hid (Ref.zE s=Ref.xk s f q acc))
  (fun _ p _=>s.size-(intOf p).toNat)
 case atStart=>exact ⟨0,s.size+1,[],rfl,by omega,by simp,World.ownsRow_nil _ _ _ _,Only.refl _ _,(by show _<_;omega),rfl⟩
 case round=>
  obtain ⟨q,f,acc,rfl,hq,hacc,hown,hO,hf,HF⟩:=hrel
  obtain ⟨f,rfl⟩:∃ f',f=f'+1:=⟨f-1,by have:=zb hf;omega⟩
  by_cases hlt:q<s.size
  ·go_wp2_with fail
   rw [kw,←yD s q hlt]
   have hB0:=(zw s q).2 hlt
   have hB1:=ye s q
   refine (head_any _ _ hB0 hB1).mono ?_
   rintro e w1 ⟨rfl,hw1⟩
   have hw2:=hw1.symm
   subst hw2
   clear hw1
   rw [Ref.XZ]
   have hc:=Ref.headC_bd (zd s q) hB0
   have hK:=Ref.Vf (zd s q)
   generalize hN:Ref.headK (zd s q)=N at *
   generalize hC:Ref.qw (zd s q)=C at *
   have HN:=ze hN
   have HC:=ze hC
   clear hN hC hB0 hB1
   by_cases h1:N=0∨s.size<q+N
   ·have HG:Hid (Ref.zE s=(acc,(q:Int))):=by
     rw [zb HF];exact Ref.xO hlt (Ref.jk (by rw [zb HN];exact h1))
    by_cases h0:N=0
    ·subst h0
     clear h1
     go_wp2_with fail
     go_ret2
     rw [zb HG]
     exact ⟨_,rfl,hown,hO⟩
    ·have h2:s.size<q+N:=by omega
     have h3:((N:Int) == 0)=false:=by simp;omega
     clear h1
     go_wp2_with fail
     go_ret2
     rw [zb HG]
     exact ⟨_,rfl,hown,hO⟩
   ·have h0:((N:Int) == 0)=false:=by simp;omega
    have h2:q+N≤s.size:=by omega
    have h3:1≤N:=by omega
    have H1:Hid (¬(Ref.headK (zd s q)=0∨s.size<q+Ref.headK (zd s q))):=by rw [zb HN];exact h1
    clear h1
    have hdd:decide ((s.size:Int)<(q:Int)+N)=false:=by simp;omega
    have Hown:=ze hown
    have HO:=ze hO
    have HI:=ze (And.intro hi (And.intro hz0 (And.intro hz1 hz2)))
    clear hown hO hi hz0 hz1 hz2
    go_wp2_with fail
    go_loop [7,8] (fun c i=>∃ (k:Nat) (d:Int),i = .int .i64 k∧c = .int .i64 d∧1≤k∧k≤N∧0≤d∧d≤2147483648∧Hid (d<capC k)∧Hid (Ref.xS s q (N-1) 1 C=Ref.xS s q (N-k) k d))
     (fun _ i=>N-(intOf i).toNat)
    case atStart=>exact ⟨1,C,rfl,rfl,by omega,by omega,by omega,by omega,(by show C<8192;omega),rfl⟩
    case round=>
     obtain ⟨k,d,rfl,rfl,hk1,hk2,hd0,hd1,hd2,HD⟩:=hrel
     have hb0:=qj s (q+k)
     have hb1:=ye s (q+k)
     by_cases hkn:k<N
     ·have hw:wrap64 ((s[q+k]'(by omega)).toNat:Int)=zd s (q+k):=by rw [kw,yD]
      by_cases hbad:zd s (q+k)<128∨191<zd s (q+k)
      ·have HG:Hid (Ref.zE s=(acc,(q:Int))):=by
        rw [zb HF];exact Ref.xO hlt (Ref.vg (zb H1) (by rw [zb HN,zb HC,zb HD,show N-k=(N-k-1)+1 by omega];exact Ref.jj hbad))
       by_cases hb2:zd s (q+k)<128
       ·clear hbad
        go_wp2_with fail
        go_ret2
        rw [zb HG]
        exact ⟨_,rfl,zb Hown,zb HO⟩
       ·have hb3:191<zd s (q+k):=by omega
        clear hbad
        go_wp2_with fail
        go_ret2
        rw [zb HG]
        exact ⟨_,rfl,zb Hown,zb HO⟩
      ·have HD1:Hid (Ref.xS s q (N-1) 1 C=Ref.xS s q (N-(k+1)) (k+1) (d*64+zd s (q+k)-128)):=by
        rw [zb HD,show N-k=(N-(k+1))+1 by omega];exact Ref.xD hbad
       have hb2:128≤zd s (q+k):=by omega
       have hb3:zd s (q+k)≤191:=by omega
       have Hpn:=ze (zbH k (by omega) d _ (zb hd2) hb3)
       have hcl:=capC_le (k+1)
       have hpl:d*64+zd s (q+k)-128≤2147483648:=by have:=zb Hpn;omega
       clear hbad hcl
       go_wp2_with fail
       go_round
       case rel=>exact ⟨k+1,_,by go_num,rfl,by omega,by omega,by omega,by omega,Hpn,HD1⟩
       case measure=>simp [intOf];omega
     ·have Hd:Hid (Ref.xS s q (N-1) 1 C=some d):=by rw [zb HD,show N-k=0 by omega];rfl
      clear hb0 hb1 HD hd2
      go_wp2_with fail
      refine (zaL _ _).mono ?_
      rintro e w1 ⟨rfl,hw1⟩
      have hw2:=hw1.symm
      subst hw2
      clear hw1
      by_cases hbc:Ref.badC N d=true
      ·have HG:Hid (Ref.zE s=(acc,(q:Int))):=by
        rw [zb HF];exact Ref.xO hlt (Ref.WE (zb H1) (by rw [zb HN,zb HC];exact zb Hd) (by rw [zb HN];exact hbc))
       simp only [Ref.badC,Bool.or_eq_true,Bool.and_eq_true,decide_eq_true_eq] at hbc
       have hcs:d<Ref.qb N∨¬d<Ref.qb N∧(1114111<d∨¬1114111<d∧55296≤d∧d≤57343):=by omega
       clear hbc
       rcases hcs with y1 |⟨y1,y2 |⟨y2,y3,y4⟩⟩
       all_goals
        go_wp2_with fail
        go_ret2
        rw [zb HG]
        exact ⟨_,rfl,zb Hown,zb HO⟩
      ·have hbc':Ref.badC N d=false:=by simpa using hbc
       have HG:Hid (Ref.zE s=Ref.xk s f (q+N) (acc++[(d,(q:Int))])):=by
        rw [zb HF]
        have:=Ref.xt (f:=f) (acc:=acc) hlt (Ref.Q5 (zb H1) (by rw [zb HN,zb HC];exact zb Hd) (by rw [zb HN];exact hbc'))
        rw [zb HN] at this;exact this
       simp only [Ref.badC,Bool.or_eq_false_iff,Bool.and_eq_false_iff,decide_eq_false_iff_not] at hbc'
       obtain ⟨⟨y1,y2⟩,y3⟩:=hbc'
       clear hbc
       obtain ⟨hi,hz0,hz1,hz2⟩:=zb HI
       have hown:wr.ownsRow w.heap.size 172 2 _ acc.length (spanCells acc):=zb Hown
       have y4:¬55296≤d∨55296≤d∧57343<d:=by omega
       clear y3
       rcases y4 with y4 |⟨y4,y5⟩
       all_goals
        go_wp2_with (at_builtin;refine wpList_append_own _ rfl _ _ 99 rfl w.heap.size 172 i0 (.agg #[.int .i64 0,.int .i64 0]) 2 16 Tryz.underlying99 hi hz0 hz1 hz2 rfl (by decide) _ _ _ rfl (World.ownsRow.alloc hown _) ⟨wr.heap.size,0,none⟩ 1 1 [.int .i64 d,.int .i64 (q:Int)] rfl rfl (cell_two_new _ _ _ _) (fun x hx=>by simp at hx;rcases hx with rfl |rfl<;>rfl) (by unfold maxLen;omega) (by omega) (by have:=(zb HO).size;simp;omega) ?_;intro v' w3 hown' hgrow3 hnil3)
        go_roundw
        case rel=>
         exact ⟨q+N,f,acc++[(d,(q:Int))],by go_num,h2,by simp;omega,(by
          show World.ownsRow _ _ _ _ _ _ _
          rw [Yp,List.length_append];exact hown'),((zb HO).alloc _).grown hgrow3 (fun j hj=>Or.inr (hown.lt j hj).1),(by have:=zb hf;show _<_;omega),HG⟩
        case measure=>simp [intOf];omega
  ·have HG:Hid (Ref.zE s=(acc,-1)):=by
    rw [zb HF];exact Ref.qJ hlt
   go_wp2_with fail
   go_ret2
   rw [zb HG]
   exact ⟨_,rfl,hown,hO⟩
namespace Ref
def YH (s:ByteArray):Nat→Nat→Bool
 |0,p=>p == s.size
 |f+1,p=>if p<s.size then (match oneF s p with
   |none=>false
   |some (n,_)=>YH s f (p+n)) else p == s.size
def Good (s:ByteArray)(p:Nat):Prop:=∃ f,YH s f p=true
theorem xu {s:ByteArray}{p n:Nat}{c:Int}(h:oneF s p=some (n,c)):1≤n∧p+n≤s.size∧n≤4∧n=headK (zd s p)∧0≤c∧c≤1114111∧¬(55296≤c∧c≤57343):=by
 unfold oneF at h
 split at h
 ·cases h
 ·rename_i h1
  split at h
  ·cases h
  ·rename_i c' hc
   split at h
   ·cases h
   ·rename_i hb
    simp only [Option.some.injEq,Prod.mk.injEq] at h
    obtain ⟨rfl,rfl⟩:=h
    have:=Vf (zd s p)
    simp only [badC,Bool.or_eq_true,Bool.and_eq_true,decide_eq_true_eq] at hb
    have hl:0≤qb (headK (zd s p)):=by unfold qb;(repeat' split)<;>omega
    omega
theorem Good.le {s:ByteArray}{p:Nat}(h:Good s p):p≤s.size:=by
 obtain ⟨f,h⟩:=h
 cases f with
 |zero=>simp [YH] at h;omega
 |succ f=>
  simp only [YH] at h
  split at h
  ·omega
  ·simp at h;omega
theorem Good.next {s:ByteArray}{p:Nat}(h:Good s p)(hp:p<s.size):∃ n c,oneF s p=some (n,c)∧Good s (p+n):=by
 obtain ⟨f,h⟩:=h
 cases f with
 |zero=>simp [YH] at h;omega
 |succ f=>
  simp only [YH] at h
  rw [if_pos hp] at h
  split at h
  ·cases h
  ·rename_i n c hc
   exact ⟨n,c,hc,f,h⟩
theorem vw (s:ByteArray):∀ (f p:Nat) (acc:List (Int×Int)),s.size<p+f→((xk s f p acc).2 = -1→p≤s.size→Good s p)
 |0,p,acc,h,_,hp=>by omega
 |f+1,p,acc,h,h1,hp=>by
  by_cases hlt:p<s.size
  ·cases ho:oneF s p with
   |none=>rw [xO hlt ho] at h1;simp at h1
   |some r=>
    obtain ⟨n,c⟩:=r
    have hb:=xu ho
    rw [xt hlt ho] at h1
    obtain ⟨g,hg⟩:=vw s f (p+n) _ (by omega) h1 (by omega)
    exact ⟨g+1,by simp only [YH];rw [if_pos hlt,ho];exact hg⟩
  ·exact ⟨0,by simp [YH];omega⟩
theorem X4 (s:ByteArray):∀ (f p:Nat) (acc:List (Int×Int)),∃ t,(xk s f p acc).1=acc++t
 |0,p,acc=>⟨[],by simp [xk]⟩
 |f+1,p,acc=>by
  by_cases hlt:p<s.size
  ·cases ho:oneF s p with
   |none=>exact ⟨[],by rw [xO hlt ho];simp⟩
   |some r=>
    obtain ⟨n,c⟩:=r
    rw [xt hlt ho]
    obtain ⟨t,ht⟩:=X4 s f (p+n) (acc++[(c,(p:Int))])
    exact ⟨[(c,(p:Int))]++t,by rw [ht,List.append_assoc]⟩
  ·exact ⟨[],by rw [qJ hlt];simp⟩
theorem ZX (s:ByteArray)(i:Nat)(_hi:i≤s.size):(s.extract i s.size).size=s.size-i:=by simp
theorem X6 (s:ByteArray)(i k:Nat)(hi:i≤s.size):zd (s.extract i s.size) k=zd s (i+k):=by
 by_cases hk:i+k<s.size
 ·rw [yD s (i+k) hk,yD _ k (by rw [ZX s i hi];omega)]
  simp [ByteArray.getElem_extract]
 ·rw [xC s (i+k) (by omega),xC _ k (by rw [ZX s i hi];omega)]
theorem Q6 (s:ByteArray)(i p:Nat)(hi:i≤s.size):∀ (k j:Nat) (c:Int),xS (s.extract i s.size) p k j c=xS s (i+p) k j c
 |0,_,_=>rfl
 |k+1,j,c=>by
  simp only [xS]
  rw [X6 s i (p+j) hi,←Nat.add_assoc,Q6 s i p hi k (j+1)]
theorem Vg (s:ByteArray)(i p:Nat)(hi:i≤s.size):oneF (s.extract i s.size) p=oneF s (i+p):=by
 unfold oneF
 rw [X6 s i p hi,ZX s i hi]
 have e:(headK (zd s (i+p))=0∨s.size-i<p+headK (zd s (i+p)))↔(headK (zd s (i+p))=0∨s.size<i+p+headK (zd s (i+p))):=by omega
 simp only [e,Q6 s i p hi]
theorem zbI {s:ByteArray}{i n:Nat}{c:Int}(hi:i<s.size)(h:oneF s i=some (n,c))(hg:Good s (i+n)) :
  (i+n=s.size∧(zE (s.extract i s.size)).1=[(c,0)])∨(i+n<s.size∧∃ c' t,(zE (s.extract i s.size)).1=(c,0) :: (c',(n:Int)) :: t):=by
 have hb:=xu h
 have h0:oneF (s.extract i s.size) 0=some (n,c):=by rw [Vg s i 0 (by omega)];exact h
 have hsz:=ZX s i (by omega)
 unfold zE
 rw [xt (by omega) h0]
 by_cases he:i+n=s.size
 ·left
  refine ⟨he,?_⟩
  rw [show (s.extract i s.size).size=(s.size-i-1)+1 by omega,qJ (by omega)]
  rfl
 ·right
  refine ⟨by omega,?_⟩
  obtain ⟨n',c',ho,_⟩:=hg.next (by omega)
  have h1:oneF (s.extract i s.size) (0+n)=some (n',c'):=by rw [Vg s i _ (by omega)];simpa using ho
  rw [show (s.extract i s.size).size=(s.size-i-1)+1 by omega,xt (by omega) h1]
  obtain ⟨t,ht⟩:=X4 (s.extract i s.size) (s.size-i-1) (0+n+n') ([]++[(c,((0:Nat):Int))]++[(c',((0+n:Nat):Int))])
  exact ⟨c',t,by rw [ht];simp⟩
theorem X7 {s:ByteArray}{p:Nat}(h0:0≤zd s p)(h1:zd s p<128):oneF s p=some (1,zd s p):=by
 have hlt:=(zw s p).1 h0
 have hn:headK (zd s p)=1:=by simp [headK,headN,h1]
 have hc:qw (zd s p)=zd s p:=by simp [qw,h1]
 have hbc:badC 1 (zd s p)=false:=by simp [badC,qb];omega
 unfold oneF
 rw [hn,if_neg (by omega),hc]
 simp [xS,hbc]
theorem Good.ascii {s:ByteArray}{p:Nat}(h:Good s p)(h0:0≤zd s p)(h1:zd s p<128):Good s (p+1):=by
 have hlt:=(zw s p).1 h0
 obtain ⟨n,c,ho,hg⟩:=h.next hlt
 rw [X7 h0 h1] at ho
 simp at ho
 rw [←ho.1] at hg;exact hg
end Ref
theorem kG {w:World}{base:Nat}{T:TypeId}{size:Nat}{v:Value}{n:Nat}{xs:List Value}(h:w.ownsRow base T size v n xs)(hn:0<n):∃ g cap,v = .slice (some ⟨g,0,none⟩) n cap∧base≤g∧g<w.heap.size∧n≤cap:=by
 obtain ⟨h1,h2⟩:=h
 rcases h2 with ⟨_,h2⟩ |⟨g,cap,cur,rfl,hb,hh,h3,_⟩
 ·omega
 ·exact ⟨g,cap,rfl,hb,(Array.getElem?_eq_some_iff.1 hh).1,h3⟩
theorem Vh (b:Nat)(s:ByteArray)(st:St)(n:Nat)(c:Int)(w:World)(h:Lex w b s st)(hs:s.size≤400)(hi:st.i<s.size)(ho:Ref.oneF s st.i=some (n,c))(hg:Ref.Good s (st.i+n)) :
  Calls Tryz.prog 126 #[.pointer (some ⟨b,0,none⟩)] w fun x w'=>
   ∃ sv,x = .returned (.agg #[.bool false,sv])∧SpansAt w' w.heap.size sv [(c,c)]∧Lex w' b s (st.go n)∧Only (zl b) w w':=by
 have hL1:=ze h
 have hlt:=h.lt
 have hbd:=Ref.xu ho
 have hce:=Ref.zbI hi ho hg
 have Hce:=ze hce
 have Ho:=ze ho
 have Hg:=ze hg
 have hn4:n≤4:=hbd.2.2.1
 clear hce ho hg hbd
 obtain ⟨c0,c1,c2,c3,f1,f2,f3⟩:=h
 have hL2:=ze ((zb hL1).alloc (.cells #[.bool false,.slice none 0 0] 274))
 go_enter Tryz.func126,Tryz.ntmps126
 go_wp2_with fail
 go_region_with (go_at_call 35;refine (jl _ _ (by simp;omega)).mono ?_;rintro e w1 ⟨v,rfl,hch,hO⟩)
 all_goals
  have hL3:Lex w1 b s st:=Lex.keep (P:=fun _=>False) (by first |exact zb hL2 |exact (zb hL2).drewN _) hO (fun f=>f)
  have hsz:(w.alloc (Obj.cells #[Value.bool false,Value.slice none 0 0] 274)).drew.heap.size=w.heap.size+1:=by simp
  have r0:w1.cell? ⟨w.heap.size,0,none⟩=some (.bool false):=zf hO _ _ (by first |exact zm _ _ (by simp) _ _ 0 _ rfl) (fun f=>f)
  have r1:w1.cell? ⟨w.heap.size,1,none⟩=some (.slice none 0 0):=zf hO _ _ (by first |exact zm _ _ (by simp) _ _ 1 _ rfl) (fun f=>f)
  have r2:w1.frozen? ⟨w.heap.size,0,none⟩=false:=zv hO _ (by rw [hsz];simp) (by first |exact zu _ _ (by simp) _ _ 0) (fun f=>f)
  have r3:w1.frozen? ⟨w.heap.size,1,none⟩=false:=zv hO _ (by rw [hsz];simp) (by first |exact zu _ _ (by simp) _ _ 1) (fun f=>f)
  have hL4:=ze hL3
  have hlt1:w.heap.size<w1.heap.size:=World.block_lt_of_cell? w1 ⟨w.heap.size,0,none⟩ r0
  obtain ⟨d0,d1,d2,d3,g1,g2,g3⟩:=hL3
  rw [hsz] at hch
  have HO:=ze hO
  clear hsz hO
  rcases zb Hce with ⟨he,hl⟩ |⟨he,c',t,hl⟩
  ·unfold Xb at hch
   rw [hl] at hch
   obtain ⟨g,cap,rfl,hb1,hb2,hcap⟩:=kG hch (by simp)
   have k0:w1.cell? ⟨g,0,none⟩=some (.int .i64 c):=hch.cells rfl 0 _ rfl
   clear hl hch
   have Hee:=ze he
   clear he
   go_wp2_with fail
   have he:=zb Hee
   refine bodyPost_ret (v:=.agg #[.bool false,.slice (some ⟨w1.heap.size,0,none⟩) 1 1]) (by simp [results,Tryz.results126,go_sem,r0,r1,hlt1]) rfl ?_
   refine ⟨_,rfl,vf _ _ _ (by simp) (by omega) _ [(c,c)] rfl (by simp [maxLen]) 1 rfl,?_,?_⟩
   ·exact (((zb hL4).setI _ n (by omega)).keep (((Only.refl (zl w.heap.size) _).mine _ _).mine _ _) (by unfold zl;omega)).alloc _
   ·exact (((((((((Only.refl (zl b) w).alloc _).drewN 1).trans ((zb HO).mono (fun _ _ f=>f.elim)))).mine _ _).fresh ⟨w.heap.size,0,none⟩ (Nat.le_refl _) _).fresh ⟨w.heap.size,1,none⟩ (Nat.le_refl _) _)).alloc _
  ·unfold Xb at hch
   rw [hl] at hch
   obtain ⟨g,cap,rfl,hb1,hb2,hcap⟩:=kG hch (by simp)
   have k0:w1.cell? ⟨g,0,none⟩=some (.int .i64 c):=hch.cells rfl 0 _ rfl
   have k3:w1.cell? ⟨g,3,none⟩=some (.int .i64 n):=hch.cells rfl 3 _ rfl
   clear hl hch
   go_wp2_with fail
   go_region
   all_goals (try go_wp2_with fail)
   all_goals
    refine bodyPost_ret (v:=.agg #[.bool false,.slice (some ⟨w1.heap.size,0,none⟩) 1 1]) (by simp [results,Tryz.results126,go_sem,r0,r1,hlt1]) rfl ?_
    refine ⟨_,rfl,vf _ _ _ (by simp) (by omega) _ [(c,c)] rfl (by simp [maxLen]) 1 rfl,?_,?_⟩
    ·exact ((((zb hL4).drewN _).setI _ n (by omega)).keep (((Only.refl (zl w.heap.size) _).mine _ _).mine _ _) (by unfold zl;omega)).alloc _
    ·exact ((((((((((Only.refl (zl b) w).alloc _).drewN 1).trans ((zb HO).mono (fun _ _ f=>f.elim)))).drewN _).mine _ _).fresh ⟨w.heap.size,0,none⟩ (Nat.le_refl _) _).fresh ⟨w.heap.size,1,none⟩ (Nat.le_refl _) _)).alloc _
end
end Go.Proofs.YtnagphodmfejiaaGreatDoor
