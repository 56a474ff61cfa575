/- The reference's tokens of a pattern. -/
import Derived.Test.YtnagphodmfejiaaGreatDoorXRefRRefT
namespace Go.Proofs.YtnagphodmfejiaaGreatDoor
section
open Go.RowKit
set_option maxHeartbeats 3200000
set_option maxRecDepth 100000
theorem Tryz.infoTok:(Tryz.prog.info? 178).map (fun i=>(i.zero,i.size,i.bytes))=some (some (.agg #[.int .i64 0,.bool false,.slice none 0 0,.int .i64 0,.int .i64 0,.int .i64 0]),6,64):=by kernel_rfl
theorem Ref.tokenF_open {s:ByteArray}{st:St}(h:(Ref.zx s st).1.kind=3):zd s st.i=40:=by
 unfold Ref.zx at h
 (repeat' split at h)<;>simp_all
namespace Ref
section
variable {s:ByteArray} {f:Nat} {L:List Tok} {k op:Int} {A B:St}
theorem tk3 (m1:(k == 3)=true)(h:0≤op):zM s f L (zW k op) ((k == 1) ||(k == 4)) (if zW k op<0 then A else B)=zM s f L (op+1) false B:=by
 have e:k=3:=by simpa using m1
 subst e
 have e1:zW 3 op=op+1:=by simp [zW]
 rw [e1,if_neg (by omega)];rfl
theorem tk4 (m1:(k == 3)=false)(m2:(k == 4)=true)(_m3:(k == 1)=false)(h:0≤op-1):zM s f L (zW k op) ((k == 1) ||(k == 4)) (if zW k op<0 then A else B)=zM s f L (op-1) true B:=by
 have e:k=4:=by simpa using m2
 subst e
 have e1:zW 4 op=op-1:=by simp [zW]
 rw [e1,if_neg (by omega)];rfl
theorem tk4n (m1:(k == 3)=false)(m2:(k == 4)=true)(_m3:(k == 1)=false)(h:op-1<0):zM s f L (zW k op) ((k == 1) ||(k == 4)) (if zW k op<0 then A else B)=zM s f L (op-1) true A:=by
 have e:k=4:=by simpa using m2
 subst e
 have e1:zW 4 op=op-1:=by simp [zW]
 rw [e1,if_pos (by omega)];rfl
theorem tk1 (m1:(k == 3)=false)(_m2:(k == 4)=false)(m3:(k == 1)=true)(h:0≤op):zM s f L (zW k op) ((k == 1) ||(k == 4)) (if zW k op<0 then A else B)=zM s f L op true B:=by
 have e:k=1:=by simpa using m3
 subst e
 have e1:zW 1 op=op:=by simp [zW]
 rw [e1,if_neg (by omega)];rfl
theorem tk0 (m1:(k == 3)=false)(m2:(k == 4)=false)(m3:(k == 1)=false)(h:0≤op):zM s f L (zW k op) ((k == 1) ||(k == 4)) (if zW k op<0 then A else B)=zM s f L op false B:=by
 have e1:zW k op=op:=by simp at m1 m2;simp [zW,m1,m2]
 rw [e1,if_neg (by omega),m2,m3];rfl
end
end Ref
theorem Zb (w:World)(a0 a1 a2 a3 a4 a5:Value)(T:TypeId):∀ j u,[a0,a1,a2,a3,a4,a5][j]?=some u→(w.alloc (.cells #[a0,a1,a2,a3,a4,a5] T)).cell? ((⟨w.heap.size,0,none⟩:Addr).add j)=some u:=by
 intro j u hj
 have h:=zm w w.heap.size rfl #[a0,a1,a2,a3,a4,a5] T j u (by simpa using hj)
 have e:(⟨w.heap.size,0,none⟩:Addr).add j=⟨w.heap.size,j,none⟩:=by
  cases j with
  |zero=>simp [Addr.add]
  |succ j=>simp [Addr.add]
 rw [e];exact h
def lexE (w:World)(b:Nat):Int:=match w.cell? ⟨b,2,none⟩ with
 |some v=>intOf v
 |none=>0
theorem wK {w:World}{b:Nat}{s:ByteArray}{st:St}(h:Lex w b s st):lexE w b=st.e:=by unfold lexE;rw [h.c2];simp [intOf]
theorem lex_new (w:World)(s:ByteArray):Lex (w.alloc (.cells #[.string s,.int .i64 0,.int .i64 0,.int .i64 0] 175)) w.heap.size s ⟨0,0,0⟩:=
 ⟨zm _ _ rfl _ _ 0 _ rfl,zm _ _ rfl _ _ 1 _ rfl,zm _ _ rfl _ _ 2 _ rfl,zm _ _ rfl _ _ 3 _ rfl,zu _ _ rfl _ _ 1,zu _ _ rfl _ _ 2,zu _ _ rfl _ _ 3⟩
theorem Zp (s:ByteArray)(w:World)(hs:s.size≤400)(hg:Ref.Good s 0) :
  Calls Tryz.prog 36 #[.string s] w fun x w'=>
   ∃ v,x = .returned (.tuple #[v,.int .i64 (Ref.yj s).2.1,.int .i64 (Ref.yj s).2.2])∧ToksAt w' (w.heap.size+1) v (Ref.yj s).1∧Only (fun _=>False) w w':=by
 have HG:=ze hg
 clear hg
 go_enter Tryz.func36,Tryz.ntmps36
 go_wp2_with fail
 go_loopw [6,7,8] (fun v o a wr=>∃ (l:List Tok) (pa:Option Addr) (pn pc:Nat) (op:Int) (atom:Bool) (st':St) (f:Nat),v = .slice pa pn pc∧o = .int .i64 op∧a = .bool atom∧-1≤op∧op≤11∧ToksAt wr (w.heap.size+1) (.slice pa pn pc) l∧Lex wr w.heap.size s st'∧Only (fun _=>False) w wr∧
   w.heap.size+1≤wr.heap.size∧st'.i≤s.size+2∧l.length≤st'.i+1∧Hid (st'.e=0→Ref.Good s st'.i∧l.length≤st'.i∧0≤op∧op≤10∧s.size<st'.i+f)∧Hid (1≤f)∧Hid (Ref.yj s=Ref.zM s f l op atom st'))
  (fun _ _ _ wr=>2*(s.size+3-lexI wr w.heap.size)+(if lexE wr w.heap.size=0 then 1 else 0))
 case atStart=>exact ⟨[],none,0,0,0,false,⟨0,0,0⟩,s.size+1,rfl,rfl,rfl,by omega,by omega,ToksAt.nil _ _,lex_new w s,(Only.refl _ _).alloc _,by simp,by simp,by simp,(fun _=>⟨zb HG,by simp,by omega,by omega,by simp⟩),(by show 1≤_;omega),rfl⟩
 case round=>
  obtain ⟨l,pa,pn,pc,op,atom,st',f,rfl,rfl,rfl,ho1,ho2,hT,hL,hO,hsz,hil,hll,hGd,hf1,HF⟩:=hrel
  obtain ⟨f,rfl⟩:∃ f',f=f'+1:=⟨f-1,by have:=zb hf1;omega⟩
  have hLL:=ze hL
  have hTT:=ze hT
  have hOO:=ze hO
  have hLW:=ze hL
  clear hT hO
  obtain ⟨l0,l1,l2,l3,k1,k2,k3⟩:=hL
  by_cases c1:st'.i<s.size∧st'.e=0
  ·obtain ⟨hGi,hle,hop0,hop1,hfu⟩:=zb hGd c1.2
   have C1:=ze c1
   have hi:st'.i<s.size:=c1.1
   have e0:(st'.e == 0)=true:=by simp [c1.2]
   have c2d:decide ((st'.i:Int)<(s.size:Int))=true:=by simp;omega
   have HGi:=ze hGi
   have Hfu:=ze hfu
   clear c1 hGi hfu
   by_cases c3:atom=true∧Ref.yV (zd s st'.i)=true
   ·have HF2:=ze ((zb HF).trans (Ref.Za (f:=f) (l:=l) (op:=op) (zb C1) c3))
    have hqf:=Ref.YM (zb HGi) c3.2
    have hqc:=Ref.jK c3.2
    have hat:=c3.1
    subst hat
    have hqd:(zd s st'.i == 42)=true∨((zd s st'.i == 42)=false∧(zd s st'.i == 43)=true)∨((zd s st'.i == 42)=false∧(zd s st'.i == 43)=false∧(zd s st'.i == 63)=true)∨((zd s st'.i == 42)=false∧(zd s st'.i == 43)=false∧(zd s st'.i == 63)=false∧(zd s st'.i == 123)=true):=by simp;omega
    clear c3 hqc
    go_wp2_with fail
    refine (vm w.heap.size s st' _ (zb hLL) hs).mono ?_
    rintro e w1 ⟨rfl,hON⟩
    have hL1:=(zb hLL).keep hON (fun f=>f)
    have hT1:=(zb hTT).keep hON (fun _ _ _ f=>f)
    have hO1:=(zb hOO).trans hON
    have hsz1:=hON.size
    have hLL1:=ze hL1
    clear hON l0 l1 l2 l3 k1 k2 k3
    obtain ⟨l0,l1,l2,l3,k1,k2,k3⟩:=hL1
    have HTO:=ze (And.intro hT1 hO1)
    clear hT1 hO1
    rcases hqd with y1 |⟨y1,y2⟩ |⟨y1,y2,y3⟩ |⟨y1,y2,y3,y4⟩
    all_goals
     go_wp2_with fail
     refine (Qa w.heap.size s st' _ (zb hLL1) hs hi (zb C1).2).mono ?_
     rintro e w2 ⟨rfl,hL5,hO5⟩
     have hT5:=(zb HTO).1.keep hO5 (by intro g hg _ hh;unfold zl at hh;omega)
     have hO6:=((zb HTO).2).young hO5 (Nat.le_refl _)
     have hlt5:w.heap.size<w2.heap.size:=hL5.lt
     generalize hq:Ref.zK s st'=q at *
     obtain ⟨mn,mx,st2⟩:=q
     simp only [] at *
     have hk:=(Only.refl (fun _=>False) w2).alloc (.cells #[.int .i64 6,.bool false,.slice none 0 0,.int .i64 0,.int .i64 mn,.int .i64 mx] 178)
     have hbn:¬(Value.slice pa pn pc).ownBlock=some w2.heap.size:=by
      intro hh;obtain ⟨cs,h1,_⟩:=hT5;have:=(zg h1 _ hh).2;omega
     have hBN:=ze hbn
     have H3:=ze (And.intro (hL5.keep hk (fun f=>f)) (And.intro (hT5.keep hk (fun _ _ _ f=>f)) (And.intro (hO6.trans hk) (Six.new (n:=w2.heap.size) (a0:=.int .i64 6) (a1:=.bool false) (a2:=.slice none 0 0) (a3:=.int .i64 0) (a4:=.int .i64 mn) (a5:=.int .i64 mx) w2 178 rfl))))
     clear hk hbn hL5 hT5 hO6 l0 l1 l2 l3 k1 k2 k3
     go_upto_region 10 with fail
     generalize hw3:w2.alloc (.cells #[.int .i64 6,.bool false,.slice none 0 0,.int .i64 0,.int .i64 mn,.int .i64 mx] 178)=w3 at *
     obtain ⟨hL6,hT6,hO7,hB6⟩:=zb H3
     clear hw3 H3
     have hLL:=ze hL6
     have hBB:=ze hB6
     have hOO:=ze hO7
     have hsz3:w2.heap.size<w3.heap.size:=hB6.lt
     obtain ⟨cs,hown,htok⟩:=hT6
     obtain ⟨l0,l1,l2,l3,k1,k2,k3⟩:=hL6
     obtain ⟨t0,t1,t2,t3,t4,t5,v0,v1,v2,v3,v4,v5⟩:=hB6
     obtain ⟨i0,hi,hz0,hz1,hz2⟩:=info_parts Tryz.infoTok
     have hll4:l.length≤500:=by omega
     clear hO7
     go_wp2_with (at_builtin;refine wpList_append_own _ rfl _ _ 48 rfl (w.heap.size+1) 178 i0 (.agg #[.int .i64 0,.bool false,.slice none 0 0,.int .i64 0,.int .i64 0,.int .i64 0]) 6 64 Tryz.underlying48 hi hz0 hz1 hz2 rfl (by decide) _ _ _ rfl (World.ownsRow.alloc hown _) _ 1 1 [.int .i64 6,.bool false,.slice none 0 0,.int .i64 0,.int .i64 mn,.int .i64 mx] rfl rfl (Zb _ _ _ _ _ _ _ _) (fun x hx=>by simp at hx;rcases hx with rfl |rfl |rfl |rfl |rfl |rfl<;>rfl) (by unfold maxLen;omega) (by omega) (by simp;omega) ?_;intro v' w5 hown' hgrow hnil;obtain ⟨pa',pn',pc',rfl⟩:=zq hown';have kx:=(((Only.refl (fun k=>(Value.slice pa pn pc).ownBlock=some k) w3).alloc _).trans (Only.ofGrown hgrow));have hL7:=(zb hLL).keep kx (by intro hh;have:=(zg hown _ hh).1;omega);have hB7:=(zb hBB).keep kx (by intro hh;exact absurd hh (zb hBN));have X:=ze (And.intro hL7 (And.intro hown' (And.intro hgrow (And.intro kx hB7))));clear hown' hgrow hnil kx l0 l1 l2 l3 k1 k2 k3;obtain ⟨l0,l1,l2,l3,k1,k2,k3⟩:=hL7;obtain ⟨x0,x1,x2,x3,x4,x5,z0,z1,z2,z3,z4,z5⟩:=hB7)
     obtain ⟨hL7,hown',hgrow,kx,hB7⟩:=zb X
     have hTn:=ToksAt.appended (t:=⟨6,false,[],0,mn,mx⟩) (World.ownsRow.alloc hown _) (ToksOK.keep (w:=w3) ((Only.refl (fun _=>False) w3).alloc _) (fun _ _ _ f=>f) l cs htok) (PartsAt.nil _ _) hown' hgrow
     have hOn:=(((zb hOO).alloc _).grown hgrow (fun j hj=>Or.inr (by have:=(zg hown j hj).1;omega)))
     have hq1:=hqf.1
     have hq2:=hqf.2.1
     go_roundw
     case rel=>exact ⟨l++[⟨6,false,[],0,mn,mx⟩],pa',pn',pc',op,false,st2,f,rfl,rfl,rfl,ho1,ho2,hTn,hL7,hOn,by have:=kx.size;omega,hq2,by simp;omega,(fun h0=>⟨hqf.2.2 h0,by simp;omega,hop0,hop1,by have:=zb Hfu;omega⟩),(by have:=zb Hfu;show 1≤_;omega),HF2⟩
     case measure=>rw [xZ hL7,xZ (zb hLW),wK hL7,wK (zb hLW),if_pos (zb C1).2];split<;>omega
   ·have c4:atom=false∨(atom=true∧(zd s st'.i == 42)=false∧(zd s st'.i == 43)=false∧(zd s st'.i == 63)=false∧(zd s st'.i == 123)=false):=by
     cases atom
     ·exact .inl rfl
     ·right;simp [Ref.yV] at c3;simp;omega
    have C3:=ze c3
    clear c3
    by_cases c5:zd s st'.i=40∧op=10
    ·have HH:=ze ((zb HF).trans (Ref.Z3 (f:=f) (l:=l) (zb C1) (zb C3) c5))
     have d1:(zd s st'.i == 40)=true:=by simp [c5.1]
     have d2:(op == 10)=true:=by simp [c5.2]
     clear c5
     go_wp2_with fail
     refine (vm w.heap.size s st' _ (zb hLL) hs).mono ?_
     rintro e w1 ⟨rfl,hON⟩
     have hL1:=(zb hLL).keep hON (fun f=>f)
     have hO1:=ze ((zb hOO).trans hON)
     clear hON l0 l1 l2 l3 k1 k2 k3
     obtain ⟨l0,l1,l2,l3,k1,k2,k3⟩:=hL1
     rcases c4 with rfl |⟨rfl,y1,y2,y3,y4⟩
     all_goals
      go_wp2_with fail
      go_ret3
      rw [zb HH]
      exact ⟨_,rfl,ToksAt.nil _ _,zb hO1⟩
    ·have HF2:=ze ((zb HF).trans (Ref.xM (f:=f) (l:=l) (zb C1) (zb C3) c5))
     have htf:=Ref.Vl (zb HGi) hi
     have hk3:=Ref.tokenF_open (s:=s) (st:=st')
     have c6:(zd s st'.i == 40)=false∨((zd s st'.i == 40)=true∧(op == 10)=false):=by simp;omega
     have C5:=ze c5
     clear c5
     go_wp2_with fail
     refine (vm w.heap.size s st' _ (zb hLL) hs).mono ?_
     rintro e w1 ⟨rfl,hON⟩
     have hL1:=(zb hLL).keep hON (fun f=>f)
     have hT1:=(zb hTT).keep hON (fun _ _ _ f=>f)
     have hO1:=(zb hOO).trans hON
     have hsz1:=hON.size
     have hLL1:=ze hL1
     clear hON l0 l1 l2 l3 k1 k2 k3
     obtain ⟨l0,l1,l2,l3,k1,k2,k3⟩:=hL1
     have HTO:=ze (And.intro hT1 hO1)
     clear hT1 hO1
     rcases c4 with rfl |⟨rfl,y1,y2,y3,y4⟩
     all_goals
      rcases c6 with y5 |⟨y5,y6⟩
     all_goals
      go_wp2_with fail
      refine (zbK w.heap.size s st' _ (zb hLL1) hs hi (zb HGi) (zb C1).2).mono ?_
      rintro e w2 ⟨pv,rfl,hpt,hL5,hO5⟩
      have hT5:=(zb HTO).1.keep hO5 (by intro g hg _ hh;unfold zl at hh;omega)
      have hO6:=((zb HTO).2).young hO5 (Nat.le_refl _)
      have hlt5:w.heap.size<w2.heap.size:=hL5.lt
      have hpt':=PartsAt.base (base':=w.heap.size+1) hpt (by omega)
      obtain ⟨qs,hq1,hq2⟩:=hpt
      obtain ⟨qa,qn,qc,rfl⟩:=zq hq1
      clear hq1 hq2
      generalize hq:Ref.zx s st'=q at *
      obtain ⟨⟨k,ng,pt,tc,mn,mx⟩,st2⟩:=q
      simp only [] at *
      have hk:=(Only.refl (fun _=>False) w2).alloc (.cells #[.int .i64 k,.bool ng,.slice qa qn qc,.int .i64 tc,.int .i64 mn,.int .i64 mx] 178)
      have hbn:¬(Value.slice pa pn pc).ownBlock=some w2.heap.size:=by
       intro hh;obtain ⟨cs,h1,_⟩:=hT5;have:=(zg h1 _ hh).2;omega
      have hBN:=ze hbn
      have H3:=ze (And.intro (hL5.keep hk (fun f=>f)) (And.intro (hT5.keep hk (fun _ _ _ f=>f)) (And.intro (hO6.trans hk) (And.intro (hpt'.keep hk (fun _ _ _ f=>f)) (Six.new (n:=w2.heap.size) (a0:=.int .i64 k) (a1:=.bool ng) (a2:=.slice qa qn qc) (a3:=.int .i64 tc) (a4:=.int .i64 mn) (a5:=.int .i64 mx) w2 178 rfl)))))
      clear hk hbn hL5 hT5 hO5 hO6 hpt' hq l0 l1 l2 l3 k1 k2 k3
      go_upto_region 15 with fail
      generalize hw3:w2.alloc (.cells #[.int .i64 k,.bool ng,.slice qa qn qc,.int .i64 tc,.int .i64 mn,.int .i64 mx] 178)=w3 at *
      obtain ⟨hL6,hT6,hO7,hP6,hB6⟩:=zb H3
      clear hw3 H3
      have hLL:=ze hL6
      have hBB:=ze hB6
      have hOO:=ze hO7
      have hPP:=ze hP6
      have hsz3:w2.heap.size<w3.heap.size:=hB6.lt
      obtain ⟨cs,hown,htok⟩:=hT6
      obtain ⟨l0,l1,l2,l3,k1,k2,k3⟩:=hL6
      obtain ⟨t0,t1,t2,t3,t4,t5,v0,v1,v2,v3,v4,v5⟩:=hB6
      obtain ⟨i0,hi0,hz0,hz1,hz2⟩:=info_parts Tryz.infoTok
      have hll4:l.length≤500:=by omega
      have Hk3:=ze hk3
      have Htf:=ze htf
      have hq2:=htf.1
      have hq3:=htf.2.2
      clear hO7 hP6 hk3 htf
      have hkc:((k == 3)=true∧(k == 4)=false∧(k == 1)=false)∨((k == 3)=false∧(k == 4)=true∧(k == 1)=false∧op-1<0)∨((k == 3)=false∧(k == 4)=true∧(k == 1)=false∧0≤op-1)∨((k == 3)=false∧(k == 4)=false∧(k == 1)=true)∨((k == 3)=false∧(k == 4)=false∧(k == 1)=false):=by simp;omega
      have hTh:=ze (And.intro hown htok)
      have HIi:=ze (And.intro hi0 (And.intro hz0 (And.intro hz1 hz2)))
      clear hown htok hi0 hz0 hz1 hz2
      rcases hkc with ⟨m1,m2,m3⟩ |⟨m1,m2,m3,m4⟩ |⟨m1,m2,m3,m4⟩ |⟨m1,m2,m3⟩ |⟨m1,m2,m3⟩
     all_goals
      obtain ⟨hown,htok⟩:=zb hTh
      obtain ⟨hi,hz0,hz1,hz2⟩:=zb HIi
      go_wp2_with (at_builtin;refine wpList_append_own _ rfl _ _ 48 rfl (w.heap.size+1) 178 i0 (.agg #[.int .i64 0,.bool false,.slice none 0 0,.int .i64 0,.int .i64 0,.int .i64 0]) 6 64 Tryz.underlying48 hi hz0 hz1 hz2 rfl (by decide) _ _ _ rfl (World.ownsRow.alloc hown _) _ 1 1 [.int .i64 k,.bool ng,.slice qa qn qc,.int .i64 tc,.int .i64 mn,.int .i64 mx] rfl rfl (Zb _ _ _ _ _ _ _ _) (fun x hx=>by simp at hx;rcases hx with rfl |rfl |rfl |rfl |rfl |rfl<;>rfl) (by unfold maxLen;omega) (by omega) (by simp;omega) ?_;intro v' w5 hown' hgrow hnil;obtain ⟨pa',pn',pc',rfl⟩:=zq hown';have kx:=(((Only.refl (fun k=>(Value.slice pa pn pc).ownBlock=some k) w3).alloc _).trans (Only.ofGrown hgrow));have hL7:=(zb hLL).keep kx (by intro hh;have:=(zg hown _ hh).1;omega);have hB7:=(zb hBB).keep kx (by intro hh;exact absurd hh (zb hBN));have X:=ze (And.intro hL7 (And.intro hown' (And.intro hgrow (And.intro kx hB7))));clear hown' hgrow hnil kx l0 l1 l2 l3 k1 k2 k3;obtain ⟨l0,l1,l2,l3,k1,k2,k3⟩:=hL7;obtain ⟨x0,x1,x2,x3,x4,x5,z0,z1,z2,z3,z4,z5⟩:=hB7)
     all_goals
      obtain ⟨hL7,hown',hgrow,kx,hB7⟩:=zb X
      have hTn:=ToksAt.appended (t:=⟨k,ng,pt,tc,mn,mx⟩) (World.ownsRow.alloc hown _) (ToksOK.keep (w:=w3) ((Only.refl (fun _=>False) w3).alloc _) (fun _ _ _ f=>f) l cs htok) ((zb hPP).keep ((Only.refl (fun _=>False) w3).alloc _) (fun _ _ _ f=>f)) hown' hgrow
      have hOn:=(((zb hOO).alloc _).grown hgrow (fun j hj=>Or.inr (by have:=(zg hown j hj).1;omega)))
      have hop3:(k == 3)=true→op≤9:=fun m=>by have a1:=zb Hk3 (by simpa using m);have a2:=zb C5;omega
      try (have hop9:=hop3 m1)
      have htf:=zb Htf
      have hsz9:=kx.size
      first
       |(refine (zY w.heap.size s st2 3 _ _ hL7).mono ?_
         rintro e w6 ⟨rfl,hL8,hO8⟩
         have hB8:=hB7.keep hO8 (by unfold zl;omega)
         have hX8:=ze (And.intro hL8 (And.intro (hTn.keep hO8 (by intro g hg _ hh;unfold zl at hh;omega)) (hOn.young hO8 (Nat.le_refl _))))
         have hs8:=hO8.size
         clear hL8 hO8 x0 x1 x2 x3 x4 x5 z0 z1 z2 z3 z4 z5 l0 l1 l2 l3 k1 k2 k3
         obtain ⟨x0,x1,x2,x3,x4,x5,z0,z1,z2,z3,z4,z5⟩:=hB8
         go_wp2_with fail
         obtain ⟨hL8,hT8,hO9⟩:=zb hX8
         have hne:=Ref.qX st2 3 (st'.i:Int) (by decide)
         go_roundw
         case rel=>exact ⟨l++[⟨k,ng,pt,tc,mn,mx⟩],pa',pn',pc',_,_,st2.fail 3 st'.i,f,rfl,rfl,rfl,by omega,by omega,hT8,hL8,hO9,by omega,by rw [Ref.yQ];omega,by rw [Ref.yQ];simp;omega,(fun h0=>absurd h0 hne),(by have:=zb Hfu;show 1≤_;omega),ze ((zb HF2).trans (Ref.tk4n m1 m2 m3 m4))⟩
         case measure=>rw [xZ hL8,xZ (zb hLW),wK hL8,wK (zb hLW),if_pos (zb C1).2,if_neg hne,Ref.yQ];omega)
       |(go_roundw
         case rel=>exact ⟨l++[⟨k,ng,pt,tc,mn,mx⟩],pa',pn',pc',_,_,st2,f,rfl,rfl,rfl,by omega,by omega,hTn,hL7,hOn,by omega,by omega,by simp;omega,(fun h0=>⟨(htf.2.1 h0).2,by have:=(htf.2.1 h0).1;simp;omega,by omega,by omega,by have:=(htf.2.1 h0).1;have:=zb Hfu;omega⟩),(by have:=zb Hfu;show 1≤_;omega),(by first
          |exact ze ((zb HF2).trans (Ref.tk3 m1 hop0))
          |exact ze ((zb HF2).trans (Ref.tk4 m1 m2 m3 m4))
          |exact ze ((zb HF2).trans (Ref.tk1 m1 m2 m3 hop0))
          |exact ze ((zb HF2).trans (Ref.tk0 m1 m2 m3 hop0)))⟩
         case measure=>
          rw [xZ hL7,xZ (zb hLW),wK hL7,wK (zb hLW),if_pos (zb C1).2]
          by_cases h0:st2.e=0
          ·have:=(htf.2.1 h0).1;rw [if_pos h0];omega
          ·rw [if_neg h0];omega)
  ·have HH:Hid (Ref.yj s=(l,(if 0<op then st'.fail 3 s.size else st').e,(if 0<op then st'.fail 3 s.size else st').a)):=by rw [zb HF];exact Ref.km c1
   have c2:¬st'.i<s.size∨(st'.i<s.size∧(st'.e == 0)=false):=by
    by_cases hq:st'.i<s.size
    ·exact .inr ⟨hq,by simp;intro h0;exact c1 ⟨hq,h0⟩⟩
    ·exact .inl hq
   clear c1
   rcases c2 with c2 |⟨c2,c3⟩
   case' inl=>have c2d:decide ((st'.i:Int)<(s.size:Int))=false:=by simp;omega
   case' inr=>have c2d:decide ((st'.i:Int)<(s.size:Int))=true:=by simp;omega
   all_goals
    by_cases hop:0<op
    ·go_wp2_with fail
     refine (zY w.heap.size s st' 3 _ _ (zb hLL)).mono ?_
     rintro e w2 ⟨rfl,hL5,hO5⟩
     have HL5:=ze hL5
     have HO5:=ze hO5
     obtain ⟨m0,m1,m2,m3,j1,j2,j3⟩:=hL5
     clear hO5
     go_wp2_with fail
     go_quiet (fail)
     go_wp2_with fail
     go_ret3
     rw [zb HH,if_pos hop]
     exact ⟨_,rfl,((zb hTT).keep (zb HO5) (by intro g hg _ hh;unfold zl at hh;omega)).keep ((Only.refl (fun _=>False) w2).drewN _) (fun _ _ _ f=>f),(((zb hOO).mono (Q:=fun _=>False) (fun _ _ f=>f)).young (zb HO5) (Nat.le_refl _)).drewN _⟩
    ·go_wp2_with fail
     go_quiet (fail)
     go_wp2_with fail
     go_ret3
     rw [zb HH,if_neg (by omega)]
     exact ⟨_,rfl,(zb hTT).keep ((Only.refl (fun _=>False) wr).drewN _) (fun _ _ _ f=>f),(zb hOO).drewN _⟩
end
section
open Go.RowKit
set_option maxHeartbeats 800000
def TokRow (w:World)(g off:Nat)(l:List Tok):Prop:=∀ (j:Nat) (t:Tok),l[j]?=some t→∃ pa pn pc,
 w.cell? ⟨g,off+j*6,none⟩=some (.int .i64 t.kind)∧w.cell? ⟨g,off+j*6+1,none⟩=some (.bool t.neg)∧w.cell? ⟨g,off+j*6+2,none⟩=some (.slice pa pn pc)∧
 w.cell? ⟨g,off+j*6+3,none⟩=some (.int .i64 t.c)∧w.cell? ⟨g,off+j*6+4,none⟩=some (.int .i64 t.mn)∧w.cell? ⟨g,off+j*6+5,none⟩=some (.int .i64 t.mx)
namespace Ref
def zP (l:List Tok)(k:Nat):Int:=match l[k]? with
 |some t=>t.kind
 |none=>0
def y9 (l:List Tok):Nat→Nat→Int→Int
 |0,_,_=>(l.length:Int)-1
 |f+1,k,op=>if k<l.length then (if zW (zP l k) op=0 then (k:Int) else y9 l f (k+1) (zW (zP l k) op)) else (l.length:Int)-1
def yW (l:List Tok)(i:Nat):Int:=y9 l (l.length+1-i) i 0
end Ref
theorem TokRow.kind {w:World}{g off:Nat}{l:List Tok}(h:TokRow w g off l)(k:Nat)(hk:k<l.length):w.cell? ⟨g,off+k*6,none⟩=some (.int .i64 (Ref.zP l k)):=by
 obtain ⟨_,_,_,h0,_⟩:=h k l[k] (List.getElem?_eq_getElem hk)
 unfold Ref.zP;rw [List.getElem?_eq_getElem hk];exact h0
theorem Vm (g off cap:Nat)(l:List Tok)(i:Nat)(w:World)(h:TokRow w g off l)(hl:l.length≤1000)(_hc:l.length≤cap)(hi:i≤l.length) :
  Calls Tryz.prog 127 #[.slice (some ⟨g,off,none⟩) l.length cap,.int .i64 i] w fun x w'=>x = .returned (.int .i64 (Ref.yW l i))∧w'=w:=by
 have H:=ze h
 clear h
 go_enter Tryz.func127,Tryz.ntmps127
 go_wp2_with fail
 go_loop [5,6] (fun o k=>∃ (op:Int) (n f:Nat),o = .int .i64 op∧k = .int .i64 n∧n≤l.length∧-2000-n≤op∧op≤n∧Hid (l.length<n+f)∧Hid (Ref.yW l i=Ref.y9 l f n op)) (fun _ k=>l.length-(intOf k).toNat)
 case atStart=>exact ⟨0,i,l.length+1-i,rfl,rfl,hi,by omega,by omega,(by show _<_;omega),rfl⟩
 case round=>
  obtain ⟨op,n,f,rfl,rfl,hn,ho1,ho2,hf,HF⟩:=hrel
  obtain ⟨f,rfl⟩:∃ f',f=f'+1:=⟨f-1,by have:=zb hf;omega⟩
  by_cases hlt:n<l.length
  ·have hkc:=(zb H).kind n hlt
   have hstep:Hid (Ref.yW l i=if Ref.zW (Ref.zP l n) op=0 then (n:Int) else Ref.y9 l f (n+1) (Ref.zW (Ref.zP l n) op)):=by
    rw [zb HF];simp only [Ref.y9];rw [if_pos hlt];rfl
   generalize hK:Ref.zP l n=K at *
   clear hK
   have hcs:((K == 3)=true∧Ref.zW K op=op+1)∨((K == 3)=false∧(K == 4)=true∧Ref.zW K op=op-1)∨((K == 3)=false∧(K == 4)=false∧Ref.zW K op=op):=by
    by_cases h3:K=3
    ·left;simp [Ref.zW,h3]
    ·by_cases h4:K=4
     ·right;left;simp [Ref.zW,h4]
     ·right;right;simp [Ref.zW,h3,h4]
   rcases hcs with ⟨a1,a3⟩ |⟨a1,a2,a3⟩ |⟨a1,a2,a3⟩
   all_goals
    rw [a3] at hstep
    clear a3
   ·by_cases hz:op+1=0
    ·have hz':(op+1 == 0)=true:=by simp [hz]
     have HH:Hid (Ref.yW l i=(n:Int)):=by rw [zb hstep,if_pos hz];rfl
     clear hz
     go_wp2_with fail
     go_ret
     exact ⟨xG (zb HH).symm,rfl⟩
    ·have hz':(op+1 == 0)=false:=by simp [hz]
     have HH:Hid (Ref.yW l i=Ref.y9 l f (n+1) (op+1)):=by rw [zb hstep,if_neg hz];rfl
     clear hz
     go_wp2_with fail
     go_round
     case rel=>exact ⟨op+1,n+1,f,rfl,by go_num,by omega,by omega,by omega,(by have:=zb hf;show _<_;omega),HH⟩
     case measure=>simp [intOf];omega
   ·by_cases hz:op-1=0
    ·have hz':(op-1 == 0)=true:=by simp;omega
     have HH:Hid (Ref.yW l i=(n:Int)):=by rw [zb hstep,if_pos hz];rfl
     clear hz
     go_wp2_with fail
     go_ret
     exact ⟨xG (zb HH).symm,rfl⟩
    ·have hz':(op-1 == 0)=false:=by simp;omega
     have HH:Hid (Ref.yW l i=Ref.y9 l f (n+1) (op-1)):=by rw [zb hstep,if_neg hz];rfl
     clear hz
     go_wp2_with fail
     go_round
     case rel=>exact ⟨op-1,n+1,f,rfl,by go_num,by omega,by omega,by omega,(by have:=zb hf;show _<_;omega),HH⟩
     case measure=>simp [intOf];omega
   ·by_cases hz:op=0
    ·have hz':(op == 0)=true:=by simp [hz]
     have HH:Hid (Ref.yW l i=(n:Int)):=by rw [zb hstep,if_pos hz];rfl
     clear hz
     go_wp2_with fail
     go_ret
     exact ⟨xG (zb HH).symm,rfl⟩
    ·have hz':(op == 0)=false:=by simp [hz]
     have HH:Hid (Ref.yW l i=Ref.y9 l f (n+1) op):=by rw [zb hstep,if_neg hz];rfl
     clear hz
     go_wp2_with fail
     go_round
     case rel=>exact ⟨op,n+1,f,rfl,by go_num,by omega,by omega,by omega,(by have:=zb hf;show _<_;omega),HH⟩
     case measure=>simp [intOf];omega
  ·have HH:Hid (Ref.yW l i=(l.length:Int)-1):=by rw [zb HF];simp only [Ref.y9];rw [if_neg hlt];rfl
   go_wp2_with fail
   go_ret
   exact ⟨xG (zb HH).symm,rfl⟩
namespace Ref
def xH (l:List Tok)(i:Nat):Int:=if zP l i=3 then yW l i+1 else (i:Int)+1
def yg (l:List Tok)(i:Nat):Int:=if xH l i<l.length∧zP l (xH l i).toNat=6 then xH l i+1 else xH l i
theorem YN (l:List Tok):∀ (f k:Nat) (op:Int),k≤l.length→0<l.length→0≤y9 l f k op∧y9 l f k op<l.length
 |0,k,op,_,h=>by simp only [y9];omega
 |f+1,k,op,hk,h=>by
  simp only [y9]
  split
  ·split
   ·omega
   ·exact YN l f (k+1) _ (by omega) h
  ·omega
end Ref
theorem qC (g off cap:Nat)(l:List Tok)(i:Nat)(w:World)(h:TokRow w g off l)(hl:l.length≤1000)(hc:l.length≤cap)(hi:i<l.length) :
  Calls Tryz.prog 73 #[.slice (some ⟨g,off,none⟩) l.length cap,.int .i64 i] w fun x w'=>x = .returned (.tuple #[.int .i64 (Ref.xH l i),.int .i64 (Ref.yg l i)])∧w'=w:=by
 have hk:=h.kind i hi
 have H:=ze h
 clear h
 by_cases h3:Ref.zP l i=3
 ·have h3':(Ref.zP l i == 3)=true:=by simp [h3]
  have hcb:=Ref.YN l (l.length+1-i) i 0 (by omega) (by omega)
  obtain ⟨C,hC⟩:∃ C:Nat,Ref.yW l i=(C:Int):=⟨(Ref.yW l i).toNat,by unfold Ref.yW;omega⟩
  have hC1:C<l.length:=by have:Ref.yW l i<l.length:=hcb.2;omega
  have HE:Hid (Ref.xH l i=((C+1:Nat):Int)):=by show _=_;unfold Ref.xH;rw [if_pos h3,hC];omega
  have HC:=ze hC
  clear h3 hcb hC
  go_enter Tryz.func73,Tryz.ntmps73
  go_wp2_with fail
  refine (Vm g off cap l i _ (zb H) hl hc (by omega)).mono ?_
  rintro e w1 ⟨rfl,hw1⟩
  have hw2:=hw1.symm
  subst hw2
  clear hw1
  rw [zb HC]
  by_cases hlt:C+1<l.length
  ·have hk2:=(zb H).kind (C+1) hlt
   by_cases h6:Ref.zP l (C+1)=6
   ·have h6':(Ref.zP l (C+1) == 6)=true:=by simp [h6]
    have HN:Hid (Ref.yg l i=((C+1:Nat):Int)+1):=by
     show _=_;unfold Ref.yg;rw [zb HE,Int.toNat_natCast,if_pos ⟨by omega,h6⟩]
    clear h6
    go_wp2_with fail
    go_ret2
    rw [zb HN,zb HE]
    exact ⟨kL (by omega) (by omega),rfl⟩
   ·have h6':(Ref.zP l (C+1) == 6)=false:=by simp [h6]
    have HN:Hid (Ref.yg l i=((C+1:Nat):Int)):=by
     show _=_;unfold Ref.yg;rw [zb HE,Int.toNat_natCast,if_neg (by intro hh;exact h6 hh.2)]
    clear h6
    go_wp2_with fail
    go_ret2
    rw [zb HN,zb HE]
    exact ⟨kL (by omega) (by omega),rfl⟩
  ·have HN:Hid (Ref.yg l i=((C+1:Nat):Int)):=by
    show _=_;unfold Ref.yg;rw [zb HE,if_neg (by omega)]
   go_wp2_with fail
   go_ret2
   rw [zb HN,zb HE]
   exact ⟨kL (by omega) (by omega),rfl⟩
 ·have h3':(Ref.zP l i == 3)=false:=by simp [h3]
  have HE:Hid (Ref.xH l i=((i+1:Nat):Int)):=by show _=_;unfold Ref.xH;rw [if_neg h3];omega
  clear h3
  go_enter Tryz.func73,Tryz.ntmps73
  by_cases hlt:i+1<l.length
  ·have hk2:=(zb H).kind (i+1) hlt
   by_cases h6:Ref.zP l (i+1)=6
   ·have h6':(Ref.zP l (i+1) == 6)=true:=by simp [h6]
    have HN:Hid (Ref.yg l i=((i+1:Nat):Int)+1):=by
     show _=_;unfold Ref.yg;rw [zb HE,Int.toNat_natCast,if_pos ⟨by omega,h6⟩]
    clear h6
    go_wp2_with fail
    go_ret2
    rw [zb HN,zb HE]
    exact ⟨kL (by omega) (by omega),rfl⟩
   ·have h6':(Ref.zP l (i+1) == 6)=false:=by simp [h6]
    have HN:Hid (Ref.yg l i=((i+1:Nat):Int)):=by
     show _=_;unfold Ref.yg;rw [zb HE,Int.toNat_natCast,if_neg (by intro hh;exact h6 hh.2)]
    clear h6
    go_wp2_with fail
    go_ret2
    rw [zb HN,zb HE]
    exact ⟨kL (by omega) (by omega),rfl⟩
  ·have HN:Hid (Ref.yg l i=((i+1:Nat):Int)):=by
    show _=_;unfold Ref.yg;rw [zb HE,if_neg (by omega)]
   go_wp2_with fail
   go_ret2
   rw [zb HN,zb HE]
   exact ⟨kL (by omega) (by omega),rfl⟩
def LetRow (w:World)(g:Nat)(L:List (Int×Int)):Prop:=∀ (j:Nat) (p:Int×Int),L[j]?=some p→w.cell? ⟨g,j*2,none⟩=some (.int .i64 p.1)∧w.cell? ⟨g,j*2+1,none⟩=some (.int .i32 p.2)
structure RdAt (w:World)(b:Nat)(L:List (Int×Int))(n:Nat)(len dp:Int):Prop where
 c0:(∃ g cap,w.cell? ⟨b,0,none⟩=some (.slice (some ⟨g,0,none⟩) L.length cap)∧L.length≤cap∧g<b∧LetRow w g L)∨(L=[]∧w.cell? ⟨b,0,none⟩=some (.slice none 0 0))
 c1:w.cell? ⟨b,1,none⟩=some (.int .i64 n)
 c2:w.cell? ⟨b,2,none⟩=some (.int .i64 len)
 c3:w.cell? ⟨b,3,none⟩=some (.int .i64 dp)
 f1:w.frozen? ⟨b,1,none⟩=false
 f3:w.frozen? ⟨b,3,none⟩=false
theorem LetRow.keep {P:Nat→Prop}{w w':World}{g:Nat}{L:List (Int×Int)}(h:LetRow w g L)(k:Only P w w')(hn:¬P g):LetRow w' g L:=fun j p hj=>
 ⟨(k.cell (World.block_lt_of_cell? w _ (h j p hj).1) hn).trans (h j p hj).1,(k.cell (World.block_lt_of_cell? w _ (h j p hj).2) hn).trans (h j p hj).2⟩
theorem RdAt.lt {w:World}{b:Nat}{L:List (Int×Int)}{n:Nat}{len dp:Int}(h:RdAt w b L n len dp):b<w.heap.size:=World.block_lt_of_cell? w ⟨b,1,none⟩ h.c1
theorem RdAt.keep {P:Nat→Prop}{w w':World}{b:Nat}{L:List (Int×Int)}{n:Nat}{len dp:Int}(h:RdAt w b L n len dp)(k:Only P w w')(hb:¬P b)(hg:∀ g,g<b→¬P g):RdAt w' b L n len dp:=by
 have hlt:=h.lt
 obtain ⟨c0,c1,c2,c3,f1,f3⟩:=h
 refine ⟨?_,(k.cell (p:=⟨b,1,none⟩) hlt hb).trans c1,(k.cell (p:=⟨b,2,none⟩) hlt hb).trans c2,(k.cell (p:=⟨b,3,none⟩) hlt hb).trans c3,(k.frozen (p:=⟨b,1,none⟩) hlt hb).trans f1,(k.frozen (p:=⟨b,3,none⟩) hlt hb).trans f3⟩
 rcases c0 with ⟨g,cap,c0,hcap,hne,hrow⟩ |⟨rfl,c0⟩
 ·refine .inl ⟨g,cap,(k.cell (p:=⟨b,0,none⟩) hlt hb).trans c0,hcap,hne,?_⟩
  intro j p hj
  exact hrow.keep k (hg g hne) j p hj
 ·exact .inr ⟨rfl,(k.cell (p:=⟨b,0,none⟩) hlt hb).trans c0⟩
theorem RdAt.drewN {w:World}{b:Nat}{L:List (Int×Int)}{n:Nat}{len dp:Int}(h:RdAt w b L n len dp)(q:Nat):RdAt (w.drewN q) b L n len dp:=
 h.keep ((Only.refl (fun _=>False) w).drewN q) (fun f=>f) (fun _ _ f=>f)
theorem RdAt.setN {w:World}{b:Nat}{L:List (Int×Int)}{n:Nat}{len dp:Int}(h:RdAt w b L n len dp)(m:Nat)(j:Int)(hj:j=(m:Int)):RdAt (w.setCell ⟨b,1,none⟩ (.int .i64 j)) b L m len dp:=by
 subst hj
 obtain ⟨c0,c1,c2,c3,f1,f3⟩:=h
 refine ⟨?_,World.cell?_setCell_same _ _ _ c1,(World.cell?_setCell_other _ _ _ _ (by simp)).trans c2,(World.cell?_setCell_other _ _ _ _ (by simp)).trans c3,(zi _ _ _ _).trans f1,(zi _ _ _ _).trans f3⟩
 rcases c0 with ⟨g,cap,c0,hcap,hne,hrow⟩ |⟨rfl,c0⟩
 ·exact .inl ⟨g,cap,(World.cell?_setCell_other _ _ _ _ (by simp)).trans c0,hcap,hne,hrow.keep ((Only.refl (zl b) w).mine 1 _) (by unfold zl;omega)⟩
 ·exact .inr ⟨rfl,(World.cell?_setCell_other _ _ _ _ (by simp)).trans c0⟩
namespace Pro
def zh (L:List (Int×Int))(k:Nat):Int:=match L[k]? with
 |some p=>p.2
 |none=>-1
def zB (L:List (Int×Int))(len:Int)(k:Nat):Int:=match L[k]? with
 |some p=>p.1
 |none=>len
theorem Qc {L:List (Int×Int)}{k:Nat}(h:k<L.length):zh L k=L[k].2:=by unfold zh;rw [List.getElem?_eq_getElem h]
theorem xp {L:List (Int×Int)}{k:Nat}(h:L.length≤k):zh L k = -1:=by unfold zh;rw [List.getElem?_eq_none h]
theorem WL {L:List (Int×Int)}{len:Int}{k:Nat}(h:k<L.length):zB L len k=L[k].1:=by unfold zB;rw [List.getElem?_eq_getElem h]
theorem kn {L:List (Int×Int)}{len:Int}{k:Nat}(h:L.length≤k):zB L len k=len:=by unfold zB;rw [List.getElem?_eq_none h]
def jo (L:List (Int×Int))(n:Nat)(word:ByteArray):Nat→Nat→Bool
 |0,_=>true
 |f+1,i=>if zh L (n+i)=zd word i then jo L n word f (i+1) else false
def zz (L:List (Int×Int))(n:Nat)(word:ByteArray):Bool:=jo L n word word.size 0
end Pro
theorem xy {k:IntKind}{a b:Int}(h:a=b):Ending.returned (.int k a) = .returned (.int k b):=by rw [h]
theorem wL (b:Nat)(L:List (Int×Int))(n:Nat)(len dp:Int)(k:Nat)(w:World)(h:RdAt w b L n len dp)(hL:L.length≤400)(hn:n≤1000)(hk:k≤1000) :
  Calls Tryz.prog 149 #[.pointer (some ⟨b,0,none⟩),.int .i64 k] w fun x w'=>x = .returned (.int .i32 (Pro.zh L (n+k)))∧w'=w:=by
 obtain ⟨c0,c1,c2,c3,f1,f3⟩:=h
 rcases c0 with ⟨g,cap,c0,hcap,_,hrow⟩ |⟨rfl,c0⟩
 ·by_cases hlt:n+k<L.length
  ·obtain ⟨r0,r1⟩:=hrow (n+k) L[n+k] (List.getElem?_eq_getElem hlt)
   have HR:Hid (Pro.zh L (n+k)=L[n+k].2):=Pro.Qc hlt
   clear hrow
   go_enter Tryz.func149,Tryz.ntmps149
   go_wp2
   go_ret
   exact ⟨xy HR.out.symm,rfl⟩
  ·have HR:Hid (Pro.zh L (n+k) = -1):=Pro.xp (by omega)
   clear hrow
   go_enter Tryz.func149,Tryz.ntmps149
   go_wp2
   go_ret
   exact ⟨xy HR.out.symm,rfl⟩
 ·have HR:Hid (Pro.zh [] (n+k) = -1):=Pro.xp (by simp)
  go_enter Tryz.func149,Tryz.ntmps149
  go_wp2
  go_ret
  exact ⟨xy HR.out.symm,rfl⟩
theorem yz (b:Nat)(L:List (Int×Int))(n:Nat)(len dp:Int)(w:World)(h:RdAt w b L n len dp)(hL:L.length≤400)(hn:n≤1000) :
  Calls Tryz.prog 147 #[.pointer (some ⟨b,0,none⟩)] w fun x w'=>x = .returned (.int .i32 (Pro.zh L n))∧w'=w:=by
 have H:=ze h
 clear h
 go_enter Tryz.func147,Tryz.ntmps147
 go_wp2_with fail
 refine (wL b L n len dp 0 _ (zb H) hL hn (by omega)).mono ?_
 rintro e w1 ⟨rfl,hw1⟩
 have hw2:=hw1.symm
 subst hw2
 clear hw1
 go_wp2_with fail
 go_ret
 exact ⟨rfl,rfl⟩
theorem jp (b:Nat)(L:List (Int×Int))(n:Nat)(len dp:Int)(w:World)(h:RdAt w b L n len dp) :
  Calls Tryz.prog 54 #[.pointer (some ⟨b,0,none⟩)] w fun x w'=>x = .returned (.bool ((n:Int) == (L.length:Int)))∧∃ q,w'=w.drewN q:=by
 obtain ⟨c0,c1,c2,c3,f1,f3⟩:=h
 rcases c0 with ⟨g,cap,c0,hcap,_,hrow⟩ |⟨rfl,c0⟩
 ·clear hrow
  go_enter Tryz.func54,Tryz.ntmps54
  go_wp2
  go_quiet (fail)
  go_wp2
  go_ret
  exact ⟨rfl,_,rfl⟩
 ·go_enter Tryz.func54,Tryz.ntmps54
  go_wp2
  go_quiet (fail)
  go_wp2
  go_ret
  exact ⟨rfl,_,rfl⟩
theorem yX (c:Int)(w:World) :
  Calls Tryz.prog 274 #[.int .i32 c] w fun x w'=>x = .returned (.bool (decide (48≤c) && decide (c≤57)))∧w'=w:=by
 by_cases h1:48≤c
 ·by_cases h2:c≤57
  ·go_enter Tryz.func274,Tryz.ntmps274
   go_wp2
   go_ret
   exact ⟨by simp [h1,h2],rfl⟩
  ·go_enter Tryz.func274,Tryz.ntmps274
   go_wp2
   go_ret
   exact ⟨by simp;omega,rfl⟩
 ·go_enter Tryz.func274,Tryz.ntmps274
  go_wp2
  go_ret
  exact ⟨by simp;try omega,rfl⟩
theorem Jb (b:Nat)(L:List (Int×Int))(n:Nat)(len dp:Int)(w:World)(h:RdAt w b L n len dp)(hL:L.length≤400)(hn:n≤L.length) :
  Calls Tryz.prog 103 #[.pointer (some ⟨b,0,none⟩)] w fun x w'=>x = .returned (.int .i64 (Pro.zB L len n))∧∃ q,w'=w.drewN q:=by
 have H:=ze h
 obtain ⟨c0,c1,c2,c3,f1,f3⟩:=h
 rcases c0 with ⟨g,cap,c0,hcap,_,hrow⟩ |⟨rfl,c0⟩
 ·by_cases hlt:n<L.length
  ·obtain ⟨r0,r1⟩:=hrow n L[n] (List.getElem?_eq_getElem hlt)
   have HR:Hid (Pro.zB L len n=L[n].1):=Pro.WL hlt
   have he:((n:Int) == (L.length:Int))=false:=by simp;omega
   clear hrow
   go_enter Tryz.func103,Tryz.ntmps103
   go_wp2_with fail
   refine (jp b L n len dp _ (zb H)).mono ?_
   rintro e w1 ⟨rfl,q,rfl⟩
   go_wp2_with fail
   go_quiet (fail)
   go_wp2_with fail
   go_ret
   exact ⟨xy HR.out.symm,_,by rw [World.drewN_drewN]⟩
  ·have HR:Hid (Pro.zB L len n=len):=Pro.kn (by omega)
   have he:((n:Int) == (L.length:Int))=true:=by simp;omega
   clear hrow
   go_enter Tryz.func103,Tryz.ntmps103
   go_wp2_with fail
   refine (jp b L n len dp _ (zb H)).mono ?_
   rintro e w1 ⟨rfl,q,rfl⟩
   go_wp2_with fail
   go_ret
   exact ⟨xy HR.out.symm,_,rfl⟩
 ·have hn0:n=0:=by simpa using hn
  have HR:Hid (Pro.zB [] len n=len):=Pro.kn (by simp)
  have he:((n:Int) == ((([]:List (Int×Int)).length:Nat):Int))=true:=by simp [hn0]
  clear hn0
  go_enter Tryz.func103,Tryz.ntmps103
  go_wp2_with fail
  refine (jp b [] n len dp _ (zb H)).mono ?_
  rintro e w1 ⟨rfl,q,rfl⟩
  rw [he]
  go_wp2_with fail
  go_ret
  exact ⟨xy HR.out.symm,_,rfl⟩
theorem kH (s:ByteArray)(k:Nat)(hk:k<s.size)(i:Int)(hi:i=(k:Int))(w:World):(Instr.index 9 (.string s) (.int .i64 i)).run Tryz.prog w = .ok (.int .u8 (zd s k)) w:=by
 subst hi
 rw [run_index_string w 9 s .i64 (k:Int) Tryz.underlying9,yD s k hk]
 simp [hk]
namespace Pro
def behind (L:List (Int×Int))(n:Nat)(word:ByteArray):Nat:=if zz L n word=true then n+word.size else n
theorem Zq {L:List (Int×Int)}{n:Nat}{word:ByteArray}(h:zz L n word=true):behind L n word=n+word.size:=by unfold behind;rw [if_pos h]
theorem Ys {L:List (Int×Int)}{n:Nat}{word:ByteArray}(h:zz L n word=false):behind L n word=n:=by unfold behind;rw [if_neg (by simp [h])]
theorem WM {L:List (Int×Int)}{n:Nat}{word:ByteArray}{f i:Nat}(h:zh L (n+i)=zd word i):jo L n word (f+1) i=jo L n word f (i+1):=by simp only [jo];rw [if_pos h]
theorem zbL {L:List (Int×Int)}{n:Nat}{word:ByteArray}{f i:Nat}(h:¬zh L (n+i)=zd word i):jo L n word (f+1) i=false:=by simp only [jo];rw [if_neg h]
end Pro
theorem take_all (b:Nat)(L:List (Int×Int))(n:Nat)(len dp:Int)(word:ByteArray)(w:World)(h:RdAt w b L n len dp)(hL:L.length≤400)(hn:n≤1000)(hw:word.size≤10) :
  Calls Tryz.prog 102 #[.pointer (some ⟨b,0,none⟩),.string word] w fun x w'=>(Pro.zz L n word=true∧x = .returned (.bool true)∧∃ q,w'=(w.drewN q).setCell ⟨b,1,none⟩ (.int .i64 ((n+word.size:Nat):Int)))∨(Pro.zz L n word=false∧x = .returned (.bool false)∧∃ q,w'=w.drewN q):=by
 have H:=ze h
 clear h
 go_enter Tryz.func102,Tryz.ntmps102
 go_wp2_with fail
 go_loopw [8] (fun c wr=>∃ (k q:Nat),c = .int .i64 k∧k≤word.size∧wr=w.drewN q∧Hid (Pro.zz L n word=Pro.jo L n word (word.size-k) k)) (fun c _=>word.size-(intOf c).toNat)
 case atStart=>exact ⟨0,0,rfl,by omega,rfl,rfl⟩
 case round=>
  obtain ⟨k,q,rfl,hk,rfl,HF⟩:=hrel
  by_cases hlt:k<word.size
  ·have hix:∀ wx,(Instr.index 9 (.string word) (.int .i64 (k:Int))).run Tryz.prog wx = .ok (.int .u8 (zd word k)) wx:=fun wx=>kH word k hlt _ rfl wx
   have hb0:=qj word k
   have hb1:=ye word k
   have hcv:IntKind.i32.wrap (zd word k)=zd word k:=by simp [IntKind.wrap,IntKind.bits,IntKind.signed];omega
   by_cases he:Pro.zh L (n+k)=zd word k
   ·have he':(Pro.zh L (n+k) != zd word k)=false:=by simp [he]
    have HG:Hid (Pro.zz L n word=Pro.jo L n word (word.size-(k+1)) (k+1)):=by rw [zb HF,show word.size-k=(word.size-(k+1))+1 by omega];exact Pro.WM he
    clear he
    go_wp2_with fail
    go_quiet ((go_at_call 149;exact (wL b L n len dp k _ (by first |exact (zb H).drewN _ |exact zb H) hL hn (by omega)).mono (by rintro e w'' ⟨rfl,rfl⟩;exact ⟨rfl,_,rfl⟩)))
    go_wp2_with fail
    go_roundw
    case rel=>exact ⟨k+1,_,by go_num,by omega,rfl,HG⟩
    case measure=>simp [intOf];omega
   ·have he':(Pro.zh L (n+k) != zd word k)=true:=by simp [he]
    have HG:Hid (Pro.zz L n word=false):=by rw [zb HF,show word.size-k=(word.size-(k+1))+1 by omega];exact Pro.zbL he
    clear he
    go_wp2_with fail
    go_quiet ((go_at_call 149;exact (wL b L n len dp k _ (by first |exact (zb H).drewN _ |exact zb H) hL hn (by omega)).mono (by rintro e w'' ⟨rfl,rfl⟩;exact ⟨rfl,_,rfl⟩)))
    go_wp2_with fail
    go_ret
    exact .inr ⟨zb HG,rfl,by first |exact ⟨_,rfl⟩ |exact ⟨_,by rw [World.drewN_drewN]⟩⟩
  ·have HG:Hid (Pro.zz L n word=true):=by rw [zb HF,show word.size-k=0 by omega];rfl
   have hc:=zb H
   obtain ⟨c0,c1,c2,c3,f1,f3⟩:=hc
   clear c0
   go_wp2_with fail
   go_ret
   exact .inl ⟨zb HG,rfl,q,by simp⟩
theorem xz (b:Nat)(L:List (Int×Int))(n:Nat)(len dp:Int)(word:ByteArray)(w:World)(h:RdAt w b L n len dp)(hL:L.length≤400)(hn:n≤1000)(hw:word.size≤10)(hm:Pro.zz L n word=false) :
  Calls Tryz.prog 102 #[.pointer (some ⟨b,0,none⟩),.string word] w fun x w'=>x = .returned (.bool false)∧∃ q,w'=w.drewN q:=
 (take_all b L n len dp word w h hL hn hw).mono (by
  rintro e w1 (⟨h1,_⟩ |⟨_,h1⟩)
  ·rw [hm] at h1;cases h1
  ·exact h1)
theorem yM (b:Nat)(L:List (Int×Int))(n:Nat)(len dp:Int)(word:ByteArray)(w:World)(h:RdAt w b L n len dp)(hL:L.length≤400)(hn:n≤1000)(hw:word.size≤10)(hm:Pro.zz L n word=true) :
  Calls Tryz.prog 102 #[.pointer (some ⟨b,0,none⟩),.string word] w fun x w'=>x = .returned (.bool true)∧RdAt w' b L (n+word.size) len dp∧Only (zl b) w w':=
 (take_all b L n len dp word w h hL hn hw).mono (by
  rintro e w1 (⟨_,rfl,q,rfl⟩ |⟨h1,_⟩)
  ·exact ⟨rfl,(h.drewN q).setN _ _ rfl,((Only.refl _ _).drewN q).mine _ _⟩
  ·rw [hm] at h1;cases h1)
theorem Vn (b:Nat)(L:List (Int×Int))(n:Nat)(len dp:Int)(word:ByteArray)(w:World)(h:RdAt w b L n len dp)(hL:L.length≤400)(hn:n≤1000)(hw:word.size≤10) :
  Calls Tryz.prog 102 #[.pointer (some ⟨b,0,none⟩),.string word] w fun x w'=>x = .returned (.bool (Pro.zz L n word))∧RdAt w' b L (Pro.behind L n word) len dp∧Only (zl b) w w':=by
 cases hm:Pro.zz L n word
 ·rw [Pro.Ys hm]
  exact (xz b L n len dp word w h hL hn hw hm).mono (by rintro e w1 ⟨rfl,q,rfl⟩;exact ⟨rfl,h.drewN q,(Only.refl _ _).drewN q⟩)
 ·rw [Pro.Zq hm]
  exact yM b L n len dp word w h hL hn hw hm
namespace Pro
def hexV (b:Int):Int:=if 48≤b∧b≤57 then b-48 else if 97≤b∧b≤102 then b-87 else if 65≤b∧b≤70 then b-55 else -1
def hexN (b:Int):Int:=if hexV b<0 then 0 else hexV b
def hexB (b:Int):Bool:=decide (0≤hexV b)
end Pro
theorem Zr {k:IntKind}{a b:Int}{c d:Bool}(h:a=b)(g:c=d):Ending.returned (.tuple #[.int k a,.bool c]) = .returned (.tuple #[.int k b,.bool d]):=by rw [h,g]
theorem jL (c:Int)(w:World)(h1:-1≤c)(h2:c≤1114111) :
  Calls Tryz.prog 287 #[.int .i32 c] w fun x w'=>x = .returned (.tuple #[.int .i32 (Pro.hexN c),.bool (Pro.hexB c)])∧w'=w:=by
 have hd:(decide (48≤c) && decide (c≤57))=true∨((decide (48≤c) && decide (c≤57))=false∧¬(48≤c∧c≤57)):=by
  by_cases h:48≤c∧c≤57
  ·left;simp [h.1,h.2]
  ·right;exact ⟨by simp;omega,h⟩
 rcases hd with hd |⟨hd,hn⟩
 ·have hd':48≤c∧c≤57:=by simpa using hd
  have HN:Hid (Pro.hexN c=c-48∧Pro.hexB c=true):=by
   have e:Pro.hexV c=c-48:=by unfold Pro.hexV;rw [if_pos hd']
   exact ⟨by unfold Pro.hexN;rw [e,if_neg (by omega)],by unfold Pro.hexB;rw [e];simp;omega⟩
  go_enter Tryz.func287,Tryz.ntmps287
  go_wp2_with fail
  refine (yX c _).mono ?_
  rintro e w1 ⟨rfl,hw1⟩
  have hw2:=hw1.symm
  subst hw2
  clear hw1
  rw [hd]
  go_wp2_with fail
  go_ret2
  rw [HN.out.1,HN.out.2]
  exact ⟨Zr (by first |rfl |omega) rfl,rfl⟩
 ·by_cases ha:97≤c∧c≤102
  ·have HN:Hid (Pro.hexN c=c-97+10∧Pro.hexB c=true):=by
    have e:Pro.hexV c=c-87:=by unfold Pro.hexV;rw [if_neg hn,if_pos ha]
    exact ⟨by unfold Pro.hexN;rw [e,if_neg (by omega)];omega,by unfold Pro.hexB;rw [e];simp;omega⟩
   obtain ⟨a1,a2⟩:=ha
   clear hn
   go_enter Tryz.func287,Tryz.ntmps287
   go_wp2_with fail
   refine (yX c _).mono ?_
   rintro e w1 ⟨rfl,hw1⟩
   have hw2:=hw1.symm
   subst hw2
   clear hw1
   rw [hd]
   go_wp2_with fail
   go_ret2
   rw [HN.out.1,HN.out.2]
   exact ⟨Zr (by first |rfl |omega) rfl,rfl⟩
  ·by_cases hA:65≤c∧c≤70
   ·have HN:Hid (Pro.hexN c=c-65+10∧Pro.hexB c=true):=by
     have e:Pro.hexV c=c-55:=by unfold Pro.hexV;rw [if_neg hn,if_neg ha,if_pos hA]
     exact ⟨by unfold Pro.hexN;rw [e,if_neg (by omega)];omega,by unfold Pro.hexB;rw [e];simp;omega⟩
    obtain ⟨a1,a2⟩:=hA
    have a3:¬97≤c:=by omega
    clear hn ha
    go_enter Tryz.func287,Tryz.ntmps287
    go_wp2_with fail
    refine (yX c _).mono ?_
    rintro e w1 ⟨rfl,hw1⟩
    have hw2:=hw1.symm
    subst hw2
    clear hw1
    rw [hd]
    go_wp2_with fail
    go_ret2
    rw [HN.out.1,HN.out.2]
    exact ⟨Zr (by first |rfl |omega) rfl,rfl⟩
   ·have HN:Hid (Pro.hexN c=0∧Pro.hexB c=false):=by
     have e:Pro.hexV c = -1:=by unfold Pro.hexV;rw [if_neg hn,if_neg ha,if_neg hA]
     exact ⟨by unfold Pro.hexN;rw [e];rfl,by unfold Pro.hexB;rw [e];rfl⟩
    have Hx:=ze (And.intro hn (And.intro ha hA))
    clear hn ha hA
    go_enter Tryz.func287,Tryz.ntmps287
    go_wp2_with fail
    refine (yX c _).mono ?_
    rintro e w1 ⟨rfl,hw1⟩
    have hw2:=hw1.symm
    subst hw2
    clear hw1
    rw [hd]
    go_wp2_with fail
    all_goals first
     |(exfalso;have:=zb Hx;omega)
     |skip
    all_goals
     go_ret2
     rw [HN.out.1,HN.out.2]
     exact ⟨rfl,rfl⟩
def FaultAt (w:World)(base:Nat)(v:Value)(kind:Value)(p:Int):Prop:=∃ g,base≤g∧v = .iface 140 (.pointer (some ⟨g,0,none⟩))∧w.cell? ⟨g,0,none⟩=some kind∧w.cell? ⟨g,1,none⟩=some (.int .i64 p)
theorem FaultAt.keep {P:Nat→Prop}{w w':World}{base:Nat}{v kd:Value}{p:Int}(h:FaultAt w base v kd p)(k:Only P w w')(hn:∀ g,base≤g→¬P g):FaultAt w' base v kd p:=by
 obtain ⟨g,hg,rfl,c0,c1⟩:=h
 exact ⟨g,hg,rfl,(k.cell (World.block_lt_of_cell? w _ c0) (hn g hg)).trans c0,(k.cell (World.block_lt_of_cell? w _ c1) (hn g hg)).trans c1⟩
theorem FaultAt.base {w:World}{base base':Nat}{v kd:Value}{p:Int}(h:FaultAt w base v kd p)(hb:base'≤base):FaultAt w base' v kd p:=by
 obtain ⟨g,hg,rest⟩:=h
 exact ⟨g,by omega,rest⟩
theorem wM (T:TypeId)(x:Value)(p:Int)(w:World) :
  Calls Tryz.prog 56 #[.iface T x,.int .i64 p] w fun e w'=>∃ v,e = .returned v∧FaultAt w' w.heap.size v (.iface T x) p∧Only (fun _=>False) w w':=by
 go_enter Tryz.func56,Tryz.ntmps56
 go_wp2
 go_ret
 exact ⟨_,rfl,⟨_,by first |exact Nat.le_refl _ |simp,rfl,by first |(rw [World.cell?_alloc_at _ _ _ _ rfl];rfl),by first |(rw [World.cell?_alloc_at _ _ _ _ rfl];rfl)⟩,(Only.refl _ _).alloc _⟩
theorem zbM (b:Nat)(L:List (Int×Int))(n:Nat)(len dp:Int)(w:World)(h:RdAt w b L n len dp)(hL:L.length≤400)(hn:n≤L.length)(T:TypeId)(kd:Value)(hS:w.cell? ⟨9,0,none⟩=some (.iface T kd)) :
  Calls Tryz.prog 55 #[.pointer (some ⟨b,0,none⟩)] w fun x w'=>∃ v,x = .returned v∧FaultAt w' w.heap.size v (.iface T kd) (Pro.zB L len n)∧Only (fun _=>False) w w':=by
 have H:=ze h
 clear h
 go_enter Tryz.func55,Tryz.ntmps55
 go_wp2_with fail
 go_region_with (first
  |(go_at_call 103;refine (Jb b L n len dp _ (by first |exact zb H |exact (zb H).drewN _) hL hn).mono ?_;rintro e w1 ⟨rfl,q,rfl⟩)
  |(go_at_call 56;refine (wM _ _ _ _).mono ?_;rintro e w1 ⟨v,rfl,hv,hO⟩))
 all_goals go_wp2_with fail
 all_goals go_ret
 all_goals exact ⟨v,rfl,hv,by first |exact ((Only.refl _ _).drewN _).trans hO |exact (((Only.refl _ _).drewN _).drewN _).trans hO⟩
def zS (a:Nat→Addr)(k:Nat):Value:=.iface 421 (.pointer (some (a k)))
structure Sents (w:World)(a:Nat→Addr):Prop where
 s1:w.cell? ⟨1,0,none⟩=some (zS a 1)
 s2:w.cell? ⟨2,0,none⟩=some (zS a 2)
 s3:w.cell? ⟨9,0,none⟩=some (zS a 3)
 s4:w.cell? ⟨3,0,none⟩=some (zS a 4)
 s5:w.cell? ⟨4,0,none⟩=some (zS a 5)
 s6:w.cell? ⟨5,0,none⟩=some (zS a 6)
 s7:w.cell? ⟨6,0,none⟩=some (zS a 7)
 s8:w.cell? ⟨0,0,none⟩=some (zS a 8)
theorem Sents.keep {P:Nat→Prop}{w w':World}{a:Nat→Addr}(h:Sents w a)(k:Only P w w')(hn:∀ j,j<10→¬P j):Sents w' a:=
 have c:∀ j v,w.cell? ⟨j,0,none⟩=some v→j<10→w'.cell? ⟨j,0,none⟩=some v:=fun j v hv hj=>(k.cell (p:=⟨j,0,none⟩) (World.block_lt_of_cell? w ⟨j,0,none⟩ hv) (hn j hj)).trans hv
 ⟨c _ _ h.s1 (by decide),c _ _ h.s2 (by decide),c _ _ h.s3 (by decide),c _ _ h.s4 (by decide),c _ _ h.s5 (by decide),c _ _ h.s6 (by decide),c _ _ h.s7 (by decide),c _ _ h.s8 (by decide)⟩
theorem jx (b:Nat)(L:List (Int×Int))(n:Nat)(len dp:Int)(a:Nat→Addr)(w:World)(h:RdAt w b L n len dp)(hS:Sents w a)(hL:L.length≤400)(hn:n≤L.length) :
  Calls Tryz.prog 55 #[.pointer (some ⟨b,0,none⟩)] w fun x w'=>∃ v,x = .returned v∧FaultAt w' w.heap.size v (zS a 3) (Pro.zB L len n)∧Only (fun _=>False) w w':=
 zbM b L n len dp w h hL hn _ _ hS.s3
theorem FaultAt.form {w:World}{base:Nat}{v kd:Value}{p:Int}(h:FaultAt w base v kd p):∃ g,v = .iface 140 (.pointer (some ⟨g,0,none⟩)):=⟨h.choose,h.choose_spec.2.1⟩
theorem zero_any (b:Nat)(L:List (Int×Int))(n:Nat)(len dp:Int)(a:Nat→Addr)(w:World)(h:RdAt w b L n len dp)(hS:Sents w a)(hL:L.length≤400)(hn:n≤L.length) :
  Calls Tryz.prog 269 #[.pointer (some ⟨b,0,none⟩)] w fun x w'=>Only (fun _=>False) w w'∧
   (((decide (48≤Pro.zh L n) && decide (Pro.zh L n≤57))=false∧x = .returned (.tuple #[.int .i32 0,.nilIface]))∨
    ((decide (48≤Pro.zh L n) && decide (Pro.zh L n≤57))=true∧∃ v,x = .returned (.tuple #[.int .i32 0,v])∧FaultAt w' w.heap.size v (zS a 3) (Pro.zB L len n))):=by
 have H:=ze h
 have HS:=ze hS
 clear h hS
 cases hd:(decide (48≤Pro.zh L n) && decide (Pro.zh L n≤57))
 ·go_enter Tryz.func269,Tryz.ntmps269
  go_wp2_with fail
  refine (yz b L n len dp _ (zb H) hL (by omega)).mono ?_
  rintro e w1 ⟨rfl,hw1⟩
  have hw2:=hw1.symm
  subst hw2
  clear hw1
  go_wp2_with fail
  refine (yX _ _).mono ?_
  rintro e w1 ⟨rfl,hw1⟩
  have hw2:=hw1.symm
  subst hw2
  clear hw1
  rw [hd]
  go_wp2_with fail
  go_ret2
  exact ⟨Only.refl _ _,.inl ⟨trivial,rfl⟩⟩
 ·go_enter Tryz.func269,Tryz.ntmps269
  go_wp2_with fail
  refine (yz b L n len dp _ (zb H) hL (by omega)).mono ?_
  rintro e w1 ⟨rfl,hw1⟩
  have hw2:=hw1.symm
  subst hw2
  clear hw1
  go_wp2_with fail
  refine (yX _ _).mono ?_
  rintro e w1 ⟨rfl,hw1⟩
  have hw2:=hw1.symm
  subst hw2
  clear hw1
  rw [hd]
  go_wp2_with fail
  refine (jx b L n len dp a _ (zb H) (zb HS) hL hn).mono ?_
  rintro e w2 ⟨v,rfl,hv,hO⟩
  go_wp2_with fail
  go_ret2
  exact ⟨hO,.inr ⟨trivial,v,rfl,hv⟩⟩
namespace Pro
structure Out where
 k:Nat
 p:Int
 v:Int
 n:Nat
def bad (k:Nat)(p:Int)(n:Nat):Out:=⟨k,p,0,n⟩
def good (v:Int)(n:Nat):Out:=⟨0,0,v,n⟩
def Fit (L:List (Int×Int)):Prop:=∀ k,-1≤zh L k∧zh L k≤1114111
def dig (c:Int):Bool:=decide (48≤c) && decide (c≤57)
def jy (L:List (Int×Int))(len:Int)(n:Nat):Out:=if dig (zh L n)=true then bad 3 (zB L len n) n else good 0 n
abbrev letter (c:Int):Prop:=(97≤c∧c≤122)∨(65≤c∧c≤90)
def xd (L:List (Int×Int))(len:Int)(n:Nat):Out:=if letter (zh L n) then good (zh L n % 32) (n+1) else bad 3 (zB L len n) n
def hexO (L:List (Int×Int))(len:Int):Nat→Int→Nat→Out
 |0,c,n=>good c n
 |f+1,c,n=>if hexV (zh L n)<0 then bad 3 (zB L len n) n else hexO L len f (16*c+hexV (zh L n)) (n+1)
def xe (L:List (Int×Int))(len:Int):Nat→Int→Nat→Nat→Out
 |0,c,_,n=>good c n
 |f+1,c,d,n=>
  if 0<d∧zh L n=125 then good c (n+1)
  else if hexV (zh L n)<0∨1114111<16*c+hexV (zh L n) then bad 3 (zB L len n) n
  else xe L len f (16*c+hexV (zh L n)) (d+1) (n+1)
def qG (L:List (Int×Int))(len:Int)(n:Nat):Out:=xe L len (L.length+1-n) 0 0 n
def lowV (L:List (Int×Int))(len:Int)(n:Nat):Int:=if zh L n=92∧zh L (n+1)=117∧(hexO L len 4 0 (n+2)).k=0∧56320≤(hexO L len 4 0 (n+2)).v∧(hexO L len 4 0 (n+2)).v≤57343 then (hexO L len 4 0 (n+2)).v else -1
def z8 (L:List (Int×Int))(len:Int)(n:Nat):Out:=
 if (hexO L len 4 0 n).k≠0∨(hexO L len 4 0 n).v<55296∨56319<(hexO L len 4 0 n).v then hexO L len 4 0 n
 else if 0≤lowV L len (hexO L len 4 0 n).n then good (65536+((hexO L len 4 0 n).v-55296)*1024+(lowV L len (hexO L len 4 0 n).n-56320)) ((hexO L len 4 0 n).n+6)
 else hexO L len 4 0 n
def ctlV (b:Int):Int:=if b=116 then 9 else if b=110 then 10 else if b=118 then 11 else if b=102 then 12 else if b=114 then 13 else -1
def sign (b:Int):Bool:=[94,36,92,46,42,43,63,40,41,91,93,123,125,124,47].any fun c=>decide (c=b)
def qY (b:Int):Bool:=decide (0≤ctlV b) ||sign b
def jC (b:Int):Int:=if 0≤ctlV b then ctlV b else b
def numO (L:List (Int×Int))(len:Int)(n:Nat):Out:=
 if qY (zh L n)=true then good (jC (zh L n)) (n+1)
 else if zh L n=48 then jy L len (n+1)
 else if zh L n=99 then xd L len (n+1)
 else if zh L n=120 then hexO L len 2 0 (n+1)
 else if zh L n=117∧zh L (n+1)=123 then qG L len (n+2)
 else if zh L n=117 then z8 L len (n+1)
 else bad 3 (zB L len n) n
def setB (b:Int):Bool:=[100,68,119,87,115,83].any fun c=>decide (c=b)
def backB (b:Int):Bool:=[49,50,51,52,53,54,55,56,57,107,112,80].any fun c=>decide (c=b)
def escO (L:List (Int×Int))(len:Int)(n:Nat):Out:=
 if setB (zh L (n+1))=true then good (zh L (n+1)) (n+2)
 else if backB (zh L (n+1))=true then bad 6 (zB L len n) (n+1)
 else numO L len (n+1)
def zj (L:List (Int×Int))(len:Int)(n:Nat):Out:=
 if zh L n=92∧zh L (n+1)=98 then good 8 (n+2)
 else if zh L n=92∧zh L (n+1)=45 then good 45 (n+2)
 else if zh L n=92 then escO L len n
 else good (zh L n) (n+1)
def many (L:List (Int×Int))(n:Nat):Bool:=decide (zh L n=92) && setB (zh L (n+1))
def qD (L:List (Int×Int))(n:Nat):Bool:=decide (zh L n=45) && decide (zh L (n+1)≠93) && decide (zh L (n+1)≠-1)
def xl (L:List (Int×Int))(len:Int)(m:Bool)(first:Int)(n:Nat):Out:=
 if (zj L len (n+1)).k≠0 then zj L len (n+1)
 else if m=true∨many L (n+1)=true∨(zj L len (n+1)).v<first then bad 4 (zB L len n) (zj L len (n+1)).n
 else zj L len (n+1)
def addO (L:List (Int×Int))(len:Int)(n:Nat):Out:=
 if (zj L len n).k≠0 then zj L len n
 else if qD L (zj L len n).n=true then xl L len (many L n) (zj L len n).v (zj L len n).n
 else zj L len n
def xP (L:List (Int×Int))(len:Int):Nat→Nat→Out
 |0,n=>good 1 n
 |f+1,n=>
  if zh L n=93 then good 1 (n+1)
  else if L.length≤n then bad 3 len n
  else if (addO L len n).k≠0 then addO L len n
  else xP L len f (addO L len n).n
def xE (L:List (Int×Int))(len:Int)(n:Nat):Out:=xP L len (L.length+1-n) (if zh L (n+1)=94 then n+2 else n+1)
def countL (L:List (Int×Int)):Nat→Int→Nat→Int×Nat
 |0,c,n=>(c,n)
 |f+1,c,n=>if dig (zh L n)=true then countL L f (min (c*10+(zh L n-48)) 101) (n+1) else (c,n)
def countP (L:List (Int×Int))(n:Nat):Int×Nat:=countL L (L.length+1-n) 0 n
def zp (L:List (Int×Int))(len:Int)(n:Nat):Out:=
 if dig (zh L n)=false then bad 3 (zB L len n) n
 else if 100<(countP L n).1 then bad 5 (zB L len n) (countP L n).2
 else good (countP L n).1 (countP L n).2
def zQ (L:List (Int×Int))(len:Int)(n:Nat):Out×Int:=
 let a:=zp L len (n+1)
 if a.k≠0 then (a,0)
 else if zh L a.n=125 then (good a.v (a.n+1),a.v)
 else if zh L a.n≠44 then (bad 3 (zB L len a.n) a.n,0)
 else if zh L (a.n+1)=125 then (good a.v (a.n+2),-1)
 else
  let m:=zp L len (a.n+1)
  if m.k≠0 then (m,0)
  else if zh L m.n≠125 then (bad 3 (zB L len m.n) m.n,0)
  else if m.v<a.v then (bad 4 (zB L len n) (m.n+1),0)
  else (good a.v (m.n+1),m.v)
end Pro
def Tells (b:Nat)(L:List (Int×Int))(len dp:Int)(a:Nat→Addr)(w:World)(o:Pro.Out)(yes no:Value)(x:Ending)(w':World):Prop:=
 Only (zl b) w w'∧RdAt w' b L o.n len dp∧((o.k=0∧x = .returned (.tuple #[yes,.nilIface]))∨(o.k≠0∧∃ v,x = .returned (.tuple #[no,v])∧FaultAt w' w.heap.size v (zS a o.k) o.p))
theorem z9 {w':World}{base:Nat}{a:Nat→Addr}{o:Pro.Out}{yes no:Value}{x:Ending}(h:(o.k=0∧x = .returned (.tuple #[yes,.nilIface]))∨(o.k≠0∧∃ v,x = .returned (.tuple #[no,v])∧FaultAt w' base v (zS a o.k) o.p))(hk:o.k=0):x = .returned (.tuple #[yes,.nilIface]):=by
 rcases h with ⟨_,h⟩ |⟨h,_⟩
 ·exact h
 ·exact absurd hk h
theorem qu {w':World}{base:Nat}{a:Nat→Addr}{o:Pro.Out}{yes no:Value}{x:Ending}(h:(o.k=0∧x = .returned (.tuple #[yes,.nilIface]))∨(o.k≠0∧∃ v,x = .returned (.tuple #[no,v])∧FaultAt w' base v (zS a o.k) o.p))(hk:o.k≠0):∃ v,x = .returned (.tuple #[no,v])∧FaultAt w' base v (zS a o.k) o.p:=by
 rcases h with ⟨h,_⟩ |⟨_,h⟩
 ·exact absurd h hk
 ·exact h
theorem Sents.mine {b:Nat}{w w':World}{a:Nat→Addr}(h:Sents w a)(k:Only (zl b) w w')(hb:10≤b):Sents w' a:=h.keep k (fun j hj e=>by unfold zl at e;omega)
theorem Sents.drewN {w:World}{a:Nat→Addr}(h:Sents w a)(q:Nat):Sents (w.drewN q) a:=h.keep ((Only.refl (fun _=>False) w).drewN q) (fun _ _ f=>f)
end
end Go.Proofs.YtnagphodmfejiaaGreatDoor
