/- The reference's tokens of a pattern. -/
import Derived.Test.YtcgleficedipkaaGreatDoorYRefQRefT
namespace Go.Proofs.YtcgleficedipkaaGreatDoor
open _root_.Go.Proofs.Tryz
variable (g off cap:Nat)(w:World)(s:ByteArray)
section
open Go.RowKit
set_option maxHeartbeats 3200000
set_option maxRecDepth 100000
theorem Tryz.infoTok:(prog.info? 308).map (fun i=>(i.zero,i.size,i.bytes))=some (some (.agg #[.int .i64 0,.bool false,.slice none 0 0,.int .i64 0,.int .i64 0,.int .i64 0]),6,64):=by kernel_rfl
theorem Ref.tokenF_open {s:ByteArray}{st:St}(h:(Ref.zv s st).1.kind=3):zd s st.i=40:=by
 unfold Ref.zv at h
 (repeat' split at h)<;>simp_all
namespace Ref
section
variable {s:ByteArray} {f:Nat} {L:List Tok} {k op:Int} {A B:St}
theorem tk3 (m1:(k == 3)=true)(h:0<=op):vp s f L (zen k op) ((k == 1) ||(k == 4)) (if zen k op<0 then A else B)=vp s f L (op+1) false B:=by
 have e:k=3:=by simpa using m1
 subst e;have e1:zen 3 op=op+1:=by simp [zen]
 rw [e1,if_neg (by omega)];rfl
theorem tk4 (m1:(k == 3)=false)(m2:(k == 4)=true)(_m3:(k == 1)=false)(h:0<=op-1):vp s f L (zen k op) ((k == 1) ||(k == 4)) (if zen k op<0 then A else B)=vp s f L (op-1) true B:=by
 have e:k=4:=by simpa using m2
 subst e;have e1:zen 4 op=op-1:=by simp [zen]
 rw [e1,if_neg (by omega)];rfl
theorem tk4n (m1:(k == 3)=false)(m2:(k == 4)=true)(_m3:(k == 1)=false)(h:op-1<0):vp s f L (zen k op) ((k == 1) ||(k == 4)) (if zen k op<0 then A else B)=vp s f L (op-1) true A:=by
 have e:k=4:=by simpa using m2
 subst e;have e1:zen 4 op=op-1:=by simp [zen]
 rw [e1,if_pos (by omega)];rfl
theorem tk1 (m1:(k == 3)=false)(_m2:(k == 4)=false)(m3:(k == 1)=true)(h:0<=op):vp s f L (zen k op) ((k == 1) ||(k == 4)) (if zen k op<0 then A else B)=vp s f L op true B:=by
 have e:k=1:=by simpa using m3
 subst e;have e1:zen 1 op=op:=by simp [zen]
 rw [e1,if_neg (by omega)];rfl
theorem tk0 (m1:(k == 3)=false)(m2:(k == 4)=false)(m3:(k == 1)=false)(h:0<=op):vp s f L (zen k op) ((k == 1) ||(k == 4)) (if zen k op<0 then A else B)=vp s f L op false B:=by
 have e1:zen k op=op:=by simp at m1 m2;simp [zen,m1,m2]
 rw [e1,if_neg (by omega),m2,m3];rfl
end
end Ref
theorem zfb (a0 a1 a2 a3 a4 a5:Value)(T:TypeId):∀ j u,[a0,a1,a2,a3,a4,a5][j]?=some u->(w.alloc (.cells #[a0,a1,a2,a3,a4,a5] T)).cell? ((⟨w.heap.size,0,none⟩:Addr).add j)=some u:=by
 intro j u hj;have h:=zm w w.heap.size rfl #[a0,a1,a2,a3,a4,a5] T j u (by simpa using hj);have e:(⟨w.heap.size,0,none⟩:Addr).add j=⟨w.heap.size,j,none⟩:=by
  cases j with
  |zero=>simp [Addr.add]
  |succ j=>simp [Addr.add]
 rw [e];exact h
def lexE (w:World)(b:Nat):Int:=match w.cell? ⟨b,2,none⟩ with
 |some v=>intOf v
 |none=>0
theorem lexE_of {w:World}{b:Nat}{s:ByteArray}{st:St}(h:Lex w b s st):lexE w b=st.e:=by unfold lexE;rw [h.c2];simp [intOf]
theorem lex_new:Lex (w.alloc (.cells #[.string s,.int .i64 0,.int .i64 0,.int .i64 0] 305)) w.heap.size s ⟨0,0,0⟩:=
 ⟨zm _ _ rfl _ _ 0 _ rfl,zm _ _ rfl _ _ 1 _ rfl,zm _ _ rfl _ _ 2 _ rfl,zm _ _ rfl _ _ 3 _ rfl,zG _ _ rfl _ _ 1,zG _ _ rfl _ _ 2,zG _ _ rfl _ _ 3⟩
theorem zfg (w:World)(hs:s.size<=400)(hg:Ref.Good s 0) :
  Calls prog 102 #[.string s] w fun x w'=>
   ∃ v,x = .returned (.tuple #[v,.int .i64 (Ref.tokensR s).2.1,.int .i64 (Ref.tokensR s).2.2])/\ToksAt w' (w.heap.size+1) v (Ref.tokensR s).1/\Q8 w w':=by
 have HG:=zc hg;clear hg;go_enter func102,ntmps102;go_wp2_with fail;go_loopw [6,7,8] (fun v o a wr=>∃ (l:List Tok) (pa:Option Addr) (pn pc:Nat) (op:Int) (atom:Bool) (st':St) (f:Nat),v = .slice pa pn pc/\o = .int .i64 op/\a = .bool atom/\-1<=op/\op<=11/\ToksAt wr (w.heap.size+1) (.slice pa pn pc) l/\Lex wr w.heap.size s st'/\Q8 w wr/\
   w.heap.size+1<=wr.heap.size/\st'.i<=s.size+2/\l.length<=st'.i+1/\Hid (st'.e=0->Ref.Good s st'.i/\l.length<=st'.i/\0<=op/\op<=10/\s.size<st'.i+f)/\Hid (1<=f)/\Hid (Ref.tokensR s=Ref.vp s f l op atom st'))
  (fun _ _ _ wr=>2*(s.size+3-lexI wr w.heap.size)+(if lexE wr w.heap.size=0 then 1 else 0))
 case atStart=>exact ⟨[],none,0,0,0,false,⟨0,0,0⟩,s.size+1,rfl,rfl,rfl,by omega,by omega,ToksAt.nil _ _,lex_new w s,(ze.refl _ _).alloc _,by simp,by simp,by simp,(fun _=>⟨zb HG,by simp,by omega,by omega,by simp⟩),(by show 1<=_;omega),rfl⟩
 case round=>
  obtain ⟨l,pa,pn,pc,op,atom,st',f,rfl,rfl,rfl,ho1,ho2,hT,hL,hO,hsz,hil,hll,hGd,hf1,HF⟩:=hrel;obtain ⟨f,rfl⟩:∃ f',f=f'+1:=⟨f-1,by have:=zb hf1;omega⟩
  have hLL:=zc hL;have hTT:=zc hT;have hOO:=zc hO;have hLW:=zc hL;clear hT hO;obtain ⟨l0,l1,l2,l3,k1,k2,k3⟩:=hL;by_cases c1:st'.i<s.size/\st'.e=0
  ·obtain ⟨hGi,hle,hop0,hop1,hfu⟩:=zb hGd c1.2;have C1:=zc c1;have hi:st'.i<s.size:=c1.1;have e0:(st'.e == 0)=true:=(by simp [c1.2]);have c2d:decide ((st'.i:Int)<(s.size:Int))=true:=(by simp;omega);have HGi:=zc hGi;have Hfu:=zc hfu;clear c1 hGi hfu;by_cases c3:atom=true/\Ref.quantB (zd s st'.i)=true
   ·have HF2:=zc ((zb HF).trans (Ref.zfa (f:=f) (l:=l) (op:=op) (zb C1) c3));have hqf:=Ref.zfI (zb HGi) c3.2;have hqc:=Ref.zeF c3.2;have hat:=c3.1;subst hat
    have hqd:(zd s st'.i == 42)=true\/((zd s st'.i == 42)=false/\(zd s st'.i == 43)=true)\/((zd s st'.i == 42)=false/\(zd s st'.i == 43)=false/\(zd s st'.i == 63)=true)\/((zd s st'.i == 42)=false/\(zd s st'.i == 43)=false/\(zd s st'.i == 63)=false/\(zd s st'.i == 123)=true):=(by simp;omega);clear c3 hqc;go_wp2_with fail;refine (now_abs w.heap.size s st' _ (zb hLL) hs).mono ?_;rintro e w1 ⟨rfl,hON⟩;have hL1:=(zb hLL).keep hON (fun f=>f);have hT1:=(zb hTT).keep hON (fun _ _ _ f=>f);have hO1:=(zb hOO).trans hON;have hsz1:=hON.size;have hLL1:=zc hL1;clear hON l0 l1 l2 l3 k1 k2 k3;obtain ⟨l0,l1,l2,l3,k1,k2,k3⟩:=hL1;have HTO:=zc (And.intro hT1 hO1);clear hT1 hO1;rcases hqd with y1 |⟨y1,y2⟩ |⟨y1,y2,y3⟩ |⟨y1,y2,y3,y4⟩
    all_goals
     go_wp2_with fail;refine (zfX w.heap.size s st' _ (zb hLL1) hs hi (zb C1).2).mono ?_;rintro e w2 ⟨rfl,hL5,hO5⟩;have hT5:=(zb HTO).1.keep hO5 (by intro g hg _ hh;unfold zt at hh;omega);have hO6:=((zb HTO).2).young hO5 (z8 _);have hlt5:w.heap.size<w2.heap.size:=hL5.lt;generalize hq:Ref.kp s st'=q at *;obtain ⟨mn,mx,st2⟩:=q;simp only [] at *;have hk:=(ze.refl (fun _=>False) w2).alloc (.cells #[.int .i64 6,.bool false,.slice none 0 0,.int .i64 0,.int .i64 mn,.int .i64 mx] 308);have hbn:¬(Value.slice pa pn pc).ownBlock=some w2.heap.size:=by
      intro hh;obtain ⟨cs,h1,_⟩:=hT5;have:=(zh h1 _ hh).2;omega
     have hBN:=zc hbn;have H3:=zc (And.intro (hL5.keep hk (fun f=>f)) (And.intro (hT5.keep hk (fun _ _ _ f=>f)) (And.intro (hO6.trans hk) (Six.new (n:=w2.heap.size) (a0:=.int .i64 6) (a1:=.bool false) (a2:=.slice none 0 0) (a3:=.int .i64 0) (a4:=.int .i64 mn) (a5:=.int .i64 mx) w2 308 rfl))));clear hk hbn hL5 hT5 hO6 l0 l1 l2 l3 k1 k2 k3;go_upto_region 10 with fail;generalize hw3:w2.alloc (.cells #[.int .i64 6,.bool false,.slice none 0 0,.int .i64 0,.int .i64 mn,.int .i64 mx] 308)=w3 at *;obtain ⟨hL6,hT6,hO7,hB6⟩:=zb H3;clear hw3 H3;have hLL:=zc hL6;have hBB:=zc hB6;have hOO:=zc hO7;have hsz3:w2.heap.size<w3.heap.size:=hB6.lt;obtain ⟨cs,hown,htok⟩:=hT6;obtain ⟨l0,l1,l2,l3,k1,k2,k3⟩:=hL6;obtain ⟨t0,t1,t2,t3,t4,t5,v0,v1,v2,v3,v4,v5⟩:=hB6;obtain ⟨i0,hi,hz0,hz1,hz2⟩:=info_parts Tryz.infoTok;have hll4:l.length<=500:=(by omega);clear hO7;go_wp2_with (at_builtin;refine wpList_append_own _ rfl _ _ 66 rfl (w.heap.size+1) 308 i0 (.agg #[.int .i64 0,.bool false,.slice none 0 0,.int .i64 0,.int .i64 0,.int .i64 0]) 6 64 underlying66 hi hz0 hz1 hz2 rfl (by decide) _ _ _ rfl (xR hown _) _ 1 1 [.int .i64 6,.bool false,.slice none 0 0,.int .i64 0,.int .i64 mn,.int .i64 mx] rfl rfl (zfb _ _ _ _ _ _ _ _) (fun x hx=>by simp at hx;rcases hx with rfl |rfl |rfl |rfl |rfl |rfl<;>rfl) (by unfold maxLen;omega) (by omega) (by simp;omega) ?_;intro v' w5 hown' hgrow hnil;obtain ⟨pa',pn',pc',rfl⟩:=zy hown';have kx:=(((ze.refl (fun k=>(Value.slice pa pn pc).ownBlock=some k) w3).alloc _).trans (ze.ofGrown hgrow));have hL7:=(zb hLL).keep kx (by intro hh;have:=(zh hown _ hh).1;omega);have hB7:=(zb hBB).keep kx (by intro hh;exact absurd hh (zb hBN));have X:=zc (And.intro hL7 (And.intro hown' (And.intro hgrow (And.intro kx hB7))));clear hown' hgrow hnil kx l0 l1 l2 l3 k1 k2 k3;obtain ⟨l0,l1,l2,l3,k1,k2,k3⟩:=hL7;obtain ⟨x0,x1,x2,x3,x4,x5,z0,z1,z2,z3,z4,z5⟩:=hB7);obtain ⟨hL7,hown',hgrow,kx,hB7⟩:=zb X;have hTn:=ToksAt.appended (t:=⟨6,false,[],0,mn,mx⟩) (xR hown _) (ToksOK.keep (w:=w3) ((ze.refl (fun _=>False) w3).alloc _) (fun _ _ _ f=>f) l cs htok) (PartsAt.nil _ _) hown' hgrow;have hOn:=(((zb hOO).alloc _).grown hgrow (fun j hj=>Or.inr (by have:=(zh hown j hj).1;omega)))
     have hq1:=hqf.1;have hq2:=hqf.2.1;go_roundw
     case rel=>exact ⟨l++[⟨6,false,[],0,mn,mx⟩],pa',pn',pc',op,false,st2,f,rfl,rfl,rfl,ho1,ho2,hTn,hL7,hOn,by have:=kx.size;omega,hq2,by simp;omega,(fun h0=>⟨hqf.2.2 h0,by simp;omega,hop0,hop1,by have:=zb Hfu;omega⟩),(by have:=zb Hfu;show 1<=_;omega),HF2⟩
     case measure=>rw [lexI_of hL7,lexI_of (zb hLW),lexE_of hL7,lexE_of (zb hLW),if_pos (zb C1).2];split<;>omega
   ·have c4:atom=false\/(atom=true/\(zd s st'.i == 42)=false/\(zd s st'.i == 43)=false/\(zd s st'.i == 63)=false/\(zd s st'.i == 123)=false):=by
     cases atom
     ·exact .inl rfl
     ·right;simp [Ref.quantB] at c3;simp;omega
    have C3:=zc c3;clear c3;by_cases c5:zd s st'.i=40/\op=10
    ·have HH:=zc ((zb HF).trans (Ref.zfo (f:=f) (l:=l) (zb C1) (zb C3) c5));have d1:(zd s st'.i == 40)=true:=(by simp [c5.1]);have d2:(op == 10)=true:=(by simp [c5.2]);clear c5;go_wp2_with fail;refine (now_abs w.heap.size s st' _ (zb hLL) hs).mono ?_;rintro e w1 ⟨rfl,hON⟩;have hL1:=(zb hLL).keep hON (fun f=>f);have hO1:=zc ((zb hOO).trans hON);clear hON l0 l1 l2 l3 k1 k2 k3;obtain ⟨l0,l1,l2,l3,k1,k2,k3⟩:=hL1;rcases c4 with rfl |⟨rfl,y1,y2,y3,y4⟩
     all_goals
      go_wp2_with fail;go_ret3;rw [zb HH];exact ⟨_,rfl,ToksAt.nil _ _,zb hO1⟩
    ·have HF2:=zc ((zb HF).trans (Ref.zes (f:=f) (l:=l) (zb C1) (zb C3) c5));have htf:=Ref.zgM (zb HGi) hi;have hk3:=Ref.tokenF_open (s:=s) (st:=st');have c6:(zd s st'.i == 40)=false\/((zd s st'.i == 40)=true/\(op == 10)=false):=(by simp;omega);have C5:=zc c5;clear c5;go_wp2_with fail;refine (now_abs w.heap.size s st' _ (zb hLL) hs).mono ?_;rintro e w1 ⟨rfl,hON⟩;have hL1:=(zb hLL).keep hON (fun f=>f);have hT1:=(zb hTT).keep hON (fun _ _ _ f=>f);have hO1:=(zb hOO).trans hON;have hsz1:=hON.size;have hLL1:=zc hL1;clear hON l0 l1 l2 l3 k1 k2 k3;obtain ⟨l0,l1,l2,l3,k1,k2,k3⟩:=hL1;have HTO:=zc (And.intro hT1 hO1);clear hT1 hO1;rcases c4 with rfl |⟨rfl,y1,y2,y3,y4⟩
     all_goals
      rcases c6 with y5 |⟨y5,y6⟩
     all_goals
      go_wp2_with fail;refine (zhN w.heap.size s st' _ (zb hLL1) hs hi (zb HGi) (zb C1).2).mono ?_;rintro e w2 ⟨pv,rfl,hpt,hL5,hO5⟩;have hT5:=(zb HTO).1.keep hO5 (by intro g hg _ hh;unfold zt at hh;omega);have hO6:=((zb HTO).2).young hO5 (z8 _);have hlt5:w.heap.size<w2.heap.size:=hL5.lt;have hpt':=PartsAt.base (base':=w.heap.size+1) hpt (by omega);obtain ⟨qs,hq1,hq2⟩:=hpt;obtain ⟨qa,qn,qc,rfl⟩:=zy hq1;clear hq1 hq2;generalize hq:Ref.zv s st'=q at *;obtain ⟨⟨k,ng,pt,tc,mn,mx⟩,st2⟩:=q;simp only [] at *;have hk:=(ze.refl (fun _=>False) w2).alloc (.cells #[.int .i64 k,.bool ng,.slice qa qn qc,.int .i64 tc,.int .i64 mn,.int .i64 mx] 308);have hbn:¬(Value.slice pa pn pc).ownBlock=some w2.heap.size:=by
       intro hh;obtain ⟨cs,h1,_⟩:=hT5;have:=(zh h1 _ hh).2;omega
      have hBN:=zc hbn;have H3:=zc (And.intro (hL5.keep hk (fun f=>f)) (And.intro (hT5.keep hk (fun _ _ _ f=>f)) (And.intro (hO6.trans hk) (And.intro (hpt'.keep hk (fun _ _ _ f=>f)) (Six.new (n:=w2.heap.size) (a0:=.int .i64 k) (a1:=.bool ng) (a2:=.slice qa qn qc) (a3:=.int .i64 tc) (a4:=.int .i64 mn) (a5:=.int .i64 mx) w2 308 rfl)))));clear hk hbn hL5 hT5 hO5 hO6 hpt' hq l0 l1 l2 l3 k1 k2 k3;go_upto_region 15 with fail;generalize hw3:w2.alloc (.cells #[.int .i64 k,.bool ng,.slice qa qn qc,.int .i64 tc,.int .i64 mn,.int .i64 mx] 308)=w3 at *;obtain ⟨hL6,hT6,hO7,hP6,hB6⟩:=zb H3;clear hw3 H3;have hLL:=zc hL6;have hBB:=zc hB6;have hOO:=zc hO7;have hPP:=zc hP6;have hsz3:w2.heap.size<w3.heap.size:=hB6.lt;obtain ⟨cs,hown,htok⟩:=hT6;obtain ⟨l0,l1,l2,l3,k1,k2,k3⟩:=hL6;obtain ⟨t0,t1,t2,t3,t4,t5,v0,v1,v2,v3,v4,v5⟩:=hB6;obtain ⟨i0,hi0,hz0,hz1,hz2⟩:=info_parts Tryz.infoTok;have hll4:l.length<=500:=(by omega);have Hk3:=zc hk3;have Htf:=zc htf;have hq2:=htf.1;have hq3:=htf.2.2;clear hO7 hP6 hk3 htf;have hkc:((k == 3)=true/\(k == 4)=false/\(k == 1)=false)\/((k == 3)=false/\(k == 4)=true/\(k == 1)=false/\op-1<0)\/((k == 3)=false/\(k == 4)=true/\(k == 1)=false/\0<=op-1)\/((k == 3)=false/\(k == 4)=false/\(k == 1)=true)\/((k == 3)=false/\(k == 4)=false/\(k == 1)=false):=(by simp;omega);have hTh:=zc (And.intro hown htok);have HIi:=zc (And.intro hi0 (And.intro hz0 (And.intro hz1 hz2)));clear hown htok hi0 hz0 hz1 hz2;rcases hkc with ⟨m1,m2,m3⟩ |⟨m1,m2,m3,m4⟩ |⟨m1,m2,m3,m4⟩ |⟨m1,m2,m3⟩ |⟨m1,m2,m3⟩
     all_goals
      obtain ⟨hown,htok⟩:=zb hTh;obtain ⟨hi,hz0,hz1,hz2⟩:=zb HIi;go_wp2_with (at_builtin;refine wpList_append_own _ rfl _ _ 66 rfl (w.heap.size+1) 308 i0 (.agg #[.int .i64 0,.bool false,.slice none 0 0,.int .i64 0,.int .i64 0,.int .i64 0]) 6 64 underlying66 hi hz0 hz1 hz2 rfl (by decide) _ _ _ rfl (xR hown _) _ 1 1 [.int .i64 k,.bool ng,.slice qa qn qc,.int .i64 tc,.int .i64 mn,.int .i64 mx] rfl rfl (zfb _ _ _ _ _ _ _ _) (fun x hx=>by simp at hx;rcases hx with rfl |rfl |rfl |rfl |rfl |rfl<;>rfl) (by unfold maxLen;omega) (by omega) (by simp;omega) ?_;intro v' w5 hown' hgrow hnil;obtain ⟨pa',pn',pc',rfl⟩:=zy hown';have kx:=(((ze.refl (fun k=>(Value.slice pa pn pc).ownBlock=some k) w3).alloc _).trans (ze.ofGrown hgrow));have hL7:=(zb hLL).keep kx (by intro hh;have:=(zh hown _ hh).1;omega);have hB7:=(zb hBB).keep kx (by intro hh;exact absurd hh (zb hBN));have X:=zc (And.intro hL7 (And.intro hown' (And.intro hgrow (And.intro kx hB7))));clear hown' hgrow hnil kx l0 l1 l2 l3 k1 k2 k3;obtain ⟨l0,l1,l2,l3,k1,k2,k3⟩:=hL7;obtain ⟨x0,x1,x2,x3,x4,x5,z0,z1,z2,z3,z4,z5⟩:=hB7)
     all_goals
      obtain ⟨hL7,hown',hgrow,kx,hB7⟩:=zb X;have hTn:=ToksAt.appended (t:=⟨k,ng,pt,tc,mn,mx⟩) (xR hown _) (ToksOK.keep (w:=w3) ((ze.refl (fun _=>False) w3).alloc _) (fun _ _ _ f=>f) l cs htok) ((zb hPP).keep ((ze.refl (fun _=>False) w3).alloc _) (fun _ _ _ f=>f)) hown' hgrow;have hOn:=(((zb hOO).alloc _).grown hgrow (fun j hj=>Or.inr (by have:=(zh hown j hj).1;omega)))
      have hop3:(k == 3)=true->op<=9:=fun m=>by have a1:=zb Hk3 (by simpa using m);have a2:=zb C5;omega
      try (have hop9:=hop3 m1)
      have htf:=zb Htf;have hsz9:=kx.size
      first
       |(refine (fail_lex w.heap.size s st2 3 _ _ hL7).mono ?_
         rintro e w6 ⟨rfl,hL8,hO8⟩;have hB8:=hB7.keep hO8 (by unfold zt;omega);have hX8:=zc (And.intro hL8 (And.intro (hTn.keep hO8 (by intro g hg _ hh;unfold zt at hh;omega)) (hOn.young hO8 (z8 _))));have hs8:=hO8.size;clear hL8 hO8 x0 x1 x2 x3 x4 x5 z0 z1 z2 z3 z4 z5 l0 l1 l2 l3 k1 k2 k3;obtain ⟨x0,x1,x2,x3,x4,x5,z0,z1,z2,z3,z4,z5⟩:=hB8;go_wp2_with fail;obtain ⟨hL8,hT8,hO9⟩:=zb hX8;have hne:=Ref.fail_ne st2 3 (st'.i:Int) (by decide);go_roundw
         case rel=>exact ⟨l++[⟨k,ng,pt,tc,mn,mx⟩],pa',pn',pc',_,_,st2.fail 3 st'.i,f,rfl,rfl,rfl,by omega,by omega,hT8,hL8,hO9,by omega,by rw [Ref.fail_i];omega,by rw [Ref.fail_i];simp;omega,(fun h0=>absurd h0 hne),(by have:=zb Hfu;show 1<=_;omega),zc ((zb HF2).trans (Ref.tk4n m1 m2 m3 m4))⟩
         case measure=>rw [lexI_of hL8,lexI_of (zb hLW),lexE_of hL8,lexE_of (zb hLW),if_pos (zb C1).2,if_neg hne,Ref.fail_i];omega)
       |(go_roundw
         case rel=>exact ⟨l++[⟨k,ng,pt,tc,mn,mx⟩],pa',pn',pc',_,_,st2,f,rfl,rfl,rfl,by omega,by omega,hTn,hL7,hOn,by omega,by omega,by simp;omega,(fun h0=>⟨(htf.2.1 h0).2,by have:=(htf.2.1 h0).1;simp;omega,by omega,by omega,by have:=(htf.2.1 h0).1;have:=zb Hfu;omega⟩),(by have:=zb Hfu;show 1<=_;omega),(by first
          |exact zc ((zb HF2).trans (Ref.tk3 m1 hop0))
          |exact zc ((zb HF2).trans (Ref.tk4 m1 m2 m3 m4))
          |exact zc ((zb HF2).trans (Ref.tk1 m1 m2 m3 hop0))
          |exact zc ((zb HF2).trans (Ref.tk0 m1 m2 m3 hop0)))⟩
         case measure=>
          rw [lexI_of hL7,lexI_of (zb hLW),lexE_of hL7,lexE_of (zb hLW),if_pos (zb C1).2];by_cases h0:st2.e=0
          ·have:=(htf.2.1 h0).1;rw [if_pos h0];omega
          ·rw [if_neg h0];omega)
  ·have HH:Hid (Ref.tokensR s=(l,(if 0<op then st'.fail 3 s.size else st').e,(if 0<op then st'.fail 3 s.size else st').a)):=(by rw [zb HF];exact Ref.zeK c1);have c2:¬st'.i<s.size\/(st'.i<s.size/\(st'.e == 0)=false):=by
    by_cases hq:st'.i<s.size
    ·exact .inr ⟨hq,by simp;intro h0;exact c1 ⟨hq,h0⟩⟩
    ·exact .inl hq
   clear c1;rcases c2 with c2 |⟨c2,c3⟩
   case' inl=>have c2d:decide ((st'.i:Int)<(s.size:Int))=false:=by simp;omega
   case' inr=>have c2d:decide ((st'.i:Int)<(s.size:Int))=true:=by simp;omega
   all_goals
    by_cases hop:0<op
    ·go_wp2_with fail;refine (fail_lex w.heap.size s st' 3 _ _ (zb hLL)).mono ?_;rintro e w2 ⟨rfl,hL5,hO5⟩;have HL5:=zc hL5;have HO5:=zc hO5;obtain ⟨m0,m1,m2,m3,j1,j2,j3⟩:=hL5;clear hO5;go_wp2_with fail;go_quiet (fail);go_wp2_with fail;go_ret3;rw [zb HH,if_pos hop];exact ⟨_,rfl,((zb hTT).keep (zb HO5) (by intro g hg _ hh;unfold zt at hh;omega)).keep ((ze.refl (fun _=>False) w2).drewN _) (fun _ _ _ f=>f),(((zb hOO).mono (Q:=fun _=>False) (fun _ _ f=>f)).young (zb HO5) (z8 _)).drewN _⟩
    ·go_wp2_with fail;go_quiet (fail);go_wp2_with fail;go_ret3;rw [zb HH,if_neg (by omega)];exact ⟨_,rfl,(zb hTT).keep ((ze.refl (fun _=>False) wr).drewN _) (fun _ _ _ f=>f),(zb hOO).drewN _⟩
def TokRow (w:World)(g off:Nat)(l:List Tok):Prop:=∀ (j:Nat) (t:Tok),l[j]?=some t->∃ pa pn pc,
 w.cell? ⟨g,off+j*6,none⟩=some (.int .i64 t.kind)/\w.cell? ⟨g,off+j*6+1,none⟩=some (.bool t.neg)/\w.cell? ⟨g,off+j*6+2,none⟩=some (.slice pa pn pc)/\
 w.cell? ⟨g,off+j*6+3,none⟩=some (.int .i64 t.c)/\w.cell? ⟨g,off+j*6+4,none⟩=some (.int .i64 t.mn)/\w.cell? ⟨g,off+j*6+5,none⟩=some (.int .i64 t.mx)
namespace Ref
def wm (l:List Tok)(k:Nat):Int:=match l[k]? with
 |some t=>t.kind
 |none=>0
def closingF (l:List Tok):Nat->Nat->Int->Int
 |0,_,_=>(l.length:Int)-1
 |f+1,k,op=>if k<l.length then (if zen (wm l k) op=0 then (k:Int) else closingF l f (k+1) (zen (wm l k) op)) else (l.length:Int)-1
def closingR (l:List Tok)(i:Nat):Int:=closingF l (l.length+1-i) i 0
end Ref
theorem TokRow.kind {w:World}{g off:Nat}{l:List Tok}(h:TokRow w g off l)(k:Nat)(hk:k<l.length):w.cell? ⟨g,off+k*6,none⟩=some (.int .i64 (Ref.wm l k)):=by
 obtain ⟨_,_,_,h0,_⟩:=h k l[k] (zD hk);unfold Ref.wm;rw [zD hk];exact h0
theorem zgN (l:List Tok)(i:Nat)(w:World)(h:TokRow w g off l)(hl:l.length<=1000)(_hc:l.length<=cap)(hi:i<=l.length) :
  Calls prog 183 #[.slice (some ⟨g,off,none⟩) l.length cap,.int .i64 i] w fun x w'=>x = .returned (.int .i64 (Ref.closingR l i))/\w'=w:=by
 have H:=zc h;clear h;go_enter func183,ntmps183;go_wp2_with fail
 go_loop [5,6] (fun o k=>∃ (op:Int) (n f:Nat),o = .int .i64 op/\k = .int .i64 n/\n<=l.length/\-2000-n<=op/\op<=n/\Hid (l.length<n+f)/\Hid (Ref.closingR l i=Ref.closingF l f n op)) (fun _ k=>l.length-(intOf k).toNat)
 case atStart=>exact ⟨0,i,l.length+1-i,rfl,rfl,hi,by omega,by omega,(by show _<_;omega),rfl⟩
 case round=>
  obtain ⟨op,n,f,rfl,rfl,hn,ho1,ho2,hf,HF⟩:=hrel;obtain ⟨f,rfl⟩:∃ f',f=f'+1:=⟨f-1,by have:=zb hf;omega⟩
  by_cases hlt:n<l.length
  ·have hkc:=(zb H).kind n hlt;have hstep:Hid (Ref.closingR l i=if Ref.zen (Ref.wm l n) op=0 then (n:Int) else Ref.closingF l f (n+1) (Ref.zen (Ref.wm l n) op)):=by
    rw [zb HF];simp only [Ref.closingF];rw [if_pos hlt];rfl
   generalize hK:Ref.wm l n=K at *;clear hK;have hcs:((K == 3)=true/\Ref.zen K op=op+1)\/((K == 3)=false/\(K == 4)=true/\Ref.zen K op=op-1)\/((K == 3)=false/\(K == 4)=false/\Ref.zen K op=op):=by
    by_cases h3:K=3
    ·left;simp [Ref.zen,h3]
    ·by_cases h4:K=4
     ·right;left;simp [Ref.zen,h4]
     ·right;right;simp [Ref.zen,h3,h4]
   rcases hcs with ⟨a1,a3⟩ |⟨a1,a2,a3⟩ |⟨a1,a2,a3⟩
   all_goals
    rw [a3] at hstep;clear a3
   ·by_cases hz:op+1=0
    ·have hz':(op+1 == 0)=true:=(by simp [hz]);have HH:Hid (Ref.closingR l i=(n:Int)):=(by rw [zb hstep,if_pos hz];rfl);clear hz;go_wp2_with fail;go_ret;exact ⟨ret_int (zb HH).symm,rfl⟩
    ·have hz':(op+1 == 0)=false:=(by simp [hz]);have HH:Hid (Ref.closingR l i=Ref.closingF l f (n+1) (op+1)):=(by rw [zb hstep,if_neg hz];rfl);clear hz;go_wp2_with fail;go_round
     case rel=>exact ⟨op+1,n+1,f,rfl,by go_num,by omega,by omega,by omega,(by have:=zb hf;show _<_;omega),HH⟩
     case measure=>simp [intOf];omega
   ·by_cases hz:op-1=0
    ·have hz':(op-1 == 0)=true:=(by simp;omega);have HH:Hid (Ref.closingR l i=(n:Int)):=(by rw [zb hstep,if_pos hz];rfl);clear hz;go_wp2_with fail;go_ret;exact ⟨ret_int (zb HH).symm,rfl⟩
    ·have hz':(op-1 == 0)=false:=(by simp;omega);have HH:Hid (Ref.closingR l i=Ref.closingF l f (n+1) (op-1)):=(by rw [zb hstep,if_neg hz];rfl);clear hz;go_wp2_with fail;go_round
     case rel=>exact ⟨op-1,n+1,f,rfl,by go_num,by omega,by omega,by omega,(by have:=zb hf;show _<_;omega),HH⟩
     case measure=>simp [intOf];omega
   ·by_cases hz:op=0
    ·have hz':(op == 0)=true:=(by simp [hz]);have HH:Hid (Ref.closingR l i=(n:Int)):=(by rw [zb hstep,if_pos hz];rfl);clear hz;go_wp2_with fail;go_ret;exact ⟨ret_int (zb HH).symm,rfl⟩
    ·have hz':(op == 0)=false:=(by simp [hz]);have HH:Hid (Ref.closingR l i=Ref.closingF l f (n+1) op):=(by rw [zb hstep,if_neg hz];rfl);clear hz;go_wp2_with fail;go_round
     case rel=>exact ⟨op,n+1,f,rfl,by go_num,by omega,by omega,by omega,(by have:=zb hf;show _<_;omega),HH⟩
     case measure=>simp [intOf];omega
  ·have HH:Hid (Ref.closingR l i=(l.length:Int)-1):=(by rw [zb HF];simp only [Ref.closingF];rw [if_neg hlt];rfl);go_wp2_with fail;go_ret;exact ⟨ret_int (zb HH).symm,rfl⟩
namespace Ref
def atomEnd (l:List Tok)(i:Nat):Int:=if wm l i=3 then closingR l i+1 else (i:Int)+1
def atomNext (l:List Tok)(i:Nat):Int:=if atomEnd l i<l.length/\wm l (atomEnd l i).toNat=6 then atomEnd l i+1 else atomEnd l i
theorem zfJ (l:List Tok):∀ (f k:Nat) (op:Int),k<=l.length->0<l.length->0<=closingF l f k op/\closingF l f k op<l.length
 |0,k,op,_,h=>by simp only [closingF];omega
 |f+1,k,op,hk,h=>by
  simp only [closingF];split
  ·split
   ·omega
   ·exact zfJ l f (k+1) _ (by omega) h
  ·omega
end Ref
theorem atom_any (l:List Tok)(i:Nat)(w:World)(h:TokRow w g off l)(hl:l.length<=1000)(hc:l.length<=cap)(hi:i<l.length) :
  Calls prog 148 #[.slice (some ⟨g,off,none⟩) l.length cap,.int .i64 i] w fun x w'=>x = .returned (.tuple #[.int .i64 (Ref.atomEnd l i),.int .i64 (Ref.atomNext l i)])/\w'=w:=by
 have hk:=h.kind i hi;have H:=zc h;clear h;by_cases h3:Ref.wm l i=3
 ·have h3':(Ref.wm l i == 3)=true:=by simp [h3]
  have hcb:=Ref.zfJ l (l.length+1-i) i 0 (by omega) (by omega);obtain ⟨C,hC⟩:∃ C:Nat,Ref.closingR l i=(C:Int):=⟨(Ref.closingR l i).toNat,by unfold Ref.closingR;omega⟩
  have hC1:C<l.length:=by have:Ref.closingR l i<l.length:=hcb.2;omega
  have HE:Hid (Ref.atomEnd l i=((C+1:Nat):Int)):=by show _=_;unfold Ref.atomEnd;rw [if_pos h3,hC];omega
  have HC:=zc hC;clear h3 hcb hC;go_enter func148,ntmps148;go_wp2_with fail;refine (zgN g off cap l i _ (zb H) hl hc (by omega)).mono ?_;rintro e w1 ⟨rfl,hw1⟩;have hw2:=hw1.symm;subst hw2;clear hw1;rw [zb HC];by_cases hlt:C+1<l.length
  ·have hk2:=(zb H).kind (C+1) hlt;by_cases h6:Ref.wm l (C+1)=6
   ·have h6':(Ref.wm l (C+1) == 6)=true:=(by simp [h6]);have HN:Hid (Ref.atomNext l i=((C+1:Nat):Int)+1):=by
     show _=_;unfold Ref.atomNext;rw [zb HE,vK,if_pos ⟨by omega,h6⟩]
    clear h6;go_wp2_with fail;go_ret2;rw [zb HN,zb HE];exact ⟨ret_two (by omega) (by omega),rfl⟩
   ·have h6':(Ref.wm l (C+1) == 6)=false:=(by simp [h6]);have HN:Hid (Ref.atomNext l i=((C+1:Nat):Int)):=by
     show _=_;unfold Ref.atomNext;rw [zb HE,vK,if_neg (by intro hh;exact h6 hh.2)]
    clear h6;go_wp2_with fail;go_ret2;rw [zb HN,zb HE];exact ⟨ret_two (by omega) (by omega),rfl⟩
  ·have HN:Hid (Ref.atomNext l i=((C+1:Nat):Int)):=by
    show _=_;unfold Ref.atomNext;rw [zb HE,if_neg (by omega)]
   go_wp2_with fail;go_ret2;rw [zb HN,zb HE];exact ⟨ret_two (by omega) (by omega),rfl⟩
 ·have h3':(Ref.wm l i == 3)=false:=by simp [h3]
  have HE:Hid (Ref.atomEnd l i=((i+1:Nat):Int)):=by show _=_;unfold Ref.atomEnd;rw [if_neg h3];omega
  clear h3;go_enter func148,ntmps148;by_cases hlt:i+1<l.length
  ·have hk2:=(zb H).kind (i+1) hlt;by_cases h6:Ref.wm l (i+1)=6
   ·have h6':(Ref.wm l (i+1) == 6)=true:=(by simp [h6]);have HN:Hid (Ref.atomNext l i=((i+1:Nat):Int)+1):=by
     show _=_;unfold Ref.atomNext;rw [zb HE,vK,if_pos ⟨by omega,h6⟩]
    clear h6;go_wp2_with fail;go_ret2;rw [zb HN,zb HE];exact ⟨ret_two (by omega) (by omega),rfl⟩
   ·have h6':(Ref.wm l (i+1) == 6)=false:=(by simp [h6]);have HN:Hid (Ref.atomNext l i=((i+1:Nat):Int)):=by
     show _=_;unfold Ref.atomNext;rw [zb HE,vK,if_neg (by intro hh;exact h6 hh.2)]
    clear h6;go_wp2_with fail;go_ret2;rw [zb HN,zb HE];exact ⟨ret_two (by omega) (by omega),rfl⟩
  ·have HN:Hid (Ref.atomNext l i=((i+1:Nat):Int)):=by
    show _=_;unfold Ref.atomNext;rw [zb HE,if_neg (by omega)]
   go_wp2_with fail;go_ret2;rw [zb HN,zb HE];exact ⟨ret_two (by omega) (by omega),rfl⟩
end
end Go.Proofs.YtcgleficedipkaaGreatDoor
