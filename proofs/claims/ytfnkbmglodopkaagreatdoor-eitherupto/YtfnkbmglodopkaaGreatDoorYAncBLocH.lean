/- Anchored: the law. -/
import Derived.Test.YtfnkbmglodopkaaGreatDoorYLocAAncA
namespace Go.Proofs.YtfnkbmglodopkaaGreatDoor
section
open Go.RowKit
open Sm (Stp Tree capT)
set_option maxHeartbeats 8000000
set_option maxRecDepth 1000000
def kt:ByteArray:=⟨#[40]⟩
theorem par_anch (p:ByteArray):Pro.yK (Pro.yZ p) (Pro.yZ p).size=Pro.yK (kt++p) (kt++p).size:=by
 unfold Pro.yZ
 rw [Pro.YK,Pro.YK,Pro.YK]
 have e1:Pro.yK Pro.qe Pro.qe.size=1:=by decide +kernel
 have e2:Pro.yK Pro.jq Pro.jq.size=0:=by decide +kernel
 have e3:Pro.yK kt kt.size=1:=by decide +kernel
 omega
theorem anch_no {p:ByteArray}(h:qD p){k:Nat}{q:Int}(hf:FailOf (Pro.yZ p) k q):200<p.size+6∨10<Pro.yK (kt++p) (kt++p).size∨300<(Pro.zD p).v+1+2:=by
 have hz:=Pro.zci p
 by_cases hs:200<(Pro.yZ p).size
 ·left;omega
 ·rcases Pro.Vp h.rd with h7 |⟨hR,hv,_⟩
  ·right;left
   have h1:=Pro.whole7 h7
   have h2:=Pro.Qj (Pro.yZ p)
   rw [par_anch] at h2
   have h3:11≤Pro.vK (Pro.lets (Pro.yZ p)) 0:=h1
   omega
  ·right;right
   have h1:¬(Pro.zD (Pro.yZ p)).v<300:=fun q=>hf.no ⟨by omega,hR,q⟩
   have h2:=h.v
   rw [hv] at h1
   omega
theorem KN {p:ByteArray}(h:qD p)(h2:qD (Pro.yZ p)):Pro.zE (Pro.yZ p)=Pro.tAlt [Pro.tSeq [Pro.tAsr 0,Pro.zE p,Pro.tAsr 1]]:=by
 rcases Pro.Vp h.rd with h7 |⟨_,_,ht⟩
 ·have:=h2.rd.k
  rw [h7] at this
  cases this
 ·exact ht
theorem zbr {p s:ByteArray}(h:qD p)(h2:qD (Pro.yZ p)){w w':World}{A A':Nat→Prop}{g pb F g' pb' F':Nat}{W W':Int→Bool}{cs cs':List Int}(hM:PatM w A p g pb F W cs)(hM':PatM w' A' (Pro.yZ p) g' pb' F' W' cs'){ms:List Bool}{n:Nat}(hn:n=(Pro.letM s (s.size+1) 0).length)
  (hT:Kc.Tells n (Prg.GoP W (Pro.letM s (s.size+1) 0) (Sm.prg F (Pro.zE p)).2 (Sm.prg F (Pro.zE p)).1 0 0) ms) {r:Bool}
  (hr:r=true↔∃ i j,i≤(Pro.letM s (s.size+1) 0).length∧j≤(Pro.letM s (s.size+1) 0).length∧Prg.GoP W' (Pro.letM s (s.size+1) 0) (Sm.prg F' (Pro.zE (Pro.yZ p))).2 (Sm.prg F' (Pro.zE (Pro.yZ p))).1 i 0 j):ms[n]?=some r:=by
 have hlen:=(Prg.yj.of s).len
 have e1:r=true↔Mng s (Pro.zE p) 0 n:=by
  rw [hr]
  constructor
  ·rintro ⟨i,j,hi,hj,hg⟩
   rw [Kk s hM'.wf hM'.ask hi,KN h h2,Vq hM.wf (by omega) (by omega)] at hg
   obtain ⟨rfl,rfl,hg⟩:=hg
   rw [hn,←hlen]
   exact hg
  ·intro hg
   refine ⟨0,n,Nat.zero_le _,by omega,?_⟩
   rw [Kk s hM'.wf hM'.ask (Nat.zero_le _),KN h h2,Vq hM.wf (Nat.zero_le _) (by omega)]
   exact ⟨rfl,by omega,hg⟩
 have e2:=hT.2 n
 rw [Kk s hM.wf hM.ask (Nat.zero_le _),←e1] at e2
 have hl:n<ms.length:=by rw [hT.1];omega
 rw [List.getElem?_eq_getElem hl] at e2 ⊢
 cases r
 ·cases hb:ms[n]
  ·rfl
  ·rw [hb] at e2
   exact absurd (e2.1 rfl).2 (by simp)
 ·rw [e2.2 ⟨Nat.le_refl _,rfl⟩]
theorem JR (p s:ByteArray)(states:Int)(w:World)(a:Nat→Addr)(hB:wd w a w.heap.size)(hp:p.size≤1099511627776)(hs:s.size≤1099511627776)(h1:-9223372036854775808≤states)(h2:states≤9223372036854775807) :
  Calls Tryz.prog 11 #[.string p,.string s,.int .i64 states] w fun x w'=>x = .returned (.bool true)∧ze (fun _=>False) w w':=by
 have HB:=zc hB
 have HSu:=zc (wg w a _ hB)
 have HP1:=zc (zca states · h1 h2)
 have hcat1:∀ V:World,(Op.stringOp .add ⟨#[94,40,63,58]⟩ p).run Tryz.prog V = .ok (.string (Pro.qe++p)) V:=fun V=>run_string_add_sum V _ _ (by show 4+p.size≤_;omega)
 have hcat2:∀ V:World,(Op.stringOp .add (Pro.qe++p) ⟨#[41,36]⟩).run Tryz.prog V = .ok (.string (Pro.yZ p)) V:=fun V=>run_string_add_sum V _ _ (by rw [ByteArray.size_append];show 4+p.size+2≤_;omega)
 have hcat3:∀ V:World,(Op.stringOp .add ⟨#[40]⟩ p).run Tryz.prog V = .ok (.string (kt++p)) V:=fun V=>run_string_add_sum V _ _ (by show 1+p.size≤_;omega)
 clear hB
 go_enter Tryz.func11,Tryz.ntmps11
 go_wp2_with (go_at_call 14;refine (zb HSu).mono ?_;rintro e w1 ⟨rfl,hO1⟩;refine zb ?_)
 refine zc ?_
 have HI:=zc (Xe s w1 hs)
 have HO1:=zc hO1
 clear hO1 HSu
 go_wp2_with (go_at_call 35;refine (zb HI).mono ?_;rintro e w2 ⟨rfl,hO2⟩;refine zb ?_)
 refine zc ?_
 have HO2:=zc ((zb HO1).trans hO2)
 have HTk:=zc (Z5 p w2 a ((zb HB).keep (zb HO2) (fun _ f=>f.elim)).st)
 clear hO2 HO1 HI
 go_wp2_with (go_at_call 37;refine zb ?_)
 refine zc ?_
 refine (zb HTk).mono ?_
 rintro x w3 ⟨hO3,hx⟩
 have HO3:=zc ((zb HO2).trans hO3)
 clear hO3 HO2 HTk
 cases hTB:Kc.textB s with
 |false=>
  rcases hx with ⟨rfl,hfail⟩ |⟨hI,g,pb,F,W,cs,rfl,hM⟩
  ·clear hfail
   go_wp2_with fail
   go_ret
   exact ⟨rfl,zb HO3⟩
  ·clear hI hM
   go_wp2_with fail
   go_ret
   exact ⟨rfl,zb HO3⟩
 |true=>
  rcases hx with ⟨rfl,hfail⟩ |⟨hI,g,pb,F,W,cs,rfl,hM⟩
  ·clear hfail
   go_wp2_with fail
   go_ret
   exact ⟨rfl,zb HO3⟩
  ·have hTT:(Ref.zo s).2<0∧s.size≤400:=by unfold Kc.textB at hTB;simp at hTB;exact ⟨hTB.1,by omega⟩
   have hlen:=(Prg.yj.of s).len
   have hl4:=Ref.xh s
   have HB3:=zc ((zb HB).keep (zb HO3) (fun _ f=>f.elim))
   have HEn:=zc (Q7 g pb _ 0 s _ W _ w3 a (zb HB3).st hTT.2 hTT.1 hM.c.ptr hM.c.prog.at' (Nat.zero_le _))
   have HM:=zc hM
   have HIP:=zc hI
   have HTT:=zc hTT
   rw [hlen] at hl4 ⊢
   have HN:Hid (∃ n,n=(Pro.letM s (s.size+1) 0).length):=⟨_,rfl⟩
   clear hM hI hTT hlen
   obtain ⟨n,hn⟩:=zb HN
   have Hn:=zc hn
   rw [←hn] at HEn hl4 ⊢
   clear HN hn
   go_wp2_with (go_at_call 38;refine (zb HEn).mono ?_;rintro e w4 ⟨ob,ms,rfl,hOb,hTe,hb1,hb2,hO4⟩;refine zb ?_)
   refine zc ?_
   have HO4:=zc ((zb HO3).trans hO4)
   have HM4:=zc ((zb HM).keep hO4 (fun _ _ f=>f))
   have HB4:=zc ((zb HB3).keep hO4 (fun _ f=>f.elim))
   have HOb:=zc hOb
   have HTe:=zc hTe
   have HTk:=zc (Z5 (Pro.yZ p) w4 a (zb HB4).st)
   clear hO4 HO3 HM HB3 HEn hOb hTe hb1
   go_wp2_with (go_at_call 37;refine zb ?_)
   refine zc ?_
   refine (zb HTk).mono ?_
   rintro x w5 ⟨hO5,⟨rfl,kf,pf,hfail⟩ |⟨hI2,g2,pb2,F2,W2,cs2,rfl,hM2⟩⟩
   ·have hno:=anch_no (zb HIP) hfail
    have hv:=(zb HIP).v
    have HO5:=zc ((zb HO4).trans hO5)
    have HSz:Hid (∀ V,ze (fun _=>False) w5 V→Calls Tryz.prog 16 #[.pointer (some ⟨g,0,none⟩)] V fun x w'=>x = .returned (.int .i64 ((Pro.zD p).v+1))∧ze (fun _=>False) V w'):=fun V hV=>kX g _ V (((zb HM4).keep hO5 (fun _ _ f=>f)).keep hV (fun _ _ f=>f)).c.size
    have HDp:=zc (Jj (kt++p) w5 (by rw [ByteArray.size_append];show 1+p.size≤_;omega))
    have hw6:IntKind.i64.wrap ((p.size:Int)+6)=(p.size:Int)+6:=yY _ (by omega) (by omega)
    clear hfail hO5 HO4 HM4 HTk HOb HTe HB4 HIP HTT Hn HB HP1
    generalize (Pro.zD p).v=v at *
    by_cases q1:200<p.size+6
    ·have d1:decide ((200:Int)<(p.size:Int)+6)=true:=by simp;omega
     clear hno HDp HSz
     go_wp2_with fail
     go_ret
     exact ⟨rfl,zb HO5⟩
    ·have d1:decide ((200:Int)<(p.size:Int)+6)=false:=by simp;omega
     by_cases q2:10<Pro.yK (kt++p) (kt++p).size
     ·have e2:decide (10<Pro.yK (kt++p) (kt++p).size)=true:=by simpa using q2
      rw [e2] at HDp
      clear hno e2 q2 HSz
      go_wp2_with (go_at_call 39;refine (zb HDp).mono ?_;rintro e w6 ⟨rfl,hO6⟩;have HO6:=zc ((zb HO5).trans hO6);clear hO6)
      go_ret
      exact ⟨rfl,zb HO6⟩
     ·have e2:decide (10<Pro.yK (kt++p) (kt++p).size)=false:=by simpa using q2
      rw [e2] at HDp
      have hv3:300<v+1+2:=by omega
      clear hno e2 q2
      have hw7:IntKind.i64.wrap (v+1+2)=v+1+2:=yY _ (by omega) (by omega)
      have d3:decide ((300:Int)<v+1+2)=true:=by simp;omega
      go_wp2_with (go_at_call 39;refine (zb HDp).mono ?_;rintro e w6 ⟨rfl,hO6⟩;have HO6:=zc ((zb HO5).trans hO6);have HS6:=zc (zb HSz w6 hO6);clear hO6 HSz;refine zb ?_)
      refine zc ?_
      go_wp2_with (go_at_call 16;refine (zb HS6).mono ?_;rintro e w7 ⟨rfl,hO7⟩;have HO7:=zc ((zb HO6).trans hO7);clear hO7)
      go_ret
      exact ⟨rfl,zb HO7⟩
   ·have HO5:=zc ((zb HO4).trans hO5)
    have HM5:=zc ((zb HM4).keep hO5 (fun _ _ f=>f))
    have HB5:=zc ((zb HB4).keep hO5 (fun _ f=>f.elim))
    have HOb5:=zc ((zb HOb).keep hO5 (fun f=>f))
    have hob5:ob<w5.heap.size:=by have:=hO5.size;omega
    have HI2:=zc hI2
    have HM2:=zc hM2
    have hsz5:=(zb HO5).size
    generalize (fun k=>w4.heap.size≤k∧k<w5.heap.size)=A2 at *
    clear hO5 HO4 HM4 HB4 HOb HTk hM2 hI2
    go_wp2_with (go_at_call 24;refine (zb HP1 w5).mono ?_;rintro e wq ⟨m1,rfl,hm1,hwq⟩;obtain rfl:=hwq.symm;clear hwq;refine zb ?_)
    refine zc ?_
    have HF1:Hid (Calls Tryz.prog 40 #[.pointer (some ⟨g2,0,none⟩),.int .i64 (2+(m1:Int))] w5 fun x w'=>∃ fb sb mb,x = .returned (.tuple #[.pointer (some ⟨fb,0,none⟩),.int .i64 0])∧w5.heap.size≤fb∧w5.heap.size≤sb∧w5.heap.size≤mb∧Fdr w' A2 (fun k=>k=sb∨k=mb) (fun _=>False) fb sb pb2 mb (2+m1) (Sm.prg F2 (Pro.zE (Pro.yZ p))).2 (Sm.prg F2 (Pro.zE (Pro.yZ p))).1 W2 cs2 [] (.slice none 0 0)∧ze (fun _=>False) w5 w'):=by
     have h:=Qe g2 pb2 _ (2+m1) A2 _ W2 cs2 _ w5 (zb HM2).c (zb HB5).tab (by omega) (by omega)
     rw [show (((2+m1:Nat):Int))=2+(m1:Int) by omega] at h
     exact h
    go_wp2_with (go_at_call 40;refine (zb HF1).mono ?_;rintro e w6 ⟨fb,sb,mb,rfl,hfb,hsb,hmb,hFd,hO6⟩;refine zb ?_)
    refine zc ?_
    have HF2:=zc (YI fb sb pb2 mb (2+m1) _ _ _ _ _ W2 cs2 [] _ (.slice none 0 0) s [] w6 a ((zb HB5).keep hO6 (fun _ f=>f.elim)).st hFd (.inl ⟨rfl,none,0,rfl⟩) (by simp))
    have HO6:=zc hO6
    clear hFd hO6 HF1
    go_wp2_with (go_at_call 41;refine (zb HF2).mono ?_;rintro e w7 ⟨r1,k1,p1,O1,D1,es1,sv1,rfl,hA1,hFd1,_,hoo1,hdd1,hO7⟩;refine zb ?_)
    refine zc ?_
    have hr1:k1=0∧ms[n]?=some r1:=by
     rcases zb0 hA1 (zb HM2).c.prog.at' with ⟨t1,_⟩ |⟨t1,t2,t3,t4,t5,t6⟩
     ·rw [t1] at hTB;cases hTB
     ·exact ⟨t4,zbr (zb HIP) (zb HI2) (zb HM5) (zb HM2) (zb Hn) (zb HTe) t6⟩
    obtain ⟨rfl,hr2⟩:=hr1
    have c1:w7.cell? ⟨ob,n,none⟩=some (.bool r1):=by
     have h6:=((zb HOb5).keep (zb HO6) (fun f=>f)).c n r1 hr2
     exact zg hO7 _ _ h6 (fun q=>by have e:ob=sb∨ob=mb:=q;rcases e with rfl |rfl<;>omega)
    have HOz:Hid (ze (fun _=>False) w w7):=((zb HO5).trans (zb HO6)).laterO hO7 (fun i hi q=>by have e:i=sb∨i=mb:=q;rcases e with rfl |rfl<;>omega)
    have e1:(0:Int)≤(n:Int):=by omega
    have e2:(n:Int)<(n:Int)+1:=by omega
    clear hA1 hFd1 hoo1 hdd1 hO7 HF2 hr2 HO6 HO5 HM5 HB5 HOb5 HI2 HM2 HTe Hn HIP HTT HB HP1
    cases r1
    all_goals go_wp2_with fail
    all_goals go_ret
    all_goals exact ⟨rfl,zb HOz⟩
end
section
open Sm (Tree)
namespace Pro
def mixS (a p b q c:ByteArray):ByteArray:=a++p++b++q++c
theorem XQ (a p b q c:ByteArray):(mixS a p b q c).size=a.size+p.size+b.size+q.size+c.size:=by unfold mixS;simp [ByteArray.size_append]
theorem Yw {a p b q c:ByteArray}(ha:(Ref.zo a).2<0)(hp:(Ref.zo p).2<0)(hb:(Ref.zo b).2<0)(hq:(Ref.zo q).2<0)(hc:(Ref.zo c).2<0):(Ref.zo (mixS a p b q c)).2<0:=by
 rw [Ref.Z3]
 have h5:Ref.Good (mixS a p b q c) ((a++p++b++q).size+c.size):=by
  have:=Ref.Good.fin (mixS a p b q c)
  unfold mixS at this ⊢
  rw [ByteArray.size_append] at this
  exact this
 have h4:Ref.Good (mixS a p b q c) (a++p++b++q).size:=Ref.Good.app (At.right _ _) hc h5
 rw [ByteArray.size_append] at h4
 have h3:Ref.Good (mixS a p b q c) (a++p++b).size:=Ref.Good.app ((At.right _ _).left c) hq h4
 rw [ByteArray.size_append] at h3
 have h2:Ref.Good (mixS a p b q c) (a++p).size:=Ref.Good.app (((At.right _ _).left q).left c) hb h3
 rw [ByteArray.size_append] at h2
 have h1:Ref.Good (mixS a p b q c) a.size:=Ref.Good.app ((((At.right _ _).left b).left q).left c) hp h2
 exact Ref.Good.app (((((At.refl a).left p).left b).left q).left c) ha (by rw [Nat.zero_add];exact h1)
theorem XR {a p b q c:ByteArray}(ha:(Ref.zo a).2<0)(hp:(Ref.zo p).2<0)(hb:(Ref.zo b).2<0)(hq:(Ref.zo q).2<0)(hc:(Ref.zo c).2<0):lets (mixS a p b q c)=sft 0 (lets a)++(sft a.size (lets p)++(sft (a++p).size (lets b)++(sft (a++p++b).size (lets q)++sft (a++p++b++q).size (lets c)))):=by
 have e0:=jG (((((At.refl a).left p).left b).left q).left c) ha
 have e1:=jG ((((At.right a p).left b).left q).left c) hp
 have e2:=jG (((At.right (a++p) b).left q).left c) hb
 have e3:=jG ((At.right (a++p++b) q).left c) hq
 have e4:=jG (At.right (a++p++b++q) c) hc
 have z:letF (a++p++b++q++c) ((a++p++b++q).size+c.size)=[]:=Vm _ (by rw [ByteArray.size_append];exact Nat.le_refl _)
 rw [z,List.append_nil] at e4
 rw [←ByteArray.size_append,e4] at e3
 rw [←ByteArray.size_append,e3] at e2
 rw [←ByteArray.size_append,e2] at e1
 rw [Nat.zero_add,e1,Jh] at e0
 exact e0
def sGo:ByteArray:=⟨#[40,63,58]⟩
def xR:ByteArray:=⟨#[41,40,63,58]⟩
def sBar:ByteArray:=⟨#[41,124,40,63,58]⟩
def zF:ByteArray:=⟨#[41]⟩
theorem Wn:lets sGo=[(0,40),(1,63),(2,58)]:=by decide +kernel
theorem KO:lets xR=[(0,41),(1,40),(2,63),(3,58)]:=by decide +kernel
theorem zam:lets sBar=[(0,41),(1,124),(2,40),(3,63),(4,58)]:=by decide +kernel
theorem kT:lets zF=[(0,41)]:=by decide +kernel
theorem ZN:(Ref.zo sGo).2<0:=by decide +kernel
theorem JS:(Ref.zo xR).2<0:=by decide +kernel
theorem Wo:(Ref.zo sBar).2<0:=by decide +kernel
theorem jS:(Ref.zo zF).2<0:=by decide +kernel
theorem Wp {p q:ByteArray}(h:Reads p)(g:Reads q):(zD (mixS sGo p xR q zF)).k=7∨(Reads (mixS sGo p xR q zF)∧(zD (mixS sGo p xR q zF)).v=min ((zD p).v+(zD q).v) 301∧zE (mixS sGo p xR q zF)=tAlt [tSeq [zE p,zE q]]):=by
 have hL:=XR ZN h.ch JS g.ch jS
 have hch:=Yw ZN h.ch JS g.ch jS
 have i0:=(yF (len:=(p.size:Nat)) (zQ (L:=lets p) (len:=(p.size:Nat)) 10) 0 (Nat.zero_le _)).2.2 h.k
 have i1:=(yF (len:=(q.size:Nat)) (zQ (L:=lets q) (len:=(q.size:Nat)) 10) 0 (Nat.zero_le _)).2.2 g.k
 have hk:=h.k
 have hn:=h.n
 have gk:=g.k
 have gn:=g.n
 unfold zD at hk hn gk gn
 obtain ⟨V,hV⟩:∃ V,V=(altP (lets p) (p.size:Nat) (zl (lets p) (p.size:Nat) 10) 0).v:=⟨_,rfl⟩
 obtain ⟨Tp,hTp⟩:∃ T,T=altQ (lets p) (p.size:Nat) (zl (lets p) (p.size:Nat) 10) (zH (lets p) (p.size:Nat) 10) 0:=⟨_,rfl⟩
 obtain ⟨U,hU⟩:∃ V,V=(altP (lets q) (q.size:Nat) (zl (lets q) (q.size:Nat) 10) 0).v:=⟨_,rfl⟩
 obtain ⟨Tq,hTq⟩:∃ T,T=altQ (lets q) (q.size:Nat) (zl (lets q) (q.size:Nat) 10) (zH (lets q) (q.size:Nat) 10) 0:=⟨_,rfl⟩
 rw [←hV] at i0
 rw [←hU] at i1
 have key:∀ (L':List (Int×Int)) (len':Int) (P B Q C:List (Int×Int)),L'=[(0,40),(1,63),(2,58)]++(P++(B++(Q++C)))→P.length=(lets p).length→(∀ k,zf P k=zf (lets p) k)→Q.length=(lets q).length→(∀ k,zf Q k=zf (lets q) k)→B.length=4→zf B 0=41→zf B 1=40→zf B 2=63→zf B 3=58→C.length=1→zf C 0=41→(altP L' len' (zl L' len' 10) 0).k=7∨((altP L' len' (zl L' len' 10) 0)=good (min (V+U) 301) L'.length∧altQ L' len' (zl L' len' 10) (zH L' len' 10) 0=tAlt [tSeq [Tp,Tq]]):=by
  intro L' len' P B Q C e hP hA hQ hD hB z0 z1 z2 z3 hC z4
  have hl:L'.length=(lets p).length+(lets q).length+8:=by rw [e];simp [hP,hQ,hB,hC];omega
  have a0:zf L' 0=40:=by rw [e];rfl
  have a1:zf L' 1=63:=by rw [e];rfl
  have a2:zf L' 2=58:=by rw [e];rfl
  have hmid:∀ k,zf L' (k+3)=zf (P++(B++(Q++C))) k:=fun k=>by rw [e];exact yS (A:=[(0,40),(1,63),(2,58)])
  have hb:∀ k,k<4→zf L' (k+(lets p).length+3)=zf B k:=fun k hk=>by rw [hmid,←hP,yS];exact qr (by omega)
  have hq:∀ k,zf L' (k+4+(lets p).length+3)=zf (Q++C) k:=fun k=>by rw [hmid,←hP,yS,←hB];exact yS
  have hc:zf L' ((lets q).length+4+(lets p).length+3)=41:=by have:=yS (A:=Q) (B:=C) (k:=0);rw [Nat.zero_add,hQ] at this;rw [hq,this,z4]
  have hS:Shf (lets p) L' (0+3):=⟨fun k hk=>by rw [Nat.zero_add,hmid,qr (by omega)];exact hA k,by have:=hb 0 (by decide);rw [z0,Nat.zero_add] at this;exact this⟩
  have hR:Shf (lets q) L' ((lets p).length+4+3):=⟨fun k hk=>by rw [show k+((lets p).length+4+3)=k+4+(lets p).length+3 by omega,hq,qr (by omega)];exact hD k,by rw [show (lets q).length+((lets p).length+4+3)=(lets q).length+4+(lets p).length+3 by omega];exact hc⟩
  have c0:zf L' ((lets p).length+4)=40:=by have:=hb 1 (by decide);rw [z1,show 1+(lets p).length+3=(lets p).length+4 by omega] at this;exact this
  have c1:zf L' ((lets p).length+4+1)=63:=by have:=hb 2 (by decide);rw [z2,show 2+(lets p).length+3=(lets p).length+4+1 by omega] at this;exact this
  have c2:zf L' ((lets p).length+4+2)=58:=by have:=hb 3 (by decide);rw [z3,show 3+(lets p).length+3=(lets p).length+4+2 by omega] at this;exact this
  have c3:zf L' ((lets p).length+(lets q).length+8) = -1:=zO (by omega)
  have s0:yx L' 0=false:=by unfold yx;rw [a0,hl];simp
  have s1:yx L' ((lets p).length+4)=false:=by unfold yx;rw [c0,hl];simp;omega
  have s2:yx L' ((lets p).length+(lets q).length+8)=true:=by unfold yx;rw [hl];simp
  obtain ⟨f,hf⟩:∃ f,L'.length+1-0=f+1+1+1:=⟨(lets p).length+(lets q).length+6,by omega⟩
  rcases ve (len:=(p.size:Nat)) (len':=len') hS a0 a1 a2 hk hn with ⟨g1,g2⟩ |g9
  ·rw [←hV,Nat.add_zero] at g1
   rw [←hTp] at g2
   have t1:=kg (L:=L') (len:=len') (D:=zl L' len' 10) (DT:=zH L' len' 10) a0 g1 (by rw [c0];decide)
   rcases ve (len:=(q.size:Nat)) (len':=len') hR c0 c1 c2 gk gn with ⟨g3,g4⟩ |g9
   ·rw [←hU,show (lets q).length+((lets p).length+4)+4=(lets p).length+(lets q).length+8 by omega] at g3
    rw [←hTq] at g4
    have t2:=kg (L:=L') (len:=len') (D:=zl L' len' 10) (DT:=zH L' len' 10) c0 g3 (by rw [c3];decide)
    right
    have hT:zw L' len' (zl L' len' 10) 0=good (min (min (0+V) 301+U) 301) ((lets p).length+(lets q).length+8):=by
     unfold zw
     rw [hf,(yh (DT:=zH L' len' 10) (ts:=[]) s0 t1.1).1,(yh (DT:=zH L' len' 10) (ts:=[]) s1 t2.1).1,(xF (DT:=zH L' len' 10) (ts:=[]) s2).1]
    have hQ2:yq L' len' (zl L' len' 10) (zH L' len' 10) 0=tSeq [Tp,Tq]:=by
     unfold yq
     rw [hf,(yh (s:=0) s0 t1.1).2,(yh (s:=0) s1 t2.1).2,(xF (s:=0) s2).2,t1.2,t2.2,g2,g4]
     simp
    have hx:=Z4 (DT:=zH L' len' 10) (f:=f+1+1) (zs:=[]) (ts:=[]) hT hQ2 (by rw [c3];decide)
    constructor
    ·unfold altP
     have hw:min (sumS 0 ([]++[min (min (0+V) 301+U) 301])+((([]:List Int).length:Int)+1)-1) 301=min (V+U) 301:=by
      simp [sumS]
      omega
     rw [hf,hx.1,hl,hw]
    ·unfold altQ
     rw [hf,hx.2]
     rfl
   ·left
    have t2:=jZ (L:=L') (len:=len') (D:=zl L' len' 10) c0 g9
    have hT:(zw L' len' (zl L' len' 10) 0).k=7:=by
     unfold zw
     rw [hf,(yh (DT:=zH L' len' 10) (ts:=[]) s0 t1.1).1]
     exact jY s1 t2
    unfold altP
    rw [hf]
    exact alt_bad hT
  ·left
   have t1:=jZ (L:=L') (len:=len') (D:=zl L' len' 10) a0 g9
   have hT:(zw L' len' (zl L' len' 10) 0).k=7:=by
    unfold zw
    rw [hf]
    exact jY s0 t1
   unfold altP
   rw [hf]
   exact alt_bad hT
 have hL2:lets (mixS sGo p xR q zF)=[(0,40),(1,63),(2,58)]++(sft sGo.size (lets p)++(sft (sGo++p).size (lets xR)++(sft (sGo++p++xR).size (lets q)++sft (sGo++p++xR++q).size (lets zF)))):=by
  rw [hL,Wn]
  rfl
 have za:∀ d k,zf (sft d (lets xR)) k=zf [(0,41),(1,40),(2,63),(3,58)] k:=fun d k=>by rw [xf,KO]
 rcases key _ ((mixS sGo p xR q zF).size:Nat) _ _ _ _ hL2 (qk _ _) (xf _ _) (qk _ _) (xf _ _) (by rw [qk,KO];rfl) (za _ _) (za _ _) (za _ _) (za _ _) (by rw [qk,kT];rfl) (by rw [xf,kT];rfl) with k7 |⟨q1,q2⟩
 ·exact .inl k7
 ·right
  have e1:zD (mixS sGo p xR q zF)=good (min (V+U) 301) (lets (mixS sGo p xR q zF)).length:=q1
  have e2:V=(zD p).v:=hV
  have e3:Tp=zE p:=hTp
  have e5:U=(zD q).v:=hU
  have e6:Tq=zE q:=hTq
  have e4:zE (mixS sGo p xR q zF)=tAlt [tSeq [Tp,Tq]]:=q2
  rw [e2,e5] at e1
  rw [e3,e6] at e4
  refine ⟨⟨hch,?_,?_⟩,?_,e4⟩
  ·rw [e1,Kg]
  ·rw [e1,Kh]
  ·rw [e1,Ki]
end Pro
namespace Pro
theorem Wq {p q:ByteArray}(h:Reads p)(g:Reads q):(zD (mixS sGo p sBar q zF)).k=7∨(Reads (mixS sGo p sBar q zF)∧(zD (mixS sGo p sBar q zF)).v=min ((zD p).v+(zD q).v+1) 301∧zE (mixS sGo p sBar q zF)=tAlt [tSeq [zE p],tSeq [zE q]]):=by
 have hL:=XR ZN h.ch Wo g.ch jS
 have hch:=Yw ZN h.ch Wo g.ch jS
 have i0:=(yF (len:=(p.size:Nat)) (zQ (L:=lets p) (len:=(p.size:Nat)) 10) 0 (Nat.zero_le _)).2.2 h.k
 have i1:=(yF (len:=(q.size:Nat)) (zQ (L:=lets q) (len:=(q.size:Nat)) 10) 0 (Nat.zero_le _)).2.2 g.k
 have hk:=h.k
 have hn:=h.n
 have gk:=g.k
 have gn:=g.n
 unfold zD at hk hn gk gn
 obtain ⟨V,hV⟩:∃ V,V=(altP (lets p) (p.size:Nat) (zl (lets p) (p.size:Nat) 10) 0).v:=⟨_,rfl⟩
 obtain ⟨Tp,hTp⟩:∃ T,T=altQ (lets p) (p.size:Nat) (zl (lets p) (p.size:Nat) 10) (zH (lets p) (p.size:Nat) 10) 0:=⟨_,rfl⟩
 obtain ⟨U,hU⟩:∃ V,V=(altP (lets q) (q.size:Nat) (zl (lets q) (q.size:Nat) 10) 0).v:=⟨_,rfl⟩
 obtain ⟨Tq,hTq⟩:∃ T,T=altQ (lets q) (q.size:Nat) (zl (lets q) (q.size:Nat) 10) (zH (lets q) (q.size:Nat) 10) 0:=⟨_,rfl⟩
 rw [←hV] at i0
 rw [←hU] at i1
 have key:∀ (L':List (Int×Int)) (len':Int) (P B Q C:List (Int×Int)),L'=[(0,40),(1,63),(2,58)]++(P++(B++(Q++C)))→P.length=(lets p).length→(∀ k,zf P k=zf (lets p) k)→Q.length=(lets q).length→(∀ k,zf Q k=zf (lets q) k)→B.length=5→zf B 0=41→zf B 1=124→zf B 2=40→zf B 3=63→zf B 4=58→C.length=1→zf C 0=41→(altP L' len' (zl L' len' 10) 0).k=7∨((altP L' len' (zl L' len' 10) 0)=good (min (V+U+1) 301) L'.length∧altQ L' len' (zl L' len' 10) (zH L' len' 10) 0=tAlt [tSeq [Tp],tSeq [Tq]]):=by
  intro L' len' P B Q C e hP hA hQ hD hB z0 z1 z2 z3 z5 hC z4
  have hl:L'.length=(lets p).length+(lets q).length+9:=by rw [e];simp [hP,hQ,hB,hC];omega
  have a0:zf L' 0=40:=by rw [e];rfl
  have a1:zf L' 1=63:=by rw [e];rfl
  have a2:zf L' 2=58:=by rw [e];rfl
  have hmid:∀ k,zf L' (k+3)=zf (P++(B++(Q++C))) k:=fun k=>by rw [e];exact yS (A:=[(0,40),(1,63),(2,58)])
  have hb:∀ k,k<5→zf L' (k+(lets p).length+3)=zf B k:=fun k hk=>by rw [hmid,←hP,yS];exact qr (by omega)
  have hq:∀ k,zf L' (k+5+(lets p).length+3)=zf (Q++C) k:=fun k=>by rw [hmid,←hP,yS,←hB];exact yS
  have hc:zf L' ((lets q).length+5+(lets p).length+3)=41:=by have:=yS (A:=Q) (B:=C) (k:=0);rw [Nat.zero_add,hQ] at this;rw [hq,this,z4]
  have hS:Shf (lets p) L' (0+3):=⟨fun k hk=>by rw [Nat.zero_add,hmid,qr (by omega)];exact hA k,by have:=hb 0 (by decide);rw [z0,Nat.zero_add] at this;exact this⟩
  have hR:Shf (lets q) L' ((lets p).length+5+3):=⟨fun k hk=>by rw [show k+((lets p).length+5+3)=k+5+(lets p).length+3 by omega,hq,qr (by omega)];exact hD k,by rw [show (lets q).length+((lets p).length+5+3)=(lets q).length+5+(lets p).length+3 by omega];exact hc⟩
  have cb:zf L' ((lets p).length+4)=124:=by have:=hb 1 (by decide);rw [z1,show 1+(lets p).length+3=(lets p).length+4 by omega] at this;exact this
  have c0:zf L' ((lets p).length+5)=40:=by have:=hb 2 (by decide);rw [z2,show 2+(lets p).length+3=(lets p).length+5 by omega] at this;exact this
  have c1:zf L' ((lets p).length+5+1)=63:=by have:=hb 3 (by decide);rw [z3,show 3+(lets p).length+3=(lets p).length+5+1 by omega] at this;exact this
  have c2:zf L' ((lets p).length+5+2)=58:=by have:=hb 4 (by decide);rw [z5,show 4+(lets p).length+3=(lets p).length+5+2 by omega] at this;exact this
  have c3:zf L' ((lets p).length+(lets q).length+9) = -1:=zO (by omega)
  have s0:yx L' 0=false:=by unfold yx;rw [a0,hl];simp
  have sb:yx L' ((lets p).length+4)=true:=by unfold yx;rw [cb];simp
  have s1:yx L' ((lets p).length+5)=false:=by unfold yx;rw [c0,hl];simp;omega
  have s2:yx L' ((lets p).length+(lets q).length+9)=true:=by unfold yx;rw [hl];simp
  obtain ⟨f,hf⟩:∃ f,L'.length+1-0=f+1+1:=⟨(lets p).length+(lets q).length+8,by omega⟩
  obtain ⟨f2,hf2⟩:∃ f,L'.length+1-((lets p).length+5)=f+1+1:=⟨(lets q).length+3,by omega⟩
  rcases ve (len:=(p.size:Nat)) (len':=len') hS a0 a1 a2 hk hn with ⟨g1,g2⟩ |g9
  ·rw [←hV,Nat.add_zero] at g1
   rw [←hTp] at g2
   have t1:=kg (L:=L') (len:=len') (D:=zl L' len' 10) (DT:=zH L' len' 10) a0 g1 (by rw [cb];decide)
   have hT:zw L' len' (zl L' len' 10) 0=good (min (0+V) 301) ((lets p).length+4):=by
    unfold zw
    rw [hf,(yh (DT:=zH L' len' 10) (ts:=[]) s0 t1.1).1,(xF (DT:=zH L' len' 10) (ts:=[]) sb).1]
   have hQ2:yq L' len' (zl L' len' 10) (zH L' len' 10) 0=tSeq [Tp]:=by
    unfold yq
    rw [hf,(yh (s:=0) s0 t1.1).2,(xF (s:=0) sb).2,t1.2,g2]
    simp
   have hx:=alt_next (DT:=zH L' len' 10) (f:=f+1) (zs:=[]) (ts:=[]) hT hQ2 cb
   rw [show (lets p).length+4+1=(lets p).length+5 by omega] at hx
   rcases ve (len:=(q.size:Nat)) (len':=len') hR c0 c1 c2 gk gn with ⟨g3,g4⟩ |g9
   ·rw [←hU,show (lets q).length+((lets p).length+5)+4=(lets p).length+(lets q).length+9 by omega] at g3
    rw [←hTq] at g4
    have t2:=kg (L:=L') (len:=len') (D:=zl L' len' 10) (DT:=zH L' len' 10) c0 g3 (by rw [c3];decide)
    right
    have hT2:zw L' len' (zl L' len' 10) ((lets p).length+5)=good (min (0+U) 301) ((lets p).length+(lets q).length+9):=by
     unfold zw
     rw [hf2,(yh (DT:=zH L' len' 10) (ts:=[]) s1 t2.1).1,(xF (DT:=zH L' len' 10) (ts:=[]) s2).1]
    have hQ3:yq L' len' (zl L' len' 10) (zH L' len' 10) ((lets p).length+5)=tSeq [Tq]:=by
     unfold yq
     rw [hf2,(yh (s:=0) s1 t2.1).2,(xF (s:=0) s2).2,t2.2,g4]
     simp
    have hy:=Z4 (DT:=zH L' len' 10) (f:=f) (zs:=[]++[min (0+V) 301]) (ts:=[]++[tSeq [Tp]]) hT2 hQ3 (by rw [c3];decide)
    constructor
    ·unfold altP
     have hw:min (sumS 0 ([]++[min (0+V) 301]++[min (0+U) 301])+((([]++[min (0+V) 301]:List Int).length:Int)+1)-1) 301=min (V+U+1) 301:=by
      simp [sumS]
      omega
     rw [hf,hx.1,hy.1,hl,hw]
    ·unfold altQ
     rw [hf,hx.2,hy.2]
     rfl
   ·left
    have t2:=jZ (L:=L') (len:=len') (D:=zl L' len' 10) c0 g9
    have hT2:(zw L' len' (zl L' len' 10) ((lets p).length+5)).k=7:=by
     unfold zw
     rw [hf2]
     exact jY s1 t2
    unfold altP
    rw [hf,hx.1]
    exact alt_bad hT2
  ·left
   have t1:=jZ (L:=L') (len:=len') (D:=zl L' len' 10) a0 g9
   have hT:(zw L' len' (zl L' len' 10) 0).k=7:=by
    unfold zw
    rw [hf]
    exact jY s0 t1
   unfold altP
   rw [hf]
   exact alt_bad hT
 have hL2:lets (mixS sGo p sBar q zF)=[(0,40),(1,63),(2,58)]++(sft sGo.size (lets p)++(sft (sGo++p).size (lets sBar)++(sft (sGo++p++sBar).size (lets q)++sft (sGo++p++sBar++q).size (lets zF)))):=by
  rw [hL,Wn]
  rfl
 have za:∀ d k,zf (sft d (lets sBar)) k=zf [(0,41),(1,124),(2,40),(3,63),(4,58)] k:=fun d k=>by rw [xf,zam]
 rcases key _ ((mixS sGo p sBar q zF).size:Nat) _ _ _ _ hL2 (qk _ _) (xf _ _) (qk _ _) (xf _ _) (by rw [qk,zam];rfl) (za _ _) (za _ _) (za _ _) (za _ _) (za _ _) (by rw [qk,kT];rfl) (by rw [xf,kT];rfl) with k7 |⟨q1,q2⟩
 ·exact .inl k7
 ·right
  have e1:zD (mixS sGo p sBar q zF)=good (min (V+U+1) 301) (lets (mixS sGo p sBar q zF)).length:=q1
  have e2:V=(zD p).v:=hV
  have e3:Tp=zE p:=hTp
  have e5:U=(zD q).v:=hU
  have e6:Tq=zE q:=hTq
  have e4:zE (mixS sGo p sBar q zF)=tAlt [tSeq [Tp],tSeq [Tq]]:=q2
  rw [e2,e5] at e1
  rw [e3,e6] at e4
  refine ⟨⟨hch,?_,?_⟩,?_,e4⟩
  ·rw [e1,Kg]
  ·rw [e1,Kh]
  ·rw [e1,Ki]
end Pro
namespace Pro
theorem zbs {p c t:ByteArray}{l hi:Int}(h:Reads p)(hc:(Ref.zo c).2<0)(ht:(Ref.zo t).2<0)
  (hq:∀ (L':List (Int×Int)) (len':Int) (m:Nat),(∀ k,zf L' (k+m)=zf (lets c++lets t) k)→L'.length=m+(lets c++lets t).length→∃ n,zu L' len' m=(true,good l n,hi)∧jR L' n=L'.length)
  (h0:∀ v,0≤v→v<300→0≤repS v l hi) (hv:(zD p).v<300) :
  (zD (mixS sGo p zF c t)).k=7∨(Reads (mixS sGo p zF c t)∧(zD (mixS sGo p zF c t)).v=min (repS (zD p).v l hi) 301∧zE (mixS sGo p zF c t)=tAlt [tSeq [tRep (zE p) l hi]]):=by
 have hL:=XR ZN h.ch jS hc ht
 have hch:=Yw ZN h.ch jS hc ht
 have i0:=(yF (len:=(p.size:Nat)) (zQ (L:=lets p) (len:=(p.size:Nat)) 10) 0 (Nat.zero_le _)).2.2 h.k
 have hk:=h.k
 have hn:=h.n
 unfold zD at hk hn hv
 obtain ⟨V,hV⟩:∃ V,V=(altP (lets p) (p.size:Nat) (zl (lets p) (p.size:Nat) 10) 0).v:=⟨_,rfl⟩
 obtain ⟨Tp,hTp⟩:∃ T,T=altQ (lets p) (p.size:Nat) (zl (lets p) (p.size:Nat) 10) (zH (lets p) (p.size:Nat) 10) 0:=⟨_,rfl⟩
 rw [←hV] at i0 hv
 have hr:=h0 V i0.1 hv
 have key:∀ (L':List (Int×Int)) (len':Int) (P B C:List (Int×Int)),L'=[(0,40),(1,63),(2,58)]++(P++(B++C))→P.length=(lets p).length→(∀ k,zf P k=zf (lets p) k)→B.length=1→zf B 0=41→C.length=(lets c++lets t).length→(∀ k,zf C k=zf (lets c++lets t) k)→(altP L' len' (zl L' len' 10) 0).k=7∨((altP L' len' (zl L' len' 10) 0)=good (min (repS V l hi) 301) L'.length∧altQ L' len' (zl L' len' 10) (zH L' len' 10) 0=tAlt [tSeq [tRep Tp l hi]]):=by
  intro L' len' P B C e hP hA hB z0 hC hD
  have hl:L'.length=(lets p).length+4+(lets c++lets t).length:=by rw [e];simp only [List.length_append,hP,hB,hC,List.length_cons,List.length_nil];omega
  have a0:zf L' 0=40:=by rw [e];rfl
  have a1:zf L' 1=63:=by rw [e];rfl
  have a2:zf L' 2=58:=by rw [e];rfl
  have hmid:∀ k,zf L' (k+3)=zf (P++(B++C)) k:=fun k=>by rw [e];exact yS (A:=[(0,40),(1,63),(2,58)])
  have hb:zf L' ((lets p).length+3)=41:=by
   have:=yS (A:=P) (B:=B++C) (k:=0)
   rw [Nat.zero_add,hP] at this
   rw [hmid,this,qr (by omega)]
   exact z0
  have hq2:∀ k,zf L' (k+((lets p).length+4))=zf (lets c++lets t) k:=fun k=>by
   rw [show k+((lets p).length+4)=k+1+(lets p).length+3 by omega,hmid,←hP,yS,←hB,yS]
   exact hD k
  have hS:Shf (lets p) L' (0+3):=⟨fun k hk=>by rw [Nat.zero_add,hmid,qr (by omega)];exact hA k,by rw [Nat.zero_add];exact hb⟩
  obtain ⟨n,hQ,hZ⟩:=hq L' len' ((lets p).length+4) hq2 hl
  have s0:yx L' 0=false:=by unfold yx;rw [a0,hl];simp
  have s1:yx L' L'.length=true:=by unfold yx;simp
  have c3:zf L' L'.length = -1:=zO (Nat.le_refl _)
  obtain ⟨f,hf⟩:∃ f,L'.length+1-0=f+1+1:=⟨(lets p).length+3+(lets c++lets t).length,by omega⟩
  rcases ve (len:=(p.size:Nat)) (len':=len') hS a0 a1 a2 hk hn with ⟨g1,g2⟩ |g9
  ·rw [←hV,Nat.add_zero] at g1
   rw [←hTp] at g2
   have t1:=term_rep (L:=L') (len:=len') (D:=zl L' len' 10) (DT:=zH L' len' 10) a0 g1 hQ rfl
   have eV:(good l n).v=l:=rfl
   have eN:(good l n).n=n:=rfl
   rw [eV,eN,hZ,g2] at t1
   right
   have hT:zw L' len' (zl L' len' 10) 0=good (min (0+min (repS V l hi) 301) 301) L'.length:=by
    unfold zw
    rw [hf,(yh (DT:=zH L' len' 10) (ts:=[]) s0 t1.1).1,(xF (DT:=zH L' len' 10) (ts:=[]) s1).1]
   have hQ2:yq L' len' (zl L' len' 10) (zH L' len' 10) 0=tSeq [tRep Tp l hi]:=by
    unfold yq
    rw [hf,(yh (s:=0) s0 t1.1).2,(xF (s:=0) s1).2,t1.2]
    simp
   have hx:=Z4 (DT:=zH L' len' 10) (f:=f+1) (zs:=[]) (ts:=[]) hT hQ2 (by rw [c3];decide)
   constructor
   ·unfold altP
    have hw:min (sumS 0 ([]++[min (0+min (repS V l hi) 301) 301])+((([]:List Int).length:Int)+1)-1) 301=min (repS V l hi) 301:=by
     simp [sumS]
    rw [hf,hx.1,hw]
   ·unfold altQ
    rw [hf,hx.2]
    rfl
  ·left
   have t1:=jZ (L:=L') (len:=len') (D:=zl L' len' 10) a0 g9
   have hT:(zw L' len' (zl L' len' 10) 0).k=7:=by
    unfold zw
    rw [hf]
    exact jY s0 t1
   unfold altP
   rw [hf]
   exact alt_bad hT
 have hL2:lets (mixS sGo p zF c t)=[(0,40),(1,63),(2,58)]++(sft sGo.size (lets p)++(sft (sGo++p).size (lets zF)++(sft (sGo++p++zF).size (lets c)++sft (sGo++p++zF++c).size (lets t)))):=by
  rw [hL,Wn]
  rfl
 have hC:∀ d e k,zf (sft d (lets c)++sft e (lets t)) k=zf (lets c++lets t) k:=fun d e k=>by
  by_cases hk:k<(lets c).length
  ·rw [qr (by rw [qk];exact hk),qr hk,xf]
  ·obtain ⟨j,rfl⟩:∃ j,k=j+(lets c).length:=⟨k-(lets c).length,by omega⟩
   have h1:=yS (A:=sft d (lets c)) (B:=sft e (lets t)) (k:=j)
   rw [qk] at h1
   rw [h1,yS,xf]
 rcases key _ ((mixS sGo p zF c t).size:Nat) _ _ _ hL2 (qk _ _) (xf _ _) (by rw [qk,kT];rfl) (by rw [xf,kT];rfl) (by simp [qk]) (hC _ _) with k7 |⟨q1,q2⟩
 ·exact .inl k7
 ·right
  have e1:zD (mixS sGo p zF c t)=good (min (repS V l hi) 301) (lets (mixS sGo p zF c t)).length:=q1
  have e2:V=(zD p).v:=hV
  have e3:Tp=zE p:=hTp
  have e4:zE (mixS sGo p zF c t)=tAlt [tSeq [tRep Tp l hi]]:=q2
  rw [e2] at e1
  rw [e3] at e4
  refine ⟨⟨hch,?_,?_⟩,?_,e4⟩
  ·rw [e1,Kg]
  ·rw [e1,Kh]
  ·rw [e1,Ki]
def sSt:ByteArray:=⟨#[42]⟩
def sPl:ByteArray:=⟨#[43]⟩
def sQu:ByteArray:=⟨#[63]⟩
def ql (b:Bool):ByteArray:=if b=true then sQu else ByteArray.empty
theorem st_let:lets sSt=[(0,42)]:=by decide +kernel
theorem pl_let:lets sPl=[(0,43)]:=by decide +kernel
theorem qu_let:lets sQu=[(0,63)]:=by decide +kernel
theorem JT:lets ByteArray.empty=[]:=by decide +kernel
theorem st_ch:(Ref.zo sSt).2<0:=by decide +kernel
theorem pl_ch:(Ref.zo sPl).2<0:=by decide +kernel
theorem qu_ch:(Ref.zo sQu).2<0:=by decide +kernel
theorem nil_ch:(Ref.zo ByteArray.empty).2<0:=by decide +kernel
theorem zan (b:Bool):(Ref.zo (ql b)).2<0:=by cases b;exact nil_ch;exact qu_ch
theorem sign_q {c:ByteArray}{l hi x:Int}(hl:lets c=[(0,x)])(hx:∀ (L':List (Int×Int)) (len':Int) (m:Nat),zf L' m=x→zu L' len' m=(true,good l (m+1),hi))(b:Bool)(L':List (Int×Int))(len':Int)(m:Nat)(h:∀ k,zf L' (k+m)=zf (lets c++lets (ql b)) k)(hn:L'.length=m+(lets c++lets (ql b)).length):∃ n,zu L' len' m=(true,good l n,hi)∧jR L' n=L'.length:=by
 have h0:=h 0
 have h1:=h 1
 rw [hl] at h0 h1 hn
 rw [Nat.zero_add] at h0
 refine ⟨m+1,hx L' len' m (by rw [h0];rfl),?_⟩
 unfold jR
 rw [Nat.add_comm 1 m] at h1
 cases b with
 |false=>
  have e:lets (ql false)=[]:=JT
  rw [e] at h1 hn
  rw [if_neg (by rw [h1,show zf ([(0,x)]++[]) 1 = -1 from rfl];decide),hn]
  rfl
 |true=>
  have e:lets (ql true)=[(0,63)]:=qu_let
  rw [e] at h1 hn
  rw [if_pos (by rw [h1];rfl),hn]
  rfl
end Pro
end
end Go.Proofs.YtfnkbmglodopkaaGreatDoor
