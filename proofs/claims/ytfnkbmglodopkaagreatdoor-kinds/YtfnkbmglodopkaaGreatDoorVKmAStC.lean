/- Tables of the law: reading them; either. -/
import Derived.Test.YtfnkbmglodopkaaGreatDoorVAncBLocH
namespace Go.Proofs.YtfnkbmglodopkaaGreatDoor
section
open Go.RowKit
set_option maxHeartbeats 4000000
set_option maxRecDepth 100000
def TbV (w:World)(v:Value)(n:Nat)(X:Nat→Nat→Prop):Prop:=∃ g c,v = .slice (some ⟨g,0,none⟩) (n+1) c∧∀ i,i<n+1→∃ ob ms,w.cell? ⟨g,i,none⟩=some (.slice (some ⟨ob,0,none⟩) (n+1) (n+1))∧xQ w ob ms∧Kc.Tells n (X i) ms
theorem TbV.keep {w w':World}{v:Value}{n:Nat}{X:Nat→Nat→Prop}(h:TbV w v n X)(k:ze (fun _=>False) w w'):TbV w' v n X:=by
 obtain ⟨g,c,rfl,h⟩:=h
 refine ⟨g,c,rfl,fun i hi=>?_⟩
 obtain ⟨ob,ms,h1,h2,h3⟩:=h i hi
 exact ⟨ob,ms,zg k _ _ h1 (fun f=>f),h2.keep k (fun f=>f),h3⟩
theorem TbV.congr {w:World}{v:Value}{n:Nat}{X Y:Nat→Nat→Prop}(h:TbV w v n X)(e:∀ i j,i≤n→j≤n→(X i j↔Y i j)):TbV w v n Y:=by
 obtain ⟨g,c,rfl,h⟩:=h
 refine ⟨g,c,rfl,fun i hi=>?_⟩
 obtain ⟨ob,ms,h1,h2,h3,h4⟩:=h i hi
 refine ⟨ob,ms,h1,h2,h3,fun j=>(h4 j).trans ⟨fun ⟨a,b⟩=>⟨a,(e i j (by omega) a).1 b⟩,fun ⟨a,b⟩=>⟨a,(e i j (by omega) a).2 b⟩⟩⟩
theorem Tb.read {w:World}{base n:Nat}{v:Value}{X:Nat→Nat→Prop}{obs:List Nat}(h:Tb w base v n (n+1) X obs):TbV w v n X:=by
 have hl:=h.len
 have hr:=h.row
 rcases hr.2 with ⟨_,h0⟩ |⟨g,cap,cur,rfl,hbg,hg,hnc,hcm,hcs,htake⟩
 ·omega
 ·refine ⟨g,cap,rfl,fun i hi=>?_⟩
  obtain ⟨_,_,_,ms,h4,h5⟩:=h.sub i obs[i] (List.getElem?_eq_getElem (by omega))
  refine ⟨obs[i],ms,(hr.cellAt _ (by omega)).trans ?_,h4,h5⟩
  unfold XC
  rw [List.getElem?_map,List.getElem?_eq_getElem (by omega)]
  rfl
theorem Kc.Tells.at {n:Nat}{X:Nat→Prop}{ms:List Bool}(h:Kc.Tells n X ms){k:Nat}(hk:k<n+1):∃ b,ms[k]?=some b∧(b=true↔X k):=by
 have hl:k<ms.length:=by have:=h.1;omega
 refine ⟨ms[k],List.getElem?_eq_getElem hl,?_⟩
 have h2:=h.2 k
 rw [List.getElem?_eq_getElem hl] at h2
 simp at h2
 exact h2.trans ⟨fun q=>q.2,fun q=>⟨by omega,q⟩⟩
set_option maxHeartbeats 8000000
theorem zb2 (n:Nat)(hn:n≤400)(av bv:Value)(X Y:Nat→Nat→Prop)(w:World)(hA:TbV w av n X)(hB:TbV w bv n Y)(hXY:∀ i j,i≤n→j≤n→(X i j↔Y i j)) :
  Calls Tryz.prog 52 #[av,bv] w fun x w'=>x = .returned (.bool true)∧ze (fun _=>False) w w':=by
 obtain ⟨ga,ca,rfl,hA⟩:=hA
 obtain ⟨gb,cb,rfl,hB⟩:=hB
 have HA:=zc hA
 have HBt:=zc hB
 have HXY:=zc hXY
 clear hA hB hXY
 go_enter Tryz.func52,Tryz.ntmps52
 go_wp2_with fail
 go_loopw [5] (fun iv wr=>∃ (i:Nat),iv = .int .i64 i∧i≤n+1∧Hid (ze (fun _=>False) w wr)) (fun iv _=>n+1-(intOf iv).toNat)
 case atStart=>exact ⟨0,rfl,by omega,ze.refl _ _⟩
 case round=>
  obtain ⟨i,rfl,hi,HK⟩:=hrel
  obtain ⟨wo,rfl⟩:∃ W,W=wr:=⟨_,rfl⟩
  by_cases hlt:i<n+1
  ·have b1:(i:Int)<(n:Int)+1:=by omega
   have b0:(0:Int)≤(i:Int):=by omega
   obtain ⟨oa,ma,a1,a2,a3⟩:=zb HA i hlt
   obtain ⟨ob,mb,e1,e2,e3⟩:=zb HBt i hlt
   have HA1:=zc a1
   have HA2:=zc a2
   have HA3:=zc a3
   have HE1:=zc e1
   have HE2:=zc e2
   have HE3:=zc e3
   clear a1 a2 a3 e1 e2 e3
   go_wp2_with fail
   go_loopw [6] (fun kv wq=>∃ (k:Nat),kv = .int .i64 k∧k≤n+1∧Hid (ze (fun _=>False) w wq)) (fun kv _=>n+1-(intOf kv).toNat)
   case atStart=>exact ⟨0,rfl,by omega,HK⟩
   case round=>
    clear HK
    obtain ⟨k,rfl,hk,HK⟩:=hrel
    have c1:=zg (zb HK) _ _ (zb HA1) (fun f=>f)
    have c3:=zg (zb HK) _ _ (zb HE1) (fun f=>f)
    by_cases hk1:k<n+1
    ·obtain ⟨x,x1,x2⟩:=(zb HA3).at hk1
     obtain ⟨y,y1,y2⟩:=(zb HE3).at hk1
     have hxy:x=y:=Bool.eq_iff_iff.2 (x2.trans ((zb HXY i k (by omega) (by omega)).trans y2.symm))
     subst hxy
     have c2:=zg (zb HK) _ _ ((zb HA2).c k _ x1) (fun f=>f)
     have c4:=zg (zb HK) _ _ ((zb HE2).c k _ y1) (fun f=>f)
     have b3:(0:Int)≤(k:Int):=by omega
     have b4:(k:Int)<(n:Int)+1:=by omega
     clear x1 x2 y1 y2
     cases x
     all_goals go_wp2_with fail
     all_goals go_quiet (fail)
     all_goals go_wp2_with fail
     all_goals exact ⟨⟨k+1,by go_num,by omega,by first |exact HK |exact (zb HK).drewN _ |exact (zb HK).drew⟩,by simp [intOf];omega⟩
    ·obtain rfl:k=n+1:=by omega
     have b4:¬((n+1:Nat):Int)<(n:Int)+1:=by omega
     go_wp2_with fail
     exact ⟨⟨i+1,by go_num,by omega,HK⟩,by simp [intOf];omega⟩
  ·obtain rfl:i=n+1:=by omega
   have b1:¬((n+1:Nat):Int)<(n:Int)+1:=by omega
   go_wp2_with fail
   go_ret
   exact ⟨rfl,zb HK⟩
open Sm (Stp Tree capT)
set_option maxRecDepth 1000000
theorem Kb {p s:ByteArray}{A:Nat→Prop}{g pb F:Nat}{W:Int→Bool}{cs:List Int}(w:World)(a:Nat→Addr)(hM:PatM w A p g pb F W cs)(hS:Start w a)(hs:s.size≤400)(hc:(Ref.zo s).2<0) :
  Calls Tryz.prog 42 #[.pointer (some ⟨g,0,none⟩),.string s,.int .i64 ((Pro.letM s (s.size+1) 0).length:Nat)] w fun x w'=>∃ v,x = .returned (.tuple #[v,.bool true])∧TbV w' v (Pro.letM s (s.size+1) 0).length (Mng s (Pro.zE p))∧ze (fun _=>False) w w':=by
 refine (kall_any g pb _ s _ W A w a hS hs hc hM.c.ptr hM.c.prog.at').mono ?_
 rintro x w' ⟨v,obs,rfl,hT,hO⟩
 exact ⟨v,rfl,hT.read.congr (fun i j hi _=>Kk s hM.wf hM.ask hi),hO⟩
def Zz (T s:ByteArray)(z:Int)(n:Nat)(Z:Nat→Nat→Prop):Prop:=
 (Ref.zo T).2<0∧1≤z∧z≤1000000∧((Pro.zD T).k=7∨(Pro.Reads T∧(Pro.zD T).v=min (z-1) 301∧∀ i j,i≤n→j≤n→(Mng s (Pro.zE T) i j↔Z i j)))
theorem zb3 {T:ByteArray}(h:(Pro.zD T).k=7):10<Pro.yK T T.size:=by
 have h1:11≤Pro.vK (Pro.lets T) 0:=Pro.whole7 h
 have h2:=Pro.Qj T
 omega
theorem k9 (T s:ByteArray)(z:Int)(wv:Value)(Z:Nat→Nat→Prop)(n:Nat)(hn:n=(Pro.letM s (s.size+1) 0).length)(w:World)(a:Nat→Addr)(hS:Start w a)(hTs:T.size≤4398046511104)(hs:s.size≤400)(hc:(Ref.zo s).2<0)(hW:TbV w wv n Z)(hM:Zz T s z n Z) :
  Calls Tryz.prog 20 #[.string T,.int .i64 z,.string s,.int .i64 (n:Nat),wv] w fun x w'=>x = .returned (.bool true)∧ze (fun _=>False) w w':=by
 obtain ⟨hch,hz1,hz2,hM⟩:=hM
 have hl4:=Ref.xh s
 rw [(Prg.yj.of s).len,←hn] at hl4
 have HS:=zc hS
 have HW:=zc hW
 have HC:=zc (Qk T w a hS)
 have Hn:=zc hn
 have Hc:=zc hc
 clear hS hW hn hc
 go_enter Tryz.func20,Tryz.ntmps20
 go_wp2_with (go_at_call 15;refine zb ?_)
 refine zc ?_
 refine (zb HC).mono ?_
 rintro x w1 ⟨hO1,hx⟩
 have HO1:=zc hO1
 clear hO1 HC
 by_cases q1:200<T.size
 ·have d1:decide ((200:Int)<(T.size:Int))=true:=by simp;omega
  rcases hx with ⟨k,p,k1,k2,rfl,hF⟩ |⟨hI,_⟩
  ·obtain ⟨rfl,rfl⟩:=hF.long q1
   clear hM hF
   go_wp2_with fail
   go_ret
   exact ⟨rfl,zb HO1⟩
  ·have:=hI.size
   omega
 ·have d1:decide ((200:Int)<(T.size:Int))=false:=by simp;omega
  rcases hM with h7 |⟨hR,hv,hZ⟩
  ·rcases hx with ⟨k,p,k1,k2,rfl,hF⟩ |⟨hI,_⟩
   ·obtain rfl:k=7:=(hF.out (by omega) hch (by rw [h7];decide)).trans h7
    have HD:=Jj T w1 hTs
    rw [show decide (10<Pro.yK T T.size)=true by simpa using zb3 h7] at HD
    have HDp:=zc HD
    clear HD h7 hF
    go_wp2_with (go_at_call 39;refine (zb HDp).mono ?_;rintro e w2 ⟨rfl,hO2⟩;have HO2:=zc ((zb HO1).trans hO2);clear hO2)
    go_ret
    exact ⟨rfl,zb HO2⟩
   ·have:=hI.rd.k
    rw [h7] at this
    cases this
  ·by_cases q2:300<z
   ·have d2:decide ((300:Int)<z)=true:=by simpa using q2
    rcases hx with ⟨k,p,k1,k2,rfl,hF⟩ |⟨hI,_⟩
    ·obtain ⟨rfl,rfl⟩:=hF.big (by omega) hR
     clear hF hR hv hZ
     go_wp2_with fail
     go_ret
     exact ⟨rfl,zb HO1⟩
    ·have:=hI.v
     omega
   ·have d2:decide ((300:Int)<z)=false:=by simpa using q2
    rcases hx with ⟨k,p,k1,k2,rfl,hF⟩ |⟨hI,g,pb,F,W,cs,rfl,hP⟩
    ·exact absurd ⟨by omega,hR,by rw [hv];omega⟩ hF.no
    ·have HP:=zc hP
     have hz:(Pro.zD T).v+1=z:=by rw [hv];omega
     have HSz:Hid (Calls Tryz.prog 16 #[.pointer (some ⟨g,0,none⟩)] w1 fun x w'=>x = .returned (.int .i64 z)∧ze (fun _=>False) w1 w'):=by
      have h:=kX g _ w1 hP.c.size
      rw [hz] at h
      exact h
     have HZ:=zc hZ
     clear hP hI hR hv hZ hz
     go_wp2_with (go_at_call 16;refine (zb HSz).mono ?_;rintro e w2 ⟨rfl,hO2⟩;refine zb ?_)
     refine zc ?_
     have HO2:=zc ((zb HO1).trans hO2)
     have HA1:=zc (Kb (s:=s) w2 a ((zb HP).keep hO2 (fun _ _ f=>f)) ((zb HS).keep (zb HO2)) hs (zb Hc))
     rw [←zb Hn] at HA1
     clear hO2 HO1 HSz
     go_wp2_with (go_at_call 42;refine (zb HA1).mono ?_;rintro e w3 ⟨av,rfl,hTa,hO3⟩;refine zb ?_)
     refine zc ?_
     have HO3:=zc ((zb HO2).trans hO3)
     have HSm:=zc (zb2 n (by omega) av wv _ _ w3 hTa ((zb HW).keep (zb HO3)) (zb HZ))
     clear hTa hO3 HO2 HA1
     go_wp2_with (go_at_call 52;refine (zb HSm).mono ?_;rintro e w4 ⟨rfl,hO4⟩;have HO4:=zc ((zb HO3).trans hO4);clear hO4)
     go_ret
     exact ⟨rfl,zb HO4⟩
namespace Kc
end Kc
theorem pow_iff {R Q:Nat→Nat→Prop}(h:∀ i j,R i j↔Q i j):∀ (k i j:Nat),Sm.pow R k i j↔Sm.pow Q k i j
 |0,_,_=>Iff.rfl
 |k+1,i,j=>⟨fun ⟨m,a,b⟩=>⟨m,(h i m).1 a,(pow_iff h k m j).1 b⟩,fun ⟨m,a,b⟩=>⟨m,(h i m).2 a,(pow_iff h k m j).2 b⟩⟩
end
end Go.Proofs.YtfnkbmglodopkaaGreatDoor
