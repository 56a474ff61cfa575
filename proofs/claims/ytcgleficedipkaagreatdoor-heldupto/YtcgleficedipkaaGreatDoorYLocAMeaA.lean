/- A pattern that stands within brackets reads as it does alone (or its brackets are too deep). -/
import Derived.Test.YtcgleficedipkaaGreatDoorYTeOTeA
namespace Go.Proofs.YtcgleficedipkaaGreatDoor
section
open Sm (Tree)
namespace Pro
section
variable {L L':List (Int×Int)} {len len':Int} {d:Nat}
end
end Pro
namespace Pro
section
variable {L L':List (Int×Int)} {len len':Int} {d:Nat} {D D':Nat→Out} {DT DT':Nat→Tree}
end
end Pro
namespace Pro
section
variable {L:List (Int×Int)} {len:Int}
variable {D:Nat→Out}
end
end Pro
structure At (T s:ByteArray)(d:Nat):Prop where
 le:d+s.size≤T.size
 eq:∀ k,k<s.size→zd T (d+k)=zd s k
namespace Ref
end Ref
namespace Pro
def lets (s:ByteArray):List (Int×Int):=letM s (s.size+1) 0
end Pro
namespace Pro
section
variable {L L':List (Int×Int)} {len len':Int} {D:Nat→Out} {DT:Nat→Tree}
theorem alt_bad {f n:Nat}{zs:List Int}(hT:(zw L len D n).k=7):(altO L len D (f+1) zs n).k=7:=by
 rw [altO,if_pos (by rw [hT];decide)]
 exact hT
end
def zD (s:ByteArray):Out:=altP (lets s) (s.size:Nat) (zl (lets s) (s.size:Nat) 10) 0
def zE (s:ByteArray):Tree:=altQ (lets s) (s.size:Nat) (zl (lets s) (s.size:Nat) 10) (zH (lets s) (s.size:Nat) 10) 0
structure Reads (s:ByteArray):Prop where
 ch:(Ref.zo s).2<0
 k:(zD s).k=0
 n:(zD s).n=(lets s).length
end Pro
end
section
open Go.RowKit
open Sm (Stp Tree capT)
set_option maxHeartbeats 2000000
set_option maxRecDepth 1000000
theorem Kj (s:ByteArray)(w:World)(t:Tree)(v:Int)(hv:v<300)(ht:Zu t)(hp:wQ s t v w) :
  Calls Tryz.prog 19 #[.string s] w fun x w'=>∃ g pb F W cs,x = .returned (.tuple #[.pointer (some ⟨g,0,none⟩),.int .i64 0,.int .i64 0])∧we w' (fun k=>w.heap.size≤k∧k<w'.heap.size) g pb (Sm.prg F t).2 (Sm.prg F t).1 W cs (min (v+1) 301)∧Sm.WF F t∧Prg.Asks (Sm.prg F t).2 W∧ze (fun _=>False) w w':=by
 have HP:=zc hp
 have HT:=zc ht
 clear hp ht
 go_enter Tryz.func19,Tryz.ntmps19
 go_wp2_with (first |(go_at_call 35;refine (zb HP).mono ?_;rintro e w1 ⟨⟨T,y,F,rfl,hq,hcap⟩,hO1⟩;have HV:=zc hq;have Hcap:=zc hcap;clear hq hcap) |(go_at_call 36;refine (qO F _ _ _ v (by have h9:=(zb HV).size;rw [zb Hcap] at h9;exact h9)).mono ?_;rintro e w3 ⟨rfl,hO3⟩;have HQ:Hid (vJ F w3 w3.heap.size (.iface T y) t):=⟨zA.keep hO3 (fun _ _ f=>f) F _ _ (zb HV) |> zA.mono (fun g hg _=>hg) F _ _,(zb HT F).1,(zb HT F).2.1⟩) |(go_at_call 37;refine (newX F t (.iface T y) _ (zb HQ) ⟨_,_,rfl⟩ (by have:=zb Hcap;omega)).mono ?_;rintro e w4 ⟨pb,W,cs,rfl,hPr,hW,hC1,hC2,hC3,hC4,hO4⟩;have HPr:=zc (⟨hPr.bound,hC1.cutsB,hC2,hC3,hC4⟩:ProgX w4 _ pb _ _ W cs);have HW:=zc (asks_of (zb HT F).2.2 hW);clear hPr hW hC1 hC2 hC3 hC4))
 go_ret3
 have hs1:=hO1.size
 have hs3:=hO3.size
 have hs4:=hO4.size
 have hk:ze (fun _=>False) w4 (w4.alloc (.cells #[.int .i64 (min (v+1) 301),.pointer (some ⟨pb,0,none⟩)] 97)):=(ze.refl _ _).alloc _
 have hX:=zb HPr
 have hz:=yX w4 (.cells #[.int .i64 (min (v+1) 301),.pointer (some ⟨pb,0,none⟩)] 97)
 refine ⟨_,pb,F,W,cs,rfl,⟨⟨by omega,by rw [hz];omega⟩,zm _ _ rfl _ _ 0 _ rfl,zm _ _ rfl _ _ 1 _ rfl,?_,fun k hk=>hk.2⟩,(zb HV).wf,zb HW,((hO1.trans hO3).trans hO4).alloc _⟩
 have h10:=hX.keep hk (fun _ _ f=>f)
 exact ⟨h10.at'.mono (fun k h=>⟨by omega,by rw [hz];omega⟩),h10.cut.mono (fun k h=>⟨by omega,by rw [hz];omega⟩),h10.up,h10.bd,h10.al⟩
structure qD (s:ByteArray):Prop where
 size:s.size≤200
 rd:Pro.Reads s
 v:(Pro.zD s).v<300
structure FailOf (s:ByteArray)(k:Nat)(p:Int):Prop where
 no:¬qD s
 long:200<s.size→k=2∧p=200
 out:s.size≤200→(Ref.zo s).2<0→(Pro.zD s).k≠0→k=(Pro.zD s).k
 big:s.size≤200→Pro.Reads s→k=8∧p=0
theorem pat_is (s:ByteArray):(∃ (k:Nat) (p:Int),1≤k∧k≤8∧FailOf s k p∧∀ (w:World) (a:Nat→Addr),Start w a→JX s a k p w)∨(qD s∧Zu (Pro.zE s)∧∀ (w:World) (a:Nat→Addr),Start w a→wQ s (Pro.zE s) (Pro.zD s).v w):=by
 by_cases hs:s.size≤200
 ·by_cases hc:0≤(Ref.zo s).2
  ·exact .inl ⟨1,(Ref.zo s).2,by decide,by decide,⟨fun h=>by have:=h.rd.ch;omega,fun h=>by omega,fun _ h=>by omega,fun _ h=>by have:=h.ch;omega⟩,fun w a h=>Z8 s w a h.sents h.size hs hc⟩
  ·have hc':(Ref.zo s).2<0:=by omega
   have ho:Pro.altP (Pro.letM s (s.size+1) 0) (s.size:Nat) (Pro.zl (Pro.letM s (s.size+1) 0) (s.size:Nat) 10) 0=Pro.zD s:=rfl
   have hk8:(Pro.zD s).k≤8:=by rw [←ho];exact Pro.altP_k 0
   by_cases hk:(Pro.zD s).k=0
   ·by_cases hn:(Pro.zD s).n=(Pro.letM s (s.size+1) 0).length
    ·have hR:Pro.Reads s:=⟨hc',hk,hn⟩
     by_cases hv:(Pro.zD s).v<300
     ·exact .inr ⟨⟨hs,hR,hv⟩,fun f=>⟨Pro.Yt (jH s _ _) 10 0 f,Pro.Yv (by have:=Pro.qG s (s.size+1) 0;unfold Pro.lets;omega) 10 0 f,Pro.Yu (fun n f=>Pro.wL 10 n f) 0 f⟩,fun w a h=>kD s w a h.sents h.size hs hc' _ rfl _ ho hk hn hv⟩
     ·exact .inl ⟨8,0,by decide,by decide,⟨fun h=>hv h.v,fun h=>by omega,fun _ _ h=>absurd hk h,fun _ _=>⟨rfl,rfl⟩⟩,fun w a h=>Xj s w a h.sents h.size hs hc' _ rfl _ ho hk hn (by omega)⟩
    ·exact .inl ⟨3,Pro.zC (Pro.letM s (s.size+1) 0) (s.size:Nat) (Pro.zD s).n,by decide,by decide,⟨fun h=>hn h.rd.n,fun h=>by omega,fun _ _ h=>absurd hk h,fun _ h=>absurd h.n hn⟩,fun w a h=>Z9 s w a h.sents h.size hs hc' _ rfl _ ho hk hn⟩
   ·exact .inl ⟨(Pro.zD s).k,(Pro.zD s).p,by omega,hk8,⟨fun h=>hk h.rd.k,fun h=>by omega,fun _ _ _=>rfl,fun _ h=>absurd h.k hk⟩,fun w a h=>wt s w a h.sents h.size hs hc' _ rfl _ ho hk⟩
 ·exact .inl ⟨2,200,by decide,by decide,⟨fun h=>hs h.size,fun _=>⟨rfl,rfl⟩,fun h=>absurd h hs,fun h=>absurd h hs⟩,fun w a h=>Z7 s w a h.sents (by omega)⟩
structure PatM (w:World)(A:Nat→Prop)(s:ByteArray)(g pb F:Nat)(W:Int→Bool)(cs:List Int):Prop where
 c:we w A g pb (Sm.prg F (Pro.zE s)).2 (Sm.prg F (Pro.zE s)).1 W cs ((Pro.zD s).v+1)
 wf:Sm.WF F (Pro.zE s)
 ask:Prg.Asks (Sm.prg F (Pro.zE s)).2 W
theorem Qk (s:ByteArray)(w:World)(a:Nat→Addr)(hS:Start w a):Calls Tryz.prog 19 #[.string s] w fun x w'=>ze (fun _=>False) w w'∧((∃ (k:Nat) (p:Int),1≤k∧k≤8∧x = .returned (.tuple #[.pointer none,.int .i64 k,.int .i64 p])∧FailOf s k p)∨(qD s∧∃ g pb F W cs,x = .returned (.tuple #[.pointer (some ⟨g,0,none⟩),.int .i64 0,.int .i64 0])∧PatM w' (fun k=>w.heap.size≤k∧k<w'.heap.size) s g pb F W cs)):=by
 rcases pat_is s with ⟨k,p,k1,k2,ht,h⟩ |⟨hI,ht,h⟩
 ·refine (Zv s w a k p hS k1 k2 (h w a hS)).mono ?_
  rintro x w' ⟨rfl,hO⟩
  exact ⟨hO,.inl ⟨k,p,k1,k2,rfl,ht⟩⟩
 ·refine (Kj s w _ _ hI.v ht (h w a hS)).mono ?_
  rintro x w' ⟨g,pb,F,W,cs,rfl,h1,h2,h3,hO⟩
  have e:min ((Pro.zD s).v+1) 301=(Pro.zD s).v+1:=by have:=hI.v;omega
  rw [e] at h1
  exact ⟨hO,.inr ⟨hI,g,pb,F,W,cs,rfl,h1,h2,h3⟩⟩
theorem Z5 (s:ByteArray)(w:World)(a:Nat→Addr)(hS:Start w a):Calls Tryz.prog 10 #[.string s] w (fun x w'=>ze (fun _=>False) w w'∧((x = .returned (.pointer none)∧∃ k p,FailOf s k p)∨(qD s∧∃ g pb F W cs,x = .returned (.pointer (some ⟨g,0,none⟩))∧PatM w' (fun k=>w.heap.size≤k∧k<w'.heap.size) s g pb F W cs))):=by
 have HC:=zc (Qk s w a hS)
 clear hS
 go_enter Tryz.func10,Tryz.ntmps10
 go_wp2_with (go_at_call 19;refine zb ?_)
 refine zc ?_
 refine (zb HC).mono ?_
 rintro x w1 ⟨hO,⟨k,p,k1,k2,rfl,hf⟩ |⟨hI,g,pb,F,W,cs,rfl,h1⟩⟩
 ·have hk:((k:Int) == 0)=false:=by simp;omega
  have HO:=zc hO
  have HFa:=zc hf
  clear hO hf
  go_wp2_with fail
  go_ret
  exact ⟨zb HO,.inl ⟨rfl,_,_,zb HFa⟩⟩
 ·have HF:=zc (And.intro hO (And.intro hI h1))
  clear hO h1 hI
  go_wp2_with fail
  go_ret
  exact ⟨(zb HF).1,.inr ⟨(zb HF).2.1,g,pb,F,W,cs,rfl,(zb HF).2.2⟩⟩
def Mng (s:ByteArray)(t:Tree)(i j:Nat):Prop:=∃ F,Sm.WF F t∧Sm.M (Ref.lfT (Ref.zo s).1) (Ref.ahT (Ref.zo s).1) F t i j
theorem kh {s:ByteArray}{t:Tree}{F:Nat}(hF:Sm.WF F t){i j:Nat}:Mng s t i j↔Sm.M (Ref.lfT (Ref.zo s).1) (Ref.ahT (Ref.zo s).1) F t i j:=
 ⟨fun ⟨_,hG,h⟩=>(Sm.M_any hG hF i j).2 h,fun h=>⟨F,hF,h⟩⟩
theorem Kk (s:ByteArray){W:Int→Bool}{F:Nat}{t:Tree}(hF:Sm.WF F t)(hA:Prg.Asks (Sm.prg F t).2 W){i j:Nat}(hi:i≤(Pro.letM s (s.size+1) 0).length):Prg.GoP W (Pro.letM s (s.size+1) 0) (Sm.prg F t).2 (Sm.prg F t).1 i 0 j↔Mng s t i j:=
 (Prg.goP_same (Prg.yj.of s) hA hi).trans ((Sm.QT hF i j).trans (kh hF).symm)
end
end Go.Proofs.YtcgleficedipkaaGreatDoor
