/- The assertions of the reader's trees, and of the programs made of them. -/
import Derived.Test.YtfnkbmglodopkaaGreatDoorZSemGSemI
namespace Go.Proofs.YtfnkbmglodopkaaGreatDoor
section
open Sm (Tree Stp)
namespace Pro
def ju:Nat→Tree→Prop
 |0,_=>True
 |f+1,T=>(T.kind=0→0≤T.a∧T.a≤3)∧∀ t∈T.kids,ju f t
section
variable {L:List (Int×Int)} {len:Int}
theorem vq {T:Tree}(h0:T.kind≠0)(hk:T.kids=[]):∀ f,ju f T
 |0=>trivial
 |f+1=>⟨fun e=>absurd e h0,fun t ht=>by rw [hk] at ht;cases ht⟩
theorem Qe {T:Tree}(h0:T.kind≠0)(h:∀ t∈T.kids,∀ f,ju f t):∀ f,ju f T
 |0=>trivial
 |f+1=>⟨fun e=>absurd e h0,fun t ht=>h t ht f⟩
theorem as_asr (n:Nat):∀ f,ju f (tAsr (asV L n))
 |0=>trivial
 |f+1=>⟨fun _=>by
   show 0≤asV L n∧asV L n≤3
   unfold asV
   split
   ·omega
   ·split
    ·omega
    ·split<;>omega,fun t ht=>by simp [tAsr] at ht⟩
theorem Jo {DT:Nat→Tree}(hD:∀ n f,ju f (DT n))(n f:Nat):ju f (xr L len DT n):=by
 unfold xr
 split
 ·exact hD n f
 ·split
  ·exact vq (by simp [xA,tCls]) rfl f
  ·split
   ·unfold oneT
    split
    ·exact vq (by simp [xi]) rfl f
    ·exact vq (by simp [xL]) rfl f
   ·split
    ·exact vq (by simp [tAny]) rfl f
    ·exact vq (by simp [xL]) rfl f
theorem termT_as {D:Nat→Out}{DT:Nat→Tree}(hD:∀ n f,ju f (DT n))(n f:Nat):ju f (qO L len D DT n):=by
 unfold qO
 split
 ·exact as_asr n f
 ·split
  ·exact Jo hD n f
  ·refine Qe (by simp [tRep]) (fun t ht f=>?_) f
   obtain rfl:t=xr L len DT n:=by simpa [tRep] using ht
   exact Jo hD n f
theorem Xq {D:Nat→Out}{DT:Nat→Tree}(hD:∀ n f,ju f (DT n)):∀ (g:Nat) (ts:List Tree) (n:Nat),(∀ t∈ts,∀ f,ju f t)→∀ t∈qi L len D DT g ts n,∀ f,ju f t
 |0,_,_,h=>h
 |g+1,ts,n,h=>by
  unfold qi
  split
  ·exact h
  ·refine Xq hD g _ _ (fun t ht=>?_)
   rcases List.mem_append.1 ht with ht |ht
   ·exact h t ht
   ·obtain rfl:=List.mem_singleton.1 ht
    exact fun f=>termT_as hD n f
theorem Wb {D:Nat→Out}{DT:Nat→Tree}(hD:∀ n f,ju f (DT n))(n f:Nat):ju f (xe L len D DT n):=
 Qe (by simp [xe,tSeq]) (Xq hD _ [] n (by simp)) f
theorem KT {D:Nat→Out}{DT:Nat→Tree}(hD:∀ n f,ju f (DT n)):∀ (g:Nat) (ts:List Tree) (n:Nat),(∀ t∈ts,∀ f,ju f t)→∀ t∈altT L len D DT g ts n,∀ f,ju f t
 |0,_,_,h=>h
 |g+1,ts,n,h=>by
  have h2:∀ t∈ts++[xe L len D DT n],∀ f,ju f t:=fun t ht=>by
   rcases List.mem_append.1 ht with ht |ht
   ·exact h t ht
   ·obtain rfl:=List.mem_singleton.1 ht
    exact fun f=>Wb hD n f
  unfold altT
  split
  ·exact KT hD g _ _ h2
  ·exact h2
theorem Qf {D:Nat→Out}{DT:Nat→Tree}(hD:∀ n f,ju f (DT n))(n f:Nat):ju f (altQ L len D DT n):=
 Qe (by simp [altQ,tAlt]) (KT hD _ [] n (by simp)) f
theorem YC:∀ (r n f:Nat),ju f (xI L len r n)
 |0,_,f=>vq (by simp [xI,tAny]) rfl f
 |r+1,_,f=>Qf (fun n f=>YC r n f) _ f
end
end Pro
namespace Sm
variable {P:Stp→Prop} {B:Tree→Nat→List Stp→Nat×List Stp}
end Sm
end
section
open Go.RowKit
open Sm (Tree)
set_option maxHeartbeats 4000000
set_option maxRecDepth 1000000
theorem Jp (b:Nat)(L:List (Int×Int))(n:Nat)(len dp:Int)(a:Nat→Addr)(w:World)(h:zG w b L n len dp)(hS:zK w a)(hb:10≤b)(hL:L.length≤400)(hn:n<L.length)(hF:Pro.Fit L) :
  Calls Tryz.prog 216 #[.pointer (some ⟨b,0,none⟩)] w fun x w'=>∃ cv,Tells b L len dp a w (Pro.qf L len n) (.iface 211 cv) .nilIface x w'∧((Pro.qf L len n).k=0→qj w' (fun g=>w.heap.size≤g) (.iface 211 cv) (Pro.xA L len n)):=by
 have T:=zb (Trk.start h hS hb)
 have c1:=h.c1
 have f1:=h.f1
 clear h hS
 have hbe:(Pro.behind L (n+1) { data:=#[94] }=n+1∧Pro.ze L (n+1)≠94)∨(Pro.behind L (n+1) { data:=#[94] }=n+2∧Pro.ze L (n+1)=94):=by
  by_cases hneg:Pro.ze L (n+1)=94
  ·right;exact ⟨Pro.vJ (by rw [Pro.zm L (n+1) 94 94 rfl];simp [hneg]),hneg⟩
  ·left;exact ⟨Pro.Zb (by rw [Pro.zm L (n+1) 94 94 rfl];simp [hneg]),hneg⟩
 have hN:n+1≤Pro.behind L (n+1) { data:=#[94] }∧Pro.behind L (n+1) { data:=#[94] }≤L.length:=by
  rcases hbe with ⟨e,_⟩ |⟨e,h1⟩
  ·omega
  ·have:n+1<L.length:=Pro.zr (by omega)
   omega
 have HP:Hid (Pro.qf L len n=Pro.xS L len (L.length+1-n) (Pro.behind L (n+1) { data:=#[94] })):=by
  unfold Pro.qf
  rcases hbe with ⟨e,h1⟩ |⟨e,h1⟩
  ·rw [e,if_neg h1];rfl
  ·rw [e,if_pos h1];rfl
 have HT:Hid (Pro.xA L len n=Pro.tCls (Pro.zn L (n+1) { data:=#[94] }) (Pro.xz L len (L.length+1-n) (Pro.behind L (n+1) { data:=#[94] }) [] []).1 (Pro.xz L len (L.length+1-n) (Pro.behind L (n+1) { data:=#[94] }) [] []).2):=by
  unfold Pro.xA
  rcases hbe with ⟨e,h1⟩ |⟨e,h1⟩
  ·rw [e,if_neg h1,Pro.zm L (n+1) 94 94 rfl];simp [h1,Hid]
  ·rw [e,if_pos h1,Pro.zm L (n+1) 94 94 rfl];simp [h1,Hid]
 clear hbe
 go_enter Tryz.func216,Tryz.ntmps216
 go_wp2_with (go_at_call 93;refine (taken_t (n:=n+1) _ (by exact (za T).setN _ _ (by omega)) hL (by omega) (by decide)).mono ?_;rintro e wq ⟨rfl,tq⟩;have T:=zb tq;have c1:=tq.c1;have f1:=tq.f1)
 generalize hN0:Pro.behind L (n+1) { data:=#[94] }=N0 at *
 generalize Pro.zn L (n+1) { data:=#[94] }=neg at *
 have T1:=zb (za T)
 clear c1 f1
 have hcb:w.heap.size≤wq.heap.size:=(za T1).on.size
 have hC0:z7 (wq.alloc (.cells #[.bool neg,.slice none 0 0,.slice none 0 0] 211)) wq.heap.size neg [] [] (.slice none 0 0) (.slice none 0 0):=
  ⟨zj wq _ rfl _ _ 0 _ rfl,zj wq _ rfl _ _ 1 _ rfl,zj wq _ rfl _ _ 2 _ rfl,World.ownsRow_nil _ _ _ _,World.ownsRow_nil _ _ _ _,zz wq _ rfl _ _ 1,zz wq _ rfl _ _ 2⟩
 have T2:Trk wq.heap.size (wq.alloc (.cells #[.bool neg,.slice none 0 0,.slice none 0 0] 211)) b L N0 len dp a (wq.alloc (.cells #[.bool neg,.slice none 0 0,.slice none 0 0] 211)):=
  have t:=(za T1).calm ((zd.refl _ _).alloc _)
  ⟨t.rd,t.se,zd.refl _ _,t.hb,(za T1).rd.lt,by simp⟩
 generalize hW:wq.alloc (.cells #[.bool neg,.slice none 0 0,.slice none 0 0] 211)=W at *
 have hOW:zd (zo b) w W:=by rw [←hW];exact (Own.to (za T1).on).alloc _
 have HOW:=zb hOW
 have T2:=zb T2
 have HC0:=zb hC0
 clear hC0 hW hOW
 generalize hcbb:wq.heap.size=cb at *
 clear hcbb
 go_loopw [5] (fun _ wr=>∃ (m f:Nat) (R:List (Int×Int)) (S:List Int) (v1 v2:Value),m≤L.length∧R.length≤m∧S.length≤m∧Hid (L.length<m+f)∧Hid (Trk cb W b L m len dp a wr)∧Hid (z7 wr cb neg R S v1 v2)∧Hid (Pro.qf L len n=Pro.xS L len f m)∧Hid (Pro.xA L len n=Pro.tCls neg (Pro.xz L len f m R S).1 (Pro.xz L len f m R S).2)) (fun _ wr=>L.length-rdN wr b)
 case atStart=>exact ⟨N0,L.length+1-n,[],[],_,_,hN.2,by simp,by simp,(by show _<_;omega),T2,HC0,HP,HT⟩
 case round=>
  obtain ⟨m,f,R,S,v1,v2,hm,hR,hS,hf,T,HC,HF,HT⟩:=hrel
  obtain ⟨f,rfl⟩:∃ f',f=f'+1:=⟨f-1,by have:=za hf;omega⟩
  have hrd:=(za T).rdN
  by_cases h93:Pro.ze L m=93
  ·have m1:Pro.zn L m { data:=#[93] }=true:=by rw [Pro.zm L m 93 93 rfl];simp [h93]
   have HO:Hid (Pro.qf L len n=Pro.good 1 (m+1)):=by rw [za HF];simp only [Pro.xS];rw [if_pos h93];rfl
   have HT1:Hid (Pro.xA L len n=Pro.tCls neg R S):=by rw [za HT];simp only [Pro.xz];rw [if_pos h93];rfl
   clear h93
   have T0:=T
   have T:=zb (Trk.start (za T0).rd (za T0).se hb)
   have hbc:=(za T0).lt
   go_wp2_with ((go_at_call 93;refine (qR (n:=m) _ (by exact za T) hL (by omega) (by decide) (by assumption)).mono ?_;rintro e wq ⟨rfl,tq⟩;have tq:Trk _ _ b L ((m)+1) len dp a wq:=tq;have T:=zb tq;have c1:=tq.c1;have f1:=tq.f1);(have hC1:=(za HC).step hbc (za T));(have k0:=hC1.k0);(have k1:=hC1.k1);(have k2:=hC1.k2);(have HC1:=zb hC1);(clear hC1))
   go_ret2
   refine ⟨_,xW (za HO) rfl (Own.back (za HOW) ((za T0).join (za T)).on hcb) (za T).rd,fun _=>?_⟩
   rw [za HT1]
   have hCC:=za HC1
   exact .inr (.inr (.inr (.inr ⟨neg,R,S,v1,v2,rfl,rfl,(Jh hCC.o1 (fun e=>by rw [List.eq_nil_of_length_eq_zero e];rfl)).mono (fun g _ hg=>by omega),(Jh hCC.o2 (fun e=>by rw [List.eq_nil_of_length_eq_zero e];rfl)).mono (fun g _ hg=>by omega)⟩)))
  ·have m1:Pro.zn L m { data:=#[93] }=false:=by rw [Pro.zm L m 93 93 rfl];simp [h93]
   by_cases hend:L.length≤m
   ·have hme:m=L.length:=by omega
    have he:((m:Int) == (L.length:Int))=true:=by simp;omega
    have HO:Hid (Pro.qf L len n=Pro.bad 3 (Pro.zx L len m) m):=by rw [za HF];simp only [Pro.xS];rw [if_neg h93,if_pos hend,Pro.kK hend];rfl
    clear h93
    go_wp2_with (first |(go_at_call 93;refine (yG (n:=m) _ (by exact za T) hL (by omega) (by decide) (by assumption)).mono ?_;rintro e wq ⟨rfl,qq,rfl⟩) |(go_at_call 60;refine (vh (n:=m) (by exact (za T).drewN _)).mono ?_;rintro e wq ⟨rfl,qq,rfl⟩) |(go_at_call 61;refine (wD (n:=m) (by exact (za T).drewN _) hL (by omega)).mono ?_;rintro e wq ⟨v,rfl,hv,tq⟩;have T:=zb tq;have c1:=tq.c1;have f1:=tq.f1))
    go_ret2
    exact ⟨.nilIface,qN (za HO) (by decide) (Own.back (za HOW) (za T).on hcb) (za T).rd (hv.base (za HOW).size),fun e=>by rw [za HO] at e;exact absurd e (show (3:Nat)≠0 by decide)⟩
   ·have he:((m:Int) == (L.length:Int))=false:=by simp;omega
    have hml:m<L.length:=by omega
    have hin:=Pro.Ku (L:=L) (len:=len) m hml
    have hmi:=Pro.vM (L:=L) (len:=len) m hml
    by_cases hk:(Pro.addO L len m).k=0
    ·have HO:Hid (Pro.qf L len n=Pro.xS L len f (Pro.addO L len m).n):=by rw [za HF];simp only [Pro.xS];rw [if_neg h93,if_neg hend,if_neg (by simp [hk])];rfl
     have HT1:Hid (Pro.xA L len n=Pro.tCls neg (Pro.xz L len f (Pro.addO L len m).n (Pro.addR L len m R) (Pro.addS L len m S)).1 (Pro.xz L len f (Pro.addO L len m).n (Pro.addR L len m R) (Pro.addS L len m S)).2):=by rw [za HT];simp only [Pro.xz];rw [if_neg h93];rfl
     clear h93
     go_wp2_with (first |(go_at_call 93;refine (yG (n:=m) _ (by exact za T) hL (by omega) (by decide) (by assumption)).mono ?_;rintro e wq ⟨rfl,qq,rfl⟩) |(go_at_call 60;refine (vh (n:=m) (by exact (za T).drewN _)).mono ?_;rintro e wq ⟨rfl,qq,rfl⟩) |(go_at_call 255;refine (vB b L m len dp a cb W _ neg R S v1 v2 (by exact (za T).drewN _) (by first |exact za HC |exact (za HC).keep ((zd.refl (fun _=>False) _).drewN _) (fun _ _ f=>f) |exact (za HC).keep (((zd.refl (fun _=>False) _).drewN _).drewN _) (fun _ _ f=>f)) hL hml (by omega) hF (by omega) (by omega)).mono ?_;rintro e w9 ⟨tq,hA⟩;obtain ⟨rfl,u1,u2,hC9⟩:=kR hA hk;have T9:=zb tq;have HC9:=zb hC9;clear hA hC9))
     have hR':=Pro.addR_len (L:=L) (len:=len) m R
     have hS':=Pro.addS_len (L:=L) (len:=len) m S
     exact ⟨⟨(Pro.addO L len m).n,f,_,_,u1,u2,hin.2,by omega,by omega,(by have:=za hf;show _<_;omega),T9,HC9,HO,HT1⟩,by rw [(za T9).rdN,hrd];omega⟩
    ·have HO:Hid (Pro.qf L len n=Pro.addO L len m):=by rw [za HF];simp only [Pro.xS];rw [if_neg h93,if_neg hend,if_pos hk];rfl
     clear h93
     go_wp2_with (first |(go_at_call 93;refine (yG (n:=m) _ (by exact za T) hL (by omega) (by decide) (by assumption)).mono ?_;rintro e wq ⟨rfl,qq,rfl⟩) |(go_at_call 60;refine (vh (n:=m) (by exact (za T).drewN _)).mono ?_;rintro e wq ⟨rfl,qq,rfl⟩) |(go_at_call 255;refine (vB b L m len dp a cb W _ neg R S v1 v2 (by exact (za T).drewN _) (by first |exact za HC |exact (za HC).keep ((zd.refl (fun _=>False) _).drewN _) (fun _ _ f=>f) |exact (za HC).keep (((zd.refl (fun _=>False) _).drewN _).drewN _) (fun _ _ f=>f)) hL hml (by omega) hF (by omega) (by omega)).mono ?_;rintro e w9 ⟨tq,hA⟩;obtain ⟨xv,rfl,hv⟩:=XZ hA hk;obtain ⟨gv,hgv⟩:=hv.form;subst hgv;have T9:=zb tq;clear hA))
     go_ret2
     rw [za HO]
     exact ⟨.nilIface,Tells.no hk (Own.back (za HOW) (za T9).on hcb) (za T9).rd (hv.base (za HOW).size),fun e=>absurd e hk⟩
theorem jr (b:Nat)(L:List (Int×Int))(n:Nat)(len dp:Int)(a:Nat→Addr)(w:World)(h:zG w b L n len dp)(hS:zK w a)(hb:10≤b)(hL:L.length≤400)(hn:n≤L.length) :
  Calls Tryz.prog 168 #[.pointer (some ⟨b,0,none⟩)] w fun x w'=>zd (zo b) w w'∧zG w' b L (n+Pro.asN L n) len dp∧((Pro.asN L n≠0∧x = .returned (.tuple #[.int .i64 (Pro.asV L n),.bool true]))∨(Pro.asN L n=0∧x = .returned (.tuple #[.int .i64 0,.bool false]))):=by
 have T:=zb (Trk.start h hS hb)
 clear h hS
 by_cases h1:Pro.ze L n=94
 ·have HA:Hid (Pro.asN L n=1):=by unfold Pro.asN;rw [if_pos (.inl h1)];rfl
  have HV:Hid (Pro.asV L n=0):=by unfold Pro.asV;rw [if_pos h1];rfl
  have m1:Pro.zn L n { data:=#[94] }=true:=by rw [Pro.zm L n 94 94 rfl];simp [h1]
  go_enter Tryz.func168,Tryz.ntmps168
  go_wp2_with (first |(go_at_call 93;refine (qR (n:=n) _ (by exact za T) hL (by omega) (by decide) (by assumption)).mono ?_;rintro e wq ⟨rfl,tq⟩;have tq:Trk _ _ b L ((n)+1) len dp a wq:=tq;have T:=zb tq;have c1:=tq.c1;have f1:=tq.f1))
  go_ret2
  rw [za HA,za HV]
  exact ⟨Own.to (za T).on,(za T).rd,.inl ⟨by decide,rfl⟩⟩
 ·have m1:Pro.zn L n { data:=#[94] }=false:=by rw [Pro.zm L n 94 94 rfl];simp [h1]
  by_cases h2:Pro.ze L n=36
  ·have HA:Hid (Pro.asN L n=1):=by unfold Pro.asN;rw [if_pos (.inr h2)];rfl
   have HV:Hid (Pro.asV L n=1):=by unfold Pro.asV;rw [if_neg h1,if_pos h2];rfl
   have m2:Pro.zn L n { data:=#[36] }=true:=by rw [Pro.zm L n 36 36 rfl];simp [h2]
   go_enter Tryz.func168,Tryz.ntmps168
   go_wp2_with (first |(go_at_call 93;refine (yG (n:=n) _ (by first |exact za T |exact (za T).drewN _) hL (by omega) (by decide) (by assumption)).mono ?_;rintro e wq ⟨rfl,qq,rfl⟩) |(go_at_call 93;refine (qR (n:=n) _ (by exact (za T).drewN _) hL (by omega) (by decide) (by assumption)).mono ?_;rintro e wq ⟨rfl,tq⟩;have tq:Trk _ _ b L ((n)+1) len dp a wq:=tq;have T:=zb tq;have c1:=tq.c1;have f1:=tq.f1))
   go_ret2
   rw [za HA,za HV]
   exact ⟨Own.to (za T).on,(za T).rd,.inl ⟨by decide,rfl⟩⟩
  ·have m2:Pro.zn L n { data:=#[36] }=false:=by rw [Pro.zm L n 36 36 rfl];simp [h2]
   by_cases h3:Pro.ze L n=92∧Pro.ze L (n+1)=98
   ·have HA:Hid (Pro.asN L n=2):=by unfold Pro.asN;rw [if_neg (by omega),if_pos ⟨h3.1,.inl h3.2⟩];rfl
    have HV:Hid (Pro.asV L n=2):=by unfold Pro.asV;rw [if_neg h1,if_neg h2,if_pos h3.2];rfl
    have m3:Pro.zn L n { data:=#[92,98] }=true:=by rw [Pro.yd L n 92 98 92 98 rfl rfl];simp [h3]
    clear h3
    go_enter Tryz.func168,Tryz.ntmps168
    go_wp2_with (first |(go_at_call 93;refine (yG (n:=n) _ (by first |exact za T |exact (za T).drewN _) hL (by omega) (by decide) (by assumption)).mono ?_;rintro e wq ⟨rfl,qq,rfl⟩) |(go_at_call 93;refine (qR (n:=n) _ (by exact (za T).drewN _) hL (by omega) (by decide) (by assumption)).mono ?_;rintro e wq ⟨rfl,tq⟩;have tq:Trk _ _ b L ((n)+2) len dp a wq:=tq;have T:=zb tq;have c1:=tq.c1;have f1:=tq.f1))
    go_ret2
    rw [za HA,za HV]
    exact ⟨Own.to (za T).on,(za T).rd,.inl ⟨by decide,rfl⟩⟩
   ·have m3:Pro.zn L n { data:=#[92,98] }=false:=by rw [Pro.yd L n 92 98 92 98 rfl rfl];simp;omega
    by_cases h4:Pro.ze L n=92∧Pro.ze L (n+1)=66
    ·have HA:Hid (Pro.asN L n=2):=by unfold Pro.asN;rw [if_neg (by omega),if_pos ⟨h4.1,.inr h4.2⟩];rfl
     have HV:Hid (Pro.asV L n=3):=by unfold Pro.asV;rw [if_neg h1,if_neg h2,if_neg (by omega)];rfl
     have m4:Pro.zn L n { data:=#[92,66] }=true:=by rw [Pro.yd L n 92 66 92 66 rfl rfl];simp [h4]
     clear h3 h4
     go_enter Tryz.func168,Tryz.ntmps168
     go_wp2_with (first |(go_at_call 93;refine (yG (n:=n) _ (by first |exact za T |exact (za T).drewN _) hL (by omega) (by decide) (by assumption)).mono ?_;rintro e wq ⟨rfl,qq,rfl⟩) |(go_at_call 93;refine (qR (n:=n) _ (by exact (za T).drewN _) hL (by omega) (by decide) (by assumption)).mono ?_;rintro e wq ⟨rfl,tq⟩;have tq:Trk _ _ b L ((n)+2) len dp a wq:=tq;have T:=zb tq;have c1:=tq.c1;have f1:=tq.f1))
     go_ret2
     rw [za HA,za HV]
     exact ⟨Own.to (za T).on,(za T).rd,.inl ⟨by decide,rfl⟩⟩
    ·have m4:Pro.zn L n { data:=#[92,66] }=false:=by rw [Pro.yd L n 92 66 92 66 rfl rfl];simp;omega
     have HA:Hid (Pro.asN L n=0):=by unfold Pro.asN;rw [if_neg (by omega),if_neg (by omega)];rfl
     clear h3 h4
     go_enter Tryz.func168,Tryz.ntmps168
     go_wp2_with (first |(go_at_call 93;refine (yG (n:=n) _ (by first |exact za T |exact (za T).drewN _) hL (by omega) (by decide) (by assumption)).mono ?_;rintro e wq ⟨rfl,qq,rfl⟩))
     go_ret2
     rw [za HA]
     exact ⟨Own.to ((za T).drewN _).on,((za T).drewN _).rd,.inr ⟨rfl,rfl⟩⟩
def jt (b:Nat)(L:List (Int×Int))(len dp:Int)(a:Nat→Addr)(D:Nat→Pro.Out)(DT:Nat→Tree):Prop:=∀ (n:Nat) (w:World),zG w b L n len dp→zK w a→n<L.length→Calls Tryz.prog 215 #[.pointer (some ⟨b,0,none⟩)] w (yi b L len dp a w (D n) (DT n))
theorem one_leaf (m:Bool)(c:Int):∃ T y,oneV m c = .iface T y∧∀ w A,qj w A (.iface T y) (Pro.oneT m c):=by
 cases m
 ·exact ⟨_,_,rfl,fun w A=>.inr (.inr (.inl ⟨_,rfl,rfl⟩))⟩
 ·exact ⟨_,_,rfl,fun w A=>.inr (.inr (.inr (.inl ⟨_,rfl,rfl⟩)))⟩
theorem YD (b:Nat)(L:List (Int×Int))(n:Nat)(len dp:Int)(a:Nat→Addr)(D:Nat→Pro.Out)(DT:Nat→Tree)(w:World)(h:zG w b L n len dp)(hS:zK w a)(hb:10≤b)(hL:L.length≤400)(hn:n<L.length)(hF:Pro.Fit L)(hG:jt b L len dp a D DT) :
  Calls Tryz.prog 169 #[.pointer (some ⟨b,0,none⟩)] w (yi b L len dp a w (Pro.zT L len D n) (Pro.xr L len DT n)):=by
 have T:=zb (Trk.start h hS hb)
 have HR:=zb h
 have HS:=zb hS
 have c1:=h.c1
 have f1:=h.f1
 have HG:=zb hG
 clear h hS hG
 cases hw:Pro.Yg (Pro.ze L n)
 ·have hq:(Pro.ze L n == 42)=false∧(Pro.ze L n == 43)=false∧(Pro.ze L n == 63)=false∧(Pro.ze L n == 123)=false∧(Pro.ze L n == 125)=false∧(Pro.ze L n == 93)=false:=by
   unfold Pro.Yg at hw;simpa [and_assoc] using hw
  obtain ⟨q1,q2,q3,q4,q5,q6⟩:=hq
  by_cases h40:Pro.ze L n=40
  ·have HO:Hid (Pro.zT L len D n=D n):=by unfold Pro.zT;rw [if_neg (by simp [hw]),if_pos h40];rfl
   have HT:Hid (Pro.xr L len DT n=DT n):=by unfold Pro.xr;rw [if_pos h40];rfl
   have h40':(Pro.ze L n == 40)=true:=by simp [h40]
   clear h40 hw
   go_enter Tryz.func169,Tryz.ntmps169
   go_wp2_with (first |(go_at_call 131;refine (yh (n:=n) (by exact za T) hL (by omega)).mono ?_;rintro e wq ⟨rfl,hwq⟩;obtain rfl:=hwq.symm;clear hwq) |(go_at_call 215;refine (za HG n _ (za HR) (za HS) hn).mono ?_;intro e w1 hg;obtain ⟨p1,p2,rfl⟩:=hg.pair;have Hg:=zb hg;clear hg))
   go_ret2
   rw [za HO,za HT]
   exact za Hg
  ·have h40':(Pro.ze L n == 40)=false:=by simp [h40]
   by_cases h91:Pro.ze L n=91
   ·have HO:Hid (Pro.zT L len D n=Pro.one (Pro.qf L len n)):=by unfold Pro.zT;rw [if_neg (by simp [hw]),if_neg h40,if_pos h91];rfl
    have HT:Hid (Pro.xr L len DT n=Pro.xA L len n):=by unfold Pro.xr;rw [if_neg h40,if_pos h91];rfl
    have h91':(Pro.ze L n == 91)=true:=by simp [h91]
    clear h91 hw h40
    go_enter Tryz.func169,Tryz.ntmps169
    go_wp2_with (first |(go_at_call 131;refine (yh (n:=n) (by exact za T) hL (by omega)).mono ?_;rintro e wq ⟨rfl,hwq⟩;obtain rfl:=hwq.symm;clear hwq) |(go_at_call 216;refine (Jp b L n len dp a _ (za HR) (za HS) hb hL hn hF).mono ?_;rintro e w1 ⟨cv,hc,hlf⟩;have hg:=hc.givesT hlf;obtain ⟨p1,p2,rfl⟩:=hg.pair;have Hg:=zb hg;clear hg hc hlf))
    go_ret2
    rw [za HO,za HT]
    exact za Hg
   ·have h91':(Pro.ze L n == 91)=false:=by simp [h91]
    by_cases h92:Pro.ze L n=92
    ·have HO:Hid (Pro.zT L len D n=Pro.one (Pro.escO L len n)):=by unfold Pro.zT;rw [if_neg (by simp [hw]),if_neg h40,if_neg h91,if_pos h92];rfl
     have HT:Hid (Pro.xr L len DT n=Pro.oneT (Pro.setB (Pro.ze L (n+1))) (Pro.escO L len n).v):=by unfold Pro.xr;rw [if_neg h40,if_neg h91,if_pos h92];rfl
     have h92':(Pro.ze L n == 92)=true:=by simp [h92]
     clear h91 hw h40 h92
     obtain ⟨TT,yy,hy,hlf⟩:=one_leaf (Pro.setB (Pro.ze L (n+1))) (Pro.escO L len n).v
     have Hy:=zb hy
     have Hlf:=zb hlf
     clear hy hlf
     go_enter Tryz.func169,Tryz.ntmps169
     go_wp2_with (first |(go_at_call 131;refine (yh (n:=n) (by exact za T) hL (by omega)).mono ?_;rintro e wq ⟨rfl,hwq⟩;obtain rfl:=hwq.symm;clear hwq) |(go_at_call 217;refine (kN b L n len dp a _ (za HR) (za HS) hb hL hn hF).mono ?_;intro e w1 hc;rw [za Hy] at hc;have hg:=hc.givesT (fun _=>za Hlf _ _);obtain ⟨p1,p2,rfl⟩:=hg.pair;have Hg:=zb hg;clear hg hc))
     go_ret2
     rw [za HO,za HT]
     exact za Hg
    ·have h92':(Pro.ze L n == 92)=false:=by simp [h92]
     have HO:Hid (Pro.zT L len D n=Pro.good 1 (n+1)):=by unfold Pro.zT;rw [if_neg (by simp [hw]),if_neg h40,if_neg h91,if_neg h92];rfl
     have HT1:Hid (Pro.ze L n=46→Pro.xr L len DT n=Pro.tAny):=fun e=>by unfold Pro.xr;rw [if_neg h40,if_neg h91,if_neg h92,if_pos e]
     have HT2:Hid (Pro.ze L n≠46→Pro.xr L len DT n=Pro.xL (Pro.ze L n)):=fun e=>by unfold Pro.xr;rw [if_neg h40,if_neg h91,if_neg h92,if_neg e]
     clear h91 hw h40 h92
     have hdot:(Pro.ze L n == 46)=true∨(Pro.ze L n == 46)=false:=by cases (Pro.ze L n == 46)<;>simp
     rcases hdot with hd |hd
     ·go_enter Tryz.func169,Tryz.ntmps169
      go_wp2_with (first |(go_at_call 131;refine (yh (n:=n) (by exact za T) hL (by omega)).mono ?_;rintro e wq ⟨rfl,hwq⟩;obtain rfl:=hwq.symm;clear hwq))
      go_ret2
      rw [za HT1 (by simpa using hd)]
      exact yi.good (za HO) ((zd.refl _ _).mine _ _) ((za HR).setN _ _ (by omega)) (zu.leaf (.inr (.inl ⟨rfl,rfl⟩)))
     ·go_enter Tryz.func169,Tryz.ntmps169
      go_wp2_with (first |(go_at_call 131;refine (yh (n:=n) (by exact za T) hL (by omega)).mono ?_;rintro e wq ⟨rfl,hwq⟩;obtain rfl:=hwq.symm;clear hwq))
      go_ret2
      rw [za HT2 (by simpa using hd)]
      exact yi.good (za HO) ((zd.refl _ _).mine _ _) ((za HR).setN _ _ (by omega)) (zu.leaf (.inr (.inr (.inl ⟨_,rfl,rfl⟩))))
 ·have HO:Hid (Pro.zT L len D n=Pro.bad 3 (Pro.zx L len n) n):=by unfold Pro.zT;rw [if_pos hw];rfl
  have hq:(Pro.ze L n == 42)=true∨(Pro.ze L n == 42)=false∧((Pro.ze L n == 43)=true∨(Pro.ze L n == 43)=false∧((Pro.ze L n == 63)=true∨(Pro.ze L n == 63)=false∧((Pro.ze L n == 123)=true∨(Pro.ze L n == 123)=false∧((Pro.ze L n == 125)=true∨(Pro.ze L n == 125)=false∧(Pro.ze L n == 93)=true)))):=by
   unfold Pro.Yg at hw
   cases hq1:(Pro.ze L n == 42)<;>cases hq2:(Pro.ze L n == 43)<;>cases hq3:(Pro.ze L n == 63)<;>cases hq4:(Pro.ze L n == 123)<;>cases hq5:(Pro.ze L n == 125)<;>cases hq6:(Pro.ze L n == 93)<;>simp_all
  clear hw
  rcases hq with q1 |⟨q1,q2 |⟨q2,q3 |⟨q3,q4 |⟨q4,q5 |⟨q5,q6⟩⟩⟩⟩⟩
  all_goals
   go_enter Tryz.func169,Tryz.ntmps169
   go_wp2_with (first |(go_at_call 131;refine (yh (n:=n) (by exact za T) hL (by omega)).mono ?_;rintro e wq ⟨rfl,hwq⟩;obtain rfl:=hwq.symm;clear hwq) |(go_at_call 61;refine (wD (n:=n) (by exact za T) hL (by omega)).mono ?_;rintro e wq ⟨v,rfl,hv,tq⟩;have T:=zb tq;have c1:=tq.c1;have f1:=tq.f1))
   go_ret2
   exact yi.bad (za HO) (by decide) (Own.to (za T).on) (za T).rd hv
theorem Quants.givesT {b:Nat}{L:List (Int×Int)}{len dp:Int}{a:Nat→Addr}{w w1 w':World}{T:TypeId}{y:Value}{z t:Tree}{F:Nat}{n:Nat}{x:Ending}{o:Pro.Out}(hlt:b<w.heap.size)(hO:zd (zo b) w w1)(hs:zu F w1 (fun g=>w.heap.size≤g) (.iface T y) z)(h:Quants b L len dp a w1 (.iface T y) (Pro.zC L len n) x w')
  (h0:(Pro.zC L len n).1=false→o.k=0∧t=z∧o.n=(Pro.zC L len n).2.1.n) (h1:(Pro.zC L len n).1=true→(Pro.zC L len n).2.1.k≠0→o=(Pro.zC L len n).2.1)
  (h2:(Pro.zC L len n).1=true→(Pro.zC L len n).2.1.k=0→(∃ v,o=Pro.good v (Pro.wE L (Pro.zC L len n).2.1.n))∧t=Pro.tRep z (Pro.zC L len n).2.1.v (Pro.zC L len n).2.2):yi b L len dp a w o t x w':=by
 obtain ⟨hO',h⟩:=h
 have hs':=zu.keep hO' (A:=fun g=>w.heap.size≤g) (fun g hg e=>by unfold zo at e;subst e;exact absurd hlt (Nat.not_lt.2 hg)) F _ _ hs
 rcases h with ⟨hq,hx,hR⟩ |⟨hq,hk,hx,hR⟩ |⟨hq,hk,hR,v,hx,hv⟩
 ·obtain ⟨e1,e2,e3⟩:=h0 hq
  exact ⟨hO.trans hO',by rw [e3];exact hR,.inl ⟨e1,T,y,F,hx,by rw [e2];exact hs'⟩⟩
 ·subst hx
  obtain ⟨⟨vv,ho⟩,ht⟩:=h2 hq hk
  rw [ht]
  refine yi.good (F:=F+1) ho (hO.trans hO') hR ?_
  have hv:=Pro.QK (L:=L) (len:=len) n hq hk
  exact .inr (.inr (.inr ⟨_,_,_,z,rfl,rfl,hs',hv.1,hv.2.1,hv.2.2.1,hv.2.2.2.1,hv.2.2.2.2⟩))
 ·rw [h1 hq hk]
  exact ⟨hO.trans hO',hR,.inr ⟨hk,v,hx,hv.base hO.size⟩⟩
theorem Quants.pairT {b:Nat}{L:List (Int×Int)}{len dp:Int}{a:Nat→Addr}{w w':World}{p:Value}{o:Bool×Pro.Out×Int}{x:Ending}(h:Quants b L len dp a w p o x w'):∃ p q,x = .returned (.tuple #[p,q]):=by
 obtain ⟨_,⟨_,h,_⟩ |⟨_,_,h,_⟩ |⟨_,_,_,v,h,_⟩⟩:=h
 ·exact ⟨_,_,h⟩
 ·exact ⟨_,_,h⟩
 ·exact ⟨_,_,h⟩
theorem as_noT {k:Nat}{x:Ending}{c:Int}(h:(k≠0∧x = .returned (.tuple #[.int .i64 c,.bool true]))∨(k=0∧x = .returned (.tuple #[.int .i64 0,.bool false])))(hk:k=0):True∧x = .returned (.tuple #[.int .i64 0,.bool false]):=by
 rcases h with ⟨h,_⟩ |⟨_,h⟩
 ·exact absurd hk h
 ·exact ⟨trivial,h⟩
theorem as_yesT {k:Nat}{x:Ending}{c:Int}(h:(k≠0∧x = .returned (.tuple #[.int .i64 c,.bool true]))∨(k=0∧x = .returned (.tuple #[.int .i64 0,.bool false])))(hk:k≠0):True∧x = .returned (.tuple #[.int .i64 c,.bool true]):=by
 rcases h with ⟨_,h⟩ |⟨h,_⟩
 ·exact ⟨trivial,h⟩
 ·exact absurd h hk
theorem Xr (b:Nat)(L:List (Int×Int))(n:Nat)(len dp:Int)(a:Nat→Addr)(D:Nat→Pro.Out)(DT:Nat→Tree)(w:World)(h:zG w b L n len dp)(hS:zK w a)(hb:10≤b)(hL:L.length≤400)(hn:n<L.length)(hF:Pro.Fit L)(hG:jt b L len dp a D DT)(hD:Pro.DOK L D) :
  Calls Tryz.prog 132 #[.pointer (some ⟨b,0,none⟩)] w (yi b L len dp a w (Pro.yB L len D n) (Pro.qO L len D DT n)):=by
 have hlt:=h.lt
 have HR:=zb h
 have HS:=zb hS
 have HG:=zb hG
 have HD:=zb hD
 clear h hS hG hD
 by_cases has:Pro.asN L n=0
 ·have hin:=Pro.QJ (len:=len) (za HD) n hn
  by_cases hk:(Pro.zT L len D n).k=0
  ·go_enter Tryz.func132,Tryz.ntmps132
   go_wp2_with (first
    |(go_at_call 168;refine (jr b L n len dp a _ (za HR) (za HS) hb hL (by omega)).mono ?_;rintro e w1 ⟨hO1,hR1,hT1⟩;rw [has] at hR1;obtain ⟨_,rfl⟩:=as_noT hT1 has;clear hT1;have HR1:=zb hR1;have HS1:=zb ((za HS).mine hO1 hb);have HO1:=zb hO1;clear hR1 hO1)
    |(go_at_call 169;refine (YD b L n len dp a D DT _ (za HR1) (za HS1) hb hL hn hF (za HG)).mono ?_;intro e w2 hg;obtain ⟨T2,y2,F2,rfl,hs2,hO2,hR2⟩:=xB (hg.after (za HO1)) hk;have Hs2:=zb hs2;have HO2:=zb hO2;have HR2:=zb hR2;have HS2:=zb ((za HS).mine hO2 hb);clear hg hs2 hO2 hR2)
    |(go_at_call 170;refine (Yv b L (Pro.zT L len D n).n len dp a _ T2 y2 (za HR2) (za HS2) hb hL hin.2.1 hF).mono ?_;intro e w3 hq;obtain ⟨p1,p2,rfl⟩:=hq.pairT;have Hq:=zb hq;clear hq))
   go_ret2
   refine (za Hq).givesT hlt (za HO2) (za Hs2) ?_ ?_ ?_
   ·intro hq0
    have hqn:=(Pro.Y6 (L:=L) (len:=len) (Pro.zT L len D n).n hin.2.1).2.2 hq0
    unfold Pro.yB
    rw [if_neg (by simp [has]),if_neg (by simp [hk]),if_pos hq0,hqn]
    refine ⟨hk,?_,rfl⟩
    unfold Pro.qO
    rw [if_neg (by simp [has]),if_pos hq0]
   ·intro hq1 hk2
    unfold Pro.yB
    rw [if_neg (by simp [has]),if_neg (by simp [hk]),if_neg (by simp [hq1]),if_pos hk2]
   ·intro hq1 hk2
    unfold Pro.yB
    rw [if_neg (by simp [has]),if_neg (by simp [hk]),if_neg (by simp [hq1]),if_neg (by simp [hk2])]
    refine ⟨⟨_,rfl⟩,?_⟩
    unfold Pro.qO
    rw [if_neg (by simp [has]),if_neg (by simp [hq1])]
  ·have HO:Hid (Pro.yB L len D n=Pro.zT L len D n):=by unfold Pro.yB;rw [if_neg (by simp [has]),if_pos hk];rfl
   go_enter Tryz.func132,Tryz.ntmps132
   go_wp2_with (first
    |(go_at_call 168;refine (jr b L n len dp a _ (za HR) (za HS) hb hL (by omega)).mono ?_;rintro e w1 ⟨hO1,hR1,hT1⟩;rw [has] at hR1;obtain ⟨_,rfl⟩:=as_noT hT1 has;clear hT1;have HR1:=zb hR1;have HS1:=zb ((za HS).mine hO1 hb);have HO1:=zb hO1;clear hR1 hO1)
    |(go_at_call 169;refine (YD b L n len dp a D DT _ (za HR1) (za HS1) hb hL hn hF (za HG)).mono ?_;intro e w2 hg;obtain ⟨g2,rfl,hv2,hO2,hR2⟩:=vo (hg.after (za HO1)) hk;have Hv2:=zb hv2;have HO2:=zb hO2;have HR2:=zb hR2;clear hg hv2 hO2 hR2))
   go_ret2
   rw [za HO]
   exact ⟨za HO2,za HR2,.inr ⟨hk,_,rfl,za Hv2⟩⟩
 ·have HO:Hid (Pro.yB L len D n=Pro.good 1 (n+Pro.asN L n)):=by unfold Pro.yB;rw [if_pos has];rfl
  go_enter Tryz.func132,Tryz.ntmps132
  go_wp2_with (go_at_call 168;refine (jr b L n len dp a _ (za HR) (za HS) hb hL (by omega)).mono ?_;rintro e w1 ⟨hO1,hR1,hT1⟩;obtain ⟨_,rfl⟩:=as_yesT hT1 has;clear hT1;have HR1:=zb hR1;have HO1:=zb hO1;clear hR1 hO1)
  go_ret2
  have ht:Pro.qO L len D DT n=Pro.tAsr (Pro.asV L n):=by unfold Pro.qO;rw [if_pos has]
  rw [ht]
  exact yi.good (za HO) (za HO1) (za HR1) (zu.leaf (.inl ⟨_,rfl,rfl⟩))
def km (base:Nat)(sv:Value)(g:Nat):Prop:=base≤g∧sv.ownBlock≠some g
theorem Xs {b base:Nat}{wr w3 W w4:World}{sv sv' x:Value}{T:TypeId}{xs:List Value}{zs:List Tree}{z:Tree}{F G:Nat}(hbase:base≤wr.heap.size)(hbl:b<base)(hown:wr.ownsRow base T 1 sv xs.length xs)(hsz:qk F wr (km base sv) xs zs)(hO:zd (zo b) wr w3)(hx:zu G w3 (fun g=>wr.heap.size≤g) x z)
  (hW:zd (fun _=>False) w3 W) (hg:W.grownBy w4 sv.ownBlock) (hsep:∀ k,sv'.ownBlock=some k→sv.ownBlock=some k∨W.heap.size≤k):qk (max F G) w4 (km base sv') (xs++[x]) (zs++[z]):=by
 have h1:qk F w3 (km base sv) xs zs:=hsz.keep hO (fun g hg e=>by unfold zo at e;have:=hg.1;omega)
 have hx1:zu G w3 (km base sv) x z:=zu.mono (fun g _ hg=>⟨Nat.le_trans hbase hg,fun e=>by have:=(zg hown g e).2;omega⟩) G x z hx
 have h2:=(h1.append hx1).keep hW (fun _ _ f=>f)
 have h3:qk (max F G) W (fun g=>km base sv g∧g<W.heap.size) (xs++[x]) (zs++[z]):=h2.mono (fun g hl hg=>⟨hg,hl⟩)
 have h4:=h3.keep (zd.ofGrown hg) (fun g hg e=>hg.1.2 e)
 exact h4.mono (fun g _ hg=>⟨hg.1.1,fun e=>by
  rcases hsep g e with h |h
  ·exact hg.1.2 h
  ·have:=hg.2;omega⟩)
theorem KU {base:Nat}{w:World}{T:TypeId}{sv:Value}{xs:List Value}(h:w.ownsRow base T 1 sv xs.length xs):jB w (fun g=>base≤g) sv xs:=by
 have hl:=zg h
 have hc:=@World.ownsRow.cells w base T 1 sv xs.length xs h
 rcases h.2 with ⟨rfl,h0⟩ |⟨g,cap,cur,rfl,hb,hg,hn,_⟩
 ·exact .inl ⟨rfl,List.eq_nil_of_length_eq_zero h0⟩
 ·exact .inr ⟨g,cap,rfl,hb,hn,(hl g rfl).2,fun j x hj=>by
   have:=hc (g:=g) rfl j x hj
   have e:(⟨g,0,none⟩:Addr).add j=⟨g,j,none⟩:=by unfold Addr.add;split<;>simp_all
   rw [e] at this;exact this⟩
theorem Tryz.infoPtT:(Tryz.prog.info? 70).map (fun i=>(i.zero,i.size,i.bytes))=some (some .nilIface,1,16):=by kernel_rfl
theorem vU (b:Nat)(L:List (Int×Int))(n:Nat)(len dp:Int)(a:Nat→Addr)(D:Nat→Pro.Out)(DT:Nat→Tree)(w:World)(h:zG w b L n len dp)(hS:zK w a)(hb:10≤b)(hL:L.length≤400)(hn:n≤L.length)(hF:Pro.Fit L)(hG:jt b L len dp a D DT)(hD:Pro.DOK L D) :
  Calls Tryz.prog 92 #[.pointer (some ⟨b,0,none⟩)] w (yi b L len dp a w (Pro.zH L len D n) (Pro.xe L len D DT n)):=by
 obtain ⟨i0,hi,hz0,hz1,hz2⟩:=info_parts Tryz.infoPtT
 have hlt:=h.lt
 have HS:=zb hS
 have HG:=zb hG
 have HD:=zb hD
 clear hS hG hD
 go_enter Tryz.func92,Tryz.ntmps92
 go_wp2_with fail
 go_loopw [4] (fun sv wr=>∃ (m f F:Nat) (sz:Int) (xs:List Value) (zs:List Tree),m≤L.length∧xs.length≤m∧Hid (L.length<m+f)∧Hid (zG wr b L m len dp)∧Hid (zd (zo b) w wr)∧Hid (wr.ownsRow w.heap.size 70 1 sv xs.length xs)∧Hid (qk F wr (km w.heap.size sv) xs zs)∧Hid (Pro.zH L len D n=Pro.xg L len D f sz m)∧Hid (Pro.xe L len D DT n=Pro.tSeq (Pro.qi L len D DT f zs m))) (fun _ wr=>L.length-rdN wr b)
 case atStart=>exact ⟨n,L.length+1-n,0,0,[],[],hn,by simp,(by show _<_;omega),h,zd.refl _ _,World.ownsRow_nil _ _ _ _,⟨rfl,fun j x z hx=>by simp at hx⟩,rfl,rfl⟩
 case round=>
  obtain ⟨m,f,F,sz,xs,zs,hm,hxl,hf,HR,HO,Hown,Hsz,HF,HT⟩:=hrel
  obtain ⟨f,rfl⟩:∃ f',f=f'+1:=⟨f-1,by have:=za hf;omega⟩
  have T:=zb (Trk.start (za HR) ((za HS).mine (za HO) hb) hb)
  have hrd:=(za T).rdN
  cases hst:Pro.wl L m
  ·have hml:m<L.length:=by unfold Pro.wl at hst;simp at hst;omega
   have he:((m:Int) == (L.length:Int))=false:=by simp;omega
   have hp1:(Pro.ze L m != 124)=true:=by unfold Pro.wl at hst;simp at hst ⊢;omega
   have hp2:(Pro.ze L m != 41)=true:=by unfold Pro.wl at hst;simp at hst ⊢;omega
   have hin:=Pro.QL (len:=len) (za HD) m hml
   by_cases hk:(Pro.yB L len D m).k=0
   ·have HO1:Hid (Pro.zH L len D n=Pro.xg L len D f (min (sz+(Pro.yB L len D m).v) 301) (Pro.yB L len D m).n):=by rw [za HF];simp only [Pro.xg];rw [if_neg (by simp [hst]),if_neg (by simp [hk])];rfl
    have HT1:Hid (Pro.xe L len D DT n=Pro.tSeq (Pro.qi L len D DT f (zs++[Pro.qO L len D DT m]) (Pro.yB L len D m).n)):=by rw [za HT];simp only [Pro.qi];rw [if_neg (by simp [hst])];rfl
    obtain ⟨sa,sn,sc,rfl⟩:=zp (za Hown)
    go_wp2_with (first
     |(go_at_call 60;refine (vh (n:=m) (by exact za T)).mono ?_;rintro e wq ⟨rfl,qq,rfl⟩)
     |(go_at_call 131;refine (yh (n:=m) (by exact (za T).drewN _) hL (by omega)).mono ?_;rintro e wq ⟨rfl,hwq⟩;obtain rfl:=hwq.symm;clear hwq)
     |(go_at_call 132;refine (Xr b L m len dp a D DT _ (Trk.rd (n:=m) (by exact (za T).drewN _)) (Trk.se (n:=m) (by exact (za T).drewN _)) hb hL hml hF (za HG) (za HD)).mono ?_;intro e w3 hg;obtain ⟨T3,y3,F3,rfl,hs3,hO3,hR3⟩:=xB hg hk;have hO3:zd (zo b) wr w3:=((zd.refl (zo b) wr).drewN _).trans hO3;have Hs3:Hid (zu F3 w3 (fun g=>wr.heap.size≤g) (.iface T3 y3) (Pro.qO L len D DT m)):=hs3;have HO3:=zb hO3;have HR3:=zb hR3;have hsz3:=hO3.size;have Hown3:=zb (zk (za Hown) hO3 (fun g hg e=>by unfold zo at e;have:=(zg (za Hown) g hg).1;omega));clear hg hs3 hO3 hR3)
     |(at_builtin;refine xQ _ rfl _ _ 213 rfl w.heap.size 70 i0 .nilIface 1 16 Tryz.underlying213 hi hz0 hz1 hz2 rfl (by decide) _ _ xs rfl (World.ownsRow.alloc (za Hown3) _) _ 1 1 [.iface T3 y3] rfl rfl (cell_one_new _ _ _) (fun x hx=>by simp at hx;subst hx;rfl) (by unfold maxLen;omega) (by omega) (by simp;have:=(za HO).size;omega) ?_;intro v' w4 hown' hgrow hsep;have Hown4:=zb hown';have Hgr:=zb hgrow;have Hsep:=zb hsep;clear hown' hgrow hsep))
    have hszw:=(za HO).size
    have hO4:zd (zo b) w w4:=(((za HO).trans (za HO3)).alloc _).grown (za Hgr) (fun j hj=>Or.inr (zg (za Hown) j hj).1)
    have hnb:∀ g,g≤b→¬((Value.slice sa sn sc).ownBlock=some g):=fun g hg e=>by have:=(zg (za Hown) g e).1;omega
    have hR4:zG w4 b L (Pro.yB L len D m).n len dp:=((za HR3).keep ((zd.refl (fun _=>False) w3).alloc _) (fun f=>f) (fun _ _ f=>f)).keep (zd.ofGrown (za Hgr)) (hnb b (Nat.le_refl _)) (fun g hg=>hnb g (by omega))
    have T4:=Trk.start hR4 ((za HS).mine hO4 hb) hb
    refine ⟨⟨(Pro.yB L len D m).n,f,max F F3,_,xs++[.iface T3 y3],zs++[Pro.qO L len D DT m],hin.2.1,by have:=(hin.2.2 hk).1;simp;omega,(by have:=(hin.2.2 hk).1;have:=za hf;show _<_;omega),hR4,hO4,(by show World.ownsRow _ _ _ _ _ _ _;rw [List.length_append];exact za Hown4),Xs hszw hlt (za Hown) (za Hsz) (za HO3) (za Hs3) ((zd.refl _ _).alloc _) (za Hgr) (za Hsep),HO1,HT1⟩,by rw [T4.rdN,hrd];have:=(hin.2.2 hk).1;omega⟩
   ·have HO1:Hid (Pro.zH L len D n=Pro.yB L len D m):=by rw [za HF];simp only [Pro.xg];rw [if_neg (by simp [hst]),if_pos hk];rfl
    go_wp2_with (first
     |(go_at_call 60;refine (vh (n:=m) (by exact za T)).mono ?_;rintro e wq ⟨rfl,qq,rfl⟩)
     |(go_at_call 131;refine (yh (n:=m) (by exact (za T).drewN _) hL (by omega)).mono ?_;rintro e wq ⟨rfl,hwq⟩;obtain rfl:=hwq.symm;clear hwq)
     |(go_at_call 132;refine (Xr b L m len dp a D DT _ (Trk.rd (n:=m) (by exact (za T).drewN _)) (Trk.se (n:=m) (by exact (za T).drewN _)) hb hL hml hF (za HG) (za HD)).mono ?_;intro e w3 hg;obtain ⟨g3,rfl,hv3,hO3,hR3⟩:=vo hg hk;have Hv3:=zb hv3;have HO3:=zb hO3;have HR3:=zb hR3;clear hg hv3 hO3 hR3))
    go_ret2
    rw [za HO1]
    have hO3:zd (zo b) w w3:=((za HO).drewN _).trans (za HO3)
    exact ⟨hO3,za HR3,.inr ⟨hk,_,rfl,(za Hv3).base (za HO).size⟩⟩
  ·have HO1:Hid (Pro.zH L len D n=Pro.good sz m):=by rw [za HF];simp only [Pro.xg];rw [if_pos hst];rfl
   have HT1:Hid (Pro.xe L len D DT n=Pro.tSeq zs):=by rw [za HT];simp only [Pro.qi];rw [if_pos hst];rfl
   have hcs:((m:Int) == (L.length:Int))=true∨(((m:Int) == (L.length:Int))=false∧(Pro.ze L m != 124)=false)∨(((m:Int) == (L.length:Int))=false∧(Pro.ze L m != 124)=true∧(Pro.ze L m != 41)=false):=by
    by_cases h1:m=L.length
    ·left;simp [h1]
    ·right
     by_cases h2:Pro.ze L m=124
     ·left;exact ⟨by simp;omega,by simp [h2]⟩
     ·right;exact ⟨by simp;omega,by simp [h2],by unfold Pro.wl at hst;simp at hst ⊢;omega⟩
   rcases hcs with k1 |⟨k1,k2⟩ |⟨k1,k2,k3⟩
   all_goals
    go_wp2_with (first |(go_at_call 60;refine (vh (n:=m) (by exact za T)).mono ?_;rintro e wq ⟨rfl,qq,rfl⟩) |(go_at_call 131;refine (yh (n:=m) (by exact (za T).drewN _) hL (by omega)).mono ?_;rintro e wq ⟨rfl,hwq⟩;obtain rfl:=hwq.symm;clear hwq))
    go_ret2
    have hsz:=(za Hsz).mono (B:=fun g=>w.heap.size≤g) (fun g _ hg=>hg.1)
    rw [za HT1]
    refine yi.good (F:=F+1) (za HO1) ((za HO).drewN _) ((za HR).drewN _) ?_
    exact .inr (.inr (.inl ⟨_,xs,zs,rfl,rfl,(KU (za Hown)).keep ((zd.refl (fun _=>False) _).drewN _) (fun _ _ f=>f),by omega,hsz.1,fun j x z' hx hz=>zu.keep ((zd.refl (fun _=>False) _).drewN _) (fun _ _ f=>f) F x z' (hsz.2 j x z' hx hz)⟩))
theorem Xt {b:Nat}{L:List (Int×Int)}{len dp:Int}{a:Nat→Addr}{w wr w3 W w4:World}{sv sv' x:Value}{T:TypeId}{xs:List Value}{zs:List Tree}{z:Tree}{F G m:Nat}(hlt:b<w.heap.size)(_hb:10≤b)(_hS:zK w a)(hO:zd (zo b) w wr)(hown:wr.ownsRow w.heap.size T 1 sv xs.length xs)(hsz:qk F wr (km w.heap.size sv) xs zs)(hO3:zd (zo b) wr w3)(hR3:zG w3 b L m len dp)(hx:zu G w3 (fun g=>wr.heap.size≤g) x z)
  (hW:zd (fun _=>False) w3 W) (hg:W.grownBy w4 sv.ownBlock) (hsep:∀ k,sv'.ownBlock=some k→sv.ownBlock=some k∨W.heap.size≤k):zd (zo b) w w4∧zG w4 b L m len dp∧qk (max F G) w4 (km w.heap.size sv') (xs++[x]) (zs++[z]):=by
 have hnb:∀ g,g≤b→¬(sv.ownBlock=some g):=fun g hg e=>by have:=(zg hown g e).1;omega
 refine ⟨(((hO.trans hO3).trans (hW.mono (fun _ _ f=>f.elim)))).grown hg (fun j hj=>Or.inr (zg hown j hj).1),(hR3.keep hW (fun f=>f) (fun _ _ f=>f)).keep (zd.ofGrown hg) (hnb b (Nat.le_refl _)) (fun g hg=>hnb g (by omega)),Xs hO.size hlt hown hsz hO3 hx hW hg hsep⟩
theorem jK (b:Nat)(L:List (Int×Int))(n:Nat)(len dp:Int)(a:Nat→Addr)(D:Nat→Pro.Out)(DT:Nat→Tree)(w:World)(h:zG w b L n len dp)(hS:zK w a)(hb:10≤b)(hL:L.length≤400)(hn:n≤L.length)(hF:Pro.Fit L)(hG:jt b L len dp a D DT)(hD:Pro.DOK L D) :
  Calls Tryz.prog 59 #[.pointer (some ⟨b,0,none⟩)] w (yi b L len dp a w (Pro.altP L len D n) (Pro.altQ L len D DT n)):=by
 obtain ⟨i0,hi,hz0,hz1,hz2⟩:=info_parts Tryz.infoPtT
 have hlt:=h.lt
 have HS:=zb hS
 have HG:=zb hG
 have HD:=zb hD
 clear hS hG hD
 go_enter Tryz.func59,Tryz.ntmps59
 go_wp2_with fail
 go_loopw [4] (fun sv wr=>∃ (m f F:Nat) (ys:List Int) (xs:List Value) (zs:List Tree),m≤L.length∧xs.length≤m∧Hid (L.length<m+f)∧Hid (zG wr b L m len dp)∧Hid (zd (zo b) w wr)∧Hid (wr.ownsRow w.heap.size 70 1 sv xs.length xs)∧Hid (qk F wr (km w.heap.size sv) xs zs)∧Hid (Pro.altP L len D n=Pro.altO L len D f ys m)∧Hid (Pro.altQ L len D DT n=Pro.tAlt (Pro.altT L len D DT f zs m))) (fun _ wr=>L.length-rdN wr b)
 case atStart=>exact ⟨n,L.length+1-n,0,[],[],[],hn,by simp,(by show _<_;omega),h,zd.refl _ _,World.ownsRow_nil _ _ _ _,⟨rfl,fun j x z hx=>by simp at hx⟩,rfl,rfl⟩
 case round=>
  obtain ⟨m,f,F,ys,xs,zs,hm,hxl,hf,HR,HO,Hown,Hsz,HF,HT⟩:=hrel
  obtain ⟨f,rfl⟩:∃ f',f=f'+1:=⟨f-1,by have:=za hf;omega⟩
  have hrd:=(Trk.start (za HR) ((za HS).mine (za HO) hb) hb).rdN
  have hin:=Pro.wU (len:=len) (za HD) m hm
  by_cases hk:(Pro.zH L len D m).k=0
  ·obtain ⟨sa,sn,sc,rfl⟩:=zp (za Hown)
   by_cases hbar:Pro.ze L (Pro.zH L len D m).n=124
   ·have m1:Pro.zn L (Pro.zH L len D m).n { data:=#[124] }=true:=by rw [Pro.zm L _ 124 124 rfl];simp [hbar]
    have hlt2:=Pro.zr (L:=L) (n:=(Pro.zH L len D m).n) (by omega)
    have HO1:Hid (Pro.altP L len D n=Pro.altO L len D f (ys++[(Pro.zH L len D m).v]) ((Pro.zH L len D m).n+1)):=by rw [za HF];simp only [Pro.altO];rw [if_neg (by simp [hk]),if_pos hbar];rfl
    have HT1:Hid (Pro.altQ L len D DT n=Pro.tAlt (Pro.altT L len D DT f (zs++[Pro.xe L len D DT m]) ((Pro.zH L len D m).n+1))):=by rw [za HT];simp only [Pro.altT];rw [if_pos hbar];rfl
    clear hbar
    go_wp2_with (first
     |(go_at_call 92;refine (vU b L m len dp a D DT _ (za HR) ((za HS).mine (za HO) hb) hb hL hm hF (za HG) (za HD)).mono ?_;intro e w3 hg;obtain ⟨T3,y3,F3,rfl,hs3,hO3,hR3⟩:=xB hg hk;have Hs3:=zb hs3;have HO3:=zb hO3;have HR3:=zb hR3;have hsz3:=hO3.size;have Hown3:=zb (zk (za Hown) hO3 (fun g hg e=>by unfold zo at e;have:=(zg (za Hown) g hg).1;omega));clear hg hs3 hO3 hR3)
     |(at_builtin;refine xQ _ rfl _ _ 189 rfl w.heap.size 70 i0 .nilIface 1 16 Tryz.underlying189 hi hz0 hz1 hz2 rfl (by decide) _ _ xs rfl (World.ownsRow.alloc (za Hown3) _) _ 1 1 [.iface T3 y3] rfl rfl (cell_one_new _ _ _) (fun x hx=>by simp at hx;subst hx;rfl) (by unfold maxLen;omega) (by omega) (by simp;have:=(za HO).size;omega) ?_;intro v' w4 hown' hgrow hsep;have hG4:=Xt hlt hb (za HS) (za HO) (za Hown) (za Hsz) (za HO3) (za HR3) (za Hs3) ((zd.refl _ _).alloc _) hgrow hsep;obtain ⟨hO4,hR4,hsz4⟩:=hG4;have T:=zb (Trk.start hR4 ((za HS).mine hO4 hb) hb);have HO4:=zb hO4;have Hsz4:=zb hsz4;have Hown4:=zb hown';clear hown' hgrow hsep hO4 hR4 hsz4)
     |(go_at_call 93;refine (qR (n:=(Pro.zH L len D m).n) _ (by exact za T) hL (by omega) (by decide) (by assumption)).mono ?_;rintro e wq ⟨rfl,tq⟩;have tq:Trk _ _ b L (((Pro.zH L len D m).n)+1) len dp a wq:=tq;have T:=zb tq;have c1:=tq.c1;have f1:=tq.f1))
    have hk4:=Own.to (za T).on
    have hown5:wq.ownsRow w.heap.size 70 1 v' (xs.length+1) (xs++[.iface T3 y3]):=zk (za Hown4) hk4 (fun g hg e=>by unfold zo at e;have:=(zg (za Hown4) g hg).1;omega)
    exact ⟨⟨(Pro.zH L len D m).n+1,f,max F F3,_,xs++[Value.iface T3 y3],zs++[Pro.xe L len D DT m],by omega,by simp;omega,(by have:=za hf;show _<_;omega),(za T).rd,(za HO4).trans hk4,(by show World.ownsRow _ _ _ _ _ _ _;rw [List.length_append];exact hown5),zb ((za Hsz4).keep hk4 (fun g hg e=>by unfold zo at e;have:=hg.1;omega)),HO1,HT1⟩,by rw [(za T).rdN,hrd];omega⟩
   ·have m1:Pro.zn L (Pro.zH L len D m).n { data:=#[124] }=false:=by rw [Pro.zm L _ 124 124 rfl];simp [hbar]
    have HO1:Hid (Pro.altP L len D n=Pro.good (min (Pro.sumS 0 (ys++[(Pro.zH L len D m).v])+((ys.length:Int)+1)-1) 301) (Pro.zH L len D m).n):=by rw [za HF];simp only [Pro.altO];rw [if_neg (by simp [hk]),if_neg hbar];rfl
    have HT1:Hid (Pro.altQ L len D DT n=Pro.tAlt (zs++[Pro.xe L len D DT m])):=by rw [za HT];simp only [Pro.altT];rw [if_neg hbar];rfl
    clear hbar
    go_wp2_with (first
     |(go_at_call 92;refine (vU b L m len dp a D DT _ (za HR) ((za HS).mine (za HO) hb) hb hL hm hF (za HG) (za HD)).mono ?_;intro e w3 hg;obtain ⟨T3,y3,F3,rfl,hs3,hO3,hR3⟩:=xB hg hk;have Hs3:=zb hs3;have HO3:=zb hO3;have HR3:=zb hR3;have hsz3:=hO3.size;have Hown3:=zb (zk (za Hown) hO3 (fun g hg e=>by unfold zo at e;have:=(zg (za Hown) g hg).1;omega));clear hg hs3 hO3 hR3)
     |(at_builtin;refine xQ _ rfl _ _ 189 rfl w.heap.size 70 i0 .nilIface 1 16 Tryz.underlying189 hi hz0 hz1 hz2 rfl (by decide) _ _ xs rfl (World.ownsRow.alloc (za Hown3) _) _ 1 1 [.iface T3 y3] rfl rfl (cell_one_new _ _ _) (fun x hx=>by simp at hx;subst hx;rfl) (by unfold maxLen;omega) (by omega) (by simp;have:=(za HO).size;omega) ?_;intro v' w4 hown' hgrow hsep;have hG4:=Xt hlt hb (za HS) (za HO) (za Hown) (za Hsz) (za HO3) (za HR3) (za Hs3) ((zd.refl _ _).alloc _) hgrow hsep;obtain ⟨hO4,hR4,hsz4⟩:=hG4;have T:=zb (Trk.start hR4 ((za HS).mine hO4 hb) hb);have HO4:=zb hO4;have Hsz4:=zb hsz4;have Hown4:=zb hown';clear hown' hgrow hsep hO4 hR4 hsz4)
     |(go_at_call 93;refine (yG (n:=(Pro.zH L len D m).n) _ (by exact za T) hL (by omega) (by decide) (by assumption)).mono ?_;rintro e wq ⟨rfl,qq,rfl⟩))
    go_ret2
    have hsz:=(za Hsz4).mono (B:=fun g=>w.heap.size≤g) (fun g _ hg=>hg.1)
    have hown5:w4.ownsRow w.heap.size 70 1 v' (xs++[Value.iface T3 y3]).length (xs++[Value.iface T3 y3]):=by rw [List.length_append];exact za Hown4
    rw [za HT1]
    refine yi.good (F:=max F F3+1) (za HO1) ((za HO4).drewN _) ((za T).rd.drewN _) ?_
    exact .inr (.inl ⟨_,xs++[.iface T3 y3],zs++[Pro.xe L len D DT m],rfl,rfl,(KU hown5).keep ((zd.refl (fun _=>False) _).drewN _) (fun _ _ f=>f),by simp;omega,hsz.1,fun j x z' hx hz=>zu.keep ((zd.refl (fun _=>False) _).drewN _) (fun _ _ f=>f) _ x z' (hsz.2 j x z' hx hz),by simp⟩)
  ·have HO1:Hid (Pro.altP L len D n=Pro.zH L len D m):=by rw [za HF];simp only [Pro.altO];rw [if_pos hk];rfl
   go_wp2_with (first
    |(go_at_call 92;refine (vU b L m len dp a D DT _ (za HR) ((za HS).mine (za HO) hb) hb hL hm hF (za HG) (za HD)).mono ?_;intro e w3 hg;obtain ⟨g3,rfl,hv3,hO3,hR3⟩:=vo hg hk;have Hv3:=zb hv3;have HO3:=zb hO3;have HR3:=zb hR3;clear hg hv3 hO3 hR3))
   go_ret2
   rw [za HO1]
   exact ⟨(za HO).trans (za HO3),za HR3,.inr ⟨hk,_,rfl,(za Hv3).base (za HO).size⟩⟩
theorem zG.setDT {w:World}{b:Nat}{L:List (Int×Int)}{n:Nat}{len dp:Int}(h:zG w b L n len dp)(j:Int):zG (w.setCell ⟨b,3,none⟩ (.int .i64 j)) b L n len j:=by
 obtain ⟨c0,c1,c2,c3,f1,f3⟩:=h
 refine ⟨?_,(World.cell?_setCell_other _ _ _ _ (by simp)).trans c1,(World.cell?_setCell_other _ _ _ _ (by simp)).trans c2,World.cell?_setCell_same _ _ _ c3,(zh _ _ _ _).trans f1,(zh _ _ _ _).trans f3⟩
 rcases c0 with ⟨g,cap,c0,hcap,hne,hrow⟩ |⟨rfl,c0⟩
 ·exact .inl ⟨g,cap,(World.cell?_setCell_other _ _ _ _ (by simp)).trans c0,hcap,hne,hrow.keep ((zd.refl (zo b) w).mine 3 _) (by unfold zo;omega)⟩
 ·exact .inr ⟨rfl,(World.cell?_setCell_other _ _ _ _ (by simp)).trans c0⟩
theorem J9 {b F:Nat}{w w1 w2 w3:World}{v:Value}{z:Tree}(hlt:b<w.heap.size)(h1:zd (zo b) w w1)(hs:zu F w2 (fun g=>w1.heap.size≤g) v z)(h3:zd (zo b) w2 w3):zu F w3 (fun g=>w.heap.size≤g) v z:=
 zu.keep h3 (A:=fun g=>w.heap.size≤g) (fun g hg e=>by unfold zo at e;subst e;exact absurd hlt (Nat.not_lt.2 hg)) F v z (zu.mono (fun g _ hg=>Nat.le_trans h1.size hg) F v z hs)
theorem Jq (b:Nat)(L:List (Int×Int))(len:Int)(a:Nat→Addr)(hb:10≤b)(hL:L.length≤400):jt b L len 10 a (Pro.zy L len 0) (Pro.xI L len 0):=by
 intro n w h hS hn
 have T:=zb (Trk.start h hS hb)
 have c3:=h.c3
 have hs7:=hS.s7
 clear h hS
 go_enter Tryz.func215,Tryz.ntmps215
 go_wp2_with fail
 go_region_with (first
  |(go_at_call 94;refine (yg (n:=n) (by exact (za T).drewN _) hL (by omega)).mono ?_;rintro e w1 ⟨rfl,q,rfl⟩)
  |(go_at_call 62;refine (Zy (n:=n) _ 7 _ _ rfl (by exact (za T).drewN _)).mono ?_;rintro e w1 ⟨v,rfl,hv,tq⟩))
 all_goals go_wp2_with fail
 all_goals
  go_ret2
  exact yi.bad rfl (show (7:Nat)≠0 by decide) (Own.to tq.on) tq.rd hv
theorem Jr (b:Nat)(L:List (Int×Int))(len dp:Int)(a:Nat→Addr)(r:Nat)(hb:10≤b)(hL:L.length≤400)(h0:0≤dp)(h1:dp<10)
  (hA:∀ (n:Nat) (w:World),zG w b L n len (dp+1)→zK w a→n≤L.length→Calls Tryz.prog 59 #[.pointer (some ⟨b,0,none⟩)] w (yi b L len (dp+1) a w (Pro.altP L len (Pro.zy L len r) n) (Pro.altQ L len (Pro.zy L len r) (Pro.xI L len r) n))):jt b L len dp a (Pro.zy L len (r+1)) (Pro.xI L len (r+1)):=by
 intro n w h hS hn
 have hlt:=h.lt
 have HR:=zb h
 have HS:=zb hS
 have HA:=zb hA
 have c3:=h.c3
 have hd:(dp == 10)=false:=by simp;omega
 clear h hS hA
 have ho:=Pro.Yh (L:=L) (len:=len) n hn
 have ha:=Pro.wm (len:=len) (Pro.qe (L:=L) (len:=len) r) (Pro.zU L len n).n ho.2
 by_cases hk1:(Pro.zU L len n).k=0
 ·by_cases hk2:(Pro.altP L len (Pro.zy L len r) (Pro.zU L len n).n).k=0
  ·by_cases hc:Pro.ze L (Pro.altP L len (Pro.zy L len r) (Pro.zU L len n).n).n=41
   ·have m1:Pro.zn L (Pro.altP L len (Pro.zy L len r) (Pro.zU L len n).n).n { data:=#[41] }=true:=by rw [Pro.zm L _ 41 41 rfl];simp [hc]
    have HO:Hid (Pro.zy L len (r+1) n=Pro.good (Pro.altP L len (Pro.zy L len r) (Pro.zU L len n).n).v ((Pro.altP L len (Pro.zy L len r) (Pro.zU L len n).n).n+1)):=by simp only [Pro.zy];unfold Pro.jN;rw [if_neg (by simp [hk1]),if_neg (by simp [hk2]),if_pos hc];rfl
    clear hc
    go_enter Tryz.func215,Tryz.ntmps215
    go_wp2_with (first
     |(go_at_call 254;refine (jC b L n len dp a _ (za HR) (za HS) hb hL hn).mono ?_;rintro e w1 ⟨tq,hT⟩;obtain ⟨rfl,_⟩:=kR hT hk1;clear hT;have T1:=zb tq;have c31:=tq.rd.c3;have f31:=tq.rd.f3;clear tq)
     |(go_at_call 59;refine (za HA (Pro.zU L len n).n _ ((za T1).rd.setDT _) ((za T1).se.mine ((zd.refl _ _).mine _ _) hb) ho.2).mono ?_;intro e w2 hg;obtain ⟨T2,y2,F2,rfl,hs2,hO2,hR2⟩:=xB hg hk2;have Hs2:=zb hs2;have HO2:=zb hO2;have HR2:=zb hR2;have c32:=hR2.c3;have f32:=hR2.f3;clear hg hs2 hO2 hR2)
     |(go_at_call 93;refine (yx b L (Pro.altP L len (Pro.zy L len r) (Pro.zU L len n).n).n len dp _ _ ((za HR2).setDT _) hL (by omega) (by decide) (by assumption)).mono ?_;rintro e w3 ⟨rfl,hR3,hO3⟩;have HR3:=zb hR3;have HO3:=zb hO3;clear hR3 hO3))
    go_ret2
    have hA1:zd (zo b) w (w1.setCell ⟨b,3,none⟩ (.int .i64 (dp+1))):=(Own.to (za T1).on).mine _ _
    have hA2:zd (zo b) w2 w3:=((zd.refl (zo b) w2).mine 3 _).trans (za HO3)
    exact yi.good (za HO) ((hA1.trans (za HO2)).trans hA2) (za HR3) (J9 hlt hA1 (za Hs2) hA2)
   ·have m1:Pro.zn L (Pro.altP L len (Pro.zy L len r) (Pro.zU L len n).n).n { data:=#[41] }=false:=by rw [Pro.zm L _ 41 41 rfl];simp [hc]
    have HO:Hid (Pro.zy L len (r+1) n=Pro.bad 3 (Pro.zx L len (Pro.altP L len (Pro.zy L len r) (Pro.zU L len n).n).n) (Pro.altP L len (Pro.zy L len r) (Pro.zU L len n).n).n):=by simp only [Pro.zy];unfold Pro.jN;rw [if_neg (by simp [hk1]),if_neg (by simp [hk2]),if_neg hc];rfl
    clear hc
    go_enter Tryz.func215,Tryz.ntmps215
    go_wp2_with (first
     |(go_at_call 254;refine (jC b L n len dp a _ (za HR) (za HS) hb hL hn).mono ?_;rintro e w1 ⟨tq,hT⟩;obtain ⟨rfl,_⟩:=kR hT hk1;clear hT;have T1:=zb tq;have c31:=tq.rd.c3;have f31:=tq.rd.f3;clear tq)
     |(go_at_call 59;refine (za HA (Pro.zU L len n).n _ ((za T1).rd.setDT _) ((za T1).se.mine ((zd.refl _ _).mine _ _) hb) ho.2).mono ?_;intro e w2 hg;obtain ⟨T2,y2,F2,rfl,hs2,hO2,hR2⟩:=xB hg hk2;have Hs2:=zb hs2;have HO2:=zb hO2;have HR2:=zb hR2;have c32:=hR2.c3;have f32:=hR2.f3;clear hg hs2 hO2 hR2);(have T:=zb (Trk.start ((za HR2).setDT dp) (((za HS).mine (((Own.to (za T1).on).mine 3 _).trans (za HO2)) hb).mine ((zd.refl _ _).mine 3 _) hb) hb))
     |(go_at_call 93;refine (yG (n:=(Pro.altP L len (Pro.zy L len r) (Pro.zU L len n).n).n) _ (by exact za T) hL (by omega) (by decide) (by assumption)).mono ?_;rintro e wq ⟨rfl,qq,rfl⟩)
     |(go_at_call 61;refine (wD (n:=(Pro.altP L len (Pro.zy L len r) (Pro.zU L len n).n).n) (by exact (za T).drewN _) hL (by omega)).mono ?_;rintro e wq ⟨v,rfl,hv,tq⟩;have T:=zb tq;have c1:=tq.c1;have f1:=tq.f1))
    go_ret2
    have hA1:zd (zo b) w (w1.setCell ⟨b,3,none⟩ (.int .i64 (dp+1))):=(Own.to (za T1).on).mine _ _
    have hA2:=(hA1.trans (za HO2)).mine 3 (.int .i64 dp)
    exact yi.bad (za HO) (by decide) (hA2.trans (Own.to (za T).on)) (za T).rd (hv.base hA2.size)
  ·have HO:Hid (Pro.zy L len (r+1) n=(Pro.altP L len (Pro.zy L len r) (Pro.zU L len n).n)):=by simp only [Pro.zy];unfold Pro.jN;rw [if_neg (by simp [hk1]),if_pos hk2];rfl
   go_enter Tryz.func215,Tryz.ntmps215
   go_wp2_with (first
    |(go_at_call 254;refine (jC b L n len dp a _ (za HR) (za HS) hb hL hn).mono ?_;rintro e w1 ⟨tq,hT⟩;obtain ⟨rfl,_⟩:=kR hT hk1;clear hT;have T1:=zb tq;have c31:=tq.rd.c3;have f31:=tq.rd.f3;clear tq)
    |(go_at_call 59;refine (za HA (Pro.zU L len n).n _ ((za T1).rd.setDT _) ((za T1).se.mine ((zd.refl _ _).mine _ _) hb) ho.2).mono ?_;intro e w2 hg;obtain ⟨g2,rfl,hv2,hO2,hR2⟩:=vo hg hk2;have Hv2:=zb hv2;have HO2:=zb hO2;have HR2:=zb hR2;have c32:=hR2.c3;have f32:=hR2.f3;clear hg hv2 hO2 hR2))
   go_ret2
   have hA1:zd (zo b) w (w1.setCell ⟨b,3,none⟩ (.int .i64 (dp+1))):=(Own.to (za T1).on).mine _ _
   rw [za HO]
   exact ⟨(hA1.trans (za HO2)).mine 3 _,(za HR2).setDT dp,.inr ⟨hk2,_,rfl,((za Hv2).base hA1.size).keep ((zd.refl (zo b) _).mine 3 _) (fun g hg e=>by unfold zo at e;omega)⟩⟩
 ·have HO:Hid (Pro.zy L len (r+1) n=Pro.zU L len n):=by simp only [Pro.zy];unfold Pro.jN;rw [if_pos hk1];rfl
  go_enter Tryz.func215,Tryz.ntmps215
  go_wp2_with (go_at_call 254;refine (jC b L n len dp a _ (za HR) (za HS) hb hL hn).mono ?_;rintro e w1 ⟨tq,hT⟩;obtain ⟨v,rfl,hv⟩:=XZ hT hk1;clear hT;obtain ⟨gv,hgv⟩:=hv.form;subst hgv;have T1:=zb tq;clear tq)
  go_ret2
  rw [za HO]
  exact ⟨Own.to (za T1).on,(za T1).rd,.inr ⟨hk1,_,rfl,hv⟩⟩
theorem YE (b:Nat)(L:List (Int×Int))(len:Int)(a:Nat→Addr)(hb:10≤b)(hL:L.length≤400)(hF:Pro.Fit L):∀ r:Nat,r≤10→jt b L len ((10:Int)-r) a (Pro.zy L len r) (Pro.xI L len r)
 |0,_=>Jq b L len a hb hL
 |r+1,hr=>by
  have hG:=YE b L len a hb hL hF r (by omega)
  refine Jr b L len _ a r hb hL (by omega) (by omega) ?_
  rw [show ((10:Int)-((r+1:Nat):Int))+1=(10:Int)-r by omega]
  intro n w h hS hn
  exact jK b L n len _ a (Pro.zy L len r) (Pro.xI L len r) w h hS hb hL hn hF hG (Pro.qe r)
theorem ql (b:Nat)(L:List (Int×Int))(n:Nat)(len:Int)(a:Nat→Addr)(w:World)(h:zG w b L n len 0)(hS:zK w a)(hb:10≤b)(hL:L.length≤400)(hn:n≤L.length)(hF:Pro.Fit L) :
  Calls Tryz.prog 59 #[.pointer (some ⟨b,0,none⟩)] w (yi b L len 0 a w (Pro.altP L len (Pro.zy L len 10) n) (Pro.altQ L len (Pro.zy L len 10) (Pro.xI L len 10) n)):=
 jK b L n len 0 a (Pro.zy L len 10) (Pro.xI L len 10) w h hS hb hL hn hF (YE b L len a hb hL hF 10 (by omega)) (Pro.qe 10)
end
end Go.Proofs.YtfnkbmglodopkaaGreatDoor
