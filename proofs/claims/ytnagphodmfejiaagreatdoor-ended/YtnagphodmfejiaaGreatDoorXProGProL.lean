/- The program's numbers behind a backslash: a letter's, and those of digits of sixteen. -/
import Derived.Test.YtnagphodmfejiaaGreatDoorXRefUProF
import Derived.Lib.Bytealg
import Derived.Laws.Runes
import Derived.Laws.RangeString
import Derived.WalkMore
import Derived.LoopN
import Derived.Laws.RangeAny
namespace Go.Proofs.YtnagphodmfejiaaGreatDoor
section
open Go.RowKit
set_option maxHeartbeats 800000
theorem jw {b:Nat}{L:List (Int×Int)}{len dp:Int}{a:Nat→Addr}{w w':World}{o:Pro.Out}{yes no v:Value}{k n:Nat}{p:Int}(ho:o=Pro.bad k p n)(hk:k≠0)(hO:Only (zl b) w w')(hR:RdAt w' b L n len dp)(hF:FaultAt w' w.heap.size v (zS a k) p) :
  Tells b L len dp a w o yes no (.returned (.tuple #[no,v])) w':=by
 subst ho
 exact ⟨hO,hR,.inr ⟨hk,v,rfl,hF⟩⟩
theorem qM {b:Nat}{L:List (Int×Int)}{len dp:Int}{a:Nat→Addr}{w w':World}{o:Pro.Out}{yes yes' no:Value}{v:Int}{n:Nat}(ho:o=Pro.good v n)(hy:yes'=yes)(hO:Only (zl b) w w')(hR:RdAt w' b L n len dp) :
  Tells b L len dp a w o yes no (.returned (.tuple #[yes',.nilIface])) w':=by
 subst ho;subst hy
 exact ⟨hO,hR,.inl ⟨rfl,rfl⟩⟩
theorem zby (x:Int)(h0:0≤x)(h1:x<2147483648):bits .and .i32 x 31=x % 32:=bits_mask .i32 31 (by decide) wraps_i32 5 (by decide) x h0 (by omega)
theorem zbz (k:Nat)(h:k≤4):(16:Int) ^ k≤65536:=by
 have:k=0∨k=1∨k=2∨k=3∨k=4:=by omega
 rcases this with rfl |rfl |rfl |rfl |rfl<;>decide
namespace Pro
theorem hexV_hi (b:Int):hexV b≤15:=by unfold hexV;(repeat' split)<;>omega
theorem hexV_lo (b:Int):-1≤hexV b:=by unfold hexV;(repeat' split)<;>omega
theorem vL {L:List (Int×Int)}{len:Int}{f n:Nat}{c:Int}(h:hexV (zh L n)<0):hexO L len (f+1) c n=bad 3 (zB L len n) n:=by simp only [hexO];rw [if_pos h]
theorem kD {L:List (Int×Int)}{len:Int}{f n:Nat}{c:Int}(h:0≤hexV (zh L n)):hexO L len (f+1) c n=hexO L len f (16*c+hexV (zh L n)) (n+1):=by simp only [hexO];rw [if_neg (by omega)]
theorem ZQ {L:List (Int×Int)}{n:Nat}(h:0≤hexV (zh L n)):n<L.length:=by
 by_cases hn:n<L.length
 ·exact hn
 ·rw [xp (by omega)] at h;exact absurd h (by decide)
end Pro
theorem JQ (x y:Int)(h0:0≤x)(h1:x<134217728)(h2:0≤y)(h3:y<16):bits .or .i32 (x*16) y=16*x+y:=by
 rw [bits_join .i32 31 (by decide) wraps_i32 4 (x*16) y (by omega) (by omega) (by omega) h2 (by omega) (by omega)]
 omega
theorem Only.none {P:Nat→Prop}{w w':World}(h:Only (fun _=>False) w w'):Only P w w':=h.mono (fun _ _ f=>f.elim)
theorem ZR (b:Nat)(L:List (Int×Int))(n:Nat)(len dp:Int)(a:Nat→Addr)(w:World)(h:RdAt w b L n len dp)(hS:Sents w a)(_hb:10≤b)(hL:L.length≤400)(hn:n≤L.length)(hF:Pro.Fit L) :
  Calls Tryz.prog 270 #[.pointer (some ⟨b,0,none⟩)] w (Tells b L len dp a w (Pro.xd L len n) (.int .i32 (Pro.xd L len n).v) (.int .i32 0)):=by
 have H:=ze h
 have HS:=ze hS
 have hfit:=hF n
 clear hS hF
 by_cases hlet:Pro.letter (Pro.zh L n)
 ·have HO:Hid (Pro.xd L len n=Pro.good (Pro.zh L n % 32) (n+1)):=by unfold Pro.xd;rw [if_pos hlet];rfl
  obtain ⟨c0,c1,c2,c3,f1,f3⟩:=h
  clear c0 c2 c3 f3
  unfold Pro.letter at hlet
  go_enter Tryz.func270,Tryz.ntmps270
  go_wp2_with (go_at_call 147;refine (yz b L (n) len dp _ (by exact zb H) hL (by omega)).mono ?_;rintro e wq ⟨rfl,hwq⟩;obtain rfl:=hwq.symm;clear hwq)
  all_goals
   go_ret2
   refine qM (zb HO) ?_ ((Only.refl _ _).mine _ _) ((zb H).setN _ _ (by omega))
   rw [zb HO]
   show Value.int .i32 _=Value.int .i32 _
   rw [zby _ (by omega) (by omega)]
   rfl
 ·have HO:Hid (Pro.xd L len n=Pro.bad 3 (Pro.zB L len n) n):=by unfold Pro.xd;rw [if_neg hlet];rfl
  unfold Pro.letter at hlet
  clear h
  go_enter Tryz.func270,Tryz.ntmps270
  go_wp2_with (first |(go_at_call 147;refine (yz b L (n) len dp _ (by exact zb H) hL (by omega)).mono ?_;rintro e wq ⟨rfl,hwq⟩;obtain rfl:=hwq.symm;clear hwq) |(go_at_call 55;refine (jx b L (n) len dp a _ (by exact zb H) (by exact zb HS) hL (by omega)).mono ?_;rintro e wq ⟨v,rfl,hv,hO1⟩))
  all_goals
   go_ret2
   exact jw (zb HO) (by decide) hO1.none ((zb H).keep hO1 (fun f=>f) (fun _ _ f=>f)) hv
theorem yS (b:Nat)(L:List (Int×Int))(n:Nat)(len dp:Int)(a:Nat→Addr)(d:Nat)(w:World)(h:RdAt w b L n len dp)(hS:Sents w a)(hb:10≤b)(hL:L.length≤400)(hn:n≤L.length)(hF:Pro.Fit L)(hd:d≤4) :
  Calls Tryz.prog 271 #[.pointer (some ⟨b,0,none⟩),.int .i64 d] w (Tells b L len dp a w (Pro.hexO L len d 0 n) (.int .i32 (Pro.hexO L len d 0 n).v) (.int .i32 0)):=by
 have HS:=ze hS
 clear hS
 go_enter Tryz.func271,Tryz.ntmps271
 go_wp2_with fail
 go_loopw [6,10] (fun c i wr=>∃ (k:Nat) (q:Int),k≤d∧i = .int .i64 k∧c = .int .i32 q∧0≤q∧q<(16:Int) ^ k∧n+k≤L.length∧Hid (RdAt wr b L (n+k) len dp)∧Only (zl b) w wr∧Hid (Pro.hexO L len d 0 n=Pro.hexO L len (d-k) q (n+k)))
  (fun _ i _=>d-(intOf i).toNat)
 case atStart=>exact ⟨0,0,Nat.zero_le _,rfl,rfl,by omega,by simp,by omega,h,Only.refl _ _,rfl⟩
 case round=>
  obtain ⟨k,q,hk,rfl,rfl,hq0,hq1,hnk,H,hO,HF⟩:=hrel
  have hp:(16:Int) ^ k≤65536:=zbz k (by omega)
  have hd1:=Pro.hexV_hi (Pro.zh L (n+k))
  have hd0:=Pro.hexV_lo (Pro.zh L (n+k))
  have hfit:=hF (n+k)
  by_cases hlt:k<d
  ·by_cases hd:Pro.hexV (Pro.zh L (n+k))<0
   ·have HF1:Hid (Pro.hexO L len d 0 n=Pro.bad 3 (Pro.zB L len (n+k)) (n+k)):=by
     rw [zb HF,show d-k=(d-k-1)+1 by omega];exact Pro.vL hd
    have hB:Pro.hexB (Pro.zh L (n+k))=false:=by unfold Pro.hexB;simp;omega
    have HS:=ze ((zb HS).mine hO hb)
    go_wp2_with (first |(go_at_call 147;refine (yz b L (n+k) len dp _ (by exact zb H) hL (by omega)).mono ?_;rintro e wq ⟨rfl,hwq⟩;obtain rfl:=hwq.symm;clear hwq) |(go_at_call 287;refine (jL _ _ (by omega) (by omega)).mono ?_;rintro e wq ⟨rfl,hwq⟩;obtain rfl:=hwq.symm;clear hwq) |(go_at_call 55;refine (jx b L (n+k) len dp a _ (by exact zb H) (by exact zb HS) hL (by omega)).mono ?_;rintro e wq ⟨v,rfl,hv,hO1⟩))
    go_ret2
    exact jw (zb HF1) (by decide) (hO.trans hO1.none) ((zb H).keep hO1 (fun f=>f) (fun _ _ f=>f)) (hv.base hO.size)
   ·have HF1:Hid (Pro.hexO L len d 0 n=Pro.hexO L len (d-(k+1)) (16*q+Pro.hexV (Pro.zh L (n+k))) (n+(k+1))):=by
     rw [zb HF,show d-k=(d-(k+1))+1 by omega];exact Pro.kD (by omega)
    have hlen:n+k<L.length:=Pro.ZQ (by omega)
    have hB:Pro.hexB (Pro.zh L (n+k))=true:=by unfold Pro.hexB;simp;omega
    have hN:Pro.hexN (Pro.zh L (n+k))=Pro.hexV (Pro.zh L (n+k)):=by unfold Pro.hexN;rw [if_neg hd]
    have hp':(16:Int) ^ (k+1)=16*(16:Int) ^ k:=by rw [Int.pow_succ];omega
    have hpn:16*q+Pro.hexV (Pro.zh L (n+k))<(16:Int) ^ (k+1):=by omega
    have Hpn:=ze hpn
    clear hp' hpn
    have hc:=zb H
    obtain ⟨c0,c1,c2,c3,f1,f3⟩:=hc
    clear c0 c2 c3 f3
    go_wp2_with (first |(go_at_call 147;refine (yz b L (n+k) len dp _ (by exact zb H) hL (by omega)).mono ?_;rintro e wq ⟨rfl,hwq⟩;obtain rfl:=hwq.symm;clear hwq) |(go_at_call 287;refine (jL _ _ (by omega) (by omega)).mono ?_;rintro e wq ⟨rfl,hwq⟩;obtain rfl:=hwq.symm;clear hwq))
    refine ⟨⟨k+1,16*q+Pro.hexV (Pro.zh L (n+k)),by omega,by go_num,?_,by omega,zb Hpn,by omega,(zb H).setN _ _ (by omega),hO.mine _ _,HF1⟩,by simp [intOf];omega⟩
    rw [JQ _ _ hq0 (by omega) (by omega) (by omega)]
  ·have HF1:Hid (Pro.hexO L len d 0 n=Pro.good q (n+k)):=by
    rw [zb HF,show d-k=0 by omega];rfl
   go_wp2_with fail
   go_ret2
   exact qM (zb HF1) (by rw [zb HF1];rfl) hO (zb H)
namespace Pro
theorem zt (L:List (Int×Int))(n:Nat)(c:UInt8)(k:Int)(hk:k=(c.toNat:Int)):zz L n { data:=#[c] }=decide (zh L n=k):=by
 subst hk
 show jo L n { data:=#[c] } 1 0=_
 simp only [jo]
 have:zd { data:=#[c] } 0=(c.toNat:Int):=rfl
 rw [this]
 by_cases h:zh L (n+0)=(c.toNat:Int)
 ·rw [if_pos h];simpa using h
 ·rw [if_neg h];simpa using h
theorem yC (L:List (Int×Int))(n:Nat)(c d:UInt8)(k j:Int)(hk:k=(c.toNat:Int))(hj:j=(d.toNat:Int)):zz L n { data:=#[c,d] }=decide (zh L n=k∧zh L (n+1)=j):=by
 subst hk;subst hj
 show jo L n { data:=#[c,d] } 2 0=_
 simp only [jo]
 have e0:zd { data:=#[c,d] } 0=(c.toNat:Int):=rfl
 have e1:zd { data:=#[c,d] } (0+1)=(d.toNat:Int):=rfl
 rw [e0,e1]
 by_cases h:zh L (n+0)=(c.toNat:Int)
 ·rw [if_pos h]
  by_cases h':zh L (n+(0+1))=(d.toNat:Int)
  ·rw [if_pos h'];simp only [Nat.add_zero,Nat.zero_add] at h h';simp [h,h']
  ·rw [if_neg h'];simp only [Nat.add_zero,Nat.zero_add] at h h';simp [h,h']
 ·rw [if_neg h];simp only [Nat.add_zero] at h;simp [h]
theorem zD {L:List (Int×Int)}{n:Nat}(h:0≤zh L n):n<L.length:=by
 by_cases hn:n<L.length
 ·exact hn
 ·rw [xp (by omega)] at h;omega
theorem ku {L:List (Int×Int)}{len:Int}{f d n:Nat}{c:Int}(h:0<d)(h1:zh L n=125):xe L len (f+1) c d n=good c (n+1):=by simp only [xe];rw [if_pos ⟨h,h1⟩]
theorem vM {L:List (Int×Int)}{len:Int}{f d n:Nat}{c:Int}(h:¬(0<d∧zh L n=125))(h1:hexV (zh L n)<0∨1114111<16*c+hexV (zh L n)):xe L len (f+1) c d n=bad 3 (zB L len n) n:=by simp only [xe];rw [if_neg h,if_pos h1]
theorem kX {L:List (Int×Int)}{len:Int}{f d n:Nat}{c:Int}(h:¬(0<d∧zh L n=125))(h1:¬(hexV (zh L n)<0∨1114111<16*c+hexV (zh L n))):xe L len (f+1) c d n=xe L len f (16*c+hexV (zh L n)) (d+1) (n+1):=by simp only [xe];rw [if_neg h,if_neg h1]
end Pro
theorem kE (b:Nat)(L:List (Int×Int))(n:Nat)(len dp:Int)(a:Nat→Addr)(w:World)(h:RdAt w b L n len dp)(hS:Sents w a)(hb:10≤b)(hL:L.length≤400)(hn:n≤L.length)(hF:Pro.Fit L) :
  Calls Tryz.prog 272 #[.pointer (some ⟨b,0,none⟩)] w (Tells b L len dp a w (Pro.qG L len n) (.int .i32 (Pro.qG L len n).v) (.int .i32 0)):=by
 have HS:=ze hS
 clear hS
 go_enter Tryz.func272,Tryz.ntmps272
 go_wp2_with fail
 go_loopw [4,5] (fun c i wr=>∃ (d:Nat) (q:Int),i = .int .i64 d∧c = .int .i32 q∧0≤q∧q≤1114111∧n+d≤L.length∧Hid (RdAt wr b L (n+d) len dp)∧Only (zl b) w wr∧Hid (Pro.qG L len n=Pro.xe L len (L.length+1-(n+d)) q d (n+d)))
  (fun _ i _=>L.length-(intOf i).toNat)
 case atStart=>exact ⟨0,0,rfl,rfl,by omega,by omega,by omega,h,Only.refl _ _,rfl⟩
 case round=>
  obtain ⟨d,q,rfl,rfl,hq0,hq1,hnd,H,hO,HF⟩:=hrel
  have hd1:=Pro.hexV_hi (Pro.zh L (n+d))
  have hd0:=Pro.hexV_lo (Pro.zh L (n+d))
  have hfit:=hF (n+d)
  by_cases hc:0<d∧Pro.zh L (n+d)=125
  ·have HF1:Hid (Pro.qG L len n=Pro.good q (n+d+1)):=by
    rw [zb HF,show L.length+1-(n+d)=(L.length-(n+d))+1 by omega];exact Pro.ku hc.1 hc.2
   have hz:((d:Int) == 0)=false:=by simp;omega
   have hm:Pro.zz L (n+d) { data:=#[125] }=true:=by rw [Pro.zt L (n+d) 125 125 rfl];simp [hc.2]
   clear hc
   go_wp2_with (go_at_call 102;refine (yM b L (n+d) len dp _ _ (by exact zb H) hL (by omega) (by decide) (by assumption)).mono ?_;rintro e wq ⟨rfl,hR1,hO1⟩)
   go_ret2
   exact qM (zb HF1) (by rw [zb HF1];rfl) (hO.trans hO1) hR1
  ·by_cases hbd:Pro.hexV (Pro.zh L (n+d))<0∨1114111<16*q+Pro.hexV (Pro.zh L (n+d))
   ·have HF1:Hid (Pro.qG L len n=Pro.bad 3 (Pro.zB L len (n+d)) (n+d)):=by
     rw [zb HF,show L.length+1-(n+d)=(L.length-(n+d))+1 by omega];exact Pro.vM hc hbd
    have HS:=ze ((zb HS).mine hO hb)
    have hcs:(((d:Int) == 0)=true)∨(((d:Int) == 0)=false∧Pro.zz L (n+d) { data:=#[125] }=false):=by
     by_cases hz:d=0
     ·left;simp [hz]
     ·right;exact ⟨by simp;omega,by rw [Pro.zt L (n+d) 125 125 rfl];simp;omega⟩
    have hvs:(Pro.hexB (Pro.zh L (n+d))=false)∨(Pro.hexB (Pro.zh L (n+d))=true∧bits BinOp.or IntKind.i32 (q*16) (Pro.hexN (Pro.zh L (n+d)))=16*q+Pro.hexV (Pro.zh L (n+d))∧1114111<16*q+Pro.hexV (Pro.zh L (n+d))):=by
     by_cases hx:Pro.hexV (Pro.zh L (n+d))<0
     ·left;unfold Pro.hexB;simp;omega
     ·right
      refine ⟨by unfold Pro.hexB;simp;omega,?_,by omega⟩
      have:Pro.hexN (Pro.zh L (n+d))=Pro.hexV (Pro.zh L (n+d)):=by unfold Pro.hexN;rw [if_neg hx]
      rw [this];exact JQ _ _ hq0 (by omega) (by omega) (by omega)
    clear hc hbd
    rcases hcs with hz |⟨hz,hm⟩
    all_goals
     rcases hvs with hB |⟨hB,hor,hbig⟩
    all_goals
     go_wp2_with (first |(go_at_call 102;refine (xz b L (n+d) len dp _ _ (by exact zb H) hL (by omega) (by decide) (by assumption)).mono ?_;rintro e wq ⟨rfl,qq,rfl⟩) |(go_at_call 147;refine (yz b L (n+d) len dp _ (by first |exact zb H |exact (zb H).drewN _) hL (by omega)).mono ?_;rintro e wq ⟨rfl,hwq⟩;obtain rfl:=hwq.symm;clear hwq) |(go_at_call 287;refine (jL _ _ (by omega) (by omega)).mono ?_;rintro e wq ⟨rfl,hwq⟩;obtain rfl:=hwq.symm;clear hwq) |(go_at_call 55;refine (jx b L (n+d) len dp a _ (by first |exact zb H |exact (zb H).drewN _) (by first |exact zb HS |exact (zb HS).drewN _) hL (by omega)).mono ?_;rintro e wq ⟨v,rfl,hv,hO1⟩))
    all_goals
     go_ret2
     first
      |exact jw (zb HF1) (by decide) (hO.trans hO1.none) ((zb H).keep hO1 (fun f=>f) (fun _ _ f=>f)) (hv.base hO.size)
      |exact jw (zb HF1) (by decide) ((hO.drewN _).trans hO1.none) (((zb H).drewN _).keep hO1 (fun f=>f) (fun _ _ f=>f)) (hv.base hO.size)
   ·have HF1:Hid (Pro.qG L len n=Pro.xe L len (L.length+1-(n+(d+1))) (16*q+Pro.hexV (Pro.zh L (n+d))) (d+1) (n+(d+1))):=by
     have hlen:n+d<L.length:=Pro.ZQ (by omega)
     rw [zb HF,show L.length+1-(n+d)=(L.length+1-(n+(d+1)))+1 by omega];exact Pro.kX hc hbd
    have hlen:n+d<L.length:=Pro.ZQ (by omega)
    have hcs:(((d:Int) == 0)=true)∨(((d:Int) == 0)=false∧Pro.zz L (n+d) { data:=#[125] }=false):=by
     by_cases hz:d=0
     ·left;simp [hz]
     ·right;exact ⟨by simp;omega,by rw [Pro.zt L (n+d) 125 125 rfl];simp;omega⟩
    have hB:Pro.hexB (Pro.zh L (n+d))=true:=by unfold Pro.hexB;simp;omega
    have hor:bits BinOp.or IntKind.i32 (q*16) (Pro.hexN (Pro.zh L (n+d)))=16*q+Pro.hexV (Pro.zh L (n+d)):=by
     have:Pro.hexN (Pro.zh L (n+d))=Pro.hexV (Pro.zh L (n+d)):=by unfold Pro.hexN;rw [if_neg (by omega)]
     rw [this];exact JQ _ _ hq0 (by omega) (by omega) (by omega)
    have hsm:16*q+Pro.hexV (Pro.zh L (n+d))≤1114111:=by omega
    have hge:0≤16*q+Pro.hexV (Pro.zh L (n+d)):=by omega
    clear hc hbd
    have hc:=zb H
    obtain ⟨c0,c1,c2,c3,f1,f3⟩:=hc
    clear c0 c2 c3 f3
    rcases hcs with hz |⟨hz,hm⟩
    all_goals
     go_wp2_with (first |(go_at_call 102;refine (xz b L (n+d) len dp _ _ (by exact zb H) hL (by omega) (by decide) (by assumption)).mono ?_;rintro e wq ⟨rfl,qq,rfl⟩) |(go_at_call 147;refine (yz b L (n+d) len dp _ (by first |exact zb H |exact (zb H).drewN _) hL (by omega)).mono ?_;rintro e wq ⟨rfl,hwq⟩;obtain rfl:=hwq.symm;clear hwq) |(go_at_call 287;refine (jL _ _ (by omega) (by omega)).mono ?_;rintro e wq ⟨rfl,hwq⟩;obtain rfl:=hwq.symm;clear hwq))
    all_goals
     exact ⟨⟨d+1,16*q+Pro.hexV (Pro.zh L (n+d)),by go_num,rfl,hge,hsm,by omega,(by first |exact (zb H).setN _ _ (by omega) |exact ((zb H).drewN _).setN _ _ (by omega)),(by first |exact hO.mine _ _ |exact (hO.drewN _).mine _ _),HF1⟩,by simp [intOf];omega⟩
namespace Pro
theorem JR (L:List (Int×Int))(len:Int):∀ (f:Nat) (c:Int) (n:Nat),0≤c→c<(16:Int) ^ (4-f)→f≤4→0≤(hexO L len f c n).v∧(hexO L len f c n).v≤65535
 |0,c,n,h0,h1,_=>by simp only [hexO,good];simp at h1;omega
 |f+1,c,n,h0,h1,h2=>by
  have hp:(16:Int) ^ (4-f)=16*(16:Int) ^ (4-(f+1)):=by rw [show 4-f=(4-(f+1))+1 by omega,Int.pow_succ];omega
  have hd:=hexV_hi (zh L n)
  by_cases hb:hexV (zh L n)<0
  ·rw [vL hb];simp only [bad];omega
  ·rw [kD (by omega)]
   exact JR L len f _ (n+1) (by omega) (by omega) (by omega)
theorem vN (L:List (Int×Int))(len:Int):∀ (f:Nat) (c:Int) (n:Nat),n≤L.length→n≤(hexO L len f c n).n∧(hexO L len f c n).n≤L.length∧((hexO L len f c n).k=0→(hexO L len f c n).n=n+f)
 |0,c,n,h=>by simp only [hexO,good];omega
 |f+1,c,n,h=>by
  by_cases hb:hexV (zh L n)<0
  ·rw [vL hb];simp only [bad];omega
  ·rw [kD (by omega)]
   have hlt:n<L.length:=ZQ (by omega)
   have:=vN L len f (16*c+hexV (zh L n)) (n+1) (by omega)
   omega
theorem lowV_bd {L:List (Int×Int)}{len:Int}{n:Nat}(h:0≤lowV L len n):56320≤lowV L len n∧lowV L len n≤57343:=by
 unfold lowV at h ⊢
 split at h
 ·rename_i hh;rw [if_pos hh];omega
 ·omega
end Pro
theorem vO (b:Nat)(L:List (Int×Int))(n:Nat)(len dp:Int)(a:Nat→Addr)(w:World)(h:RdAt w b L n len dp)(hS:Sents w a)(hb:10≤b)(hL:L.length≤400)(hn:n≤L.length)(hF:Pro.Fit L) :
  Calls Tryz.prog 288 #[.pointer (some ⟨b,0,none⟩)] w fun x w'=>Only (zl b) w w'∧((0≤Pro.lowV L len n∧x = .returned (.tuple #[.int .i32 (Pro.lowV L len n),.bool true])∧RdAt w' b L (n+6) len dp)∨(Pro.lowV L len n = -1∧x = .returned (.tuple #[.int .i32 0,.bool false])∧RdAt w' b L n len dp)):=by
 have H:=ze h
 have HS:=ze hS
 clear hS
 obtain ⟨c0,c1,c2,c3,f1,f3⟩:=h
 clear c0 c2 c3 f3
 cases hm:Pro.zz L n { data:=#[92,117] }
 ·have hv:Hid (Pro.lowV L len n = -1):=by
   rw [Pro.yC L n 92 117 92 117 rfl rfl] at hm
   simp only [decide_eq_false_iff_not] at hm
   unfold Pro.lowV;rw [if_neg (fun hh=>hm ⟨hh.1,hh.2.1⟩)];rfl
  go_enter Tryz.func288,Tryz.ntmps288
  go_wp2_with (go_at_call 102;refine (xz b L (n) len dp _ _ (by exact zb H) hL (by omega) (by decide) (by assumption)).mono ?_;rintro e wq ⟨rfl,qq,rfl⟩)
  go_ret2
  exact ⟨((Only.refl _ _).drewN _).mine _ _,.inr ⟨zb hv,rfl,((zb H).drewN _).setN _ _ rfl⟩⟩
 ·have hmm:Pro.zh L n=92∧Pro.zh L (n+1)=117:=by
   rw [Pro.yC L n 92 117 92 117 rfl rfl] at hm
   simpa using hm
  have hn2:n+1<L.length:=Pro.zD (by omega)
  have hvb:=Pro.JR L len 4 0 (n+2) (by omega) (by decide) (by omega)
  have hnb:=Pro.vN L len 4 0 (n+2) (by omega)
  by_cases hk:(Pro.hexO L len 4 0 (n+2)).k=0
  ·by_cases hin:56320≤(Pro.hexO L len 4 0 (n+2)).v∧(Pro.hexO L len 4 0 (n+2)).v≤57343
   ·have hv:Hid (Pro.lowV L len n=(Pro.hexO L len 4 0 (n+2)).v):=by
     unfold Pro.lowV;rw [if_pos ⟨hmm.1,hmm.2,hk,hin.1,hin.2⟩];rfl
    obtain ⟨hi1,hi2⟩:=hin
    clear hmm
    go_enter Tryz.func288,Tryz.ntmps288
    go_wp2_with (first |(go_at_call 102;refine (yM b L (n) len dp _ _ (by exact zb H) hL (by omega) (by decide) (by assumption)).mono ?_;rintro e w1 ⟨rfl,hR1,hO1⟩;have hR1:RdAt w1 b L ((n)+2) len dp:=hR1;have H1:=ze hR1);(have HS:=ze ((zb HS).mine hO1 hb)) |(go_at_call 271;refine (yS b L (n+2) len dp a 4 _ (by exact zb H1) (by exact zb HS) hb hL (by omega) hF (by omega)).mono ?_;rintro e w2 ⟨hO2,hR2,hT2⟩;obtain rfl:=z9 hT2 hk;have H2:=ze hR2;have c12:=hR2.c1;have f12:=hR2.f1))
    go_ret2
    exact ⟨hO1.trans hO2,.inl ⟨by rw [zb hv];omega,by rw [zb hv];rfl,by have:=hnb.2.2 hk;rw [this] at hR2;exact hR2⟩⟩
   ·have hv:Hid (Pro.lowV L len n = -1):=by
     unfold Pro.lowV;rw [if_neg (fun hh=>hin ⟨hh.2.2.2.1,hh.2.2.2.2⟩)];rfl
    clear hmm
    go_enter Tryz.func288,Tryz.ntmps288
    go_wp2_with (first |(go_at_call 102;refine (yM b L (n) len dp _ _ (by exact zb H) hL (by omega) (by decide) (by assumption)).mono ?_;rintro e w1 ⟨rfl,hR1,hO1⟩;have hR1:RdAt w1 b L ((n)+2) len dp:=hR1;have H1:=ze hR1);(have HS:=ze ((zb HS).mine hO1 hb)) |(go_at_call 271;refine (yS b L (n+2) len dp a 4 _ (by exact zb H1) (by exact zb HS) hb hL (by omega) hF (by omega)).mono ?_;rintro e w2 ⟨hO2,hR2,hT2⟩;obtain rfl:=z9 hT2 hk;have H2:=ze hR2;have c12:=hR2.c1;have f12:=hR2.f1))
    all_goals first
     |(exfalso;exact hin ⟨by omega,by omega⟩)
     |(go_ret2;exact ⟨(hO1.trans hO2).mine _ _,.inr ⟨zb hv,rfl,hR2.setN _ _ rfl⟩⟩)
  ·have hv:Hid (Pro.lowV L len n = -1):=by
    unfold Pro.lowV;rw [if_neg (fun hh=>hk hh.2.2.1)];rfl
   clear hmm
   go_enter Tryz.func288,Tryz.ntmps288
   go_wp2_with (first |(go_at_call 102;refine (yM b L (n) len dp _ _ (by exact zb H) hL (by omega) (by decide) (by assumption)).mono ?_;rintro e w1 ⟨rfl,hR1,hO1⟩;have hR1:RdAt w1 b L ((n)+2) len dp:=hR1;have H1:=ze hR1);(have HS:=ze ((zb HS).mine hO1 hb)) |(go_at_call 271;refine (yS b L (n+2) len dp a 4 _ (by exact zb H1) (by exact zb HS) hb hL (by omega) hF (by omega)).mono ?_;rintro e w2 ⟨hO2,hR2,hT2⟩;obtain ⟨v2,rfl,hv2⟩:=qu hT2 hk;obtain ⟨g2,hg2⟩:=hv2.form;subst hg2;have H2:=ze hR2;have c12:=hR2.c1;have f12:=hR2.f1))
   go_ret2
   exact ⟨(hO1.trans hO2).mine _ _,.inr ⟨zb hv,rfl,hR2.setN _ _ rfl⟩⟩
theorem Wz {v:Int}{x y z:Ending}{A B:Prop}(h:(0≤v∧x=y∧A)∨(v = -1∧x=z∧B))(hv:0≤v):x=y∧A:=by
 rcases h with ⟨_,h⟩ |⟨h,_⟩
 ·exact h
 ·omega
theorem zbA {v:Int}{x y z:Ending}{A B:Prop}(h:(0≤v∧x=y∧A)∨(v = -1∧x=z∧B))(hv:¬0≤v):x=z∧B:=by
 rcases h with ⟨h,_⟩ |⟨_,h⟩
 ·exact absurd h hv
 ·exact h
theorem ka (b:Nat)(L:List (Int×Int))(n:Nat)(len dp:Int)(a:Nat→Addr)(w:World)(h:RdAt w b L n len dp)(hS:Sents w a)(hb:10≤b)(hL:L.length≤400)(hn:n≤L.length)(hF:Pro.Fit L) :
  Calls Tryz.prog 273 #[.pointer (some ⟨b,0,none⟩)] w (Tells b L len dp a w (Pro.z8 L len n) (.int .i32 (Pro.z8 L len n).v) (.int .i32 0)):=by
 have H:=ze h
 have HS:=ze hS
 clear h hS
 have hvb:=Pro.JR L len 4 0 n (by omega) (by decide) (by omega)
 have hnb:=Pro.vN L len 4 0 n (by omega)
 by_cases hk:(Pro.hexO L len 4 0 n).k=0
 ·by_cases hin:(Pro.hexO L len 4 0 n).v<55296∨56319<(Pro.hexO L len 4 0 n).v
  ·have HO:Hid (Pro.z8 L len n=Pro.hexO L len 4 0 n):=by unfold Pro.z8;rw [if_pos (.inr hin)];rfl
   go_enter Tryz.func273,Tryz.ntmps273
   go_wp2_with (first |(go_at_call 271;refine (yS b L n len dp a 4 _ (by exact zb H) (by exact zb HS) hb hL (by omega) hF (by omega)).mono ?_;rintro e w2 ⟨hO2,hR2,hT2⟩;obtain rfl:=z9 hT2 hk;have H2:=ze hR2;have c12:=hR2.c1;have f12:=hR2.f1))
   all_goals first
    |(exfalso;omega)
    |(go_ret2;rw [zb HO];exact ⟨hO2,hR2,.inl ⟨hk,rfl⟩⟩)
  ·have hn4:=hnb.2.2 hk
   have hle4:n+4≤L.length:=by omega
   clear hnb
   by_cases hlow:0≤Pro.lowV L len (n+4)
   ·have HO:Hid (Pro.z8 L len n=Pro.good (65536+((Pro.hexO L len 4 0 n).v-55296)*1024+(Pro.lowV L len (n+4)-56320)) (n+4+6)):=by
     unfold Pro.z8;rw [if_neg (by omega),hn4,if_pos hlow];rfl
    have hlb:=Pro.lowV_bd hlow
    go_enter Tryz.func273,Tryz.ntmps273
    go_wp2_with (first |(go_at_call 271;refine (yS b L n len dp a 4 _ (by exact zb H) (by exact zb HS) hb hL (by omega) hF (by omega)).mono ?_;rintro e w2 ⟨hO2,hR2,hT2⟩;obtain rfl:=z9 hT2 hk;have H2:=ze hR2;have c12:=hR2.c1;have f12:=hR2.f1);(have HS:=ze ((zb HS).mine hO2 hb)) |(go_at_call 288;refine (vO b L (n+4) len dp a _ (by have:=zb H2;rw [hn4] at this;exact this) (zb HS) hb hL (by omega) hF).mono ?_;rintro e w3 ⟨hO3,hT3⟩;obtain ⟨rfl,hR3⟩:=Wz hT3 (by omega)))
    all_goals first
     |(exfalso;omega)
     |(go_ret2;exact qM (zb HO) (by rw [zb HO];rfl) (hO2.trans hO3) hR3)
   ·have HO:Hid (Pro.z8 L len n=Pro.hexO L len 4 0 n):=by unfold Pro.z8;rw [if_neg (by omega),hn4,if_neg hlow];rfl
    go_enter Tryz.func273,Tryz.ntmps273
    go_wp2_with (first |(go_at_call 271;refine (yS b L n len dp a 4 _ (by exact zb H) (by exact zb HS) hb hL (by omega) hF (by omega)).mono ?_;rintro e w2 ⟨hO2,hR2,hT2⟩;obtain rfl:=z9 hT2 hk;have H2:=ze hR2;have c12:=hR2.c1;have f12:=hR2.f1);(have HS:=ze ((zb HS).mine hO2 hb)) |(go_at_call 288;refine (vO b L (n+4) len dp a _ (by have:=zb H2;rw [hn4] at this;exact this) (zb HS) hb hL (by omega) hF).mono ?_;rintro e w3 ⟨hO3,hT3⟩;obtain ⟨rfl,hR3⟩:=zbA hT3 (by omega)))
    all_goals first
     |(exfalso;omega)
     |(go_ret2;rw [zb HO];exact ⟨hO2.trans hO3,(by rw [hn4];exact hR3),.inl ⟨hk,rfl⟩⟩)
 ·have HO:Hid (Pro.z8 L len n=Pro.hexO L len 4 0 n):=by unfold Pro.z8;rw [if_pos (.inl hk)];rfl
  go_enter Tryz.func273,Tryz.ntmps273
  go_wp2_with (first |(go_at_call 271;refine (yS b L n len dp a 4 _ (by exact zb H) (by exact zb HS) hb hL (by omega) hF (by omega)).mono ?_;rintro e w2 ⟨hO2,hR2,hT2⟩;obtain ⟨v2,rfl,hv2⟩:=qu hT2 hk;obtain ⟨g2,hg2⟩:=hv2.form;subst hg2;have H2:=ze hR2;have c12:=hR2.c1;have f12:=hR2.f1))
  all_goals
   go_ret2
   rw [zb HO]
   exact ⟨hO2,hR2,.inr ⟨hk,_,rfl,hv2⟩⟩
set_option maxHeartbeats 2000000
set_option maxRecDepth 1000000
theorem wY (s:ByteArray)(c:Int)(w:World) :
  Calls Tryz.prog 283 #[.string s,.int .u8 c] w fun e w'=>e = .returned (.int .i64 (firstIdx s c.toNat.toUInt8))∧w'=w:=by
 rw [Lib.firstIdx_eq]
 go_enter Tryz.func283,Tryz.ntmps283
 go_wp2
 rw [run_callFunc_extern Tryz.func293 (by kernel_rfl) (by kernel_rfl) (by kernel_rfl) (e:=Extern.BytealgIndexByte.indexByte) (by kernel_rfl),Lib.run_indexByteString]
 simp only [Result.andThen]
 rw [Oper.upon_value]
 go_wp2
 go_ret
 exact ⟨rfl,rfl⟩
theorem XO (s:ByteArray)(r:Int)(w:World)(h1:r<0) :
  Calls Tryz.prog 267 #[.string s,.int .i32 r] w fun e w'=>e = .returned (.int .i64 (-1))∧w'=w:=by
 go_enter Tryz.func267,Tryz.ntmps267
 go_wp2
 go_ret
 exact ⟨rfl,rfl⟩
theorem YW (s:ByteArray)(r:Int)(w:World)(h0:0≤r)(h1:r<128) :
  Calls Tryz.prog 267 #[.string s,.int .i32 r] w fun e w'=>e = .returned (.int .i64 (firstIdx s r.toNat.toUInt8))∧w'=w:=by
 go_enter Tryz.func267,Tryz.ntmps267
 go_wp2_with (go_at_call 283;refine (wY _ _ _).mono ?_;rintro e wq ⟨rfl,hwq⟩;obtain rfl:=hwq.symm;clear hwq)
 go_ret
 exact ⟨rfl,rfl⟩
theorem XP (s:ByteArray)(r:Int)(w:World)(h0:128≤r)(h1:r≤1114111)(h2:r≠65533)(hs:∀ b∈s.data.toList,b.toNat<128)(_hz:s.size≤20) :
  Calls Tryz.prog 267 #[.string s,.int .i32 r] w fun e w'=>e = .returned (.int .i64 (-1))∧Only (fun _=>False) w w':=by
 by_cases hv:(0≤r∧r<55296)∨(57343<r∧r≤1114111)
 ·have hval:Utf8.valid r=true:=by rw [validRune_eq];unfold validRune;exact decide_eq_true hv
  obtain ⟨e1,e2,e3⟩:=encode_facts r hval h0
  have e3:128≤zd (Utf8.encode r) ((Utf8.encode r).size-1):=by
   have hh:(Utf8.encode r).size-1<(Utf8.encode r).size:=by omega
   rw [yD _ _ hh]
   have:=e3 hh
   omega
  have e4:=ye (Utf8.encode r) ((Utf8.encode r).size-1)
  generalize hR:Utf8.encode r=rs at *
  have hx2:∀ wx,(Instr.index 9 (.string rs) (.int .i64 ((rs.size:Int)-1))).run Tryz.prog wx = .ok (.int .u8 (zd rs (rs.size-1))) wx:=fun wx=>kH rs _ (by omega) _ (by omega) wx
  by_cases hlen:rs.size-1<s.size
  ·have hx1:∀ wx,(Instr.index 9 (.string s) (.int .i64 ((rs.size:Int)-1))).run Tryz.prog wx = .ok (.int .u8 (zd s (rs.size-1))) wx:=fun wx=>kH s _ hlen _ (by omega) wx
   have e5:zd s (rs.size-1)<128:=by
    rw [yD s _ hlen]
    have:=hs (s[rs.size-1]) (by exact Array.getElem_mem_toList (xs:=s.data) hlen)
    omega
   have hne:(zd s (rs.size-1) != zd rs (rs.size-1))=true:=by simp;omega
   have hfi:∀ a e,firstIdx (s.extract a e) (zd rs (rs.size-1)).toNat.toUInt8 = -1:=fun a e=>firstIdx_ascii s a e _ hs (by simp;omega)
   have hwr:IntKind.i64.wrap ((rs.size:Int)-1+1)=(rs.size:Int):=by rw [j4 _ (by omega) (by omega)];omega
   have Hs:=ze hs
   clear hs hval
   go_enter Tryz.func267,Tryz.ntmps267
   rcases hv with ⟨hv1,hv2⟩ |⟨hv1,hv2⟩
   all_goals
    go_wp2_with go_in
    go_step3
    go_wp2
    refine wp_loop_rounds 1 ?_
    rw [rounds_succ]
    go_wp2
    go_step3
    go_wp2
    go_quiet (fail)
    go_wp2
    go_quiet ((go_at_call 283;exact (wY _ _ _).mono (by rintro e w'' ⟨rfl,rfl⟩;exact ⟨rfl,_,rfl⟩)))
    go_wp2
    rw [Exit.noGoto_ret]
    go_wp2
    rw [Exit.noGoto_ret]
    go_wp2
    go_ret
    exact ⟨rfl,(Only.refl _ _).drewN _⟩
  ·have Hs:=ze hs
   clear hs hval
   go_enter Tryz.func267,Tryz.ntmps267
   rcases hv with ⟨hv1,hv2⟩ |⟨hv1,hv2⟩
   all_goals
    go_wp2_with go_in
    go_step3
    go_wp2
    refine wp_loop_rounds 1 ?_
    rw [rounds_succ]
    go_wp2
    rw [Exit.noGoto_ret]
    go_wp2
    go_ret
    exact ⟨rfl,Only.refl _ _⟩
 ·go_enter Tryz.func267,Tryz.ntmps267
  go_wp2
  all_goals first
   |(exfalso;omega)
   |(go_ret;exact ⟨rfl,Only.refl _ _⟩)
theorem YX (s:ByteArray)(w:World)(hs:∀ b∈s.data.toList,b.toNat<128)(_hz:s.size≤20) :
  Calls Tryz.prog 267 #[.string s,.int .i32 65533] w fun e w'=>e = .returned (.int .i64 (-1))∧Only (fun _=>False) w w':=by
 go_enter Tryz.func267,Tryz.ntmps267
 go_wp2
 go_loopw [4] (fun _ wr=>∃ pos:Nat,wr=w.iter s pos) (fun _ wr=>s.size-wr.iterPos w.heap.size)
 case atStart=>exact ⟨0,rfl⟩
 case round=>
  obtain ⟨pos,rfl⟩:=hrel
  by_cases hp:pos<s.size
  ·have ha:(s[pos]'hp).toNat<128:=hs _ (by exact Array.getElem_mem_toList (xs:=s.data) hp)
   have hnx:∀ ty,(Instr.next (.pointer (some ⟨w.heap.size,0,none⟩)) true ty).run Tryz.prog (w.iter s pos)=_:=fun ty=>run_next_ascii w s pos ty hp ha
   have hne:(((s[pos]'hp).toNat:Int) == 65533)=false:=by simp;omega
   have Hs:=ze hs
   clear hs
   go_wp2
   go_roundw
   case rel=>exact ⟨pos+1,rfl⟩
   case measure=>simp;omega
  ·have hnx:∀ ty,(Instr.next (.pointer (some ⟨w.heap.size,0,none⟩)) true ty).run Tryz.prog (w.iter s pos)=_:=fun ty=>run_next_end w s pos ty hp
   have Hs:=ze hs
   clear hs
   go_wp2
   go_ret
   exact ⟨rfl,(Only.refl _ _).alloc _⟩
def Pro.inB (s:ByteArray)(r:Int):Bool:=s.data.toList.any fun b=>decide ((b.toNat:Int)=r)
theorem inB_low (s:ByteArray)(r:Int)(h0:0≤r)(h1:r<128):decide (0≤firstIdx s r.toNat.toUInt8)=Pro.inB s r:=by
 rw [firstIdx_nonneg]
 unfold Pro.inB
 congr 1
 funext b
 have hb:=b.toNat_lt
 by_cases h:(b.toNat:Int)=r
 ·have e:b=r.toNat.toUInt8:=by
   apply UInt8.toNat_inj.1
   rw [←h];simp
  rw [beq_iff_eq.2 e,decide_eq_true h]
 ·rw [decide_eq_false h,beq_eq_false_iff_ne]
  intro e
  apply h
  rw [e]
  simp
  omega
theorem XQ (s:ByteArray)(r:Int)(hs:∀ b∈s.data.toList,b.toNat<128)(h:r<0∨128≤r):Pro.inB s r=false:=by
 unfold Pro.inB
 rw [List.any_eq_false]
 intro b hb
 have:=hs b hb
 simp;omega
theorem Qu (s:ByteArray)(r:Int)(w:World)(h1:r≤1114111)(hs:∀ b∈s.data.toList,b.toNat<128)(hz:s.size≤20) :
  Calls Tryz.prog 267 #[.string s,.int .i32 r] w fun e w'=>(∃ k,e = .returned (.int .i64 k)∧decide (0≤k)=Pro.inB s r)∧Only (fun _=>False) w w':=by
 by_cases h0:r<0
 ·exact (XO s r w h0).mono (by rintro e w1 ⟨rfl,rfl⟩;exact ⟨⟨_,rfl,(XQ s r hs (.inl h0)).symm⟩,Only.refl _ _⟩)
 ·by_cases h2:r<128
  ·exact (YW s r w (by omega) h2).mono (by rintro e w1 ⟨rfl,rfl⟩;exact ⟨⟨_,rfl,inB_low s r (by omega) h2⟩,Only.refl _ _⟩)
  ·by_cases h3:r=65533
   ·subst h3
    exact (YX s w hs hz).mono (by rintro e w1 ⟨rfl,hO⟩;exact ⟨⟨_,rfl,(XQ s _ hs (.inr (by omega))).symm⟩,hO⟩)
   ·exact (XP s r w (by omega) h1 h3 hs hz).mono (by rintro e w1 ⟨rfl,hO⟩;exact ⟨⟨_,rfl,(XQ s _ hs (.inr (by omega))).symm⟩,hO⟩)
theorem ZS (s:ByteArray)(r:Int)(w:World)(h1:r≤1114111)(hs:∀ b∈s.data.toList,b.toNat<128)(hz:s.size≤20) :
  Calls Tryz.prog 244 #[.string s,.int .i32 r] w fun e w'=>e = .returned (.bool (Pro.inB s r))∧Only (fun _=>False) w w':=by
 have HS:=ze hs
 clear hs
 go_enter Tryz.func244,Tryz.ntmps244
 go_wp2_with (go_at_call 267;refine (Qu s r _ h1 (zb HS) hz).mono ?_;rintro e w1 ⟨⟨k,rfl,hk⟩,hO⟩)
 go_ret
 exact ⟨by rw [←hk];rfl,hO⟩
theorem inB_sign (r:Int):Pro.inB { data:=#[94,36,92,46,42,43,63,40,41,91,93,123,125,124,47] } r=Pro.sign r:=rfl
theorem yd (c:Int)(w:World)(h1:c≤1114111) :
  Calls Tryz.prog 268 #[.int .i32 c] w fun x w'=>x = .returned (.tuple #[.int .i32 (Pro.jC c),.bool (Pro.qY c)])∧Only (fun _=>False) w w':=by
 by_cases hc:0≤Pro.ctlV c
 ·have HV:Hid (Pro.jC c=Pro.ctlV c∧Pro.qY c=true):=⟨by unfold Pro.jC;rw [if_pos hc],by unfold Pro.qY;simp [hc]⟩
  have hcs:c=116∨c=110∨c=118∨c=102∨c=114:=by unfold Pro.ctlV at hc;(repeat' split at hc)<;>omega
  clear hc h1
  rcases hcs with rfl |rfl |rfl |rfl |rfl
  all_goals
   go_enter Tryz.func268,Tryz.ntmps268
   go_wp2_with fail
   go_ret2
   rw [HV.out.1,HV.out.2]
   exact ⟨rfl,Only.refl _ _⟩
 ·have HV:Hid (Pro.jC c=c∧Pro.qY c=Pro.sign c):=⟨by unfold Pro.jC;rw [if_neg hc],by unfold Pro.qY;simp [hc]⟩
  have hcs:(c == 116)=false∧(c == 110)=false∧(c == 118)=false∧(c == 102)=false∧(c == 114)=false:=by
   unfold Pro.ctlV at hc
   (repeat' split at hc)<;>simp<;>omega
  obtain ⟨k1,k2,k3,k4,k5⟩:=hcs
  clear hc
  go_enter Tryz.func268,Tryz.ntmps268
  go_wp2_with (go_at_call 244;refine (ZS _ _ _ h1 (by decide) (by decide)).mono ?_;rintro e w1 ⟨rfl,hO⟩)
  go_ret2
  rw [HV.out.1,HV.out.2,←inB_sign]
  exact ⟨rfl,hO⟩
theorem Tells.yes {b:Nat}{L:List (Int×Int)}{len dp:Int}{a:Nat→Addr}{w w':World}{o:Pro.Out}{yes no:Value}(hk:o.k=0)(hO:Only (zl b) w w')(hR:RdAt w' b L o.n len dp):Tells b L len dp a w o yes no (.returned (.tuple #[yes,.nilIface])) w':=⟨hO,hR,.inl ⟨hk,rfl⟩⟩
theorem Tells.no {b:Nat}{L:List (Int×Int)}{len dp:Int}{a:Nat→Addr}{w w':World}{o:Pro.Out}{yes no v:Value}(hk:o.k≠0)(hO:Only (zl b) w w')(hR:RdAt w' b L o.n len dp)(hv:FaultAt w' w.heap.size v (zS a o.k) o.p):Tells b L len dp a w o yes no (.returned (.tuple #[no,v])) w':=⟨hO,hR,.inr ⟨hk,v,rfl,hv⟩⟩
theorem XR (b:Nat)(L:List (Int×Int))(n:Nat)(len dp:Int)(a:Nat→Addr)(w:World)(h:RdAt w b L n len dp)(hS:Sents w a)(_hb:10≤b)(hL:L.length≤400)(hn:n≤L.length)(_hF:Pro.Fit L) :
  Calls Tryz.prog 269 #[.pointer (some ⟨b,0,none⟩)] w (Tells b L len dp a w (Pro.jy L len n) (.int .i32 (Pro.jy L len n).v) (.int .i32 0)):=by
 refine (zero_any b L n len dp a w h hS hL hn).mono ?_
 rintro e w1 ⟨hO,⟨hd,rfl⟩ |⟨hd,v,rfl,hv⟩⟩
 ·have e1:Pro.jy L len n=Pro.good 0 n:=by unfold Pro.jy Pro.dig;rw [hd];rfl
  exact qM e1 (by rw [e1];rfl) hO.none (h.keep hO (fun f=>f) (fun _ _ f=>f))
 ·have e1:Pro.jy L len n=Pro.bad 3 (Pro.zB L len n) n:=by unfold Pro.jy Pro.dig;rw [hd];rfl
  exact jw e1 (by decide) hO.none (h.keep hO (fun f=>f) (fun _ _ f=>f)) hv
namespace Pro
theorem zeroO_n (L:List (Int×Int))(len:Int)(n:Nat):(jy L len n).n=n:=by unfold jy;split<;>rfl
end Pro
theorem ke (b:Nat)(L:List (Int×Int))(n:Nat)(len dp:Int)(a:Nat→Addr)(w:World)(h:RdAt w b L n len dp)(hS:Sents w a)(hb:10≤b)(hL:L.length≤400)(hn:n≤L.length)(hF:Pro.Fit L) :
  Calls Tryz.prog 245 #[.pointer (some ⟨b,0,none⟩)] w (Tells b L len dp a w (Pro.numO L len n) (.int .i32 (Pro.numO L len n).v) (.int .i32 0)):=by
 have H:=ze h
 have HS:=ze hS
 clear h hS
 have hfit:=hF n
 cases hsh:Pro.qY (Pro.zh L n)
 ·by_cases q0:Pro.zh L n=48
  ·have HO:Hid (Pro.numO L len n=Pro.jy L len (n+1)):=by unfold Pro.numO;rw [hsh];simp only [Bool.false_eq_true,if_false];rw [if_pos q0];rfl
   have hlt:n<L.length:=Pro.zD (by omega)
   have m0:Pro.zz L n { data:=#[48] }=true:=by rw [Pro.zt L n 48 48 rfl];simp;omega
   clear q0
   by_cases hk:(Pro.jy L len (n+1)).k=0
   ·go_enter Tryz.func245,Tryz.ntmps245
    go_wp2_with (first |(go_at_call 147;refine (yz b L (n) len dp _ (by exact zb H) hL (by omega)).mono ?_;rintro e wq ⟨rfl,hwq⟩;obtain rfl:=hwq.symm;clear hwq) |(go_at_call 268;refine (yd _ _ (by omega)).mono ?_;rintro e w1 ⟨rfl,hOs⟩;have H:=ze ((zb H).keep hOs (fun f=>f) (fun _ _ f=>f));have HS:=ze ((zb HS).keep hOs (fun _ _ f=>f));have c1:=(zb H).c1;have f1:=(zb H).f1) |(go_at_call 102;refine (xz b L (n) len dp _ _ (by exact zb H) hL (by omega) (by decide) (by assumption)).mono ?_;rintro e wq ⟨rfl,qq,rfl⟩) |(go_at_call 102;refine (yM b L (n) len dp _ _ (by exact zb H) hL (by omega) (by decide) (by assumption)).mono ?_;rintro e w3 ⟨rfl,hR3,hO3⟩;have hR3:RdAt w3 b L ((n)+1) len dp:=hR3;have H3:=ze hR3);(have HS:=ze ((zb HS).mine (by first |exact hO3 |exact ((Only.refl _ _).drewN _).trans hO3) hb)) |(go_at_call 269;refine (XR b L (n+1) len dp a _ (by exact zb H3) (by exact zb HS) hb hL (by omega) hF).mono ?_;rintro e w4 ⟨hO4,hR4,hT4⟩;obtain rfl:=z9 hT4 hk;have H4:=ze hR4;have c14:=hR4.c1;have f14:=hR4.f1))
    go_ret2
    rw [zb HO]
    exact Tells.yes hk (by first |exact (hOs.none.trans hO3).trans hO4 |exact ((hOs.none.drewN _).trans hO3).trans hO4) hR4
   ·go_enter Tryz.func245,Tryz.ntmps245
    go_wp2_with (first |(go_at_call 147;refine (yz b L (n) len dp _ (by exact zb H) hL (by omega)).mono ?_;rintro e wq ⟨rfl,hwq⟩;obtain rfl:=hwq.symm;clear hwq) |(go_at_call 268;refine (yd _ _ (by omega)).mono ?_;rintro e w1 ⟨rfl,hOs⟩;have H:=ze ((zb H).keep hOs (fun f=>f) (fun _ _ f=>f));have HS:=ze ((zb HS).keep hOs (fun _ _ f=>f));have c1:=(zb H).c1;have f1:=(zb H).f1) |(go_at_call 102;refine (xz b L (n) len dp _ _ (by exact zb H) hL (by omega) (by decide) (by assumption)).mono ?_;rintro e wq ⟨rfl,qq,rfl⟩) |(go_at_call 102;refine (yM b L (n) len dp _ _ (by exact zb H) hL (by omega) (by decide) (by assumption)).mono ?_;rintro e w3 ⟨rfl,hR3,hO3⟩;have hR3:RdAt w3 b L ((n)+1) len dp:=hR3;have H3:=ze hR3);(have HS:=ze ((zb HS).mine (by first |exact hO3 |exact ((Only.refl _ _).drewN _).trans hO3) hb)) |(go_at_call 269;refine (XR b L (n+1) len dp a _ (by exact zb H3) (by exact zb HS) hb hL (by omega) hF).mono ?_;rintro e w4 ⟨hO4,hR4,hT4⟩;obtain ⟨v4,rfl,hv4⟩:=qu hT4 hk;obtain ⟨g4,hg4⟩:=hv4.form;subst hg4;have H4:=ze hR4;have c14:=hR4.c1;have f14:=hR4.f1))
    go_ret2
    rw [zb HO]
    exact Tells.no hk (by first |exact (hOs.none.trans hO3).trans hO4 |exact ((hOs.none.drewN _).trans hO3).trans hO4) hR4 (hv4.base (by first |exact (hOs.none.trans hO3).size |exact ((hOs.none.drewN _).trans hO3).size))
  ·by_cases q1:Pro.zh L n=99
   ·have HO:Hid (Pro.numO L len n=Pro.xd L len (n+1)):=by unfold Pro.numO;rw [hsh];simp only [Bool.false_eq_true,if_false];rw [if_neg q0];rw [if_pos q1];rfl
    have hlt:n<L.length:=Pro.zD (by omega)
    have m0:Pro.zz L n { data:=#[48] }=false:=by rw [Pro.zt L n 48 48 rfl];simp;omega
    have m1:Pro.zz L n { data:=#[99] }=true:=by rw [Pro.zt L n 99 99 rfl];simp;omega
    clear q0 q1
    by_cases hk:(Pro.xd L len (n+1)).k=0
    ·go_enter Tryz.func245,Tryz.ntmps245
     go_wp2_with (first |(go_at_call 147;refine (yz b L (n) len dp _ (by exact zb H) hL (by omega)).mono ?_;rintro e wq ⟨rfl,hwq⟩;obtain rfl:=hwq.symm;clear hwq) |(go_at_call 268;refine (yd _ _ (by omega)).mono ?_;rintro e w1 ⟨rfl,hOs⟩;have H:=ze ((zb H).keep hOs (fun f=>f) (fun _ _ f=>f));have HS:=ze ((zb HS).keep hOs (fun _ _ f=>f));have c1:=(zb H).c1;have f1:=(zb H).f1) |(go_at_call 102;refine (xz b L (n) len dp _ _ (by first |exact zb H |exact (zb H).drewN _) hL (by omega) (by decide) (by assumption)).mono ?_;rintro e wq ⟨rfl,qq,rfl⟩) |(go_at_call 102;refine (yM b L (n) len dp _ _ (by exact (zb H).drewN _) hL (by omega) (by decide) (by assumption)).mono ?_;rintro e w3 ⟨rfl,hR3,hO3⟩;have hR3:RdAt w3 b L ((n)+1) len dp:=hR3;have H3:=ze hR3);(have HS:=ze ((zb HS).mine (by first |exact hO3 |exact ((Only.refl _ _).drewN _).trans hO3) hb)) |(go_at_call 270;refine (ZR b L (n+1) len dp a _ (by exact zb H3) (by exact zb HS) hb hL (by omega) hF).mono ?_;rintro e w4 ⟨hO4,hR4,hT4⟩;obtain rfl:=z9 hT4 hk;have H4:=ze hR4;have c14:=hR4.c1;have f14:=hR4.f1))
     go_ret2
     rw [zb HO]
     exact Tells.yes hk (by first |exact (hOs.none.trans hO3).trans hO4 |exact ((hOs.none.drewN _).trans hO3).trans hO4) hR4
    ·go_enter Tryz.func245,Tryz.ntmps245
     go_wp2_with (first |(go_at_call 147;refine (yz b L (n) len dp _ (by exact zb H) hL (by omega)).mono ?_;rintro e wq ⟨rfl,hwq⟩;obtain rfl:=hwq.symm;clear hwq) |(go_at_call 268;refine (yd _ _ (by omega)).mono ?_;rintro e w1 ⟨rfl,hOs⟩;have H:=ze ((zb H).keep hOs (fun f=>f) (fun _ _ f=>f));have HS:=ze ((zb HS).keep hOs (fun _ _ f=>f));have c1:=(zb H).c1;have f1:=(zb H).f1) |(go_at_call 102;refine (xz b L (n) len dp _ _ (by first |exact zb H |exact (zb H).drewN _) hL (by omega) (by decide) (by assumption)).mono ?_;rintro e wq ⟨rfl,qq,rfl⟩) |(go_at_call 102;refine (yM b L (n) len dp _ _ (by exact (zb H).drewN _) hL (by omega) (by decide) (by assumption)).mono ?_;rintro e w3 ⟨rfl,hR3,hO3⟩;have hR3:RdAt w3 b L ((n)+1) len dp:=hR3;have H3:=ze hR3);(have HS:=ze ((zb HS).mine (by first |exact hO3 |exact ((Only.refl _ _).drewN _).trans hO3) hb)) |(go_at_call 270;refine (ZR b L (n+1) len dp a _ (by exact zb H3) (by exact zb HS) hb hL (by omega) hF).mono ?_;rintro e w4 ⟨hO4,hR4,hT4⟩;obtain ⟨v4,rfl,hv4⟩:=qu hT4 hk;obtain ⟨g4,hg4⟩:=hv4.form;subst hg4;have H4:=ze hR4;have c14:=hR4.c1;have f14:=hR4.f1))
     go_ret2
     rw [zb HO]
     exact Tells.no hk (by first |exact (hOs.none.trans hO3).trans hO4 |exact ((hOs.none.drewN _).trans hO3).trans hO4) hR4 (hv4.base (by first |exact (hOs.none.trans hO3).size |exact ((hOs.none.drewN _).trans hO3).size))
   ·by_cases q2:Pro.zh L n=120
    ·have HO:Hid (Pro.numO L len n=Pro.hexO L len 2 0 (n+1)):=by unfold Pro.numO;rw [hsh];simp only [Bool.false_eq_true,if_false];rw [if_neg q0];rw [if_neg q1];rw [if_pos q2];rfl
     have hlt:n<L.length:=Pro.zD (by omega)
     have m0:Pro.zz L n { data:=#[48] }=false:=by rw [Pro.zt L n 48 48 rfl];simp;omega
     have m1:Pro.zz L n { data:=#[99] }=false:=by rw [Pro.zt L n 99 99 rfl];simp;omega
     have m2:Pro.zz L n { data:=#[120] }=true:=by rw [Pro.zt L n 120 120 rfl];simp;omega
     clear q0 q1 q2
     by_cases hk:(Pro.hexO L len 2 0 (n+1)).k=0
     ·go_enter Tryz.func245,Tryz.ntmps245
      go_wp2_with (first |(go_at_call 147;refine (yz b L (n) len dp _ (by exact zb H) hL (by omega)).mono ?_;rintro e wq ⟨rfl,hwq⟩;obtain rfl:=hwq.symm;clear hwq) |(go_at_call 268;refine (yd _ _ (by omega)).mono ?_;rintro e w1 ⟨rfl,hOs⟩;have H:=ze ((zb H).keep hOs (fun f=>f) (fun _ _ f=>f));have HS:=ze ((zb HS).keep hOs (fun _ _ f=>f));have c1:=(zb H).c1;have f1:=(zb H).f1) |(go_at_call 102;refine (xz b L (n) len dp _ _ (by first |exact zb H |exact (zb H).drewN _) hL (by omega) (by decide) (by assumption)).mono ?_;rintro e wq ⟨rfl,qq,rfl⟩) |(go_at_call 102;refine (yM b L (n) len dp _ _ (by exact (zb H).drewN _) hL (by omega) (by decide) (by assumption)).mono ?_;rintro e w3 ⟨rfl,hR3,hO3⟩;have hR3:RdAt w3 b L ((n)+1) len dp:=hR3;have H3:=ze hR3);(have HS:=ze ((zb HS).mine (by first |exact hO3 |exact ((Only.refl _ _).drewN _).trans hO3) hb)) |(go_at_call 271;refine (yS b L (n+1) len dp a 2 _ (by exact zb H3) (by exact zb HS) hb hL (by omega) hF (by omega)).mono ?_;rintro e w4 ⟨hO4,hR4,hT4⟩;obtain rfl:=z9 hT4 hk;have H4:=ze hR4;have c14:=hR4.c1;have f14:=hR4.f1))
      go_ret2
      rw [zb HO]
      exact Tells.yes hk (by first |exact (hOs.none.trans hO3).trans hO4 |exact ((hOs.none.drewN _).trans hO3).trans hO4) hR4
     ·go_enter Tryz.func245,Tryz.ntmps245
      go_wp2_with (first |(go_at_call 147;refine (yz b L (n) len dp _ (by exact zb H) hL (by omega)).mono ?_;rintro e wq ⟨rfl,hwq⟩;obtain rfl:=hwq.symm;clear hwq) |(go_at_call 268;refine (yd _ _ (by omega)).mono ?_;rintro e w1 ⟨rfl,hOs⟩;have H:=ze ((zb H).keep hOs (fun f=>f) (fun _ _ f=>f));have HS:=ze ((zb HS).keep hOs (fun _ _ f=>f));have c1:=(zb H).c1;have f1:=(zb H).f1) |(go_at_call 102;refine (xz b L (n) len dp _ _ (by first |exact zb H |exact (zb H).drewN _) hL (by omega) (by decide) (by assumption)).mono ?_;rintro e wq ⟨rfl,qq,rfl⟩) |(go_at_call 102;refine (yM b L (n) len dp _ _ (by exact (zb H).drewN _) hL (by omega) (by decide) (by assumption)).mono ?_;rintro e w3 ⟨rfl,hR3,hO3⟩;have hR3:RdAt w3 b L ((n)+1) len dp:=hR3;have H3:=ze hR3);(have HS:=ze ((zb HS).mine (by first |exact hO3 |exact ((Only.refl _ _).drewN _).trans hO3) hb)) |(go_at_call 271;refine (yS b L (n+1) len dp a 2 _ (by exact zb H3) (by exact zb HS) hb hL (by omega) hF (by omega)).mono ?_;rintro e w4 ⟨hO4,hR4,hT4⟩;obtain ⟨v4,rfl,hv4⟩:=qu hT4 hk;obtain ⟨g4,hg4⟩:=hv4.form;subst hg4;have H4:=ze hR4;have c14:=hR4.c1;have f14:=hR4.f1))
      go_ret2
      rw [zb HO]
      exact Tells.no hk (by first |exact (hOs.none.trans hO3).trans hO4 |exact ((hOs.none.drewN _).trans hO3).trans hO4) hR4 (hv4.base (by first |exact (hOs.none.trans hO3).size |exact ((hOs.none.drewN _).trans hO3).size))
    ·by_cases q3:Pro.zh L n=117∧Pro.zh L (n+1)=123
     ·have HO:Hid (Pro.numO L len n=Pro.qG L len (n+2)):=by unfold Pro.numO;rw [hsh];simp only [Bool.false_eq_true,if_false];rw [if_neg q0];rw [if_neg q1];rw [if_neg q2];rw [if_pos q3];rfl
      have hlt:n<L.length:=Pro.zD (by omega)
      have hlt2:n+1<L.length:=Pro.zD (by omega)
      have m0:Pro.zz L n { data:=#[48] }=false:=by rw [Pro.zt L n 48 48 rfl];simp;omega
      have m1:Pro.zz L n { data:=#[99] }=false:=by rw [Pro.zt L n 99 99 rfl];simp;omega
      have m2:Pro.zz L n { data:=#[120] }=false:=by rw [Pro.zt L n 120 120 rfl];simp;omega
      have m3:Pro.zz L n { data:=#[117,123] }=true:=by rw [Pro.yC L n 117 123 117 123 rfl rfl];simp;omega
      clear q0 q1 q2 q3
      by_cases hk:(Pro.qG L len (n+2)).k=0
      ·go_enter Tryz.func245,Tryz.ntmps245
       go_wp2_with (first |(go_at_call 147;refine (yz b L (n) len dp _ (by exact zb H) hL (by omega)).mono ?_;rintro e wq ⟨rfl,hwq⟩;obtain rfl:=hwq.symm;clear hwq) |(go_at_call 268;refine (yd _ _ (by omega)).mono ?_;rintro e w1 ⟨rfl,hOs⟩;have H:=ze ((zb H).keep hOs (fun f=>f) (fun _ _ f=>f));have HS:=ze ((zb HS).keep hOs (fun _ _ f=>f));have c1:=(zb H).c1;have f1:=(zb H).f1) |(go_at_call 102;refine (xz b L (n) len dp _ _ (by first |exact zb H |exact (zb H).drewN _) hL (by omega) (by decide) (by assumption)).mono ?_;rintro e wq ⟨rfl,qq,rfl⟩) |(go_at_call 102;refine (yM b L (n) len dp _ _ (by exact (zb H).drewN _) hL (by omega) (by decide) (by assumption)).mono ?_;rintro e w3 ⟨rfl,hR3,hO3⟩;have hR3:RdAt w3 b L ((n)+2) len dp:=hR3;have H3:=ze hR3);(have HS:=ze ((zb HS).mine (by first |exact hO3 |exact ((Only.refl _ _).drewN _).trans hO3) hb)) |(go_at_call 272;refine (kE b L (n+2) len dp a _ (by exact zb H3) (by exact zb HS) hb hL (by omega) hF).mono ?_;rintro e w4 ⟨hO4,hR4,hT4⟩;obtain rfl:=z9 hT4 hk;have H4:=ze hR4;have c14:=hR4.c1;have f14:=hR4.f1))
       go_ret2
       rw [zb HO]
       exact Tells.yes hk (by first |exact (hOs.none.trans hO3).trans hO4 |exact ((hOs.none.drewN _).trans hO3).trans hO4) hR4
      ·go_enter Tryz.func245,Tryz.ntmps245
       go_wp2_with (first |(go_at_call 147;refine (yz b L (n) len dp _ (by exact zb H) hL (by omega)).mono ?_;rintro e wq ⟨rfl,hwq⟩;obtain rfl:=hwq.symm;clear hwq) |(go_at_call 268;refine (yd _ _ (by omega)).mono ?_;rintro e w1 ⟨rfl,hOs⟩;have H:=ze ((zb H).keep hOs (fun f=>f) (fun _ _ f=>f));have HS:=ze ((zb HS).keep hOs (fun _ _ f=>f));have c1:=(zb H).c1;have f1:=(zb H).f1) |(go_at_call 102;refine (xz b L (n) len dp _ _ (by first |exact zb H |exact (zb H).drewN _) hL (by omega) (by decide) (by assumption)).mono ?_;rintro e wq ⟨rfl,qq,rfl⟩) |(go_at_call 102;refine (yM b L (n) len dp _ _ (by exact (zb H).drewN _) hL (by omega) (by decide) (by assumption)).mono ?_;rintro e w3 ⟨rfl,hR3,hO3⟩;have hR3:RdAt w3 b L ((n)+2) len dp:=hR3;have H3:=ze hR3);(have HS:=ze ((zb HS).mine (by first |exact hO3 |exact ((Only.refl _ _).drewN _).trans hO3) hb)) |(go_at_call 272;refine (kE b L (n+2) len dp a _ (by exact zb H3) (by exact zb HS) hb hL (by omega) hF).mono ?_;rintro e w4 ⟨hO4,hR4,hT4⟩;obtain ⟨v4,rfl,hv4⟩:=qu hT4 hk;obtain ⟨g4,hg4⟩:=hv4.form;subst hg4;have H4:=ze hR4;have c14:=hR4.c1;have f14:=hR4.f1))
       go_ret2
       rw [zb HO]
       exact Tells.no hk (by first |exact (hOs.none.trans hO3).trans hO4 |exact ((hOs.none.drewN _).trans hO3).trans hO4) hR4 (hv4.base (by first |exact (hOs.none.trans hO3).size |exact ((hOs.none.drewN _).trans hO3).size))
     ·by_cases q4:Pro.zh L n=117
      ·have HO:Hid (Pro.numO L len n=Pro.z8 L len (n+1)):=by unfold Pro.numO;rw [hsh];simp only [Bool.false_eq_true,if_false];rw [if_neg q0];rw [if_neg q1];rw [if_neg q2];rw [if_neg q3];rw [if_pos q4];rfl
       have hlt:n<L.length:=Pro.zD (by omega)
       have m0:Pro.zz L n { data:=#[48] }=false:=by rw [Pro.zt L n 48 48 rfl];simp;omega
       have m1:Pro.zz L n { data:=#[99] }=false:=by rw [Pro.zt L n 99 99 rfl];simp;omega
       have m2:Pro.zz L n { data:=#[120] }=false:=by rw [Pro.zt L n 120 120 rfl];simp;omega
       have m3:Pro.zz L n { data:=#[117,123] }=false:=by rw [Pro.yC L n 117 123 117 123 rfl rfl];simp;omega
       have m4:Pro.zz L n { data:=#[117] }=true:=by rw [Pro.zt L n 117 117 rfl];simp;omega
       clear q0 q1 q2 q3 q4
       by_cases hk:(Pro.z8 L len (n+1)).k=0
       ·go_enter Tryz.func245,Tryz.ntmps245
        go_wp2_with (first |(go_at_call 147;refine (yz b L (n) len dp _ (by exact zb H) hL (by omega)).mono ?_;rintro e wq ⟨rfl,hwq⟩;obtain rfl:=hwq.symm;clear hwq) |(go_at_call 268;refine (yd _ _ (by omega)).mono ?_;rintro e w1 ⟨rfl,hOs⟩;have H:=ze ((zb H).keep hOs (fun f=>f) (fun _ _ f=>f));have HS:=ze ((zb HS).keep hOs (fun _ _ f=>f));have c1:=(zb H).c1;have f1:=(zb H).f1) |(go_at_call 102;refine (xz b L (n) len dp _ _ (by first |exact zb H |exact (zb H).drewN _) hL (by omega) (by decide) (by assumption)).mono ?_;rintro e wq ⟨rfl,qq,rfl⟩) |(go_at_call 102;refine (yM b L (n) len dp _ _ (by exact (zb H).drewN _) hL (by omega) (by decide) (by assumption)).mono ?_;rintro e w3 ⟨rfl,hR3,hO3⟩;have hR3:RdAt w3 b L ((n)+1) len dp:=hR3;have H3:=ze hR3);(have HS:=ze ((zb HS).mine (by first |exact hO3 |exact ((Only.refl _ _).drewN _).trans hO3) hb)) |(go_at_call 273;refine (ka b L (n+1) len dp a _ (by exact zb H3) (by exact zb HS) hb hL (by omega) hF).mono ?_;rintro e w4 ⟨hO4,hR4,hT4⟩;obtain rfl:=z9 hT4 hk;have H4:=ze hR4;have c14:=hR4.c1;have f14:=hR4.f1))
        go_ret2
        rw [zb HO]
        exact Tells.yes hk (by first |exact (hOs.none.trans hO3).trans hO4 |exact ((hOs.none.drewN _).trans hO3).trans hO4) hR4
       ·go_enter Tryz.func245,Tryz.ntmps245
        go_wp2_with (first |(go_at_call 147;refine (yz b L (n) len dp _ (by exact zb H) hL (by omega)).mono ?_;rintro e wq ⟨rfl,hwq⟩;obtain rfl:=hwq.symm;clear hwq) |(go_at_call 268;refine (yd _ _ (by omega)).mono ?_;rintro e w1 ⟨rfl,hOs⟩;have H:=ze ((zb H).keep hOs (fun f=>f) (fun _ _ f=>f));have HS:=ze ((zb HS).keep hOs (fun _ _ f=>f));have c1:=(zb H).c1;have f1:=(zb H).f1) |(go_at_call 102;refine (xz b L (n) len dp _ _ (by first |exact zb H |exact (zb H).drewN _) hL (by omega) (by decide) (by assumption)).mono ?_;rintro e wq ⟨rfl,qq,rfl⟩) |(go_at_call 102;refine (yM b L (n) len dp _ _ (by exact (zb H).drewN _) hL (by omega) (by decide) (by assumption)).mono ?_;rintro e w3 ⟨rfl,hR3,hO3⟩;have hR3:RdAt w3 b L ((n)+1) len dp:=hR3;have H3:=ze hR3);(have HS:=ze ((zb HS).mine (by first |exact hO3 |exact ((Only.refl _ _).drewN _).trans hO3) hb)) |(go_at_call 273;refine (ka b L (n+1) len dp a _ (by exact zb H3) (by exact zb HS) hb hL (by omega) hF).mono ?_;rintro e w4 ⟨hO4,hR4,hT4⟩;obtain ⟨v4,rfl,hv4⟩:=qu hT4 hk;obtain ⟨g4,hg4⟩:=hv4.form;subst hg4;have H4:=ze hR4;have c14:=hR4.c1;have f14:=hR4.f1))
        go_ret2
        rw [zb HO]
        exact Tells.no hk (by first |exact (hOs.none.trans hO3).trans hO4 |exact ((hOs.none.drewN _).trans hO3).trans hO4) hR4 (hv4.base (by first |exact (hOs.none.trans hO3).size |exact ((hOs.none.drewN _).trans hO3).size))
      ·have HO:Hid (Pro.numO L len n=Pro.bad 3 (Pro.zB L len n) n):=by unfold Pro.numO;rw [hsh];simp only [Bool.false_eq_true,if_false];rw [if_neg q0];rw [if_neg q1];rw [if_neg q2];rw [if_neg q3];rw [if_neg q4];rfl
       have m0:Pro.zz L n { data:=#[48] }=false:=by rw [Pro.zt L n 48 48 rfl];simp;omega
       have m1:Pro.zz L n { data:=#[99] }=false:=by rw [Pro.zt L n 99 99 rfl];simp;omega
       have m2:Pro.zz L n { data:=#[120] }=false:=by rw [Pro.zt L n 120 120 rfl];simp;omega
       have m3:Pro.zz L n { data:=#[117,123] }=false:=by rw [Pro.yC L n 117 123 117 123 rfl rfl];simp;omega
       have m4:Pro.zz L n { data:=#[117] }=false:=by rw [Pro.zt L n 117 117 rfl];simp;omega
       clear q0 q1 q2 q3 q4
       go_enter Tryz.func245,Tryz.ntmps245
       go_wp2_with (first |(go_at_call 147;refine (yz b L (n) len dp _ (by exact zb H) hL (by omega)).mono ?_;rintro e wq ⟨rfl,hwq⟩;obtain rfl:=hwq.symm;clear hwq) |(go_at_call 268;refine (yd _ _ (by omega)).mono ?_;rintro e w1 ⟨rfl,hOs⟩;have H:=ze ((zb H).keep hOs (fun f=>f) (fun _ _ f=>f));have HS:=ze ((zb HS).keep hOs (fun _ _ f=>f));have c1:=(zb H).c1;have f1:=(zb H).f1) |(go_at_call 102;refine (xz b L (n) len dp _ _ (by first |exact zb H |exact (zb H).drewN _) hL (by omega) (by decide) (by assumption)).mono ?_;rintro e wq ⟨rfl,qq,rfl⟩) |(go_at_call 55;refine (jx b L (n) len dp a _ (by exact (zb H).drewN _) (by exact (zb HS).drewN _) hL (by omega)).mono ?_;rintro e wq ⟨v,rfl,hv,hO1⟩))
       go_ret2
       exact jw (zb HO) (by decide) ((hOs.none.drewN _).trans hO1.none) (((zb H).drewN _).keep hO1 (fun f=>f) (fun _ _ f=>f)) (hv.base hOs.size)
 ·have HO:Hid (Pro.numO L len n=Pro.good (Pro.jC (Pro.zh L n)) (n+1)):=by unfold Pro.numO;rw [if_pos hsh];rfl
  have hlt:n<L.length:=by
   by_cases hlt:n<L.length
   ·exact hlt
   ·rw [Pro.xp (by omega)] at hsh;exact absurd hsh (by decide)
  go_enter Tryz.func245,Tryz.ntmps245
  go_wp2_with (first |(go_at_call 147;refine (yz b L (n) len dp _ (by exact zb H) hL (by omega)).mono ?_;rintro e wq ⟨rfl,hwq⟩;obtain rfl:=hwq.symm;clear hwq) |(go_at_call 268;refine (yd _ _ (by omega)).mono ?_;rintro e w1 ⟨rfl,hOs⟩;have H:=ze ((zb H).keep hOs (fun f=>f) (fun _ _ f=>f));have HS:=ze ((zb HS).keep hOs (fun _ _ f=>f));have c1:=(zb H).c1;have f1:=(zb H).f1))
  go_ret2
  exact qM (zb HO) (by rw [zb HO];rfl) (hOs.none.mine _ _) ((zb H).setN _ _ (by omega))
def Own (b base:Nat)(k:Nat):Prop:=k=b∨base≤k
theorem Own.of {b base:Nat}{w w':World}(k:Only (zl b) w w'):Only (Own b base) w w':=k.mono (fun _ _ h=>.inl h)
theorem Own.to {b:Nat}{w w':World}(k:Only (Own b w.heap.size) w w'):Only (zl b) w w':=k.mono (fun j hj h=>by rcases h with h |h;exact h;omega)
structure Trk (base:Nat)(w0:World)(b:Nat)(L:List (Int×Int))(n:Nat)(len dp:Int)(a:Nat→Addr)(w:World):Prop where
 rd:RdAt w b L n len dp
 se:Sents w a
 on:Only (Own b base) w0 w
 hb:10≤b
 lt:b<base
 le:base≤w0.heap.size
section
variable {base:Nat} {w0:World} {b:Nat} {L:List (Int×Int)} {n:Nat} {len dp:Int} {a:Nat→Addr} {w w':World}
theorem Trk.start (h:RdAt w b L n len dp)(hS:Sents w a)(hb:10≤b):Trk w.heap.size w b L n len dp a w:=⟨h,hS,Only.refl _ _,hb,h.lt,Nat.le_refl _⟩
theorem Trk.drewN (t:Trk base w0 b L n len dp a w)(q:Nat):Trk base w0 b L n len dp a (w.drewN q):=⟨t.rd.drewN q,t.se.drewN q,t.on.drewN q,t.hb,t.lt,t.le⟩
theorem Trk.setN (t:Trk base w0 b L n len dp a w)(m:Nat)(j:Int)(hj:j=(m:Int)):Trk base w0 b L m len dp a (w.setCell ⟨b,1,none⟩ (.int .i64 j)):=⟨t.rd.setN m j hj,t.se.mine ((Only.refl _ _).mine _ _) t.hb,t.on.trans (Own.of ((Only.refl _ _).mine _ _)),t.hb,t.lt,t.le⟩
theorem Trk.calm (t:Trk base w0 b L n len dp a w)(k:Only (fun _=>False) w w'):Trk base w0 b L n len dp a w':=⟨t.rd.keep k (fun f=>f) (fun _ _ f=>f),t.se.keep k (fun _ _ f=>f),t.on.trans k.none,t.hb,t.lt,t.le⟩
theorem Trk.mine {m:Nat}(t:Trk base w0 b L n len dp a w)(k:Only (zl b) w w')(h:RdAt w' b L m len dp):Trk base w0 b L m len dp a w':=⟨h,t.se.mine k t.hb,t.on.trans (Own.of k),t.hb,t.lt,t.le⟩
theorem Trk.c1 (t:Trk base w0 b L n len dp a w):w.cell? ⟨b,1,none⟩=some (.int .i64 n):=t.rd.c1
theorem Trk.f1 (t:Trk base w0 b L n len dp a w):w.frozen? ⟨b,1,none⟩=false:=t.rd.f1
theorem Trk.good {o:Pro.Out}{yes yes' no:Value}{v:Int}(t:Trk w0.heap.size w0 b L n len dp a w)(ho:o=Pro.good v n)(hy:yes'=yes):Tells b L len dp a w0 o yes no (.returned (.tuple #[yes',.nilIface])) w:=qM ho hy (Own.to t.on) t.rd
theorem Trk.bad {o:Pro.Out}{yes no v:Value}{k:Nat}{p:Int}(t:Trk w0.heap.size w0 b L n len dp a w)(ho:o=Pro.bad k p n)(hk:k≠0)(hF:FaultAt w w0.heap.size v (zS a k) p):Tells b L len dp a w0 o yes no (.returned (.tuple #[no,v])) w:=jw ho hk (Own.to t.on) t.rd hF
theorem Trk.yes {o:Pro.Out}{yes no:Value}(t:Trk w0.heap.size w0 b L o.n len dp a w)(hk:o.k=0):Tells b L len dp a w0 o yes no (.returned (.tuple #[yes,.nilIface])) w:=Tells.yes hk (Own.to t.on) t.rd
theorem Trk.no {o:Pro.Out}{yes no v:Value}(t:Trk w0.heap.size w0 b L o.n len dp a w)(hk:o.k≠0)(hv:FaultAt w w0.heap.size v (zS a o.k) o.p):Tells b L len dp a w0 o yes no (.returned (.tuple #[no,v])) w:=Tells.no hk (Own.to t.on) t.rd hv
theorem yG (t:Trk base w0 b L n len dp a w)(hL:L.length≤400)(hn:n≤1000) :
  Calls Tryz.prog 147 #[.pointer (some ⟨b,0,none⟩)] w fun x w'=>x = .returned (.int .i32 (Pro.zh L n))∧w'=w:=yz b L n len dp w t.rd hL hn
theorem Y8 (k:Nat)(t:Trk base w0 b L n len dp a w)(hL:L.length≤400)(hn:n≤1000)(hk:k≤1000) :
  Calls Tryz.prog 149 #[.pointer (some ⟨b,0,none⟩),.int .i64 k] w fun x w'=>x = .returned (.int .i32 (Pro.zh L (n+k)))∧w'=w:=wL b L n len dp k w t.rd hL hn hk
theorem yF (t:Trk base w0 b L n len dp a w)(hL:L.length≤400)(hn:n≤L.length) :
  Calls Tryz.prog 103 #[.pointer (some ⟨b,0,none⟩)] w fun x w'=>x = .returned (.int .i64 (Pro.zB L len n))∧∃ q,w'=w.drewN q:=Jb b L n len dp w t.rd hL hn
theorem wE (t:Trk base w0 b L n len dp a w) :
  Calls Tryz.prog 54 #[.pointer (some ⟨b,0,none⟩)] w fun x w'=>x = .returned (.bool ((n:Int) == (L.length:Int)))∧∃ q,w'=w.drewN q:=jp b L n len dp w t.rd
theorem yZ (word:ByteArray)(t:Trk base w0 b L n len dp a w)(hL:L.length≤400)(hn:n≤1000)(hw:word.size≤10)(hm:Pro.zz L n word=false) :
  Calls Tryz.prog 102 #[.pointer (some ⟨b,0,none⟩),.string word] w fun x w'=>x = .returned (.bool false)∧∃ q,w'=w.drewN q:=xz b L n len dp word w t.rd hL hn hw hm
theorem jz (word:ByteArray)(t:Trk base w0 b L n len dp a w)(hL:L.length≤400)(hn:n≤1000)(hw:word.size≤10)(hm:Pro.zz L n word=true) :
  Calls Tryz.prog 102 #[.pointer (some ⟨b,0,none⟩),.string word] w fun x w'=>x = .returned (.bool true)∧Trk base w0 b L (n+word.size) len dp a w':=
 (yM b L n len dp word w t.rd hL hn hw hm).mono (by rintro e w1 ⟨rfl,h1,h2⟩;exact ⟨rfl,t.mine h2 h1⟩)
theorem taken_t (word:ByteArray)(t:Trk base w0 b L n len dp a w)(hL:L.length≤400)(hn:n≤1000)(hw:word.size≤10) :
  Calls Tryz.prog 102 #[.pointer (some ⟨b,0,none⟩),.string word] w fun x w'=>x = .returned (.bool (Pro.zz L n word))∧Trk base w0 b L (Pro.behind L n word) len dp a w':=
 (Vn b L n len dp word w t.rd hL hn hw).mono (by rintro e w1 ⟨rfl,h1,h2⟩;exact ⟨rfl,t.mine h2 h1⟩)
def rdN (w:World)(b:Nat):Nat:=match w.cell? ⟨b,1,none⟩ with
 |some v=>(intOf v).toNat
 |none=>0
theorem Trk.rdN (t:Trk base w0 b L n len dp a w):rdN w b=n:=by
 unfold Go.Proofs.YtnagphodmfejiaaGreatDoor.rdN;rw [t.c1];simp [intOf]
theorem ZT (t:Trk base w0 b L n len dp a w)(hL:L.length≤400)(hn:n≤L.length) :
  Calls Tryz.prog 55 #[.pointer (some ⟨b,0,none⟩)] w fun x w'=>∃ v,x = .returned v∧FaultAt w' w0.heap.size v (zS a 3) (Pro.zB L len n)∧Trk base w0 b L n len dp a w':=
 (jx b L n len dp a w t.rd t.se hL hn).mono (by rintro e w1 ⟨v,rfl,hv,hO⟩;exact ⟨v,rfl,hv.base t.on.size,t.calm hO⟩)
theorem kY (s:ByteArray)(r:Int)(t:Trk base w0 b L n len dp a w)(h1:r≤1114111)(hs:∀ b∈s.data.toList,b.toNat<128)(hz:s.size≤20) :
  Calls Tryz.prog 244 #[.string s,.int .i32 r] w fun e w'=>e = .returned (.bool (Pro.inB s r))∧Trk base w0 b L n len dp a w':=
 (ZS s r w h1 hs hz).mono (by rintro e w1 ⟨rfl,hO⟩;exact ⟨rfl,t.calm hO⟩)
theorem YF (T:TypeId)(k:Nat)(p:Int)(x:Value)(hx : .iface T x=zS a k)(t:Trk base w0 b L n len dp a w) :
  Calls Tryz.prog 56 #[.iface T x,.int .i64 p] w fun e w'=>∃ v,e = .returned v∧FaultAt w' w0.heap.size v (zS a k) p∧Trk base w0 b L n len dp a w':=
 (wM T x p w).mono (by rintro e w1 ⟨v,rfl,hv,hO⟩;rw [hx] at hv;exact ⟨v,rfl,hv.base t.on.size,t.calm hO⟩)
theorem qo {f:FuncId}{args:Array Value}{o:Pro.Out}{yes no:Value}(t:Trk base w0 b L n len dp a w)(h:Calls Tryz.prog f args w (Tells b L len dp a w o yes no)) :
  Calls Tryz.prog f args w fun x w'=>Trk base w0 b L o.n len dp a w'∧((o.k=0∧x = .returned (.tuple #[yes,.nilIface]))∨(o.k≠0∧∃ v,x = .returned (.tuple #[no,v])∧FaultAt w' w0.heap.size v (zS a o.k) o.p)):=
 h.mono (by
  rintro x w1 ⟨hO,hR,hT⟩
  refine ⟨t.mine hO hR,?_⟩
  rcases hT with hT |⟨hk,v,hx,hv⟩
  ·exact .inl hT
  ·exact .inr ⟨hk,v,hx,hv.base t.on.size⟩)
end
end
section
open Go.RowKit
set_option maxHeartbeats 2000000
def charV (c:Int):Value:=.iface 245 (.int .i32 c)
def manyV (c:Int):Value:=.iface 246 (.int .i32 c)
def oneV (m:Bool)(c:Int):Value:=match m with
 |true=>manyV c
 |false=>charV c
theorem vQ (b:Nat)(L:List (Int×Int))(n:Nat)(len dp:Int)(a:Nat→Addr)(w:World)(h:RdAt w b L n len dp)(hS:Sents w a)(hb:10≤b)(hL:L.length≤400)(hn:n<L.length)(hF:Pro.Fit L) :
  Calls Tryz.prog 218 #[.pointer (some ⟨b,0,none⟩)] w (Tells b L len dp a w (Pro.escO L len n) (oneV (Pro.setB (Pro.zh L (n+1))) (Pro.escO L len n).v) .nilIface):=by
 have T:=ze (Trk.start h hS hb)
 have c1:=h.c1
 have f1:=h.f1
 clear h hS
 have hfit:=hF (n+1)
 cases hset:Pro.setB (Pro.zh L (n+1))
 ·have hset':Pro.inB { data:=#[100,68,119,87,115,83] } (Pro.zh L (n+1))=false:=hset
  cases hback:Pro.backB (Pro.zh L (n+1))
  ·have HO:Hid (Pro.escO L len n=Pro.numO L len (n+1)):=by unfold Pro.escO;rw [if_neg (by simp [hset]),if_neg (by simp [hback])];rfl
   have hback':Pro.inB { data:=#[49,50,51,52,53,54,55,56,57,107,112,80] } (Pro.zh L (n+1))=false:=hback
   by_cases hk:(Pro.numO L len (n+1)).k=0
   ·go_enter Tryz.func218,Tryz.ntmps218
    go_wp2_with (first |(go_at_call 103;refine (yF (n:=n) (by exact zb T) hL (by omega)).mono ?_;rintro e wq ⟨rfl,qq,rfl⟩) |(go_at_call 147;refine (yG (n:=n+1) (by exact ((zb T).drewN _).setN _ _ (by omega)) hL (by omega)).mono ?_;rintro e wq ⟨rfl,hwq⟩;obtain rfl:=hwq.symm;clear hwq) |(go_at_call 244;refine (kY (n:=n+1) _ _ (by first |exact zb T |exact ((zb T).drewN _).setN _ _ (by omega)) (by omega) (by decide) (by decide)).mono ?_;rintro e wq ⟨rfl,tq⟩;have T:=ze tq;have c1:=tq.c1;have f1:=tq.f1) |(go_at_call 245;refine (qo (n:=n+1) (by exact zb T) (ke b L (n+1) len dp a _ (Trk.rd (n:=n+1) (by exact zb T)) (Trk.se (n:=n+1) (by exact zb T)) hb hL (by omega) hF)).mono ?_;rintro e wq ⟨tq,hT⟩;obtain rfl:=z9 hT hk;clear hT;have T:=ze tq;have c1:=tq.c1;have f1:=tq.f1))
    go_ret2
    rw [zb HO]
    exact (zb T).yes hk
   ·go_enter Tryz.func218,Tryz.ntmps218
    go_wp2_with (first |(go_at_call 103;refine (yF (n:=n) (by exact zb T) hL (by omega)).mono ?_;rintro e wq ⟨rfl,qq,rfl⟩) |(go_at_call 147;refine (yG (n:=n+1) (by exact ((zb T).drewN _).setN _ _ (by omega)) hL (by omega)).mono ?_;rintro e wq ⟨rfl,hwq⟩;obtain rfl:=hwq.symm;clear hwq) |(go_at_call 244;refine (kY (n:=n+1) _ _ (by first |exact zb T |exact ((zb T).drewN _).setN _ _ (by omega)) (by omega) (by decide) (by decide)).mono ?_;rintro e wq ⟨rfl,tq⟩;have T:=ze tq;have c1:=tq.c1;have f1:=tq.f1) |(go_at_call 245;refine (qo (n:=n+1) (by exact zb T) (ke b L (n+1) len dp a _ (Trk.rd (n:=n+1) (by exact zb T)) (Trk.se (n:=n+1) (by exact zb T)) hb hL (by omega) hF)).mono ?_;rintro e wq ⟨tq,hT⟩;obtain ⟨v,rfl,hv⟩:=qu hT hk;obtain ⟨gv,hgv⟩:=hv.form;subst hgv;clear hT;have T:=ze tq;have c1:=tq.c1;have f1:=tq.f1))
    go_ret2
    rw [zb HO]
    exact (zb T).no hk hv
  ·have HO:Hid (Pro.escO L len n=Pro.bad 6 (Pro.zB L len n) (n+1)):=by unfold Pro.escO;rw [if_neg (by simp [hset]),if_pos hback];rfl
   have hback':Pro.inB { data:=#[49,50,51,52,53,54,55,56,57,107,112,80] } (Pro.zh L (n+1))=true:=hback
   have hs6:=(zb T).se.s6
   go_enter Tryz.func218,Tryz.ntmps218
   go_wp2_with (first |(go_at_call 103;refine (yF (n:=n) (by exact zb T) hL (by omega)).mono ?_;rintro e wq ⟨rfl,qq,rfl⟩) |(go_at_call 147;refine (yG (n:=n+1) (by exact ((zb T).drewN _).setN _ _ (by omega)) hL (by omega)).mono ?_;rintro e wq ⟨rfl,hwq⟩;obtain rfl:=hwq.symm;clear hwq) |(go_at_call 244;refine (kY (n:=n+1) _ _ (by first |exact zb T |exact ((zb T).drewN _).setN _ _ (by omega)) (by omega) (by decide) (by decide)).mono ?_;rintro e wq ⟨rfl,tq⟩;have T:=ze tq;have c1:=tq.c1;have f1:=tq.f1);(have hs6:=(zb T).se.s6) |(go_at_call 56;refine (YF (n:=n+1) _ 6 _ _ rfl (by exact zb T)).mono ?_;rintro e wq ⟨v,rfl,hv,tq⟩;have T:=ze tq;have c1:=tq.c1;have f1:=tq.f1))
   go_ret2
   exact (zb T).bad (zb HO) (by decide) hv
 ·have HO:Hid (Pro.escO L len n=Pro.good (Pro.zh L (n+1)) (n+2)):=by unfold Pro.escO;rw [if_pos hset];rfl
  have hset':Pro.inB { data:=#[100,68,119,87,115,83] } (Pro.zh L (n+1))=true:=hset
  go_enter Tryz.func218,Tryz.ntmps218
  go_wp2_with (first |(go_at_call 103;refine (yF (n:=n) (by exact zb T) hL (by omega)).mono ?_;rintro e wq ⟨rfl,qq,rfl⟩) |(go_at_call 147;refine (yG (n:=n+1) (by exact ((zb T).drewN _).setN _ _ (by omega)) hL (by omega)).mono ?_;rintro e wq ⟨rfl,hwq⟩;obtain rfl:=hwq.symm;clear hwq) |(go_at_call 244;refine (kY (n:=n+1) _ _ (by exact ((zb T).drewN _).setN _ _ (by omega)) (by omega) (by decide) (by decide)).mono ?_;rintro e wq ⟨rfl,tq⟩;have T:=ze tq;have c1:=tq.c1;have f1:=tq.f1))
  go_ret2
  exact ((zb T).setN (n+2) _ (by omega)).good (zb HO) (by rw [zb HO];rfl)
namespace Pro
theorem setB_b:setB 98=false:=by decide
theorem setB_d:setB 45=false:=by decide
theorem zan {L:List (Int×Int)}{n:Nat}(h:zh L n≠92):many L n=false:=by unfold many;simp [h]
theorem ZU {L:List (Int×Int)}{n:Nat}(h:zh L n=92):many L n=setB (zh L (n+1)):=by unfold many;simp [h]
end Pro
theorem xr (b:Nat)(L:List (Int×Int))(n:Nat)(len dp:Int)(a:Nat→Addr)(w:World)(h:RdAt w b L n len dp)(hS:Sents w a)(hb:10≤b)(hL:L.length≤400)(hn:n<L.length)(hF:Pro.Fit L) :
  Calls Tryz.prog 264 #[.pointer (some ⟨b,0,none⟩)] w (Tells b L len dp a w (Pro.zj L len n) (oneV (Pro.many L n) (Pro.zj L len n).v) .nilIface):=by
 have T:=ze (Trk.start h hS hb)
 have c1:=h.c1
 have f1:=h.f1
 clear h hS
 have hfit:=hF n
 by_cases he:Pro.zh L n=92
 ·by_cases h1:Pro.zh L (n+1)=98
  ·have HO:Hid (Pro.zj L len n=Pro.good 8 (n+2)):=by unfold Pro.zj;rw [if_pos ⟨he,h1⟩];rfl
   have HM:Hid (Pro.many L n=false):=by rw [Pro.ZU he,h1];exact Pro.setB_b
   have m1:Pro.zz L n { data:=#[92,98] }=true:=by rw [Pro.yC L n 92 98 92 98 rfl rfl];simp [he,h1]
   clear he h1
   go_enter Tryz.func264,Tryz.ntmps264
   go_wp2_with (go_at_call 102;refine (jz (n:=n) _ (by exact zb T) hL (by omega) (by decide) (by assumption)).mono ?_;rintro e wq ⟨rfl,tq⟩;have tq:Trk _ _ b L ((n)+2) len dp a wq:=tq;have T:=ze tq;have c1:=tq.c1;have f1:=tq.f1)
   go_ret2
   exact (zb T).good (zb HO) (by rw [zb HO,zb HM];rfl)
  ·have m1:Pro.zz L n { data:=#[92,98] }=false:=by rw [Pro.yC L n 92 98 92 98 rfl rfl];simp [he,h1]
   by_cases h2:Pro.zh L (n+1)=45
   ·have HO:Hid (Pro.zj L len n=Pro.good 45 (n+2)):=by unfold Pro.zj;rw [if_neg (fun hh=>h1 hh.2),if_pos ⟨he,h2⟩];rfl
    have HM:Hid (Pro.many L n=false):=by rw [Pro.ZU he,h2];exact Pro.setB_d
    have m2:Pro.zz L n { data:=#[92,45] }=true:=by rw [Pro.yC L n 92 45 92 45 rfl rfl];simp [he,h2]
    clear he h1 h2
    go_enter Tryz.func264,Tryz.ntmps264
    go_wp2_with (first |(go_at_call 102;refine (yZ (n:=n) _ (by first |exact zb T |exact (zb T).drewN _) hL (by omega) (by decide) (by assumption)).mono ?_;rintro e wq ⟨rfl,qq,rfl⟩) |(go_at_call 102;refine (jz (n:=n) _ (by exact (zb T).drewN _) hL (by omega) (by decide) (by assumption)).mono ?_;rintro e wq ⟨rfl,tq⟩;have tq:Trk _ _ b L ((n)+2) len dp a wq:=tq;have T:=ze tq;have c1:=tq.c1;have f1:=tq.f1))
    go_ret2
    exact (zb T).good (zb HO) (by rw [zb HO,zb HM];rfl)
   ·have m2:Pro.zz L n { data:=#[92,45] }=false:=by rw [Pro.yC L n 92 45 92 45 rfl rfl];simp [he,h2]
    have HO:Hid (Pro.zj L len n=Pro.escO L len n):=by unfold Pro.zj;rw [if_neg (fun hh=>h1 hh.2),if_neg (fun hh=>h2 hh.2),if_pos he];rfl
    have HM:Hid (Pro.many L n=Pro.setB (Pro.zh L (n+1))):=Pro.ZU he
    have he':(Pro.zh L n == 92)=true:=by simp [he]
    clear he h1 h2
    by_cases hk:(Pro.escO L len n).k=0
    ·go_enter Tryz.func264,Tryz.ntmps264
     go_wp2_with (first |(go_at_call 102;refine (yZ (n:=n) _ (by first |exact zb T |exact (zb T).drewN _) hL (by omega) (by decide) (by assumption)).mono ?_;rintro e wq ⟨rfl,qq,rfl⟩) |(go_at_call 147;refine (yG (n:=n) (by exact (zb T).drewN _) hL (by omega)).mono ?_;rintro e wq ⟨rfl,hwq⟩;obtain rfl:=hwq.symm;clear hwq) |(go_at_call 218;refine (qo (n:=n) (by exact (zb T).drewN _) (vQ b L n len dp a _ (Trk.rd (n:=n) (by exact (zb T).drewN _)) (Trk.se (n:=n) (by exact (zb T).drewN _)) hb hL (by omega) hF)).mono ?_;rintro e wq ⟨tq,hT⟩;obtain rfl:=z9 hT hk;clear hT;have T:=ze tq;have c1:=tq.c1;have f1:=tq.f1))
     go_ret2
     rw [zb HO,zb HM]
     exact (zb T).yes hk
    ·go_enter Tryz.func264,Tryz.ntmps264
     go_wp2_with (first |(go_at_call 102;refine (yZ (n:=n) _ (by first |exact zb T |exact (zb T).drewN _) hL (by omega) (by decide) (by assumption)).mono ?_;rintro e wq ⟨rfl,qq,rfl⟩) |(go_at_call 147;refine (yG (n:=n) (by exact (zb T).drewN _) hL (by omega)).mono ?_;rintro e wq ⟨rfl,hwq⟩;obtain rfl:=hwq.symm;clear hwq) |(go_at_call 218;refine (qo (n:=n) (by exact (zb T).drewN _) (vQ b L n len dp a _ (Trk.rd (n:=n) (by exact (zb T).drewN _)) (Trk.se (n:=n) (by exact (zb T).drewN _)) hb hL (by omega) hF)).mono ?_;rintro e wq ⟨tq,hT⟩;obtain ⟨v,rfl,hv⟩:=qu hT hk;obtain ⟨gv,hgv⟩:=hv.form;subst hgv;clear hT;have T:=ze tq;have c1:=tq.c1;have f1:=tq.f1))
     go_ret2
     rw [zb HO,zb HM]
     exact (zb T).no hk hv
 ·have m1:Pro.zz L n { data:=#[92,98] }=false:=by rw [Pro.yC L n 92 98 92 98 rfl rfl];simp [he]
  have m2:Pro.zz L n { data:=#[92,45] }=false:=by rw [Pro.yC L n 92 45 92 45 rfl rfl];simp [he]
  have HO:Hid (Pro.zj L len n=Pro.good (Pro.zh L n) (n+1)):=by unfold Pro.zj;rw [if_neg (fun hh=>he hh.1),if_neg (fun hh=>he hh.1),if_neg he];rfl
  have HM:Hid (Pro.many L n=false):=Pro.zan he
  have he':(Pro.zh L n == 92)=false:=by simp [he]
  clear he
  go_enter Tryz.func264,Tryz.ntmps264
  go_wp2_with (first |(go_at_call 102;refine (yZ (n:=n) _ (by first |exact zb T |exact (zb T).drewN _) hL (by omega) (by decide) (by assumption)).mono ?_;rintro e wq ⟨rfl,qq,rfl⟩) |(go_at_call 147;refine (yG (n:=n) (by exact (zb T).drewN _) hL (by omega)).mono ?_;rintro e wq ⟨rfl,hwq⟩;obtain rfl:=hwq.symm;clear hwq))
  go_ret2
  exact (Trk.setN (by exact (zb T).drewN _) (n+1) _ (by omega)).good (zb HO) (by rw [zb HO,zb HM];rfl)
theorem vR (b:Nat)(L:List (Int×Int))(n:Nat)(len dp:Int)(a:Nat→Addr)(base:Nat)(w0 w:World)(t:Trk base w0 b L n len dp a w)(hL:L.length≤400)(hn:n≤500) :
  Calls Tryz.prog 265 #[.pointer (some ⟨b,0,none⟩)] w fun x w'=>x = .returned (.bool (Pro.qD L n))∧w'=w:=by
 have T:=ze t
 clear t
 by_cases h1:Pro.zh L n=45
 ·by_cases h2:Pro.zh L (n+1)=93
  ·have HD:Hid (Pro.qD L n=false):=by unfold Pro.qD;simp [h1,h2];trivial
   go_enter Tryz.func265,Tryz.ntmps265
   go_wp2_with (first |(go_at_call 147;refine (yG (n:=n) (by exact zb T) hL (by omega)).mono ?_;rintro e wq ⟨rfl,hwq⟩;obtain rfl:=hwq.symm;clear hwq) |(go_at_call 149;refine (Y8 (n:=n) 1 (by exact zb T) hL (by omega) (by omega)).mono ?_;rintro e wq ⟨rfl,hwq⟩;obtain rfl:=hwq.symm;clear hwq))
   go_ret
   rw [zb HD]
   exact ⟨rfl,rfl⟩
  ·by_cases h3:Pro.zh L (n+1) = -1
   ·have HD:Hid (Pro.qD L n=false):=by unfold Pro.qD;simp [h1,h3];trivial
    go_enter Tryz.func265,Tryz.ntmps265
    go_wp2_with (first |(go_at_call 147;refine (yG (n:=n) (by exact zb T) hL (by omega)).mono ?_;rintro e wq ⟨rfl,hwq⟩;obtain rfl:=hwq.symm;clear hwq) |(go_at_call 149;refine (Y8 (n:=n) 1 (by exact zb T) hL (by omega) (by omega)).mono ?_;rintro e wq ⟨rfl,hwq⟩;obtain rfl:=hwq.symm;clear hwq))
    go_ret
    rw [zb HD]
    exact ⟨rfl,rfl⟩
   ·have HD:Hid (Pro.qD L n=true):=by unfold Pro.qD;simp [h1,h2,h3];trivial
    have h2':(Pro.zh L (n+1) != 93)=true:=by simp [h2]
    have h3':(Pro.zh L (n+1) != -1)=true:=by simp [h3]
    clear h2 h3
    go_enter Tryz.func265,Tryz.ntmps265
    go_wp2_with (first |(go_at_call 147;refine (yG (n:=n) (by exact zb T) hL (by omega)).mono ?_;rintro e wq ⟨rfl,hwq⟩;obtain rfl:=hwq.symm;clear hwq) |(go_at_call 149;refine (Y8 (n:=n) 1 (by exact zb T) hL (by omega) (by omega)).mono ?_;rintro e wq ⟨rfl,hwq⟩;obtain rfl:=hwq.symm;clear hwq))
    go_ret
    rw [zb HD]
    exact ⟨rfl,rfl⟩
 ·have HD:Hid (Pro.qD L n=false):=by unfold Pro.qD;simp [h1];trivial
  have h1':(Pro.zh L n == 45)=false:=by simp [h1]
  clear h1
  go_enter Tryz.func265,Tryz.ntmps265
  go_wp2_with (first |(go_at_call 147;refine (yG (n:=n) (by exact zb T) hL (by omega)).mono ?_;rintro e wq ⟨rfl,hwq⟩;obtain rfl:=hwq.symm;clear hwq) |(go_at_call 149;refine (Y8 (n:=n) 1 (by exact zb T) hL (by omega) (by omega)).mono ?_;rintro e wq ⟨rfl,hwq⟩;obtain rfl:=hwq.symm;clear hwq))
  go_ret
  rw [zb HD]
  exact ⟨rfl,rfl⟩
end
end Go.Proofs.YtnagphodmfejiaaGreatDoor
