/- The program's quantifiers. -/
import Derived.Test.YtnagphodmfejiaaGreatDoorXProMProQ2
import Derived.ArgAppend
import Derived.OwnWalk
namespace Go.Proofs.YtnagphodmfejiaaGreatDoor
section
open Go.RowKit
set_option maxHeartbeats 4000000
set_option maxRecDepth 1000000
namespace Pro
def zy (L:List (Int×Int))(len:Int)(n:Nat):Bool×Out×Int:=
 if zh L n=42 then (true,good 0 (n+1),-1)
 else if zh L n=43 then (true,good 1 (n+1),-1)
 else if zh L n=63 then (true,good 0 (n+1),1)
 else if zh L n=123 then (true,zQ L len n)
 else (false,good 0 n,0)
def kg (L:List (Int×Int))(n:Nat):Nat:=if zh L n=63 then n+1 else n
end Pro
def Quants (b:Nat)(L:List (Int×Int))(len dp:Int)(a:Nat→Addr)(w:World)(p:Value)(o:Bool×Pro.Out×Int)(x:Ending)(w':World):Prop:=
 Only (zl b) w w'∧((o.1=false∧x = .returned (.tuple #[p,.nilIface])∧RdAt w' b L o.2.1.n len dp)∨
  (o.1=true∧o.2.1.k=0∧x = .returned (.tuple #[.iface 254 (.agg #[p,.int .i64 o.2.1.v,.int .i64 o.2.2]),.nilIface])∧RdAt w' b L (Pro.kg L o.2.1.n) len dp)∨
  (o.1=true∧o.2.1.k≠0∧RdAt w' b L o.2.1.n len dp∧∃ v,x = .returned (.tuple #[.nilIface,v])∧FaultAt w' w.heap.size v (zS a o.2.1.k) o.2.1.p))
theorem JV {rb:Nat}{w0:World}{b:Nat}{L:List (Int×Int)}{n:Nat}{len dp:Int}{a:Nat→Addr}{p:Value}{l m:Int}{w:World}(h:Rp rb w0 b L n len dp a p l m w)(hL:L.length≤400)(hn:n≤1000) :
  Calls Tryz.prog 102 #[.pointer (some ⟨b,0,none⟩),.string { data:=#[63] }] w fun x w'=>∃ q,x = .returned (.bool q)∧Rp rb w0 b L (Pro.kg L n) len dp a p l m w':=
 (Vn b L n len dp { data:=#[63] } w h.t.rd hL hn (by decide)).mono (by
  rintro e w1 ⟨rfl,h1,h2⟩
  refine ⟨_,rfl,h.mine h2 ?_⟩
  have:Pro.behind L n { data:=#[63] }=Pro.kg L n:=by
   unfold Pro.kg
   by_cases h63:Pro.zh L n=63
   ·rw [if_pos h63];exact Pro.Zq (by rw [Pro.zt L n 63 63 rfl];simp [h63])
   ·rw [if_neg h63];exact Pro.Ys (by rw [Pro.zt L n 63 63 rfl];simp [h63])
  rw [this] at h1
  exact h1)
theorem Rp.start {b:Nat}{L:List (Int×Int)}{n:Nat}{len dp:Int}{a:Nat→Addr}{w:World}(p:Value)(h:RdAt w b L n len dp)(hS:Sents w a)(hb:10≤b):Rp w.heap.size (w.alloc (.cells #[p,.int .i64 0,.int .i64 0] 254)) b L n len dp a p 0 0 (w.alloc (.cells #[p,.int .i64 0,.int .i64 0] 254)):=
 have t:=(Trk.start h hS hb).calm ((Only.refl _ _).alloc (.cells #[p,.int .i64 0,.int .i64 0] 254))
 ⟨⟨t.rd,t.se,Only.refl _ _,t.hb,h.lt,by simp⟩,⟨zm w _ rfl _ _ 0 _ rfl,zm w _ rfl _ _ 1 _ rfl,zm w _ rfl _ _ 2 _ rfl,zu w _ rfl _ _ 1,zu w _ rfl _ _ 2⟩⟩
namespace Pro
theorem XT {L:List (Int×Int)}{len:Int}(n:Nat)(h:n<L.length):n≤(zQ L len n).1.n∧(zQ L len n).1.n≤L.length:=by
 have ha:=qN (L:=L) (len:=len) (n+1) (by omega)
 unfold zQ
 simp only []
 split
 ·simp only [];omega
 split
 ·have:=zD (L:=L) (n:=(zp L len (n+1)).n) (by omega)
  simp only [good];omega
 split
 ·simp only [bad];omega
 rename_i h44
 have h1:=zD (L:=L) (n:=(zp L len (n+1)).n) (by omega)
 split
 ·have:=zD (L:=L) (n:=(zp L len (n+1)).n+1) (by omega)
  simp only [good];omega
 have hm:=qN (L:=L) (len:=len) ((zp L len (n+1)).n+1) (by omega)
 split
 ·simp only [];omega
 split
 ·simp only [bad];omega
 rename_i h125
 have h2:=zD (L:=L) (n:=(zp L len ((zp L len (n+1)).n+1)).n) (by omega)
 split
 ·simp only [bad];omega
 ·simp only [good];omega
end Pro
theorem XU (b:Nat)(L:List (Int×Int))(n:Nat)(len dp:Int)(a:Nat→Addr)(w:World)(TT:TypeId)(px:Value)(h:RdAt w b L n len dp)(hS:Sents w a)(hb:10≤b)(hL:L.length≤400)(hn:n≤L.length)(hF:Pro.Fit L) :
  Calls Tryz.prog 184 #[.pointer (some ⟨b,0,none⟩),.iface TT px] w (Quants b L len dp a w (.iface TT px) (Pro.zy L len n)):=by
 have X0:=ze (Rp.start (.iface TT px) h hS hb)
 clear h hS
 by_cases h42:Pro.zh L n=42
 ·have m42:Pro.zz L n { data:=#[42] }=true:=by rw [Pro.zt L n 42 42 rfl];simp [h42]
  have HO:Hid (Pro.zy L len n=(true,Pro.good 0 (n+1),-1)):=by unfold Pro.zy;rw [if_pos h42];rfl
  clear h42
  go_enter Tryz.func184,Tryz.ntmps184
  go_wp2_with fail
  have HW:Hid (Only (zl b) w (w.alloc (.cells #[.iface TT px,.int .i64 0,.int .i64 0] 254))):=(Only.refl _ _).alloc _
  have hsz:w.heap.size<(w.alloc (.cells #[.iface TT px,.int .i64 0,.int .i64 0] 254)).heap.size:=by simp
  have X:=zb X0
  generalize w.alloc (.cells #[.iface TT px,.int .i64 0,.int .i64 0] 254)=W at *
  have hrb:w.heap.size≤w.heap.size:=Nat.le_refl _
  generalize hrbe:w.heap.size=rb at *
  have c1:=X.t.c1
  have f1:=X.t.f1
  have k0:=X.r.k0
  have k1:=X.r.k1
  have k2:=X.r.k2
  have q1:=X.r.f1
  have q2:=X.r.f2
  have X:=ze X
  clear X0
  go_wp2_with (first |(go_at_call 102;refine (jA (n:=n) _ (by exact zb X) hL (by omega) (by decide) (by assumption)).mono ?_;rintro e wq ⟨rfl,xq⟩;have xq:Rp _ _ b L ((n)+1) len dp a _ _ _ wq:=xq;have X:=ze xq;have k0:=xq.r.k0;have c1:=xq.t.c1;have f1:=xq.t.f1;have k1:=xq.r.k1;have k2:=xq.r.k2;have q1:=xq.r.f1;have q2:=xq.r.f2) |(go_at_call 102;refine (JV (n:=n+1) (by exact (zb X).set2 _) hL (by omega)).mono ?_;rintro e wq ⟨lz,rfl,xq⟩;have X:=ze xq;have k0:=xq.r.k0;have c1:=xq.t.c1;have f1:=xq.t.f1;have k1:=xq.r.k1;have k2:=xq.r.k2;have q1:=xq.r.f1;have q2:=xq.r.f2))
  go_ret2
  rw [zb HO]
  exact ⟨Own.back (zb HW) (zb X).t.on (by omega),.inr (.inl ⟨rfl,rfl,rfl,(zb X).t.rd⟩)⟩
 ·have m42:Pro.zz L n { data:=#[42] }=false:=by rw [Pro.zt L n 42 42 rfl];simp [h42]
  by_cases h43:Pro.zh L n=43
  ·have m43:Pro.zz L n { data:=#[43] }=true:=by rw [Pro.zt L n 43 43 rfl];simp [h43]
   have HO:Hid (Pro.zy L len n=(true,Pro.good 1 (n+1),-1)):=by unfold Pro.zy;rw [if_neg h42,if_pos h43];rfl
   clear h42 h43
   go_enter Tryz.func184,Tryz.ntmps184
   go_wp2_with fail
   have HW:Hid (Only (zl b) w (w.alloc (.cells #[.iface TT px,.int .i64 0,.int .i64 0] 254))):=(Only.refl _ _).alloc _
   have hsz:w.heap.size<(w.alloc (.cells #[.iface TT px,.int .i64 0,.int .i64 0] 254)).heap.size:=by simp
   have X:=zb X0
   generalize w.alloc (.cells #[.iface TT px,.int .i64 0,.int .i64 0] 254)=W at *
   have hrb:w.heap.size≤w.heap.size:=Nat.le_refl _
   generalize hrbe:w.heap.size=rb at *
   have c1:=X.t.c1
   have f1:=X.t.f1
   have k0:=X.r.k0
   have k1:=X.r.k1
   have k2:=X.r.k2
   have q1:=X.r.f1
   have q2:=X.r.f2
   have X:=ze X
   clear X0
   go_wp2_with (first |(go_at_call 102;refine (y8 (n:=n) _ (by first |exact zb X |exact (zb X).drewN _) hL (by omega) (by decide) (by assumption)).mono ?_;rintro e wq ⟨rfl,qq,rfl⟩) |(go_at_call 102;refine (jA (n:=n) _ (by exact (zb X).drewN _) hL (by omega) (by decide) (by assumption)).mono ?_;rintro e wq ⟨rfl,xq⟩;have xq:Rp _ _ b L ((n)+1) len dp a _ _ _ wq:=xq;have X:=ze xq;have k0:=xq.r.k0;have c1:=xq.t.c1;have f1:=xq.t.f1;have k1:=xq.r.k1;have k2:=xq.r.k2;have q1:=xq.r.f1;have q2:=xq.r.f2) |(go_at_call 102;refine (JV (n:=n+1) (by exact ((zb X).set1 _).set2 _) hL (by omega)).mono ?_;rintro e wq ⟨lz,rfl,xq⟩;have X:=ze xq;have k0:=xq.r.k0;have c1:=xq.t.c1;have f1:=xq.t.f1;have k1:=xq.r.k1;have k2:=xq.r.k2;have q1:=xq.r.f1;have q2:=xq.r.f2))
   go_ret2
   rw [zb HO]
   exact ⟨Own.back (zb HW) (zb X).t.on (by omega),.inr (.inl ⟨rfl,rfl,rfl,(zb X).t.rd⟩)⟩
  ·have m43:Pro.zz L n { data:=#[43] }=false:=by rw [Pro.zt L n 43 43 rfl];simp [h43]
   by_cases h63:Pro.zh L n=63
   ·have m63:Pro.zz L n { data:=#[63] }=true:=by rw [Pro.zt L n 63 63 rfl];simp [h63]
    have HO:Hid (Pro.zy L len n=(true,Pro.good 0 (n+1),1)):=by unfold Pro.zy;rw [if_neg h42,if_neg h43,if_pos h63];rfl
    clear h42 h43 h63
    go_enter Tryz.func184,Tryz.ntmps184
    go_wp2_with fail
    have HW:Hid (Only (zl b) w (w.alloc (.cells #[.iface TT px,.int .i64 0,.int .i64 0] 254))):=(Only.refl _ _).alloc _
    have hsz:w.heap.size<(w.alloc (.cells #[.iface TT px,.int .i64 0,.int .i64 0] 254)).heap.size:=by simp
    have X:=zb X0
    generalize w.alloc (.cells #[.iface TT px,.int .i64 0,.int .i64 0] 254)=W at *
    have hrb:w.heap.size≤w.heap.size:=Nat.le_refl _
    generalize hrbe:w.heap.size=rb at *
    have c1:=X.t.c1
    have f1:=X.t.f1
    have k0:=X.r.k0
    have k1:=X.r.k1
    have k2:=X.r.k2
    have q1:=X.r.f1
    have q2:=X.r.f2
    have X:=ze X
    clear X0
    go_wp2_with (first |(go_at_call 102;refine (y8 (n:=n) _ (by first |exact zb X |exact (zb X).drewN _) hL (by omega) (by decide) (by assumption)).mono ?_;rintro e wq ⟨rfl,qq,rfl⟩) |(go_at_call 102;refine (jA (n:=n) _ (by exact (zb X).drewN _) hL (by omega) (by decide) (by assumption)).mono ?_;rintro e wq ⟨rfl,xq⟩;have xq:Rp _ _ b L ((n)+1) len dp a _ _ _ wq:=xq;have X:=ze xq;have k0:=xq.r.k0;have c1:=xq.t.c1;have f1:=xq.t.f1;have k1:=xq.r.k1;have k2:=xq.r.k2;have q1:=xq.r.f1;have q2:=xq.r.f2) |(go_at_call 102;refine (JV (n:=n+1) (by exact (zb X).set2 _) hL (by omega)).mono ?_;rintro e wq ⟨lz,rfl,xq⟩;have X:=ze xq;have k0:=xq.r.k0;have c1:=xq.t.c1;have f1:=xq.t.f1;have k1:=xq.r.k1;have k2:=xq.r.k2;have q1:=xq.r.f1;have q2:=xq.r.f2))
    go_ret2
    rw [zb HO]
    exact ⟨Own.back (zb HW) (zb X).t.on (by omega),.inr (.inl ⟨rfl,rfl,rfl,(zb X).t.rd⟩)⟩
   ·have m63:Pro.zz L n { data:=#[63] }=false:=by rw [Pro.zt L n 63 63 rfl];simp [h63]
    by_cases h123:Pro.zh L n=123
    ·have hlt:n<L.length:=Pro.zD (by omega)
     have h123':(Pro.zh L n == 123)=true:=by simp [h123]
     have HO:Hid (Pro.zy L len n=(true,Pro.zQ L len n)):=by unfold Pro.zy;rw [if_neg h42,if_neg h43,if_neg h63,if_pos h123];rfl
     clear h42 h43 h63 h123
     have hcb:=Pro.XT (len:=len) n hlt
     by_cases hk:(Pro.zQ L len n).1.k=0
     ·skip
      go_enter Tryz.func184,Tryz.ntmps184
      go_wp2_with fail
      have HW:Hid (Only (zl b) w (w.alloc (.cells #[.iface TT px,.int .i64 0,.int .i64 0] 254))):=(Only.refl _ _).alloc _
      have hsz:w.heap.size<(w.alloc (.cells #[.iface TT px,.int .i64 0,.int .i64 0] 254)).heap.size:=by simp
      have X:=zb X0
      generalize w.alloc (.cells #[.iface TT px,.int .i64 0,.int .i64 0] 254)=W at *
      have hrb:w.heap.size≤w.heap.size:=Nat.le_refl _
      generalize hrbe:w.heap.size=rb at *
      have c1:=X.t.c1
      have f1:=X.t.f1
      have k0:=X.r.k0
      have k1:=X.r.k1
      have k2:=X.r.k2
      have q1:=X.r.f1
      have q2:=X.r.f2
      have X:=ze X
      clear X0
      go_wp2_with (first |(go_at_call 102;refine (y8 (n:=n) _ (by first |exact zb X |exact (zb X).drewN _) hL (by omega) (by decide) (by assumption)).mono ?_;rintro e wq ⟨rfl,qq,rfl⟩) |(go_at_call 147;refine (yG (n:=n) (Rp.t (by exact (zb X).drewN _)) hL (by omega)).mono ?_;rintro e wq ⟨rfl,hwq⟩;obtain rfl:=hwq.symm;clear hwq) |(go_at_call 219;refine (YG rb W b L n len dp a (.iface TT px) 0 0 _ (by exact (zb X).drewN _) hL hlt hF hsz).mono ?_;rintro e wc ⟨tq,hT⟩;obtain ⟨rfl,hr⟩:=vS hT hk;clear hT;have xq:Rp rb W b L _ len dp a _ _ _ wc:=⟨tq,hr⟩;have X:=ze xq;have k0:=xq.r.k0;have c1:=xq.t.c1;have f1:=xq.t.f1;have k1:=xq.r.k1;have k2:=xq.r.k2;have q1:=xq.r.f1;have q2:=xq.r.f2) |(go_at_call 102;refine (JV (n:=(Pro.zQ L len n).1.n) (by exact zb X) hL (by omega)).mono ?_;rintro e wq ⟨lz,rfl,xq⟩;have X:=ze xq;have k0:=xq.r.k0;have c1:=xq.t.c1;have f1:=xq.t.f1;have k1:=xq.r.k1;have k2:=xq.r.k2;have q1:=xq.r.f1;have q2:=xq.r.f2))
      go_ret2
      rw [zb HO]
      exact ⟨Own.back (zb HW) (zb X).t.on (by omega),.inr (.inl ⟨rfl,hk,rfl,(zb X).t.rd⟩)⟩
     ·skip
      go_enter Tryz.func184,Tryz.ntmps184
      go_wp2_with fail
      have HW:Hid (Only (zl b) w (w.alloc (.cells #[.iface TT px,.int .i64 0,.int .i64 0] 254))):=(Only.refl _ _).alloc _
      have hsz:w.heap.size<(w.alloc (.cells #[.iface TT px,.int .i64 0,.int .i64 0] 254)).heap.size:=by simp
      have X:=zb X0
      generalize w.alloc (.cells #[.iface TT px,.int .i64 0,.int .i64 0] 254)=W at *
      have hrb:w.heap.size≤w.heap.size:=Nat.le_refl _
      generalize hrbe:w.heap.size=rb at *
      have c1:=X.t.c1
      have f1:=X.t.f1
      have k0:=X.r.k0
      have k1:=X.r.k1
      have k2:=X.r.k2
      have q1:=X.r.f1
      have q2:=X.r.f2
      have X:=ze X
      clear X0
      go_wp2_with (first |(go_at_call 102;refine (y8 (n:=n) _ (by first |exact zb X |exact (zb X).drewN _) hL (by omega) (by decide) (by assumption)).mono ?_;rintro e wq ⟨rfl,qq,rfl⟩) |(go_at_call 147;refine (yG (n:=n) (Rp.t (by exact (zb X).drewN _)) hL (by omega)).mono ?_;rintro e wq ⟨rfl,hwq⟩;obtain rfl:=hwq.symm;clear hwq) |(go_at_call 219;refine (YG rb W b L n len dp a (.iface TT px) 0 0 _ (by exact (zb X).drewN _) hL hlt hF hsz).mono ?_;rintro e wc ⟨tq,hT⟩;obtain ⟨v,rfl,hv⟩:=JU hT hk;clear hT;obtain ⟨gv,hgv⟩:=hv.form;subst hgv;have T:=ze tq))
      go_ret2
      rw [zb HO]
      exact ⟨Own.back (zb HW) (zb T).on (by omega),.inr (.inr ⟨rfl,hk,(zb T).rd,_,rfl,hv.base (by omega)⟩)⟩
    ·have h123':(Pro.zh L n == 123)=false:=by simp [h123]
     have HO:Hid (Pro.zy L len n=(false,Pro.good 0 n,0)):=by unfold Pro.zy;rw [if_neg h42,if_neg h43,if_neg h63,if_neg h123];rfl
     clear h42 h43 h63 h123
     go_enter Tryz.func184,Tryz.ntmps184
     go_wp2_with fail
     have HW:Hid (Only (zl b) w (w.alloc (.cells #[.iface TT px,.int .i64 0,.int .i64 0] 254))):=(Only.refl _ _).alloc _
     have hsz:w.heap.size<(w.alloc (.cells #[.iface TT px,.int .i64 0,.int .i64 0] 254)).heap.size:=by simp
     have X:=zb X0
     generalize w.alloc (.cells #[.iface TT px,.int .i64 0,.int .i64 0] 254)=W at *
     have hrb:w.heap.size≤w.heap.size:=Nat.le_refl _
     generalize hrbe:w.heap.size=rb at *
     have c1:=X.t.c1
     have f1:=X.t.f1
     have k0:=X.r.k0
     have k1:=X.r.k1
     have k2:=X.r.k2
     have q1:=X.r.f1
     have q2:=X.r.f2
     have X:=ze X
     clear X0
     go_wp2_with (first |(go_at_call 102;refine (y8 (n:=n) _ (by first |exact zb X |exact (zb X).drewN _) hL (by omega) (by decide) (by assumption)).mono ?_;rintro e wq ⟨rfl,qq,rfl⟩) |(go_at_call 147;refine (yG (n:=n) (Rp.t (by exact (zb X).drewN _)) hL (by omega)).mono ?_;rintro e wq ⟨rfl,hwq⟩;obtain rfl:=hwq.symm;clear hwq))
     go_ret2
     rw [zb HO]
     exact ⟨Own.back (zb HW) ((zb X).drewN _).t.on (by omega),.inl ⟨rfl,rfl,((zb X).drewN _).t.rd⟩⟩
theorem ji {P:Program}(w:World){ops:Array Oper}{rest:List Oper}{o:Oper}{a:Act}{Q:Exit→Act→World→Prop}(hgd:o.guard=none)(s x:Operand)(t:TypeId)
  (ho:o.op = .call { callee:=.builtin .append,args:=#[s,x],argTypes:=#[t,t] })
  (base:Nat) (e:TypeId) (i:TypeInfo) (z:Value) (size bytes:Nat) (ht:P.underlying t=some (.slice e)) (hi:P.info? e=some i) (hz:i.zero=some z)
  (hsize:i.size=size) (hby:i.bytes=bytes) (hzs:z.cells.size=size) (hsz:0<size)
  (v:Value) (n:Nat) (xs:List Value) (hs:a.eval s=v) (hown:w.ownsRow base e size v n xs)
  (ad:Addr) (m c:Nat) (news:List Value) (hx:a.eval x = .slice (some ad) m c) (hl:news.length=m*size) (hnews:∀ j u,news[j]?=some u→w.cell? (ad.add j)=some u) (h1:∀ u∈news,u.oneCell'=true)
  (h63:n+m≤maxLen) (hbytes:(n+m)*bytes≤140737488355328) (hbase:base≤w.heap.size)
  (h:∀ v' w',w'.ownsRow base e size v' (n+m) (xs++news)→w.grownBy w' v.ownBlock→(∀ k,v'.ownBlock=some k→v.ownBlock=some k∨w.heap.size≤k)→wpList P ops Q rest (a.put o.dst v') w'):wpList P ops Q (o :: rest) a w:=by
 have hgr:∀ w' row,w.grownBy w' none→w.grownBy w' row:=fun w' row g=>⟨g.os,g.tape,g.output,g.size,fun k hk _=>g.block k hk (by simp)⟩
 rcases hown.2 with ⟨rfl,rfl⟩ |⟨g,cap,cur,rfl,hbg,hg,hnc,hcm,hcs,htake⟩
 ·have hxs:xs=[]:=List.eq_nil_of_length_eq_zero (by simpa using hown.1)
  subst hxs
  by_cases hm:m=0
  ·subst hm
   exact wpList_append_own w hgd s x t ho base e i z size bytes ht hi hz hsize hby hzs hsz _ 0 [] hs hown ad 0 c news hx hl hnews h1 h63 hbytes hbase (fun v' w' h2 h3 h4=>h v' w' h2 h3 (fun k hk=>by
    have:v' = .slice none 0 0:=h4.2 ⟨rfl,rfl⟩
    subst this
    simp [Value.ownBlock] at hk))
  ·exact wpList_append_grows w hgd s x t ho e i z size bytes ht hi hz hsize hby hzs hsz none 0 0 [] hs (fun _=>⟨rfl,rfl⟩) (by simp) (fun b hb=>by cases hb) ad m c news hx hl hnews h1 (by omega) h63 hbytes (fun v' w' h2 h3=>h v' w' (yi h2 hbase) (hgr _ _ h3) (fun k hk=>.inr (h2.lt k hk).1))
 ·by_cases hroom:n+m≤cap
  ·exact wpList_append_fits w hgd s x t ho base e i size ht hi hsize g n cap xs hs hown ad m c news hx hl hnews h1 hroom (fun w' h2 h3=>h _ w' h2 h3 (fun k hk=>.inl hk))
  ·exact wpList_append_grows w hgd s x t ho e i z size bytes ht hi hz hsize hby hzs hsz (some ⟨g,0,none⟩) n cap xs hs (fun hh=>by cases hh) hown.1 (fun b hb=>by cases hb;exact hown.cells (g:=g) rfl) ad m c news hx hl hnews h1 (by omega) h63 hbytes (fun v' w' h2 h3=>h v' w' (yi h2 hbase) (hgr _ _ h3) (fun k hk=>.inr (h2.lt k hk).1))
namespace Pro
def sumS:Int→List Int→Int
 |t,[]=>t
 |t,z :: r=>sumS (min (t+z) 301) r
def repS (z l m:Int):Int:=if m = -1 then max l 1*z+1 else l*z+(m-l)*(z+1)
end Pro
def RowAt (w:World)(A:Nat→Prop)(sv:Value)(xs:List Value):Prop:=
 (sv = .slice none 0 0∧xs=[])∨∃ g cap,sv = .slice (some ⟨g,0,none⟩) xs.length cap∧A g∧xs.length≤cap∧g<w.heap.size∧∀ j x,xs[j]?=some x→w.cell? ⟨g,j,none⟩=some x
def leafT (T:TypeId):Prop:=T=154∨T=244∨T=245∨T=246∨T=250
def SizeAt:Nat→World→(Nat→Prop)→Value→Int→Prop
 |0,_,_,_,_=>False
 |f+1,w,A,v,z=>
  (z=1∧∃ T x,leafT T∧v = .iface T x)∨
  (∃ sv xs zs,v = .iface 228 sv∧RowAt w A sv xs∧xs.length≤1000∧zs.length=xs.length∧(∀ (j:Nat) x z',xs[j]?=some x→zs[j]?=some z'→SizeAt f w A x z')∧0<xs.length∧z=min (Pro.sumS 0 zs+xs.length-1) 301)∨
  (∃ sv xs zs,v = .iface 252 sv∧RowAt w A sv xs∧xs.length≤1000∧zs.length=xs.length∧(∀ (j:Nat) x z',xs[j]?=some x→zs[j]?=some z'→SizeAt f w A x z')∧z=Pro.sumS 0 zs)∨
  (∃ p l m z',v = .iface 254 (.agg #[p,.int .i64 l,.int .i64 m])∧SizeAt f w A p z'∧0≤l∧l≤100∧-1≤m∧m≤100∧(m = -1∨l≤m)∧z=min (Pro.repS z' l m) 301)
theorem RowAt.keep {P A:Nat→Prop}{w w':World}{sv:Value}{xs:List Value}(h:RowAt w A sv xs)(k:Only P w w')(hn:∀ g,A g→¬P g):RowAt w' A sv xs:=by
 rcases h with h |⟨g,cap,h1,h2,h3,h4,h5⟩
 ·exact .inl h
 ·exact .inr ⟨g,cap,h1,h2,h3,Nat.lt_of_lt_of_le h4 k.size,fun j x hj=>(k.cell (World.block_lt_of_cell? w _ (h5 j x hj)) (hn g h2)).trans (h5 j x hj)⟩
theorem RowAt.mono {A B:Nat→Prop}{w:World}{sv:Value}{xs:List Value}(h:RowAt w A sv xs)(hAB:∀ g,g<w.heap.size→A g→B g):RowAt w B sv xs:=by
 rcases h with h |⟨g,cap,h1,h2,h3,h4,h5⟩
 ·exact .inl h
 ·exact .inr ⟨g,cap,h1,hAB g h4 h2,h3,h4,h5⟩
theorem SizeAt.keep {P A:Nat→Prop}{w w':World}(k:Only P w w')(hn:∀ g,A g→¬P g):∀ (f:Nat) (v:Value) (z:Int),SizeAt f w A v z→SizeAt f w' A v z
 |0,_,_,h=>h
 |f+1,v,z,h=>by
  rcases h with h |⟨sv,xs,zs,h1,h2,h0,h3,h4,h5,h6⟩ |⟨sv,xs,zs,h1,h2,h0,h3,h4,h5⟩ |⟨p,l,m,z',h1,h2,h3⟩
  ·exact .inl h
  ·exact .inr (.inl ⟨sv,xs,zs,h1,h2.keep k hn,h0,h3,fun j x z' hx hz=>SizeAt.keep k hn f x z' (h4 j x z' hx hz),h5,h6⟩)
  ·exact .inr (.inr (.inl ⟨sv,xs,zs,h1,h2.keep k hn,h0,h3,fun j x z' hx hz=>SizeAt.keep k hn f x z' (h4 j x z' hx hz),h5⟩))
  ·exact .inr (.inr (.inr ⟨p,l,m,z',h1,SizeAt.keep k hn f p z' h2,h3⟩))
namespace Pro
theorem wG:∀ (zs:List Int)(t:Int),0≤t→t≤301→(∀ z∈zs,0≤z)→0≤sumS t zs∧sumS t zs≤301
 | [],t,h0,h1,_=>⟨h0,h1⟩
 |z :: r,t,h0,h1,h=>by
  have hz:=h z (List.mem_cons_self ..)
  exact wG r (min (t+z) 301) (by omega) (by omega) (fun y hy=>h y (List.mem_cons_of_mem _ hy))
theorem kZ {z l m:Int}(hz:0≤z)(hl:0≤l)(hm:m = -1∨l≤m):0≤repS z l m:=by
 unfold repS
 split
 ·have:0≤max l 1*z:=Int.mul_nonneg (by omega) hz
  omega
 ·have h1:0≤l*z:=Int.mul_nonneg hl hz
  have h2:0≤(m-l)*(z+1):=Int.mul_nonneg (by omega) (by omega)
  omega
end Pro
theorem jO {α:Type}{l:List α}{x:α}(h:x∈l):∃ j:Nat,l[j]?=some x:=by
 obtain ⟨j,hj,e⟩:=List.getElem_of_mem h
 exact ⟨j,by rw [List.getElem?_eq_getElem hj,e]⟩
theorem SizeAt.bd {A:Nat→Prop}{w:World}:∀ (f:Nat) (v:Value) (z:Int),SizeAt f w A v z→0≤z∧z≤301
 |0,_,_,h=>h.elim
 |f+1,v,z,h=>by
  have key:∀ (xs:List Value) (zs:List Int),zs.length=xs.length→(∀ (j:Nat) x z',xs[j]?=some x→zs[j]?=some z'→SizeAt f w A x z')→∀ y∈zs,0≤y:=by
   intro xs zs hl hh y hy
   obtain ⟨j,hj⟩:=jO hy
   have hjl:j<xs.length:=by
    by_cases hlt:j<zs.length
    ·omega
    ·rw [List.getElem?_eq_none (by omega)] at hj;cases hj
   exact (SizeAt.bd f _ _ (hh j xs[j] y (List.getElem?_eq_getElem hjl) hj)).1
  rcases h with ⟨h,_⟩ |⟨sv,xs,zs,h1,h2,h0,h3,h4,h5,h6⟩ |⟨sv,xs,zs,h1,h2,h0,h3,h4,h5⟩ |⟨p,l,m,z',h1,h2,h3,h4,h5,h6,h7,h8⟩
  ·omega
  ·have:=Pro.wG zs 0 (by omega) (by omega) (key xs zs h3 h4)
   omega
  ·have:=Pro.wG zs 0 (by omega) (by omega) (key xs zs h3 h4)
   omega
  ·have:=SizeAt.bd f p z' h2
   have:=Pro.kZ this.1 h3 h7
   omega
def Sizes (f:Nat)(w:World)(A:Nat→Prop)(xs:List Value)(zs:List Int):Prop:=zs.length=xs.length∧∀ (j:Nat) x z',xs[j]?=some x→zs[j]?=some z'→SizeAt f w A x z'
namespace Pro
section
variable (L:List (Int×Int)) (len:Int)
def zV (n:Nat):Out:=
 if zh L (n+1)=63 then
  (if zh L (n+2)=58 then good 0 (n+3)
   else if zh L (n+2)=61∨zh L (n+2)=33∨zh L (n+2)=60 then bad 6 (zB L len n) (n+2)
   else bad 3 (zB L len (n+2)) (n+2))
 else good 0 (n+1)
def asN (n:Nat):Nat:=if zh L n=94∨zh L n=36 then 1 else if zh L n=92∧(zh L (n+1)=98∨zh L (n+1)=66) then 2 else 0
def vd (c:Int):Bool:=(c == 42) ||(c == 43) ||(c == 63) ||(c == 123) ||(c == 125) ||(c == 93)
def one (o:Out):Out:=if o.k=0 then good 1 o.n else o
def zJ (D:Nat→Out)(n:Nat):Out:=
 if vd (zh L n)=true then bad 3 (zB L len n) n
 else if zh L n=40 then D n
 else if zh L n=91 then one (xE L len n)
 else if zh L n=92 then one (escO L len n)
 else good 1 (n+1)
def jX (alt:Nat→Out)(n:Nat):Out:=
 if (zV L len n).k≠0 then zV L len n
 else if (alt (zV L len n).n).k≠0 then alt (zV L len n).n
 else if zh L (alt (zV L len n).n).n=41 then good (alt (zV L len n).n).v ((alt (zV L len n).n).n+1)
 else bad 3 (zB L len (alt (zV L len n).n).n) (alt (zV L len n).n).n
def yq (D:Nat→Out)(n:Nat):Out:=
 if asN L n≠0 then good 1 (n+asN L n)
 else if (zJ L len D n).k≠0 then zJ L len D n
 else if (zy L len (zJ L len D n).n).1=false then zJ L len D n
 else if (zy L len (zJ L len D n).n).2.1.k≠0 then (zy L len (zJ L len D n).n).2.1
 else good (min (repS (zJ L len D n).v (zy L len (zJ L len D n).n).2.1.v (zy L len (zJ L len D n).n).2.2) 301) (kg L (zy L len (zJ L len D n).n).2.1.n)
def kh (n:Nat):Bool:=decide (L.length≤n) ||decide (zh L n=124) ||decide (zh L n=41)
def yY (D:Nat→Out):Nat→Int→Nat→Out
 |0,s,n=>good s n
 |f+1,s,n=>if kh L n=true then good s n
  else if (yq L len D n).k≠0 then yq L len D n
  else yY D f (min (s+(yq L len D n).v) 301) (yq L len D n).n
def zO (D:Nat→Out)(n:Nat):Out:=yY L len D (L.length+1-n) 0 n
def altO (D:Nat→Out):Nat→List Int→Nat→Out
 |0,_,n=>good 0 n
 |f+1,zs,n=>if (zO L len D n).k≠0 then zO L len D n
  else if zh L (zO L len D n).n=124 then altO D f (zs++[(zO L len D n).v]) ((zO L len D n).n+1)
  else good (min (sumS 0 (zs++[(zO L len D n).v])+((zs.length:Int)+1)-1) 301) (zO L len D n).n
def altP (D:Nat→Out)(n:Nat):Out:=altO L len D (L.length+1-n) [] n
def zC:Nat→Nat→Out
 |0,n=>bad 7 (zB L len n) n
 |r+1,n=>jX L len (altP L len (zC r)) n
end
def DOK (L:List (Int×Int))(D:Nat→Out):Prop:=∀ n,n<L.length→n≤(D n).n∧(D n).n≤L.length∧((D n).k=0→n<(D n).n∧0≤(D n).v∧(D n).v≤301)
section
variable {L:List (Int×Int)} {len:Int} {D:Nat→Out}
theorem ZW (n:Nat)(h:n<L.length):n<(zV L len n).n∧(zV L len n).n≤L.length:=by
 unfold zV
 split
 ·have h1:n+1<L.length:=zD (by omega)
  split
  ·have h2:n+2<L.length:=zD (by omega)
   simp only [good];omega
  ·split
   ·simp only [bad];omega
   ·simp only [bad];omega
 ·simp only [good];omega
theorem asN_in (n:Nat)(h:asN L n≠0):n<n+asN L n∧n+asN L n≤L.length:=by
 refine ⟨by omega,?_⟩
 unfold asN at h ⊢
 split
 ·have:=zD (L:=L) (n:=n) (by omega);omega
 ·split
  ·have:=zD (L:=L) (n:=n+1) (by omega);omega
  ·rename_i h1 h2;rw [if_neg h1,if_neg h2] at h;exact absurd rfl h
theorem K7 (o:Out):(one o).n=o.n:=by unfold one;split<;>rfl
theorem K8 (o:Out):(one o).k=o.k:=by unfold one;split<;>simp_all [good]
theorem one_v (o:Out)(h:o.k=0):(one o).v=1:=by unfold one;rw [if_pos h];rfl
theorem Q1 (n:Nat)(h:n<L.length):n<(xE L len n).n∧(xE L len n).n≤L.length:=by
 unfold xE
 split
 ·have:=zD (L:=L) (n:=n+1) (by omega)
  have:=Ym (L:=L) (len:=len) (L.length+1-n) (n+2) (by omega)
  omega
 ·have:=Ym (L:=L) (len:=len) (L.length+1-n) (n+1) (by omega)
  omega
theorem XV (hD:DOK L D)(n:Nat)(h:n<L.length):n≤(zJ L len D n).n∧(zJ L len D n).n≤L.length∧((zJ L len D n).k=0→n<(zJ L len D n).n∧0≤(zJ L len D n).v∧(zJ L len D n).v≤301):=by
 unfold zJ
 split
 ·simp only [bad];omega
 split
 ·exact hD n h
 split
 ·have:=Q1 (L:=L) (len:=len) n h
  rw [K7,K8]
  exact ⟨by omega,by omega,fun hk=>by rw [one_v _ hk];omega⟩
 split
 ·have:=JT (L:=L) (len:=len) n h
  rw [K7,K8]
  exact ⟨by omega,by omega,fun hk=>by rw [one_v _ hk];omega⟩
 ·simp only [good];omega
theorem lazyN_in (n:Nat)(h:n≤L.length):n≤kg L n∧kg L n≤L.length:=by
 unfold kg
 split
 ·have:=zD (L:=L) (n:=n) (by omega);omega
 ·omega
theorem Q2 (n:Nat)(h:n≤L.length):n≤(zy L len n).2.1.n∧(zy L len n).2.1.n≤L.length∧((zy L len n).1=false→(zy L len n).2.1.n=n):=by
 unfold zy
 split
 ·have:=zD (L:=L) (n:=n) (by omega);simp [good];omega
 split
 ·have:=zD (L:=L) (n:=n) (by omega);simp [good];omega
 split
 ·have:=zD (L:=L) (n:=n) (by omega);simp [good];omega
 split
 ·have h1:=zD (L:=L) (n:=n) (by omega)
  have:=XT (len:=len) n h1
  simp;omega
 ·simp [good];omega
theorem zbC (n:Nat)(h:n<L.length)(hk:(zQ L len n).1.k=0):0≤(zQ L len n).1.v∧(zQ L len n).1.v≤100∧-1≤(zQ L len n).2∧(zQ L len n).2≤100∧((zQ L len n).2 = -1∨(zQ L len n).1.v≤(zQ L len n).2):=by
 have ha:=qN (L:=L) (len:=len) (n+1) (by omega)
 unfold zQ at hk ⊢
 simp only [] at hk ⊢
 split
 ·rename_i h1;rw [if_pos h1] at hk;exact absurd hk h1
 rename_i h1
 rw [if_neg h1] at hk
 split
 ·simp [good];omega
 rename_i h2
 rw [if_neg h2] at hk
 split
 ·rename_i h3;rw [if_pos h3] at hk;cases hk
 rename_i h3
 rw [if_neg h3] at hk
 have hl:=zD (L:=L) (n:=(zp L len (n+1)).n) (by omega)
 split
 ·simp [good];omega
 rename_i h4
 rw [if_neg h4] at hk
 have hm:=qN (L:=L) (len:=len) ((zp L len (n+1)).n+1) (by omega)
 split
 ·rename_i h5;rw [if_pos h5] at hk;exact absurd hk h5
 rename_i h5
 rw [if_neg h5] at hk
 split
 ·rename_i h6;rw [if_pos h6] at hk;cases hk
 rename_i h6
 rw [if_neg h6] at hk
 split
 ·rename_i h7;rw [if_pos h7] at hk;cases hk
 ·simp [good];omega
theorem XW (n:Nat)(hq:(zy L len n).1=true)(hk:(zy L len n).2.1.k=0):0≤(zy L len n).2.1.v∧(zy L len n).2.1.v≤100∧-1≤(zy L len n).2.2∧(zy L len n).2.2≤100∧((zy L len n).2.2 = -1∨(zy L len n).2.1.v≤(zy L len n).2.2):=by
 unfold zy at hq hk ⊢
 split
 ·simp [good]
 rename_i h1
 rw [if_neg h1] at hq hk
 split
 ·simp [good]
 rename_i h2
 rw [if_neg h2] at hq hk
 split
 ·simp [good]
 rename_i h3
 rw [if_neg h3] at hq hk
 split
 ·rename_i h4
  rw [if_pos h4] at hk
  exact zbC n (zD (by omega)) hk
 ·rename_i h4;rw [if_neg h4] at hq;cases hq
theorem XX (hD:DOK L D)(n:Nat)(h:n<L.length):n≤(yq L len D n).n∧(yq L len D n).n≤L.length∧((yq L len D n).k=0→n<(yq L len D n).n∧0≤(yq L len D n).v∧(yq L len D n).v≤301):=by
 have ha:=XV (len:=len) hD n h
 have hq:=Q2 (L:=L) (len:=len) (zJ L len D n).n ha.2.1
 unfold yq
 split
 ·rename_i h1
  have:=asN_in (L:=L) n h1
  simp only [good];omega
 split
 ·rename_i h1 h2
  exact ⟨ha.1,ha.2.1,fun hk=>absurd hk h2⟩
 rename_i h1 h2
 have h2':(zJ L len D n).k=0:=by omega
 split
 ·exact ha
 rename_i h3
 split
 ·rename_i h4
  exact ⟨by omega,by omega,fun hk=>absurd hk h4⟩
 ·rename_i h4
  have h4':(zy L len (zJ L len D n).n).2.1.k=0:=by omega
  have hl:=lazyN_in (L:=L) (zy L len (zJ L len D n).n).2.1.n hq.2.1
  have hv:=XW (L:=L) (len:=len) (zJ L len D n).n (by simpa using h3) h4'
  have hr:=kZ (z:=(zJ L len D n).v) (ha.2.2 h2').2.1 hv.1 hv.2.2.2.2
  have:=(ha.2.2 h2').1
  simp only [good]
  omega
theorem Q3 (hD:DOK L D):∀ (f:Nat) (s:Int) (n:Nat),n≤L.length→0≤s→s≤301→n≤(yY L len D f s n).n∧(yY L len D f s n).n≤L.length∧((yY L len D f s n).k=0→0≤(yY L len D f s n).v∧(yY L len D f s n).v≤301)
 |0,s,n,h,h0,h1=>by simp only [yY,good];omega
 |f+1,s,n,h,h0,h1=>by
  simp only [yY]
  split
  ·simp only [good];omega
  ·rename_i hs
   have hlt:n<L.length:=by unfold kh at hs;simp at hs;omega
   have ht:=XX (len:=len) hD n hlt
   split
   ·rename_i hk;exact ⟨ht.1,ht.2.1,fun hk'=>absurd hk' hk⟩
   ·rename_i hk
    have hk':(yq L len D n).k=0:=by omega
    have hv:=ht.2.2 hk'
    have:=Q3 hD f (min (s+(yq L len D n).v) 301) (yq L len D n).n ht.2.1 (by omega) (by omega)
    omega
theorem wH (hD:DOK L D)(n:Nat)(h:n≤L.length):n≤(zO L len D n).n∧(zO L len D n).n≤L.length∧((zO L len D n).k=0→0≤(zO L len D n).v∧(zO L len D n).v≤301):=Q3 hD _ 0 n h (by omega) (by omega)
theorem zaq (hD:DOK L D):∀ (f:Nat) (zs:List Int) (n:Nat),n≤L.length→(∀ z∈zs,0≤z)→n≤(altO L len D f zs n).n∧(altO L len D f zs n).n≤L.length∧((altO L len D f zs n).k=0→0≤(altO L len D f zs n).v∧(altO L len D f zs n).v≤301)
 |0,zs,n,h,hz=>by simp only [altO,good];omega
 |f+1,zs,n,h,hz=>by
  have ht:=wH (len:=len) hD n h
  simp only [altO]
  split
  ·rename_i hk;exact ⟨ht.1,ht.2.1,fun hk'=>absurd hk' hk⟩
  rename_i hk
  have hk':(zO L len D n).k=0:=by omega
  have hz':∀ z∈zs++[(zO L len D n).v],0≤z:=by
   intro z hzm
   rcases List.mem_append.1 hzm with hm |hm
   ·exact hz z hm
   ·simp at hm;have:=(ht.2.2 hk').1;omega
  split
  ·have h1:=zD (L:=L) (n:=(zO L len D n).n) (by omega)
   have:=zaq hD f (zs++[(zO L len D n).v]) ((zO L len D n).n+1) (by omega) hz'
   omega
  ·have:=wG (zs++[(zO L len D n).v]) 0 (by omega) (by omega) hz'
   simp only [good];omega
theorem ve (hD:DOK L D)(n:Nat)(h:n≤L.length):n≤(altP L len D n).n∧(altP L len D n).n≤L.length∧((altP L len D n).k=0→0≤(altP L len D n).v∧(altP L len D n).v≤301):=zaq hD _ [] n h (by simp)
theorem xJ:∀ r,DOK L (zC L len r)
 |0=>fun n h=>by simp only [zC,bad];omega
 |r+1=>fun n h=>by
  have ho:=ZW (L:=L) (len:=len) n h
  have ha:=ve (len:=len) (xJ r) (zV L len n).n ho.2
  simp only [zC]
  unfold jX
  split
  ·rename_i hk;exact ⟨by omega,by omega,fun hk'=>absurd hk' hk⟩
  split
  ·rename_i hk;exact ⟨by omega,by omega,fun hk'=>absurd hk' hk⟩
  rename_i hk1 hk2
  have hk2':(altP L len (zC L len r) (zV L len n).n).k=0:=by omega
  have hv:=ha.2.2 hk2'
  split
  ·have h1:=zD (L:=L) (n:=(altP L len (zC L len r) (zV L len n).n).n) (by omega)
   simp only [good];omega
  ·simp only [bad];omega
end
end Pro
end
section
open Go.RowKit
set_option maxHeartbeats 2000000
theorem Pro.sumS_append:∀ (zs:List Int)(t z:Int),Pro.sumS t (zs++[z])=min (Pro.sumS t zs+z) 301
 | [],_t,_z=>rfl
 |y :: r,t,z=>Pro.sumS_append r (min (t+y) 301) z
def Opens (b:Nat)(L:List (Int×Int))(len dp:Int)(a:Nat→Addr)(w:World)(o:Pro.Out)(x:Ending)(w':World):Prop:=
 Trk w.heap.size w b L o.n len dp a w'∧((o.k=0∧x = .returned .nilIface∧True)∨(o.k≠0∧∃ v,x = .returned v∧FaultAt w' w.heap.size v (zS a o.k) o.p))
theorem kl (b:Nat)(L:List (Int×Int))(n:Nat)(len dp:Int)(a:Nat→Addr)(w:World)(h:RdAt w b L n len dp)(hS:Sents w a)(hb:10≤b)(hL:L.length≤400)(hn:n<L.length) :
  Calls Tryz.prog 242 #[.pointer (some ⟨b,0,none⟩)] w (Opens b L len dp a w (Pro.zV L len n)):=by
 have T:=ze (Trk.start h hS hb)
 have c1:=h.c1
 have f1:=h.f1
 have hs6:=hS.s6
 clear h hS
 by_cases h1:Pro.zh L (n+1)=63
 ·have m1:Pro.zz L (n+1) { data:=#[63] }=true:=by rw [Pro.zt L (n+1) 63 63 rfl];simp [h1]
  have hlt:=Pro.zD (L:=L) (n:=n+1) (by omega)
  by_cases h2:Pro.zh L (n+2)=58
  ·have m2:Pro.zz L (n+1+1) { data:=#[58] }=true:=by rw [Pro.zt L (n+1+1) 58 58 rfl];simp [h2]
   have HO:Hid (Pro.zV L len n=Pro.good 0 (n+3)):=by unfold Pro.zV;rw [if_pos h1,if_pos h2];rfl
   clear h1 h2
   go_enter Tryz.func242,Tryz.ntmps242
   go_wp2_with (first |(go_at_call 103;refine (yF (n:=n) (by exact zb T) hL (by omega)).mono ?_;rintro e wq ⟨rfl,qq,rfl⟩) |(go_at_call 102;refine (jz (n:=n+1) _ (by exact ((zb T).drewN _).setN _ _ (by omega)) hL (by omega) (by decide) (by assumption)).mono ?_;rintro e wq ⟨rfl,tq⟩;have tq:Trk _ _ b L ((n+1)+1) len dp a wq:=tq;have T:=ze tq;have c1:=tq.c1;have f1:=tq.f1) |(go_at_call 102;refine (jz (n:=n+1+1) _ (by exact zb T) hL (by omega) (by decide) (by assumption)).mono ?_;rintro e wq ⟨rfl,tq⟩;have tq:Trk _ _ b L ((n+1+1)+1) len dp a wq:=tq;have T:=ze tq;have c1:=tq.c1;have f1:=tq.f1))
   go_ret
   rw [zb HO]
   exact ⟨zb T,.inl ⟨rfl,rfl,trivial⟩⟩
  ·have m2:Pro.zz L (n+1+1) { data:=#[58] }=false:=by rw [Pro.zt L (n+1+1) 58 58 rfl];simp [h2]
   by_cases h3:Pro.zh L (n+2)=61∨Pro.zh L (n+2)=33∨Pro.zh L (n+2)=60
   ·have HO:Hid (Pro.zV L len n=Pro.bad 6 (Pro.zB L len n) (n+2)):=by unfold Pro.zV;rw [if_pos h1,if_neg h2,if_pos h3];rfl
    have h3':((Pro.zh L (n+2) == 61)=true)∨((Pro.zh L (n+2) == 61)=false∧(Pro.zh L (n+2) == 33)=true)∨((Pro.zh L (n+2) == 61)=false∧(Pro.zh L (n+2) == 33)=false∧(Pro.zh L (n+2) == 60)=true):=by
     by_cases q1:Pro.zh L (n+2)=61
     ·left;simp [q1]
     ·right
      by_cases q2:Pro.zh L (n+2)=33
      ·left;simp [q2]
      ·right;exact ⟨by simp [q1],by simp [q2],by simp;omega⟩
    clear h1 h2 h3
    rcases h3' with q1 |⟨q1,q2⟩ |⟨q1,q2,q3⟩
    all_goals
     go_enter Tryz.func242,Tryz.ntmps242
     go_wp2_with (first |(go_at_call 103;refine (yF (n:=n) (by exact zb T) hL (by omega)).mono ?_;rintro e wq ⟨rfl,qq,rfl⟩) |(go_at_call 102;refine (jz (n:=n+1) _ (by exact ((zb T).drewN _).setN _ _ (by omega)) hL (by omega) (by decide) (by assumption)).mono ?_;rintro e wq ⟨rfl,tq⟩;have tq:Trk _ _ b L ((n+1)+1) len dp a wq:=tq;have T:=ze tq;have c1:=tq.c1;have f1:=tq.f1);(have hs6:=(zb T).se.s6) |(go_at_call 102;refine (yZ (n:=n+1+1) _ (by exact zb T) hL (by omega) (by decide) (by assumption)).mono ?_;rintro e wq ⟨rfl,qq,rfl⟩) |(go_at_call 147;refine (yG (n:=n+2) (by exact (zb T).drewN _) hL (by omega)).mono ?_;rintro e wq ⟨rfl,hwq⟩;obtain rfl:=hwq.symm;clear hwq) |(go_at_call 56;refine (YF (n:=n+2) _ 6 _ _ rfl (by exact (zb T).drewN _)).mono ?_;rintro e wq ⟨v,rfl,hv,tq⟩;have T:=ze tq;have c1:=tq.c1;have f1:=tq.f1))
     go_ret
     rw [zb HO]
     exact ⟨zb T,.inr ⟨(show (6:Nat)≠0 by decide),v,rfl,hv⟩⟩
   ·have HO:Hid (Pro.zV L len n=Pro.bad 3 (Pro.zB L len (n+2)) (n+2)):=by unfold Pro.zV;rw [if_pos h1,if_neg h2,if_neg h3];rfl
    have q1:(Pro.zh L (n+2) == 61)=false:=by simp;omega
    have q2:(Pro.zh L (n+2) == 33)=false:=by simp;omega
    have q3:(Pro.zh L (n+2) == 60)=false:=by simp;omega
    clear h1 h2 h3
    go_enter Tryz.func242,Tryz.ntmps242
    go_wp2_with (first |(go_at_call 103;refine (yF (n:=n) (by exact zb T) hL (by omega)).mono ?_;rintro e wq ⟨rfl,qq,rfl⟩) |(go_at_call 102;refine (jz (n:=n+1) _ (by exact ((zb T).drewN _).setN _ _ (by omega)) hL (by omega) (by decide) (by assumption)).mono ?_;rintro e wq ⟨rfl,tq⟩;have tq:Trk _ _ b L ((n+1)+1) len dp a wq:=tq;have T:=ze tq;have c1:=tq.c1;have f1:=tq.f1) |(go_at_call 102;refine (yZ (n:=n+1+1) _ (by exact zb T) hL (by omega) (by decide) (by assumption)).mono ?_;rintro e wq ⟨rfl,qq,rfl⟩) |(go_at_call 147;refine (yG (n:=n+2) (by exact (zb T).drewN _) hL (by omega)).mono ?_;rintro e wq ⟨rfl,hwq⟩;obtain rfl:=hwq.symm;clear hwq) |(go_at_call 55;refine (ZT (n:=n+2) (by exact (zb T).drewN _) hL (by omega)).mono ?_;rintro e wq ⟨v,rfl,hv,tq⟩;have T:=ze tq;have c1:=tq.c1;have f1:=tq.f1))
    go_ret
    rw [zb HO]
    exact ⟨zb T,.inr ⟨(show (3:Nat)≠0 by decide),v,rfl,hv⟩⟩
 ·have m1:Pro.zz L (n+1) { data:=#[63] }=false:=by rw [Pro.zt L (n+1) 63 63 rfl];simp [h1]
  have HO:Hid (Pro.zV L len n=Pro.good 0 (n+1)):=by unfold Pro.zV;rw [if_neg h1];rfl
  clear h1
  go_enter Tryz.func242,Tryz.ntmps242
  go_wp2_with (first |(go_at_call 103;refine (yF (n:=n) (by exact zb T) hL (by omega)).mono ?_;rintro e wq ⟨rfl,qq,rfl⟩) |(go_at_call 102;refine (yZ (n:=n+1) _ (by exact ((zb T).drewN _).setN _ _ (by omega)) hL (by omega) (by decide) (by assumption)).mono ?_;rintro e wq ⟨rfl,qq,rfl⟩))
  go_ret
  rw [zb HO]
  exact ⟨Trk.drewN (Trk.setN (by first |exact (zb T).drewN _ |exact zb T) (n+1) _ (by omega)) _,.inl ⟨rfl,rfl,trivial⟩⟩
end
section
open Go.RowKit
open Sm (Tree)
namespace Pro
def tAsr (a:Int):Tree:=⟨0,a,0,false,[],[],[]⟩
def tAny:Tree:=⟨1,0,0,false,[],[],[]⟩
def xY (c:Int):Tree:=⟨2,c,0,false,[],[],[]⟩
def xK (c:Int):Tree:=⟨3,c,0,false,[],[],[]⟩
def tCls (neg:Bool)(R:List (Int×Int))(S:List Int):Tree:=⟨4,0,0,neg,R,S,[]⟩
def tAlt (ts:List Tree):Tree:=⟨5,0,0,false,[],[],ts⟩
def tSeq (ts:List Tree):Tree:=⟨6,0,0,false,[],[],ts⟩
def tRep (t:Tree)(l m:Int):Tree:=⟨7,l,m,false,[],[],[t]⟩
section
variable (L:List (Int×Int)) (len:Int)
def asV (n:Nat):Int:=if zh L n=94 then 0 else if zh L n=36 then 1 else if zh L (n+1)=98 then 2 else 3
def xL:Nat→Nat→List (Int×Int)→List Int→List (Int×Int)×List Int
 |0,_,R,S=>(R,S)
 |f+1,n,R,S=>if zh L n=93 then (R,S) else xL f (addO L len n).n (addR L len n R) (addS L len n S)
def xh (n:Nat):Tree:=tCls (decide (zh L (n+1)=94)) (xL L len (L.length+1-n) (if zh L (n+1)=94 then n+2 else n+1) [] []).1 (xL L len (L.length+1-n) (if zh L (n+1)=94 then n+2 else n+1) [] []).2
def oneT (m:Bool)(c:Int):Tree:=match m with
 |true=>xK c
 |false=>xY c
def yH (DT:Nat→Tree)(n:Nat):Tree:=
 if zh L n=40 then DT n
 else if zh L n=91 then xh L len n
 else if zh L n=92 then oneT (setB (zh L (n+1))) (escO L len n).v
 else if zh L n=46 then tAny
 else xY (zh L n)
def xR (D:Nat→Out)(DT:Nat→Tree)(n:Nat):Tree:=
 if asN L n≠0 then tAsr (asV L n)
 else if (zy L len (zJ L len D n).n).1=false then yH L len DT n
 else tRep (yH L len DT n) (zy L len (zJ L len D n).n).2.1.v (zy L len (zJ L len D n).n).2.2
def qg (D:Nat→Out)(DT:Nat→Tree):Nat→List Tree→Nat→List Tree
 |0,ts,_=>ts
 |f+1,ts,n=>if kh L n=true then ts else qg D DT f (ts++[xR L len D DT n]) (yq L len D n).n
def xj (D:Nat→Out)(DT:Nat→Tree)(n:Nat):Tree:=tSeq (qg L len D DT (L.length+1-n) [] n)
def altT (D:Nat→Out)(DT:Nat→Tree):Nat→List Tree→Nat→List Tree
 |0,ts,_=>ts
 |f+1,ts,n=>if zh L (zO L len D n).n=124 then altT D DT f (ts++[xj L len D DT n]) ((zO L len D n).n+1) else ts++[xj L len D DT n]
def altQ (D:Nat→Out)(DT:Nat→Tree)(n:Nat):Tree:=tAlt (altT L len D DT (L.length+1-n) [] n)
def xF:Nat→Nat→Tree
 |0,_=>tAny
 |r+1,n=>altQ L len (zC L len r) (xF r) (zV L len n).n
end
end Pro
def CellsAt (w:World)(A:Nat→Prop)(sv:Value)(n:Nat)(xs:List Value):Prop:=
 (sv = .slice none 0 0∧n=0∧xs=[])∨∃ g cap,sv = .slice (some ⟨g,0,none⟩) n cap∧A g∧n≤cap∧g<w.heap.size∧∀ j x,xs[j]?=some x→w.cell? ⟨g,j,none⟩=some x
theorem CellsAt.keep {P A:Nat→Prop}{w w':World}{sv:Value}{n:Nat}{xs:List Value}(h:CellsAt w A sv n xs)(k:Only P w w')(hn:∀ g,A g→¬P g):CellsAt w' A sv n xs:=by
 rcases h with h |⟨g,cap,h1,h2,h3,h4,h5⟩
 ·exact .inl h
 ·exact .inr ⟨g,cap,h1,h2,h3,Nat.lt_of_lt_of_le h4 k.size,fun j x hj=>(k.cell (World.block_lt_of_cell? w _ (h5 j x hj)) (hn g h2)).trans (h5 j x hj)⟩
theorem CellsAt.mono {A B:Nat→Prop}{w:World}{sv:Value}{n:Nat}{xs:List Value}(h:CellsAt w A sv n xs)(hAB:∀ g,g<w.heap.size→A g→B g):CellsAt w B sv n xs:=by
 rcases h with h |⟨g,cap,h1,h2,h3,h4,h5⟩
 ·exact .inl h
 ·exact .inr ⟨g,cap,h1,hAB g h4 h2,h3,h4,h5⟩
theorem K9 {base k n:Nat}{w:World}{T:TypeId}{sv:Value}{xs:List Value}(h:w.ownsRow base T k sv n xs)(hx:n=0→xs=[]):CellsAt w (fun g=>base≤g) sv n xs:=by
 have hl:=zg h
 have hc:=@World.ownsRow.cells w base T k sv n xs h
 rcases h.2 with ⟨rfl,h0⟩ |⟨g,cap,cur,rfl,hb,hg,hn,_⟩
 ·exact .inl ⟨rfl,h0,hx h0⟩
 ·exact .inr ⟨g,cap,rfl,hb,hn,(hl g rfl).2,fun j x hj=>by
   have:=hc (g:=g) rfl j x hj
   have e:(⟨g,0,none⟩:Addr).add j=⟨g,j,none⟩:=by unfold Addr.add;split<;>simp_all
   rw [e] at this;exact this⟩
def LeafAt (w:World)(A:Nat→Prop)(v:Value)(t:Tree):Prop:=
 (∃ c,t=Pro.tAsr c∧v = .iface 154 (.int .i64 c))∨
 (t=Pro.tAny∧v = .iface 244 (.agg #[]))∨
 (∃ c,t=Pro.xY c∧v = .iface 245 (.int .i32 c))∨
 (∃ c,t=Pro.xK c∧v = .iface 246 (.int .i32 c))∨
 (∃ neg R S v1 v2,t=Pro.tCls neg R S∧v = .iface 250 (.agg #[.bool neg,v1,v2])∧CellsAt w A v1 R.length (rangeCells R)∧CellsAt w A v2 S.length (qr S))
def PartAt:Nat→World→(Nat→Prop)→Value→Tree→Prop
 |0,_,_,_,_=>False
 |f+1,w,A,v,t=>
  LeafAt w A v t∨
  (∃ sv xs ts,t=Pro.tAlt ts∧v = .iface 228 sv∧RowAt w A sv xs∧xs.length≤1000∧ts.length=xs.length∧(∀ (j:Nat) x t',xs[j]?=some x→ts[j]?=some t'→PartAt f w A x t')∧0<xs.length)∨
  (∃ sv xs ts,t=Pro.tSeq ts∧v = .iface 252 sv∧RowAt w A sv xs∧xs.length≤1000∧ts.length=xs.length∧(∀ (j:Nat) x t',xs[j]?=some x→ts[j]?=some t'→PartAt f w A x t'))∨
  (∃ p l m t',t=Pro.tRep t' l m∧v = .iface 254 (.agg #[p,.int .i64 l,.int .i64 m])∧PartAt f w A p t'∧0≤l∧l≤100∧-1≤m∧m≤100∧(m = -1∨l≤m))
theorem LeafAt.keep {P A:Nat→Prop}{w w':World}{v:Value}{t:Tree}(h:LeafAt w A v t)(k:Only P w w')(hn:∀ g,A g→¬P g):LeafAt w' A v t:=by
 rcases h with h |h |h |h |⟨neg,R,S,v1,v2,h1,h2,h3,h4⟩
 ·exact .inl h
 ·exact .inr (.inl h)
 ·exact .inr (.inr (.inl h))
 ·exact .inr (.inr (.inr (.inl h)))
 ·exact .inr (.inr (.inr (.inr ⟨neg,R,S,v1,v2,h1,h2,h3.keep k hn,h4.keep k hn⟩)))
theorem LeafAt.mono {A B:Nat→Prop}{w:World}{v:Value}{t:Tree}(h:LeafAt w A v t)(hAB:∀ g,g<w.heap.size→A g→B g):LeafAt w B v t:=by
 rcases h with h |h |h |h |⟨neg,R,S,v1,v2,h1,h2,h3,h4⟩
 ·exact .inl h
 ·exact .inr (.inl h)
 ·exact .inr (.inr (.inl h))
 ·exact .inr (.inr (.inr (.inl h)))
 ·exact .inr (.inr (.inr (.inr ⟨neg,R,S,v1,v2,h1,h2,h3.mono hAB,h4.mono hAB⟩)))
theorem PartAt.keep {P A:Nat→Prop}{w w':World}(k:Only P w w')(hn:∀ g,A g→¬P g):∀ (f:Nat) (v:Value) (t:Tree),PartAt f w A v t→PartAt f w' A v t
 |0,_,_,h=>h
 |f+1,v,z,h=>by
  rcases h with h |⟨sv,xs,zs,e,h1,h2,h0,h3,h4,h5⟩ |⟨sv,xs,zs,e,h1,h2,h0,h3,h4⟩ |⟨p,l,m,z',e,h1,h2,h3⟩
  ·exact .inl (h.keep k hn)
  ·exact .inr (.inl ⟨sv,xs,zs,e,h1,h2.keep k hn,h0,h3,fun j x z' hx hz=>PartAt.keep k hn f x z' (h4 j x z' hx hz),h5⟩)
  ·exact .inr (.inr (.inl ⟨sv,xs,zs,e,h1,h2.keep k hn,h0,h3,fun j x z' hx hz=>PartAt.keep k hn f x z' (h4 j x z' hx hz)⟩))
  ·exact .inr (.inr (.inr ⟨p,l,m,z',e,h1,PartAt.keep k hn f p z' h2,h3⟩))
theorem PartAt.mono {A B:Nat→Prop}{w:World}(hAB:∀ g,g<w.heap.size→A g→B g):∀ (f:Nat) (v:Value) (t:Tree),PartAt f w A v t→PartAt f w B v t
 |0,_,_,h=>h
 |f+1,v,z,h=>by
  rcases h with h |⟨sv,xs,zs,e,h1,h2,h0,h3,h4,h5⟩ |⟨sv,xs,zs,e,h1,h2,h0,h3,h4⟩ |⟨p,l,m,z',e,h1,h2,h3⟩
  ·exact .inl (h.mono hAB)
  ·exact .inr (.inl ⟨sv,xs,zs,e,h1,h2.mono hAB,h0,h3,fun j x z' hx hz=>PartAt.mono hAB f x z' (h4 j x z' hx hz),h5⟩)
  ·exact .inr (.inr (.inl ⟨sv,xs,zs,e,h1,h2.mono hAB,h0,h3,fun j x z' hx hz=>PartAt.mono hAB f x z' (h4 j x z' hx hz)⟩))
  ·exact .inr (.inr (.inr ⟨p,l,m,z',e,h1,PartAt.mono hAB f p z' h2,h3⟩))
theorem PartAt.up {A:Nat→Prop}{w:World}:∀ (f g:Nat) (v:Value) (t:Tree),f≤g→PartAt f w A v t→PartAt g w A v t
 |0,_,_,_,_,h=>h.elim
 |f+1,0,_,_,hg,_=>by omega
 |f+1,g+1,v,z,hg,h=>by
  rcases h with h |⟨sv,xs,zs,e,h1,h2,h0,h3,h4,h5⟩ |⟨sv,xs,zs,e,h1,h2,h0,h3,h4⟩ |⟨p,l,m,z',e,h1,h2,h3⟩
  ·exact .inl h
  ·exact .inr (.inl ⟨sv,xs,zs,e,h1,h2,h0,h3,fun j x z' hx hz=>PartAt.up f g x z' (by omega) (h4 j x z' hx hz),h5⟩)
  ·exact .inr (.inr (.inl ⟨sv,xs,zs,e,h1,h2,h0,h3,fun j x z' hx hz=>PartAt.up f g x z' (by omega) (h4 j x z' hx hz)⟩))
  ·exact .inr (.inr (.inr ⟨p,l,m,z',e,h1,PartAt.up f g p z' (by omega) h2,h3⟩))
theorem PartAt.leaf {w:World}{A:Nat→Prop}{v:Value}{t:Tree}(h:LeafAt w A v t):PartAt 1 w A v t:=.inl h
def Parts (f:Nat)(w:World)(A:Nat→Prop)(xs:List Value)(zs:List Tree):Prop:=zs.length=xs.length∧∀ (j:Nat) x z',xs[j]?=some x→zs[j]?=some z'→PartAt f w A x z'
theorem Parts.append {f g:Nat}{w:World}{A:Nat→Prop}{xs:List Value}{zs:List Tree}{x:Value}{z:Tree}(h:Parts f w A xs zs)(hx:PartAt g w A x z):Parts (max f g) w A (xs++[x]) (zs++[z]):=by
 refine ⟨by simp [h.1],?_⟩
 intro j y z' hy hz
 by_cases hj:j<xs.length
 ·rw [List.getElem?_append_left hj] at hy
  rw [List.getElem?_append_left (by rw [h.1];exact hj)] at hz
  exact PartAt.up f _ _ _ (by omega) (h.2 j y z' hy hz)
 ·rw [List.getElem?_append_right (by omega)] at hy
  rw [List.getElem?_append_right (by rw [h.1];omega),h.1] at hz
  by_cases h0:j-xs.length=0
  ·rw [h0] at hy hz
   simp at hy hz
   subst hy;subst hz
   exact PartAt.up g _ _ _ (by omega) hx
  ·rw [List.getElem?_eq_none (by simp;omega)] at hy;cases hy
theorem Parts.keep {P A:Nat→Prop}{f:Nat}{w w':World}{xs:List Value}{zs:List Tree}(h:Parts f w A xs zs)(k:Only P w w')(hn:∀ g,A g→¬P g):Parts f w' A xs zs:=⟨h.1,fun j x z hx hz=>PartAt.keep k hn f x z (h.2 j x z hx hz)⟩
theorem Parts.mono {A B:Nat→Prop}{f:Nat}{w:World}{xs:List Value}{zs:List Tree}(h:Parts f w A xs zs)(hAB:∀ g,g<w.heap.size→A g→B g):Parts f w B xs zs:=⟨h.1,fun j x z hx hz=>PartAt.mono hAB f x z (h.2 j x z hx hz)⟩
def GivesT (b:Nat)(L:List (Int×Int))(len dp:Int)(a:Nat→Addr)(w:World)(o:Pro.Out)(t:Tree)(x:Ending)(w':World):Prop:=
 Only (zl b) w w'∧RdAt w' b L o.n len dp∧((o.k=0∧∃ T y F,x = .returned (.tuple #[.iface T y,.nilIface])∧PartAt F w' (fun g=>w.heap.size≤g) (.iface T y) t)∨
  (o.k≠0∧∃ v,x = .returned (.tuple #[.nilIface,v])∧FaultAt w' w.heap.size v (zS a o.k) o.p))
theorem GivesT.good {b:Nat}{L:List (Int×Int)}{len dp:Int}{a:Nat→Addr}{w w':World}{o:Pro.Out}{v:Int}{n:Nat}{T:TypeId}{y:Value}{F:Nat}{t:Tree}(ho:o=Pro.good v n)(hO:Only (zl b) w w')(hR:RdAt w' b L n len dp)(hs:PartAt F w' (fun g=>w.heap.size≤g) (.iface T y) t):GivesT b L len dp a w o t (.returned (.tuple #[.iface T y,.nilIface])) w':=by
 subst ho;exact ⟨hO,hR,.inl ⟨rfl,T,y,F,rfl,hs⟩⟩
theorem GivesT.bad {b:Nat}{L:List (Int×Int)}{len dp:Int}{a:Nat→Addr}{w w':World}{o:Pro.Out}{k:Nat}{p:Int}{n:Nat}{v:Value}{t:Tree}(ho:o=Pro.bad k p n)(hk:k≠0)(hO:Only (zl b) w w')(hR:RdAt w' b L n len dp)(hv:FaultAt w' w.heap.size v (zS a k) p):GivesT b L len dp a w o t (.returned (.tuple #[.nilIface,v])) w':=by
 subst ho;exact ⟨hO,hR,.inr ⟨hk,v,rfl,hv⟩⟩
theorem Tells.givesT {b:Nat}{L:List (Int×Int)}{len dp:Int}{a:Nat→Addr}{w w':World}{o:Pro.Out}{T:TypeId}{y:Value}{x:Ending}{t:Tree}(h:Tells b L len dp a w o (.iface T y) .nilIface x w')(hT:o.k=0→LeafAt w' (fun g=>w.heap.size≤g) (.iface T y) t):GivesT b L len dp a w (Pro.one o) t x w':=by
 obtain ⟨hO,hR,h⟩:=h
 refine ⟨hO,by rw [Pro.K7];exact hR,?_⟩
 rcases h with ⟨hk,hx⟩ |⟨hk,v,hx,hv⟩
 ·exact .inl ⟨by rw [Pro.K8];exact hk,T,y,1,hx,PartAt.leaf (hT hk)⟩
 ·have:Pro.one o=o:=by unfold Pro.one;rw [if_neg hk]
  rw [this];exact .inr ⟨hk,v,hx,hv⟩
theorem GivesT.pair {b:Nat}{L:List (Int×Int)}{len dp:Int}{a:Nat→Addr}{w w':World}{o:Pro.Out}{t:Tree}{x:Ending}(h:GivesT b L len dp a w o t x w'):∃ p q,x = .returned (.tuple #[p,q]):=by
 obtain ⟨_,_,⟨_,T,y,F,hx,_⟩ |⟨_,v,hx,_⟩⟩:=h
 ·exact ⟨_,_,hx⟩
 ·exact ⟨_,_,hx⟩
theorem GivesT.after {b:Nat}{L:List (Int×Int)}{len dp:Int}{a:Nat→Addr}{w w1 w':World}{o:Pro.Out}{t:Tree}{x:Ending}(hO:Only (zl b) w w1)(h:GivesT b L len dp a w1 o t x w'):GivesT b L len dp a w o t x w':=by
 obtain ⟨h1,h2,h3⟩:=h
 refine ⟨hO.trans h1,h2,?_⟩
 rcases h3 with ⟨hk,T,y,F,hx,hs⟩ |⟨hk,v,hx,hv⟩
 ·exact .inl ⟨hk,T,y,F,hx,PartAt.mono (fun g _ hg=>Nat.le_trans hO.size hg) F _ _ hs⟩
 ·exact .inr ⟨hk,v,hx,hv.base hO.size⟩
theorem qh {b:Nat}{L:List (Int×Int)}{len dp:Int}{a:Nat→Addr}{w w':World}{o:Pro.Out}{t:Tree}{x:Ending}(h:GivesT b L len dp a w o t x w')(hk:o.k=0):∃ T y F,x = .returned (.tuple #[.iface T y,.nilIface])∧PartAt F w' (fun g=>w.heap.size≤g) (.iface T y) t∧Only (zl b) w w'∧RdAt w' b L o.n len dp:=by
 obtain ⟨h1,h2,⟨_,T,y,F,hx,hs⟩ |⟨h3,_⟩⟩:=h
 ·exact ⟨T,y,F,hx,hs,h1,h2⟩
 ·exact absurd hk h3
theorem wI {b:Nat}{L:List (Int×Int)}{len dp:Int}{a:Nat→Addr}{w w':World}{o:Pro.Out}{t:Tree}{x:Ending}(h:GivesT b L len dp a w o t x w')(hk:o.k≠0):∃ g,x = .returned (.tuple #[.nilIface,.iface 140 (.pointer (some ⟨g,0,none⟩))])∧FaultAt w' w.heap.size (.iface 140 (.pointer (some ⟨g,0,none⟩))) (zS a o.k) o.p∧Only (zl b) w w'∧RdAt w' b L o.n len dp:=by
 obtain ⟨h1,h2,⟨h3,_⟩ |⟨_,v,hx,hv⟩⟩:=h
 ·exact absurd h3 hk
 ·obtain ⟨g,rfl⟩:=hv.form
  exact ⟨g,hx,hv,h1,h2⟩
end
section
open Sm (Tree Stp)
namespace Sm
def capT:Nat→Tree→Int
 |0,_=>0
 |f+1,T=>
  if T.kind=5 then min (Pro.sumS 0 (T.kids.map (capT f))+T.kids.length-1) 301
  else if T.kind=6 then Pro.sumS 0 (T.kids.map (capT f))
  else if T.kind=7 then min (Pro.repS (capT f T.kid) T.a T.b) 301
  else 1
theorem Y9:∀ (zs:List Int)(t:Int),(∀ z∈zs,0≤z)→t≤301→t≤Pro.sumS t zs
 | [],t,_,_=>Int.le_refl t
 |z :: r,t,h,ht=>by
  have hz:=h z (List.mem_cons_self ..)
  have:=Y9 r (min (t+z) 301) (fun y hy=>h y (List.mem_cons_of_mem _ hy)) (by omega)
  show t≤Pro.sumS (min (t+z) 301) r
  omega
theorem zbD {z t:Int}{r:List Int}(h:∀ y∈z :: r,0≤y)(hs:Pro.sumS t (z :: r)≤300):t+z≤300∧Pro.sumS t (z :: r)=Pro.sumS (t+z) r:=by
 have hz:=h z (List.mem_cons_self ..)
 have h2:=Y9 r (min (t+z) 301) (fun y hy=>h y (List.mem_cons_of_mem _ hy)) (by omega)
 have e:Pro.sumS t (z :: r)=Pro.sumS (min (t+z) 301) r:=rfl
 have h3:t+z≤300:=by omega
 refine ⟨h3,?_⟩
 rw [e,show min (t+z) 301=t+z by omega]
theorem Va:∀ (zs:List Int)(t:Int),(∀ z∈zs,0≤z)→0≤t→t≤301→Pro.sumS t zs≤300→Pro.sumS t zs=t+zs.sum
 | [],t,_,_,_,_=>by simp [Pro.sumS]
 |z :: r,t,h,h0,ht,hs=>by
  obtain ⟨h1,h2⟩:=zbD h hs
  have hz:=h z (List.mem_cons_self ..)
  rw [h2] at hs ⊢
  rw [Va r (t+z) (fun y hy=>h y (List.mem_cons_of_mem _ hy)) (by omega) (by omega) hs]
  simp only [List.sum_cons];omega
theorem WF.up:∀ {f g:Nat}{T:Tree},WF f T→f≤g→WF g T
 |0,_,_,h,_=>h.elim
 |f+1,0,_,_,h=>by omega
 |f+1,g+1,T,h,hfg=>⟨h.1,fun hk t ht=>WF.up (h.2.1 hk t ht) (by omega),fun hk=>⟨WF.up (h.2.2 hk).1 (by omega),(h.2.2 hk).2⟩⟩
theorem Xa:∀ {f:Nat}{T:Tree},WF f T→0≤capT f T
 |0,_,h=>h.elim
 |f+1,T,h=>by
  unfold capT
  have key:T.kind=5∨T.kind=6→∀ z∈T.kids.map (capT f),0≤z:=fun hk z hz=>by
   obtain ⟨t,ht,rfl⟩:=List.mem_map.1 hz
   exact Xa (h.2.1 hk t ht)
  split
  ·rename_i hk
   have:=Y9 (T.kids.map (capT f)) 0 (key (.inl hk)) (by omega)
   have:T.kids.length≠0:=fun e=>h.1 hk (List.eq_nil_of_length_eq_zero e)
   omega
  ·split
   ·rename_i hk
    exact Y9 (T.kids.map (capT f)) 0 (key (.inr hk)) (by omega)
   ·split
    ·rename_i hk
     have:=Pro.kZ (Xa (h.2.2 hk).1) (h.2.2 hk).2.1 (h.2.2 hk).2.2
     omega
    ·omega
theorem JW:∀ {f g:Nat}{T:Tree},WF f T→f≤g→capT g T=capT f T
 |0,_,_,h,_=>h.elim
 |f+1,0,_,_,h=>by omega
 |f+1,g+1,T,h,hfg=>by
  unfold capT
  have key:T.kind=5∨T.kind=6→T.kids.map (capT g)=T.kids.map (capT f):=fun hk=>List.map_congr_left fun t ht=>JW (h.2.1 hk t ht) (by omega)
  split
  ·rename_i hk;rw [key (.inl hk)]
  ·split
   ·rename_i hk;rw [key (.inr hk)]
   ·split
    ·rename_i hk;rw [JW (h.2.2 hk).1 (by omega)]
    ·rfl
section
variable {B C:Tree→Nat→List Stp→Nat×List Stp}
end
theorem zar {R R':Nat→Nat→Prop}(h:∀ i j,R i j↔R' i j):∀ (k i j:Nat),pow R k i j↔pow R' k i j:=by
 have:R=R':=by funext i j;exact propext (h i j)
 subst this;exact fun _ _ _=>Iff.rfl
theorem Yn {X X':Tree→Nat→Nat→Prop}:∀ (ts:List Tree),(∀ t∈ts,∀ i j,X t i j↔X' t i j)→∀ i j,q9 X ts i j↔q9 X' ts i j
 | [],_,_,_=>Iff.rfl
 |t :: ts,h,i,j=>by
  simp only [q9]
  constructor
  ·rintro ⟨m,h1,h2⟩
   exact ⟨m,(h t (List.mem_cons_self ..) i m).1 h1,(Yn ts (fun y hy=>h y (List.mem_cons_of_mem _ hy)) m j).1 h2⟩
  ·rintro ⟨m,h1,h2⟩
   exact ⟨m,(h t (List.mem_cons_self ..) i m).2 h1,(Yn ts (fun y hy=>h y (List.mem_cons_of_mem _ hy)) m j).2 h2⟩
theorem M_up {lf:Tree→Nat→Prop}{ah:Int→Nat→Prop}:∀ {f g:Nat} {T:Tree},WF f T→f≤g→∀ i j,M lf ah g T i j↔M lf ah f T i j
 |0,_,_,h,_=>h.elim
 |f+1,0,_,_,h=>by omega
 |f+1,g+1,T,h,hfg=>by
  intro i j
  unfold M
  have key:T.kind=5∨T.kind=6→∀ t∈T.kids,∀ i j,M lf ah g t i j↔M lf ah f t i j:=fun hk t ht=>M_up (h.2.1 hk t ht) (by omega)
  split
  ·exact Iff.rfl
  ·split
   ·rename_i hk
    exact ⟨fun ⟨t,ht,hm⟩=>⟨t,ht,(key (.inl hk) t ht i j).1 hm⟩,fun ⟨t,ht,hm⟩=>⟨t,ht,(key (.inl hk) t ht i j).2 hm⟩⟩
   ·split
    ·rename_i hk
     exact Yn _ (key (.inr hk)) i j
    ·split
     ·rename_i hk
      have e:=M_up (lf:=lf) (ah:=ah) (h.2.2 hk).1 (show f≤g by omega)
      exact ⟨fun ⟨k,h1,h2,h3⟩=>⟨k,h1,h2,(zar e k i j).1 h3⟩,fun ⟨k,h1,h2,h3⟩=>⟨k,h1,h2,(zar e k i j).2 h3⟩⟩
     ·exact Iff.rfl
theorem M_any {lf:Tree→Nat→Prop}{ah:Int→Nat→Prop}{f g:Nat}{T:Tree}(hf:WF f T)(hg:WF g T)(i j:Nat):M lf ah g T i j↔M lf ah f T i j:=by
 by_cases h:f≤g
 ·exact M_up hf h i j
 ·exact (M_up hg (by omega) i j).symm
end Sm
theorem LeafAt.leaf {w:World}{A:Nat→Prop}{v:Value}{t:Tree}(h:LeafAt w A v t):t.kind≤4∧∃ T x,leafT T∧v = .iface T x:=by
 rcases h with ⟨c,rfl,rfl⟩ |⟨rfl,rfl⟩ |⟨c,rfl,rfl⟩ |⟨c,rfl,rfl⟩ |⟨neg,R,S,v1,v2,rfl,rfl,_⟩
 ·exact ⟨by simp [Pro.tAsr],_,_,.inl rfl,rfl⟩
 ·exact ⟨by simp [Pro.tAny],_,_,.inr (.inl rfl),rfl⟩
 ·exact ⟨by simp [Pro.xY],_,_,.inr (.inr (.inl rfl)),rfl⟩
 ·exact ⟨by simp [Pro.xK],_,_,.inr (.inr (.inr (.inl rfl))),rfl⟩
 ·exact ⟨by simp [Pro.tCls],_,_,.inr (.inr (.inr (.inr rfl))),rfl⟩
theorem zas {α β:Type}{xs:List α}{ts:List β}(h:ts.length=xs.length){j:Nat}{t:β}(ht:ts[j]?=some t):∃ x,xs[j]?=some x:=by
 have:=(List.getElem?_eq_some_iff.1 ht).1
 exact ⟨xs[j]'(by omega),List.getElem?_eq_getElem (by omega)⟩
theorem PartAt.wf {w:World}{A:Nat→Prop}:∀ {f:Nat} {v:Value} {t:Tree},PartAt f w A v t→Sm.WF f t
 |0,_,_,h=>h.elim
 |f+1,v,t,h=>by
  rcases h with h |⟨sv,xs,ts,rfl,_,_,_,hl,h4,h5⟩ |⟨sv,xs,ts,rfl,_,_,_,hl,h4⟩ |⟨p,l,m,t',rfl,_,h2,h3,h4,h5,h6,h7⟩
  ·have:=h.leaf.1
   exact ⟨fun e=>by omega,fun e=>by omega,fun e=>by omega⟩
  ·refine ⟨fun _ e=>?_,fun _ t ht=>?_,fun e=>absurd e (by simp [Pro.tAlt])⟩
   ·have:ts.length=0:=by have:ts=[]:=e;simp [this]
    omega
   ·obtain ⟨j,hj⟩:=jO (show t∈ts from ht)
    obtain ⟨x,hx⟩:=zas hl hj
    exact PartAt.wf (h4 j x t hx hj)
  ·refine ⟨fun e=>absurd e (by simp [Pro.tSeq]),fun _ t ht=>?_,fun e=>absurd e (by simp [Pro.tSeq])⟩
   obtain ⟨j,hj⟩:=jO (show t∈ts from ht)
   obtain ⟨x,hx⟩:=zas hl hj
   exact PartAt.wf (h4 j x t hx hj)
  ·refine ⟨fun e=>absurd e (by simp [Pro.tRep]),fun e=>absurd e (by simp [Pro.tRep]),fun _=>⟨?_,h3,h7⟩⟩
   exact PartAt.wf h2
theorem PartAt.size {w:World}{A:Nat→Prop}:∀ {f:Nat} {v:Value} {t:Tree},PartAt f w A v t→SizeAt f w A v (Sm.capT f t)
 |0,_,_,h=>h.elim
 |f+1,v,t,h=>by
  have key:∀ (xs:List Value) (ts:List Tree),ts.length=xs.length→(∀ (j:Nat) x t',xs[j]?=some x→ts[j]?=some t'→PartAt f w A x t')→∀ (j:Nat) x z',xs[j]?=some x→(ts.map (Sm.capT f))[j]?=some z'→SizeAt f w A x z':=by
   intro xs ts _ hh j x z' hx hz
   rw [List.getElem?_map] at hz
   cases ht:ts[j]? with
   |none=>rw [ht] at hz;cases hz
   |some t'=>rw [ht] at hz;cases hz;exact PartAt.size (hh j x t' hx ht)
  rcases h with h |⟨sv,xs,ts,rfl,h1,h2,h0,hl,h4,h5⟩ |⟨sv,xs,ts,rfl,h1,h2,h0,hl,h4⟩ |⟨p,l,m,t',rfl,h1,h2,h3,h4,h5,h6,h7⟩
  ·obtain ⟨hk,T,x,hT,hv⟩:=h.leaf
   refine .inl ⟨?_,T,x,hT,hv⟩
   unfold Sm.capT
   rw [if_neg (by omega),if_neg (by omega),if_neg (by omega)]
  ·refine .inr (.inl ⟨sv,xs,ts.map (Sm.capT f),h1,h2,h0,by simp [hl],key xs ts hl h4,h5,?_⟩)
   unfold Sm.capT
   rw [if_pos (by rfl),←hl]
   rfl
  ·refine .inr (.inr (.inl ⟨sv,xs,ts.map (Sm.capT f),h1,h2,h0,by simp [hl],key xs ts hl h4,?_⟩))
   unfold Sm.capT
   rw [if_neg (by simp [Pro.tSeq]),if_pos (by rfl)]
   rfl
  ·refine .inr (.inr (.inr ⟨p,l,m,Sm.capT f t',h1,PartAt.size h2,h3,h4,h5,h6,h7,?_⟩))
   conv=>lhs;unfold Sm.capT
   rw [if_neg (by simp [Pro.tRep]),if_neg (by simp [Pro.tRep]),if_pos (by rfl)]
   rfl
end
end Go.Proofs.YtnagphodmfejiaaGreatDoor
