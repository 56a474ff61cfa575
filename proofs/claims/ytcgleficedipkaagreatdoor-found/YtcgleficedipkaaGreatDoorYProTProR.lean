/- A reader that is followed from the world where a method began. -/
import Derived.Test.YtcgleficedipkaaGreatDoorYProAProJ2
import Derived.Test.YtcgleficedipkaaGreatDoorYRefQRefT
namespace Go.Proofs.YtcgleficedipkaaGreatDoor
open _root_.Go.Proofs.Tryz
variable {w W w':World}{rb cb:Nat}(w0:World)(b:Nat){L:List (Int×Int)}(n:Nat)(len dp:Int)(a:Nat->Addr)(v:Value)(base:Nat){neg:Bool}{R:List (Int×Int)}{S:List Int}{v1 v2 p:Value}{l m:Int}
section
open Go.RowKit
def Own (b base:Nat)(k:Nat):Prop:=k=b\/base<=k
theorem Own.of {b base:Nat}{w w':World}(k:ze (zt b) w w'):ze (Own b base) w w':=k.mono (fun _ _ h=>.inl h)
theorem Own.to {b:Nat}{w w':World}(k:ze (Own b w.heap.size) w w'):ze (zt b) w w':=k.mono (fun j hj h=>by rcases h with h |h;exact h;omega)
structure Trk (base:Nat)(w0:World)(b:Nat)(L:List (Int×Int))(n:Nat)(len dp:Int)(a:Nat->Addr)(w:World):Prop where
 rd:zR w b L n len dp
 se:zW w a
 on:ze (Own b base) w0 w
 hb:11<=b
 lt:b<base
 le:base<=w0.heap.size
section
variable {base:Nat} {w0:World} {b:Nat} {L:List (Int×Int)} {n:Nat} {len dp:Int} {a:Nat->Addr} {w w':World}
theorem Trk.start (h:zR w b L n len dp)(hS:zW w a)(hb:11<=b):Trk w.heap.size w b L n len dp a w:=⟨h,hS,ze.refl _ _,hb,h.lt,z8 _⟩
theorem Trk.drewN (t:Trk base w0 b L n len dp a w)(q:Nat):Trk base w0 b L n len dp a (w.drewN q):=⟨t.rd.drewN q,t.se.drewN q,t.on.drewN q,t.hb,t.lt,t.le⟩
theorem Trk.setN (t:Trk base w0 b L n len dp a w)(m:Nat)(j:Int)(hj:j=(m:Int)):Trk base w0 b L m len dp a (w.setCell ⟨b,1,none⟩ (.int .i64 j)):=⟨t.rd.setN m j hj,t.se.mine ((ze.refl _ _).mine _ _) t.hb,t.on.trans (Own.of ((ze.refl _ _).mine _ _)),t.hb,t.lt,t.le⟩
theorem Trk.calm (t:Trk base w0 b L n len dp a w)(k:Q8 w w'):Trk base w0 b L n len dp a w':=⟨t.rd.keep k (fun f=>f) (fun _ _ f=>f),t.se.keep k (fun _ _ f=>f),t.on.trans k.none,t.hb,t.lt,t.le⟩
theorem Trk.mine {m:Nat}(t:Trk base w0 b L n len dp a w)(k:ze (zt b) w w')(h:zR w' b L m len dp):Trk base w0 b L m len dp a w':=⟨h,t.se.mine k t.hb,t.on.trans (Own.of k),t.hb,t.lt,t.le⟩
theorem Trk.c1 (t:Trk base w0 b L n len dp a w):w.cell? ⟨b,1,none⟩=some (.int .i64 n):=t.rd.c1
theorem Trk.f1 (t:Trk base w0 b L n len dp a w):w.frozen? ⟨b,1,none⟩=false:=t.rd.f1
theorem Trk.good {o:Pro.Out}{yes yes' no:Value}{v:Int}(t:Trk w0.heap.size w0 b L n len dp a w)(ho:o=Pro.good v n)(hy:yes'=yes):Tells b L len dp a w0 o yes no (.returned (.tuple #[yes',.nilIface])) w:=qU ho hy (Own.to t.on) t.rd
theorem Trk.bad {o:Pro.Out}{yes no v:Value}{k:Nat}{p:Int}(t:Trk w0.heap.size w0 b L n len dp a w)(ho:o=Pro.bad k p n)(hk:k≠0)(hF:zI w w0.heap.size v (zN a k) p):Tells b L len dp a w0 o yes no (.returned (.tuple #[no,v])) w:=jK ho hk (Own.to t.on) t.rd hF
theorem Trk.yes {o:Pro.Out}{yes no:Value}(t:Trk w0.heap.size w0 b L o.n len dp a w)(hk:o.k=0):Tells b L len dp a w0 o yes no (.returned (.tuple #[yes,.nilIface])) w:=Tells.yes hk (Own.to t.on) t.rd
theorem Trk.no {o:Pro.Out}{yes no v:Value}(t:Trk w0.heap.size w0 b L o.n len dp a w)(hk:o.k≠0)(hv:zI w w0.heap.size v (zN a o.k) o.p):Tells b L len dp a w0 o yes no (.returned (.tuple #[no,v])) w:=Tells.no hk (Own.to t.on) t.rd hv
theorem yH (t:Trk base w0 b L n len dp a w)(hL:L.length<=400)(hn:n<=1000) :
  Calls prog 157 #[.pointer (some ⟨b,0,none⟩)] w fun x w'=>x = .returned (.int .i32 (Pro.zf L n))/\w'=w:=yA b L n len dp w t.rd hL hn
theorem XE (k:Nat)(t:Trk base w0 b L n len dp a w)(hL:L.length<=400)(hn:n<=1000)(hk:k<=1000) :
  Calls prog 159 #[.pointer (some ⟨b,0,none⟩),.int .i64 k] w fun x w'=>x = .returned (.int .i32 (Pro.zf L (n+k)))/\w'=w:=wW b L n len dp k w t.rd hL hn hk
theorem yE (t:Trk base w0 b L n len dp a w)(hL:L.length<=400)(hn:n<=L.length) :
  Calls prog 114 #[.pointer (some ⟨b,0,none⟩)] w fun x w'=>x = .returned (.int .i64 (Pro.zC L len n))/\∃ q,w'=w.drewN q:=Jo b L n len dp w t.rd hL hn
theorem wY (t:Trk base w0 b L n len dp a w) :
  Calls prog 63 #[.pointer (some ⟨b,0,none⟩)] w fun x w'=>x = .returned (.bool ((n:Int) == (L.length:Int)))/\∃ q,w'=w.drewN q:=jw b L n len dp w t.rd
theorem y8 (word:ByteArray)(t:Trk base w0 b L n len dp a w)(hL:L.length<=400)(hn:n<=1000)(hw:word.size<=10)(hm:Pro.zr L n word=false) :
  Calls prog 113 #[.pointer (some ⟨b,0,none⟩),.string word] w fun x w'=>x = .returned (.bool false)/\∃ q,w'=w.drewN q:=xC b L n len dp word w t.rd hL hn hw hm
theorem jM (word:ByteArray)(t:Trk base w0 b L n len dp a w)(hL:L.length<=400)(hn:n<=1000)(hw:word.size<=10)(hm:Pro.zr L n word=true) :
  Calls prog 113 #[.pointer (some ⟨b,0,none⟩),.string word] w fun x w'=>x = .returned (.bool true)/\Trk base w0 b L (n+word.size) len dp a w':=
 (yT b L n len dp word w t.rd hL hn hw hm).mono (by rintro e w1 ⟨rfl,h1,h2⟩;exact ⟨rfl,t.mine h2 h1⟩)
theorem taken_t (word:ByteArray)(t:Trk base w0 b L n len dp a w)(hL:L.length<=400)(hn:n<=1000)(hw:word.size<=10) :
  Calls prog 113 #[.pointer (some ⟨b,0,none⟩),.string word] w fun x w'=>x = .returned (.bool (Pro.zr L n word))/\Trk base w0 b L (Pro.behind L n word) len dp a w':=
 (VD b L n len dp word w t.rd hL hn hw).mono (by rintro e w1 ⟨rfl,h1,h2⟩;exact ⟨rfl,t.mine h2 h1⟩)
def rdN (w:World)(b:Nat):Nat:=match w.cell? ⟨b,1,none⟩ with
 |some v=>(intOf v).toNat
 |none=>0
theorem Trk.rdN (t:Trk base w0 b L n len dp a w):rdN w b=n:=by
 unfold Go.Proofs.YtcgleficedipkaaGreatDoor.rdN;rw [t.c1];simp [intOf]
theorem Yi (t:Trk base w0 b L n len dp a w)(hL:L.length<=400)(hn:n<=L.length) :
  Calls prog 64 #[.pointer (some ⟨b,0,none⟩)] w fun x w'=>∃ v,x = .returned v/\zI w' w0.heap.size v (zN a 3) (Pro.zC L len n)/\Trk base w0 b L n len dp a w':=
 (jJ b L n len dp a w t.rd t.se hL hn).mono (by rintro e w1 ⟨v,rfl,hv,hO⟩;exact ⟨v,rfl,hv.base t.on.size,t.calm hO⟩)
theorem vC (s:ByteArray)(r:Int)(t:Trk base w0 b L n len dp a w)(h1:r<=1114111)(hs:∀ b∈s.data.toList,b.toNat<128)(hz:s.size<=20) :
  Calls prog 253 #[.string s,.int .i32 r] w fun e w'=>e = .returned (.bool (Pro.inB s r))/\Trk base w0 b L n len dp a w':=
 (Yh s r w h1 hs hz).mono (by rintro e w1 ⟨rfl,hO⟩;exact ⟨rfl,t.calm hO⟩)
theorem Xl (T:TypeId)(k:Nat)(p:Int)(x:Value)(hx : .iface T x=zN a k)(t:Trk base w0 b L n len dp a w) :
  Calls prog 45 #[.iface T x,.int .i64 p] w fun e w'=>∃ v,e = .returned v/\zI w' w0.heap.size v (zN a k) p/\Trk base w0 b L n len dp a w':=
 (wX T x p w).mono (by rintro e w1 ⟨v,rfl,hv,hO⟩;rw [hx] at hv;exact ⟨v,rfl,hv.base t.on.size,t.calm hO⟩)
theorem qA {f:FuncId}{args:Array Value}{o:Pro.Out}{yes no:Value}(t:Trk base w0 b L n len dp a w)(h:Calls prog f args w (Tells b L len dp a w o yes no)) :
  Calls prog f args w fun x w'=>Trk base w0 b L o.n len dp a w'/\((o.k=0/\x = .returned (.tuple #[yes,.nilIface]))\/(o.k≠0/\∃ v,x = .returned (.tuple #[no,v])/\zI w' w0.heap.size v (zN a o.k) o.p)):=
 h.mono (by
  rintro x w1 ⟨hO,hR,hT⟩;refine ⟨t.mine hO hR,?_⟩;rcases hT with hT |⟨hk,v,hx,hv⟩
  ·exact .inl hT
  ·exact .inr ⟨hk,v,hx,hv.base t.on.size⟩)
end
set_option maxHeartbeats 2000000
def charV (c:Int):Value:=.iface 247 (.int .i32 c)
def manyV (c:Int):Value:=.iface 248 (.int .i32 c)
def oneV (m:Bool)(c:Int):Value:=match m with
 |true=>manyV c
 |false=>charV c
variable (L)
theorem wD (w:World)(h:zR w b L n len dp)(hS:zW w a)(hb:11<=b)(hL:L.length<=400)(hn:n<L.length)(hF:Pro.Fit L) :
  Calls prog 223 #[.pointer (some ⟨b,0,none⟩)] w (Tells b L len dp a w (Pro.escO L len n) (oneV (Pro.setB (Pro.zf L (n+1))) (Pro.escO L len n).v) .nilIface):=by
 have T:=zc (Trk.start h hS hb);have c1:=h.c1;have f1:=h.f1;clear h hS;have hfit:=hF (n+1);cases hset:Pro.setB (Pro.zf L (n+1))
 ·have hset':Pro.inB { data:=#[100,68,119,87,115,83] } (Pro.zf L (n+1))=false:=hset;cases hback:Pro.backB (Pro.zf L (n+1))
  ·have HO:Hid (Pro.escO L len n=Pro.numO L len (n+1)):=(by unfold Pro.escO;rw [if_neg (by simp [hset]),if_neg (by simp [hback])];rfl);have hback':Pro.inB { data:=#[49,50,51,52,53,54,55,56,57,107,112,80] } (Pro.zf L (n+1))=false:=hback;by_cases hk:(Pro.numO L len (n+1)).k=0
   ·go_enter func223,ntmps223;go_wp2_with (first |(go_at_call 114;refine (yE (n:=n) (by exact zb T) hL (by omega)).mono ?_;rintro e wq ⟨rfl,qq,rfl⟩) |(go_at_call 157;refine Q7 (yH (n:=n+1) (by exact ((zb T).drewN _).setN _ _ (by omega)) hL (by omega)) ?_) |(go_at_call 253;refine (vC (n:=n+1) _ _ (by first |exact zb T |exact ((zb T).drewN _).setN _ _ (by omega)) (by omega) (by decide) (by decide)).mono ?_;rintro e wq ⟨rfl,tq⟩;have T:=zc tq;have c1:=tq.c1;have f1:=tq.f1) |(go_at_call 254;refine (qA (n:=n+1) (by exact zb T) (kF b L (n+1) len dp a _ (Trk.rd (n:=n+1) (by exact zb T)) (Trk.se (n:=n+1) (by exact zb T)) hb hL (by omega) hF)).mono ?_;rintro e wq ⟨tq,hT⟩;obtain rfl:=zX hT hk;clear hT;have T:=zc tq;have c1:=tq.c1;have f1:=tq.f1));go_ret2;rw [zb HO];exact (zb T).yes hk
   ·go_enter func223,ntmps223;go_wp2_with (first |(go_at_call 114;refine (yE (n:=n) (by exact zb T) hL (by omega)).mono ?_;rintro e wq ⟨rfl,qq,rfl⟩) |(go_at_call 157;refine Q7 (yH (n:=n+1) (by exact ((zb T).drewN _).setN _ _ (by omega)) hL (by omega)) ?_) |(go_at_call 253;refine (vC (n:=n+1) _ _ (by first |exact zb T |exact ((zb T).drewN _).setN _ _ (by omega)) (by omega) (by decide) (by decide)).mono ?_;rintro e wq ⟨rfl,tq⟩;have T:=zc tq;have c1:=tq.c1;have f1:=tq.f1) |(go_at_call 254;refine (qA (n:=n+1) (by exact zb T) (kF b L (n+1) len dp a _ (Trk.rd (n:=n+1) (by exact zb T)) (Trk.se (n:=n+1) (by exact zb T)) hb hL (by omega) hF)).mono ?_;rintro e wq ⟨tq,hT⟩;obtain ⟨v,rfl,hv⟩:=qz hT hk;obtain ⟨gv,hgv⟩:=hv.form;subst hgv;clear hT;have T:=zc tq;have c1:=tq.c1;have f1:=tq.f1));go_ret2;rw [zb HO];exact (zb T).no hk hv
  ·have HO:Hid (Pro.escO L len n=Pro.bad 6 (Pro.zC L len n) (n+1)):=(by unfold Pro.escO;rw [if_neg (by simp [hset]),if_pos hback];rfl);have hback':Pro.inB { data:=#[49,50,51,52,53,54,55,56,57,107,112,80] } (Pro.zf L (n+1))=true:=hback;have hs6:=(zb T).se.s6;go_enter func223,ntmps223;go_wp2_with (first |(go_at_call 114;refine (yE (n:=n) (by exact zb T) hL (by omega)).mono ?_;rintro e wq ⟨rfl,qq,rfl⟩) |(go_at_call 157;refine Q7 (yH (n:=n+1) (by exact ((zb T).drewN _).setN _ _ (by omega)) hL (by omega)) ?_) |(go_at_call 253;refine (vC (n:=n+1) _ _ (by first |exact zb T |exact ((zb T).drewN _).setN _ _ (by omega)) (by omega) (by decide) (by decide)).mono ?_;rintro e wq ⟨rfl,tq⟩;have T:=zc tq;have c1:=tq.c1;have f1:=tq.f1);(have hs6:=(zb T).se.s6) |(go_at_call 45;refine (Xl (n:=n+1) _ 6 _ _ rfl (by exact zb T)).mono ?_;rintro e wq ⟨v,rfl,hv,tq⟩;have T:=zc tq;have c1:=tq.c1;have f1:=tq.f1));go_ret2;exact (zb T).bad (zb HO) (by decide) hv
 ·have HO:Hid (Pro.escO L len n=Pro.good (Pro.zf L (n+1)) (n+2)):=by unfold Pro.escO;rw [if_pos hset];rfl
  have hset':Pro.inB { data:=#[100,68,119,87,115,83] } (Pro.zf L (n+1))=true:=hset;go_enter func223,ntmps223;go_wp2_with (first |(go_at_call 114;refine (yE (n:=n) (by exact zb T) hL (by omega)).mono ?_;rintro e wq ⟨rfl,qq,rfl⟩) |(go_at_call 157;refine Q7 (yH (n:=n+1) (by exact ((zb T).drewN _).setN _ _ (by omega)) hL (by omega)) ?_) |(go_at_call 253;refine (vC (n:=n+1) _ _ (by exact ((zb T).drewN _).setN _ _ (by omega)) (by omega) (by decide) (by decide)).mono ?_;rintro e wq ⟨rfl,tq⟩;have T:=zc tq;have c1:=tq.c1;have f1:=tq.f1));go_ret2;exact ((zb T).setN (n+2) _ (by omega)).good (zb HO) (by rw [zb HO];rfl)
namespace Pro
theorem setB_b:setB 98=false:=by decide
theorem setB_d:setB 45=false:=by decide
variable {L n}
theorem many_no (h:zf L n≠92):many L n=false:=by unfold many;simp [h]
theorem Qw (h:zf L n=92):many L n=setB (zf L (n+1)):=by unfold many;simp [h]
end Pro
theorem xD (w:World)(h:zR w b L n len dp)(hS:zW w a)(hb:11<=b)(hL:L.length<=400)(hn:n<L.length)(hF:Pro.Fit L) :
  Calls prog 276 #[.pointer (some ⟨b,0,none⟩)] w (Tells b L len dp a w (Pro.zi L len n) (oneV (Pro.many L n) (Pro.zi L len n).v) .nilIface):=by
 have T:=zc (Trk.start h hS hb);have c1:=h.c1;have f1:=h.f1;clear h hS;have hfit:=hF n;by_cases he:Pro.zf L n=92
 ·by_cases h1:Pro.zf L (n+1)=98
  ·have HO:Hid (Pro.zi L len n=Pro.good 8 (n+2)):=(by unfold Pro.zi;rw [if_pos ⟨he,h1⟩];rfl);have HM:Hid (Pro.many L n=false):=(by rw [Pro.Qw he,h1];exact Pro.setB_b);have m1:Pro.zr L n { data:=#[92,98] }=true:=(by rw [Pro.yC L n 92 98 92 98 rfl rfl];simp [he,h1]);clear he h1;go_enter func276,ntmps276;go_wp2_with (go_at_call 113;refine (jM (n:=n) _ (by exact zb T) hL (by omega) (by decide) (by assumption)).mono ?_;rintro e wq ⟨rfl,tq⟩;have tq:Trk _ _ b L ((n)+2) len dp a wq:=tq;have T:=zc tq;have c1:=tq.c1;have f1:=tq.f1);go_ret2;exact (zb T).good (zb HO) (by rw [zb HO,zb HM];rfl)
  ·have m1:Pro.zr L n { data:=#[92,98] }=false:=(by rw [Pro.yC L n 92 98 92 98 rfl rfl];simp [he,h1]);by_cases h2:Pro.zf L (n+1)=45
   ·have HO:Hid (Pro.zi L len n=Pro.good 45 (n+2)):=(by unfold Pro.zi;rw [if_neg (fun hh=>h1 hh.2),if_pos ⟨he,h2⟩];rfl);have HM:Hid (Pro.many L n=false):=(by rw [Pro.Qw he,h2];exact Pro.setB_d);have m2:Pro.zr L n { data:=#[92,45] }=true:=(by rw [Pro.yC L n 92 45 92 45 rfl rfl];simp [he,h2]);clear he h1 h2;go_enter func276,ntmps276;go_wp2_with (first |(go_at_call 113;refine (y8 (n:=n) _ (by first |exact zb T |exact (zb T).drewN _) hL (by omega) (by decide) (by assumption)).mono ?_;rintro e wq ⟨rfl,qq,rfl⟩) |(go_at_call 113;refine (jM (n:=n) _ (by exact (zb T).drewN _) hL (by omega) (by decide) (by assumption)).mono ?_;rintro e wq ⟨rfl,tq⟩;have tq:Trk _ _ b L ((n)+2) len dp a wq:=tq;have T:=zc tq;have c1:=tq.c1;have f1:=tq.f1));go_ret2;exact (zb T).good (zb HO) (by rw [zb HO,zb HM];rfl)
   ·have m2:Pro.zr L n { data:=#[92,45] }=false:=(by rw [Pro.yC L n 92 45 92 45 rfl rfl];simp [he,h2]);have HO:Hid (Pro.zi L len n=Pro.escO L len n):=(by unfold Pro.zi;rw [if_neg (fun hh=>h1 hh.2),if_neg (fun hh=>h2 hh.2),if_pos he];rfl);have HM:Hid (Pro.many L n=Pro.setB (Pro.zf L (n+1))):=Pro.Qw he;have he':(Pro.zf L n == 92)=true:=(by simp [he]);clear he h1 h2;by_cases hk:(Pro.escO L len n).k=0
    ·go_enter func276,ntmps276;go_wp2_with (first |(go_at_call 113;refine (y8 (n:=n) _ (by first |exact zb T |exact (zb T).drewN _) hL (by omega) (by decide) (by assumption)).mono ?_;rintro e wq ⟨rfl,qq,rfl⟩) |(go_at_call 157;refine Q7 (yH (n:=n) (by exact (zb T).drewN _) hL (by omega)) ?_) |(go_at_call 223;refine (qA (n:=n) (by exact (zb T).drewN _) (wD b L n len dp a _ (Trk.rd (n:=n) (by exact (zb T).drewN _)) (Trk.se (n:=n) (by exact (zb T).drewN _)) hb hL (by omega) hF)).mono ?_;rintro e wq ⟨tq,hT⟩;obtain rfl:=zX hT hk;clear hT;have T:=zc tq;have c1:=tq.c1;have f1:=tq.f1));go_ret2;rw [zb HO,zb HM];exact (zb T).yes hk
    ·go_enter func276,ntmps276;go_wp2_with (first |(go_at_call 113;refine (y8 (n:=n) _ (by first |exact zb T |exact (zb T).drewN _) hL (by omega) (by decide) (by assumption)).mono ?_;rintro e wq ⟨rfl,qq,rfl⟩) |(go_at_call 157;refine Q7 (yH (n:=n) (by exact (zb T).drewN _) hL (by omega)) ?_) |(go_at_call 223;refine (qA (n:=n) (by exact (zb T).drewN _) (wD b L n len dp a _ (Trk.rd (n:=n) (by exact (zb T).drewN _)) (Trk.se (n:=n) (by exact (zb T).drewN _)) hb hL (by omega) hF)).mono ?_;rintro e wq ⟨tq,hT⟩;obtain ⟨v,rfl,hv⟩:=qz hT hk;obtain ⟨gv,hgv⟩:=hv.form;subst hgv;clear hT;have T:=zc tq;have c1:=tq.c1;have f1:=tq.f1));go_ret2;rw [zb HO,zb HM];exact (zb T).no hk hv
 ·have m1:Pro.zr L n { data:=#[92,98] }=false:=by rw [Pro.yC L n 92 98 92 98 rfl rfl];simp [he]
  have m2:Pro.zr L n { data:=#[92,45] }=false:=by rw [Pro.yC L n 92 45 92 45 rfl rfl];simp [he]
  have HO:Hid (Pro.zi L len n=Pro.good (Pro.zf L n) (n+1)):=by unfold Pro.zi;rw [if_neg (fun hh=>he hh.1),if_neg (fun hh=>he hh.1),if_neg he];rfl
  have HM:Hid (Pro.many L n=false):=Pro.many_no he;have he':(Pro.zf L n == 92)=false:=by simp [he]
  clear he;go_enter func276,ntmps276;go_wp2_with (first |(go_at_call 113;refine (y8 (n:=n) _ (by first |exact zb T |exact (zb T).drewN _) hL (by omega) (by decide) (by assumption)).mono ?_;rintro e wq ⟨rfl,qq,rfl⟩) |(go_at_call 157;refine Q7 (yH (n:=n) (by exact (zb T).drewN _) hL (by omega)) ?_));go_ret2;exact (Trk.setN (by exact (zb T).drewN _) (n+1) _ (by omega)).good (zb HO) (by rw [zb HO,zb HM];rfl)
theorem wE (w0 w:World)(t:Trk base w0 b L n len dp a w)(hL:L.length<=400)(hn:n<=500) :
  Calls prog 277 #[.pointer (some ⟨b,0,none⟩)] w fun x w'=>x = .returned (.bool (Pro.xJ L n))/\w'=w:=by
 have T:=zc t;clear t;by_cases h1:Pro.zf L n=45
 ·by_cases h2:Pro.zf L (n+1)=93
  ·have HD:Hid (Pro.xJ L n=false):=(by unfold Pro.xJ;simp [h1,h2];trivial);go_enter func277,ntmps277;go_wp2_with (first |(go_at_call 157;refine Q7 (yH (n:=n) (by exact zb T) hL (by omega)) ?_) |(go_at_call 159;refine Q7 (XE (n:=n) 1 (by exact zb T) hL (by omega) (by omega)) ?_));go_ret;rw [zb HD];exact ⟨rfl,rfl⟩
  ·by_cases h3:Pro.zf L (n+1) = -1
   ·have HD:Hid (Pro.xJ L n=false):=(by unfold Pro.xJ;simp [h1,h3];trivial);go_enter func277,ntmps277;go_wp2_with (first |(go_at_call 157;refine Q7 (yH (n:=n) (by exact zb T) hL (by omega)) ?_) |(go_at_call 159;refine Q7 (XE (n:=n) 1 (by exact zb T) hL (by omega) (by omega)) ?_));go_ret;rw [zb HD];exact ⟨rfl,rfl⟩
   ·have HD:Hid (Pro.xJ L n=true):=(by unfold Pro.xJ;simp [h1,h2,h3];trivial);have h2':(Pro.zf L (n+1) != 93)=true:=(by simp [h2]);have h3':(Pro.zf L (n+1) != -1)=true:=(by simp [h3]);clear h2 h3;go_enter func277,ntmps277;go_wp2_with (first |(go_at_call 157;refine Q7 (yH (n:=n) (by exact zb T) hL (by omega)) ?_) |(go_at_call 159;refine Q7 (XE (n:=n) 1 (by exact zb T) hL (by omega) (by omega)) ?_));go_ret;rw [zb HD];exact ⟨rfl,rfl⟩
 ·have HD:Hid (Pro.xJ L n=false):=by unfold Pro.xJ;simp [h1];trivial
  have h1':(Pro.zf L n == 45)=false:=by simp [h1]
  clear h1;go_enter func277,ntmps277;go_wp2_with (first |(go_at_call 157;refine Q7 (yH (n:=n) (by exact zb T) hL (by omega)) ?_) |(go_at_call 159;refine Q7 (XE (n:=n) 1 (by exact zb T) hL (by omega) (by omega)) ?_));go_ret;rw [zb HD];exact ⟨rfl,rfl⟩
set_option maxRecDepth 1000000
def rangeCells:List (Int×Int)->List Value
 | []=>[]
 |(a,b) :: r=>.int .i32 a :: .int .i32 b :: rangeCells r
theorem kG:∀ (l r:List (Int×Int)),rangeCells (l++r)=rangeCells l++rangeCells r
 | [],r=>rfl
 |(a,b) :: l,r=>by simp only [jS,rangeCells,kG l r]
def qB (l:List Int):List Value:=l.map (Value.int .i32)
structure yB (w:World)(cb:Nat)(neg:Bool)(R:List (Int×Int))(S:List Int)(v1 v2:Value):Prop where
 k0:w.cell? ⟨cb,0,none⟩=some (.bool neg)
 k1:w.cell? ⟨cb,1,none⟩=some v1
 k2:w.cell? ⟨cb,2,none⟩=some v2
 o1:w.ownsRow (cb+1) 373 2 v1 R.length (rangeCells R)
 o2:w.ownsRow (cb+1) 248 1 v2 S.length (qB S)
 f1:w.frozen? ⟨cb,1,none⟩=false
 f2:w.frozen? ⟨cb,2,none⟩=false
theorem yB.lt (h:yB w cb neg R S v1 v2):cb<w.heap.size:=zE w ⟨cb,0,none⟩ h.k0
theorem yB.keep {P:Nat->Prop}{w w':World}{cb:Nat}{neg:Bool}{R:List (Int×Int)}{S:List Int}{v1 v2:Value}(h:yB w cb neg R S v1 v2)(k:ze P w w')(hn:∀ g,cb<=g->¬P g):yB w' cb neg R S v1 v2:=
 ⟨(k.cell (p:=⟨cb,0,none⟩) h.lt (hn _ (z8 _))).trans h.k0,(k.cell (p:=⟨cb,1,none⟩) h.lt (hn _ (z8 _))).trans h.k1,(k.cell (p:=⟨cb,2,none⟩) h.lt (hn _ (z8 _))).trans h.k2,
  zn h.o1 k (fun g hg=>hn g (by have:=(zh h.o1 g hg).1;omega)),zn h.o2 k (fun g hg=>hn g (by have:=(zh h.o2 g hg).1;omega)),
  (k.frozen (p:=⟨cb,1,none⟩) h.lt (hn _ (z8 _))).trans h.f1,(k.frozen (p:=⟨cb,2,none⟩) h.lt (hn _ (z8 _))).trans h.f2⟩
theorem Tryz.infoRange:(prog.info? 373).map (fun i=>(i.zero,i.size,i.bytes))=some (some (.agg #[.int .i32 0,.int .i32 0]),2,8):=by kernel_rfl
theorem Tryz.infoShort:(prog.info? 248).map (fun i=>(i.zero,i.size,i.bytes))=some (some (.int .i32 0),1,4):=by kernel_rfl
theorem Tryz.isChar (w:World):(Instr.typeAssert (.iface 247 v) 99 247 true).run prog w = .ok (.tuple #[v,.bool true]) w:=by kernel_rfl
theorem Tryz.notChar (w:World):(Instr.typeAssert (.iface 248 v) 99 247 true).run prog w = .ok (.tuple #[.int .i32 0,.bool false]) w:=by kernel_rfl
theorem Tryz.isMany (w:World):(Instr.typeAssert (.iface 248 v) 99 248 true).run prog w = .ok (.tuple #[v,.bool true]) w:=by kernel_rfl
theorem Trk.join {w0 w w':World}{b:Nat}{L:List (Int×Int)}{n m:Nat}{len dp:Int}{a:Nat->Addr}(t:Trk cb w0 b L n len dp a w)(T:Trk w.heap.size w b L m len dp a w'):Trk cb w0 b L m len dp a w':=t.mine (Own.to T.on) T.rd
theorem yB.step {w w':World}{b:Nat}{L:List (Int×Int)}{m:Nat}{len dp:Int}{a:Nat->Addr}{neg:Bool}{R:List (Int×Int)}{S:List Int}{v1 v2:Value}(h:yB w cb neg R S v1 v2)(hbc:b<cb)(T:Trk w.heap.size w b L m len dp a w'):yB w' cb neg R S v1 v2:=
 h.keep (Own.to T.on) (fun g hg e=>by unfold zt at e;omega)
theorem Trk.push {w0 w w':World}{b:Nat}{L:List (Int×Int)}{n:Nat}{len dp:Int}{a:Nat->Addr}(t:Trk cb w0 b L n len dp a w)(k:ze (fun g=>cb<=g) w w'):Trk cb w0 b L n len dp a w':=
 have hb:=t.hb;have hl:=t.lt
 ⟨t.rd.keep k (by show ¬cb<=b;omega) (fun g hg=>by show ¬cb<=g;omega),t.se.keep k (fun j hj=>by show ¬cb<=j;omega),t.on.trans (k.mono (fun _ _ h=>.inr h)),hb,hl,t.le⟩
theorem yB.push1 {v':Value}{x y:Int}(h:yB w cb neg R S v1 v2)(hW:Q8 w W)(_hoW:W.ownsRow (cb+1) 373 2 v1 R.length (rangeCells R))(hg:W.grownBy w' v1.ownBlock)
  (ho:w'.ownsRow (cb+1) 373 2 v' (R.length+1) (rangeCells R++[.int .i32 x,.int .i32 y])):yB (w'.setCell ⟨cb,1,none⟩ v') cb neg (R++[(x,y)]) S v' v2/\ze (fun g=>cb<=g) w (w'.setCell ⟨cb,1,none⟩ v'):=by
 have hlt:=h.lt;have k:ze (fun g=>v1.ownBlock=some g) w w':=(hW.mono (fun _ _ f=>f.elim)).trans (ze.ofGrown hg);have hn:¬(v1.ownBlock=some cb):=fun e=>by have:=(zh h.o1 cb e).1;omega
 have c0:=(k.cell (p:=⟨cb,0,none⟩) hlt hn).trans h.k0;have c1:=(k.cell (p:=⟨cb,1,none⟩) hlt hn).trans h.k1;have c2:=(k.cell (p:=⟨cb,2,none⟩) hlt hn).trans h.k2;have f1:=(k.frozen (p:=⟨cb,1,none⟩) hlt hn).trans h.f1;have f2:=(k.frozen (p:=⟨cb,2,none⟩) hlt hn).trans h.f2;have hS:ze (fun g=>g=cb) w' (w'.setCell ⟨cb,1,none⟩ v'):=(ze.refl (fun g=>g=cb) w').setCell (p:=⟨cb,1,none⟩) (.inl rfl) v';have o2:w'.ownsRow (cb+1) 248 1 v2 S.length (qB S):=zn h.o2 k (fun g hg1 hg2=>own_ne h.o2 h.o1 (by decide) g hg1 hg2);refine ⟨⟨(zF _ _ _ _ (by simp)).trans c0,yY _ _ _ c1,(zF _ _ _ _ (by simp)).trans c2,?_,?_,(zk _ _ _ _).trans f1,(zk _ _ _ _).trans f2⟩,?_⟩
 ·rw [kG,yS];exact zn ho hS (fun g hg1 e=>by have:=(zh ho g hg1).1;omega)
 ·exact zn o2 hS (fun g hg1 e=>by have:=(zh o2 g hg1).1;omega)
 ·exact (k.mono (fun g _ e=>by have:=(zh h.o1 g e).1;show cb<=g;omega)).trans (hS.mono (fun g _ e=>by show cb<=g;omega))
theorem yB.push2 {v':Value}{x:Int}(h:yB w cb neg R S v1 v2)(hW:Q8 w W)(_hoW:W.ownsRow (cb+1) 248 1 v2 S.length (qB S))(hg:W.grownBy w' v2.ownBlock)
  (ho:w'.ownsRow (cb+1) 248 1 v' (S.length+1) (qB S++[.int .i32 x])):yB (w'.setCell ⟨cb,2,none⟩ v') cb neg R (S++[x]) v1 v'/\ze (fun g=>cb<=g) w (w'.setCell ⟨cb,2,none⟩ v'):=by
 have hlt:=h.lt;have k:ze (fun g=>v2.ownBlock=some g) w w':=(hW.mono (fun _ _ f=>f.elim)).trans (ze.ofGrown hg);have hn:¬(v2.ownBlock=some cb):=fun e=>by have:=(zh h.o2 cb e).1;omega
 have c0:=(k.cell (p:=⟨cb,0,none⟩) hlt hn).trans h.k0;have c1:=(k.cell (p:=⟨cb,1,none⟩) hlt hn).trans h.k1;have c2:=(k.cell (p:=⟨cb,2,none⟩) hlt hn).trans h.k2;have f1:=(k.frozen (p:=⟨cb,1,none⟩) hlt hn).trans h.f1;have f2:=(k.frozen (p:=⟨cb,2,none⟩) hlt hn).trans h.f2;have hS:ze (fun g=>g=cb) w' (w'.setCell ⟨cb,2,none⟩ v'):=(ze.refl (fun g=>g=cb) w').setCell (p:=⟨cb,2,none⟩) (.inl rfl) v';have o1:w'.ownsRow (cb+1) 373 2 v1 R.length (rangeCells R):=zn h.o1 k (fun g hg1 hg2=>own_ne h.o1 h.o2 (by decide) g hg1 hg2);refine ⟨⟨(zF _ _ _ _ (by simp)).trans c0,(zF _ _ _ _ (by simp)).trans c1,yY _ _ _ c2,?_,?_,(zk _ _ _ _).trans f1,(zk _ _ _ _).trans f2⟩,?_⟩
 ·exact zn o1 hS (fun g hg1 e=>by have:=(zh o1 g hg1).1;omega)
 ·unfold qB at ho ⊢;rw [X7,yS];exact zn ho hS (fun g hg1 e=>by have:=(zh ho g hg1).1;omega)
 ·exact (k.mono (fun g _ e=>by have:=(zh h.o2 g e).1;show cb<=g;omega)).trans (hS.mono (fun g _ e=>by show cb<=g;omega))
theorem yB.cells {o:Option Nat}(h:yB w cb neg R S v1 v2)(hW:Q8 w W)(hg:W.grownBy w' o)(hn:¬(o=some cb)):w'.cell? ⟨cb,1,none⟩=some v1/\w'.cell? ⟨cb,2,none⟩=some v2/\w'.frozen? ⟨cb,1,none⟩=false/\w'.frozen? ⟨cb,2,none⟩=false:=by
 have hlt:=h.lt;have k:ze (fun g=>o=some g) w w':=(hW.mono (fun _ _ f=>f.elim)).trans (ze.ofGrown hg);exact ⟨(k.cell (p:=⟨cb,1,none⟩) hlt hn).trans h.k1,(k.cell (p:=⟨cb,2,none⟩) hlt hn).trans h.k2,(k.frozen (p:=⟨cb,1,none⟩) hlt hn).trans h.f1,(k.frozen (p:=⟨cb,2,none⟩) hlt hn).trans h.f2⟩
theorem yB.n1 (h:yB w cb neg R S v1 v2):¬(v1.ownBlock=some cb):=fun e=>by have:=(zh h.o1 cb e).1;omega
theorem yB.n2 (h:yB w cb neg R S v1 v2):¬(v2.ownBlock=some cb):=fun e=>by have:=(zh h.o2 cb e).1;omega
def Adds (b:Nat)(L:List (Int×Int))(len dp:Int)(a:Nat->Addr)(cb:Nat)(w0:World)(o:Pro.Out)(neg:Bool)(R:List (Int×Int))(S:List Int)(x:Ending)(w':World):Prop:=
 Trk cb w0 b L o.n len dp a w'/\((o.k=0/\x = .returned .nilIface/\∃ v1 v2,yB w' cb neg R S v1 v2)\/(o.k≠0/\∃ v,x = .returned v/\zI w' w0.heap.size v (zN a o.k) o.p))
namespace Pro
variable {L n}
theorem Jp (h:xJ L n=true):zf L n=45/\zf L (n+1)≠93/\zf L (n+1)≠-1:=by
 unfold xJ at h;simpa [and_assoc] using h
theorem VF (h:zf L n≠-1):n<L.length:=by
 by_cases hn:n<L.length
 ·exact hn
 ·exact absurd (zO (by omega)) h
end Pro
theorem Kt (cb:Nat)(w0 w:World)(neg:Bool)(R:List (Int×Int))(S:List Int)(v1 v2:Value)(m:Bool)(c:Int)(t:Trk cb w0 b L n len dp a w)(hC:yB w cb neg R S v1 v2)(hL:L.length<=400)(hd:Pro.xJ L n=true)(hF:Pro.Fit L)(hR:R.length<=400) :
  Calls prog 278 #[.pointer (some ⟨b,0,none⟩),.pointer (some ⟨cb,0,none⟩),oneV m c] w (Adds b L len dp a cb w0 (Pro.xj L len m c n) neg (R++[(c,(Pro.zi L len (n+1)).v)]) S):=by
 obtain ⟨i0,hi,hz0,hz1,hz2⟩:=info_parts Tryz.infoRange;have hdd:=Pro.Jp hd;have hn1:n+1<L.length:=Pro.VF hdd.2.2;clear hd hdd;have T0:=zc t;have T:=zc (Trk.start t.rd t.se t.hb);have hsz:=t.on.size;have hbc:=t.lt;have c1:=t.c1;have f1:=t.f1;have HC:=zc hC;have hs4:=t.se.s4;have hgen:∀ X:Value,X=oneV m c->Calls prog 278 #[.pointer (some ⟨b,0,none⟩),.pointer (some ⟨cb,0,none⟩),X] w (Adds b L len dp a cb w0 (Pro.xj L len m c n) neg (R++[(c,(Pro.zi L len (n+1)).v)]) S):=by
  intro X hX;by_cases hk:(Pro.zi L len (n+1)).k=0
  ·by_cases hbad:m=true\/Pro.many L (n+1)=true\/(Pro.zi L len (n+1)).v<c
   ·have HO:Hid (Pro.xj L len m c n=Pro.bad 4 (Pro.zC L len n) (Pro.zi L len (n+1)).n):=(by unfold Pro.xj;rw [if_neg (by simp [hk]),if_pos hbad];rfl);clear t hC;have hcs:(X = .iface 248 (.int .i32 c))\/(X = .iface 247 (.int .i32 c)/\oneV (Pro.many L (n+1)) (Pro.zi L len (n+1)).v = .iface 248 (.int .i32 (Pro.zi L len (n+1)).v))\/
      (X = .iface 247 (.int .i32 c)/\oneV (Pro.many L (n+1)) (Pro.zi L len (n+1)).v = .iface 247 (.int .i32 (Pro.zi L len (n+1)).v)/\(Pro.zi L len (n+1)).v<c):=by
     cases m with
     |true=>left;exact hX
     |false=>
      right;cases hmm:Pro.many L (n+1) with
      |true=>left;exact ⟨hX,rfl⟩
      |false=>right;exact ⟨hX,rfl,by rw [hmm] at hbad;simpa using hbad⟩
    clear hbad hX;have a1:=Tryz.isChar;have a2:=Tryz.notChar;rcases hcs with rfl |⟨rfl,hv2⟩ |⟨rfl,hv2,hlt⟩
    ·cases hmm:Pro.many L (n+1)
     ·have hv2:oneV false (Pro.zi L len (n+1)).v = .iface 247 (.int .i32 (Pro.zi L len (n+1)).v):=rfl;go_enter func278,ntmps278;go_wp2_with (first |(go_at_call 114;refine (yE (n:=n) (by exact zb T) hL (by omega)).mono ?_;rintro e wq ⟨rfl,qq,rfl⟩) |(go_at_call 276;refine (qA (n:=n+1) (by exact ((zb T).drewN _).setN _ _ (by omega)) (xD b L (n+1) len dp a _ (Trk.rd (n:=n+1) (by exact ((zb T).drewN _).setN _ _ (by omega))) (Trk.se (n:=n+1) (by exact ((zb T).drewN _).setN _ _ (by omega))) (zb T).hb hL (by omega) hF)).mono ?_;rintro e wq ⟨tq,hT⟩;obtain rfl:=zX hT hk;clear hT;have T:=zc tq;have c1:=tq.c1;have f1:=tq.f1);(have hs4:=(zb T).se.s4) |(go_at_call 45;refine (Xl (n:=(Pro.zi L len (n+1)).n) _ 4 _ _ rfl (by exact zb T)).mono ?_;rintro e wq ⟨v,rfl,hv,tq⟩;have T:=zc tq;have c1:=tq.c1;have f1:=tq.f1));go_ret;rw [zb HO];exact ⟨(zb T0).join (zb T),.inr ⟨(show (4:Nat)≠0 by decide),_,rfl,hv.base hsz⟩⟩
     ·have hv2:oneV true (Pro.zi L len (n+1)).v = .iface 248 (.int .i32 (Pro.zi L len (n+1)).v):=rfl;go_enter func278,ntmps278;go_wp2_with (first |(go_at_call 114;refine (yE (n:=n) (by exact zb T) hL (by omega)).mono ?_;rintro e wq ⟨rfl,qq,rfl⟩) |(go_at_call 276;refine (qA (n:=n+1) (by exact ((zb T).drewN _).setN _ _ (by omega)) (xD b L (n+1) len dp a _ (Trk.rd (n:=n+1) (by exact ((zb T).drewN _).setN _ _ (by omega))) (Trk.se (n:=n+1) (by exact ((zb T).drewN _).setN _ _ (by omega))) (zb T).hb hL (by omega) hF)).mono ?_;rintro e wq ⟨tq,hT⟩;obtain rfl:=zX hT hk;clear hT;have T:=zc tq;have c1:=tq.c1;have f1:=tq.f1);(have hs4:=(zb T).se.s4) |(go_at_call 45;refine (Xl (n:=(Pro.zi L len (n+1)).n) _ 4 _ _ rfl (by exact zb T)).mono ?_;rintro e wq ⟨v,rfl,hv,tq⟩;have T:=zc tq;have c1:=tq.c1;have f1:=tq.f1));go_ret;rw [zb HO];exact ⟨(zb T0).join (zb T),.inr ⟨(show (4:Nat)≠0 by decide),_,rfl,hv.base hsz⟩⟩
    all_goals
     go_enter func278,ntmps278;go_wp2_with (first |(go_at_call 114;refine (yE (n:=n) (by exact zb T) hL (by omega)).mono ?_;rintro e wq ⟨rfl,qq,rfl⟩) |(go_at_call 276;refine (qA (n:=n+1) (by exact ((zb T).drewN _).setN _ _ (by omega)) (xD b L (n+1) len dp a _ (Trk.rd (n:=n+1) (by exact ((zb T).drewN _).setN _ _ (by omega))) (Trk.se (n:=n+1) (by exact ((zb T).drewN _).setN _ _ (by omega))) (zb T).hb hL (by omega) hF)).mono ?_;rintro e wq ⟨tq,hT⟩;obtain rfl:=zX hT hk;clear hT;have T:=zc tq;have c1:=tq.c1;have f1:=tq.f1);(have hs4:=(zb T).se.s4) |(go_at_call 45;refine (Xl (n:=(Pro.zi L len (n+1)).n) _ 4 _ _ rfl (by exact zb T)).mono ?_;rintro e wq ⟨v,rfl,hv,tq⟩;have T:=zc tq;have c1:=tq.c1;have f1:=tq.f1));go_ret;rw [zb HO];exact ⟨(zb T0).join (zb T),.inr ⟨(show (4:Nat)≠0 by decide),_,rfl,hv.base hsz⟩⟩
   ·have HO:Hid (Pro.xj L len m c n=Pro.zi L len (n+1)):=(by unfold Pro.xj;rw [if_neg (by simp [hk]),if_neg hbad];rfl);have hm0:m=false:=(by cases m with |true=>exact absurd (.inl rfl) hbad |false=>rfl);have hmm:Pro.many L (n+1)=false:=(by cases hh:Pro.many L (n+1) with |true=>exact absurd (.inr (.inl hh)) hbad |false=>rfl);have hge:c<=(Pro.zi L len (n+1)).v:=(by by_cases hh:(Pro.zi L len (n+1)).v<c;exact absurd (.inr (.inr hh)) hbad;omega);subst hm0;have hX':X = .iface 247 (.int .i32 c):=hX;clear hX;subst hX';have hv2:oneV false (Pro.zi L len (n+1)).v = .iface 247 (.int .i32 (Pro.zi L len (n+1)).v):=rfl;have a1:=Tryz.isChar;clear hbad t hC;go_enter func278,ntmps278;go_wp2_with (first |(go_at_call 114;refine (yE (n:=n) (by exact zb T) hL (by omega)).mono ?_;rintro e wq ⟨rfl,qq,rfl⟩) |(go_at_call 276;refine (qA (n:=n+1) (by exact ((zb T).drewN _).setN _ _ (by omega)) (xD b L (n+1) len dp a _ (Trk.rd (n:=n+1) (by exact ((zb T).drewN _).setN _ _ (by omega))) (Trk.se (n:=n+1) (by exact ((zb T).drewN _).setN _ _ (by omega))) (zb T).hb hL (by omega) hF)).mono ?_;rintro e wq ⟨tq,hT⟩;obtain rfl:=zX hT hk;clear hT;have T:=zc tq;have c1:=tq.c1;have f1:=tq.f1);(have hC1:=(zb HC).step hbc (zb T));(have k1:=hC1.k1);(have q1:=hC1.f1);(have ho1:=hC1.o1);(obtain ⟨sa,sn,sc,rfl⟩:=zy ho1);(have hlc:=hC1.lt);(have HC1:=zc hC1);(clear hC1);(have Ho1:=zc ho1);(clear ho1) |(at_builtin;refine wpList_append_own _ rfl _ _ 249 rfl (cb+1) 373 i0 (.agg #[.int .i32 0,.int .i32 0]) 2 8 underlying249 hi hz0 hz1 hz2 rfl (by decide) _ _ _ rfl (xR (zb Ho1) _) _ 1 1 [.int .i32 c,.int .i32 (Pro.zi L len (n+1)).v] rfl rfl (cell_two_new _ _ _ _) (fun x hx=>by simp at hx;rcases hx with rfl |rfl<;>rfl) (by unfold maxLen;omega) (by omega) (by simp;omega) ?_;intro v' w8 hown' hgrow hnil;obtain ⟨pa,pn,pc,rfl⟩:=zy hown';have hcs8:=(zb HC1).cells ((ze.refl _ _).alloc _) hgrow (zb HC1).n1;have HP:=zc ((zb HC1).push1 ((ze.refl _ _).alloc _) (xR (zb Ho1) _) hgrow hown');clear hown' hgrow hnil;obtain ⟨z1,z2,z3,z4⟩:=hcs8));go_ret;rw [zb HO];exact ⟨((zb T0).join (zb T)).push (zb HP).2,.inl ⟨hk,rfl,_,_,(zb HP).1⟩⟩
  ·have HO:Hid (Pro.xj L len m c n=Pro.zi L len (n+1)):=(by unfold Pro.xj;rw [if_pos hk];rfl);clear t hC;go_enter func278,ntmps278;go_wp2_with (first |(go_at_call 114;refine (yE (n:=n) (by exact zb T) hL (by omega)).mono ?_;rintro e wq ⟨rfl,qq,rfl⟩) |(go_at_call 276;refine (qA (n:=n+1) (by exact ((zb T).drewN _).setN _ _ (by omega)) (xD b L (n+1) len dp a _ (Trk.rd (n:=n+1) (by exact ((zb T).drewN _).setN _ _ (by omega))) (Trk.se (n:=n+1) (by exact ((zb T).drewN _).setN _ _ (by omega))) (zb T).hb hL (by omega) hF)).mono ?_;rintro e wq ⟨tq,hT⟩;obtain ⟨v,rfl,hv⟩:=qz hT hk;obtain ⟨gv,hgv⟩:=hv.form;subst hgv;clear hT;have T:=zc tq;have c1:=tq.c1;have f1:=tq.f1);(have hs4:=(zb T).se.s4) |(go_at_call 45;refine (Xl (n:=(Pro.zi L len (n+1)).n) _ 4 _ _ rfl (by exact zb T)).mono ?_;rintro e wq ⟨v,rfl,hv,tq⟩;have T:=zc tq;have c1:=tq.c1;have f1:=tq.f1));go_ret;rw [zb HO];exact ⟨(zb T0).join (zb T),.inr ⟨hk,_,rfl,hv.base hsz⟩⟩
 exact hgen _ rfl
set_option maxHeartbeats 4000000
namespace Pro
def addR (L:List (Int×Int))(len:Int)(n:Nat)(R:List (Int×Int)):List (Int×Int):=
 if xJ L (zi L len n).n=true then R++[((zi L len n).v,(zi L len ((zi L len n).n+1)).v)]
 else if many L n=true then R else R++[((zi L len n).v,(zi L len n).v)]
def addS (L:List (Int×Int))(len:Int)(n:Nat)(S:List Int):List Int:=
 if xJ L (zi L len n).n=true then S else if many L n=true then S++[(zi L len n).v] else S
end Pro
theorem adds_ret {A B C:Prop}{D:Value->Prop}{x:Ending}(h:(A/\x = .returned .nilIface/\B)\/(C/\∃ v,x = .returned v/\D v)):∃ v,x = .returned v:=by
 rcases h with ⟨_,h,_⟩ |⟨_,v,h,_⟩
 ·exact ⟨_,h⟩
 ·exact ⟨v,h⟩
theorem Zm (cb:Nat)(w0 w:World)(neg:Bool)(R:List (Int×Int))(S:List Int)(v1 v2:Value)(t:Trk cb w0 b L n len dp a w)(hC:yB w cb neg R S v1 v2)(hL:L.length<=400)(hn:n<L.length)(hnm:(Pro.zi L len n).n<=450)(hF:Pro.Fit L)(hR:R.length<=400)(hS:S.length<=400) :
  Calls prog 252 #[.pointer (some ⟨b,0,none⟩),.pointer (some ⟨cb,0,none⟩)] w (Adds b L len dp a cb w0 (Pro.addO L len n) neg (Pro.addR L len n R) (Pro.addS L len n S)):=by
 obtain ⟨i0,hi,hz0,hz1,hz2⟩:=info_parts Tryz.infoRange;obtain ⟨j0,hj,hy0,hy1,hy2⟩:=info_parts Tryz.infoShort;have T0:=zc t;have T:=zc (Trk.start t.rd t.se t.hb);have hsz:=t.on.size;have hbc:=t.lt;have HC:=zc hC;by_cases hk:(Pro.zi L len n).k=0
 ·cases hd:Pro.xJ L (Pro.zi L len n).n
  ·have HO:Hid (Pro.addO L len n=Pro.zi L len n):=(by unfold Pro.addO;rw [if_neg (by simp [hk]),if_neg (by simp [hd])];rfl);have a1:=Tryz.isChar;have a2:=Tryz.notChar;have a3:=Tryz.isMany;clear t hC;cases hm:Pro.many L n
   ·have HR:Hid (Pro.addR L len n R=R++[((Pro.zi L len n).v,(Pro.zi L len n).v)]):=(by unfold Pro.addR;rw [hd,hm];rfl);have HSS:Hid (Pro.addS L len n S=S):=(by unfold Pro.addS;rw [hd,hm];rfl);have hv2:oneV false (Pro.zi L len n).v = .iface 247 (.int .i32 (Pro.zi L len n).v):=rfl;go_enter func252,ntmps252;go_wp2_with (first |(go_at_call 276;refine (qA (n:=n) (by exact zb T) (xD b L n len dp a _ (Trk.rd (n:=n) (by exact zb T)) (Trk.se (n:=n) (by exact zb T)) (zb T).hb hL (by omega) hF)).mono ?_;rintro e wq ⟨tq,hT⟩;obtain rfl:=zX hT hk;clear hT;have T:=zc tq;have c1:=tq.c1;have f1:=tq.f1);(have hC1:=(zb HC).step hbc (zb T));(have k1:=hC1.k1);(have k2:=hC1.k2);(have q1:=hC1.f1);(have q2:=hC1.f2);(have ho1:=hC1.o1);(have ho2:=hC1.o2);(obtain ⟨sa,sn,sc,rfl⟩:=zy ho1);(obtain ⟨ua,un,uc,rfl⟩:=zy ho2);(have hlc:=hC1.lt);(have HC1:=zc hC1);(clear hC1);(have Ho1:=zc ho1);(clear ho1);(have Ho2:=zc ho2);(clear ho2) |(go_at_call 277;refine Q7 (wE b L (Pro.zi L len n).n len dp a _ _ _ (by exact zb T) hL (by omega)) ?_) |(at_builtin;refine wpList_append_own _ rfl _ _ 249 rfl (cb+1) 373 i0 (.agg #[.int .i32 0,.int .i32 0]) 2 8 underlying249 hi hz0 hz1 hz2 rfl (by decide) _ _ _ rfl (xR (zb Ho1) _) _ 1 1 [.int .i32 (Pro.zi L len n).v,.int .i32 (Pro.zi L len n).v] rfl rfl (cell_two_new _ _ _ _) (fun x hx=>by simp at hx;rcases hx with rfl |rfl<;>rfl) (by unfold maxLen;omega) (by omega) (by simp;omega) ?_;intro v' w8 hown' hgrow hnil;obtain ⟨pa,pn,pc,rfl⟩:=zy hown';have hcs8:=(zb HC1).cells ((ze.refl _ _).alloc _) hgrow (zb HC1).n1;have HP:=zc ((zb HC1).push1 ((ze.refl _ _).alloc _) (xR (zb Ho1) _) hgrow hown');clear hown' hgrow hnil;obtain ⟨z1,z2,z3,z4⟩:=hcs8));go_ret;rw [zb HO,zb HR,zb HSS];exact ⟨((zb T0).join (zb T)).push (zb HP).2,.inl ⟨hk,rfl,_,_,(zb HP).1⟩⟩
   ·have HR:Hid (Pro.addR L len n R=R):=(by unfold Pro.addR;rw [hd,hm];rfl);have HSS:Hid (Pro.addS L len n S=S++[(Pro.zi L len n).v]):=(by unfold Pro.addS;rw [hd,hm];rfl);have hv2:oneV true (Pro.zi L len n).v = .iface 248 (.int .i32 (Pro.zi L len n).v):=rfl;go_enter func252,ntmps252;go_wp2_with (first |(go_at_call 276;refine (qA (n:=n) (by exact zb T) (xD b L n len dp a _ (Trk.rd (n:=n) (by exact zb T)) (Trk.se (n:=n) (by exact zb T)) (zb T).hb hL (by omega) hF)).mono ?_;rintro e wq ⟨tq,hT⟩;obtain rfl:=zX hT hk;clear hT;have T:=zc tq;have c1:=tq.c1;have f1:=tq.f1);(have hC1:=(zb HC).step hbc (zb T));(have k1:=hC1.k1);(have k2:=hC1.k2);(have q1:=hC1.f1);(have q2:=hC1.f2);(have ho1:=hC1.o1);(have ho2:=hC1.o2);(obtain ⟨sa,sn,sc,rfl⟩:=zy ho1);(obtain ⟨ua,un,uc,rfl⟩:=zy ho2);(have hlc:=hC1.lt);(have HC1:=zc hC1);(clear hC1);(have Ho1:=zc ho1);(clear ho1);(have Ho2:=zc ho2);(clear ho2) |(go_at_call 277;refine Q7 (wE b L (Pro.zi L len n).n len dp a _ _ _ (by exact zb T) hL (by omega)) ?_) |(at_builtin;refine wpList_append_own _ rfl _ _ 250 rfl (cb+1) 248 j0 (.int .i32 0) 1 4 underlying250 hj hy0 hy1 hy2 rfl (by decide) _ _ _ rfl (xR (zb Ho2) _) _ 1 1 [.int .i32 (Pro.zi L len n).v] rfl rfl (cell_one_new _ _ _) (fun x hx=>by simp at hx;subst hx;rfl) (by unfold maxLen;omega) (by omega) (by simp;omega) ?_;intro v' w8 hown' hgrow hnil;obtain ⟨pa,pn,pc,rfl⟩:=zy hown';have hcs8:=(zb HC1).cells ((ze.refl _ _).alloc _) hgrow (zb HC1).n2;have HP:=zc ((zb HC1).push2 ((ze.refl _ _).alloc _) (xR (zb Ho2) _) hgrow hown');clear hown' hgrow hnil;obtain ⟨z1,z2,z3,z4⟩:=hcs8));go_ret;rw [zb HO,zb HR,zb HSS];exact ⟨((zb T0).join (zb T)).push (zb HP).2,.inl ⟨hk,rfl,_,_,(zb HP).1⟩⟩
  ·have HO:Hid (Pro.addO L len n=Pro.xj L len (Pro.many L n) (Pro.zi L len n).v (Pro.zi L len n).n):=(by unfold Pro.addO;rw [if_neg (by simp [hk]),if_pos hd];rfl);have HR:Hid (Pro.addR L len n R=R++[((Pro.zi L len n).v,(Pro.zi L len ((Pro.zi L len n).n+1)).v)]):=(by unfold Pro.addR;rw [hd];rfl);have HSS:Hid (Pro.addS L len n S=S):=(by unfold Pro.addS;rw [hd];rfl);clear t hC;go_enter func252,ntmps252;go_wp2_with (first |(go_at_call 276;refine (qA (n:=n) (by exact zb T) (xD b L n len dp a _ (Trk.rd (n:=n) (by exact zb T)) (Trk.se (n:=n) (by exact zb T)) (zb T).hb hL (by omega) hF)).mono ?_;rintro e wq ⟨tq,hT⟩;obtain rfl:=zX hT hk;clear hT;have T:=zc tq;have c1:=tq.c1;have f1:=tq.f1) |(go_at_call 277;refine Q7 (wE b L (Pro.zi L len n).n len dp a _ _ _ (by exact zb T) hL (by omega)) ?_) |(go_at_call 278;refine (Kt b L (Pro.zi L len n).n len dp a cb w0 _ neg R S _ _ (Pro.many L n) (Pro.zi L len n).v ((zb T0).join (zb T)) ((zb HC).step hbc (zb T)) hL hd hF hR).mono ?_;intro e w9 HA;have HAA:=zc HA;obtain ⟨_,hA⟩:=HA;obtain ⟨xv,rfl⟩:=adds_ret hA;clear hA));go_ret;rw [zb HO,zb HR,zb HSS];exact zb HAA
 ·have HO:Hid (Pro.addO L len n=Pro.zi L len n):=by unfold Pro.addO;rw [if_pos hk];rfl
  clear t hC;go_enter func252,ntmps252;go_wp2_with (go_at_call 276;refine (qA (n:=n) (by exact zb T) (xD b L n len dp a _ (Trk.rd (n:=n) (by exact zb T)) (Trk.se (n:=n) (by exact zb T)) (zb T).hb hL (by omega) hF)).mono ?_;rintro e wq ⟨tq,hT⟩;obtain ⟨v,rfl,hv⟩:=qz hT hk;obtain ⟨gv,hgv⟩:=hv.form;subst hgv;clear hT;have T:=zc tq;have c1:=tq.c1;have f1:=tq.f1);go_ret;rw [zb HO];exact ⟨(zb T0).join (zb T),.inr ⟨hk,_,rfl,hv.base hsz⟩⟩
namespace Pro
section
variable {L:List (Int×Int)} {len:Int}
theorem zeroO_in (n:Nat)(h:n<=L.length):n<=(xY L len n).n/\(xY L len n).n<=L.length:=by rw [zeroO_n];omega
theorem VG (n:Nat)(h:n<=L.length):n<=(ym L len n).n/\(ym L len n).n<=L.length:=by
 unfold ym;split
 ·rename_i hl;have:n<L.length:=zq (by unfold letter at hl;omega);simp only [good];omega
 ·simp only [bad];omega
theorem Qx:∀ (f:Nat) (c:Int) (d n:Nat),n<=L.length->n<=(yw L len f c d n).n/\(yw L len f c d n).n<=L.length
 |0,c,d,n,h=>by simp only [yw,good];omega
 |f+1,c,d,n,h=>by
  by_cases h1:0<d/\zf L n=125
  ·rw [Zk h1.1 h1.2];have:n<L.length:=zq (by omega);simp only [good];omega
  ·by_cases h2:hexV (zf L n)<0\/1114111<16*c+hexV (zf L n)
   ·rw [Xk h1 h2];simp only [bad];omega
   ·rw [Yg h1 h2];have:n<L.length:=Ye (by omega);have:=Qx f (16*c+hexV (zf L n)) (d+1) (n+1) (by omega);omega
theorem lowV_in (n:Nat)(h:0<=lowV L len n):n+6<=L.length:=by
 unfold lowV at h;split at h
 ·rename_i hh;have h1:n+1<L.length:=zq (by omega);have:=YU L len 4 0 (n+2) (by omega);have:=this.2.2 hh.2.2.1;omega
 ·omega
theorem VH (n:Nat)(h:n<=L.length):n<=(zY L len n).n/\(zY L len n).n<=L.length:=by
 have hx:=YU L len 4 0 n h;unfold zY;split
 ·omega
 ·split
  ·rename_i hl;have:=lowV_in _ hl;simp only [good];omega
  ·omega
theorem numO_in (n:Nat)(h:n<=L.length):n<=(numO L len n).n/\(numO L len n).n<=L.length:=by
 unfold numO;split
 ·rename_i hs;have:n<L.length:=by
   by_cases hlt:n<L.length
   ·exact hlt
   ·rw [zO (by omega)] at hs;exact absurd hs (by decide)
  simp only [good];omega
 split
 ·have:n<L.length:=zq (by omega);have:=zeroO_in (L:=L) (len:=len) (n+1) (by omega);omega
 split
 ·have:n<L.length:=zq (by omega);have:=VG (L:=L) (len:=len) (n+1) (by omega);omega
 split
 ·have:n<L.length:=zq (by omega);have:=YU L len 2 0 (n+1) (by omega);omega
 split
 ·have:n+1<L.length:=zq (by omega);have:=Qx (L:=L) (len:=len) (L.length+1-(n+2)) 0 0 (n+2) (by omega);unfold jC;omega
 split
 ·have:n<L.length:=zq (by omega);have:=VH (L:=L) (len:=len) (n+1) (by omega);omega
 ·simp only [bad];omega
theorem zaN (n:Nat)(h:n<L.length):n<(escO L len n).n/\(escO L len n).n<=L.length:=by
 unfold escO;split
 ·rename_i hs;have:n+1<L.length:=by
   by_cases hlt:n+1<L.length
   ·exact hlt
   ·rw [zO (by omega)] at hs;exact absurd hs (by decide)
  simp only [good];omega
 split
 ·simp only [bad];omega
 ·have:=numO_in (L:=L) (len:=len) (n+1) (by omega);omega
theorem vD (n:Nat)(h:n<L.length):n<(zi L len n).n/\(zi L len n).n<=L.length:=by
 unfold zi;split
 ·have:n+1<L.length:=zq (by omega);simp only [good];omega
 split
 ·have:n+1<L.length:=zq (by omega);simp only [good];omega
 split
 ·exact zaN n h
 ·simp only [good];omega
theorem Jq (m:Bool)(c:Int)(n:Nat)(h:xJ L n=true):n<(xj L len m c n).n/\(xj L len m c n).n<=L.length:=by
 have hd:=Jp h;have h1:n+1<L.length:=VF hd.2.2;have:=vD (L:=L) (len:=len) (n+1) h1;unfold xj;split
 ·omega
 ·split
  ·simp only [bad];omega
  ·omega
theorem XF (n:Nat)(h:n<L.length):n<(addO L len n).n/\(addO L len n).n<=L.length:=by
 have:=vD (L:=L) (len:=len) n h;unfold addO;split
 ·omega
 ·split
  ·rename_i hd;have:=Jq (len:=len) (many L n) (zi L len n).v _ hd;omega
  ·omega
theorem addR_len (n:Nat)(R:List (Int×Int)):(addR L len n R).length<=R.length+1:=by
 unfold addR;split
 ·simp
 ·split
  ·omega
  ·simp
theorem addS_len (n:Nat)(S:List Int):(addS L len n S).length<=S.length+1:=by
 unfold addS;split
 ·omega
 ·split
  ·simp
  ·omega
theorem YV:∀ (f n:Nat),n<=L.length->n<=(yG L len f n).n/\(yG L len f n).n<=L.length
 |0,n,h=>by simp only [yG,good];omega
 |f+1,n,h=>by
  simp only [yG];split
  ·have:n<L.length:=zq (by omega);simp only [good];omega
  split
  ·simp only [bad];omega
  ·have:=XF (L:=L) (len:=len) n (by omega);split
   ·omega
   ·have:=YV f (addO L len n).n (by omega);omega
end
end Pro
theorem wF {o:Pro.Out}{B:Prop}{D:Value->Prop}{x:Ending}(h:(o.k=0/\x = .returned .nilIface/\B)\/(o.k≠0/\∃ v,x = .returned v/\D v))(hk:o.k=0):x = .returned .nilIface/\B:=by
 rcases h with ⟨_,h⟩ |⟨h,_⟩
 ·exact h
 ·exact absurd hk h
theorem Ku {o:Pro.Out}{B:Prop}{D:Value->Prop}{x:Ending}(h:(o.k=0/\x = .returned .nilIface/\B)\/(o.k≠0/\∃ v,x = .returned v/\D v))(hk:o.k≠0):∃ v,x = .returned v/\D v:=by
 rcases h with ⟨h,_⟩ |⟨_,h⟩
 ·exact absurd h hk
 ·exact h
theorem Own.back {b cb:Nat}{w W w':World}(h1:ze (zt b) w W)(h2:ze (Own b cb) W w')(hc:w.heap.size<=cb):ze (zt b) w w':=
 ⟨h2.os.trans h1.os,h2.tape.trans h1.tape,h2.output.trans h1.output,yZ h1.size h2.size,fun k hk hn=>(h2.block k (yh hk h1.size) (fun e=>by
  rcases e with e |e
  ·exact hn e
  ·omega)).trans (h1.block k hk hn)⟩
namespace Pro
variable {L}
theorem countL_go {f n:Nat}{c:Int}(h:dig (zf L n)=true):countL L (f+1) c n=countL L f (min (c*10+(zf L n-48)) 101) (n+1):=by simp only [countL];rw [if_pos h]
theorem countL_stop {f n:Nat}{c:Int}(h:dig (zf L n)=false):countL L (f+1) c n=(c,n):=by simp only [countL];rw [if_neg (by simp [h])]
theorem WY {n:Nat}(h:dig (zf L n)=true):n<L.length:=zq (by unfold dig at h;simp at h;omega)
theorem Js (L:List (Int×Int)):∀ (f:Nat) (c:Int) (n:Nat),n<=L.length->0<=c->c<=101->n<=(countL L f c n).2/\(countL L f c n).2<=L.length/\0<=(countL L f c n).1/\(countL L f c n).1<=101
 |0,c,n,h,h0,h1=>by simp only [countL];omega
 |f+1,c,n,h,h0,h1=>by
  cases hd:dig (zf L n)
  ·rw [countL_stop hd];simp only [];omega
  ·rw [countL_go hd];have:=WY hd;have hb:48<=zf L n:=(by unfold dig at hd;simp at hd;omega);have:=Js L f (min (c*10+(zf L n-48)) 101) (n+1) (by omega) (by omega) (by omega);omega
theorem qV {len:Int}(n:Nat)(h:n<=L.length):n<=(zj L len n).n/\(zj L len n).n<=L.length/\0<=(zj L len n).v/\(zj L len n).v<=100:=by
 have:=Js L (L.length+1-n) 0 n h (by omega) (by omega);unfold zj countP;split
 ·simp only [bad];omega
 ·split
  ·simp only [bad];omega
  ·simp only [good];omega
end Pro
theorem WZ (w:World)(h:zR w b L n len dp)(hS:zW w a)(hb:11<=b)(hL:L.length<=400)(hn:n<=L.length)(_hF:Pro.Fit L) :
  Calls prog 255 #[.pointer (some ⟨b,0,none⟩)] w (Tells b L len dp a w (Pro.zj L len n) (.int .i64 (Pro.zj L len n).v) (.int .i64 0)):=by
 have T:=zc (Trk.start h hS hb);clear h hS;cases hd:Pro.dig (Pro.zf L n)
 ·have HO:Hid (Pro.zj L len n=Pro.bad 3 (Pro.zC L len n) n):=by unfold Pro.zj;rw [if_pos hd];rfl
  have hd':(decide (48<=Pro.zf L n) && decide (Pro.zf L n<=57))=false:=hd;go_enter func255,ntmps255;go_wp2_with (first |(go_at_call 114;refine (yE (n:=n) (by exact zb T) hL (by omega)).mono ?_;rintro e wq ⟨rfl,qq,rfl⟩) |(go_at_call 157;refine Q7 (yH (n:=n) (by exact (zb T).drewN _) hL (by omega)) ?_) |(go_at_call 286;refine Q7 (y5 _ _) ?_);(rw [hd']) |(go_at_call 64;refine (Yi (n:=n) (by exact (zb T).drewN _) hL (by omega)).mono ?_;rintro e wq ⟨v,rfl,hv,tq⟩;have T:=zc tq;have c1:=tq.c1;have f1:=tq.f1));go_ret2;exact (zb T).bad (zb HO) (by decide) hv
 ·have hd':(decide (48<=Pro.zf L n) && decide (Pro.zf L n<=57))=true:=hd;go_enter func255,ntmps255;go_wp2_with (first |(go_at_call 114;refine (yE (n:=n) (by exact zb T) hL (by omega)).mono ?_;rintro e wq ⟨rfl,qq,rfl⟩) |(go_at_call 157;refine Q7 (yH (n:=n) (by exact (zb T).drewN _) hL (by omega)) ?_) |(go_at_call 286;refine Q7 (y5 _ _) ?_);(rw [hd']));have T1:=zc ((zb T).drewN qq);generalize w.drewN qq=w1 at *;go_loopw [5] (fun c wr=>∃ (q:Int) (m:Nat),c = .int .i64 q/\0<=q/\q<=101/\m<=L.length/\Hid (Trk w.heap.size w b L m len dp a wr)/\Hid (Pro.countP L n=Pro.countL L (L.length+1-m) q m)) (fun _ wr=>L.length-rdN wr b)
  case atStart=>exact ⟨0,n,rfl,by omega,by omega,hn,T1,rfl⟩
  case round=>
   obtain ⟨q,m,rfl,hq0,hq1,hm,T,HF⟩:=hrel;have hrd:=(zb T).rdN;have hfu:Hid (L.length+1-m=(L.length-m)+1):=(by show _=_;omega);cases he:Pro.dig (Pro.zf L m)
   ·have he':(decide (48<=Pro.zf L m) && decide (Pro.zf L m<=57))=false:=he;have HG:Hid (Pro.countP L n=(q,m)):=(by rw [zb HF,zb hfu];exact Pro.countL_stop he);by_cases hbig:100<q
    ·have HO:Hid (Pro.zj L len n=Pro.bad 5 (Pro.zC L len n) m):=(by unfold Pro.zj;rw [if_neg (by simp [hd]),zb HG,if_pos hbig];rfl);have hs5:=(zb T).se.s5;go_wp2_with (first |(go_at_call 157;refine Q7 (yH (n:=m) (by exact zb T) hL (by omega)) ?_) |(go_at_call 286;refine Q7 (y5 _ _) ?_);(rw [he']) |(go_at_call 45;refine (Xl (n:=m) _ 5 _ _ rfl (by exact zb T)).mono ?_;rintro e wq ⟨v,rfl,hv,tq⟩;have T:=zc tq;have c1:=tq.c1;have f1:=tq.f1));go_ret2;exact (zb T).bad (zb HO) (by decide) hv
    ·have HO:Hid (Pro.zj L len n=Pro.good q m):=(by unfold Pro.zj;rw [if_neg (by simp [hd]),zb HG,if_neg hbig];rfl);go_wp2_with (first |(go_at_call 157;refine Q7 (yH (n:=m) (by exact zb T) hL (by omega)) ?_) |(go_at_call 286;refine Q7 (y5 _ _) ?_);(rw [he']));go_ret2;exact (zb T).good (zb HO) (by rw [zb HO];rfl)
   ·have he':(decide (48<=Pro.zf L m) && decide (Pro.zf L m<=57))=true:=he;have hml:=Pro.WY he;have HG:Hid (Pro.countP L n=Pro.countL L (L.length+1-(m+1)) (min (q*10+(Pro.zf L m-48)) 101) (m+1)):=(by rw [zb HF,show L.length+1-m=(L.length+1-(m+1))+1 by omega];exact Pro.countL_go he);have hlo:48<=Pro.zf L m/\Pro.zf L m<=57:=(by simpa using he');have c1:=(zb T).c1;have f1:=(zb T).f1;go_wp2_with (first |(go_at_call 157;refine Q7 (yH (n:=m) (by exact zb T) hL (by omega)) ?_) |(go_at_call 286;refine Q7 (y5 _ _) ?_);(rw [he']));have T2:=(zb T).setN (m+1) ((m:Int)+1) (by omega);refine ⟨⟨min (q*10+(Pro.zf L m-48)) 101,m+1,?_,by omega,by omega,by omega,zc T2,HG⟩,by rw [T2.rdN,hrd];omega⟩;rw [show (if 101<q*10+(Pro.zf L m-48) then (101:Int) else q*10+(Pro.zf L m-48))=min (q*10+(Pro.zf L m-48)) 101 by split<;>omega]
structure vh (w:World)(rb:Nat)(p:Value)(l m:Int):Prop where
 k0:w.cell? ⟨rb,0,none⟩=some p
 k1:w.cell? ⟨rb,1,none⟩=some (.int .i64 l)
 k2:w.cell? ⟨rb,2,none⟩=some (.int .i64 m)
 f1:w.frozen? ⟨rb,1,none⟩=false
 f2:w.frozen? ⟨rb,2,none⟩=false
theorem vh.lt (h:vh w rb p l m):rb<w.heap.size:=zE w ⟨rb,0,none⟩ h.k0
theorem vh.keep {P:Nat->Prop}{w w':World}{rb:Nat}{p:Value}{l m:Int}(h:vh w rb p l m)(k:ze P w w')(hn:¬P rb):vh w' rb p l m:=
 ⟨(k.cell (p:=⟨rb,0,none⟩) h.lt hn).trans h.k0,(k.cell (p:=⟨rb,1,none⟩) h.lt hn).trans h.k1,(k.cell (p:=⟨rb,2,none⟩) h.lt hn).trans h.k2,(k.frozen (p:=⟨rb,1,none⟩) h.lt hn).trans h.f1,(k.frozen (p:=⟨rb,2,none⟩) h.lt hn).trans h.f2⟩
theorem vh.set1 (h:vh w rb p l m)(x:Int):vh (w.setCell ⟨rb,1,none⟩ (.int .i64 x)) rb p x m:=
 ⟨(zF _ _ _ _ (by simp)).trans h.k0,yY _ _ _ h.k1,(zF _ _ _ _ (by simp)).trans h.k2,(zk _ _ _ _).trans h.f1,(zk _ _ _ _).trans h.f2⟩
theorem vh.set2 (h:vh w rb p l m)(x:Int):vh (w.setCell ⟨rb,2,none⟩ (.int .i64 x)) rb p l x:=
 ⟨(zF _ _ _ _ (by simp)).trans h.k0,(zF _ _ _ _ (by simp)).trans h.k1,yY _ _ _ h.k2,(zk _ _ _ _).trans h.f1,(zk _ _ _ _).trans h.f2⟩
structure Rp (rb:Nat)(w0:World)(b:Nat)(L:List (Int×Int))(n:Nat)(len dp:Int)(a:Nat->Addr)(p:Value)(l m:Int)(w:World):Prop where
 t:Trk rb w0 b L n len dp a w
 r:vh w rb p l m
section
variable {rb:Nat} {w0:World} {b:Nat} {L:List (Int×Int)} {n:Nat} {len dp:Int} {a:Nat->Addr} {p:Value} {l m:Int} {w w':World}
theorem Rp.drewN (h:Rp rb w0 b L n len dp a p l m w)(q:Nat):Rp rb w0 b L n len dp a p l m (w.drewN q):=⟨h.t.drewN q,h.r.keep ((ze.refl (fun _=>False) w).drewN q) (fun f=>f)⟩
theorem Rp.mine {n':Nat}(h:Rp rb w0 b L n len dp a p l m w)(k:ze (zt b) w w')(hr:zR w' b L n' len dp):Rp rb w0 b L n' len dp a p l m w':=⟨h.t.mine k hr,h.r.keep k (fun e=>by have:=h.t.lt;unfold zt at e;omega)⟩
theorem Rp.calm (h:Rp rb w0 b L n len dp a p l m w)(k:Q8 w w'):Rp rb w0 b L n len dp a p l m w':=⟨h.t.calm k,h.r.keep k (fun f=>f)⟩
theorem Rp.setN (h:Rp rb w0 b L n len dp a p l m w)(i:Nat)(j:Int)(hj:j=(i:Int)):Rp rb w0 b L i len dp a p l m (w.setCell ⟨b,1,none⟩ (.int .i64 j)):=h.mine ((ze.refl _ _).mine _ _) (h.t.rd.setN i j hj)
theorem Rp.set1 (h:Rp rb w0 b L n len dp a p l m w)(x:Int):Rp rb w0 b L n len dp a p x m (w.setCell ⟨rb,1,none⟩ (.int .i64 x)):=⟨h.t.push ((ze.refl _ _).setCell (p:=⟨rb,1,none⟩) (.inl (z8 _)) _),h.r.set1 x⟩
theorem Rp.set2 (h:Rp rb w0 b L n len dp a p l m w)(x:Int):Rp rb w0 b L n len dp a p l x (w.setCell ⟨rb,2,none⟩ (.int .i64 x)):=⟨h.t.push ((ze.refl _ _).setCell (p:=⟨rb,2,none⟩) (.inl (z8 _)) _),h.r.set2 x⟩
theorem y9 (word:ByteArray)(h:Rp rb w0 b L n len dp a p l m w)(hL:L.length<=400)(hn:n<=1000)(hw:word.size<=10)(hm:Pro.zr L n word=false) :
  Calls prog 113 #[.pointer (some ⟨b,0,none⟩),.string word] w fun x w'=>x = .returned (.bool false)/\∃ q,w'=w.drewN q:=xC b L n len dp word w h.t.rd hL hn hw hm
theorem jN (word:ByteArray)(h:Rp rb w0 b L n len dp a p l m w)(hL:L.length<=400)(hn:n<=1000)(hw:word.size<=10)(hm:Pro.zr L n word=true) :
  Calls prog 113 #[.pointer (some ⟨b,0,none⟩),.string word] w fun x w'=>x = .returned (.bool true)/\Rp rb w0 b L (n+word.size) len dp a p l m w':=
 (yT b L n len dp word w h.t.rd hL hn hw hm).mono (by rintro e w1 ⟨rfl,h1,h2⟩;exact ⟨rfl,h.mine h2 h1⟩)
theorem zaO (h:Rp rb w0 b L n len dp a p l m w)(hL:L.length<=400)(hn:n<=L.length) :
  Calls prog 64 #[.pointer (some ⟨b,0,none⟩)] w fun x w'=>∃ v,x = .returned v/\zI w' w0.heap.size v (zN a 3) (Pro.zC L len n)/\Rp rb w0 b L n len dp a p l m w':=
 (jJ b L n len dp a w h.t.rd h.t.se hL hn).mono (by rintro e w1 ⟨v,rfl,hv,hO⟩;exact ⟨v,rfl,hv.base h.t.on.size,h.calm hO⟩)
theorem new_r (T:TypeId)(k:Nat)(q:Int)(x:Value)(hx : .iface T x=zN a k)(h:Rp rb w0 b L n len dp a p l m w) :
  Calls prog 45 #[.iface T x,.int .i64 q] w fun e w'=>∃ v,e = .returned v/\zI w' w0.heap.size v (zN a k) q/\Rp rb w0 b L n len dp a p l m w':=
 (wX T x q w).mono (by rintro e w1 ⟨v,rfl,hv,hO⟩;rw [hx] at hv;exact ⟨v,rfl,hv.base h.t.on.size,h.calm hO⟩)
theorem qM (h:Rp rb w0 b L n len dp a p l m w)(hL:L.length<=400)(hn:n<=L.length)(hF:Pro.Fit L) :
  Calls prog 255 #[.pointer (some ⟨b,0,none⟩)] w fun x w'=>Rp rb w0 b L (Pro.zj L len n).n len dp a p l m w'/\(((Pro.zj L len n).k=0/\x = .returned (.tuple #[.int .i64 (Pro.zj L len n).v,.nilIface]))\/((Pro.zj L len n).k≠0/\∃ v,x = .returned (.tuple #[.int .i64 0,v])/\zI w' w0.heap.size v (zN a (Pro.zj L len n).k) (Pro.zj L len n).p)):=
 (WZ b L n len dp a w h.t.rd h.t.se h.t.hb hL hn hF).mono (by
  rintro x w1 ⟨hO,hR,hT⟩;refine ⟨h.mine hO hR,?_⟩;rcases hT with hT |⟨hk,v,hx,hv⟩
  ·exact .inl hT
  ·exact .inr ⟨hk,v,hx,hv.base h.t.on.size⟩)
end
def Counts (rb:Nat)(w0:World)(b:Nat)(L:List (Int×Int))(len dp:Int)(a:Nat->Addr)(p:Value)(o:Pro.Out×Int)(x:Ending)(w':World):Prop:=
 Trk rb w0 b L o.1.n len dp a w'/\((o.1.k=0/\x = .returned .nilIface/\vh w' rb p o.1.v o.2)\/(o.1.k≠0/\∃ v,x = .returned v/\zI w' w0.heap.size v (zN a o.1.k) o.1.p))
variable (rb p l m)
theorem Xn (w:World)(h:Rp rb w0 b L n len dp a p l m w)(hL:L.length<=400)(hn:n<L.length)(hF:Pro.Fit L)(hrb:rb<w0.heap.size) :
  Calls prog 224 #[.pointer (some ⟨b,0,none⟩),.pointer (some ⟨rb,0,none⟩)] w (Counts rb w0 b L len dp a p (Pro.zJ L len n)):=by
 have X:=zc h;have c1:=h.t.c1;have f1:=h.t.f1;clear h;have hA:=Pro.qV (L:=L) (len:=len) (n+1) (by omega);have HO:Hid (Pro.zJ L len n=_):=(by show _=_;unfold Pro.zJ;rfl)
 have one:∀ k (c:UInt8) (j:Int),j=(c.toNat:Int)->(Pro.zr L k { data:=#[c] }=true↔Pro.zf L k=j):=fun k c j hj=>by rw [Pro.zp L k c j hj,decide_eq_true_eq]
 go_enter func224,ntmps224;go_wp2_with (first |(go_at_call 114;refine (yE (n:=n) (Rp.t (by exact zb X)) hL (by omega)).mono ?_;rintro e wq ⟨rfl,qq,rfl⟩) |(go_at_call 255;refine zb ?_));refine zc ?_;refine (qM (n:=n+1) (by exact ((zb X).drewN _).setN _ _ (by omega)) hL (by omega) hF).mono ?_;generalize Pro.zj L len (n+1)=C at *;rintro e wq ⟨xq,⟨hk,rfl⟩ |⟨hk,v,rfl,hv⟩⟩
 ·clear X;have X:=zc xq;have k0:=xq.r.k0;have c1:=xq.t.c1;have f1:=xq.t.f1;have k1:=xq.r.k1;have k2:=xq.r.k2;have q1:=xq.r.f1;have q2:=xq.r.f2;by_cases h1:Pro.zf L C.n=125
  ·have m1:=(one C.n 125 125 rfl).2 h1;have HP:Hid (Pro.zJ L len n=(Pro.good C.v (C.n+1),C.v)):=(by show _=_;rw [zb HO];simp [hk,h1]);clear h1 HO one;go_wp2_with (first |(go_at_call 113;refine (jN (n:=C.n) _ (by exact ((zb X).set1 _).set2 _) hL (by omega) (by decide) (by assumption)).mono ?_;rintro e wq ⟨rfl,xq⟩;have xq:Rp _ _ b L ((C.n)+1) len dp a _ _ _ wq:=xq;have X:=zc xq;have k0:=xq.r.k0;have c1:=xq.t.c1;have f1:=xq.t.f1;have k1:=xq.r.k1;have k2:=xq.r.k2;have q1:=xq.r.f1;have q2:=xq.r.f2));go_ret;rw [zb HP];exact ⟨Rp.t (n:=C.n+1) (by exact zb X),.inl ⟨rfl,rfl,Rp.r (n:=C.n+1) (by exact zb X)⟩⟩
  ·have m1:Pro.zr L C.n { data:=#[125] }=false:=(by rw [<-Qi,one _ 125 125 rfl];exact h1);by_cases h2:Pro.zf L C.n=44
   ·have m2:=(one C.n 44 44 rfl).2 h2;have hlt:C.n<L.length:=Pro.zq (by omega);go_wp2_with (first |(go_at_call 113;refine (y9 (n:=C.n) _ (by first |exact ((zb X).set1 _).set2 _ |exact (((zb X).set1 _).set2 _).drewN _) hL (by omega) (by decide) (by assumption)).mono ?_;rintro e wq ⟨rfl,qq,rfl⟩) |(go_at_call 113;refine (jN (n:=C.n) _ (by exact (((zb X).set1 _).set2 _).drewN _) hL (by omega) (by decide) (by assumption)).mono ?_;rintro e wq ⟨rfl,xq⟩;have xq:Rp _ _ b L ((C.n)+1) len dp a _ _ _ wq:=xq;have X:=zc xq;have k0:=xq.r.k0;have c1:=xq.t.c1;have f1:=xq.t.f1;have k1:=xq.r.k1;have k2:=xq.r.k2;have q1:=xq.r.f1;have q2:=xq.r.f2);refine zb ?_);refine zc ?_;by_cases h3:Pro.zf L (C.n+1)=125
    ·have m3:=(one (C.n+1) 125 125 rfl).2 h3;have HP:Hid (Pro.zJ L len n=(Pro.good C.v (C.n+2),-1)):=(by show _=_;rw [zb HO];simp [hk,h2,h3]);clear h1 h2 h3 HO one;go_wp2_with (first |(go_at_call 113;refine (jN (n:=C.n+1) _ (by exact zb X) hL (by omega) (by decide) (by assumption)).mono ?_;rintro e wq ⟨rfl,xq⟩;have xq:Rp _ _ b L ((C.n+1)+1) len dp a _ _ _ wq:=xq;have X:=zc xq;have k0:=xq.r.k0;have c1:=xq.t.c1;have f1:=xq.t.f1;have k1:=xq.r.k1;have k2:=xq.r.k2;have q1:=xq.r.f1;have q2:=xq.r.f2));go_ret;rw [zb HP];exact ⟨Rp.t (n:=C.n+2) (by exact (zb X).set2 _),.inl ⟨rfl,rfl,Rp.r (n:=C.n+2) (by exact (zb X).set2 _)⟩⟩
    ·have m3:Pro.zr L (C.n+1) { data:=#[125] }=false:=(by rw [<-Qi,one _ 125 125 rfl];exact h3);have hM:=Pro.qV (L:=L) (len:=len) (C.n+1) (by omega);go_wp2_with (first |(go_at_call 113;refine (y9 (n:=C.n+1) _ (by exact zb X) hL (by omega) (by decide) (by assumption)).mono ?_;rintro e wq ⟨rfl,qq,rfl⟩) |(go_at_call 255;refine zb ?_));refine zc ?_;refine (qM (n:=C.n+1) (by exact (zb X).drewN _) hL (by omega) hF).mono ?_;generalize Pro.zj L len (C.n+1)=D at *;rintro e wq ⟨xq,⟨hk2,rfl⟩ |⟨hk2,v,rfl,hv⟩⟩
     ·clear X;have X:=zc xq;have k0:=xq.r.k0;have c1:=xq.t.c1;have f1:=xq.t.f1;have k1:=xq.r.k1;have k2:=xq.r.k2;have q1:=xq.r.f1;have q2:=xq.r.f2;have hs4:=xq.t.se.s4;by_cases h4:Pro.zf L D.n=125
      ·have m4:=(one D.n 125 125 rfl).2 h4;by_cases h5:D.v<C.v
       ·have HP:Hid (Pro.zJ L len n=(Pro.bad 4 (Pro.zC L len n) (D.n+1),0)):=(by show _=_;rw [zb HO];simp [hk,h2,h3,hk2,h4,h5]);clear h1 h2 h3 h4 HO one;go_wp2_with (first |(go_at_call 113;refine (jN (n:=D.n) _ (by exact (zb X).set2 _) hL (by omega) (by decide) (by assumption)).mono ?_;rintro e wq ⟨rfl,xq⟩;have xq:Rp _ _ b L ((D.n)+1) len dp a _ _ _ wq:=xq;have X:=zc xq;have k0:=xq.r.k0;have c1:=xq.t.c1;have f1:=xq.t.f1;have k1:=xq.r.k1;have k2:=xq.r.k2;have q1:=xq.r.f1;have q2:=xq.r.f2);(have hs4:=(zb X).t.se.s4) |(go_at_call 45;refine (new_r (n:=D.n+1) _ 4 _ _ rfl (by exact zb X)).mono ?_;rintro e wq ⟨v,rfl,hv,xq⟩;have X:=zc xq;have k0:=xq.r.k0;have c1:=xq.t.c1;have f1:=xq.t.f1;have k1:=xq.r.k1;have k2:=xq.r.k2;have q1:=xq.r.f1;have q2:=xq.r.f2));go_ret;rw [zb HP];exact ⟨Rp.t (n:=D.n+1) (zb X),.inr ⟨(show (4:Nat)≠0 by decide),v,rfl,hv⟩⟩
       ·have HP:Hid (Pro.zJ L len n=(Pro.good C.v (D.n+1),D.v)):=(by show _=_;rw [zb HO];simp [hk,h2,h3,hk2,h4,h5]);clear h1 h2 h3 h4 HO one;go_wp2_with (first |(go_at_call 113;refine (jN (n:=D.n) _ (by exact (zb X).set2 _) hL (by omega) (by decide) (by assumption)).mono ?_;rintro e wq ⟨rfl,xq⟩;have xq:Rp _ _ b L ((D.n)+1) len dp a _ _ _ wq:=xq;have X:=zc xq;have k0:=xq.r.k0;have c1:=xq.t.c1;have f1:=xq.t.f1;have k1:=xq.r.k1;have k2:=xq.r.k2;have q1:=xq.r.f1;have q2:=xq.r.f2));go_ret;rw [zb HP];exact ⟨Rp.t (n:=D.n+1) (by exact zb X),.inl ⟨rfl,rfl,Rp.r (n:=D.n+1) (by exact zb X)⟩⟩
      ·have m4:Pro.zr L D.n { data:=#[125] }=false:=(by rw [<-Qi,one _ 125 125 rfl];exact h4);have HP:Hid (Pro.zJ L len n=(Pro.bad 3 (Pro.zC L len D.n) D.n,0)):=(by show _=_;rw [zb HO];simp [hk,h2,h3,hk2,h4]);clear h1 h2 h3 h4 HO one;go_wp2_with (first |(go_at_call 113;refine (y9 (n:=D.n) _ (by exact (zb X).set2 _) hL (by omega) (by decide) (by assumption)).mono ?_;rintro e wq ⟨rfl,qq,rfl⟩) |(go_at_call 64;refine (zaO (n:=D.n) (by exact ((zb X).set2 _).drewN _) hL (by omega)).mono ?_;rintro e wq ⟨v,rfl,hv,xq⟩;have X:=zc xq;have k0:=xq.r.k0;have c1:=xq.t.c1;have f1:=xq.t.f1;have k1:=xq.r.k1;have k2:=xq.r.k2;have q1:=xq.r.f1;have q2:=xq.r.f2));go_ret;rw [zb HP];exact ⟨Rp.t (n:=D.n) (zb X),.inr ⟨(show (3:Nat)≠0 by decide),v,rfl,hv⟩⟩
     ·have HP:Hid (Pro.zJ L len n=(D,0)):=(by show _=_;rw [zb HO];simp [hk,h2,h3,hk2]);obtain ⟨gv,hgv⟩:=hv.form;subst hgv;clear X;have X:=zc xq;have k0:=xq.r.k0;have c1:=xq.t.c1;have f1:=xq.t.f1;have k1:=xq.r.k1;have k2:=xq.r.k2;have q1:=xq.r.f1;have q2:=xq.r.f2;clear h1 h2 h3 HO one xq;go_wp2_with fail;go_ret;rw [zb HP];exact ⟨((zb X).set2 _).t,.inr ⟨hk2,_,rfl,hv.keep ((ze.refl (fun g=>g=rb) _).setCell (p:=⟨rb,2,none⟩) (.inl rfl) _) (fun g hg e=>by omega)⟩⟩
   ·have m2:Pro.zr L C.n { data:=#[44] }=false:=(by rw [<-Qi,one _ 44 44 rfl];exact h2);have HP:Hid (Pro.zJ L len n=(Pro.bad 3 (Pro.zC L len C.n) C.n,0)):=(by show _=_;rw [zb HO];simp [hk,h1,h2]);clear h1 h2 HO one;go_wp2_with (first |(go_at_call 113;refine (y9 (n:=C.n) _ (by first |exact ((zb X).set1 _).set2 _ |exact (((zb X).set1 _).set2 _).drewN _) hL (by omega) (by decide) (by assumption)).mono ?_;rintro e wq ⟨rfl,qq,rfl⟩) |(go_at_call 64;refine (zaO (n:=C.n) (by exact (((zb X).set1 _).set2 _).drewN _) hL (by omega)).mono ?_;rintro e wq ⟨v,rfl,hv,xq⟩;have X:=zc xq;have k0:=xq.r.k0;have c1:=xq.t.c1;have f1:=xq.t.f1;have k1:=xq.r.k1;have k2:=xq.r.k2;have q1:=xq.r.f1;have q2:=xq.r.f2));go_ret;rw [zb HP];exact ⟨Rp.t (n:=C.n) (zb X),.inr ⟨(show (3:Nat)≠0 by decide),v,rfl,hv⟩⟩
 ·have HP:Hid (Pro.zJ L len n=(C,0)):=by show _=_;rw [zb HO];simp [hk]
  obtain ⟨gv,hgv⟩:=hv.form;subst hgv;have X:=zc xq;clear HO one xq;go_wp2_with fail;go_ret;rw [zb HP];exact ⟨(zb X).t,.inr ⟨hk,_,rfl,hv⟩⟩
namespace Pro
def zu (L:List (Int×Int))(len:Int)(n:Nat):Bool×Out×Int:=
 if zf L n=42 then (true,good 0 (n+1),-1)
 else if zf L n=43 then (true,good 1 (n+1),-1)
 else if zf L n=63 then (true,good 0 (n+1),1)
 else if zf L n=123 then (true,zJ L len n)
 else (false,good 0 n,0)
def jR (L:List (Int×Int))(n:Nat):Nat:=if zf L n=63 then n+1 else n
end Pro
def Quants (b:Nat)(L:List (Int×Int))(len dp:Int)(a:Nat->Addr)(w:World)(p:Value)(o:Bool×Pro.Out×Int)(x:Ending)(w':World):Prop:=
 ze (zt b) w w'/\((o.1=false/\x = .returned (.tuple #[p,.nilIface])/\zR w' b L o.2.1.n len dp)\/
  (o.1=true/\o.2.1.k=0/\x = .returned (.tuple #[.iface 256 (.agg #[p,.int .i64 o.2.1.v,.int .i64 o.2.2]),.nilIface])/\zR w' b L (Pro.jR L o.2.1.n) len dp)\/
  (o.1=true/\o.2.1.k≠0/\zR w' b L o.2.1.n len dp/\∃ v,x = .returned (.tuple #[.nilIface,v])/\zI w' w.heap.size v (zN a o.2.1.k) o.2.1.p))
variable {rb w0 b L n len dp a p l m}
theorem Kv {w:World}(h:Rp rb w0 b L n len dp a p l m w)(hL:L.length<=400)(hn:n<=1000) :
  Calls prog 113 #[.pointer (some ⟨b,0,none⟩),.string { data:=#[63] }] w fun x w'=>∃ q,x = .returned (.bool q)/\Rp rb w0 b L (Pro.jR L n) len dp a p l m w':=
 (VD b L n len dp { data:=#[63] } w h.t.rd hL hn (by decide)).mono (by
  rintro e w1 ⟨rfl,h1,h2⟩;refine ⟨_,rfl,h.mine h2 ?_⟩;have:Pro.behind L n { data:=#[63] }=Pro.jR L n:=by
   unfold Pro.jR;by_cases h63:Pro.zf L n=63
   ·rw [if_pos h63];exact Pro.ZC (by rw [Pro.zp L n 63 63 rfl];simp [h63])
   ·rw [if_neg h63];exact Pro.YS (by rw [Pro.zp L n 63 63 rfl];simp [h63])
  rw [this] at h1;exact h1)
theorem Rp.start {b:Nat}{L:List (Int×Int)}{n:Nat}{len dp:Int}{a:Nat->Addr}{w:World}(p:Value)(h:zR w b L n len dp)(hS:zW w a)(hb:11<=b):Rp w.heap.size (w.alloc (.cells #[p,.int .i64 0,.int .i64 0] 256)) b L n len dp a p 0 0 (w.alloc (.cells #[p,.int .i64 0,.int .i64 0] 256)):=
 have t:=(Trk.start h hS hb).calm ((ze.refl _ _).alloc (.cells #[p,.int .i64 0,.int .i64 0] 256))
 ⟨⟨t.rd,t.se,ze.refl _ _,t.hb,h.lt,by simp⟩,⟨zm w _ rfl _ _ 0 _ rfl,zm w _ rfl _ _ 1 _ rfl,zm w _ rfl _ _ 2 _ rfl,zG w _ rfl _ _ 1,zG w _ rfl _ _ 2⟩⟩
namespace Pro
theorem Qy (n:Nat)(h:n<L.length):n<=(zJ L len n).1.n/\(zJ L len n).1.n<=L.length:=by
 have ha:=qV (L:=L) (len:=len) (n+1) (by omega);unfold zJ;simp only [];split
 ·simp only [];omega
 split
 ·have:=zq (L:=L) (n:=(zj L len (n+1)).n) (by omega);simp only [good];omega
 split
 ·simp only [bad];omega
 rename_i h44;have h1:=zq (L:=L) (n:=(zj L len (n+1)).n) (by omega);split
 ·have:=zq (L:=L) (n:=(zj L len (n+1)).n+1) (by omega);simp only [good];omega
 have hm:=qV (L:=L) (len:=len) ((zj L len (n+1)).n+1) (by omega);split
 ·simp only [];omega
 split
 ·simp only [bad];omega
 rename_i h125;have h2:=zq (L:=L) (n:=(zj L len ((zj L len (n+1)).n+1)).n) (by omega);split
 ·simp only [bad];omega
 ·simp only [good];omega
end Pro
variable (b L n len dp a)
theorem Qz (w:World)(TT:TypeId)(px:Value)(h:zR w b L n len dp)(hS:zW w a)(hb:11<=b)(hL:L.length<=400)(hn:n<=L.length)(hF:Pro.Fit L) :
  Calls prog 188 #[.pointer (some ⟨b,0,none⟩),.iface TT px] w (Quants b L len dp a w (.iface TT px) (Pro.zu L len n)):=by
 have X0:=zc (Rp.start (.iface TT px) h hS hb);clear h hS;go_enter func188,ntmps188;go_wp2_with fail;have HW:Hid (ze (zt b) w (w.alloc (.cells #[.iface TT px,.int .i64 0,.int .i64 0] 256))):=(ze.refl _ _).alloc _;have hsz:w.heap.size<(w.alloc (.cells #[.iface TT px,.int .i64 0,.int .i64 0] 256)).heap.size:=by simp
 have X:=zb X0;generalize w.alloc (.cells #[.iface TT px,.int .i64 0,.int .i64 0] 256)=W at *;have hrb:w.heap.size<=w.heap.size:=z8 _;generalize hrbe:w.heap.size=rb at *;have c1:=X.t.c1;have f1:=X.t.f1;have k0:=X.r.k0;have k1:=X.r.k1;have k2:=X.r.k2;have q1:=X.r.f1;have q2:=X.r.f2;have X:=zc X;clear X0;by_cases h42:Pro.zf L n=42
 ·have m42:Pro.zr L n { data:=#[42] }=true:=by rw [Pro.zp L n 42 42 rfl];simp [h42]
  have HO:Hid (Pro.zu L len n=(true,Pro.good 0 (n+1),-1)):=by unfold Pro.zu;rw [if_pos h42];rfl
  clear h42;go_wp2_with (first |(go_at_call 113;refine (jN (n:=n) _ (by exact zb X) hL (by omega) (by decide) (by assumption)).mono ?_;rintro e wq ⟨rfl,xq⟩;have xq:Rp _ _ b L ((n)+1) len dp a _ _ _ wq:=xq;have X:=zc xq;have k0:=xq.r.k0;have c1:=xq.t.c1;have f1:=xq.t.f1;have k1:=xq.r.k1;have k2:=xq.r.k2;have q1:=xq.r.f1;have q2:=xq.r.f2) |(go_at_call 113;refine (Kv (n:=n+1) (by exact (zb X).set2 _) hL (by omega)).mono ?_;rintro e wq ⟨lz,rfl,xq⟩;have X:=zc xq;have k0:=xq.r.k0;have c1:=xq.t.c1;have f1:=xq.t.f1;have k1:=xq.r.k1;have k2:=xq.r.k2;have q1:=xq.r.f1;have q2:=xq.r.f2));go_ret2;rw [zb HO];exact ⟨Own.back (zb HW) (zb X).t.on (by omega),.inr (.inl ⟨rfl,rfl,rfl,(zb X).t.rd⟩)⟩
 ·have m42:Pro.zr L n { data:=#[42] }=false:=by rw [Pro.zp L n 42 42 rfl];simp [h42]
  by_cases h43:Pro.zf L n=43
  ·have m43:Pro.zr L n { data:=#[43] }=true:=(by rw [Pro.zp L n 43 43 rfl];simp [h43]);have HO:Hid (Pro.zu L len n=(true,Pro.good 1 (n+1),-1)):=(by unfold Pro.zu;rw [if_neg h42,if_pos h43];rfl);clear h42 h43;go_wp2_with (first |(go_at_call 113;refine (y9 (n:=n) _ (by first |exact zb X |exact (zb X).drewN _) hL (by omega) (by decide) (by assumption)).mono ?_;rintro e wq ⟨rfl,qq,rfl⟩) |(go_at_call 113;refine (jN (n:=n) _ (by exact (zb X).drewN _) hL (by omega) (by decide) (by assumption)).mono ?_;rintro e wq ⟨rfl,xq⟩;have xq:Rp _ _ b L ((n)+1) len dp a _ _ _ wq:=xq;have X:=zc xq;have k0:=xq.r.k0;have c1:=xq.t.c1;have f1:=xq.t.f1;have k1:=xq.r.k1;have k2:=xq.r.k2;have q1:=xq.r.f1;have q2:=xq.r.f2) |(go_at_call 113;refine (Kv (n:=n+1) (by exact ((zb X).set1 _).set2 _) hL (by omega)).mono ?_;rintro e wq ⟨lz,rfl,xq⟩;have X:=zc xq;have k0:=xq.r.k0;have c1:=xq.t.c1;have f1:=xq.t.f1;have k1:=xq.r.k1;have k2:=xq.r.k2;have q1:=xq.r.f1;have q2:=xq.r.f2));go_ret2;rw [zb HO];exact ⟨Own.back (zb HW) (zb X).t.on (by omega),.inr (.inl ⟨rfl,rfl,rfl,(zb X).t.rd⟩)⟩
  ·have m43:Pro.zr L n { data:=#[43] }=false:=(by rw [Pro.zp L n 43 43 rfl];simp [h43]);by_cases h63:Pro.zf L n=63
   ·have m63:Pro.zr L n { data:=#[63] }=true:=(by rw [Pro.zp L n 63 63 rfl];simp [h63]);have HO:Hid (Pro.zu L len n=(true,Pro.good 0 (n+1),1)):=(by unfold Pro.zu;rw [if_neg h42,if_neg h43,if_pos h63];rfl);clear h42 h43 h63;go_wp2_with (first |(go_at_call 113;refine (y9 (n:=n) _ (by first |exact zb X |exact (zb X).drewN _) hL (by omega) (by decide) (by assumption)).mono ?_;rintro e wq ⟨rfl,qq,rfl⟩) |(go_at_call 113;refine (jN (n:=n) _ (by exact (zb X).drewN _) hL (by omega) (by decide) (by assumption)).mono ?_;rintro e wq ⟨rfl,xq⟩;have xq:Rp _ _ b L ((n)+1) len dp a _ _ _ wq:=xq;have X:=zc xq;have k0:=xq.r.k0;have c1:=xq.t.c1;have f1:=xq.t.f1;have k1:=xq.r.k1;have k2:=xq.r.k2;have q1:=xq.r.f1;have q2:=xq.r.f2) |(go_at_call 113;refine (Kv (n:=n+1) (by exact (zb X).set2 _) hL (by omega)).mono ?_;rintro e wq ⟨lz,rfl,xq⟩;have X:=zc xq;have k0:=xq.r.k0;have c1:=xq.t.c1;have f1:=xq.t.f1;have k1:=xq.r.k1;have k2:=xq.r.k2;have q1:=xq.r.f1;have q2:=xq.r.f2));go_ret2;rw [zb HO];exact ⟨Own.back (zb HW) (zb X).t.on (by omega),.inr (.inl ⟨rfl,rfl,rfl,(zb X).t.rd⟩)⟩
   ·have m63:Pro.zr L n { data:=#[63] }=false:=(by rw [Pro.zp L n 63 63 rfl];simp [h63]);by_cases h123:Pro.zf L n=123
    ·have hlt:n<L.length:=Pro.zq (by omega);have h123':(Pro.zf L n == 123)=true:=(by simp [h123]);have HO:Hid (Pro.zu L len n=(true,Pro.zJ L len n)):=(by unfold Pro.zu;rw [if_neg h42,if_neg h43,if_neg h63,if_pos h123];rfl);clear h42 h43 h63 h123;have hcb:=Pro.Qy (len:=len) n hlt;by_cases hk:(Pro.zJ L len n).1.k=0
     ·go_wp2_with (first |(go_at_call 113;refine (y9 (n:=n) _ (by first |exact zb X |exact (zb X).drewN _) hL (by omega) (by decide) (by assumption)).mono ?_;rintro e wq ⟨rfl,qq,rfl⟩) |(go_at_call 157;refine Q7 (yH (n:=n) (Rp.t (by exact (zb X).drewN _)) hL (by omega)) ?_) |(go_at_call 224;refine (Xn rb W b L n len dp a (.iface TT px) 0 0 _ (by exact (zb X).drewN _) hL hlt hF hsz).mono ?_;rintro e wc ⟨tq,hT⟩;obtain ⟨rfl,hr⟩:=wF hT hk;clear hT;have xq:Rp rb W b L _ len dp a _ _ _ wc:=⟨tq,hr⟩;have X:=zc xq;have k0:=xq.r.k0;have c1:=xq.t.c1;have f1:=xq.t.f1;have k1:=xq.r.k1;have k2:=xq.r.k2;have q1:=xq.r.f1;have q2:=xq.r.f2) |(go_at_call 113;refine (Kv (n:=(Pro.zJ L len n).1.n) (by exact zb X) hL (by omega)).mono ?_;rintro e wq ⟨lz,rfl,xq⟩;have X:=zc xq;have k0:=xq.r.k0;have c1:=xq.t.c1;have f1:=xq.t.f1;have k1:=xq.r.k1;have k2:=xq.r.k2;have q1:=xq.r.f1;have q2:=xq.r.f2));go_ret2;rw [zb HO];exact ⟨Own.back (zb HW) (zb X).t.on (by omega),.inr (.inl ⟨rfl,hk,rfl,(zb X).t.rd⟩)⟩
     ·go_wp2_with (first |(go_at_call 113;refine (y9 (n:=n) _ (by first |exact zb X |exact (zb X).drewN _) hL (by omega) (by decide) (by assumption)).mono ?_;rintro e wq ⟨rfl,qq,rfl⟩) |(go_at_call 157;refine Q7 (yH (n:=n) (Rp.t (by exact (zb X).drewN _)) hL (by omega)) ?_) |(go_at_call 224;refine (Xn rb W b L n len dp a (.iface TT px) 0 0 _ (by exact (zb X).drewN _) hL hlt hF hsz).mono ?_;rintro e wc ⟨tq,hT⟩;obtain ⟨v,rfl,hv⟩:=Ku hT hk;clear hT;obtain ⟨gv,hgv⟩:=hv.form;subst hgv;have T:=zc tq));go_ret2;rw [zb HO];exact ⟨Own.back (zb HW) (zb T).on (by omega),.inr (.inr ⟨rfl,hk,(zb T).rd,_,rfl,hv.base (by omega)⟩)⟩
    ·have h123':(Pro.zf L n == 123)=false:=(by simp [h123]);have HO:Hid (Pro.zu L len n=(false,Pro.good 0 n,0)):=(by unfold Pro.zu;rw [if_neg h42,if_neg h43,if_neg h63,if_neg h123];rfl);clear h42 h43 h63 h123;go_wp2_with (first |(go_at_call 113;refine (y9 (n:=n) _ (by first |exact zb X |exact (zb X).drewN _) hL (by omega) (by decide) (by assumption)).mono ?_;rintro e wq ⟨rfl,qq,rfl⟩) |(go_at_call 157;refine Q7 (yH (n:=n) (Rp.t (by exact (zb X).drewN _)) hL (by omega)) ?_));go_ret2;rw [zb HO];exact ⟨Own.back (zb HW) ((zb X).drewN _).t.on (by omega),.inl ⟨rfl,rfl,((zb X).drewN _).t.rd⟩⟩
end
end Go.Proofs.YtcgleficedipkaaGreatDoor
