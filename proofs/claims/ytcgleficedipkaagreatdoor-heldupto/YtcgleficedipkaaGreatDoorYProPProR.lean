/- The program's counts: one number. -/
import Derived.Test.YtcgleficedipkaaGreatDoorYProJ2ProO2
namespace Go.Proofs.YtcgleficedipkaaGreatDoor
section
open Go.RowKit
set_option maxHeartbeats 2000000
namespace Pro
theorem Jr {L:List (Int×Int)}{f n:Nat}{c:Int}(h:dig (zf L n)=true):qg L (f+1) c n=qg L f (min (c*10+(zf L n-48)) 101) (n+1):=by simp only [qg];rw [if_pos h]
theorem Xm {L:List (Int×Int)}{f n:Nat}{c:Int}(h:dig (zf L n)=false):qg L (f+1) c n=(c,n):=by simp only [qg];rw [if_neg (by simp [h])]
theorem WY {L:List (Int×Int)}{n:Nat}(h:dig (zf L n)=true):n<L.length:=zq (by unfold dig at h;simp at h;omega)
theorem Js (L:List (Int×Int)):∀ (f:Nat) (c:Int) (n:Nat),n≤L.length→0≤c→c≤101→n≤(qg L f c n).2∧(qg L f c n).2≤L.length∧0≤(qg L f c n).1∧(qg L f c n).1≤101
 |0,c,n,h,h0,h1=>by simp only [qg];omega
 |f+1,c,n,h,h0,h1=>by
  cases hd:dig (zf L n)
  ·rw [Xm hd];simp only [];omega
  ·rw [Jr hd]
   have:=WY hd
   have hb:48≤zf L n:=by unfold dig at hd;simp at hd;omega
   have:=Js L f (min (c*10+(zf L n-48)) 101) (n+1) (by omega) (by omega) (by omega)
   omega
theorem qV {L:List (Int×Int)}{len:Int}(n:Nat)(h:n≤L.length):n≤(zj L len n).n∧(zj L len n).n≤L.length∧0≤(zj L len n).v∧(zj L len n).v≤100:=by
 have:=Js L (L.length+1-n) 0 n h (by omega) (by omega)
 unfold zj countP
 split
 ·simp only [bad];omega
 ·split
  ·simp only [bad];omega
  ·simp only [good];omega
end Pro
theorem WZ (b:Nat)(L:List (Int×Int))(n:Nat)(len dp:Int)(a:Nat→Addr)(w:World)(h:zR w b L n len dp)(hS:zW w a)(hb:11≤b)(hL:L.length≤400)(hn:n≤L.length)(_hF:Pro.Fit L) :
  Calls Tryz.prog 255 #[.pointer (some ⟨b,0,none⟩)] w (Tells b L len dp a w (Pro.zj L len n) (.int .i64 (Pro.zj L len n).v) (.int .i64 0)):=by
 have T:=zc (Trk.start h hS hb)
 clear h hS
 cases hd:Pro.dig (Pro.zf L n)
 ·have HO:Hid (Pro.zj L len n=Pro.bad 3 (Pro.zC L len n) n):=by unfold Pro.zj;rw [if_pos hd];rfl
  have hd':(decide (48≤Pro.zf L n) && decide (Pro.zf L n≤57))=false:=hd
  go_enter Tryz.func255,Tryz.ntmps255
  go_wp2_with (first |(go_at_call 114;refine (yE (n:=n) (by exact zb T) hL (by omega)).mono ?_;rintro e wq ⟨rfl,qq,rfl⟩) |(go_at_call 157;refine (yH (n:=n) (by exact (zb T).drewN _) hL (by omega)).mono ?_;rintro e wq ⟨rfl,hwq⟩;obtain rfl:=hwq.symm;clear hwq) |(go_at_call 286;refine (y5 _ _).mono ?_;rintro e wq ⟨rfl,hwq⟩;obtain rfl:=hwq.symm;clear hwq);(rw [hd']) |(go_at_call 64;refine (Yi (n:=n) (by exact (zb T).drewN _) hL (by omega)).mono ?_;rintro e wq ⟨v,rfl,hv,tq⟩;have T:=zc tq;have c1:=tq.c1;have f1:=tq.f1))
  go_ret2
  exact (zb T).bad (zb HO) (by decide) hv
 ·have hd':(decide (48≤Pro.zf L n) && decide (Pro.zf L n≤57))=true:=hd
  go_enter Tryz.func255,Tryz.ntmps255
  go_wp2_with (first |(go_at_call 114;refine (yE (n:=n) (by exact zb T) hL (by omega)).mono ?_;rintro e wq ⟨rfl,qq,rfl⟩) |(go_at_call 157;refine (yH (n:=n) (by exact (zb T).drewN _) hL (by omega)).mono ?_;rintro e wq ⟨rfl,hwq⟩;obtain rfl:=hwq.symm;clear hwq) |(go_at_call 286;refine (y5 _ _).mono ?_;rintro e wq ⟨rfl,hwq⟩;obtain rfl:=hwq.symm;clear hwq);(rw [hd']))
  have T1:=zc ((zb T).drewN qq)
  generalize w.drewN qq=w1 at *
  go_loopw [5] (fun c wr=>∃ (q:Int) (m:Nat),c = .int .i64 q∧0≤q∧q≤101∧m≤L.length∧Hid (Trk w.heap.size w b L m len dp a wr)∧Hid (Pro.countP L n=Pro.qg L (L.length+1-m) q m)) (fun _ wr=>L.length-rdN wr b)
  case atStart=>exact ⟨0,n,rfl,by omega,by omega,hn,T1,rfl⟩
  case round=>
   obtain ⟨q,m,rfl,hq0,hq1,hm,T,HF⟩:=hrel
   have hrd:=(zb T).rdN
   have hfu:Hid (L.length+1-m=(L.length-m)+1):=by show _=_;omega
   cases he:Pro.dig (Pro.zf L m)
   ·have he':(decide (48≤Pro.zf L m) && decide (Pro.zf L m≤57))=false:=he
    have HG:Hid (Pro.countP L n=(q,m)):=by rw [zb HF,zb hfu];exact Pro.Xm he
    by_cases hbig:100<q
    ·have HO:Hid (Pro.zj L len n=Pro.bad 5 (Pro.zC L len n) m):=by unfold Pro.zj;rw [if_neg (by simp [hd]),zb HG,if_pos hbig];rfl
     have hs5:=(zb T).se.s5
     go_wp2_with (first |(go_at_call 157;refine (yH (n:=m) (by exact zb T) hL (by omega)).mono ?_;rintro e wq ⟨rfl,hwq⟩;obtain rfl:=hwq.symm;clear hwq) |(go_at_call 286;refine (y5 _ _).mono ?_;rintro e wq ⟨rfl,hwq⟩;obtain rfl:=hwq.symm;clear hwq);(rw [he']) |(go_at_call 45;refine (Xl (n:=m) _ 5 _ _ rfl (by exact zb T)).mono ?_;rintro e wq ⟨v,rfl,hv,tq⟩;have T:=zc tq;have c1:=tq.c1;have f1:=tq.f1))
     go_ret2
     exact (zb T).bad (zb HO) (by decide) hv
    ·have HO:Hid (Pro.zj L len n=Pro.good q m):=by unfold Pro.zj;rw [if_neg (by simp [hd]),zb HG,if_neg hbig];rfl
     go_wp2_with (first |(go_at_call 157;refine (yH (n:=m) (by exact zb T) hL (by omega)).mono ?_;rintro e wq ⟨rfl,hwq⟩;obtain rfl:=hwq.symm;clear hwq) |(go_at_call 286;refine (y5 _ _).mono ?_;rintro e wq ⟨rfl,hwq⟩;obtain rfl:=hwq.symm;clear hwq);(rw [he']))
     go_ret2
     exact (zb T).good (zb HO) (by rw [zb HO];rfl)
   ·have he':(decide (48≤Pro.zf L m) && decide (Pro.zf L m≤57))=true:=he
    have hml:=Pro.WY he
    have HG:Hid (Pro.countP L n=Pro.qg L (L.length+1-(m+1)) (min (q*10+(Pro.zf L m-48)) 101) (m+1)):=by rw [zb HF,show L.length+1-m=(L.length+1-(m+1))+1 by omega];exact Pro.Jr he
    have hlo:48≤Pro.zf L m∧Pro.zf L m≤57:=by simpa using he'
    have c1:=(zb T).c1
    have f1:=(zb T).f1
    go_wp2_with (first |(go_at_call 157;refine (yH (n:=m) (by exact zb T) hL (by omega)).mono ?_;rintro e wq ⟨rfl,hwq⟩;obtain rfl:=hwq.symm;clear hwq) |(go_at_call 286;refine (y5 _ _).mono ?_;rintro e wq ⟨rfl,hwq⟩;obtain rfl:=hwq.symm;clear hwq);(rw [he']))
    have T2:=(zb T).setN (m+1) ((m:Int)+1) (by omega)
    refine ⟨⟨min (q*10+(Pro.zf L m-48)) 101,m+1,?_,by omega,by omega,by omega,zc T2,HG⟩,by rw [T2.rdN,hrd];omega⟩
    rw [show (if 101<q*10+(Pro.zf L m-48) then (101:Int) else q*10+(Pro.zf L m-48))=min (q*10+(Pro.zf L m-48)) 101 by split<;>omega]
structure vh (w:World)(rb:Nat)(p:Value)(l m:Int):Prop where
 k0:w.cell? ⟨rb,0,none⟩=some p
 k1:w.cell? ⟨rb,1,none⟩=some (.int .i64 l)
 k2:w.cell? ⟨rb,2,none⟩=some (.int .i64 m)
 f1:w.frozen? ⟨rb,1,none⟩=false
 f2:w.frozen? ⟨rb,2,none⟩=false
theorem vh.lt {w:World}{rb:Nat}{p:Value}{l m:Int}(h:vh w rb p l m):rb<w.heap.size:=World.block_lt_of_cell? w ⟨rb,0,none⟩ h.k0
theorem vh.keep {P:Nat→Prop}{w w':World}{rb:Nat}{p:Value}{l m:Int}(h:vh w rb p l m)(k:ze P w w')(hn:¬P rb):vh w' rb p l m:=
 ⟨(k.cell (p:=⟨rb,0,none⟩) h.lt hn).trans h.k0,(k.cell (p:=⟨rb,1,none⟩) h.lt hn).trans h.k1,(k.cell (p:=⟨rb,2,none⟩) h.lt hn).trans h.k2,(k.frozen (p:=⟨rb,1,none⟩) h.lt hn).trans h.f1,(k.frozen (p:=⟨rb,2,none⟩) h.lt hn).trans h.f2⟩
theorem vh.set1 {w:World}{rb:Nat}{p:Value}{l m:Int}(h:vh w rb p l m)(x:Int):vh (w.setCell ⟨rb,1,none⟩ (.int .i64 x)) rb p x m:=
 ⟨(World.cell?_setCell_other _ _ _ _ (by simp)).trans h.k0,World.cell?_setCell_same _ _ _ h.k1,(World.cell?_setCell_other _ _ _ _ (by simp)).trans h.k2,(zk _ _ _ _).trans h.f1,(zk _ _ _ _).trans h.f2⟩
theorem vh.set2 {w:World}{rb:Nat}{p:Value}{l m:Int}(h:vh w rb p l m)(x:Int):vh (w.setCell ⟨rb,2,none⟩ (.int .i64 x)) rb p l x:=
 ⟨(World.cell?_setCell_other _ _ _ _ (by simp)).trans h.k0,(World.cell?_setCell_other _ _ _ _ (by simp)).trans h.k1,World.cell?_setCell_same _ _ _ h.k2,(zk _ _ _ _).trans h.f1,(zk _ _ _ _).trans h.f2⟩
structure Rp (rb:Nat)(w0:World)(b:Nat)(L:List (Int×Int))(n:Nat)(len dp:Int)(a:Nat→Addr)(p:Value)(l m:Int)(w:World):Prop where
 t:Trk rb w0 b L n len dp a w
 r:vh w rb p l m
section
variable {rb:Nat} {w0:World} {b:Nat} {L:List (Int×Int)} {n:Nat} {len dp:Int} {a:Nat→Addr} {p:Value} {l m:Int} {w w':World}
theorem Rp.drewN (h:Rp rb w0 b L n len dp a p l m w)(q:Nat):Rp rb w0 b L n len dp a p l m (w.drewN q):=⟨h.t.drewN q,h.r.keep ((ze.refl (fun _=>False) w).drewN q) (fun f=>f)⟩
theorem Rp.mine {n':Nat}(h:Rp rb w0 b L n len dp a p l m w)(k:ze (zt b) w w')(hr:zR w' b L n' len dp):Rp rb w0 b L n' len dp a p l m w':=⟨h.t.mine k hr,h.r.keep k (fun e=>by have:=h.t.lt;unfold zt at e;omega)⟩
theorem Rp.calm (h:Rp rb w0 b L n len dp a p l m w)(k:ze (fun _=>False) w w'):Rp rb w0 b L n len dp a p l m w':=⟨h.t.calm k,h.r.keep k (fun f=>f)⟩
theorem Rp.setN (h:Rp rb w0 b L n len dp a p l m w)(i:Nat)(j:Int)(hj:j=(i:Int)):Rp rb w0 b L i len dp a p l m (w.setCell ⟨b,1,none⟩ (.int .i64 j)):=h.mine ((ze.refl _ _).mine _ _) (h.t.rd.setN i j hj)
theorem Rp.set1 (h:Rp rb w0 b L n len dp a p l m w)(x:Int):Rp rb w0 b L n len dp a p x m (w.setCell ⟨rb,1,none⟩ (.int .i64 x)):=⟨h.t.push ((ze.refl _ _).setCell (p:=⟨rb,1,none⟩) (.inl (Nat.le_refl _)) _),h.r.set1 x⟩
theorem Rp.set2 (h:Rp rb w0 b L n len dp a p l m w)(x:Int):Rp rb w0 b L n len dp a p l x (w.setCell ⟨rb,2,none⟩ (.int .i64 x)):=⟨h.t.push ((ze.refl _ _).setCell (p:=⟨rb,2,none⟩) (.inl (Nat.le_refl _)) _),h.r.set2 x⟩
theorem y9 (word:ByteArray)(h:Rp rb w0 b L n len dp a p l m w)(hL:L.length≤400)(hn:n≤1000)(hw:word.size≤10)(hm:Pro.zr L n word=false) :
  Calls Tryz.prog 113 #[.pointer (some ⟨b,0,none⟩),.string word] w fun x w'=>x = .returned (.bool false)∧∃ q,w'=w.drewN q:=xC b L n len dp word w h.t.rd hL hn hw hm
theorem jN (word:ByteArray)(h:Rp rb w0 b L n len dp a p l m w)(hL:L.length≤400)(hn:n≤1000)(hw:word.size≤10)(hm:Pro.zr L n word=true) :
  Calls Tryz.prog 113 #[.pointer (some ⟨b,0,none⟩),.string word] w fun x w'=>x = .returned (.bool true)∧Rp rb w0 b L (n+word.size) len dp a p l m w':=
 (yT b L n len dp word w h.t.rd hL hn hw hm).mono (by rintro e w1 ⟨rfl,h1,h2⟩;exact ⟨rfl,h.mine h2 h1⟩)
theorem zaO (h:Rp rb w0 b L n len dp a p l m w)(hL:L.length≤400)(hn:n≤L.length) :
  Calls Tryz.prog 64 #[.pointer (some ⟨b,0,none⟩)] w fun x w'=>∃ v,x = .returned v∧zI w' w0.heap.size v (zN a 3) (Pro.zC L len n)∧Rp rb w0 b L n len dp a p l m w':=
 (jJ b L n len dp a w h.t.rd h.t.se hL hn).mono (by rintro e w1 ⟨v,rfl,hv,hO⟩;exact ⟨v,rfl,hv.base h.t.on.size,h.calm hO⟩)
theorem new_r (T:TypeId)(k:Nat)(q:Int)(x:Value)(hx : .iface T x=zN a k)(h:Rp rb w0 b L n len dp a p l m w) :
  Calls Tryz.prog 45 #[.iface T x,.int .i64 q] w fun e w'=>∃ v,e = .returned v∧zI w' w0.heap.size v (zN a k) q∧Rp rb w0 b L n len dp a p l m w':=
 (wX T x q w).mono (by rintro e w1 ⟨v,rfl,hv,hO⟩;rw [hx] at hv;exact ⟨v,rfl,hv.base h.t.on.size,h.calm hO⟩)
theorem qM (h:Rp rb w0 b L n len dp a p l m w)(hL:L.length≤400)(hn:n≤L.length)(hF:Pro.Fit L) :
  Calls Tryz.prog 255 #[.pointer (some ⟨b,0,none⟩)] w fun x w'=>Rp rb w0 b L (Pro.zj L len n).n len dp a p l m w'∧(((Pro.zj L len n).k=0∧x = .returned (.tuple #[.int .i64 (Pro.zj L len n).v,.nilIface]))∨((Pro.zj L len n).k≠0∧∃ v,x = .returned (.tuple #[.int .i64 0,v])∧zI w' w0.heap.size v (zN a (Pro.zj L len n).k) (Pro.zj L len n).p)):=
 (WZ b L n len dp a w h.t.rd h.t.se h.t.hb hL hn hF).mono (by
  rintro x w1 ⟨hO,hR,hT⟩
  refine ⟨h.mine hO hR,?_⟩
  rcases hT with hT |⟨hk,v,hx,hv⟩
  ·exact .inl hT
  ·exact .inr ⟨hk,v,hx,hv.base h.t.on.size⟩)
end
def Counts (rb:Nat)(w0:World)(b:Nat)(L:List (Int×Int))(len dp:Int)(a:Nat→Addr)(p:Value)(o:Pro.Out×Int)(x:Ending)(w':World):Prop:=
 Trk rb w0 b L o.1.n len dp a w'∧((o.1.k=0∧x = .returned .nilIface∧vh w' rb p o.1.v o.2)∨(o.1.k≠0∧∃ v,x = .returned v∧zI w' w0.heap.size v (zN a o.1.k) o.1.p))
set_option maxHeartbeats 4000000
set_option maxRecDepth 1000000
theorem Xn (rb:Nat)(w0:World)(b:Nat)(L:List (Int×Int))(n:Nat)(len dp:Int)(a:Nat→Addr)(p:Value)(l m:Int)(w:World)(h:Rp rb w0 b L n len dp a p l m w)(hL:L.length≤400)(hn:n<L.length)(hF:Pro.Fit L)(hrb:rb<w0.heap.size) :
  Calls Tryz.prog 224 #[.pointer (some ⟨b,0,none⟩),.pointer (some ⟨rb,0,none⟩)] w (Counts rb w0 b L len dp a p (Pro.zJ L len n)):=by
 have X:=zc h
 have c1:=h.t.c1
 have f1:=h.t.f1
 have hs4:=h.t.se.s4
 clear h
 have hA:=Pro.qV (L:=L) (len:=len) (n+1) (by omega)
 by_cases hk:(Pro.zj L len (n+1)).k=0
 ·by_cases h1:Pro.zf L (Pro.zj L len (n+1)).n=125
  ·have m1:Pro.zr L (Pro.zj L len (n+1)).n { data:=#[125] }=true:=by rw [Pro.zp L _ 125 125 rfl];simp [h1]
   have HO:Hid (Pro.zJ L len n=(Pro.good (Pro.zj L len (n+1)).v ((Pro.zj L len (n+1)).n+1),(Pro.zj L len (n+1)).v)):=by unfold Pro.zJ;simp only [];rw [if_neg (by simp [hk]),if_pos h1];rfl
   clear h1
   go_enter Tryz.func224,Tryz.ntmps224
   go_wp2_with (first |(go_at_call 114;refine (yE (n:=n) (Rp.t (by exact zb X)) hL (by omega)).mono ?_;rintro e wq ⟨rfl,qq,rfl⟩) |(go_at_call 255;refine (qM (n:=n+1) (by exact ((zb X).drewN _).setN _ _ (by omega)) hL (by omega) hF).mono ?_;rintro e wq ⟨xq,hT⟩;obtain rfl:=zX hT hk;clear hT;have X:=zc xq;have k0:=xq.r.k0;have c1:=xq.t.c1;have f1:=xq.t.f1;have k1:=xq.r.k1;have k2:=xq.r.k2;have q1:=xq.r.f1;have q2:=xq.r.f2) |(go_at_call 113;refine (jN (n:=(Pro.zj L len (n+1)).n) _ (by exact ((zb X).set1 _).set2 _) hL (by omega) (by decide) (by assumption)).mono ?_;rintro e wq ⟨rfl,xq⟩;have xq:Rp _ _ b L (((Pro.zj L len (n+1)).n)+1) len dp a _ _ _ wq:=xq;have X:=zc xq;have k0:=xq.r.k0;have c1:=xq.t.c1;have f1:=xq.t.f1;have k1:=xq.r.k1;have k2:=xq.r.k2;have q1:=xq.r.f1;have q2:=xq.r.f2))
   go_ret
   rw [zb HO]
   exact ⟨Rp.t (n:=(Pro.zj L len (n+1)).n+1) (by exact zb X),.inl ⟨rfl,rfl,Rp.r (n:=(Pro.zj L len (n+1)).n+1) (by exact zb X)⟩⟩
  ·have m1:Pro.zr L (Pro.zj L len (n+1)).n { data:=#[125] }=false:=by rw [Pro.zp L _ 125 125 rfl];simp [h1]
   by_cases h2:Pro.zf L (Pro.zj L len (n+1)).n=44
   ·have m2:Pro.zr L (Pro.zj L len (n+1)).n { data:=#[44] }=true:=by rw [Pro.zp L _ 44 44 rfl];simp [h2]
    have hlt:(Pro.zj L len (n+1)).n<L.length:=Pro.zq (by omega)
    by_cases h3:Pro.zf L ((Pro.zj L len (n+1)).n+1)=125
    ·have m3:Pro.zr L ((Pro.zj L len (n+1)).n+1) { data:=#[125] }=true:=by rw [Pro.zp L _ 125 125 rfl];simp [h3]
     have HO:Hid (Pro.zJ L len n=(Pro.good (Pro.zj L len (n+1)).v ((Pro.zj L len (n+1)).n+2),-1)):=by unfold Pro.zJ;simp only [];rw [if_neg (by simp [hk]),if_neg h1,if_neg (by simp [h2]),if_pos h3];rfl
     clear h1 h2 h3
     go_enter Tryz.func224,Tryz.ntmps224
     go_wp2_with (first |(go_at_call 114;refine (yE (n:=n) (Rp.t (by exact zb X)) hL (by omega)).mono ?_;rintro e wq ⟨rfl,qq,rfl⟩) |(go_at_call 255;refine (qM (n:=n+1) (by exact ((zb X).drewN _).setN _ _ (by omega)) hL (by omega) hF).mono ?_;rintro e wq ⟨xq,hT⟩;obtain rfl:=zX hT hk;clear hT;have X:=zc xq;have k0:=xq.r.k0;have c1:=xq.t.c1;have f1:=xq.t.f1;have k1:=xq.r.k1;have k2:=xq.r.k2;have q1:=xq.r.f1;have q2:=xq.r.f2) |(go_at_call 113;refine (y9 (n:=(Pro.zj L len (n+1)).n) _ (by first |exact ((zb X).set1 _).set2 _ |exact (((zb X).set1 _).set2 _).drewN _) hL (by omega) (by decide) (by assumption)).mono ?_;rintro e wq ⟨rfl,qq,rfl⟩) |(go_at_call 113;refine (jN (n:=(Pro.zj L len (n+1)).n) _ (by exact (((zb X).set1 _).set2 _).drewN _) hL (by omega) (by decide) (by assumption)).mono ?_;rintro e wq ⟨rfl,xq⟩;have xq:Rp _ _ b L (((Pro.zj L len (n+1)).n)+1) len dp a _ _ _ wq:=xq;have X:=zc xq;have k0:=xq.r.k0;have c1:=xq.t.c1;have f1:=xq.t.f1;have k1:=xq.r.k1;have k2:=xq.r.k2;have q1:=xq.r.f1;have q2:=xq.r.f2) |(go_at_call 113;refine (jN (n:=(Pro.zj L len (n+1)).n+1) _ (by exact zb X) hL (by omega) (by decide) (by assumption)).mono ?_;rintro e wq ⟨rfl,xq⟩;have xq:Rp _ _ b L (((Pro.zj L len (n+1)).n+1)+1) len dp a _ _ _ wq:=xq;have X:=zc xq;have k0:=xq.r.k0;have c1:=xq.t.c1;have f1:=xq.t.f1;have k1:=xq.r.k1;have k2:=xq.r.k2;have q1:=xq.r.f1;have q2:=xq.r.f2))
     go_ret
     rw [zb HO]
     exact ⟨Rp.t (n:=(Pro.zj L len (n+1)).n+2) (by exact (zb X).set2 _),.inl ⟨rfl,rfl,Rp.r (n:=(Pro.zj L len (n+1)).n+2) (by exact (zb X).set2 _)⟩⟩
    ·have m3:Pro.zr L ((Pro.zj L len (n+1)).n+1) { data:=#[125] }=false:=by rw [Pro.zp L _ 125 125 rfl];simp [h3]
     have hM:=Pro.qV (L:=L) (len:=len) ((Pro.zj L len (n+1)).n+1) (by omega)
     by_cases hk2:(Pro.zj L len ((Pro.zj L len (n+1)).n+1)).k=0
     ·by_cases h4:Pro.zf L (Pro.zj L len ((Pro.zj L len (n+1)).n+1)).n=125
      ·have m4:Pro.zr L (Pro.zj L len ((Pro.zj L len (n+1)).n+1)).n { data:=#[125] }=true:=by rw [Pro.zp L _ 125 125 rfl];simp [h4]
       by_cases h5:(Pro.zj L len ((Pro.zj L len (n+1)).n+1)).v<(Pro.zj L len (n+1)).v
       ·have HO:Hid (Pro.zJ L len n=(Pro.bad 4 (Pro.zC L len n) ((Pro.zj L len ((Pro.zj L len (n+1)).n+1)).n+1),0)):=by unfold Pro.zJ;simp only [];rw [if_neg (by simp [hk]),if_neg h1,if_neg (by simp [h2]),if_neg h3,if_neg (by simp [hk2]),if_neg (by simp [h4]),if_pos h5];rfl
        clear h1 h2 h3 h4
        go_enter Tryz.func224,Tryz.ntmps224
        go_wp2_with (first |(go_at_call 114;refine (yE (n:=n) (Rp.t (by exact zb X)) hL (by omega)).mono ?_;rintro e wq ⟨rfl,qq,rfl⟩) |(go_at_call 255;refine (qM (n:=n+1) (by exact ((zb X).drewN _).setN _ _ (by omega)) hL (by omega) hF).mono ?_;rintro e wq ⟨xq,hT⟩;obtain rfl:=zX hT hk;clear hT;have X:=zc xq;have k0:=xq.r.k0;have c1:=xq.t.c1;have f1:=xq.t.f1;have k1:=xq.r.k1;have k2:=xq.r.k2;have q1:=xq.r.f1;have q2:=xq.r.f2) |(go_at_call 113;refine (y9 (n:=(Pro.zj L len (n+1)).n) _ (by first |exact ((zb X).set1 _).set2 _ |exact (((zb X).set1 _).set2 _).drewN _) hL (by omega) (by decide) (by assumption)).mono ?_;rintro e wq ⟨rfl,qq,rfl⟩) |(go_at_call 113;refine (jN (n:=(Pro.zj L len (n+1)).n) _ (by exact (((zb X).set1 _).set2 _).drewN _) hL (by omega) (by decide) (by assumption)).mono ?_;rintro e wq ⟨rfl,xq⟩;have xq:Rp _ _ b L (((Pro.zj L len (n+1)).n)+1) len dp a _ _ _ wq:=xq;have X:=zc xq;have k0:=xq.r.k0;have c1:=xq.t.c1;have f1:=xq.t.f1;have k1:=xq.r.k1;have k2:=xq.r.k2;have q1:=xq.r.f1;have q2:=xq.r.f2);(have hs4:=(zb X).t.se.s4) |(go_at_call 113;refine (y9 (n:=(Pro.zj L len (n+1)).n+1) _ (by exact zb X) hL (by omega) (by decide) (by assumption)).mono ?_;rintro e wq ⟨rfl,qq,rfl⟩) |(go_at_call 255;refine (qM (n:=(Pro.zj L len (n+1)).n+1) (by exact (zb X).drewN _) hL (by omega) hF).mono ?_;rintro e wq ⟨xq,hT⟩;obtain rfl:=zX hT hk2;clear hT;have X:=zc xq;have k0:=xq.r.k0;have c1:=xq.t.c1;have f1:=xq.t.f1;have k1:=xq.r.k1;have k2:=xq.r.k2;have q1:=xq.r.f1;have q2:=xq.r.f2);(have hs4:=(zb X).t.se.s4) |(go_at_call 113;refine (jN (n:=(Pro.zj L len ((Pro.zj L len (n+1)).n+1)).n) _ (by exact (zb X).set2 _) hL (by omega) (by decide) (by assumption)).mono ?_;rintro e wq ⟨rfl,xq⟩;have xq:Rp _ _ b L (((Pro.zj L len ((Pro.zj L len (n+1)).n+1)).n)+1) len dp a _ _ _ wq:=xq;have X:=zc xq;have k0:=xq.r.k0;have c1:=xq.t.c1;have f1:=xq.t.f1;have k1:=xq.r.k1;have k2:=xq.r.k2;have q1:=xq.r.f1;have q2:=xq.r.f2);(have hs4:=(zb X).t.se.s4) |(go_at_call 45;refine (new_r (n:=(Pro.zj L len ((Pro.zj L len (n+1)).n+1)).n+1) _ 4 _ _ rfl (by exact zb X)).mono ?_;rintro e wq ⟨v,rfl,hv,xq⟩;have X:=zc xq;have k0:=xq.r.k0;have c1:=xq.t.c1;have f1:=xq.t.f1;have k1:=xq.r.k1;have k2:=xq.r.k2;have q1:=xq.r.f1;have q2:=xq.r.f2))
        go_ret
        rw [zb HO]
        exact ⟨Rp.t (n:=(Pro.zj L len ((Pro.zj L len (n+1)).n+1)).n+1) (zb X),.inr ⟨(show (4:Nat)≠0 by decide),v,rfl,hv⟩⟩
       ·have HO:Hid (Pro.zJ L len n=(Pro.good (Pro.zj L len (n+1)).v ((Pro.zj L len ((Pro.zj L len (n+1)).n+1)).n+1),(Pro.zj L len ((Pro.zj L len (n+1)).n+1)).v)):=by unfold Pro.zJ;simp only [];rw [if_neg (by simp [hk]),if_neg h1,if_neg (by simp [h2]),if_neg h3,if_neg (by simp [hk2]),if_neg (by simp [h4]),if_neg h5];rfl
        clear h1 h2 h3 h4
        go_enter Tryz.func224,Tryz.ntmps224
        go_wp2_with (first |(go_at_call 114;refine (yE (n:=n) (Rp.t (by exact zb X)) hL (by omega)).mono ?_;rintro e wq ⟨rfl,qq,rfl⟩) |(go_at_call 255;refine (qM (n:=n+1) (by exact ((zb X).drewN _).setN _ _ (by omega)) hL (by omega) hF).mono ?_;rintro e wq ⟨xq,hT⟩;obtain rfl:=zX hT hk;clear hT;have X:=zc xq;have k0:=xq.r.k0;have c1:=xq.t.c1;have f1:=xq.t.f1;have k1:=xq.r.k1;have k2:=xq.r.k2;have q1:=xq.r.f1;have q2:=xq.r.f2) |(go_at_call 113;refine (y9 (n:=(Pro.zj L len (n+1)).n) _ (by first |exact ((zb X).set1 _).set2 _ |exact (((zb X).set1 _).set2 _).drewN _) hL (by omega) (by decide) (by assumption)).mono ?_;rintro e wq ⟨rfl,qq,rfl⟩) |(go_at_call 113;refine (jN (n:=(Pro.zj L len (n+1)).n) _ (by exact (((zb X).set1 _).set2 _).drewN _) hL (by omega) (by decide) (by assumption)).mono ?_;rintro e wq ⟨rfl,xq⟩;have xq:Rp _ _ b L (((Pro.zj L len (n+1)).n)+1) len dp a _ _ _ wq:=xq;have X:=zc xq;have k0:=xq.r.k0;have c1:=xq.t.c1;have f1:=xq.t.f1;have k1:=xq.r.k1;have k2:=xq.r.k2;have q1:=xq.r.f1;have q2:=xq.r.f2) |(go_at_call 113;refine (y9 (n:=(Pro.zj L len (n+1)).n+1) _ (by exact zb X) hL (by omega) (by decide) (by assumption)).mono ?_;rintro e wq ⟨rfl,qq,rfl⟩) |(go_at_call 255;refine (qM (n:=(Pro.zj L len (n+1)).n+1) (by exact (zb X).drewN _) hL (by omega) hF).mono ?_;rintro e wq ⟨xq,hT⟩;obtain rfl:=zX hT hk2;clear hT;have X:=zc xq;have k0:=xq.r.k0;have c1:=xq.t.c1;have f1:=xq.t.f1;have k1:=xq.r.k1;have k2:=xq.r.k2;have q1:=xq.r.f1;have q2:=xq.r.f2) |(go_at_call 113;refine (jN (n:=(Pro.zj L len ((Pro.zj L len (n+1)).n+1)).n) _ (by exact (zb X).set2 _) hL (by omega) (by decide) (by assumption)).mono ?_;rintro e wq ⟨rfl,xq⟩;have xq:Rp _ _ b L (((Pro.zj L len ((Pro.zj L len (n+1)).n+1)).n)+1) len dp a _ _ _ wq:=xq;have X:=zc xq;have k0:=xq.r.k0;have c1:=xq.t.c1;have f1:=xq.t.f1;have k1:=xq.r.k1;have k2:=xq.r.k2;have q1:=xq.r.f1;have q2:=xq.r.f2))
        go_ret
        rw [zb HO]
        exact ⟨Rp.t (n:=(Pro.zj L len ((Pro.zj L len (n+1)).n+1)).n+1) (by exact zb X),.inl ⟨rfl,rfl,Rp.r (n:=(Pro.zj L len ((Pro.zj L len (n+1)).n+1)).n+1) (by exact zb X)⟩⟩
      ·have m4:Pro.zr L (Pro.zj L len ((Pro.zj L len (n+1)).n+1)).n { data:=#[125] }=false:=by rw [Pro.zp L _ 125 125 rfl];simp [h4]
       have HO:Hid (Pro.zJ L len n=(Pro.bad 3 (Pro.zC L len (Pro.zj L len ((Pro.zj L len (n+1)).n+1)).n) (Pro.zj L len ((Pro.zj L len (n+1)).n+1)).n,0)):=by unfold Pro.zJ;simp only [];rw [if_neg (by simp [hk]),if_neg h1,if_neg (by simp [h2]),if_neg h3,if_neg (by simp [hk2]),if_pos h4];rfl
       clear h1 h2 h3 h4
       go_enter Tryz.func224,Tryz.ntmps224
       go_wp2_with (first |(go_at_call 114;refine (yE (n:=n) (Rp.t (by exact zb X)) hL (by omega)).mono ?_;rintro e wq ⟨rfl,qq,rfl⟩) |(go_at_call 255;refine (qM (n:=n+1) (by exact ((zb X).drewN _).setN _ _ (by omega)) hL (by omega) hF).mono ?_;rintro e wq ⟨xq,hT⟩;obtain rfl:=zX hT hk;clear hT;have X:=zc xq;have k0:=xq.r.k0;have c1:=xq.t.c1;have f1:=xq.t.f1;have k1:=xq.r.k1;have k2:=xq.r.k2;have q1:=xq.r.f1;have q2:=xq.r.f2) |(go_at_call 113;refine (y9 (n:=(Pro.zj L len (n+1)).n) _ (by first |exact ((zb X).set1 _).set2 _ |exact (((zb X).set1 _).set2 _).drewN _) hL (by omega) (by decide) (by assumption)).mono ?_;rintro e wq ⟨rfl,qq,rfl⟩) |(go_at_call 113;refine (jN (n:=(Pro.zj L len (n+1)).n) _ (by exact (((zb X).set1 _).set2 _).drewN _) hL (by omega) (by decide) (by assumption)).mono ?_;rintro e wq ⟨rfl,xq⟩;have xq:Rp _ _ b L (((Pro.zj L len (n+1)).n)+1) len dp a _ _ _ wq:=xq;have X:=zc xq;have k0:=xq.r.k0;have c1:=xq.t.c1;have f1:=xq.t.f1;have k1:=xq.r.k1;have k2:=xq.r.k2;have q1:=xq.r.f1;have q2:=xq.r.f2) |(go_at_call 113;refine (y9 (n:=(Pro.zj L len (n+1)).n+1) _ (by exact zb X) hL (by omega) (by decide) (by assumption)).mono ?_;rintro e wq ⟨rfl,qq,rfl⟩) |(go_at_call 255;refine (qM (n:=(Pro.zj L len (n+1)).n+1) (by exact (zb X).drewN _) hL (by omega) hF).mono ?_;rintro e wq ⟨xq,hT⟩;obtain rfl:=zX hT hk2;clear hT;have X:=zc xq;have k0:=xq.r.k0;have c1:=xq.t.c1;have f1:=xq.t.f1;have k1:=xq.r.k1;have k2:=xq.r.k2;have q1:=xq.r.f1;have q2:=xq.r.f2) |(go_at_call 113;refine (y9 (n:=(Pro.zj L len ((Pro.zj L len (n+1)).n+1)).n) _ (by exact (zb X).set2 _) hL (by omega) (by decide) (by assumption)).mono ?_;rintro e wq ⟨rfl,qq,rfl⟩) |(go_at_call 64;refine (zaO (n:=(Pro.zj L len ((Pro.zj L len (n+1)).n+1)).n) (by exact ((zb X).set2 _).drewN _) hL (by omega)).mono ?_;rintro e wq ⟨v,rfl,hv,xq⟩;have X:=zc xq;have k0:=xq.r.k0;have c1:=xq.t.c1;have f1:=xq.t.f1;have k1:=xq.r.k1;have k2:=xq.r.k2;have q1:=xq.r.f1;have q2:=xq.r.f2))
       go_ret
       rw [zb HO]
       exact ⟨Rp.t (n:=(Pro.zj L len ((Pro.zj L len (n+1)).n+1)).n) (zb X),.inr ⟨(show (3:Nat)≠0 by decide),v,rfl,hv⟩⟩
     ·have HO:Hid (Pro.zJ L len n=((Pro.zj L len ((Pro.zj L len (n+1)).n+1)),0)):=by unfold Pro.zJ;simp only [];rw [if_neg (by simp [hk]),if_neg h1,if_neg (by simp [h2]),if_neg h3,if_pos hk2];rfl
      clear h1 h2 h3
      go_enter Tryz.func224,Tryz.ntmps224
      go_wp2_with (first |(go_at_call 114;refine (yE (n:=n) (Rp.t (by exact zb X)) hL (by omega)).mono ?_;rintro e wq ⟨rfl,qq,rfl⟩) |(go_at_call 255;refine (qM (n:=n+1) (by exact ((zb X).drewN _).setN _ _ (by omega)) hL (by omega) hF).mono ?_;rintro e wq ⟨xq,hT⟩;obtain rfl:=zX hT hk;clear hT;have X:=zc xq;have k0:=xq.r.k0;have c1:=xq.t.c1;have f1:=xq.t.f1;have k1:=xq.r.k1;have k2:=xq.r.k2;have q1:=xq.r.f1;have q2:=xq.r.f2) |(go_at_call 113;refine (y9 (n:=(Pro.zj L len (n+1)).n) _ (by first |exact ((zb X).set1 _).set2 _ |exact (((zb X).set1 _).set2 _).drewN _) hL (by omega) (by decide) (by assumption)).mono ?_;rintro e wq ⟨rfl,qq,rfl⟩) |(go_at_call 113;refine (jN (n:=(Pro.zj L len (n+1)).n) _ (by exact (((zb X).set1 _).set2 _).drewN _) hL (by omega) (by decide) (by assumption)).mono ?_;rintro e wq ⟨rfl,xq⟩;have xq:Rp _ _ b L (((Pro.zj L len (n+1)).n)+1) len dp a _ _ _ wq:=xq;have X:=zc xq;have k0:=xq.r.k0;have c1:=xq.t.c1;have f1:=xq.t.f1;have k1:=xq.r.k1;have k2:=xq.r.k2;have q1:=xq.r.f1;have q2:=xq.r.f2) |(go_at_call 113;refine (y9 (n:=(Pro.zj L len (n+1)).n+1) _ (by exact zb X) hL (by omega) (by decide) (by assumption)).mono ?_;rintro e wq ⟨rfl,qq,rfl⟩) |(go_at_call 255;refine (qM (n:=(Pro.zj L len (n+1)).n+1) (by exact (zb X).drewN _) hL (by omega) hF).mono ?_;rintro e wq ⟨xq,hT⟩;obtain ⟨v,rfl,hv⟩:=qz hT hk2;obtain ⟨gv,hgv⟩:=hv.form;subst hgv;clear hT;have X:=zc xq;have k0:=xq.r.k0;have c1:=xq.t.c1;have f1:=xq.t.f1;have k1:=xq.r.k1;have k2:=xq.r.k2;have q1:=xq.r.f1;have q2:=xq.r.f2))
      go_ret
      rw [zb HO]
      exact ⟨((zb X).set2 _).t,.inr ⟨hk2,_,rfl,hv.keep ((ze.refl (fun g=>g=rb) _).setCell (p:=⟨rb,2,none⟩) (.inl rfl) _) (fun g hg e=>by omega)⟩⟩
   ·have m2:Pro.zr L (Pro.zj L len (n+1)).n { data:=#[44] }=false:=by rw [Pro.zp L _ 44 44 rfl];simp [h2]
    have HO:Hid (Pro.zJ L len n=(Pro.bad 3 (Pro.zC L len (Pro.zj L len (n+1)).n) (Pro.zj L len (n+1)).n,0)):=by unfold Pro.zJ;simp only [];rw [if_neg (by simp [hk]),if_neg h1,if_pos h2];rfl
    clear h1 h2
    go_enter Tryz.func224,Tryz.ntmps224
    go_wp2_with (first |(go_at_call 114;refine (yE (n:=n) (Rp.t (by exact zb X)) hL (by omega)).mono ?_;rintro e wq ⟨rfl,qq,rfl⟩) |(go_at_call 255;refine (qM (n:=n+1) (by exact ((zb X).drewN _).setN _ _ (by omega)) hL (by omega) hF).mono ?_;rintro e wq ⟨xq,hT⟩;obtain rfl:=zX hT hk;clear hT;have X:=zc xq;have k0:=xq.r.k0;have c1:=xq.t.c1;have f1:=xq.t.f1;have k1:=xq.r.k1;have k2:=xq.r.k2;have q1:=xq.r.f1;have q2:=xq.r.f2) |(go_at_call 113;refine (y9 (n:=(Pro.zj L len (n+1)).n) _ (by first |exact ((zb X).set1 _).set2 _ |exact (((zb X).set1 _).set2 _).drewN _) hL (by omega) (by decide) (by assumption)).mono ?_;rintro e wq ⟨rfl,qq,rfl⟩) |(go_at_call 64;refine (zaO (n:=(Pro.zj L len (n+1)).n) (by exact (((zb X).set1 _).set2 _).drewN _) hL (by omega)).mono ?_;rintro e wq ⟨v,rfl,hv,xq⟩;have X:=zc xq;have k0:=xq.r.k0;have c1:=xq.t.c1;have f1:=xq.t.f1;have k1:=xq.r.k1;have k2:=xq.r.k2;have q1:=xq.r.f1;have q2:=xq.r.f2))
    go_ret
    rw [zb HO]
    exact ⟨Rp.t (n:=(Pro.zj L len (n+1)).n) (zb X),.inr ⟨(show (3:Nat)≠0 by decide),v,rfl,hv⟩⟩
 ·have HO:Hid (Pro.zJ L len n=((Pro.zj L len (n+1)),0)):=by unfold Pro.zJ;simp only [];rw [if_pos hk];rfl
  go_enter Tryz.func224,Tryz.ntmps224
  go_wp2_with (first |(go_at_call 114;refine (yE (n:=n) (Rp.t (by exact zb X)) hL (by omega)).mono ?_;rintro e wq ⟨rfl,qq,rfl⟩) |(go_at_call 255;refine (qM (n:=n+1) (by exact ((zb X).drewN _).setN _ _ (by omega)) hL (by omega) hF).mono ?_;rintro e wq ⟨xq,hT⟩;obtain ⟨v,rfl,hv⟩:=qz hT hk;obtain ⟨gv,hgv⟩:=hv.form;subst hgv;clear hT;have X:=zc xq;have k0:=xq.r.k0;have c1:=xq.t.c1;have f1:=xq.t.f1;have k1:=xq.r.k1;have k2:=xq.r.k2;have q1:=xq.r.f1;have q2:=xq.r.f2))
  go_ret
  rw [zb HO]
  exact ⟨(zb X).t,.inr ⟨hk,_,rfl,hv⟩⟩
namespace Pro
def zu (L:List (Int×Int))(len:Int)(n:Nat):Bool×Out×Int:=
 if zf L n=42 then (true,good 0 (n+1),-1)
 else if zf L n=43 then (true,good 1 (n+1),-1)
 else if zf L n=63 then (true,good 0 (n+1),1)
 else if zf L n=123 then (true,zJ L len n)
 else (false,good 0 n,0)
def jR (L:List (Int×Int))(n:Nat):Nat:=if zf L n=63 then n+1 else n
end Pro
def Quants (b:Nat)(L:List (Int×Int))(len dp:Int)(a:Nat→Addr)(w:World)(p:Value)(o:Bool×Pro.Out×Int)(x:Ending)(w':World):Prop:=
 ze (zt b) w w'∧((o.1=false∧x = .returned (.tuple #[p,.nilIface])∧zR w' b L o.2.1.n len dp)∨
  (o.1=true∧o.2.1.k=0∧x = .returned (.tuple #[.iface 256 (.agg #[p,.int .i64 o.2.1.v,.int .i64 o.2.2]),.nilIface])∧zR w' b L (Pro.jR L o.2.1.n) len dp)∨
  (o.1=true∧o.2.1.k≠0∧zR w' b L o.2.1.n len dp∧∃ v,x = .returned (.tuple #[.nilIface,v])∧zI w' w.heap.size v (zN a o.2.1.k) o.2.1.p))
theorem Kv {rb:Nat}{w0:World}{b:Nat}{L:List (Int×Int)}{n:Nat}{len dp:Int}{a:Nat→Addr}{p:Value}{l m:Int}{w:World}(h:Rp rb w0 b L n len dp a p l m w)(hL:L.length≤400)(hn:n≤1000) :
  Calls Tryz.prog 113 #[.pointer (some ⟨b,0,none⟩),.string { data:=#[63] }] w fun x w'=>∃ q,x = .returned (.bool q)∧Rp rb w0 b L (Pro.jR L n) len dp a p l m w':=
 (VD b L n len dp { data:=#[63] } w h.t.rd hL hn (by decide)).mono (by
  rintro e w1 ⟨rfl,h1,h2⟩
  refine ⟨_,rfl,h.mine h2 ?_⟩
  have:Pro.behind L n { data:=#[63] }=Pro.jR L n:=by
   unfold Pro.jR
   by_cases h63:Pro.zf L n=63
   ·rw [if_pos h63];exact Pro.ZC (by rw [Pro.zp L n 63 63 rfl];simp [h63])
   ·rw [if_neg h63];exact Pro.YS (by rw [Pro.zp L n 63 63 rfl];simp [h63])
  rw [this] at h1
  exact h1)
theorem Rp.start {b:Nat}{L:List (Int×Int)}{n:Nat}{len dp:Int}{a:Nat→Addr}{w:World}(p:Value)(h:zR w b L n len dp)(hS:zW w a)(hb:11≤b):Rp w.heap.size (w.alloc (.cells #[p,.int .i64 0,.int .i64 0] 256)) b L n len dp a p 0 0 (w.alloc (.cells #[p,.int .i64 0,.int .i64 0] 256)):=
 have t:=(Trk.start h hS hb).calm ((ze.refl _ _).alloc (.cells #[p,.int .i64 0,.int .i64 0] 256))
 ⟨⟨t.rd,t.se,ze.refl _ _,t.hb,h.lt,by simp⟩,⟨zm w _ rfl _ _ 0 _ rfl,zm w _ rfl _ _ 1 _ rfl,zm w _ rfl _ _ 2 _ rfl,zG w _ rfl _ _ 1,zG w _ rfl _ _ 2⟩⟩
namespace Pro
theorem Qy {L:List (Int×Int)}{len:Int}(n:Nat)(h:n<L.length):n≤(zJ L len n).1.n∧(zJ L len n).1.n≤L.length:=by
 have ha:=qV (L:=L) (len:=len) (n+1) (by omega)
 unfold zJ
 simp only []
 split
 ·simp only [];omega
 split
 ·have:=zq (L:=L) (n:=(zj L len (n+1)).n) (by omega)
  simp only [good];omega
 split
 ·simp only [bad];omega
 rename_i h44
 have h1:=zq (L:=L) (n:=(zj L len (n+1)).n) (by omega)
 split
 ·have:=zq (L:=L) (n:=(zj L len (n+1)).n+1) (by omega)
  simp only [good];omega
 have hm:=qV (L:=L) (len:=len) ((zj L len (n+1)).n+1) (by omega)
 split
 ·simp only [];omega
 split
 ·simp only [bad];omega
 rename_i h125
 have h2:=zq (L:=L) (n:=(zj L len ((zj L len (n+1)).n+1)).n) (by omega)
 split
 ·simp only [bad];omega
 ·simp only [good];omega
end Pro
theorem Qz (b:Nat)(L:List (Int×Int))(n:Nat)(len dp:Int)(a:Nat→Addr)(w:World)(TT:TypeId)(px:Value)(h:zR w b L n len dp)(hS:zW w a)(hb:11≤b)(hL:L.length≤400)(hn:n≤L.length)(hF:Pro.Fit L) :
  Calls Tryz.prog 188 #[.pointer (some ⟨b,0,none⟩),.iface TT px] w (Quants b L len dp a w (.iface TT px) (Pro.zu L len n)):=by
 have X0:=zc (Rp.start (.iface TT px) h hS hb)
 clear h hS
 by_cases h42:Pro.zf L n=42
 ·have m42:Pro.zr L n { data:=#[42] }=true:=by rw [Pro.zp L n 42 42 rfl];simp [h42]
  have HO:Hid (Pro.zu L len n=(true,Pro.good 0 (n+1),-1)):=by unfold Pro.zu;rw [if_pos h42];rfl
  clear h42
  go_enter Tryz.func188,Tryz.ntmps188
  go_wp2_with fail
  have HW:Hid (ze (zt b) w (w.alloc (.cells #[.iface TT px,.int .i64 0,.int .i64 0] 256))):=(ze.refl _ _).alloc _
  have hsz:w.heap.size<(w.alloc (.cells #[.iface TT px,.int .i64 0,.int .i64 0] 256)).heap.size:=by simp
  have X:=zb X0
  generalize w.alloc (.cells #[.iface TT px,.int .i64 0,.int .i64 0] 256)=W at *
  have hrb:w.heap.size≤w.heap.size:=Nat.le_refl _
  generalize hrbe:w.heap.size=rb at *
  have c1:=X.t.c1
  have f1:=X.t.f1
  have k0:=X.r.k0
  have k1:=X.r.k1
  have k2:=X.r.k2
  have q1:=X.r.f1
  have q2:=X.r.f2
  have X:=zc X
  clear X0
  go_wp2_with (first |(go_at_call 113;refine (jN (n:=n) _ (by exact zb X) hL (by omega) (by decide) (by assumption)).mono ?_;rintro e wq ⟨rfl,xq⟩;have xq:Rp _ _ b L ((n)+1) len dp a _ _ _ wq:=xq;have X:=zc xq;have k0:=xq.r.k0;have c1:=xq.t.c1;have f1:=xq.t.f1;have k1:=xq.r.k1;have k2:=xq.r.k2;have q1:=xq.r.f1;have q2:=xq.r.f2) |(go_at_call 113;refine (Kv (n:=n+1) (by exact (zb X).set2 _) hL (by omega)).mono ?_;rintro e wq ⟨lz,rfl,xq⟩;have X:=zc xq;have k0:=xq.r.k0;have c1:=xq.t.c1;have f1:=xq.t.f1;have k1:=xq.r.k1;have k2:=xq.r.k2;have q1:=xq.r.f1;have q2:=xq.r.f2))
  go_ret2
  rw [zb HO]
  exact ⟨Own.back (zb HW) (zb X).t.on (by omega),.inr (.inl ⟨rfl,rfl,rfl,(zb X).t.rd⟩)⟩
 ·have m42:Pro.zr L n { data:=#[42] }=false:=by rw [Pro.zp L n 42 42 rfl];simp [h42]
  by_cases h43:Pro.zf L n=43
  ·have m43:Pro.zr L n { data:=#[43] }=true:=by rw [Pro.zp L n 43 43 rfl];simp [h43]
   have HO:Hid (Pro.zu L len n=(true,Pro.good 1 (n+1),-1)):=by unfold Pro.zu;rw [if_neg h42,if_pos h43];rfl
   clear h42 h43
   go_enter Tryz.func188,Tryz.ntmps188
   go_wp2_with fail
   have HW:Hid (ze (zt b) w (w.alloc (.cells #[.iface TT px,.int .i64 0,.int .i64 0] 256))):=(ze.refl _ _).alloc _
   have hsz:w.heap.size<(w.alloc (.cells #[.iface TT px,.int .i64 0,.int .i64 0] 256)).heap.size:=by simp
   have X:=zb X0
   generalize w.alloc (.cells #[.iface TT px,.int .i64 0,.int .i64 0] 256)=W at *
   have hrb:w.heap.size≤w.heap.size:=Nat.le_refl _
   generalize hrbe:w.heap.size=rb at *
   have c1:=X.t.c1
   have f1:=X.t.f1
   have k0:=X.r.k0
   have k1:=X.r.k1
   have k2:=X.r.k2
   have q1:=X.r.f1
   have q2:=X.r.f2
   have X:=zc X
   clear X0
   go_wp2_with (first |(go_at_call 113;refine (y9 (n:=n) _ (by first |exact zb X |exact (zb X).drewN _) hL (by omega) (by decide) (by assumption)).mono ?_;rintro e wq ⟨rfl,qq,rfl⟩) |(go_at_call 113;refine (jN (n:=n) _ (by exact (zb X).drewN _) hL (by omega) (by decide) (by assumption)).mono ?_;rintro e wq ⟨rfl,xq⟩;have xq:Rp _ _ b L ((n)+1) len dp a _ _ _ wq:=xq;have X:=zc xq;have k0:=xq.r.k0;have c1:=xq.t.c1;have f1:=xq.t.f1;have k1:=xq.r.k1;have k2:=xq.r.k2;have q1:=xq.r.f1;have q2:=xq.r.f2) |(go_at_call 113;refine (Kv (n:=n+1) (by exact ((zb X).set1 _).set2 _) hL (by omega)).mono ?_;rintro e wq ⟨lz,rfl,xq⟩;have X:=zc xq;have k0:=xq.r.k0;have c1:=xq.t.c1;have f1:=xq.t.f1;have k1:=xq.r.k1;have k2:=xq.r.k2;have q1:=xq.r.f1;have q2:=xq.r.f2))
   go_ret2
   rw [zb HO]
   exact ⟨Own.back (zb HW) (zb X).t.on (by omega),.inr (.inl ⟨rfl,rfl,rfl,(zb X).t.rd⟩)⟩
  ·have m43:Pro.zr L n { data:=#[43] }=false:=by rw [Pro.zp L n 43 43 rfl];simp [h43]
   by_cases h63:Pro.zf L n=63
   ·have m63:Pro.zr L n { data:=#[63] }=true:=by rw [Pro.zp L n 63 63 rfl];simp [h63]
    have HO:Hid (Pro.zu L len n=(true,Pro.good 0 (n+1),1)):=by unfold Pro.zu;rw [if_neg h42,if_neg h43,if_pos h63];rfl
    clear h42 h43 h63
    go_enter Tryz.func188,Tryz.ntmps188
    go_wp2_with fail
    have HW:Hid (ze (zt b) w (w.alloc (.cells #[.iface TT px,.int .i64 0,.int .i64 0] 256))):=(ze.refl _ _).alloc _
    have hsz:w.heap.size<(w.alloc (.cells #[.iface TT px,.int .i64 0,.int .i64 0] 256)).heap.size:=by simp
    have X:=zb X0
    generalize w.alloc (.cells #[.iface TT px,.int .i64 0,.int .i64 0] 256)=W at *
    have hrb:w.heap.size≤w.heap.size:=Nat.le_refl _
    generalize hrbe:w.heap.size=rb at *
    have c1:=X.t.c1
    have f1:=X.t.f1
    have k0:=X.r.k0
    have k1:=X.r.k1
    have k2:=X.r.k2
    have q1:=X.r.f1
    have q2:=X.r.f2
    have X:=zc X
    clear X0
    go_wp2_with (first |(go_at_call 113;refine (y9 (n:=n) _ (by first |exact zb X |exact (zb X).drewN _) hL (by omega) (by decide) (by assumption)).mono ?_;rintro e wq ⟨rfl,qq,rfl⟩) |(go_at_call 113;refine (jN (n:=n) _ (by exact (zb X).drewN _) hL (by omega) (by decide) (by assumption)).mono ?_;rintro e wq ⟨rfl,xq⟩;have xq:Rp _ _ b L ((n)+1) len dp a _ _ _ wq:=xq;have X:=zc xq;have k0:=xq.r.k0;have c1:=xq.t.c1;have f1:=xq.t.f1;have k1:=xq.r.k1;have k2:=xq.r.k2;have q1:=xq.r.f1;have q2:=xq.r.f2) |(go_at_call 113;refine (Kv (n:=n+1) (by exact (zb X).set2 _) hL (by omega)).mono ?_;rintro e wq ⟨lz,rfl,xq⟩;have X:=zc xq;have k0:=xq.r.k0;have c1:=xq.t.c1;have f1:=xq.t.f1;have k1:=xq.r.k1;have k2:=xq.r.k2;have q1:=xq.r.f1;have q2:=xq.r.f2))
    go_ret2
    rw [zb HO]
    exact ⟨Own.back (zb HW) (zb X).t.on (by omega),.inr (.inl ⟨rfl,rfl,rfl,(zb X).t.rd⟩)⟩
   ·have m63:Pro.zr L n { data:=#[63] }=false:=by rw [Pro.zp L n 63 63 rfl];simp [h63]
    by_cases h123:Pro.zf L n=123
    ·have hlt:n<L.length:=Pro.zq (by omega)
     have h123':(Pro.zf L n == 123)=true:=by simp [h123]
     have HO:Hid (Pro.zu L len n=(true,Pro.zJ L len n)):=by unfold Pro.zu;rw [if_neg h42,if_neg h43,if_neg h63,if_pos h123];rfl
     clear h42 h43 h63 h123
     have hcb:=Pro.Qy (len:=len) n hlt
     by_cases hk:(Pro.zJ L len n).1.k=0
     ·skip
      go_enter Tryz.func188,Tryz.ntmps188
      go_wp2_with fail
      have HW:Hid (ze (zt b) w (w.alloc (.cells #[.iface TT px,.int .i64 0,.int .i64 0] 256))):=(ze.refl _ _).alloc _
      have hsz:w.heap.size<(w.alloc (.cells #[.iface TT px,.int .i64 0,.int .i64 0] 256)).heap.size:=by simp
      have X:=zb X0
      generalize w.alloc (.cells #[.iface TT px,.int .i64 0,.int .i64 0] 256)=W at *
      have hrb:w.heap.size≤w.heap.size:=Nat.le_refl _
      generalize hrbe:w.heap.size=rb at *
      have c1:=X.t.c1
      have f1:=X.t.f1
      have k0:=X.r.k0
      have k1:=X.r.k1
      have k2:=X.r.k2
      have q1:=X.r.f1
      have q2:=X.r.f2
      have X:=zc X
      clear X0
      go_wp2_with (first |(go_at_call 113;refine (y9 (n:=n) _ (by first |exact zb X |exact (zb X).drewN _) hL (by omega) (by decide) (by assumption)).mono ?_;rintro e wq ⟨rfl,qq,rfl⟩) |(go_at_call 157;refine (yH (n:=n) (Rp.t (by exact (zb X).drewN _)) hL (by omega)).mono ?_;rintro e wq ⟨rfl,hwq⟩;obtain rfl:=hwq.symm;clear hwq) |(go_at_call 224;refine (Xn rb W b L n len dp a (.iface TT px) 0 0 _ (by exact (zb X).drewN _) hL hlt hF hsz).mono ?_;rintro e wc ⟨tq,hT⟩;obtain ⟨rfl,hr⟩:=wF hT hk;clear hT;have xq:Rp rb W b L _ len dp a _ _ _ wc:=⟨tq,hr⟩;have X:=zc xq;have k0:=xq.r.k0;have c1:=xq.t.c1;have f1:=xq.t.f1;have k1:=xq.r.k1;have k2:=xq.r.k2;have q1:=xq.r.f1;have q2:=xq.r.f2) |(go_at_call 113;refine (Kv (n:=(Pro.zJ L len n).1.n) (by exact zb X) hL (by omega)).mono ?_;rintro e wq ⟨lz,rfl,xq⟩;have X:=zc xq;have k0:=xq.r.k0;have c1:=xq.t.c1;have f1:=xq.t.f1;have k1:=xq.r.k1;have k2:=xq.r.k2;have q1:=xq.r.f1;have q2:=xq.r.f2))
      go_ret2
      rw [zb HO]
      exact ⟨Own.back (zb HW) (zb X).t.on (by omega),.inr (.inl ⟨rfl,hk,rfl,(zb X).t.rd⟩)⟩
     ·skip
      go_enter Tryz.func188,Tryz.ntmps188
      go_wp2_with fail
      have HW:Hid (ze (zt b) w (w.alloc (.cells #[.iface TT px,.int .i64 0,.int .i64 0] 256))):=(ze.refl _ _).alloc _
      have hsz:w.heap.size<(w.alloc (.cells #[.iface TT px,.int .i64 0,.int .i64 0] 256)).heap.size:=by simp
      have X:=zb X0
      generalize w.alloc (.cells #[.iface TT px,.int .i64 0,.int .i64 0] 256)=W at *
      have hrb:w.heap.size≤w.heap.size:=Nat.le_refl _
      generalize hrbe:w.heap.size=rb at *
      have c1:=X.t.c1
      have f1:=X.t.f1
      have k0:=X.r.k0
      have k1:=X.r.k1
      have k2:=X.r.k2
      have q1:=X.r.f1
      have q2:=X.r.f2
      have X:=zc X
      clear X0
      go_wp2_with (first |(go_at_call 113;refine (y9 (n:=n) _ (by first |exact zb X |exact (zb X).drewN _) hL (by omega) (by decide) (by assumption)).mono ?_;rintro e wq ⟨rfl,qq,rfl⟩) |(go_at_call 157;refine (yH (n:=n) (Rp.t (by exact (zb X).drewN _)) hL (by omega)).mono ?_;rintro e wq ⟨rfl,hwq⟩;obtain rfl:=hwq.symm;clear hwq) |(go_at_call 224;refine (Xn rb W b L n len dp a (.iface TT px) 0 0 _ (by exact (zb X).drewN _) hL hlt hF hsz).mono ?_;rintro e wc ⟨tq,hT⟩;obtain ⟨v,rfl,hv⟩:=Ku hT hk;clear hT;obtain ⟨gv,hgv⟩:=hv.form;subst hgv;have T:=zc tq))
      go_ret2
      rw [zb HO]
      exact ⟨Own.back (zb HW) (zb T).on (by omega),.inr (.inr ⟨rfl,hk,(zb T).rd,_,rfl,hv.base (by omega)⟩)⟩
    ·have h123':(Pro.zf L n == 123)=false:=by simp [h123]
     have HO:Hid (Pro.zu L len n=(false,Pro.good 0 n,0)):=by unfold Pro.zu;rw [if_neg h42,if_neg h43,if_neg h63,if_neg h123];rfl
     clear h42 h43 h63 h123
     go_enter Tryz.func188,Tryz.ntmps188
     go_wp2_with fail
     have HW:Hid (ze (zt b) w (w.alloc (.cells #[.iface TT px,.int .i64 0,.int .i64 0] 256))):=(ze.refl _ _).alloc _
     have hsz:w.heap.size<(w.alloc (.cells #[.iface TT px,.int .i64 0,.int .i64 0] 256)).heap.size:=by simp
     have X:=zb X0
     generalize w.alloc (.cells #[.iface TT px,.int .i64 0,.int .i64 0] 256)=W at *
     have hrb:w.heap.size≤w.heap.size:=Nat.le_refl _
     generalize hrbe:w.heap.size=rb at *
     have c1:=X.t.c1
     have f1:=X.t.f1
     have k0:=X.r.k0
     have k1:=X.r.k1
     have k2:=X.r.k2
     have q1:=X.r.f1
     have q2:=X.r.f2
     have X:=zc X
     clear X0
     go_wp2_with (first |(go_at_call 113;refine (y9 (n:=n) _ (by first |exact zb X |exact (zb X).drewN _) hL (by omega) (by decide) (by assumption)).mono ?_;rintro e wq ⟨rfl,qq,rfl⟩) |(go_at_call 157;refine (yH (n:=n) (Rp.t (by exact (zb X).drewN _)) hL (by omega)).mono ?_;rintro e wq ⟨rfl,hwq⟩;obtain rfl:=hwq.symm;clear hwq))
     go_ret2
     rw [zb HO]
     exact ⟨Own.back (zb HW) ((zb X).drewN _).t.on (by omega),.inl ⟨rfl,rfl,((zb X).drewN _).t.rd⟩⟩
end
end Go.Proofs.YtcgleficedipkaaGreatDoor
