/- The program's classes. -/
import Derived.Test.YtnagphodmfejiaaGreatDoorX8
namespace Go.Proofs.YtnagphodmfejiaaGreatDoor
section
open Go.RowKit
theorem ZR {o:Pro.Out}{B:Prop}{D:Value→Prop}{x:Ending}(h:(o.k=0∧x = .returned .nilIface∧B)∨(o.k≠0∧∃ v,x = .returned v∧D v))(hk:o.k=0):x = .returned .nilIface∧B:=by
 rcases h with ⟨_,h⟩ |⟨h,_⟩
 ·exact h
 ·exact absurd hk h
theorem Vl {o:Pro.Out}{B:Prop}{D:Value→Prop}{x:Ending}(h:(o.k=0∧x = .returned .nilIface∧B)∨(o.k≠0∧∃ v,x = .returned v∧D v))(hk:o.k≠0):∃ v,x = .returned v∧D v:=by
 rcases h with ⟨h,_⟩ |⟨_,h⟩
 ·exact absurd h hk
 ·exact h
theorem Own.back {b cb:Nat}{w W w':World}(h1:zf (zm b) w W)(h2:zf (Own b cb) W w')(hc:w.heap.size≤cb):zf (zm b) w w':=
 ⟨h2.os.trans h1.os,h2.tape.trans h1.tape,h2.output.trans h1.output,Nat.le_trans h1.size h2.size,fun k hk hn=>(h2.block k (Nat.lt_of_lt_of_le hk h1.size) (fun e=>by
  rcases e with e |e
  ·exact hn e
  ·omega)).trans (h1.block k hk hn)⟩
set_option maxHeartbeats 2000000
namespace Pro
theorem countL_go {L:List (Int×Int)}{f n:Nat}{c:Int}(h:dig (zi L n)=true):countL L (f+1) c n=countL L f (min (c*10+(zi L n-48)) 101) (n+1):=by simp only [countL];rw [if_pos h]
theorem countL_stop {L:List (Int×Int)}{f n:Nat}{c:Int}(h:dig (zi L n)=false):countL L (f+1) c n=(c,n):=by simp only [countL];rw [if_neg (by simp [h])]
theorem dig_in {L:List (Int×Int)}{n:Nat}(h:dig (zi L n)=true):n<L.length:=zE (by unfold dig at h;simp at h;omega)
theorem KE (L:List (Int×Int)):∀ (f:Nat) (c:Int) (n:Nat),n≤L.length→0≤c→c≤101→n≤(countL L f c n).2∧(countL L f c n).2≤L.length∧0≤(countL L f c n).1∧(countL L f c n).1≤101
 |0,c,n,h,h0,h1=>by simp only [countL];omega
 |f+1,c,n,h,h0,h1=>by
  cases hd:dig (zi L n)
  ·rw [countL_stop hd];simp only [];omega
  ·rw [countL_go hd]
   have:=dig_in hd
   have hb:48≤zi L n:=by unfold dig at hd;simp at hd;omega
   have:=KE L f (min (c*10+(zi L n-48)) 101) (n+1) (by omega) (by omega) (by omega)
   omega
theorem jJ {L:List (Int×Int)}{len:Int}(n:Nat)(h:n≤L.length):n≤(zq L len n).n∧(zq L len n).n≤L.length∧0≤(zq L len n).v∧(zq L len n).v≤100:=by
 have:=KE L (L.length+1-n) 0 n h (by omega) (by omega)
 unfold zq countP
 split
 ·simp only [bad];omega
 ·split
  ·simp only [bad];omega
  ·simp only [good];omega
end Pro
theorem zbf (b:Nat)(L:List (Int×Int))(n:Nat)(len dp:Int)(a:Nat→Addr)(w:World)(h:yd w b L n len dp)(hS:ym w a)(hb:10≤b)(hL:L.length≤400)(hn:n≤L.length)(_hF:Pro.Fit L) :
  Calls Tryz.prog 246 #[.pointer (some ⟨b,0,none⟩)] w (xp b L len dp a w (Pro.zq L len n) (.int .i64 (Pro.zq L len n).v) (.int .i64 0)):=by
 have T:=ze (Trk.start h hS hb)
 clear h hS
 cases hd:Pro.dig (Pro.zi L n)
 ·have HO:Hid (Pro.zq L len n=Pro.bad 3 (Pro.zC L len n) n):=by unfold Pro.zq;rw [if_pos hd];rfl
  have hd':(decide (48≤Pro.zi L n) && decide (Pro.zi L n≤57))=false:=hd
  go_enter Tryz.func246,Tryz.ntmps246
  go_wp2_with (first |(go_at_call 103;refine (yV (n:=n) (by exact zb T) hL (by omega)).mono ?_;rintro e wq ⟨rfl,qq,rfl⟩) |(go_at_call 147;refine (yX (n:=n) (by exact (zb T).drewN _) hL (by omega)).mono ?_;rintro e wq ⟨rfl,hwq⟩;obtain rfl:=hwq.symm;clear hwq) |(go_at_call 274;refine (xA _ _).mono ?_;rintro e wq ⟨rfl,hwq⟩;obtain rfl:=hwq.symm;clear hwq);(rw [hd']) |(go_at_call 55;refine (Xq (n:=n) (by exact (zb T).drewN _) hL (by omega)).mono ?_;rintro e wq ⟨v,rfl,hv,tq⟩;have T:=ze tq;have c1:=tq.c1;have f1:=tq.f1))
  go_ret2
  exact (zb T).bad (zb HO) (by decide) hv
 ·have hd':(decide (48≤Pro.zi L n) && decide (Pro.zi L n≤57))=true:=hd
  go_enter Tryz.func246,Tryz.ntmps246
  go_wp2_with (first |(go_at_call 103;refine (yV (n:=n) (by exact zb T) hL (by omega)).mono ?_;rintro e wq ⟨rfl,qq,rfl⟩) |(go_at_call 147;refine (yX (n:=n) (by exact (zb T).drewN _) hL (by omega)).mono ?_;rintro e wq ⟨rfl,hwq⟩;obtain rfl:=hwq.symm;clear hwq) |(go_at_call 274;refine (xA _ _).mono ?_;rintro e wq ⟨rfl,hwq⟩;obtain rfl:=hwq.symm;clear hwq);(rw [hd']))
  have T1:=ze ((zb T).drewN qq)
  generalize w.drewN qq=w1 at *
  go_loopw [5] (fun c wr=>∃ (q:Int) (m:Nat),c = .int .i64 q∧0≤q∧q≤101∧m≤L.length∧Hid (Trk w.heap.size w b L m len dp a wr)∧Hid (Pro.countP L n=Pro.countL L (L.length+1-m) q m)) (fun _ wr=>L.length-rdN wr b)
  case atStart=>exact ⟨0,n,rfl,by omega,by omega,hn,T1,rfl⟩
  case round=>
   obtain ⟨q,m,rfl,hq0,hq1,hm,T,HF⟩:=hrel
   have hrd:=(zb T).rdN
   have hfu:Hid (L.length+1-m=(L.length-m)+1):=by show _=_;omega
   cases he:Pro.dig (Pro.zi L m)
   ·have he':(decide (48≤Pro.zi L m) && decide (Pro.zi L m≤57))=false:=he
    have HG:Hid (Pro.countP L n=(q,m)):=by rw [zb HF,zb hfu];exact Pro.countL_stop he
    by_cases hbig:100<q
    ·have HO:Hid (Pro.zq L len n=Pro.bad 5 (Pro.zC L len n) m):=by unfold Pro.zq;rw [if_neg (by simp [hd]),zb HG,if_pos hbig];rfl
     have hs5:=(zb T).se.s5
     go_wp2_with (first |(go_at_call 147;refine (yX (n:=m) (by exact zb T) hL (by omega)).mono ?_;rintro e wq ⟨rfl,hwq⟩;obtain rfl:=hwq.symm;clear hwq) |(go_at_call 274;refine (xA _ _).mono ?_;rintro e wq ⟨rfl,hwq⟩;obtain rfl:=hwq.symm;clear hwq);(rw [he']) |(go_at_call 56;refine (Qh (n:=m) _ 5 _ _ rfl (by exact zb T)).mono ?_;rintro e wq ⟨v,rfl,hv,tq⟩;have T:=ze tq;have c1:=tq.c1;have f1:=tq.f1))
     go_ret2
     exact (zb T).bad (zb HO) (by decide) hv
    ·have HO:Hid (Pro.zq L len n=Pro.good q m):=by unfold Pro.zq;rw [if_neg (by simp [hd]),zb HG,if_neg hbig];rfl
     go_wp2_with (first |(go_at_call 147;refine (yX (n:=m) (by exact zb T) hL (by omega)).mono ?_;rintro e wq ⟨rfl,hwq⟩;obtain rfl:=hwq.symm;clear hwq) |(go_at_call 274;refine (xA _ _).mono ?_;rintro e wq ⟨rfl,hwq⟩;obtain rfl:=hwq.symm;clear hwq);(rw [he']))
     go_ret2
     exact (zb T).good (zb HO) (by rw [zb HO];rfl)
   ·have he':(decide (48≤Pro.zi L m) && decide (Pro.zi L m≤57))=true:=he
    have hml:=Pro.dig_in he
    have HG:Hid (Pro.countP L n=Pro.countL L (L.length+1-(m+1)) (min (q*10+(Pro.zi L m-48)) 101) (m+1)):=by rw [zb HF,show L.length+1-m=(L.length+1-(m+1))+1 by omega];exact Pro.countL_go he
    have hlo:48≤Pro.zi L m∧Pro.zi L m≤57:=by simpa using he'
    have c1:=(zb T).c1
    have f1:=(zb T).f1
    go_wp2_with (first |(go_at_call 147;refine (yX (n:=m) (by exact zb T) hL (by omega)).mono ?_;rintro e wq ⟨rfl,hwq⟩;obtain rfl:=hwq.symm;clear hwq) |(go_at_call 274;refine (xA _ _).mono ?_;rintro e wq ⟨rfl,hwq⟩;obtain rfl:=hwq.symm;clear hwq);(rw [he']))
    have T2:=(zb T).setN (m+1) ((m:Int)+1) (by omega)
    refine ⟨⟨min (q*10+(Pro.zi L m-48)) 101,m+1,?_,by omega,by omega,by omega,ze T2,HG⟩,by rw [T2.rdN,hrd];omega⟩
    rw [show (if 101<q*10+(Pro.zi L m-48) then (101:Int) else q*10+(Pro.zi L m-48))=min (q*10+(Pro.zi L m-48)) 101 by split<;>omega]
structure wl (w:World)(rb:Nat)(p:Value)(l m:Int):Prop where
 k0:w.cell? ⟨rb,0,none⟩=some p
 k1:w.cell? ⟨rb,1,none⟩=some (.int .i64 l)
 k2:w.cell? ⟨rb,2,none⟩=some (.int .i64 m)
 f1:w.frozen? ⟨rb,1,none⟩=false
 f2:w.frozen? ⟨rb,2,none⟩=false
theorem wl.lt {w:World}{rb:Nat}{p:Value}{l m:Int}(h:wl w rb p l m):rb<w.heap.size:=World.block_lt_of_cell? w ⟨rb,0,none⟩ h.k0
theorem wl.keep {P:Nat→Prop}{w w':World}{rb:Nat}{p:Value}{l m:Int}(h:wl w rb p l m)(k:zf P w w')(hn:¬P rb):wl w' rb p l m:=
 ⟨(k.cell (p:=⟨rb,0,none⟩) h.lt hn).trans h.k0,(k.cell (p:=⟨rb,1,none⟩) h.lt hn).trans h.k1,(k.cell (p:=⟨rb,2,none⟩) h.lt hn).trans h.k2,(k.frozen (p:=⟨rb,1,none⟩) h.lt hn).trans h.f1,(k.frozen (p:=⟨rb,2,none⟩) h.lt hn).trans h.f2⟩
theorem wl.set1 {w:World}{rb:Nat}{p:Value}{l m:Int}(h:wl w rb p l m)(x:Int):wl (w.setCell ⟨rb,1,none⟩ (.int .i64 x)) rb p x m:=
 ⟨(World.cell?_setCell_other _ _ _ _ (by simp)).trans h.k0,World.cell?_setCell_same _ _ _ h.k1,(World.cell?_setCell_other _ _ _ _ (by simp)).trans h.k2,(zj _ _ _ _).trans h.f1,(zj _ _ _ _).trans h.f2⟩
theorem wl.set2 {w:World}{rb:Nat}{p:Value}{l m:Int}(h:wl w rb p l m)(x:Int):wl (w.setCell ⟨rb,2,none⟩ (.int .i64 x)) rb p l x:=
 ⟨(World.cell?_setCell_other _ _ _ _ (by simp)).trans h.k0,(World.cell?_setCell_other _ _ _ _ (by simp)).trans h.k1,World.cell?_setCell_same _ _ _ h.k2,(zj _ _ _ _).trans h.f1,(zj _ _ _ _).trans h.f2⟩
structure Rp (rb:Nat)(w0:World)(b:Nat)(L:List (Int×Int))(n:Nat)(len dp:Int)(a:Nat→Addr)(p:Value)(l m:Int)(w:World):Prop where
 t:Trk rb w0 b L n len dp a w
 r:wl w rb p l m
section
variable {rb:Nat} {w0:World} {b:Nat} {L:List (Int×Int)} {n:Nat} {len dp:Int} {a:Nat→Addr} {p:Value} {l m:Int} {w w':World}
theorem Rp.drewN (h:Rp rb w0 b L n len dp a p l m w)(q:Nat):Rp rb w0 b L n len dp a p l m (w.drewN q):=⟨h.t.drewN q,h.r.keep ((zf.refl (fun _=>False) w).drewN q) (fun f=>f)⟩
theorem Rp.mine {n':Nat}(h:Rp rb w0 b L n len dp a p l m w)(k:zf (zm b) w w')(hr:yd w' b L n' len dp):Rp rb w0 b L n' len dp a p l m w':=⟨h.t.mine k hr,h.r.keep k (fun e=>by have:=h.t.lt;unfold zm at e;omega)⟩
theorem Rp.calm (h:Rp rb w0 b L n len dp a p l m w)(k:zf (fun _=>False) w w'):Rp rb w0 b L n len dp a p l m w':=⟨h.t.calm k,h.r.keep k (fun f=>f)⟩
theorem Rp.setN (h:Rp rb w0 b L n len dp a p l m w)(i:Nat)(j:Int)(hj:j=(i:Int)):Rp rb w0 b L i len dp a p l m (w.setCell ⟨b,1,none⟩ (.int .i64 j)):=h.mine ((zf.refl _ _).mine _ _) (h.t.rd.setN i j hj)
theorem Rp.set1 (h:Rp rb w0 b L n len dp a p l m w)(x:Int):Rp rb w0 b L n len dp a p x m (w.setCell ⟨rb,1,none⟩ (.int .i64 x)):=⟨h.t.push ((zf.refl _ _).setCell (p:=⟨rb,1,none⟩) (.inl (Nat.le_refl _)) _),h.r.set1 x⟩
theorem Rp.set2 (h:Rp rb w0 b L n len dp a p l m w)(x:Int):Rp rb w0 b L n len dp a p l x (w.setCell ⟨rb,2,none⟩ (.int .i64 x)):=⟨h.t.push ((zf.refl _ _).setCell (p:=⟨rb,2,none⟩) (.inl (Nat.le_refl _)) _),h.r.set2 x⟩
theorem xG (word:ByteArray)(h:Rp rb w0 b L n len dp a p l m w)(hL:L.length≤400)(hn:n≤1000)(hw:word.size≤10)(hm:Pro.zA L n word=false) :
  Calls Tryz.prog 102 #[.pointer (some ⟨b,0,none⟩),.string word] w fun x w'=>x = .returned (.bool false)∧∃ q,w'=w.drewN q:=qi b L n len dp word w h.t.rd hL hn hw hm
theorem kI (word:ByteArray)(h:Rp rb w0 b L n len dp a p l m w)(hL:L.length≤400)(hn:n≤1000)(hw:word.size≤10)(hm:Pro.zA L n word=true) :
  Calls Tryz.prog 102 #[.pointer (some ⟨b,0,none⟩),.string word] w fun x w'=>x = .returned (.bool true)∧Rp rb w0 b L (n+word.size) len dp a p l m w':=
 (xi b L n len dp word w h.t.rd hL hn hw hm).mono (by rintro e w1 ⟨rfl,h1,h2⟩;exact ⟨rfl,h.mine h2 h1⟩)
theorem zb1 (h:Rp rb w0 b L n len dp a p l m w)(hL:L.length≤400)(hn:n≤L.length) :
  Calls Tryz.prog 55 #[.pointer (some ⟨b,0,none⟩)] w fun x w'=>∃ v,x = .returned v∧zR w' w0.heap.size v (zY a 3) (Pro.zC L len n)∧Rp rb w0 b L n len dp a p l m w':=
 (kA b L n len dp a w h.t.rd h.t.se hL hn).mono (by rintro e w1 ⟨v,rfl,hv,hO⟩;exact ⟨v,rfl,hv.base h.t.on.size,h.calm hO⟩)
theorem new_r (T:TypeId)(k:Nat)(q:Int)(x:Value)(hx : .iface T x=zY a k)(h:Rp rb w0 b L n len dp a p l m w) :
  Calls Tryz.prog 56 #[.iface T x,.int .i64 q] w fun e w'=>∃ v,e = .returned v∧zR w' w0.heap.size v (zY a k) q∧Rp rb w0 b L n len dp a p l m w':=
 (Yc T x q w).mono (by rintro e w1 ⟨v,rfl,hv,hO⟩;rw [hx] at hv;exact ⟨v,rfl,hv.base h.t.on.size,h.calm hO⟩)
theorem jw (h:Rp rb w0 b L n len dp a p l m w)(hL:L.length≤400)(hn:n≤L.length)(hF:Pro.Fit L) :
  Calls Tryz.prog 246 #[.pointer (some ⟨b,0,none⟩)] w fun x w'=>Rp rb w0 b L (Pro.zq L len n).n len dp a p l m w'∧(((Pro.zq L len n).k=0∧x = .returned (.tuple #[.int .i64 (Pro.zq L len n).v,.nilIface]))∨((Pro.zq L len n).k≠0∧∃ v,x = .returned (.tuple #[.int .i64 0,v])∧zR w' w0.heap.size v (zY a (Pro.zq L len n).k) (Pro.zq L len n).p)):=
 (zbf b L n len dp a w h.t.rd h.t.se h.t.hb hL hn hF).mono (by
  rintro x w1 ⟨hO,hR,hT⟩
  refine ⟨h.mine hO hR,?_⟩
  rcases hT with hT |⟨hk,v,hx,hv⟩
  ·exact .inl hT
  ·exact .inr ⟨hk,v,hx,hv.base h.t.on.size⟩)
end
def Counts (rb:Nat)(w0:World)(b:Nat)(L:List (Int×Int))(len dp:Int)(a:Nat→Addr)(p:Value)(o:Pro.Out×Int)(x:Ending)(w':World):Prop:=
 Trk rb w0 b L o.1.n len dp a w'∧((o.1.k=0∧x = .returned .nilIface∧wl w' rb p o.1.v o.2)∨(o.1.k≠0∧∃ v,x = .returned v∧zR w' w0.heap.size v (zY a o.1.k) o.1.p))
set_option maxHeartbeats 4000000
set_option maxRecDepth 1000000
theorem Qi (rb:Nat)(w0:World)(b:Nat)(L:List (Int×Int))(n:Nat)(len dp:Int)(a:Nat→Addr)(p:Value)(l m:Int)(w:World)(h:Rp rb w0 b L n len dp a p l m w)(hL:L.length≤400)(hn:n<L.length)(hF:Pro.Fit L)(hrb:rb<w0.heap.size) :
  Calls Tryz.prog 219 #[.pointer (some ⟨b,0,none⟩),.pointer (some ⟨rb,0,none⟩)] w (Counts rb w0 b L len dp a p (Pro.zW L len n)):=by
 have X:=ze h
 have c1:=h.t.c1
 have f1:=h.t.f1
 have hs4:=h.t.se.s4
 clear h
 have hA:=Pro.jJ (L:=L) (len:=len) (n+1) (by omega)
 by_cases hk:(Pro.zq L len (n+1)).k=0
 ·by_cases h1:Pro.zi L (Pro.zq L len (n+1)).n=125
  ·have m1:Pro.zA L (Pro.zq L len (n+1)).n { data:=#[125] }=true:=by rw [Pro.zu L _ 125 125 rfl];simp [h1]
   have HO:Hid (Pro.zW L len n=(Pro.good (Pro.zq L len (n+1)).v ((Pro.zq L len (n+1)).n+1),(Pro.zq L len (n+1)).v)):=by unfold Pro.zW;simp only [];rw [if_neg (by simp [hk]),if_pos h1];rfl
   clear h1
   go_enter Tryz.func219,Tryz.ntmps219
   go_wp2_with (first |(go_at_call 103;refine (yV (n:=n) (Rp.t (by exact zb X)) hL (by omega)).mono ?_;rintro e wq ⟨rfl,qq,rfl⟩) |(go_at_call 246;refine (jw (n:=n+1) (by exact ((zb X).drewN _).setN _ _ (by omega)) hL (by omega) hF).mono ?_;rintro e wq ⟨xq,hT⟩;obtain rfl:=yq hT hk;clear hT;have X:=ze xq;have k0:=xq.r.k0;have c1:=xq.t.c1;have f1:=xq.t.f1;have k1:=xq.r.k1;have k2:=xq.r.k2;have q1:=xq.r.f1;have q2:=xq.r.f2) |(go_at_call 102;refine (kI (n:=(Pro.zq L len (n+1)).n) _ (by exact ((zb X).set1 _).set2 _) hL (by omega) (by decide) (by assumption)).mono ?_;rintro e wq ⟨rfl,xq⟩;have xq:Rp _ _ b L (((Pro.zq L len (n+1)).n)+1) len dp a _ _ _ wq:=xq;have X:=ze xq;have k0:=xq.r.k0;have c1:=xq.t.c1;have f1:=xq.t.f1;have k1:=xq.r.k1;have k2:=xq.r.k2;have q1:=xq.r.f1;have q2:=xq.r.f2))
   go_ret
   rw [zb HO]
   exact ⟨Rp.t (n:=(Pro.zq L len (n+1)).n+1) (by exact zb X),.inl ⟨rfl,rfl,Rp.r (n:=(Pro.zq L len (n+1)).n+1) (by exact zb X)⟩⟩
  ·have m1:Pro.zA L (Pro.zq L len (n+1)).n { data:=#[125] }=false:=by rw [Pro.zu L _ 125 125 rfl];simp [h1]
   by_cases h2:Pro.zi L (Pro.zq L len (n+1)).n=44
   ·have m2:Pro.zA L (Pro.zq L len (n+1)).n { data:=#[44] }=true:=by rw [Pro.zu L _ 44 44 rfl];simp [h2]
    have hlt:(Pro.zq L len (n+1)).n<L.length:=Pro.zE (by omega)
    by_cases h3:Pro.zi L ((Pro.zq L len (n+1)).n+1)=125
    ·have m3:Pro.zA L ((Pro.zq L len (n+1)).n+1) { data:=#[125] }=true:=by rw [Pro.zu L _ 125 125 rfl];simp [h3]
     have HO:Hid (Pro.zW L len n=(Pro.good (Pro.zq L len (n+1)).v ((Pro.zq L len (n+1)).n+2),-1)):=by unfold Pro.zW;simp only [];rw [if_neg (by simp [hk]),if_neg h1,if_neg (by simp [h2]),if_pos h3];rfl
     clear h1 h2 h3
     go_enter Tryz.func219,Tryz.ntmps219
     go_wp2_with (first |(go_at_call 103;refine (yV (n:=n) (Rp.t (by exact zb X)) hL (by omega)).mono ?_;rintro e wq ⟨rfl,qq,rfl⟩) |(go_at_call 246;refine (jw (n:=n+1) (by exact ((zb X).drewN _).setN _ _ (by omega)) hL (by omega) hF).mono ?_;rintro e wq ⟨xq,hT⟩;obtain rfl:=yq hT hk;clear hT;have X:=ze xq;have k0:=xq.r.k0;have c1:=xq.t.c1;have f1:=xq.t.f1;have k1:=xq.r.k1;have k2:=xq.r.k2;have q1:=xq.r.f1;have q2:=xq.r.f2) |(go_at_call 102;refine (xG (n:=(Pro.zq L len (n+1)).n) _ (by first |exact ((zb X).set1 _).set2 _ |exact (((zb X).set1 _).set2 _).drewN _) hL (by omega) (by decide) (by assumption)).mono ?_;rintro e wq ⟨rfl,qq,rfl⟩) |(go_at_call 102;refine (kI (n:=(Pro.zq L len (n+1)).n) _ (by exact (((zb X).set1 _).set2 _).drewN _) hL (by omega) (by decide) (by assumption)).mono ?_;rintro e wq ⟨rfl,xq⟩;have xq:Rp _ _ b L (((Pro.zq L len (n+1)).n)+1) len dp a _ _ _ wq:=xq;have X:=ze xq;have k0:=xq.r.k0;have c1:=xq.t.c1;have f1:=xq.t.f1;have k1:=xq.r.k1;have k2:=xq.r.k2;have q1:=xq.r.f1;have q2:=xq.r.f2) |(go_at_call 102;refine (kI (n:=(Pro.zq L len (n+1)).n+1) _ (by exact zb X) hL (by omega) (by decide) (by assumption)).mono ?_;rintro e wq ⟨rfl,xq⟩;have xq:Rp _ _ b L (((Pro.zq L len (n+1)).n+1)+1) len dp a _ _ _ wq:=xq;have X:=ze xq;have k0:=xq.r.k0;have c1:=xq.t.c1;have f1:=xq.t.f1;have k1:=xq.r.k1;have k2:=xq.r.k2;have q1:=xq.r.f1;have q2:=xq.r.f2))
     go_ret
     rw [zb HO]
     exact ⟨Rp.t (n:=(Pro.zq L len (n+1)).n+2) (by exact (zb X).set2 _),.inl ⟨rfl,rfl,Rp.r (n:=(Pro.zq L len (n+1)).n+2) (by exact (zb X).set2 _)⟩⟩
    ·have m3:Pro.zA L ((Pro.zq L len (n+1)).n+1) { data:=#[125] }=false:=by rw [Pro.zu L _ 125 125 rfl];simp [h3]
     have hM:=Pro.jJ (L:=L) (len:=len) ((Pro.zq L len (n+1)).n+1) (by omega)
     by_cases hk2:(Pro.zq L len ((Pro.zq L len (n+1)).n+1)).k=0
     ·by_cases h4:Pro.zi L (Pro.zq L len ((Pro.zq L len (n+1)).n+1)).n=125
      ·have m4:Pro.zA L (Pro.zq L len ((Pro.zq L len (n+1)).n+1)).n { data:=#[125] }=true:=by rw [Pro.zu L _ 125 125 rfl];simp [h4]
       by_cases h5:(Pro.zq L len ((Pro.zq L len (n+1)).n+1)).v<(Pro.zq L len (n+1)).v
       ·have HO:Hid (Pro.zW L len n=(Pro.bad 4 (Pro.zC L len n) ((Pro.zq L len ((Pro.zq L len (n+1)).n+1)).n+1),0)):=by unfold Pro.zW;simp only [];rw [if_neg (by simp [hk]),if_neg h1,if_neg (by simp [h2]),if_neg h3,if_neg (by simp [hk2]),if_neg (by simp [h4]),if_pos h5];rfl
        clear h1 h2 h3 h4
        go_enter Tryz.func219,Tryz.ntmps219
        go_wp2_with (first |(go_at_call 103;refine (yV (n:=n) (Rp.t (by exact zb X)) hL (by omega)).mono ?_;rintro e wq ⟨rfl,qq,rfl⟩) |(go_at_call 246;refine (jw (n:=n+1) (by exact ((zb X).drewN _).setN _ _ (by omega)) hL (by omega) hF).mono ?_;rintro e wq ⟨xq,hT⟩;obtain rfl:=yq hT hk;clear hT;have X:=ze xq;have k0:=xq.r.k0;have c1:=xq.t.c1;have f1:=xq.t.f1;have k1:=xq.r.k1;have k2:=xq.r.k2;have q1:=xq.r.f1;have q2:=xq.r.f2) |(go_at_call 102;refine (xG (n:=(Pro.zq L len (n+1)).n) _ (by first |exact ((zb X).set1 _).set2 _ |exact (((zb X).set1 _).set2 _).drewN _) hL (by omega) (by decide) (by assumption)).mono ?_;rintro e wq ⟨rfl,qq,rfl⟩) |(go_at_call 102;refine (kI (n:=(Pro.zq L len (n+1)).n) _ (by exact (((zb X).set1 _).set2 _).drewN _) hL (by omega) (by decide) (by assumption)).mono ?_;rintro e wq ⟨rfl,xq⟩;have xq:Rp _ _ b L (((Pro.zq L len (n+1)).n)+1) len dp a _ _ _ wq:=xq;have X:=ze xq;have k0:=xq.r.k0;have c1:=xq.t.c1;have f1:=xq.t.f1;have k1:=xq.r.k1;have k2:=xq.r.k2;have q1:=xq.r.f1;have q2:=xq.r.f2);(have hs4:=(zb X).t.se.s4) |(go_at_call 102;refine (xG (n:=(Pro.zq L len (n+1)).n+1) _ (by exact zb X) hL (by omega) (by decide) (by assumption)).mono ?_;rintro e wq ⟨rfl,qq,rfl⟩) |(go_at_call 246;refine (jw (n:=(Pro.zq L len (n+1)).n+1) (by exact (zb X).drewN _) hL (by omega) hF).mono ?_;rintro e wq ⟨xq,hT⟩;obtain rfl:=yq hT hk2;clear hT;have X:=ze xq;have k0:=xq.r.k0;have c1:=xq.t.c1;have f1:=xq.t.f1;have k1:=xq.r.k1;have k2:=xq.r.k2;have q1:=xq.r.f1;have q2:=xq.r.f2);(have hs4:=(zb X).t.se.s4) |(go_at_call 102;refine (kI (n:=(Pro.zq L len ((Pro.zq L len (n+1)).n+1)).n) _ (by exact (zb X).set2 _) hL (by omega) (by decide) (by assumption)).mono ?_;rintro e wq ⟨rfl,xq⟩;have xq:Rp _ _ b L (((Pro.zq L len ((Pro.zq L len (n+1)).n+1)).n)+1) len dp a _ _ _ wq:=xq;have X:=ze xq;have k0:=xq.r.k0;have c1:=xq.t.c1;have f1:=xq.t.f1;have k1:=xq.r.k1;have k2:=xq.r.k2;have q1:=xq.r.f1;have q2:=xq.r.f2);(have hs4:=(zb X).t.se.s4) |(go_at_call 56;refine (new_r (n:=(Pro.zq L len ((Pro.zq L len (n+1)).n+1)).n+1) _ 4 _ _ rfl (by exact zb X)).mono ?_;rintro e wq ⟨v,rfl,hv,xq⟩;have X:=ze xq;have k0:=xq.r.k0;have c1:=xq.t.c1;have f1:=xq.t.f1;have k1:=xq.r.k1;have k2:=xq.r.k2;have q1:=xq.r.f1;have q2:=xq.r.f2))
        go_ret
        rw [zb HO]
        exact ⟨Rp.t (n:=(Pro.zq L len ((Pro.zq L len (n+1)).n+1)).n+1) (zb X),.inr ⟨(show (4:Nat)≠0 by decide),v,rfl,hv⟩⟩
       ·have HO:Hid (Pro.zW L len n=(Pro.good (Pro.zq L len (n+1)).v ((Pro.zq L len ((Pro.zq L len (n+1)).n+1)).n+1),(Pro.zq L len ((Pro.zq L len (n+1)).n+1)).v)):=by unfold Pro.zW;simp only [];rw [if_neg (by simp [hk]),if_neg h1,if_neg (by simp [h2]),if_neg h3,if_neg (by simp [hk2]),if_neg (by simp [h4]),if_neg h5];rfl
        clear h1 h2 h3 h4
        go_enter Tryz.func219,Tryz.ntmps219
        go_wp2_with (first |(go_at_call 103;refine (yV (n:=n) (Rp.t (by exact zb X)) hL (by omega)).mono ?_;rintro e wq ⟨rfl,qq,rfl⟩) |(go_at_call 246;refine (jw (n:=n+1) (by exact ((zb X).drewN _).setN _ _ (by omega)) hL (by omega) hF).mono ?_;rintro e wq ⟨xq,hT⟩;obtain rfl:=yq hT hk;clear hT;have X:=ze xq;have k0:=xq.r.k0;have c1:=xq.t.c1;have f1:=xq.t.f1;have k1:=xq.r.k1;have k2:=xq.r.k2;have q1:=xq.r.f1;have q2:=xq.r.f2) |(go_at_call 102;refine (xG (n:=(Pro.zq L len (n+1)).n) _ (by first |exact ((zb X).set1 _).set2 _ |exact (((zb X).set1 _).set2 _).drewN _) hL (by omega) (by decide) (by assumption)).mono ?_;rintro e wq ⟨rfl,qq,rfl⟩) |(go_at_call 102;refine (kI (n:=(Pro.zq L len (n+1)).n) _ (by exact (((zb X).set1 _).set2 _).drewN _) hL (by omega) (by decide) (by assumption)).mono ?_;rintro e wq ⟨rfl,xq⟩;have xq:Rp _ _ b L (((Pro.zq L len (n+1)).n)+1) len dp a _ _ _ wq:=xq;have X:=ze xq;have k0:=xq.r.k0;have c1:=xq.t.c1;have f1:=xq.t.f1;have k1:=xq.r.k1;have k2:=xq.r.k2;have q1:=xq.r.f1;have q2:=xq.r.f2) |(go_at_call 102;refine (xG (n:=(Pro.zq L len (n+1)).n+1) _ (by exact zb X) hL (by omega) (by decide) (by assumption)).mono ?_;rintro e wq ⟨rfl,qq,rfl⟩) |(go_at_call 246;refine (jw (n:=(Pro.zq L len (n+1)).n+1) (by exact (zb X).drewN _) hL (by omega) hF).mono ?_;rintro e wq ⟨xq,hT⟩;obtain rfl:=yq hT hk2;clear hT;have X:=ze xq;have k0:=xq.r.k0;have c1:=xq.t.c1;have f1:=xq.t.f1;have k1:=xq.r.k1;have k2:=xq.r.k2;have q1:=xq.r.f1;have q2:=xq.r.f2) |(go_at_call 102;refine (kI (n:=(Pro.zq L len ((Pro.zq L len (n+1)).n+1)).n) _ (by exact (zb X).set2 _) hL (by omega) (by decide) (by assumption)).mono ?_;rintro e wq ⟨rfl,xq⟩;have xq:Rp _ _ b L (((Pro.zq L len ((Pro.zq L len (n+1)).n+1)).n)+1) len dp a _ _ _ wq:=xq;have X:=ze xq;have k0:=xq.r.k0;have c1:=xq.t.c1;have f1:=xq.t.f1;have k1:=xq.r.k1;have k2:=xq.r.k2;have q1:=xq.r.f1;have q2:=xq.r.f2))
        go_ret
        rw [zb HO]
        exact ⟨Rp.t (n:=(Pro.zq L len ((Pro.zq L len (n+1)).n+1)).n+1) (by exact zb X),.inl ⟨rfl,rfl,Rp.r (n:=(Pro.zq L len ((Pro.zq L len (n+1)).n+1)).n+1) (by exact zb X)⟩⟩
      ·have m4:Pro.zA L (Pro.zq L len ((Pro.zq L len (n+1)).n+1)).n { data:=#[125] }=false:=by rw [Pro.zu L _ 125 125 rfl];simp [h4]
       have HO:Hid (Pro.zW L len n=(Pro.bad 3 (Pro.zC L len (Pro.zq L len ((Pro.zq L len (n+1)).n+1)).n) (Pro.zq L len ((Pro.zq L len (n+1)).n+1)).n,0)):=by unfold Pro.zW;simp only [];rw [if_neg (by simp [hk]),if_neg h1,if_neg (by simp [h2]),if_neg h3,if_neg (by simp [hk2]),if_pos h4];rfl
       clear h1 h2 h3 h4
       go_enter Tryz.func219,Tryz.ntmps219
       go_wp2_with (first |(go_at_call 103;refine (yV (n:=n) (Rp.t (by exact zb X)) hL (by omega)).mono ?_;rintro e wq ⟨rfl,qq,rfl⟩) |(go_at_call 246;refine (jw (n:=n+1) (by exact ((zb X).drewN _).setN _ _ (by omega)) hL (by omega) hF).mono ?_;rintro e wq ⟨xq,hT⟩;obtain rfl:=yq hT hk;clear hT;have X:=ze xq;have k0:=xq.r.k0;have c1:=xq.t.c1;have f1:=xq.t.f1;have k1:=xq.r.k1;have k2:=xq.r.k2;have q1:=xq.r.f1;have q2:=xq.r.f2) |(go_at_call 102;refine (xG (n:=(Pro.zq L len (n+1)).n) _ (by first |exact ((zb X).set1 _).set2 _ |exact (((zb X).set1 _).set2 _).drewN _) hL (by omega) (by decide) (by assumption)).mono ?_;rintro e wq ⟨rfl,qq,rfl⟩) |(go_at_call 102;refine (kI (n:=(Pro.zq L len (n+1)).n) _ (by exact (((zb X).set1 _).set2 _).drewN _) hL (by omega) (by decide) (by assumption)).mono ?_;rintro e wq ⟨rfl,xq⟩;have xq:Rp _ _ b L (((Pro.zq L len (n+1)).n)+1) len dp a _ _ _ wq:=xq;have X:=ze xq;have k0:=xq.r.k0;have c1:=xq.t.c1;have f1:=xq.t.f1;have k1:=xq.r.k1;have k2:=xq.r.k2;have q1:=xq.r.f1;have q2:=xq.r.f2) |(go_at_call 102;refine (xG (n:=(Pro.zq L len (n+1)).n+1) _ (by exact zb X) hL (by omega) (by decide) (by assumption)).mono ?_;rintro e wq ⟨rfl,qq,rfl⟩) |(go_at_call 246;refine (jw (n:=(Pro.zq L len (n+1)).n+1) (by exact (zb X).drewN _) hL (by omega) hF).mono ?_;rintro e wq ⟨xq,hT⟩;obtain rfl:=yq hT hk2;clear hT;have X:=ze xq;have k0:=xq.r.k0;have c1:=xq.t.c1;have f1:=xq.t.f1;have k1:=xq.r.k1;have k2:=xq.r.k2;have q1:=xq.r.f1;have q2:=xq.r.f2) |(go_at_call 102;refine (xG (n:=(Pro.zq L len ((Pro.zq L len (n+1)).n+1)).n) _ (by exact (zb X).set2 _) hL (by omega) (by decide) (by assumption)).mono ?_;rintro e wq ⟨rfl,qq,rfl⟩) |(go_at_call 55;refine (zb1 (n:=(Pro.zq L len ((Pro.zq L len (n+1)).n+1)).n) (by exact ((zb X).set2 _).drewN _) hL (by omega)).mono ?_;rintro e wq ⟨v,rfl,hv,xq⟩;have X:=ze xq;have k0:=xq.r.k0;have c1:=xq.t.c1;have f1:=xq.t.f1;have k1:=xq.r.k1;have k2:=xq.r.k2;have q1:=xq.r.f1;have q2:=xq.r.f2))
       go_ret
       rw [zb HO]
       exact ⟨Rp.t (n:=(Pro.zq L len ((Pro.zq L len (n+1)).n+1)).n) (zb X),.inr ⟨(show (3:Nat)≠0 by decide),v,rfl,hv⟩⟩
     ·have HO:Hid (Pro.zW L len n=((Pro.zq L len ((Pro.zq L len (n+1)).n+1)),0)):=by unfold Pro.zW;simp only [];rw [if_neg (by simp [hk]),if_neg h1,if_neg (by simp [h2]),if_neg h3,if_pos hk2];rfl
      clear h1 h2 h3
      go_enter Tryz.func219,Tryz.ntmps219
      go_wp2_with (first |(go_at_call 103;refine (yV (n:=n) (Rp.t (by exact zb X)) hL (by omega)).mono ?_;rintro e wq ⟨rfl,qq,rfl⟩) |(go_at_call 246;refine (jw (n:=n+1) (by exact ((zb X).drewN _).setN _ _ (by omega)) hL (by omega) hF).mono ?_;rintro e wq ⟨xq,hT⟩;obtain rfl:=yq hT hk;clear hT;have X:=ze xq;have k0:=xq.r.k0;have c1:=xq.t.c1;have f1:=xq.t.f1;have k1:=xq.r.k1;have k2:=xq.r.k2;have q1:=xq.r.f1;have q2:=xq.r.f2) |(go_at_call 102;refine (xG (n:=(Pro.zq L len (n+1)).n) _ (by first |exact ((zb X).set1 _).set2 _ |exact (((zb X).set1 _).set2 _).drewN _) hL (by omega) (by decide) (by assumption)).mono ?_;rintro e wq ⟨rfl,qq,rfl⟩) |(go_at_call 102;refine (kI (n:=(Pro.zq L len (n+1)).n) _ (by exact (((zb X).set1 _).set2 _).drewN _) hL (by omega) (by decide) (by assumption)).mono ?_;rintro e wq ⟨rfl,xq⟩;have xq:Rp _ _ b L (((Pro.zq L len (n+1)).n)+1) len dp a _ _ _ wq:=xq;have X:=ze xq;have k0:=xq.r.k0;have c1:=xq.t.c1;have f1:=xq.t.f1;have k1:=xq.r.k1;have k2:=xq.r.k2;have q1:=xq.r.f1;have q2:=xq.r.f2) |(go_at_call 102;refine (xG (n:=(Pro.zq L len (n+1)).n+1) _ (by exact zb X) hL (by omega) (by decide) (by assumption)).mono ?_;rintro e wq ⟨rfl,qq,rfl⟩) |(go_at_call 246;refine (jw (n:=(Pro.zq L len (n+1)).n+1) (by exact (zb X).drewN _) hL (by omega) hF).mono ?_;rintro e wq ⟨xq,hT⟩;obtain ⟨v,rfl,hv⟩:=jf hT hk2;obtain ⟨gv,hgv⟩:=hv.form;subst hgv;clear hT;have X:=ze xq;have k0:=xq.r.k0;have c1:=xq.t.c1;have f1:=xq.t.f1;have k1:=xq.r.k1;have k2:=xq.r.k2;have q1:=xq.r.f1;have q2:=xq.r.f2))
      go_ret
      rw [zb HO]
      exact ⟨((zb X).set2 _).t,.inr ⟨hk2,_,rfl,hv.keep ((zf.refl (fun g=>g=rb) _).setCell (p:=⟨rb,2,none⟩) (.inl rfl) _) (fun g hg e=>by omega)⟩⟩
   ·have m2:Pro.zA L (Pro.zq L len (n+1)).n { data:=#[44] }=false:=by rw [Pro.zu L _ 44 44 rfl];simp [h2]
    have HO:Hid (Pro.zW L len n=(Pro.bad 3 (Pro.zC L len (Pro.zq L len (n+1)).n) (Pro.zq L len (n+1)).n,0)):=by unfold Pro.zW;simp only [];rw [if_neg (by simp [hk]),if_neg h1,if_pos h2];rfl
    clear h1 h2
    go_enter Tryz.func219,Tryz.ntmps219
    go_wp2_with (first |(go_at_call 103;refine (yV (n:=n) (Rp.t (by exact zb X)) hL (by omega)).mono ?_;rintro e wq ⟨rfl,qq,rfl⟩) |(go_at_call 246;refine (jw (n:=n+1) (by exact ((zb X).drewN _).setN _ _ (by omega)) hL (by omega) hF).mono ?_;rintro e wq ⟨xq,hT⟩;obtain rfl:=yq hT hk;clear hT;have X:=ze xq;have k0:=xq.r.k0;have c1:=xq.t.c1;have f1:=xq.t.f1;have k1:=xq.r.k1;have k2:=xq.r.k2;have q1:=xq.r.f1;have q2:=xq.r.f2) |(go_at_call 102;refine (xG (n:=(Pro.zq L len (n+1)).n) _ (by first |exact ((zb X).set1 _).set2 _ |exact (((zb X).set1 _).set2 _).drewN _) hL (by omega) (by decide) (by assumption)).mono ?_;rintro e wq ⟨rfl,qq,rfl⟩) |(go_at_call 55;refine (zb1 (n:=(Pro.zq L len (n+1)).n) (by exact (((zb X).set1 _).set2 _).drewN _) hL (by omega)).mono ?_;rintro e wq ⟨v,rfl,hv,xq⟩;have X:=ze xq;have k0:=xq.r.k0;have c1:=xq.t.c1;have f1:=xq.t.f1;have k1:=xq.r.k1;have k2:=xq.r.k2;have q1:=xq.r.f1;have q2:=xq.r.f2))
    go_ret
    rw [zb HO]
    exact ⟨Rp.t (n:=(Pro.zq L len (n+1)).n) (zb X),.inr ⟨(show (3:Nat)≠0 by decide),v,rfl,hv⟩⟩
 ·have HO:Hid (Pro.zW L len n=((Pro.zq L len (n+1)),0)):=by unfold Pro.zW;simp only [];rw [if_pos hk];rfl
  go_enter Tryz.func219,Tryz.ntmps219
  go_wp2_with (first |(go_at_call 103;refine (yV (n:=n) (Rp.t (by exact zb X)) hL (by omega)).mono ?_;rintro e wq ⟨rfl,qq,rfl⟩) |(go_at_call 246;refine (jw (n:=n+1) (by exact ((zb X).drewN _).setN _ _ (by omega)) hL (by omega) hF).mono ?_;rintro e wq ⟨xq,hT⟩;obtain ⟨v,rfl,hv⟩:=jf hT hk;obtain ⟨gv,hgv⟩:=hv.form;subst hgv;clear hT;have X:=ze xq;have k0:=xq.r.k0;have c1:=xq.t.c1;have f1:=xq.t.f1;have k1:=xq.r.k1;have k2:=xq.r.k2;have q1:=xq.r.f1;have q2:=xq.r.f2))
  go_ret
  rw [zb HO]
  exact ⟨(zb X).t,.inr ⟨hk,_,rfl,hv⟩⟩
namespace Pro
def zz (L:List (Int×Int))(len:Int)(n:Nat):Bool×Out×Int:=
 if zi L n=42 then (true,good 0 (n+1),-1)
 else if zi L n=43 then (true,good 1 (n+1),-1)
 else if zi L n=63 then (true,good 0 (n+1),1)
 else if zi L n=123 then (true,zW L len n)
 else (false,good 0 n,0)
def vI (L:List (Int×Int))(n:Nat):Nat:=if zi L n=63 then n+1 else n
end Pro
def Quants (b:Nat)(L:List (Int×Int))(len dp:Int)(a:Nat→Addr)(w:World)(p:Value)(o:Bool×Pro.Out×Int)(x:Ending)(w':World):Prop:=
 zf (zm b) w w'∧((o.1=false∧x = .returned (.tuple #[p,.nilIface])∧yd w' b L o.2.1.n len dp)∨
  (o.1=true∧o.2.1.k=0∧x = .returned (.tuple #[.iface 254 (.agg #[p,.int .i64 o.2.1.v,.int .i64 o.2.2]),.nilIface])∧yd w' b L (Pro.vI L o.2.1.n) len dp)∨
  (o.1=true∧o.2.1.k≠0∧yd w' b L o.2.1.n len dp∧∃ v,x = .returned (.tuple #[.nilIface,v])∧zR w' w.heap.size v (zY a o.2.1.k) o.2.1.p))
theorem Vm {rb:Nat}{w0:World}{b:Nat}{L:List (Int×Int)}{n:Nat}{len dp:Int}{a:Nat→Addr}{p:Value}{l m:Int}{w:World}(h:Rp rb w0 b L n len dp a p l m w)(hL:L.length≤400)(hn:n≤1000) :
  Calls Tryz.prog 102 #[.pointer (some ⟨b,0,none⟩),.string { data:=#[63] }] w fun x w'=>∃ q,x = .returned (.bool q)∧Rp rb w0 b L (Pro.vI L n) len dp a p l m w':=
 (zac b L n len dp { data:=#[63] } w h.t.rd hL hn (by decide)).mono (by
  rintro e w1 ⟨rfl,h1,h2⟩
  refine ⟨_,rfl,h.mine h2 ?_⟩
  have:Pro.behind L n { data:=#[63] }=Pro.vI L n:=by
   unfold Pro.vI
   by_cases h63:Pro.zi L n=63
   ·rw [if_pos h63];exact Pro.YK (by rw [Pro.zu L n 63 63 rfl];simp [h63])
   ·rw [if_neg h63];exact Pro.XP (by rw [Pro.zu L n 63 63 rfl];simp [h63])
  rw [this] at h1
  exact h1)
theorem Rp.start {b:Nat}{L:List (Int×Int)}{n:Nat}{len dp:Int}{a:Nat→Addr}{w:World}(p:Value)(h:yd w b L n len dp)(hS:ym w a)(hb:10≤b):Rp w.heap.size (w.alloc (.cells #[p,.int .i64 0,.int .i64 0] 254)) b L n len dp a p 0 0 (w.alloc (.cells #[p,.int .i64 0,.int .i64 0] 254)):=
 have t:=(Trk.start h hS hb).calm ((zf.refl _ _).alloc (.cells #[p,.int .i64 0,.int .i64 0] 254))
 ⟨⟨t.rd,t.se,zf.refl _ _,t.hb,h.lt,by simp⟩,⟨zo w _ rfl _ _ 0 _ rfl,zo w _ rfl _ _ 1 _ rfl,zo w _ rfl _ _ 2 _ rfl,zv w _ rfl _ _ 1,zv w _ rfl _ _ 2⟩⟩
namespace Pro
theorem JE {L:List (Int×Int)}{len:Int}(n:Nat)(h:n<L.length):n≤(zW L len n).1.n∧(zW L len n).1.n≤L.length:=by
 have ha:=jJ (L:=L) (len:=len) (n+1) (by omega)
 unfold zW
 simp only []
 split
 ·simp only [];omega
 split
 ·have:=zE (L:=L) (n:=(zq L len (n+1)).n) (by omega)
  simp only [good];omega
 split
 ·simp only [bad];omega
 rename_i h44
 have h1:=zE (L:=L) (n:=(zq L len (n+1)).n) (by omega)
 split
 ·have:=zE (L:=L) (n:=(zq L len (n+1)).n+1) (by omega)
  simp only [good];omega
 have hm:=jJ (L:=L) (len:=len) ((zq L len (n+1)).n+1) (by omega)
 split
 ·simp only [];omega
 split
 ·simp only [bad];omega
 rename_i h125
 have h2:=zE (L:=L) (n:=(zq L len ((zq L len (n+1)).n+1)).n) (by omega)
 split
 ·simp only [bad];omega
 ·simp only [good];omega
end Pro
theorem JF (b:Nat)(L:List (Int×Int))(n:Nat)(len dp:Int)(a:Nat→Addr)(w:World)(TT:TypeId)(px:Value)(h:yd w b L n len dp)(hS:ym w a)(hb:10≤b)(hL:L.length≤400)(hn:n≤L.length)(hF:Pro.Fit L) :
  Calls Tryz.prog 184 #[.pointer (some ⟨b,0,none⟩),.iface TT px] w (Quants b L len dp a w (.iface TT px) (Pro.zz L len n)):=by
 have X0:=ze (Rp.start (.iface TT px) h hS hb)
 clear h hS
 by_cases h42:Pro.zi L n=42
 ·have m42:Pro.zA L n { data:=#[42] }=true:=by rw [Pro.zu L n 42 42 rfl];simp [h42]
  have HO:Hid (Pro.zz L len n=(true,Pro.good 0 (n+1),-1)):=by unfold Pro.zz;rw [if_pos h42];rfl
  clear h42
  go_enter Tryz.func184,Tryz.ntmps184
  go_wp2_with fail
  have HW:Hid (zf (zm b) w (w.alloc (.cells #[.iface TT px,.int .i64 0,.int .i64 0] 254))):=(zf.refl _ _).alloc _
  have hsz:w.heap.size<(w.alloc (.cells #[.iface TT px,.int .i64 0,.int .i64 0] 254)).heap.size:=by simp
  have X:=zb X0
  generalize w.alloc (.cells #[.iface TT px,.int .i64 0,.int .i64 0] 254)=W at *
  have hrb:w.heap.size≤w.heap.size:=Nat.le_refl _
  generalize hrbe:w.heap.size=rb at *
  have c1:=X.t.c1
  have f1:=X.t.f1
  have k0:=X.r.k0
  have k1:=X.r.k1
  have k2:=X.r.k2
  have q1:=X.r.f1
  have q2:=X.r.f2
  have X:=ze X
  clear X0
  go_wp2_with (first |(go_at_call 102;refine (kI (n:=n) _ (by exact zb X) hL (by omega) (by decide) (by assumption)).mono ?_;rintro e wq ⟨rfl,xq⟩;have xq:Rp _ _ b L ((n)+1) len dp a _ _ _ wq:=xq;have X:=ze xq;have k0:=xq.r.k0;have c1:=xq.t.c1;have f1:=xq.t.f1;have k1:=xq.r.k1;have k2:=xq.r.k2;have q1:=xq.r.f1;have q2:=xq.r.f2) |(go_at_call 102;refine (Vm (n:=n+1) (by exact (zb X).set2 _) hL (by omega)).mono ?_;rintro e wq ⟨lz,rfl,xq⟩;have X:=ze xq;have k0:=xq.r.k0;have c1:=xq.t.c1;have f1:=xq.t.f1;have k1:=xq.r.k1;have k2:=xq.r.k2;have q1:=xq.r.f1;have q2:=xq.r.f2))
  go_ret2
  rw [zb HO]
  exact ⟨Own.back (zb HW) (zb X).t.on (by omega),.inr (.inl ⟨rfl,rfl,rfl,(zb X).t.rd⟩)⟩
 ·have m42:Pro.zA L n { data:=#[42] }=false:=by rw [Pro.zu L n 42 42 rfl];simp [h42]
  by_cases h43:Pro.zi L n=43
  ·have m43:Pro.zA L n { data:=#[43] }=true:=by rw [Pro.zu L n 43 43 rfl];simp [h43]
   have HO:Hid (Pro.zz L len n=(true,Pro.good 1 (n+1),-1)):=by unfold Pro.zz;rw [if_neg h42,if_pos h43];rfl
   clear h42 h43
   go_enter Tryz.func184,Tryz.ntmps184
   go_wp2_with fail
   have HW:Hid (zf (zm b) w (w.alloc (.cells #[.iface TT px,.int .i64 0,.int .i64 0] 254))):=(zf.refl _ _).alloc _
   have hsz:w.heap.size<(w.alloc (.cells #[.iface TT px,.int .i64 0,.int .i64 0] 254)).heap.size:=by simp
   have X:=zb X0
   generalize w.alloc (.cells #[.iface TT px,.int .i64 0,.int .i64 0] 254)=W at *
   have hrb:w.heap.size≤w.heap.size:=Nat.le_refl _
   generalize hrbe:w.heap.size=rb at *
   have c1:=X.t.c1
   have f1:=X.t.f1
   have k0:=X.r.k0
   have k1:=X.r.k1
   have k2:=X.r.k2
   have q1:=X.r.f1
   have q2:=X.r.f2
   have X:=ze X
   clear X0
   go_wp2_with (first |(go_at_call 102;refine (xG (n:=n) _ (by first |exact zb X |exact (zb X).drewN _) hL (by omega) (by decide) (by assumption)).mono ?_;rintro e wq ⟨rfl,qq,rfl⟩) |(go_at_call 102;refine (kI (n:=n) _ (by exact (zb X).drewN _) hL (by omega) (by decide) (by assumption)).mono ?_;rintro e wq ⟨rfl,xq⟩;have xq:Rp _ _ b L ((n)+1) len dp a _ _ _ wq:=xq;have X:=ze xq;have k0:=xq.r.k0;have c1:=xq.t.c1;have f1:=xq.t.f1;have k1:=xq.r.k1;have k2:=xq.r.k2;have q1:=xq.r.f1;have q2:=xq.r.f2) |(go_at_call 102;refine (Vm (n:=n+1) (by exact ((zb X).set1 _).set2 _) hL (by omega)).mono ?_;rintro e wq ⟨lz,rfl,xq⟩;have X:=ze xq;have k0:=xq.r.k0;have c1:=xq.t.c1;have f1:=xq.t.f1;have k1:=xq.r.k1;have k2:=xq.r.k2;have q1:=xq.r.f1;have q2:=xq.r.f2))
   go_ret2
   rw [zb HO]
   exact ⟨Own.back (zb HW) (zb X).t.on (by omega),.inr (.inl ⟨rfl,rfl,rfl,(zb X).t.rd⟩)⟩
  ·have m43:Pro.zA L n { data:=#[43] }=false:=by rw [Pro.zu L n 43 43 rfl];simp [h43]
   by_cases h63:Pro.zi L n=63
   ·have m63:Pro.zA L n { data:=#[63] }=true:=by rw [Pro.zu L n 63 63 rfl];simp [h63]
    have HO:Hid (Pro.zz L len n=(true,Pro.good 0 (n+1),1)):=by unfold Pro.zz;rw [if_neg h42,if_neg h43,if_pos h63];rfl
    clear h42 h43 h63
    go_enter Tryz.func184,Tryz.ntmps184
    go_wp2_with fail
    have HW:Hid (zf (zm b) w (w.alloc (.cells #[.iface TT px,.int .i64 0,.int .i64 0] 254))):=(zf.refl _ _).alloc _
    have hsz:w.heap.size<(w.alloc (.cells #[.iface TT px,.int .i64 0,.int .i64 0] 254)).heap.size:=by simp
    have X:=zb X0
    generalize w.alloc (.cells #[.iface TT px,.int .i64 0,.int .i64 0] 254)=W at *
    have hrb:w.heap.size≤w.heap.size:=Nat.le_refl _
    generalize hrbe:w.heap.size=rb at *
    have c1:=X.t.c1
    have f1:=X.t.f1
    have k0:=X.r.k0
    have k1:=X.r.k1
    have k2:=X.r.k2
    have q1:=X.r.f1
    have q2:=X.r.f2
    have X:=ze X
    clear X0
    go_wp2_with (first |(go_at_call 102;refine (xG (n:=n) _ (by first |exact zb X |exact (zb X).drewN _) hL (by omega) (by decide) (by assumption)).mono ?_;rintro e wq ⟨rfl,qq,rfl⟩) |(go_at_call 102;refine (kI (n:=n) _ (by exact (zb X).drewN _) hL (by omega) (by decide) (by assumption)).mono ?_;rintro e wq ⟨rfl,xq⟩;have xq:Rp _ _ b L ((n)+1) len dp a _ _ _ wq:=xq;have X:=ze xq;have k0:=xq.r.k0;have c1:=xq.t.c1;have f1:=xq.t.f1;have k1:=xq.r.k1;have k2:=xq.r.k2;have q1:=xq.r.f1;have q2:=xq.r.f2) |(go_at_call 102;refine (Vm (n:=n+1) (by exact (zb X).set2 _) hL (by omega)).mono ?_;rintro e wq ⟨lz,rfl,xq⟩;have X:=ze xq;have k0:=xq.r.k0;have c1:=xq.t.c1;have f1:=xq.t.f1;have k1:=xq.r.k1;have k2:=xq.r.k2;have q1:=xq.r.f1;have q2:=xq.r.f2))
    go_ret2
    rw [zb HO]
    exact ⟨Own.back (zb HW) (zb X).t.on (by omega),.inr (.inl ⟨rfl,rfl,rfl,(zb X).t.rd⟩)⟩
   ·have m63:Pro.zA L n { data:=#[63] }=false:=by rw [Pro.zu L n 63 63 rfl];simp [h63]
    by_cases h123:Pro.zi L n=123
    ·have hlt:n<L.length:=Pro.zE (by omega)
     have h123':(Pro.zi L n == 123)=true:=by simp [h123]
     have HO:Hid (Pro.zz L len n=(true,Pro.zW L len n)):=by unfold Pro.zz;rw [if_neg h42,if_neg h43,if_neg h63,if_pos h123];rfl
     clear h42 h43 h63 h123
     have hcb:=Pro.JE (len:=len) n hlt
     by_cases hk:(Pro.zW L len n).1.k=0
     ·skip
      go_enter Tryz.func184,Tryz.ntmps184
      go_wp2_with fail
      have HW:Hid (zf (zm b) w (w.alloc (.cells #[.iface TT px,.int .i64 0,.int .i64 0] 254))):=(zf.refl _ _).alloc _
      have hsz:w.heap.size<(w.alloc (.cells #[.iface TT px,.int .i64 0,.int .i64 0] 254)).heap.size:=by simp
      have X:=zb X0
      generalize w.alloc (.cells #[.iface TT px,.int .i64 0,.int .i64 0] 254)=W at *
      have hrb:w.heap.size≤w.heap.size:=Nat.le_refl _
      generalize hrbe:w.heap.size=rb at *
      have c1:=X.t.c1
      have f1:=X.t.f1
      have k0:=X.r.k0
      have k1:=X.r.k1
      have k2:=X.r.k2
      have q1:=X.r.f1
      have q2:=X.r.f2
      have X:=ze X
      clear X0
      go_wp2_with (first |(go_at_call 102;refine (xG (n:=n) _ (by first |exact zb X |exact (zb X).drewN _) hL (by omega) (by decide) (by assumption)).mono ?_;rintro e wq ⟨rfl,qq,rfl⟩) |(go_at_call 147;refine (yX (n:=n) (Rp.t (by exact (zb X).drewN _)) hL (by omega)).mono ?_;rintro e wq ⟨rfl,hwq⟩;obtain rfl:=hwq.symm;clear hwq) |(go_at_call 219;refine (Qi rb W b L n len dp a (.iface TT px) 0 0 _ (by exact (zb X).drewN _) hL hlt hF hsz).mono ?_;rintro e wc ⟨tq,hT⟩;obtain ⟨rfl,hr⟩:=ZR hT hk;clear hT;have xq:Rp rb W b L _ len dp a _ _ _ wc:=⟨tq,hr⟩;have X:=ze xq;have k0:=xq.r.k0;have c1:=xq.t.c1;have f1:=xq.t.f1;have k1:=xq.r.k1;have k2:=xq.r.k2;have q1:=xq.r.f1;have q2:=xq.r.f2) |(go_at_call 102;refine (Vm (n:=(Pro.zW L len n).1.n) (by exact zb X) hL (by omega)).mono ?_;rintro e wq ⟨lz,rfl,xq⟩;have X:=ze xq;have k0:=xq.r.k0;have c1:=xq.t.c1;have f1:=xq.t.f1;have k1:=xq.r.k1;have k2:=xq.r.k2;have q1:=xq.r.f1;have q2:=xq.r.f2))
      go_ret2
      rw [zb HO]
      exact ⟨Own.back (zb HW) (zb X).t.on (by omega),.inr (.inl ⟨rfl,hk,rfl,(zb X).t.rd⟩)⟩
     ·skip
      go_enter Tryz.func184,Tryz.ntmps184
      go_wp2_with fail
      have HW:Hid (zf (zm b) w (w.alloc (.cells #[.iface TT px,.int .i64 0,.int .i64 0] 254))):=(zf.refl _ _).alloc _
      have hsz:w.heap.size<(w.alloc (.cells #[.iface TT px,.int .i64 0,.int .i64 0] 254)).heap.size:=by simp
      have X:=zb X0
      generalize w.alloc (.cells #[.iface TT px,.int .i64 0,.int .i64 0] 254)=W at *
      have hrb:w.heap.size≤w.heap.size:=Nat.le_refl _
      generalize hrbe:w.heap.size=rb at *
      have c1:=X.t.c1
      have f1:=X.t.f1
      have k0:=X.r.k0
      have k1:=X.r.k1
      have k2:=X.r.k2
      have q1:=X.r.f1
      have q2:=X.r.f2
      have X:=ze X
      clear X0
      go_wp2_with (first |(go_at_call 102;refine (xG (n:=n) _ (by first |exact zb X |exact (zb X).drewN _) hL (by omega) (by decide) (by assumption)).mono ?_;rintro e wq ⟨rfl,qq,rfl⟩) |(go_at_call 147;refine (yX (n:=n) (Rp.t (by exact (zb X).drewN _)) hL (by omega)).mono ?_;rintro e wq ⟨rfl,hwq⟩;obtain rfl:=hwq.symm;clear hwq) |(go_at_call 219;refine (Qi rb W b L n len dp a (.iface TT px) 0 0 _ (by exact (zb X).drewN _) hL hlt hF hsz).mono ?_;rintro e wc ⟨tq,hT⟩;obtain ⟨v,rfl,hv⟩:=Vl hT hk;clear hT;obtain ⟨gv,hgv⟩:=hv.form;subst hgv;have T:=ze tq))
      go_ret2
      rw [zb HO]
      exact ⟨Own.back (zb HW) (zb T).on (by omega),.inr (.inr ⟨rfl,hk,(zb T).rd,_,rfl,hv.base (by omega)⟩)⟩
    ·have h123':(Pro.zi L n == 123)=false:=by simp [h123]
     have HO:Hid (Pro.zz L len n=(false,Pro.good 0 n,0)):=by unfold Pro.zz;rw [if_neg h42,if_neg h43,if_neg h63,if_neg h123];rfl
     clear h42 h43 h63 h123
     go_enter Tryz.func184,Tryz.ntmps184
     go_wp2_with fail
     have HW:Hid (zf (zm b) w (w.alloc (.cells #[.iface TT px,.int .i64 0,.int .i64 0] 254))):=(zf.refl _ _).alloc _
     have hsz:w.heap.size<(w.alloc (.cells #[.iface TT px,.int .i64 0,.int .i64 0] 254)).heap.size:=by simp
     have X:=zb X0
     generalize w.alloc (.cells #[.iface TT px,.int .i64 0,.int .i64 0] 254)=W at *
     have hrb:w.heap.size≤w.heap.size:=Nat.le_refl _
     generalize hrbe:w.heap.size=rb at *
     have c1:=X.t.c1
     have f1:=X.t.f1
     have k0:=X.r.k0
     have k1:=X.r.k1
     have k2:=X.r.k2
     have q1:=X.r.f1
     have q2:=X.r.f2
     have X:=ze X
     clear X0
     go_wp2_with (first |(go_at_call 102;refine (xG (n:=n) _ (by first |exact zb X |exact (zb X).drewN _) hL (by omega) (by decide) (by assumption)).mono ?_;rintro e wq ⟨rfl,qq,rfl⟩) |(go_at_call 147;refine (yX (n:=n) (Rp.t (by exact (zb X).drewN _)) hL (by omega)).mono ?_;rintro e wq ⟨rfl,hwq⟩;obtain rfl:=hwq.symm;clear hwq))
     go_ret2
     rw [zb HO]
     exact ⟨Own.back (zb HW) ((zb X).drewN _).t.on (by omega),.inl ⟨rfl,rfl,((zb X).drewN _).t.rd⟩⟩
end
end Go.Proofs.YtnagphodmfejiaaGreatDoor
