/- The program's classes: a member read into one. -/
import Derived.Test.YtfnkbmglodopkaaGreatDoorZProJProM
namespace Go.Proofs.YtfnkbmglodopkaaGreatDoor
section
open Go.RowKit
set_option maxHeartbeats 4000000
set_option maxRecDepth 1000000
namespace Pro
def addR (L:List (Int×Int))(len:Int)(n:Nat)(R:List (Int×Int)):List (Int×Int):=
 if qM L (zl L len n).n=true then R++[((zl L len n).v,(zl L len ((zl L len n).n+1)).v)]
 else if many L n=true then R else R++[((zl L len n).v,(zl L len n).v)]
def addS (L:List (Int×Int))(len:Int)(n:Nat)(S:List Int):List Int:=
 if qM L (zl L len n).n=true then S else if many L n=true then S++[(zl L len n).v] else S
end Pro
theorem adds_ret {A B C:Prop}{D:Value→Prop}{x:Ending}(h:(A∧x = .returned .nilIface∧B)∨(C∧∃ v,x = .returned v∧D v)):∃ v,x = .returned v:=by
 rcases h with ⟨_,h,_⟩ |⟨_,v,h,_⟩
 ·exact ⟨_,h⟩
 ·exact ⟨v,h⟩
theorem vB (b:Nat)(L:List (Int×Int))(n:Nat)(len dp:Int)(a:Nat→Addr)(cb:Nat)(w0 w:World)(neg:Bool)(R:List (Int×Int))(S:List Int)(v1 v2:Value)(t:Trk cb w0 b L n len dp a w)(hC:z7 w cb neg R S v1 v2)(hL:L.length≤400)(hn:n<L.length)(hnm:(Pro.zl L len n).n≤450)(hF:Pro.Fit L)(hR:R.length≤400)(hS:S.length≤400) :
  Calls Tryz.prog 255 #[.pointer (some ⟨b,0,none⟩),.pointer (some ⟨cb,0,none⟩)] w (Adds b L len dp a cb w0 (Pro.addO L len n) neg (Pro.addR L len n R) (Pro.addS L len n S)):=by
 obtain ⟨i0,hi,hz0,hz1,hz2⟩:=info_parts Tryz.infoRange
 obtain ⟨j0,hj,hy0,hy1,hy2⟩:=info_parts Tryz.infoShort
 have T0:=zb t
 have T:=zb (Trk.start t.rd t.se t.hb)
 have hsz:=t.on.size
 have hbc:=t.lt
 have HC:=zb hC
 by_cases hk:(Pro.zl L len n).k=0
 ·cases hd:Pro.qM L (Pro.zl L len n).n
  ·have HO:Hid (Pro.addO L len n=Pro.zl L len n):=by unfold Pro.addO;rw [if_neg (by simp [hk]),if_neg (by simp [hd])];rfl
   have a1:=Tryz.isChar
   have a2:=Tryz.notChar
   have a3:=Tryz.isMany
   clear t hC
   cases hm:Pro.many L n
   ·have HR:Hid (Pro.addR L len n R=R++[((Pro.zl L len n).v,(Pro.zl L len n).v)]):=by unfold Pro.addR;rw [hd,hm];rfl
    have HSS:Hid (Pro.addS L len n S=S):=by unfold Pro.addS;rw [hd,hm];rfl
    have hv2:oneV false (Pro.zl L len n).v = .iface 206 (.int .i32 (Pro.zl L len n).v):=rfl
    go_enter Tryz.func255,Tryz.ntmps255
    go_wp2_with (first |(go_at_call 288;refine (xG (n:=n) (by exact za T) (y6 b L n len dp a _ (Trk.rd (n:=n) (by exact za T)) (Trk.se (n:=n) (by exact za T)) (za T).hb hL (by omega) hF)).mono ?_;rintro e wq ⟨tq,hT⟩;obtain rfl:=zM hT hk;clear hT;have T:=zb tq;have c1:=tq.c1;have f1:=tq.f1);(have hC1:=(za HC).step hbc (za T));(have k1:=hC1.k1);(have k2:=hC1.k2);(have q1:=hC1.f1);(have q2:=hC1.f2);(have ho1:=hC1.o1);(have ho2:=hC1.o2);(obtain ⟨sa,sn,sc,rfl⟩:=zp ho1);(obtain ⟨ua,un,uc,rfl⟩:=zp ho2);(have hlc:=hC1.lt);(have HC1:=zb hC1);(clear hC1);(have Ho1:=zb ho1);(clear ho1);(have Ho2:=zb ho2);(clear ho2) |(go_at_call 289;refine (kQ b L (Pro.zl L len n).n len dp a _ _ _ (by exact za T) hL (by omega)).mono ?_;rintro e wq ⟨rfl,hwq⟩;obtain rfl:=hwq.symm;clear hwq) |(at_builtin;refine wpList_append_own _ rfl _ _ 208 rfl (cb+1) 364 i0 (.agg #[.int .i32 0,.int .i32 0]) 2 8 Tryz.underlying208 hi hz0 hz1 hz2 rfl (by decide) _ _ _ rfl (World.ownsRow.alloc (za Ho1) _) _ 1 1 [.int .i32 (Pro.zl L len n).v,.int .i32 (Pro.zl L len n).v] rfl rfl (cell_two_new _ _ _ _) (fun x hx=>by simp at hx;rcases hx with rfl |rfl<;>rfl) (by unfold maxLen;omega) (by omega) (by simp;omega) ?_;intro v' w8 hown' hgrow hnil;obtain ⟨pa,pn,pc,rfl⟩:=zp hown';have hcs8:=(za HC1).cells ((zd.refl _ _).alloc _) hgrow (za HC1).n1;have HP:=zb ((za HC1).push1 ((zd.refl _ _).alloc _) (World.ownsRow.alloc (za Ho1) _) hgrow hown');clear hown' hgrow hnil;obtain ⟨z1,z2,z3,z4⟩:=hcs8))
    go_ret
    rw [za HO,za HR,za HSS]
    exact ⟨((za T0).join (za T)).push (za HP).2,.inl ⟨hk,rfl,_,_,(za HP).1⟩⟩
   ·have HR:Hid (Pro.addR L len n R=R):=by unfold Pro.addR;rw [hd,hm];rfl
    have HSS:Hid (Pro.addS L len n S=S++[(Pro.zl L len n).v]):=by unfold Pro.addS;rw [hd,hm];rfl
    have hv2:oneV true (Pro.zl L len n).v = .iface 207 (.int .i32 (Pro.zl L len n).v):=rfl
    go_enter Tryz.func255,Tryz.ntmps255
    go_wp2_with (first |(go_at_call 288;refine (xG (n:=n) (by exact za T) (y6 b L n len dp a _ (Trk.rd (n:=n) (by exact za T)) (Trk.se (n:=n) (by exact za T)) (za T).hb hL (by omega) hF)).mono ?_;rintro e wq ⟨tq,hT⟩;obtain rfl:=zM hT hk;clear hT;have T:=zb tq;have c1:=tq.c1;have f1:=tq.f1);(have hC1:=(za HC).step hbc (za T));(have k1:=hC1.k1);(have k2:=hC1.k2);(have q1:=hC1.f1);(have q2:=hC1.f2);(have ho1:=hC1.o1);(have ho2:=hC1.o2);(obtain ⟨sa,sn,sc,rfl⟩:=zp ho1);(obtain ⟨ua,un,uc,rfl⟩:=zp ho2);(have hlc:=hC1.lt);(have HC1:=zb hC1);(clear hC1);(have Ho1:=zb ho1);(clear ho1);(have Ho2:=zb ho2);(clear ho2) |(go_at_call 289;refine (kQ b L (Pro.zl L len n).n len dp a _ _ _ (by exact za T) hL (by omega)).mono ?_;rintro e wq ⟨rfl,hwq⟩;obtain rfl:=hwq.symm;clear hwq) |(at_builtin;refine wpList_append_own _ rfl _ _ 209 rfl (cb+1) 207 j0 (.int .i32 0) 1 4 Tryz.underlying209 hj hy0 hy1 hy2 rfl (by decide) _ _ _ rfl (World.ownsRow.alloc (za Ho2) _) _ 1 1 [.int .i32 (Pro.zl L len n).v] rfl rfl (cell_one_new _ _ _) (fun x hx=>by simp at hx;subst hx;rfl) (by unfold maxLen;omega) (by omega) (by simp;omega) ?_;intro v' w8 hown' hgrow hnil;obtain ⟨pa,pn,pc,rfl⟩:=zp hown';have hcs8:=(za HC1).cells ((zd.refl _ _).alloc _) hgrow (za HC1).n2;have HP:=zb ((za HC1).push2 ((zd.refl _ _).alloc _) (World.ownsRow.alloc (za Ho2) _) hgrow hown');clear hown' hgrow hnil;obtain ⟨z1,z2,z3,z4⟩:=hcs8))
    go_ret
    rw [za HO,za HR,za HSS]
    exact ⟨((za T0).join (za T)).push (za HP).2,.inl ⟨hk,rfl,_,_,(za HP).1⟩⟩
  ·have HO:Hid (Pro.addO L len n=Pro.xR L len (Pro.many L n) (Pro.zl L len n).v (Pro.zl L len n).n):=by unfold Pro.addO;rw [if_neg (by simp [hk]),if_pos hd];rfl
   have HR:Hid (Pro.addR L len n R=R++[((Pro.zl L len n).v,(Pro.zl L len ((Pro.zl L len n).n+1)).v)]):=by unfold Pro.addR;rw [hd];rfl
   have HSS:Hid (Pro.addS L len n S=S):=by unfold Pro.addS;rw [hd];rfl
   clear t hC
   go_enter Tryz.func255,Tryz.ntmps255
   go_wp2_with (first |(go_at_call 288;refine (xG (n:=n) (by exact za T) (y6 b L n len dp a _ (Trk.rd (n:=n) (by exact za T)) (Trk.se (n:=n) (by exact za T)) (za T).hb hL (by omega) hF)).mono ?_;rintro e wq ⟨tq,hT⟩;obtain rfl:=zM hT hk;clear hT;have T:=zb tq;have c1:=tq.c1;have f1:=tq.f1) |(go_at_call 289;refine (kQ b L (Pro.zl L len n).n len dp a _ _ _ (by exact za T) hL (by omega)).mono ?_;rintro e wq ⟨rfl,hwq⟩;obtain rfl:=hwq.symm;clear hwq) |(go_at_call 290;refine (XY b L (Pro.zl L len n).n len dp a cb w0 _ neg R S _ _ (Pro.many L n) (Pro.zl L len n).v ((za T0).join (za T)) ((za HC).step hbc (za T)) hL hd hF hR).mono ?_;intro e w9 HA;have HAA:=zb HA;obtain ⟨_,hA⟩:=HA;obtain ⟨xv,rfl⟩:=adds_ret hA;clear hA))
   go_ret
   rw [za HO,za HR,za HSS]
   exact za HAA
 ·have HO:Hid (Pro.addO L len n=Pro.zl L len n):=by unfold Pro.addO;rw [if_pos hk];rfl
  clear t hC
  go_enter Tryz.func255,Tryz.ntmps255
  go_wp2_with (go_at_call 288;refine (xG (n:=n) (by exact za T) (y6 b L n len dp a _ (Trk.rd (n:=n) (by exact za T)) (Trk.se (n:=n) (by exact za T)) (za T).hb hL (by omega) hF)).mono ?_;rintro e wq ⟨tq,hT⟩;obtain ⟨v,rfl,hv⟩:=xF hT hk;obtain ⟨gv,hgv⟩:=hv.form;subst hgv;clear hT;have T:=zb tq;have c1:=tq.c1;have f1:=tq.f1)
  go_ret
  rw [za HO]
  exact ⟨(za T0).join (za T),.inr ⟨hk,_,rfl,hv.base hsz⟩⟩
namespace Pro
section
variable {L:List (Int×Int)} {len:Int}
theorem zeroO_in (n:Nat)(h:n≤L.length):n≤(qY L len n).n∧(qY L len n).n≤L.length:=by rw [zeroO_n];omega
theorem QX (n:Nat)(h:n≤L.length):n≤(yN L len n).n∧(yN L len n).n≤L.length:=by
 unfold yN
 split
 ·rename_i hl
  have:n<L.length:=zr (by unfold letter at hl;omega)
  simp only [good];omega
 ·simp only [bad];omega
theorem Yt:∀ (f:Nat) (c:Int) (d n:Nat),n≤L.length→n≤(yP L len f c d n).n∧(yP L len f c d n).n≤L.length
 |0,c,d,n,h=>by simp only [yP,good];omega
 |f+1,c,d,n,h=>by
  by_cases h1:0<d∧ze L n=125
  ·rw [vz h1.1 h1.2]
   have:n<L.length:=zr (by omega)
   simp only [good];omega
  ·by_cases h2:hexV (ze L n)<0∨1114111<16*c+hexV (ze L n)
   ·rw [Zx h1 h2];simp only [bad];omega
   ·rw [wz h1 h2]
    have:n<L.length:=ww (by omega)
    have:=Yt f (16*c+hexV (ze L n)) (d+1) (n+1) (by omega)
    omega
theorem lowV_in (n:Nat)(h:0≤lowV L len n):n+6≤L.length:=by
 unfold lowV at h
 split at h
 ·rename_i hh
  have h1:n+1<L.length:=zr (by omega)
  have:=Zd L len 4 0 (n+2) (by omega)
  have:=this.2.2 hh.2.2.1
  omega
 ·omega
theorem QY (n:Nat)(h:n≤L.length):n≤(yf L len n).n∧(yf L len n).n≤L.length:=by
 have hx:=Zd L len 4 0 n h
 unfold yf
 split
 ·omega
 ·split
  ·rename_i hl
   have:=lowV_in _ hl
   simp only [good];omega
  ·omega
theorem numO_in (n:Nat)(h:n≤L.length):n≤(numO L len n).n∧(numO L len n).n≤L.length:=by
 unfold numO
 split
 ·rename_i hs
  have:n<L.length:=by
   by_cases hlt:n<L.length
   ·exact hlt
   ·rw [xE (by omega)] at hs;exact absurd hs (by decide)
  simp only [good];omega
 split
 ·have:n<L.length:=zr (by omega)
  have:=zeroO_in (L:=L) (len:=len) (n+1) (by omega);omega
 split
 ·have:n<L.length:=zr (by omega)
  have:=QX (L:=L) (len:=len) (n+1) (by omega);omega
 split
 ·have:n<L.length:=zr (by omega)
  have:=Zd L len 2 0 (n+1) (by omega);omega
 split
 ·have:n+1<L.length:=zr (by omega)
  have:=Yt (L:=L) (len:=len) (L.length+1-(n+2)) 0 0 (n+2) (by omega)
  unfold qH;omega
 split
 ·have:n<L.length:=zr (by omega)
  have:=QY (L:=L) (len:=len) (n+1) (by omega);omega
 ·simp only [bad];omega
theorem Kt (n:Nat)(h:n<L.length):n<(escO L len n).n∧(escO L len n).n≤L.length:=by
 unfold escO
 split
 ·rename_i hs
  have:n+1<L.length:=by
   by_cases hlt:n+1<L.length
   ·exact hlt
   ·rw [xE (by omega)] at hs;exact absurd hs (by decide)
  simp only [good];omega
 split
 ·simp only [bad];omega
 ·have:=numO_in (L:=L) (len:=len) (n+1) (by omega);omega
theorem vM (n:Nat)(h:n<L.length):n<(zl L len n).n∧(zl L len n).n≤L.length:=by
 unfold zl
 split
 ·have:n+1<L.length:=zr (by omega)
  simp only [good];omega
 split
 ·have:n+1<L.length:=zr (by omega)
  simp only [good];omega
 split
 ·exact Kt n h
 ·simp only [good];omega
theorem VK (m:Bool)(c:Int)(n:Nat)(h:qM L n=true):n<(xR L len m c n).n∧(xR L len m c n).n≤L.length:=by
 have hd:=Xb h
 have h1:n+1<L.length:=QW hd.2.2
 have:=vM (L:=L) (len:=len) (n+1) h1
 unfold xR
 split
 ·omega
 ·split
  ·simp only [bad];omega
  ·omega
theorem Ku (n:Nat)(h:n<L.length):n<(addO L len n).n∧(addO L len n).n≤L.length:=by
 have:=vM (L:=L) (len:=len) n h
 unfold addO
 split
 ·omega
 ·split
  ·rename_i hd
   have:=VK (len:=len) (many L n) (zl L len n).v _ hd
   omega
  ·omega
theorem addR_len (n:Nat)(R:List (Int×Int)):(addR L len n R).length≤R.length+1:=by
 unfold addR
 split
 ·simp
 ·split
  ·omega
  ·simp
theorem addS_len (n:Nat)(S:List Int):(addS L len n S).length≤S.length+1:=by
 unfold addS
 split
 ·omega
 ·split
  ·simp
  ·omega
theorem Ze:∀ (f n:Nat),n≤L.length→n≤(xS L len f n).n∧(xS L len f n).n≤L.length
 |0,n,h=>by simp only [xS,good];omega
 |f+1,n,h=>by
  simp only [xS]
  split
  ·have:n<L.length:=zr (by omega)
   simp only [good];omega
  split
  ·simp only [bad];omega
  ·have:=Ku (L:=L) (len:=len) n (by omega)
   split
   ·omega
   ·have:=Ze f (addO L len n).n (by omega)
    omega
end
end Pro
theorem kR {o:Pro.Out}{B:Prop}{D:Value→Prop}{x:Ending}(h:(o.k=0∧x = .returned .nilIface∧B)∨(o.k≠0∧∃ v,x = .returned v∧D v))(hk:o.k=0):x = .returned .nilIface∧B:=by
 rcases h with ⟨_,h⟩ |⟨h,_⟩
 ·exact h
 ·exact absurd hk h
theorem XZ {o:Pro.Out}{B:Prop}{D:Value→Prop}{x:Ending}(h:(o.k=0∧x = .returned .nilIface∧B)∨(o.k≠0∧∃ v,x = .returned v∧D v))(hk:o.k≠0):∃ v,x = .returned v∧D v:=by
 rcases h with ⟨h,_⟩ |⟨_,h⟩
 ·exact absurd h hk
 ·exact h
theorem Own.back {b cb:Nat}{w W w':World}(h1:zd (zo b) w W)(h2:zd (Own b cb) W w')(hc:w.heap.size≤cb):zd (zo b) w w':=
 ⟨h2.os.trans h1.os,h2.tape.trans h1.tape,h2.output.trans h1.output,Nat.le_trans h1.size h2.size,fun k hk hn=>(h2.block k (Nat.lt_of_lt_of_le hk h1.size) (fun e=>by
  rcases e with e |e
  ·exact hn e
  ·omega)).trans (h1.block k hk hn)⟩
namespace Pro
theorem Xc {L:List (Int×Int)}{f n:Nat}{c:Int}(h:dig (ze L n)=true):qg L (f+1) c n=qg L f (min (c*10+(ze L n-48)) 101) (n+1):=by simp only [qg];rw [if_pos h]
theorem Zz {L:List (Int×Int)}{f n:Nat}{c:Int}(h:dig (ze L n)=false):qg L (f+1) c n=(c,n):=by simp only [qg];rw [if_neg (by simp [h])]
theorem dig_in {L:List (Int×Int)}{n:Nat}(h:dig (ze L n)=true):n<L.length:=zr (by unfold dig at h;simp at h;omega)
theorem Xd (L:List (Int×Int)):∀ (f:Nat) (c:Int) (n:Nat),n≤L.length→0≤c→c≤101→n≤(qg L f c n).2∧(qg L f c n).2≤L.length∧0≤(qg L f c n).1∧(qg L f c n).1≤101
 |0,c,n,h,h0,h1=>by simp only [qg];omega
 |f+1,c,n,h,h0,h1=>by
  cases hd:dig (ze L n)
  ·rw [Zz hd];simp only [];omega
  ·rw [Xc hd]
   have:=dig_in hd
   have hb:48≤ze L n:=by unfold dig at hd;simp at hd;omega
   have:=Xd L f (min (c*10+(ze L n-48)) 101) (n+1) (by omega) (by omega) (by omega)
   omega
theorem jd {L:List (Int×Int)}{len:Int}(n:Nat)(h:n≤L.length):n≤(zi L len n).n∧(zi L len n).n≤L.length∧0≤(zi L len n).v∧(zi L len n).v≤100:=by
 have:=Xd L (L.length+1-n) 0 n h (by omega) (by omega)
 unfold zi countP
 split
 ·simp only [bad];omega
 ·split
  ·simp only [bad];omega
  ·simp only [good];omega
end Pro
theorem JX (b:Nat)(L:List (Int×Int))(n:Nat)(len dp:Int)(a:Nat→Addr)(w:World)(h:zG w b L n len dp)(hS:zK w a)(hb:10≤b)(hL:L.length≤400)(hn:n≤L.length)(_hF:Pro.Fit L) :
  Calls Tryz.prog 258 #[.pointer (some ⟨b,0,none⟩)] w (Tells b L len dp a w (Pro.zi L len n) (.int .i64 (Pro.zi L len n).v) (.int .i64 0)):=by
 have T:=zb (Trk.start h hS hb)
 clear h hS
 cases hd:Pro.dig (Pro.ze L n)
 ·have HO:Hid (Pro.zi L len n=Pro.bad 3 (Pro.zx L len n) n):=by unfold Pro.zi;rw [if_pos hd];rfl
  have hd':(decide (48≤Pro.ze L n) && decide (Pro.ze L n≤57))=false:=hd
  go_enter Tryz.func258,Tryz.ntmps258
  go_wp2_with (first |(go_at_call 94;refine (yg (n:=n) (by exact za T) hL (by omega)).mono ?_;rintro e wq ⟨rfl,qq,rfl⟩) |(go_at_call 131;refine (yh (n:=n) (by exact (za T).drewN _) hL (by omega)).mono ?_;rintro e wq ⟨rfl,hwq⟩;obtain rfl:=hwq.symm;clear hwq) |(go_at_call 298;refine (yD _ _).mono ?_;rintro e wq ⟨rfl,hwq⟩;obtain rfl:=hwq.symm;clear hwq);(rw [hd']) |(go_at_call 61;refine (wD (n:=n) (by exact (za T).drewN _) hL (by omega)).mono ?_;rintro e wq ⟨v,rfl,hv,tq⟩;have T:=zb tq;have c1:=tq.c1;have f1:=tq.f1))
  go_ret2
  exact (za T).bad (za HO) (by decide) hv
 ·have hd':(decide (48≤Pro.ze L n) && decide (Pro.ze L n≤57))=true:=hd
  go_enter Tryz.func258,Tryz.ntmps258
  go_wp2_with (first |(go_at_call 94;refine (yg (n:=n) (by exact za T) hL (by omega)).mono ?_;rintro e wq ⟨rfl,qq,rfl⟩) |(go_at_call 131;refine (yh (n:=n) (by exact (za T).drewN _) hL (by omega)).mono ?_;rintro e wq ⟨rfl,hwq⟩;obtain rfl:=hwq.symm;clear hwq) |(go_at_call 298;refine (yD _ _).mono ?_;rintro e wq ⟨rfl,hwq⟩;obtain rfl:=hwq.symm;clear hwq);(rw [hd']))
  have T1:=zb ((za T).drewN qq)
  generalize w.drewN qq=w1 at *
  go_loopw [5] (fun c wr=>∃ (q:Int) (m:Nat),c = .int .i64 q∧0≤q∧q≤101∧m≤L.length∧Hid (Trk w.heap.size w b L m len dp a wr)∧Hid (Pro.countP L n=Pro.qg L (L.length+1-m) q m)) (fun _ wr=>L.length-rdN wr b)
  case atStart=>exact ⟨0,n,rfl,by omega,by omega,hn,T1,rfl⟩
  case round=>
   obtain ⟨q,m,rfl,hq0,hq1,hm,T,HF⟩:=hrel
   have hrd:=(za T).rdN
   have hfu:Hid (L.length+1-m=(L.length-m)+1):=by show _=_;omega
   cases he:Pro.dig (Pro.ze L m)
   ·have he':(decide (48≤Pro.ze L m) && decide (Pro.ze L m≤57))=false:=he
    have HG:Hid (Pro.countP L n=(q,m)):=by rw [za HF,za hfu];exact Pro.Zz he
    by_cases hbig:100<q
    ·have HO:Hid (Pro.zi L len n=Pro.bad 5 (Pro.zx L len n) m):=by unfold Pro.zi;rw [if_neg (by simp [hd]),za HG,if_pos hbig];rfl
     have hs5:=(za T).se.s5
     go_wp2_with (first |(go_at_call 131;refine (yh (n:=m) (by exact za T) hL (by omega)).mono ?_;rintro e wq ⟨rfl,hwq⟩;obtain rfl:=hwq.symm;clear hwq) |(go_at_call 298;refine (yD _ _).mono ?_;rintro e wq ⟨rfl,hwq⟩;obtain rfl:=hwq.symm;clear hwq);(rw [he']) |(go_at_call 62;refine (Zy (n:=m) _ 5 _ _ rfl (by exact za T)).mono ?_;rintro e wq ⟨v,rfl,hv,tq⟩;have T:=zb tq;have c1:=tq.c1;have f1:=tq.f1))
     go_ret2
     exact (za T).bad (za HO) (by decide) hv
    ·have HO:Hid (Pro.zi L len n=Pro.good q m):=by unfold Pro.zi;rw [if_neg (by simp [hd]),za HG,if_neg hbig];rfl
     go_wp2_with (first |(go_at_call 131;refine (yh (n:=m) (by exact za T) hL (by omega)).mono ?_;rintro e wq ⟨rfl,hwq⟩;obtain rfl:=hwq.symm;clear hwq) |(go_at_call 298;refine (yD _ _).mono ?_;rintro e wq ⟨rfl,hwq⟩;obtain rfl:=hwq.symm;clear hwq);(rw [he']))
     go_ret2
     exact (za T).good (za HO) (by rw [za HO];rfl)
   ·have he':(decide (48≤Pro.ze L m) && decide (Pro.ze L m≤57))=true:=he
    have hml:=Pro.dig_in he
    have HG:Hid (Pro.countP L n=Pro.qg L (L.length+1-(m+1)) (min (q*10+(Pro.ze L m-48)) 101) (m+1)):=by rw [za HF,show L.length+1-m=(L.length+1-(m+1))+1 by omega];exact Pro.Xc he
    have hlo:48≤Pro.ze L m∧Pro.ze L m≤57:=by simpa using he'
    have c1:=(za T).c1
    have f1:=(za T).f1
    go_wp2_with (first |(go_at_call 131;refine (yh (n:=m) (by exact za T) hL (by omega)).mono ?_;rintro e wq ⟨rfl,hwq⟩;obtain rfl:=hwq.symm;clear hwq) |(go_at_call 298;refine (yD _ _).mono ?_;rintro e wq ⟨rfl,hwq⟩;obtain rfl:=hwq.symm;clear hwq);(rw [he']))
    have T2:=(za T).setN (m+1) ((m:Int)+1) (by omega)
    refine ⟨⟨min (q*10+(Pro.ze L m-48)) 101,m+1,?_,by omega,by omega,by omega,zb T2,HG⟩,by rw [T2.rdN,hrd];omega⟩
    rw [show (if 101<q*10+(Pro.ze L m-48) then (101:Int) else q*10+(Pro.ze L m-48))=min (q*10+(Pro.ze L m-48)) 101 by split<;>omega]
structure j4 (w:World)(rb:Nat)(p:Value)(l m:Int):Prop where
 k0:w.cell? ⟨rb,0,none⟩=some p
 k1:w.cell? ⟨rb,1,none⟩=some (.int .i64 l)
 k2:w.cell? ⟨rb,2,none⟩=some (.int .i64 m)
 f1:w.frozen? ⟨rb,1,none⟩=false
 f2:w.frozen? ⟨rb,2,none⟩=false
theorem j4.lt {w:World}{rb:Nat}{p:Value}{l m:Int}(h:j4 w rb p l m):rb<w.heap.size:=World.block_lt_of_cell? w ⟨rb,0,none⟩ h.k0
theorem j4.keep {P:Nat→Prop}{w w':World}{rb:Nat}{p:Value}{l m:Int}(h:j4 w rb p l m)(k:zd P w w')(hn:¬P rb):j4 w' rb p l m:=
 ⟨(k.cell (p:=⟨rb,0,none⟩) h.lt hn).trans h.k0,(k.cell (p:=⟨rb,1,none⟩) h.lt hn).trans h.k1,(k.cell (p:=⟨rb,2,none⟩) h.lt hn).trans h.k2,(k.frozen (p:=⟨rb,1,none⟩) h.lt hn).trans h.f1,(k.frozen (p:=⟨rb,2,none⟩) h.lt hn).trans h.f2⟩
theorem j4.set1 {w:World}{rb:Nat}{p:Value}{l m:Int}(h:j4 w rb p l m)(x:Int):j4 (w.setCell ⟨rb,1,none⟩ (.int .i64 x)) rb p x m:=
 ⟨(World.cell?_setCell_other _ _ _ _ (by simp)).trans h.k0,World.cell?_setCell_same _ _ _ h.k1,(World.cell?_setCell_other _ _ _ _ (by simp)).trans h.k2,(zh _ _ _ _).trans h.f1,(zh _ _ _ _).trans h.f2⟩
theorem j4.set2 {w:World}{rb:Nat}{p:Value}{l m:Int}(h:j4 w rb p l m)(x:Int):j4 (w.setCell ⟨rb,2,none⟩ (.int .i64 x)) rb p l x:=
 ⟨(World.cell?_setCell_other _ _ _ _ (by simp)).trans h.k0,(World.cell?_setCell_other _ _ _ _ (by simp)).trans h.k1,World.cell?_setCell_same _ _ _ h.k2,(zh _ _ _ _).trans h.f1,(zh _ _ _ _).trans h.f2⟩
structure Rp (rb:Nat)(w0:World)(b:Nat)(L:List (Int×Int))(n:Nat)(len dp:Int)(a:Nat→Addr)(p:Value)(l m:Int)(w:World):Prop where
 t:Trk rb w0 b L n len dp a w
 r:j4 w rb p l m
section
variable {rb:Nat} {w0:World} {b:Nat} {L:List (Int×Int)} {n:Nat} {len dp:Int} {a:Nat→Addr} {p:Value} {l m:Int} {w w':World}
theorem Rp.drewN (h:Rp rb w0 b L n len dp a p l m w)(q:Nat):Rp rb w0 b L n len dp a p l m (w.drewN q):=⟨h.t.drewN q,h.r.keep ((zd.refl (fun _=>False) w).drewN q) (fun f=>f)⟩
theorem Rp.mine {n':Nat}(h:Rp rb w0 b L n len dp a p l m w)(k:zd (zo b) w w')(hr:zG w' b L n' len dp):Rp rb w0 b L n' len dp a p l m w':=⟨h.t.mine k hr,h.r.keep k (fun e=>by have:=h.t.lt;unfold zo at e;omega)⟩
theorem Rp.calm (h:Rp rb w0 b L n len dp a p l m w)(k:zd (fun _=>False) w w'):Rp rb w0 b L n len dp a p l m w':=⟨h.t.calm k,h.r.keep k (fun f=>f)⟩
theorem Rp.setN (h:Rp rb w0 b L n len dp a p l m w)(i:Nat)(j:Int)(hj:j=(i:Int)):Rp rb w0 b L i len dp a p l m (w.setCell ⟨b,1,none⟩ (.int .i64 j)):=h.mine ((zd.refl _ _).mine _ _) (h.t.rd.setN i j hj)
theorem Rp.set1 (h:Rp rb w0 b L n len dp a p l m w)(x:Int):Rp rb w0 b L n len dp a p x m (w.setCell ⟨rb,1,none⟩ (.int .i64 x)):=⟨h.t.push ((zd.refl _ _).setCell (p:=⟨rb,1,none⟩) (.inl (Nat.le_refl _)) _),h.r.set1 x⟩
theorem Rp.set2 (h:Rp rb w0 b L n len dp a p l m w)(x:Int):Rp rb w0 b L n len dp a p l x (w.setCell ⟨rb,2,none⟩ (.int .i64 x)):=⟨h.t.push ((zd.refl _ _).setCell (p:=⟨rb,2,none⟩) (.inl (Nat.le_refl _)) _),h.r.set2 x⟩
theorem yH (word:ByteArray)(h:Rp rb w0 b L n len dp a p l m w)(hL:L.length≤400)(hn:n≤1000)(hw:word.size≤10)(hm:Pro.zn L n word=false) :
  Calls Tryz.prog 93 #[.pointer (some ⟨b,0,none⟩),.string word] w fun x w'=>x = .returned (.bool false)∧∃ q,w'=w.drewN q:=y5 b L n len dp word w h.t.rd hL hn hw hm
theorem qS (word:ByteArray)(h:Rp rb w0 b L n len dp a p l m w)(hL:L.length≤400)(hn:n≤1000)(hw:word.size≤10)(hm:Pro.zn L n word=true) :
  Calls Tryz.prog 93 #[.pointer (some ⟨b,0,none⟩),.string word] w fun x w'=>x = .returned (.bool true)∧Rp rb w0 b L (n+word.size) len dp a p l m w':=
 (yx b L n len dp word w h.t.rd hL hn hw hm).mono (by rintro e w1 ⟨rfl,h1,h2⟩;exact ⟨rfl,h.mine h2 h1⟩)
theorem Kv (h:Rp rb w0 b L n len dp a p l m w)(hL:L.length≤400)(hn:n≤L.length) :
  Calls Tryz.prog 61 #[.pointer (some ⟨b,0,none⟩)] w fun x w'=>∃ v,x = .returned v∧zA w' w0.heap.size v (zE a 3) (Pro.zx L len n)∧Rp rb w0 b L n len dp a p l m w':=
 (qL b L n len dp a w h.t.rd h.t.se hL hn).mono (by rintro e w1 ⟨v,rfl,hv,hO⟩;exact ⟨v,rfl,hv.base h.t.on.size,h.calm hO⟩)
theorem new_r (T:TypeId)(k:Nat)(q:Int)(x:Value)(hx : .iface T x=zE a k)(h:Rp rb w0 b L n len dp a p l m w) :
  Calls Tryz.prog 62 #[.iface T x,.int .i64 q] w fun e w'=>∃ v,e = .returned v∧zA w' w0.heap.size v (zE a k) q∧Rp rb w0 b L n len dp a p l m w':=
 (vg T x q w).mono (by rintro e w1 ⟨v,rfl,hv,hO⟩;rw [hx] at hv;exact ⟨v,rfl,hv.base h.t.on.size,h.calm hO⟩)
theorem xM (h:Rp rb w0 b L n len dp a p l m w)(hL:L.length≤400)(hn:n≤L.length)(hF:Pro.Fit L) :
  Calls Tryz.prog 258 #[.pointer (some ⟨b,0,none⟩)] w fun x w'=>Rp rb w0 b L (Pro.zi L len n).n len dp a p l m w'∧(((Pro.zi L len n).k=0∧x = .returned (.tuple #[.int .i64 (Pro.zi L len n).v,.nilIface]))∨((Pro.zi L len n).k≠0∧∃ v,x = .returned (.tuple #[.int .i64 0,v])∧zA w' w0.heap.size v (zE a (Pro.zi L len n).k) (Pro.zi L len n).p)):=
 (JX b L n len dp a w h.t.rd h.t.se h.t.hb hL hn hF).mono (by
  rintro x w1 ⟨hO,hR,hT⟩
  refine ⟨h.mine hO hR,?_⟩
  rcases hT with hT |⟨hk,v,hx,hv⟩
  ·exact .inl hT
  ·exact .inr ⟨hk,v,hx,hv.base h.t.on.size⟩)
end
def Counts (rb:Nat)(w0:World)(b:Nat)(L:List (Int×Int))(len dp:Int)(a:Nat→Addr)(p:Value)(o:Pro.Out×Int)(x:Ending)(w':World):Prop:=
 Trk rb w0 b L o.1.n len dp a w'∧((o.1.k=0∧x = .returned .nilIface∧j4 w' rb p o.1.v o.2)∨(o.1.k≠0∧∃ v,x = .returned v∧zA w' w0.heap.size v (zE a o.1.k) o.1.p))
theorem ZA (rb:Nat)(w0:World)(b:Nat)(L:List (Int×Int))(n:Nat)(len dp:Int)(a:Nat→Addr)(p:Value)(l m:Int)(w:World)(h:Rp rb w0 b L n len dp a p l m w)(hL:L.length≤400)(hn:n<L.length)(hF:Pro.Fit L)(hrb:rb<w0.heap.size) :
  Calls Tryz.prog 218 #[.pointer (some ⟨b,0,none⟩),.pointer (some ⟨rb,0,none⟩)] w (Counts rb w0 b L len dp a p (Pro.zL L len n)):=by
 have X:=zb h
 have c1:=h.t.c1
 have f1:=h.t.f1
 have hs4:=h.t.se.s4
 clear h
 have hA:=Pro.jd (L:=L) (len:=len) (n+1) (by omega)
 by_cases hk:(Pro.zi L len (n+1)).k=0
 ·by_cases h1:Pro.ze L (Pro.zi L len (n+1)).n=125
  ·have m1:Pro.zn L (Pro.zi L len (n+1)).n { data:=#[125] }=true:=by rw [Pro.zm L _ 125 125 rfl];simp [h1]
   have HO:Hid (Pro.zL L len n=(Pro.good (Pro.zi L len (n+1)).v ((Pro.zi L len (n+1)).n+1),(Pro.zi L len (n+1)).v)):=by unfold Pro.zL;simp only [];rw [if_neg (by simp [hk]),if_pos h1];rfl
   clear h1
   go_enter Tryz.func218,Tryz.ntmps218
   go_wp2_with (first |(go_at_call 94;refine (yg (n:=n) (Rp.t (by exact za X)) hL (by omega)).mono ?_;rintro e wq ⟨rfl,qq,rfl⟩) |(go_at_call 258;refine (xM (n:=n+1) (by exact ((za X).drewN _).setN _ _ (by omega)) hL (by omega) hF).mono ?_;rintro e wq ⟨xq,hT⟩;obtain rfl:=zM hT hk;clear hT;have X:=zb xq;have k0:=xq.r.k0;have c1:=xq.t.c1;have f1:=xq.t.f1;have k1:=xq.r.k1;have k2:=xq.r.k2;have q1:=xq.r.f1;have q2:=xq.r.f2) |(go_at_call 93;refine (qS (n:=(Pro.zi L len (n+1)).n) _ (by exact ((za X).set1 _).set2 _) hL (by omega) (by decide) (by assumption)).mono ?_;rintro e wq ⟨rfl,xq⟩;have xq:Rp _ _ b L (((Pro.zi L len (n+1)).n)+1) len dp a _ _ _ wq:=xq;have X:=zb xq;have k0:=xq.r.k0;have c1:=xq.t.c1;have f1:=xq.t.f1;have k1:=xq.r.k1;have k2:=xq.r.k2;have q1:=xq.r.f1;have q2:=xq.r.f2))
   go_ret
   rw [za HO]
   exact ⟨Rp.t (n:=(Pro.zi L len (n+1)).n+1) (by exact za X),.inl ⟨rfl,rfl,Rp.r (n:=(Pro.zi L len (n+1)).n+1) (by exact za X)⟩⟩
  ·have m1:Pro.zn L (Pro.zi L len (n+1)).n { data:=#[125] }=false:=by rw [Pro.zm L _ 125 125 rfl];simp [h1]
   by_cases h2:Pro.ze L (Pro.zi L len (n+1)).n=44
   ·have m2:Pro.zn L (Pro.zi L len (n+1)).n { data:=#[44] }=true:=by rw [Pro.zm L _ 44 44 rfl];simp [h2]
    have hlt:(Pro.zi L len (n+1)).n<L.length:=Pro.zr (by omega)
    by_cases h3:Pro.ze L ((Pro.zi L len (n+1)).n+1)=125
    ·have m3:Pro.zn L ((Pro.zi L len (n+1)).n+1) { data:=#[125] }=true:=by rw [Pro.zm L _ 125 125 rfl];simp [h3]
     have HO:Hid (Pro.zL L len n=(Pro.good (Pro.zi L len (n+1)).v ((Pro.zi L len (n+1)).n+2),-1)):=by unfold Pro.zL;simp only [];rw [if_neg (by simp [hk]),if_neg h1,if_neg (by simp [h2]),if_pos h3];rfl
     clear h1 h2 h3
     go_enter Tryz.func218,Tryz.ntmps218
     go_wp2_with (first |(go_at_call 94;refine (yg (n:=n) (Rp.t (by exact za X)) hL (by omega)).mono ?_;rintro e wq ⟨rfl,qq,rfl⟩) |(go_at_call 258;refine (xM (n:=n+1) (by exact ((za X).drewN _).setN _ _ (by omega)) hL (by omega) hF).mono ?_;rintro e wq ⟨xq,hT⟩;obtain rfl:=zM hT hk;clear hT;have X:=zb xq;have k0:=xq.r.k0;have c1:=xq.t.c1;have f1:=xq.t.f1;have k1:=xq.r.k1;have k2:=xq.r.k2;have q1:=xq.r.f1;have q2:=xq.r.f2) |(go_at_call 93;refine (yH (n:=(Pro.zi L len (n+1)).n) _ (by first |exact ((za X).set1 _).set2 _ |exact (((za X).set1 _).set2 _).drewN _) hL (by omega) (by decide) (by assumption)).mono ?_;rintro e wq ⟨rfl,qq,rfl⟩) |(go_at_call 93;refine (qS (n:=(Pro.zi L len (n+1)).n) _ (by exact (((za X).set1 _).set2 _).drewN _) hL (by omega) (by decide) (by assumption)).mono ?_;rintro e wq ⟨rfl,xq⟩;have xq:Rp _ _ b L (((Pro.zi L len (n+1)).n)+1) len dp a _ _ _ wq:=xq;have X:=zb xq;have k0:=xq.r.k0;have c1:=xq.t.c1;have f1:=xq.t.f1;have k1:=xq.r.k1;have k2:=xq.r.k2;have q1:=xq.r.f1;have q2:=xq.r.f2) |(go_at_call 93;refine (qS (n:=(Pro.zi L len (n+1)).n+1) _ (by exact za X) hL (by omega) (by decide) (by assumption)).mono ?_;rintro e wq ⟨rfl,xq⟩;have xq:Rp _ _ b L (((Pro.zi L len (n+1)).n+1)+1) len dp a _ _ _ wq:=xq;have X:=zb xq;have k0:=xq.r.k0;have c1:=xq.t.c1;have f1:=xq.t.f1;have k1:=xq.r.k1;have k2:=xq.r.k2;have q1:=xq.r.f1;have q2:=xq.r.f2))
     go_ret
     rw [za HO]
     exact ⟨Rp.t (n:=(Pro.zi L len (n+1)).n+2) (by exact (za X).set2 _),.inl ⟨rfl,rfl,Rp.r (n:=(Pro.zi L len (n+1)).n+2) (by exact (za X).set2 _)⟩⟩
    ·have m3:Pro.zn L ((Pro.zi L len (n+1)).n+1) { data:=#[125] }=false:=by rw [Pro.zm L _ 125 125 rfl];simp [h3]
     have hM:=Pro.jd (L:=L) (len:=len) ((Pro.zi L len (n+1)).n+1) (by omega)
     by_cases hk2:(Pro.zi L len ((Pro.zi L len (n+1)).n+1)).k=0
     ·by_cases h4:Pro.ze L (Pro.zi L len ((Pro.zi L len (n+1)).n+1)).n=125
      ·have m4:Pro.zn L (Pro.zi L len ((Pro.zi L len (n+1)).n+1)).n { data:=#[125] }=true:=by rw [Pro.zm L _ 125 125 rfl];simp [h4]
       by_cases h5:(Pro.zi L len ((Pro.zi L len (n+1)).n+1)).v<(Pro.zi L len (n+1)).v
       ·have HO:Hid (Pro.zL L len n=(Pro.bad 4 (Pro.zx L len n) ((Pro.zi L len ((Pro.zi L len (n+1)).n+1)).n+1),0)):=by unfold Pro.zL;simp only [];rw [if_neg (by simp [hk]),if_neg h1,if_neg (by simp [h2]),if_neg h3,if_neg (by simp [hk2]),if_neg (by simp [h4]),if_pos h5];rfl
        clear h1 h2 h3 h4
        go_enter Tryz.func218,Tryz.ntmps218
        go_wp2_with (first |(go_at_call 94;refine (yg (n:=n) (Rp.t (by exact za X)) hL (by omega)).mono ?_;rintro e wq ⟨rfl,qq,rfl⟩) |(go_at_call 258;refine (xM (n:=n+1) (by exact ((za X).drewN _).setN _ _ (by omega)) hL (by omega) hF).mono ?_;rintro e wq ⟨xq,hT⟩;obtain rfl:=zM hT hk;clear hT;have X:=zb xq;have k0:=xq.r.k0;have c1:=xq.t.c1;have f1:=xq.t.f1;have k1:=xq.r.k1;have k2:=xq.r.k2;have q1:=xq.r.f1;have q2:=xq.r.f2) |(go_at_call 93;refine (yH (n:=(Pro.zi L len (n+1)).n) _ (by first |exact ((za X).set1 _).set2 _ |exact (((za X).set1 _).set2 _).drewN _) hL (by omega) (by decide) (by assumption)).mono ?_;rintro e wq ⟨rfl,qq,rfl⟩) |(go_at_call 93;refine (qS (n:=(Pro.zi L len (n+1)).n) _ (by exact (((za X).set1 _).set2 _).drewN _) hL (by omega) (by decide) (by assumption)).mono ?_;rintro e wq ⟨rfl,xq⟩;have xq:Rp _ _ b L (((Pro.zi L len (n+1)).n)+1) len dp a _ _ _ wq:=xq;have X:=zb xq;have k0:=xq.r.k0;have c1:=xq.t.c1;have f1:=xq.t.f1;have k1:=xq.r.k1;have k2:=xq.r.k2;have q1:=xq.r.f1;have q2:=xq.r.f2);(have hs4:=(za X).t.se.s4) |(go_at_call 93;refine (yH (n:=(Pro.zi L len (n+1)).n+1) _ (by exact za X) hL (by omega) (by decide) (by assumption)).mono ?_;rintro e wq ⟨rfl,qq,rfl⟩) |(go_at_call 258;refine (xM (n:=(Pro.zi L len (n+1)).n+1) (by exact (za X).drewN _) hL (by omega) hF).mono ?_;rintro e wq ⟨xq,hT⟩;obtain rfl:=zM hT hk2;clear hT;have X:=zb xq;have k0:=xq.r.k0;have c1:=xq.t.c1;have f1:=xq.t.f1;have k1:=xq.r.k1;have k2:=xq.r.k2;have q1:=xq.r.f1;have q2:=xq.r.f2);(have hs4:=(za X).t.se.s4) |(go_at_call 93;refine (qS (n:=(Pro.zi L len ((Pro.zi L len (n+1)).n+1)).n) _ (by exact (za X).set2 _) hL (by omega) (by decide) (by assumption)).mono ?_;rintro e wq ⟨rfl,xq⟩;have xq:Rp _ _ b L (((Pro.zi L len ((Pro.zi L len (n+1)).n+1)).n)+1) len dp a _ _ _ wq:=xq;have X:=zb xq;have k0:=xq.r.k0;have c1:=xq.t.c1;have f1:=xq.t.f1;have k1:=xq.r.k1;have k2:=xq.r.k2;have q1:=xq.r.f1;have q2:=xq.r.f2);(have hs4:=(za X).t.se.s4) |(go_at_call 62;refine (new_r (n:=(Pro.zi L len ((Pro.zi L len (n+1)).n+1)).n+1) _ 4 _ _ rfl (by exact za X)).mono ?_;rintro e wq ⟨v,rfl,hv,xq⟩;have X:=zb xq;have k0:=xq.r.k0;have c1:=xq.t.c1;have f1:=xq.t.f1;have k1:=xq.r.k1;have k2:=xq.r.k2;have q1:=xq.r.f1;have q2:=xq.r.f2))
        go_ret
        rw [za HO]
        exact ⟨Rp.t (n:=(Pro.zi L len ((Pro.zi L len (n+1)).n+1)).n+1) (za X),.inr ⟨(show (4:Nat)≠0 by decide),v,rfl,hv⟩⟩
       ·have HO:Hid (Pro.zL L len n=(Pro.good (Pro.zi L len (n+1)).v ((Pro.zi L len ((Pro.zi L len (n+1)).n+1)).n+1),(Pro.zi L len ((Pro.zi L len (n+1)).n+1)).v)):=by unfold Pro.zL;simp only [];rw [if_neg (by simp [hk]),if_neg h1,if_neg (by simp [h2]),if_neg h3,if_neg (by simp [hk2]),if_neg (by simp [h4]),if_neg h5];rfl
        clear h1 h2 h3 h4
        go_enter Tryz.func218,Tryz.ntmps218
        go_wp2_with (first |(go_at_call 94;refine (yg (n:=n) (Rp.t (by exact za X)) hL (by omega)).mono ?_;rintro e wq ⟨rfl,qq,rfl⟩) |(go_at_call 258;refine (xM (n:=n+1) (by exact ((za X).drewN _).setN _ _ (by omega)) hL (by omega) hF).mono ?_;rintro e wq ⟨xq,hT⟩;obtain rfl:=zM hT hk;clear hT;have X:=zb xq;have k0:=xq.r.k0;have c1:=xq.t.c1;have f1:=xq.t.f1;have k1:=xq.r.k1;have k2:=xq.r.k2;have q1:=xq.r.f1;have q2:=xq.r.f2) |(go_at_call 93;refine (yH (n:=(Pro.zi L len (n+1)).n) _ (by first |exact ((za X).set1 _).set2 _ |exact (((za X).set1 _).set2 _).drewN _) hL (by omega) (by decide) (by assumption)).mono ?_;rintro e wq ⟨rfl,qq,rfl⟩) |(go_at_call 93;refine (qS (n:=(Pro.zi L len (n+1)).n) _ (by exact (((za X).set1 _).set2 _).drewN _) hL (by omega) (by decide) (by assumption)).mono ?_;rintro e wq ⟨rfl,xq⟩;have xq:Rp _ _ b L (((Pro.zi L len (n+1)).n)+1) len dp a _ _ _ wq:=xq;have X:=zb xq;have k0:=xq.r.k0;have c1:=xq.t.c1;have f1:=xq.t.f1;have k1:=xq.r.k1;have k2:=xq.r.k2;have q1:=xq.r.f1;have q2:=xq.r.f2) |(go_at_call 93;refine (yH (n:=(Pro.zi L len (n+1)).n+1) _ (by exact za X) hL (by omega) (by decide) (by assumption)).mono ?_;rintro e wq ⟨rfl,qq,rfl⟩) |(go_at_call 258;refine (xM (n:=(Pro.zi L len (n+1)).n+1) (by exact (za X).drewN _) hL (by omega) hF).mono ?_;rintro e wq ⟨xq,hT⟩;obtain rfl:=zM hT hk2;clear hT;have X:=zb xq;have k0:=xq.r.k0;have c1:=xq.t.c1;have f1:=xq.t.f1;have k1:=xq.r.k1;have k2:=xq.r.k2;have q1:=xq.r.f1;have q2:=xq.r.f2) |(go_at_call 93;refine (qS (n:=(Pro.zi L len ((Pro.zi L len (n+1)).n+1)).n) _ (by exact (za X).set2 _) hL (by omega) (by decide) (by assumption)).mono ?_;rintro e wq ⟨rfl,xq⟩;have xq:Rp _ _ b L (((Pro.zi L len ((Pro.zi L len (n+1)).n+1)).n)+1) len dp a _ _ _ wq:=xq;have X:=zb xq;have k0:=xq.r.k0;have c1:=xq.t.c1;have f1:=xq.t.f1;have k1:=xq.r.k1;have k2:=xq.r.k2;have q1:=xq.r.f1;have q2:=xq.r.f2))
        go_ret
        rw [za HO]
        exact ⟨Rp.t (n:=(Pro.zi L len ((Pro.zi L len (n+1)).n+1)).n+1) (by exact za X),.inl ⟨rfl,rfl,Rp.r (n:=(Pro.zi L len ((Pro.zi L len (n+1)).n+1)).n+1) (by exact za X)⟩⟩
      ·have m4:Pro.zn L (Pro.zi L len ((Pro.zi L len (n+1)).n+1)).n { data:=#[125] }=false:=by rw [Pro.zm L _ 125 125 rfl];simp [h4]
       have HO:Hid (Pro.zL L len n=(Pro.bad 3 (Pro.zx L len (Pro.zi L len ((Pro.zi L len (n+1)).n+1)).n) (Pro.zi L len ((Pro.zi L len (n+1)).n+1)).n,0)):=by unfold Pro.zL;simp only [];rw [if_neg (by simp [hk]),if_neg h1,if_neg (by simp [h2]),if_neg h3,if_neg (by simp [hk2]),if_pos h4];rfl
       clear h1 h2 h3 h4
       go_enter Tryz.func218,Tryz.ntmps218
       go_wp2_with (first |(go_at_call 94;refine (yg (n:=n) (Rp.t (by exact za X)) hL (by omega)).mono ?_;rintro e wq ⟨rfl,qq,rfl⟩) |(go_at_call 258;refine (xM (n:=n+1) (by exact ((za X).drewN _).setN _ _ (by omega)) hL (by omega) hF).mono ?_;rintro e wq ⟨xq,hT⟩;obtain rfl:=zM hT hk;clear hT;have X:=zb xq;have k0:=xq.r.k0;have c1:=xq.t.c1;have f1:=xq.t.f1;have k1:=xq.r.k1;have k2:=xq.r.k2;have q1:=xq.r.f1;have q2:=xq.r.f2) |(go_at_call 93;refine (yH (n:=(Pro.zi L len (n+1)).n) _ (by first |exact ((za X).set1 _).set2 _ |exact (((za X).set1 _).set2 _).drewN _) hL (by omega) (by decide) (by assumption)).mono ?_;rintro e wq ⟨rfl,qq,rfl⟩) |(go_at_call 93;refine (qS (n:=(Pro.zi L len (n+1)).n) _ (by exact (((za X).set1 _).set2 _).drewN _) hL (by omega) (by decide) (by assumption)).mono ?_;rintro e wq ⟨rfl,xq⟩;have xq:Rp _ _ b L (((Pro.zi L len (n+1)).n)+1) len dp a _ _ _ wq:=xq;have X:=zb xq;have k0:=xq.r.k0;have c1:=xq.t.c1;have f1:=xq.t.f1;have k1:=xq.r.k1;have k2:=xq.r.k2;have q1:=xq.r.f1;have q2:=xq.r.f2) |(go_at_call 93;refine (yH (n:=(Pro.zi L len (n+1)).n+1) _ (by exact za X) hL (by omega) (by decide) (by assumption)).mono ?_;rintro e wq ⟨rfl,qq,rfl⟩) |(go_at_call 258;refine (xM (n:=(Pro.zi L len (n+1)).n+1) (by exact (za X).drewN _) hL (by omega) hF).mono ?_;rintro e wq ⟨xq,hT⟩;obtain rfl:=zM hT hk2;clear hT;have X:=zb xq;have k0:=xq.r.k0;have c1:=xq.t.c1;have f1:=xq.t.f1;have k1:=xq.r.k1;have k2:=xq.r.k2;have q1:=xq.r.f1;have q2:=xq.r.f2) |(go_at_call 93;refine (yH (n:=(Pro.zi L len ((Pro.zi L len (n+1)).n+1)).n) _ (by exact (za X).set2 _) hL (by omega) (by decide) (by assumption)).mono ?_;rintro e wq ⟨rfl,qq,rfl⟩) |(go_at_call 61;refine (Kv (n:=(Pro.zi L len ((Pro.zi L len (n+1)).n+1)).n) (by exact ((za X).set2 _).drewN _) hL (by omega)).mono ?_;rintro e wq ⟨v,rfl,hv,xq⟩;have X:=zb xq;have k0:=xq.r.k0;have c1:=xq.t.c1;have f1:=xq.t.f1;have k1:=xq.r.k1;have k2:=xq.r.k2;have q1:=xq.r.f1;have q2:=xq.r.f2))
       go_ret
       rw [za HO]
       exact ⟨Rp.t (n:=(Pro.zi L len ((Pro.zi L len (n+1)).n+1)).n) (za X),.inr ⟨(show (3:Nat)≠0 by decide),v,rfl,hv⟩⟩
     ·have HO:Hid (Pro.zL L len n=((Pro.zi L len ((Pro.zi L len (n+1)).n+1)),0)):=by unfold Pro.zL;simp only [];rw [if_neg (by simp [hk]),if_neg h1,if_neg (by simp [h2]),if_neg h3,if_pos hk2];rfl
      clear h1 h2 h3
      go_enter Tryz.func218,Tryz.ntmps218
      go_wp2_with (first |(go_at_call 94;refine (yg (n:=n) (Rp.t (by exact za X)) hL (by omega)).mono ?_;rintro e wq ⟨rfl,qq,rfl⟩) |(go_at_call 258;refine (xM (n:=n+1) (by exact ((za X).drewN _).setN _ _ (by omega)) hL (by omega) hF).mono ?_;rintro e wq ⟨xq,hT⟩;obtain rfl:=zM hT hk;clear hT;have X:=zb xq;have k0:=xq.r.k0;have c1:=xq.t.c1;have f1:=xq.t.f1;have k1:=xq.r.k1;have k2:=xq.r.k2;have q1:=xq.r.f1;have q2:=xq.r.f2) |(go_at_call 93;refine (yH (n:=(Pro.zi L len (n+1)).n) _ (by first |exact ((za X).set1 _).set2 _ |exact (((za X).set1 _).set2 _).drewN _) hL (by omega) (by decide) (by assumption)).mono ?_;rintro e wq ⟨rfl,qq,rfl⟩) |(go_at_call 93;refine (qS (n:=(Pro.zi L len (n+1)).n) _ (by exact (((za X).set1 _).set2 _).drewN _) hL (by omega) (by decide) (by assumption)).mono ?_;rintro e wq ⟨rfl,xq⟩;have xq:Rp _ _ b L (((Pro.zi L len (n+1)).n)+1) len dp a _ _ _ wq:=xq;have X:=zb xq;have k0:=xq.r.k0;have c1:=xq.t.c1;have f1:=xq.t.f1;have k1:=xq.r.k1;have k2:=xq.r.k2;have q1:=xq.r.f1;have q2:=xq.r.f2) |(go_at_call 93;refine (yH (n:=(Pro.zi L len (n+1)).n+1) _ (by exact za X) hL (by omega) (by decide) (by assumption)).mono ?_;rintro e wq ⟨rfl,qq,rfl⟩) |(go_at_call 258;refine (xM (n:=(Pro.zi L len (n+1)).n+1) (by exact (za X).drewN _) hL (by omega) hF).mono ?_;rintro e wq ⟨xq,hT⟩;obtain ⟨v,rfl,hv⟩:=xF hT hk2;obtain ⟨gv,hgv⟩:=hv.form;subst hgv;clear hT;have X:=zb xq;have k0:=xq.r.k0;have c1:=xq.t.c1;have f1:=xq.t.f1;have k1:=xq.r.k1;have k2:=xq.r.k2;have q1:=xq.r.f1;have q2:=xq.r.f2))
      go_ret
      rw [za HO]
      exact ⟨((za X).set2 _).t,.inr ⟨hk2,_,rfl,hv.keep ((zd.refl (fun g=>g=rb) _).setCell (p:=⟨rb,2,none⟩) (.inl rfl) _) (fun g hg e=>by omega)⟩⟩
   ·have m2:Pro.zn L (Pro.zi L len (n+1)).n { data:=#[44] }=false:=by rw [Pro.zm L _ 44 44 rfl];simp [h2]
    have HO:Hid (Pro.zL L len n=(Pro.bad 3 (Pro.zx L len (Pro.zi L len (n+1)).n) (Pro.zi L len (n+1)).n,0)):=by unfold Pro.zL;simp only [];rw [if_neg (by simp [hk]),if_neg h1,if_pos h2];rfl
    clear h1 h2
    go_enter Tryz.func218,Tryz.ntmps218
    go_wp2_with (first |(go_at_call 94;refine (yg (n:=n) (Rp.t (by exact za X)) hL (by omega)).mono ?_;rintro e wq ⟨rfl,qq,rfl⟩) |(go_at_call 258;refine (xM (n:=n+1) (by exact ((za X).drewN _).setN _ _ (by omega)) hL (by omega) hF).mono ?_;rintro e wq ⟨xq,hT⟩;obtain rfl:=zM hT hk;clear hT;have X:=zb xq;have k0:=xq.r.k0;have c1:=xq.t.c1;have f1:=xq.t.f1;have k1:=xq.r.k1;have k2:=xq.r.k2;have q1:=xq.r.f1;have q2:=xq.r.f2) |(go_at_call 93;refine (yH (n:=(Pro.zi L len (n+1)).n) _ (by first |exact ((za X).set1 _).set2 _ |exact (((za X).set1 _).set2 _).drewN _) hL (by omega) (by decide) (by assumption)).mono ?_;rintro e wq ⟨rfl,qq,rfl⟩) |(go_at_call 61;refine (Kv (n:=(Pro.zi L len (n+1)).n) (by exact (((za X).set1 _).set2 _).drewN _) hL (by omega)).mono ?_;rintro e wq ⟨v,rfl,hv,xq⟩;have X:=zb xq;have k0:=xq.r.k0;have c1:=xq.t.c1;have f1:=xq.t.f1;have k1:=xq.r.k1;have k2:=xq.r.k2;have q1:=xq.r.f1;have q2:=xq.r.f2))
    go_ret
    rw [za HO]
    exact ⟨Rp.t (n:=(Pro.zi L len (n+1)).n) (za X),.inr ⟨(show (3:Nat)≠0 by decide),v,rfl,hv⟩⟩
 ·have HO:Hid (Pro.zL L len n=((Pro.zi L len (n+1)),0)):=by unfold Pro.zL;simp only [];rw [if_pos hk];rfl
  go_enter Tryz.func218,Tryz.ntmps218
  go_wp2_with (first |(go_at_call 94;refine (yg (n:=n) (Rp.t (by exact za X)) hL (by omega)).mono ?_;rintro e wq ⟨rfl,qq,rfl⟩) |(go_at_call 258;refine (xM (n:=n+1) (by exact ((za X).drewN _).setN _ _ (by omega)) hL (by omega) hF).mono ?_;rintro e wq ⟨xq,hT⟩;obtain ⟨v,rfl,hv⟩:=xF hT hk;obtain ⟨gv,hgv⟩:=hv.form;subst hgv;clear hT;have X:=zb xq;have k0:=xq.r.k0;have c1:=xq.t.c1;have f1:=xq.t.f1;have k1:=xq.r.k1;have k2:=xq.r.k2;have q1:=xq.r.f1;have q2:=xq.r.f2))
  go_ret
  rw [za HO]
  exact ⟨(za X).t,.inr ⟨hk,_,rfl,hv⟩⟩
namespace Pro
def zC (L:List (Int×Int))(len:Int)(n:Nat):Bool×Out×Int:=
 if ze L n=42 then (true,good 0 (n+1),-1)
 else if ze L n=43 then (true,good 1 (n+1),-1)
 else if ze L n=63 then (true,good 0 (n+1),1)
 else if ze L n=123 then (true,zL L len n)
 else (false,good 0 n,0)
def wE (L:List (Int×Int))(n:Nat):Nat:=if ze L n=63 then n+1 else n
end Pro
def Quants (b:Nat)(L:List (Int×Int))(len dp:Int)(a:Nat→Addr)(w:World)(p:Value)(o:Bool×Pro.Out×Int)(x:Ending)(w':World):Prop:=
 zd (zo b) w w'∧((o.1=false∧x = .returned (.tuple #[p,.nilIface])∧zG w' b L o.2.1.n len dp)∨
  (o.1=true∧o.2.1.k=0∧x = .returned (.tuple #[.iface 215 (.agg #[p,.int .i64 o.2.1.v,.int .i64 o.2.2]),.nilIface])∧zG w' b L (Pro.wE L o.2.1.n) len dp)∨
  (o.1=true∧o.2.1.k≠0∧zG w' b L o.2.1.n len dp∧∃ v,x = .returned (.tuple #[.nilIface,v])∧zA w' w.heap.size v (zE a o.2.1.k) o.2.1.p))
theorem X4 {rb:Nat}{w0:World}{b:Nat}{L:List (Int×Int)}{n:Nat}{len dp:Int}{a:Nat→Addr}{p:Value}{l m:Int}{w:World}(h:Rp rb w0 b L n len dp a p l m w)(hL:L.length≤400)(hn:n≤1000) :
  Calls Tryz.prog 93 #[.pointer (some ⟨b,0,none⟩),.string { data:=#[63] }] w fun x w'=>∃ q,x = .returned (.bool q)∧Rp rb w0 b L (Pro.wE L n) len dp a p l m w':=
 (QV b L n len dp { data:=#[63] } w h.t.rd hL hn (by decide)).mono (by
  rintro e w1 ⟨rfl,h1,h2⟩
  refine ⟨_,rfl,h.mine h2 ?_⟩
  have:Pro.behind L n { data:=#[63] }=Pro.wE L n:=by
   unfold Pro.wE
   by_cases h63:Pro.ze L n=63
   ·rw [if_pos h63];exact Pro.vJ (by rw [Pro.zm L n 63 63 rfl];simp [h63])
   ·rw [if_neg h63];exact Pro.Zb (by rw [Pro.zm L n 63 63 rfl];simp [h63])
  rw [this] at h1
  exact h1)
theorem Rp.start {b:Nat}{L:List (Int×Int)}{n:Nat}{len dp:Int}{a:Nat→Addr}{w:World}(p:Value)(h:zG w b L n len dp)(hS:zK w a)(hb:10≤b):Rp w.heap.size (w.alloc (.cells #[p,.int .i64 0,.int .i64 0] 215)) b L n len dp a p 0 0 (w.alloc (.cells #[p,.int .i64 0,.int .i64 0] 215)):=
 have t:=(Trk.start h hS hb).calm ((zd.refl _ _).alloc (.cells #[p,.int .i64 0,.int .i64 0] 215))
 ⟨⟨t.rd,t.se,zd.refl _ _,t.hb,h.lt,by simp⟩,⟨zj w _ rfl _ _ 0 _ rfl,zj w _ rfl _ _ 1 _ rfl,zj w _ rfl _ _ 2 _ rfl,zz w _ rfl _ _ 1,zz w _ rfl _ _ 2⟩⟩
namespace Pro
theorem Yu {L:List (Int×Int)}{len:Int}(n:Nat)(h:n<L.length):n≤(zL L len n).1.n∧(zL L len n).1.n≤L.length:=by
 have ha:=jd (L:=L) (len:=len) (n+1) (by omega)
 unfold zL
 simp only []
 split
 ·simp only [];omega
 split
 ·have:=zr (L:=L) (n:=(zi L len (n+1)).n) (by omega)
  simp only [good];omega
 split
 ·simp only [bad];omega
 rename_i h44
 have h1:=zr (L:=L) (n:=(zi L len (n+1)).n) (by omega)
 split
 ·have:=zr (L:=L) (n:=(zi L len (n+1)).n+1) (by omega)
  simp only [good];omega
 have hm:=jd (L:=L) (len:=len) ((zi L len (n+1)).n+1) (by omega)
 split
 ·simp only [];omega
 split
 ·simp only [bad];omega
 rename_i h125
 have h2:=zr (L:=L) (n:=(zi L len ((zi L len (n+1)).n+1)).n) (by omega)
 split
 ·simp only [bad];omega
 ·simp only [good];omega
end Pro
theorem Yv (b:Nat)(L:List (Int×Int))(n:Nat)(len dp:Int)(a:Nat→Addr)(w:World)(TT:TypeId)(px:Value)(h:zG w b L n len dp)(hS:zK w a)(hb:10≤b)(hL:L.length≤400)(hn:n≤L.length)(hF:Pro.Fit L) :
  Calls Tryz.prog 170 #[.pointer (some ⟨b,0,none⟩),.iface TT px] w (Quants b L len dp a w (.iface TT px) (Pro.zC L len n)):=by
 have X0:=zb (Rp.start (.iface TT px) h hS hb)
 clear h hS
 by_cases h42:Pro.ze L n=42
 ·have m42:Pro.zn L n { data:=#[42] }=true:=by rw [Pro.zm L n 42 42 rfl];simp [h42]
  have HO:Hid (Pro.zC L len n=(true,Pro.good 0 (n+1),-1)):=by unfold Pro.zC;rw [if_pos h42];rfl
  clear h42
  go_enter Tryz.func170,Tryz.ntmps170
  go_wp2_with fail
  have HW:Hid (zd (zo b) w (w.alloc (.cells #[.iface TT px,.int .i64 0,.int .i64 0] 215))):=(zd.refl _ _).alloc _
  have hsz:w.heap.size<(w.alloc (.cells #[.iface TT px,.int .i64 0,.int .i64 0] 215)).heap.size:=by simp
  have X:=za X0
  generalize w.alloc (.cells #[.iface TT px,.int .i64 0,.int .i64 0] 215)=W at *
  have hrb:w.heap.size≤w.heap.size:=Nat.le_refl _
  generalize hrbe:w.heap.size=rb at *
  have c1:=X.t.c1
  have f1:=X.t.f1
  have k0:=X.r.k0
  have k1:=X.r.k1
  have k2:=X.r.k2
  have q1:=X.r.f1
  have q2:=X.r.f2
  have X:=zb X
  clear X0
  go_wp2_with (first |(go_at_call 93;refine (qS (n:=n) _ (by exact za X) hL (by omega) (by decide) (by assumption)).mono ?_;rintro e wq ⟨rfl,xq⟩;have xq:Rp _ _ b L ((n)+1) len dp a _ _ _ wq:=xq;have X:=zb xq;have k0:=xq.r.k0;have c1:=xq.t.c1;have f1:=xq.t.f1;have k1:=xq.r.k1;have k2:=xq.r.k2;have q1:=xq.r.f1;have q2:=xq.r.f2) |(go_at_call 93;refine (X4 (n:=n+1) (by exact (za X).set2 _) hL (by omega)).mono ?_;rintro e wq ⟨lz,rfl,xq⟩;have X:=zb xq;have k0:=xq.r.k0;have c1:=xq.t.c1;have f1:=xq.t.f1;have k1:=xq.r.k1;have k2:=xq.r.k2;have q1:=xq.r.f1;have q2:=xq.r.f2))
  go_ret2
  rw [za HO]
  exact ⟨Own.back (za HW) (za X).t.on (by omega),.inr (.inl ⟨rfl,rfl,rfl,(za X).t.rd⟩)⟩
 ·have m42:Pro.zn L n { data:=#[42] }=false:=by rw [Pro.zm L n 42 42 rfl];simp [h42]
  by_cases h43:Pro.ze L n=43
  ·have m43:Pro.zn L n { data:=#[43] }=true:=by rw [Pro.zm L n 43 43 rfl];simp [h43]
   have HO:Hid (Pro.zC L len n=(true,Pro.good 1 (n+1),-1)):=by unfold Pro.zC;rw [if_neg h42,if_pos h43];rfl
   clear h42 h43
   go_enter Tryz.func170,Tryz.ntmps170
   go_wp2_with fail
   have HW:Hid (zd (zo b) w (w.alloc (.cells #[.iface TT px,.int .i64 0,.int .i64 0] 215))):=(zd.refl _ _).alloc _
   have hsz:w.heap.size<(w.alloc (.cells #[.iface TT px,.int .i64 0,.int .i64 0] 215)).heap.size:=by simp
   have X:=za X0
   generalize w.alloc (.cells #[.iface TT px,.int .i64 0,.int .i64 0] 215)=W at *
   have hrb:w.heap.size≤w.heap.size:=Nat.le_refl _
   generalize hrbe:w.heap.size=rb at *
   have c1:=X.t.c1
   have f1:=X.t.f1
   have k0:=X.r.k0
   have k1:=X.r.k1
   have k2:=X.r.k2
   have q1:=X.r.f1
   have q2:=X.r.f2
   have X:=zb X
   clear X0
   go_wp2_with (first |(go_at_call 93;refine (yH (n:=n) _ (by first |exact za X |exact (za X).drewN _) hL (by omega) (by decide) (by assumption)).mono ?_;rintro e wq ⟨rfl,qq,rfl⟩) |(go_at_call 93;refine (qS (n:=n) _ (by exact (za X).drewN _) hL (by omega) (by decide) (by assumption)).mono ?_;rintro e wq ⟨rfl,xq⟩;have xq:Rp _ _ b L ((n)+1) len dp a _ _ _ wq:=xq;have X:=zb xq;have k0:=xq.r.k0;have c1:=xq.t.c1;have f1:=xq.t.f1;have k1:=xq.r.k1;have k2:=xq.r.k2;have q1:=xq.r.f1;have q2:=xq.r.f2) |(go_at_call 93;refine (X4 (n:=n+1) (by exact ((za X).set1 _).set2 _) hL (by omega)).mono ?_;rintro e wq ⟨lz,rfl,xq⟩;have X:=zb xq;have k0:=xq.r.k0;have c1:=xq.t.c1;have f1:=xq.t.f1;have k1:=xq.r.k1;have k2:=xq.r.k2;have q1:=xq.r.f1;have q2:=xq.r.f2))
   go_ret2
   rw [za HO]
   exact ⟨Own.back (za HW) (za X).t.on (by omega),.inr (.inl ⟨rfl,rfl,rfl,(za X).t.rd⟩)⟩
  ·have m43:Pro.zn L n { data:=#[43] }=false:=by rw [Pro.zm L n 43 43 rfl];simp [h43]
   by_cases h63:Pro.ze L n=63
   ·have m63:Pro.zn L n { data:=#[63] }=true:=by rw [Pro.zm L n 63 63 rfl];simp [h63]
    have HO:Hid (Pro.zC L len n=(true,Pro.good 0 (n+1),1)):=by unfold Pro.zC;rw [if_neg h42,if_neg h43,if_pos h63];rfl
    clear h42 h43 h63
    go_enter Tryz.func170,Tryz.ntmps170
    go_wp2_with fail
    have HW:Hid (zd (zo b) w (w.alloc (.cells #[.iface TT px,.int .i64 0,.int .i64 0] 215))):=(zd.refl _ _).alloc _
    have hsz:w.heap.size<(w.alloc (.cells #[.iface TT px,.int .i64 0,.int .i64 0] 215)).heap.size:=by simp
    have X:=za X0
    generalize w.alloc (.cells #[.iface TT px,.int .i64 0,.int .i64 0] 215)=W at *
    have hrb:w.heap.size≤w.heap.size:=Nat.le_refl _
    generalize hrbe:w.heap.size=rb at *
    have c1:=X.t.c1
    have f1:=X.t.f1
    have k0:=X.r.k0
    have k1:=X.r.k1
    have k2:=X.r.k2
    have q1:=X.r.f1
    have q2:=X.r.f2
    have X:=zb X
    clear X0
    go_wp2_with (first |(go_at_call 93;refine (yH (n:=n) _ (by first |exact za X |exact (za X).drewN _) hL (by omega) (by decide) (by assumption)).mono ?_;rintro e wq ⟨rfl,qq,rfl⟩) |(go_at_call 93;refine (qS (n:=n) _ (by exact (za X).drewN _) hL (by omega) (by decide) (by assumption)).mono ?_;rintro e wq ⟨rfl,xq⟩;have xq:Rp _ _ b L ((n)+1) len dp a _ _ _ wq:=xq;have X:=zb xq;have k0:=xq.r.k0;have c1:=xq.t.c1;have f1:=xq.t.f1;have k1:=xq.r.k1;have k2:=xq.r.k2;have q1:=xq.r.f1;have q2:=xq.r.f2) |(go_at_call 93;refine (X4 (n:=n+1) (by exact (za X).set2 _) hL (by omega)).mono ?_;rintro e wq ⟨lz,rfl,xq⟩;have X:=zb xq;have k0:=xq.r.k0;have c1:=xq.t.c1;have f1:=xq.t.f1;have k1:=xq.r.k1;have k2:=xq.r.k2;have q1:=xq.r.f1;have q2:=xq.r.f2))
    go_ret2
    rw [za HO]
    exact ⟨Own.back (za HW) (za X).t.on (by omega),.inr (.inl ⟨rfl,rfl,rfl,(za X).t.rd⟩)⟩
   ·have m63:Pro.zn L n { data:=#[63] }=false:=by rw [Pro.zm L n 63 63 rfl];simp [h63]
    by_cases h123:Pro.ze L n=123
    ·have hlt:n<L.length:=Pro.zr (by omega)
     have h123':(Pro.ze L n == 123)=true:=by simp [h123]
     have HO:Hid (Pro.zC L len n=(true,Pro.zL L len n)):=by unfold Pro.zC;rw [if_neg h42,if_neg h43,if_neg h63,if_pos h123];rfl
     clear h42 h43 h63 h123
     have hcb:=Pro.Yu (len:=len) n hlt
     by_cases hk:(Pro.zL L len n).1.k=0
     ·skip
      go_enter Tryz.func170,Tryz.ntmps170
      go_wp2_with fail
      have HW:Hid (zd (zo b) w (w.alloc (.cells #[.iface TT px,.int .i64 0,.int .i64 0] 215))):=(zd.refl _ _).alloc _
      have hsz:w.heap.size<(w.alloc (.cells #[.iface TT px,.int .i64 0,.int .i64 0] 215)).heap.size:=by simp
      have X:=za X0
      generalize w.alloc (.cells #[.iface TT px,.int .i64 0,.int .i64 0] 215)=W at *
      have hrb:w.heap.size≤w.heap.size:=Nat.le_refl _
      generalize hrbe:w.heap.size=rb at *
      have c1:=X.t.c1
      have f1:=X.t.f1
      have k0:=X.r.k0
      have k1:=X.r.k1
      have k2:=X.r.k2
      have q1:=X.r.f1
      have q2:=X.r.f2
      have X:=zb X
      clear X0
      go_wp2_with (first |(go_at_call 93;refine (yH (n:=n) _ (by first |exact za X |exact (za X).drewN _) hL (by omega) (by decide) (by assumption)).mono ?_;rintro e wq ⟨rfl,qq,rfl⟩) |(go_at_call 131;refine (yh (n:=n) (Rp.t (by exact (za X).drewN _)) hL (by omega)).mono ?_;rintro e wq ⟨rfl,hwq⟩;obtain rfl:=hwq.symm;clear hwq) |(go_at_call 218;refine (ZA rb W b L n len dp a (.iface TT px) 0 0 _ (by exact (za X).drewN _) hL hlt hF hsz).mono ?_;rintro e wc ⟨tq,hT⟩;obtain ⟨rfl,hr⟩:=kR hT hk;clear hT;have xq:Rp rb W b L _ len dp a _ _ _ wc:=⟨tq,hr⟩;have X:=zb xq;have k0:=xq.r.k0;have c1:=xq.t.c1;have f1:=xq.t.f1;have k1:=xq.r.k1;have k2:=xq.r.k2;have q1:=xq.r.f1;have q2:=xq.r.f2) |(go_at_call 93;refine (X4 (n:=(Pro.zL L len n).1.n) (by exact za X) hL (by omega)).mono ?_;rintro e wq ⟨lz,rfl,xq⟩;have X:=zb xq;have k0:=xq.r.k0;have c1:=xq.t.c1;have f1:=xq.t.f1;have k1:=xq.r.k1;have k2:=xq.r.k2;have q1:=xq.r.f1;have q2:=xq.r.f2))
      go_ret2
      rw [za HO]
      exact ⟨Own.back (za HW) (za X).t.on (by omega),.inr (.inl ⟨rfl,hk,rfl,(za X).t.rd⟩)⟩
     ·skip
      go_enter Tryz.func170,Tryz.ntmps170
      go_wp2_with fail
      have HW:Hid (zd (zo b) w (w.alloc (.cells #[.iface TT px,.int .i64 0,.int .i64 0] 215))):=(zd.refl _ _).alloc _
      have hsz:w.heap.size<(w.alloc (.cells #[.iface TT px,.int .i64 0,.int .i64 0] 215)).heap.size:=by simp
      have X:=za X0
      generalize w.alloc (.cells #[.iface TT px,.int .i64 0,.int .i64 0] 215)=W at *
      have hrb:w.heap.size≤w.heap.size:=Nat.le_refl _
      generalize hrbe:w.heap.size=rb at *
      have c1:=X.t.c1
      have f1:=X.t.f1
      have k0:=X.r.k0
      have k1:=X.r.k1
      have k2:=X.r.k2
      have q1:=X.r.f1
      have q2:=X.r.f2
      have X:=zb X
      clear X0
      go_wp2_with (first |(go_at_call 93;refine (yH (n:=n) _ (by first |exact za X |exact (za X).drewN _) hL (by omega) (by decide) (by assumption)).mono ?_;rintro e wq ⟨rfl,qq,rfl⟩) |(go_at_call 131;refine (yh (n:=n) (Rp.t (by exact (za X).drewN _)) hL (by omega)).mono ?_;rintro e wq ⟨rfl,hwq⟩;obtain rfl:=hwq.symm;clear hwq) |(go_at_call 218;refine (ZA rb W b L n len dp a (.iface TT px) 0 0 _ (by exact (za X).drewN _) hL hlt hF hsz).mono ?_;rintro e wc ⟨tq,hT⟩;obtain ⟨v,rfl,hv⟩:=XZ hT hk;clear hT;obtain ⟨gv,hgv⟩:=hv.form;subst hgv;have T:=zb tq))
      go_ret2
      rw [za HO]
      exact ⟨Own.back (za HW) (za T).on (by omega),.inr (.inr ⟨rfl,hk,(za T).rd,_,rfl,hv.base (by omega)⟩)⟩
    ·have h123':(Pro.ze L n == 123)=false:=by simp [h123]
     have HO:Hid (Pro.zC L len n=(false,Pro.good 0 n,0)):=by unfold Pro.zC;rw [if_neg h42,if_neg h43,if_neg h63,if_neg h123];rfl
     clear h42 h43 h63 h123
     go_enter Tryz.func170,Tryz.ntmps170
     go_wp2_with fail
     have HW:Hid (zd (zo b) w (w.alloc (.cells #[.iface TT px,.int .i64 0,.int .i64 0] 215))):=(zd.refl _ _).alloc _
     have hsz:w.heap.size<(w.alloc (.cells #[.iface TT px,.int .i64 0,.int .i64 0] 215)).heap.size:=by simp
     have X:=za X0
     generalize w.alloc (.cells #[.iface TT px,.int .i64 0,.int .i64 0] 215)=W at *
     have hrb:w.heap.size≤w.heap.size:=Nat.le_refl _
     generalize hrbe:w.heap.size=rb at *
     have c1:=X.t.c1
     have f1:=X.t.f1
     have k0:=X.r.k0
     have k1:=X.r.k1
     have k2:=X.r.k2
     have q1:=X.r.f1
     have q2:=X.r.f2
     have X:=zb X
     clear X0
     go_wp2_with (first |(go_at_call 93;refine (yH (n:=n) _ (by first |exact za X |exact (za X).drewN _) hL (by omega) (by decide) (by assumption)).mono ?_;rintro e wq ⟨rfl,qq,rfl⟩) |(go_at_call 131;refine (yh (n:=n) (Rp.t (by exact (za X).drewN _)) hL (by omega)).mono ?_;rintro e wq ⟨rfl,hwq⟩;obtain rfl:=hwq.symm;clear hwq))
     go_ret2
     rw [za HO]
     exact ⟨Own.back (za HW) ((za X).drewN _).t.on (by omega),.inl ⟨rfl,rfl,((za X).drewN _).t.rd⟩⟩
end
end Go.Proofs.YtfnkbmglodopkaaGreatDoor
