/- A pattern that stands within brackets reads as it does alone (or its brackets are too deep). -/
import Derived.Test.YtfnkbmglodopkaaGreatDoorUTeOTeB
namespace Go.Proofs.YtfnkbmglodopkaaGreatDoor
section
open Sm (Tree)
namespace Pro
structure Shf (L L':List (Int×Int))(d:Nat):Prop where
 inn:∀ k,k<L.length→zf L' (k+d)=zf L k
 close:zf L' (L.length+d)=41
section
variable {L L':List (Int×Int)} {len len':Int} {d:Nat}
theorem Shf.look (h:Shf L L' d){k:Nat}(hk:k≤L.length):zf L' (k+d)=zf L k∨(zf L k = -1∧zf L' (k+d)=41):=by
 rcases Nat.lt_or_ge k L.length with h1 |h1
 ·exact .inl (h.inn k h1)
 ·have e:k=L.length:=by omega
  subst e
  exact .inr ⟨zO (Nat.le_refl _),h.close⟩
theorem Shf.long (h:Shf L L' d):L.length+d<L'.length:=zq (by rw [h.close];decide)
end
end Pro
namespace Pro
section
variable {L L':List (Int×Int)} {len len':Int} {d:Nat} {D D':Nat→Out} {DT DT':Nat→Tree}
end
end Pro
namespace Pro
section
variable {L:List (Int×Int)} {len:Int}
variable {D:Nat→Out}
end
end Pro
theorem Xf {x y:ByteArray}{k:Nat}(h:k<x.size):zd (x++y) k=zd x k:=by
 rw [xZ _ _ (by simp;omega),xZ _ _ h]
 congr 2
 exact ByteArray.getElem_append_left h
theorem Z1 {x y:ByteArray}{k:Nat}:zd (x++y) (x.size+k)=zd y k:=by
 by_cases h:k<y.size
 ·rw [xZ _ _ (by simp;omega),xZ _ _ h]
  congr 2
  rw [ByteArray.getElem_append_right (by omega)]
  congr 1
  omega
 ·rw [Zq _ _ (by simp;omega),Zq _ _ (by omega)]
structure At (T s:ByteArray)(d:Nat):Prop where
 le:d+s.size≤T.size
 eq:∀ k,k<s.size→zd T (d+k)=zd s k
theorem At.refl (s:ByteArray):At s s 0:=⟨by omega,fun k _=>by rw [Nat.zero_add]⟩
theorem At.left {T s:ByteArray}{d:Nat}(h:At T s d)(y:ByteArray):At (T++y) s d:=⟨by have:=h.le;simp;omega,fun k hk=>by rw [Xf (by have:=h.le;omega)];exact h.eq k hk⟩
theorem At.right (x y:ByteArray):At (x++y) y x.size:=⟨by simp,fun k _=>Z1⟩
namespace Ref
theorem Je {s T:ByteArray}{p q n:Nat}{c:Int}(h:oneF s p=some (n,c))(hq:q+n≤T.size)(hb:∀ k,k<n→zd T (q+k)=zd s (p+k)):oneF T q=some (n,c):=by
 obtain ⟨h1,h4,hp,hv,hc,he⟩:=Kc.of_one h
 have e:Kc.valueV T q n=Kc.valueV s p n∧Kc.bytesI T q n=Kc.bytesI s p n:=by
  have b0:=hb 0 (by omega)
  rw [Nat.add_zero,Nat.add_zero] at b0
  obtain rfl |rfl |rfl |rfl:n=1∨n=2∨n=3∨n=4:=by omega
  ·rw [Kc.val1,Kc.val1,Kc.bytes1,Kc.bytes1,b0];exact ⟨rfl,rfl⟩
  ·rw [Kc.val2,Kc.val2,Kc.bytes2,Kc.bytes2,b0,hb 1 (by omega)];exact ⟨rfl,rfl⟩
  ·rw [Kc.val3,Kc.val3,Kc.bytes3,Kc.bytes3,b0,hb 1 (by omega),hb 2 (by omega)];exact ⟨rfl,rfl⟩
  ·rw [Kc.val4,Kc.val4,Kc.bytes4,Kc.bytes4,b0,hb 1 (by omega),hb 2 (by omega),hb 3 (by omega)];exact ⟨rfl,rfl⟩
 have:=Kc.one_of h1 h4 hq (by rw [e.1,hv];exact hc) (by rw [e.1,e.2,hv];exact he)
 rw [this,e.1,hv]
theorem Good.of_next {s:ByteArray}{p n:Nat}{c:Int}(h:oneF s p=some (n,c))(hg:Good s (p+n)):Good s p:=by
 obtain ⟨f,hf⟩:=hg
 have:=qC h
 exact ⟨f+1,by simp only [Zn];rw [if_pos (by omega),h];exact hf⟩
theorem Good.fin (s:ByteArray):Good s s.size:=⟨0,by simp [Zn]⟩
theorem Qh {s:ByteArray}:∀ (f p:Nat) (acc:List (Int×Int)),Good s p→(xL s f p acc).2 = -1
 |0,_,_,_=>rfl
 |f+1,p,acc,h=>by
  by_cases hp:p<s.size
  ·obtain ⟨n,c,h1,hg⟩:=h.next hp
   rw [qW hp h1]
   exact Qh f _ _ hg
  ·rw [vE hp]
theorem Z3 {s:ByteArray}:(zo s).2<0↔Good s 0:=by
 constructor
 ·intro h
  refine vM s (s.size+1) 0 [] (by omega) ?_ (by omega)
  have:(zo s).2 = -1:=by
   rcases Eqv.ZU s with ⟨a,_⟩ |⟨a,_⟩
   ·exact a
   ·omega
  exact this
 ·intro h
  have:=Qh (s.size+1) 0 [] h
  unfold zo
  omega
theorem Good.move {T s:ByteArray}{d:Nat}(h:At T s d)(hT:Good T (d+s.size)):∀ (f p:Nat),s.size<p+f→Good s p→Good T (d+p)
 |0,p,hf,hg=>by have:=hg.le;omega
 |f+1,p,hf,hg=>by
  by_cases hp:p<s.size
  ·obtain ⟨n,c,h1,hg2⟩:=hg.next hp
   have bd:=qC h1
   have hle:=h.le
   have h2:oneF T (d+p)=some (n,c):=Je h1 (by omega) (fun k hk=>by rw [Nat.add_assoc];exact h.eq _ (by omega))
   exact Good.of_next h2 (by rw [Nat.add_assoc];exact Good.move h hT f (p+n) (by omega) hg2)
  ·have:=hg.le
   have e:p=s.size:=by omega
   subst e
   exact hT
theorem Good.app {T s:ByteArray}{d:Nat}(h:At T s d)(hs:(zo s).2<0)(hT:Good T (d+s.size)):Good T d:=by
 have:=Good.move h hT (s.size+1) 0 (by omega) (Z3.1 hs)
 simpa using this
end Ref
namespace Pro
theorem vd {s:ByteArray}{f p:Nat}(h:s.size≤p):letM s f p=[]:=by
 cases f with
 |zero=>rfl
 |succ f=>
  have:yi s p=none:=by unfold yi;rw [if_neg (by omega)]
  simp only [letM,this]
theorem Jf {s:ByteArray}:∀ (f f' p:Nat),s.size<p+f→s.size<p+f'→letM s f p=letM s f' p
 |0,f',p,hf,_=>by rw [vd (by omega),vd (by omega)]
 |f+1,0,p,_,hf=>by rw [vd (by omega),vd (by omega)]
 |f+1,f'+1,p,hf,hf'=>by
  simp only [letM]
  cases h:yi s p with
  |none=>rfl
  |some x=>
   obtain ⟨n,c⟩:=x
   have:=XY h
   simp only
   rw [Jf f f' n (by omega) (by omega)]
theorem Jg {T s:ByteArray}{d:Nat}(h:At T s d):∀ (f p:Nat),s.size<p+f→Ref.Good s p→∀ f' f'',T.size<d+p+f'→T.size<d+s.size+f''→letM T f' (d+p)=(letM s f p).map (fun x=>(x.1+(d:Int),x.2))++letM T f'' (d+s.size)
 |0,p,hf,hg,_,_,_,_=>by have:=hg.le;omega
 |f+1,p,hf,hg,f',f'',h1,h2=>by
  have hle:=h.le
  by_cases hp:p<s.size
  ·obtain ⟨n,c,ho,hg2⟩:=hg.next hp
   have bd:=Ref.qC ho
   have ho2:Ref.oneF T (d+p)=some (n,c):=Ref.Je ho (by omega) (fun k hk=>by rw [Nat.add_assoc];exact h.eq _ (by omega))
   have r1:yi s p=some (p+n,c):=by rw [Eqv.jE hp,ho];rfl
   have r2:yi T (d+p)=some (d+p+n,c):=by rw [Eqv.jE (by omega),ho2];rfl
   cases f' with
   |zero=>omega
   |succ f'=>
    simp only [letM,r1,r2,List.map_cons,List.cons_append]
    have ih:=Jg h f (p+n) (by omega) hg2 f' f'' (by omega) h2
    rw [show d+p+n=d+(p+n) by omega,ih]
    congr 2
    omega
  ·have:=hg.le
   have e:p=s.size:=by omega
   subst e
   rw [vd (Nat.le_refl _)]
   exact Jf _ _ _ (by omega) (by omega)
def lets (s:ByteArray):List (Int×Int):=letM s (s.size+1) 0
def sft (d:Nat)(L:List (Int×Int)):List (Int×Int):=L.map (fun x=>(x.1+(d:Int),x.2))
def letF (T:ByteArray)(p:Nat):List (Int×Int):=letM T (T.size+1) p
theorem jG {T s:ByteArray}{d:Nat}(h:At T s d)(hs:(Ref.zo s).2<0):letF T d=sft d (lets s)++letF T (d+s.size):=by
 have:=Jg h (s.size+1) 0 (by omega) (Ref.Z3.1 hs) (T.size+1) (T.size+1) (by omega) (by omega)
 simpa [letF,sft,lets] using this
theorem Vm (T:ByteArray){p:Nat}(h:T.size≤p):letF T p=[]:=vd h
theorem Jh (T:ByteArray):letF T 0=lets T:=rfl
theorem qk (d:Nat)(L:List (Int×Int)):(sft d L).length=L.length:=by unfold sft;simp
theorem xf (d:Nat)(L:List (Int×Int))(k:Nat):zf (sft d L) k=zf L k:=by
 unfold zf sft
 rw [List.getElem?_map]
 cases L[k]?<;>rfl
theorem qr {A B:List (Int×Int)}{k:Nat}(h:k<A.length):zf (A++B) k=zf A k:=by
 unfold zf
 rw [List.getElem?_append_left h]
theorem yS {A B:List (Int×Int)}{k:Nat}:zf (A++B) (k+A.length)=zf B k:=by
 unfold zf
 rw [List.getElem?_append_right (by omega)]
 rw [show k+A.length-A.length=k by omega]
end Pro
namespace Pro
section
variable {L L':List (Int×Int)} {len len':Int} {D:Nat→Out} {DT:Nat→Tree}
theorem yh {f n m:Nat}{s v:Int}{ts:List Tree}(hs:yx L n=false)(h:zV L len D n=good v m):yp L len D (f+1) s n=yp L len D f (min (s+v) 301) m∧xt L len D DT (f+1) ts n=xt L len D DT f (ts++[xO L len D DT n]) m:=by
 have hv:(good v m).v=v:=rfl
 have hm:(good v m).n=m:=rfl
 have hk:(good v m).k=0:=rfl
 constructor
 ·rw [yp,hs,h,hk,hv,hm]
  simp
 ·rw [xt,hs,h,hm]
  simp
theorem xF {f n:Nat}{s:Int}{ts:List Tree}(hs:yx L n=true):yp L len D (f+1) s n=good s n∧xt L len D DT (f+1) ts n=ts:=by
 constructor
 ·rw [yp,hs];rfl
 ·rw [xt,hs];rfl
theorem zaH {n:Nat}(h:asN L n≠0):zV L len D n=good 1 (n+asN L n)∧xO L len D DT n=tAsr (asV L n):=by
 unfold zV xO
 rw [if_pos h,if_pos h]
 exact ⟨rfl,rfl⟩
theorem Z4 {f n m:Nat}{zs:List Int}{ts:List Tree}{s:Int}{t:Tree}(hT:zw L len D n=good s m)(hQ:yq L len D DT n=t)(hb:zf L m≠124):altO L len D (f+1) zs n=good (min (sumS 0 (zs++[s])+((zs.length:Int)+1)-1) 301) m∧altT L len D DT (f+1) ts n=ts++[t]:=by
 have hk:(good s m).k=0:=rfl
 have hm:(good s m).n=m:=rfl
 have hv:(good s m).v=s:=rfl
 rw [altO,altT,hT,hk,hm,hv,hQ,if_neg hb,if_neg hb]
 simp
theorem alt_bad {f n:Nat}{zs:List Int}(hT:(zw L len D n).k=7):(altO L len D (f+1) zs n).k=7:=by
 rw [altO,if_pos (by rw [hT];decide)]
 exact hT
end
theorem Kg (v:Int)(n:Nat):(good v n).k=0:=rfl
theorem Kh (v:Int)(n:Nat):(good v n).n=n:=rfl
theorem Ki (v:Int)(n:Nat):(good v n).v=v:=rfl
def zD (s:ByteArray):Out:=altP (lets s) (s.size:Nat) (zl (lets s) (s.size:Nat) 10) 0
def zE (s:ByteArray):Tree:=altQ (lets s) (s.size:Nat) (zl (lets s) (s.size:Nat) 10) (zH (lets s) (s.size:Nat) 10) 0
structure Reads (s:ByteArray):Prop where
 ch:(Ref.zo s).2<0
 k:(zD s).k=0
 n:(zD s).n=(lets s).length
end Pro
end
section
open Go.RowKit
open Sm (Stp Tree capT)
set_option maxHeartbeats 2000000
set_option maxRecDepth 1000000
theorem Kj (s:ByteArray)(w:World)(t:Tree)(v:Int)(hv:v<300)(ht:Zu t)(hp:wQ s t v w) :
  Calls Tryz.prog 15 #[.string s] w fun x w'=>∃ g pb F W cs,x = .returned (.tuple #[.pointer (some ⟨g,0,none⟩),.int .i64 0,.int .i64 0])∧we w' (fun k=>w.heap.size≤k∧k<w'.heap.size) g pb (Sm.prg F t).2 (Sm.prg F t).1 W cs (min (v+1) 301)∧Sm.WF F t∧Prg.Asks (Sm.prg F t).2 W∧ze (fun _=>False) w w':=by
 have HP:=zc hp
 have HT:=zc ht
 clear hp ht
 go_enter Tryz.func15,Tryz.ntmps15
 go_wp2_with (first |(go_at_call 44;refine (zb HP).mono ?_;rintro e w1 ⟨⟨T,y,F,rfl,hq,hcap⟩,hO1⟩;have HV:=zc hq;have Hcap:=zc hcap;clear hq hcap) |(go_at_call 47;refine (qO F _ _ _ v (by have h9:=(zb HV).size;rw [zb Hcap] at h9;exact h9)).mono ?_;rintro e w3 ⟨rfl,hO3⟩;have HQ:Hid (vJ F w3 w3.heap.size (.iface T y) t):=⟨zA.keep hO3 (fun _ _ f=>f) F _ _ (zb HV) |> zA.mono (fun g hg _=>hg) F _ _,(zb HT F).1,(zb HT F).2.1⟩) |(go_at_call 48;refine (newX F t (.iface T y) _ (zb HQ) ⟨_,_,rfl⟩ (by have:=zb Hcap;omega)).mono ?_;rintro e w4 ⟨pb,W,cs,rfl,hPr,hW,hC1,hC2,hC3,hC4,hO4⟩;have HPr:=zc (⟨hPr.bound,hC1.cutsB,hC2,hC3,hC4⟩:ProgX w4 _ pb _ _ W cs);have HW:=zc (asks_of (zb HT F).2.2 hW);clear hPr hW hC1 hC2 hC3 hC4))
 go_ret3
 have hs1:=hO1.size
 have hs3:=hO3.size
 have hs4:=hO4.size
 have hk:ze (fun _=>False) w4 (w4.alloc (.cells #[.int .i64 (min (v+1) 301),.pointer (some ⟨pb,0,none⟩)] 81)):=(ze.refl _ _).alloc _
 have hX:=zb HPr
 have hz:=yX w4 (.cells #[.int .i64 (min (v+1) 301),.pointer (some ⟨pb,0,none⟩)] 81)
 refine ⟨_,pb,F,W,cs,rfl,⟨⟨by omega,by rw [hz];omega⟩,zm _ _ rfl _ _ 0 _ rfl,zm _ _ rfl _ _ 1 _ rfl,?_,fun k hk=>hk.2⟩,(zb HV).wf,zb HW,((hO1.trans hO3).trans hO4).alloc _⟩
 have h10:=hX.keep hk (fun _ _ f=>f)
 exact ⟨h10.at'.mono (fun k h=>⟨by omega,by rw [hz];omega⟩),h10.cut.mono (fun k h=>⟨by omega,by rw [hz];omega⟩),h10.up,h10.bd,h10.al⟩
structure qD (s:ByteArray):Prop where
 size:s.size≤200
 rd:Pro.Reads s
 v:(Pro.zD s).v<300
structure FailOf (s:ByteArray)(k:Nat)(p:Int):Prop where
 no:¬qD s
 long:200<s.size→k=2∧p=200
 out:s.size≤200→(Ref.zo s).2<0→(Pro.zD s).k≠0→k=(Pro.zD s).k
 big:s.size≤200→Pro.Reads s→k=8∧p=0
theorem pat_is (s:ByteArray):(∃ (k:Nat) (p:Int),1≤k∧k≤8∧FailOf s k p∧∀ (w:World) (a:Nat→Addr),Start w a→JX s a k p w)∨(qD s∧Zu (Pro.zE s)∧∀ (w:World) (a:Nat→Addr),Start w a→wQ s (Pro.zE s) (Pro.zD s).v w):=by
 by_cases hs:s.size≤200
 ·by_cases hc:0≤(Ref.zo s).2
  ·exact .inl ⟨1,(Ref.zo s).2,by decide,by decide,⟨fun h=>by have:=h.rd.ch;omega,fun h=>by omega,fun _ h=>by omega,fun _ h=>by have:=h.ch;omega⟩,fun w a h=>Z8 s w a h.sents h.size hs hc⟩
  ·have hc':(Ref.zo s).2<0:=by omega
   have ho:Pro.altP (Pro.letM s (s.size+1) 0) (s.size:Nat) (Pro.zl (Pro.letM s (s.size+1) 0) (s.size:Nat) 10) 0=Pro.zD s:=rfl
   have hk8:(Pro.zD s).k≤8:=by rw [←ho];exact Pro.altP_k 0
   by_cases hk:(Pro.zD s).k=0
   ·by_cases hn:(Pro.zD s).n=(Pro.letM s (s.size+1) 0).length
    ·have hR:Pro.Reads s:=⟨hc',hk,hn⟩
     by_cases hv:(Pro.zD s).v<300
     ·exact .inr ⟨⟨hs,hR,hv⟩,fun f=>⟨Pro.Yt (jH s _ _) 10 0 f,Pro.Yv (by have:=Pro.qG s (s.size+1) 0;unfold Pro.lets;omega) 10 0 f,Pro.Yu (fun n f=>Pro.wL 10 n f) 0 f⟩,fun w a h=>kD s w a h.sents h.size hs hc' _ rfl _ ho hk hn hv⟩
     ·exact .inl ⟨8,0,by decide,by decide,⟨fun h=>hv h.v,fun h=>by omega,fun _ _ h=>absurd hk h,fun _ _=>⟨rfl,rfl⟩⟩,fun w a h=>Xj s w a h.sents h.size hs hc' _ rfl _ ho hk hn (by omega)⟩
    ·exact .inl ⟨3,Pro.zC (Pro.letM s (s.size+1) 0) (s.size:Nat) (Pro.zD s).n,by decide,by decide,⟨fun h=>hn h.rd.n,fun h=>by omega,fun _ _ h=>absurd hk h,fun _ h=>absurd h.n hn⟩,fun w a h=>Z9 s w a h.sents h.size hs hc' _ rfl _ ho hk hn⟩
   ·exact .inl ⟨(Pro.zD s).k,(Pro.zD s).p,by omega,hk8,⟨fun h=>hk h.rd.k,fun h=>by omega,fun _ _ _=>rfl,fun _ h=>absurd h.k hk⟩,fun w a h=>wt s w a h.sents h.size hs hc' _ rfl _ ho hk⟩
 ·exact .inl ⟨2,200,by decide,by decide,⟨fun h=>hs h.size,fun _=>⟨rfl,rfl⟩,fun h=>absurd h hs,fun h=>absurd h hs⟩,fun w a h=>Z7 s w a h.sents (by omega)⟩
structure PatM (w:World)(A:Nat→Prop)(s:ByteArray)(g pb F:Nat)(W:Int→Bool)(cs:List Int):Prop where
 c:we w A g pb (Sm.prg F (Pro.zE s)).2 (Sm.prg F (Pro.zE s)).1 W cs ((Pro.zD s).v+1)
 wf:Sm.WF F (Pro.zE s)
 ask:Prg.Asks (Sm.prg F (Pro.zE s)).2 W
theorem PatM.keep {P A:Nat→Prop}{w w':World}{s:ByteArray}{g pb F:Nat}{W:Int→Bool}{cs:List Int}(h:PatM w A s g pb F W cs)(k:ze P w w')(hn:∀ g,A g→¬P g):PatM w' A s g pb F W cs:=⟨h.c.keep k hn,h.wf,h.ask⟩
theorem Qk (s:ByteArray)(w:World)(a:Nat→Addr)(hS:Start w a):Calls Tryz.prog 15 #[.string s] w fun x w'=>ze (fun _=>False) w w'∧((∃ (k:Nat) (p:Int),1≤k∧k≤8∧x = .returned (.tuple #[.pointer none,.int .i64 k,.int .i64 p])∧FailOf s k p)∨(qD s∧∃ g pb F W cs,x = .returned (.tuple #[.pointer (some ⟨g,0,none⟩),.int .i64 0,.int .i64 0])∧PatM w' (fun k=>w.heap.size≤k∧k<w'.heap.size) s g pb F W cs)):=by
 rcases pat_is s with ⟨k,p,k1,k2,ht,h⟩ |⟨hI,ht,h⟩
 ·refine (Zv s w a k p hS k1 k2 (h w a hS)).mono ?_
  rintro x w' ⟨rfl,hO⟩
  exact ⟨hO,.inl ⟨k,p,k1,k2,rfl,ht⟩⟩
 ·refine (Kj s w _ _ hI.v ht (h w a hS)).mono ?_
  rintro x w' ⟨g,pb,F,W,cs,rfl,h1,h2,h3,hO⟩
  have e:min ((Pro.zD s).v+1) 301=(Pro.zD s).v+1:=by have:=hI.v;omega
  rw [e] at h1
  exact ⟨hO,.inr ⟨hI,g,pb,F,W,cs,rfl,h1,h2,h3⟩⟩
theorem Z5 (s:ByteArray)(w:World)(a:Nat→Addr)(hS:Start w a):Calls Tryz.prog 37 #[.string s] w (fun x w'=>ze (fun _=>False) w w'∧((x = .returned (.pointer none)∧∃ k p,FailOf s k p)∨(qD s∧∃ g pb F W cs,x = .returned (.pointer (some ⟨g,0,none⟩))∧PatM w' (fun k=>w.heap.size≤k∧k<w'.heap.size) s g pb F W cs))):=by
 have HC:=zc (Qk s w a hS)
 clear hS
 go_enter Tryz.func37,Tryz.ntmps37
 go_wp2_with (go_at_call 15;refine zb ?_)
 refine zc ?_
 refine (zb HC).mono ?_
 rintro x w1 ⟨hO,⟨k,p,k1,k2,rfl,hf⟩ |⟨hI,g,pb,F,W,cs,rfl,h1⟩⟩
 ·have hk:((k:Int) == 0)=false:=by simp;omega
  have HO:=zc hO
  have HFa:=zc hf
  clear hO hf
  go_wp2_with fail
  go_ret
  exact ⟨zb HO,.inl ⟨rfl,_,_,zb HFa⟩⟩
 ·have HF:=zc (And.intro hO (And.intro hI h1))
  clear hO h1 hI
  go_wp2_with fail
  go_ret
  exact ⟨(zb HF).1,.inr ⟨(zb HF).2.1,g,pb,F,W,cs,rfl,(zb HF).2.2⟩⟩
def Mng (s:ByteArray)(t:Tree)(i j:Nat):Prop:=∃ F,Sm.WF F t∧Sm.M (Ref.lfT (Ref.zo s).1) (Ref.ahT (Ref.zo s).1) F t i j
theorem kh {s:ByteArray}{t:Tree}{F:Nat}(hF:Sm.WF F t){i j:Nat}:Mng s t i j↔Sm.M (Ref.lfT (Ref.zo s).1) (Ref.ahT (Ref.zo s).1) F t i j:=
 ⟨fun ⟨_,hG,h⟩=>(Sm.M_any hG hF i j).2 h,fun h=>⟨F,hF,h⟩⟩
theorem Kk (s:ByteArray){W:Int→Bool}{F:Nat}{t:Tree}(hF:Sm.WF F t)(hA:Prg.Asks (Sm.prg F t).2 W){i j:Nat}(hi:i≤(Pro.letM s (s.size+1) 0).length):Prg.GoP W (Pro.letM s (s.size+1) 0) (Sm.prg F t).2 (Sm.prg F t).1 i 0 j↔Mng s t i j:=
 (Prg.goP_same (Prg.yj.of s) hA hi).trans ((Sm.QT hF i j).trans (kh hF).symm)
theorem ah0 {s:ByteArray}{i:Nat}(hi:i≤(Ref.zo s).1.length):Ref.ahT (Ref.zo s).1 0 i↔i=0:=by
 have hlen:=(Prg.yj.of s).len
 refine (Prg.Km (Prg.yj.of s) (W:=fun _=>false) (by omega) ⟨by decide,by decide⟩ (by omega)).symm.trans ?_
 unfold Prg.ahP Prg.jb Prg.qJ
 simp
theorem ah1 {s:ByteArray}{i:Nat}(hi:i≤(Ref.zo s).1.length):Ref.ahT (Ref.zo s).1 1 i↔i=(Ref.zo s).1.length:=by
 have hlen:=(Prg.yj.of s).len
 refine (Prg.Km (Prg.yj.of s) (W:=fun _=>false) (by omega) ⟨by decide,by decide⟩ (by omega)).symm.trans ?_
 unfold Prg.ahP Prg.jb Prg.qJ
 rw [hlen]
 simp
theorem anch_wf {F:Nat}{t:Tree}(h:Sm.WF F t):Sm.WF (F+1+1) (Pro.tAlt [Pro.tSeq [Pro.tAsr 0,t,Pro.tAsr 1]]):=by
 cases F with
 |zero=>exact h.elim
 |succ F=>
  have h0:∀ c,Sm.WF (F+1) (Pro.tAsr c):=fun c=>by simp [Sm.WF,Pro.tAsr]
  simp only [Sm.WF,Pro.tAlt,Pro.tSeq] at *
  simp
  refine ⟨?_,h,?_⟩
  ·have:=h0 0;simpa [Sm.WF] using this
  ·have:=h0 1;simpa [Sm.WF] using this
theorem Vq {s:ByteArray}{t:Tree}{F:Nat}(h:Sm.WF F t){i j:Nat}(hi:i≤(Ref.zo s).1.length)(hj:j≤(Ref.zo s).1.length):Mng s (Pro.tAlt [Pro.tSeq [Pro.tAsr 0,t,Pro.tAsr 1]]) i j↔i=0∧j=(Ref.zo s).1.length∧Mng s t i j:=by
 rw [kh (anch_wf h),kh h]
 cases F with
 |zero=>exact h.elim
 |succ F=>
  have e:∀ (lf:Tree→Nat→Prop) (ah:Int→Nat→Prop) (c:Int) (x y:Nat),Sm.M lf ah (F+1) (Pro.tAsr c) x y↔x=y∧ah c x:=fun lf ah c x y=>by simp [Sm.M,Pro.tAsr]
  have e2:∀ (lf:Tree→Nat→Prop) (ah:Int→Nat→Prop),Sm.M lf ah (F+1+1+1) (Pro.tAlt [Pro.tSeq [Pro.tAsr 0,t,Pro.tAsr 1]]) i j↔Sm.q7 (Sm.M lf ah (F+1)) [Pro.tAsr 0,t,Pro.tAsr 1] i j:=fun lf ah=>by
   rw [Sm.M]
   simp only [Pro.tAlt]
   simp
   rw [Sm.M]
   simp [Pro.tSeq]
  rw [e2]
  simp only [Sm.q7,e]
  constructor
  ·rintro ⟨m,⟨rfl,h0⟩,m',h,m'',⟨rfl,h1⟩,rfl⟩
   exact ⟨(ah0 hi).1 h0,(ah1 hj).1 h1,h⟩
  ·rintro ⟨rfl,rfl,h⟩
   exact ⟨0,⟨rfl,(ah0 hi).2 rfl⟩,_,h,_,⟨rfl,(ah1 hj).2 rfl⟩,rfl⟩
end
end Go.Proofs.YtfnkbmglodopkaaGreatDoor
