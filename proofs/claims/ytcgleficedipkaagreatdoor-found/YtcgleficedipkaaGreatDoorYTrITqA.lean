/- The assertions of the reader's trees, and of the programs made of them. -/
import Derived.Test.YtcgleficedipkaaGreatDoorYSemESemI
import Derived.Test.YtcgleficedipkaaGreatDoorYEqAEqI
namespace Go.Proofs.YtcgleficedipkaaGreatDoor
open _root_.Go.Proofs.Tryz
variable (b:Nat){k base:Nat}{w:World}(L:List (Int×Int))(n:Nat){x:Ending}{c:Int}{T:TypeId}{sv:Value}{xs:List Value}
section
open Sm (Tree Stp)
namespace Pro
def qL:Nat->Tree->Prop
 |0,_=>True
 |f+1,T=>(T.kind=0->0<=T.a/\T.a<=3)/\∀ t∈T.kids,qL f t
section
variable {L:List (Int×Int)} {len:Int}
theorem Ze {T:Tree}(h0:T.kind≠0)(hk:T.kids=[]):∀ f,qL f T
 |0=>trivial
 |f+1=>⟨fun e=>absurd e h0,fun t ht=>by rw [hk] at ht;cases ht⟩
theorem KJ {T:Tree}(h0:T.kind≠0)(h:∀ t∈T.kids,∀ f,qL f t):∀ f,qL f T
 |0=>trivial
 |f+1=>⟨fun e=>absurd e h0,fun t ht=>h t ht f⟩
theorem as_asr (n:Nat):∀ f,qL f (tAsr (asV L n))
 |0=>trivial
 |f+1=>⟨fun _=>by
   show 0<=asV L n/\asV L n<=3;unfold asV;split
   ·omega
   ·split
    ·omega
    ·split<;>omega,fun t ht=>by simp [tAsr] at ht⟩
theorem Wd {DT:Nat->Tree}(hD:∀ n f,qL f (DT n))(n f:Nat):qL f (xk L len DT n):=by
 unfold xk;split
 ·exact hD n f
 ·split
  ·exact Ze (by simp [xN,tCls]) rfl f
  ·split
   ·unfold oneT;split
    ·exact Ze (by simp [xV]) rfl f
    ·exact Ze (by simp [qK]) rfl f
   ·split
    ·exact Ze (by simp [tAny]) rfl f
    ·exact Ze (by simp [qK]) rfl f
theorem termT_as {D:Nat->Out}{DT:Nat->Tree}(hD:∀ n f,qL f (DT n))(n f:Nat):qL f (xO L len D DT n):=by
 unfold xO;split
 ·exact as_asr n f
 ·split
  ·exact Wd hD n f
  ·refine KJ (by simp [tRep]) (fun t ht f=>?_) f;obtain rfl:t=xk L len DT n:=(by simpa [tRep] using ht);exact Wd hD n f
theorem JJ {D:Nat->Out}{DT:Nat->Tree}(hD:∀ n f,qL f (DT n)):∀ (g:Nat) (ts:List Tree) (n:Nat),(∀ t∈ts,∀ f,qL f t)->∀ t∈xt L len D DT g ts n,∀ f,qL f t
 |0,_,_,h=>h
 |g+1,ts,n,h=>by
  unfold xt;split
  ·exact h
  ·refine JJ hD g _ _ (fun t ht=>?_);rcases qe.1 ht with ht |ht
   ·exact h t ht
   ·obtain rfl:=xf.1 ht;exact fun f=>termT_as hD n f
theorem zc1 {D:Nat->Out}{DT:Nat->Tree}(hD:∀ n f,qL f (DT n))(n f:Nat):qL f (yq L len D DT n):=
 KJ (by simp [yq,tSeq]) (JJ hD _ [] n (by simp)) f
theorem zbf {D:Nat->Out}{DT:Nat->Tree}(hD:∀ n f,qL f (DT n)):∀ (g:Nat) (ts:List Tree) (n:Nat),(∀ t∈ts,∀ f,qL f t)->∀ t∈altT L len D DT g ts n,∀ f,qL f t
 |0,_,_,h=>h
 |g+1,ts,n,h=>by
  have h2:∀ t∈ts++[yq L len D DT n],∀ f,qL f t:=fun t ht=>by
   rcases qe.1 ht with ht |ht
   ·exact h t ht
   ·obtain rfl:=xf.1 ht;exact fun f=>zc1 hD n f
  unfold altT;split
  ·exact zbf hD g _ _ h2
  ·exact h2
theorem Yu {D:Nat->Out}{DT:Nat->Tree}(hD:∀ n f,qL f (DT n))(n f:Nat):qL f (altQ L len D DT n):=
 KJ (by simp [altQ,tAlt]) (zbf hD _ [] n (by simp)) f
theorem wL:∀ (r n f:Nat),qL f (zH L len r n)
 |0,_,f=>Ze (by simp [zH,tAny]) rfl f
 |r+1,_,f=>Yu (fun n f=>wL r n f) _ f
theorem qL.down:∀ {f:Nat} {T:Tree},qL (f+1) T->qL f T
 |0,_,_=>trivial
 |_+1,_,h=>⟨h.1,fun t ht=>qL.down (h.2 t ht)⟩
theorem qL.kid {f:Nat}{T:Tree}(h:qL (f+1) T):qL f T.kid:=by
 unfold Sm.Tree.kid;split
 ·exact h.down
 ·rename_i t ts e;exact h.2 t (by rw [e];exact xF ..)
end
end Pro
namespace Sm
variable {P:Stp->Prop} {B:Tree->Nat->List Stp->Nat×List Stp}
def ZK (P:Stp->Prop)(S:List Stp):Prop:=∀ s∈S,P s
def wM (P:Stp->Prop)(B:Tree->Nat->List Stp->Nat×List Stp)(t:Tree):Prop:=∀ nx S,ZK P S->ZK P (B t nx S).2
theorem ZK.snoc {S:List Stp}{s:Stp}(h:ZK P S)(hs:P s):ZK P (S++[s]):=fun x hx=>by
 rcases qe.1 hx with hx |hx
 ·exact h x hx
 ·obtain rfl:=xf.1 hx;exact hs
theorem Zo (hf:∀ x y,P (zx x y)){nx:Nat}:∀ (ts:List Tree) (b:Nat) (S:List Stp),(∀ t∈ts,wM P B t)->ZK P S->ZK P (yM B nx ts b S).2
 | [],_,_,_,hS=>hS
 |t :: ts,_,S,h,hS=>Zo hf ts _ _ (fun y hy=>h y (xp _ hy)) ((h t (xF ..) nx S hS).snoc (hf _ _))
theorem QJ:∀ (ts:List Tree) (b:Nat) (S:List Stp),(∀ t∈ts,wM P B t)->ZK P S->ZK P (bSeq B ts b S).2
 | [],_,_,_,hS=>hS
 |t :: ts,b,S,h,hS=>QJ ts _ _ (fun y hy=>h y (xp _ hy)) (h t (xF ..) b S hS)
theorem QK (hf:∀ x y,P (zx x y)){t:Tree}{nx:Nat}(h:wM P B t):∀ (k b:Nat) (S:List Stp),ZK P S->ZK P (bOpt B t nx k b S).2
 |0,_,_,hS=>hS
 |k+1,b,S,hS=>QK hf h k _ _ ((h b S hS).snoc (hf _ _))
theorem vH {t:Tree}(h:wM P B t):∀ (k b:Nat) (S:List Stp),ZK P S->ZK P (yr B t k b S).2
 |0,_,_,hS=>hS
 |k+1,b,S,hS=>by
  simp only [yr];split
  ·exact h b S hS
  ·exact vH h k _ _ (h b S hS)
theorem Xs (hf:∀ x y,P (zx x y)){t:Tree}{nx:Nat}(h:wM P B t)(S:List Stp)(hS:ZK P S):ZK P (xm B t nx S).2:=fun x hx=>by
 rcases X9 hx with hx |rfl
 ·exact h _ _ (hS.snoc (hf _ _)) x hx
 ·exact hf _ _
theorem Y5 (hf:∀ x y,P (zx x y))(ht:∀ T nx,P (taker T nx))(ha:∀ a nx,0<=a->a<=3->P (tester a nx)):∀ (f:Nat) (T:Tree),Pro.qL f T->wM P (bld f) T
 |0,_,_=>fun _ _ hS=>hS
 |f+1,T,h=>by
  intro nx S hS;have kids:∀ t∈T.kids,wM P (bld f) t:=fun t ht'=>Y5 hf ht ha f t (h.2 t ht');have kid:wM P (bld f) T.kid:=Y5 hf ht ha f T.kid h.kid;unfold bld;split
  ·rename_i h0;exact hS.snoc (ha _ _ (h.1 h0).1 (h.1 h0).2)
  ·split
   ·split
    ·exact hS
    ·rename_i t ts e;rw [e] at kids;exact Zo hf ts _ _ (fun y hy=>kids y (xp _ hy)) (kids t (xF ..) nx S hS)
   ·split
    ·exact QJ _ _ _ (fun y hy=>kids y (List.mem_reverse.1 hy)) hS
    ·split
     ·split
      ·split
       ·exact Xs hf kid S hS
       ·exact vH kid _ _ _ (Xs hf kid S hS)
      ·exact vH kid _ _ _ (QK hf kid _ _ _ hS)
     ·exact hS.snoc (ht _ _)
theorem prg_asks {f:Nat}{T:Tree}(h:Pro.qL f T):∀ s∈(prg f T).2,s.kind=2->0<=s.asr/\s.asr<=3:=
 Y5 (P:=fun s=>s.kind=2->0<=s.asr/\s.asr<=3) (fun _ _ e=>by simp [zx] at e) (fun _ _ e=>by simp [taker] at e) (fun _ _ h1 h2 _=>⟨h1,h2⟩) f T h 0 [q8] (fun s hs e=>by obtain rfl:=xf.1 hs;simp [q8] at e)
end Sm
end
section
open Go.RowKit
open Sm (Tree)
set_option maxHeartbeats 4000000
set_option maxRecDepth 1000000
theorem We (len dp:Int)(a:Nat->Addr)(w:World)(h:zR w b L n len dp)(hS:zW w a)(hb:11<=b)(hL:L.length<=400)(hn:n<L.length)(hF:Pro.Fit L) :
  Calls prog 222 #[.pointer (some ⟨b,0,none⟩)] w fun x w'=>∃ cv,Tells b L len dp a w (Pro.qf L len n) (.iface 252 cv) .nilIface x w'/\((Pro.qf L len n).k=0->jd w' (fun g=>w.heap.size<=g) (.iface 252 cv) (Pro.xN L len n)):=by
 have T:=zc (Trk.start h hS hb);have c1:=h.c1;have f1:=h.f1;clear h hS;have hbe:(Pro.behind L (n+1) { data:=#[94] }=n+1/\Pro.zf L (n+1)≠94)\/(Pro.behind L (n+1) { data:=#[94] }=n+2/\Pro.zf L (n+1)=94):=by
  by_cases hneg:Pro.zf L (n+1)=94
  ·right;exact ⟨Pro.ZC (by rw [Pro.zp L (n+1) 94 94 rfl];simp [hneg]),hneg⟩
  ·left;exact ⟨Pro.YS (by rw [Pro.zp L (n+1) 94 94 rfl];simp [hneg]),hneg⟩
 have hN:n+1<=Pro.behind L (n+1) { data:=#[94] }/\Pro.behind L (n+1) { data:=#[94] }<=L.length:=by
  rcases hbe with ⟨e,_⟩ |⟨e,h1⟩
  ·omega
  ·have:n+1<L.length:=Pro.zq (by omega);omega
 have HP:Hid (Pro.qf L len n=Pro.yG L len (L.length+1-n) (Pro.behind L (n+1) { data:=#[94] })):=by
  unfold Pro.qf;rcases hbe with ⟨e,h1⟩ |⟨e,h1⟩
  ·rw [e,if_neg h1];rfl
  ·rw [e,if_pos h1];rfl
 have HT:Hid (Pro.xN L len n=Pro.tCls (Pro.zr L (n+1) { data:=#[94] }) (Pro.xM L len (L.length+1-n) (Pro.behind L (n+1) { data:=#[94] }) [] []).1 (Pro.xM L len (L.length+1-n) (Pro.behind L (n+1) { data:=#[94] }) [] []).2):=by
  unfold Pro.xN;rcases hbe with ⟨e,h1⟩ |⟨e,h1⟩
  ·rw [e,if_neg h1,Pro.zp L (n+1) 94 94 rfl];simp [h1,Hid]
  ·rw [e,if_pos h1,Pro.zp L (n+1) 94 94 rfl];simp [h1,Hid]
 clear hbe;go_enter func222,ntmps222;go_wp2_with (go_at_call 113;refine (taken_t (n:=n+1) _ (by exact (zb T).setN _ _ (by omega)) hL (by omega) (by decide)).mono ?_;rintro e wq ⟨rfl,tq⟩;have T:=zc tq;have c1:=tq.c1;have f1:=tq.f1);generalize hN0:Pro.behind L (n+1) { data:=#[94] }=N0 at *;generalize Pro.zr L (n+1) { data:=#[94] }=neg at *;have T1:=zc (zb T);clear c1 f1;have hcb:w.heap.size<=wq.heap.size:=(zb T1).on.size;have hC0:yB (wq.alloc (.cells #[.bool neg,.slice none 0 0,.slice none 0 0] 252)) wq.heap.size neg [] [] (.slice none 0 0) (.slice none 0 0):=
  ⟨zm wq _ rfl _ _ 0 _ rfl,zm wq _ rfl _ _ 1 _ rfl,zm wq _ rfl _ _ 2 _ rfl,qD _ _ _ _,qD _ _ _ _,zG wq _ rfl _ _ 1,zG wq _ rfl _ _ 2⟩
 have T2:Trk wq.heap.size (wq.alloc (.cells #[.bool neg,.slice none 0 0,.slice none 0 0] 252)) b L N0 len dp a (wq.alloc (.cells #[.bool neg,.slice none 0 0,.slice none 0 0] 252)):=
  have t:=(zb T1).calm ((ze.refl _ _).alloc _)
  ⟨t.rd,t.se,ze.refl _ _,t.hb,(zb T1).rd.lt,by simp⟩
 generalize hW:wq.alloc (.cells #[.bool neg,.slice none 0 0,.slice none 0 0] 252)=W at *;have hOW:ze (zt b) w W:=by rw [<-hW];exact (Own.to (zb T1).on).alloc _
 have HOW:=zc hOW;have T2:=zc T2;have HC0:=zc hC0;clear hC0 hW hOW;generalize hcbb:wq.heap.size=cb at *;clear hcbb;go_loopw [5] (fun _ wr=>∃ (m f:Nat) (R:List (Int×Int)) (S:List Int) (v1 v2:Value),m<=L.length/\R.length<=m/\S.length<=m/\Hid (L.length<m+f)/\Hid (Trk cb W b L m len dp a wr)/\Hid (yB wr cb neg R S v1 v2)/\Hid (Pro.qf L len n=Pro.yG L len f m)/\Hid (Pro.xN L len n=Pro.tCls neg (Pro.xM L len f m R S).1 (Pro.xM L len f m R S).2)) (fun _ wr=>L.length-rdN wr b)
 case atStart=>exact ⟨N0,L.length+1-n,[],[],_,_,hN.2,by simp,by simp,(by show _<_;omega),T2,HC0,HP,HT⟩
 case round=>
  obtain ⟨m,f,R,S,v1,v2,hm,hR,hS,hf,T,HC,HF,HT⟩:=hrel;obtain ⟨f,rfl⟩:∃ f',f=f'+1:=⟨f-1,by have:=zb hf;omega⟩
  have hrd:=(zb T).rdN;by_cases h93:Pro.zf L m=93
  ·have m1:Pro.zr L m { data:=#[93] }=true:=(by rw [Pro.zp L m 93 93 rfl];simp [h93]);have HO:Hid (Pro.qf L len n=Pro.good 1 (m+1)):=(by rw [zb HF];simp only [Pro.yG];rw [if_pos h93];rfl);have HT1:Hid (Pro.xN L len n=Pro.tCls neg R S):=(by rw [zb HT];simp only [Pro.xM];rw [if_pos h93];rfl);clear h93;have T0:=T;have T:=zc (Trk.start (zb T0).rd (zb T0).se hb);have hbc:=(zb T0).lt;go_wp2_with ((go_at_call 113;refine (jM (n:=m) _ (by exact zb T) hL (by omega) (by decide) (by assumption)).mono ?_;rintro e wq ⟨rfl,tq⟩;have tq:Trk _ _ b L ((m)+1) len dp a wq:=tq;have T:=zc tq;have c1:=tq.c1;have f1:=tq.f1);(have hC1:=(zb HC).step hbc (zb T));(have k0:=hC1.k0);(have k1:=hC1.k1);(have k2:=hC1.k2);(have HC1:=zc hC1);(clear hC1));go_ret2;refine ⟨_,qU (zb HO) rfl (Own.back (zb HOW) ((zb T0).join (zb T)).on hcb) (zb T).rd,fun _=>?_⟩;rw [zb HT1];have hCC:=zb HC1;exact .inr (.inr (.inr (.inr ⟨neg,R,S,v1,v2,rfl,rfl,(V6 hCC.o1 (fun e=>by rw [qg e];rfl)).mono (fun g _ hg=>by omega),(V6 hCC.o2 (fun e=>by rw [qg e];rfl)).mono (fun g _ hg=>by omega)⟩)))
  ·have m1:Pro.zr L m { data:=#[93] }=false:=(by rw [Pro.zp L m 93 93 rfl];simp [h93]);by_cases hend:L.length<=m
   ·have hme:m=L.length:=(by omega);have he:((m:Int) == (L.length:Int))=true:=(by simp;omega);have HO:Hid (Pro.qf L len n=Pro.bad 3 (Pro.zC L len m) m):=(by rw [zb HF];simp only [Pro.yG];rw [if_neg h93,if_pos hend,Pro.ww hend];rfl);clear h93;go_wp2_with (first |(go_at_call 113;refine (y8 (n:=m) _ (by exact zb T) hL (by omega) (by decide) (by assumption)).mono ?_;rintro e wq ⟨rfl,qq,rfl⟩) |(go_at_call 63;refine (wY (n:=m) (by exact (zb T).drewN _)).mono ?_;rintro e wq ⟨rfl,qq,rfl⟩) |(go_at_call 64;refine (Yi (n:=m) (by exact (zb T).drewN _) hL (by omega)).mono ?_;rintro e wq ⟨v,rfl,hv,tq⟩;have T:=zc tq;have c1:=tq.c1;have f1:=tq.f1));go_ret2;exact ⟨.nilIface,jK (zb HO) (by decide) (Own.back (zb HOW) (zb T).on hcb) (zb T).rd (hv.base (zb HOW).size),fun e=>by rw [zb HO] at e;exact absurd e (show (3:Nat)≠0 by decide)⟩
   ·have he:((m:Int) == (L.length:Int))=false:=(by simp;omega);have hml:m<L.length:=(by omega);have hin:=Pro.XF (L:=L) (len:=len) m hml;have hmi:=Pro.vD (L:=L) (len:=len) m hml;by_cases hk:(Pro.addO L len m).k=0
    ·have HO:Hid (Pro.qf L len n=Pro.yG L len f (Pro.addO L len m).n):=(by rw [zb HF];simp only [Pro.yG];rw [if_neg h93,if_neg hend,if_neg (by simp [hk])];rfl);have HT1:Hid (Pro.xN L len n=Pro.tCls neg (Pro.xM L len f (Pro.addO L len m).n (Pro.addR L len m R) (Pro.addS L len m S)).1 (Pro.xM L len f (Pro.addO L len m).n (Pro.addR L len m R) (Pro.addS L len m S)).2):=(by rw [zb HT];simp only [Pro.xM];rw [if_neg h93];rfl);clear h93;go_wp2_with (first |(go_at_call 113;refine (y8 (n:=m) _ (by exact zb T) hL (by omega) (by decide) (by assumption)).mono ?_;rintro e wq ⟨rfl,qq,rfl⟩) |(go_at_call 63;refine (wY (n:=m) (by exact (zb T).drewN _)).mono ?_;rintro e wq ⟨rfl,qq,rfl⟩) |(go_at_call 252;refine (Zm b L m len dp a cb W _ neg R S v1 v2 (by exact (zb T).drewN _) (by first |exact zb HC |exact (zb HC).keep ((ze.refl (fun _=>False) _).drewN _) (fun _ _ f=>f) |exact (zb HC).keep (((ze.refl (fun _=>False) _).drewN _).drewN _) (fun _ _ f=>f)) hL hml (by omega) hF (by omega) (by omega)).mono ?_;rintro e w9 ⟨tq,hA⟩;obtain ⟨rfl,u1,u2,hC9⟩:=wF hA hk;have T9:=zc tq;have HC9:=zc hC9;clear hA hC9));have hR':=Pro.addR_len (L:=L) (len:=len) m R;have hS':=Pro.addS_len (L:=L) (len:=len) m S;exact ⟨⟨(Pro.addO L len m).n,f,_,_,u1,u2,hin.2,by omega,by omega,(by have:=zb hf;show _<_;omega),T9,HC9,HO,HT1⟩,by rw [(zb T9).rdN,hrd];omega⟩
    ·have HO:Hid (Pro.qf L len n=Pro.addO L len m):=(by rw [zb HF];simp only [Pro.yG];rw [if_neg h93,if_neg hend,if_pos hk];rfl);clear h93;go_wp2_with (first |(go_at_call 113;refine (y8 (n:=m) _ (by exact zb T) hL (by omega) (by decide) (by assumption)).mono ?_;rintro e wq ⟨rfl,qq,rfl⟩) |(go_at_call 63;refine (wY (n:=m) (by exact (zb T).drewN _)).mono ?_;rintro e wq ⟨rfl,qq,rfl⟩) |(go_at_call 252;refine (Zm b L m len dp a cb W _ neg R S v1 v2 (by exact (zb T).drewN _) (by first |exact zb HC |exact (zb HC).keep ((ze.refl (fun _=>False) _).drewN _) (fun _ _ f=>f) |exact (zb HC).keep (((ze.refl (fun _=>False) _).drewN _).drewN _) (fun _ _ f=>f)) hL hml (by omega) hF (by omega) (by omega)).mono ?_;rintro e w9 ⟨tq,hA⟩;obtain ⟨xv,rfl,hv⟩:=Ku hA hk;obtain ⟨gv,hgv⟩:=hv.form;subst hgv;have T9:=zc tq;clear hA));go_ret2;rw [zb HO];exact ⟨.nilIface,Tells.no hk (Own.back (zb HOW) (zb T9).on hcb) (zb T9).rd (hv.base (zb HOW).size),fun e=>absurd e hk⟩
theorem ko (len dp:Int)(a:Nat->Addr)(w:World)(h:zR w b L n len dp)(hS:zW w a)(hb:11<=b)(hL:L.length<=400)(hn:n<=L.length) :
  Calls prog 186 #[.pointer (some ⟨b,0,none⟩)] w fun x w'=>ze (zt b) w w'/\zR w' b L (n+Pro.asN L n) len dp/\((Pro.asN L n≠0/\x = .returned (.tuple #[.int .i64 (Pro.asV L n),.bool true]))\/(Pro.asN L n=0/\x = .returned (.tuple #[.int .i64 0,.bool false]))):=by
 have T:=zc (Trk.start h hS hb);clear h hS;by_cases h1:Pro.zf L n=94
 ·have HA:Hid (Pro.asN L n=1):=by unfold Pro.asN;rw [if_pos (.inl h1)];rfl
  have HV:Hid (Pro.asV L n=0):=by unfold Pro.asV;rw [if_pos h1];rfl
  have m1:Pro.zr L n { data:=#[94] }=true:=by rw [Pro.zp L n 94 94 rfl];simp [h1]
  go_enter func186,ntmps186;go_wp2_with (first |(go_at_call 113;refine (jM (n:=n) _ (by exact zb T) hL (by omega) (by decide) (by assumption)).mono ?_;rintro e wq ⟨rfl,tq⟩;have tq:Trk _ _ b L ((n)+1) len dp a wq:=tq;have T:=zc tq;have c1:=tq.c1;have f1:=tq.f1));go_ret2;rw [zb HA,zb HV];exact ⟨Own.to (zb T).on,(zb T).rd,.inl ⟨by decide,rfl⟩⟩
 ·have m1:Pro.zr L n { data:=#[94] }=false:=by rw [Pro.zp L n 94 94 rfl];simp [h1]
  by_cases h2:Pro.zf L n=36
  ·have HA:Hid (Pro.asN L n=1):=(by unfold Pro.asN;rw [if_pos (.inr h2)];rfl);have HV:Hid (Pro.asV L n=1):=(by unfold Pro.asV;rw [if_neg h1,if_pos h2];rfl);have m2:Pro.zr L n { data:=#[36] }=true:=(by rw [Pro.zp L n 36 36 rfl];simp [h2]);go_enter func186,ntmps186;go_wp2_with (first |(go_at_call 113;refine (y8 (n:=n) _ (by first |exact zb T |exact (zb T).drewN _) hL (by omega) (by decide) (by assumption)).mono ?_;rintro e wq ⟨rfl,qq,rfl⟩) |(go_at_call 113;refine (jM (n:=n) _ (by exact (zb T).drewN _) hL (by omega) (by decide) (by assumption)).mono ?_;rintro e wq ⟨rfl,tq⟩;have tq:Trk _ _ b L ((n)+1) len dp a wq:=tq;have T:=zc tq;have c1:=tq.c1;have f1:=tq.f1));go_ret2;rw [zb HA,zb HV];exact ⟨Own.to (zb T).on,(zb T).rd,.inl ⟨by decide,rfl⟩⟩
  ·have m2:Pro.zr L n { data:=#[36] }=false:=(by rw [Pro.zp L n 36 36 rfl];simp [h2]);by_cases h3:Pro.zf L n=92/\Pro.zf L (n+1)=98
   ·have HA:Hid (Pro.asN L n=2):=(by unfold Pro.asN;rw [if_neg (by omega),if_pos ⟨h3.1,.inl h3.2⟩];rfl);have HV:Hid (Pro.asV L n=2):=(by unfold Pro.asV;rw [if_neg h1,if_neg h2,if_pos h3.2];rfl);have m3:Pro.zr L n { data:=#[92,98] }=true:=(by rw [Pro.yC L n 92 98 92 98 rfl rfl];simp [h3]);clear h3;go_enter func186,ntmps186;go_wp2_with (first |(go_at_call 113;refine (y8 (n:=n) _ (by first |exact zb T |exact (zb T).drewN _) hL (by omega) (by decide) (by assumption)).mono ?_;rintro e wq ⟨rfl,qq,rfl⟩) |(go_at_call 113;refine (jM (n:=n) _ (by exact (zb T).drewN _) hL (by omega) (by decide) (by assumption)).mono ?_;rintro e wq ⟨rfl,tq⟩;have tq:Trk _ _ b L ((n)+2) len dp a wq:=tq;have T:=zc tq;have c1:=tq.c1;have f1:=tq.f1));go_ret2;rw [zb HA,zb HV];exact ⟨Own.to (zb T).on,(zb T).rd,.inl ⟨by decide,rfl⟩⟩
   ·have m3:Pro.zr L n { data:=#[92,98] }=false:=(by rw [Pro.yC L n 92 98 92 98 rfl rfl];simp;omega);by_cases h4:Pro.zf L n=92/\Pro.zf L (n+1)=66
    ·have HA:Hid (Pro.asN L n=2):=(by unfold Pro.asN;rw [if_neg (by omega),if_pos ⟨h4.1,.inr h4.2⟩];rfl);have HV:Hid (Pro.asV L n=3):=(by unfold Pro.asV;rw [if_neg h1,if_neg h2,if_neg (by omega)];rfl);have m4:Pro.zr L n { data:=#[92,66] }=true:=(by rw [Pro.yC L n 92 66 92 66 rfl rfl];simp [h4]);clear h3 h4;go_enter func186,ntmps186;go_wp2_with (first |(go_at_call 113;refine (y8 (n:=n) _ (by first |exact zb T |exact (zb T).drewN _) hL (by omega) (by decide) (by assumption)).mono ?_;rintro e wq ⟨rfl,qq,rfl⟩) |(go_at_call 113;refine (jM (n:=n) _ (by exact (zb T).drewN _) hL (by omega) (by decide) (by assumption)).mono ?_;rintro e wq ⟨rfl,tq⟩;have tq:Trk _ _ b L ((n)+2) len dp a wq:=tq;have T:=zc tq;have c1:=tq.c1;have f1:=tq.f1));go_ret2;rw [zb HA,zb HV];exact ⟨Own.to (zb T).on,(zb T).rd,.inl ⟨by decide,rfl⟩⟩
    ·have m4:Pro.zr L n { data:=#[92,66] }=false:=(by rw [Pro.yC L n 92 66 92 66 rfl rfl];simp;omega);have HA:Hid (Pro.asN L n=0):=(by unfold Pro.asN;rw [if_neg (by omega),if_neg (by omega)];rfl);clear h3 h4;go_enter func186,ntmps186;go_wp2_with (first |(go_at_call 113;refine (y8 (n:=n) _ (by first |exact zb T |exact (zb T).drewN _) hL (by omega) (by decide) (by assumption)).mono ?_;rintro e wq ⟨rfl,qq,rfl⟩));go_ret2;rw [zb HA];exact ⟨Own.to ((zb T).drewN _).on,((zb T).drewN _).rd,.inr ⟨rfl,rfl⟩⟩
def kr (b:Nat)(L:List (Int×Int))(len dp:Int)(a:Nat->Addr)(D:Nat->Pro.Out)(DT:Nat->Tree):Prop:=∀ (n:Nat) (w:World),zR w b L n len dp->zW w a->n<L.length->Calls prog 221 #[.pointer (some ⟨b,0,none⟩)] w (yI b L len dp a w (D n) (DT n))
theorem one_leaf (m:Bool)(c:Int):∃ T y,oneV m c = .iface T y/\∀ w A,jd w A (.iface T y) (Pro.oneT m c):=by
 cases m
 ·exact ⟨_,_,rfl,fun w A=>.inr (.inr (.inl ⟨_,rfl,rfl⟩))⟩
 ·exact ⟨_,_,rfl,fun w A=>.inr (.inr (.inr (.inl ⟨_,rfl,rfl⟩)))⟩
theorem QL (len dp:Int)(a:Nat->Addr)(D:Nat->Pro.Out)(DT:Nat->Tree)(w:World)(h:zR w b L n len dp)(hS:zW w a)(hb:11<=b)(hL:L.length<=400)(hn:n<L.length)(hF:Pro.Fit L)(hG:kr b L len dp a D DT) :
  Calls prog 187 #[.pointer (some ⟨b,0,none⟩)] w (yI b L len dp a w (Pro.zL L len D n) (Pro.xk L len DT n)):=by
 have T:=zc (Trk.start h hS hb);have HR:=zc h;have HS:=zc hS;have c1:=h.c1;have f1:=h.f1;have HG:=zc hG;clear h hS hG;cases hw:Pro.ZI (Pro.zf L n)
 ·have hq:(Pro.zf L n == 42)=false/\(Pro.zf L n == 43)=false/\(Pro.zf L n == 63)=false/\(Pro.zf L n == 123)=false/\(Pro.zf L n == 125)=false/\(Pro.zf L n == 93)=false:=by
   unfold Pro.ZI at hw;simpa [and_assoc] using hw
  obtain ⟨q1,q2,q3,q4,q5,q6⟩:=hq;by_cases h40:Pro.zf L n=40
  ·have HO:Hid (Pro.zL L len D n=D n):=(by unfold Pro.zL;rw [if_neg (by simp [hw]),if_pos h40];rfl);have HT:Hid (Pro.xk L len DT n=DT n):=(by unfold Pro.xk;rw [if_pos h40];rfl);have h40':(Pro.zf L n == 40)=true:=(by simp [h40]);clear h40 hw;go_enter func187,ntmps187;go_wp2_with (first |(go_at_call 157;refine Q7 (yH (n:=n) (by exact zb T) hL (by omega)) ?_) |(go_at_call 221;refine (zb HG n _ (zb HR) (zb HS) hn).mono ?_;intro e w1 hg;obtain ⟨p1,p2,rfl⟩:=hg.pair;have Hg:=zc hg;clear hg));go_ret2;rw [zb HO,zb HT];exact zb Hg
  ·have h40':(Pro.zf L n == 40)=false:=(by simp [h40]);by_cases h91:Pro.zf L n=91
   ·have HO:Hid (Pro.zL L len D n=Pro.one (Pro.qf L len n)):=(by unfold Pro.zL;rw [if_neg (by simp [hw]),if_neg h40,if_pos h91];rfl);have HT:Hid (Pro.xk L len DT n=Pro.xN L len n):=(by unfold Pro.xk;rw [if_neg h40,if_pos h91];rfl);have h91':(Pro.zf L n == 91)=true:=(by simp [h91]);clear h91 hw h40;go_enter func187,ntmps187;go_wp2_with (first |(go_at_call 157;refine Q7 (yH (n:=n) (by exact zb T) hL (by omega)) ?_) |(go_at_call 222;refine (We b L n len dp a _ (zb HR) (zb HS) hb hL hn hF).mono ?_;rintro e w1 ⟨cv,hc,hlf⟩;have hg:=hc.givesT hlf;obtain ⟨p1,p2,rfl⟩:=hg.pair;have Hg:=zc hg;clear hg hc hlf));go_ret2;rw [zb HO,zb HT];exact zb Hg
   ·have h91':(Pro.zf L n == 91)=false:=(by simp [h91]);by_cases h92:Pro.zf L n=92
    ·have HO:Hid (Pro.zL L len D n=Pro.one (Pro.escO L len n)):=(by unfold Pro.zL;rw [if_neg (by simp [hw]),if_neg h40,if_neg h91,if_pos h92];rfl);have HT:Hid (Pro.xk L len DT n=Pro.oneT (Pro.setB (Pro.zf L (n+1))) (Pro.escO L len n).v):=(by unfold Pro.xk;rw [if_neg h40,if_neg h91,if_pos h92];rfl);have h92':(Pro.zf L n == 92)=true:=(by simp [h92]);clear h91 hw h40 h92;obtain ⟨TT,yy,hy,hlf⟩:=one_leaf (Pro.setB (Pro.zf L (n+1))) (Pro.escO L len n).v;have Hy:=zc hy;have Hlf:=zc hlf;clear hy hlf;go_enter func187,ntmps187;go_wp2_with (first |(go_at_call 157;refine Q7 (yH (n:=n) (by exact zb T) hL (by omega)) ?_) |(go_at_call 223;refine (wD b L n len dp a _ (zb HR) (zb HS) hb hL hn hF).mono ?_;intro e w1 hc;rw [zb Hy] at hc;have hg:=hc.givesT (fun _=>zb Hlf _ _);obtain ⟨p1,p2,rfl⟩:=hg.pair;have Hg:=zc hg;clear hg hc));go_ret2;rw [zb HO,zb HT];exact zb Hg
    ·have h92':(Pro.zf L n == 92)=false:=(by simp [h92]);have HO:Hid (Pro.zL L len D n=Pro.good 1 (n+1)):=(by unfold Pro.zL;rw [if_neg (by simp [hw]),if_neg h40,if_neg h91,if_neg h92];rfl);have HT1:Hid (Pro.zf L n=46->Pro.xk L len DT n=Pro.tAny):=fun e=>(by unfold Pro.xk;rw [if_neg h40,if_neg h91,if_neg h92,if_pos e]);have HT2:Hid (Pro.zf L n≠46->Pro.xk L len DT n=Pro.qK (Pro.zf L n)):=fun e=>(by unfold Pro.xk;rw [if_neg h40,if_neg h91,if_neg h92,if_neg e]);clear h91 hw h40 h92;have hdot:(Pro.zf L n == 46)=true\/(Pro.zf L n == 46)=false:=(by cases (Pro.zf L n == 46)<;>simp);rcases hdot with hd |hd
     ·go_enter func187,ntmps187;go_wp2_with (first |(go_at_call 157;refine Q7 (yH (n:=n) (by exact zb T) hL (by omega)) ?_));go_ret2;rw [zb HT1 (by simpa using hd)];exact yI.good (zb HO) ((ze.refl _ _).mine _ _) ((zb HR).setN _ _ (by omega)) (zA.leaf (.inr (.inl ⟨rfl,rfl⟩)))
     ·go_enter func187,ntmps187;go_wp2_with (first |(go_at_call 157;refine Q7 (yH (n:=n) (by exact zb T) hL (by omega)) ?_));go_ret2;rw [zb HT2 (by simpa using hd)];exact yI.good (zb HO) ((ze.refl _ _).mine _ _) ((zb HR).setN _ _ (by omega)) (zA.leaf (.inr (.inr (.inl ⟨_,rfl,rfl⟩))))
 ·have HO:Hid (Pro.zL L len D n=Pro.bad 3 (Pro.zC L len n) n):=by unfold Pro.zL;rw [if_pos hw];rfl
  have hq:(Pro.zf L n == 42)=true\/(Pro.zf L n == 42)=false/\((Pro.zf L n == 43)=true\/(Pro.zf L n == 43)=false/\((Pro.zf L n == 63)=true\/(Pro.zf L n == 63)=false/\((Pro.zf L n == 123)=true\/(Pro.zf L n == 123)=false/\((Pro.zf L n == 125)=true\/(Pro.zf L n == 125)=false/\(Pro.zf L n == 93)=true)))):=by
   unfold Pro.ZI at hw;cases hq1:(Pro.zf L n == 42)<;>cases hq2:(Pro.zf L n == 43)<;>cases hq3:(Pro.zf L n == 63)<;>cases hq4:(Pro.zf L n == 123)<;>cases hq5:(Pro.zf L n == 125)<;>cases hq6:(Pro.zf L n == 93)<;>simp_all
  clear hw;rcases hq with q1 |⟨q1,q2 |⟨q2,q3 |⟨q3,q4 |⟨q4,q5 |⟨q5,q6⟩⟩⟩⟩⟩
  all_goals
   go_enter func187,ntmps187;go_wp2_with (first |(go_at_call 157;refine Q7 (yH (n:=n) (by exact zb T) hL (by omega)) ?_) |(go_at_call 64;refine (Yi (n:=n) (by exact zb T) hL (by omega)).mono ?_;rintro e wq ⟨v,rfl,hv,tq⟩;have T:=zc tq;have c1:=tq.c1;have f1:=tq.f1));go_ret2;exact yI.bad (zb HO) (by decide) (Own.to (zb T).on) (zb T).rd hv
variable {b L}
theorem Quants.givesT {len dp:Int}{a:Nat->Addr}{w w1 w':World}{T:TypeId}{y:Value}{z t:Tree}{F n:Nat}{x:Ending}{o:Pro.Out}(hlt:b<w.heap.size)(hO:ze (zt b) w w1)(hs:zA F w1 (fun g=>w.heap.size<=g) (.iface T y) z)(h:Quants b L len dp a w1 (.iface T y) (Pro.zu L len n) x w')
  (h0:(Pro.zu L len n).1=false->o.k=0/\t=z/\o.n=(Pro.zu L len n).2.1.n) (h1:(Pro.zu L len n).1=true->(Pro.zu L len n).2.1.k≠0->o=(Pro.zu L len n).2.1)
  (h2:(Pro.zu L len n).1=true->(Pro.zu L len n).2.1.k=0->(∃ v,o=Pro.good v (Pro.jR L (Pro.zu L len n).2.1.n))/\t=Pro.tRep z (Pro.zu L len n).2.1.v (Pro.zu L len n).2.2):yI b L len dp a w o t x w':=by
 obtain ⟨hO',h⟩:=h;have hs':=zA.keep hO' (A:=fun g=>w.heap.size<=g) (fun g hg e=>by unfold zt at e;subst e;exact absurd hlt (Nat.not_lt.2 hg)) F _ _ hs;rcases h with ⟨hq,hx,hR⟩ |⟨hq,hk,hx,hR⟩ |⟨hq,hk,hR,v,hx,hv⟩
 ·obtain ⟨e1,e2,e3⟩:=h0 hq;exact ⟨hO.trans hO',by rw [e3];exact hR,.inl ⟨e1,T,y,F,hx,by rw [e2];exact hs'⟩⟩
 ·subst hx;obtain ⟨⟨vv,ho⟩,ht⟩:=h2 hq hk;rw [ht];refine yI.good (F:=F+1) ho (hO.trans hO') hR ?_;have hv:=Pro.VP (L:=L) (len:=len) n hq hk;exact .inr (.inr (.inr ⟨_,_,_,z,rfl,rfl,hs',hv.1,hv.2.1,hv.2.2.1,hv.2.2.2.1,hv.2.2.2.2⟩))
 ·rw [h1 hq hk];exact ⟨hO.trans hO',hR,.inr ⟨hk,v,hx,hv.base hO.size⟩⟩
theorem Quants.pairT {len dp:Int}{a:Nat->Addr}{w w':World}{p:Value}{o:Bool×Pro.Out×Int}{x:Ending}(h:Quants b L len dp a w p o x w'):∃ p q,x = .returned (.tuple #[p,q]):=by
 obtain ⟨_,⟨_,h,_⟩ |⟨_,_,h,_⟩ |⟨_,_,_,v,h,_⟩⟩:=h
 ·exact ⟨_,_,h⟩
 ·exact ⟨_,_,h⟩
 ·exact ⟨_,_,h⟩
theorem as_noT (h:(k≠0/\x = .returned (.tuple #[.int .i64 c,.bool true]))\/(k=0/\x = .returned (.tuple #[.int .i64 0,.bool false])))(hk:k=0):True/\x = .returned (.tuple #[.int .i64 0,.bool false]):=by
 rcases h with ⟨h,_⟩ |⟨_,h⟩
 ·exact absurd hk h
 ·exact ⟨trivial,h⟩
theorem as_yesT (h:(k≠0/\x = .returned (.tuple #[.int .i64 c,.bool true]))\/(k=0/\x = .returned (.tuple #[.int .i64 0,.bool false])))(hk:k≠0):True/\x = .returned (.tuple #[.int .i64 c,.bool true]):=by
 rcases h with ⟨_,h⟩ |⟨h,_⟩
 ·exact ⟨trivial,h⟩
 ·exact absurd h hk
variable (b L)
theorem JK (len dp:Int)(a:Nat->Addr)(D:Nat->Pro.Out)(DT:Nat->Tree)(w:World)(h:zR w b L n len dp)(hS:zW w a)(hb:11<=b)(hL:L.length<=400)(hn:n<L.length)(hF:Pro.Fit L)(hG:kr b L len dp a D DT)(hD:Pro.DOK L D) :
  Calls prog 158 #[.pointer (some ⟨b,0,none⟩)] w (yI b L len dp a w (Pro.zV L len D n) (Pro.xO L len D DT n)):=by
 have hlt:=h.lt;have HR:=zc h;have HS:=zc hS;have HG:=zc hG;have HD:=zc hD;clear h hS hG hD;by_cases has:Pro.asN L n=0
 ·have hin:=Pro.QC (len:=len) (zb HD) n hn;by_cases hk:(Pro.zL L len D n).k=0
  ·go_enter func158,ntmps158;go_wp2_with (first
    |(go_at_call 186;refine (ko b L n len dp a _ (zb HR) (zb HS) hb hL (by omega)).mono ?_;rintro e w1 ⟨hO1,hR1,hT1⟩;rw [has] at hR1;obtain ⟨_,rfl⟩:=as_noT hT1 has;clear hT1;have HR1:=zc hR1;have HS1:=zc ((zb HS).mine hO1 hb);have HO1:=zc hO1;clear hR1 hO1)
    |(go_at_call 187;refine (QL b L n len dp a D DT _ (zb HR1) (zb HS1) hb hL hn hF (zb HG)).mono ?_;intro e w2 hg;obtain ⟨T2,y2,F2,rfl,hs2,hO2,hR2⟩:=qw (hg.after (zb HO1)) hk;have Hs2:=zc hs2;have HO2:=zc hO2;have HR2:=zc hR2;have HS2:=zc ((zb HS).mine hO2 hb);clear hg hs2 hO2 hR2)
    |(go_at_call 188;refine (Qz b L (Pro.zL L len D n).n len dp a _ T2 y2 (zb HR2) (zb HS2) hb hL hin.2.1 hF).mono ?_;intro e w3 hq;obtain ⟨p1,p2,rfl⟩:=hq.pairT;have Hq:=zc hq;clear hq))
   go_ret2;refine (zb Hq).givesT hlt (zb HO2) (zb Hs2) ?_ ?_ ?_
   ·intro hq0;have hqn:=(Pro.YY (L:=L) (len:=len) (Pro.zL L len D n).n hin.2.1).2.2 hq0;unfold Pro.zV;rw [if_neg (by simp [has]),if_neg (by simp [hk]),if_pos hq0,hqn];refine ⟨hk,?_,rfl⟩;unfold Pro.xO;rw [if_neg (by simp [has]),if_pos hq0]
   ·intro hq1 hk2;unfold Pro.zV;rw [if_neg (by simp [has]),if_neg (by simp [hk]),if_neg (by simp [hq1]),if_pos hk2]
   ·intro hq1 hk2;unfold Pro.zV;rw [if_neg (by simp [has]),if_neg (by simp [hk]),if_neg (by simp [hq1]),if_neg (by simp [hk2])];refine ⟨⟨_,rfl⟩,?_⟩;unfold Pro.xO;rw [if_neg (by simp [has]),if_neg (by simp [hq1])]
  ·have HO:Hid (Pro.zV L len D n=Pro.zL L len D n):=(by unfold Pro.zV;rw [if_neg (by simp [has]),if_pos hk];rfl);go_enter func158,ntmps158;go_wp2_with (first
    |(go_at_call 186;refine (ko b L n len dp a _ (zb HR) (zb HS) hb hL (by omega)).mono ?_;rintro e w1 ⟨hO1,hR1,hT1⟩;rw [has] at hR1;obtain ⟨_,rfl⟩:=as_noT hT1 has;clear hT1;have HR1:=zc hR1;have HS1:=zc ((zb HS).mine hO1 hb);have HO1:=zc hO1;clear hR1 hO1)
    |(go_at_call 187;refine (QL b L n len dp a D DT _ (zb HR1) (zb HS1) hb hL hn hF (zb HG)).mono ?_;intro e w2 hg;obtain ⟨g2,rfl,hv2,hO2,hR2⟩:=Zc (hg.after (zb HO1)) hk;have Hv2:=zc hv2;have HO2:=zc hO2;have HR2:=zc hR2;clear hg hv2 hO2 hR2))
   go_ret2;rw [zb HO];exact ⟨zb HO2,zb HR2,.inr ⟨hk,_,rfl,zb Hv2⟩⟩
 ·have HO:Hid (Pro.zV L len D n=Pro.good 1 (n+Pro.asN L n)):=by unfold Pro.zV;rw [if_pos has];rfl
  go_enter func158,ntmps158;go_wp2_with (go_at_call 186;refine (ko b L n len dp a _ (zb HR) (zb HS) hb hL (by omega)).mono ?_;rintro e w1 ⟨hO1,hR1,hT1⟩;obtain ⟨_,rfl⟩:=as_yesT hT1 has;clear hT1;have HR1:=zc hR1;have HO1:=zc hO1;clear hR1 hO1);go_ret2;have ht:Pro.xO L len D DT n=Pro.tAsr (Pro.asV L n):=by unfold Pro.xO;rw [if_pos has]
  rw [ht];exact yI.good (zb HO) (zb HO1) (zb HR1) (zA.leaf (.inl ⟨_,rfl,rfl⟩))
def vI (base:Nat)(sv:Value)(g:Nat):Prop:=base<=g/\sv.ownBlock≠some g
theorem JL {b base:Nat}{wr w3 W w4:World}{sv sv' x:Value}{T:TypeId}{xs:List Value}{zs:List Tree}{z:Tree}{F G:Nat}(hbase:base<=wr.heap.size)(hbl:b<base)(hown:wr.ownsRow base T 1 sv xs.length xs)(hsz:jm F wr (vI base sv) xs zs)(hO:ze (zt b) wr w3)(hx:zA G w3 (fun g=>wr.heap.size<=g) x z)
  (hW:Q8 w3 W) (hg:W.grownBy w4 sv.ownBlock) (hsep:∀ k,sv'.ownBlock=some k->sv.ownBlock=some k\/W.heap.size<=k):jm (max F G) w4 (vI base sv') (xs++[x]) (zs++[z]):=by
 have h1:jm F w3 (vI base sv) xs zs:=hsz.keep hO (fun g hg e=>by unfold zt at e;have:=hg.1;omega);have hx1:zA G w3 (vI base sv) x z:=zA.mono (fun g _ hg=>⟨yZ hbase hg,fun e=>by have:=(zh hown g e).2;omega⟩) G x z hx;have h2:=(h1.append hx1).keep hW (fun _ _ f=>f);have h3:jm (max F G) W (fun g=>vI base sv g/\g<W.heap.size) (xs++[x]) (zs++[z]):=h2.mono (fun g hl hg=>⟨hg,hl⟩);have h4:=h3.keep (ze.ofGrown hg) (fun g hg e=>hg.1.2 e);exact h4.mono (fun g _ hg=>⟨hg.1.1,fun e=>by
  rcases hsep g e with h |h
  ·exact hg.1.2 h
  ·have:=hg.2;omega⟩)
theorem zbg (h:w.ownsRow base T 1 sv xs.length xs):kI w (fun g=>base<=g) sv xs:=by
 have hl:=zh h;have hc:=@World.ownsRow.cells w base T 1 sv xs.length xs h;rcases h.2 with ⟨rfl,h0⟩ |⟨g,cap,cur,rfl,hb,hg,hn,_⟩
 ·exact .inl ⟨rfl,qg h0⟩
 ·exact .inr ⟨g,cap,rfl,hb,hn,(hl g rfl).2,fun j x hj=>by
   have:=hc (g:=g) rfl j x hj;have e:(⟨g,0,none⟩:Addr).add j=⟨g,j,none⟩:=(by unfold Addr.add;split<;>simp_all);rw [e] at this;exact this⟩
theorem Tryz.infoPtT:(prog.info? 99).map (fun i=>(i.zero,i.size,i.bytes))=some (some .nilIface,1,16):=by kernel_rfl
theorem ZL (len dp:Int)(a:Nat->Addr)(D:Nat->Pro.Out)(DT:Nat->Tree)(w:World)(h:zR w b L n len dp)(hS:zW w a)(hb:11<=b)(hL:L.length<=400)(hn:n<=L.length)(hF:Pro.Fit L)(hG:kr b L len dp a D DT)(hD:Pro.DOK L D) :
  Calls prog 112 #[.pointer (some ⟨b,0,none⟩)] w (yI b L len dp a w (Pro.zw L len D n) (Pro.yq L len D DT n)):=by
 obtain ⟨i0,hi,hz0,hz1,hz2⟩:=info_parts Tryz.infoPtT;have hlt:=h.lt;have HS:=zc hS;have HG:=zc hG;have HD:=zc hD;clear hS hG hD;go_enter func112,ntmps112;go_wp2_with fail;go_loopw [4] (fun sv wr=>∃ (m f F:Nat) (sz:Int) (xs:List Value) (zs:List Tree),m<=L.length/\xs.length<=m/\Hid (L.length<m+f)/\Hid (zR wr b L m len dp)/\Hid (ze (zt b) w wr)/\Hid (wr.ownsRow w.heap.size 99 1 sv xs.length xs)/\Hid (jm F wr (vI w.heap.size sv) xs zs)/\Hid (Pro.zw L len D n=Pro.yp L len D f sz m)/\Hid (Pro.yq L len D DT n=Pro.tSeq (Pro.xt L len D DT f zs m))) (fun _ wr=>L.length-rdN wr b)
 case atStart=>exact ⟨n,L.length+1-n,0,0,[],[],hn,by simp,(by show _<_;omega),h,ze.refl _ _,qD _ _ _ _,⟨rfl,fun j x z hx=>by simp at hx⟩,rfl,rfl⟩
 case round=>
  obtain ⟨m,f,F,sz,xs,zs,hm,hxl,hf,HR,HO,Hown,Hsz,HF,HT⟩:=hrel;obtain ⟨f,rfl⟩:∃ f',f=f'+1:=⟨f-1,by have:=zb hf;omega⟩
  have T:=zc (Trk.start (zb HR) ((zb HS).mine (zb HO) hb) hb);have hrd:=(zb T).rdN;cases hst:Pro.yx L m
  ·have hml:m<L.length:=(by unfold Pro.yx at hst;simp at hst;omega);have he:((m:Int) == (L.length:Int))=false:=(by simp;omega);have hp1:(Pro.zf L m != 124)=true:=(by unfold Pro.yx at hst;simp at hst ⊢;omega);have hp2:(Pro.zf L m != 41)=true:=(by unfold Pro.yx at hst;simp at hst ⊢;omega);have hin:=Pro.Ym (len:=len) (zb HD) m hml;by_cases hk:(Pro.zV L len D m).k=0
   ·have HO1:Hid (Pro.zw L len D n=Pro.yp L len D f (min (sz+(Pro.zV L len D m).v) 301) (Pro.zV L len D m).n):=(by rw [zb HF];simp only [Pro.yp];rw [if_neg (by simp [hst]),if_neg (by simp [hk])];rfl);have HT1:Hid (Pro.yq L len D DT n=Pro.tSeq (Pro.xt L len D DT f (zs++[Pro.xO L len D DT m]) (Pro.zV L len D m).n)):=(by rw [zb HT];simp only [Pro.xt];rw [if_neg (by simp [hst])];rfl);obtain ⟨sa,sn,sc,rfl⟩:=zy (zb Hown);go_wp2_with (first
     |(go_at_call 63;refine (wY (n:=m) (by exact zb T)).mono ?_;rintro e wq ⟨rfl,qq,rfl⟩)
     |(go_at_call 157;refine Q7 (yH (n:=m) (by exact (zb T).drewN _) hL (by omega)) ?_)
     |(go_at_call 158;refine (JK b L m len dp a D DT _ (Trk.rd (n:=m) (by exact (zb T).drewN _)) (Trk.se (n:=m) (by exact (zb T).drewN _)) hb hL hml hF (zb HG) (zb HD)).mono ?_;intro e w3 hg;obtain ⟨T3,y3,F3,rfl,hs3,hO3,hR3⟩:=qw hg hk;have hO3:ze (zt b) wr w3:=((ze.refl (zt b) wr).drewN _).trans hO3;have Hs3:Hid (zA F3 w3 (fun g=>wr.heap.size<=g) (.iface T3 y3) (Pro.xO L len D DT m)):=hs3;have HO3:=zc hO3;have HR3:=zc hR3;have hsz3:=hO3.size;have Hown3:=zc (zn (zb Hown) hO3 (fun g hg e=>by unfold zt at e;have:=(zh (zb Hown) g hg).1;omega));clear hg hs3 hO3 hR3)
     |(at_builtin;refine xH _ rfl _ _ 254 rfl w.heap.size 99 i0 .nilIface 1 16 underlying254 hi hz0 hz1 hz2 rfl (by decide) _ _ xs rfl (xR (zb Hown3) _) _ 1 1 [.iface T3 y3] rfl rfl (cell_one_new _ _ _) (fun x hx=>by simp at hx;subst hx;rfl) (by unfold maxLen;omega) (by omega) (by simp;have:=(zb HO).size;omega) ?_;intro v' w4 hown' hgrow hsep;have Hown4:=zc hown';have Hgr:=zc hgrow;have Hsep:=zc hsep;clear hown' hgrow hsep))
    have hszw:=(zb HO).size;have hO4:ze (zt b) w w4:=(((zb HO).trans (zb HO3)).alloc _).grown (zb Hgr) (fun j hj=>Or.inr (zh (zb Hown) j hj).1);have hnb:∀ g,g<=b->¬((Value.slice sa sn sc).ownBlock=some g):=fun g hg e=>(by have:=(zh (zb Hown) g e).1;omega);have hR4:zR w4 b L (Pro.zV L len D m).n len dp:=((zb HR3).keep ((ze.refl (fun _=>False) w3).alloc _) (fun f=>f) (fun _ _ f=>f)).keep (ze.ofGrown (zb Hgr)) (hnb b (z8 _)) (fun g hg=>hnb g (by omega));have T4:=Trk.start hR4 ((zb HS).mine hO4 hb) hb;refine ⟨⟨(Pro.zV L len D m).n,f,max F F3,_,xs++[.iface T3 y3],zs++[Pro.xO L len D DT m],hin.2.1,by have:=(hin.2.2 hk).1;simp;omega,(by have:=(hin.2.2 hk).1;have:=zb hf;show _<_;omega),hR4,hO4,(by show World.ownsRow _ _ _ _ _ _ _;rw [yS];exact zb Hown4),JL hszw hlt (zb Hown) (zb Hsz) (zb HO3) (zb Hs3) ((ze.refl _ _).alloc _) (zb Hgr) (zb Hsep),HO1,HT1⟩,by rw [T4.rdN,hrd];have:=(hin.2.2 hk).1;omega⟩
   ·have HO1:Hid (Pro.zw L len D n=Pro.zV L len D m):=(by rw [zb HF];simp only [Pro.yp];rw [if_neg (by simp [hst]),if_pos hk];rfl);go_wp2_with (first
     |(go_at_call 63;refine (wY (n:=m) (by exact zb T)).mono ?_;rintro e wq ⟨rfl,qq,rfl⟩)
     |(go_at_call 157;refine Q7 (yH (n:=m) (by exact (zb T).drewN _) hL (by omega)) ?_)
     |(go_at_call 158;refine (JK b L m len dp a D DT _ (Trk.rd (n:=m) (by exact (zb T).drewN _)) (Trk.se (n:=m) (by exact (zb T).drewN _)) hb hL hml hF (zb HG) (zb HD)).mono ?_;intro e w3 hg;obtain ⟨g3,rfl,hv3,hO3,hR3⟩:=Zc hg hk;have Hv3:=zc hv3;have HO3:=zc hO3;have HR3:=zc hR3;clear hg hv3 hO3 hR3))
    go_ret2;rw [zb HO1];have hO3:ze (zt b) w w3:=((zb HO).drewN _).trans (zb HO3);exact ⟨hO3,zb HR3,.inr ⟨hk,_,rfl,(zb Hv3).base (zb HO).size⟩⟩
  ·have HO1:Hid (Pro.zw L len D n=Pro.good sz m):=(by rw [zb HF];simp only [Pro.yp];rw [if_pos hst];rfl);have HT1:Hid (Pro.yq L len D DT n=Pro.tSeq zs):=(by rw [zb HT];simp only [Pro.xt];rw [if_pos hst];rfl);have hcs:((m:Int) == (L.length:Int))=true\/(((m:Int) == (L.length:Int))=false/\(Pro.zf L m != 124)=false)\/(((m:Int) == (L.length:Int))=false/\(Pro.zf L m != 124)=true/\(Pro.zf L m != 41)=false):=by
    by_cases h1:m=L.length
    ·left;simp [h1]
    ·right;by_cases h2:Pro.zf L m=124
     ·left;exact ⟨by simp;omega,by simp [h2]⟩
     ·right;exact ⟨by simp;omega,by simp [h2],by unfold Pro.yx at hst;simp at hst ⊢;omega⟩
   rcases hcs with k1 |⟨k1,k2⟩ |⟨k1,k2,k3⟩
   all_goals
    go_wp2_with (first |(go_at_call 63;refine (wY (n:=m) (by exact zb T)).mono ?_;rintro e wq ⟨rfl,qq,rfl⟩) |(go_at_call 157;refine Q7 (yH (n:=m) (by exact (zb T).drewN _) hL (by omega)) ?_));go_ret2;have hsz:=(zb Hsz).mono (B:=fun g=>w.heap.size<=g) (fun g _ hg=>hg.1);rw [zb HT1];refine yI.good (F:=F+1) (zb HO1) ((zb HO).drewN _) ((zb HR).drewN _) ?_;exact .inr (.inr (.inl ⟨_,xs,zs,rfl,rfl,(zbg (zb Hown)).keep ((ze.refl (fun _=>False) _).drewN _) (fun _ _ f=>f),by omega,hsz.1,fun j x z' hx hz=>zA.keep ((ze.refl (fun _=>False) _).drewN _) (fun _ _ f=>f) F x z' (hsz.2 j x z' hx hz)⟩))
variable {b L}
theorem JM {len dp:Int}{a:Nat->Addr}{w wr w3 W w4:World}{sv sv' x:Value}{T:TypeId}{xs:List Value}{zs:List Tree}{z:Tree}{F G m:Nat}(hlt:b<w.heap.size)(_hb:11<=b)(_hS:zW w a)(hO:ze (zt b) w wr)(hown:wr.ownsRow w.heap.size T 1 sv xs.length xs)(hsz:jm F wr (vI w.heap.size sv) xs zs)(hO3:ze (zt b) wr w3)(hR3:zR w3 b L m len dp)(hx:zA G w3 (fun g=>wr.heap.size<=g) x z)
  (hW:Q8 w3 W) (hg:W.grownBy w4 sv.ownBlock) (hsep:∀ k,sv'.ownBlock=some k->sv.ownBlock=some k\/W.heap.size<=k):ze (zt b) w w4/\zR w4 b L m len dp/\jm (max F G) w4 (vI w.heap.size sv') (xs++[x]) (zs++[z]):=by
 have hnb:∀ g,g<=b->¬(sv.ownBlock=some g):=fun g hg e=>by have:=(zh hown g e).1;omega
 refine ⟨(((hO.trans hO3).trans (hW.mono (fun _ _ f=>f.elim)))).grown hg (fun j hj=>Or.inr (zh hown j hj).1),(hR3.keep hW (fun f=>f) (fun _ _ f=>f)).keep (ze.ofGrown hg) (hnb b (z8 _)) (fun g hg=>hnb g (by omega)),JL hO.size hlt hown hsz hO3 hx hW hg hsep⟩
variable (b L)
theorem kL (len dp:Int)(a:Nat->Addr)(D:Nat->Pro.Out)(DT:Nat->Tree)(w:World)(h:zR w b L n len dp)(hS:zW w a)(hb:11<=b)(hL:L.length<=400)(hn:n<=L.length)(hF:Pro.Fit L)(hG:kr b L len dp a D DT)(hD:Pro.DOK L D) :
  Calls prog 62 #[.pointer (some ⟨b,0,none⟩)] w (yI b L len dp a w (Pro.altP L len D n) (Pro.altQ L len D DT n)):=by
 obtain ⟨i0,hi,hz0,hz1,hz2⟩:=info_parts Tryz.infoPtT;have hlt:=h.lt;have HS:=zc hS;have HG:=zc hG;have HD:=zc hD;clear hS hG hD;go_enter func62,ntmps62;go_wp2_with fail;go_loopw [4] (fun sv wr=>∃ (m f F:Nat) (ys:List Int) (xs:List Value) (zs:List Tree),m<=L.length/\xs.length<=m/\Hid (L.length<m+f)/\Hid (zR wr b L m len dp)/\Hid (ze (zt b) w wr)/\Hid (wr.ownsRow w.heap.size 99 1 sv xs.length xs)/\Hid (jm F wr (vI w.heap.size sv) xs zs)/\Hid (Pro.altP L len D n=Pro.altO L len D f ys m)/\Hid (Pro.altQ L len D DT n=Pro.tAlt (Pro.altT L len D DT f zs m))) (fun _ wr=>L.length-rdN wr b)
 case atStart=>exact ⟨n,L.length+1-n,0,[],[],[],hn,by simp,(by show _<_;omega),h,ze.refl _ _,qD _ _ _ _,⟨rfl,fun j x z hx=>by simp at hx⟩,rfl,rfl⟩
 case round=>
  obtain ⟨m,f,F,ys,xs,zs,hm,hxl,hf,HR,HO,Hown,Hsz,HF,HT⟩:=hrel;obtain ⟨f,rfl⟩:∃ f',f=f'+1:=⟨f-1,by have:=zb hf;omega⟩
  have hrd:=(Trk.start (zb HR) ((zb HS).mine (zb HO) hb) hb).rdN;have hin:=Pro.vk (len:=len) (zb HD) m hm;by_cases hk:(Pro.zw L len D m).k=0
  ·obtain ⟨sa,sn,sc,rfl⟩:=zy (zb Hown);by_cases hbar:Pro.zf L (Pro.zw L len D m).n=124
   ·have m1:Pro.zr L (Pro.zw L len D m).n { data:=#[124] }=true:=(by rw [Pro.zp L _ 124 124 rfl];simp [hbar]);have hlt2:=Pro.zq (L:=L) (n:=(Pro.zw L len D m).n) (by omega);have HO1:Hid (Pro.altP L len D n=Pro.altO L len D f (ys++[(Pro.zw L len D m).v]) ((Pro.zw L len D m).n+1)):=(by rw [zb HF];simp only [Pro.altO];rw [if_neg (by simp [hk]),if_pos hbar];rfl);have HT1:Hid (Pro.altQ L len D DT n=Pro.tAlt (Pro.altT L len D DT f (zs++[Pro.yq L len D DT m]) ((Pro.zw L len D m).n+1))):=(by rw [zb HT];simp only [Pro.altT];rw [if_pos hbar];rfl);clear hbar;go_wp2_with (first
     |(go_at_call 112;refine (ZL b L m len dp a D DT _ (zb HR) ((zb HS).mine (zb HO) hb) hb hL hm hF (zb HG) (zb HD)).mono ?_;intro e w3 hg;obtain ⟨T3,y3,F3,rfl,hs3,hO3,hR3⟩:=qw hg hk;have Hs3:=zc hs3;have HO3:=zc hO3;have HR3:=zc hR3;have hsz3:=hO3.size;have Hown3:=zc (zn (zb Hown) hO3 (fun g hg e=>by unfold zt at e;have:=(zh (zb Hown) g hg).1;omega));clear hg hs3 hO3 hR3)
     |(at_builtin;refine xH _ rfl _ _ 243 rfl w.heap.size 99 i0 .nilIface 1 16 underlying243 hi hz0 hz1 hz2 rfl (by decide) _ _ xs rfl (xR (zb Hown3) _) _ 1 1 [.iface T3 y3] rfl rfl (cell_one_new _ _ _) (fun x hx=>by simp at hx;subst hx;rfl) (by unfold maxLen;omega) (by omega) (by simp;have:=(zb HO).size;omega) ?_;intro v' w4 hown' hgrow hsep;have hG4:=JM hlt hb (zb HS) (zb HO) (zb Hown) (zb Hsz) (zb HO3) (zb HR3) (zb Hs3) ((ze.refl _ _).alloc _) hgrow hsep;obtain ⟨hO4,hR4,hsz4⟩:=hG4;have T:=zc (Trk.start hR4 ((zb HS).mine hO4 hb) hb);have HO4:=zc hO4;have Hsz4:=zc hsz4;have Hown4:=zc hown';clear hown' hgrow hsep hO4 hR4 hsz4)
     |(go_at_call 113;refine (jM (n:=(Pro.zw L len D m).n) _ (by exact zb T) hL (by omega) (by decide) (by assumption)).mono ?_;rintro e wq ⟨rfl,tq⟩;have tq:Trk _ _ b L (((Pro.zw L len D m).n)+1) len dp a wq:=tq;have T:=zc tq;have c1:=tq.c1;have f1:=tq.f1))
    have hk4:=Own.to (zb T).on;have hown5:wq.ownsRow w.heap.size 99 1 v' (xs.length+1) (xs++[.iface T3 y3]):=zn (zb Hown4) hk4 (fun g hg e=>by unfold zt at e;have:=(zh (zb Hown4) g hg).1;omega);exact ⟨⟨(Pro.zw L len D m).n+1,f,max F F3,_,xs++[Value.iface T3 y3],zs++[Pro.yq L len D DT m],by omega,by simp;omega,(by have:=zb hf;show _<_;omega),(zb T).rd,(zb HO4).trans hk4,(by show World.ownsRow _ _ _ _ _ _ _;rw [yS];exact hown5),zc ((zb Hsz4).keep hk4 (fun g hg e=>by unfold zt at e;have:=hg.1;omega)),HO1,HT1⟩,by rw [(zb T).rdN,hrd];omega⟩
   ·have m1:Pro.zr L (Pro.zw L len D m).n { data:=#[124] }=false:=(by rw [Pro.zp L _ 124 124 rfl];simp [hbar]);have HO1:Hid (Pro.altP L len D n=Pro.good (min (Pro.sumS 0 (ys++[(Pro.zw L len D m).v])+((ys.length:Int)+1)-1) 301) (Pro.zw L len D m).n):=(by rw [zb HF];simp only [Pro.altO];rw [if_neg (by simp [hk]),if_neg hbar];rfl);have HT1:Hid (Pro.altQ L len D DT n=Pro.tAlt (zs++[Pro.yq L len D DT m])):=(by rw [zb HT];simp only [Pro.altT];rw [if_neg hbar];rfl);clear hbar;go_wp2_with (first
     |(go_at_call 112;refine (ZL b L m len dp a D DT _ (zb HR) ((zb HS).mine (zb HO) hb) hb hL hm hF (zb HG) (zb HD)).mono ?_;intro e w3 hg;obtain ⟨T3,y3,F3,rfl,hs3,hO3,hR3⟩:=qw hg hk;have Hs3:=zc hs3;have HO3:=zc hO3;have HR3:=zc hR3;have hsz3:=hO3.size;have Hown3:=zc (zn (zb Hown) hO3 (fun g hg e=>by unfold zt at e;have:=(zh (zb Hown) g hg).1;omega));clear hg hs3 hO3 hR3)
     |(at_builtin;refine xH _ rfl _ _ 243 rfl w.heap.size 99 i0 .nilIface 1 16 underlying243 hi hz0 hz1 hz2 rfl (by decide) _ _ xs rfl (xR (zb Hown3) _) _ 1 1 [.iface T3 y3] rfl rfl (cell_one_new _ _ _) (fun x hx=>by simp at hx;subst hx;rfl) (by unfold maxLen;omega) (by omega) (by simp;have:=(zb HO).size;omega) ?_;intro v' w4 hown' hgrow hsep;have hG4:=JM hlt hb (zb HS) (zb HO) (zb Hown) (zb Hsz) (zb HO3) (zb HR3) (zb Hs3) ((ze.refl _ _).alloc _) hgrow hsep;obtain ⟨hO4,hR4,hsz4⟩:=hG4;have T:=zc (Trk.start hR4 ((zb HS).mine hO4 hb) hb);have HO4:=zc hO4;have Hsz4:=zc hsz4;have Hown4:=zc hown';clear hown' hgrow hsep hO4 hR4 hsz4)
     |(go_at_call 113;refine (y8 (n:=(Pro.zw L len D m).n) _ (by exact zb T) hL (by omega) (by decide) (by assumption)).mono ?_;rintro e wq ⟨rfl,qq,rfl⟩))
    go_ret2;have hsz:=(zb Hsz4).mono (B:=fun g=>w.heap.size<=g) (fun g _ hg=>hg.1);have hown5:w4.ownsRow w.heap.size 99 1 v' (xs++[Value.iface T3 y3]).length (xs++[Value.iface T3 y3]):=(by rw [yS];exact zb Hown4);rw [zb HT1];refine yI.good (F:=max F F3+1) (zb HO1) ((zb HO4).drewN _) ((zb T).rd.drewN _) ?_;exact .inr (.inl ⟨_,xs++[.iface T3 y3],zs++[Pro.yq L len D DT m],rfl,rfl,(zbg hown5).keep ((ze.refl (fun _=>False) _).drewN _) (fun _ _ f=>f),by simp;omega,hsz.1,fun j x z' hx hz=>zA.keep ((ze.refl (fun _=>False) _).drewN _) (fun _ _ f=>f) _ x z' (hsz.2 j x z' hx hz),by simp⟩)
  ·have HO1:Hid (Pro.altP L len D n=Pro.zw L len D m):=(by rw [zb HF];simp only [Pro.altO];rw [if_pos hk];rfl);go_wp2_with (first
    |(go_at_call 112;refine (ZL b L m len dp a D DT _ (zb HR) ((zb HS).mine (zb HO) hb) hb hL hm hF (zb HG) (zb HD)).mono ?_;intro e w3 hg;obtain ⟨g3,rfl,hv3,hO3,hR3⟩:=Zc hg hk;have Hv3:=zc hv3;have HO3:=zc hO3;have HR3:=zc hR3;clear hg hv3 hO3 hR3))
   go_ret2;rw [zb HO1];exact ⟨(zb HO).trans (zb HO3),zb HR3,.inr ⟨hk,_,rfl,(zb Hv3).base (zb HO).size⟩⟩
theorem zR.setDT {b:Nat}{L:List (Int×Int)}{n:Nat}{len dp:Int}(h:zR w b L n len dp)(j:Int):zR (w.setCell ⟨b,3,none⟩ (.int .i64 j)) b L n len j:=by
 obtain ⟨c0,c1,c2,c3,f1,f3⟩:=h;refine ⟨?_,(zF _ _ _ _ (by simp)).trans c1,(zF _ _ _ _ (by simp)).trans c2,yY _ _ _ c3,(zk _ _ _ _).trans f1,(zk _ _ _ _).trans f3⟩;rcases c0 with ⟨g,cap,c0,hcap,hne,hrow⟩ |⟨rfl,c0⟩
 ·exact .inl ⟨g,cap,(zF _ _ _ _ (by simp)).trans c0,hcap,hne,hrow.keep ((ze.refl (zt b) w).mine 3 _) (by unfold zt;omega)⟩
 ·exact .inr ⟨rfl,(zF _ _ _ _ (by simp)).trans c0⟩
theorem zai {b F:Nat}{w w1 w2 w3:World}{v:Value}{z:Tree}(hlt:b<w.heap.size)(h1:ze (zt b) w w1)(hs:zA F w2 (fun g=>w1.heap.size<=g) v z)(h3:ze (zt b) w2 w3):zA F w3 (fun g=>w.heap.size<=g) v z:=
 zA.keep h3 (A:=fun g=>w.heap.size<=g) (fun g hg e=>by unfold zt at e;subst e;exact absurd hlt (Nat.not_lt.2 hg)) F v z (zA.mono (fun g _ hg=>yZ h1.size hg) F v z hs)
theorem Wf (len:Int)(a:Nat->Addr)(hb:11<=b)(hL:L.length<=400):kr b L len 10 a (Pro.zl L len 0) (Pro.zH L len 0):=by
 intro n w h hS hn;have T:=zc (Trk.start h hS hb);have c3:=h.c3;have hs7:=hS.s7;clear h hS;go_enter func221,ntmps221;go_wp2_with fail;go_region_with (first
  |(go_at_call 114;refine (yE (n:=n) (by exact (zb T).drewN _) hL (by omega)).mono ?_;rintro e w1 ⟨rfl,q,rfl⟩)
  |(go_at_call 45;refine (Xl (n:=n) _ 7 _ _ rfl (by exact (zb T).drewN _)).mono ?_;rintro e w1 ⟨v,rfl,hv,tq⟩))
 all_goals go_wp2_with fail
 all_goals
  go_ret2;exact yI.bad rfl (show (7:Nat)≠0 by decide) (Own.to tq.on) tq.rd hv
theorem Wg (len dp:Int)(a:Nat->Addr)(r:Nat)(hb:11<=b)(hL:L.length<=400)(h0:0<=dp)(h1:dp<10)
  (hA:∀ (n:Nat) (w:World),zR w b L n len (dp+1)->zW w a->n<=L.length->Calls prog 62 #[.pointer (some ⟨b,0,none⟩)] w (yI b L len (dp+1) a w (Pro.altP L len (Pro.zl L len r) n) (Pro.altQ L len (Pro.zl L len r) (Pro.zH L len r) n))):kr b L len dp a (Pro.zl L len (r+1)) (Pro.zH L len (r+1)):=by
 intro n w h hS hn;have hlt:=h.lt;have HR:=zc h;have HS:=zc hS;have HA:=zc hA;have c3:=h.c3;have hd:(dp == 10)=false:=by simp;omega
 clear h hS hA;have ho:=Pro.wI (L:=L) (len:=len) n hn;have ha:=Pro.yF (len:=len) (Pro.zQ (L:=L) (len:=len) r) (Pro.zS L len n).n ho.2;by_cases hk1:(Pro.zS L len n).k=0
 ·by_cases hk2:(Pro.altP L len (Pro.zl L len r) (Pro.zS L len n).n).k=0
  ·by_cases hc:Pro.zf L (Pro.altP L len (Pro.zl L len r) (Pro.zS L len n).n).n=41
   ·have m1:Pro.zr L (Pro.altP L len (Pro.zl L len r) (Pro.zS L len n).n).n { data:=#[41] }=true:=(by rw [Pro.zp L _ 41 41 rfl];simp [hc]);have HO:Hid (Pro.zl L len (r+1) n=Pro.good (Pro.altP L len (Pro.zl L len r) (Pro.zS L len n).n).v ((Pro.altP L len (Pro.zl L len r) (Pro.zS L len n).n).n+1)):=(by simp only [Pro.zl];unfold Pro.qE;rw [if_neg (by simp [hk1]),if_neg (by simp [hk2]),if_pos hc];rfl);clear hc;go_enter func221,ntmps221;go_wp2_with (first
     |(go_at_call 251;refine (kJ b L n len dp a _ (zb HR) (zb HS) hb hL hn).mono ?_;rintro e w1 ⟨tq,hT⟩;obtain ⟨rfl,_⟩:=wF hT hk1;clear hT;have T1:=zc tq;have c31:=tq.rd.c3;have f31:=tq.rd.f3;clear tq)
     |(go_at_call 62;refine (zb HA (Pro.zS L len n).n _ ((zb T1).rd.setDT _) ((zb T1).se.mine ((ze.refl _ _).mine _ _) hb) ho.2).mono ?_;intro e w2 hg;obtain ⟨T2,y2,F2,rfl,hs2,hO2,hR2⟩:=qw hg hk2;have Hs2:=zc hs2;have HO2:=zc hO2;have HR2:=zc hR2;have c32:=hR2.c3;have f32:=hR2.f3;clear hg hs2 hO2 hR2)
     |(go_at_call 113;refine (yT b L (Pro.altP L len (Pro.zl L len r) (Pro.zS L len n).n).n len dp _ _ ((zb HR2).setDT _) hL (by omega) (by decide) (by assumption)).mono ?_;rintro e w3 ⟨rfl,hR3,hO3⟩;have HR3:=zc hR3;have HO3:=zc hO3;clear hR3 hO3))
    go_ret2;have hA1:ze (zt b) w (w1.setCell ⟨b,3,none⟩ (.int .i64 (dp+1))):=(Own.to (zb T1).on).mine _ _;have hA2:ze (zt b) w2 w3:=((ze.refl (zt b) w2).mine 3 _).trans (zb HO3);exact yI.good (zb HO) ((hA1.trans (zb HO2)).trans hA2) (zb HR3) (zai hlt hA1 (zb Hs2) hA2)
   ·have m1:Pro.zr L (Pro.altP L len (Pro.zl L len r) (Pro.zS L len n).n).n { data:=#[41] }=false:=(by rw [Pro.zp L _ 41 41 rfl];simp [hc]);have HO:Hid (Pro.zl L len (r+1) n=Pro.bad 3 (Pro.zC L len (Pro.altP L len (Pro.zl L len r) (Pro.zS L len n).n).n) (Pro.altP L len (Pro.zl L len r) (Pro.zS L len n).n).n):=(by simp only [Pro.zl];unfold Pro.qE;rw [if_neg (by simp [hk1]),if_neg (by simp [hk2]),if_neg hc];rfl);clear hc;go_enter func221,ntmps221;go_wp2_with (first
     |(go_at_call 251;refine (kJ b L n len dp a _ (zb HR) (zb HS) hb hL hn).mono ?_;rintro e w1 ⟨tq,hT⟩;obtain ⟨rfl,_⟩:=wF hT hk1;clear hT;have T1:=zc tq;have c31:=tq.rd.c3;have f31:=tq.rd.f3;clear tq)
     |(go_at_call 62;refine (zb HA (Pro.zS L len n).n _ ((zb T1).rd.setDT _) ((zb T1).se.mine ((ze.refl _ _).mine _ _) hb) ho.2).mono ?_;intro e w2 hg;obtain ⟨T2,y2,F2,rfl,hs2,hO2,hR2⟩:=qw hg hk2;have Hs2:=zc hs2;have HO2:=zc hO2;have HR2:=zc hR2;have c32:=hR2.c3;have f32:=hR2.f3;clear hg hs2 hO2 hR2);(have T:=zc (Trk.start ((zb HR2).setDT dp) (((zb HS).mine (((Own.to (zb T1).on).mine 3 _).trans (zb HO2)) hb).mine ((ze.refl _ _).mine 3 _) hb) hb))
     |(go_at_call 113;refine (y8 (n:=(Pro.altP L len (Pro.zl L len r) (Pro.zS L len n).n).n) _ (by exact zb T) hL (by omega) (by decide) (by assumption)).mono ?_;rintro e wq ⟨rfl,qq,rfl⟩)
     |(go_at_call 64;refine (Yi (n:=(Pro.altP L len (Pro.zl L len r) (Pro.zS L len n).n).n) (by exact (zb T).drewN _) hL (by omega)).mono ?_;rintro e wq ⟨v,rfl,hv,tq⟩;have T:=zc tq;have c1:=tq.c1;have f1:=tq.f1))
    go_ret2;have hA1:ze (zt b) w (w1.setCell ⟨b,3,none⟩ (.int .i64 (dp+1))):=(Own.to (zb T1).on).mine _ _;have hA2:=(hA1.trans (zb HO2)).mine 3 (.int .i64 dp);exact yI.bad (zb HO) (by decide) (hA2.trans (Own.to (zb T).on)) (zb T).rd (hv.base hA2.size)
  ·have HO:Hid (Pro.zl L len (r+1) n=(Pro.altP L len (Pro.zl L len r) (Pro.zS L len n).n)):=(by simp only [Pro.zl];unfold Pro.qE;rw [if_neg (by simp [hk1]),if_pos hk2];rfl);go_enter func221,ntmps221;go_wp2_with (first
    |(go_at_call 251;refine (kJ b L n len dp a _ (zb HR) (zb HS) hb hL hn).mono ?_;rintro e w1 ⟨tq,hT⟩;obtain ⟨rfl,_⟩:=wF hT hk1;clear hT;have T1:=zc tq;have c31:=tq.rd.c3;have f31:=tq.rd.f3;clear tq)
    |(go_at_call 62;refine (zb HA (Pro.zS L len n).n _ ((zb T1).rd.setDT _) ((zb T1).se.mine ((ze.refl _ _).mine _ _) hb) ho.2).mono ?_;intro e w2 hg;obtain ⟨g2,rfl,hv2,hO2,hR2⟩:=Zc hg hk2;have Hv2:=zc hv2;have HO2:=zc hO2;have HR2:=zc hR2;have c32:=hR2.c3;have f32:=hR2.f3;clear hg hv2 hO2 hR2))
   go_ret2;have hA1:ze (zt b) w (w1.setCell ⟨b,3,none⟩ (.int .i64 (dp+1))):=(Own.to (zb T1).on).mine _ _;rw [zb HO];exact ⟨(hA1.trans (zb HO2)).mine 3 _,(zb HR2).setDT dp,.inr ⟨hk2,_,rfl,((zb Hv2).base hA1.size).keep ((ze.refl (zt b) _).mine 3 _) (fun g hg e=>by unfold zt at e;omega)⟩⟩
 ·have HO:Hid (Pro.zl L len (r+1) n=Pro.zS L len n):=by simp only [Pro.zl];unfold Pro.qE;rw [if_pos hk1];rfl
  go_enter func221,ntmps221;go_wp2_with (go_at_call 251;refine (kJ b L n len dp a _ (zb HR) (zb HS) hb hL hn).mono ?_;rintro e w1 ⟨tq,hT⟩;obtain ⟨v,rfl,hv⟩:=Ku hT hk1;clear hT;obtain ⟨gv,hgv⟩:=hv.form;subst hgv;have T1:=zc tq;clear tq);go_ret2;rw [zb HO];exact ⟨Own.to (zb T1).on,(zb T1).rd,.inr ⟨hk1,_,rfl,hv⟩⟩
theorem QM (b:Nat)(L:List (Int×Int))(len:Int)(a:Nat->Addr)(hb:11<=b)(hL:L.length<=400)(hF:Pro.Fit L):∀ r:Nat,r<=10->kr b L len ((10:Int)-r) a (Pro.zl L len r) (Pro.zH L len r)
 |0,_=>Wf b L len a hb hL
 |r+1,hr=>by
  have hG:=QM b L len a hb hL hF r (by omega);refine Wg b L len _ a r hb hL (by omega) (by omega) ?_;rw [show ((10:Int)-((r+1:Nat):Int))+1=(10:Int)-r by omega];intro n w h hS hn;exact kL b L n len _ a (Pro.zl L len r) (Pro.zH L len r) w h hS hb hL hn hF hG (Pro.zQ r)
theorem je (len:Int)(a:Nat->Addr)(w:World)(h:zR w b L n len 0)(hS:zW w a)(hb:11<=b)(hL:L.length<=400)(hn:n<=L.length)(hF:Pro.Fit L) :
  Calls prog 62 #[.pointer (some ⟨b,0,none⟩)] w (yI b L len 0 a w (Pro.altP L len (Pro.zl L len 10) n) (Pro.altQ L len (Pro.zl L len 10) (Pro.zH L len 10) n)):=
 kL b L n len 0 a (Pro.zl L len 10) (Pro.zH L len 10) w h hS hb hL hn hF (QM b L len a hb hL hF 10 (by omega)) (Pro.zQ 10)
end
section
open Sm (Tree capT)
namespace Pro
def vm (T:Tree)(v:Int):Prop:=∃ F0,∀ F,F0<=F->capT F T=v
def vO (ts:List Tree)(zs:List Int):Prop:=∃ F0,∀ F,F0<=F->ts.map (capT F)=zs
theorem XO {T:Tree}(h:T.kind<=4):vm T 1:=⟨1,fun F hF=>by
 obtain ⟨g,rfl⟩:∃ g,F=g+1:=⟨F-1,by omega⟩
 unfold capT;rw [if_neg (by omega),if_neg (by omega),if_neg (by omega)]⟩
theorem sz_nil:vO [] []:=⟨0,fun _ _=>rfl⟩
theorem vO.snoc {ts:List Tree}{zs:List Int}{t:Tree}{z:Int}:vO ts zs->vm t z->vO (ts++[t]) (zs++[z])
 |⟨F0,h⟩,⟨F1,g⟩=>⟨max F0 F1,fun F hF=>by rw [X7,h F (by omega)];simp [g F (by omega)]⟩
theorem sz_seq {ts:List Tree}{zs:List Int}:vO ts zs->vm (tSeq ts) (sumS 0 zs)
 |⟨F0,h⟩=>⟨F0+1,fun F hF=>by
  obtain ⟨g,rfl⟩:∃ g,F=g+1:=⟨F-1,by omega⟩
  conv=>lhs;unfold capT
  rw [if_neg (by simp [tSeq]),if_pos (by rfl)];show sumS 0 (ts.map (capT g))=_;rw [h g (by omega)]⟩
theorem vO.len {ts:List Tree}{zs:List Int}:vO ts zs->ts.length=zs.length
 |⟨F0,h⟩=>by rw [<-h F0 (z8 _)];simp
theorem sz_alt {ts:List Tree}{zs:List Int}(hz:vO ts zs):vm (tAlt ts) (min (sumS 0 zs+zs.length-1) 301):=by
 have hl:=hz.len;obtain ⟨F0,h⟩:=hz;refine ⟨F0+1,fun F hF=>?_⟩;obtain ⟨g,rfl⟩:∃ g,F=g+1:=⟨F-1,by omega⟩
 conv=>lhs;unfold capT
 rw [if_pos (by rfl)];show min (sumS 0 (ts.map (capT g))+(ts.length:Int)-1) 301=_;rw [h g (by omega),hl]
theorem sz_rep {t:Tree}{z:Int}(l m:Int):vm t z->vm (tRep t l m) (min (repS z l m) 301)
 |⟨F0,h⟩=>⟨F0+1,fun F hF=>by
  obtain ⟨g,rfl⟩:∃ g,F=g+1:=⟨F-1,by omega⟩
  conv=>lhs;unfold capT
  rw [if_neg (by simp [tRep]),if_neg (by simp [tRep]),if_pos (by rfl)];show min (repS (capT g t) l m) 301=_;rw [h g (by omega)]⟩
section
variable {L:List (Int×Int)} {len:Int}
theorem let_lt {n:Nat}{c:Int}(h:zf L n=c)(hc:0<=c):n<L.length:=by
 by_cases hl:n<L.length
 ·exact hl
 ·rw [zO (by omega)] at h;omega
theorem atomT_sz {D:Nat->Out}{DT:Nat->Tree}(hD:∀ n,n<L.length->(D n).k=0->vm (DT n) (D n).v)(n:Nat)(hk:(zL L len D n).k=0):vm (xk L len DT n) (zL L len D n).v:=by
 unfold zL at hk ⊢;unfold xk;by_cases hw:ZI (zf L n)=true
 ·rw [if_pos hw] at hk;simp [bad] at hk
 ·rw [if_neg hw] at hk ⊢;by_cases h1:zf L n=40
  ·rw [if_pos h1] at hk ⊢;rw [if_pos h1];exact hD n (let_lt (c:=40) h1 (by omega)) hk
  ·rw [if_neg h1] at hk ⊢;rw [if_neg h1];by_cases h2:zf L n=91
   ·rw [if_pos h2] at hk ⊢;rw [if_pos h2];unfold one at hk ⊢;split at hk
    ·rename_i h3;rw [if_pos h3];exact XO (by simp [xN,tCls])
    ·rename_i h3;exact absurd hk h3
   ·rw [if_neg h2] at hk ⊢;rw [if_neg h2];by_cases h3:zf L n=92
    ·rw [if_pos h3] at hk ⊢;rw [if_pos h3];unfold one at hk ⊢;split at hk
     ·rename_i h4;rw [if_pos h4];unfold oneT;split<;>exact XO (by simp [xV,qK])
     ·rename_i h4;exact absurd hk h4
    ·rw [if_neg h3] at hk ⊢;rw [if_neg h3];split<;>exact XO (by simp [tAny,qK])
theorem termT_sz {D:Nat->Out}{DT:Nat->Tree}(hD:∀ n,n<L.length->(D n).k=0->vm (DT n) (D n).v)(n:Nat)(hk:(zV L len D n).k=0):vm (xO L len D DT n) (zV L len D n).v:=by
 unfold zV at hk ⊢;unfold xO;by_cases h0:asN L n≠0
 ·rw [if_pos h0,if_pos h0];exact XO (by simp [tAsr])
 ·rw [if_neg h0] at hk ⊢;rw [if_neg h0];by_cases h1:(zL L len D n).k≠0
  ·rw [if_pos h1] at hk;exact absurd hk h1
  ·rw [if_neg h1] at hk ⊢;have ha:=atomT_sz (L:=L) (len:=len) hD n (by simpa using h1);by_cases h2:(zu L len (zL L len D n).n).1=false
   ·rw [if_pos h2,if_pos h2];exact ha
   ·rw [if_neg h2] at hk ⊢;rw [if_neg h2];by_cases h3:(zu L len (zL L len D n).n).2.1.k≠0
    ·rw [if_pos h3] at hk;exact absurd hk h3
    ·rw [if_neg h3];exact sz_rep _ _ ha
theorem JN {D:Nat->Out}{DT:Nat->Tree}(hD:∀ n,n<L.length->(D n).k=0->vm (DT n) (D n).v):∀ (f:Nat) (ts:List Tree) (zs:List Int) (n:Nat),vO ts zs->(yp L len D f (sumS 0 zs) n).k=0->∃ zs',vO (xt L len D DT f ts n) zs'/\(yp L len D f (sumS 0 zs) n).v=sumS 0 zs'
 |0,_,zs,_,h,_=>⟨zs,h,rfl⟩
 |f+1,ts,zs,n,h,hk=>by
  unfold yp at hk ⊢;unfold xt;by_cases h0:yx L n=true
  ·rw [if_pos h0,if_pos h0];exact ⟨zs,h,rfl⟩
  ·rw [if_neg h0] at hk ⊢;rw [if_neg h0];by_cases h1:(zV L len D n).k≠0
   ·rw [if_pos h1] at hk;exact absurd hk h1
   ·rw [if_neg h1] at hk ⊢;have ht:=termT_sz (L:=L) (len:=len) hD n (by simpa using h1);rw [<-sumS_append] at hk ⊢;exact JN hD f _ _ _ (h.snoc ht) hk
theorem zc2 {D:Nat->Out}{DT:Nat->Tree}(hD:∀ n,n<L.length->(D n).k=0->vm (DT n) (D n).v)(n:Nat)(hk:(zw L len D n).k=0):vm (yq L len D DT n) (zw L len D n).v:=by
 obtain ⟨zs,h1,h2⟩:=JN hD (L.length+1-n) [] [] n sz_nil hk;have e:(zw L len D n).v=sumS 0 zs:=h2;rw [e];exact sz_seq h1
theorem zbh {D:Nat->Out}{DT:Nat->Tree}(hO:DOK L D)(hD:∀ n,n<L.length->(D n).k=0->vm (DT n) (D n).v):∀ (f:Nat) (ts:List Tree) (zs:List Int) (n:Nat),n<=L.length->L.length+1-n<=f->vO ts zs->(altO L len D f zs n).k=0->∃ zs',vO (altT L len D DT f ts n) zs'/\(altO L len D f zs n).v=min (sumS 0 zs'+zs'.length-1) 301
 |0,_,_,n,h,hf,_,_=>by omega
 |f+1,ts,zs,n,h,hf,hz,hk=>by
  unfold altO at hk ⊢;unfold altT;have hin:=vk (len:=len) hO n h;by_cases h0:(zw L len D n).k≠0
  ·rw [if_pos h0] at hk;exact absurd hk h0
  ·rw [if_neg h0] at hk ⊢;have ht:=zc2 (L:=L) (len:=len) hD n (by simpa using h0);by_cases h1:zf L (zw L len D n).n=124
   ·rw [if_pos h1] at hk ⊢;rw [if_pos h1];have hl:=let_lt h1 (by omega);exact zbh hO hD f _ _ _ (by omega) (by omega) (hz.snoc ht) hk
   ·rw [if_neg h1,if_neg h1];refine ⟨zs++[(zw L len D n).v],hz.snoc ht,?_⟩;rw [yS];rfl
theorem zbi {D:Nat->Out}{DT:Nat->Tree}(hO:DOK L D)(hD:∀ n,n<L.length->(D n).k=0->vm (DT n) (D n).v)(n:Nat)(hn:n<=L.length)(hk:(altP L len D n).k=0):vm (altQ L len D DT n) (altP L len D n).v:=by
 obtain ⟨zs,h1,h2⟩:=zbh hO hD (L.length+1-n) [] [] n hn (z8 _) sz_nil hk;have e:(altP L len D n).v=min (sumS 0 zs+zs.length-1) 301:=h2;rw [e];exact sz_alt h1
theorem Wh:∀ (r n:Nat),n<L.length->(zl L len r n).k=0->vm (zH L len r n) (zl L len r n).v
 |0,_,_,hk=>by simp [zl,bad] at hk
 |r+1,n,hn,hk=>by
  have ho:=wI (L:=L) (len:=len) n hn;have e:zl L len (r+1) n=qE L len (altP L len (zl L len r)) n:=rfl;rw [e] at hk ⊢;unfold qE at hk ⊢;by_cases h1:(zS L len n).k≠0
  ·rw [if_pos h1] at hk;exact absurd hk h1
  ·rw [if_neg h1] at hk ⊢;by_cases h2:(altP L len (zl L len r) (zS L len n).n).k≠0
   ·rw [if_pos h2] at hk;exact absurd hk h2
   ·rw [if_neg h2] at hk ⊢;by_cases h3:zf L (altP L len (zl L len r) (zS L len n).n).n=41
    ·rw [if_pos h3];exact zbi (zQ r) (fun n hn hk=>Wh r n hn hk) _ (by omega) (by simpa using h2)
    ·rw [if_neg h3] at hk;simp [bad] at hk
theorem Wi (r n:Nat)(hn:n<=L.length)(hk:(altP L len (zl L len r) n).k=0):vm (altQ L len (zl L len r) (zH L len r) n) (altP L len (zl L len r) n).v:=zbi (zQ r) (fun n hn hk=>Wh r n hn hk) n hn hk
end
theorem vm.at {T:Tree}{v:Int}{F:Nat}(h:vm T v)(hw:Sm.WF F T):capT F T=v:=by
 obtain ⟨F0,h0⟩:=h;rw [<-Sm.Kx hw (show F<=max F F0 by omega)];exact h0 _ (by omega)
end Pro
end
section
open Go.RowKit
open Sm (Tree)
namespace Eqv
variable {s:ByteArray} {L:List (Int×Int)}
def inSp (sp:List (Int×Int))(c:Int):Bool:=sp.any fun x=>decide (x.1<=c) && decide (c<=x.2)
def inPt (p:Pt)(c:Int):Bool:=inSp p.spans c != p.neg
def anyPt (ps:List Pt)(c:Int):Bool:=ps.any fun p=>inPt p c
def tkTok (t:Tok)(c:Int):Bool:=anyPt t.parts c != t.neg
def kM (a c:Int):Bool:=inPt ⟨decide (a<97),Ref.setL a⟩ c
def wN (R:List (Int×Int))(S:List Int)(c:Int):Bool:=inSp R c ||S.any fun a=>kM a c
def ZM (T:Tree)(c:Int):Bool:=
 if T.kind=1 then !inSp [(10,10),(13,13),(8232,8233)] c
 else if T.kind=2 then decide (c=T.a)
 else if T.kind=3 then kM T.a c
 else if T.kind=4 then wN T.rs T.ss c != T.neg
 else false
def leafK (T:Tree):Prop:=1<=T.kind/\T.kind<=4
def LeafTok (t:Tok)(T:Tree):Prop:=leafK T/\(∀ c,tkTok t c=ZM T c)/\t.parts.length<=1000/\∀ p∈t.parts,p.spans.length<=10
theorem inSp_one (a c:Int):inSp [(a,a)] c=decide (c=a):=by
 unfold inSp;simp only [List.any_cons,List.any_nil,Bool.or_false];by_cases h:c=a
 ·subst h;simp
 ·simp only [h,decide_false];by_cases h2:a<=c
  ·simp [h2];omega
  ·simp [h2]
theorem inSp_append (a b:List (Int×Int))(c:Int):inSp (a++b) c=(inSp a c ||inSp b c):=by unfold inSp;rw [List.any_append]
theorem zf3 (ps:List Pt)(p:Pt)(c:Int):anyPt (ps++[p]) c=(anyPt ps c ||inPt p c):=by unfold anyPt;simp [List.any_append]
theorem anyRS_r (R:List (Int×Int))(S:List Int)(x:Int×Int)(c:Int):wN (R++[x]) S c=(wN R S c ||inSp [x] c):=by
 unfold wN;rw [inSp_append];cases inSp R c<;>cases inSp [x] c<;>simp
theorem anyRS_s (R:List (Int×Int))(S:List Int)(a:Int)(c:Int):wN R (S++[a]) c=(wN R S c ||kM a c):=by
 unfold wN;rw [List.any_append];simp [Bool.or_assoc]
theorem inPt_pos (sp:List (Int×Int))(c:Int):inPt ⟨false,sp⟩ c=inSp sp c:=by unfold inPt;simp
theorem esc_many (cls:Bool){m q:Nat}(h:Br s L m q)(h92:zd s q=92)(hs:Pro.setB (Pro.zf L (m+1))=true) :
  (Ref.jv s cls (st0 q)).1=⟨decide ((Pro.escO L (s.size:Nat) m).v<97),Ref.setL (Pro.escO L (s.size:Nat) m).v⟩:=by
 have h1:=h.go h92 (by omega) (by omega);have hi:(st0 q).i=q:=rfl;have hlet:Pro.zf L (m+1)=zd s (q+1):=by
  rcases h1.alike with ⟨e,_⟩ |⟨a,b⟩
  ·exact e
  ·rw [set_high (.inl a)] at hs;cases hs
 have hs':=hs;rw [hlet] at hs';have hsb:=set_back hs';have hb:Ref.backB (zd s (q+1))=false:=by rw [<-zfs];exact hsb.1
 have e1:Pro.escO L (s.size:Nat) m=Pro.good (Pro.zf L (m+1)) (m+2):=by unfold Pro.escO;rw [if_pos hs]
 rw [e1];unfold Ref.jv;rw [hi,if_neg (by simp [hb]),if_pos ((set_same _).1 hs')];show (⟨decide (zd s (q+1)<97),Ref.setL (zd s (q+1))⟩:Pt)=⟨decide (Pro.zf L (m+1)<97),Ref.setL (Pro.zf L (m+1))⟩
 rw [hlet]
theorem zgQ {m q:Nat}(h:Br s L m q)(hm:Pro.many L m=true) :
  (Ref.za s (st0 q)).1=⟨decide ((Pro.zi L (s.size:Nat) m).v<97),Ref.setL (Pro.zi L (s.size:Nat) m).v⟩:=by
 have hi:(st0 q).i=q:=rfl;have hmm:Pro.zf L m=92/\Pro.setB (Pro.zf L (m+1))=true:=by unfold Pro.many at hm;simpa using hm
 have h92:=(h.eqv 92 (by omega)).1 hmm.1;have hb:=set_back hmm.2;have e1:Pro.zi L (s.size:Nat) m=Pro.escO L (s.size:Nat) m:=by
  unfold Pro.zi;rw [if_neg (fun hh=>hb.2.2.2.1 hh.2),if_neg (fun hh=>hb.2.2.2.2 hh.2),if_pos hmm.1]
 have eR:Ref.za s (st0 q)=Ref.jv s true (st0 q):=by unfold Ref.za;rw [hi,if_pos h92]
 rw [eR,e1];exact esc_many true h h92 hmm.2
theorem zgB {m q:Nat}(h:Br s L m q)(hlt:q<s.size)(hk:(Pro.zi L (s.size:Nat) m).k=0)(c:Int) :
  inPt (Ref.za s (st0 q)).1 c=if Pro.many L m=true then kM (Pro.zi L (s.size:Nat) m).v c else inSp [((Pro.zi L (s.size:Nat) m).v,(Pro.zi L (s.size:Nat) m).v)] c:=by
 by_cases hm:Pro.many L m=true
 ·rw [if_pos hm,zgQ h hm];rfl
 ·rw [if_neg hm];have hs:=(zeB h hlt).2 hk;have h1:(Ref.za s (st0 q)).2.1=true:=by rw [hs.1];simp [hm]
  rw [hs.2 h1,inPt_pos]
theorem setL_bd (b:Int):(Ref.setL b).length<=10:=by
 unfold Ref.setL
 (repeat' split)<;>first |decide |simp
theorem zf4 (cls:Bool)(st:St):(Ref.jv s cls st).1.spans.length<=10:=by
 unfold Ref.jv;split
 ·simp
 ·split
  ·exact setL_bd _
  ·simp
theorem zhk (st:St):(Ref.za s st).1.spans.length<=10:=by
 unfold Ref.za;split
 ·exact zf4 true st
 ·split<;>simp
theorem ze8:∀ (f:Nat) (ps:List Pt) (st:St),(∀ p∈ps,p.spans.length<=10)->(∀ p∈(Ref.classF s f ps st).1,p.spans.length<=10)/\(Ref.classF s f ps st).1.length<=ps.length+f
 |0,ps,st,h=>⟨h,by simp [Ref.classF]⟩
 |f+1,ps,st,h=>by
  simp only [Ref.classF];split
  ·split
   ·exact ⟨h,by simp⟩
   ·split
    ·split
     ·exact ⟨h,by simp⟩
     ·split
      ·exact ⟨h,by simp⟩
      ·have:=ze8 f (ps++[⟨(Ref.za s st).1.neg,[(Ref.loOf (Ref.za s st).1,Ref.loOf (Ref.za s ((Ref.za s st).2.2.go 1)).1)]⟩]) (Ref.za s ((Ref.za s st).2.2.go 1)).2.2 (fun p hp=>by
        rcases qe.1 hp with hp |hp
        ·exact h p hp
        ·simp at hp;subst hp;simp)
       exact ⟨this.1,by have:=this.2;simp at this;omega⟩
    ·have:=ze8 f (ps++[(Ref.za s st).1]) (Ref.za s st).2.2 (fun p hp=>by
      rcases qe.1 hp with hp |hp
      ·exact h p hp
      ·simp at hp;subst hp;exact zhk st)
     exact ⟨this.1,by have:=this.2;simp at this;omega⟩
  ·exact ⟨h,by simp⟩
theorem zeU:∀ (f g:Nat) (ps:List Pt) (R:List (Int×Int)) (S:List Int) (n p:Nat),Br s L n p->L.length<n+f->s.size<p+g->(Pro.yG L (s.size:Nat) f n).k=0->(∀ c,anyPt ps c=wN R S c)->
  ∀ c,anyPt (Ref.classF s g ps (st0 p)).1 c=wN (Pro.xM L (s.size:Nat) f n R S).1 (Pro.xM L (s.size:Nat) f n R S).2 c
 |0,g,ps,R,S,n,p,h,hf,hg,_,_=>by have:=h.le;omega
 |f+1,0,ps,R,S,n,p,h,hf,hg,_,_=>by have:=h.good.le;omega
 |f+1,g+1,ps,R,S,n,p,h,hf,hg,hk0,hps=>by
  simp only [Pro.yG] at hk0;simp only [Pro.xM];by_cases h93:zd s p=93
  ·rw [if_pos ((h.eqv 93 (by omega)).2 h93),Ref.zez (fun hh=>hh.2 h93)];exact hps
  ·have hc:(st0 p).e=0/\zd s (st0 p).i≠93:=⟨rfl,h93⟩
   have n93:¬Pro.zf L n=93:=fun hh=>h93 ((h.eqv 93 (by omega)).1 hh);rw [if_neg n93] at hk0 ⊢;by_cases hlt:p<s.size
   ·have hln:=h.lt.2 hlt;have hb0:=(yL s p).2 hlt;have hc1:¬zd s (st0 p).i<0:=(by show ¬zd s p<0;omega);rw [if_neg (by omega)] at hk0;have hka:(Pro.addO L (s.size:Nat) n).k=0:=by
     by_cases hh:(Pro.addO L (s.size:Nat) n).k=0
     ·exact hh
     ·rw [if_pos hh] at hk0;exact absurd hk0 hh
    rw [if_neg (by simp [hka])] at hk0;have hm:=zeB h hlt;have hmi:=Pro.vD (L:=L) (len:=(s.size:Nat)) n hln;have hk:(Pro.zi L (s.size:Nat) n).k=0:=by
     by_cases hh:(Pro.zi L (s.size:Nat) n).k=0
     ·exact hh
     ·have ha:Pro.addO L (s.size:Nat) n=Pro.zi L (s.size:Nat) n:=(by unfold Pro.addO;rw [if_pos hh]);rw [ha] at hka;exact absurd hka hh
    obtain ⟨m1,m2,_,hb1⟩:=hm.1.1 hk;have hst:=st_eta m1 m2;have hd:=zgd hb1;have htk:=zgB h hlt hk;cases hdd:Pro.xJ L (Pro.zi L (s.size:Nat) n).n
    ·rw [hdd] at hd;have ha:Pro.addO L (s.size:Nat) n=Pro.zi L (s.size:Nat) n:=(by unfold Pro.addO;rw [if_neg (by simp [hk]),if_neg (by simp [hdd])]);rw [ha] at hk0 ⊢;rw [Ref.zeJ hc hc1 (by rw [hst,<-hd];simp),hst];have hgt:p<(Ref.za s (st0 p)).2.2.i:=by
      have:=hb1.good.le;by_cases hh:p<(Ref.za s (st0 p)).2.2.i
      ·exact hh
      ·exfalso;have:=br_mono h hb1 (by omega);omega
     refine zeU f g _ _ _ _ _ hb1 (by omega) (by omega) hk0 (fun c=>?_);rw [zf3,hps c,htk c];by_cases hmn:Pro.many L n=true
     ·have e1:Pro.addR L (s.size:Nat) n R=R:=(by unfold Pro.addR;rw [if_neg (by simp [hdd]),if_pos hmn]);have e2:Pro.addS L (s.size:Nat) n S=S++[(Pro.zi L (s.size:Nat) n).v]:=(by unfold Pro.addS;rw [if_neg (by simp [hdd]),if_pos hmn]);rw [if_pos hmn,e1,e2,anyRS_s]
     ·have e1:Pro.addR L (s.size:Nat) n R=R++[((Pro.zi L (s.size:Nat) n).v,(Pro.zi L (s.size:Nat) n).v)]:=(by unfold Pro.addR;rw [if_neg (by simp [hdd]),if_neg hmn]);have e2:Pro.addS L (s.size:Nat) n S=S:=(by unfold Pro.addS;rw [if_neg (by simp [hdd]),if_neg hmn]);rw [if_neg hmn,e1,e2,anyRS_r]
    ·rw [hdd] at hd;have hdy:=Pro.Jp hdd;have h45:=(hb1.eqv 45 (by omega)).1 hdy.1;have hb2:=hb1.go h45 (by omega) (by omega);have hlt2:(Ref.za s (st0 p)).2.2.i+1<s.size:=by
      by_cases hh:(Ref.za s (st0 p)).2.2.i+1<s.size
      ·exact hh
      ·exact absurd ((hb2.eqv (-1) (by omega)).2 (Zq _ _ (by omega))) hdy.2.2
     have hm2:=zeB hb2 hlt2;have hgo:(Ref.za s (st0 p)).2.2.go 1=st0 ((Ref.za s (st0 p)).2.2.i+1):=(by rw [hst];rfl);have hr2:Ref.rangeB s (Ref.za s (st0 p)).2.2=true:=(by rw [hst];exact hd.symm);have hmi2:=Pro.vD (L:=L) (len:=(s.size:Nat)) ((Pro.zi L (s.size:Nat) n).n+1) (Pro.VF hdy.2.2);have hro:Pro.addO L (s.size:Nat) n=Pro.xj L (s.size:Nat) (Pro.many L n) (Pro.zi L (s.size:Nat) n).v (Pro.zi L (s.size:Nat) n).n:=(by unfold Pro.addO;rw [if_neg (by simp [hk]),if_pos hdd]);have hk2:(Pro.zi L (s.size:Nat) ((Pro.zi L (s.size:Nat) n).n+1)).k=0:=by
      by_cases hh:(Pro.zi L (s.size:Nat) ((Pro.zi L (s.size:Nat) n).n+1)).k=0
      ·exact hh
      ·rw [hro] at hka;unfold Pro.xj at hka;rw [if_pos hh] at hka;exact absurd hka hh
     have hbb:¬(Pro.many L n=true\/Pro.many L ((Pro.zi L (s.size:Nat) n).n+1)=true\/(Pro.zi L (s.size:Nat) ((Pro.zi L (s.size:Nat) n).n+1)).v<(Pro.zi L (s.size:Nat) n).v):=fun hh=>by
      rw [hro] at hka;unfold Pro.xj at hka;rw [if_neg (by simp [hk2]),if_pos hh] at hka;exact absurd hka (by simp [Pro.bad])
     obtain ⟨p1,p2,_,hb3⟩:=hm2.1.1 hk2;have hst2:=st_eta p1 p2;obtain ⟨hone,hlo⟩:=hm.2 hk;obtain ⟨htwo,hlo2⟩:=hm2.2 hk2;have q1:Pro.many L n=false:=(by cases hq:Pro.many L n;rfl;exact absurd (.inl hq) hbb);have q2:Pro.many L ((Pro.zi L (s.size:Nat) n).n+1)=false:=(by cases hq:Pro.many L ((Pro.zi L (s.size:Nat) n).n+1);rfl;exact absurd (.inr (.inl hq)) hbb);rw [q1] at hone;rw [q2] at htwo;have hbad:¬Ref.badB (Ref.za s (st0 p)).1 (Ref.za s ((Ref.za s (st0 p)).2.2.go 1)).1 (Ref.za s (st0 p)).2.1 (Ref.za s ((Ref.za s (st0 p)).2.2.go 1)).2.1=true:=by
      rw [hgo];unfold Ref.badB;rw [hlo hone,hlo2 htwo,hone,htwo];have hv:¬(Pro.zi L (s.size:Nat) ((Pro.zi L (s.size:Nat) n).n+1)).v<(Pro.zi L (s.size:Nat) n).v:=fun hh=>hbb (.inr (.inr hh));simp [Ref.loOf,hv]
     have ha:Pro.addO L (s.size:Nat) n=Pro.zi L (s.size:Nat) ((Pro.zi L (s.size:Nat) n).n+1):=by
      rw [hro];unfold Pro.xj;rw [if_neg (by simp [hk2]),if_neg hbb]
     rw [ha] at hk0 ⊢;rw [Ref.zeE hc hc1 hr2 (by rw [hgo];exact p1) hbad,hgo,hst2];have hgt:p<(Ref.za s (st0 ((Ref.za s (st0 p)).2.2.i+1))).2.2.i:=by
      by_cases hh:p<(Ref.za s (st0 ((Ref.za s (st0 p)).2.2.i+1))).2.2.i
      ·exact hh
      ·exfalso;have:=br_mono h hb3 (by omega);omega
     refine zeU f g _ _ _ _ _ hb3 (by omega) (by omega) hk0 (fun c=>?_);rw [zf3,hps c,hlo hone,hlo2 htwo,inPt_pos];unfold Pro.addR Pro.addS;rw [if_pos hdd,if_pos hdd,anyRS_r];rfl
   ·have hend:=h.stop hlt;rw [if_pos (by omega)] at hk0;exact absurd hk0 (by simp [Pro.bad])
end Eqv
end
end Go.Proofs.YtcgleficedipkaaGreatDoor
