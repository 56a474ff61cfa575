/- The program's terms one behind the other, as trees. -/
import Derived.Test.YtnagphodmfejiaaGreatDoorXSemFTrD
import Derived.Laws.BitsLemmas
namespace Go.Proofs.YtnagphodmfejiaaGreatDoor
section
open Go.RowKit
open Sm (Tree)
set_option maxHeartbeats 4000000
set_option maxRecDepth 1000000
def vu (base:Nat)(sv:Value)(g:Nat):Prop:=base≤g∧sv.ownBlock≠some g
theorem Jk {b base:Nat}{wr w3 W w4:World}{sv sv' x:Value}{T:TypeId}{xs:List Value}{zs:List Tree}{z:Tree}{F G:Nat}(hbase:base≤wr.heap.size)(hbl:b<base)(hown:wr.ownsRow base T 1 sv xs.length xs)(hsz:Parts F wr (vu base sv) xs zs)(hO:Only (zl b) wr w3)(hx:PartAt G w3 (fun g=>wr.heap.size≤g) x z)
  (hW:Only (fun _=>False) w3 W) (hg:W.grownBy w4 sv.ownBlock) (hsep:∀ k,sv'.ownBlock=some k→sv.ownBlock=some k∨W.heap.size≤k):Parts (max F G) w4 (vu base sv') (xs++[x]) (zs++[z]):=by
 have h1:Parts F w3 (vu base sv) xs zs:=hsz.keep hO (fun g hg e=>by unfold zl at e;have:=hg.1;omega)
 have hx1:PartAt G w3 (vu base sv) x z:=PartAt.mono (fun g _ hg=>⟨Nat.le_trans hbase hg,fun e=>by have:=(zg hown g e).2;omega⟩) G x z hx
 have h2:=(h1.append hx1).keep hW (fun _ _ f=>f)
 have h3:Parts (max F G) W (fun g=>vu base sv g∧g<W.heap.size) (xs++[x]) (zs++[z]):=h2.mono (fun g hl hg=>⟨hg,hl⟩)
 have h4:=h3.keep (Only.ofGrown hg) (fun g hg e=>hg.1.2 e)
 exact h4.mono (fun g _ hg=>⟨hg.1.1,fun e=>by
  rcases hsep g e with h |h
  ·exact hg.1.2 h
  ·have:=hg.2;omega⟩)
theorem zaD {base:Nat}{w:World}{T:TypeId}{sv:Value}{xs:List Value}(h:w.ownsRow base T 1 sv xs.length xs):RowAt w (fun g=>base≤g) sv xs:=by
 have hl:=zg h
 have hc:=@World.ownsRow.cells w base T 1 sv xs.length xs h
 rcases h.2 with ⟨rfl,h0⟩ |⟨g,cap,cur,rfl,hb,hg,hn,_⟩
 ·exact .inl ⟨rfl,List.eq_nil_of_length_eq_zero h0⟩
 ·exact .inr ⟨g,cap,rfl,hb,hn,(hl g rfl).2,fun j x hj=>by
   have:=hc (g:=g) rfl j x hj
   have e:(⟨g,0,none⟩:Addr).add j=⟨g,j,none⟩:=by unfold Addr.add;split<;>simp_all
   rw [e] at this;exact this⟩
theorem Tryz.infoPtT:(Tryz.prog.info? 90).map (fun i=>(i.zero,i.size,i.bytes))=some (some .nilIface,1,16):=by kernel_rfl
theorem Zv (b:Nat)(L:List (Int×Int))(n:Nat)(len dp:Int)(a:Nat→Addr)(D:Nat→Pro.Out)(DT:Nat→Tree)(w:World)(h:RdAt w b L n len dp)(hS:Sents w a)(hb:10≤b)(hL:L.length≤400)(hn:n≤L.length)(hF:Pro.Fit L)(hG:j7 b L len dp a D DT)(hD:Pro.DOK L D) :
  Calls Tryz.prog 101 #[.pointer (some ⟨b,0,none⟩)] w (GivesT b L len dp a w (Pro.zO L len D n) (Pro.xj L len D DT n)):=by
 obtain ⟨i0,hi,hz0,hz1,hz2⟩:=info_parts Tryz.infoPtT
 have hlt:=h.lt
 have HS:=ze hS
 have HG:=ze hG
 have HD:=ze hD
 clear hS hG hD
 go_enter Tryz.func101,Tryz.ntmps101
 go_wp2_with fail
 go_loopw [4] (fun sv wr=>∃ (m f F:Nat) (sz:Int) (xs:List Value) (zs:List Tree),m≤L.length∧xs.length≤m∧Hid (L.length<m+f)∧Hid (RdAt wr b L m len dp)∧Hid (Only (zl b) w wr)∧Hid (wr.ownsRow w.heap.size 90 1 sv xs.length xs)∧Hid (Parts F wr (vu w.heap.size sv) xs zs)∧Hid (Pro.zO L len D n=Pro.yY L len D f sz m)∧Hid (Pro.xj L len D DT n=Pro.tSeq (Pro.qg L len D DT f zs m))) (fun _ wr=>L.length-rdN wr b)
 case atStart=>exact ⟨n,L.length+1-n,0,0,[],[],hn,by simp,(by show _<_;omega),h,Only.refl _ _,World.ownsRow_nil _ _ _ _,⟨rfl,fun j x z hx=>by simp at hx⟩,rfl,rfl⟩
 case round=>
  obtain ⟨m,f,F,sz,xs,zs,hm,hxl,hf,HR,HO,Hown,Hsz,HF,HT⟩:=hrel
  obtain ⟨f,rfl⟩:∃ f',f=f'+1:=⟨f-1,by have:=zb hf;omega⟩
  have T:=ze (Trk.start (zb HR) ((zb HS).mine (zb HO) hb) hb)
  have hrd:=(zb T).rdN
  cases hst:Pro.kh L m
  ·have hml:m<L.length:=by unfold Pro.kh at hst;simp at hst;omega
   have he:((m:Int) == (L.length:Int))=false:=by simp;omega
   have hp1:(Pro.zh L m != 124)=true:=by unfold Pro.kh at hst;simp at hst ⊢;omega
   have hp2:(Pro.zh L m != 41)=true:=by unfold Pro.kh at hst;simp at hst ⊢;omega
   have hin:=Pro.XX (len:=len) (zb HD) m hml
   by_cases hk:(Pro.yq L len D m).k=0
   ·have HO1:Hid (Pro.zO L len D n=Pro.yY L len D f (min (sz+(Pro.yq L len D m).v) 301) (Pro.yq L len D m).n):=by rw [zb HF];simp only [Pro.yY];rw [if_neg (by simp [hst]),if_neg (by simp [hk])];rfl
    have HT1:Hid (Pro.xj L len D DT n=Pro.tSeq (Pro.qg L len D DT f (zs++[Pro.xR L len D DT m]) (Pro.yq L len D m).n)):=by rw [zb HT];simp only [Pro.qg];rw [if_neg (by simp [hst])];rfl
    obtain ⟨sa,sn,sc,rfl⟩:=zq (zb Hown)
    go_wp2_with (first
     |(go_at_call 54;refine (wE (n:=m) (by exact zb T)).mono ?_;rintro e wq ⟨rfl,qq,rfl⟩)
     |(go_at_call 147;refine (yG (n:=m) (by exact (zb T).drewN _) hL (by omega)).mono ?_;rintro e wq ⟨rfl,hwq⟩;obtain rfl:=hwq.symm;clear hwq)
     |(go_at_call 148;refine (Jj b L m len dp a D DT _ (Trk.rd (n:=m) (by exact (zb T).drewN _)) (Trk.se (n:=m) (by exact (zb T).drewN _)) hb hL hml hF (zb HG) (zb HD)).mono ?_;intro e w3 hg;obtain ⟨T3,y3,F3,rfl,hs3,hO3,hR3⟩:=qh hg hk;have hO3:Only (zl b) wr w3:=((Only.refl (zl b) wr).drewN _).trans hO3;have Hs3:Hid (PartAt F3 w3 (fun g=>wr.heap.size≤g) (.iface T3 y3) (Pro.xR L len D DT m)):=hs3;have HO3:=ze hO3;have HR3:=ze hR3;have hsz3:=hO3.size;have Hown3:=ze (zo (zb Hown) hO3 (fun g hg e=>by unfold zl at e;have:=(zg (zb Hown) g hg).1;omega));clear hg hs3 hO3 hR3)
     |(at_builtin;refine ji _ rfl _ _ 252 rfl w.heap.size 90 i0 .nilIface 1 16 Tryz.underlying252 hi hz0 hz1 hz2 rfl (by decide) _ _ xs rfl (World.ownsRow.alloc (zb Hown3) _) _ 1 1 [.iface T3 y3] rfl rfl (cell_one_new _ _ _) (fun x hx=>by simp at hx;subst hx;rfl) (by unfold maxLen;omega) (by omega) (by simp;have:=(zb HO).size;omega) ?_;intro v' w4 hown' hgrow hsep;have Hown4:=ze hown';have Hgr:=ze hgrow;have Hsep:=ze hsep;clear hown' hgrow hsep))
    have hszw:=(zb HO).size
    have hO4:Only (zl b) w w4:=(((zb HO).trans (zb HO3)).alloc _).grown (zb Hgr) (fun j hj=>Or.inr (zg (zb Hown) j hj).1)
    have hnb:∀ g,g≤b→¬((Value.slice sa sn sc).ownBlock=some g):=fun g hg e=>by have:=(zg (zb Hown) g e).1;omega
    have hR4:RdAt w4 b L (Pro.yq L len D m).n len dp:=((zb HR3).keep ((Only.refl (fun _=>False) w3).alloc _) (fun f=>f) (fun _ _ f=>f)).keep (Only.ofGrown (zb Hgr)) (hnb b (Nat.le_refl _)) (fun g hg=>hnb g (by omega))
    have T4:=Trk.start hR4 ((zb HS).mine hO4 hb) hb
    refine ⟨⟨(Pro.yq L len D m).n,f,max F F3,_,xs++[.iface T3 y3],zs++[Pro.xR L len D DT m],hin.2.1,by have:=(hin.2.2 hk).1;simp;omega,(by have:=(hin.2.2 hk).1;have:=zb hf;show _<_;omega),hR4,hO4,(by show World.ownsRow _ _ _ _ _ _ _;rw [List.length_append];exact zb Hown4),Jk hszw hlt (zb Hown) (zb Hsz) (zb HO3) (zb Hs3) ((Only.refl _ _).alloc _) (zb Hgr) (zb Hsep),HO1,HT1⟩,by rw [T4.rdN,hrd];have:=(hin.2.2 hk).1;omega⟩
   ·have HO1:Hid (Pro.zO L len D n=Pro.yq L len D m):=by rw [zb HF];simp only [Pro.yY];rw [if_neg (by simp [hst]),if_pos hk];rfl
    go_wp2_with (first
     |(go_at_call 54;refine (wE (n:=m) (by exact zb T)).mono ?_;rintro e wq ⟨rfl,qq,rfl⟩)
     |(go_at_call 147;refine (yG (n:=m) (by exact (zb T).drewN _) hL (by omega)).mono ?_;rintro e wq ⟨rfl,hwq⟩;obtain rfl:=hwq.symm;clear hwq)
     |(go_at_call 148;refine (Jj b L m len dp a D DT _ (Trk.rd (n:=m) (by exact (zb T).drewN _)) (Trk.se (n:=m) (by exact (zb T).drewN _)) hb hL hml hF (zb HG) (zb HD)).mono ?_;intro e w3 hg;obtain ⟨g3,rfl,hv3,hO3,hR3⟩:=wI hg hk;have Hv3:=ze hv3;have HO3:=ze hO3;have HR3:=ze hR3;clear hg hv3 hO3 hR3))
    go_ret2
    rw [zb HO1]
    have hO3:Only (zl b) w w3:=((zb HO).drewN _).trans (zb HO3)
    exact ⟨hO3,zb HR3,.inr ⟨hk,_,rfl,(zb Hv3).base (zb HO).size⟩⟩
  ·have HO1:Hid (Pro.zO L len D n=Pro.good sz m):=by rw [zb HF];simp only [Pro.yY];rw [if_pos hst];rfl
   have HT1:Hid (Pro.xj L len D DT n=Pro.tSeq zs):=by rw [zb HT];simp only [Pro.qg];rw [if_pos hst];rfl
   have hcs:((m:Int) == (L.length:Int))=true∨(((m:Int) == (L.length:Int))=false∧(Pro.zh L m != 124)=false)∨(((m:Int) == (L.length:Int))=false∧(Pro.zh L m != 124)=true∧(Pro.zh L m != 41)=false):=by
    by_cases h1:m=L.length
    ·left;simp [h1]
    ·right
     by_cases h2:Pro.zh L m=124
     ·left;exact ⟨by simp;omega,by simp [h2]⟩
     ·right;exact ⟨by simp;omega,by simp [h2],by unfold Pro.kh at hst;simp at hst ⊢;omega⟩
   rcases hcs with k1 |⟨k1,k2⟩ |⟨k1,k2,k3⟩
   all_goals
    go_wp2_with (first |(go_at_call 54;refine (wE (n:=m) (by exact zb T)).mono ?_;rintro e wq ⟨rfl,qq,rfl⟩) |(go_at_call 147;refine (yG (n:=m) (by exact (zb T).drewN _) hL (by omega)).mono ?_;rintro e wq ⟨rfl,hwq⟩;obtain rfl:=hwq.symm;clear hwq))
    go_ret2
    have hsz:=(zb Hsz).mono (B:=fun g=>w.heap.size≤g) (fun g _ hg=>hg.1)
    rw [zb HT1]
    refine GivesT.good (F:=F+1) (zb HO1) ((zb HO).drewN _) ((zb HR).drewN _) ?_
    exact .inr (.inr (.inl ⟨_,xs,zs,rfl,rfl,(zaD (zb Hown)).keep ((Only.refl (fun _=>False) _).drewN _) (fun _ _ f=>f),by omega,hsz.1,fun j x z' hx hz=>PartAt.keep ((Only.refl (fun _=>False) _).drewN _) (fun _ _ f=>f) F x z' (hsz.2 j x z' hx hz)⟩))
theorem Jl {b:Nat}{L:List (Int×Int)}{len dp:Int}{a:Nat→Addr}{w wr w3 W w4:World}{sv sv' x:Value}{T:TypeId}{xs:List Value}{zs:List Tree}{z:Tree}{F G m:Nat}(hlt:b<w.heap.size)(_hb:10≤b)(_hS:Sents w a)(hO:Only (zl b) w wr)(hown:wr.ownsRow w.heap.size T 1 sv xs.length xs)(hsz:Parts F wr (vu w.heap.size sv) xs zs)(hO3:Only (zl b) wr w3)(hR3:RdAt w3 b L m len dp)(hx:PartAt G w3 (fun g=>wr.heap.size≤g) x z)
  (hW:Only (fun _=>False) w3 W) (hg:W.grownBy w4 sv.ownBlock) (hsep:∀ k,sv'.ownBlock=some k→sv.ownBlock=some k∨W.heap.size≤k):Only (zl b) w w4∧RdAt w4 b L m len dp∧Parts (max F G) w4 (vu w.heap.size sv') (xs++[x]) (zs++[z]):=by
 have hnb:∀ g,g≤b→¬(sv.ownBlock=some g):=fun g hg e=>by have:=(zg hown g e).1;omega
 refine ⟨(((hO.trans hO3).trans (hW.mono (fun _ _ f=>f.elim)))).grown hg (fun j hj=>Or.inr (zg hown j hj).1),(hR3.keep hW (fun f=>f) (fun _ _ f=>f)).keep (Only.ofGrown hg) (hnb b (Nat.le_refl _)) (fun g hg=>hnb g (by omega)),Jk hO.size hlt hown hsz hO3 hx hW hg hsep⟩
theorem kp (b:Nat)(L:List (Int×Int))(n:Nat)(len dp:Int)(a:Nat→Addr)(D:Nat→Pro.Out)(DT:Nat→Tree)(w:World)(h:RdAt w b L n len dp)(hS:Sents w a)(hb:10≤b)(hL:L.length≤400)(hn:n≤L.length)(hF:Pro.Fit L)(hG:j7 b L len dp a D DT)(hD:Pro.DOK L D) :
  Calls Tryz.prog 53 #[.pointer (some ⟨b,0,none⟩)] w (GivesT b L len dp a w (Pro.altP L len D n) (Pro.altQ L len D DT n)):=by
 obtain ⟨i0,hi,hz0,hz1,hz2⟩:=info_parts Tryz.infoPtT
 have hlt:=h.lt
 have HS:=ze hS
 have HG:=ze hG
 have HD:=ze hD
 clear hS hG hD
 go_enter Tryz.func53,Tryz.ntmps53
 go_wp2_with fail
 go_loopw [4] (fun sv wr=>∃ (m f F:Nat) (ys:List Int) (xs:List Value) (zs:List Tree),m≤L.length∧xs.length≤m∧Hid (L.length<m+f)∧Hid (RdAt wr b L m len dp)∧Hid (Only (zl b) w wr)∧Hid (wr.ownsRow w.heap.size 90 1 sv xs.length xs)∧Hid (Parts F wr (vu w.heap.size sv) xs zs)∧Hid (Pro.altP L len D n=Pro.altO L len D f ys m)∧Hid (Pro.altQ L len D DT n=Pro.tAlt (Pro.altT L len D DT f zs m))) (fun _ wr=>L.length-rdN wr b)
 case atStart=>exact ⟨n,L.length+1-n,0,[],[],[],hn,by simp,(by show _<_;omega),h,Only.refl _ _,World.ownsRow_nil _ _ _ _,⟨rfl,fun j x z hx=>by simp at hx⟩,rfl,rfl⟩
 case round=>
  obtain ⟨m,f,F,ys,xs,zs,hm,hxl,hf,HR,HO,Hown,Hsz,HF,HT⟩:=hrel
  obtain ⟨f,rfl⟩:∃ f',f=f'+1:=⟨f-1,by have:=zb hf;omega⟩
  have hrd:=(Trk.start (zb HR) ((zb HS).mine (zb HO) hb) hb).rdN
  have hin:=Pro.wH (len:=len) (zb HD) m hm
  by_cases hk:(Pro.zO L len D m).k=0
  ·obtain ⟨sa,sn,sc,rfl⟩:=zq (zb Hown)
   by_cases hbar:Pro.zh L (Pro.zO L len D m).n=124
   ·have m1:Pro.zz L (Pro.zO L len D m).n { data:=#[124] }=true:=by rw [Pro.zt L _ 124 124 rfl];simp [hbar]
    have hlt2:=Pro.zD (L:=L) (n:=(Pro.zO L len D m).n) (by omega)
    have HO1:Hid (Pro.altP L len D n=Pro.altO L len D f (ys++[(Pro.zO L len D m).v]) ((Pro.zO L len D m).n+1)):=by rw [zb HF];simp only [Pro.altO];rw [if_neg (by simp [hk]),if_pos hbar];rfl
    have HT1:Hid (Pro.altQ L len D DT n=Pro.tAlt (Pro.altT L len D DT f (zs++[Pro.xj L len D DT m]) ((Pro.zO L len D m).n+1))):=by rw [zb HT];simp only [Pro.altT];rw [if_pos hbar];rfl
    clear hbar
    go_wp2_with (first
     |(go_at_call 101;refine (Zv b L m len dp a D DT _ (zb HR) ((zb HS).mine (zb HO) hb) hb hL hm hF (zb HG) (zb HD)).mono ?_;intro e w3 hg;obtain ⟨T3,y3,F3,rfl,hs3,hO3,hR3⟩:=qh hg hk;have Hs3:=ze hs3;have HO3:=ze hO3;have HR3:=ze hR3;have hsz3:=hO3.size;have Hown3:=ze (zo (zb Hown) hO3 (fun g hg e=>by unfold zl at e;have:=(zg (zb Hown) g hg).1;omega));clear hg hs3 hO3 hR3)
     |(at_builtin;refine ji _ rfl _ _ 228 rfl w.heap.size 90 i0 .nilIface 1 16 Tryz.underlying228 hi hz0 hz1 hz2 rfl (by decide) _ _ xs rfl (World.ownsRow.alloc (zb Hown3) _) _ 1 1 [.iface T3 y3] rfl rfl (cell_one_new _ _ _) (fun x hx=>by simp at hx;subst hx;rfl) (by unfold maxLen;omega) (by omega) (by simp;have:=(zb HO).size;omega) ?_;intro v' w4 hown' hgrow hsep;have hG4:=Jl hlt hb (zb HS) (zb HO) (zb Hown) (zb Hsz) (zb HO3) (zb HR3) (zb Hs3) ((Only.refl _ _).alloc _) hgrow hsep;obtain ⟨hO4,hR4,hsz4⟩:=hG4;have T:=ze (Trk.start hR4 ((zb HS).mine hO4 hb) hb);have HO4:=ze hO4;have Hsz4:=ze hsz4;have Hown4:=ze hown';clear hown' hgrow hsep hO4 hR4 hsz4)
     |(go_at_call 102;refine (jz (n:=(Pro.zO L len D m).n) _ (by exact zb T) hL (by omega) (by decide) (by assumption)).mono ?_;rintro e wq ⟨rfl,tq⟩;have tq:Trk _ _ b L (((Pro.zO L len D m).n)+1) len dp a wq:=tq;have T:=ze tq;have c1:=tq.c1;have f1:=tq.f1))
    have hk4:=Own.to (zb T).on
    have hown5:wq.ownsRow w.heap.size 90 1 v' (xs.length+1) (xs++[.iface T3 y3]):=zo (zb Hown4) hk4 (fun g hg e=>by unfold zl at e;have:=(zg (zb Hown4) g hg).1;omega)
    exact ⟨⟨(Pro.zO L len D m).n+1,f,max F F3,_,xs++[Value.iface T3 y3],zs++[Pro.xj L len D DT m],by omega,by simp;omega,(by have:=zb hf;show _<_;omega),(zb T).rd,(zb HO4).trans hk4,(by show World.ownsRow _ _ _ _ _ _ _;rw [List.length_append];exact hown5),ze ((zb Hsz4).keep hk4 (fun g hg e=>by unfold zl at e;have:=hg.1;omega)),HO1,HT1⟩,by rw [(zb T).rdN,hrd];omega⟩
   ·have m1:Pro.zz L (Pro.zO L len D m).n { data:=#[124] }=false:=by rw [Pro.zt L _ 124 124 rfl];simp [hbar]
    have HO1:Hid (Pro.altP L len D n=Pro.good (min (Pro.sumS 0 (ys++[(Pro.zO L len D m).v])+((ys.length:Int)+1)-1) 301) (Pro.zO L len D m).n):=by rw [zb HF];simp only [Pro.altO];rw [if_neg (by simp [hk]),if_neg hbar];rfl
    have HT1:Hid (Pro.altQ L len D DT n=Pro.tAlt (zs++[Pro.xj L len D DT m])):=by rw [zb HT];simp only [Pro.altT];rw [if_neg hbar];rfl
    clear hbar
    go_wp2_with (first
     |(go_at_call 101;refine (Zv b L m len dp a D DT _ (zb HR) ((zb HS).mine (zb HO) hb) hb hL hm hF (zb HG) (zb HD)).mono ?_;intro e w3 hg;obtain ⟨T3,y3,F3,rfl,hs3,hO3,hR3⟩:=qh hg hk;have Hs3:=ze hs3;have HO3:=ze hO3;have HR3:=ze hR3;have hsz3:=hO3.size;have Hown3:=ze (zo (zb Hown) hO3 (fun g hg e=>by unfold zl at e;have:=(zg (zb Hown) g hg).1;omega));clear hg hs3 hO3 hR3)
     |(at_builtin;refine ji _ rfl _ _ 228 rfl w.heap.size 90 i0 .nilIface 1 16 Tryz.underlying228 hi hz0 hz1 hz2 rfl (by decide) _ _ xs rfl (World.ownsRow.alloc (zb Hown3) _) _ 1 1 [.iface T3 y3] rfl rfl (cell_one_new _ _ _) (fun x hx=>by simp at hx;subst hx;rfl) (by unfold maxLen;omega) (by omega) (by simp;have:=(zb HO).size;omega) ?_;intro v' w4 hown' hgrow hsep;have hG4:=Jl hlt hb (zb HS) (zb HO) (zb Hown) (zb Hsz) (zb HO3) (zb HR3) (zb Hs3) ((Only.refl _ _).alloc _) hgrow hsep;obtain ⟨hO4,hR4,hsz4⟩:=hG4;have T:=ze (Trk.start hR4 ((zb HS).mine hO4 hb) hb);have HO4:=ze hO4;have Hsz4:=ze hsz4;have Hown4:=ze hown';clear hown' hgrow hsep hO4 hR4 hsz4)
     |(go_at_call 102;refine (yZ (n:=(Pro.zO L len D m).n) _ (by exact zb T) hL (by omega) (by decide) (by assumption)).mono ?_;rintro e wq ⟨rfl,qq,rfl⟩))
    go_ret2
    have hsz:=(zb Hsz4).mono (B:=fun g=>w.heap.size≤g) (fun g _ hg=>hg.1)
    have hown5:w4.ownsRow w.heap.size 90 1 v' (xs++[Value.iface T3 y3]).length (xs++[Value.iface T3 y3]):=by rw [List.length_append];exact zb Hown4
    rw [zb HT1]
    refine GivesT.good (F:=max F F3+1) (zb HO1) ((zb HO4).drewN _) ((zb T).rd.drewN _) ?_
    exact .inr (.inl ⟨_,xs++[.iface T3 y3],zs++[Pro.xj L len D DT m],rfl,rfl,(zaD hown5).keep ((Only.refl (fun _=>False) _).drewN _) (fun _ _ f=>f),by simp;omega,hsz.1,fun j x z' hx hz=>PartAt.keep ((Only.refl (fun _=>False) _).drewN _) (fun _ _ f=>f) _ x z' (hsz.2 j x z' hx hz),by simp⟩)
  ·have HO1:Hid (Pro.altP L len D n=Pro.zO L len D m):=by rw [zb HF];simp only [Pro.altO];rw [if_pos hk];rfl
   go_wp2_with (first
    |(go_at_call 101;refine (Zv b L m len dp a D DT _ (zb HR) ((zb HS).mine (zb HO) hb) hb hL hm hF (zb HG) (zb HD)).mono ?_;intro e w3 hg;obtain ⟨g3,rfl,hv3,hO3,hR3⟩:=wI hg hk;have Hv3:=ze hv3;have HO3:=ze hO3;have HR3:=ze hR3;clear hg hv3 hO3 hR3))
   go_ret2
   rw [zb HO1]
   exact ⟨(zb HO).trans (zb HO3),zb HR3,.inr ⟨hk,_,rfl,(zb Hv3).base (zb HO).size⟩⟩
theorem RdAt.setDT {w:World}{b:Nat}{L:List (Int×Int)}{n:Nat}{len dp:Int}(h:RdAt w b L n len dp)(j:Int):RdAt (w.setCell ⟨b,3,none⟩ (.int .i64 j)) b L n len j:=by
 obtain ⟨c0,c1,c2,c3,f1,f3⟩:=h
 refine ⟨?_,(World.cell?_setCell_other _ _ _ _ (by simp)).trans c1,(World.cell?_setCell_other _ _ _ _ (by simp)).trans c2,World.cell?_setCell_same _ _ _ c3,(zi _ _ _ _).trans f1,(zi _ _ _ _).trans f3⟩
 rcases c0 with ⟨g,cap,c0,hcap,hne,hrow⟩ |⟨rfl,c0⟩
 ·exact .inl ⟨g,cap,(World.cell?_setCell_other _ _ _ _ (by simp)).trans c0,hcap,hne,hrow.keep ((Only.refl (zl b) w).mine 3 _) (by unfold zl;omega)⟩
 ·exact .inr ⟨rfl,(World.cell?_setCell_other _ _ _ _ (by simp)).trans c0⟩
theorem WQ {b F:Nat}{w w1 w2 w3:World}{v:Value}{z:Tree}(hlt:b<w.heap.size)(h1:Only (zl b) w w1)(hs:PartAt F w2 (fun g=>w1.heap.size≤g) v z)(h3:Only (zl b) w2 w3):PartAt F w3 (fun g=>w.heap.size≤g) v z:=
 PartAt.keep h3 (A:=fun g=>w.heap.size≤g) (fun g hg e=>by unfold zl at e;subst e;exact absurd hlt (Nat.not_lt.2 hg)) F v z (PartAt.mono (fun g _ hg=>Nat.le_trans h1.size hg) F v z hs)
theorem VH (b:Nat)(L:List (Int×Int))(len:Int)(a:Nat→Addr)(hb:10≤b)(hL:L.length≤400):j7 b L len 10 a (Pro.zC L len 0) (Pro.xF L len 0):=by
 intro n w h hS hn
 have T:=ze (Trk.start h hS hb)
 have c3:=h.c3
 have hs7:=hS.s7
 clear h hS
 go_enter Tryz.func216,Tryz.ntmps216
 go_wp2_with fail
 go_region_with (first
  |(go_at_call 103;refine (yF (n:=n) (by exact (zb T).drewN _) hL (by omega)).mono ?_;rintro e w1 ⟨rfl,q,rfl⟩)
  |(go_at_call 56;refine (YF (n:=n) _ 7 _ _ rfl (by exact (zb T).drewN _)).mono ?_;rintro e w1 ⟨v,rfl,hv,tq⟩))
 all_goals go_wp2_with fail
 all_goals
  go_ret2
  exact GivesT.bad rfl (show (7:Nat)≠0 by decide) (Own.to tq.on) tq.rd hv
theorem VI (b:Nat)(L:List (Int×Int))(len dp:Int)(a:Nat→Addr)(r:Nat)(hb:10≤b)(hL:L.length≤400)(h0:0≤dp)(h1:dp<10)
  (hA:∀ (n:Nat) (w:World),RdAt w b L n len (dp+1)→Sents w a→n≤L.length→Calls Tryz.prog 53 #[.pointer (some ⟨b,0,none⟩)] w (GivesT b L len (dp+1) a w (Pro.altP L len (Pro.zC L len r) n) (Pro.altQ L len (Pro.zC L len r) (Pro.xF L len r) n))):j7 b L len dp a (Pro.zC L len (r+1)) (Pro.xF L len (r+1)):=by
 intro n w h hS hn
 have hlt:=h.lt
 have HR:=ze h
 have HS:=ze hS
 have HA:=ze hA
 have c3:=h.c3
 have hd:(dp == 10)=false:=by simp;omega
 clear h hS hA
 have ho:=Pro.ZW (L:=L) (len:=len) n hn
 have ha:=Pro.ve (len:=len) (Pro.xJ (L:=L) (len:=len) r) (Pro.zV L len n).n ho.2
 by_cases hk1:(Pro.zV L len n).k=0
 ·by_cases hk2:(Pro.altP L len (Pro.zC L len r) (Pro.zV L len n).n).k=0
  ·by_cases hc:Pro.zh L (Pro.altP L len (Pro.zC L len r) (Pro.zV L len n).n).n=41
   ·have m1:Pro.zz L (Pro.altP L len (Pro.zC L len r) (Pro.zV L len n).n).n { data:=#[41] }=true:=by rw [Pro.zt L _ 41 41 rfl];simp [hc]
    have HO:Hid (Pro.zC L len (r+1) n=Pro.good (Pro.altP L len (Pro.zC L len r) (Pro.zV L len n).n).v ((Pro.altP L len (Pro.zC L len r) (Pro.zV L len n).n).n+1)):=by simp only [Pro.zC];unfold Pro.jX;rw [if_neg (by simp [hk1]),if_neg (by simp [hk2]),if_pos hc];rfl
    clear hc
    go_enter Tryz.func216,Tryz.ntmps216
    go_wp2_with (first
     |(go_at_call 242;refine (kl b L n len dp a _ (zb HR) (zb HS) hb hL hn).mono ?_;rintro e w1 ⟨tq,hT⟩;obtain ⟨rfl,_⟩:=vS hT hk1;clear hT;have T1:=ze tq;have c31:=tq.rd.c3;have f31:=tq.rd.f3;clear tq)
     |(go_at_call 53;refine (zb HA (Pro.zV L len n).n _ ((zb T1).rd.setDT _) ((zb T1).se.mine ((Only.refl _ _).mine _ _) hb) ho.2).mono ?_;intro e w2 hg;obtain ⟨T2,y2,F2,rfl,hs2,hO2,hR2⟩:=qh hg hk2;have Hs2:=ze hs2;have HO2:=ze hO2;have HR2:=ze hR2;have c32:=hR2.c3;have f32:=hR2.f3;clear hg hs2 hO2 hR2)
     |(go_at_call 102;refine (yM b L (Pro.altP L len (Pro.zC L len r) (Pro.zV L len n).n).n len dp _ _ ((zb HR2).setDT _) hL (by omega) (by decide) (by assumption)).mono ?_;rintro e w3 ⟨rfl,hR3,hO3⟩;have HR3:=ze hR3;have HO3:=ze hO3;clear hR3 hO3))
    go_ret2
    have hA1:Only (zl b) w (w1.setCell ⟨b,3,none⟩ (.int .i64 (dp+1))):=(Own.to (zb T1).on).mine _ _
    have hA2:Only (zl b) w2 w3:=((Only.refl (zl b) w2).mine 3 _).trans (zb HO3)
    exact GivesT.good (zb HO) ((hA1.trans (zb HO2)).trans hA2) (zb HR3) (WQ hlt hA1 (zb Hs2) hA2)
   ·have m1:Pro.zz L (Pro.altP L len (Pro.zC L len r) (Pro.zV L len n).n).n { data:=#[41] }=false:=by rw [Pro.zt L _ 41 41 rfl];simp [hc]
    have HO:Hid (Pro.zC L len (r+1) n=Pro.bad 3 (Pro.zB L len (Pro.altP L len (Pro.zC L len r) (Pro.zV L len n).n).n) (Pro.altP L len (Pro.zC L len r) (Pro.zV L len n).n).n):=by simp only [Pro.zC];unfold Pro.jX;rw [if_neg (by simp [hk1]),if_neg (by simp [hk2]),if_neg hc];rfl
    clear hc
    go_enter Tryz.func216,Tryz.ntmps216
    go_wp2_with (first
     |(go_at_call 242;refine (kl b L n len dp a _ (zb HR) (zb HS) hb hL hn).mono ?_;rintro e w1 ⟨tq,hT⟩;obtain ⟨rfl,_⟩:=vS hT hk1;clear hT;have T1:=ze tq;have c31:=tq.rd.c3;have f31:=tq.rd.f3;clear tq)
     |(go_at_call 53;refine (zb HA (Pro.zV L len n).n _ ((zb T1).rd.setDT _) ((zb T1).se.mine ((Only.refl _ _).mine _ _) hb) ho.2).mono ?_;intro e w2 hg;obtain ⟨T2,y2,F2,rfl,hs2,hO2,hR2⟩:=qh hg hk2;have Hs2:=ze hs2;have HO2:=ze hO2;have HR2:=ze hR2;have c32:=hR2.c3;have f32:=hR2.f3;clear hg hs2 hO2 hR2);(have T:=ze (Trk.start ((zb HR2).setDT dp) (((zb HS).mine (((Own.to (zb T1).on).mine 3 _).trans (zb HO2)) hb).mine ((Only.refl _ _).mine 3 _) hb) hb))
     |(go_at_call 102;refine (yZ (n:=(Pro.altP L len (Pro.zC L len r) (Pro.zV L len n).n).n) _ (by exact zb T) hL (by omega) (by decide) (by assumption)).mono ?_;rintro e wq ⟨rfl,qq,rfl⟩)
     |(go_at_call 55;refine (ZT (n:=(Pro.altP L len (Pro.zC L len r) (Pro.zV L len n).n).n) (by exact (zb T).drewN _) hL (by omega)).mono ?_;rintro e wq ⟨v,rfl,hv,tq⟩;have T:=ze tq;have c1:=tq.c1;have f1:=tq.f1))
    go_ret2
    have hA1:Only (zl b) w (w1.setCell ⟨b,3,none⟩ (.int .i64 (dp+1))):=(Own.to (zb T1).on).mine _ _
    have hA2:=(hA1.trans (zb HO2)).mine 3 (.int .i64 dp)
    exact GivesT.bad (zb HO) (by decide) (hA2.trans (Own.to (zb T).on)) (zb T).rd (hv.base hA2.size)
  ·have HO:Hid (Pro.zC L len (r+1) n=(Pro.altP L len (Pro.zC L len r) (Pro.zV L len n).n)):=by simp only [Pro.zC];unfold Pro.jX;rw [if_neg (by simp [hk1]),if_pos hk2];rfl
   go_enter Tryz.func216,Tryz.ntmps216
   go_wp2_with (first
    |(go_at_call 242;refine (kl b L n len dp a _ (zb HR) (zb HS) hb hL hn).mono ?_;rintro e w1 ⟨tq,hT⟩;obtain ⟨rfl,_⟩:=vS hT hk1;clear hT;have T1:=ze tq;have c31:=tq.rd.c3;have f31:=tq.rd.f3;clear tq)
    |(go_at_call 53;refine (zb HA (Pro.zV L len n).n _ ((zb T1).rd.setDT _) ((zb T1).se.mine ((Only.refl _ _).mine _ _) hb) ho.2).mono ?_;intro e w2 hg;obtain ⟨g2,rfl,hv2,hO2,hR2⟩:=wI hg hk2;have Hv2:=ze hv2;have HO2:=ze hO2;have HR2:=ze hR2;have c32:=hR2.c3;have f32:=hR2.f3;clear hg hv2 hO2 hR2))
   go_ret2
   have hA1:Only (zl b) w (w1.setCell ⟨b,3,none⟩ (.int .i64 (dp+1))):=(Own.to (zb T1).on).mine _ _
   rw [zb HO]
   exact ⟨(hA1.trans (zb HO2)).mine 3 _,(zb HR2).setDT dp,.inr ⟨hk2,_,rfl,((zb Hv2).base hA1.size).keep ((Only.refl (zl b) _).mine 3 _) (fun g hg e=>by unfold zl at e;omega)⟩⟩
 ·have HO:Hid (Pro.zC L len (r+1) n=Pro.zV L len n):=by simp only [Pro.zC];unfold Pro.jX;rw [if_pos hk1];rfl
  go_enter Tryz.func216,Tryz.ntmps216
  go_wp2_with (go_at_call 242;refine (kl b L n len dp a _ (zb HR) (zb HS) hb hL hn).mono ?_;rintro e w1 ⟨tq,hT⟩;obtain ⟨v,rfl,hv⟩:=JU hT hk1;clear hT;obtain ⟨gv,hgv⟩:=hv.form;subst hgv;have T1:=ze tq;clear tq)
  go_ret2
  rw [zb HO]
  exact ⟨Own.to (zb T1).on,(zb T1).rd,.inr ⟨hk1,_,rfl,hv⟩⟩
theorem Qk (b:Nat)(L:List (Int×Int))(len:Int)(a:Nat→Addr)(hb:10≤b)(hL:L.length≤400)(hF:Pro.Fit L):∀ r:Nat,r≤10→j7 b L len ((10:Int)-r) a (Pro.zC L len r) (Pro.xF L len r)
 |0,_=>VH b L len a hb hL
 |r+1,hr=>by
  have hG:=Qk b L len a hb hL hF r (by omega)
  refine VI b L len _ a r hb hL (by omega) (by omega) ?_
  rw [show ((10:Int)-((r+1:Nat):Int))+1=(10:Int)-r by omega]
  intro n w h hS hn
  exact kp b L n len _ a (Pro.zC L len r) (Pro.xF L len r) w h hS hb hL hn hF hG (Pro.xJ r)
theorem qZ (b:Nat)(L:List (Int×Int))(n:Nat)(len:Int)(a:Nat→Addr)(w:World)(h:RdAt w b L n len 0)(hS:Sents w a)(hb:10≤b)(hL:L.length≤400)(hn:n≤L.length)(hF:Pro.Fit L) :
  Calls Tryz.prog 53 #[.pointer (some ⟨b,0,none⟩)] w (GivesT b L len 0 a w (Pro.altP L len (Pro.zC L len 10) n) (Pro.altQ L len (Pro.zC L len 10) (Pro.xF L len 10) n)):=
 kp b L n len 0 a (Pro.zC L len 10) (Pro.xF L len 10) w h hS hb hL hn hF (Qk b L len a hb hL hF 10 (by omega)) (Pro.xJ 10)
end
section
open Sm (Tree capT)
namespace Pro
def SzIs (T:Tree)(v:Int):Prop:=∃ F0,∀ F,F0≤F→capT F T=v
def SzAll (ts:List Tree)(zs:List Int):Prop:=∃ F0,∀ F,F0≤F→ts.map (capT F)=zs
theorem Xd {T:Tree}(h:T.kind≤4):SzIs T 1:=⟨1,fun F hF=>by
 obtain ⟨g,rfl⟩:∃ g,F=g+1:=⟨F-1,by omega⟩
 unfold capT
 rw [if_neg (by omega),if_neg (by omega),if_neg (by omega)]⟩
theorem sz_nil:SzAll [][]:=⟨0,fun _ _=>rfl⟩
theorem SzAll.snoc {ts:List Tree}{zs:List Int}{t:Tree}{z:Int}:SzAll ts zs→SzIs t z→SzAll (ts++[t]) (zs++[z])
 |⟨F0,h⟩,⟨F1,g⟩=>⟨max F0 F1,fun F hF=>by rw [List.map_append,h F (by omega)];simp [g F (by omega)]⟩
theorem sz_seq {ts:List Tree}{zs:List Int}:SzAll ts zs→SzIs (tSeq ts) (sumS 0 zs)
 |⟨F0,h⟩=>⟨F0+1,fun F hF=>by
  obtain ⟨g,rfl⟩:∃ g,F=g+1:=⟨F-1,by omega⟩
  conv=>lhs;unfold capT
  rw [if_neg (by simp [tSeq]),if_pos (by rfl)]
  show sumS 0 (ts.map (capT g))=_
  rw [h g (by omega)]⟩
theorem SzAll.len {ts:List Tree}{zs:List Int}:SzAll ts zs→ts.length=zs.length
 |⟨F0,h⟩=>by rw [←h F0 (Nat.le_refl _)];simp
theorem sz_alt {ts:List Tree}{zs:List Int}(hz:SzAll ts zs):SzIs (tAlt ts) (min (sumS 0 zs+zs.length-1) 301):=by
 have hl:=hz.len
 obtain ⟨F0,h⟩:=hz
 refine ⟨F0+1,fun F hF=>?_⟩
 obtain ⟨g,rfl⟩:∃ g,F=g+1:=⟨F-1,by omega⟩
 conv=>lhs;unfold capT
 rw [if_pos (by rfl)]
 show min (sumS 0 (ts.map (capT g))+(ts.length:Int)-1) 301=_
 rw [h g (by omega),hl]
theorem sz_rep {t:Tree}{z:Int}(l m:Int):SzIs t z→SzIs (tRep t l m) (min (repS z l m) 301)
 |⟨F0,h⟩=>⟨F0+1,fun F hF=>by
  obtain ⟨g,rfl⟩:∃ g,F=g+1:=⟨F-1,by omega⟩
  conv=>lhs;unfold capT
  rw [if_neg (by simp [tRep]),if_neg (by simp [tRep]),if_pos (by rfl)]
  show min (repS (capT g t) l m) 301=_
  rw [h g (by omega)]⟩
section
variable {L:List (Int×Int)} {len:Int}
theorem let_lt {n:Nat}{c:Int}(h:zh L n=c)(hc:0≤c):n<L.length:=by
 by_cases hl:n<L.length
 ·exact hl
 ·rw [xp (by omega)] at h;omega
theorem atomT_sz {D:Nat→Out}{DT:Nat→Tree}(hD:∀ n,n<L.length→(D n).k=0→SzIs (DT n) (D n).v)(n:Nat)(hk:(zJ L len D n).k=0):SzIs (yH L len DT n) (zJ L len D n).v:=by
 unfold zJ at hk ⊢
 unfold yH
 by_cases hw:vd (zh L n)=true
 ·rw [if_pos hw] at hk;simp [bad] at hk
 ·rw [if_neg hw] at hk ⊢
  by_cases h1:zh L n=40
  ·rw [if_pos h1] at hk ⊢;rw [if_pos h1];exact hD n (let_lt (c:=40) h1 (by omega)) hk
  ·rw [if_neg h1] at hk ⊢;rw [if_neg h1]
   by_cases h2:zh L n=91
   ·rw [if_pos h2] at hk ⊢;rw [if_pos h2]
    unfold one at hk ⊢
    split at hk
    ·rename_i h3;rw [if_pos h3];exact Xd (by simp [xh,tCls])
    ·rename_i h3;exact absurd hk h3
   ·rw [if_neg h2] at hk ⊢;rw [if_neg h2]
    by_cases h3:zh L n=92
    ·rw [if_pos h3] at hk ⊢;rw [if_pos h3]
     unfold one at hk ⊢
     split at hk
     ·rename_i h4;rw [if_pos h4];unfold oneT;split<;>exact Xd (by simp [xK,xY])
     ·rename_i h4;exact absurd hk h4
    ·rw [if_neg h3] at hk ⊢;rw [if_neg h3]
     split<;>exact Xd (by simp [tAny,xY])
theorem termT_sz {D:Nat→Out}{DT:Nat→Tree}(hD:∀ n,n<L.length→(D n).k=0→SzIs (DT n) (D n).v)(n:Nat)(hk:(yq L len D n).k=0):SzIs (xR L len D DT n) (yq L len D n).v:=by
 unfold yq at hk ⊢
 unfold xR
 by_cases h0:asN L n≠0
 ·rw [if_pos h0,if_pos h0];exact Xd (by simp [tAsr])
 ·rw [if_neg h0] at hk ⊢;rw [if_neg h0]
  by_cases h1:(zJ L len D n).k≠0
  ·rw [if_pos h1] at hk;exact absurd hk h1
  ·rw [if_neg h1] at hk ⊢
   have ha:=atomT_sz (L:=L) (len:=len) hD n (by simpa using h1)
   by_cases h2:(zy L len (zJ L len D n).n).1=false
   ·rw [if_pos h2,if_pos h2];exact ha
   ·rw [if_neg h2] at hk ⊢;rw [if_neg h2]
    by_cases h3:(zy L len (zJ L len D n).n).2.1.k≠0
    ·rw [if_pos h3] at hk;exact absurd hk h3
    ·rw [if_neg h3];exact sz_rep _ _ ha
theorem Jm {D:Nat→Out}{DT:Nat→Tree}(hD:∀ n,n<L.length→(D n).k=0→SzIs (DT n) (D n).v):∀ (f:Nat) (ts:List Tree) (zs:List Int) (n:Nat),SzAll ts zs→(yY L len D f (sumS 0 zs) n).k=0→∃ zs',SzAll (qg L len D DT f ts n) zs'∧(yY L len D f (sumS 0 zs) n).v=sumS 0 zs'
 |0,_,zs,_,h,_=>⟨zs,h,rfl⟩
 |f+1,ts,zs,n,h,hk=>by
  unfold yY at hk ⊢
  unfold qg
  by_cases h0:kh L n=true
  ·rw [if_pos h0,if_pos h0];exact ⟨zs,h,rfl⟩
  ·rw [if_neg h0] at hk ⊢;rw [if_neg h0]
   by_cases h1:(yq L len D n).k≠0
   ·rw [if_pos h1] at hk;exact absurd hk h1
   ·rw [if_neg h1] at hk ⊢
    have ht:=termT_sz (L:=L) (len:=len) hD n (by simpa using h1)
    rw [←sumS_append] at hk ⊢
    exact Jm hD f _ _ _ (h.snoc ht) hk
theorem zbT {D:Nat→Out}{DT:Nat→Tree}(hD:∀ n,n<L.length→(D n).k=0→SzIs (DT n) (D n).v)(n:Nat)(hk:(zO L len D n).k=0):SzIs (xj L len D DT n) (zO L len D n).v:=by
 obtain ⟨zs,h1,h2⟩:=Jm hD (L.length+1-n) [] [] n sz_nil hk
 have e:(zO L len D n).v=sumS 0 zs:=h2
 rw [e]
 exact sz_seq h1
theorem zaE {D:Nat→Out}{DT:Nat→Tree}(hO:DOK L D)(hD:∀ n,n<L.length→(D n).k=0→SzIs (DT n) (D n).v):∀ (f:Nat) (ts:List Tree) (zs:List Int) (n:Nat),n≤L.length→L.length+1-n≤f→SzAll ts zs→(altO L len D f zs n).k=0→∃ zs',SzAll (altT L len D DT f ts n) zs'∧(altO L len D f zs n).v=min (sumS 0 zs'+zs'.length-1) 301
 |0,_,_,n,h,hf,_,_=>by omega
 |f+1,ts,zs,n,h,hf,hz,hk=>by
  unfold altO at hk ⊢
  unfold altT
  have hin:=wH (len:=len) hO n h
  by_cases h0:(zO L len D n).k≠0
  ·rw [if_pos h0] at hk;exact absurd hk h0
  ·rw [if_neg h0] at hk ⊢
   have ht:=zbT (L:=L) (len:=len) hD n (by simpa using h0)
   by_cases h1:zh L (zO L len D n).n=124
   ·rw [if_pos h1] at hk ⊢;rw [if_pos h1]
    have hl:=let_lt h1 (by omega)
    exact zaE hO hD f _ _ _ (by omega) (by omega) (hz.snoc ht) hk
   ·rw [if_neg h1,if_neg h1]
    refine ⟨zs++[(zO L len D n).v],hz.snoc ht,?_⟩
    rw [List.length_append]
    rfl
theorem zaF {D:Nat→Out}{DT:Nat→Tree}(hO:DOK L D)(hD:∀ n,n<L.length→(D n).k=0→SzIs (DT n) (D n).v)(n:Nat)(hn:n≤L.length)(hk:(altP L len D n).k=0):SzIs (altQ L len D DT n) (altP L len D n).v:=by
 obtain ⟨zs,h1,h2⟩:=zaE hO hD (L.length+1-n) [] [] n hn (Nat.le_refl _) sz_nil hk
 have e:(altP L len D n).v=min (sumS 0 zs+zs.length-1) 301:=h2
 rw [e]
 exact sz_alt h1
theorem VJ:∀ (r n:Nat),n<L.length→(zC L len r n).k=0→SzIs (xF L len r n) (zC L len r n).v
 |0,_,_,hk=>by simp [zC,bad] at hk
 |r+1,n,hn,hk=>by
  have ho:=ZW (L:=L) (len:=len) n hn
  have e:zC L len (r+1) n=jX L len (altP L len (zC L len r)) n:=rfl
  rw [e] at hk ⊢
  unfold jX at hk ⊢
  by_cases h1:(zV L len n).k≠0
  ·rw [if_pos h1] at hk;exact absurd hk h1
  ·rw [if_neg h1] at hk ⊢
   by_cases h2:(altP L len (zC L len r) (zV L len n).n).k≠0
   ·rw [if_pos h2] at hk;exact absurd hk h2
   ·rw [if_neg h2] at hk ⊢
    by_cases h3:zh L (altP L len (zC L len r) (zV L len n).n).n=41
    ·rw [if_pos h3]
     exact zaF (xJ r) (fun n hn hk=>VJ r n hn hk) _ (by omega) (by simpa using h2)
    ·rw [if_neg h3] at hk;simp [bad] at hk
theorem VK (r n:Nat)(hn:n≤L.length)(hk:(altP L len (zC L len r) n).k=0):SzIs (altQ L len (zC L len r) (xF L len r) n) (altP L len (zC L len r) n).v:=zaF (xJ r) (fun n hn hk=>VJ r n hn hk) n hn hk
end
theorem SzIs.at {T:Tree}{v:Int}{F:Nat}(h:SzIs T v)(hw:Sm.WF F T):capT F T=v:=by
 obtain ⟨F0,h0⟩:=h
 rw [←Sm.JW hw (show F≤max F F0 by omega)]
 exact h0 _ (by omega)
end Pro
end
section
open Go.RowKit
set_option maxHeartbeats 4000000
set_option maxRecDepth 1000000
theorem Tryz.as00 (v:Value)(w:World):(Instr.typeAssert (.iface 154 v) 90 154 true).run Tryz.prog w = .ok (.tuple #[v,.bool true]) w:=by kernel_rfl
theorem Tryz.as01 (v:Value)(w:World):(Instr.typeAssert (.iface 154 v) 90 244 true).run Tryz.prog w = .ok (.tuple #[.agg #[],.bool false]) w:=by kernel_rfl
theorem Tryz.as02 (v:Value)(w:World):(Instr.typeAssert (.iface 154 v) 90 245 true).run Tryz.prog w = .ok (.tuple #[.int .i32 0,.bool false]) w:=by kernel_rfl
theorem Tryz.as03 (v:Value)(w:World):(Instr.typeAssert (.iface 154 v) 90 246 true).run Tryz.prog w = .ok (.tuple #[.int .i32 0,.bool false]) w:=by kernel_rfl
theorem Tryz.as04 (v:Value)(w:World):(Instr.typeAssert (.iface 154 v) 90 250 true).run Tryz.prog w = .ok (.tuple #[.agg #[.bool false,.slice none 0 0,.slice none 0 0],.bool false]) w:=by kernel_rfl
theorem Tryz.as10 (v:Value)(w:World):(Instr.typeAssert (.iface 244 v) 90 154 true).run Tryz.prog w = .ok (.tuple #[.int .i64 0,.bool false]) w:=by kernel_rfl
theorem Tryz.as11 (v:Value)(w:World):(Instr.typeAssert (.iface 244 v) 90 244 true).run Tryz.prog w = .ok (.tuple #[v,.bool true]) w:=by kernel_rfl
theorem Tryz.as12 (v:Value)(w:World):(Instr.typeAssert (.iface 244 v) 90 245 true).run Tryz.prog w = .ok (.tuple #[.int .i32 0,.bool false]) w:=by kernel_rfl
theorem Tryz.as13 (v:Value)(w:World):(Instr.typeAssert (.iface 244 v) 90 246 true).run Tryz.prog w = .ok (.tuple #[.int .i32 0,.bool false]) w:=by kernel_rfl
theorem Tryz.as14 (v:Value)(w:World):(Instr.typeAssert (.iface 244 v) 90 250 true).run Tryz.prog w = .ok (.tuple #[.agg #[.bool false,.slice none 0 0,.slice none 0 0],.bool false]) w:=by kernel_rfl
theorem Tryz.as20 (v:Value)(w:World):(Instr.typeAssert (.iface 245 v) 90 154 true).run Tryz.prog w = .ok (.tuple #[.int .i64 0,.bool false]) w:=by kernel_rfl
theorem Tryz.as21 (v:Value)(w:World):(Instr.typeAssert (.iface 245 v) 90 244 true).run Tryz.prog w = .ok (.tuple #[.agg #[],.bool false]) w:=by kernel_rfl
theorem Tryz.as22 (v:Value)(w:World):(Instr.typeAssert (.iface 245 v) 90 245 true).run Tryz.prog w = .ok (.tuple #[v,.bool true]) w:=by kernel_rfl
theorem Tryz.as23 (v:Value)(w:World):(Instr.typeAssert (.iface 245 v) 90 246 true).run Tryz.prog w = .ok (.tuple #[.int .i32 0,.bool false]) w:=by kernel_rfl
theorem Tryz.as24 (v:Value)(w:World):(Instr.typeAssert (.iface 245 v) 90 250 true).run Tryz.prog w = .ok (.tuple #[.agg #[.bool false,.slice none 0 0,.slice none 0 0],.bool false]) w:=by kernel_rfl
theorem Tryz.as30 (v:Value)(w:World):(Instr.typeAssert (.iface 246 v) 90 154 true).run Tryz.prog w = .ok (.tuple #[.int .i64 0,.bool false]) w:=by kernel_rfl
theorem Tryz.as31 (v:Value)(w:World):(Instr.typeAssert (.iface 246 v) 90 244 true).run Tryz.prog w = .ok (.tuple #[.agg #[],.bool false]) w:=by kernel_rfl
theorem Tryz.as32 (v:Value)(w:World):(Instr.typeAssert (.iface 246 v) 90 245 true).run Tryz.prog w = .ok (.tuple #[.int .i32 0,.bool false]) w:=by kernel_rfl
theorem Tryz.as33 (v:Value)(w:World):(Instr.typeAssert (.iface 246 v) 90 246 true).run Tryz.prog w = .ok (.tuple #[v,.bool true]) w:=by kernel_rfl
theorem Tryz.as34 (v:Value)(w:World):(Instr.typeAssert (.iface 246 v) 90 250 true).run Tryz.prog w = .ok (.tuple #[.agg #[.bool false,.slice none 0 0,.slice none 0 0],.bool false]) w:=by kernel_rfl
theorem Tryz.as40 (v:Value)(w:World):(Instr.typeAssert (.iface 250 v) 90 154 true).run Tryz.prog w = .ok (.tuple #[.int .i64 0,.bool false]) w:=by kernel_rfl
theorem Tryz.as41 (v:Value)(w:World):(Instr.typeAssert (.iface 250 v) 90 244 true).run Tryz.prog w = .ok (.tuple #[.agg #[],.bool false]) w:=by kernel_rfl
theorem Tryz.as42 (v:Value)(w:World):(Instr.typeAssert (.iface 250 v) 90 245 true).run Tryz.prog w = .ok (.tuple #[.int .i32 0,.bool false]) w:=by kernel_rfl
theorem Tryz.as43 (v:Value)(w:World):(Instr.typeAssert (.iface 250 v) 90 246 true).run Tryz.prog w = .ok (.tuple #[.int .i32 0,.bool false]) w:=by kernel_rfl
theorem Tryz.as44 (v:Value)(w:World):(Instr.typeAssert (.iface 250 v) 90 250 true).run Tryz.prog w = .ok (.tuple #[v,.bool true]) w:=by kernel_rfl
theorem Tryz.as50 (v:Value)(w:World):(Instr.typeAssert (.iface 228 v) 90 154 true).run Tryz.prog w = .ok (.tuple #[.int .i64 0,.bool false]) w:=by kernel_rfl
theorem Tryz.as51 (v:Value)(w:World):(Instr.typeAssert (.iface 228 v) 90 244 true).run Tryz.prog w = .ok (.tuple #[.agg #[],.bool false]) w:=by kernel_rfl
theorem Tryz.as52 (v:Value)(w:World):(Instr.typeAssert (.iface 228 v) 90 245 true).run Tryz.prog w = .ok (.tuple #[.int .i32 0,.bool false]) w:=by kernel_rfl
theorem Tryz.as53 (v:Value)(w:World):(Instr.typeAssert (.iface 228 v) 90 246 true).run Tryz.prog w = .ok (.tuple #[.int .i32 0,.bool false]) w:=by kernel_rfl
theorem Tryz.as54 (v:Value)(w:World):(Instr.typeAssert (.iface 228 v) 90 250 true).run Tryz.prog w = .ok (.tuple #[.agg #[.bool false,.slice none 0 0,.slice none 0 0],.bool false]) w:=by kernel_rfl
theorem Tryz.as55 (v:Value)(w:World):(Instr.typeAssert (.iface 228 v) 90 228 true).run Tryz.prog w = .ok (.tuple #[v,.bool true]) w:=by kernel_rfl
theorem Tryz.as60 (v:Value)(w:World):(Instr.typeAssert (.iface 252 v) 90 154 true).run Tryz.prog w = .ok (.tuple #[.int .i64 0,.bool false]) w:=by kernel_rfl
theorem Tryz.as61 (v:Value)(w:World):(Instr.typeAssert (.iface 252 v) 90 244 true).run Tryz.prog w = .ok (.tuple #[.agg #[],.bool false]) w:=by kernel_rfl
theorem Tryz.as62 (v:Value)(w:World):(Instr.typeAssert (.iface 252 v) 90 245 true).run Tryz.prog w = .ok (.tuple #[.int .i32 0,.bool false]) w:=by kernel_rfl
theorem Tryz.as63 (v:Value)(w:World):(Instr.typeAssert (.iface 252 v) 90 246 true).run Tryz.prog w = .ok (.tuple #[.int .i32 0,.bool false]) w:=by kernel_rfl
theorem Tryz.as64 (v:Value)(w:World):(Instr.typeAssert (.iface 252 v) 90 250 true).run Tryz.prog w = .ok (.tuple #[.agg #[.bool false,.slice none 0 0,.slice none 0 0],.bool false]) w:=by kernel_rfl
theorem Tryz.as65 (v:Value)(w:World):(Instr.typeAssert (.iface 252 v) 90 228 true).run Tryz.prog w = .ok (.tuple #[.slice none 0 0,.bool false]) w:=by kernel_rfl
theorem Tryz.as66 (v:Value)(w:World):(Instr.typeAssert (.iface 252 v) 90 252 true).run Tryz.prog w = .ok (.tuple #[v,.bool true]) w:=by kernel_rfl
theorem Tryz.as70 (v:Value)(w:World):(Instr.typeAssert (.iface 254 v) 90 154 true).run Tryz.prog w = .ok (.tuple #[.int .i64 0,.bool false]) w:=by kernel_rfl
theorem Tryz.as71 (v:Value)(w:World):(Instr.typeAssert (.iface 254 v) 90 244 true).run Tryz.prog w = .ok (.tuple #[.agg #[],.bool false]) w:=by kernel_rfl
theorem Tryz.as72 (v:Value)(w:World):(Instr.typeAssert (.iface 254 v) 90 245 true).run Tryz.prog w = .ok (.tuple #[.int .i32 0,.bool false]) w:=by kernel_rfl
theorem Tryz.as73 (v:Value)(w:World):(Instr.typeAssert (.iface 254 v) 90 246 true).run Tryz.prog w = .ok (.tuple #[.int .i32 0,.bool false]) w:=by kernel_rfl
theorem Tryz.as74 (v:Value)(w:World):(Instr.typeAssert (.iface 254 v) 90 250 true).run Tryz.prog w = .ok (.tuple #[.agg #[.bool false,.slice none 0 0,.slice none 0 0],.bool false]) w:=by kernel_rfl
theorem Tryz.as75 (v:Value)(w:World):(Instr.typeAssert (.iface 254 v) 90 228 true).run Tryz.prog w = .ok (.tuple #[.slice none 0 0,.bool false]) w:=by kernel_rfl
theorem Tryz.as76 (v:Value)(w:World):(Instr.typeAssert (.iface 254 v) 90 252 true).run Tryz.prog w = .ok (.tuple #[.slice none 0 0,.bool false]) w:=by kernel_rfl
theorem Tryz.as77 (v:Value)(w:World):(Instr.typeAssert (.iface 254 v) 90 254 true).run Tryz.prog w = .ok (.tuple #[v,.bool true]) w:=by kernel_rfl
theorem leaf_any (w:World)(T:TypeId)(x:Value)(h:leafT T) :
  Calls Tryz.prog 59 #[.iface T x] w fun e w'=>e = .returned (.int .i64 1)∧w'=w:=by
 rcases h with rfl |rfl |rfl |rfl |rfl
 ·have a0:=Tryz.as00
  have a1:=Tryz.as01
  have a2:=Tryz.as02
  have a3:=Tryz.as03
  have a4:=Tryz.as04
  go_enter Tryz.func59,Tryz.ntmps59
  go_wp2_with fail
  go_ret
  exact ⟨rfl,rfl⟩
 ·have a0:=Tryz.as10
  have a1:=Tryz.as11
  have a2:=Tryz.as12
  have a3:=Tryz.as13
  have a4:=Tryz.as14
  go_enter Tryz.func59,Tryz.ntmps59
  go_wp2_with fail
  go_ret
  exact ⟨rfl,rfl⟩
 ·have a0:=Tryz.as20
  have a1:=Tryz.as21
  have a2:=Tryz.as22
  have a3:=Tryz.as23
  have a4:=Tryz.as24
  go_enter Tryz.func59,Tryz.ntmps59
  go_wp2_with fail
  go_ret
  exact ⟨rfl,rfl⟩
 ·have a0:=Tryz.as30
  have a1:=Tryz.as31
  have a2:=Tryz.as32
  have a3:=Tryz.as33
  have a4:=Tryz.as34
  go_enter Tryz.func59,Tryz.ntmps59
  go_wp2_with fail
  go_ret
  exact ⟨rfl,rfl⟩
 ·have a0:=Tryz.as40
  have a1:=Tryz.as41
  have a2:=Tryz.as42
  have a3:=Tryz.as43
  have a4:=Tryz.as44
  go_enter Tryz.func59,Tryz.ntmps59
  go_wp2_with fail
  go_ret
  exact ⟨rfl,rfl⟩
def Ql (f:Nat):Prop:=∀ (w:World) (A:Nat→Prop) (v:Value) (z:Int),SizeAt f w A v z→Calls Tryz.prog 59 #[v] w fun e w'=>e = .returned (.int .i64 z)∧Only (fun _=>False) w w'
theorem SizeAt.drewN {f:Nat}{w:World}{A:Nat→Prop}{v:Value}{z:Int}(h:SizeAt f w A v z)(q:Nat):SizeAt f (w.drewN q) A v z:=SizeAt.keep ((Only.refl (fun _=>False) w).drewN q) (fun _ _ f=>f) f v z h
theorem zaG (f:Nat)(hf:Ql f)(w:World)(A:Nat→Prop)(sv:Value)(xs:List Value)(zs:List Int)(hr:RowAt w A sv xs)(hx:xs.length≤1000)(hs:Sizes f w A xs zs) :
  Calls Tryz.prog 110 #[sv] w fun e w'=>e = .returned (.int .i64 (Pro.sumS 0 zs))∧Only (fun _=>False) w w':=by
 have HS:=ze hs
 have HF:=ze hf
 have hzl:=hs.1
 clear hs hf
 rcases hr with ⟨rfl,rfl⟩ |⟨g,cap,rfl,hA,hc,hg,hcell⟩
 ·have hz:zs=[]:=List.eq_nil_of_length_eq_zero (by simpa using hzl)
  subst hz
  go_enter Tryz.func110,Tryz.ntmps110
  go_wp2_with fail
  refine wp_loop_rounds 1 ?_
  rw [rounds_succ]
  go_wp2_with fail
  go_ret
  exact ⟨rfl,Only.refl _ _⟩
 ·have HC:=ze hcell
  clear hcell
  go_enter Tryz.func110,Tryz.ntmps110
  go_wp2_with fail
  go_loopw [3,8] (fun t i wr=>∃ (j:Nat),i = .int .i64 j∧j≤xs.length∧Only (fun _=>False) w wr∧0≤Pro.sumS 0 (zs.take j)∧Pro.sumS 0 (zs.take j)≤301∧t = .int .i64 (Pro.sumS 0 (zs.take j))) (fun _ i _=>xs.length-(intOf i).toNat)
  case atStart=>exact ⟨0,rfl,by omega,Only.refl _ _,by simp [Pro.sumS],by simp [Pro.sumS],by simp [Pro.sumS]⟩
  case round=>
   obtain ⟨j,rfl,hj,hO,ht0,ht1,rfl⟩:=hrel
   by_cases hlt:j<xs.length
   ·have hx1:=List.getElem?_eq_getElem hlt
    have hz1:zs[j]?=some (zs[j]'(by omega)):=List.getElem?_eq_getElem (by omega)
    have hcj:=(hO.cell (World.block_lt_of_cell? w _ (zb HC j xs[j] hx1)) (fun f=>f)).trans (zb HC j xs[j] hx1)
    have hsj:=SizeAt.keep hO (fun _ _ f=>f) f _ _ ((zb HS).2 j xs[j] (zs[j]'(by omega)) hx1 hz1)
    have hbd:=SizeAt.bd f _ _ hsj
    have hst:zs.take (j+1)=zs.take j++[zs[j]'(by omega)]:=by rw [List.take_add_one,hz1];rfl
    have Hst:=ze hst
    have Hsj:=ze hsj
    generalize hZ:zs[j]'(by omega)=Z at *
    generalize hX:xs[j]=X at *
    clear hx1 hz1 hst hsj hZ hX
    go_wp2_with (go_at_call 59;refine (zb HF _ A X Z (zb Hsj)).mono ?_;rintro e w1 ⟨rfl,hO1⟩)
    have e1:Pro.sumS 0 (zs.take (j+1))=min (Pro.sumS 0 (zs.take j)+Z) 301:=by rw [zb Hst,Pro.sumS_append]
    exact ⟨⟨j+1,by go_num,by omega,hO.trans hO1,by rw [e1];omega,by rw [e1];omega,by rw [e1,show (if 301<Pro.sumS 0 (zs.take j)+Z then (301:Int) else Pro.sumS 0 (zs.take j)+Z)=min (Pro.sumS 0 (zs.take j)+Z) 301 by split<;>omega]⟩,by simp [intOf];omega⟩
   ·have HE:Hid (zs.take j=zs):=by exact List.take_of_length_le (by omega)
    go_wp2_with fail
    go_ret
    rw [zb HE]
    exact ⟨rfl,hO⟩
theorem sizes_bd {f:Nat}{w:World}{A:Nat→Prop}{xs:List Value}{zs:List Int}(h:Sizes f w A xs zs):0≤Pro.sumS 0 zs∧Pro.sumS 0 zs≤301:=by
 refine Pro.wG zs 0 (by omega) (by omega) ?_
 intro y hy
 obtain ⟨j,hj⟩:=jO hy
 have hjl:j<xs.length:=by
  by_cases hlt:j<zs.length
  ·have:=h.1;omega
  ·rw [List.getElem?_eq_none (by omega)] at hj;cases hj
 exact (SizeAt.bd f _ _ (h.2 j xs[j] y (List.getElem?_eq_getElem hjl) hj)).1
theorem WR {x y X Y:Int}(h0:0≤x)(h1:x≤X)(h2:0≤y)(h3:y≤Y):0≤x*y∧x*y≤X*Y:=by
 refine ⟨Int.mul_nonneg h0 h2,?_⟩
 have a:=Int.mul_le_mul_of_nonneg_right h1 h2
 have b:=Int.mul_le_mul_of_nonneg_left h3 (show (0:Int)≤X by omega)
 omega
theorem Qm (f:Nat)(hf:Ql f)(w:World)(A:Nat→Prop)(p:Value)(l m z:Int)(hs:SizeAt f w A p z)(h0:0≤l)(h1:l≤100)(h2:-1≤m)(h3:m≤100)(h4:m = -1∨l≤m) :
  Calls Tryz.prog 111 #[.agg #[p,.int .i64 l,.int .i64 m]] w fun e w'=>e = .returned (.int .i64 (Pro.repS z l m))∧Only (fun _=>False) w w':=by
 have hbd:=SizeAt.bd f _ _ hs
 have HS:=ze hs
 have HF:=ze hf
 clear hs hf
 by_cases hm:m = -1
 ·have HR:Hid (Pro.repS z l m=max l 1*z+1):=by unfold Pro.repS;rw [if_pos hm];rfl
  have hmx:(if l<1 then (1:Int) else l)=max l 1:=by split<;>omega
  have hmm:=WR (x:=max l 1) (y:=z) (X:=100) (Y:=301) (by omega) (by omega) hbd.1 hbd.2
  subst hm
  go_enter Tryz.func111,Tryz.ntmps111
  go_wp2_with (go_at_call 59;refine (zb HF _ A p z (SizeAt.keep ((Only.refl (fun _=>False) w).alloc _) (fun _ _ f=>f) f _ _ (zb HS))).mono ?_;rintro e w1 ⟨rfl,hO1⟩;have r1:w1.cell? ⟨w.heap.size,1,none⟩=some (.int .i64 l):=zf hO1 _ _ (zm w _ rfl _ _ 1 _ rfl) (fun f=>f);have r2:w1.cell? ⟨w.heap.size,2,none⟩=some (.int .i64 (-1)):=zf hO1 _ _ (zm w _ rfl _ _ 2 _ rfl) (fun f=>f))
  go_ret
  rw [zb HR]
  exact ⟨rfl,((Only.refl _ _).alloc _).trans hO1⟩
 ·have HR:Hid (Pro.repS z l m=l*z+(m-l)*(z+1)):=by unfold Pro.repS;rw [if_neg hm];rfl
  have hm':(m == -1)=false:=by simp [hm]
  have hm1:=WR (x:=l) (y:=z) (X:=100) (Y:=301) h0 h1 hbd.1 hbd.2
  have hm2:=WR (x:=m-l) (y:=z+1) (X:=100) (Y:=302) (by omega) (by omega) (by omega) (by omega)
  go_enter Tryz.func111,Tryz.ntmps111
  go_wp2_with (go_at_call 59;refine (zb HF _ A p z (SizeAt.keep ((Only.refl (fun _=>False) w).alloc _) (fun _ _ f=>f) f _ _ (zb HS))).mono ?_;rintro e w1 ⟨rfl,hO1⟩;have r1:w1.cell? ⟨w.heap.size,1,none⟩=some (.int .i64 l):=zf hO1 _ _ (zm w _ rfl _ _ 1 _ rfl) (fun f=>f);have r2:w1.cell? ⟨w.heap.size,2,none⟩=some (.int .i64 m):=zf hO1 _ _ (zm w _ rfl _ _ 2 _ rfl) (fun f=>f))
  go_ret
  rw [zb HR]
  exact ⟨rfl,((Only.refl _ _).alloc _).trans hO1⟩
theorem SizeAt.form {f:Nat}{w:World}{A:Nat→Prop}{v:Value}{z:Int}(h:SizeAt f w A v z):∃ T y,v = .iface T y:=by
 cases f with
 |zero=>exact h.elim
 |succ f=>
  rcases h with ⟨_,T,x,_,h⟩ |⟨sv,_,_,h,_⟩ |⟨sv,_,_,h,_⟩ |⟨p,l,m,_,h,_⟩
  ·exact ⟨_,_,h⟩
  ·exact ⟨_,_,h⟩
  ·exact ⟨_,_,h⟩
  ·exact ⟨_,_,h⟩
theorem zbU (f:Nat)(hf:Ql f):Ql (f+1):=by
 intro w A v z h
 have hbd:=SizeAt.bd _ _ _ h
 rcases h with ⟨rfl,T,x,hl,rfl⟩ |⟨sv,xs,zs,rfl,h2,h0,h3,h4,h5,h6⟩ |⟨sv,xs,zs,rfl,h2,h0,h3,h4,h5⟩ |⟨p,l,m,z',rfl,h2,h3,h4,h5,h6,h7,h8⟩
 ·exact (leaf_any w T x hl).mono (by rintro e w1 ⟨rfl,rfl⟩;exact ⟨rfl,Only.refl _ _⟩)
 ·have hsum:=zaG f hf w A sv xs zs h2 h0 ⟨h3,h4⟩
  have HSum:=ze hsum
  have hsb:0≤Pro.sumS 0 zs∧Pro.sumS 0 zs≤301:=sizes_bd ⟨h3,h4⟩
  obtain ⟨sa,sc,rfl⟩:∃ sa sc,sv = .slice sa xs.length sc:=by
   rcases h2 with ⟨rfl,rfl⟩ |⟨g,cap,rfl,_⟩
   ·exact ⟨_,_,rfl⟩
   ·exact ⟨_,_,rfl⟩
  clear hsum h2 h4 hf
  have a0:=Tryz.as50
  have a1:=Tryz.as51
  have a2:=Tryz.as52
  have a3:=Tryz.as53
  have a4:=Tryz.as54
  have a5:=Tryz.as55
  go_enter Tryz.func59,Tryz.ntmps59
  go_wp2_with (go_at_call 110;refine (zb HSum).mono ?_;rintro e w1 ⟨rfl,hO1⟩)
  all_goals
   go_ret
   exact ⟨xy (by omega),hO1⟩
 ·have hsum:=zaG f hf w A sv xs zs h2 h0 ⟨h3,h4⟩
  have HSum:=ze hsum
  clear hsum h2 h4 hf
  have a0:=Tryz.as60
  have a1:=Tryz.as61
  have a2:=Tryz.as62
  have a3:=Tryz.as63
  have a4:=Tryz.as64
  have a5:=Tryz.as65
  have a6:=Tryz.as66
  go_enter Tryz.func59,Tryz.ntmps59
  go_wp2_with (go_at_call 110;refine (zb HSum).mono ?_;rintro e w1 ⟨rfl,hO1⟩)
  go_ret
  rw [h5]
  exact ⟨rfl,hO1⟩
 ·obtain ⟨TT,px,rfl⟩:=SizeAt.form h2
  have HF:=ze hf
  have HS:=ze h2
  have hz:=SizeAt.bd f _ _ h2
  have hnn:=Pro.kZ (z:=z') hz.1 h3 h7
  clear h2 hf
  have a0:=Tryz.as70
  have a1:=Tryz.as71
  have a2:=Tryz.as72
  have a3:=Tryz.as73
  have a4:=Tryz.as74
  have a5:=Tryz.as75
  have a6:=Tryz.as76
  have a7:=Tryz.as77
  go_enter Tryz.func59,Tryz.ntmps59
  go_wp2_with (go_at_call 111;refine (Qm f (zb HF) _ A (.iface TT px) l m z' (SizeAt.keep ((Only.refl (fun _=>False) w).alloc _) (fun _ _ f=>f) f _ _ (zb HS)) h3 h4 h5 h6 h7).mono ?_;rintro e w1 ⟨rfl,hO1⟩)
  all_goals
   go_ret
   exact ⟨xy (by omega),((Only.refl _ _).alloc _).trans hO1⟩
theorem VL:∀ f,Ql f
 |0=>fun _ _ _ _ h=>h.elim
 |f+1=>zbU f (VL f)
theorem jD (f:Nat)(w:World)(A:Nat→Prop)(v:Value)(z:Int)(h:SizeAt f w A v z) :
  Calls Tryz.prog 33 #[v] w fun e w'=>e = .returned (.int .i64 (min (z+1) 301))∧Only (fun _=>False) w w':=by
 have hbd:=SizeAt.bd _ _ _ h
 have H:=ze h
 clear h
 go_enter Tryz.func33,Tryz.ntmps33
 go_wp2_with (go_at_call 59;refine (VL f _ A v z (zb H)).mono ?_;rintro e w1 ⟨rfl,hO1⟩)
 all_goals
  go_ret
  exact ⟨xy (by omega),hO1⟩
structure MacAt (w:World)(b:Nat)(s:ByteArray)(nx p:Nat)(ch:Int):Prop where
 c0:w.cell? ⟨b,0,none⟩=some (.string s)
 c1:w.cell? ⟨b,1,none⟩=some (.int .i64 nx)
 c2:w.cell? ⟨b,2,none⟩=some (.int .i64 p)
 c3:w.cell? ⟨b,3,none⟩=some (.int .i32 ch)
 f1:w.frozen? ⟨b,1,none⟩=false
 f2:w.frozen? ⟨b,2,none⟩=false
 f3:w.frozen? ⟨b,3,none⟩=false
section
variable {w w':World} {b:Nat} {s:ByteArray} {nx p:Nat} {ch:Int}
theorem MacAt.lt (h:MacAt w b s nx p ch):b<w.heap.size:=World.block_lt_of_cell? w ⟨b,0,none⟩ h.c0
theorem MacAt.keep {P:Nat→Prop}(h:MacAt w b s nx p ch)(k:Only P w w')(hn:¬P b):MacAt w' b s nx p ch:=
 ⟨(k.cell (p:=⟨b,0,none⟩) h.lt hn).trans h.c0,(k.cell (p:=⟨b,1,none⟩) h.lt hn).trans h.c1,(k.cell (p:=⟨b,2,none⟩) h.lt hn).trans h.c2,(k.cell (p:=⟨b,3,none⟩) h.lt hn).trans h.c3,
  (k.frozen (p:=⟨b,1,none⟩) h.lt hn).trans h.f1,(k.frozen (p:=⟨b,2,none⟩) h.lt hn).trans h.f2,(k.frozen (p:=⟨b,3,none⟩) h.lt hn).trans h.f3⟩
theorem MacAt.drewN (h:MacAt w b s nx p ch)(q:Nat):MacAt (w.drewN q) b s nx p ch:=h.keep ((Only.refl (fun _=>False) w).drewN q) (fun f=>f)
theorem MacAt.set1 (h:MacAt w b s nx p ch)(n:Nat)(j:Int)(hj:j=(n:Int)):MacAt (w.setCell ⟨b,1,none⟩ (.int .i64 j)) b s n p ch:=by
 subst hj
 exact ⟨(World.cell?_setCell_other _ _ _ _ (by simp)).trans h.c0,World.cell?_setCell_same _ _ _ h.c1,(World.cell?_setCell_other _ _ _ _ (by simp)).trans h.c2,(World.cell?_setCell_other _ _ _ _ (by simp)).trans h.c3,(zi _ _ _ _).trans h.f1,(zi _ _ _ _).trans h.f2,(zi _ _ _ _).trans h.f3⟩
theorem MacAt.set2 (h:MacAt w b s nx p ch)(n:Nat)(j:Int)(hj:j=(n:Int)):MacAt (w.setCell ⟨b,2,none⟩ (.int .i64 j)) b s nx n ch:=by
 subst hj
 exact ⟨(World.cell?_setCell_other _ _ _ _ (by simp)).trans h.c0,(World.cell?_setCell_other _ _ _ _ (by simp)).trans h.c1,World.cell?_setCell_same _ _ _ h.c2,(World.cell?_setCell_other _ _ _ _ (by simp)).trans h.c3,(zi _ _ _ _).trans h.f1,(zi _ _ _ _).trans h.f2,(zi _ _ _ _).trans h.f3⟩
theorem MacAt.set3 (h:MacAt w b s nx p ch)(j k:Int)(hj:k=j):MacAt (w.setCell ⟨b,3,none⟩ (.int .i32 k)) b s nx p j:=by
 subst hj
 exact ⟨(World.cell?_setCell_other _ _ _ _ (by simp)).trans h.c0,(World.cell?_setCell_other _ _ _ _ (by simp)).trans h.c1,(World.cell?_setCell_other _ _ _ _ (by simp)).trans h.c2,World.cell?_setCell_same _ _ _ h.c3,(zi _ _ _ _).trans h.f1,(zi _ _ _ _).trans h.f2,(zi _ _ _ _).trans h.f3⟩
end
namespace Pro
def yI (b:Int):Int:=if b<128 then b else if b<224 then b % 32 else if b<240 then b % 16 else b % 8
def xA (s:ByteArray)(nx:Nat)(lo hi:Int):Bool:=decide (nx<s.size) && decide (lo≤zd s nx) && decide (zd s nx≤hi)
theorem Jn {s:ByteArray}{nx:Nat}{lo hi:Int}(h:nx<s.size)(h1:¬zd s nx<lo)(h2:¬hi<zd s nx):xA s nx lo hi=true:=by
 unfold xA;simp;omega
theorem Qn {s:ByteArray}{nx:Nat}{lo hi:Int}(h:¬(nx<s.size∧lo≤zd s nx∧zd s nx≤hi)):xA s nx lo hi=false:=by
 cases hb:xA s nx lo hi with
 |false=>rfl
 |true=>unfold xA at hb;simp at hb;exact absurd ⟨hb.1.1,hb.1.2,hb.2⟩ h
end Pro
theorem qE (b:Nat)(s:ByteArray)(nx p:Nat)(ch:Int)(w:World)(h:MacAt w b s nx p ch)(hs:s.size≤400)(hn:nx<s.size) :
  Calls Tryz.prog 172 #[.pointer (some ⟨b,0,none⟩)] w fun x w'=>x = .returned (.int .u8 (zd s nx))∧MacAt w' b s (nx+1) p (Pro.yI (zd s nx))∧Only (zl b) w w':=by
 have H:=ze h
 obtain ⟨c0,c1,c2,c3,f1,f2,f3⟩:=h
 have hb0:=(zw s nx).2 hn
 have hb1:=ye s nx
 have hix:∀ wx,(Instr.index 9 (.string s) (.int .i64 (nx:Int))).run Tryz.prog wx = .ok (.int .u8 (zd s nx)) wx:=fun wx=>kH s nx hn _ rfl wx
 have hcs:(zd s nx<128∧Hid (Pro.yI (zd s nx)=zd s nx))∨(128≤zd s nx∧zd s nx<224∧Hid (Pro.yI (zd s nx)=zd s nx % 32))∨(128≤zd s nx∧224≤zd s nx∧zd s nx<240∧Hid (Pro.yI (zd s nx)=zd s nx % 16))∨(128≤zd s nx∧224≤zd s nx∧240≤zd s nx∧Hid (Pro.yI (zd s nx)=zd s nx % 8)):=by
  unfold Pro.yI
  by_cases h1:zd s nx<128
  ·left;rw [if_pos h1];exact ⟨h1,rfl⟩
  ·right
   rw [if_neg h1]
   by_cases h2:zd s nx<224
   ·left;rw [if_pos h2];exact ⟨by omega,h2,rfl⟩
   ·right
    rw [if_neg h2]
    by_cases h3:zd s nx<240
    ·left;rw [if_pos h3];exact ⟨by omega,by omega,h3,rfl⟩
    ·right;rw [if_neg h3];exact ⟨by omega,by omega,by omega,rfl⟩
 have e31:=u8_and31 (zd s nx) hb0 (by omega)
 have e15:=u8_and15 (zd s nx) hb0 (by omega)
 have e7:=u8_and7 (zd s nx) hb0 (by omega)
 have hcv:IntKind.i32.wrap (zd s nx)=zd s nx:=wraps_i32 _ hb0 (by omega)
 rcases hcs with ⟨k1,HL⟩ |⟨k1,k2,HL⟩ |⟨k1,k2,k3,HL⟩ |⟨k1,k2,k3,HL⟩
 all_goals
  go_enter Tryz.func172,Tryz.ntmps172
  go_wp2_with fail
  go_quiet (fail)
  go_wp2_with fail
  go_ret
  refine ⟨rfl,(((zb H).drewN _).set1 (nx+1) _ (by omega)).set3 _ _ ?_,(((Only.refl _ _).drewN _).mine _ _).mine _ _⟩
  rw [zb HL]
  try rw [wraps_i32 _ (by omega) (by omega)]
theorem xB (b:Nat)(s:ByteArray)(nx p:Nat)(ch lo hi:Int)(w:World)(h:MacAt w b s nx p ch)(hs:s.size≤400)(hn:nx≤s.size)(hc0:0≤ch)(hc1:ch<33554432)(hl:128≤lo)(hh:hi≤191) :
  Calls Tryz.prog 173 #[.pointer (some ⟨b,0,none⟩),.int .u8 lo,.int .u8 hi] w fun x w'=>Only (zl b) w w'∧((Pro.xA s nx lo hi=true∧x = .returned (.bool true)∧MacAt w' b s (nx+1) p (ch*64+zd s nx-128))∨(Pro.xA s nx lo hi=false∧x = .returned (.bool false)∧MacAt w' b s nx p ch)):=by
 have H:=ze h
 obtain ⟨c0,c1,c2,c3,f1,f2,f3⟩:=h
 by_cases hlt:nx<s.size
 ·have he:((nx:Int) == (s.size:Int))=false:=by simp;omega
  have hb0:=(zw s nx).2 hlt
  have hb1:=ye s nx
  have hix:∀ wx,(Instr.index 9 (.string s) (.int .i64 (nx:Int))).run Tryz.prog wx = .ok (.int .u8 (zd s nx)) wx:=fun wx=>kH s nx hlt _ rfl wx
  by_cases h1:zd s nx<lo
  ·have HB:Hid (Pro.xA s nx lo hi=false):=Pro.Qn (by omega)
   go_enter Tryz.func173,Tryz.ntmps173
   go_wp2_with fail
   go_quiet (fail)
   go_wp2_with fail
   go_quiet (fail)
   go_wp2_with fail
   go_ret
   exact ⟨by first |exact (Only.refl _ _).drewN _ |exact ((Only.refl _ _).drewN _).drewN _,.inr ⟨zb HB,rfl,by first |exact (zb H).drewN _ |exact ((zb H).drewN _).drewN _⟩⟩
  ·by_cases h2:hi<zd s nx
   ·have HB:Hid (Pro.xA s nx lo hi=false):=Pro.Qn (by omega)
    go_enter Tryz.func173,Tryz.ntmps173
    go_wp2_with fail
    go_quiet (fail)
    go_wp2_with fail
    go_quiet (fail)
    go_wp2_with fail
    go_ret
    exact ⟨by first |exact (Only.refl _ _).drewN _ |exact ((Only.refl _ _).drewN _).drewN _,.inr ⟨zb HB,rfl,by first |exact (zb H).drewN _ |exact ((zb H).drewN _).drewN _⟩⟩
   ·have HB:Hid (Pro.xA s nx lo hi=true):=Pro.Jn hlt h1 h2
    have e63:=u8_and63 (zd s nx) hb0 (by omega)
    have hor:bits BinOp.or IntKind.i32 (ch*64) (zd s nx % 64)=ch*64+zd s nx-128:=by
     rw [i32_or6 (ch*64) (zd s nx % 64) (by omega) (by omega) (by omega) (by omega) (by omega)];omega
    go_enter Tryz.func173,Tryz.ntmps173
    go_wp2_with fail
    go_quiet (fail)
    go_wp2_with fail
    go_quiet (fail)
    go_wp2_with fail
    go_ret
    exact ⟨(((Only.refl _ _).drewN _).mine _ _).mine _ _,.inl ⟨zb HB,rfl,(((zb H).drewN _).set1 (nx+1) _ (by omega)).set3 _ _ rfl⟩⟩
 ·have he:((nx:Int) == (s.size:Int))=true:=by simp;omega
  have HB:Hid (Pro.xA s nx lo hi=false):=Pro.Qn (by omega)
  go_enter Tryz.func173,Tryz.ntmps173
  go_wp2_with fail
  go_quiet (fail)
  go_wp2_with fail
  go_ret
  exact ⟨(Only.refl _ _).drewN _,.inr ⟨zb HB,rfl,(zb H).drewN _⟩⟩
end
end Go.Proofs.YtnagphodmfejiaaGreatDoor
