/- The program's classes in memory; a range read into one. -/
import Derived.Test.YtnagphodmfejiaaGreatDoorXProGProL
namespace Go.Proofs.YtnagphodmfejiaaGreatDoor
section
open Go.RowKit
set_option maxHeartbeats 2000000
set_option maxRecDepth 1000000
def rangeCells:List (Int×Int)→List Value
 | []=>[]
 |(a,b) :: r=>.int .i32 a :: .int .i32 b :: rangeCells r
theorem kf:∀ (l r:List (Int×Int)),rangeCells (l++r)=rangeCells l++rangeCells r
 | [],r=>rfl
 |(a,b) :: l,r=>by simp only [List.cons_append,rangeCells,kf l r]
def qr (l:List Int):List Value:=l.map (Value.int .i32)
structure ClassAt (w:World)(cb:Nat)(neg:Bool)(R:List (Int×Int))(S:List Int)(v1 v2:Value):Prop where
 k0:w.cell? ⟨cb,0,none⟩=some (.bool neg)
 k1:w.cell? ⟨cb,1,none⟩=some v1
 k2:w.cell? ⟨cb,2,none⟩=some v2
 o1:w.ownsRow (cb+1) 368 2 v1 R.length (rangeCells R)
 o2:w.ownsRow (cb+1) 246 1 v2 S.length (qr S)
 f1:w.frozen? ⟨cb,1,none⟩=false
 f2:w.frozen? ⟨cb,2,none⟩=false
theorem ClassAt.lt {w:World}{cb:Nat}{neg:Bool}{R:List (Int×Int)}{S:List Int}{v1 v2:Value}(h:ClassAt w cb neg R S v1 v2):cb<w.heap.size:=World.block_lt_of_cell? w ⟨cb,0,none⟩ h.k0
theorem ClassAt.keep {P:Nat→Prop}{w w':World}{cb:Nat}{neg:Bool}{R:List (Int×Int)}{S:List Int}{v1 v2:Value}(h:ClassAt w cb neg R S v1 v2)(k:Only P w w')(hn:∀ g,cb≤g→¬P g):ClassAt w' cb neg R S v1 v2:=
 ⟨(k.cell (p:=⟨cb,0,none⟩) h.lt (hn _ (Nat.le_refl _))).trans h.k0,(k.cell (p:=⟨cb,1,none⟩) h.lt (hn _ (Nat.le_refl _))).trans h.k1,(k.cell (p:=⟨cb,2,none⟩) h.lt (hn _ (Nat.le_refl _))).trans h.k2,
  zo h.o1 k (fun g hg=>hn g (by have:=(zg h.o1 g hg).1;omega)),zo h.o2 k (fun g hg=>hn g (by have:=(zg h.o2 g hg).1;omega)),
  (k.frozen (p:=⟨cb,1,none⟩) h.lt (hn _ (Nat.le_refl _))).trans h.f1,(k.frozen (p:=⟨cb,2,none⟩) h.lt (hn _ (Nat.le_refl _))).trans h.f2⟩
theorem Tryz.infoRange:(Tryz.prog.info? 368).map (fun i=>(i.zero,i.size,i.bytes))=some (some (.agg #[.int .i32 0,.int .i32 0]),2,8):=by kernel_rfl
theorem Tryz.infoShort:(Tryz.prog.info? 246).map (fun i=>(i.zero,i.size,i.bytes))=some (some (.int .i32 0),1,4):=by kernel_rfl
theorem Tryz.isChar (v:Value)(w:World):(Instr.typeAssert (.iface 245 v) 90 245 true).run Tryz.prog w = .ok (.tuple #[v,.bool true]) w:=by kernel_rfl
theorem Tryz.notChar (v:Value)(w:World):(Instr.typeAssert (.iface 246 v) 90 245 true).run Tryz.prog w = .ok (.tuple #[.int .i32 0,.bool false]) w:=by kernel_rfl
theorem Tryz.isMany (v:Value)(w:World):(Instr.typeAssert (.iface 246 v) 90 246 true).run Tryz.prog w = .ok (.tuple #[v,.bool true]) w:=by kernel_rfl
theorem Trk.join {cb:Nat}{w0 w w':World}{b:Nat}{L:List (Int×Int)}{n m:Nat}{len dp:Int}{a:Nat→Addr}(t:Trk cb w0 b L n len dp a w)(T:Trk w.heap.size w b L m len dp a w'):Trk cb w0 b L m len dp a w':=t.mine (Own.to T.on) T.rd
theorem ClassAt.step {cb:Nat}{w w':World}{b:Nat}{L:List (Int×Int)}{m:Nat}{len dp:Int}{a:Nat→Addr}{neg:Bool}{R:List (Int×Int)}{S:List Int}{v1 v2:Value}(h:ClassAt w cb neg R S v1 v2)(hbc:b<cb)(T:Trk w.heap.size w b L m len dp a w'):ClassAt w' cb neg R S v1 v2:=
 h.keep (Own.to T.on) (fun g hg e=>by unfold zl at e;omega)
theorem Trk.push {cb:Nat}{w0 w w':World}{b:Nat}{L:List (Int×Int)}{n:Nat}{len dp:Int}{a:Nat→Addr}(t:Trk cb w0 b L n len dp a w)(k:Only (fun g=>cb≤g) w w'):Trk cb w0 b L n len dp a w':=
 have hb:=t.hb
 have hl:=t.lt
 ⟨t.rd.keep k (by show ¬cb≤b;omega) (fun g hg=>by show ¬cb≤g;omega),t.se.keep k (fun j hj=>by show ¬cb≤j;omega),t.on.trans (k.mono (fun _ _ h=>.inr h)),hb,hl,t.le⟩
theorem ClassAt.push1 {w W w':World}{cb:Nat}{neg:Bool}{R:List (Int×Int)}{S:List Int}{v1 v2 v':Value}{x y:Int}(h:ClassAt w cb neg R S v1 v2)(hW:Only (fun _=>False) w W)(_hoW:W.ownsRow (cb+1) 368 2 v1 R.length (rangeCells R))(hg:W.grownBy w' v1.ownBlock)
  (ho:w'.ownsRow (cb+1) 368 2 v' (R.length+1) (rangeCells R++[.int .i32 x,.int .i32 y])):ClassAt (w'.setCell ⟨cb,1,none⟩ v') cb neg (R++[(x,y)]) S v' v2∧Only (fun g=>cb≤g) w (w'.setCell ⟨cb,1,none⟩ v'):=by
 have hlt:=h.lt
 have k:Only (fun g=>v1.ownBlock=some g) w w':=(hW.mono (fun _ _ f=>f.elim)).trans (Only.ofGrown hg)
 have hn:¬(v1.ownBlock=some cb):=fun e=>by have:=(zg h.o1 cb e).1;omega
 have c0:=(k.cell (p:=⟨cb,0,none⟩) hlt hn).trans h.k0
 have c1:=(k.cell (p:=⟨cb,1,none⟩) hlt hn).trans h.k1
 have c2:=(k.cell (p:=⟨cb,2,none⟩) hlt hn).trans h.k2
 have f1:=(k.frozen (p:=⟨cb,1,none⟩) hlt hn).trans h.f1
 have f2:=(k.frozen (p:=⟨cb,2,none⟩) hlt hn).trans h.f2
 have hS:Only (fun g=>g=cb) w' (w'.setCell ⟨cb,1,none⟩ v'):=(Only.refl (fun g=>g=cb) w').setCell (p:=⟨cb,1,none⟩) (.inl rfl) v'
 have o2:w'.ownsRow (cb+1) 246 1 v2 S.length (qr S):=zo h.o2 k (fun g hg1 hg2=>qy h.o2 h.o1 (by decide) g hg1 hg2)
 refine ⟨⟨(World.cell?_setCell_other _ _ _ _ (by simp)).trans c0,World.cell?_setCell_same _ _ _ c1,(World.cell?_setCell_other _ _ _ _ (by simp)).trans c2,?_,?_,(zi _ _ _ _).trans f1,(zi _ _ _ _).trans f2⟩,?_⟩
 ·rw [kf,List.length_append]
  exact zo ho hS (fun g hg1 e=>by have:=(zg ho g hg1).1;omega)
 ·exact zo o2 hS (fun g hg1 e=>by have:=(zg o2 g hg1).1;omega)
 ·exact (k.mono (fun g _ e=>by have:=(zg h.o1 g e).1;show cb≤g;omega)).trans (hS.mono (fun g _ e=>by show cb≤g;omega))
theorem ClassAt.push2 {w W w':World}{cb:Nat}{neg:Bool}{R:List (Int×Int)}{S:List Int}{v1 v2 v':Value}{x:Int}(h:ClassAt w cb neg R S v1 v2)(hW:Only (fun _=>False) w W)(_hoW:W.ownsRow (cb+1) 246 1 v2 S.length (qr S))(hg:W.grownBy w' v2.ownBlock)
  (ho:w'.ownsRow (cb+1) 246 1 v' (S.length+1) (qr S++[.int .i32 x])):ClassAt (w'.setCell ⟨cb,2,none⟩ v') cb neg R (S++[x]) v1 v'∧Only (fun g=>cb≤g) w (w'.setCell ⟨cb,2,none⟩ v'):=by
 have hlt:=h.lt
 have k:Only (fun g=>v2.ownBlock=some g) w w':=(hW.mono (fun _ _ f=>f.elim)).trans (Only.ofGrown hg)
 have hn:¬(v2.ownBlock=some cb):=fun e=>by have:=(zg h.o2 cb e).1;omega
 have c0:=(k.cell (p:=⟨cb,0,none⟩) hlt hn).trans h.k0
 have c1:=(k.cell (p:=⟨cb,1,none⟩) hlt hn).trans h.k1
 have c2:=(k.cell (p:=⟨cb,2,none⟩) hlt hn).trans h.k2
 have f1:=(k.frozen (p:=⟨cb,1,none⟩) hlt hn).trans h.f1
 have f2:=(k.frozen (p:=⟨cb,2,none⟩) hlt hn).trans h.f2
 have hS:Only (fun g=>g=cb) w' (w'.setCell ⟨cb,2,none⟩ v'):=(Only.refl (fun g=>g=cb) w').setCell (p:=⟨cb,2,none⟩) (.inl rfl) v'
 have o1:w'.ownsRow (cb+1) 368 2 v1 R.length (rangeCells R):=zo h.o1 k (fun g hg1 hg2=>qy h.o1 h.o2 (by decide) g hg1 hg2)
 refine ⟨⟨(World.cell?_setCell_other _ _ _ _ (by simp)).trans c0,(World.cell?_setCell_other _ _ _ _ (by simp)).trans c1,World.cell?_setCell_same _ _ _ c2,?_,?_,(zi _ _ _ _).trans f1,(zi _ _ _ _).trans f2⟩,?_⟩
 ·exact zo o1 hS (fun g hg1 e=>by have:=(zg o1 g hg1).1;omega)
 ·unfold qr at ho ⊢
  rw [List.map_append,List.length_append]
  exact zo ho hS (fun g hg1 e=>by have:=(zg ho g hg1).1;omega)
 ·exact (k.mono (fun g _ e=>by have:=(zg h.o2 g e).1;show cb≤g;omega)).trans (hS.mono (fun g _ e=>by show cb≤g;omega))
theorem ClassAt.cells {w W w':World}{cb:Nat}{neg:Bool}{R:List (Int×Int)}{S:List Int}{v1 v2:Value}{o:Option Nat}(h:ClassAt w cb neg R S v1 v2)(hW:Only (fun _=>False) w W)(hg:W.grownBy w' o)(hn:¬(o=some cb)):w'.cell? ⟨cb,1,none⟩=some v1∧w'.cell? ⟨cb,2,none⟩=some v2∧w'.frozen? ⟨cb,1,none⟩=false∧w'.frozen? ⟨cb,2,none⟩=false:=by
 have hlt:=h.lt
 have k:Only (fun g=>o=some g) w w':=(hW.mono (fun _ _ f=>f.elim)).trans (Only.ofGrown hg)
 exact ⟨(k.cell (p:=⟨cb,1,none⟩) hlt hn).trans h.k1,(k.cell (p:=⟨cb,2,none⟩) hlt hn).trans h.k2,(k.frozen (p:=⟨cb,1,none⟩) hlt hn).trans h.f1,(k.frozen (p:=⟨cb,2,none⟩) hlt hn).trans h.f2⟩
theorem ClassAt.n1 {w:World}{cb:Nat}{neg:Bool}{R:List (Int×Int)}{S:List Int}{v1 v2:Value}(h:ClassAt w cb neg R S v1 v2):¬(v1.ownBlock=some cb):=fun e=>by have:=(zg h.o1 cb e).1;omega
theorem ClassAt.n2 {w:World}{cb:Nat}{neg:Bool}{R:List (Int×Int)}{S:List Int}{v1 v2:Value}(h:ClassAt w cb neg R S v1 v2):¬(v2.ownBlock=some cb):=fun e=>by have:=(zg h.o2 cb e).1;omega
def Adds (b:Nat)(L:List (Int×Int))(len dp:Int)(a:Nat→Addr)(cb:Nat)(w0:World)(o:Pro.Out)(neg:Bool)(R:List (Int×Int))(S:List Int)(x:Ending)(w':World):Prop:=
 Trk cb w0 b L o.n len dp a w'∧((o.k=0∧x = .returned .nilIface∧∃ v1 v2,ClassAt w' cb neg R S v1 v2)∨(o.k≠0∧∃ v,x = .returned v∧FaultAt w' w0.heap.size v (zS a o.k) o.p))
namespace Pro
theorem wF {L:List (Int×Int)}{n:Nat}(h:qD L n=true):zh L n=45∧zh L (n+1)≠93∧zh L (n+1)≠-1:=by
 unfold qD at h;simpa [and_assoc] using h
theorem ZV {L:List (Int×Int)}{n:Nat}(h:zh L n≠-1):n<L.length:=by
 by_cases hn:n<L.length
 ·exact hn
 ·exact absurd (xp (by omega)) h
end Pro
theorem JS (b:Nat)(L:List (Int×Int))(n:Nat)(len dp:Int)(a:Nat→Addr)(cb:Nat)(w0 w:World)(neg:Bool)(R:List (Int×Int))(S:List Int)(v1 v2:Value)(m:Bool)(c:Int)(t:Trk cb w0 b L n len dp a w)(hC:ClassAt w cb neg R S v1 v2)(hL:L.length≤400)(hd:Pro.qD L n=true)(hF:Pro.Fit L)(hR:R.length≤400) :
  Calls Tryz.prog 266 #[.pointer (some ⟨b,0,none⟩),.pointer (some ⟨cb,0,none⟩),oneV m c] w (Adds b L len dp a cb w0 (Pro.xl L len m c n) neg (R++[(c,(Pro.zj L len (n+1)).v)]) S):=by
 obtain ⟨i0,hi,hz0,hz1,hz2⟩:=info_parts Tryz.infoRange
 have hdd:=Pro.wF hd
 have hn1:n+1<L.length:=Pro.ZV hdd.2.2
 clear hd hdd
 have T0:=ze t
 have T:=ze (Trk.start t.rd t.se t.hb)
 have hsz:=t.on.size
 have hbc:=t.lt
 have c1:=t.c1
 have f1:=t.f1
 have HC:=ze hC
 have hs4:=t.se.s4
 have hgen:∀ X:Value,X=oneV m c→Calls Tryz.prog 266 #[.pointer (some ⟨b,0,none⟩),.pointer (some ⟨cb,0,none⟩),X] w (Adds b L len dp a cb w0 (Pro.xl L len m c n) neg (R++[(c,(Pro.zj L len (n+1)).v)]) S):=by
  intro X hX
  by_cases hk:(Pro.zj L len (n+1)).k=0
  ·by_cases hbad:m=true∨Pro.many L (n+1)=true∨(Pro.zj L len (n+1)).v<c
   ·have HO:Hid (Pro.xl L len m c n=Pro.bad 4 (Pro.zB L len n) (Pro.zj L len (n+1)).n):=by unfold Pro.xl;rw [if_neg (by simp [hk]),if_pos hbad];rfl
    clear t hC
    have hcs:(X = .iface 246 (.int .i32 c))∨(X = .iface 245 (.int .i32 c)∧oneV (Pro.many L (n+1)) (Pro.zj L len (n+1)).v = .iface 246 (.int .i32 (Pro.zj L len (n+1)).v))∨
      (X = .iface 245 (.int .i32 c)∧oneV (Pro.many L (n+1)) (Pro.zj L len (n+1)).v = .iface 245 (.int .i32 (Pro.zj L len (n+1)).v)∧(Pro.zj L len (n+1)).v<c):=by
     cases m with
     |true=>left;exact hX
     |false=>
      right
      cases hmm:Pro.many L (n+1) with
      |true=>left;exact ⟨hX,rfl⟩
      |false=>right;exact ⟨hX,rfl,by rw [hmm] at hbad;simpa using hbad⟩
    clear hbad hX
    have a1:=Tryz.isChar
    have a2:=Tryz.notChar
    rcases hcs with rfl |⟨rfl,hv2⟩ |⟨rfl,hv2,hlt⟩
    ·cases hmm:Pro.many L (n+1)
     ·have hv2:oneV false (Pro.zj L len (n+1)).v = .iface 245 (.int .i32 (Pro.zj L len (n+1)).v):=rfl
      go_enter Tryz.func266,Tryz.ntmps266
      go_wp2_with (first |(go_at_call 103;refine (yF (n:=n) (by exact zb T) hL (by omega)).mono ?_;rintro e wq ⟨rfl,qq,rfl⟩) |(go_at_call 264;refine (qo (n:=n+1) (by exact ((zb T).drewN _).setN _ _ (by omega)) (xr b L (n+1) len dp a _ (Trk.rd (n:=n+1) (by exact ((zb T).drewN _).setN _ _ (by omega))) (Trk.se (n:=n+1) (by exact ((zb T).drewN _).setN _ _ (by omega))) (zb T).hb hL (by omega) hF)).mono ?_;rintro e wq ⟨tq,hT⟩;obtain rfl:=z9 hT hk;clear hT;have T:=ze tq;have c1:=tq.c1;have f1:=tq.f1);(have hs4:=(zb T).se.s4) |(go_at_call 56;refine (YF (n:=(Pro.zj L len (n+1)).n) _ 4 _ _ rfl (by exact zb T)).mono ?_;rintro e wq ⟨v,rfl,hv,tq⟩;have T:=ze tq;have c1:=tq.c1;have f1:=tq.f1))
      go_ret
      rw [zb HO]
      exact ⟨(zb T0).join (zb T),.inr ⟨(show (4:Nat)≠0 by decide),_,rfl,hv.base hsz⟩⟩
     ·have hv2:oneV true (Pro.zj L len (n+1)).v = .iface 246 (.int .i32 (Pro.zj L len (n+1)).v):=rfl
      go_enter Tryz.func266,Tryz.ntmps266
      go_wp2_with (first |(go_at_call 103;refine (yF (n:=n) (by exact zb T) hL (by omega)).mono ?_;rintro e wq ⟨rfl,qq,rfl⟩) |(go_at_call 264;refine (qo (n:=n+1) (by exact ((zb T).drewN _).setN _ _ (by omega)) (xr b L (n+1) len dp a _ (Trk.rd (n:=n+1) (by exact ((zb T).drewN _).setN _ _ (by omega))) (Trk.se (n:=n+1) (by exact ((zb T).drewN _).setN _ _ (by omega))) (zb T).hb hL (by omega) hF)).mono ?_;rintro e wq ⟨tq,hT⟩;obtain rfl:=z9 hT hk;clear hT;have T:=ze tq;have c1:=tq.c1;have f1:=tq.f1);(have hs4:=(zb T).se.s4) |(go_at_call 56;refine (YF (n:=(Pro.zj L len (n+1)).n) _ 4 _ _ rfl (by exact zb T)).mono ?_;rintro e wq ⟨v,rfl,hv,tq⟩;have T:=ze tq;have c1:=tq.c1;have f1:=tq.f1))
      go_ret
      rw [zb HO]
      exact ⟨(zb T0).join (zb T),.inr ⟨(show (4:Nat)≠0 by decide),_,rfl,hv.base hsz⟩⟩
    all_goals
     go_enter Tryz.func266,Tryz.ntmps266
     go_wp2_with (first |(go_at_call 103;refine (yF (n:=n) (by exact zb T) hL (by omega)).mono ?_;rintro e wq ⟨rfl,qq,rfl⟩) |(go_at_call 264;refine (qo (n:=n+1) (by exact ((zb T).drewN _).setN _ _ (by omega)) (xr b L (n+1) len dp a _ (Trk.rd (n:=n+1) (by exact ((zb T).drewN _).setN _ _ (by omega))) (Trk.se (n:=n+1) (by exact ((zb T).drewN _).setN _ _ (by omega))) (zb T).hb hL (by omega) hF)).mono ?_;rintro e wq ⟨tq,hT⟩;obtain rfl:=z9 hT hk;clear hT;have T:=ze tq;have c1:=tq.c1;have f1:=tq.f1);(have hs4:=(zb T).se.s4) |(go_at_call 56;refine (YF (n:=(Pro.zj L len (n+1)).n) _ 4 _ _ rfl (by exact zb T)).mono ?_;rintro e wq ⟨v,rfl,hv,tq⟩;have T:=ze tq;have c1:=tq.c1;have f1:=tq.f1))
     go_ret
     rw [zb HO]
     exact ⟨(zb T0).join (zb T),.inr ⟨(show (4:Nat)≠0 by decide),_,rfl,hv.base hsz⟩⟩
   ·have HO:Hid (Pro.xl L len m c n=Pro.zj L len (n+1)):=by unfold Pro.xl;rw [if_neg (by simp [hk]),if_neg hbad];rfl
    have hm0:m=false:=by cases m with |true=>exact absurd (.inl rfl) hbad |false=>rfl
    have hmm:Pro.many L (n+1)=false:=by cases hh:Pro.many L (n+1) with |true=>exact absurd (.inr (.inl hh)) hbad |false=>rfl
    have hge:c≤(Pro.zj L len (n+1)).v:=by by_cases hh:(Pro.zj L len (n+1)).v<c;exact absurd (.inr (.inr hh)) hbad;omega
    subst hm0
    have hX':X = .iface 245 (.int .i32 c):=hX
    clear hX
    subst hX'
    have hv2:oneV false (Pro.zj L len (n+1)).v = .iface 245 (.int .i32 (Pro.zj L len (n+1)).v):=rfl
    have a1:=Tryz.isChar
    clear hbad t hC
    go_enter Tryz.func266,Tryz.ntmps266
    go_wp2_with (first |(go_at_call 103;refine (yF (n:=n) (by exact zb T) hL (by omega)).mono ?_;rintro e wq ⟨rfl,qq,rfl⟩) |(go_at_call 264;refine (qo (n:=n+1) (by exact ((zb T).drewN _).setN _ _ (by omega)) (xr b L (n+1) len dp a _ (Trk.rd (n:=n+1) (by exact ((zb T).drewN _).setN _ _ (by omega))) (Trk.se (n:=n+1) (by exact ((zb T).drewN _).setN _ _ (by omega))) (zb T).hb hL (by omega) hF)).mono ?_;rintro e wq ⟨tq,hT⟩;obtain rfl:=z9 hT hk;clear hT;have T:=ze tq;have c1:=tq.c1;have f1:=tq.f1);(have hC1:=(zb HC).step hbc (zb T));(have k1:=hC1.k1);(have q1:=hC1.f1);(have ho1:=hC1.o1);(obtain ⟨sa,sn,sc,rfl⟩:=zq ho1);(have hlc:=hC1.lt);(have HC1:=ze hC1);(clear hC1);(have Ho1:=ze ho1);(clear ho1) |(at_builtin;refine wpList_append_own _ rfl _ _ 247 rfl (cb+1) 368 i0 (.agg #[.int .i32 0,.int .i32 0]) 2 8 Tryz.underlying247 hi hz0 hz1 hz2 rfl (by decide) _ _ _ rfl (World.ownsRow.alloc (zb Ho1) _) _ 1 1 [.int .i32 c,.int .i32 (Pro.zj L len (n+1)).v] rfl rfl (cell_two_new _ _ _ _) (fun x hx=>by simp at hx;rcases hx with rfl |rfl<;>rfl) (by unfold maxLen;omega) (by omega) (by simp;omega) ?_;intro v' w8 hown' hgrow hnil;obtain ⟨pa,pn,pc,rfl⟩:=zq hown';have hcs8:=(zb HC1).cells ((Only.refl _ _).alloc _) hgrow (zb HC1).n1;have HP:=ze ((zb HC1).push1 ((Only.refl _ _).alloc _) (World.ownsRow.alloc (zb Ho1) _) hgrow hown');clear hown' hgrow hnil;obtain ⟨z1,z2,z3,z4⟩:=hcs8))
    go_ret
    rw [zb HO]
    exact ⟨((zb T0).join (zb T)).push (zb HP).2,.inl ⟨hk,rfl,_,_,(zb HP).1⟩⟩
  ·have HO:Hid (Pro.xl L len m c n=Pro.zj L len (n+1)):=by unfold Pro.xl;rw [if_pos hk];rfl
   clear t hC
   go_enter Tryz.func266,Tryz.ntmps266
   go_wp2_with (first |(go_at_call 103;refine (yF (n:=n) (by exact zb T) hL (by omega)).mono ?_;rintro e wq ⟨rfl,qq,rfl⟩) |(go_at_call 264;refine (qo (n:=n+1) (by exact ((zb T).drewN _).setN _ _ (by omega)) (xr b L (n+1) len dp a _ (Trk.rd (n:=n+1) (by exact ((zb T).drewN _).setN _ _ (by omega))) (Trk.se (n:=n+1) (by exact ((zb T).drewN _).setN _ _ (by omega))) (zb T).hb hL (by omega) hF)).mono ?_;rintro e wq ⟨tq,hT⟩;obtain ⟨v,rfl,hv⟩:=qu hT hk;obtain ⟨gv,hgv⟩:=hv.form;subst hgv;clear hT;have T:=ze tq;have c1:=tq.c1;have f1:=tq.f1);(have hs4:=(zb T).se.s4) |(go_at_call 56;refine (YF (n:=(Pro.zj L len (n+1)).n) _ 4 _ _ rfl (by exact zb T)).mono ?_;rintro e wq ⟨v,rfl,hv,tq⟩;have T:=ze tq;have c1:=tq.c1;have f1:=tq.f1))
   go_ret
   rw [zb HO]
   exact ⟨(zb T0).join (zb T),.inr ⟨hk,_,rfl,hv.base hsz⟩⟩
 exact hgen _ rfl
set_option maxHeartbeats 4000000
namespace Pro
def addR (L:List (Int×Int))(len:Int)(n:Nat)(R:List (Int×Int)):List (Int×Int):=
 if qD L (zj L len n).n=true then R++[((zj L len n).v,(zj L len ((zj L len n).n+1)).v)]
 else if many L n=true then R else R++[((zj L len n).v,(zj L len n).v)]
def addS (L:List (Int×Int))(len:Int)(n:Nat)(S:List Int):List Int:=
 if qD L (zj L len n).n=true then S else if many L n=true then S++[(zj L len n).v] else S
end Pro
theorem adds_ret {A B C:Prop}{D:Value→Prop}{x:Ending}(h:(A∧x = .returned .nilIface∧B)∨(C∧∃ v,x = .returned v∧D v)):∃ v,x = .returned v:=by
 rcases h with ⟨_,h,_⟩ |⟨_,v,h,_⟩
 ·exact ⟨_,h⟩
 ·exact ⟨v,h⟩
theorem wZ (b:Nat)(L:List (Int×Int))(n:Nat)(len dp:Int)(a:Nat→Addr)(cb:Nat)(w0 w:World)(neg:Bool)(R:List (Int×Int))(S:List Int)(v1 v2:Value)(t:Trk cb w0 b L n len dp a w)(hC:ClassAt w cb neg R S v1 v2)(hL:L.length≤400)(hn:n<L.length)(hnm:(Pro.zj L len n).n≤450)(hF:Pro.Fit L)(hR:R.length≤400)(hS:S.length≤400) :
  Calls Tryz.prog 243 #[.pointer (some ⟨b,0,none⟩),.pointer (some ⟨cb,0,none⟩)] w (Adds b L len dp a cb w0 (Pro.addO L len n) neg (Pro.addR L len n R) (Pro.addS L len n S)):=by
 obtain ⟨i0,hi,hz0,hz1,hz2⟩:=info_parts Tryz.infoRange
 obtain ⟨j0,hj,hy0,hy1,hy2⟩:=info_parts Tryz.infoShort
 have T0:=ze t
 have T:=ze (Trk.start t.rd t.se t.hb)
 have hsz:=t.on.size
 have hbc:=t.lt
 have HC:=ze hC
 by_cases hk:(Pro.zj L len n).k=0
 ·cases hd:Pro.qD L (Pro.zj L len n).n
  ·have HO:Hid (Pro.addO L len n=Pro.zj L len n):=by unfold Pro.addO;rw [if_neg (by simp [hk]),if_neg (by simp [hd])];rfl
   have a1:=Tryz.isChar
   have a2:=Tryz.notChar
   have a3:=Tryz.isMany
   clear t hC
   cases hm:Pro.many L n
   ·have HR:Hid (Pro.addR L len n R=R++[((Pro.zj L len n).v,(Pro.zj L len n).v)]):=by unfold Pro.addR;rw [hd,hm];rfl
    have HSS:Hid (Pro.addS L len n S=S):=by unfold Pro.addS;rw [hd,hm];rfl
    have hv2:oneV false (Pro.zj L len n).v = .iface 245 (.int .i32 (Pro.zj L len n).v):=rfl
    go_enter Tryz.func243,Tryz.ntmps243
    go_wp2_with (first |(go_at_call 264;refine (qo (n:=n) (by exact zb T) (xr b L n len dp a _ (Trk.rd (n:=n) (by exact zb T)) (Trk.se (n:=n) (by exact zb T)) (zb T).hb hL (by omega) hF)).mono ?_;rintro e wq ⟨tq,hT⟩;obtain rfl:=z9 hT hk;clear hT;have T:=ze tq;have c1:=tq.c1;have f1:=tq.f1);(have hC1:=(zb HC).step hbc (zb T));(have k1:=hC1.k1);(have k2:=hC1.k2);(have q1:=hC1.f1);(have q2:=hC1.f2);(have ho1:=hC1.o1);(have ho2:=hC1.o2);(obtain ⟨sa,sn,sc,rfl⟩:=zq ho1);(obtain ⟨ua,un,uc,rfl⟩:=zq ho2);(have hlc:=hC1.lt);(have HC1:=ze hC1);(clear hC1);(have Ho1:=ze ho1);(clear ho1);(have Ho2:=ze ho2);(clear ho2) |(go_at_call 265;refine (vR b L (Pro.zj L len n).n len dp a _ _ _ (by exact zb T) hL (by omega)).mono ?_;rintro e wq ⟨rfl,hwq⟩;obtain rfl:=hwq.symm;clear hwq) |(at_builtin;refine wpList_append_own _ rfl _ _ 247 rfl (cb+1) 368 i0 (.agg #[.int .i32 0,.int .i32 0]) 2 8 Tryz.underlying247 hi hz0 hz1 hz2 rfl (by decide) _ _ _ rfl (World.ownsRow.alloc (zb Ho1) _) _ 1 1 [.int .i32 (Pro.zj L len n).v,.int .i32 (Pro.zj L len n).v] rfl rfl (cell_two_new _ _ _ _) (fun x hx=>by simp at hx;rcases hx with rfl |rfl<;>rfl) (by unfold maxLen;omega) (by omega) (by simp;omega) ?_;intro v' w8 hown' hgrow hnil;obtain ⟨pa,pn,pc,rfl⟩:=zq hown';have hcs8:=(zb HC1).cells ((Only.refl _ _).alloc _) hgrow (zb HC1).n1;have HP:=ze ((zb HC1).push1 ((Only.refl _ _).alloc _) (World.ownsRow.alloc (zb Ho1) _) hgrow hown');clear hown' hgrow hnil;obtain ⟨z1,z2,z3,z4⟩:=hcs8))
    go_ret
    rw [zb HO,zb HR,zb HSS]
    exact ⟨((zb T0).join (zb T)).push (zb HP).2,.inl ⟨hk,rfl,_,_,(zb HP).1⟩⟩
   ·have HR:Hid (Pro.addR L len n R=R):=by unfold Pro.addR;rw [hd,hm];rfl
    have HSS:Hid (Pro.addS L len n S=S++[(Pro.zj L len n).v]):=by unfold Pro.addS;rw [hd,hm];rfl
    have hv2:oneV true (Pro.zj L len n).v = .iface 246 (.int .i32 (Pro.zj L len n).v):=rfl
    go_enter Tryz.func243,Tryz.ntmps243
    go_wp2_with (first |(go_at_call 264;refine (qo (n:=n) (by exact zb T) (xr b L n len dp a _ (Trk.rd (n:=n) (by exact zb T)) (Trk.se (n:=n) (by exact zb T)) (zb T).hb hL (by omega) hF)).mono ?_;rintro e wq ⟨tq,hT⟩;obtain rfl:=z9 hT hk;clear hT;have T:=ze tq;have c1:=tq.c1;have f1:=tq.f1);(have hC1:=(zb HC).step hbc (zb T));(have k1:=hC1.k1);(have k2:=hC1.k2);(have q1:=hC1.f1);(have q2:=hC1.f2);(have ho1:=hC1.o1);(have ho2:=hC1.o2);(obtain ⟨sa,sn,sc,rfl⟩:=zq ho1);(obtain ⟨ua,un,uc,rfl⟩:=zq ho2);(have hlc:=hC1.lt);(have HC1:=ze hC1);(clear hC1);(have Ho1:=ze ho1);(clear ho1);(have Ho2:=ze ho2);(clear ho2) |(go_at_call 265;refine (vR b L (Pro.zj L len n).n len dp a _ _ _ (by exact zb T) hL (by omega)).mono ?_;rintro e wq ⟨rfl,hwq⟩;obtain rfl:=hwq.symm;clear hwq) |(at_builtin;refine wpList_append_own _ rfl _ _ 248 rfl (cb+1) 246 j0 (.int .i32 0) 1 4 Tryz.underlying248 hj hy0 hy1 hy2 rfl (by decide) _ _ _ rfl (World.ownsRow.alloc (zb Ho2) _) _ 1 1 [.int .i32 (Pro.zj L len n).v] rfl rfl (cell_one_new _ _ _) (fun x hx=>by simp at hx;subst hx;rfl) (by unfold maxLen;omega) (by omega) (by simp;omega) ?_;intro v' w8 hown' hgrow hnil;obtain ⟨pa,pn,pc,rfl⟩:=zq hown';have hcs8:=(zb HC1).cells ((Only.refl _ _).alloc _) hgrow (zb HC1).n2;have HP:=ze ((zb HC1).push2 ((Only.refl _ _).alloc _) (World.ownsRow.alloc (zb Ho2) _) hgrow hown');clear hown' hgrow hnil;obtain ⟨z1,z2,z3,z4⟩:=hcs8))
    go_ret
    rw [zb HO,zb HR,zb HSS]
    exact ⟨((zb T0).join (zb T)).push (zb HP).2,.inl ⟨hk,rfl,_,_,(zb HP).1⟩⟩
  ·have HO:Hid (Pro.addO L len n=Pro.xl L len (Pro.many L n) (Pro.zj L len n).v (Pro.zj L len n).n):=by unfold Pro.addO;rw [if_neg (by simp [hk]),if_pos hd];rfl
   have HR:Hid (Pro.addR L len n R=R++[((Pro.zj L len n).v,(Pro.zj L len ((Pro.zj L len n).n+1)).v)]):=by unfold Pro.addR;rw [hd];rfl
   have HSS:Hid (Pro.addS L len n S=S):=by unfold Pro.addS;rw [hd];rfl
   clear t hC
   go_enter Tryz.func243,Tryz.ntmps243
   go_wp2_with (first |(go_at_call 264;refine (qo (n:=n) (by exact zb T) (xr b L n len dp a _ (Trk.rd (n:=n) (by exact zb T)) (Trk.se (n:=n) (by exact zb T)) (zb T).hb hL (by omega) hF)).mono ?_;rintro e wq ⟨tq,hT⟩;obtain rfl:=z9 hT hk;clear hT;have T:=ze tq;have c1:=tq.c1;have f1:=tq.f1) |(go_at_call 265;refine (vR b L (Pro.zj L len n).n len dp a _ _ _ (by exact zb T) hL (by omega)).mono ?_;rintro e wq ⟨rfl,hwq⟩;obtain rfl:=hwq.symm;clear hwq) |(go_at_call 266;refine (JS b L (Pro.zj L len n).n len dp a cb w0 _ neg R S _ _ (Pro.many L n) (Pro.zj L len n).v ((zb T0).join (zb T)) ((zb HC).step hbc (zb T)) hL hd hF hR).mono ?_;intro e w9 HA;have HAA:=ze HA;obtain ⟨_,hA⟩:=HA;obtain ⟨xv,rfl⟩:=adds_ret hA;clear hA))
   go_ret
   rw [zb HO,zb HR,zb HSS]
   exact zb HAA
 ·have HO:Hid (Pro.addO L len n=Pro.zj L len n):=by unfold Pro.addO;rw [if_pos hk];rfl
  clear t hC
  go_enter Tryz.func243,Tryz.ntmps243
  go_wp2_with (go_at_call 264;refine (qo (n:=n) (by exact zb T) (xr b L n len dp a _ (Trk.rd (n:=n) (by exact zb T)) (Trk.se (n:=n) (by exact zb T)) (zb T).hb hL (by omega) hF)).mono ?_;rintro e wq ⟨tq,hT⟩;obtain ⟨v,rfl,hv⟩:=qu hT hk;obtain ⟨gv,hgv⟩:=hv.form;subst hgv;clear hT;have T:=ze tq;have c1:=tq.c1;have f1:=tq.f1)
  go_ret
  rw [zb HO]
  exact ⟨(zb T0).join (zb T),.inr ⟨hk,_,rfl,hv.base hsz⟩⟩
namespace Pro
section
variable {L:List (Int×Int)} {len:Int}
theorem zeroO_in (n:Nat)(h:n≤L.length):n≤(jy L len n).n∧(jy L len n).n≤L.length:=by rw [zeroO_n];omega
theorem K5 (n:Nat)(h:n≤L.length):n≤(xd L len n).n∧(xd L len n).n≤L.length:=by
 unfold xd
 split
 ·rename_i hl
  have:n<L.length:=zD (by unfold letter at hl;omega)
  simp only [good];omega
 ·simp only [bad];omega
theorem XS:∀ (f:Nat)(c:Int)(d n:Nat),n≤L.length→n≤(xe L len f c d n).n∧(xe L len f c d n).n≤L.length
 |0,c,d,n,h=>by simp only [xe,good];omega
 |f+1,c,d,n,h=>by
  by_cases h1:0<d∧zh L n=125
  ·rw [ku h1.1 h1.2]
   have:n<L.length:=zD (by omega)
   simp only [good];omega
  ·by_cases h2:hexV (zh L n)<0∨1114111<16*c+hexV (zh L n)
   ·rw [vM h1 h2];simp only [bad];omega
   ·rw [kX h1 h2]
    have:n<L.length:=ZQ (by omega)
    have:=XS f (16*c+hexV (zh L n)) (d+1) (n+1) (by omega)
    omega
theorem lowV_in (n:Nat)(h:0≤lowV L len n):n+6≤L.length:=by
 unfold lowV at h
 split at h
 ·rename_i hh
  have h1:n+1<L.length:=zD (by omega)
  have:=vN L len 4 0 (n+2) (by omega)
  have:=this.2.2 hh.2.2.1
  omega
 ·omega
theorem K6 (n:Nat)(h:n≤L.length):n≤(z8 L len n).n∧(z8 L len n).n≤L.length:=by
 have hx:=vN L len 4 0 n h
 unfold z8
 split
 ·omega
 ·split
  ·rename_i hl
   have:=lowV_in _ hl
   simp only [good];omega
  ·omega
theorem numO_in (n:Nat)(h:n≤L.length):n≤(numO L len n).n∧(numO L len n).n≤L.length:=by
 unfold numO
 split
 ·rename_i hs
  have:n<L.length:=by
   by_cases hlt:n<L.length
   ·exact hlt
   ·rw [xp (by omega)] at hs;exact absurd hs (by decide)
  simp only [good];omega
 split
 ·have:n<L.length:=zD (by omega)
  have:=zeroO_in (L:=L) (len:=len) (n+1) (by omega);omega
 split
 ·have:n<L.length:=zD (by omega)
  have:=K5 (L:=L) (len:=len) (n+1) (by omega);omega
 split
 ·have:n<L.length:=zD (by omega)
  have:=vN L len 2 0 (n+1) (by omega);omega
 split
 ·have:n+1<L.length:=zD (by omega)
  have:=XS (L:=L) (len:=len) (L.length+1-(n+2)) 0 0 (n+2) (by omega)
  unfold qG;omega
 split
 ·have:n<L.length:=zD (by omega)
  have:=K6 (L:=L) (len:=len) (n+1) (by omega);omega
 ·simp only [bad];omega
theorem JT (n:Nat)(h:n<L.length):n<(escO L len n).n∧(escO L len n).n≤L.length:=by
 unfold escO
 split
 ·rename_i hs
  have:n+1<L.length:=by
   by_cases hlt:n+1<L.length
   ·exact hlt
   ·rw [xp (by omega)] at hs;exact absurd hs (by decide)
  simp only [good];omega
 split
 ·simp only [bad];omega
 ·have:=numO_in (L:=L) (len:=len) (n+1) (by omega);omega
theorem qI (n:Nat)(h:n<L.length):n<(zj L len n).n∧(zj L len n).n≤L.length:=by
 unfold zj
 split
 ·have:n+1<L.length:=zD (by omega)
  simp only [good];omega
 split
 ·have:n+1<L.length:=zD (by omega)
  simp only [good];omega
 split
 ·exact JT n h
 ·simp only [good];omega
theorem zbB (m:Bool)(c:Int)(n:Nat)(h:qD L n=true):n<(xl L len m c n).n∧(xl L len m c n).n≤L.length:=by
 have hd:=wF h
 have h1:n+1<L.length:=ZV hd.2.2
 have:=qI (L:=L) (len:=len) (n+1) h1
 unfold xl
 split
 ·omega
 ·split
  ·simp only [bad];omega
  ·omega
theorem zao (n:Nat)(h:n<L.length):n<(addO L len n).n∧(addO L len n).n≤L.length:=by
 have:=qI (L:=L) (len:=len) n h
 unfold addO
 split
 ·omega
 ·split
  ·rename_i hd
   have:=zbB (len:=len) (many L n) (zj L len n).v _ hd
   omega
  ·omega
theorem addR_len (n:Nat)(R:List (Int×Int)):(addR L len n R).length≤R.length+1:=by
 unfold addR
 split
 ·simp
 ·split
  ·omega
  ·simp
theorem addS_len (n:Nat)(S:List Int):(addS L len n S).length≤S.length+1:=by
 unfold addS
 split
 ·omega
 ·split
  ·simp
  ·omega
theorem Ym:∀ (f n:Nat),n≤L.length→n≤(xP L len f n).n∧(xP L len f n).n≤L.length
 |0,n,h=>by simp only [xP,good];omega
 |f+1,n,h=>by
  simp only [xP]
  split
  ·have:n<L.length:=zD (by omega)
   simp only [good];omega
  split
  ·simp only [bad];omega
  ·have:=zao (L:=L) (len:=len) n (by omega)
   split
   ·omega
   ·have:=Ym f (addO L len n).n (by omega)
    omega
end
end Pro
end
section
open Go.RowKit
theorem vS {o:Pro.Out}{B:Prop}{D:Value→Prop}{x:Ending}(h:(o.k=0∧x = .returned .nilIface∧B)∨(o.k≠0∧∃ v,x = .returned v∧D v))(hk:o.k=0):x = .returned .nilIface∧B:=by
 rcases h with ⟨_,h⟩ |⟨h,_⟩
 ·exact h
 ·exact absurd hk h
theorem JU {o:Pro.Out}{B:Prop}{D:Value→Prop}{x:Ending}(h:(o.k=0∧x = .returned .nilIface∧B)∨(o.k≠0∧∃ v,x = .returned v∧D v))(hk:o.k≠0):∃ v,x = .returned v∧D v:=by
 rcases h with ⟨h,_⟩ |⟨_,h⟩
 ·exact absurd h hk
 ·exact h
theorem Own.back {b cb:Nat}{w W w':World}(h1:Only (zl b) w W)(h2:Only (Own b cb) W w')(hc:w.heap.size≤cb):Only (zl b) w w':=
 ⟨h2.os.trans h1.os,h2.tape.trans h1.tape,h2.output.trans h1.output,Nat.le_trans h1.size h2.size,fun k hk hn=>(h2.block k (Nat.lt_of_lt_of_le hk h1.size) (fun e=>by
  rcases e with e |e
  ·exact hn e
  ·omega)).trans (h1.block k hk hn)⟩
set_option maxHeartbeats 2000000
namespace Pro
theorem countL_go {L:List (Int×Int)}{f n:Nat}{c:Int}(h:dig (zh L n)=true):countL L (f+1) c n=countL L f (min (c*10+(zh L n-48)) 101) (n+1):=by simp only [countL];rw [if_pos h]
theorem countL_stop {L:List (Int×Int)}{f n:Nat}{c:Int}(h:dig (zh L n)=false):countL L (f+1) c n=(c,n):=by simp only [countL];rw [if_neg (by simp [h])]
theorem dig_in {L:List (Int×Int)}{n:Nat}(h:dig (zh L n)=true):n<L.length:=zD (by unfold dig at h;simp at h;omega)
theorem QZ (L:List (Int×Int)):∀ (f:Nat) (c:Int) (n:Nat),n≤L.length→0≤c→c≤101→n≤(countL L f c n).2∧(countL L f c n).2≤L.length∧0≤(countL L f c n).1∧(countL L f c n).1≤101
 |0,c,n,h,h0,h1=>by simp only [countL];omega
 |f+1,c,n,h,h0,h1=>by
  cases hd:dig (zh L n)
  ·rw [countL_stop hd];simp only [];omega
  ·rw [countL_go hd]
   have:=dig_in hd
   have hb:48≤zh L n:=by unfold dig at hd;simp at hd;omega
   have:=QZ L f (min (c*10+(zh L n-48)) 101) (n+1) (by omega) (by omega) (by omega)
   omega
theorem qN {L:List (Int×Int)}{len:Int}(n:Nat)(h:n≤L.length):n≤(zp L len n).n∧(zp L len n).n≤L.length∧0≤(zp L len n).v∧(zp L len n).v≤100:=by
 have:=QZ L (L.length+1-n) 0 n h (by omega) (by omega)
 unfold zp countP
 split
 ·simp only [bad];omega
 ·split
  ·simp only [bad];omega
  ·simp only [good];omega
end Pro
theorem WA (b:Nat)(L:List (Int×Int))(n:Nat)(len dp:Int)(a:Nat→Addr)(w:World)(h:RdAt w b L n len dp)(hS:Sents w a)(hb:10≤b)(hL:L.length≤400)(hn:n≤L.length)(_hF:Pro.Fit L) :
  Calls Tryz.prog 246 #[.pointer (some ⟨b,0,none⟩)] w (Tells b L len dp a w (Pro.zp L len n) (.int .i64 (Pro.zp L len n).v) (.int .i64 0)):=by
 have T:=ze (Trk.start h hS hb)
 clear h hS
 cases hd:Pro.dig (Pro.zh L n)
 ·have HO:Hid (Pro.zp L len n=Pro.bad 3 (Pro.zB L len n) n):=by unfold Pro.zp;rw [if_pos hd];rfl
  have hd':(decide (48≤Pro.zh L n) && decide (Pro.zh L n≤57))=false:=hd
  go_enter Tryz.func246,Tryz.ntmps246
  go_wp2_with (first |(go_at_call 103;refine (yF (n:=n) (by exact zb T) hL (by omega)).mono ?_;rintro e wq ⟨rfl,qq,rfl⟩) |(go_at_call 147;refine (yG (n:=n) (by exact (zb T).drewN _) hL (by omega)).mono ?_;rintro e wq ⟨rfl,hwq⟩;obtain rfl:=hwq.symm;clear hwq) |(go_at_call 274;refine (yX _ _).mono ?_;rintro e wq ⟨rfl,hwq⟩;obtain rfl:=hwq.symm;clear hwq);(rw [hd']) |(go_at_call 55;refine (ZT (n:=n) (by exact (zb T).drewN _) hL (by omega)).mono ?_;rintro e wq ⟨v,rfl,hv,tq⟩;have T:=ze tq;have c1:=tq.c1;have f1:=tq.f1))
  go_ret2
  exact (zb T).bad (zb HO) (by decide) hv
 ·have hd':(decide (48≤Pro.zh L n) && decide (Pro.zh L n≤57))=true:=hd
  go_enter Tryz.func246,Tryz.ntmps246
  go_wp2_with (first |(go_at_call 103;refine (yF (n:=n) (by exact zb T) hL (by omega)).mono ?_;rintro e wq ⟨rfl,qq,rfl⟩) |(go_at_call 147;refine (yG (n:=n) (by exact (zb T).drewN _) hL (by omega)).mono ?_;rintro e wq ⟨rfl,hwq⟩;obtain rfl:=hwq.symm;clear hwq) |(go_at_call 274;refine (yX _ _).mono ?_;rintro e wq ⟨rfl,hwq⟩;obtain rfl:=hwq.symm;clear hwq);(rw [hd']))
  have T1:=ze ((zb T).drewN qq)
  generalize w.drewN qq=w1 at *
  go_loopw [5] (fun c wr=>∃ (q:Int) (m:Nat),c = .int .i64 q∧0≤q∧q≤101∧m≤L.length∧Hid (Trk w.heap.size w b L m len dp a wr)∧Hid (Pro.countP L n=Pro.countL L (L.length+1-m) q m)) (fun _ wr=>L.length-rdN wr b)
  case atStart=>exact ⟨0,n,rfl,by omega,by omega,hn,T1,rfl⟩
  case round=>
   obtain ⟨q,m,rfl,hq0,hq1,hm,T,HF⟩:=hrel
   have hrd:=(zb T).rdN
   have hfu:Hid (L.length+1-m=(L.length-m)+1):=by show _=_;omega
   cases he:Pro.dig (Pro.zh L m)
   ·have he':(decide (48≤Pro.zh L m) && decide (Pro.zh L m≤57))=false:=he
    have HG:Hid (Pro.countP L n=(q,m)):=by rw [zb HF,zb hfu];exact Pro.countL_stop he
    by_cases hbig:100<q
    ·have HO:Hid (Pro.zp L len n=Pro.bad 5 (Pro.zB L len n) m):=by unfold Pro.zp;rw [if_neg (by simp [hd]),zb HG,if_pos hbig];rfl
     have hs5:=(zb T).se.s5
     go_wp2_with (first |(go_at_call 147;refine (yG (n:=m) (by exact zb T) hL (by omega)).mono ?_;rintro e wq ⟨rfl,hwq⟩;obtain rfl:=hwq.symm;clear hwq) |(go_at_call 274;refine (yX _ _).mono ?_;rintro e wq ⟨rfl,hwq⟩;obtain rfl:=hwq.symm;clear hwq);(rw [he']) |(go_at_call 56;refine (YF (n:=m) _ 5 _ _ rfl (by exact zb T)).mono ?_;rintro e wq ⟨v,rfl,hv,tq⟩;have T:=ze tq;have c1:=tq.c1;have f1:=tq.f1))
     go_ret2
     exact (zb T).bad (zb HO) (by decide) hv
    ·have HO:Hid (Pro.zp L len n=Pro.good q m):=by unfold Pro.zp;rw [if_neg (by simp [hd]),zb HG,if_neg hbig];rfl
     go_wp2_with (first |(go_at_call 147;refine (yG (n:=m) (by exact zb T) hL (by omega)).mono ?_;rintro e wq ⟨rfl,hwq⟩;obtain rfl:=hwq.symm;clear hwq) |(go_at_call 274;refine (yX _ _).mono ?_;rintro e wq ⟨rfl,hwq⟩;obtain rfl:=hwq.symm;clear hwq);(rw [he']))
     go_ret2
     exact (zb T).good (zb HO) (by rw [zb HO];rfl)
   ·have he':(decide (48≤Pro.zh L m) && decide (Pro.zh L m≤57))=true:=he
    have hml:=Pro.dig_in he
    have HG:Hid (Pro.countP L n=Pro.countL L (L.length+1-(m+1)) (min (q*10+(Pro.zh L m-48)) 101) (m+1)):=by rw [zb HF,show L.length+1-m=(L.length+1-(m+1))+1 by omega];exact Pro.countL_go he
    have hlo:48≤Pro.zh L m∧Pro.zh L m≤57:=by simpa using he'
    have c1:=(zb T).c1
    have f1:=(zb T).f1
    go_wp2_with (first |(go_at_call 147;refine (yG (n:=m) (by exact zb T) hL (by omega)).mono ?_;rintro e wq ⟨rfl,hwq⟩;obtain rfl:=hwq.symm;clear hwq) |(go_at_call 274;refine (yX _ _).mono ?_;rintro e wq ⟨rfl,hwq⟩;obtain rfl:=hwq.symm;clear hwq);(rw [he']))
    have T2:=(zb T).setN (m+1) ((m:Int)+1) (by omega)
    refine ⟨⟨min (q*10+(Pro.zh L m-48)) 101,m+1,?_,by omega,by omega,by omega,ze T2,HG⟩,by rw [T2.rdN,hrd];omega⟩
    rw [show (if 101<q*10+(Pro.zh L m-48) then (101:Int) else q*10+(Pro.zh L m-48))=min (q*10+(Pro.zh L m-48)) 101 by split<;>omega]
structure RepAt (w:World)(rb:Nat)(p:Value)(l m:Int):Prop where
 k0:w.cell? ⟨rb,0,none⟩=some p
 k1:w.cell? ⟨rb,1,none⟩=some (.int .i64 l)
 k2:w.cell? ⟨rb,2,none⟩=some (.int .i64 m)
 f1:w.frozen? ⟨rb,1,none⟩=false
 f2:w.frozen? ⟨rb,2,none⟩=false
theorem RepAt.lt {w:World}{rb:Nat}{p:Value}{l m:Int}(h:RepAt w rb p l m):rb<w.heap.size:=World.block_lt_of_cell? w ⟨rb,0,none⟩ h.k0
theorem RepAt.keep {P:Nat→Prop}{w w':World}{rb:Nat}{p:Value}{l m:Int}(h:RepAt w rb p l m)(k:Only P w w')(hn:¬P rb):RepAt w' rb p l m:=
 ⟨(k.cell (p:=⟨rb,0,none⟩) h.lt hn).trans h.k0,(k.cell (p:=⟨rb,1,none⟩) h.lt hn).trans h.k1,(k.cell (p:=⟨rb,2,none⟩) h.lt hn).trans h.k2,(k.frozen (p:=⟨rb,1,none⟩) h.lt hn).trans h.f1,(k.frozen (p:=⟨rb,2,none⟩) h.lt hn).trans h.f2⟩
theorem RepAt.set1 {w:World}{rb:Nat}{p:Value}{l m:Int}(h:RepAt w rb p l m)(x:Int):RepAt (w.setCell ⟨rb,1,none⟩ (.int .i64 x)) rb p x m:=
 ⟨(World.cell?_setCell_other _ _ _ _ (by simp)).trans h.k0,World.cell?_setCell_same _ _ _ h.k1,(World.cell?_setCell_other _ _ _ _ (by simp)).trans h.k2,(zi _ _ _ _).trans h.f1,(zi _ _ _ _).trans h.f2⟩
theorem RepAt.set2 {w:World}{rb:Nat}{p:Value}{l m:Int}(h:RepAt w rb p l m)(x:Int):RepAt (w.setCell ⟨rb,2,none⟩ (.int .i64 x)) rb p l x:=
 ⟨(World.cell?_setCell_other _ _ _ _ (by simp)).trans h.k0,(World.cell?_setCell_other _ _ _ _ (by simp)).trans h.k1,World.cell?_setCell_same _ _ _ h.k2,(zi _ _ _ _).trans h.f1,(zi _ _ _ _).trans h.f2⟩
structure Rp (rb:Nat)(w0:World)(b:Nat)(L:List (Int×Int))(n:Nat)(len dp:Int)(a:Nat→Addr)(p:Value)(l m:Int)(w:World):Prop where
 t:Trk rb w0 b L n len dp a w
 r:RepAt w rb p l m
section
variable {rb:Nat} {w0:World} {b:Nat} {L:List (Int×Int)} {n:Nat} {len dp:Int} {a:Nat→Addr} {p:Value} {l m:Int} {w w':World}
theorem Rp.drewN (h:Rp rb w0 b L n len dp a p l m w)(q:Nat):Rp rb w0 b L n len dp a p l m (w.drewN q):=⟨h.t.drewN q,h.r.keep ((Only.refl (fun _=>False) w).drewN q) (fun f=>f)⟩
theorem Rp.mine {n':Nat}(h:Rp rb w0 b L n len dp a p l m w)(k:Only (zl b) w w')(hr:RdAt w' b L n' len dp):Rp rb w0 b L n' len dp a p l m w':=⟨h.t.mine k hr,h.r.keep k (fun e=>by have:=h.t.lt;unfold zl at e;omega)⟩
theorem Rp.calm (h:Rp rb w0 b L n len dp a p l m w)(k:Only (fun _=>False) w w'):Rp rb w0 b L n len dp a p l m w':=⟨h.t.calm k,h.r.keep k (fun f=>f)⟩
theorem Rp.setN (h:Rp rb w0 b L n len dp a p l m w)(i:Nat)(j:Int)(hj:j=(i:Int)):Rp rb w0 b L i len dp a p l m (w.setCell ⟨b,1,none⟩ (.int .i64 j)):=h.mine ((Only.refl _ _).mine _ _) (h.t.rd.setN i j hj)
theorem Rp.set1 (h:Rp rb w0 b L n len dp a p l m w)(x:Int):Rp rb w0 b L n len dp a p x m (w.setCell ⟨rb,1,none⟩ (.int .i64 x)):=⟨h.t.push ((Only.refl _ _).setCell (p:=⟨rb,1,none⟩) (.inl (Nat.le_refl _)) _),h.r.set1 x⟩
theorem Rp.set2 (h:Rp rb w0 b L n len dp a p l m w)(x:Int):Rp rb w0 b L n len dp a p l x (w.setCell ⟨rb,2,none⟩ (.int .i64 x)):=⟨h.t.push ((Only.refl _ _).setCell (p:=⟨rb,2,none⟩) (.inl (Nat.le_refl _)) _),h.r.set2 x⟩
theorem y8 (word:ByteArray)(h:Rp rb w0 b L n len dp a p l m w)(hL:L.length≤400)(hn:n≤1000)(hw:word.size≤10)(hm:Pro.zz L n word=false) :
  Calls Tryz.prog 102 #[.pointer (some ⟨b,0,none⟩),.string word] w fun x w'=>x = .returned (.bool false)∧∃ q,w'=w.drewN q:=xz b L n len dp word w h.t.rd hL hn hw hm
theorem jA (word:ByteArray)(h:Rp rb w0 b L n len dp a p l m w)(hL:L.length≤400)(hn:n≤1000)(hw:word.size≤10)(hm:Pro.zz L n word=true) :
  Calls Tryz.prog 102 #[.pointer (some ⟨b,0,none⟩),.string word] w fun x w'=>x = .returned (.bool true)∧Rp rb w0 b L (n+word.size) len dp a p l m w':=
 (yM b L n len dp word w h.t.rd hL hn hw hm).mono (by rintro e w1 ⟨rfl,h1,h2⟩;exact ⟨rfl,h.mine h2 h1⟩)
theorem zap (h:Rp rb w0 b L n len dp a p l m w)(hL:L.length≤400)(hn:n≤L.length) :
  Calls Tryz.prog 55 #[.pointer (some ⟨b,0,none⟩)] w fun x w'=>∃ v,x = .returned v∧FaultAt w' w0.heap.size v (zS a 3) (Pro.zB L len n)∧Rp rb w0 b L n len dp a p l m w':=
 (jx b L n len dp a w h.t.rd h.t.se hL hn).mono (by rintro e w1 ⟨v,rfl,hv,hO⟩;exact ⟨v,rfl,hv.base h.t.on.size,h.calm hO⟩)
theorem new_r (T:TypeId)(k:Nat)(q:Int)(x:Value)(hx : .iface T x=zS a k)(h:Rp rb w0 b L n len dp a p l m w) :
  Calls Tryz.prog 56 #[.iface T x,.int .i64 q] w fun e w'=>∃ v,e = .returned v∧FaultAt w' w0.heap.size v (zS a k) q∧Rp rb w0 b L n len dp a p l m w':=
 (wM T x q w).mono (by rintro e w1 ⟨v,rfl,hv,hO⟩;rw [hx] at hv;exact ⟨v,rfl,hv.base h.t.on.size,h.calm hO⟩)
theorem qF (h:Rp rb w0 b L n len dp a p l m w)(hL:L.length≤400)(hn:n≤L.length)(hF:Pro.Fit L) :
  Calls Tryz.prog 246 #[.pointer (some ⟨b,0,none⟩)] w fun x w'=>Rp rb w0 b L (Pro.zp L len n).n len dp a p l m w'∧(((Pro.zp L len n).k=0∧x = .returned (.tuple #[.int .i64 (Pro.zp L len n).v,.nilIface]))∨((Pro.zp L len n).k≠0∧∃ v,x = .returned (.tuple #[.int .i64 0,v])∧FaultAt w' w0.heap.size v (zS a (Pro.zp L len n).k) (Pro.zp L len n).p)):=
 (WA b L n len dp a w h.t.rd h.t.se h.t.hb hL hn hF).mono (by
  rintro x w1 ⟨hO,hR,hT⟩
  refine ⟨h.mine hO hR,?_⟩
  rcases hT with hT |⟨hk,v,hx,hv⟩
  ·exact .inl hT
  ·exact .inr ⟨hk,v,hx,hv.base h.t.on.size⟩)
end
def Counts (rb:Nat)(w0:World)(b:Nat)(L:List (Int×Int))(len dp:Int)(a:Nat→Addr)(p:Value)(o:Pro.Out×Int)(x:Ending)(w':World):Prop:=
 Trk rb w0 b L o.1.n len dp a w'∧((o.1.k=0∧x = .returned .nilIface∧RepAt w' rb p o.1.v o.2)∨(o.1.k≠0∧∃ v,x = .returned v∧FaultAt w' w0.heap.size v (zS a o.1.k) o.1.p))
end
section
open Go.RowKit
set_option maxHeartbeats 4000000
set_option maxRecDepth 1000000
theorem YG (rb:Nat)(w0:World)(b:Nat)(L:List (Int×Int))(n:Nat)(len dp:Int)(a:Nat→Addr)(p:Value)(l m:Int)(w:World)(h:Rp rb w0 b L n len dp a p l m w)(hL:L.length≤400)(hn:n<L.length)(hF:Pro.Fit L)(hrb:rb<w0.heap.size) :
  Calls Tryz.prog 219 #[.pointer (some ⟨b,0,none⟩),.pointer (some ⟨rb,0,none⟩)] w (Counts rb w0 b L len dp a p (Pro.zQ L len n)):=by
 have X:=ze h
 have c1:=h.t.c1
 have f1:=h.t.f1
 have hs4:=h.t.se.s4
 clear h
 have hA:=Pro.qN (L:=L) (len:=len) (n+1) (by omega)
 by_cases hk:(Pro.zp L len (n+1)).k=0
 ·by_cases h1:Pro.zh L (Pro.zp L len (n+1)).n=125
  ·have m1:Pro.zz L (Pro.zp L len (n+1)).n { data:=#[125] }=true:=by rw [Pro.zt L _ 125 125 rfl];simp [h1]
   have HO:Hid (Pro.zQ L len n=(Pro.good (Pro.zp L len (n+1)).v ((Pro.zp L len (n+1)).n+1),(Pro.zp L len (n+1)).v)):=by unfold Pro.zQ;simp only [];rw [if_neg (by simp [hk]),if_pos h1];rfl
   clear h1
   go_enter Tryz.func219,Tryz.ntmps219
   go_wp2_with (first |(go_at_call 103;refine (yF (n:=n) (Rp.t (by exact zb X)) hL (by omega)).mono ?_;rintro e wq ⟨rfl,qq,rfl⟩) |(go_at_call 246;refine (qF (n:=n+1) (by exact ((zb X).drewN _).setN _ _ (by omega)) hL (by omega) hF).mono ?_;rintro e wq ⟨xq,hT⟩;obtain rfl:=z9 hT hk;clear hT;have X:=ze xq;have k0:=xq.r.k0;have c1:=xq.t.c1;have f1:=xq.t.f1;have k1:=xq.r.k1;have k2:=xq.r.k2;have q1:=xq.r.f1;have q2:=xq.r.f2) |(go_at_call 102;refine (jA (n:=(Pro.zp L len (n+1)).n) _ (by exact ((zb X).set1 _).set2 _) hL (by omega) (by decide) (by assumption)).mono ?_;rintro e wq ⟨rfl,xq⟩;have xq:Rp _ _ b L (((Pro.zp L len (n+1)).n)+1) len dp a _ _ _ wq:=xq;have X:=ze xq;have k0:=xq.r.k0;have c1:=xq.t.c1;have f1:=xq.t.f1;have k1:=xq.r.k1;have k2:=xq.r.k2;have q1:=xq.r.f1;have q2:=xq.r.f2))
   go_ret
   rw [zb HO]
   exact ⟨Rp.t (n:=(Pro.zp L len (n+1)).n+1) (by exact zb X),.inl ⟨rfl,rfl,Rp.r (n:=(Pro.zp L len (n+1)).n+1) (by exact zb X)⟩⟩
  ·have m1:Pro.zz L (Pro.zp L len (n+1)).n { data:=#[125] }=false:=by rw [Pro.zt L _ 125 125 rfl];simp [h1]
   by_cases h2:Pro.zh L (Pro.zp L len (n+1)).n=44
   ·have m2:Pro.zz L (Pro.zp L len (n+1)).n { data:=#[44] }=true:=by rw [Pro.zt L _ 44 44 rfl];simp [h2]
    have hlt:(Pro.zp L len (n+1)).n<L.length:=Pro.zD (by omega)
    by_cases h3:Pro.zh L ((Pro.zp L len (n+1)).n+1)=125
    ·have m3:Pro.zz L ((Pro.zp L len (n+1)).n+1) { data:=#[125] }=true:=by rw [Pro.zt L _ 125 125 rfl];simp [h3]
     have HO:Hid (Pro.zQ L len n=(Pro.good (Pro.zp L len (n+1)).v ((Pro.zp L len (n+1)).n+2),-1)):=by unfold Pro.zQ;simp only [];rw [if_neg (by simp [hk]),if_neg h1,if_neg (by simp [h2]),if_pos h3];rfl
     clear h1 h2 h3
     go_enter Tryz.func219,Tryz.ntmps219
     go_wp2_with (first |(go_at_call 103;refine (yF (n:=n) (Rp.t (by exact zb X)) hL (by omega)).mono ?_;rintro e wq ⟨rfl,qq,rfl⟩) |(go_at_call 246;refine (qF (n:=n+1) (by exact ((zb X).drewN _).setN _ _ (by omega)) hL (by omega) hF).mono ?_;rintro e wq ⟨xq,hT⟩;obtain rfl:=z9 hT hk;clear hT;have X:=ze xq;have k0:=xq.r.k0;have c1:=xq.t.c1;have f1:=xq.t.f1;have k1:=xq.r.k1;have k2:=xq.r.k2;have q1:=xq.r.f1;have q2:=xq.r.f2) |(go_at_call 102;refine (y8 (n:=(Pro.zp L len (n+1)).n) _ (by first |exact ((zb X).set1 _).set2 _ |exact (((zb X).set1 _).set2 _).drewN _) hL (by omega) (by decide) (by assumption)).mono ?_;rintro e wq ⟨rfl,qq,rfl⟩) |(go_at_call 102;refine (jA (n:=(Pro.zp L len (n+1)).n) _ (by exact (((zb X).set1 _).set2 _).drewN _) hL (by omega) (by decide) (by assumption)).mono ?_;rintro e wq ⟨rfl,xq⟩;have xq:Rp _ _ b L (((Pro.zp L len (n+1)).n)+1) len dp a _ _ _ wq:=xq;have X:=ze xq;have k0:=xq.r.k0;have c1:=xq.t.c1;have f1:=xq.t.f1;have k1:=xq.r.k1;have k2:=xq.r.k2;have q1:=xq.r.f1;have q2:=xq.r.f2) |(go_at_call 102;refine (jA (n:=(Pro.zp L len (n+1)).n+1) _ (by exact zb X) hL (by omega) (by decide) (by assumption)).mono ?_;rintro e wq ⟨rfl,xq⟩;have xq:Rp _ _ b L (((Pro.zp L len (n+1)).n+1)+1) len dp a _ _ _ wq:=xq;have X:=ze xq;have k0:=xq.r.k0;have c1:=xq.t.c1;have f1:=xq.t.f1;have k1:=xq.r.k1;have k2:=xq.r.k2;have q1:=xq.r.f1;have q2:=xq.r.f2))
     go_ret
     rw [zb HO]
     exact ⟨Rp.t (n:=(Pro.zp L len (n+1)).n+2) (by exact (zb X).set2 _),.inl ⟨rfl,rfl,Rp.r (n:=(Pro.zp L len (n+1)).n+2) (by exact (zb X).set2 _)⟩⟩
    ·have m3:Pro.zz L ((Pro.zp L len (n+1)).n+1) { data:=#[125] }=false:=by rw [Pro.zt L _ 125 125 rfl];simp [h3]
     have hM:=Pro.qN (L:=L) (len:=len) ((Pro.zp L len (n+1)).n+1) (by omega)
     by_cases hk2:(Pro.zp L len ((Pro.zp L len (n+1)).n+1)).k=0
     ·by_cases h4:Pro.zh L (Pro.zp L len ((Pro.zp L len (n+1)).n+1)).n=125
      ·have m4:Pro.zz L (Pro.zp L len ((Pro.zp L len (n+1)).n+1)).n { data:=#[125] }=true:=by rw [Pro.zt L _ 125 125 rfl];simp [h4]
       by_cases h5:(Pro.zp L len ((Pro.zp L len (n+1)).n+1)).v<(Pro.zp L len (n+1)).v
       ·have HO:Hid (Pro.zQ L len n=(Pro.bad 4 (Pro.zB L len n) ((Pro.zp L len ((Pro.zp L len (n+1)).n+1)).n+1),0)):=by unfold Pro.zQ;simp only [];rw [if_neg (by simp [hk]),if_neg h1,if_neg (by simp [h2]),if_neg h3,if_neg (by simp [hk2]),if_neg (by simp [h4]),if_pos h5];rfl
        clear h1 h2 h3 h4
        go_enter Tryz.func219,Tryz.ntmps219
        go_wp2_with (first |(go_at_call 103;refine (yF (n:=n) (Rp.t (by exact zb X)) hL (by omega)).mono ?_;rintro e wq ⟨rfl,qq,rfl⟩) |(go_at_call 246;refine (qF (n:=n+1) (by exact ((zb X).drewN _).setN _ _ (by omega)) hL (by omega) hF).mono ?_;rintro e wq ⟨xq,hT⟩;obtain rfl:=z9 hT hk;clear hT;have X:=ze xq;have k0:=xq.r.k0;have c1:=xq.t.c1;have f1:=xq.t.f1;have k1:=xq.r.k1;have k2:=xq.r.k2;have q1:=xq.r.f1;have q2:=xq.r.f2) |(go_at_call 102;refine (y8 (n:=(Pro.zp L len (n+1)).n) _ (by first |exact ((zb X).set1 _).set2 _ |exact (((zb X).set1 _).set2 _).drewN _) hL (by omega) (by decide) (by assumption)).mono ?_;rintro e wq ⟨rfl,qq,rfl⟩) |(go_at_call 102;refine (jA (n:=(Pro.zp L len (n+1)).n) _ (by exact (((zb X).set1 _).set2 _).drewN _) hL (by omega) (by decide) (by assumption)).mono ?_;rintro e wq ⟨rfl,xq⟩;have xq:Rp _ _ b L (((Pro.zp L len (n+1)).n)+1) len dp a _ _ _ wq:=xq;have X:=ze xq;have k0:=xq.r.k0;have c1:=xq.t.c1;have f1:=xq.t.f1;have k1:=xq.r.k1;have k2:=xq.r.k2;have q1:=xq.r.f1;have q2:=xq.r.f2);(have hs4:=(zb X).t.se.s4) |(go_at_call 102;refine (y8 (n:=(Pro.zp L len (n+1)).n+1) _ (by exact zb X) hL (by omega) (by decide) (by assumption)).mono ?_;rintro e wq ⟨rfl,qq,rfl⟩) |(go_at_call 246;refine (qF (n:=(Pro.zp L len (n+1)).n+1) (by exact (zb X).drewN _) hL (by omega) hF).mono ?_;rintro e wq ⟨xq,hT⟩;obtain rfl:=z9 hT hk2;clear hT;have X:=ze xq;have k0:=xq.r.k0;have c1:=xq.t.c1;have f1:=xq.t.f1;have k1:=xq.r.k1;have k2:=xq.r.k2;have q1:=xq.r.f1;have q2:=xq.r.f2);(have hs4:=(zb X).t.se.s4) |(go_at_call 102;refine (jA (n:=(Pro.zp L len ((Pro.zp L len (n+1)).n+1)).n) _ (by exact (zb X).set2 _) hL (by omega) (by decide) (by assumption)).mono ?_;rintro e wq ⟨rfl,xq⟩;have xq:Rp _ _ b L (((Pro.zp L len ((Pro.zp L len (n+1)).n+1)).n)+1) len dp a _ _ _ wq:=xq;have X:=ze xq;have k0:=xq.r.k0;have c1:=xq.t.c1;have f1:=xq.t.f1;have k1:=xq.r.k1;have k2:=xq.r.k2;have q1:=xq.r.f1;have q2:=xq.r.f2);(have hs4:=(zb X).t.se.s4) |(go_at_call 56;refine (new_r (n:=(Pro.zp L len ((Pro.zp L len (n+1)).n+1)).n+1) _ 4 _ _ rfl (by exact zb X)).mono ?_;rintro e wq ⟨v,rfl,hv,xq⟩;have X:=ze xq;have k0:=xq.r.k0;have c1:=xq.t.c1;have f1:=xq.t.f1;have k1:=xq.r.k1;have k2:=xq.r.k2;have q1:=xq.r.f1;have q2:=xq.r.f2))
        go_ret
        rw [zb HO]
        exact ⟨Rp.t (n:=(Pro.zp L len ((Pro.zp L len (n+1)).n+1)).n+1) (zb X),.inr ⟨(show (4:Nat)≠0 by decide),v,rfl,hv⟩⟩
       ·have HO:Hid (Pro.zQ L len n=(Pro.good (Pro.zp L len (n+1)).v ((Pro.zp L len ((Pro.zp L len (n+1)).n+1)).n+1),(Pro.zp L len ((Pro.zp L len (n+1)).n+1)).v)):=by unfold Pro.zQ;simp only [];rw [if_neg (by simp [hk]),if_neg h1,if_neg (by simp [h2]),if_neg h3,if_neg (by simp [hk2]),if_neg (by simp [h4]),if_neg h5];rfl
        clear h1 h2 h3 h4
        go_enter Tryz.func219,Tryz.ntmps219
        go_wp2_with (first |(go_at_call 103;refine (yF (n:=n) (Rp.t (by exact zb X)) hL (by omega)).mono ?_;rintro e wq ⟨rfl,qq,rfl⟩) |(go_at_call 246;refine (qF (n:=n+1) (by exact ((zb X).drewN _).setN _ _ (by omega)) hL (by omega) hF).mono ?_;rintro e wq ⟨xq,hT⟩;obtain rfl:=z9 hT hk;clear hT;have X:=ze xq;have k0:=xq.r.k0;have c1:=xq.t.c1;have f1:=xq.t.f1;have k1:=xq.r.k1;have k2:=xq.r.k2;have q1:=xq.r.f1;have q2:=xq.r.f2) |(go_at_call 102;refine (y8 (n:=(Pro.zp L len (n+1)).n) _ (by first |exact ((zb X).set1 _).set2 _ |exact (((zb X).set1 _).set2 _).drewN _) hL (by omega) (by decide) (by assumption)).mono ?_;rintro e wq ⟨rfl,qq,rfl⟩) |(go_at_call 102;refine (jA (n:=(Pro.zp L len (n+1)).n) _ (by exact (((zb X).set1 _).set2 _).drewN _) hL (by omega) (by decide) (by assumption)).mono ?_;rintro e wq ⟨rfl,xq⟩;have xq:Rp _ _ b L (((Pro.zp L len (n+1)).n)+1) len dp a _ _ _ wq:=xq;have X:=ze xq;have k0:=xq.r.k0;have c1:=xq.t.c1;have f1:=xq.t.f1;have k1:=xq.r.k1;have k2:=xq.r.k2;have q1:=xq.r.f1;have q2:=xq.r.f2) |(go_at_call 102;refine (y8 (n:=(Pro.zp L len (n+1)).n+1) _ (by exact zb X) hL (by omega) (by decide) (by assumption)).mono ?_;rintro e wq ⟨rfl,qq,rfl⟩) |(go_at_call 246;refine (qF (n:=(Pro.zp L len (n+1)).n+1) (by exact (zb X).drewN _) hL (by omega) hF).mono ?_;rintro e wq ⟨xq,hT⟩;obtain rfl:=z9 hT hk2;clear hT;have X:=ze xq;have k0:=xq.r.k0;have c1:=xq.t.c1;have f1:=xq.t.f1;have k1:=xq.r.k1;have k2:=xq.r.k2;have q1:=xq.r.f1;have q2:=xq.r.f2) |(go_at_call 102;refine (jA (n:=(Pro.zp L len ((Pro.zp L len (n+1)).n+1)).n) _ (by exact (zb X).set2 _) hL (by omega) (by decide) (by assumption)).mono ?_;rintro e wq ⟨rfl,xq⟩;have xq:Rp _ _ b L (((Pro.zp L len ((Pro.zp L len (n+1)).n+1)).n)+1) len dp a _ _ _ wq:=xq;have X:=ze xq;have k0:=xq.r.k0;have c1:=xq.t.c1;have f1:=xq.t.f1;have k1:=xq.r.k1;have k2:=xq.r.k2;have q1:=xq.r.f1;have q2:=xq.r.f2))
        go_ret
        rw [zb HO]
        exact ⟨Rp.t (n:=(Pro.zp L len ((Pro.zp L len (n+1)).n+1)).n+1) (by exact zb X),.inl ⟨rfl,rfl,Rp.r (n:=(Pro.zp L len ((Pro.zp L len (n+1)).n+1)).n+1) (by exact zb X)⟩⟩
      ·have m4:Pro.zz L (Pro.zp L len ((Pro.zp L len (n+1)).n+1)).n { data:=#[125] }=false:=by rw [Pro.zt L _ 125 125 rfl];simp [h4]
       have HO:Hid (Pro.zQ L len n=(Pro.bad 3 (Pro.zB L len (Pro.zp L len ((Pro.zp L len (n+1)).n+1)).n) (Pro.zp L len ((Pro.zp L len (n+1)).n+1)).n,0)):=by unfold Pro.zQ;simp only [];rw [if_neg (by simp [hk]),if_neg h1,if_neg (by simp [h2]),if_neg h3,if_neg (by simp [hk2]),if_pos h4];rfl
       clear h1 h2 h3 h4
       go_enter Tryz.func219,Tryz.ntmps219
       go_wp2_with (first |(go_at_call 103;refine (yF (n:=n) (Rp.t (by exact zb X)) hL (by omega)).mono ?_;rintro e wq ⟨rfl,qq,rfl⟩) |(go_at_call 246;refine (qF (n:=n+1) (by exact ((zb X).drewN _).setN _ _ (by omega)) hL (by omega) hF).mono ?_;rintro e wq ⟨xq,hT⟩;obtain rfl:=z9 hT hk;clear hT;have X:=ze xq;have k0:=xq.r.k0;have c1:=xq.t.c1;have f1:=xq.t.f1;have k1:=xq.r.k1;have k2:=xq.r.k2;have q1:=xq.r.f1;have q2:=xq.r.f2) |(go_at_call 102;refine (y8 (n:=(Pro.zp L len (n+1)).n) _ (by first |exact ((zb X).set1 _).set2 _ |exact (((zb X).set1 _).set2 _).drewN _) hL (by omega) (by decide) (by assumption)).mono ?_;rintro e wq ⟨rfl,qq,rfl⟩) |(go_at_call 102;refine (jA (n:=(Pro.zp L len (n+1)).n) _ (by exact (((zb X).set1 _).set2 _).drewN _) hL (by omega) (by decide) (by assumption)).mono ?_;rintro e wq ⟨rfl,xq⟩;have xq:Rp _ _ b L (((Pro.zp L len (n+1)).n)+1) len dp a _ _ _ wq:=xq;have X:=ze xq;have k0:=xq.r.k0;have c1:=xq.t.c1;have f1:=xq.t.f1;have k1:=xq.r.k1;have k2:=xq.r.k2;have q1:=xq.r.f1;have q2:=xq.r.f2) |(go_at_call 102;refine (y8 (n:=(Pro.zp L len (n+1)).n+1) _ (by exact zb X) hL (by omega) (by decide) (by assumption)).mono ?_;rintro e wq ⟨rfl,qq,rfl⟩) |(go_at_call 246;refine (qF (n:=(Pro.zp L len (n+1)).n+1) (by exact (zb X).drewN _) hL (by omega) hF).mono ?_;rintro e wq ⟨xq,hT⟩;obtain rfl:=z9 hT hk2;clear hT;have X:=ze xq;have k0:=xq.r.k0;have c1:=xq.t.c1;have f1:=xq.t.f1;have k1:=xq.r.k1;have k2:=xq.r.k2;have q1:=xq.r.f1;have q2:=xq.r.f2) |(go_at_call 102;refine (y8 (n:=(Pro.zp L len ((Pro.zp L len (n+1)).n+1)).n) _ (by exact (zb X).set2 _) hL (by omega) (by decide) (by assumption)).mono ?_;rintro e wq ⟨rfl,qq,rfl⟩) |(go_at_call 55;refine (zap (n:=(Pro.zp L len ((Pro.zp L len (n+1)).n+1)).n) (by exact ((zb X).set2 _).drewN _) hL (by omega)).mono ?_;rintro e wq ⟨v,rfl,hv,xq⟩;have X:=ze xq;have k0:=xq.r.k0;have c1:=xq.t.c1;have f1:=xq.t.f1;have k1:=xq.r.k1;have k2:=xq.r.k2;have q1:=xq.r.f1;have q2:=xq.r.f2))
       go_ret
       rw [zb HO]
       exact ⟨Rp.t (n:=(Pro.zp L len ((Pro.zp L len (n+1)).n+1)).n) (zb X),.inr ⟨(show (3:Nat)≠0 by decide),v,rfl,hv⟩⟩
     ·have HO:Hid (Pro.zQ L len n=((Pro.zp L len ((Pro.zp L len (n+1)).n+1)),0)):=by unfold Pro.zQ;simp only [];rw [if_neg (by simp [hk]),if_neg h1,if_neg (by simp [h2]),if_neg h3,if_pos hk2];rfl
      clear h1 h2 h3
      go_enter Tryz.func219,Tryz.ntmps219
      go_wp2_with (first |(go_at_call 103;refine (yF (n:=n) (Rp.t (by exact zb X)) hL (by omega)).mono ?_;rintro e wq ⟨rfl,qq,rfl⟩) |(go_at_call 246;refine (qF (n:=n+1) (by exact ((zb X).drewN _).setN _ _ (by omega)) hL (by omega) hF).mono ?_;rintro e wq ⟨xq,hT⟩;obtain rfl:=z9 hT hk;clear hT;have X:=ze xq;have k0:=xq.r.k0;have c1:=xq.t.c1;have f1:=xq.t.f1;have k1:=xq.r.k1;have k2:=xq.r.k2;have q1:=xq.r.f1;have q2:=xq.r.f2) |(go_at_call 102;refine (y8 (n:=(Pro.zp L len (n+1)).n) _ (by first |exact ((zb X).set1 _).set2 _ |exact (((zb X).set1 _).set2 _).drewN _) hL (by omega) (by decide) (by assumption)).mono ?_;rintro e wq ⟨rfl,qq,rfl⟩) |(go_at_call 102;refine (jA (n:=(Pro.zp L len (n+1)).n) _ (by exact (((zb X).set1 _).set2 _).drewN _) hL (by omega) (by decide) (by assumption)).mono ?_;rintro e wq ⟨rfl,xq⟩;have xq:Rp _ _ b L (((Pro.zp L len (n+1)).n)+1) len dp a _ _ _ wq:=xq;have X:=ze xq;have k0:=xq.r.k0;have c1:=xq.t.c1;have f1:=xq.t.f1;have k1:=xq.r.k1;have k2:=xq.r.k2;have q1:=xq.r.f1;have q2:=xq.r.f2) |(go_at_call 102;refine (y8 (n:=(Pro.zp L len (n+1)).n+1) _ (by exact zb X) hL (by omega) (by decide) (by assumption)).mono ?_;rintro e wq ⟨rfl,qq,rfl⟩) |(go_at_call 246;refine (qF (n:=(Pro.zp L len (n+1)).n+1) (by exact (zb X).drewN _) hL (by omega) hF).mono ?_;rintro e wq ⟨xq,hT⟩;obtain ⟨v,rfl,hv⟩:=qu hT hk2;obtain ⟨gv,hgv⟩:=hv.form;subst hgv;clear hT;have X:=ze xq;have k0:=xq.r.k0;have c1:=xq.t.c1;have f1:=xq.t.f1;have k1:=xq.r.k1;have k2:=xq.r.k2;have q1:=xq.r.f1;have q2:=xq.r.f2))
      go_ret
      rw [zb HO]
      exact ⟨((zb X).set2 _).t,.inr ⟨hk2,_,rfl,hv.keep ((Only.refl (fun g=>g=rb) _).setCell (p:=⟨rb,2,none⟩) (.inl rfl) _) (fun g hg e=>by omega)⟩⟩
   ·have m2:Pro.zz L (Pro.zp L len (n+1)).n { data:=#[44] }=false:=by rw [Pro.zt L _ 44 44 rfl];simp [h2]
    have HO:Hid (Pro.zQ L len n=(Pro.bad 3 (Pro.zB L len (Pro.zp L len (n+1)).n) (Pro.zp L len (n+1)).n,0)):=by unfold Pro.zQ;simp only [];rw [if_neg (by simp [hk]),if_neg h1,if_pos h2];rfl
    clear h1 h2
    go_enter Tryz.func219,Tryz.ntmps219
    go_wp2_with (first |(go_at_call 103;refine (yF (n:=n) (Rp.t (by exact zb X)) hL (by omega)).mono ?_;rintro e wq ⟨rfl,qq,rfl⟩) |(go_at_call 246;refine (qF (n:=n+1) (by exact ((zb X).drewN _).setN _ _ (by omega)) hL (by omega) hF).mono ?_;rintro e wq ⟨xq,hT⟩;obtain rfl:=z9 hT hk;clear hT;have X:=ze xq;have k0:=xq.r.k0;have c1:=xq.t.c1;have f1:=xq.t.f1;have k1:=xq.r.k1;have k2:=xq.r.k2;have q1:=xq.r.f1;have q2:=xq.r.f2) |(go_at_call 102;refine (y8 (n:=(Pro.zp L len (n+1)).n) _ (by first |exact ((zb X).set1 _).set2 _ |exact (((zb X).set1 _).set2 _).drewN _) hL (by omega) (by decide) (by assumption)).mono ?_;rintro e wq ⟨rfl,qq,rfl⟩) |(go_at_call 55;refine (zap (n:=(Pro.zp L len (n+1)).n) (by exact (((zb X).set1 _).set2 _).drewN _) hL (by omega)).mono ?_;rintro e wq ⟨v,rfl,hv,xq⟩;have X:=ze xq;have k0:=xq.r.k0;have c1:=xq.t.c1;have f1:=xq.t.f1;have k1:=xq.r.k1;have k2:=xq.r.k2;have q1:=xq.r.f1;have q2:=xq.r.f2))
    go_ret
    rw [zb HO]
    exact ⟨Rp.t (n:=(Pro.zp L len (n+1)).n) (zb X),.inr ⟨(show (3:Nat)≠0 by decide),v,rfl,hv⟩⟩
 ·have HO:Hid (Pro.zQ L len n=((Pro.zp L len (n+1)),0)):=by unfold Pro.zQ;simp only [];rw [if_pos hk];rfl
  go_enter Tryz.func219,Tryz.ntmps219
  go_wp2_with (first |(go_at_call 103;refine (yF (n:=n) (Rp.t (by exact zb X)) hL (by omega)).mono ?_;rintro e wq ⟨rfl,qq,rfl⟩) |(go_at_call 246;refine (qF (n:=n+1) (by exact ((zb X).drewN _).setN _ _ (by omega)) hL (by omega) hF).mono ?_;rintro e wq ⟨xq,hT⟩;obtain ⟨v,rfl,hv⟩:=qu hT hk;obtain ⟨gv,hgv⟩:=hv.form;subst hgv;clear hT;have X:=ze xq;have k0:=xq.r.k0;have c1:=xq.t.c1;have f1:=xq.t.f1;have k1:=xq.r.k1;have k2:=xq.r.k2;have q1:=xq.r.f1;have q2:=xq.r.f2))
  go_ret
  rw [zb HO]
  exact ⟨(zb X).t,.inr ⟨hk,_,rfl,hv⟩⟩
end
end Go.Proofs.YtnagphodmfejiaaGreatDoor
