/- The program's Compile and Size, over its reader. -/
import Derived.Test.YtcgleficedipkaaGreatDoorYErrAErrD
import Derived.Test.YtcgleficedipkaaGreatDoorYPrgEPrgH
namespace Go.Proofs.YtcgleficedipkaaGreatDoor
section
open Go.RowKit
open Sm (Tree capT)
set_option maxHeartbeats 2000000
set_option maxRecDepth 1000000
structure Start (w:World)(a:Nat->Addr):Prop where
 sents:zW w a
 rows:zB w a
 et:w.cell? ⟨9,0,none⟩=some (.iface 283 (.agg #[.pointer (some ⟨15,84,none⟩)]))
 size:11<=w.heap.size
theorem Start.keep {w w':World}{a:Nat->Addr}(h:Start w a)(k:Q8 w w'):Start w' a:=
 ⟨h.sents.keep k (fun _ _ f=>f),h.rows.keep k,zg k _ _ h.et (fun f=>f),yZ h.size k.size⟩
theorem Zt (g:Nat)(p:Int)(w:World)(hE:w.cell? ⟨9,0,none⟩=some (.iface 283 (.agg #[.pointer (some ⟨15,84,none⟩)])))(h1:w.cell? ⟨g,1,none⟩=some (.int .i64 p)) :
  Calls Tryz.prog 26 #[.iface 122 (.pointer (some ⟨g,0,none⟩))] w fun e w'=>e = .returned (.int .i64 p)/\Q8 w w':=by
 have hgl:g<w.heap.size:=zE w ⟨g,1,none⟩ h1;have HA:=zc (as_set ⟨g,0,none⟩ ⟨w.heap.size,0,none⟩ (.pointer none) (w.alloc (.cells #[.pointer none] 122)) (zg ((ze.refl (fun _=>False) w).alloc _) _ _ hE (fun f=>f)) (zm w _ rfl _ _ 0 _ rfl) (zG w _ rfl _ _ 0));have HP:Hid (∀ w1,ze (zt w.heap.size) (w.alloc (.cells #[.pointer none] 122)) w1->w1.cell? ⟨g,1,none⟩=some (.int .i64 p)):=fun w1 hO=>
  zg hO _ _ (zg ((ze.refl (fun _=>False) w).alloc _) _ _ h1 (fun f=>f)) (fun e=>by have:g=w.heap.size:=e;omega)
 clear hE;go_enter Tryz.func26,Tryz.ntmps26;go_wp2_with (go_at_call 49;refine (zb HA).mono ?_;rintro e w1 ⟨rfl,hc,hO⟩;have h1w:=(zb HP) w1 hO);go_ret;exact ⟨rfl,((ze.refl (fun _=>False) w).alloc _).later hO (fun i hi=>by unfold zt at hi;omega)⟩
def JX (s:ByteArray)(a:Nat->Addr)(k:Nat)(p:Int)(w:World):Prop:=
 Calls Tryz.prog 35 #[.string s] w fun x w'=>∃ v,x = .returned (.tuple #[.nilIface,v])/\zI w' w.heap.size v (zN a k) p/\Q8 w w'
def wQ (s:ByteArray)(t:Tree)(v:Int)(w:World):Prop:=
 Calls Tryz.prog 35 #[.string s] w fun x w'=>(∃ T y F,x = .returned (.tuple #[.iface T y,.nilIface])/\zA F w' (fun g=>w.heap.size<=g) (.iface T y) t/\capT F t=v)/\Q8 w w'
def Zu (t:Tree):Prop:=∀ f,Pro.jg f t/\Pro.jh f t/\Pro.qL f t
theorem Zv (s:ByteArray)(w:World)(a:Nat->Addr)(k:Nat)(p:Int)(hS:Start w a)(k1:1<=k)(k2:k<=8)(hp:JX s a k p w) :
  Calls Tryz.prog 19 #[.string s] w fun x w'=>x = .returned (.tuple #[.pointer none,.int .i64 k,.int .i64 p])/\Q8 w w':=by
 have HS:=zc hS;have HP:=zc hp;clear hS hp;go_enter Tryz.func19,Tryz.ntmps19;go_wp2_with (first |(go_at_call 35;refine (zb HP).mono ?_;rintro e w1 ⟨v,rfl,hv,hO1⟩;have HV:=zc hv;obtain ⟨g,hg,rfl,f0,f1⟩:=hv;have H0:=zc f0;have H1:=zc f1;clear f0 f1 HV) |(go_at_call 25;refine Q7 (vX g k a _ ((zb HS).keep hO1).sents ((zb HS).keep hO1).rows k1 k2 (zb H0)) ?_) |(go_at_call 26;refine (Zt g p _ ((zb HS).keep hO1).et (zb H1)).mono ?_;rintro e w2 ⟨rfl,hO2⟩));go_ret3;exact ⟨rfl,hO1.trans hO2⟩
theorem xi.mono {A B:Nat->Prop}{w:World}{pb:Nat}{N:List Sm.Stp}{st:Nat}{W:Int->Bool}(h:xi w A pb N st W)(hAB:∀ g,A g->B g):xi w B pb N st W:=by
 obtain ⟨g,cap,h1,h2,h3,h4⟩:=h.c0;obtain ⟨sv,h5,h6⟩:=h.c2;refine ⟨hAB _ h.own,⟨g,cap,h1,hAB _ h2,h3,fun k s hk=>?_⟩,h.c1,⟨sv,h5,h6.mono (fun g _ h=>hAB g h)⟩,h.len,h.fit,h.stl⟩;obtain ⟨q0,⟨x,q1,q2⟩,q3⟩:=h4 k s hk;exact ⟨q0,⟨x,q1,q2.mono (fun g _ h=>hAB g h)⟩,q3⟩
theorem kX (g:Nat)(z:Int)(w:World)(h0:w.cell? ⟨g,0,none⟩=some (.int .i64 z)) :
  Calls Tryz.prog 17 #[.pointer (some ⟨g,0,none⟩)] w fun x w'=>x = .returned (.int .i64 z)/\Q8 w w':=by
 go_enter Tryz.func17,Tryz.ntmps17;go_wp2_with fail;go_ret;exact ⟨rfl,ze.refl _ _⟩
open Sm (Tree)
def RefBad (s:ByteArray)(k:Nat)(p:Int):Prop:=∀ w:World,Calls Tryz.prog 53 #[.string s] w fun x w'=>x = .returned (.tuple #[.pointer none,.int .i64 k,.int .i64 p])/\Q8 w w'
end
section
open Sm (Tree)
theorem asks_of {F:Nat}{t:Tree}{W:Int->Bool}(h:Pro.qL F t)(hW:((Sm.prg F t).2.any askS)=true->W=Cs.zT 119):Prg.Asks (Sm.prg F t).2 W:=fun p s hs hk=>by
 have h1:=Sm.prg_asks h s (xP hs) hk;refine ⟨h1,fun h2=>hW (List.any_eq_true.2 ⟨s,xP hs,?_⟩)⟩;unfold askS;simp [hk];omega
end
section
open Go.RowKit
open Sm (Tree)

end
end Go.Proofs.YtcgleficedipkaaGreatDoor
