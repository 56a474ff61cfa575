/- The program's Compile and Size, over its reader. -/
import Derived.Test.YtnagphodmfejiaaGreatDoorX25
import Derived.Test.YtnagphodmfejiaaGreatDoorX32
import Derived.Test.YtnagphodmfejiaaGreatDoorX20
namespace Go.Proofs.YtnagphodmfejiaaGreatDoor
section
open Go.RowKit
open Sm (Tree capT)
set_option maxHeartbeats 2000000
set_option maxRecDepth 1000000
structure Start (w:World)(a:Nat→Addr):Prop where
 sents:ym w a
 rows:zK w a
 et:w.cell? ⟨10,0,none⟩=some (.iface 303 (.agg #[.pointer (some ⟨15,92,none⟩)]))
 size:10≤w.heap.size
theorem Start.keep {w w':World}{a:Nat→Addr}(h:Start w a)(k:zf (fun _=>False) w w'):Start w' a:=
 ⟨h.sents.keep k (fun _ _ f=>f),h.rows.keep k,zg k _ _ h.et (fun f=>f),Nat.le_trans h.size k.size⟩
theorem Jo (g:Nat)(p:Int)(w:World)(hE:w.cell? ⟨10,0,none⟩=some (.iface 303 (.agg #[.pointer (some ⟨15,92,none⟩)])))(h1:w.cell? ⟨g,1,none⟩=some (.int .i64 p)) :
  Calls Tryz.prog 32 #[.iface 140 (.pointer (some ⟨g,0,none⟩))] w fun e w'=>e = .returned (.int .i64 p)∧zf (fun _=>False) w w':=by
 have hgl:g<w.heap.size:=World.block_lt_of_cell? w ⟨g,1,none⟩ h1
 have HA:=ze (as_set ⟨g,0,none⟩ ⟨w.heap.size,0,none⟩ (.pointer none) (w.alloc (.cells #[.pointer none] 140)) (zg ((zf.refl (fun _=>False) w).alloc _) _ _ hE (fun f=>f)) (zo w _ rfl _ _ 0 _ rfl) (zv w _ rfl _ _ 0))
 have HP:Hid (∀ w1,zf (zm w.heap.size) (w.alloc (.cells #[.pointer none] 140)) w1→w1.cell? ⟨g,1,none⟩=some (.int .i64 p)):=fun w1 hO=>
  zg hO _ _ (zg ((zf.refl (fun _=>False) w).alloc _) _ _ h1 (fun f=>f)) (fun e=>by have:g=w.heap.size:=e;omega)
 clear hE
 go_enter Tryz.func32,Tryz.ntmps32
 go_wp2_with (go_at_call 58;refine (zb HA).mono ?_;rintro e w1 ⟨rfl,hc,hO⟩;have h1w:=(zb HP) w1 hO)
 go_ret
 exact ⟨rfl,((zf.refl (fun _=>False) w).alloc _).later hO (fun i hi=>by unfold zm at hi;omega)⟩
def zaU (s:ByteArray)(a:Nat→Addr)(k:Nat)(p:Int)(w:World):Prop:=
 Calls Tryz.prog 30 #[.string s] w fun x w'=>∃ v,x = .returned (.tuple #[.nilIface,v])∧zR w' w.heap.size v (zY a k) p∧zf (fun _=>False) w w'
def K8 (s:ByteArray)(t:Tree)(v:Int)(w:World):Prop:=
 Calls Tryz.prog 30 #[.string s] w fun x w'=>(∃ T y F,x = .returned (.tuple #[.iface T y,.nilIface])∧zF F w' (fun g=>w.heap.size≤g) (.iface T y) t∧capT F t=v)∧zf (fun _=>False) w w'
def zaV (t:Tree):Prop:=∀ f,Pro.jX f t∧Pro.jY f t∧Pro.jj f t
theorem zaW (s:ByteArray)(w:World)(a:Nat→Addr)(k:Nat)(p:Int)(hS:Start w a)(k1:1≤k)(k2:k≤8)(hp:zaU s a k p w) :
  Calls Tryz.prog 16 #[.string s] w fun x w'=>x = .returned (.tuple #[.pointer none,.int .i64 k,.int .i64 p])∧zf (fun _=>False) w w':=by
 have HS:=ze hS
 have HP:=ze hp
 clear hS hp
 go_enter Tryz.func16,Tryz.ntmps16
 go_wp2_with (first |(go_at_call 30;refine (zb HP).mono ?_;rintro e w1 ⟨v,rfl,hv,hO1⟩;have HV:=ze hv;obtain ⟨g,hg,rfl,f0,f1⟩:=hv;have H0:=ze f0;have H1:=ze f1;clear f0 f1 HV) |(go_at_call 31;refine (X7 g k a _ ((zb HS).keep hO1).sents ((zb HS).keep hO1).rows k1 k2 (zb H0)).mono ?_;rintro e wq ⟨rfl,hwq⟩;obtain rfl:=hwq.symm;clear hwq) |(go_at_call 32;refine (Jo g p _ ((zb HS).keep hO1).et (zb H1)).mono ?_;rintro e w2 ⟨rfl,hO2⟩))
 go_ret3
 exact ⟨rfl,hO1.trans hO2⟩
theorem jV.mono {A B:Nat→Prop}{w:World}{pb:Nat}{N:List Sm.Stp}{st:Nat}{W:Int→Bool}(h:jV w A pb N st W)(hAB:∀ g,A g→B g):jV w B pb N st W:=by
 obtain ⟨g,cap,h1,h2,h3,h4⟩:=h.c0
 obtain ⟨sv,h5,h6⟩:=h.c2
 refine ⟨hAB _ h.own,⟨g,cap,h1,hAB _ h2,h3,fun k s hk=>?_⟩,h.c1,⟨sv,h5,h6.mono (fun g _ h=>hAB g h)⟩,h.len,h.fit,h.stl⟩
 obtain ⟨q0,⟨x,q1,q2⟩,q3⟩:=h4 k s hk
 exact ⟨q0,⟨x,q1,q2.mono (fun g _ h=>hAB g h)⟩,q3⟩
structure kn (w:World)(B g:Nat)(t:Tree)(v:Int):Prop where
 size:w.cell? ⟨g,0,none⟩=some (.int .i64 (min (v+1) 301))
 prog:∃ pb F W,w.cell? ⟨g,1,none⟩=some (.pointer (some ⟨pb,0,none⟩))∧jV w (fun k=>B≤k) pb (Sm.prg F t).2 (Sm.prg F t).1 W∧(((Sm.prg F t).2.any askS)=true→W=Cs.zZ 119)∧Pro.jj F t∧Sm.WF F t
theorem kn.mono {w:World}{B B' g:Nat}{t:Tree}{v:Int}(h:kn w B g t v)(hb:B'≤B):kn w B' g t v:=by
 obtain ⟨pb,F,W,h1,h2,h3⟩:=h.prog
 exact ⟨h.size,pb,F,W,h1,h2.mono (fun k hk=>Nat.le_trans hb hk),h3⟩
theorem kn.keep {P:Nat→Prop}{w w':World}{B g:Nat}{t:Tree}{v:Int}(h:kn w B g t v)(k:zf P w w')(hn:∀ k,B≤k→¬P k)(hg:B≤g):kn w' B g t v:=by
 obtain ⟨pb,F,W,h1,h2,h3⟩:=h.prog
 exact ⟨zg k _ _ h.size (hn _ hg),pb,F,W,zg k _ _ h1 (hn _ hg),h2.keep k hn,h3⟩
theorem WI (s:ByteArray)(w:World)(t:Tree)(v:Int)(hv:v<300)(ht:zaV t)(hp:K8 s t v w) :
  Calls Tryz.prog 16 #[.string s] w fun x w'=>∃ g,x = .returned (.tuple #[.pointer (some ⟨g,0,none⟩),.int .i64 0,.int .i64 0])∧w.heap.size≤g∧kn w' w.heap.size g t v∧zf (fun _=>False) w w':=by
 have HP:=ze hp
 have HT:=ze ht
 clear hp ht
 go_enter Tryz.func16,Tryz.ntmps16
 go_wp2_with (first |(go_at_call 30;refine (zb HP).mono ?_;rintro e w1 ⟨⟨T,y,F,rfl,hq,hcap⟩,hO1⟩;have HV:=ze hq;have Hcap:=ze hcap;clear hq hcap) |(go_at_call 33;refine (kD F _ _ _ v (by have h9:=(zb HV).size;rw [zb Hcap] at h9;exact h9)).mono ?_;rintro e w3 ⟨rfl,hO3⟩;have HQ:Hid (ZE F w3 w3.heap.size (.iface T y) t):=⟨zF.keep hO3 (fun _ _ f=>f) F _ _ (zb HV) |> zF.mono (fun g hg _=>hg) F _ _,(zb HT F).1,(zb HT F).2.1⟩) |(go_at_call 34;refine (newP_any F t (.iface T y) _ (zb HQ) ⟨_,_,rfl⟩ (by have:=zb Hcap;omega)).mono ?_;rintro e w4 ⟨pb,W,rfl,hPr,hW,hO4⟩;have HPr:=ze hPr;have HW:=ze hW;clear hPr hW))
 go_ret3
 have hs1:=hO1.size
 have hs3:=hO3.size
 have hk:zf (fun _=>False) w4 (w4.alloc (.cells #[.int .i64 (min (v+1) 301),.pointer (some ⟨pb,0,none⟩)] 67)):=(zf.refl _ _).alloc _
 refine ⟨_,rfl,by have:=hO4.size;omega,⟨zo _ _ rfl _ _ 0 _ rfl,pb,F,W,zo _ _ rfl _ _ 1 _ rfl,?_,zb HW,(zb HT F).2.2,(zb HV).wf⟩,((hO1.trans hO3).trans hO4).alloc _⟩
 exact ((zb HPr).keep hk (fun _ _ f=>f)).mono (fun k h=>by omega)
theorem WJ (g:Nat)(z:Int)(w:World)(h0:w.cell? ⟨g,0,none⟩=some (.int .i64 z)) :
  Calls Tryz.prog 8 #[.pointer (some ⟨g,0,none⟩)] w fun x w'=>x = .returned (.int .i64 z)∧zf (fun _=>False) w w':=by
 go_enter Tryz.func8,Tryz.ntmps8
 go_wp2_with fail
 go_ret
 exact ⟨rfl,zf.refl _ _⟩
open Sm (Tree)
def RefBad (s:ByteArray)(k:Nat)(p:Int):Prop:=∀ w:World,Calls Tryz.prog 17 #[.string s] w fun x w'=>x = .returned (.tuple #[.pointer none,.int .i64 k,.int .i64 p])∧zf (fun _=>False) w w'
end
end Go.Proofs.YtnagphodmfejiaaGreatDoor
