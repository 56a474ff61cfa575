/- The program's Compile and Size, over its reader. -/
import Derived.Test.YtfnkbmglodopkaaGreatDoorZErrAErrD
import Derived.Test.YtfnkbmglodopkaaGreatDoorZPrgEPrgH
namespace Go.Proofs.YtfnkbmglodopkaaGreatDoor
section
open Go.RowKit
open Sm (Tree capT)
set_option maxHeartbeats 2000000
set_option maxRecDepth 1000000
structure Start (w:World)(a:Nat→Addr):Prop where
 sents:zK w a
 rows:zw w a
 et:w.cell? ⟨10,0,none⟩=some (.iface 253 (.agg #[.pointer (some ⟨15,72,none⟩)]))
 size:10≤w.heap.size
theorem Start.keep {w w':World}{a:Nat→Addr}(h:Start w a)(k:zd (fun _=>False) w w'):Start w' a:=
 ⟨h.sents.keep k (fun _ _ f=>f),h.rows.keep k,zf k _ _ h.et (fun f=>f),Nat.le_trans h.size k.size⟩
theorem Z6 (g:Nat)(p:Int)(w:World)(hE:w.cell? ⟨10,0,none⟩=some (.iface 253 (.agg #[.pointer (some ⟨15,72,none⟩)])))(h1:w.cell? ⟨g,1,none⟩=some (.int .i64 p)) :
  Calls Tryz.prog 46 #[.iface 124 (.pointer (some ⟨g,0,none⟩))] w fun e w'=>e = .returned (.int .i64 p)∧zd (fun _=>False) w w':=by
 have hgl:g<w.heap.size:=World.block_lt_of_cell? w ⟨g,1,none⟩ h1
 have HA:=zb (as_set ⟨g,0,none⟩ ⟨w.heap.size,0,none⟩ (.pointer none) (w.alloc (.cells #[.pointer none] 124)) (zf ((zd.refl (fun _=>False) w).alloc _) _ _ hE (fun f=>f)) (zj w _ rfl _ _ 0 _ rfl) (zz w _ rfl _ _ 0))
 have HP:Hid (∀ w1,zd (zo w.heap.size) (w.alloc (.cells #[.pointer none] 124)) w1→w1.cell? ⟨g,1,none⟩=some (.int .i64 p)):=fun w1 hO=>
  zf hO _ _ (zf ((zd.refl (fun _=>False) w).alloc _) _ _ h1 (fun f=>f)) (fun e=>by have:g=w.heap.size:=e;omega)
 clear hE
 go_enter Tryz.func46,Tryz.ntmps46
 go_wp2_with (go_at_call 64;refine (za HA).mono ?_;rintro e w1 ⟨rfl,hc,hO⟩;have h1w:=(za HP) w1 hO)
 go_ret
 exact ⟨rfl,((zd.refl (fun _=>False) w).alloc _).later hO (fun i hi=>by unfold zo at hi;omega)⟩
def JB (s:ByteArray)(a:Nat→Addr)(k:Nat)(p:Int)(w:World):Prop:=
 Calls Tryz.prog 44 #[.string s] w fun x w'=>∃ v,x = .returned (.tuple #[.nilIface,v])∧zA w' w.heap.size v (zE a k) p∧zd (fun _=>False) w w'
def XB (s:ByteArray)(t:Tree)(v:Int)(w:World):Prop:=
 Calls Tryz.prog 44 #[.string s] w fun x w'=>(∃ T y F,x = .returned (.tuple #[.iface T y,.nilIface])∧zu F w' (fun g=>w.heap.size≤g) (.iface T y) t∧capT F t=v)∧zd (fun _=>False) w w'
def XC (t:Tree):Prop:=∀ f,Pro.qo f t∧Pro.qp f t∧Pro.ju f t
theorem Z7 (s:ByteArray)(w:World)(a:Nat→Addr)(k:Nat)(p:Int)(hS:Start w a)(k1:1≤k)(k2:k≤8)(hp:JB s a k p w) :
  Calls Tryz.prog 15 #[.string s] w fun x w'=>x = .returned (.tuple #[.pointer none,.int .i64 k,.int .i64 p])∧zd (fun _=>False) w w':=by
 have HS:=zb hS
 have HP:=zb hp
 clear hS hp
 go_enter Tryz.func15,Tryz.ntmps15
 go_wp2_with (first |(go_at_call 44;refine (za HP).mono ?_;rintro e w1 ⟨v,rfl,hv,hO1⟩;have HV:=zb hv;obtain ⟨g,hg,rfl,f0,f1⟩:=hv;have H0:=zb f0;have H1:=zb f1;clear f0 f1 HV) |(go_at_call 45;refine (Zq g k a _ ((za HS).keep hO1).sents ((za HS).keep hO1).rows k1 k2 (za H0)).mono ?_;rintro e wq ⟨rfl,hwq⟩;obtain rfl:=hwq.symm;clear hwq) |(go_at_call 46;refine (Z6 g p _ ((za HS).keep hO1).et (za H1)).mono ?_;rintro e w2 ⟨rfl,hO2⟩))
 go_ret3
 exact ⟨rfl,hO1.trans hO2⟩
theorem yM.mono {A B:Nat→Prop}{w:World}{pb:Nat}{N:List Sm.Stp}{st:Nat}{W:Int→Bool}(h:yM w A pb N st W)(hAB:∀ g,A g→B g):yM w B pb N st W:=by
 obtain ⟨g,cap,h1,h2,h3,h4⟩:=h.c0
 obtain ⟨sv,h5,h6⟩:=h.c2
 refine ⟨hAB _ h.own,⟨g,cap,h1,hAB _ h2,h3,fun k s hk=>?_⟩,h.c1,⟨sv,h5,h6.mono (fun g _ h=>hAB g h)⟩,h.len,h.fit,h.stl⟩
 obtain ⟨q0,⟨x,q1,q2⟩,q3⟩:=h4 k s hk
 exact ⟨q0,⟨x,q1,q2.mono (fun g _ h=>hAB g h)⟩,q3⟩
theorem size_any (g:Nat)(z:Int)(w:World)(h0:w.cell? ⟨g,0,none⟩=some (.int .i64 z)) :
  Calls Tryz.prog 16 #[.pointer (some ⟨g,0,none⟩)] w fun x w'=>x = .returned (.int .i64 z)∧zd (fun _=>False) w w':=by
 go_enter Tryz.func16,Tryz.ntmps16
 go_wp2_with fail
 go_ret
 exact ⟨rfl,zd.refl _ _⟩
open Sm (Tree)
theorem Qm (g pb st n:Nat)(s:ByteArray)(N:List Sm.Stp)(W:Int→Bool)(A:Nat→Prop)(w:World)(a:Nat→Addr)(hS:Start w a)(hs:s.size≤400)(hc:(Ref.zJ s).2<0)(hg:w.cell? ⟨g,1,none⟩=some (.pointer (some ⟨pb,0,none⟩)))(hP:yM w A pb N st W)(hn:n≤(Pro.letM s (s.size+1) 0).length) :
  Calls Tryz.prog 18 #[.pointer (some ⟨g,0,none⟩),.string s,.int .i64 (n:Nat)] w fun x w'=>∃ sv js,x = .returned (.tuple #[sv,.int .i64 0,.int .i64 0])∧w'.ownsRow w.heap.size 3 1 sv js.length (zD js)∧kI (Pro.letM s (s.size+1) 0).length (Prg.GoP W (Pro.letM s (s.size+1) 0) N st n 0) js∧zd (fun _=>False) w w':=by
 have HL:=zb (qB s 400 (by omega) hs w a hS.sents hS.size hc)
 have hl:(Pro.letM s (s.size+1) 0).length≤s.size:=by rw [←(Prg.jO.of s).len];exact Ref.jk s
 generalize Pro.letM s (s.size+1) 0=L at *
 have HP:=zb hP
 have HG:=zb hg
 clear hS hP hg hc
 have hd:decide ((n:Int)<0)=false:=by simp
 go_enter Tryz.func18,Tryz.ntmps18
 go_wp2_with (first |(go_at_call 50;refine (za HL).mono ?_;rintro e w1 ⟨v,rfl,hv,hO1⟩;have HV:Hid (qX w1 v L):=(by show qX w1 v L;rcases XN hv with ⟨h1,h2⟩ |⟨gl,cap,h1,h2,_,h3⟩;exact .inl ⟨h1,h2⟩;exact .inr ⟨gl,cap,h1,h2,h3⟩);obtain ⟨va,vc,rfl⟩:=(za HV).slice;clear hv;have hg1:=zf hO1 _ _ (za HG) (fun f=>f)) |(go_at_call 51;refine (VC pb st n N W L _ A _ ((za HP).keep hO1 (fun _ _ f=>f)) (za HV) hn (by omega)).mono ?_;rintro e w2 ⟨sv,js,rfl,hr,he,hO2⟩;have HR:=zb hr;have HE:=zb he;clear hr he))
 go_ret3
 exact ⟨sv,js,rfl,yI (za HR) hO1.size,za HE,hO1.trans hO2⟩
end
end Go.Proofs.YtfnkbmglodopkaaGreatDoor
