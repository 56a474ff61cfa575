/- The program of a pattern, made. -/
import Derived.Test.YtnagphodmfejiaaGreatDoorXBldCPrgK
import Derived.Deep.RegionHeld3
import Derived.Test.YtnagphodmfejiaaGreatDoorRows
import Derived.ChangeSame
import Derived.ChangeVars
import Derived.JoinedOf
import Derived.RowKit
import Derived.LaidLaws
import Derived.LaidHandle
import Derived.LaidSub
import Derived.Stop.Joined
namespace Go.Proofs.YtnagphodmfejiaaGreatDoor
section
open Go.RowKit Go.Shelf
open Sm (Stp)
abbrev Stl:=Nat×Slc×Int×Nat×Nat
def vK (x:Stl):List Value:=[.int .i64 (x.1:Nat),slV x.2.1,.int .i64 x.2.2.1,.int .i64 (x.2.2.2.1:Nat),.int .i64 (x.2.2.2.2:Nat)]
def asksW (x:Stl):Bool:=decide (x.1=2) && (decide (x.2.2.1=2) ||decide (x.2.2.1=3))
theorem asks_any (x:Stl)(w:World):Calls Tryz.prog 63 #[.agg (vK x).toArray] w fun e w'=>e = .returned (.bool (asksW x))∧Only (fun _=>False) w w':=by
 obtain ⟨k,⟨pa,pn,pc⟩,a,n,o⟩:=x
 unfold vK asksW slV
 simp only []
 have HO:Hid (Only (fun _=>False) w (w.alloc (.cells #[.int .i64 (k:Nat),.slice pa pn pc,.int .i64 a,.int .i64 (n:Nat),.int .i64 (o:Nat)] 156))):=(Only.refl _ _).alloc _
 by_cases hk:k=2
 ·subst hk
  by_cases h2:a=2
  ·subst h2
   go_enter Tryz.func63,Tryz.ntmps63
   go_wp2
   go_ret
   exact ⟨by simp,zb HO⟩
  ·have h2d:(a == 2)=false:=by simp [h2]
   by_cases h3:a=3
   ·subst h3
    go_enter Tryz.func63,Tryz.ntmps63
    go_wp2
    go_ret
    exact ⟨by simp,zb HO⟩
   ·have h3d:(a == 3)=false:=by simp [h3]
    go_enter Tryz.func63,Tryz.ntmps63
    go_wp2
    go_ret
    exact ⟨by simp [h2,h3],zb HO⟩
 ·have hkd:((k:Int) == 2)=false:=by simp;omega
  go_enter Tryz.func63,Tryz.ntmps63
  go_wp2
  go_ret
  exact ⟨by simp [hk],zb HO⟩
theorem K0 (pb:Nat)(w:World):Calls Tryz.prog 66 #[.pointer (some ⟨pb,0,none⟩)] w fun e w'=>∃ v,e = .returned v∧∃ kb,v = .func (.func 121) #[] #[.pointer (some ⟨kb,0,none⟩)]∧w.heap.size≤kb∧w'.cell? ⟨kb,0,none⟩=some (.pointer (some ⟨pb,0,none⟩))∧Only (fun _=>False) w w':=by
 have HO:Hid (∃ kb,Value.func (.func 121) #[] #[.pointer (some ⟨w.heap.size,0,none⟩)] = .func (.func 121) #[] #[.pointer (some ⟨kb,0,none⟩)]∧w.heap.size≤kb∧(w.alloc (.cells #[.pointer (some ⟨pb,0,none⟩)] 65)).cell? ⟨kb,0,none⟩=some (.pointer (some ⟨pb,0,none⟩))∧Only (fun _=>False) w (w.alloc (.cells #[.pointer (some ⟨pb,0,none⟩)] 65))):=⟨_,rfl,Nat.le_refl _,zm w _ rfl _ _ 0 _ rfl,(Only.refl _ _).alloc _⟩
 go_enter Tryz.func66,Tryz.ntmps66
 go_wp2_with fail
 go_ret
 exact ⟨_,rfl,zb HO⟩
structure NewAt (w V:World)(pb g cap st:Nat)(Z:List (Stp×Value))(ws:Slc)(W:Int→Bool):Prop where
 at':StpsAt V pb g cap Z (slV ws)
 c1:V.cell? ⟨pb,1,none⟩=some (.int .i64 (st:Nat))
 c3:∃ u,V.cell? ⟨pb,3,none⟩=some u
 f2:V.frozen? ⟨pb,2,none⟩=false
 f3:V.frozen? ⟨pb,3,none⟩=false
 sets:∀ z∈Z,SetAt V (fun k=>w.heap.size≤k∧k≠pb) (.agg #[z.2]) (Prg.setP z.1)
 word:SetAt V (fun k=>w.heap.size≤k∧k≠pb) (.agg #[slV ws]) W
 own:w.heap.size≤pb∧w.heap.size≤g∧g≠pb
 only:Only (fun _=>False) w V
theorem NewAt.pl {w V:World}{pb g cap st:Nat}{Z:List (Stp×Value)}{ws:Slc}{W:Int→Bool}(h:NewAt w V pb g cap st Z ws W):pb<V.heap.size:=World.block_lt_of_cell? _ _ h.c1
theorem NewAt.keep {w V V':World}{pb g cap st:Nat}{Z:List (Stp×Value)}{ws:Slc}{W:Int→Bool}(h:NewAt w V pb g cap st Z ws W)(k:Only (fun _=>False) V V'):NewAt w V' pb g cap st Z ws W:=by
 have hp:=h.pl
 obtain ⟨u,hu⟩:=h.c3
 have kc:∀ o u,V.cell? ⟨pb,o,none⟩=some u→V'.cell? ⟨pb,o,none⟩=some u:=fun o u e=>(k.cell (p:=⟨pb,o,none⟩) hp (fun f=>f)).trans e
 exact ⟨⟨kc _ _ h.at'.c0,kc _ _ h.at'.c2,h.at'.le,fun j u e=>(k.cell (p:=⟨g,j,none⟩) h.at'.gl (fun f=>f)).trans (h.at'.row j u e),Nat.lt_of_lt_of_le h.at'.gl k.size⟩,kc _ _ h.c1,⟨u,kc _ _ hu⟩,
  (k.frozen (p:=⟨pb,2,none⟩) hp (fun f=>f)).trans h.f2,(k.frozen (p:=⟨pb,3,none⟩) hp (fun f=>f)).trans h.f3,fun z hz=>(h.sets z hz).keep k (fun _ _ f=>f),h.word.keep k (fun _ _ f=>f),h.own,h.only.trans k⟩
theorem NewAt.setOther {w V:World}{pb g cap st:Nat}{Z:List (Stp×Value)}{ws:Slc}{W:Int→Bool}(h:NewAt w V pb g cap st Z ws W)(u:Value):NewAt w (V.setCell ⟨pb,3,none⟩ u) pb g cap st Z ws W:=by
 have k:Only (fun k=>k=pb) V (V.setCell ⟨pb,3,none⟩ u):=(Only.refl (fun k=>k=pb) V).setCell (p:=⟨pb,3,none⟩) (.inl rfl) _
 obtain ⟨u3,hu⟩:=h.c3
 have hgp:=h.own.2.2
 exact ⟨⟨(World.cell?_setCell_other _ _ _ _ (by simp)).trans h.at'.c0,(World.cell?_setCell_other _ _ _ _ (by simp)).trans h.at'.c2,h.at'.le,fun j u e=>(k.cell (p:=⟨g,j,none⟩) h.at'.gl hgp).trans (h.at'.row j u e),Nat.lt_of_lt_of_le h.at'.gl k.size⟩,(World.cell?_setCell_other _ _ _ _ (by simp)).trans h.c1,⟨u,World.cell?_setCell_same _ _ _ hu⟩,
  (zi _ _ _ _).trans h.f2,(zi _ _ _ _).trans h.f3,fun z hz=>(h.sets z hz).keep k (fun _ h2 e=>h2.2 e),h.word.keep k (fun _ h2 e=>h2.2 e),h.own,h.only.setCell (p:=⟨pb,3,none⟩) (.inr h.own.1) u⟩
theorem NewAt.setWord {w V:World}{pb g cap st:Nat}{Z:List (Stp×Value)}{ws ws':Slc}{W W':Int→Bool}(h:NewAt w V pb g cap st Z ws W)(hs:SetAt V (fun k=>w.heap.size≤k∧k≠pb) (.agg #[slV ws']) W'):NewAt w (V.setCell ⟨pb,2,none⟩ (slV ws')) pb g cap st Z ws' W':=by
 have k:Only (fun k=>k=pb) V (V.setCell ⟨pb,2,none⟩ (slV ws')):=(Only.refl (fun k=>k=pb) V).setCell (p:=⟨pb,2,none⟩) (.inl rfl) _
 obtain ⟨u3,hu⟩:=h.c3
 have hgp:=h.own.2.2
 exact ⟨⟨(World.cell?_setCell_other _ _ _ _ (by simp)).trans h.at'.c0,World.cell?_setCell_same _ _ _ h.at'.c2,h.at'.le,fun j u e=>(k.cell (p:=⟨g,j,none⟩) h.at'.gl hgp).trans (h.at'.row j u e),Nat.lt_of_lt_of_le h.at'.gl k.size⟩,(World.cell?_setCell_other _ _ _ _ (by simp)).trans h.c1,⟨u3,(World.cell?_setCell_other _ _ _ _ (by simp)).trans hu⟩,
  (zi _ _ _ _).trans h.f2,(zi _ _ _ _).trans h.f3,fun z hz=>(h.sets z hz).keep k (fun _ h2 e=>h2.2 e),hs.keep k (fun _ h2 e=>h2.2 e),h.own,h.only.setCell (p:=⟨pb,2,none⟩) (.inr h.own.1) _⟩
theorem JO {w:World}{A:Nat→Prop}{x:Value}{S:Int→Bool}(h:SetAt w A (.agg #[x]) S):∃ p:Slc,x=slV p:=by
 obtain ⟨sv,sp,h1,h2,_⟩:=h
 simp at h1
 subst h1
 rcases h2 with ⟨h2,_⟩ |⟨g,cap,h2,_⟩
 ·exact ⟨(none,0,0),h2⟩
 ·exact ⟨(_,_,_),h2⟩
theorem slcs {w:World}{A:Nat→Prop}:∀ (Z:List (Stp×Value)),(∀ z∈Z,SetAt w A (.agg #[z.2]) (Prg.setP z.1))→∃ zs:List Slc,Z.map Prod.snd=zs.map slV
 | [],_=>⟨[],rfl⟩
 |z :: Z,h=>by
  obtain ⟨zs,e⟩:=slcs Z (fun y hy=>h y (List.mem_cons_of_mem _ hy))
  obtain ⟨p,hp⟩:=JO (h z List.mem_cons_self)
  exact ⟨p :: zs,by simp [e,hp]⟩
theorem NewAt.spans {w V:World}{pb g cap st:Nat}{Z:List (Stp×Value)}{ws:Slc}{W:Int→Bool}{zs:List Slc}(h:NewAt w V pb g cap st Z ws W)(hz:Z.map Prod.snd=zs.map slV):∀ p∈ws :: zs,∃ l A,SpanRow V A (slV p) l∧Cs.Rising l:=by
 have one:∀ (p:Slc) (S:Int→Bool),SetAt V (fun k=>w.heap.size≤k∧k≠pb) (.agg #[slV p]) S→∃ l A,SpanRow V A (slV p) l∧Cs.Rising l:=fun p S hs=>by
  obtain ⟨sv,sp,h1,h2,h3,_⟩:=hs
  simp at h1
  subst h1
  exact ⟨sp,_,h2,h3⟩
 intro p hp
 rcases List.mem_cons.1 hp with rfl |hp
 ·exact one _ _ h.word
 ·have:slV p∈Z.map Prod.snd:=by rw [hz];exact List.mem_map_of_mem hp
  obtain ⟨z,hzm,hze⟩:=List.mem_map.1 this
  exact one p _ (hze ▸ h.sets z hzm)
theorem NewAt.prog {w V:World}{pb g cap st:Nat}{Z:List (Stp×Value)}{ws:Slc}{W:Int→Bool}(h:NewAt w V pb g cap st Z ws W)(hl:Z.length≤300)(hf:∀ (k:Nat) s,(sts Z)[k]?=some s→s.next<(sts Z).length∧s.other<(sts Z).length)(hst:st<(sts Z).length):ProgAt V (fun k=>w.heap.size≤k) pb (sts Z) st W:=by
 refine ⟨h.own.1,⟨g,cap,by rw [zX];exact h.at'.c0,h.own.2.1,by rw [zX];exact h.at'.le,fun k s hk=>?_⟩,h.c1,⟨slV ws,h.at'.c2,h.word.mono (fun _ _ h=>h.1)⟩,by rw [zX];exact hl,hf,hst⟩
 unfold sts at hk
 rw [List.getElem?_map] at hk
 obtain ⟨z,hz,rfl⟩:=Option.map_eq_some_iff.1 hk
 obtain ⟨f0,f1,f2,f3,f4⟩:=jH Z k z hz
 exact ⟨h.at'.row _ _ f0,⟨z.2,h.at'.row _ _ f1,(h.sets z (List.mem_of_getElem? hz)).mono (fun _ _ h=>h.1)⟩,h.at'.row _ _ f2,h.at'.row _ _ f3,h.at'.row _ _ f4⟩
end
section
open Go.RowKit Go.Shelf Go.Lib
open Sm (Stp Tree capT)
set_option maxHeartbeats 4000000
set_option maxRecDepth 1000000
def slcOf:Value→Slc
 | .slice a n c=>(a,n,c)
 |_=>(none,0,0)
def XL (z:Stp×Value):Stl:=(z.1.kind,slcOf z.2,z.1.asr,z.1.next,z.1.other)
def askS (s:Stp):Bool:=decide (s.kind=2) && (decide (s.asr=2) ||decide (s.asr=3))
theorem XM (Z:List (Stp×Value))(g cap:Nat)(V:World)(hz:∀ z∈Z,∃ p:Slc,z.2=slV p)(hrow:∀ j u,(yr Z)[j]?=some u→V.cell? ⟨g,j,none⟩=some u)(hg:g<V.heap.size)(hl:Z.length≤1000) :
  Calls Tryz.prog 62 #[.slice (some ⟨g,0,none⟩) Z.length cap,.func (.func 63) #[] #[]] V fun e V'=>e = .returned (.bool (Z.any (fun z=>askS z.1)))∧Only (fun _=>False) V V':=by
 have hcell:∀ j,j<(Z.map XL).length→∀ i v,(vK (Z.map XL)[j]!)[i]?=some v→V.cell? ⟨g,0+j*5+i,none⟩=some v:=by
  intro j hj i v hi
  have hjZ:j<Z.length:=by simpa using hj
  have hget:Z[j]?=some Z[j]:=List.getElem?_eq_getElem hjZ
  obtain ⟨p,hp⟩:=hz Z[j] (List.getElem_mem hjZ)
  obtain ⟨f0,f1,f2,f3,f4⟩:=jH Z j _ hget
  have e:(Z.map XL)[j]! = XL Z[j]:=by rw [getElem!_pos _ j hj];simp
  rw [e] at hi
  have e2:vK (XL Z[j])=[.int .i64 (Z[j].1.kind:Nat),Z[j].2,.int .i64 Z[j].1.asr,.int .i64 (Z[j].1.next:Nat),.int .i64 (Z[j].1.other:Nat)]:=by
   unfold vK XL;simp only [];rw [hp];rfl
  rw [e2] at hi
  rw [Nat.zero_add]
  match i,hi with
  |0,hi=>simp at hi;subst hi;exact hrow _ _ f0
  |1,hi=>simp at hi;subst hi;exact hrow _ _ f1
  |2,hi=>simp at hi;subst hi;exact hrow _ _ f2
  |3,hi=>simp at hi;subst hi;exact hrow _ _ f3
  |4,hi=>simp at hi;subst hi;exact hrow _ _ f4
  |n+5,hi=>simp at hi
 have hpred:PredBelow Tryz.prog 63 #[] (fun x:Stl=>.agg (vK x).toArray) asksW V:=fun W x hb=>by
  have:=asks_any x W
  refine Calls.mono (by simpa using this) ?_
  rintro e w' ⟨rfl,hO⟩
  exact ⟨rfl,hb.trans (hO.below.mono hb.size)⟩
 refine (AnyQ.slices_ContainsFunc laidContains 5 (fun w=>by kernel_rfl) (fun w=>by kernel_rfl) vK (fun x=>by simp [vK]) asksW 63 #[] (enters_of Tryz.func63 (by kernel_rfl) rfl) g 0 Z.length cap (Z.map XL) V hpred (by simp) (by omega) hg hcell).mono ?_
 rintro e w' ⟨rfl,hb⟩
 refine ⟨?_,Only.ofBelow hb⟩
 rw [List.take_of_length_le (by simp),List.any_map]
 rfl
theorem K1 {w w3:World}{st:Nat}{Z:List (Stp×Value)}{sv:Value}(hB:BldAt w3 w.heap.size Z)(h1:w3.cell? ⟨w.heap.size,0,none⟩=some sv)(hne:0<Z.length)(hO:Only (fun _=>False) w w3):∃ g cap,sv = .slice (some ⟨g,0,none⟩) Z.length cap∧NewAt w (w3.alloc (.cells #[sv,.int .i64 (st:Nat),.slice none 0 0,.slice none 0 0] 160)) w3.heap.size g cap st Z (none,0,0) (fun _=>false):=by
 obtain ⟨sv',h1',h2,h3⟩:=hB.ex
 obtain rfl:sv=sv':=Option.some.inj (h1.symm.trans h1')
 have hs:=hO.size
 have k:Only (fun _=>False) w3 (w3.alloc (.cells #[sv,.int .i64 (st:Nat),.slice none 0 0,.slice none 0 0] 160)):=(Only.refl _ _).alloc _
 have hbl:=fun g=>zg h2 g
 rcases h2.2 with ⟨rfl,hz⟩ |⟨g,cap,cur,rfl,hbg,hg,hnc,hcm,hcs,htake⟩
 ·omega
 ·have hgl:=(hbl g rfl).2
  refine ⟨g,cap,rfl,⟨zm w3 _ rfl _ _ 0 _ rfl,zm w3 _ rfl _ _ 2 _ rfl,hnc,fun j u hj=>?_,by simp;omega⟩,zm w3 _ rfl _ _ 1 _ rfl,⟨_,zm w3 _ rfl _ _ 3 _ rfl⟩,zu w3 _ rfl _ _ 2,zu w3 _ rfl _ _ 3,fun z hz=>?_,SetAt.none _ _ _ (fun _=>rfl),⟨hs,by omega,by omega⟩,hO.trans k⟩
  ·refine (k.cell (p:=⟨g,j,none⟩) hgl (fun f=>f)).trans ?_
   have hj2:j<Z.length*5:=by have:=(List.getElem?_eq_some_iff.1 hj).1;rwa [Kq] at this
   have e1:(cur.toList.take (Z.length*5))[j]?=(yr Z)[j]?:=by rw [htake]
   rw [List.getElem?_take_of_lt hj2,hj] at e1
   unfold World.cell?
   rw [hg]
   simpa using e1
  ·exact ((h3 z hz).mono (B:=fun k=>w.heap.size≤k∧k≠w3.heap.size) (fun q hq h=>⟨by omega,by omega⟩)).keep k (fun _ _ f=>f)
theorem newP_any (F:Nat)(T:Tree)(v:Value)(w:World)(hp:PrtOK F w w.heap.size v T)(hif:∃ T y,v = .iface T y)(hc:capT F T≤299) :
  Calls Tryz.prog 34 #[v] w fun e w'=>∃ pb W,e = .returned (.pointer (some ⟨pb,0,none⟩))∧ProgAt w' (fun g=>w.heap.size≤g) pb (Sm.prg F T).2 (Sm.prg F T).1 W∧(((Sm.prg F T).2.any askS)=true→W=Cs.zT 119)∧Only (fun _=>False) w w':=by
 obtain ⟨iT,iy,rfl⟩:=hif
 have hlen:((Sm.prg F T).2.length:Int)≤300:=by
  have:=Sm.Xc hp.at'.wf (by omega) 0 [Sm.qR]
  simp at this
  unfold Sm.prg
  omega
 have HP:=ze hp
 clear hp
 have HO1:Hid (Only (fun _=>False) w (w.alloc (.cells #[.slice none 0 0] 148))):=(Only.refl _ _).alloc _
 have HB1:Hid (BldAt (w.alloc (.cells #[.slice none 0 0] 148)) w.heap.size []):=⟨⟨.slice none 0 0,zm w _ rfl _ _ 0 _ rfl,World.ownsRow_nil _ _ _ _,fun z hz=>by cases hz⟩,zu w _ rfl _ _ 0⟩
 go_enter Tryz.func34,Tryz.ntmps34
 go_upto_region 4 with (first |(go_at_call 60;refine (kz w.heap.size [] Sm.qR _ (zb HB1) (by decide) (by decide)).mono ?_;rintro e w2 ⟨Z2,rfl,hZ2,hB2⟩;have HB2:=ze hB2;have HZ2:=ze hZ2;clear hB2 hZ2))
 have hs2:sts Z2=[Sm.qR]:=by have:=zb HZ2;simpa [sts] using this
 have hO2:Only (fun k=>w.heap.size≤k) w w2:=((zb HO1).mono (fun _ _ f=>f.elim)).trans (zb HB2).only
 have HBu:Hid (Calls Tryz.prog 61 #[.pointer (some ⟨w.heap.size,0,none⟩),.iface iT iy,.int .i64 0] w2 (kQ w2 w.heap.size (Sm.prg F T))):=by
  have hb:=zaP w.heap.size F (.iface iT iy) T 0 Z2 w2 ((zb HP).keep hO2) (zb HB2).at' (by rw [←zX,hs2];decide) (by rw [hs2];unfold Sm.prg at hlen;omega)
  rw [hs2] at hb
  exact hb
 clear hs2
 refine (zb HBu).mono ?_
 rintro e w3 ⟨Z,rfl,hZ,hB3⟩
 obtain ⟨sv,d1,_⟩:=hB3.at'.ex
 have hO3:Only (fun _=>False) w w3:=by
  have:=hO2.trans hB3.only
  exact ⟨this.os,this.tape,this.output,this.size,fun j hj _=>this.block j hj (by omega)⟩
 have hZl:Z.length=(Sm.prg F T).2.length:=by rw [←hZ,zX]
 have hpos:0<Z.length:=by
  have:=Sm.yN F T 0 [Sm.qR]
  simp at this
  unfold Sm.prg at hZl
  omega
 obtain ⟨g,cap,rfl,hN⟩:=K1 (st:=(Sm.prg F T).1) hB3.at' d1 hpos hO3
 have HN:=ze hN
 have HZ:=ze hZ
 have HZl:=ze hZl
 clear hZ hZl hN hB3 hO3 hO2
 have hZ300:Z.length≤300:=by have:=zb HZl;omega
 have HFit:Hid (∀ (k:Nat) s,(Sm.prg F T).2[k]?=some s→s.next<(Sm.prg F T).2.length∧s.other<(Sm.prg F T).2.length):=by
  intro k s hk
  exact Sm.Vx F T 0 [Sm.qR] (by simp) (fun s hs=>by obtain rfl:=List.mem_singleton.1 hs;decide) s (List.mem_of_getElem? hk)
 have HStl:Hid ((Sm.prg F T).1<(Sm.prg F T).2.length):=Sm.qi F T 0 [Sm.qR] (by simp)
 go_upto_region 5 with fail
 generalize w3.alloc (.cells #[.slice (some ⟨g,0,none⟩) Z.length cap,.int .i64 ((Sm.prg F T).1:Nat),.slice none 0 0,.slice none 0 0] 160)=w4 at *
 generalize w3.heap.size=pb at *
 have hc0:=(zb HN).at'.c0
 obtain ⟨zs,hzs⟩:=slcs Z (zb HN).sets
 have Hzs:=ze hzs
 clear hzs
 have HCo:=ze (XM Z g cap w4 (fun z hz=>JO ((zb HN).sets z hz)) (zb HN).at'.row (zb HN).at'.gl (by omega))
 have hany:Z.any (fun z=>askS z.1)=(Sm.prg F T).2.any askS:=by rw [←zb HZ];unfold sts;rw [List.any_map];rfl
 rw [hany] at HCo
 clear hany hpos d1
 cases hcb:(Sm.prg F T).2.any askS
 ·rw [hcb] at HCo
  have Hcb:=ze hcb
  clear hcb
  go_upto_region 7 with (go_at_call 62;refine (zb HCo).mono ?_;rintro e w5 ⟨rfl,hO5⟩;have HN6:=ze ((zb HN).keep hO5);clear hO5)
  go_wp2_with (first |(go_at_call 66;refine (K0 pb _).mono ?_;rintro e w8 ⟨v,rfl,kb,rfl,hkb1,hkb2,hO8⟩;have HN8:=ze ((zb HN6).keep hO8);have HK8:=ze hkb2;have hkl:=World.block_lt_of_cell? w8 _ hkb2;clear hO8 hkb2) |(go_at_call 65;refine (Xj 121 #[.pointer (some ⟨kb,0,none⟩)] (((none,0,0):Slc) :: zs) (fun k=>k=kb∨k=pb∨k=g) _ (enters_of Tryz.func121 (by kernel_rfl) rfl) (Ka pb g cap kb Z ((none,0,0):Slc) zs _ (zb HN8).at' (zb HK8) (zb Hzs) (by omega) 8 (by omega)) (fun k hk=>by rcases hk with rfl |rfl |rfl;exact hkl;exact (zb HN8).pl;exact (zb HN8).at'.gl) (by have h9:=congrArg List.length (zb Hzs);simp at h9;simp;omega) ((zb HN8).spans (zb Hzs))).mono ?_;rintro e w9 ⟨⟨ra,rk,rc,rfl⟩,hO9⟩;have hN9:=(zb HN8).keep hO9;(obtain ⟨u9,d3⟩:=hN9.c3);have f3:=hN9.f3;have HN9:=ze hN9;clear hO9 hN9))
  go_ret
  have hE:=(zb HN9).setOther (.slice ra rk rc)
  refine ⟨pb,(fun _=>false),rfl,?_,?_,hE.only⟩
  ·have hPr:=hE.prog (by omega) ?_ ?_
   ·rw [zb HZ] at hPr;exact hPr
   ·rw [zb HZ];exact zb HFit
   ·rw [zb HZ];exact zb HStl
  ·intro h;rw [zb Hcb] at h;cases h
 ·rw [hcb] at HCo
  clear hcb
  go_upto_region 7 with (first |(go_at_call 62;refine (zb HCo).mono ?_;rintro e w5 ⟨rfl,hO5⟩;have HN5:=ze ((zb HN).keep hO5);clear hO5) |(go_at_call 64;refine (vC _).mono ?_;rintro e w6 ⟨v,rfl,hS6,hO6⟩;(obtain ⟨sv6,sp6,rfl,_⟩:=id hS6);(obtain ⟨⟨pa6,pn6,pc6⟩,rfl⟩:=JO hS6);unfold slV at hS6 ⊢;simp only [] at hS6 ⊢;have hN6:=(zb HN5).keep hO6;have d2:=hN6.at'.c2;have f2:=hN6.f2;have HW:=ze (hN6.setWord (ws':=(pa6,pn6,pc6)) (W':=Cs.zT 119) (hS6.mono (fun q _ hq=>⟨by have:=(zb HN5).only.size;omega,by have:=(zb HN5).pl;omega⟩)));clear hN6 hS6 hO6))
  have HN6:=HW
  go_wp2_with (first |(go_at_call 66;refine (K0 pb _).mono ?_;rintro e w8 ⟨v,rfl,kb,rfl,hkb1,hkb2,hO8⟩;have HN8:=ze ((zb HN6).keep hO8);have HK8:=ze hkb2;have hkl:=World.block_lt_of_cell? w8 _ hkb2;clear hO8 hkb2) |(go_at_call 65;refine (Xj 121 #[.pointer (some ⟨kb,0,none⟩)] (((pa6,pn6,pc6):Slc) :: zs) (fun k=>k=kb∨k=pb∨k=g) _ (enters_of Tryz.func121 (by kernel_rfl) rfl) (Ka pb g cap kb Z ((pa6,pn6,pc6):Slc) zs _ (zb HN8).at' (zb HK8) (zb Hzs) (by omega) 8 (by omega)) (fun k hk=>by rcases hk with rfl |rfl |rfl;exact hkl;exact (zb HN8).pl;exact (zb HN8).at'.gl) (by have h9:=congrArg List.length (zb Hzs);simp at h9;simp;omega) ((zb HN8).spans (zb Hzs))).mono ?_;rintro e w9 ⟨⟨ra,rk,rc,rfl⟩,hO9⟩;have hN9:=(zb HN8).keep hO9;(obtain ⟨u9,d3⟩:=hN9.c3);have f3:=hN9.f3;have HN9:=ze hN9;clear hO9 hN9))
  go_ret
  have hE:=(zb HN9).setOther (.slice ra rk rc)
  refine ⟨pb,Cs.zT 119,rfl,?_,?_,hE.only⟩
  ·have hPr:=hE.prog (by omega) ?_ ?_
   ·rw [zb HZ] at hPr;exact hPr
   ·rw [zb HZ];exact zb HFit
   ·rw [zb HZ];exact zb HStl
  ·intro _;rfl
end
section
open Go.RowKit
open Sm (Tree capT)
set_option maxHeartbeats 2000000
set_option maxRecDepth 1000000
structure Start (w:World)(a:Nat→Addr):Prop where
 sents:Sents w a
 rows:SentRows w a
 et:w.cell? ⟨10,0,none⟩=some (.iface 303 (.agg #[.pointer (some ⟨15,92,none⟩)]))
 size:10≤w.heap.size
theorem Start.keep {w w':World}{a:Nat→Addr}(h:Start w a)(k:Only (fun _=>False) w w'):Start w' a:=
 ⟨h.sents.keep k (fun _ _ f=>f),h.rows.keep k,zf k _ _ h.et (fun f=>f),Nat.le_trans h.size k.size⟩
theorem XN (g:Nat)(p:Int)(w:World)(hE:w.cell? ⟨10,0,none⟩=some (.iface 303 (.agg #[.pointer (some ⟨15,92,none⟩)])))(h1:w.cell? ⟨g,1,none⟩=some (.int .i64 p)) :
  Calls Tryz.prog 32 #[.iface 140 (.pointer (some ⟨g,0,none⟩))] w fun e w'=>e = .returned (.int .i64 p)∧Only (fun _=>False) w w':=by
 have hgl:g<w.heap.size:=World.block_lt_of_cell? w ⟨g,1,none⟩ h1
 have HA:=ze (as_set ⟨g,0,none⟩ ⟨w.heap.size,0,none⟩ (.pointer none) (w.alloc (.cells #[.pointer none] 140)) (zf ((Only.refl (fun _=>False) w).alloc _) _ _ hE (fun f=>f)) (zm w _ rfl _ _ 0 _ rfl) (zu w _ rfl _ _ 0))
 have HP:Hid (∀ w1,Only (zl w.heap.size) (w.alloc (.cells #[.pointer none] 140)) w1→w1.cell? ⟨g,1,none⟩=some (.int .i64 p)):=fun w1 hO=>
  zf hO _ _ (zf ((Only.refl (fun _=>False) w).alloc _) _ _ h1 (fun f=>f)) (fun e=>by have:g=w.heap.size:=e;omega)
 clear hE
 go_enter Tryz.func32,Tryz.ntmps32
 go_wp2_with (go_at_call 58;refine (zb HA).mono ?_;rintro e w1 ⟨rfl,hc,hO⟩;have h1w:=(zb HP) w1 hO)
 go_ret
 exact ⟨rfl,((Only.refl (fun _=>False) w).alloc _).later hO (fun i hi=>by unfold zl at hi;omega)⟩
def Wt (s:ByteArray)(a:Nat→Addr)(k:Nat)(p:Int)(w:World):Prop:=
 Calls Tryz.prog 30 #[.string s] w fun x w'=>∃ v,x = .returned (.tuple #[.nilIface,v])∧FaultAt w' w.heap.size v (zS a k) p∧Only (fun _=>False) w w'
def JP (s:ByteArray)(t:Tree)(v:Int)(w:World):Prop:=
 Calls Tryz.prog 30 #[.string s] w fun x w'=>(∃ T y F,x = .returned (.tuple #[.iface T y,.nilIface])∧PartAt F w' (fun g=>w.heap.size≤g) (.iface T y) t∧capT F t=v)∧Only (fun _=>False) w w'
def Wu (t:Tree):Prop:=∀ f,Pro.ShOK f t∧Pro.LnOK f t∧Pro.AsOK f t
theorem Wv (s:ByteArray)(w:World)(a:Nat→Addr)(k:Nat)(p:Int)(hS:Start w a)(k1:1≤k)(k2:k≤8)(hp:Wt s a k p w) :
  Calls Tryz.prog 16 #[.string s] w fun x w'=>x = .returned (.tuple #[.pointer none,.int .i64 k,.int .i64 p])∧Only (fun _=>False) w w':=by
 have HS:=ze hS
 have HP:=ze hp
 clear hS hp
 go_enter Tryz.func16,Tryz.ntmps16
 go_wp2_with (first |(go_at_call 30;refine (zb HP).mono ?_;rintro e w1 ⟨v,rfl,hv,hO1⟩;have HV:=ze hv;obtain ⟨g,hg,rfl,f0,f1⟩:=hv;have H0:=ze f0;have H1:=ze f1;clear f0 f1 HV) |(go_at_call 31;refine (YB g k a _ ((zb HS).keep hO1).sents ((zb HS).keep hO1).rows k1 k2 (zb H0)).mono ?_;rintro e wq ⟨rfl,hwq⟩;obtain rfl:=hwq.symm;clear hwq) |(go_at_call 32;refine (XN g p _ ((zb HS).keep hO1).et (zb H1)).mono ?_;rintro e w2 ⟨rfl,hO2⟩))
 go_ret3
 exact ⟨rfl,hO1.trans hO2⟩
theorem ProgAt.mono {A B:Nat→Prop}{w:World}{pb:Nat}{N:List Sm.Stp}{st:Nat}{W:Int→Bool}(h:ProgAt w A pb N st W)(hAB:∀ g,A g→B g):ProgAt w B pb N st W:=by
 obtain ⟨g,cap,h1,h2,h3,h4⟩:=h.c0
 obtain ⟨sv,h5,h6⟩:=h.c2
 refine ⟨hAB _ h.own,⟨g,cap,h1,hAB _ h2,h3,fun k s hk=>?_⟩,h.c1,⟨sv,h5,h6.mono (fun g _ h=>hAB g h)⟩,h.len,h.fit,h.stl⟩
 obtain ⟨q0,⟨x,q1,q2⟩,q3⟩:=h4 k s hk
 exact ⟨q0,⟨x,q1,q2.mono (fun g _ h=>hAB g h)⟩,q3⟩
structure CompAt (w:World)(B g:Nat)(t:Tree)(v:Int):Prop where
 size:w.cell? ⟨g,0,none⟩=some (.int .i64 (min (v+1) 301))
 prog:∃ pb F W,w.cell? ⟨g,1,none⟩=some (.pointer (some ⟨pb,0,none⟩))∧ProgAt w (fun k=>B≤k) pb (Sm.prg F t).2 (Sm.prg F t).1 W∧(((Sm.prg F t).2.any askS)=true→W=Cs.zT 119)∧Pro.AsOK F t∧Sm.WF F t
theorem CompAt.mono {w:World}{B B' g:Nat}{t:Tree}{v:Int}(h:CompAt w B g t v)(hb:B'≤B):CompAt w B' g t v:=by
 obtain ⟨pb,F,W,h1,h2,h3⟩:=h.prog
 exact ⟨h.size,pb,F,W,h1,h2.mono (fun k hk=>Nat.le_trans hb hk),h3⟩
theorem CompAt.keep {P:Nat→Prop}{w w':World}{B g:Nat}{t:Tree}{v:Int}(h:CompAt w B g t v)(k:Only P w w')(hn:∀ k,B≤k→¬P k)(hg:B≤g):CompAt w' B g t v:=by
 obtain ⟨pb,F,W,h1,h2,h3⟩:=h.prog
 exact ⟨zf k _ _ h.size (hn _ hg),pb,F,W,zf k _ _ h1 (hn _ hg),h2.keep k hn,h3⟩
theorem K2 (s:ByteArray)(w:World)(t:Tree)(v:Int)(hv:v<300)(ht:Wu t)(hp:JP s t v w) :
  Calls Tryz.prog 16 #[.string s] w fun x w'=>∃ g,x = .returned (.tuple #[.pointer (some ⟨g,0,none⟩),.int .i64 0,.int .i64 0])∧w.heap.size≤g∧CompAt w' w.heap.size g t v∧Only (fun _=>False) w w':=by
 have HP:=ze hp
 have HT:=ze ht
 clear hp ht
 go_enter Tryz.func16,Tryz.ntmps16
 go_wp2_with (first |(go_at_call 30;refine (zb HP).mono ?_;rintro e w1 ⟨⟨T,y,F,rfl,hq,hcap⟩,hO1⟩;have HV:=ze hq;have Hcap:=ze hcap;clear hq hcap) |(go_at_call 33;refine (jD F _ _ _ v (by have h9:=(zb HV).size;rw [zb Hcap] at h9;exact h9)).mono ?_;rintro e w3 ⟨rfl,hO3⟩;have HQ:Hid (PrtOK F w3 w3.heap.size (.iface T y) t):=⟨PartAt.keep hO3 (fun _ _ f=>f) F _ _ (zb HV) |> PartAt.mono (fun g hg _=>hg) F _ _,(zb HT F).1,(zb HT F).2.1⟩) |(go_at_call 34;refine (newP_any F t (.iface T y) _ (zb HQ) ⟨_,_,rfl⟩ (by have:=zb Hcap;omega)).mono ?_;rintro e w4 ⟨pb,W,rfl,hPr,hW,hO4⟩;have HPr:=ze hPr;have HW:=ze hW;clear hPr hW))
 go_ret3
 have hs1:=hO1.size
 have hs3:=hO3.size
 have hk:Only (fun _=>False) w4 (w4.alloc (.cells #[.int .i64 (min (v+1) 301),.pointer (some ⟨pb,0,none⟩)] 67)):=(Only.refl _ _).alloc _
 refine ⟨_,rfl,by have:=hO4.size;omega,⟨zm _ _ rfl _ _ 0 _ rfl,pb,F,W,zm _ _ rfl _ _ 1 _ rfl,?_,zb HW,(zb HT F).2.2,(zb HV).wf⟩,((hO1.trans hO3).trans hO4).alloc _⟩
 exact ((zb HPr).keep hk (fun _ _ f=>f)).mono (fun k h=>by omega)
theorem K3 (g:Nat)(z:Int)(w:World)(h0:w.cell? ⟨g,0,none⟩=some (.int .i64 z)) :
  Calls Tryz.prog 8 #[.pointer (some ⟨g,0,none⟩)] w fun x w'=>x = .returned (.int .i64 z)∧Only (fun _=>False) w w':=by
 go_enter Tryz.func8,Tryz.ntmps8
 go_wp2_with fail
 go_ret
 exact ⟨rfl,Only.refl _ _⟩
end
section
open Go.RowKit
open Sm (Tree)
def RefBad (s:ByteArray)(k:Nat)(p:Int):Prop:=∀ w:World,Calls Tryz.prog 17 #[.string s] w fun x w'=>x = .returned (.tuple #[.pointer none,.int .i64 k,.int .i64 p])∧Only (fun _=>False) w w'
end
section
open Go.RowKit

end
section
open Go.RowKit
open Sm (Tree)

def Ww:Obj:=.cells #[.slice none 0 0,.slice none 0 0,.slice none 0 0,.slice none 0 0,.slice none 0 0,.slice none 0 0,.slice none 0 0,.slice none 0 0,.slice none 0 0,.slice none 0 0,.int .i64 0] 40
end
section
open Go.ChangeShapes Go.WideShapes Go.RowKit
set_option maxRecDepth 1000000
theorem Tryz.ownK:ownKnob Tryz.prog.godebug=none:=by kernel_rfl
theorem Tryz.gEt : Tryz.prog.globalNamed "errors.errorType" = some 10 := by kernel_rfl
theorem Tryz.tRt : (Tryz.prog.cutTypes.find? (·.1 == "internal/reflectlite.rtype")).map (·.2) = some 303 := by kernel_rfl
theorem Tryz.nTypes:Tryz.prog.types.size=452:=by kernel_rfl
theorem Tryz.oneError:((List.range 452).filter fun t=>Tryz.prog.rowNamed t [101,114,114,111,114])=[92]:=by kernel_rfl
theorem Tryz.cellsES:Tryz.prog.cellsOf 440=1:=by kernel_rfl
theorem Tryz.cellsStr:Tryz.prog.cellsOf 9=1:=by kernel_rfl
theorem starES : "*" ++ "errors.errorString" = "*errors.errorString" := by decide
theorem Tryz.rowES (u : TypeId) (h : Tryz.prog.typeName? 3 u = some "*errors.errorString") : u = 421 :=
 typeName_ptr_named (nm := "errors.errorString") (by rw [starES]; kernel_rfl) (by kernel_rfl) (by decide) u (by rw [starES]; exact h)
theorem Tryz.gText : Tryz.prog.globalNamed "lineal/fault.Text" = some 1 := by kernel_rfl
theorem Tryz.tText:(Tryz.prog.globals[1]?).map (·.type)=some 92:=by kernel_rfl
theorem Tryz.gLong : Tryz.prog.globalNamed "lineal/fault.Long" = some 2 := by kernel_rfl
theorem Tryz.tLong:(Tryz.prog.globals[2]?).map (·.type)=some 92:=by kernel_rfl
theorem Tryz.gSyntax : Tryz.prog.globalNamed "lineal/fault.Syntax" = some 9 := by kernel_rfl
theorem Tryz.tSyntax:(Tryz.prog.globals[9]?).map (·.type)=some 92:=by kernel_rfl
theorem Tryz.gRange : Tryz.prog.globalNamed "lineal/fault.Range" = some 3 := by kernel_rfl
theorem Tryz.tRange:(Tryz.prog.globals[3]?).map (·.type)=some 92:=by kernel_rfl
theorem Tryz.gCount : Tryz.prog.globalNamed "lineal/fault.Count" = some 4 := by kernel_rfl
theorem Tryz.tCount:(Tryz.prog.globals[4]?).map (·.type)=some 92:=by kernel_rfl
theorem Tryz.gUnsupported : Tryz.prog.globalNamed "lineal/fault.Unsupported" = some 5 := by kernel_rfl
theorem Tryz.tUnsupported:(Tryz.prog.globals[5]?).map (·.type)=some 92:=by kernel_rfl
theorem Tryz.gDeep : Tryz.prog.globalNamed "lineal/fault.Deep" = some 6 := by kernel_rfl
theorem Tryz.tDeep:(Tryz.prog.globals[6]?).map (·.type)=some 92:=by kernel_rfl
theorem Tryz.gTree : Tryz.prog.globalNamed "lineal/fault.Tree" = some 7 := by kernel_rfl
theorem Tryz.tTree:(Tryz.prog.globals[7]?).map (·.type)=some 92:=by kernel_rfl
theorem Tryz.gSchema : Tryz.prog.globalNamed "lineal/fault.Schema" = some 8 := by kernel_rfl
theorem Tryz.tSchema:(Tryz.prog.globals[8]?).map (·.type)=some 92:=by kernel_rfl
theorem Tryz.gBig : Tryz.prog.globalNamed "lineal/fault.Big" = some 0 := by kernel_rfl
theorem Tryz.tBig:(Tryz.prog.globals[0]?).map (·.type)=some 92:=by kernel_rfl
theorem zbx {W : World} (h : handlesMet Tryz.prog [("errors.errorType", (Rows.laid_errors_errorType : DataW Unit))] W) : ∀ j, W.cell? ⟨10, j, none⟩ = (#[Value.iface 303 (.agg #[.pointer (some ⟨15, 92, none⟩)])] : Array Value)[j]? := by
 obtain ⟨name,u,ty,e1,e2,e3,e4,e5⟩:=h _ (List.mem_singleton.2 rfl)
 have en:name=[101,114,114,111,114]:=(Option.some.inj e1).symm
 subst en
 obtain rfl:=Option.some.inj (Tryz.tRt.symm.trans e2)
 have hm:ty∈(List.range 452).filter fun t=>Tryz.prog.rowNamed t [101,114,114,111,114]:=List.mem_filter.2 ⟨List.mem_range.2 (by rw [←Tryz.nTypes];exact e3),e4⟩
 rw [Tryz.oneError] at hm
 obtain rfl:=List.mem_singleton.1 hm
 have hh:typeHandle Tryz.prog 92 = .pointer (some ⟨15,92,none⟩):=by kernel_rfl
 rw [hh] at e5
 exact fun j=>World.var?_cell Tryz.gEt e5 j
theorem Yl {W:World}{n:String}{d:DataW Unit}{r:List (String×DataW Unit)}(h:laidMet Tryz.prog ((n,d) :: r) W):laidMet Tryz.prog r W:=by
 obtain ⟨ps,⟨g,t,cs,fuel,p,q,_,_,_,_,hq,rfl⟩,hnd,hrows⟩:=h
 exact ⟨q,hq,List.Nodup.sublist (List.sublist_append_right _ _) hnd,fun b off hm=>hrows b off (List.mem_append_right _ hm)⟩
theorem xV {W : World} {n : String} {g : Nat} {text : List UInt8} {r : List (String × DataW Unit)} (h : laidMet Tryz.prog ((n, .iface "*errors.errorString" (.ptr (.agg [.lit (.string text)]))) :: r) W)
  (hg:Tryz.prog.globalNamed n=some g) (ht:(Tryz.prog.globals[g]?).map (·.type)=some 92) :
  ∃ (b:Addr) (s:ByteArray),(∀ j,W.cell? ⟨g,j,none⟩=(#[Value.iface 421 (.pointer (some b))]:Array Value)[j]?)∧W.cell? b=some (.string s)∧s.data.toList=text∧(∃ c t,W.heap[b.block]?=some (.cells c t (0,0)))∧laidMet Tryz.prog r W:=by
 have htail:laidMet Tryz.prog r W:=by
  obtain ⟨ps,⟨g,t,cs,fuel,p,q,_,_,_,_,hq,rfl⟩,hnd,hrows⟩:=h
  exact ⟨q,hq,List.Nodup.sublist (List.sublist_append_right _ _) hnd,fun b off hm=>hrows b off (List.mem_append_right _ hm)⟩
 obtain ⟨ps,⟨g0,t0,cs0,f0,p0,q0,hg0,ht0,hv0,hd0,_,e0⟩,_,hrows⟩:=h
 obtain rfl:=Option.some.inj (hg.symm.trans hg0)
 obtain rfl:=Option.some.inj (ht.symm.trans ht0)
 subst e0
 obtain ⟨l0⟩:=cs0
 have ok0:∀ u v,l0=[.iface u v]→Value.okWide Tryz.prog W .any 0 u v:=fun u v e=>by
  subst e
  exact (hrows g 0 (by simp [MemPlace.row])).2 u v (by simpa using World.var?_cell hg0 hv0 0)
 obtain ⟨b,s,rfl,hc,hs,_,hp⟩:=errorString_of_trod Tryz.underlying92 Tryz.rowES Tryz.underlying421 Tryz.underlying440 rfl rfl Tryz.underlying9 Tryz.cellsES Tryz.cellsStr hd0 ok0
 refine ⟨b,s,fun j=>World.var?_cell hg0 hv0 j,hc,hs,(hrows b.block b.off ?_).1,htail⟩
 rw [hp]
 simp [MemPlace.row]
theorem qf {W:World}{g:Nat}{T:TypeId}{x:Value}{b:Addr}{s:ByteArray}(h:∀ j,W.cell? ⟨g,j,none⟩=(#[Value.iface T x]:Array Value)[j]?)(hb:W.cell? b=some (.string s)):b.block≠g:=by
 intro e
 obtain ⟨bl,off,sp⟩:=b
 cases sp with
 |none=>
  have e':bl=g:=e
  subst e'
  rw [h off] at hb
  cases off with
  |zero=>simp at hb
  |succ o=>simp at hb
 |some y=>
  unfold World.cell? at hb
  simp at hb
  split at hb<;>simp at hb
def ZO:Nat→List UInt8
 |1=>[98,121,116,101,115,32,116,104,97,116,32,97,114,101,32,110,111,32,116,101,120,116]
 |2=>[116,111,111,32,109,97,110,121,32,98,121,116,101,115]
 |3=>[110,111,32,112,97,116,116,101,114,110]
 |4=>[97,32,114,97,110,103,101,32,111,114,32,99,111,117,110,116,115,32,116,104,101,32,119,114,111,110,103,32,119,97,121,32,97,98,111,117,116]
 |5=>[97,32,99,111,117,110,116,32,116,104,97,116,32,105,115,32,116,111,111,32,103,114,101,97,116]
 |6=>[97,32,112,97,116,116,101,114,110,32,116,104,97,116,32,110,101,101,100,115,32,109,101,109,111,114,121]
 |7=>[103,114,111,117,112,115,32,116,111,111,32,100,101,101,112,32,105,110,32,111,110,101,32,97,110,111,116,104,101,114]
 |8=>[97,32,112,97,116,116,101,114,110,32,116,104,97,116,32,105,115,32,116,111,111,32,108,97,114,103,101]
 |9=>[110,111,100,101,115,32,116,104,97,116,32,97,114,101,32,110,111,32,100,111,99,117,109,101,110,116]
 |10=>[115,99,104,101,109,97,115,32,116,104,97,116,32,109,97,121,32,110,111,116,32,98,101]
 |_=>[]
theorem K4:((List.range 11).all fun j=>(List.range 11).all fun k=>decide (j=0) ||decide (k=0) ||decide (j=k) || !(ZO j == ZO k))=true:=by decide +kernel
theorem Wx (j:Nat)(hj:j<11)(k:Nat)(hk:k<11)(j1:1≤j)(k1:1≤k)(hne:j≠k):ZO j≠ZO k:=by
 have h:=List.all_eq_true.1 (List.all_eq_true.1 K4 j (List.mem_range.2 hj)) k (List.mem_range.2 hk)
 intro e
 rw [e] at h
 simp at h
 omega
theorem Qt {W:World}(h:laidMetH Tryz.prog Rows.compilesRow.laid W):∃ a,Start W a:=by
 obtain ⟨h1,h2⟩:=laidMetH_iff.1 h
 have h2' : handlesMet Tryz.prog [("errors.errorType", (Rows.laid_errors_errorType : DataW Unit))] W := h2
 have he:=zbx h2'
 have h1a : laidMet Tryz.prog ([("math/bits.deBruijn32tab", Rows.laid_math_bits_deBruijn32tab), ("math/bits.deBruijn64tab", Rows.laid_math_bits_deBruijn64tab), ("internal/strconv.uint64pow10", Rows.laid_internal_strconv_uint64pow10), ("lineal/fault.Text", Rows.laid_lineal_fault_Text), ("lineal/fault.Long", Rows.laid_lineal_fault_Long), ("lineal/fault.Syntax", Rows.laid_lineal_fault_Syntax), ("lineal/fault.Range", Rows.laid_lineal_fault_Range), ("lineal/fault.Count", Rows.laid_lineal_fault_Count), ("lineal/fault.Unsupported", Rows.laid_lineal_fault_Unsupported), ("lineal/fault.Deep", Rows.laid_lineal_fault_Deep), ("lineal/fault.Big", Rows.laid_lineal_fault_Big), ("lineal/fault.Tree", Rows.laid_lineal_fault_Tree), ("lineal/fault.Schema", Rows.laid_lineal_fault_Schema)] : List (String × DataW Unit)) W := h1
 have h1b:=Yl (Yl (Yl h1a))
 obtain ⟨b1,s1,c1,d1,x1,r1,t1⟩:=xV h1b Tryz.gText Tryz.tText
 obtain ⟨b2,s2,c2,d2,x2,r2,t2⟩:=xV t1 Tryz.gLong Tryz.tLong
 obtain ⟨b3,s3,c3,d3,x3,r3,t3⟩:=xV t2 Tryz.gSyntax Tryz.tSyntax
 obtain ⟨b4,s4,c4,d4,x4,r4,t4⟩:=xV t3 Tryz.gRange Tryz.tRange
 obtain ⟨b5,s5,c5,d5,x5,r5,t5⟩:=xV t4 Tryz.gCount Tryz.tCount
 obtain ⟨b6,s6,c6,d6,x6,r6,t6⟩:=xV t5 Tryz.gUnsupported Tryz.tUnsupported
 obtain ⟨b7,s7,c7,d7,x7,r7,t7⟩:=xV t6 Tryz.gDeep Tryz.tDeep
 obtain ⟨b8,s8,c8,d8,x8,r8,t8⟩:=xV t7 Tryz.gBig Tryz.tBig
 obtain ⟨b9,s9,c9,d9,x9,r9,t9⟩:=xV t8 Tryz.gTree Tryz.tTree
 obtain ⟨b10,s10,c10,d10,x10,r10,t10⟩:=xV t9 Tryz.gSchema Tryz.tSchema
 refine ⟨fun k=>match k with |1=>b1 |2=>b2 |3=>b3 |4=>b4 |5=>b5 |6=>b6 |7=>b7 |8=>b8 |9=>b9 |10=>b10 |_=>b1,⟨(c1 0).trans rfl,(c2 0).trans rfl,(c3 0).trans rfl,(c4 0).trans rfl,(c5 0).trans rfl,(c6 0).trans rfl,(c7 0).trans rfl,(c8 0).trans rfl⟩,⟨?_,?_,(c9 0).trans rfl,(c10 0).trans rfl⟩,he 0,?_⟩
 ·intro k k1 k2
  match k,k1,k2 with
  |1,_,_=>exact r1
  |2,_,_=>exact r2
  |3,_,_=>exact r3
  |4,_,_=>exact r4
  |5,_,_=>exact r5
  |6,_,_=>exact r6
  |7,_,_=>exact r7
  |8,_,_=>exact r8
  |9,_,_=>exact r9
  |10,_,_=>exact r10
  |0,k1,_=>exact absurd k1 (by decide)
  |k+11,_,k2=>exact absurd k2 (by omega)
 ·have ht:∀ k,1≤k→k≤10→∃ s:ByteArray,W.cell? ((fun k=>match k with |1=>b1 |2=>b2 |3=>b3 |4=>b4 |5=>b5 |6=>b6 |7=>b7 |8=>b8 |9=>b9 |10=>b10 |_=>b1:Nat→Addr) k)=some (.string s)∧s.data.toList=ZO k:=by
   intro k k1 k2
   match k,k1,k2 with
   |1,_,_=>exact ⟨s1,d1,x1⟩
   |2,_,_=>exact ⟨s2,d2,x2⟩
   |3,_,_=>exact ⟨s3,d3,x3⟩
   |4,_,_=>exact ⟨s4,d4,x4⟩
   |5,_,_=>exact ⟨s5,d5,x5⟩
   |6,_,_=>exact ⟨s6,d6,x6⟩
   |7,_,_=>exact ⟨s7,d7,x7⟩
   |8,_,_=>exact ⟨s8,d8,x8⟩
   |9,_,_=>exact ⟨s9,d9,x9⟩
   |10,_,_=>exact ⟨s10,d10,x10⟩
   |0,k1,_=>exact absurd k1 (by decide)
   |k+11,_,k2=>exact absurd k2 (by omega)
  intro j k j1 j2 k1 k2 hjk e
  obtain ⟨s,e1,e2⟩:=ht j j1 j2
  obtain ⟨s',e3,e4⟩:=ht k k1 k2
  have e6:=e1.symm.trans ((congrArg W.cell? e).trans e3)
  have es:s=s':=by simpa using e6
  subst es
  exact Wx j (by omega) k (by omega) j1 k1 hjk (e2.symm.trans e4)
 ·have hlt:=World.block_lt_of_cell? W b1 d1
  have a1:=qf c1 d1
  have a2:=qf c2 d1
  have a3:=qf c3 d1
  have a4:=qf c4 d1
  have a5:=qf c5 d1
  have a6:=qf c6 d1
  have a7:=qf c7 d1
  have a8:=qf c8 d1
  have a9:=qf he d1
  have a10:=qf c9 d1
  have a11:=qf c10 d1
  omega
end
section
open Go.RowKit
set_option maxHeartbeats 800000
def PairRow (w:World)(sv:Value)(l:List (Int×Int)):Prop:=
 (sv = .slice none 0 0∧l=[])∨∃ g cap,sv = .slice (some ⟨g,0,none⟩) l.length cap∧l.length≤cap∧g<w.heap.size∧∀ (j:Nat) p,l[j]?=some p→w.cell? ⟨g,j*2,none⟩=some (.int .i64 p.1)∧w.cell? ⟨g,j*2+1,none⟩=some (.int .i64 p.2)
theorem PairRow.keep {w w':World}{sv:Value}{l:List (Int×Int)}(h:PairRow w sv l)(k:Only (fun _=>False) w w'):PairRow w' sv l:=by
 rcases h with h |⟨g,cap,h1,h2,h3,h4⟩
 ·exact .inl h
 ·exact .inr ⟨g,cap,h1,h2,Nat.lt_of_lt_of_le h3 k.size,fun j p hj=>⟨zf k _ _ (h4 j p hj).1 (fun f=>f),zf k _ _ (h4 j p hj).2 (fun f=>f)⟩⟩
theorem ZP:∀ (l:List (Int×Int))(j:Nat)(p:Int×Int),l[j]?=some p→(spanCells l)[j*2]?=some (.int .i64 p.1)∧(spanCells l)[j*2+1]?=some (.int .i64 p.2)
 | [],j,p,h=>by simp at h
 |x :: r,0,p,h=>by
  obtain ⟨a,b⟩:=x
  simp at h
  subst h
  exact ⟨rfl,rfl⟩
 |x :: r,j+1,p,h=>by
  obtain ⟨a,b⟩:=x
  have:=ZP r j p (by simpa using h)
  have e1:(j+1)*2=(j*2)+2:=by omega
  have e2:(j+1)*2+1=(j*2+1)+2:=by omega
  rw [e2,e1]
  simp only [spanCells,List.getElem?_cons_succ]
  exact this
theorem PairRow.of {w:World}{base:Nat}{T:TypeId}{sv:Value}{l:List (Int×Int)}(h:w.ownsRow base T 2 sv l.length (spanCells l)):PairRow w sv l:=by
 have hl:=zg h
 have hc:=@World.ownsRow.cells w base T 2 sv l.length (spanCells l) h
 rcases h.2 with ⟨rfl,h0⟩ |⟨g,cap,cur,rfl,hb,hg,hn,_⟩
 ·exact .inl ⟨rfl,List.eq_nil_of_length_eq_zero h0⟩
 ·refine .inr ⟨g,cap,rfl,hn,(hl g rfl).2,fun j p hj=>?_⟩
  have e:∀ k,(⟨g,0,none⟩:Addr).add k=⟨g,k,none⟩:=fun k=>by unfold Addr.add;split<;>simp_all
  obtain ⟨s1,s2⟩:=ZP l j p hj
  have c1:=hc (g:=g) rfl _ _ s1
  have c2:=hc (g:=g) rfl _ _ s2
  rw [e] at c1 c2
  exact ⟨c1,c2⟩
namespace Eqv
theorem inSp_yes {l:List (Int×Int)}{c:Int}{n:Nat}{p:Int×Int}(h:l[n]?=some p)(h1:p.1≤c)(h2:c≤p.2):inSp l c=true:=by
 unfold inSp
 rw [List.any_eq_true]
 exact ⟨p,List.mem_of_getElem? h,by simp [h1,h2]⟩
theorem inSp_no {l:List (Int×Int)}{c:Int}(h:∀ (n:Nat) p,n<l.length→l[n]?=some p→¬(p.1≤c∧c≤p.2)):inSp l c=false:=by
 unfold inSp
 rw [List.any_eq_false]
 intro p hp
 obtain ⟨n,hn,e⟩:=List.getElem_of_mem hp
 have:=h n p hn (by rw [List.getElem?_eq_getElem hn,e])
 simpa using this
end Eqv
theorem Wy (neg:Bool)(sv:Value)(l:List (Int×Int))(c:Int)(w:World)(h:PairRow w sv l)(hl:l.length≤1000) :
  Calls Tryz.prog 215 #[.agg #[.bool neg,sv],.int .i64 c] w fun x w'=>x = .returned (.bool (Eqv.inPt ⟨neg,l⟩ c))∧Only (fun _=>False) w w':=by
 have hO:Only (fun _=>False) w (w.alloc (.cells #[.bool neg,sv] 274)):=(Only.refl _ _).alloc _
 have HW:=ze (h.keep hO)
 have HO:=ze hO
 clear h hO
 obtain ⟨pa,pn,pc,rfl⟩:∃ pa pn pc,sv = .slice pa pn pc:=by rcases (zb HW) with ⟨h1,_⟩ |⟨g,cap,h1,_⟩<;>exact ⟨_,_,_,h1⟩
 have hpn:pn=l.length:=by rcases (zb HW) with ⟨h1,h2⟩ |⟨g,cap,h1,_⟩<;>simp at h1<;>simp [*]
 subst hpn
 go_enter Tryz.func215,Tryz.ntmps215
 go_wp2_with fail
 go_loop [5] (fun k=>∃ n:Nat,k = .int .i64 n∧n≤l.length∧Hid (∀ (j:Nat) p,j<n→l[j]?=some p→¬(p.1≤c∧c≤p.2))) (fun k=>l.length-(intOf k).toNat)
 case atStart=>exact ⟨0,rfl,by omega,fun j p hj=>by omega⟩
 case round=>
  obtain ⟨n,rfl,hn,HN⟩:=hrel
  by_cases hlt:n<l.length
  ·have hW:=zb HW
   obtain ⟨g,cap,hsv,hcap,hg,hcells⟩:∃ g cap,pa=some ⟨g,0,none⟩∧l.length≤pc∧g<cap∧∀ (j:Nat) p,l[j]?=some p→(w.alloc (.cells #[.bool neg,.slice pa l.length pc] 274)).cell? ⟨g,j*2,none⟩=some (.int .i64 p.1)∧(w.alloc (.cells #[.bool neg,.slice pa l.length pc] 274)).cell? ⟨g,j*2+1,none⟩=some (.int .i64 p.2):=by
    rcases hW with ⟨_,h2⟩ |⟨g,cap,h1,h2,h3,h4⟩
    ·rw [h2] at hlt;simp at hlt
    ·simp at h1
     exact ⟨g,_,h1.1,by omega,h3,h4⟩
   subst hsv
   obtain ⟨c1,c2⟩:=hcells n l[n] (List.getElem?_eq_getElem hlt)
   clear hcells hW
   have hstep:l[n].1≤c∧c≤l[n].2→Hid (Eqv.inSp l c=true):=fun hh=>Eqv.inSp_yes (List.getElem?_eq_getElem hlt) hh.1 hh.2
   have HN1:¬(l[n].1≤c∧c≤l[n].2)→Hid (∀ (j:Nat) p,j<n+1→l[j]?=some p→¬(p.1≤c∧c≤p.2)):=fun hh j p hj hp=>by
    by_cases e:j<n
    ·exact zb HN j p e hp
    ·obtain rfl:j=n:=by omega
     rw [List.getElem?_eq_getElem hlt] at hp
     obtain rfl:=Option.some.inj hp
     exact hh
   generalize l[n].1=lo at *
   generalize l[n].2=hi at *
   by_cases h1:lo≤c
   ·by_cases h2:c≤hi
    ·have hs:=ze (hstep ⟨h1,h2⟩)
     clear hstep HN1
     go_wp2_with fail
     go_ret
     refine ⟨?_,zb HO⟩
     unfold Eqv.inPt
     rw [zb (zb hs)]
     cases neg<;>rfl
    ·have hs:=ze (HN1 (fun hh=>h2 hh.2))
     clear hstep HN1
     go_wp2_with fail
     go_round
     case rel=>exact ⟨n+1,by go_num,by omega,zb hs⟩
     case measure=>simp [intOf];omega
   ·have hs:=ze (HN1 (fun hh=>h1 hh.1))
    clear hstep HN1
    go_wp2_with fail
    go_round
    case rel=>exact ⟨n+1,by go_num,by omega,zb hs⟩
    case measure=>simp [intOf];omega
  ·go_wp2_with fail
   go_ret
   refine ⟨?_,zb HO⟩
   unfold Eqv.inPt
   rw [Eqv.inSp_no (fun j p hj=>zb HN j p (by omega))]
   cases neg<;>rfl
end
end Go.Proofs.YtnagphodmfejiaaGreatDoor
