/- The program's builder: one of several parts. -/
import Derived.Test.YtnagphodmfejiaaGreatDoorXCsJBldB
import Derived.Shelf.SlicesE.Compact
import Derived.Shelf.SlicesQ.IndexFunc
import Derived.Ground.SlgnProg
import Derived.Ground.SlgfProg
namespace Go.Proofs.YtnagphodmfejiaaGreatDoor
section
open Go.RowKit
open Sm (Stp Tree bld ym bSeq yE bOpt xf)
set_option maxHeartbeats 1000000
theorem zaM (s:Stp)(h:s.kind≠1)(c:Int):Prg.setP s c=false:=by simp [Prg.setP,h]
theorem BldAt.own_lt {w:World}{bb:Nat}{Z:List (Stp×Value)}(h:BldAt w bb Z):∀ sv,w.cell? ⟨bb,0,none⟩=some sv→∀ k,sv.ownBlock=some k→k<w.heap.size:=fun sv h1 k hk=>by
 obtain ⟨sv',h2,h3,_⟩:=h.ex
 cases h1.symm.trans h2
 exact (zg h3 k hk).2
theorem kz (bb:Nat)(Z:List (Stp×Value))(s:Stp)(w:World)(h:BldAt w bb Z)(hs:s.kind≠1)(hl:Z.length≤1000) :
  Calls Tryz.prog 60 #[.pointer (some ⟨bb,0,none⟩),.agg #[.int .i64 (s.kind:Nat),.slice none 0 0,.int .i64 s.asr,.int .i64 (s.next:Nat),.int .i64 (s.other:Nat)]] w (kQ w bb (Z.length,sts Z++[s])):=
 (W4 bb Z s (.slice none 0 0) w.heap.size w h (SetAt.none _ _ _ (zaM s hs)) h.own_lt h.lt hl).mono (fun e w' ⟨h1,h2⟩=>⟨_,h1,by simp [sts],h2⟩)
theorem VO (f bb:Nat)(HB:BOK f bb)(sv:Value)(xs:List Value)(t0:Tree)(ts:List Tree)(nx:Nat)(Z:List (Stp×Value))(w:World)(hr:RowAt w (fun g=>g<bb) sv xs)(hxl:xs.length≤1000)(htl:(t0 :: ts).length=xs.length)(hp:∀ (j:Nat) x t,xs[j]?=some x→(t0 :: ts)[j]?=some t→PrtOK f w bb x t)(hif:∀ x∈xs,∃ T y,x = .iface T y)(hZ:BldAt w bb Z)(hn:nx<Z.length)(hl:(yE (bld f) nx ts (bld f t0 nx (sts Z)).1 (bld f t0 nx (sts Z)).2).2.length≤1000) :
  Calls Tryz.prog 112 #[.pointer (some ⟨bb,0,none⟩),sv,.int .i64 (nx:Nat)] w (kQ w bb (yE (bld f) nx ts (bld f t0 nx (sts Z)).1 (bld f t0 nx (sts Z)).2)):=by
 have hB:=ze HB
 have HP:=ze hp
 have HZ:=ze hZ
 have HI:=ze hif
 have hlen:xs.length=ts.length+1:=by rw [←htl];rfl
 obtain ⟨g,pc,rfl,hpc,hgb,hgw,HC⟩:∃ g pc,sv = .slice (some ⟨g,0,none⟩) xs.length pc∧xs.length≤pc∧g<bb∧g<w.heap.size∧Hid (∀ j x,xs[j]?=some x→w.cell? ⟨g,j,none⟩=some x):=by
  rcases hr with ⟨rfl,rfl⟩ |⟨g,cap,rfl,h1,h2,h3,h4⟩
  ·simp at hlen
  ·exact ⟨g,cap,rfl,h2,h1,h3,h4⟩
 have hx0:xs[0]?=some (xs[0]'(by omega)):=List.getElem?_eq_getElem (by omega)
 have c0:=zb HC 0 _ hx0
 have hp0:=hp 0 _ t0 hx0 rfl
 obtain ⟨T0,y0,hxe⟩:=hif _ (List.getElem_mem (show 0<xs.length by omega))
 rw [hxe] at c0 hp0
 have hb0:(bld f t0 nx (sts Z)).2.length≤1000:=Nat.le_trans (Sm.jM (Sm.yN f) ts _ _) hl
 have HC0:=ze (HB (.iface T0 y0) t0 nx Z w hp0 hZ hn hb0)
 have hst0:=Sm.qi f t0 nx (sts Z) (by rw [zX];exact hn)
 have hnx0:=Sm.yN f t0 nx (sts Z)
 rw [zX] at hnx0
 clear HB hp hZ hr hif hx0 hp0 hxe
 generalize hr0:bld f t0 nx (sts Z)=r0 at *
 have hl1:xs.length≤ts.length+1:=by omega
 have hl2:ts.length+1≤xs.length:=by omega
 rw [hlen] at hpc ⊢
 clear hlen
 by_cases hpc1:pc=1
 ·subst hpc1
  obtain rfl:ts=[]:=List.eq_nil_of_length_eq_zero (by omega)
  go_enter Tryz.func112,Tryz.ntmps112
  go_wp2_with (go_at_call 61;refine (zb HC0).mono ?_;rintro e w1 ⟨Y1,rfl,hs1,hT1⟩;have HT1:=ze hT1;have HS1:=ze hs1;clear hT1 hs1)
  go_loopw [7,19] (fun vb vj wr=>vb = .int .i64 (r0.1:Nat)∧vj = .int .i64 0∧Hid (BldTo w wr bb Y1)) (fun _ _ _=>0)
  case atStart=>exact ⟨rfl,rfl,HT1⟩
  case round=>
   obtain ⟨rfl,rfl,HT⟩:=hrel
   go_wp2_with fail
   go_ret
   exact ⟨Y1,rfl,zb HS1,zb HT⟩
 ·have hpc2:1<pc:=by omega
  go_enter Tryz.func112,Tryz.ntmps112
  go_wp2_with (go_at_call 61;refine (zb HC0).mono ?_;rintro e w1 ⟨Y1,rfl,hs1,hT1⟩;have HT1:=ze hT1;have HS1:=ze hs1;clear hT1 hs1)
  go_loopw [7,19] (fun vb vj wr=>∃ (b j:Nat) (Y:List (Stp×Value)),vb = .int .i64 (b:Nat)∧vj = .int .i64 (j:Nat)∧j≤ts.length∧nx<Y.length∧Hid (BldTo w wr bb Y)∧Hid (yE (bld f) nx ts r0.1 r0.2=yE (bld f) nx (ts.drop j) b (sts Y))) (fun _ vj _=>ts.length-(intOf vj).toNat)
  case atStart=>exact ⟨r0.1,0,Y1,rfl,rfl,by omega,(by rw [←zX,zb HS1];omega),HT1,(by rw [zb HS1];rfl)⟩
  case round=>
   clear HT1 HS1
   obtain ⟨b,j,Y,rfl,rfl,hj,hnY,HT,HF⟩:=hrel
   by_cases hlt:j<ts.length
   ·obtain ⟨x,hx⟩:∃ x,xs[j+1]?=some x:=⟨_,List.getElem?_eq_getElem (show j+1<xs.length by omega)⟩
    have ht:(t0 :: ts)[j+1]?=some ts[j]:=by simp [hlt]
    have c1:=((zb HT).only.cell (p:=⟨g,j+1,none⟩) hgw (by show ¬bb≤g;omega)).trans (zb HC _ _ hx)
    rw [Nat.add_comm j 1] at c1
    have hpk:=(zb HP (j+1) _ _ hx ht).keep (zb HT).only
    obtain ⟨T,y,hxe⟩:=zb HI x (List.mem_of_getElem? hx)
    subst hxe
    have HF2:Hid (yE (bld f) nx ts r0.1 r0.2=yE (bld f) nx (ts.drop (j+1)) (bld f ts[j] nx (sts Y)).2.length ((bld f ts[j] nx (sts Y)).2++[Sm.zA b (bld f ts[j] nx (sts Y)).1])):=by
     rw [zb HF,List.drop_eq_getElem_cons hlt]
     rfl
    have hbig:(bld f ts[j] nx (sts Y)).2.length+1≤1000:=by
     rw [zb HF2] at hl
     have:=Sm.jM (Sm.yN f) (nx:=nx) (ts.drop (j+1)) (bld f ts[j] nx (sts Y)).2.length ((bld f ts[j] nx (sts Y)).2++[Sm.zA b (bld f ts[j] nx (sts Y)).1])
     simp only [List.length_append,List.length_singleton] at this
     omega
    have had:=Sm.yN f ts[j] nx (sts Y)
    rw [zX] at had
    have HCa:=ze (zb hB (.iface T y) _ nx Y wr hpk (zb HT).at' hnY (by omega))
    clear hx ht hpk
    generalize hr:bld f ts[j] nx (sts Y)=r at *
    go_wp2_with (go_at_call 61;refine (zb HCa).mono ?_;rintro e w1 ⟨Y2,rfl,hs2,hT2⟩;have HT2:=ze ((zb HT).trans hT2);have HS2:=ze hs2;clear hT2 hs2)
    have hY2:Y2.length=r.2.length:=by rw [←zX,zb HS2]
    refine (kz bb Y2 (Sm.zA b r.1) w1 (zb HT2).at' (by simp [Sm.zA]) (by omega)).mono ?_
    rintro e w3 ⟨Y3,rfl,hs3,hT3⟩
    have HT3:=ze ((zb HT2).trans hT3)
    have HS3:=ze hs3
    clear hT3 hs3
    go_wp2_with fail
    have hY3:Y3.length=Y2.length+1:=by rw [←zX,zb HS3];simp [zX]
    exact ⟨⟨r.2.length,j+1,Y3,rfl,by go_num,by omega,by omega,zb HT3,(by rw [zb HF2,zb HS3,zb HS2];rfl)⟩,by simp [intOf];omega⟩
   ·have HE:Hid (yE (bld f) nx ts r0.1 r0.2=(b,sts Y)):=by rw [zb HF,List.drop_eq_nil_of_le (by omega)];rfl
    go_wp2_with fail
    go_ret
    exact ⟨Y,by rw [zb HE];rfl,by rw [zb HE],zb HT⟩
set_option maxHeartbeats 2000000
theorem Xh:∀ (Z:List (Stp×Value))(k:Nat)(s:Stp)(x:Value),Z[k]?=some (s,x)→(yr Z)[k*5+3]?=some (.int .i64 (s.next:Nat))
 | [],k,s,x,h=>by simp at h
 |z :: Z,0,s,x,h=>by simp at h;subst h;simp [yr]
 |z :: Z,k+1,s,x,h=>by
  have:=Xh Z k s x (by simpa using h)
  rw [show (k+1)*5+3=(k*5+3)+5 by omega]
  simpa [yr] using this
theorem Yx:∀ (Z:List (Stp×Value))(k:Nat)(s:Stp)(x:Value)(q:Nat),Z[k]?=some (s,x)→(yr Z).set (k*5+3) (.int .i64 (q:Nat))=yr (Z.set k ({ s with next:=q },x))
 | [],k,s,x,q,h=>by simp at h
 |z :: Z,0,s,x,q,h=>by simp at h;subst h;simp [yr]
 |z :: Z,k+1,s,x,q,h=>by
  have:=Yx Z k s x q (by simpa using h)
  rw [show (k+1)*5+3=(k*5+3)+5 by omega]
  simp [yr] at this ⊢
  exact this
theorem BldAt.setNext {w:World}{bb:Nat}{Z:List (Stp×Value)}(h:BldAt w bb Z)(k:Nat)(s:Stp)(x:Value)(hk:Z[k]?=some (s,x))(q:Nat):∃ g cap,w.cell? ⟨bb,0,none⟩=some (.slice (some ⟨g,0,none⟩) Z.length cap)∧Z.length≤cap∧w.cell? ⟨g,k*5+3,none⟩=some (.int .i64 (s.next:Nat))∧w.frozen? ⟨g,k*5+3,none⟩=false∧BldTo w (w.setCell ⟨g,k*5+3,none⟩ (.int .i64 (q:Nat))) bb (Z.set k ({ s with next:=q },x)):=by
 obtain ⟨sv,h1,h2,h3⟩:=h.ex
 have hkl:k<Z.length:=(List.getElem?_eq_some_iff.1 hk).1
 rcases h2.2 with ⟨rfl,e⟩ |⟨g,cap,cur,rfl,hb,hg,hn,hcm,hcs,htake⟩
 ·omega
 ·have hc:=@World.ownsRow.cells w (bb+1) 156 5 _ Z.length (yr Z) h2 g rfl _ _ (Xh Z k s x hk)
  have e0:∀ q,(⟨g,0,none⟩:Addr).add q=⟨g,q,none⟩:=fun q=>by unfold Addr.add;split<;>simp_all
  rw [e0] at hc
  have o:Only (fun j=>j=g) w (w.setCell ⟨g,k*5+3,none⟩ (.int .i64 (q:Nat))):=(Only.refl (fun j=>j=g) w).setCell (p:=⟨g,k*5+3,none⟩) (.inl rfl) _
  refine ⟨g,cap,h1,hn,hc,by simp [World.frozen?,hg],⟨⟨⟨_,(o.cell (p:=⟨bb,0,none⟩) h.lt (by show ¬bb=g;omega)).trans h1,?_,fun z hz=>?_⟩,(o.frozen (p:=⟨bb,0,none⟩) h.lt (by show ¬bb=g;omega)).trans h.fr⟩,o.mono (fun j _ hj=>by omega),o.mono (fun j _ hj=>by subst hj;exact .inr ⟨_,h1,rfl⟩),fun j hj=>?_⟩⟩
  ·have:=vB (i:=k*5+3) h2 (.int .i64 (q:Nat))
   rw [Yx Z k s x q hk] at this
   rw [List.length_set]
   exact this
  ·have key:SetAt w (fun g'=>bb<g'∧(Value.slice (some ⟨g,0,none⟩) Z.length cap).ownBlock≠some g') (.agg #[z.2]) (Prg.setP z.1):=by
    rcases List.mem_or_eq_of_mem_set hz with hz |rfl
    ·exact h3 z hz
    ·exact h3 (s,x) (List.mem_of_getElem? hk)
   exact key.keep o (fun g' hg' e=>hg'.2 (by rw [e];rfl))
  ·rcases hj with rfl |⟨sv,e1,e2⟩
   ·exact .inl (.inl rfl)
   ·exact .inl (.inr ⟨sv,(o.cell (p:=⟨bb,0,none⟩) h.lt (by show ¬bb=g;omega)).symm.trans e1,e2⟩)
theorem loop_any (f bb:Nat)(HB:BOK f bb)(T:TypeId)(y:Value)(l m:Int)(t:Tree)(nx:Nat)(Z:List (Stp×Value))(w:World)(hp:PrtOK f w bb (.iface T y) t)(h0:0≤l)(h1:l≤100)(hZ:BldAt w bb Z)(_hn:nx<Z.length)(r:Nat×List Stp)(hr:(if l=0 then (Z.length,(xf (bld f) t nx (sts Z)).2) else ym (bld f) t (l-1).toNat (xf (bld f) t nx (sts Z)).1 (xf (bld f) t nx (sts Z)).2)=r)(hl:r.2.length≤1000) :
  Calls Tryz.prog 152 #[.pointer (some ⟨bb,0,none⟩),.agg #[.iface T y,.int .i64 l,.int .i64 m],.int .i64 (nx:Nat)] w (kQ w bb r):=by
 have hbody:(xf (bld f) t nx (sts Z)).2.length≤1000:=by
  rw [←hr] at hl
  split at hl
  ·exact hl
  ·exact Nat.le_trans (Sm.qQ (Sm.yN f) _ _ _) hl
 have hold:=Sm.zaw f t (sts Z).length (sts Z++[Sm.zA 0 nx]) (sts Z).length (by simp)
 have hadd:=Sm.yN f t (sts Z).length (sts Z++[Sm.zA 0 nx])
 have hsta:=Sm.qi f t (sts Z).length (sts Z++[Sm.zA 0 nx]) (by simp)
 simp only [xf,List.length_set] at hbody
 have hr':=hr
 simp only [xf] at hr'
 clear hr
 rw [zX] at hold hadd hsta hbody hr'
 generalize hq:bld f t Z.length (sts Z++[Sm.zA 0 nx])=q at *
 have hB:=ze HB
 have HP:=ze hp
 have HZ:=ze hZ
 have HR:=ze hr'
 have HQ:=ze hq
 clear HB hp hZ hr' hq
 have HOA:Hid (Only (fun _=>False) w (w.alloc (.cells #[.iface T y,.int .i64 l,.int .i64 m] 254))):=(Only.refl _ _).alloc _
 have b0:(w.alloc (.cells #[.iface T y,.int .i64 l,.int .i64 m] 254)).cell? ⟨w.heap.size,0,none⟩=some (.iface T y):=zm w _ rfl _ _ 0 _ rfl
 have b1:(w.alloc (.cells #[.iface T y,.int .i64 l,.int .i64 m] 254)).cell? ⟨w.heap.size,1,none⟩=some (.int .i64 l):=zm w _ rfl _ _ 1 _ rfl
 go_enter Tryz.func152,Tryz.ntmps152
 have hbw:=(zb HZ).lt
 have HTA:=ze (BldTo.young (zb HZ) (zb HOA))
 have HPA:=ze ((zb HP).keep (zb HTA).only)
 have hnA:¬OwnBd (w.alloc (.cells #[.iface T y,.int .i64 l,.int .i64 m] 254)) bb w.heap.size:=fun h=>by
  rcases (zb HTA).own.size,h with ⟨_,h1 |⟨sv,h1,h2⟩⟩
  ·omega
  ·have:=OwnBd.lt (zb HZ) (k:=w.heap.size) (.inr ⟨sv,((zb HOA).cell (p:=⟨bb,0,none⟩) hbw (fun f=>f)).symm.trans h1,h2⟩)
   omega
 have hsA:(w.alloc (.cells #[.iface T y,.int .i64 l,.int .i64 m] 254)).heap.size=w.heap.size+1:=by simp
 go_wp2_with fail
 generalize w.alloc (.cells #[.iface T y,.int .i64 l,.int .i64 m] 254)=wA at *
 refine (kz bb Z (Sm.zA 0 nx) wA (zb HTA).at' (by simp [Sm.zA]) (by simp only [List.length_append,List.length_singleton,zX] at hadd;omega)).mono ?_
 rintro e w1 ⟨Y1,rfl,hs1,hT1⟩
 have c0:=(hT1.cell (p:=⟨w.heap.size,0,none⟩) (by show _<_;simp only;omega) hnA).trans b0
 have c1:=(hT1.cell (p:=⟨w.heap.size,1,none⟩) (by show _<_;simp only;omega) hnA).trans b1
 have hn1:¬OwnBd w1 bb w.heap.size:=fun h=>by
  rcases hT1.sep _ h with h |h
  ·exact hnA h
  ·omega
 have hz1:=hT1.own.size
 have HT1:=ze hT1
 have hlY1:Y1.length=Z.length+1:=by rw [←zX,hs1];simp [zX]
 have HCb:=zb hB (.iface T y) t Z.length Y1 w1 ((zb HPA).keep hT1.only) hT1.at' (by omega) (by rw [hs1,zb HQ];exact hbody)
 rw [hs1,zb HQ] at HCb
 have HCb:=ze HCb
 clear hT1 b0 b1 hs1
 go_wp2_with fail
 refine (zb HCb).mono ?_
 rintro e w2 ⟨Y2,rfl,hs2,hT2⟩
 have d0:=(hT2.cell (p:=⟨w.heap.size,0,none⟩) (by show _<_;simp only;omega) hn1).trans c0
 have d1:=(hT2.cell (p:=⟨w.heap.size,1,none⟩) (by show _<_;simp only;omega) hn1).trans c1
 have hn2:¬OwnBd w2 bb w.heap.size:=fun h=>by
  rcases hT2.sep _ h with h |h
  ·exact hn1 h
  ·omega
 have hz2:=hT2.own.size
 obtain ⟨x,hx⟩:∃ x,Y2[Z.length]?=some (Sm.zA 0 nx,x):=by
  rw [List.getElem?_append_right (by rw [zX];exact Nat.le_refl _),zX,Nat.sub_self] at hold
  have hq2:(sts Y2)[Z.length]?=some (Sm.zA 0 nx):=by rw [hs2,hold];rfl
  simp only [sts,List.getElem?_map] at hq2
  cases hY:Y2[Z.length]? with
  |none=>rw [hY] at hq2;cases hq2
  |some p=>
   rw [hY] at hq2
   simp at hq2
   exact ⟨p.2,by rw [←hq2]⟩
 obtain ⟨g,cap,k1,k2,k3,k4,hT3⟩:=hT2.at'.setNext Z.length _ x hx q.1
 have HT12:=ze (((zb HTA).trans (zb HT1)).trans (hT2.trans hT3))
 have hlY2:Z.length<Y2.length:=(List.getElem?_eq_some_iff.1 hx).1
 have HS3:Hid (sts (Y2.set Z.length ({ Sm.zA 0 nx with next:=q.1 },x))=q.2.set Z.length (Sm.zA q.1 nx)):=by
  show sts _=_
  rw [←hs2]
  simp only [sts,List.map_set]
  rfl
 have hY2l:Y2.length≤1000:=by rw [←zX,hs2];omega
 clear hx
 have hgne:g≠w.heap.size:=fun e=>hn2 (.inr ⟨_,k1,by rw [e];rfl⟩)
 have e0:(w2.setCell ⟨g,Z.length*5+3,none⟩ (.int .i64 (q.1:Nat))).cell? ⟨w.heap.size,0,none⟩=some (.iface T y):=(World.cell?_setCell_other _ _ _ _ (by simp)).trans d0
 have e1:(w2.setCell ⟨g,Z.length*5+3,none⟩ (.int .i64 (q.1:Nat))).cell? ⟨w.heap.size,1,none⟩=some (.int .i64 l):=(World.cell?_setCell_other _ _ _ _ (by simp)).trans d1
 by_cases hl0:l=0
 ·have HR2:Hid ((Z.length,q.2.set Z.length (Sm.zA q.1 nx))=r):=by have:=zb HR;rw [if_pos hl0] at this;exact this
  clear HR
  subst hl0
  go_wp2_with fail
  go_ret
  exact ⟨_,by rw [←zb HR2];rfl,by rw [zb HS3,←zb HR2],zb HT12⟩
 ·have hR:=zb HR
  rw [if_neg hl0] at hR
  have hld:(l == 0)=false:=by simpa using hl0
  have hlen3:(Y2.set Z.length ({ Sm.zA 0 nx with next:=q.1 },x)).length=Y2.length:=List.length_set
  have hq2l:Y2.length=q.2.length:=by rw [←zX,hs2]
  have HCt:=QK f bb (zb hB) (.iface T y) t (l-1).toNat q.1 _ _ ((zb HP).keep (zb HT12).only) ⟨_,_,rfl⟩ (zb HT12).at' (by rw [hlen3,hq2l];exact hsta) (by omega) (by rw [zb HS3,hR];exact hl)
  rw [zb HS3,hR,show (((l-1).toNat:Nat):Int)=l-1 by omega] at HCt
  have HCt:=ze HCt
  clear hR
  go_wp2_with (go_at_call 153;refine (zb HCt).mono ?_;rintro e w4 ⟨Y4,rfl,hs4,hT4⟩;have HT4:=ze ((zb HT12).trans hT4);have HS4:=ze hs4;clear hT4 hs4)
  go_ret
  exact ⟨Y4,rfl,zb HS4,zb HT4⟩
theorem bld_rep (f:Nat)(t:Tree)(l m:Int)(nx:Nat)(S:List Stp):bld (f+1) (Pro.tRep t l m) nx S=if m = -1 then (if l=0 then (S.length,(xf (bld f) t nx S).2) else ym (bld f) t (l-1).toNat (xf (bld f) t nx S).1 (xf (bld f) t nx S).2) else ym (bld f) t l.toNat (bOpt (bld f) t nx (m-l).toNat nx S).1 (bOpt (bld f) t nx (m-l).toNat nx S).2:=by
 unfold bld
 rw [if_neg (by simp [Pro.tRep]),if_neg (by simp [Pro.tRep]),if_neg (by simp [Pro.tRep]),if_pos (by rfl)]
 rfl
theorem VP (f bb:Nat)(HB:BOK f bb)(T:TypeId)(y:Value)(l m:Int)(t:Tree)(nx:Nat)(Z:List (Stp×Value))(w:World)(hp:PrtOK f w bb (.iface T y) t)(h0:0≤l)(h1:l≤100)(h2:-1≤m)(h3:m≤100)(h4:m = -1∨l≤m)(hZ:BldAt w bb Z)(hn:nx<Z.length)(r:Nat×List Stp)(hr:bld (f+1) (Pro.tRep t l m) nx (sts Z)=r)(hl:r.2.length≤1000) :
  Calls Tryz.prog 114 #[.pointer (some ⟨bb,0,none⟩),.agg #[.iface T y,.int .i64 l,.int .i64 m],.int .i64 (nx:Nat)] w (kQ w bb r):=by
 have hB:=ze HB
 have HP:=ze hp
 have HZ:=ze hZ
 clear HB hp hZ
 have HOA:Hid (Only (fun _=>False) w (w.alloc (.cells #[.iface T y,.int .i64 l,.int .i64 m] 254))):=(Only.refl _ _).alloc _
 have b0:(w.alloc (.cells #[.iface T y,.int .i64 l,.int .i64 m] 254)).cell? ⟨w.heap.size,0,none⟩=some (.iface T y):=zm w _ rfl _ _ 0 _ rfl
 have b1:(w.alloc (.cells #[.iface T y,.int .i64 l,.int .i64 m] 254)).cell? ⟨w.heap.size,1,none⟩=some (.int .i64 l):=zm w _ rfl _ _ 1 _ rfl
 have b2:(w.alloc (.cells #[.iface T y,.int .i64 l,.int .i64 m] 254)).cell? ⟨w.heap.size,2,none⟩=some (.int .i64 m):=zm w _ rfl _ _ 2 _ rfl
 have hbw:=(zb HZ).lt
 have HTA:=ze (BldTo.young (zb HZ) (zb HOA))
 have HPA:=ze ((zb HP).keep (zb HTA).only)
 have hnA:¬OwnBd (w.alloc (.cells #[.iface T y,.int .i64 l,.int .i64 m] 254)) bb w.heap.size:=fun h=>by
  rcases h with h1 |⟨sv,h1,h2⟩
  ·omega
  ·have:=OwnBd.lt (zb HZ) (k:=w.heap.size) (.inr ⟨sv,((zb HOA).cell (p:=⟨bb,0,none⟩) hbw (fun f=>f)).symm.trans h1,h2⟩)
   omega
 have hsA:(w.alloc (.cells #[.iface T y,.int .i64 l,.int .i64 m] 254)).heap.size=w.heap.size+1:=by simp
 rw [bld_rep] at hr
 by_cases hm:m = -1
 ·subst hm
  rw [if_pos rfl,zX] at hr
  have HCl:=ze (loop_any f bb (zb hB) T y l (-1) t nx Z _ (zb HPA) h0 h1 (zb HTA).at' hn r hr hl)
  go_enter Tryz.func114,Tryz.ntmps114
  go_wp2_with (go_at_call 152;refine (zb HCl).mono ?_;rintro e w4 ⟨Y4,rfl,hs4,hT4⟩;have HT4:=ze ((zb HTA).trans hT4);have HS4:=ze hs4;clear hT4 hs4)
  go_ret
  exact ⟨Y4,rfl,zb HS4,zb HT4⟩
 ·rw [if_neg hm] at hr
  have hmd:(m == -1)=false:=by simpa using hm
  go_enter Tryz.func114,Tryz.ntmps114
  go_wp2_with fail
  generalize w.alloc (.cells #[.iface T y,.int .i64 l,.int .i64 m] 254)=wA at *
  obtain ⟨K,hK⟩:∃ K:Nat,(K:Int)=m-l:=⟨(m-l).toNat,by omega⟩
  have hK2:(m-l).toNat=K:=by omega
  rw [hK2] at hr
  have hbo:(bOpt (bld f) t nx K nx (sts Z)).2.length≤1000:=by rw [←hr] at hl;exact Nat.le_trans (Sm.qQ (Sm.yN f) _ _ _) hl
  have hso:=Sm.ko (Sm.yN f) (Sm.qi f) (t:=t) (nx:=nx) K nx (sts Z) (by rw [zX];exact hn)
  rw [←hK]
  have HR:=ze hr
  have hK3:K≤201:=by omega
  clear hr hK2 hK
  go_loopw [7,21] (fun vb vj wr=>∃ (b j:Nat) (Y:List (Stp×Value)),vb = .int .i64 (b:Nat)∧vj = .int .i64 (j:Nat)∧j≤K∧b<Y.length∧nx<Y.length∧Hid (BldTo wA wr bb Y)∧wr.cell? ⟨w.heap.size,0,none⟩=some (.iface T y)∧wr.cell? ⟨w.heap.size,1,none⟩=some (.int .i64 l)∧Hid (¬OwnBd wr bb w.heap.size)∧Hid (bOpt (bld f) t nx K nx (sts Z)=bOpt (bld f) t nx (K-j) b (sts Y))) (fun _ vj _=>K-(intOf vj).toNat)
  case atStart=>exact ⟨nx,0,Z,rfl,rfl,by omega,hn,hn,BldTo.refl (zb HTA).at',b0,b1,hnA,rfl⟩
  case round=>
   obtain ⟨b,j,Y,rfl,rfl,hj,hbY,hnY,HT,c0,c1,Hn,HF⟩:=hrel
   have hzT:=(zb HT).own.size
   by_cases hlt:j<K
   ·obtain ⟨k,hk⟩:∃ k,K-j=k+1:=⟨K-j-1,by omega⟩
    have HF2:Hid (bOpt (bld f) t nx K nx (sts Z)=bOpt (bld f) t nx k (bld f t b (sts Y)).2.length ((bld f t b (sts Y)).2++[Sm.zA (bld f t b (sts Y)).1 nx])):=by rw [zb HF,hk];rfl
    have hbig:(bld f t b (sts Y)).2.length+1≤1000:=by
     rw [zb HF2] at hbo
     have:=Sm.wO (Sm.yN f) (t:=t) (nx:=nx) k (bld f t b (sts Y)).2.length ((bld f t b (sts Y)).2++[Sm.zA (bld f t b (sts Y)).1 nx])
     simp only [List.length_append,List.length_singleton] at this
     omega
    have had:=Sm.yN f t b (sts Y)
    rw [zX] at had
    have HCa:=ze (zb hB (.iface T y) _ b Y wr ((zb HPA).keep (zb HT).only) (zb HT).at' hbY (by omega))
    generalize hq:bld f t b (sts Y)=q at *
    go_wp2_with (go_at_call 61;refine (zb HCa).mono ?_;rintro e w1 ⟨Y2,rfl,hs2,hT2⟩;have HT2:=ze hT2;have HS2:=ze hs2;clear hT2 hs2)
    have hY2:Y2.length=q.2.length:=by rw [←zX,zb HS2]
    have d0:=((zb HT2).cell (p:=⟨w.heap.size,0,none⟩) (by show _<_;simp only;omega) (zb Hn)).trans c0
    have d1:=((zb HT2).cell (p:=⟨w.heap.size,1,none⟩) (by show _<_;simp only;omega) (zb Hn)).trans c1
    have hz2:=(zb HT2).own.size
    have hn2:¬OwnBd w1 bb w.heap.size:=fun h=>by
     rcases (zb HT2).sep _ h with h |h
     ·exact zb Hn h
     ·omega
    refine (kz bb Y2 (Sm.zA q.1 nx) w1 (zb HT2).at' (by simp [Sm.zA]) (by omega)).mono ?_
    rintro e w3 ⟨Y3,rfl,hs3,hT3⟩
    have f0:=(hT3.cell (p:=⟨w.heap.size,0,none⟩) (by show _<_;simp only;omega) hn2).trans d0
    have f1:=(hT3.cell (p:=⟨w.heap.size,1,none⟩) (by show _<_;simp only;omega) hn2).trans d1
    have hn3:¬OwnBd w3 bb w.heap.size:=fun h=>by
     rcases hT3.sep _ h with h |h
     ·exact hn2 h
     ·omega
    have HN3:=ze hn3
    have HT3:=ze (((zb HT).trans (zb HT2)).trans hT3)
    have HS3:=ze hs3
    clear hT3 hs3 d0 d1 c0 c1 hn2 hn3
    go_wp2_with fail
    have hY3:Y3.length=Y2.length+1:=by rw [←zX,zb HS3];simp [zX]
    exact ⟨⟨q.2.length,j+1,Y3,rfl,by go_num,by omega,by omega,by omega,zb HT3,f0,f1,zb HN3,(by rw [zb HF2,zb HS3,zb HS2,show K-(j+1)=k by omega];rfl)⟩,by simp [intOf];omega⟩
   ·have HE:Hid (bOpt (bld f) t nx K nx (sts Z)=(b,sts Y)):=by rw [zb HF,show K-j=0 by omega];rfl
    have hR:=zb HR
    rw [zb HE] at hR
    have HCt:=QK f bb (zb hB) (.iface T y) t l.toNat b Y wr ((zb HPA).keep (zb HT).only) ⟨_,_,rfl⟩ (zb HT).at' hbY (by omega) (by rw [hR];exact hl)
    rw [hR,show ((l.toNat:Nat):Int)=l by omega] at HCt
    have HCt:=ze HCt
    clear hR
    go_wp2_with (go_at_call 153;refine (zb HCt).mono ?_;rintro e w4 ⟨Y4,rfl,hs4,hT4⟩;have HT4:=ze ((zb HTA).trans ((zb HT).trans hT4));have HS4:=ze hs4;clear hT4 hs4)
    go_ret
    exact ⟨Y4,rfl,zb HS4,zb HT4⟩
set_option maxRecDepth 1000000
theorem Tryz.bs15 (v:Value)(w:World):(Instr.typeAssert (.iface 244 v) 90 228 true).run Tryz.prog w = .ok (.tuple #[.slice none 0 0,.bool false]) w:=by kernel_rfl
theorem Tryz.bs16 (v:Value)(w:World):(Instr.typeAssert (.iface 244 v) 90 252 true).run Tryz.prog w = .ok (.tuple #[.slice none 0 0,.bool false]) w:=by kernel_rfl
theorem Tryz.bs17 (v:Value)(w:World):(Instr.typeAssert (.iface 244 v) 90 254 true).run Tryz.prog w = .ok (.tuple #[.agg #[.nilIface,.int .i64 0,.int .i64 0],.bool false]) w:=by kernel_rfl
theorem Tryz.bs25 (v:Value)(w:World):(Instr.typeAssert (.iface 245 v) 90 228 true).run Tryz.prog w = .ok (.tuple #[.slice none 0 0,.bool false]) w:=by kernel_rfl
theorem Tryz.bs26 (v:Value)(w:World):(Instr.typeAssert (.iface 245 v) 90 252 true).run Tryz.prog w = .ok (.tuple #[.slice none 0 0,.bool false]) w:=by kernel_rfl
theorem Tryz.bs27 (v:Value)(w:World):(Instr.typeAssert (.iface 245 v) 90 254 true).run Tryz.prog w = .ok (.tuple #[.agg #[.nilIface,.int .i64 0,.int .i64 0],.bool false]) w:=by kernel_rfl
theorem Tryz.bs35 (v:Value)(w:World):(Instr.typeAssert (.iface 246 v) 90 228 true).run Tryz.prog w = .ok (.tuple #[.slice none 0 0,.bool false]) w:=by kernel_rfl
theorem Tryz.bs36 (v:Value)(w:World):(Instr.typeAssert (.iface 246 v) 90 252 true).run Tryz.prog w = .ok (.tuple #[.slice none 0 0,.bool false]) w:=by kernel_rfl
theorem Tryz.bs37 (v:Value)(w:World):(Instr.typeAssert (.iface 246 v) 90 254 true).run Tryz.prog w = .ok (.tuple #[.agg #[.nilIface,.int .i64 0,.int .i64 0],.bool false]) w:=by kernel_rfl
theorem Tryz.bs45 (v:Value)(w:World):(Instr.typeAssert (.iface 250 v) 90 228 true).run Tryz.prog w = .ok (.tuple #[.slice none 0 0,.bool false]) w:=by kernel_rfl
theorem Tryz.bs46 (v:Value)(w:World):(Instr.typeAssert (.iface 250 v) 90 252 true).run Tryz.prog w = .ok (.tuple #[.slice none 0 0,.bool false]) w:=by kernel_rfl
theorem Tryz.bs47 (v:Value)(w:World):(Instr.typeAssert (.iface 250 v) 90 254 true).run Tryz.prog w = .ok (.tuple #[.agg #[.nilIface,.int .i64 0,.int .i64 0],.bool false]) w:=by kernel_rfl
theorem PartAt.iface:∀ {f:Nat}{w:World}{A:Nat→Prop}{v:Value}{t:Tree},PartAt f w A v t→∃ T y,v = .iface T y
 |0,_,_,_,_,h=>h.elim
 |f+1,w,A,v,t,h=>by
  rcases h with h |⟨sv,xs,ts,_,h,_⟩ |⟨sv,xs,ts,_,h,_⟩ |⟨p,l,m,t',_,h,_⟩
  ·rcases h with ⟨c,_,h⟩ |⟨_,h⟩ |⟨c,_,h⟩ |⟨c,_,h⟩ |⟨neg,R,S,v1,v2,_,h,_⟩<;>exact ⟨_,_,h⟩
  ·exact ⟨_,_,h⟩
  ·exact ⟨_,_,h⟩
  ·exact ⟨_,_,h⟩
theorem WT {a:Int}(h:Pro.setB a=true):okSh a:=by
 simp [Pro.setB] at h
 unfold okSh
 omega
theorem zaN {f:Nat}{t:Tree}(h:Pro.ShOK (f+1) t)(k:Pro.LnOK (f+1) t):LeafOK t:=by
 refine ⟨fun c e=>?_,fun neg R S e=>?_⟩
 ·subst e
  exact WT (h.2.1 rfl)
 ·subst e
  exact ⟨fun a ha=>WT ((h.2.2.1 rfl).2 a ha),k.1 rfl⟩
theorem bld_asr (f:Nat)(c:Int)(nx:Nat)(S:List Stp):bld (f+1) (Pro.tAsr c) nx S=(S.length,S++[Sm.tester c nx]):=by
 unfold bld
 rw [if_pos (by rfl)]
 rfl
theorem bld_leaf (f:Nat)(t:Tree)(h1:t.kind≠0)(h2:t.kind<5)(nx:Nat)(S:List Stp):bld (f+1) t nx S=(S.length,S++[Sm.taker t nx]):=by
 unfold bld
 rw [if_neg h1,if_neg (by omega),if_neg (by omega),if_neg (by omega)]
theorem bld_alt (f:Nat)(t:Tree)(ts:List Tree)(nx:Nat)(S:List Stp):bld (f+1) (Pro.tAlt (t :: ts)) nx S=yE (bld f) nx ts (bld f t nx S).1 (bld f t nx S).2:=by
 rw [bld.eq_def]
 simp [Pro.tAlt]
theorem bld_seq (f:Nat)(ts:List Tree)(nx:Nat)(S:List Stp):bld (f+1) (Pro.tSeq ts) nx S=bSeq (bld f) ts.reverse nx S:=by
 rw [bld.eq_def]
 simp [Pro.tSeq]
theorem zaO (t:Tree)(nx:Nat)(c:Int):Prg.setP (Sm.taker t nx) c=Cs.ja t c:=by simp [Prg.setP,Sm.taker]
theorem zaP (bb:Nat):∀ f,BOK f bb:=by
 intro f
 induction f with
 |zero=>intro v t nx Z w hp;exact hp.at'.elim
 |succ f ih=>
  intro v t nx Z w hp hZ hn hl
  have IH:=ze ih
  have hzl:Z.length≤1000:=by have:=Sm.yN (f+1) t nx (sts Z);rw [zX] at this;omega
  have HZ:=ze hZ
  clear ih
  have hq:=hp.at'
  rcases hq with h |⟨sv,xs,ts,rfl,rfl,hr,hxl,htl,hk,h0⟩ |⟨sv,xs,ts,rfl,rfl,hr,hxl,htl,hk⟩ |⟨p,l,m,t',rfl,rfl,hpt,h0,h1,h2,h3,h4⟩
  ·by_cases hasr:∃ c,t=Pro.tAsr c
   ·obtain ⟨c,rfl⟩:=hasr
    obtain rfl:v = .iface 154 (.int .i64 c):=by
     rcases h with ⟨c',e,h⟩ |⟨e,h⟩ |⟨c',e,h⟩ |⟨c',e,h⟩ |⟨neg,R,S,v1,v2,e,h,_⟩
     ·simp [Pro.tAsr] at e;subst e;exact h
     all_goals simp [Pro.tAsr,Pro.tAny,Pro.xY,Pro.xK,Pro.tCls] at e
    rw [bld_asr] at hl ⊢
    have a0:=Tryz.as00
    have HC:=ze (kz bb Z (Sm.tester c nx) w (zb HZ) (by simp [Sm.tester]) hzl)
    clear hp hZ hl h
    go_enter Tryz.func61,Tryz.ntmps61
    go_wp2_with fail
    clear a0
    refine (zb HC).mono ?_
    rintro e w1 ⟨Y,rfl,hs,hT⟩
    have HT:=ze hT
    have HS:=ze hs
    clear hT hs
    go_wp2_with fail
    go_ret
    exact ⟨Y,by rw [zX];rfl,zb HS,zb HT⟩
   ·have hne:∀ c,t≠Pro.tAsr c:=fun c e=>hasr ⟨c,e⟩
    have hM:=fun w1 (o:Only (fun _=>False) w w1)=>Kn v t (fun g=>g<bb) w1 (h.keep o (fun _ _ f=>f)) hne (zaN hp.sh hp.ln)
    have HM:=ze hM
    have hkind:t.kind≠0∧t.kind<5:=by
     rcases h with ⟨c',e,h⟩ |⟨e,h⟩ |⟨c',e,h⟩ |⟨c',e,h⟩ |⟨neg,R,S,v1,v2,e,h,_⟩
     ·exact absurd e (hne c')
     all_goals subst e;exact ⟨by simp [Pro.tAny,Pro.xY,Pro.xK,Pro.tCls],by simp [Pro.tAny,Pro.xY,Pro.xK,Pro.tCls]⟩
    rw [bld_leaf f t hkind.1 hkind.2] at hl ⊢
    have HA:Hid (∀ (x:Value) (w1 w2:World),BldAt w1 bb Z→NewSet w1 w2 (.agg #[x]) (Cs.ja t)→Calls Tryz.prog 60 #[.pointer (some ⟨bb,0,none⟩),.agg #[.int .i64 1,x,.int .i64 0,.int .i64 (nx:Nat),.int .i64 0]] w2 (kQ w2 bb (Z.length,sts Z++[Sm.taker t nx]))):=fun x w1 w2 hb hN=>
     (W4 bb Z (Sm.taker t nx) x w1.heap.size w2 (hb.young hN.2) (hN.1.congr (fun c=>(zaO t nx c).symm)) (fun sv hsv=>hb.own_lt sv ((hN.2.cell (p:=⟨bb,0,none⟩) hb.lt (fun f=>f)).symm.trans hsv)) hb.lt hzl).mono (fun e w' ⟨h1,h2⟩=>⟨_,h1,by simp [sts],h2⟩)
    have hcs:=h
    clear hM hp hZ hl h hasr hne
    rcases hcs with ⟨c',e,h⟩ |⟨e,h⟩ |⟨c',e,h⟩ |⟨c',e,h⟩ |⟨neg,R,S,v1,v2,e,h,g1,g2⟩
    ·subst e;exact absurd rfl hkind.1
    ·subst h
     have a0:=Tryz.as10
     have a5:=Tryz.bs15
     have a6:=Tryz.bs16
     have a7:=Tryz.bs17
     go_enter Tryz.func61,Tryz.ntmps61
     go_wp2_with fail
     clear a0 a5 a6 a7
     refine (zb HM _ (Only.refl _ _)).mono ?_
     rintro e2 w1 ⟨v',rfl,hN⟩
     obtain ⟨qa,qn,qc,rfl⟩:=hN.1.slice
     have HN:=ze hN
     clear hN
     go_wp2_with fail
     refine (zb HA _ w w1 (zb HZ) (zb HN)).mono ?_
     rintro e2 w2 ⟨Y,rfl,hs,hT⟩
     have HT:=ze ((BldTo.young (zb HZ) (zb HN).2).trans hT)
     have HS:=ze hs
     clear hT hs
     go_wp2_with fail
     go_ret
     exact ⟨Y,by rw [zX];rfl,zb HS,zb HT⟩
    ·subst h
     have a0:=Tryz.as20
     have a5:=Tryz.bs25
     have a6:=Tryz.bs26
     have a7:=Tryz.bs27
     go_enter Tryz.func61,Tryz.ntmps61
     go_wp2_with fail
     clear a0 a5 a6 a7
     refine (zb HM _ (Only.refl _ _)).mono ?_
     rintro e2 w1 ⟨v',rfl,hN⟩
     obtain ⟨qa,qn,qc,rfl⟩:=hN.1.slice
     have HN:=ze hN
     clear hN
     go_wp2_with fail
     refine (zb HA _ w w1 (zb HZ) (zb HN)).mono ?_
     rintro e2 w2 ⟨Y,rfl,hs,hT⟩
     have HT:=ze ((BldTo.young (zb HZ) (zb HN).2).trans hT)
     have HS:=ze hs
     clear hT hs
     go_wp2_with fail
     go_ret
     exact ⟨Y,by rw [zX];rfl,zb HS,zb HT⟩
    ·subst h
     have a0:=Tryz.as30
     have a5:=Tryz.bs35
     have a6:=Tryz.bs36
     have a7:=Tryz.bs37
     go_enter Tryz.func61,Tryz.ntmps61
     go_wp2_with fail
     clear a0 a5 a6 a7
     refine (zb HM _ (Only.refl _ _)).mono ?_
     rintro e2 w1 ⟨v',rfl,hN⟩
     obtain ⟨qa,qn,qc,rfl⟩:=hN.1.slice
     have HN:=ze hN
     clear hN
     go_wp2_with fail
     refine (zb HA _ w w1 (zb HZ) (zb HN)).mono ?_
     rintro e2 w2 ⟨Y,rfl,hs,hT⟩
     have HT:=ze ((BldTo.young (zb HZ) (zb HN).2).trans hT)
     have HS:=ze hs
     clear hT hs
     go_wp2_with fail
     go_ret
     exact ⟨Y,by rw [zX];rfl,zb HS,zb HT⟩
    ·subst h
     obtain ⟨pa,pn,pc,rfl⟩:=g1.slice
     obtain ⟨ua,un,uc,rfl⟩:=g2.slice
     clear g1 g2
     have a0:=Tryz.as40
     have a5:=Tryz.bs45
     have a6:=Tryz.bs46
     have a7:=Tryz.bs47
     go_enter Tryz.func61,Tryz.ntmps61
     go_wp2_with fail
     clear a0 a5 a6 a7
     refine (zb HM _ (Only.refl _ _)).mono ?_
     rintro e2 w1 ⟨v',rfl,hN⟩
     obtain ⟨qa,qn,qc,rfl⟩:=hN.1.slice
     have HN:=ze hN
     clear hN
     go_wp2_with fail
     refine (zb HA _ w w1 (zb HZ) (zb HN)).mono ?_
     rintro e2 w2 ⟨Y,rfl,hs,hT⟩
     have HT:=ze ((BldTo.young (zb HZ) (zb HN).2).trans hT)
     have HS:=ze hs
     clear hT hs
     go_wp2_with fail
     go_ret
     exact ⟨Y,by rw [zX];rfl,zb HS,zb HT⟩
  ·obtain ⟨t0,ts',rfl⟩:∃ t0 ts',ts=t0 :: ts':=by
    cases ts with
    |nil=>simp at htl;omega
    |cons a b=>exact ⟨a,b,rfl⟩
   rw [bld_alt] at hl ⊢
   have hcs:∃ pa pn pc,sv = .slice pa pn pc:=by rcases hr with ⟨h,_⟩ |⟨g,cap,h,_⟩<;>exact ⟨_,_,_,h⟩
   have HC:=ze (VO f bb (zb IH) sv xs t0 ts' nx Z w hr hxl htl (fun j x t hx ht=>⟨hk j x t hx ht,hp.sh.2.2.2 t (List.mem_of_getElem? ht),hp.ln.2 t (List.mem_of_getElem? ht)⟩) (fun x hx=>by
    obtain ⟨j,hj⟩:=List.mem_iff_getElem?.1 hx
    have hjl:j<(t0 :: ts').length:=by rw [htl];exact (List.getElem?_eq_some_iff.1 hj).1
    exact (hk j x _ hj (List.getElem?_eq_getElem hjl)).iface) hZ hn hl)
   obtain ⟨pa,pn,pc,rfl⟩:=hcs
   clear hp hZ hr hk hl
   have a0:=Tryz.as50
   have a5:=Tryz.as55
   go_enter Tryz.func61,Tryz.ntmps61
   go_wp2_with fail
   clear a0 a5
   refine (zb HC).mono ?_
   rintro e w2 ⟨Y,rfl,hs,hT⟩
   have HT:=ze hT
   have HS:=ze hs
   clear hT hs
   go_wp2_with fail
   go_ret
   exact ⟨Y,rfl,zb HS,zb HT⟩
  ·rw [bld_seq] at hl ⊢
   have hcs:∃ pa pn pc,sv = .slice pa pn pc:=by rcases hr with ⟨h,_⟩ |⟨g,cap,h,_⟩<;>exact ⟨_,_,_,h⟩
   have HC:=ze (JC f bb (zb IH) sv xs ts nx Z w hr hxl htl (fun j x t hx ht=>⟨hk j x t hx ht,hp.sh.2.2.2 t (List.mem_of_getElem? ht),hp.ln.2 t (List.mem_of_getElem? ht)⟩) (fun x hx=>by
    obtain ⟨j,hj⟩:=List.mem_iff_getElem?.1 hx
    have hjl:j<ts.length:=by rw [htl];exact (List.getElem?_eq_some_iff.1 hj).1
    exact (hk j x _ hj (List.getElem?_eq_getElem hjl)).iface) hZ hn hl)
   obtain ⟨pa,pn,pc,rfl⟩:=hcs
   clear hp hZ hr hk hl
   have a0:=Tryz.as60
   have a5:=Tryz.as65
   have a6:=Tryz.as66
   go_enter Tryz.func61,Tryz.ntmps61
   go_wp2_with fail
   clear a0 a5 a6
   refine (zb HC).mono ?_
   rintro e w2 ⟨Y,rfl,hs,hT⟩
   have HT:=ze hT
   have HS:=ze hs
   clear hT hs
   go_wp2_with fail
   go_ret
   exact ⟨Y,rfl,zb HS,zb HT⟩
  ·obtain ⟨T,y,rfl⟩:=hpt.iface
   have HC:=ze (fun w1 (hO:Only (fun _=>False) w w1)=>VP f bb (zb IH) T y l m t' nx Z w1 ⟨PartAt.keep hO (fun _ _ f=>f) f _ _ hpt,hp.sh.2.2.2 t' (by simp [Pro.tRep]),hp.ln.2 t' (by simp [Pro.tRep])⟩ h0 h1 h2 h3 h4 ((zb HZ).young hO) hn _ rfl hl)
   generalize bld (f+1) (Pro.tRep t' l m) nx (sts Z)=r at *
   clear hp hZ hpt
   have a0:=Tryz.as70
   have a5:=Tryz.as75
   have a6:=Tryz.as76
   have a7:=Tryz.as77
   go_enter Tryz.func61,Tryz.ntmps61
   go_wp2_with fail
   clear a0 a5 a6 a7
   have hO:Only (fun _=>False) w (w.alloc (.cells #[.iface T y,.int .i64 l,.int .i64 m] 254)):=(Only.refl _ _).alloc _
   refine (zb HC _ hO).mono ?_
   rintro e w2 ⟨Y,rfl,hs,hT⟩
   have HT:=ze ((BldTo.young (zb HZ) hO).trans hT)
   have HS:=ze hs
   clear hT hs hO
   go_wp2_with fail
   go_ret
   exact ⟨Y,rfl,zb HS,zb HT⟩
end
section
open Go.RowKit Go.Shelf Go.Lib Go.Sort
shelf_lay_g SlLaysE.n43 Slgn 43 at Tryz 120 as laidCompact
shelf_lay_g SlLaysH0.n8 Slgf 8 at Tryz 62 as laidContains
theorem J8 {w:World}{blk q:Nat}{d:Array Int}:Only (zl blk) w (putRow (Value.int .i32) (Sort.ahead w q) blk 0 d):=by
 refine ⟨rfl,rfl,rfl,by simp,fun k hk hn=>?_⟩
 have hne:k≠blk:=hn
 unfold putRow mapBlock Sort.ahead
 simp only [Array.getElem?_modify,Ne.symm hne,if_false]
theorem RowI.holds {w:World}{blk n:Nat}(h:RowI w blk 0 n):∃ d:Array Int,d.size=n∧Holds (Value.int .i32) w blk 0 d:=by
 obtain ⟨G,h1,h2⟩:=h
 refine ⟨Array.ofFn (n:=n) (fun i=>G i),by simp,fun j hj=>?_⟩
 simp at hj
 rw [getElem!_pos _ j (by simpa using hj)]
 simp only [Array.getElem_ofFn]
 exact ⟨h1 j hj,h2 j hj⟩
theorem compactR (blk n cap:Nat)(w:World)(h:RowI w blk 0 n)(hn:n<1099511627776)(hc:n≤cap) :
  Calls Tryz.prog 120 #[.slice (some ⟨blk,0,none⟩) n cap] w fun e w'=>(∃ a k c,e = .returned (.slice a k c))∧Only (zl blk) w w':=by
 obtain ⟨d,rfl,hH⟩:=h.holds
 refine (AnyE.slices_Compact laidCompact (Value.int .i32) (fun _=>rfl) (EqlAt.intD _ _ _) (NeqAt.intD _ _ _) 0 (fun w=>by kernel_rfl) blk 0 cap d w hH (by omega) hc).mono ?_
 rintro e w' ⟨rfl,q,rfl⟩
 exact ⟨⟨_,_,_,rfl⟩,J8⟩
theorem J9 (w:World):Calls Tryz.prog 120 #[.slice none 0 0] w fun e w'=>(∃ a k c,e = .returned (.slice a k c))∧Only (fun _=>False) w w':=by
 have HO:Hid (Only (fun _=>False) w w):=Only.refl _ _
 go_enter Tryz.func120,Tryz.ntmps120
 go_wp2_with fail
 go_ret
 exact ⟨⟨_,_,_,rfl⟩,zb HO⟩
end
section
open Go.RowKit Go.Shelf
open Sm (Stp)
set_option maxHeartbeats 4000000
set_option maxRecDepth 1000000
attribute [local go_sem] Oper.semAt_some
theorem jH:∀ (Z:List (Stp×Value))(j:Nat)(z:Stp×Value),Z[j]?=some z→(yr Z)[j*5]?=some (.int .i64 (z.1.kind:Nat))∧(yr Z)[j*5+1]?=some z.2∧(yr Z)[j*5+2]?=some (.int .i64 z.1.asr)∧(yr Z)[j*5+3]?=some (.int .i64 (z.1.next:Nat))∧(yr Z)[j*5+4]?=some (.int .i64 (z.1.other:Nat))
 | [],j,z,h=>by simp at h
 |x :: Z,0,z,h=>by simp at h;subst h;simp [yr]
 |x :: Z,j+1,z,h=>by
  have:=jH Z j z (by simpa using h)
  rw [show (j+1)*5=j*5+5 by omega]
  simpa [yr] using this
structure StpsAt (w:World)(pb g cap:Nat)(Z:List (Stp×Value))(wv:Value):Prop where
 c0:w.cell? ⟨pb,0,none⟩=some (.slice (some ⟨g,0,none⟩) Z.length cap)
 c2:w.cell? ⟨pb,2,none⟩=some wv
 le:Z.length≤cap
 row:∀ j u,(yr Z)[j]?=some u→w.cell? ⟨g,j,none⟩=some u
 gl:g<w.heap.size
abbrev Slc:=Option Addr×Nat×Nat
def slV (p:Slc):Value:=.slice p.1 p.2.1 p.2.2
def Xi (p:Slc):Array Value:=#[.agg #[slV p]]
theorem Ka (pb g cap kb:Nat)(Z:List (Stp×Value))(ws:Slc)(zs:List Slc)(w0:World)(h:StpsAt w0 pb g cap Z (slV ws))(hkb:w0.cell? ⟨kb,0,none⟩=some (.pointer (some ⟨pb,0,none⟩)))(hz:Z.map Prod.snd=zs.map slV)(hl:Z.length≤1000)(n:Nat)(hn1:1≤n) :
  SeqO Fence.wide n Tryz.prog 121 #[.pointer (some ⟨kb,0,none⟩)] Xi (ws :: zs) (fun k=>k=kb∨k=pb∨k=g) w0:=by
 intro lp J O0 W hO hD hO0 hJ hY h0
 have hkl:=World.block_lt_of_cell? w0 _ hkb
 have hpl:=World.block_lt_of_cell? w0 _ h.c0
 have hgl:=h.gl
 have HK:Hid (KeptD (fun k=>k=kb∨k=pb∨k=g) w0 W O0):=KeptD.start (fun k hk=>by rcases hk with rfl |rfl |rfl;exact hkl;exact hpl;exact hgl) hO hD
 have hk1:=((zb HK).cell (p:=⟨kb,0,none⟩) (.inl rfl)).trans hkb
 have hk2:=((zb HK).cell (p:=⟨pb,2,none⟩) (.inr (.inl rfl))).trans h.c2
 have HH:=ze h
 have HJ:=ze hJ
 have HY:=ze hY
 have HZ:=ze hz
 have hsW:=hO.size
 have hzl:zs.length=Z.length:=by have:=congrArg List.length hz;simpa using this.symm
 obtain ⟨fn,tmps,assign,body,hy,hR⟩:=hY [] O0 ws W h0 (by simp)
 obtain ⟨wa,wn,wc⟩:=ws
 simp only [Xi,slV] at hy hk2
 clear h hJ hY h0 hD hO0 hz
 refine callsIn_of_wp Tryz.func121 rfl trivial ?_ rfl
 simp only [Tryz.ntmps121,List.size_toArray,List.length_cons,List.length_nil,Nat.reduceAdd,Nat.reduceSub,Array.replicate_succ,Array.replicate_zero,List.push_toArray,List.append_toArray,List.nil_append,List.cons_append]
 gi_wp2
 refine hR.mono ?_
 rintro e W1 ⟨rfl,O1,hJ1,hs1,hO1,hlt1⟩
 have HJ1:=ze hJ1
 have HK1:=ze ((zb HK).yield hs1 hO1)
 have hm1:=((zb HK1).cell (p:=⟨kb,0,none⟩) (.inl rfl)).trans hkb
 have hm2:=((zb HK1).cell (p:=⟨pb,0,none⟩) (.inr (.inl rfl))).trans (zb HH).c0
 clear hJ1 hs1 hO1 hlt1 hk1 hk2 hy hR HK
 gi_wp2
 gi_loopw [17] (fun vi wr=>∃ (i:Nat) (O:Nat→Prop),vi = .int .i64 i∧i≤Z.length∧Hid (J (((wa,wn,wc):Slc) :: zs.take i) O wr)∧Hid (KeptD (fun k=>k=kb∨k=pb∨k=g) w0 wr O)) (fun vi _=>Z.length-(intOf vi).toNat)
 case atStart=>exact ⟨0,O1,rfl,by omega,HJ1,HK1⟩
 case round=>
  clear HK1 HJ1
  obtain ⟨i,O,rfl,hi,HJ1,HK⟩:=hrel
  by_cases hlt:i<Z.length
  ·have hget:Z[i]?=some Z[i]:=List.getElem?_eq_getElem hlt
   obtain ⟨f0,f1,f2,f3,f4⟩:=jH Z i _ hget
   have kc:∀ q u,(yr Z)[q]?=some u→wr.cell? ⟨g,q,none⟩=some u:=fun q u hq=>((zb HK).cell (p:=⟨g,q,none⟩) (.inr (.inr rfl))).trans ((zb HH).row q u hq)
   have c0:=kc _ _ f0
   have c1:=kc _ _ f1
   have c2:=kc _ _ f2
   have c3:=kc _ _ f3
   have c4:=kc _ _ f4
   obtain ⟨⟨xa,xn,xc⟩,hzi⟩:∃ q,zs[i]?=some q:=⟨_,List.getElem?_eq_getElem (show i<zs.length by omega)⟩
   have hxe:Z[i].2 = .slice xa xn xc:=by
    have h1:(Z.map Prod.snd)[i]?=(zs.map slV)[i]?:=by rw [zb HZ]
    rw [List.getElem?_map,List.getElem?_map,hget,hzi] at h1
    simpa [slV] using h1
   have hzg:zs[i]'(by omega)=(xa,xn,xc):=by
    obtain ⟨h1,h2⟩:=List.getElem?_eq_some_iff.1 hzi
    exact h2
   have HP:Hid ((((wa,wn,wc):Slc) :: zs.take i++[(xa,xn,xc)]) <+: (((wa,wn,wc):Slc) :: zs)):=by
    rw [List.cons_append,←hzg]
    exact (List.cons_prefix_cons).2 ⟨rfl,Qj _ i (by omega)⟩
   have HT:Hid (((wa,wn,wc):Slc) :: zs.take i++[(xa,xn,xc)]=((wa,wn,wc):Slc) :: zs.take (i+1)):=by
    rw [List.cons_append,←hzg,kI _ i (by omega)]
    rfl
   rw [hxe] at c1
   clear hget f0 f1 f2 f3 f4 kc hzi hzg
   generalize Z[i]=y at *
   obtain ⟨⟨yk,yl,ya,yn,yo⟩,yv⟩:=y
   simp only [] at hxe c0 c2 c3 c4
   clear hxe
   have hJ2:=zb HJ _ O wr (wr.alloc (.cells #[.int .i64 (yk:Nat),.slice xa xn xc,.int .i64 ya,.int .i64 (yn:Nat),.int .i64 (yo:Nat)] 156)) (zb HJ1) ((Only.refl _ wr).alloc _)
   have HK2:=ze ((zb HK).young (W:=W) hsW (A':=wr.alloc (.cells #[.int .i64 (yk:Nat),.slice xa xn xc,.int .i64 ya,.int .i64 (yn:Nat),.int .i64 (yo:Nat)] 156)) ((Only.refl _ wr).alloc _))
   obtain ⟨fn,tmps,assign,body,hy,hR⟩:=zb HY _ O (xa,xn,xc) _ hJ2 (zb HP)
   simp only [Xi,slV] at hy
   clear hJ2
   gi_wp2
   refine hR.mono ?_
   rintro e W3 ⟨rfl,O',hJ3,hs3,hO3,hlt3⟩
   have HK3:=ze ((zb HK2).yield hs3 hO3)
   gi_wp2
   exact ⟨⟨i+1,O',by go_num,by omega,(by rw [←zb HT];exact hJ3),zb HK3⟩,by simp [intOf];omega⟩
  ·obtain rfl:i=Z.length:=by omega
   gi_wp2
   go_end0
   exact ⟨⟨_,rfl⟩,O,by have:=zb HJ1;rwa [List.take_of_length_le (by omega)] at this⟩
end
section
open Go.RowKit
theorem insertN (w:World) :
  Calls Tryz.prog 195 #[.slice none 0 0,.int .i64 0,.int .i64 0] w fun e w'=>e = .returned (.tuple #[])∧Only (fun _=>False) w w':=by
 go_enter Tryz.func195,Tryz.ntmps195
 go_wp2_with fail
 go_loopw [6] (fun vi wr=>vi = .int .i64 1∧Hid (Only (fun _=>False) w wr)) (fun _ _=>0)
 case atStart=>exact ⟨by go_num,Only.refl _ _⟩
 case round=>
  obtain ⟨rfl,HS⟩:=hrel
  go_wp2
  go_end0
  exact ⟨rfl,zb HS⟩
theorem pdqN (lim:Int)(w:World) :
  Calls Tryz.prog 160 #[.slice none 0 0,.int .i64 0,.int .i64 0,.int .i64 lim] w fun e w'=>e = .returned (.tuple #[])∧Only (fun _=>False) w w':=by
 go_enter Tryz.func160,Tryz.ntmps160
 go_wp2_with fail
 go_loopw [1,2,3,8,9] (fun va vb vl v8 v9 wr=>va = .int .i64 0∧vb = .int .i64 0∧vl = .int .i64 lim∧v8 = .bool true∧v9 = .bool true∧Hid (Only (fun _=>False) w wr)) (fun _ _ _ _ _ _=>0)
 case atStart=>exact ⟨rfl,rfl,rfl,rfl,rfl,Only.refl _ _⟩
 case round=>
  obtain ⟨rfl,rfl,rfl,rfl,rfl,HS⟩:=hrel
  go_wp2_with (go_at_call 195;refine (insertN _).mono ?_;rintro e w1 ⟨rfl,hS1⟩;have HS:=ze ((zb HS).trans hS1);clear hS1)
  (try simp only [Exit.inBlock,Exit.then]);refine bodyPost_ret (results_none rfl _ _ _) rfl ?_
  exact ⟨rfl,zb HS⟩
theorem sortN (w:World) :
  Calls Tryz.prog 119 #[.slice none 0 0] w fun e w'=>e = .returned (.tuple #[])∧Only (fun _=>False) w w':=by
 have HL:=ze (VG 0 (by omega))
 have HP:=ze (pdqN)
 have wr:IntKind.u64.wrap 0=0:=by simp [IntKind.wrap,IntKind.bits,IntKind.signed]
 have wr2:IntKind.u64.wrap ((0:Nat):Int)=((0:Nat):Int):=by simp [IntKind.wrap,IntKind.bits,IntKind.signed]
 go_enter Tryz.func119,Tryz.ntmps119
 go_wp2_with (first |(go_at_call 161;refine (zb HL _).mono ?_;rintro e w' ⟨rfl,rfl⟩) |(go_at_call 160;refine (zb HP _ _).mono ?_;rintro e w1 ⟨rfl,hS⟩;have HS:=ze hS;clear hS))
 go_end0
 exact ⟨rfl,zb HS⟩
end
section
open Go.RowKit Go.Shelf
set_option maxHeartbeats 4000000
set_option maxRecDepth 1000000
attribute [local go_sem] Oper.semAt_some
theorem Jq {F:Fence}{nF:Nat}{P:Program}(w:World){ops:Array Oper}{rest:List Oper}{o:Oper}{a:Act}{Q:Exit→Act→World→Prop}(hgd:o.guard=none)(s x:Operand)(t:TypeId)
  (ho:o.op = .call { callee:=.builtin .append,args:=#[s,x],argTypes:=#[t,t] })
  (base:Nat) (e:TypeId) (i:TypeInfo) (z:Value) (size bytes:Nat) (ht:P.underlying t=some (.slice e)) (hi:P.info? e=some i) (hz:i.zero=some z)
  (hsize:i.size=size) (hby:i.bytes=bytes) (hzs:z.cells.size=size) (hsz:0<size)
  (v:Value) (n:Nat) (xs:List Value) (hs:a.eval s=v) (hown:w.ownsRow base e size v n xs)
  (ad:Addr) (m c:Nat) (news:List Value) (hx:a.eval x = .slice (some ad) m c) (hl:news.length=m*size) (hnews:∀ j u,news[j]?=some u→w.cell? (ad.add j)=some u) (h1:∀ u∈news,u.oneCell'=true)
  (_hm:0<m) (h63:n+m≤maxLen) (hbytes:(n+m)*bytes≤140737488355328) (hbase:base≤w.heap.size)
  (h:∀ v' w',w'.ownsRow base e size v' (n+m) (xs++news)→w.grownBy w' v.ownBlock→(∀ k,v'.ownBlock=some k→v.ownBlock=some k∨w.heap.size≤k)→wpListIn F nF P ops Q rest (a.put o.dst v') w'):wpListIn F nF P ops Q (o :: rest) a w:=by
 have hgr:∀ w' row,w.grownBy w' none→w.grownBy w' row:=fun w' row g=>⟨g.os,g.tape,g.output,g.size,fun k hk _=>g.block k hk (by simp)⟩
 rcases hown.2 with ⟨rfl,rfl⟩ |⟨g,cap,cur,rfl,hbg,hg,hnc,hcm,hcs,htake⟩
 ·have hxs:xs=[]:=List.eq_nil_of_length_eq_zero (by simpa using hown.1)
  subst hxs
  exact wpListIn_append_own w hgd s x t ho w.heap.size e i z size bytes ht hi hz hsize hby hzs hsz _ 0 [] hs (World.ownsRow_nil _ _ _ _) ad m c news hx hl hnews h1 h63 hbytes (Nat.le_refl _) (fun v' w' h2 h3 _=>h v' w' (yi h2 hbase) h3 (fun k hk=>.inr (h2.lt k hk).1))
 ·by_cases hroom:n+m≤cap
  ·exact wpListIn_append_fits w hgd s x t ho base e i size ht hi hsize g n cap xs hs hown ad m c news hx hl hnews h1 hroom (fun w' h2 h3=>h _ w' h2 h3 (fun k hk=>.inl hk))
  ·refine wpListIn_plain hgd fun K hK'=>?_
   obtain ⟨v',w',hrun,r1,r2⟩:=run_append_arg_grows (P:=P) w t o.type e i z size bytes ht hi hz hsize hby hzs hsz ⟨g,0,none⟩ n cap xs hown.1 (hown.cells (g:=g) rfl) ad m c news hl hnews (by omega) h63 hbytes
   unfold Oper.wpIn
   refine ⟨?_,?_⟩
   ·simp [Oper.about,ho,resolve,Target.leads,Sem.run_pure]
   ·rw [Oper.semAt_plain F _ _ (by rw [ho];intro c hc';cases hc')]
    simp [execOp,ho,resolve,invoke,builtin,hs,hx,hrun,Result.andThen]
    exact hK' _ _ (h v' w' (yi r1 hbase) (hgr _ _ r2) (fun k hk=>.inr (r1.lt k hk).1))
theorem Tryz.infoRune:(Tryz.prog.info? 21).map (fun i=>(i.zero,i.size,i.bytes))=some (some (.int .i32 0),1,4):=by kernel_rfl
def xm (cs:List Int):List Value:=cs.map (Value.int .i32)
structure CutS (w:World)(O:Nat→Prop)(X:World)(B:Nat):Prop where
 ex:∃ sv cs,X.cell? ⟨w.heap.size,0,none⟩=some sv∧X.ownsRow (w.heap.size+1) 21 1 sv cs.length (xm cs)∧cs.length≤B∧∀ k,O k↔k=w.heap.size∨sv.ownBlock=some k
 fr:X.frozen? ⟨w.heap.size,0,none⟩=false
 only:Only (fun _=>False) w X
 size:w.heap.size+1≤X.heap.size
theorem CutS.keep {w X X':World}{O:Nat→Prop}{B B2:Nat}(h:CutS w O X B)(hB:w.heap.size+1≤B2)(k:Only (fun k=>B2≤k∧¬O k) X X'):CutS w O X' B:=by
 obtain ⟨sv,cs,h1,h2,h3,h4⟩:=h.ex
 have hn:¬(B2≤w.heap.size∧¬O w.heap.size):=fun h=>by omega
 have hs:=h.size
 exact ⟨⟨sv,cs,(k.cell (p:=⟨w.heap.size,0,none⟩) (by show _<_;simp only;omega) hn).trans h1,zo h2 k (fun g hg hp=>hp.2 ((h4 g).2 (.inr hg))),h3,h4⟩,(k.frozen (p:=⟨w.heap.size,0,none⟩) (by show _<_;simp only;omega) hn).trans h.fr,
  ⟨k.os.trans h.only.os,k.tape.trans h.only.tape,k.output.trans h.only.output,Nat.le_trans h.only.size k.size,fun j hj _=>(k.block j (by omega) (fun hp=>by omega)).trans (h.only.block j hj (fun f=>f))⟩,Nat.le_trans h.size k.size⟩
theorem CutS.lt {w X:World}{O:Nat→Prop}{B:Nat}(h:CutS w O X B):∀ k,O k→k<X.heap.size:=fun k hk=>by
 obtain ⟨sv,cs,h1,h2,h3,h4⟩:=h.ex
 rcases (h4 k).1 hk with e |e
 ·have:=h.size;omega
 ·exact (zg h2 k e).2
theorem CutS.up {w X:World}{O:Nat→Prop}{B C:Nat}(h:CutS w O X B)(hBC:B≤C):CutS w O X C:=by
 obtain ⟨sv,cs,h1,h2,h3,h4⟩:=h.ex
 exact ⟨⟨sv,cs,h1,h2,by omega,h4⟩,h.fr,h.only,h.size⟩
theorem Yd (a b:List Int):xm (a++b)=xm a++xm b:=by simp [xm]
theorem CutS.push {w X V:World}{O:Nat→Prop}{B B':Nat}{sv v':Value}{cs:List Int}{a b:Int}(h:CutS w O X B)(q1:X.cell? ⟨w.heap.size,0,none⟩=some sv)(q2:X.ownsRow (w.heap.size+1) 21 1 sv cs.length (xm cs))(q3:cs.length+2≤B')(q4:∀ k,O k↔k=w.heap.size∨sv.ownBlock=some k)
  (hk:Only (fun k=>sv.ownBlock=some k) X V) (hown:V.ownsRow (w.heap.size+1) 21 1 v' (cs.length+2) (xm cs++[.int .i32 a,.int .i32 b])) (hsep:∀ k,v'.ownBlock=some k→sv.ownBlock=some k∨X.heap.size≤k) :
  CutS w (fun k=>k=w.heap.size∨v'.ownBlock=some k) (V.setCell ⟨w.heap.size,0,none⟩ v') B'∧(∀ k,(k=w.heap.size∨v'.ownBlock=some k)→O k∨X.heap.size≤k)∧Only O X (V.setCell ⟨w.heap.size,0,none⟩ v'):=by
 have hs:=h.size
 have hn:¬sv.ownBlock=some w.heap.size:=fun e=>by have:=(zg q2 _ e).1;omega
 have hn':¬v'.ownBlock=some w.heap.size:=fun e=>by have:=(zg hown _ e).1;omega
 have c1:=(hk.cell (p:=⟨w.heap.size,0,none⟩) (World.block_lt_of_cell? _ _ q1) hn).trans q1
 have c2:=(hk.frozen (p:=⟨w.heap.size,0,none⟩) (World.block_lt_of_cell? _ _ q1) hn).trans h.fr
 have hst:Only (fun k=>k=w.heap.size) V (V.setCell ⟨w.heap.size,0,none⟩ v'):=(Only.refl (fun k=>k=w.heap.size) V).setCell (p:=⟨w.heap.size,0,none⟩) (.inl rfl) _
 have hO:Only O X (V.setCell ⟨w.heap.size,0,none⟩ v'):=(hk.mono (fun k _ e=>(q4 k).2 (.inr e))).setCell (p:=⟨w.heap.size,0,none⟩) (.inl ((q4 _).2 (.inl rfl))) _
 have hl:(cs++[a,b]).length=cs.length+2:=by simp
 refine ⟨⟨⟨v',cs++[a,b],World.cell?_setCell_same _ _ _ c1,?_,by omega,fun k=>Iff.rfl⟩,(zi _ _ _ _).trans c2,?_,Nat.le_trans hs hO.size⟩,fun k hk2=>?_,hO⟩
 ·rw [hl,Yd]
  exact zo hown hst (fun g hg e=>hn' (e ▸ hg))
 ·exact ⟨hO.os.trans h.only.os,hO.tape.trans h.only.tape,hO.output.trans h.only.output,Nat.le_trans h.only.size hO.size,fun j hj _=>(hO.block j (by have:=h.only.size;omega) (fun e=>by
   rcases (q4 j).1 e with e |e
   ·omega
   ·have:=(zg q2 _ e).1;omega)).trans (h.only.block j hj (fun f=>f))⟩
 ·rcases hk2 with e |e
  ·exact .inl ((q4 k).2 (.inl e))
  ·exact (hsep k e).imp_left (fun e=>(q4 k).2 (.inr e))
theorem CutS.row {w X:World}{blk n cap:Nat}{cs:List Int}(q2:X.ownsRow (w.heap.size+1) 21 1 (.slice (some ⟨blk,0,none⟩) n cap) n (xm cs)):RowI X blk 0 n∧n≤cap:=by
 rcases q2.2 with ⟨h1,_⟩ |⟨g',cap',cur,h1,h2,h3,h4,h5,h6,h7⟩
 ·cases h1
 ·cases h1
  have hl:cs.length=n:=by have:=q2.1;simpa [xm] using this
  have hc:∀ t,t<n→cur[t]?=some (.int .i32 (cs.getD t 0)):=fun t ht=>by
   have e1:(cur.toList.take (n*1))[t]?=(xm cs)[t]?:=by rw [h7]
   rw [List.getElem?_take_of_lt (by omega)] at e1
   rw [←Array.getElem?_toList,e1]
   simp [xm,List.getElem?_map,List.getElem?_eq_getElem (show t<cs.length by omega)]
  refine ⟨⟨fun t=>cs.getD t 0,fun t ht=>?_,fun t ht=>?_⟩,by omega⟩
  ·unfold World.cell?
   rw [h3]
   simpa using hc t ht
  ·unfold World.frozen?
   rw [h3]
   simp
theorem Xj (gf:Nat)(lb:Array Value)(xs:List Slc)(D:Nat→Prop)(w:World)(eg:∀ args w,(callFunc gf args).run Tryz.prog w = .ok (.enter gf args) w)(hseq:SeqO Fence.wide 8 Tryz.prog gf lb Xi xs D w)(hD:∀ k,D k→k<w.heap.size)(hl:xs.length≤1001)(hset:∀ p∈xs,∃ l A,SpanRow w A (slV p) l∧Cs.Rising l) :
  Calls Tryz.prog 65 #[.func (.func gf) #[] lb] w fun e w'=>(∃ a k c,e = .returned (.slice a k c))∧Only (fun _=>False) w w':=by
 obtain ⟨i0,hi,hz0,hz1,hz2⟩:=info_parts Tryz.infoRune
 have HSeq:=ze hseq
 have HD:=ze hD
 have HSt:=ze hset
 have HInfo:=ze (And.intro hi (And.intro hz0 (And.intro hz1 hz2)))
 clear hseq hD hset hi hz0 hz1 hz2
 refine (callsIn_wide (n:=9)).1 ?_
 refine callsIn_of_wp_marks Tryz.func65 rfl trivial ?_ rfl
 simp only [Tryz.ntmps65,List.size_toArray,List.length_cons,List.length_nil,Nat.reduceAdd,Nat.reduceSub,Array.replicate_succ,Array.replicate_zero,List.push_toArray,List.append_toArray,List.nil_append,List.cons_append]
 gi_wp2
 have HO1:Hid (Only (fun _=>False) w (w.alloc (.cells #[.slice none 0 0] 158))):=(Only.refl _ _).alloc _
 have hsz:(w.alloc (.cells #[.slice none 0 0] 158)).heap.size=w.heap.size+1:=by simp
 have HI0:Hid (CutS w (fun k=>k=w.heap.size) (w.alloc (.cells #[.slice none 0 0] 158)) 0):=⟨⟨.slice none 0 0,[],zm w _ rfl _ _ 0 _ rfl,World.ownsRow_nil _ _ _ _,Nat.le_refl _,(fun k=>by simp [Value.ownBlock])⟩,zu w _ rfl _ _ 0,zb HO1,by omega⟩
 generalize w.alloc (.cells #[.slice none 0 0] 158)=w1 at *
 refine Vr (F:=Fence.wide) rfl (by omega) (gf:=gf) (lb:=lb) rfl trivial eg
  ((zb HSeq).later (zb HO1)) (fun _=>rfl) (fun pre O X=>CutS w O X (2300000*pre.length)) (fun k=>k=w.heap.size) (fun k hk=>by omega) (fun k hk=>by have:=zb HD k hk;exact ⟨by omega,by omega⟩) (fun pre O X X' h k=>h.keep (by omega) k) (zb HI0)
  (fun x a V=>∃ k,a = { tmps:=#[.func (.func gf) #[] lb,undef,.slice none 0 0,.pointer (some ⟨w.heap.size,0,none⟩),.pointer (some ⟨k,0,none⟩),undef,undef,.func (.func gf) #[] lb,.agg #[slV x],undef,undef,undef,undef,undef,undef,undef,undef,undef,undef,undef,undef,undef,undef],defers:=[] }∧V.cell? ⟨k,0,none⟩=some (slV x)) ?ax ?assign ?body ?done
 case ax=>
  rintro x a V l o o' ⟨k,h1,h2⟩ hl' ho
  have hkl:k≠l:=by
   rintro rfl
   unfold World.cell? at h2
   rw [hl'] at h2
   cases o with
   |cells c T f=>simp [Obj.isCells] at ho
   |_=>simp at h2
  exact ⟨k,h1,(World.cell?_of_block (w:=V) (World.putObj_heap_other hkl)).trans h2⟩
 case assign=>
  intro l x W K hK
  obtain ⟨xa,xn,xc⟩:=x
  unfold Xi
  simp only [slV] at hK ⊢
  have hA:Only (fun _=>False) W (W.alloc (.cells #[.slice xa xn xc] 153)):=(Only.refl _ _).alloc _
  have hC:(W.alloc (.cells #[.slice xa xn xc] 153)).cell? ⟨W.heap.size,0,none⟩=some (.slice xa xn xc):=zm W _ rfl _ _ 0 _ rfl
  gi_wp2
  exact hK _ _ hA ⟨W.heap.size,rfl,hC⟩
 case body=>
  rintro l pre O x a V hl2 hOl ⟨r,hr⟩ hI hpre ⟨k,rfl,hk⟩
  obtain ⟨ls,A,hrow,hri⟩:=zb HSt x (hpre.subset (by simp))
  obtain ⟨xa,xn,xc⟩:=x
  simp only [slV] at hk hrow ⊢
  have HIv:=ze hI
  have hlen:=hri.len
  have hprel:=hpre.length_le
  simp only [List.length_append,List.length_singleton] at hprel
  have HRi:=ze hri
  have HRow:=ze (hrow.mono (B:=fun g=>g<w.heap.size) (fun g hg _=>hg))
  clear hI hrow hri
  gi_wp2
  refine ⟨trivial,(CallsIn.inRound l (callsIn_wide.2 (Zg _ _ ⟨_,_,_,rfl⟩))).mono ?_⟩
  rintro e V1 ⟨v,rfl,kb2,rfl,hk21,hk22,hO2⟩
  have HO2:=ze hO2
  have HK2:=ze hk22
  have hr2:=(hO2.block l (Array.getElem?_eq_some_iff.1 hr).1 (fun f=>f)).trans hr
  have hsV:=(zb HIv).size
  have hs2:=hO2.size
  have HIv2:Hid (CutS w O V1 (2300000*pre.length)):=(zb HIv).keep (B2:=w.heap.size+1) (Nat.le_refl _) (hO2.mono (fun _ _ f=>f.elim))
  have HRow2:=ze ((zb HRow).keep ((zb HIv).only.trans hO2) (fun _ _ f=>f))
  clear hO2 hk22
  gi_wp2
  refine Vs (F:=Fence.wide.inRound l) rfl hr2 (by omega) (gf:=194) (lb:=#[.pointer (some ⟨kb2,0,none⟩)]) rfl trivial (enters_of Tryz.func194 (by kernel_rfl) rfl)
   (vt _ ls _ kb2 V1 (zb HRow2) (zb HK2) (by omega) (9-1-1-1) (by omega)) (fun _=>rfl) (fun pre2 O2 X=>CutS w O2 X (2300000*pre.length+2*pre2.length)∧Only O V1 X∧∀ k,O2 k→O k∨V1.heap.size≤k) O (zb HIv2).lt ?d (fun pre2 O2 X X' h k=>⟨h.1.keep (by omega) k,⟨k.os.trans h.2.1.os,k.tape.trans h.2.1.tape,k.output.trans h.2.1.output,Nat.le_trans h.2.1.size k.size,fun j hj hn=>(k.block j (Nat.lt_of_lt_of_le hj h.2.1.size) (fun hp=>by omega)).trans (h.2.1.block j hj hn)⟩,h.2.2⟩) ⟨zb HIv2,Only.refl _ _,fun k hk=>.inl hk⟩
   (fun y=>{ tmps:=#[.func (.func gf) #[] lb,undef,.slice none 0 0,.pointer (some ⟨w.heap.size,0,none⟩),.pointer (some ⟨k,0,none⟩),.int .i32 y.1,.int .i32 y.2,.func (.func gf) #[] lb,.agg #[.slice xa xn xc],.agg #[.slice xa xn xc],.func (.func 194) #[] #[.pointer (some ⟨kb2,0,none⟩)],.int .i32 y.1,.int .i32 y.2,undef,undef,undef,undef,undef,undef,undef,undef,undef,undef],defers:=[] }) ?assign2 ?body2 ?done2
  case d=>
   obtain ⟨sv,cs,q1,q2,q3,q4⟩:=(zb HIv).ex
   rintro j (rfl |⟨h1,h2⟩)
   ·refine ⟨World.block_lt_of_cell? V1 _ (zb HK2),fun hj=>?_⟩
    rcases (q4 j).1 hj with e |e
    ·omega
    ·have:=(zg q2 j e).2;omega
   ·refine ⟨h2,fun hj=>?_⟩
    rcases (q4 j).1 hj with e |e
    ·omega
    ·have:=(zg q2 j e).1;omega
  case assign2=>
   intro l' y W K hK
   unfold kJ
   gi_wp2
   exact hK
  case body2=>
   rintro l' pre2 O2 y X hl' hOl' ⟨r',hr'⟩ ⟨hX,hOX,hsub⟩ hpre2
   have hy:=(zb HRi).2 y (hpre2.subset (by simp))
   have hp2l:=hpre2.length_le
   simp only [List.length_append,List.length_singleton] at hp2l
   obtain ⟨sv,cs,q1,q2,q3,q4⟩:=hX.ex
   have q5:=hX.fr
   obtain ⟨pa,pn,pc,rfl⟩:=zq q2
   obtain ⟨hi,hz0,hz1,hz2⟩:=zb HInfo
   obtain ⟨ya,yb⟩:=y
   unfold Cs.okS at hy
   simp only [] at hy ⊢
   have hyw:wrap32 (yb+1)=yb+1:=by unfold wrap32;omega
   have HXX:=ze hX
   have Hq2:=ze q2
   have HOX:=ze (And.intro hOX hsub)
   have hXs:=hX.size
   clear hX q2 hOX hsub
   gi_wp2_with (gi_at_builtin;refine zb ?_)
   refine ze ?_
   refine Jq _ rfl _ _ 158 rfl (w.heap.size+1) 21 i0 (.int .i32 0) 1 4 Tryz.underlying158 hi hz0 hz1 hz2 rfl (by decide) (.slice pa pn pc) cs.length (xm cs) rfl (World.ownsRow.alloc (zb Hq2) _) ⟨X.heap.size,0,none⟩ 2 2 [.int .i32 ya,.int .i32 (yb+1)] rfl rfl (cell_two_new _ _ _ _) (fun u hu=>by simp at hu;rcases hu with rfl |rfl<;>rfl) (by omega) (by unfold maxLen;omega) (by omega) (by simp;omega) ?_
   intro v' V3 hown' hgrow hsep
   obtain ⟨pa2,pn2,pc2,rfl⟩:=zq hown'
   have hO3:=((Only.refl (fun k=>(Value.slice pa pn pc).ownBlock=some k) X).alloc (.cells #[.int .i32 ya,.int .i32 (yb+1)] 21)).grown hgrow (fun k hk=>.inl hk)
   have hnb:¬(Value.slice pa pn pc).ownBlock=some w.heap.size:=fun e=>by have:=(zg (zb Hq2) _ e).1;omega
   have c1:=(hO3.cell (p:=⟨w.heap.size,0,none⟩) (World.block_lt_of_cell? _ _ q1) hnb).trans q1
   have c2:=(hO3.frozen (p:=⟨w.heap.size,0,none⟩) (World.block_lt_of_cell? _ _ q1) hnb).trans q5
   have HPu:=ze ((zb HXX).push q1 (zb Hq2) (B':=2300000*pre.length+2*(pre2.length+1)) (by omega) q4 hO3 hown' (fun k hk=>(hsep k hk).imp_right (fun h=>by simp at h;omega)))
   clear hown' hgrow hsep hO3
   gi_wp2
   obtain ⟨g1,g2,g3⟩:=zb HPu
   have hOX:=(zb HOX).1
   refine ⟨_,⟨by simpa using g1,⟨g3.os.trans hOX.os,g3.tape.trans hOX.tape,g3.output.trans hOX.output,Nat.le_trans hOX.size g3.size,fun j hj hn=>(g3.block j (Nat.lt_of_lt_of_le hj hOX.size) (fun ho=>((zb HOX).2 j ho).elim hn (fun h=>by omega))).trans (hOX.block j hj hn)⟩,fun k hk=>?_⟩,g2,g3,g1.lt⟩
   rcases g2 k hk with h |h
   ·exact (zb HOX).2 k h
   ·exact .inr (Nat.le_trans hOX.size h)
  case done2=>
   rintro O2 X ⟨hX,hOX,hsub⟩
   have hO2:=zb HO2
   refine ⟨O2,hX.up (by simp;omega),fun k hk=>(hsub k hk).imp_right (fun h=>by omega),⟨hOX.os.trans hO2.os,hOX.tape.trans hO2.tape,hOX.output.trans hO2.output,Nat.le_trans hO2.size hOX.size,fun j hj hn=>(hOX.block j (by omega) hn).trans (hO2.block j hj (fun f=>f))⟩,hX.lt⟩
 case done=>
  rintro Dm O V hDw hOD hX hK
  obtain ⟨sv,cs,q1,q2,q3,q4⟩:=hX.ex
  have hOw:=hX.only
  have hXs:=hX.size
  have hKV:Dm<V.heap.size:=(Array.getElem?_eq_some_iff.1 hK).1
  have hOD2:¬sv.ownBlock=some Dm:=fun e=>hOD ((q4 Dm).2 (.inr e))
  have hnb:¬sv.ownBlock=some w.heap.size:=fun e=>by have:=(zg q2 _ e).1;omega
  have hnw:∀ k,sv.ownBlock=some k→w.heap.size+1≤k:=fun k e=>(zg q2 k e).1
  clear hX
  have HFin:Hid (∀ V2,Only (fun k=>sv.ownBlock=some k) V V2→V2.heap[Dm]?=some (.deferred (some []))∧Only (fun _=>False) w (V2.putObj Dm (.deferred none))):=fun V2 h=>⟨(h.block Dm hKV hOD2).trans hK,⟨h.os.trans hOw.os,h.tape.trans hOw.tape,h.output.trans hOw.output,by rw [yK];exact Nat.le_trans hOw.size h.size,fun j hj _=>(World.putObj_heap_other (by omega)).trans ((h.block j (by have:=hOw.size;omega) (fun e=>by have:=hnw j e;omega)).trans (hOw.block j hj (fun f=>f)))⟩⟩
  rcases q2.2 with ⟨rfl,_⟩ |⟨g,cap,cur,rfl,hbg,hg,hnc,hcm,hcs,htake⟩
  ·clear q2 hOD2 hnb hnw hOw
   gi_wp2_with (refine ⟨trivial,?_⟩;gi_at_call 119;refine (callsIn_wide.2 (sortN _)).mono ?_;rintro e V1 ⟨rfl,hO1⟩;have m1:=(hO1.cell (p:=⟨w.heap.size,0,none⟩) (World.block_lt_of_cell? _ _ q1) (fun f=>f)).trans q1;have HO1:=ze hO1;clear hO1)
   refine ⟨trivial,(callsIn_wide.2 (J9 _)).mono ?_⟩
   rintro e V2 ⟨⟨a2,k2,c2,rfl⟩,hO2⟩
   have HO2:=ze ((zb HO1).trans hO2)
   clear hO2
   gi_wp2
   obtain ⟨g1,g2⟩:=zb HFin _ ((zb HO2).mono (fun _ _ f=>f.elim))
   refine ⟨by simp,.inl ⟨_,_,rfl,run_takeDeferred g1,?_⟩⟩
   exact ⟨_,results_tmp rfl _ _ _,⟨_,_,_,rfl⟩,g2⟩
  ·have hRow:=CutS.row q2
   have hgl:=(zg q2 g rfl).2
   have HSo:=ze (sortR g cs.length cap V hRow.1 hgl (by omega))
   have hcc:=hRow.2
   clear q2 hOD2 hnw hOw hRow hcs htake
   have hgne:¬zl g w.heap.size:=fun e=>hnb (by simp only [Value.ownBlock];exact congrArg some e.symm)
   gi_wp2_with (refine ⟨trivial,?_⟩;gi_at_call 119;refine (callsIn_wide.2 (zb HSo)).mono ?_;rintro e V1 ⟨rfl,hO1,hR1⟩;have m1:=(hO1.cell (p:=⟨w.heap.size,0,none⟩) (World.block_lt_of_cell? _ _ q1) hgne).trans q1;have HO1:=ze hO1;have HR1:=ze hR1;clear hO1 hR1)
   refine ⟨trivial,(callsIn_wide.2 (compactR g cs.length cap V1 (zb HR1) (by omega) hcc)).mono ?_⟩
   rintro e V2 ⟨⟨a2,k2,c2,rfl⟩,hO2⟩
   have HO2:=ze ((zb HO1).trans hO2)
   clear hO2
   gi_wp2
   obtain ⟨g1,g2⟩:=zb HFin _ ((zb HO2).mono (fun k _ f=>by simp only [Value.ownBlock];exact congrArg some (Eq.symm f)))
   refine ⟨by simp,.inl ⟨_,_,rfl,run_takeDeferred g1,?_⟩⟩
   exact ⟨_,results_tmp rfl _ _ _,⟨_,_,_,rfl⟩,g2⟩
end
end Go.Proofs.YtnagphodmfejiaaGreatDoor
