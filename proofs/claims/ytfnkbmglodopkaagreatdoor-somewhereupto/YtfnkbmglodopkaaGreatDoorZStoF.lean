/- The store's Find. -/
import Derived.Test.YtfnkbmglodopkaaGreatDoorZMapAStoE
namespace Go.Proofs.YtfnkbmglodopkaaGreatDoor
section
open Go.RowKit
open Sm (Stp Tree)
set_option maxHeartbeats 8000000
set_option maxRecDepth 100000
theorem zd.laterO {P Q:Nat→Prop}{a w w':World}(h:zd P a w)(k:zd Q w w')(hq:∀ i,i<a.heap.size→Q i→P i):zd P a w':=
 ⟨k.os.trans h.os,k.tape.trans h.tape,k.output.trans h.output,Nat.le_trans h.size k.size,fun j hj hn=>(k.block j (Nat.lt_of_lt_of_le hj h.size) (fun q=>hn (hq j hj q))).trans (h.block j hj hn)⟩
theorem qX.keepP {P:Nat→Prop}{w w':World}{v:Value}{L:List (Int×Int)}(h:qX w v L)(k:zd P w w')(hn:∀ g,v.ownBlock=some g→¬P g):qX w' v L:=by
 rcases h with h |⟨g,cap,h1,h2,h3⟩
 ·exact .inl h
 ·exact .inr ⟨g,cap,h1,h2,h3.keep k (hn g (by rw [h1];rfl))⟩
structure Seek (w1 wr:World)(A O:Nat→Prop)(sb pb mb most:Nat)(N:List Stp)(st:Nat)(W:Int→Bool)(cs:List Int)(D:Nat→Prop)(s:Fnd.St)(i:Nat)(O' D':Nat→Prop)(es:List Ent)(sv:Value):Prop where
 sto:Sto wr O' D' sb pb mb most N (yY N st W cs) es sv
 env:Env wr A O' pb N st W cs
 at':∃ e,es[i]?=some e∧e.s=s
 len:es.length≤most
 oo:∀ g,O' g→O g∨w1.heap.size≤g
 dd:∀ g,D' g→D g∨w1.heap.size≤g
 only:zd O w1 wr
theorem Seek.young {w1 wr w':World}{A O D O' D':Nat→Prop}{sb pb mb most st i:Nat}{N:List Stp}{W:Int→Bool}{cs:List Int}{s:Fnd.St}{es:List Ent}{sv:Value}(h:Seek w1 wr A O sb pb mb most N st W cs D s i O' D' es sv)(k:zd (fun _=>False) wr w'):Seek w1 w' A O sb pb mb most N st W cs D s i O' D' es sv:=
 ⟨h.sto.young k,h.env.young k,h.at',h.len,h.oo,h.dd,h.only.laterO k (fun _ _ f=>f.elim)⟩
theorem Leaves.only {w w':World}{O D:Nat→Prop}{sb pb mb most lim:Nat}{N:List Stp}{X:Fnd.St→Nat→Fnd.St→Prop}{s:Fnd.St}{x:Ending}(k:Leaves w w' O D sb pb mb most N X s lim x):zd O w w':=by
 obtain ⟨j,e,es',sv',O2,D2,_,_,_,_,_,_,_,a7⟩:=k
 exact a7
theorem Seek.back {w w1 wr:World}{A O D O' D':Nat→Prop}{sb pb mb most st i:Nat}{N:List Stp}{W:Int→Bool}{cs:List Int}{s:Fnd.St}{es:List Ent}{sv:Value}(h:Seek w1 wr A O sb pb mb most N st W cs D s i O' D' es sv)(k:zd (fun _=>False) w w1):Seek w wr A O sb pb mb most N st W cs D s i O' D' es sv:=by
 have hs:=k.size
 exact ⟨h.sto,h.env,h.at',h.len,fun g hg=>(h.oo g hg).imp_right (fun q=>by omega),fun g hg=>(h.dd g hg).imp_right (fun q=>by omega),(k.mono (fun _ _ f=>f.elim)).trans h.only⟩
theorem Leaves.seek {w1 wr w':World}{A O D O' D':Nat→Prop}{sb pb mb most st lim:Nat}{N:List Stp}{W:Int→Bool}{cs:List Int}{s':Fnd.St}{x:Ending}(k:Leaves wr w' O' D' sb pb mb most N (yY N st W cs) s' lim x)(hV:Env wr A O' pb N st W cs)(oo:∀ g,O' g→O g∨w1.heap.size≤g)(dd:∀ g,D' g→D g∨w1.heap.size≤g)(only:zd O w1 wr)(hlim:lim≤most) :
  ∃ j es' sv' O2 D2,x = .returned (.int .i64 (j:Nat))∧Seek w1 w' A O sb pb mb most N st W cs D s' j O2 D2 es' sv'∧es'.length≤lim:=by
 obtain ⟨j,e,es',sv',O2,D2,rfl,a1,a2,a3,a4,a5,a6,a7⟩:=k
 have hs:=only.size
 refine ⟨j,es',sv',O2,D2,rfl,⟨a3,hV.keep a7 a5,⟨e,a1,a2⟩,by omega,fun g hg=>?_,fun g hg=>?_,only.laterO a7 (fun g hg q=>(oo g q).elim id (fun q=>by omega))⟩,a4⟩
 ·exact (a5 g hg).elim (oo g) (fun q=>.inr (by omega))
 ·exact (a6 g hg).elim (dd g) (fun q=>.inr (by omega))
theorem Seek.on {w1 wr w':World}{A O D O' D':Nat→Prop}{sb pb mb most st i lim:Nat}{N:List Stp}{W:Int→Bool}{cs:List Int}{s s':Fnd.St}{es:List Ent}{sv:Value}{x:Ending}(h:Seek w1 wr A O sb pb mb most N st W cs D s i O' D' es sv)(k:Leaves wr w' O' D' sb pb mb most N (yY N st W cs) s' lim x)(hlim:lim≤most) :
  ∃ j es' sv' O2 D2,x = .returned (.int .i64 (j:Nat))∧Seek w1 w' A O sb pb mb most N st W cs D s' j O2 D2 es' sv'∧es'.length≤lim:=k.seek h.env h.oo h.dd h.only hlim
theorem snumL (sb pb mb most st:Nat)(A O D:Nat→Prop)(N:List Stp)(W:Int→Bool)(cs:List Int)(es:List Ent)(sv pv:Value)(s:Fnd.St)(V w:World)(hV:Env V A O pb N st W cs)(h:Sto V O D sb pb mb most N (yY N st W cs) es sv)(k:zd (fun _=>False) V w)(hp:qm w (fun g=>V.heap.size≤g) pv s.ps)(hok:s.OK N)(hl:es.length≤1000) :
  Calls Tryz.prog 87 #[.pointer (some ⟨sb,0,none⟩),.agg #[pv,.bool s.b,.bool s.w]] w fun x w'=>Leaves V w' O D sb pb mb most N (yY N st W cs) s (es.length+1) x:=by
 refine (kH sb pb mb most O D (fun g=>V.heap.size≤g∧g<w.heap.size) N (yY N st W cs) es sv pv s w (h.young k) (fun g hg=>⟨fun q=>by have:=h.olt g q;omega,hg.2⟩) (hp.bound hok.ne) hok hV.prog.at'.len hl (hV.young k).tab).mono ?_
 rintro x w' ⟨j,e,es',sv',O',rfl,a1,a2,a3,a4,_,a6,a7⟩
 have hs:=k.size
 refine ⟨j,e,es',sv',O',_,rfl,a1,a2,a3,?_,fun g hg=>(a6 g hg).imp_right (fun q=>by omega),fun g hg=>hg.imp_right (fun q=>q.1),(k.mono (fun _ _ f=>f.elim)).trans (a7.mono (fun g _ hg=>h.tch hg))⟩
 rcases a4 with rfl |⟨e',rfl⟩
 ·omega
 ·simp
theorem VX (sb pb mb most st:Nat)(A O D:Nat→Prop)(N:List Stp)(W:Int→Bool)(cs:List Int)(es:List Ent)(sv tv ev:Value)(L:List (Int×Int))(ks:List Int)(w:World)(hV:Env w A O pb N st W cs)(h:Sto w O D sb pb mb most N (yY N st W cs) es sv)(hm1:2≤most)(hm2:most≤64)(hes:es.length≤most)(hL:qX w tv L)(hLo:∀ g,tv.ownBlock=some g→¬O g∧g<w.heap.size)(hLl:L.length≤400)(hE:qW w (fun _=>True) ev ks)(hkl:ks.length<4611686018427387904) :
  Calls Tryz.prog 57 #[.pointer (some ⟨sb,0,none⟩),tv,ev] w fun x w'=>∃ (r:Bool) (i:Nat) (O' D':Nat→Prop) (es':List Ent) (sv':Value),x = .returned (.bool r)∧(r=true↔Fnd.hit N (Fnd.run N st W L L.length))∧Seek w w' A O sb pb mb most N st W cs D (Fnd.run N st W L L.length) i O' D' es' sv':=by
 obtain ⟨ta,tc,rfl⟩:=hL.slice
 obtain ⟨ea,ec,rfl⟩:=hE.slice
 have c0:=h.c0
 have HMk:=zb (Vw _ ks L.length _ w hE hkl hLl)
 have H:=zb h
 have HV:=zb hV
 have HL:=zb hL
 have HLo:=zb hLo
 clear h hV hL hLo hE
 go_enter Tryz.func57,Tryz.ntmps57
 go_wp2_with (go_at_call 84;refine (za HMk).mono ?_;rintro e9 w1 ⟨ga,ms,rfl,hB,hml,hga,hO1⟩;refine za ?_)
 refine zb ?_
 have hgl:0<L.length→ga<w1.heap.size:=fun hp=>World.block_lt_of_cell? w1 _ (hB.c 0 _ (List.getElem?_eq_getElem (by omega)))
 have HB:=zb hB
 have HO1:=zb hO1
 have HF:=zb (kG sb pb mb most O D N (yY N st W cs) es sv w1 ((za H).young hO1))
 have HFirst:Hid (∀ V,zd O w1 V→Calls Tryz.prog 88 #[.pointer (some ⟨pb,0,none⟩)] V fun x w'=>∃ sv,x = .returned (.agg #[sv,.bool true,.bool false])∧qm w' (fun g=>V.heap.size≤g) sv [st]∧zd (fun _=>False) V w'):=fun V k=>Vi pb st N W A V (((za HV).young (za HO1)).keep k (fun g hg=>.inl hg)).prog.at'
 clear hB hO1 HMk
 by_cases hf:most≤es.length
 ·rw [decide_eq_true hf] at HF
  go_wp2_with (first
   |(go_at_call 85;refine (za HF).mono ?_;rintro e9 wf ⟨rfl,hOf⟩;have HEm:=zb (Y5 sb pb mb most O D N (yY N st W cs) es sv wf ((za H).young ((za HO1).trans hOf)));have HOf:=zb hOf;clear hOf)
   |(go_at_call 86;refine (za HEm).mono ?_;rintro e9 V0 ⟨rfl,h0,hO0⟩;have H0:=zb h0;have HO0:Hid (zd O w1 V0):=((za HOf).mono (fun _ _ f=>f.elim)).trans hO0;have c0':=h0.c0;clear h0 hO0)
   |(go_at_call 88;refine (za HFirst V0 (za HO0)).mono ?_;rintro e9 w2 ⟨sv1,rfl,hp1,hO2⟩;(obtain ⟨xa,xc,rfl⟩:=hp1.slice);have HNu:=zb (snumL sb pb mb most st A O D N W cs _ _ _ (Fnd.fst st) V0 w2 (((za HV).young (za HO1)).keep (za HO0) (fun g hg=>.inl hg)) (za H0) hO2 hp1 (Fnd.fst_ok (za HV).prog.at'.stl) (by first |omega |(simp;done) |(simp;omega)));clear hp1 hO2)
   |(go_at_call 87;refine (za HNu).mono ?_;intro e9 w3 hLe;(obtain ⟨j0,es0,sv0,O2,D2,rfl,hSk,_⟩:=hLe.seek (w1:=w1) (O:=O) (D:=D) (((za HV).young (za HO1)).keep (za HO0) (fun g hg=>.inl hg)) (fun g hg=>.inl hg) (fun g hg=>.inl hg) (za HO0) (by first |omega |(simp;done) |(simp;omega)));have HSk:=zb hSk;clear hSk hLe HNu))
  go_wp2_with fail
  have hsk:=za HSk
  go_loopw [8,28] (fun nv k wr=>∃ (m i:Nat) (O3 D3:Nat→Prop) (es3:List Ent) (sv3:Value),k = .int .i64 m∧nv = .int .i64 i∧m≤L.length∧Hid (Seek w1 wr A O sb pb mb most N st W cs D (Fnd.run N st W L m) i O3 D3 es3 sv3)) (fun _ k _=>L.length-(intOf k).toNat)
  case atStart=>exact ⟨0,j0,O2,D2,es0,sv0,rfl,rfl,by omega,HSk⟩
  case round=>
   clear HSk hsk
   obtain ⟨m,i,O3,D3,es3,sv3,rfl,rfl,hm,HS⟩:=hrel
   by_cases hlt:m<L.length
   ·have hOf:∀ g,(Value.slice ta L.length tc).ownBlock=some g→¬O g:=fun g hg=>(za HLo g hg).1
    obtain ⟨g,cap,x0,hv,hcap,d1,d2⟩:=(((za HL).keep (za HO1)).keepP (za HS).only hOf).get hlt
    simp at hv
    obtain ⟨rfl,rfl⟩:=hv
    have hBr:xZ wr ga ms:=(za HB).keep (za HS).only (fun q=>by have:=(za H).olt _ q;omega)
    have da:=hBr.c m _ (List.getElem?_eq_getElem (by omega))
    have b1:(0:Int)≤(m:Int):=by omega
    have b2:(m:Int)<(L.length:Int):=by omega
    have kA:zd (fun _=>False) wr (wr.alloc (.cells #[.int .i64 x0,.int .i32 (Pro.ze L m)] 156)):=(zd.refl _ _).alloc _
    have da':=zf kA _ _ da (fun f=>f)
    have HS9:=zb ((za HS).young kA)
    have lc9:(wr.alloc (.cells #[.int .i64 x0,.int .i32 (Pro.ze L m)] 156)).cell? ⟨wr.heap.size,1,none⟩=some (.int .i32 (Pro.ze L m)):=zj wr _ rfl _ _ 1 _ rfl
    have hno3:¬O3 wr.heap.size:=fun q=>by have:=(za HS).sto.olt _ q;omega
    clear da hBr kA hOf
    generalize ms[m]=a at *
    cases a
    ·by_cases hfu:most≤es3.length
     ·have HFu:=zb (kG sb pb mb most O3 D3 N (yY N st W cs) es3 sv3 (wr.alloc (.cells #[.int .i64 x0,.int .i32 (Pro.ze L m)] 156)) (za HS9).sto)
      rw [decide_eq_true hfu] at HFu
      go_wp2_with (first
       |(go_at_call 85;refine (za HFu).mono ?_;rintro e9 w4 ⟨rfl,hO4⟩;have HS4:=zb ((za HS9).young hO4);have lc4:=zf hO4 _ _ lc9 (fun f=>f);clear hO4)
       |(go_at_call 89;(obtain ⟨e7,he7,hes7⟩:=(za HS4).at');refine (jA sb pb mb most st i A O3 D3 N W cs es3 sv3 e7 _ (za HS4).env (za HS4).sto he7).mono ?_;intro e9 w5 hLe;rw [hes7] at hLe;have kq:=hLe.only;(obtain ⟨i5,es5,sv5,O5,D5,rfl,hS5,hl5⟩:=(za HS4).on hLe (by omega));have HS5:=zb hS5;have hl6:es5.length<most:=(by omega);have lc5:=zf kq _ _ lc4 hno3;clear hS5 hl5 hLe kq he7 hes7)
       |(go_at_call 90;(obtain ⟨e8,he8,hes8⟩:=(za HS5).at');refine (qA sb pb mb most st i5 A O5 D5 N W cs es5 sv5 e8 (Pro.ze L m) _ (za HS5).env (za HS5).sto he8 (by omega)).mono ?_;intro e9 w6 hLe;rw [hes8] at hLe;(obtain ⟨i6,es6,sv6,O6,D6,rfl,hS6,_⟩:=(za HS5).on hLe (by omega));have HS6:=zb hS6;clear hS6 hLe he8 hes8))
      exact ⟨⟨m+1,i6,O6,D6,es6,sv6,by go_num,rfl,by omega,HS6⟩,by simp [intOf];omega⟩
     ·have HFu:=zb (kG sb pb mb most O3 D3 N (yY N st W cs) es3 sv3 (wr.alloc (.cells #[.int .i64 x0,.int .i32 (Pro.ze L m)] 156)) (za HS9).sto)
      rw [decide_eq_false hfu] at HFu
      go_wp2_with (first
       |(go_at_call 85;refine (za HFu).mono ?_;rintro e9 w4 ⟨rfl,hO4⟩;have HS5:=zb ((za HS9).young hO4);have lc4:=zf hO4 _ _ lc9 (fun f=>f);clear hO4)
       |(go_at_call 90;(obtain ⟨e8,he8,hes8⟩:=(za HS5).at');refine (qA sb pb mb most st i A O3 D3 N W cs es3 sv3 e8 (Pro.ze L m) _ (za HS5).env (za HS5).sto he8 (by omega)).mono ?_;intro e9 w6 hLe;rw [hes8] at hLe;(obtain ⟨i6,es6,sv6,O6,D6,rfl,hS6,_⟩:=(za HS5).on hLe (by omega));have HS6:=zb hS6;clear hS6 hLe he8 hes8))
      exact ⟨⟨m+1,i6,O6,D6,es6,sv6,by go_num,rfl,by omega,HS6⟩,by simp [intOf];omega⟩
    ·go_wp2_with (first
       |(go_at_call 89;(obtain ⟨e7,he7,hes7⟩:=(za HS9).at');refine (jA sb pb mb most st i A O3 D3 N W cs es3 sv3 e7 _ (za HS9).env (za HS9).sto he7).mono ?_;intro e9 w5 hLe;rw [hes7] at hLe;have kq:=hLe.only;(obtain ⟨i5,es5,sv5,O5,D5,rfl,hS5,hl5⟩:=(za HS9).on hLe (by omega));have HS5:=zb hS5;have hl6:es5.length<most:=(by omega);have lc5:=zf kq _ _ lc9 hno3;clear hS5 hl5 hLe kq he7 hes7)
       |(go_at_call 90;(obtain ⟨e8,he8,hes8⟩:=(za HS5).at');refine (qA sb pb mb most st i5 A O5 D5 N W cs es5 sv5 e8 (Pro.ze L m) _ (za HS5).env (za HS5).sto he8 (by omega)).mono ?_;intro e9 w6 hLe;rw [hes8] at hLe;(obtain ⟨i6,es6,sv6,O6,D6,rfl,hS6,_⟩:=(za HS5).on hLe (by omega));have HS6:=zb hS6;clear hS6 hLe he8 hes8))
     exact ⟨⟨m+1,i6,O6,D6,es6,sv6,by go_num,rfl,by omega,HS6⟩,by simp [intOf];omega⟩
   ·obtain rfl:m=L.length:=by omega
    obtain ⟨e7,he7,hes7⟩:=(za HS).at'
    obtain ⟨g7,cap7,rfl,r0,r1,r2,r3⟩:=(za HS).sto.get he7
    obtain ⟨_,_,hpl,hok,_⟩:=(za HS).sto.ent e7 (List.mem_of_getElem? he7)
    have k0:=(za HS).sto.c0
    have k2:=(za HS).sto.c2
    have hil:i<es3.length:=(List.getElem?_eq_some_iff.1 he7).1
    have b1:(0:Int)≤(i:Int):=by omega
    have b2:(i:Int)<(es3.length:Int):=by omega
    obtain ⟨pa,pc,hpe⟩:=hpl.slice
    have HMe:Hid (∀ V,zd (fun _=>False) wr V→Calls Tryz.prog 91 #[.pointer (some ⟨pb,0,none⟩),.agg #[e7.pv,.bool e7.s.b,.bool e7.s.w]] V fun x w'=>∃ r,x = .returned (.bool r)∧(r=true↔Fnd.hit N e7.s)∧zd (fun _=>False) V w'):=fun V hV9=>kF pb st N W e7.pv e7.s A V ((za HS).env.prog.at'.keep hV9 (fun _ _ f=>f)) (hpl.int.keep hV9) hok
    rw [hpe] at r0 HMe
    have HHe:=zb hes7
    clear hpl hok hes7 hpe he7 r3
    go_wp2_with fail
    go_region_with (go_at_call 91;refine (za HMe _ (by repeat (first |exact zd.refl _ _ |refine zd.alloc ?_ _ |refine zd.drew ?_ |refine zd.drewN ?_ _))).mono ?_;rintro e9 w9 ⟨r,rfl,hr,hO9⟩;have HR:=zb hr;have HO9:Hid (zd (fun _=>False) wr w9):=zd.trans (by repeat (first |exact zd.refl _ _ |refine zd.alloc ?_ _ |refine zd.drew ?_ |refine zd.drewN ?_ _)) hO9;clear hr hO9)
    all_goals
     go_wp2_with fail
     go_ret
     refine ⟨r,i,O3,D3,es3,_,rfl,?_,((za HS).young (za HO9)).back (za HO1)⟩
     rw [←za HHe]
     exact za HR
 ·rw [decide_eq_false hf] at HF
  go_wp2_with (first
   |(go_at_call 85;refine (za HF).mono ?_;rintro e9 V0 ⟨rfl,hOf⟩;have H0:=zb ((za H).young ((za HO1).trans hOf));have HO0:Hid (zd O w1 V0):=hOf.mono (fun _ _ f=>f.elim);have c0':=(za H0).c0;clear hOf)
   |(go_at_call 88;refine (za HFirst V0 (za HO0)).mono ?_;rintro e9 w2 ⟨sv1,rfl,hp1,hO2⟩;(obtain ⟨xa,xc,rfl⟩:=hp1.slice);have HNu:=zb (snumL sb pb mb most st A O D N W cs _ _ _ (Fnd.fst st) V0 w2 (((za HV).young (za HO1)).keep (za HO0) (fun g hg=>.inl hg)) (za H0) hO2 hp1 (Fnd.fst_ok (za HV).prog.at'.stl) (by first |omega |(simp;done) |(simp;omega)));clear hp1 hO2)
   |(go_at_call 87;refine (za HNu).mono ?_;intro e9 w3 hLe;(obtain ⟨j0,es0,sv0,O2,D2,rfl,hSk,_⟩:=hLe.seek (w1:=w1) (O:=O) (D:=D) (((za HV).young (za HO1)).keep (za HO0) (fun g hg=>.inl hg)) (fun g hg=>.inl hg) (fun g hg=>.inl hg) (za HO0) (by first |omega |(simp;done) |(simp;omega)));have HSk:=zb hSk;clear hSk hLe HNu))
  go_wp2_with fail
  have hsk:=za HSk
  go_loopw [8,28] (fun nv k wr=>∃ (m i:Nat) (O3 D3:Nat→Prop) (es3:List Ent) (sv3:Value),k = .int .i64 m∧nv = .int .i64 i∧m≤L.length∧Hid (Seek w1 wr A O sb pb mb most N st W cs D (Fnd.run N st W L m) i O3 D3 es3 sv3)) (fun _ k _=>L.length-(intOf k).toNat)
  case atStart=>exact ⟨0,j0,O2,D2,es0,sv0,rfl,rfl,by omega,HSk⟩
  case round=>
   clear HSk hsk
   obtain ⟨m,i,O3,D3,es3,sv3,rfl,rfl,hm,HS⟩:=hrel
   by_cases hlt:m<L.length
   ·have hOf:∀ g,(Value.slice ta L.length tc).ownBlock=some g→¬O g:=fun g hg=>(za HLo g hg).1
    obtain ⟨g,cap,x0,hv,hcap,d1,d2⟩:=(((za HL).keep (za HO1)).keepP (za HS).only hOf).get hlt
    simp at hv
    obtain ⟨rfl,rfl⟩:=hv
    have hBr:xZ wr ga ms:=(za HB).keep (za HS).only (fun q=>by have:=(za H).olt _ q;omega)
    have da:=hBr.c m _ (List.getElem?_eq_getElem (by omega))
    have b1:(0:Int)≤(m:Int):=by omega
    have b2:(m:Int)<(L.length:Int):=by omega
    have kA:zd (fun _=>False) wr (wr.alloc (.cells #[.int .i64 x0,.int .i32 (Pro.ze L m)] 156)):=(zd.refl _ _).alloc _
    have da':=zf kA _ _ da (fun f=>f)
    have HS9:=zb ((za HS).young kA)
    have lc9:(wr.alloc (.cells #[.int .i64 x0,.int .i32 (Pro.ze L m)] 156)).cell? ⟨wr.heap.size,1,none⟩=some (.int .i32 (Pro.ze L m)):=zj wr _ rfl _ _ 1 _ rfl
    have hno3:¬O3 wr.heap.size:=fun q=>by have:=(za HS).sto.olt _ q;omega
    clear da hBr kA hOf
    generalize ms[m]=a at *
    cases a
    ·by_cases hfu:most≤es3.length
     ·have HFu:=zb (kG sb pb mb most O3 D3 N (yY N st W cs) es3 sv3 (wr.alloc (.cells #[.int .i64 x0,.int .i32 (Pro.ze L m)] 156)) (za HS9).sto)
      rw [decide_eq_true hfu] at HFu
      go_wp2_with (first
       |(go_at_call 85;refine (za HFu).mono ?_;rintro e9 w4 ⟨rfl,hO4⟩;have HS4:=zb ((za HS9).young hO4);have lc4:=zf hO4 _ _ lc9 (fun f=>f);clear hO4)
       |(go_at_call 89;(obtain ⟨e7,he7,hes7⟩:=(za HS4).at');refine (jA sb pb mb most st i A O3 D3 N W cs es3 sv3 e7 _ (za HS4).env (za HS4).sto he7).mono ?_;intro e9 w5 hLe;rw [hes7] at hLe;have kq:=hLe.only;(obtain ⟨i5,es5,sv5,O5,D5,rfl,hS5,hl5⟩:=(za HS4).on hLe (by omega));have HS5:=zb hS5;have hl6:es5.length<most:=(by omega);have lc5:=zf kq _ _ lc4 hno3;clear hS5 hl5 hLe kq he7 hes7)
       |(go_at_call 90;(obtain ⟨e8,he8,hes8⟩:=(za HS5).at');refine (qA sb pb mb most st i5 A O5 D5 N W cs es5 sv5 e8 (Pro.ze L m) _ (za HS5).env (za HS5).sto he8 (by omega)).mono ?_;intro e9 w6 hLe;rw [hes8] at hLe;(obtain ⟨i6,es6,sv6,O6,D6,rfl,hS6,_⟩:=(za HS5).on hLe (by omega));have HS6:=zb hS6;clear hS6 hLe he8 hes8))
      exact ⟨⟨m+1,i6,O6,D6,es6,sv6,by go_num,rfl,by omega,HS6⟩,by simp [intOf];omega⟩
     ·have HFu:=zb (kG sb pb mb most O3 D3 N (yY N st W cs) es3 sv3 (wr.alloc (.cells #[.int .i64 x0,.int .i32 (Pro.ze L m)] 156)) (za HS9).sto)
      rw [decide_eq_false hfu] at HFu
      go_wp2_with (first
       |(go_at_call 85;refine (za HFu).mono ?_;rintro e9 w4 ⟨rfl,hO4⟩;have HS5:=zb ((za HS9).young hO4);have lc4:=zf hO4 _ _ lc9 (fun f=>f);clear hO4)
       |(go_at_call 90;(obtain ⟨e8,he8,hes8⟩:=(za HS5).at');refine (qA sb pb mb most st i A O3 D3 N W cs es3 sv3 e8 (Pro.ze L m) _ (za HS5).env (za HS5).sto he8 (by omega)).mono ?_;intro e9 w6 hLe;rw [hes8] at hLe;(obtain ⟨i6,es6,sv6,O6,D6,rfl,hS6,_⟩:=(za HS5).on hLe (by omega));have HS6:=zb hS6;clear hS6 hLe he8 hes8))
      exact ⟨⟨m+1,i6,O6,D6,es6,sv6,by go_num,rfl,by omega,HS6⟩,by simp [intOf];omega⟩
    ·go_wp2_with (first
       |(go_at_call 89;(obtain ⟨e7,he7,hes7⟩:=(za HS9).at');refine (jA sb pb mb most st i A O3 D3 N W cs es3 sv3 e7 _ (za HS9).env (za HS9).sto he7).mono ?_;intro e9 w5 hLe;rw [hes7] at hLe;have kq:=hLe.only;(obtain ⟨i5,es5,sv5,O5,D5,rfl,hS5,hl5⟩:=(za HS9).on hLe (by omega));have HS5:=zb hS5;have hl6:es5.length<most:=(by omega);have lc5:=zf kq _ _ lc9 hno3;clear hS5 hl5 hLe kq he7 hes7)
       |(go_at_call 90;(obtain ⟨e8,he8,hes8⟩:=(za HS5).at');refine (qA sb pb mb most st i5 A O5 D5 N W cs es5 sv5 e8 (Pro.ze L m) _ (za HS5).env (za HS5).sto he8 (by omega)).mono ?_;intro e9 w6 hLe;rw [hes8] at hLe;(obtain ⟨i6,es6,sv6,O6,D6,rfl,hS6,_⟩:=(za HS5).on hLe (by omega));have HS6:=zb hS6;clear hS6 hLe he8 hes8))
     exact ⟨⟨m+1,i6,O6,D6,es6,sv6,by go_num,rfl,by omega,HS6⟩,by simp [intOf];omega⟩
   ·obtain rfl:m=L.length:=by omega
    obtain ⟨e7,he7,hes7⟩:=(za HS).at'
    obtain ⟨g7,cap7,rfl,r0,r1,r2,r3⟩:=(za HS).sto.get he7
    obtain ⟨_,_,hpl,hok,_⟩:=(za HS).sto.ent e7 (List.mem_of_getElem? he7)
    have k0:=(za HS).sto.c0
    have k2:=(za HS).sto.c2
    have hil:i<es3.length:=(List.getElem?_eq_some_iff.1 he7).1
    have b1:(0:Int)≤(i:Int):=by omega
    have b2:(i:Int)<(es3.length:Int):=by omega
    obtain ⟨pa,pc,hpe⟩:=hpl.slice
    have HMe:Hid (∀ V,zd (fun _=>False) wr V→Calls Tryz.prog 91 #[.pointer (some ⟨pb,0,none⟩),.agg #[e7.pv,.bool e7.s.b,.bool e7.s.w]] V fun x w'=>∃ r,x = .returned (.bool r)∧(r=true↔Fnd.hit N e7.s)∧zd (fun _=>False) V w'):=fun V hV9=>kF pb st N W e7.pv e7.s A V ((za HS).env.prog.at'.keep hV9 (fun _ _ f=>f)) (hpl.int.keep hV9) hok
    rw [hpe] at r0 HMe
    have HHe:=zb hes7
    clear hpl hok hes7 hpe he7 r3
    go_wp2_with fail
    go_region_with (go_at_call 91;refine (za HMe _ (by repeat (first |exact zd.refl _ _ |refine zd.alloc ?_ _ |refine zd.drew ?_ |refine zd.drewN ?_ _))).mono ?_;rintro e9 w9 ⟨r,rfl,hr,hO9⟩;have HR:=zb hr;have HO9:Hid (zd (fun _=>False) wr w9):=zd.trans (by repeat (first |exact zd.refl _ _ |refine zd.alloc ?_ _ |refine zd.drew ?_ |refine zd.drewN ?_ _)) hO9;clear hr hO9)
    all_goals
     go_wp2_with fail
     go_ret
     refine ⟨r,i,O3,D3,es3,_,rfl,?_,((za HS).young (za HO9)).back (za HO1)⟩
     rw [←za HHe]
     exact za HR
end
end Go.Proofs.YtfnkbmglodopkaaGreatDoor
