/- The program's sets: listed, and all other characters. -/
import Derived.Test.YtfnkbmglodopkaaGreatDoorZCsACsG
import Derived.Test.YtfnkbmglodopkaaGreatDoorZSizA
namespace Go.Proofs.YtfnkbmglodopkaaGreatDoor
section
open Go.RowKit Go.Shelf
theorem yu.slice {w:World}{A:Nat→Prop}{v:Value}{S:Int→Bool}(h:yu w A v S):∃ pa pn pc,v = .agg #[.slice pa pn pc]:=by
 obtain ⟨sv,sp,rfl,h2,_⟩:=h
 rcases h2 with ⟨h1,_⟩ |⟨g,cap,h1,_⟩
 ·exact ⟨_,_,_,by rw [h1]⟩
 ·exact ⟨_,_,_,by rw [h1]⟩
theorem yu.congr {w:World}{A:Nat→Prop}{v:Value}{S T:Int→Bool}(h:yu w A v S)(e:∀ c,S c=T c):yu w A v T:=by
 obtain ⟨sv,sp,h1,h2,h3,h4⟩:=h
 exact ⟨sv,sp,h1,h2,h3,fun c=>(h4 c).trans (e c)⟩
def zO (w w':World)(v:Value)(S:Int→Bool):Prop:=yu w' (fun g=>w.heap.size≤g) v S∧zd (fun _=>False) w w'
theorem zO.congr {w w':World}{v:Value}{S T:Int→Bool}(h:zO w w' v S)(e:∀ c,S c=T c):zO w w' v T:=⟨h.1.congr e,h.2⟩
theorem zO.later {w w1 w2:World}{v:Value}{S:Int→Bool}(h:zO w1 w2 v S)(o:zd (fun _=>False) w w1):zO w w2 v S:=⟨h.1.mono (fun _g _ hg=>Nat.le_trans o.size hg),o.trans h.2⟩
theorem yO {w w2:World}{z sv:Value}{S:Int→Bool}(h:zO (w.alloc (.cells #[z] 137)) w2 (.agg #[sv]) S) :
  zO w (w2.setCell ⟨w.heap.size,0,none⟩ sv) (.agg #[sv]) S∧(w2.setCell ⟨w.heap.size,0,none⟩ sv).heap[w.heap.size]?=some (.cells #[sv] 137 (0,0)):=by
 have hb:w2.heap[w.heap.size]?=some (.cells #[z] 137 (0,0)):=(h.2.block w.heap.size (by simp) (fun f=>f)).trans (World.alloc_heap_new w _)
 have o:zd (fun k=>k=w.heap.size) w2 (w2.setCell ⟨w.heap.size,0,none⟩ sv):=(zd.refl (fun k=>k=w.heap.size) w2).setCell (p:=⟨w.heap.size,0,none⟩) (.inl rfl) _
 refine ⟨⟨(h.1.keep o (fun g hg e=>by simp at hg;omega)).mono (fun g _ hg=>by simp at hg;omega),?_⟩,by rw [jM sv hb];rfl⟩
 have o2:zd (fun _=>False) w w2:=((zd.refl _ w).alloc _).trans h.2
 exact o2.setCell (p:=⟨w.heap.size,0,none⟩) (.inr (Nat.le_refl _)) _
theorem yw {w w2:World}{z:Value}(h:zd (fun _=>False) (w.alloc (.cells #[z] 137)) w2):w2.cell? ⟨w.heap.size,0,none⟩=some z∧w2.frozen? ⟨w.heap.size,0,none⟩=false:=by
 have hb:w2.heap[w.heap.size]?=some (.cells #[z] 137 (0,0)):=(h.block w.heap.size (by simp) (fun f=>f)).trans (World.alloc_heap_new w _)
 exact ⟨by simp [World.cell?,hb],by simp [World.frozen?,hb]⟩
theorem ji (sv:Value)(l:List (Int×Int))(A:Nat→Prop)(w:World)(h:zW w A sv l)(hl:l.length≤1000000) :
  Calls Tryz.prog 108 #[sv] w fun e w'=>∃ v,e = .returned v∧zO w w' v (fun c=>Cs.isCh c && Eqv.inSp l c):=by
 have hsl:∃ pa pn pc,sv = .slice pa pn pc:=by rcases h with ⟨h1,_⟩ |⟨g,cap,h1,_⟩<;>exact ⟨_,_,_,h1⟩
 have eg:∀ args w,(callFunc 180 args).run Tryz.prog w = .ok (.enter 180 args) w:=enters_of Tryz.func180 (by kernel_rfl) rfl
 obtain ⟨pa,pn,pc,rfl⟩:=hsl
 have H:=zb (h.keep ((zd.refl (fun _=>False) w).alloc (.cells #[.slice none 0 0] 137)) (fun _ _ f=>f))
 clear h
 go_enter Tryz.func108,Tryz.ntmps108
 go_wp2_with fail
 generalize hwA:w.alloc (.cells #[.slice none 0 0] 137)=wA at *
 refine (YR _ wA ⟨_,_,_,rfl⟩).mono ?_
 rintro e w1 ⟨v,rfl,kb,rfl,h1,h2,h3⟩
 go_wp2_with fail
 refine (JH _ _ l (fun k=>k=kb∨((A k∧k<wA.heap.size)∧k<w1.heap.size)) w1 eg (kf _ l (fun k=>A k∧k<wA.heap.size) kb w1 (((za H).mono (fun g hg hA=>⟨hA,hg⟩)).keep h3 (fun _ _ f=>f)) h2 (by omega) 8 (by omega)) (fun k hk=>by
  rcases hk with rfl |hk
  ·exact World.block_lt_of_cell? w1 _ h2
  ·exact hk.2) (by omega)).mono ?_
 rintro e w2 ⟨v,rfl,hs,hO⟩
 obtain ⟨qa,qn,qc,rfl⟩:=hs.slice
 have hN:zO wA w2 (.agg #[.slice qa qn qc]) (fun c=>Cs.isCh c && Eqv.inSp l c):=zO.later ⟨hs,hO⟩ h3
 clear hs hO h3 h2 h1
 subst hwA
 obtain ⟨k1,k2⟩:=yw hN.2
 have HN:=zb (yO hN)
 clear hN
 go_wp2_with fail
 refine bodyPost_ret (results_cell_row rfl _ _ w.heap.size 137 #[.slice qa qn qc] (0,0) _ rfl (za HN).2 Tryz.underlying137 rfl Tryz.infoSet) rfl ?_
 exact ⟨_,rfl,(za HN).1⟩
theorem JI (sv:Value)(w:World)(hs:∃ pa pn pc,sv = .slice pa pn pc):Calls Tryz.prog 171 #[.agg #[sv]] w fun e w'=>∃ kb,e = .returned (.func (.func 219) #[] #[.pointer (some ⟨kb,0,none⟩)])∧w.heap.size≤kb∧w'.cell? ⟨kb,0,none⟩=some sv∧zd (fun _=>False) w w':=by
 obtain ⟨pa,pn,pc,rfl⟩:=hs
 have HO:Hid ((w.alloc (.cells #[.slice pa pn pc] 137)).cell? ⟨w.heap.size,0,none⟩=some (.slice pa pn pc)∧zd (fun _=>False) w (w.alloc (.cells #[.slice pa pn pc] 137))):=⟨zj w _ rfl _ _ 0 _ rfl,(zd.refl _ _).alloc _⟩
 go_enter Tryz.func171,Tryz.ntmps171
 go_wp2_with fail
 go_ret
 exact ⟨_,rfl,Nat.le_refl _,(za HO).1,(za HO).2⟩
theorem Cs.gaps_len:∀ (l:List (Int×Int)) (b:Int),(Cs.gaps b l).length=l.length+1
 | [],_=>rfl
 |x :: l,b=>by simp [Cs.gaps,Cs.gaps_len l]
theorem vX (v:Value)(S:Int→Bool)(A:Nat→Prop)(w:World)(h:yu w A v S) :
  Calls Tryz.prog 139 #[v] w fun e w'=>∃ v',e = .returned v'∧zO w w' v' (fun c=>Cs.isCh c && !S c):=by
 have eg:∀ args w,(callFunc 219 args).run Tryz.prog w = .ok (.enter 219 args) w:=enters_of Tryz.func219 (by kernel_rfl) rfl
 obtain ⟨sv,l,rfl,hr,hri,hS⟩:=h
 obtain ⟨pa,pn,pc,rfl⟩:∃ pa pn pc,sv = .slice pa pn pc:=by rcases hr with ⟨h1,_⟩ |⟨g,cap,h1,_⟩<;>exact ⟨_,_,_,h1⟩
 have HOO:Hid (zd (fun _=>False) w ((w.alloc (.cells #[.slice pa pn pc] 137)).alloc (.cells #[.slice none 0 0] 137))):=((zd.refl _ _).alloc _).alloc _
 have HRi:=zb hri
 have HS:=zb hS
 have hlen:=hri.len
 have H:=zb (hr.keep (za HOO) (fun _ _ f=>f))
 clear hr hri hS
 go_enter Tryz.func139,Tryz.ntmps139
 go_wp2_with fail
 generalize hwB:w.alloc (.cells #[.slice pa pn pc] 137)=wB at *
 have hsB:wB.heap.size=w.heap.size+1:=by rw [←hwB];simp
 have HOB:Hid (zd (fun _=>False) w wB):=by rw [←hwB];exact (zd.refl _ _).alloc _
 clear hwB
 generalize hwA:wB.alloc (.cells #[.slice none 0 0] 137)=wA at *
 refine (JI _ wA ⟨_,_,_,rfl⟩).mono ?_
 rintro e w1 ⟨kb,rfl,h1,h2,h3⟩
 go_wp2_with fail
 refine (JH _ _ (Cs.gaps 0 l) (fun k=>k=kb∨((A k∧k<wA.heap.size)∧k<w1.heap.size)) w1 eg (gaps_seq _ l (fun k=>A k∧k<wA.heap.size) kb w1 (((za H).mono (fun g hg hA=>⟨hA,hg⟩)).keep h3 (fun _ _ f=>f)) (za HRi) h2 8 (by omega)) (fun k hk=>by
  rcases hk with rfl |hk
  ·exact World.block_lt_of_cell? w1 _ h2
  ·exact hk.2) (by have:=Cs.gaps_len l 0;omega)).mono ?_
 rintro e w2 ⟨v,rfl,hs,hO⟩
 obtain ⟨qa,qn,qc,rfl⟩:=hs.slice
 have hN:zO wA w2 (.agg #[.slice qa qn qc]) (fun c=>Cs.isCh c && !S c):=(zO.later ⟨hs,hO⟩ h3).congr (fun c=>by rw [Cs.not_ok (za HRi),za HS c])
 clear hs hO h3 h2 h1
 subst hwA
 obtain ⟨k1,k2⟩:=yw hN.2
 have HN:=zb (yO hN)
 clear hN
 rw [hsB] at k1 k2 HN
 go_wp2_with fail
 refine bodyPost_ret (results_cell_row rfl _ _ (w.heap.size+1) 137 #[.slice qa qn qc] (0,0) _ rfl (za HN).2 Tryz.underlying137 rfl Tryz.infoSet) rfl ?_
 exact ⟨_,rfl,(za HN).1.later (za HOB)⟩
set_option maxRecDepth 100000
theorem vY (W:World)(n:Nat)(hn:W.heap.size=n)(l:List (Int×Int))(T:TypeId):zW (W.alloc (.cells (zR l).toArray T)) (fun g=>g=n) (.slice (some ⟨n,0,none⟩) l.length l.length) l:=
 .inr ⟨n,l.length,rfl,rfl,Nat.le_refl _,by simp;omega,fun j p hj=>by
  obtain ⟨h1,h2⟩:=vG l j p hj
  exact ⟨zj W n hn _ _ _ _ (by simpa using h1),zj W n hn _ _ _ _ (by simpa using h2)⟩⟩
theorem vu (w:World):Calls Tryz.prog 172 #[] w fun e w'=>∃ v,e = .returned v∧zO w w' v (Cs.zP 100):=by
 go_enter Tryz.func172,Tryz.ntmps172
 go_wp2_with fail
 have hL:=ji (.slice (some ⟨w.heap.size+1,0,none⟩) 1 1) [(48,57)] (fun g=>g=w.heap.size+1) _ (vY (w.alloc (.cells #[.slice none 0 0] 137)) (w.heap.size+1) (by simp) [(48,57)] 224) (by decide)
 refine Calls.mono hL ?_
 clear hL
 rintro e w2 ⟨v,rfl,hN⟩
 obtain ⟨qa,qn,qc,rfl⟩:=hN.1.slice
 have hN:=(zO.later hN ((zd.refl (fun _=>False) (w.alloc (.cells #[.slice none 0 0] 137))).alloc _)).congr Cs.KF
 obtain ⟨k1,k2⟩:=yw hN.2
 have HN:=zb (yO hN)
 clear hN
 go_wp2_with fail
 refine bodyPost_ret (results_cell_row rfl _ _ w.heap.size 137 #[.slice qa qn qc] (0,0) _ rfl (za HN).2 Tryz.underlying137 rfl Tryz.infoSet) rfl ?_
 exact ⟨_,rfl,(za HN).1⟩
theorem XF (w:World):Calls Tryz.prog 138 #[] w fun e w'=>∃ v,e = .returned v∧zO w w' v (fun c=>Cs.isCh c && Eqv.inSp Cs.lineL c):=by
 go_enter Tryz.func138,Tryz.ntmps138
 go_wp2_with fail
 have hL:=ji (.slice (some ⟨w.heap.size+1,0,none⟩) 3 3) [(10,10),(13,13),(8232,8233)] (fun g=>g=w.heap.size+1) _ (vY (w.alloc (.cells #[.slice none 0 0] 137)) (w.heap.size+1) (by simp) [(10,10),(13,13),(8232,8233)] 224) (by decide)
 refine Calls.mono hL ?_
 clear hL
 rintro e w2 ⟨v,rfl,hN⟩
 obtain ⟨qa,qn,qc,rfl⟩:=hN.1.slice
 have hN:=(zO.later hN ((zd.refl (fun _=>False) (w.alloc (.cells #[.slice none 0 0] 137))).alloc _)).congr (fun _=>rfl)
 obtain ⟨k1,k2⟩:=yw hN.2
 have HN:=zb (yO hN)
 clear hN
 go_wp2_with fail
 refine bodyPost_ret (results_cell_row rfl _ _ w.heap.size 137 #[.slice qa qn qc] (0,0) _ rfl (za HN).2 Tryz.underlying137 rfl Tryz.infoSet) rfl ?_
 exact ⟨_,rfl,(za HN).1⟩
theorem kB (w:World):Calls Tryz.prog 70 #[] w fun e w'=>∃ v,e = .returned v∧zO w w' v (Cs.zP 119):=by
 go_enter Tryz.func70,Tryz.ntmps70
 go_wp2_with fail
 have hL:=ji (.slice (some ⟨w.heap.size+1,0,none⟩) 4 4) [(97,122),(65,90),(48,57),(95,95)] (fun g=>g=w.heap.size+1) _ (vY (w.alloc (.cells #[.slice none 0 0] 137)) (w.heap.size+1) (by simp) [(97,122),(65,90),(48,57),(95,95)] 224) (by decide)
 refine Calls.mono hL ?_
 clear hL
 rintro e w2 ⟨v,rfl,hN⟩
 obtain ⟨qa,qn,qc,rfl⟩:=hN.1.slice
 have hN:=(zO.later hN ((zd.refl (fun _=>False) (w.alloc (.cells #[.slice none 0 0] 137))).alloc _)).congr Cs.word_P
 obtain ⟨k1,k2⟩:=yw hN.2
 have HN:=zb (yO hN)
 clear hN
 go_wp2_with fail
 refine bodyPost_ret (results_cell_row rfl _ _ w.heap.size 137 #[.slice qa qn qc] (0,0) _ rfl (za HN).2 Tryz.underlying137 rfl Tryz.infoSet) rfl ?_
 exact ⟨_,rfl,(za HN).1⟩
theorem vZ (w:World):Calls Tryz.prog 173 #[] w fun e w'=>∃ v,e = .returned v∧zO w w' v (Cs.zP 115):=by
 go_enter Tryz.func173,Tryz.ntmps173
 go_wp2_with fail
 have hL:=ji (.slice (some ⟨w.heap.size+1,0,none⟩) 10 10) [(9,13),(32,32),(160,160),(5760,5760),(8192,8202),(8232,8233),(8239,8239),(8287,8287),(12288,12288),(65279,65279)] (fun g=>g=w.heap.size+1) _ (vY (w.alloc (.cells #[.slice none 0 0] 137)) (w.heap.size+1) (by simp) [(9,13),(32,32),(160,160),(5760,5760),(8192,8202),(8232,8233),(8239,8239),(8287,8287),(12288,12288),(65279,65279)] 224) (by decide)
 refine Calls.mono hL ?_
 clear hL
 rintro e w2 ⟨v,rfl,hN⟩
 obtain ⟨qa,qn,qc,rfl⟩:=hN.1.slice
 have hN:=(zO.later hN ((zd.refl (fun _=>False) (w.alloc (.cells #[.slice none 0 0] 137))).alloc _)).congr Cs.KG
 obtain ⟨k1,k2⟩:=yw hN.2
 have HN:=zb (yO hN)
 clear hN
 go_wp2_with fail
 refine bodyPost_ret (results_cell_row rfl _ _ w.heap.size 137 #[.slice qa qn qc] (0,0) _ rfl (za HN).2 Tryz.underlying137 rfl Tryz.infoSet) rfl ?_
 exact ⟨_,rfl,(za HN).1⟩
theorem Vc (w:World):Calls Tryz.prog 140 #[.int .i32 100] w fun e w'=>∃ v,e = .returned v∧zO w w' v (Cs.zP 100):=by
 go_enter Tryz.func140,Tryz.ntmps140
 go_wp2_with fail
 refine (vu _).mono ?_
 rintro e w2 ⟨v,rfl,hN⟩
 obtain ⟨qa,qn,qc,rfl⟩:=hN.1.slice
 obtain ⟨k1,k2⟩:=yw hN.2
 have HN:=zb (yO hN)
 clear hN
 go_wp2_with fail
 refine bodyPost_ret (results_cell_row rfl _ _ w.heap.size 137 #[.slice qa qn qc] (0,0) _ rfl (za HN).2 Tryz.underlying137 rfl Tryz.infoSet) rfl ?_
 exact ⟨_,rfl,(za HN).1⟩
theorem short_68 (w:World):Calls Tryz.prog 140 #[.int .i32 68] w fun e w'=>∃ v,e = .returned v∧zO w w' v (Cs.zP 68):=by
 go_enter Tryz.func140,Tryz.ntmps140
 go_wp2_with fail
 refine (vu _).mono ?_
 rintro e w1 ⟨v,rfl,hN1⟩
 go_wp2_with fail
 refine (vX v _ _ w1 hN1.1).mono ?_
 rintro e w2 ⟨v,rfl,hN2⟩
 have hN:=(zO.later hN2 hN1.2).congr (Cs.ZV (a:=100) (b:=68) (by omega))
 clear hN1 hN2
 obtain ⟨qa,qn,qc,rfl⟩:=hN.1.slice
 obtain ⟨k1,k2⟩:=yw hN.2
 have HN:=zb (yO hN)
 clear hN
 go_wp2_with fail
 refine bodyPost_ret (results_cell_row rfl _ _ w.heap.size 137 #[.slice qa qn qc] (0,0) _ rfl (za HN).2 Tryz.underlying137 rfl Tryz.infoSet) rfl ?_
 exact ⟨_,rfl,(za HN).1⟩
theorem Vd (w:World):Calls Tryz.prog 140 #[.int .i32 119] w fun e w'=>∃ v,e = .returned v∧zO w w' v (Cs.zP 119):=by
 go_enter Tryz.func140,Tryz.ntmps140
 go_wp2_with fail
 refine (kB _).mono ?_
 rintro e w2 ⟨v,rfl,hN⟩
 obtain ⟨qa,qn,qc,rfl⟩:=hN.1.slice
 obtain ⟨k1,k2⟩:=yw hN.2
 have HN:=zb (yO hN)
 clear hN
 go_wp2_with fail
 refine bodyPost_ret (results_cell_row rfl _ _ w.heap.size 137 #[.slice qa qn qc] (0,0) _ rfl (za HN).2 Tryz.underlying137 rfl Tryz.infoSet) rfl ?_
 exact ⟨_,rfl,(za HN).1⟩
theorem short_87 (w:World):Calls Tryz.prog 140 #[.int .i32 87] w fun e w'=>∃ v,e = .returned v∧zO w w' v (Cs.zP 87):=by
 go_enter Tryz.func140,Tryz.ntmps140
 go_wp2_with fail
 refine (kB _).mono ?_
 rintro e w1 ⟨v,rfl,hN1⟩
 go_wp2_with fail
 refine (vX v _ _ w1 hN1.1).mono ?_
 rintro e w2 ⟨v,rfl,hN2⟩
 have hN:=(zO.later hN2 hN1.2).congr (Cs.ZV (a:=119) (b:=87) (by omega))
 clear hN1 hN2
 obtain ⟨qa,qn,qc,rfl⟩:=hN.1.slice
 obtain ⟨k1,k2⟩:=yw hN.2
 have HN:=zb (yO hN)
 clear hN
 go_wp2_with fail
 refine bodyPost_ret (results_cell_row rfl _ _ w.heap.size 137 #[.slice qa qn qc] (0,0) _ rfl (za HN).2 Tryz.underlying137 rfl Tryz.infoSet) rfl ?_
 exact ⟨_,rfl,(za HN).1⟩
theorem Ve (w:World):Calls Tryz.prog 140 #[.int .i32 115] w fun e w'=>∃ v,e = .returned v∧zO w w' v (Cs.zP 115):=by
 go_enter Tryz.func140,Tryz.ntmps140
 go_wp2_with fail
 refine (vZ _).mono ?_
 rintro e w2 ⟨v,rfl,hN⟩
 obtain ⟨qa,qn,qc,rfl⟩:=hN.1.slice
 obtain ⟨k1,k2⟩:=yw hN.2
 have HN:=zb (yO hN)
 clear hN
 go_wp2_with fail
 refine bodyPost_ret (results_cell_row rfl _ _ w.heap.size 137 #[.slice qa qn qc] (0,0) _ rfl (za HN).2 Tryz.underlying137 rfl Tryz.infoSet) rfl ?_
 exact ⟨_,rfl,(za HN).1⟩
theorem short_83 (w:World):Calls Tryz.prog 140 #[.int .i32 83] w fun e w'=>∃ v,e = .returned v∧zO w w' v (Cs.zP 83):=by
 go_enter Tryz.func140,Tryz.ntmps140
 go_wp2_with fail
 refine (vZ _).mono ?_
 rintro e w1 ⟨v,rfl,hN1⟩
 go_wp2_with fail
 refine (vX v _ _ w1 hN1.1).mono ?_
 rintro e w2 ⟨v,rfl,hN2⟩
 have hN:=(zO.later hN2 hN1.2).congr (Cs.ZV (a:=115) (b:=83) (by omega))
 clear hN1 hN2
 obtain ⟨qa,qn,qc,rfl⟩:=hN.1.slice
 obtain ⟨k1,k2⟩:=yw hN.2
 have HN:=zb (yO hN)
 clear hN
 go_wp2_with fail
 refine bodyPost_ret (results_cell_row rfl _ _ w.heap.size 137 #[.slice qa qn qc] (0,0) _ rfl (za HN).2 Tryz.underlying137 rfl Tryz.infoSet) rfl ?_
 exact ⟨_,rfl,(za HN).1⟩
def okSh (a:Int):Prop:=a=100∨a=68∨a=119∨a=87∨a=115∨a=83
theorem vw (a:Int)(h:okSh a)(w:World):Calls Tryz.prog 140 #[.int .i32 a] w fun e w'=>∃ v,e = .returned v∧zO w w' v (Cs.zP a):=by
 rcases h with rfl |rfl |rfl |rfl |rfl |rfl
 ·exact Vc w
 ·exact short_68 w
 ·exact Vd w
 ·exact short_87 w
 ·exact Ve w
 ·exact short_83 w
end
section
namespace Cs
open Eqv (inSp)
theorem k8 {x:Int×Int}{l:List (Int×Int)}(h:zB (x :: l)):inSp (x :: l) x.1=true:=by
 have:=h.2 x (List.mem_cons_self ..)
 rw [xy]
 exact ⟨x,List.mem_cons_self ..,Int.le_refl _,this.1⟩
theorem Kg {x:Int×Int}{l:List (Int×Int)}(h:zB (x :: l)){c:Int}(hc:inSp (x :: l) c=true):x.1≤c:=by
 obtain ⟨y,hy,h1,h2⟩:=(xy _ _).1 hc
 rcases List.mem_cons.1 hy with rfl |hy
 ·exact h1
 ·have:=(List.pairwise_cons.1 h.1).1 y hy
  have hx:=h.2 x (List.mem_cons_self ..)
  unfold okS at hx
  omega
theorem wN {x:Int×Int}{l:List (Int×Int)}(h:zB (x :: l)){c:Int}(hc:inSp l c=true):x.2+1<c:=by
 obtain ⟨y,hy,h1,h2⟩:=(xy _ _).1 hc
 have:=(List.pairwise_cons.1 h.1).1 y hy
 omega
theorem zB.tail {x:Int×Int}{l:List (Int×Int)}(h:zB (x :: l)):zB l:=⟨(List.pairwise_cons.1 h.1).2,fun y hy=>h.2 y (List.mem_cons_of_mem _ hy)⟩
theorem Kh {x y:Int×Int}{l m:List (Int×Int)}(h:zB (x :: l))(_k:zB (y :: m))(e:∀ c,inSp (x :: l) c=inSp (y :: m) c)(h1:x.1=y.1):y.2≤x.2:=by
 rcases Int.lt_or_le x.2 y.2 with h2 |h2
 ·have hx:=h.2 x (List.mem_cons_self ..)
  unfold okS at hx
  have:inSp (y :: m) (x.2+1)=true:=(xy _ _).2 ⟨y,List.mem_cons_self ..,by omega,by omega⟩
  rw [←e,qE,Bool.or_eq_true,qh] at this
  rcases this with h3 |h3
  ·omega
  ·have:=wN h h3;omega
 ·exact h2
theorem zB.unique:∀ {l m:List (Int×Int)},zB l→zB m→(∀ c,inSp l c=inSp m c)→l=m
 | [],[],_,_,_=>rfl
 | [],y :: m,_,k,e=>by have:=k8 k;rw [←e] at this;simp [inSp] at this
 |x :: l,[],h,_,e=>by have:=k8 h;rw [e] at this;simp [inSp] at this
 |x :: l,y :: m,h,k,e=>by
  have h1:x.1=y.1:=by
   have a:=Kg k (by rw [←e];exact k8 h)
   have b:=Kg h (by rw [e];exact k8 k)
   omega
  have h2:x.2=y.2:=by
   have a:=Kh h k e h1
   have b:=Kh k h (fun c=>(e c).symm) h1.symm
   omega
  obtain rfl:x=y:=Prod.ext h1 h2
  congr 1
  refine zB.unique h.tail k.tail (fun c=>?_)
  have ec:=e c
  rw [qE,qE] at ec
  rcases Int.lt_or_le (x.2+1) c with hc |hc
  ·have:in1 x c=false:=by rw [Bool.eq_false_iff,ne_eq,qh];omega
   simpa [this] using ec
  ·have a:inSp l c=false:=by
    cases hh:inSp l c with
    |false=>rfl
    |true=>have:=wN h hh;omega
   have b:inSp m c=false:=by
    cases hh:inSp m c with
    |false=>rfl
    |true=>have:=wN k hh;omega
   rw [a,b]
noncomputable def shL (a:Int):List (Int×Int):=open Classical in if h:∃ l,zB l∧∀ c,inSp l c=zP a c then h.choose else []
theorem shL_of {a:Int}{l:List (Int×Int)}(h:zB l)(e:∀ c,inSp l c=zP a c):shL a=l:=by
 have hx:∃ l,zB l∧∀ c,inSp l c=zP a c:=⟨l,h,e⟩
 unfold shL
 rw [dif_pos hx]
 exact hx.choose_spec.1.unique h (fun c=>(hx.choose_spec.2 c).trans (e c).symm)
theorem YT (c:Int):∀ (S:List Int),(∀ a∈S,∀ c,inSp (shL a) c=zP a c)→inSp (S.flatMap shL) c=S.any fun a=>zP a c
 | [],_=>rfl
 |a :: S,h=>by
  rw [List.flatMap_cons,xx,h a (List.mem_cons_self ..),YT c S (fun b hb=>h b (List.mem_cons_of_mem _ hb))]
  rfl
theorem jn_len (l:List (Int×Int)):(jn [] l).length≤l.length:=
 vV (P:=fun l=>(jn [] l).length≤l.length) (by simp [jn]) (fun l x ih=>by
  rw [jn_snoc]
  have:=jn1_len (jn [] l) x
  simp only [List.length_append,List.length_singleton]
  omega) l
theorem kg (rs:List (Int×Int)):∃ l,zB l∧(∀ c,inSp l c=(isCh c && inSp rs c))∧l.length≤2*rs.length:=by
 have hp:=List.mergeSort_perm (spl rs) (fun x y=>decide (x.1≤y.1))
 have hs:=List.pairwise_mergeSort (le:=fun (x y:Int×Int)=>decide (x.1≤y.1)) (fun x y z h1 h2=>by simp at *;omega) (fun x y=>by simp;omega) (spl rs)
 obtain ⟨h1,h2⟩:=of_ok hp (hs.imp (fun h=>by simpa using h))
 refine ⟨_,h1,h2,?_⟩
 have e1:=jn_len ((spl rs).mergeSort fun x y=>decide (x.1≤y.1))
 rw [List.length_mergeSort] at e1
 have e2:=spl_len rs
 omega
theorem sh_ok (a:Int)(h:okSh a):zB (shL a)∧(∀ c,inSp (shL a) c=zP a c)∧(shL a).length≤42:=by
 have fin:∀ l,zB l→(∀ c,inSp l c=zP a c)→l.length≤42→zB (shL a)∧(∀ c,inSp (shL a) c=zP a c)∧(shL a).length≤42:=fun l h1 h2 h3=>by rw [shL_of h1 h2];exact ⟨h1,h2,h3⟩
 have up:∀ (b:Int) l,zB l→(∀ c,inSp l c=zP b c)→l.length≤20→((b=100∧a=68)∨(b=119∧a=87)∨(b=115∧a=83))→zB (shL a)∧(∀ c,inSp (shL a) c=zP a c)∧(shL a).length≤42:=fun b l h1 h2 h0 hb=>by
  obtain ⟨m,h3,h4,h5⟩:=kg (gaps 0 l)
  rw [gaps_len] at h5
  exact fin m h3 (fun c=>by rw [h4,not_ok h1,h2];exact ZV hb c) (by omega)
 obtain ⟨d,d1,d2,d4⟩:=kg [(48,57)]
 obtain ⟨q,q1,q2,q4⟩:=kg Ja
 obtain ⟨s,s1,s2,s4⟩:=kg Ref.Yw
 have d3:∀ c,inSp d c=zP 100 c:=fun c=>(d2 c).trans (KF c)
 have q3:∀ c,inSp q c=zP 119 c:=fun c=>(q2 c).trans (word_P c)
 have s3:∀ c,inSp s c=zP 115 c:=fun c=>(s2 c).trans (KG c)
 have q5:q.length≤20:=by simp [Ja] at q4;omega
 have s5:s.length≤20:=by simp [Ref.Yw] at s4;omega
 have d5:d.length≤20:=by simp at d4;omega
 rcases h with rfl |rfl |rfl |rfl |rfl |rfl
 ·exact fin d d1 d3 (by omega)
 ·exact up 100 d d1 d3 d5 (by omega)
 ·exact fin q q1 q3 (by omega)
 ·exact up 119 q q1 q3 q5 (by omega)
 ·exact fin s s1 s3 (by omega)
 ·exact up 115 s s1 s3 s5 (by omega)
theorem Qp:∀ (S:List Int),(∀ a∈S,(shL a).length≤42)→(S.flatMap shL).length≤42*S.length
 | [],_=>by simp
 |a :: S,h=>by
  have h1:=h a (List.mem_cons_self ..)
  have h2:=Qp S (fun b hb=>h b (List.mem_cons_of_mem _ hb))
  rw [List.flatMap_cons,List.length_append,List.length_cons]
  omega
end Cs
open Go.RowKit
theorem yu.short {w:World}{A:Nat→Prop}{v:Value}{a:Int}(h:yu w A v (Cs.zP a)):∃ sv,v = .agg #[sv]∧zW w A sv (Cs.shL a)∧Cs.zB (Cs.shL a)∧∀ c,Eqv.inSp (Cs.shL a) c=Cs.zP a c:=by
 obtain ⟨sv,sp,h1,h2,h3,h4⟩:=h
 have e:=Cs.shL_of h3 h4
 exact ⟨sv,h1,by rw [e];exact h2,by rw [e];exact h3,by rw [e];exact h4⟩
end
section
open Go.RowKit Go.Shelf
set_option maxHeartbeats 8000000
set_option maxRecDepth 1000000
attribute [local go_sem] Oper.semAt_some
theorem vx:∀ (l:List (Int×Int)) (j:Nat) (p:Int×Int),l[j]?=some p→(rangeCells l)[j*2]?=some (.int .i32 p.1)∧(rangeCells l)[j*2+1]?=some (.int .i32 p.2)
 | [],j,p,h=>by simp at h
 |x :: l,0,p,h=>by simp at h;subst h;simp [rangeCells]
 |x :: l,j+1,p,h=>by
  have:=vx l j p (by simpa using h)
  rw [show (j+1)*2=j*2+2 by omega]
  simpa [rangeCells] using this
structure ClsBox (w:World)(A:Nat→Prop)(kb:Nat)(v1 v2:Value)(R:List (Int×Int))(S:List Int):Prop where
 c1:w.cell? ⟨kb,1,none⟩=some v1
 c2:w.cell? ⟨kb,2,none⟩=some v2
 r1:y7 w A v1 R.length (rangeCells R)
 r2:y7 w A v2 S.length (xH S)
theorem y7.facts {w:World}{A:Nat→Prop}{v:Value}{n:Nat}{xs:List Value}(h:y7 w A v n xs):∃ pa pc,v = .slice pa n pc∧(n≠0→∃ g,pa=some ⟨g,0,none⟩∧n≤pc∧(A g∧g<w.heap.size)∧∀ j x,xs[j]?=some x→w.cell? ⟨g,j,none⟩=some x):=by
 rcases h with ⟨rfl,rfl,rfl⟩ |⟨g,cap,rfl,h1,h2,h3,h4⟩
 ·exact ⟨none,0,rfl,fun h=>absurd rfl h⟩
 ·exact ⟨some ⟨g,0,none⟩,cap,rfl,fun _=>⟨g,rfl,h2,⟨h1,h3⟩,h4⟩⟩
def mkD (D:Nat):Deferred:={ target:=.collected D,args:=#[] }
theorem v7 {n:Nat}{P:Program}{fn:Func}{tmps:Array Value}{R:Ending→World→Prop}(hres:fn.results=#[]):∀ (ds:List Nat) (w:World),ds.Nodup→(∀ D∈ds,w.heap[D]?=some (.deferred (some [])))→(∀ w',zd (fun k=>k∈ds) w w'→R (.returned (.tuple #[])) w')→LeavesInM Fence.wide n P fn tmps R (ds.map mkD) .returning w
 | [],w,_,_,h=>⟨_,results_none hres _ _ _,h w (zd.refl _ _)⟩
 |D :: ds,w,hn,hd,h=>by
  obtain ⟨h1,h2⟩:=List.nodup_cons.1 hn
  refine ⟨by simp,.inl ⟨_,_,rfl,run_takeDeferred (hd D (List.mem_cons_self ..)),?_⟩⟩
  refine v7 hres ds _ h2 (fun E hE=>?_) (fun w' hw'=>h w' ?_)
  ·rw [World.putObj_heap_other (by rintro rfl;exact h1 hE)]
   exact hd E (List.mem_cons_of_mem _ hE)
  ·exact ((zd.refl (fun k=>k∈D :: ds) w).putObj D _ (.inl (List.mem_cons_self ..))).trans (hw'.mono (fun k _ hk=>List.mem_cons_of_mem _ hk))
structure MemI (w0:World)(D:Nat→Prop)(J:List (Int×Int)→(Nat→Prop)→World→Prop)(k0 lp:Nat)(ds:List Nat)(base:List (Int×Int))(pre:List (Int×Int))(O:Nat→Prop)(X:World):Prop where
 j:J (base++pre) O X
 kept:xV D w0 X O
 nO:¬O k0
 y:X.cell? ⟨k0,0,none⟩=some (.func (.yield lp) #[] #[])
 ms:∀ m∈ds,¬O m∧X.heap[m]?=some (.deferred (some []))
 lt:∀ k,O k→k<X.heap.size
theorem MemI.keep {w0:World}{D:Nat→Prop}{J:List (Int×Int)→(Nat→Prop)→World→Prop}{k0 lp B B2:Nat}{ds:List Nat}{base pre:List (Int×Int)}{O:Nat→Prop}{X X':World}(hJ:∀ pre O A A',J pre O A→zd (fun k=>B≤k∧¬O k) A A'→J pre O A')(hB:B≤B2)(h0:w0.heap.size≤B2)(hk0:k0<B2)(hds:∀ m∈ds,m<B2)(h:MemI w0 D J k0 lp ds base pre O X)(o:zd (fun k=>B2≤k∧¬O k) X X'):MemI w0 D J k0 lp ds base pre O X':=
 ⟨hJ _ _ _ _ h.j (o.mono (fun k _ hk=>⟨by omega,hk.2⟩)),
  ⟨Nat.le_trans h.kept.1 o.size,fun k hk=>by
   obtain ⟨h1,h2,h3⟩:=h.kept.2 k hk
   have:=h.kept.1
   exact ⟨h1,h2,(o.block k (by omega) (fun hp=>by omega)).trans h3⟩⟩,
  h.nO,(o.cell (p:=⟨k0,0,none⟩) (World.block_lt_of_cell? X _ h.y) (fun hp=>by have:=hp.1;simp at this;omega)).trans h.y,
  fun m hm=>⟨(h.ms m hm).1,(o.block m (Array.getElem?_eq_some_iff.1 (h.ms m hm).2).1 (fun hp=>by have:=hds m hm;omega)).trans (h.ms m hm).2⟩,
  fun k hk=>Nat.lt_of_lt_of_le (h.lt k hk) o.size⟩
theorem MemI.yield {w0:World}{D:Nat→Prop}{J:List (Int×Int)→(Nat→Prop)→World→Prop}{k0 lp:Nat}{ds:List Nat}{base pre:List (Int×Int)}{x:Int×Int}{O O':Nat→Prop}{X X':World}(h:MemI w0 D J k0 lp ds base pre O X)(hj:J (base++pre++[x]) O' X')(hs:∀ k,O' k→O k∨X.heap.size≤k)(ho:zd O X X')(hlt:∀ k,O' k→k<X'.heap.size):MemI w0 D J k0 lp ds base (pre++[x]) O' X':=by
 have no:∀ m,¬O m→m<X.heap.size→¬O' m:=fun m h1 h2 h3=>by
  rcases hs m h3 with h |h
  ·exact h1 h
  ·omega
 have hk0:=World.block_lt_of_cell? X _ h.y
 exact ⟨by rw [←List.append_assoc];exact hj,h.kept.yield hs ho,no _ h.nO hk0,(ho.cell (p:=⟨k0,0,none⟩) hk0 h.nO).trans h.y,fun m hm=>⟨no m (h.ms m hm).1 (Array.getElem?_eq_some_iff.1 (h.ms m hm).2).1,(ho.block m (Array.getElem?_eq_some_iff.1 (h.ms m hm).2).1 (h.ms m hm).1).trans (h.ms m hm).2⟩,hlt⟩
theorem Qq (v1 v2:Value)(R:List (Int×Int))(S:List Int)(A:Nat→Prop)(kb:Nat)(w0:World)(h:ClsBox w0 A kb v1 v2 R S)(hS:∀ a∈S,okSh a)(hR:R.length≤1000)(hSl:S.length≤1000)(n:Nat)(hn1:5≤n) :
  SeqO Fence.wide n Tryz.prog 220 #[.pointer (some ⟨kb,0,none⟩)] jU (R++S.flatMap Cs.shL) (fun k=>k=kb∨(A k∧k<w0.heap.size)) w0:=by
 intro lp J O0 W hO hD hO0 hJ hY h0
 have hk0:=World.block_lt_of_cell? w0 _ h.c1
 have HK:Hid (xV (fun k=>k=kb∨(A k∧k<w0.heap.size)) w0 W O0):=xV.start (fun k hk=>by rcases hk with rfl |hk;exact hk0;exact hk.2) hO hD
 have hk1:=((za HK).cell (p:=⟨kb,1,none⟩) (.inl rfl)).trans h.c1
 have hk2:=((za HK).cell (p:=⟨kb,2,none⟩) (.inl rfl)).trans h.c2
 obtain ⟨pa,pc,rfl,HC⟩:=h.r1.facts
 obtain ⟨qa,qc,rfl,HC2⟩:=h.r2.facts
 have HC:=zb HC
 have HC2:=zb HC2
 have HJ:=zb hJ
 have HY:=zb hY
 have H0:=zb h0
 have HSh:=zb hS
 have HO0:=zb hO0
 have hc2:=h.c2
 have hsW:=hO.size
 clear h hJ hY h0 hD hO0 hS
 have HA:Hid (zd (fun _=>False) W (W.alloc (.cells #[.func (.yield lp) #[] #[]] 315))):=(zd.refl _ _).alloc _
 have hkW:=World.block_lt_of_cell? W _ hk1
 have ha1:=((za HA).cell (p:=⟨kb,1,none⟩) hkW (fun f=>f)).trans hk1
 have hb0:(W.alloc (.cells #[.func (.yield lp) #[] #[]] 315)).cell? ⟨W.heap.size,0,none⟩=some (.func (.yield lp) #[] #[]):=zj W _ rfl _ _ 0 _ rfl
 have HI0:Hid (J [] O0 (W.alloc (.cells #[.func (.yield lp) #[] #[]] 315))):=za HJ _ _ _ _ (za H0) ((zd.refl _ W).alloc _)
 have HK0:=zb ((za HK).young (W:=W) hsW (A':=W.alloc (.cells #[.func (.yield lp) #[] #[]] 315)) ((zd.refl _ W).alloc _))
 have hw1s:(W.alloc (.cells #[.func (.yield lp) #[] #[]] 315)).heap.size=W.heap.size+1:=by simp
 have hnO:¬O0 W.heap.size:=fun h=>by have:=za HO0 _ h;omega
 clear HK H0
 refine callsIn_of_wp_marks Tryz.func220 rfl trivial ?_ rfl
 simp only [Tryz.ntmps220,List.size_toArray,List.length_cons,List.length_nil,Nat.reduceAdd,Nat.reduceSub,Array.replicate_succ,Array.replicate_zero,List.push_toArray,List.append_toArray,List.nil_append,List.cons_append]
 gi_wp2
 generalize W.alloc (.cells #[.func (.yield lp) #[] #[]] 315)=W1 at *
 gi_loopw [12] (fun vi wr=>∃ (i:Nat) (O:Nat→Prop),vi = .int .i64 i∧i≤R.length∧Hid (J (R.take i) O wr)∧Hid (xV (fun k=>k=kb∨(A k∧k<w0.heap.size)) w0 wr O)∧¬O W.heap.size∧wr.cell? ⟨W.heap.size,0,none⟩=some (.func (.yield lp) #[] #[])∧W.heap.size+1≤wr.heap.size∧Hid (∀ k,O k→k<wr.heap.size)) (fun vi _=>R.length-(intOf vi).toNat)
 case atStart=>exact ⟨0,O0,rfl,by omega,HI0,HK0,hnO,hb0,by omega,(fun k hk=>by have:=za HO0 k hk;omega)⟩
 case round=>
  clear HK0 HI0 hb0 ha1
  obtain ⟨i,O,rfl,hi,HJ1,HK,hnO1,hb1,hs1,HlO⟩:=hrel
  by_cases hlt:i<R.length
  ·obtain ⟨g,rfl,hpc,hAg,hcells⟩:=za HC (by omega)
   have hget:R[i]?=some R[i]:=List.getElem?_eq_getElem hlt
   obtain ⟨e1,e2⟩:=vx R i _ hget
   have c1:=((za HK).cell (p:=⟨g,i*2,none⟩) (.inr hAg)).trans (hcells _ _ e1)
   have c2:=((za HK).cell (p:=⟨g,i*2+1,none⟩) (.inr hAg)).trans (hcells _ _ e2)
   clear e1 e2 hcells
   have HP:Hid ((R.take i++[R[i]]) <+: (R++S.flatMap Cs.shL)):=(Z8 R i hlt).trans (List.prefix_append _ _)
   have HT:Hid (R.take i++[R[i]]=R.take (i+1)):=jT R i hlt
   clear hget
   generalize R[i]=y at *
   have hA2:zd (fun _=>False) wr (wr.alloc (.cells #[.int .i32 y.1,.int .i32 y.2] 364)):=(zd.refl _ wr).alloc _
   have hJ2:=za HJ (R.take i) O wr (wr.alloc (.cells #[.int .i32 y.1,.int .i32 y.2] 364)) (za HJ1) ((zd.refl _ wr).alloc _)
   have HK2:=zb ((za HK).young (W:=W) hsW (A':=wr.alloc (.cells #[.int .i32 y.1,.int .i32 y.2] 364)) ((zd.refl _ wr).alloc _))
   have hb2:=(hA2.cell (p:=⟨W.heap.size,0,none⟩) (World.block_lt_of_cell? wr _ hb1) (fun f=>f)).trans hb1
   have hs2:(wr.alloc (.cells #[.int .i32 y.1,.int .i32 y.2] 364)).heap.size=wr.heap.size+1:=by simp
   obtain ⟨fn,tmps,assign,body,hy,hR⟩:=za HY (R.take i) O y _ hJ2 (za HP)
   simp only [jU] at hy
   clear hJ2 hA2
   gi_wp2
   refine ⟨fun h=>by simp [Fence.wide] at h,hR.mono ?_⟩
   rintro e W3 ⟨rfl,O',hJ3,hs3,hO3,hlt3⟩
   have HK3:=zb ((za HK2).yield hs3 hO3)
   have hb3:=(hO3.cell (p:=⟨W.heap.size,0,none⟩) (World.block_lt_of_cell? _ _ hb2) hnO1).trans hb2
   have hnO3:¬O' W.heap.size:=fun h=>by
    rcases hs3 _ h with h |h
    ·exact hnO1 h
    ·omega
   have hsz3:=hO3.size
   gi_wp2
   exact ⟨⟨i+1,O',by go_num,by omega,(by rw [←za HT];exact hJ3),za HK3,hnO3,hb3,by omega,hlt3⟩,by simp [intOf];omega⟩
  ·obtain rfl:i=R.length:=by omega
   rw [List.take_length] at HJ1
   have ha2:=((za HK).cell (p:=⟨kb,2,none⟩) (.inl rfl)).trans hc2
   gi_wp2
   refine wpIn_loop (fun a' w'=>∃ (j:Nat) (ds:List Nat) (O:Nat→Prop) (v6 v28 v29 v30 v31 v32 v33 v41:Value),a' = { tmps:=#[.func (.yield lp) #[] #[],.pointer (some ⟨kb,0,none⟩),.pointer (some ⟨W.heap.size,0,none⟩),undef,u4,undef,v6,undef,undef,.pointer (some ⟨kb,1,none⟩),.slice pa R.length pc,.int .i64 (R.length:Nat),.int .i64 (R.length:Nat),.bool false,u14,u15,u16,u17,u18,u19,u20,u21,u22,u23,.pointer (some ⟨kb,2,none⟩),.slice qa S.length qc,.int .i64 (S.length:Nat),.int .i64 (j:Nat),v28,v29,v30,v31,v32,v33,undef,undef,undef,undef,undef,undef,undef,v41],defers:=ds.map mkD }∧j≤S.length∧ds.Nodup∧(∀ m∈ds,W.heap.size≤m)∧Hid (MemI w0 (fun k=>k=kb∨(A k∧k<w0.heap.size)) J W.heap.size lp ds (R++(S.take j).flatMap Cs.shL) [] O w')) (fun a' _=>S.length-(intOf (a'.tmps.getD 27 undef)).toNat) ?start ?round
   case start=>exact ⟨0,[],O,undef,undef,undef,undef,undef,undef,undef,undef,rfl,by omega,List.nodup_nil,(fun m hm=>by cases hm),⟨by simpa using za HJ1,za HK,hnO1,hb1,(fun m hm=>by cases hm),za HlO⟩⟩
   case round=>
    clear HJ1 HK hnO1 hb1 HlO ha2
    rintro a' wr2 ⟨j,ds,O,v6,v28,v29,v30,v31,v32,v33,v41,rfl,hj,hnd,hds,HM⟩
    by_cases hlt2:j<S.length
    ·obtain ⟨g,rfl,hpc,hAg,hcells⟩:=za HC2 (by omega)
     have hget:S[j]?=some S[j]:=List.getElem?_eq_getElem hlt2
     have c1:=((za HM).kept.cell (p:=⟨g,j,none⟩) (.inr hAg)).trans (hcells j (.int .i32 S[j]) (by simp [xH,hget]))
     have hok:=za HSh S[j] (List.getElem_mem hlt2)
     have HT:Hid (R++(S.take j).flatMap Cs.shL++Cs.shL S[j]=R++(S.take (j+1)).flatMap Cs.shL):=by
      rw [←jT S j hlt2,List.flatMap_append,List.append_assoc]
      simp only [List.flatMap_cons,List.flatMap_nil,List.append_nil]
      trivial
     have HP:Hid ((R++(S.take j).flatMap Cs.shL++Cs.shL S[j]) <+: (R++S.flatMap Cs.shL)):=by
      rw [za HT]
      refine (List.prefix_append_right_inj _).2 ?_
      conv=>rhs;rw [←List.take_append_drop (j+1) S,List.flatMap_append]
      exact List.prefix_append _ _
     clear hcells hget
     generalize S[j]=a at *
     gi_wp2
     refine ⟨trivial,fun h=>by simp [Fence.wide] at h,(callsIn_wide.2 (vw a hok _)).mono ?_⟩
     rintro e V1 ⟨v,rfl,hN⟩
     obtain ⟨sv,rfl,hrow,hri,hin⟩:=hN.1.short
     have hO1:=hN.2
     clear hN hin
     have hsl:∃ pa pn pc,sv = .slice pa pn pc:=by rcases hrow with ⟨h1,_⟩ |⟨g,cap,h1,_⟩<;>exact ⟨_,_,_,h1⟩
     obtain ⟨ra,rn,rc,rfl⟩:=hsl
     gi_wp2
     refine ⟨trivial,fun h=>by simp [Fence.wide] at h,(callsIn_wide.2 (vF _ _ ⟨_,_,_,rfl⟩)).mono ?_⟩
     rintro e V2 ⟨v,rfl,kb2,rfl,hk21,hk22,hO2⟩
     have HO12:=zb (hO1.trans hO2)
     have hsz1:=hO1.size
     have hsz2:=hO2.size
     have hlen:=hri.len
     have HRow:=zb (hrow.keep hO2 (fun _ _ f=>f))
     have HK2:=zb hk22
     have HM2:Hid (MemI w0 (fun k=>k=kb∨(A k∧k<w0.heap.size)) J W.heap.size lp ds (R++(S.take j).flatMap Cs.shL) [] O V2):=(za HM).keep (B2:=wr2.heap.size) (za HJ) (by have:=World.block_lt_of_cell? wr2 _ (za HM).y;simp at this;omega) (za HM).kept.1 (by have:=World.block_lt_of_cell? wr2 _ (za HM).y;simpa using this) (fun m hm=>(Array.getElem?_eq_some_iff.1 ((za HM).ms m hm).2).1) ((za HO12).mono (fun _ _ f=>f.elim))
     have hyl:=World.block_lt_of_cell? wr2 _ (za HM).y
     simp only [] at hyl
     clear hO1 hO2 hrow hk22
     gi_wp2
     refine kT (F:=Fence.wide) rfl (by omega) (gf:=180) (lb:=#[.pointer (some ⟨kb2,0,none⟩)]) rfl trivial (enters_of Tryz.func180 (by kernel_rfl) rfl)
      (kf _ (Cs.shL a) _ kb2 V2 (za HRow) (za HK2) (by omega) (n-1) (by omega)) (fun _=>rfl) (MemI w0 (fun k=>k=kb∨(A k∧k<w0.heap.size)) J W.heap.size lp ds (R++(S.take j).flatMap Cs.shL)) O (za HM2).lt ?d ?i (za HM2)
      (fun x=>{ tmps:=#[.func (.yield lp) #[] #[],.pointer (some ⟨kb,0,none⟩),.pointer (some ⟨W.heap.size,0,none⟩),undef,u4,undef,.int .i32 a,.int .i32 x.1,.int .i32 x.2,.pointer (some ⟨kb,1,none⟩),.slice pa R.length pc,.int .i64 (R.length:Nat),.int .i64 (R.length:Nat),.bool false,u14,u15,u16,u17,u18,u19,u20,u21,u22,u23,.pointer (some ⟨kb,2,none⟩),.slice (some ⟨g,0,none⟩) S.length qc,.int .i64 (S.length:Nat),.int .i64 (j:Nat),.bool true,.pointer (some ⟨g,j,none⟩),.int .i32 a,.int .i32 a,.agg #[.slice ra rn rc],.func (.func 180) #[] #[.pointer (some ⟨kb2,0,none⟩)],.int .i32 x.1,.int .i32 x.2,undef,undef,undef,undef,undef,v41],defers:=[] }) ?assign ?body ?done
     case d=>
      rintro k (rfl |⟨h1,h2⟩)
      ·exact ⟨World.block_lt_of_cell? V2 _ (za HK2),fun hk=>by have:=(za HM).lt _ hk;omega⟩
      ·exact ⟨h2,fun hk=>by have:=(za HM).lt _ hk;omega⟩
     case i=>
      intro pre O1 X X' hX hXX
      exact hX.keep (B2:=V2.heap.size) (za HJ) (by omega) (za HM2).kept.1 (by omega) (fun m hm=>(Array.getElem?_eq_some_iff.1 ((za HM2).ms m hm).2).1) hXX
     case assign=>
      intro l x W K hK
      unfold jU
      gi_wp2
      exact hK
     case body=>
      rintro l2 pre O1 x X hl2 hOl ⟨r,hr⟩ hX hpre
      obtain ⟨fn,tmps,assign,body,hy,hR⟩:=YieldAt.anyN (m':=n-1-1-1) (za HY (R++(S.take j).flatMap Cs.shL++pre) O1 x X hX.j (by rw [List.append_assoc];exact List.IsPrefix.trans ((List.prefix_append_right_inj _).2 hpre) (za HP)))
      simp only [jU] at hy
      have hy0:=hX.y
      obtain ⟨xa,xc⟩:=x
      simp only [] at hy ⊢
      gi_wp2
      refine ⟨fun h=>by simp [Fence.wide] at h,RoundIn.mono hR ?_⟩
      rintro e X2 ⟨rfl,O',hJ2,hs2,hO2,hlt2⟩
      gi_wp2
      exact ⟨O',hX.yield hJ2 hs2 hO2 hlt2,hs2,hO2,hlt2⟩
     case done=>
      rintro Dm O1 X hDm hOD hX hKm
      gi_wp2
      refine ⟨⟨j+1,Dm :: ds,O1,_,_,_,_,_,_,_,_,rfl,by omega,List.nodup_cons.2 ⟨fun hm=>?_,hnd⟩,?_,?_⟩,?_⟩
      ·have:=(Array.getElem?_eq_some_iff.1 ((za HM2).ms Dm hm).2).1
       omega
      ·intro m hm
       rcases List.mem_cons.1 hm with rfl |hm
       ·omega
       ·exact hds m hm
      ·refine ⟨by rw [List.append_nil,←za HT];exact hX.j,hX.kept,hX.nO,hX.y,fun m hm=>?_,hX.lt⟩
       rcases List.mem_cons.1 hm with rfl |hm
       ·exact ⟨hOD,hKm⟩
       ·exact hX.ms m hm
      ·simp [intOf];omega
    ·obtain rfl:j=S.length:=by omega
     rw [List.take_length] at HM
     gi_wp2
     refine v7 rfl ds wr2 hnd (fun m hm=>((za HM).ms m hm).2) (fun w' hw'=>⟨⟨_,rfl⟩,O,?_⟩)
     have:=(za HM).j
     rw [List.append_nil] at this
     exact za HJ _ _ _ _ this (hw'.mono (fun k _ hk=>⟨hds k hk,((za HM).ms k hk).1⟩))
theorem wO (neg:Bool)(v1 v2:Value)(w:World)(h1:∃ pa pn pc,v1 = .slice pa pn pc)(h2:∃ pa pn pc,v2 = .slice pa pn pc):Calls Tryz.prog 174 #[.agg #[.bool neg,v1,v2]] w fun e w'=>∃ kb,e = .returned (.func (.func 220) #[] #[.pointer (some ⟨kb,0,none⟩)])∧w.heap.size≤kb∧w'.cell? ⟨kb,1,none⟩=some v1∧w'.cell? ⟨kb,2,none⟩=some v2∧zd (fun _=>False) w w':=by
 obtain ⟨pa,pn,pc,rfl⟩:=h1
 obtain ⟨qa,qn,qc,rfl⟩:=h2
 have HO:Hid ((w.alloc (.cells #[.bool neg,.slice pa pn pc,.slice qa qn qc] 211)).cell? ⟨w.heap.size,1,none⟩=some (.slice pa pn pc)∧(w.alloc (.cells #[.bool neg,.slice pa pn pc,.slice qa qn qc] 211)).cell? ⟨w.heap.size,2,none⟩=some (.slice qa qn qc)∧zd (fun _=>False) w (w.alloc (.cells #[.bool neg,.slice pa pn pc,.slice qa qn qc] 211))):=⟨zj w _ rfl _ _ 1 _ rfl,zj w _ rfl _ _ 2 _ rfl,(zd.refl _ _).alloc _⟩
 go_enter Tryz.func174,Tryz.ntmps174
 go_wp2_with fail
 go_ret
 exact ⟨_,rfl,Nat.le_refl _,(za HO).1,(za HO).2.1,(za HO).2.2⟩
theorem y7.slice {w:World}{A:Nat→Prop}{v:Value}{n:Nat}{xs:List Value}(h:y7 w A v n xs):∃ pa pn pc,v = .slice pa pn pc:=by
 rcases h with ⟨rfl,_⟩ |⟨g,cap,rfl,_⟩<;>exact ⟨_,_,_,rfl⟩
theorem Vf (kb:Nat)(v1 v2:Value)(R:List (Int×Int))(S:List Int)(A:Nat→Prop)(w:World)(h:ClsBox w A kb v1 v2 R S)(_hA:∀ k,A k→k<w.heap.size)(hS:∀ a∈S,okSh a)(hR:R.length≤1000)(hSl:S.length≤1000) :
  Calls Tryz.prog 142 #[.func (.func 220) #[] #[.pointer (some ⟨kb,0,none⟩)]] w fun e w'=>∃ v,e = .returned v∧zO w w' v (fun c=>Cs.isCh c && Eqv.kX R S c):=by
 have eg:∀ args w,(callFunc 220 args).run Tryz.prog w = .ok (.enter 220 args) w:=enters_of Tryz.func220 (by kernel_rfl) rfl
 have hl:=Cs.Qp S (fun a ha=>(Cs.sh_ok a (hS a ha)).2.2)
 refine (JH _ _ (R++S.flatMap Cs.shL) (fun k=>k=kb∨(A k∧k<w.heap.size)) w eg (Qq v1 v2 R S A kb w h hS hR hSl 8 (by omega)) (fun k hk=>?_) (by simp only [List.length_append];omega)).mono ?_
 ·rcases hk with rfl |hk
  ·exact World.block_lt_of_cell? w _ h.c1
  ·exact hk.2
 ·rintro e w' ⟨v,rfl,h1,h2⟩
  exact ⟨v,rfl,⟨h1.congr (fun c=>Cs.VP (fun c=>Cs.YT c S (fun a ha=>(Cs.sh_ok a (hS a ha)).2.1)) c),h2⟩⟩
theorem XG (neg:Bool)(v1 v2:Value)(R:List (Int×Int))(S:List Int)(A:Nat→Prop)(w:World)(h1:y7 w A v1 R.length (rangeCells R))(h2:y7 w A v2 S.length (xH S))(hS:∀ a∈S,okSh a)(hR:R.length≤1000)(hSl:S.length≤1000) :
  Calls Tryz.prog 141 #[.agg #[.bool neg,v1,v2]] w fun e w'=>∃ v,e = .returned v∧zO w w' v (Cs.qv (Pro.tCls neg R S)):=by
 have hs1:=h1.slice
 have hs2:=h2.slice
 obtain ⟨pa,pn,pc,rfl⟩:=hs1
 obtain ⟨qa,qn,qc,rfl⟩:=hs2
 have H1:=zb h1
 have H2:=zb h2
 clear h1 h2
 go_enter Tryz.func141,Tryz.ntmps141
 go_wp2_with fail
 generalize hwB:w.alloc (.cells #[.bool neg,.slice pa pn pc,.slice qa qn qc] 211)=wB at *
 have hsB:wB.heap.size=w.heap.size+1:=by rw [←hwB];simp
 have HOB:Hid (zd (fun _=>False) w wB):=by rw [←hwB];exact (zd.refl _ _).alloc _
 have HN0:Hid (wB.cell? ⟨w.heap.size,0,none⟩=some (.bool neg)):=by rw [←hwB];exact zj w _ rfl _ _ 0 _ rfl
 clear hwB
 generalize hwA:wB.alloc (.cells #[.slice none 0 0] 137)=wA at *
 have HOA:Hid (zd (fun _=>False) wB wA):=by rw [←hwA];exact (zd.refl _ _).alloc _
 refine (wO neg _ _ wA ⟨_,_,_,rfl⟩ ⟨_,_,_,rfl⟩).mono ?_
 rintro e w1 ⟨kb,rfl,hk,k1,k2,hO1⟩
 have hO01:zd (fun _=>False) w w1:=((za HOB).trans (za HOA)).trans hO1
 have HB1:Hid (ClsBox w1 (fun g=>A g∧g<w1.heap.size) kb (.slice pa pn pc) (.slice qa qn qc) R S):=⟨k1,k2,(((za H1).keep hO01 (fun _ _ f=>f)).mono (fun g hg hA=>⟨hA,hg⟩)),(((za H2).keep hO01 (fun _ _ f=>f)).mono (fun g hg hA=>⟨hA,hg⟩))⟩
 have HO1:=zb hO1
 clear hO01 hO1 k1 k2
 go_wp2_with fail
 refine (Vf kb _ _ R S _ w1 (za HB1) (fun k hk=>hk.2) hS hR hSl).mono ?_
 rintro e w2 ⟨v,rfl,hN⟩
 obtain ⟨ra,rn,rc,rfl⟩:=hN.1.slice
 have HN2:=zb (hN.later (za HO1))
 clear hN
 have HA3:Hid (zd (fun _=>False) w2 (w2.alloc (.cells #[.slice ra rn rc] 137))):=(zd.refl _ _).alloc _
 have c0:=(((za HOA).trans ((za HN2).2.trans (za HA3))).cell (p:=⟨w.heap.size,0,none⟩) (by show _<_;simp only;omega) (fun f=>f)).trans (za HN0)
 have HN3:Hid (zO wA (w2.alloc (.cells #[.slice ra rn rc] 137)) (.agg #[.slice ra rn rc]) (fun c=>Cs.isCh c && Eqv.kX R S c)):=⟨(za HN2).1.keep (za HA3) (fun _ _ f=>f),(za HN2).2.trans (za HA3)⟩
 subst hwA
 cases neg
 ·have hN:=(za HN3).congr (Cs.VR R S)
  obtain ⟨k1,k2⟩:=yw hN.2
  have HN:=zb (yO hN)
  clear hN
  rw [hsB] at k1 k2 HN
  go_wp2_with fail
  refine bodyPost_ret (results_cell_row rfl _ _ (w.heap.size+1) 137 #[.slice ra rn rc] (0,0) _ rfl (za HN).2 Tryz.underlying137 rfl Tryz.infoSet) rfl ?_
  exact ⟨_,rfl,(za HN).1.later (za HOB)⟩
 ·go_wp2_with fail
  refine (vX _ _ _ _ (za HN3).1).mono ?_
  rintro e w4 ⟨v,rfl,hN4⟩
  obtain ⟨ta,tn,tc,rfl⟩:=hN4.1.slice
  have hN:=(zO.later hN4 (za HN3).2).congr (Cs.VQ R S)
  obtain ⟨k1,k2⟩:=yw hN.2
  have HN:=zb (yO hN)
  clear hN hN4
  rw [hsB] at k1 k2 HN
  go_wp2_with fail
  refine bodyPost_ret (results_cell_row rfl _ _ (w.heap.size+1) 137 #[.slice ta tn tc] (0,0) _ rfl (za HN).2 Tryz.underlying137 rfl Tryz.infoSet) rfl ?_
  exact ⟨_,rfl,(za HN).1.later (za HOB)⟩
def LeafOK (t:Sm.Tree):Prop:=(∀ c,t=Pro.xi c→okSh c)∧∀ neg R S,t=Pro.tCls neg R S→(∀ a∈S,okSh a)∧R.length≤1000∧S.length≤1000
theorem Qr (v:Value)(t:Sm.Tree)(A:Nat→Prop)(w:World)(h:qj w A v t)(hn:∀ c,t≠Pro.tAsr c)(hok:LeafOK t) :
  Calls Tryz.prog 106 #[v] w fun e w'=>∃ v',e = .returned v'∧zO w w' v' (Cs.qv t):=by
 have HOA:Hid (zd (fun _=>False) w (w.alloc (.cells #[.slice none 0 0] 137))):=(zd.refl _ _).alloc _
 rcases h with ⟨c,e,_⟩ |⟨rfl,rfl⟩ |⟨c,rfl,rfl⟩ |⟨c,rfl,rfl⟩ |⟨neg,R,S,v1,v2,rfl,rfl,h3,h4⟩
 ·exact absurd e (hn c)
 ·have a1:=Tryz.as11
  go_enter Tryz.func106,Tryz.ntmps106
  go_wp2_with fail
  clear a1
  refine (XF _).mono ?_
  rintro e w1 ⟨v,rfl,hN1⟩
  go_wp2_with fail
  refine (vX v _ _ w1 hN1.1).mono ?_
  rintro e w2 ⟨v,rfl,hN2⟩
  have hN:=((zO.later hN2 hN1.2).later ((zd.refl (fun _=>False) (w.alloc (.cells #[.slice none 0 0] 137))).alloc _)).congr Cs.any_P
  clear hN1 hN2
  obtain ⟨qa,qn,qc,rfl⟩:=hN.1.slice
  obtain ⟨k1,k2⟩:=yw hN.2
  have HN:=zb (yO hN)
  clear hN
  go_wp2_with fail
  refine bodyPost_ret (results_cell_row rfl _ _ w.heap.size 137 #[.slice qa qn qc] (0,0) _ rfl (za HN).2 Tryz.underlying137 rfl Tryz.infoSet) rfl ?_
  exact ⟨_,rfl,(za HN).1⟩
 ·have a1:=Tryz.as21
  have a2:=Tryz.as22
  go_enter Tryz.func106,Tryz.ntmps106
  go_wp2_with fail
  clear a1 a2
  have hL:=ji (.slice (some ⟨w.heap.size+1,0,none⟩) 1 1) [(c,c)] (fun g=>g=w.heap.size+1) _ (vY (w.alloc (.cells #[.slice none 0 0] 137)) (w.heap.size+1) (by simp) [(c,c)] 224) (by simp)
  refine Calls.mono hL ?_
  clear hL
  rintro e w2 ⟨v,rfl,hN⟩
  have hN:=(zO.later hN ((zd.refl (fun _=>False) (w.alloc (.cells #[.slice none 0 0] 137))).alloc _)).congr (Cs.char_P c)
  obtain ⟨qa,qn,qc,rfl⟩:=hN.1.slice
  obtain ⟨k1,k2⟩:=yw hN.2
  have HN:=zb (yO hN)
  clear hN
  go_wp2_with fail
  refine bodyPost_ret (results_cell_row rfl _ _ w.heap.size 137 #[.slice qa qn qc] (0,0) _ rfl (za HN).2 Tryz.underlying137 rfl Tryz.infoSet) rfl ?_
  exact ⟨_,rfl,(za HN).1⟩
 ·have a1:=Tryz.as31
  have a2:=Tryz.as32
  have a3:=Tryz.as33
  go_enter Tryz.func106,Tryz.ntmps106
  go_wp2_with fail
  clear a1 a2 a3
  refine (vw c (hok.1 c rfl) _).mono ?_
  rintro e w1 ⟨v,rfl,hN1⟩
  have hN:=hN1.congr (Cs.short_P c)
  clear hN1
  obtain ⟨qa,qn,qc,rfl⟩:=hN.1.slice
  obtain ⟨k1,k2⟩:=yw hN.2
  have HN:=zb (yO hN)
  clear hN
  go_wp2_with fail
  refine bodyPost_ret (results_cell_row rfl _ _ w.heap.size 137 #[.slice qa qn qc] (0,0) _ rfl (za HN).2 Tryz.underlying137 rfl Tryz.infoSet) rfl ?_
  exact ⟨_,rfl,(za HN).1⟩
 ·have a1:=Tryz.as41
  have a2:=Tryz.as42
  have a3:=Tryz.as43
  have a4:=Tryz.as44
  obtain ⟨h5,h6,h7⟩:=hok.2 neg R S rfl
  have hs1:=h3.slice
  have hs2:=h4.slice
  obtain ⟨pa,pn,pc,rfl⟩:=hs1
  obtain ⟨ua,un,uc,rfl⟩:=hs2
  have H3:=zb h3
  have H4:=zb h4
  clear h3 h4
  go_enter Tryz.func106,Tryz.ntmps106
  go_wp2_with fail
  clear a1 a2 a3 a4
  have hO2:zd (fun _=>False) w ((w.alloc (.cells #[.slice none 0 0] 137)).alloc (.cells #[.bool neg,.slice pa pn pc,.slice ua un uc] 211)):=((zd.refl _ _).alloc _).alloc _
  refine (XG neg _ _ R S A _ ((za H3).keep hO2 (fun _ _ f=>f)) ((za H4).keep hO2 (fun _ _ f=>f)) h5 h6 h7).mono ?_
  clear hO2
  rintro e w2 ⟨v,rfl,hN⟩
  have hN:=zO.later hN ((zd.refl (fun _=>False) (w.alloc (.cells #[.slice none 0 0] 137))).alloc _)
  obtain ⟨qa,qn,qc,rfl⟩:=hN.1.slice
  obtain ⟨k1,k2⟩:=yw hN.2
  have HN:=zb (yO hN)
  clear hN
  go_wp2_with fail
  refine bodyPost_ret (results_cell_row rfl _ _ w.heap.size 137 #[.slice qa qn qc] (0,0) _ rfl (za HN).2 Tryz.underlying137 rfl Tryz.infoSet) rfl ?_
  exact ⟨_,rfl,(za HN).1⟩
end
end Go.Proofs.YtfnkbmglodopkaaGreatDoor
