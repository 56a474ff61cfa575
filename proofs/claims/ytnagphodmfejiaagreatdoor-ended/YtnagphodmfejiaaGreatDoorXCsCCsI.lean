/- The program's sets: the iterators over a set's spans, and over the gaps between them. -/
import Derived.Test.YtnagphodmfejiaaGreatDoorXSrtGCsB
import Derived.Sort.Row
import Derived.Shelf.SlSortCmp.NoneTotal
namespace Go.Proofs.YtnagphodmfejiaaGreatDoor
section
open Go.RowKit Go.Shelf
set_option maxHeartbeats 4000000
set_option maxRecDepth 1000000
attribute [local go_sem] Oper.semAt_some
theorem YieldAt.anyN {m m':Nat}{P:Program}{l:Nat}{args:Array Value}{W:World}{R:Ending→World→Prop}(h:YieldAt Fence.wide m P l args W R):YieldAt Fence.wide m' P l args W R:=
 let ⟨fn,tmps,assign,body,hy,hr⟩:=h
 ⟨fn,tmps,assign,body,hy,hr.1,fun c cs _=>hr.2 c cs (room_wide _)⟩
def Jx (w w':World)(sv v:Value):Prop:=∃ kb,v = .func (.func 194) #[] #[.pointer (some ⟨kb,0,none⟩)]∧w.heap.size≤kb∧w'.cell? ⟨kb,0,none⟩=some sv∧Only (fun _=>False) w w'
theorem QF (sv:Value)(w:World)(hs:∃ pa pn pc,sv = .slice pa pn pc):Calls Tryz.prog 159 #[sv] w fun e w'=>∃ v,e = .returned v∧Jx w w' sv v:=by
 obtain ⟨pa,pn,pc,rfl⟩:=hs
 have HO:Hid (Jx w (w.alloc (.cells #[.slice pa pn pc] 151)) (.slice pa pn pc) (.func (.func 194) #[] #[.pointer (some ⟨w.heap.size,0,none⟩)])):=⟨_,rfl,Nat.le_refl _,zm w _ rfl _ _ 0 _ rfl,(Only.refl _ _).alloc _⟩
 go_enter Tryz.func159,Tryz.ntmps159
 go_wp2_with fail
 go_ret
 exact ⟨_,rfl,zb HO⟩
theorem Zg (sv:Value)(w:World)(hs:∃ pa pn pc,sv = .slice pa pn pc):Calls Tryz.prog 118 #[.agg #[sv]] w fun e w'=>∃ v,e = .returned v∧Jx w w' sv v:=by
 obtain ⟨pa,pn,pc,rfl⟩:=hs
 have HO:Hid (Only (fun _=>False) w (w.alloc (.cells #[.slice pa pn pc] 153))):=(Only.refl _ _).alloc _
 have hsz:(w.alloc (.cells #[.slice pa pn pc] 153)).heap.size=w.heap.size+1:=by simp
 go_enter Tryz.func118,Tryz.ntmps118
 go_wp2_with (go_at_call 159;refine (QF _ _ ⟨_,_,_,rfl⟩).mono ?_;rintro e w1 ⟨v,rfl,kb,rfl,h1,h2,h3⟩;have H1:Hid (Jx w w1 (.slice pa pn pc) (.func (.func 194) #[] #[.pointer (some ⟨kb,0,none⟩)])):=⟨kb,rfl,(by rw [hsz] at h1;omega),h2,(zb HO).trans h3⟩;clear h1 h2 h3)
 go_ret
 exact ⟨_,rfl,zb H1⟩
theorem Zy {α:Type}{P:List α→Prop}(h0:P [])(hs:∀ l x,P l→P (l++[x]))(l:List α):P l:=by
 rw [←List.reverse_reverse l]
 generalize l.reverse=r
 induction r with
 |nil=>exact h0
 |cons x r ih=>rw [List.reverse_cons];exact hs _ _ ih
namespace Cs
def gE:List (Int×Int)→List (Int×Int)×Int
 |l=>l.foldl (fun s x=>(s.1++[(s.2,x.1-1)],x.2+1)) ([],0)
theorem gE_nil:gE []=([],0):=rfl
theorem Zz (l:List (Int×Int))(x:Int×Int):gE (l++[x])=((gE l).1++[((gE l).2,x.1-1)],x.2+1):=by simp [gE]
theorem QG:∀ (l:List (Int×Int))(e:List (Int×Int))(b:Int),(l.foldl (fun s x=>(s.1++[(s.2,x.1-1)],x.2+1)) (e,b)).1++[((l.foldl (fun (s:List (Int×Int)×Int) x=>(s.1++[(s.2,x.1-1)],x.2+1)) (e,b)).2,1114111)]=e++gaps b l
 | [],e,b=>rfl
 |x :: l,e,b=>by
  rw [List.foldl_cons,QG l]
  simp [gaps]
theorem VS (l:List (Int×Int)):(gE l).1++[((gE l).2,1114111)]=gaps 0 l:=by
 have:=QG l [] 0
 simpa [gE] using this
theorem gE_pre {pre l:List (Int×Int)}(h:pre <+: l):(gE pre).1 <+: (gE l).1:=by
 obtain ⟨r,rfl⟩:=h
 refine Zy (P:=fun r=>(gE pre).1 <+: (gE (pre++r)).1) (by simp) (fun r x ih=>?_) r
 show _ <+: (gE (pre++(r++[x]))).1
 rw [←List.append_assoc,Zz]
 exact List.IsPrefix.trans ih (List.prefix_append _ _)
theorem gE_step {pre l:List (Int×Int)}{x:Int×Int}(h:(pre++[x]) <+: l):((gE pre).1++[((gE pre).2,x.1-1)]) <+: gaps 0 l:=by
 have h1:=gE_pre h
 rw [Zz] at h1
 rw [←VS]
 exact List.IsPrefix.trans h1 (List.prefix_append _ _)
theorem gE_lo:∀ (l:List (Int×Int)),(∀ x∈l,okS x)→0≤(gE l).2∧(gE l).2≤1114112:=by
 refine Zy (P:=fun l=>(∀ x∈l,okS x)→0≤(gE l).2∧(gE l).2≤1114112) (fun _=>by rw [gE_nil];exact ⟨by simp,by simp⟩) (fun l x ih h=>?_)
 rw [Zz]
 have:=h x (by simp)
 unfold okS at this
 simp only
 omega
end Cs
structure GapBox (w:World)(k lp:Nat)(b:Int):Prop where
 y:w.cell? ⟨k,0,none⟩=some (.func (.yield lp) #[] #[])
 b:w.cell? ⟨k+1,0,none⟩=some (.int .i32 b)
 f:w.frozen? ⟨k+1,0,none⟩=false
theorem GapBox.keep {P:Nat→Prop}{w w':World}{k lp:Nat}{b:Int}(h:GapBox w k lp b)(o:Only P w w')(h0:¬P k)(h1:¬P (k+1)):GapBox w' k lp b:=
 ⟨(o.cell (p:=⟨k,0,none⟩) (World.block_lt_of_cell? w _ h.y) h0).trans h.y,(o.cell (p:=⟨k+1,0,none⟩) (World.block_lt_of_cell? w _ h.b) h1).trans h.b,(o.frozen (p:=⟨k+1,0,none⟩) (World.block_lt_of_cell? w _ h.b) h1).trans h.f⟩
def GapI (k0 lp:Nat)(J:List (Int×Int)→(Nat→Prop)→World→Prop)(pre:List (Int×Int))(O:Nat→Prop)(X:World):Prop:=
 ∃ Oj:Nat→Prop,(∀ k,O k↔Oj k∨k=k0∨k=k0+1)∧¬Oj k0∧¬Oj (k0+1)∧J (Cs.gE pre).1 Oj X∧GapBox X k0 lp (Cs.gE pre).2∧k0+2≤X.heap.size∧True
theorem gaps_seq (sv:Value)(l:List (Int×Int))(A:Nat→Prop)(kb:Nat)(w0:World)(h:SpanRow w0 A sv l)(hr:Cs.Rising l)(hkb:w0.cell? ⟨kb,0,none⟩=some sv)(n:Nat)(hn1:5≤n) :
  SeqO Fence.wide n Tryz.prog 220 #[.pointer (some ⟨kb,0,none⟩)] kJ (Cs.gaps 0 l) (fun k=>k=kb∨(A k∧k<w0.heap.size)) w0:=by
 intro lp J O0 W hO hD hO0 hJ hY h0
 have hk0:=World.block_lt_of_cell? w0 _ hkb
 have hk:=(hO.cell (p:=⟨kb,0,none⟩) hk0 (fun f=>f)).trans hkb
 obtain ⟨pa,pn,pc,rfl⟩:∃ pa pn pc,sv = .slice pa pn pc:=by rcases h with ⟨h1,_⟩ |⟨g,cap,h1,_⟩<;>exact ⟨_,_,_,h1⟩
 have HW:Hid (SpanRow W (fun g=>A g∧g<w0.heap.size) (.slice pa pn pc) l):=(h.mono (fun g hg hA=>⟨hA,hg⟩)).keep hO (fun _ _ f=>f)
 have HJ:=ze hJ
 have HY:=ze hY
 have H0:=ze h0
 have HD:=ze hD
 have HO0:=ze hO0
 have HR:=ze hr
 have HOW:=ze hO
 clear h hJ hY h0 hD hO0 hr hO
 have HA:Hid (Only (fun _=>False) W ((W.alloc (.cells #[.func (.yield lp) #[] #[]] 350)).alloc (.cells #[.int .i32 0] 21))):=((Only.refl _ _).alloc _).alloc _
 have hkW:=World.block_lt_of_cell? W _ hk
 have hk2:=((zb HA).cell (p:=⟨kb,0,none⟩) hkW (fun f=>f)).trans hk
 have HB:Hid (GapBox ((W.alloc (.cells #[.func (.yield lp) #[] #[]] 350)).alloc (.cells #[.int .i32 0] 21)) W.heap.size lp 0):=by
  have hs1:(W.alloc (.cells #[.func (.yield lp) #[] #[]] 350)).heap.size=W.heap.size+1:=by simp
  refine ⟨?_,zm _ _ hs1 _ _ 0 _ rfl,zu _ _ hs1 _ _ 0⟩
  exact (((Only.refl (fun _=>False) _).alloc _).cell (p:=⟨W.heap.size,0,none⟩) (by rw [hs1];exact Nat.lt_succ_self _) (fun f=>f)).trans (zm W _ rfl _ _ 0 _ rfl)
 have eg:∀ args w,(callFunc 194 args).run Tryz.prog w = .ok (.enter 194 args) w:=enters_of Tryz.func194 (by kernel_rfl) rfl
 refine callsIn_of_wp_marks Tryz.func220 rfl trivial ?_ rfl
 simp only [Tryz.ntmps220,List.size_toArray,List.length_cons,List.length_nil,Nat.reduceAdd,Nat.reduceSub,Array.replicate_succ,Array.replicate_zero,List.push_toArray,List.append_toArray,List.nil_append,List.cons_append]
 gi_wp2
 refine ⟨trivial,fun h=>by simp [Fence.wide] at h,?_⟩
 refine (callsIn_wide.2 (Zg _ _ ⟨_,_,_,rfl⟩)).mono ?_
 rintro e w1 ⟨v,rfl,kb2,rfl,hk21,hk22,hO2⟩
 have HO2:=ze hO2
 have HK2:=ze hk22
 clear hO2 hk22
 gi_wp2
 have hW2:((W.alloc (.cells #[.func (.yield lp) #[] #[]] 350)).alloc (.cells #[.int .i32 0] 21)).heap.size=W.heap.size+2:=by simp
 rw [hW2] at hk21
 have HO3:=ze ((zb HA).trans (zb HO2))
 have hsz1:=(zb HO2).size
 rw [hW2] at hsz1
 have HB1:Hid (GapBox w1 W.heap.size lp 0):=(zb HB).keep (zb HO2) (fun f=>f) (fun f=>f)
 have HW1:=ze ((zb HW).keep (zb HO3) (fun _ _ f=>f))
 have hlen:=(zb HR).len
 have hWw:=(zb HOW).size
 clear HB HW HA hk2 hW2
 refine wg (F:=Fence.wide) rfl (by omega) (gf:=194) (lb:=#[.pointer (some ⟨kb2,0,none⟩)]) rfl trivial eg
  (vt _ l _ kb2 w1 (zb HW1) (zb HK2) (by omega) (n-1) (by omega)) (fun _=>rfl) (GapI W.heap.size lp J) (fun k=>O0 k∨k=W.heap.size∨k=W.heap.size+1) ?o ?d ?i ?z
  (fun x=>{ tmps:=#[.func (.yield lp) #[] #[],.pointer (some ⟨kb,0,none⟩),.pointer (some ⟨W.heap.size,0,none⟩),.pointer (some ⟨W.heap.size+1,0,none⟩),.int .i32 x.1,.int .i32 x.2,.agg #[.slice pa pn pc],.func (.func 194) #[] #[.pointer (some ⟨kb2,0,none⟩)],.int .i32 x.1,.int .i32 x.2,undef,undef,undef,undef,undef,undef,undef,undef,undef,undef,undef],defers:=[] }) ?assign ?body ?done
 case o=>
  rintro k (h |h |h)
  ·have:=zb HO0 k h;omega
  ·omega
  ·omega
 case d=>
  rintro k (rfl |⟨⟨hA,hk⟩,h1⟩)
  ·refine ⟨World.block_lt_of_cell? w1 _ (zb HK2),?_⟩
   rintro (h |h |h)
   ·have:=zb HO0 _ h;omega
   ·omega
   ·omega
  ·refine ⟨h1,?_⟩
   rintro (h |h |h)
   ·exact zb HD k (.inr ⟨hA,hk⟩) h
   ·omega
   ·omega
 case i=>
  rintro pre O X X' ⟨Oj,h1,h2,h3,h4,h5,h6,h7⟩ hX
  exact ⟨Oj,h1,h2,h3,zb HJ _ _ _ _ h4 (hX.mono (fun k _ hk=>⟨by omega,fun h=>hk.2 ((h1 k).2 (.inl h))⟩)),h5.keep hX (fun h=>by omega) (fun h=>by omega),Nat.le_trans h6 hX.size,h7⟩
 case z=>
  exact ⟨O0,fun _=>Iff.rfl,fun h=>by have:=zb HO0 _ h;omega,fun h=>by have:=zb HO0 _ h;omega,zb HJ _ _ _ _ (zb H0) ((zb HO3).mono (fun _ _ f=>f.elim)),zb HB1,by omega,trivial⟩
 case assign=>
  intro l x W K hK
  unfold kJ
  gi_wp2
  exact hK
 case body=>
  rintro l2 pre O x V hl2 hOl ⟨r,hr⟩ ⟨Oj,h1,h2,h3,h4,h5,h6,h7⟩ hpre
  have hx:=(zb HR).2 x (hpre.subset (by simp))
  have hb:=Cs.gE_lo pre (fun y hy=>(zb HR).2 y (hpre.subset (by simp [hy])))
  obtain ⟨fn,tmps,assign,body,hy,hR⟩:=YieldAt.anyN (m':=n-1-1-1) (zb HY (Cs.gE pre).1 Oj ((Cs.gE pre).2,x.1-1) V h4 (Cs.gE_step hpre))
  simp only [kJ] at hy
  obtain ⟨c1,c2,f2⟩:=h5
  have H5:Hid (GapBox V W.heap.size lp (Cs.gE pre).2):=⟨c1,c2,f2⟩
  obtain ⟨xa,xc⟩:=x
  unfold Cs.okS at hx
  simp only [] at hx hy ⊢
  generalize hgb:(Cs.gE pre).2=gb at *
  gi_wp2
  refine ⟨fun h=>by simp [Fence.wide] at h,RoundIn.mono hR ?_⟩
  rintro e V2 ⟨rfl,O',hJ2,hs2,hO2,hlt2⟩
  have hB2:=(zb H5).keep hO2 h2 h3
  obtain ⟨e1,e2,g2⟩:=hB2
  have HB2:Hid (GapBox V2 W.heap.size lp gb):=⟨e1,e2,g2⟩
  have n0:¬O' W.heap.size:=fun h=>by
   rcases hs2 _ h with h |h
   ·exact h2 h
   ·omega
  have n1:¬O' (W.heap.size+1):=fun h=>by
   rcases hs2 _ h with h |h
   ·exact h3 h
   ·omega
  have HJ2:=ze hJ2
  have HS2:=ze hs2
  have HO4:=ze hO2
  have hsz2:=hO2.size
  clear hJ2 hs2 hO2 hy hR
  gi_wp2
  refine ⟨fun k=>O' k∨k=W.heap.size∨k=W.heap.size+1,⟨O',fun _=>Iff.rfl,n0,n1,?_,?_,by simp [World.setCell];omega,trivial⟩,?_,?_,?_⟩
  ·rw [Cs.Zz,hgb]
   exact zb HJ _ _ _ _ (zb HJ2) ((Only.refl _ _).setCell (p:=⟨W.heap.size+1,0,none⟩) (.inl ⟨by simp,n1⟩) _)
  ·rw [Cs.Zz]
   exact ⟨(World.cell?_setCell_other _ _ _ _ (by simp)).trans e1,World.cell?_setCell_same _ _ _ e2,(zi _ _ _ _).trans g2⟩
  ·rintro k (h |h |h)
   ·rcases zb HS2 k h with h |h
    ·exact .inl ((h1 k).2 (.inl h))
    ·exact .inr h
   ·exact .inl ((h1 k).2 (.inr (.inl h)))
   ·exact .inl ((h1 k).2 (.inr (.inr h)))
  ·exact ((zb HO4).mono (fun k _ h=>(h1 k).2 (.inl h))).setCell (p:=⟨W.heap.size+1,0,none⟩) (.inl ((h1 _).2 (.inr (.inr rfl)))) _
  ·intro k hk
   simp only [World.setCell,Array.size_modify]
   rcases hk with h |h |h
   ·exact hlt2 k h
   ·omega
   ·omega
 case done=>
  rintro D O V hDw hOD ⟨Oj,h1,h2,h3,h4,h5,h6,h7⟩ hK
  have hb:=Cs.gE_lo l (zb HR).2
  obtain ⟨fn,tmps,assign,body,hy,hR⟩:=YieldAt.anyN (m':=n-1) (zb HY (Cs.gE l).1 Oj ((Cs.gE l).2,1114111) V h4 (by rw [Cs.VS];exact List.prefix_refl _))
  simp only [kJ] at hy
  obtain ⟨c1,c2,f2⟩:=h5
  have HE:=ze (Cs.VS l)
  generalize hgb:(Cs.gE l).2=gb at *
  gi_wp2
  refine ⟨fun h=>by simp [Fence.wide] at h,RoundIn.mono hR ?_⟩
  rintro e V2 ⟨rfl,O',hJ2,hs2,hO2,hlt2⟩
  have HJ2:=ze hJ2
  have hDV:D<V.heap.size:=(Array.getElem?_eq_some_iff.1 hK).1
  have hOjD:¬Oj D:=fun h=>hOD ((h1 D).2 (.inl h))
  have hK2:=(hO2.block D hDV hOjD).trans hK
  have hnD:¬O' D:=fun h=>by
   rcases hs2 _ h with h |h
   ·exact hOjD h
   ·omega
  clear hJ2 hs2 hO2 hy hR
  gi_wp2
  refine ⟨by simp,.inl ⟨_,_,rfl,run_takeDeferred hK2,?_⟩⟩
  refine ⟨_,results_none rfl _ _ _,⟨_,rfl⟩,O',?_⟩
  rw [←zb HE]
  exact zb HJ _ _ _ _ (zb HJ2) ((Only.refl _ _).putObj D _ (.inl ⟨by omega,hnD⟩))
end
section
open Go.RowKit
set_option maxHeartbeats 1000000
def yf (l:List (Int×Int)):List Value:=l.flatMap fun x=>[.int .i32 x.1,.int .i32 x.2]
theorem qe (l m:List (Int×Int)):yf (l++m)=yf l++yf m:=by simp [yf]
theorem YC (l:List (Int×Int)):(yf l).length=l.length*2:=by
 induction l with
 |nil=>rfl
 |cons x l ih=>simp [yf] at ih ⊢;omega
theorem Zh:∀ (l:List (Int×Int))(j:Nat)(p:Int×Int),l[j]?=some p→(yf l)[j*2]?=some (.int .i32 p.1)∧(yf l)[j*2+1]?=some (.int .i32 p.2)
 | [],j,p,h=>by simp at h
 |x :: l,0,p,h=>by simp at h;subst h;simp [yf]
 |x :: l,j+1,p,h=>by
  have:=Zh l j p (by simpa using h)
  rw [show (j+1)*2=j*2+2 by omega]
  simpa [yf] using this
theorem Tryz.infoSpan:(Tryz.prog.info? 263).map (fun i=>(i.zero,i.size,i.bytes))=some (some (.agg #[.int .i32 0,.int .i32 0]),2,8):=by kernel_rfl
theorem Xs {base:Nat}{w:World}{sv:Value}{l:List (Int×Int)}(h:w.ownsRow base 263 2 sv l.length (yf l)):SpanRow w (fun g=>sv.ownBlock=some g) sv l:=by
 have hl:=zg h
 have hc:=@World.ownsRow.cells w base 263 2 sv l.length (yf l) h
 rcases h.2 with ⟨rfl,h0⟩ |⟨g,cap,cur,rfl,hb,hg,hn,_⟩
 ·exact .inl ⟨rfl,List.eq_nil_of_length_eq_zero h0⟩
 ·exact .inr ⟨g,cap,rfl,rfl,hn,(hl g rfl).2,fun j p hj=>by
   obtain ⟨h1,h2⟩:=Zh l j p hj
   have e:∀ q,(⟨g,0,none⟩:Addr).add q=⟨g,q,none⟩:=fun q=>by unfold Addr.add;split<;>simp_all
   have k1:=hc (g:=g) rfl _ _ h1
   have k2:=hc (g:=g) rfl _ _ h2
   rw [e] at k1 k2
   exact ⟨k1,k2⟩⟩
structure Grew (base:Nat)(w w':World)(sv sv':Value)(l':List (Int×Int)):Prop where
 row:w'.ownsRow base 263 2 sv' l'.length (yf l')
 only:Only (fun k=>sv.ownBlock=some k) w w'
 sep:∀ k,sv'.ownBlock=some k→sv.ownBlock=some k∨w.heap.size≤k
theorem vA (base:Nat)(sv:Value)(l:List (Int×Int))(a b:Int)(w:World)(h:w.ownsRow base 263 2 sv l.length (yf l))(hbase:base≤w.heap.size)(hl:l.length≤10000000) :
  Calls Tryz.prog 189 #[sv,.int .i32 a,.int .i32 b] w fun e w'=>∃ sv',e = .returned sv'∧Grew base w w' sv sv' (l++if a≤b then [(a,b)] else []):=by
 obtain ⟨i0,hi,hz0,hz1,hz2⟩:=info_parts Tryz.infoSpan
 obtain ⟨pa,pn,pc,rfl⟩:=zq h
 have Hown:=ze h
 clear h
 by_cases hab:a≤b
 ·simp only [hab,if_true]
  have hd:decide (b<a)=false:=by simp;omega
  go_enter Tryz.func189,Tryz.ntmps189
  go_wp2_with (at_builtin;refine ji _ rfl _ _ 151 rfl base 263 i0 (.agg #[.int .i32 0,.int .i32 0]) 2 8 Tryz.underlying151 hi hz0 hz1 hz2 rfl (by decide) _ _ (yf l) rfl (World.ownsRow.alloc (zb Hown) _) _ 1 1 [.int .i32 a,.int .i32 b] rfl rfl (cell_two_new _ _ _ _) (fun x hx=>by simp at hx;rcases hx with rfl |rfl<;>rfl) (by unfold maxLen;omega) (by omega) (by simp;omega) ?_;intro v' w4 hown' hgrow hsep;have HG:Hid (Grew base w w4 (.slice pa pn pc) v' (l++[(a,b)])):=⟨(by rw [List.length_append,qe];exact hown'),((Only.refl _ _).alloc _).grown hgrow (fun k hk=>.inl hk),(fun k hk=>(hsep k hk).imp_right (fun h=>by simp at h;omega))⟩;clear hown' hgrow hsep)
  go_ret
  exact ⟨_,rfl,zb HG⟩
 ·simp only [hab,if_false,List.append_nil]
  have hd:b<a:=by omega
  go_enter Tryz.func189,Tryz.ntmps189
  go_wp2_with fail
  go_ret
  exact ⟨_,rfl,zb Hown,Only.refl _ _,fun k hk=>.inl hk⟩
set_option maxHeartbeats 2000000
set_option maxRecDepth 1000000
theorem kt {w:World}{g off:Nat}{c:Array Value}{e:TypeId}{fr:Nat×Nat}(u:Value)(h:w.heap[g]?=some (.cells c e fr)):(w.setCell ⟨g,off,none⟩ u).heap[g]?=some (.cells (c.setIfInBounds off u) e fr):=by
 rw [Go.Sort.setCell_eq]
 simp [Go.Sort.mapBlock,Array.getElem?_modify,h,Go.Sort.onCells]
theorem vB {w:World}{base g n cap size i:Nat}{e:TypeId}{xs:List Value}(h:w.ownsRow base e size (.slice (some ⟨g,0,none⟩) n cap) n xs)(u:Value):(w.setCell ⟨g,i,none⟩ u).ownsRow base e size (.slice (some ⟨g,0,none⟩) n cap) n (xs.set i u):=by
 rcases h.2 with ⟨h1,_⟩ |⟨g',cap',cur,h1,h2,h3,h4,h5,h6,h7⟩
 ·cases h1
 ·cases h1
  exact ⟨by rw [List.length_set];exact h.1,.inr ⟨g,cap,_,rfl,h2,kt u h3,h4,h5,by simpa using h6,by rw [Array.toList_setIfInBounds,List.take_set,h7]⟩⟩
theorem Kj (init:List (Int×Int))(l:Int×Int)(z:Int):(yf (init++[l])).set (init.length*2+1) (.int .i32 z)=yf (init++[(l.1,z)]):=by
 rw [qe,qe,List.set_append_right _ _ (by rw [YC];omega),YC,show init.length*2+1-init.length*2=1 by omega]
 simp [yf]
theorem Cs.jn_snoc (l:List (Int×Int))(x:Int×Int):Cs.jn [] (l++[x])=Cs.jn1 (Cs.jn [] l) x:=by simp [Cs.jn]
theorem Cs.jn1_len (acc:List (Int×Int))(x:Int×Int):(Cs.jn1 acc x).length≤acc.length+1:=by
 rcases Cs.j9 acc with rfl |⟨init,l,rfl⟩
 ·simp [Cs.jn1]
 ·by_cases hc:x.1≤l.2+1
  ·rw [Cs.Y5 hc];simp
  ·rw [Cs.Y6 hc];simp
theorem Cs.jn1_bd {acc:List (Int×Int)}{x:Int×Int}(h:∀ y∈acc,0≤y.2∧y.2≤1114111)(hx:0≤x.2∧x.2≤1114111):∀ y∈Cs.jn1 acc x,0≤y.2∧y.2≤1114111:=by
 rcases Cs.j9 acc with rfl |⟨init,l,rfl⟩
 ·intro y hy;simp [Cs.jn1] at hy;subst hy;exact hx
 ·have hl:=h l (by simp)
  by_cases hc:x.1≤l.2+1
  ·rw [Cs.Y5 hc]
   intro y hy
   rcases List.mem_append.1 hy with hy |hy
   ·exact h y (List.mem_append_left _ hy)
   ·obtain rfl:=List.mem_singleton.1 hy;simp only;omega
  ·rw [Cs.Y6 hc]
   intro y hy
   rcases List.mem_append.1 hy with hy |hy
   ·exact h y hy
   ·obtain rfl:=List.mem_singleton.1 hy;exact hx
theorem Jy (W:World)(n:Nat)(hn:W.heap.size=n)(x y:Value)(T:TypeId):∀ j u,[x,y][j]?=some u→(W.alloc (.cells #[x,y] T)).cell? ((⟨n,0,none⟩:Addr).add j)=some u:=by
 subst hn
 exact cell_two_new _ _ _ _
theorem VT (sv:Value)(l:List (Int×Int))(A:Nat→Prop)(w:World)(h:SpanRow w A sv l)(hok:∀ x∈l,Cs.okS x)(hl:l.length≤10000000) :
  Calls Tryz.prog 193 #[sv] w fun e w'=>∃ sv',e = .returned sv'∧w'.ownsRow w.heap.size 263 2 sv' (Cs.jn [] l).length (yf (Cs.jn [] l))∧Only (fun _=>False) w w':=by
 obtain ⟨i0,hi,hz0,hz1,hz2⟩:=info_parts Tryz.infoSpan
 obtain ⟨pa,pn,pc,rfl⟩:∃ pa pn pc,sv = .slice pa pn pc:=by rcases h with ⟨h1,_⟩ |⟨g,cap,h1,_⟩<;>exact ⟨_,_,_,h1⟩
 have hpn:pn=l.length:=by rcases h with ⟨h1,h2⟩ |⟨g,cap,h1,_⟩<;>simp at h1<;>simp [*]
 subst hpn
 have HC:Hid (l.length≠0→∃ g,pa=some ⟨g,0,none⟩∧l.length≤pc∧∀ (j:Nat) p,l[j]?=some p→w.cell? ⟨g,j*2,none⟩=some (.int .i32 p.1)∧w.cell? ⟨g,j*2+1,none⟩=some (.int .i32 p.2)):=by
  intro hne
  rcases h with ⟨_,h2⟩ |⟨g,cap,h1,hA,h2,h3,h4⟩
  ·rw [h2] at hne;exact absurd rfl hne
  ·simp at h1
   exact ⟨g,h1.1,by omega,h4⟩
 have HOK:=ze hok
 clear h hok
 go_enter Tryz.func193,Tryz.ntmps193
 go_wp2_with fail
 go_loopw [3,9] (fun vs vi wr=>∃ i:Nat,vi = .int .i64 i∧i≤l.length∧(Cs.jn [] (l.take i)).length≤i∧Hid (wr.ownsRow w.heap.size 263 2 vs (Cs.jn [] (l.take i)).length (yf (Cs.jn [] (l.take i))))∧Hid (∀ y∈Cs.jn [] (l.take i),0≤y.2∧y.2≤1114111)∧Hid (Only (fun _=>False) w wr)) (fun _ vi _=>l.length-(intOf vi).toNat)
 case atStart=>exact ⟨0,rfl,by omega,Nat.le_refl _,World.ownsRow_nil _ _ _ _,(fun y hy=>by simp [Cs.jn] at hy),Only.refl _ _⟩
 case round=>
  obtain ⟨i,rfl,hil,hai,Hown,HB,HO⟩:=hrel
  by_cases hlt:i<l.length
  ·obtain ⟨g,rfl,hpc,hcells⟩:=zb HC (by omega)
   have hget:l[i]?=some l[i]:=List.getElem?_eq_getElem hlt
   have hxk:=zb HOK l[i] (List.getElem_mem hlt)
   obtain ⟨d1,d2⟩:=hcells _ _ hget
   have c1:=zf (zb HO) _ _ d1 (fun f=>f)
   have c2:=zf (zb HO) _ _ d2 (fun f=>f)
   clear d1 d2 hcells hget
   have HT:Hid (Cs.jn [] (l.take (i+1))=Cs.jn1 (Cs.jn [] (l.take i)) l[i]):=by rw [←kI l i hlt,Cs.jn_snoc];rfl
   generalize l[i]=x at *
   generalize Cs.jn [] (l.take i)=acc at *
   obtain ⟨xa,xb⟩:=x
   unfold Cs.okS at hxk
   simp only [] at hxk c1 c2
   have HL:=ze (Cs.jn1_len acc (xa,xb))
   have HB2:=ze (Cs.jn1_bd (x:=(xa,xb)) (zb HB) ⟨by simp only;omega,hxk.2.2⟩)
   have HNA:=ze ((Only.refl (fun _=>False) wr).alloc (.cells #[.int .i32 xa,.int .i32 xb] 263))
   obtain ⟨sa,sn,sc,rfl⟩:=zq (zb Hown)
   rcases Cs.j9 acc with rfl |⟨init,y,rfl⟩
   ·have hs0:sn=0:=by rcases (zb Hown).2 with ⟨h1,_⟩ |⟨g',cap',cur,h1,_⟩<;>cases h1<;>rfl
    subst hs0
    rw [Cs.W9] at HT HL HB2
    go_wp2_with fail
    go_big_quiet (fail)
    go_wp2_with (at_builtin;refine zb ?_)
    refine ze ?_
    refine ji _ rfl _ _ 151 rfl w.heap.size 263 i0 (.agg #[.int .i32 0,.int .i32 0]) 2 8 Tryz.underlying151 hi hz0 hz1 hz2 rfl (by decide) _ _ (yf []) rfl (zo (zb Hown) ((((Only.refl (fun _=>False) wr).alloc _).drewN _).alloc _) (fun _ _ f=>f)) ⟨wr.heap.size+1,0,none⟩ 1 1 [.int .i32 xa,.int .i32 xb] rfl rfl (Jy _ (wr.heap.size+1) (by simp) _ _ _) (fun x hx=>by simp at hx;rcases hx with rfl |rfl<;>rfl) (by unfold maxLen;simp<;>omega) (by simp<;>omega) (by simp;have:=(zb HO).size;omega) ?_
    intro v' w4 hown' hgrow hsep
    have HR:Hid (w4.ownsRow w.heap.size 263 2 v' ([]++[(xa,xb)]).length (yf ([]++[(xa,xb)]))):=by
     show World.ownsRow _ _ _ _ _ _ _
     rw [List.length_append,qe]
     exact hown'
    have HO4:Hid (Only (fun _=>False) w w4):=((((zb HO).alloc _).drewN _).alloc _).grown hgrow (fun k hk=>.inr (zg (zb Hown) k hk).1)
    clear hown' hgrow hsep
    go_wp2_with fail
    go_roundw
    case rel=>exact ⟨i+1,by go_num,by omega,(by rw [zb HT];have:=zb HL;skip;omega),(by rw [zb HT];skip;exact zb HR),(by rw [zb HT];exact zb HB2),zb HO4⟩
    case measure=>simp [intOf];omega
   ·have hs1:sn=init.length+1:=by rcases (zb Hown).2 with ⟨h1,h0⟩ |⟨g',cap',cur,h1,_⟩<;>cases h1<;>simp_all
    subst hs1
    have Hown2:Hid (wr.ownsRow w.heap.size 263 2 (.slice sa (init.length+1) sc) (init.length+1) (yf (init++[y]))):=by have h9:=zb Hown;rw [List.length_append] at h9;exact h9
    clear Hown
    have Hown:=Hown2
    clear Hown2
    have hy2:=zb HB y (by simp)
    have hwy:wrap32 (y.2+1)=y.2+1:=by unfold wrap32;omega
    obtain ⟨g2,rfl⟩:∃ g2,sa=some ⟨g2,0,none⟩:=by
     rcases (zb Hown).2 with ⟨h1,h0⟩ |⟨g',cap',cur,h1,_⟩
     ·cases h1
     ·cases h1;exact ⟨_,rfl⟩
    have hrow:=Xs (l:=init++[y]) (by rw [List.length_append];exact zb Hown)
    obtain ⟨k1,k2⟩:wr.cell? ⟨g2,init.length*2+1,none⟩=some (.int .i32 y.2)∧g2<wr.heap.size:=by
     rcases hrow with ⟨h1,_⟩ |⟨g3,cap3,h1,_,_,h3,h4⟩
     ·simp at h1
     ·simp at h1
      rw [←h1.1] at h3 h4
      exact ⟨(h4 init.length y (by simp)).2,h3⟩
    have m1:=(zb HNA).cell (p:=⟨g2,init.length*2+1,none⟩) k2 (fun f=>f)
    rw [k1] at m1
    have f1:(wr.alloc (.cells #[.int .i32 xa,.int .i32 xb] 263)).frozen? ⟨g2,init.length*2+1,none⟩=false:=by
     rw [(zb HNA).frozen (p:=⟨g2,init.length*2+1,none⟩) k2 (fun f=>f)]
     rcases (zb Hown).2 with ⟨h1,h0⟩ |⟨g',cap',cur,h1,_,h3,_⟩
     ·cases h1
     ·cases h1;simp [World.frozen?,h3]
    have ha1:init.length+1≤i:=by simpa using hai
    have hcap:init.length+1≤sc:=by
     rcases (zb Hown).2 with ⟨h1,h0⟩ |⟨g',cap',cur,h1,_,_,h4,_⟩
     ·cases h1
     ·cases h1;simpa using h4
    clear hrow
    by_cases hc:xa≤y.2+1
    ·go_wp2_with fail
     go_big_quiet (fail)
     have HQ:=ze ((zb HO).trans ((zb HNA).drewN nq))
     go_wp2_with fail
     go_region
     have hmx:max y.2 xb=if y.2<xb then xb else y.2:=by split<;>omega
     have HW9:=ze (vB (i:=init.length*2+1) (zo (zb Hown) ((zb HNA).drewN (nq+1)) (fun _ _ f=>f)) (.int .i32 (max y.2 xb)))
     rw [Kj] at HW9
     have HQ9:=ze (((zb HO).trans ((zb HNA).drewN (nq+1))).setCell (p:=⟨g2,init.length*2+1,none⟩) (.inr (zg (zb Hown) g2 rfl).1) (.int .i32 (max y.2 xb)))
     have HJ9:Hid (Cs.jn1 (init++[y]) (xa,xb)=init++[(y.1,max y.2 xb)]):=Cs.Y5 (by simpa using hc)
     have HL9:Hid ((Cs.jn1 (init++[y]) (xa,xb)).length≤i+1):=by rw [zb HJ9];show _≤_;simp;omega
     have HR9:Hid ((((wr.alloc (.cells #[.int .i32 xa,.int .i32 xb] 263)).drewN (nq+1)).setCell ⟨g2,init.length*2+1,none⟩ (.int .i32 (max y.2 xb))).ownsRow w.heap.size 263 2 (.slice (some ⟨g2,0,none⟩) (init.length+1) sc) (Cs.jn1 (init++[y]) (xa,xb)).length (yf (Cs.jn1 (init++[y]) (xa,xb)))):=by
      show World.ownsRow _ _ _ _ _ _ _
      rw [zb HJ9,List.length_append]
      exact zb HW9
     clear HW9 HJ9
     have HQ8:=HQ9
     have HR8:=HR9
     rw [hmx] at HQ9 HR9
     clear hmx
     go_wp2_with fail
     go_roundw
     case rel=>exact ⟨i+1,by go_num,by omega,(by rw [zb HT];exact zb HL9),(by rw [zb HT];first |exact zb HR9 |exact zb HR8),(by rw [zb HT];exact zb HB2),(by first |exact zb HQ9 |exact zb HQ8)⟩
     case measure=>simp [intOf];omega
    ·have hcd:decide (xa≤y.2+1)=false:=by simp;omega
     go_wp2_with fail
     go_big_quiet (fail)
     go_wp2_with (at_builtin;refine zb ?_)
     refine ze ?_
     refine ji _ rfl _ _ 151 rfl w.heap.size 263 i0 (.agg #[.int .i32 0,.int .i32 0]) 2 8 Tryz.underlying151 hi hz0 hz1 hz2 rfl (by decide) _ _ (yf (init++[y])) rfl (zo (zb Hown) ((((Only.refl (fun _=>False) wr).alloc _).drewN _).alloc _) (fun _ _ f=>f)) ⟨wr.heap.size+1,0,none⟩ 1 1 [.int .i32 xa,.int .i32 xb] rfl rfl (Jy _ (wr.heap.size+1) (by simp) _ _ _) (fun x hx=>by simp at hx;rcases hx with rfl |rfl<;>rfl) (by unfold maxLen;simp<;>omega) (by omega) (by simp;have:=(zb HO).size;omega) ?_
     intro v' w4 hown' hgrow hsep
     have HR:Hid (w4.ownsRow w.heap.size 263 2 v' ((init++[y])++[(xa,xb)]).length (yf ((init++[y])++[(xa,xb)]))):=by
      show World.ownsRow _ _ _ _ _ _ _
      rw [List.length_append,qe,List.length_append]
      exact hown'
     have HO4:Hid (Only (fun _=>False) w w4):=((((zb HO).alloc _).drewN _).alloc _).grown hgrow (fun k hk=>.inr (zg (zb Hown) k hk).1)
     clear hown' hgrow hsep
     go_wp2_with fail
     go_roundw
     case rel=>exact ⟨i+1,by go_num,by omega,(by rw [zb HT];have:=zb HL;skip;omega),(by rw [zb HT];rw [Cs.Y6 (by simp only;omega)];exact zb HR),(by rw [zb HT];exact zb HB2),zb HO4⟩
     case measure=>simp [intOf];omega
  ·go_wp2_with fail
   go_ret
   obtain rfl:i=l.length:=by omega
   rw [List.take_length] at Hown
   exact ⟨_,rfl,zb Hown,zb HO⟩
end
section
open Go.RowKit Go.Shelf Go.Lib Go.Sort
set_option maxHeartbeats 1000000
theorem Kk (x y:Int)(w:World):Calls Tryz.prog 192 #[.int .i32 x,.int .i32 y] w fun e w'=>e = .returned (.int .i64 (Lib.compareInt x y))∧w'=w:=by
 unfold Lib.compareInt
 by_cases h1:x<y
 ·simp only [h1,if_true]
  go_enter Tryz.func192,Tryz.ntmps192
  go_wp2_with (go_at_call 223;refine (wD _ _).mono ?_;rintro e w' ⟨rfl,rfl⟩)
  go_ret
  exact ⟨rfl,rfl⟩
 ·by_cases h2:y<x
  ·simp only [h1,h2,if_true,if_false]
   go_enter Tryz.func192,Tryz.ntmps192
   go_wp2_with (go_at_call 223;refine (wD _ _).mono ?_;rintro e w' ⟨rfl,rfl⟩)
   go_ret
   exact ⟨rfl,rfl⟩
  ·simp only [h1,h2,if_false]
   go_enter Tryz.func192,Tryz.ntmps192
   go_wp2_with (go_at_call 223;refine (wD _ _).mono ?_;rintro e w' ⟨rfl,rfl⟩)
   go_ret
   exact ⟨rfl,rfl⟩
def encL (x:Int×Int):List Value:=[.int .i32 x.1,.int .i32 x.2]
def cmpF (x y:Int×Int):Int:=Lib.compareInt x.1 y.1
theorem wt (x y:Int×Int):ltOf cmpF x y=decide (x.1<y.1):=by
 unfold ltOf cmpF Lib.compareInt
 by_cases h1:x.1<y.1
 ·simp [h1]
 ·by_cases h2:y.1<x.1<;>simp [h1,h2]
theorem swo_cmpF:SWO (ltOf cmpF) where
 irrefl x:=by rw [wt];simp
 trans x y z h1 h2:=by rw [wt] at *;simp at *;omega
 ntrans x y z h1 h2:=by rw [wt] at *;simp at *;omega
theorem zaS (x y:Int×Int)(W:World):Calls Tryz.prog 191 #[.agg #[.int .i32 x.1,.int .i32 x.2],.agg #[.int .i32 y.1,.int .i32 y.2]] W fun e w'=>e = .returned (.int .i64 (cmpF x y))∧∃ q os',w'=grow (W.drewN q) os':=by
 have hcon:=fun W'=>Kk x.1 y.1 W'
 unfold cmpF
 generalize Lib.compareInt x.1 y.1=r at hcon ⊢
 go_enter Tryz.func191,Tryz.ntmps191
 go_wp2_with (go_at_call 192;refine (hcon _).mono ?_;rintro e w' ⟨rfl,rfl⟩)
 go_ret
 exact ⟨rfl,0,_,by rw [alloc_eq_grow,alloc_eq_grow,grow_grow];rfl⟩
theorem VU {w:World}{blk n:Nat}{d:Array (Int×Int)}{os:Array Obj}(_hblk:blk<w.heap.size):Only (zl blk) w (sortWorldK encL 2 w blk 0 n d os):=by
 refine ⟨rfl,rfl,rfl,size_sortWorldK_c encL 2 w blk 0 n d os,fun k hk hn=>?_⟩
 have hne:k≠blk:=hn
 unfold sortWorldK grow putRowK putRow mapBlock Sort.ahead
 simp only [Array.getElem?_append,Array.size_modify,hk,if_true,Array.getElem?_modify,Ne.symm hne,if_false]
theorem VV (base g cap:Nat)(l:List (Int×Int))(w:World)(h:w.ownsRow base 263 2 (.slice (some ⟨g,0,none⟩) l.length cap) l.length (yf l))(hl:l.length≤10000000) :
  Calls Tryz.prog 190 #[.slice (some ⟨g,0,none⟩) l.length cap,.func (.func 191) #[] #[]] w fun e w'=>e = .returned (.tuple #[])∧∃ l',l'.Perm l∧l'.Pairwise (fun x y=>x.1≤y.1)∧SpanRow w' (zl g) (.slice (some ⟨g,0,none⟩) l.length cap) l'∧Only (zl g) w w':=by
 have eg:∀ args w,(callFunc 191 args).run Tryz.prog w = .ok (.enter 191 args) w:=enters_of Tryz.func191 (by kernel_rfl) rfl
 have hg:=(zg h g rfl).2
 have hrow:=Xs h
 have hfr:∀ t,w.frozen? ⟨g,t,none⟩=false:=fun t=>by
  rcases h.2 with ⟨h1,_⟩ |⟨g',cap',cur,h1,_,h3,_⟩
  ·cases h1
  ·cases h1;simp [World.frozen?,h3]
 obtain ⟨hcap,hcell⟩:l.length≤cap∧∀ (j:Nat) p,l[j]?=some p→w.cell? ⟨g,j*2,none⟩=some (.int .i32 p.1)∧w.cell? ⟨g,j*2+1,none⟩=some (.int .i32 p.2):=by
  rcases hrow with ⟨h1,_⟩ |⟨g3,cap3,h1,_,h2,h3,h4⟩
  ·cases h1
  ·simp at h1
   obtain ⟨rfl,rfl⟩:=h1
   exact ⟨h2,h4⟩
 have hH:HoldsK encL 2 w g 0 l.toArray:=by
  intro t ht
  rw [size_flatK] at ht
  rw [get_flatK _ _ _ _ ht]
  have hq:t / 2<l.length:=by simp at ht;omega
  have hget:l[t / 2]?=some l[t / 2]:=List.getElem?_eq_getElem hq
  have hd:l.toArray[t / 2]! = l[t / 2]:=by simp [hq]
  obtain ⟨c1,c2⟩:=hcell _ _ hget
  refine ⟨?_,hfr _⟩
  rw [hd,Nat.zero_add]
  rcases Nat.mod_two_eq_zero_or_one t with e |e
  ·rw [show t / 2*2=t by omega] at c1
   rw [e];exact c1
  ·rw [show t / 2*2+1=t by omega] at c2
   rw [e];exact c2
 have hcon:=AnyQ.slices_SortFunc laidSort 2 Tryz.isAgg263 Tryz.sizeOf263 encL (fun _=>rfl) (fun x v hv=>by simp [encL] at hv;rcases hv with rfl |rfl<;>rfl) cmpF swo_cmpF 191 #[] g 0 cap l.toArray w eg (fun _ _ _ _ x y=>zaS x y _) hH hg (by simp;omega)
 refine Calls.mono hcon ?_
 rintro e w' ⟨rfl,d',n,os,hp,hs,rfl⟩
 refine ⟨rfl,d'.toList,?_,?_,?_,VU hg⟩
 ·have h1:=hp.2.2
  have h2:=hp.1
  have e1:(d'.extract 0 l.toArray.size).toList=d'.toList:=by rw [←h2];simp
  have e2:(l.toArray.extract 0 l.toArray.size).toList=l:=by simp
  rw [e1,e2] at h1
  exact h1
 ·rw [List.pairwise_iff_getElem]
  intro i j hi hj hij
  have hsz:=hp.1
  have hi':i<d'.size:=by simpa using hi
  have hj':j<d'.size:=by simpa using hj
  have:=hs i j (Nat.zero_le _) hij (by omega)
  rw [wt,getElem!_pos d' i hi',getElem!_pos d' j hj'] at this
  simp at this
  simpa using this
 ·have hsz:d'.toList.length=l.length:=by have:=hp.1;simpa using this
  have hH':=holdsK_sortWorldK_c encL 2 w g 0 l.toArray d' n os hH hg hp.1
  refine .inr ⟨g,cap,by rw [hsz],rfl,by omega,Nat.lt_of_lt_of_le hg (size_sortWorldK_c encL 2 w g 0 n d' os),fun j p hj=>?_⟩
  have hjl:j<d'.size:=by have:=(List.getElem?_eq_some_iff.1 hj).1;simpa using this
  have hd:d'[j]! = p:=by
   obtain ⟨h1,h2⟩:=List.getElem?_eq_some_iff.1 hj
   rw [getElem!_pos d' j hjl]
   simpa using h2
  have k1:=(hH' (j*2) (by rw [size_flatK];omega)).1
  have k2:=(hH' (j*2+1) (by rw [size_flatK];omega)).1
  rw [get_flatK _ _ _ _ (by omega),Nat.zero_add,show j*2 / 2=j by omega,show j*2 % 2=0 by omega,hd] at k1
  rw [get_flatK _ _ _ _ (by omega),Nat.zero_add,show (j*2+1) / 2=j by omega,show (j*2+1) % 2=1 by omega,hd] at k2
  exact ⟨k1,k2⟩
end
section
open Go.RowKit Go.Shelf
set_option maxHeartbeats 4000000
set_option maxRecDepth 1000000
attribute [local go_sem] Oper.semAt_some
theorem SeqO.later {α:Type}{F:Fence}{n:Nat}{P:Program}{gf:Nat}{lb:Array Value}{encs:α→Array Value}{xs:List α}{D:Nat→Prop}{w w1:World}(h:SeqO F n P gf lb encs xs D w)(o:Only (fun _=>False) w w1):SeqO F n P gf lb encs xs D w1:=
 fun l J O0 W hO=>h l J O0 W (o.trans hO)
theorem Tryz.infoSet:(Tryz.prog.info? 153).map (·.size)=some 1:=by kernel_rfl
def OfI (w:World)(pre:List (Int×Int))(O:Nat→Prop)(X:World):Prop:=
 ∃ sv,X.cell? ⟨w.heap.size,0,none⟩=some sv∧X.frozen? ⟨w.heap.size,0,none⟩=false∧X.ownsRow (w.heap.size+1) 263 2 sv (Cs.spl pre).length (yf (Cs.spl pre))∧(∀ k,O k↔k=w.heap.size∨sv.ownBlock=some k)∧Only (fun _=>False) w X∧w.heap.size+1≤X.heap.size
theorem OfI.keep {w:World}{pre:List (Int×Int)}{O:Nat→Prop}{X X':World}(h:OfI w pre O X)(k:Only (fun k=>w.heap.size+1≤k∧¬O k) X X'):OfI w pre O X':=by
 obtain ⟨sv,h1,h2,h3,h4,h5,h6⟩:=h
 have hn:¬(w.heap.size+1≤w.heap.size∧¬O w.heap.size):=fun h=>by omega
 exact ⟨sv,(k.cell (p:=⟨w.heap.size,0,none⟩) (by show _<_;simp only;omega) hn).trans h1,(k.frozen (p:=⟨w.heap.size,0,none⟩) (by show _<_;simp only;omega) hn).trans h2,zo h3 k (fun g hg hp=>hp.2 ((h4 g).2 (.inr hg))),h4,
  ⟨k.os.trans h5.os,k.tape.trans h5.tape,k.output.trans h5.output,Nat.le_trans h5.size k.size,fun j hj _=>(k.block j (by omega) (fun hp=>by omega)).trans (h5.block j hj (fun f=>f))⟩,Nat.le_trans h6 k.size⟩
structure OfS (wA V0:World)(O:Nat→Prop)(X:World)(sv:Value)(l:List (Int×Int)):Prop where
 cell:X.cell? ⟨wA.heap.size,0,none⟩=some sv
 frozen:X.frozen? ⟨wA.heap.size,0,none⟩=false
 row:X.ownsRow (wA.heap.size+1) 263 2 sv l.length (yf l)
 onlyA:Only (fun _=>False) wA X
 onlyO:Only O V0 X
 sep:∀ k,sv.ownBlock=some k→O k∨V0.heap.size≤k
 size:wA.heap.size+1≤X.heap.size
theorem OfS.grow {wA V0 X X1:World}{O:Nat→Prop}{sv sv1:Value}{l l1:List (Int×Int)}(h:OfS wA V0 O X sv l)(hO:O wA.heap.size)(g:Grew (wA.heap.size+1) X X1 sv sv1 l1):OfS wA V0 O (X1.setCell ⟨wA.heap.size,0,none⟩ sv1) sv1 l1:=by
 have hb:sv.ownBlock≠some wA.heap.size:=fun e=>by have:=(zg h.row _ e).1;omega
 have hlt:wA.heap.size<X.heap.size:=by have:=h.size;omega
 have c1:=(g.only.cell (p:=⟨wA.heap.size,0,none⟩) hlt hb).trans h.cell
 refine ⟨World.cell?_setCell_same _ _ _ c1,(zi _ _ _ _).trans ((g.only.frozen (p:=⟨wA.heap.size,0,none⟩) hlt hb).trans h.frozen),?_,?_,?_,?_,?_⟩
 ·exact zo g.row ((Only.refl (fun k=>k=wA.heap.size) X1).setCell (p:=⟨wA.heap.size,0,none⟩) (.inl rfl) _) (fun k hk e=>by have:=(zg g.row _ hk).1;omega)
 ·have o1:Only (fun _=>False) wA X1:=⟨g.only.os.trans h.onlyA.os,g.only.tape.trans h.onlyA.tape,g.only.output.trans h.onlyA.output,Nat.le_trans h.onlyA.size g.only.size,fun j hj _=>(g.only.block j (Nat.lt_of_lt_of_le hj h.onlyA.size) (fun e=>by have:=(zg h.row _ e).1;omega)).trans (h.onlyA.block j hj (fun f=>f))⟩
  exact o1.setCell (p:=⟨wA.heap.size,0,none⟩) (.inr (Nat.le_refl _)) _
 ·have o2:Only O V0 X1:=⟨g.only.os.trans h.onlyO.os,g.only.tape.trans h.onlyO.tape,g.only.output.trans h.onlyO.output,Nat.le_trans h.onlyO.size g.only.size,fun j hj hn=>(g.only.block j (Nat.lt_of_lt_of_le hj h.onlyO.size) (fun e=>by
   rcases h.sep _ e with h1 |h1
   ·exact hn h1
   ·omega)).trans (h.onlyO.block j hj hn)⟩
  exact o2.setCell (p:=⟨wA.heap.size,0,none⟩) (.inl hO) _
 ·intro k hk
  rcases g.sep k hk with h1 |h1
  ·exact h.sep k h1
  ·exact .inr (Nat.le_trans h.onlyO.size h1)
 ·have:=g.only.size;have:=h.size;simp [World.setCell];omega
theorem Cs.spl_snoc (l:List (Int×Int))(x:Int×Int):Cs.spl (l++[x])=(Cs.spl l++Cs.clip 0 55295 x)++Cs.clip 57344 1114111 x:=by simp [Cs.spl,Cs.KD]
theorem Cs.clip_len (lo hi:Int)(x:Int×Int):(Cs.clip lo hi x).length≤1:=by unfold Cs.clip;split<;>simp
theorem Cs.spl_len (l:List (Int×Int)):(Cs.spl l).length≤2*l.length:=by
 refine Zy (P:=fun l=>(Cs.spl l).length≤2*l.length) (by simp [Cs.spl]) (fun l x ih=>?_) l
 have h1:=Cs.clip_len 0 55295 x
 have h2:=Cs.clip_len 57344 1114111 x
 rw [Cs.spl_snoc]
 simp only [List.length_append,List.length_singleton]
 omega
theorem VW (base:Nat)(sv:Value)(l:List (Int×Int))(w:World)(h:w.ownsRow base 263 2 sv l.length (yf l))(hl:l.length≤10000000) :
  Calls Tryz.prog 190 #[sv,.func (.func 191) #[] #[]] w fun e w'=>e = .returned (.tuple #[])∧∃ l',l'.Perm l∧l'.Pairwise (fun x y=>x.1≤y.1)∧SpanRow w' (fun g=>sv.ownBlock=some g) sv l'∧Only (fun k=>sv.ownBlock=some k) w w':=by
 rcases h.2 with ⟨rfl,h0⟩ |⟨g,cap,cur,rfl,_⟩
 ·have hln:l=[]:=List.eq_nil_of_length_eq_zero h0
  subst hln
  refine (AnyF.slices_SortFunc_none laidSort none 0 _ w).mono ?_
  rintro e w' ⟨rfl,rfl⟩
  exact ⟨rfl,[],List.Perm.refl _,List.Pairwise.nil,.inl ⟨rfl,rfl⟩,Only.refl _ _⟩
 ·refine (VV base g cap l w h hl).mono ?_
  rintro e w' ⟨rfl,l',h1,h2,h3,h4⟩
  exact ⟨rfl,l',h1,h2,h3.mono (fun k _ hk=>by unfold zl at hk;subst hk;rfl),h4.mono (fun k _ hk=>by unfold zl at hk;subst hk;rfl)⟩
theorem VX (gf:Nat)(lb:Array Value)(xs:List (Int×Int))(D:Nat→Prop)(w:World)(eg:∀ args w,(callFunc gf args).run Tryz.prog w = .ok (.enter gf args) w)(hseq:SeqO Fence.wide 8 Tryz.prog gf lb kJ xs D w)(hD:∀ k,D k→k<w.heap.size)(hl:xs.length≤2000000) :
  Calls Tryz.prog 158 #[.func (.func gf) #[] lb] w fun e w'=>∃ v,e = .returned v∧SetAt w' (fun g=>w.heap.size≤g) v (fun c=>Cs.isCh c && Eqv.inSp xs c)∧Only (fun _=>False) w w':=by
 have HSeq:=ze hseq
 have HD:=ze hD
 clear hseq hD
 refine (callsIn_wide (n:=9)).1 ?_
 refine callsIn_of_wp_marks Tryz.func158 rfl trivial ?_ rfl
 simp only [Tryz.ntmps158,List.size_toArray,List.length_cons,List.length_nil,Nat.reduceAdd,Nat.reduceSub,Array.replicate_succ,Array.replicate_zero,List.push_toArray,List.append_toArray,List.nil_append,List.cons_append]
 gi_wp2
 obtain ⟨wA,hwA⟩:∃ wA,wA=w.alloc (.cells #[.slice none 0 0] 153):=⟨_,rfl⟩
 rw [←hwA]
 have hsA:wA.heap.size=w.heap.size+1:=by rw [hwA];simp
 have HOA:Hid (Only (fun _=>False) w wA):=by rw [hwA];exact (Only.refl _ _).alloc _
 have HRB:Hid (wA.heap[w.heap.size]?=some (.cells #[.slice none 0 0] 153 (0,0))):=by rw [hwA];exact World.alloc_heap_new w _
 clear hwA
 rw [←hsA]
 have hsA1:w.heap.size+1≤wA.heap.size:=by omega
 have hsA2:wA.heap.size≤w.heap.size+1:=by omega
 clear hsA
 have HO1:Hid (Only (fun _=>False) wA (wA.alloc (.cells #[.slice none 0 0] 151))):=(Only.refl _ _).alloc _
 have hsz:(wA.alloc (.cells #[.slice none 0 0] 151)).heap.size=wA.heap.size+1:=by simp
 have HI0:Hid (OfI wA [] (fun k=>k=wA.heap.size) (wA.alloc (.cells #[.slice none 0 0] 151))):=⟨.slice none 0 0,zm wA _ rfl _ _ 0 _ rfl,zu wA _ rfl _ _ 0,World.ownsRow_nil _ _ _ _,(fun k=>by simp [Value.ownBlock]),zb HO1,by omega⟩
 generalize wA.alloc (.cells #[.slice none 0 0] 151)=w1 at *
 refine wg (F:=Fence.wide) rfl (by omega) (gf:=gf) (lb:=lb) rfl trivial eg
  ((zb HSeq).later ((zb HOA).trans (zb HO1))) (fun _=>rfl) (OfI wA) (fun k=>k=wA.heap.size) (fun k hk=>by omega) (fun k hk=>by have:=zb HD k hk;exact ⟨by omega,by omega⟩) (fun pre O X X' h k=>h.keep (k.mono (fun j _ hp=>⟨by have:=hp.1;omega,hp.2⟩))) (zb HI0)
  (fun x=>{ tmps:=#[.func (.func gf) #[] lb,undef,.pointer (some ⟨w.heap.size,0,none⟩),.pointer (some ⟨wA.heap.size,0,none⟩),.int .i32 x.1,.int .i32 x.2,.func (.func gf) #[] lb,.int .i32 x.1,.int .i32 x.2,undef,undef,undef,undef,undef,undef,undef,undef,undef,undef,undef,undef,undef,undef,undef,undef,undef],defers:=[] }) ?assign ?body ?done
 case assign=>
  intro l x W K hK
  unfold kJ
  gi_wp2
  exact hK
 case body=>
  rintro l pre O x V hl2 hOl ⟨r,hr⟩ ⟨sv,h1,h2,h3,h4,h5,h6⟩ hpre
  obtain ⟨pa,pn,pc,rfl⟩:=zq h3
  have hpl:(Cs.spl pre).length≤4000000:=by have:=Cs.spl_len pre;have h9:=hpre.length_le;simp at h9;omega
  have H3:=ze h3
  clear h3
  obtain ⟨xa,xb⟩:=x
  simp only []
  have S0:OfS wA V O V (.slice pa pn pc) (Cs.spl pre):=⟨h1,h2,zb H3,h5,Only.refl _ _,(fun k hk=>.inl ((h4 k).2 (.inr hk))),h6⟩
  have hOw:O wA.heap.size:=(h4 _).2 (.inl rfl)
  have HS0:=ze S0
  clear S0
  have c1:=Cs.clip_len 0 55295 (xa,xb)
  have c2:=Cs.clip_len 57344 1114111 (xa,xb)
  gi_wp2
  refine ⟨trivial,(CallsIn.inRound l (callsIn_wide.2 (vA (wA.heap.size+1) (.slice pa pn pc) (Cs.spl pre) (max xa 0) (min xb 55295) V (zb H3) h6 (by omega)))).mono ?_⟩
  rintro e V1 ⟨sv1,rfl,hG1⟩
  obtain ⟨pa1,pn1,pc1,rfl⟩:=zq hG1.row
  have hG1':Grew (wA.heap.size+1) V V1 (.slice pa pn pc) (.slice pa1 pn1 pc1) (Cs.spl pre++Cs.clip 0 55295 (xa,xb)):=hG1
  have S1:=(zb HS0).grow hOw hG1'
  have k1:=S1.cell
  have k2:=S1.frozen
  have HS1:=ze S1
  have m1:=(hG1.only.cell (p:=⟨wA.heap.size,0,none⟩) (World.block_lt_of_cell? V _ h1) (fun e=>by have:=(zg (zb H3) _ e).1;simp at this;omega)).trans h1
  have m2:=(hG1.only.frozen (p:=⟨wA.heap.size,0,none⟩) (World.block_lt_of_cell? V _ h1) (fun e=>by have:=(zg (zb H3) _ e).1;simp at this;omega)).trans h2
  clear hG1 hG1' S1
  gi_wp2
  have hw1:=(zb HS1).size
  refine ⟨trivial,(CallsIn.inRound l (callsIn_wide.2 (vA (wA.heap.size+1) (.slice pa1 pn1 pc1) _ (max xa 57344) (min xb 1114111) _ (zb HS1).row hw1 (by simp only [List.length_append];omega)))).mono ?_⟩
  rintro e V2 ⟨sv2,rfl,hG2⟩
  obtain ⟨pa2,pn2,pc2,rfl⟩:=zq hG2.row
  have hG2':Grew (wA.heap.size+1) (V1.setCell ⟨wA.heap.size,0,none⟩ (.slice pa1 pn1 pc1)) V2 (.slice pa1 pn1 pc1) (.slice pa2 pn2 pc2) (Cs.spl (pre++[(xa,xb)])):=by rw [Cs.spl_snoc];exact hG2
  have S2:=(zb HS1).grow hOw hG2'
  have HS2:=ze S2
  have hb1:(Value.slice pa1 pn1 pc1).ownBlock≠some wA.heap.size:=fun e=>by have:=(zg (zb HS1).row _ e).1;omega
  have n1:=(hG2.only.cell (p:=⟨wA.heap.size,0,none⟩) (World.block_lt_of_cell? _ _ k1) hb1).trans k1
  have n2:=(hG2.only.frozen (p:=⟨wA.heap.size,0,none⟩) (World.block_lt_of_cell? _ _ k1) hb1).trans k2
  clear hG2 hG2' S2
  gi_wp2
  refine ⟨fun k=>k=wA.heap.size∨(Value.slice pa2 pn2 pc2).ownBlock=some k,⟨_,(zb HS2).cell,(zb HS2).frozen,(zb HS2).row,fun _=>Iff.rfl,(zb HS2).onlyA,(zb HS2).size⟩,?_,(zb HS2).onlyO,?_⟩
  ·rintro k (h |h)
   ·exact .inl (by rw [h];exact hOw)
   ·exact (zb HS2).sep k h
  ·rintro k (h |h)
   ·have:=(zb HS2).size;omega
   ·exact (zg (zb HS2).row k h).2
 case done=>
  rintro Dm O V hDw hOD ⟨sv,h1,h2,h3,h4,h5,h6⟩ hK
  obtain ⟨pa,pn,pc,rfl⟩:=zq h3
  have hpl:(Cs.spl xs).length≤4000000:=by have:=Cs.spl_len xs;omega
  have HSo:=ze (VW _ _ _ V h3 (by omega))
  have H3:=ze h3
  clear h3
  gi_wp2_with (refine ⟨trivial,?_⟩;gi_at_call 190;refine (callsIn_wide.2 (zb HSo)).mono ?_;rintro e V1 ⟨rfl,l',hp,hs,hr1,hO1⟩;have hbx:(Value.slice pa pn pc).ownBlock≠some wA.heap.size:=(fun e=>by have:=(zg (zb H3) _ e).1;omega);have m1:=(hO1.cell (p:=⟨wA.heap.size,0,none⟩) (World.block_lt_of_cell? _ _ h1) hbx).trans h1;have HOF:=ze (Cs.of_ok hp hs);have HJo:=ze (VT _ l' _ V1 hr1 (fun x hx=>Cs.spl_ok xs x (hp.mem_iff.1 hx)) (by have:=hp.length_eq;omega));have HO1:=ze hO1;clear hr1 hO1 hp hs)
  refine ⟨trivial,(callsIn_wide.2 (zb HJo)).mono ?_⟩
  rintro e V2 ⟨sv2,rfl,hr2,hO2⟩
  obtain ⟨pa2,pn2,pc2,rfl⟩:=zq hr2
  have hbw:(Value.slice pa pn pc).ownBlock≠some w.heap.size:=fun e=>by have:=(zg (zb H3) _ e).1;omega
  have q1:=(h5.block w.heap.size (by omega) (fun f=>f)).trans (zb HRB)
  have hVw:w.heap.size<V.heap.size:=by have:=h5.size;omega
  have p1:=((zb HO1).block w.heap.size hVw hbw).trans q1
  have hV1w:w.heap.size<V1.heap.size:=by have:=(zb HO1).size;omega
  have HR9:=ze ((hO2.block w.heap.size hV1w (fun f=>f)).trans p1)
  have r1:V2.cell? ⟨w.heap.size,0,none⟩=some (.slice none 0 0):=by unfold World.cell?;rw [zb HR9];rfl
  have r2:V2.frozen? ⟨w.heap.size,0,none⟩=false:=by unfold World.frozen?;rw [zb HR9];rfl
  clear q1 p1
  have hKV:Dm<V.heap.size:=(Array.getElem?_eq_some_iff.1 hK).1
  have hK1:=((zb HO1).block Dm hKV (fun e=>hOD ((h4 Dm).2 (.inr e)))).trans hK
  have hK2:=(hO2.block Dm (Nat.lt_of_lt_of_le hKV (zb HO1).size) (fun f=>f)).trans hK1
  have hDA:wA.heap.size≤Dm:=by omega
  have hw1s:=(zb HO1).size
  have HOV:Hid (Only (fun _=>False) wA V2):=Only.trans ⟨(zb HO1).os.trans h5.os,(zb HO1).tape.trans h5.tape,(zb HO1).output.trans h5.output,Nat.le_trans h5.size (zb HO1).size,fun j hj _=>((zb HO1).block j (Nat.lt_of_lt_of_le hj h5.size) (fun e=>by have:=(zg (zb H3) _ e).1;omega)).trans (h5.block j hj (fun f=>f))⟩ hO2
  have hr2b:=fun g=>zg hr2 g
  have HR2:=ze (Xs hr2)
  have hr2':=ze hr2
  clear hr2 hO2
  gi_wp2
  have hb9:=kt (off:=0) (.slice pa2 pn2 pc2) (zb HR9)
  have hne:Dm≠w.heap.size:=by omega
  have hK3:=(((Only.refl (fun k=>k=w.heap.size) V2).setCell (p:=⟨w.heap.size,0,none⟩) (.inl rfl) (.slice pa2 pn2 pc2)).block Dm (Array.getElem?_eq_some_iff.1 hK2).1 hne).trans hK2
  refine ⟨by simp,.inl ⟨_,_,rfl,run_takeDeferred hK3,?_⟩⟩
  refine ⟨_,results_cell_row rfl _ _ w.heap.size 153 #[.slice pa2 pn2 pc2] (0,0) _ rfl ((World.putObj_heap_other (Ne.symm hne)).trans hb9) Tryz.underlying153 rfl Tryz.infoSet,?_⟩
  have hf:Only (fun k=>k=w.heap.size∨k=Dm) V2 ((V2.setCell ⟨w.heap.size,0,none⟩ (.slice pa2 pn2 pc2)).putObj Dm (.deferred none)):=((Only.refl (fun k=>k=w.heap.size∨k=Dm) V2).setCell (p:=⟨w.heap.size,0,none⟩) (.inl (.inl rfl)) _).putObj Dm _ (.inl (.inr rfl))
  have hDV1:Dm<V1.heap.size:=Nat.lt_of_lt_of_le hKV (zb HO1).size
  refine ⟨_,rfl,⟨.slice pa2 pn2 pc2,Cs.jn [] l',rfl,?_,(zb HOF).1,(zb HOF).2⟩,?_⟩
  ·refine ((zb HR2).mono (B:=fun g=>V1.heap.size≤g) (fun g _ hg=>(hr2b g hg).1)).keep hf (fun g hg hp=>?_) |>.mono (fun g _ hg=>by omega)
   rcases hp with h |h<;>omega
  ·exact ⟨(hf.os.trans (zb HOV).os).trans (zb HOA).os,(hf.tape.trans (zb HOV).tape).trans (zb HOA).tape,(hf.output.trans (zb HOV).output).trans (zb HOA).output,Nat.le_trans (zb HOA).size (Nat.le_trans (zb HOV).size hf.size),fun j hj _=>
    (hf.block j (by have:=(zb HOV).size;omega) (fun hp=>by rcases hp with h |h<;>omega)).trans (((zb HOV).block j (by omega) (fun f=>f)).trans ((zb HOA).block j hj (fun f=>f)))⟩
theorem SetAt.slice {w:World}{A:Nat→Prop}{v:Value}{S:Int→Bool}(h:SetAt w A v S):∃ pa pn pc,v = .agg #[.slice pa pn pc]:=by
 obtain ⟨sv,sp,rfl,h2,_⟩:=h
 rcases h2 with ⟨h1,_⟩ |⟨g,cap,h1,_⟩
 ·exact ⟨_,_,_,by rw [h1]⟩
 ·exact ⟨_,_,_,by rw [h1]⟩
theorem SetAt.congr {w:World}{A:Nat→Prop}{v:Value}{S T:Int→Bool}(h:SetAt w A v S)(e:∀ c,S c=T c):SetAt w A v T:=by
 obtain ⟨sv,sp,h1,h2,h3,h4⟩:=h
 exact ⟨sv,sp,h1,h2,h3,fun c=>(h4 c).trans (e c)⟩
def NewSet (w w':World)(v:Value)(S:Int→Bool):Prop:=SetAt w' (fun g=>w.heap.size≤g) v S∧Only (fun _=>False) w w'
theorem NewSet.congr {w w':World}{v:Value}{S T:Int→Bool}(h:NewSet w w' v S)(e:∀ c,S c=T c):NewSet w w' v T:=⟨h.1.congr e,h.2⟩
theorem NewSet.later {w w1 w2:World}{v:Value}{S:Int→Bool}(h:NewSet w1 w2 v S)(o:Only (fun _=>False) w w1):NewSet w w2 v S:=⟨h.1.mono (fun _g _ hg=>Nat.le_trans o.size hg),o.trans h.2⟩
theorem xi {w w2:World}{z sv:Value}{S:Int→Bool}(h:NewSet (w.alloc (.cells #[z] 153)) w2 (.agg #[sv]) S) :
  NewSet w (w2.setCell ⟨w.heap.size,0,none⟩ sv) (.agg #[sv]) S∧(w2.setCell ⟨w.heap.size,0,none⟩ sv).heap[w.heap.size]?=some (.cells #[sv] 153 (0,0)):=by
 have hb:w2.heap[w.heap.size]?=some (.cells #[z] 153 (0,0)):=(h.2.block w.heap.size (by simp) (fun f=>f)).trans (World.alloc_heap_new w _)
 have o:Only (fun k=>k=w.heap.size) w2 (w2.setCell ⟨w.heap.size,0,none⟩ sv):=(Only.refl (fun k=>k=w.heap.size) w2).setCell (p:=⟨w.heap.size,0,none⟩) (.inl rfl) _
 refine ⟨⟨(h.1.keep o (fun g hg e=>by simp at hg;omega)).mono (fun g _ hg=>by simp at hg;omega),?_⟩,by rw [kt sv hb];rfl⟩
 have o2:Only (fun _=>False) w w2:=((Only.refl _ w).alloc _).trans h.2
 exact o2.setCell (p:=⟨w.heap.size,0,none⟩) (.inr (Nat.le_refl _)) _
theorem yL {w w2:World}{z:Value}(h:Only (fun _=>False) (w.alloc (.cells #[z] 153)) w2):w2.cell? ⟨w.heap.size,0,none⟩=some z∧w2.frozen? ⟨w.heap.size,0,none⟩=false:=by
 have hb:w2.heap[w.heap.size]?=some (.cells #[z] 153 (0,0)):=(h.block w.heap.size (by simp) (fun f=>f)).trans (World.alloc_heap_new w _)
 exact ⟨by simp [World.cell?,hb],by simp [World.frozen?,hb]⟩
theorem jV (sv:Value)(l:List (Int×Int))(A:Nat→Prop)(w:World)(h:SpanRow w A sv l)(hl:l.length≤1000000) :
  Calls Tryz.prog 117 #[sv] w fun e w'=>∃ v,e = .returned v∧NewSet w w' v (fun c=>Cs.isCh c && Eqv.inSp l c):=by
 have hsl:∃ pa pn pc,sv = .slice pa pn pc:=by rcases h with ⟨h1,_⟩ |⟨g,cap,h1,_⟩<;>exact ⟨_,_,_,h1⟩
 have eg:∀ args w,(callFunc 194 args).run Tryz.prog w = .ok (.enter 194 args) w:=enters_of Tryz.func194 (by kernel_rfl) rfl
 obtain ⟨pa,pn,pc,rfl⟩:=hsl
 have H:=ze (h.keep ((Only.refl (fun _=>False) w).alloc (.cells #[.slice none 0 0] 153)) (fun _ _ f=>f))
 clear h
 go_enter Tryz.func117,Tryz.ntmps117
 go_wp2_with fail
 generalize hwA:w.alloc (.cells #[.slice none 0 0] 153)=wA at *
 refine (QF _ wA ⟨_,_,_,rfl⟩).mono ?_
 rintro e w1 ⟨v,rfl,kb,rfl,h1,h2,h3⟩
 go_wp2_with fail
 refine (VX _ _ l (fun k=>k=kb∨((A k∧k<wA.heap.size)∧k<w1.heap.size)) w1 eg (vt _ l (fun k=>A k∧k<wA.heap.size) kb w1 (((zb H).mono (fun g hg hA=>⟨hA,hg⟩)).keep h3 (fun _ _ f=>f)) h2 (by omega) 8 (by omega)) (fun k hk=>by
  rcases hk with rfl |hk
  ·exact World.block_lt_of_cell? w1 _ h2
  ·exact hk.2) (by omega)).mono ?_
 rintro e w2 ⟨v,rfl,hs,hO⟩
 obtain ⟨qa,qn,qc,rfl⟩:=hs.slice
 have hN:NewSet wA w2 (.agg #[.slice qa qn qc]) (fun c=>Cs.isCh c && Eqv.inSp l c):=NewSet.later ⟨hs,hO⟩ h3
 clear hs hO h3 h2 h1
 subst hwA
 obtain ⟨k1,k2⟩:=yL hN.2
 have HN:=ze (xi hN)
 clear hN
 go_wp2_with fail
 refine bodyPost_ret (results_cell_row rfl _ _ w.heap.size 153 #[.slice qa qn qc] (0,0) _ rfl (zb HN).2 Tryz.underlying153 rfl Tryz.infoSet) rfl ?_
 exact ⟨_,rfl,(zb HN).1⟩
theorem VY (sv:Value)(w:World)(hs:∃ pa pn pc,sv = .slice pa pn pc):Calls Tryz.prog 185 #[.agg #[sv]] w fun e w'=>∃ kb,e = .returned (.func (.func 220) #[] #[.pointer (some ⟨kb,0,none⟩)])∧w.heap.size≤kb∧w'.cell? ⟨kb,0,none⟩=some sv∧Only (fun _=>False) w w':=by
 obtain ⟨pa,pn,pc,rfl⟩:=hs
 have HO:Hid ((w.alloc (.cells #[.slice pa pn pc] 153)).cell? ⟨w.heap.size,0,none⟩=some (.slice pa pn pc)∧Only (fun _=>False) w (w.alloc (.cells #[.slice pa pn pc] 153))):=⟨zm w _ rfl _ _ 0 _ rfl,(Only.refl _ _).alloc _⟩
 go_enter Tryz.func185,Tryz.ntmps185
 go_wp2_with fail
 go_ret
 exact ⟨_,rfl,Nat.le_refl _,(zb HO).1,(zb HO).2⟩
theorem Cs.gaps_len:∀ (l:List (Int×Int))(b:Int),(Cs.gaps b l).length=l.length+1
 | [],_=>rfl
 |x :: l,b=>by simp [Cs.gaps,Cs.gaps_len l]
theorem ZA (v:Value)(S:Int→Bool)(A:Nat→Prop)(w:World)(h:SetAt w A v S) :
  Calls Tryz.prog 155 #[v] w fun e w'=>∃ v',e = .returned v'∧NewSet w w' v' (fun c=>Cs.isCh c && !S c):=by
 have eg:∀ args w,(callFunc 220 args).run Tryz.prog w = .ok (.enter 220 args) w:=enters_of Tryz.func220 (by kernel_rfl) rfl
 obtain ⟨sv,l,rfl,hr,hri,hS⟩:=h
 obtain ⟨pa,pn,pc,rfl⟩:∃ pa pn pc,sv = .slice pa pn pc:=by rcases hr with ⟨h1,_⟩ |⟨g,cap,h1,_⟩<;>exact ⟨_,_,_,h1⟩
 have HOO:Hid (Only (fun _=>False) w ((w.alloc (.cells #[.slice pa pn pc] 153)).alloc (.cells #[.slice none 0 0] 153))):=((Only.refl _ _).alloc _).alloc _
 have HRi:=ze hri
 have HS:=ze hS
 have hlen:=hri.len
 have H:=ze (hr.keep (zb HOO) (fun _ _ f=>f))
 clear hr hri hS
 go_enter Tryz.func155,Tryz.ntmps155
 go_wp2_with fail
 generalize hwB:w.alloc (.cells #[.slice pa pn pc] 153)=wB at *
 have hsB:wB.heap.size=w.heap.size+1:=by rw [←hwB];simp
 have HOB:Hid (Only (fun _=>False) w wB):=by rw [←hwB];exact (Only.refl _ _).alloc _
 clear hwB
 generalize hwA:wB.alloc (.cells #[.slice none 0 0] 153)=wA at *
 refine (VY _ wA ⟨_,_,_,rfl⟩).mono ?_
 rintro e w1 ⟨kb,rfl,h1,h2,h3⟩
 go_wp2_with fail
 refine (VX _ _ (Cs.gaps 0 l) (fun k=>k=kb∨((A k∧k<wA.heap.size)∧k<w1.heap.size)) w1 eg (gaps_seq _ l (fun k=>A k∧k<wA.heap.size) kb w1 (((zb H).mono (fun g hg hA=>⟨hA,hg⟩)).keep h3 (fun _ _ f=>f)) (zb HRi) h2 8 (by omega)) (fun k hk=>by
  rcases hk with rfl |hk
  ·exact World.block_lt_of_cell? w1 _ h2
  ·exact hk.2) (by have:=Cs.gaps_len l 0;omega)).mono ?_
 rintro e w2 ⟨v,rfl,hs,hO⟩
 obtain ⟨qa,qn,qc,rfl⟩:=hs.slice
 have hN:NewSet wA w2 (.agg #[.slice qa qn qc]) (fun c=>Cs.isCh c && !S c):=(NewSet.later ⟨hs,hO⟩ h3).congr (fun c=>by rw [Cs.not_ok (zb HRi),zb HS c])
 clear hs hO h3 h2 h1
 subst hwA
 obtain ⟨k1,k2⟩:=yL hN.2
 have HN:=ze (xi hN)
 clear hN
 rw [hsB] at k1 k2 HN
 go_wp2_with fail
 refine bodyPost_ret (results_cell_row rfl _ _ (w.heap.size+1) 153 #[.slice qa qn qc] (0,0) _ rfl (zb HN).2 Tryz.underlying153 rfl Tryz.infoSet) rfl ?_
 exact ⟨_,rfl,(zb HN).1.later (zb HOB)⟩
theorem ZB (W:World)(n:Nat)(hn:W.heap.size=n)(l:List (Int×Int))(T:TypeId):SpanRow (W.alloc (.cells (yf l).toArray T)) (fun g=>g=n) (.slice (some ⟨n,0,none⟩) l.length l.length) l:=
 .inr ⟨n,l.length,rfl,rfl,Nat.le_refl _,by simp;omega,fun j p hj=>by
  obtain ⟨h1,h2⟩:=Zh l j p hj
  exact ⟨zm W n hn _ _ _ _ (by simpa using h1),zm W n hn _ _ _ _ (by simpa using h2)⟩⟩
theorem wS (w:World):Calls Tryz.prog 186 #[] w fun e w'=>∃ v,e = .returned v∧NewSet w w' v (Cs.zT 100):=by
 go_enter Tryz.func186,Tryz.ntmps186
 go_wp2_with fail
 have hL:=jV (.slice (some ⟨w.heap.size+1,0,none⟩) 1 1) [(48,57)] (fun g=>g=w.heap.size+1) _ (ZB (w.alloc (.cells #[.slice none 0 0] 153)) (w.heap.size+1) (by simp) [(48,57)] 263) (by decide)
 refine Calls.mono hL ?_
 clear hL
 rintro e w2 ⟨v,rfl,hN⟩
 obtain ⟨qa,qn,qc,rfl⟩:=hN.1.slice
 have hN:=(NewSet.later hN ((Only.refl (fun _=>False) (w.alloc (.cells #[.slice none 0 0] 153))).alloc _)).congr Cs.zab
 obtain ⟨k1,k2⟩:=yL hN.2
 have HN:=ze (xi hN)
 clear hN
 go_wp2_with fail
 refine bodyPost_ret (results_cell_row rfl _ _ w.heap.size 153 #[.slice qa qn qc] (0,0) _ rfl (zb HN).2 Tryz.underlying153 rfl Tryz.infoSet) rfl ?_
 exact ⟨_,rfl,(zb HN).1⟩
theorem Jz (w:World):Calls Tryz.prog 154 #[] w fun e w'=>∃ v,e = .returned v∧NewSet w w' v (fun c=>Cs.isCh c && Eqv.inSp Cs.lineL c):=by
 go_enter Tryz.func154,Tryz.ntmps154
 go_wp2_with fail
 have hL:=jV (.slice (some ⟨w.heap.size+1,0,none⟩) 3 3) [(10,10),(13,13),(8232,8233)] (fun g=>g=w.heap.size+1) _ (ZB (w.alloc (.cells #[.slice none 0 0] 153)) (w.heap.size+1) (by simp) [(10,10),(13,13),(8232,8233)] 263) (by decide)
 refine Calls.mono hL ?_
 clear hL
 rintro e w2 ⟨v,rfl,hN⟩
 obtain ⟨qa,qn,qc,rfl⟩:=hN.1.slice
 have hN:=(NewSet.later hN ((Only.refl (fun _=>False) (w.alloc (.cells #[.slice none 0 0] 153))).alloc _)).congr (fun _=>rfl)
 obtain ⟨k1,k2⟩:=yL hN.2
 have HN:=ze (xi hN)
 clear hN
 go_wp2_with fail
 refine bodyPost_ret (results_cell_row rfl _ _ w.heap.size 153 #[.slice qa qn qc] (0,0) _ rfl (zb HN).2 Tryz.underlying153 rfl Tryz.infoSet) rfl ?_
 exact ⟨_,rfl,(zb HN).1⟩
theorem vC (w:World):Calls Tryz.prog 64 #[] w fun e w'=>∃ v,e = .returned v∧NewSet w w' v (Cs.zT 119):=by
 go_enter Tryz.func64,Tryz.ntmps64
 go_wp2_with fail
 have hL:=jV (.slice (some ⟨w.heap.size+1,0,none⟩) 4 4) [(97,122),(65,90),(48,57),(95,95)] (fun g=>g=w.heap.size+1) _ (ZB (w.alloc (.cells #[.slice none 0 0] 153)) (w.heap.size+1) (by simp) [(97,122),(65,90),(48,57),(95,95)] 263) (by decide)
 refine Calls.mono hL ?_
 clear hL
 rintro e w2 ⟨v,rfl,hN⟩
 obtain ⟨qa,qn,qc,rfl⟩:=hN.1.slice
 have hN:=(NewSet.later hN ((Only.refl (fun _=>False) (w.alloc (.cells #[.slice none 0 0] 153))).alloc _)).congr Cs.Wc
 obtain ⟨k1,k2⟩:=yL hN.2
 have HN:=ze (xi hN)
 clear hN
 go_wp2_with fail
 refine bodyPost_ret (results_cell_row rfl _ _ w.heap.size 153 #[.slice qa qn qc] (0,0) _ rfl (zb HN).2 Tryz.underlying153 rfl Tryz.infoSet) rfl ?_
 exact ⟨_,rfl,(zb HN).1⟩
theorem ZC (w:World):Calls Tryz.prog 187 #[] w fun e w'=>∃ v,e = .returned v∧NewSet w w' v (Cs.zT 115):=by
 go_enter Tryz.func187,Tryz.ntmps187
 go_wp2_with fail
 have hL:=jV (.slice (some ⟨w.heap.size+1,0,none⟩) 10 10) [(9,13),(32,32),(160,160),(5760,5760),(8192,8202),(8232,8233),(8239,8239),(8287,8287),(12288,12288),(65279,65279)] (fun g=>g=w.heap.size+1) _ (ZB (w.alloc (.cells #[.slice none 0 0] 153)) (w.heap.size+1) (by simp) [(9,13),(32,32),(160,160),(5760,5760),(8192,8202),(8232,8233),(8239,8239),(8287,8287),(12288,12288),(65279,65279)] 263) (by decide)
 refine Calls.mono hL ?_
 clear hL
 rintro e w2 ⟨v,rfl,hN⟩
 obtain ⟨qa,qn,qc,rfl⟩:=hN.1.slice
 have hN:=(NewSet.later hN ((Only.refl (fun _=>False) (w.alloc (.cells #[.slice none 0 0] 153))).alloc _)).congr Cs.zac
 obtain ⟨k1,k2⟩:=yL hN.2
 have HN:=ze (xi hN)
 clear hN
 go_wp2_with fail
 refine bodyPost_ret (results_cell_row rfl _ _ w.heap.size 153 #[.slice qa qn qc] (0,0) _ rfl (zb HN).2 Tryz.underlying153 rfl Tryz.infoSet) rfl ?_
 exact ⟨_,rfl,(zb HN).1⟩
theorem zaT (w:World):Calls Tryz.prog 156 #[.int .i32 100] w fun e w'=>∃ v,e = .returned v∧NewSet w w' v (Cs.zT 100):=by
 go_enter Tryz.func156,Tryz.ntmps156
 go_wp2_with fail
 refine (wS _).mono ?_
 rintro e w2 ⟨v,rfl,hN⟩
 obtain ⟨qa,qn,qc,rfl⟩:=hN.1.slice
 obtain ⟨k1,k2⟩:=yL hN.2
 have HN:=ze (xi hN)
 clear hN
 go_wp2_with fail
 refine bodyPost_ret (results_cell_row rfl _ _ w.heap.size 153 #[.slice qa qn qc] (0,0) _ rfl (zb HN).2 Tryz.underlying153 rfl Tryz.infoSet) rfl ?_
 exact ⟨_,rfl,(zb HN).1⟩
theorem short_68 (w:World):Calls Tryz.prog 156 #[.int .i32 68] w fun e w'=>∃ v,e = .returned v∧NewSet w w' v (Cs.zT 68):=by
 go_enter Tryz.func156,Tryz.ntmps156
 go_wp2_with fail
 refine (wS _).mono ?_
 rintro e w1 ⟨v,rfl,hN1⟩
 go_wp2_with fail
 refine (ZA v _ _ w1 hN1.1).mono ?_
 rintro e w2 ⟨v,rfl,hN2⟩
 have hN:=(NewSet.later hN2 hN1.2).congr (Cs.Y7 (a:=100) (b:=68) (by omega))
 clear hN1 hN2
 obtain ⟨qa,qn,qc,rfl⟩:=hN.1.slice
 obtain ⟨k1,k2⟩:=yL hN.2
 have HN:=ze (xi hN)
 clear hN
 go_wp2_with fail
 refine bodyPost_ret (results_cell_row rfl _ _ w.heap.size 153 #[.slice qa qn qc] (0,0) _ rfl (zb HN).2 Tryz.underlying153 rfl Tryz.infoSet) rfl ?_
 exact ⟨_,rfl,(zb HN).1⟩
theorem zaU (w:World):Calls Tryz.prog 156 #[.int .i32 119] w fun e w'=>∃ v,e = .returned v∧NewSet w w' v (Cs.zT 119):=by
 go_enter Tryz.func156,Tryz.ntmps156
 go_wp2_with fail
 refine (vC _).mono ?_
 rintro e w2 ⟨v,rfl,hN⟩
 obtain ⟨qa,qn,qc,rfl⟩:=hN.1.slice
 obtain ⟨k1,k2⟩:=yL hN.2
 have HN:=ze (xi hN)
 clear hN
 go_wp2_with fail
 refine bodyPost_ret (results_cell_row rfl _ _ w.heap.size 153 #[.slice qa qn qc] (0,0) _ rfl (zb HN).2 Tryz.underlying153 rfl Tryz.infoSet) rfl ?_
 exact ⟨_,rfl,(zb HN).1⟩
theorem short_87 (w:World):Calls Tryz.prog 156 #[.int .i32 87] w fun e w'=>∃ v,e = .returned v∧NewSet w w' v (Cs.zT 87):=by
 go_enter Tryz.func156,Tryz.ntmps156
 go_wp2_with fail
 refine (vC _).mono ?_
 rintro e w1 ⟨v,rfl,hN1⟩
 go_wp2_with fail
 refine (ZA v _ _ w1 hN1.1).mono ?_
 rintro e w2 ⟨v,rfl,hN2⟩
 have hN:=(NewSet.later hN2 hN1.2).congr (Cs.Y7 (a:=119) (b:=87) (by omega))
 clear hN1 hN2
 obtain ⟨qa,qn,qc,rfl⟩:=hN.1.slice
 obtain ⟨k1,k2⟩:=yL hN.2
 have HN:=ze (xi hN)
 clear hN
 go_wp2_with fail
 refine bodyPost_ret (results_cell_row rfl _ _ w.heap.size 153 #[.slice qa qn qc] (0,0) _ rfl (zb HN).2 Tryz.underlying153 rfl Tryz.infoSet) rfl ?_
 exact ⟨_,rfl,(zb HN).1⟩
theorem zaV (w:World):Calls Tryz.prog 156 #[.int .i32 115] w fun e w'=>∃ v,e = .returned v∧NewSet w w' v (Cs.zT 115):=by
 go_enter Tryz.func156,Tryz.ntmps156
 go_wp2_with fail
 refine (ZC _).mono ?_
 rintro e w2 ⟨v,rfl,hN⟩
 obtain ⟨qa,qn,qc,rfl⟩:=hN.1.slice
 obtain ⟨k1,k2⟩:=yL hN.2
 have HN:=ze (xi hN)
 clear hN
 go_wp2_with fail
 refine bodyPost_ret (results_cell_row rfl _ _ w.heap.size 153 #[.slice qa qn qc] (0,0) _ rfl (zb HN).2 Tryz.underlying153 rfl Tryz.infoSet) rfl ?_
 exact ⟨_,rfl,(zb HN).1⟩
theorem short_83 (w:World):Calls Tryz.prog 156 #[.int .i32 83] w fun e w'=>∃ v,e = .returned v∧NewSet w w' v (Cs.zT 83):=by
 go_enter Tryz.func156,Tryz.ntmps156
 go_wp2_with fail
 refine (ZC _).mono ?_
 rintro e w1 ⟨v,rfl,hN1⟩
 go_wp2_with fail
 refine (ZA v _ _ w1 hN1.1).mono ?_
 rintro e w2 ⟨v,rfl,hN2⟩
 have hN:=(NewSet.later hN2 hN1.2).congr (Cs.Y7 (a:=115) (b:=83) (by omega))
 clear hN1 hN2
 obtain ⟨qa,qn,qc,rfl⟩:=hN.1.slice
 obtain ⟨k1,k2⟩:=yL hN.2
 have HN:=ze (xi hN)
 clear hN
 go_wp2_with fail
 refine bodyPost_ret (results_cell_row rfl _ _ w.heap.size 153 #[.slice qa qn qc] (0,0) _ rfl (zb HN).2 Tryz.underlying153 rfl Tryz.infoSet) rfl ?_
 exact ⟨_,rfl,(zb HN).1⟩
def okSh (a:Int):Prop:=a=100∨a=68∨a=119∨a=87∨a=115∨a=83
theorem wT (a:Int)(h:okSh a)(w:World):Calls Tryz.prog 156 #[.int .i32 a] w fun e w'=>∃ v,e = .returned v∧NewSet w w' v (Cs.zT a):=by
 rcases h with rfl |rfl |rfl |rfl |rfl |rfl
 ·exact zaT w
 ·exact short_68 w
 ·exact zaU w
 ·exact short_87 w
 ·exact zaV w
 ·exact short_83 w
end
end Go.Proofs.YtnagphodmfejiaaGreatDoor
