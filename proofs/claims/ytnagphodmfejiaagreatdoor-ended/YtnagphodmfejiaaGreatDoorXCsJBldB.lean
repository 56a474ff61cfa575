/- Rising spans are told by what they have: plain. -/
import Derived.Test.YtnagphodmfejiaaGreatDoorXCsCCsI
import Derived.Deep.RegionLawGrows
namespace Go.Proofs.YtnagphodmfejiaaGreatDoor
section
namespace Cs
open Eqv (inSp)
theorem wu {x:Int×Int}{l:List (Int×Int)}(h:Rising (x :: l)):inSp (x :: l) x.1=true:=by
 have:=h.2 x (List.mem_cons_self ..)
 rw [qU]
 exact ⟨x,List.mem_cons_self ..,Int.le_refl _,this.1⟩
theorem WV {x:Int×Int}{l:List (Int×Int)}(h:Rising (x :: l)){c:Int}(hc:inSp (x :: l) c=true):x.1≤c:=by
 obtain ⟨y,hy,h1,h2⟩:=(qU _ _).1 hc
 rcases List.mem_cons.1 hy with rfl |hy
 ·exact h1
 ·have:=(List.pairwise_cons.1 h.1).1 y hy
  have hx:=h.2 x (List.mem_cons_self ..)
  unfold okS at hx
  omega
theorem Yf {x:Int×Int}{l:List (Int×Int)}(h:Rising (x :: l)){c:Int}(hc:inSp l c=true):x.2+1<c:=by
 obtain ⟨y,hy,h1,h2⟩:=(qU _ _).1 hc
 have:=(List.pairwise_cons.1 h.1).1 y hy
 omega
theorem Rising.tail {x:Int×Int}{l:List (Int×Int)}(h:Rising (x :: l)):Rising l:=⟨(List.pairwise_cons.1 h.1).2,fun y hy=>h.2 y (List.mem_cons_of_mem _ hy)⟩
theorem WW {x y:Int×Int}{l m:List (Int×Int)}(h:Rising (x :: l))(_k:Rising (y :: m))(e:∀ c,inSp (x :: l) c=inSp (y :: m) c)(h1:x.1=y.1):y.2≤x.2:=by
 rcases Int.lt_or_le x.2 y.2 with h2 |h2
 ·have hx:=h.2 x (List.mem_cons_self ..)
  unfold okS at hx
  have:inSp (y :: m) (x.2+1)=true:=(qU _ _).2 ⟨y,List.mem_cons_self ..,by omega,by omega⟩
  rw [←e,jf,Bool.or_eq_true,qV] at this
  rcases this with h3 |h3
  ·omega
  ·have:=Yf h h3;omega
 ·exact h2
theorem Rising.unique:∀ {l m:List (Int×Int)},Rising l→Rising m→(∀ c,inSp l c=inSp m c)→l=m
 | [],[],_,_,_=>rfl
 | [],y :: m,_,k,e=>by have:=wu k;rw [←e] at this;simp [inSp] at this
 |x :: l,[],h,_,e=>by have:=wu h;rw [e] at this;simp [inSp] at this
 |x :: l,y :: m,h,k,e=>by
  have h1:x.1=y.1:=by
   have a:=WV k (by rw [←e];exact wu h)
   have b:=WV h (by rw [e];exact wu k)
   omega
  have h2:x.2=y.2:=by
   have a:=WW h k e h1
   have b:=WW k h (fun c=>(e c).symm) h1.symm
   omega
  obtain rfl:x=y:=Prod.ext h1 h2
  congr 1
  refine Rising.unique h.tail k.tail (fun c=>?_)
  have ec:=e c
  rw [jf,jf] at ec
  rcases Int.lt_or_le (x.2+1) c with hc |hc
  ·have:in1 x c=false:=by rw [Bool.eq_false_iff,ne_eq,qV];omega
   simpa [this] using ec
  ·have a:inSp l c=false:=by
    cases hh:inSp l c with
    |false=>rfl
    |true=>have:=Yf h hh;omega
   have b:inSp m c=false:=by
    cases hh:inSp m c with
    |false=>rfl
    |true=>have:=Yf k hh;omega
   rw [a,b]
noncomputable def shL (a:Int):List (Int×Int):=open Classical in if h:∃ l,Rising l∧∀ c,inSp l c=zT a c then h.choose else []
theorem shL_of {a:Int}{l:List (Int×Int)}(h:Rising l)(e:∀ c,inSp l c=zT a c):shL a=l:=by
 have hx:∃ l,Rising l∧∀ c,inSp l c=zT a c:=⟨l,h,e⟩
 unfold shL
 rw [dif_pos hx]
 exact hx.choose_spec.1.unique h (fun c=>(hx.choose_spec.2 c).trans (e c).symm)
theorem QH (c:Int):∀ (S:List Int),(∀ a∈S,∀ c,inSp (shL a) c=zT a c)→inSp (S.flatMap shL) c=S.any fun a=>zT a c
 | [],_=>rfl
 |a :: S,h=>by
  rw [List.flatMap_cons,inSp_append,h a (List.mem_cons_self ..),QH c S (fun b hb=>h b (List.mem_cons_of_mem _ hb))]
  rfl
theorem jn_len (l:List (Int×Int)):(jn [] l).length≤l.length:=
 Zy (P:=fun l=>(jn [] l).length≤l.length) (by simp [jn]) (fun l x ih=>by
  rw [jn_snoc]
  have:=jn1_len (jn [] l) x
  simp only [List.length_append,List.length_singleton]
  omega) l
theorem kO (rs:List (Int×Int)):∃ l,Rising l∧(∀ c,inSp l c=(isCh c && inSp rs c))∧l.length≤2*rs.length:=by
 have hp:=List.mergeSort_perm (spl rs) (fun x y=>decide (x.1≤y.1))
 have hs:=List.pairwise_mergeSort (le:=fun (x y:Int×Int)=>decide (x.1≤y.1)) (fun x y z h1 h2=>by simp at *;omega) (fun x y=>by simp;omega) (spl rs)
 obtain ⟨h1,h2⟩:=of_ok hp (hs.imp (fun h=>by simpa using h))
 refine ⟨_,h1,h2,?_⟩
 have e1:=jn_len ((spl rs).mergeSort fun x y=>decide (x.1≤y.1))
 rw [List.length_mergeSort] at e1
 have e2:=spl_len rs
 omega
theorem sh_ok (a:Int)(h:okSh a):Rising (shL a)∧(∀ c,inSp (shL a) c=zT a c)∧(shL a).length≤42:=by
 have fin:∀ l,Rising l→(∀ c,inSp l c=zT a c)→l.length≤42→Rising (shL a)∧(∀ c,inSp (shL a) c=zT a c)∧(shL a).length≤42:=fun l h1 h2 h3=>by rw [shL_of h1 h2];exact ⟨h1,h2,h3⟩
 have up:∀ (b:Int) l,Rising l→(∀ c,inSp l c=zT b c)→l.length≤20→((b=100∧a=68)∨(b=119∧a=87)∨(b=115∧a=83))→Rising (shL a)∧(∀ c,inSp (shL a) c=zT a c)∧(shL a).length≤42:=fun b l h1 h2 h0 hb=>by
  obtain ⟨m,h3,h4,h5⟩:=kO (gaps 0 l)
  rw [gaps_len] at h5
  exact fin m h3 (fun c=>by rw [h4,not_ok h1,h2];exact Y7 hb c) (by omega)
 obtain ⟨d,d1,d2,d4⟩:=kO [(48,57)]
 obtain ⟨q,q1,q2,q4⟩:=kO KE
 obtain ⟨s,s1,s2,s4⟩:=kO Ref.vT
 have d3:∀ c,inSp d c=zT 100 c:=fun c=>(d2 c).trans (zab c)
 have q3:∀ c,inSp q c=zT 119 c:=fun c=>(q2 c).trans (Wc c)
 have s3:∀ c,inSp s c=zT 115 c:=fun c=>(s2 c).trans (zac c)
 have q5:q.length≤20:=by simp [KE] at q4;omega
 have s5:s.length≤20:=by simp [Ref.vT] at s4;omega
 have d5:d.length≤20:=by simp at d4;omega
 rcases h with rfl |rfl |rfl |rfl |rfl |rfl
 ·exact fin d d1 d3 (by omega)
 ·exact up 100 d d1 d3 d5 (by omega)
 ·exact fin q q1 q3 (by omega)
 ·exact up 119 q q1 q3 q5 (by omega)
 ·exact fin s s1 s3 (by omega)
 ·exact up 115 s s1 s3 s5 (by omega)
theorem Kl:∀ (S:List Int),(∀ a∈S,(shL a).length≤42)→(S.flatMap shL).length≤42*S.length
 | [],_=>by simp
 |a :: S,h=>by
  have h1:=h a (List.mem_cons_self ..)
  have h2:=Kl S (fun b hb=>h b (List.mem_cons_of_mem _ hb))
  rw [List.flatMap_cons,List.length_append,List.length_cons]
  omega
end Cs
open Go.RowKit
theorem SetAt.short {w:World}{A:Nat→Prop}{v:Value}{a:Int}(h:SetAt w A v (Cs.zT a)):∃ sv,v = .agg #[sv]∧SpanRow w A sv (Cs.shL a)∧Cs.Rising (Cs.shL a)∧∀ c,Eqv.inSp (Cs.shL a) c=Cs.zT a c:=by
 obtain ⟨sv,sp,h1,h2,h3,h4⟩:=h
 have e:=Cs.shL_of h3 h4
 exact ⟨sv,h1,by rw [e];exact h2,by rw [e];exact h3,by rw [e];exact h4⟩
end
section
open Go.RowKit Go.Shelf
set_option maxHeartbeats 8000000
set_option maxRecDepth 1000000
attribute [local go_sem] Oper.semAt_some
theorem wU:∀ (l:List (Int×Int))(j:Nat)(p:Int×Int),l[j]?=some p→(rangeCells l)[j*2]?=some (.int .i32 p.1)∧(rangeCells l)[j*2+1]?=some (.int .i32 p.2)
 | [],j,p,h=>by simp at h
 |x :: l,0,p,h=>by simp at h;subst h;simp [rangeCells]
 |x :: l,j+1,p,h=>by
  have:=wU l j p (by simpa using h)
  rw [show (j+1)*2=j*2+2 by omega]
  simpa [rangeCells] using this
structure ClsBox (w:World)(A:Nat→Prop)(kb:Nat)(v1 v2:Value)(R:List (Int×Int))(S:List Int):Prop where
 c1:w.cell? ⟨kb,1,none⟩=some v1
 c2:w.cell? ⟨kb,2,none⟩=some v2
 r1:CellsAt w A v1 R.length (rangeCells R)
 r2:CellsAt w A v2 S.length (qr S)
theorem CellsAt.facts {w:World}{A:Nat→Prop}{v:Value}{n:Nat}{xs:List Value}(h:CellsAt w A v n xs):∃ pa pc,v = .slice pa n pc∧(n≠0→∃ g,pa=some ⟨g,0,none⟩∧n≤pc∧(A g∧g<w.heap.size)∧∀ j x,xs[j]?=some x→w.cell? ⟨g,j,none⟩=some x):=by
 rcases h with ⟨rfl,rfl,rfl⟩ |⟨g,cap,rfl,h1,h2,h3,h4⟩
 ·exact ⟨none,0,rfl,fun h=>absurd rfl h⟩
 ·exact ⟨some ⟨g,0,none⟩,cap,rfl,fun _=>⟨g,rfl,h2,⟨h1,h3⟩,h4⟩⟩
def mkD (D:Nat):Deferred:={ target:=.collected D,args:=#[] }
theorem ZD {n:Nat}{P:Program}{fn:Func}{tmps:Array Value}{R:Ending→World→Prop}(hres:fn.results=#[]):∀ (ds:List Nat) (w:World),ds.Nodup→(∀ D∈ds,w.heap[D]?=some (.deferred (some [])))→(∀ w',Only (fun k=>k∈ds) w w'→R (.returned (.tuple #[])) w')→LeavesInM Fence.wide n P fn tmps R (ds.map mkD) .returning w
 | [],w,_,_,h=>⟨_,results_none hres _ _ _,h w (Only.refl _ _)⟩
 |D :: ds,w,hn,hd,h=>by
  obtain ⟨h1,h2⟩:=List.nodup_cons.1 hn
  refine ⟨by simp,.inl ⟨_,_,rfl,run_takeDeferred (hd D (List.mem_cons_self ..)),?_⟩⟩
  refine ZD hres ds _ h2 (fun E hE=>?_) (fun w' hw'=>h w' ?_)
  ·rw [World.putObj_heap_other (by rintro rfl;exact h1 hE)]
   exact hd E (List.mem_cons_of_mem _ hE)
  ·exact ((Only.refl (fun k=>k∈D :: ds) w).putObj D _ (.inl (List.mem_cons_self ..))).trans (hw'.mono (fun k _ hk=>List.mem_cons_of_mem _ hk))
structure MemI (w0:World)(D:Nat→Prop)(J:List (Int×Int)→(Nat→Prop)→World→Prop)(k0 lp:Nat)(ds:List Nat)(base:List (Int×Int))(pre:List (Int×Int))(O:Nat→Prop)(X:World):Prop where
 j:J (base++pre) O X
 kept:KeptD D w0 X O
 nO:¬O k0
 y:X.cell? ⟨k0,0,none⟩=some (.func (.yield lp) #[] #[])
 ms:∀ m∈ds,¬O m∧X.heap[m]?=some (.deferred (some []))
 lt:∀ k,O k→k<X.heap.size
theorem MemI.keep {w0:World}{D:Nat→Prop}{J:List (Int×Int)→(Nat→Prop)→World→Prop}{k0 lp B B2:Nat}{ds:List Nat}{base pre:List (Int×Int)}{O:Nat→Prop}{X X':World}(hJ:∀ pre O A A',J pre O A→Only (fun k=>B≤k∧¬O k) A A'→J pre O A')(hB:B≤B2)(h0:w0.heap.size≤B2)(hk0:k0<B2)(hds:∀ m∈ds,m<B2)(h:MemI w0 D J k0 lp ds base pre O X)(o:Only (fun k=>B2≤k∧¬O k) X X'):MemI w0 D J k0 lp ds base pre O X':=
 ⟨hJ _ _ _ _ h.j (o.mono (fun k _ hk=>⟨by omega,hk.2⟩)),
  ⟨Nat.le_trans h.kept.1 o.size,fun k hk=>by
   obtain ⟨h1,h2,h3⟩:=h.kept.2 k hk
   have:=h.kept.1
   exact ⟨h1,h2,(o.block k (by omega) (fun hp=>by omega)).trans h3⟩⟩,
  h.nO,(o.cell (p:=⟨k0,0,none⟩) (World.block_lt_of_cell? X _ h.y) (fun hp=>by have:=hp.1;simp at this;omega)).trans h.y,
  fun m hm=>⟨(h.ms m hm).1,(o.block m (Array.getElem?_eq_some_iff.1 (h.ms m hm).2).1 (fun hp=>by have:=hds m hm;omega)).trans (h.ms m hm).2⟩,
  fun k hk=>Nat.lt_of_lt_of_le (h.lt k hk) o.size⟩
theorem MemI.yield {w0:World}{D:Nat→Prop}{J:List (Int×Int)→(Nat→Prop)→World→Prop}{k0 lp:Nat}{ds:List Nat}{base pre:List (Int×Int)}{x:Int×Int}{O O':Nat→Prop}{X X':World}(h:MemI w0 D J k0 lp ds base pre O X)(hj:J (base++pre++[x]) O' X')(hs:∀ k,O' k→O k∨X.heap.size≤k)(ho:Only O X X')(hlt:∀ k,O' k→k<X'.heap.size):MemI w0 D J k0 lp ds base (pre++[x]) O' X':=by
 have no:∀ m,¬O m→m<X.heap.size→¬O' m:=fun m h1 h2 h3=>by
  rcases hs m h3 with h |h
  ·exact h1 h
  ·omega
 have hk0:=World.block_lt_of_cell? X _ h.y
 exact ⟨by rw [←List.append_assoc];exact hj,h.kept.yield hs ho,no _ h.nO hk0,(ho.cell (p:=⟨k0,0,none⟩) hk0 h.nO).trans h.y,fun m hm=>⟨no m (h.ms m hm).1 (Array.getElem?_eq_some_iff.1 (h.ms m hm).2).1,(ho.block m (Array.getElem?_eq_some_iff.1 (h.ms m hm).2).1 (h.ms m hm).1).trans (h.ms m hm).2⟩,hlt⟩
theorem Km (v1 v2:Value)(R:List (Int×Int))(S:List Int)(A:Nat→Prop)(kb:Nat)(w0:World)(h:ClsBox w0 A kb v1 v2 R S)(hS:∀ a∈S,okSh a)(hR:R.length≤1000)(hSl:S.length≤1000)(n:Nat)(hn1:5≤n) :
  SeqO Fence.wide n Tryz.prog 221 #[.pointer (some ⟨kb,0,none⟩)] kJ (R++S.flatMap Cs.shL) (fun k=>k=kb∨(A k∧k<w0.heap.size)) w0:=by
 intro lp J O0 W hO hD hO0 hJ hY h0
 have hk0:=World.block_lt_of_cell? w0 _ h.c1
 have HK:Hid (KeptD (fun k=>k=kb∨(A k∧k<w0.heap.size)) w0 W O0):=KeptD.start (fun k hk=>by rcases hk with rfl |hk;exact hk0;exact hk.2) hO hD
 have hk1:=((zb HK).cell (p:=⟨kb,1,none⟩) (.inl rfl)).trans h.c1
 have hk2:=((zb HK).cell (p:=⟨kb,2,none⟩) (.inl rfl)).trans h.c2
 obtain ⟨pa,pc,rfl,HC⟩:=h.r1.facts
 obtain ⟨qa,qc,rfl,HC2⟩:=h.r2.facts
 have HC:=ze HC
 have HC2:=ze HC2
 have HJ:=ze hJ
 have HY:=ze hY
 have H0:=ze h0
 have HSh:=ze hS
 have HO0:=ze hO0
 have hc2:=h.c2
 have hsW:=hO.size
 clear h hJ hY h0 hD hO0 hS
 have HA:Hid (Only (fun _=>False) W (W.alloc (.cells #[.func (.yield lp) #[] #[]] 350))):=(Only.refl _ _).alloc _
 have hkW:=World.block_lt_of_cell? W _ hk1
 have ha1:=((zb HA).cell (p:=⟨kb,1,none⟩) hkW (fun f=>f)).trans hk1
 have hb0:(W.alloc (.cells #[.func (.yield lp) #[] #[]] 350)).cell? ⟨W.heap.size,0,none⟩=some (.func (.yield lp) #[] #[]):=zm W _ rfl _ _ 0 _ rfl
 have HI0:Hid (J [] O0 (W.alloc (.cells #[.func (.yield lp) #[] #[]] 350))):=zb HJ _ _ _ _ (zb H0) ((Only.refl _ W).alloc _)
 have HK0:=ze ((zb HK).young (W:=W) hsW (A':=W.alloc (.cells #[.func (.yield lp) #[] #[]] 350)) ((Only.refl _ W).alloc _))
 have hw1s:(W.alloc (.cells #[.func (.yield lp) #[] #[]] 350)).heap.size=W.heap.size+1:=by simp
 have hnO:¬O0 W.heap.size:=fun h=>by have:=zb HO0 _ h;omega
 clear HK H0
 refine callsIn_of_wp_marks Tryz.func221 rfl trivial ?_ rfl
 simp only [Tryz.ntmps221,List.size_toArray,List.length_cons,List.length_nil,Nat.reduceAdd,Nat.reduceSub,Array.replicate_succ,Array.replicate_zero,List.push_toArray,List.append_toArray,List.nil_append,List.cons_append]
 gi_wp2
 generalize W.alloc (.cells #[.func (.yield lp) #[] #[]] 350)=W1 at *
 gi_loopw [12] (fun vi wr=>∃ (i:Nat) (O:Nat→Prop),vi = .int .i64 i∧i≤R.length∧Hid (J (R.take i) O wr)∧Hid (KeptD (fun k=>k=kb∨(A k∧k<w0.heap.size)) w0 wr O)∧¬O W.heap.size∧wr.cell? ⟨W.heap.size,0,none⟩=some (.func (.yield lp) #[] #[])∧W.heap.size+1≤wr.heap.size∧Hid (∀ k,O k→k<wr.heap.size)) (fun vi _=>R.length-(intOf vi).toNat)
 case atStart=>exact ⟨0,O0,rfl,by omega,HI0,HK0,hnO,hb0,by omega,(fun k hk=>by have:=zb HO0 k hk;omega)⟩
 case round=>
  clear HK0 HI0 hb0 ha1
  obtain ⟨i,O,rfl,hi,HJ1,HK,hnO1,hb1,hs1,HlO⟩:=hrel
  by_cases hlt:i<R.length
  ·obtain ⟨g,rfl,hpc,hAg,hcells⟩:=zb HC (by omega)
   have hget:R[i]?=some R[i]:=List.getElem?_eq_getElem hlt
   obtain ⟨e1,e2⟩:=wU R i _ hget
   have c1:=((zb HK).cell (p:=⟨g,i*2,none⟩) (.inr hAg)).trans (hcells _ _ e1)
   have c2:=((zb HK).cell (p:=⟨g,i*2+1,none⟩) (.inr hAg)).trans (hcells _ _ e2)
   clear e1 e2 hcells
   have HP:Hid ((R.take i++[R[i]]) <+: (R++S.flatMap Cs.shL)):=(Qj R i hlt).trans (List.prefix_append _ _)
   have HT:Hid (R.take i++[R[i]]=R.take (i+1)):=kI R i hlt
   clear hget
   generalize R[i]=y at *
   have hA2:Only (fun _=>False) wr (wr.alloc (.cells #[.int .i32 y.1,.int .i32 y.2] 368)):=(Only.refl _ wr).alloc _
   have hJ2:=zb HJ (R.take i) O wr (wr.alloc (.cells #[.int .i32 y.1,.int .i32 y.2] 368)) (zb HJ1) ((Only.refl _ wr).alloc _)
   have HK2:=ze ((zb HK).young (W:=W) hsW (A':=wr.alloc (.cells #[.int .i32 y.1,.int .i32 y.2] 368)) ((Only.refl _ wr).alloc _))
   have hb2:=(hA2.cell (p:=⟨W.heap.size,0,none⟩) (World.block_lt_of_cell? wr _ hb1) (fun f=>f)).trans hb1
   have hs2:(wr.alloc (.cells #[.int .i32 y.1,.int .i32 y.2] 368)).heap.size=wr.heap.size+1:=by simp
   obtain ⟨fn,tmps,assign,body,hy,hR⟩:=zb HY (R.take i) O y _ hJ2 (zb HP)
   simp only [kJ] at hy
   clear hJ2 hA2
   gi_wp2
   refine ⟨fun h=>by simp [Fence.wide] at h,hR.mono ?_⟩
   rintro e W3 ⟨rfl,O',hJ3,hs3,hO3,hlt3⟩
   have HK3:=ze ((zb HK2).yield hs3 hO3)
   have hb3:=(hO3.cell (p:=⟨W.heap.size,0,none⟩) (World.block_lt_of_cell? _ _ hb2) hnO1).trans hb2
   have hnO3:¬O' W.heap.size:=fun h=>by
    rcases hs3 _ h with h |h
    ·exact hnO1 h
    ·omega
   have hsz3:=hO3.size
   gi_wp2
   exact ⟨⟨i+1,O',by go_num,by omega,(by rw [←zb HT];exact hJ3),zb HK3,hnO3,hb3,by omega,hlt3⟩,by simp [intOf];omega⟩
  ·obtain rfl:i=R.length:=by omega
   rw [List.take_length] at HJ1
   have ha2:=((zb HK).cell (p:=⟨kb,2,none⟩) (.inl rfl)).trans hc2
   gi_wp2
   refine wpIn_loop (fun a' w'=>∃ (j:Nat) (ds:List Nat) (O:Nat→Prop) (v6 v28 v29 v30 v31 v32 v33 v41:Value),a' = { tmps:=#[.func (.yield lp) #[] #[],.pointer (some ⟨kb,0,none⟩),.pointer (some ⟨W.heap.size,0,none⟩),undef,u4,undef,v6,undef,undef,.pointer (some ⟨kb,1,none⟩),.slice pa R.length pc,.int .i64 (R.length:Nat),.int .i64 (R.length:Nat),.bool false,u14,u15,u16,u17,u18,u19,u20,u21,u22,u23,.pointer (some ⟨kb,2,none⟩),.slice qa S.length qc,.int .i64 (S.length:Nat),.int .i64 (j:Nat),v28,v29,v30,v31,v32,v33,undef,undef,undef,undef,undef,undef,undef,v41],defers:=ds.map mkD }∧j≤S.length∧ds.Nodup∧(∀ m∈ds,W.heap.size≤m)∧Hid (MemI w0 (fun k=>k=kb∨(A k∧k<w0.heap.size)) J W.heap.size lp ds (R++(S.take j).flatMap Cs.shL) [] O w')) (fun a' _=>S.length-(intOf (a'.tmps.getD 27 undef)).toNat) ?start ?round
   case start=>exact ⟨0,[],O,undef,undef,undef,undef,undef,undef,undef,undef,rfl,by omega,List.nodup_nil,(fun m hm=>by cases hm),⟨by simpa using zb HJ1,zb HK,hnO1,hb1,(fun m hm=>by cases hm),zb HlO⟩⟩
   case round=>
    clear HJ1 HK hnO1 hb1 HlO ha2
    rintro a' wr2 ⟨j,ds,O,v6,v28,v29,v30,v31,v32,v33,v41,rfl,hj,hnd,hds,HM⟩
    by_cases hlt2:j<S.length
    ·obtain ⟨g,rfl,hpc,hAg,hcells⟩:=zb HC2 (by omega)
     have hget:S[j]?=some S[j]:=List.getElem?_eq_getElem hlt2
     have c1:=((zb HM).kept.cell (p:=⟨g,j,none⟩) (.inr hAg)).trans (hcells j (.int .i32 S[j]) (by simp [qr,hget]))
     have hok:=zb HSh S[j] (List.getElem_mem hlt2)
     have HT:Hid (R++(S.take j).flatMap Cs.shL++Cs.shL S[j]=R++(S.take (j+1)).flatMap Cs.shL):=by
      rw [←kI S j hlt2,List.flatMap_append,List.append_assoc]
      simp only [List.flatMap_cons,List.flatMap_nil,List.append_nil]
      trivial
     have HP:Hid ((R++(S.take j).flatMap Cs.shL++Cs.shL S[j]) <+: (R++S.flatMap Cs.shL)):=by
      rw [zb HT]
      refine (List.prefix_append_right_inj _).2 ?_
      conv=>rhs;rw [←List.take_append_drop (j+1) S,List.flatMap_append]
      exact List.prefix_append _ _
     clear hcells hget
     generalize S[j]=a at *
     gi_wp2
     refine ⟨trivial,fun h=>by simp [Fence.wide] at h,(callsIn_wide.2 (wT a hok _)).mono ?_⟩
     rintro e V1 ⟨v,rfl,hN⟩
     obtain ⟨sv,rfl,hrow,hri,hin⟩:=hN.1.short
     have hO1:=hN.2
     clear hN hin
     have hsl:∃ pa pn pc,sv = .slice pa pn pc:=by rcases hrow with ⟨h1,_⟩ |⟨g,cap,h1,_⟩<;>exact ⟨_,_,_,h1⟩
     obtain ⟨ra,rn,rc,rfl⟩:=hsl
     gi_wp2
     refine ⟨trivial,fun h=>by simp [Fence.wide] at h,(callsIn_wide.2 (Zg _ _ ⟨_,_,_,rfl⟩)).mono ?_⟩
     rintro e V2 ⟨v,rfl,kb2,rfl,hk21,hk22,hO2⟩
     have HO12:=ze (hO1.trans hO2)
     have hsz1:=hO1.size
     have hsz2:=hO2.size
     have hlen:=hri.len
     have HRow:=ze (hrow.keep hO2 (fun _ _ f=>f))
     have HK2:=ze hk22
     have HM2:Hid (MemI w0 (fun k=>k=kb∨(A k∧k<w0.heap.size)) J W.heap.size lp ds (R++(S.take j).flatMap Cs.shL) [] O V2):=(zb HM).keep (B2:=wr2.heap.size) (zb HJ) (by have:=World.block_lt_of_cell? wr2 _ (zb HM).y;simp at this;omega) (zb HM).kept.1 (by have:=World.block_lt_of_cell? wr2 _ (zb HM).y;simpa using this) (fun m hm=>(Array.getElem?_eq_some_iff.1 ((zb HM).ms m hm).2).1) ((zb HO12).mono (fun _ _ f=>f.elim))
     have hyl:=World.block_lt_of_cell? wr2 _ (zb HM).y
     simp only [] at hyl
     clear hO1 hO2 hrow hk22
     gi_wp2
     refine wg (F:=Fence.wide) rfl (by omega) (gf:=194) (lb:=#[.pointer (some ⟨kb2,0,none⟩)]) rfl trivial (enters_of Tryz.func194 (by kernel_rfl) rfl)
      (vt _ (Cs.shL a) _ kb2 V2 (zb HRow) (zb HK2) (by omega) (n-1) (by omega)) (fun _=>rfl) (MemI w0 (fun k=>k=kb∨(A k∧k<w0.heap.size)) J W.heap.size lp ds (R++(S.take j).flatMap Cs.shL)) O (zb HM2).lt ?d ?i (zb HM2)
      (fun x=>{ tmps:=#[.func (.yield lp) #[] #[],.pointer (some ⟨kb,0,none⟩),.pointer (some ⟨W.heap.size,0,none⟩),undef,u4,undef,.int .i32 a,.int .i32 x.1,.int .i32 x.2,.pointer (some ⟨kb,1,none⟩),.slice pa R.length pc,.int .i64 (R.length:Nat),.int .i64 (R.length:Nat),.bool false,u14,u15,u16,u17,u18,u19,u20,u21,u22,u23,.pointer (some ⟨kb,2,none⟩),.slice (some ⟨g,0,none⟩) S.length qc,.int .i64 (S.length:Nat),.int .i64 (j:Nat),.bool true,.pointer (some ⟨g,j,none⟩),.int .i32 a,.int .i32 a,.agg #[.slice ra rn rc],.func (.func 194) #[] #[.pointer (some ⟨kb2,0,none⟩)],.int .i32 x.1,.int .i32 x.2,undef,undef,undef,undef,undef,v41],defers:=[] }) ?assign ?body ?done
     case d=>
      rintro k (rfl |⟨h1,h2⟩)
      ·exact ⟨World.block_lt_of_cell? V2 _ (zb HK2),fun hk=>by have:=(zb HM).lt _ hk;omega⟩
      ·exact ⟨h2,fun hk=>by have:=(zb HM).lt _ hk;omega⟩
     case i=>
      intro pre O1 X X' hX hXX
      exact hX.keep (B2:=V2.heap.size) (zb HJ) (by omega) (zb HM2).kept.1 (by omega) (fun m hm=>(Array.getElem?_eq_some_iff.1 ((zb HM2).ms m hm).2).1) hXX
     case assign=>
      intro l x W K hK
      unfold kJ
      gi_wp2
      exact hK
     case body=>
      rintro l2 pre O1 x X hl2 hOl ⟨r,hr⟩ hX hpre
      obtain ⟨fn,tmps,assign,body,hy,hR⟩:=YieldAt.anyN (m':=n-1-1-1) (zb HY (R++(S.take j).flatMap Cs.shL++pre) O1 x X hX.j (by rw [List.append_assoc];exact List.IsPrefix.trans ((List.prefix_append_right_inj _).2 hpre) (zb HP)))
      simp only [kJ] at hy
      have hy0:=hX.y
      obtain ⟨xa,xc⟩:=x
      simp only [] at hy ⊢
      gi_wp2
      refine ⟨fun h=>by simp [Fence.wide] at h,RoundIn.mono hR ?_⟩
      rintro e X2 ⟨rfl,O',hJ2,hs2,hO2,hlt2⟩
      gi_wp2
      exact ⟨O',hX.yield hJ2 hs2 hO2 hlt2,hs2,hO2,hlt2⟩
     case done=>
      rintro Dm O1 X hDm hOD hX hKm
      gi_wp2
      refine ⟨⟨j+1,Dm :: ds,O1,_,_,_,_,_,_,_,_,rfl,by omega,List.nodup_cons.2 ⟨fun hm=>?_,hnd⟩,?_,?_⟩,?_⟩
      ·have:=(Array.getElem?_eq_some_iff.1 ((zb HM2).ms Dm hm).2).1
       omega
      ·intro m hm
       rcases List.mem_cons.1 hm with rfl |hm
       ·omega
       ·exact hds m hm
      ·refine ⟨by rw [List.append_nil,←zb HT];exact hX.j,hX.kept,hX.nO,hX.y,fun m hm=>?_,hX.lt⟩
       rcases List.mem_cons.1 hm with rfl |hm
       ·exact ⟨hOD,hKm⟩
       ·exact hX.ms m hm
      ·simp [intOf];omega
    ·obtain rfl:j=S.length:=by omega
     rw [List.take_length] at HM
     gi_wp2
     refine ZD rfl ds wr2 hnd (fun m hm=>((zb HM).ms m hm).2) (fun w' hw'=>⟨⟨_,rfl⟩,O,?_⟩)
     have:=(zb HM).j
     rw [List.append_nil] at this
     exact zb HJ _ _ _ _ this (hw'.mono (fun k _ hk=>⟨hds k hk,((zb HM).ms k hk).1⟩))
theorem Yg (neg:Bool)(v1 v2:Value)(w:World)(h1:∃ pa pn pc,v1 = .slice pa pn pc)(h2:∃ pa pn pc,v2 = .slice pa pn pc):Calls Tryz.prog 188 #[.agg #[.bool neg,v1,v2]] w fun e w'=>∃ kb,e = .returned (.func (.func 221) #[] #[.pointer (some ⟨kb,0,none⟩)])∧w.heap.size≤kb∧w'.cell? ⟨kb,1,none⟩=some v1∧w'.cell? ⟨kb,2,none⟩=some v2∧Only (fun _=>False) w w':=by
 obtain ⟨pa,pn,pc,rfl⟩:=h1
 obtain ⟨qa,qn,qc,rfl⟩:=h2
 have HO:Hid ((w.alloc (.cells #[.bool neg,.slice pa pn pc,.slice qa qn qc] 250)).cell? ⟨w.heap.size,1,none⟩=some (.slice pa pn pc)∧(w.alloc (.cells #[.bool neg,.slice pa pn pc,.slice qa qn qc] 250)).cell? ⟨w.heap.size,2,none⟩=some (.slice qa qn qc)∧Only (fun _=>False) w (w.alloc (.cells #[.bool neg,.slice pa pn pc,.slice qa qn qc] 250))):=⟨zm w _ rfl _ _ 1 _ rfl,zm w _ rfl _ _ 2 _ rfl,(Only.refl _ _).alloc _⟩
 go_enter Tryz.func188,Tryz.ntmps188
 go_wp2_with fail
 go_ret
 exact ⟨_,rfl,Nat.le_refl _,(zb HO).1,(zb HO).2.1,(zb HO).2.2⟩
theorem CellsAt.slice {w:World}{A:Nat→Prop}{v:Value}{n:Nat}{xs:List Value}(h:CellsAt w A v n xs):∃ pa pn pc,v = .slice pa pn pc:=by
 rcases h with ⟨rfl,_⟩ |⟨g,cap,rfl,_⟩<;>exact ⟨_,_,_,rfl⟩
theorem zaW (kb:Nat)(v1 v2:Value)(R:List (Int×Int))(S:List Int)(A:Nat→Prop)(w:World)(h:ClsBox w A kb v1 v2 R S)(_hA:∀ k,A k→k<w.heap.size)(hS:∀ a∈S,okSh a)(hR:R.length≤1000)(hSl:S.length≤1000) :
  Calls Tryz.prog 158 #[.func (.func 221) #[] #[.pointer (some ⟨kb,0,none⟩)]] w fun e w'=>∃ v,e = .returned v∧NewSet w w' v (fun c=>Cs.isCh c && Eqv.qL R S c):=by
 have eg:∀ args w,(callFunc 221 args).run Tryz.prog w = .ok (.enter 221 args) w:=enters_of Tryz.func221 (by kernel_rfl) rfl
 have hl:=Cs.Kl S (fun a ha=>(Cs.sh_ok a (hS a ha)).2.2)
 refine (VX _ _ (R++S.flatMap Cs.shL) (fun k=>k=kb∨(A k∧k<w.heap.size)) w eg (Km v1 v2 R S A kb w h hS hR hSl 8 (by omega)) (fun k hk=>?_) (by simp only [List.length_append];omega)).mono ?_
 ·rcases hk with rfl |hk
  ·exact World.block_lt_of_cell? w _ h.c1
  ·exact hk.2
 ·rintro e w' ⟨v,rfl,h1,h2⟩
  exact ⟨v,rfl,⟨h1.congr (fun c=>Cs.zbd (fun c=>Cs.QH c S (fun a ha=>(Cs.sh_ok a (hS a ha)).2.1)) c),h2⟩⟩
theorem JA (neg:Bool)(v1 v2:Value)(R:List (Int×Int))(S:List Int)(A:Nat→Prop)(w:World)(h1:CellsAt w A v1 R.length (rangeCells R))(h2:CellsAt w A v2 S.length (qr S))(hS:∀ a∈S,okSh a)(hR:R.length≤1000)(hSl:S.length≤1000) :
  Calls Tryz.prog 157 #[.agg #[.bool neg,v1,v2]] w fun e w'=>∃ v,e = .returned v∧NewSet w w' v (Cs.ja (Pro.tCls neg R S)):=by
 have hs1:=h1.slice
 have hs2:=h2.slice
 obtain ⟨pa,pn,pc,rfl⟩:=hs1
 obtain ⟨qa,qn,qc,rfl⟩:=hs2
 have H1:=ze h1
 have H2:=ze h2
 clear h1 h2
 go_enter Tryz.func157,Tryz.ntmps157
 go_wp2_with fail
 generalize hwB:w.alloc (.cells #[.bool neg,.slice pa pn pc,.slice qa qn qc] 250)=wB at *
 have hsB:wB.heap.size=w.heap.size+1:=by rw [←hwB];simp
 have HOB:Hid (Only (fun _=>False) w wB):=by rw [←hwB];exact (Only.refl _ _).alloc _
 have HN0:Hid (wB.cell? ⟨w.heap.size,0,none⟩=some (.bool neg)):=by rw [←hwB];exact zm w _ rfl _ _ 0 _ rfl
 clear hwB
 generalize hwA:wB.alloc (.cells #[.slice none 0 0] 153)=wA at *
 have HOA:Hid (Only (fun _=>False) wB wA):=by rw [←hwA];exact (Only.refl _ _).alloc _
 refine (Yg neg _ _ wA ⟨_,_,_,rfl⟩ ⟨_,_,_,rfl⟩).mono ?_
 rintro e w1 ⟨kb,rfl,hk,k1,k2,hO1⟩
 have hO01:Only (fun _=>False) w w1:=((zb HOB).trans (zb HOA)).trans hO1
 have HB1:Hid (ClsBox w1 (fun g=>A g∧g<w1.heap.size) kb (.slice pa pn pc) (.slice qa qn qc) R S):=⟨k1,k2,(((zb H1).keep hO01 (fun _ _ f=>f)).mono (fun g hg hA=>⟨hA,hg⟩)),(((zb H2).keep hO01 (fun _ _ f=>f)).mono (fun g hg hA=>⟨hA,hg⟩))⟩
 have HO1:=ze hO1
 clear hO01 hO1 k1 k2
 go_wp2_with fail
 refine (zaW kb _ _ R S _ w1 (zb HB1) (fun k hk=>hk.2) hS hR hSl).mono ?_
 rintro e w2 ⟨v,rfl,hN⟩
 obtain ⟨ra,rn,rc,rfl⟩:=hN.1.slice
 have HN2:=ze (hN.later (zb HO1))
 clear hN
 have HA3:Hid (Only (fun _=>False) w2 (w2.alloc (.cells #[.slice ra rn rc] 153))):=(Only.refl _ _).alloc _
 have c0:=(((zb HOA).trans ((zb HN2).2.trans (zb HA3))).cell (p:=⟨w.heap.size,0,none⟩) (by show _<_;simp only;omega) (fun f=>f)).trans (zb HN0)
 have HN3:Hid (NewSet wA (w2.alloc (.cells #[.slice ra rn rc] 153)) (.agg #[.slice ra rn rc]) (fun c=>Cs.isCh c && Eqv.qL R S c)):=⟨(zb HN2).1.keep (zb HA3) (fun _ _ f=>f),(zb HN2).2.trans (zb HA3)⟩
 subst hwA
 cases neg
 ·have hN:=(zb HN3).congr (Cs.zbf R S)
  obtain ⟨k1,k2⟩:=yL hN.2
  have HN:=ze (xi hN)
  clear hN
  rw [hsB] at k1 k2 HN
  go_wp2_with fail
  refine bodyPost_ret (results_cell_row rfl _ _ (w.heap.size+1) 153 #[.slice ra rn rc] (0,0) _ rfl (zb HN).2 Tryz.underlying153 rfl Tryz.infoSet) rfl ?_
  exact ⟨_,rfl,(zb HN).1.later (zb HOB)⟩
 ·go_wp2_with fail
  refine (ZA _ _ _ _ (zb HN3).1).mono ?_
  rintro e w4 ⟨v,rfl,hN4⟩
  obtain ⟨ta,tn,tc,rfl⟩:=hN4.1.slice
  have hN:=(NewSet.later hN4 (zb HN3).2).congr (Cs.zbe R S)
  obtain ⟨k1,k2⟩:=yL hN.2
  have HN:=ze (xi hN)
  clear hN hN4
  rw [hsB] at k1 k2 HN
  go_wp2_with fail
  refine bodyPost_ret (results_cell_row rfl _ _ (w.heap.size+1) 153 #[.slice ta tn tc] (0,0) _ rfl (zb HN).2 Tryz.underlying153 rfl Tryz.infoSet) rfl ?_
  exact ⟨_,rfl,(zb HN).1.later (zb HOB)⟩
def LeafOK (t:Sm.Tree):Prop:=(∀ c,t=Pro.xK c→okSh c)∧∀ neg R S,t=Pro.tCls neg R S→(∀ a∈S,okSh a)∧R.length≤1000∧S.length≤1000
theorem Kn (v:Value)(t:Sm.Tree)(A:Nat→Prop)(w:World)(h:LeafAt w A v t)(hn:∀ c,t≠Pro.tAsr c)(hok:LeafOK t) :
  Calls Tryz.prog 115 #[v] w fun e w'=>∃ v',e = .returned v'∧NewSet w w' v' (Cs.ja t):=by
 have HOA:Hid (Only (fun _=>False) w (w.alloc (.cells #[.slice none 0 0] 153))):=(Only.refl _ _).alloc _
 rcases h with ⟨c,e,_⟩ |⟨rfl,rfl⟩ |⟨c,rfl,rfl⟩ |⟨c,rfl,rfl⟩ |⟨neg,R,S,v1,v2,rfl,rfl,h3,h4⟩
 ·exact absurd e (hn c)
 ·have a1:=Tryz.as11
  go_enter Tryz.func115,Tryz.ntmps115
  go_wp2_with fail
  clear a1
  refine (Jz _).mono ?_
  rintro e w1 ⟨v,rfl,hN1⟩
  go_wp2_with fail
  refine (ZA v _ _ w1 hN1.1).mono ?_
  rintro e w2 ⟨v,rfl,hN2⟩
  have hN:=((NewSet.later hN2 hN1.2).later ((Only.refl (fun _=>False) (w.alloc (.cells #[.slice none 0 0] 153))).alloc _)).congr Cs.any_P
  clear hN1 hN2
  obtain ⟨qa,qn,qc,rfl⟩:=hN.1.slice
  obtain ⟨k1,k2⟩:=yL hN.2
  have HN:=ze (xi hN)
  clear hN
  go_wp2_with fail
  refine bodyPost_ret (results_cell_row rfl _ _ w.heap.size 153 #[.slice qa qn qc] (0,0) _ rfl (zb HN).2 Tryz.underlying153 rfl Tryz.infoSet) rfl ?_
  exact ⟨_,rfl,(zb HN).1⟩
 ·have a1:=Tryz.as21
  have a2:=Tryz.as22
  go_enter Tryz.func115,Tryz.ntmps115
  go_wp2_with fail
  clear a1 a2
  have hL:=jV (.slice (some ⟨w.heap.size+1,0,none⟩) 1 1) [(c,c)] (fun g=>g=w.heap.size+1) _ (ZB (w.alloc (.cells #[.slice none 0 0] 153)) (w.heap.size+1) (by simp) [(c,c)] 263) (by simp)
  refine Calls.mono hL ?_
  clear hL
  rintro e w2 ⟨v,rfl,hN⟩
  have hN:=(NewSet.later hN ((Only.refl (fun _=>False) (w.alloc (.cells #[.slice none 0 0] 153))).alloc _)).congr (Cs.char_P c)
  obtain ⟨qa,qn,qc,rfl⟩:=hN.1.slice
  obtain ⟨k1,k2⟩:=yL hN.2
  have HN:=ze (xi hN)
  clear hN
  go_wp2_with fail
  refine bodyPost_ret (results_cell_row rfl _ _ w.heap.size 153 #[.slice qa qn qc] (0,0) _ rfl (zb HN).2 Tryz.underlying153 rfl Tryz.infoSet) rfl ?_
  exact ⟨_,rfl,(zb HN).1⟩
 ·have a1:=Tryz.as31
  have a2:=Tryz.as32
  have a3:=Tryz.as33
  go_enter Tryz.func115,Tryz.ntmps115
  go_wp2_with fail
  clear a1 a2 a3
  refine (wT c (hok.1 c rfl) _).mono ?_
  rintro e w1 ⟨v,rfl,hN1⟩
  have hN:=hN1.congr (Cs.short_P c)
  clear hN1
  obtain ⟨qa,qn,qc,rfl⟩:=hN.1.slice
  obtain ⟨k1,k2⟩:=yL hN.2
  have HN:=ze (xi hN)
  clear hN
  go_wp2_with fail
  refine bodyPost_ret (results_cell_row rfl _ _ w.heap.size 153 #[.slice qa qn qc] (0,0) _ rfl (zb HN).2 Tryz.underlying153 rfl Tryz.infoSet) rfl ?_
  exact ⟨_,rfl,(zb HN).1⟩
 ·have a1:=Tryz.as41
  have a2:=Tryz.as42
  have a3:=Tryz.as43
  have a4:=Tryz.as44
  obtain ⟨h5,h6,h7⟩:=hok.2 neg R S rfl
  have hs1:=h3.slice
  have hs2:=h4.slice
  obtain ⟨pa,pn,pc,rfl⟩:=hs1
  obtain ⟨ua,un,uc,rfl⟩:=hs2
  have H3:=ze h3
  have H4:=ze h4
  clear h3 h4
  go_enter Tryz.func115,Tryz.ntmps115
  go_wp2_with fail
  clear a1 a2 a3 a4
  have hO2:Only (fun _=>False) w ((w.alloc (.cells #[.slice none 0 0] 153)).alloc (.cells #[.bool neg,.slice pa pn pc,.slice ua un uc] 250)):=((Only.refl _ _).alloc _).alloc _
  refine (JA neg _ _ R S A _ ((zb H3).keep hO2 (fun _ _ f=>f)) ((zb H4).keep hO2 (fun _ _ f=>f)) h5 h6 h7).mono ?_
  clear hO2
  rintro e w2 ⟨v,rfl,hN⟩
  have hN:=NewSet.later hN ((Only.refl (fun _=>False) (w.alloc (.cells #[.slice none 0 0] 153))).alloc _)
  obtain ⟨qa,qn,qc,rfl⟩:=hN.1.slice
  obtain ⟨k1,k2⟩:=yL hN.2
  have HN:=ze (xi hN)
  clear hN
  go_wp2_with fail
  refine bodyPost_ret (results_cell_row rfl _ _ w.heap.size 153 #[.slice qa qn qc] (0,0) _ rfl (zb HN).2 Tryz.underlying153 rfl Tryz.infoSet) rfl ?_
  exact ⟨_,rfl,(zb HN).1⟩
end
section
open Go.RowKit
open Sm (Stp Tree)
namespace Prg
def setP (s:Stp)(c:Int):Bool:=decide (s.kind=1) && Cs.ja s.leaf c
def jF (b e p n:Bool)(a:Int):Bool:=if a=0 then b else if a=1 then e else if a=2 then p != n else p == n
def befB (W:Int→Bool)(L:List (Int×Int))(i:Nat):Bool:=decide (i≠0) && W (Pro.zh L (i-1))
def aftB (W:Int→Bool)(L:List (Int×Int))(i:Nat):Bool:=decide (i≠L.length) && W (Pro.zh L i)
end Prg
def StepRow (w:World)(A:Nat→Prop)(g:Nat)(N:List Stp):Prop:=∀ (k:Nat) s,N[k]?=some s→w.cell? ⟨g,k*5,none⟩=some (.int .i64 (s.kind:Nat))∧(∃ sv,w.cell? ⟨g,k*5+1,none⟩=some sv∧SetAt w A (.agg #[sv]) (Prg.setP s))∧w.cell? ⟨g,k*5+2,none⟩=some (.int .i64 s.asr)∧w.cell? ⟨g,k*5+3,none⟩=some (.int .i64 (s.next:Nat))∧w.cell? ⟨g,k*5+4,none⟩=some (.int .i64 (s.other:Nat))
theorem StepRow.keep {P A:Nat→Prop}{w w':World}{g:Nat}{N:List Stp}(h:StepRow w A g N)(k:Only P w w')(hn:∀ g,A g→¬P g)(hg:A g):StepRow w' A g N:=fun j s hj=>by
 obtain ⟨h0,⟨sv,h1,h1'⟩,h2,h3,h4⟩:=h j s hj
 have hng:=hn g hg
 exact ⟨zf k _ _ h0 hng,⟨sv,zf k _ _ h1 hng,h1'.keep k hn⟩,zf k _ _ h2 hng,zf k _ _ h3 hng,zf k _ _ h4 hng⟩
structure ProgAt (w:World)(A:Nat→Prop)(pb:Nat)(N:List Stp)(st:Nat)(W:Int→Bool):Prop where
 own:A pb
 c0:∃ g cap,w.cell? ⟨pb,0,none⟩=some (.slice (some ⟨g,0,none⟩) N.length cap)∧A g∧N.length≤cap∧StepRow w A g N
 c1:w.cell? ⟨pb,1,none⟩=some (.int .i64 (st:Nat))
 c2:∃ sv,w.cell? ⟨pb,2,none⟩=some sv∧SetAt w A (.agg #[sv]) W
 len:N.length≤300
 fit:∀ (k:Nat) s,N[k]?=some s→s.next<N.length∧s.other<N.length
 stl:st<N.length
theorem ProgAt.keep {P A:Nat→Prop}{w w':World}{pb:Nat}{N:List Stp}{st:Nat}{W:Int→Bool}(h:ProgAt w A pb N st W)(k:Only P w w')(hn:∀ g,A g→¬P g):ProgAt w' A pb N st W:=by
 obtain ⟨g,cap,h1,h2,h3,h4⟩:=h.c0
 obtain ⟨sv,h5,h6⟩:=h.c2
 exact ⟨h.own,⟨g,cap,zf k _ _ h1 (hn _ h.own),h2,h3,h4.keep k hn h2⟩,zf k _ _ h.c1 (hn _ h.own),⟨sv,zf k _ _ h5 (hn _ h.own),h6.keep k hn⟩,h.len,h.fit,h.stl⟩
def LetSl (w:World)(v:Value)(L:List (Int×Int)):Prop:=(v = .slice none 0 0∧L=[])∨∃ g cap,v = .slice (some ⟨g,0,none⟩) L.length cap∧L.length≤cap∧LetRow w g L
theorem LetSl.keep {w w':World}{v:Value}{L:List (Int×Int)}(h:LetSl w v L)(k:Only (fun _=>False) w w'):LetSl w' v L:=by
 rcases h with h |⟨g,cap,h1,h2,h3⟩
 ·exact .inl h
 ·exact .inr ⟨g,cap,h1,h2,h3.keep k (fun f=>f)⟩
theorem zaX (b e p n:Bool)(a:Int)(w:World) :
  Calls Tryz.prog 144 #[.agg #[.bool b,.bool e,.bool p,.bool n],.int .i64 a] w fun x w'=>x = .returned (.bool (Prg.jF b e p n a))∧Only (fun _=>False) w w':=by
 have HO:Hid (Only (fun _=>False) w (w.alloc (.cells #[.bool b,.bool e,.bool p,.bool n] 223))):=(Only.refl _ _).alloc _
 unfold Prg.jF
 by_cases h0:a=0
 ·subst h0
  go_enter Tryz.func144,Tryz.ntmps144
  go_wp2_with fail
  go_ret
  exact ⟨rfl,zb HO⟩
 ·by_cases h1:a=1
  ·subst h1
   go_enter Tryz.func144,Tryz.ntmps144
   go_wp2_with fail
   go_ret
   exact ⟨rfl,zb HO⟩
  ·by_cases h2:a=2
   ·subst h2
    go_enter Tryz.func144,Tryz.ntmps144
    go_wp2_with fail
    go_ret
    exact ⟨rfl,zb HO⟩
   ·simp only [h0,h1,h2,if_false]
    go_enter Tryz.func144,Tryz.ntmps144
    go_wp2_with fail
    go_ret
    exact ⟨rfl,zb HO⟩
end
section
open Sm (Tree)
namespace Pro
def LnOK:Nat→Tree→Prop
 |0,_=>True
 |f+1,T=>(T.kind=4→T.rs.length≤1000∧T.ss.length≤1000)∧∀ t∈T.kids,LnOK f t
section
variable {L:List (Int×Int)} {len:Int}
theorem addR_ln (n:Nat)(R:List (Int×Int)):(addR L len n R).length≤R.length+1:=by
 unfold addR
 split
 ·simp
 ·split<;>simp
theorem addS_ln (n:Nat)(S:List Int):(addS L len n S).length≤S.length+1:=by
 unfold addS
 split
 ·simp
 ·split<;>simp
theorem QI:∀ (f n:Nat)(R:List (Int×Int))(S:List Int),(xL L len f n R S).1.length≤R.length+f∧(xL L len f n R S).2.length≤S.length+f
 |0,_,R,S=>⟨Nat.le_refl _,Nat.le_refl _⟩
 |f+1,n,R,S=>by
  unfold xL
  split
  ·exact ⟨Nat.le_add_right _ _,Nat.le_add_right _ _⟩
  ·have h1:=addR_ln (L:=L) (len:=len) n R
   have h2:=addS_ln (L:=L) (len:=len) n S
   have h3:=QI f (addO L len n).n (addR L len n R) (addS L len n S)
   omega
theorem WX (c:Int):∀ f,LnOK f (xY c)
 |0=>trivial
 |f+1=>⟨fun e=>by simp [xY] at e,fun t ht=>by simp [xY] at ht⟩
theorem ln_short (c:Int):∀ f,LnOK f (xK c)
 |0=>trivial
 |f+1=>⟨fun e=>by simp [xK] at e,fun t ht=>by simp [xK] at ht⟩
theorem ln_any:∀ f,LnOK f tAny
 |0=>trivial
 |f+1=>⟨fun e=>by simp [tAny] at e,fun t ht=>by simp [tAny] at ht⟩
theorem ln_asr (a:Int):∀ f,LnOK f (tAsr a)
 |0=>trivial
 |f+1=>⟨fun e=>by simp [tAsr] at e,fun t ht=>by simp [tAsr] at ht⟩
theorem JB {T:Tree}(hk:5≤T.kind)(h:∀ t∈T.kids,∀ f,LnOK f t):∀ f,LnOK f T
 |0=>trivial
 |f+1=>⟨fun e=>by omega,fun t ht=>h t ht f⟩
theorem zaY (hL:L.length≤400)(n:Nat):∀ f,LnOK f (xh L len n)
 |0=>trivial
 |f+1=>⟨fun _=>by
   have:=QI (L:=L) (len:=len) (L.length+1-n) (if zh L (n+1)=94 then n+2 else n+1) [] []
   simp only [List.length_nil] at this
   simp only [xh,tCls]
   omega,fun t ht=>by simp [xh,tCls] at ht⟩
theorem Ko (hL:L.length≤400){DT:Nat→Tree}(hD:∀ n f,LnOK f (DT n))(n f:Nat):LnOK f (yH L len DT n):=by
 unfold yH
 split
 ·exact hD n f
 ·split
  ·exact zaY hL n f
  ·split
   ·unfold oneT
    split
    ·exact ln_short _ f
    ·exact WX _ f
   ·split
    ·exact ln_any f
    ·exact WX _ f
theorem termT_ln (hL:L.length≤400){D:Nat→Out}{DT:Nat→Tree}(hD:∀ n f,LnOK f (DT n))(n f:Nat):LnOK f (xR L len D DT n):=by
 unfold xR
 split
 ·exact ln_asr _ f
 ·split
  ·exact Ko hL hD n f
  ·refine JB (by simp [tRep]) (fun t ht f=>?_) f
   obtain rfl:t=yH L len DT n:=by simpa [tRep] using ht
   exact Ko hL hD n f
theorem QJ (hL:L.length≤400){D:Nat→Out}{DT:Nat→Tree}(hD:∀ n f,LnOK f (DT n)):∀ (g:Nat) (ts:List Tree) (n:Nat),(∀ t∈ts,∀ f,LnOK f t)→∀ t∈qg L len D DT g ts n,∀ f,LnOK f t
 |0,_,_,h=>h
 |g+1,ts,n,h=>by
  unfold qg
  split
  ·exact h
  ·refine QJ hL hD g _ _ (fun t ht=>?_)
   rcases List.mem_append.1 ht with ht |ht
   ·exact h t ht
   ·obtain rfl:=List.mem_singleton.1 ht
    exact fun f=>termT_ln hL hD n f
theorem zaZ (hL:L.length≤400){D:Nat→Out}{DT:Nat→Tree}(hD:∀ n f,LnOK f (DT n))(n f:Nat):LnOK f (xj L len D DT n):=
 JB (by simp [xj,tSeq]) (QJ hL hD _ [] n (by simp)) f
theorem WY (hL:L.length≤400){D:Nat→Out}{DT:Nat→Tree}(hD:∀ n f,LnOK f (DT n)):∀ (g:Nat) (ts:List Tree) (n:Nat),(∀ t∈ts,∀ f,LnOK f t)→∀ t∈altT L len D DT g ts n,∀ f,LnOK f t
 |0,_,_,h=>h
 |g+1,ts,n,h=>by
  have h2:∀ t∈ts++[xj L len D DT n],∀ f,LnOK f t:=fun t ht=>by
   rcases List.mem_append.1 ht with ht |ht
   ·exact h t ht
   ·obtain rfl:=List.mem_singleton.1 ht
    exact fun f=>zaZ hL hD n f
  unfold altT
  split
  ·exact WY hL hD g _ _ h2
  ·exact h2
theorem WZ (hL:L.length≤400){D:Nat→Out}{DT:Nat→Tree}(hD:∀ n f,LnOK f (DT n))(n f:Nat):LnOK f (altQ L len D DT n):=
 JB (by simp [altQ,tAlt]) (WY hL hD _ [] n (by simp)) f
theorem Kp (hL:L.length≤400):∀ (r n f:Nat),LnOK f (xF L len r n)
 |0,_,f=>ln_any f
 |r+1,_,f=>WZ hL (fun n f=>Kp hL r n f) _ f
theorem whole_ln (hL:L.length≤400)(r n f:Nat):LnOK f (altQ L len (zC L len r) (xF L len r) n):=WZ hL (fun n f=>Kp hL r n f) n f
end
end Pro
end
section
open Go.RowKit
open Sm (Stp Tree)
set_option maxHeartbeats 2000000
set_option maxRecDepth 1000000
def yr (Z:List (Stp×Value)):List Value:=Z.flatMap fun z=>[.int .i64 (z.1.kind:Nat),z.2,.int .i64 z.1.asr,.int .i64 (z.1.next:Nat),.int .i64 (z.1.other:Nat)]
theorem Xt (l m:List (Stp×Value)):yr (l++m)=yr l++yr m:=by simp [yr]
theorem Kq (l:List (Stp×Value)):(yr l).length=l.length*5:=by
 induction l with
 |nil=>rfl
 |cons x l ih=>simp [yr] at ih ⊢;omega
theorem Tryz.infoStep:(Tryz.prog.info? 156).map (fun i=>(i.zero,i.size,i.bytes))=some (some (.agg #[.int .i64 0,.slice none 0 0,.int .i64 0,.int .i64 0,.int .i64 0]),5,56):=by kernel_rfl
structure BldAt (w:World)(bb:Nat)(Z:List (Stp×Value)):Prop where
 ex:∃ sv,w.cell? ⟨bb,0,none⟩=some sv∧w.ownsRow (bb+1) 156 5 sv Z.length (yr Z)∧∀ z∈Z,SetAt w (fun g=>bb<g∧sv.ownBlock≠some g) (.agg #[z.2]) (Prg.setP z.1)
 fr:w.frozen? ⟨bb,0,none⟩=false
theorem BldAt.lt {w:World}{bb:Nat}{Z:List (Stp×Value)}(h:BldAt w bb Z):bb<w.heap.size:=by
 obtain ⟨sv,h1,_⟩:=h.ex
 exact World.block_lt_of_cell? w _ h1
theorem BldAt.young {w w':World}{bb:Nat}{Z:List (Stp×Value)}(h:BldAt w bb Z)(o:Only (fun _=>False) w w'):BldAt w' bb Z:=by
 obtain ⟨sv,h1,h2,h3⟩:=h.ex
 exact ⟨⟨sv,(o.cell (p:=⟨bb,0,none⟩) h.lt (fun f=>f)).trans h1,zo h2 o (fun _ _ f=>f),fun z hz=>(h3 z hz).keep o (fun _ _ f=>f)⟩,(o.frozen (p:=⟨bb,0,none⟩) h.lt (fun f=>f)).trans h.fr⟩
theorem SetAt.none (w:World)(A:Nat→Prop)(S:Int→Bool)(h:∀ c,S c=false):SetAt w A (.agg #[.slice none 0 0]) S:=⟨_,[],rfl,.inl ⟨rfl,rfl⟩,⟨List.Pairwise.nil,fun x hx=>by cases hx⟩,fun c=>by rw [h c];rfl⟩
theorem five_new (W:World)(n:Nat)(hn:W.heap.size=n)(a b c d e:Value)(T:TypeId):∀ j u,[a,b,c,d,e][j]?=some u→(W.alloc (.cells #[a,b,c,d,e] T)).cell? ((⟨n,0,none⟩:Addr).add j)=some u:=by
 intro j u hj
 have e0:(⟨n,0,none⟩:Addr).add j=⟨n,j,none⟩:=by unfold Addr.add;split<;>simp_all
 rw [e0]
 exact zm W n hn _ _ _ _ (by simpa using hj)
theorem YV {P:Program}{ops:Array Oper}{o:Oper}{a:Act}{w:World}{K:Act→World→Prop}{Q:Exit→Act→World→Prop}{E:Prop}(hgd:o.guard=none)(s x:Operand)(t:TypeId)
  (ho:o.op = .call { callee:=.builtin .append,args:=#[s,x],argTypes:=#[t,t] })
  (base:Nat) (e:TypeId) (i:TypeInfo) (z:Value) (size bytes:Nat) (ht:P.underlying t=some (.slice e)) (hi:P.info? e=some i) (hz:i.zero=some z)
  (hsize:i.size=size) (hby:i.bytes=bytes) (hzs:z.cells.size=size) (hsz:0<size)
  (v:Value) (n:Nat) (xs:List Value) (hs:a.eval s=v) (hown:w.ownsRow base e size v n xs)
  (ad:Addr) (m c:Nat) (news:List Value) (hx:a.eval x = .slice (some ad) m c) (hl:news.length=m*size) (hnews:∀ j u,news[j]?=some u→w.cell? (ad.add j)=some u) (h1:∀ u∈news,u.oneCell'=true)
  (hm:0<m) (h63:n+m≤maxLen) (hbytes:(n+m)*bytes≤140737488355328) (hbase:base≤w.heap.size)
  (h:∀ v' w',w'.ownsRow base e size v' (n+m) (xs++news)→w.grownBy w' v.ownBlock→(∀ k,v'.ownBlock=some k→v.ownBlock=some k∨w.heap.size≤k)→K (a.put o.dst v') w'):if Region.wanted o (yielded ops a.tmps)=true then Oper.wp P o a w K Q else E:=by
 have hgr:∀ w' row,w.grownBy w' none→w.grownBy w' row:=fun w' row g=>⟨g.os,g.tape,g.output,g.size,fun k hk _=>g.block k hk (by simp)⟩
 rcases hown.2 with ⟨rfl,rfl⟩ |⟨g,cap,cur,rfl,hbg,hg,hnc,hcm,hcs,htake⟩
 ·have hxs:xs=[]:=List.eq_nil_of_length_eq_zero (by simpa using hown.1)
  subst hxs
  exact step_append_grows hgd s x t ho e i z size bytes ht hi hz hsize hby hzs hsz none 0 0 [] hs (fun _=>⟨rfl,rfl⟩) (by simp) (fun b hb=>by cases hb) ad m c news hx hl hnews h1 (by omega) h63 hbytes (fun v' w' h2 h3=>h v' w' (yi h2 hbase) (hgr _ _ h3) (fun k hk=>.inr (h2.lt k hk).1))
 ·by_cases hroom:n+m≤cap
  ·have hw:Region.wanted o (yielded ops a.tmps)=true:=by simp [Region.wanted,hgd]
   rw [if_pos hw]
   obtain ⟨w',hrun,r1,r2⟩:=run_append_fits (P:=P) w base t o.type e i size ht hi hsize g n cap xs hown ad m c news hl hnews h1 hroom
   unfold Oper.wp
   simp [execOp,ho,resolve,invoke,builtin,hs,hx,hrun,Result.andThen]
   exact h _ _ r1 r2 (fun k hk=>.inl hk)
  ·exact step_append_grows hgd s x t ho e i z size bytes ht hi hz hsize hby hzs hsz (some ⟨g,0,none⟩) n cap xs hs (fun hh=>by cases hh) hown.1 (fun b hb=>by cases hb;exact hown.cells (g:=g) rfl) ad m c news hx hl hnews h1 (by omega) h63 hbytes (fun v' w' h2 h3=>h v' w' (yi h2 hbase) (hgr _ _ h3) (fun k hk=>.inr (h2.lt k hk).1))
def OwnBd (w:World)(bb k:Nat):Prop:=k=bb∨∃ sv,w.cell? ⟨bb,0,none⟩=some sv∧sv.ownBlock=some k
structure BldTo (w w':World)(bb:Nat)(Z':List (Stp×Value)):Prop where
 at':BldAt w' bb Z'
 only:Only (fun k=>bb≤k) w w'
 own:Only (OwnBd w bb) w w'
 sep:∀ k,OwnBd w' bb k→OwnBd w bb k∨w.heap.size≤k
theorem W4 (bb:Nat)(Z:List (Stp×Value))(s:Stp)(x:Value)(B:Nat)(w:World)(h:BldAt w bb Z)(hx:SetAt w (fun g=>B≤g) (.agg #[x]) (Prg.setP s))(hB:∀ sv,w.cell? ⟨bb,0,none⟩=some sv→∀ k,sv.ownBlock=some k→k<B)(hbB:bb<B)(hl:Z.length≤1000) :
  Calls Tryz.prog 60 #[.pointer (some ⟨bb,0,none⟩),.agg #[.int .i64 (s.kind:Nat),x,.int .i64 s.asr,.int .i64 (s.next:Nat),.int .i64 (s.other:Nat)]] w fun e w'=>e = .returned (.int .i64 (Z.length:Nat))∧BldTo w w' bb (Z++[(s,x)]):=by
 obtain ⟨i0,hi,hz0,hz1,hz2⟩:=info_parts Tryz.infoStep
 obtain ⟨sv,h1,h2,h3⟩:=h.ex
 have h0:=h.fr
 have hblt:=h.lt
 obtain ⟨pa,pn,pc,rfl⟩:=zq h2
 obtain ⟨xa,xn,xc,hxe⟩:=hx.slice
 have hxx:x = .slice xa xn xc:=by injection hxe with e;injection e with e;injection e
 subst hxx
 have Hown:=ze h2
 have h2':=h2
 have HX:=ze hx
 have H3:=ze h3
 have HB:=ze (hB _ h1)
 clear h h2 h3 hx hB
 go_enter Tryz.func60,Tryz.ntmps60
 have hnb:(Value.slice pa pn pc).ownBlock≠some bb:=fun e=>by have:=(zg h2' _ e).1;omega
 clear h2'
 have HOA:Hid (Only (fun _=>False) w (w.alloc (.cells #[.int .i64 (s.kind:Nat),.slice xa xn xc,.int .i64 s.asr,.int .i64 (s.next:Nat),.int .i64 (s.other:Nat)] 156))):=(Only.refl _ _).alloc _
 have k1:=((zb HOA).cell (p:=⟨bb,0,none⟩) hblt (fun f=>f)).trans h1
 have k0:=((zb HOA).frozen (p:=⟨bb,0,none⟩) hblt (fun f=>f)).trans h0
 go_wp2_with fail
 go_region_law (refine YV rfl (.tmp 9) (.tmp 11) 146 rfl (bb+1) 156 i0 (.agg #[.int .i64 0,.slice none 0 0,.int .i64 0,.int .i64 0,.int .i64 0]) 5 56 Tryz.underlying146 hi hz0 hz1 hz2 rfl (by decide) (.slice pa pn pc) _ (yr Z) (by simp [Act.eval]) (zo (zb Hown) ((((Only.refl (fun _=>False) w).alloc _).drew).alloc _) (fun _ _ f=>f)) ⟨w.heap.size+1,0,none⟩ 1 1 [.int .i64 (s.kind:Nat),.slice xa xn xc,.int .i64 s.asr,.int .i64 (s.next:Nat),.int .i64 (s.other:Nat)] (by simp [Act.eval]) rfl (five_new _ (w.heap.size+1) (by simp) _ _ _ _ _ _) (fun u hu=>by simp at hu;rcases hu with rfl |rfl |rfl |rfl |rfl<;>rfl) (by decide) (by unfold maxLen;omega) (by omega) (by simp;omega) ?_;intro v' w4 hown' hgrow hsep;obtain ⟨ya,yn,yc,rfl⟩:=zq hown';have oW:Only (fun k=>(Value.slice pa pn pc).ownBlock=some k) w w4:=((((Only.refl _ w).alloc _).drew).alloc _).grown hgrow (fun k hk=>.inl hk);have m1:=(oW.cell (p:=⟨bb,0,none⟩) hblt hnb).trans h1;have m0:=(oW.frozen (p:=⟨bb,0,none⟩) hblt hnb).trans h0;have HO4:=ze hown';have HW4:=ze oW;have HSe:=ze hsep;clear hown' oW hgrow hsep)
 all_goals
  have hyn:yn=Z.length+1:=by rcases (zb HO4).2 with ⟨e1,e2⟩ |⟨g',cap',cur,e1,_⟩<;>cases e1<;>first |rfl |omega
  subst hyn
  have HF:Hid (BldTo w (w4.setCell ⟨bb,0,none⟩ (.slice ya (Z.length+1) yc)) bb (Z++[(s,.slice xa xn xc)])):=by
   have oS:Only (fun k=>k=bb) w4 (w4.setCell ⟨bb,0,none⟩ (.slice ya (Z.length+1) yc)):=(Only.refl (fun k=>k=bb) w4).setCell (p:=⟨bb,0,none⟩) (.inl rfl) _
   have hnb4:∀ k,(Value.slice ya (Z.length+1) yc).ownBlock=some k→k≠bb:=fun k hk e=>by have:=(zg (zb HO4) k hk).1;omega
   refine ⟨⟨⟨_,World.cell?_setCell_same _ _ _ m1,?_,fun z hz=>?_⟩,(zi _ _ _ _).trans m0⟩,?_,?_,?_⟩
   ·rw [List.length_append,Xt]
    exact zo (zb HO4) oS (fun k hk e=>hnb4 k hk e)
   ·have key:SetAt w4 (fun g=>bb<g∧(Value.slice ya (Z.length+1) yc).ownBlock≠some g) (.agg #[z.2]) (Prg.setP z.1):=by
     rcases List.mem_append.1 hz with hz |hz
     ·have h9:SetAt w (fun g=>(bb<g∧(Value.slice pa pn pc).ownBlock≠some g)∧g<w.heap.size) (.agg #[z.2]) (Prg.setP z.1):=(zb H3 z hz).mono (fun g hg hA=>⟨hA,hg⟩)
      refine (h9.keep (zb HW4) (fun g hg=>hg.1.2)).mono (fun g _ hg=>⟨hg.1.1,fun e=>?_⟩)
      rcases zb HSe g e with h |h
      ·exact hg.1.2 h
      ·have:=hg.2;simp at h;omega
     ·obtain rfl:=List.mem_singleton.1 hz
      have h9:SetAt w (fun g=>B≤g∧g<w.heap.size) (.agg #[.slice xa xn xc]) (Prg.setP s):=(zb HX).mono (fun g hg hA=>⟨hA,hg⟩)
      refine (h9.keep (zb HW4) (fun g hg e=>by have:=zb HB g e;omega)).mono (fun g _ hg=>⟨by omega,fun e=>?_⟩)
      rcases zb HSe g e with h |h
      ·have:=zb HB g h;omega
      ·have:=hg.2;simp at h;omega
    exact key.keep oS (fun g hg e=>by omega)
   ·have o1:Only (fun k=>bb≤k) w w4:=(zb HW4).mono (fun k _ hk=>by have:=(zg (zb Hown) k hk).1;omega)
    exact o1.setCell (p:=⟨bb,0,none⟩) (.inl (Nat.le_refl _)) _
   ·have o1:Only (OwnBd w bb) w w4:=(zb HW4).mono (fun k _ hk=>.inr ⟨_,h1,hk⟩)
    exact o1.setCell (p:=⟨bb,0,none⟩) (.inl (.inl rfl)) _
   ·rintro k (rfl |⟨sv,e1,e2⟩)
    ·exact .inl (.inl rfl)
    ·cases (World.cell?_setCell_same _ _ _ m1).symm.trans e1
     rcases zb HSe k e2 with h |h
     ·exact .inl (.inr ⟨_,h1,h⟩)
     ·exact .inr (by simp at h;omega)
  go_wp2_with fail
  go_ret
  exact ⟨by simp,zb HF⟩
end
section
open Go.RowKit
open Sm (Stp Tree bld ym bSeq yE bOpt xf)
set_option maxHeartbeats 1000000
structure PrtOK (f:Nat)(w:World)(bb:Nat)(v:Value)(t:Tree):Prop where
 at':PartAt f w (fun g=>g<bb) v t
 sh:Pro.ShOK f t
 ln:Pro.LnOK f t
theorem PrtOK.keep {f:Nat}{w w':World}{bb:Nat}{v:Value}{t:Tree}(h:PrtOK f w bb v t)(o:Only (fun k=>bb≤k) w w'):PrtOK f w' bb v t:=⟨PartAt.keep o (fun g hg hp=>by omega) f v t h.at',h.sh,h.ln⟩
def sts (Z:List (Stp×Value)):List Stp:=Z.map Prod.fst
theorem zX (Z:List (Stp×Value)):(sts Z).length=Z.length:=by simp [sts]
def kQ (w:World)(bb:Nat)(r:Nat×List Stp)(e:Ending)(w':World):Prop:=∃ Z',e = .returned (.int .i64 (r.1:Nat))∧sts Z'=r.2∧BldTo w w' bb Z'
def BOK (f bb:Nat):Prop:=∀ (v:Value) (t:Tree) (nx:Nat) (Z:List (Stp×Value)) (w:World),PrtOK f w bb v t→BldAt w bb Z→nx<Z.length→(bld f t nx (sts Z)).2.length≤1000→
 Calls Tryz.prog 61 #[.pointer (some ⟨bb,0,none⟩),v,.int .i64 (nx:Nat)] w (kQ w bb (bld f t nx (sts Z)))
theorem BldTo.refl {w:World}{bb:Nat}{Z:List (Stp×Value)}(h:BldAt w bb Z):BldTo w w bb Z:=⟨h,Only.refl _ _,Only.refl _ _,fun _ h=>.inl h⟩
theorem BldTo.trans {a b c:World}{bb:Nat}{Y Z:List (Stp×Value)}(h:BldTo a b bb Y)(k:BldTo b c bb Z):BldTo a c bb Z:=
 ⟨k.at',h.only.trans k.only,⟨k.own.os.trans h.own.os,k.own.tape.trans h.own.tape,k.own.output.trans h.own.output,Nat.le_trans h.own.size k.own.size,fun j hj hn=>(k.own.block j (Nat.lt_of_lt_of_le hj h.own.size) (fun hp=>by
  rcases h.sep j hp with h |h
  ·exact hn h
  ·omega)).trans (h.own.block j hj hn)⟩,fun j hj=>by
  rcases k.sep j hj with h1 |h1
  ·exact h.sep j h1
  ·exact .inr (Nat.le_trans h.own.size h1)⟩
theorem BldTo.young {a b:World}{bb:Nat}{Z:List (Stp×Value)}(h:BldAt a bb Z)(o:Only (fun _=>False) a b):BldTo a b bb Z:=
 ⟨h.young o,o.mono (fun _ _ f=>f.elim),o.mono (fun _ _ f=>f.elim),fun k hk=>by
  rcases hk with h1 |⟨sv,h1,h2⟩
  ·exact .inl (.inl h1)
  ·exact .inl (.inr ⟨sv,(o.cell (p:=⟨bb,0,none⟩) h.lt (fun f=>f)).symm.trans h1,h2⟩)⟩
theorem BldTo.cell {a b:World}{bb:Nat}{Z:List (Stp×Value)}(h:BldTo a b bb Z){p:Addr}(hp:p.block<a.heap.size)(hn:¬OwnBd a bb p.block):b.cell? p=a.cell? p:=h.own.cell hp hn
theorem OwnBd.lt {w:World}{bb k:Nat}{Z:List (Stp×Value)}(h:BldAt w bb Z)(hk:OwnBd w bb k):k<w.heap.size:=by
 rcases hk with rfl |⟨sv,h1,h2⟩
 ·exact h.lt
 ·obtain ⟨sv',h3,h4,_⟩:=h.ex
  cases h1.symm.trans h3
  exact (zg h4 k h2).2
theorem QK (f bb:Nat)(HB:BOK f bb)(v:Value)(t:Tree)(count nx:Nat)(Z:List (Stp×Value))(w:World)(hp:PrtOK f w bb v t)(hv:∃ T y,v = .iface T y)(hZ:BldAt w bb Z)(hn:nx<Z.length)(hc:count≤100)(hl:(ym (bld f) t count nx (sts Z)).2.length≤1000) :
  Calls Tryz.prog 153 #[.pointer (some ⟨bb,0,none⟩),v,.int .i64 (count:Nat),.int .i64 (nx:Nat)] w (kQ w bb (ym (bld f) t count nx (sts Z))):=by
 obtain ⟨T,y,rfl⟩:=hv
 have hB:=ze HB
 have HP:=ze hp
 have HZ:=ze hZ
 clear HB hp hZ
 go_enter Tryz.func153,Tryz.ntmps153
 go_wp2_with fail
 go_loopw [9,13] (fun vb vj wr=>∃ (b j:Nat) (Y:List (Stp×Value)),vb = .int .i64 (b:Nat)∧vj = .int .i64 (j:Nat)∧j≤count∧b<Y.length∧Hid (BldTo w wr bb Y)∧Hid (ym (bld f) t count nx (sts Z)=ym (bld f) t (count-j) b (sts Y))) (fun _ vj _=>count-(intOf vj).toNat)
 case atStart=>exact ⟨nx,0,Z,rfl,rfl,by omega,hn,BldTo.refl (zb HZ),rfl⟩
 case round=>
  obtain ⟨b,j,Y,rfl,rfl,hj,hbY,HT,HF⟩:=hrel
  by_cases hlt:j<count
  ·obtain ⟨k,hk⟩:∃ k,count-j=k+1:=⟨count-j-1,by omega⟩
   have hbig:(bld f t b (sts Y)).2.length≤1000:=by
    rw [zb HF,hk] at hl
    simp only [ym] at hl
    split at hl
    ·exact hl
    ·exact Nat.le_trans (Sm.qQ (Sm.yN f) k _ _) hl
   have hst:=Sm.qi f t b (sts Y) (by rw [zX];exact hbY)
   have HC:=ze (zb hB (.iface T y) t b Y wr ((zb HP).keep (zb HT).only) (zb HT).at' hbY hbig)
   by_cases hsame:(bld f t b (sts Y)).1=b
   ·have HE:Hid (ym (bld f) t count nx (sts Z)=bld f t b (sts Y)):=by rw [zb HF,hk];simp only [ym];rw [if_pos hsame];rfl
    go_wp2_with (go_at_call 61;refine (zb HC).mono ?_;rintro e w1 ⟨Y2,rfl,hs2,hT2⟩;have HT2:=ze ((zb HT).trans hT2);have HS2:=ze hs2;clear hT2 hs2)
    go_ret
    exact ⟨Y2,by rw [zb HE,hsame];rfl,by rw [zb HS2,zb HE],zb HT2⟩
   ·have HE:Hid (ym (bld f) t count nx (sts Z)=ym (bld f) t k (bld f t b (sts Y)).1 (bld f t b (sts Y)).2):=by rw [zb HF,hk];simp only [ym];rw [if_neg hsame];rfl
    generalize hr:bld f t b (sts Y)=r at *
    have hne:((r.1:Int) == (b:Int))=false:=by simp;omega
    go_wp2_with (go_at_call 61;refine (zb HC).mono ?_;rintro e w1 ⟨Y2,rfl,hs2,hT2⟩;have HT2:=ze ((zb HT).trans hT2);have HS2:=ze hs2;clear hT2 hs2)
    exact ⟨⟨r.1,j+1,Y2,rfl,by go_num,by omega,(by rw [←zX,zb HS2];exact hst),zb HT2,(by rw [zb HE,zb HS2,show count-(j+1)=k by omega];rfl)⟩,by simp [intOf];omega⟩
  ·have HE:Hid (ym (bld f) t count nx (sts Z)=(b,sts Y)):=by rw [zb HF,show count-j=0 by omega];rfl
   go_wp2_with fail
   go_ret
   exact ⟨Y,by rw [zb HE];rfl,by rw [zb HE],zb HT⟩
theorem za0 {α:Type}(l:List α)(i:Nat)(hi:i<l.length):l.take (i+1)=l.take i++[l[i]]:=(kI l i hi).symm
theorem JC (f bb:Nat)(HB:BOK f bb)(sv:Value)(xs:List Value)(ts:List Tree)(nx:Nat)(Z:List (Stp×Value))(w:World)(hr:RowAt w (fun g=>g<bb) sv xs)(hxl:xs.length≤1000)(htl:ts.length=xs.length)(hp:∀ (j:Nat) x t,xs[j]?=some x→ts[j]?=some t→PrtOK f w bb x t)(hif:∀ x∈xs,∃ T y,x = .iface T y)(hZ:BldAt w bb Z)(hn:nx<Z.length)(hl:(bSeq (bld f) ts.reverse nx (sts Z)).2.length≤1000) :
  Calls Tryz.prog 113 #[.pointer (some ⟨bb,0,none⟩),sv,.int .i64 (nx:Nat)] w (kQ w bb (bSeq (bld f) ts.reverse nx (sts Z))):=by
 have hB:=ze HB
 have HP:=ze hp
 have HZ:=ze hZ
 have HI:=ze hif
 obtain ⟨pa,pc,rfl,HC⟩:∃ pa pc,sv = .slice pa xs.length pc∧Hid (xs.length≠0→∃ g,pa=some ⟨g,0,none⟩∧xs.length≤pc∧g<bb∧g<w.heap.size∧∀ j x,xs[j]?=some x→w.cell? ⟨g,j,none⟩=some x):=by
  rcases hr with ⟨rfl,rfl⟩ |⟨g,cap,rfl,h1,h2,h3,h4⟩
  ·exact ⟨none,0,rfl,fun h=>absurd rfl h⟩
  ·exact ⟨_,_,rfl,fun _=>⟨g,rfl,h2,h1,h3,h4⟩⟩
 clear HB hp hZ hr hif
 go_enter Tryz.func113,Tryz.ntmps113
 go_wp2_with fail
 go_loopw [7,8] (fun vb vj wr=>∃ (b m:Nat) (Y:List (Stp×Value)),vb = .int .i64 (b:Nat)∧vj = .int .i64 ((m:Int)-1)∧m≤xs.length∧b<Y.length∧Hid (BldTo w wr bb Y)∧Hid (bSeq (bld f) ts.reverse nx (sts Z)=bSeq (bld f) (ts.take m).reverse b (sts Y))) (fun _ vj _=>(intOf vj+1).toNat)
 case atStart=>exact ⟨nx,xs.length,Z,rfl,rfl,Nat.le_refl _,hn,BldTo.refl (zb HZ),(by rw [←htl,List.take_length];rfl)⟩
 case round=>
  obtain ⟨b,m,Y,rfl,rfl,hm,hbY,HT,HF⟩:=hrel
  by_cases hlt:0<m
  ·obtain ⟨k,rfl⟩:∃ k,m=k+1:=⟨m-1,by omega⟩
   obtain ⟨g,rfl,hpc,hgb,hgw,hcells⟩:=zb HC (by omega)
   have hx:xs[k]?=some xs[k]:=List.getElem?_eq_getElem (by omega)
   have ht:ts[k]?=some (ts[k]'(by omega)):=List.getElem?_eq_getElem (by omega)
   have c1:=((zb HT).only.cell (p:=⟨g,k,none⟩) hgw (by show ¬bb≤g;omega)).trans (hcells _ _ hx)
   have hpk:=(zb HP k _ _ hx ht).keep (zb HT).only
   obtain ⟨T,y,hxe⟩:=zb HI xs[k] (List.getElem_mem _)
   have HF2:Hid (bSeq (bld f) ts.reverse nx (sts Z)=bSeq (bld f) (ts.take k).reverse (bld f (ts[k]'(by omega)) b (sts Y)).1 (bld f (ts[k]'(by omega)) b (sts Y)).2):=by
    rw [zb HF,za0 ts k (by omega),List.reverse_append]
    rfl
   have hbig:(bld f (ts[k]'(by omega)) b (sts Y)).2.length≤1000:=by
    rw [zb HF2] at hl
    exact Nat.le_trans (Sm.Yv (Sm.yN f) _ _ _) hl
   have hst:=Sm.qi f (ts[k]'(by omega)) b (sts Y) (by rw [zX];exact hbY)
   rw [hxe] at c1 hpk
   have HCa:=ze (zb hB (.iface T y) _ b Y wr hpk (zb HT).at' hbY hbig)
   clear hx ht hcells hpk hxe
   have e1:((k+1:Nat):Int)-1=(k:Nat):=by omega
   have e2:(0:Int)≤((k+1:Nat):Int)-1:=by omega
   simp only [e1] at *
   generalize hr:bld f (ts[k]'(by omega)) b (sts Y)=r at *
   go_wp2_with (go_at_call 61;refine (zb HCa).mono ?_;rintro e w1 ⟨Y2,rfl,hs2,hT2⟩;have HT2:=ze ((zb HT).trans hT2);have HS2:=ze hs2;clear hT2 hs2)
   exact ⟨⟨r.1,k,Y2,rfl,by go_num,by omega,(by rw [←zX,zb HS2];exact hst),zb HT2,(by rw [zb HF2,zb HS2];rfl)⟩,by simp [intOf]⟩
  ·obtain rfl:m=0:=by omega
   have HE:Hid (bSeq (bld f) ts.reverse nx (sts Z)=(b,sts Y)):=by rw [zb HF];rfl
   have e2:¬(0:Int)≤((0:Nat):Int)-1:=by omega
   go_wp2_with fail
   go_ret
   exact ⟨Y,by rw [zb HE];rfl,by rw [zb HE],zb HT⟩
end
end Go.Proofs.YtnagphodmfejiaaGreatDoor
