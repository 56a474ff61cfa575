/- The program's Ends. -/
import Derived.Test.YtcgleficedipkaaGreatDoorYPrgIPrgF
import Derived.Test.YtcgleficedipkaaGreatDoorYChCChE
namespace Go.Proofs.YtcgleficedipkaaGreatDoor
section
open Go.RowKit
open Sm (Stp Tree)
set_option maxHeartbeats 4000000
set_option maxRecDepth 100000
namespace Prg
def lfP (L:List (Int×Int))(T:Tree)(k:Nat):Prop:=k<L.length∧Cs.qY T (Pro.zf L k)=true
def jb (W:Int→Bool)(L:List (Int×Int))(k:Nat)(a:Int):Bool:=qJ (decide (k=0)) (decide (k=L.length)) (befB W L k) (aftB W L k) a
def ahP (W:Int→Bool)(L:List (Int×Int))(a:Int)(k:Nat):Prop:=jb W L k a=true
abbrev GoP (W:Int→Bool)(L:List (Int×Int))(N:List Stp)(p i q j:Nat):Prop:=Sm.Goes (lfP L) (ahP W L) N p i q j
def Beg (W:Int→Bool)(L:List (Int×Int))(N:List Stp)(st i m:Nat)(bs:List Nat):Prop:=(∀ p∈bs,p<N.length)∧∀ q,(∃ p∈bs,GoP W L N p m q m)↔GoP W L N st i q m
def Done (W:Int→Bool)(L:List (Int×Int))(N:List Stp)(st i m:Nat)(js:List Nat):Prop:=js.Pairwise (· < ·)∧∀ j,j∈js↔j<m∧GoP W L N st i 0 j
theorem Beg.first {W:Int→Bool}{L:List (Int×Int)}{N:List Stp}{st i:Nat}(hs:st<N.length):Beg W L N st i i [st]:=
 ⟨fun p hp=>by simp at hp;omega,fun q=>⟨fun ⟨p,hp,g⟩=>by obtain rfl:=List.mem_singleton.1 hp;exact g,fun g=>⟨st,List.mem_singleton.2 rfl,g⟩⟩⟩
theorem Done.first {W:Int→Bool}{L:List (Int×Int)}{N:List Stp}{st i:Nat}:Done W L N st i i []:=
 ⟨List.Pairwise.nil,fun j=>⟨fun h=>(by cases h),fun h=>(by have:=h.2.le;omega)⟩⟩
theorem eps_at {W:Int→Bool}{L:List (Int×Int)}{N:List Stp}{m a b:Nat}:Sm.eps (ahP W L) N a m b↔epsB N (jb W L m) a b:=Iff.rfl
theorem GE_at {W:Int→Bool}{L:List (Int×Int)}{N:List Stp}{m a b:Nat}(h:GE N (jb W L m) a b):GoP W L N a m b m:=by
 obtain ⟨k,h⟩:=h
 suffices H:∀ (k a b i j:Nat),Sm.Run (fun _ _=>False) (fun x _=>jb W L m x=true) N k a i b j→GoP W L N a m b m from H k a b 0 0 h
 intro k
 induction k with
 |zero=>rintro a b i j ⟨rfl,_⟩;exact Sm.Goes.refl _ _ _
 |succ k ih=>
  rintro a b i j ⟨p',i',⟨s,hs,h1⟩,h2⟩
  refine Sm.Goes.head ?_ (ih _ _ _ _ h2)
  rcases h1 with ⟨_,f,_⟩ |⟨k1,k2,k3,_⟩ |⟨k1,k2,_⟩
  ·exact f.elim
  ·exact ⟨s,hs,.inr (.inl ⟨k1,k2,k3,rfl⟩)⟩
  ·exact ⟨s,hs,.inr (.inr ⟨k1,k2,rfl⟩)⟩
theorem zco {W:Int→Bool}{L:List (Int×Int)}{N:List Stp}{m:Nat}{bs rs:List Nat}(h1:∀ p∈bs,p∈rs)(h2:∀ q∈rs,∃ p∈bs,GE N (jb W L m) p q)(h3:∀ a∈rs,∀ t,epsB N (jb W L m) a t→t∈rs)(q:Nat):q∈rs↔∃ p∈bs,GoP W L N p m q m:=
 Sm.Y6 h1 (fun q hq=>by obtain ⟨p,hp,g⟩:=h2 q hq;exact ⟨p,hp,GE_at g⟩) (fun a ha b hb=>h3 a ha b (eps_at.1 hb)) q
theorem take_all {L:List (Int×Int)}{N:List Stp}{m:Nat}{rs:List Nat}(hm:m<L.length)(b:Nat):b∈xo N (Pro.zf L m) rs↔∃ a∈rs,Sm.tkr (lfP L) N a m b:=by
 rw [YO]
 constructor
 ·rintro ⟨a,ha,s,hs,hp,rfl⟩
  unfold setP at hp
  rw [Bool.and_eq_true,decide_eq_true_eq] at hp
  exact ⟨a,ha,s,hs,hp.1,⟨hm,hp.2⟩,rfl⟩
 ·rintro ⟨a,ha,s,hs,hk,hl,rfl⟩
  exact ⟨a,ha,s,hs,by unfold setP;rw [hl.2,decide_eq_true hk];rfl,rfl⟩
theorem Beg.next {W:Int→Bool}{L:List (Int×Int)}{N:List Stp}{st i m:Nat}{bs rs:List Nat}(h:Beg W L N st i m bs)(him:i≤m)(hm:m<L.length)(hr:∀ q,q∈rs↔∃ p∈bs,GoP W L N p m q m)(hf:∀ (k:Nat) s,N[k]?=some s→s.next<N.length∧s.other<N.length):Beg W L N st i (m+1) (xo N (Pro.zf L m) rs):=
 ⟨fun b hb=>by obtain ⟨a,_,s,hs,_,rfl⟩:=YO.1 hb;exact (hf a s hs).1,fun q=>Sm.zbw him h.2 hr (take_all hm) q⟩
theorem Done.next {W:Int→Bool}{L:List (Int×Int)}{N:List Stp}{st i m:Nat}{bs rs js:List Nat}(hd:Done W L N st i m js)(h:Beg W L N st i m bs)(hr:∀ q,q∈rs↔∃ p∈bs,GoP W L N p m q m):(0∈rs→Done W L N st i (m+1) (js++[m]))∧(0∉rs→Done W L N st i (m+1) js):=by
 have e:0∈rs↔GoP W L N st i 0 m:=(hr 0).trans (h.2 0)
 constructor
 ·intro h0
  refine ⟨List.pairwise_append.2 ⟨hd.1,by simp,fun a ha b hb=>?_⟩,fun j=>?_⟩
  ·simp at hb
   subst hb
   exact ((hd.2 a).1 ha).1
  ·rw [List.mem_append,hd.2 j]
   constructor
   ·rintro (⟨h1,h2⟩ |h1)
    ·exact ⟨by omega,h2⟩
    ·simp at h1;subst h1;exact ⟨by omega,e.1 h0⟩
   ·rintro ⟨h1,h2⟩
    by_cases ej:j=m
    ·right;simp [ej]
    ·left;exact ⟨by omega,h2⟩
 ·intro h0
  refine ⟨hd.1,fun j=>?_⟩
  rw [hd.2 j]
  constructor
  ·rintro ⟨h1,h2⟩;exact ⟨by omega,h2⟩
  ·rintro ⟨h1,h2⟩
   refine ⟨?_,h2⟩
   by_cases ej:j=m
   ·subst ej;exact absurd (e.2 h2) h0
   ·omega
theorem Done.all {W:Int→Bool}{L:List (Int×Int)}{N:List Stp}{st i:Nat}{js:List Nat}(hd:Done W L N st i (L.length+1) js):wl L.length (GoP W L N st i 0) js:=⟨hd.1,fun j=>by rw [hd.2 j];constructor<;>rintro ⟨h1,h2⟩<;>exact ⟨by omega,h2⟩⟩
theorem Done.none {W:Int→Bool}{L:List (Int×Int)}{N:List Stp}{st i m:Nat}{js:List Nat}(hd:Done W L N st i m js)(h:Beg W L N st i m [])(him:i≤m)(hm:m≤L.length):wl L.length (GoP W L N st i 0) js:=by
 have hn:∀ q,¬GoP W L N st i q m:=fun q g=>by obtain ⟨p,hp,_⟩:=(h.2 q).2 g;cases hp
 refine ⟨hd.1,fun j=>?_⟩
 rw [hd.2 j]
 constructor
 ·rintro ⟨h1,h2⟩;exact ⟨by omega,h2⟩
 ·rintro ⟨h1,h2⟩
  refine ⟨?_,h2⟩
  by_cases e:j<m
  ·exact e
  ·obtain ⟨d,rfl⟩:∃ d,j=m+d:=⟨j-m,by omega⟩
   exact absurd h2 (Sm.QV him hn d 0)
end Prg
theorem zcp (pb st i:Nat)(N:List Stp)(W:Int→Bool)(L:List (Int×Int))(v:Value)(A:Nat→Prop)(w:World)(hP:xi w A pb N st W)(hL:jQ w v L)(hi:i≤L.length)(hl:L.length≤400) :
  Calls Tryz.prog 41 #[.pointer (some ⟨pb,0,none⟩),v,.int .i64 (i:Nat)] w fun x w'=>∃ sv js,x = .returned sv∧w'.ownsRow w.heap.size 3 1 sv js.length (zM js)∧wl L.length (Prg.GoP W L N st i 0) js∧ze (fun _=>False) w w':=by
 obtain ⟨i0,hi0,hz0,hz1,hz2⟩:=info_parts Tryz.infoInt
 obtain ⟨va,vc,rfl⟩:=hL.slice
 have hst:=hP.c1
 have hNl:=hP.len
 have HP:=zc hP
 have HL:=zc hL
 clear hP hL
 go_enter Tryz.func41,Tryz.ntmps41
 go_wp2_with fail
 have HO0:Hid (ze (fun _=>False) w (w.alloc (.cells #[.int .i64 (st:Nat)] 3))):=(ze.refl _ _).alloc _
 have HB0:Hid (xI (w.alloc (.cells #[.int .i64 (st:Nat)] 3)) (.slice (some ⟨w.heap.size,0,none⟩) 1 1) [st]):=.inr ⟨w.heap.size,1,rfl,by simp,fun j a hj=>by
  have hj0:j=0:=by have:=(List.getElem?_eq_some_iff.1 hj).1;simp at this;omega
  subst hj0
  simp at hj
  subst hj
  exact zm _ _ rfl _ _ 0 _ rfl⟩
 generalize (w.alloc (.cells #[.int .i64 (st:Nat)] 3))=W0 at HO0 HB0 ⊢
 go_loopw [7,8,9] (fun ev bv k wr=>∃ (m:Nat) (bs js:List Nat),k = .int .i64 m∧i≤m∧m≤L.length∧bs.length≤300∧js.length≤m∧Hid (ze (fun _=>False) w wr)∧Hid (wr.ownsRow w.heap.size 3 1 ev js.length (zM js))∧Hid (xI wr bv bs)∧Hid (Prg.Beg W L N st i m bs)∧Hid (Prg.Done W L N st i m js)) (fun _ _ k _=>L.length+1-(intOf k).toNat)
 case atStart=>exact ⟨i,[st],[],rfl,by omega,by omega,by simp,by simp,HO0,World.ownsRow_nil _ _ _ _,HB0,Prg.Beg.first (zb HP).stl,Prg.Done.first⟩
 case round=>
  clear HO0 HB0
  obtain ⟨m,bs,js,rfl,him,hmL,hbl,hjl,HK,HE,HB,HG,HD⟩:=hrel
  obtain ⟨ea,en,ec,rfl⟩:=zy (zb HE)
  obtain ⟨ba,bc,rfl⟩:=(zb HB).slice
  by_cases hb0:bs.length=0
  ·have hbi:¬(0:Int)<(bs.length:Int):=by omega
   have HX:Hid (wl L.length (Prg.GoP W L N st i 0) js):=(zb HD).none (by rw [List.eq_nil_of_length_eq_zero hb0] at HG;exact zb HG) him hmL
   clear hb0
   go_wp2_with fail
   go_ret
   exact ⟨_,rfl,js,zb HE,zb HX,zb HK⟩
  ·have hbi:(0:Int)<(bs.length:Int):=by omega
   clear hb0
   have HA:=zc (WU pb st m N W L _ A wr ((zb HP).keep (zb HK) (fun _ _ f=>f)) ((zb HL).keep (zb HK)) hmL hl)
   go_wp2_with (first
    |(go_at_call 84;refine (zb HA).mono ?_;rintro e w1 ⟨rfl,hO1⟩;have HK1:=zc ((zb HK).trans hO1);have HE1:=zc (zn (zb HE) hO1 (fun _ _ f=>f));have HB1:=zc ((zb HB).keep hO1);clear hO1 HK HE HB HA)
    |(go_at_call 83;refine (YQ pb st N W _ bs _ _ _ _ A w1 ((zb HP).keep (zb HK1) (fun _ _ f=>f)) (zb HB1) (zb HG).1 (by omega)).mono ?_;rintro e w2 ⟨rv,rs,rfl,ho2,hO2,hr1,hr2,hr3,hr4,hr5⟩;obtain ⟨ra,rn,rc,rfl⟩:=zy ho2;have HR2:=zc (xI.of ho2);have HK2:=zc ((zb HK1).trans hO2);have HE2:=zc (zn (zb HE1) hO2 (fun _ _ f=>f));have HQ:=zc (Prg.zco (W:=W) (L:=L) (m:=m) hr3 hr4 hr5);have HRL:=zc hr2;have HRO:=zc ho2;have HEB:Hid (∀ j,(Value.slice ea en ec).ownBlock=some j→j<w1.heap.size):=(fun j hj=>(zh (zb HE1) j hj).2);clear ho2 hO2 hr2 hr3 hr4 hr5 HK1 HE1 HB1)
    |(go_at_call 85;refine zb ?_))
   refine zc ?_
   have hH:Calls Tryz.prog 85 #[.slice ra rn rc,.int .i64 0] w2 fun x w'=>x = .returned (.bool (decide (0∈rs)))∧ze (fun _=>False) w2 w':=YR _ rs 0 w2 (zb HR2) (by omega)
   have HDN:=zc ((zb HD).next (zb HG) (zb HQ))
   by_cases h00:0∈rs
   ·rw [decide_eq_true h00] at hH
    have HD1:=zc ((zb HDN).1 h00)
    clear HDN h00
    refine hH.mono ?_
    rintro e w3 ⟨rfl,hO3⟩
    have HK3:=zc ((zb HK2).trans hO3)
    have HE3:=zc (zn (zb HE2) hO3 (fun _ _ f=>f))
    have HR3:=zc (zn (zb HRO) hO3 (fun _ _ f=>f))
    have hsz3:=(zb HK3).size
    clear hO3 hH HK2 HE2 HR2 HRO
    by_cases hmm:m=L.length
    ·have hmb:((m:Int) == (L.length:Int))=true:=by simp;omega
     have HX:Hid (wl L.length (Prg.GoP W L N st i 0) (js++[m])):=Prg.Done.all (by rw [←hmm];exact zb HD1)
     clear hmm
     go_wp2_with (at_builtin;refine wpList_append_own _ rfl _ _ 27 rfl w.heap.size 3 i0 (.int .i64 0) 1 8 Tryz.underlying27 hi0 hz0 hz1 hz2 rfl (by decide) _ _ _ rfl (World.ownsRow.alloc (zb HE3) _) _ 1 1 [.int .i64 (m:Nat)] rfl rfl (cell_one_new _ _ _) (fun x hx=>by simp at hx;subst hx;rfl) (by unfold maxLen;omega) (by omega) (by simp;omega) ?_;intro v' w4 hown' hgrow hnil;obtain ⟨xa,xn,xc,rfl⟩:=zy hown';have HG4:=zc hgrow;have HN4:=zc hown';clear hown' hgrow hnil)
     go_ret
     have hK4:ze (fun _=>False) w w4:=((zb HK3).alloc _).grown (zb HG4) (fun j hj=>Or.inr (zh (zb HE3) j hj).1)
     have HE4:Hid (w4.ownsRow w.heap.size 3 1 (.slice xa xn xc) (js++[m]).length (zM (js++[m]))):=by show World.ownsRow _ _ _ _ _ _ _;unfold zM;rw [List.length_append,List.map_append];exact zb HN4
     exact ⟨_,js++[m],rfl,zb HE4,zb HX,hK4⟩
    ·have hmb:((m:Int) == (L.length:Int))=false:=by simp;omega
     have hml:m<L.length:=by omega
     obtain ⟨g,cap,x0,hv,hcap,d1,d2⟩:=(zb HL).get hml
     simp at hv
     obtain ⟨rfl,rfl⟩:=hv
     have b1:(0:Int)≤(m:Int):=by omega
     have b2:(m:Int)<(L.length:Int):=by omega
     have HG1:=zc ((zb HG).next him hml (zb HQ) (zb HP).fit)
     have htl:=Prg.wV N (Pro.zf L m) rs
     have HDD:=zc d2
     clear hmm d1 d2
     go_wp2_with (first
      |(at_builtin;refine wpList_append_own _ rfl _ _ 27 rfl w.heap.size 3 i0 (.int .i64 0) 1 8 Tryz.underlying27 hi0 hz0 hz1 hz2 rfl (by decide) _ _ _ rfl (World.ownsRow.alloc (zb HE3) _) _ 1 1 [.int .i64 (m:Nat)] rfl rfl (cell_one_new _ _ _) (fun x hx=>by simp at hx;subst hx;rfl) (by unfold maxLen;omega) (by omega) (by simp;omega) ?_;intro v' w4 hown' hgrow hnil;obtain ⟨xa,xn,xc,rfl⟩:=zy hown';have HG4:=zc hgrow;have HN4:=zc hown';clear hown' hgrow hnil;have hK4:ze (fun _=>False) w w4:=((zb HK3).alloc _).grown (zb HG4) (fun j hj=>Or.inr (zh (zb HE3) j hj).1);have d3:=zg hK4 _ _ (zb HDD) (fun f=>f);have HK4:=zc hK4;clear hK4)
      |(go_at_call 86;refine zb ?_))
     refine zc ?_
     have HE4:Hid (w4.ownsRow w.heap.size 3 1 (.slice xa xn xc) (js++[m]).length (zM (js++[m]))):=by show World.ownsRow _ _ _ _ _ _ _;unfold zM;rw [List.length_append,List.map_append];exact zb HN4
     have hR4:w4.ownsRow w1.heap.size 3 1 (.slice ra rn rc) rs.length (zM rs):=zn (P:=fun g=>(Value.slice ea en ec).ownBlock=some g) (World.ownsRow.alloc (zb HR3) _) ((ze.refl _ _).grown (zb HG4) (fun j hj=>Or.inl hj)) (fun g hg e=>by have h1:=(zh (zb HR3) g hg).1;have h2:=zb HEB g e;omega)
     refine (YP pb st N W _ rs (Pro.zf L m) A w4 ((zb HP).keep (zb HK4) (fun _ _ f=>f)) (xI.of hR4) (zb HRL) (by omega)).mono ?_
     rintro e w5 ⟨tv,rfl,ho5,hO5⟩
     have HK5:=zc ((zb HK4).trans hO5)
     have HE5:=zc (zn (zb HE4) hO5 (fun _ _ f=>f))
     have HB5:=zc (xI.of ho5)
     clear ho5 hO5 hR4
     go_wp2_with fail
     exact ⟨⟨m+1,_,js++[m],by go_num,by omega,by omega,by omega,by simp;omega,HK5,HE5,HB5,HG1,HD1⟩,by simp [intOf];omega⟩
   ·rw [decide_eq_false h00] at hH
    have HD1:=zc ((zb HDN).2 h00)
    clear HDN h00
    refine hH.mono ?_
    rintro e w3 ⟨rfl,hO3⟩
    have HK3:=zc ((zb HK2).trans hO3)
    have HE3:=zc (zn (zb HE2) hO3 (fun _ _ f=>f))
    have HR3:=zc ((zb HR2).keep hO3)
    clear hO3 hH HK2 HE2 HR2
    by_cases hmm:m=L.length
    ·have hmb:((m:Int) == (L.length:Int))=true:=by simp;omega
     have HX:Hid (wl L.length (Prg.GoP W L N st i 0) js):=Prg.Done.all (by rw [←hmm];exact zb HD1)
     clear hmm
     go_wp2_with fail
     go_ret
     exact ⟨_,js,rfl,zb HE3,zb HX,zb HK3⟩
    ·have hmb:((m:Int) == (L.length:Int))=false:=by simp;omega
     have hml:m<L.length:=by omega
     obtain ⟨g,cap,x0,hv,hcap,d1,d2⟩:=(zb HL).get hml
     simp at hv
     obtain ⟨rfl,rfl⟩:=hv
     have d3:=zg (zb HK3) _ _ d2 (fun f=>f)
     have b1:(0:Int)≤(m:Int):=by omega
     have b2:(m:Int)<(L.length:Int):=by omega
     have HT:=zc (YP pb st N W _ rs (Pro.zf L m) A w3 ((zb HP).keep (zb HK3) (fun _ _ f=>f)) (zb HR3) (zb HRL) (by omega))
     have HG1:=zc ((zb HG).next him hml (zb HQ) (zb HP).fit)
     have htl:=Prg.wV N (Pro.zf L m) rs
     clear hmm d1 d2
     go_wp2_with (go_at_call 86;refine (zb HT).mono ?_;rintro e w4 ⟨tv,rfl,ho4,hO4⟩;have HK4:=zc ((zb HK3).trans hO4);have HE4:=zc (zn (zb HE3) hO4 (fun _ _ f=>f));have HB4:=zc (xI.of ho4);clear ho4 hO4)
     exact ⟨⟨m+1,_,js,by go_num,by omega,by omega,by omega,by omega,HK4,HE4,HB4,HG1,HD1⟩,by simp [intOf];omega⟩
namespace Eqv
theorem Jn (s:ByteArray):∀ (f p:Nat) (acc:List (Int×Int)),s.size<p+f→p≤s.size→(Ref.xL s f p acc).1=acc++(Pro.letM s f p).map (fun x=>(x.2,x.1))
 |0,p,acc,h,hp=>by omega
 |f+1,p,acc,h,hp=>by
  by_cases hlt:p<s.size
  ·have hr:=jE hlt
   cases h1:Ref.oneF s p with
   |none=>
    rw [h1] at hr
    rw [Ref.jx hlt h1]
    simp only [Pro.letM]
    rw [hr]
    simp [ahead]
   |some nc=>
    obtain ⟨m,d⟩:=nc
    rw [h1] at hr
    have hb:=Ref.qC h1
    have e:Pro.letM s (f+1) p=((p:Int),d) :: Pro.letM s f (p+m):=by
     simp only [Pro.letM];rw [hr];rfl
    rw [e,Ref.qW hlt h1,Jn s f (p+m) _ (by omega) (by omega)]
    simp
  ·rw [Ref.vE hlt]
   simp only [Pro.letM]
   rw [show Pro.yi s p=none by unfold Pro.yi;rw [if_neg hlt]]
   simp
theorem zaI (s:ByteArray):∀ (f p:Nat),∀ x∈Pro.letM s f p,Cs.isCh x.2=true
 |0,_,x,hx=>by simp [Pro.letM] at hx
 |f+1,p,x,hx=>by
  by_cases hlt:p<s.size
  ·have hr:=jE hlt
   cases h1:Ref.oneF s p with
   |none=>
    rw [h1] at hr
    simp only [Pro.letM] at hx
    rw [hr] at hx
    simp [ahead] at hx
   |some nc=>
    obtain ⟨m,d⟩:=nc
    rw [h1] at hr
    have hb:=Ref.qC h1
    have e:Pro.letM s (f+1) p=((p:Int),d) :: Pro.letM s f (p+m):=by
     simp only [Pro.letM];rw [hr];rfl
    rw [e] at hx
    rcases List.mem_cons.1 hx with rfl |hx
    ·rw [Cs.wJ];simp only;omega
    ·exact zaI s f (p+m) x hx
  ·simp only [Pro.letM] at hx
   rw [show Pro.yi s p=none by unfold Pro.yi;rw [if_neg hlt]] at hx
   simp at hx
end Eqv
namespace Prg
structure yj (L tx:List (Int×Int)):Prop where
 map:tx=L.map (fun x=>(x.2,x.1))
 ch:∀ x∈L,Cs.isCh x.2=true
theorem yj.of (s:ByteArray):yj (Pro.letM s (s.size+1) 0) (Ref.zo s).1:=⟨by
 have:=Eqv.Jn s (s.size+1) 0 [] (by omega) (by omega)
 simpa [Ref.zo] using this,Eqv.zaI s _ _⟩
variable {L tx:List (Int×Int)}
theorem yj.len (h:yj L tx):tx.length=L.length:=by rw [h.map];simp
theorem yj.at (h:yj L tx)(k:Nat):Ref.chAt tx k=Pro.zf L k:=by
 unfold Ref.chAt Pro.zf
 rw [h.map,List.getElem?_map]
 cases L[k]?<;>rfl
theorem yj.isCh (h:yj L tx){k:Nat}(hk:k<L.length):Cs.isCh (Pro.zf L k)=true:=by
 rw [Pro.Yd hk];exact h.ch _ (List.getElem_mem hk)
theorem yj.nn (h:yj L tx){k:Nat}(hk:k<L.length):0≤Pro.zf L k:=by
 have:=(Cs.wJ _).1 (h.isCh hk);omega
theorem lf_iff (h:yj L tx)(T:Tree)(k:Nat):lfP L T k↔Ref.lfT tx T k:=by
 unfold lfP Ref.lfT
 rw [h.len,h.at k]
 constructor
 ·rintro ⟨h1,h2⟩
  unfold Cs.qY at h2
  rw [Bool.and_eq_true] at h2
  exact ⟨h1,h2.2⟩
 ·rintro ⟨h1,h2⟩
  exact ⟨h1,by unfold Cs.qY;rw [h.isCh h1,h2];rfl⟩
theorem zaJ (h:yj L tx){k:Nat}(hk:k<L.length):Cs.zT 119 (Pro.zf L k)=Eqv.inSp Ref.vL (Pro.zf L k):=by
 rw [←Cs.W7,h.isCh hk,Cs.VS];rfl
theorem zaK:Eqv.inSp Ref.vL (-1)=false:=by decide
theorem bef_at (h:yj L tx){k:Nat}(hk:k≤L.length):befB (Cs.zT 119) L k=Eqv.inSp Ref.vL (Ref.chBe tx k):=by
 unfold befB Ref.chBe
 by_cases h0:k=0
 ·subst h0;simp [zaK]
 ·rw [if_pos (by omega),h.at,zaJ h (by omega),decide_eq_true h0];rfl
theorem aft_at (h:yj L tx){k:Nat}(hk:k≤L.length):aftB (Cs.zT 119) L k=Eqv.inSp Ref.vL (Ref.chAt tx k):=by
 unfold aftB
 by_cases h0:k=L.length
 ·rw [h.at,Pro.zO (by omega),zaK];simp [h0]
 ·rw [h.at,zaJ h (by omega),decide_eq_true h0];rfl
theorem Km (h:yj L tx){W:Int→Bool}{a:Int}{k:Nat}(hk:k≤L.length)(ha:0≤a∧a≤3)(hW:2≤a→W=Cs.zT 119):ahP W L a k↔Ref.ahT tx a k:=by
 unfold ahP Ref.ahT jb qJ Ref.asB Eqv.asSign
 have hc:a=0∨a=1∨a=2∨a=3:=by omega
 rcases hc with rfl |rfl |rfl |rfl
 ·simp only [if_true]
  unfold Ref.chBe
  by_cases h0:k=0
  ·subst h0;simp
  ·rw [if_pos (by omega),h.at]
   have:=h.nn (k:=k-1) (by omega)
   simp;omega
 ·simp only [show (1:Int)≠0 by decide,if_false,if_true,show (36:Int)≠94 by decide]
  rw [h.at]
  by_cases h0:k=L.length
  ·rw [Pro.zO (by omega)];simp [h0]
  ·have:=h.nn (k:=k) (by omega)
   simp;omega
 ·rw [hW (by omega),bef_at h hk,aft_at h hk]
  simp
 ·rw [hW (by omega),bef_at h hk,aft_at h hk]
  simp
def Asks (N:List Stp)(W:Int→Bool):Prop:=∀ (p:Nat) s,N[p]?=some s→s.kind=2→(0≤s.asr∧s.asr≤3)∧(2≤s.asr→W=Cs.zT 119)
theorem Vv (h:yj L tx){W:Int→Bool}{N:List Stp}(hN:Asks N W){p i q j:Nat}(hi:i≤L.length):Sm.one (lfP L) (ahP W L) N p i q j↔Sm.one (Ref.lfT tx) (Ref.ahT tx) N p i q j:=by
 constructor
 ·rintro ⟨s,hs,⟨k1,k2,k3⟩ |⟨k1,k2,k3⟩ |k⟩
  ·exact ⟨s,hs,.inl ⟨k1,(lf_iff h _ _).1 k2,k3⟩⟩
  ·exact ⟨s,hs,.inr (.inl ⟨k1,(Km h hi (hN p s hs k1).1 (hN p s hs k1).2).1 k2,k3⟩)⟩
  ·exact ⟨s,hs,.inr (.inr k)⟩
 ·rintro ⟨s,hs,⟨k1,k2,k3⟩ |⟨k1,k2,k3⟩ |k⟩
  ·exact ⟨s,hs,.inl ⟨k1,(lf_iff h _ _).2 k2,k3⟩⟩
  ·exact ⟨s,hs,.inr (.inl ⟨k1,(Km h hi (hN p s hs k1).1 (hN p s hs k1).2).2 k2,k3⟩)⟩
  ·exact ⟨s,hs,.inr (.inr k)⟩
theorem one_in {W:Int→Bool}{N:List Stp}{p i q j:Nat}(hi:i≤L.length)(ho:Sm.one (lfP L) (ahP W L) N p i q j):j≤L.length:=by
 obtain ⟨s,hs,⟨k1,k2,k3,k4⟩ |⟨k1,k2,k3,k4⟩ |⟨k1,k2,k4⟩⟩:=ho
 ·have:=k2.1;omega
 ·omega
 ·omega
theorem Ya (h:yj L tx){W:Int→Bool}{N:List Stp}(hN:Asks N W):∀ {k p i q j:Nat},i≤L.length→(Sm.Run (lfP L) (ahP W L) N k p i q j↔Sm.Run (Ref.lfT tx) (Ref.ahT tx) N k p i q j)
 |0,_,_,_,_,_=>Iff.rfl
 |k+1,p,i,q,j,hi=>by
  constructor
  ·rintro ⟨p',i',h1,h2⟩
   exact ⟨p',i',(Vv h hN hi).1 h1,(Ya h hN (one_in hi h1)).1 h2⟩
  ·rintro ⟨p',i',h1,h2⟩
   have h1':=(Vv h hN hi).2 h1
   exact ⟨p',i',h1',(Ya h hN (one_in hi h1')).2 h2⟩
theorem goP_same (h:yj L tx){W:Int→Bool}{N:List Stp}(hN:Asks N W){p i q j:Nat}(hi:i≤L.length):GoP W L N p i q j↔Sm.Goes (Ref.lfT tx) (Ref.ahT tx) N p i q j:=
 ⟨fun ⟨k,r⟩=>⟨k,(Ya h hN hi).1 r⟩,fun ⟨k,r⟩=>⟨k,(Ya h hN hi).2 r⟩⟩
end Prg
end
end Go.Proofs.YtcgleficedipkaaGreatDoor
