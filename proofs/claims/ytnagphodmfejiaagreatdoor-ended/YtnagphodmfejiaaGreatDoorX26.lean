/- The library's sort of a row of characters: it returns, and turns the row's cells alone. -/
import Derived.BigGuard
import Derived.BigCall
import Derived.CellFam
import Derived.Deep.Draws
import Derived.BigRegion
import Derived.Sort.Defs
import Derived.Shelf.Abstract
import Derived.Test.YtnagphodmfejiaaGreatDoorX1
namespace Go.Proofs.YtnagphodmfejiaaGreatDoor
section
open Go.RowKit
def jZ (w:World)(blk off n:Nat):Prop:=∃ G:Nat→Int,(∀ t,t<n→w.cell? ⟨blk,off+t,none⟩=some (.int .i32 (G t)))∧∀ t,t<n→w.frozen? ⟨blk,off+t,none⟩=false
theorem jZ.keep {P:Nat→Prop}{w w':World}{blk off n:Nat}(h:jZ w blk off n)(k:zf P w w')(hn:¬P blk):jZ w' blk off n:=by
 obtain ⟨G,h1,h2⟩:=h
 exact ⟨G,fun t ht=>(k.cell (p:=⟨blk,off+t,none⟩) (World.block_lt_of_cell? w _ (h1 t ht)) hn).trans (h1 t ht),fun t ht=>(k.frozen (p:=⟨blk,off+t,none⟩) (World.block_lt_of_cell? w _ (h1 t ht)) hn).trans (h2 t ht)⟩
theorem jZ.set {w:World}{blk off n:Nat}(h:jZ w blk off n)(i:Nat)(z:Int):jZ (w.setCell ⟨blk,i,none⟩ (.int .i32 z)) blk off n:=by
 obtain ⟨G,h1,h2⟩:=h
 refine ⟨fun t=>if off+t=i then z else G t,fun t ht=>?_,fun t ht=>(zj _ _ _ _).trans (h2 t ht)⟩
 by_cases e:off+t=i
 ·subst e
  simp only [if_true]
  exact World.cell?_setCell_same _ _ _ (h1 t ht)
 ·simp only [if_neg e]
  exact (World.cell?_setCell_other _ _ _ _ (by simp)).trans (h1 t ht)
def zL (w:World)(blk off n:Nat)(w':World):Prop:=zf (zm blk) w w'∧jZ w' blk off n
theorem zL.refl {w:World}{blk off n:Nat}(h:jZ w blk off n):zL w blk off n w:=⟨zf.refl _ _,h⟩
theorem zL.trans {a b c:World}{blk off n:Nat}(h:zL a blk off n b)(k:zL b blk off n c):zL a blk off n c:=⟨h.1.trans k.1,k.2⟩
theorem zL.drewN {a b:World}{blk off n:Nat}(h:zL a blk off n b)(q:Nat):zL a blk off n (b.drewN q):=⟨h.1.drewN q,h.2⟩
theorem zL.drew {a b:World}{blk off n:Nat}(h:zL a blk off n b):zL a blk off n b.drew:=⟨h.1.drew,h.2⟩
theorem zL.set {a b:World}{blk off n:Nat}(h:zL a blk off n b)(i:Nat)(z:Int):zL a blk off n (b.setCell ⟨blk,i,none⟩ (.int .i32 z)):=⟨h.1.mine _ _,h.2.set i z⟩
theorem Z6 (x:Int)(w:World):Calls Tryz.prog 223 #[.int .i32 x] w fun e w'=>e = .returned (.bool false)∧w'=w:=by
 go_enter Tryz.func223,Tryz.ntmps223
 go_wp2_with fail
 go_ret
 exact ⟨by simp,rfl⟩
theorem zH (x y:Int)(w:World):Calls Tryz.prog 201 #[.int .i32 x,.int .i32 y] w fun e w'=>e = .returned (.bool (Sort.ltInt x y))∧w'=w:=by
 go_enter Tryz.func201,Tryz.ntmps201
 go_wp2_with (go_at_call 223;refine (Z6 _ _).mono ?_;rintro e w' ⟨rfl,rfl⟩)
 go_ret
 exact ⟨rfl,rfl⟩
theorem reverseR (blk off n cap a b:Nat)(w:World)(h:jZ w blk off n)(hab:a≤b)(hb:b≤n)(hn:n<1099511627776) :
  Calls Tryz.prog 199 #[.slice (some ⟨blk,off,none⟩) n cap,.int .i64 a,.int .i64 b] w fun e w'=>e = .returned (.tuple #[])∧zL w blk off n w':=by
 have HH:=ze h
 clear h
 go_enter Tryz.func199,Tryz.ntmps199
 go_wp2_with fail
 go_loopw [6,7] (fun vi vj wr=>∃ (i:Nat) (j:Int),vi = .int .i64 i∧vj = .int .i64 j∧i≤n∧-1≤j∧j<n∧Hid (zL w blk off n wr)) (fun vi vj _=>(intOf vj+1-intOf vi).toNat)
 case atStart=>exact ⟨a,(b:Int)-1,rfl,rfl,by omega,by omega,by omega,zL.refl (zb HH)⟩
 case round=>
  obtain ⟨i,j,rfl,rfl,hi,hj,hjn,HS⟩:=hrel
  by_cases hij:(i:Int)<j
  ·obtain ⟨j,rfl⟩:∃ q:Nat,j=q:=⟨j.toNat,by omega⟩
   obtain ⟨G,hcw,hfw⟩:=(zb HS).2
   go_wp2
   go_region
   all_goals go_wp2
   go_roundw
   case rel=>exact ⟨i+1,(j:Int)-1,by go_num,by go_num,by omega,by omega,by omega,(((zb HS).drewN _).set _ _).set _ _⟩
   case measure=>simp [intOf];omega
  ·go_wp2
   go_end0
   exact ⟨rfl,zb HS⟩
theorem insertR (blk off n cap a b:Nat)(w:World)(h:jZ w blk off n)(hab:a≤b)(hb:b≤n)(hn:n<1099511627776) :
  Calls Tryz.prog 195 #[.slice (some ⟨blk,off,none⟩) n cap,.int .i64 a,.int .i64 b] w fun e w'=>e = .returned (.tuple #[])∧zL w blk off n w':=by
 have HH:=ze h
 clear h
 go_enter Tryz.func195,Tryz.ntmps195
 go_wp2_with fail
 go_loopw [6] (fun vi wr=>∃ i:Nat,vi = .int .i64 i∧a<i∧i≤b+1∧Hid (zL w blk off n wr)) (fun vi _=>b+1-(intOf vi).toNat)
 case atStart=>exact ⟨a+1,by go_num,by omega,by omega,zL.refl (zb HH)⟩
 case round=>
  obtain ⟨i,rfl,hai,hib,HS⟩:=hrel
  by_cases hlt:i<b
  ·go_wp2
   go_loopw [7] (fun vj wr2=>∃ j:Nat,vj = .int .i64 j∧a≤j∧j≤i∧Hid (zL w blk off n wr2)) (fun vj _=>(intOf vj).toNat)
   case atStart=>exact ⟨i,rfl,by omega,Nat.le_refl _,HS⟩
   case round=>
    obtain ⟨j,rfl,haj,hji,HS2⟩:=hrel
    go_wp2
    by_cases hja:a<j
    ·obtain ⟨G,hcw,hfw⟩:=(zb HS2).2
     go_quiet (first |(go_at_call 201;refine Calls.quiet_of_same (zH _ _ _)))
     go_wp2
     ·go_region
      all_goals go_wp2
      go_roundw
      case rel=>exact ⟨j-1,by congr 1;omega,by omega,by omega,(((zb HS2).drewN _).set _ _).set _ _⟩
      case measure=>simp [intOf];omega
     ·go_roundw
      case rel=>exact ⟨i+1,by go_num,by omega,by omega,(zb HS2).drewN _⟩
      case measure=>simp [intOf];omega
    ·go_quiet (first |(go_at_call 201;refine Calls.quiet_of_same (zH _ _ _)))
     go_wp2
     go_roundw
     case rel=>exact ⟨i+1,by go_num,by omega,by omega,(zb HS2).drewN _⟩
     case measure=>simp [intOf];omega
  ·go_wp2
   go_end0
   exact ⟨rfl,zb HS⟩
theorem siftR (blk off n cap lo hi first:Nat)(w:World)(h:jZ w blk off n)(hlo:lo≤hi)(hb:first+hi≤n)(hn:n<1099511627776) :
  Calls Tryz.prog 224 #[.slice (some ⟨blk,off,none⟩) n cap,.int .i64 lo,.int .i64 hi,.int .i64 first] w fun e w'=>e = .returned (.tuple #[])∧zL w blk off n w':=by
 have HH:=ze h
 clear h
 go_enter Tryz.func224,Tryz.ntmps224
 go_wp2_with fail
 go_loopw [8] (fun vi wr=>∃ r:Nat,vi = .int .i64 r∧r≤hi∧Hid (zL w blk off n wr)) (fun vi _=>hi-(intOf vi).toNat)
 case atStart=>exact ⟨lo,rfl,hlo,zL.refl (zb HH)⟩
 case round=>
  obtain ⟨r,rfl,hr,HS⟩:=hrel
  by_cases h1:hi≤2*r+1
  ·have h1z:(hi:Int)≤2*(r:Int)+1:=by omega
   go_wp2_with fail
   go_end0
   exact ⟨rfl,zb HS⟩
  ·have h1z:¬((hi:Int)≤2*(r:Int)+1):=by omega
   obtain ⟨G,hcw,hfw⟩:=(zb HS).2
   by_cases h2:2*r+2<hi
   ·have h2z:2*(r:Int)+1+1<(hi:Int):=by omega
    go_wp2_with fail
    go_big_quiet (first |(go_at_call 201;refine Calls.quiet_of_same (zH _ _ _)))
    go_wp2_with fail
    all_goals
     revert nq;intro nq1
     have HS2:=ze ((zb HS).drewN nq1)
     obtain ⟨G,hcw,hfw⟩:=(zb HS2).2
     clear HS
     generalize wr.drewN nq1=wr2 at *
    ·go_big_quiet (first |(go_at_call 201;refine Calls.quiet_of_same (zH _ _ _)))
     go_wp2_with fail
     ·(try simp only [Exit.inBlock,Exit.then]);refine bodyPost_ret (results_none rfl _ _ _) rfl ?_
      exact ⟨rfl,(zb HS2).drewN _⟩
     ·go_region
      all_goals go_wp2
      go_roundw
      case rel=>exact ⟨2*r+2,by go_num,by omega,(((zb HS2).drewN _).set _ _).set _ _⟩
      case measure=>simp [intOf];omega
    ·go_big_quiet (first |(go_at_call 201;refine Calls.quiet_of_same (zH _ _ _)))
     go_wp2_with fail
     ·(try simp only [Exit.inBlock,Exit.then]);refine bodyPost_ret (results_none rfl _ _ _) rfl ?_
      exact ⟨rfl,(zb HS2).drewN _⟩
     ·go_region
      all_goals go_wp2
      go_roundw
      case rel=>exact ⟨2*r+1,by go_num,by omega,(((zb HS2).drewN _).set _ _).set _ _⟩
      case measure=>simp [intOf];omega
   ·have h2z:¬(2*(r:Int)+1+1<(hi:Int)):=by omega
    have h2d:decide (2*(r:Int)+1+1<(hi:Int))=false:=by simp;omega
    have h2e:(hi:Int)≤2*(r:Int)+1+1:=by omega
    go_wp2_with fail
    go_big_quiet (first |(go_at_call 201;refine Calls.quiet_of_same (zH _ _ _)))
    go_wp2_with fail
    revert nq;intro nq1
    have HS2:=ze ((zb HS).drewN nq1)
    obtain ⟨G,hcw,hfw⟩:=(zb HS2).2
    clear HS
    generalize wr.drewN nq1=wr2 at *
    go_big_quiet (first |(go_at_call 201;refine Calls.quiet_of_same (zH _ _ _)))
    go_wp2_with fail
    ·(try simp only [Exit.inBlock,Exit.then]);refine bodyPost_ret (results_none rfl _ _ _) rfl ?_
     exact ⟨rfl,(zb HS2).drewN _⟩
    ·go_region
     all_goals go_wp2
     go_roundw
     case rel=>exact ⟨2*r+1,by go_num,by omega,(((zb HS2).drewN _).set _ _).set _ _⟩
     case measure=>simp [intOf];omega
theorem zJ {a b:World}{blk off n i j q:Nat}{y z:Int}(h:zL a blk off n b):zL a blk off n (((b.drewN q).setCell ⟨blk,i,none⟩ (.int .i32 y)).setCell ⟨blk,j,none⟩ (.int .i32 z)):=((h.drewN q).set i y).set j z
theorem heapR (blk off n cap a b:Nat)(w:World)(h:jZ w blk off n)(hab:a<b)(hb:b≤n)(hn:n<1099511627776) :
  Calls Tryz.prog 196 #[.slice (some ⟨blk,off,none⟩) n cap,.int .i64 a,.int .i64 b] w fun e w'=>e = .returned (.tuple #[])∧zL w blk off n w':=by
 have HH:=ze h
 clear h
 have hhalf:((b:Int)-a-1).tdiv 2=(((b-a-1) / 2:Nat):Int):=by
  rw [show (b:Int)-a-1=((b-a-1:Nat):Int) by omega];rfl
 go_enter Tryz.func196,Tryz.ntmps196
 go_wp2_with fail
 have e1:((b-a:Nat):Int)=(b:Int)-a:=by omega
 go_loopw [9] (fun vi wr=>∃ i:Int,vi = .int .i64 i∧-1≤i∧i≤((b-a-1:Nat):Int) / 2∧Hid (zL w blk off n wr)) (fun vi _=>(intOf vi+1).toNat)
 case atStart=>exact ⟨_,rfl,by omega,Int.le_refl _,zL.refl (zb HH)⟩
 case round=>
  obtain ⟨i,rfl,h0,h1,HS⟩:=hrel
  by_cases hi:0≤i
  ·obtain ⟨i,rfl⟩:∃ q:Nat,i=q:=⟨i.toNat,by omega⟩
   go_wp2_with (go_at_call 224;have hs:=siftR blk off n cap i (b-a) a _ (zb HS).2 (by omega) (by omega) hn;rw [e1] at hs;refine hs.mono ?_;rintro e w1 ⟨rfl,hS1⟩;have HS1:=ze ((zb HS).trans hS1);clear hs hS1)
   exact ⟨⟨(i:Int)-1,by go_num,by omega,by omega,zb HS1⟩,by simp [intOf]⟩
  ·go_wp2_with fail
   go_loopw [10] (fun vi wr=>∃ i:Int,vi = .int .i64 i∧-1≤i∧i≤(b:Int)-a-1∧Hid (zL w blk off n wr)) (fun vi _=>(intOf vi+1).toNat)
   case atStart=>exact ⟨_,rfl,by omega,Int.le_refl _,HS⟩
   case round=>
    clear HS
    obtain ⟨i,rfl,h0,h1,HS⟩:=hrel
    by_cases hi:0≤i
    ·obtain ⟨i,rfl⟩:∃ q:Nat,i=q:=⟨i.toNat,by omega⟩
     obtain ⟨G,hcw,hfw⟩:=(zb HS).2
     have d1:=hcw a (by omega)
     have d2:=hcw (a+i) (by omega)
     have g1:=hfw a (by omega)
     have g2:=hfw (a+i) (by omega)
     by_cases hi0:i=0
     ·subst hi0
      go_wp2_with fail
      go_region
      go_wp2_with (go_at_call 224;refine (siftR blk off n cap 0 0 a _ ?_ (by omega) (by omega) hn).mono ?_;exact (zJ (zb HS)).2;rintro e w1 ⟨rfl,hS1⟩;have HS1:=ze (zL.trans (zJ (zb HS)) hS1);clear hS1)
      exact ⟨⟨((0:Nat):Int)-1,by go_num,by omega,by omega,zb HS1⟩,by simp [intOf]⟩
     ·go_wp2_with fail
      go_region
      go_wp2_with (go_at_call 224;refine (siftR blk off n cap 0 i a _ ?_ (by omega) (by omega) hn).mono ?_;exact (zJ (zb HS)).2;rintro e w1 ⟨rfl,hS1⟩;have HS1:=ze (zL.trans (zJ (zb HS)) hS1);clear hS1)
      exact ⟨⟨(i:Int)-1,by go_num,by omega,by omega,zb HS1⟩,by simp [intOf]⟩
    ·go_wp2_with fail
     go_end0
     exact ⟨rfl,zb HS⟩
theorem order2R (blk off n cap a b sb:Nat)(s:Int)(w:World)(h:jZ w blk off n)(ha:a<n)(hb:b<n)(_hsb:sb≠blk)(hc:w.cell? ⟨sb,0,none⟩=some (.int .i64 s))(hf:w.frozen? ⟨sb,0,none⟩=false)(hs0:0≤s)(hs:s<1000000)(_hn:n<1099511627776) :
  Calls Tryz.prog 255 #[.slice (some ⟨blk,off,none⟩) n cap,.int .i64 a,.int .i64 b,.pointer (some ⟨sb,0,none⟩)] w fun e w'=>∃ (x y:Nat) (s':Int),e = .returned (.tuple #[.int .i64 x,.int .i64 y])∧((x=a∧y=b)∨(x=b∧y=a))∧zf (zm sb) w w'∧w'.cell? ⟨sb,0,none⟩=some (.int .i64 s')∧w'.frozen? ⟨sb,0,none⟩=false∧s≤s'∧s'≤s+1:=by
 obtain ⟨G,hcw,hfw⟩:=h
 have HO:Hid (zf (zm sb) w w):=zf.refl _ _
 go_enter Tryz.func255,Tryz.ntmps255
 go_wp2_with fail
 go_big_quiet (first |(go_at_call 201;refine Calls.quiet_of_same (zH _ _ _)))
 go_wp2_with fail
 ·go_ret2
  exact ⟨b,a,s+1,rfl,.inr ⟨rfl,rfl⟩,((zb HO).drewN _).mine _ _,World.cell?_setCell_same _ _ _ hc,(zj _ _ _ _).trans hf,by omega,by omega⟩
 ·go_ret2
  exact ⟨a,b,s,rfl,.inl ⟨rfl,rfl⟩,(zb HO).drewN _,hc,hf,by omega,by omega⟩
def Cnt (w:World)(sb:Nat)(s:Int):Prop:=w.cell? ⟨sb,0,none⟩=some (.int .i64 s)∧w.frozen? ⟨sb,0,none⟩=false
theorem KW (blk off n cap a b sb:Nat)(s:Int)(w:World)(h:jZ w blk off n)(ha:a<n)(hb:b<n)(hsb:sb≠blk)(hc:Cnt w sb s)(hs0:0≤s)(hs:s<1000000)(hn:n<1099511627776) :
  Calls Tryz.prog 255 #[.slice (some ⟨blk,off,none⟩) n cap,.int .i64 a,.int .i64 b,.pointer (some ⟨sb,0,none⟩)] w fun e w'=>∃ (x y:Nat) (s':Int),e = .returned (.tuple #[.int .i64 x,.int .i64 y])∧((x=a∧y=b)∨(x=b∧y=a))∧zf (zm sb) w w'∧Cnt w' sb s'∧s≤s'∧s'≤s+1:=
 (order2R blk off n cap a b sb s w h ha hb hsb hc.1 hc.2 hs0 hs hn).mono (fun _e _w' ⟨x,y,s',h1,h2,h3,h4,h5,h6,h7⟩=>⟨x,y,s',h1,h2,h3,⟨h4,h5⟩,h6,h7⟩)
theorem KX (blk off n cap a b c sb:Nat)(s:Int)(w:World)(h:jZ w blk off n)(ha:a<n)(hb:b<n)(hc:c<n)(hsb:sb≠blk)(hC:Cnt w sb s)(hs0:0≤s)(hs:s<1000)(hn:n<1099511627776) :
  Calls Tryz.prog 228 #[.slice (some ⟨blk,off,none⟩) n cap,.int .i64 a,.int .i64 b,.int .i64 c,.pointer (some ⟨sb,0,none⟩)] w fun e w'=>∃ (x:Nat) (s':Int),e = .returned (.int .i64 x)∧(x=a∨x=b∨x=c)∧zf (zm sb) w w'∧Cnt w' sb s'∧s≤s'∧s'≤s+3:=by
 have HH:=ze h
 have HC:=ze hC
 have HO:Hid (zf (zm sb) w w):=zf.refl _ _
 clear h hC
 have hm:¬zm sb blk:=fun e=>hsb e.symm
 go_enter Tryz.func228,Tryz.ntmps228
 go_wp2_with fail
 refine (KW blk off n cap a b sb s _ (zb HH) ha hb hsb (zb HC) hs0 (by omega) hn).mono ?_
 rintro e w1 ⟨x1,y1,s1,rfl,hx1,hO1,hC1,hs1,hs1'⟩
 have HO1:=ze hO1
 have HH1:=ze ((zb HH).keep hO1 hm)
 have HC1:=ze hC1
 clear hO1 hC1
 have hx1n:x1<n∧y1<n:=by rcases hx1 with ⟨rfl,rfl⟩ |⟨rfl,rfl⟩<;>exact ⟨by assumption,by assumption⟩
 go_wp2_with fail
 refine (KW blk off n cap y1 c sb s1 _ (zb HH1) hx1n.2 hc hsb (zb HC1) (by omega) (by omega) hn).mono ?_
 rintro e w2 ⟨x2,y2,s2,rfl,hx2,hO2,hC2,hs2,hs2'⟩
 have HO2:=ze ((zb HO1).trans hO2)
 have HH2:=ze ((zb HH1).keep hO2 hm)
 have HC2:=ze hC2
 clear hO2 hC2
 have hx2n:x2<n∧y2<n:=by
  obtain ⟨h1,h2⟩:=hx1n
  rcases hx2 with ⟨rfl,rfl⟩ |⟨rfl,rfl⟩<;>exact ⟨by assumption,by assumption⟩
 go_wp2_with fail
 refine (KW blk off n cap x1 x2 sb s2 _ (zb HH2) hx1n.1 hx2n.1 hsb (zb HC2) (by omega) (by omega) hn).mono ?_
 rintro e w3 ⟨x3,y3,s3,rfl,hx3,hO3,hC3,hs3,hs3'⟩
 have HO3:=ze ((zb HO2).trans hO3)
 have HC3:=ze hC3
 clear hO3 hC3
 go_wp2_with fail
 go_ret
 refine ⟨y3,s3,rfl,?_,zb HO3,zb HC3,by omega,by omega⟩
 rcases hx1 with ⟨rfl,rfl⟩ |⟨rfl,rfl⟩<;>rcases hx2 with ⟨rfl,rfl⟩ |⟨rfl,rfl⟩<;>rcases hx3 with ⟨rfl,rfl⟩ |⟨rfl,rfl⟩<;>simp
theorem YA (blk off n cap a sb:Nat)(s:Int)(w:World)(h:jZ w blk off n)(ha1:1≤a)(ha:a+1<n)(hsb:sb≠blk)(hC:Cnt w sb s)(hs0:0≤s)(hs:s<1000)(hn:n<1099511627776) :
  Calls Tryz.prog 227 #[.slice (some ⟨blk,off,none⟩) n cap,.int .i64 a,.pointer (some ⟨sb,0,none⟩)] w fun e w'=>∃ (x:Nat) (s':Int),e = .returned (.int .i64 x)∧a≤x+1∧x≤a+1∧zf (zm sb) w w'∧Cnt w' sb s'∧s≤s'∧s'≤s+3:=by
 have HM:=ze (KX blk off n cap (a-1) a (a+1) sb s w h (by omega) (by omega) (by omega) hsb hC hs0 hs hn)
 rw [show ((a-1:Nat):Int)=(a:Int)-1 by omega,show ((a+1:Nat):Int)=(a:Int)+1 by omega] at HM
 clear h hC
 go_enter Tryz.func227,Tryz.ntmps227
 go_wp2_with (go_at_call 228;refine (zb HM).mono ?_;rintro e w1 ⟨x,s',rfl,hx,hO,hC,h1,h2⟩;have HO:=ze hO;have HC:=ze hC;clear hO hC)
 go_ret
 exact ⟨x,s',rfl,by omega,by omega,zb HO,zb HC,h1,h2⟩
theorem zaH {w A B:World}{k0:Nat}(hA:zf (fun _=>False) w A)(hB:zf (zm k0) A B)(h0:w.heap.size≤k0:=by omega):zf (fun _=>False) w B:=
 ⟨hB.os.trans hA.os,hB.tape.trans hA.tape,hB.output.trans hA.output,Nat.le_trans hA.size hB.size,fun k hk _=>(hB.block k (Nat.lt_of_lt_of_le hk hA.size) (fun e=>by unfold zm at e;omega)).trans (hA.block k hk (fun f=>f))⟩
theorem pivotR (blk off n cap a b:Nat)(w:World)(h:jZ w blk off n)(hblk:blk<w.heap.size)(hab:a+12<b)(hb:b≤n)(hn:n<1099511627776) :
  Calls Tryz.prog 198 #[.slice (some ⟨blk,off,none⟩) n cap,.int .i64 a,.int .i64 b] w fun e w'=>∃ (p:Nat) (hint:Int),e = .returned (.tuple #[.int .i64 p,.int .i64 hint])∧a≤p∧p<b∧0≤hint∧hint≤2∧zf (fun _=>False) w w':=by
 have HH:=ze h
 clear h
 obtain ⟨L,rfl⟩:∃ L,b=a+L:=⟨b-a,by omega⟩
 obtain ⟨q,hq⟩:∃ q,q=L / 4:=⟨_,rfl⟩
 have hq4:(L:Int).tdiv 4=q:=by rw [hq];rfl
 have hq4':(L:Int) / 4=q:=by rw [hq];rfl
 have hqL:4*q≤L∧L<4*q+4:=by omega
 have e0:(a:Int)+L-a=L:=by omega
 have e1:((a+q:Nat):Int)=(a:Int)+q:=by omega
 have e2:((a+q*2:Nat):Int)=(a:Int)+q*2:=by omega
 have e3:((a+q*3:Nat):Int)=(a:Int)+q*3:=by omega
 have HA:Hid (zf (fun _=>False) w (w.alloc (.cells #[.int .i64 0] 3))):=(zf.refl _ _).alloc _
 have HR:=ze ((zb HH).keep (zb HA) (fun f=>f))
 have HC0:Hid (Cnt (w.alloc (.cells #[.int .i64 0] 3)) w.heap.size 0):=⟨zo w _ rfl _ _ 0 _ rfl,zv w _ rfl _ _ 0⟩
 have hne:w.heap.size≠blk:=by omega
 have hm:¬zm w.heap.size blk:=fun e=>hne e.symm
 have HY:Hid (∀ A B:World,zf (fun _=>False) w A→zf (zm w.heap.size) A B→zf (fun _=>False) w B):=fun A B hA hB=>zaH hA hB
 clear hq hq4
 go_enter Tryz.func198,Tryz.ntmps198
 by_cases h50:50≤L
 ·go_wp2_with fail
  try simp only [e0,hq4']
  generalize w.alloc (.cells #[.int .i64 0] 3)=w0 at *
  have hM:=YA blk off n cap (a+q) w.heap.size 0 w0 (zb HR) (by omega) (by omega) hne (zb HC0) (by omega) (by omega) hn
  rw [e1] at hM
  refine hM.mono ?_
  clear hM
  rintro e w1 ⟨i1,s1,rfl,hi1,hi1',hO1,hC1,hs1,hs1'⟩
  have HA1:=ze (zb HY _ _ (zb HA) hO1)
  have HR1:=ze ((zb HR).keep hO1 hm)
  have HC1:=ze hC1
  clear hO1 hC1
  go_wp2_with fail
  have hM:=YA blk off n cap (a+q*2) w.heap.size s1 w1 (zb HR1) (by omega) (by omega) hne (zb HC1) (by omega) (by omega) hn
  rw [e2] at hM
  refine hM.mono ?_
  clear hM
  rintro e w2 ⟨i2,s2,rfl,hi2,hi2',hO2,hC2,hs2,hs2'⟩
  have HA2:=ze (zb HY _ _ (zb HA1) hO2)
  have HR2:=ze ((zb HR1).keep hO2 hm)
  have HC2:=ze hC2
  clear hO2 hC2
  go_wp2_with fail
  have hM:=YA blk off n cap (a+q*3) w.heap.size s2 w2 (zb HR2) (by omega) (by omega) hne (zb HC2) (by omega) (by omega) hn
  rw [e3] at hM
  refine hM.mono ?_
  clear hM
  rintro e w3 ⟨i3,s3,rfl,hi3,hi3',hO3,hC3,hs3,hs3'⟩
  have HA3:=ze (zb HY _ _ (zb HA2) hO3)
  have HR3:=ze ((zb HR2).keep hO3 hm)
  have HC3:=ze hC3
  clear hO3 hC3
  go_wp2_with fail
  have hM:=KX blk off n cap i1 i2 i3 w.heap.size s3 w3 (zb HR3) (by omega) (by omega) (by omega) hne (zb HC3) (by omega) (by omega) hn
  refine hM.mono ?_
  clear hM
  rintro e w4 ⟨x,s4,rfl,hx,hO4,hC4,hs4,hs4'⟩
  have HA4:=ze (zb HY _ _ (zb HA3) hO4)
  have c4:=hC4.1
  clear hO4 hC4
  have hxb:a≤x∧x<a+L:=by omega
  by_cases z0:s4=0
  ·subst z0
   go_wp2_with fail
   go_ret2
   exact ⟨x,1,rfl,hxb.1,hxb.2,by omega,by omega,zb HA4⟩
  ·by_cases z1:s4=12
   ·subst z1
    go_wp2_with fail
    go_ret2
    exact ⟨x,2,rfl,hxb.1,hxb.2,by omega,by omega,zb HA4⟩
   ·go_wp2_with fail
    go_ret2
    exact ⟨x,0,rfl,hxb.1,hxb.2,by omega,by omega,zb HA4⟩
 ·go_wp2_with fail
  try simp only [e0,hq4']
  generalize w.alloc (.cells #[.int .i64 0] 3)=w0 at *
  have hM:=KX blk off n cap (a+q) (a+q*2) (a+q*3) w.heap.size 0 w0 (zb HR) (by omega) (by omega) (by omega) hne (zb HC0) (by omega) (by omega) hn
  rw [e1,e2,e3] at hM
  refine hM.mono ?_
  clear hM
  rintro e w4 ⟨x,s4,rfl,hx,hO4,hC4,hs4,hs4'⟩
  have HA4:=ze (zb HY _ _ (zb HA) hO4)
  have c4:=hC4.1
  clear hO4 hC4
  have hxb:a≤x∧x<a+L:=by omega
  by_cases z0:s4=0
  ·subst z0
   go_wp2_with fail
   go_ret2
   exact ⟨x,1,rfl,hxb.1,hxb.2,by omega,by omega,zb HA4⟩
  ·have z1:s4≠12:=by omega
   go_wp2_with fail
   go_ret2
   exact ⟨x,0,rfl,hxb.1,hxb.2,by omega,by omega,zb HA4⟩
set_option maxHeartbeats 4000000
set_option maxRecDepth 1000000
theorem partialR (blk off n cap a b:Nat)(w:World)(h:jZ w blk off n)(hab:a<b)(hb:b≤n)(hn:n<1099511627776) :
  Calls Tryz.prog 200 #[.slice (some ⟨blk,off,none⟩) n cap,.int .i64 a,.int .i64 b] w fun e w'=>(∃ r,e = .returned (.bool r))∧zL w blk off n w':=by
 have HH:=ze h
 clear h
 go_enter Tryz.func200,Tryz.ntmps200
 go_wp2_with fail
 go_loopw [7,8] (fun vi vs wr=>∃ i s:Nat,vi = .int .i64 i∧vs = .int .i64 s∧a<i∧i≤b∧s≤5∧Hid (zL w blk off n wr)) (fun vi vs _=>5-(intOf vs).toNat)
 case atStart=>exact ⟨a+1,0,by go_num,rfl,by omega,by omega,by omega,zL.refl (zb HH)⟩
 case round=>
  obtain ⟨i0,s,rfl,rfl,hai0,hib0,hs,HS⟩:=hrel
  by_cases h5:s<5
  ·have h5z:(s:Int)<5:=by omega
   go_wp2_with fail
   go_loopw [7] (fun vi wr=>∃ i:Nat,vi = .int .i64 i∧a<i∧i≤b∧Hid (zL w blk off n wr)) (fun vi _=>b-(intOf vi).toNat)
   case atStart=>exact ⟨i0,rfl,hai0,hib0,HS⟩
   case round=>
    clear HS
    obtain ⟨i,rfl,hai,hib,HS⟩:=hrel
    by_cases hilt:i<b
    ·have hne:((i:Int) == (b:Int))=false:=by simp;omega
     obtain ⟨G,hcw,hfw⟩:=(zb HS).2
     by_cases h50:(b:Int)-a<50
     ·go_wp2_with fail
      go_big_quiet (first |(go_at_call 201;refine Calls.quiet_of_same (zH _ _ _)))
      go_wp2_with fail
      ·go_roundw
       case rel=>exact ⟨i+1,by go_num,by omega,by omega,(zb HS).drewN _⟩
       case measure=>simp [intOf];omega
      ·go_ret
       exact ⟨⟨_,rfl⟩,(zb HS).drewN _⟩
     ·have h50d:decide ((b:Int)-a<50)=false:=by simp;omega
      go_wp2_with fail
      go_big_quiet (first |(go_at_call 201;refine Calls.quiet_of_same (zH _ _ _)))
      go_wp2_with fail
      ·go_roundw
       case rel=>exact ⟨i+1,by go_num,by omega,by omega,(zb HS).drewN _⟩
       case measure=>simp [intOf];omega
      ·revert nq;intro nq1
       have HS2:=ze ((zb HS).drewN nq1)
       clear hcw hfw
       obtain ⟨G,hcw,hfw⟩:=(zb HS2).2
       clear HS
       generalize wr.drewN nq1=wr2 at *
       go_region
       have HT:=ze (zJ (i:=off+i) (j:=off+(i-1)) (q:=1) (y:=G (i-1)) (z:=G i) (zb HS2))
       by_cases hb2:2≤(b:Int)-i
       ·by_cases ha2:2≤(i:Int)-a
        ·go_wp2_with fail
         go_loopw [9] (fun vj wr2=>∃ j:Nat,vj = .int .i64 j∧j<i∧Hid (zL w blk off n wr2)) (fun vj _=>(intOf vj).toNat)
         case atStart=>exact ⟨i-1,by congr 1;omega,by omega,HT⟩
         case round=>
          clear HT
          obtain ⟨j,rfl,hji,HT⟩:=hrel
          by_cases hj1:1≤(j:Int)
          ·clear hcw hfw
           obtain ⟨G,hcw,hfw⟩:=(zb HT).2
           go_wp2_with fail
           go_big_quiet (first |(go_at_call 201;refine Calls.quiet_of_same (zH _ _ _)))
           go_wp2_with fail
           ·revert nq;intro nq1
            have HT2:=ze ((zb HT).drewN nq1)
            clear hcw hfw HT
            generalize wr.drewN nq1=wr2 at *
            have HT:=HT2
            clear HT2
            try go_wp2_with fail
            go_loopw [10] (fun vj wr2=>∃ j:Nat,vj = .int .i64 j∧i<j∧j≤b∧Hid (zL w blk off n wr2)) (fun vj _=>b-(intOf vj).toNat)
            case atStart=>exact ⟨i+1,by go_num,by omega,by omega,HT⟩
            case round=>
             clear HT
             obtain ⟨j,rfl,hij,hjb,HT⟩:=hrel
             by_cases hjb2:j<b
             ·obtain ⟨G,hcw,hfw⟩:=(zb HT).2
              go_wp2_with fail
              go_big_quiet (first |(go_at_call 201;refine Calls.quiet_of_same (zH _ _ _)))
              go_wp2_with fail
              ·go_roundw
               case rel=>exact ⟨i,s+1,rfl,by go_num,by omega,by omega,by omega,(zb HT).drewN _⟩
               case measure=>simp [intOf];omega
              ·revert nq;intro nq1
               have HT2:=ze ((zb HT).drewN nq1)
               clear hcw hfw
               obtain ⟨G,hcw,hfw⟩:=(zb HT2).2
               clear HT
               generalize wr.drewN nq1=wr2 at *
               go_region
               go_wp2_with fail
               go_roundw
               case rel=>exact ⟨j+1,by go_num,by omega,by omega,zJ (zb HT2)⟩
               case measure=>simp [intOf];omega
             ·go_wp2_with fail
              go_roundw
              case rel=>exact ⟨i,s+1,rfl,by go_num,by omega,by omega,by omega,zb HT⟩
              case measure=>simp [intOf];omega
           ·revert nq;intro nq1
            have HT2:=ze ((zb HT).drewN nq1)
            clear hcw hfw
            obtain ⟨G,hcw,hfw⟩:=(zb HT2).2
            clear HT
            generalize wr.drewN nq1=wr2 at *
            go_region
            go_wp2_with fail
            go_roundw
            case rel=>exact ⟨j-1,by congr 1;omega,by omega,zJ (zb HT2)⟩
            case measure=>simp [intOf];omega
          ·go_wp2_with fail
           try go_wp2_with fail
           go_loopw [10] (fun vj wr2=>∃ j:Nat,vj = .int .i64 j∧i<j∧j≤b∧Hid (zL w blk off n wr2)) (fun vj _=>b-(intOf vj).toNat)
           case atStart=>exact ⟨i+1,by go_num,by omega,by omega,HT⟩
           case round=>
            clear HT
            obtain ⟨j,rfl,hij,hjb,HT⟩:=hrel
            by_cases hjb2:j<b
            ·obtain ⟨G,hcw,hfw⟩:=(zb HT).2
             go_wp2_with fail
             go_big_quiet (first |(go_at_call 201;refine Calls.quiet_of_same (zH _ _ _)))
             go_wp2_with fail
             ·go_roundw
              case rel=>exact ⟨i,s+1,rfl,by go_num,by omega,by omega,by omega,(zb HT).drewN _⟩
              case measure=>simp [intOf];omega
             ·revert nq;intro nq1
              have HT2:=ze ((zb HT).drewN nq1)
              clear hcw hfw
              obtain ⟨G,hcw,hfw⟩:=(zb HT2).2
              clear HT
              generalize wr.drewN nq1=wr2 at *
              go_region
              go_wp2_with fail
              go_roundw
              case rel=>exact ⟨j+1,by go_num,by omega,by omega,zJ (zb HT2)⟩
              case measure=>simp [intOf];omega
            ·go_wp2_with fail
             go_roundw
             case rel=>exact ⟨i,s+1,rfl,by go_num,by omega,by omega,by omega,zb HT⟩
             case measure=>simp [intOf];omega
        ·go_wp2_with fail
         try go_wp2_with fail
         go_loopw [10] (fun vj wr2=>∃ j:Nat,vj = .int .i64 j∧i<j∧j≤b∧Hid (zL w blk off n wr2)) (fun vj _=>b-(intOf vj).toNat)
         case atStart=>exact ⟨i+1,by go_num,by omega,by omega,HT⟩
         case round=>
          clear HT
          obtain ⟨j,rfl,hij,hjb,HT⟩:=hrel
          by_cases hjb2:j<b
          ·obtain ⟨G,hcw,hfw⟩:=(zb HT).2
           go_wp2_with fail
           go_big_quiet (first |(go_at_call 201;refine Calls.quiet_of_same (zH _ _ _)))
           go_wp2_with fail
           ·go_roundw
            case rel=>exact ⟨i,s+1,rfl,by go_num,by omega,by omega,by omega,(zb HT).drewN _⟩
            case measure=>simp [intOf];omega
           ·revert nq;intro nq1
            have HT2:=ze ((zb HT).drewN nq1)
            clear hcw hfw
            obtain ⟨G,hcw,hfw⟩:=(zb HT2).2
            clear HT
            generalize wr.drewN nq1=wr2 at *
            go_region
            go_wp2_with fail
            go_roundw
            case rel=>exact ⟨j+1,by go_num,by omega,by omega,zJ (zb HT2)⟩
            case measure=>simp [intOf];omega
          ·go_wp2_with fail
           go_roundw
           case rel=>exact ⟨i,s+1,rfl,by go_num,by omega,by omega,by omega,zb HT⟩
           case measure=>simp [intOf];omega
       ·have hb2d:decide (2≤(b:Int)-i)=false:=by simp;omega
        by_cases ha2:2≤(i:Int)-a
        ·go_wp2_with fail
         go_loopw [9] (fun vj wr2=>∃ j:Nat,vj = .int .i64 j∧j<i∧Hid (zL w blk off n wr2)) (fun vj _=>(intOf vj).toNat)
         case atStart=>exact ⟨i-1,by congr 1;omega,by omega,HT⟩
         case round=>
          clear HT
          obtain ⟨j,rfl,hji,HT⟩:=hrel
          by_cases hj1:1≤(j:Int)
          ·clear hcw hfw
           obtain ⟨G,hcw,hfw⟩:=(zb HT).2
           go_wp2_with fail
           go_big_quiet (first |(go_at_call 201;refine Calls.quiet_of_same (zH _ _ _)))
           go_wp2_with fail
           ·revert nq;intro nq1
            have HT2:=ze ((zb HT).drewN nq1)
            clear hcw hfw HT
            generalize wr.drewN nq1=wr2 at *
            have HT:=HT2
            clear HT2
            try go_wp2_with fail
            go_roundw
            case rel=>exact ⟨i,s+1,rfl,by go_num,by omega,by omega,by omega,zb HT⟩
            case measure=>simp [intOf];omega
           ·revert nq;intro nq1
            have HT2:=ze ((zb HT).drewN nq1)
            clear hcw hfw
            obtain ⟨G,hcw,hfw⟩:=(zb HT2).2
            clear HT
            generalize wr.drewN nq1=wr2 at *
            go_region
            go_wp2_with fail
            go_roundw
            case rel=>exact ⟨j-1,by congr 1;omega,by omega,zJ (zb HT2)⟩
            case measure=>simp [intOf];omega
          ·go_wp2_with fail
           try go_wp2_with fail
           go_roundw
           case rel=>exact ⟨i,s+1,rfl,by go_num,by omega,by omega,by omega,zb HT⟩
           case measure=>simp [intOf];omega
        ·go_wp2_with fail
         try go_wp2_with fail
         go_roundw
         case rel=>exact ⟨i,s+1,rfl,by go_num,by omega,by omega,by omega,zb HT⟩
         case measure=>simp [intOf];omega
    ·obtain rfl:i=b:=by omega
     have hg:decide ((i:Int)<(i:Int))=false:=by simp
     go_wp2_with fail
     go_big_quiet (first |(go_at_call 201;refine Calls.quiet_of_same (zH _ _ _)))
     go_wp2_with fail
     go_ret
     exact ⟨⟨_,rfl⟩,(zb HS).drewN _⟩
  ·go_wp2_with fail
   go_ret
   exact ⟨⟨_,rfl⟩,zb HS⟩
def xr (w:World)(blk off n:Nat)(G:Nat→Int):Prop:=(∀ t,t<n→w.cell? ⟨blk,off+t,none⟩=some (.int .i32 (G t)))∧∀ t,t<n→w.frozen? ⟨blk,off+t,none⟩=false
theorem partEqR (blk off n cap a b p:Nat)(w:World)(h:jZ w blk off n)(hap:a≤p)(hpb:p<b)(hb:b≤n)(hn:n<1099511627776) :
  Calls Tryz.prog 202 #[.slice (some ⟨blk,off,none⟩) n cap,.int .i64 a,.int .i64 b,.int .i64 p] w fun e w'=>∃ i:Nat,e = .returned (.int .i64 i)∧a<i∧i≤b∧zL w blk off n w':=by
 obtain ⟨G,hcw,hfw⟩:=h
 have HH:Hid (zL w blk off n w):=zL.refl ⟨G,hcw,hfw⟩
 go_enter Tryz.func202,Tryz.ntmps202
 have hpn:p<n:=by omega
 have d2:=hcw p hpn
 have g2:=hfw p hpn
 have d1:=hcw a (by omega)
 have g1:=hfw a (by omega)
 obtain ⟨y,hy⟩:∃ y,y=G p:=⟨_,rfl⟩
 obtain ⟨z,hz⟩:∃ z,z=G a:=⟨_,rfl⟩
 rw [←hy] at d2
 rw [←hz] at d1
 rcases Nat.lt_or_ge a p with hpa |hpa
 ·go_wp2_with fail
  go_region
  go_wp2_with fail
  clear d1 d2 g1 g2 hcw hfw hy hz
  go_loopw [9,10] (fun vi vj wr=>∃ i j:Nat,vi = .int .i64 i∧vj = .int .i64 j∧a<i∧i≤j+1∧j<b∧Hid (zL w blk off n wr)) (fun vi vj _=>(intOf vj+1-intOf vi).toNat)
  case atStart=>exact ⟨a+1,b-1,by go_num,by congr 1;omega,by omega,by omega,by omega,(by first |exact zJ (zb HH) |exact ((zb HH).drewN _).set _ _)⟩
  case round=>
   clear HH
   obtain ⟨i,j,rfl,rfl,hai,hij,hjb,HS⟩:=hrel
   obtain ⟨G,hcw,hfw⟩:=(zb HS).2
   have HG:Hid (xr wr blk off n G):=⟨hcw,hfw⟩
   go_wp2_with fail
   go_loopw [9] (fun vi wr2=>∃ i2:Nat,vi = .int .i64 i2∧i≤i2∧i2≤j+1∧Hid (zL w blk off n wr2)∧Hid (xr wr2 blk off n G)) (fun vi _=>j+1-(intOf vi).toNat)
   case atStart=>exact ⟨i,rfl,Nat.le_refl _,hij,HS,HG⟩
   case round=>
    clear HS HG
    obtain ⟨i2,rfl,hai2,hij2,HS,HG⟩:=hrel
    by_cases hle1:i2≤j
    ·clear hcw hfw
     obtain ⟨hcw,hfw⟩:=zb HG
     go_wp2_with fail
     go_big_quiet (first |(go_at_call 201;refine Calls.quiet_of_same (zH _ _ _)))
     go_wp2_with fail
     ·go_roundw
      case rel=>exact ⟨i2+1,by go_num,by omega,by omega,(zb HS).drewN _,zb HG⟩
      case measure=>simp [intOf];omega
     ·have hf1:Sort.ltInt (G a) (G i2)=true:=by simpa using (by assumption:(!Sort.ltInt (G a) (G i2))=false)
      revert nq;intro nq1
      have HS2:=ze ((zb HS).drewN nq1)
      have HG2:Hid (xr (wr.drewN nq1) blk off n G):=zb HG
      clear hcw hfw HS HG
      generalize wr.drewN nq1=wr5 at *
      have HS:=HS2
      have HG:=HG2
      clear HS2 HG2
      obtain ⟨hcw,hfw⟩:=zb HG
      go_loopw [10] (fun vj wr3=>∃ j2:Nat,vj = .int .i64 j2∧i2≤j2+1∧j2≤j∧Hid (zL w blk off n wr3)∧Hid (xr wr3 blk off n G)) (fun vj _=>(intOf vj).toNat)
      case atStart=>exact ⟨j,rfl,by omega,Nat.le_refl _,HS,HG⟩
      case round=>
       clear HS HG
       obtain ⟨j2,rfl,hij2,hj2,HS,HG⟩:=hrel
       by_cases hle:i2≤j2
       ·have hgt:decide ((j2:Int)<(i2:Int))=false:=by simp;omega
        clear hcw hfw
        obtain ⟨hcw,hfw⟩:=zb HG
        go_wp2_with fail
        go_big_quiet (first |(go_at_call 201;refine Calls.quiet_of_same (zH _ _ _)))
        go_wp2_with fail
        ·go_roundw
         case rel=>exact ⟨j2-1,by congr 1;omega,by omega,by omega,(zb HS).drewN _,zb HG⟩
         case measure=>simp [intOf];omega
        ·have hf2:Sort.ltInt (G a) (G j2)=false:=by assumption
         have hlt:i2<j2:=by
          rcases Nat.lt_or_ge i2 j2 with h |h
          ·exact h
          ·obtain rfl:i2=j2:=by omega
           exact absurd hf2 (by rw [hf1];simp)
         revert nq;intro nq2
         have HS2:=ze ((zb HS).drewN nq2)
         clear hcw hfw
         obtain ⟨hcw,hfw⟩:xr (wr.drewN nq2) blk off n G:=zb HG
         clear HS HG
         generalize wr.drewN nq2=wr4 at *
         go_region
         go_wp2_with fail
         go_roundw
         case rel=>exact ⟨i2+1,j2-1,by go_num,by congr 1;omega,by omega,by omega,by omega,zJ (zb HS2)⟩
         case measure=>simp [intOf];omega
       ·have hgt:(j2:Int)<(i2:Int):=by omega
        have hgd:decide ((i2:Int)≤(j2:Int))=false:=by simp;omega
        go_wp2_with fail
        go_big_quiet (first |(go_at_call 201;refine Calls.quiet_of_same (zH _ _ _)))
        go_wp2_with fail
        have HT:=ze ((zb HS).drewN nq)
        have HGT:Hid (xr (wr.drewN nq) blk off n G):=zb HG
        clear HS HG
        generalize wr.drewN nq=wr4 at *
        go_ret
        exact ⟨i2,rfl,by omega,by omega,zb HT⟩
    ·have hgd1:decide ((i2:Int)≤(j:Int))=false:=by simp;omega
     go_wp2_with fail
     go_big_quiet (first |(go_at_call 201;refine Calls.quiet_of_same (zH _ _ _)))
     go_wp2_with fail
     have HS2:=ze ((zb HS).drewN nq)
     have HG2:Hid (xr (wr.drewN nq) blk off n G):=zb HG
     clear HS HG
     generalize wr.drewN nq=wr5 at *
     have HS:=HS2
     have HG:=HG2
     clear HS2 HG2
     obtain ⟨hcw,hfw⟩:=zb HG
     go_loopw [10] (fun vj wr3=>∃ j2:Nat,vj = .int .i64 j2∧i2≤j2+1∧j2≤j∧Hid (zL w blk off n wr3)∧Hid (xr wr3 blk off n G)) (fun vj _=>(intOf vj).toNat)
     case atStart=>exact ⟨j,rfl,by omega,Nat.le_refl _,HS,HG⟩
     case round=>
      clear HS HG
      obtain ⟨j2,rfl,hij2,hj2,HS,HG⟩:=hrel
      have hle:¬i2≤j2:=by omega
      ·have hgt:(j2:Int)<(i2:Int):=by omega
       have hgd:decide ((i2:Int)≤(j2:Int))=false:=by simp;omega
       go_wp2_with fail
       go_big_quiet (first |(go_at_call 201;refine Calls.quiet_of_same (zH _ _ _)))
       go_wp2_with fail
       have HT:=ze ((zb HS).drewN nq)
       have HGT:Hid (xr (wr.drewN nq) blk off n G):=zb HG
       clear HS HG
       generalize wr.drewN nq=wr4 at *
       go_ret
       exact ⟨i2,rfl,by omega,by omega,zb HT⟩
 ·obtain rfl:a=p:=by omega
  go_wp2_with fail
  go_region
  go_wp2_with fail
  clear d1 d2 g1 g2 hcw hfw hy hz
  go_loopw [9,10] (fun vi vj wr=>∃ i j:Nat,vi = .int .i64 i∧vj = .int .i64 j∧a<i∧i≤j+1∧j<b∧Hid (zL w blk off n wr)) (fun vi vj _=>(intOf vj+1-intOf vi).toNat)
  case atStart=>exact ⟨a+1,b-1,by go_num,by congr 1;omega,by omega,by omega,by omega,(by first |exact zJ (zb HH) |exact ((zb HH).drewN _).set _ _)⟩
  case round=>
   clear HH
   obtain ⟨i,j,rfl,rfl,hai,hij,hjb,HS⟩:=hrel
   obtain ⟨G,hcw,hfw⟩:=(zb HS).2
   have HG:Hid (xr wr blk off n G):=⟨hcw,hfw⟩
   go_wp2_with fail
   go_loopw [9] (fun vi wr2=>∃ i2:Nat,vi = .int .i64 i2∧i≤i2∧i2≤j+1∧Hid (zL w blk off n wr2)∧Hid (xr wr2 blk off n G)) (fun vi _=>j+1-(intOf vi).toNat)
   case atStart=>exact ⟨i,rfl,Nat.le_refl _,hij,HS,HG⟩
   case round=>
    clear HS HG
    obtain ⟨i2,rfl,hai2,hij2,HS,HG⟩:=hrel
    by_cases hle1:i2≤j
    ·clear hcw hfw
     obtain ⟨hcw,hfw⟩:=zb HG
     go_wp2_with fail
     go_big_quiet (first |(go_at_call 201;refine Calls.quiet_of_same (zH _ _ _)))
     go_wp2_with fail
     ·go_roundw
      case rel=>exact ⟨i2+1,by go_num,by omega,by omega,(zb HS).drewN _,zb HG⟩
      case measure=>simp [intOf];omega
     ·have hf1:Sort.ltInt (G a) (G i2)=true:=by simpa using (by assumption:(!Sort.ltInt (G a) (G i2))=false)
      revert nq;intro nq1
      have HS2:=ze ((zb HS).drewN nq1)
      have HG2:Hid (xr (wr.drewN nq1) blk off n G):=zb HG
      clear hcw hfw HS HG
      generalize wr.drewN nq1=wr5 at *
      have HS:=HS2
      have HG:=HG2
      clear HS2 HG2
      obtain ⟨hcw,hfw⟩:=zb HG
      go_loopw [10] (fun vj wr3=>∃ j2:Nat,vj = .int .i64 j2∧i2≤j2+1∧j2≤j∧Hid (zL w blk off n wr3)∧Hid (xr wr3 blk off n G)) (fun vj _=>(intOf vj).toNat)
      case atStart=>exact ⟨j,rfl,by omega,Nat.le_refl _,HS,HG⟩
      case round=>
       clear HS HG
       obtain ⟨j2,rfl,hij2,hj2,HS,HG⟩:=hrel
       by_cases hle:i2≤j2
       ·have hgt:decide ((j2:Int)<(i2:Int))=false:=by simp;omega
        clear hcw hfw
        obtain ⟨hcw,hfw⟩:=zb HG
        go_wp2_with fail
        go_big_quiet (first |(go_at_call 201;refine Calls.quiet_of_same (zH _ _ _)))
        go_wp2_with fail
        ·go_roundw
         case rel=>exact ⟨j2-1,by congr 1;omega,by omega,by omega,(zb HS).drewN _,zb HG⟩
         case measure=>simp [intOf];omega
        ·have hf2:Sort.ltInt (G a) (G j2)=false:=by assumption
         have hlt:i2<j2:=by
          rcases Nat.lt_or_ge i2 j2 with h |h
          ·exact h
          ·obtain rfl:i2=j2:=by omega
           exact absurd hf2 (by rw [hf1];simp)
         revert nq;intro nq2
         have HS2:=ze ((zb HS).drewN nq2)
         clear hcw hfw
         obtain ⟨hcw,hfw⟩:xr (wr.drewN nq2) blk off n G:=zb HG
         clear HS HG
         generalize wr.drewN nq2=wr4 at *
         go_region
         go_wp2_with fail
         go_roundw
         case rel=>exact ⟨i2+1,j2-1,by go_num,by congr 1;omega,by omega,by omega,by omega,zJ (zb HS2)⟩
         case measure=>simp [intOf];omega
       ·have hgt:(j2:Int)<(i2:Int):=by omega
        have hgd:decide ((i2:Int)≤(j2:Int))=false:=by simp;omega
        go_wp2_with fail
        go_big_quiet (first |(go_at_call 201;refine Calls.quiet_of_same (zH _ _ _)))
        go_wp2_with fail
        have HT:=ze ((zb HS).drewN nq)
        have HGT:Hid (xr (wr.drewN nq) blk off n G):=zb HG
        clear HS HG
        generalize wr.drewN nq=wr4 at *
        go_ret
        exact ⟨i2,rfl,by omega,by omega,zb HT⟩
    ·have hgd1:decide ((i2:Int)≤(j:Int))=false:=by simp;omega
     go_wp2_with fail
     go_big_quiet (first |(go_at_call 201;refine Calls.quiet_of_same (zH _ _ _)))
     go_wp2_with fail
     have HS2:=ze ((zb HS).drewN nq)
     have HG2:Hid (xr (wr.drewN nq) blk off n G):=zb HG
     clear HS HG
     generalize wr.drewN nq=wr5 at *
     have HS:=HS2
     have HG:=HG2
     clear HS2 HG2
     obtain ⟨hcw,hfw⟩:=zb HG
     go_loopw [10] (fun vj wr3=>∃ j2:Nat,vj = .int .i64 j2∧i2≤j2+1∧j2≤j∧Hid (zL w blk off n wr3)∧Hid (xr wr3 blk off n G)) (fun vj _=>(intOf vj).toNat)
     case atStart=>exact ⟨j,rfl,by omega,Nat.le_refl _,HS,HG⟩
     case round=>
      clear HS HG
      obtain ⟨j2,rfl,hij2,hj2,HS,HG⟩:=hrel
      have hle:¬i2≤j2:=by omega
      ·have hgt:(j2:Int)<(i2:Int):=by omega
       have hgd:decide ((i2:Int)≤(j2:Int))=false:=by simp;omega
       go_wp2_with fail
       go_big_quiet (first |(go_at_call 201;refine Calls.quiet_of_same (zH _ _ _)))
       go_wp2_with fail
       have HT:=ze ((zb HS).drewN nq)
       have HGT:Hid (xr (wr.drewN nq) blk off n G):=zb HG
       clear HS HG
       generalize wr.drewN nq=wr4 at *
       go_ret
       exact ⟨i2,rfl,by omega,by omega,zb HT⟩
end
end Go.Proofs.YtnagphodmfejiaaGreatDoor
