/- The program of a pattern, made: New, with its cuts. -/
import Derived.Test.YtcgleficedipkaaGreatDoorYSxHSxN
namespace Go.Proofs.YtcgleficedipkaaGreatDoor
variable {w w':World}{v:Value}{cs:List Int}
section
open Go.RowKit Go.Shelf Go.Lib
open Sm (Stp Tree capT)
set_option maxHeartbeats 4000000
set_option maxRecDepth 1000000
def CutsAt (w:World)(A:Nat->Prop)(pb:Nat)(cs:List Int):Prop:=∃ v,w.cell? ⟨pb,3,none⟩=some v/\((v = .slice none 0 0/\cs=[])\/∃ g cap,v = .slice (some ⟨g,0,none⟩) cs.length cap/\A g/\g≠pb/\Sort.Holds (Value.int .i32) w g 0 cs.toArray)
theorem CutV.slice (h:CutV w w' v cs):∃ a k c,v = .slice a k c:=by rcases h with ⟨h,_⟩ |⟨g,cap,h,_⟩<;>exact ⟨_,_,_,h⟩
theorem zcT:jl []=[]:=List.eq_nil_iff_forall_not_mem.2 (fun x hx=>by have:=((Yq (#[]:Array Int)).2 x).1 hx;simp at this)
theorem CutV.cutsAt {pb:Nat}{A:Nat->Prop}(h:CutV w w' v cs)(hp:pb<w.heap.size)(hA:∀ g,w.heap.size<g->A g):(∃ u,w'.cell? ⟨pb,3,none⟩=some u)->CutsAt (w'.setCell ⟨pb,3,none⟩ v) A pb (jl cs):=by
 rintro ⟨u,hu⟩;refine ⟨v,yY _ _ _ hu,?_⟩;rcases h with ⟨h1,h2⟩ |⟨g,cap,h1,h2,h3⟩
 ·exact .inl ⟨h1,by rw [h2];exact zcT⟩
 ·refine .inr ⟨g,cap,h1,hA g h2,by omega,fun t ht=>⟨?_,(zk _ _ _ _).trans (h3 t ht).2⟩⟩;exact (zF _ _ _ _ (by simp<;>omega)).trans (h3 t ht).1
theorem newX (F:Nat)(T:Tree)(v:Value)(w:World)(hp:vJ F w w.heap.size v T)(hif:∃ T y,v = .iface T y)(hc:capT F T<=299) :
  Calls Tryz.prog 37 #[v] w fun e w'=>∃ pb W cs,e = .returned (.pointer (some ⟨pb,0,none⟩))/\xi w' (fun g=>w.heap.size<=g) pb (Sm.prg F T).2 (Sm.prg F T).1 W/\(((Sm.prg F T).2.any askS)=true->W=Cs.zT 119)/\CutsAt w' (fun g=>w.heap.size<=g) pb cs/\cs.Pairwise (· < ·)/\(∀ x∈cs,0<=x/\x<=1114112)/\(∀ c d,Fnd.grp cs c=Fnd.grp cs d->W c=W d/\∀ s∈(Sm.prg F T).2,Prg.setP s c=Prg.setP s d)/\Q8 w w':=by
 obtain ⟨iT,iy,rfl⟩:=hif;have hlen:((Sm.prg F T).2.length:Int)<=300:=by
  have:=Sm.XI hp.at'.wf (by omega) 0 [Sm.q8];simp at this;unfold Sm.prg;omega
 have HP:=zc hp;clear hp;have HO1:Hid (Q8 w (w.alloc (.cells #[.slice none 0 0] 156))):=(ze.refl _ _).alloc _;have HB1:Hid (qi (w.alloc (.cells #[.slice none 0 0] 156)) w.heap.size []):=⟨⟨.slice none 0 0,zm w _ rfl _ _ 0 _ rfl,qD _ _ _ _,fun z hz=>by cases hz⟩,zG w _ rfl _ _ 0⟩
 go_enter Tryz.func37,Tryz.ntmps37;go_upto_region 4 with (first |(go_at_call 66;refine (kV w.heap.size [] Sm.q8 _ (zb HB1) (by decide) (by decide)).mono ?_;rintro e w2 ⟨Z2,rfl,hZ2,hB2⟩;have HB2:=zc hB2;have HZ2:=zc hZ2;clear hB2 hZ2));have hs2:sts Z2=[Sm.q8]:=by have:=zb HZ2;simpa [sts] using this
 have hO2:ze (fun k=>w.heap.size<=k) w w2:=((zb HO1).mono (fun _ _ f=>f.elim)).trans (zb HB2).only;have HBu:Hid (Calls Tryz.prog 67 #[.pointer (some ⟨w.heap.size,0,none⟩),.iface iT iy,.int .i64 0] w2 (vo w2 w.heap.size (Sm.prg F T))):=by
  have hb:=zbB w.heap.size F (.iface iT iy) T 0 Z2 w2 ((zb HP).keep hO2) (zb HB2).at' (by rw [<-zU,hs2];decide) (by rw [hs2];unfold Sm.prg at hlen;omega);rw [hs2] at hb;exact hb
 clear hs2;refine (zb HBu).mono ?_;rintro e w3 ⟨Z,rfl,hZ,hB3⟩;obtain ⟨sv,d1,_⟩:=hB3.at'.ex;have hO3:Q8 w w3:=by
  have:=hO2.trans hB3.only;exact ⟨this.os,this.tape,this.output,this.size,fun j hj _=>this.block j hj (by omega)⟩
 have hZl:Z.length=(Sm.prg F T).2.length:=by rw [<-hZ,zU]
 have hpos:0<Z.length:=by
  have:=Sm.yU F T 0 [Sm.q8];simp at this;unfold Sm.prg at hZl;omega
 obtain ⟨g,cap,rfl,hN⟩:=VA (st:=(Sm.prg F T).1) hB3.at' d1 hpos hO3;have HN:=zc hN;have HZ:=zc hZ;have HZl:=zc hZl;clear hZ hZl hN hB3 hO3 hO2;have hZ300:Z.length<=300:=by have:=zb HZl;omega
 have HFit:Hid (∀ (k:Nat) s,(Sm.prg F T).2[k]?=some s->s.next<(Sm.prg F T).2.length/\s.other<(Sm.prg F T).2.length):=by
  intro k s hk;exact Sm.VN F T 0 [Sm.q8] (by simp) (fun s hs=>by obtain rfl:=xf.1 hs;decide) s (xP hk)
 have HStl:Hid ((Sm.prg F T).1<(Sm.prg F T).2.length):=Sm.qt F T 0 [Sm.q8] (by simp);go_upto_region 5 with fail;generalize w3.alloc (.cells #[.slice (some ⟨g,0,none⟩) Z.length cap,.int .i64 ((Sm.prg F T).1:Nat),.slice none 0 0,.slice none 0 0] 168)=w4 at *;generalize w3.heap.size=pb at *;have hc0:=(zb HN).at'.c0;obtain ⟨zs,hzs⟩:=slcs Z (zb HN).sets;have Hzs:=zc hzs;clear hzs;have HCo:=zc (Qp Z g cap w4 (fun z hz=>Kp ((zb HN).sets z hz)) (zb HN).at'.row (zb HN).at'.gl (by omega));have hany:Z.any (fun z=>askS z.1)=(Sm.prg F T).2.any askS:=by rw [<-zb HZ];unfold sts;rw [List.any_map];rfl
 rw [hany] at HCo;clear hany hpos d1;cases hcb:(Sm.prg F T).2.any askS
 ·rw [hcb] at HCo;have Hcb:=zc hcb;clear hcb;go_upto_region 7 with (go_at_call 68;refine (zb HCo).mono ?_;rintro e w5 ⟨rfl,hO5⟩;have HN6:=zc ((zb HN).keep hO5);clear hO5);go_wp2_with (first |(go_at_call 72;refine (Vz pb _).mono ?_;rintro e w8 ⟨v,rfl,kb,rfl,hkb1,hkb2,hO8⟩;have HN8:=zc ((zb HN6).keep hO8);have HK8:=zc hkb2;have hkl:=zE w8 _ hkb2;clear hO8 hkb2) |(go_at_call 71;(obtain ⟨sp,hsp1,hsp2,hsp3⟩:=(zb HN8).spansF (zb Hzs));have HSp:=zc (And.intro hsp2 hsp3);have HBd:=zc (za8 hsp1);have hpl8:=(zb HN8).pl;have ho8:=(zb HN8).only.size;refine (Yr sp 126 #[.pointer (some ⟨kb,0,none⟩)] (((none,0,0):Slc) :: zs) (fun k=>k=kb\/k=pb\/k=g) _ (enters_of Tryz.func126 (by kernel_rfl) rfl) (Vy pb g cap kb Z ((none,0,0):Slc) zs _ (zb HN8).at' (zb HK8) (zb Hzs) (by omega) 8 (by omega)) (fun k hk=>by rcases hk with rfl |rfl |rfl;exact hkl;exact (zb HN8).pl;exact (zb HN8).at'.gl) (by have h9:=congrArg List.length (zb Hzs);simp at h9;simp;omega) hsp1).mono ?_;rintro e w9 ⟨⟨v9,rfl,hV9⟩,hO9⟩;(obtain ⟨ra,rk,rc,rfl⟩:=hV9.slice);have HV9:=zc (hV9.cutsAt (pb:=pb) (A:=fun g=>w.heap.size<=g) hpl8 (fun g hg=>by omega));clear hsp1 hsp2 hsp3 hpl8 ho8 hV9;have hN9:=(zb HN8).keep hO9;(obtain ⟨u9,d3⟩:=hN9.c3);have f3:=hN9.f3;have HN9:=zc hN9;clear hO9 hN9));go_ret;have hE:=(zb HN9).setOther (.slice ra rk rc);refine ⟨pb,(fun _=>false),_,rfl,?_,?_,zb HV9 (zb HN9).c3,Ys _,zb HBd,fun c d hg=>?_,hE.only⟩
  ·have hPr:=hE.prog (by omega) ?_ ?_
   ·rw [zb HZ] at hPr;exact hPr
   ·rw [zb HZ];exact zb HFit
   ·rw [zb HZ];exact zb HStl
  ·intro h;rw [zb Hcb] at h;cases h
  ·obtain ⟨a1,a2⟩:=VX (zb HSp).1 (zb HSp).2 hg;refine ⟨a1,fun s hs=>?_⟩;rw [<-zb HZ] at hs;obtain ⟨z,hz1,rfl⟩:=Zz.1 hs;exact a2 z hz1
 ·rw [hcb] at HCo;clear hcb;go_upto_region 7 with (first |(go_at_call 68;refine (zb HCo).mono ?_;rintro e w5 ⟨rfl,hO5⟩;have HN5:=zc ((zb HN).keep hO5);clear hO5) |(go_at_call 70;refine (vW _).mono ?_;rintro e w6 ⟨v,rfl,hS6,hO6⟩;(obtain ⟨sv6,sp6,rfl,_⟩:=id hS6);(obtain ⟨⟨pa6,pn6,pc6⟩,rfl⟩:=Kp hS6);unfold slV at hS6 ⊢;simp only [] at hS6 ⊢;have hN6:=(zb HN5).keep hO6;have d2:=hN6.at'.c2;have f2:=hN6.f2;have HW:=zc (hN6.setWord (ws':=(pa6,pn6,pc6)) (W':=Cs.zT 119) (hS6.mono (fun q _ hq=>⟨by have:=(zb HN5).only.size;omega,by have:=(zb HN5).pl;omega⟩)));clear hN6 hS6 hO6));have HN6:=HW;go_wp2_with (first |(go_at_call 72;refine (Vz pb _).mono ?_;rintro e w8 ⟨v,rfl,kb,rfl,hkb1,hkb2,hO8⟩;have HN8:=zc ((zb HN6).keep hO8);have HK8:=zc hkb2;have hkl:=zE w8 _ hkb2;clear hO8 hkb2) |(go_at_call 71;(obtain ⟨sp,hsp1,hsp2,hsp3⟩:=(zb HN8).spansF (zb Hzs));have HSp:=zc (And.intro hsp2 hsp3);have HBd:=zc (za8 hsp1);have hpl8:=(zb HN8).pl;have ho8:=(zb HN8).only.size;refine (Yr sp 126 #[.pointer (some ⟨kb,0,none⟩)] (((pa6,pn6,pc6):Slc) :: zs) (fun k=>k=kb\/k=pb\/k=g) _ (enters_of Tryz.func126 (by kernel_rfl) rfl) (Vy pb g cap kb Z ((pa6,pn6,pc6):Slc) zs _ (zb HN8).at' (zb HK8) (zb Hzs) (by omega) 8 (by omega)) (fun k hk=>by rcases hk with rfl |rfl |rfl;exact hkl;exact (zb HN8).pl;exact (zb HN8).at'.gl) (by have h9:=congrArg List.length (zb Hzs);simp at h9;simp;omega) hsp1).mono ?_;rintro e w9 ⟨⟨v9,rfl,hV9⟩,hO9⟩;(obtain ⟨ra,rk,rc,rfl⟩:=hV9.slice);have HV9:=zc (hV9.cutsAt (pb:=pb) (A:=fun g=>w.heap.size<=g) hpl8 (fun g hg=>by omega));clear hsp1 hsp2 hsp3 hpl8 ho8 hV9;have hN9:=(zb HN8).keep hO9;(obtain ⟨u9,d3⟩:=hN9.c3);have f3:=hN9.f3;have HN9:=zc hN9;clear hO9 hN9));go_ret;have hE:=(zb HN9).setOther (.slice ra rk rc);refine ⟨pb,Cs.zT 119,_,rfl,?_,?_,zb HV9 (zb HN9).c3,Ys _,zb HBd,fun c d hg=>?_,hE.only⟩
  ·have hPr:=hE.prog (by omega) ?_ ?_
   ·rw [zb HZ] at hPr;exact hPr
   ·rw [zb HZ];exact zb HFit
   ·rw [zb HZ];exact zb HStl
  ·intro _;rfl
  ·obtain ⟨a1,a2⟩:=VX (zb HSp).1 (zb HSp).2 hg;refine ⟨a1,fun s hs=>?_⟩;rw [<-zb HZ] at hs;obtain ⟨z,hz1,rfl⟩:=Zz.1 hs;exact a2 z hz1
end
end Go.Proofs.YtcgleficedipkaaGreatDoor
