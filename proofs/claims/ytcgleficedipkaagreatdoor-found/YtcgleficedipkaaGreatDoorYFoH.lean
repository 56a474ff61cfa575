/- A script that is handed in, with its lists: what its reading gives the walks. -/
import Derived.Test.YtcgleficedipkaaGreatDoorYFoFFoG
import Derived.Test.YtcgleficedipkaaGreatDoorYKeAUnA
import Derived.Deep.Slices
import Derived.ChangeArms
namespace Go.Proofs.YtcgleficedipkaaGreatDoor
open _root_.Go.Proofs.Tryz
section
open Go.RowKit Go.Deep
theorem list_ofF {α:Type}{Q:Nat->α->Prop}:∀ n:Nat,(∀ i,i<n->∃ o,Q i o)->∃ os:List α,os.length=n/\∀ (i:Nat) o,os[i]?=some o->Q i o
 |0,_=>⟨[],rfl,by simp⟩
 |n+1,h=>by
  obtain ⟨os,h1,h2⟩:=list_ofF n (fun i hi=>h i (by omega));obtain ⟨o,ho⟩:=h n (by omega);refine ⟨os++[o],by simp [h1],fun i x hx=>?_⟩;by_cases hi:i<n
  ·rw [qh (by omega)] at hx;exact h2 i x hx
  ·obtain rfl:i=n:=(by have:=(yd.1 hx).1;simp at this;omega);rw [jj (by omega),h1] at hx;simp at hx;subst hx;exact ho
theorem takeF {cs:List Value}{o:Nat}{v:Value}(h:(cs.drop o).take 1=[v]):cs[o]?=some v:=by
 have h1:((cs.drop o).take 1)[0]?=some v:=by rw [h];rfl
 rw [Qb,if_pos (by decide),ZY] at h1;exact h1
theorem Tryz.cellsLF:prog.cellsOf 27=1:=by kernel_rfl
theorem Tryz.cellsNF:prog.cellsOf 25=1:=by kernel_rfl
theorem Tryz.cellsSF:prog.cellsOf 26=1:=by kernel_rfl
theorem Tryz.cellsOpF:prog.cellsOf 29=8:=by kernel_rfl
theorem Tryz.bytesOpF:prog.bytesOf 29=120:=by kernel_rfl
section
variable {H:Type} {enc:TypeId×Value->H}
theorem zfN {P:Program}{e:TypeId}{r:Nat}{d:DataW H}:∀ {l:List (DataW H)},d∈l->(DataW.weightsAll P e l).all (·<=r)=true->(d.weights P e).all (·<=r)=true
 | [],h,_=>by cases h
 |x :: l,h,k=>by
  simp only [DataW.weightsAll,List.all_append,kt] at k;rcases qP.1 h with rfl |h
  ·exact k.1
  ·exact zfN h k.2
theorem zfu {W:World}{t e:TypeId}{n:Nat}{cs:List Value}{y:DataW H×List MemPlace}(ht:prog.underlying t=some (.slice e))(h:DataW.trod enc prog W 0 (fun _=>true) true n t cs=some y):∃ a l c,cs=[.slice a l c]:=by
 rcases open_slice ht h with ⟨h1,_⟩ |⟨a,len,cap,m,n,D,Pl,h1,_⟩
 ·exact ⟨_,_,_,h1⟩
 ·exact ⟨_,_,_,h1⟩
theorem op_ofF {W:World}{fuel:Nat}{cs:List Value}{x:DataW H×List MemPlace}(h:DataW.trod enc prog W 0 (fun _=>true) true fuel 29 cs=some x)(hz:(x.1.weights prog 29).all (·<=reachBytes)=true):∃ o:OpQ,OpK W o/\∀ (j:Nat) u,o.cells[j]?=some u->cs[j]?=some u:=by
 obtain ⟨xs,n,rfl,rfl,hl,hx,hf⟩:=DataW.trod_struct underlying29 h;simp only [DataW.weights,underlying29] at hz;have e:∀ i,i<8->∃ y,xs[i]?=some y:=fun i hi=>⟨_,zD (by rw [hx];exact hi)⟩
 obtain ⟨y0,e0⟩:=e 0 (by decide);obtain ⟨y1,e1⟩:=e 1 (by decide);obtain ⟨y2,e2⟩:=e 2 (by decide);obtain ⟨y3,e3⟩:=e 3 (by decide);obtain ⟨y4,e4⟩:=e 4 (by decide);obtain ⟨y5,e5⟩:=e 5 (by decide);obtain ⟨y6,e6⟩:=e 6 (by decide);obtain ⟨y7,e7⟩:=e 7 (by decide);have q:∀ (j:Nat) (T:TypeId) (f:Field) y,_->f.type=T->f.offset=j->prog.cellsOf T=1->xs[j]?=some y->DataW.trod enc prog W 0 (fun _=>true) true n T ((cs.drop j).take 1)=some y:=fun j T f y h1 h2 h3 h4 h5=>by
  have:=(hf j f h1).trans h5;rw [h2,h3,h4] at this;exact this
 have q0:=q 0 3 _ y0 rfl rfl rfl Tryz.cellsI1 e0;have q1:=q 1 3 _ y1 rfl rfl rfl Tryz.cellsI1 e1;have q2:=q 2 3 _ y2 rfl rfl rfl Tryz.cellsI1 e2;have q3:=q 3 3 _ y3 rfl rfl rfl Tryz.cellsI1 e3;have q4:=q 4 9 _ y4 rfl rfl rfl Tryz.cellsS1 e4;have q5:=q 5 27 _ y5 rfl rfl rfl Tryz.cellsLF e5;have q6:=q 6 25 _ y6 rfl rfl rfl Tryz.cellsNF e6;have q7:=q 7 26 _ y7 rfl rfl rfl Tryz.cellsSF e7;obtain ⟨k,r0,_,_⟩:=DataW.trod_int underlying3 q0;obtain ⟨p,r1,_,wp⟩:=DataW.trod_int underlying3 q1;obtain ⟨f,r2,_,wf⟩:=DataW.trod_int underlying3 q2;obtain ⟨m,r3,_,_⟩:=DataW.trod_int underlying3 q3;obtain ⟨s,r4,_,_⟩:=DataW.trod_string underlying9 q4;obtain ⟨a5,l5,c5,r5⟩:=zfu underlying27 q5;obtain ⟨a6,l6,c6,r6⟩:=zfu underlying25 q6;obtain ⟨a7,l7,c7,r7⟩:=zfu underlying26 q7;rw [r5] at q5;obtain ⟨ks,hks,hkl⟩:=nums_of2 (d0:=y5.1) (p:=y5.2) ⟨n,q5⟩ hz (j:=5) rfl (by rw [ky,e5];rfl);have hl5:l5=ks.length:=by obtain ⟨_,_,e⟩:=hks.slice;cases e;rfl
 subst hl5;have bp:=bounds_i64 wp;have bf:=bounds_i64 wf;refine ⟨⟨k,p,f,m,s,a5,c5,ks,a6,l6,c6,a7,l7,c7⟩,⟨bp.1,by have:=bp.2;show p<_;omega,bf.1,by have:=bf.2;show f<_;omega,hks.imp_right (fun ⟨g,off,cap,b1,_,b3⟩=>⟨g,off,cap,b1,trivial,b3⟩),hkl⟩,fun j u hu=>?_⟩
 match j,hu with
 |0,rfl=>exact takeF r0
 |1,rfl=>exact takeF r1
 |2,rfl=>exact takeF r2
 |3,rfl=>exact takeF r3
 |4,rfl=>exact takeF r4
 |5,rfl=>exact takeF r5
 |6,rfl=>exact takeF r6
 |7,rfl=>exact takeF r7
 |j+8,hu=>simp [OpQ.cells] at hu
theorem zg1 {W:World}{a0:Option Addr}{l0 c0:Nat}{d0:DataW H}{p:List MemPlace}(h0:DataW.Trod enc prog W 0 (fun _=>true) true 22 (.slice a0 l0 c0) d0 p)(hz:(DataW.weightsEach prog [22] [d0]).all (·<=reachBytes)=true):∃ os,ScrF W (.slice a0 l0 c0) os/\os.length<=1172812402961:=by
 obtain ⟨fuel,h⟩:=h0;rcases open_slice underlying22 h with ⟨h1,h2⟩ |⟨a,len,cap,m,n,D,Pl,h1,hb,hlc,_,hm,hx,hall⟩
 ·have e:Value.slice a0 l0 c0 = .slice none 0 0:=by simpa [Value.cells] using h1
  exact ⟨[],⟨none,0,e,by simp⟩,by simp⟩
 ·have e:Value.slice a0 l0 c0 = .slice (some a) len cap:=by simpa [Value.cells] using h1
  rw [if_pos rfl] at hm;subst hm;have hd:d0 = .slice ((List.range len).map D) ((List.range (m-len)).map fun j=>D (len+j)):=congrArg Prod.fst hx;rw [hd] at hz;simp only [DataW.weightsEach,DataW.weights,underlying22,jS,ql,List.all_cons,List.all_append,kt,decide_eq_true_eq,List.length_map,List.length_range,Tryz.bytesOpF] at hz;obtain ⟨hz1,hz2,_⟩:=hz;rw [Tryz.cellsOpF] at hall;have key:∀ i,i<len->∃ o:OpQ,OpK W o/\∀ (j:Nat) (u:Value),o.cells[j]?=some u->W.cell? ((a.add (i*8)).add j)=some u:=fun i hi=>by
   obtain ⟨cs,c1,c2⟩:=hall i (by omega);obtain ⟨o,ho,hc⟩:=op_ofF c2 (zfN (Zz.2 ⟨i,Qf.2 hi,rfl⟩) hz2);exact ⟨o,ho,fun j u hu=>((World.cells?_some c1).2.2 j (by have:=(yd.1 hu).1;simpa [OpQ.cells] using this)).trans (hc j u hu)⟩
  have hops:∀ i,i<len->∃ o:OpQ,OpK W o/\∃ blk off,some a=some ⟨blk,off,none⟩/\∀ (j:Nat) u,o.cells[j]?=some u->W.cell? ⟨blk,off+i*8+j,none⟩=some u:=fun i hi=>by
   obtain ⟨o',_,h'⟩:=key 0 (by omega);have hs:=noSpot (h' 0 _ rfl);obtain ⟨o,ho,hc⟩:=key i hi;obtain ⟨blk,off,spot⟩:=a;obtain rfl:spot=none:=(by simpa [Addr.add] using hs);exact ⟨o,ho,blk,off,rfl,fun j u hu=>by have:=hc j u hu;rw [addNone,addNone] at this;exact this⟩
  obtain ⟨os,o1,o2⟩:=list_ofF len hops;refine ⟨os,⟨some a,m,by rw [o1];exact e,o2⟩,?_⟩;unfold reachBytes at hz1;omega
end
end
end Go.Proofs.YtcgleficedipkaaGreatDoor
