/- A script that is handed in: what its reading gives the walks. Ended at whatever script, and its row's form. For every script the statement 'lineallaw.Ended' answers true: whatever is compiled, asked for its size and for its ends, of several patterns in turns, the program tells what the document's answer tells, and lists that came out are the caller's own. Its conditions: those of the given card alone (the listed package-level variables are as the program's text lays them; nothing handed in is longer than can be laid). -/
import Derived.Test.YtnagphodmfejiaaGreatDoorX40
import Derived.Deep.Slices
import Derived.ChangeArms
import Derived.OpenShut
import Derived.Test.YtnagphodmfejiaaGreatDoorX35
import Derived.Test.YtnagphodmfejiaaGreatDoorTie
import Derived.Test.YtnagphodmfejiaaGreatDoorCards
import Derived.ProofKit
import Derived.LaidMore
import Derived.SevenTiedAt
import Derived.ReadAgain
import Derived.Test.YtnagphodmfejiaaGreatDoorX42
namespace Go.Proofs.YtnagphodmfejiaaGreatDoor
section
open Go.RowKit Go.Deep
theorem zbY {α:Type}{Q:Nat→α→Prop}:∀ n:Nat,(∀ i,i<n→∃ o,Q i o)→∃ os:List α,os.length=n∧∀ (i:Nat) o,os[i]?=some o→Q i o
 |0,_=>⟨[],rfl,by simp⟩
 |n+1,h=>by
  obtain ⟨os,h1,h2⟩:=zbY n (fun i hi=>h i (by omega))
  obtain ⟨o,ho⟩:=h n (by omega)
  refine ⟨os++[o],by simp [h1],fun i x hx=>?_⟩
  by_cases hi:i<n
  ·rw [List.getElem?_append_left (by omega)] at hx
   exact h2 i x hx
  ·obtain rfl:i=n:=by have:=(List.getElem?_eq_some_iff.1 hx).1;simp at this;omega
   rw [List.getElem?_append_right (by omega),h1] at hx
   simp at hx
   subst hx
   exact ho
theorem jH {cs:List Value}{o:Nat}{v:Value}(h:(cs.drop o).take 1=[v]):cs[o]?=some v:=by
 have h1:((cs.drop o).take 1)[0]?=some v:=by rw [h];rfl
 rw [List.getElem?_take,if_pos (by decide),List.getElem?_drop] at h1
 exact h1
theorem no_spot {w:World}{a:Addr}{v:Value}(h:w.cell? a=some v):a.spot=none:=by
 unfold World.cell? at h
 split at h
 ·split at h
  ·cases h
  ·rename_i q
   simpa using q
 ·cases h
theorem add_add (blk off i j:Nat):((⟨blk,off,none⟩:Addr).add i).add j=⟨blk,off+i+j,none⟩:=by
 unfold Addr.add
 split<;>split<;>simp_all
theorem Tryz.cellsInt:Tryz.prog.cellsOf 3=1:=by kernel_rfl
theorem Tryz.cellsStr':Tryz.prog.cellsOf 9=1:=by kernel_rfl
theorem Tryz.cellsL:Tryz.prog.cellsOf 23=1:=by kernel_rfl
theorem Tryz.cellsN:Tryz.prog.cellsOf 24=1:=by kernel_rfl
theorem Tryz.cellsS:Tryz.prog.cellsOf 25=1:=by kernel_rfl
theorem Tryz.cellsOp:Tryz.prog.cellsOf 27=8:=by kernel_rfl
theorem Tryz.bytesOp:Tryz.prog.bytesOf 27=120:=by kernel_rfl
section
variable {H:Type} {enc:TypeId×Value→H}
theorem Jw {W:World}{t e:TypeId}{n:Nat}{cs:List Value}{y:DataW H×List MemPlace}(ht:Tryz.prog.underlying t=some (.slice e))(h:DataW.trod enc Tryz.prog W 0 (fun _=>true) true n t cs=some y):∃ a l c,cs=[.slice a l c]:=by
 rcases open_slice ht h with ⟨h1,_⟩ |⟨a,len,cap,m,n,D,Pl,h1,_⟩
 ·exact ⟨_,_,_,h1⟩
 ·exact ⟨_,_,_,h1⟩
theorem op_of {W:World}{fuel:Nat}{cs:List Value}{x:DataW H×List MemPlace}(h:DataW.trod enc Tryz.prog W 0 (fun _=>true) true fuel 27 cs=some x):∃ o:OpR,(cs[0]?=some (.int .i64 o.k)∧cs[1]?=some (.int .i64 o.p)∧cs[2]?=some (.int .i64 o.f)∧cs[3]?=some (.int .i64 o.n)∧cs[4]?=some (.string o.s)∧cs[5]?=some o.lv∧cs[6]?=some o.nv∧cs[7]?=some o.sv)∧(-9223372036854775808≤o.p∧o.p≤9223372036854775807)∧(∃ a n c,o.lv = .slice a n c)∧(∃ a n c,o.nv = .slice a n c)∧∃ a n c,o.sv = .slice a n c:=by
 obtain ⟨xs,n,rfl,rfl,hl,hx,hf⟩:=DataW.trod_struct Tryz.underlying27 h
 have e:∀ i,i<8→∃ y,xs[i]?=some y:=fun i hi=>⟨_,List.getElem?_eq_getElem (by rw [hx];exact hi)⟩
 obtain ⟨y0,e0⟩:=e 0 (by decide)
 obtain ⟨y1,e1⟩:=e 1 (by decide)
 obtain ⟨y2,e2⟩:=e 2 (by decide)
 obtain ⟨y3,e3⟩:=e 3 (by decide)
 obtain ⟨y4,e4⟩:=e 4 (by decide)
 obtain ⟨y5,e5⟩:=e 5 (by decide)
 obtain ⟨y6,e6⟩:=e 6 (by decide)
 obtain ⟨y7,e7⟩:=e 7 (by decide)
 have q0:DataW.trod enc Tryz.prog W 0 (fun _=>true) true n 3 ((cs.drop 0).take (Tryz.prog.cellsOf 3))=some y0:=(hf 0 _ rfl).trans e0
 have q1:DataW.trod enc Tryz.prog W 0 (fun _=>true) true n 3 ((cs.drop 1).take (Tryz.prog.cellsOf 3))=some y1:=(hf 1 _ rfl).trans e1
 have q2:DataW.trod enc Tryz.prog W 0 (fun _=>true) true n 3 ((cs.drop 2).take (Tryz.prog.cellsOf 3))=some y2:=(hf 2 _ rfl).trans e2
 have q3:DataW.trod enc Tryz.prog W 0 (fun _=>true) true n 3 ((cs.drop 3).take (Tryz.prog.cellsOf 3))=some y3:=(hf 3 _ rfl).trans e3
 have q4:DataW.trod enc Tryz.prog W 0 (fun _=>true) true n 9 ((cs.drop 4).take (Tryz.prog.cellsOf 9))=some y4:=(hf 4 _ rfl).trans e4
 have q5:DataW.trod enc Tryz.prog W 0 (fun _=>true) true n 23 ((cs.drop 5).take (Tryz.prog.cellsOf 23))=some y5:=(hf 5 _ rfl).trans e5
 have q6:DataW.trod enc Tryz.prog W 0 (fun _=>true) true n 24 ((cs.drop 6).take (Tryz.prog.cellsOf 24))=some y6:=(hf 6 _ rfl).trans e6
 have q7:DataW.trod enc Tryz.prog W 0 (fun _=>true) true n 25 ((cs.drop 7).take (Tryz.prog.cellsOf 25))=some y7:=(hf 7 _ rfl).trans e7
 rw [Tryz.cellsInt] at q0 q1 q2 q3
 rw [Tryz.cellsStr'] at q4
 rw [Tryz.cellsL] at q5
 rw [Tryz.cellsN] at q6
 rw [Tryz.cellsS] at q7
 obtain ⟨k,r0,_,_⟩:=DataW.trod_int Tryz.underlying3 q0
 obtain ⟨p,r1,_,wp⟩:=DataW.trod_int Tryz.underlying3 q1
 obtain ⟨f,r2,_,_⟩:=DataW.trod_int Tryz.underlying3 q2
 obtain ⟨m,r3,_,_⟩:=DataW.trod_int Tryz.underlying3 q3
 obtain ⟨s,r4,_,_⟩:=DataW.trod_string Tryz.underlying9 q4
 obtain ⟨a5,l5,c5,r5⟩:=Jw Tryz.underlying23 q5
 obtain ⟨a6,l6,c6,r6⟩:=Jw Tryz.underlying24 q6
 obtain ⟨a7,l7,c7,r7⟩:=Jw Tryz.underlying25 q7
 exact ⟨⟨k,p,f,m,s,.slice a5 l5 c5,.slice a6 l6 c6,.slice a7 l7 c7⟩,⟨jH r0,jH r1,jH r2,jH r3,jH r4,jH r5,jH r6,jH r7⟩,bounds_i64 wp,⟨_,_,_,rfl⟩,⟨_,_,_,rfl⟩,⟨_,_,_,rfl⟩⟩
theorem zc7 {W:World}{a0:Option Addr}{l0 c0:Nat}{d0:DataW H}{p:List MemPlace}(h0:DataW.Trod enc Tryz.prog W 0 (fun _=>true) true 28 (.slice a0 l0 c0) d0 p)(hz:(DataW.weightsEach Tryz.prog [28] [d0]).all (·≤reachBytes)=true):∃ os,ZJ W (.slice a0 l0 c0) os∧os.length≤1172812402961:=by
 obtain ⟨fuel,h⟩:=h0
 rcases open_slice Tryz.underlying28 h with ⟨h1,h2⟩ |⟨a,len,cap,m,n,D,Pl,h1,hb,hlc,_,hm,hx,hall⟩
 ·have e:Value.slice a0 l0 c0 = .slice none 0 0:=by simpa [Value.cells] using h1
  exact ⟨[],⟨none,0,e,by simp⟩,by simp⟩
 ·have e:Value.slice a0 l0 c0 = .slice (some a) len cap:=by simpa [Value.cells] using h1
  rw [if_pos rfl] at hm
  subst hm
  rw [Tryz.cellsOp] at hall
  have hsp:0<len→a.spot=none:=fun h0=>by
   obtain ⟨cs,c1,c2⟩:=hall 0 (by omega)
   obtain ⟨o,⟨z0,_⟩,_⟩:=op_of c2
   exact no_spot (((World.cells?_some c1).2.2 0 (by decide)).trans z0)
  have hops:∀ i,i<len→∃ o:OpR,∃ blk off,some a=some ⟨blk,off,none⟩∧OpCells W blk (off+i*8) o:=fun i hi=>by
   have hs:=hsp (by omega)
   obtain ⟨blk,off,spot⟩:=a
   simp only [] at hs
   subst hs
   obtain ⟨cs,c1,c2⟩:=hall i (by omega)
   obtain ⟨o,⟨z0,z1,z2,z3,z4,z5,z6,z7⟩,hp,hsl⟩:=op_of c2
   have key:∀ (j:Nat) (u:Value),j<8→cs[j]?=some u→W.cell? ⟨blk,off+i*8+j,none⟩=some u:=fun j u hj hu=>by
    have:=((World.cells?_some c1).2.2 j hj).trans hu
    rw [add_add] at this
    exact this
   exact ⟨o,blk,off,rfl,key 0 _ (by decide) z0,key 1 _ (by decide) z1,key 2 _ (by decide) z2,key 3 _ (by decide) z3,key 4 _ (by decide) z4,key 5 _ (by decide) z5,key 6 _ (by decide) z6,key 7 _ (by decide) z7,hp.1,by omega,hsl⟩
  obtain ⟨os,o1,o2⟩:=zbY len hops
  refine ⟨os,⟨some a,m,by rw [o1];exact e,o2⟩,?_⟩
  have hd:d0 = .slice ((List.range len).map D) ((List.range (m-len)).map fun j=>D (len+j)):=congrArg Prod.fst hx
  rw [hd] at hz
  simp only [DataW.weightsEach,DataW.weights,Tryz.underlying28,List.cons_append,List.all_cons,Bool.and_eq_true,decide_eq_true_eq,List.length_map,List.length_range,Tryz.bytesOp] at hz
  have h3:=hz.1
  unfold reachBytes at h3
  omega
end
end
section
open Go.ChangeShapes Go.WideShapes Go.ChangeAt Go.RowKit
set_option maxRecDepth 100000
theorem Tryz.kids:Kids Tryz.prog (· < Tryz.prog.types.size):=kids_rows (by kernel_rfl) (by kernel_rfl)
theorem Tryz.full:∀ t e,t<Tryz.prog.types.size→Tryz.prog.underlying t=some (.slice e)→0<Tryz.prog.cellsOf e:=slices_full_of Tryz.prog (by kernel_rfl)
section
variable {H:Type} {enc:TypeId×Value→H}
theorem Ym {W W':World}{sp:Nat→Bool}(hO:zf (fun _=>False) W W'):∀ {ts:List TypeId} {vs:List Value} {ds:List (DataW H)} {ps:List MemPlace},DataW.TrodAll enc Tryz.prog W 0 sp true ts vs ds ps→(∀ q∈ps,q.block<W.heap.size)→DataW.TrodAll enc Tryz.prog W' 0 sp true ts vs ds ps
 | [],[],[],_,h,_=>h
 |_ :: _,_ :: _,_ :: _,_,⟨p,q,⟨n,h1⟩,h2,e⟩,hl=>⟨p,q,⟨n,DataW.trod_carry n _ _ _ h1 (fun x hx=>by
   have hx':=hl x (by rw [e];exact List.mem_append_left _ hx)
   cases x with
   |cell b off=>exact hO.cell (p:=⟨b,off,none⟩) hx' (fun f=>f)
   |map b=>exact hO.block b hx' (fun f=>f))⟩,Ym hO h2 (fun x hx=>hl x (by rw [e];exact List.mem_append_right _ hx)),e⟩
end
theorem zc8 (os:Os)(args:Array Value):laidMetH Tryz.prog Rows.endedRow.laid ((World.doorLaid Tryz.prog 400 os).forCall (fun _ _=>0) ⟨#[],args,[]⟩).memory:=
 laidMetH_of_parts3 (fuel:=8) (laidMet_of_run' 8 (by kernel_rfl) (by kernel_rfl)) (by kernel_rfl) (by kernel_rfl)
theorem liftedE (os:Os)(started:os.Started)(H:Type)(enc:TypeId×Value→H) :
  ReturnsInHanded {} Tryz.checked os 4 .any (fun w args=>(Rows.endedSpec.pre enc Tryz.prog Tryz.f4 [] false w args∧laidMetH Tryz.prog Rows.endedRow.laid w)∧sizedMet enc Tryz.prog Tryz.f4 (OpenSpec.ofChange Rows.endedSpec) false w args)
   (Rows.endedSpec.post enc Tryz.prog Tryz.f4 false true false false):=by
 refine returnsInHanded_of_change_and (C:=Tryz.checked) (X:=fun w _=>laidMetH Tryz.prog Rows.endedRow.laid w) (fun _ _ _ hh h=>h.of_heap hh) Tryz.ownK started (by kernel_rfl) Tryz.func4
  (ChangeSpec.witness_shaped (enc:=enc) (C:=Tryz.checked) (os:=os) (X:=fun w _=>laidMetH Tryz.prog Rows.endedRow.laid w) false (World.doorLaid Tryz.prog 400 os) #[.slice none 0 0] 8 rfl (World.shaped_of_RefB (by kernel_rfl) (by kernel_rfl)) (by kernel_rfl) (by kernel_rfl) (by kernel_rfl) (zc8 os _)) ?_
 intro W base args ds gs before hval0 hW _ hz0 hL _
 have hval:∀ (j:Nat) t v,Tryz.f4.params[j]?=some t→args[j]?=some v→Value.okWide Tryz.prog W .any base t v:=hval0
 have hW':=hW
 have hlt:=hW.lt
 obtain ⟨p,q,hA0,hV0,rfl,hfz,hnd⟩:=hW
 have hA:DataW.TrodAll enc Tryz.prog W 0 (fun _=>true) true Tryz.f4.params.toList args.toList ds p:=hA0
 have hV:DataW.TrodVars enc Tryz.prog W (fun _=>true) [] gs q:=hV0
 have hA1:=hA
 have hz:(DataW.weightsEach Tryz.prog (Tryz.f4.params.toList++Rows.endedSpec.plain.varTypes Tryz.prog) (ds++gs)).all (·≤reachBytes)=true:=hz0
 rw [Tryz.params4] at hA hval hz
 obtain ⟨v0,d0,rfl,rfl,h0⟩:=trodAll_one hA
 obtain ⟨rfl,rfl⟩:gs=[]∧q=[]:=by
  cases gs with
  |nil=>exact ⟨rfl,hV⟩
  |cons g r=>exact absurd hV (by intro h;cases h)
 obtain ⟨a0,l0,c0,rfl⟩:=okWide_slice Tryz.underlying28 (hval 0 28 v0 rfl rfl)
 rw [show Rows.endedSpec.plain.varTypes Tryz.prog=[] from rfl] at hz
 obtain ⟨os',hN,hn⟩:=zc7 h0 (by simpa using hz)
 obtain ⟨a,hS⟩:=JK hL
 have e1:Rows.endedSpec.fn H ([d0]++[]) = { results:=[.lit (.bool true)],args:=[d0] }:=by simp [Rows.endedSpec]
 refine (zc5 os' _ W a hS hN hn).mono fun e W' ⟨he,hO⟩=>?_
 subst he
 refine ⟨_,rfl,_,_,_,[],p,[],hW',?_,?_,?_,hO.below.frame _,fun h=>by cases h⟩
 ·rw [e1];exact trodAll_mk1 (shut_bool Tryz.underlying4 true)
 ·rw [e1]
  exact Ym hO (DataW.TrodAll.respare Tryz.kids Tryz.full (by rw [Tryz.params4];intro t ht;simp at ht;subst ht;rw [Tryz.nTypes];decide) hA1 (fun x hx=>by simpa using hlt x (List.mem_append_left _ hx))) (fun x hx=>hlt x (List.mem_append_left _ hx))
 ·rw [e1];rfl
theorem W9:Rows.EndedSaid:=
 OpenClaim.holds_of_wide 4 Tryz.f4 rfl rfl rfl rfl rfl rfl rfl ⟨rfl,rfl,rfl,rfl,rfl⟩ rfl rfl rfl rfl rfl (by kernel_rfl) Tryz.func4 closedE
  (of_decide_eq_true (by kernel_rfl)) (by unfold Func.isWrapper;rw [if_neg (of_decide_eq_false (by kernel_rfl))];exact ⟨rfl,rfl⟩)
  (fun os started H enc _=>liftedE os started H enc)
theorem cardE_holds:Rows.EndedCardSaid:=
 Claim7.holds_tied_plain_at .later [] Rows.endedCard.laidKinds true Rows.endedCard.stood.harness true
  W9 (fun _ h=>by cases h) (by kernel_rfl) (fun _ h=>by cases h) ended_row_tie rfl ⟨rfl,rfl⟩ (by kernel_rfl) rfl
  (fun f fn hf hfn=>by
   obtain rfl : f = 4 := Option.some.inj ((show Tryz.prog.funcNamed "lineal/lineallaw.Ended" = some 4 by kernel_rfl).symm.trans hf) |>.symm
   obtain rfl:fn=Tryz.f4:=(Option.some.inj (Tryz.func4.symm.trans hfn)).symm
   exact ⟨by kernel_rfl,fun j t ht=>by
    rw [Tryz.params4] at ht
    have h3:t=28:=by
     rcases j with _ |j
     ·simpa using ht.symm
     ·simp at ht
    subst h3
    exact (show Tryz.prog.wantsStandIn 28=false by kernel_rfl)⟩)
  (by kernel_rfl)
#print axioms cardE_holds
end
end Go.Proofs.YtnagphodmfejiaaGreatDoor
