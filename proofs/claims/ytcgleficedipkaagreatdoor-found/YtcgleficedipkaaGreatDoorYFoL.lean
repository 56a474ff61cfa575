/- Found at whatever script, and its row's form. -/
import Derived.Test.YtcgleficedipkaaGreatDoorYFoH
import Derived.Test.YtcgleficedipkaaGreatDoorYLfA
namespace Go.Proofs.YtcgleficedipkaaGreatDoor
open _root_.Go.Proofs.Tryz
section
open Go.ChangeShapes Go.WideShapes Go.ChangeAt Go.RowKit
set_option maxRecDepth 100000
theorem zhA (os:Os)(args:Array Value):laidMetH prog Rows.foundRow.laid ((World.doorLaid prog 400 os).forCall (fun _ _=>0) ⟨#[],args,[]⟩).memory:=
 laidMetH_of_parts3 (fuel:=8) (laidMet_of_run' 8 (by kernel_rfl) (by kernel_rfl)) (by kernel_rfl) (by kernel_rfl)
theorem liftedF (os:Os)(started:os.Started)(H:Type)(enc:TypeId×Value->H) :
  ReturnsInHanded {} Tryz.checked os 3 .any (fun w args=>(Rows.foundSpec.pre enc prog Tryz.f3 [] false w args/\laidMetH prog Rows.foundRow.laid w)/\sizedMet enc prog Tryz.f3 (OpenSpec.ofChange Rows.foundSpec) false w args)
   (Rows.foundSpec.post enc prog Tryz.f3 false true false false):=by
 refine returnsInHanded_of_change_and (C:=Tryz.checked) (X:=fun w _=>laidMetH prog Rows.foundRow.laid w) (fun _ _ _ hh h=>h.of_heap hh) Tryz.ownK started (by kernel_rfl) func3
  (ChangeSpec.witness_shaped (enc:=enc) (C:=Tryz.checked) (os:=os) (X:=fun w _=>laidMetH prog Rows.foundRow.laid w) false (World.doorLaid prog 400 os) #[.slice none 0 0] 8 rfl (World.shaped_of_RefB (by kernel_rfl) (by kernel_rfl)) (by kernel_rfl) (by kernel_rfl) (by kernel_rfl) (zhA os _)) ?_
 intro W base args ds gs before hval0 hW _ hz0 hL _;have hval:∀ (j:Nat) t v,Tryz.f3.params[j]?=some t->args[j]?=some v->Value.okWide prog W .any base t v:=hval0;have hW':=hW;have hlt:=hW.lt;obtain ⟨p,q,hA0,hV0,rfl,hfz,hnd⟩:=hW;have hA:DataW.TrodAll enc prog W 0 (fun _=>true) true Tryz.f3.params.toList args.toList ds p:=hA0;have hV:DataW.TrodVars enc prog W (fun _=>true) [] gs q:=hV0;have hA1:=hA;have hz:(DataW.weightsEach prog (Tryz.f3.params.toList++Rows.foundSpec.plain.varTypes prog) (ds++gs)).all (·<=reachBytes)=true:=hz0;rw [Tryz.params3] at hA hval hz;obtain ⟨v0,d0,rfl,rfl,h0⟩:=trodAll_one hA;obtain ⟨rfl,rfl⟩:gs=[]/\q=[]:=by
  cases gs with
  |nil=>exact ⟨rfl,hV⟩
  |cons g r=>exact absurd hV (by intro h;cases h)
 obtain ⟨a0,l0,c0,rfl⟩:=okWide_slice underlying22 (hval 0 22 v0 rfl rfl);rw [show Rows.foundSpec.plain.varTypes prog=[] from rfl] at hz;obtain ⟨os',hN,hn⟩:=zg1 h0 (by simpa using hz);obtain ⟨a,hB⟩:=qI hL;have e1:Rows.foundSpec.fn H ([d0]++[]) = { results:=[.lit (.bool true)],args:=[d0] }:=by simp [Rows.foundSpec]
 refine (zhw os' _ W a hB.st hB.tab hN hn).mono fun e W' ⟨he,hO⟩=>?_;subst he;refine ⟨_,rfl,_,_,_,[],p,[],hW',?_,?_,?_,hO.below.frame _,fun h=>by cases h⟩
 ·rw [e1];exact trodAll_mk1 (shut_bool underlying4 true)
 ·rw [e1];exact qd hO (DataW.TrodAll.respare Tryz.kids Tryz.full (by rw [Tryz.params3];intro t ht;simp at ht;subst ht;rw [Tryz.nTypes];decide) hA1 (fun x hx=>by simpa using hlt x (Yb _ hx))) (fun x hx=>hlt x (Yb _ hx))
 ·rw [e1];rfl
end
end Go.Proofs.YtcgleficedipkaaGreatDoor
