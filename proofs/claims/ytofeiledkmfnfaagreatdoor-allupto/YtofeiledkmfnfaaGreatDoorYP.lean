/- All at whatever script of bounded bulk, and its row's form. All's row holds where the bulk is bounded. For every script of bounded bulk the statement 'lineallaw.All' answers true: whatever is compiled, asked, looked for and validated, by several patterns and finders in turns, the program tells what the document's answer tells; each list that came out is the caller's own, and each that was handed in stays as it was. Its conditions: those of the given card alone (what is handed in counts at most 1048576 values and letters; the listed package-level variables are as the program's text lays them). -/
import Derived.Test.YtofeiledkmfnfaaGreatDoorYN
import Derived.Deep.DeepHandedRow
import Derived.Deep.DeepWitnessRowRef
import Derived.Test.YtofeiledkmfnfaaGreatDoorYO
namespace Go.Proofs.YtofeiledkmfnfaaGreatDoor
open Option renaming none->U,some->I
open Value renaming slice->K,bool->C
open Bool renaming false->Z,true->G
open _root_.Go.Proofs.Tryz renaming prog->V
open Go renaming World->E,Value->Y,Calls->Uh
open Ending renaming returned->R
open _root_.Go.Proofs.Tryz
set_option maxRecDepth 100000
section
open Go.ChangeShapes Go.WideShapes Go.ChangeAt Go.RowKit
theorem zh9 (a:Os)(args:Array Y):laidMetH V Rows.allUptoRow.laid ((World.doorLaid V 400 a).forCall (λ_ _=>0) ⟨#[],args,[]⟩).memory:=
 laidMetH_of_parts3 (fuel:=8) (laidMet_of_run' 8 om om) om om
theorem IF (a:Os){H:Type}(enc:TypeId×Y->H):∃b,DataW.whole enc V ((World.doorLaid V 400 a).forCall (λ_ _=>0) ⟨#[],#[K U 0 0],[]⟩).memory Tryz.f3.params.toList Rows.allSpec.vars Z #[K U 0 0].toList 8=I ([.nil],[],b):=
 ⟨[],om⟩
theorem zia (H:Type)(enc:TypeId×Value->H)(W:World)(base:Nat)(args:Array Value)(ds gs:List (DataW H))(before:List MemPlace)(hval0:∀(j:Nat) t v,Tryz.f3.params[j]?=some t->args[j]?=some v->Value.okWide prog W .any base t v)(hW:DataW.Whole enc prog Tryz.f3.params.toList Rows.allSpec.vars false W args.toList ds gs before) (hc:Rows.uptoSmall H (ds++gs)=true) (hz:(DataW.weightsEach prog (Tryz.f3.params.toList++(Rows.OpenSpec.upto Rows.allSpec).bare.plain.varTypes prog) (ds++gs)).all (·<=reachBytes)=true)(hL:laidMetH prog Rows.allUptoRow.laid W):Calls prog 3 args W fun e W'=>∃v,e=.returned v/\Rows.allSpec.post enc prog Tryz.f3 false true false false W args v W':=by
 have hval:=hval0;have hW':=hW;have hlt:=hW.lt;obtain⟨p,q,hA0,hV0,rfl,hfz,hnd⟩:=hW;have hA:DataW.TrodAll enc prog W 0 (fun _=>true) true Tryz.f3.params.toList args.toList ds p:=hA0;have hV:DataW.TrodVars enc prog W (fun _=>true) [] gs q:=hV0;have hA1:=hA;rw[Tryz.params3] at hA hval hz;obtain⟨v0,d0,rfl,rfl,h0⟩:=trodAll_one hA;obtain⟨rfl,rfl⟩:gs=[]/\q=[]:=by
  cases gs with
  |nil=>exact⟨rfl,hV⟩
  |cons g r=>exact absurd hV (by intro h;cases h)
 have hb:=Dt hc;have b0:Rows.uptoBulk d0<=1048576:=AP (K5 ov) hb;obtain⟨a0,l0,c0,rfl⟩:=okWide_slice underlying22 (hval 0 22 v0 rfl rfl);obtain⟨os',hN,hn⟩:=zfi h0 (Qg hz (j:=0) rfl rfl) b0;obtain⟨a,hB⟩:=WJ hL;have e9:Rows.allSpec.fn H ([d0]++[]) = { results:=[.lit (.bool true)],args:=[d0] }:=by simp[Rows.allSpec]
 refine(GX os' _ W a hB.st hB.tab hN hn).mono fun e W' ⟨he,hO⟩=>?_;subst he;refine⟨_,rfl,_,_,_,[],p,[],hW',?_,?_,?_,hO.below.frame _,fun h=>by cases h⟩
 ·rw[e9];exact trodAll_mk1 (shut_bool underlying4 true)
 ·rw[e9];exact Qt hO (DataW.TrodAll.respare Tryz.kids Tryz.full (by rw[Tryz.params3];intro t ht;rw[Tryz.Pn];exact(show ∀t∈[22],t<452 by decide) t ht) hA1 (fun x hx=>by simpa using hlt x (LC _ hx))) (fun x hx=>hlt x (LC _ hx))
 ·rw[e9];rfl
theorem Gv (a:Os)(n:a.Started)(H:Type)(enc:TypeId×Y->H)(F:Stop.Interp):ReturnsInHanded {} Tryz.checked a 3 .any ((Rows.OpenSpec.upto Rows.allSpec).preRow enc V Tryz.f3 Rows.allUptoRow.domain Z Rows.allUptoRow.laid) (((Rows.OpenSpec.upto Rows.allSpec).at F).post enc V Tryz.f3 Z G Z Z):=by
 have⟨o,l⟩:=IF a enc;refine returnsInHanded_of_row (C:=Tryz.checked) (s:=Rows.OpenSpec.upto Rows.allSpec) Tryz.SG n om func3
  (witness_row_atRef (enc:=enc) (C:=Tryz.checked) Z (World.doorLaid V 400 a) #[K U 0 0] rfl om om om
   (OpenSpec.preRow_of_cond 8 l om (λk i=>by cases i;kernel_rfl) om (zh9 a _))) ?_
 intro W base b d e c j g _ h m f _ _;exact zia H enc W base b d e c j g (h _ rfl) m f
theorem WM:Rows.AllUptoSaid:=
 OpenClaim.holds_of_cond 3 Tryz.f3 rfl rfl rfl rfl rfl rfl rfl ⟨rfl,rfl,rfl,rfl,rfl⟩ rfl rfl rfl rfl rfl om func3 Fb
  (of_decide_eq_true om) (by unfold Func.isWrapper;rw[iN (of_decide_eq_false om)];exact⟨rfl,rfl⟩)
  (λc d a b _ F=>by rw[OpenClaim.pre_eq_preRow];exact Gv c d a b F)
theorem Mo : prog.funcNamed "lineal/lineallaw.All" = I 3 := by kernel_rfl
theorem al_st:prog.wantsStandIn 22=Z:=om
theorem cardAl_holds:Rows.AllUptoCardSaid:=
 Claim7.holds_tied_plain_at .later [] _ _ _ _
  WM (λ_ h=>by cases h) (by as_aux_lemma=>kernel_rfl) (λ_ h=>by cases h) allUpto_row_tie rfl ⟨rfl,rfl⟩ (by as_aux_lemma=>kernel_rfl) rfl
  (λf b c d=>by
   obtain rfl:f=3:=Bz (Mo.symm.trans c)|>.symm;obtain rfl:b=Tryz.f3:=(Bz (func3.symm.trans d)).symm;exact⟨by as_aux_lemma=>kernel_rfl,λj t a=>by
    rw[Tryz.params3] at a;obtain _|j:=j;obtain rfl:t=22:=(by simpa using a.symm);exact al_st;simp at a⟩)
  (by as_aux_lemma=>kernel_rfl)
#print axioms cardAl_holds
end
