/- Held at whatever arguments of bounded bulk, and its row's form. -/
import Derived.Test.YtcgleficedipkaaGreatDoorYLfA
import Derived.Test.YtcgleficedipkaaGreatDoorYHeNHeS
import Derived.Deep.DeepHandedRow
import Derived.Deep.DeepWitnessRowRef
namespace Go.Proofs.YtcgleficedipkaaGreatDoor
section
open Go.ChangeShapes Go.WideShapes Go.ChangeAt Go.RowKit
open Go.ChangeMaps (open_string)
set_option maxRecDepth 100000
theorem zeR (os:Os)(args:Array Value):laidMetH Tryz.prog Rows.heldUptoRow.laid ((World.doorLaid Tryz.prog 400 os).forCall (fun _ _=>0) ⟨#[],args,[]⟩).memory:=
 laidMetH_of_parts3 (fuel:=8) (laidMet_of_run' 8 (by kernel_rfl) (by kernel_rfl)) (by kernel_rfl) (by kernel_rfl)
theorem readsL (os:Os){H:Type}(enc:TypeId×Value→H):∃ places,DataW.whole enc Tryz.prog ((World.doorLaid Tryz.prog 400 os).forCall (fun _ _=>0) ⟨#[],#[.string ByteArray.empty,.string ByteArray.empty,.string ByteArray.empty,.string ByteArray.empty,.int .i64 0,.int .i64 0],[]⟩).memory Tryz.f5.params.toList Rows.heldSpec.vars false #[Value.string ByteArray.empty,.string ByteArray.empty,.string ByteArray.empty,.string ByteArray.empty,.int .i64 0,.int .i64 0].toList 8=some ([.lit (.string []),.lit (.string []),.lit (.string []),.lit (.string []),.lit (.int .i64 0),.lit (.int .i64 0)],[],places):=
 ⟨[],by kernel_rfl⟩
theorem zeS (H:Type)(enc:TypeId×Value→H)(W:World)(base:Nat)(args:Array Value)(ds gs:List (DataW H))(before:List MemPlace)
  (hval0:∀ (j:Nat) t v,Tryz.f5.params[j]?=some t→args[j]?=some v→Value.okWide Tryz.prog W .any base t v)
  (hW:DataW.Whole enc Tryz.prog Tryz.f5.params.toList Rows.heldSpec.vars false W args.toList ds gs before) (hc:Rows.uptoSmall H (ds++gs)=true)
  (hL:laidMetH Tryz.prog Rows.heldUptoRow.laid W) :
  Calls Tryz.prog 5 args W fun e W'=>∃ v,e = .returned v∧Rows.heldSpec.post enc Tryz.prog Tryz.f5 false true false false W args v W':=by
 have hval:=hval0
 have hW':=hW
 have hlt:=hW.lt
 obtain ⟨p,q,hA0,hV0,rfl,hfz,hnd⟩:=hW
 have hA:DataW.TrodAll enc Tryz.prog W 0 (fun _=>true) true Tryz.f5.params.toList args.toList ds p:=hA0
 have hV:DataW.TrodVars enc Tryz.prog W (fun _=>true) [] gs q:=hV0
 have hA1:=hA
 rw [Tryz.params5] at hA hval
 obtain ⟨v0,vs0,d0,ds0,q0,r0,e0,rfl,f0,h0,hA⟩:=trodAll_cons hA
 obtain ⟨v1,vs1,d1,ds1,q1,r1,e1,rfl,f1,h1,hA⟩:=trodAll_cons hA
 obtain ⟨v2,vs2,d2,ds2,q2,r2,e2,rfl,f2,h2,hA⟩:=trodAll_cons hA
 obtain ⟨v3,vs3,d3,ds3,q3,r3,e3,rfl,f3,h3,hA⟩:=trodAll_cons hA
 obtain ⟨v4,vs4,d4,ds4,q4,r4,e4,rfl,f4,h4,hA⟩:=trodAll_cons hA
 obtain ⟨v5,vs5,d5,ds5,q5,r5,e5,rfl,f5,h5,hA⟩:=trodAll_cons hA
 obtain ⟨e6,rfl,f6⟩:=trodAll_nil hA
 obtain rfl:args=#[v0,v1,v2,v3,v4,v5]:=by
  rw [e6] at e5
  rw [e5] at e4
  rw [e4] at e3
  rw [e3] at e2
  rw [e2] at e1
  rw [e1] at e0
  cases args
  simp_all
 obtain ⟨rfl,rfl⟩:gs=[]∧q=[]:=by
  cases gs with
  |nil=>exact ⟨rfl,hV⟩
  |cons g r=>exact absurd hV (by intro h;cases h)
 have hb:=wO hc
 have b0:Rows.uptoBulk d0≤1048576:=Nat.le_trans (qP (by simp)) hb
 obtain ⟨s0,rfl,g0,_,_⟩:=open_string Tryz.underlying9 (hval 0 9 v0 rfl rfl) h0
 have z0:s0.size≤1099511627776:=by have:=xP (H:=H) s0;rw [←g0] at this;omega
 have b1:Rows.uptoBulk d1≤1048576:=Nat.le_trans (qP (by simp)) hb
 obtain ⟨s1,rfl,g1,_,_⟩:=open_string Tryz.underlying9 (hval 1 9 v1 rfl rfl) h1
 have z1:s1.size≤1099511627776:=by have:=xP (H:=H) s1;rw [←g1] at this;omega
 obtain ⟨s2,rfl,_,_,_⟩:=open_string Tryz.underlying9 (hval 2 9 v2 rfl rfl) h2
 obtain ⟨s3,rfl,_,_,_⟩:=open_string Tryz.underlying9 (hval 3 9 v3 rfl rfl) h3
 obtain ⟨n4,rfl⟩:=okWide_int Tryz.underlying3 (hval 4 3 v4 rfl rfl)
 obtain ⟨x4,y4⟩:=zak h4
 obtain ⟨n5,rfl⟩:=okWide_int Tryz.underlying3 (hval 5 3 v5 rfl rfl)
 obtain ⟨x5,y5⟩:=zak h5
 obtain ⟨a,hB⟩:=qI hL
 have e9:Rows.heldSpec.fn H ([d0,d1,d2,d3,d4,d5]++[]) = { results:=[.lit (.bool true)],args:=[d0,d1,d2,d3,d4,d5] }:=by simp [Rows.heldSpec]
 refine (heldLaw s0 s1 s2 s3 n4 n5 W a hB z0 z1 x4 y4 x5 y5).mono fun e W' ⟨he,hO⟩=>?_
 subst he
 refine ⟨_,rfl,_,_,_,[],p,[],hW',?_,?_,?_,hO.below.frame _,fun h=>by cases h⟩
 ·rw [e9];exact trodAll_mk1 (shut_bool Tryz.underlying4 true)
 ·rw [e9]
  exact qd hO (DataW.TrodAll.respare Tryz.kids Tryz.full (by rw [Tryz.params5];intro t ht;rw [Tryz.nTypes];exact (show ∀ t∈[9,9,9,9,3,3],t<459 by decide) t ht) hA1 (fun x hx=>by simpa using hlt x (List.mem_append_left _ hx))) (fun x hx=>hlt x (List.mem_append_left _ hx))
 ·rw [e9];rfl
theorem liftedL (os:Os)(started:os.Started)(H:Type)(enc:TypeId×Value→H)(F:Stop.Interp) :
  ReturnsInHanded {} Tryz.checked os 5 .any ((Rows.OpenSpec.upto Rows.heldSpec).preRow enc Tryz.prog Tryz.f5 Rows.heldUptoRow.domain false Rows.heldUptoRow.laid) (((Rows.OpenSpec.upto Rows.heldSpec).at F).post enc Tryz.prog Tryz.f5 false true false false):=by
 obtain ⟨places,hx⟩:=readsL os enc
 refine returnsInHanded_of_row (C:=Tryz.checked) (s:=Rows.OpenSpec.upto Rows.heldSpec) Tryz.ownK started (by kernel_rfl) Tryz.func5
  (witness_row_atRef (enc:=enc) (C:=Tryz.checked) false (World.doorLaid Tryz.prog 400 os) #[.string ByteArray.empty,.string ByteArray.empty,.string ByteArray.empty,.string ByteArray.empty,.int .i64 0,.int .i64 0] rfl (by kernel_rfl) (by kernel_rfl) (by kernel_rfl)
   (OpenSpec.preRow_of_cond 8 hx (by kernel_rfl) (fun k hk=>by cases hk;kernel_rfl) (by kernel_rfl) (zeR os _))) ?_
 intro W base args ds gs before hval hW _ hcond _ hL _ _
 exact zeS H enc W base args ds gs before hval hW (hcond _ rfl) hL
end
end Go.Proofs.YtcgleficedipkaaGreatDoor
