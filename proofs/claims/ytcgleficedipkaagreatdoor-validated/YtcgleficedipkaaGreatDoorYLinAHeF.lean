/- What the package-level variables hold, whatever the stores turn; a new store; Finder. -/
import Derived.Test.YtcgleficedipkaaGreatDoorYMapAStoF
import Derived.Test.YtcgleficedipkaaGreatDoorYEqNEndB
import Derived.Test.YtcgleficedipkaaGreatDoorRows
import Derived.ChangeSame
import Derived.ChangeVars
import Derived.JoinedOf
import Derived.RowKit
import Derived.LaidLaws
import Derived.LaidHandle
import Derived.LaidSub
import Derived.Stop.Joined
import Derived.ChangeSlices
import Derived.SliceStrings
import Derived.SizedLaws
import Derived.OpenShut
import Derived.KernelRfl
namespace Go.Proofs.YtcgleficedipkaaGreatDoor
open Option renaming none->U,some->I
open Value renaming int->M,slice->K,bool->C,pointer->Ua,string->Uc,iface->Ud,tuple->Ue,agg->Uf,nilIface->Ui
open IntKind renaming i64->J
open Bool renaming false->Z,true->G
open _root_.Go.Proofs.Tryz renaming prog->V
open Go renaming World->E,Value->Y,Calls->Uh
open Or renaming inr->O,inl->Q
open Ending renaming returned->R
open Obj renaming cells->Ub
open Pro Ref
open _root_.Go.Proofs.Tryz
variable {s:ByteArray}{W w:World}
section
open Go.RowKit
open Sm (Stp Tree yJ)
structure Begun (w:E)(a:Nat->Addr)(base:Nat):Prop where
 st:Start w a
 tab:TabAt w
 bl:∀k,1<=k->k<=10->(a k).block<base
 le:base<=w.heap.size
 ng:11<base
theorem kr.bound {A:Nat->Prop}{w:E}{pb:Nat}{N:List Sm.Stp}{h:Nat}{W:Int->Bool}(a:kr w A pb N h W):kr w (λg=>A g/\g<w.heap.size) pb N h W:=by obtain⟨g,e,f,i,j,d⟩:=a.c0;obtain⟨n,k,l⟩:=a.c2;have o:=a.stl;have m:g<w.heap.size:=zgF w _ (d 0 _ (zgE oa)).1;exact⟨⟨a.own,zgF w _ a.c1⟩,⟨g,e,f,⟨i,m⟩,j,d.mono (λq c b=>⟨b,c⟩)⟩,a.c1,⟨n,k,l.mono (λq c b=>⟨b,c⟩)⟩,a.len,a.fit,a.stl⟩
set_option maxHeartbeats 1600000
set_option maxRecDepth 100000
theorem snew_any (pb h:Nat)(N:List Stp)(X:Fnd.St->Nat->Fnd.St->Prop)(w:E):Uh V 38 #[Ua (I ⟨pb,0,U⟩),M J (h:Nat)] w λx i=>∃c d,x=R (Ua (I ⟨c,0,U⟩))/\w.heap.size<=c/\w.heap.size<=d/\Sto i (λg=>g=c\/g=d) (λ_=>False) c pb d h N X [] (K U 0 0)/\ziE w i:=by have l:=@run_makeMap V;go_enter func38,ntmps38;go_wp2_with fail;go_ret;have b:=qN w (.map #[] 0);have k:=qN (w.alloc (.map #[] 0)) (Ub #[Ua (I ⟨pb,0,U⟩),M J (h:Nat),K U 0 0,.map (I w.heap.size)] 179);refine⟨w.heap.size+1,w.heap.size,rfl,oa,oa,⟨zm _ _ b _ _ 0 _ rfl,zm _ _ b _ _ 1 _ rfl,zm _ _ b _ _ 2 _ rfl,zm _ _ b _ _ 3 _ rfl,zu _ _ b _ _ 2,zgP _ _ _ _,λg a=>(by cases a),(jB.made w _ rfl).keep ((zf.refl (λ_=>False) _).alloc _) id,Q rfl,O rfl,λe j=>(by cases j),List.Pairwise.nil,λg a=>(by rw[k,b];omega),λg a=>a.elim,λg a=>a.elim⟩,((zf.refl _ _).alloc _).alloc _⟩



def YF (w:E)(v:Y)(b:List ByteArray):Prop:=(b=[]/\∃a c,v=K a 0 c)\/∃g d e,v=K (I ⟨g,d,U⟩) b.length e/\g<w.heap.size/\∀(j:Nat) s,b[j]?=I s->w.cell? ⟨g,d+j,U⟩=I (Uc s)
theorem YF.get {a:Option Addr}{c:Nat}{b:List ByteArray}(h:YF w (K a b.length c) b){k:Nat}(d:k<b.length):∃g off,a=I ⟨g,off,U⟩/\g<w.heap.size/\w.cell? ⟨g,off+k,U⟩=I (Uc b[k]):=by rcases h with⟨h,_⟩|⟨g,off,j,e,f,i⟩;rw[h] at d;simp at d;simp at e;exact⟨g,off,e.1,f,i k b[k] (zgE d)⟩
end
section
open Go.ChangeShapes Go.WideShapes Go.RowKit
set_option maxRecDepth 1000000
theorem Tryz.ownK:ownKnob prog.godebug=U:=om
theorem Tryz.gEt : prog.globalNamed "errors.errorType" = I 9 := by kernel_rfl
theorem Tryz.tRt : (prog.cutTypes.find? (·.1 == "internal/reflectlite.rtype")).map (·.2) = I 283 := by kernel_rfl
theorem Tryz.nTypes:prog.types.size=459:=om
theorem Tryz.oneError:((List.range 459).filter λt=>prog.rowNamed t [101,114,114,111,114])=[84]:=om
theorem Tryz.cellsES:prog.cellsOf 447=1:=om
theorem Tryz.cellsStr:prog.cellsOf 9=1:=om
theorem starES : "*" ++ "errors.errorString" = "*errors.errorString" := by decide
theorem Tryz.rowES (u : TypeId) (h : prog.typeName? 3 u = I "*errors.errorString") : u = 428 :=
 typeName_ptr_named (nm := "errors.errorString") (by rw [starES]; kernel_rfl) (by kernel_rfl) (by decide) u (by rw [starES]; exact h)
theorem Tryz.gText : prog.globalNamed "lineal/fault.Text" = I 1 := by kernel_rfl
theorem Tryz.tText:(prog.globals[1]?).map (·.type)=I 84:=om
theorem Tryz.gLong : prog.globalNamed "lineal/fault.Long" = I 2 := by kernel_rfl
theorem Tryz.tLong:(prog.globals[2]?).map (·.type)=I 84:=om
theorem Tryz.gSyntax : prog.globalNamed "lineal/fault.Syntax" = I 10 := by kernel_rfl
theorem Tryz.tSyntax:(prog.globals[10]?).map (·.type)=I 84:=om
theorem Tryz.gRange : prog.globalNamed "lineal/fault.Range" = I 3 := by kernel_rfl
theorem Tryz.tRange:(prog.globals[3]?).map (·.type)=I 84:=om
theorem Tryz.gCount : prog.globalNamed "lineal/fault.Count" = I 4 := by kernel_rfl
theorem Tryz.tCount:(prog.globals[4]?).map (·.type)=I 84:=om
theorem Tryz.gUnsupported : prog.globalNamed "lineal/fault.Unsupported" = I 5 := by kernel_rfl
theorem Tryz.tUnsupported:(prog.globals[5]?).map (·.type)=I 84:=om
theorem Tryz.gDeep : prog.globalNamed "lineal/fault.Deep" = I 6 := by kernel_rfl
theorem Tryz.tDeep:(prog.globals[6]?).map (·.type)=I 84:=om
theorem Tryz.gTree : prog.globalNamed "lineal/fault.Tree" = I 0 := by kernel_rfl
theorem Tryz.tTree:(prog.globals[0]?).map (·.type)=I 84:=om
theorem Tryz.gSchema : prog.globalNamed "lineal/fault.Schema" = I 8 := by kernel_rfl
theorem Tryz.tSchema:(prog.globals[8]?).map (·.type)=I 84:=om
theorem Tryz.gBig : prog.globalNamed "lineal/fault.Big" = I 7 := by kernel_rfl
theorem Tryz.tBig:(prog.globals[7]?).map (·.type)=I 84:=om
theorem zfv (h:handlesMet V [("errors.errorType", (Rows.laid_errors_errorType : DataW Unit))] W) : ∀ j, W.cell? ⟨9, j, U⟩ = (#[Ud 283 (Uf #[Ua (I ⟨15, 84, U⟩)])] : Array Y)[j]? := by
 obtain⟨k,u,l,c,d,e,f,a⟩:=h _ (zgT.2 rfl);have g:k=[101,114,114,111,114]:=(zg0 c).symm;subst g;obtain rfl:=zg0 (Tryz.tRt.symm.trans d);have b:l∈(List.range 459).filter λt=>prog.rowNamed t [101,114,114,111,114]:=List.mem_filter.2 ⟨zib.2 (by rw[<-Tryz.nTypes];exact e),f⟩;rw[Tryz.oneError] at b;obtain rfl:=zgT.1 b;have i:typeHandle V 84=Ua (I ⟨15,84,U⟩):=om
 rw[i] at a;exact λj=>World.var?_cell Tryz.gEt a j
theorem Zz {n:String}{d:DataW Unit}{r:List (String×DataW Unit)}(h:laidMet V ((n,d):: r) W):laidMet V r W:=by obtain⟨ps,⟨g,t,j,k,p,q,_,_,_,_,e,rfl⟩,c,f⟩:=h;exact⟨q,e,List.Nodup.sublist (List.sublist_append_right _ _) c,λb i a=>f b i (ziw _ a)⟩
theorem jd {n:String}{g:Nat}{text:List UInt8}{r:List (String × DataW Unit)}(h:laidMet prog ((n, .iface "*errors.errorString" (.ptr (.agg [.lit (.string text)]))) :: r) W)
  (hg:prog.globalNamed n=some g) (ht:(prog.globals[g]?).map (·.type)=some 84) :
  ∃(b:Addr) (s:ByteArray),(∀j,W.cell? ⟨g,j,none⟩=(#[Value.iface 428 (.pointer (some b))]:Array Value)[j]?)/\W.cell? b=some (.string s)/\s.data.toList=text/\(∃c t,W.heap[b.block]?=some (.cells c t (0,0)))/\laidMet prog r W:=by
 have htail:laidMet prog r W:=by
  obtain⟨ps,⟨g,t,cs,fuel,p,q,_,_,_,_,hq,rfl⟩,hnd,hrows⟩:=h;exact⟨q,hq,List.Nodup.sublist (List.sublist_append_right _ _) hnd,fun b off hm=>hrows b off (ziw _ hm)⟩
 obtain⟨ps,⟨g0,t0,cs0,f0,p0,q0,hg0,ht0,hv0,hd0,_,e0⟩,_,hrows⟩:=h;obtain rfl:=zg0 (hg.symm.trans hg0);obtain rfl:=zg0 (ht.symm.trans ht0);subst e0;obtain⟨l0⟩:=cs0;have ok0:∀u v,l0=[.iface u v]->Value.okWide prog W .any 0 u v:=fun u v e=>by
  subst e;exact(hrows g 0 (by simp[MemPlace.row])).2 u v (by simpa using World.var?_cell hg0 hv0 0)
 obtain⟨b,s,rfl,hc,hs,_,hp⟩:=errorString_of_trod underlying84 Tryz.rowES underlying428 underlying447 rfl rfl underlying9 Tryz.cellsES Tryz.cellsStr hd0 ok0;refine⟨b,s,fun j=>World.var?_cell hg0 hv0 j,hc,hs,(hrows b.block b.off ?_).1,htail⟩;rw[hp];simp[MemPlace.row]
theorem jm {g:Nat}{T:TypeId}{x:Y}{b:Addr}{s:ByteArray}(h:∀j,W.cell? ⟨g,j,U⟩=(#[Ud T x]:Array Y)[j]?)(a:W.cell? b=I (Uc s)):b.block≠g:=by
 intro e;obtain⟨d,c,i⟩:=b;cases i with
 |none=>
  have f:d=g:=e;subst f;rw[h c] at a;cases c with
  |zero=>simp at a
  |succ o=>simp at a
 |some y=>
  unfold World.cell? at a;simp at a;split at a<;>simp at a
def Qo:Nat->List UInt8
 |1=>[98,121,116,101,115,32,116,104,97,116,32,97,114,101,32,110,111,32,116,101,120,116]
 |2=>[116,111,111,32,109,97,110,121,32,98,121,116,101,115]
 |3=>[110,111,32,112,97,116,116,101,114,110]
 |4=>[97,32,114,97,110,103,101,32,111,114,32,99,111,117,110,116,115,32,116,104,101,32,119,114,111,110,103,32,119,97,121,32,97,98,111,117,116]
 |5=>[97,32,99,111,117,110,116,32,116,104,97,116,32,105,115,32,116,111,111,32,103,114,101,97,116]
 |6=>[97,32,112,97,116,116,101,114,110,32,116,104,97,116,32,110,101,101,100,115,32,109,101,109,111,114,121]
 |7=>[103,114,111,117,112,115,32,116,111,111,32,100,101,101,112,32,105,110,32,111,110,101,32,97,110,111,116,104,101,114]
 |8=>[97,32,112,97,116,116,101,114,110,32,116,104,97,116,32,105,115,32,116,111,111,32,108,97,114,103,101]
 |9=>[110,111,100,101,115,32,116,104,97,116,32,97,114,101,32,110,111,32,100,111,99,117,109,101,110,116]
 |10=>[115,99,104,101,109,97,115,32,116,104,97,116,32,109,97,121,32,110,111,116,32,98,101]
 |_=>[]
theorem zbd:((List.range 11).all λj=>(List.range 11).all λk=>decide (j=0) ||decide (k=0) ||decide (j=k) || !(Qo j == Qo k))=G:=by decide +kernel
theorem zdi (j:Nat)(a:j<11)(k:Nat)(b:k<11)(d:1<=j)(f:1<=k)(c:j≠k):Qo j≠Qo k:=by have h:=List.all_eq_true.1 (List.all_eq_true.1 zbd j (zib.2 a)) k (zib.2 b);intro e;rw[e] at h;simp at h;omega
theorem VA (h:laidMetH prog Rows.heldRow.laid W):∃a,Start W a:=by
 obtain ⟨h1,h2⟩:=laidMetH_iff.1 h;have h2' : handlesMet prog [("errors.errorType", (Rows.laid_errors_errorType : DataW Unit))] W := h2;have he:=zfv h2';have h1a : laidMet prog ([("math/bits.deBruijn32tab", Rows.laid_math_bits_deBruijn32tab), ("math/bits.deBruijn64tab", Rows.laid_math_bits_deBruijn64tab), ("internal/strconv.uint64pow10", Rows.laid_internal_strconv_uint64pow10), ("lineal/fault.Text", Rows.laid_lineal_fault_Text), ("lineal/fault.Long", Rows.laid_lineal_fault_Long), ("lineal/fault.Syntax", Rows.laid_lineal_fault_Syntax), ("lineal/fault.Range", Rows.laid_lineal_fault_Range), ("lineal/fault.Count", Rows.laid_lineal_fault_Count), ("lineal/fault.Unsupported", Rows.laid_lineal_fault_Unsupported), ("lineal/fault.Deep", Rows.laid_lineal_fault_Deep), ("lineal/fault.Big", Rows.laid_lineal_fault_Big), ("lineal/fault.Tree", Rows.laid_lineal_fault_Tree), ("lineal/fault.Schema", Rows.laid_lineal_fault_Schema)] : List (String × DataW Unit)) W := h1;have h1b:=Zz (Zz (Zz h1a));obtain ⟨b1,s1,c1,d1,x1,r1,t1⟩:=jd h1b Tryz.gText Tryz.tText;obtain ⟨b2,s2,c2,d2,x2,r2,t2⟩:=jd t1 Tryz.gLong Tryz.tLong;obtain ⟨b3,s3,c3,d3,x3,r3,t3⟩:=jd t2 Tryz.gSyntax Tryz.tSyntax;obtain ⟨b4,s4,c4,d4,x4,r4,t4⟩:=jd t3 Tryz.gRange Tryz.tRange;obtain ⟨b5,s5,c5,d5,x5,r5,t5⟩:=jd t4 Tryz.gCount Tryz.tCount;obtain ⟨b6,s6,c6,d6,x6,r6,t6⟩:=jd t5 Tryz.gUnsupported Tryz.tUnsupported;obtain ⟨b7,s7,c7,d7,x7,r7,t7⟩:=jd t6 Tryz.gDeep Tryz.tDeep;obtain ⟨b8,s8,c8,d8,x8,r8,t8⟩:=jd t7 Tryz.gBig Tryz.tBig;obtain ⟨b9,s9,c9,d9,x9,r9,t9⟩:=jd t8 Tryz.gTree Tryz.tTree;obtain ⟨b10,s10,c10,d10,x10,r10,t10⟩:=jd t9 Tryz.gSchema Tryz.tSchema;refine ⟨fun k=>match k with |1=>b1 |2=>b2 |3=>b3 |4=>b4 |5=>b5 |6=>b6 |7=>b7 |8=>b8 |9=>b9 |10=>b10 |_=>b1,⟨(c1 0).trans rfl,(c2 0).trans rfl,(c3 0).trans rfl,(c4 0).trans rfl,(c5 0).trans rfl,(c6 0).trans rfl,(c7 0).trans rfl,(c8 0).trans rfl⟩,⟨?_,?_,(c9 0).trans rfl,(c10 0).trans rfl⟩,he 0,?_⟩
 ·intro k k1 k2
  match k,k1,k2 with
  |1,_,_=>exact r1
  |2,_,_=>exact r2
  |3,_,_=>exact r3
  |4,_,_=>exact r4
  |5,_,_=>exact r5
  |6,_,_=>exact r6
  |7,_,_=>exact r7
  |8,_,_=>exact r8
  |9,_,_=>exact r9
  |10,_,_=>exact r10
  |0,k1,_=>exact absurd k1 od
  |k+11,_,k2=>exact absurd k2 oa
 ·have ht:∀k,1<=k->k<=10->∃s:ByteArray,W.cell? ((fun k=>match k with |1=>b1 |2=>b2 |3=>b3 |4=>b4 |5=>b5 |6=>b6 |7=>b7 |8=>b8 |9=>b9 |10=>b10 |_=>b1:Nat->Addr) k)=some (.string s)/\s.data.toList=Qo k:=by
   intro k k1 k2
   match k,k1,k2 with
   |1,_,_=>exact⟨s1,d1,x1⟩
   |2,_,_=>exact⟨s2,d2,x2⟩
   |3,_,_=>exact⟨s3,d3,x3⟩
   |4,_,_=>exact⟨s4,d4,x4⟩
   |5,_,_=>exact⟨s5,d5,x5⟩
   |6,_,_=>exact⟨s6,d6,x6⟩
   |7,_,_=>exact⟨s7,d7,x7⟩
   |8,_,_=>exact⟨s8,d8,x8⟩
   |9,_,_=>exact⟨s9,d9,x9⟩
   |10,_,_=>exact⟨s10,d10,x10⟩
   |0,k1,_=>exact absurd k1 od
   |k+11,_,k2=>exact absurd k2 oa
  intro j k j1 j2 k1 k2 hjk e;obtain⟨s,e1,e2⟩:=ht j j1 j2;obtain⟨s',e3,e4⟩:=ht k k1 k2;have e6:=e1.symm.trans ((congrArg W.cell? e).trans e3);have es:s=s':=by simpa using e6
  subst es;exact zdi j oa k oa j1 k1 hjk (e2.symm.trans e4)
 ·have hlt:=zgF W b1 d1;have a1:=jm c1 d1;have a2:=jm c2 d1;have a3:=jm c3 d1;have a4:=jm c4 d1;have a5:=jm c5 d1;have a6:=jm c6 d1;have a7:=jm c7 d1;have a8:=jm c8 d1;have a9:=jm he d1;have a10:=jm c9 d1;have a11:=jm c10 d1;omega
theorem zbe (h:laidMetH V Rows.heldRow.laid W):TabAt W:=by
 obtain ⟨b,_⟩:=laidMetH_iff.1 h;have c : laidMet V (("math/bits.deBruijn32tab", (Rows.laid_math_bits_deBruijn32tab : DataW Unit)) :: ("math/bits.deBruijn64tab", Rows.laid_math_bits_deBruijn64tab) :: ("internal/strconv.uint64pow10", Rows.laid_internal_strconv_uint64pow10) :: _) W := b;have a:=Zz (Zz c);have e:(Rows.laid_internal_strconv_uint64pow10:DataW Unit)=Lib.tabData .u64 Lib.pow10Tab:=by rfl
 rw[e] at a;exact Lib.tabIs_of_head (t:=418) (e:=363) (n:=20) tabNo om underlying418 underlying363 om om a
theorem VB (h:laidMetH V Rows.heldRow.laid W):∃a,Begun W a W.heap.size:=by obtain⟨a,b⟩:=VA h;have d:=zbe h;refine⟨a,b,d,λk f g=>?_,zgH _,d.lt⟩;obtain⟨c,t,e⟩:=b.rows.row k f g;exact(zgM.1 e).1
end
section
open Go.RowKit Go.Deep Go.ChangeShapes
theorem zdj {a:Addr}{v:Y}(h:w.cell? a=I v):a.spot=U:=by unfold World.cell? at h;split at h;split at h;cases h;rename_i q;simpa using q;cases h
theorem Xg (g off i:Nat):(⟨g,off,U⟩:Addr).add i=⟨g,off+i,U⟩:=by unfold Addr.add;split<;>simp_all
theorem Tryz.cellsI1:prog.cellsOf 3=1:=om
theorem Tryz.cellsS1:prog.cellsOf 9=1:=om
theorem Tryz.bytesI1:prog.bytesOf 3=8:=om
theorem Tryz.bytesS1:prog.bytesOf 9=16:=om
section
variable {H:Type} {enc:TypeId×Value->H}
theorem nums_of2 {W:World}{a0:Option Addr}{l0 c0:Nat}{d0:DataW H}{p:List MemPlace}(h0:DataW.Trod enc prog W 0 (fun _=>true) true 27 (.slice a0 l0 c0) d0 p){ts:List TypeId}{ds:List (DataW H)}(hz:(DataW.weightsEach prog ts ds).all (·<=reachBytes)=true){j:Nat}(ht:ts[j]?=some 27)(hd:ds[j]?=some d0):∃ks,km W (fun g=>g<W.heap.size) (.slice a0 l0 c0) ks/\ks.length<=17592186044416:=by
 obtain⟨fuel,h⟩:=h0;rcases open_ints underlying27 underlying3 Tryz.cellsI1 h with⟨h1,h2⟩ |⟨a,T,cap,zs,h1,hb,hlc,hcm,hzl,hx,hall,_⟩
 ·have e:Value.slice a0 l0 c0=.slice none 0 0:=by simpa [Value.cells] using h1
  exact⟨[],.inl ⟨rfl,none,0,e⟩,ov⟩
 ·have e:Value.slice a0 l0 c0=.slice (some a) T cap:=by simpa [Value.cells] using h1
  rw[IN rfl] at hzl;have hd0:d0=.slice (lits .i64 (zs.take T)) (lits .i64 (zs.drop T)):=congrArg Prod.fst hx;rw[hd0] at hd;have hsz:=sized_slice hz ht hd underlying27;have hlen:(zs.take T).length=T:=by simp;omega
  rw[Tryz.bytesI1] at hsz;simp[lits] at hsz;unfold reachBytes at hsz;refine⟨zs.take T,?_,by rw[hlen];omega⟩;by_cases hl0:T=0
  ·subst hl0;exact .inl ⟨ov,some a,cap,e⟩
  ·have hc0:=hall 0 oa;obtain⟨g,off,spot⟩:=a;have hs:=zdj hc0;have hs2:spot=none:=by
    unfold Addr.add at hs;split at hs<;>simp_all
   subst hs2;refine .inr ⟨g,off,cap,by rw[hlen];exact e,?_,fun i k hk=>?_⟩
   ·have:=zgF W _ hc0;rw[Xg] at this;exact this
   ·obtain⟨hi,rfl⟩:=zgG.1 hk;have hi2:i<T:=oa;have:=hall i oa;rw[Xg] at this;rw[this];simp[List.getD,List.getElem?_eq_getElem (show i<zs.length by omega)]
theorem strs_of2 {W:E}{a0:Option Addr}{c b:Nat}{d0:DataW H}{p:List MemPlace}(w:DataW.Trod enc V W 0 (λ_=>G) G 37 (K a0 c b) d0 p){v:List TypeId}{n:List (DataW H)}(L:(DataW.weightsEach V v n).all (·<=reachBytes)=G){j:Nat}(B:v[j]?=I 37)(r:n[j]?=I d0):∃xs,YF W (K a0 c b) xs/\xs.length<8796093022207:=by
 obtain⟨X,h⟩:=w;rcases open_strings underlying37 underlying9 Tryz.cellsS1 h with⟨f,h2⟩|⟨a,T,d,m,f,hb,af,ac,N,F,o,_⟩
 .have e:K a0 c b=K U 0 0:=by simpa [Value.cells] using f
  exact⟨[],Q ⟨rfl,U,0,e⟩,ov⟩
 have e:K a0 c b=K (I a) T d:=by simpa [Value.cells] using f
 rw[IN rfl] at N;have s:=congrArg Prod.fst F;simp only at s;rw[s] at r;have l:=sized_slice L B r underlying37;have t:(m.take T).length=T:=by simp;omega
 rw[Tryz.bytesS1] at l;simp[strs] at l;unfold reachBytes at l;refine⟨m.take T,?_,by rw[t];omega⟩;by_cases y:T=0;subst y;exact Q ⟨ov,I a,d,e⟩
 (have q:=o 0 oa;obtain⟨g,P,S⟩:=a;have u:=zdj q;have z:S=U:=by unfold Addr.add at u;split at u<;>simp_all);subst z;refine O ⟨g,P,d,by rw[t];exact e,?_,λi k x=>?_⟩;have:=zgF W _ q;rw[Xg] at this;exact this;obtain⟨hi,rfl⟩:=zgG.1 x;have ae:i<T:=oa;have:=o i oa;rw[Xg] at this;rw[this];simp[List.getD,List.getElem?_eq_getElem (show i<m.length by omega)]
end
end
section
open Go.RowKit
open Sm (Stp Tree yJ)
def AnsF (s:ByteArray)(kids:List Tree)(r:Bool)(k p:Int):Prop:=
 (400<s.size/\r=Z/\k=2/\p=400)\/(s.size<=400/\0<=(zF s).2/\r=Z/\k=1/\p=(zF s).2)\/
 (s.size<=400/\(zF s).2<0/\k=0/\p=0/\(r=G↔∃i j,i<=(zF s).1.length/\j<=(zF s).1.length/\altR (zF s).1 67 kids i j))
theorem AnsF.ex (s:ByteArray)(kids:List Tree):∃r k p,AnsF s kids r k p:=by
 by_cases a:s.size<=400
 .by_cases b:0<=(zF s).2;exact⟨_,_,_,O (Q ⟨a,b,rfl,rfl,rfl⟩)⟩
  classical
  exact⟨decide _,0,0,O (O ⟨a,oa,rfl,rfl,decide_eq_true_iff⟩)⟩
 exact⟨_,_,_,Q ⟨oa,rfl,rfl,rfl⟩⟩
theorem rfindF {kids:List Tree}{r:Bool}{k p:Int}{d:List Tok}{q:Nat}{w:E}(h:AnsF s kids r k p)(i:PatR w q d kids):Uh V 57 #[Ua (I ⟨q,0,U⟩),Uc s] w λx e=>x=R (Ue #[C r,M J k,M J p])/\ziE w e:=by rcases h with⟨a,rfl,rfl,rfl⟩|⟨a,c,rfl,rfl,rfl⟩|⟨a,c,rfl,rfl,f⟩;exact KH q s 2 400 w od (V4 s w a);exact KH q s 1 _ w od (zbt s w a c);refine(rfind_ok q s d kids w i a c).mono ?_;rintro x e ⟨b,rfl,j,g⟩;rw[zhM.2 (j.trans f.symm)];exact⟨rfl,g⟩
def fmtS (f:Nat):ByteArray:=match f with
 |1=>⟨#[94,92,100,123,52,125,45,92,100,123,50,125,45,92,100,123,50,125,36]⟩
 |2=>⟨#[94,92,100,123,50,125,58,92,100,123,50,125,40,58,92,100,123,50,125,41,63,36]⟩
 |3=>⟨#[94,91,48,45,57,97,45,102,65,45,70,93,43,36]⟩
 |4=>⟨#[94,40,92,100,123,49,44,51,125,92,46,41,123,51,125,92,100,123,49,44,51,125,36]⟩
 |5=>⟨#[94,91,94,64,92,115,93,43,64,91,94,64,92,115,93,43,36]⟩
 |_=>⟨#[94,92,119,43,40,45,92,119,43,41,42,36]⟩
theorem zdk (f:Nat)(b:1<=f)(c:f<=6)(w:E):Uh V 98 #[M J (f:Nat)] w λx d=>x=R (Uc (fmtS f))/\ziE w d:=by
 have a:Hid (ziE w w):=zf.refl _ _;obtain rfl|rfl|rfl|rfl|rfl|rfl:f=1\/f=2\/f=3\/f=4\/f=5\/f=6:=oa
 all_goals
  clear b c;go_enter func98,ntmps98;go_wp2_with fail;go_ret;exact⟨rfl,a⟩

def yY (w:E)(base:Nat)(v:Y)(s:ByteArray):Prop:=jo w v (zV s (s.size+1) 0)/\∀g,v.ownBlock=I g->base<=g/\g<w.heap.size
theorem yY.keep {P:Nat->Prop}{w c:E}{base:Nat}{v:Y}{s:ByteArray}(h:yY w base v s)(k:zf P w c)(i:∀g,base<=g->¬P g):yY c base v s:=by refine⟨?_,λg b=>⟨(h.2 g b).1,zgJ (h.2 g b).2 k.size⟩⟩;rcases h.1 with a|⟨g,d,a,e,f⟩;exact Q a;exact O ⟨g,d,a,e,f.keep k (i g (h.2 g (by rw[a];rfl)).1)⟩
theorem yY.base {b c:Nat}{v:Y}{s:ByteArray}(h:yY w b v s)(d:c<=b):yY w c v s:=⟨h.1,λg a=>⟨zgN d (h.2 g a).1,(h.2 g a).2⟩⟩
variable (s w)
theorem zbf (a:Nat->Addr)(p:yt w a)(t:11<=w.heap.size)(r:s.size<=400)(q:(zF s).2<0):Uh V 39 #[Uc s,M J 400] w λx j=>∃b n c,x=R (Ue #[K b n c,Ui])/\yY j w.heap.size (K b n c) s/\ziE w j:=by refine(wo s 400 oa r w a p t q).mono ?_;rintro e u ⟨v,rfl,d,o⟩;obtain⟨b,n,c,rfl⟩:=zr d;refine⟨b,n,c,rfl,⟨?_,λg i=>⟨by have:=(zh d g i).1;omega,(zh d g i).2⟩⟩,o⟩;rcases zeb d with⟨f,h⟩|⟨l,k,f,h,_,m⟩;exact Q ⟨f,h⟩;exact O ⟨l,k,f,h,m⟩
theorem set3 {a g b:E}{T o:Nat}{x y z N P v2:Y}(h:b=((g.setCell ⟨T,o,U⟩ x).setCell ⟨T,o+1,U⟩ y).setCell ⟨T,o+2,U⟩ z)(k:ziE a g)(d:a.cell? ⟨T,o,U⟩=I N)(q:a.cell? ⟨T,o+1,U⟩=I P)(r:a.cell? ⟨T,o+2,U⟩=I v2)(p:∀j,a.frozen? ⟨T,j,U⟩=Z):b.cell? ⟨T,o,U⟩=I x/\b.cell? ⟨T,o+1,U⟩=I y/\b.cell? ⟨T,o+2,U⟩=I z/\(∀j v,j≠o->j≠o+1->j≠o+2->a.cell? ⟨T,j,U⟩=I v->b.cell? ⟨T,j,U⟩=I v)/\(∀j,b.frozen? ⟨T,j,U⟩=Z)/\zf (zt T) a b:=by subst h;have w:T<a.heap.size:=zgF a _ d;have l:=zg k _ _ d id;have m:=zg k _ _ q id;have n:=zg k _ _ r id;have s:∀(c:E) (i j:Nat) (u:Y),i≠j->(c.setCell ⟨T,j,U⟩ u).cell? ⟨T,i,U⟩=c.cell? ⟨T,i,U⟩:=λc i j u e=>zgI _ _ _ _ ov;refine⟨?_,?_,?_,λj v B F L t=>?_,λj=>?_,((((k.mono (λ_ _ f=>f.elim)).mine o x).mine (o+1) y).mine (o+2) z)⟩;rw[s _ _ _ _ oa,s _ _ _ _ oa];exact zgL _ _ _ l;rw[s _ _ _ _ oa];exact zgL _ _ _ ((s _ _ _ _ oa).trans m);exact zgL _ _ _ (((s _ _ _ _ oa).trans (s _ _ _ _ oa)).trans n);rw[s _ _ _ _ L,s _ _ _ _ F,s _ _ _ _ B];exact zg k _ _ t id;rw[zk,zk,zk];exact zo k _ w (p j) id
end
