/- What the listed package-level variables hold as the call begins. -/
import Derived.Test.YtcgleficedipkaaGreatDoorYLinALinF
import Derived.Test.YtcgleficedipkaaGreatDoorRows
import Derived.ChangeSame
import Derived.ChangeVars
import Derived.JoinedOf
import Derived.RowKit
import Derived.LaidLaws
import Derived.LaidHandle
import Derived.LaidSub
import Derived.Stop.Joined
import Derived.ChangeSlices
import Derived.SliceStrings
import Derived.SizedLaws
import Derived.OpenShut
import Derived.KernelRfl
namespace Go.Proofs.YtcgleficedipkaaGreatDoor
open _root_.Go.Proofs.Tryz
variable {W:World}
section
open Go.ChangeShapes Go.WideShapes Go.RowKit
set_option maxRecDepth 1000000
theorem Tryz.ownK:ownKnob prog.godebug=none:=by kernel_rfl
theorem Tryz.gEt : prog.globalNamed "errors.errorType" = some 9 := by kernel_rfl
theorem Tryz.tRt : (prog.cutTypes.find? (·.1 == "internal/reflectlite.rtype")).map (·.2) = some 283 := by kernel_rfl
theorem Tryz.nTypes:prog.types.size=459:=by kernel_rfl
theorem Tryz.oneError:((List.range 459).filter fun t=>prog.rowNamed t [101,114,114,111,114])=[84]:=by kernel_rfl
theorem Tryz.cellsES:prog.cellsOf 447=1:=by kernel_rfl
theorem Tryz.cellsStr:prog.cellsOf 9=1:=by kernel_rfl
theorem starES : "*" ++ "errors.errorString" = "*errors.errorString" := by decide
theorem Tryz.rowES (u : TypeId) (h : prog.typeName? 3 u = some "*errors.errorString") : u = 428 :=
 typeName_ptr_named (nm := "errors.errorString") (by rw [starES]; kernel_rfl) (by kernel_rfl) (by decide) u (by rw [starES]; exact h)
theorem Tryz.gText : prog.globalNamed "lineal/fault.Text" = some 1 := by kernel_rfl
theorem Tryz.tText:(prog.globals[1]?).map (·.type)=some 84:=by kernel_rfl
theorem Tryz.gLong : prog.globalNamed "lineal/fault.Long" = some 2 := by kernel_rfl
theorem Tryz.tLong:(prog.globals[2]?).map (·.type)=some 84:=by kernel_rfl
theorem Tryz.gSyntax : prog.globalNamed "lineal/fault.Syntax" = some 10 := by kernel_rfl
theorem Tryz.tSyntax:(prog.globals[10]?).map (·.type)=some 84:=by kernel_rfl
theorem Tryz.gRange : prog.globalNamed "lineal/fault.Range" = some 3 := by kernel_rfl
theorem Tryz.tRange:(prog.globals[3]?).map (·.type)=some 84:=by kernel_rfl
theorem Tryz.gCount : prog.globalNamed "lineal/fault.Count" = some 4 := by kernel_rfl
theorem Tryz.tCount:(prog.globals[4]?).map (·.type)=some 84:=by kernel_rfl
theorem Tryz.gUnsupported : prog.globalNamed "lineal/fault.Unsupported" = some 5 := by kernel_rfl
theorem Tryz.tUnsupported:(prog.globals[5]?).map (·.type)=some 84:=by kernel_rfl
theorem Tryz.gDeep : prog.globalNamed "lineal/fault.Deep" = some 6 := by kernel_rfl
theorem Tryz.tDeep:(prog.globals[6]?).map (·.type)=some 84:=by kernel_rfl
theorem Tryz.gTree : prog.globalNamed "lineal/fault.Tree" = some 0 := by kernel_rfl
theorem Tryz.tTree:(prog.globals[0]?).map (·.type)=some 84:=by kernel_rfl
theorem Tryz.gSchema : prog.globalNamed "lineal/fault.Schema" = some 8 := by kernel_rfl
theorem Tryz.tSchema:(prog.globals[8]?).map (·.type)=some 84:=by kernel_rfl
theorem Tryz.gBig : prog.globalNamed "lineal/fault.Big" = some 7 := by kernel_rfl
theorem Tryz.tBig:(prog.globals[7]?).map (·.type)=some 84:=by kernel_rfl
theorem zb1 (h:handlesMet prog [("errors.errorType", (Rows.laid_errors_errorType : DataW Unit))] W) : ∀ j, W.cell? ⟨9, j, none⟩ = (#[Value.iface 283 (.agg #[.pointer (some ⟨15, 84, none⟩)])] : Array Value)[j]? := by
 obtain ⟨name,u,ty,e1,e2,e3,e4,e5⟩:=h _ (xf.2 rfl);have en:name=[101,114,114,111,114]:=(qu e1).symm;subst en;obtain rfl:=qu (Tryz.tRt.symm.trans e2);have hm:ty∈(List.range 459).filter fun t=>prog.rowNamed t [101,114,114,111,114]:=List.mem_filter.2 ⟨Qf.2 (by rw [<-Tryz.nTypes];exact e3),e4⟩;rw [Tryz.oneError] at hm;obtain rfl:=xf.1 hm;have hh:typeHandle prog 84 = .pointer (some ⟨15,84,none⟩):=by kernel_rfl
 rw [hh] at e5;exact fun j=>World.var?_cell Tryz.gEt e5 j
theorem k8 {n:String}{d:DataW Unit}{r:List (String×DataW Unit)}(h:laidMet prog ((n,d) :: r) W):laidMet prog r W:=by
 obtain ⟨ps,⟨g,t,cs,fuel,p,q,_,_,_,_,hq,rfl⟩,hnd,hrows⟩:=h;exact ⟨q,hq,List.Nodup.sublist (List.sublist_append_right _ _) hnd,fun b off hm=>hrows b off (XC _ hm)⟩
theorem qb {n:String}{g:Nat}{text:List UInt8}{r:List (String × DataW Unit)}(h:laidMet prog ((n, .iface "*errors.errorString" (.ptr (.agg [.lit (.string text)]))) :: r) W)
  (hg:prog.globalNamed n=some g) (ht:(prog.globals[g]?).map (·.type)=some 84) :
  ∃ (b:Addr) (s:ByteArray),(∀ j,W.cell? ⟨g,j,none⟩=(#[Value.iface 428 (.pointer (some b))]:Array Value)[j]?)/\W.cell? b=some (.string s)/\s.data.toList=text/\(∃ c t,W.heap[b.block]?=some (.cells c t (0,0)))/\laidMet prog r W:=by
 have htail:laidMet prog r W:=by
  obtain ⟨ps,⟨g,t,cs,fuel,p,q,_,_,_,_,hq,rfl⟩,hnd,hrows⟩:=h;exact ⟨q,hq,List.Nodup.sublist (List.sublist_append_right _ _) hnd,fun b off hm=>hrows b off (XC _ hm)⟩
 obtain ⟨ps,⟨g0,t0,cs0,f0,p0,q0,hg0,ht0,hv0,hd0,_,e0⟩,_,hrows⟩:=h;obtain rfl:=qu (hg.symm.trans hg0);obtain rfl:=qu (ht.symm.trans ht0);subst e0;obtain ⟨l0⟩:=cs0;have ok0:∀ u v,l0=[.iface u v]->Value.okWide prog W .any 0 u v:=fun u v e=>by
  subst e;exact (hrows g 0 (by simp [MemPlace.row])).2 u v (by simpa using World.var?_cell hg0 hv0 0)
 obtain ⟨b,s,rfl,hc,hs,_,hp⟩:=errorString_of_trod underlying84 Tryz.rowES underlying428 underlying447 rfl rfl underlying9 Tryz.cellsES Tryz.cellsStr hd0 ok0;refine ⟨b,s,fun j=>World.var?_cell hg0 hv0 j,hc,hs,(hrows b.block b.off ?_).1,htail⟩;rw [hp];simp [MemPlace.row]
theorem qo {g:Nat}{T:TypeId}{x:Value}{b:Addr}{s:ByteArray}(h:∀ j,W.cell? ⟨g,j,none⟩=(#[Value.iface T x]:Array Value)[j]?)(hb:W.cell? b=some (.string s)):b.block≠g:=by
 intro e;obtain ⟨bl,off,sp⟩:=b;cases sp with
 |none=>
  have e':bl=g:=e;subst e';rw [h off] at hb;cases off with
  |zero=>simp at hb
  |succ o=>simp at hb
 |some y=>
  unfold World.cell? at hb;simp at hb;split at hb<;>simp at hb
def ZZ:Nat->List UInt8
 |1=>[98,121,116,101,115,32,116,104,97,116,32,97,114,101,32,110,111,32,116,101,120,116]
 |2=>[116,111,111,32,109,97,110,121,32,98,121,116,101,115]
 |3=>[110,111,32,112,97,116,116,101,114,110]
 |4=>[97,32,114,97,110,103,101,32,111,114,32,99,111,117,110,116,115,32,116,104,101,32,119,114,111,110,103,32,119,97,121,32,97,98,111,117,116]
 |5=>[97,32,99,111,117,110,116,32,116,104,97,116,32,105,115,32,116,111,111,32,103,114,101,97,116]
 |6=>[97,32,112,97,116,116,101,114,110,32,116,104,97,116,32,110,101,101,100,115,32,109,101,109,111,114,121]
 |7=>[103,114,111,117,112,115,32,116,111,111,32,100,101,101,112,32,105,110,32,111,110,101,32,97,110,111,116,104,101,114]
 |8=>[97,32,112,97,116,116,101,114,110,32,116,104,97,116,32,105,115,32,116,111,111,32,108,97,114,103,101]
 |9=>[110,111,100,101,115,32,116,104,97,116,32,97,114,101,32,110,111,32,100,111,99,117,109,101,110,116]
 |10=>[115,99,104,101,109,97,115,32,116,104,97,116,32,109,97,121,32,110,111,116,32,98,101]
 |_=>[]
theorem Vd:((List.range 11).all fun j=>(List.range 11).all fun k=>decide (j=0) ||decide (k=0) ||decide (j=k) || !(ZZ j == ZZ k))=true:=by decide +kernel
theorem WK (j:Nat)(hj:j<11)(k:Nat)(hk:k<11)(j1:1<=j)(k1:1<=k)(hne:j≠k):ZZ j≠ZZ k:=by
 have h:=List.all_eq_true.1 (List.all_eq_true.1 Vd j (Qf.2 hj)) k (Qf.2 hk);intro e;rw [e] at h;simp at h;omega
theorem QR (h:laidMetH prog Rows.heldRow.laid W):∃ a,Start W a:=by
 obtain ⟨h1,h2⟩:=laidMetH_iff.1 h;have h2' : handlesMet prog [("errors.errorType", (Rows.laid_errors_errorType : DataW Unit))] W := h2;have he:=zb1 h2';have h1a : laidMet prog ([("math/bits.deBruijn32tab", Rows.laid_math_bits_deBruijn32tab), ("math/bits.deBruijn64tab", Rows.laid_math_bits_deBruijn64tab), ("internal/strconv.uint64pow10", Rows.laid_internal_strconv_uint64pow10), ("lineal/fault.Text", Rows.laid_lineal_fault_Text), ("lineal/fault.Long", Rows.laid_lineal_fault_Long), ("lineal/fault.Syntax", Rows.laid_lineal_fault_Syntax), ("lineal/fault.Range", Rows.laid_lineal_fault_Range), ("lineal/fault.Count", Rows.laid_lineal_fault_Count), ("lineal/fault.Unsupported", Rows.laid_lineal_fault_Unsupported), ("lineal/fault.Deep", Rows.laid_lineal_fault_Deep), ("lineal/fault.Big", Rows.laid_lineal_fault_Big), ("lineal/fault.Tree", Rows.laid_lineal_fault_Tree), ("lineal/fault.Schema", Rows.laid_lineal_fault_Schema)] : List (String × DataW Unit)) W := h1;have h1b:=k8 (k8 (k8 h1a));obtain ⟨b1,s1,c1,d1,x1,r1,t1⟩:=qb h1b Tryz.gText Tryz.tText;obtain ⟨b2,s2,c2,d2,x2,r2,t2⟩:=qb t1 Tryz.gLong Tryz.tLong;obtain ⟨b3,s3,c3,d3,x3,r3,t3⟩:=qb t2 Tryz.gSyntax Tryz.tSyntax;obtain ⟨b4,s4,c4,d4,x4,r4,t4⟩:=qb t3 Tryz.gRange Tryz.tRange;obtain ⟨b5,s5,c5,d5,x5,r5,t5⟩:=qb t4 Tryz.gCount Tryz.tCount;obtain ⟨b6,s6,c6,d6,x6,r6,t6⟩:=qb t5 Tryz.gUnsupported Tryz.tUnsupported;obtain ⟨b7,s7,c7,d7,x7,r7,t7⟩:=qb t6 Tryz.gDeep Tryz.tDeep;obtain ⟨b8,s8,c8,d8,x8,r8,t8⟩:=qb t7 Tryz.gBig Tryz.tBig;obtain ⟨b9,s9,c9,d9,x9,r9,t9⟩:=qb t8 Tryz.gTree Tryz.tTree;obtain ⟨b10,s10,c10,d10,x10,r10,t10⟩:=qb t9 Tryz.gSchema Tryz.tSchema;refine ⟨fun k=>match k with |1=>b1 |2=>b2 |3=>b3 |4=>b4 |5=>b5 |6=>b6 |7=>b7 |8=>b8 |9=>b9 |10=>b10 |_=>b1,⟨(c1 0).trans rfl,(c2 0).trans rfl,(c3 0).trans rfl,(c4 0).trans rfl,(c5 0).trans rfl,(c6 0).trans rfl,(c7 0).trans rfl,(c8 0).trans rfl⟩,⟨?_,?_,(c9 0).trans rfl,(c10 0).trans rfl⟩,he 0,?_⟩
 ·intro k k1 k2
  match k,k1,k2 with
  |1,_,_=>exact r1
  |2,_,_=>exact r2
  |3,_,_=>exact r3
  |4,_,_=>exact r4
  |5,_,_=>exact r5
  |6,_,_=>exact r6
  |7,_,_=>exact r7
  |8,_,_=>exact r8
  |9,_,_=>exact r9
  |10,_,_=>exact r10
  |0,k1,_=>exact absurd k1 (by decide)
  |k+11,_,k2=>exact absurd k2 (by omega)
 ·have ht:∀ k,1<=k->k<=10->∃ s:ByteArray,W.cell? ((fun k=>match k with |1=>b1 |2=>b2 |3=>b3 |4=>b4 |5=>b5 |6=>b6 |7=>b7 |8=>b8 |9=>b9 |10=>b10 |_=>b1:Nat->Addr) k)=some (.string s)/\s.data.toList=ZZ k:=by
   intro k k1 k2
   match k,k1,k2 with
   |1,_,_=>exact ⟨s1,d1,x1⟩
   |2,_,_=>exact ⟨s2,d2,x2⟩
   |3,_,_=>exact ⟨s3,d3,x3⟩
   |4,_,_=>exact ⟨s4,d4,x4⟩
   |5,_,_=>exact ⟨s5,d5,x5⟩
   |6,_,_=>exact ⟨s6,d6,x6⟩
   |7,_,_=>exact ⟨s7,d7,x7⟩
   |8,_,_=>exact ⟨s8,d8,x8⟩
   |9,_,_=>exact ⟨s9,d9,x9⟩
   |10,_,_=>exact ⟨s10,d10,x10⟩
   |0,k1,_=>exact absurd k1 (by decide)
   |k+11,_,k2=>exact absurd k2 (by omega)
  intro j k j1 j2 k1 k2 hjk e;obtain ⟨s,e1,e2⟩:=ht j j1 j2;obtain ⟨s',e3,e4⟩:=ht k k1 k2;have e6:=e1.symm.trans ((congrArg W.cell? e).trans e3);have es:s=s':=by simpa using e6
  subst es;exact WK j (by omega) k (by omega) j1 k1 hjk (e2.symm.trans e4)
 ·have hlt:=zE W b1 d1;have a1:=qo c1 d1;have a2:=qo c2 d1;have a3:=qo c3 d1;have a4:=qo c4 d1;have a5:=qo c5 d1;have a6:=qo c6 d1;have a7:=qo c7 d1;have a8:=qo c8 d1;have a9:=qo he d1;have a10:=qo c9 d1;have a11:=qo c10 d1;omega
theorem Ve (h:laidMetH prog Rows.heldRow.laid W):TabAt W:=by
 obtain ⟨h1,_⟩:=laidMetH_iff.1 h;have h1a : laidMet prog (("math/bits.deBruijn32tab", (Rows.laid_math_bits_deBruijn32tab : DataW Unit)) :: ("math/bits.deBruijn64tab", Rows.laid_math_bits_deBruijn64tab) :: ("internal/strconv.uint64pow10", Rows.laid_internal_strconv_uint64pow10) :: _) W := h1;have h1b:=k8 (k8 h1a);have e:(Rows.laid_internal_strconv_uint64pow10:DataW Unit)=Lib.tabData .u64 Lib.pow10Tab:=by rfl
 rw [e] at h1b;exact Lib.tabIs_of_head (t:=418) (e:=363) (n:=20) tabNo (by kernel_rfl) underlying418 underlying363 (by kernel_rfl) (by kernel_rfl) h1b
theorem qI (h:laidMetH prog Rows.heldRow.laid W):∃ a,wd W a W.heap.size:=by
 obtain ⟨a,hS⟩:=QR h;have hT:=Ve h;refine ⟨a,hS,hT,fun k k1 k2=>?_,z8 _,hT.lt⟩;obtain ⟨c,t,hc⟩:=hS.rows.row k k1 k2;exact (yK.1 hc).1
end
section
open Go.RowKit Go.Deep Go.ChangeShapes
theorem noSpot {w:World}{a:Addr}{v:Value}(h:w.cell? a=some v):a.spot=none:=by
 unfold World.cell? at h;split at h
 ·split at h
  ·cases h
  ·rename_i q;simpa using q
 ·cases h
theorem addNone (g off i:Nat):(⟨g,off,none⟩:Addr).add i=⟨g,off+i,none⟩:=by
 unfold Addr.add;split<;>simp_all
theorem Tryz.cellsI1:prog.cellsOf 3=1:=by kernel_rfl
theorem Tryz.cellsS1:prog.cellsOf 9=1:=by kernel_rfl
theorem Tryz.bytesI1:prog.bytesOf 3=8:=by kernel_rfl
section
variable {H:Type} {enc:TypeId×Value->H}
theorem nums_of2 {W:World}{a0:Option Addr}{l0 c0:Nat}{d0:DataW H}{p:List MemPlace}(h0:DataW.Trod enc prog W 0 (fun _=>true) true 27 (.slice a0 l0 c0) d0 p){ts:List TypeId}{ds:List (DataW H)}(hz:(DataW.weightsEach prog ts ds).all (·<=reachBytes)=true){j:Nat}(ht:ts[j]?=some 27)(hd:ds[j]?=some d0):∃ ks,wk W (fun g=>g<W.heap.size) (.slice a0 l0 c0) ks/\ks.length<=17592186044416:=by
 obtain ⟨fuel,h⟩:=h0;rcases open_ints underlying27 underlying3 Tryz.cellsI1 h with ⟨h1,h2⟩ |⟨a,len,cap,zs,h1,hb,hlc,hcm,hzl,hx,hall,_⟩
 ·have e:Value.slice a0 l0 c0 = .slice none 0 0:=by simpa [Value.cells] using h1
  exact ⟨[],.inl ⟨rfl,none,0,e⟩,by simp⟩
 ·have e:Value.slice a0 l0 c0 = .slice (some a) len cap:=by simpa [Value.cells] using h1
  rw [if_pos rfl] at hzl;have hd0:d0 = .slice (lits .i64 (zs.take len)) (lits .i64 (zs.drop len)):=congrArg Prod.fst hx;rw [hd0] at hd;have hsz:=sized_slice hz ht hd underlying27;have hlen:(zs.take len).length=len:=by simp;omega
  rw [Tryz.bytesI1] at hsz;simp [lits] at hsz;unfold reachBytes at hsz;refine ⟨zs.take len,?_,by rw [hlen];omega⟩;by_cases hl0:len=0
  ·subst hl0;exact .inl ⟨by simp,some a,cap,e⟩
  ·have hc0:=hall 0 (by omega);obtain ⟨g,off,spot⟩:=a;have hs:=noSpot hc0;have hs2:spot=none:=by
    unfold Addr.add at hs;split at hs<;>simp_all
   subst hs2;refine .inr ⟨g,off,cap,by rw [hlen];exact e,?_,fun i k hk=>?_⟩
   ·have:=zE W _ hc0;rw [addNone] at this;exact this
   ·obtain ⟨hi,rfl⟩:=yd.1 hk;have hi2:i<len:=(by omega);have:=hall i (by omega);rw [addNone] at this;rw [this];simp [List.getD,List.getElem?_eq_getElem (show i<zs.length by omega)]
end
end
end Go.Proofs.YtcgleficedipkaaGreatDoor
