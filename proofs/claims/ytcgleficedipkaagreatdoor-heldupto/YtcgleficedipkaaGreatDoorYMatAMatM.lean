/- The reference's characters: which a part, a token takes. -/
import Derived.Test.YtcgleficedipkaaGreatDoorYRefWRefY
import Derived.Deep.RegionHeld3
import Derived.Deep.OwnRows
import Derived.Test.YtcgleficedipkaaGreatDoorYEqJEqM
import Derived.Deep.CutBlock
namespace Go.Proofs.YtcgleficedipkaaGreatDoor
section
open Go.RowKit
namespace Eqv
end Eqv
namespace Eqv
end Eqv
namespace Ref
def chAt (l:List (Int×Int))(k:Nat):Int:=match l[k]? with
 |some p=>p.1
 |none=>-1
def chBe (l:List (Int×Int))(k:Nat):Int:=if 0<k then chAt l (k-1) else -1
def asB (sign:Int)(l:List (Int×Int))(i:Nat):Bool:=
 if sign=94 then decide (chBe l i<0)
 else if sign=36 then decide (chAt l i<0)
 else if sign=98 then (Eqv.inSp vL (chBe l i) != Eqv.inSp vL (chAt l i))
 else (Eqv.inSp vL (chBe l i) == Eqv.inSp vL (chAt l i))
end Ref
structure xQ (w:World)(g:Nat)(bs:List Bool):Prop where
 c:∀ (j:Nat) b,bs[j]?=some b→w.cell? ⟨g,j,none⟩=some (.bool b)
 f:∀ (j:Nat) b,bs[j]?=some b→w.frozen? ⟨g,j,none⟩=false
theorem xQ.keep {P:Nat→Prop}{w w':World}{g:Nat}{bs:List Bool}(h:xQ w g bs)(k:ze P w w')(hn:¬P g):xQ w' g bs:=
 ⟨fun j b hj=>zg k _ _ (h.c j b hj) hn,fun j b hj=>zP k _ (World.block_lt_of_cell? w _ (h.c j b hj)) (h.f j b hj) hn⟩
theorem xQ.set {w:World}{g:Nat}{bs:List Bool}(h:xQ w g bs)(i:Nat)(v:Bool):xQ (w.setCell ⟨g,i,none⟩ (.bool v)) g (bs.set i v):=by
 refine ⟨fun j b hj=>?_,fun j b hj=>?_⟩
 ·by_cases e:i=j
  ·subst e
   have hl:i<bs.length:=by have:=(List.getElem?_eq_some_iff.1 hj).1;simpa using this
   rw [List.getElem?_set_self hl] at hj
   obtain rfl:=Option.some.inj hj
   exact World.cell?_setCell_same _ _ _ (h.c i bs[i] (List.getElem?_eq_getElem hl))
  ·rw [List.getElem?_set_ne e] at hj
   exact (World.cell?_setCell_other _ _ _ _ (by intro hh;exact e (by have:=congrArg Addr.off hh;simpa using this))).trans (h.c j b hj)
 ·rw [zk]
  by_cases e:i=j
  ·subst e
   have hl:i<bs.length:=by have:=(List.getElem?_eq_some_iff.1 hj).1;simpa using this
   exact h.f i bs[i] (List.getElem?_eq_getElem hl)
  ·rw [List.getElem?_set_ne e] at hj
   exact h.f j b hj
theorem ze.laterB {P:Nat→Prop}{a b c:World}(h:ze (fun _=>False) a b)(k:ze P b c)(hP:∀ i,P i→a.heap.size≤i):ze (fun _=>False) a c:=
 ⟨k.os.trans h.os,k.tape.trans h.tape,k.output.trans h.output,Nat.le_trans h.size k.size,fun i hi hn=>(k.block i (Nat.lt_of_lt_of_le hi h.size) (fun hp=>by have:=hP i hp;omega)).trans (h.block i hi hn)⟩
theorem Tryz.infoBool:(Tryz.prog.info? 4).map (fun i=>(i.zero,i.size,i.bytes))=some (some (.bool false),1,1):=by kernel_rfl
theorem jt (n:Nat)(hn:n≤1000)(w:World):(Instr.makeSlice 186 (.int .i64 (n:Int)) (.int .i64 (n:Int))).run Tryz.prog w = .ok (.slice (some ⟨w.heap.size,0,none⟩) n n) (w.alloc (.cells (madeCells #[.bool false] n) 4)):=
 run_make_row' 186 4 (.bool false) 1 Tryz.underlying186 Tryz.infoBool rfl .i64 .i64 n (by omega) (by omega) w
theorem made_get (n j:Nat)(h:j<n):(madeCells #[.bool false] n)[j]?=some (.bool false):=by
 unfold madeCells
 simp [h,Nat.mod_one]
theorem xQ.made (w:World)(n:Nat):xQ (w.alloc (.cells (madeCells #[.bool false] n) 4)) w.heap.size (List.replicate n false):=by
 refine ⟨fun j b hj=>?_,fun j b hj=>zG w _ rfl _ _ j⟩
 have hl:=(List.getElem?_eq_some_iff.1 hj).1
 simp at hl
 rw [List.getElem?_replicate,if_pos hl] at hj
 obtain rfl:=Option.some.inj hj
 exact zm w _ rfl _ _ j _ (made_get n j hl)
namespace Ref
end Ref
namespace Sm
variable {lf:Tree→Nat→Prop} {ah:Int→Nat→Prop}
theorem pow_le {R:Nat→Nat→Prop}(h:∀ i j,R i j→i≤j):∀ (k i j:Nat),pow R k i j→i≤j
 |0,i,j,e=>by rw [show i=j from e];exact Nat.le_refl _
 |k+1,i,j,⟨m,h1,h2⟩=>Nat.le_trans (h i m h1) (pow_le h k m j h2)
end Sm
namespace Ref
def span (R:Nat→Nat→Prop)(a b i j:Nat):Prop:=∃ k,a≤k∧k≤b∧Sm.pow R k i j
end Ref
open Sm (Tree)
namespace Ref
def lfT (l:List (Int×Int))(T:Tree)(i:Nat):Prop:=i<l.length∧Eqv.ZM T (chAt l i)=true
def ahT (l:List (Int×Int))(a:Int)(i:Nat):Prop:=asB (Eqv.asSign a) l i=true
end Ref

namespace Eqv
end Eqv


namespace Ref
theorem Qm (s:ByteArray):∀ (f p:Nat) (acc:List (Int×Int)),acc.length≤p→p≤s.size→(xL s f p acc).1.length≤s.size
 |0,p,acc,h,hp=>by simp only [xL];omega
 |f+1,p,acc,h,hp=>by
  by_cases hlt:p<s.size
  ·cases ho:oneF s p with
   |none=>rw [jx hlt ho];show acc.length≤_;omega
   |some nc=>
    obtain ⟨n,c⟩:=nc
    rw [qW hlt ho]
    have:=qC ho
    exact Qm s f (p+n) _ (by simp;omega) (by omega)
  ·rw [vE hlt];show acc.length≤_;omega
theorem xh (s:ByteArray):(zo s).1.length≤s.size:=Qm s _ 0 [] (by simp) (by omega)
end Ref
def zM (js:List Nat):List Value:=js.map fun (j:Nat)=>Value.int .i64 (j:Int)
def wl (n:Nat)(X:Nat→Prop)(js:List Nat):Prop:=js.Pairwise (· < ·)∧∀ j,j∈js↔j≤n∧X j
theorem Tryz.infoInt:(Tryz.prog.info? 3).map (fun i=>(i.zero,i.size,i.bytes))=some (some (.int .i64 0),1,8):=by kernel_rfl
end
end Go.Proofs.YtcgleficedipkaaGreatDoor
