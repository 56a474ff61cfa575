/- Lists of texts and of numbers that are handed in: what their reading gives the walks. -/
import Derived.ChangeSlices
import Derived.SliceStrings
import Derived.SizedLaws
import Derived.OpenShut
import Derived.KernelRfl
import Derived.Test.YtfnkbmglodopkaaGreatDoorZKeA
namespace Go.Proofs.YtfnkbmglodopkaaGreatDoor
section
open Go.RowKit Go.Deep Go.ChangeShapes
theorem noSpot {w:World}{a:Addr}{v:Value}(h:w.cell? a=some v):a.spot=none:=by
 unfold World.cell? at h
 split at h
 ·split at h
  ·cases h
  ·rename_i q
   simpa using q
 ·cases h
theorem ZX (g off i:Nat):(⟨g,off,none⟩:Addr).add i=⟨g,off+i,none⟩:=by
 unfold Addr.add
 split<;>simp_all
theorem Tryz.cellsI1:Tryz.prog.cellsOf 3=1:=by kernel_rfl
theorem Tryz.cellsS1:Tryz.prog.cellsOf 9=1:=by kernel_rfl
theorem Tryz.bytesI1:Tryz.prog.bytesOf 3=8:=by kernel_rfl
section
variable {H:Type} {enc:TypeId×Value→H}
theorem Ka {W:World}{n:Int}{d:DataW H}{p:List MemPlace}(h:DataW.Trod enc Tryz.prog W 0 (fun _=>true) true 3 (.int .i64 n) d p):-9223372036854775808≤n∧n≤9223372036854775807:=by
 obtain ⟨fuel,h⟩:=h
 obtain ⟨k,r0,_,wp⟩:=DataW.trod_int Tryz.underlying3 h
 have e:n=k:=by simpa [Value.cells] using r0
 subst e
 exact bounds_i64 wp
theorem nums_of {W:World}{a0:Option Addr}{l0 c0:Nat}{d0:DataW H}{p:List MemPlace}(h0:DataW.Trod enc Tryz.prog W 0 (fun _=>true) true 28 (.slice a0 l0 c0) d0 p){ts:List TypeId}{ds:List (DataW H)}(hz:(DataW.weightsEach Tryz.prog ts ds).all (·≤reachBytes)=true){j:Nat}(ht:ts[j]?=some 28)(hd:ds[j]?=some d0):∃ ks,qW W (fun g=>g<W.heap.size) (.slice a0 l0 c0) ks∧ks.length<4611686018427387904:=by
 obtain ⟨fuel,h⟩:=h0
 rcases open_ints Tryz.underlying28 Tryz.underlying3 Tryz.cellsI1 h with ⟨h1,h2⟩ |⟨a,len,cap,zs,h1,hb,hlc,hcm,hzl,hx,hall,_⟩
 ·have e:Value.slice a0 l0 c0 = .slice none 0 0:=by simpa [Value.cells] using h1
  exact ⟨[],.inl ⟨rfl,none,0,e⟩,by simp⟩
 ·have e:Value.slice a0 l0 c0 = .slice (some a) len cap:=by simpa [Value.cells] using h1
  rw [if_pos rfl] at hzl
  have hd0:d0 = .slice (lits .i64 (zs.take len)) (lits .i64 (zs.drop len)):=congrArg Prod.fst hx
  rw [hd0] at hd
  have hsz:=sized_slice hz ht hd Tryz.underlying28
  have hlen:(zs.take len).length=len:=by simp;omega
  rw [Tryz.bytesI1] at hsz
  simp [lits] at hsz
  unfold reachBytes at hsz
  refine ⟨zs.take len,?_,by rw [hlen];omega⟩
  by_cases hl0:len=0
  ·subst hl0
   exact .inl ⟨by simp,some a,cap,e⟩
  ·have hc0:=hall 0 (by omega)
   obtain ⟨g,off,spot⟩:=a
   have hs:=noSpot hc0
   have hs2:spot=none:=by
    unfold Addr.add at hs
    split at hs<;>simp_all
   subst hs2
   refine .inr ⟨g,off,cap,by rw [hlen];exact e,?_,fun i k hk=>?_⟩
   ·have:=World.block_lt_of_cell? W _ hc0
    rw [ZX] at this
    exact this
   ·obtain ⟨hi,rfl⟩:=List.getElem?_eq_some_iff.1 hk
    have hi2:i<len:=by omega
    have:=hall i (by omega)
    rw [ZX] at this
    rw [this]
    simp [List.getD,List.getElem?_eq_getElem (show i<zs.length by omega)]
end
theorem K0 {H:Type}{d:DataW H}:∀ {l:List (DataW H)},d∈l→Rows.uptoBulk d≤Rows.uptoBulkAll l
 | [],h=>by cases h
 |x :: r,h=>by
  simp only [Rows.uptoBulkAll]
  rcases List.mem_cons.1 h with rfl |e
  ·omega
  ·have:=K0 e
   omega
theorem Xx {H:Type}:∀ (l:List ByteArray),l.length+(l.map ByteArray.size).sum≤Rows.uptoBulkAll (strs (H:=H) l)
 | []=>by simp [strs]
 |x :: r=>by
  have:=Xx (H:=H) r
  have e:x.data.toList.length=x.size:=by rw [Array.length_toList];rfl
  simp only [strs,List.map_cons,Rows.uptoBulkAll,Rows.uptoBulk,List.sum_cons,List.length_cons] at this ⊢
  omega
theorem Jx:∀ {l:List ByteArray} {t:ByteArray},t∈l→t.size≤(l.map ByteArray.size).sum
 | [],_,h=>by cases h
 |x :: r,t,h=>by
  simp only [List.map_cons,List.sum_cons]
  rcases List.mem_cons.1 h with rfl |e
  ·omega
  ·have:=Jx e
   omega
theorem small_of {H:Type}{l:List (DataW H)}(h:Rows.uptoSmall H l=true):Rows.uptoBulkAll l≤1048576:=of_decide_eq_true h
section
variable {H:Type} {enc:TypeId×Value→H}
theorem Wf {W:World}{a0:Option Addr}{l0 c0:Nat}{d0:DataW H}{p:List MemPlace}(h0:DataW.Trod enc Tryz.prog W 0 (fun _=>true) true 64 (.slice a0 l0 c0) d0 p)(hb:Rows.uptoBulk d0≤1048576):∃ xs,StrSl W (.slice a0 l0 c0) xs∧xs.length<1048576∧∀ t∈xs,t.size≤1048576:=by
 obtain ⟨fuel,h⟩:=h0
 rcases open_strings Tryz.underlying64 Tryz.underlying9 Tryz.cellsS1 h with ⟨h1,h2⟩ |⟨a,len,cap,zs,h1,hbb,hlc,hcm,hzl,hx,hall,_⟩
 ·have e:Value.slice a0 l0 c0 = .slice none 0 0:=by simpa [Value.cells] using h1
  exact ⟨[],.inl ⟨rfl,none,0,e⟩,by simp,by simp⟩
 ·have e:Value.slice a0 l0 c0 = .slice (some a) len cap:=by simpa [Value.cells] using h1
  rw [if_pos rfl] at hzl
  have hd0:=congrArg Prod.fst hx
  simp only at hd0
  rw [hd0] at hb
  have hlen:(zs.take len).length=len:=by simp;omega
  have hs:=Xx (H:=H) (zs.take len)
  simp only [Rows.uptoBulk] at hb
  refine ⟨zs.take len,?_,by omega,fun t ht=>by have:=Jx ht;omega⟩
  by_cases hl0:len=0
  ·subst hl0
   exact .inl ⟨by simp,some a,cap,e⟩
  ·have hc0:=hall 0 (by omega)
   obtain ⟨g,off,spot⟩:=a
   have hs:=noSpot hc0
   have hs2:spot=none:=by
    unfold Addr.add at hs
    split at hs<;>simp_all
   subst hs2
   refine .inr ⟨g,off,cap,by rw [hlen];exact e,?_,fun i k hk=>?_⟩
   ·have:=World.block_lt_of_cell? W _ hc0
    rw [ZX] at this
    exact this
   ·obtain ⟨hi,rfl⟩:=List.getElem?_eq_some_iff.1 hk
    have hi2:i<len:=by omega
    have:=hall i (by omega)
    rw [ZX] at this
    rw [this]
    simp [List.getD,List.getElem?_eq_getElem (show i<zs.length by omega)]
end
end
end Go.Proofs.YtfnkbmglodopkaaGreatDoor
