/- Tables of the law: reading them; either. -/
import Derived.Test.YtfnkbmglodopkaaGreatDoorUAncBLocH
namespace Go.Proofs.YtfnkbmglodopkaaGreatDoor
section
open Go.RowKit
set_option maxHeartbeats 4000000
set_option maxRecDepth 100000
def TbV (w:World)(v:Value)(n:Nat)(X:Nat→Nat→Prop):Prop:=∃ g c,v = .slice (some ⟨g,0,none⟩) (n+1) c∧∀ i,i<n+1→∃ ob ms,w.cell? ⟨g,i,none⟩=some (.slice (some ⟨ob,0,none⟩) (n+1) (n+1))∧xQ w ob ms∧Kc.Tells n (X i) ms
theorem TbV.keep {w w':World}{v:Value}{n:Nat}{X:Nat→Nat→Prop}(h:TbV w v n X)(k:ze (fun _=>False) w w'):TbV w' v n X:=by
 obtain ⟨g,c,rfl,h⟩:=h
 refine ⟨g,c,rfl,fun i hi=>?_⟩
 obtain ⟨ob,ms,h1,h2,h3⟩:=h i hi
 exact ⟨ob,ms,zg k _ _ h1 (fun f=>f),h2.keep k (fun f=>f),h3⟩
theorem TbV.congr {w:World}{v:Value}{n:Nat}{X Y:Nat→Nat→Prop}(h:TbV w v n X)(e:∀ i j,i≤n→j≤n→(X i j↔Y i j)):TbV w v n Y:=by
 obtain ⟨g,c,rfl,h⟩:=h
 refine ⟨g,c,rfl,fun i hi=>?_⟩
 obtain ⟨ob,ms,h1,h2,h3,h4⟩:=h i hi
 refine ⟨ob,ms,h1,h2,h3,fun j=>(h4 j).trans ⟨fun ⟨a,b⟩=>⟨a,(e i j (by omega) a).1 b⟩,fun ⟨a,b⟩=>⟨a,(e i j (by omega) a).2 b⟩⟩⟩
theorem Tb.read {w:World}{base n:Nat}{v:Value}{X:Nat→Nat→Prop}{obs:List Nat}(h:Tb w base v n (n+1) X obs):TbV w v n X:=by
 have hl:=h.len
 have hr:=h.row
 rcases hr.2 with ⟨_,h0⟩ |⟨g,cap,cur,rfl,hbg,hg,hnc,hcm,hcs,htake⟩
 ·omega
 ·refine ⟨g,cap,rfl,fun i hi=>?_⟩
  obtain ⟨_,_,_,ms,h4,h5⟩:=h.sub i obs[i] (List.getElem?_eq_getElem (by omega))
  refine ⟨obs[i],ms,(hr.cellAt _ (by omega)).trans ?_,h4,h5⟩
  unfold XC
  rw [List.getElem?_map,List.getElem?_eq_getElem (by omega)]
  rfl
theorem Kc.Tells.at {n:Nat}{X:Nat→Prop}{ms:List Bool}(h:Kc.Tells n X ms){k:Nat}(hk:k<n+1):∃ b,ms[k]?=some b∧(b=true↔X k):=by
 have hl:k<ms.length:=by have:=h.1;omega
 refine ⟨ms[k],List.getElem?_eq_getElem hl,?_⟩
 have h2:=h.2 k
 rw [List.getElem?_eq_getElem hl] at h2
 simp at h2
 exact h2.trans ⟨fun q=>q.2,fun q=>⟨by omega,q⟩⟩
set_option maxHeartbeats 8000000
open Sm (Stp Tree capT)
set_option maxRecDepth 1000000
theorem text_of {s:ByteArray}(h:Kc.textB s=true):(Ref.zo s).2<0∧s.size≤400:=by
 unfold Kc.textB at h
 simp at h
 exact ⟨h.1,by omega⟩
namespace Kc
end Kc
theorem pow_iff {R Q:Nat→Nat→Prop}(h:∀ i j,R i j↔Q i j):∀ (k i j:Nat),Sm.pow R k i j↔Sm.pow Q k i j
 |0,_,_=>Iff.rfl
 |k+1,i,j=>⟨fun ⟨m,a,b⟩=>⟨m,(h i m).1 a,(pow_iff h k m j).1 b⟩,fun ⟨m,a,b⟩=>⟨m,(h i m).2 a,(pow_iff h k m j).2 b⟩⟩
end
end Go.Proofs.YtfnkbmglodopkaaGreatDoor
