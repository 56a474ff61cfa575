/- Parts in memory, as trees. -/
import Derived.Test.YtnagphodmfejiaaGreatDoorX10
namespace Go.Proofs.YtnagphodmfejiaaGreatDoor
section
open Go.RowKit
open Sm (Tree)
namespace Pro
def tAsr (a:Int):Tree:=⟨0,a,0,false,[],[],[]⟩
def tAny:Tree:=⟨1,0,0,false,[],[],[]⟩
def qO (c:Int):Tree:=⟨2,c,0,false,[],[],[]⟩
def qy (c:Int):Tree:=⟨3,c,0,false,[],[],[]⟩
def tCls (neg:Bool)(R:List (Int×Int))(S:List Int):Tree:=⟨4,0,0,neg,R,S,[]⟩
def tAlt (ts:List Tree):Tree:=⟨5,0,0,false,[],[],ts⟩
def tSeq (ts:List Tree):Tree:=⟨6,0,0,false,[],[],ts⟩
def tRep (t:Tree)(l m:Int):Tree:=⟨7,l,m,false,[],[],[t]⟩
section
variable (L:List (Int×Int)) (len:Int)
def asV (n:Nat):Int:=if zi L n=94 then 0 else if zi L n=36 then 1 else if zi L (n+1)=98 then 2 else 3
def qz:Nat→Nat→List (Int×Int)→List Int→List (Int×Int)×List Int
 |0,_,R,S=>(R,S)
 |f+1,n,R,S=>if zi L n=93 then (R,S) else qz f (addO L len n).n (addR L len n R) (addS L len n S)
def xK (n:Nat):Tree:=tCls (decide (zi L (n+1)=94)) (qz L len (L.length+1-n) (if zi L (n+1)=94 then n+2 else n+1) [] []).1 (qz L len (L.length+1-n) (if zi L (n+1)=94 then n+2 else n+1) [] []).2
def oneT (m:Bool)(c:Int):Tree:=match m with
 |true=>qy c
 |false=>qO c
def y8 (DT:Nat→Tree)(n:Nat):Tree:=
 if zi L n=40 then DT n
 else if zi L n=91 then xK L len n
 else if zi L n=92 then oneT (setB (zi L (n+1))) (escO L len n).v
 else if zi L n=46 then tAny
 else qO (zi L n)
def qJ (D:Nat→Out)(DT:Nat→Tree)(n:Nat):Tree:=
 if asN L n≠0 then tAsr (asV L n)
 else if (zz L len (zN L len D n).n).1=false then y8 L len DT n
 else tRep (y8 L len DT n) (zz L len (zN L len D n).n).2.1.v (zz L len (zN L len D n).n).2.2
def qV (D:Nat→Out)(DT:Nat→Tree):Nat→List Tree→Nat→List Tree
 |0,ts,_=>ts
 |f+1,ts,n=>if vx L n=true then ts else qV D DT f (ts++[qJ L len D DT n]) (yH L len D n).n
def xO (D:Nat→Out)(DT:Nat→Tree)(n:Nat):Tree:=tSeq (qV L len D DT (L.length+1-n) [] n)
def altT (D:Nat→Out)(DT:Nat→Tree):Nat→List Tree→Nat→List Tree
 |0,ts,_=>ts
 |f+1,ts,n=>if zi L (zS L len D n).n=124 then altT D DT f (ts++[xO L len D DT n]) ((zS L len D n).n+1) else ts++[xO L len D DT n]
def altQ (D:Nat→Out)(DT:Nat→Tree)(n:Nat):Tree:=tAlt (altT L len D DT (L.length+1-n) [] n)
def qr:Nat→Nat→Tree
 |0,_=>tAny
 |r+1,n=>altQ L len (zD L len r) (qr r) (ye L len n).n
end
end Pro
def xW (w:World)(A:Nat→Prop)(sv:Value)(n:Nat)(xs:List Value):Prop:=
 (sv = .slice none 0 0∧n=0∧xs=[])∨∃ g cap,sv = .slice (some ⟨g,0,none⟩) n cap∧A g∧n≤cap∧g<w.heap.size∧∀ j x,xs[j]?=some x→w.cell? ⟨g,j,none⟩=some x
theorem xW.keep {P A:Nat→Prop}{w w':World}{sv:Value}{n:Nat}{xs:List Value}(h:xW w A sv n xs)(k:zf P w w')(hn:∀ g,A g→¬P g):xW w' A sv n xs:=by
 rcases h with h |⟨g,cap,h1,h2,h3,h4,h5⟩
 ·exact .inl h
 ·exact .inr ⟨g,cap,h1,h2,h3,Nat.lt_of_lt_of_le h4 k.size,fun j x hj=>(k.cell (World.block_lt_of_cell? w _ (h5 j x hj)) (hn g h2)).trans (h5 j x hj)⟩
theorem xW.mono {A B:Nat→Prop}{w:World}{sv:Value}{n:Nat}{xs:List Value}(h:xW w A sv n xs)(hAB:∀ g,g<w.heap.size→A g→B g):xW w B sv n xs:=by
 rcases h with h |⟨g,cap,h1,h2,h3,h4,h5⟩
 ·exact .inl h
 ·exact .inr ⟨g,cap,h1,hAB g h4 h2,h3,h4,h5⟩
theorem Vx {base k n:Nat}{w:World}{T:TypeId}{sv:Value}{xs:List Value}(h:w.ownsRow base T k sv n xs)(hx:n=0→xs=[]):xW w (fun g=>base≤g) sv n xs:=by
 have hl:=zh h
 have hc:=@World.ownsRow.cells w base T k sv n xs h
 rcases h.2 with ⟨rfl,h0⟩ |⟨g,cap,cur,rfl,hb,hg,hn,_⟩
 ·exact .inl ⟨rfl,h0,hx h0⟩
 ·exact .inr ⟨g,cap,rfl,hb,hn,(hl g rfl).2,fun j x hj=>by
   have:=hc (g:=g) rfl j x hj
   have e:(⟨g,0,none⟩:Addr).add j=⟨g,j,none⟩:=by unfold Addr.add;split<;>simp_all
   rw [e] at this;exact this⟩
def jN (w:World)(A:Nat→Prop)(v:Value)(t:Tree):Prop:=
 (∃ c,t=Pro.tAsr c∧v = .iface 154 (.int .i64 c))∨
 (t=Pro.tAny∧v = .iface 244 (.agg #[]))∨
 (∃ c,t=Pro.qO c∧v = .iface 245 (.int .i32 c))∨
 (∃ c,t=Pro.qy c∧v = .iface 246 (.int .i32 c))∨
 (∃ neg R S v1 v2,t=Pro.tCls neg R S∧v = .iface 250 (.agg #[.bool neg,v1,v2])∧xW w A v1 R.length (rangeCells R)∧xW w A v2 S.length (jh S))
def zF:Nat→World→(Nat→Prop)→Value→Tree→Prop
 |0,_,_,_,_=>False
 |f+1,w,A,v,t=>
  jN w A v t∨
  (∃ sv xs ts,t=Pro.tAlt ts∧v = .iface 228 sv∧vw w A sv xs∧xs.length≤1000∧ts.length=xs.length∧(∀ (j:Nat) x t',xs[j]?=some x→ts[j]?=some t'→zF f w A x t')∧0<xs.length)∨
  (∃ sv xs ts,t=Pro.tSeq ts∧v = .iface 252 sv∧vw w A sv xs∧xs.length≤1000∧ts.length=xs.length∧(∀ (j:Nat) x t',xs[j]?=some x→ts[j]?=some t'→zF f w A x t'))∨
  (∃ p l m t',t=Pro.tRep t' l m∧v = .iface 254 (.agg #[p,.int .i64 l,.int .i64 m])∧zF f w A p t'∧0≤l∧l≤100∧-1≤m∧m≤100∧(m = -1∨l≤m))
theorem jN.keep {P A:Nat→Prop}{w w':World}{v:Value}{t:Tree}(h:jN w A v t)(k:zf P w w')(hn:∀ g,A g→¬P g):jN w' A v t:=by
 rcases h with h |h |h |h |⟨neg,R,S,v1,v2,h1,h2,h3,h4⟩
 ·exact .inl h
 ·exact .inr (.inl h)
 ·exact .inr (.inr (.inl h))
 ·exact .inr (.inr (.inr (.inl h)))
 ·exact .inr (.inr (.inr (.inr ⟨neg,R,S,v1,v2,h1,h2,h3.keep k hn,h4.keep k hn⟩)))
theorem jN.mono {A B:Nat→Prop}{w:World}{v:Value}{t:Tree}(h:jN w A v t)(hAB:∀ g,g<w.heap.size→A g→B g):jN w B v t:=by
 rcases h with h |h |h |h |⟨neg,R,S,v1,v2,h1,h2,h3,h4⟩
 ·exact .inl h
 ·exact .inr (.inl h)
 ·exact .inr (.inr (.inl h))
 ·exact .inr (.inr (.inr (.inl h)))
 ·exact .inr (.inr (.inr (.inr ⟨neg,R,S,v1,v2,h1,h2,h3.mono hAB,h4.mono hAB⟩)))
theorem zF.keep {P A:Nat→Prop}{w w':World}(k:zf P w w')(hn:∀ g,A g→¬P g):∀ (f:Nat) (v:Value) (t:Tree),zF f w A v t→zF f w' A v t
 |0,_,_,h=>h
 |f+1,v,z,h=>by
  rcases h with h |⟨sv,xs,zs,e,h1,h2,h0,h3,h4,h5⟩ |⟨sv,xs,zs,e,h1,h2,h0,h3,h4⟩ |⟨p,l,m,z',e,h1,h2,h3⟩
  ·exact .inl (h.keep k hn)
  ·exact .inr (.inl ⟨sv,xs,zs,e,h1,h2.keep k hn,h0,h3,fun j x z' hx hz=>zF.keep k hn f x z' (h4 j x z' hx hz),h5⟩)
  ·exact .inr (.inr (.inl ⟨sv,xs,zs,e,h1,h2.keep k hn,h0,h3,fun j x z' hx hz=>zF.keep k hn f x z' (h4 j x z' hx hz)⟩))
  ·exact .inr (.inr (.inr ⟨p,l,m,z',e,h1,zF.keep k hn f p z' h2,h3⟩))
theorem zF.mono {A B:Nat→Prop}{w:World}(hAB:∀ g,g<w.heap.size→A g→B g):∀ (f:Nat) (v:Value) (t:Tree),zF f w A v t→zF f w B v t
 |0,_,_,h=>h
 |f+1,v,z,h=>by
  rcases h with h |⟨sv,xs,zs,e,h1,h2,h0,h3,h4,h5⟩ |⟨sv,xs,zs,e,h1,h2,h0,h3,h4⟩ |⟨p,l,m,z',e,h1,h2,h3⟩
  ·exact .inl (h.mono hAB)
  ·exact .inr (.inl ⟨sv,xs,zs,e,h1,h2.mono hAB,h0,h3,fun j x z' hx hz=>zF.mono hAB f x z' (h4 j x z' hx hz),h5⟩)
  ·exact .inr (.inr (.inl ⟨sv,xs,zs,e,h1,h2.mono hAB,h0,h3,fun j x z' hx hz=>zF.mono hAB f x z' (h4 j x z' hx hz)⟩))
  ·exact .inr (.inr (.inr ⟨p,l,m,z',e,h1,zF.mono hAB f p z' h2,h3⟩))
theorem zF.up {A:Nat→Prop}{w:World}:∀ (f g:Nat) (v:Value) (t:Tree),f≤g→zF f w A v t→zF g w A v t
 |0,_,_,_,_,h=>h.elim
 |f+1,0,_,_,hg,_=>by omega
 |f+1,g+1,v,z,hg,h=>by
  rcases h with h |⟨sv,xs,zs,e,h1,h2,h0,h3,h4,h5⟩ |⟨sv,xs,zs,e,h1,h2,h0,h3,h4⟩ |⟨p,l,m,z',e,h1,h2,h3⟩
  ·exact .inl h
  ·exact .inr (.inl ⟨sv,xs,zs,e,h1,h2,h0,h3,fun j x z' hx hz=>zF.up f g x z' (by omega) (h4 j x z' hx hz),h5⟩)
  ·exact .inr (.inr (.inl ⟨sv,xs,zs,e,h1,h2,h0,h3,fun j x z' hx hz=>zF.up f g x z' (by omega) (h4 j x z' hx hz)⟩))
  ·exact .inr (.inr (.inr ⟨p,l,m,z',e,h1,zF.up f g p z' (by omega) h2,h3⟩))
theorem zF.leaf {w:World}{A:Nat→Prop}{v:Value}{t:Tree}(h:jN w A v t):zF 1 w A v t:=.inl h
def jO (f:Nat)(w:World)(A:Nat→Prop)(xs:List Value)(zs:List Tree):Prop:=zs.length=xs.length∧∀ (j:Nat) x z',xs[j]?=some x→zs[j]?=some z'→zF f w A x z'
theorem jO.append {f g:Nat}{w:World}{A:Nat→Prop}{xs:List Value}{zs:List Tree}{x:Value}{z:Tree}(h:jO f w A xs zs)(hx:zF g w A x z):jO (max f g) w A (xs++[x]) (zs++[z]):=by
 refine ⟨by simp [h.1],?_⟩
 intro j y z' hy hz
 by_cases hj:j<xs.length
 ·rw [List.getElem?_append_left hj] at hy
  rw [List.getElem?_append_left (by rw [h.1];exact hj)] at hz
  exact zF.up f _ _ _ (by omega) (h.2 j y z' hy hz)
 ·rw [List.getElem?_append_right (by omega)] at hy
  rw [List.getElem?_append_right (by rw [h.1];omega),h.1] at hz
  by_cases h0:j-xs.length=0
  ·rw [h0] at hy hz
   simp at hy hz
   subst hy;subst hz
   exact zF.up g _ _ _ (by omega) hx
  ·rw [List.getElem?_eq_none (by simp;omega)] at hy;cases hy
theorem jO.keep {P A:Nat→Prop}{f:Nat}{w w':World}{xs:List Value}{zs:List Tree}(h:jO f w A xs zs)(k:zf P w w')(hn:∀ g,A g→¬P g):jO f w' A xs zs:=⟨h.1,fun j x z hx hz=>zF.keep k hn f x z (h.2 j x z hx hz)⟩
theorem jO.mono {A B:Nat→Prop}{f:Nat}{w:World}{xs:List Value}{zs:List Tree}(h:jO f w A xs zs)(hAB:∀ g,g<w.heap.size→A g→B g):jO f w B xs zs:=⟨h.1,fun j x z hx hz=>zF.mono hAB f x z (h.2 j x z hx hz)⟩
def yW (b:Nat)(L:List (Int×Int))(len dp:Int)(a:Nat→Addr)(w:World)(o:Pro.Out)(t:Tree)(x:Ending)(w':World):Prop:=
 zf (zm b) w w'∧yd w' b L o.n len dp∧((o.k=0∧∃ T y F,x = .returned (.tuple #[.iface T y,.nilIface])∧zF F w' (fun g=>w.heap.size≤g) (.iface T y) t)∨
  (o.k≠0∧∃ v,x = .returned (.tuple #[.nilIface,v])∧zR w' w.heap.size v (zY a o.k) o.p))
theorem yW.good {b:Nat}{L:List (Int×Int)}{len dp:Int}{a:Nat→Addr}{w w':World}{o:Pro.Out}{v:Int}{n:Nat}{T:TypeId}{y:Value}{F:Nat}{t:Tree}(ho:o=Pro.good v n)(hO:zf (zm b) w w')(hR:yd w' b L n len dp)(hs:zF F w' (fun g=>w.heap.size≤g) (.iface T y) t):yW b L len dp a w o t (.returned (.tuple #[.iface T y,.nilIface])) w':=by
 subst ho;exact ⟨hO,hR,.inl ⟨rfl,T,y,F,rfl,hs⟩⟩
theorem yW.bad {b:Nat}{L:List (Int×Int)}{len dp:Int}{a:Nat→Addr}{w w':World}{o:Pro.Out}{k:Nat}{p:Int}{n:Nat}{v:Value}{t:Tree}(ho:o=Pro.bad k p n)(hk:k≠0)(hO:zf (zm b) w w')(hR:yd w' b L n len dp)(hv:zR w' w.heap.size v (zY a k) p):yW b L len dp a w o t (.returned (.tuple #[.nilIface,v])) w':=by
 subst ho;exact ⟨hO,hR,.inr ⟨hk,v,rfl,hv⟩⟩
theorem xp.givesT {b:Nat}{L:List (Int×Int)}{len dp:Int}{a:Nat→Addr}{w w':World}{o:Pro.Out}{T:TypeId}{y:Value}{x:Ending}{t:Tree}(h:xp b L len dp a w o (.iface T y) .nilIface x w')(hT:o.k=0→jN w' (fun g=>w.heap.size≤g) (.iface T y) t):yW b L len dp a w (Pro.one o) t x w':=by
 obtain ⟨hO,hR,h⟩:=h
 refine ⟨hO,by rw [Pro.Vv];exact hR,?_⟩
 rcases h with ⟨hk,hx⟩ |⟨hk,v,hx,hv⟩
 ·exact .inl ⟨by rw [Pro.Vw];exact hk,T,y,1,hx,zF.leaf (hT hk)⟩
 ·have:Pro.one o=o:=by unfold Pro.one;rw [if_neg hk]
  rw [this];exact .inr ⟨hk,v,hx,hv⟩
theorem yW.pair {b:Nat}{L:List (Int×Int)}{len dp:Int}{a:Nat→Addr}{w w':World}{o:Pro.Out}{t:Tree}{x:Ending}(h:yW b L len dp a w o t x w'):∃ p q,x = .returned (.tuple #[p,q]):=by
 obtain ⟨_,_,⟨_,T,y,F,hx,_⟩ |⟨_,v,hx,_⟩⟩:=h
 ·exact ⟨_,_,hx⟩
 ·exact ⟨_,_,hx⟩
theorem yW.after {b:Nat}{L:List (Int×Int)}{len dp:Int}{a:Nat→Addr}{w w1 w':World}{o:Pro.Out}{t:Tree}{x:Ending}(hO:zf (zm b) w w1)(h:yW b L len dp a w1 o t x w'):yW b L len dp a w o t x w':=by
 obtain ⟨h1,h2,h3⟩:=h
 refine ⟨hO.trans h1,h2,?_⟩
 rcases h3 with ⟨hk,T,y,F,hx,hs⟩ |⟨hk,v,hx,hv⟩
 ·exact .inl ⟨hk,T,y,F,hx,zF.mono (fun g _ hg=>Nat.le_trans hO.size hg) F _ _ hs⟩
 ·exact .inr ⟨hk,v,hx,hv.base hO.size⟩
theorem qW {b:Nat}{L:List (Int×Int)}{len dp:Int}{a:Nat→Addr}{w w':World}{o:Pro.Out}{t:Tree}{x:Ending}(h:yW b L len dp a w o t x w')(hk:o.k=0):∃ T y F,x = .returned (.tuple #[.iface T y,.nilIface])∧zF F w' (fun g=>w.heap.size≤g) (.iface T y) t∧zf (zm b) w w'∧yd w' b L o.n len dp:=by
 obtain ⟨h1,h2,⟨_,T,y,F,hx,hs⟩ |⟨h3,_⟩⟩:=h
 ·exact ⟨T,y,F,hx,hs,h1,h2⟩
 ·exact absurd hk h3
theorem ZW {b:Nat}{L:List (Int×Int)}{len dp:Int}{a:Nat→Addr}{w w':World}{o:Pro.Out}{t:Tree}{x:Ending}(h:yW b L len dp a w o t x w')(hk:o.k≠0):∃ g,x = .returned (.tuple #[.nilIface,.iface 140 (.pointer (some ⟨g,0,none⟩))])∧zR w' w.heap.size (.iface 140 (.pointer (some ⟨g,0,none⟩))) (zY a o.k) o.p∧zf (zm b) w w'∧yd w' b L o.n len dp:=by
 obtain ⟨h1,h2,⟨h3,_⟩ |⟨_,v,hx,hv⟩⟩:=h
 ·exact absurd h3 hk
 ·obtain ⟨g,rfl⟩:=hv.form
  exact ⟨g,hx,hv,h1,h2⟩
end
section
open Sm (Tree)
namespace Pro
def nOK (v:Int):Prop:=-1≤v∧v≤1114111
def jX:Nat→Tree→Prop
 |0,_=>True
 |f+1,T=>(T.kind=2→nOK T.a)∧(T.kind=3→setB T.a=true)∧(T.kind=4→(∀ r∈T.rs,nOK r.1∧nOK r.2)∧∀ s∈T.ss,setB s=true)∧∀ t∈T.kids,jX f t
section
variable {L:List (Int×Int)} {len:Int}
theorem Vy (k:Nat)(p:Int)(n:Nat):nOK (bad k p n).v:=by unfold nOK bad;simp
theorem hex_v {f:Nat}(hf:f≤4)(n:Nat):0≤(hexO L len f 0 n).v∧(hexO L len f 0 n).v≤65535:=
 Vi L len f 0 n (by omega) (by have:(0:Int)<16 ^ (4-f):=Int.pow_pos (by omega);omega) hf
theorem JX:∀ (f:Nat)(c:Int)(d n:Nat),0≤c→c≤1114111→nOK (xI L len f c d n).v
 |0,c,d,n,h0,h1=>⟨by show -1≤c;omega,h1⟩
 |f+1,c,d,n,h0,h1=>by
  unfold xI
  split
  ·exact ⟨by show -1≤c;omega,h1⟩
  ·split
   ·exact Vy _ _ _
   ·exact JX f _ _ _ (by omega) (by omega)
theorem zak (n:Nat):nOK (yp L len n).v:=by
 have h1:=hex_v (L:=L) (len:=len) (f:=4) (by omega) n
 have e:nOK (hexO L len 4 0 n).v:=⟨by omega,by omega⟩
 unfold yp
 split
 ·exact e
 ·split
  ·rename_i h2 h3
   have h4:lowV L len (hexO L len 4 0 n).n≤57343∧(0≤lowV L len (hexO L len 4 0 n).n→56320≤lowV L len (hexO L len 4 0 n).n):=by
    unfold lowV
    split
    ·rename_i h5;exact ⟨h5.2.2.2.2,fun _=>h5.2.2.2.1⟩
    ·exact ⟨by omega,fun h=>by omega⟩
   unfold nOK good
   simp only
   omega
  ·exact e
theorem numO_v (hF:Fit L)(n:Nat):nOK (numO L len n).v:=by
 have hl:=hF n
 unfold numO
 split
 ·unfold nOK good kG ctlV
  simp only
  split
  ·split<;>(try split)<;>(try split)<;>(try split)<;>(try split)<;>omega
  ·omega
 ·split
  ·unfold kB;split
   ·exact Vy _ _ _
   ·unfold nOK good;simp
  ·split
   ·unfold xE;split
    ·unfold nOK good;simp only;omega
    ·exact Vy _ _ _
   ·split
    ·have:=hex_v (L:=L) (len:=len) (f:=2) (by omega) (n+1)
     exact ⟨by omega,by omega⟩
    ·split
     ·exact JX _ _ _ _ (by omega) (by omega)
     ·split
      ·exact zak _
      ·exact Vy _ _ _
theorem escO_v (hF:Fit L)(n:Nat):nOK (escO L len n).v:=by
 unfold escO
 split
 ·exact hF (n+1)
 ·split
  ·exact Vy _ _ _
  ·exact numO_v hF _
theorem Vz {n:Nat}(h:setB (zi L (n+1))=true):(escO L len n).v=zi L (n+1):=by unfold escO;rw [if_pos h];rfl
theorem ZX (hF:Fit L)(n:Nat):nOK (zk L len n).v:=by
 unfold zk
 split
 ·unfold nOK good;simp
 ·split
  ·unfold nOK good;simp
  ·split
   ·exact escO_v hF n
   ·exact hF n
theorem VA {n:Nat}(h:many L n=true):setB (zk L len n).v=true:=by
 unfold many at h
 rw [Bool.and_eq_true,decide_eq_true_eq] at h
 unfold zk
 rw [if_neg (fun e=>by rw [e.2] at h;exact absurd h.2 (by decide)),if_neg (fun e=>by rw [e.2] at h;exact absurd h.2 (by decide)),if_pos h.1,Vz h.2]
 exact h.2
theorem JY (hF:Fit L):∀ (f n:Nat) (R:List (Int×Int)) (S:List Int),(∀ r∈R,nOK r.1∧nOK r.2)→(∀ s∈S,setB s=true)→(∀ r∈(qz L len f n R S).1,nOK r.1∧nOK r.2)∧∀ s∈(qz L len f n R S).2,setB s=true
 |0,_,_,_,h1,h2=>⟨h1,h2⟩
 |f+1,n,R,S,h1,h2=>by
  unfold qz
  split
  ·exact ⟨h1,h2⟩
  ·refine JY hF f _ _ _ (fun r hr=>?_) (fun s hs=>?_)
   ·unfold addR at hr
    split at hr
    ·rcases List.mem_append.1 hr with hr |hr
     ·exact h1 r hr
     ·obtain rfl:=List.mem_singleton.1 hr
      exact ⟨ZX hF _,ZX hF _⟩
    ·split at hr
     ·exact h1 r hr
     ·rcases List.mem_append.1 hr with hr |hr
      ·exact h1 r hr
      ·obtain rfl:=List.mem_singleton.1 hr
       exact ⟨ZX hF _,ZX hF _⟩
   ·unfold addS at hs
    split at hs
    ·exact h2 s hs
    ·split at hs
     ·rename_i hm
      rcases List.mem_append.1 hs with hs |hs
      ·exact h2 s hs
      ·obtain rfl:=List.mem_singleton.1 hs
       exact VA hm
     ·exact h2 s hs
theorem zbi {c:Int}(h:nOK c):∀ f,jX f (qO c)
 |0=>trivial
 |f+1=>⟨fun _=>h,fun e=>by simp [qO] at e,fun e=>by simp [qO] at e,fun t ht=>by simp [qO] at ht⟩
theorem sh_short {c:Int}(h:setB c=true):∀ f,jX f (qy c)
 |0=>trivial
 |f+1=>⟨fun e=>by simp [qy] at e,fun _=>h,fun e=>by simp [qy] at e,fun t ht=>by simp [qy] at ht⟩
theorem sh_any:∀ f,jX f tAny
 |0=>trivial
 |f+1=>⟨fun e=>by simp [tAny] at e,fun e=>by simp [tAny] at e,fun e=>by simp [tAny] at e,fun t ht=>by simp [tAny] at ht⟩
theorem sh_asr (a:Int):∀ f,jX f (tAsr a)
 |0=>trivial
 |f+1=>⟨fun e=>by simp [tAsr] at e,fun e=>by simp [tAsr] at e,fun e=>by simp [tAsr] at e,fun t ht=>by simp [tAsr] at ht⟩
theorem KH {T:Tree}(hk:5≤T.kind)(h:∀ t∈T.kids,∀ f,jX f t):∀ f,jX f T
 |0=>trivial
 |f+1=>⟨fun e=>by omega,fun e=>by omega,fun e=>by omega,fun t ht=>h t ht f⟩
theorem zcb (hF:Fit L)(n:Nat):∀ f,jX f (xK L len n)
 |0=>trivial
 |f+1=>⟨fun e=>by simp [xK,tCls] at e,fun e=>by simp [xK,tCls] at e,fun _=>JY hF _ _ [] [] (by simp) (by simp),fun t ht=>by simp [xK,tCls] at ht⟩
theorem VB (hF:Fit L){DT:Nat→Tree}(hD:∀ n f,jX f (DT n))(n f:Nat):jX f (y8 L len DT n):=by
 unfold y8
 split
 ·exact hD n f
 ·split
  ·exact zcb hF n f
  ·split
   ·unfold oneT
    split
    ·rename_i h
     have:=Vz (L:=L) (len:=len) h
     rw [this]
     exact sh_short h f
    ·exact zbi (escO_v hF n) f
   ·split
    ·exact sh_any f
    ·exact zbi (hF n) f
theorem termT_sh (hF:Fit L){D:Nat→Out}{DT:Nat→Tree}(hD:∀ n f,jX f (DT n))(n f:Nat):jX f (qJ L len D DT n):=by
 unfold qJ
 split
 ·exact sh_asr _ f
 ·split
  ·exact VB hF hD n f
  ·refine KH (by simp [tRep]) (fun t ht f=>?_) f
   obtain rfl:t=y8 L len DT n:=by simpa [tRep] using ht
   exact VB hF hD n f
theorem JZ (hF:Fit L){D:Nat→Out}{DT:Nat→Tree}(hD:∀ n f,jX f (DT n)):∀ (g:Nat) (ts:List Tree) (n:Nat),(∀ t∈ts,∀ f,jX f t)→∀ t∈qV L len D DT g ts n,∀ f,jX f t
 |0,_,_,h=>h
 |g+1,ts,n,h=>by
  unfold qV
  split
  ·exact h
  ·refine JZ hF hD g _ _ (fun t ht=>?_)
   rcases List.mem_append.1 ht with ht |ht
   ·exact h t ht
   ·obtain rfl:=List.mem_singleton.1 ht
    exact fun f=>termT_sh hF hD n f
theorem zcc (hF:Fit L){D:Nat→Out}{DT:Nat→Tree}(hD:∀ n f,jX f (DT n))(n f:Nat):jX f (xO L len D DT n):=
 KH (by simp [xO,tSeq]) (JZ hF hD _ [] n (by simp)) f
theorem zbj (hF:Fit L){D:Nat→Out}{DT:Nat→Tree}(hD:∀ n f,jX f (DT n)):∀ (g:Nat) (ts:List Tree) (n:Nat),(∀ t∈ts,∀ f,jX f t)→∀ t∈altT L len D DT g ts n,∀ f,jX f t
 |0,_,_,h=>h
 |g+1,ts,n,h=>by
  have h2:∀ t∈ts++[xO L len D DT n],∀ f,jX f t:=fun t ht=>by
   rcases List.mem_append.1 ht with ht |ht
   ·exact h t ht
   ·obtain rfl:=List.mem_singleton.1 ht
    exact fun f=>zcc hF hD n f
  unfold altT
  split
  ·exact zbj hF hD g _ _ h2
  ·exact h2
theorem zbk (hF:Fit L){D:Nat→Out}{DT:Nat→Tree}(hD:∀ n f,jX f (DT n))(n f:Nat):jX f (altQ L len D DT n):=
 KH (by simp [altQ,tAlt]) (zbj hF hD _ [] n (by simp)) f
theorem VC (hF:Fit L):∀ (r n f:Nat),jX f (qr L len r n)
 |0,_,f=>sh_any f
 |r+1,_,f=>zbk hF (fun n f=>VC hF r n f) _ f
theorem whole_sh (hF:Fit L)(r n f:Nat):jX f (altQ L len (zD L len r) (qr L len r) n):=zbk hF (fun n f=>VC hF r n f) n f
end
end Pro
namespace Pro
def jY:Nat→Tree→Prop
 |0,_=>True
 |f+1,T=>(T.kind=4→T.rs.length≤1000∧T.ss.length≤1000)∧∀ t∈T.kids,jY f t
section
variable {L:List (Int×Int)} {len:Int}
theorem addR_ln (n:Nat)(R:List (Int×Int)):(addR L len n R).length≤R.length+1:=by
 unfold addR
 split
 ·simp
 ·split<;>simp
theorem addS_ln (n:Nat)(S:List Int):(addS L len n S).length≤S.length+1:=by
 unfold addS
 split
 ·simp
 ·split<;>simp
theorem J0:∀ (f n:Nat)(R:List (Int×Int))(S:List Int),(qz L len f n R S).1.length≤R.length+f∧(qz L len f n R S).2.length≤S.length+f
 |0,_,R,S=>⟨Nat.le_refl _,Nat.le_refl _⟩
 |f+1,n,R,S=>by
  unfold qz
  split
  ·exact ⟨Nat.le_add_right _ _,Nat.le_add_right _ _⟩
  ·have h1:=addR_ln (L:=L) (len:=len) n R
   have h2:=addS_ln (L:=L) (len:=len) n S
   have h3:=J0 f (addO L len n).n (addR L len n R) (addS L len n S)
   omega
theorem zbl (c:Int):∀ f,jY f (qO c)
 |0=>trivial
 |f+1=>⟨fun e=>by simp [qO] at e,fun t ht=>by simp [qO] at ht⟩
theorem ln_short (c:Int):∀ f,jY f (qy c)
 |0=>trivial
 |f+1=>⟨fun e=>by simp [qy] at e,fun t ht=>by simp [qy] at ht⟩
theorem ln_any:∀ f,jY f tAny
 |0=>trivial
 |f+1=>⟨fun e=>by simp [tAny] at e,fun t ht=>by simp [tAny] at ht⟩
theorem ln_asr (a:Int):∀ f,jY f (tAsr a)
 |0=>trivial
 |f+1=>⟨fun e=>by simp [tAsr] at e,fun t ht=>by simp [tAsr] at ht⟩
theorem KI {T:Tree}(hk:5≤T.kind)(h:∀ t∈T.kids,∀ f,jY f t):∀ f,jY f T
 |0=>trivial
 |f+1=>⟨fun e=>by omega,fun t ht=>h t ht f⟩
theorem zcd (hL:L.length≤400)(n:Nat):∀ f,jY f (xK L len n)
 |0=>trivial
 |f+1=>⟨fun _=>by
   have:=J0 (L:=L) (len:=len) (L.length+1-n) (if zi L (n+1)=94 then n+2 else n+1) [] []
   simp only [List.length_nil] at this
   simp only [xK,tCls]
   omega,fun t ht=>by simp [xK,tCls] at ht⟩
theorem VD (hL:L.length≤400){DT:Nat→Tree}(hD:∀ n f,jY f (DT n))(n f:Nat):jY f (y8 L len DT n):=by
 unfold y8
 split
 ·exact hD n f
 ·split
  ·exact zcd hL n f
  ·split
   ·unfold oneT
    split
    ·exact ln_short _ f
    ·exact zbl _ f
   ·split
    ·exact ln_any f
    ·exact zbl _ f
theorem termT_ln (hL:L.length≤400){D:Nat→Out}{DT:Nat→Tree}(hD:∀ n f,jY f (DT n))(n f:Nat):jY f (qJ L len D DT n):=by
 unfold qJ
 split
 ·exact ln_asr _ f
 ·split
  ·exact VD hL hD n f
  ·refine KI (by simp [tRep]) (fun t ht f=>?_) f
   obtain rfl:t=y8 L len DT n:=by simpa [tRep] using ht
   exact VD hL hD n f
theorem J1 (hL:L.length≤400){D:Nat→Out}{DT:Nat→Tree}(hD:∀ n f,jY f (DT n)):∀ (g:Nat) (ts:List Tree) (n:Nat),(∀ t∈ts,∀ f,jY f t)→∀ t∈qV L len D DT g ts n,∀ f,jY f t
 |0,_,_,h=>h
 |g+1,ts,n,h=>by
  unfold qV
  split
  ·exact h
  ·refine J1 hL hD g _ _ (fun t ht=>?_)
   rcases List.mem_append.1 ht with ht |ht
   ·exact h t ht
   ·obtain rfl:=List.mem_singleton.1 ht
    exact fun f=>termT_ln hL hD n f
theorem zce (hL:L.length≤400){D:Nat→Out}{DT:Nat→Tree}(hD:∀ n f,jY f (DT n))(n f:Nat):jY f (xO L len D DT n):=
 KI (by simp [xO,tSeq]) (J1 hL hD _ [] n (by simp)) f
theorem zbm (hL:L.length≤400){D:Nat→Out}{DT:Nat→Tree}(hD:∀ n f,jY f (DT n)):∀ (g:Nat) (ts:List Tree) (n:Nat),(∀ t∈ts,∀ f,jY f t)→∀ t∈altT L len D DT g ts n,∀ f,jY f t
 |0,_,_,h=>h
 |g+1,ts,n,h=>by
  have h2:∀ t∈ts++[xO L len D DT n],∀ f,jY f t:=fun t ht=>by
   rcases List.mem_append.1 ht with ht |ht
   ·exact h t ht
   ·obtain rfl:=List.mem_singleton.1 ht
    exact fun f=>zce hL hD n f
  unfold altT
  split
  ·exact zbm hL hD g _ _ h2
  ·exact h2
theorem zbn (hL:L.length≤400){D:Nat→Out}{DT:Nat→Tree}(hD:∀ n f,jY f (DT n))(n f:Nat):jY f (altQ L len D DT n):=
 KI (by simp [altQ,tAlt]) (zbm hL hD _ [] n (by simp)) f
theorem VE (hL:L.length≤400):∀ (r n f:Nat),jY f (qr L len r n)
 |0,_,f=>ln_any f
 |r+1,_,f=>zbn hL (fun n f=>VE hL r n f) _ f
theorem whole_ln (hL:L.length≤400)(r n f:Nat):jY f (altQ L len (zD L len r) (qr L len r) n):=zbn hL (fun n f=>VE hL r n f) n f
end
end Pro
end
end Go.Proofs.YtnagphodmfejiaaGreatDoor
