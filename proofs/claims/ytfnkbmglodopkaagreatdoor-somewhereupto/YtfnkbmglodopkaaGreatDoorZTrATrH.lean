/- Parts in memory, as trees. -/
import Derived.Test.YtfnkbmglodopkaaGreatDoorZParAParC
namespace Go.Proofs.YtfnkbmglodopkaaGreatDoor
section
open Go.RowKit
open Sm (Tree)
namespace Pro
def tAsr (a:Int):Tree:=⟨0,a,0,false,[],[],[]⟩
def tAny:Tree:=⟨1,0,0,false,[],[],[]⟩
def xL (c:Int):Tree:=⟨2,c,0,false,[],[],[]⟩
def xi (c:Int):Tree:=⟨3,c,0,false,[],[],[]⟩
def tCls (neg:Bool)(R:List (Int×Int))(S:List Int):Tree:=⟨4,0,0,neg,R,S,[]⟩
def tAlt (ts:List Tree):Tree:=⟨5,0,0,false,[],[],ts⟩
def tSeq (ts:List Tree):Tree:=⟨6,0,0,false,[],[],ts⟩
def tRep (t:Tree)(l m:Int):Tree:=⟨7,l,m,false,[],[],[t]⟩
section
variable (L:List (Int×Int)) (len:Int)
def asV (n:Nat):Int:=if ze L n=94 then 0 else if ze L n=36 then 1 else if ze L (n+1)=98 then 2 else 3
def xz:Nat→Nat→List (Int×Int)→List Int→List (Int×Int)×List Int
 |0,_,R,S=>(R,S)
 |f+1,n,R,S=>if ze L n=93 then (R,S) else xz f (addO L len n).n (addR L len n R) (addS L len n S)
def xA (n:Nat):Tree:=tCls (decide (ze L (n+1)=94)) (xz L len (L.length+1-n) (if ze L (n+1)=94 then n+2 else n+1) [] []).1 (xz L len (L.length+1-n) (if ze L (n+1)=94 then n+2 else n+1) [] []).2
def oneT (m:Bool)(c:Int):Tree:=match m with
 |true=>xi c
 |false=>xL c
def xr (DT:Nat→Tree)(n:Nat):Tree:=
 if ze L n=40 then DT n
 else if ze L n=91 then xA L len n
 else if ze L n=92 then oneT (setB (ze L (n+1))) (escO L len n).v
 else if ze L n=46 then tAny
 else xL (ze L n)
def qO (D:Nat→Out)(DT:Nat→Tree)(n:Nat):Tree:=
 if asN L n≠0 then tAsr (asV L n)
 else if (zC L len (zT L len D n).n).1=false then xr L len DT n
 else tRep (xr L len DT n) (zC L len (zT L len D n).n).2.1.v (zC L len (zT L len D n).n).2.2
def qi (D:Nat→Out)(DT:Nat→Tree):Nat→List Tree→Nat→List Tree
 |0,ts,_=>ts
 |f+1,ts,n=>if wl L n=true then ts else qi D DT f (ts++[qO L len D DT n]) (yB L len D n).n
def xe (D:Nat→Out)(DT:Nat→Tree)(n:Nat):Tree:=tSeq (qi L len D DT (L.length+1-n) [] n)
def altT (D:Nat→Out)(DT:Nat→Tree):Nat→List Tree→Nat→List Tree
 |0,ts,_=>ts
 |f+1,ts,n=>if ze L (zH L len D n).n=124 then altT D DT f (ts++[xe L len D DT n]) ((zH L len D n).n+1) else ts++[xe L len D DT n]
def altQ (D:Nat→Out)(DT:Nat→Tree)(n:Nat):Tree:=tAlt (altT L len D DT (L.length+1-n) [] n)
def xI:Nat→Nat→Tree
 |0,_=>tAny
 |r+1,n=>altQ L len (zy L len r) (xI r) (zU L len n).n
end
end Pro
def y7 (w:World)(A:Nat→Prop)(sv:Value)(n:Nat)(xs:List Value):Prop:=
 (sv = .slice none 0 0∧n=0∧xs=[])∨∃ g cap,sv = .slice (some ⟨g,0,none⟩) n cap∧A g∧n≤cap∧g<w.heap.size∧∀ j x,xs[j]?=some x→w.cell? ⟨g,j,none⟩=some x
theorem y7.keep {P A:Nat→Prop}{w w':World}{sv:Value}{n:Nat}{xs:List Value}(h:y7 w A sv n xs)(k:zd P w w')(hn:∀ g,A g→¬P g):y7 w' A sv n xs:=by
 rcases h with h |⟨g,cap,h1,h2,h3,h4,h5⟩
 ·exact .inl h
 ·exact .inr ⟨g,cap,h1,h2,h3,Nat.lt_of_lt_of_le h4 k.size,fun j x hj=>(k.cell (World.block_lt_of_cell? w _ (h5 j x hj)) (hn g h2)).trans (h5 j x hj)⟩
theorem y7.mono {A B:Nat→Prop}{w:World}{sv:Value}{n:Nat}{xs:List Value}(h:y7 w A sv n xs)(hAB:∀ g,g<w.heap.size→A g→B g):y7 w B sv n xs:=by
 rcases h with h |⟨g,cap,h1,h2,h3,h4,h5⟩
 ·exact .inl h
 ·exact .inr ⟨g,cap,h1,hAB g h4 h2,h3,h4,h5⟩
theorem Jh {base k n:Nat}{w:World}{T:TypeId}{sv:Value}{xs:List Value}(h:w.ownsRow base T k sv n xs)(hx:n=0→xs=[]):y7 w (fun g=>base≤g) sv n xs:=by
 have hl:=zg h
 have hc:=@World.ownsRow.cells w base T k sv n xs h
 rcases h.2 with ⟨rfl,h0⟩ |⟨g,cap,cur,rfl,hb,hg,hn,_⟩
 ·exact .inl ⟨rfl,h0,hx h0⟩
 ·exact .inr ⟨g,cap,rfl,hb,hn,(hl g rfl).2,fun j x hj=>by
   have:=hc (g:=g) rfl j x hj
   have e:(⟨g,0,none⟩:Addr).add j=⟨g,j,none⟩:=by unfold Addr.add;split<;>simp_all
   rw [e] at this;exact this⟩
def qj (w:World)(A:Nat→Prop)(v:Value)(t:Tree):Prop:=
 (∃ c,t=Pro.tAsr c∧v = .iface 138 (.int .i64 c))∨
 (t=Pro.tAny∧v = .iface 205 (.agg #[]))∨
 (∃ c,t=Pro.xL c∧v = .iface 206 (.int .i32 c))∨
 (∃ c,t=Pro.xi c∧v = .iface 207 (.int .i32 c))∨
 (∃ neg R S v1 v2,t=Pro.tCls neg R S∧v = .iface 211 (.agg #[.bool neg,v1,v2])∧y7 w A v1 R.length (rangeCells R)∧y7 w A v2 S.length (xH S))
def zu:Nat→World→(Nat→Prop)→Value→Tree→Prop
 |0,_,_,_,_=>False
 |f+1,w,A,v,t=>
  qj w A v t∨
  (∃ sv xs ts,t=Pro.tAlt ts∧v = .iface 189 sv∧jB w A sv xs∧xs.length≤1000∧ts.length=xs.length∧(∀ (j:Nat) x t',xs[j]?=some x→ts[j]?=some t'→zu f w A x t')∧0<xs.length)∨
  (∃ sv xs ts,t=Pro.tSeq ts∧v = .iface 213 sv∧jB w A sv xs∧xs.length≤1000∧ts.length=xs.length∧(∀ (j:Nat) x t',xs[j]?=some x→ts[j]?=some t'→zu f w A x t'))∨
  (∃ p l m t',t=Pro.tRep t' l m∧v = .iface 215 (.agg #[p,.int .i64 l,.int .i64 m])∧zu f w A p t'∧0≤l∧l≤100∧-1≤m∧m≤100∧(m = -1∨l≤m))
theorem qj.keep {P A:Nat→Prop}{w w':World}{v:Value}{t:Tree}(h:qj w A v t)(k:zd P w w')(hn:∀ g,A g→¬P g):qj w' A v t:=by
 rcases h with h |h |h |h |⟨neg,R,S,v1,v2,h1,h2,h3,h4⟩
 ·exact .inl h
 ·exact .inr (.inl h)
 ·exact .inr (.inr (.inl h))
 ·exact .inr (.inr (.inr (.inl h)))
 ·exact .inr (.inr (.inr (.inr ⟨neg,R,S,v1,v2,h1,h2,h3.keep k hn,h4.keep k hn⟩)))
theorem qj.mono {A B:Nat→Prop}{w:World}{v:Value}{t:Tree}(h:qj w A v t)(hAB:∀ g,g<w.heap.size→A g→B g):qj w B v t:=by
 rcases h with h |h |h |h |⟨neg,R,S,v1,v2,h1,h2,h3,h4⟩
 ·exact .inl h
 ·exact .inr (.inl h)
 ·exact .inr (.inr (.inl h))
 ·exact .inr (.inr (.inr (.inl h)))
 ·exact .inr (.inr (.inr (.inr ⟨neg,R,S,v1,v2,h1,h2,h3.mono hAB,h4.mono hAB⟩)))
theorem zu.keep {P A:Nat→Prop}{w w':World}(k:zd P w w')(hn:∀ g,A g→¬P g):∀ (f:Nat) (v:Value) (t:Tree),zu f w A v t→zu f w' A v t
 |0,_,_,h=>h
 |f+1,v,z,h=>by
  rcases h with h |⟨sv,xs,zs,e,h1,h2,h0,h3,h4,h5⟩ |⟨sv,xs,zs,e,h1,h2,h0,h3,h4⟩ |⟨p,l,m,z',e,h1,h2,h3⟩
  ·exact .inl (h.keep k hn)
  ·exact .inr (.inl ⟨sv,xs,zs,e,h1,h2.keep k hn,h0,h3,fun j x z' hx hz=>zu.keep k hn f x z' (h4 j x z' hx hz),h5⟩)
  ·exact .inr (.inr (.inl ⟨sv,xs,zs,e,h1,h2.keep k hn,h0,h3,fun j x z' hx hz=>zu.keep k hn f x z' (h4 j x z' hx hz)⟩))
  ·exact .inr (.inr (.inr ⟨p,l,m,z',e,h1,zu.keep k hn f p z' h2,h3⟩))
theorem zu.mono {A B:Nat→Prop}{w:World}(hAB:∀ g,g<w.heap.size→A g→B g):∀ (f:Nat) (v:Value) (t:Tree),zu f w A v t→zu f w B v t
 |0,_,_,h=>h
 |f+1,v,z,h=>by
  rcases h with h |⟨sv,xs,zs,e,h1,h2,h0,h3,h4,h5⟩ |⟨sv,xs,zs,e,h1,h2,h0,h3,h4⟩ |⟨p,l,m,z',e,h1,h2,h3⟩
  ·exact .inl (h.mono hAB)
  ·exact .inr (.inl ⟨sv,xs,zs,e,h1,h2.mono hAB,h0,h3,fun j x z' hx hz=>zu.mono hAB f x z' (h4 j x z' hx hz),h5⟩)
  ·exact .inr (.inr (.inl ⟨sv,xs,zs,e,h1,h2.mono hAB,h0,h3,fun j x z' hx hz=>zu.mono hAB f x z' (h4 j x z' hx hz)⟩))
  ·exact .inr (.inr (.inr ⟨p,l,m,z',e,h1,zu.mono hAB f p z' h2,h3⟩))
theorem zu.up {A:Nat→Prop}{w:World}:∀ (f g:Nat) (v:Value) (t:Tree),f≤g→zu f w A v t→zu g w A v t
 |0,_,_,_,_,h=>h.elim
 |f+1,0,_,_,hg,_=>by omega
 |f+1,g+1,v,z,hg,h=>by
  rcases h with h |⟨sv,xs,zs,e,h1,h2,h0,h3,h4,h5⟩ |⟨sv,xs,zs,e,h1,h2,h0,h3,h4⟩ |⟨p,l,m,z',e,h1,h2,h3⟩
  ·exact .inl h
  ·exact .inr (.inl ⟨sv,xs,zs,e,h1,h2,h0,h3,fun j x z' hx hz=>zu.up f g x z' (by omega) (h4 j x z' hx hz),h5⟩)
  ·exact .inr (.inr (.inl ⟨sv,xs,zs,e,h1,h2,h0,h3,fun j x z' hx hz=>zu.up f g x z' (by omega) (h4 j x z' hx hz)⟩))
  ·exact .inr (.inr (.inr ⟨p,l,m,z',e,h1,zu.up f g p z' (by omega) h2,h3⟩))
theorem zu.leaf {w:World}{A:Nat→Prop}{v:Value}{t:Tree}(h:qj w A v t):zu 1 w A v t:=.inl h
def qk (f:Nat)(w:World)(A:Nat→Prop)(xs:List Value)(zs:List Tree):Prop:=zs.length=xs.length∧∀ (j:Nat) x z',xs[j]?=some x→zs[j]?=some z'→zu f w A x z'
theorem qk.append {f g:Nat}{w:World}{A:Nat→Prop}{xs:List Value}{zs:List Tree}{x:Value}{z:Tree}(h:qk f w A xs zs)(hx:zu g w A x z):qk (max f g) w A (xs++[x]) (zs++[z]):=by
 refine ⟨by simp [h.1],?_⟩
 intro j y z' hy hz
 by_cases hj:j<xs.length
 ·rw [List.getElem?_append_left hj] at hy
  rw [List.getElem?_append_left (by rw [h.1];exact hj)] at hz
  exact zu.up f _ _ _ (by omega) (h.2 j y z' hy hz)
 ·rw [List.getElem?_append_right (by omega)] at hy
  rw [List.getElem?_append_right (by rw [h.1];omega),h.1] at hz
  by_cases h0:j-xs.length=0
  ·rw [h0] at hy hz
   simp at hy hz
   subst hy;subst hz
   exact zu.up g _ _ _ (by omega) hx
  ·rw [List.getElem?_eq_none (by simp;omega)] at hy;cases hy
theorem qk.keep {P A:Nat→Prop}{f:Nat}{w w':World}{xs:List Value}{zs:List Tree}(h:qk f w A xs zs)(k:zd P w w')(hn:∀ g,A g→¬P g):qk f w' A xs zs:=⟨h.1,fun j x z hx hz=>zu.keep k hn f x z (h.2 j x z hx hz)⟩
theorem qk.mono {A B:Nat→Prop}{f:Nat}{w:World}{xs:List Value}{zs:List Tree}(h:qk f w A xs zs)(hAB:∀ g,g<w.heap.size→A g→B g):qk f w B xs zs:=⟨h.1,fun j x z hx hz=>zu.mono hAB f x z (h.2 j x z hx hz)⟩
def yi (b:Nat)(L:List (Int×Int))(len dp:Int)(a:Nat→Addr)(w:World)(o:Pro.Out)(t:Tree)(x:Ending)(w':World):Prop:=
 zd (zo b) w w'∧zG w' b L o.n len dp∧((o.k=0∧∃ T y F,x = .returned (.tuple #[.iface T y,.nilIface])∧zu F w' (fun g=>w.heap.size≤g) (.iface T y) t)∨
  (o.k≠0∧∃ v,x = .returned (.tuple #[.nilIface,v])∧zA w' w.heap.size v (zE a o.k) o.p))
theorem yi.good {b:Nat}{L:List (Int×Int)}{len dp:Int}{a:Nat→Addr}{w w':World}{o:Pro.Out}{v:Int}{n:Nat}{T:TypeId}{y:Value}{F:Nat}{t:Tree}(ho:o=Pro.good v n)(hO:zd (zo b) w w')(hR:zG w' b L n len dp)(hs:zu F w' (fun g=>w.heap.size≤g) (.iface T y) t):yi b L len dp a w o t (.returned (.tuple #[.iface T y,.nilIface])) w':=by
 subst ho;exact ⟨hO,hR,.inl ⟨rfl,T,y,F,rfl,hs⟩⟩
theorem yi.bad {b:Nat}{L:List (Int×Int)}{len dp:Int}{a:Nat→Addr}{w w':World}{o:Pro.Out}{k:Nat}{p:Int}{n:Nat}{v:Value}{t:Tree}(ho:o=Pro.bad k p n)(hk:k≠0)(hO:zd (zo b) w w')(hR:zG w' b L n len dp)(hv:zA w' w.heap.size v (zE a k) p):yi b L len dp a w o t (.returned (.tuple #[.nilIface,v])) w':=by
 subst ho;exact ⟨hO,hR,.inr ⟨hk,v,rfl,hv⟩⟩
theorem Tells.givesT {b:Nat}{L:List (Int×Int)}{len dp:Int}{a:Nat→Addr}{w w':World}{o:Pro.Out}{T:TypeId}{y:Value}{x:Ending}{t:Tree}(h:Tells b L len dp a w o (.iface T y) .nilIface x w')(hT:o.k=0→qj w' (fun g=>w.heap.size≤g) (.iface T y) t):yi b L len dp a w (Pro.one o) t x w':=by
 obtain ⟨hO,hR,h⟩:=h
 refine ⟨hO,by rw [Pro.one_n];exact hR,?_⟩
 rcases h with ⟨hk,hx⟩ |⟨hk,v,hx,hv⟩
 ·exact .inl ⟨by rw [Pro.one_k];exact hk,T,y,1,hx,zu.leaf (hT hk)⟩
 ·have:Pro.one o=o:=by unfold Pro.one;rw [if_neg hk]
  rw [this];exact .inr ⟨hk,v,hx,hv⟩
theorem yi.pair {b:Nat}{L:List (Int×Int)}{len dp:Int}{a:Nat→Addr}{w w':World}{o:Pro.Out}{t:Tree}{x:Ending}(h:yi b L len dp a w o t x w'):∃ p q,x = .returned (.tuple #[p,q]):=by
 obtain ⟨_,_,⟨_,T,y,F,hx,_⟩ |⟨_,v,hx,_⟩⟩:=h
 ·exact ⟨_,_,hx⟩
 ·exact ⟨_,_,hx⟩
theorem yi.after {b:Nat}{L:List (Int×Int)}{len dp:Int}{a:Nat→Addr}{w w1 w':World}{o:Pro.Out}{t:Tree}{x:Ending}(hO:zd (zo b) w w1)(h:yi b L len dp a w1 o t x w'):yi b L len dp a w o t x w':=by
 obtain ⟨h1,h2,h3⟩:=h
 refine ⟨hO.trans h1,h2,?_⟩
 rcases h3 with ⟨hk,T,y,F,hx,hs⟩ |⟨hk,v,hx,hv⟩
 ·exact .inl ⟨hk,T,y,F,hx,zu.mono (fun g _ hg=>Nat.le_trans hO.size hg) F _ _ hs⟩
 ·exact .inr ⟨hk,v,hx,hv.base hO.size⟩
theorem xB {b:Nat}{L:List (Int×Int)}{len dp:Int}{a:Nat→Addr}{w w':World}{o:Pro.Out}{t:Tree}{x:Ending}(h:yi b L len dp a w o t x w')(hk:o.k=0):∃ T y F,x = .returned (.tuple #[.iface T y,.nilIface])∧zu F w' (fun g=>w.heap.size≤g) (.iface T y) t∧zd (zo b) w w'∧zG w' b L o.n len dp:=by
 obtain ⟨h1,h2,⟨_,T,y,F,hx,hs⟩ |⟨h3,_⟩⟩:=h
 ·exact ⟨T,y,F,hx,hs,h1,h2⟩
 ·exact absurd hk h3
theorem vo {b:Nat}{L:List (Int×Int)}{len dp:Int}{a:Nat→Addr}{w w':World}{o:Pro.Out}{t:Tree}{x:Ending}(h:yi b L len dp a w o t x w')(hk:o.k≠0):∃ g,x = .returned (.tuple #[.nilIface,.iface 124 (.pointer (some ⟨g,0,none⟩))])∧zA w' w.heap.size (.iface 124 (.pointer (some ⟨g,0,none⟩))) (zE a o.k) o.p∧zd (zo b) w w'∧zG w' b L o.n len dp:=by
 obtain ⟨h1,h2,⟨h3,_⟩ |⟨_,v,hx,hv⟩⟩:=h
 ·exact absurd h3 hk
 ·obtain ⟨g,rfl⟩:=hv.form
  exact ⟨g,hx,hv,h1,h2⟩
end
section
open Sm (Tree)
namespace Pro
def nOK (v:Int):Prop:=-1≤v∧v≤1114111
def qo:Nat→Tree→Prop
 |0,_=>True
 |f+1,T=>(T.kind=2→nOK T.a)∧(T.kind=3→setB T.a=true)∧(T.kind=4→(∀ r∈T.rs,nOK r.1∧nOK r.2)∧∀ s∈T.ss,setB s=true)∧∀ t∈T.kids,qo f t
section
variable {L:List (Int×Int)} {len:Int}
theorem Ji (k:Nat)(p:Int)(n:Nat):nOK (bad k p n).v:=by unfold nOK bad;simp
theorem hex_v {f:Nat}(hf:f≤4)(n:Nat):0≤(hexO L len f 0 n).v∧(hexO L len f 0 n).v≤65535:=
 XX L len f 0 n (by omega) (by have:(0:Int)<16 ^ (4-f):=Int.pow_pos (by omega);omega) hf
theorem Xn:∀ (f:Nat) (c:Int) (d n:Nat),0≤c→c≤1114111→nOK (yP L len f c d n).v
 |0,c,d,n,h0,h1=>⟨by show -1≤c;omega,h1⟩
 |f+1,c,d,n,h0,h1=>by
  unfold yP
  split
  ·exact ⟨by show -1≤c;omega,h1⟩
  ·split
   ·exact Ji _ _ _
   ·exact Xn f _ _ _ (by omega) (by omega)
theorem J8 (n:Nat):nOK (yf L len n).v:=by
 have h1:=hex_v (L:=L) (len:=len) (f:=4) (by omega) n
 have e:nOK (hexO L len 4 0 n).v:=⟨by omega,by omega⟩
 unfold yf
 split
 ·exact e
 ·split
  ·rename_i h2 h3
   have h4:lowV L len (hexO L len 4 0 n).n≤57343∧(0≤lowV L len (hexO L len 4 0 n).n→56320≤lowV L len (hexO L len 4 0 n).n):=by
    unfold lowV
    split
    ·rename_i h5;exact ⟨h5.2.2.2.2,fun _=>h5.2.2.2.1⟩
    ·exact ⟨by omega,fun h=>by omega⟩
   unfold nOK good
   simp only
   omega
  ·exact e
theorem numO_v (hF:Fit L)(n:Nat):nOK (numO L len n).v:=by
 have hl:=hF n
 unfold numO
 split
 ·unfold nOK good kL ctlV
  simp only
  split
  ·split<;>(try split)<;>(try split)<;>(try split)<;>(try split)<;>omega
  ·omega
 ·split
  ·unfold qY;split
   ·exact Ji _ _ _
   ·unfold nOK good;simp
  ·split
   ·unfold yN;split
    ·unfold nOK good;simp only;omega
    ·exact Ji _ _ _
   ·split
    ·have:=hex_v (L:=L) (len:=len) (f:=2) (by omega) (n+1)
     exact ⟨by omega,by omega⟩
    ·split
     ·exact Xn _ _ _ _ (by omega) (by omega)
     ·split
      ·exact J8 _
      ·exact Ji _ _ _
theorem escO_v (hF:Fit L)(n:Nat):nOK (escO L len n).v:=by
 unfold escO
 split
 ·exact hF (n+1)
 ·split
  ·exact Ji _ _ _
  ·exact numO_v hF _
theorem Jj {n:Nat}(h:setB (ze L (n+1))=true):(escO L len n).v=ze L (n+1):=by unfold escO;rw [if_pos h];rfl
theorem vp (hF:Fit L)(n:Nat):nOK (zl L len n).v:=by
 unfold zl
 split
 ·unfold nOK good;simp
 ·split
  ·unfold nOK good;simp
  ·split
   ·exact escO_v hF n
   ·exact hF n
theorem Jk {n:Nat}(h:many L n=true):setB (zl L len n).v=true:=by
 unfold many at h
 rw [Bool.and_eq_true,decide_eq_true_eq] at h
 unfold zl
 rw [if_neg (fun e=>by rw [e.2] at h;exact absurd h.2 (by decide)),if_neg (fun e=>by rw [e.2] at h;exact absurd h.2 (by decide)),if_pos h.1,Jj h.2]
 exact h.2
theorem Xo (hF:Fit L):∀ (f n:Nat) (R:List (Int×Int)) (S:List Int),(∀ r∈R,nOK r.1∧nOK r.2)→(∀ s∈S,setB s=true)→(∀ r∈(xz L len f n R S).1,nOK r.1∧nOK r.2)∧∀ s∈(xz L len f n R S).2,setB s=true
 |0,_,_,_,h1,h2=>⟨h1,h2⟩
 |f+1,n,R,S,h1,h2=>by
  unfold xz
  split
  ·exact ⟨h1,h2⟩
  ·refine Xo hF f _ _ _ (fun r hr=>?_) (fun s hs=>?_)
   ·unfold addR at hr
    split at hr
    ·rcases List.mem_append.1 hr with hr |hr
     ·exact h1 r hr
     ·obtain rfl:=List.mem_singleton.1 hr
      exact ⟨vp hF _,vp hF _⟩
    ·split at hr
     ·exact h1 r hr
     ·rcases List.mem_append.1 hr with hr |hr
      ·exact h1 r hr
      ·obtain rfl:=List.mem_singleton.1 hr
       exact ⟨vp hF _,vp hF _⟩
   ·unfold addS at hs
    split at hs
    ·exact h2 s hs
    ·split at hs
     ·rename_i hm
      rcases List.mem_append.1 hs with hs |hs
      ·exact h2 s hs
      ·obtain rfl:=List.mem_singleton.1 hs
       exact Jk hm
     ·exact h2 s hs
theorem KQ {c:Int}(h:nOK c):∀ f,qo f (xL c)
 |0=>trivial
 |f+1=>⟨fun _=>h,fun e=>by simp [xL] at e,fun e=>by simp [xL] at e,fun t ht=>by simp [xL] at ht⟩
theorem sh_short {c:Int}(h:setB c=true):∀ f,qo f (xi c)
 |0=>trivial
 |f+1=>⟨fun e=>by simp [xi] at e,fun _=>h,fun e=>by simp [xi] at e,fun t ht=>by simp [xi] at ht⟩
theorem sh_any:∀ f,qo f tAny
 |0=>trivial
 |f+1=>⟨fun e=>by simp [tAny] at e,fun e=>by simp [tAny] at e,fun e=>by simp [tAny] at e,fun t ht=>by simp [tAny] at ht⟩
theorem sh_asr (a:Int):∀ f,qo f (tAsr a)
 |0=>trivial
 |f+1=>⟨fun e=>by simp [tAsr] at e,fun e=>by simp [tAsr] at e,fun e=>by simp [tAsr] at e,fun t ht=>by simp [tAsr] at ht⟩
theorem Qd {T:Tree}(hk:5≤T.kind)(h:∀ t∈T.kids,∀ f,qo f t):∀ f,qo f T
 |0=>trivial
 |f+1=>⟨fun e=>by omega,fun e=>by omega,fun e=>by omega,fun t ht=>h t ht f⟩
theorem V9 (hF:Fit L)(n:Nat):∀ f,qo f (xA L len n)
 |0=>trivial
 |f+1=>⟨fun e=>by simp [xA,tCls] at e,fun e=>by simp [xA,tCls] at e,fun _=>Xo hF _ _ [] [] (by simp) (by simp),fun t ht=>by simp [xA,tCls] at ht⟩
theorem Jl (hF:Fit L){DT:Nat→Tree}(hD:∀ n f,qo f (DT n))(n f:Nat):qo f (xr L len DT n):=by
 unfold xr
 split
 ·exact hD n f
 ·split
  ·exact V9 hF n f
  ·split
   ·unfold oneT
    split
    ·rename_i h
     have:=Jj (L:=L) (len:=len) h
     rw [this]
     exact sh_short h f
    ·exact KQ (escO_v hF n) f
   ·split
    ·exact sh_any f
    ·exact KQ (hF n) f
theorem termT_sh (hF:Fit L){D:Nat→Out}{DT:Nat→Tree}(hD:∀ n f,qo f (DT n))(n f:Nat):qo f (qO L len D DT n):=by
 unfold qO
 split
 ·exact sh_asr _ f
 ·split
  ·exact Jl hF hD n f
  ·refine Qd (by simp [tRep]) (fun t ht f=>?_) f
   obtain rfl:t=xr L len DT n:=by simpa [tRep] using ht
   exact Jl hF hD n f
theorem Xp (hF:Fit L){D:Nat→Out}{DT:Nat→Tree}(hD:∀ n f,qo f (DT n)):∀ (g:Nat) (ts:List Tree) (n:Nat),(∀ t∈ts,∀ f,qo f t)→∀ t∈qi L len D DT g ts n,∀ f,qo f t
 |0,_,_,h=>h
 |g+1,ts,n,h=>by
  unfold qi
  split
  ·exact h
  ·refine Xp hF hD g _ _ (fun t ht=>?_)
   rcases List.mem_append.1 ht with ht |ht
   ·exact h t ht
   ·obtain rfl:=List.mem_singleton.1 ht
    exact fun f=>termT_sh hF hD n f
theorem Wa (hF:Fit L){D:Nat→Out}{DT:Nat→Tree}(hD:∀ n f,qo f (DT n))(n f:Nat):qo f (xe L len D DT n):=
 Qd (by simp [xe,tSeq]) (Xp hF hD _ [] n (by simp)) f
theorem KR (hF:Fit L){D:Nat→Out}{DT:Nat→Tree}(hD:∀ n f,qo f (DT n)):∀ (g:Nat) (ts:List Tree) (n:Nat),(∀ t∈ts,∀ f,qo f t)→∀ t∈altT L len D DT g ts n,∀ f,qo f t
 |0,_,_,h=>h
 |g+1,ts,n,h=>by
  have h2:∀ t∈ts++[xe L len D DT n],∀ f,qo f t:=fun t ht=>by
   rcases List.mem_append.1 ht with ht |ht
   ·exact h t ht
   ·obtain rfl:=List.mem_singleton.1 ht
    exact fun f=>Wa hF hD n f
  unfold altT
  split
  ·exact KR hF hD g _ _ h2
  ·exact h2
theorem KS (hF:Fit L){D:Nat→Out}{DT:Nat→Tree}(hD:∀ n f,qo f (DT n))(n f:Nat):qo f (altQ L len D DT n):=
 Qd (by simp [altQ,tAlt]) (KR hF hD _ [] n (by simp)) f
theorem Jm (hF:Fit L):∀ (r n f:Nat),qo f (xI L len r n)
 |0,_,f=>sh_any f
 |r+1,_,f=>KS hF (fun n f=>Jm hF r n f) _ f
theorem Jn (hF:Fit L)(r n f:Nat):qo f (altQ L len (zy L len r) (xI L len r) n):=KS hF (fun n f=>Jm hF r n f) n f
end
end Pro
end
end Go.Proofs.YtfnkbmglodopkaaGreatDoor
