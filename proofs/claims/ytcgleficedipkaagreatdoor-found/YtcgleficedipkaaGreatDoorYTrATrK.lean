/- Parts in memory, as trees. -/
import Derived.Test.YtcgleficedipkaaGreatDoorYSemGParC
namespace Go.Proofs.YtcgleficedipkaaGreatDoor
open _root_.Go.Proofs.Tryz
variable (v:Value){b:Nat}{L:List (Int×Int)}{len dp:Int}{a:Nat->Addr}(w:World)(f:Nat)(T:TypeId)
section
open Go.RowKit
open Sm (Tree)
namespace Pro
def tAsr (a:Int):Tree:=⟨0,a,0,false,[],[],[]⟩
def tAny:Tree:=⟨1,0,0,false,[],[],[]⟩
def qK (c:Int):Tree:=⟨2,c,0,false,[],[],[]⟩
def xV (c:Int):Tree:=⟨3,c,0,false,[],[],[]⟩
def tCls (neg:Bool)(R:List (Int×Int))(S:List Int):Tree:=⟨4,0,0,neg,R,S,[]⟩
def tAlt (ts:List Tree):Tree:=⟨5,0,0,false,[],[],ts⟩
def tSeq (ts:List Tree):Tree:=⟨6,0,0,false,[],[],ts⟩
def tRep (t:Tree)(l m:Int):Tree:=⟨7,l,m,false,[],[],[t]⟩
section
variable (L:List (Int×Int)) (len:Int)
def asV (n:Nat):Int:=if zf L n=94 then 0 else if zf L n=36 then 1 else if zf L (n+1)=98 then 2 else 3
def xM:Nat->Nat->List (Int×Int)->List Int->List (Int×Int)×List Int
 |0,_,R,S=>(R,S)
 |f+1,n,R,S=>if zf L n=93 then (R,S) else xM f (addO L len n).n (addR L len n R) (addS L len n S)
def xN (n:Nat):Tree:=tCls (decide (zf L (n+1)=94)) (xM L len (L.length+1-n) (if zf L (n+1)=94 then n+2 else n+1) [] []).1 (xM L len (L.length+1-n) (if zf L (n+1)=94 then n+2 else n+1) [] []).2
def oneT (m:Bool)(c:Int):Tree:=match m with
 |true=>xV c
 |false=>qK c
def xk (DT:Nat->Tree)(n:Nat):Tree:=
 if zf L n=40 then DT n
 else if zf L n=91 then xN L len n
 else if zf L n=92 then oneT (setB (zf L (n+1))) (escO L len n).v
 else if zf L n=46 then tAny
 else qK (zf L n)
def xO (D:Nat->Out)(DT:Nat->Tree)(n:Nat):Tree:=
 if asN L n≠0 then tAsr (asV L n)
 else if (zu L len (zL L len D n).n).1=false then xk L len DT n
 else tRep (xk L len DT n) (zu L len (zL L len D n).n).2.1.v (zu L len (zL L len D n).n).2.2
def xt (D:Nat->Out)(DT:Nat->Tree):Nat->List Tree->Nat->List Tree
 |0,ts,_=>ts
 |f+1,ts,n=>if yx L n=true then ts else xt D DT f (ts++[xO L len D DT n]) (zV L len D n).n
def yq (D:Nat->Out)(DT:Nat->Tree)(n:Nat):Tree:=tSeq (xt L len D DT (L.length+1-n) [] n)
def altT (D:Nat->Out)(DT:Nat->Tree):Nat->List Tree->Nat->List Tree
 |0,ts,_=>ts
 |f+1,ts,n=>if zf L (zw L len D n).n=124 then altT D DT f (ts++[yq L len D DT n]) ((zw L len D n).n+1) else ts++[yq L len D DT n]
def altQ (D:Nat->Out)(DT:Nat->Tree)(n:Nat):Tree:=tAlt (altT L len D DT (L.length+1-n) [] n)
def zH:Nat->Nat->Tree
 |0,_=>tAny
 |r+1,n=>altQ L len (zl L len r) (zH r) (zS L len n).n
end
end Pro
def xE (w:World)(A:Nat->Prop)(sv:Value)(n:Nat)(xs:List Value):Prop:=
 (sv = .slice none 0 0/\n=0/\xs=[])\/∃ g cap,sv = .slice (some ⟨g,0,none⟩) n cap/\A g/\n<=cap/\g<w.heap.size/\∀ j x,xs[j]?=some x->w.cell? ⟨g,j,none⟩=some x
theorem xE.keep {P A:Nat->Prop}{w w':World}{sv:Value}{n:Nat}{xs:List Value}(h:xE w A sv n xs)(k:ze P w w')(hn:∀ g,A g->¬P g):xE w' A sv n xs:=by
 rcases h with h |⟨g,cap,h1,h2,h3,h4,h5⟩
 ·exact .inl h
 ·exact .inr ⟨g,cap,h1,h2,h3,yh h4 k.size,fun j x hj=>(k.cell (zE w _ (h5 j x hj)) (hn g h2)).trans (h5 j x hj)⟩
theorem xE.mono {A B:Nat->Prop}{w:World}{sv:Value}{n:Nat}{xs:List Value}(h:xE w A sv n xs)(hAB:∀ g,g<w.heap.size->A g->B g):xE w B sv n xs:=by
 rcases h with h |⟨g,cap,h1,h2,h3,h4,h5⟩
 ·exact .inl h
 ·exact .inr ⟨g,cap,h1,hAB g h4 h2,h3,h4,h5⟩
theorem V6 {base k n:Nat}{w:World}{T:TypeId}{sv:Value}{xs:List Value}(h:w.ownsRow base T k sv n xs)(hx:n=0->xs=[]):xE w (fun g=>base<=g) sv n xs:=by
 have hl:=zh h;have hc:=@World.ownsRow.cells w base T k sv n xs h;rcases h.2 with ⟨rfl,h0⟩ |⟨g,cap,cur,rfl,hb,hg,hn,_⟩
 ·exact .inl ⟨rfl,h0,hx h0⟩
 ·exact .inr ⟨g,cap,rfl,hb,hn,(hl g rfl).2,fun j x hj=>by
   have:=hc (g:=g) rfl j x hj;have e:(⟨g,0,none⟩:Addr).add j=⟨g,j,none⟩:=(by unfold Addr.add;split<;>simp_all);rw [e] at this;exact this⟩
def jd (w:World)(A:Nat->Prop)(v:Value)(t:Tree):Prop:=
 (∃ c,t=Pro.tAsr c/\v = .iface 162 (.int .i64 c))\/
 (t=Pro.tAny/\v = .iface 246 (.agg #[]))\/
 (∃ c,t=Pro.qK c/\v = .iface 247 (.int .i32 c))\/
 (∃ c,t=Pro.xV c/\v = .iface 248 (.int .i32 c))\/
 (∃ neg R S v1 v2,t=Pro.tCls neg R S/\v = .iface 252 (.agg #[.bool neg,v1,v2])/\xE w A v1 R.length (rangeCells R)/\xE w A v2 S.length (qB S))
def zA:Nat->World->(Nat->Prop)->Value->Tree->Prop
 |0,_,_,_,_=>False
 |f+1,w,A,v,t=>
  jd w A v t\/
  (∃ sv xs ts,t=Pro.tAlt ts/\v = .iface 243 sv/\kI w A sv xs/\xs.length<=1000/\ts.length=xs.length/\(∀ (j:Nat) x t',xs[j]?=some x->ts[j]?=some t'->zA f w A x t')/\0<xs.length)\/
  (∃ sv xs ts,t=Pro.tSeq ts/\v = .iface 254 sv/\kI w A sv xs/\xs.length<=1000/\ts.length=xs.length/\(∀ (j:Nat) x t',xs[j]?=some x->ts[j]?=some t'->zA f w A x t'))\/
  (∃ p l m t',t=Pro.tRep t' l m/\v = .iface 256 (.agg #[p,.int .i64 l,.int .i64 m])/\zA f w A p t'/\0<=l/\l<=100/\-1<=m/\m<=100/\(m = -1\/l<=m))
theorem jd.keep {P A:Nat->Prop}{w w':World}{v:Value}{t:Tree}(h:jd w A v t)(k:ze P w w')(hn:∀ g,A g->¬P g):jd w' A v t:=by
 rcases h with h |h |h |h |⟨neg,R,S,v1,v2,h1,h2,h3,h4⟩
 ·exact .inl h
 ·exact .inr (.inl h)
 ·exact .inr (.inr (.inl h))
 ·exact .inr (.inr (.inr (.inl h)))
 ·exact .inr (.inr (.inr (.inr ⟨neg,R,S,v1,v2,h1,h2,h3.keep k hn,h4.keep k hn⟩)))
theorem jd.mono {A B:Nat->Prop}{w:World}{v:Value}{t:Tree}(h:jd w A v t)(hAB:∀ g,g<w.heap.size->A g->B g):jd w B v t:=by
 rcases h with h |h |h |h |⟨neg,R,S,v1,v2,h1,h2,h3,h4⟩
 ·exact .inl h
 ·exact .inr (.inl h)
 ·exact .inr (.inr (.inl h))
 ·exact .inr (.inr (.inr (.inl h)))
 ·exact .inr (.inr (.inr (.inr ⟨neg,R,S,v1,v2,h1,h2,h3.mono hAB,h4.mono hAB⟩)))
theorem zA.keep {P A:Nat->Prop}{w w':World}(k:ze P w w')(hn:∀ g,A g->¬P g):∀ (f:Nat) (v:Value) (t:Tree),zA f w A v t->zA f w' A v t
 |0,_,_,h=>h
 |f+1,v,z,h=>by
  rcases h with h |⟨sv,xs,zs,e,h1,h2,h0,h3,h4,h5⟩ |⟨sv,xs,zs,e,h1,h2,h0,h3,h4⟩ |⟨p,l,m,z',e,h1,h2,h3⟩
  ·exact .inl (h.keep k hn)
  ·exact .inr (.inl ⟨sv,xs,zs,e,h1,h2.keep k hn,h0,h3,fun j x z' hx hz=>zA.keep k hn f x z' (h4 j x z' hx hz),h5⟩)
  ·exact .inr (.inr (.inl ⟨sv,xs,zs,e,h1,h2.keep k hn,h0,h3,fun j x z' hx hz=>zA.keep k hn f x z' (h4 j x z' hx hz)⟩))
  ·exact .inr (.inr (.inr ⟨p,l,m,z',e,h1,zA.keep k hn f p z' h2,h3⟩))
theorem zA.mono {A B:Nat->Prop}{w:World}(hAB:∀ g,g<w.heap.size->A g->B g):∀ (f:Nat) (v:Value) (t:Tree),zA f w A v t->zA f w B v t
 |0,_,_,h=>h
 |f+1,v,z,h=>by
  rcases h with h |⟨sv,xs,zs,e,h1,h2,h0,h3,h4,h5⟩ |⟨sv,xs,zs,e,h1,h2,h0,h3,h4⟩ |⟨p,l,m,z',e,h1,h2,h3⟩
  ·exact .inl (h.mono hAB)
  ·exact .inr (.inl ⟨sv,xs,zs,e,h1,h2.mono hAB,h0,h3,fun j x z' hx hz=>zA.mono hAB f x z' (h4 j x z' hx hz),h5⟩)
  ·exact .inr (.inr (.inl ⟨sv,xs,zs,e,h1,h2.mono hAB,h0,h3,fun j x z' hx hz=>zA.mono hAB f x z' (h4 j x z' hx hz)⟩))
  ·exact .inr (.inr (.inr ⟨p,l,m,z',e,h1,zA.mono hAB f p z' h2,h3⟩))
theorem zA.up {A:Nat->Prop}{w:World}:∀ (f g:Nat) (v:Value) (t:Tree),f<=g->zA f w A v t->zA g w A v t
 |0,_,_,_,_,h=>h.elim
 |f+1,0,_,_,hg,_=>by omega
 |f+1,g+1,v,z,hg,h=>by
  rcases h with h |⟨sv,xs,zs,e,h1,h2,h0,h3,h4,h5⟩ |⟨sv,xs,zs,e,h1,h2,h0,h3,h4⟩ |⟨p,l,m,z',e,h1,h2,h3⟩
  ·exact .inl h
  ·exact .inr (.inl ⟨sv,xs,zs,e,h1,h2,h0,h3,fun j x z' hx hz=>zA.up f g x z' (by omega) (h4 j x z' hx hz),h5⟩)
  ·exact .inr (.inr (.inl ⟨sv,xs,zs,e,h1,h2,h0,h3,fun j x z' hx hz=>zA.up f g x z' (by omega) (h4 j x z' hx hz)⟩))
  ·exact .inr (.inr (.inr ⟨p,l,m,z',e,h1,zA.up f g p z' (by omega) h2,h3⟩))
theorem zA.leaf {w:World}{A:Nat->Prop}{v:Value}{t:Tree}(h:jd w A v t):zA 1 w A v t:=.inl h
def jm (f:Nat)(w:World)(A:Nat->Prop)(xs:List Value)(zs:List Tree):Prop:=zs.length=xs.length/\∀ (j:Nat) x z',xs[j]?=some x->zs[j]?=some z'->zA f w A x z'
theorem jm.append {f g:Nat}{w:World}{A:Nat->Prop}{xs:List Value}{zs:List Tree}{x:Value}{z:Tree}(h:jm f w A xs zs)(hx:zA g w A x z):jm (max f g) w A (xs++[x]) (zs++[z]):=by
 refine ⟨by simp [h.1],?_⟩;intro j y z' hy hz;by_cases hj:j<xs.length
 ·rw [qh hj] at hy;rw [qh (by rw [h.1];exact hj)] at hz;exact zA.up f _ _ _ (by omega) (h.2 j y z' hy hz)
 ·rw [jj (by omega)] at hy;rw [jj (by rw [h.1];omega),h.1] at hz;by_cases h0:j-xs.length=0
  ·rw [h0] at hy hz;simp at hy hz;subst hy;subst hz;exact zA.up g _ _ _ (by omega) hx
  ·rw [jF (by simp;omega)] at hy;cases hy
theorem jm.keep {P A:Nat->Prop}{f:Nat}{w w':World}{xs:List Value}{zs:List Tree}(h:jm f w A xs zs)(k:ze P w w')(hn:∀ g,A g->¬P g):jm f w' A xs zs:=⟨h.1,fun j x z hx hz=>zA.keep k hn f x z (h.2 j x z hx hz)⟩
theorem jm.mono {A B:Nat->Prop}{f:Nat}{w:World}{xs:List Value}{zs:List Tree}(h:jm f w A xs zs)(hAB:∀ g,g<w.heap.size->A g->B g):jm f w B xs zs:=⟨h.1,fun j x z hx hz=>zA.mono hAB f x z (h.2 j x z hx hz)⟩
def yI (b:Nat)(L:List (Int×Int))(len dp:Int)(a:Nat->Addr)(w:World)(o:Pro.Out)(t:Tree)(x:Ending)(w':World):Prop:=
 ze (zt b) w w'/\zR w' b L o.n len dp/\((o.k=0/\∃ T y F,x = .returned (.tuple #[.iface T y,.nilIface])/\zA F w' (fun g=>w.heap.size<=g) (.iface T y) t)\/
  (o.k≠0/\∃ v,x = .returned (.tuple #[.nilIface,v])/\zI w' w.heap.size v (zN a o.k) o.p))
theorem yI.good {w w':World}{o:Pro.Out}{v:Int}{n:Nat}{T:TypeId}{y:Value}{F:Nat}{t:Tree}(ho:o=Pro.good v n)(hO:ze (zt b) w w')(hR:zR w' b L n len dp)(hs:zA F w' (fun g=>w.heap.size<=g) (.iface T y) t):yI b L len dp a w o t (.returned (.tuple #[.iface T y,.nilIface])) w':=by
 subst ho;exact ⟨hO,hR,.inl ⟨rfl,T,y,F,rfl,hs⟩⟩
theorem yI.bad {w w':World}{o:Pro.Out}{k:Nat}{p:Int}{n:Nat}{v:Value}{t:Tree}(ho:o=Pro.bad k p n)(hk:k≠0)(hO:ze (zt b) w w')(hR:zR w' b L n len dp)(hv:zI w' w.heap.size v (zN a k) p):yI b L len dp a w o t (.returned (.tuple #[.nilIface,v])) w':=by
 subst ho;exact ⟨hO,hR,.inr ⟨hk,v,rfl,hv⟩⟩
theorem Tells.givesT {w w':World}{o:Pro.Out}{T:TypeId}{y:Value}{x:Ending}{t:Tree}(h:Tells b L len dp a w o (.iface T y) .nilIface x w')(hT:o.k=0->jd w' (fun g=>w.heap.size<=g) (.iface T y) t):yI b L len dp a w (Pro.one o) t x w':=by
 obtain ⟨hO,hR,h⟩:=h;refine ⟨hO,by rw [Pro.one_n];exact hR,?_⟩;rcases h with ⟨hk,hx⟩ |⟨hk,v,hx,hv⟩
 ·exact .inl ⟨by rw [Pro.one_k];exact hk,T,y,1,hx,zA.leaf (hT hk)⟩
 ·have:Pro.one o=o:=by unfold Pro.one;rw [if_neg hk]
  rw [this];exact .inr ⟨hk,v,hx,hv⟩
theorem yI.pair {w w':World}{o:Pro.Out}{t:Tree}{x:Ending}(h:yI b L len dp a w o t x w'):∃ p q,x = .returned (.tuple #[p,q]):=by
 obtain ⟨_,_,⟨_,T,y,F,hx,_⟩ |⟨_,v,hx,_⟩⟩:=h
 ·exact ⟨_,_,hx⟩
 ·exact ⟨_,_,hx⟩
theorem yI.after {w w1 w':World}{o:Pro.Out}{t:Tree}{x:Ending}(hO:ze (zt b) w w1)(h:yI b L len dp a w1 o t x w'):yI b L len dp a w o t x w':=by
 obtain ⟨h1,h2,h3⟩:=h;refine ⟨hO.trans h1,h2,?_⟩;rcases h3 with ⟨hk,T,y,F,hx,hs⟩ |⟨hk,v,hx,hv⟩
 ·exact .inl ⟨hk,T,y,F,hx,zA.mono (fun g _ hg=>yZ hO.size hg) F _ _ hs⟩
 ·exact .inr ⟨hk,v,hx,hv.base hO.size⟩
theorem qw {w w':World}{o:Pro.Out}{t:Tree}{x:Ending}(h:yI b L len dp a w o t x w')(hk:o.k=0):∃ T y F,x = .returned (.tuple #[.iface T y,.nilIface])/\zA F w' (fun g=>w.heap.size<=g) (.iface T y) t/\ze (zt b) w w'/\zR w' b L o.n len dp:=by
 obtain ⟨h1,h2,⟨_,T,y,F,hx,hs⟩ |⟨h3,_⟩⟩:=h
 ·exact ⟨T,y,F,hx,hs,h1,h2⟩
 ·exact absurd hk h3
theorem Zc {w w':World}{o:Pro.Out}{t:Tree}{x:Ending}(h:yI b L len dp a w o t x w')(hk:o.k≠0):∃ g,x = .returned (.tuple #[.nilIface,.iface 122 (.pointer (some ⟨g,0,none⟩))])/\zI w' w.heap.size (.iface 122 (.pointer (some ⟨g,0,none⟩))) (zN a o.k) o.p/\ze (zt b) w w'/\zR w' b L o.n len dp:=by
 obtain ⟨h1,h2,⟨h3,_⟩ |⟨_,v,hx,hv⟩⟩:=h
 ·exact absurd h3 hk
 ·obtain ⟨g,rfl⟩:=hv.form;exact ⟨g,hx,hv,h1,h2⟩
end
section
open Sm (Tree)
namespace Pro
def nOK (v:Int):Prop:=-1<=v/\v<=1114111
def jg:Nat->Tree->Prop
 |0,_=>True
 |f+1,T=>(T.kind=2->nOK T.a)/\(T.kind=3->setB T.a=true)/\(T.kind=4->(∀ r∈T.rs,nOK r.1/\nOK r.2)/\∀ s∈T.ss,setB s=true)/\∀ t∈T.kids,jg f t
section
variable {L:List (Int×Int)} {len:Int}
theorem V7 (k:Nat)(p:Int)(n:Nat):nOK (bad k p n).v:=by unfold nOK bad;simp
theorem hex_v {f:Nat}(hf:f<=4)(n:Nat):0<=(hexO L len f 0 n).v/\(hexO L len f 0 n).v<=65535:=
 Ks L len f 0 n (by omega) (by have:(0:Int)<16 ^ (4-f):=Int.pow_pos (by omega);omega) hf
theorem JG:∀ (f:Nat) (c:Int) (d n:Nat),0<=c->c<=1114111->nOK (yw L len f c d n).v
 |0,c,d,n,h0,h1=>⟨by show -1<=c;omega,h1⟩
 |f+1,c,d,n,h0,h1=>by
  unfold yw;split
  ·exact ⟨by show -1<=c;omega,h1⟩
  ·split
   ·exact V7 _ _ _
   ·exact JG f _ _ _ (by omega) (by omega)
theorem zag (n:Nat):nOK (zY L len n).v:=by
 have h1:=hex_v (L:=L) (len:=len) (f:=4) (by omega) n;have e:nOK (hexO L len 4 0 n).v:=⟨by omega,by omega⟩
 unfold zY;split
 ·exact e
 ·split
  ·rename_i h2 h3;have h4:lowV L len (hexO L len 4 0 n).n<=57343/\(0<=lowV L len (hexO L len 4 0 n).n->56320<=lowV L len (hexO L len 4 0 n).n):=by
    unfold lowV;split
    ·rename_i h5;exact ⟨h5.2.2.2.2,fun _=>h5.2.2.2.1⟩
    ·exact ⟨by omega,fun h=>by omega⟩
   unfold nOK good;simp only;omega
  ·exact e
theorem numO_v (hF:Fit L)(n:Nat):nOK (numO L len n).v:=by
 have hl:=hF n;unfold numO;split
 ·unfold nOK good wz ctlV;simp only;split
  ·split<;>(try split)<;>(try split)<;>(try split)<;>(try split)<;>omega
  ·omega
 ·split
  ·unfold xY;split
   ·exact V7 _ _ _
   ·unfold nOK good;simp
  ·split
   ·unfold ym;split
    ·unfold nOK good;simp only;omega
    ·exact V7 _ _ _
   ·split
    ·have:=hex_v (L:=L) (len:=len) (f:=2) (by omega) (n+1);exact ⟨by omega,by omega⟩
    ·split
     ·exact JG _ _ _ _ (by omega) (by omega)
     ·split
      ·exact zag _
      ·exact V7 _ _ _
theorem escO_v (hF:Fit L)(n:Nat):nOK (escO L len n).v:=by
 unfold escO;split
 ·exact hF (n+1)
 ·split
  ·exact V7 _ _ _
  ·exact numO_v hF _
theorem V8 {n:Nat}(h:setB (zf L (n+1))=true):(escO L len n).v=zf L (n+1):=by unfold escO;rw [if_pos h];rfl
theorem Zd (hF:Fit L)(n:Nat):nOK (zi L len n).v:=by
 unfold zi;split
 ·unfold nOK good;simp
 ·split
  ·unfold nOK good;simp
  ·split
   ·exact escO_v hF n
   ·exact hF n
theorem V9 {n:Nat}(h:many L n=true):setB (zi L len n).v=true:=by
 unfold many at h;rw [kt,decide_eq_true_eq] at h;unfold zi;rw [if_neg (fun e=>by rw [e.2] at h;exact absurd h.2 (by decide)),if_neg (fun e=>by rw [e.2] at h;exact absurd h.2 (by decide)),if_pos h.1,V8 h.2];exact h.2
theorem JH (hF:Fit L):∀ (f n:Nat) (R:List (Int×Int)) (S:List Int),(∀ r∈R,nOK r.1/\nOK r.2)->(∀ s∈S,setB s=true)->(∀ r∈(xM L len f n R S).1,nOK r.1/\nOK r.2)/\∀ s∈(xM L len f n R S).2,setB s=true
 |0,_,_,_,h1,h2=>⟨h1,h2⟩
 |f+1,n,R,S,h1,h2=>by
  unfold xM;split
  ·exact ⟨h1,h2⟩
  ·refine JH hF f _ _ _ (fun r hr=>?_) (fun s hs=>?_)
   ·unfold addR at hr;split at hr
    ·rcases qe.1 hr with hr |hr
     ·exact h1 r hr
     ·obtain rfl:=xf.1 hr;exact ⟨Zd hF _,Zd hF _⟩
    ·split at hr
     ·exact h1 r hr
     ·rcases qe.1 hr with hr |hr
      ·exact h1 r hr
      ·obtain rfl:=xf.1 hr;exact ⟨Zd hF _,Zd hF _⟩
   ·unfold addS at hs;split at hs
    ·exact h2 s hs
    ·split at hs
     ·rename_i hm;rcases qe.1 hs with hs |hs
      ·exact h2 s hs
      ·obtain rfl:=xf.1 hs;exact V9 hm
     ·exact h2 s hs
theorem zbb {c:Int}(h:nOK c):∀ f,jg f (qK c)
 |0=>trivial
 |f+1=>⟨fun _=>h,fun e=>by simp [qK] at e,fun e=>by simp [qK] at e,fun t ht=>by simp [qK] at ht⟩
theorem sh_short {c:Int}(h:setB c=true):∀ f,jg f (xV c)
 |0=>trivial
 |f+1=>⟨fun e=>by simp [xV] at e,fun _=>h,fun e=>by simp [xV] at e,fun t ht=>by simp [xV] at ht⟩
theorem sh_any:∀ f,jg f tAny
 |0=>trivial
 |f+1=>⟨fun e=>by simp [tAny] at e,fun e=>by simp [tAny] at e,fun e=>by simp [tAny] at e,fun t ht=>by simp [tAny] at ht⟩
theorem sh_asr (a:Int):∀ f,jg f (tAsr a)
 |0=>trivial
 |f+1=>⟨fun e=>by simp [tAsr] at e,fun e=>by simp [tAsr] at e,fun e=>by simp [tAsr] at e,fun t ht=>by simp [tAsr] at ht⟩
theorem KI {T:Tree}(hk:5<=T.kind)(h:∀ t∈T.kids,∀ f,jg f t):∀ f,jg f T
 |0=>trivial
 |f+1=>⟨fun e=>by omega,fun e=>by omega,fun e=>by omega,fun t ht=>h t ht f⟩
theorem zcY (hF:Fit L)(n:Nat):∀ f,jg f (xN L len n)
 |0=>trivial
 |f+1=>⟨fun e=>by simp [xN,tCls] at e,fun e=>by simp [xN,tCls] at e,fun _=>JH hF _ _ [] [] (by simp) (by simp),fun t ht=>by simp [xN,tCls] at ht⟩
theorem Wa (hF:Fit L){DT:Nat->Tree}(hD:∀ n f,jg f (DT n))(n f:Nat):jg f (xk L len DT n):=by
 unfold xk;split
 ·exact hD n f
 ·split
  ·exact zcY hF n f
  ·split
   ·unfold oneT;split
    ·rename_i h;have:=V8 (L:=L) (len:=len) h;rw [this];exact sh_short h f
    ·exact zbb (escO_v hF n) f
   ·split
    ·exact sh_any f
    ·exact zbb (hF n) f
theorem termT_sh (hF:Fit L){D:Nat->Out}{DT:Nat->Tree}(hD:∀ n f,jg f (DT n))(n f:Nat):jg f (xO L len D DT n):=by
 unfold xO;split
 ·exact sh_asr _ f
 ·split
  ·exact Wa hF hD n f
  ·refine KI (by simp [tRep]) (fun t ht f=>?_) f;obtain rfl:t=xk L len DT n:=(by simpa [tRep] using ht);exact Wa hF hD n f
theorem JI (hF:Fit L){D:Nat->Out}{DT:Nat->Tree}(hD:∀ n f,jg f (DT n)):∀ (g:Nat) (ts:List Tree) (n:Nat),(∀ t∈ts,∀ f,jg f t)->∀ t∈xt L len D DT g ts n,∀ f,jg f t
 |0,_,_,h=>h
 |g+1,ts,n,h=>by
  unfold xt;split
  ·exact h
  ·refine JI hF hD g _ _ (fun t ht=>?_);rcases qe.1 ht with ht |ht
   ·exact h t ht
   ·obtain rfl:=xf.1 ht;exact fun f=>termT_sh hF hD n f
theorem zcZ (hF:Fit L){D:Nat->Out}{DT:Nat->Tree}(hD:∀ n f,jg f (DT n))(n f:Nat):jg f (yq L len D DT n):=
 KI (by simp [yq,tSeq]) (JI hF hD _ [] n (by simp)) f
theorem zbc (hF:Fit L){D:Nat->Out}{DT:Nat->Tree}(hD:∀ n f,jg f (DT n)):∀ (g:Nat) (ts:List Tree) (n:Nat),(∀ t∈ts,∀ f,jg f t)->∀ t∈altT L len D DT g ts n,∀ f,jg f t
 |0,_,_,h=>h
 |g+1,ts,n,h=>by
  have h2:∀ t∈ts++[yq L len D DT n],∀ f,jg f t:=fun t ht=>by
   rcases qe.1 ht with ht |ht
   ·exact h t ht
   ·obtain rfl:=xf.1 ht;exact fun f=>zcZ hF hD n f
  unfold altT;split
  ·exact zbc hF hD g _ _ h2
  ·exact h2
theorem zbd (hF:Fit L){D:Nat->Out}{DT:Nat->Tree}(hD:∀ n f,jg f (DT n))(n f:Nat):jg f (altQ L len D DT n):=
 KI (by simp [altQ,tAlt]) (zbc hF hD _ [] n (by simp)) f
theorem Wb (hF:Fit L):∀ (r n f:Nat),jg f (zH L len r n)
 |0,_,f=>sh_any f
 |r+1,_,f=>zbd hF (fun n f=>Wb hF r n f) _ f
theorem Yt (hF:Fit L)(r n f:Nat):jg f (altQ L len (zl L len r) (zH L len r) n):=zbd hF (fun n f=>Wb hF r n f) n f
end
end Pro
end
section
open Go.RowKit
set_option maxHeartbeats 4000000
set_option maxRecDepth 1000000
theorem Tryz.as00:(Instr.typeAssert (.iface 162 v) 99 162 true).run prog w = .ok (.tuple #[v,.bool true]) w:=by kernel_rfl
theorem Tryz.as01:(Instr.typeAssert (.iface 162 v) 99 246 true).run prog w = .ok (.tuple #[.agg #[],.bool false]) w:=by kernel_rfl
theorem Tryz.as02:(Instr.typeAssert (.iface 162 v) 99 247 true).run prog w = .ok (.tuple #[.int .i32 0,.bool false]) w:=by kernel_rfl
theorem Tryz.as03:(Instr.typeAssert (.iface 162 v) 99 248 true).run prog w = .ok (.tuple #[.int .i32 0,.bool false]) w:=by kernel_rfl
theorem Tryz.as04:(Instr.typeAssert (.iface 162 v) 99 252 true).run prog w = .ok (.tuple #[.agg #[.bool false,.slice none 0 0,.slice none 0 0],.bool false]) w:=by kernel_rfl
theorem Tryz.as10:(Instr.typeAssert (.iface 246 v) 99 162 true).run prog w = .ok (.tuple #[.int .i64 0,.bool false]) w:=by kernel_rfl
theorem Tryz.as11:(Instr.typeAssert (.iface 246 v) 99 246 true).run prog w = .ok (.tuple #[v,.bool true]) w:=by kernel_rfl
theorem Tryz.as12:(Instr.typeAssert (.iface 246 v) 99 247 true).run prog w = .ok (.tuple #[.int .i32 0,.bool false]) w:=by kernel_rfl
theorem Tryz.as13:(Instr.typeAssert (.iface 246 v) 99 248 true).run prog w = .ok (.tuple #[.int .i32 0,.bool false]) w:=by kernel_rfl
theorem Tryz.as14:(Instr.typeAssert (.iface 246 v) 99 252 true).run prog w = .ok (.tuple #[.agg #[.bool false,.slice none 0 0,.slice none 0 0],.bool false]) w:=by kernel_rfl
theorem Tryz.as20:(Instr.typeAssert (.iface 247 v) 99 162 true).run prog w = .ok (.tuple #[.int .i64 0,.bool false]) w:=by kernel_rfl
theorem Tryz.as21:(Instr.typeAssert (.iface 247 v) 99 246 true).run prog w = .ok (.tuple #[.agg #[],.bool false]) w:=by kernel_rfl
theorem Tryz.as22:(Instr.typeAssert (.iface 247 v) 99 247 true).run prog w = .ok (.tuple #[v,.bool true]) w:=by kernel_rfl
theorem Tryz.as23:(Instr.typeAssert (.iface 247 v) 99 248 true).run prog w = .ok (.tuple #[.int .i32 0,.bool false]) w:=by kernel_rfl
theorem Tryz.as24:(Instr.typeAssert (.iface 247 v) 99 252 true).run prog w = .ok (.tuple #[.agg #[.bool false,.slice none 0 0,.slice none 0 0],.bool false]) w:=by kernel_rfl
theorem Tryz.as30:(Instr.typeAssert (.iface 248 v) 99 162 true).run prog w = .ok (.tuple #[.int .i64 0,.bool false]) w:=by kernel_rfl
theorem Tryz.as31:(Instr.typeAssert (.iface 248 v) 99 246 true).run prog w = .ok (.tuple #[.agg #[],.bool false]) w:=by kernel_rfl
theorem Tryz.as32:(Instr.typeAssert (.iface 248 v) 99 247 true).run prog w = .ok (.tuple #[.int .i32 0,.bool false]) w:=by kernel_rfl
theorem Tryz.as33:(Instr.typeAssert (.iface 248 v) 99 248 true).run prog w = .ok (.tuple #[v,.bool true]) w:=by kernel_rfl
theorem Tryz.as34:(Instr.typeAssert (.iface 248 v) 99 252 true).run prog w = .ok (.tuple #[.agg #[.bool false,.slice none 0 0,.slice none 0 0],.bool false]) w:=by kernel_rfl
theorem Tryz.as40:(Instr.typeAssert (.iface 252 v) 99 162 true).run prog w = .ok (.tuple #[.int .i64 0,.bool false]) w:=by kernel_rfl
theorem Tryz.as41:(Instr.typeAssert (.iface 252 v) 99 246 true).run prog w = .ok (.tuple #[.agg #[],.bool false]) w:=by kernel_rfl
theorem Tryz.as42:(Instr.typeAssert (.iface 252 v) 99 247 true).run prog w = .ok (.tuple #[.int .i32 0,.bool false]) w:=by kernel_rfl
theorem Tryz.as43:(Instr.typeAssert (.iface 252 v) 99 248 true).run prog w = .ok (.tuple #[.int .i32 0,.bool false]) w:=by kernel_rfl
theorem Tryz.as44:(Instr.typeAssert (.iface 252 v) 99 252 true).run prog w = .ok (.tuple #[v,.bool true]) w:=by kernel_rfl
theorem Tryz.as50:(Instr.typeAssert (.iface 243 v) 99 162 true).run prog w = .ok (.tuple #[.int .i64 0,.bool false]) w:=by kernel_rfl
theorem Tryz.as51:(Instr.typeAssert (.iface 243 v) 99 246 true).run prog w = .ok (.tuple #[.agg #[],.bool false]) w:=by kernel_rfl
theorem Tryz.as52:(Instr.typeAssert (.iface 243 v) 99 247 true).run prog w = .ok (.tuple #[.int .i32 0,.bool false]) w:=by kernel_rfl
theorem Tryz.as53:(Instr.typeAssert (.iface 243 v) 99 248 true).run prog w = .ok (.tuple #[.int .i32 0,.bool false]) w:=by kernel_rfl
theorem Tryz.as54:(Instr.typeAssert (.iface 243 v) 99 252 true).run prog w = .ok (.tuple #[.agg #[.bool false,.slice none 0 0,.slice none 0 0],.bool false]) w:=by kernel_rfl
theorem Tryz.as55:(Instr.typeAssert (.iface 243 v) 99 243 true).run prog w = .ok (.tuple #[v,.bool true]) w:=by kernel_rfl
theorem Tryz.as60:(Instr.typeAssert (.iface 254 v) 99 162 true).run prog w = .ok (.tuple #[.int .i64 0,.bool false]) w:=by kernel_rfl
theorem Tryz.as61:(Instr.typeAssert (.iface 254 v) 99 246 true).run prog w = .ok (.tuple #[.agg #[],.bool false]) w:=by kernel_rfl
theorem Tryz.as62:(Instr.typeAssert (.iface 254 v) 99 247 true).run prog w = .ok (.tuple #[.int .i32 0,.bool false]) w:=by kernel_rfl
theorem Tryz.as63:(Instr.typeAssert (.iface 254 v) 99 248 true).run prog w = .ok (.tuple #[.int .i32 0,.bool false]) w:=by kernel_rfl
theorem Tryz.as64:(Instr.typeAssert (.iface 254 v) 99 252 true).run prog w = .ok (.tuple #[.agg #[.bool false,.slice none 0 0,.slice none 0 0],.bool false]) w:=by kernel_rfl
theorem Tryz.as65:(Instr.typeAssert (.iface 254 v) 99 243 true).run prog w = .ok (.tuple #[.slice none 0 0,.bool false]) w:=by kernel_rfl
theorem Tryz.as66:(Instr.typeAssert (.iface 254 v) 99 254 true).run prog w = .ok (.tuple #[v,.bool true]) w:=by kernel_rfl
theorem Tryz.as70:(Instr.typeAssert (.iface 256 v) 99 162 true).run prog w = .ok (.tuple #[.int .i64 0,.bool false]) w:=by kernel_rfl
theorem Tryz.as71:(Instr.typeAssert (.iface 256 v) 99 246 true).run prog w = .ok (.tuple #[.agg #[],.bool false]) w:=by kernel_rfl
theorem Tryz.as72:(Instr.typeAssert (.iface 256 v) 99 247 true).run prog w = .ok (.tuple #[.int .i32 0,.bool false]) w:=by kernel_rfl
theorem Tryz.as73:(Instr.typeAssert (.iface 256 v) 99 248 true).run prog w = .ok (.tuple #[.int .i32 0,.bool false]) w:=by kernel_rfl
theorem Tryz.as74:(Instr.typeAssert (.iface 256 v) 99 252 true).run prog w = .ok (.tuple #[.agg #[.bool false,.slice none 0 0,.slice none 0 0],.bool false]) w:=by kernel_rfl
theorem Tryz.as75:(Instr.typeAssert (.iface 256 v) 99 243 true).run prog w = .ok (.tuple #[.slice none 0 0,.bool false]) w:=by kernel_rfl
theorem Tryz.as76:(Instr.typeAssert (.iface 256 v) 99 254 true).run prog w = .ok (.tuple #[.slice none 0 0,.bool false]) w:=by kernel_rfl
theorem Tryz.as77:(Instr.typeAssert (.iface 256 v) 99 256 true).run prog w = .ok (.tuple #[v,.bool true]) w:=by kernel_rfl
theorem leaf_any (x:Value)(h:leafT T) :
  Calls prog 65 #[.iface T x] w fun e w'=>e = .returned (.int .i64 1)/\w'=w:=by
 rcases h with rfl |rfl |rfl |rfl |rfl
 ·have a0:=Tryz.as00;have a1:=Tryz.as01;have a2:=Tryz.as02;have a3:=Tryz.as03;have a4:=Tryz.as04;go_enter func65,ntmps65;go_wp2_with fail;go_ret;exact ⟨rfl,rfl⟩
 ·have a0:=Tryz.as10;have a1:=Tryz.as11;have a2:=Tryz.as12;have a3:=Tryz.as13;have a4:=Tryz.as14;go_enter func65,ntmps65;go_wp2_with fail;go_ret;exact ⟨rfl,rfl⟩
 ·have a0:=Tryz.as20;have a1:=Tryz.as21;have a2:=Tryz.as22;have a3:=Tryz.as23;have a4:=Tryz.as24;go_enter func65,ntmps65;go_wp2_with fail;go_ret;exact ⟨rfl,rfl⟩
 ·have a0:=Tryz.as30;have a1:=Tryz.as31;have a2:=Tryz.as32;have a3:=Tryz.as33;have a4:=Tryz.as34;go_enter func65,ntmps65;go_wp2_with fail;go_ret;exact ⟨rfl,rfl⟩
 ·have a0:=Tryz.as40;have a1:=Tryz.as41;have a2:=Tryz.as42;have a3:=Tryz.as43;have a4:=Tryz.as44;go_enter func65,ntmps65;go_wp2_with fail;go_ret;exact ⟨rfl,rfl⟩
def QH (f:Nat):Prop:=∀ (w:World) (A:Nat->Prop) (v:Value) (z:Int),ye f w A v z->Calls prog 65 #[v] w fun e w'=>e = .returned (.int .i64 z)/\Q8 w w'
theorem ye.drewN {f:Nat}{w:World}{A:Nat->Prop}{v:Value}{z:Int}(h:ye f w A v z)(q:Nat):ye f (w.drewN q) A v z:=ye.keep ((ze.refl (fun _=>False) w).drewN q) (fun _ _ f=>f) f v z h
theorem zbe (hf:QH f)(w:World)(A:Nat->Prop)(sv:Value)(xs:List Value)(zs:List Int)(hr:kI w A sv xs)(hx:xs.length<=1000)(hs:Sizes f w A xs zs) :
  Calls prog 115 #[sv] w fun e w'=>e = .returned (.int .i64 (Pro.sumS 0 zs))/\Q8 w w':=by
 have HS:=zc hs;have HF:=zc hf;have hzl:=hs.1;clear hs hf;rcases hr with ⟨rfl,rfl⟩ |⟨g,cap,rfl,hA,hc,hg,hcell⟩
 ·have hz:zs=[]:=qg (by simpa using hzl);subst hz;go_enter func115,ntmps115;go_wp2_with fail;refine wp_loop_rounds 1 ?_;rw [rounds_succ];go_wp2_with fail;go_ret;exact ⟨rfl,ze.refl _ _⟩
 ·have HC:=zc hcell;clear hcell;go_enter func115,ntmps115;go_wp2_with fail;go_loopw [3,8] (fun t i wr=>∃ (j:Nat),i = .int .i64 j/\j<=xs.length/\Q8 w wr/\0<=Pro.sumS 0 (zs.take j)/\Pro.sumS 0 (zs.take j)<=301/\t = .int .i64 (Pro.sumS 0 (zs.take j))) (fun _ i _=>xs.length-(intOf i).toNat)
  case atStart=>exact ⟨0,rfl,by omega,ze.refl _ _,by simp [Pro.sumS],by simp [Pro.sumS],by simp [Pro.sumS]⟩
  case round=>
   obtain ⟨j,rfl,hj,hO,ht0,ht1,rfl⟩:=hrel;by_cases hlt:j<xs.length
   ·have hx1:=zD hlt;have hz1:zs[j]?=some (zs[j]'(by omega)):=zD (by omega);have hcj:=(hO.cell (zE w _ (zb HC j xs[j] hx1)) (fun f=>f)).trans (zb HC j xs[j] hx1);have hsj:=ye.keep hO (fun _ _ f=>f) f _ _ ((zb HS).2 j xs[j] (zs[j]'(by omega)) hx1 hz1);have hbd:=ye.bd f _ _ hsj;have hst:zs.take (j+1)=zs.take j++[zs[j]'(by omega)]:=(by rw [vG,hz1];rfl);have Hst:=zc hst;have Hsj:=zc hsj;generalize hZ:zs[j]'(by omega)=Z at *;generalize hX:xs[j]=X at *;clear hx1 hz1 hst hsj hZ hX;go_wp2_with (go_at_call 65;refine (zb HF _ A X Z (zb Hsj)).mono ?_;rintro e w1 ⟨rfl,hO1⟩);have e1:Pro.sumS 0 (zs.take (j+1))=min (Pro.sumS 0 (zs.take j)+Z) 301:=(by rw [zb Hst,Pro.sumS_append]);exact ⟨⟨j+1,by go_num,by omega,hO.trans hO1,by rw [e1];omega,by rw [e1];omega,by rw [e1,show (if 301<Pro.sumS 0 (zs.take j)+Z then (301:Int) else Pro.sumS 0 (zs.take j)+Z)=min (Pro.sumS 0 (zs.take j)+Z) 301 by split<;>omega]⟩,by simp [intOf];omega⟩
   ·have HE:Hid (zs.take j=zs):=(by exact vd (by omega));go_wp2_with fail;go_ret;rw [zb HE];exact ⟨rfl,hO⟩
theorem sizes_bd {f:Nat}{w:World}{A:Nat->Prop}{xs:List Value}{zs:List Int}(h:Sizes f w A xs zs):0<=Pro.sumS 0 zs/\Pro.sumS 0 zs<=301:=by
 refine Pro.Yl zs 0 (by omega) (by omega) ?_;intro y hy;obtain ⟨j,hj⟩:=j5 hy;have hjl:j<xs.length:=by
  by_cases hlt:j<zs.length
  ·have:=h.1;omega
  ·rw [jF (by omega)] at hj;cases hj
 exact (ye.bd f _ _ (h.2 j xs[j] y (zD hjl) hj)).1
theorem zah {x y X Y:Int}(h0:0<=x)(h1:x<=X)(h2:0<=y)(h3:y<=Y):0<=x*y/\x*y<=X*Y:=by
 refine ⟨wg h0 h2,?_⟩;have a:=vz h1 h2;have b:=Int.mul_le_mul_of_nonneg_left h3 (show (0:Int)<=X by omega);omega
theorem QI (hf:QH f)(w:World)(A:Nat->Prop)(p:Value)(l m z:Int)(hs:ye f w A p z)(h0:0<=l)(h1:l<=100)(h2:-1<=m)(h3:m<=100)(h4:m = -1\/l<=m) :
  Calls prog 116 #[.agg #[p,.int .i64 l,.int .i64 m]] w fun e w'=>e = .returned (.int .i64 (Pro.repS z l m))/\Q8 w w':=by
 have hbd:=ye.bd f _ _ hs;have HS:=zc hs;have HF:=zc hf;clear hs hf;by_cases hm:m = -1
 ·have HR:Hid (Pro.repS z l m=max l 1*z+1):=by unfold Pro.repS;rw [if_pos hm];rfl
  have hmx:(if l<1 then (1:Int) else l)=max l 1:=by split<;>omega
  have hmm:=zah (x:=max l 1) (y:=z) (X:=100) (Y:=301) (by omega) (by omega) hbd.1 hbd.2;subst hm;go_enter func116,ntmps116;go_wp2_with (go_at_call 65;refine (zb HF _ A p z (ye.keep ((ze.refl (fun _=>False) w).alloc _) (fun _ _ f=>f) f _ _ (zb HS))).mono ?_;rintro e w1 ⟨rfl,hO1⟩;have r1:w1.cell? ⟨w.heap.size,1,none⟩=some (.int .i64 l):=zg hO1 _ _ (zm w _ rfl _ _ 1 _ rfl) (fun f=>f);have r2:w1.cell? ⟨w.heap.size,2,none⟩=some (.int .i64 (-1)):=zg hO1 _ _ (zm w _ rfl _ _ 2 _ rfl) (fun f=>f));go_ret;rw [zb HR];exact ⟨rfl,((ze.refl _ _).alloc _).trans hO1⟩
 ·have HR:Hid (Pro.repS z l m=l*z+(m-l)*(z+1)):=by unfold Pro.repS;rw [if_neg hm];rfl
  have hm':(m == -1)=false:=by simp [hm]
  have hm1:=zah (x:=l) (y:=z) (X:=100) (Y:=301) h0 h1 hbd.1 hbd.2;have hm2:=zah (x:=m-l) (y:=z+1) (X:=100) (Y:=302) (by omega) (by omega) (by omega) (by omega);go_enter func116,ntmps116;go_wp2_with (go_at_call 65;refine (zb HF _ A p z (ye.keep ((ze.refl (fun _=>False) w).alloc _) (fun _ _ f=>f) f _ _ (zb HS))).mono ?_;rintro e w1 ⟨rfl,hO1⟩;have r1:w1.cell? ⟨w.heap.size,1,none⟩=some (.int .i64 l):=zg hO1 _ _ (zm w _ rfl _ _ 1 _ rfl) (fun f=>f);have r2:w1.cell? ⟨w.heap.size,2,none⟩=some (.int .i64 m):=zg hO1 _ _ (zm w _ rfl _ _ 2 _ rfl) (fun f=>f));go_ret;rw [zb HR];exact ⟨rfl,((ze.refl _ _).alloc _).trans hO1⟩
theorem ye.form {f:Nat}{w:World}{A:Nat->Prop}{v:Value}{z:Int}(h:ye f w A v z):∃ T y,v = .iface T y:=by
 cases f with
 |zero=>exact h.elim
 |succ f=>
  rcases h with ⟨_,T,x,_,h⟩ |⟨sv,_,_,h,_⟩ |⟨sv,_,_,h,_⟩ |⟨p,l,m,_,h,_⟩
  ·exact ⟨_,_,h⟩
  ·exact ⟨_,_,h⟩
  ·exact ⟨_,_,h⟩
  ·exact ⟨_,_,h⟩
theorem zc0 (hf:QH f):QH (f+1):=by
 intro w A v z h;have hbd:=ye.bd _ _ _ h;rcases h with ⟨rfl,T,x,hl,rfl⟩ |⟨sv,xs,zs,rfl,h2,h0,h3,h4,h5,h6⟩ |⟨sv,xs,zs,rfl,h2,h0,h3,h4,h5⟩ |⟨p,l,m,z',rfl,h2,h3,h4,h5,h6,h7,h8⟩
 ·exact (leaf_any w T x hl).mono (by rintro e w1 ⟨rfl,rfl⟩;exact ⟨rfl,ze.refl _ _⟩)
 ·have hsum:=zbe f hf w A sv xs zs h2 h0 ⟨h3,h4⟩;have HSum:=zc hsum;have hsb:0<=Pro.sumS 0 zs/\Pro.sumS 0 zs<=301:=sizes_bd ⟨h3,h4⟩;obtain ⟨sa,sc,rfl⟩:∃ sa sc,sv = .slice sa xs.length sc:=by
   rcases h2 with ⟨rfl,rfl⟩ |⟨g,cap,rfl,_⟩
   ·exact ⟨_,_,rfl⟩
   ·exact ⟨_,_,rfl⟩
  clear hsum h2 h4 hf;have a0:=Tryz.as50;have a1:=Tryz.as51;have a2:=Tryz.as52;have a3:=Tryz.as53;have a4:=Tryz.as54;have a5:=Tryz.as55;go_enter func65,ntmps65;go_wp2_with (go_at_call 115;refine (zb HSum).mono ?_;rintro e w1 ⟨rfl,hO1⟩)
  all_goals
   go_ret;exact ⟨xB (by omega),hO1⟩
 ·have hsum:=zbe f hf w A sv xs zs h2 h0 ⟨h3,h4⟩;have HSum:=zc hsum;clear hsum h2 h4 hf;have a0:=Tryz.as60;have a1:=Tryz.as61;have a2:=Tryz.as62;have a3:=Tryz.as63;have a4:=Tryz.as64;have a5:=Tryz.as65;have a6:=Tryz.as66;go_enter func65,ntmps65;go_wp2_with (go_at_call 115;refine (zb HSum).mono ?_;rintro e w1 ⟨rfl,hO1⟩);go_ret;rw [h5];exact ⟨rfl,hO1⟩
 ·obtain ⟨TT,px,rfl⟩:=ye.form h2;have HF:=zc hf;have HS:=zc h2;have hz:=ye.bd f _ _ h2;have hnn:=Pro.XJ (z:=z') hz.1 h3 h7;clear h2 hf;have a0:=Tryz.as70;have a1:=Tryz.as71;have a2:=Tryz.as72;have a3:=Tryz.as73;have a4:=Tryz.as74;have a5:=Tryz.as75;have a6:=Tryz.as76;have a7:=Tryz.as77;go_enter func65,ntmps65;go_wp2_with (go_at_call 116;refine (QI f (zb HF) _ A (.iface TT px) l m z' (ye.keep ((ze.refl (fun _=>False) w).alloc _) (fun _ _ f=>f) f _ _ (zb HS)) h3 h4 h5 h6 h7).mono ?_;rintro e w1 ⟨rfl,hO1⟩)
  all_goals
   go_ret;exact ⟨xB (by omega),((ze.refl _ _).alloc _).trans hO1⟩
theorem Wc:∀ f,QH f
 |0=>fun _ _ _ _ h=>h.elim
 |f+1=>zc0 f (Wc f)
theorem qO (w:World)(A:Nat->Prop)(v:Value)(z:Int)(h:ye f w A v z) :
  Calls prog 36 #[v] w fun e w'=>e = .returned (.int .i64 (min (z+1) 301))/\Q8 w w':=by
 have hbd:=ye.bd _ _ _ h;have H:=zc h;clear h;go_enter func36,ntmps36;go_wp2_with (go_at_call 65;refine (Wc f _ A v z (zb H)).mono ?_;rintro e w1 ⟨rfl,hO1⟩)
 all_goals
  go_ret;exact ⟨xB (by omega),hO1⟩
end
section
open Sm (Tree)
namespace Pro
def jh:Nat->Tree->Prop
 |0,_=>True
 |f+1,T=>(T.kind=4->T.rs.length<=1000/\T.ss.length<=1000)/\∀ t∈T.kids,jh f t
section
variable {L:List (Int×Int)} {len:Int}
theorem addR_ln (n:Nat)(R:List (Int×Int)):(addR L len n R).length<=R.length+1:=by
 unfold addR;split
 ·simp
 ·split<;>simp
theorem addS_ln (n:Nat)(S:List Int):(addS L len n S).length<=S.length+1:=by
 unfold addS;split
 ·simp
 ·split<;>simp
theorem JO:∀ (f n:Nat) (R:List (Int×Int)) (S:List Int),(xM L len f n R S).1.length<=R.length+f/\(xM L len f n R S).2.length<=S.length+f
 |0,_,R,S=>⟨z8 _,z8 _⟩
 |f+1,n,R,S=>by
  unfold xM;split
  ·exact ⟨Nat.le_add_right _ _,Nat.le_add_right _ _⟩
  ·have h1:=addR_ln (L:=L) (len:=len) n R;have h2:=addS_ln (L:=L) (len:=len) n S;have h3:=JO f (addO L len n).n (addR L len n R) (addS L len n S);omega
theorem zbj (c:Int):∀ f,jh f (qK c)
 |0=>trivial
 |f+1=>⟨fun e=>by simp [qK] at e,fun t ht=>by simp [qK] at ht⟩
theorem ln_short (c:Int):∀ f,jh f (xV c)
 |0=>trivial
 |f+1=>⟨fun e=>by simp [xV] at e,fun t ht=>by simp [xV] at ht⟩
theorem ln_any:∀ f,jh f tAny
 |0=>trivial
 |f+1=>⟨fun e=>by simp [tAny] at e,fun t ht=>by simp [tAny] at ht⟩
theorem ln_asr (a:Int):∀ f,jh f (tAsr a)
 |0=>trivial
 |f+1=>⟨fun e=>by simp [tAsr] at e,fun t ht=>by simp [tAsr] at ht⟩
theorem KK {T:Tree}(hk:5<=T.kind)(h:∀ t∈T.kids,∀ f,jh f t):∀ f,jh f T
 |0=>trivial
 |f+1=>⟨fun e=>by omega,fun t ht=>h t ht f⟩
theorem zc3 (hL:L.length<=400)(n:Nat):∀ f,jh f (xN L len n)
 |0=>trivial
 |f+1=>⟨fun _=>by
   have:=JO (L:=L) (len:=len) (L.length+1-n) (if zf L (n+1)=94 then n+2 else n+1) [] [];simp only [jU] at this;simp only [xN,tCls];omega,fun t ht=>by simp [xN,tCls] at ht⟩
theorem Wj (hL:L.length<=400){DT:Nat->Tree}(hD:∀ n f,jh f (DT n))(n f:Nat):jh f (xk L len DT n):=by
 unfold xk;split
 ·exact hD n f
 ·split
  ·exact zc3 hL n f
  ·split
   ·unfold oneT;split
    ·exact ln_short _ f
    ·exact zbj _ f
   ·split
    ·exact ln_any f
    ·exact zbj _ f
theorem termT_ln (hL:L.length<=400){D:Nat->Out}{DT:Nat->Tree}(hD:∀ n f,jh f (DT n))(n f:Nat):jh f (xO L len D DT n):=by
 unfold xO;split
 ·exact ln_asr _ f
 ·split
  ·exact Wj hL hD n f
  ·refine KK (by simp [tRep]) (fun t ht f=>?_) f;obtain rfl:t=xk L len DT n:=(by simpa [tRep] using ht);exact Wj hL hD n f
theorem JP (hL:L.length<=400){D:Nat->Out}{DT:Nat->Tree}(hD:∀ n f,jh f (DT n)):∀ (g:Nat) (ts:List Tree) (n:Nat),(∀ t∈ts,∀ f,jh f t)->∀ t∈xt L len D DT g ts n,∀ f,jh f t
 |0,_,_,h=>h
 |g+1,ts,n,h=>by
  unfold xt;split
  ·exact h
  ·refine JP hL hD g _ _ (fun t ht=>?_);rcases qe.1 ht with ht |ht
   ·exact h t ht
   ·obtain rfl:=xf.1 ht;exact fun f=>termT_ln hL hD n f
theorem zc4 (hL:L.length<=400){D:Nat->Out}{DT:Nat->Tree}(hD:∀ n f,jh f (DT n))(n f:Nat):jh f (yq L len D DT n):=
 KK (by simp [yq,tSeq]) (JP hL hD _ [] n (by simp)) f
theorem zbk (hL:L.length<=400){D:Nat->Out}{DT:Nat->Tree}(hD:∀ n f,jh f (DT n)):∀ (g:Nat) (ts:List Tree) (n:Nat),(∀ t∈ts,∀ f,jh f t)->∀ t∈altT L len D DT g ts n,∀ f,jh f t
 |0,_,_,h=>h
 |g+1,ts,n,h=>by
  have h2:∀ t∈ts++[yq L len D DT n],∀ f,jh f t:=fun t ht=>by
   rcases qe.1 ht with ht |ht
   ·exact h t ht
   ·obtain rfl:=xf.1 ht;exact fun f=>zc4 hL hD n f
  unfold altT;split
  ·exact zbk hL hD g _ _ h2
  ·exact h2
theorem zbl (hL:L.length<=400){D:Nat->Out}{DT:Nat->Tree}(hD:∀ n f,jh f (DT n))(n f:Nat):jh f (altQ L len D DT n):=
 KK (by simp [altQ,tAlt]) (zbk hL hD _ [] n (by simp)) f
theorem Wk (hL:L.length<=400):∀ (r n f:Nat),jh f (zH L len r n)
 |0,_,f=>ln_any f
 |r+1,_,f=>zbl hL (fun n f=>Wk hL r n f) _ f
theorem Yv (hL:L.length<=400)(r n f:Nat):jh f (altQ L len (zl L len r) (zH L len r) n):=zbl hL (fun n f=>Wk hL r n f) n f
end
end Pro
end
end Go.Proofs.YtcgleficedipkaaGreatDoor
