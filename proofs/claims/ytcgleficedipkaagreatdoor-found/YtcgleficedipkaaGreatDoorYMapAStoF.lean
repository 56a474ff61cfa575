/- Maps as lists of entries: what a look-up tells, what a store and clear turn. -/
import Derived.Maps.OwnSet
import Derived.Test.YtcgleficedipkaaGreatDoorYFndEFndI
import Derived.Maps.AppendAt
import Derived.Carry
namespace Go.Proofs.YtcgleficedipkaaGreatDoor
variable {w:World}{b:Nat}(sb pb mb most st i:Nat){w1 wr w':World}{es:List (Value×Value)}
section
open Go.RowKit
def qy (w:World)(b:Nat)(es:List (Value×Value)):Prop:=∃ arr clock,w.heap[b]?=some (.map arr clock)/\arr.toList.map (fun e=>(e.key,e.val))=es
theorem qy.lt (h:qy w b es):b<w.heap.size:=by
 obtain ⟨arr,clock,h1,_⟩:=h;exact (yK.1 h1).1
theorem qy.keep {P:Nat->Prop}{w w':World}{b:Nat}{es:List (Value×Value)}(h:qy w b es)(k:ze P w w')(hn:¬P b):qy w' b es:=by
 have hl:=h.lt;obtain ⟨arr,clock,h1,h2⟩:=h;exact ⟨arr,clock,(k.block b hl hn).trans h1,h2⟩
theorem qy.made (w:World)(n:Nat)(hn:w.heap.size=n):qy (w.alloc (.map #[] 0)) n []:=by
 subst hn;exact ⟨#[],0,(MapKept.heap_alloc w _).1,rfl⟩
theorem qy.noCell (h:qy w b es)(o:Nat):w.cell? ⟨b,o,none⟩=none:=by
 obtain ⟨arr,clock,h1,_⟩:=h;simp [World.cell?,h1]
theorem Jk {P:Program}{w:World}{t k e:TypeId}{d:TypeDesc}{z key:Value}{b:Nat}{es:List (Value×Value)}(ht:P.underlying t=some (.map k e))(hk:P.underlying k=some d)(hz:(zeroValue e).run P w = .ok z w)(hm:qy w b es)(hes:∀ p∈es,MapKept.IsKey d p.1)(hkey:MapKept.IsKey d key) :
  (∃ v,(key,v)∈es/\(Instr.lookup t (.map (some b)) key true).run P w = .ok (.tuple #[v,.bool true]) w)\/((∀ p∈es,p.1≠key)/\(Instr.lookup t (.map (some b)) key true).run P w = .ok (.tuple #[z,.bool false]) w):=by
 obtain ⟨arr,clock,hb,he⟩:=hm;have hks:∀ x∈arr.toList,MapKept.IsKey d x.key:=fun x hx=>hes (x.key,x.val) (by rw [<-he];exact Yn (f:=fun e:MapEntry=>(e.key,e.val)) hx);rcases MapKept.findNow_spec hkey arr.toList 0 hks with ⟨h1,h2⟩ |⟨j,x,h1,h2,h3⟩
 ·refine .inr ⟨fun p hp=>?_,?_⟩
  ·rw [<-he] at hp;obtain ⟨x,hx,rfl⟩:=Zz.1 hp;exact h2 x hx
  ·simp [Instr.lookup,run_underlying ht,MapKept.run_getObj_map hb,MapKept.run_checkKey hk hkey,MapKept.run_findKey hk h1,hz,Result.andThen]
 ·refine .inl ⟨x.val,?_,?_⟩
  ·rw [<-he];exact Zz.2 ⟨x,xP h2,by rw [h3]⟩
  ·simp [Instr.lookup,run_underlying ht,MapKept.run_getObj_map hb,MapKept.run_checkKey hk hkey,MapKept.run_findKey hk h1,Result.andThen]
theorem Xh (o:Obj):ze (zt b) w { w with heap:=w.heap.setIfInBounds b o }:=
 ⟨rfl,rfl,rfl,by simp,fun k _ hn=>by
  have hne:k≠b:=hn;simp [Ne.symm hne]⟩
theorem WS {P:Program}{w:World}{t k e:TypeId}{d:TypeDesc}{key val:Value}{b:Nat}{es:List (Value×Value)}(ht:P.underlying t=some (.map k e))(hk:P.underlying k=some d)(hm:qy w b es)(hes:∀ p∈es,MapKept.IsKey d p.1)(hkey:MapKept.IsKey d key)(hnew:∀ p∈es,p.1≠key) :
  ∃ w',(Instr.mapUpdate t (.map (some b)) key val).run P w = .ok () w'/\qy w' b (es++[(key,val)])/\ze (zt b) w w':=by
 obtain ⟨arr,clock,hb,he⟩:=hm;have hks:∀ x∈arr.toList,MapKept.IsKey d x.key:=fun x hx=>hes (x.key,x.val) (by rw [<-he];exact Yn (f:=fun e:MapEntry=>(e.key,e.val)) hx);rcases MapKept.findNow_spec hkey arr.toList 0 hks with ⟨h1,h2⟩ |⟨j,x,h1,h2,h3⟩
 ·refine ⟨{ w with heap:=w.heap.setIfInBounds b (.map (arr.push { key:=key,val:=val,born:=clock }) (clock+1)) },?_,⟨_,_,(MapKept.heap_set hb).1,?_⟩,Xh _⟩
  ·simp [Instr.mapUpdate,run_underlying ht,MapKept.run_getObj_map hb,MapKept.run_checkKey hk hkey,MapKept.run_findKey hk h1,MapKept.run_setObj_map _ hb,Result.andThen]
  ·simp [<-he]
 ·refine absurd h3 (hnew (x.key,x.val) ?_);rw [<-he];exact Yn (f:=fun e:MapEntry=>(e.key,e.val)) (xP h2)
theorem WT {P:Program}{w:World}{t k e ty:TypeId}{b:Nat}{es:List (Value×Value)}(ht:P.underlying t=some (.map k e))(hm:qy w b es) :
  ∃ w',(Builtin.clear_ #[t] ty #[.map (some b)]).run P w = .ok (.tuple #[]) w'/\qy w' b []/\ze (zt b) w w':=by
 obtain ⟨arr,clock,hb,he⟩:=hm;refine ⟨{ w with heap:=w.heap.setIfInBounds b (.map #[] clock) },?_,⟨_,_,(MapKept.heap_set hb).1,?_⟩,Xh _⟩
 ·simp [Builtin.clear_,run_underlying ht,MapKept.run_getObj_map hb,MapKept.run_setObj_map _ hb,Result.andThen]
 ·simp
section
variable {P:Program} (w:World) {ops:Array Oper} {rest:List Oper} {o:Oper} {a:Act} {Q:Exit->Act->World->Prop}
theorem Ql (hg:o.guard=none)(m x:Operand)(t:TypeId)(hop:o.op=Op.lookup t m x true)(b:Nat)(hm:a.eval m = .map (some b))(key:Value)(hx:a.eval x=key)(v:Value)
  (hrun:(Instr.lookup t (.map (some b)) key true).run P w = .ok v w)
  (hK:wpList P ops Q rest (a.put o.dst v) w):wpList P ops Q (o :: rest) a w:=by
 refine wpList_plain hg fun K' hK'=>?_;unfold Oper.wp;simp [execOp,hop,hm,hx,hrun,Result.andThen];exact hK' _ _ hK
theorem Zj (hg:o.guard=none)(m x v:Operand)(t:TypeId)(hop:o.op=Op.mapUpdate t m x v)(k e:TypeId)(d:TypeDesc)(ht:P.underlying t=some (.map k e))(hk:P.underlying k=some d)(b:Nat)(es:List (Value×Value))(hm:a.eval m = .map (some b))(key val:Value)(hx:a.eval x=key)(hv:a.eval v=val)(hown:qy w b es)(hes:∀ p∈es,MapKept.IsKey d p.1)(hkey:MapKept.IsKey d key)(hnew:∀ p∈es,p.1≠key)
  (hK:∀ w',qy w' b (es++[(key,val)])->ze (zt b) w w'->wpList P ops Q rest (a.put o.dst undef) w') :
  wpList P ops Q (o :: rest) a w:=by
 refine wpList_plain hg fun K' hK'=>?_;obtain ⟨w',hrun,r1,r2⟩:=WS (val:=val) ht hk hown hes hkey hnew;unfold Oper.wp;simp [execOp,hop,hm,hx,hv,hrun,Result.andThen];exact hK' _ _ (hK w' r1 r2)
end
open Sm (Stp Tree)
structure Ent where
 s:Fnd.St
 pv:Value
 nb:Nat
def entC (e:Ent):List Value:=[e.pv,.bool e.s.b,.bool e.s.w,.map (some e.nb)]
def xX (es:List Ent):List Value:=es.flatMap entC
theorem Xu (l m:List Ent):xX (l++m)=xX l++xX m:=by simp [xX]
theorem Xi:∀ (es:List Ent) (i:Nat) (e:Ent),es[i]?=some e->∀ k,k<4->(xX es)[i*4+k]?=(entC e)[k]?
 | [],i,e,h,_,_=>by simp at h
 |x :: r,0,e,h,k,hk=>by
  simp at h;subst h;simp only [xX,YI,Qk,jY];rw [qh (by simp [entC];omega)]
 |x :: r,i+1,e,h,k,hk=>by
  have h2:=Xi r i e (by simpa using h) k hk;simp only [xX,YI] at h2 ⊢;rw [jj (by simp [entC];omega)];rw [<-h2];congr 1;simp [entC];omega
def keyV (s:Fnd.St):Value:=.string ⟨(Fnd.keyS s.b s.w s.ps).toArray⟩
theorem keyV_inj {s s':Fnd.St}(h:keyV s=keyV s'):s=s':=by
 unfold keyV at h;have h1:Fnd.keyS s.b s.w s.ps=Fnd.keyS s'.b s'.w s'.ps:=by simpa using h
 obtain ⟨a,b,c⟩:=Fnd.keyS_inj h1;cases s;cases s';simp at a b c;rw [a,b,c]
def nums (es:List Ent):List (Value×Value):=es.mapIdx (fun i e=>(keyV e.s,.int .i64 (i:Nat)))
theorem Vr {es:List Ent}{k v:Value}(h:(k,v)∈nums es):∃ (i:Nat) (e:Ent),es[i]?=some e/\k=keyV e.s/\v = .int .i64 (i:Nat):=by
 obtain ⟨i,hi,e⟩:=List.mem_iff_getElem.1 h;simp [nums] at hi e;exact ⟨i,es[i],zD hi,e.1.symm,e.2.symm⟩
theorem zck (es:List Ent)(e:Ent):nums (es++[e])=nums es++[(keyV e.s,.int .i64 (es.length:Nat))]:=by simp [nums,List.mapIdx_append]
theorem Vs {es:List Ent}:∀ p∈nums es,MapKept.IsKey .string p.1:=fun p hp=>by
 obtain ⟨i,e,_,h,_⟩:=Vr (k:=p.1) (v:=p.2) hp;rw [h];simp [keyV,MapKept.IsKey]
theorem YL {base n size:Nat}{T:TypeId}{v:Value}{ms:List (Value×Value)}{xs:List Value}(h:qy w b ms)(r:w.ownsRow base T size v n xs):v.ownBlock≠some b:=by
 obtain ⟨arr,clock,h1,_⟩:=h;intro e;rcases r.2 with ⟨rfl,_⟩ |⟨g,cap,cur,rfl,_,hg,_⟩
 ·cases e
 ·simp [Value.ownBlock] at e;subst e;rw [h1] at hg;cases hg
theorem Vt {sb o:Nat}{v:Value}{ms:List (Value×Value)}(h:qy w b ms)(c:w.cell? ⟨sb,o,none⟩=some v):b≠sb:=fun e=>by
 subst e;rw [h.noCell] at c;cases c
def Ways (X:Fnd.St->Nat->Fnd.St->Prop)(es:List Ent)(s:Fnd.St)(ms:List (Value×Value)):Prop:=∀ p∈ms,∃ (g j:Nat) (f:Ent),p=(.int .i64 (g:Nat),.int .i64 (j:Nat))/\es[j]?=some f/\X s g f.s
theorem Ways.key {X:Fnd.St->Nat->Fnd.St->Prop}{es:List Ent}{s:Fnd.St}{ms:List (Value×Value)}(h:Ways X es s ms):∀ p∈ms,MapKept.IsKey (.int .i64) p.1:=fun p hp=>by
 obtain ⟨g,j,f,rfl,_⟩:=h p hp;simp [MapKept.IsKey]
structure Sto (w:World)(O D:Nat->Prop)(sb pb mb most:Nat)(N:List Stp)(X:Fnd.St->Nat->Fnd.St->Prop)(es:List Ent)(sv:Value):Prop where
 c0:w.cell? ⟨sb,0,none⟩=some (.pointer (some ⟨pb,0,none⟩))
 c1:w.cell? ⟨sb,1,none⟩=some (.int .i64 (most:Nat))
 c2:w.cell? ⟨sb,2,none⟩=some sv
 c3:w.cell? ⟨sb,3,none⟩=some (.map (some mb))
 f2:w.frozen? ⟨sb,2,none⟩=false
 row:w.ownsRow 0 197 4 sv es.length (xX es)
 rown:∀ g,sv.ownBlock=some g->O g/\g≠sb
 num:qy w mb (nums es)
 osb:O sb
 omb:O mb
 ent:∀ e∈es,O e.nb/\e.nb≠mb/\jf w D e.pv e.s.ps/\e.s.OK N/\∃ ms,qy w e.nb ms/\Ways X es e.s ms
 nd:es.Pairwise (fun a b=>a.nb≠b.nb)
 olt:∀ g,O g->g<w.heap.size
 dlt:∀ g,D g->g<w.heap.size
 dis:∀ g,D g->¬O g
section
variable {w w':World} {O D:Nat->Prop} {sb pb mb most:Nat} {N:List Stp} {X:Fnd.St->Nat->Fnd.St->Prop} {es:List Ent} {sv:Value}
theorem Sto.keep {P:Nat->Prop}(h:Sto w O D sb pb mb most N X es sv)(k:ze P w w')(hO:∀ g,O g->¬P g)(hD:∀ g,D g->¬P g):Sto w' O D sb pb mb most N X es sv where
 c0:=zg k _ _ h.c0 (hO _ h.osb)
 c1:=zg k _ _ h.c1 (hO _ h.osb)
 c2:=zg k _ _ h.c2 (hO _ h.osb)
 c3:=zg k _ _ h.c3 (hO _ h.osb)
 f2:=zP k _ (h.olt _ h.osb) h.f2 (hO _ h.osb)
 row:=zn h.row k (fun g hg=>hO g (h.rown g hg).1)
 rown:=h.rown
 num:=h.num.keep k (hO _ h.omb)
 osb:=h.osb
 omb:=h.omb
 ent:=fun e he=>by
  obtain ⟨h1,h2,h3,h4,ms,h5,h6⟩:=h.ent e he;exact ⟨h1,h2,h3.keep k hD,h4,ms,h5.keep k (hO _ h1),h6⟩
 nd:=h.nd
 olt:=fun g hg=>yh (h.olt g hg) k.size
 dlt:=fun g hg=>yh (h.dlt g hg) k.size
 dis:=h.dis
theorem Sto.young (h:Sto w O D sb pb mb most N X es sv)(k:Q8 w w'):Sto w' O D sb pb mb most N X es sv:=h.keep k (fun _ _ f=>f) (fun _ _ f=>f)
theorem Sto.get (h:Sto w O D sb pb mb most N X es sv){i:Nat}{e:Ent}(hi:es[i]?=some e):∃ g cap,sv = .slice (some ⟨g,0,none⟩) es.length cap/\w.cell? ⟨g,i*4,none⟩=some e.pv/\w.cell? ⟨g,i*4+1,none⟩=some (.bool e.s.b)/\w.cell? ⟨g,i*4+2,none⟩=some (.bool e.s.w)/\w.cell? ⟨g,i*4+3,none⟩=some (.map (some e.nb)):=by
 have hil:=(yd.1 hi).1;have hc:=@World.ownsRow.cells w 0 197 4 _ _ _ h.row;rcases h.row.2 with ⟨_,h2⟩ |⟨g,cap,cur,rfl,_⟩
 ·omega
 ·have key:∀ k v,k<4->(entC e)[k]?=some v->w.cell? ⟨g,i*4+k,none⟩=some v:=fun k v hk hv=>by
   have:=hc (g:=g) rfl (i*4+k) v (by rw [Xi es i e hi k hk];exact hv);have e0:(⟨g,0,none⟩:Addr).add (i*4+k)=⟨g,i*4+k,none⟩:=(by unfold Addr.add;split<;>simp_all);rw [e0] at this;exact this
  exact ⟨g,cap,rfl,key 0 _ (by omega) rfl,key 1 _ (by omega) rfl,key 2 _ (by omega) rfl,key 3 _ (by omega) rfl⟩
theorem Sto.slice (h:Sto w O D sb pb mb most N X es sv):∃ a c,sv = .slice a es.length c:=by
 rcases h.row.2 with ⟨rfl,h2⟩ |⟨g,cap,cur,rfl,_⟩
 ·exact ⟨none,0,by rw [h2]⟩
 ·exact ⟨_,_,rfl⟩
theorem Sto.nbRow (h:Sto w O D sb pb mb most N X es sv){e:Ent}(he:e∈es):sv.ownBlock≠some e.nb/\e.nb≠sb:=by
 obtain ⟨_,_,_,_,ms,h5,_⟩:=h.ent e he;exact ⟨YL h5 h.row,Vt h5 h.c0⟩
theorem Sto.mbRow (h:Sto w O D sb pb mb most N X es sv):sv.ownBlock≠some mb/\mb≠sb:=⟨YL h.num h.row,Vt h.num h.c0⟩
theorem Sto.push {E:Nat->Prop}{sv':Value}{e:Ent}(h:Sto w O D sb pb mb most N X es sv)(k:ze (fun g=>g=sb\/g=mb\/sv.ownBlock=some g) w w')
  (c0:w'.cell? ⟨sb,0,none⟩=some (.pointer (some ⟨pb,0,none⟩))) (c1:w'.cell? ⟨sb,1,none⟩=some (.int .i64 (most:Nat))) (c2:w'.cell? ⟨sb,2,none⟩=some sv') (c3:w'.cell? ⟨sb,3,none⟩=some (.map (some mb))) (f2:w'.frozen? ⟨sb,2,none⟩=false)
  (row:w'.ownsRow 0 197 4 sv' (es.length+1) (xX es++entC e)) (sep:∀ g,sv'.ownBlock=some g->sv.ownBlock=some g\/w.heap.size<=g) (num:qy w' mb (nums es++[(keyV e.s,.int .i64 (es.length:Nat))]))
  (hnb:w.heap.size<=e.nb) (hnew:qy w' e.nb []) (hpl:jf w E e.pv e.s.ps) (hE:∀ g,E g->¬O g/\g<w.heap.size) (hok:e.s.OK N) :
  Sto w' (fun g=>O g\/g=e.nb\/sv'.ownBlock=some g) (fun g=>D g\/E g) sb pb mb most N X (es++[e]) sv':=by
 have hsb:=h.olt _ h.osb;have hmb:=h.olt _ h.omb;have hnD:∀ g,D g\/E g->¬(g=sb\/g=mb\/sv.ownBlock=some g):=fun g hg hp=>by
  have hno:¬O g:=hg.elim (h.dis g) (fun q=>(hE g q).1);rcases hp with rfl |rfl |hp
  ·exact hno h.osb
  ·exact hno h.omb
  ·exact hno (h.rown g hp).1
 have hnew2:∀ g,sv'.ownBlock=some g->O g\/w.heap.size<=g:=fun g hg=>(sep g hg).imp (fun q=>(h.rown g q).1) id;refine ⟨c0,c1,c2,c3,f2,?_,fun g hg=>⟨.inr (.inr hg),?_⟩,?_,.inl h.osb,.inl h.omb,fun x hx=>?_,?_,fun g hg=>?_,fun g hg=>?_,fun g hg hp=>?_⟩
 ·rw [yS,Xu];simp only [xX,YI,List.flatMap_nil,kT,qH,jU];exact row
 ·rcases sep g hg with q |q
  ·exact (h.rown g q).2
  ·omega
 ·rw [zck];exact num
 ·rcases qe.1 hx with hx |hx
  ·obtain ⟨h1,h2,h3,h4,ms,h5,h6⟩:=h.ent x hx;obtain ⟨n1,n2⟩:=h.nbRow hx;refine ⟨.inl h1,h2,(h3.mono (fun g hg=>.inl hg)).keep k (fun g hg=>hnD g hg),h4,ms,h5.keep k (fun q=>?_),fun p hp=>?_⟩
   ·rcases q with q |q |q
    ·exact n2 q
    ·exact h2 q
    ·exact n1 q
   ·obtain ⟨g,j,f,e1,e2,e3⟩:=h6 p hp;exact ⟨g,j,f,e1,by rw [qh (yd.1 e2).1];exact e2,e3⟩
  ·obtain rfl:=xf.1 hx;exact ⟨.inr (.inl rfl),by omega,(hpl.mono (fun g hg=>.inr hg)).keep k (fun g hg=>hnD g hg),hok,[],hnew,fun p hp=>by cases hp⟩
 ·refine YJ.2 ⟨h.nd,by simp,fun a ha b hb=>?_⟩;obtain rfl:=xf.1 hb;have:=h.olt _ (h.ent a ha).1;omega
 ·rcases hg with hg |rfl |hg
  ·exact yh (h.olt g hg) k.size
  ·exact hnew.lt
  ·exact (zh row g hg).2
 ·rcases hg with hg |hg
  ·exact yh (h.dlt g hg) k.size
  ·exact yh (hE g hg).2 k.size
 ·have hno:¬O g:=hg.elim (h.dis g) (fun q=>(hE g q).1);have hlt:g<w.heap.size:=hg.elim (h.dlt g) (fun q=>(hE g q).2);rcases hp with hp |rfl |hp
  ·exact hno hp
  ·omega
  ·rcases hnew2 g hp with q |q
   ·exact hno q
   ·omega
theorem Sto.clear (h:Sto w O D sb pb mb most N X es sv)(k:ze (fun g=>g=sb\/g=mb) w w')
  (c0:w'.cell? ⟨sb,0,none⟩=some (.pointer (some ⟨pb,0,none⟩))) (c1:w'.cell? ⟨sb,1,none⟩=some (.int .i64 (most:Nat))) (c2:w'.cell? ⟨sb,2,none⟩=some (.slice none 0 0)) (c3:w'.cell? ⟨sb,3,none⟩=some (.map (some mb))) (f2:w'.frozen? ⟨sb,2,none⟩=false) (num:qy w' mb []) :
  Sto w' O D sb pb mb most N X [] (.slice none 0 0):=
 ⟨c0,c1,c2,c3,f2,qD _ _ _ _,fun g hg=>(by cases hg),num,h.osb,h.omb,fun e he=>(by cases he),List.Pairwise.nil,fun g hg=>yh (h.olt g hg) k.size,fun g hg=>yh (h.dlt g hg) k.size,h.dis⟩
theorem Sto.way {i j g:Nat}{e f:Ent}{ms:List (Value×Value)}(h:Sto w O D sb pb mb most N X es sv)(hi:es[i]?=some e)(hj:es[j]?=some f)(hX:X e.s g f.s)(hw:Ways X es e.s ms)(k:ze (zt e.nb) w w')(hm:qy w' e.nb (ms++[(.int .i64 (g:Nat),.int .i64 (j:Nat))])) :
  Sto w' O D sb pb mb most N X es sv:=by
 have he:=xP hi;obtain ⟨o1,o2,_⟩:=h.ent e he;obtain ⟨n1,n2⟩:=h.nbRow he;have hne:∀ q,q≠e.nb->¬zt e.nb q:=fun q hq f=>hq f;refine ⟨zg k _ _ h.c0 (hne _ n2.symm),zg k _ _ h.c1 (hne _ n2.symm),zg k _ _ h.c2 (hne _ n2.symm),zg k _ _ h.c3 (hne _ n2.symm),zP k _ (h.olt _ h.osb) h.f2 (hne _ n2.symm),zn h.row k (fun q hq f=>?_),h.rown,h.num.keep k (hne _ o2.symm),h.osb,h.omb,fun x hx=>?_,h.nd,fun q hq=>yh (h.olt q hq) k.size,fun q hq=>yh (h.dlt q hq) k.size,h.dis⟩
 ·have e1:q=e.nb:=f;subst e1;exact n1 hq
 ·obtain ⟨h1,h2,h3,h4,ms',h5,h6⟩:=h.ent x hx;have h3':=h3.keep k (fun q hq f=>h.dis q hq (by have e1:q=e.nb:=f;rw [e1];exact o1));by_cases hxe:x.nb=e.nb
  ·have hxi:x=e:=by
    obtain ⟨n,hn,rfl⟩:=List.mem_iff_getElem.1 hx;obtain ⟨hil,rfl⟩:=yd.1 hi;rcases Nat.lt_trichotomy n i with q |q |q
    ·exact absurd hxe (Zs.1 h.nd n i hn hil q)
    ·subst q;rfl
    ·exact absurd hxe.symm (Zs.1 h.nd i n hil hn q)
   subst hxi;refine ⟨h1,h2,h3',h4,_,hm,fun p hp=>?_⟩;rcases qe.1 hp with hp |hp
   ·exact hw p hp
   ·obtain rfl:=xf.1 hp;exact ⟨g,j,f,rfl,hj,hX⟩
  ·exact ⟨h1,h2,h3',h4,ms',h5.keep k (hne _ hxe),h6⟩
end
set_option maxHeartbeats 4000000
set_option maxRecDepth 100000
theorem Tryz.infoState:(Tryz.prog.info? 197).map (fun i=>(i.zero,i.size,i.bytes))=some (some (.agg #[.slice none 0 0,.bool false,.bool false,.map none]),4,40):=by kernel_rfl
theorem four_new (W:World)(n:Nat)(hn:W.heap.size=n)(a b c d:Value)(T:TypeId):∀ j u,[a,b,c,d][j]?=some u->(W.alloc (.cells #[a,b,c,d] T)).cell? ((⟨n,0,none⟩:Addr).add j)=some u:=by
 intro j u hj;have e0:(⟨n,0,none⟩:Addr).add j=⟨n,j,none⟩:=by unfold Addr.add;split<;>simp_all
 rw [e0];exact zm W n hn _ _ _ _ (by simpa using hj)
section
variable {w w':World} {O D:Nat->Prop} {sb pb mb most:Nat} {N:List Stp} {X:Fnd.St->Nat->Fnd.St->Prop} {es:List Ent} {sv:Value}
theorem Sto.more {D':Nat->Prop}(h:Sto w O D sb pb mb most N X es sv)(hD:∀ g,D g->D' g)(hd:∀ g,D' g->¬O g/\g<w.heap.size):Sto w O D' sb pb mb most N X es sv:=
 { h with ent:=fun e he=>(by obtain ⟨h1,h2,h3,h4⟩:=h.ent e he;exact ⟨h1,h2,h3.mono hD,h4⟩),dlt:=fun g hg=>(hd g hg).2,dis:=fun g hg=>(hd g hg).1 }
end
theorem live_any (O D:Nat->Prop)(N:List Stp)(X:Fnd.St->Nat->Fnd.St->Prop)(es:List Ent)(sv:Value)(w:World)(h:Sto w O D sb pb mb most N X es sv) :
  Calls Tryz.prog 61 #[.pointer (some ⟨sb,0,none⟩)] w fun x w'=>x = .returned (.int .i64 (es.length:Nat))/\w'=w:=by
 have h2:=h.c2;obtain ⟨a,c,rfl⟩:=h.slice;clear h;go_enter Tryz.func61,Tryz.ntmps61;go_wp2_with fail;go_ret;exact ⟨rfl,rfl⟩
theorem wi (O D:Nat->Prop)(N:List Stp)(X:Fnd.St->Nat->Fnd.St->Prop)(es:List Ent)(sv:Value)(w:World)(h:Sto w O D sb pb mb most N X es sv) :
  Calls Tryz.prog 76 #[.pointer (some ⟨sb,0,none⟩)] w fun x w'=>x = .returned (.bool (decide (most<=es.length)))/\Q8 w w':=by
 have h1:=h.c1;have h2:=h.c2;obtain ⟨a,c,rfl⟩:=h.slice;clear h;go_enter Tryz.func76,Tryz.ntmps76;go_wp2_with fail;go_region;go_wp2_with fail;go_ret;exact ⟨rfl,by first |exact (ze.refl _ _).drewN _ |exact (ze.refl _ _).drew |exact ze.refl _ _⟩
theorem Jl (O D:Nat->Prop)(N:List Stp)(X:Fnd.St->Nat->Fnd.St->Prop)(es:List Ent)(sv:Value)(w:World)(h:Sto w O D sb pb mb most N X es sv) :
  Calls Tryz.prog 77 #[.pointer (some ⟨sb,0,none⟩)] w fun x w'=>x = .returned (.tuple #[])/\Sto w' O D sb pb mb most N X [] (.slice none 0 0)/\ze O w w':=by
 have h2:=h.c2;have h3:=h.c3;have f2:=h.f2;have hms:=(h.mbRow).2;have hnum:=h.num.keep (P:=fun k=>k=sb) ((ze.refl (fun k=>k=sb) w).setCell (p:=⟨sb,2,none⟩) (.inl rfl) (.slice none 0 0)) hms;obtain ⟨w1,hrun,hm1,hO1⟩:=WT (P:=Tryz.prog) (ty:=0) Tryz.underlying176 hnum;have HM1:=zc hm1;have HO1:=zc hO1;have H:=zc h;have k3:(w.setCell ⟨sb,2,none⟩ (.slice none 0 0)).cell? ⟨sb,3,none⟩=some (.map (some mb)):=(zF _ _ _ _ (by simp)).trans h3;clear h hnum hm1 hO1;go_enter Tryz.func77,Tryz.ntmps77;go_wp2_with fail
 go_end0
 have k1:ze (fun g=>g=sb\/g=mb) w w1:=(((ze.refl _ w).setCell (p:=⟨sb,2,none⟩) (.inl (.inl rfl)) (.slice none 0 0))).trans ((zb HO1).mono (fun k _ hk=>.inr hk));have hne:¬zt mb sb:=fun e=>hms e.symm;have hh:=zb H;refine ⟨rfl,hh.clear k1 ?_ ?_ ?_ ?_ ?_ (zb HM1),k1.mono (fun k _ hk=>by rcases hk with rfl |rfl;exact hh.osb;exact hh.omb)⟩
 ·exact zg (zb HO1) _ _ ((zF _ _ _ _ (by simp)).trans hh.c0) hne
 ·exact zg (zb HO1) _ _ ((zF _ _ _ _ (by simp)).trans hh.c1) hne
 ·exact zg (zb HO1) _ _ (yY _ _ _ h2) hne
 ·exact zg (zb HO1) _ _ k3 hne
 ·exact zP (zb HO1) _ (by rw [World.size_setCell];exact zE w _ h2) ((zk _ _ _ _).trans f2) hne
def Tch (sb mb:Nat)(sv:Value)(g:Nat):Prop:=g=sb\/g=mb\/sv.ownBlock=some g
theorem Sto.tch {O D:Nat->Prop}{sb pb mb most:Nat}{N:List Stp}{X:Fnd.St->Nat->Fnd.St->Prop}{es:List Ent}{sv:Value}(h:Sto w O D sb pb mb most N X es sv){g:Nat}(hg:Tch sb mb sv g):O g:=by
 rcases hg with rfl |rfl |hg
 ·exact h.osb
 ·exact h.omb
 ·exact (h.rown g hg).1
theorem push_fin {w2 w4 w6:World}{O D E:Nat->Prop}{sb pb mb most:Nat}{N:List Stp}{X:Fnd.St->Nat->Fnd.St->Prop}{es:List Ent}{sv sv' pv:Value}{s:Fnd.St}(H2:Sto w2 O D sb pb mb most N X es sv)(hO:Q8 w w2)(hE:∀ g,E g->¬O g/\g<w.heap.size)(hpl:jf w E pv s.ps)(hok:s.OK N)
  (hW4:ze (fun k=>sv.ownBlock=some k) w2 w4) (hR4:w4.ownsRow 0 197 4 sv' (es.length+1) (xX es++[pv,.bool s.b,.bool s.w,.map (some w2.heap.size)])) (hSe:∀ g,sv'.ownBlock=some g->sv.ownBlock=some g\/w2.heap.size<=g) (hNew:qy w4 w2.heap.size [])
  (hm6:qy w6 mb (nums es++[(keyV s,.int .i64 (es.length:Nat))])) (hO6:ze (zt mb) (w4.setCell ⟨sb,2,none⟩ sv') w6) :
  ∃ (i:Nat) (e:Ent) (es':List Ent) (sv9:Value) (O':Nat->Prop),Ending.returned (.int .i64 (es.length:Nat)) = .returned (.int .i64 (i:Nat))/\es'[i]?=some e/\e.s=s/\Sto w6 O' (fun g=>D g\/E g) sb pb mb most N X es' sv9/\(es'=es\/∃ e',es'=es++[e'])/\(∀ g,O g->O' g)/\(∀ g,O' g->O g\/w.heap.size<=g)/\ze (Tch sb mb sv) w w6:=by
 have hsb:=H2.olt _ H2.osb;have hmb:=H2.olt _ H2.omb;have hms:=H2.mbRow.2;have hrs:¬sv.ownBlock=some sb:=fun e=>(H2.rown sb e).2 rfl;have hnum4:qy w4 mb (nums es):=H2.num.keep hW4 H2.mbRow.1;have hrm4:=YL hnum4 hR4;have hrs4:∀ g,sv'.ownBlock=some g->g≠sb:=fun g hg=>by
  rcases hSe g hg with q |q
  ·exact (H2.rown g q).2
  ·omega
 have kS:ze (fun k=>k=sb) w4 (w4.setCell ⟨sb,2,none⟩ sv'):=(ze.refl (fun k=>k=sb) w4).setCell (p:=⟨sb,2,none⟩) (.inl rfl) _;have hne:¬zt mb sb:=fun e=>hms e.symm;have m2:=zg hW4 _ _ H2.c2 hrs;have kA:ze (fun g=>g=sb\/g=mb\/sv.ownBlock=some g) w2 w6:=((hW4.mono (fun k _ hk=>.inr (.inr hk))).trans (kS.mono (fun k _ hk=>.inl hk))).trans (hO6.mono (fun k _ hk=>.inr (.inl hk)));have hs6:=hO6.size;have hs2:=hO.size;have key:=H2.push (E:=E) (sv':=sv') (e:=⟨s,pv,w2.heap.size⟩) kA
  (zg hO6 _ _ ((zF _ _ _ _ (by simp)).trans (zg hW4 _ _ H2.c0 hrs)) hne) (zg hO6 _ _ ((zF _ _ _ _ (by simp)).trans (zg hW4 _ _ H2.c1 hrs)) hne)
  (zg hO6 _ _ (yY _ _ _ m2) hne) (zg hO6 _ _ ((zF _ _ _ _ (by simp)).trans (zg hW4 _ _ H2.c3 hrs)) hne)
  (zP hO6 _ (by rw [World.size_setCell];exact zE w4 _ m2) ((zk _ _ _ _).trans (zP hW4 _ hsb H2.f2 hrs)) hne)
  (zn (zn hR4 kS (fun g hg e=>hrs4 g hg e)) hO6 (fun g hg e=>hrm4 (by have e1:g=mb:=e;rw [<-e1];exact hg))) hSe hm6 (z8 _)
  ((hNew.keep kS (fun e=>by omega)).keep hO6 (fun e=>by have e1:w2.heap.size=mb:=e;omega)) (hpl.keep hO (fun _ _ f=>f)) (fun g hg=>⟨(hE g hg).1,yh (hE g hg).2 hs2⟩) hok
 refine ⟨es.length,⟨s,pv,w2.heap.size⟩,_,_,_,rfl,by simp,rfl,key,.inr ⟨_,rfl⟩,fun g hg=>.inl hg,fun g hg=>?_,(hO.mono (fun _ _ f=>f.elim)).trans (kA.mono (fun k _ hk=>hk))⟩
 ·rcases hg with hg |rfl |hg
  ·exact .inl hg
  ·exact .inr hs2
  ·rcases hSe g hg with q |q
   ·exact .inl (H2.rown g q).1
   ·exact .inr (by omega)
theorem wj (O D E:Nat → Prop)(N:List Stp)(X:Fnd.St → Nat → Fnd.St → Prop)(es:List Ent)(sv pv:Value)(s:Fnd.St)(w:World)(h:Sto w O D sb pb mb most N X es sv)(hE:∀ g, E g → ¬ O g ∧ g < w.heap.size)(hpl:jf w E pv s.ps)(hok:s.OK N)(hN:N.length ≤ 300)(hl:es.length ≤ 1000)(htab:Lib.TabIs Tryz.prog w "internal/strconv.uint64pow10" .u64 Lib.pow10Tab) :
  Calls Tryz.prog 78 #[.pointer (some ⟨sb,0,none⟩),stV pv s.b s.w] w fun x w'=>∃ (i:Nat) (e:Ent) (es':List Ent) (sv':Value) (O':Nat->Prop),x = .returned (.int .i64 (i:Nat))/\es'[i]?=some e/\e.s=s/\Sto w' O' (fun g=>D g\/E g) sb pb mb most N X es' sv'/\(es'=es\/∃ e',es'=es++[e'])/\(∀ g,O g->O' g)/\(∀ g,O' g->O g\/w.heap.size<=g)/\ze (Tch sb mb sv) w w':=by
 obtain ⟨i0,hi0,hz0,hz1,hz2⟩:=info_parts Tryz.infoState;obtain ⟨pa,pc,rfl⟩:=hpl.slice;obtain ⟨ra,rc,rfl⟩:=h.slice;have HO1:Hid (Q8 w (w.alloc (.cells #[.slice pa s.ps.length pc,.bool s.b,.bool s.w] 190))):=(ze.refl _ _).alloc _;have hlen:=hok.len;have HKey:=zc (key_any _ s.b s.w s.ps _ ((hpl.int).keep (zb HO1)) hok.ne (by omega) (fun p hp=>by have:=hok.lt p hp;omega) (Lib.tabBelow_of_tabIs htab _ (zb HO1).belowB));have hz:∀ w,(zeroValue 3).run Tryz.prog w = .ok (.int .i64 0) w:=fun w=>by kernel_rfl
 have H1:=zc (h.young (zb HO1));have HE:=zc hE;have HP:=zc hpl;have HOK:=zc hok;have hsz1:(w.alloc (.cells #[.slice pa s.ps.length pc,.bool s.b,.bool s.w] 190)).heap.size=w.heap.size+1:=yX _ _;have HC:Hid ((w.alloc (.cells #[.slice pa s.ps.length pc,.bool s.b,.bool s.w] 190)).cell? ⟨w.heap.size,0,none⟩=some (.slice pa s.ps.length pc)/\(w.alloc (.cells #[.slice pa s.ps.length pc,.bool s.b,.bool s.w] 190)).cell? ⟨w.heap.size,1,none⟩=some (.bool s.b)/\(w.alloc (.cells #[.slice pa s.ps.length pc,.bool s.b,.bool s.w] 190)).cell? ⟨w.heap.size,2,none⟩=some (.bool s.w)):=⟨zm w _ rfl _ _ 0 _ rfl,zm w _ rfl _ _ 1 _ rfl,zm w _ rfl _ _ 2 _ rfl⟩
 have H:=zc h;unfold stV;clear h hE hpl hok htab;have hmm:=@run_makeMap Tryz.prog;go_enter Tryz.func78,Tryz.ntmps78;go_wp2_with (first
  |(go_at_call 129;refine (zb HKey).mono ?_;rintro e w2 ⟨rfl,hO2⟩;refine zb ?_))
 refine zc ?_;have h2:=(zb H1).young hO2;have hO02:=(zb HO1).trans hO2;obtain ⟨d0,d1,d2⟩:=zb HC;have d0:=zg hO2 _ _ d0 (fun f=>f);have d1:=zg hO2 _ _ d1 (fun f=>f);have d2:=zg hO2 _ _ d2 (fun f=>f);have c2:=h2.c2;have c3:=h2.c3;rcases Jk (P:=Tryz.prog) (w:=w2) (t:=176) (k:=9) (e:=3) (d:=.string) (z:=.int .i64 0) (key:=keyV s) (b:=mb) Tryz.underlying176 Tryz.underlying9 (hz w2) h2.num Vs (by simp [keyV,MapKept.IsKey]) with ⟨v,hv,hrun⟩ |⟨hno,hrun⟩
 ·obtain ⟨i,e,hi,hk,rfl⟩:=Vr hv;have hes:e.s=s:=(keyV_inj hk).symm;have HF:Hid (Sto w2 O (fun g=>D g\/E g) sb pb mb most N X es (.slice ra es.length rc)):=h2.more (fun g hg=>.inl hg) (fun g hg=>hg.elim (fun q=>⟨h2.dis g q,h2.dlt g q⟩) (fun q=>⟨(zb HE g q).1,yh (zb HE g q).2 hO02.size⟩));have HO:=zc hO02;have HI:=zc hi;have HS:=zc hes;clear h2 hO02 hi hes hk hv hO2 d0 d1 d2;unfold keyV at hrun;go_wp2_with (at_lookup;refine Ql _ rfl _ _ 176 rfl mb rfl _ rfl _ hrun ?_);go_ret;exact ⟨i,e,es,_,O,rfl,zb HI,zb HS,zb HF,.inl rfl,fun g hg=>hg,fun g hg=>.inl hg,(zb HO).mono (fun _ _ f=>f.elim)⟩
 ·have HNo:=zc hno;have H2:=zc h2;have HO:=zc hO02;have HRow:=zc h2.row;have f2:=h2.f2;have hsbl:=h2.olt _ h2.osb;have hrs:=fun g hg=>(h2.rown g hg).2;have hrm:=(h2.mbRow).1;clear h2 hO02 hO2 hno;have kA:Q8 w2 (w2.alloc (.map #[] 0)):=(ze.refl _ _).alloc _;have a0:=zg kA _ _ d0 (fun f=>f);have a1:=zg kA _ _ d1 (fun f=>f);have a2:=zg kA _ _ d2 (fun f=>f);have a3:=zg kA _ _ c2 (fun f=>f);clear kA;unfold keyV at hrun;go_wp2_with fail;go_region_law (refine jL rfl (.tmp 31) (.tmp 35) 177 rfl 0 197 i0 (.agg #[.slice none 0 0,.bool false,.bool false,.map none]) 4 40 Tryz.underlying177 hi0 hz0 hz1 hz2 rfl (by decide) (.slice ra es.length rc) _ (xX es) (by simp [Act.eval]) (zn (zb HRow) (P:=fun _=>False) (by repeat (first |refine ze.alloc ?_ _ |refine ze.drew ?_ |refine ze.drewN ?_ _ |exact ze.refl _ _)) (fun _ _ f=>f)) ⟨w2.heap.size+1,0,none⟩ 1 1 [.slice pa s.ps.length pc,.bool s.b,.bool s.w,.map (some w2.heap.size)] (by simp [Act.eval]) rfl (four_new _ (w2.heap.size+1) (by simp) _ _ _ _ _) (fun u hu=>by simp at hu;rcases hu with rfl |rfl |rfl |rfl<;>rfl) (by decide) (by unfold maxLen;omega) (by omega) (by simp) ?_;intro v' w4 hown' hgrow hsep;obtain ⟨ya,yn,yc,rfl⟩:=zy hown';have oW:ze (fun k=>(Value.slice ra es.length rc).ownBlock=some k) w2 w4:=ze.grown (by repeat (first |exact ze.refl _ _ |refine ze.alloc ?_ _ |refine ze.drew ?_ |refine ze.drewN ?_ _)) hgrow (fun k hk=>.inl hk);have m2:=(oW.cell (p:=⟨sb,2,none⟩) hsbl (fun e=>hrs sb e rfl)).trans c2;have m3:=(oW.cell (p:=⟨sb,3,none⟩) hsbl (fun e=>hrs sb e rfl)).trans c3;have m0:=(oW.frozen (p:=⟨sb,2,none⟩) hsbl (fun e=>hrs sb e rfl)).trans f2;have HNew:Hid (qy w4 w2.heap.size []):=(by first |exact (qy.made w2 _ rfl).keep (ze.grown (by repeat (first |exact ze.refl _ _ |refine ze.alloc ?_ _ |refine ze.drew ?_ |refine ze.drewN ?_ _)) hgrow (fun k hk=>.inl hk)) (fun e=>by have:=(zh (zb HRow) _ e).2;omega) |exact (qy.made w2.drew _ rfl).keep (ze.grown (by repeat (first |exact ze.refl _ _ |refine ze.alloc ?_ _ |refine ze.drew ?_ |refine ze.drewN ?_ _)) hgrow (fun k hk=>.inl hk)) (fun e=>by have:=(zh (zb HRow) _ e).2;omega));have HW4:=zc oW;have HR4:=zc hown';have HSe:Hid (∀ g,(Value.slice ya yn yc).ownBlock=some g->(Value.slice ra es.length rc).ownBlock=some g\/w2.heap.size<=g):=(fun g hg=>(hsep g hg).imp_right (fun q=>by simp at q;omega));clear oW hown' hgrow hsep)
  all_goals
   have hyn:yn=es.length+1:=(by rcases (zb HR4).2 with ⟨e1,e2⟩ |⟨g',cap',cur,e1,_⟩<;>cases e1<;>first |rfl |omega);subst hyn;have hms:=(zb H2).mbRow.2;have HM5:Hid (qy (w4.setCell ⟨sb,2,none⟩ (.slice ya (es.length+1) yc)) mb (nums es)):=((zb H2).num.keep (zb HW4) hrm).keep ((ze.refl (fun k=>k=sb) w4).setCell (p:=⟨sb,2,none⟩) (.inl rfl) _) hms;have m3':(w4.setCell ⟨sb,2,none⟩ (.slice ya (es.length+1) yc)).cell? ⟨sb,3,none⟩=some (.map (some mb)):=(zF _ _ _ _ (by simp)).trans m3;clear a0 a1 a2 a3 d0 d1 d2 c2 c3 hrun f2 m3 m0;go_wp2_with (at_mapUpdate;refine Zj _ rfl _ _ _ 176 rfl 9 3 .string Tryz.underlying176 Tryz.underlying9 mb (nums es) rfl (keyV s) (.int .i64 (es.length:Nat)) rfl rfl (zb HM5) Vs (by simp [keyV,MapKept.IsKey]) (zb HNo) ?_;intro w6 hm6 hO6;have HM6:=zc hm6;have HO6:=zc hO6;clear hm6 hO6);go_ret;exact push_fin (zb H2) (zb HO) (zb HE) (zb HP) (zb HOK) (zb HW4) (zb HR4) (zb HSe) (zb HNew) (zb HM6) (zb HO6)
structure ProgX (w:World)(A:Nat->Prop)(pb:Nat)(N:List Stp)(st:Nat)(W:Int->Bool)(cs:List Int):Prop where
 at':xi w A pb N st W
 cut:vZ w A pb cs
 up:cs.Pairwise (· < ·)
 bd:∀ x∈cs,0<=x/\x<=1114112
 al:∀ c d,Fnd.grp cs c=Fnd.grp cs d->W c=W d/\∀ s∈N,Prg.setP s c=Prg.setP s d
theorem ProgX.keep {P A:Nat->Prop}{w w':World}{pb st:Nat}{N:List Stp}{W:Int->Bool}{cs:List Int}(h:ProgX w A pb N st W cs)(k:ze P w w')(hn:∀ g,A g->¬P g):ProgX w' A pb N st W cs:=
 ⟨h.at'.keep k hn,h.cut.keep k hn h.at'.own,h.up,h.bd,h.al⟩
def xA (N:List Stp)(st:Nat)(W:Int->Bool)(cs:List Int)(s:Fnd.St)(g:Nat)(s':Fnd.St):Prop:=∀ c,Fnd.grp cs c=g->s'=Fnd.aft N st W s c
def TabAt (w : World) : Prop := Lib.TabIs Tryz.prog w "internal/strconv.uint64pow10" .u64 Lib.pow10Tab
theorem tabNo : Tryz.prog.globalNamed "internal/strconv.uint64pow10" = some 11 := by kernel_rfl
theorem TabAt.lt (h:TabAt w):11<w.heap.size:=by
 unfold TabAt Lib.TabIs World.var? at h;rw [tabNo] at h;simp only [Option.bind_some] at h;rcases YF 11 w.heap.size with h' |h'
 ·exact h'
 ·rw [Array.getElem?_eq_none h'] at h;simp at h
theorem TabAt.keep {P:Nat->Prop}{w w':World}(h:TabAt w)(k:ze P w w')(hn:¬P 11):TabAt w':=by
 have hlt:=h.lt;unfold TabAt Lib.TabIs World.var? at h ⊢;rw [tabNo] at h ⊢;simp only [Option.bind_some] at h ⊢;rw [k.block _ hlt hn];exact h
structure Env (w:World)(A O:Nat->Prop)(pb:Nat)(N:List Stp)(st:Nat)(W:Int->Bool)(cs:List Int):Prop where
 prog:ProgX w A pb N st W cs
 tab:TabAt w
 ao:∀ g,A g->¬O g
 ot:∀ g,O g->g≠11
 alt:∀ g,A g->g<w.heap.size
theorem Env.keep {A O O':Nat->Prop}{w w':World}{pb st:Nat}{N:List Stp}{W:Int->Bool}{cs:List Int}(h:Env w A O pb N st W cs)(k:ze O w w')(hO:∀ g,O' g->O g\/w.heap.size<=g):Env w' A O' pb N st W cs:=
 ⟨h.prog.keep k h.ao,h.tab.keep k (fun q=>h.ot _ q rfl),fun g hg q=>(hO g q).elim (h.ao g hg) (fun q=>by have:=h.alt g hg;omega),fun g hg e=>(hO g hg).elim (fun q=>h.ot g q e) (fun q=>by have:=h.tab.lt;omega),fun g hg=>yh (h.alt g hg) k.size⟩
theorem Env.young {A O:Nat->Prop}{w w':World}{pb st:Nat}{N:List Stp}{W:Int->Bool}{cs:List Int}(h:Env w A O pb N st W cs)(k:Q8 w w'):Env w' A O pb N st W cs:=h.keep (k.mono (fun _ _ f=>f.elim)) (fun _ hg=>.inl hg)
theorem jf.bound {A:Nat->Prop}{w:World}{v:Value}{ps:List Nat}(h:jf w A v ps)(hp:0<ps.length):jf w (fun g=>A g/\g<w.heap.size) v ps:=by
 obtain ⟨g,cap,h1,h2,h3,h4⟩:=h;exact ⟨g,cap,h1,h2,⟨h3,zE w _ (h4 0 _ (zD hp))⟩,h4⟩
def Leaves (w w':World)(O D:Nat->Prop)(sb pb mb most:Nat)(N:List Stp)(X:Fnd.St->Nat->Fnd.St->Prop)(s:Fnd.St)(lim:Nat)(x:Ending):Prop:=
 ∃ (j:Nat) (e:Ent) (es':List Ent) (sv':Value) (O' D':Nat->Prop),x = .returned (.int .i64 (j:Nat))/\es'[j]?=some e/\e.s=s/\Sto w' O' D' sb pb mb most N X es' sv'/\es'.length<=lim/\(∀ g,O' g->O g\/w.heap.size<=g)/\(∀ g,D' g->D g\/w.heap.size<=g)/\ze O w w'
theorem jr (A O D:Nat->Prop)(N:List Stp)(W:Int->Bool)(cs:List Int)(es:List Ent)(sv:Value)(e:Ent)(c:Int)(w:World)(hV:Env w A O pb N st W cs)(h:Sto w O D sb pb mb most N (xA N st W cs) es sv)(hi:es[i]?=some e)(hl:es.length<=1000) :
  Calls Tryz.prog 81 #[.pointer (some ⟨sb,0,none⟩),.int .i64 (i:Nat),.int .i32 c] w fun x w'=>Leaves w w' O D sb pb mb most N (xA N st W cs) (Fnd.aft N st W e.s c) (es.length+1) x:=by
 obtain ⟨g,cap,rfl,r0,r1,r2,r3⟩:=h.get hi;have hil:i<es.length:=(yd.1 hi).1;have c0:=h.c0;have c2:=h.c2;obtain ⟨o1,o2,hpl,hok,ms,hmap,hways⟩:=h.ent e (xP hi);have hgr:=zbO pb cs c A w hV.prog.cut hV.prog.up hV.prog.bd;have HGr:=zc hgr;have hz:∀ w,(zeroValue 3).run Tryz.prog w = .ok (.int .i64 0) w:=fun w=>by kernel_rfl
 have b1:(0:Int)<=(i:Int):=by omega
 have b2:(i:Int)<(es.length:Int):=by omega
 obtain ⟨pa,pc,hpe⟩:=hpl.slice;rcases Jk (P:=Tryz.prog) (w:=w) (t:=195) (k:=3) (e:=3) (d:=.int .i64) (z:=.int .i64 0) (key:=.int .i64 (Fnd.grp cs c:Nat)) (b:=e.nb) Tryz.underlying195 Tryz.underlying3 (hz w) hmap hways.key (by simp [MapKept.IsKey]) with ⟨v,hv,hrun⟩ |⟨hno,hrun⟩
 ·obtain ⟨g9,j,f,e1,e2,e3⟩:=hways _ hv;simp only [Prod.mk.injEq] at e1;obtain ⟨e1a,rfl⟩:=e1;have hg9:Fnd.grp cs c=g9:=by have h9:((Fnd.grp cs c:Nat):Int)=(g9:Nat):=(by simpa using e1a);omega
  have HF:Hid (Leaves w w O D sb pb mb most N (xA N st W cs) (Fnd.aft N st W e.s c) (es.length+1) (.returned (.int .i64 (j:Nat)))):=⟨j,f,es,_,O,D,rfl,e2,e3 c hg9,h,by omega,fun g hg=>.inl hg,fun g hg=>.inl hg,ze.refl _ _⟩
  clear h hV hpl hok hmap hways hv hgr e2 e3 hi e1a hg9;go_enter Tryz.func81,Tryz.ntmps81;go_wp2_with (go_at_call 130;refine Q7 (zb HGr) ?_);go_ret;exact zb HF
 ·have HAf:Hid (∀ V,Q8 w V->Calls Tryz.prog 131 #[.pointer (some ⟨pb,0,none⟩),.agg #[e.pv,.bool e.s.b,.bool e.s.w],.int .i32 c] V fun x w'=>∃ sv',x = .returned (.agg #[sv',.bool (Fnd.aft N st W e.s c).b,.bool (Fnd.aft N st W e.s c).w])/\jf w' (fun g=>V.heap.size<=g) sv' (Fnd.aft N st W e.s c).ps/\Q8 V w'):=fun V hV9=>zbU pb st N W e.pv e.s c A V (hV.prog.at'.keep hV9 (fun _ _ f=>f)) (hpl.int.keep hV9) hok;have H:=zc h;have HV:=zc hV;have HNo:=zc hno;have HM:=zc hmap;have HW:=zc hways;have HI:=zc hi;have HO2:=zc o2;have HNl:=zc hV.prog.at'.len;have hAok:(Fnd.aft N st W e.s c).OK N:=Fnd.aft_ok W e.s c hV.prog.at'.stl;have HAok:=zc hAok;have HAl:Hid (∀ s',s'=Fnd.aft N st W e.s c->xA N st W cs e.s (Fnd.grp cs c) s'):=fun s' hs c' hc'=>by
   obtain ⟨a1,a2⟩:=hV.prog.al c' c hc';rw [hs];exact (Fnd.aft_alike a1 a2).symm
  rw [hpe] at r0 HAf;generalize Fnd.aft N st W e.s c=T at HAf HAok HAl ⊢;generalize hgc:Fnd.grp cs c=gc at HGr HNo HAl hrun;clear h hV hpl hok hmap hways hgr hno hi hAok hpe o1 o2 hgc;go_enter Tryz.func81,Tryz.ntmps81;have HSn:Hid (∀ w1 sv1,Q8 w w1->jf w1 (fun g=>w.heap.size<=g) sv1 T.ps->Calls Tryz.prog 78 #[.pointer (some ⟨sb,0,none⟩),.agg #[sv1,.bool T.b,.bool T.w]] w1 fun x w'=>∃ (i:Nat) (e:Ent) (es':List Ent) (sv':Value) (O':Nat->Prop),x = .returned (.int .i64 (i:Nat))/\es'[i]?=some e/\e.s=T/\Sto w' O' (fun g=>D g\/(w.heap.size<=g/\g<w1.heap.size)) sb pb mb most N (xA N st W cs) es' sv'/\(es'=es\/∃ e',es'=es++[e'])/\(∀ g,O g->O' g)/\(∀ g,O' g->O g\/w1.heap.size<=g)/\ze (Tch sb mb (.slice (some ⟨g,0,none⟩) es.length cap)) w1 w'):=fun w1 sv1 hO1 hp1=>
   wj sb pb mb most O D (fun g=>w.heap.size<=g/\g<w1.heap.size) N (xA N st W cs) es _ sv1 T w1 ((zb H).young hO1) (fun g hg=>⟨fun q=>by have:=(zb H).olt g q;omega,hg.2⟩) (hp1.bound (zb HAok).ne) (zb HAok) (zb HNl) hl ((zb HV).young hO1).tab
  go_wp2_with (go_at_call 130;refine Q7 (zb HGr) ?_);go_region_with (first
   |(go_at_call 131;refine (zb HAf _ (by repeat (first |exact ze.refl _ _ |refine ze.alloc ?_ _ |refine ze.drew ?_ |refine ze.drewN ?_ _))).mono ?_;rintro e9 w1 ⟨sv1,rfl,hp1,hO1⟩;obtain ⟨xa,xc,rfl⟩:=hp1.slice;have HO1:Hid (Q8 w w1):=ze.trans (by repeat (first |exact ze.refl _ _ |refine ze.alloc ?_ _ |refine ze.drew ?_ |refine ze.drewN ?_ _)) hO1;have HP1:Hid (jf w1 (fun g=>w.heap.size<=g) (.slice xa T.ps.length xc) T.ps):=hp1.mono (fun g hg=>by first |exact hg |(simp at hg;omega));clear hp1 hO1)
   |(go_at_call 78;refine (zb HSn _ _ (zb HO1) (zb HP1)).mono ?_;rintro e9 w2 ⟨j,f,es',sv',O',rfl,hpost⟩;have HPost:=zc hpost;clear hpost))
  all_goals
   obtain ⟨hj,hfs,h2,hes,hO1',hO2',hO2⟩:=zb HPost;have hext:∀ (k:Nat) x,es[k]?=some x->es'[k]?=some x:=fun k x hk=>by
    rcases hes with rfl |⟨e',rfl⟩
    ·exact hk
    ·rw [qh (yd.1 hk).1];exact hk
   have hi2:=hext i e (zb HI);obtain ⟨g2,cap2,rfl,r0',r1',r2',r3'⟩:=h2.get hi2;have c2':=h2.c2;have hnr:=(zb H).nbRow (xP (zb HI));have hm2:qy w2 e.nb ms:=((zb HM).keep (zb HO1) (fun f=>f)).keep hO2 (fun q=>by
    rcases q with q |q |q
    ·exact hnr.2 q
    ·exact (zb HO2) q
    ·exact hnr.1 q)
   have HM2:=zc hm2;have HW2:Hid (Ways (xA N st W cs) es' e.s ms):=fun p hp=>by
    obtain ⟨g9,j9,f9,a1,a2,a3⟩:=zb HW p hp;exact ⟨g9,j9,f9,a1,hext j9 f9 a2,a3⟩
   have hil2:i<es'.length:=(yd.1 hi2).1;have b2':(i:Int)<(es'.length:Int):=(by omega);have HF:Hid (∀ w3,qy w3 e.nb (ms++[(.int .i64 (gc:Nat),.int .i64 (j:Nat))])->ze (zt e.nb) w2 w3->Leaves w w3 O D sb pb mb most N (xA N st W cs) T (es.length+1) (.returned (.int .i64 (j:Nat)))):=fun w3 hm3 hO3=>by
    have hs1:=(zb HO1).size;refine ⟨j,f,es',_,O',_,rfl,hj,hfs,h2.way hi2 hj (zb HAl f.s hfs) (zb HW2) hO3 hm3,?_,fun g hg=>(hO2' g hg).imp_right (fun q=>by omega),fun g hg=>hg.imp_right (fun q=>q.1),?_⟩
    ·rcases hes with rfl |⟨e',rfl⟩
     ·omega
     ·simp
    ·have k1:ze O w w2:=((zb HO1).mono (fun _ _ f=>f.elim)).trans (hO2.mono (fun g _ hg=>(zb H).tch hg));exact k1.trans (hO3.mono (fun g hg9 hg=>by have e1:g=e.nb:=hg;rw [e1];exact ((zb H).ent e (xP (zb HI))).1))
   clear hj hfs h2 hes hO1' hO2' hO2 hext hi2 hm2 HSn HM HW r0 r1 r2 r3 c2 r0' r1' r2' HPost;go_wp2_with (at_mapUpdate;refine Zj _ rfl _ _ _ 195 rfl 3 3 (.int .i64) Tryz.underlying195 Tryz.underlying3 e.nb ms rfl (.int .i64 (gc:Nat)) (.int .i64 (j:Nat)) rfl rfl (zb HM2) (zb HW2).key (by simp [MapKept.IsKey]) (zb HNo) ?_;intro w3 hm3 hO3;have HL:=zc (zb HF w3 hm3 hO3);clear hm3 hO3);go_ret;exact zb HL
theorem kC (A O D:Nat->Prop)(N:List Stp)(W:Int->Bool)(cs:List Int)(es:List Ent)(sv:Value)(e:Ent)(w:World)(hV:Env w A O pb N st W cs)(h:Sto w O D sb pb mb most N (xA N st W cs) es sv)(hi:es[i]?=some e) :
  Calls Tryz.prog 80 #[.pointer (some ⟨sb,0,none⟩),.int .i64 (i:Nat)] w fun x w'=>Leaves w w' O D sb pb mb most N (xA N st W cs) e.s 1 x:=by
 obtain ⟨g,cap,rfl,r0,r1,r2,r3⟩:=h.get hi;have hil:i<es.length:=(yd.1 hi).1;have c2:=h.c2;obtain ⟨_,_,hpl,hok,_⟩:=h.ent e (xP hi);have b1:(0:Int)<=(i:Int):=by omega
 have b2:(i:Int)<(es.length:Int):=by omega
 obtain ⟨pa,pc,hpe⟩:=hpl.slice;rw [hpe] at r0 hpl;have kA:∀ o,Q8 w (w.alloc o):=fun o=>(ze.refl _ _).alloc o;have r0':=fun o=>zg (kA o) _ _ r0 (fun f=>f);have r1':=fun o=>zg (kA o) _ _ r1 (fun f=>f);have r2':=fun o=>zg (kA o) _ _ r2 (fun f=>f);have c2':=fun o=>zg (kA o) _ _ c2 (fun f=>f);have H:=zc h;have HV:=zc hV;have HP:=zc hpl;have HOK:=zc hok;clear h hV hpl hok hi kA;go_enter Tryz.func80,Tryz.ntmps80;have HO1:Hid (Q8 w (w.alloc (.cells #[.slice pa e.s.ps.length pc,.bool e.s.b,.bool e.s.w] 190))):=(ze.refl _ _).alloc _;have HKp:Hid (St3 (w.alloc (.cells #[.slice pa e.s.ps.length pc,.bool e.s.b,.bool e.s.w] 190)) w.heap.size (.slice pa e.s.ps.length pc) (.bool e.s.b) (.bool e.s.w)):=St3.new w _ rfl _ _ _ _;have HEm:=zc (Jl sb pb mb most O D N (xA N st W cs) es _ _ ((zb H).young (zb HO1)));go_wp2_with (go_at_call 77;refine (zb HEm).mono ?_;rintro e9 w2 ⟨rfl,h2,hO2⟩;refine zb ?_);refine zc ?_;have kO:ze O w w2:=((zb HO1).mono (fun _ _ f=>f.elim)).trans hO2;have hno:¬O w.heap.size:=fun q=>by have:=(zb H).olt _ q;omega
 obtain ⟨q0,q1,q2,_,_,_⟩:=(zb HKp).keep hO2 hno;have hV2:=(zb HV).keep (O':=O) kO (fun g hg=>.inl hg);have HSn:=zc (wj sb pb mb most O D D N (xA N st W cs) [] _ (.slice pa e.s.ps.length pc) e.s w2 h2 (fun g hg=>⟨h2.dis g hg,h2.dlt g hg⟩) ((zb HP).keep kO (fun g hg=>(zb H).dis g hg)) (zb HOK) (zb HV).prog.at'.len (by simp) hV2.tab);unfold stV at HSn;have HF:Hid (∀ x w',(∃ (i:Nat) (f:Ent) (es':List Ent) (sv':Value) (O':Nat->Prop),x = .returned (.int .i64 (i:Nat))/\es'[i]?=some f/\f.s=e.s/\Sto w' O' (fun g=>D g\/D g) sb pb mb most N (xA N st W cs) es' sv'/\(es'=[]\/∃ e',es'=[]++[e'])/\(∀ g,O g->O' g)/\(∀ g,O' g->O g\/w2.heap.size<=g)/\ze (Tch sb mb (.slice none 0 0)) w2 w')->Leaves w w' O D sb pb mb most N (xA N st W cs) e.s 1 x):=by
  rintro x w' ⟨j,f,es',sv',O',rfl,a1,a2,a3,a4,a5,a6,a7⟩;have hs:=kO.size;refine ⟨j,f,es',sv',O',_,rfl,a1,a2,a3,?_,fun g hg=>(a6 g hg).imp_right (fun q=>by omega),fun g hg=>hg.elim .inl .inl,kO.trans (a7.mono (fun g _ hg=>h2.tch hg))⟩;rcases a4 with rfl |⟨e',rfl⟩<;>simp
 clear h2 hO2 kO hV2 HEm HKp;go_wp2_with (go_at_call 78;refine (zb HSn).mono ?_;intro e9 w3 hpost;have HL:=zc (zb HF _ _ hpost);(obtain ⟨j,f,es',sv',O',rfl,_⟩:=hpost));go_ret;exact zb HL
def wk (w:World)(B:Nat->Prop)(v:Value)(ks:List Int):Prop:=(ks=[]/\∃ a c,v = .slice a 0 c)\/∃ g off cap,v = .slice (some ⟨g,off,none⟩) ks.length cap/\B g/\∀ (j:Nat) k,ks[j]?=some k->w.cell? ⟨g,off+j,none⟩=some (.int .i64 k)
theorem wk.keep {P B:Nat->Prop}{w w':World}{v:Value}{ks:List Int}(h:wk w B v ks)(k:ze P w w')(hn:∀ g,B g->¬P g):wk w' B v ks:=by
 rcases h with h |⟨g,off,cap,h1,h2,h3⟩
 ·exact .inl h
 ·exact .inr ⟨g,off,cap,h1,h2,fun j x hj=>zg k _ _ (h3 j x hj) (hn g h2)⟩
theorem wk.slice {B:Nat->Prop}{w:World}{v:Value}{ks:List Int}(h:wk w B v ks):∃ a c,v = .slice a ks.length c:=by
 rcases h with ⟨rfl,x,c,rfl⟩ |⟨g,off,cap,h1,_⟩
 ·exact ⟨_,_,rfl⟩
 ·exact ⟨_,_,h1⟩
theorem wk.get {B:Nat->Prop}{w:World}{a:Option Addr}{c:Nat}{ks:List Int}(h:wk w B (.slice a ks.length c) ks){k:Nat}(hk:k<ks.length):∃ g off,a=some ⟨g,off,none⟩/\w.cell? ⟨g,off+k,none⟩=some (.int .i64 ks[k]):=by
 rcases h with ⟨h,_⟩ |⟨g,off,cap,h1,_,h3⟩
 ·rw [h] at hk;simp at hk
 ·simp at h1;exact ⟨g,off,h1.1,h3 k ks[k] (zD hk)⟩
theorem zcl (lv:Value)(ks:List Int)(n:Nat)(B:Nat->Prop)(w:World)(h:wk w B lv ks)(hl:ks.length<4611686018427387904)(hn:n<=400) :
  Calls Tryz.prog 75 #[lv,.int .i64 (n:Nat)] w fun x w'=>∃ g ms,x = .returned (.slice (some ⟨g,0,none⟩) n n)/\xQ w' g ms/\ms.length=n/\w.heap.size<=g/\Q8 w w':=by
 obtain ⟨va,vc,rfl⟩:=h.slice;have hmk:=jt n (by omega);have HS:=zc h;have HO0:Hid (Q8 w (w.alloc (.cells (madeCells #[.bool false] n) 4))):=(ze.refl _ _).alloc _;have HB0:Hid (xQ (w.alloc (.cells (madeCells #[.bool false] n) 4)) w.heap.size (List.replicate n false)):=xQ.made w n;clear h;go_enter Tryz.func75,Tryz.ntmps75;go_wp2_with fail;go_loopw [12] (fun k wr=>∃ (m:Nat) (ms:List Bool),k = .int .i64 m/\m<=ks.length/\ms.length=n/\Hid (Q8 w wr)/\Hid (xQ wr w.heap.size ms)) (fun k _=>ks.length-(intOf k).toNat)
 case atStart=>exact ⟨0,_,rfl,by omega,by simp,HO0,HB0⟩
 case round=>
  clear HO0 HB0;obtain ⟨m,ms,rfl,hm,hml,HK,HB⟩:=hrel;by_cases hlt:m<ks.length
  ·obtain ⟨g,off,rfl,hc1⟩:=(zb HS).get hlt;have hc2:=zg (zb HK) _ _ hc1 (fun f=>f);clear hc1;have b1:(0:Int)<=(m:Int):=(by omega);have b2:(m:Int)<(ks.length:Int):=(by omega);generalize ks[m]=k at *;by_cases hk0:0<=k
   ·by_cases hk1:k<n
    ·obtain ⟨q,rfl⟩:∃ q:Nat,k=q:=⟨k.toNat,by omega⟩
     have hq:q<ms.length:=(by omega);have d1:=(zb HB).c q _ (zD hq);have d2:=(zb HB).f q _ (zD hq);go_wp2_with fail;exact ⟨⟨m+1,ms.set q true,by go_num,by omega,by simpa using hml,((zb HK).setCell (p:=⟨w.heap.size,q,none⟩) (.inr (z8 _)) _),(zb HB).set q true⟩,by simp [intOf];omega⟩
    ·go_wp2_with fail;exact ⟨⟨m+1,ms,by go_num,by omega,hml,HK,HB⟩,by simp [intOf];omega⟩
   ·go_wp2_with fail;exact ⟨⟨m+1,ms,by go_num,by omega,hml,HK,HB⟩,by simp [intOf];omega⟩
  ·obtain rfl:m=ks.length:=(by omega);go_wp2_with fail;go_ret;exact ⟨_,ms,rfl,zb HB,hml,z8 _,zb HK⟩
set_option maxHeartbeats 8000000
theorem ze.laterO {P Q:Nat->Prop}{a w w':World}(h:ze P a w)(k:ze Q w w')(hq:∀ i,i<a.heap.size->Q i->P i):ze P a w':=
 ⟨k.os.trans h.os,k.tape.trans h.tape,k.output.trans h.output,yZ h.size k.size,fun j hj hn=>(k.block j (yh hj h.size) (fun q=>hn (hq j hj q))).trans (h.block j hj hn)⟩
theorem jQ.keepP {P:Nat->Prop}{w w':World}{v:Value}{L:List (Int×Int)}(h:jQ w v L)(k:ze P w w')(hn:∀ g,v.ownBlock=some g->¬P g):jQ w' v L:=by
 rcases h with h |⟨g,cap,h1,h2,h3⟩
 ·exact .inl h
 ·exact .inr ⟨g,cap,h1,h2,h3.keep k (hn g (by rw [h1];rfl))⟩
structure Seek (w1 wr:World)(A O:Nat->Prop)(sb pb mb most:Nat)(N:List Stp)(st:Nat)(W:Int->Bool)(cs:List Int)(D:Nat->Prop)(s:Fnd.St)(i:Nat)(O' D':Nat->Prop)(es:List Ent)(sv:Value):Prop where
 sto:Sto wr O' D' sb pb mb most N (xA N st W cs) es sv
 env:Env wr A O' pb N st W cs
 at':∃ e,es[i]?=some e/\e.s=s
 len:es.length<=most
 oo:∀ g,O' g->O g\/w1.heap.size<=g
 dd:∀ g,D' g->D g\/w1.heap.size<=g
 only:ze O w1 wr
theorem Seek.young {w1 wr w':World}{A O D O' D':Nat->Prop}{sb pb mb most st i:Nat}{N:List Stp}{W:Int->Bool}{cs:List Int}{s:Fnd.St}{es:List Ent}{sv:Value}(h:Seek w1 wr A O sb pb mb most N st W cs D s i O' D' es sv)(k:Q8 wr w'):Seek w1 w' A O sb pb mb most N st W cs D s i O' D' es sv:=
 ⟨h.sto.young k,h.env.young k,h.at',h.len,h.oo,h.dd,h.only.laterO k (fun _ _ f=>f.elim)⟩
theorem Leaves.only {O D:Nat->Prop}{sb pb mb most lim:Nat}{N:List Stp}{X:Fnd.St->Nat->Fnd.St->Prop}{s:Fnd.St}{x:Ending}(k:Leaves w w' O D sb pb mb most N X s lim x):ze O w w':=by
 obtain ⟨j,e,es',sv',O2,D2,_,_,_,_,_,_,_,a7⟩:=k;exact a7
theorem Seek.back {A O D O' D':Nat->Prop}{sb pb mb most st i:Nat}{N:List Stp}{W:Int->Bool}{cs:List Int}{s:Fnd.St}{es:List Ent}{sv:Value}(h:Seek w1 wr A O sb pb mb most N st W cs D s i O' D' es sv)(k:Q8 w w1):Seek w wr A O sb pb mb most N st W cs D s i O' D' es sv:=by
 have hs:=k.size;exact ⟨h.sto,h.env,h.at',h.len,fun g hg=>(h.oo g hg).imp_right (fun q=>by omega),fun g hg=>(h.dd g hg).imp_right (fun q=>by omega),(k.mono (fun _ _ f=>f.elim)).trans h.only⟩
theorem Leaves.seek {A O D O' D':Nat->Prop}{sb pb mb most st lim:Nat}{N:List Stp}{W:Int->Bool}{cs:List Int}{s':Fnd.St}{x:Ending}(k:Leaves wr w' O' D' sb pb mb most N (xA N st W cs) s' lim x)(hV:Env wr A O' pb N st W cs)(oo:∀ g,O' g->O g\/w1.heap.size<=g)(dd:∀ g,D' g->D g\/w1.heap.size<=g)(only:ze O w1 wr)(hlim:lim<=most) :
  ∃ j es' sv' O2 D2,x = .returned (.int .i64 (j:Nat))/\Seek w1 w' A O sb pb mb most N st W cs D s' j O2 D2 es' sv'/\es'.length<=lim:=by
 obtain ⟨j,e,es',sv',O2,D2,rfl,a1,a2,a3,a4,a5,a6,a7⟩:=k;have hs:=only.size;refine ⟨j,es',sv',O2,D2,rfl,⟨a3,hV.keep a7 a5,⟨e,a1,a2⟩,by omega,fun g hg=>?_,fun g hg=>?_,only.laterO a7 (fun g hg q=>(oo g q).elim id (fun q=>by omega))⟩,a4⟩
 ·exact (a5 g hg).elim (oo g) (fun q=>.inr (by omega))
 ·exact (a6 g hg).elim (dd g) (fun q=>.inr (by omega))
theorem Seek.on {A O D O' D':Nat->Prop}{sb pb mb most st i lim:Nat}{N:List Stp}{W:Int->Bool}{cs:List Int}{s s':Fnd.St}{es:List Ent}{sv:Value}{x:Ending}(h:Seek w1 wr A O sb pb mb most N st W cs D s i O' D' es sv)(k:Leaves wr w' O' D' sb pb mb most N (xA N st W cs) s' lim x)(hlim:lim<=most) :
  ∃ j es' sv' O2 D2,x = .returned (.int .i64 (j:Nat))/\Seek w1 w' A O sb pb mb most N st W cs D s' j O2 D2 es' sv'/\es'.length<=lim:=k.seek h.env h.oo h.dd h.only hlim
theorem snumL (A O D:Nat->Prop)(N:List Stp)(W:Int->Bool)(cs:List Int)(es:List Ent)(sv pv:Value)(s:Fnd.St)(V w:World)(hV:Env V A O pb N st W cs)(h:Sto V O D sb pb mb most N (xA N st W cs) es sv)(k:Q8 V w)(hp:jf w (fun g=>V.heap.size<=g) pv s.ps)(hok:s.OK N)(hl:es.length<=1000) :
  Calls Tryz.prog 78 #[.pointer (some ⟨sb,0,none⟩),.agg #[pv,.bool s.b,.bool s.w]] w fun x w'=>Leaves V w' O D sb pb mb most N (xA N st W cs) s (es.length+1) x:=by
 refine (wj sb pb mb most O D (fun g=>V.heap.size<=g/\g<w.heap.size) N (xA N st W cs) es sv pv s w (h.young k) (fun g hg=>⟨fun q=>by have:=h.olt g q;omega,hg.2⟩) (hp.bound hok.ne) hok hV.prog.at'.len hl (hV.young k).tab).mono ?_;rintro x w' ⟨j,e,es',sv',O',rfl,a1,a2,a3,a4,_,a6,a7⟩;have hs:=k.size;refine ⟨j,e,es',sv',O',_,rfl,a1,a2,a3,?_,fun g hg=>(a6 g hg).imp_right (fun q=>by omega),fun g hg=>hg.imp_right (fun q=>q.1),(k.mono (fun _ _ f=>f.elim)).trans (a7.mono (fun g _ hg=>h.tch hg))⟩;rcases a4 with rfl |⟨e',rfl⟩
 ·omega
 ·simp
theorem zcm (A O D:Nat->Prop)(N:List Stp)(W:Int->Bool)(cs:List Int)(es:List Ent)(sv tv ev:Value)(L:List (Int×Int))(ks:List Int)(w:World)(hV:Env w A O pb N st W cs)(h:Sto w O D sb pb mb most N (xA N st W cs) es sv)(hm1:2<=most)(hm2:most<=64)(hes:es.length<=most)(hL:jQ w tv L)(hLo:∀ g,tv.ownBlock=some g->¬O g/\g<w.heap.size)(hLl:L.length<=400)(hE:wk w (fun _=>True) ev ks)(hkl:ks.length<4611686018427387904) :
  Calls Tryz.prog 40 #[.pointer (some ⟨sb,0,none⟩),tv,ev] w fun x w'=>∃ (r:Bool) (i:Nat) (O' D':Nat->Prop) (es':List Ent) (sv':Value),x = .returned (.bool r)/\(r=true↔Fnd.hit N (Fnd.run N st W L L.length))/\Seek w w' A O sb pb mb most N st W cs D (Fnd.run N st W L L.length) i O' D' es' sv':=by
 obtain ⟨ta,tc,rfl⟩:=hL.slice;obtain ⟨ea,ec,rfl⟩:=hE.slice;have c0:=h.c0;have HMk:=zc (zcl _ ks L.length _ w hE hkl hLl);have H:=zc h;have HV:=zc hV;have HL:=zc hL;have HLo:=zc hLo;clear h hV hL hLo hE;go_enter Tryz.func40,Tryz.ntmps40;go_wp2_with (go_at_call 75;refine (zb HMk).mono ?_;rintro e9 w1 ⟨ga,ms,rfl,hB,hml,hga,hO1⟩;refine zb ?_);refine zc ?_;have hgl:0<L.length->ga<w1.heap.size:=fun hp=>zE w1 _ (hB.c 0 _ (zD (by omega)));have HB:=zc hB;have HO1:=zc hO1;have HF:=zc (wi sb pb mb most O D N (xA N st W cs) es sv w1 ((zb H).young hO1));have HFirst:Hid (∀ V,ze O w1 V->Calls Tryz.prog 79 #[.pointer (some ⟨pb,0,none⟩)] V fun x w'=>∃ sv,x = .returned (.agg #[sv,.bool true,.bool false])/\jf w' (fun g=>V.heap.size<=g) sv [st]/\Q8 V w'):=fun V k=>zbP pb st N W A V (((zb HV).young (zb HO1)).keep k (fun g hg=>.inl hg)).prog.at';clear hB hO1 HMk;by_cases hf:most<=es.length
 all_goals
  first
   |(rw [decide_eq_true hf] at HF;go_wp2_with (first |(go_at_call 76;refine (zb HF).mono ?_;rintro e9 wf ⟨rfl,hOf⟩;have HEm:=zc (Jl sb pb mb most O D N (xA N st W cs) es sv wf ((zb H).young ((zb HO1).trans hOf)));have HOf:=zc hOf;clear hOf) |(go_at_call 77;refine (zb HEm).mono ?_;rintro e9 V0 ⟨rfl,h0,hO0⟩;have H0:=zc h0;have HO0:Hid (ze O w1 V0):=((zb HOf).mono (fun _ _ f=>f.elim)).trans hO0;have c0':=h0.c0;clear h0 hO0) |(go_at_call 79;refine zb ?_)))
   |(rw [decide_eq_false hf] at HF;go_wp2_with (first |(go_at_call 76;refine (zb HF).mono ?_;rintro e9 V0 ⟨rfl,hOf⟩;have H0:=zc ((zb H).young ((zb HO1).trans hOf));have HO0:Hid (ze O w1 V0):=hOf.mono (fun _ _ f=>f.elim);have c0':=(zb H0).c0;clear hOf) |(go_at_call 79;refine zb ?_)))
  refine zc ?_;refine (zb HFirst V0 (zb HO0)).mono ?_;rintro e9 w2 ⟨sv1,rfl,hp1,hO2⟩
  (obtain ⟨xa,xc,rfl⟩:=hp1.slice)
  have HNu:=zc (snumL sb pb mb most st A O D N W cs _ _ _ (Fnd.fst st) V0 w2 (((zb HV).young (zb HO1)).keep (zb HO0) (fun g hg=>.inl hg)) (zb H0) hO2 hp1 (Fnd.fst_ok (zb HV).prog.at'.stl) (by first |omega |(simp;done) |(simp;omega)));clear hp1 hO2;go_wp2_with (go_at_call 78;refine (zb HNu).mono ?_;intro e9 w3 hLe;(obtain ⟨j0,es0,sv0,O2,D2,rfl,hSk,_⟩:=hLe.seek (w1:=w1) (O:=O) (D:=D) (((zb HV).young (zb HO1)).keep (zb HO0) (fun g hg=>.inl hg)) (fun g hg=>.inl hg) (fun g hg=>.inl hg) (zb HO0) (by first |omega |(simp;done) |(simp;omega)));have HSk:=zc hSk;clear hSk hLe HNu);go_wp2_with fail;have hsk:=zb HSk;go_loopw [8,28] (fun nv k wr=>∃ (m i:Nat) (O3 D3:Nat->Prop) (es3:List Ent) (sv3:Value),k = .int .i64 m/\nv = .int .i64 i/\m<=L.length/\Hid (Seek w1 wr A O sb pb mb most N st W cs D (Fnd.run N st W L m) i O3 D3 es3 sv3)) (fun _ k _=>L.length-(intOf k).toNat)
  case atStart=>exact ⟨0,j0,O2,D2,es0,sv0,rfl,rfl,by omega,HSk⟩
  case round=>
   clear HSk hsk;obtain ⟨m,i,O3,D3,es3,sv3,rfl,rfl,hm,HS⟩:=hrel;by_cases hlt:m<L.length
   ·have hOf:∀ g,(Value.slice ta L.length tc).ownBlock=some g->¬O g:=fun g hg=>(zb HLo g hg).1;obtain ⟨g,cap,x0,hv,hcap,d1,d2⟩:=(((zb HL).keep (zb HO1)).keepP (zb HS).only hOf).get hlt;simp at hv;obtain ⟨rfl,rfl⟩:=hv;have hBr:xQ wr ga ms:=(zb HB).keep (zb HS).only (fun q=>by have:=(zb H).olt _ q;omega);have da:=hBr.c m _ (zD (by omega));have b1:(0:Int)<=(m:Int):=(by omega);have b2:(m:Int)<(L.length:Int):=(by omega);have kA:Q8 wr (wr.alloc (.cells #[.int .i64 x0,.int .i32 (Pro.zf L m)] 184)):=(ze.refl _ _).alloc _;have da':=zg kA _ _ da (fun f=>f);have HS9:=zc ((zb HS).young kA);have lc9:(wr.alloc (.cells #[.int .i64 x0,.int .i32 (Pro.zf L m)] 184)).cell? ⟨wr.heap.size,1,none⟩=some (.int .i32 (Pro.zf L m)):=zm wr _ rfl _ _ 1 _ rfl;have hno3:¬O3 wr.heap.size:=fun q=>(by have:=(zb HS).sto.olt _ q;omega);clear da hBr kA hOf;generalize ms[m]=a at *;cases a
    ·by_cases hfu:most<=es3.length
     ·have HFu:=zc (wi sb pb mb most O3 D3 N (xA N st W cs) es3 sv3 (wr.alloc (.cells #[.int .i64 x0,.int .i32 (Pro.zf L m)] 184)) (zb HS9).sto);rw [decide_eq_true hfu] at HFu;go_wp2_with (first
       |(go_at_call 76;refine (zb HFu).mono ?_;rintro e9 w4 ⟨rfl,hO4⟩;have HS4:=zc ((zb HS9).young hO4);have lc4:=zg hO4 _ _ lc9 (fun f=>f);clear hO4)
       |(go_at_call 80;(obtain ⟨e7,he7,hes7⟩:=(zb HS4).at');refine (kC sb pb mb most st i A O3 D3 N W cs es3 sv3 e7 _ (zb HS4).env (zb HS4).sto he7).mono ?_;intro e9 w5 hLe;rw [hes7] at hLe;have kq:=hLe.only;(obtain ⟨i5,es5,sv5,O5,D5,rfl,hS5,hl5⟩:=(zb HS4).on hLe (by omega));have HS5:=zc hS5;have hl6:es5.length<most:=(by omega);have lc5:=zg kq _ _ lc4 hno3;clear hS5 hl5 hLe kq he7 hes7)
       |(go_at_call 81;(obtain ⟨e8,he8,hes8⟩:=(zb HS5).at');refine (jr sb pb mb most st i5 A O5 D5 N W cs es5 sv5 e8 (Pro.zf L m) _ (zb HS5).env (zb HS5).sto he8 (by omega)).mono ?_;intro e9 w6 hLe;rw [hes8] at hLe;(obtain ⟨i6,es6,sv6,O6,D6,rfl,hS6,_⟩:=(zb HS5).on hLe (by omega));have HS6:=zc hS6;clear hS6 hLe he8 hes8))
      exact ⟨⟨m+1,i6,O6,D6,es6,sv6,by go_num,rfl,by omega,HS6⟩,by simp [intOf];omega⟩
     ·have HFu:=zc (wi sb pb mb most O3 D3 N (xA N st W cs) es3 sv3 (wr.alloc (.cells #[.int .i64 x0,.int .i32 (Pro.zf L m)] 184)) (zb HS9).sto);rw [decide_eq_false hfu] at HFu;go_wp2_with (first
       |(go_at_call 76;refine (zb HFu).mono ?_;rintro e9 w4 ⟨rfl,hO4⟩;have HS5:=zc ((zb HS9).young hO4);have lc4:=zg hO4 _ _ lc9 (fun f=>f);clear hO4)
       |(go_at_call 81;(obtain ⟨e8,he8,hes8⟩:=(zb HS5).at');refine (jr sb pb mb most st i A O3 D3 N W cs es3 sv3 e8 (Pro.zf L m) _ (zb HS5).env (zb HS5).sto he8 (by omega)).mono ?_;intro e9 w6 hLe;rw [hes8] at hLe;(obtain ⟨i6,es6,sv6,O6,D6,rfl,hS6,_⟩:=(zb HS5).on hLe (by omega));have HS6:=zc hS6;clear hS6 hLe he8 hes8))
      exact ⟨⟨m+1,i6,O6,D6,es6,sv6,by go_num,rfl,by omega,HS6⟩,by simp [intOf];omega⟩
    ·go_wp2_with (first
       |(go_at_call 80;(obtain ⟨e7,he7,hes7⟩:=(zb HS9).at');refine (kC sb pb mb most st i A O3 D3 N W cs es3 sv3 e7 _ (zb HS9).env (zb HS9).sto he7).mono ?_;intro e9 w5 hLe;rw [hes7] at hLe;have kq:=hLe.only;(obtain ⟨i5,es5,sv5,O5,D5,rfl,hS5,hl5⟩:=(zb HS9).on hLe (by omega));have HS5:=zc hS5;have hl6:es5.length<most:=(by omega);have lc5:=zg kq _ _ lc9 hno3;clear hS5 hl5 hLe kq he7 hes7)
       |(go_at_call 81;(obtain ⟨e8,he8,hes8⟩:=(zb HS5).at');refine (jr sb pb mb most st i5 A O5 D5 N W cs es5 sv5 e8 (Pro.zf L m) _ (zb HS5).env (zb HS5).sto he8 (by omega)).mono ?_;intro e9 w6 hLe;rw [hes8] at hLe;(obtain ⟨i6,es6,sv6,O6,D6,rfl,hS6,_⟩:=(zb HS5).on hLe (by omega));have HS6:=zc hS6;clear hS6 hLe he8 hes8))
     exact ⟨⟨m+1,i6,O6,D6,es6,sv6,by go_num,rfl,by omega,HS6⟩,by simp [intOf];omega⟩
   ·obtain rfl:m=L.length:=(by omega);obtain ⟨e7,he7,hes7⟩:=(zb HS).at';obtain ⟨g7,cap7,rfl,r0,r1,r2,r3⟩:=(zb HS).sto.get he7;obtain ⟨_,_,hpl,hok,_⟩:=(zb HS).sto.ent e7 (xP he7);have k0:=(zb HS).sto.c0;have k2:=(zb HS).sto.c2;have hil:i<es3.length:=(yd.1 he7).1;have b1:(0:Int)<=(i:Int):=(by omega);have b2:(i:Int)<(es3.length:Int):=(by omega);obtain ⟨pa,pc,hpe⟩:=hpl.slice;have HMe:Hid (∀ V,Q8 wr V->Calls Tryz.prog 82 #[.pointer (some ⟨pb,0,none⟩),.agg #[e7.pv,.bool e7.s.b,.bool e7.s.w]] V fun x w'=>∃ r,x = .returned (.bool r)/\(r=true↔Fnd.hit N e7.s)/\Q8 V w'):=fun V hV9=>v7 pb st N W e7.pv e7.s A V ((zb HS).env.prog.at'.keep hV9 (fun _ _ f=>f)) (hpl.int.keep hV9) hok;rw [hpe] at r0 HMe;have HHe:=zc hes7;clear hpl hok hes7 hpe he7 r3;go_wp2_with fail;go_region_with (go_at_call 82;refine (zb HMe _ (by repeat (first |exact ze.refl _ _ |refine ze.alloc ?_ _ |refine ze.drew ?_ |refine ze.drewN ?_ _))).mono ?_;rintro e9 w9 ⟨r,rfl,hr,hO9⟩;have HR:=zc hr;have HO9:Hid (Q8 wr w9):=ze.trans (by repeat (first |exact ze.refl _ _ |refine ze.alloc ?_ _ |refine ze.drew ?_ |refine ze.drewN ?_ _)) hO9;clear hr hO9)
    all_goals
     go_wp2_with fail;go_ret;refine ⟨r,i,O3,D3,es3,_,rfl,?_,((zb HS).young (zb HO9)).back (zb HO1)⟩;rw [<-zb HHe];exact zb HR
end
end Go.Proofs.YtcgleficedipkaaGreatDoor
