/- Maps as lists of entries: what a look-up tells, what a store and clear turn. -/
import Derived.Maps.OwnSet
import Derived.Test.YtcgleficedipkaaGreatDoorYFndEFndI
import Derived.Maps.AppendAt
import Derived.Carry
namespace Go.Proofs.YtcgleficedipkaaGreatDoor
open Option renaming none->U,some->I
open Value renaming int->M,slice->K,bool->C,pointer->Ua,string->Uc,tuple->Ue,agg->Uf
open IntKind renaming i64->J,i32->Ug
open Bool renaming false->Z,true->G
open _root_.Go.Proofs.Tryz renaming prog->V
open Go renaming World->E,Value->Y,Calls->Uh
open Go.RowKit renaming Hid->H
open Ending renaming returned->R
open Obj renaming cells->Ub
open Pro Prg Fnd
variable {w:World}{b:Nat}(sb pb mb most h i:Nat){w1 wr l:World}{es:List (Value×Value)}
section
open Go.RowKit
def jB (w:E)(b:Nat)(es:List (Y×Y)):Prop:=∃a c,w.heap[b]?=I (.map a c)/\a.toList.map (λe=>(e.key,e.val))=es
theorem jB.lt (h:jB w b es):b<w.heap.size:=by obtain⟨c,d,a,_⟩:=h;exact(zgM.1 a).1
theorem jB.keep {P:Nat->Prop}{w l:E}{b:Nat}{es:List (Y×Y)}(h:jB w b es)(k:zf P w l)(g:¬P b):jB l b es:=by have f:=h.lt;obtain⟨a,c,d,e⟩:=h;exact⟨a,c,(k.block b f g).trans d,e⟩
theorem jB.made (w:E)(n:Nat)(a:w.heap.size=n):jB (w.alloc (.map #[] 0)) n []:=by subst a;exact⟨#[],0,(MapKept.heap_alloc w _).1,rfl⟩
theorem jB.noCell (h:jB w b es)(o:Nat):w.cell? ⟨b,o,U⟩=U:=by obtain⟨c,d,a,_⟩:=h;simp[World.cell?,a]
theorem VX {P:Program}{w:E}{t k e:TypeId}{d:TypeDesc}{z key:Y}{b:Nat}{es:List (Y×Y)}(l:P.underlying t=I (.map k e))(a:P.underlying k=I d)(u:(zeroValue e).run P w=.ok z w)(r:jB w b es)(o:∀p∈es,MapKept.IsKey d p.1)(g:MapKept.IsKey d key):(∃v,(key,v)∈es/\(Instr.lookup t (.map (I b)) key G).run P w=.ok (Ue #[v,C G]) w)\/((∀p∈es,p.1≠key)/\(Instr.lookup t (.map (I b)) key G).run P w=.ok (Ue #[z,C Z]) w):=by
 obtain⟨h,y,i,n⟩:=r;have q:∀x∈h.toList,MapKept.IsKey d x.key:=λx s=>o (x.key,x.val) (by rw[<-n];exact zhS (f:=λe:MapEntry=>(e.key,e.val)) s);rcases MapKept.findNow_spec g h.toList 0 q with⟨c,m⟩|⟨j,x,c,m,B⟩
 .refine .inr ⟨λp F=>?_,?_⟩
  grind
  simp[Instr.lookup,run_underlying l,MapKept.run_getObj_map i,MapKept.run_checkKey a g,MapKept.run_findKey a c,u,Result.andThen]
 refine .inl ⟨x.val,?_,?_⟩
 grind
 simp[Instr.lookup,run_underlying l,MapKept.run_getObj_map i,MapKept.run_checkKey a g,MapKept.run_findKey a c,Result.andThen]
theorem Jx (o:Obj):zf (zt b) w { w with heap:=w.heap.setIfInBounds b o }:=
 ⟨rfl,rfl,rfl,ov,λk _ a=>by
  have c:k≠b:=a;simp[Ne.symm c]⟩
theorem zdp {P:Program}{w:E}{t k e:TypeId}{d:TypeDesc}{key val:Y}{b:Nat}{es:List (Y×Y)}(z:P.underlying t=I (.map k e))(n:P.underlying k=I d)(v:jB w b es)(s:∀p∈es,MapKept.IsKey d p.1)(o:MapKept.IsKey d key)(y:∀p∈es,p.1≠key):∃l,(Instr.mapUpdate t (.map (I b)) key val).run P w=.ok () l/\jB l b (es++[(key,val)])/\zf (zt b) w l:=by obtain⟨a,h,c,g⟩:=v;have u:∀x∈a.toList,MapKept.IsKey d x.key:=λx B=>s (x.key,x.val) (by rw[<-g];exact zhS (f:=λe:MapEntry=>(e.key,e.val)) B);rcases MapKept.findNow_spec o a.toList 0 u with⟨i,m⟩|⟨j,x,i,m,r⟩;refine⟨{ w with heap:=w.heap.setIfInBounds b (.map (a.push { key:=key,val:=val,born:=h }) (h+1)) },?_,⟨_,_,(MapKept.heap_set c).1,?_⟩,Jx _⟩;simp[Instr.mapUpdate,run_underlying z,MapKept.run_getObj_map c,MapKept.run_checkKey n o,MapKept.run_findKey n i,MapKept.run_setObj_map _ c,Result.andThen];simp[<-g];refine absurd r (y (x.key,x.val) ?_);rw[<-g];exact zhS (f:=λe:MapEntry=>(e.key,e.val)) (zgS m)
theorem zdq {P:Program}{w:E}{t k e ty:TypeId}{b:Nat}{es:List (Y×Y)}(g:P.underlying t=I (.map k e))(f:jB w b es):∃l,(Builtin.clear_ #[t] ty #[.map (I b)]).run P w=.ok (Ue #[]) l/\jB l b []/\zf (zt b) w l:=by obtain⟨h,d,a,i⟩:=f;refine⟨{ w with heap:=w.heap.setIfInBounds b (.map #[] d) },?_,⟨_,_,(MapKept.heap_set a).1,?_⟩,Jx _⟩;simp[Builtin.clear_,run_underlying g,MapKept.run_getObj_map a,MapKept.run_setObj_map _ a,Result.andThen];simp
section
variable {P:Program} (w:World) {c:Array Oper} {rest:List Oper} {o:Oper} {a:Act} {Q:Exit->Act->World->Prop}
theorem Kz (f:o.guard=U)(m x:Operand)(t:TypeId)(h:o.op=Op.lookup t m x G)(b:Nat)(g:a.eval m=.map (I b))(key:Y)(j:a.eval x=key)(v:Y)(i:(Instr.lookup t (.map (I b)) key G).run P w=.ok v w)(d:wpList P c Q rest (a.put o.dst v) w):wpList P c Q (o :: rest) a w:=by refine wpList_plain f λk e=>?_;unfold Oper.wp;simp[execOp,h,g,j,i,Result.andThen];exact e _ _ d
theorem XE (i:o.guard=U)(m x v:Operand)(t:TypeId)(s:o.op=Op.mapUpdate t m x v)(k e:TypeId)(d:TypeDesc)(z:P.underlying t=I (.map k e))(j:P.underlying k=I d)(b:Nat)(es:List (Y×Y))(q:a.eval m=.map (I b))(key val:Y)(F:a.eval x=key)(B:a.eval v=val)(u:jB w b es)(h:∀p∈es,MapKept.IsKey d p.1)(n:MapKept.IsKey d key)(r:∀p∈es,p.1≠key)(f:∀l,jB l b (es++[(key,val)])->zf (zt b) w l->wpList P c Q rest (a.put o.dst undef) l):wpList P c Q (o :: rest) a w:=by refine wpList_plain i λS g=>?_;obtain⟨l,y,L,N⟩:=zdp (val:=val) z j u h n r;unfold Oper.wp;simp[execOp,s,q,F,B,y,Result.andThen];exact g _ _ (f l L N)
end
open Sm (Stp Tree)
structure Ent where
 s:Fnd.St
 pv:Y
 nb:Nat
def entC (e:Ent):List Y:=[e.pv,C e.s.b,C e.s.w,.map (I e.nb)]
def q8 (es:List Ent):List Y:=es.flatMap entC
theorem JR (l m:List Ent):q8 (l++m)=q8 l++q8 m:=by simp[q8]
theorem Jy:∀(es:List Ent) (i:Nat) (e:Ent),es[i]?=I e->∀k,k<4->(q8 es)[i*4+k]?=(entC e)[k]?
 | [],i,e,h,_,_=>by simp at h
 |x :: r,0,e,h,k,b=>by
  simp at h;subst h;simp only[q8,zhZ,zia,zg6];rw[zgW (by simp[entC];omega)]
 |x :: r,i+1,e,h,k,b=>by
  have a:=Jy r i e (by simpa using h) k b;simp only[q8,zhZ] at a ⊢;rw[zg2 (by simp[entC];omega)];rw[<-a];congr 1;simp[entC];omega
def keyV (s:Fnd.St):Y:=Uc ⟨(keyS s.b s.w s.ps).toArray⟩
theorem keyV_inj {s d:Fnd.St}(h:keyV s=keyV d):s=d:=by
 unfold keyV at h;have e:keyS s.b s.w s.ps=keyS d.b d.w d.ps:=by simpa using h
 obtain⟨a,b,c⟩:=keyS_inj e;cases s;cases d;simp at a b c;rw[a,b,c]
def nums (es:List Ent):List (Y×Y):=es.mapIdx (λi e=>(keyV e.s,M J (i:Nat)))
theorem zbh {es:List Ent}{k v:Y}(h:(k,v)∈nums es):∃(i:Nat) (e:Ent),es[i]?=I e/\k=keyV e.s/\v=M J (i:Nat):=by obtain⟨i,a,e⟩:=List.mem_iff_getElem.1 h;simp[nums] at a e;exact⟨i,es[i],zgE a,e.1.symm,e.2.symm⟩
theorem zfz (es:List Ent)(e:Ent):nums (es++[e])=nums es++[(keyV e.s,M J (es.length:Nat))]:=by simp[nums,List.mapIdx_append]
theorem zbi {es:List Ent}:∀p∈nums es,MapKept.IsKey .string p.1:=fun p hp=>by
 obtain⟨i,e,_,h,_⟩:=zbh (k:=p.1) (v:=p.2) hp;rw[h];simp[keyV,MapKept.IsKey]
theorem Q7 {base n size:Nat}{T:TypeId}{v:Y}{d:List (Y×Y)}{xs:List Y}(h:jB w b d)(r:w.ownsRow base T size v n xs):v.ownBlock≠I b:=by obtain⟨f,j,c,_⟩:=h;intro e;rcases r.2 with⟨rfl,_⟩|⟨g,i,k,rfl,_,a,_⟩;cases e;simp[Value.ownBlock] at e;subst e;rw[c] at a;cases a
theorem zbj {sb o:Nat}{v:Y}{a:List (Y×Y)}(h:jB w b a)(c:w.cell? ⟨sb,o,U⟩=I v):b≠sb:=λe=>by subst e;rw[h.noCell] at c;cases c
def Ways (X:Fnd.St->Nat->Fnd.St->Prop)(es:List Ent)(s:Fnd.St)(a:List (Y×Y)):Prop:=∀p∈a,∃(g j:Nat) (f:Ent),p=(M J (g:Nat),M J (j:Nat))/\es[j]?=I f/\X s g f.s
theorem Ways.key {X:Fnd.St->Nat->Fnd.St->Prop}{es:List Ent}{s:Fnd.St}{ms:List (Value×Value)}(h:Ways X es s ms):∀p∈ms,MapKept.IsKey (.int .i64) p.1:=fun p hp=>by
 obtain⟨g,j,f,rfl,_⟩:=h p hp;simp[MapKept.IsKey]
structure Sto (w:E)(O D:Nat->Prop)(sb pb mb most:Nat)(N:List Stp)(X:Fnd.St->Nat->Fnd.St->Prop)(es:List Ent)(sv:Y):Prop where
 c0:w.cell? ⟨sb,0,U⟩=I (Ua (I ⟨pb,0,U⟩))
 c1:w.cell? ⟨sb,1,U⟩=I (M J (most:Nat))
 c2:w.cell? ⟨sb,2,U⟩=I sv
 c3:w.cell? ⟨sb,3,U⟩=I (.map (I mb))
 f2:w.frozen? ⟨sb,2,U⟩=Z
 row:w.ownsRow 0 197 4 sv es.length (q8 es)
 rown:∀g,sv.ownBlock=I g->O g/\g≠sb
 num:jB w mb (nums es)
 osb:O sb
 omb:O mb
 ent:∀e∈es,O e.nb/\e.nb≠mb/\kK w D e.pv e.s.ps/\e.s.OK N/\∃ms,jB w e.nb ms/\Ways X es e.s ms
 nd:es.Pairwise (λa b=>a.nb≠b.nb)
 olt:∀g,O g->g<w.heap.size
 dlt:∀g,D g->g<w.heap.size
 dis:∀g,D g->¬O g
section
variable {w l:World} {O D:Nat->Prop} {sb pb mb most:Nat} {N:List Stp} {X:Fnd.St->Nat->Fnd.St->Prop} {es:List Ent} {sv:Value}
theorem Sto.keep {P:Nat->Prop}(h:Sto w O D sb pb mb most N X es sv)(k:zf P w l)(a:∀g,O g->¬P g)(n:∀g,D g->¬P g):Sto l O D sb pb mb most N X es sv where
 c0:=zg k _ _ h.c0 (a _ h.osb)
 c1:=zg k _ _ h.c1 (a _ h.osb)
 c2:=zg k _ _ h.c2 (a _ h.osb)
 c3:=zg k _ _ h.c3 (a _ h.osb)
 f2:=zo k _ (h.olt _ h.osb) h.f2 (a _ h.osb)
 row:=zl h.row k (λg b=>a g (h.rown g b).1)
 rown:=h.rown
 num:=h.num.keep k (a _ h.omb)
 osb:=h.osb
 omb:=h.omb
 ent:=λe o=>by
  obtain⟨c,d,f,i,p,j,m⟩:=h.ent e o;exact⟨c,d,f.keep k n,i,p,j.keep k (a _ c),m⟩
 nd:=h.nd
 olt:=λg b=>zgJ (h.olt g b) k.size
 dlt:=λg b=>zgJ (h.dlt g b) k.size
 dis:=h.dis
theorem Sto.young (h:Sto w O D sb pb mb most N X es sv)(k:ziE w l):Sto l O D sb pb mb most N X es sv:=h.keep k (λ_ _ f=>f) (λ_ _ f=>f)
theorem Sto.get (h:Sto w O D sb pb mb most N X es sv){i:Nat}{e:Ent}(a:es[i]?=I e):∃g cap,sv=K (I ⟨g,0,U⟩) es.length cap/\w.cell? ⟨g,i*4,U⟩=I e.pv/\w.cell? ⟨g,i*4+1,U⟩=I (C e.s.b)/\w.cell? ⟨g,i*4+2,U⟩=I (C e.s.w)/\w.cell? ⟨g,i*4+3,U⟩=I (.map (I e.nb)):=by
 have m:=(zgG.1 a).1;have c:=@World.ownsRow.cells w 0 197 4 _ _ _ h.row;rcases h.row.2 with⟨_,l⟩|⟨g,cap,j,rfl,_⟩;omega;have key:∀k v,k<4->(entC e)[k]?=I v->w.cell? ⟨g,i*4+k,U⟩=I v:=λk v d f=>by have:=c (g:=g) rfl (i*4+k) v (by rw[Jy es i e a k d];exact f);have b:(⟨g,0,U⟩:Addr).add (i*4+k)=⟨g,i*4+k,U⟩:=(by unfold Addr.add;split<;>simp_all);rw[b] at this;exact this
 exact⟨g,cap,rfl,key 0 _ oa rfl,key 1 _ oa rfl,key 2 _ oa rfl,key 3 _ oa rfl⟩
theorem Sto.slice (h:Sto w O D sb pb mb most N X es sv):∃a c,sv=K a es.length c:=by rcases h.row.2 with⟨rfl,b⟩|⟨g,d,e,rfl,_⟩;exact⟨U,0,by rw[b]⟩;exact⟨_,_,rfl⟩
theorem Sto.nbRow (h:Sto w O D sb pb mb most N X es sv){e:Ent}(b:e∈es):sv.ownBlock≠I e.nb/\e.nb≠sb:=by obtain⟨_,_,_,_,c,a,_⟩:=h.ent e b;exact⟨Q7 a h.row,zbj a h.c0⟩
theorem Sto.mbRow (h:Sto w O D sb pb mb most N X es sv):sv.ownBlock≠I mb/\mb≠sb:=⟨Q7 h.num h.row,zbj h.num h.c0⟩
theorem Sto.push {E:Nat->Prop}{sv':Y}{e:Ent}(h:Sto w O D sb pb mb most N X es sv)(k:zf (λg=>g=sb\/g=mb\/sv.ownBlock=I g) w l)(u:l.cell? ⟨sb,0,U⟩=I (Ua (I ⟨pb,0,U⟩))) (c1:l.cell? ⟨sb,1,U⟩=I (M J (most:Nat))) (v:l.cell? ⟨sb,2,U⟩=I sv') (y:l.cell? ⟨sb,3,U⟩=I (.map (I mb))) (F:l.frozen? ⟨sb,2,U⟩=Z)(row:l.ownsRow 0 197 4 sv' (es.length+1) (q8 es++entC e)) (t:∀g,sv'.ownBlock=I g->sv.ownBlock=I g\/w.heap.size<=g) (num:jB l mb (nums es++[(keyV e.s,M J (es.length:Nat))]))(ai:w.heap.size<=e.nb) (s:jB l e.nb []) (ae:kK w E e.pv e.s.ps) (n:∀g,E g->¬O g/\g<w.heap.size) (ad:e.s.OK N):Sto l (λg=>O g\/g=e.nb\/sv'.ownBlock=I g) (λg=>D g\/E g) sb pb mb most N X (es++[e]) sv':=by
 have ak:=h.olt _ h.osb;have ah:=h.olt _ h.omb;have r:∀g,D g\/E g->¬(g=sb\/g=mb\/sv.ownBlock=I g):=λg c d=>by have m:¬O g:=c.elim (h.dis g) (λq=>(n g q).1);rcases d with rfl|rfl|d;exact m h.osb;exact m h.omb;exact m (h.rown g d).1
 have aj:∀g,sv'.ownBlock=I g->O g\/w.heap.size<=g:=λg c=>(t g c).imp (λq=>(h.rown g q).1) id;refine⟨u,c1,v,y,F,?_,λg c=>⟨.inr (.inr c),?_⟩,?_,.inl h.osb,.inl h.omb,λx i=>?_,?_,λg c=>?_,λg c=>?_,λg c d=>?_⟩;rw[zgK,JR];simp only[q8,zhZ,List.flatMap_nil,zhc,zg4,zhe];exact row;rcases t g c with q|q;exact(h.rown g q).2;omega;rw[zfz];exact num
 .rcases zgU.1 i with i|i
  .obtain⟨L,P,S,T,ms,W,h6⟩:=h.ent x i;obtain⟨n1,n2⟩:=h.nbRow i;refine⟨.inl L,P,(S.mono (λg c=>.inl c)).keep k (λg c=>r g c),T,ms,W.keep k (λq=>?_),λp d=>?_⟩
   grind
   obtain⟨g,j,f,z,o,B⟩:=h6 p d;exact⟨g,j,f,z,by rw[zgW (zgG.1 o).1];exact o,B⟩
  obtain rfl:=zgT.1 i;exact⟨.inr (.inl rfl),oa,(ae.mono (λg c=>.inr c)).keep k (λg c=>r g c),ad,[],s,λp d=>by cases d⟩
 refine zh0.2 ⟨h.nd,ov,λa ha b hb=>?_⟩;obtain rfl:=zgT.1 hb;have:=h.olt _ (h.ent a ha).1;omega;rcases c with c|rfl|c;exact zgJ (h.olt g c) k.size;exact s.lt;exact(zh row g c).2;rcases c with c|c;exact zgJ (h.dlt g c) k.size;exact zgJ (n g c).2 k.size;have m:¬O g:=c.elim (h.dis g) (λq=>(n g q).1);have ag:g<w.heap.size:=c.elim (h.dlt g) (λq=>(n g q).2);rcases d with d|rfl|d;exact m d;omega
 grind
theorem Sto.clear (h:Sto w O D sb pb mb most N X es sv)(k:zf (λg=>g=sb\/g=mb) w l)(b:l.cell? ⟨sb,0,U⟩=I (Ua (I ⟨pb,0,U⟩))) (c1:l.cell? ⟨sb,1,U⟩=I (M J (most:Nat))) (c:l.cell? ⟨sb,2,U⟩=I (K U 0 0)) (d:l.cell? ⟨sb,3,U⟩=I (.map (I mb))) (f:l.frozen? ⟨sb,2,U⟩=Z) (num:jB l mb []):Sto l O D sb pb mb most N X [] (K U 0 0):=
 ⟨b,c1,c,d,f,zgP _ _ _ _,λg a=>(by cases a),num,h.osb,h.omb,λe i=>(by cases i),List.Pairwise.nil,λg a=>zgJ (h.olt g a) k.size,λg a=>zgJ (h.dlt g a) k.size,h.dis⟩
theorem Sto.way {i j g:Nat}{e f:Ent}{B:List (Y×Y)}(h:Sto w O D sb pb mb most N X es sv)(u:es[i]?=I e)(hj:es[j]?=I f)(hX:X e.s g f.s)(W:Ways X es e.s B)(k:zf (zt e.nb) w l)(T:jB l e.nb (B++[(M J (g:Nat),M J (j:Nat))])):Sto l O D sb pb mb most N X es sv:=by
 have t:=zgS u;obtain⟨o1,o2,_⟩:=h.ent e t;obtain⟨n1,n2⟩:=h.nbRow t;have b:∀q,q≠e.nb->¬zt e.nb q:=λq a f=>a f;refine⟨zg k _ _ h.c0 (b _ n2.symm),zg k _ _ h.c1 (b _ n2.symm),zg k _ _ h.c2 (b _ n2.symm),zg k _ _ h.c3 (b _ n2.symm),zo k _ (h.olt _ h.osb) h.f2 (b _ n2.symm),zl h.row k (λq a f=>?_),h.rown,h.num.keep k (b _ o2.symm),h.osb,h.omb,λx z=>?_,h.nd,λq a=>zgJ (h.olt q a) k.size,λq a=>zgJ (h.dlt q a) k.size,h.dis⟩
 grind
 obtain⟨m,o,L,s,ab,P,S⟩:=h.ent x z;have r:=L.keep k (λq a f=>h.dis q a (by have F:q=e.nb:=f;rw[F];exact o1));by_cases d:x.nb=e.nb
 ·(have aa:x=e:=by obtain⟨n,y,rfl⟩:=List.mem_iff_getElem.1 z;obtain⟨v,rfl⟩:=zgG.1 u;rcases Nat.lt_trichotomy n i with q|q|q;exact absurd d (zhE.1 h.nd n i y v q);subst q;rfl;exact absurd d.symm (zhE.1 h.nd i n v y q));subst aa;refine⟨m,o,r,s,_,T,λp c=>?_⟩;rcases zgU.1 c with c|c;exact W p c
  grind
 exact⟨m,o,r,s,ab,P.keep k (b _ d),S⟩
end
set_option maxHeartbeats 4000000
set_option maxRecDepth 100000
theorem Tryz.infoState:(Tryz.prog.info? 197).map (λi=>(i.zero,i.size,i.bytes))=I (I (Uf #[K U 0 0,C Z,C Z,.map U]),4,40):=om
theorem four_new (W:E)(n:Nat)(g:W.heap.size=n)(a b c d:Y)(T:TypeId):∀j u,[a,b,c,d][j]?=I u->(W.alloc (Ub #[a,b,c,d] T)).cell? ((⟨n,0,U⟩:Addr).add j)=I u:=by
 intro j u f;have e:(⟨n,0,U⟩:Addr).add j=⟨n,j,U⟩:=by unfold Addr.add;split<;>simp_all
 rw[e];exact zm W n g _ _ _ _ (by simpa using f)
section
variable {w l:World} {O D:Nat->Prop} {sb pb mb most:Nat} {N:List Stp} {X:Fnd.St->Nat->Fnd.St->Prop} {es:List Ent} {sv:Value}
theorem Sto.more {a:Nat->Prop}(h:Sto w O D sb pb mb most N X es sv)(k:∀g,D g->a g)(c:∀g,a g->¬O g/\g<w.heap.size):Sto w O a sb pb mb most N X es sv:=
 { h with ent:=λe l=>(by obtain⟨d,f,i,j⟩:=h.ent e l;exact⟨d,f,i.mono k,j⟩),dlt:=λg b=>(c g b).2,dis:=λg b=>(c g b).1 }
end
theorem KC (O D:Nat->Prop)(N:List Stp)(X:Fnd.St->Nat->Fnd.St->Prop)(es:List Ent)(sv:Y)(w:E)(h:Sto w O D sb pb mb most N X es sv):Uh Tryz.prog 76 #[Ua (I ⟨sb,0,U⟩)] w λx l=>x=R (C (decide (most<=es.length)))/\ziE w l:=by have b:=h.c1;have d:=h.c2;obtain⟨a,c,rfl⟩:=h.slice;clear h;go_enter Tryz.func76,Tryz.ntmps76;go_wp2_with fail;go_region;go_wp2_with fail;go_ret;exact⟨rfl,by first|exact(zf.refl _ _).drewN _|exact(zf.refl _ _).drew|exact zf.refl _ _⟩
theorem VY (O D:Nat->Prop)(N:List Stp)(X:Fnd.St->Nat->Fnd.St->Prop)(es:List Ent)(sv:Y)(w:E)(h:Sto w O D sb pb mb most N X es sv):Uh Tryz.prog 77 #[Ua (I ⟨sb,0,U⟩)] w λx l=>x=R (Ue #[])/\Sto l O D sb pb mb most N X [] (K U 0 0)/\zf O w l:=by
 have f:=h.c2;have t:=h.c3;have s:=h.f2;have m:=(h.mbRow).2;have n:=h.num.keep (P:=λk=>k=sb) ((zf.refl (λk=>k=sb) w).setCell (p:=⟨sb,2,U⟩) (.inl rfl) (K U 0 0)) m;obtain⟨w1,v,j,i⟩:=zdq (P:=Tryz.prog) (ty:=0) Tryz.underlying176 n;have r:=ze j;have a:=ze i;have q:=ze h;have u:(w.setCell ⟨sb,2,U⟩ (K U 0 0)).cell? ⟨sb,3,U⟩=I (.map (I mb)):=(zgI _ _ _ _ ov).trans t;clear h n j i;go_enter Tryz.func77,Tryz.ntmps77;go_wp2_with fail
 go_end0
 have o:zf (λg=>g=sb\/g=mb) w w1:=(((zf.refl _ w).setCell (p:=⟨sb,2,U⟩) (.inl (.inl rfl)) (K U 0 0))).trans (a.mono (λk _ d=>.inr d));have c:¬zt mb sb:=λe=>m e.symm;have b:=zb q;refine⟨rfl,b.clear o ?_ ?_ ?_ ?_ ?_ r,o.mono (λk _ d=>by rcases d with rfl|rfl;exact b.osb;exact b.omb)⟩;exact zg a _ _ ((zgI _ _ _ _ ov).trans b.c0) c;exact zg a _ _ ((zgI _ _ _ _ ov).trans b.c1) c;exact zg a _ _ (zgL _ _ _ f) c;exact zg a _ _ u c;exact zo a _ (by rw[World.size_setCell];exact zgF w _ f) ((zk _ _ _ _).trans s) c
def Tch (sb mb:Nat)(sv:Y)(g:Nat):Prop:=g=sb\/g=mb\/sv.ownBlock=I g
theorem Sto.tch {O D:Nat->Prop}{sb pb mb most:Nat}{N:List Stp}{X:Fnd.St->Nat->Fnd.St->Prop}{es:List Ent}{sv:Y}(h:Sto w O D sb pb mb most N X es sv){g:Nat}(a:Tch sb mb sv g):O g:=by rcases a with rfl|rfl|a;exact h.osb;exact h.omb;exact(h.rown g a).1
theorem push_fin {c h o:World}{O D E:Nat->Prop}{sb pb mb most:Nat}{N:List Stp}{X:Fnd.St->Nat->Fnd.St->Prop}{es:List Ent}{sv sv' t:Y}{s:Fnd.St}(a:Sto c O D sb pb mb most N X es sv)(u:ziE w c)(z:∀g,E g->¬O g/\g<w.heap.size)(ad:kK w E t s.ps)(ac:s.OK N)(j:zf (λk=>sv.ownBlock=I k) c h) (B:h.ownsRow 0 197 4 sv' (es.length+1) (q8 es++[t,C s.b,C s.w,.map (I c.heap.size)])) (v:∀g,sv'.ownBlock=I g->sv.ownBlock=I g\/c.heap.size<=g) (T:jB h c.heap.size [])(W:jB o mb (nums es++[(keyV s,M J (es.length:Nat))])) (d:zf (zt mb) (h.setCell ⟨sb,2,U⟩ sv') o):∃(i:Nat) (e:Ent) (r:List Ent) (ah:Y) (O':Nat->Prop),Ending.returned (M J (es.length:Nat))=R (M J (i:Nat))/\r[i]?=I e/\e.s=s/\Sto o O' (λg=>D g\/E g) sb pb mb most N X r ah/\(r=es\/∃S,r=es++[S])/\(∀g,O g->O' g)/\(∀g,O' g->O g\/w.heap.size<=g)/\zf (Tch sb mb sv) w o:=by
 have ag:=a.olt _ a.osb;have ai:=a.olt _ a.omb;have aa:=a.mbRow.2;have n:¬sv.ownBlock=I sb:=λe=>(a.rown sb e).2 rfl;have ab:jB h mb (nums es):=a.num.keep j a.mbRow.1;have ae:=Q7 ab B;have af:∀g,sv'.ownBlock=I g->g≠sb:=λg b=>by rcases v g b with q|q;exact(a.rown g q).2;omega
 have x:zf (λk=>k=sb) h (h.setCell ⟨sb,2,U⟩ sv'):=(zf.refl (λk=>k=sb) h).setCell (p:=⟨sb,2,U⟩) (.inl rfl) _;have m:¬zt mb sb:=λe=>aa e.symm;have P:=zg j _ _ a.c2 n;have L:zf (λg=>g=sb\/g=mb\/sv.ownBlock=I g) c o:=((j.mono (λk _ l=>.inr (.inr l))).trans (x.mono (λk _ l=>.inl l))).trans (d.mono (λk _ l=>.inr (.inl l)));have aj:=d.size;have F:=u.size;have key:=a.push (E:=E) (sv':=sv') (e:=⟨s,t,c.heap.size⟩) L
  (zg d _ _ ((zgI _ _ _ _ ov).trans (zg j _ _ a.c0 n)) m) (zg d _ _ ((zgI _ _ _ _ ov).trans (zg j _ _ a.c1 n)) m)
  (zg d _ _ (zgL _ _ _ P) m) (zg d _ _ ((zgI _ _ _ _ ov).trans (zg j _ _ a.c3 n)) m)
  (zo d _ (by rw[World.size_setCell];exact zgF h _ P) ((zk _ _ _ _).trans (zo j _ ag a.f2 n)) m)
  (zl (zl B x (λg b e=>af g b e)) d (λg b e=>ae (by have y:g=mb:=e;rw[<-y];exact b))) v W (zgH _)
  ((T.keep x (λe=>oa)).keep d (λe=>by have y:c.heap.size=mb:=e;omega)) (ad.keep u (λ_ _ f=>f)) (λg b=>⟨(z g b).1,zgJ (z g b).2 F⟩) ac
 refine⟨es.length,⟨s,t,c.heap.size⟩,_,_,_,rfl,ov,rfl,key,.inr ⟨_,rfl⟩,λg b=>.inl b,λg b=>?_,(u.mono (λ_ _ f=>f.elim)).trans (L.mono (λk _ l=>l))⟩;rcases b with b|rfl|b;exact .inl b;exact .inr F;rcases v g b with q|q;exact .inl (a.rown g q).1;exact .inr oa
theorem YG (O D E:Nat → Prop)(N:List Stp)(X:Fnd.St → Nat → Fnd.St → Prop)(es:List Ent)(sv pv:Value)(s:Fnd.St)(w:World)(h:Sto w O D sb pb mb most N X es sv)(hE:∀ g, E g → ¬ O g ∧ g < w.heap.size)(hpl:kK w E pv s.ps)(hok:s.OK N)(hN:N.length ≤ 300)(hl:es.length ≤ 1000)(htab:Lib.TabIs Tryz.prog w "internal/strconv.uint64pow10" .u64 Lib.pow10Tab) :
  Calls Tryz.prog 78 #[.pointer (some ⟨sb,0,none⟩),stV pv s.b s.w] w fun x l=>∃(i:Nat) (e:Ent) (es':List Ent) (sv':Value) (O':Nat->Prop),x=.returned (.int .i64 (i:Nat))/\es'[i]?=some e/\e.s=s/\Sto l O' (fun g=>D g\/E g) sb pb mb most N X es' sv'/\(es'=es\/∃e',es'=es++[e'])/\(∀g,O g->O' g)/\(∀g,O' g->O g\/w.heap.size<=g)/\zf (Tch sb mb sv) w l:=by
 obtain⟨i0,hi0,hz0,hz1,hz2⟩:=info_parts Tryz.infoState;obtain⟨pa,pc,rfl⟩:=hpl.slice;obtain⟨ra,rc,rfl⟩:=h.slice;have HO1:Hid (ziE w (w.alloc (.cells #[.slice pa s.ps.length pc,.bool s.b,.bool s.w] 190))):=(zf.refl _ _).alloc _;have hlen:=hok.len;have HKey:=ze (key_any _ s.b s.w s.ps _ ((hpl.int).keep (zb HO1)) hok.ne oa (fun p hp=>by have:=hok.lt p hp;omega) (Lib.tabBelow_of_tabIs htab _ (zb HO1).belowB));have hz:∀w,(zeroValue 3).run Tryz.prog w=.ok (.int .i64 0) w:=fun w=>om
 have H1:=ze (h.young (zb HO1));have HE:=ze hE;have HP:=ze hpl;have HOK:=ze hok;have hsz1:(w.alloc (.cells #[.slice pa s.ps.length pc,.bool s.b,.bool s.w] 190)).heap.size=w.heap.size+1:=qN _ _;have HC:Hid ((w.alloc (.cells #[.slice pa s.ps.length pc,.bool s.b,.bool s.w] 190)).cell? ⟨w.heap.size,0,none⟩=some (.slice pa s.ps.length pc)/\(w.alloc (.cells #[.slice pa s.ps.length pc,.bool s.b,.bool s.w] 190)).cell? ⟨w.heap.size,1,none⟩=some (.bool s.b)/\(w.alloc (.cells #[.slice pa s.ps.length pc,.bool s.b,.bool s.w] 190)).cell? ⟨w.heap.size,2,none⟩=some (.bool s.w)):=⟨zm w _ rfl _ _ 0 _ rfl,zm w _ rfl _ _ 1 _ rfl,zm w _ rfl _ _ 2 _ rfl⟩
 have H:=ze h;unfold stV;clear h hE hpl hok htab;have hmm:=@run_makeMap Tryz.prog;go_enter Tryz.func78,Tryz.ntmps78;go_wp2_with(first
  |(go_at_call 129;refine(zb HKey).mono ?_;rintro e w2 ⟨rfl,hO2⟩;refine zb ?_))
 refine ze ?_;have h2:=(zb H1).young hO2;have hO02:=(zb HO1).trans hO2;obtain⟨d0,d1,d2⟩:=zb HC;have d0:=zg hO2 _ _ d0 (fun f=>f);have d1:=zg hO2 _ _ d1 (fun f=>f);have d2:=zg hO2 _ _ d2 (fun f=>f);have c2:=h2.c2;have c3:=h2.c3;rcases VX (P:=Tryz.prog) (w:=w2) (t:=176) (k:=9) (e:=3) (d:=.string) (z:=.int .i64 0) (key:=keyV s) (b:=mb) Tryz.underlying176 Tryz.underlying9 (hz w2) h2.num zbi (by simp[keyV,MapKept.IsKey]) with⟨v,hv,hrun⟩ |⟨hno,hrun⟩
 ·obtain⟨i,e,hi,hk,rfl⟩:=zbh hv;have hes:e.s=s:=(keyV_inj hk).symm;have HF:Hid (Sto w2 O (fun g=>D g\/E g) sb pb mb most N X es (.slice ra es.length rc)):=h2.more (fun g hg=>.inl hg) (fun g hg=>hg.elim (fun q=>⟨h2.dis g q,h2.dlt g q⟩) (fun q=>⟨(zb HE g q).1,zgJ (zb HE g q).2 hO02.size⟩));have HO:=ze hO02;have HI:=ze hi;have HS:=ze hes;clear h2 hO02 hi hes hk hv hO2 d0 d1 d2;unfold keyV at hrun;go_wp2_with(at_lookup;refine Kz _ rfl _ _ 176 rfl mb rfl _ rfl _ hrun ?_);go_ret;exact⟨i,e,es,_,O,rfl,zb HI,zb HS,zb HF,.inl rfl,fun g hg=>hg,fun g hg=>.inl hg,(zb HO).mono (fun _ _ f=>f.elim)⟩
 ·have HNo:=ze hno;have H2:=ze h2;have HO:=ze hO02;have HRow:=ze h2.row;have f2:=h2.f2;have hsbl:=h2.olt _ h2.osb;have hrs:=fun g hg=>(h2.rown g hg).2;have hrm:=(h2.mbRow).1;clear h2 hO02 hO2 hno;have kA:ziE w2 (w2.alloc (.map #[] 0)):=(zf.refl _ _).alloc _;have a0:=zg kA _ _ d0 (fun f=>f);have a1:=zg kA _ _ d1 (fun f=>f);have a2:=zg kA _ _ d2 (fun f=>f);have a3:=zg kA _ _ c2 (fun f=>f);clear kA;unfold keyV at hrun;go_wp2_with fail;go_region_law(refine qX rfl (.tmp 31) (.tmp 35) 177 rfl 0 197 i0 (.agg #[.slice none 0 0,.bool false,.bool false,.map none]) 4 40 Tryz.underlying177 hi0 hz0 hz1 hz2 rfl od (.slice ra es.length rc) _ (q8 es) (by simp[Act.eval]) (zl (zb HRow) (P:=fun _=>False) (by repeat (first |refine zf.alloc ?_ _ |refine zf.drew ?_ |refine zf.drewN ?_ _ |exact zf.refl _ _)) (fun _ _ f=>f)) ⟨w2.heap.size+1,0,none⟩ 1 1 [.slice pa s.ps.length pc,.bool s.b,.bool s.w,.map (some w2.heap.size)] (by simp[Act.eval]) rfl (four_new _ (w2.heap.size+1) ov _ _ _ _ _) (fun u hu=>by simp at hu;rcases hu with rfl |rfl |rfl |rfl<;>rfl) od (by unfold maxLen;omega) oa ov ?_;intro v' w4 hown' hgrow hsep;obtain⟨ya,yn,yc,rfl⟩:=zr hown';have oW:zf (fun k=>(Value.slice ra es.length rc).ownBlock=some k) w2 w4:=zf.grown (by repeat (first |exact zf.refl _ _ |refine zf.alloc ?_ _ |refine zf.drew ?_ |refine zf.drewN ?_ _)) hgrow (fun k hk=>.inl hk);have m2:=(oW.cell (p:=⟨sb,2,none⟩) hsbl (fun e=>hrs sb e rfl)).trans c2;have m3:=(oW.cell (p:=⟨sb,3,none⟩) hsbl (fun e=>hrs sb e rfl)).trans c3;have m0:=(oW.frozen (p:=⟨sb,2,none⟩) hsbl (fun e=>hrs sb e rfl)).trans f2;have HNew:Hid (jB w4 w2.heap.size []):=(by first |exact(jB.made w2 _ rfl).keep (zf.grown (by repeat (first |exact zf.refl _ _ |refine zf.alloc ?_ _ |refine zf.drew ?_ |refine zf.drewN ?_ _)) hgrow (fun k hk=>.inl hk)) (fun e=>by have:=(zh (zb HRow) _ e).2;omega) |exact(jB.made w2.drew _ rfl).keep (zf.grown (by repeat (first |exact zf.refl _ _ |refine zf.alloc ?_ _ |refine zf.drew ?_ |refine zf.drewN ?_ _)) hgrow (fun k hk=>.inl hk)) (fun e=>by have:=(zh (zb HRow) _ e).2;omega));have HW4:=ze oW;have HR4:=ze hown';have HSe:Hid (∀g,(Value.slice ya yn yc).ownBlock=some g->(Value.slice ra es.length rc).ownBlock=some g\/w2.heap.size<=g):=(fun g hg=>(hsep g hg).imp_right (fun q=>by simp at q;omega));clear oW hown' hgrow hsep)
  all_goals
   have hyn:yn=es.length+1:=(by rcases(zb HR4).2 with⟨e1,e2⟩ |⟨g',cap',cur,e1,_⟩<;>cases e1<;>first |rfl |omega);subst hyn;have hms:=(zb H2).mbRow.2;have HM5:Hid (jB (w4.setCell ⟨sb,2,none⟩ (.slice ya (es.length+1) yc)) mb (nums es)):=((zb H2).num.keep (zb HW4) hrm).keep ((zf.refl (fun k=>k=sb) w4).setCell (p:=⟨sb,2,none⟩) (.inl rfl) _) hms;have m3':(w4.setCell ⟨sb,2,none⟩ (.slice ya (es.length+1) yc)).cell? ⟨sb,3,none⟩=some (.map (some mb)):=(zgI _ _ _ _ ov).trans m3;clear a0 a1 a2 a3 d0 d1 d2 c2 c3 hrun f2 m3 m0;go_wp2_with(at_mapUpdate;refine XE _ rfl _ _ _ 176 rfl 9 3 .string Tryz.underlying176 Tryz.underlying9 mb (nums es) rfl (keyV s) (.int .i64 (es.length:Nat)) rfl rfl (zb HM5) zbi (by simp[keyV,MapKept.IsKey]) (zb HNo) ?_;intro w6 hm6 hO6;have HM6:=ze hm6;have HO6:=ze hO6;clear hm6 hO6);go_ret;exact push_fin (zb H2) (zb HO) (zb HE) (zb HP) (zb HOK) (zb HW4) (zb HR4) (zb HSe) (zb HNew) (zb HM6) (zb HO6)
structure ProgX (w:E)(A:Nat->Prop)(pb:Nat)(N:List Stp)(st:Nat)(W:Int->Bool)(cs:List Int):Prop where
 at':kr w A pb N st W
 cut:CutsB w A pb cs
 up:cs.Pairwise (· < ·)
 bd:∀x∈cs,0<=x/\x<=1114112
 al:∀c d,grp cs c=grp cs d->W c=W d/\∀s∈N,jC s c=jC s d
theorem ProgX.keep {P A:Nat->Prop}{w l:E}{pb h:Nat}{N:List Stp}{W:Int->Bool}{b:List Int}(a:ProgX w A pb N h W b)(k:zf P w l)(c:∀g,A g->¬P g):ProgX l A pb N h W b:=
 ⟨a.at'.keep k c,a.cut.keep k c a.at'.own,a.up,a.bd,a.al⟩
def qH (N:List Stp)(h:Nat)(W:Int->Bool)(a:List Int)(s:Fnd.St)(g:Nat)(b:Fnd.St):Prop:=∀c,grp a c=g->b=Fnd.aft N h W s c
def TabAt (w : E) : Prop := Lib.TabIs Tryz.prog w "internal/strconv.uint64pow10" .u64 Lib.pow10Tab
theorem tabNo : Tryz.prog.globalNamed "internal/strconv.uint64pow10" = I 11 := by kernel_rfl
theorem TabAt.lt (h:TabAt w):11<w.heap.size:=by
 unfold TabAt Lib.TabIs World.var? at h;rw[tabNo] at h;simp only[Option.bind_some] at h;rcases zhW 11 w.heap.size with a|a;exact a
 grind
theorem TabAt.keep {P:Nat->Prop}{w l:E}(h:TabAt w)(k:zf P w l)(b:¬P 11):TabAt l:=by have a:=h.lt;unfold TabAt Lib.TabIs World.var? at h ⊢;rw[tabNo] at h ⊢;simp only[Option.bind_some] at h ⊢;rw[k.block _ a b];exact h
structure Env (w:E)(A O:Nat->Prop)(pb:Nat)(N:List Stp)(st:Nat)(W:Int->Bool)(cs:List Int):Prop where
 prog:ProgX w A pb N st W cs
 tab:TabAt w
 ao:∀g,A g->¬O g
 ot:∀g,O g->g≠11
 alt:∀g,A g->g<w.heap.size
theorem Env.keep {A O O':Nat->Prop}{w l:World}{pb h:Nat}{N:List Stp}{W:Int->Bool}{cs:List Int}(a:Env w A O pb N h W cs)(k:zf O w l)(hO:∀g,O' g->O g\/w.heap.size<=g):Env l A O' pb N h W cs:=
 ⟨a.prog.keep k a.ao,a.tab.keep k (fun q=>a.ot _ q rfl),fun g hg q=>(hO g q).elim (a.ao g hg) (fun q=>by have:=a.alt g hg;omega),fun g hg e=>(hO g hg).elim (fun q=>a.ot g q e) (fun q=>by have:=a.tab.lt;omega),fun g hg=>zgJ (a.alt g hg) k.size⟩
theorem Env.young {A O:Nat->Prop}{w l:E}{pb h:Nat}{N:List Stp}{W:Int->Bool}{b:List Int}(a:Env w A O pb N h W b)(k:ziE w l):Env l A O pb N h W b:=a.keep (k.mono (λ_ _ f=>f.elim)) (λ_ c=>.inl c)
theorem kK.bound {A:Nat->Prop}{w:E}{v:Y}{ps:List Nat}(h:kK w A v ps)(f:0<ps.length):kK w (λg=>A g/\g<w.heap.size) v ps:=by obtain⟨g,b,c,d,e,a⟩:=h;exact⟨g,b,c,d,⟨e,zgF w _ (a 0 _ (zgE f))⟩,a⟩
def Leaves (w l:E)(O D:Nat->Prop)(sb pb mb most:Nat)(N:List Stp)(X:Fnd.St->Nat->Fnd.St->Prop)(s:Fnd.St)(d:Nat)(x:Ending):Prop:=
 ∃(j:Nat) (e:Ent) (a:List Ent) (f:Y) (c b:Nat->Prop),x=R (M J (j:Nat))/\a[j]?=I e/\e.s=s/\Sto l c b sb pb mb most N X a f/\a.length<=d/\(∀g,c g->O g\/w.heap.size<=g)/\(∀g,b g->D g\/w.heap.size<=g)/\zf O w l
theorem XR (A O D:Nat->Prop)(N:List Stp)(W:Int->Bool)(cs:List Int)(es:List Ent)(sv:Value)(e:Ent)(c:Int)(w:World)(hV:Env w A O pb N h W cs)(a:Sto w O D sb pb mb most N (qH N h W cs) es sv)(hi:es[i]?=some e)(hl:es.length<=1000):Calls Tryz.prog 81 #[.pointer (some ⟨sb,0,none⟩),.int .i64 (i:Nat),.int .i32 c] w fun x l=>Leaves w l O D sb pb mb most N (qH N h W cs) (Fnd.aft N h W e.s c) (es.length+1) x:=by
 obtain⟨g,cap,rfl,r0,r1,r2,r3⟩:=a.get hi;have hil:i<es.length:=(zgG.1 hi).1;have c0:=a.c0;have c2:=a.c2;obtain⟨o1,o2,hpl,hok,ms,hmap,hways⟩:=a.ent e (zgS hi);have hgr:=zfl pb cs c A w hV.prog.cut hV.prog.up hV.prog.bd;have HGr:=ze hgr;have hz:∀w,(zeroValue 3).run Tryz.prog w=.ok (.int .i64 0) w:=fun w=>om
 have b1:(0:Int)<=(i:Int):=oa
 have b2:(i:Int)<(es.length:Int):=oa
 obtain⟨pa,pc,hpe⟩:=hpl.slice;rcases VX (P:=Tryz.prog) (w:=w) (t:=195) (k:=3) (e:=3) (d:=.int .i64) (z:=.int .i64 0) (key:=.int .i64 (grp cs c:Nat)) (b:=e.nb) Tryz.underlying195 Tryz.underlying3 (hz w) hmap hways.key (by simp[MapKept.IsKey]) with⟨v,hv,hrun⟩ |⟨hno,hrun⟩
 ·obtain⟨g9,j,f,e1,e2,e3⟩:=hways _ hv;simp only[Prod.mk.injEq] at e1;obtain⟨e1a,rfl⟩:=e1;have hg9:grp cs c=g9:=by have h9:((grp cs c:Nat):Int)=(g9:Nat):=(by simpa using e1a);omega
  have HF:Hid (Leaves w w O D sb pb mb most N (qH N h W cs) (Fnd.aft N h W e.s c) (es.length+1) (.returned (.int .i64 (j:Nat)))):=⟨j,f,es,_,O,D,rfl,e2,e3 c hg9,a,oa,fun g hg=>.inl hg,fun g hg=>.inl hg,zf.refl _ _⟩
  clear a hV hpl hok hmap hways hv hgr e2 e3 hi e1a hg9;go_enter Tryz.func81,Tryz.ntmps81;go_wp2_with(go_at_call 130;refine ziD (zb HGr) ?_);go_ret;exact zb HF
 ·have HAf:Hid (∀V,ziE w V->Calls Tryz.prog 131 #[.pointer (some ⟨pb,0,none⟩),.agg #[e.pv,.bool e.s.b,.bool e.s.w],.int .i32 c] V fun x l=>∃sv',x=.returned (.agg #[sv',.bool (Fnd.aft N h W e.s c).b,.bool (Fnd.aft N h W e.s c).w])/\kK l (fun g=>V.heap.size<=g) sv' (Fnd.aft N h W e.s c).ps/\ziE V l):=fun V hV9=>zfr pb h N W e.pv e.s c A V (hV.prog.at'.keep hV9 (fun _ _ f=>f)) (hpl.int.keep hV9) hok;have H:=ze a;have HV:=ze hV;have HNo:=ze hno;have HM:=ze hmap;have HW:=ze hways;have HI:=ze hi;have HO2:=ze o2;have HNl:=ze hV.prog.at'.len;have hAok:(Fnd.aft N h W e.s c).OK N:=aft_ok W e.s c hV.prog.at'.stl;have HAok:=ze hAok;have HAl:Hid (∀s',s'=Fnd.aft N h W e.s c->qH N h W cs e.s (grp cs c) s'):=fun s' hs c' hc'=>by
   obtain⟨a1,a2⟩:=hV.prog.al c' c hc';rw[hs];exact(aft_alike a1 a2).symm
  rw[hpe] at r0 HAf;generalize Fnd.aft N h W e.s c=T at HAf HAok HAl ⊢;generalize hgc:grp cs c=gc at HGr HNo HAl hrun;clear a hV hpl hok hmap hways hgr hno hi hAok hpe o1 o2 hgc;go_enter Tryz.func81,Tryz.ntmps81;have HSn:Hid (∀w1 sv1,ziE w w1->kK w1 (fun g=>w.heap.size<=g) sv1 T.ps->Calls Tryz.prog 78 #[.pointer (some ⟨sb,0,none⟩),.agg #[sv1,.bool T.b,.bool T.w]] w1 fun x l=>∃(i:Nat) (e:Ent) (es':List Ent) (sv':Value) (O':Nat->Prop),x=.returned (.int .i64 (i:Nat))/\es'[i]?=some e/\e.s=T/\Sto l O' (fun g=>D g\/(w.heap.size<=g/\g<w1.heap.size)) sb pb mb most N (qH N h W cs) es' sv'/\(es'=es\/∃e',es'=es++[e'])/\(∀g,O g->O' g)/\(∀g,O' g->O g\/w1.heap.size<=g)/\zf (Tch sb mb (.slice (some ⟨g,0,none⟩) es.length cap)) w1 l):=fun w1 sv1 hO1 hp1=>
   YG sb pb mb most O D (fun g=>w.heap.size<=g/\g<w1.heap.size) N (qH N h W cs) es _ sv1 T w1 ((zb H).young hO1) (fun g hg=>⟨fun q=>by have:=(zb H).olt g q;omega,hg.2⟩) (hp1.bound (zb HAok).ne) (zb HAok) (zb HNl) hl ((zb HV).young hO1).tab
  go_wp2_with(go_at_call 130;refine ziD (zb HGr) ?_);go_region_with(first
   |(go_at_call 131;refine(zb HAf _ (by repeat (first |exact zf.refl _ _ |refine zf.alloc ?_ _ |refine zf.drew ?_ |refine zf.drewN ?_ _))).mono ?_;rintro e9 w1 ⟨sv1,rfl,hp1,hO1⟩;obtain⟨xa,xc,rfl⟩:=hp1.slice;have HO1:Hid (ziE w w1):=zf.trans (by repeat (first |exact zf.refl _ _ |refine zf.alloc ?_ _ |refine zf.drew ?_ |refine zf.drewN ?_ _)) hO1;have HP1:Hid (kK w1 (fun g=>w.heap.size<=g) (.slice xa T.ps.length xc) T.ps):=hp1.mono (fun g hg=>by first |exact hg |(simp at hg;omega));clear hp1 hO1)
   |(go_at_call 78;refine(zb HSn _ _ (zb HO1) (zb HP1)).mono ?_;rintro e9 w2 ⟨j,f,es',sv',O',rfl,hpost⟩;have HPost:=ze hpost;clear hpost))
  all_goals
   obtain⟨hj,hfs,h2,hes,hO1',hO2',hO2⟩:=zb HPost;have hext:∀(k:Nat) x,es[k]?=some x->es'[k]?=some x:=fun k x hk=>by
    rcases hes with rfl |⟨e',rfl⟩
    ·exact hk
    ·grind
   have hi2:=hext i e (zb HI);obtain⟨g2,cap2,rfl,r0',r1',r2',r3'⟩:=h2.get hi2;have c2':=h2.c2;have hnr:=(zb H).nbRow (zgS (zb HI));have hm2:jB w2 e.nb ms:=((zb HM).keep (zb HO1) (fun f=>f)).keep hO2 (fun q=>by
    rcases q with q |q |q
    ·exact hnr.2 q
    ·exact(zb HO2) q
    ·exact hnr.1 q)
   have HM2:=ze hm2;have HW2:Hid (Ways (qH N h W cs) es' e.s ms):=fun p hp=>by
    obtain⟨g9,j9,f9,a1,a2,a3⟩:=zb HW p hp;exact⟨g9,j9,f9,a1,hext j9 f9 a2,a3⟩
   have hil2:i<es'.length:=(zgG.1 hi2).1;have b2':(i:Int)<(es'.length:Int):=oa;have HF:Hid (∀w3,jB w3 e.nb (ms++[(.int .i64 (gc:Nat),.int .i64 (j:Nat))])->zf (zt e.nb) w2 w3->Leaves w w3 O D sb pb mb most N (qH N h W cs) T (es.length+1) (.returned (.int .i64 (j:Nat)))):=fun w3 hm3 hO3=>by
    have hs1:=(zb HO1).size;refine⟨j,f,es',_,O',_,rfl,hj,hfs,h2.way hi2 hj (zb HAl f.s hfs) (zb HW2) hO3 hm3,?_,fun g hg=>(hO2' g hg).imp_right (fun q=>oa),fun g hg=>hg.imp_right (fun q=>q.1),?_⟩
    ·rcases hes with rfl |⟨e',rfl⟩
     ·omega
     ·simp
    ·have k1:zf O w w2:=((zb HO1).mono (fun _ _ f=>f.elim)).trans (hO2.mono (fun g _ hg=>(zb H).tch hg));exact k1.trans (hO3.mono (fun g hg9 hg=>by have e1:g=e.nb:=hg;rw[e1];exact((zb H).ent e (zgS (zb HI))).1))
   clear hj hfs h2 hes hO1' hO2' hO2 hext hi2 hm2 HSn HM HW r0 r1 r2 r3 c2 r0' r1' r2' HPost;go_wp2_with(at_mapUpdate;refine XE _ rfl _ _ _ 195 rfl 3 3 (.int .i64) Tryz.underlying195 Tryz.underlying3 e.nb ms rfl (.int .i64 (gc:Nat)) (.int .i64 (j:Nat)) rfl rfl (zb HM2) (zb HW2).key (by simp[MapKept.IsKey]) (zb HNo) ?_;intro w3 hm3 hO3;have HL:=ze (zb HF w3 hm3 hO3);clear hm3 hO3);go_ret;exact zb HL
theorem Jz (A O D:Nat->Prop)(N:List Stp)(W:Int->Bool)(cs:List Int)(es:List Ent)(sv:Value)(e:Ent)(w:World)(hV:Env w A O pb N h W cs)(a:Sto w O D sb pb mb most N (qH N h W cs) es sv)(hi:es[i]?=some e):Calls Tryz.prog 80 #[.pointer (some ⟨sb,0,none⟩),.int .i64 (i:Nat)] w fun x l=>Leaves w l O D sb pb mb most N (qH N h W cs) e.s 1 x:=by
 obtain⟨g,cap,rfl,r0,r1,r2,r3⟩:=a.get hi;have hil:i<es.length:=(zgG.1 hi).1;have c2:=a.c2;obtain⟨_,_,hpl,hok,_⟩:=a.ent e (zgS hi);have b1:(0:Int)<=(i:Int):=oa
 have b2:(i:Int)<(es.length:Int):=oa
 obtain⟨pa,pc,hpe⟩:=hpl.slice;rw[hpe] at r0 hpl;have kA:∀o,ziE w (w.alloc o):=fun o=>(zf.refl _ _).alloc o;have r0':=fun o=>zg (kA o) _ _ r0 (fun f=>f);have r1':=fun o=>zg (kA o) _ _ r1 (fun f=>f);have r2':=fun o=>zg (kA o) _ _ r2 (fun f=>f);have c2':=fun o=>zg (kA o) _ _ c2 (fun f=>f);have H:=ze a;have HV:=ze hV;have HP:=ze hpl;have HOK:=ze hok;clear a hV hpl hok hi kA;go_enter Tryz.func80,Tryz.ntmps80;have HO1:Hid (ziE w (w.alloc (.cells #[.slice pa e.s.ps.length pc,.bool e.s.b,.bool e.s.w] 190))):=(zf.refl _ _).alloc _;have HKp:Hid (St3 (w.alloc (.cells #[.slice pa e.s.ps.length pc,.bool e.s.b,.bool e.s.w] 190)) w.heap.size (.slice pa e.s.ps.length pc) (.bool e.s.b) (.bool e.s.w)):=St3.new w _ rfl _ _ _ _;have HEm:=ze (VY sb pb mb most O D N (qH N h W cs) es _ _ ((zb H).young (zb HO1)));go_wp2_with(go_at_call 77;refine(zb HEm).mono ?_;rintro e9 w2 ⟨rfl,h2,hO2⟩;refine zb ?_);refine ze ?_;have kO:zf O w w2:=((zb HO1).mono (fun _ _ f=>f.elim)).trans hO2;have hno:¬O w.heap.size:=fun q=>by have:=(zb H).olt _ q;omega
 obtain⟨q0,q1,q2,_,_,_⟩:=(zb HKp).keep hO2 hno;have hV2:=(zb HV).keep (O':=O) kO (fun g hg=>.inl hg);have HSn:=ze (YG sb pb mb most O D D N (qH N h W cs) [] _ (.slice pa e.s.ps.length pc) e.s w2 h2 (fun g hg=>⟨h2.dis g hg,h2.dlt g hg⟩) ((zb HP).keep kO (fun g hg=>(zb H).dis g hg)) (zb HOK) (zb HV).prog.at'.len ov hV2.tab);unfold stV at HSn;have HF:Hid (∀x l,(∃(i:Nat) (f:Ent) (es':List Ent) (sv':Value) (O':Nat->Prop),x=.returned (.int .i64 (i:Nat))/\es'[i]?=some f/\f.s=e.s/\Sto l O' (fun g=>D g\/D g) sb pb mb most N (qH N h W cs) es' sv'/\(es'=[]\/∃e',es'=[]++[e'])/\(∀g,O g->O' g)/\(∀g,O' g->O g\/w2.heap.size<=g)/\zf (Tch sb mb (.slice none 0 0)) w2 l)->Leaves w l O D sb pb mb most N (qH N h W cs) e.s 1 x):=by
  rintro x l ⟨j,f,es',sv',O',rfl,a1,a2,a3,a4,a5,a6,a7⟩;have hs:=kO.size;refine⟨j,f,es',sv',O',_,rfl,a1,a2,a3,?_,fun g hg=>(a6 g hg).imp_right (fun q=>oa),fun g hg=>hg.elim .inl .inl,kO.trans (a7.mono (fun g _ hg=>h2.tch hg))⟩;rcases a4 with rfl |⟨e',rfl⟩<;>simp
 clear h2 hO2 kO hV2 HEm HKp;go_wp2_with(go_at_call 78;refine(zb HSn).mono ?_;intro e9 w3 hpost;have HL:=ze (zb HF _ _ hpost);(obtain⟨j,f,es',sv',O',rfl,_⟩:=hpost));go_ret;exact zb HL
def km (w:E)(B:Nat->Prop)(v:Y)(b:List Int):Prop:=(b=[]/\∃a c,v=K a 0 c)\/∃g d e,v=K (I ⟨g,d,U⟩) b.length e/\B g/\∀(j:Nat) k,b[j]?=I k->w.cell? ⟨g,d+j,U⟩=I (M J k)
theorem km.keep {P B:Nat->Prop}{w l:E}{v:Y}{b:List Int}(h:km w B v b)(k:zf P w l)(i:∀g,B g->¬P g):km l B v b:=by rcases h with h|⟨g,m,c,d,a,e⟩;exact .inl h;exact .inr ⟨g,m,c,d,a,λj x f=>zg k _ _ (e j x f) (i g a)⟩
theorem km.slice {B:Nat->Prop}{w:E}{v:Y}{b:List Int}(h:km w B v b):∃a c,v=K a b.length c:=by rcases h with⟨rfl,x,c,rfl⟩|⟨g,f,e,d,_⟩;exact⟨_,_,rfl⟩;exact⟨_,_,d⟩
theorem km.get {B:Nat->Prop}{w:E}{a:Option Addr}{c:Nat}{b:List Int}(h:km w B (K a b.length c) b){k:Nat}(d:k<b.length):∃g off,a=I ⟨g,off,U⟩/\w.cell? ⟨g,off+k,U⟩=I (M J b[k]):=by rcases h with⟨h,_⟩|⟨g,off,i,e,_,f⟩;rw[h] at d;simp at d;simp at e;exact⟨g,off,e.1,f k b[k] (zgE d)⟩
theorem zfA (s:Y)(b:List Int)(n:Nat)(B:Nat->Prop)(w:E)(h:km w B s b)(S:b.length<4611686018427387904)(X:n<=400):Uh Tryz.prog 75 #[s,M J (n:Nat)] w λx l=>∃g a,x=R (K (I ⟨g,0,U⟩) n n)/\kY l g a/\a.length=n/\w.heap.size<=g/\ziE w l:=by
 obtain⟨va,vc,rfl⟩:=h.slice;have W:=qP n oa;have t:=ze h;have j:H (ziE w (w.alloc (Ub (madeCells #[C Z] n) 4))):=(zf.refl _ _).alloc _;have i:H (kY (w.alloc (Ub (madeCells #[C Z] n) 4)) w.heap.size (List.replicate n Z)):=kY.made w n;clear h;go_enter Tryz.func75,Tryz.ntmps75;go_wp2_with fail;go_loopw[12] (λk wr=>∃(m:Nat) (a:List Bool),k=M J m/\m<=b.length/\a.length=n/\H (ziE w wr)/\H (kY wr w.heap.size a)) (λk _=>b.length-(intOf k).toNat);exact⟨0,_,rfl,oa,ov,j,i⟩;clear j i;obtain⟨m,a,rfl,T,e,d,c⟩:=hrel;by_cases u:m<b.length
 .obtain⟨g,aa,rfl,o⟩:=t.get u;have L:=zg d _ _ o id;clear o;have v:(0:Int)<=(m:Int):=oa;have y:(m:Int)<(b.length:Int):=oa;generalize b[m]=k at *;by_cases N:0<=k
  .by_cases P:k<n
   .obtain⟨q,rfl⟩:∃q:Nat,k=q:=⟨k.toNat,oa⟩
    have r:q<a.length:=oa;have z:=c.c q _ (zgE r);have F:=c.f q _ (zgE r);go_wp2_with fail;exact⟨⟨m+1,a.set q G,by go_num,oa,by simpa using e,(d.setCell (p:=⟨w.heap.size,q,U⟩) (.inr (zgH _)) _),c.set q G⟩,by simp[intOf];omega⟩
   go_wp2_with fail;exact⟨⟨m+1,a,by go_num,oa,e,d,c⟩,by simp[intOf];omega⟩
  go_wp2_with fail;exact⟨⟨m+1,a,by go_num,oa,e,d,c⟩,by simp[intOf];omega⟩
 obtain rfl:m=b.length:=oa;go_wp2_with fail;go_ret;exact⟨_,a,rfl,c,e,zgH _,d⟩
set_option maxHeartbeats 8000000
theorem zf.laterO {P Q:Nat->Prop}{a w l:E}(h:zf P a w)(k:zf Q w l)(d:∀i,i<a.heap.size->Q i->P i):zf P a l:=
 ⟨k.os.trans h.os,k.tape.trans h.tape,k.output.trans h.output,zgN h.size k.size,λj b c=>(k.block j (zgJ b h.size) (λq=>c (d j b q))).trans (h.block j b c)⟩
theorem jo.keepP {P:Nat->Prop}{w l:E}{v:Y}{L:List (Int×Int)}(h:jo w v L)(k:zf P w l)(e:∀g,v.ownBlock=I g->¬P g):jo l v L:=by rcases h with h|⟨g,b,a,c,d⟩;exact .inl h;exact .inr ⟨g,b,a,c,d.keep k (e g (by rw[a];rfl))⟩
structure Seek (w1 wr:E)(A O:Nat->Prop)(sb pb mb most:Nat)(N:List Stp)(st:Nat)(W:Int->Bool)(cs:List Int)(D:Nat->Prop)(s:Fnd.St)(i:Nat)(O' D':Nat->Prop)(es:List Ent)(sv:Y):Prop where
 sto:Sto wr O' D' sb pb mb most N (qH N st W cs) es sv
 env:Env wr A O' pb N st W cs
 at':∃e,es[i]?=I e/\e.s=s
 len:es.length<=most
 oo:∀g,O' g->O g\/w1.heap.size<=g
 dd:∀g,D' g->D g\/w1.heap.size<=g
 only:zf O w1 wr
theorem Seek.young {w1 wr l:E}{A O D O' b:Nat->Prop}{sb pb mb most h i:Nat}{N:List Stp}{W:Int->Bool}{c:List Int}{s:Fnd.St}{es:List Ent}{sv:Y}(a:Seek w1 wr A O sb pb mb most N h W c D s i O' b es sv)(k:ziE wr l):Seek w1 l A O sb pb mb most N h W c D s i O' b es sv:=
 ⟨a.sto.young k,a.env.young k,a.at',a.len,a.oo,a.dd,a.only.laterO k (λ_ _ f=>f.elim)⟩
theorem Leaves.only {O D:Nat->Prop}{sb pb mb most b:Nat}{N:List Stp}{X:Fnd.St->Nat->Fnd.St->Prop}{s:Fnd.St}{x:Ending}(k:Leaves w l O D sb pb mb most N X s b x):zf O w l:=by obtain⟨j,e,f,g,d,c,_,_,_,_,_,_,_,a⟩:=k;exact a
theorem Seek.back {A O D O' c:Nat->Prop}{sb pb mb most h i:Nat}{N:List Stp}{W:Int->Bool}{d:List Int}{s:Fnd.St}{es:List Ent}{sv:Y}(a:Seek w1 wr A O sb pb mb most N h W d D s i O' c es sv)(k:ziE w w1):Seek w wr A O sb pb mb most N h W d D s i O' c es sv:=by have e:=k.size;exact⟨a.sto,a.env,a.at',a.len,λg b=>(a.oo g b).imp_right (λq=>oa),λg b=>(a.dd g b).imp_right (λq=>oa),(k.mono (λ_ _ f=>f.elim)).trans a.only⟩
theorem Leaves.seek {A O D O' i:Nat->Prop}{sb pb mb most h f:Nat}{N:List Stp}{W:Int->Bool}{d:List Int}{o:Fnd.St}{x:Ending}(k:Leaves wr l O' i sb pb mb most N (qH N h W d) o f x)(v:Env wr A O' pb N h W d)(w:∀g,O' g->O g\/w1.heap.size<=g)(z:∀g,i g->D g\/w1.heap.size<=g)(only:zf O w1 wr)(B:f<=most):∃j a sv' c b,x=R (M J (j:Nat))/\Seek w1 l A O sb pb mb most N h W d D o j c b a sv'/\a.length<=f:=by
 obtain⟨j,e,a,sv',c,b,rfl,p,r,s,t,u,y,m⟩:=k;have F:=only.size;refine⟨j,a,sv',c,b,rfl,⟨s,v.keep m u,⟨e,p,r⟩,oa,λg n=>?_,λg n=>?_,only.laterO m (λg n q=>(w g q).elim id (λq=>oa))⟩,t⟩
 grind
 grind
theorem Seek.on {A O D O' d:Nat->Prop}{sb pb mb most h i c:Nat}{N:List Stp}{W:Int->Bool}{b:List Int}{s f:Fnd.St}{es:List Ent}{sv:Y}{x:Ending}(a:Seek w1 wr A O sb pb mb most N h W b D s i O' d es sv)(k:Leaves wr l O' d sb pb mb most N (qH N h W b) f c x)(n:c<=most):∃j e sv' m g,x=R (M J (j:Nat))/\Seek w1 l A O sb pb mb most N h W b D f j m g e sv'/\e.length<=c:=k.seek a.env a.oo a.dd a.only n
theorem snumL (A O D:Nat->Prop)(N:List Stp)(W:Int->Bool)(cs:List Int)(es:List Ent)(sv pv:Value)(s:Fnd.St)(V w:World)(hV:Env V A O pb N h W cs)(a:Sto V O D sb pb mb most N (qH N h W cs) es sv)(k:ziE V w)(hp:kK w (fun g=>V.heap.size<=g) pv s.ps)(hok:s.OK N)(hl:es.length<=1000):Calls Tryz.prog 78 #[.pointer (some ⟨sb,0,none⟩),.agg #[pv,.bool s.b,.bool s.w]] w fun x l=>Leaves V l O D sb pb mb most N (qH N h W cs) s (es.length+1) x:=by
 refine(YG sb pb mb most O D (fun g=>V.heap.size<=g/\g<w.heap.size) N (qH N h W cs) es sv pv s w (a.young k) (fun g hg=>⟨fun q=>by have:=a.olt g q;omega,hg.2⟩) (hp.bound hok.ne) hok hV.prog.at'.len hl (hV.young k).tab).mono ?_;rintro x l ⟨j,e,es',sv',O',rfl,a1,a2,a3,a4,_,a6,a7⟩;have hs:=k.size;refine⟨j,e,es',sv',O',_,rfl,a1,a2,a3,?_,fun g hg=>(a6 g hg).imp_right (fun q=>oa),fun g hg=>hg.imp_right (fun q=>q.1),(k.mono (fun _ _ f=>f.elim)).trans (a7.mono (fun g _ hg=>a.tch hg))⟩;rcases a4 with rfl |⟨e',rfl⟩
 ·omega
 ·simp
theorem zfB (A O D:Nat->Prop)(N:List Stp)(W:Int->Bool)(cs:List Int)(es:List Ent)(sv tv ev:Value)(L:List (Int×Int))(ks:List Int)(w:World)(hV:Env w A O pb N h W cs)(b:Sto w O D sb pb mb most N (qH N h W cs) es sv)(hm1:2<=most)(hm2:most<=64)(hes:es.length<=most)(hL:jo w tv L)(hLo:∀g,tv.ownBlock=some g->¬O g/\g<w.heap.size)(hLl:L.length<=400)(hE:km w (fun _=>True) ev ks)(hkl:ks.length<4611686018427387904):Calls Tryz.prog 40 #[.pointer (some ⟨sb,0,none⟩),tv,ev] w fun x l=>∃(r:Bool) (i:Nat) (O' D':Nat->Prop) (es':List Ent) (sv':Value),x=.returned (.bool r)/\(r=true↔Fnd.hit N (Fnd.run N h W L L.length))/\Seek w l A O sb pb mb most N h W cs D (Fnd.run N h W L L.length) i O' D' es' sv':=by
 obtain⟨ta,tc,rfl⟩:=hL.slice;obtain⟨ea,ec,rfl⟩:=hE.slice;have c0:=b.c0;have HMk:=ze (zfA _ ks L.length _ w hE hkl hLl);have H:=ze b;have HV:=ze hV;have HL:=ze hL;have HLo:=ze hLo;clear b hV hL hLo hE;go_enter Tryz.func40,Tryz.ntmps40;go_wp2_with(go_at_call 75;refine(zb HMk).mono ?_;rintro e9 w1 ⟨ga,ms,rfl,hB,hml,hga,hO1⟩;refine zb ?_);refine ze ?_;have hgl:0<L.length->ga<w1.heap.size:=fun hp=>zgF w1 _ (hB.c 0 _ (zgE oa));have HB:=ze hB;have HO1:=ze hO1;have HF:=ze (KC sb pb mb most O D N (qH N h W cs) es sv w1 ((zb H).young hO1));have HFirst:Hid (∀V,zf O w1 V->Calls Tryz.prog 79 #[.pointer (some ⟨pb,0,none⟩)] V fun x l=>∃sv,x=.returned (.agg #[sv,.bool true,.bool false])/\kK l (fun g=>V.heap.size<=g) sv [h]/\ziE V l):=fun V k=>zfm pb h N W A V (((zb HV).young (zb HO1)).keep k (fun g hg=>.inl hg)).prog.at';clear hB hO1 HMk;by_cases hf:most<=es.length
 all_goals
  first
   |(rw[decide_eq_true hf] at HF;go_wp2_with(first |(go_at_call 76;refine(zb HF).mono ?_;rintro e9 wf ⟨rfl,hOf⟩;have HEm:=ze (VY sb pb mb most O D N (qH N h W cs) es sv wf ((zb H).young ((zb HO1).trans hOf)));have HOf:=ze hOf;clear hOf) |(go_at_call 77;refine(zb HEm).mono ?_;rintro e9 V0 ⟨rfl,h0,hO0⟩;have H0:=ze h0;have HO0:Hid (zf O w1 V0):=((zb HOf).mono (fun _ _ f=>f.elim)).trans hO0;have c0':=h0.c0;clear h0 hO0) |(go_at_call 79;refine zb ?_)))
   |(rw[decide_eq_false hf] at HF;go_wp2_with(first |(go_at_call 76;refine(zb HF).mono ?_;rintro e9 V0 ⟨rfl,hOf⟩;have H0:=ze ((zb H).young ((zb HO1).trans hOf));have HO0:Hid (zf O w1 V0):=hOf.mono (fun _ _ f=>f.elim);have c0':=(zb H0).c0;clear hOf) |(go_at_call 79;refine zb ?_)))
  refine ze ?_;refine(zb HFirst V0 (zb HO0)).mono ?_;rintro e9 w2 ⟨sv1,rfl,hp1,hO2⟩
  (obtain⟨xa,xc,rfl⟩:=hp1.slice)
  have HNu:=ze (snumL sb pb mb most h A O D N W cs _ _ _ (fst h) V0 w2 (((zb HV).young (zb HO1)).keep (zb HO0) (fun g hg=>.inl hg)) (zb H0) hO2 hp1 (fst_ok (zb HV).prog.at'.stl) (by first |omega |(simp;done) |(simp;omega)));clear hp1 hO2;go_wp2_with(go_at_call 78;refine(zb HNu).mono ?_;intro e9 w3 hLe;(obtain⟨j0,es0,sv0,O2,D2,rfl,hSk,_⟩:=hLe.seek (w1:=w1) (O:=O) (D:=D) (((zb HV).young (zb HO1)).keep (zb HO0) (fun g hg=>.inl hg)) (fun g hg=>.inl hg) (fun g hg=>.inl hg) (zb HO0) (by first |omega |(simp;done) |(simp;omega)));have HSk:=ze hSk;clear hSk hLe HNu);go_wp2_with fail;have hsk:=zb HSk;go_loopw[8,28] (fun nv k wr=>∃(m i:Nat) (O3 D3:Nat->Prop) (es3:List Ent) (sv3:Value),k=.int .i64 m/\nv=.int .i64 i/\m<=L.length/\Hid (Seek w1 wr A O sb pb mb most N h W cs D (Fnd.run N h W L m) i O3 D3 es3 sv3)) (fun _ k _=>L.length-(intOf k).toNat)
  case atStart=>exact⟨0,j0,O2,D2,es0,sv0,rfl,rfl,oa,HSk⟩
  case round=>
   clear HSk hsk;obtain⟨m,i,O3,D3,es3,sv3,rfl,rfl,hm,HS⟩:=hrel;by_cases hlt:m<L.length
   ·have hOf:∀g,(Value.slice ta L.length tc).ownBlock=some g->¬O g:=fun g hg=>(zb HLo g hg).1;obtain⟨g,cap,x0,hv,hcap,d1,d2⟩:=(((zb HL).keep (zb HO1)).keepP (zb HS).only hOf).get hlt;simp at hv;obtain⟨rfl,rfl⟩:=hv;have hBr:kY wr ga ms:=(zb HB).keep (zb HS).only (fun q=>by have:=(zb H).olt _ q;omega);have da:=hBr.c m _ (zgE oa);have b1:(0:Int)<=(m:Int):=oa;have b2:(m:Int)<(L.length:Int):=oa;have kA:ziE wr (wr.alloc (.cells #[.int .i64 x0,.int .i32 (zj L m)] 184)):=(zf.refl _ _).alloc _;have da':=zg kA _ _ da (fun f=>f);have HS9:=ze ((zb HS).young kA);have lc9:(wr.alloc (.cells #[.int .i64 x0,.int .i32 (zj L m)] 184)).cell? ⟨wr.heap.size,1,none⟩=some (.int .i32 (zj L m)):=zm wr _ rfl _ _ 1 _ rfl;have hno3:¬O3 wr.heap.size:=fun q=>(by have:=(zb HS).sto.olt _ q;omega);clear da hBr kA hOf;generalize ms[m]=a at *;cases a
    ·by_cases hfu:most<=es3.length
     ·have HFu:=ze (KC sb pb mb most O3 D3 N (qH N h W cs) es3 sv3 (wr.alloc (.cells #[.int .i64 x0,.int .i32 (zj L m)] 184)) (zb HS9).sto);rw[decide_eq_true hfu] at HFu;go_wp2_with(first
       |(go_at_call 76;refine(zb HFu).mono ?_;rintro e9 w4 ⟨rfl,hO4⟩;have HS4:=ze ((zb HS9).young hO4);have lc4:=zg hO4 _ _ lc9 (fun f=>f);clear hO4)
       |(go_at_call 80;(obtain⟨e7,he7,hes7⟩:=(zb HS4).at');refine(Jz sb pb mb most h i A O3 D3 N W cs es3 sv3 e7 _ (zb HS4).env (zb HS4).sto he7).mono ?_;intro e9 w5 hLe;rw[hes7] at hLe;have kq:=hLe.only;(obtain⟨i5,es5,sv5,O5,D5,rfl,hS5,hl5⟩:=(zb HS4).on hLe oa);have HS5:=ze hS5;have hl6:es5.length<most:=oa;have lc5:=zg kq _ _ lc4 hno3;clear hS5 hl5 hLe kq he7 hes7)
       |(go_at_call 81;(obtain⟨e8,he8,hes8⟩:=(zb HS5).at');refine(XR sb pb mb most h i5 A O5 D5 N W cs es5 sv5 e8 (zj L m) _ (zb HS5).env (zb HS5).sto he8 oa).mono ?_;intro e9 w6 hLe;rw[hes8] at hLe;(obtain⟨i6,es6,sv6,O6,D6,rfl,hS6,_⟩:=(zb HS5).on hLe oa);have HS6:=ze hS6;clear hS6 hLe he8 hes8))
      exact⟨⟨m+1,i6,O6,D6,es6,sv6,by go_num,rfl,oa,HS6⟩,by simp[intOf];omega⟩
     ·have HFu:=ze (KC sb pb mb most O3 D3 N (qH N h W cs) es3 sv3 (wr.alloc (.cells #[.int .i64 x0,.int .i32 (zj L m)] 184)) (zb HS9).sto);rw[decide_eq_false hfu] at HFu;go_wp2_with(first
       |(go_at_call 76;refine(zb HFu).mono ?_;rintro e9 w4 ⟨rfl,hO4⟩;have HS5:=ze ((zb HS9).young hO4);have lc4:=zg hO4 _ _ lc9 (fun f=>f);clear hO4)
       |(go_at_call 81;(obtain⟨e8,he8,hes8⟩:=(zb HS5).at');refine(XR sb pb mb most h i A O3 D3 N W cs es3 sv3 e8 (zj L m) _ (zb HS5).env (zb HS5).sto he8 oa).mono ?_;intro e9 w6 hLe;rw[hes8] at hLe;(obtain⟨i6,es6,sv6,O6,D6,rfl,hS6,_⟩:=(zb HS5).on hLe oa);have HS6:=ze hS6;clear hS6 hLe he8 hes8))
      exact⟨⟨m+1,i6,O6,D6,es6,sv6,by go_num,rfl,oa,HS6⟩,by simp[intOf];omega⟩
    ·go_wp2_with(first
       |(go_at_call 80;(obtain⟨e7,he7,hes7⟩:=(zb HS9).at');refine(Jz sb pb mb most h i A O3 D3 N W cs es3 sv3 e7 _ (zb HS9).env (zb HS9).sto he7).mono ?_;intro e9 w5 hLe;rw[hes7] at hLe;have kq:=hLe.only;(obtain⟨i5,es5,sv5,O5,D5,rfl,hS5,hl5⟩:=(zb HS9).on hLe oa);have HS5:=ze hS5;have hl6:es5.length<most:=oa;have lc5:=zg kq _ _ lc9 hno3;clear hS5 hl5 hLe kq he7 hes7)
       |(go_at_call 81;(obtain⟨e8,he8,hes8⟩:=(zb HS5).at');refine(XR sb pb mb most h i5 A O5 D5 N W cs es5 sv5 e8 (zj L m) _ (zb HS5).env (zb HS5).sto he8 oa).mono ?_;intro e9 w6 hLe;rw[hes8] at hLe;(obtain⟨i6,es6,sv6,O6,D6,rfl,hS6,_⟩:=(zb HS5).on hLe oa);have HS6:=ze hS6;clear hS6 hLe he8 hes8))
     exact⟨⟨m+1,i6,O6,D6,es6,sv6,by go_num,rfl,oa,HS6⟩,by simp[intOf];omega⟩
   ·obtain rfl:m=L.length:=oa;obtain⟨e7,he7,hes7⟩:=(zb HS).at';obtain⟨g7,cap7,rfl,r0,r1,r2,r3⟩:=(zb HS).sto.get he7;obtain⟨_,_,hpl,hok,_⟩:=(zb HS).sto.ent e7 (zgS he7);have k0:=(zb HS).sto.c0;have k2:=(zb HS).sto.c2;have hil:i<es3.length:=(zgG.1 he7).1;have b1:(0:Int)<=(i:Int):=oa;have b2:(i:Int)<(es3.length:Int):=oa;obtain⟨pa,pc,hpe⟩:=hpl.slice;have HMe:Hid (∀V,ziE wr V->Calls Tryz.prog 82 #[.pointer (some ⟨pb,0,none⟩),.agg #[e7.pv,.bool e7.s.b,.bool e7.s.w]] V fun x l=>∃r,x=.returned (.bool r)/\(r=true↔Fnd.hit N e7.s)/\ziE V l):=fun V hV9=>Kx pb h N W e7.pv e7.s A V ((zb HS).env.prog.at'.keep hV9 (fun _ _ f=>f)) (hpl.int.keep hV9) hok;rw[hpe] at r0 HMe;have HHe:=ze hes7;clear hpl hok hes7 hpe he7 r3;go_wp2_with fail;go_region_with(go_at_call 82;refine(zb HMe _ (by repeat (first |exact zf.refl _ _ |refine zf.alloc ?_ _ |refine zf.drew ?_ |refine zf.drewN ?_ _))).mono ?_;rintro e9 w9 ⟨r,rfl,hr,hO9⟩;have HR:=ze hr;have HO9:Hid (ziE wr w9):=zf.trans (by repeat (first |exact zf.refl _ _ |refine zf.alloc ?_ _ |refine zf.drew ?_ |refine zf.drewN ?_ _)) hO9;clear hr hO9)
    all_goals
     go_wp2_with fail;go_ret;refine⟨r,i,O3,D3,es3,_,rfl,?_,((zb HS).young (zb HO9)).back (zb HO1)⟩;rw[<-zb HHe];exact zb HR
end
