/- Find of the program and of the reference, of any bytes; a pattern that was read, with what its program asks. -/
import Derived.Test.YtcgleficedipkaaGreatDoorYLinALinF
import Derived.Test.YtcgleficedipkaaGreatDoorYLawAEndJ
namespace Go.Proofs.YtcgleficedipkaaGreatDoor
variable (s:ByteArray)
section
open Go.RowKit
open Sm (Stp Tree capT)
set_option maxHeartbeats 2000000
set_option maxRecDepth 1000000
theorem zgp (w:World)(t:Tree)(v:Int)(hv:v<300)(ht:Zu t)(hp:wQ s t v w) :
  Calls Tryz.prog 19 #[.string s] w fun x w'=>∃ g pb F W cs,x = .returned (.tuple #[.pointer (some ⟨g,0,none⟩),.int .i64 0,.int .i64 0])/\we w' (fun k=>w.heap.size<=k/\k<w'.heap.size) g pb (Sm.prg F t).2 (Sm.prg F t).1 W cs (v+1)/\Sm.WF F t/\Prg.Asks (Sm.prg F t).2 W/\Q8 w w':=by
 have HP:=zc hp;have HT:=zc ht;have hm:min (v+1) 301=v+1:=by omega
 clear hp ht;go_enter Tryz.func19,Tryz.ntmps19;go_wp2_with (first |(go_at_call 35;refine (zb HP).mono ?_;rintro e w1 ⟨⟨T,y,F,rfl,hq,hcap⟩,hO1⟩;have HV:=zc hq;have Hcap:=zc hcap;clear hq hcap) |(go_at_call 36;refine (qO F _ _ _ v (by have h9:=(zb HV).size;rw [zb Hcap] at h9;exact h9)).mono ?_;rintro e w3 ⟨rfl,hO3⟩;have HQ:Hid (vJ F w3 w3.heap.size (.iface T y) t):=⟨zA.keep hO3 (fun _ _ f=>f) F _ _ (zb HV) |> zA.mono (fun g hg _=>hg) F _ _,(zb HT F).1,(zb HT F).2.1⟩) |(go_at_call 37;refine (newX F t (.iface T y) _ (zb HQ) ⟨_,_,rfl⟩ (by have:=zb Hcap;omega)).mono ?_;rintro e w4 ⟨pb,W,cs,rfl,hPr,hW,hC1,hC2,hC3,hC4,hO4⟩;have HPr:=zc (⟨hPr.bound,hC1.cutsB,hC2,hC3,hC4⟩:ProgX w4 _ pb _ _ W cs);have HW:=zc (asks_of (zb HT F).2.2 hW);clear hPr hW hC1 hC2 hC3 hC4));go_ret3;have hs1:=hO1.size;have hs3:=hO3.size;have hs4:=hO4.size;have hk:Q8 w4 (w4.alloc (.cells #[.int .i64 (v+1),.pointer (some ⟨pb,0,none⟩)] 97)):=(ze.refl _ _).alloc _;have hz:=yX w4 (.cells #[.int .i64 (v+1),.pointer (some ⟨pb,0,none⟩)] 97);have h10:=(zb HPr).keep hk (fun _ _ f=>f);exact ⟨_,pb,F,W,cs,rfl,⟨⟨by omega,by rw [hz];omega⟩,zm _ _ rfl _ _ 0 _ rfl,zm _ _ rfl _ _ 1 _ rfl,⟨h10.at'.mono (fun k h=>⟨by omega,by rw [hz];omega⟩),h10.cut.mono (fun k h=>⟨by omega,by rw [hz];omega⟩),h10.up,h10.bd,h10.al⟩,fun k hk=>hk.2⟩,(zb HV).wf,zb HW,((hO1.trans hO3).trans hO4).alloc _⟩
def AnsF (s:ByteArray)(kids:List Tree)(r:Bool)(k p:Int):Prop:=
 (400<s.size/\r=false/\k=2/\p=400)\/(s.size<=400/\0<=(Ref.zo s).2/\r=false/\k=1/\p=(Ref.zo s).2)\/
 (s.size<=400/\(Ref.zo s).2<0/\k=0/\p=0/\(r=true↔∃ i j,i<=(Ref.zo s).1.length/\j<=(Ref.zo s).1.length/\Ref.altR (Ref.zo s).1 67 kids i j))
theorem AnsF.ex (kids:List Tree):∃ r k p,AnsF s kids r k p:=by
 by_cases hs:s.size<=400
 ·by_cases hc:0<=(Ref.zo s).2
  ·exact ⟨_,_,_,.inr (.inl ⟨hs,hc,rfl,rfl,rfl⟩)⟩
  ·classical
   exact ⟨decide _,0,0,.inr (.inr ⟨hs,by omega,rfl,rfl,decide_eq_true_iff⟩)⟩
 ·exact ⟨_,_,_,.inl ⟨by omega,rfl,rfl,rfl⟩⟩
theorem rfindF {s:ByteArray}{kids:List Tree}{r:Bool}{k p:Int}{ts:List Tok}{q:Nat}{w:World}(h:AnsF s kids r k p)(hP:PatR w q ts kids) :
  Calls Tryz.prog 57 #[.pointer (some ⟨q,0,none⟩),.string s] w fun x w'=>x = .returned (.tuple #[.bool r,.int .i64 k,.int .i64 p])/\Q8 w w':=by
 rcases h with ⟨h1,rfl,rfl,rfl⟩ |⟨h1,h2,rfl,rfl,rfl⟩ |⟨h1,h2,rfl,rfl,h3⟩
 ·exact zfR q s 2 400 w (by decide) (zhF s w h1)
 ·exact zfR q s 1 _ w (by decide) (text_bad s w h1 h2)
 ·refine (rfind_ok q s ts kids w hP h1 h2).mono ?_;rintro x w' ⟨b,rfl,hb,hO⟩;rw [YH.2 (hb.trans h3.symm)];exact ⟨rfl,hO⟩
def FindL (w w':World)(A O D:Nat->Prop)(fb sb pb mb most:Nat)(N:List Stp)(st:Nat)(W:Int->Bool)(cs:List Int)(es:List Ent)(k:Int):Prop:=
 ∃ (O' D':Nat->Prop) (es':List Ent) (sv':Value),Fdr w' A O' D' fb sb pb mb most N st W cs es' sv'/\(k=0->1<=es'.length)/\(k≠0->es'=es)/\(∀ g,O' g->O g\/w.heap.size<=g)/\(∀ g,D' g->D g\/w.heap.size<=g)/\ze O w w'
theorem lfindF {s:ByteArray}{t:Tree}{r:Bool}{k p:Int}{ts:List Tok}{F fb sb pb mb most:Nat}{A O D:Nat->Prop}{W:Int->Bool}{cs ks:List Int}{es:List Ent}{sv ev:Value}{w:World}{a:Nat->Addr}(h:AnsF s t.kids r k p)(hS:Start w a)(hF:Fdr w A O D fb sb pb mb most (Sm.prg F t).2 (Sm.prg F t).1 W cs es sv)(hA:Prg.Asks (Sm.prg F t).2 W)(hT:Eqv.TokC (Eqv.zer 22) ts t.kids)(h5:t.kind=5)(hw:Sm.WF F t)(hE:wk w (fun _=>True) ev ks)(hkl:ks.length<4611686018427387904) :
  Calls Tryz.prog 21 #[.pointer (some ⟨fb,0,none⟩),.string s,ev] w fun x w'=>x = .returned (.tuple #[.bool r,.int .i64 k,.int .i64 p])/\FindL w w' A O D fb sb pb mb most (Sm.prg F t).2 (Sm.prg F t).1 W cs es k:=by
 have hev:∃ x n c,ev = .slice x n c:=by obtain ⟨x,c,e⟩:=hE.slice;exact ⟨_,_,_,e⟩
 have key:∀ (k:Nat) w',k≠0->Q8 w w'->FindL w w' A O D fb sb pb mb most (Sm.prg F t).2 (Sm.prg F t).1 W cs es k:=fun k w' hk hO=>⟨O,D,es,sv,hF.young hO,fun e=>by omega,fun _=>rfl,fun g hg=>.inl hg,fun g hg=>.inl hg,hO.mono (fun _ _ f=>f.elim)⟩
 rcases h with ⟨h1,rfl,rfl,rfl⟩ |⟨h1,h2,rfl,rfl,rfl⟩ |⟨h1,h2,rfl,rfl,h3⟩
 ·exact (Vf fb s ev w a 2 400 hev hS (by decide) (by decide) (vA s 400 (by omega) w a hS.sents)).mono (fun x w' q=>⟨q.1,key 2 w' (by decide) q.2⟩)
 ·exact (Vf fb s ev w a 1 _ hev hS (by decide) (by decide) (ZB s 400 (by omega) h1 w a hS.sents hS.size h2)).mono (fun x w' q=>⟨q.1,key 1 w' (by decide) q.2⟩)
 ·refine (lfind_ok fb sb pb mb most _ A O D _ W cs es sv ev s ks w a hS hF hE hkl h1 h2).mono ?_;rintro x w' ⟨r',k',p',O',D',es',sv',rfl,hr,q1,q2,q3⟩;rcases hr with ⟨a1,_⟩ |⟨_,a2,_⟩ |⟨_,_,rfl,rfl,a5⟩
  ·omega
  ·omega
  ·have hsame:=Prg.yj.of s;have hlen:=hsame.len;have hX:=hF.env.prog.at';have e:r'=r:=YH.2 (a5.trans ((Fnd.found_iff hX.stl hX.fit).trans (Iff.trans ⟨fun ⟨i,j,b1,b2,b3⟩=>⟨i,j,by omega,by omega,(prg_altR hT h5 hw _ _ _).1 ((Prg.goP_same hsame hA b1).1 b3)⟩,fun ⟨i,j,b1,b2,b3⟩=>⟨i,j,by omega,by omega,(Prg.goP_same hsame hA (by omega)).2 ((prg_altR hT h5 hw _ _ _).2 b3)⟩⟩ h3.symm)));rw [e];exact ⟨rfl,O',D',es',sv',q1,q2,fun e=>absurd rfl e,q3⟩
open Sm (Stp Tree)
structure PatF (w:World)(ow:Nat->Nat)(gx gy pb F:Nat)(t:Tree)(W:Int->Bool)(cs:List Int)(ts:List Tok)(v:Int)(A:Nat->Prop):Prop where
 c:we w A gx pb (Sm.prg F t).2 (Sm.prg F t).1 W cs (v+1)
 a:∀ g,A g->ow g=1
 wf:Sm.WF F t
 asks:Prg.Asks (Sm.prg F t).2 W
 ref:∃ w0 base tv,(∀ k,base<=k->k<w0.heap.size->ow k=1)/\ze (fun k=>k<base) w0 w/\base<=gy/\w0.cell? ⟨gy,1,none⟩=some (.int .i64 (v+1))/\w0.cell? ⟨gy,0,none⟩=some tv/\ToksAt w0 base tv ts
 tok:Eqv.TokC (Eqv.zer 22) ts t.kids
 tb:∀ x∈ts,Ref.TokB x
 len:ts.length<=1000
 k5:t.kind=5
section
variable {w w':World} {ow ow':Nat->Nat} {gx gy pb F:Nat} {t:Tree} {W:Int->Bool} {cs:List Int} {ts:List Tok} {v:Int} {A P:Nat->Prop}
theorem PatF.keep (h:PatF w ow gx gy pb F t W cs ts v A)(k:ze P w w')(hn:∀ i,P i->ow i≠1):PatF w' ow gx gy pb F t W cs ts v A:=
 ⟨h.c.keep k (fun g hg p=>hn g p (h.a g hg)),h.a,h.wf,h.asks,by
  obtain ⟨w0,base,tv,h1,h2,r⟩:=h.ref;refine ⟨w0,base,tv,h1,h2.laterP k (fun i hi hp=>?_),r⟩;by_cases hb:i<base
  ·exact hb
  ·exact absurd (h1 i (by omega) hi) (hn i hp),h.tok,h.tb,h.len,h.k5⟩
theorem PatF.wide (h:PatF w ow gx gy pb F t W cs ts v A)(hS:∀ i,ow i=1->ow' i=1):PatF w ow' gx gy pb F t W cs ts v A:=
 ⟨h.c,fun g hg=>hS g (h.a g hg),h.wf,h.asks,by
  obtain ⟨w0,base,tv,h1,r⟩:=h.ref;exact ⟨w0,base,tv,fun k a b=>hS k (h1 k a b),r⟩,h.tok,h.tb,h.len,h.k5⟩
theorem PatF.use (h:PatF w ow gx gy pb F t W cs ts v A):PatR w gy ts t.kids/\w.cell? ⟨gy,1,none⟩=some (.int .i64 (v+1)):=by
 obtain ⟨w0,base,tv,h1,h2,h3,h4,h5,h6⟩:=h.ref;have hT:=TokSl.of (h6.keep h2 (fun g hg _=>by omega));have hc:=zg h2 _ _ h5 (show ¬gy<base by omega);refine ⟨⟨?_,h.tok,h.tb,h.len⟩,zg h2 _ _ h4 (show ¬gy<base by omega)⟩;rcases hT with ⟨rfl,rfl⟩ |⟨g,cap,rfl,e1,e2⟩
 ·exact ⟨none,0,hc,.inl ⟨rfl,rfl⟩⟩
 ·exact ⟨_,_,hc,.inr ⟨g,cap,rfl,e1,e2⟩⟩
end
structure FinQ where
 x:Nat
 y:Nat
 most:Nat
 used:Bool
def finCells:List FinQ->List Value
 | []=>[]
 |q :: r=>.pointer (some ⟨q.x,0,none⟩) :: .pointer (some ⟨q.y,0,none⟩) :: .int .i64 (q.most:Nat) :: .bool q.used :: finCells r
theorem zf5 (fs:List FinQ)(q:FinQ):finCells (fs++[q])=finCells fs++[.pointer (some ⟨q.x,0,none⟩),.pointer (some ⟨q.y,0,none⟩),.int .i64 (q.most:Nat),.bool q.used]:=by
 induction fs with
 |nil=>rfl
 |cons x r ih=>simp [finCells,ih]
theorem zeC:∀ (fs:List FinQ) (j:Nat) (q:FinQ),fs[j]?=some q->(finCells fs)[j*4]?=some (.pointer (some ⟨q.x,0,none⟩))/\(finCells fs)[j*4+1]?=some (.pointer (some ⟨q.y,0,none⟩))/\(finCells fs)[j*4+2]?=some (.int .i64 (q.most:Nat))/\(finCells fs)[j*4+3]?=some (.bool q.used)
 | [],j,q,h=>by simp at h
 |x :: r,0,q,h=>by
  simp only [wh,Option.some.injEq] at h;subst h;exact ⟨rfl,rfl,rfl,rfl⟩
 |x :: r,j+1,q,h=>by
  have:=zeC r j q (by simpa using h);rw [show (j+1)*4=j*4+4 by omega];exact this
theorem zfi:∀ (fs:List FinQ) (j:Nat) (q:FinQ),fs[j]?=some q->(finCells fs).set (j*4+3) (.bool true)=finCells (fs.set j { q with used:=true })
 | [],j,q,h=>by simp at h
 |x :: r,0,q,h=>by
  simp only [wh,Option.some.injEq] at h;subst h;rfl
 |x :: r,j+1,q,h=>by
  have:=zfi r j q (by simpa using h);rw [show (j+1)*4+3=(j*4+3)+4 by omega];simp only [finCells,List.set_cons_succ,this]
def FinL (w:World)(ow:Nat->Nat)(k:Nat)(q:FinQ)(u:Bool):Prop:=
 ∃ gx pb F t W cs ts v A O D sb mb es sv,PatF w ow gx q.y pb F t W cs ts v A/\Fdr w A O D q.x sb pb mb q.most (Sm.prg F t).2 (Sm.prg F t).1 W cs es sv/\(∀ g,O g\/D g\/g=q.x->ow g=k+2)/\(u=true->1<=es.length)/\(u=false->es=[])
theorem FinL.keep {P:Nat->Prop}{w w':World}{ow:Nat->Nat}{k:Nat}{q:FinQ}{u:Bool}(h:FinL w ow k q u)(o:ze P w w')(hn:∀ i,P i->ow i≠1/\ow i≠k+2/\i≠11):FinL w' ow k q u:=by
 obtain ⟨gx,pb,F,t,W,cs,ts,v,A,O,D,sb,mb,es,sv,h1,h2,h3,h4⟩:=h;exact ⟨gx,pb,F,t,W,cs,ts,v,A,O,D,sb,mb,es,sv,h1.keep o (fun i p=>(hn i p).1),h2.keep o (fun g p=>⟨fun e=>(hn g p).2.1 (h3 g (.inl e)),fun e=>(hn g p).2.1 (h3 g (.inr (.inl e))),fun e=>(hn g p).1 (h1.a g e),fun e=>(hn g p).2.1 (h3 g (.inr (.inr e))),(hn g p).2.2⟩),h3,h4⟩
theorem FinL.wide {w:World}{ow ow':Nat->Nat}{k:Nat}{q:FinQ}{u:Bool}(h:FinL w ow k q u)(hS:∀ i,ow i≠0->ow' i=ow i):FinL w ow' k q u:=by
 obtain ⟨gx,pb,F,t,W,cs,ts,v,A,O,D,sb,mb,es,sv,h1,h2,h3,h4⟩:=h;exact ⟨gx,pb,F,t,W,cs,ts,v,A,O,D,sb,mb,es,sv,h1.wide (fun i e=>(hS i (by omega)).trans e),h2,fun g hg=>(hS g (by have:=h3 g hg;omega)).trans (h3 g hg),h4⟩
def ListT (w:World)(ow:Nat->Nat)(v:Value):Prop:=∃ g n cap,v = .slice (some ⟨g,0,none⟩) n cap/\n<=1000000000000000000/\ow g=1/\∀ j,j<n->w.cell? ⟨g,j,none⟩=some (.int .i64 (-7))
def rT:Nat->TypeId
 |0=>64
 |1=>71
 |_=>27
def rZ:Nat->Nat
 |0=>2
 |1=>4
 |_=>1
def rC:Nat->Nat
 |0=>0
 |1=>1
 |_=>6
def rX (ps:List (Nat×Nat))(fs:List FinQ)(vs:List Value):Nat->List Value
 |0=>patCells ps
 |1=>finCells fs
 |_=>vs
def rN (ps:List (Nat×Nat))(fs:List FinQ)(vs:List Value):Nat->Nat
 |0=>ps.length
 |1=>fs.length
 |_=>vs.length
theorem rT_ne:∀ i,i<3->∀ j,j<3->i≠j->rT i≠rT j:=by decide
def cols (R:Nat->Value):List Value:=[R 0,R 1,.slice none 0 0,.slice none 0 0,.slice none 0 0,.slice none 0 0,R 2,.slice none 0 0,.slice none 0 0,.slice none 0 0]
def putR (R:Nat->Value)(i:Nat)(v:Value):Nat->Value:=fun j=>if j=i then v else R j
theorem cols_put (R:Nat->Value)(v:Value):∀ i,i<3->cols (putR R i v)=(cols R).set (rC i) v
 |0,_=>rfl
 |1,_=>rfl
 |2,_=>rfl
 |i+3,h=>absurd h (by omega)
theorem cols_at (R:Nat->Value):∀ i,i<3->(cols R)[rC i]?=some (R i)
 |0,_=>rfl
 |1,_=>rfl
 |2,_=>rfl
 |i+3,h=>absurd h (by omega)
structure FoR (wi w:World)(ow:Nat->Nat)(ps:List (Nat×Nat))(fs:List FinQ)(vs:List Value)(us:Nat->Bool)(R:Nat->Value):Prop where
 old:Q8 wi w
 tab:11<wi.heap.size
 lt:wi.heap.size<w.heap.size
 c:∀ j u,(cols R)[j]?=some u->w.cell? ⟨wi.heap.size,j,none⟩=some u
 fz:∀ j,w.frozen? ⟨wi.heap.size,j,none⟩=false
 row:∀ i,i<3->w.ownsRow (wi.heap.size+1) (rT i) (rZ i) (R i) (rN ps fs vs i) (rX ps fs vs i)
 own:∀ i,i<3->∀ g,(R i).ownBlock=some g->ow g=0
 sl:∀ k,ow k≠0->wi.heap.size<k/\k<w.heap.size
 pats:∀ q∈ps,∃ pb F t W cs ts v A,PatF w ow q.1 q.2 pb F t W cs ts v A
 fins:∀ k q,fs[k]?=some q->FinL w ow k q (us k)
 lst:∀ v∈vs,ListT w ow v
section
variable {wi w w':World} {ow ow':Nat->Nat} {ps ps':List (Nat×Nat)} {fs fs':List FinQ} {vs vs':List Value} {us us':Nat->Bool} {R:Nat->Value} {P:Nat->Prop}
theorem FoR.keep (h:FoR wi w ow ps fs vs us R)(k:ze P w w')(hP:∀ i,P i->ow i=0/\wi.heap.size<i/\∀ j,j<3->(R j).ownBlock≠some i):FoR wi w' ow ps fs vs us R:=by
 have hb:¬P wi.heap.size:=fun p=>by have:=(hP _ p).2.1;omega
 have ht:=h.tab;exact ⟨h.old.under k (fun j hj p=>by have:=(hP _ p).2.1;omega),h.tab,yh h.lt k.size,fun j u hu=>zg k _ _ (h.c j u hu) hb,fun j=>zP k _ h.lt (h.fz j) hb,fun i hi=>zn (h.row i hi) k (fun g hg p=>(hP g p).2.2 i hi hg),h.own,fun j hj=>⟨(h.sl j hj).1,yh (h.sl j hj).2 k.size⟩,
  fun q hq=>by
   obtain ⟨pb,F,t,W,cs,ts,v,A,hp⟩:=h.pats q hq;exact ⟨pb,F,t,W,cs,ts,v,A,hp.keep k (fun i p=>by have:=(hP i p).1;omega)⟩,
  fun j q hq=>(h.fins j q hq).keep k (fun i p=>by have:=hP i p;omega),
  fun v hv=>by
   obtain ⟨g,n,cap,e1,e2,e3,e4⟩:=h.lst v hv;exact ⟨g,n,cap,e1,e2,e3,fun j hj=>zg k _ _ (e4 j hj) (fun p=>by have:=(hP g p).1;omega)⟩⟩
theorem FoR.keep0 (h:FoR wi w ow ps fs vs us R)(k:Q8 w w'):FoR wi w' ow ps fs vs us R:=h.keep k (fun _ p=>p.elim)
theorem FoR.turn {n:Nat}(h:FoR wi w ow ps fs vs us R)(k:ze P w w')(hP:∀ i,P i->ow i=n+2)(h1:∀ i,i<w.heap.size->ow' i=ow i)(h2:∀ i,w'.heap.size<=i->ow' i=0)(hu:∀ j,j≠n->us' j=us j)(hf:∀ q,fs[n]?=some q->FinL w' ow' n q (us' n)):FoR wi w' ow' ps fs vs us' R:=by
 have hb:¬P wi.heap.size:=fun p=>by have e:=hP _ p;have:=h.sl _ (by rw [e];omega);omega
 have ht:=h.tab;have hw:∀ i,ow i≠0->ow' i=ow i:=fun i hi=>h1 i (h.sl i hi).2;have hr:∀ i,i<3->∀ g,(R i).ownBlock=some g->¬P g:=fun i hi g hg p=>by have:=hP g p;have:=h.own i hi g hg;omega
 exact ⟨h.old.under k (fun j hj p=>by have e:=hP _ p;have:=h.sl j (by rw [e];omega);omega),h.tab,yh h.lt k.size,fun j u hu=>zg k _ _ (h.c j u hu) hb,fun j=>zP k _ h.lt (h.fz j) hb,fun i hi=>zn (h.row i hi) k (hr i hi),fun i hi g hg=>(h1 g (zh (h.row i hi) g hg).2).trans (h.own i hi g hg),
  fun j hj=>⟨by
   by_cases hl:j<w.heap.size
   ·rw [h1 j hl] at hj;exact (h.sl j hj).1
   ·have:=h.lt;omega,by
   by_cases hl:j<w'.heap.size
   ·exact hl
   ·exact absurd (h2 j (by omega)) hj⟩,
  fun q hq=>by
   obtain ⟨pb,F,t,W,cs,ts,v,A,hp⟩:=h.pats q hq;exact ⟨pb,F,t,W,cs,ts,v,A,(hp.keep k (fun i p=>by have:=hP i p;omega)).wide (fun i e=>(hw i (by omega)).trans e)⟩,
  fun j q hq=>by
   by_cases e:j=n
   ·subst e;exact hf q hq
   ·rw [hu j e];exact ((h.fins j q hq).keep k (fun i p=>by have e2:=hP i p;have:=h.sl i (by rw [e2];omega);omega)).wide hw,
  fun v hv=>by
   obtain ⟨g,n',cap,e1,e2,e3,e4⟩:=h.lst v hv;exact ⟨g,n',cap,e1,e2,(hw g (by omega)).trans e3,fun j hj=>zg k _ _ (e4 j hj) (fun p=>by have:=hP g p;omega)⟩⟩
theorem FoR.label (h:FoR wi w ow ps fs vs us R)(h1:∀ i,ow i≠0->ow' i=ow i)(h2:∀ i,ow' i≠0->ow i≠0\/(wi.heap.size<i/\i<w.heap.size/\∀ j,j<3->(R j).ownBlock≠some i)):FoR wi w ow' ps fs vs us R:=
 ⟨h.old,h.tab,h.lt,h.c,h.fz,h.row,fun i hi g hg=>Decidable.byContradiction fun e=>(h2 g e).elim (fun q=>q (h.own i hi g hg)) (fun q=>q.2.2 i hi hg),fun k hk=>(h2 k hk).elim (h.sl k) (fun q=>⟨q.1,q.2.1⟩),
  fun q hq=>by
   obtain ⟨pb,F,t,W,cs,ts,v,A,hp⟩:=h.pats q hq;exact ⟨pb,F,t,W,cs,ts,v,A,hp.wide (fun i e=>(h1 i (by omega)).trans e)⟩,
  fun j q hq=>(h.fins j q hq).wide h1,
  fun v hv=>by
   obtain ⟨g,n,cap,e1,e2,e3,e4⟩:=h.lst v hv;exact ⟨g,n,cap,e1,e2,(h1 g (by omega)).trans e3,e4⟩⟩
theorem FoR.reus (h:FoR wi w ow ps fs vs us R)(e:∀ k,k<fs.length->us' k=us k):FoR wi w ow ps fs vs us' R:=
 ⟨h.old,h.tab,h.lt,h.c,h.fz,h.row,h.own,h.sl,h.pats,fun k q hq=>by rw [e k (yd.1 hq).1];exact h.fins k q hq,h.lst⟩
theorem FoR.put {i:Nat}{v':Value}(hi:i<3)(h:FoR wi w ow ps fs vs us R)(k:ze (fun x=>(R i).ownBlock=some x) w w')(hr:w'.ownsRow (wi.heap.size+1) (rT i) (rZ i) v' (rN ps' fs' vs' i) (rX ps' fs' vs' i))(hb:∀ x,v'.ownBlock=some x->(R i).ownBlock=some x\/w.heap.size<=x)
  (he:∀ j,j<3->j≠i->rN ps' fs' vs' j=rN ps fs vs j/\rX ps' fs' vs' j=rX ps fs vs j) (hp:∀ q∈ps',∃ pb F t W cs ts v A,PatF w ow q.1 q.2 pb F t W cs ts v A) (hf:∀ k q,fs'[k]?=some q->FinL w ow k q (us k)) (hl:∀ v∈vs',ListT w ow v):FoR wi (w'.setCell ⟨wi.heap.size,rC i,none⟩ v') ow ps' fs' vs' us (putR R i v'):=by
 have hbl:∀ x,(R i).ownBlock=some x->wi.heap.size<x:=fun x hx=>by have:=(zh (h.row i hi) x hx).1;omega
 have hn:¬(R i).ownBlock=some wi.heap.size:=fun e=>by have:=hbl _ e;omega
 have k2:ze (zt wi.heap.size) w' (w'.setCell ⟨wi.heap.size,rC i,none⟩ v'):=(ze.refl _ _).mine _ _;have hM:∀ x,wi.heap.size+1<=x->¬zt wi.heap.size x:=fun x hx e=>by have:x=wi.heap.size:=e;omega
 have ht:=h.tab;have hk:ze (fun x=>(R i).ownBlock=some x\/x=wi.heap.size) w (w'.setCell ⟨wi.heap.size,rC i,none⟩ v'):=(k.mono (fun _ _ e=>.inl e)).setCell (p:=⟨wi.heap.size,rC i,none⟩) (.inl (.inr rfl)) _;have h0:∀ x,(R i).ownBlock=some x\/x=wi.heap.size->ow x=0/\wi.heap.size<=x:=fun x hx=>hx.elim (fun e=>⟨h.own i hi x e,Nat.le_of_lt (hbl x e)⟩) (fun e=>by
  subst e;exact ⟨Decidable.byContradiction fun e=>by have:=h.sl _ e;omega,z8 _⟩)
 exact ⟨(h.old.under k (fun j hj e=>by have:=hbl _ e;omega)).under k2 (fun j hj e=>by have:j=wi.heap.size:=e;omega),h.tab,by have:=k.size;have:=h.lt;simp;omega,
  fun j u hu=>by
   rw [cols_put _ _ _ hi,List.getElem?_set] at hu;split at hu
   ·rename_i e;subst e;split at hu
    ·cases hu;exact yY _ _ _ (zg k _ _ (h.c _ _ (cols_at R i hi)) hn)
    ·cases hu
   ·rename_i e;exact zfP e (zg k _ _ (h.c j u hu) hn),
  fun j=>by rw [Xm];exact zP k _ h.lt (h.fz j) hn,
  fun j hj=>by
   unfold putR;by_cases e:j=i
   ·subst e;rw [if_pos rfl];exact zn hr k2 (fun g hg=>hM g (zh hr g hg).1)
   ·rw [if_neg e,(he j hj e).1,(he j hj e).2];exact zn (zn (h.row j hj) k (fun g hg=>own_ne (h.row j hj) (h.row i hi) (rT_ne j hj i hi e) g hg)) k2 (fun g hg=>hM g (zh (h.row j hj) g hg).1),
  fun j hj g hg=>by
   unfold putR at hg;by_cases e:j=i
   ·rw [if_pos e] at hg;rcases hb g hg with e |e
    ·exact h.own i hi g e
    ·exact Decidable.byContradiction fun q=>by have:=h.sl g q;omega
   ·rw [if_neg e] at hg;exact h.own j hj g hg,
  fun j hj=>⟨(h.sl j hj).1,by have:=(h.sl j hj).2;have:=k.size;simp;omega⟩,
  fun q hq=>by
   obtain ⟨pb,F,t,W,cs,ts,v,A,hp⟩:=hp q hq;exact ⟨pb,F,t,W,cs,ts,v,A,hp.keep hk (fun i p=>by have:=(h0 i p).1;omega)⟩,
  fun j q hq=>(hf j q hq).keep hk (fun i p=>by have:=h0 i p;omega),
  fun v hv=>by
   obtain ⟨g,n,cap,e1,e2,e3,e4⟩:=hl v hv;exact ⟨g,n,cap,e1,e2,e3,fun j hj=>zg hk _ _ (e4 j hj) (fun p=>by have:=(h0 g p).1;omega)⟩⟩
theorem FoR.used {n g m cap:Nat}{q:FinQ}(h:FoR wi w ow ps fs vs us R)(hq:fs[n]?=some q)(hR:R 1 = .slice (some ⟨g,0,none⟩) m cap):FoR wi (w.setCell ⟨g,n*4+3,none⟩ (.bool true)) ow ps (fs.set n { q with used:=true }) vs us R:=by
 have k:ze (zt g) w (w.setCell ⟨g,n*4+3,none⟩ (.bool true)):=(ze.refl _ _).mine _ _;have hg:(R 1).ownBlock=some g:=by rw [hR];rfl
 have hgb:=zh (h.row 1 (by decide)) g hg;have h0:=h.own 1 (by decide) g hg;have ht:=h.tab;have hlt:=h.lt;have hM:∀ x,zt g x->x=g:=fun _ e=>e;refine ⟨h.old.under k (fun j hj e=>by have:=hM j e;omega),h.tab,by simp;omega,fun j u hu=>zg k _ _ (h.c j u hu) (fun e=>by have:=hM _ e;simp at this;omega),fun j=>by rw [Xm];exact h.fz j,fun i hi=>?_,h.own,fun j hj=>by have:=h.sl j hj;simp;omega,
  fun q hq=>by
   obtain ⟨pb,F,t,W,cs,ts,v,A,hp⟩:=h.pats q hq;exact ⟨pb,F,t,W,cs,ts,v,A,hp.keep k (fun i p=>by have:=hM i p;subst this;omega)⟩,
  fun j q' hq'=>?_,
  fun v hv=>by
   obtain ⟨g',n,cap,e1,e2,e3,e4⟩:=h.lst v hv;exact ⟨g',n,cap,e1,e2,e3,fun j hj=>zg k _ _ (e4 j hj) (fun p=>by have:=hM g' p;subst this;omega)⟩⟩
 ·by_cases e:i=1
  ·subst e;have h1:=h.row 1 hi;rw [hR] at h1 ⊢;have hm:m=fs.length:=(by rcases h1.2 with ⟨e,_⟩ |⟨_,_,_,e,_⟩<;>cases e;rfl);subst hm;have:=Xb (i:=n*4+3) h1 (.bool true);show World.ownsRow _ _ (rT 1) (rZ 1) _ (fs.set n _).length (finCells (fs.set n _));rw [ve,<-zfi fs n q hq];exact this
  ·have h1:=zn (h.row i hi) k (fun x hx e2=>own_ne (h.row i hi) (h.row 1 (by decide)) (rT_ne i hi 1 (by decide) e) x hx (by rw [hM x e2];exact hg))
   match i,e,hi,h1 with
   |0,_,_,h1=>exact h1
   |2,_,_,h1=>exact h1
   |i+3,_,hi,_=>exact absurd hi (by omega)
 ·have hk:∀ i,zt g i->ow i≠1/\ow i≠j+2/\i≠11:=fun i p=>by have:=hM i p;subst this;omega
  rw [List.getElem?_set] at hq';split at hq'
  ·rename_i e;subst e;split at hq'
   ·cases hq';exact (h.fins n q hq).keep k hk
   ·cases hq'
  ·exact (h.fins j q' hq').keep k hk
end
end
end Go.Proofs.YtcgleficedipkaaGreatDoor
