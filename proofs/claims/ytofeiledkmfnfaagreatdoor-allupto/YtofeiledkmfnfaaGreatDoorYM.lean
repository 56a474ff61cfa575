/- The store of the statement over scripts with finders: patterns, finders, lists that were handed in. -/
import Derived.Test.YtofeiledkmfnfaaGreatDoorYL
import Derived.Deep.Slices
import Derived.ChangeArms
namespace Go.Proofs.YtofeiledkmfnfaaGreatDoor
open World renaming heap->u,cell?->T,cell?->dx,frozen?->dz,ownsRow->dA,alloc->dB,setCell->dC
open _root_.Array renaming size->S,size->dg
open Value renaming ownBlock->dH
open List renaming replicate->dK
open Option renaming none->U,some->I
open IntKind renaming i64->J
open Bool renaming false->Z,true->G
open Value renaming bool->C,pointer->Ua,string->Uc,tuple->Ue,agg->Uf
open Go renaming Value->Y,Calls->Uh
open Or renaming inr->O
open Obj renaming cells->Ub
open Ref Sm TC Tw
open _root_.Go.Proofs.Tryz
open List renaming length->D
set_option maxHeartbeats 8000000
set_option maxRecDepth 1000000
variable {vs:Nat->An}{X:An}(w:World){i k n j:Nat}{x L M:An}
section
open Go.RowKit
open Sm (Stp Tree)
structure XE (w:World)(ow:Ak)(gx gy pb F:Nat)(t:Tree)(W:Am)(cs:Ar)(ts:As)(v:Int)(A:Aj):Prop where
 c:TM w A gx pb (AR F t).2 (AR F t).1 W cs (v+1)
 a:∀g,A g->ow g=1
 wf:WF F t
 asks:BV (AR F t).2 W
 ref:∃w0 base tv,(∀k,base<=k->k<S (u w0)->ow k=1)/\zg (λk=>k<base) w0 w/\base<=gy/\T w0 ⟨gy,1,U⟩=I (.int J (v+1))/\T w0 ⟨gy,0,U⟩=I tv/\xK w0 base tv ts
 tok:vY (qH 22) ts t.kids
 tb:∀x∈ts,kG x
 len:D ts<=1000
 k5:t.kind=5
section
variable {w w':World} {ow ow':Ak} {gx gy pb F:Nat} {t:Tree} {W:Am} {cs:Ar} {ts:As} {v:Int} {A P:Aj}
theorem XE.keep (h:XE w ow gx gy pb F t W cs ts v A)(k:zg P w w')(b:∀i,P i->ow i≠1):XE w' ow gx gy pb F t W cs ts v A:=
 ⟨h.c.keep k (λg e p=>b g p (h.a g e)),h.a,h.wf,h.asks,by
  have⟨m,base,l,a,c,r⟩:=h.ref;refine⟨m,base,l,a,c.Od k (λi f j=>?_),r⟩;by_cases d:i<base;exact d;exact absurd (a i oa f) (b i j),h.tok,h.tb,h.len,h.k5⟩
theorem XE.wide (h:XE w ow gx gy pb F t W cs ts v A)(c:∀i,ow i=1->ow' i=1):XE w ow' gx gy pb F t W cs ts v A:=
 ⟨h.c,λg e=>c g (h.a g e),h.wf,h.asks,by
  have⟨j,base,f,d,r⟩:=h.ref;exact⟨j,base,f,λk a b=>c k (d k a b),r⟩,h.tok,h.tb,h.len,h.k5⟩
theorem XE.use (h:XE w ow gx gy pb F t W cs ts v A):UD w gy ts t.kids/\T w ⟨gy,1,U⟩=I (.int J (v+1)):=by have⟨p,base,o,l,a,m,f,i,j⟩:=h.ref;have k:=TF.of (j.keep a (λg n _=>oa));have b:=zf a _ _ i (show ¬gy<base by omega);refine⟨⟨?_,h.tok,h.tb,h.len⟩,zf a _ _ f (show ¬gy<base by omega)⟩;obtain⟨rfl,rfl⟩|⟨g,c,rfl,d,e⟩:=k;exact⟨U,0,b,.inl ⟨rfl,rfl⟩⟩;exact⟨_,_,b,O ⟨g,c,rfl,d,e⟩⟩
end
structure qP where
 x:Nat
 y:Nat
 most:Nat
 used:Bool
abbrev _root_.Go.Proofs.YtofeiledkmfnfaaGreatDoor.Bb:=List qP
def yZ:Bb->An
 | []=>[]
 |q :: r=>Ua (I ⟨q.x,0,U⟩) :: Ua (I ⟨q.y,0,U⟩) :: .int J (q.most:Nat) :: C q.used :: yZ r
theorem WK (fs:Bb)(q:qP):yZ (fs++[q])=yZ fs++[Ua (I ⟨q.x,0,U⟩),Ua (I ⟨q.y,0,U⟩),.int J (q.most:Nat),C q.used]:=by
 induction fs with
 |nil=>rfl
 |cons x r a=>simp[yZ,a]
theorem vQ:∀(fs:Bb) (j:Nat) (q:qP),fs[j]?=I q->(yZ fs)[j*4]?=I (Ua (I ⟨q.x,0,U⟩))/\(yZ fs)[j*4+1]?=I (Ua (I ⟨q.y,0,U⟩))/\(yZ fs)[j*4+2]?=I (.int J (q.most:Nat))/\(yZ fs)[j*4+3]?=I (C q.used)
 | [],j,q,h=>by simp at h
 |x :: r,0,q,h=>by
  simp only[Ir,Option.some.injEq] at h;subst h;exact⟨rfl,rfl,rfl,rfl⟩
 |x :: r,j+1,q,h=>by
  have:=vQ r j q (by simpa using h);rw[show(j+1)*4=j*4+4 by omega];exact this
theorem Jz:∀(fs:Bb) (j:Nat) (q:qP),fs[j]?=I q->(yZ fs).set (j*4+3) (C G)=yZ (fs.set j { q with used:=G })
 | [],j,q,h=>by simp at h
 |x :: r,0,q,h=>by
  simp only[Ir,Option.some.injEq] at h;subst h;rfl
 |x :: r,j+1,q,h=>by
  have:=Jz r j q (by simpa using h);rw[show(j+1)*4+3=(j*4+3)+4 by omega];simp only[yZ,ziP,this]
def TR (w:World)(ow:Ak)(k:Nat)(q:qP)(u:Bool):Prop:=
 ∃gx pb F t W cs ts v A c b e d a f,XE w ow gx q.y pb F t W cs ts v A/\UG w A c b q.x e pb d q.most (AR F t).2 (AR F t).1 W cs a f/\(∀g,c g\/b g\/g=q.x->ow g=k+2)/\(u=G->1<=D a)/\(u=Z->a=[])
theorem TR.keep {P:Aj}{w w':World}{ow:Ak}{k:Nat}{q:qP}{u:Bool}(h:TR w ow k q u)(o:zg P w w')(a:∀i,P i->ow i≠1/\ow i≠k+2/\i≠11):TR w' ow k q u:=by have⟨gx,pb,F,t,W,cs,ts,v,A,f,d,r,n,j,s,c,l,b,m⟩:=h;exact⟨gx,pb,F,t,W,cs,ts,v,A,f,d,r,n,j,s,c.keep o (λi p=>(a i p).1),l.keep o (λg p=>⟨λe=>(a g p).2.1 (b g (.inl e)),λe=>(a g p).2.1 (b g (O (.inl e))),λe=>(a g p).1 (c.a g e),λe=>(a g p).2.1 (b g (O (O e))),(a g p).2.2⟩),b,m⟩
theorem TR.wide {w:World}{ow ow':Ak}{k:Nat}{q:qP}{u:Bool}(h:TR w ow k q u)(b:∀i,ow i≠0->ow' i=ow i):TR w ow' k q u:=by have⟨gx,pb,F,t,W,cs,ts,v,A,f,d,p,o,j,r,l,m,a,n⟩:=h;exact⟨gx,pb,F,t,W,cs,ts,v,A,f,d,p,o,j,r,l.wide (λi e=>(b i oa).trans e),m,λg c=>(b g (by have:=a g c;omega)).trans (a g c),n⟩
def Z9 (R:Nat->Y)(i:Nat)(v:Y):Nat->Y:=λj=>if j=i then v else R j
section
variable {wi w w':World} {ow ow':Ak} {ps ps':List (Nat×Nat)} {fs fs':Bb} {vs vs':An} {us f:Nat->Bool} {R:Nat->Value} {P:Aj}
end
section
variable {wi w:World} {ow:Ak} {ps:List (Nat×Nat)} {fs:Bb} {vs:An} {us:Nat->Bool} {R:Nat->Value}
theorem Ei {k:Nat}{q:qP}(h:TR w ow k q q.used):Uh prog 8 #[Uf #[Ua (I ⟨q.x,0,U⟩),Ua (I ⟨q.y,0,U⟩),.int J (q.most:Nat),C q.used]] w λe w'=>e=.returned (C G)/\zke w w':=by
 have⟨gx,pb,F,t,W,cs,ts,v,A,l,j,p,n,f,r,_,d,_,b,c⟩:=h;have g:=d.len;have a:Hid (∀w',zke w w'->Uh prog 14 #[Ua (I ⟨q.x,0,U⟩)] w' λx i=>x=.returned (.int J (D f:Nat))/\i=w'):=λw' k=>zhD _ _ _ _ _ _ _ _ _ _ _ _ _ _ w' (d.NU k);have⟨x,y,o,used⟩:=q;simp only[] at b c g a;cases used with
 |false=>
  rw[c rfl] at a;go_enter func8,ntmps8;go_wp2_with(go_at_call 14;refine AL (zb a _ Ag) ?_);go_ret;exact⟨rfl,Ag⟩
 |true=>
  have m:=b rfl;go_enter func8,ntmps8;go_wp2_with(go_at_call 14;refine AL (zb a _ Ag) ?_);go_ret;exact⟨rfl,Ag⟩
theorem zhV (g:Nat)(n:Int)(w:World)(a:n<2\/64<n):Uh prog 27 #[Ua (I ⟨g,0,U⟩),.int J n] w λx w'=>x=.returned (Ue #[Ua U,.int J 9])/\w'=w:=by
 by_cases h:n<2
 .have b:decide (n<2)=G:=decide_eq_true h;go_enter func27,ntmps27;go_wp2;go_ret2;exact⟨rfl,rfl⟩
 have b:decide (n<2)=Z:=decide_eq_false h;have c:64<n:=by omega
 go_enter func27,ntmps27;go_wp2;go_ret2;exact⟨rfl,rfl⟩
def lab (ow:Ak)(a b m:Nat):Ak:=λi=>if a<=i/\i<b then m else ow i
theorem JA {a b m i:Nat}(h:i<a):lab ow a b m i=ow i:=iN (λe=>oa)
theorem Qd {a b m i:Nat}(h:a<=i)(c:i<b):lab ow a b m i=m:=IN ⟨h,c⟩
theorem Tryz.P3:(prog.info? 52).map (λi=>(i.zero,i.size,i.bytes))=I (I (Uf #[Ua U,Ua U,.int J 0,C Z]),4,32):=om
theorem Fj (b gx gy:Nat)(p f n:Int)(s:Al)(g i j:Y)(w:World)(a:n<2\/64<n):Uh prog 13 #[Ua (I ⟨b,0,U⟩),Uf #[Ua (I ⟨gx,0,U⟩),Ua (I ⟨gy,0,U⟩)],Bi 4 p f n s g i j] w λe w'=>e=.returned (C G)/\zke w w':=by
 have c:=zd (λw=>zhV gx n w a);unfold Bi;by_cases h:n<2
 .have d:decide (n<2)=G:=decide_eq_true h;go_enter func13,ntmps13;go_wp2_with(go_at_call 27;refine AL (zb c _) ?_);go_ret;exact⟨rfl,Ag.alloc _⟩
 have d:decide (n<2)=Z:=decide_eq_false h;have k:64<n:=by omega
 go_enter func13,ntmps13;go_wp2_with(go_at_call 27;refine AL (zb c _) ?_);go_ret;exact⟨rfl,Ag.alloc _⟩
end
def jx (X:An)(i:Nat):An:=dK i (.int J (-7))++X.drop i
theorem zgg:(jx X i)[i]?=X[i]?:=by unfold jx;rw[B9 ov,Ip,CU,Hf,BD]
theorem C9 (h:i<D X):(jx X i).set i (.int J (-7))=jx X (i+1):=by unfold jx;rw[MC _ _ ov,Ip,CU,List.replicate_succ',Bu,MG h];rfl
theorem Da (h:j<D X):(jx X (D X))[j]?=I (.int J (-7)):=by unfold jx;rw[BG (by simpa using h),CP,IN h]
theorem Tryz.Pu:(prog.info? 3).map (λi=>(i.zero,i.size,i.bytes))=I (I (.int J 0),1,8):=om
theorem Tryz.Pa:(prog.info? 3).map (·.size)=I 1:=om
theorem zfb (n:Nat)(a:n<=17592186044417)(w:World):(Instr.makeSlice 29 (.int J (n:Int)) (.int J (n:Int))).run prog w=.ok (.slice (I ⟨S (u w),0,U⟩) n n) (dB w (Ub (madeCells #[.int J 0] n) 3)):=
 run_make_row' 29 3 (.int J 0) 8 underlying29 Tryz.Pu rfl J J n oa oa w
theorem Tryz.Py:prog.elem 29=3:=om
theorem E8 (g n:Nat)(W:World):(Instr.slice 29 (.slice (I ⟨g,0,U⟩) (n+1) (n+1)) U (I (.int J (n:Nat))) U).run prog W=.ok (.slice (I ⟨g,0,U⟩) n (n+1)) W:=by rw[run_slice_h W 29 _ _ _ (by rw[Tryz.Py];exact underlying29) J _ oa oa,Tryz.Py];simp[go_sem,sliced]
theorem zdO (ks:Ar):splice (madeCells #[.int J 0] (D ks+1)).toList 0 (ks.map (Value.int J))=ks.map (Value.int J)++[.int J 0]:=by
 have e:(madeCells #[Value.int J 0] (D ks+1)).toList=dK (D ks+1) (.int J 0):=List.ext_getElem? (λj=>by
  rw[MZ,CP];unfold madeCells;by_cases h:j<D ks+1;simp[h,Nat.mod_one];simp[h])
 unfold splice;rw[e];simp
theorem j8 {w:World}{base n z:Nat}{e:TypeId}{v:Y}{xs:An}(h:dA w base e z v n xs)(l:0<n):∃g cap,v=.slice (I ⟨g,0,U⟩) n cap/\(∀(j:Nat) u,xs[j]?=I u->T w ⟨g,j,U⟩=I u)/\∀j,dz w ⟨g,j,U⟩=Z:=by have p:=h.1;obtain⟨_,c⟩|⟨g,cap,b,rfl,d,k,m,f,i,o⟩:=h.2;omega;exact⟨g,cap,rfl,λj u a=>(h.cellAt _ (by have:=(AK.1 a).1;omega)).trans a,λj=>IJ h j⟩
theorem Lb (g off i:Nat):(⟨g,off,U⟩:Addr).add i=⟨g,off+i,U⟩:=by unfold Addr.add;split<;>simp_all
theorem I5 (a b c:Obj):Below (S (u w)+1+1) ((dB w a).alloc b) (((dB w a).alloc b).alloc c):=by have h:=((zg.refl (λ_=>False) ((dB w a).alloc b)).alloc c).below;rw[yj,yj] at h;exact h
theorem NK (a b c:Obj):(((dB w a).alloc b).alloc c).heap[S (u w)+1+1]?=I c:=by
 have e:S (u w)+1+1=((dB w a).alloc b).heap.size:=by rw[yj,yj]
 rw[e];exact Lj
section
variable {wi w:World} {ow:Ak} {ps:List (Nat×Nat)} {fs:Bb} {vs:An} {us:Nat->Bool} {R:Nat->Value}
end
def UP (w:World)(ow:Ak)(z:Nat)(F:Nat->Y)(v:Y):Prop:=∃b n a,v=.slice b n a/\n<4611686018427387904/\∀k,k<n->∃g,b=I ⟨g,0,U⟩/\ow g=1/\∀q,q<z->T w ⟨g,k*z+q,U⟩=I (F q)
def aM:Ak
 |4=>2
 |8=>4
 |9=>6
 |_=>1
def aF (vs:Nat->An)(i j:Nat):Nat->Y:=match i with
 |2=>λ_=>(vs 3).getD j undef
 |4=>λ_=>(vs 5).getD j undef
 |6=>λ_=>.int J (-7)
 |7=>λ_=>Uc Lu
 |8=>Cg
 |_=>A3
structure AC (w:World)(ow:Ak)(ps:List (Nat×Nat))(fs:Bb)(vs:Nat->An)(us:Nat->Bool):Prop where
 pats:∀q∈ps,∃pb F t W cs ts v A,XE w ow q.1 q.2 pb F t W cs ts v A
 fins:∀k q,fs[k]?=I q->TR w ow k q (us k)
 lst:∀i,2<=i->i≠3->i≠5->∀(j:Nat) v,(vs i)[j]?=I v->UP w ow (aM i) (aF vs i j) v
 mrk:∀i,i=3\/i=5->∀v∈vs i,∃m,v=.int J m
 len:(vs 3).length=(vs 2).length/\(vs 5).length=(vs 4).length
section
variable {w w':World} {ow ow':Ak} {ps:List (Nat×Nat)} {fs:Bb} {vs:Nat->An} {us f:Nat->Bool} {P:Aj}
theorem UP.keep {z:Nat}{F:Nat->Y}{v:Y}(h:UP w ow z F v)(k:zg P w w')(l:∀i,P i->ow i≠1):UP w' ow z F v:=by have⟨b,n,a,c,d,f⟩:=h;exact⟨b,n,a,c,d,λq o=>(f q o).imp λg e=>⟨e.1,e.2.1,λj m=>zf k _ _ (e.2.2 j m) (λp=>l g p e.2.1)⟩⟩
theorem UP.wide {z:Nat}{F:Nat->Y}{v:Y}(h:UP w ow z F v)(j:∀i,ow i≠0->ow' i=ow i):UP w ow' z F v:=by have⟨b,n,a,c,d,f⟩:=h;exact⟨b,n,a,c,d,λq k=>(f q k).imp λg e=>⟨e.1,(j g (by rw[e.2.1];decide)).trans e.2.1,e.2.2⟩⟩
theorem AC.keep (h:AC w ow ps fs vs us)(k:zg P w w')(d:∀i,P i->ow i=0/\i≠11):AC w' ow ps fs vs us:=
 ⟨λq e=>by
   have⟨pb,F,t,W,cs,ts,v,A,f⟩:=h.pats q e;exact⟨pb,F,t,W,cs,ts,v,A,f.keep k (λi p=>by have:=(d i p).1;omega)⟩,
  λj q e=>(h.fins j q e).keep k (λi p=>by have:=d i p;omega),λi a b c j v g=>(h.lst i a b c j v g).keep k (λi p=>by have:=(d i p).1;omega),h.mrk,h.len⟩
theorem AC.wide (h:AC w ow ps fs vs us)(d:∀i,ow i≠0->ow' i=ow i):AC w ow' ps fs vs us:=
 ⟨λq f=>by
   have⟨pb,F,t,W,cs,ts,v,A,g⟩:=h.pats q f;exact⟨pb,F,t,W,cs,ts,v,A,g.wide (λi e=>(d i oa).trans e)⟩,
  λj q f=>(h.fins j q f).wide d,λi a b c j v k=>(h.lst i a b c j v k).wide d,h.mrk,h.len⟩
theorem AC.turn {n:Nat}(h:AC w ow ps fs vs us)(k:zg P w w')(l:∀i,P i->ow i=n+2/\i≠11)(g:∀i,ow i≠0->ow' i=ow i)(r:∀j,j≠n->f j=us j)(m:∀q,fs[n]?=I q->TR w' ow' n q (f n)):AC w' ow' ps fs vs f:=
 ⟨λq d=>by
   have⟨pb,F,t,W,cs,ts,v,A,o⟩:=h.pats q d;exact⟨pb,F,t,W,cs,ts,v,A,(o.keep k (λi p=>by have:=(l i p).1;omega)).wide (λi e=>(g i oa).trans e)⟩,
  λj q d=>by
   by_cases e:j=n
   .subst e;exact m q d
   .rw[r j e];exact((h.fins j q d).keep k (λi p=>by have:=l i p;omega)).wide g,
  λi a b c j v s=>((h.lst i a b c j v s).keep k (λi p=>by have:=(l i p).1;omega)).wide g,h.mrk,h.len⟩
end
def sT:Nat->TypeId
 |0=>45
 |1=>52
 |3=>3
 |4=>56
 |5=>3
 |7=>59
 |8=>36
 |9=>37
 |_=>29
def sZ:Ak
 |0=>2
 |1=>4
 |_=>1
def sX (ps:List (Nat×Nat))(fs:Bb)(vs:Nat->An):Nat->An
 |0=>jk ps
 |1=>yZ fs
 |i=>vs i
def sN (ps:List (Nat×Nat))(fs:Bb)(vs:Nat->An):Ak
 |0=>D ps
 |1=>D fs
 |i=>(vs i).length
structure AS (wi w:World)(ow:Ak)(R:Nat->Y)(N:Ak)(X:Nat->An)(l:Int):Prop where
 old:zke wi w
 tab:11<S (u wi)
 lt:S (u wi)<S (u w)
 c:∀i,i<10->T w ⟨S (u wi),i,U⟩=I (R i)
 l:T w ⟨S (u wi),10,U⟩=I (.int J l)
 fz:∀j,dz w ⟨S (u wi),j,U⟩=Z
 row:∀i,i<10->dA w (S (u wi)+1) (sT i) (sZ i) (R i) (N i) (X i)
 own:∀i,i<10->∀g,(R i).ownBlock=I g->ow g=0
 dis:∀i,i<10->∀j,j<10->i≠j->∀g,(R i).ownBlock=I g->(R j).ownBlock≠I g
 sl:∀k,ow k≠0->S (u wi)<k/\k<S (u w)
section
variable {wi w w':World} {ow ow':Ak} {R:Nat->Value} {N c:Ak} {X X':Nat->An} {l:Int} {P:Aj}
theorem AS.keep (h:AS wi w ow R N X l)(k:zg P w w')(b:∀i,P i->S (u wi)<i/\∀j,j<10->(R j).ownBlock≠I i):AS wi w' ow R N X l:=by
 have c:¬P (S (u wi)):=λp=>by have:=(b _ p).1;omega
 exact⟨h.old.under k (λj d p=>by have:=(b _ p).1;omega),h.tab,AM h.lt k.size,λi a=>zf k _ _ (h.c i a) c,zf k _ _ h.l c,λj=>zp k _ h.lt (h.fz j) c,λi a=>zk (h.row i a) k (λg e p=>(b g p).2 i a e),h.own,h.dis,λj d=>⟨(h.sl j d).1,AM (h.sl j d).2 k.size⟩⟩
theorem AS.label (h:AS wi w ow R N X l)(a:∀i,ow' i≠0->ow i≠0\/(S (u wi)<i/\i<S (u w)/\∀j,j<10->(R j).ownBlock≠I i)):AS wi w ow' R N X l:=
 ⟨h.old,h.tab,h.lt,h.c,h.l,h.fz,h.row,λi c g b=>Decidable.byContradiction λe=>(a g e).elim (λq=>q (h.own i c g b)) (λq=>q.2.2 i c b),h.dis,λk d=>(a k d).elim (h.sl k) (λq=>⟨q.1,q.2.1⟩)⟩
theorem AS.put {i:Nat}{v':Y}(n:i<10)(h:AS wi w ow R N X l)(k:zg (λx=>(R i).ownBlock=I x) w w')(L:w'.ownsRow (dg wi.heap+1) (sT i) (sZ i) v' (c i) (X' i))(t:∀x,dH v'=I x->(R i).ownBlock=I x\/dg w.heap<=x)(F:∀j,j<10->j≠i->c j=N j/\X' j=X j):AS wi (w'.setCell ⟨dg wi.heap,i,U⟩ v') ow (Z9 R i v') c X' l:=by
 have B:∀x,(R i).ownBlock=I x->dg wi.heap<x:=λx p=>by have:=(zh (h.row i n) x p).1;omega
 have o:¬(R i).ownBlock=I wi.heap.size:=λe=>by have:=B _ e;omega
 have u:zg (zr wi.heap.size) w' (w'.setCell ⟨dg wi.heap,i,U⟩ v'):=(zg.refl _ _).NS _ _;have y:∀x,dg wi.heap+1<=x->¬zr wi.heap.size x:=λx p e=>by have:x=dg wi.heap:=e;omega
 have W:=k.size;have T:=h.lt;refine⟨(h.old.under k (λj f e=>by have:=B _ e;omega)).under u (λj f e=>by have:j=dg wi.heap:=e;omega),h.tab,by simp;omega,λj f=>?_,Ze oa (zf k _ _ h.l o),λj=>by rw[CI];exact zp k _ h.lt (h.fz j) o,λj f=>?_,λj f g d=>?_,λa s b r S g d m=>?_,λj f=>⟨(h.sl j f).1,by have:=(h.sl j f).2;simp;omega⟩⟩;unfold Z9;by_cases e:j=i;subst e;rw[IN rfl];exact AX _ _ _ (zf k _ _ (h.c j f) o);rw[iN e];exact Ze (λq=>e q.symm) (zf k _ _ (h.c j f) o);unfold Z9;by_cases e:j=i;subst e;rw[IN rfl];exact zk L u (λg d=>y g (zh L g d).1);rw[iN e,(F j f e).1,(F j f e).2];exact zk (zk (h.row j f) k (λg d q=>h.dis j f i n e g d q)) u (λg d=>y g (zh (h.row j f) g d).1);unfold Z9 at d;by_cases e:j=i;rw[IN e] at d;exact(t g d).elim (h.own i n g) (λq=>Decidable.byContradiction λz=>by have:=h.sl g z;omega);rw[iN e] at d;exact h.own j f g d;unfold Z9 at d m;have P:∀x,x<10->∀g,(R x).ownBlock=I g->g<dg w.heap:=λx p g e=>(zh (h.row x p) g e).2;by_cases e:a=i;rw[IN e] at d;rw[iN oa] at m;exact(t g d).elim (λz=>h.dis i n b r oa g z m) (λz=>by have:=P b r g m;omega);rw[iN e] at d;by_cases v:b=i;rw[IN v] at m;exact(t g m).elim (λz=>h.dis a s i n e g d z) (λz=>by have:=P a s g d;omega);rw[iN v] at m;exact h.dis a s b r S g d m
theorem AS.mark {b:Int}(h:AS wi w ow R N X l):AS wi (w.setCell ⟨S (u wi),10,U⟩ (.int J b)) ow R N X b:=by
 have d:zg (zr (S (u wi))) w (w.setCell ⟨S (u wi),10,U⟩ (.int J b)):=(zg.refl _ _).NS _ _;have f:∀x,S (u wi)+1<=x->¬zr (S (u wi)) x:=λx m e=>by have:x=S (u wi):=e;omega
 exact⟨h.old.under d (λj c e=>by have:j=S (u wi):=e;omega),h.tab,by have:=h.lt;simp;omega,λi a=>Ze oa (h.c i a),AX _ _ _ h.l,λj=>by rw[CI];exact h.fz j,λi a=>zk (h.row i a) d (λg k=>f g (zh (h.row i a) g k).1),h.own,h.dis,λj c=>by have:=h.sl j c;simp;omega⟩
end
def NQ (w:World)(wb c z:Nat):Prop:=∃a l e n N,T w ⟨wb,c,U⟩=I (.slice a N l)/\T w ⟨wb,c+1,U⟩=I (.slice e N n)/\N<4611686018427387904/\∀i,i<N->∃g b q f d m,a=I ⟨g,0,U⟩/\T w ⟨g,i,U⟩=I (.slice b q f)/\q<4611686018427387904/\(∀k,k<q->∃h,b=I ⟨h,0,U⟩/\∀j,j<z->T w ⟨h,k*z+j,U⟩=I (.int J m))/\e=I ⟨d,0,U⟩/\T w ⟨d,i,U⟩=I (.int J m)
structure KpA (w:World)(wb:Nat):Prop where
 i:NQ w wb 2 1
 f:NQ w wb 4 2
 t:∃v,T w ⟨wb,6,U⟩=I v/\Rows w (λ_=>True) v 1 (λ_=>.int J (-7))
 k:∃v,T w ⟨wb,7,U⟩=I v/\Rows w (λ_=>True) v 1 (λ_=>Uc Lu)
 n:∃v,T w ⟨wb,8,U⟩=I v/\Rows w (λ_=>True) v 4 Cg
 s:∃v,T w ⟨wb,9,U⟩=I v/\Rows w (λ_=>True) v 6 A3
theorem Me (wb:Nat)(w:World)(h:KpA w wb):Uh prog 6 #[Ua (I ⟨wb,0,U⟩)] w λe w'=>e=.returned (C G)/\zke w w':=by
 have H:=zd h;clear h;go_enter func6,ntmps6;go_upto_region 2 with fail;have⟨y,z,ma,mc,N,f1,f2,B,l⟩:=H.i;have i:=zd l;clear l;go_loopw[3] (λx wr=>∃n:Nat,x=.int J n/\n<=N/\Hid (zke w wr)) (λx _=>N-(intOf x).toNat);exact⟨0,rfl,oa,zg.refl _ _⟩;obtain⟨n,rfl,L,a⟩:=hrel;have p:=zf a _ _ f1 id;by_cases u:n<N
 .obtain⟨g,b,q,v,gm,m,rfl,k,P,o,rfl,X⟩:=zb i n u;have d:=zd o;clear o i;have r:=zf a _ _ k id;go_upto_region 5 with fail;clear p r;go_loopw[4] (λx wi=>∃j:Nat,x=.int J j/\j<=q/\Hid (zke w wi)) (λx _=>q-(intOf x).toNat);exact⟨0,rfl,oa,a⟩;clear a;obtain⟨j,rfl,F,a⟩:=hrel;have p:=zf a _ _ f1 id;have r:=zf a _ _ k id;by_cases t:j<q
  .obtain⟨h,rfl,c⟩:=zb d j t;have s:=zf a _ _ (c 0 od) id;have k3:=zf a _ _ X id;have k5:=zf a _ _ f2 id;rw[BD,FJ] at s;clear c d;go_upto_region 7 with fail;go_quiet(fail);go_wp2;exact⟨⟨j+1,Ae,oa,a.drewN _⟩,Ad⟩
  clear d;go_wp2;exact⟨⟨n+1,Ae,oa,a⟩,Ad⟩
 clear i;go_upto_region 10 with fail;have⟨y,z,ma,mc,N,f1,f2,B,l⟩:=H.f;have i:=zd l;clear l;go_loopw[5] (λx wr=>∃n:Nat,x=.int J n/\n<=N/\Hid (zke w wr)) (λx _=>N-(intOf x).toNat);exact⟨0,rfl,oa,a⟩;clear a;obtain⟨n,rfl,L,a⟩:=hrel;have p:=zf a _ _ f1 id;by_cases u:n<N
 .obtain⟨g,b,q,v,gm,m,rfl,k,P,o,rfl,X⟩:=zb i n u;have d:=zd o;clear o i;have r:=zf a _ _ k id;go_upto_region 13 with fail;clear p r;go_loopw[6] (λx wi=>∃j:Nat,x=.int J j/\j<=q/\Hid (zke w wi)) (λx _=>q-(intOf x).toNat);exact⟨0,rfl,oa,a⟩;clear a;obtain⟨j,rfl,F,a⟩:=hrel;have p:=zf a _ _ f1 id;have r:=zf a _ _ k id;by_cases t:j<q
  .obtain⟨h,rfl,c⟩:=zb d j t;have s:=zf a _ _ (c 0 od) id;have S:=zf a _ _ (c 1 od) id;have k3:=zf a _ _ X id;have k5:=zf a _ _ f2 id;rw[BD] at s;clear c d;go_upto_region 15 with fail;go_quiet(fail);go_wp2;exact⟨⟨j+1,Ae,oa,a.drewN _⟩,Ad⟩
  clear d;go_wp2;exact⟨⟨n+1,Ae,oa,a⟩,Ad⟩
 clear i;go_upto_region 18 with fail;obtain⟨_,f1,y,N,z,rfl,B,l⟩:=H.t;have i:=zd l;clear l;go_loopw[7] (λx wr=>∃n:Nat,x=.int J n/\n<=N/\Hid (zke w wr)) (λx _=>N-(intOf x).toNat);exact⟨0,rfl,oa,a⟩;clear a;obtain⟨n,rfl,L,a⟩:=hrel;have p:=zf a _ _ f1 id;by_cases u:n<N
 .obtain⟨g,b,q,v,rfl,-,k,P,o⟩:=zb i n u;have d:=zd o;clear o i;have r:=zf a _ _ k id;go_upto_region 21 with fail;clear p r;go_loopw[8] (λx wi=>∃j:Nat,x=.int J j/\j<=q/\Hid (zke w wi)) (λx _=>q-(intOf x).toNat);exact⟨0,rfl,oa,a⟩;clear a;obtain⟨j,rfl,F,a⟩:=hrel;have p:=zf a _ _ f1 id;have r:=zf a _ _ k id;by_cases t:j<q
  .obtain⟨h,rfl,-,c⟩:=zb d j t;have s:=zf a _ _ (c 0 od) id;rw[BD,FJ] at s;clear c d;go_wp2;exact⟨⟨j+1,Ae,oa,a⟩,Ad⟩
  clear d;go_wp2;exact⟨⟨n+1,Ae,oa,a⟩,Ad⟩
 clear i;go_upto_region 26 with fail;obtain⟨_,f1,y,N,z,rfl,B,l⟩:=H.k;have i:=zd l;clear l;go_loopw[9] (λx wr=>∃n:Nat,x=.int J n/\n<=N/\Hid (zke w wr)) (λx _=>N-(intOf x).toNat);exact⟨0,rfl,oa,a⟩;clear a;obtain⟨n,rfl,L,a⟩:=hrel;have p:=zf a _ _ f1 id;by_cases u:n<N
 .obtain⟨g,b,q,v,rfl,-,k,P,o⟩:=zb i n u;have d:=zd o;clear o i;have r:=zf a _ _ k id;go_upto_region 29 with fail;clear p r;go_loopw[10] (λx wi=>∃j:Nat,x=.int J j/\j<=q/\Hid (zke w wi)) (λx _=>q-(intOf x).toNat);exact⟨0,rfl,oa,a⟩;clear a;obtain⟨j,rfl,F,a⟩:=hrel;have p:=zf a _ _ f1 id;have r:=zf a _ _ k id;by_cases t:j<q
  .obtain⟨h,rfl,-,c⟩:=zb d j t;have s:=zf a _ _ (c 0 od) id;rw[BD,FJ] at s;unfold Lu at s;clear c d;go_wp2;exact⟨⟨j+1,Ae,oa,a⟩,Ad⟩
  clear d;go_wp2;exact⟨⟨n+1,Ae,oa,a⟩,Ad⟩
 clear i;go_upto_region 34 with fail;obtain⟨_,f1,y,N,z,rfl,B,l⟩:=H.n;have i:=zd l;clear l;go_loopw[11] (λx wr=>∃n:Nat,x=.int J n/\n<=N/\Hid (zke w wr)) (λx _=>N-(intOf x).toNat);exact⟨0,rfl,oa,a⟩;clear a;obtain⟨n,rfl,L,a⟩:=hrel;have p:=zf a _ _ f1 id;by_cases u:n<N
 .obtain⟨g,b,q,v,rfl,-,k,P,o⟩:=zb i n u;have d:=zd o;clear o i;have r:=zf a _ _ k id;go_upto_region 37 with fail;clear p r;go_loopw[12] (λx wi=>∃j:Nat,x=.int J j/\j<=q/\Hid (zke w wi)) (λx _=>q-(intOf x).toNat);exact⟨0,rfl,oa,a⟩;clear a;obtain⟨j,rfl,F,a⟩:=hrel;have p:=zf a _ _ f1 id;have r:=zf a _ _ k id;by_cases t:j<q
  .obtain⟨h,rfl,-,c⟩:=zb d j t;have s:=zf a _ _ (c 0 od) id;have S:=zf a _ _ (c 1 od) id;have T:=zf a _ _ (c 2 od) id;have W:=zf a _ _ (c 3 od) id;rw[BD] at s;simp only[Cg] at s S T W;clear c d;go_wp2;exact⟨⟨j+1,Ae,oa,a.alloc _⟩,Ad⟩
  clear d;go_wp2;exact⟨⟨n+1,Ae,oa,a⟩,Ad⟩
 clear i;go_upto_region 43 with fail;obtain⟨_,f1,y,N,z,rfl,B,l⟩:=H.s;have i:=zd l;clear l;go_loopw[14] (λx wr=>∃n:Nat,x=.int J n/\n<=N/\Hid (zke w wr)) (λx _=>N-(intOf x).toNat);exact⟨0,rfl,oa,a⟩;clear a;obtain⟨n,rfl,L,a⟩:=hrel;have p:=zf a _ _ f1 id;by_cases u:n<N
 .obtain⟨g,b,q,v,rfl,-,k,P,o⟩:=zb i n u;have d:=zd o;clear o i;have r:=zf a _ _ k id;go_upto_region 46 with fail;clear p r;go_loopw[15] (λx wi=>∃j:Nat,x=.int J j/\j<=q/\Hid (zke w wi)) (λx _=>q-(intOf x).toNat);exact⟨0,rfl,oa,a⟩;clear a;obtain⟨j,rfl,F,a⟩:=hrel;have p:=zf a _ _ f1 id;have r:=zf a _ _ k id;by_cases t:j<q
  .obtain⟨h,rfl,-,c⟩:=zb d j t;have s:=zf a _ _ (c 0 od) id;have S:=zf a _ _ (c 1 od) id;have T:=zf a _ _ (c 2 od) id;have W:=zf a _ _ (c 3 od) id;have d4:=zf a _ _ (c 4 od) id;have d5:=zf a _ _ (c 5 od) id;rw[BD] at s;simp only[A3] at s S T W d4 d5;clear c d;go_wp2;exact⟨⟨j+1,Ae,oa,a.alloc _⟩,Ad⟩
  clear d;go_wp2;exact⟨⟨n+1,Ae,oa,a⟩,Ad⟩
 clear i;go_wp2;go_ret;exact⟨rfl,a⟩
section
variable {wi w w':World} {ow ow':Ak} {ps:List (Nat×Nat)} {fs:Bb} {vs:Nat->An} {us:Nat->Bool} {R:Nat->Value} {l:Int}
theorem AS.Oc (h:AS wi w ow R (sN ps fs vs) (sX ps fs vs) l):∀i,2<=i->i<10->w.ownsRow (S (u wi)+1) (sT i) 1 (R i) (vs i).length (vs i)
 |i+2,_,a=>h.row (i+2) a
theorem AS.rows {F:Nat->Y}(i:Nat)(h:AS wi w ow R (sN ps fs vs) (sX ps fs vs) l)(u:AC w ow ps fs vs us)(N:6<=i)(m:i<10)(t:∀j,aF vs i j=F)(B:(vs i).length<4611686018427387904):∃v,T w ⟨S wi.heap,i,U⟩=I v/\Rows w (λ_=>True) v (aM i) F:=by have⟨a,c,e,L⟩:=qh (h.Oc i oa m);refine⟨R i,h.c i m,a,_,c,e,B,λj y=>?_⟩;have o:=AE y;have⟨g,r,d⟩:=L j _ o;have⟨b,n,p,f1,s,f⟩:=u.lst i oa oa oa j _ o;rw[f1] at d;rw[t] at f;exact⟨g,b,n,p,r,trivial,d,s,λk z=>(f k z).imp λx q=>⟨q.1,trivial,q.2.2⟩⟩
theorem AS.marked (i:Nat)(h:AS wi w ow R (sN ps fs vs) (sX ps fs vs) l)(d:AC w ow ps fs vs us)(s:i=2\/i=4)(hl:(vs i).length<4611686018427387904):NQ w wi.heap.size i (aM i):=by
 have⟨a,c,e,hr⟩:=qh (h.Oc i oa oa);have⟨u,v,B,ad⟩:=qh (h.Oc (i+1) oa oa);have W:(vs (i+1)).length=(vs i).length:=by obtain rfl|rfl:=s;exact d.len.1;exact d.len.2
 refine⟨a,c,u,v,(vs i).length,by rw[h.c i oa,e],by rw[h.c (i+1) oa,B,W],hl,λj X=>?_⟩;have t:=AE X;have f:=AE (show j<(vs (i+1)).length by omega);have⟨g,F,p⟩:=hr j _ t;have⟨S,L,r⟩:=ad j _ f;have⟨m,o⟩:=d.mrk (i+1) oa _ (Bg f);have⟨b,n,z,f1,N,P⟩:=d.lst i oa oa oa j _ t;have T:∀q,aF vs i j q=.int J m:=λq=>by obtain rfl|rfl:=s;show(vs 3).getD j undef=_;rw[B7,f,o];rfl;show(vs 5).getD j undef=_;rw[B7,f,o];rfl
 rw[f1] at p;rw[o] at r;exact⟨g,b,n,z,S,m,F,p,N,λk hk=>(P k hk).imp λx q=>⟨q.1,λy hy=>by rw[q.2.2 y hy,T]⟩,L,r⟩
theorem AS.kept (h:AS wi w ow R (sN ps fs vs) (sX ps fs vs) l)(a:AC w ow ps fs vs us)(b:∀i,(vs i).length<4611686018427387904):Uh prog 6 #[Ua (I ⟨S (u wi),0,U⟩)] w λe w'=>e=.returned (C G)/\zke w w':=
 Me _ _ ⟨h.marked 2 a (.inl rfl) (b 2),h.marked 4 a (O rfl) (b 4),h.rows 6 a od od (λ_=>rfl) (b 6),h.rows 7 a od od (λ_=>rfl) (b 7),h.rows 8 a od od (λ_=>rfl) (b 8),h.rows 9 a od od (λ_=>rfl) (b 9)⟩
def TL (wi w:World)(n:Nat):Prop:=∃ow R ps fs vs us l,AS wi w ow R (sN ps fs vs) (sX ps fs vs) l/\AC w ow ps fs vs us/\(∀k q,fs[k]?=I q->us k=q.used)/\(D ps)<=n/\(D fs)<=n/\∀i,(vs i).length<=n
theorem AS.NV {N:Ak}{X:Nat->An}(h:AS wi w ow R N X l)(k:zke w w'):AS wi w' ow R N X l:=h.keep k (λ_ p=>p.elim)
theorem TL.NV {n:Nat}(h:TL wi w n)(k:zke w w'):TL wi w' n:=by have⟨ow,R,ps,fs,vs,us,l,a,b,c⟩:=h;exact⟨ow,R,ps,fs,vs,us,l,a.NV k,b.keep k (λ_ p=>p.elim),c⟩
theorem TL.kept {n:Nat}(h:TL wi w n)(j:n<4611686018427387904):Uh prog 6 #[Ua (I ⟨S (u wi),0,U⟩)] w λe w'=>e=.returned (C G)/\zke w w':=by have⟨ow,R,ps,fs,vs,us,l,a,b,d,f,g,c⟩:=h;exact a.kept b (λi=>by have:=c i;omega)
end
structure AB (wi w:World)(ow:Ak)(ps:List (Nat×Nat))(fs:Bb)(vs:Nat->An)(us:Nat->Bool)(R:Nat->Y)(l:Int):Prop where
 s:AS wi w ow R (sN ps fs vs) (sX ps fs vs) l
 c:AC w ow ps fs vs us
section
variable {wi w w':World} {ow:Ak} {ps ps':List (Nat×Nat)} {fs fs':Bb} {vs vs':Nat->An} {us:Nat->Bool} {R:Nat->Value} {l:Int}
theorem AB.NV (h:AB wi w ow ps fs vs us R l)(k:zke w w'):AB wi w' ow ps fs vs us R l:=⟨h.s.NV k,h.c.keep k (λ_ p=>p.elim)⟩
theorem AB.lab {w1 b:World}(m:Nat)(h:AB wi w ow ps fs vs us R l)(d:zke w w1)(k:zke w1 b):AB wi b (lab ow (S (u w1)) (S (u b)) m) ps fs vs us R l:=by have g:=d.size;have n:=h.s.lt;have c:=h.NV (d.trans k);refine⟨c.s.label (λi a=>?_),c.c.wide (λi a=>JA (AM (h.s.sl i a).2 g))⟩;unfold Proofs.YtofeiledkmfnfaaGreatDoor.lab at a;split at a;rename_i q;exact O ⟨oa,q.2,λj f e=>by have:=(zh (h.s.row j f) i e).2;omega⟩;exact .inl a
theorem AS.NS {N:Ak}{X:Nat->An}(h:AS wi w ow R N X l)(i:Nat)(a:i<10)(x:Nat)(b:(R i).ownBlock=I x\/x=S (u wi)):ow x=0/\x≠11:=by have c:=h.tab;obtain e|rfl:=b;exact⟨h.own i a x e,by have:=(zh (h.row i a) x e).1;omega⟩;exact⟨Decidable.byContradiction λe=>by have:=h.sl _ e;omega,oa⟩
theorem AB.put {i:Nat}{v':Y}(a:i<10)(h:AB wi w ow ps fs vs us R l)(k:zg (λx=>(R i).ownBlock=I x) w w')(f:w'.ownsRow (S (u wi)+1) (sT i) (sZ i) v' (sN ps' fs' vs' i) (sX ps' fs' vs' i))(b:∀x,dH v'=I x->(R i).ownBlock=I x\/S (u w)<=x)(d:∀j,j<10->j≠i->sN ps' fs' vs' j=sN ps fs vs j/\sX ps' fs' vs' j=sX ps fs vs j)(c:AC w ow ps' fs' vs' us):AB wi (w'.setCell ⟨S (u wi),i,U⟩ v') ow ps' fs' vs' us (Z9 R i v') l:=
 ⟨h.s.put a k f b d,c.keep (P:=λx=>(R i).ownBlock=I x\/x=S (u wi)) ((k.mono (λ_ _ e=>.inl e)).setCell (p:=⟨S (u wi),i,U⟩) (.inl (O rfl)) _) (h.s.NS i a)⟩
theorem WL {y:Nat}(kd p f n:Int)(s:Al)(lv nv sv:Y)(t:Tree)(v:Int)(ts:As)(a:Nat->Addr)(h:AB wi w ow ps fs vs us R l)(hu:∀k q,fs[k]?=I q->us k=q.used)(hS:Start wi a)(_v0:0<=v)(hv:v<300)(ht:MR t)(hr:Wj s v ts)(hp:∀(w:World) (a:Nat->Addr),Start w a->K4 s t v w)(hT:vY (qH 22) ts t.kids)(hB:∀x∈ts,kG x)(hl:D ts<=1000)(h5:t.kind=5)(hn:y<1172812402961)(l1:D ps<=y)(l2:D fs<=y):Uh prog 9 #[Ua (I ⟨dg wi.heap,0,U⟩),Bi kd p f n s lv nv sv] w λe w'=>e=.returned (C G)/\∃ow R ps fs us,AB wi w' ow ps fs vs us R l/\(∀k q,fs[k]?=I q->us k=q.used)/\(D ps)<=y+1/\(D fs)<=y:=by
 have⟨i0,aH,aK,aL,aN⟩:=info_parts Tryz.P1
 have HC:Hid (∀b,zke w b->Uh prog 15 #[Uc s] b λx w'=>∃g,x=.returned (Ue #[Ua (I ⟨g,0,U⟩),.int J 0,.int J 0])/\(∃pb F W cs,TM w' (λk=>dg b.heap<=k/\k<dg w'.heap) g pb (AR F t).2 (AR F t).1 W cs (v+1)/\WF F t/\BV (AR F t).2 W)/\zke b w'):=λb h1=>(zbG s b t v hv ht (hp b a (hS.keep (h.s.old.trans h1)))).mono (by
  rintro x w' ⟨g,pb,F,W,cs,rfl,X,q2,q3,B⟩;exact⟨g,rfl,⟨pb,F,W,cs,X,q2,q3⟩,B⟩)
 have HF:Hid (∀(L b c:World) (gx gy:Nat) (u:Y),zke w L->zke L b->zke b c->(∃pb F W cs,TM b (λk=>dg L.heap<=k/\k<dg b.heap) gx pb (AR F t).2 (AR F t).1 W cs (v+1)/\WF F t/\BV (AR F t).2 W)->dg b.heap<=gy->dx c ⟨gy,1,U⟩=I (.int J (v+1))->dx c ⟨gy,0,U⟩=I u->xK c b.heap.size u ts->
   AB wi c (lab ow w.heap.size c.heap.size 1) ps fs vs us R l/\∃pb F t W cs ts v A,XE c (lab ow w.heap.size c.heap.size 1) gx gy pb F t W cs ts v A):=λL b c gx gy u k0 k1 o ⟨pb,F,W,cs,X,q2,q3⟩ B q5 q6 q7=>by
  have s0:=k0.size;have s1:=k1.size;have s2:=o.size;exact⟨h.lab 1 (zg.refl _ _) ((k0.trans k1).trans o),pb,F,t,W,cs,ts,v,_,X.keep o (λ_ _ f=>f),λg hg=>Qd oa oa,q2,q3,⟨c,dg b.heap,u,λk b1 b2=>Qd oa b2,zg.refl _ _,B,q5,q6,q7⟩,hT,hB,hl,h5⟩
 have HR:=zd hr;clear hp hr hS ht hv hT hB hl h5 h;unfold Bi;go_enter func9,ntmps9;go_wp2_with(first
  |(go_at_call 15;refine(zb HC _ Ag).mono ?_;rintro e b ⟨gx,rfl,r,P⟩;have B:=zf P ⟨dg w.heap,4,U⟩ _ (zj w _ rfl _ _ 4 _ rfl) id;have X3:=zd r;clear r)
  |(go_at_call 16;refine(zb HR b).mono ?_;rintro e c ⟨gy,rfl,ag,au,av,u,aw,ax⟩;have⟨d,am⟩:=zb HF _ b c gx gy u Ag P ag X3 au av aw ax;have m:=zd d;have HP:=zd am;have N:=d.s.c 0 od;have⟨pa,pn,pc,z⟩:=zq (d.s.row 0 od);rw[z] at N;clear d am au av aw ax X3 P ag)
  |(at_builtin;refine zb ?_))
 refine zd ?_;have aI:=m.s.lt;have ao:dA c (dg wi.heap+1) 45 2 (.slice pa pn pc) (D ps) (jk ps):=by rw[<-z];exact m.s.row 0 od
 refine yz _ rfl _ _ 26 rfl (dg wi.heap+1) 45 i0 (Uf #[Ua U,Ua U]) 2 16 underlying26 aH aK aL aN rfl od _ (D ps) (jk ps) rfl (AZ ao _) _ 1 1 [Ua (I ⟨gx,0,U⟩),Ua (I ⟨gy,0,U⟩)] rfl rfl (K2 _ c.heap.size rfl _ _ _) (λx r=>by simp at r;obtain rfl|rfl:=r<;>rfl) Ac oa ou ?_;intro v2 wb T aj ap;have o:zg (λi=>(R 0).ownBlock=I i) c wb:=by rw[z];exact Ag.grown aj (λk e=>.inl e)
 have HX:=zd (m.put (i:=0) od o (ps':=ps++[(gx,gy)]) (fs':=fs) (vs':=vs) (by show dA _ _ _ _ _ (ps++[_]).length (jk _);rw[AO,WD];exact T) (λx r=>by rw[z];exact(ap x r).imp_right (λq=>by simp at q;omega)) (by rintro(_|_|j) h1 h2<;>first|exact⟨rfl,rfl⟩|omega) ⟨λq d=>by
  obtain d|d:=A7.1 d;exact m.c.pats q d;simp only[A5] at d;subst d;exact zb HP,m.c.fins,m.c.lst,m.c.mrk,m.c.len⟩)
 have S:¬(R 0).ownBlock=I wi.heap.size:=λe=>by have:=(zh (m.s.row 0 od) _ e).1;omega
 have a2:=zf o _ _ N S;have f0:=zp o _ aI (m.s.fz 0) S;obtain⟨va,vn,vc,rfl⟩:=zq T;clear T aj o ap S N ao;go_wp2;go_ret;exact⟨rfl,_,_,_,_,_,HX,hu,by simp;omega,oa⟩
end
structure RG (w:World)(ow:Ak)(ss:Aw)(wb sb:Nat)(ka ta:Ap)(KB TB:Ak):Prop where
 s:∀(i:Nat) c,ss[i]?=I c->∀(j:Nat) u,(c.cells (I ⟨KB i,0,U⟩) (D c.keys+1) (I ⟨TB i,0,U⟩) (D c.subs+1))[j]?=I u->T w ⟨sb,i*6+j,U⟩=I u
 z:∀(j:Nat) u,(Bh.cells U 0 U 0)[j]?=I u->T w ⟨sb,D ss*6+j,U⟩=I u
 fs:∀j,dz w ⟨sb,j,U⟩=Z
 k:∀(i:Nat) c,ss[i]?=I c->(∃g,ka=I ⟨g,0,U⟩/\T w ⟨g,i,U⟩=I (.slice (I ⟨KB i,0,U⟩) (D c.keys+1) (D c.keys+1))/\ow g=0)/\(∀(j:Nat) x,c.keys[j]?=I x->T w ⟨KB i,j,U⟩=I (Uc x))/\T w ⟨KB i,D c.keys,U⟩=I (Uc ⟨#[]⟩)
 t:∀(i:Nat) c,ss[i]?=I c->(∃g,ta=I ⟨g,0,U⟩/\T w ⟨g,i,U⟩=I (.slice (I ⟨TB i,0,U⟩) (D c.subs+1) (D c.subs+1))/\ow g=0)/\(∀(j:Nat) x,c.subs[j]?=I x->T w ⟨TB i,j,U⟩=I (.int J x))/\T w ⟨TB i,D c.subs,U⟩=I (.int J 0)
 f:∀i j,i<D ss->dz w ⟨KB i,j,U⟩=Z/\dz w ⟨TB i,j,U⟩=Z
 ob:ow wb=1
 os:ow sb=2
 ok:∀i,i<D ss->ow (KB i)=2*i+4/\ow (TB i)=2*i+5
theorem Tryz.OZ:(prog.info? 59).map (λi=>(i.zero,i.size,i.bytes))=I (I (.slice U 0 0),1,24):=om
theorem LG {ss:Aw}{i:Nat}{c:Sc}(h:ss[i]?=I c):nT ss i=D c.subs+1:=by rw[nT,B7,h];rfl
theorem LF {ss:Aw}{i:Nat}{c:Sc}(h:ss[i]?=I c):nK ss i=D c.keys+1:=by rw[nK,B7,h];rfl
def SM (wr a:World)(n i m:Nat):Prop:=zke wr a/\∃(c:Sc) (g k b e:Ap) (h l d f:Nat),(∀(j:Nat) u,(c.cells g h k l)[j]?=I u->T a ⟨m,j,U⟩=I u)/\(∀(j:Nat) u,(c.cells b d e f)[j]?=I u->T a ⟨n,i*6+j,U⟩=I u)/\Uz a c g h k l/\Uz a c b d e f/\(D c.keys)<4611686018427387900/\(D c.subs)<4611686018427387900
theorem GB.rg {f wr W:World}{ow:Ak}{ss:Aw}{wb:Nat}{w B:Ap}{y kc F tc:Nat}{p q:Ak}(h:GB f wr ow ss (D ss) (.slice w y kc) (.slice B F tc) p q)(k:zg (λg=>g<dg f.heap) wr W)(T:wb<dg f.heap):y=D ss/\F=D ss/\RG W (λg=>if g=wb then 1 else ow g) ss wb f.heap.size w B p q:=by
 have lt:∀{g},dg f.heap<=g->¬g<dg f.heap:=λa b=>oa;have r:∀{g},dg f.heap<=g->(if g=wb then 1 else ow g)=ow g:=λa=>iN oa;have v:∀{g},ow g≠0->dg f.heap<=g/\g<dg wr.heap:=λ{g} a=>by refine⟨Nat.le_of_not_lt λe=>a (h.oz g (.inl e)),Nat.lt_of_not_le λe=>a (h.oz g (O e))⟩
 have z:=h.on.size;have L:=(v (show ow f.heap.size≠0 by rw[h.os];decide)).2;have⟨_,_,n,P⟩:=qh h.rk;have⟨_,_,o,S⟩:=qh h.rt;cases n;cases o;have m:∀i,i<D ss->(dg f.heap<=p i/\p i<dg wr.heap)/\dg f.heap<=q i/\q i<dg wr.heap:=λi d=>⟨v (by rw[(h.ok i d).1];omega),v (by rw[(h.ok i d).2];omega)⟩
 refine⟨rfl,rfl,λi c l j u s=>zf k _ _ (h.s i c (AK.1 l).1 l j u s) (lt (AD _)),λj u s=>zf k _ _ (h.z _ j u (AD _) (AD _) s) (lt (AD _)),λj=>zp k _ L (h.fs j) (lt (AD _)),λi c l=>?_,λi c l=>?_,λi j d=>⟨zp k _ (m i d).1.2 (h.f i j d).1 (lt (m i d).1.1),zp k _ (m i d).2.2 (h.f i j d).2 (lt (m i d).2.1)⟩,IN rfl,(r (AD _)).trans h.os,λi d=>⟨(r (m i d).1.1).trans (h.ok i d).1,(r (m i d).2.1).trans (h.ok i d).2⟩⟩;have d:=(AK.1 l).1;have⟨g,n,o⟩:=P i (.slice (I ⟨p i,0,U⟩) (nK ss i) (nK ss i)) (by simp[A2,d]);have N:=(zh h.rk g (by rw[n];rfl)).1;rw[LF l] at o;exact⟨⟨g,n,zf k _ _ o (lt (by show dg f.heap<=g;omega)),(r oa).trans (h.ro g (.inl (by rw[n];rfl)))⟩,λj x t=>zf k _ _ ((h.k i c d l).1 j x t) (lt (m i d).1.1),zf k _ _ (h.k i c d l).2 (lt (m i d).1.1)⟩;have d:=(AK.1 l).1;have⟨g,n,o⟩:=S i (.slice (I ⟨q i,0,U⟩) (nT ss i) (nT ss i)) (by simp[A2,d]);have N:=(zh h.rt g (by rw[n];rfl)).1;rw[LG l] at o;exact⟨⟨g,n,zf k _ _ o (lt (by show dg f.heap<=g;omega)),(r oa).trans (h.ro g (O (by rw[n];rfl)))⟩,λj x t=>zf k _ _ ((h.n i c d l).1 j x t) (lt (m i d).2.1),zf k _ _ (h.n i c d l).2 (lt (m i d).2.1)⟩
def NM (wr a:World)(lb i b:Nat):Prop:=zke wr a/\∃n:Nd,(∀(j:Nat) u,n.cells[j]?=I u->T a ⟨b,j,U⟩=I u)/\∀(j:Nat) u,n.cells[j]?=I u->T a ⟨lb,i*4+j,U⟩=I u
def NT (b:World)(lb i:Nat)(wr:World):Prop:=zg (λg=>g=lb) b wr/\(∀q,dz wr ⟨lb,q,U⟩=Z)/\(∀a j,a<i->j<4->T wr ⟨lb,a*4+j,U⟩=I (Cg j))/\∀q,i*4<=q->T wr ⟨lb,q,U⟩=T b ⟨lb,q,U⟩
theorem NT.step {c wr W:World}{lb i:Nat}(h:NT c lb i wr)(a:lb<S wr.heap)(k:zke wr W)(hex:∀j,j<4->∃u,T W ⟨lb,i*4+j,U⟩=I u):NT c lb (i+1) (setL lb W (i*4) [Cg 0,Cg 1,Cg 2,Cg 3]):=by
 have⟨d,g,l,m⟩:=h;refine⟨(d.NY k (λ_ _ f=>f.elim)).NY (Z8 _) (λ_ _ e=>e),λq=>(Jw _).trans (zp k _ a (g q) id),λb j o n=>?_,λq r=>(jo _ (O ou)).trans ((k.cell (p:=⟨lb,q,U⟩) a id).trans (m q oa))⟩;by_cases e:b=i
 .subst e;refine Jx [Cg 0,Cg 1,Cg 2,Cg 3] hex j _ ?_;obtain rfl|rfl|rfl|rfl:j=0\/j=1\/j=2\/j=3:=by omega
  all_goals rfl
 exact(jo _ (.inl oa)).trans ((k.cell (p:=⟨lb,b*4+j,U⟩) a id).trans (l b j oa n))
theorem Tryz.P2:(prog.info? 61).map (λi=>(i.zero.map (·.cells),i.size,i.bytes))=I (I #[.int J 0,.int J 0,Uc ⟨#[]⟩,Uc ⟨#[]⟩],4,48):=om
theorem Tryz.P0:(prog.info? 63).map (λi=>(i.zero.map (·.cells),i.size,i.bytes))=I (I #[C Z,Uc ⟨#[]⟩,.int J 0,.slice U 0 0,.slice U 0 0,.int J 0],6,88):=om
theorem Tryz.Pp:(prog.info? 9).map (λi=>(i.zero.map (·.cells),i.size,i.bytes))=I (I #[Uc ⟨#[]⟩],1,16):=om
theorem Tryz.Ps:(prog.info? 3).map (λi=>(i.zero.map (·.cells),i.size,i.bytes))=I (I #[.int J 0],1,8):=om
theorem Tryz.Rr:(prog.info? 61).map (·.size)=I 4:=om
theorem Tryz.PO:(prog.info? 9).map (·.size)=I 1:=om
theorem Tryz.PP:(prog.info? 3).map (·.size)=I 1:=om
def Hk:Av->An
 | []=>[]
 |n :: r=>n.cells++Hk r
theorem JB:∀ns:Av,(Hk ns).length=D ns*4
 | []=>rfl
 |n :: r=>by rw[Hk,AO,JB r,BH,Nd.cells,Lq,Nat.add_comm];rfl
theorem M4:∀(ns:Av) (i j:Nat) (n:Nd) (u:Y),ns[i]?=I n->n.cells[j]?=I u->(Hk ns)[i*4+j]?=I u
 | [],i,j,n,u,h,_=>by simp at h
 |x :: r,0,j,n,u,h,a=>by
  cases h;rw[FV,Bv,Hk,BG (AK.1 a).1];exact a
 |x :: r,i+1,j,n,u,h,a=>by
  have b:D x.cells=4:=rfl;rw[Hk,B9 (by rw[b,Lq];omega),b,show(i+1)*4+j-4=i*4+j by omega];exact M4 r i j n u h a
theorem zgh {ns:Av}{q:Nat}{u:Y}(h:(Hk ns)[q]?=I u):∃n,ns[q / 4]?=I n/\n.cells[q % 4]?=I u:=by have c:=(AK.1 h).1;rw[JB] at c;have e:q / 4<D ns:=Mz oa;have a:=AE e;have d:q % 4<4:=Nat.mod_lt _ od;have b:=AE (show q % 4<(ns[q / 4]).cells.length from d);have:=M4 ns _ _ _ _ a b;rw[Nat.div_add_mod',h] at this;cases this;exact⟨_,a,b⟩
structure L0 (w:World)(wb:Nat):Prop where
 c:∀j,j<10->T w ⟨wb,j,U⟩=I (.slice U 0 0)
 l:T w ⟨wb,10,U⟩=I (.int J 0)
 f:∀j,dz w ⟨wb,j,U⟩=Z
section
variable (ns:Av) (ss:Aw) (e g:Ap) (m p:Nat) (a:Nat->Addr)
end
end
section
open Go.RowKit Go.Deep
theorem zdR {α:Type}{Q:Nat->α->Prop}:∀n:Nat,(∀i,i<n->∃o,Q i o)->∃b:List α,D b=n/\∀(i:Nat) o,b[i]?=I o->Q i o
 |0,_=>⟨[],rfl,ov⟩
 |n+1,h=>by
  have⟨b,c,d⟩:=zdR n (λi e=>h i oa);have⟨o,f⟩:=h n oa;refine⟨b++[o],by simp[c],λi x a=>?_⟩;by_cases e:i<n;rw[BG oa] at a;exact d i x a;obtain rfl:i=n:=(by have:=(AK.1 a).1;simp at this;omega);rw[B9 oa,c] at a;simp at a;subst a;exact f
theorem vo {cs:An}{o:Nat}{v:Y}(h:(cs.drop o).take 1=[v]):cs[o]?=I v:=by
 have a:((cs.drop o).take 1)[0]?=I v:=by rw[h];rfl
 rw[MI,IN od,Hf] at a;exact a
theorem Tryz.Q0:prog.cellsOf 4=1:=om
theorem Tryz.OV:prog.cellsOf 29=1:=om
theorem Tryz.P6:prog.cellsOf 59=1:=om
theorem Tryz.PG:prog.cellsOf 61=4:=om
theorem Tryz.PE:prog.cellsOf 63=6:=om
theorem Tryz.PK:prog.bytesOf 61=48:=om
theorem Tryz.PH:prog.bytesOf 63=88:=om
section
variable {H:Type} {enc:TypeId×Value->H}
theorem KE {P:Program}{e:TypeId}{r:Nat}{d:DataW H}:∀{l:List (DataW H)},d∈l->(DataW.weightsAll P e l).all (·<=r)=G->(d.weights P e).all (·<=r)=G
 | [],h,_=>by cases h
 |x :: l,h,k=>by
  simp only[DataW.weightsAll,List.all_append,B8] at k;obtain rfl|h:=BZ.1 h;exact k.1;exact KE h k.2
theorem Wv {α:Type}(C:α->An)(P:α->Prop)(N:DataW H->Prop){t e:TypeId}{k b:Nat}(hk:0<k)(ht:prog.underlying t=I (.slice e))(aj:prog.cellsOf e=k)(ai:prog.bytesOf e=b)(S:∀o,(C o).length=k){W:World}(one:∀(n:Nat) cs (y:DataW H×List MemPlace),DataW.trod enc prog W 0 (λ_=>G) G n e cs=I y->(y.1.weights prog e).all (·<=reachBytes)=G->N y.1->∃o,P o/\∀(j:Nat) u,(C o)[j]?=I u->cs[j]?=I u){a0:Ap} {c v:Nat} {d0:DataW H} {p:List MemPlace} (h0:DataW.Trod enc prog W 0 (λ_=>G) G t (.slice a0 c v) d0 p) (F:(d0.weights prog t).all (·<=reachBytes)=G) (hG:∀L E,d0=.slice L E->∀d∈L,N d):∃l:List α,c=D l/\(D l)*b<=reachBytes/\∀(i:Nat) o,l[i]?=I o->P o/\∃f off,a0=I ⟨f,off,U⟩/\∀(j:Nat) u,(C o)[j]?=I u->dx W ⟨f,off+i*k+j,U⟩=I u:=by
 have⟨av,h⟩:=h0;obtain⟨w,h2⟩|⟨a,r,ad,m,n,q,Pl,w,hb,ay,_,g,hx,T⟩:=open_slice ht h
 .have e:Value.slice a0 c v=.slice U 0 0:=by simpa [Value.cells] using w
  cases e;exact⟨[],rfl,ov,ov⟩
 have e1:Value.slice a0 c v=.slice (I a) r ad:=by simpa [Value.cells] using w
 rw[IN rfl] at g;subst g;have X:d0=.slice ((List.range r).map q) ((List.range (m-r)).map λj=>q (r+j)):=congrArg Prod.fst hx;rw[X] at F;simp only[DataW.weights,ht,List.all_cons,List.all_append,B8,decide_eq_true_eq,CW,Lz,ai] at F;have⟨ao,ap,_⟩:=F;rw[aj] at T;cases e1;have key:∀i,i<c->∃o:α,P o/\∀(j:Nat) (u:Y),(C o)[j]?=I u->dx W ((a.add (i*k)).add j)=I u:=λi z=>by have⟨cs,c1,c2⟩:=T i oa;have g:q i∈(List.range c).map q:=Cf.2 ⟨i,Ik.2 z,rfl⟩;have⟨o,B,x⟩:=one _ cs _ c2 (KE g ap) (hG _ _ X _ g);exact⟨o,B,λj u s=>((World.cells?_some c1).2.2 j (by have:=(AK.1 s).1;rw[S] at this;exact this)).trans (x j u s)⟩
 have al:∀i,i<c->∃o:α,P o/\∃f off,I a=I ⟨f,off,U⟩/\∀(j:Nat) u,(C o)[j]?=I u->dx W ⟨f,off+i*k+j,U⟩=I u:=λi z=>by have⟨o',_,h'⟩:=key 0 oa;have hs:=No (h' 0 _ (AE (by rw[S];exact hk)));have⟨o,B,x⟩:=key i z;have⟨f,off,ar⟩:=a;obtain rfl:ar=U:=(by simpa [Addr.add] using hs);exact⟨o,B,f,off,rfl,λj u s=>by have:=x j u s;rw[Qb,Qb] at this;exact this⟩
 have⟨l,o1,o2⟩:=zdR c al;exact⟨l,o1.symm,by rw[o1];exact AP (Nat.mul_le_mul_right _ (Nat.le_add_right _ _)) ao,o2⟩
theorem zhW {W:World}{a0:Ap}{m c:Nat}{d0:DataW H}{p:List MemPlace}(B:DataW.Trod enc prog W 0 (λ_=>G) G 36 (.slice a0 m c) d0 p)(hz:(d0.weights prog 36).all (·<=reachBytes)=G):∃ns:Av,m=D ns/\Zf W (.slice a0 m c) ns/\(D ns)<2932031007402:=by
 have⟨ns,a,d,g⟩:=Wv Nd.cells (λ_=>True) (λ_=>True) (k:=4) (b:=48) od underlying36 Tryz.PG Tryz.PK (λ_=>rfl) (λn cs x h _ _=>by
  obtain⟨o,n,rfl,rfl,hl,X,N⟩:=DataW.trod_struct underlying61 h;have e:∀i,i<4->∃y,o[i]?=I y:=λi P=>⟨_,AE (by rw[X];exact P)⟩
  have q:∀(j:Nat) (T:TypeId) (f:Field) y,_->f.type=T->f.offset=j->prog.cellsOf T=1->o[j]?=I y->DataW.trod enc prog W 0 (λ_=>G) G n T ((cs.drop j).take 1)=I y:=λj T f y a d g F L=>by
   have:=(N j f a).trans L;rw[d,g,F] at this;exact this
  have⟨y0,r⟩:=e 0 od;have⟨y1,v⟩:=e 1 od;have⟨y2,w⟩:=e 2 od;have⟨y3,z⟩:=e 3 od;have⟨k,r0,_,_⟩:=DataW.trod_int underlying3 (q 0 3 _ y0 rfl rfl rfl Tryz.N5 r);have⟨f,r1,_,_⟩:=DataW.trod_int underlying3 (q 1 3 _ y1 rfl rfl rfl Tryz.N5 v);have⟨s,r2,_,_⟩:=DataW.trod_string underlying9 (q 2 9 _ y2 rfl rfl rfl Tryz.Ob w);have⟨t,r3,_,_⟩:=DataW.trod_string underlying9 (q 3 9 _ y3 rfl rfl rfl Tryz.Ob z);refine⟨⟨k,f,s,t⟩,trivial,λj u l=>?_⟩
  match j,l with
  |0,rfl=>exact vo r0
  |1,rfl=>exact vo r1
  |2,rfl=>exact vo r2
  |3,rfl=>exact vo r3
  |j+4,l=>simp[Nd.cells] at l) B hz (λ_ _ _ _ _=>trivial)
 refine⟨ns,a,⟨a0,c,by rw[a],λi n S=>(g i n S).2⟩,?_⟩;unfold reachBytes at d;omega
theorem Ya {W:World}{t e:TypeId}{n:Nat}{cs:An}{y:DataW H×List MemPlace}(d:prog.underlying t=I (.slice e))(h:DataW.trod enc prog W 0 (λ_=>G) G n t cs=I y):∃a l c,cs=[.slice a l c]:=by obtain⟨b,_⟩|⟨a,r,i,m,n,f,g,b,_⟩:=open_slice d h;exact⟨_,_,_,b⟩;exact⟨_,_,_,b⟩
def scC (o:Sc×(Ap×Nat)×(Ap×Nat)):An:=o.1.cells o.2.1.1 o.2.1.2 o.2.2.1 o.2.2.2
theorem zdS {W:World}{a0:Ap}{L r:Nat}{d0:DataW H}{p:List MemPlace}(h0:DataW.Trod enc prog W 0 (λ_=>G) G 37 (.slice a0 L r) d0 p)(a:(d0.weights prog 37).all (·<=reachBytes)=G):∃ss:Aw,L=D ss/\Zg W (.slice a0 L r) ss/\(D ss)<1599289640355/\∀c∈ss,D c.keys<8796093022207/\(D c.subs)<17592186044417:=by
 have⟨os,d,t,l⟩:=Wv scC (λo=>Uz W o.1 o.2.1.1 o.2.1.2 o.2.2.1 o.2.2.2/\(D o.1.keys)<8796093022207/\(D o.1.subs)<17592186044417) (λ_=>True) (k:=6) (b:=88) od underlying37 Tryz.PE Tryz.PH (λ_=>rfl) (λn cs x h a _=>by
  obtain⟨xs,n,rfl,rfl,hl,hx,hf⟩:=DataW.trod_struct underlying63 h;simp only[DataW.weights,underlying63] at a;have e:∀i,i<6->∃y,xs[i]?=I y:=λi w=>⟨_,AE (by rw[hx];exact w)⟩
  have q:∀(j:Nat) (T:TypeId) (f:Field) y,_->f.type=T->f.offset=j->prog.cellsOf T=1->xs[j]?=I y->DataW.trod enc prog W 0 (λ_=>G) G n T ((cs.drop j).take 1)=I y:=λj T f y d t l h4 h5=>by
   have:=(hf j f d).trans h5;rw[t,l,h4] at this;exact this
  have⟨y0,e0⟩:=e 0 od;have⟨y1,e1⟩:=e 1 od;have⟨y2,e2⟩:=e 2 od;have⟨X,e3⟩:=e 3 od;have⟨y4,e4⟩:=e 4 od;have⟨y5,e5⟩:=e 5 od;have⟨b,r0,_⟩:=DataW.trod_bool underlying4 (q 0 4 _ y0 rfl rfl rfl Tryz.Q0 e0);have⟨s,r1,_,_⟩:=DataW.trod_string underlying9 (q 1 9 _ y1 rfl rfl rfl Tryz.Ob e1);have⟨f,r2,_,_⟩:=DataW.trod_int underlying3 (q 2 3 _ y2 rfl rfl rfl Tryz.N5 e2);have P:=q 3 59 _ X rfl rfl rfl Tryz.P6 e3;have S:=q 4 29 _ y4 rfl rfl rfl Tryz.OV e4;have⟨m,r5,_,_⟩:=DataW.trod_int underlying3 (q 5 3 _ y5 rfl rfl rfl Tryz.N5 e5);have⟨a3,l3,c3,r3⟩:=Ya underlying59 P;have⟨a4,l4,c4,r4⟩:=Ya underlying29 S;rw[r3] at P;rw[r4] at S;have⟨ts,ah,aC⟩:=Do (d0:=X.1) (p:=X.2) ⟨n,P⟩ a (j:=3) rfl (by rw[Bo,e3];rfl);have⟨F,aB,aR⟩:=zdD (d0:=y4.1) (p:=y4.2) ⟨n,S⟩ a (j:=4) rfl (by rw[Bo,e4];rfl);have af:qN W (λ_=>True) (.slice a4 l4 c4) F:=aB.imp_right (λ⟨g,N,aq,b1,_,b3⟩=>⟨g,N,aq,b1,trivial,b3⟩);obtain rfl:=ah.at'.1;obtain rfl:=af.at'.1;refine⟨(⟨b,s,f,ts,F,m⟩,(a3,c3),(a4,c4)),⟨⟨ah,af⟩,aC,by show (D F)<_;omega⟩,λj u B=>?_⟩
  match j,B with
  |0,rfl=>exact vo r0
  |1,rfl=>exact vo r1
  |2,rfl=>exact vo r2
  |3,rfl=>exact vo r3
  |4,rfl=>exact vo r4
  |5,rfl=>exact vo r5
  |j+6,B=>simp[scC,Sc.cells] at B) h0 a (λ_ _ _ _ _=>trivial)
 refine⟨os.map (·.1),by rw[CW];exact d,⟨a0,r,by rw[CW,d],λi s hs=>?_⟩,?_,λc v=>?_⟩;rw[Bo] at hs;obtain⟨o,z,rfl⟩:=Cj.1 hs;have⟨⟨p1,_⟩,ao,N,e,v⟩:=l i o z;exact⟨ao,N,_,_,_,_,e,p1,v⟩;rw[CW];unfold reachBytes at t;omega;obtain⟨o,z,rfl⟩:=Cf.1 v;have⟨i,w⟩:=Li.1 z;exact(l i o w).1.2
end
end
section
open Go.RowKit
open Sm (Stp Tree)
section
variable {wi w:World} {ow:Ak} {ps:List (Nat×Nat)} {fs:Bb} {vs:Nat->An} {us f:Nat->Bool} {R:Nat->Value} {l:Int}
theorem AB.SE (h:AB wi w ow ps fs vs us R l)(e:∀k,k<D fs->f k=us k):AB wi w ow ps fs vs f R l:=
 ⟨h.s,h.c.pats,λk q a=>by rw[e k (AK.1 a).1];exact h.c.fins k q a,h.c.lst,h.c.mrk,h.c.len⟩
theorem zhX {gx gy m L:Nat}(p f:Int)(s:ByteArray)(lv nv sv:Y)(h:AB wi w ow ps fs vs us R l)(T:∀k q,fs[k]?=I q->us k=q.used)(hP:∃pb F t W cs ts v A,XE w ow gx gy pb F t W cs ts v A)(hT:Tx w)(h1:2<=m)(h2:m<=64)(hn:L<1172812402961)(l1:ps.length<=L)(l2:fs.length<=L):Uh prog 13 #[Ua (I ⟨dg (u wi),0,U⟩),Uf #[Ua (I ⟨gx,0,U⟩),Ua (I ⟨gy,0,U⟩)],Bi 4 p f (m:Nat) s lv nv sv] w λe w'=>e=.returned (C G)/\(∃ow R ps fs us,AB wi w' ow ps fs vs us R l/\(∀k q,fs[k]?=I q->us k=q.used)/\ps.length<=L/\fs.length<=L+1)/\dx w' ⟨dg (u wi),0,U⟩=I (R 0)/\zg (λi=>i=dg (u wi)\/(R 1).ownBlock=I i) w w':=by
 obtain⟨i0,aE,aJ,aK,aL⟩:=info_parts Tryz.P3;obtain⟨pb,F,t,W,cs,ts,v,A,hp⟩:=hP;have HC:Hid (∀b,zke w b->Uh prog 27 #[Ua (I ⟨gx,0,U⟩),.int J (m:Nat)] b λx w'=>∃d ow',x=.returned (Ue #[Ua (I ⟨d,0,U⟩),.int J 0])/\AB wi w' ow' ps fs vs (λj=>if j=fs.length then Z else us j) R l/\TR w' ow' fs.length ⟨d,gy,m,Z⟩ Z/\zke b w'):=λb k=>by refine(ze2 gx pb _ m A _ W cs _ b (hp.keep k (λ_ f=>f.elim)).c (hT.keep k id) h1 h2).mono ?_;rintro x w' ⟨d,sb,mb,rfl,q1,q2,q3,q4,q5⟩;have hs:=k.size;refine⟨d,_,rfl,(h.lab (fs.length+2) k q5).SE (λj hj=>iN oa),⟨gx,pb,F,t,W,cs,ts,v,A,_,_,sb,mb,[],_,(hp.keep (k.trans q5) (λ_ f=>f.elim)).wide (λi e=>(JA (AM (h.s.sl i oa).2 hs)).trans e),q4,λg r=>?_,λe=>(by cases e),λ_=>rfl⟩,q5⟩;have an:=zic w' _ q4.f0;simp only[] at an;rcases r with r|r|rfl;exact Qd (by rcases r with rfl|rfl<;>assumption) (q4.sto.olt g r);exact r.elim;exact Qd q1 an
 have HH:=zd h;have aY:=h.s.lt;have aV:¬(m:Int)<2:=oa;have aW:¬(64:Int)<(m:Int):=oa;clear h hp hT;unfold Bi;go_enter func13,ntmps13;go_wp2_with(go_at_call 27;refine(zb HC _ (((zg.refl _ _).alloc _).alloc _)).mono ?_;rintro e b ⟨d,ow',rfl,n,hf,S⟩;have y1:=zf S ⟨dg (u w),1,U⟩ _ (zf ((zg.refl (λ_=>False) _).alloc _) _ _ (zj w _ rfl _ _ 1 _ rfl) id) id;have y3:=zf S ⟨dg (u w)+1,3,U⟩ _ (zj _ _ (yj w _) _ _ 3 _ rfl) id;have az:Hid (zke w b):=(((zg.refl (λ_=>False) w).alloc _).alloc _).trans S;have o:=zd n;have HF:=zd hf;have d1:=n.s.c 1 od;have f1:=n.s.fz 1;obtain⟨y,B,z,N⟩:=zq (n.s.row 1 od);rw[N] at d1;have HR:Hid (dA b (dg (u wi)+1) 52 4 (.slice y B z) fs.length (yZ fs)):=(by rw[<-N];exact n.s.row 1 od);have aG:=n.s.lt;clear n hf S);have ap:¬(Value.slice y B z).ownBlock=I (dg (u wi)):=λe=>by have:=(zh HR _ e).1;omega
 go_region_law(refine ji rfl (.tmp 110) (.tmp 117) 27 rfl (dg (u wi)+1) 52 i0 (Uf #[Ua U,Ua U,.int J 0,C Z]) 4 32 underlying27 aE aJ aK aL rfl od (.slice y B z) fs.length (yZ fs) (by simp[Act.eval]) (zk HR (P:=λ_=>False) (by repeat (first|refine zg.alloc ?_ _|refine zg.drew ?_|refine zg.drewN ?_ _|exact zg.refl _ _)) (λ_ _ f=>f)) ⟨dg (u b),0,U⟩ 1 1 [Ua (I ⟨d,0,U⟩),Ua (I ⟨gy,0,U⟩),.int J (m:Nat),C Z] (by simp[Act.eval]) rfl (zdy _ (dg (u b)) ov _ _ _ _ _) (λu T=>by simp at T;rcases T with rfl|rfl|rfl|rfl<;>rfl) od (by unfold maxLen;omega) oa ou ?_;intro v' w4 ab ao aq;obtain⟨ya,yn,yc,rfl⟩:=zq ab;have X:zg (λk=>(Value.slice y B z).ownBlock=I k) b w4:=zg.grown (by repeat (first|exact zg.refl _ _|refine zg.alloc ?_ _|refine zg.drew ?_|refine zg.drewN ?_ _)) ao (λk a=>.inl a);have m1:=zf X _ _ d1 ap;have m0:=zp X _ aG f1 ap;have aA:=zd ab;have aC:=zd X;have aB:Hid (∀k,(Value.slice ya yn yc).ownBlock=I k->(Value.slice y B z).ownBlock=I k\/dg (u b)<=k):=(λk a=>(aq k a).imp_right (λq=>by simp at q;omega));clear ab X ao aq)
 all_goals
  have k2:zg (λi=>(R 1).ownBlock=I i) b w4:=by rw[N];exact aC
  have HX:=zd (o.put (i:=1) od k2 (ps':=ps) (fs':=fs++[⟨d,gy,m,Z⟩]) (vs':=vs) (by show dA _ _ _ _ _ (fs++[_]).length (yZ _);rw[AO,WK];exact aA) (λx hx=>by rw[N];exact zb aB x hx) (by rintro(_|_|j) h1 h2<;>first|exact⟨rfl,rfl⟩|omega) ⟨o.c.pats,λk q a=>by
   by_cases e:k<fs.length;rw[BG e] at a;exact o.c.fins k q a;rw[B9 oa] at a;obtain rfl:k=fs.length:=(by have:=(AK.1 a).1;simp at this;omega);simp at a;subst a;rw[IN rfl];exact zb HF,o.c.lst,o.c.mrk,o.c.len⟩)
  have HK:Hid (zg (λi=>i=dg (u wi)\/(R 1).ownBlock=I i) w (w4.setCell ⟨dg (u wi),1,U⟩ (.slice ya yn yc))):=((az.mono (λ_ _ f=>f.elim)).trans (k2.mono (λ_ _ e=>.inr e))).setCell (p:=⟨dg (u wi),1,U⟩) (.inl (.inl rfl)) _;clear k2 d1 f1;go_wp2_with fail;go_ret;refine⟨rfl,⟨_,_,_,_,_,HX,λk q a=>?_,oa,by simp;omega⟩,HX.s.c 0 od,HK⟩;by_cases e:k<fs.length;rw[BG e] at a;rw[iN oa];exact T k q a;rw[B9 oa] at a;obtain rfl:k=fs.length:=(by have:=(AK.1 a).1;simp at this;omega);simp at a;subst a;exact IN rfl
end
def yH (vs:Nat->An)(i:Nat)(x:An):Nat->An:=λj=>if j=i then vs i++x else vs j
theorem qD:yH vs i x i=vs i++x:=IN rfl
theorem yr (h:j≠i):yH vs i x j=vs j:=iN h
theorem zgi (h:∀i,(vs i).length<=n)(j:Nat):(yH vs i x j).length<=n+D x:=by have a:=h i;have b:=h j;by_cases e:j=i;subst e;rw[qD,AO];omega;rw[yr e];omega
theorem zdT {ps:List (Nat×Nat)}{fs:Bb}{vs:Nat->An}{i:Nat}{x:An}(_a:2<=i):∀j,j<10->j≠i->sN ps fs (yH vs i x) j=sN ps fs vs j/\sX ps fs (yH vs i x) j=sX ps fs vs j
 |0,_,_=>⟨rfl,rfl⟩
 |1,_,_=>⟨rfl,rfl⟩
 |j+2,_,h=>by
  have e:=yr (vs:=vs) (x:=x) h;exact⟨congrArg List.length e,e⟩
theorem Lc (a:6<=i)(k j:Nat):aF (yH vs i x) k j=aF vs k j:=by unfold aF;rw[yr (show 3≠i by omega),yr (show 5≠i by omega)]
theorem G0 (a:6<=i)(j k:Nat):aF vs i j=aF vs i k:=by unfold aF;split<;>first|rfl|omega
section
variable {wi w w':World} {ow ow':Ak} {ps:List (Nat×Nat)} {fs:Bb} {vs:Nat->An} {us f:Nat->Bool} {R:Nat->Value} {l:Int} {P:Aj}
theorem AC.add {i:Nat}{x:An}(h:AC w ow ps fs vs us)(f:6<=i)(l:∀y∈x,UP w ow (aM i) (aF vs i 0) y):AC w ow ps fs (yH vs i x) us:=by refine⟨h.pats,h.fins,λk a b c j v d=>?_,λk g v d=>?_,?_⟩;rw[Lc f];by_cases e:k=i;subst e;rw[qD,List.getElem?_append] at d;split at d;exact h.lst k a b c j v d;rw[G0 f j 0];exact l v (Bg d);rw[yr e] at d;exact h.lst k a b c j v d;rw[yr oa] at d;exact h.mrk k g v d;rw[yr oa,yr oa,yr oa,yr oa];exact h.len
theorem AB.keep (h:AB wi w ow ps fs vs us R l)(k:zg P w w')(a:∀i,P i->ow i=0/\S (u wi)<i/\∀j,j<10->(R j).ownBlock≠I i):AB wi w' ow ps fs vs us R l:=
 ⟨h.s.keep k (λi p=>(a i p).2),h.c.keep k (λi p=>⟨(a i p).1,by have:=h.s.tab;have:=(a i p).2.1;omega⟩)⟩
theorem AB.label (h:AB wi w ow ps fs vs us R l)(a:∀i,ow i≠0->ow' i=ow i)(b:∀i,ow' i≠0->ow i≠0\/(S (u wi)<i/\i<S (u w)/\∀j,j<10->(R j).ownBlock≠I i)):AB wi w ow' ps fs vs us R l:=⟨h.s.label b,h.c.wide a⟩
theorem AB.turn {n:Nat}(h:AB wi w ow ps fs vs us R l)(k:zg P w w')(b:∀i,P i->ow i=n+2)(g:∀i,i<S (u w)->ow' i=ow i)(o:∀i,S (u w')<=i->ow' i=0)(t:∀j,j≠n->f j=us j)(r:∀q,fs[n]?=I q->TR w' ow' n q (f n)):AB wi w' ow' ps fs vs f R l:=by have m:∀i,P i->S (u wi)<i:=λi p=>(h.s.sl i (by rw[b i p];omega)).1;refine⟨(h.s.keep k (λi p=>⟨m i p,λj d e=>by have:=b i p;have:=h.s.own j d i e;omega⟩)).label (λi a=>?_),h.c.turn k (λi p=>⟨b i p,by have:=h.s.tab;have:=m i p;omega⟩) (λi a=>g i (h.s.sl i a).2) t r⟩;by_cases s:i<S (u w);rw[g i s] at a;exact .inl a;exact O ⟨by have:=h.s.lt;omega,Decidable.byContradiction λc=>a (o i oa),λj d e=>by have:=(zh (h.s.row j d) i e).2;omega⟩
theorem AB.used {n g m cap:Nat}{q:qP}(h:AB wi w ow ps fs vs us R l)(v:fs[n]?=I q)(r:R 1=.slice (I ⟨g,0,U⟩) m cap):AB wi (w.setCell ⟨g,n*4+3,U⟩ (C G)) ow ps (fs.set n { q with used:=G }) vs us R l:=by
 have k:zg (zr g) w (w.setCell ⟨g,n*4+3,U⟩ (C G)):=(zg.refl _ _).NS _ _;have o:(R 1).ownBlock=I g:=by rw[r];rfl
 have N:=zh (h.s.row 1 od) g o;have f:∀x,zr g x->x=g:=λ_ e=>e;have s:¬zr g (S wi.heap):=λe=>by have:=f _ e;omega
 have z:=h.s.NS 1 od g (.inl o);have u:∀i,zr g i->ow i=0/\i≠11:=λi p=>by rw[f i p];exact z
 have c:=h.c.keep k u;have P:=h.s.tab;refine⟨⟨h.s.old.under k (λj t e=>by have:=f j e;omega),h.s.tab,by have:=h.s.lt;simp;omega,λi d=>zf k _ _ (h.s.c i d) s,zf k _ _ h.s.l s,λj=>by rw[CI];exact h.s.fz j,λi d=>?_,h.s.own,h.s.dis,λj t=>by have:=h.s.sl j t;simp;omega⟩,c.pats,λj L b=>?_,c.lst,c.mrk,c.len⟩
 .by_cases e:i=1;subst e;have a:=h.s.row 1 d;rw[r] at a ⊢;have B:m=D fs:=(by obtain⟨e,_⟩|⟨_,_,_,e,_⟩:=a.2<;>cases e;rfl);subst B;have:=vN (i:=n*4+3) a (C G);show dA _ _ (sT 1) (sZ 1) _ (fs.set n _).length (yZ (fs.set n _));rw[Ct,<-Jz fs n q v];exact this;have a:=zk (h.s.row i d) k (λx F y=>h.s.dis i d 1 od e x F (by rw[f x y];exact o))
  match i,e,a with
  |0,_,a=>exact a
  |i+2,_,a=>exact a
 rw[List.getElem?_set] at b;split at b;rename_i e;subst e;split at b;cases b;exact(h.c.fins n q v).keep k (λi p=>by have:=u i p;omega);cases b;exact c.fins j L b
theorem Mi {k:Nat}{q:qP}{s:Al}{ks:Ar}{a:Nat->Addr}(h:AB wi w ow ps fs vs us R l)(hq:fs[k]?=I q)(hS:Start wi a)(hk:D ks<=17592186044416):∃(r:Bool) (e at':Int) (ts:As) (kids:Au),Uw s kids r e at'/\∀(w1:World) (L:Y),zke w w1->qN w1 (λ_=>True) L ks->Uh prog 21 #[Ua (I ⟨q.x,0,U⟩),Uc s,L] w1 λx w'=>x=.returned (Ue #[C r,.int J e,.int J at'])/\AB wi w' (lab ow w1.heap.size w'.heap.size (k+2)) ps fs vs (λj=>if j=k/\e=0 then G else us j) R l/\UD w' q.y ts kids/\zg (λi=>ow i=k+2) w1 w':=by have⟨gx,pb,F,t,W,cs,ts,v,A,aw,av,sb,mb,es,sv,y,g2,o,g4,g5⟩:=h.c.fins k q hq;have⟨r,e,at',S⟩:=Uw.ex s t.kids;refine⟨r,e,at',ts,t.kids,S,λw1 L z hN=>(IR S (hS.keep (h.s.old.trans z)) (g2.NU z) y.asks y.tok y.k5 y.wf hN oa).mono ?_⟩;rintro x w' ⟨rfl,O',D',ae,au,P,q2,q3,q4,q5,B⟩;have hs:=z.size;have az:=B.size;have T:∀g,ow g≠0->lab ow w1.heap.size w'.heap.size (k+2) g=ow g:=λg b=>JA (AM (h.s.sl g b).2 hs);have X:=(y.keep z (λ_ f=>f.elim)).keep B (λi p=>by have:=o i (.inl p);omega);have N:∀g,ow g=k+2->lab ow w1.heap.size w'.heap.size (k+2) g=k+2:=λg e=>(T g oa).trans e;refine⟨rfl,(h.NV z).turn (n:=k) B (λi u=>o i (.inl u)) (λi u=>JA u) (λi u=>(iN oa).trans (Decidable.byContradiction λc=>by have:=h.s.sl i c;omega)) (λj hj=>iN (λe=>hj e.1)) (λq' al=>?_),X.use.1,B.mono (λi _ u=>o i (.inl u))⟩;obtain rfl:=Bz (hq.symm.trans al);refine⟨gx,pb,F,t,W,cs,ts,v,A,O',D',sb,mb,ae,au,X.wide (λi e=>(T i oa).trans e),P,λg b=>?_,λm=>?_,λm=>?_⟩;obtain b|b|rfl:=b;exact(q4 g b).elim (λe=>N g (o g (.inl e))) (λe=>Qd e (P.sto.olt g b));exact(q5 g b).elim (λe=>N g (o g (O (.inl e)))) (λe=>Qd e (P.sto.dlt g b));exact N _ (o _ (O (O rfl)));by_cases d:e=0;exact q2 d;rw[q3 d];rw[iN (λc=>d c.2)] at m;exact g4 m;by_cases d:e=0;rw[IN ⟨rfl,d⟩] at m;cases m;rw[q3 d];rw[iN (λc=>d c.2)] at m;exact g5 m
theorem I0 {n0 k:Nat}{q:qP}(kd p f n:Int)(s:Al)(L:Ap)(lc:Nat)(ks:Ar)(nv sv:Y)(a:Nat->Addr)(h:AB wi w ow ps fs vs us R l)(hu:∀k q,fs[k]?=I q->us k=q.used)(W:fs[k]?=I q)(hS:Start wi a)(hE:qN wi (λ_=>True) (.slice L (D ks) lc) ks)(hk:D ks<=17592186044416)(hn:n0<1172812402961)(l1:D ps<=n0)(l2:D fs<=n0)(l3:∀i,(vs i).length<=n0):Uh prog 12 #[Ua (I ⟨dg wi.heap,0,U⟩),.int J (k:Nat),Bi kd p f n s (.slice L (D ks) lc) nv sv] w λe w'=>e=.returned (C G)/\TL wi w' (n0+1):=by
 have⟨i0,bH,bP,bQ,bR⟩:=info_parts Tryz.Ol;have l6:=l3 6;have bJ:=(AK.1 W).1;have⟨r,e,at',ts,kids,hA,bm⟩:=Mi (s:=s) (ks:=ks) h W hS hk;have⟨gf,fc,e1,an,b9⟩:=j8 (n:=D fs) (xs:=yZ fs) (h.s.row 1 od) oa;have⟨z0,z1,z2,z3⟩:=vQ fs k q W;replace z0:=an _ _ z0;replace z1:=an _ _ z1;replace z2:=an _ _ z2;replace z3:=an _ _ z3;have c1:=h.s.c 1 od;rw[e1] at c1;have cc:gf<dg w.heap:=zic _ _ z0;have bp:=zfb (D ks+1) oa;simp only[FH,It] at bp;have ce:=h.s.lt;have HH:=zd h;have HA:=zd hA;have a1:=zd bm;have HE:=zd hE;have HL:Hid (∀z,zke w z->∀(j:Nat) u,(ks.map (Value.int J))[j]?=I u->∃gl ak,L=I ⟨gl,ak,U⟩/\dx z ⟨gl,ak+j,U⟩=I u):=λz B j u b=>by obtain⟨x,hx,rfl⟩:=Cf.1 (Bg b);rw[Bo] at b;obtain⟨rfl,_⟩|⟨gl,ak,bx,e,_,hc⟩:=hE;simp at hx;cases e;have⟨y,hy,e⟩:=Cj.1 b;rw[<-e];exact⟨gl,ak,rfl,zf (h.s.old.trans B) _ _ (hc j y hy) id⟩
 have a4:Hid (0<(ks.map (Value.int J)).length->∀z,zke w z->∃ad,L=I ad/\∀(j:Nat) v,(ks.map (Value.int J))[j]?=I v->dx z (ad.add j)=I v):=λhp z B=>by have⟨gl,ak,e,_⟩:=zb HL z B 0 _ (AE hp);refine⟨_,e,λj v b=>?_⟩;have⟨b8,cm,e',hc⟩:=zb HL z B j v b;cases e.symm.trans e';rw[Lb];exact hc
 clear h hA bm hE hS an;unfold Bi;go_enter func12,ntmps12;go_wp2_with(refine wpList_copy_splice (o:={ dst:=I 34,op:=.call { callee:=.builtin .copy,args:=#[.tmp 31,.tmp 33],argTypes:=#[29,29] },type:=_,pos:=_,after:=_,guard:=U }) rfl (.tmp 31) (.tmp 33) 29 29 rfl 3 underlying29 Tryz.Pa (I ⟨dg w.heap+1+1,0,U⟩) L (D ks+1) (D ks+1) (D ks) lc rfl rfl (dg w.heap+1+1) 0 (madeCells #[.int J 0] (D ks+1)).toList 3 (by rw[Array.toArray_toList];exact NK _ _ _ _) (ks.map (Value.int J)) (by rw[CW];exact(Nat.min_eq_left (Is _)).symm) (λhp=>⟨rfl,zb a4 hp _ (by repeat (first|exact zg.refl _ _|refine zg.alloc ?_ _))⟩) (by simp[madeCells]) (λv hv=>by obtain⟨x,_,rfl⟩:=Cf.1 hv;rfl) (dg w.heap+1+1) _ (I5 _ _ _ _) (AD _) ?_;intro z a3 bf;refine zb ?_);refine zd ?_;have aj:=zg.ON (P:=λ_=>False) (bf.mono (by rw[yj,yj];exact AD _));have bg:=(((zg.refl (λ_=>False) w).alloc _).alloc _).trans aj;have y4:=zf aj ⟨dg w.heap,4,U⟩ (Uc s) (zf ((zg.refl (λ_=>False) _).alloc _) _ _ (zj w _ rfl _ _ 4 _ rfl) id) id;have F:=zf aj ⟨dg w.heap,5,U⟩ (.slice L (D ks) lc) (zf ((zg.refl (λ_=>False) _).alloc _) _ _ (zj w _ rfl _ _ 5 _ rfl) id) id;have x0:=zf aj ⟨dg w.heap+1,0,U⟩ (Ua (I ⟨q.x,0,U⟩)) (zj _ _ (yj w _) _ _ 0 _ rfl) id;have x1:=zf aj ⟨dg w.heap+1,1,U⟩ (Ua (I ⟨q.y,0,U⟩)) (zj _ _ (yj w _) _ _ 1 _ rfl) id;have aq:dA z w.heap.size 3 1 (.slice (I ⟨dg w.heap+1+1,0,U⟩) (D ks+1) (D ks+1)) (D ks+1) (jx (ks.map (Value.int J)++[.int J 0]) 0):=by have hg:=a3.out;rw[zdO] at hg;exact⟨by simp[jx],O ⟨_,_,_,rfl,oa,hg,AD _,Ac,ov,by unfold jx;rw[List.replicate_zero,Cd,List.drop_zero];exact FY ov⟩⟩
 have a0:Hid (∀w3,zke z w3->Uh prog 21 #[Ua (I ⟨q.x,0,U⟩),Uc s,.slice (I ⟨dg w.heap+1+1,0,U⟩) (D ks) (D ks+1)] w3 λx w'=>x=.returned (Ue #[C r,.int J e,.int J at'])/\Hid (∃ow',AB wi w' ow' ps fs vs (λj=>if j=k/\e=0 then G else us j) R l/\ow' (dg w.heap+1+1)=0)/\Hid (UD w' q.y ts kids)/\Hid (dA w' w.heap.size 3 1 (.slice (I ⟨dg w.heap+1+1,0,U⟩) (D ks+1) (D ks+1)) (D ks+1) (jx (ks.map (Value.int J)++[.int J 0]) 0))/\dx w' ⟨dg w.heap,4,U⟩=I (Uc s)/\dx w' ⟨dg w.heap,5,U⟩=I (.slice L (D ks) lc)/\dx w' ⟨dg w.heap+1,0,U⟩=I (Ua (I ⟨q.x,0,U⟩))/\dx w' ⟨dg w.heap+1,1,U⟩=I (Ua (I ⟨q.y,0,U⟩))):=λw3 X=>by
  have⟨g',bz,e',T,_⟩:=j8 aq oa;cases e';have br:∀i,dg w.heap<=i->ow i=0:=λi hi=>Decidable.byContradiction λc=>by have:=HH.s.sl i c;omega
  have ap:∀i,dg w.heap<=i->¬ow i=k+2:=λi hi c=>by have:=br i hi;omega
  have cd:dg w.heap+1+1<dg z.heap:=(zh aq _ rfl).2;have ch:=X.size;refine(zb a1 w3 _ (bg.trans X) (O ⟨_,0,_,rfl,trivial,λj x b=>?_⟩)).mono ?_;rw[Bv];exact zf X _ _ (T j _ (by unfold jx;rw[List.replicate_zero,Cd,List.drop_zero,BG (by simpa using(AK.1 b).1),Bo,b];rfl)) id;rintro x w' ⟨rfl,r1,r2,r3⟩;exact⟨rfl,⟨_,r1,(JA oa).trans (br _ oa)⟩,r2,zk (zk aq X (λ_ _ f=>f)) r3 (λg hg=>ap g (zh aq g hg).1),zf r3 _ _ (zf X _ _ y4 id) (ap _ (AD _)),zf r3 _ _ (zf X _ _ F id) (ap _ (AD _)),zf r3 _ _ (zf X _ _ x0 id) (ap _ (Is _)),zf r3 _ _ (zf X _ _ x1 id) (ap _ (Is _))⟩
 have bN:=E8 (dg w.heap+1+1) (D ks);clear a1 a4 aq a3 bf aj bg c1 z0 z1 z2 z3 bp;go_wp2;go_region_held3(λw'=>dx w' ⟨dg w.heap+1,0,U⟩=I (Ua (I ⟨q.x,0,U⟩))/\dx w' ⟨dg w.heap,4,U⟩=I (Uc s)) (go_keep)
  (first|(go_at_call 21;refine(zb a0 _ Ah).mono ?_;rintro e' w3 ⟨rfl,H3,a5,a8,y4,F,x0,x1⟩))
 go_wp2_with(go_at_call 22;refine(DF HA a5).mono ?_;rintro e' w4 ⟨rfl,ax⟩;refine zb ?_);refine zd ?_;have⟨ow',h3,bn⟩:=zb H3;have t:=zd (h3.NV ax);have S:=zd (zk a8 ax (λ_ _ f=>f));have cf:dg w.heap+1+1<dg w4.heap:=(zh S _ rfl).2;replace F:=zf ax _ _ F id;have a2:=zd bn;have hX:(ks.map (Value.int J)++[Value.int J 0]).length=D ks+1:=ov
 clear h3 ax H3 a8 a5 y4 x0 x1 HA a0 HL bN bn;go_wp2;go_loopw[16] (λx wr=>∃i:Nat,x=.int J i/\i<=D ks+1/\Hid (AB wi wr ow' ps fs vs (λj=>if j=k/\e=0 then G else us j) R l)/\Hid (dA wr w.heap.size 3 1 (.slice (I ⟨dg w.heap+1+1,0,U⟩) (D ks+1) (D ks+1)) (D ks+1) (jx (ks.map (Value.int J)++[.int J 0]) i))/\Hid (dx wr ⟨dg w.heap,5,U⟩=I (.slice L (D ks) lc))) (λx _=>D ks+1-(intOf x).toNat);exact⟨0,rfl,oa,t,S,F⟩;clear t S F;obtain⟨i,rfl,hi,t,S,F⟩:=hrel;replace F:=zb F;have⟨g',bz,e',T,ay⟩:=j8 S oa;cases e';have a6:Hid (∀m,m<10->(R m).ownBlock≠I (dg w.heap+1+1)):=λm hm c=>by have:=(zh (HH.s.row m hm) _ c).2;omega
 by_cases bK:i<D ks+1
 ·(have ca:=ay i;have HN:Hid (AB wi (dC wr ⟨dg w.heap+1+1,i,U⟩ (.int J (-7))) ow' ps fs vs (λj=>if j=k/\e=0 then G else us j) R l/\(dC wr ⟨dg w.heap+1+1,i,U⟩ (.int J (-7))).ownsRow w.heap.size 3 1 (.slice (I ⟨dg w.heap+1+1,0,U⟩) (D ks+1) (D ks+1)) (D ks+1) (jx (ks.map (Value.int J)++[.int J 0]) (i+1))/\(dC wr ⟨dg w.heap+1+1,i,U⟩ (.int J (-7))).cell? ⟨dg w.heap,5,U⟩=I (.slice L (D ks) lc)):=by have hS:zg (λj=>j=dg w.heap+1+1) wr (dC wr ⟨dg w.heap+1+1,i,U⟩ (.int J (-7))):=(zg.refl (λj=>j=dg w.heap+1+1) wr).setCell (p:=⟨dg w.heap+1+1,i,U⟩) (Or.inl rfl) _;refine⟨t.keep hS (λj e=>by subst e;exact⟨a2,oa,a6⟩),?_,zf hS _ _ F ou⟩;rw[<-C9 (by rw[hX];exact bK)];exact vN S _);by_cases ao:i<D ks
  .rcases zb HE with⟨c,_⟩|⟨gl,ak,bx,e2,_,bi⟩;rw[c] at ao;simp at ao;cases e2;have bE:=zf t.s.old _ _ (bi i ks[i] (AE ao)) id;have bk:=T i (.int J ks[i]) (by rw[zgg,BG (by simpa using ao),Bo,AE ao];rfl);generalize ks[i]=x at bE bk;clear bi T ay;go_wp2;exact⟨⟨i+1,Ae,oa,HN.1,HN.2.1,HN.2.2⟩,Ad⟩
  obtain rfl:i=D ks:=oa;have bk:=T (D ks) (.int J 0) (by rw[zgg,B9 ov];exact congrArg (λj=>[Value.int J 0][j]?) (show (D ks)-(ks.map (Value.int J)).length=0 by simp));clear T ay;go_wp2;exact⟨⟨D ks+1,Ae,oa,HN.1,HN.2.1,HN.2.2⟩,by simp[intOf]⟩
 obtain rfl:i=D ks+1:=oa;have bG:dg w.heap+1+1<dg wr.heap:=(zh S _ rfl).2;have aH:=zd (t.label (ow':=λj=>if j=dg w.heap+1+1 then 1 else ow' j) (λj b=>iN (λc=>by subst c;exact b a2)) (λj b=>by
  by_cases c:j=dg w.heap+1+1;subst c;exact O ⟨oa,bG,a6⟩;rw[iN c] at b;exact .inl b))
 have HT:Hid (UP wr (λj=>if j=dg w.heap+1+1 then 1 else ow' j) 1 (λ_=>.int J (-7)) (.slice (I ⟨dg w.heap+1+1,0,U⟩) (D ks+1) (D ks+1))):=⟨_,_,_,rfl,oa,λj b=>⟨_,rfl,IN rfl,λq W=>by
  obtain rfl:q=0:=oa;rw[FJ,BD];exact T j _ (by rw[<-hX] at b ⊢;exact Da b)⟩⟩
 have c6:=t.s.c 6 od;have f6:=t.s.fz 6;have c1:=t.s.c 1 od;have⟨ta,tn,tc,e2⟩:=zq (t.s.row 6 od);rw[e2] at c6;rw[e1] at c1;have bL:=t.s.lt;have a7:Hid (dA wr (dg wi.heap+1) 29 1 (.slice ta tn tc) (vs 6).length (vs 6)):=(by show dA _ _ _ _ _ _ _;rw[<-e2];exact t.s.row 6 od);clear T ay F;go_wp2_with(at_builtin;refine zb ?_);refine zd ?_;refine yz _ rfl _ _ 28 rfl (dg wi.heap+1) 29 i0 (.slice U 0 0) 1 24 underlying28 bH bP bQ bR rfl od (.slice ta tn tc) (vs 6).length (vs 6) rfl (AZ a7 _) _ 1 1 [.slice (I ⟨dg w.heap+1+1,0,U⟩) (D ks+1) (D ks+1)] rfl rfl (cell_one_new _ _ _) (λx hx=>by simp at hx;subst hx;rfl) Ac oa ou ?_;intro v2 wb aO bo bs;have B:zg (λj=>(R 6).ownBlock=I j) wr wb:=(by rw[e2];exact Ag.grown bo (λk e=>.inl e));have HX:=zd (aH.put (i:=6) od B (ps':=ps) (fs':=fs) (vs':=yH vs 6 [.slice (I ⟨dg w.heap+1+1,0,U⟩) (D ks+1) (D ks+1)]) (by show dA _ _ _ _ _ (yH vs 6 _ 6).length (yH vs 6 _ 6);rw[qD,AO];exact aO) (λx hx=>by rw[e2];exact(bs x hx).imp_right (λq=>by simp at q;omega)) (zdT od) (aH.c.add od (λy hy=>by rw[A5.1 hy];exact HT)));have az:¬(R 6).ownBlock=I wi.heap.size:=λc=>(by have:=(zh (t.s.row 6 od) _ c).1;omega);have d6:=zf B _ _ c6 az;have b6:=zp B _ bL f6 az;obtain⟨va,vn,vc,rfl⟩:=zq aO;have e3:Z9 R 6 (.slice va vn vc) 1=.slice (I ⟨gf,0,U⟩) (D fs) fc:=e1;have aQ:=zk (t.s.row 1 od) B (λg hg=>t.s.dis 1 od 6 od od g hg);have⟨g4,b4,e4,bj,bl⟩:=j8 (n:=D fs) (xs:=yZ fs) aQ oa;cases e1.symm.trans e4;have z3:=bj _ _ (vQ fs k q W).2.2.2;have z4:=bl (k*4+3);have z1:=zf B _ _ c1 az;have cb:gf≠dg wi.heap:=(by have:=(zh aQ gf (by rw[e1];rfl)).1;omega);have HU:=zd (HX.used W e3);have b3:=zd W;have ci:(fs.set k { q with used:=G }).length=D fs:=Ct;clear aO bo bs B az c6 f6 bj bl c1 W aQ t aH HT S a7 HH HE;by_cases ag:e=0
 ·(have bF:(e == 0)=G:=(by simp[ag]);have HF:Hid (∀j N,(fs.set k { q with used:=G })[j]?=I N->(if j=k/\e=0 then G else us j)=N.used):=λj N b=>by by_cases c:k=j;subst c;rw[Iq bJ] at b;cases b;exact IN ⟨rfl,ag⟩;rw[FW c] at b;rw[iN (λd=>c d.1.symm)];exact hu j N b);clear ag;go_wp2;go_ret;exact⟨rfl,_,_,_,_,_,_,_,HU.s,HU.c,HF,oa,oa,zgi l3⟩
 (have bF:(e == 0)=Z:=(by simp[ag]);have HF:Hid (∀j N,fs[j]?=I N->(if j=k/\e=0 then G else us j)=N.used):=λj N b=>by rw[iN (λd=>ag d.2)];exact hu j N b);clear ag;go_wp2;go_ret;exact⟨rfl,_,_,_,_,_,_,_,HX.s,HX.c,HF,oa,oa,zgi l3⟩
end
theorem Tryz.sInfo:∀i,2<=i->i<10->(prog.info? (sT i)).map (λi=>(i.zero.map (·.cells.size),i.size,decide (i.bytes<=24)))=I (I 1,1,G)
 |0,h,_|1,h,_=>absurd h od
 |2,_,_=>om
 |3,_,_=>om
 |4,_,_=>om
 |5,_,_=>om
 |6,_,_=>om
 |7,_,_=>om
 |8,_,_=>om
 |9,_,_=>om
 |i+10,_,h=>absurd h oa
theorem sInfo (i:Nat)(f:2<=i)(g:i<10):∃a z,prog.info? (sT i)=I a/\a.zero=I z/\a.size=1/\z.cells.size=1/\a.bytes<=24:=by have⟨a,b,e⟩:=Cj.1 (Tryz.sInfo i f g);simp only[Prod.mk.injEq,decide_eq_true_eq] at e;have⟨z,c,d⟩:=Cj.1 e.1;exact⟨a,z,b,c,e.2.1,d,e.2.2⟩
structure TZ (wi W:World)(ow:Ak)(ps:List (Nat×Nat))(fs:Bb)(V:Nat->An)(R:Nat->Y)(l:Int)(i:Nat)(y v':Y)(w':World):Prop where
 s:AS wi (dC w' ⟨S (u wi),i,U⟩ v') ow (Z9 R i v') (sN ps fs (yH V i [y])) (sX ps fs (yH V i [y])) l
 b:∀x,dH v'=I x->(R i).ownBlock=I x\/S (u W)<=x
 k:zg (λx=>(R i).ownBlock=I x) W w'
 c:∀j,j<10->T w' ⟨S (u wi),j,U⟩=I (R j)
 f:∀j,dz w' ⟨S (u wi),j,U⟩=Z
 v:∃a n c,v'=.slice a n c
section
variable {wi W w':World} {ow:Ak} {ps:List (Nat×Nat)} {fs:Bb} {V:Nat->An} {R:Nat->Value} {l:Int} {i:Nat} {y v':Value} {b:Array Oper} {rest:List Oper} {o:Oper} {a:Act} {Q:Exit->Act->World->Prop} {K:Act->World->Prop} {E:Prop} {s x:Operand} {t:TypeId} {ad:Nat}
theorem AS.grow (h:AS wi W ow R (sN ps fs V) (sX ps fs V) l)(b:2<=i)(c:i<10)(a:w'.ownsRow (S (u wi)+1) (sT i) 1 v' ((V i).length+1) (V i++[y]))(g:W.grownBy w' (R i).ownBlock)(f:∀k,dH v'=I k->(R i).ownBlock=I k\/S (u W)<=k):TZ wi W ow ps fs V R l i y v' w':=by
 have k:zg (λx=>(R i).ownBlock=I x) W w':=(zg.refl _ _).grown g (λk e=>.inl e);have d:¬(R i).ownBlock=I (S (u wi)):=λe=>by have:=(zh (h.row i c) _ e).1;omega
 refine⟨h.put c k ?_ f (zdT b),f,k,λj m=>zf k _ _ (h.c j m) d,λj=>zp k _ h.lt (h.fz j) d,zq a⟩
 match i,b,a with
 |i+2,_,a=>show dA _ _ _ 1 _ (yH V (i+2) [y] (i+2)).length (yH V (i+2) [y] (i+2));rw[qD,AO];exact a
theorem AS.app (i:Nat)(c:2<=i)(d:i<10)(h:AS wi W ow R (sN ps fs V) (sX ps fs V) l)(hl:(V i).length<=5000000000100)(v:o.guard=U)(w:o.op=.call { callee:=.builtin .append,args:=#[s,x],argTypes:=#[t,t] })(F:prog.underlying t=I (.slice (sT i)))(B:a.eval s=R i)(N:a.eval x=.slice (I ⟨ad,0,U⟩) 1 1)(P:dx W ⟨ad,0,U⟩=I y)(q:y.oneCell'=G)(r:∀v' w',TZ wi W ow ps fs V R l i y v' w'->wpList prog b Q rest (a.put o.dst v') w'):wpList prog b Q (o :: rest) a W:=by have⟨f,z,g,k,m,n,p⟩:=sInfo i c d;exact yz W v s x t w (dg wi.heap+1) (sT i) f z 1 f.bytes F g k m rfl n od (R i) _ (V i) B (h.Oc i c d) _ 1 1 [y] N rfl (λj u e=>by cases j with|zero=>cases e;rw[Lb];exact P|succ j=>simp at e) (λu L=>by rw[A5.1 L];exact q) Ac (AP (Nat.mul_le_mul_left _ p) oa) h.lt (λv' w' S T X=>r v' w' (h.grow c d S T X))
theorem AS.Su (i:Nat)(c:2<=i)(d:i<10)(h:AS wi W ow R (sN ps fs V) (sX ps fs V) l)(hl:(V i).length<=5000000000100)(v:o.guard=U)(w:o.op=.call { callee:=.builtin .append,args:=#[s,x],argTypes:=#[t,t] })(F:prog.underlying t=I (.slice (sT i)))(B:a.eval s=R i)(N:a.eval x=.slice (I ⟨ad,0,U⟩) 1 1)(P:dx W ⟨ad,0,U⟩=I y)(q:y.oneCell'=G)(r:∀v' w',TZ wi W ow ps fs V R l i y v' w'->K (a.put o.dst v') w'):if Region.wanted o (yielded b a.tmps)=G then Oper.wp prog o a W K Q else E:=by have⟨f,z,g,k,m,n,p⟩:=sInfo i c d;exact ji v s x t w (dg wi.heap+1) (sT i) f z 1 f.bytes F g k m rfl n od (R i) _ (V i) B (h.Oc i c d) _ 1 1 [y] N rfl (λj u e=>by cases j with|zero=>cases e;rw[Lb];exact P|succ j=>simp at e) (λu L=>by rw[A5.1 L];exact q) od Ac (AP (Nat.mul_le_mul_left _ p) oa) h.lt (λv' w' S T X=>r v' w' (h.grow c d S T X))
end
theorem TZ.on {wi wr W w':World}{ow:Ak}{ps:List (Nat×Nat)}{fs:Bb}{V:Nat->An}{R:Nat->Y}{l:Int}{i:Nat}{y v':Y}(g:TZ wi W ow ps fs V R l i y v' w')(a:zke wr W):zg (λb=>(R i).ownBlock=I b\/b=S (u wi)) wr (w'.setCell ⟨S (u wi),i,U⟩ v')/\∀x,dH v'=I x->(R i).ownBlock=I x\/S (u wr)<=x:=
 ⟨((a.mono (λ_ _ f=>f.elim)).Od (g.k.mono (λ_ _ e=>.inl e)) (λ_ _ e=>e)).setCell (p:=⟨S (u wi),i,U⟩) (.inl (O rfl)) _,λx c=>(g.b x c).imp_right (λq=>by have:=a.size;omega)⟩
theorem zdU:yH vs i []=vs:=funext λj=>by by_cases e:j=i;subst e;rw[qD,BW];exact yr e
theorem zdV:yH (yH vs i L) i M=yH vs i (L++M):=funext λj=>by by_cases e:j=i;subst e;rw[qD,qD,qD,Bu];rw[yr e,yr e,yr e]
theorem zhY (h:i≠k):yH (yH vs i L) k M=yH (yH vs k M) i L:=funext λj=>by by_cases e:j=i;subst e;rw[yr h,qD,qD,yr h];rw[yr (vs:=yH vs k M) e];by_cases a:j=k;subst a;rw[qD,qD,yr e];rw[yr a,yr a,yr e]
theorem Qe {R:Nat->Y}{k n:Nat}{v:Y}(a:∀g,dH v=I g->(R k).ownBlock=I g\/n<=g)(j g:Nat)(e:(Z9 R k v j).ownBlock=I g):(R j).ownBlock=I g\/n<=g:=by unfold Z9 at e;by_cases c:j=k;rw[IN c] at e;subst c;exact a g e;rw[iN c] at e;exact .inl e
section
variable {wi w:World} {ow:Ak} {ps:List (Nat×Nat)} {fs:Bb} {vs:Nat->An} {us:Nat->Bool} {R:Nat->Value} {l:Int}
theorem zhZ {b:Nat}(g p f n:Int)(s:Al)(i j m:Y)(a:Nat->Addr)(h:AB wi w ow ps fs vs us R l)(r:∀k q,fs[k]?=I q->us k=q.used)(o:Start wi a)(F:b<1172812402961)(T:D ps<=b)(W:D fs<=b):Uh prog 9 #[Ua (I ⟨dg wi.heap,0,U⟩),Bi g p f n s i j m] w λe w'=>e=.returned (C G)/\∃ow R ps fs us,AB wi w' ow ps fs vs us R l/\(∀k q,fs[k]?=I q->us k=q.used)/\(D ps)<=b+1/\(D fs)<=b:=by obtain⟨k,at',P,S,d,c,_⟩|⟨v,t,ts,X,N,L,d,c,z,x,B,u⟩:=Wk s;refine(zbB wi.heap.size g p f n s i j m k at' w a (o.keep h.s.old) P S d c).mono ?_;rintro e w' ⟨rfl,y⟩;exact⟨rfl,_,_,_,_,_,h.NV y,r,oa,oa⟩;exact WL g p f n s i j m t v ts a h r o X N L d c z x B u F T W
theorem zfd {gx gy a:Nat}(p f n:Int)(s:Al)(c d g:Y)(h:AB wi w ow ps fs vs us R l)(j:∀k q,fs[k]?=I q->us k=q.used)(o:∃pb F t W cs ts v A,XE w ow gx gy pb F t W cs ts v A)(r:Tx w)(u:a<1172812402961)(x:D ps<=a)(y:D fs<=a):Uh prog 13 #[Ua (I ⟨S wi.heap,0,U⟩),Uf #[Ua (I ⟨gx,0,U⟩),Ua (I ⟨gy,0,U⟩)],Bi 4 p f n s c d g] w λe w'=>e=.returned (C G)/\(∃ow R ps fs us,AB wi w' ow ps fs vs us R l/\(∀k q,fs[k]?=I q->us k=q.used)/\(D ps)<=a/\(D fs)<=a+1)/\T w' ⟨S wi.heap,0,U⟩=I (R 0)/\zg (λi=>i=S wi.heap\/(R 1).ownBlock=I i) w w':=by
 by_cases z:2<=n/\n<=64
 .obtain⟨m,rfl⟩:∃m:Nat,n=m:=⟨n.toNat,oa⟩
  exact zhX p f s c d g h j o r oa oa u x y
 refine(Fj (S wi.heap) gx gy p f n s c d g w oa).mono ?_;rintro e w' ⟨rfl,b⟩;exact⟨rfl,⟨_,_,_,_,_,h.NV b,j,oa,oa⟩,(h.NV b).s.c 0 od,b.mono (λ_ _ f=>f.elim)⟩
theorem zfe {gx gy:Nat}(b:Nat)(p f n:Int)(s:Al)(m o q:Y)(k:∃pb F t W cs ts v A,XE w ow gx gy pb F t W cs ts v A):Uh prog 13 #[Ua (I ⟨b,0,U⟩),Uf #[Ua (I ⟨gx,0,U⟩),Ua (I ⟨gy,0,U⟩)],Bi 2 p f n s m o q] w λe w'=>e=.returned (C G)/\zke w w':=by
 have⟨pb,F,t,W,cs,ts,v,A,g⟩:=k;have h:=g.c.size;have l:=g.use.2;have i:Hid (∀W,zke (dB w (Ub #[Ua (I ⟨gx,0,U⟩),Ua (I ⟨gy,0,U⟩)] 45)) W->Uh prog 7 #[Ua (I ⟨gx,0,U⟩)] W λx w'=>x=.returned (.int J (v+1))/\zke w w'/\T w' ⟨S w.heap,0,U⟩=I (Ua (I ⟨gx,0,U⟩))/\T w' ⟨S w.heap,1,U⟩=I (Ua (I ⟨gy,0,U⟩))/\T w' ⟨gy,1,U⟩=I (.int J (v+1))):=λW d=>by have c:=((zg.refl (λ_=>False) w).alloc (Ub #[Ua (I ⟨gx,0,U⟩),Ua (I ⟨gy,0,U⟩)] 45)).trans d;refine(zdm gx _ W (zf c _ _ h id)).mono ?_;rintro e w' ⟨rfl,a⟩;exact⟨rfl,c.trans a,zf (d.trans a) _ _ (zj w _ rfl _ _ 0 _ rfl) id,zf (d.trans a) _ _ (zj w _ rfl _ _ 1 _ rfl) id,zf (c.trans a) _ _ l id⟩
 unfold Bi;go_enter func13,ntmps13;go_wp2;go_region_held3(λw'=>T w' ⟨S w.heap,0,U⟩=I (Ua (I ⟨gx,0,U⟩))/\T w' ⟨S w.heap,1,U⟩=I (Ua (I ⟨gy,0,U⟩))/\T w' ⟨gy,1,U⟩=I (.int J (v+1))) (go_keep)
  (first|(go_at_call 7;refine(zb i _ (Ag.drewN _)).mono ?_;rintro e r ⟨rfl,j,u,y,z⟩))
 go_wp2;go_ret;exact⟨rfl,j⟩
end
end
