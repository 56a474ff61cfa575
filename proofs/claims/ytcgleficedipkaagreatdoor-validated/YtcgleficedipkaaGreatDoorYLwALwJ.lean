/- The statement's own functions, Validate: what is handed out and in stays as the caller wrote it. -/
import Derived.Test.YtcgleficedipkaaGreatDoorYHoAHoG
import Derived.Laws.CopyOwn
namespace Go.Proofs.YtcgleficedipkaaGreatDoor
open Option renaming none->U,some->I
open Value renaming int->M,slice->K,bool->C,pointer->Ua,string->Uc,tuple->Ue,agg->Uf
open IntKind renaming i64->J
open Bool renaming false->Z,true->G
open _root_.Go.Proofs.Tryz renaming prog->V
open Go renaming World->E,Value->Y,Calls->Uh
open Go.RowKit renaming Hid->H
open Or renaming inr->O,inl->Q
open Ending renaming returned->R
open Obj renaming cells->Ub
open And renaming intro->Ur
open _root_.Go.Proofs.Tryz
variable {w:World}{X:List Value}(B n:Nat->Nat)(m:Int)(wb i:Nat){a:Option Addr}(S W ty y:TypeId)(z g x s F:Nat)(N:Option Addr)(f L:Nat)
section
open Go.RowKit
def Rows (w:E)(R:Nat->Prop)(v:Y)(z:Nat)(F:Nat->Y):Prop:=∃a n c,v=K a n c/\n<4611686018427387904/\∀i,i<n->∃g b m d,a=I ⟨g,0,U⟩/\R g/\w.cell? ⟨g,i,U⟩=I (K b m d)/\m<4611686018427387904/\∀k,k<m->∃h,b=I ⟨h,0,U⟩/\R h/\∀j,j<z->w.cell? ⟨h,k*z+j,U⟩=I (F j)
theorem Rows.keep {l:E}{P R:Nat->Prop}{v:Y}{z:Nat}{F:Nat->Y}(h:Rows w R v z F)(k:zf P w l)(f:∀g,R g->¬P g):Rows l R v z F:=by obtain⟨a,n,c,x,y,B⟩:=h;refine⟨a,n,c,x,y,λi L=>?_⟩;obtain⟨g,b,m,o,p,d,r,s,t⟩:=B i L;refine⟨g,b,m,o,p,d,zg k _ _ r (f g d),s,λq S=>?_⟩;obtain⟨h,f1,e,u⟩:=t q S;exact⟨h,f1,e,λj N=>zg k _ _ (u j N) (f h e)⟩
theorem Rows.nil (w:E)(R:Nat->Prop)(z:Nat)(F:Nat->Y):Rows w R (K U 0 0) z F:=⟨U,0,0,rfl,od,λi a=>absurd a (zgV _)⟩
def ndT (j:Nat):Y:=match j with|0=>M J (-7)|1=>M J 0|_=>Uc ⟨#[]⟩
def scT (j:Nat):Y:=match j with|0=>C Z|1=>Uc ⟨#[]⟩|2=>M J 0|5=>M J (-7)|_=>K U 0 0
def tuS:ByteArray:=⟨#[116,117,114,110,101,100]⟩
structure LK (w:E)(R:Nat->Prop)(wb:Nat)(m:Int):Prop where
 i:w.cell? ⟨wb,2,U⟩=I (K U 0 0)
 f:∃fa fc ma mc n,w.cell? ⟨wb,4,U⟩=I (K fa n fc)/\w.cell? ⟨wb,5,U⟩=I (K ma n mc)/\Rows w R (K fa n fc) 2 (λ_=>M J m)/\∀i,i<n->∃g,ma=I ⟨g,0,U⟩/\R g/\w.cell? ⟨g,i,U⟩=I (M J m)
 t:∃v,w.cell? ⟨wb,6,U⟩=I v/\Rows w R v 1 (λ_=>M J (-7))
 k:∃v,w.cell? ⟨wb,7,U⟩=I v/\Rows w R v 1 (λ_=>Uc tuS)
 n:∃v,w.cell? ⟨wb,8,U⟩=I v/\Rows w R v 4 ndT
 s:∃v,w.cell? ⟨wb,9,U⟩=I v/\Rows w R v 6 scT
theorem LK.keep {w a:E}{R:Nat->Prop}{wb:Nat}{m:Int}(h:LK w R wb m)(k:ziE w a):LK a R wb m:=by have c:∀{g j:Nat} {v},w.cell? ⟨g,j,U⟩=I v->a.cell? ⟨g,j,U⟩=I v:=λe=>zg k _ _ e id;have n:∀g,R g->¬False:=λ_ _ f=>f;obtain⟨o,p,s,t,q,f1,b,d,l⟩:=h.f;exact⟨c h.i,⟨o,p,s,t,q,c f1,c b,d.keep k n,λi r=>(l i r).imp (λg e=>⟨e.1,e.2.1,c e.2.2⟩)⟩,h.t.imp (λv e=>⟨c e.1,e.2.keep k n⟩),h.k.imp (λv e=>⟨c e.1,e.2.keep k n⟩),h.n.imp (λv e=>⟨c e.1,e.2.keep k n⟩),h.s.imp (λv e=>⟨c e.1,e.2.keep k n⟩)⟩
set_option maxHeartbeats 8000000
set_option maxRecDepth 1000000
theorem keptV {R:Nat->Prop}(wb:Nat)(m:Int)(w:E)(h:LK w R wb m):Uh V 16 #[Ua (I ⟨wb,0,U⟩)] w λe w'=>e=.returned (C G)/\ziE w w':=by
 have y:=ze h;have c2:=h.i;clear h;go_enter func16,ntmps16;go_wp2_with fail;refine wp_loop_rounds 1 ?_;rw[rounds_succ];go_wp2_with fail;clear c2;go_upto_region 10 with fail;obtain⟨F,L,ma,mc,N,f1,f2,⟨_,_,_,e,P,o⟩,hM⟩:=y.f;cases e;have X:=ze hM;have i:=ze o;clear o hM;go_loopw[5] (λx wr=>∃n:Nat,x=M J n/\n<=N/\H (ziE w wr)) (λx _=>N-(intOf x).toNat);exact⟨0,rfl,oa,zf.refl _ _⟩;obtain⟨n,rfl,T,a⟩:=hrel;have r:=zg a _ _ f1 id;by_cases u:n<N
 .obtain⟨g,b,q,z,rfl,-,k,W,p⟩:=zb i n u;obtain⟨gm,rfl,-,e3⟩:=zb X n u;have d:=ze p;clear p i X;have s:=zg a _ _ k id;go_upto_region 13 with fail;clear r s;go_loopw[6] (λx l=>∃j:Nat,x=M J j/\j<=q/\H (ziE w l)) (λx _=>q-(intOf x).toNat);exact⟨0,rfl,oa,a⟩;clear a;obtain⟨j,rfl,S,a⟩:=hrel;have r:=zg a _ _ f1 id;have s:=zg a _ _ k id;by_cases v:j<q
  .obtain⟨h,rfl,-,c⟩:=zb d j v;have t:=zg a _ _ (c 0 od) id;have B:=zg a _ _ (c 1 od) id;have k3:=zg a _ _ e3 id;have k5:=zg a _ _ f2 id;rw[zhl] at t;clear c d;go_upto_region 15 with fail;go_quiet(fail);go_wp2_with fail;exact⟨⟨j+1,by go_num,oa,a.drewN _⟩,by simp[intOf];omega⟩
  clear d;go_wp2_with fail;exact⟨⟨n+1,by go_num,oa,a⟩,by simp[intOf];omega⟩
 clear i X;go_upto_region 18 with fail;obtain⟨_,f1,F,N,L,rfl,P,o⟩:=y.t;have i:=ze o;clear o;go_loopw[7] (λx wr=>∃n:Nat,x=M J n/\n<=N/\H (ziE w wr)) (λx _=>N-(intOf x).toNat);exact⟨0,rfl,oa,a⟩;clear a;obtain⟨n,rfl,T,a⟩:=hrel;have r:=zg a _ _ f1 id;by_cases u:n<N
 .obtain⟨g,b,q,z,rfl,-,k,W,p⟩:=zb i n u;have d:=ze p;clear p i;have s:=zg a _ _ k id;go_upto_region 21 with fail;clear r s;go_loopw[8] (λx l=>∃j:Nat,x=M J j/\j<=q/\H (ziE w l)) (λx _=>q-(intOf x).toNat);exact⟨0,rfl,oa,a⟩;clear a;obtain⟨j,rfl,S,a⟩:=hrel;have r:=zg a _ _ f1 id;have s:=zg a _ _ k id;by_cases v:j<q
  .obtain⟨h,rfl,-,c⟩:=zb d j v;have t:=zg a _ _ (c 0 od) id;rw[zhl,zis] at t;clear c d;go_wp2_with fail;exact⟨⟨j+1,by go_num,oa,a⟩,by simp[intOf];omega⟩
  clear d;go_wp2_with fail;exact⟨⟨n+1,by go_num,oa,a⟩,by simp[intOf];omega⟩
 clear i;go_upto_region 26 with fail;obtain⟨_,f1,F,N,L,rfl,P,o⟩:=y.k;have i:=ze o;clear o;go_loopw[9] (λx wr=>∃n:Nat,x=M J n/\n<=N/\H (ziE w wr)) (λx _=>N-(intOf x).toNat);exact⟨0,rfl,oa,a⟩;clear a;obtain⟨n,rfl,T,a⟩:=hrel;have r:=zg a _ _ f1 id;by_cases u:n<N
 .obtain⟨g,b,q,z,rfl,-,k,W,p⟩:=zb i n u;have d:=ze p;clear p i;have s:=zg a _ _ k id;go_upto_region 29 with fail;clear r s;go_loopw[10] (λx l=>∃j:Nat,x=M J j/\j<=q/\H (ziE w l)) (λx _=>q-(intOf x).toNat);exact⟨0,rfl,oa,a⟩;clear a;obtain⟨j,rfl,S,a⟩:=hrel;have r:=zg a _ _ f1 id;have s:=zg a _ _ k id;by_cases v:j<q
  .obtain⟨h,rfl,-,c⟩:=zb d j v;have t:=zg a _ _ (c 0 od) id;rw[zhl,zis] at t;clear c d;unfold tuS at t;go_wp2_with fail;exact⟨⟨j+1,by go_num,oa,a⟩,by simp[intOf];omega⟩
  clear d;go_wp2_with fail;exact⟨⟨n+1,by go_num,oa,a⟩,by simp[intOf];omega⟩
 clear i;go_upto_region 34 with fail;obtain⟨_,f1,F,N,L,rfl,P,o⟩:=y.n;have i:=ze o;clear o;go_loopw[11] (λx wr=>∃n:Nat,x=M J n/\n<=N/\H (ziE w wr)) (λx _=>N-(intOf x).toNat);exact⟨0,rfl,oa,a⟩;clear a;obtain⟨n,rfl,T,a⟩:=hrel;have r:=zg a _ _ f1 id;by_cases u:n<N
 .obtain⟨g,b,q,z,rfl,-,k,W,p⟩:=zb i n u;have d:=ze p;clear p i;have s:=zg a _ _ k id;go_upto_region 37 with fail;clear r s;go_loopw[12] (λx l=>∃j:Nat,x=M J j/\j<=q/\H (ziE w l)) (λx _=>q-(intOf x).toNat);exact⟨0,rfl,oa,a⟩;clear a;obtain⟨j,rfl,S,a⟩:=hrel;have r:=zg a _ _ f1 id;have s:=zg a _ _ k id;by_cases v:j<q
  .obtain⟨h,rfl,-,c⟩:=zb d j v;have t:=zg a _ _ (c 0 od) id;have B:=zg a _ _ (c 1 od) id;have d2:=zg a _ _ (c 2 od) id;have d3:=zg a _ _ (c 3 od) id;rw[zhl] at t;simp only[ndT] at t B d2 d3;clear c d;go_wp2_with fail;exact⟨⟨j+1,by go_num,oa,a.alloc _⟩,by simp[intOf];omega⟩
  clear d;go_wp2_with fail;exact⟨⟨n+1,by go_num,oa,a⟩,by simp[intOf];omega⟩
 clear i;go_upto_region 43 with fail;obtain⟨_,f1,F,N,L,rfl,P,o⟩:=y.s;have i:=ze o;clear o;go_loopw[14] (λx wr=>∃n:Nat,x=M J n/\n<=N/\H (ziE w wr)) (λx _=>N-(intOf x).toNat);exact⟨0,rfl,oa,a⟩;clear a;obtain⟨n,rfl,T,a⟩:=hrel;have r:=zg a _ _ f1 id;by_cases u:n<N
 .obtain⟨g,b,q,z,rfl,-,k,W,p⟩:=zb i n u;have d:=ze p;clear p i;have s:=zg a _ _ k id;go_upto_region 46 with fail;clear r s;go_loopw[15] (λx l=>∃j:Nat,x=M J j/\j<=q/\H (ziE w l)) (λx _=>q-(intOf x).toNat);exact⟨0,rfl,oa,a⟩;clear a;obtain⟨j,rfl,S,a⟩:=hrel;have r:=zg a _ _ f1 id;have s:=zg a _ _ k id;by_cases v:j<q
  .obtain⟨h,rfl,-,c⟩:=zb d j v;have t:=zg a _ _ (c 0 od) id;have B:=zg a _ _ (c 1 od) id;have d2:=zg a _ _ (c 2 od) id;have d3:=zg a _ _ (c 3 od) id;have d4:=zg a _ _ (c 4 od) id;have d5:=zg a _ _ (c 5 od) id;rw[zhl] at t;simp only[scT] at t B d2 d3 d4 d5;clear c d;go_wp2_with fail;exact⟨⟨j+1,by go_num,oa,a.alloc _⟩,by simp[intOf];omega⟩
  clear d;go_wp2_with fail;exact⟨⟨n+1,by go_num,oa,a⟩,by simp[intOf];omega⟩
 clear i;go_wp2_with fail;go_ret;exact⟨rfl,a⟩
def setL (g:Nat):E->Nat->List Y->E
 |w,_,[]=>w
 |w,o,v :: r=>setL g (w.setCell ⟨g,o,U⟩ v) (o+1) r
theorem vX {g:Nat}:∀{w:E} {o:Nat} (a:List Y),zf (λx=>x=g) w (setL g w o a)
 |_w,_,[]=>zf.refl _ _
 |w,o,v :: r=>((zf.refl (λx=>x=g) w).setCell (p:=⟨g,o,U⟩) (Q rfl) v).laterO (vX r) (λ_ _ e=>e)
theorem Qp {g q:Nat}:∀{w:E} {o:Nat} (b:List Y),(setL g w o b).frozen? ⟨g,q,U⟩=w.frozen? ⟨g,q,U⟩
 |_w,_,[]=>rfl
 |_w,_o,_v :: r=>(Qp r).trans (zk _ _ _ _)
theorem qZ {g q:Nat}:∀{w:E} {o:Nat} (a:List Y),q<o\/o+a.length<=q->(setL g w o a).cell? ⟨g,q,U⟩=w.cell? ⟨g,q,U⟩
 |w,_,[],_=>rfl
 |w,o,v :: r,h=>(qZ r (by simp at h;omega)).trans (zgI _ _ _ _ (by intro e;have:=congrArg Addr.off e;simp at this h;omega))
theorem Qq {g:Nat}:∀{w:E} {o:Nat} (b:List Y),(∀j,j<b.length->∃u,w.cell? ⟨g,o+j,U⟩=I u)->∀(j:Nat) v,b[j]?=I v->(setL g w o b).cell? ⟨g,o+j,U⟩=I v
 |w,o,[],_,j,v,e=>by simp at e
 |w,o,u :: r,h,0,v,e=>by
  cases e;obtain⟨y,a⟩:=h 0 ov;exact(qZ r (Q oa)).trans (zgL _ _ _ a)
 |w,o,u :: r,h,j+1,v,e=>by
  have c:∀j,o+1+j=o+(j+1):=λj=>oa;have:=Qq (g:=g) (w:=w.setCell ⟨g,o,U⟩ u) (o:=o+1) r (λj d=>by
   obtain⟨y,a⟩:=h (j+1) (by simpa using d);exact⟨y,by rw[c,zgI _ _ _ _ (by intro e;have:=congrArg Addr.off e;simp at this)];exact a⟩) j v e
  rwa [c] at this
theorem km.at' {n c:Nat}{d:List Int}(h:km w (λ_=>True) (K a n c) d):n=d.length/\∀(j:Nat) x,d[j]?=I x->∃g o,a=I ⟨g,o,U⟩/\w.cell? ⟨g,o+j,U⟩=I (M J x):=by rcases h with⟨rfl,_,_,e⟩|⟨g,o,f,e,_,h⟩;cases e;exact⟨rfl,λj x b=>by simp at b⟩;cases e;exact⟨rfl,λj x b=>⟨g,o,rfl,h j x b⟩⟩
theorem YF.at' {n c:Nat}{d:List ByteArray}(h:YF w (K a n c) d):n=d.length/\∀(j:Nat) x,d[j]?=I x->∃g o,a=I ⟨g,o,U⟩/\w.cell? ⟨g,o+j,U⟩=I (Uc x):=by rcases h with⟨rfl,_,_,e⟩|⟨g,o,f,e,_,h⟩;cases e;exact⟨rfl,λj x b=>by simp at b⟩;cases e;exact⟨rfl,λj x b=>⟨g,o,rfl,h j x b⟩⟩
theorem zfw {g i:Option Addr}{h j:Nat}{a:List Int}(l:km w (λ_=>True) (K g a.length h) a)(m:km w (λ_=>True) (K i a.length j) a)(u:a.length<4611686018427387904):Uh V 59 #[K g a.length h,K i a.length j] w λe r=>e=R (C G)/\ziE w r:=by
 have c:=ze l.at'.2;have d:=ze m.at'.2;clear l m;go_enter func59,ntmps59;go_wp2_with fail;go_loopw[5] (λk wr=>∃n:Nat,k=M J n/\n<=a.length/\H (ziE w wr)) (λk _=>a.length-(intOf k).toNat);exact⟨0,rfl,oa,zf.refl _ _⟩;obtain⟨n,rfl,v,b⟩:=hrel;by_cases o:n<a.length
 .obtain⟨s,y,rfl,p⟩:=zb c n a[n] (zgE o);obtain⟨t,z,rfl,q⟩:=zb d n a[n] (zgE o);have B:=zg b _ _ p id;have F:=zg b _ _ q id;generalize a[n]=x at *;clear c d p q;go_wp2_with fail;go_region;go_wp2_with fail;exact⟨⟨n+1,by go_num,oa,b.drew⟩,by simp[intOf];omega⟩
 go_wp2_with fail;go_ret;exact⟨rfl,b⟩
theorem sameScV {s:Sc}{w:E}{q r v y:Option Addr}{kc t z B:Nat}(h:ScL w s q kc v z)(o:ScL w s r t y B)(hk:s.keys.length<4611686018427387904)(T:s.subs.length<4611686018427387904):Uh V 108 #[s.val q kc v z,s.val r t y B] w λe w'=>e=R (C G)/\ziE w w':=by
 have l:H (∀F,ziE w F->_):=λF k=>zfw (h.keep k).s (o.keep k).s T;have g:=ze h.k.at'.2;have i:=ze o.k.at'.2;clear h o T;unfold Sc.val;go_enter func108,ntmps108;go_upto_region 2 with(go_at_call 59;refine(zb l _ (((zf.refl _ _).alloc _).alloc _)).mono ?_;rintro e w1 ⟨rfl,P⟩;have d:=ze P;clear P);have c:=λ(j:Nat) u p=>zg d _ _ (zg ((zf.refl (λ_=>False) _).alloc _) _ _ (zm w _ rfl #[C s.hp,Uc s.pat,M J s.fmt,K q s.keys.length kc,K v s.subs.length z,M J s.more] 39 j u p) id) id;have a:=λ(j:Nat) u p=>zg d _ _ (zm (w.alloc _) (w.heap.size+1) ov #[C s.hp,Uc s.pat,M J s.fmt,K r s.keys.length t,K y s.subs.length B,M J s.more] 39 j u p) id;have a0:=c 0 _ rfl;have a1:=c 1 _ rfl;have a2:=c 2 _ rfl;have L:=c 3 _ rfl;have a5:=c 5 _ rfl;have b0:=a 0 _ rfl;have b1:=a 1 _ rfl;have b2:=a 2 _ rfl;have N:=a 3 _ rfl;have b5:=a 5 _ rfl;have HW:=ze ((((zf.refl (λ_=>False) w).alloc _).alloc _).trans d);clear c a d;go_upto_region 5 with fail;clear a0 a1 a2 a5 b0 b1 b2 b5;go_loopw[6] (λk wr=>∃n:Nat,k=M J n/\n<=s.keys.length/\H (ziE w1 wr)) (λk _=>s.keys.length-(intOf k).toNat);exact⟨0,rfl,oa,zf.refl _ _⟩;obtain⟨n,rfl,hn,b⟩:=hrel;have e3:=zg b _ _ L id;have f3:=zg b _ _ N id;have m:=ze (HW.trans b);by_cases S:n<s.keys.length
 .obtain⟨g1,o1,rfl,W⟩:=zb g n s.keys[n] (zgE S);obtain⟨g2,o2,rfl,X⟩:=zb i n s.keys[n] (zgE S);have z1:=zg m _ _ W id;have z2:=zg m _ _ X id;generalize s.keys[n]=x at *;clear g i W X L N l;go_wp2_with fail;go_region;go_wp2_with fail;exact⟨⟨n+1,by go_num,oa,b.drew⟩,by simp[intOf];omega⟩
 clear g i l;go_wp2_with fail;go_ret;exact⟨rfl,m⟩
def zeroSc:Sc:=⟨Z,⟨#[]⟩,0,[],[],0⟩
def slC (B n:Nat->Nat)(i:Nat):List Y:=(List.range i).map (λj=>K (I ⟨B j,0,U⟩) (n j) (n j))
theorem Ky:slC B n (i+1)=slC B n i++[K (I ⟨B i,0,U⟩) (n i) (n i)]:=by rw[slC,List.range_succ,zhO];rfl
def nT (ss:List Sc)(i:Nat):Nat:=(ss.getD i zeroSc).subs.length+1
def nK (ss:List Sc)(i:Nat):Nat:=(ss.getD i zeroSc).keys.length+1
structure RT (w1:E)(ow:Nat->Nat)(ss:List Sc)(wb:Nat)(KB TB:Nat->Nat)(it ik:Nat)(PT PK:Nat->Nat->Prop)(tv kv:Y)(wr:E):Prop where
 on:zf (λg=>ow g≠0/\ow g≠2) w1 wr
 c6:wr.cell? ⟨wb,6,U⟩=I tv
 c7:wr.cell? ⟨wb,7,U⟩=I kv
 oc:∀j,wr.frozen? ⟨wb,j,U⟩=Z/\(j≠6->j≠7->wr.cell? ⟨wb,j,U⟩=w1.cell? ⟨wb,j,U⟩)
 rt:wr.ownsRow w1.heap.size 27 1 tv it (slC TB (nT ss) it)
 rk:wr.ownsRow w1.heap.size 37 1 kv ik (slC KB (nK ss) ik)
 ds:∀g,tv.ownBlock=I g->kv.ownBlock≠I g
 et:∀i k,i<ss.length->k<nT ss i->(∃u,wr.cell? ⟨TB i,k,U⟩=I u/\(PT i k->u=M J (-7)))/\wr.frozen? ⟨TB i,k,U⟩=Z
 ek:∀i k,i<ss.length->k<nK ss i->(∃u,wr.cell? ⟨KB i,k,U⟩=I u/\(PK i k->u=Uc tuS))/\wr.frozen? ⟨KB i,k,U⟩=Z
structure RO (w1:E)(ow:Nat->Nat)(m wb:Nat)(KB TB:Nat->Nat):Prop where
 b:ow wb=1/\wb<w1.heap.size
 k:∀i,i<m->ow (KB i)=2*i+4/\ow (TB i)=2*i+5/\KB i<w1.heap.size/\TB i<w1.heap.size
section
variable {w1 wr l:World} {ow:Nat->Nat} {ss:List Sc} {wb it ik i k:Nat} {KB TB:Nat->Nat} {PT PK:Nat->Nat->Prop} {tv kv v2:Value}
theorem RT.setT (h:RT w1 ow ss wb KB TB it ik PT PK tv kv wr)(o:RO w1 ow ss.length wb KB TB)(F:i<ss.length)(N:k<nT ss i):RT w1 ow ss wb KB TB it ik (λd f=>PT d f\/(d=i/\f=k)) PK tv kv (wr.setCell ⟨TB i,k,U⟩ (M J (-7))):=by
 have m:zf (λg=>g=TB i) wr (wr.setCell ⟨TB i,k,U⟩ (M J (-7))):=(zf.refl (λg=>g=TB i) _).setCell (Q rfl) _;obtain⟨P,S,T,W⟩:=o.k i F;have b:=o.b;have c:∀{g j v},wr.cell? ⟨g,j,U⟩=I v->g≠TB i->(wr.setCell ⟨TB i,k,U⟩ (M J (-7))).cell? ⟨g,j,U⟩=I v:=λB L=>zg m _ _ B L;have x:wb≠TB i:=λe=>by have:=b.1;rw[e] at this;omega
 refine⟨h.on.laterO m (λg _ e=>by rw[e];omega),c h.c6 x,c h.c7 x,λj=>⟨(zk _ _ _ _).trans (h.oc j).1,λy z=>(m.cell (p:=⟨wb,j,U⟩) (zgJ b.2 h.on.size) x).trans ((h.oc j).2 y z)⟩,zl h.rt m (λg t e=>by have:=(zh h.rt g t).1;omega),zl h.rk m (λg t e=>by have:=(zh h.rk g t).1;omega),h.ds,λd f l w=>?_,λd f l w=>?_⟩;rw[zk];obtain⟨⟨u,n,s⟩,r⟩:=h.et d f l w;by_cases q:d=i/\f=k;obtain⟨rfl,rfl⟩:=q;exact⟨⟨_,zgL _ _ _ n,λ_=>rfl⟩,r⟩;refine⟨⟨u,yH n (λ⟨a,b⟩=>q ⟨?_,b⟩),λe=>e.elim s (λe=>absurd e q)⟩,r⟩;have:=(o.k d l).2.1;rw[a] at this;omega;rw[zk];obtain⟨⟨u,n,s⟩,r⟩:=h.ek d f l w;exact⟨⟨u,c n (λa=>by have:=(o.k d l).1;rw[a] at this;omega),s⟩,r⟩
theorem RT.setK (h:RT w1 ow ss wb KB TB it ik PT PK tv kv wr)(o:RO w1 ow ss.length wb KB TB)(F:i<ss.length)(N:k<nK ss i):RT w1 ow ss wb KB TB it ik PT (λd f=>PK d f\/(d=i/\f=k)) tv kv (wr.setCell ⟨KB i,k,U⟩ (Uc tuS)):=by
 have m:zf (λg=>g=KB i) wr (wr.setCell ⟨KB i,k,U⟩ (Uc tuS)):=(zf.refl (λg=>g=KB i) _).setCell (Q rfl) _;obtain⟨P,S,T,W⟩:=o.k i F;have b:=o.b;have c:∀{g j v},wr.cell? ⟨g,j,U⟩=I v->g≠KB i->(wr.setCell ⟨KB i,k,U⟩ (Uc tuS)).cell? ⟨g,j,U⟩=I v:=λB L=>zg m _ _ B L;have x:wb≠KB i:=λe=>by have:=b.1;rw[e] at this;omega
 refine⟨h.on.laterO m (λg _ e=>by rw[e];omega),c h.c6 x,c h.c7 x,λj=>⟨(zk _ _ _ _).trans (h.oc j).1,λy z=>(m.cell (p:=⟨wb,j,U⟩) (zgJ b.2 h.on.size) x).trans ((h.oc j).2 y z)⟩,zl h.rt m (λg t e=>by have:=(zh h.rt g t).1;omega),zl h.rk m (λg t e=>by have:=(zh h.rk g t).1;omega),h.ds,λd f l w=>?_,λd f l w=>?_⟩;rw[zk];obtain⟨⟨u,n,s⟩,r⟩:=h.et d f l w;exact⟨⟨u,c n (λa=>by have:=(o.k d l).2.1;rw[a] at this;omega),s⟩,r⟩;rw[zk];obtain⟨⟨u,n,s⟩,r⟩:=h.ek d f l w;by_cases q:d=i/\f=k;obtain⟨rfl,rfl⟩:=q;exact⟨⟨_,zgL _ _ _ n,λ_=>rfl⟩,r⟩;refine⟨⟨u,yH n (λ⟨a,b⟩=>q ⟨?_,b⟩),λe=>e.elim s (λe=>absurd e q)⟩,r⟩;have:=(o.k d l).1;rw[a] at this;omega
theorem RT.frame {v:Y}(h:RT w1 ow ss wb KB TB it ik PT PK tv kv wr)(o:RO w1 ow ss.length wb KB TB)(x:Nat)(s:x=6\/x=7)(r:∀g,v.ownBlock=I g->w1.heap.size<=g)(a:zf (λg=>v.ownBlock=I g) wr l):zf (λg=>ow g≠0/\ow g≠2) w1 (l.setCell ⟨wb,x,U⟩ v2)/\(l.setCell ⟨wb,x,U⟩ v2).cell? ⟨wb,x,U⟩=I v2/\(∀j,j≠x->(l.setCell ⟨wb,x,U⟩ v2).cell? ⟨wb,j,U⟩=wr.cell? ⟨wb,j,U⟩)/\(∀j,(l.setCell ⟨wb,x,U⟩ v2).frozen? ⟨wb,j,U⟩=Z)/\(∀{g j v},g≠wb->g<w1.heap.size->wr.cell? ⟨g,j,U⟩=I v->(l.setCell ⟨wb,x,U⟩ v2).cell? ⟨g,j,U⟩=I v)/\∀{g j},g<w1.heap.size->wr.frozen? ⟨g,j,U⟩=Z->(l.setCell ⟨wb,x,U⟩ v2).frozen? ⟨g,j,U⟩=Z:=by
 have k:zf (λg=>g=wb) l (l.setCell ⟨wb,x,U⟩ v2):=(zf.refl (λg=>g=wb) _).setCell (Q rfl) _;have b:=o.b;have i:=h.on.size;have c:∀{g},g<w1.heap.size->¬v.ownBlock=I g:=λd e=>by have:=r _ e;omega
 obtain⟨u,q⟩:∃u,wr.cell? ⟨wb,x,U⟩=I u:=by rcases s with rfl|rfl;exact⟨_,h.c6⟩;exact⟨_,h.c7⟩
 refine⟨(h.on.laterO a (λg d e=>absurd e (c d))).laterO k (λg _ e=>by rw[e];omega),zgL _ _ _ (zg a _ _ q (c b.2)),λj t=>?_,λj=>(zk _ _ _ _).trans (zo a _ (zgJ b.2 i) (h.oc j).1 (c b.2)),λd f m=>zg k _ _ (zg a _ _ m (c f)) d,λf n=>(zk _ _ _ _).trans (zo a _ (zgJ f i) n (c f))⟩;rw[zgI _ _ _ _ (by intro e;have:=congrArg Addr.off e;simp at this;omega)];exact a.cell (p:=⟨wb,j,U⟩) (zgJ b.2 i) (c b.2)
theorem RT.appT (h:RT w1 ow ss wb KB TB it ik PT PK tv kv wr)(o:RO w1 ow ss.length wb KB TB)(y:zf (λg=>tv.ownBlock=I g) wr l)(x:l.ownsRow w1.heap.size 27 1 v2 (it+1) (slC TB (nT ss) it++[K (I ⟨TB it,0,U⟩) (nT ss it) (nT ss it)]))(P:∀g,v2.ownBlock=I g->tv.ownBlock=I g\/wr.heap.size<=g):RT w1 ow ss wb KB TB (it+1) ik PT PK v2 kv (l.setCell ⟨wb,6,U⟩ v2):=by obtain⟨B,F,s,L,t,v⟩:=h.frame o (v2:=v2) 6 (Q rfl) (λg a=>(zh h.rt g a).1) y;have z:zf (λg=>g=wb) l (l.setCell ⟨wb,6,U⟩ v2):=(zf.refl (λg=>g=wb) _).setCell (Q rfl) _;have b:=o.b;refine⟨B,F,(s 7 od).trans h.c7,λj=>⟨L j,λw N=>(s j w).trans ((h.oc j).2 w N)⟩,by rw[Ky];exact zl x z (λg a e=>by have:=(zh x g a).1;omega),zl (zl h.rk y (λg a e=>h.ds g e a)) z (λg a e=>by have:=(zh h.rk g a).1;omega),λg a e=>(P g a).elim (λq=>h.ds g q e) (λq=>by have:=(zh h.rk g e).2;omega),λi k c n=>?_,λi k c n=>?_⟩;obtain⟨⟨u,d,f⟩,m⟩:=h.et i k c n;obtain⟨S,T,p,r⟩:=o.k i c;exact⟨⟨u,t (λe=>by have:=b.1;rw[<-e] at this;omega) r d,f⟩,v r m⟩;obtain⟨⟨u,d,f⟩,m⟩:=h.ek i k c n;obtain⟨S,T,p,r⟩:=o.k i c;exact⟨⟨u,t (λe=>by have:=b.1;rw[<-e] at this;omega) p d,f⟩,v p m⟩
theorem RT.appK (h:RT w1 ow ss wb KB TB it ik PT PK tv kv wr)(o:RO w1 ow ss.length wb KB TB)(y:zf (λg=>kv.ownBlock=I g) wr l)(x:l.ownsRow w1.heap.size 37 1 v2 (ik+1) (slC KB (nK ss) ik++[K (I ⟨KB ik,0,U⟩) (nK ss ik) (nK ss ik)]))(P:∀g,v2.ownBlock=I g->kv.ownBlock=I g\/wr.heap.size<=g):RT w1 ow ss wb KB TB it (ik+1) PT PK tv v2 (l.setCell ⟨wb,7,U⟩ v2):=by obtain⟨B,F,s,L,t,v⟩:=h.frame o (v2:=v2) 7 (O rfl) (λg a=>(zh h.rk g a).1) y;have z:zf (λg=>g=wb) l (l.setCell ⟨wb,7,U⟩ v2):=(zf.refl (λg=>g=wb) _).setCell (Q rfl) _;have b:=o.b;refine⟨B,(s 6 od).trans h.c6,F,λj=>⟨L j,λN w=>(s j w).trans ((h.oc j).2 N w)⟩,zl (zl h.rt y (λg a e=>h.ds g a e)) z (λg a e=>by have:=(zh h.rt g a).1;omega),by rw[Ky];exact zl x z (λg a e=>by have:=(zh x g a).1;omega),λg a e=>(P g e).elim (λq=>h.ds g a q) (λq=>by have:=(zh h.rt g a).2;omega),λi k c n=>?_,λi k c n=>?_⟩;obtain⟨⟨u,d,f⟩,m⟩:=h.et i k c n;obtain⟨S,T,p,r⟩:=o.k i c;exact⟨⟨u,t (λe=>by have:=b.1;rw[<-e] at this;omega) r d,f⟩,v r m⟩;obtain⟨⟨u,d,f⟩,m⟩:=h.ek i k c n;obtain⟨S,T,p,r⟩:=o.k i c;exact⟨⟨u,t (λe=>by have:=b.1;rw[<-e] at this;omega) p d,f⟩,v p m⟩
theorem RT.to {PT' PK':Nat->Nat->Prop}(h:RT w1 ow ss wb KB TB it ik PT PK tv kv wr)(f:∀i k,i<ss.length->k<nT ss i->PT' i k->PT i k)(g:∀i k,i<ss.length->k<nK ss i->PK' i k->PK i k):RT w1 ow ss wb KB TB it ik PT' PK' tv kv wr:=
 { h with et:=λi k c d=>(h.et i k c d).imp_left (λ⟨u,a,b⟩=>⟨u,a,λe=>b (f i k c d e)⟩),ek:=λi k c d=>(h.ek i k c d).imp_left (λ⟨u,a,b⟩=>⟨u,a,λe=>b (g i k c d e)⟩) }
theorem RT.keep (h:RT w1 ow ss wb KB TB it ik PT PK tv kv wr)(o:RO w1 ow ss.length wb KB TB)(m:ziE wr l):RT w1 ow ss wb KB TB it ik PT PK tv kv l:=by have c:∀{g j v},wr.cell? ⟨g,j,U⟩=I v->l.cell? ⟨g,j,U⟩=I v:=λq=>zg m _ _ q id;have z:=h.on.size;have f:∀{g j},g<w1.heap.size->wr.frozen? ⟨g,j,U⟩=Z->l.frozen? ⟨g,j,U⟩=Z:=λs r=>zo m _ (zgJ s z) r id;exact⟨h.on.laterO m (λ_ _ f=>f.elim),c h.c6,c h.c7,λj=>⟨f o.b.2 (h.oc j).1,λa b=>(m.cell (p:=⟨wb,j,U⟩) (zgJ o.b.2 z) id).trans ((h.oc j).2 a b)⟩,zl h.rt m (λ_ _ f=>f),zl h.rk m (λ_ _ f=>f),h.ds,λi k d n=>⟨(h.et i k d n).1.imp (λu e=>⟨c e.1,e.2⟩),f (o.k i d).2.2.2 (h.et i k d n).2⟩,λi k d n=>⟨(h.ek i k d n).1.imp (λu e=>⟨c e.1,e.2⟩),f (o.k i d).2.2.1 (h.ek i k d n).2⟩⟩
theorem RT.rows {W:E}{R:Nat->Prop}(t:∀g,2<=ow g->R g)(w:∀g,w1.heap.size<=g->R g)(h:RT w1 ow ss wb KB TB ss.length ss.length (λs _=>s<ss.length) (λs _=>s<ss.length) tv kv wr)(o:RO w1 ow ss.length wb KB TB)(y:ss.length<4611686018427387904)(x:∀i,i<ss.length->nT ss i<4611686018427387904/\nK ss i<4611686018427387904)(c:∀{g j v},g≠wb->wr.cell? ⟨g,j,U⟩=I v->W.cell? ⟨g,j,U⟩=I v):Rows W R tv 1 (λ_=>M J (-7))/\Rows W R kv 1 (λ_=>Uc tuS):=by
 have b:=o.b;constructor
 .obtain⟨a,l,e,p⟩:=jI h.rt;refine⟨a,_,l,e,y,λi d=>?_⟩;obtain⟨g,f,m⟩:=p i (K (I ⟨TB i,0,U⟩) (nT ss i) (nT ss i)) (by simp[slC,d]);have q:=(zh h.rt g (by rw[e,f];rfl)).1;refine⟨g,_,_,_,f,w g q,c oa m,(x i d).1,λk r=>⟨_,rfl,t _ (by have:=(o.k i d).2.1;omega),λj z=>?_⟩⟩;obtain⟨⟨u,f1,n⟩,_⟩:=h.et i k d r;obtain rfl:j=0:=by omega
  rw[zis,zhl,<-n d];exact c (λe=>by have:=(o.k i d).2.1;rw[e] at this;omega) f1
 obtain⟨a,l,e,p⟩:=jI h.rk;refine⟨a,_,l,e,y,λi d=>?_⟩;obtain⟨g,f,m⟩:=p i (K (I ⟨KB i,0,U⟩) (nK ss i) (nK ss i)) (by simp[slC,d]);have q:=(zh h.rk g (by rw[e,f];rfl)).1;refine⟨g,_,_,_,f,w g q,c oa m,(x i d).2,λk r=>⟨_,rfl,t _ (by have:=(o.k i d).1;omega),λj z=>?_⟩⟩;obtain⟨⟨u,f1,n⟩,_⟩:=h.ek i k d r;obtain rfl:j=0:=by omega
 rw[zis,zhl,<-n d];exact c (λe=>by have:=(o.k i d).1;rw[e] at this;omega) f1
end
theorem Tryz.infoFlSl:(prog.info? 42).map (λi=>(i.zero,i.size,i.bytes))=I (I (K U 0 0),1,24):=om
theorem markV (l:Int)(w:E)(c:w.cell? ⟨wb,10,U⟩=I (M J l))(f:w.frozen? ⟨wb,10,U⟩=Z):Uh V 109 #[Ua (I ⟨wb,0,U⟩)] w λe a=>∃m,e=R (M J m)/\a=w.setCell ⟨wb,10,U⟩ (M J m):=by go_enter func109,ntmps109;go_wp2_with fail;go_ret;exact⟨_,rfl,rfl⟩
def MkL (w:E)(B:Nat->Prop)(m:Int)(n:Nat)(x:Y):Prop:=∃b q c,x=K b q c/\q<=n/\∀j,j<2*q->∃h,b=I ⟨h,0,U⟩/\B h/\w.cell? ⟨h,j,U⟩=I (M J m)
structure KF (w1:E)(xv:Y)(wb n a b c:Nat)(m:Int)(fv mv lw:Y)(wr:E):Prop where
 on:zf (λg=>g=wb\/xv.ownBlock=I g) w1 wr
 c4:wr.cell? ⟨wb,4,U⟩=I fv
 c5:wr.cell? ⟨wb,5,U⟩=I mv
 oc:∀j,wr.frozen? ⟨wb,j,U⟩=Z/\(j≠4->j≠5->j≠10->wr.cell? ⟨wb,j,U⟩=w1.cell? ⟨wb,j,U⟩)
 rf:∃xs,wr.ownsRow w1.heap.size 42 1 fv a xs/\∀x∈xs,MkL wr (λh=>wb<h/\fv.ownBlock≠I h/\mv.ownBlock≠I h/\h<wr.heap.size) m (n+c) x
 rm:wr.ownsRow w1.heap.size 3 1 mv b (List.replicate b (M J m))
 rl:wr.ownsRow (wb+1) 49 2 lw (n+c) (List.replicate ((n+c)*2) (M J m))
 lx:∀g,lw.ownBlock=I g->xv.ownBlock=I g\/w1.heap.size<=g
 ds:∀g,(fv.ownBlock=I g->mv.ownBlock≠I g/\lw.ownBlock≠I g)/\(mv.ownBlock=I g->lw.ownBlock≠I g)
section
variable {w1 wr l:World} {xv fv mv lw v2:Value} {wb n a b c:Nat} {m:Int}
theorem own_mk {w:E}{base:Nat}{e:TypeId}{v:Y}(h:w.ownsRow base e 2 v n (List.replicate (n*2) (M J m))):∃b d,v=K b n d/\∀j,j<2*n->∃g,b=I ⟨g,0,U⟩/\w.cell? ⟨g,j,U⟩=I (M J m):=by
 rcases h.2 with⟨rfl,rfl⟩|⟨g,l,f,rfl,o,i,r,p,q,k⟩;exact⟨U,0,rfl,λj c=>absurd c (zgV _)⟩;refine⟨_,_,rfl,λj c=>⟨g,rfl,?_⟩⟩;have a:(f.toList.take (n*2))[j]?=(List.replicate (n*2) (M J m))[j]?:=by rw[k]
 rw[zhQ oa,zhx,IN oa] at a;unfold World.cell?;rw[i];simpa using a
theorem MkL.to {w f:E}{B B' P:Nat->Prop}{n e:Nat}{x:Y}(h:MkL w B m n x)(k:zf P w f)(s:n<=e)(d:∀g,B g->¬P g/\B' g):MkL f B' m e x:=by obtain⟨b,q,c,i,r,l⟩:=h;refine⟨b,q,c,i,oa,λj p=>?_⟩;obtain⟨h,f1,a,o⟩:=l j p;exact⟨h,f1,(d h a).2,zg k _ _ o (d h a).1⟩
theorem zbg {v:Y}(on:zf (λg=>g=wb\/xv.ownBlock=I g) w1 wr)(d:wb<w1.heap.size)(x:Nat)(m:∃u,wr.cell? ⟨wb,x,U⟩=I u)(c:∀g,v.ownBlock=I g->w1.heap.size<=g)(a:zf (λg=>v.ownBlock=I g) wr l):zf (λg=>g=wb\/xv.ownBlock=I g) w1 (l.setCell ⟨wb,x,U⟩ v2)/\(l.setCell ⟨wb,x,U⟩ v2).cell? ⟨wb,x,U⟩=I v2/\(∀j,j≠x->(l.setCell ⟨wb,x,U⟩ v2).cell? ⟨wb,j,U⟩=wr.cell? ⟨wb,j,U⟩)/\(∀j,wr.frozen? ⟨wb,j,U⟩=Z->(l.setCell ⟨wb,x,U⟩ v2).frozen? ⟨wb,j,U⟩=Z)/\zf (λg=>v.ownBlock=I g\/g=wb) wr (l.setCell ⟨wb,x,U⟩ v2):=by
 have f:zf (λg=>g=wb) l (l.setCell ⟨wb,x,U⟩ v2):=(zf.refl (λg=>g=wb) _).setCell (Q rfl) _;have h:=on.size;have b:¬v.ownBlock=I wb:=λe=>by have:=c _ e;omega
 obtain⟨u,k⟩:=m;refine⟨(on.laterO a (λg n e=>by have:=c g e;omega)).laterO f (λg _ e=>Q e),zgL _ _ _ (zg a _ _ k b),λj o=>?_,λj i=>(zk _ _ _ _).trans (zo a _ (zgJ d h) i b),(a.mono (λg _ e=>Q e)).laterO f (λg _ e=>O e)⟩;rw[zgI _ _ _ _ (by intro e;have:=congrArg Addr.off e;simp at this;omega)];exact a.cell (p:=⟨wb,j,U⟩) (zgJ d h) b
theorem KF.appF (h:KF w1 xv wb n a b c m fv mv lw wr)(hw:wb<w1.heap.size){xs:List Y}(ac:∀x∈xs,MkL wr (λh=>wb<h/\fv.ownBlock≠I h/\mv.ownBlock≠I h/\h<wr.heap.size) m (n+c) x)(X:wr.ownsRow w1.heap.size 42 1 fv a xs)(k2:zf (λg=>fv.ownBlock=I g) wr l)(u:l.ownsRow w1.heap.size 42 1 v2 (a+1) (xs++[lw]))(p:∀g,v2.ownBlock=I g->fv.ownBlock=I g\/wr.heap.size<=g):KF w1 xv wb n (a+1) b c m v2 mv lw (l.setCell ⟨wb,4,U⟩ v2):=by
 obtain⟨y,z,r,B,f⟩:=zbg (v2:=v2) h.on hw 4 ⟨_,h.c4⟩ (λg d=>(zh X g d).1) k2;have L:=zh u;have ks:zf (λg=>g=wb) l (l.setCell ⟨wb,4,U⟩ v2):=(zf.refl (λg=>g=wb) _).setCell (Q rfl) _;have z5:=f.size;refine⟨y,z,(r 5 od).trans h.c5,λj=>⟨B j (h.oc j).1,λs S T=>(r j s).trans ((h.oc j).2 s S T)⟩,⟨xs++[lw],zl u ks (λg d e=>by have:=(L g d).1;omega),λx k=>?_⟩,zl h.rm f (λg d e=>e.elim (λe=>((h.ds g).1 e).1 d) (λe=>by have:=(zh h.rm g d).1;omega)),zl h.rl f (λg d e=>e.elim (λe=>((h.ds g).1 e).2 d) (λe=>by have:=(zh h.rl g d).1;omega)),h.lx,λg=>⟨λe=>⟨λi=>(p g e).elim (λq=>((h.ds g).1 q).1 i) (λq=>by have:=(zh h.rm g i).2;omega),λi=>(p g e).elim (λq=>((h.ds g).1 q).2 i) (λq=>by have:=(zh h.rl g i).2;omega)⟩,(h.ds g).2⟩⟩;have w:∀h,fv.ownBlock≠I h->h<wr.heap.size->v2.ownBlock≠I h:=λh q1 q2 e=>(p h e).elim q1 (λ_=>oa);rcases zgU.1 k with k|k;exact(ac x k).to f (zgH _) (λg q=>⟨λe=>e.elim q.2.1 (λe=>oa),q.1,w g q.2.1 q.2.2.2,q.2.2.1,oa⟩);rw[zgT.1 k];obtain⟨F,N,e,W⟩:=own_mk h.rl;refine⟨F,_,N,e,zgH _,λj hj=>?_⟩;obtain⟨g,f1,P⟩:=W j hj;have o:lw.ownBlock=I g:=by rw[e,f1];rfl
 have t:=zh h.rl g o;have v:fv.ownBlock≠I g:=λq=>((h.ds g).1 q).2 o;exact⟨g,f1,⟨t.1,w g v t.2,λq=>(h.ds g).2 q o,oa⟩,zg f _ _ P (λq=>q.elim v (λq=>by have q:g=wb:=q;omega))⟩
theorem KF.appM (h:KF w1 xv wb n a b c m fv mv lw wr)(B:wb<w1.heap.size)(L:zf (λg=>mv.ownBlock=I g) wr l)(s:l.ownsRow w1.heap.size 3 1 v2 (b+1) (List.replicate b (M J m)++[M J m]))(k:∀g,v2.ownBlock=I g->mv.ownBlock=I g\/wr.heap.size<=g):KF w1 xv wb n a (b+1) c m fv v2 lw (l.setCell ⟨wb,5,U⟩ v2):=by obtain⟨t,u,p,v,f⟩:=zbg (v2:=v2) h.on B 5 ⟨_,h.c5⟩ (λg d=>(zh h.rm g d).1) L;have w:=zh s;have N:zf (λg=>g=wb) l (l.setCell ⟨wb,5,U⟩ v2):=(zf.refl (λg=>g=wb) _).setCell (Q rfl) _;have z5:=f.size;obtain⟨W,o,T⟩:=h.rf;have P:∀h,mv.ownBlock≠I h->h<wr.heap.size->v2.ownBlock≠I h:=λh S X e=>(k h e).elim S (λ_=>oa);refine⟨t,(p 4 od).trans h.c4,u,λj=>⟨v j (h.oc j).1,λy r z=>(p j r).trans ((h.oc j).2 y r z)⟩,⟨W,zl o f (λg d e=>e.elim (λe=>((h.ds g).1 d).1 e) (λe=>by have:=(zh o g d).1;omega)),λx F=>(T x F).to f (zgH _) (λg q=>⟨λe=>e.elim q.2.2.1 (λe=>oa),q.1,q.2.1,P g q.2.2.1 q.2.2.2,oa⟩)⟩,by rw[zig];exact zl s N (λg d e=>by have:=(w g d).1;omega),zl h.rl f (λg d e=>e.elim (λe=>(h.ds g).2 e d) (λe=>by have:=(zh h.rl g d).1;omega)),h.lx,λg=>⟨λe=>⟨λi=>(k g i).elim (λq=>((h.ds g).1 e).1 q) (λq=>by have:=(zh o g e).2;omega),((h.ds g).1 e).2⟩,λe i=>(k g e).elim (λq=>(h.ds g).2 q i) (λq=>by have:=(zh h.rl g i).2;omega)⟩⟩
theorem KF.appL (h:KF w1 xv wb n a b c m fv mv lw wr)(u:wb<w1.heap.size)(hv:l.ownsRow (wb+1) 49 2 v2 (n+c+1) (List.replicate ((n+c)*2) (M J m)++[M J m,M J m]))(ac:(∃g,lw.ownBlock=I g/\v2.ownBlock=I g/\zf (λx=>x=g) wr l)\/(ziE wr l/\∀k,v2.ownBlock=I k->wr.heap.size<=k)):KF w1 xv wb n a b (c+1) m fv mv v2 l:=by
 obtain⟨P,B,N⟩:=h.rf;have w:l.ownsRow (wb+1) 49 2 v2 (n+(c+1)) (List.replicate ((n+(c+1))*2) (M J m)):=by
  have e:List.replicate ((n+(c+1))*2) (M J m)=List.replicate ((n+c)*2) (M J m)++[M J m,M J m]:=by rw[show(n+(c+1))*2=(n+c)*2+1+1 by omega,zig,zig,zgX];rfl
  rw[e];exact hv
 have v:=h.on.size;rcases ac with⟨g,s,o,k⟩|⟨k,o⟩
 .have hg:=zh h.rl g s;have L:¬wb=g:=by omega
  have zi:=k.size;have r:∀j,l.cell? ⟨wb,j,U⟩=wr.cell? ⟨wb,j,U⟩:=λj=>k.cell (p:=⟨wb,j,U⟩) (zgJ u v) L;refine⟨h.on.laterO k (λx i e=>by subst e;rcases h.lx x s with q|q;exact O q;omega),(r 4).trans h.c4,(r 5).trans h.c5,λj=>⟨zo k _ (zgJ u v) (h.oc j).1 L,λt d z=>(r j).trans ((h.oc j).2 t d z)⟩,⟨P,zl B k (λx i e=>by subst e;exact((h.ds x).1 i).2 s),λx i=>?_⟩,zl h.rm k (λx i e=>by subst e;exact(h.ds x).2 i s),w,λx i=>by rw[o] at i;cases i;exact h.lx g s,λx=>⟨λq=>⟨((h.ds x).1 q).1,λd=>by rw[o] at d;cases d;exact((h.ds g).1 q).2 s⟩,λq d=>by rw[o] at d;cases d;exact(h.ds g).2 q s⟩⟩;obtain⟨S,q,T,f1,f2,W⟩:=N x i;obtain⟨b2,c2,g1,g2⟩:=own_mk w;refine⟨S,q,T,f1,oa,λj hj=>?_⟩;obtain⟨y,y1,⟨y2,y3,y4,y5⟩,y6⟩:=W j hj;refine⟨y,y1,⟨y2,y3,y4,oa⟩,?_⟩;by_cases F:y=g;subst F;obtain⟨X,t,d⟩:=g2 j oa;have:v2.ownBlock=I X:=(by rw[g1,t];rfl);rw[o] at this;cases this;exact d;exact zg k _ _ y6 F
 have zi:=k.size;have r:∀j,l.cell? ⟨wb,j,U⟩=wr.cell? ⟨wb,j,U⟩:=λj=>k.cell (p:=⟨wb,j,U⟩) (zgJ u v) id;exact⟨h.on.laterO k (λ_ _ f=>f.elim),(r 4).trans h.c4,(r 5).trans h.c5,λj=>⟨zo k _ (zgJ u v) (h.oc j).1 id,λt d z=>(r j).trans ((h.oc j).2 t d z)⟩,⟨P,zl B k (λ_ _ f=>f),λx i=>(N x i).to k oa (λg q=>⟨λf=>f,q.1,q.2.1,q.2.2.1,oa⟩)⟩,zl h.rm k (λ_ _ f=>f),w,λx i=>O (by have:=o x i;omega),λx=>⟨λq=>⟨((h.ds x).1 q).1,λd=>by have:=o x d;have:=(zh B x q).2;omega⟩,λq d=>by have:=o x d;have:=(zh h.rm x q).2;omega⟩⟩
theorem KF.done (h:KF w1 xv wb n 4 4 4 m fv mv lw wr)(hn:n<1000){R:Nat->Prop}{m0:Int}(f:LK w1 R wb m0)(B:∀g,R g->g≠wb/\xv.ownBlock≠I g):LK wr (λ_=>True) wb m:=by
 have l:=λj h4 h5 h9=>(h.oc j).2 h4 h5 h9;have up:∀{v z F},Rows w1 R v z F->Rows wr (λ_=>True) v z F:=λr=>by obtain⟨a,q,s,d,c,X⟩:=r.keep h.on (λg L e=>e.elim (B g L).1 (B g L).2);refine⟨a,q,s,d,c,λi p=>?_⟩;obtain⟨g,b,q',W,f1,f0,t,o,f4⟩:=X i p;exact⟨g,b,q',W,f1,trivial,t,o,λk N=>(f4 k N).imp (λh e=>⟨e.1,trivial,e.2.2⟩)⟩
 obtain⟨T,S,r2⟩:=h.rf;obtain⟨u,w,rfl,hf⟩:=jI S;obtain⟨ma,mc,rfl,hm⟩:=jI h.rm;refine⟨(l 2 od od od).trans f.i,⟨u,w,ma,mc,4,h.c4,h.c5,⟨u,4,w,rfl,od,λi p=>?_⟩,λi p=>?_⟩,f.t.imp (λv e=>⟨(l 6 od od od).trans e.1,up e.2⟩),f.k.imp (λv e=>⟨(l 7 od od od).trans e.1,up e.2⟩),f.n.imp (λv e=>⟨(l 8 od od od).trans e.1,up e.2⟩),f.s.imp (λv e=>⟨(l 9 od od od).trans e.1,up e.2⟩)⟩
 .have P:i<T.length:=by have:=S.1;omega
  have hx:=zgE P;obtain⟨g,d,c⟩:=hf i _ hx;obtain⟨b,q,s,f1,t,o⟩:=r2 T[i] (zg5 P);rw[f1] at c;refine⟨g,b,q,s,d,trivial,c,oa,λk N=>?_⟩;obtain⟨h1,x,-,-⟩:=o (k*2) oa;refine⟨h1,x,trivial,λj hj=>?_⟩;obtain⟨h2,y,-,g3⟩:=o (k*2+j) oa;rw[x] at y;cases y;exact g3
 obtain⟨g,d,c⟩:=hm i (M J m) (by rw[zhx,IN p]);exact⟨g,d,trivial,c⟩
end
def mk2 (X:List Y)(m:Int)(i:Nat):List Y:=List.replicate (i*2) (M J m)++X.drop (i*2)
theorem mk2_set {m:Int}{i:Nat}(h:i*2+1<X.length):((mk2 X m i).set (i*2) (M J m)).set (i*2+1) (M J m)=mk2 X m (i+1):=by
 unfold mk2;refine List.ext_getElem? (λj=>?_)
 grind
theorem WZ {base n z:Nat}{e:TypeId}{a:Option Addr}{c:Nat}{xs:List Y}(h:w.ownsRow base e z (K a n c) n xs)(s:0<n):∃g,a=I ⟨g,0,U⟩/\∀(j:Nat) u,xs[j]?=I u->w.cell? ⟨g,j,U⟩=I u:=by
 rcases h.2 with⟨b,o⟩|⟨g,m,d,b,p,f,t,q,r,l⟩;omega;cases b;refine⟨g,rfl,λj u i=>?_⟩;have b:(d.toList.take (n*z))[j]?=I u:=by rw[l];exact i
 have k:=(zgG.1 b).1;rw[zhy] at k;rw[zhQ oa] at b;unfold World.cell?;rw[f];simpa using b
variable (X)
theorem mk2_len (h:i*2<=X.length):(mk2 X m i).length=X.length:=by unfold mk2;simp;omega
theorem zdl {xv:Y}{X:List Y}(wb n:Nat)(l0:Int)(w1:E)(a:w1.ownsRow (wb+1) 49 2 xv n X)(hn:n<=200)(y:wb<w1.heap.size)(c4:w1.cell? ⟨wb,4,U⟩=I (K U 0 0))(c5:w1.cell? ⟨wb,5,U⟩=I (K U 0 0))(ay:w1.cell? ⟨wb,10,U⟩=I (M J l0))(v:∀j,w1.frozen? ⟨wb,j,U⟩=Z):Uh V 56 #[Ua (I ⟨wb,0,U⟩),xv] w1 λe w'=>e=R (Ue #[])/\∃m fv mv lw,KF w1 xv wb n 4 4 4 m fv mv lw w':=by
 obtain⟨i0,aX,bb,bc,be⟩:=info_parts Tryz.infoFlSl;obtain⟨i1,aY,a8,a9,ba⟩:=info_parts Tryz.infoInt;obtain⟨i2,a0,a4,a5,a6⟩:=info_parts Tryz.infoFl;have av:=ze (markV wb l0 w1 ay (v 10));obtain⟨B,b,f,rfl⟩:=zr a;have a7:b=n:=by rcases a.2 with⟨e,h0⟩|⟨g,bu,bv,e,_⟩<;>cases e;exact h0.symm;rfl
 subst a7;have N:=ze a;have W:=ze v;clear a v ay;go_enter func56,ntmps56;go_upto_region 2 with(go_at_call 109;refine av.mono ?_;rintro e S ⟨m,rfl,y⟩;have ax:=ze y;clear y);have ac:=zb ax;have ks:zf (λg=>g=wb) w1 S:=ac ▸ (zf.refl (λg=>g=wb) _).setCell (p:=⟨wb,10,U⟩) (Q rfl) _;have H2:H (S.ownsRow (wb+1) 49 2 (K B b f) b (mk2 X m 0)/\(∀j,S.frozen? ⟨wb,j,U⟩=Z/\(j≠10->S.cell? ⟨wb,j,U⟩=w1.cell? ⟨wb,j,U⟩))/\zf (λg=>g=wb\/(K B b f).ownBlock=I g) w1 S):=by refine⟨by simpa [mk2] using zl N ks (λg F e=>by have:=(zh N g F).1;omega),λj=>⟨?_,λc=>?_⟩,ks.mono (λg _ e=>Q e)⟩;rw[ac,zk];exact zb W j;rw[ac];exact zgI _ _ _ _ (by intro e;have:=congrArg Addr.off e;simp at this;omega)
 clear ac ax ks av W;go_loopw[5] (λx wr=>∃i:Nat,x=M J i/\i<=b/\H (wr.ownsRow (wb+1) 49 2 (K B b f) b (mk2 X m i)/\(∀j,wr.frozen? ⟨wb,j,U⟩=Z/\(j≠10->wr.cell? ⟨wb,j,U⟩=w1.cell? ⟨wb,j,U⟩))/\zf (λg=>g=wb\/(K B b f).ownBlock=I g) w1 wr)) (λx _=>b-(intOf x).toNat);exact⟨0,rfl,oa,H2⟩;clear H2;obtain⟨i,rfl,hi,t⟩:=hrel;obtain⟨q,s,P⟩:=zb t;have hX:X.length=b*2:=N.1;have hL:=mk2_len X m i oa;by_cases a1:i<b
 .obtain⟨g,rfl,hc⟩:=WZ q oa;obtain⟨u0,d0⟩:∃u,wr.cell? ⟨g,i*2,U⟩=I u:=⟨_,hc (i*2) _ (zgE oa)⟩
  obtain⟨u1,d1⟩:∃u,wr.cell? ⟨g,i*2+1,U⟩=I u:=⟨_,hc (i*2+1) _ (zgE oa)⟩
  (have f0:=own_fz q (i*2);have f1:=own_fz q (i*2+1);have F:=zh q g rfl;have HN:H (((wr.setCell ⟨g,i*2,U⟩ (M J m)).setCell ⟨g,i*2+1,U⟩ (M J m)).ownsRow (wb+1) 49 2 (K (I ⟨g,0,U⟩) b f) b (mk2 X m (i+1))/\(∀j,((wr.setCell ⟨g,i*2,U⟩ (M J m)).setCell ⟨g,i*2+1,U⟩ (M J m)).frozen? ⟨wb,j,U⟩=Z/\(j≠10->((wr.setCell ⟨g,i*2,U⟩ (M J m)).setCell ⟨g,i*2+1,U⟩ (M J m)).cell? ⟨wb,j,U⟩=w1.cell? ⟨wb,j,U⟩))/\zf (λx=>x=wb\/(K (I ⟨g,0,U⟩) b f).ownBlock=I x) w1 ((wr.setCell ⟨g,i*2,U⟩ (M J m)).setCell ⟨g,i*2+1,U⟩ (M J m))):=by have k2:zf (λx=>x=g) wr ((wr.setCell ⟨g,i*2,U⟩ (M J m)).setCell ⟨g,i*2+1,U⟩ (M J m)):=vX (g:=g) (o:=i*2) [M J m,M J m];have z:=P.size;refine⟨by rw[<-mk2_set oa];exact wR (wR q _) _,λj=>⟨by rw[zk,zk];exact(s j).1,λc=>(k2.cell (p:=⟨wb,j,U⟩) (zgJ y z) (λe=>by have e:wb=g:=e;omega)).trans ((s j).2 c)⟩,P.laterO k2 (λx _ e=>O (by rw[e];rfl))⟩);clear q s P hc t N hL;go_wp2_with fail;exact⟨⟨i+1,by go_num,oa,HN⟩,by simp[intOf];omega⟩
 (obtain rfl:i=b:=oa;have HK:H (KF w1 (K B i f) wb i 0 0 0 m (K U 0 0) (K U 0 0) (K B i f) wr):=by refine⟨P,((s 4).2 od).trans c4,((s 5).2 od).trans c5,λj=>⟨(s j).1,λ_ _ h=>(s j).2 h⟩,⟨[],zgP _ _ _ _,λx a=>by simp at a⟩,zgP _ _ _ _,?_,λg e=>Q e,λg=>⟨λe=>by simp[Value.ownBlock] at e,λe=>by simp[Value.ownBlock] at e⟩⟩;have e:mk2 X m i=List.replicate ((i+0)*2) (M J m):=(by unfold mk2;rw[List.drop_eq_nil_of_le oa,zhc];rfl);rw[<-e];exact q);clear q s P t N hL c4 c5;go_upto_region 6 with fail;go_loopw[1,6] (λlw x wr=>∃r:Nat,x=M J r/\r<=4/\H (∃fv mv,KF w1 (K B i f) wb i r r r m fv mv lw wr)) (λ_ x _=>4-(intOf x).toNat);exact⟨0,rfl,oa,_,_,HK⟩;clear HK;obtain⟨r,rfl,hr,t⟩:=hrel;obtain⟨fv,mv,d⟩:=zb t;obtain⟨la,ln,lc,rfl⟩:=zr d.rl;have z1:=d.on.size;by_cases a1:r<4
 .obtain⟨xs,v,aL⟩:=d.rf;obtain⟨fa,fn,fc,rfl⟩:=zr v;have e4:=d.c4;have g4:=(d.oc 4).1;have aw:=ze d;have L:=ze (Ur v aL);clear d t v aL;go_wp2_with(at_builtin;refine zb ?_);refine ze ?_;refine yq _ rfl _ _ 55 rfl w1.heap.size 42 i0 (K U 0 0) 1 24 underlying55 aX bb bc be rfl od (K fa fn fc) _ xs rfl (zgO L.1 _) _ 1 1 [K la ln lc] rfl rfl (cell_one_new _ _ _) (λx a=>by simp at a;subst a;rfl) (by unfold maxLen;omega) oa ou ?_;intro v2 wa ah aG aJ;have aa:zf (λg=>(K fa fn fc).ownBlock=I g) wr wa:=((zf.refl _ _).alloc _).grown aG (λj c=>Q c);have w:¬(K fa fn fc).ownBlock=I wb:=λe=>(by have:=(zh L.1 _ e).1;omega);have a2:wb<wr.heap.size:=oa;have l:=ze (aw.appF y L.2 L.1 aa ah (λg F=>(aJ g F).imp_right (λe=>by simp at e;omega)));have m4:=zg aa _ _ e4 w;have mf:=zo aa ⟨wb,4,U⟩ a2 g4 w;obtain⟨ua,un,uc,rfl⟩:=zr ah;clear ah aG aJ aa aw L e4 g4 w;go_upto_region 9 with fail;clear m4 mf;generalize wa.setCell ⟨wb,4,U⟩ (K ua un uc)=wx at *;obtain⟨ma,mn,mc,rfl⟩:=zr l.rm;have e5:=l.c5;have g5:=(l.oc 5).1;have zx:=l.on.size;go_wp2_with(at_builtin;refine zb ?_);refine ze ?_;refine yq _ rfl _ _ 27 rfl w1.heap.size 3 i1 (M J 0) 1 8 underlying27 aY a8 a9 ba rfl od (K ma mn mc) _ _ rfl (zgO l.rm _) _ 1 1 [M J m] rfl rfl (cell_one_new _ _ _) (λx a=>by simp at a;subst a;rfl) (by unfold maxLen;omega) oa ou ?_;intro v3 wy ai aH aK;have ab:zf (λg=>(K ma mn mc).ownBlock=I g) wx wy:=((zf.refl _ _).alloc _).grown aH (λj c=>Q c);have w:¬(K ma mn mc).ownBlock=I wb:=λe=>(by have:=(zh l.rm _ e).1;omega);have a3:wb<wx.heap.size:=oa;have T:=ze (l.appM y ab ai (λg F=>(aK g F).imp_right (λe=>by simp at e;omega)));have m5:=zg ab _ _ e5 w;have mf:=zo ab ⟨wb,5,U⟩ a3 g5 w;obtain⟨pa,pn,pc,rfl⟩:=zr ai;clear ai aH aK ab l e5 g5 w;go_upto_region 10 with fail;clear m5 mf;generalize wy.setCell ⟨wb,5,U⟩ (K pa pn pc)=wz at *;have zz:=T.on.size;go_wp2_with(at_builtin;refine zb ?_);refine ze ?_;refine zcZ _ rfl _ _ 42 rfl (wb+1) 49 i2 (Uf #[M J 0,M J 0]) 2 16 underlying42 a0 a4 a5 a6 rfl od (K la ln lc) _ _ rfl (zgO T.rl _) _ 1 1 [M J m,M J m] rfl rfl (cell_two_new _ _ _ _) (λx a=>by simp at a;rcases a with rfl|rfl<;>rfl) (by unfold maxLen;omega) oa ou od ?_;intro v4 wq aj aI;have aU:=ze (T.appL y aj (aI.imp (λ⟨g,q1,q2,q3⟩=>⟨g,q1,q2,((zf.refl _ _).alloc _).grown q3 (λj c=>Q (by cases c;rfl))⟩) (λ⟨q1,q2⟩=>⟨((zf.refl _ _).alloc _).grown q1 (λj c=>by cases c),λk hk=>by have:=q2 k hk;simp at this;omega⟩)));obtain⟨ta,tn,tc,rfl⟩:=zr aj;clear aj aI T;go_wp2_with fail;exact⟨⟨r+1,by go_num,oa,_,_,aU⟩,by simp[intOf];omega⟩
 obtain rfl:r=4:=oa;have W:=ze d;clear d t;go_wp2_with fail
 go_end0
 exact⟨rfl,_,_,_,_,W⟩
theorem addZ (off i:Nat):(⟨g,off,U⟩:Addr).add i=⟨g,off+i,U⟩:=by unfold Addr.add;split<;>simp_all
variable (w)
theorem zfx (b:Array Y)(t:TypeId)(a:List Y)(n:prog.underlying S=I (.slice y))(l:(prog.info? y).map (·.size)=I z)(u:w.heap[g]?=I (Ub b t (0,0)))(hn:a.length=f*z)(aa:f<=s)(m:∀(j:Nat) v,a[j]?=I v->∃h so,N=I ⟨h,so,U⟩/\w.cell? ⟨h,so+j,U⟩=I v)(q:a.length<=b.size)(o:∀v∈a,v.oneCell'=G):(Builtin.copy_ #[S,W] ty #[K (I ⟨g,0,U⟩) s F,K N f L]).run V w=.ok (goInt f) (w.setRow g (a++b.toList.drop a.length).toArray):=by
 have c:=run_storeCells_at V g 0 t a 0 b w u (by simpa using q) o;simp only[zhl,zg6,List.take_zero,zho] at c;cases hq:prog.info? y with
 |none=>simp[hq] at l
 |some i=>
  have B:i.size=z:=by simpa [hq] using l
  have k:Nat.min f s=f:=Nat.min_eq_left aa;have X:∀(x:Addr),(∀(j:Nat) v,a[j]?=I v->w.cell? (x.add j)=I v)->(loadCells x (f*z)).run V w=.ok a.toArray w:=λx d=>hn ▸ run_loadCells_list (P:=V) w x a d;cases N with
  |none=>
   have:a=[]:=by
    cases a with
    |nil=>rfl
    |cons v r=>obtain⟨_,_,e,_⟩:=m 0 v rfl;cases e
   subst this;simp[Builtin.copy_,run_underlying n,Builtin.lenOf,Builtin.firstCells,sizeOf,typeInfo,hq,k,c]
  |some x=>
   have d:=X x (λj v T=>by
    obtain⟨h,so,e,p⟩:=m j v T;cases e;rw[addZ];exact p)
   simp[Builtin.copy_,run_underlying n,Builtin.lenOf,Builtin.firstCells,sizeOf,typeInfo,hq,B,k,d,c]
theorem copyZ (b:Array Y)(t:TypeId)(a:List Y)(B:prog.underlying S=I (.slice y))(q:(prog.info? y).map (·.size)=I z)(e:w.heap[g]?=I (Ub b t (0,0)))(p:a.length=f*z)(o:f<=s)(r:∀(j:Nat) v,a[j]?=I v->∃i so,N=I ⟨i,so,U⟩/\w.cell? ⟨i,so+j,U⟩=I v)(m:a.length<=b.size)(l:∀v∈a,v.oneCell'=G):∃d,(Builtin.copy_ #[S,W] ty #[K (I ⟨g,0,U⟩) s F,K N f L]).run V w=.ok (goInt f) d/\zf (λx=>x=g) w d/\(∀(j:Nat) u,a[j]?=I u->d.cell? ⟨g,j,U⟩=I u)/\(∀j,a.length<=j->d.cell? ⟨g,j,U⟩=w.cell? ⟨g,j,U⟩)/\∀j,d.frozen? ⟨g,j,U⟩=Z:=by have h:=setRow_heap w g b (a++b.toList.drop a.length).toArray t (0,0) e;refine⟨_,zfx w S W ty y z g s F N f L b t a B q e p o r m l,⟨rfl,rfl,rfl,by simp[World.setRow],λk _ n=>setRow_other w g k _ n⟩,λj u c=>?_,λj c=>?_,λj=>?_⟩;have:=(zgG.1 c).1;unfold World.cell?;rw[h];simp[List.getElem?_append_left this,c];unfold World.cell?;rw[h,e];simp[List.getElem?_append_right c,List.getElem?_drop,Nat.add_sub_cancel' c];unfold World.frozen?;rw[h];simp
theorem mkcopy (W:World)(T E ty:TypeId)(b:Y)(xs:List Y)(n:Nat)(F:xs.length=n)(N:Option Addr)(i:Nat)(t:prog.underlying T=I (.slice E))(r:(prog.info? E).map (·.size)=I 1)(s:∀(j:Nat) v,xs[j]?=I v->∃c so,N=I ⟨c,so,U⟩/\W.cell? ⟨c,so+j,U⟩=I v)(o:∀v∈xs,v.oneCell'=G):∃a,(Builtin.copy_ #[T,T] ty #[K (I ⟨W.heap.size,0,U⟩) (n+1) (n+1),K N n i]).run V (W.alloc (Ub (madeCells #[b] (n+1)) E))=.ok (goInt n) a/\ziE W a/\(∀(j:Nat) u,xs[j]?=I u->a.cell? ⟨W.heap.size,j,U⟩=I u)/\a.cell? ⟨W.heap.size,n,U⟩=I b/\(∀j,a.frozen? ⟨W.heap.size,j,U⟩=Z)/\W.heap.size<a.heap.size:=by
 have h:ziE W (W.alloc (Ub (madeCells #[b] (n+1)) E)):=(zf.refl _ _).alloc _;have w:(madeCells #[b] (n+1))[n]?=I b:=by unfold madeCells;rw[Array.getElem?_map,Array.getElem?_range,IN oa];simp[Nat.mod_one]
 have p:=zm W _ rfl _ E n b w;obtain⟨a,m,x,y,z,B⟩:=copyZ (W.alloc (Ub (madeCells #[b] (n+1)) E)) T T ty E 1 W.heap.size (n+1) (n+1) N n i _ _ xs t r zhR oa oa (λj v q=>by
  obtain⟨c,so,k,l⟩:=s j v q;exact⟨c,so,k,zg h _ _ l id⟩) (by unfold madeCells;simp;omega) o
 have d:=(z n oa).trans p;exact⟨a,m,h.laterB x (λg e=>oa),y,d,B,zgF _ _ d⟩
def upd (f:Nat->Nat)(i x:Nat):Nat->Nat:=λj=>if j=i then x else f j
theorem ZV (f:Nat->Nat)(i x:Nat):upd f i x i=x:=IN rfl
theorem vM {f:Nat->Nat}{i x j:Nat}(h:j≠i):upd f i x j=f j:=iN h
theorem zeh:slC (upd B i x) n (i+1)=slC B n i++[K (I ⟨x,0,U⟩) (n i) (n i)]:=by rw[Ky,ZV];congr 1;refine List.map_congr_left (λj a=>?_);rw[vM (by have:=zib.1 a;omega)]
structure GB (wl w:E)(ow:Nat->Nat)(ss:List Sc)(t:Nat)(kv tv:Y)(KB TB:Nat->Nat):Prop where
 on:ziE wl w
 s:∀(i:Nat) c,i<t->ss[i]?=I c->∀(j:Nat) u,(c.cells (I ⟨KB i,0,U⟩) (c.keys.length+1) (I ⟨TB i,0,U⟩) (c.subs.length+1))[j]?=I u->w.cell? ⟨wl.heap.size,i*6+j,U⟩=I u
 z:∀(i j:Nat) u,t<=i->i<=ss.length->(zeroSc.cells U 0 U 0)[j]?=I u->w.cell? ⟨wl.heap.size,i*6+j,U⟩=I u
 fs:∀j,w.frozen? ⟨wl.heap.size,j,U⟩=Z
 k:∀(i:Nat) c,i<t->ss[i]?=I c->(∀(j:Nat) x,c.keys[j]?=I x->w.cell? ⟨KB i,j,U⟩=I (Uc x))/\w.cell? ⟨KB i,c.keys.length,U⟩=I (Uc ⟨#[]⟩)
 n:∀(i:Nat) c,i<t->ss[i]?=I c->(∀(j:Nat) x,c.subs[j]?=I x->w.cell? ⟨TB i,j,U⟩=I (M J x))/\w.cell? ⟨TB i,c.subs.length,U⟩=I (M J 0)
 f:∀i j,i<t->w.frozen? ⟨KB i,j,U⟩=Z/\w.frozen? ⟨TB i,j,U⟩=Z
 rk:w.ownsRow (wl.heap.size+1) 37 1 kv t (slC KB (nK ss) t)
 rt:w.ownsRow (wl.heap.size+1) 27 1 tv t (slC TB (nT ss) t)
 ds:∀g,kv.ownBlock=I g->tv.ownBlock≠I g
 ro:∀g,kv.ownBlock=I g\/tv.ownBlock=I g->ow g=0
 os:ow wl.heap.size=2
 ok:∀i,i<t->ow (KB i)=2*i+4/\ow (TB i)=2*i+5
 oz:∀g,g<wl.heap.size\/w.heap.size<=g->ow g=0
theorem GB.start (a:E)(ss:List Sc):GB a (a.alloc (Ub (madeCells #[C Z,Uc ⟨#[]⟩,M J 0,K U 0 0,K U 0 0,M J 0] ((ss.length+1)*6)) 39)) (λg=>if g=a.heap.size then 2 else 0) ss 0 (K U 0 0) (K U 0 0) (λ_=>0) (λ_=>0):=by refine⟨(zf.refl _ _).alloc _,λ_ _ h=>absurd h (zgV _),λi j u _ d c=>?_,λj=>zu a _ rfl _ _ j,λ_ _ h=>absurd h (zgV _),λ_ _ h=>absurd h (zgV _),λ_ _ h=>absurd h (zgV _),zgP _ _ _ _,zgP _ _ _ _,λg e=>by simp[Value.ownBlock] at e,λg e=>by simp[Value.ownBlock] at e,IN rfl,λ_ h=>absurd h (zgV _),λg e=>iN (λq=>by rw[qN] at e;omega)⟩;obtain⟨b,rfl⟩:=zgG.1 c;exact zm a _ rfl _ _ _ _ (J9 #[C Z,Uc ⟨#[]⟩,M J 0,K U 0 0,K U 0 0,M J 0] (ss.length+1) i j oa b)
theorem cutZ (T E:TypeId)(a:prog.elem T=E)(c:prog.underlying T=I (.slice E))(b:∀W,∃s,(sizeOf E).run V W=.ok s W)(g n:Nat)(W:World):(Instr.slice T (K (I ⟨g,0,U⟩) (n+1) (n+1)) U (I (M J (n:Nat))) U).run V W=.ok (K (I ⟨g,0,U⟩) n (n+1)) W:=by rw[run_slice_h W T _ _ _ (by rw[a];exact c) J _ oa oa,a];obtain⟨s,e⟩:=b W;simp[go_sem,sliced,e]
theorem GB.step {m wr W:E}{ow:Nat->Nat}{ss:List Sc}{i:Nat}{kv tv v2 F:Y}{KB TB:Nat->Nat}{c:Sc}{n o:Nat}(a:GB m wr ow ss i kv tv KB TB)(L:ss[i]?=I c)(p:zf (λg=>g=m.heap.size\/kv.ownBlock=I g\/tv.ownBlock=I g) wr W)(hs:∀(j:Nat) u,(c.cells (I ⟨n,0,U⟩) (c.keys.length+1) (I ⟨o,0,U⟩) (c.subs.length+1))[j]?=I u->W.cell? ⟨m.heap.size,i*6+j,U⟩=I u) (S:∀q,q<i*6\/(i+1)*6<=q->W.cell? ⟨m.heap.size,q,U⟩=wr.cell? ⟨m.heap.size,q,U⟩) (hf:∀j,W.frozen? ⟨m.heap.size,j,U⟩=Z)(hk:(∀(j:Nat) x,c.keys[j]?=I x->W.cell? ⟨n,j,U⟩=I (Uc x))/\W.cell? ⟨n,c.keys.length,U⟩=I (Uc ⟨#[]⟩)) (ht:(∀(j:Nat) x,c.subs[j]?=I x->W.cell? ⟨o,j,U⟩=I (M J x))/\W.cell? ⟨o,c.subs.length,U⟩=I (M J 0)) (ac:∀j,W.frozen? ⟨n,j,U⟩=Z/\W.frozen? ⟨o,j,U⟩=Z)(rk:W.ownsRow (m.heap.size+1) 37 1 v2 (i+1) (slC KB (nK ss) i++[K (I ⟨n,0,U⟩) (nK ss i) (nK ss i)])) (rt:W.ownsRow (m.heap.size+1) 27 1 F (i+1) (slC TB (nT ss) i++[K (I ⟨o,0,U⟩) (nT ss i) (nT ss i)])) (sk:∀g,v2.ownBlock=I g->kv.ownBlock=I g\/(wr.heap.size<=g/\g≠n/\g≠o)) (h:∀g,F.ownBlock=I g->tv.ownBlock=I g\/(wr.heap.size<=g/\g≠n/\g≠o)) (T:∀g,v2.ownBlock=I g->F.ownBlock≠I g) (b:wr.heap.size<=n/\n<W.heap.size/\wr.heap.size<=o/\o<W.heap.size/\n≠o):∃ah,GB m W ah ss (i+1) v2 F (upd KB i n) (upd TB i o):=by
 obtain⟨b1,b2,b3,b4,b5⟩:=b;have z:=a.on.size;have zW:=p.size;have v:∀g,g<wr.heap.size->(if g=n then 2*i+4 else if g=o then 2*i+5 else ow g)=ow g:=λg hg=>by rw[iN oa,iN oa]
 have lt:∀{j d},j<i->ss[j]?=I d->KB j<wr.heap.size/\TB j<wr.heap.size:=λ{j d} k l=>⟨zgF _ _ (a.k _ d k l).2,zgF _ _ (a.n _ d k l).2⟩
 have s:∀{j},j<i->(¬(KB j=m.heap.size\/kv.ownBlock=I (KB j)\/tv.ownBlock=I (KB j)))/\¬(TB j=m.heap.size\/kv.ownBlock=I (TB j)\/tv.ownBlock=I (TB j)):=λ{j} k=>by
  obtain⟨f,w⟩:=a.ok j k;have B:=a.os;constructor
  all_goals
   rintro(e|e)
   ·(first|rw[e] at f|rw[e] at w);omega
   have:=a.ro _ e;omega
 have P:∀g,kv.ownBlock=I g\/tv.ownBlock=I g->g<wr.heap.size:=λg e=>e.elim (λe=>(zh a.rk g e).2) (λe=>(zh a.rt g e).2);have X:m.heap.size<wr.heap.size:=by rcases zhW m.heap.size wr.heap.size with q|q;exact q;have:=a.oz m.heap.size (O q);have:=a.os;omega
 have y:∀{j d},j<i+1->ss[j]?=I d->(j<i)\/(j=i/\d=c):=λ{j d} k l=>by rcases zhp (zhJ k) with q|q;exact Q q;subst q;cases L.symm.trans l;exact O ⟨rfl,rfl⟩
 refine⟨λg=>if g=n then 2*i+4 else if g=o then 2*i+5 else ow g,a.on.laterB p (λg e=>e.elim (λe=>oa) (λe=>e.elim (λe=>by have:=(zh a.rk g e).1;omega) (λe=>by have:=(zh a.rt g e).1;omega))),λj d k l q u r=>?_,λj q u h1 h2 r=>(S _ oa).trans (a.z j q u oa h2 r),hf,λj d k l=>?_,λj d k l=>?_,λj q k=>?_,by rw[zeh];exact rk,by rw[zeh];exact rt,T,λg e=>?_,(v _ X).trans a.os,λj k=>?_,λg e=>?_⟩;rcases y k l with f|⟨rfl,rfl⟩;rw[vM oa,vM oa] at r;have hl:q<6:=(zgG.1 r).1;exact(S _ oa).trans (a.s j d f l q u r);rw[ZV,ZV] at r;exact hs q u r;rcases y k l with f|⟨rfl,rfl⟩;rw[vM oa];exact⟨λq x N=>zg p _ _ ((a.k j d f l).1 q x N) (s f).1,zg p _ _ (a.k j d f l).2 (s f).1⟩;rw[ZV];exact hk;rcases y k l with f|⟨rfl,rfl⟩;rw[vM oa];exact⟨λq x N=>zg p _ _ ((a.n j d f l).1 q x N) (s f).2,zg p _ _ (a.n j d f l).2 (s f).2⟩;rw[ZV];exact ht;have hl:=(zgG.1 L).1;rcases y k (zgE (show j<ss.length by omega)) with f|⟨rfl,_⟩;rw[vM oa,vM oa];have t:=lt f (zgE (show j<ss.length by omega));exact⟨zo p _ t.1 (a.f j q f).1 (s f).1,zo p _ t.2 (a.f j q f).2 (s f).2⟩;rw[ZV,ZV];exact ac q;rcases e with e|e;rcases sk g e with q|⟨f,w,B⟩;exact(v g (P g (Q q))).trans (a.ro g (Q q));rw[iN w,iN B];exact a.oz g (O f);rcases h g e with q|⟨f,w,B⟩;exact(v g (P g (O q))).trans (a.ro g (O q));rw[iN w,iN B];exact a.oz g (O f);rcases zhp (zhJ k) with q|q;rw[vM oa,vM oa];have t:=lt q (zgE (show j<ss.length by have:=(zgG.1 L).1;omega));rw[v _ t.1,v _ t.2];exact a.ok j q;subst q;rw[ZV,ZV,IN rfl,iN oa,IN rfl];exact⟨rfl,rfl⟩;rw[iN oa,iN oa];exact a.oz g oa
section
variable {ns:List Nd} {ss:List Sc} {p q e a j t:Int}
theorem Qb.one (h:Qb ns p)(k:Qb ns q):p=q:=by
 rcases h with⟨a,rfl⟩|⟨a,rfl⟩|⟨a,g,i,l,c,d,rfl⟩<;>rcases k with⟨b,rfl⟩|⟨b,rfl⟩|⟨b,m,j,n,e,f,rfl⟩<;>try omega
 rcases Nat.lt_trichotomy i j with q|q|q;exact absurd (e i q) d;rw[q];exact absurd (c j q) f
theorem SErr.one (h:SErr ss p)(k:SErr ss q):p=q:=by
 rcases h with⟨a,rfl⟩|⟨a,rfl⟩|⟨a,o,i,c,e,f,g,rfl⟩<;>rcases k with⟨b,rfl⟩|⟨b,rfl⟩|⟨b,r,j,d,l,m,n,rfl⟩<;>try omega
 rcases Nat.lt_trichotomy i j with q|q|q;exact absurd (m i c q e) g;rw[q];exact absurd (f j d q l) n
theorem Qb.no (h:Qb ns p)(k:0<ns.length/\ns.length<=40/\∀j,j<ns.length->xI ns j):False:=by rcases h with⟨a,rfl⟩|⟨a,rfl⟩|⟨_,_,i,b,_,c,rfl⟩;omega;omega;exact c (k.2.2 i b)
theorem VErr.two (h:VErr ns ss e a):(Qb ns a/\e=10)\/((0<ns.length/\ns.length<=40/\∀j,j<ns.length->xI ns j)/\SErr ss a/\e=11):=by rcases h with⟨b,d,f⟩|⟨b,d,f⟩|⟨b,d,i,f,g,k,l,m⟩|⟨h,⟨b,d,f⟩|⟨b,d,f⟩|⟨b,d,i,c,f,g,k,l,m⟩⟩;exact Q ⟨Q ⟨b,f⟩,d⟩;exact Q ⟨O (Q ⟨b,f⟩),d⟩;exact Q ⟨O (O ⟨b,d,i,f,g,k,m⟩),l⟩;exact O ⟨h,Q ⟨b,f⟩,d⟩;exact O ⟨h,O (Q ⟨b,f⟩),d⟩;exact O ⟨h,O (O ⟨b,d,i,c,f,g,k,m⟩),l⟩
def TellV (ns:List Nd)(ss:List Sc)(e a:Int)(b:List (Int×Int)):Prop:=(VErr ns ss e a/\b=[])\/(VFine ns ss/\e=0/\a=0/\b=yP ns ss ns.length)
theorem VErr.no (h:VErr ns ss e a)(k:VFine ns ss):False:=by rcases h.two with⟨h,_⟩|⟨_,h,_⟩;exact h.no ⟨k.n0,k.n1,k.nodes⟩;have:=k.m0;have:=k.m1;rcases h with⟨b,rfl⟩|⟨b,rfl⟩|⟨_,_,i,c,d,_,f,rfl⟩;omega;omega;exact f (k.schemas i c d)
theorem TellV.one {d f:List (Int×Int)}(h:TellV ns ss e a d)(k:TellV ns ss j t f):e=j/\a=t/\d=f:=by
 rcases h with⟨h,rfl⟩|⟨h,rfl,rfl,rfl⟩<;>rcases k with⟨k,rfl⟩|⟨k,rfl,rfl,rfl⟩
 .rcases h.two with⟨n1,n2⟩|⟨i,n1,n2⟩<;>rcases k.two with⟨b,c⟩|⟨g,b,c⟩
  exact⟨n2.trans c.symm,n1.one b,rfl⟩;exact(n1.no g).elim;exact(b.no i).elim;exact⟨n2.trans c.symm,n1.one b,rfl⟩
 exact(h.no k).elim;exact(k.no h).elim;exact⟨rfl,rfl,rfl⟩
theorem VAns.tell {w i:E}{x:Ending}(h:VAns ns ss w x i):ziE w i/\∃c d e a b,x=R (Ue #[K c b.length d,M J e,M J a])/\TellV ns ss e a b/\i.ownsRow w.heap.size 49 2 (K c b.length d) b.length (yC b)/\b.length<=120:=by
 obtain⟨k,⟨e,a,h,rfl⟩|⟨h,v,rfl,f⟩⟩:=h;exact⟨k,U,0,e,a,[],rfl,Q ⟨h,rfl⟩,zgP _ _ _ _,od⟩;obtain⟨c,l,d,rfl⟩:=zr f;have e:l=(yP ns ss ns.length).length:=by rcases f.2 with⟨e,j⟩|⟨g,m,n,e,_⟩<;>cases e;exact j.symm;rfl
 subst e;exact⟨k,c,d,0,0,_,rfl,O ⟨h,rfl,rfl,rfl⟩,f,by have:=Zg (ns:=ns) (ss:=ss) ns.length;have:=h.n1;omega⟩
theorem Qr:∀(a:List (Int×Int)) (i:Nat) (f:Int×Int),a[i]?=I f->(yC a)[i*2]?=I (M J f.1)/\(yC a)[i*2+1]?=I (M J f.2)
 | [],i,f,h=>by simp at h
 |x :: r,0,f,h=>by cases h;exact⟨rfl,rfl⟩
 |x :: r,i+1,f,h=>by
  have:=Qr r i f h;rw[show(i+1)*2=i*2+1+1 by omega];exact this
theorem YF.of {w:E}{g c:Nat}{a:List ByteArray}(b:g<w.heap.size)(h:∀(j:Nat) s,a[j]?=I s->w.cell? ⟨g,j,U⟩=I (Uc s)):YF w (K (I ⟨g,0,U⟩) a.length c) a:=O ⟨g,0,c,rfl,b,λj s e=>by rw[zg6];exact h j s e⟩
theorem km.of {w:E}{g c:Nat}{a:List Int}(h:∀(j:Nat) k,a[j]?=I k->w.cell? ⟨g,j,U⟩=I (M J k)):km w (λ_=>True) (K (I ⟨g,0,U⟩) a.length c) a:=O ⟨g,0,c,rfl,trivial,λj s e=>by rw[zg6];exact h j s e⟩
theorem GB.given {e wr g:E}{ow:Nat->Nat}{kv tv:Y}{KB TB:Nat->Nat}(h:GB e wr ow ss ss.length kv tv KB TB)(k:ziE wr g)(cap:Nat):vB g (K (I ⟨e.heap.size,0,U⟩) ss.length cap) ss:=by refine⟨_,_,rfl,λi c a=>?_⟩;have b:=(zgG.1 a).1;obtain⟨n,o⟩:=h.k i c b a;obtain⟨n1,n2⟩:=h.n i c b a;have l:KB i<wr.heap.size:=zgF wr _ o;refine⟨e.heap.size,0,I ⟨KB i,0,U⟩,c.keys.length+1,I ⟨TB i,0,U⟩,c.subs.length+1,rfl,⟨.of (zgJ l k.size) (λj s d=>zg k _ _ (n j s d) id),.of (λj s d=>zg k _ _ (n1 j s d) id)⟩,λj u m=>?_⟩;rw[zg6];exact zg k _ _ (h.s i c b a j u m) id
end
end
