/- To which places one can come without taking a character. -/
import Derived.Test.YtcgleficedipkaaGreatDoorYPrgIPrgD
import Derived.Test.YtcgleficedipkaaGreatDoorYChCChE
namespace Go.Proofs.YtcgleficedipkaaGreatDoor
open Option renaming none->U,some->I
open Value renaming int->M,slice->K,bool->C,pointer->Ua,tuple->Ue,agg->Uf
open IntKind renaming i64->J
open Bool renaming false->Z,true->G
open _root_.Go.Proofs.Tryz renaming prog->V
open Go renaming World->E,Value->Y,Calls->Uh
open Go.RowKit renaming Hid->H
open Or renaming inr->O,inl->Q
open Ending renaming returned->R
open Obj renaming cells->Ub
open Pro Ref Sm Cs Prg Eqv
open _root_.Go.Proofs.Tryz
variable (b:Value){rs:List Nat}(v:Nat)(w:World){base n p:Nat}(x0 x1 x2 x3:Bool){L:List (Int×Int)}
section
open Go.RowKit
open Sm (Stp Tree)
set_option maxHeartbeats 4000000
set_option maxRecDepth 100000
namespace Prg
theorem vw {q:Nat}:q∈Zj rs p↔q∈rs\/q=p:=by
 unfold Zj;split
 grind
 simp
theorem zbx {j:Nat}(h:j<rs.length):(Zj rs p)[j]?=rs[j]?:=by unfold Zj;split;rfl;rw[zgW h]
variable (rs p)
theorem KL:rs.length<=(Zj rs p).length:=by unfold Zj;split;exact zgH _;simp
def epsB (N:List Stp)(H:Int->Bool)(a t:Nat):Prop:=∃s,N[a]?=I s/\((s.kind=2/\H s.asr=G/\t=s.next)\/(s.kind=3/\(t=s.next\/t=s.other)))
def GE (N:List Stp)(H:Int->Bool)(a b:Nat):Prop:=Sm.Goes (λ_ _=>False) (λx _=>H x=G) N a 0 b 0
theorem GE.refl (N:List Stp)(H:Int->Bool)(a:Nat):GE N H a a:=Sm.Goes.refl _ _ _
theorem GE.step {N:List Stp}{H:Int->Bool}{a b c:Nat}(h:GE N H a b)(e:epsB N H b c):GE N H a c:=by refine Sm.Goes.trans h (Sm.Goes.one ?_);obtain⟨s,f,d|d⟩:=e;exact⟨s,f,O (Q ⟨d.1,d.2.1,d.2.2,rfl⟩)⟩;exact⟨s,f,O (O ⟨d.1,d.2,rfl⟩)⟩
end Prg
namespace Prg
def Inv (N:List Stp)(H:Int->Bool)(b:List Nat)(n:Nat)(rs:List Nat):Prop:=(∀p∈b,p∈rs)/\(∀q∈rs,∃p∈b,GE N H p q)/\∀(j:Nat) a,j<n->rs[j]?=I a->∀t,epsB N H a t->t∈rs
theorem Inv.visit {N:List Stp}{H:Int->Bool}{i rs:List Nat}{n a t:Nat}(h:Inv N H i n rs)(c:rs[n]?=I a)(e:epsB N H a t):Inv N H i n (Zj rs t)/\(Zj rs t)[n]?=I a/\t∈Zj rs t:=by have m:n<rs.length:=(zgG.1 c).1;refine⟨⟨λp d=>vw.2 (Q (h.1 p d)),λq f=>?_,λj b l k u o=>?_⟩,by rw[zbx m];exact c,vw.2 (O rfl)⟩;rcases vw.1 f with f|rfl;exact h.2.1 q f;obtain⟨p,d,g⟩:=h.2.1 a (zgS c);exact⟨p,d,g.step e⟩;rw[zbx oa] at k;exact vw.2 (Q (h.2.2 j b l k u o))
theorem Inv.next {N:List Stp}{H:Int->Bool}{c rs:List Nat}{n a:Nat}(h:Inv N H c n rs)(i:rs[n]?=I a)(e:∀t,epsB N H a t->t∈rs):Inv N H c (n+1) rs:=
 ⟨h.1,h.2.1,λj b k d u f=>by
  by_cases g:j=n;subst g;cases i.symm.trans d;exact e u f;exact h.2.2 j b oa d u f⟩
theorem eps_test {N:List Stp}{H:Int->Bool}{a:Nat}{s:Stp}(b:N[a]?=I s)(e:s.kind=2)(t:Nat):epsB N H a t↔H s.asr=G/\t=s.next:=by constructor;rintro⟨g,f,h⟩;cases b.symm.trans f;rcases h with h|h;exact h.2;omega;rintro⟨c,d⟩;exact⟨s,b,Q ⟨e,c,d⟩⟩
theorem eps_fork {N:List Stp}{H:Int->Bool}{a:Nat}{s:Stp}(b:N[a]?=I s)(c:s.kind=3)(t:Nat):epsB N H a t↔t=s.next\/t=s.other:=by
 constructor;rintro⟨e,d,h⟩;cases b.symm.trans d;rcases h with h|h;omega;exact h.2;exact λh=>⟨s,b,O ⟨c,h⟩⟩
theorem eps_none {N:List Stp}{H:Int->Bool}{a:Nat}{s:Stp}(d:N[a]?=I s)(b:s.kind≠2)(c:s.kind≠3)(t:Nat):¬epsB N H a t:=by rintro⟨f,e,h⟩;cases d.symm.trans e;rcases h with h|h;exact b h.1;exact c h.1
end Prg
variable {w}
theorem zel {m n c:Nat}{a:Option Addr}{rs:List Nat}(h:w.ownsRow base 3 1 (K a n c) m (yI rs))(q:m=rs.length):n=m/\∀k,(b:k<rs.length)->∃g,a=I ⟨g,0,U⟩/\m<=c/\w.cell? ⟨g,k,U⟩=I (M J (rs[k]:Nat)):=by
 have d:=@World.ownsRow.cells w base 3 1 _ m _ h;rcases h.2 with⟨e,l⟩|⟨g,i,j,e,o,p,f,_⟩
 grind
 simp at e;obtain⟨rfl,rfl,rfl⟩:=e;refine⟨rfl,λk b=>⟨g,rfl,f,?_⟩⟩;have:=d (g:=g) rfl k (M J (rs[k]:Nat)) (by unfold yI;rw[zgZ,zgE b];rfl);have e:(⟨g,0,U⟩:Addr).add k=⟨g,k,U⟩:=by unfold Addr.add;split<;>simp_all
 rw[e] at this;exact this
theorem zf.under {P:Nat->Prop}{a b c:E}(h:ziE a b)(k:zf P b c)(e:∀j,j<a.heap.size->¬P j):ziE a c:=
 ⟨k.os.trans h.os,k.tape.trans h.tape,k.output.trans h.output,zgN h.size k.size,λj d _=>(k.block j (zgJ d h.size) (e j d)).trans (h.block j d id)⟩
theorem Zi.keepP {P:Nat->Prop}{W W':E}{b:Nat}{x y z u:Bool}(h:Zi W b x y z u)(k:zf P W W')(a:¬P b):Zi W' b x y z u:=by have c:b<W.heap.size:=zgF W ⟨b,0,U⟩ h.k0;exact⟨zg k _ _ h.k0 a,zg k _ _ h.k1 a,zg k _ _ h.k2 a,zg k _ _ h.k3 a,zo k _ c h.f0 a,zo k _ c h.f1 a,zo k _ c h.f2 a,zo k _ c h.f3 a⟩
structure Rgo (w wr:E)(n:Nat)(x0 x1 x2 x3:Bool)(ms:List Bool)(rs:List Nat):Prop where
 rch:Rch wr (w.heap.size+1+1+1+1) (w.heap.size+1+1+1) (w.heap.size+1) (w.heap.size+1+1) n ms rs
 on:ziE w wr
 sp:Zi wr w.heap.size x0 x1 x2 x3
theorem Rgo.keep {w wr b:E}{n:Nat}{x0 x1 x2 x3:Bool}{a:List Bool}{rs:List Nat}(h:Rgo w wr n x0 x1 x2 x3 a rs)(k:ziE wr b):Rgo w b n x0 x1 x2 x3 a rs:=⟨h.rch.keep k,h.on.trans k,h.sp.keep k⟩
theorem Qw {wr:E}{n p:Nat}{x0 x1 x2 x3:Bool}{c:List Bool}{rs:List Nat}(h:Rgo w wr n x0 x1 x2 x3 c rs)(i:p<n)(g:n<=300):Uh V 132 #[M J (p:Nat),Ua (I ⟨w.heap.size+1+1+1,0,U⟩),Ua (I ⟨w.heap.size+1,0,U⟩)] wr λx d=>x=R (Ue #[])/\∃a,Rgo w d n x0 x1 x2 x3 a (Zj rs p):=by refine(zfJ _ _ _ _ n p c rs wr h.rch i g).mono ?_;rintro e d ⟨rfl,⟨a,f⟩,b⟩;exact⟨rfl,a,f,h.on.under b (λj k e=>by unfold Vis at e;omega),h.sp.keepP b (λe=>by unfold Vis at e;omega)⟩
variable (w n)
theorem Rgo.start (T:TypeId):Rgo w ((((w.alloc (Ub #[C x0,C x1,C x2,C x3] T)).alloc (Ub #[K U 0 0] 27)).alloc (Ub (madeCells #[C Z] n) 4)).alloc (Ub #[K (I ⟨w.heap.size+1+1,0,U⟩) n n] 186)) n x0 x1 x2 x3 (List.replicate n Z) []:=by
 have a:∀(W:E) (o:Obj),ziE W (W.alloc o):=λW o=>(zf.refl _ _).alloc o;refine⟨⟨?_,⟨K U 0 0,?_,zgP _ _ _ _⟩,?_,?_,ov,λp b=>?_,?_,ov,oa,oa,oa,oa,oa,oa,ov⟩,?_,?_⟩;exact zm _ _ ov _ _ 0 _ rfl;exact zg ((a _ _).trans (a _ _)) _ _ (zm _ _ ov _ _ 0 _ rfl) id;exact zo ((a _ _).trans (a _ _)) _ ov (zu _ _ ov _ _ 0) id;have h:=kY.made ((w.alloc (Ub #[C x0,C x1,C x2,C x3] T)).alloc (Ub #[K U 0 0] 27)) n;rw[show((w.alloc (Ub #[C x0,C x1,C x2,C x3] T)).alloc (Ub #[K U 0 0] 27)).heap.size=w.heap.size+1+1 by simp] at h;exact h.keep (a _ _) id
 grind
 rw[List.countP_replicate];simp;exact(((a _ _).trans (a _ _)).trans (a _ _)).trans (a _ _);exact((Zi.new w _ rfl _ _ _ _ _).keep (((a _ _).trans (a _ _)).trans (a _ _)))
theorem V5 (pb h:Nat)(N:List Stp)(W:Int->Bool)(bv:Y)(d:List Nat)(x0 x1 x2 x3:Bool)(A:Nat->Prop)(w:E)(hP:kr w A pb N h W)(hB:kt w bv d)(hb:∀a∈d,a<N.length)(hl:d.length<=301):Uh V 83 #[Ua (I ⟨pb,0,U⟩),bv,Uf #[C x0,C x1,C x2,C x3]] w λx i=>∃b rs,x=R b/\i.ownsRow w.heap.size 3 1 b rs.length (yI rs)/\ziE w i/\rs.length<=N.length/\(∀a∈rs,a<N.length)/\(∀p∈d,p∈rs)/\(∀q∈rs,∃p∈d,GE N (kp x0 x1 x2 x3) p q)/\∀a∈rs,∀t,epsB N (kp x0 x1 x2 x3) a t->t∈rs:=by
 obtain⟨va,vc,rfl⟩:=hB.slice;obtain⟨gs,cs,aJ,hA,bJ,aI⟩:=hP.c0;have af:=hP.len;have bb:=qP N.length oa;have HB:=ze hB;have HP:=ze hP;have HW:=ze aI;have aT:=ze hb;clear hB hP aI hb;have be:∀o1 o2,((w.alloc o1).alloc o2).cell? ⟨pb,0,U⟩=I (K (I ⟨gs,0,U⟩) N.length cs):=λo1 o2=>zg (((zf.refl (λ_=>False) w).alloc o1).alloc o2) _ _ aJ id;go_enter func83,ntmps83;go_wp2_with fail;have HR:=ze (Rgo.start w N.length x0 x1 x2 x3 200);generalize a4:((((w.alloc (Ub #[C x0,C x1,C x2,C x3] 200)).alloc (Ub #[K U 0 0] 27)).alloc (Ub (madeCells #[C Z] N.length) 4)).alloc (Ub #[K (I ⟨w.heap.size+1+1,0,U⟩) N.length N.length] 186))=W0 at HR ⊢;clear a4 bb be;have eg:∀aA w,(callFunc 132 aA).run V w=.ok (.enter 132 aA) w:=enters_of func132 om rfl;go_loopw[23] (λk wr=>∃(n:Nat) (ms:List Bool) (rs:List Nat),k=M J n/\n<=d.length/\Hid (Rgo w wr N.length x0 x1 x2 x3 ms rs)/\Hid ((∀q∈rs,q∈d)/\∀p∈d.take n,p∈rs)) (λk _=>d.length-(intOf k).toNat);exact⟨0,_,[],rfl,oa,HR,ov,ov⟩;obtain⟨n,ms,rs,rfl,hn,HG,y⟩:=hrel;by_cases aj:n<d.length
 ·(obtain⟨g,rfl,bH,aF⟩:=HB.get aj;have bG:=zg HG.on _ _ aF id;clear aF;have a7:=aT d[n] (zg5 aj);have o:Hid ((∀q∈Zj rs d[n],q∈d)/\∀p∈d.take (n+1),p∈Zj rs d[n]):=by refine⟨λq hq=>?_,λp hp=>?_⟩;rcases Prg.vw.1 hq with c|rfl;exact y.1 q c;exact zg5 aj;rw[zht,zgE aj] at hp;rcases zgU.1 hp with c|c;exact Prg.vw.2 (Q (y.2 p c));exact Prg.vw.2 (O (by simpa using c)));generalize d[n]=a at *;go_wp2_with(go_at_fn 132;refine(Qw HG a7 af).mono ?_;rintro e w1 ⟨rfl,bk,aC⟩;have aV:=ze aC;clear aC);exact⟨⟨n+1,bk,_,by go_num,oa,aV,o⟩,by simp[intOf];omega⟩
 obtain rfl:n=d.length:=oa;rw[zhG] at y;go_wp2_with fail;have ay:Hid (Prg.Inv N (kp x0 x1 x2 x3) d 0 rs):=⟨y.2,λq hq=>⟨q,y.1 q hq,GE.refl _ _ _⟩,λj a hj=>oa⟩
 clear y;go_loopw[12] (λk wq=>∃(n:Nat) (ms:List Bool) (rs:List Nat),k=M J n/\n<=rs.length/\Hid (Rgo w wq N.length x0 x1 x2 x3 ms rs)/\Hid (Prg.Inv N (kp x0 x1 x2 x3) d n rs)) (λk _=>N.length-(intOf k).toNat);exact⟨0,ms,rs,rfl,oa,HG,ay⟩;clear HG ay;obtain⟨n,aN,l,rfl,bM,m,o⟩:=hrel;have ba:=m.rch.len;obtain⟨b,bO,P⟩:=m.rch.r0;obtain⟨ra,rn,rc,rfl⟩:=zr P;obtain⟨rfl,ao⟩:=zel P rfl;by_cases aq:n<l.length
 .obtain⟨gr,rfl,bN,bI⟩:=ao n aq;have bc:l[n]<N.length:=m.rch.lt _ (zg5 aq);have ah:N[l[n]]?=I N[l[n]]:=zgE bc;have HA:Hid (l[n]?=I l[n]):=zgE aq;obtain⟨s0,_,s2,s3,s4⟩:=zb HW _ _ ah;have a9:=HP.fit _ _ ah;have bu:=ze s3;have aX:=ze s4;have e0:=zg m.on _ _ s0 id;have e2:=zg m.on _ _ s2 id;have e3:=zg m.on _ _ s3 id;have ep:=zg m.on _ _ aJ id;have al:=ze ah;clear s0 s2 s3 s4 ah ao P;generalize N[l[n]]=s at *;generalize l[n]=a at *;obtain⟨aG,a8⟩:=a9;have b1:(0:Int)<=(n:Int):=oa;have b2:(n:Int)<(l.length:Int):=oa;have b3:(0:Int)<=(a:Int):=oa;have b4:(a:Int)<(N.length:Int):=oa;by_cases L:s.kind=2
  ·(have aE:((s.kind:Int) == 2)=G:=ou;obtain⟨k0,k1,k2,k3,_,_,_,_⟩:=m.sp;have HZ:Hid (∀W',ziE wr W'->Uh V 133 #[Uf #[C x0,C x1,C x2,C x3],M J s.asr] W' λe i=>e=R (C (kp x0 x1 x2 x3 s.asr))/\ziE wr i/\i.cell? ⟨w.heap.size,0,U⟩=I (C x0)/\i.cell? ⟨w.heap.size,1,U⟩=I (C x1)/\i.cell? ⟨w.heap.size,2,U⟩=I (C x2)/\i.cell? ⟨w.heap.size,3,U⟩=I (C x3)/\i.cell? ⟨gs,a*5+2,U⟩=I (M J s.asr)):=λW' hW=>by refine(zfF x0 x1 x2 x3 s.asr W').mono ?_;rintro e i ⟨rfl,hO⟩;have k:=hW.trans hO;exact⟨rfl,k,zg k _ _ k0 id,zg k _ _ k1 id,zg k _ _ k2 id,zg k _ _ k3 id,zg k _ _ e2 id⟩);have u:=ze (λt=>eps_test (H:=kp x0 x1 x2 x3) al L t);clear L;cases hH:kp x0 x1 x2 x3 s.asr
   .have v:Hid (Prg.Inv N (kp x0 x1 x2 x3) d (n+1) l):=o.next HA (λt r=>by have:=((zb u t).1 r).1;rw[hH] at this;cases this);rw[hH] at HZ;clear hH;go_wp2_with fail;go_quiet(fail);go_wp2_with fail;go_region_held3(λi=>i.cell? ⟨w.heap.size,0,U⟩=I (C x0)/\i.cell? ⟨w.heap.size,1,U⟩=I (C x1)/\i.cell? ⟨w.heap.size,2,U⟩=I (C x2)/\i.cell? ⟨w.heap.size,3,U⟩=I (C x3)/\i.cell? ⟨gs,a*5+2,U⟩=I (M J s.asr)) (go_keep)
     (first|(go_at_call 133;refine(zb HZ _ (by first|exact zf.refl _ _|exact(zf.refl _ _).drewN _|exact((zf.refl _ _).drewN _).drewN _)).mono ?_;rintro e w1 ⟨rfl,z,y0,y1,y2,y3,y4⟩;have B:=ze (m.keep z);clear z))
    go_wp2_with fail;exact⟨⟨n+1,aN,l,by go_num,oa,B,v⟩,by simp[intOf];omega⟩
   obtain⟨S,T,X⟩:=o.visit HA ((zb u s.next).2 ⟨hH,rfl⟩);have v:Hid (Prg.Inv N (kp x0 x1 x2 x3) d (n+1) (Zj l s.next)):=S.next T (λt r=>by rw[((zb u t).1 r).2];exact X);have bf:=KL l s.next;rw[hH] at HZ;clear hH S T X;go_wp2_with fail;go_quiet(fail);go_wp2_with fail;go_region_held3(λi=>i.cell? ⟨w.heap.size,0,U⟩=I (C x0)/\i.cell? ⟨w.heap.size,1,U⟩=I (C x1)/\i.cell? ⟨w.heap.size,2,U⟩=I (C x2)/\i.cell? ⟨w.heap.size,3,U⟩=I (C x3)/\i.cell? ⟨gs,a*5+2,U⟩=I (M J s.asr)) (go_keep)
    (first|(go_at_call 133;refine(zb HZ _ (by first|exact zf.refl _ _|exact(zf.refl _ _).drewN _|exact((zf.refl _ _).drewN _).drewN _)).mono ?_;rintro e w1 ⟨rfl,z,y0,y1,y2,y3,y4⟩;have z3:=zg z _ _ e3 id;have B:=ze (m.keep z);clear z))
   go_wp2_with(go_at_fn 132;refine(Qw (B.keep (by first|exact zf.refl _ _|exact(zf.refl _ _).drewN _)) aG af).mono ?_;rintro e w2 ⟨rfl,aO,F⟩;have ak:=ze F;clear F);exact⟨⟨n+1,aO,_,by go_num,oa,ak,v⟩,by simp[intOf];omega⟩
  by_cases ai:s.kind=3
  .have aE:((s.kind:Int) == 2)=Z:=ou;have a6:((s.kind:Int) == 3)=G:=ou;have u:=ze (λt=>eps_fork (H:=kp x0 x1 x2 x3) al ai t);clear L ai;obtain⟨S,T,X⟩:=o.visit HA ((zb u s.next).2 (Q rfl));obtain⟨j1,j2,j3⟩:=S.visit T ((zb u s.other).2 (O rfl));have v:Hid (Prg.Inv N (kp x0 x1 x2 x3) d (n+1) (Zj (Zj l s.next) s.other)):=j1.next j2 (λt r=>by
    rcases(zb u t).1 r with rfl|rfl;exact Prg.vw.2 (Q X);exact j3)
   have bf:=KL l s.next;have bP:=KL (Zj l s.next) s.other;clear S T X j1 j2 j3;go_wp2_with fail;go_quiet(fail);go_wp2_with(first
    |(go_at_fn 132;refine(Qw (m.keep (by first|exact zf.refl _ _|exact(zf.refl _ _).drewN _)) aG af).mono ?_;rintro e w1 ⟨rfl,aO,an⟩;have z4:=zg an.on _ _ aX id;have B:=ze an;clear an m)
    |(go_at_fn 132;refine(Qw (B.keep (by first|exact zf.refl _ _|exact(zf.refl _ _).drewN _)) a8 af).mono ?_;rintro e w2 ⟨rfl,bl,F⟩;have ak:=ze F;clear F))
   exact⟨⟨n+1,bl,_,by go_num,oa,ak,v⟩,by simp[intOf];omega⟩
  have aE:((s.kind:Int) == 2)=Z:=ou;have a6:((s.kind:Int) == 3)=Z:=ou;have v:Hid (Prg.Inv N (kp x0 x1 x2 x3) d (n+1) l):=o.next HA (λt r=>absurd r (eps_none al L ai t));clear L ai;go_wp2_with fail;go_quiet(fail);go_wp2_with fail;exact⟨⟨n+1,aN,l,by go_num,oa,m.keep ((zf.refl _ _).drewN _),v⟩,by simp[intOf];omega⟩
 obtain rfl:n=l.length:=oa;have HF:=ze P;clear ao P;go_wp2_with fail;go_ret;refine⟨_,l,rfl,zZ HF oa,m.on,ba,m.rch.lt,o.1,o.2.1,λa ha t r=>?_⟩;obtain⟨j,hj⟩:=vZ ha;exact o.2.2 j a (zgG.1 hj).1 hj t r
variable {w}
theorem kt.of {v:Y}{rs:List Nat}(h:w.ownsRow base 3 1 v rs.length (yI rs)):kt w v rs:=by
 obtain⟨a,n,c,rfl⟩:=zr h;obtain⟨rfl,f⟩:=zel h rfl;by_cases d:rs=[]
 subst d;rcases h.2 with⟨e,_⟩|⟨g,i,q,e,_,_,p,_⟩;exact Q ⟨e,rfl⟩;exact O ⟨g,i,e,p,λj a b=>by simp at b⟩;have o:0<rs.length:=List.length_pos_iff.2 d;obtain⟨g,rfl,l,_⟩:=f 0 o;refine O ⟨g,c,rfl,l,λj a b=>?_⟩;obtain⟨m,rfl⟩:=zgG.1 b;obtain⟨r,e,_,k⟩:=f j m;cases e;exact k
variable (rs w)
theorem zfG (h:kt w b rs)(L:rs.length<=1000):Uh V 135 #[b,M J (v:Nat)] w λx u=>∃k:Int,x=R (M J k)/\(0<=k↔v∈rs)/\ziE w u:=by
 obtain⟨P,S,rfl⟩:=h.slice;have m:=ze h;clear h;go_enter func135,ntmps135;go_wp2_with fail;go_loopw[8] (λk wr=>∃n:Nat,k=M J n/\n<=rs.length/\H (ziE w wr)/\H (v∉rs.take n)) (λk _=>rs.length-(intOf k).toNat);exact⟨0,rfl,oa,zf.refl _ _,by show ¬v∈rs.take 0;simp⟩;obtain⟨n,rfl,N,d,e⟩:=hrel;by_cases i:n<rs.length
 ·(obtain⟨g,rfl,F,j⟩:=m.get i;have B:=zg d _ _ j id;clear j;have y:(0:Int)<=(n:Int):=oa;have z:(n:Int)<(rs.length:Int):=oa;have o:H (rs[n]∈rs):=zg5 i;have p:H (v≠rs[n]->v∉rs.take (n+1)):=λt l=>by rw[zht,zgE i] at l;rcases zgU.1 l with h|h;exact zb e h;exact t (by simpa using h));generalize rs[n]=a at *;by_cases c:v=a
  .have s:((v:Int) == (a:Int))=G:=(by simp[c]);have r:H (v∈rs):=(by show v∈rs;rw[c];exact o);clear c;go_wp2_with fail;go_ret;exact⟨n,rfl,⟨λ_=>zb r,λ_=>oa⟩,d⟩
  have s:((v:Int) == (a:Int))=Z:=ou;have q:=ze (zb p c);clear c;go_wp2_with fail;exact⟨⟨n+1,by go_num,oa,d,q⟩,by simp[intOf];omega⟩
 obtain rfl:n=rs.length:=oa;rw[zhG] at e;go_wp2_with fail;go_ret;exact⟨-1,rfl,⟨λh=>oa,λh=>absurd h e⟩,d⟩
theorem V6 (h:kt w b rs)(j:rs.length<=1000):Uh V 85 #[b,M J (v:Nat)] w λx l=>x=R (C (decide (v∈rs)))/\ziE w l:=by
 have g:=ze (zfG b rs v w h j);obtain⟨n,o,rfl⟩:=h.slice;clear h;by_cases d:v∈rs
 .rw[decide_eq_true d];go_enter func85,ntmps85;go_wp2_with(go_at_call 135;refine g.mono ?_;rintro e m ⟨k,rfl,c,a⟩;have i:0<=k:=c.2 d;clear c;have f:=ze a;clear a);go_ret;exact⟨rfl,f⟩
 rw[decide_eq_false d];go_enter func85,ntmps85;go_wp2_with(go_at_call 135;refine g.mono ?_;rintro e m ⟨k,rfl,c,a⟩;have i:¬0<=k:=λh=>d (c.1 h);clear c;have f:=ze a;clear a);go_ret;refine⟨?_,f⟩;show Ending.returned (C (decide (0<=k)))=_;rw[decide_eq_false oa]
namespace Prg
def lfP (L:List (Int×Int))(T:Tree)(k:Nat):Prop:=k<L.length/\kT T (zj L k)=G
def ZX (W:Int->Bool)(L:List (Int×Int))(k:Nat)(a:Int):Bool:=kp (decide (k=0)) (decide (k=L.length)) (befB W L k) (aftB W L k) a
def ahP (W:Int->Bool)(L:List (Int×Int))(a:Int)(k:Nat):Prop:=ZX W L k a=G
abbrev GoP (W:Int->Bool)(L:List (Int×Int))(N:List Stp)(p i q j:Nat):Prop:=Sm.Goes (lfP L) (ahP W L) N p i q j
theorem GE_at {W:Int->Bool}{L:List (Int×Int)}{N:List Stp}{m a b:Nat}(h:GE N (ZX W L m) a b):GoP W L N a m b m:=by
 obtain⟨k,h⟩:=h
 suffices g:∀(k a b i j:Nat),Run (λ_ _=>False) (λx _=>ZX W L m x=G) N k a i b j->GoP W L N a m b m from g k a b 0 0 h
 intro k
 induction k with
 |zero=>rintro a b i j ⟨rfl,_⟩;exact Sm.Goes.refl _ _ _
 |succ k o=>
  rintro a b i j ⟨r,q,⟨s,e,l⟩,n⟩;refine Sm.Goes.head ?_ (o _ _ _ _ n);rcases l with⟨_,f,_⟩|⟨c,d,p,_⟩|⟨c,d,_⟩;exact f.elim;exact⟨s,e,O (Q ⟨c,d,p,rfl⟩)⟩;exact⟨s,e,O (O ⟨c,d,rfl⟩)⟩
theorem take_all {N:List Stp}{m:Nat}{rs:List Nat}(h:m<L.length)(b:Nat):b∈qg N (zj L m) rs↔∃a∈rs,tkr (lfP L) N a m b:=by rw[V9];constructor;rintro⟨a,d,s,e,c,rfl⟩;unfold jC at c;rw[zhb,decide_eq_true_eq] at c;exact⟨a,d,s,e,c.1,⟨h,c.2⟩,rfl⟩;rintro⟨a,d,s,e,f,g,rfl⟩;exact⟨a,d,s,e,by unfold jC;rw[g.2,decide_eq_true f];rfl,rfl⟩
end Prg
namespace Eqv
theorem V7 (s:ByteArray):∀(f p:Nat) (acc:List (Int×Int)),s.size<p+f->p<=s.size->(xV s f p acc).1=acc++(zV s f p).map (λx=>(x.2,x.1))
 |0,p,acc,h,c=>oa
 |f+1,p,acc,h,c=>by
  by_cases a:p<s.size
  .have b:=Zy a;cases h1:xo s p with
   |none=>
    rw[h1] at b;rw[qU a h1];simp only[zV];rw[b];simp[ahead]
   |some g=>
    (obtain⟨m,d⟩:=g;rw[h1] at b;have i:=Ref.qr h1;have e:zV s (f+1) p=((p:Int),d) :: zV s f (p+m):=by simp only[zV];rw[b];rfl);rw[e,qo a h1,V7 s f (p+m) _ oa oa];simp
  rw[jR a];simp only[zV];rw[show qd s p=U by unfold qd;rw[iN a]];simp
theorem zem (s:ByteArray):∀(f p:Nat),∀x∈zV s f p,Cs.isCh x.2=G
 |0,_,x,a=>by simp[zV] at a
 |f+1,p,x,a=>by
  by_cases c:p<s.size
  .have b:=Zy c;cases h1:xo s p with
   |none=>
    rw[h1] at b;simp only[zV] at a;rw[b] at a;simp[ahead] at a
   |some g=>
    (obtain⟨m,d⟩:=g;rw[h1] at b;have h:=Ref.qr h1;have e:zV s (f+1) p=((p:Int),d) :: zV s f (p+m):=by simp only[zV];rw[b];rfl);rw[e] at a;rcases zhh.1 a with rfl|a;rw[Y0];simp only;omega;exact zem s f (p+m) x a
  simp only[zV] at a;rw[show qd s p=U by unfold qd;rw[iN c]] at a;simp at a
end Eqv
namespace Prg
structure qR (L tx:List (Int×Int)):Prop where
 map:tx=L.map (λx=>(x.2,x.1))
 ch:∀x∈L,Cs.isCh x.2=G
theorem qR.of (s:ByteArray):qR (zV s (s.size+1) 0) (zF s).1:=⟨by
 have:=V7 s (s.size+1) 0 [] oa oa;simpa [zF] using this,zem s _ _⟩
variable {L tx:List (Int×Int)}
theorem qR.len (h:qR L tx):tx.length=L.length:=by rw[h.map];simp
theorem qR.at (h:qR L tx)(k:Nat):j5 tx k=zj L k:=by unfold j5 zj;rw[h.map,zgZ];cases L[k]?<;>rfl
theorem qR.isCh (h:qR L tx){k:Nat}(a:k<L.length):Cs.isCh (zj L k)=G:=by rw[KP a];exact h.ch _ (zg5 a)
theorem qR.nn (h:qR L tx){k:Nat}(a:k<L.length):0<=zj L k:=by have:=(Y0 _).1 (h.isCh a);omega
theorem lf_iff (h:qR L tx)(T:Tree)(k:Nat):lfP L T k↔lfT tx T k:=by unfold lfP lfT;rw[h.len,h.at k];constructor;rintro⟨b,a⟩;unfold kT at a;rw[zhb] at a;exact⟨b,a.2⟩;rintro⟨b,a⟩;exact⟨b,by unfold kT;rw[h.isCh b,a];rfl⟩
theorem zen (h:qR L tx){k:Nat}(a:k<L.length):zX 119 (zj L k)=Eqv.zK kD (zj L k):=by rw[<-zdO,h.isCh a,zcf];rfl
theorem zeo:Eqv.zK kD (-1)=Z:=od
theorem bef_at (h:qR L tx){k:Nat}(b:k<=L.length):befB (zX 119) L k=Eqv.zK kD (chBe tx k):=by unfold befB chBe;by_cases a:k=0;subst a;simp[zeo];rw[IN oa,h.at,zen h oa,decide_eq_true a];rfl
theorem aft_at (h:qR L tx){k:Nat}(b:k<=L.length):aftB (zX 119) L k=Eqv.zK kD (j5 tx k):=by unfold aftB;by_cases a:k=L.length;rw[h.at,xZ oa,zeo];simp[a];rw[h.at,zen h oa,decide_eq_true a];rfl
theorem ah_iff (h:qR L tx){W:Int->Bool}{a:Int}{k:Nat}(b:k<=L.length)(f:0<=a/\a<=3)(d:2<=a->W=zX 119):ahP W L a k↔ahT tx a k:=by unfold ahP ahT ZX kp asB Q2;have e:a=0\/a=1\/a=2\/a=3:=oa;rcases e with rfl|rfl|rfl|rfl;simp only[if_true];unfold chBe;by_cases c:k=0;subst c;simp;rw[IN oa,h.at];have:=h.nn (k:=k-1) oa;simp;omega;simp only[show(1:Int)≠0 by decide,if_false,if_true,show(36:Int)≠94 by decide];rw[h.at];by_cases c:k=L.length;rw[xZ oa];simp[c];have:=h.nn (k:=k) oa;simp;omega;rw[d oa,bef_at h b,aft_at h b];simp;rw[d oa,bef_at h b,aft_at h b];simp
def Asks (N:List Stp)(W:Int->Bool):Prop:=∀(p:Nat) s,N[p]?=I s->s.kind=2->(0<=s.asr/\s.asr<=3)/\(2<=s.asr->W=zX 119)
theorem zby (h:qR L tx){W:Int->Bool}{N:List Stp}(e:Asks N W){p i q j:Nat}(f:i<=L.length):Sm.one (lfP L) (ahP W L) N p i q j↔Sm.one (lfT tx) (ahT tx) N p i q j:=by constructor;rintro⟨s,a,⟨b,c,d⟩|⟨b,c,d⟩|k⟩;exact⟨s,a,Q ⟨b,(lf_iff h _ _).1 c,d⟩⟩;exact⟨s,a,O (Q ⟨b,(ah_iff h f (e p s a b).1 (e p s a b).2).1 c,d⟩)⟩;exact⟨s,a,O (O k)⟩;rintro⟨s,a,⟨b,c,d⟩|⟨b,c,d⟩|k⟩;exact⟨s,a,Q ⟨b,(lf_iff h _ _).2 c,d⟩⟩;exact⟨s,a,O (Q ⟨b,(ah_iff h f (e p s a b).1 (e p s a b).2).2 c,d⟩)⟩;exact⟨s,a,O (O k)⟩
theorem one_in {W:Int->Bool}{N:List Stp}{p i q j:Nat}(f:i<=L.length)(d:Sm.one (lfP L) (ahP W L) N p i q j):j<=L.length:=by obtain⟨s,g,⟨b,a,e,c⟩|⟨b,a,e,c⟩|⟨b,a,c⟩⟩:=d;have:=a.1;omega;omega;omega
theorem Qx (h:qR L tx){W:Int->Bool}{N:List Stp}(b:Asks N W):∀{k p i q j:Nat},i<=L.length->(Run (lfP L) (ahP W L) N k p i q j↔Run (lfT tx) (ahT tx) N k p i q j)
 |0,_,_,_,_,_=>Iff.rfl
 |k+1,p,i,q,j,c=>by
  constructor;rintro⟨f,e,a,d⟩;exact⟨f,e,(zby h b c).1 a,(Qx h b (one_in c a)).1 d⟩;rintro⟨f,e,a,d⟩;have g:=(zby h b c).2 a;exact⟨f,e,g,(Qx h b (one_in c g)).2 d⟩
theorem zbz (h:qR L tx){W:Int->Bool}{N:List Stp}(a:Asks N W){p i q j:Nat}(b:i<=L.length):GoP W L N p i q j↔Sm.Goes (lfT tx) (ahT tx) N p i q j:=
 ⟨λ⟨k,r⟩=>⟨k,(Qx h a b).1 r⟩,λ⟨k,r⟩=>⟨k,(Qx h a b).2 r⟩⟩
end Prg
end
