/- The reference's characters: which a part, a token takes. -/
import Derived.Test.YtcgleficedipkaaGreatDoorYRefWRefY
import Derived.Deep.RegionHeld3
import Derived.Deep.OwnRows
import Derived.Test.YtcgleficedipkaaGreatDoorYEqJEqM
import Derived.Deep.CutBlock
namespace Go.Proofs.YtcgleficedipkaaGreatDoor
open Option renaming none->U,some->I
open Value renaming int->M,slice->K,bool->C,tuple->Ue,agg->Uf
open IntKind renaming i64->J
open Bool renaming false->Z,true->G
open _root_.Go.Proofs.Tryz renaming prog->V
open Go renaming World->E,Value->Y,Calls->Uh
open Go.RowKit renaming Hid->H
open Or renaming inr->O,inl->Q
open Ending renaming returned->R
open Obj renaming cells->Ub
open Ref Sm Eqv
open _root_.Go.Proofs.Tryz
variable (c:Int)(a b:Value)(xs s:List Bool){w B:World}{L:Value}{l:List (Int×Int)}{f F g off cap k:Nat}(n i:Nat){bs zs:List Bool}
section
open Go.RowKit
set_option maxHeartbeats 800000
def y7 (w:E)(L:Y)(l:List (Int×Int)):Prop:=
 (L=K U 0 0/\l=[])\/∃g cap,L=K (I ⟨g,0,U⟩) l.length cap/\l.length<=cap/\g<w.heap.size/\∀(j:Nat) p,l[j]?=I p->w.cell? ⟨g,j*2,U⟩=I (M J p.1)/\w.cell? ⟨g,j*2+1,U⟩=I (M J p.2)
theorem y7.keep (h:y7 w L l)(k:ziE w B):y7 B L l:=by rcases h with h|⟨g,cap,c,d,e,a⟩;exact Q h;exact O ⟨g,cap,c,d,zgJ e k.size,λj p b=>⟨zg k _ _ (a j p b).1 id,zg k _ _ (a j p b).2 id⟩⟩
theorem Qt:∀(l:List (Int×Int)) (j:Nat) (p:Int×Int),l[j]?=I p->(spanCells l)[j*2]?=I (M J p.1)/\(spanCells l)[j*2+1]?=I (M J p.2)
 | [],j,p,h=>by simp at h
 |x :: r,0,p,h=>by
  obtain⟨a,b⟩:=x;simp at h;subst h;exact⟨rfl,rfl⟩
 |x :: r,j+1,p,h=>by
  obtain⟨a,b⟩:=x;have:=Qt r j p (by simpa using h);have c:(j+1)*2=(j*2)+2:=oa;have d:(j+1)*2+1=(j*2+1)+2:=oa;rw[d,c];simp only[spanCells,List.getElem?_cons_succ];exact this
theorem y7.of {base:Nat}{T:TypeId}{L:Y}{l:List (Int×Int)}(h:w.ownsRow base T 2 L l.length (spanCells l)):y7 w L l:=by
 have f:=zh h;have b:=@World.ownsRow.cells w base T 2 L l.length (spanCells l) h;rcases h.2 with⟨rfl,c⟩|⟨g,cap,o,rfl,q,r,i,_⟩;exact Q ⟨rfl,zgY c⟩;refine O ⟨g,cap,rfl,i,(f g rfl).2,λj p d=>?_⟩;have e:∀k,(⟨g,0,U⟩:Addr).add k=⟨g,k,U⟩:=λk=>by unfold Addr.add;split<;>simp_all
 obtain⟨m,n⟩:=Qt l j p d;have c1:=b (g:=g) rfl _ _ m;have a:=b (g:=g) rfl _ _ n;rw[e] at c1 a;exact⟨c1,a⟩
namespace Eqv
theorem inSp_yes {c:Int}{n:Nat}{p:Int×Int}(h:l[n]?=I p)(a:p.1<=c)(b:c<=p.2):zK l c=G:=by unfold zK;rw[List.any_eq_true];exact⟨p,zgS h,by simp[a,b]⟩
theorem inSp_no {c:Int}(h:∀(n:Nat) p,n<l.length->l[n]?=I p->¬(p.1<=c/\c<=p.2)):zK l c=Z:=by unfold zK;rw[List.any_eq_false];intro p b;obtain⟨n,a,e⟩:=zik b;have:=h n p a (by rw[zgE a,e]);simpa using this
end Eqv
theorem zdr (neg:Bool)(L:Y)(l:List (Int×Int))(c:Int)(w:E)(h:y7 w L l)(hl:l.length<=1000):Uh V 250 #[Uf #[C neg,L],M J c] w λx B=>x=R (C (wQ ⟨neg,l⟩ c))/\ziE w B:=by
 have t:ziE w (w.alloc (Ub #[C neg,L] 336)):=(zf.refl _ _).alloc _;have s:=ze (h.keep t);have y:=ze t;clear h t;obtain⟨m,u,o,rfl⟩:∃m u o,L=K m u o:=by rcases(zb s) with⟨a,_⟩|⟨g,cap,a,_⟩<;>exact⟨_,_,_,a⟩
 have X:u=l.length:=by rcases(zb s) with⟨a,d⟩|⟨g,cap,a,_⟩<;>simp at a<;>simp[*]
 subst X;go_enter func250,ntmps250;go_wp2_with fail
 go_loop [5] (λk=>∃n:Nat,k=M J n/\n<=l.length/\H (∀(j:Nat) p,j<n->l[j]?=I p->¬(p.1<=c/\c<=p.2))) (λk=>l.length-(intOf k).toNat)
 case atStart=>exact⟨0,rfl,oa,λj p N=>oa⟩
 case round=>
  obtain⟨n,rfl,hn,v⟩:=hrel;by_cases q:n<l.length
  ·(have z:=zb s;obtain⟨g,cap,aa,ad,hg,F⟩:∃g cap,m=I ⟨g,0,U⟩/\l.length<=o/\g<cap/\∀(j:Nat) p,l[j]?=I p->(w.alloc (Ub #[C neg,K m l.length o] 336)).cell? ⟨g,j*2,U⟩=I (M J p.1)/\(w.alloc (Ub #[C neg,K m l.length o] 336)).cell? ⟨g,j*2+1,U⟩=I (M J p.2):=by rcases z with⟨_,d⟩|⟨g,cap,a,d,P,S⟩;rw[d] at q;simp at q;simp at a;exact⟨g,_,a.1,oa,P,S⟩);subst aa;obtain⟨c1,c2⟩:=F n l[n] (zgE q);clear F z;have r:l[n].1<=c/\c<=l[n].2->H (Eqv.zK l c=G):=λb=>inSp_yes (zgE q) b.1 b.2;have f:¬(l[n].1<=c/\c<=l[n].2)->H (∀(j:Nat) p,j<n+1->l[j]?=I p->¬(p.1<=c/\c<=p.2)):=λb j p N W=>by
    by_cases e:j<n;exact zb v j p e W
    grind
   generalize l[n].1=lo at *;generalize l[n].2=T at *;by_cases a:lo<=c
   .by_cases d:c<=T
    .have i:=ze (r ⟨a,d⟩);clear r f;go_wp2_with fail;go_ret;refine⟨?_,y⟩;unfold wQ;rw[zb i];cases neg<;>rfl
    have i:=ze (f (λb=>d b.2));clear r f;go_wp2_with fail;go_round
    case rel=>exact⟨n+1,by go_num,oa,i⟩
    case measure=>simp[intOf];omega
   have i:=ze (f (λb=>a b.1));clear r f;go_wp2_with fail;go_round
   case rel=>exact⟨n+1,by go_num,oa,i⟩
   case measure=>simp[intOf];omega
  go_wp2_with fail;go_ret;refine⟨?_,y⟩;unfold wQ;rw[inSp_no (λj p N=>zb v j p oa)];cases neg<;>rfl
set_option maxHeartbeats 1600000
set_option maxRecDepth 100000
def Yl (w:E)(L:Y)(ps:List Pt):Prop:=
 (L=K U 0 0/\ps=[])\/∃g cap,L=K (I ⟨g,0,U⟩) ps.length cap/\ps.length<=cap/\g<w.heap.size/\∀(j:Nat) p,ps[j]?=I p->∃a c b,w.cell? ⟨g,j*2,U⟩=I (C p.neg)/\w.cell? ⟨g,j*2+1,U⟩=I (K a c b)/\y7 w (K a c b) p.spans
theorem Yl.keep {w B:E}{L:Y}{l:List Pt}(h:Yl w L l)(k:ziE w B):Yl B L l:=by rcases h with h|⟨g,cap,d,e,i,m⟩;exact Q h;refine O ⟨g,cap,d,e,zgJ i k.size,λj p n=>?_⟩;obtain⟨o,r,q,a,b,c⟩:=m j p n;exact⟨o,r,q,zg k _ _ a id,zg k _ _ b id,c.keep k⟩
namespace Eqv
theorem zfC {l:List Pt}{c:Int}{n:Nat}{p:Pt}(h:l[n]?=I p)(a:wQ p c=G):anyPt l c=G:=by unfold anyPt;rw[List.any_eq_true];exact⟨p,zgS h,a⟩
theorem anyPt_no {l:List Pt}{c:Int}(h:∀(n:Nat) p,n<l.length->l[n]?=I p->wQ p c=Z):anyPt l c=Z:=by unfold anyPt;rw[List.any_eq_false];intro p b;obtain⟨n,a,e⟩:=zik b;have:=h n p a (by rw[zgE a,e]);simp[this]
end Eqv
def tokV (t:Tok)(a:Y):Y:=Uf #[M J t.kind,C t.neg,a,M J t.c,M J t.mn,M J t.mx]
theorem zfD (t:Tok)(L:Y)(c:Int)(w:E)(h:Yl w L t.parts)(hl:t.parts.length<=1000)(hs:∀p∈t.parts,p.spans.length<=10):Uh V 220 #[tokV t L,M J c] w λx B=>x=R (C (Y6 t c))/\ziE w B:=by
 unfold tokV;have y:ziE w (w.alloc (Ub #[M J t.kind,C t.neg,L,M J t.c,M J t.mn,M J t.mx] 308)):=(zf.refl _ _).alloc _;have v:=ze (h.keep y);have X:=ze y;have ak:(w.alloc (Ub #[M J t.kind,C t.neg,L,M J t.c,M J t.mn,M J t.mx] 308)).cell? ⟨w.heap.size,1,U⟩=I (C t.neg):=zm w _ rfl _ _ 1 _ rfl;have al:(w.alloc (Ub #[M J t.kind,C t.neg,L,M J t.c,M J t.mn,M J t.mx] 308)).cell? ⟨w.heap.size,2,U⟩=I L:=zm w _ rfl _ _ 2 _ rfl;clear h y;obtain⟨r,P,s,rfl⟩:∃r P s,L=K r P s:=by rcases(zb v) with⟨b,_⟩|⟨g,cap,b,_⟩<;>exact⟨_,_,_,b⟩
 have am:P=t.parts.length:=by rcases(zb v) with⟨b,l⟩|⟨g,cap,b,_⟩<;>simp at b<;>simp[*]
 subst am;have HS:=ze hs;clear hs;go_enter func220,ntmps220;go_wp2_with fail;generalize w.alloc (Ub #[M J t.kind,C t.neg,K r t.parts.length s,M J t.c,M J t.mn,M J t.mx] 308)=W at *;go_loopw[5] (λk wr=>∃n:Nat,k=M J n/\n<=t.parts.length/\H (ziE W wr)/\H (∀(j:Nat) p,j<n->t.parts[j]?=I p->wQ p c=Z)) (λk _=>t.parts.length-(intOf k).toNat);exact⟨0,rfl,oa,zf.refl _ _,λj p hj=>oa⟩;obtain⟨n,rfl,hn,a,T⟩:=hrel;have k1:=zg a _ _ ak id;have k2:=zg a _ _ al id;by_cases o:n<t.parts.length
 ·(have hW:=v.keep a;obtain⟨g,ao,av,F,S,N,c1,c2,ae⟩:∃g,r=I ⟨g,0,U⟩/\t.parts.length<=s/\∃F S N,wr.cell? ⟨g,n*2,U⟩=I (C t.parts[n].neg)/\wr.cell? ⟨g,n*2+1,U⟩=I (K F S N)/\y7 wr (K F S N) t.parts[n].spans:=by rcases hW with⟨_,l⟩|⟨g,cap,b,l,h3,h4⟩;rw[l] at o;simp at o;simp_all);subst ao;have HP:=ze ae;clear ae hW;have ay:=zb HS t.parts[n] (zg5 o);have z:t.parts[n]?=I t.parts[n]:=zgE o;generalize t.parts[n]=p at *;cases hin:wQ p c
  .have ah:H (∀(j:Nat) p,j<n+1->t.parts[j]?=I p->wQ p c=Z):=λj q hj hq=>by
    by_cases e:j<n;exact zb T j q e hq
    grind
   clear z;go_wp2_with(go_at_call 250;refine(zdr p.neg _ p.spans c _ HP oa).mono ?_;rintro e i ⟨rfl,d⟩;have m:wQ ⟨p.neg,p.spans⟩ c=Z:=hin;rw[m];have u:=ze d;clear d m);go_round
   case rel=>exact⟨n+1,by go_num,oa,a.trans u,ah⟩
   case measure=>simp[intOf];omega
  have HY:=ze (zfC z hin);clear z;have hk:∀i,ziE wr i->i.cell? ⟨w.heap.size,1,U⟩=I (C t.neg):=λi l=>zg l _ _ k1 id;have ag:=ze hk;clear hk;go_wp2_with(go_at_call 250;refine(zdr p.neg _ p.spans c _ HP oa).mono ?_;rintro e i ⟨rfl,d⟩;have m:wQ ⟨p.neg,p.spans⟩ c=G:=hin;rw[m];have k3:=zb ag i d;have u:=ze d;clear d m);go_ret;refine⟨?_,(X.trans a).trans u⟩;unfold Y6;rw[zb HY];cases t.neg<;>rfl
 go_wp2_with fail;go_ret;refine⟨?_,X.trans a⟩;unfold Y6;rw[anyPt_no (λj p hj=>zb T j p oa)];cases t.neg<;>rfl
theorem zds (w:E):Uh V 249 #[M J c] w λx B=>x=R (C (Eqv.zK kD c))/\ziE w B:=by
 go_enter func249,ntmps249;go_wp2_with(first
  |(go_at_call 216;refine(Wc _).mono ?_;rintro e h ⟨rfl,b,a⟩;have f:=ze b;have d:=ze a;clear b a)
  |(go_at_call 250;refine(zdr Z _ [(48,57),(65,90),(95,95),(97,122)] c _ (y7.of f) od).mono ?_;rintro e i ⟨rfl,g⟩))
 go_ret;exact⟨by rw[ZI];rfl,d.trans g⟩
namespace Ref
def j5 (l:List (Int×Int))(k:Nat):Int:=match l[k]? with
 |some p=>p.1
 |none=>-1
def chBe (l:List (Int×Int))(k:Nat):Int:=if 0<k then j5 l (k-1) else -1
theorem chAt_in (h:k<l.length):j5 l k=l[k].1:=by unfold j5;rw[zgE h]
theorem zbk (h:l.length<=k):j5 l k = -1:=by unfold j5;rw[zhv h]
def asB (sign:Int)(l:List (Int×Int))(i:Nat):Bool:=
 if sign=94 then decide (chBe l i<0)
 else if sign=36 then decide (j5 l i<0)
 else if sign=98 then(Eqv.zK kD (chBe l i) != Eqv.zK kD (j5 l i))
 else(Eqv.zK kD (chBe l i) == Eqv.zK kD (j5 l i))
end Ref
theorem y7.at {w:E}{L:Y}{l:List (Int×Int)}(h:y7 w L l){k:Nat}(a:k<l.length):∃g cap,L=K (I ⟨g,0,U⟩) l.length cap/\l.length<=cap/\w.cell? ⟨g,k*2,U⟩=I (M J (j5 l k)):=by rcases h with⟨_,h⟩|⟨g,cap,b,c,_,d⟩;rw[h] at a;simp at a;exact⟨g,cap,b,c,by rw[chAt_in a];exact(d k l[k] (zgE a)).1⟩
theorem y7.len (h:y7 w L l):∃b c,L=K b l.length c:=by rcases h with⟨h,a⟩|⟨g,cap,h,_⟩;exact⟨U,0,by rw[h,a];rfl⟩;exact⟨_,_,h⟩
variable (L l)
theorem zdt (w:E)(h:y7 w L l)(r:l.length<=1000)(q:i<=l.length):Uh V 248 #[L,M J i] w λx B=>x=R (Ue #[M J (chBe l i),M J (j5 l i)])/\B=w:=by
 by_cases c:0<i
 .obtain⟨g,cap,rfl,p,o⟩:=h.at (k:=i-1) oa;have a:H (chBe l i=j5 l (i-1)):=by unfold chBe;rw[IN c];rfl
  obtain⟨j,rfl⟩:∃j,i=j+1:=⟨i-1,oa⟩
  simp only[Nat.add_sub_cancel] at o a;by_cases d:j+1<l.length
  .obtain⟨n,m,e,_,f⟩:=h.at d;simp at e;obtain⟨rfl,_⟩:=e;clear h;go_enter func248,ntmps248;go_wp2_with fail;go_ret2;rw[zb a];exact⟨rfl,rfl⟩
  have b:H (j5 l (j+1) = -1):=zbk oa;clear h;go_enter func248,ntmps248;go_wp2_with fail;go_ret2;rw[zb a,zb b];exact⟨rfl,rfl⟩
 obtain rfl:i=0:=by omega
 have a:H (chBe l 0 = -1):=rfl;by_cases d:0<l.length
 .obtain⟨n,m,rfl,p,f⟩:=h.at d;simp only[zia] at f;clear h c;go_enter func248,ntmps248;go_wp2_with fail;go_ret2;rw[zb a];exact⟨rfl,rfl⟩
 have b:H (j5 l 0 = -1):=zbk oa;obtain⟨s,t,rfl⟩:=h.len;clear h c;go_enter func248,ntmps248;go_wp2_with fail;go_ret2;rw[zb a,zb b];exact⟨rfl,rfl⟩
theorem W7 (w:E)(h:y7 w L l)(o:l.length<=1000)(n:i<=l.length):Uh V 219 #[M J c,L,M J i] w λx B=>x=R (C (asB c l i))/\ziE w B:=by
 have k:=ze (zdt L l i w h o n);have j:H (asB c l i=if c=94 then decide (chBe l i<0) else if c=36 then decide (j5 l i<0) else if c=98 then(Eqv.zK kD (chBe l i) != Eqv.zK kD (j5 l i)) else(Eqv.zK kD (chBe l i) == Eqv.zK kD (j5 l i))):=rfl;clear h;generalize chBe l i=x at *;generalize j5 l i=y at *;generalize asB c l i=r at *;have m:(c == 94)=G\/((c == 94)=Z/\(c == 36)=G)\/((c == 94)=Z/\(c == 36)=Z/\(c == 98)=G)\/((c == 94)=Z/\(c == 36)=Z/\(c == 98)=Z):=by grind
 rcases m with a|⟨a,f⟩|⟨a,f,g⟩|⟨a,f,g⟩
 all_goals
  go_enter func219,ntmps219;go_wp2_with(first
   |(go_at_call 248;refine ziD k ?_)
   |(go_at_call 249;refine(zds _ _).mono ?_;rintro e p ⟨rfl,b⟩;first|(have d:=d.trans b;clear b)|(have d:H (ziE w p):=b;clear b)))
  go_ret;refine⟨?_,d⟩;rw[zb j]
 rw[IN (by simpa using a)];rfl;simp_all;rw[iN (by simpa using a),iN (by simpa using f),IN (by simpa using g)];rfl;simp_all
def yE (w:E)(L:Y)(bs:List Bool):Prop:=
 ∃g cap,L=K (I ⟨g,0,U⟩) bs.length cap/\bs.length<=cap/\g<w.heap.size/\∀(j:Nat) b,bs[j]?=I b->w.cell? ⟨g,j,U⟩=I (C b)
theorem yE.keep {L:Y}{l:List Bool}(h:yE w L l)(k:ziE w B):yE B L l:=by obtain⟨g,cap,a,c,d,e⟩:=h;exact⟨g,cap,a,c,zgJ d k.size,λj b i=>zg k _ _ (e j b i) id⟩
structure kY (w:E)(g:Nat)(bs:List Bool):Prop where
 c:∀(j:Nat) b,bs[j]?=I b->w.cell? ⟨g,j,U⟩=I (C b)
 f:∀(j:Nat) b,bs[j]?=I b->w.frozen? ⟨g,j,U⟩=Z
theorem kY.keep {P:Nat->Prop}{w B:E}{g:Nat}{bs:List Bool}(h:kY w g bs)(k:zf P w B)(c:¬P g):kY B g bs:=
 ⟨λj b a=>zg k _ _ (h.c j b a) c,λj b a=>zo k _ (zgF w _ (h.c j b a)) (h.f j b a) c⟩
theorem kY.set (h:kY w g bs)(i:Nat)(v:Bool):kY (w.setCell ⟨g,i,U⟩ (C v)) g (bs.set i v):=by refine⟨λj b a=>?_,λj b a=>?_⟩;by_cases e:i=j;subst e;have c:i<bs.length:=(by have:=(zgG.1 a).1;simpa using this);rw[zh7 c] at a;obtain rfl:=zg0 a;exact zgL _ _ _ (h.c i bs[i] (zgE c));rw[zhP e] at a;exact(zgI _ _ _ _ (by intro d;exact e (by have:=congrArg Addr.off d;simpa using this))).trans (h.c j b a);rw[zk];by_cases e:i=j;subst e;have c:i<bs.length:=(by have:=(zgG.1 a).1;simpa using this);exact h.f i bs[i] (zgE c);rw[zhP e] at a;exact h.f j b a
theorem kY.row (h:kY w g bs)(b:g<w.heap.size){cap:Nat}(a:bs.length<=cap):yE w (K (I ⟨g,0,U⟩) bs.length cap) bs:=⟨g,cap,rfl,a,b,h.c⟩
theorem zf.laterB {P:Nat->Prop}{a b c:E}(h:ziE a b)(k:zf P b c)(e:∀i,P i->a.heap.size<=i):ziE a c:=
 ⟨k.os.trans h.os,k.tape.trans h.tape,k.output.trans h.output,zgN h.size k.size,λi d f=>(k.block i (zgJ d h.size) (λg=>by have:=e i g;omega)).trans (h.block i d f)⟩
theorem Tryz.infoBool:(prog.info? 4).map (λi=>(i.zero,i.size,i.bytes))=I (I (C Z),1,1):=om
theorem qP (a:n<=1000)(w:E):(Instr.makeSlice 186 (M J (n:Int)) (M J (n:Int))).run V w=.ok (K (I ⟨w.heap.size,0,U⟩) n n) (w.alloc (Ub (madeCells #[C Z] n) 4)):=
 run_make_row' 186 4 (C Z) 1 underlying186 Tryz.infoBool rfl J J n oa oa w
theorem zbl (j:Nat)(h:j<n):(madeCells #[C Z] n)[j]?=I (C Z):=by unfold madeCells;simp[h,Nat.mod_one]
variable (w)
theorem kY.made:kY (w.alloc (Ub (madeCells #[C Z] n) 4)) w.heap.size (List.replicate n Z):=by refine⟨λj b a=>?_,λj b a=>zu w _ rfl _ _ j⟩;have c:=(zgG.1 a).1;simp at c;rw[zhx,IN c] at a;obtain rfl:=zg0 a;exact zm w _ rfl _ _ j _ (zbl n j c)
theorem wt (ha:yE w a xs)(hb:yE w b s)(v:s.length=xs.length)(hl:xs.length<=1000):Uh V 154 #[a,b] w λx B=>∃L,x=R L/\yE B L (List.zipWith (· || ·) xs s)/\ziE w B:=by
 obtain⟨X,ca,rfl,ak,ao,t⟩:=ha;obtain⟨gb,cb,rfl,al,ap,u⟩:=hb;have ae:=qP xs.length hl;have N:=ze t;have P:=ze u;have S:=ze (kY.made w xs.length);clear t u;go_enter func154,ntmps154;go_wp2_with fail;clear ae;have r:ziE w (w.alloc (Ub (madeCells #[C Z] xs.length) 4)):=(zf.refl _ _).alloc _;have au:w.heap.size<(w.alloc (Ub (madeCells #[C Z] xs.length) 4)).heap.size:=ov;have m:=ze r;clear r;generalize w.alloc (Ub (madeCells #[C Z] xs.length) 4)=W at *;generalize hG:w.heap.size=c at *;go_loopw[6] (λk wr=>∃n:Nat,k=M J n/\n<=xs.length/\H (zf (λg=>g=c) W wr)/\H (kY wr c ((List.zipWith (· || ·) xs s).take n++List.replicate (xs.length-n) Z))) (λk _=>xs.length-(intOf k).toNat);exact⟨0,rfl,oa,zf.refl _ _,by simpa using S⟩;obtain⟨n,rfl,hn,j,l⟩:=hrel;have o:zf (λg=>g=c) w wr:=(m.mono (λ_ _ f=>f.elim)).trans j;by_cases y:n<xs.length
 ·(have z:n<s.length:=oa;have d:(List.zipWith (· || ·) xs s).length=xs.length:=(by simp[v]);have c1:=zg o _ _ (zb N n xs[n] (zgE y)) (λe=>by have:X=c:=e;omega);have c2:=zg o _ _ (zb P n s[n] (zgE z)) (λe=>by have:gb=c:=e;omega);have F:(List.zipWith (· || ·) xs s)[n]?=I (xs[n] ||s[n]):=(by rw[List.getElem?_zipWith,zgE y,zgE z]);have af:H (((List.zipWith (· || ·) xs s).take n++List.replicate (xs.length-n) Z).set n (xs[n] ||s[n])=(List.zipWith (· || ·) xs s).take (n+1)++List.replicate (xs.length-(n+1)) Z):=by have T:((List.zipWith (· || ·) xs s).take n).length=n:=(by rw[zhy,d];omega);show _=_;rw[ziv _ _ oa,T,zhV,zht,F];rw[show xs.length-n=(xs.length-(n+1))+1 by omega,List.replicate_succ];simp);have h:=zb l;have am:wr.cell? ⟨c,n,U⟩=I (C Z):=h.c n Z (by
   rw[zg2 (by rw[zhy,d];omega),zhy,d,zhx,IN oa])
  have an:wr.frozen? ⟨c,n,U⟩=Z:=h.f n Z (by
   rw[zg2 (by rw[zhy,d];omega),zhy,d,zhx,IN oa])
  clear h F;generalize xs[n]=p at *;generalize s[n]=q at *;cases p
  all_goals
   go_wp2_with fail;go_roundw
   case rel=>exact⟨n+1,by go_num,oa,j.setCell (Q rfl) _,by rw[<-zb af];exact l.set n _⟩
   case measure=>simp[intOf];omega
 obtain rfl:n=xs.length:=oa;go_wp2_with fail;go_ret;have d:(List.zipWith (· || ·) xs s).length=xs.length:=(by simp[v]);have h:=zb l;rw[zhV,List.replicate_zero,zhc,zhs oa] at h;refine⟨_,rfl,?_,m.laterB j (λi hi=>oa)⟩;have:=h.row (by have:=j.size;omega) (cap:=xs.length) oa;rwa [d] at this
theorem zbm (v:yE w a xs)(y:yE w b s)(W:s.length=xs.length)(hl:xs.length<=1000):Uh V 184 #[a,b] w λx B=>x=R (C (decide (xs=s)))/\ziE w B:=by
 obtain⟨N,F,rfl,S,X,j⟩:=v;obtain⟨P,L,rfl,T,aa,l⟩:=y;have t:=ze j;have u:=ze l;clear j l;go_enter func184,ntmps184;go_wp2_with fail;go_loopw[5] (λk wr=>∃n q:Nat,k=M J n/\n<=xs.length/\wr=w.drewN q/\H (xs.take n=s.take n)) (λk _=>xs.length-(intOf k).toNat);exact⟨0,0,rfl,oa,rfl,rfl⟩;obtain⟨n,q,rfl,hn,rfl,h⟩:=hrel;by_cases m:n<xs.length
 ·(have o:n<s.length:=oa;have c1:=zb t n xs[n] (zgE m);have z:=zb u n s[n] (zgE o);have c:H (xs[n]≠s[n]->xs≠s):=λg e=>g (by subst e;rfl);have f:H (xs[n]=s[n]->xs.take (n+1)=s.take (n+1)):=λg=>by rw[zht,zht,zb h,zgE m,zgE o,g]);generalize xs[n]=p at *;generalize s[n]=r at *;cases p<;>cases r
  case' false.false=>have i:=ze (zb f rfl)
  case' true.true=>have i:=ze (zb f rfl)
  case' false.true=>have d:=ze (zb c od)
  case' true.false=>have d:=ze (zb c od)
  all_goals
   clear f c;go_wp2_with fail;go_quiet(fail);go_wp2_with fail
  all_goals (try go_ret)
  all_goals first
   |exact⟨⟨n+1,_,by go_num,oa,rfl,i⟩,by simp[intOf];omega⟩
   |exact⟨by rw[decide_eq_false d];rfl,(zf.refl _ _).drewN _⟩
   |exact⟨by rw[decide_eq_false d];rfl,((zf.refl _ _).drewN _).drewN _⟩
 obtain rfl:n=xs.length:=oa;go_wp2_with fail;go_ret;refine⟨?_,(zf.refl _ _).drewN _⟩;have e:=zb h;rw[zhs (zgH _),zhs oa] at e;rw[decide_eq_true e];rfl
set_option maxHeartbeats 4000000
namespace Ref
def Qu (t:Tok)(l:List (Int×Int))(i j:Nat):Prop:=(t.kind=2/\j=i/\asB t.c l i=G)\/(t.kind≠2/\i<l.length/\j=i+1/\Y6 t (j5 l i)=G)
def Img (X:Nat->Nat->Prop)(xs s:List Bool):Prop:=s.length=xs.length/\∀j,s[j]?=I G↔j<xs.length/\∃i,xs[i]?=I G/\X i j
def Ym (X:Nat->Nat->Prop)(xs:List Bool)(n:Nat)(s:List Bool):Prop:=s.length=xs.length/\∀j,s[j]?=I G↔j<xs.length/\∃i,i<n/\xs[i]?=I G/\X i j
theorem Ym.zero (X:Nat->Nat->Prop)(xs:List Bool):Ym X xs 0 (List.replicate xs.length Z):=by
 refine⟨ov,λj=>?_⟩;constructor
 grind
 rintro⟨_,i,h,_⟩;omega
theorem Ym.full {X:Nat->Nat->Prop}{xs s:List Bool}{n:Nat}(h:Ym X xs n s)(c:xs.length<=n):Img X xs s:=by
 refine⟨h.1,λj=>?_⟩;rw[h.2 j];constructor;rintro⟨a,i,_,b⟩;exact⟨a,i,b⟩
 grind
theorem Ym.skip {X:Nat->Nat->Prop}{xs s:List Bool}{n:Nat}(h:Ym X xs n s)(a:xs[n]?=I G->∀j,j<xs.length->¬X n j):Ym X xs (n+1) s:=by
 refine⟨h.1,λj=>?_⟩;rw[h.2 j];constructor
 grind
 grind
theorem Ym.step {X:Nat->Nat->Prop}{xs s:List Bool}{n m:Nat}{b v:Bool}(h:Ym X xs n s)(i:xs[n]?=I G)(c:m<xs.length)(g:∀j,X n j↔j=m/\b=G)(f:v=G↔s[m]?=I G\/b=G):Ym X xs (n+1) (s.set m v):=by
 refine⟨by rw[zhw];exact h.1,λj=>?_⟩;have d:m<s.length:=by rw[h.1];exact c
 by_cases e:m=j
 .subst e;rw[zh7 d];have a:(I v=I G)↔v=G:=by simp
  rw[a,f,h.2 m];constructor
  grind
  grind
 rw[zhP e,h.2 j];constructor
 grind
 grind
end Ref
theorem y7.keepB {P:Nat->Prop}{w B:E}{L:Y}{l:List (Int×Int)}(h:y7 w L l)(k:zf P w B)(d:∀{g},P g->¬g<w.heap.size):y7 B L l:=by rcases h with h|⟨g,cap,e,i,a,b⟩;exact Q h;exact O ⟨g,cap,e,i,zgJ a k.size,λj p c=>⟨zg k _ _ (b j p c).1 (λf=>d f a),zg k _ _ (b j p c).2 (λf=>d f a)⟩⟩
theorem Yl.keepB {P:Nat->Prop}{w B:E}{L:Y}{l:List Pt}(h:Yl w L l)(k:zf P w B)(b:∀{g},P g->¬g<w.heap.size):Yl B L l:=by rcases h with h|⟨g,cap,i,m,a,n⟩;exact Q h;refine O ⟨g,cap,i,m,zgJ a k.size,λj p o=>?_⟩;obtain⟨q,s,r,c,d,e⟩:=n j p o;exact⟨q,s,r,zg k _ _ c (λf=>b f a),zg k _ _ d (λf=>b f a),e.keepB k b⟩
theorem zdu (t:Tok)(tv cv fv:Y)(l:List (Int×Int))(xs:List Bool)(w:E)(ht:Yl w tv t.parts)(hc:y7 w cv l)(hx:yE w fv xs)(hl:l.length<=900)(aY:xs.length=l.length+1)(hp:t.parts.length<=1000)(hs:∀p∈t.parts,p.spans.length<=10):Uh V 185 #[tokV t tv,cv,fv] w λx B=>∃L s,x=R L/\yE B L s/\Img (Qu t l) xs s/\ziE w B:=by
 unfold tokV;have bm:xs.length<=l.length+1:=oa;have bn:l.length<xs.length:=oa;clear aY;obtain⟨gx,cx,rfl,bg,bh,aC⟩:=hx;obtain⟨m,q,o,rfl⟩:∃m q o,tv=K m q o:=by rcases ht with⟨z,_⟩|⟨g,cap,z,_⟩<;>exact⟨_,_,_,z⟩
 obtain⟨ca,cc,rfl⟩:=hc.len;have aU:=qP xs.length oa;have HX:=ze aC;have HT:=ze ht;have HC:=ze hc;have HS:=ze hs;have HM:=ze (kY.made (w.alloc (Ub #[M J t.kind,C t.neg,K m q o,M J t.c,M J t.mn,M J t.mx] 308)) xs.length);have aq:H (ziE w ((w.alloc (Ub #[M J t.kind,C t.neg,K m q o,M J t.c,M J t.mn,M J t.mx] 308)).alloc (Ub (madeCells #[C Z] xs.length) 4))):=((zf.refl _ _).alloc _).alloc _;have q0:∀(j:Nat) v,(#[M J t.kind,C t.neg,K m q o,M J t.c,M J t.mn,M J t.mx]:Array Y)[j]?=I v->((w.alloc (Ub #[M J t.kind,C t.neg,K m q o,M J t.c,M J t.mn,M J t.mx] 308)).alloc (Ub (madeCells #[C Z] xs.length) 4)).cell? ⟨w.heap.size,j,U⟩=I v:=λj v hj=>
  zg ((zf.refl (λ_=>False) _).alloc _) _ _ (zm w _ rfl _ _ j _ hj) id
 have P:=ze q0;clear aC ht hc hs q0;go_enter func185,ntmps185;go_wp2_with fail;clear aU;have bl:w.heap.size+1<((w.alloc (Ub #[M J t.kind,C t.neg,K m q o,M J t.c,M J t.mn,M J t.mx] 308)).alloc (Ub (madeCells #[C Z] xs.length) 4)).heap.size:=ov;have aB:(w.alloc (Ub #[M J t.kind,C t.neg,K m q o,M J t.c,M J t.mn,M J t.mx] 308)).heap.size=w.heap.size+1:=ov;rw[aB] at HM;clear aB;generalize (w.alloc (Ub #[M J t.kind,C t.neg,K m q o,M J t.c,M J t.mn,M J t.mx] 308)).alloc (Ub (madeCells #[C Z] xs.length) 4)=W at *;go_loopw[8] (λk wr=>∃(n:Nat) (s:List Bool),k=M J n/\n<=xs.length/\H (zf (λg=>g=w.heap.size+1) W wr)/\H (kY wr (w.heap.size+1) s)/\H (Ym (Qu t l) xs n s)) (λk _=>xs.length-(intOf k).toNat);exact⟨0,List.replicate xs.length Z,rfl,oa,zf.refl _ _,HM,Ym.zero _ _⟩;obtain⟨n,s,rfl,hn,r,X,y⟩:=hrel;have hK:zf (λg=>g=w.heap.size+1) w wr:=(aq.mono (λ_ _ f=>f.elim)).trans r;have aZ:=y.1;by_cases ak:n<xs.length
 .have c1:=zg hK _ _ (zb HX n xs[n] (zgE ak)) (λe=>by have:gx=w.heap.size+1:=e;omega);have k0:=zg r _ _ (zb P 0 _ rfl) (λe=>by have:w.heap.size=w.heap.size+1:=e;omega);have k1:=zg r _ _ (zb P 1 _ rfl) (λe=>by have:w.heap.size=w.heap.size+1:=e;omega);have k2:=zg r _ _ (zb P 2 _ rfl) (λe=>by have:w.heap.size=w.heap.size+1:=e;omega);have k3:=zg r _ _ (zb P 3 _ rfl) (λe=>by have:w.heap.size=w.heap.size+1:=e;omega);have k4:=zg r _ _ (zb P 4 _ rfl) (λe=>by have:w.heap.size=w.heap.size+1:=e;omega);have k5:=zg r _ _ (zb P 5 _ rfl) (λe=>by have:w.heap.size=w.heap.size+1:=e;omega);have T:xs[n]?=I xs[n]:=zgE ak;cases hb:xs[n]
  .rw[hb] at c1;have ah:=ze (y.skip (λe=>by rw[T,hb] at e;cases e));clear T hb;go_wp2_with fail;go_roundw
   .exact⟨n+1,s,by go_num,oa,r,X,ah⟩
   simp[intOf];omega
  rw[hb] at c1 T;clear hb;have hG:∀a,ziE wr a->zf (λg=>g=w.heap.size+1) W a:=λa d=>r.trans (d.mono (λ_ _ f=>f.elim));have HG:=ze hG;have N:H (∀a,ziE wr a->kY a (w.heap.size+1) s):=λa d=>X.keep d id;clear hG;by_cases u:t.kind=2
  .have aT:(t.kind == 2)=G:=(by simp[u]);have hX:H (∀j,Qu t l n j↔j=n/\asB t.c l n=G):=λj=>by
    unfold Qu;constructor
    grind
    rintro⟨z,d⟩;exact Q ⟨u,z,d⟩
   (have a0:H (¬s[n]?=I G):=λe=>by obtain⟨_,i,z,d,h3⟩:=(y.2 n).1 e;rcases h3 with⟨_,h4,_⟩|⟨h4,_⟩;omega;exact absurd u h4);clear u;have af:n<s.length:=oa;have HF:H (∀a,ziE wr a->a.cell? ⟨w.heap.size+1,n,U⟩=I (C s[n])/\a.frozen? ⟨w.heap.size+1,n,U⟩=Z):=λa d=>⟨(zb N a d).c n _ (zgE af),(zb N a d).f n _ (zgE af)⟩
   go_wp2_with(go_at_call 219;refine(W7 t.c _ l n _ (HC.keepB hK (λe=>oa)) oa oa).mono ?_;rintro e a ⟨rfl,F⟩;obtain⟨z1,z2⟩:=zb HF a F;have S:=ze F;clear F);go_roundw
   .exact⟨n+1,s.set n (asB t.c l n),by go_num,oa,(zb HG _ S).setCell (Q rfl) _,(zb N _ S).set n _,y.step T ak hX ⟨λh=>O h,λh=>h.elim (λh=>absurd h a0) (λh=>h)⟩⟩
   simp[intOf];omega
  have aT:(t.kind == 2)=Z:=(by simp[u]);by_cases al:n<l.length
  .obtain⟨g',bc,ad,aQ,aR⟩:=(HC.keepB hK (λe=>oa)).at al;have aP:ca=I ⟨g',0,U⟩:=(by simp at ad;exact ad.1);have bf:l.length<=cc:=(by simp at ad;omega);subst aP;clear ad aQ;have hX:H (∀j,Qu t l n j↔j=n+1/\Y6 t (j5 l n)=G):=λj=>by
    unfold Qu;constructor
    grind
    rintro⟨z,d⟩;exact O ⟨u,al,z,d⟩
   clear u;have af:n+1<s.length:=oa;have ae:s[n+1]?=I s[n+1]:=zgE af;have HF:H (∀a,ziE wr a->a.cell? ⟨w.heap.size+1,n+1,U⟩=I (C s[n+1])/\a.frozen? ⟨w.heap.size+1,n+1,U⟩=Z):=λa d=>⟨(zb N a d).c (n+1) _ ae,(zb N a d).f (n+1) _ ae⟩
   have HV:H (∀b:Bool,((s[n+1] ||b)=G↔s[n+1]?=I G\/b=G)):=λb=>(by rw[ae];simp);have HZ:H (∀W',ziE wr W'->Uh V 220 #[Uf #[M J t.kind,C t.neg,K m q o,M J t.c,M J t.mn,M J t.mx],M J (j5 l n)] W' λx B=>x=R (C (Y6 t (j5 l n)))/\ziE wr B/\
     B.cell? ⟨w.heap.size,0,U⟩=I (M J t.kind)/\B.cell? ⟨w.heap.size,1,U⟩=I (C t.neg)/\B.cell? ⟨w.heap.size,2,U⟩=I (K m q o)/\B.cell? ⟨w.heap.size,3,U⟩=I (M J t.c)/\B.cell? ⟨w.heap.size,4,U⟩=I (M J t.mn)/\B.cell? ⟨w.heap.size,5,U⟩=I (M J t.mx)/\B.cell? ⟨g',n*2,U⟩=I (M J (j5 l n))):=λW' az=>
    (zfD t (K m q o) (j5 l n) W' ((HT.keepB hK (λe=>oa)).keep az) hp HS).mono (by
     rintro e B ⟨rfl,hO⟩;have k:=az.trans hO;exact⟨rfl,k,zg k _ _ k0 id,zg k _ _ k1 id,zg k _ _ k2 id,zg k _ _ k3 id,zg k _ _ k4 id,zg k _ _ k5 id,zg k _ _ aR id⟩)
   generalize s[n+1]=y1 at *;clear ae;go_wp2_with fail;go_region_held3(λB=>B.cell? ⟨w.heap.size,0,U⟩=I (M J t.kind)/\B.cell? ⟨w.heap.size,1,U⟩=I (C t.neg)/\B.cell? ⟨w.heap.size,2,U⟩=I (K m q o)/\B.cell? ⟨w.heap.size,3,U⟩=I (M J t.c)/\B.cell? ⟨w.heap.size,4,U⟩=I (M J t.mn)/\B.cell? ⟨w.heap.size,5,U⟩=I (M J t.mx)/\B.cell? ⟨g',n*2,U⟩=I (M J (j5 l n))) (go_keep)
    (first|(go_at_call 220;refine(zb HZ _ ((zf.refl _ _).drewN _)).mono ?_;rintro e a ⟨rfl,F,z0,z1,z2,z3,z4,z5,z6⟩))
   obtain⟨y2,y3⟩:=zb HF a F;have S:=ze F;clear F z0 z1 z2 z3 z4 z5 z6;have aW:=ze (y.step (v:=y1 ||Y6 t (j5 l n)) T oa hX (zb HV _));clear hX HV HZ;generalize Y6 t (j5 l n)=tk at *;cases y1
   all_goals
    go_wp2_with fail;go_roundw
    case rel=>exact⟨n+1,_,by go_num,oa,(zb HG _ S).setCell (Q rfl) _,(zb N _ S).set (n+1) _,aW⟩
    case measure=>simp[intOf];omega
  have ah:=ze (y.skip (λ_ j _ h=>by
   rcases h with⟨h,_⟩|⟨_,h,_⟩;exact u h;exact al h))
  clear u;go_wp2_with fail;go_roundw
  .exact⟨n+1,s,by go_num,oa,r,X,ah⟩
  simp[intOf];omega
 go_wp2_with fail;go_ret;have:=X.row (by have:=r.size;omega) (cap:=xs.length) oa;rw[aZ] at this;exact⟨_,s,rfl,this,y.full oa,aq.laterB r (λi hi=>oa)⟩
namespace Sm
variable {lf:Tree->Nat->Prop} {ah:Int->Nat->Prop}
theorem pow_le {R:Nat->Nat->Prop}(h:∀i j,R i j->i<=j):∀(k i j:Nat),pow R k i j->i<=j
 |0,i,j,e=>by rw[show i=j from e];exact zgH _
 |k+1,i,j,⟨m,a,b⟩=>zgN (h i m a) (pow_le h k m j b)
theorem zbn {X:Tree->Nat->Nat->Prop}:∀(a:List Tree),(∀t∈a,∀i j,X t i j->i<=j)->∀i j,kN X a i j->i<=j
 | [],_,i,j,e=>by rw[show i=j from e];exact zgH _
 |t :: a,h,i,j,⟨m,b,c⟩=>zgN (h t ov i m b) (zbn a (λu d=>h u (by simp[d])) m j c)
theorem M_le:∀(f:Nat) (T:Tree) (i j:Nat),M lf ah f T i j->i<=j
 |0,_,_,_,h=>h.elim
 |f+1,T,i,j,h=>by
  unfold M at h;split at h;rw[h.1];exact zgH _;split at h;obtain⟨t,_,h⟩:=h;exact M_le f t i j h;split at h;exact zbn _ (λt _=>M_le f t) i j h;split at h;obtain⟨k,_,_,h⟩:=h;exact pow_le (M_le f _) k i j h;omega
end Sm
namespace Ref
theorem Img.congr {X Y:Nat->Nat->Prop}{xs s:List Bool}(h:Img X xs s)(e:∀i j,X i j↔Y i j):Img Y xs s:=
 ⟨h.1,λj=>by rw[h.2 j];constructor<;>rintro⟨b,i,c,a⟩<;>exact⟨b,i,c,by first|exact(e i j).1 a|exact(e i j).2 a⟩⟩
theorem Img.id:Img (λi j=>i=j) xs xs:=⟨rfl,λj=>by
 constructor;intro h;exact⟨(zgG.1 h).1,j,h,rfl⟩;rintro⟨_,i,h,rfl⟩;exact h⟩
theorem Img.comp {X R:Nat->Nat->Prop}{xs s zs:List Bool}(h:Img X xs s)(g:Img R s zs)(f:∀i j,R i j->i<=j):Img (λi j=>∃m,X i m/\R m j) xs zs:=by refine⟨g.1.trans h.1,λj=>?_⟩;rw[g.2 j,h.1];constructor;rintro⟨b,p,e,a⟩;obtain⟨_,i,c,d⟩:=(h.2 p).1 e;exact⟨b,i,c,p,d,a⟩;rintro⟨b,i,c,p,d,a⟩;exact⟨b,p,(h.2 p).2 ⟨by have:=f p j a;omega,i,c,d⟩,a⟩
variable {s}
theorem or_get (b:zs.length=s.length)(j:Nat):(List.zipWith (· || ·) s zs)[j]?=I G↔s[j]?=I G\/zs[j]?=I G:=by by_cases a:j<s.length;rw[List.getElem?_zipWith,zgE a,zgE oa];simp;rw[zhv ou,zhv oa,zhv oa];simp
theorem Img.or {X Y:Nat->Nat->Prop}{xs s zs:List Bool}(h:Img X xs s)(g:Img Y xs zs):Img (λi j=>X i j\/Y i j) xs (List.zipWith (· || ·) s zs):=by refine⟨by rw[List.length_zipWith,h.1,g.1];omega,λj=>?_⟩;rw[or_get (g.1.trans h.1.symm),h.2 j,g.2 j];constructor;rintro(⟨b,i,c,a⟩|⟨b,i,c,a⟩);exact⟨b,i,c,Q a⟩;exact⟨b,i,c,O a⟩;rintro⟨b,i,c,a|a⟩;exact Q ⟨b,i,c,a⟩;exact O ⟨b,i,c,a⟩
theorem Img.none:Img (λ_ _=>False) xs (List.replicate xs.length Z):=⟨ov,λj=>by
 constructor;intro h;rw[zhx] at h;split at h<;>simp at h;rintro⟨_,_,_,h⟩;exact h.elim⟩
theorem Img.still {R:Nat->Nat->Prop}{xs s:List Bool}{k:Nat}(c:∀i j,R i j->i<=j)(h:Img (pow R k) xs s)(g:Img R s s):∀m,Img (pow R (k+m)) xs s
 |0=>h
 |m+1=>((Img.still c h g m).comp g c).congr (λi j=>by
   rw[<-zih,jx R (k+m) 1 i j];constructor;rintro⟨p,a,b⟩;exact⟨p,a,j,b,rfl⟩;rintro⟨p,a,q,b,rfl⟩;exact⟨p,a,b⟩)
theorem Img.pow_succ {R:Nat->Nat->Prop}{xs s zs:List Bool}{k:Nat}(c:∀i j,R i j->i<=j)(h:Img (pow R k) xs s)(g:Img R s zs):Img (pow R (k+1)) xs zs:=
 (h.comp g c).congr (λi j=>by
  rw[jx R k 1 i j];constructor;rintro⟨p,a,b⟩;exact⟨p,a,j,b,rfl⟩;rintro⟨p,a,q,b,rfl⟩;exact⟨p,a,b⟩)
def span (R:Nat->Nat->Prop)(a b i j:Nat):Prop:=∃k,a<=k/\k<=b/\pow R k i j
theorem Img.span_self {R:Nat->Nat->Prop}{xs s:List Bool}{a:Nat}(h:Img (pow R a) xs s):Img (span R a a) xs s:=
 h.congr (λi j=>⟨λh=>⟨a,zgH _,zgH _,h⟩,λh=>by
  obtain⟨k,c,d,b⟩:=h;obtain rfl:k=a:=oa;exact b⟩)
theorem Img.span_succ {R:Nat->Nat->Prop}{xs s zs:List Bool}{a b:Nat}(n:a<=b)(m:∀i j,R i j->i<=j)(h:Img (span R a b) xs s)(g:Img R s zs):Img (span R a (b+1)) xs (List.zipWith (· || ·) s zs):=
 (h.or (h.comp g m)).congr (λi j=>by
  constructor;rintro(⟨k,d,f,c⟩|⟨p,⟨k,d,f,c⟩,e⟩);exact⟨k,d,oa,c⟩;exact⟨k+1,oa,oa,(jx R k 1 i j).2 ⟨p,c,j,e,rfl⟩⟩;rintro⟨k,d,f,c⟩;by_cases o:k<=b;exact Q ⟨k,d,o,c⟩;obtain rfl:k=b+1:=oa;obtain⟨p,e,q,l,rfl⟩:=(jx R b 1 i j).1 c;exact O ⟨p,⟨b,n,zgH _,e⟩,l⟩)
theorem Img.closed {R:Nat->Nat->Prop}{xs s zs:List Bool}{a b:Nat}(x:a<=b)(t:∀i j,R i j->i<=j)(h:Img (span R a b) xs s)(g:Img R s zs)(e:List.zipWith (· || ·) s zs=s):Img (λi j=>∃k,a<=k/\pow R k i j) xs s:=by
 have v:∀j,zs[j]?=I G->s[j]?=I G:=λj n=>by rw[<-e];exact(or_get g.1 j).2 (O n)
 refine⟨h.1,λj=>?_⟩;constructor;intro n;obtain⟨f,i,l,k,m,_,c⟩:=(h.2 j).1 n;exact⟨f,i,l,k,m,c⟩;rintro⟨f,i,l,k,m,c⟩;obtain⟨d,rfl⟩:∃d,k=a+d:=⟨k-a,oa⟩
 clear m
 induction d generalizing j with
 |zero=>exact(h.2 j).2 ⟨f,i,l,a,zgH _,oa,c⟩
 |succ d w=>
  rw[<-zih] at c;obtain⟨p,r,q,o,rfl⟩:=(jx R (a+d) 1 i j).1 c;have u:=w p (by have:=t p q o;omega) r;exact v q ((g.2 q).2 ⟨by rw[h.1];exact f,p,u,o⟩)
def JA (l:List Bool):Nat:=l.countP (λb=>!b)
theorem lacks_le (a:zs.length=s.length):JA (List.zipWith (· || ·) s zs)<=JA s/\(List.zipWith (· || ·) s zs≠s->JA (List.zipWith (· || ·) s zs)<JA s):=by
 induction s generalizing zs with
 |nil=>simp[JA]
 |cons y s d=>
  cases zs with
  |nil=>simp at a
  |cons z zs=>
   obtain⟨c,b⟩:=d (zs:=zs) (by simpa using a);unfold JA at *;cases y<;>cases z<;>simp at *<;>first|(refine⟨oa,λh=>?_⟩;have:=b h;omega)|omega|exact⟨c,b⟩
end Ref
def lackN (w:E)(v:Y):Nat:=match v with
 | K (I a) n _=>((List.range n).filter λj=>match w.cell? ⟨a.block,j,U⟩ with|some (C G)=>Z|_=>G).length
 |_=>0
theorem yE.lackN {w:E}{L:Y}{bs:List Bool}(h:yE w L bs):lackN w L=JA bs:=by
 obtain⟨g,cap,rfl,_,_,a⟩:=h;unfold Go.Proofs.YtcgleficedipkaaGreatDoor.lackN JA;simp only[];have key:∀(k:Nat),k<=bs.length->((List.range k).filter λj=>match w.cell? ⟨g,j,U⟩ with|some (C G)=>Z|_=>G).length=(bs.take k).countP (λb=>!b):=by
  intro k
  induction k with
  |zero=>intro _;simp
  |succ k c=>
   intro d;rw[List.range_succ,List.filter_append,zgK,c oa,zht,zgE oa,List.countP_append];congr 1;have:=a k bs[k] (zgE oa);cases hb:bs[k];rw[hb] at this;simp[this];rw[hb] at this;simp[this]
 rw[key bs.length (zgH _),zhs (zgH _)]
open Sm (Tree)
def qQ (w:E)(g off:Nat)(l:List Tok):Prop:=∀(j:Nat) (t:Tok),l[j]?=I t->∃a c b,
 (w.cell? ⟨g,off+j*6,U⟩=I (M J t.kind)/\w.cell? ⟨g,off+j*6+1,U⟩=I (C t.neg)/\w.cell? ⟨g,off+j*6+2,U⟩=I (K a c b)/\
 w.cell? ⟨g,off+j*6+3,U⟩=I (M J t.c)/\w.cell? ⟨g,off+j*6+4,U⟩=I (M J t.mn)/\w.cell? ⟨g,off+j*6+5,U⟩=I (M J t.mx))/\Yl w (K a c b) t.parts
variable {w}
theorem qQ.row {l:List Tok}(h:qQ w g off l):jL w g off l:=λj t b=>by obtain⟨c,e,d,a,_⟩:=h j t b;exact⟨c,e,d,a⟩
theorem qQ.only {l:List Tok}(h:qQ w g off l)(k:ziE w B):qQ B g off l:=λj t a=>by obtain⟨c,e,d,⟨i,m,n,o,p,q⟩,b⟩:=h j t a;exact⟨c,e,d,⟨zg k _ _ i id,zg k _ _ m id,zg k _ _ n id,zg k _ _ o id,zg k _ _ p id,zg k _ _ q id⟩,b.keep k⟩
theorem qQ.sub {l:List Tok}(h:qQ w g off l)(i m:Nat):qQ w g (off+i*6) ((l.drop i).take m):=by
 intro j t a;rw[zir] at a;split at a
 .rw[zhI] at a;obtain⟨d,k,f,b,c⟩:=h (i+j) t a;have e:off+i*6+j*6=off+(i+j)*6:=by omega
  rw[e];exact⟨d,k,f,b,c⟩
 cases a
namespace Ref
def lfT (l:List (Int×Int))(T:Tree)(i:Nat):Prop:=i<l.length/\tkTree T (j5 l i)=G
def ahT (l:List (Int×Int))(a:Int)(i:Nat):Prop:=asB (Q2 a) l i=G
def MM (l:List (Int×Int))(f:Nat)(T:Tree)(i j:Nat):Prop:=Sm.M (lfT l) (ahT l) f T i j
def altR (l:List (Int×Int))(f:Nat)(kids:List Tree)(i j:Nat):Prop:=∃t∈kids,MM l (f+1) t i j
theorem MM_le (f:Nat)(T:Tree)(i j:Nat)(h:MM l f T i j):i<=j:=M_le f T i j h
end Ref
structure Ctx (w:E)(cv fv:Y)(l:List (Int×Int))(xs:List Bool):Prop where
 c:y7 w cv l
 f:yE w fv xs
 hl:l.length<=900
 hx:xs.length=l.length+1
def YH (w:E)(xs:List Bool)(X:Nat->Nat->Prop)(x:Ending)(B:E):Prop:=∃L s,x=R L/\yE B L s/\Img X xs s/\ziE w B
def zbo (f:Nat):Prop:=∀(F g off cap:Nat) (a:List Tok) (T:Tree) (b c:Y) (l:List (Int×Int)) (xs:List Bool) (w:E),3*f<=F->qL f a T->T.kind≠7->qQ w g off a->a.length<=1000->a.length<=cap->Ctx w b c l xs->
 Uh V 156 #[K (I ⟨g,off,U⟩) a.length cap,b,c] w (YH w xs (MM l F T))
def ThrOK (f:Nat):Prop:=∀(F g off cap:Nat) (a:List Tok) (kids:List Tree) (b c:Y) (l:List (Int×Int)) (xs:List Bool) (w:E),3*f+1<=F->wK (qL f) a kids->(∀t∈a,kJ t)->qQ w g off a->a.length<=1000->a.length<=cap->Ctx w b c l xs->
 Uh V 111 #[K (I ⟨g,off,U⟩) a.length cap,b,c] w (YH w xs (altR l F kids))
theorem zbp:zbo 0:=λ_ _ _ _ _ _ _ _ _ _ _ _ h=>h.elim
theorem VZ {t:Tok}{T:Tree}{c d:Y}{l:List (Int×Int)}{xs:List Bool}{w:E}(a:t.kind≠3)(m:∀i j,Qu t l i j↔MM l F T i j)(n:t.parts.length<=1000)(q:∀p∈t.parts,p.spans.length<=10)(h:qQ w g off [t])(b:Ctx w c d l xs):Uh V 156 #[K (I ⟨g,off,U⟩) 1 cap,c,d] w (YH w xs (MM l F T)):=by
 obtain⟨r,v,u,⟨S,W,X,z3,z4,z5⟩,o⟩:=h 0 t rfl;simp only[zia,zhl] at S W X z3 z4 z5;have ad:(t.kind == 3)=Z:=by simp[a]
 have N:H (Uh V 185 #[Uf #[M J t.kind,C t.neg,K r v u,M J t.c,M J t.mn,M J t.mx],c,d] w (YH w xs (MM l F T))):=
  (zdu t (K r v u) c d l xs w o b.c b.f b.hl b.hx n q).mono (by
   rintro e B ⟨L,s,P,f,a,k⟩;exact⟨L,s,P,f,a.congr m,k⟩)
 clear m n q h b a o;go_enter func156,ntmps156;go_wp2_with(go_at_call 185;refine N.mono ?_;rintro e B ⟨L,s,rfl,f,a,k⟩;have x:=ze f;have y:=ze a;have z:=ze k;clear f a k);go_ret;exact⟨L,s,rfl,x,y,z⟩
theorem zfE {a b:List Tok}{o c:Tok}{T:Tree}{d k:Y}{l:List (Int×Int)}{xs:List Bool}{w:E}(x:ThrOK f)(hF:3*f+1<=F)(h5:T.kind=5)(q:a=o :: b++[c])(y:o.kind=3)(N:wK (qL f) b T.kids)(u:∀t∈b,kJ t)(h:qQ w g off a)(hl:a.length<=1000)(hc:a.length<=cap)(v:Ctx w d k l xs):Uh V 156 #[K (I ⟨g,off,U⟩) a.length cap,d,k] w (YH w xs (MM l (F+2) T)):=by
 have ag:a.length=b.length+2:=by rw[q];simp
 have r:zT a 0=3:=by rw[q];exact y
 have z0:w.cell? ⟨g,off,U⟩=I (M J 3):=by have:=h.row.kind 0 oa;rw[r,zia,zhl] at this;exact this
 have z:qQ w g (off+6) b:=by
  have:=h.sub 1 b.length;have e:(a.drop 1).take b.length=b:=by rw[q];simp
  rw[e] at this;exact this
 have X:=ze (Wk g off cap a w h.row hl hc oa r);have HS:H (Uh V 111 #[K (I ⟨g,off+6,U⟩) (a.length-2) (cap-1),d,k] w (YH w xs (MM l (F+2) T))):=by
  have e:a.length-2=b.length:=oa;rw[e];exact(x F g (off+6) (cap-1) b T.kids d k l xs w hF N u z oa oa v).mono (by
   rintro e B ⟨L,s,h1,m,n,p⟩;refine⟨L,s,h1,m,n.congr (λi j=>?_),p⟩;unfold MM;show _↔Sm.M _ _ ((F+1)+1) T i j;unfold Sm.M;rw[iN oa,IN h5];rfl)
 have ah:2<=a.length:=oa;clear x N h z v r q ag y u;go_enter func156,ntmps156;go_wp2_with(first
  |(go_at_call 149;refine ziD X ?_)
  |(go_at_call 111;refine HS.mono ?_;rintro e B ⟨L,s,rfl,m,n,p⟩;have P:=ze m;have S:=ze n;have W:=ze p;clear m n p))
 go_ret;exact⟨L,s,rfl,P,S,W⟩
theorem zbq (f:Nat)(v:ThrOK f):zbo (f+1):=by
 intro F g off cap ts T cv fv l xs w hF s r h z x a;obtain⟨F,rfl⟩:∃k,F=k+2:=⟨F-2,oa⟩
 rcases s with⟨W,a0,a3,t,rfl,d,N,P⟩|⟨t,rfl,d,⟨ag,ah⟩,ai,b,L⟩|⟨q,o,c,us,y,B,af,u,S⟩|⟨X,_⟩
 .have e:t.parts.length<=1000/\∀p∈t.parts,p.spans.length<=10:=by rw[P];exact⟨ov,λp b=>by cases b⟩
  refine VZ oa (λi j=>?_) e.1 e.2 h a;unfold MM;show _↔Sm.M _ _ ((F+1)+1) T i j;unfold Sm.M Qu ahT;rw[IN W,N];constructor
  grind
  rintro⟨m,n⟩;exact Q ⟨d,m.symm,n⟩
 .refine VZ oa (λi j=>?_) b L h a;unfold MM;show _↔Sm.M _ _ ((F+1)+1) T i j;unfold Sm.M Qu lfT;rw[iN oa,iN oa,iN oa,iN oa];constructor
  grind
  grind
 exact zfE v oa q y B S u.2 h z x a;exact absurd X r
def OneIs (g off:Nat)(c:List Tok)(cap:Nat)(b:Y)(l:List (Int×Int))(R:Nat->Nat->Prop)(w:E):Prop:=∀(a:Y) (xs:List Bool) (B:E),ziE w B->yE B a xs->xs.length=l.length+1->
 Uh V 156 #[K (I ⟨g,off,U⟩) c.length cap,b,a] B (YH B xs R)
theorem many_any {us:List Tok}{q:Tok}{qv cv fv:Y}{l:List (Int×Int)}{xs:List Bool}{R:Nat->Nat->Prop}{w:E}(hO:OneIs g off us cap cv l R w)(hR:∀i j,R i j->i<=j)(hx:yE w fv xs)(hl:l.length<=900)(aG:xs.length=l.length+1)(h0:0<=q.mn) (h1:q.mn<=100) (h2:-1<=q.mx) (h3:q.mx<=100) (h4:q.mx = -1\/q.mn<=q.mx):Uh V 155 #[K (I ⟨g,off,U⟩) us.length cap,Uf #[M J q.kind,C q.neg,qv,M J q.c,M J q.mn,M J q.mx],cv,fv] w (YH w xs (λi j=>∃k:Nat,q.mn<=k/\(q.mx = -1\/(k:Int)<=q.mx)/\pow R k i j)):=by
 obtain⟨qk,qn,qp,qc,a,p⟩:=q;simp only[] at *;obtain⟨a,rfl⟩:∃m:Nat,a=(m:Int):=⟨a.toNat,oa⟩
 have HO:=ze hO;have HR:=ze hR;have HX:=ze hx;have aa:=ze aG;have H4:=ze h4;have aA:ziE w (w.alloc (Ub #[M J qk,C qn,qv,M J qc,M J a,M J p] 308)):=(zf.refl _ _).alloc _;have c4:(w.alloc (Ub #[M J qk,C qn,qv,M J qc,M J a,M J p] 308)).cell? ⟨w.heap.size,4,U⟩=I (M J a):=zm w _ rfl _ _ 4 _ rfl;have c5:(w.alloc (Ub #[M J qk,C qn,qv,M J qc,M J a,M J p] 308)).cell? ⟨w.heap.size,5,U⟩=I (M J p):=zm w _ rfl _ _ 5 _ rfl;have X:=ze aA;have C4:=ze c4;have C5:=ze c5;clear hO hR hx aG h4 aA c4 c5;go_enter func155,ntmps155;go_upto_block 0 with fail;generalize w.alloc (Ub #[M J qk,C qn,qv,M J qc,M J a,M J p] 308)=W at *;go_cut[9] (λz wx=>∃s,H (yE wx z s)/\H (Img (pow R a) xs s)/\H (ziE W wx))
 case first=>
  go_wp2_with fail;go_loopw[9,10] (λz k wr=>∃(n:Nat) (s:List Bool),k=M J n/\n<=a/\H (yE wr z s)/\H (Img (pow R n) xs s)/\H (ziE W wr)) (λ_ k _=>a-(intOf k).toNat);exact⟨0,xs,rfl,oa,HX.keep X,Img.id xs,zf.refl _ _⟩;obtain⟨n,s,rfl,hn,c,o,d⟩:=hrel;have k4:=zg d _ _ C4 id;have aH:s.length<=901:=(by have:=o.1;have:=zb aa;omega);obtain⟨x,y,v,T⟩:∃x y v,u9=K x y v:=(by obtain⟨g1,c1,h,_⟩:=zb c;exact⟨_,_,_,h⟩);subst T;have HC:=ze (zb HO _ s wr (X.trans d) c (o.1.trans aa));by_cases aR:n<a
  .go_wp2_with(first
    |(go_at_call 156;refine HC.mono ?_;rintro e w2 ⟨L,zs,rfl,N,P,B⟩;have S:=ze N;have r:=ze P;have t:=ze B;clear N P B)
    |(go_at_call 184;refine(zbm _ _ zs s _ S (c.keep t) r.1.symm (by have:=r.1;omega)).mono ?_;rintro e w3 ⟨rfl,F⟩;have u:=ze F;clear F))
   .go_meet
    case rel=>
     have ab:zs=s:=(by first|assumption|simp_all);have aE:=o.still HR (by have:=zb r;rw[ab] at this;exact this) (a-n);rw[show n+(a-n)=a by omega] at aE;exact⟨s,by have:=S.keep u;rw[ab] at this;exact this,aE,(d.trans t).trans u⟩
   exact⟨⟨n+1,zs,by go_num,oa,S.keep u,o.pow_succ HR r,(d.trans t).trans u⟩,by simp[intOf];omega⟩
  obtain rfl:n=a:=oa;go_wp2_with fail;go_meet
  case rel=>exact⟨s,c,o,d⟩
 case rest=>
  obtain⟨s,c,o,d⟩:=hcut;have k4:=zg d _ _ C4 id;have k5:=zg d _ _ C5 id;obtain⟨x,y,v,T⟩:∃x y v,u9=K x y v:=by obtain⟨g1,c1,h,_⟩:=zb c;exact⟨_,_,_,h⟩
  subst T;by_cases a1:p<0
  .have aT:H (p = -1):=(by show p = -1;omega);go_wp2_with fail;go_loopw[9] (λz wr=>∃(m:Nat) (s:List Bool),H (yE wr z s)/\H (Img (Ref.span R a (a+m)) xs s)/\H (ziE W wr)) (λz wr=>lackN wr z);exact⟨0,s,c,o.span_self,d⟩;obtain⟨m,s,c,o,d⟩:=hrel;have aH:s.length<=901:=(by have:=o.1;have:=zb aa;omega);have aD:=c.lackN;obtain⟨x,y,v,T⟩:∃x y v,u9=K x y v:=(by obtain⟨g1,c1,h,_⟩:=zb c;exact⟨_,_,_,h⟩);subst T;have HC:=ze (zb HO _ s wr (X.trans d) c (o.1.trans aa));have HL:=ze aD;clear aD;go_wp2_with(first
    |(go_at_call 156;refine HC.mono ?_;rintro e w2 ⟨L,zs,rfl,N,P,B⟩;have S:=ze N;have r:=ze P;have t:=ze B;clear N P B)
    |(go_at_call 154;refine(wt _ _ s zs _ (c.keep t) S r.1 oa).mono ?_;rintro e w3 ⟨aS,rfl,ag,F⟩;have ac:=ze ag;have u:=ze F;clear ag F)
    |(go_at_call 184;refine(zbm _ _ _ s _ ac ((c.keep t).keep u) (by rw[List.length_zipWith,(zb r).1];omega) (by rw[List.length_zipWith,(zb r).1];omega)).mono ?_;rintro e w4 ⟨rfl,aB⟩;have ae:=ze aB;clear aB))
   .go_ret;have ab:List.zipWith (· || ·) s zs=s:=(by first|assumption|simp_all);refine⟨_,s,rfl,((c.keep t).keep u).keep ae,(o.closed oa HR r ab).congr (λi j=>?_),(((X.trans d).trans t).trans u).trans ae⟩;constructor
    grind
    rintro⟨k,e1,_,e2⟩;exact⟨k,oa,e2⟩
   have ab:List.zipWith (· || ·) s zs≠s:=(by first|assumption|simp_all);refine⟨⟨m+1,_,ac.keep ae,o.span_succ (b:=a+m) oa HR r,((d.trans t).trans u).trans ae⟩,?_⟩;rw[zb HL,(ac.keep ae).lackN];exact(lacks_le r.1).2 ab
  have aZ:(a:Int)<=p:=(by rcases(zb H4) with h|h;omega;exact h);obtain⟨p,rfl⟩:∃m:Nat,p=(m:Int):=⟨p.toNat,oa⟩
  have a0:a<=p:=oa;go_wp2_with fail;go_loopw[9,15] (λz k wr=>∃(n:Nat) (s:List Bool),k=M J n/\a<=n/\n<=p/\H (yE wr z s)/\H (Img (Ref.span R a n) xs s)/\H (ziE W wr)) (λ_ k _=>p-(intOf k).toNat);exact⟨a,s,rfl,oa,oa,c,o.span_self,d⟩;clear k4 k5;obtain⟨n,s,rfl,a3,a4,c,o,d⟩:=hrel;have k5:=zg d _ _ C5 id;have aH:s.length<=901:=(by have:=o.1;have:=zb aa;omega);obtain⟨x,y,v,T⟩:∃x y v,u9=K x y v:=(by obtain⟨g1,c1,h,_⟩:=zb c;exact⟨_,_,_,h⟩);subst T;have HC:=ze (zb HO _ s wr (X.trans d) c (o.1.trans aa));by_cases aR:n<p
  .go_wp2_with(first
    |(go_at_call 156;refine HC.mono ?_;rintro e w2 ⟨L,zs,rfl,N,P,B⟩;have S:=ze N;have r:=ze P;have t:=ze B;clear N P B)
    |(go_at_call 154;refine(wt _ _ s zs _ (c.keep t) S r.1 oa).mono ?_;rintro e w3 ⟨aS,rfl,ag,F⟩;have ac:=ze ag;have u:=ze F;clear ag F))
   exact⟨⟨n+1,_,by go_num,oa,oa,ac,o.span_succ oa HR r,(d.trans t).trans u⟩,by simp[intOf];omega⟩
  obtain rfl:n=p:=oa;go_wp2_with fail;go_ret;refine⟨_,s,rfl,c,o.congr (λi j=>?_),X.trans d⟩;constructor;rintro⟨k,e1,e2,e3⟩;exact⟨k,oa,O oa,e3⟩;rintro⟨k,e1,e2,e3⟩;exact⟨k,oa,oa,e3⟩
namespace Eqv
def Rest (f:Nat)(d:List Tok)(e c:List Tree):Prop:=∃a,TokS (qL f) a e/\((d=a/\c=[])\/∃bar b,d=a++bar :: b/\bar.kind=5/\wK (qL f) b c)
theorem wK.open {j:List Tok}{kids:List Tree}(h:wK (qL f) j kids):∃t d,kids=t :: d/\t.kind=6/\Rest f j t.kids d:=by
 obtain⟨p,fin,o,c,rfl,rfl,i,g,e⟩:=h;cases o with
 |nil=>
  obtain rfl:p=[]:=i;exact⟨c,[],rfl,g,fin,e,Q ⟨rfl,rfl⟩⟩
 |cons t r=>
  obtain⟨a,b,bar,rfl,k,l,n,m⟩:=i;exact⟨t,r++[c],rfl,l,a,n,O ⟨bar,b++fin,ov,k,b,fin,r,c,rfl,rfl,m,g,e⟩⟩
theorem qL.head:∀{f:Nat} {b:List Tok} {T:Tree},qL f b T->∃t r,b=t :: r/\(t.kind=1\/t.kind=2\/t.kind=3)
 |0,_,_,h=>h.elim
 |f+1,b,T,h=>by
  rcases h with⟨_,_,_,t,rfl,a,_⟩|⟨t,rfl,a,_⟩|⟨_,o,c,d,rfl,e,_⟩|⟨_,d,q,rfl,_,_,_,_,g⟩;exact⟨t,[],rfl,O (Q a)⟩;exact⟨t,[],rfl,Q a⟩;exact⟨o,d++[c],rfl,O (O e)⟩;obtain⟨t,r,rfl,a⟩:=qL.head g;exact⟨t,r++[q],rfl,a⟩
theorem Rest.nil {f:Nat}{d g:List Tree}(h:Rest f [] d g):d=[]/\g=[]:=by
 obtain⟨a,j,⟨c,i⟩|⟨bar,b,c,_⟩⟩:=h
 .subst c;cases d with
  |nil=>exact⟨rfl,i⟩
  |cons t r=>
   obtain⟨x,y,e,k,_⟩:=j;obtain⟨u,v,rfl,_⟩:=k.head;simp at e
 simp at c
theorem Rest.bar {f:Nat}{t:Tok}{r:List Tok}{d e:List Tree}(h:Rest f (t :: r) d e)(g:t.kind=5):d=[]/\wK (qL f) r e:=by
 obtain⟨a,i,h⟩:=h;have j:d=[]:=by
  cases d with
  |nil=>rfl
  |cons u v=>
   obtain⟨x,y,rfl,k,_⟩:=i;obtain⟨z,w,rfl,n⟩:=k.head;rcases h with⟨c,_⟩|⟨bar,b,c,_⟩;simp at c;rw[c.1] at g;omega;simp at c;rw[c.1] at g;omega
 subst j;obtain rfl:a=[]:=i;rcases h with⟨c,_⟩|⟨bar,b,c,l,m⟩;simp at c
 grind
theorem Rest.term {t:Tok}{r:List Tok}{e g:List Tree}(h:Rest f (t :: r) e g)(n:t.kind≠5):∃T more a l,e=T :: more/\t :: r=a++l/\qL f a T/\Rest f l more g:=by
 obtain⟨a,i,h⟩:=h;cases e with
 |nil=>
  obtain rfl:a=[]:=i;rcases h with⟨c,_⟩|⟨bar,b,c,d,_⟩;simp at c
  grind
 |cons T more=>
  obtain⟨x,y,rfl,j,k⟩:=i;rcases h with⟨c,d⟩|⟨bar,b,c,d,m⟩;exact⟨T,more,x,y,rfl,c,j,y,k,Q ⟨rfl,d⟩⟩;exact⟨T,more,x,y++bar :: b,rfl,by rw[c,zgX],j,y,k,O ⟨bar,b,rfl,d,m⟩⟩
theorem Rest.head6 {b:List Tok}{i c:List Tree}(h:Rest f b i c):qG b≠6:=by
 cases b with
 |nil=>exact(show(0:Int)≠6 by decide)
 |cons t r=>
  show t.kind≠6;by_cases g:t.kind=5;omega;obtain⟨T,more,a,b,_,e,d,_⟩:=h.term g;obtain⟨u,v,rfl,j⟩:=d.head;simp at e;rw[e.1];omega
theorem KD {l a d:List Tok}{k:Tree}{i:Nat}(m:qL f a k)(r:k.kind≠7)(h:l.drop i=a++d):qF l i=((i+a.length:Nat):Int):=by
 have y:l.length-i=a.length+d.length:=by rw[<-zhH,h,zgK]
 cases f with
 |zero=>exact m.elim
 |succ f=>
  have n:zT l i=qG (a++d):=by rw[<-h,Jk]
  have p:∀t:Tok,a=[t]->t.kind≠3->qF l i=((i+a.length:Nat):Int):=λt e g=>by subst e;unfold qF;rw[iN (by rw[n];exact g)];simp
  rcases m with⟨_,_,_,t,b,x,_⟩|⟨t,b,x,_⟩|⟨_,o,c,q,b,z,u,s,_⟩|⟨B,_⟩;exact p t b oa;exact p t b oa
  (subst b;have w:i<l.length:=(by simp at y;omega);have g:zT l i=3:=(by rw[n];exact z);have v:l.drop (i+1)=q++c :: d:=by rw[<-zhT,h];simp);have:=(XK w g (j:=q.length) (by rw[v];exact XQ s u)).1;rw[this];simp;omega;exact absurd B r
theorem zej {l b a:List Tok}{i:Nat}(c:l.drop i=b++a):zT l (i+b.length)=qG a:=by rw[<-Jk,<-zhT,c];simp
end Eqv
set_option maxHeartbeats 8000000
theorem one_at (p:zbo f)(o:3*f<=F){g off cap E i:Nat}{l a:List Tok}{c:Tree}{e:Y}{b:List (Int×Int)}{w:World}(h:qQ w g off l)(L:l.length<=1000)(z:l.length<=cap)(x:E=i+a.length)(y:E<=l.length)(t:(l.drop i).take a.length=a)(n:qL f a c)(m:c.kind≠7)(q:y7 w e b)(s:b.length<=900):∀(d:Y) (xs:List Bool) (B:World),ziE w B->yE B d xs->xs.length=b.length+1->Uh V 156 #[K (I ⟨g,off+i*6,U⟩) (E-i) (cap-i),e,d] B (YH B xs (MM b F c)):=by intro d xs B j u v;have r:E-i=a.length:=oa;rw[r];have k:=(h.only j).sub i a.length;rw[t] at k;exact p F g (off+i*6) (cap-i) a c e d b xs B o n m k oa oa ⟨q.keep j,u,s,v⟩
theorem zbr (f:Nat)(hO:zbo f):ThrOK f:=by
 intro F g off cap c kids cv fv d xs w hF hC bz h hl hc hX;have bK:=ze bz;clear bz;obtain⟨t0,a1,rfl,bk,bv⟩:=hC.open;have hx:=hX.f;have b1:=qP xs.length (by have:=hX.hx;have:=hX.hl;omega);have HX:=ze hX;have au:=ze h;have HO:=ze hO;have bJ:=ze bv;have aR:=ze bk;have HF:=ze hF;have cu:xs.length<=901:=by have:=hX.hx;have:=hX.hl;omega
 have HM:H (yE (w.alloc (Ub (madeCells #[C Z] xs.length) 4)) (K (I ⟨w.heap.size,0,U⟩) xs.length xs.length) (List.replicate xs.length Z)):=by have:=(kY.made w xs.length).row ov (cap:=xs.length) ov;exact ze (by simpa using this)
 obtain⟨gx,cx,rfl,_⟩:=hx;clear hX h hO bv bk hF hC;go_enter func111,ntmps111;go_wp2_with fail;clear b1;have bi:H (ziE w (w.alloc (Ub (madeCells #[C Z] xs.length) 4))):=(zf.refl _ _).alloc _;generalize w.alloc (Ub (madeCells #[C Z] xs.length) 4)=W at *;go_loopw[7,8,9] (λav nv k wr=>∃(i:Nat) (es ns:List Bool) (ar N:Nat->Nat->Prop) (be ac:List Tree),k=M J i/\i<=c.length/\H (ziE W wr)/\H (yE wr av es)/\H (yE wr nv ns)/\H (Img ar xs es)/\H (Img N xs ns)/\H (Eqv.Rest f (c.drop i) be ac)/\
  H (∀i j,altR d F (t0 :: a1) i j↔ar i j\/(∃m,N i m/\kN (MM d F) be m j)\/∃t∈ac,MM d (F+1) t i j)) (λ_ _ k _=>c.length-(intOf k).toNat)
 .refine⟨0,List.replicate xs.length Z,xs,_,_,t0.kids,a1,rfl,oa,zf.refl _ _,HM,HX.f.keep bi,Img.none xs,Img.id xs,bJ,λi j=>?_⟩;have e:MM d (F+1) t0 i j↔kN (MM d F) t0.kids i j:=by show Sm.M _ _ (F+1) t0 i j↔_;unfold Sm.M;rw[iN (by rw[zb aR];decide),iN (by rw[zb aR];decide),IN (zb aR)];rfl
  constructor;rintro⟨t,X,hm⟩;rcases zhh.1 X with rfl|X;exact O (Q ⟨i,rfl,e.1 hm⟩);exact O (O ⟨t,X,hm⟩);rintro(h|⟨m,rfl,h⟩|⟨t,X,hm⟩);exact h.elim;exact⟨t0,ov,e.2 h⟩;exact⟨t,by simp[X],hm⟩
 obtain⟨i,es,ns,ar,N,be,ac,rfl,hi,HK,ax,ay,ag,ah,aZ,aU⟩:=hrel;have y:H (ziE w wr):=bi.trans HK;obtain⟨ga,na,aa,b3⟩:∃ga na aa,u7=K ga na aa:=by obtain⟨g1,c1,h,_⟩:=zb ax;exact⟨_,_,_,h⟩
 subst b3;obtain⟨gn,nn,ad,b4⟩:∃ga na aa,u8=K ga na aa:=by obtain⟨g1,c1,h,_⟩:=zb ay;exact⟨_,_,_,h⟩
 subst b4;have cm:es.length<=901:=by have:=ag.1;omega
 by_cases aF:i<c.length
 .have ct:=(au.only y).row.kind i aF;have aD:=Jj aF;have aO:=XY aF;by_cases h5:zT c i=5
  ·(have bV:(zT c i == 5)=G:=(by simp[h5]);have S:=zb aZ;rw[aD] at S;obtain⟨rfl,bn⟩:=S.bar (by rw[<-aO];exact h5);obtain⟨t1,bM,rfl,bl,bw⟩:=bn.open;have az:=ze bw;have aS:=ze bl;clear S bn bw bl h5 aD aO;go_wp2_with(go_at_call 154;refine(wt _ _ es ns _ ax ay (ah.1.trans ag.1.symm) oa).mono ?_;rintro e w2 ⟨L,rfl,n,o⟩;have af:=ze n;have z:=ze o;clear n o);refine⟨⟨i+1,_,xs,_,_,t1.kids,bM,by go_num,oa,HK.trans z,af,(HX.f.keep y).keep z,ag.or ah,Img.id xs,az,λi j=>?_⟩,by simp[intOf];omega⟩;rw[zb aU i j];have e:MM d (F+1) t1 i j↔kN (MM d F) t1.kids i j:=by show Sm.M _ _ (F+1) t1 i j↔_;unfold Sm.M;rw[iN (by rw[zb aS];decide),iN (by rw[zb aS];decide),IN (zb aS)];rfl);constructor
   .rintro(h|⟨m,h,rfl⟩|⟨t,X,hm⟩);exact Q (Q h);exact Q (O h)
    grind
   rintro((h|h)|⟨m,rfl,h⟩|⟨t,X,hm⟩);exact Q h;exact O (Q ⟨j,h,rfl⟩);exact O (O ⟨t1,ov,e.2 h⟩);exact O (O ⟨t,by simp[X],hm⟩)
  (have bV:(zT c i == 5)=Z:=(by simp[h5]);have S:=zb aZ;rw[aD] at S;obtain⟨T,more,a,aG,rfl,P,hA,bx⟩:=S.term (by rw[<-aO];exact h5);rw[<-aD] at P;have az:=ze bx;have bo:H (∀i j,altR d F (t0 :: a1) i j↔ar i j\/(∃m,(∃p,N i p/\MM d F T p m)/\kN (MM d F) more m j)\/∃t∈ac,MM d (F+1) t i j):=λi j=>by rw[zb aU i j];constructor;rintro(h|⟨m,h,p,h1,h2⟩|h);exact Q h;exact O (Q ⟨p,⟨m,h,h1⟩,h2⟩);exact O (O h);rintro(h|⟨p,⟨m,h,h1⟩,h2⟩|h);exact Q h;exact O (Q ⟨m,h,p,h1,h2⟩);exact O (O h));have cr:¬cap=i:=oa;have bC:=ah.1.trans HX.hx;have bg:=ze bC;clear S bx h5 aD aO bC;by_cases h7:T.kind=7
  .obtain⟨f',rfl⟩:∃f',f=f'+1:=by
    cases f with
    |zero=>exact hA.elim
    |succ f'=>exact⟨f',rfl⟩
   (have bW:∃l q,a=l++[q]/\q.kind=6/\q.mn=T.a/\q.mx=T.b/\(T.kid.kind=5\/Wx T.kid)/\qL f' l T.kid:=by rcases hA with⟨k0,_⟩|⟨t,_,_,⟨_,k4⟩,_⟩|⟨k5,_⟩|⟨_,l,q,r⟩;omega;omega;omega;exact⟨l,q,r⟩);obtain⟨l,q,rfl,bD,bE,bF,bA,hU⟩:=bW;have a5:=qL.up f' (f'+1) l T.kid oa hU;have a8:T.kid.kind≠7:=(by rcases bA with h|⟨_,h⟩<;>omega);rw[zgX] at P;have al:c.drop i=l++(q :: aG):=P;have hE:=KD a5 a8 al;have a9:c.length-i=l.length+(aG.length+1):=(by rw[<-zhH,al,zgK];simp);have aB:(c.drop i).take l.length=l:=(by rw[al];simp);have ao:c.drop (i+l.length+1)=aG:=(by rw[zih,<-zhT,al];simp);have am:zT c (i+l.length)=6:=(by rw[zej al];exact bD);have aN:c[i+l.length]?=I q:=(by rw[<-zhI,al];simp);have aw:=zb bK q (zgS aN);obtain⟨u,v,aC,_⟩:=hU.head;have a7:1<=l.length:=(by rw[aC];simp);obtain⟨F,rfl⟩:∃F',F=F'+1:=⟨F-1,by have:=zb HF;omega⟩
   obtain⟨b,aj⟩:∃b,b=i+l.length:=⟨_,rfl⟩
   (rw[<-aj] at hE am ao aN;have HE:=ze hE;have HN:H (yV c i=((b:Nat):Int)+1):=(by show _=_;unfold yV;rw[hE,IN ⟨oa,by rw[zhm];exact am⟩]);obtain⟨pa,pn,pc,⟨z0,z1,z2,z3,z4,z5⟩,_⟩:=(au.only y) b q aN;have bs:∀i j,(∃k:Nat,q.mn<=k/\(q.mx = -1\/(k:Int)<=q.mx)/\pow (MM d F T.kid) k i j)↔MM d (F+1) T i j:=λi j=>by show _↔Sm.M _ _ (F+1) T i j;unfold Sm.M;rw[iN oa,iN oa,iN oa,IN h7,bE,bF];rfl);have bu:=one_at (zb HO) (F:=F) (by have:=zb HF;omega) (au.only y) hl hc aj oa aB a5 a8 (HX.c.keep y) HX.hl;have HZ:H (∀W',ziE wr W'->Uh V 155 #[K (I ⟨g,off+i*6,U⟩) (b-i) (cap-i),Uf #[M J q.kind,C q.neg,K pa pn pc,M J q.c,M J q.mn,M J q.mx],cv,K gn nn ad] W' λx B=>(∃L zs,x=R L/\yE B L zs/\Img (MM d (F+1) T) ns zs)/\ziE wr B/\
     B.cell? ⟨g,off+b*6,U⟩=I (M J q.kind)/\B.cell? ⟨g,off+b*6+1,U⟩=I (C q.neg)/\B.cell? ⟨g,off+b*6+2,U⟩=I (K pa pn pc)/\B.cell? ⟨g,off+b*6+3,U⟩=I (M J q.c)/\B.cell? ⟨g,off+b*6+4,U⟩=I (M J q.mn)/\B.cell? ⟨g,off+b*6+5,U⟩=I (M J q.mx)):=λW' a6=>by
    have bB:b-i=l.length:=oa;have b2:OneIs g (off+i*6) l (cap-i) cv d (MM d F T.kid) W':=λbS s B hk hb b6=>by
     have:=bu bS s B (a6.trans hk) hb b6
     rwa [bB] at this
    rw[bB];refine(many_any b2 (MM_le d F T.kid) (ay.keep a6) HX.hl bg aw.1 aw.2.1 aw.2.2.1 aw.2.2.2.1 aw.2.2.2.2).mono ?_;rintro e B ⟨L,zs,rfl,ai,ae,ab⟩;have k:=a6.trans ab;exact⟨⟨L,zs,rfl,ai,ae.congr bs⟩,k,zg k _ _ z0 id,zg k _ _ z1 id,zg k _ _ z2 id,zg k _ _ z3 id,zg k _ _ z4 id,zg k _ _ z5 id⟩
   have aW:=ze (au.only y).row;have a0:H (Eqv.Rest (f'+1) (c.drop (b+1)) more ac):=(by rw[ao];exact az);have bZ:i<b:=oa;have bp:b<c.length:=oa;have cn:(0:Int)<=((i:Nat):Int):=oa;have co:((i:Nat):Int)<=((b:Nat):Int):=oa;have n:((b:Nat):Int)<=((cap:Nat):Int):=oa;have cp:((b:Nat):Int)<=((c.length:Nat):Int):=oa;have cq:((b:Nat):Int)<((c.length:Nat):Int):=oa;clear hE a9 aB ao am aC a7 aj hA h7 P al hU a5 bA a8 bE bF bD aN aw bs bu;generalize q.mn=ca at *;generalize q.mx=cb at *;generalize q.c=qc at *;generalize q.neg=cc at *;generalize q.kind=qk at *;go_wp2_with(go_at_call 148;refine ziD (ZG g off cap c i _ aW hl hc aF) ?_;rw[zb HE,zb HN]);go_region_held3(λB=>B.cell? ⟨g,off+b*6,U⟩=I (M J qk)/\B.cell? ⟨g,off+b*6+1,U⟩=I (C cc)/\B.cell? ⟨g,off+b*6+2,U⟩=I (K pa pn pc)/\B.cell? ⟨g,off+b*6+3,U⟩=I (M J qc)/\B.cell? ⟨g,off+b*6+4,U⟩=I (M J ca)/\B.cell? ⟨g,off+b*6+5,U⟩=I (M J cb)) (go_keep)
    (first|(go_at_call 155;refine(zb HZ _ ((zf.refl _ _).drewN _)).mono ?_;rintro e w2 ⟨⟨L,zs,rfl,n,aE⟩,o,y0,y1,y2,y3,y4,y5⟩;have af:=ze n;have aX:=ze aE;have z:=ze o;clear n aE o))
   go_wp2_with fail;exact⟨⟨b+1,es,zs,ar,_,more,ac,by go_num,oa,HK.trans z,ax.keep z,af,ag,ah.comp aX (MM_le d (F+1) T),a0,bo⟩,by simp[intOf];omega⟩
  have hE:=KD hA h7 P;have a9:c.length-i=a.length+aG.length:=(by rw[<-zhH,P,zgK]);have aB:(c.drop i).take a.length=a:=(by rw[P];simp);have ao:c.drop (i+a.length)=aG:=(by rw[<-zhT,P];simp);have am:zT c (i+a.length)≠6:=(by rw[zej P];exact az.head6);obtain⟨u,v,aC,_⟩:=hA.head;have a7:1<=a.length:=(by rw[aC];simp);obtain⟨b,aj⟩:∃b,b=i+a.length:=⟨_,rfl⟩
  rw[<-aj] at hE am ao;have HE:=ze hE;have HN:H (yV c i=((b:Nat):Int)):=(by show _=_;unfold yV;rw[hE,iN (λhh=>am (by have:=hh.2;rw[zhm] at this;exact this))]);have HC:=ze (one_at (zb HO) (F:=F) (by have:=zb HF;omega) (au.only y) hl hc aj oa aB hA h7 (HX.c.keep y) HX.hl _ ns wr (zf.refl _ _) ay bg);have aW:=ze (au.only y).row;have a0:H (Eqv.Rest f (c.drop b) more ac):=(by rw[ao];exact az);have bZ:i<b:=oa;have bp:b<=c.length:=oa;clear hE a9 aB ao am aC a7 aj hA h7 P;go_wp2_with(first
   |(go_at_call 148;refine ziD (ZG g off cap c i _ aW hl hc aF) ?_;rw[zb HE,zb HN])
   |(go_at_call 156;refine HC.mono ?_;rintro e w2 ⟨L,zs,rfl,n,aE,o⟩;have af:=ze n;have aX:=ze aE;have z:=ze o;clear n aE o))
  exact⟨⟨b,es,zs,ar,_,more,ac,rfl,bp,HK.trans z,ax.keep z,af,ag,ah.comp aX (MM_le d F T),a0,bo⟩,by simp[intOf];omega⟩
 (obtain rfl:i=c.length:=oa;have S:=zb aZ;rw[List.drop_length] at S;obtain⟨rfl,rfl⟩:=S.nil;go_wp2_with(go_at_call 154;refine(wt _ _ es ns _ ax ay (ah.1.trans ag.1.symm) oa).mono ?_;rintro e w2 ⟨L,rfl,n,o⟩;have af:=ze n;have z:=ze o;clear n o);go_ret;refine⟨_,_,rfl,af,(ag.or ah).congr (λi j=>?_),y.trans z⟩;rw[zb aU i j];constructor);rintro(h|h);exact Q h;exact O (Q ⟨j,h,rfl⟩);rintro(h|⟨m,h,rfl⟩|⟨t,X,_⟩);exact Q h;exact O h;cases X
end
