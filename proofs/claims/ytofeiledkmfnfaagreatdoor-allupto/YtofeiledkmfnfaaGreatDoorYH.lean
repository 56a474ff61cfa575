/- The reference's characters: which a part, a token takes. -/
import Derived.Test.YtofeiledkmfnfaaGreatDoorYF
import Derived.Deep.RegionHeld3
import Derived.Deep.OwnRows
import Derived.Deep.CutBlock
namespace Go.Proofs.YtofeiledkmfnfaaGreatDoor
open World renaming heap->A,cell?->dx,cell?->e,frozen?->dz,ownsRow->dA,alloc->dB
open _root_.Array renaming size->dg
open _root_.ByteArray renaming size->dJ
open List renaming replicate->dK
open Option renaming none->U,some->I
open Value renaming int->M,slice->K,bool->C,pointer->Ua,string->Uc,tuple->Ue,agg->Uf
open IntKind renaming i64->J
open Bool renaming false->Z,true->G
open _root_.Go.Proofs.Tryz renaming prog->V
open Go renaming World->E,Value->Y,Calls->Uh
open Go.RowKit renaming Hid->H
open Or renaming inr->O,inl->Q
open Ending renaming returned->R
open Obj renaming cells->Ub
open Ref Sm Tw
open _root_.Go.Proofs.Tryz
open List renaming length->D
set_option maxHeartbeats 8000000
set_option maxRecDepth 100000
variable (p n:Nat)(c:Int)(w:World){L:World}(S:Value){l:Ai}(s:Al)(i:Nat)(b a:Value)(xs B:Ay){f F g off cap k:Nat}{bs zs:Ay}
section
open Go.RowKit
def y8 (w:E)(S:Y)(l:Ai):Prop:=
 (S=K U 0 0/\l=[])\/∃g cap,S=K (I ⟨g,0,U⟩) (D l) cap/\(D l)<=cap/\g<dg (A w)/\∀(j:Nat) p,l[j]?=I p->e w ⟨g,j*2,U⟩=I (M J p.1)/\e w ⟨g,j*2+1,U⟩=I (M J p.2)
variable {w S}
theorem y8.keep (h:y8 w S l)(k:zke w L):y8 L S l:=by obtain h|⟨g,cap,c,d,e,a⟩:=h;exact Q h;exact O ⟨g,cap,c,d,AM e k.size,λj p b=>⟨zf k _ _ (a j p b).1 id,zf k _ _ (a j p b).2 id⟩⟩
theorem Ji:∀(l:Ai) (j:Nat) (p:Int×Int),l[j]?=I p->(AF l)[j*2]?=I (M J p.1)/\(AF l)[j*2+1]?=I (M J p.2)
 | [],j,p,h=>by simp at h
 |x :: r,0,p,h=>by
  have⟨a,b⟩:=x;simp at h;subst h;exact⟨rfl,rfl⟩
 |x :: r,j+1,p,h=>by
  have⟨a,b⟩:=x;have:=Ji r j p (by simpa using h);have c:(j+1)*2=(j*2)+2:=oa;have d:(j+1)*2+1=(j*2+1)+2:=oa;rw[d,c];simp only[AF,List.getElem?_cons_succ];exact this
theorem y8.of {base:Nat}{T:TypeId}{S:Y}{l:Ai}(h:w.ownsRow base T 2 S (D l) (AF l)):y8 w S l:=by
 have f:=zh h;have b:=@World.ownsRow.cells w base T 2 S (D l) (AF l) h;obtain⟨rfl,c⟩|⟨g,cap,o,rfl,q,r,i,_⟩:=h.2;exact Q ⟨rfl,Cb c⟩;refine O ⟨g,cap,rfl,i,(f g rfl).2,λj p d=>?_⟩;have e:∀k,(⟨g,0,U⟩:Addr).add k=⟨g,k,U⟩:=λk=>by unfold Addr.add;split<;>simp_all
 have⟨m,n⟩:=Ji l j p d;have c1:=b (g:=g) rfl _ _ m;have a:=b (g:=g) rfl _ _ n;rw[e] at c1 a;exact⟨c1,a⟩
namespace Tw
theorem EC {c:Int}{n:Nat}{p:Int×Int}(h:l[n]?=I p)(a:p.1<=c)(b:c<=p.2):zH l c=G:=by unfold zH;rw[List.any_eq_true];exact⟨p,Bg h,by simp[a,b]⟩
theorem GA {c:Int}(h:∀(n:Nat) p,n<D l->l[n]?=I p->¬(p.1<=c/\c<=p.2)):zH l c=Z:=by unfold zH;rw[List.any_eq_false];intro p b;have⟨n,a,e⟩:=ML b;have:=h n p a (by rw[AE a,e]);simpa using this
end Tw
theorem Nj (neg:Bool)(S:Y)(l:Ai)(c:Int)(w:E)(h:y8 w S l)(hl:D l<=1000):Uh V 214 #[Uf #[C neg,S],M J c] w λx L=>x=R (C (Zm ⟨neg,l⟩ c))/\zke w L:=by
 have t:zke w (w.alloc (Ub #[C neg,S] 274)):=Ag;have s:=zd (h.keep t);have y:=zd t;clear h t;obtain⟨m,u,o,rfl⟩:∃m u o,S=K m u o:=by rcases(zb s) with⟨a,_⟩|⟨g,cap,a,_⟩<;>exact⟨_,_,_,a⟩
 have X:u=D l:=by rcases(zb s) with⟨a,d⟩|⟨g,cap,a,_⟩<;>simp at a<;>simp[*]
 subst X;go_enter func214,ntmps214;go_wp2_with fail
 go_loop [5] (λk=>∃n:Nat,k=M J n/\n<=D l/\H (∀(j:Nat) p,j<n->l[j]?=I p->¬(p.1<=c/\c<=p.2))) (λk=>D l-(intOf k).toNat)
 case atStart=>exact⟨0,rfl,oa,λj p F=>oa⟩
 case round=>
  obtain⟨n,rfl,hn,v⟩:=hrel;by_cases q:n<D l
  ·(have z:=zb s;obtain⟨g,cap,aa,ad,hg,B⟩:∃g cap,m=I ⟨g,0,U⟩/\(D l)<=o/\g<cap/\∀(j:Nat) p,l[j]?=I p->(w.alloc (Ub #[C neg,K m (D l) o] 274)).cell? ⟨g,j*2,U⟩=I (M J p.1)/\(w.alloc (Ub #[C neg,K m (D l) o] 274)).cell? ⟨g,j*2+1,U⟩=I (M J p.2):=by obtain⟨_,d⟩|⟨g,cap,a,d,N,P⟩:=z;rw[d] at q;simp at q;simp at a;exact⟨g,_,a.1,oa,N,P⟩);subst aa;have⟨c1,c2⟩:=B n l[n] (AE q);clear B z;have r:l[n].1<=c/\c<=l[n].2->H (Tw.zH l c=G):=λb=>EC (AE q) b.1 b.2;have f:¬(l[n].1<=c/\c<=l[n].2)->H (∀(j:Nat) p,j<n+1->l[j]?=I p->¬(p.1<=c/\c<=p.2)):=λb j p F W=>by
    by_cases e:j<n;exact zb v j p e W
    grind
   generalize l[n].1=lo at *;generalize l[n].2=T at *;by_cases a:lo<=c
   .by_cases d:c<=T
    .have i:=zd (r ⟨a,d⟩);clear r f;go_wp2_with fail;go_ret;refine⟨?_,y⟩;unfold Zm;rw[zb i];cases neg<;>rfl
    have i:=zd (f (λb=>d b.2));clear r f;go_wp2_with fail;go_round
    case rel=>exact⟨n+1,Ae,oa,i⟩
    case measure=>simp[intOf];omega
   have i:=zd (f (λb=>a b.1));clear r f;go_wp2_with fail;go_round
   case rel=>exact⟨n+1,Ae,oa,i⟩
   case measure=>simp[intOf];omega
  go_wp2_with fail;go_ret;refine⟨?_,y⟩;unfold Zm;rw[GA (λj p F=>zb v j p oa)];cases neg<;>rfl
def YP (w:E)(S:Y)(ps:Ba):Prop:=
 (S=K U 0 0/\ps=[])\/∃g cap,S=K (I ⟨g,0,U⟩) (D ps) cap/\(D ps)<=cap/\g<dg (A w)/\∀(j:Nat) p,ps[j]?=I p->∃a c b,e w ⟨g,j*2,U⟩=I (C p.neg)/\e w ⟨g,j*2+1,U⟩=I (K a c b)/\y8 w (K a c b) p.spans
theorem YP.keep {w L:E}{S:Y}{l:Ba}(h:YP w S l)(k:zke w L):YP L S l:=by obtain h|⟨g,cap,d,e,i,m⟩:=h;exact Q h;refine O ⟨g,cap,d,e,AM i k.size,λj p n=>?_⟩;have⟨o,r,q,a,b,c⟩:=m j p n;exact⟨o,r,q,zf k _ _ a id,zf k _ _ b id,c.keep k⟩
namespace Tw
theorem zhb {l:Ba}{c:Int}{n:Nat}{p:Pt}(h:l[n]?=I p)(a:Zm p c=G):AU l c=G:=by unfold AU;rw[List.any_eq_true];exact⟨p,Bg h,a⟩
theorem Fo {l:Ba}{c:Int}(h:∀(n:Nat) p,n<D l->l[n]?=I p->Zm p c=Z):AU l c=Z:=by unfold AU;rw[List.any_eq_false];intro p b;have⟨n,a,e⟩:=ML b;have:=h n p a (by rw[AE a,e]);simp[this]
end Tw
def F5 (t:Tok)(a:Y):Y:=Uf #[M J t.kind,C t.neg,a,M J t.c,M J t.mn,M J t.mx]
theorem zhc (t:Tok)(S:Y)(c:Int)(w:E)(h:YP w S t.parts)(hl:D t.parts<=1000)(hs:∀p∈t.parts,D p.spans<=10):Uh V 178 #[F5 t S,M J c] w λx L=>x=R (C (Xg t c))/\zke w L:=by
 unfold F5;have y:zke w (dB w (Ub #[M J t.kind,C t.neg,S,M J t.c,M J t.mn,M J t.mx] 177)):=Ag;have v:=zd (h.keep y);have X:=zd y;have ak:(dB w (Ub #[M J t.kind,C t.neg,S,M J t.c,M J t.mn,M J t.mx] 177)).cell? ⟨dg (A w),1,U⟩=I (C t.neg):=zj w _ rfl _ _ 1 _ rfl;have al:(dB w (Ub #[M J t.kind,C t.neg,S,M J t.c,M J t.mn,M J t.mx] 177)).cell? ⟨dg (A w),2,U⟩=I S:=zj w _ rfl _ _ 2 _ rfl;obtain⟨r,N,s,rfl⟩:∃r N s,S=K r N s:=by rcases(zb v) with⟨b,_⟩|⟨g,cap,b,_⟩<;>exact⟨_,_,_,b⟩
 have am:N=D t.parts:=by rcases(zb v) with⟨b,l⟩|⟨g,cap,b,_⟩<;>simp at b<;>simp[*]
 subst am;have HS:=zd hs;go_enter func178,ntmps178;go_wp2;generalize dB w (Ub #[M J t.kind,C t.neg,K r (D t.parts) s,M J t.c,M J t.mn,M J t.mx] 177)=W at *;go_loopw[5] (λk wr=>∃n:Nat,k=M J n/\n<=D t.parts/\H (zke W wr)/\H (∀(j:Nat) p,j<n->t.parts[j]?=I p->Zm p c=Z)) (λk _=>D t.parts-(intOf k).toNat);exact⟨0,rfl,oa,zg.refl _ _,λj p hj=>oa⟩;obtain⟨n,rfl,hn,a,T⟩:=hrel;have k1:=zf a _ _ ak id;have k2:=zf a _ _ al id;by_cases o:n<D t.parts
 ·(have hW:=v.keep a;obtain⟨g,ao,av,B,P,F,c1,c2,ae⟩:∃g,r=I ⟨g,0,U⟩/\(D t.parts)<=s/\∃B P F,dx wr ⟨g,n*2,U⟩=I (C t.parts[n].neg)/\dx wr ⟨g,n*2+1,U⟩=I (K B P F)/\y8 wr (K B P F) t.parts[n].spans:=by obtain⟨_,l⟩|⟨g,cap,b,l,h3,h4⟩:=hW;rw[l] at o;simp at o;simp_all);subst ao;have HP:=zd ae;have ay:=zb HS t.parts[n] (BO o);have z:t.parts[n]?=I t.parts[n]:=AE o;generalize t.parts[n]=p at *;cases hin:Zm p c
  .have ah:H (∀(j:Nat) p,j<n+1->t.parts[j]?=I p->Zm p c=Z):=λj q hj hq=>by
    by_cases e:j<n;exact zb T j q e hq
    grind
   go_wp2_with(go_at_call 214;refine(Nj p.neg _ p.spans c _ HP oa).mono ?_;rintro e i ⟨rfl,d⟩;have m:Zm ⟨p.neg,p.spans⟩ c=Z:=hin;rw[m];have u:=zd d);go_round
   case rel=>exact⟨n+1,Ae,oa,a.trans u,ah⟩
   case measure=>simp[intOf];omega
  have HY:=zd (zhb z hin);have hk:∀i,zke wr i->dx i ⟨dg (A w),1,U⟩=I (C t.neg):=λi l=>zf l _ _ k1 id;have ag:=zd hk;go_wp2_with(go_at_call 214;refine(Nj p.neg _ p.spans c _ HP oa).mono ?_;rintro e i ⟨rfl,d⟩;have m:Zm ⟨p.neg,p.spans⟩ c=G:=hin;rw[m];have k3:=zb ag i d;have u:=zd d);go_ret;refine⟨?_,(X.trans a).trans u⟩;unfold Xg;rw[zb HY];cases t.neg<;>rfl
 go_wp2;go_ret;refine⟨?_,X.trans a⟩;unfold Xg;rw[Fo (λj p hj=>zb T j p oa)];cases t.neg<;>rfl
theorem zeN (w:E):Uh V 213 #[M J c] w λx L=>x=R (C (Tw.zH kK c))/\zke w L:=by
 go_enter func213,ntmps213;go_wp2_with(first
  |(go_at_call 164;refine(WP _).mono ?_;rintro e h ⟨rfl,b,a⟩;have f:=zd b;have d:=zd a)
  |(go_at_call 214;refine(Nj Z _ [(48,57),(65,90),(95,95),(97,122)] c _ (y8.of f) od).mono ?_;rintro e i ⟨rfl,g⟩))
 go_ret;exact⟨by rw[ZY];rfl,d.trans g⟩
namespace Ref
def kH (l:Ai)(k:Nat):Int:=match l[k]? with
 |some p=>p.1
 |none=>-1
def Bq (l:Ai)(k:Nat):Int:=if 0<k then kH l (k-1) else -1
theorem GJ (h:k<D l):kH l k=l[k].1:=by unfold kH;rw[AE h]
theorem zcZ (h:D l<=k):kH l k = -1:=by unfold kH;rw[Hh h]
def Ic (sign:Int)(l:Ai)(i:Nat):Bool:=
 if sign=94 then decide (Bq l i<0)
 else if sign=36 then decide (kH l i<0)
 else if sign=98 then(Tw.zH kK (Bq l i) != Tw.zH kK (kH l i))
 else(Tw.zH kK (Bq l i) == Tw.zH kK (kH l i))
end Ref
theorem y8.at {w:E}{S:Y}{l:Ai}(h:y8 w S l){k:Nat}(a:k<D l):∃g cap,S=K (I ⟨g,0,U⟩) (D l) cap/\(D l)<=cap/\e w ⟨g,k*2,U⟩=I (M J (kH l k)):=by obtain⟨_,h⟩|⟨g,cap,b,c,_,d⟩:=h;rw[h] at a;simp at a;exact⟨g,cap,b,c,by rw[GJ a];exact(d k l[k] (AE a)).1⟩
theorem y8.len (h:y8 w S l):∃b c,S=K b (D l) c:=by obtain⟨h,a⟩|⟨g,cap,h,_⟩:=h;exact⟨U,0,by rw[h,a];rfl⟩;exact⟨_,_,h⟩
variable (S l)
theorem zeO (w:E)(h:y8 w S l)(r:D l<=1000)(q:i<=D l):Uh V 212 #[S,M J i] w λx L=>x=R (Ue #[M J (Bq l i),M J (kH l i)])/\L=w:=by
 by_cases c:0<i
 .obtain⟨g,cap,rfl,p,o⟩:=h.at (k:=i-1) oa;have a:H (Bq l i=kH l (i-1)):=by unfold Bq;rw[IN c];rfl
  obtain⟨j,rfl⟩:∃j,i=j+1:=⟨i-1,oa⟩
  simp only[Nat.add_sub_cancel] at o a;by_cases d:j+1<D l
  .have⟨n,m,e,_,f⟩:=h.at d;simp at e;obtain⟨rfl,_⟩:=e;go_enter func212,ntmps212;go_wp2;go_ret2;rw[zb a];exact⟨rfl,rfl⟩
  have b:H (kH l (j+1) = -1):=zcZ oa;go_enter func212,ntmps212;go_wp2;go_ret2;rw[zb a,zb b];exact⟨rfl,rfl⟩
 obtain rfl:i=0:=by omega
 have a:H (Bq l 0 = -1):=rfl;by_cases d:0<D l
 .obtain⟨n,m,rfl,p,f⟩:=h.at d;simp only[FV] at f;go_enter func212,ntmps212;go_wp2;go_ret2;rw[zb a];exact⟨rfl,rfl⟩
 have b:H (kH l 0 = -1):=zcZ oa;obtain⟨s,t,rfl⟩:=h.len;go_enter func212,ntmps212;go_wp2;go_ret2;rw[zb a,zb b];exact⟨rfl,rfl⟩
theorem zbo (w:E)(h:y8 w S l)(o:D l<=1000)(n:i<=D l):Uh V 177 #[M J c,S,M J i] w λx L=>x=R (C (Ic c l i))/\zke w L:=by
 have k:=zd (zeO S l i w h o n);have j:H (Ic c l i=if c=94 then decide (Bq l i<0) else if c=36 then decide (kH l i<0) else if c=98 then(Tw.zH kK (Bq l i) != Tw.zH kK (kH l i)) else(Tw.zH kK (Bq l i) == Tw.zH kK (kH l i))):=rfl;generalize Bq l i=x at *;generalize kH l i=y at *;generalize Ic c l i=r at *;have m:(c == 94)=G\/((c == 94)=Z/\(c == 36)=G)\/((c == 94)=Z/\(c == 36)=Z/\(c == 98)=G)\/((c == 94)=Z/\(c == 36)=Z/\(c == 98)=Z):=by grind
 obtain a|⟨a,f⟩|⟨a,f,g⟩|⟨a,f,g⟩:=m
 all_goals
  go_enter func177,ntmps177;go_wp2_with(first
   |(go_at_call 212;refine AL k ?_)
   |(go_at_call 213;refine(zeN _ _).mono ?_;rintro e p ⟨rfl,b⟩;first|(have d:=d.trans b)|(have d:H (zke w p):=b)))
  go_ret;refine⟨?_,d⟩;rw[zb j]
 rw[IN (by simpa using a)];rfl;simp_all;rw[iN (by simpa using a),iN (by simpa using f),IN (by simpa using g)];rfl;simp_all
def yC (w:E)(S:Y)(bs:Ay):Prop:=
 ∃g cap,S=K (I ⟨g,0,U⟩) (D bs) cap/\(D bs)<=cap/\g<dg (A w)/\∀(j:Nat) b,bs[j]?=I b->e w ⟨g,j,U⟩=I (C b)
theorem yC.keep {S:Y}{l:Ay}(h:yC w S l)(k:zke w L):yC L S l:=by have⟨g,cap,a,c,d,e⟩:=h;exact⟨g,cap,a,c,AM d k.size,λj b i=>zf k _ _ (e j b i) id⟩
structure vA (w:E)(g:Nat)(bs:Ay):Prop where
 c:∀(j:Nat) b,bs[j]?=I b->e w ⟨g,j,U⟩=I (C b)
 f:∀(j:Nat) b,bs[j]?=I b->dz w ⟨g,j,U⟩=Z
theorem vA.keep {P:Aj}{w L:E}{g:Nat}{bs:Ay}(h:vA w g bs)(k:zg P w L)(c:¬P g):vA L g bs:=
 ⟨λj b a=>zf k _ _ (h.c j b a) c,λj b a=>zp k _ (zic w _ (h.c j b a)) (h.f j b a) c⟩
theorem vA.set (h:vA w g bs)(i:Nat)(v:Bool):vA (w.setCell ⟨g,i,U⟩ (C v)) g (bs.set i v):=by refine⟨λj b a=>?_,λj b a=>?_⟩;by_cases e:i=j;subst e;have c:i<D bs:=(by have:=(AK.1 a).1;simpa using this);rw[Iq c] at a;obtain rfl:=Bz a;exact AX _ _ _ (h.c i bs[i] (AE c));rw[FW e] at a;exact(AN _ _ _ _ (by intro d;exact e (by have:=congrArg Addr.off d;simpa using this))).trans (h.c j b a);rw[zl];by_cases e:i=j;subst e;have c:i<D bs:=(by have:=(AK.1 a).1;simpa using this);exact h.f i bs[i] (AE c);rw[FW e] at a;exact h.f j b a
theorem vA.row (h:vA w g bs)(b:g<dg (A w)){cap:Nat}(a:D bs<=cap):yC w (K (I ⟨g,0,U⟩) (D bs) cap) bs:=⟨g,cap,rfl,a,b,h.c⟩
theorem zg.N2 {P:Aj}{a b c:E}(h:zke a b)(k:zg P b c)(e:∀i,P i->dg (A a)<=i):zke a c:=
 ⟨k.os.trans h.os,k.tape.trans h.tape,k.output.trans h.output,AP h.size k.size,λi d f=>(k.block i (AM d h.size) (λg=>by have:=e i g;omega)).trans (h.block i d f)⟩
theorem Tryz.Px:(prog.info? 4).map (λi=>(i.zero,i.size,i.bytes))=I (I (C Z),1,1):=om
theorem qI (a:n<=1000)(w:E):(Instr.makeSlice 113 (M J (n:Int)) (M J (n:Int))).run V w=.ok (K (I ⟨dg (A w),0,U⟩) n n) (dB w (Ub (madeCells #[C Z] n) 4)):=
 run_make_row' 113 4 (C Z) 1 underlying113 Tryz.Px rfl J J n oa oa w
theorem Xr (j:Nat)(h:j<n):(madeCells #[C Z] n)[j]?=I (C Z):=by unfold madeCells;simp[h,Nat.mod_one]
theorem vA.made (w:E)(n:Nat):vA (dB w (Ub (madeCells #[C Z] n) 4)) (dg (A w)) (dK n Z):=by refine⟨λj b a=>?_,λj b a=>zt w _ rfl _ _ j⟩;have c:=(AK.1 a).1;simp at c;rw[CP,IN c] at a;obtain rfl:=Bz a;exact zj w _ rfl _ _ j _ (Xr n j c)
theorem Zc (w:E)(ha:yC w b xs)(hb:yC w a B)(u:D B=D xs)(hl:D xs<=1000):Uh V 93 #[b,a] w λx L=>∃S,x=R S/\yC L S (List.zipWith (· || ·) xs B)/\zke w L:=by
 obtain⟨X,ca,rfl,ak,ao,s⟩:=ha;obtain⟨gb,cb,rfl,al,ap,t⟩:=hb;have ae:=qI (D xs) hl;have F:=zd s;have N:=zd t;have P:=zd (vA.made w (D xs));go_enter func93,ntmps93;go_wp2;have r:zke w (dB w (Ub (madeCells #[C Z] (D xs)) 4)):=Ag;have au:dg (A w)<(dB w (Ub (madeCells #[C Z] (D xs)) 4)).heap.size:=ov;have m:=zd r;generalize dB w (Ub (madeCells #[C Z] (D xs)) 4)=W at *;generalize hG:dg (A w)=c at *;go_loopw[6] (λk wr=>∃n:Nat,k=M J n/\n<=D xs/\H (zg (λg=>g=c) W wr)/\H (vA wr c ((List.zipWith (· || ·) xs B).take n++dK (D xs-n) Z))) (λk _=>D xs-(intOf k).toNat);exact⟨0,rfl,oa,zg.refl _ _,by simpa using P⟩;obtain⟨n,rfl,hn,j,l⟩:=hrel;have o:zg (λg=>g=c) w wr:=(m.mono (λ_ _ f=>f.elim)).trans j;by_cases v:n<D xs
 ·(have y:n<D B:=oa;have d:(List.zipWith (· || ·) xs B).length=D xs:=(by simp[u]);have c1:=zf o _ _ (zb F n xs[n] (AE v)) (λe=>by have:X=c:=e;omega);have c2:=zf o _ _ (zb N n B[n] (AE y)) (λe=>by have:gb=c:=e;omega);have z:(List.zipWith (· || ·) xs B)[n]?=I (xs[n] ||B[n]):=(by rw[List.getElem?_zipWith,AE v,AE y]);have af:H (((List.zipWith (· || ·) xs B).take n++dK (D xs-n) Z).set n (xs[n] ||B[n])=(List.zipWith (· || ·) xs B).take (n+1)++dK (D xs-(n+1)) Z):=by have T:((List.zipWith (· || ·) xs B).take n).length=n:=(by rw[FI,d];omega);show _=_;rw[MC _ _ oa,T,CU,FK,z];rw[show (D xs)-n=(D xs-(n+1))+1 by omega,List.replicate_succ];simp);have h:=zb l;have am:dx wr ⟨c,n,U⟩=I (C Z):=h.c n Z (by
   rw[B9 (by rw[FI,d];omega),FI,d,CP,IN oa])
  have an:dz wr ⟨c,n,U⟩=Z:=h.f n Z (by
   rw[B9 (by rw[FI,d];omega),FI,d,CP,IN oa])
  generalize xs[n]=p at *;generalize B[n]=q at *;cases p
  all_goals
   go_wp2;go_roundw
   case rel=>exact⟨n+1,Ae,oa,j.setCell (Q rfl) _,by rw[<-zb af];exact l.set n _⟩
   case measure=>simp[intOf];omega
 obtain rfl:n=D xs:=oa;go_wp2;go_ret;have d:(List.zipWith (· || ·) xs B).length=D xs:=(by simp[u]);have h:=zb l;rw[CU,List.replicate_zero,BW,FY oa] at h;refine⟨_,rfl,?_,m.N2 j (λi hi=>oa)⟩;have:=h.row (by have:=j.size;omega) (cap:=D xs) oa;rwa [d] at this
theorem zc0 (w:E)(u:yC w b xs)(v:yC w a B)(W:D B=D xs)(hl:D xs<=1000):Uh V 140 #[b,a] w λx L=>x=R (C (decide (xs=B)))/\zke w L:=by
 obtain⟨N,z,rfl,S,X,j⟩:=u;obtain⟨P,F,rfl,T,aa,l⟩:=v;have s:=zd j;have t:=zd l;clear j l;go_enter func140,ntmps140;go_wp2_with fail;go_loopw[5] (λk wr=>∃n q:Nat,k=M J n/\n<=D xs/\wr=w.drewN q/\H (xs.take n=B.take n)) (λk _=>D xs-(intOf k).toNat);exact⟨0,0,rfl,oa,rfl,rfl⟩;obtain⟨n,q,rfl,hn,rfl,h⟩:=hrel;by_cases m:n<D xs
 ·(have o:n<D B:=oa;have c1:=zb s n xs[n] (AE m);have y:=zb t n B[n] (AE o);have c:H (xs[n]≠B[n]->xs≠B):=λg e=>g (by subst e;rfl);have f:H (xs[n]=B[n]->xs.take (n+1)=B.take (n+1)):=λg=>by rw[FK,FK,zb h,AE m,AE o,g]);generalize xs[n]=p at *;generalize B[n]=r at *;cases p<;>cases r
  case' false.false=>have i:=zd (zb f rfl)
  case' true.true=>have i:=zd (zb f rfl)
  case' false.true=>have d:=zd (zb c od)
  case' true.false=>have d:=zd (zb c od)
  all_goals
   clear f c;go_wp2_with fail;go_quiet(fail);go_wp2_with fail
  all_goals (try go_ret)
  all_goals first
   |exact⟨⟨n+1,_,Ae,oa,rfl,i⟩,Ad⟩
   |exact⟨by rw[decide_eq_false d];rfl,Ah⟩
   |exact⟨by rw[decide_eq_false d];rfl,Ah.drewN _⟩
 obtain rfl:n=D xs:=oa;go_wp2_with fail;go_ret;refine⟨?_,Ah⟩;have e:=zb h;rw[FY (AD _),FY oa] at e;rw[decide_eq_true e];rfl
namespace Ref
def Jj (t:Tok)(l:Ai)(i j:Nat):Prop:=(t.kind=2/\j=i/\Ic t.c l i=G)\/(t.kind≠2/\i<D l/\j=i+1/\Xg t (kH l i)=G)
def Ty (X:Nat->Aj)(xs B:Ay):Prop:=D B=D xs/\∀j,B[j]?=I G↔j<D xs/\∃i,xs[i]?=I G/\X i j
def YQ (X:Nat->Aj)(xs:Ay)(n:Nat)(B:Ay):Prop:=D B=D xs/\∀j,B[j]?=I G↔j<D xs/\∃i,i<n/\xs[i]?=I G/\X i j
theorem YQ.zero (X:Nat->Aj)(xs:Ay):YQ X xs 0 (dK (D xs) Z):=by
 refine⟨ov,λj=>?_⟩;constructor
 grind
 rintro⟨_,i,h,_⟩;omega
theorem YQ.full {X:Nat->Aj}{xs B:Ay}{n:Nat}(h:YQ X xs n B)(c:D xs<=n):Ty X xs B:=by
 refine⟨h.1,λj=>?_⟩;rw[h.2 j];constructor;rintro⟨a,i,_,b⟩;exact⟨a,i,b⟩
 grind
theorem YQ.skip {X:Nat->Aj}{xs B:Ay}{n:Nat}(h:YQ X xs n B)(a:xs[n]?=I G->∀j,j<D xs->¬X n j):YQ X xs (n+1) B:=by
 refine⟨h.1,λj=>?_⟩;rw[h.2 j];constructor
 grind
 grind
theorem YQ.step {X:Nat->Aj}{xs B:Ay}{n m:Nat}{b v:Bool}(h:YQ X xs n B)(i:xs[n]?=I G)(c:m<D xs)(g:∀j,X n j↔j=m/\b=G)(f:v=G↔B[m]?=I G\/b=G):YQ X xs (n+1) (B.set m v):=by
 refine⟨by rw[Ct];exact h.1,λj=>?_⟩;have d:m<D B:=by rw[h.1];exact c
 by_cases e:m=j
 .subst e;rw[Iq d];have a:(I v=I G)↔v=G:=by simp
  rw[a,f,h.2 m];constructor
  grind
  grind
 rw[FW e,h.2 j];constructor
 grind
 grind
end Ref
theorem y8.Oz {P:Aj}{w L:E}{S:Y}{l:Ai}(h:y8 w S l)(k:zg P w L)(d:∀{g},P g->¬g<dg (A w)):y8 L S l:=by obtain h|⟨g,cap,e,i,a,b⟩:=h;exact Q h;exact O ⟨g,cap,e,i,AM a k.size,λj p c=>⟨zf k _ _ (b j p c).1 (λf=>d f a),zf k _ _ (b j p c).2 (λf=>d f a)⟩⟩
theorem YP.Oz {P:Aj}{w L:E}{S:Y}{l:Ba}(h:YP w S l)(k:zg P w L)(b:∀{g},P g->¬g<dg (A w)):YP L S l:=by obtain h|⟨g,cap,i,m,a,n⟩:=h;exact Q h;refine O ⟨g,cap,i,m,AM a k.size,λj p o=>?_⟩;have⟨q,s,r,c,d,e⟩:=n j p o;exact⟨q,s,r,zf k _ _ c (λf=>b f a),zf k _ _ d (λf=>b f a),e.Oz k b⟩
theorem zeP (t:Tok)(tv cv fv:Y)(l:Ai)(xs:Ay)(w:E)(ht:YP w tv t.parts)(hc:y8 w cv l)(hx:yC w fv xs)(hl:D l<=900)(aZ:D xs=D l+1)(hp:D t.parts<=1000)(hs:∀p∈t.parts,D p.spans<=10):Uh V 141 #[F5 t tv,cv,fv] w λx L=>∃S B,x=R S/\yC L S B/\Ty (Jj t l) xs B/\zke w L:=by
 unfold F5;have bn:D xs<=D l+1:=oa;have bo:D l<D xs:=oa;clear aZ;obtain⟨gx,cx,rfl,bh,bi,aB⟩:=hx;obtain⟨m,q,o,rfl⟩:∃m q o,tv=K m q o:=by obtain⟨y,_⟩|⟨g,cap,y,_⟩:=ht<;>exact⟨_,_,_,y⟩
 obtain⟨ca,cc,rfl⟩:=hc.len;have aV:=qI (D xs) oa;have HX:=zd aB;have HT:=zd ht;have HC:=zd hc;have HS:=zd hs;have HM:=zd (vA.made (dB w (Ub #[M J t.kind,C t.neg,K m q o,M J t.c,M J t.mn,M J t.mx] 177)) (D xs));have aq:H (zke w ((dB w (Ub #[M J t.kind,C t.neg,K m q o,M J t.c,M J t.mn,M J t.mx] 177)).alloc (Ub (madeCells #[C Z] (D xs)) 4))):=Ag.alloc _;have q0:∀(j:Nat) v,(#[M J t.kind,C t.neg,K m q o,M J t.c,M J t.mn,M J t.mx]:Array Y)[j]?=I v->((dB w (Ub #[M J t.kind,C t.neg,K m q o,M J t.c,M J t.mn,M J t.mx] 177)).alloc (Ub (madeCells #[C Z] (D xs)) 4)).cell? ⟨dg (A w),j,U⟩=I v:=λj v hj=>
  zf ((zg.refl (λ_=>False) _).alloc _) _ _ (zj w _ rfl _ _ j _ hj) id
 have N:=zd q0;clear aB ht hc hs q0;go_enter func141,ntmps141;go_wp2;clear aV;have bm:dg (A w)+1<((dB w (Ub #[M J t.kind,C t.neg,K m q o,M J t.c,M J t.mn,M J t.mx] 177)).alloc (Ub (madeCells #[C Z] (D xs)) 4)).heap.size:=ov;have aA:(dB w (Ub #[M J t.kind,C t.neg,K m q o,M J t.c,M J t.mn,M J t.mx] 177)).heap.size=dg (A w)+1:=ov;rw[aA] at HM;clear aA;generalize (dB w (Ub #[M J t.kind,C t.neg,K m q o,M J t.c,M J t.mn,M J t.mx] 177)).alloc (Ub (madeCells #[C Z] (D xs)) 4)=W at *;go_loopw[8] (λk wr=>∃(n:Nat) (B:Ay),k=M J n/\n<=D xs/\H (zg (λg=>g=dg (A w)+1) W wr)/\H (vA wr (dg (A w)+1) B)/\H (YQ (Jj t l) xs n B)) (λk _=>D xs-(intOf k).toNat);exact⟨0,dK (D xs) Z,rfl,oa,zg.refl _ _,HM,YQ.zero _ _⟩;obtain⟨n,B,rfl,hn,r,X,u⟩:=hrel;have hK:zg (λg=>g=dg (A w)+1) w wr:=(aq.mono (λ_ _ f=>f.elim)).trans r;have a0:=u.1;by_cases ak:n<D xs
 .have c1:=zf hK _ _ (zb HX n xs[n] (AE ak)) (λe=>by have:gx=dg (A w)+1:=e;omega);have k0:=zf r _ _ (zb N 0 _ rfl) (λe=>by have:dg (A w)=dg (A w)+1:=e;omega);have k1:=zf r _ _ (zb N 1 _ rfl) (λe=>by have:dg (A w)=dg (A w)+1:=e;omega);have k2:=zf r _ _ (zb N 2 _ rfl) (λe=>by have:dg (A w)=dg (A w)+1:=e;omega);have k3:=zf r _ _ (zb N 3 _ rfl) (λe=>by have:dg (A w)=dg (A w)+1:=e;omega);have k4:=zf r _ _ (zb N 4 _ rfl) (λe=>by have:dg (A w)=dg (A w)+1:=e;omega);have k5:=zf r _ _ (zb N 5 _ rfl) (λe=>by have:dg (A w)=dg (A w)+1:=e;omega);have T:xs[n]?=I xs[n]:=AE ak;cases hb:xs[n]
  .rw[hb] at c1;have ah:=zd (u.skip (λe=>by rw[T,hb] at e;cases e));clear T hb;go_wp2;go_roundw
   .exact⟨n+1,B,Ae,oa,r,X,ah⟩
   simp[intOf];omega
  rw[hb] at c1 T;clear hb;have hG:∀a,zke wr a->zg (λg=>g=dg (A w)+1) W a:=λa d=>r.trans (d.mono (λ_ _ f=>f.elim));have HG:=zd hG;have F:H (∀a,zke wr a->vA a (dg (A w)+1) B):=λa d=>X.keep d id;clear hG;by_cases s:t.kind=2
  .have aU:(t.kind == 2)=G:=(by simp[s]);have hX:H (∀j,Jj t l n j↔j=n/\Ic t.c l n=G):=λj=>by
    unfold Jj;constructor
    grind
    rintro⟨y,d⟩;exact Q ⟨s,y,d⟩
   (have a1:H (¬B[n]?=I G):=λe=>by have⟨_,i,y,d,h3⟩:=(u.2 n).1 e;obtain⟨_,h4,_⟩|⟨h4,_⟩:=h3;omega;exact absurd s h4);clear s;have af:n<D B:=oa;have HF:H (∀a,zke wr a->dx a ⟨dg (A w)+1,n,U⟩=I (C B[n])/\dz a ⟨dg (A w)+1,n,U⟩=Z):=λa d=>⟨(zb F a d).c n _ (AE af),(zb F a d).f n _ (AE af)⟩
   go_wp2_with(go_at_call 177;refine(zbo t.c _ l n _ (HC.Oz hK (λe=>oa)) oa oa).mono ?_;rintro e a ⟨rfl,z⟩;have⟨z1,z2⟩:=zb HF a z;have P:=zd z;clear z);go_roundw
   .exact⟨n+1,B.set n (Ic t.c l n),Ae,oa,(zb HG _ P).setCell (Q rfl) _,(zb F _ P).set n _,u.step T ak hX ⟨λh=>O h,λh=>h.elim (λh=>absurd h a1) (λh=>h)⟩⟩
   simp[intOf];omega
  have aU:(t.kind == 2)=Z:=(by simp[s]);by_cases al:n<D l
  .have⟨g',be,ad,aR,aS⟩:=(HC.Oz hK (λe=>oa)).at al;have aQ:ca=I ⟨g',0,U⟩:=(by simp at ad;exact ad.1);have bg:D l<=cc:=(by simp at ad;omega);subst aQ;clear ad aR;have hX:H (∀j,Jj t l n j↔j=n+1/\Xg t (kH l n)=G):=λj=>by
    unfold Jj;constructor
    grind
    rintro⟨y,d⟩;exact O ⟨s,al,y,d⟩
   clear s;have af:n+1<D B:=oa;have ae:B[n+1]?=I B[n+1]:=AE af;have HF:H (∀a,zke wr a->dx a ⟨dg (A w)+1,n+1,U⟩=I (C B[n+1])/\dz a ⟨dg (A w)+1,n+1,U⟩=Z):=λa d=>⟨(zb F a d).c (n+1) _ ae,(zb F a d).f (n+1) _ ae⟩
   have HV:H (∀b:Bool,((B[n+1] ||b)=G↔B[n+1]?=I G\/b=G)):=λb=>(by rw[ae];simp);have HZ:H (∀W',zke wr W'->Uh V 178 #[Uf #[M J t.kind,C t.neg,K m q o,M J t.c,M J t.mn,M J t.mx],M J (kH l n)] W' λx L=>x=R (C (Xg t (kH l n)))/\zke wr L/\
     dx L ⟨dg (A w),0,U⟩=I (M J t.kind)/\dx L ⟨dg (A w),1,U⟩=I (C t.neg)/\dx L ⟨dg (A w),2,U⟩=I (K m q o)/\dx L ⟨dg (A w),3,U⟩=I (M J t.c)/\dx L ⟨dg (A w),4,U⟩=I (M J t.mn)/\dx L ⟨dg (A w),5,U⟩=I (M J t.mx)/\dx L ⟨g',n*2,U⟩=I (M J (kH l n))):=λW' ay=>
    (zhc t (K m q o) (kH l n) W' ((HT.Oz hK (λe=>oa)).keep ay) hp HS).mono (by
     rintro e L ⟨rfl,hO⟩;have k:=ay.trans hO;exact⟨rfl,k,zf k _ _ k0 id,zf k _ _ k1 id,zf k _ _ k2 id,zf k _ _ k3 id,zf k _ _ k4 id,zf k _ _ k5 id,zf k _ _ aS id⟩)
   generalize B[n+1]=y1 at *;clear ae;go_wp2;go_region_held3(λL=>dx L ⟨dg (A w),0,U⟩=I (M J t.kind)/\dx L ⟨dg (A w),1,U⟩=I (C t.neg)/\dx L ⟨dg (A w),2,U⟩=I (K m q o)/\dx L ⟨dg (A w),3,U⟩=I (M J t.c)/\dx L ⟨dg (A w),4,U⟩=I (M J t.mn)/\dx L ⟨dg (A w),5,U⟩=I (M J t.mx)/\dx L ⟨g',n*2,U⟩=I (M J (kH l n))) (go_keep)
    (first|(go_at_call 178;refine(zb HZ _ Ah).mono ?_;rintro e a ⟨rfl,z,z0,z1,z2,z3,z4,z5,z6⟩))
   have⟨y2,y3⟩:=zb HF a z;have P:=zd z;clear z z0 z1 z2 z3 z4 z5 z6;have aX:=zd (u.step (v:=y1 ||Xg t (kH l n)) T oa hX (zb HV _));clear hX HV HZ;generalize Xg t (kH l n)=tk at *;cases y1
   all_goals
    go_wp2;go_roundw
    case rel=>exact⟨n+1,_,Ae,oa,(zb HG _ P).setCell (Q rfl) _,(zb F _ P).set (n+1) _,aX⟩
    case measure=>simp[intOf];omega
  have ah:=zd (u.skip (λ_ j _ h=>by
   obtain⟨h,_⟩|⟨_,h,_⟩:=h;exact s h;exact al h))
  clear s;go_wp2;go_roundw
  .exact⟨n+1,B,Ae,oa,r,X,ah⟩
  simp[intOf];omega
 go_wp2;go_ret;have:=X.row (by have:=r.size;omega) (cap:=D xs) oa;rw[a0] at this;exact⟨_,B,rfl,this,u.full oa,aq.N2 r (λi hi=>oa)⟩
namespace Sm
variable {lf:Tree->Aj} {ah:Int->Aj}
theorem pow_le {a:Nat->Aj}(h:∀i j,a i j->i<=j):∀(k i j:Nat),pow a k i j->i<=j
 |0,i,j,e=>by rw[show i=j from e];exact AD _
 |k+1,i,j,⟨m,b,c⟩=>AP (h i m b) (pow_le h k m j c)
theorem zc1 {X:Tree->Nat->Aj}:∀(a:Au),(∀t∈a,∀i j,X t i j->i<=j)->∀i j,vf X a i j->i<=j
 | [],_,i,j,e=>by rw[show i=j from e];exact AD _
 |t :: a,h,i,j,⟨m,b,c⟩=>AP (h t ov i m b) (zc1 a (λu d=>h u (by simp[d])) m j c)
theorem G2:∀(f:Nat) (T:Tree) (i j:Nat),M lf ah f T i j->i<=j
 |0,_,_,_,h=>h.elim
 |f+1,T,i,j,h=>by
  unfold M at h;split at h;rw[h.1];exact AD _;split at h;have⟨t,_,h⟩:=h;exact G2 f t i j h;split at h;exact zc1 _ (λt _=>G2 f t) i j h;split at h;have⟨k,_,_,h⟩:=h;exact pow_le (G2 f _) k i j h;omega
end Sm
namespace Ref
theorem Ty.congr {X Y:Nat->Aj}{xs B:Ay}(h:Ty X xs B)(e:∀i j,X i j↔Y i j):Ty Y xs B:=
 ⟨h.1,λj=>by rw[h.2 j];constructor<;>rintro⟨b,i,c,a⟩<;>exact⟨b,i,c,by first|exact(e i j).1 a|exact(e i j).2 a⟩⟩
theorem Ty.id:Ty (λi j=>i=j) xs xs:=⟨rfl,λj=>by
 constructor;intro h;exact⟨(AK.1 h).1,j,h,rfl⟩;rintro⟨_,i,h,rfl⟩;exact h⟩
theorem Ty.comp {X b:Nat->Aj}{xs B zs:Ay}(h:Ty X xs B)(g:Ty b B zs)(k:∀i j,b i j->i<=j):Ty (λi j=>∃m,X i m/\b m j) xs zs:=by refine⟨g.1.trans h.1,λj=>?_⟩;rw[g.2 j,h.1];constructor;rintro⟨c,p,f,a⟩;have⟨_,i,d,e⟩:=(h.2 p).1 f;exact⟨c,i,d,p,e,a⟩;rintro⟨c,i,d,p,e,a⟩;exact⟨c,p,(h.2 p).2 ⟨by have:=k p j a;omega,i,d,e⟩,a⟩
variable {B}
theorem DY (b:D zs=D B)(j:Nat):(List.zipWith (· || ·) B zs)[j]?=I G↔B[j]?=I G\/zs[j]?=I G:=by by_cases a:j<D B;rw[List.getElem?_zipWith,AE a,AE oa];simp;rw[Hh ou,Hh oa,Hh oa];simp
theorem Ty.or {X Y:Nat->Aj}{xs B zs:Ay}(h:Ty X xs B)(g:Ty Y xs zs):Ty (λi j=>X i j\/Y i j) xs (List.zipWith (· || ·) B zs):=by refine⟨by rw[List.length_zipWith,h.1,g.1];omega,λj=>?_⟩;rw[DY (g.1.trans h.1.symm),h.2 j,g.2 j];constructor;rintro(⟨b,i,c,a⟩|⟨b,i,c,a⟩);exact⟨b,i,c,Q a⟩;exact⟨b,i,c,O a⟩;rintro⟨b,i,c,a|a⟩;exact Q ⟨b,i,c,a⟩;exact O ⟨b,i,c,a⟩
theorem Ty.none:Ty (λ_ _=>False) xs (dK (D xs) Z):=⟨ov,λj=>by
 constructor;intro h;rw[CP] at h;split at h<;>simp at h;rintro⟨_,_,_,h⟩;exact h.elim⟩
theorem Ty.still {a:Nat->Aj}{xs B:Ay}{k:Nat}(d:∀i j,a i j->i<=j)(h:Ty (pow a k) xs B)(g:Ty a B B):∀m,Ty (pow a (k+m)) xs B
 |0=>h
 |m+1=>((Ty.still d h g m).comp g d).congr (λi j=>by
   rw[<-Lm,jK a (k+m) 1 i j];constructor;rintro⟨p,b,c⟩;exact⟨p,b,j,c,rfl⟩;rintro⟨p,b,q,c,rfl⟩;exact⟨p,b,c⟩)
theorem Ty.pow_succ {a:Nat->Aj}{xs B zs:Ay}{k:Nat}(d:∀i j,a i j->i<=j)(h:Ty (pow a k) xs B)(g:Ty a B zs):Ty (pow a (k+1)) xs zs:=
 (h.comp g d).congr (λi j=>by
  rw[jK a k 1 i j];constructor;rintro⟨p,b,c⟩;exact⟨p,b,j,c,rfl⟩;rintro⟨p,b,q,c,rfl⟩;exact⟨p,b,c⟩)
def span (c:Nat->Aj)(a b i j:Nat):Prop:=∃k,a<=k/\k<=b/\pow c k i j
theorem Ty.Oh {b:Nat->Aj}{xs B:Ay}{a:Nat}(h:Ty (pow b a) xs B):Ty (span b a a) xs B:=
 h.congr (λi j=>⟨λh=>⟨a,AD _,AD _,h⟩,λh=>by
  have⟨k,d,e,c⟩:=h;obtain rfl:k=a:=oa;exact c⟩)
theorem Ty.Og {c:Nat->Aj}{xs B zs:Ay}{a b:Nat}(o:a<=b)(n:∀i j,c i j->i<=j)(h:Ty (span c a b) xs B)(g:Ty c B zs):Ty (span c a (b+1)) xs (List.zipWith (· || ·) B zs):=
 (h.or (h.comp g n)).congr (λi j=>by
  constructor;rintro(⟨k,e,l,d⟩|⟨p,⟨k,e,l,d⟩,f⟩);exact⟨k,e,oa,d⟩;exact⟨k+1,oa,oa,(jK c k 1 i j).2 ⟨p,d,j,f,rfl⟩⟩;rintro⟨k,e,l,d⟩;by_cases r:k<=b;exact Q ⟨k,e,r,d⟩;obtain rfl:k=b+1:=oa;obtain⟨p,f,q,m,rfl⟩:=(jK c b 1 i j).1 d;exact O ⟨p,⟨b,o,AD _,f⟩,m⟩)
theorem Ty.closed {c:Nat->Aj}{xs B zs:Ay}{a b:Nat}(x:a<=b)(t:∀i j,c i j->i<=j)(h:Ty (span c a b) xs B)(g:Ty c B zs)(e:List.zipWith (· || ·) B zs=B):Ty (λi j=>∃k,a<=k/\pow c k i j) xs B:=by
 have v:∀j,zs[j]?=I G->B[j]?=I G:=λj o=>by rw[<-e];exact(DY g.1 j).2 (O o)
 refine⟨h.1,λj=>?_⟩;constructor;intro o;have⟨l,i,m,k,n,_,f⟩:=(h.2 j).1 o;exact⟨l,i,m,k,n,f⟩;rintro⟨l,i,m,k,n,f⟩;obtain⟨d,rfl⟩:∃d,k=a+d:=⟨k-a,oa⟩
 clear n
 induction d generalizing j with
 |zero=>exact(h.2 j).2 ⟨l,i,m,a,AD _,oa,f⟩
 |succ d w=>
  rw[<-Lm] at f;obtain⟨p,s,q,r,rfl⟩:=(jK c (a+d) 1 i j).1 f;have u:=w p (by have:=t p q r;omega) s;exact v q ((g.2 q).2 ⟨by rw[h.1];exact l,p,u,r⟩)
def Kw (l:Ay):Nat:=l.countP (λb=>!b)
theorem Ew (a:D zs=D B):Kw (List.zipWith (· || ·) B zs)<=Kw B/\(List.zipWith (· || ·) B zs≠B->Kw (List.zipWith (· || ·) B zs)<Kw B):=by
 induction B generalizing zs with
 |nil=>simp[Kw]
 |cons y B d=>
  cases zs with
  |nil=>simp at a
  |cons z zs=>
   have⟨c,b⟩:=d (zs:=zs) (by simpa using a);unfold Kw at *;cases y<;>cases z<;>simp at *<;>first|(refine⟨oa,λh=>?_⟩;have:=b h;omega)|omega|exact⟨c,b⟩
end Ref
def lackN (w:E)(v:Y):Nat:=match v with
 | K (I a) n _=>((List.range n).filter λj=>match e w ⟨a.block,j,U⟩ with|some (C G)=>Z|_=>G).length
 |_=>0
theorem yC.lackN {w:E}{S:Y}{bs:Ay}(h:yC w S bs):lackN w S=Kw bs:=by
 obtain⟨g,cap,rfl,_,_,a⟩:=h;unfold Go.Proofs.YtofeiledkmfnfaaGreatDoor.lackN Kw;simp only[];have key:∀(k:Nat),k<=D bs->((List.range k).filter λj=>match e w ⟨g,j,U⟩ with|some (C G)=>Z|_=>G).length=(bs.take k).countP (λb=>!b):=by
  intro k
  induction k with
  |zero=>intro _;simp
  |succ k c=>
   intro d;rw[List.range_succ,List.filter_append,AO,c oa,FK,AE oa,List.countP_append];congr 1;have:=a k bs[k] (AE oa);cases hb:bs[k];rw[hb] at this;simp[this];rw[hb] at this;simp[this]
 rw[key (D bs) (AD _),FY (AD _)]
open Sm (Tree)
def jc (w:E)(g off:Nat)(l:As):Prop:=∀(j:Nat) (t:Tok),l[j]?=I t->∃a c b,
 (e w ⟨g,off+j*6,U⟩=I (M J t.kind)/\e w ⟨g,off+j*6+1,U⟩=I (C t.neg)/\e w ⟨g,off+j*6+2,U⟩=I (K a c b)/\
 e w ⟨g,off+j*6+3,U⟩=I (M J t.c)/\e w ⟨g,off+j*6+4,U⟩=I (M J t.mn)/\e w ⟨g,off+j*6+5,U⟩=I (M J t.mx))/\YP w (K a c b) t.parts
theorem jc.row {l:As}(h:jc w g off l):jW w g off l:=λj t b=>by have⟨c,e,d,a,_⟩:=h j t b;exact⟨c,e,d,a⟩
theorem jc.only {l:As}(h:jc w g off l)(k:zke w L):jc L g off l:=λj t a=>by have⟨c,e,d,⟨i,m,n,o,p,q⟩,b⟩:=h j t a;exact⟨c,e,d,⟨zf k _ _ i id,zf k _ _ m id,zf k _ _ n id,zf k _ _ o id,zf k _ _ p id,zf k _ _ q id⟩,b.keep k⟩
theorem jc.sub {l:As}(h:jc w g off l)(i m:Nat):jc w g (off+i*6) ((l.drop i).take m):=by
 intro j t a;rw[MI] at a;split at a
 .rw[Hf] at a;have⟨d,k,f,b,c⟩:=h (i+j) t a;have e:off+i*6+j*6=off+(i+j)*6:=by omega
  rw[e];exact⟨d,k,f,b,c⟩
 cases a
namespace Ref
def FM (l:Ai)(T:Tree)(i:Nat):Prop:=i<D l/\AT T (kH l i)=G
def FO (l:Ai)(a:Int)(i:Nat):Prop:=Ic (Tw.JT a) l i=G
def MM (l:Ai)(f:Nat)(T:Tree)(i j:Nat):Prop:=Sm.M (FM l) (FO l) f T i j
def Bf (l:Ai)(f:Nat)(kids:Au)(i j:Nat):Prop:=∃t∈kids,MM l (f+1) t i j
theorem FA (f:Nat)(T:Tree)(i j:Nat)(h:MM l f T i j):i<=j:=G2 f T i j h
end Ref
structure Ctx (w:E)(cv fv:Y)(l:Ai)(xs:Ay):Prop where
 c:y8 w cv l
 f:yC w fv xs
 hl:D l<=900
 hx:D xs=D l+1
def Xs (w:E)(xs:Ay)(X:Nat->Aj)(x:Ending)(L:E):Prop:=∃S B,x=R S/\yC L S B/\Ty X xs B/\zke w L
def LO (f:Nat):Prop:=∀(F g off cap:Nat) (a:As) (T:Tree) (cv b:Y) (l:Ai) (xs:Ay) (w:E),3*f<=F->qH f a T->T.kind≠7->jc w g off a->D a<=1000->D a<=cap->Ctx w cv b l xs->
 Uh V 95 #[K (I ⟨g,off,U⟩) (D a) cap,cv,b] w (Xs w xs (MM l F T))
def CC (f:Nat):Prop:=∀(F g off cap:Nat) (a:As) (kids:Au) (cv b:Y) (l:Ai) (xs:Ay) (w:E),3*f+1<=F->vY (qH f) a kids->(∀t∈a,kG t)->jc w g off a->D a<=1000->D a<=cap->Ctx w cv b l xs->
 Uh V 49 #[K (I ⟨g,off,U⟩) (D a) cap,cv,b] w (Xs w xs (Bf l F kids))
theorem zc3:LO 0:=λ_ _ _ _ _ _ _ _ _ _ _ _ h=>h.elim
theorem zaA {t:Tok}{T:Tree}{cv c:Y}{l:Ai}{xs:Ay}{w:E}(a:t.kind≠3)(k:∀i j,Jj t l i j↔MM l F T i j)(m:D t.parts<=1000)(o:∀p∈t.parts,D p.spans<=10)(h:jc w g off [t])(b:Ctx w cv c l xs):Uh V 95 #[K (I ⟨g,off,U⟩) 1 cap,cv,c] w (Xs w xs (MM l F T)):=by
 have⟨q,s,r,⟨N,P,W,X,z4,z5⟩,n⟩:=h 0 t rfl;simp only[FV,BD] at N P W X z4 z5;have ac:(t.kind == 3)=Z:=by simp[a]
 have y:H (Uh V 141 #[Uf #[M J t.kind,C t.neg,K q s r,M J t.c,M J t.mn,M J t.mx],cv,c] w (Xs w xs (MM l F T))):=
  (zeP t (K q s r) cv c l xs w n b.c b.f b.hl b.hx m o).mono (by
   rintro e L ⟨S,B,z,d,a,f⟩;exact⟨S,B,z,d,a.congr k,f⟩)
 go_enter func95,ntmps95;go_wp2_with(go_at_call 141;refine y.mono ?_;rintro e L ⟨S,B,rfl,d,a,f⟩;have u:=zd d;have v:=zd a;have x:=zd f);go_ret;exact⟨S,B,rfl,u,v,x⟩
theorem zhd {a b:As}{o c:Tok}{T:Tree}{cv d:Y}{l:Ai}{xs:Ay}{w:E}(u:CC f)(hF:3*f+1<=F)(h5:T.kind=5)(p:a=o :: b++[c])(v:o.kind=3)(y:vY (qH f) b T.kids)(r:∀t∈b,kG t)(h:jc w g off a)(hl:D a<=1000)(hc:D a<=cap)(s:Ctx w cv d l xs):Uh V 95 #[K (I ⟨g,off,U⟩) (D a) cap,cv,d] w (Xs w xs (MM l (F+2) T)):=by
 have af:D a=D b+2:=by rw[p];simp
 have q:zT a 0=3:=by rw[p];exact v
 have z0:dx w ⟨g,off,U⟩=I (M J 3):=by have:=h.row.kind 0 oa;rw[q,FV,BD] at this;exact this
 have x:jc w g (off+6) b:=by
  have:=h.sub 1 (D b);have e:(a.drop 1).take (D b)=b:=by rw[p];simp
  rw[e] at this;exact this
 have W:=zd (zav g off cap a w h.row hl hc oa q);have X:H (Uh V 49 #[K (I ⟨g,off+6,U⟩) (D a-2) (cap-1),cv,d] w (Xs w xs (MM l (F+2) T))):=by
  have e:D a-2=D b:=oa;rw[e];exact(u F g (off+6) (cap-1) b T.kids cv d l xs w hF y r x oa oa s).mono (by
   rintro e L ⟨S,B,h1,k,m,n⟩;refine⟨S,B,h1,k,m.congr (λi j=>?_),n⟩;unfold MM;show _↔Sm.M _ _ ((F+1)+1) T i j;unfold Sm.M;rw[iN oa,IN h5];rfl)
 have ag:2<=D a:=oa;clear u y h x s q p af v r;go_enter func95,ntmps95;go_wp2_with(first
  |(go_at_call 73;refine AL W ?_)
  |(go_at_call 49;refine X.mono ?_;rintro e L ⟨S,B,rfl,k,m,n⟩;have z:=zd k;have N:=zd m;have P:=zd n;clear k m n))
 go_ret;exact⟨S,B,rfl,z,N,P⟩
theorem zc4 (f:Nat)(v:CC f):LO (f+1):=by
 intro F g off cap ts T cv fv l xs w hF s r h z x a;obtain⟨F,rfl⟩:∃k,F=k+2:=⟨F-2,oa⟩
 rcases s with⟨W,a0,a3,t,rfl,d,N,P⟩|⟨t,rfl,d,⟨af,ag⟩,ah,b,L⟩|⟨q,o,c,us,y,B,ae,u,S⟩|⟨X,_⟩
 .have e:t.parts.length<=1000/\∀p∈t.parts,p.spans.length<=10:=by rw[P];exact⟨ov,λp b=>by cases b⟩
  refine zaA oa (λi j=>?_) e.1 e.2 h a;unfold MM;show _↔Sm.M _ _ ((F+1)+1) T i j;unfold Sm.M Jj FO;rw[IN W,N];constructor
  grind
  rintro⟨m,n⟩;exact Q ⟨d,m.symm,n⟩
 .refine zaA oa (λi j=>?_) b L h a;unfold MM;show _↔Sm.M _ _ ((F+1)+1) T i j;unfold Sm.M Jj FM;rw[iN oa,iN oa,iN oa,iN oa];constructor
  grind
  grind
 exact zhd v oa q y B S u.2 h z x a;exact absurd X r
def Ig (g off:Nat)(c:As)(cap:Nat)(cv:Y)(l:Ai)(b:Nat->Aj)(w:E):Prop:=∀(a:Y) (xs:Ay) (L:E),zke w L->yC L a xs->D xs=D l+1->
 Uh V 95 #[K (I ⟨g,off,U⟩) (D c) cap,cv,a] L (Xs L xs b)
theorem Ed {us:As}{q:Tok}{qv cv fv:Y}{l:Ai}{xs:Ay}{T:Nat->Aj}{w:E}(hO:Ig g off us cap cv l T w)(hR:∀i j,T i j->i<=j)(hx:yC w fv xs)(hl:D l<=900)(aH:D xs=D l+1)(h0:0<=q.mn) (h1:q.mn<=100) (h2:-1<=q.mx) (h3:q.mx<=100) (h4:q.mx = -1\/q.mn<=q.mx):Uh V 94 #[K (I ⟨g,off,U⟩) (D us) cap,Uf #[M J q.kind,C q.neg,qv,M J q.c,M J q.mn,M J q.mx],cv,fv] w (Xs w xs (λi j=>∃k:Nat,q.mn<=k/\(q.mx = -1\/(k:Int)<=q.mx)/\pow T k i j)):=by
 have⟨qk,qn,qp,qc,a,p⟩:=q;simp only[] at *;obtain⟨a,rfl⟩:∃m:Nat,a=(m:Int):=⟨a.toNat,oa⟩
 have HO:=zd hO;have HR:=zd hR;have HX:=zd hx;have ab:=zd aH;have H4:=zd h4;have aA:zke w (dB w (Ub #[M J qk,C qn,qv,M J qc,M J a,M J p] 177)):=Ag;have c4:(dB w (Ub #[M J qk,C qn,qv,M J qc,M J a,M J p] 177)).cell? ⟨dg (A w),4,U⟩=I (M J a):=zj w _ rfl _ _ 4 _ rfl;have c5:(dB w (Ub #[M J qk,C qn,qv,M J qc,M J a,M J p] 177)).cell? ⟨dg (A w),5,U⟩=I (M J p):=zj w _ rfl _ _ 5 _ rfl;have aa:=zd aA;have C4:=zd c4;have C5:=zd c5;clear hO hR hx aH h4 aA c4 c5;go_enter func94,ntmps94;go_upto_block 0 with fail;generalize dB w (Ub #[M J qk,C qn,qv,M J qc,M J a,M J p] 177)=W at *;go_cut[9] (λy wx=>∃B,H (yC wx y B)/\H (Ty (pow T a) xs B)/\H (zke W wx))
 case first=>
  go_wp2;go_loopw[9,10] (λy k wr=>∃(n:Nat) (B:Ay),k=M J n/\n<=a/\H (yC wr y B)/\H (Ty (pow T n) xs B)/\H (zke W wr)) (λ_ k _=>a-(intOf k).toNat);exact⟨0,xs,rfl,oa,HX.keep aa,Ty.id xs,zg.refl _ _⟩;obtain⟨n,B,rfl,hn,c,o,d⟩:=hrel;have k4:=zf d _ _ C4 id;have aI:D B<=901:=(by have:=o.1;have:=zb ab;omega);obtain⟨v,x,u,X⟩:∃v x u,u9=K v x u:=(by obtain⟨g1,c1,h,_⟩:=zb c;exact⟨_,_,_,h⟩);subst X;have HC:=zd (zb HO _ B wr (aa.trans d) c (o.1.trans ab));by_cases aT:n<a
  .go_wp2_with(first
    |(go_at_call 95;refine HC.mono ?_;rintro e w2 ⟨S,zs,rfl,L,N,z⟩;have P:=zd L;have r:=zd N;have s:=zd z;clear L N z)
    |(go_at_call 140;refine(zc0 _ _ zs B _ P (c.keep s) r.1.symm (by have:=r.1;omega)).mono ?_;rintro e w3 ⟨rfl,F⟩;have t:=zd F;clear F))
   .go_meet
    case rel=>
     have ac:zs=B:=(by first|assumption|simp_all);have aE:=o.still HR (by have:=zb r;rw[ac] at this;exact this) (a-n);rw[show n+(a-n)=a by omega] at aE;exact⟨B,by have:=P.keep t;rw[ac] at this;exact this,aE,(d.trans s).trans t⟩
   exact⟨⟨n+1,zs,Ae,oa,P.keep t,o.pow_succ HR r,(d.trans s).trans t⟩,Ad⟩
  obtain rfl:n=a:=oa;go_wp2;go_meet
  case rel=>exact⟨B,c,o,d⟩
 case rest=>
  have⟨B,c,o,d⟩:=hcut;have k4:=zf d _ _ C4 id;have k5:=zf d _ _ C5 id;obtain⟨v,x,u,X⟩:∃v x u,u9=K v x u:=by obtain⟨g1,c1,h,_⟩:=zb c;exact⟨_,_,_,h⟩
  subst X;by_cases a3:p<0
  .have aV:H (p = -1):=(by show p = -1;omega);go_wp2;go_loopw[9] (λy wr=>∃(m:Nat) (B:Ay),H (yC wr y B)/\H (Ty (Ref.span T a (a+m)) xs B)/\H (zke W wr)) (λy wr=>lackN wr y);exact⟨0,B,c,o.Oh,d⟩;have⟨m,B,c,o,d⟩:=hrel;have aI:D B<=901:=(by have:=o.1;have:=zb ab;omega);have aD:=c.lackN;obtain⟨v,x,u,X⟩:∃v x u,u9=K v x u:=(by obtain⟨g1,c1,h,_⟩:=zb c;exact⟨_,_,_,h⟩);subst X;have HC:=zd (zb HO _ B wr (aa.trans d) c (o.1.trans ab));have HL:=zd aD;clear aD;go_wp2_with(first
    |(go_at_call 95;refine HC.mono ?_;rintro e w2 ⟨S,zs,rfl,L,N,z⟩;have P:=zd L;have r:=zd N;have s:=zd z;clear L N z)
    |(go_at_call 93;refine(Zc _ _ B zs _ (c.keep s) P r.1 oa).mono ?_;rintro e w3 ⟨aU,rfl,ah,F⟩;have ad:=zd ah;have t:=zd F;clear ah F)
    |(go_at_call 140;refine(zc0 _ _ _ B _ ad ((c.keep s).keep t) (by rw[List.length_zipWith,(zb r).1];omega) (by rw[List.length_zipWith,(zb r).1];omega)).mono ?_;rintro e w4 ⟨rfl,aB⟩;have af:=zd aB;clear aB))
   .go_ret;have ac:List.zipWith (· || ·) B zs=B:=(by first|assumption|simp_all);refine⟨_,B,rfl,((c.keep s).keep t).keep af,(o.closed oa HR r ac).congr (λi j=>?_),(((aa.trans d).trans s).trans t).trans af⟩;constructor
    grind
    rintro⟨k,e1,_,e2⟩;exact⟨k,oa,e2⟩
   have ac:List.zipWith (· || ·) B zs≠B:=(by first|assumption|simp_all);refine⟨⟨m+1,_,ad.keep af,o.Og (b:=a+m) oa HR r,((d.trans s).trans t).trans af⟩,?_⟩;rw[zb HL,(ad.keep af).lackN];exact(Ew r.1).2 ac
  have a1:(a:Int)<=p:=(by rcases(zb H4) with h|h;omega;exact h);obtain⟨p,rfl⟩:∃m:Nat,p=(m:Int):=⟨p.toNat,oa⟩
  have a2:a<=p:=oa;go_wp2;go_loopw[9,15] (λy k wr=>∃(n:Nat) (B:Ay),k=M J n/\a<=n/\n<=p/\H (yC wr y B)/\H (Ty (Ref.span T a n) xs B)/\H (zke W wr)) (λ_ k _=>p-(intOf k).toNat);exact⟨a,B,rfl,oa,oa,c,o.Oh,d⟩;clear k4 k5;obtain⟨n,B,rfl,a5,a6,c,o,d⟩:=hrel;have k5:=zf d _ _ C5 id;have aI:D B<=901:=(by have:=o.1;have:=zb ab;omega);obtain⟨v,x,u,X⟩:∃v x u,u9=K v x u:=(by obtain⟨g1,c1,h,_⟩:=zb c;exact⟨_,_,_,h⟩);subst X;have HC:=zd (zb HO _ B wr (aa.trans d) c (o.1.trans ab));by_cases aT:n<p
  .go_wp2_with(first
    |(go_at_call 95;refine HC.mono ?_;rintro e w2 ⟨S,zs,rfl,L,N,z⟩;have P:=zd L;have r:=zd N;have s:=zd z;clear L N z)
    |(go_at_call 93;refine(Zc _ _ B zs _ (c.keep s) P r.1 oa).mono ?_;rintro e w3 ⟨aU,rfl,ah,F⟩;have ad:=zd ah;have t:=zd F;clear ah F))
   exact⟨⟨n+1,_,Ae,oa,oa,ad,o.Og oa HR r,(d.trans s).trans t⟩,Ad⟩
  obtain rfl:n=p:=oa;go_wp2;go_ret;refine⟨_,B,rfl,c,o.congr (λi j=>?_),aa.trans d⟩;constructor;rintro⟨k,e1,e2,e3⟩;exact⟨k,oa,O oa,e3⟩;rintro⟨k,e1,e2,e3⟩;exact⟨k,oa,oa,e3⟩
namespace Tw
def Rest (f:Nat)(d:As)(e c:Au):Prop:=∃a,TG (qH f) a e/\((d=a/\c=[])\/∃bar b,d=a++bar :: b/\bar.kind=5/\vY (qH f) b c)
theorem vY.open {j:As}{kids:Au}(h:vY (qH f) j kids):∃t d,kids=t :: d/\t.kind=6/\Rest f j t.kids d:=by
 obtain⟨p,fin,o,c,rfl,rfl,i,g,e⟩:=h;cases o with
 |nil=>
  obtain rfl:p=[]:=i;exact⟨c,[],rfl,g,fin,e,Q ⟨rfl,rfl⟩⟩
 |cons t r=>
  obtain⟨a,b,bar,rfl,k,l,n,m⟩:=i;exact⟨t,r++[c],rfl,l,a,n,O ⟨bar,b++fin,ov,k,b,fin,r,c,rfl,rfl,m,g,e⟩⟩
theorem qH.head:∀{f:Nat} {b:As} {T:Tree},qH f b T->∃t r,b=t :: r/\(t.kind=1\/t.kind=2\/t.kind=3)
 |0,_,_,h=>h.elim
 |f+1,b,T,h=>by
  obtain⟨_,_,_,t,rfl,a,_⟩|⟨t,rfl,a,_⟩|⟨_,o,c,d,rfl,e,_⟩|⟨_,d,q,rfl,_,_,_,_,g⟩:=h;exact⟨t,[],rfl,O (Q a)⟩;exact⟨t,[],rfl,Q a⟩;exact⟨o,d++[c],rfl,O (O e)⟩;obtain⟨t,r,rfl,a⟩:=qH.head g;exact⟨t,r++[q],rfl,a⟩
theorem Rest.nil {f:Nat}{d g:Au}(h:Rest f [] d g):d=[]/\g=[]:=by
 obtain⟨a,j,⟨c,i⟩|⟨bar,b,c,_⟩⟩:=h
 .subst c;cases d with
  |nil=>exact⟨rfl,i⟩
  |cons t r=>
   have⟨x,y,e,k,_⟩:=j;obtain⟨u,v,rfl,_⟩:=k.head;simp at e
 simp at c
theorem Rest.bar {f:Nat}{t:Tok}{r:As}{d e:Au}(h:Rest f (t :: r) d e)(g:t.kind=5):d=[]/\vY (qH f) r e:=by
 have⟨a,i,h⟩:=h;have j:d=[]:=by
  cases d with
  |nil=>rfl
  |cons u v=>
   obtain⟨x,y,rfl,k,_⟩:=i;obtain⟨z,w,rfl,n⟩:=k.head;obtain⟨c,_⟩|⟨bar,b,c,_⟩:=h;simp at c;rw[c.1] at g;omega;simp at c;rw[c.1] at g;omega
 subst j;obtain rfl:a=[]:=i;obtain⟨c,_⟩|⟨bar,b,c,l,m⟩:=h;simp at c
 grind
theorem Rest.term {t:Tok}{r:As}{e g:Au}(h:Rest f (t :: r) e g)(n:t.kind≠5):∃T more a l,e=T :: more/\t :: r=a++l/\qH f a T/\Rest f l more g:=by
 have⟨a,i,h⟩:=h;cases e with
 |nil=>
  obtain rfl:a=[]:=i;obtain⟨c,_⟩|⟨bar,b,c,d,_⟩:=h;simp at c
  grind
 |cons T more=>
  obtain⟨x,y,rfl,j,k⟩:=i;obtain⟨c,d⟩|⟨bar,b,c,d,m⟩:=h;exact⟨T,more,x,y,rfl,c,j,y,k,Q ⟨rfl,d⟩⟩;exact⟨T,more,x,y++bar :: b,rfl,by rw[c,Bu],j,y,k,O ⟨bar,b,rfl,d,m⟩⟩
theorem Rest.RP {b:As}{i c:Au}(h:Rest f b i c):qT b≠6:=by
 cases b with
 |nil=>exact(show(0:Int)≠6 by decide)
 |cons t r=>
  show t.kind≠6;by_cases g:t.kind=5;omega;have⟨T,more,a,b,_,e,d,_⟩:=h.term g;obtain⟨u,v,rfl,j⟩:=d.head;simp at e;rw[e.1];omega
theorem V5 {l a d:As}{k:Tree}{i:Nat}(m:qH f a k)(r:k.kind≠7)(h:l.drop i=a++d):qQ l i=((i+D a:Nat):Int):=by
 have y:D l-i=D a+D d:=by rw[<-FQ,h,AO]
 cases f with
 |zero=>exact m.elim
 |succ f=>
  have n:zT l i=qT (a++d):=by rw[<-h,JW]
  have p:∀t:Tok,a=[t]->t.kind≠3->qQ l i=((i+D a:Nat):Int):=λt e g=>by subst e;unfold qQ;rw[iN (by rw[n];exact g)];simp
  obtain⟨_,_,_,t,b,x,_⟩|⟨t,b,x,_⟩|⟨_,o,c,q,b,z,u,s,_⟩|⟨B,_⟩:=m;exact p t b oa;exact p t b oa
  (subst b;have w:i<D l:=(by simp at y;omega);have g:zT l i=3:=(by rw[n];exact z);have v:l.drop (i+1)=q++c :: d:=by rw[<-G5,h];simp);have:=(Qn w g (j:=D q) (by rw[v];exact QA s u)).1;rw[this];simp;omega;exact absurd B r
theorem zf0 {l b a:As}{i:Nat}(c:l.drop i=b++a):zT l (i+D b)=qT a:=by rw[<-JW,<-G5,c];simp
end Tw
theorem D7 (o:LO f)(n:3*f<=F){g off cap E i:Nat}{l a:As}{c:Tree}{cv:Y}{b:Ai}{w:World}(h:jc w g off l)(z:D l<=1000)(y:D l<=cap)(v:E=i+D a)(x:E<=D l)(s:(l.drop i).take (D a)=a)(m:qH f a c)(k:c.kind≠7)(p:y8 w cv b)(r:D b<=900):∀(d:Y) (xs:Ay) (L:World),zke w L->yC L d xs->D xs=D b+1->Uh V 95 #[K (I ⟨g,off+i*6,U⟩) (E-i) (cap-i),cv,d] L (Xs L xs (MM b F c)):=by intro d xs L e t u;have q:E-i=D a:=oa;rw[q];have j:=(h.only e).sub i (D a);rw[s] at j;exact o F g (off+i*6) (cap-i) a c cv d b xs L n m k j oa oa ⟨p.keep e,t,r,u⟩
theorem zc5 (f:Nat)(hO:LO f):CC f:=by
 intro F g off cap c kids cv fv d xs w hF hC bA h hl hc hX;have bL:=zd bA;clear bA;obtain⟨t0,a3,rfl,bl,bw⟩:=hC.open;have hx:=hX.f;have b2:=qI (D xs) (by have:=hX.hx;have:=hX.hl;omega);have HX:=zd hX;have au:=zd h;have HO:=zd hO;have bK:=zd bw;have aT:=zd bl;have HF:=zd hF;have cw:D xs<=901:=by have:=hX.hx;have:=hX.hl;omega
 have HM:H (yC (dB w (Ub (madeCells #[C Z] (D xs)) 4)) (K (I ⟨dg (A w),0,U⟩) (D xs) (D xs)) (dK (D xs) Z)):=by have:=(vA.made w (D xs)).row ov (cap:=D xs) ov;exact zd (by simpa using this)
 obtain⟨gx,cx,rfl,_⟩:=hx;clear hX h hO bw bl hF hC;go_enter func49,ntmps49;go_wp2;clear b2;have bk:H (zke w (dB w (Ub (madeCells #[C Z] (D xs)) 4))):=Ag;generalize dB w (Ub (madeCells #[C Z] (D xs)) 4)=W at *;go_loopw[7,8,9] (λav nv k wr=>∃(i:Nat) (es ns:Ay) (ar N:Nat->Aj) (bg ac:Au),k=M J i/\i<=D c/\H (zke W wr)/\H (yC wr av es)/\H (yC wr nv ns)/\H (Ty ar xs es)/\H (Ty N xs ns)/\H (Tw.Rest f (c.drop i) bg ac)/\
  H (∀i j,Bf d F (t0 :: a3) i j↔ar i j\/(∃m,N i m/\vf (MM d F) bg m j)\/∃t∈ac,MM d (F+1) t i j)) (λ_ _ k _=>D c-(intOf k).toNat)
 .refine⟨0,dK (D xs) Z,xs,_,_,t0.kids,a3,rfl,oa,zg.refl _ _,HM,HX.f.keep bk,Ty.none xs,Ty.id xs,bK,λi j=>?_⟩;have e:MM d (F+1) t0 i j↔vf (MM d F) t0.kids i j:=by show Sm.M _ _ (F+1) t0 i j↔_;unfold Sm.M;rw[iN (by rw[zb aT];decide),iN (by rw[zb aT];decide),IN (zb aT)];rfl
  constructor;rintro⟨t,X,hm⟩;obtain rfl|X:=BZ.1 X;exact O (Q ⟨i,rfl,e.1 hm⟩);exact O (O ⟨t,X,hm⟩);rintro(h|⟨m,rfl,h⟩|⟨t,X,hm⟩);exact h.elim;exact⟨t0,ov,e.2 h⟩;exact⟨t,by simp[X],hm⟩
 obtain⟨i,es,ns,ar,N,bg,ac,rfl,hi,HK,ax,ay,ag,ah,a1,aW⟩:=hrel;have s:H (zke w wr):=bk.trans HK;obtain⟨ga,na,ca,b4⟩:∃ga na ca,u7=K ga na ca:=by obtain⟨g1,c1,h,_⟩:=zb ax;exact⟨_,_,_,h⟩
 subst b4;obtain⟨gn,nn,ad,b5⟩:∃ga na ca,u8=K ga na ca:=by obtain⟨g1,c1,h,_⟩:=zb ay;exact⟨_,_,_,h⟩
 subst b5;have cn:D es<=901:=by have:=ag.1;omega
 by_cases aG:i<D c
 .have cu:=(au.only s).row.kind i aG;have aD:=JV aG;have aQ:=QE aG;by_cases h5:zT c i=5
  ·(have bW:(zT c i == 5)=G:=(by simp[h5]);have P:=zb a1;rw[aD] at P;obtain⟨rfl,bo⟩:=P.bar (by rw[<-aQ];exact h5);obtain⟨t1,bN,rfl,bm,bx⟩:=bo.open;have az:=zd bx;have aU:=zd bm;clear P bo bx bm h5 aD aQ;go_wp2_with(go_at_call 93;refine(Zc _ _ es ns _ ax ay (ah.1.trans ag.1.symm) oa).mono ?_;rintro e w2 ⟨S,rfl,n,o⟩;have af:=zd n;have y:=zd o;clear n o);refine⟨⟨i+1,_,xs,_,_,t1.kids,bN,Ae,oa,HK.trans y,af,(HX.f.keep s).keep y,ag.or ah,Ty.id xs,az,λi j=>?_⟩,Ad⟩;rw[zb aW i j];have e:MM d (F+1) t1 i j↔vf (MM d F) t1.kids i j:=by show Sm.M _ _ (F+1) t1 i j↔_;unfold Sm.M;rw[iN (by rw[zb aU];decide),iN (by rw[zb aU];decide),IN (zb aU)];rfl);constructor
   .rintro(h|⟨m,h,rfl⟩|⟨t,X,hm⟩);exact Q (Q h);exact Q (O h)
    grind
   rintro((h|h)|⟨m,rfl,h⟩|⟨t,X,hm⟩);exact Q h;exact O (Q ⟨j,h,rfl⟩);exact O (O ⟨t1,ov,e.2 h⟩);exact O (O ⟨t,by simp[X],hm⟩)
  (have bW:(zT c i == 5)=Z:=(by simp[h5]);have P:=zb a1;rw[aD] at P;obtain⟨T,more,a,aH,rfl,z,hA,bz⟩:=P.term (by rw[<-aQ];exact h5);rw[<-aD] at z;have az:=zd bz;have bp:H (∀i j,Bf d F (t0 :: a3) i j↔ar i j\/(∃m,(∃p,N i p/\MM d F T p m)/\vf (MM d F) more m j)\/∃t∈ac,MM d (F+1) t i j):=λi j=>by rw[zb aW i j];constructor;rintro(h|⟨m,h,p,h1,h2⟩|h);exact Q h;exact O (Q ⟨p,⟨m,h,h1⟩,h2⟩);exact O (O h);rintro(h|⟨p,⟨m,h,h1⟩,h2⟩|h);exact Q h;exact O (Q ⟨m,h,p,h1,h2⟩);exact O (O h));have cs:¬cap=i:=oa;have bD:=ah.1.trans HX.hx;have bi:=zd bD;clear P bz h5 aD aQ bD;by_cases h7:T.kind=7
  .obtain⟨f',rfl⟩:∃f',f=f'+1:=by
    cases f with
    |zero=>exact hA.elim
    |succ f'=>exact⟨f',rfl⟩
   (have bX:∃l q,a=l++[q]/\q.kind=6/\q.mn=T.a/\q.mx=T.b/\(T.kid.kind=5\/Ls T.kid)/\qH f' l T.kid:=by obtain⟨k0,_⟩|⟨t,_,_,⟨_,k4⟩,_⟩|⟨k5,_⟩|⟨_,l,q,r⟩:=hA;omega;omega;omega;exact⟨l,q,r⟩);obtain⟨l,q,rfl,bE,bF,bG,bB,hU⟩:=bX;have a7:=qH.up f' (f'+1) l T.kid oa hU;have ba:T.kid.kind≠7:=(by obtain h|⟨_,h⟩:=bB<;>omega);rw[Bu] at z;have al:c.drop i=l++(q :: aH):=z;have hE:=V5 a7 ba al;have bb:D c-i=D l+(D aH+1):=(by rw[<-FQ,al,AO];simp);have aB:(c.drop i).take (D l)=l:=(by rw[al];simp);have ao:c.drop (i+D l+1)=aH:=(by rw[Lm,<-G5,al];simp);have am:zT c (i+D l)=6:=(by rw[zf0 al];exact bE);have aP:c[i+D l]?=I q:=(by rw[<-Hf,al];simp);have aw:=zb bL q (Bg aP);have⟨u,v,aC,_⟩:=hU.head;have a9:1<=D l:=(by rw[aC];simp);obtain⟨F,rfl⟩:∃F',F=F'+1:=⟨F-1,by have:=zb HF;omega⟩
   obtain⟨b,aj⟩:∃b,b=i+D l:=⟨_,rfl⟩
   (rw[<-aj] at hE am ao aP;have HE:=zd hE;have HN:H (yR c i=((b:Nat):Int)+1):=(by show _=_;unfold yR;rw[hE,IN ⟨oa,by rw[CH];exact am⟩]);have⟨pa,pn,pc,⟨z0,z1,z2,z3,z4,z5⟩,_⟩:=(au.only s) b q aP;have bt:∀i j,(∃k:Nat,q.mn<=k/\(q.mx = -1\/(k:Int)<=q.mx)/\pow (MM d F T.kid) k i j)↔MM d (F+1) T i j:=λi j=>by show _↔Sm.M _ _ (F+1) T i j;unfold Sm.M;rw[iN oa,iN oa,iN oa,IN h7,bF,bG];rfl);have bv:=D7 (zb HO) (F:=F) (by have:=zb HF;omega) (au.only s) hl hc aj oa aB a7 ba (HX.c.keep s) HX.hl;have HZ:H (∀W',zke wr W'->Uh V 94 #[K (I ⟨g,off+i*6,U⟩) (b-i) (cap-i),Uf #[M J q.kind,C q.neg,K pa pn pc,M J q.c,M J q.mn,M J q.mx],cv,K gn nn ad] W' λx L=>(∃S zs,x=R S/\yC L S zs/\Ty (MM d (F+1) T) ns zs)/\zke wr L/\
     dx L ⟨g,off+b*6,U⟩=I (M J q.kind)/\dx L ⟨g,off+b*6+1,U⟩=I (C q.neg)/\dx L ⟨g,off+b*6+2,U⟩=I (K pa pn pc)/\dx L ⟨g,off+b*6+3,U⟩=I (M J q.c)/\dx L ⟨g,off+b*6+4,U⟩=I (M J q.mn)/\dx L ⟨g,off+b*6+5,U⟩=I (M J q.mx)):=λW' a8=>by
    have bC:b-i=D l:=oa;have b3:Ig g (off+i*6) l (cap-i) cv d (MM d F T.kid) W':=λbT B L hk hb b7=>by
     have:=bv bT B L (a8.trans hk) hb b7
     rwa [bC] at this
    rw[bC];refine(Ed b3 (FA d F T.kid) (ay.keep a8) HX.hl bi aw.1 aw.2.1 aw.2.2.1 aw.2.2.2.1 aw.2.2.2.2).mono ?_;rintro e L ⟨S,zs,rfl,b1,aa,ab⟩;have k:=a8.trans ab;exact⟨⟨S,zs,rfl,b1,aa.congr bt⟩,k,zf k _ _ z0 id,zf k _ _ z1 id,zf k _ _ z2 id,zf k _ _ z3 id,zf k _ _ z4 id,zf k _ _ z5 id⟩
   have aY:=zd (au.only s).row;have a2:H (Tw.Rest (f'+1) (c.drop (b+1)) more ac):=(by rw[ao];exact az);have b0:i<b:=oa;have br:b<D c:=oa;have co:(0:Int)<=((i:Nat):Int):=oa;have cp:((i:Nat):Int)<=((b:Nat):Int):=oa;have n:((b:Nat):Int)<=((cap:Nat):Int):=oa;have cq:((b:Nat):Int)<=((D c:Nat):Int):=oa;have cr:((b:Nat):Int)<((D c:Nat):Int):=oa;clear hE bb aB ao am aC a9 aj hA h7 z al hU a7 bB ba bF bG bE aP aw bt bv;generalize q.mn=cb at *;generalize q.mx=cc at *;generalize q.c=qc at *;generalize q.neg=cd at *;generalize q.kind=qk at *;go_wp2_with(go_at_call 72;refine AL (ZO g off cap c i _ aY hl hc aG) ?_;rw[zb HE,zb HN]);go_region_held3(λL=>dx L ⟨g,off+b*6,U⟩=I (M J qk)/\dx L ⟨g,off+b*6+1,U⟩=I (C cd)/\dx L ⟨g,off+b*6+2,U⟩=I (K pa pn pc)/\dx L ⟨g,off+b*6+3,U⟩=I (M J qc)/\dx L ⟨g,off+b*6+4,U⟩=I (M J cb)/\dx L ⟨g,off+b*6+5,U⟩=I (M J cc)) (go_keep)
    (first|(go_at_call 94;refine(zb HZ _ Ah).mono ?_;rintro e w2 ⟨⟨S,zs,rfl,n,aE⟩,o,y0,y1,y2,y3,y4,y5⟩;have af:=zd n;have aZ:=zd aE;have y:=zd o;clear n aE o))
   go_wp2;exact⟨⟨b+1,es,zs,ar,_,more,ac,Ae,oa,HK.trans y,ax.keep y,af,ag,ah.comp aZ (FA d (F+1) T),a2,bp⟩,Ad⟩
  have hE:=V5 hA h7 z;have bb:D c-i=D a+D aH:=(by rw[<-FQ,z,AO]);have aB:(c.drop i).take (D a)=a:=(by rw[z];simp);have ao:c.drop (i+D a)=aH:=(by rw[<-G5,z];simp);have am:zT c (i+D a)≠6:=(by rw[zf0 z];exact az.RP);have⟨u,v,aC,_⟩:=hA.head;have a9:1<=D a:=(by rw[aC];simp);obtain⟨b,aj⟩:∃b,b=i+D a:=⟨_,rfl⟩
  rw[<-aj] at hE am ao;have HE:=zd hE;have HN:H (yR c i=((b:Nat):Int)):=(by show _=_;unfold yR;rw[hE,iN (λhh=>am (by have:=hh.2;rw[CH] at this;exact this))]);have HC:=zd (D7 (zb HO) (F:=F) (by have:=zb HF;omega) (au.only s) hl hc aj oa aB hA h7 (HX.c.keep s) HX.hl _ ns wr (zg.refl _ _) ay bi);have aY:=zd (au.only s).row;have a2:H (Tw.Rest f (c.drop b) more ac):=(by rw[ao];exact az);have b0:i<b:=oa;have br:b<=D c:=oa;clear hE bb aB ao am aC a9 aj hA h7 z;go_wp2_with(first
   |(go_at_call 72;refine AL (ZO g off cap c i _ aY hl hc aG) ?_;rw[zb HE,zb HN])
   |(go_at_call 95;refine HC.mono ?_;rintro e w2 ⟨S,zs,rfl,n,aE,o⟩;have af:=zd n;have aZ:=zd aE;have y:=zd o;clear n aE o))
  exact⟨⟨b,es,zs,ar,_,more,ac,rfl,br,HK.trans y,ax.keep y,af,ag,ah.comp aZ (FA d F T),a2,bp⟩,Ad⟩
 (obtain rfl:i=D c:=oa;have P:=zb a1;rw[List.drop_length] at P;obtain⟨rfl,rfl⟩:=P.nil;go_wp2_with(go_at_call 93;refine(Zc _ _ es ns _ ax ay (ah.1.trans ag.1.symm) oa).mono ?_;rintro e w2 ⟨S,rfl,n,o⟩;have af:=zd n;have y:=zd o;clear n o);go_ret;refine⟨_,_,rfl,af,(ag.or ah).congr (λi j=>?_),s.trans y⟩;rw[zb aW i j];constructor);rintro(h|h);exact Q h;exact O (Q ⟨j,h,rfl⟩);rintro(h|⟨m,h,rfl⟩|⟨t,X,_⟩);exact Q h;exact O h;cases X
theorem Qr {w:E}{base:Nat}:∀(l:Ba) (c:An),yw w base l c->∀(j:Nat) (p:Pt),l[j]?=I p->∃v,c[j*2]?=I (C p.neg)/\c[j*2+1]?=I v/\yB w base v p.spans
 | [],_,_,j,t,a=>by simp at a
 |u :: d,b :: v :: vs,h,0,t,a=>by
  simp only[Ir,Option.some.injEq] at a;subst a;obtain⟨rfl,e,_⟩:=h;exact⟨v,rfl,rfl,e⟩
 |u :: d,b :: v :: vs,h,j+1,t,a=>by
  have⟨x,z⟩:=Qr d vs h.2.2 j t (by simpa using a);exact⟨x,by
   rw[show(j+1)*2=j*2+2 by omega];exact z⟩
 |_ :: _,[],h,_,_,_=>absurd h id
 |_ :: _,[_],h,_,_,_=>absurd h id
theorem YP.of {w:E}{base:Nat}{v:Y}{l:Ba}(h:Tt w base v l):YP w v l:=by
 have⟨a,d,r⟩:=h;have s:=zh d;have⟨m,n⟩:=d;obtain⟨rfl,k⟩|⟨g,cap,i,rfl,o,q,b,t,u,y⟩:=n;exact Q ⟨rfl,Cb k⟩;refine O ⟨g,cap,rfl,b,(s g rfl).2,?_⟩;intro j p c;have⟨x,L,N,f⟩:=Qr l a r j p c;obtain⟨z,F,B,rfl⟩:=zq f;have P:j<D l:=(AK.1 c).1;have e:w.ownsRow base 274 2 (K (I ⟨g,0,U⟩) (D l) cap) (D l) a:=⟨m,O ⟨g,cap,i,rfl,o,q,b,t,u,y⟩⟩
 exact⟨z,F,B,by rw[e.cellAt _ oa];exact L,by rw[e.cellAt _ oa];exact N,y8.of f⟩
def TF (w:E)(v:Y)(a:As):Prop:=(v=K U 0 0/\a=[])\/∃g cap,v=K (I ⟨g,0,U⟩) (D a) cap/\(D a)<=cap/\jc w g 0 a
theorem TF.keep {v:Y}{a:As}(h:TF w v a)(k:zke w L):TF L v a:=by obtain h|⟨g,cap,b,c,d⟩:=h;exact Q h;exact O ⟨g,cap,b,c,d.only k⟩
theorem Jk {w:E}{base:Nat}:∀(l:As) (b:An),xr w base l b->∀(j:Nat) (t:Tok),l[j]?=I t->∃v,b[j*6+2]?=I v/\Tt w base v t.parts
 | [],_,_,j,t,a=>by simp at a
 |u :: c,a0 :: a1 :: a2 :: a3 :: a4 :: a5 :: vs,h,0,t,a=>by
  simp only[Ir,Option.some.injEq] at a;subst a;exact⟨a2,rfl,h.2.1⟩
 |u :: c,a0 :: a1 :: a2 :: a3 :: a4 :: a5 :: vs,h,j+1,t,a=>by
  have⟨v,z⟩:=Jk c vs h.2.2 j t (by simpa using a);exact⟨v,by
   rw[show(j+1)*6+2=j*6+2+6 by omega];exact z⟩
 |_ :: _,[],h,_,_,_=>absurd h id
 |_ :: _,[_],h,_,_,_=>absurd h id
 |_ :: _,[_,_],h,_,_,_=>absurd h id
 |_ :: _,[_,_,_],h,_,_,_=>absurd h id
 |_ :: _,[_,_,_,_],h,_,_,_=>absurd h id
 |_ :: _,[_,_,_,_,_],h,_,_,_=>absurd h id
theorem TF.of {w:E}{base:Nat}{v:Y}{l:As}(h:xK w base v l):TF w v l:=by
 have y:=zcQ h;have⟨c,s,q⟩:=h;have⟨k,m⟩:=s;obtain⟨rfl,i⟩|⟨g,cap,f,rfl,n,o,d,r,B,F⟩:=m;exact Q ⟨rfl,Cb i⟩;refine O ⟨g,cap,rfl,d,λj t a=>?_⟩;obtain⟨p,_⟩|⟨g',ac,L,_,_,z⟩:=y;cases p;cases L;have⟨S,W,T,X,z1,b,z3⟩:=z j t a;have⟨x,N,P⟩:=Jk l c q j t a;have ae:j<D l:=(AK.1 a).1;have u:dA w base 177 6 (K (I ⟨g,0,U⟩) (D l) cap) (D l) c:=⟨k,O ⟨g,cap,f,rfl,n,o,d,r,B,F⟩⟩
 have e:dx w ⟨g,j*6+2,U⟩=I x:=(by rw[u.cellAt _ oa];exact N);rw[Bv] at b;rw[b] at e;cases e;exact⟨S,W,T,⟨X,z1,by rw[Bv];exact b,z3⟩,YP.of P⟩
theorem xr.base {w:E}{base base':Nat}(b:base'<=base):∀(l:As) (a:An),xr w base l a->xr w base' l a
 | [],[],_=>trivial
 |_t :: c,_d :: _e :: _f :: _g :: _i :: _j :: vs,h=>⟨h.1,h.2.1.base b,xr.base b c vs h.2.2⟩
 | [],_ :: _,h=>h
 |_ :: _,[],h=>h
 |_ :: _,[_],h=>h
 |_ :: _,[_,_],h=>h
 |_ :: _,[_,_,_],h=>h
 |_ :: _,[_,_,_,_],h=>h
 |_ :: _,[_,_,_,_,_],h=>h
theorem xK.base {w:E}{base base':Nat}{v:Y}{l:As}(h:xK w base v l)(b:base'<=base):xK w base' v l:=by have⟨a,c,d⟩:=h;exact⟨a,zL c b,xr.base b l a d⟩
theorem zbp (w:E)(z:Int)(N:s.size<=200)(q:(zu s).2<0)(r:(yF s).2.1=0)(i:∀t∈(yF s).1,kG t)(j:JP (yF s).1 0 z)(B:z<300)(F:0<=z):Uh V 16 #[Uc s] w λx L=>∃g,x=R (Ue #[Ua (I ⟨g,0,U⟩),M J 0,M J 0])/\zke w L/\dg (A w)<=g/\dx L ⟨g,1,U⟩=I (M J (z+1))/\∃v,dx L ⟨g,0,U⟩=I v/\xK L (dg (A w)) v (yF s).1:=by have HG:=zd (vF q);have k:=zd i;have m:=zd j;have l:=zd (Xn s);generalize n:(zu s).2=y at *;generalize o:(yF s).2.2=P at *;generalize p:(yF s).1=ts at *;go_enter func16,ntmps16;go_wp2_with(first|(go_at_call 34;refine(vr s _ oa).mono ?_;rintro e w1 ⟨v,rfl,u,b⟩;rw[n];obtain⟨S,W,T,rfl⟩:=zq u)|(go_at_call 35;refine(Qu s _ oa HG).mono ?_;rintro e w2 ⟨v2,rfl,a,h⟩;rw[r,o];rw[p] at a;obtain⟨X,qn,qc,rfl⟩:=zq a.choose_spec.1;have d:=zd a)|(go_at_call 36;refine(VV d (by have:=zb l;omega) k m).mono ?_;rintro e w3 ⟨rfl,c⟩));go_ret3;exact⟨_,rfl,((b.trans h).trans c).alloc _,((b.trans h).trans c).size,zj _ _ rfl _ _ 1 _ rfl,_,zj _ _ rfl _ _ 0 _ rfl,(d.base (by have:=b.size;omega)).keep (c.alloc _) (λ_ _ _ f=>f)⟩
theorem Nq:∀f,LO f/\CC f
 |0=>⟨zc3,zc5 0 zc3⟩
 |f+1=>⟨zc4 f (Nq f).2,zc5 (f+1) (zc4 f (Nq f).2)⟩
theorem F7 {kids:Au}{cv g:Y}{c:Ai}{xs:Ay}{w:E}(l:vY (qH f) [] kids)(a:Ctx w cv g c xs):Uh V 49 #[K U 0 0,cv,g] w (Xs w xs (Bf c F kids)):=by
 obtain⟨b,z,rfl,d,n⟩:=l.open;obtain⟨p,rfl⟩:=n.nil;have P:D xs<=901:=by have:=a.hx;have:=a.hl;omega
 have N:=qI (D xs) oa;have v:H (yC (dB w (Ub (madeCells #[C Z] (D xs)) 4)) (K (I ⟨dg (A w),0,U⟩) (D xs) (D xs)) (dK (D xs) Z)):=by have:=(vA.made w (D xs)).row ov (cap:=D xs) ov;exact zd (by simpa using this)
 have k:H (zke w (dB w (Ub (madeCells #[C Z] (D xs)) 4))):=Ag;have r:H (yC (dB w (Ub (madeCells #[C Z] (D xs)) 4)) g xs):=a.f.keep k;obtain⟨L,B,rfl,_⟩:=a.f;have u:H (∀i j,(False\/i=j)↔Bf c F [b] i j):=λi j=>by
  have e:MM c (F+1) b i j↔vf (MM c F) b.kids i j:=by show Sm.M _ _ (F+1) b i j↔_;unfold Sm.M;rw[iN (by rw[d];decide),iN (by rw[d];decide),IN d];rfl
  rw[p] at e;constructor;rintro(h|h);exact h.elim;exact⟨b,ov,e.2 h⟩;rintro⟨t,q,y⟩;simp at q;subst q;exact O (e.1 y)
 go_enter func49,ntmps49;go_wp2_with fail;refine wp_loop_rounds 1 ?_;rw[rounds_succ];go_wp2_with(go_at_call 93;refine(Zc _ _ _ xs _ v r ov ou).mono ?_;rintro e T ⟨S,rfl,o,m⟩;have s:=zd o;have x:=zd m);go_ret;exact⟨S,_,rfl,s,((Ty.none xs).or (Ty.id xs)).congr u,k.trans x⟩
theorem Kx {kids:Au}{a:As}{v cv b:Y}{c:Ai}{xs:Ay}{w:E}(d:vY (qH 22) a kids)(f:∀t∈a,kG t)(k:D a<=1000)(h:TF w v a)(e:Ctx w cv b c xs):Uh V 49 #[v,cv,b] w (Xs w xs (Bf c 67 kids)):=by obtain⟨rfl,rfl⟩|⟨g,cap,rfl,j,i⟩:=h;exact F7 d e;exact(Nq 22).2 67 g 0 cap a kids cv b c xs w oa d f i k j e
namespace Ref
theorem V7 (s:Al):∀(f p:Nat) (acc:Ai),D acc<=p->p<=dJ s->(qb s f p acc).1.length<=dJ s
 |0,p,acc,h,b=>by simp only[qb];omega
 |f+1,p,acc,h,b=>by
  by_cases a:p<dJ s
  .cases ho:xt s p with
   |none=>rw[q9 a ho];show (D acc)<=_;omega
   |some d=>
    have⟨n,c⟩:=d;rw[qm a ho];have:=qo ho;exact V7 s f (p+n) _ ou oa
  rw[ke a];show (D acc)<=_;omega
theorem vB:(zu s).1.length<=dJ s:=V7 s _ 0 [] ov oa
end Ref
theorem JZ (w:E)(a:400<dJ s):Uh V 48 #[Uc s] w λx L=>x=R (Ue #[K U 0 0,M J 2,M J 400])/\zke w L:=by go_enter func48,ntmps48;go_wp2;go_ret3;exact⟨rfl,zg.refl _ _⟩
theorem V8 (w:E)(g:dJ s<=400)(h:0<=(zu s).2):Uh V 48 #[Uc s] w λx L=>x=R (Ue #[K U 0 0,M J 1,M J (zu s).2])/\zke w L:=by have d:=zd (vr s w g);generalize (zu s).2=b at *;go_enter func48,ntmps48;go_wp2_with(go_at_call 34;refine d.mono ?_;rintro e l ⟨v,rfl,c,a⟩;obtain⟨i,k,j,rfl⟩:=zq c;have f:=zd a);go_ret3;exact⟨rfl,f⟩
theorem K3 (w:E)(k:dJ s<=400)(l:(zu s).2<0):Uh V 48 #[Uc s] w λx L=>∃a c,x=R (Ue #[K a (zu s).1.length c,M J 0,M J 0])/\y8 L (K a (zu s).1.length c) (zu s).1/\zke w L:=by have h:=zd (vr s w k);generalize (zu s).2=b at *;go_enter func48,ntmps48;go_wp2_with(go_at_call 34;refine h.mono ?_;rintro e m ⟨v,rfl,g,f⟩;have d:=y8.of g;obtain⟨a,c,rfl⟩:=d.len;have j:=zd d;have i:=zd f);go_ret3;exact⟨a,c,rfl,j,i⟩
structure UD (w:E)(p:Nat)(ts:As)(kids:Au):Prop where
 c0:∃pa pc,e w ⟨p,0,U⟩=I (K pa (D ts) pc)/\TF w (K pa (D ts) pc) ts
 toks:vY (qH 22) ts kids
 tb:∀t∈ts,kG t
 len:D ts<=1000
def zN (js:Ao):An:=js.map λ(j:Nat)=>M J (j:Int)
def jd (n:Nat)(X:Aj)(js:Ao):Prop:=js.Pairwise (· < ·)/\∀j,j∈js↔j<=n/\X j
theorem Tryz.N4:(prog.info? 3).map (λi=>(i.zero,i.size,i.bytes))=I (I (M J 0),1,8):=om
theorem zhe (w:E)(n i:Nat):yC (dB w (Ub ((madeCells #[C Z] n).setIfInBounds i (C G)) 4)) (K (I ⟨dg (A w),0,U⟩) n n) ((dK n Z).set i G):=by
 refine⟨dg (A w),n,ov,ov,ov,λj b a=>?_⟩;have c:j<n:=by have:=(AK.1 a).1;simpa using this
 refine zj w _ rfl _ _ j _ ?_;by_cases e:i=j;subst e;rw[Iq (by simpa using c)] at a;obtain rfl:=Bz a;rw[Array.getElem?_setIfInBounds_self_of_lt (by have:=Xr n i c;exact(A1.1 this).1)];rw[FW e,CP,IN c] at a;obtain rfl:=Bz a;rw[Array.getElem?_setIfInBounds_ne e];exact Xr n j c
theorem V9 {n i:Nat}(a:i<n)(k:Nat):((dK n Z).set i G)[k]?=I G↔k=i:=by by_cases e:i=k;subst e;rw[Iq (by simpa using a)];simp;rw[FW e,CP];constructor;intro h;split at h<;>simp at h;intro h;exact absurd h.symm e
theorem DK (ts:As)(kids:Au)(w:E)(N:UD w p ts kids)(hs:dJ s<=400)(hc:(zu s).2<0)(hi:i<=(zu s).1.length):Uh V 24 #[Ua (I ⟨p,0,U⟩),Uc s,M J i] w λx L=>∃S js,x=R (Ue #[S,M J 0,M J 0])/\L.ownsRow (dg (A w)) 3 1 S (D js) (zN js)/\jd (zu s).1.length (Bf (zu s).1 67 kids i) js/\zke w L:=by
 have⟨i0,aE,aL,aN,aO⟩:=info_parts Tryz.N4;have HT:=zd (K3 s w hs hc);have a3:(zu s).1.length<=400:=AP (vB s) hs;have⟨qa,qc,aI,ak⟩:=N.c0;have z:=zd N;have HQ:=zd ak;clear N hc ak;generalize (zu s).1=m at *;have ah:=qI (D m+1) oa;simp only[FH,It] at ah;have a1:(i:Int)<=(D m:Int):=oa;have aJ:∀W:E,(dB W (Ub (madeCells #[C Z] (D m+1)) 4)).cell? ⟨dg (A W),i,U⟩=I (C Z):=λW=>zj W _ rfl _ _ i _ (Xr _ _ oa);have aK:∀W:E,(dB W (Ub (madeCells #[C Z] (D m+1)) 4)).frozen? ⟨dg (A W),i,U⟩=Z:=λW=>zt W _ rfl _ _ i;go_enter func24,ntmps24;go_wp2_with(first
  |(go_at_call 48;refine HT.mono ?_;rintro e w1 ⟨pa,pc,rfl,aj,F⟩;have aD:∀o,(w1.alloc o).cell? ⟨p,0,U⟩=I (K qa (D ts) qc):=(λo=>zf (F.alloc o) _ _ aI id);have ar:=zd aj;have X:=zd F;clear aj F)
  |(go_at_call 49;refine(Kx z.toks z.tb z.len ((HQ.keep X).keep Ag) ⟨ar.keep Ag,zhe w1 (D m+1) i,oa,ov⟩).mono ?_;rintro e u ⟨bb,B,rfl,ab,af,aa⟩;have aq:=zd ab;have T:=zd af;have y:=zd ((X.alloc _).trans aa);clear ab af aa))
 clear aD ah aJ aK;have P:D B=D m+1:=by have:=T.1;simpa using this
 have a7:D B<=401:=oa;obtain⟨gy,cy,rfl,aY,aZ,an⟩:=(zb aq)
 have aw:=zd an;clear an;have ax:=zd P;clear P;go_loopw[14,15] (λlv k wr=>∃(n:Nat) (js:Ao),k=M J n/\n<=D B/\(D js)<=n/\H (zke u wr)/\H (wr.ownsRow (dg (A u)) 3 1 lv (D js) (zN js))/\H (js.Pairwise (· < ·)/\∀j,j∈js↔j<n/\B[j]?=I G)) (λ_ k _=>D B-(intOf k).toNat);exact⟨0,[],rfl,oa,ov,zg.refl _ _,A0 _ _ _ _,⟨List.Pairwise.nil,λj=>ov⟩⟩;obtain⟨n,js,rfl,hn,a2,q,r,d⟩:=hrel;obtain⟨ga,na,ca,rfl⟩:=zq r;by_cases ag:n<D B
 .have ad:=zf q _ _ (zb aw n B[n] (AE ag)) id;have l:B[n]?=I B[n]:=AE ag;have a5:=q.size;have a6:=y.size;cases g:B[n]
  .rw[g] at ad l;have v:H (js.Pairwise (· < ·)/\∀j,j∈js↔j<n+1/\B[j]?=I G):=⟨d.1,λj=>by
    rw[(zb d).2 j];constructor;rintro⟨t,c⟩;exact⟨oa,c⟩;rintro⟨t,c⟩;refine⟨?_,c⟩;by_cases e:j=n;subst e;rw[l] at c;cases c;omega⟩
   clear g l;go_wp2_with fail;exact⟨⟨n+1,js,Ae,oa,oa,q,r,v⟩,Ad⟩
  rw[g] at ad l;have v:H ((js++[n]).Pairwise (· < ·)/\∀j,j∈js++[n]↔j<n+1/\B[j]?=I G):=⟨by
    rw[Io];refine⟨d.1,ov,λa ha b g=>?_⟩;simp at g;subst g;exact((d.2 a).1 ha).1,λj=>by
   rw[A7,(zb d).2 j];constructor
   .rintro(⟨t,c⟩|h)
    .exact⟨oa,c⟩
    .simp at h;subst h;exact⟨oa,l⟩
   .rintro⟨t,c⟩;by_cases e:j=n
    .right;simp[e]
    .left;exact⟨oa,c⟩⟩
  clear g l;go_wp2_with(at_builtin;refine wpList_append_own _ rfl _ _ 29 rfl (dg (A u)) 3 i0 (M J 0) 1 8 underlying29 aE aL aN aO rfl od _ _ _ rfl (AZ r _) _ 1 1 [M J (n:Int)] rfl rfl (cell_one_new _ _ _) (λx hx=>by simp at hx;subst hx;rfl) Ac oa ou ?_;intro v' w4 ai ae aH;have az:=zd ai;have ay:=zd ae;clear ai ae aH);have aB:zke u w4:=(q.alloc _).grown ay (λj hj=>Or.inr (zh r j hj).1);exact⟨⟨n+1,js++[n],Ae,oa,by simp;omega,aB,(by show dA _ _ _ _ _ _ _;unfold zN;rw[AO,CX];exact az),v⟩,Ad⟩
 go_wp2_with fail;go_ret3;refine⟨_,js,rfl,zL r y.size,⟨d.1,λj=>?_⟩,y.trans q⟩;rw[(zb d).2 j,(zb T).2 j];have P:=zb ax;simp only[Ct,Ip];constructor;rintro⟨_,t,k,c,h3⟩;rw[V9 oa] at c;subst c;exact⟨oa,h3⟩;rintro⟨t,c⟩;exact⟨oa,oa,i,(V9 oa i).2 rfl,c⟩
theorem Wa (i k a:Int)(w:E)(c:k≠0)(b:Uh V 48 #[Uc s] w λx L=>x=R (Ue #[K U 0 0,M J k,M J a])/\zke w L):Uh V 24 #[Ua (I ⟨p,0,U⟩),Uc s,M J i] w λx L=>x=R (Ue #[K U 0 0,M J k,M J a])/\zke w L:=by
 have d:=zd b;have g:(k != 0)=G:=by simp[c]
 go_enter func24,ntmps24;go_wp2_with(go_at_call 48;refine d.mono ?_;rintro e h ⟨rfl,f⟩);go_ret3;exact⟨rfl,f⟩
theorem zhf (i:Int)(w:E)(h:dJ s<=400)(b:(zu s).2<0)(d:i<0\/((zu s).1.length:Int)<i):Uh V 24 #[Ua (I ⟨p,0,U⟩),Uc s,M J i] w λx L=>x=R (Ue #[K U 0 0,M J 9,M J 0])/\zke w L:=by
 have c:=zd (K3 s w h b);generalize (zu s).1=l at *;by_cases f:i<0
 .have g:decide (i<0)=G:=by simp[f]
  go_enter func24,ntmps24;go_wp2_with(go_at_call 48;refine c.mono ?_;rintro e m ⟨j,k,rfl,_,a⟩);go_ret3;exact⟨rfl,a⟩
 have n:(D l:Int)<i:=by omega
 have g:decide (i<0)=Z:=by simp;omega
 go_enter func24,ntmps24;go_wp2_with(go_at_call 48;refine c.mono ?_;rintro e m ⟨j,k,rfl,_,a⟩);go_ret3;exact⟨rfl,a⟩
theorem Wb (k a:Int)(w:E)(c:k≠0)(b:Uh V 48 #[Uc s] w λx L=>x=R (Ue #[K U 0 0,M J k,M J a])/\zke w L):Uh V 22 #[Ua (I ⟨p,0,U⟩),Uc s] w λx L=>x=R (Ue #[C Z,M J k,M J a])/\zke w L:=by
 have d:=zd b;have g:(k != 0)=G:=by simp[c]
 go_enter func22,ntmps22;go_wp2_with(go_at_call 48;refine d.mono ?_;rintro e h ⟨rfl,f⟩);go_ret3;exact⟨rfl,f⟩
theorem DD (ts:As)(kids:Au)(w:E)(F:UD w p ts kids)(hs:dJ s<=400)(hc:(zu s).2<0):Uh V 22 #[Ua (I ⟨p,0,U⟩),Uc s] w λx L=>∃b:Bool,x=R (Ue #[C b,M J 0,M J 0])/\(b=G↔∃i j,i<=(zu s).1.length/\j<=(zu s).1.length/\Bf (zu s).1 67 kids i j)/\zke w L:=by
 have HT:=zd (K3 s w hs hc);have aS:(zu s).1.length<=400:=AP (vB s) hs;have⟨qa,qc,al,am⟩:=F.c0;have u:=zd F;have HQ:=zd am;have aB:=zd al;generalize (zu s).1=a at *;have aj:=qI (D a+1) oa;simp only[FH,It] at aj;go_enter func22,ntmps22;go_wp2_with(go_at_call 48;refine HT.mono ?_;rintro e c ⟨pa,pc,rfl,ak,ad⟩;have az:=zd ak;have aw:=zd ad);have HM:=zd (vA.made c (D a+1));have ax:H (zke c (dB c (Ub (madeCells #[C Z] (D a+1)) 4))):=Ag;have aT:dg (A c)<(dB c (Ub (madeCells #[C Z] (D a+1)) 4)).heap.size:=ov
 generalize dB c (Ub (madeCells #[C Z] (D a+1)) 4)=W at *;go_loopw[11] (λk wr=>∃n:Nat,k=M J n/\n<=D a+1/\H (zg (λg=>g=dg (A c)) W wr)/\H (vA wr (dg (A c)) (dK n G++dK (D a+1-n) Z))) (λk _=>D a+1-(intOf k).toNat);exact⟨0,rfl,oa,zg.refl _ _,by simpa using HM⟩;obtain⟨n,rfl,hn,t,q⟩:=hrel;by_cases N:n<D a+1
 ·(have P:=zb q;have o:(dK n G++dK (D a+1-n) Z)[n]?=I Z:=(by grind);have c1:=P.c n Z o;have f1:=P.f n Z o;have aI:H ((dK n G++dK (D a+1-n) Z).set n G=dK (n+1) G++dK (D a+1-(n+1)) Z):=by show _=_;rw[MC _ _ ov,Ip,CU,show (D a)+1-n=(D a+1-(n+1))+1 by omega,List.replicate_succ,List.replicate_succ'];simp);go_wp2;exact⟨⟨n+1,Ae,oa,t.setCell (Q rfl) _,by rw[<-zb aI];exact q.set n G⟩,Ad⟩
 (obtain rfl:n=D a+1:=oa;have y:zke c wr:=ax.N2 t (λg o=>oa);have z:zke w wr:=aw.trans y;have aP:=zf z _ _ aB id;have an:yC wr (K (I ⟨dg (A c),0,U⟩) (D a+1) (D a+1)) (dK (D a+1) G):=by have:=q.row (by have:=t.size;omega) (cap:=D a+1) ov;simpa using this);have HR:=zd an;have ay:=zd y;have X:=zd z;go_wp2_with(go_at_call 49;refine(Kx u.toks u.tb u.len (HQ.keep X) ⟨az.keep ay,HR,oa,ov⟩).mono ?_;rintro e w2 ⟨aZ,B,rfl,af,ai,ae⟩;have ar:=zd af;have r:=zd ai;have aa:=zd (X.trans ae));have aq:D B=D a+1:=(by have:=r.1;simpa using this);have aL:=zd aq;have aU:D B<=401:=oa;obtain⟨gy,cy,rfl,aQ,aR,ap⟩:=(zb ar)
 (have aE:=zd ap;have S:H ((∃j:Nat,B[j]?=I G)↔∃i j,i<=D a/\j<=D a/\Bf a 67 kids i j):=by constructor;rintro⟨j,l⟩;have⟨h1,i,h2,v⟩:=(r.2 j).1 l;have:=(AK.1 h2).1;simp at h1 this;exact⟨i,j,oa,oa,v⟩;rintro⟨i,j,h1,h2,v⟩;exact⟨j,(r.2 j).2 ⟨by simp;omega,i,by rw[CP,IN oa],v⟩⟩);go_loopw[13] (λk wr=>∃n:Nat,k=M J n/\n<=D B/\H (zke w2 wr)/\H (∀j:Nat,j<n->¬B[j]?=I G)) (λk _=>D B-(intOf k).toNat);exact⟨0,rfl,oa,zg.refl _ _,λj l=>oa⟩;obtain⟨n,rfl,hn,m,T⟩:=hrel;by_cases N:n<D B
 .have ah:=zf m _ _ (zb aE n B[n] (AE N)) id;have d:B[n]?=I B[n]:=AE N;cases hb:B[n]
  ·(rw[hb] at ah d;have av:H (∀j:Nat,j<n+1->¬B[j]?=I G):=λj l e=>by by_cases ej:j=n;subst ej;rw[d] at e;cases e;exact zb T j oa e);go_wp2;exact⟨⟨n+1,Ae,oa,m,av⟩,Ad⟩
  rw[hb] at ah d;have HG:=zd d;go_wp2;go_ret3;exact⟨G,rfl,⟨λ_=>S.1 ⟨n,HG⟩,λ_=>rfl⟩,aa.trans m⟩
 go_wp2;go_ret3;refine⟨Z,rfl,⟨λh=>(by cases h),λh=>?_⟩,aa.trans m⟩;have⟨j,l⟩:=S.2 h;exact absurd l (zb T j (by have:=(AK.1 l).1;omega))
end
section
open Sm (Tree)
namespace Tw
theorem Wc {A:As->Tree->Prop}{Q:Tree->Prop}(h:∀a t,A a t->Q t):∀(d:As) (l:Au),TG A d l->∀t∈l,Q t
 |_,[],_,t,c=>by cases c
 |d,x :: r,g,t,c=>by
  have⟨a,b,_,e,f⟩:=g;obtain rfl|c:=BZ.1 c;exact h a t e;exact Wc h b r f t c
theorem zc6 {A:As->Tree->Prop}:∀(d:As) (l:Au),Uy A d l->∀t∈l,t.kind=6/\∃a,TG A a t.kids
 |_,[],_,t,c=>by cases c
 |d,x :: r,h,t,c=>by
  have⟨a,b,bar,_,_,e,f,g⟩:=h;obtain rfl|c:=BZ.1 c;exact⟨e,a,f⟩;exact zc6 b r g t c
theorem zc7 {A:As->Tree->Prop}{d:As}{l:Au}(h:vY A d l):l≠[]/\∀t∈l,t.kind=6/\∃a,TG A a t.kids:=by
 obtain⟨j,fin,g,i,_,rfl,c,e,f⟩:=h;refine⟨ov,λt b=>?_⟩;obtain b|b:=A7.1 b;exact zc6 _ _ c t b
 grind
end Tw
theorem Ni:∀(f F:Nat) (l:As) (T:Tree),qH f l T->WF F T->WF (3*f+1) T
 |0,_,_,_,h,_=>h.elim
 |_+1,0,_,_,_,h=>h.elim
 |f+1,F+1,l,T,h,g=>by
  rw[show 3*(f+1)+1=(3*f+3)+1 by omega];have leaf:T.kind<=4->WF ((3*f+3)+1) T:=λz=>⟨λe=>oa,λe=>oa,λe=>oa⟩
  obtain⟨d,_⟩|⟨t,_,_,d⟩|⟨d,o,c,m,_,_,_,_,r⟩|⟨d,m,q,_,_,_,_,_,s⟩:=h;exact leaf oa;exact leaf d.1.2
  .have⟨n,p⟩:=zc7 r;refine⟨λ_=>n,λ_ t i=>?_,λe=>oa⟩;have⟨x,a,y⟩:=p t i;have k:=g.2.1 (.inl d) t i;show WF ((3*f+2)+1) t;refine⟨λe=>oa,λ_ u j=>?_,λe=>oa⟩;cases F with
   |zero=>exact k.elim
   |succ F=>
    have w:=k.2.1 (O x) u j;have⟨b,v⟩:=Wc (Q:=λt=>∃b,qH f b t) (λa t h=>⟨a,h⟩) a t.kids y u j;exact WF.up (Ni f F b u v w) oa
  refine⟨λe=>oa,λe=>oa,λ_=>⟨?_,(g.2.2 d).2⟩⟩;exact WF.up (Ni f F m T.kid s (g.2.2 d).1) oa
theorem F6 {o:As}{T:Tree}(h:vY (qH 22) o T.kids)(k:T.kind=5)(f:WF F T):WF 69 T:=by
 have⟨i,j⟩:=zc7 h;cases F with
 |zero=>exact f.elim
 |succ F=>
  refine⟨λ_=>i,λ_ t c=>?_,λe=>oa⟩;have⟨m,a,n⟩:=j t c;have g:=f.2.1 (.inl k) t c;show WF (67+1) t;refine⟨λe=>oa,λ_ u d=>?_,λe=>oa⟩;cases F with
  |zero=>exact g.elim
  |succ F=>
   have⟨b,l⟩:=Wc (Q:=λt=>∃b,qH 22 b t) (λa t h=>⟨a,h⟩) a t.kids n u d;exact Ni 22 F b u l (g.2.1 (O m) u d)
theorem Xt {c:As}{T:Tree}(h:vY (qH 22) c T.kids)(b:T.kind=5)(a:WF F T)(l:Ai)(i j:Nat):Sm.Goes (FM l) (FO l) (AR F T).2 (AR F T).1 i 0 j↔Bf l 67 T.kids i j:=by rw[zgn a];have e:=Mv (lf:=FM l) (ah:=FO l) a (F6 h b a) i j;rw[<-e];show(if T.kind=0 then _ else if T.kind=5 then ∃t∈T.kids,Sm.M (FM l) (FO l) 68 t i j else _)↔_;rw[iN oa,IN b];exact Iff.rfl
end
