/- The program's iterator over the characters of a text. -/
import Derived.Test.YtcgleficedipkaaGreatDoorYEqJEqM
import Derived.RangeFuncBound
import Derived.RangeFuncLeaves
import Derived.Shelf.Abstract
import Derived.OwnWalkIn
import Derived.TacticsInMore
import Derived.LoopNIn
import Derived.LoopIn
import Derived.RangeFuncBox
namespace Go.Proofs.YtcgleficedipkaaGreatDoor
open Option renaming none->U,some->I
open Value renaming int->M,slice->K,bool->C,pointer->Ua,string->Uc,iface->Ud,tuple->Ue,agg->Uf,nilIface->Ui
open IntKind renaming i64->J,i32->Ug
open Bool renaming false->Z,true->G
open _root_.Go.Proofs.Tryz renaming prog->V
open Go renaming World->E,Value->Y,Calls->Uh
open Go.RowKit renaming Hid->H
open Or renaming inr->O,inl->Q
open Ending renaming returned->R
open Obj renaming cells->Ub
open And renaming intro->Ur
open Pro Ref Eqv
open _root_.Go.Proofs.Tryz
variable {w:World}{b:Nat}{s:ByteArray}{r p n:Nat}{g c:Int}(l:List (Int×Int)){j:List (Int×Int)}
section
open Go.RowKit Go.Shelf
set_option maxHeartbeats 4000000
set_option maxRecDepth 1000000
attribute [local go_sem] Oper.semAt_some
namespace Pro
def zV (s:ByteArray):Nat->Nat->List (Int×Int)
 |0,_=>[]
 |f+1,p=>match qd s p with
  |none=>[]
  |some (n,c)=>((p:Int),c) :: zV s f n
end Pro
theorem xC.keepT {c:E}{b:Nat}{s:ByteArray}{r p:Nat}{g:Int}(h:xC w b s r p g)(k:Zv w c):xC c b s r p g:=by
 have e:=k.same b ⟨s,h.c0⟩;exact⟨(zhq (w:=w) (a:=⟨b,0,U⟩) e).trans h.c0,(zhq (w:=w) (a:=⟨b,1,U⟩) e).trans h.c1,(zhq (w:=w) (a:=⟨b,2,U⟩) e).trans h.c2,(zhq (w:=w) (a:=⟨b,3,U⟩) e).trans h.c3,
  (zh6 (w:=w) (a:=⟨b,1,U⟩) e).trans h.f1,(zh6 (w:=w) (a:=⟨b,2,U⟩) e).trans h.f2,(zh6 (w:=w) (a:=⟨b,3,U⟩) e).trans h.f3⟩
def macN (w:E)(b:Nat):Nat:=match w.cell? ⟨b,1,U⟩ with
 |some (M _ n)=>n.toNat
 |_=>0
theorem zd3 (h:xC w b s r p g):macN w b=r:=by unfold macN;rw[h.c1];simp
theorem readM_in (h:qd s p=I (n,c)):p<n/\n<=s.size/\0<=c/\c<=1114111:=by
 by_cases a:p<s.size
 .rw[Zy a] at h;cases h1:xo s p with
  |none=>rw[h1] at h;cases h
  |some b=>
   obtain⟨m,d⟩:=b;rw[h1] at h;simp only[Eqv.ahead,Option.some.injEq,Prod.mk.injEq] at h;obtain⟨rfl,rfl⟩:=h;have:=Ref.qr h1;exact⟨oa,oa,oa,oa⟩
 unfold qd at h;rw[iN a] at h;cases h
theorem zd4 (s:ByteArray):∀(f p:Nat),zV s f p=letF s f p
 |0,_=>rfl
 |f+1,p=>by
  unfold zV letF;by_cases a:p<s.size
  .rw[IN a,Zy a];cases h1:xo s p with
   |none=>rfl
   |some b=>
    obtain⟨m,d⟩:=b;simp only[Eqv.ahead];rw[zd4 s f (p+m)]
  rw[iN a];unfold qd;rw[iN a]
theorem read_yes {q:Nat}{g c:Int}{w:E}(h:xC w b s r p g)(k:s.size<=400)(i:r<=s.size)(j:qd s r=I (q,c)):Uh V 128 #[Ua (I ⟨b,0,U⟩)] w λx d=>x=R (C G)/\xC d b s q r c/\zf (zt b) w d:=by
 refine(zaL b s r p g w h k i).mono ?_;rintro e o ⟨m,f⟩;rcases f with⟨n,c1,a,rfl,l⟩|⟨a,_⟩
 grind
 rw[j] at a;cases a
theorem read_no {w:E}(h:xC w b s r p g)(j:s.size<=400)(f:r<=s.size)(i:qd s r=U):Uh V 128 #[Ua (I ⟨b,0,U⟩)] w λx k=>x=R (C Z)/\zf (zt b) w k:=by refine(zaL b s r p g w h j f).mono ?_;rintro e n ⟨d,c⟩;rcases c with⟨m,c1,a,rfl,l⟩|⟨_,rfl⟩;rw[i] at a;cases a;exact⟨rfl,d⟩
theorem each_seq (s:ByteArray)(S:s.size<=400)(t:Nat)(u:E)(N:u.cell? ⟨t,0,U⟩=I (Uc s))(n:Nat)(aB:1<=n):SeqT Fence.wide n V 127 #[Ua (I ⟨t,0,U⟩)] (λx:Int×Int=>#[M J x.1,M Ug x.2]) (zV s (s.size+1) 0) u:=by
 intro l ad W hO w B h0;have a:=(hO.cell (p:=⟨t,0,U⟩) (zgF u _ N) id).trans N;refine callsIn_of_wp func127 rfl trivial ?_ rfl;simp only[ntmps127,zhg,zg4,zhe,Nat.reduceAdd,Nat.reduceSub,zhA,zhz,zhK,zhC,zho,zhf];have ak:xC (W.alloc (Ub #[Uc s,M J 0,M J 0,M Ug 0] 274)) W.heap.size s 0 0 0:=⟨zm W _ rfl _ _ 0 _ rfl,zm W _ rfl _ _ 1 _ rfl,zm W _ rfl _ _ 2 _ rfl,zm W _ rfl _ _ 3 _ rfl,zu W _ rfl _ _ 1,zu W _ rfl _ _ 2,zu W _ rfl _ _ 3⟩
 have i:=ze w;have HY:=ze B;clear w B
 gi_wp2
 gi_loopw [6] (λ_ wr=>∃(j:List (Int×Int)) (f p X:Nat) (g:Int),xC wr W.heap.size s p X g/\p<=s.size/\H (s.size<p+f)/\H (j++zV s f p=zV s (s.size+1) 0)/\H (ad j wr)) (λ_ wr=>s.size+1-macN wr W.heap.size)
 case atStart=>exact⟨[],s.size+1,0,0,0,ak,oa,(by show _<_;omega),rfl,zb i _ _ _ h0 ((zf.refl _ W).alloc _)⟩
 case round=>
  obtain⟨j,f,p,X,g,o,P,F,T,L⟩:=hrel;obtain⟨f,rfl⟩:∃f',f=f'+1:=⟨f-1,by have:=zb F;omega⟩
  have b:=ze o;have al:=zd3 o;clear o;cases hr:qd s p with
  |none=>
   have HE:H (j=zV s (s.size+1) 0):=by
    have:=zb T;simp only[zV] at this;rw[hr,zhc] at this;exact this
   gi_wp2_with (refine⟨trivial,?_⟩;gi_at_call 128;refine(callsIn_wide.2 (read_no b S P hr)).mono ?_;rintro e d ⟨rfl,r⟩)
   refine⟨λ_ h=>(by cases h),?_⟩;have m:=zb i j _ d L (r.mono (λk _ a=>⟨by unfold zt at a;omega,by unfold zt at a;rw[a];exact⟨s,b.c0⟩⟩))
   gi_wp2
   go_end0
   exact⟨⟨_,rfl⟩,by rw[<-zb HE];exact m⟩
  |some qc=>
   obtain⟨q,c⟩:=qc;have v:H (j++[((p:Int),c)]++zV s f q=zV s (s.size+1) 0):=by
    have e:zV s (f+1) p=((p:Int),c) :: zV s f q:=(by simp only[zV];rw[hr]);have:=zb T;rw[e] at this;show _=_;rw[<-this];simp
   have aA:=readM_in hr
   gi_wp2_with (refine⟨trivial,?_⟩;gi_at_call 128;refine(callsIn_wide.2 (read_yes b S P hr)).mono ?_;rintro e d ⟨rfl,y,r⟩;have m:=zb i j _ d L (r.mono (λk _ a=>⟨by unfold zt at a;omega,by unfold zt at a;rw[a];exact⟨s,b.c0⟩⟩));obtain⟨fn,aC,assign,body,hy,hR⟩:=zb HY j ((p:Int),c) d m ⟨zV s f q,v⟩;dsimp only at hy;have ab:=ze y;obtain⟨d0,d1,d2,d3,g1,g2,g3⟩:=y)
   refine hR.mono ?_;rintro e W3 ⟨rfl,ag,aj⟩;have z:=ab.keepT aj;have am:=zd3 z
   gi_wp2
   exact⟨⟨j++[((p:Int),c)],f,q,p,c,z,oa,(by show _<_;have:_<_:=zb F;omega),v,ag⟩,by rw[am,al];omega⟩
theorem each_any (s:ByteArray)(w:E):Uh V 73 #[Uc s] w λx a=>x=R (.func (.func 127) #[] #[Ua (I ⟨w.heap.size,0,U⟩)])/\a=w.alloc (Ub #[Uc s] 9):=by go_enter func73,ntmps73;go_wp2_with fail;go_ret;exact⟨rfl,rfl⟩
namespace Pro
def jf (c:Int):Int:=if c<=127 then 1 else if c<=2047 then 2 else if c<=65535 then 3 else 4
end Pro
theorem zaP (c:Int)(w:E)(k:0<=c)(l:c<=1114111)(d:¬(55296<=c/\c<=57343)):Uh V 74 #[M Ug c] w λx i=>x=R (M J (jf c))/\i=w:=by
 by_cases b:c<=127
 .have a:H (jf c=1):=by unfold jf;rw[IN b];rfl
  go_enter func74,ntmps74;go_wp2_with fail;go_ret;rw[zb a];exact⟨rfl,rfl⟩
 by_cases e:c<=2047
 .have a:H (jf c=2):=(by unfold jf;rw[iN b,IN e];rfl);go_enter func74,ntmps74;go_wp2_with fail;go_ret;rw[zb a];exact⟨rfl,rfl⟩
 by_cases f:c<=65535
 .have a:H (jf c=3):=(by unfold jf;rw[iN b,iN e,IN f];rfl);by_cases g:55296<=c
  .have j:¬c<=57343:=λh=>d ⟨g,h⟩;clear d;go_enter func74,ntmps74;go_wp2_with fail;go_ret;rw[zb a];exact⟨rfl,rfl⟩
  clear d;go_enter func74,ntmps74;go_wp2_with fail;go_ret;rw[zb a];exact⟨rfl,rfl⟩
 have a:H (jf c=4):=(by unfold jf;rw[iN b,iN e,iN f];rfl);clear d;go_enter func74,ntmps74;go_wp2_with fail;go_ret;rw[zb a];exact⟨rfl,rfl⟩
theorem one_len (h:xo s p=I (n,c)):jf c=(n:Int):=by
 obtain⟨o,q,r,k,_⟩:=Ref.qr h;have l:=(zw s p).2 oa;have t:=xj s p;have m:n=1\/n=2\/n=3\/n=4:=oa;have e:headN (zd s p)=(n:Int):=by rw[K0,<-k]
 unfold headN at e;by_cases j:zd s p<128;rw[K3 l j] at h;obtain⟨rfl,rfl⟩:=Prod.mk.inj (zg0 h);unfold jf;rw[IN oa];rfl;rw[iN oa] at e;by_cases f:192<=zd s p/\zd s p<224;obtain⟨y,nn⟩:=zea f;by_cases a:cont (zd s (p+1));rw[y a] at h;split at h;cases h;rename_i b;rw[kf] at b;obtain⟨rfl,rfl⟩:=Prod.mk.inj (zg0 h);have d:jq ((2:Nat):Int)=128:=rfl;rw[d] at b;unfold cont at a;unfold jf;rw[iN oa,IN oa];rfl;rw[nn a] at h;cases h;by_cases g:224<=zd s p/\zd s p<240;obtain⟨y,nn⟩:=VR g;by_cases a:cont (zd s (p+1))/\cont (zd s (p+2));rw[y a] at h;split at h;cases h;rename_i b;rw[kf] at b;obtain⟨rfl,rfl⟩:=Prod.mk.inj (zg0 h);have d:jq ((3:Nat):Int)=2048:=rfl;rw[d] at b;unfold cont at a;unfold jf;rw[iN oa,iN oa,IN oa];rfl;rw[nn a] at h;cases h;by_cases i:240<=zd s p/\zd s p<248;obtain⟨y,nn⟩:=za1 i;by_cases a:cont (zd s (p+1))/\cont (zd s (p+2))/\cont (zd s (p+3));rw[y a] at h;split at h;cases h;rename_i b;rw[kf] at b;obtain⟨rfl,rfl⟩:=Prod.mk.inj (zg0 h);have d:jq ((4:Nat):Int)=65536:=rfl;rw[d] at b;unfold cont at a;unfold jf;rw[iN oa,iN oa,iN oa];rfl;rw[nn a] at h;cases h;rw[iN f,iN g,iN i] at e;omega
attribute [local go_sem] Oper.semAt_some
namespace Pro
def xM:List (Int×Int)->List Y
 | []=>[]
 |(a,b) :: r=>M J a :: M Ug b :: xM r
theorem JQ (m:List (Int×Int)):xM (l++m)=xM l++xM m:=by
 induction l with
 |nil=>rfl
 |cons x l c=>obtain⟨a,b⟩:=x;simp[xM,c]
def wd (l:List (Int×Int)):Int:=l.foldl (λ_ x=>x.1+jf x.2) 0
theorem Ki (x:Int×Int):wd (l++[x])=x.1+jf x.2:=by unfold wd;simp
theorem JY (s:ByteArray):∀(f p:Nat) (x:Int×Int),x∈zV s f p->0<=x.1/\x.1<=s.size/\0<=x.2/\x.2<=1114111/\¬(55296<=x.2/\x.2<=57343)
 |0,_,x,h=>by simp[zV] at h
 |f+1,p,x,h=>by
  simp only[zV] at h;by_cases a:p<s.size
  .rw[Zy a] at h;cases h1:xo s p with
   |none=>rw[h1] at h;simp[Eqv.ahead] at h
   |some b=>
    obtain⟨m,d⟩:=b;rw[h1] at h;simp only[Eqv.ahead,zhh] at h;have c:=Ref.qr h1;rcases h with rfl|h;omega;exact JY s f _ x h
  rw[show qd s p=U by unfold qd;rw[iN a]] at h;simp at h
theorem we (s:ByteArray):∀(f p:Nat),(zV s f p).length<=f
 |0,_=>by simp[zV]
 |f+1,p=>by
  simp only[zV];split;simp;simp;exact we s f _
theorem zaQ (c:Int):1<=jf c/\jf c<=4:=by unfold jf;(repeat' split)<;>omega
end Pro
theorem zf.later {P Q:Nat->Prop}{a w c:E}(h:zf P a w)(k:zf Q w c)(e:∀i,Q i->a.heap.size<=i):zf P a c:=
 ⟨k.os.trans h.os,k.tape.trans h.tape,k.output.trans h.output,zgN h.size k.size,λi b d=>(k.block i (zgJ b h.size) (λq=>by have:=e i q;omega)).trans (h.block i b d)⟩
theorem Tryz.infoLetter:(prog.info? 184).map (λi=>(i.zero,i.size,i.bytes))=I (I (Uf #[M J 0,M Ug 0]),2,16):=om
def LetI (w:E)(j:List (Int×Int))(W:E):Prop:=∃v,Boxed W w.heap.size 108 v/\W.ownsRow (w.heap.size+3) 184 2 v j.length (xM j)/\(j=[]->v=K U 0 0)/\
 Boxed W (w.heap.size+1) 3 (M J (wd j))/\ziE w W/\w.heap.size+3<=W.heap.size
theorem LetI.keep {A A':E}(h:LetI w j A)(b:zf (λk=>w.heap.size+3<=k/\(strB A k\/∃o,A.heap[k]?=I o/\o.isCells=Z)) A A'):LetI w j A':=by
 obtain⟨v,f,c,l,m,u,y⟩:=h;refine⟨v,(b.block _ f.lt (λL=>oa)).trans f,?_,l,(b.block _ m.lt (λL=>oa)).trans m,u.later b (λi S=>oa),zgN y b.size⟩;refine⟨c.1,?_⟩;rcases c.2 with⟨rfl,e⟩|⟨g,p,q,rfl,z,d,B,F,N,P⟩;exact Q ⟨rfl,e⟩;refine O ⟨g,p,q,rfl,z,(b.block g (zgM.1 d).1 ?_).trans d,B,F,N,P⟩;rintro⟨_,a⟩;rcases a with⟨t,a⟩|⟨o,n,a⟩
 .cases j with
  |nil=>have:=l rfl;cases this
  |cons x r=>
   have s:=c.cellAt 0 ov;rw[s] at a;simp[xM] at a
 rw[d] at n;cases n;cases a
theorem LetI.keepT {W W':E}{j:List (Int×Int)}{v:Y}{e:Int}(m:Boxed W w.heap.size 108 v)(p:∃a b c,v=K a b c)(h:W.ownsRow (w.heap.size+3) 184 2 v j.length (xM j))(n:j=[]->v=K U 0 0)(o:Boxed W (w.heap.size+1) 3 (M J e)) (i:zf (λk=>k=w.heap.size\/k=w.heap.size+1\/v.ownBlock=I k) W W'):Zv W W':=by
 refine⟨i.size,?_⟩;rintro k ⟨t,d⟩;refine i.block k (zgF W _ d) ?_;rintro(rfl|rfl|f);obtain⟨a,b,c,rfl⟩:=p;rw[m.cell] at d;cases d;rw[o.cell] at d;cases d;rcases h.2 with⟨rfl,e⟩|⟨g,q,s,rfl,_⟩;simp[Value.ownBlock] at f;simp[Value.ownBlock] at f;subst f;cases j with
 |nil=>have:=n rfl;cases this
 |cons x r=>
  have l:=h.cellAt 0 ov;rw[l] at d;simp[xM] at d
theorem Jt (s:ByteArray)(B:Int)(hm:(s.size:Int)<=B)(hs:s.size<=400)(w:E)(T:TypeId)(y:Y)(aF:w.cell? ⟨1,0,U⟩=I (Ud T y))(_hw:11<=w.heap.size):Uh V 39 #[Uc s,M J B] w λx w'=>ziE w w'/\((¬wd (zV s (s.size+1) 0)<s.size/\∃v,x=R (Ue #[v,Ui])/\w'.ownsRow (w.heap.size+3) 184 2 v (zV s (s.size+1) 0).length (xM (zV s (s.size+1) 0)))\/ (wd (zV s (s.size+1) 0)<s.size/\∃v,x=R (Ue #[K U 0 0,v])/\zN w' w.heap.size v (Ud T y) (wd (zV s (s.size+1) 0)))):=by
 obtain⟨i0,r,ae,af,ag⟩:=info_parts Tryz.infoLetter;refine(callsIn_wide (n:=5)).1 ?_;refine callsIn_of_wp_marks func39 rfl trivial ?_ rfl;simp only[ntmps39,zhg,zg4,zhe,Nat.reduceAdd,Nat.reduceSub,zhA,zhz,zhK,zhC,zho,zhf]
 gi_wp2_with (refine⟨trivial,?_⟩;gi_at_call 73;refine(callsIn_wide.2 (each_any s _)).mono ?_;rintro e b ⟨rfl,rfl⟩)
 have b1:=((Boxed.new w 108 (K U 0 0)).alloc (Ub #[M J 0] 3)).alloc (Ub #[Uc s] 9);have b2:=(Boxed.new (w.alloc (Ub #[K U 0 0] 108)) 3 (M J 0)).alloc (Ub #[Uc s] 9);have b3:=(Boxed.new ((w.alloc (Ub #[K U 0 0] 108)).alloc (Ub #[M J 0] 3)) 9 (Uc s)).cell;have aU:ziE w (((w.alloc (Ub #[K U 0 0] 108)).alloc (Ub #[M J 0] 3)).alloc (Ub #[Uc s] 9)):=(((zf.refl _ w).alloc _).alloc _).alloc _;have hz:(((w.alloc (Ub #[K U 0 0] 108)).alloc (Ub #[M J 0] 3)).alloc (Ub #[Uc s] 9)).heap.size=w.heap.size+3:=ov
 simp only[zhU] at b2 b3;generalize (((w.alloc (Ub #[K U 0 0] 108)).alloc (Ub #[M J 0] 3)).alloc (Ub #[Uc s] 9))=W0 at *;have HS:=ze (Ur r (Ur ae (Ur af ag)));clear r ae af ag;refine zaM (F:=Fence.wide) rfl oa (gf:=127) (lb:=#[Ua (I ⟨w.heap.size+1+1,0,U⟩)]) rfl trivial (enters_of func127 om rfl)
  (each_seq s hs (w.heap.size+1+1) W0 b3 4 oa) (λ_=>rfl) (LetI w) (λj a6 A' h hA=>h.keep (hA.mono (λk _ hp=>⟨by have:=hp.1;omega,hp.2⟩)))
  ⟨K U 0 0,b1,zgP _ _ _ _,λ_=>rfl,b2,aU,oa⟩
  (λx=>{ tmps:=#[Uc s,M J B,undef,undef,K U 0 0,Ui,Ua (I ⟨w.heap.size,0,U⟩),Ua (I ⟨w.heap.size+1,0,U⟩),M J x.1,M Ug x.2,Uc s,M J s.size,M J B,C (decide (B<(s.size:Int))),undef,undef,undef,Uc s,.func (.func 127) #[] #[Ua (I ⟨w.heap.size+1+1,0,U⟩)],M J x.1,M Ug x.2,undef,undef,undef,undef,undef,undef,undef,undef,undef,undef,undef,undef,undef,undef,undef,undef,undef,undef],defers:=[] }) ?assign ?body ?done
 case assign=>
  intro l x W a8 m;gi_wp2;exact m
 case body=>
  rintro l j x W ⟨v,c,a,aC,d,t,aG⟩ aE;obtain⟨r,ae,af,ag⟩:=zb HS;have aX:=JY s (s.size+1) 0 x (aE.subset ov);have bi:j.length+1<=401:=by have:=aE.length_le;have h2:=we s (s.size+1) 0;simp at this;omega
  obtain⟨a1,a2,ay,az,aA⟩:=aX;have aY:=zaQ x.2;obtain⟨L,P,N,rfl⟩:=zr a;have k1:=c.cell;have ao:=ze a;obtain⟨xa,S⟩:=x;simp only[] at a1 a2 ay az aA aY ⊢
  gi_wp2_with (gi_at_builtin;refine zb ?_)
  refine ze ?_;refine wpListIn_append_own _ rfl _ _ 108 rfl (w.heap.size+3) 184 i0 (Uf #[M J 0,M Ug 0]) 2 16 underlying108 r ae af ag rfl od (K L P N) _ _ rfl (zgO a _) ⟨W.heap.size,0,U⟩ 1 1 [M J xa,M Ug S] rfl rfl (cell_two_new _ _ _ _) (λu hu=>by simp at hu;rcases hu with rfl|rfl<;>rfl) (by unfold maxLen;omega) oa ou ?_;intro v' b aj z _;obtain⟨g',ac,rfl⟩:=ownsRow_succ aj;have ab:Boxed b w.heap.size 108 (K L P N):=(c.alloc _).kept z (c.not_row od a);have ar:Boxed b (w.heap.size+1) 3 (M J (wd j)):=(d.alloc _).kept z (d.not_row od a);have aa:=ar.other (B':=w.heap.size) oa (K (I ⟨g',0,U⟩) (j.length+1) ac);have aN:H (zf (λk=>k=w.heap.size\/k=w.heap.size+1\/(K L P N).ownBlock=I k) W b):=((zf.refl _ W).alloc _).grown z (λk e=>Q (O (O e)));have aM:H (KeepsOthers W b):=(KeepsOthers.alloc W _).trans (KeepsOthers.of_grownBy z λq o ej hj=>by
   rcases(zgO a (Ub #[M J xa,M Ug S] 184)).2 with⟨e,_⟩|⟨g,ba,bb,e,_,aV,_⟩;cases e;simp[Value.ownBlock] at ej;cases e;obtain rfl:g=q:=(by simpa [Value.ownBlock] using ej);rw[aV] at hj;cases hj;rfl)
  have r1:=ab.cell;have r2:=ab.frozen;have r3:=aa.cell;have r4:=aa.frozen;have an:=ze aj;have al:=ze ab;have am:=ze aa;have aK:=ze d;have aL:=ze c;clear a aj z ab aa ar d c
  gi_wp2_with (refine⟨trivial,?_⟩;gi_at_call 74;refine(CallsIn.inRound l (callsIn_wide.2 (zaP S _ ay az aA))).mono ?_;rintro e wq ⟨rfl,aI⟩;obtain rfl:=aI.symm;clear aI)
  have ai:=(aN.setCell (p:=⟨w.heap.size,0,U⟩) (Q (Q rfl)) (K (I ⟨g',0,U⟩) (j.length+1) ac)).setCell (p:=⟨w.heap.size+1,0,U⟩) (Q (O (Q rfl))) (M J (xa+jf S));have aJ:=an.kept (grownBy_setCell' b w.heap.size (K (I ⟨g',0,U⟩) (j.length+1) ac)) (O (Boxed.not_row al od an).symm);have a5:=aJ.kept (grownBy_setCell' _ (w.heap.size+1) (M J (xa+jf S))) (O (Boxed.not_row am od aJ).symm);refine⟨((aM.trans (KeepsOthers.setCell _ _ _)).trans (KeepsOthers.setCell _ _ _)).from _,LetI.keepT aL ⟨L,P,N,rfl⟩ ao aC aK ai,?_⟩;refine⟨K (I ⟨g',0,U⟩) (j.length+1) ac,Boxed.other (Boxed.set _ al) oa _,?_,λh=>by simp at h,?_,t.later ai ?_,zgN aG ai.size⟩;rw[JQ,zgK];exact a5;rw[Ki];exact Boxed.set _ am;rintro i (rfl|rfl|r);omega;omega;have:=ao.lt i r;omega
 case done=>
  rintro X W hD ⟨v,c,a,aC,d,t,aG⟩ m;have bg:0<=wd (zV s (s.size+1) 0)/\wd (zV s (s.size+1) 0)<=500:=by rcases List.eq_nil_or_concat (zV s (s.size+1) 0) with e|⟨j,x,e⟩;rw[e];simp[wd];have hm:=JY s (s.size+1) 0 x (by rw[e];simp);have hr:=zaQ x.2;rw[e,List.concat_eq_append,Ki];omega
  have bk:=(t.cell (p:=⟨1,0,U⟩) (zgF w _ aF) id).trans aF;obtain⟨L,P,N,rfl⟩:=zr a;have k1:=c.cell;have k2:=d.cell;generalize aw:wd (zV s (s.size+1) 0)=en at *;by_cases hE:en<s.size
  .gi_wp2_with (refine⟨trivial,?_⟩;gi_at_call 45;refine(callsIn_wide.2 (jg T y en _)).mono ?_;rintro e b ⟨v,rfl,hv,ax⟩)
   subst aw;have aS:X<W.heap.size:=(zgM.1 m).1;have aT:=(ax.block X aS id).trans m;refine⟨ov,Q ⟨_,_,rfl,run_takeDeferred aT,?_⟩⟩;refine⟨_,results_tmp2 rfl _ _ _,((t.trans ax).putObj _ _ (O oa)),O ⟨v,rfl,?_⟩⟩;exact(hv.keep ((zf.refl (λk=>k=X) b).putObj X _ (Q rfl)) (λg hg=>oa)).base (base':=w.heap.size) oa
  gi_wp2;subst aw;refine⟨ov,Q ⟨_,_,rfl,run_takeDeferred m,?_⟩⟩;refine⟨_,results_tmp2 rfl _ _ _,(t.putObj _ _ (O oa)),Q ⟨_,rfl,ownsRow_putObj a _ m rfl⟩⟩
end
