/- The shelf's contracts of slices, laid at this program. -/
import Derived.Test.YtcgleficedipkaaGreatDoorYSrtISrtN
import Derived.Test.YtcgleficedipkaaGreatDoorYBldABldF
import Derived.Shelf.SlicesE.Compact
import Derived.Shelf.SlicesQ.IndexFunc
import Derived.Ground.SlgnProg
import Derived.Ground.SlgfProg
import Derived.Test.YtcgleficedipkaaGreatDoorYMatLMatO
namespace Go.Proofs.YtcgleficedipkaaGreatDoor
open Option renaming none->U,some->I
open Value renaming int->M,slice->K,bool->C,pointer->Ua,tuple->Ue,agg->Uf
open IntKind renaming i64->J,i32->Ug
open Bool renaming false->Z,true->G
open Go renaming World->E,Value->Y,Calls->Uh
open Go.RowKit renaming Hid->H
open Or renaming inr->O,inl->Q
open Ending renaming returned->R
open Obj renaming cells->Ub
open Pro Cs Prg
open _root_.Go.Proofs.Tryz
variable {w V:World}{pb g cap h:Nat}{v:Value}(W:World)(base sb rb gb n:Nat){rs:List Nat}{L:List (Int×Int)}
section
open Go.RowKit Go.Shelf Go.Lib Go.Sort
def JS:Go.Shelf.Ren:=⟨fun|43=>125|n=>n,fun|22=>166|23=>21|3=>3|4=>4|0=>0|n=>n,fun|n=>n⟩
theorem zbA:Go.Proofs.SlLaysE.n43 prog JS:={
 mixed:=om
 f43:=⟨Tryz.f125.name,od,func125.trans (congrArg I om)⟩
 t0:=underlying0
 a0:=Tryz.isAgg0
 z0:=Tryz.sizeOf0
 v0:=Tryz.zeroValue0
 t3:=underlying3
 a3:=Tryz.isAgg3
 z3:=Tryz.sizeOf3
 v3:=Tryz.zeroValue3
 t4:=underlying4
 a4:=Tryz.isAgg4
 z4:=Tryz.sizeOf4
 v4:=Tryz.zeroValue4
 t22:=underlying166
 a22:=Tryz.isAgg166
 z22:=Tryz.sizeOf166
 v22:=Tryz.zeroValue166
 a23:=Tryz.isAgg21
 z23:=Tryz.sizeOf21 }
def Q8:Go.Shelf.Ren:=⟨fun|8=>68|6=>121|n=>n,fun|22=>154|23=>164|25=>170|4=>4|3=>3|0=>0|n=>n,fun|n=>n⟩
theorem zaa:Go.Proofs.SlLaysH0.n8 prog Q8:={
 mixed:=om
 f6:=⟨Tryz.f121.name,od,func121.trans (congrArg I om)⟩
 f8:=⟨Tryz.f68.name,od,func68.trans (congrArg I om)⟩
 t0:=underlying0
 a0:=Tryz.isAgg0
 z0:=Tryz.sizeOf0
 v0:=Tryz.zeroValue0
 t3:=underlying3
 a3:=Tryz.isAgg3
 z3:=Tryz.sizeOf3
 v3:=Tryz.zeroValue3
 t4:=underlying4
 a4:=Tryz.isAgg4
 z4:=Tryz.sizeOf4
 v4:=Tryz.zeroValue4
 t22:=underlying154
 a22:=Tryz.isAgg154
 z22:=Tryz.sizeOf154
 v22:=Tryz.zeroValue154
 t25:=underlying170
 a25:=Tryz.isAgg170
 z25:=Tryz.sizeOf170
 v25:=Tryz.zeroValue170 }
theorem zbB {a q:Nat}{d:Array Int}:zf (zt a) w (putRow (M Ug) (Sort.ahead w q) a 0 d):=by refine⟨rfl,rfl,rfl,ov,λk e b=>?_⟩;have c:k≠a:=b;unfold putRow mapBlock Sort.ahead;simp only[zic,Ne.symm c,if_false]
end
section
open Go.RowKit Go.Shelf
open Sm (Stp)
set_option maxHeartbeats 4000000
set_option maxRecDepth 1000000
attribute [local go_sem] Oper.semAt_some
theorem vN:∀(a:List (Stp×Y)) (j:Nat) (z:Stp×Y),a[j]?=I z->(yN a)[j*5]?=I (M J (z.1.kind:Nat))/\(yN a)[j*5+1]?=I z.2/\(yN a)[j*5+2]?=I (M J z.1.asr)/\(yN a)[j*5+3]?=I (M J (z.1.next:Nat))/\(yN a)[j*5+4]?=I (M J (z.1.other:Nat))
 | [],j,z,h=>by simp at h
 |x :: a,0,z,h=>by simp at h;subst h;simp[yN]
 |x :: a,j+1,z,h=>by
  have:=vN a j z (by simpa using h);rw[show(j+1)*5=j*5+5 by omega];simpa [yN] using this
structure StpsAt (w:E)(pb g cap:Nat)(Z:List (Stp×Y))(wv:Y):Prop where
 c0:w.cell? ⟨pb,0,U⟩=I (K (I ⟨g,0,U⟩) Z.length cap)
 c2:w.cell? ⟨pb,2,U⟩=I wv
 le:Z.length<=cap
 row:∀j u,(yN Z)[j]?=I u->w.cell? ⟨g,j,U⟩=I u
 gl:g<w.heap.size
abbrev Slc:=Option Addr×Nat×Nat
def slV (p:Slc):Y:=K p.1 p.2.1 p.2.2
def KM (p:Slc):Array Y:=#[Uf #[slV p]]
theorem zbC (pb g cap c:Nat)(a:List (Stp×Y))(B:Slc)(zs:List Slc)(d:E)(h:StpsAt d pb g cap a (slV B))(N:d.cell? ⟨c,0,U⟩=I (Ua (I ⟨pb,0,U⟩)))(S:a.map Prod.snd=zs.map slV)(hl:a.length<=1000)(n:Nat)(a7:1<=n):SeqO Fence.wide n prog 126 #[Ua (I ⟨c,0,U⟩)] KM (B :: zs) (λk=>k=c\/k=pb\/k=g) d:=by
 intro lp aE O0 W hO hD aN hJ F h0;have aS:=zgF d _ N;have aV:=zgF d _ h.c0;have aP:=h.gl;have b:H (jT (λk=>k=c\/k=pb\/k=g) d W O0):=jT.start (λk hk=>by rcases hk with rfl|rfl|rfl;exact aS;exact aV;exact aP) hO hD;have aR:=(b.cell (p:=⟨c,0,U⟩) (Q rfl)).trans N;have ao:=(b.cell (p:=⟨pb,2,U⟩) (O (Q rfl))).trans h.c2;have HH:=ze h;have HJ:=ze hJ;have HY:=ze F;have HZ:=ze S;have aY:=hO.size;have a8:zs.length=a.length:=by have:=congrArg List.length S;simpa using this.symm
 obtain⟨fn,aZ,assign,body,z,x⟩:=F [] O0 B W h0 ov;obtain⟨s,v,t⟩:=B;simp only[KM,slV] at z ao;clear h hJ F h0 hD aN S;refine callsIn_of_wp func126 rfl trivial ?_ rfl;simp only[ntmps126,zhg,zg4,zhe,Nat.reduceAdd,Nat.reduceSub,zhA,zhz,zhK,zhC,zho,zhf]
 gi_wp2
 refine x.mono ?_;rintro e W1 ⟨rfl,O1,ak,ap,an,aU⟩;have r:=ze ak;have w:=ze (b.yield ap an);have a5:=(w.cell (p:=⟨c,0,U⟩) (Q rfl)).trans N;have a6:=(w.cell (p:=⟨pb,0,U⟩) (O (Q rfl))).trans HH.c0;clear ak ap an aU aR ao z x b
 gi_wp2
 gi_loopw [17] (λX wr=>∃(i:Nat) (m:Nat->Prop),X=M J i/\i<=a.length/\H (aE (((s,v,t):Slc) :: zs.take i) m wr)/\H (jT (λk=>k=c\/k=pb\/k=g) d wr m)) (λX _=>a.length-(intOf X).toNat)
 case atStart=>exact⟨0,O1,rfl,oa,r,w⟩
 case round=>
  clear w r;obtain⟨i,m,rfl,hi,r,b⟩:=hrel;by_cases aT:i<a.length
  .have L:a[i]?=I a[i]:=zgE aT;obtain⟨f0,f1,f2,f3,f4⟩:=vN a i _ L;have o:∀q u,(yN a)[q]?=I u->wr.cell? ⟨g,q,U⟩=I u:=λq u hq=>(b.cell (p:=⟨g,q,U⟩) (O (O rfl))).trans (HH.row q u hq);have c0:=o _ _ f0;have c1:=o _ _ f1;have c2:=o _ _ f2;have c3:=o _ _ f3;have c4:=o _ _ f4;obtain⟨⟨f,l,j⟩,aq⟩:∃q,zs[i]?=I q:=⟨_,zgE (show i<zs.length by omega)⟩
   (((have P:a[i].2=K f l j:=by have h1:(a.map Prod.snd)[i]?=(zs.map slV)[i]?:=(by rw[zb HZ]);rw[zgZ,zgZ,L,aq] at h1;simpa [slV] using h1);have T:zs[i]' oa=(f,l,j):=(by grind);have HP:H ((((s,v,t):Slc) :: zs.take i++[(f,l,j)]) <+: (((s,v,t):Slc) :: zs)):=by rw[zhf,<-T];exact(List.cons_prefix_cons).2 ⟨rfl,Kj _ i oa⟩);have HT:H (((s,v,t):Slc) :: zs.take i++[(f,l,j)]=((s,v,t):Slc) :: zs.take (i+1)):=by rw[zhf,<-T,Zw _ i oa];rfl);rw[P] at c1;clear L f0 f1 f2 f3 f4 o aq T;generalize a[i]=y at *;obtain⟨⟨yk,yl,ya,yn,yo⟩,yv⟩:=y;simp only[] at P c0 c2 c3 c4;clear P;have al:=zb HJ _ m wr (wr.alloc (Ub #[M J (yk:Nat),K f l j,M J ya,M J (yn:Nat),M J (yo:Nat)] 164)) r ((zf.refl _ wr).alloc _);have ay:=ze (b.young (W:=W) aY (A':=wr.alloc (Ub #[M J (yk:Nat),K f l j,M J ya,M J (yn:Nat),M J (yo:Nat)] 164)) ((zf.refl _ wr).alloc _));obtain⟨fn,aZ,assign,body,z,x⟩:=zb HY _ m (f,l,j) _ al HP;simp only[KM,slV] at z;clear al;gi_wp2;refine x.mono ?_;rintro e W3 ⟨rfl,O',aM,aX,aO,a4⟩;have az:=ze (ay.yield aX aO);gi_wp2;exact⟨⟨i+1,O',by go_num,oa,(by rw[<-zb HT];exact aM),az⟩,by simp[intOf];omega⟩
  obtain rfl:i=a.length:=by omega
  gi_wp2
  go_end0
  exact⟨⟨_,rfl⟩,m,by have:=zb r;rwa [zhs oa] at this⟩
attribute [local go_sem] Oper.semAt_some
theorem zab {F:Fence}{nF:Nat}{P:Program}(w:World){ops:Array Oper}{rest:List Oper}{o:Oper}{a:Act}{Q:Exit->Act->World->Prop}(hgd:o.guard=none)(s x:Operand)(t:TypeId)(ho:o.op=.call { callee:=.builtin .append,args:=#[s,x],argTypes:=#[t,t] })(base:Nat) (e:TypeId) (i:TypeInfo) (z:Value) (size bytes:Nat) (ht:P.underlying t=some (.slice e)) (hi:P.info? e=some i) (hz:i.zero=some z)(hsize:i.size=size) (hby:i.bytes=bytes) (hzs:z.cells.size=size) (hsz:0<size)(v:Value) (n:Nat) (xs:List Value) (hs:a.eval s=v) (hown:w.ownsRow base e size v n xs)(ad:Addr) (m c:Nat) (news:List Value) (hx:a.eval x=.slice (some ad) m c) (hl:news.length=m*size) (hnews:∀j u,news[j]?=some u->w.cell? (ad.add j)=some u) (h1:∀u∈news,u.oneCell'=true)(_hm:0<m) (h63:n+m<=maxLen) (hbytes:(n+m)*bytes<=140737488355328) (hbase:base<=w.heap.size)(h:∀v' w',w'.ownsRow base e size v' (n+m) (xs++news)->w.grownBy w' v.ownBlock->(∀k,v'.ownBlock=some k->v.ownBlock=some k\/w.heap.size<=k)->wpListIn F nF P ops Q rest (a.put o.dst v') w'):wpListIn F nF P ops Q (o :: rest) a w:=by
 have hgr:∀w' row,w.grownBy w' none->w.grownBy w' row:=fun w' row g=>⟨g.os,g.tape,g.output,g.size,fun k hk _=>g.block k hk ov⟩
 rcases hown.2 with⟨rfl,rfl⟩ |⟨g,cap,cur,rfl,hbg,hg,hnc,hcm,hcs,htake⟩
 ·have hxs:xs=[]:=zgY (by simpa using hown.1);subst hxs;exact wpListIn_append_own w hgd s x t ho w.heap.size e i z size bytes ht hi hz hsize hby hzs hsz _ 0 [] hs (zgP _ _ _ _) ad m c news hx hl hnews h1 h63 hbytes (zgH _) (fun v' w' h2 h3 _=>h v' w' (zZ h2 hbase) h3 (fun k hk=>.inr (h2.lt k hk).1))
 ·by_cases hroom:n+m<=cap
  ·exact wpListIn_append_fits w hgd s x t ho base e i size ht hi hsize g n cap xs hs hown ad m c news hx hl hnews h1 hroom (fun w' h2 h3=>h _ w' h2 h3 (fun k hk=>.inl hk))
  ·refine wpListIn_plain hgd fun K hK'=>?_;obtain⟨v',w',hrun,r1,r2⟩:=run_append_arg_grows (P:=P) w t o.type e i z size bytes ht hi hz hsize hby hzs hsz ⟨g,0,none⟩ n cap xs hown.1 (hown.cells (g:=g) rfl) ad m c news hl hnews oa h63 hbytes;unfold Oper.wpIn;refine⟨?_,?_⟩
   ·simp[Oper.about,ho,resolve,Target.leads,Sem.run_pure]
   ·rw[Oper.semAt_plain F _ _ (by rw[ho];intro c hc';cases hc')];simp[execOp,ho,resolve,invoke,builtin,hs,hx,hrun,Result.andThen];exact hK' _ _ (h v' w' (zZ r1 hbase) (hgr _ _ r2) (fun k hk=>.inr (r1.lt k hk).1))
theorem Tryz.infoRune:(prog.info? 21).map (λi=>(i.zero,i.size,i.bytes))=I (I (M Ug 0),1,4):=om
def xY (a:List Int):List Y:=a.map (M Ug)
theorem Q9 (a b:List Int):xY (a++b)=xY a++xY b:=by simp[xY]
abbrev Stl:=Nat×Slc×Int×Nat×Nat
def YI (x:Stl):List Y:=[M J (x.1:Nat),slV x.2.1,M J x.2.2.1,M J (x.2.2.2.1:Nat),M J (x.2.2.2.2:Nat)]
def asksW (x:Stl):Bool:=decide (x.1=2) && (decide (x.2.2.1=2) ||decide (x.2.2.1=3))
theorem asks_any (x:Stl)(w:E):Uh prog 69 #[Uf (YI x).toArray] w λe j=>e=R (C (asksW x))/\ziE w j:=by
 obtain⟨k,⟨g,i,h⟩,a,n,o⟩:=x;unfold YI asksW slV;simp only[];have b:H (ziE w (w.alloc (Ub #[M J (k:Nat),K g i h,M J a,M J (n:Nat),M J (o:Nat)] 164))):=(zf.refl _ _).alloc _;by_cases f:k=2
 .subst f;by_cases c:a=2
  .subst c;go_enter func69,ntmps69;go_wp2;go_ret;exact⟨ov,b⟩
  have l:(a == 2)=Z:=(by simp[c]);by_cases d:a=3
  .subst d;go_enter func69,ntmps69;go_wp2;go_ret;exact⟨ov,b⟩
  have m:(a == 3)=Z:=(by simp[d]);go_enter func69,ntmps69;go_wp2;go_ret;exact⟨by simp[c,d],b⟩
 have p:((k:Int) == 2)=Z:=by simp;omega
 go_enter func69,ntmps69;go_wp2;go_ret;exact⟨by simp[f],b⟩
theorem zbD (pb:Nat)(w:E):Uh prog 72 #[Ua (I ⟨pb,0,U⟩)] w λe b=>∃v,e=R v/\∃a,v=.func (.func 126) #[] #[Ua (I ⟨a,0,U⟩)]/\w.heap.size<=a/\b.cell? ⟨a,0,U⟩=I (Ua (I ⟨pb,0,U⟩))/\ziE w b:=by
 have c:H (∃a,Value.func (.func 126) #[] #[Ua (I ⟨w.heap.size,0,U⟩)]=.func (.func 126) #[] #[Ua (I ⟨a,0,U⟩)]/\w.heap.size<=a/\(w.alloc (Ub #[Ua (I ⟨pb,0,U⟩)] 95)).cell? ⟨a,0,U⟩=I (Ua (I ⟨pb,0,U⟩))/\ziE w (w.alloc (Ub #[Ua (I ⟨pb,0,U⟩)] 95))):=⟨_,rfl,zgH _,zm w _ rfl _ _ 0 _ rfl,(zf.refl _ _).alloc _⟩
 go_enter func72,ntmps72;go_wp2_with fail;go_ret;exact⟨_,rfl,c⟩
structure kR (w V:E)(pb g cap st:Nat)(Z:List (Stp×Y))(ws:Slc)(W:Int->Bool):Prop where
 at':StpsAt V pb g cap Z (slV ws)
 c1:V.cell? ⟨pb,1,U⟩=I (M J (st:Nat))
 c3:∃u,V.cell? ⟨pb,3,U⟩=I u
 f2:V.frozen? ⟨pb,2,U⟩=false
 f3:V.frozen? ⟨pb,3,U⟩=false
 sets:∀z∈Z,xu V (λk=>w.heap.size<=k/\k≠pb) (Uf #[z.2]) (jC z.1)
 word:xu V (λk=>w.heap.size<=k/\k≠pb) (Uf #[slV ws]) W
 own:w.heap.size<=pb/\w.heap.size<=g/\g≠pb
 only:ziE w V
theorem kR.pl {b:List (Stp×Y)}{c:Slc}{W:Int->Bool}(a:kR w V pb g cap h b c W):pb<V.heap.size:=zgF _ _ a.c1
theorem kR.keep {w V c:E}{pb g cap h:Nat}{i:List (Stp×Y)}{l:Slc}{W:Int->Bool}(a:kR w V pb g cap h i l W)(k:ziE V c):kR w c pb g cap h i l W:=by
 have d:=a.pl;obtain⟨u,m⟩:=a.c3;have b:∀o u,V.cell? ⟨pb,o,U⟩=I u->c.cell? ⟨pb,o,U⟩=I u:=λo u e=>(k.cell (p:=⟨pb,o,U⟩) d id).trans e;exact⟨⟨b _ _ a.at'.c0,b _ _ a.at'.c2,a.at'.le,λj u e=>(k.cell (p:=⟨g,j,U⟩) a.at'.gl id).trans (a.at'.row j u e),zgJ a.at'.gl k.size⟩,b _ _ a.c1,⟨u,b _ _ m⟩,
  (k.frozen (p:=⟨pb,2,U⟩) d id).trans a.f2,(k.frozen (p:=⟨pb,3,U⟩) d id).trans a.f3,λz n=>(a.sets z n).keep k (λ_ _ f=>f),a.word.keep k (λ_ _ f=>f),a.own,a.only.trans k⟩
theorem kR.setOther {c:List (Stp×Y)}{d:Slc}{W:Int->Bool}(a:kR w V pb g cap h c d W)(u:Y):kR w (V.setCell ⟨pb,3,U⟩ u) pb g cap h c d W:=by
 have k:zf (λk=>k=pb) V (V.setCell ⟨pb,3,U⟩ u):=(zf.refl (λk=>k=pb) V).setCell (p:=⟨pb,3,U⟩) (Q rfl) _;obtain⟨u3,i⟩:=a.c3;have f:=a.own.2.2;exact⟨⟨(zgI _ _ _ _ ov).trans a.at'.c0,(zgI _ _ _ _ ov).trans a.at'.c2,a.at'.le,λj u e=>(k.cell (p:=⟨g,j,U⟩) a.at'.gl f).trans (a.at'.row j u e),zgJ a.at'.gl k.size⟩,(zgI _ _ _ _ ov).trans a.c1,⟨u,zgL _ _ _ i⟩,
  (zk _ _ _ _).trans a.f2,(zk _ _ _ _).trans a.f3,λz l=>(a.sets z l).keep k (λ_ b e=>b.2 e),a.word.keep k (λ_ b e=>b.2 e),a.own,a.only.setCell (p:=⟨pb,3,U⟩) (O a.own.1) u⟩
theorem kR.setWord {c:List (Stp×Y)}{m ws':Slc}{W W':Int->Bool}(a:kR w V pb g cap h c m W)(f:xu V (λk=>w.heap.size<=k/\k≠pb) (Uf #[slV ws']) W'):kR w (V.setCell ⟨pb,2,U⟩ (slV ws')) pb g cap h c ws' W':=by
 have k:zf (λk=>k=pb) V (V.setCell ⟨pb,2,U⟩ (slV ws')):=(zf.refl (λk=>k=pb) V).setCell (p:=⟨pb,2,U⟩) (Q rfl) _;obtain⟨u3,i⟩:=a.c3;have d:=a.own.2.2;exact⟨⟨(zgI _ _ _ _ ov).trans a.at'.c0,zgL _ _ _ a.at'.c2,a.at'.le,λj u e=>(k.cell (p:=⟨g,j,U⟩) a.at'.gl d).trans (a.at'.row j u e),zgJ a.at'.gl k.size⟩,(zgI _ _ _ _ ov).trans a.c1,⟨u3,(zgI _ _ _ _ ov).trans i⟩,
  (zk _ _ _ _).trans a.f2,(zk _ _ _ _).trans a.f3,λz l=>(a.sets z l).keep k (λ_ b e=>b.2 e),f.keep k (λ_ b e=>b.2 e),a.own,a.only.setCell (p:=⟨pb,2,U⟩) (O a.own.1) _⟩
theorem zac {A:Nat->Prop}{x:Y}{S:Int->Bool}(h:xu w A (Uf #[x]) S):∃p:Slc,x=slV p:=by obtain⟨d,c,b,a,_⟩:=h;simp at b;subst b;rcases a with⟨a,_⟩|⟨g,cap,a,_⟩;exact⟨(U,0,0),a⟩;exact⟨(_,_,_),a⟩
theorem slcs {w:E}{A:Nat->Prop}:∀(a:List (Stp×Y)),(∀z∈a,xu w A (Uf #[z.2]) (jC z.1))->∃zs:List Slc,a.map Prod.snd=zs.map slV
 | [],_=>⟨[],rfl⟩
 |z :: a,h=>by
  obtain⟨zs,e⟩:=slcs a (λy c=>h y (zgR _ c));obtain⟨p,b⟩:=zac (h z zgQ);exact⟨p :: zs,by simp[e,b]⟩
theorem kR.spans {b:List (Stp×Y)}{e:Slc}{W:Int->Bool}{zs:List Slc}(a:kR w V pb g cap h b e W)(m:b.map Prod.snd=zs.map slV):∀p∈e :: zs,∃l A,yO V A (slV p) l/\zQ l:=by
 have one:∀(p:Slc) (S:Int->Bool),xu V (λk=>w.heap.size<=k/\k≠pb) (Uf #[slV p]) S->∃l A,yO V A (slV p) l/\zQ l:=λp S j=>by obtain⟨r,q,d,f,i,_⟩:=j;simp at d;subst d;exact⟨q,_,f,i⟩
 intro p c;rcases zhh.1 c with rfl|c;exact one _ _ a.word;have:slV p∈b.map Prod.snd:=by rw[m];exact zhS c
 obtain⟨z,o,n⟩:=zhF.1 this;exact one p _ (n ▸ a.sets z o)
theorem kR.prog {b:List (Stp×Y)}{e:Slc}{W:Int->Bool}(a:kR w V pb g cap h b e W)(n:b.length<=300)(m:∀(k:Nat) s,(sts b)[k]?=I s->s.next<(sts b).length/\s.other<(sts b).length)(o:h<(sts b).length):kr V (λk=>w.heap.size<=k) pb (sts b) h W:=by refine⟨a.own.1,⟨g,cap,by rw[yd];exact a.at'.c0,a.own.2.1,by rw[yd];exact a.at'.le,λk s c=>?_⟩,a.c1,⟨slV e,a.at'.c2,a.word.mono (λ_ _ a=>a.1)⟩,by rw[yd];exact n,m,o⟩;unfold sts at c;rw[zgZ] at c;obtain⟨z,d,rfl⟩:=zhd.1 c;obtain⟨f,f1,i,j,l⟩:=vN b k z d;exact⟨a.at'.row _ _ f,⟨z.2,a.at'.row _ _ f1,(a.sets z (zgS d)).mono (λ_ _ a=>a.1)⟩,a.at'.row _ _ i,a.at'.row _ _ j,a.at'.row _ _ l⟩
end
section
open Go.RowKit Go.Shelf Go.Lib
open Sm (Stp Tree yJ)
def slcOf:Y->Slc
 | K a n c=>(a,n,c)
 |_=>(U,0,0)
def KN (z:Stp×Y):Stl:=(z.1.kind,slcOf z.2,z.1.asr,z.1.next,z.1.other)
def askS (s:Stp):Bool:=decide (s.kind=2) && (decide (s.asr=2) ||decide (s.asr=3))
theorem KO (a:List (Stp×Y))(g cap:Nat)(V:E)(N:∀z∈a,∃p:Slc,z.2=slV p)(c:∀j u,(yN a)[j]?=I u->V.cell? ⟨g,j,U⟩=I u)(y:g<V.heap.size)(S:a.length<=1000):Uh prog 68 #[K (I ⟨g,0,U⟩) a.length cap,.func (.func 69) #[] #[]] V λe k=>e=R (C (a.any (λz=>askS z.1)))/\ziE V k:=by
 have t:∀j,j<(a.map KN).length->∀i v,(YI (a.map KN)[j]!)[i]?=I v->V.cell? ⟨g,0+j*5+i,U⟩=I v:=by
  intro j f i v b;have h:j<a.length:=by simpa using f
  have B:a[j]?=I a[j]:=zgE h;obtain⟨p,F⟩:=N a[j] (zg5 h);obtain⟨m,f1,o,q,r⟩:=vN a j _ B;have e:(a.map KN)[j]! = KN a[j]:=by rw[getElem!_pos _ j f];simp
  rw[e] at b;have l:YI (KN a[j])=[M J (a[j].1.kind:Nat),a[j].2,M J a[j].1.asr,M J (a[j].1.next:Nat),M J (a[j].1.other:Nat)]:=by
   unfold YI KN;simp only[];rw[F];rfl
  rw[l] at b;rw[zg6]
  match i,b with
  |0,b=>simp at b;subst b;exact c _ _ m
  |1,b=>simp at b;subst b;exact c _ _ f1
  |2,b=>simp at b;subst b;exact c _ _ o
  |3,b=>simp at b;subst b;exact c _ _ q
  |4,b=>simp at b;subst b;exact c _ _ r
  |n+5,b=>simp at b
 have L:PredBelow prog 69 #[] (λx:Stl=>Uf (YI x).toArray) asksW V:=λW x d=>by have:=asks_any x W;refine Calls.mono (by simpa using this) ?_;rintro e P ⟨rfl,s⟩;exact⟨rfl,d.trans (s.below.mono d.size)⟩
 refine(AnyQ.slices_ContainsFunc zaa 5 (λw=>om) (λw=>om) YI (λx=>by simp[YI]) asksW 69 #[] (enters_of func69 om rfl) g 0 a.length cap (a.map KN) V L ov oa y t).mono ?_;rintro e P ⟨rfl,d⟩;refine⟨?_,zf.ofBelow d⟩;rw[zhs ov,List.any_map];rfl
theorem zbE {b:E}{h:Nat}{c:List (Stp×Y)}{d:Y}(v:je b w.heap.size c)(r:b.cell? ⟨w.heap.size,0,U⟩=I d)(ab:0<c.length)(l:ziE w b):∃g cap,d=K (I ⟨g,0,U⟩) c.length cap/\kR w (b.alloc (Ub #[d,M J (h:Nat),K U 0 0,K U 0 0] 168)) b.heap.size g cap h c (U,0,0) (λ_=>Z):=by obtain⟨T,s,i,t⟩:=v.ex;obtain rfl:d=T:=zg0 (r.symm.trans s);have P:=l.size;have k:ziE b (b.alloc (Ub #[d,M J (h:Nat),K U 0 0,K U 0 0] 168)):=(zf.refl _ _).alloc _;have x:=λg=>zh i g;rcases i.2 with⟨rfl,n⟩|⟨g,cap,o,rfl,W,y,N,X,aa,S⟩;omega;have F:=(x g rfl).2;refine⟨g,cap,rfl,⟨zm b _ rfl _ _ 0 _ rfl,zm b _ rfl _ _ 2 _ rfl,N,λj u m=>?_,by simp;omega⟩,zm b _ rfl _ _ 1 _ rfl,⟨_,zm b _ rfl _ _ 3 _ rfl⟩,zu b _ rfl _ _ 2,zu b _ rfl _ _ 3,λz n=>?_,xu.none _ _ _ (λ_=>rfl),⟨P,oa,oa⟩,l.trans k⟩;refine(k.cell (p:=⟨g,j,U⟩) F id).trans ?_;have L:j<c.length*5:=(by have:=(zgG.1 m).1;rwa [zaJ] at this);have e:(o.toList.take (c.length*5))[j]?=(yN c)[j]?:=(by rw[S]);rw[zhQ L,m] at e;unfold World.cell?;rw[y];simpa using e;exact((t z n).mono (B:=λk=>w.heap.size<=k/\k≠b.heap.size) (λq hq a=>⟨oa,oa⟩)).keep k (λ_ _ f=>f)
end
section
open Go.RowKit
open Sm (Stp Tree)
theorem jo.get (h:jo w v L){k:Nat}(a:k<L.length):∃g cap i,v=K (I ⟨g,0,U⟩) L.length cap/\L.length<=cap/\w.cell? ⟨g,k*2,U⟩=I (M J i)/\w.cell? ⟨g,k*2+1,U⟩=I (M Ug (zj L k)):=by rcases h with⟨_,rfl⟩|⟨g,cap,b,c,d⟩;simp at a;obtain⟨e,f⟩:=d k L[k] (zgE a);exact⟨g,cap,_,b,c,e,by rw[KP a];exact f⟩
theorem jo.slice (h:jo w v L):∃a c,v=K a L.length c:=by rcases h with⟨rfl,rfl⟩|⟨g,cap,b,_⟩;exact⟨_,_,rfl⟩;exact⟨_,_,b⟩
structure Zi (W:E)(b:Nat)(x y z u:Bool):Prop where
 k0:W.cell? ⟨b,0,U⟩=I (C x)
 k1:W.cell? ⟨b,1,U⟩=I (C y)
 k2:W.cell? ⟨b,2,U⟩=I (C z)
 k3:W.cell? ⟨b,3,U⟩=I (C u)
 f0:W.frozen? ⟨b,0,U⟩=Z
 f1:W.frozen? ⟨b,1,U⟩=Z
 f2:W.frozen? ⟨b,2,U⟩=Z
 f3:W.frozen? ⟨b,3,U⟩=Z
theorem Zi.keep {W W':E}{b:Nat}{x y z u:Bool}(h:Zi W b x y z u)(k:ziE W W'):Zi W' b x y z u:=by have a:b<W.heap.size:=zgF W ⟨b,0,U⟩ h.k0;exact⟨zg k _ _ h.k0 id,zg k _ _ h.k1 id,zg k _ _ h.k2 id,zg k _ _ h.k3 id,zo k _ a h.f0 id,zo k _ a h.f1 id,zo k _ a h.f2 id,zo k _ a h.f3 id⟩
theorem Zi.new (a:W.heap.size=n)(x y z u:Bool)(T:TypeId):Zi (W.alloc (Ub #[C x,C y,C z,C u] T)) n x y z u:=
 ⟨zm W n a _ T 0 _ rfl,zm W n a _ T 1 _ rfl,zm W n a _ T 2 _ rfl,zm W n a _ T 3 _ rfl,zu W n a _ T 0,zu W n a _ T 1,zu W n a _ T 2,zu W n a _ T 3⟩
set_option maxHeartbeats 1600000
def kt (w:E)(v:Y)(rs:List Nat):Prop:=(v=K U 0 0/\rs=[])\/∃g cap,v=K (I ⟨g,0,U⟩) rs.length cap/\rs.length<=cap/\∀(j:Nat) a,rs[j]?=I a->w.cell? ⟨g,j,U⟩=I (M J (a:Nat))
theorem kt.keep {b:E}{v:Y}{rs:List Nat}(h:kt w v rs)(k:ziE w b):kt b v rs:=by rcases h with h|⟨g,cap,c,d,e⟩;exact Q h;exact O ⟨g,cap,c,d,λj a i=>zg k _ _ (e j a i) id⟩
theorem kt.slice (h:kt w v rs):∃a c,v=K a rs.length c:=by rcases h with⟨rfl,rfl⟩|⟨g,cap,b,_⟩;exact⟨_,_,rfl⟩;exact⟨_,_,b⟩
theorem kt.get {a:Option Addr}{c:Nat}{rs:List Nat}(h:kt w (K a rs.length c) rs){k:Nat}(b:k<rs.length):∃g,a=I ⟨g,0,U⟩/\rs.length<=c/\w.cell? ⟨g,k,U⟩=I (M J (rs[k]:Nat)):=by
 rcases h with⟨_,h⟩|⟨g,cap,d,e,f⟩;rw[h] at b;simp at b
 grind
namespace Prg
def qx (N:List Stp)(c:Int)(a:Nat):Option Nat:=match N[a]? with
 |some s=>if jC s c=G then I s.next else U
 |none=>U
def qg (N:List Stp)(c:Int)(rs:List Nat):List Nat:=rs.filterMap (qx N c)
theorem zfH {N:List Stp}{c:Int}{rs:List Nat}{n:Nat}{s:Stp}(a:n<rs.length)(d:N[rs[n]]?=I s)(b:jC s c=G):qg N c (rs.take (n+1))=qg N c (rs.take n)++[s.next]:=by
 have e:qx N c rs[n]=I s.next:=by simp[qx,d,b]
 unfold qg;rw[zht,zgE a,List.filterMap_append];show _++List.filterMap (qx N c) [rs[n]]=_;simp[e]
theorem zbF {N:List Stp}{c:Int}{rs:List Nat}{n:Nat}{s:Stp}(a:n<rs.length)(d:N[rs[n]]?=I s)(b:jC s c=Z):qg N c (rs.take (n+1))=qg N c (rs.take n):=by
 have e:qx N c rs[n]=U:=by simp[qx,d,b]
 unfold qg;rw[zht,zgE a,List.filterMap_append];show _++List.filterMap (qx N c) [rs[n]]=_;simp[e]
theorem V8 (N:List Stp)(c:Int)(rs:List Nat):(qg N c rs).length<=rs.length:=List.length_filterMap_le _ _
theorem V9 {N:List Stp}{c:Int}{rs:List Nat}{b:Nat}:b∈qg N c rs↔∃a∈rs,∃s,N[a]?=I s/\jC s c=G/\b=s.next:=by
 unfold qg;rw[List.mem_filterMap];constructor
 .rintro⟨a,d,h⟩;unfold qx at h;split at h
  grind
  cases h
 rintro⟨a,d,s,f,e,rfl⟩;exact⟨a,d,by simp[qx,f,e]⟩
end Prg
theorem zfI (pb h:Nat)(N:List Stp)(W:Int->Bool)(rv:Y)(rs:List Nat)(c:Int)(A:Nat->Prop)(w:E)(u:kr w A pb N h W)(P:kt w rv rs)(hr:∀a∈rs,a<N.length)(hl:rs.length<=300):Uh prog 86 #[Ua (I ⟨pb,0,U⟩),rv,M Ug c] w λx i=>∃v,x=R v/\i.ownsRow w.heap.size 3 1 v (qg N c rs).length (yI (qg N c rs))/\ziE w i:=by
 obtain⟨i0,aH,aP,aQ,aR⟩:=info_parts Tryz.infoInt;obtain⟨va,vc,rfl⟩:=P.slice;obtain⟨gs,cs,aO,hA,a6,ai⟩:=u.c0;have a3:=u.len;have HR:=ze P;have HP:=ze u;have HW:=ze ai;have ay:=ze hr;clear P u ai hr;go_enter func86,ntmps86;go_wp2_with fail;go_loopw[7,13] (λlv k wr=>∃n:Nat,k=M J n/\n<=rs.length/\H (ziE w wr)/\H (wr.ownsRow w.heap.size 3 1 lv (qg N c (rs.take n)).length (yI (qg N c (rs.take n))))) (λ_ k _=>rs.length-(intOf k).toNat);exact⟨0,rfl,oa,zf.refl _ _,zgP _ _ _ _⟩;obtain⟨n,rfl,hn,b,l⟩:=hrel;obtain⟨L,na,F,rfl⟩:=zr l;by_cases p:n<rs.length
 ·(obtain⟨g,rfl,a5,ae⟩:=HR.get p;have a4:=zg b _ _ ae id;clear ae;have aL:=ay rs[n] (zg5 p);have S:N[rs[n]]?=I N[rs[n]]:=zgE aL;obtain⟨s0,⟨v,s1,an⟩,s2,s3,s4⟩:=zb HW _ _ S;have e0:=zg b _ _ s0 id;have e1:=zg b _ _ s1 id;have e3:=zg b _ _ s3 id;have ep:=zg b _ _ aO id;have HG:=ze S;have HS:=ze an;clear s0 s1 s2 s3 s4 an S;generalize aM:N[rs[n]]=s at *;clear aM;generalize X:rs[n]=a at *;have aN:∃x y z,v=K x y z:=by obtain⟨be,sp,e,t,_⟩:=zb HS;simp at e;subst e;rcases t with⟨t,_⟩|⟨g,cap,t,_⟩<;>exact⟨_,_,_,t⟩);obtain⟨sx,sy,sz,rfl⟩:=aN;by_cases T:s.kind=1
  ·(have aJ:((s.kind:Int) == 1)=G:=ou;have r:H (∀B,ziE wr B->Uh prog 134 #[Uf #[K sx sy sz],M Ug c] B λe i=>e=R (C (jC s c))/\ziE wr i/\i.cell? ⟨gs,a*5,U⟩=I (M J (s.kind:Nat))/\i.cell? ⟨gs,a*5+1,U⟩=I (K sx sy sz)):=λB k=>by refine(zd5 _ (jC s) c A _ (HS.keep (b.trans k) (λ_ _ f=>f))).mono ?_;rintro e i ⟨rfl,hO⟩;have k1:=k.trans hO;exact⟨rfl,k1,zg k1 _ _ e0 id,zg k1 _ _ e1 id⟩);clear T;cases o:jC s c
   ·(rw[o] at r;have m:H (wr.ownsRow w.heap.size 3 1 (K L na F) (qg N c (rs.take (n+1))).length (yI (qg N c (rs.take (n+1))))):=by rw[zbF p (by rw[X];exact HG) o];exact l);go_wp2_with(go_at_call 134;refine(zb r _ (by first|exact zf.refl _ _|exact(zf.refl _ _).drewN _)).mono ?_;rintro e w1 ⟨rfl,d,z0,z1⟩;have q:=ze d;clear d);have aw:H (w1.ownsRow w.heap.size 3 1 (K L na F) (qg N c (rs.take (n+1))).length (yI (qg N c (rs.take (n+1))))):=zl m q (λ_ _ f=>f);exact⟨⟨n+1,by go_num,oa,b.trans q,aw⟩,by simp[intOf];omega⟩
   rw[o] at r;have HE:H (qg N c (rs.take (n+1))=qg N c (rs.take n)++[s.next]):=zfH p (by rw[X];exact HG) o;have bb:(qg N c (rs.take n)).length<=300:=(by have:=V8 N c (rs.take n);rw[zhy] at this;omega);have ba:=b.size;go_wp2_with(first
    |(go_at_call 134;refine(zb r _ (by first|exact zf.refl _ _|exact(zf.refl _ _).drewN _)).mono ?_;rintro e w1 ⟨rfl,d,z0,z1⟩;have z3:=zg d _ _ e3 id;have q:=ze d;have a9:=d.size;have m:=ze (zl l d (λ_ _ f=>f));clear d)
    |(at_builtin;refine wpList_append_own _ rfl _ _ 27 rfl w.heap.size 3 i0 (M J 0) 1 8 underlying27 aH aP aQ aR rfl od _ _ _ rfl (zgO m _) _ 1 1 [M J (s.next:Nat)] rfl rfl (cell_one_new _ _ _) (λx hx=>by simp at hx;subst hx;rfl) (by unfold maxLen;omega) oa ou ?_;intro v' w4 ag af aK;have aB:=ze ag;have aA:=ze af;clear ag af aK))
   have aG:ziE w w4:=(((b.trans q).alloc _)).grown aA (λj hj=>Or.inr (zh m j hj).1);exact⟨⟨n+1,by go_num,oa,aG,(by show World.ownsRow _ _ _ _ _ _ _;rw[zb HE];unfold yI;rw[zgK,zhO];exact aB)⟩,by simp[intOf];omega⟩
  (have aJ:((s.kind:Int) == 1)=Z:=ou;have o:jC s c=Z:=(by simp[jC,T]);have m:H (wr.ownsRow w.heap.size 3 1 (K L na F) (qg N c (rs.take (n+1))).length (yI (qg N c (rs.take (n+1))))):=by rw[zbF p (by rw[X];exact HG) o];exact l);clear T;go_wp2_with fail;exact⟨⟨n+1,by go_num,oa,b,m⟩,by simp[intOf];omega⟩
 obtain rfl:n=rs.length:=oa;go_wp2_with fail;go_ret;rw[zhG] at l;exact⟨_,rfl,l,b⟩
set_option maxRecDepth 100000
structure Rch (w:E)(base sb rb gb n:Nat)(ms:List Bool)(rs:List Nat):Prop where
 s0:w.cell? ⟨sb,0,U⟩=I (K (I ⟨gb,0,U⟩) n n)
 r0:∃rv,w.cell? ⟨rb,0,U⟩=I rv/\w.ownsRow base 3 1 rv rs.length (yI rs)
 rf:w.frozen? ⟨rb,0,U⟩=Z
 ob:kY w gb ms
 ml:ms.length=n
 mark:∀p,p<n->ms[p]?=I (decide (p∈rs))
 cnt:ms.countP id=rs.length
 lt:∀a∈rs,a<n
 d1:sb≠rb
 d2:sb≠gb
 d3:rb≠gb
 l1:sb<base
 l2:rb<base
 l3:gb<base
 lb:base<=w.heap.size
theorem Rch.len {base sb rb gb n:Nat}{a:List Bool}{rs:List Nat}(h:Rch w base sb rb gb n a rs):rs.length<=n:=by rw[<-h.cnt,<-h.ml];exact List.countP_le_length
theorem Rch.keep {w b:E}{base sb rb gb n:Nat}{a:List Bool}{rs:List Nat}(h:Rch w base sb rb gb n a rs)(k:ziE w b):Rch b base sb rb gb n a rs:=by obtain⟨e,c,d⟩:=h.r0;exact { h with s0:=zg k _ _ h.s0 id,r0:=⟨e,zg k _ _ c id,zl d k (λ_ _ f=>f)⟩,rf:=zo k _ (zgJ h.l2 h.lb) h.rf id,ob:=h.ob.keep k id,lb:=zgN h.lb k.size }
namespace Prg
def Zj (rs:List Nat)(p:Nat):List Nat:=if p∈rs then rs else rs++[p]
end Prg
def Vis (base rb gb:Nat)(g:Nat):Prop:=g=rb\/g=gb\/base<=g
theorem zfJ (p:Nat)(c:List Bool)(rs:List Nat)(w:E)(h:Rch w base sb rb gb n c rs)(T:p<n)(hn:n<=300):Uh prog 132 #[M J (p:Nat),Ua (I ⟨sb,0,U⟩),Ua (I ⟨rb,0,U⟩)] w λx w'=>x=R (Ue #[])/\(∃aO,Rch w' base sb rb gb n aO (Zj rs p))/\zf (Vis base rb gb) w w':=by
 obtain⟨i0,ax,aK,aL,aM⟩:=info_parts Tryz.infoInt;obtain⟨rv,aH,N⟩:=h.r0;obtain⟨ra,rn,rc,rfl⟩:=zr N;have aJ:=h.s0;have aE:=h.rf;have aU:=h.len;have L:=h.mark p T;have ae:=h.ob.c p _ L;have aS:=h.ob.f p _ L;have af:=h.d1;have ag:=h.d2;have ah:=h.d3;have ai:=h.l1;have ay:=h.l2;have az:=h.l3;have aT:=h.lb;have s:=ze h;have HO:=ze N;clear h N L;by_cases b:p∈rs
 .have m:decide (p∈rs)=G:=decide_eq_true b;rw[m] at ae;have y:H (Zj rs p=rs):=by show _=_;unfold Zj;rw[IN b]
  clear b m;go_enter func132,ntmps132;go_wp2_with fail
  go_end0
  exact⟨rfl,⟨c,by rw[zb y];exact zb s⟩,zf.refl _ _⟩
 have m:decide (p∈rs)=Z:=decide_eq_false b;rw[m] at ae;have y:H (Zj rs p=rs++[p]):=by show _=_;unfold Zj;rw[iN b]
 have ap:=ze b;have aq:H (zf (λg=>g=gb\/base<=g) w (w.setCell ⟨gb,p,U⟩ (C G))):=(zf.refl _ w).setCell (Or.inl (Or.inl rfl)) _;have v:H ((w.setCell ⟨gb,p,U⟩ (C G)).ownsRow base 3 1 (K ra rn rc) rs.length (yI rs)):=zl HO ((zf.refl (λg=>g=gb) w).setCell (Or.inl rfl) _) (λg z e=>by have:=(zh HO g z).1;omega);have am:=ze (s.ob.set p G);have an:H (∀(j:Nat) (u:Y),[M J (p:Nat)][j]?=I u->((w.setCell ⟨gb,p,U⟩ (C G)).alloc (Ub #[M J (p:Nat)] 3)).cell? ((⟨w.heap.size,0,U⟩:Addr).add j)=I u):=by have h:=cell_one_new (w.setCell ⟨gb,p,U⟩ (C G)) (M J (p:Nat)) 3;rw[show(w.setCell ⟨gb,p,U⟩ (C G)).heap.size=w.heap.size by simp] at h;exact h
 have aj:¬(rb=gb\/base<=rb):=oa;have aG:rb<w.heap.size:=oa;clear b m;go_enter func132,ntmps132;go_wp2_with(at_builtin;refine wpList_append_own _ rfl _ _ 27 rfl base 3 i0 (M J 0) 1 8 underlying27 ax aK aL aM rfl od _ _ _ rfl (zgO v _) _ 1 1 [M J (p:Nat)] rfl rfl an (λx hx=>by simp at hx;subst hx;rfl) (by unfold maxLen;omega) oa ou ?_;intro v' i S B aB;obtain⟨X,xn,xc,rfl⟩:=zr S;have ad:=ze S;have ao:=ze B;have o:zf (λg=>g=gb\/base<=g) w i:=(aq.alloc _).grown B (λj F=>Or.inl (Or.inr (zh v j F).1));have aI:=zg o _ _ aH aj;have aF:=zo o _ aG aE aj;have t:=ze o;clear S B aB o)
 go_end0
 have r:zf (λg=>g=rb) i (i.setCell ⟨rb,0,U⟩ (K X xn xc)):=(zf.refl (λg=>g=rb) i).setCell (p:=⟨rb,0,U⟩) (Or.inl (show rb=rb from rfl)) _;have d:=zb s;have aw:∀k,k<base->k≠gb->¬(k=gb\/base<=k):=λk h1 h2=>oa;have aC:(i.setCell ⟨rb,0,U⟩ (K X xn xc)).ownsRow base 3 1 (K X xn xc) (rs++[p]).length (yI (rs++[p])):=by have:=zl ad r (λg z e=>by have h1:=(zh ad g z).1;have h2:g=rb:=e;omega);rw[zgK];unfold yI;rw[zhO];exact this
 have av:kY i gb (c.set p G):=((am.keep ((zf.refl (λ_=>False) _).alloc _) id)).keep (P:=λg=>base<=g) ((zf.refl _ _).grown ao (λj F=>Or.inl (zh v j F).1)) oa;have aA:c[p]?=I Z:=by have:=d.mark p T;rw[decide_eq_false ap] at this;exact this
 have W:p<c.length:=by rw[d.ml];exact T
 refine⟨rfl,⟨c.set p G,?_⟩,?_⟩;rw[zb y];refine⟨?_,⟨_,zgL _ _ _ aI,aC⟩,?_,av.keep r (λe=>ah e.symm),by rw[zhw];exact d.ml,λq hq=>?_,?_,λa l=>?_,af,ag,ah,ai,ay,az,?_⟩;exact zg r _ _ (zg t _ _ aJ (aw sb ai ag)) af;rw[World.frozen?_setCell];exact aF;by_cases e:p=q;subst e;rw[zh7 W];simp;rw[zhP e,d.mark q hq];simp[List.mem_append,Ne.symm e];rw[List.countP_set W,zgK,d.cnt];have:c[p]=Z:=(by have:=zgE W;rw[aA] at this;exact(zg0 this).symm);simp[this];rcases zgU.1 l with l|l;exact d.lt a l;simp at l;omega;have:=t.size;simp;omega;exact(t.mono (λk _ e=>e.elim (λe=>Or.inr (Or.inl e)) (λe=>Or.inr (Or.inr e)))).trans (r.mono (λk _ e=>Or.inl e))
end
