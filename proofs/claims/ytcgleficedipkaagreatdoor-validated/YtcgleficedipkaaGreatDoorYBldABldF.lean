/- The program's builder: its row of steps, and one step more. -/
import Derived.Test.YtcgleficedipkaaGreatDoorYCsKCsL
import Derived.Test.YtcgleficedipkaaGreatDoorYPrgA
import Derived.Deep.RegionLawGrows
namespace Go.Proofs.YtcgleficedipkaaGreatDoor
open Option renaming none->U,some->I
open Value renaming int->M,slice->K,bool->C,pointer->Ua,iface->Ud,tuple->Ue,agg->Uf,nilIface->Ui
open IntKind renaming i64->J
open Bool renaming false->Z,true->G
open _root_.Go.Proofs.Tryz renaming prog->V
open Go renaming World->E,Value->Y,Calls->Uh
open Go.RowKit renaming Hid->H
open Or renaming inr->O,inl->Q
open Ending renaming returned->R
open Obj renaming cells->Ub
open Go.Instr renaming typeAssert->Uk
open Pro Sm Cs Prg
open _root_.Go.Proofs.Tryz
variable (v:Value)(f bb:Nat)(w:World)
section
open Go.RowKit
open Sm (Stp Tree)
set_option maxHeartbeats 2000000
set_option maxRecDepth 1000000
def yN (a:List (Stp×Y)):List Y:=a.flatMap λz=>[M J (z.1.kind:Nat),z.2,M J z.1.asr,M J (z.1.next:Nat),M J (z.1.other:Nat)]
theorem Kd (l m:List (Stp×Y)):yN (l++m)=yN l++yN m:=by simp[yN]
theorem zaJ (l:List (Stp×Y)):(yN l).length=l.length*5:=by
 induction l with
 |nil=>rfl
 |cons x l a=>simp[yN] at a ⊢;omega
theorem Tryz.infoStep:(prog.info? 164).map (λi=>(i.zero,i.size,i.bytes))=I (I (Uf #[M J 0,K U 0 0,M J 0,M J 0,M J 0]),5,56):=om
structure je (w:E)(bb:Nat)(Z:List (Stp×Y)):Prop where
 ex:∃sv,w.cell? ⟨bb,0,U⟩=I sv/\w.ownsRow (bb+1) 164 5 sv Z.length (yN Z)/\∀z∈Z,xu w (λg=>bb<g/\sv.ownBlock≠I g) (Uf #[z.2]) (jC z.1)
 fr:w.frozen? ⟨bb,0,U⟩=false
theorem je.lt {w:E}{bb:Nat}{a:List (Stp×Y)}(h:je w bb a):bb<w.heap.size:=by obtain⟨c,b,_⟩:=h.ex;exact zgF w _ b
theorem je.young {w b:E}{bb:Nat}{a:List (Stp×Y)}(h:je w bb a)(o:ziE w b):je b bb a:=by obtain⟨i,c,d,e⟩:=h.ex;exact⟨⟨i,(o.cell (p:=⟨bb,0,U⟩) h.lt id).trans c,zl d o (λ_ _ f=>f),λz g=>(e z g).keep o (λ_ _ f=>f)⟩,(o.frozen (p:=⟨bb,0,U⟩) h.lt id).trans h.fr⟩
theorem xu.none (A:Nat->Prop)(S:Int->Bool)(h:∀c,S c=Z):xu w A (Uf #[K U 0 0]) S:=⟨_,[],rfl,Q ⟨rfl,rfl⟩,⟨List.Pairwise.nil,λx a=>by cases a⟩,λc=>by rw[h c];rfl⟩
theorem five_new (W:E)(n:Nat)(h:W.heap.size=n)(a b c d e:Y)(T:TypeId):∀j u,[a,b,c,d,e][j]?=I u->(W.alloc (Ub #[a,b,c,d,e] T)).cell? ((⟨n,0,U⟩:Addr).add j)=I u:=by
 intro j u g;have f:(⟨n,0,U⟩:Addr).add j=⟨n,j,U⟩:=by unfold Addr.add;split<;>simp_all
 rw[f];exact zm W n h _ _ _ _ (by simpa using g)
theorem qX {P:Program}{ops:Array Oper}{o:Oper}{a:Act}{w:World}{K:Act->World->Prop}{Q:Exit->Act->World->Prop}{E:Prop}(hgd:o.guard=none)(s x:Operand)(t:TypeId)(ho:o.op=.call { callee:=.builtin .append,args:=#[s,x],argTypes:=#[t,t] })(base:Nat) (e:TypeId) (i:TypeInfo) (z:Value) (size bytes:Nat) (ht:P.underlying t=some (.slice e)) (hi:P.info? e=some i) (hz:i.zero=some z)(hsize:i.size=size) (hby:i.bytes=bytes) (hzs:z.cells.size=size) (hsz:0<size)(v:Value) (n:Nat) (xs:List Value) (hs:a.eval s=v) (hown:w.ownsRow base e size v n xs)(ad:Addr) (m c:Nat) (news:List Value) (hx:a.eval x=.slice (some ad) m c) (hl:news.length=m*size) (hnews:∀j u,news[j]?=some u->w.cell? (ad.add j)=some u) (h1:∀u∈news,u.oneCell'=true)(hm:0<m) (h63:n+m<=maxLen) (hbytes:(n+m)*bytes<=140737488355328) (hbase:base<=w.heap.size)(h:∀v' w',w'.ownsRow base e size v' (n+m) (xs++news)->w.grownBy w' v.ownBlock->(∀k,v'.ownBlock=some k->v.ownBlock=some k\/w.heap.size<=k)->K (a.put o.dst v') w'):if Region.wanted o (yielded ops a.tmps)=true then Oper.wp P o a w K Q else E:=by
 have hgr:∀w' row,w.grownBy w' none->w.grownBy w' row:=fun w' row g=>⟨g.os,g.tape,g.output,g.size,fun k hk _=>g.block k hk ov⟩
 rcases hown.2 with⟨rfl,rfl⟩ |⟨g,cap,cur,rfl,hbg,hg,hnc,hcm,hcs,htake⟩
 ·have hxs:xs=[]:=zgY (by simpa using hown.1);subst hxs;exact step_append_grows hgd s x t ho e i z size bytes ht hi hz hsize hby hzs hsz none 0 0 [] hs (fun _=>⟨rfl,rfl⟩) ov (fun b hb=>by cases hb) ad m c news hx hl hnews h1 oa h63 hbytes (fun v' w' h2 h3=>h v' w' (zZ h2 hbase) (hgr _ _ h3) (fun k hk=>.inr (h2.lt k hk).1))
 ·by_cases hroom:n+m<=cap
  ·have hw:Region.wanted o (yielded ops a.tmps)=true:=(by simp[Region.wanted,hgd]);rw[IN hw];obtain⟨w',hrun,r1,r2⟩:=run_append_fits (P:=P) w base t o.type e i size ht hi hsize g n cap xs hown ad m c news hl hnews h1 hroom;unfold Oper.wp;simp[execOp,ho,resolve,invoke,builtin,hs,hx,hrun,Result.andThen];exact h _ _ r1 r2 (fun k hk=>.inl hk)
  ·exact step_append_grows hgd s x t ho e i z size bytes ht hi hz hsize hby hzs hsz (some ⟨g,0,none⟩) n cap xs hs (fun hh=>by cases hh) hown.1 (fun b hb=>by cases hb;exact hown.cells (g:=g) rfl) ad m c news hx hl hnews h1 oa h63 hbytes (fun v' w' h2 h3=>h v' w' (zZ h2 hbase) (hgr _ _ h3) (fun k hk=>.inr (h2.lt k hk).1))
def vI (w:E)(bb k:Nat):Prop:=k=bb\/∃a,w.cell? ⟨bb,0,U⟩=I a/\a.ownBlock=I k
structure qb (w w':E)(bb:Nat)(Z':List (Stp×Y)):Prop where
 at':je w' bb Z'
 only:zf (λk=>bb<=k) w w'
 own:zf (vI w bb) w w'
 sep:∀k,vI w' bb k->vI w bb k\/w.heap.size<=k
theorem zd1 (Z:List (Stp×Value))(s:Stp)(x:Value)(B:Nat)(w:World)(h:je w bb Z)(hx:xu w (fun g=>B<=g) (.agg #[x]) (jC s))(hB:∀sv,w.cell? ⟨bb,0,none⟩=some sv->∀k,sv.ownBlock=some k->k<B)(hbB:bb<B)(hl:Z.length<=1000):Calls prog 66 #[.pointer (some ⟨bb,0,none⟩),.agg #[.int .i64 (s.kind:Nat),x,.int .i64 s.asr,.int .i64 (s.next:Nat),.int .i64 (s.other:Nat)]] w fun e w'=>e=.returned (.int .i64 (Z.length:Nat))/\qb w w' bb (Z++[(s,x)]):=by
 obtain⟨i0,hi,hz0,hz1,hz2⟩:=info_parts Tryz.infoStep;obtain⟨sv,h1,h2,h3⟩:=h.ex;have h0:=h.fr;have hblt:=h.lt;obtain⟨pa,pn,pc,rfl⟩:=zr h2;obtain⟨xa,xn,xc,hxe⟩:=hx.slice;have hxx:x=.slice xa xn xc:=by injection hxe with e;injection e with e;injection e
 subst hxx;have Hown:=ze h2;have h2':=h2;have HX:=ze hx;have H3:=ze h3;have HB:=ze (hB _ h1);clear h h2 h3 hx hB;go_enter func66,ntmps66;have hnb:(Value.slice pa pn pc).ownBlock≠some bb:=fun e=>by have:=(zh h2' _ e).1;omega
 clear h2';have HOA:Hid (ziE w (w.alloc (.cells #[.int .i64 (s.kind:Nat),.slice xa xn xc,.int .i64 s.asr,.int .i64 (s.next:Nat),.int .i64 (s.other:Nat)] 164))):=(zf.refl _ _).alloc _;have k1:=((zb HOA).cell (p:=⟨bb,0,none⟩) hblt (fun f=>f)).trans h1;have k0:=((zb HOA).frozen (p:=⟨bb,0,none⟩) hblt (fun f=>f)).trans h0;go_wp2_with fail;go_region_law(refine qX rfl (.tmp 9) (.tmp 11) 154 rfl (bb+1) 164 i0 (.agg #[.int .i64 0,.slice none 0 0,.int .i64 0,.int .i64 0,.int .i64 0]) 5 56 underlying154 hi hz0 hz1 hz2 rfl od (.slice pa pn pc) _ (yN Z) (by simp[Act.eval]) (zl (zb Hown) ((((zf.refl (fun _=>False) w).alloc _).drew).alloc _) (fun _ _ f=>f)) ⟨w.heap.size+1,0,none⟩ 1 1 [.int .i64 (s.kind:Nat),.slice xa xn xc,.int .i64 s.asr,.int .i64 (s.next:Nat),.int .i64 (s.other:Nat)] (by simp[Act.eval]) rfl (five_new _ (w.heap.size+1) ov _ _ _ _ _ _) (fun u hu=>by simp at hu;rcases hu with rfl |rfl |rfl |rfl |rfl<;>rfl) od (by unfold maxLen;omega) oa ou ?_;intro v' w4 hown' hgrow hsep;obtain⟨ya,yn,yc,rfl⟩:=zr hown';have oW:zf (fun k=>(Value.slice pa pn pc).ownBlock=some k) w w4:=((((zf.refl _ w).alloc _).drew).alloc _).grown hgrow (fun k hk=>.inl hk);have m1:=(oW.cell (p:=⟨bb,0,none⟩) hblt hnb).trans h1;have m0:=(oW.frozen (p:=⟨bb,0,none⟩) hblt hnb).trans h0;have HO4:=ze hown';have HW4:=ze oW;have HSe:=ze hsep;clear hown' oW hgrow hsep)
 all_goals
  have hyn:yn=Z.length+1:=by rcases(zb HO4).2 with⟨e1,e2⟩ |⟨g',cap',cur,e1,_⟩<;>cases e1<;>first |rfl |omega
  subst hyn;have HF:Hid (qb w (w4.setCell ⟨bb,0,none⟩ (.slice ya (Z.length+1) yc)) bb (Z++[(s,.slice xa xn xc)])):=by
   have oS:zf (fun k=>k=bb) w4 (w4.setCell ⟨bb,0,none⟩ (.slice ya (Z.length+1) yc)):=(zf.refl (fun k=>k=bb) w4).setCell (p:=⟨bb,0,none⟩) (.inl rfl) _;have hnb4:∀k,(Value.slice ya (Z.length+1) yc).ownBlock=some k->k≠bb:=fun k hk e=>(by have:=(zh (zb HO4) k hk).1;omega);refine⟨⟨⟨_,zgL _ _ _ m1,?_,fun z hz=>?_⟩,(zk _ _ _ _).trans m0⟩,?_,?_,?_⟩
   ·rw[zgK,Kd];exact zl (zb HO4) oS (fun k hk e=>hnb4 k hk e)
   ·have key:xu w4 (fun g=>bb<g/\(Value.slice ya (Z.length+1) yc).ownBlock≠some g) (.agg #[z.2]) (jC z.1):=by
     rcases zgU.1 hz with hz |hz
     ·have h9:xu w (fun g=>(bb<g/\(Value.slice pa pn pc).ownBlock≠some g)/\g<w.heap.size) (.agg #[z.2]) (jC z.1):=(zb H3 z hz).mono (fun g hg hA=>⟨hA,hg⟩);refine(h9.keep (zb HW4) (fun g hg=>hg.1.2)).mono (fun g _ hg=>⟨hg.1.1,fun e=>?_⟩);rcases zb HSe g e with h |h
      ·exact hg.1.2 h
      ·have:=hg.2;simp at h;omega
     ·obtain rfl:=zgT.1 hz;have h9:xu w (fun g=>B<=g/\g<w.heap.size) (.agg #[.slice xa xn xc]) (jC s):=(zb HX).mono (fun g hg hA=>⟨hA,hg⟩);refine(h9.keep (zb HW4) (fun g hg e=>by have:=zb HB g e;omega)).mono (fun g _ hg=>⟨oa,fun e=>?_⟩);rcases zb HSe g e with h |h
      ·have:=zb HB g h;omega
      ·have:=hg.2;simp at h;omega
    exact key.keep oS (fun g hg e=>oa)
   ·have o1:zf (fun k=>bb<=k) w w4:=(zb HW4).mono (fun k _ hk=>by have:=(zh (zb Hown) k hk).1;omega);exact o1.setCell (p:=⟨bb,0,none⟩) (.inl (zgH _)) _
   ·have o1:zf (vI w bb) w w4:=(zb HW4).mono (fun k _ hk=>.inr ⟨_,h1,hk⟩);exact o1.setCell (p:=⟨bb,0,none⟩) (.inl (.inl rfl)) _
   ·rintro k (rfl |⟨sv,e1,e2⟩)
    ·exact .inl (.inl rfl)
    ·cases(zgL _ _ _ m1).symm.trans e1;rcases zb HSe k e2 with h |h
     ·exact .inl (.inr ⟨_,h1,h⟩)
     ·exact .inr (by simp at h;omega)
  go_wp2_with fail;go_ret;exact⟨ov,zb HF⟩
open Sm (Stp Tree bld yM wJ xg vt xR)
structure Yv (f:Nat)(w:E)(bb:Nat)(v:Y)(t:Tree):Prop where
 at':zG f w (λg=>g<bb) v t
 sh:kL f t
 ln:kM f t
theorem Yv.keep {f:Nat}{w a:E}{bb:Nat}{v:Y}{t:Tree}(h:Yv f w bb v t)(o:zf (λk=>bb<=k) w a):Yv f a bb v t:=⟨zG.keep o (λg b c=>oa) f v t h.at',h.sh,h.ln⟩
def sts (a:List (Stp×Y)):List Stp:=a.map Prod.fst
theorem yd (a:List (Stp×Y)):(sts a).length=a.length:=by simp[sts]
def ZO (w:E)(bb:Nat)(r:Nat×List Stp)(e:Ending)(b:E):Prop:=∃a,e=R (M J (r.1:Nat))/\sts a=r.2/\qb w b bb a
def BOK (f bb:Nat):Prop:=∀(v:Y) (t:Tree) (r:Nat) (a:List (Stp×Y)) (w:E),Yv f w bb v t->je w bb a->r<a.length->(bld f t r (sts a)).2.length<=1000->
 Uh V 67 #[Ua (I ⟨bb,0,U⟩),v,M J (r:Nat)] w (ZO w bb (bld f t r (sts a)))
theorem qb.refl {w:E}{bb:Nat}{a:List (Stp×Y)}(h:je w bb a):qb w w bb a:=⟨h,zf.refl _ _,zf.refl _ _,λ_ h=>Q h⟩
theorem qb.trans {a b c:E}{bb:Nat}{Y f:List (Stp×Value)}(h:qb a b bb Y)(k:qb b c bb f):qb a c bb f:=
 ⟨k.at',h.only.trans k.only,⟨k.own.os.trans h.own.os,k.own.tape.trans h.own.tape,k.own.output.trans h.own.output,zgN h.own.size k.own.size,λj d g=>(k.own.block j (zgJ d h.own.size) (λi=>by
  rcases h.sep j i with h|h;exact g h
  .omega)).trans (h.own.block j d g)⟩,λj d=>by
  rcases k.sep j d with e|e;exact h.sep j e;exact O (zgN h.own.size e)⟩
theorem qb.young {a b:E}{bb:Nat}{d:List (Stp×Y)}(h:je a bb d)(o:ziE a b):qb a b bb d:=
 ⟨h.young o,o.mono (λ_ _ f=>f.elim),o.mono (λ_ _ f=>f.elim),λk g=>by
  rcases g with c|⟨i,c,e⟩;exact Q (Q c);exact Q (O ⟨i,(o.cell (p:=⟨bb,0,U⟩) h.lt id).symm.trans c,e⟩)⟩
theorem qb.cell {a b:E}{bb:Nat}{c:List (Stp×Y)}(h:qb a b bb c){p:Addr}(e:p.block<a.heap.size)(d:¬vI a bb p.block):b.cell? p=a.cell? p:=h.own.cell e d
theorem vI.lt {w:E}{bb k:Nat}{a:List (Stp×Y)}(h:je w bb a)(f:vI w bb k):k<w.heap.size:=by rcases f with rfl|⟨g,b,c⟩;exact h.lt;obtain⟨i,d,e,_⟩:=h.ex;cases b.symm.trans d;exact(zh e k c).2
theorem VI (B:BOK f bb)(v:Y)(t:Tree)(c r:Nat)(g:List (Stp×Y))(w:E)(P:Yv f w bb v t)(hv:∃T y,v=Ud T y)(L:je w bb g)(hn:r<g.length)(hc:c<=100)(m:(yM (bld f) t c r (sts g)).2.length<=1000):Uh V 161 #[Ua (I ⟨bb,0,U⟩),v,M J (c:Nat),M J (r:Nat)] w (ZO w bb (yM (bld f) t c r (sts g))):=by
 obtain⟨T,y,rfl⟩:=hv;have X:=ze B;have S:=ze P;have W:=ze L;clear B P L;go_enter func161,ntmps161;go_wp2_with fail;go_loopw[9,13] (λvb z wr=>∃(b j:Nat) (d:List (Stp×Y)),vb=M J (b:Nat)/\z=M J (j:Nat)/\j<=c/\b<d.length/\H (qb w wr bb d)/\H (yM (bld f) t c r (sts g)=yM (bld f) t (c-j) b (sts d))) (λ_ z _=>c-(intOf z).toNat);exact⟨r,0,g,rfl,rfl,oa,hn,qb.refl W,rfl⟩;obtain⟨b,j,d,rfl,rfl,hj,N,i,o⟩:=hrel;by_cases ai:j<c
 .obtain⟨k,u⟩:∃k,c-j=k+1:=⟨c-j-1,oa⟩
  (have aa:(bld f t b (sts d)).2.length<=1000:=by rw[zb o,u] at m;simp only[yM] at m;split at m;exact m;exact zgN (jX (xl f) k _ _) m);have ac:=jr f t b (sts d) (by rw[yd];exact N);have F:=ze (zb X (Ud T y) t b d wr (S.keep i.only) i.at' N aa);by_cases x:(bld f t b (sts d)).1=b
  .have h:H (yM (bld f) t c r (sts g)=bld f t b (sts d)):=(by rw[zb o,u];simp only[yM];rw[IN x];rfl);go_wp2_with(go_at_call 67;refine F.mono ?_;rintro e w1 ⟨s,rfl,n,l⟩;have q:=ze (i.trans l);have p:=ze n;clear l n);go_ret;exact⟨s,by rw[zb h,x];rfl,by rw[zb p,zb h],q⟩
  have h:H (yM (bld f) t c r (sts g)=yM (bld f) t k (bld f t b (sts d)).1 (bld f t b (sts d)).2):=(by rw[zb o,u];simp only[yM];rw[iN x];rfl);generalize hr:bld f t b (sts d)=a at *;have aj:((a.1:Int) == (b:Int))=Z:=ou;go_wp2_with(go_at_call 67;refine F.mono ?_;rintro e w1 ⟨s,rfl,n,l⟩;have q:=ze (i.trans l);have p:=ze n;clear l n);exact⟨⟨a.1,j+1,s,rfl,by go_num,oa,(by rw[<-yd,zb p];exact ac),q,(by rw[zb h,zb p,show c-(j+1)=k by omega];rfl)⟩,by simp[intOf];omega⟩
 have h:H (yM (bld f) t c r (sts g)=(b,sts d)):=(by rw[zb o,show c-j=0 by omega];rfl);go_wp2_with fail;go_ret;exact⟨d,by rw[zb h];rfl,by rw[zb h],i⟩
theorem ze4 {α:Type}(l:List α)(i:Nat)(a:i<l.length):l.take (i+1)=l.take i++[l[i]]:=(Zw l i a).symm
theorem WL (B:BOK f bb)(v:Y)(xs:List Y)(c:List Tree)(r:Nat)(i:List (Stp×Y))(w:E)(o:Zb w (λg=>g<bb) v xs)(aI:xs.length<=1000)(aB:c.length=xs.length)(hp:∀(j:Nat) x t,xs[j]?=I x->c[j]?=I t->Yv f w bb x t)(ab:∀x∈xs,∃T y,x=Ud T y)(W:je w bb i)(hn:r<i.length)(hl:(wJ (bld f) c.reverse r (sts i)).2.length<=1000):Uh V 118 #[Ua (I ⟨bb,0,U⟩),v,M J (r:Nat)] w (ZO w bb (wJ (bld f) c.reverse r (sts i))):=by
 have hB:=ze B;have HP:=ze hp;have HZ:=ze W;have HI:=ze ab;obtain⟨s,u,rfl,HC⟩:∃s u,v=K s xs.length u/\H (xs.length≠0->∃g,s=I ⟨g,0,U⟩/\xs.length<=u/\g<bb/\g<w.heap.size/\∀j x,xs[j]?=I x->w.cell? ⟨g,j,U⟩=I x):=by rcases o with⟨rfl,rfl⟩|⟨g,aD,rfl,h1,h2,h3,h4⟩;exact⟨U,0,rfl,λh=>absurd rfl h⟩;exact⟨_,_,rfl,λ_=>⟨g,rfl,h2,h1,h3,h4⟩⟩
 clear B hp W o ab;go_enter func118,ntmps118;go_wp2_with fail;go_loopw[7,8] (λvb z wr=>∃(b m:Nat) (d:List (Stp×Y)),vb=M J (b:Nat)/\z=M J ((m:Int)-1)/\m<=xs.length/\b<d.length/\H (qb w wr bb d)/\H (wJ (bld f) c.reverse r (sts i)=wJ (bld f) (c.take m).reverse b (sts d))) (λ_ z _=>(intOf z+1).toNat);exact⟨r,xs.length,i,rfl,rfl,zgH _,hn,qb.refl HZ,(by rw[<-aB,zhG];rfl)⟩;obtain⟨b,m,d,rfl,rfl,hm,X,l,L⟩:=hrel;by_cases aF:0<m
 .obtain⟨k,rfl⟩:∃k,m=k+1:=⟨m-1,oa⟩
  ((obtain⟨g,rfl,aH,aE,ay,aa⟩:=zb HC oa;have q:xs[k]?=I xs[k]:=zgE oa;have ht:c[k]?=I (c[k]' oa):=zgE oa;have c1:=(l.only.cell (p:=⟨g,k,U⟩) ay (by show ¬bb<=g;omega)).trans (aa _ _ q);have n:=(zb HP k _ _ q ht).keep l.only;obtain⟨T,y,ag⟩:=zb HI xs[k] (zg5 _);have N:H (wJ (bld f) c.reverse r (sts i)=wJ (bld f) (c.take k).reverse (bld f (c[k]' oa) b (sts d)).1 (bld f (c[k]' oa) b (sts d)).2):=by rw[zb L,ze4 c k oa,List.reverse_append];rfl);have ax:(bld f (c[k]' oa) b (sts d)).2.length<=1000:=by rw[zb N] at hl;exact zgN (Jm (xl f) _ _ _) hl);have aA:=jr f (c[k]' oa) b (sts d) (by rw[yd];exact X);rw[ag] at c1 n;have ai:=ze (zb hB (Ud T y) _ b d wr n l.at' X ax);clear q ht aa n ag;have e1:((k+1:Nat):Int)-1=(k:Nat):=oa;have e2:(0:Int)<=((k+1:Nat):Int)-1:=oa;simp only[e1] at *;generalize o:bld f (c[k]' oa) b (sts d)=a at *;go_wp2_with(go_at_call 67;refine ai.mono ?_;rintro e w1 ⟨Y2,rfl,ae,S⟩;have al:=ze (l.trans S);have P:=ze ae;clear S ae);exact⟨⟨a.1,k,Y2,rfl,by go_num,oa,(by rw[<-yd,zb P];exact aA),al,(by rw[zb N,zb P];rfl)⟩,by simp[intOf]⟩
 obtain rfl:m=0:=oa;have F:H (wJ (bld f) c.reverse r (sts i)=(b,sts d)):=(by rw[zb L];rfl);have e2:¬(0:Int)<=((0:Nat):Int)-1:=oa;go_wp2_with fail;go_ret;exact⟨d,by rw[zb F];rfl,by rw[zb F],l⟩
theorem ze5 (s:Stp)(h:s.kind≠1)(c:Int):jC s c=Z:=by simp[jC,h]
theorem je.own_lt {w:E}{bb:Nat}{b:List (Stp×Y)}(h:je w bb b):∀a,w.cell? ⟨bb,0,U⟩=I a->∀k,a.ownBlock=I k->k<w.heap.size:=λa c k f=>by obtain⟨g,d,e,_⟩:=h.ex;cases c.symm.trans d;exact(zh e k f).2
theorem Zu (a:List (Stp×Y))(s:Stp)(w:E)(h:je w bb a)(f:s.kind≠1)(d:a.length<=1000):Uh V 66 #[Ua (I ⟨bb,0,U⟩),Uf #[M J (s.kind:Nat),K U 0 0,M J s.asr,M J (s.next:Nat),M J (s.other:Nat)]] w (ZO w bb (a.length,sts a++[s])):=
 (zd1 bb a s (K U 0 0) w.heap.size w h (xu.none _ _ _ (ze5 s f)) h.own_lt h.lt d).mono (λe g ⟨b,c⟩=>⟨_,b,by simp[sts],c⟩)
theorem zcO (F:BOK f bb)(sv:Y)(xs:List Y)(h:Tree)(c:List Tree)(r:Nat)(i:List (Stp×Y))(w:E)(hr:Zb w (λg=>g<bb) sv xs)(a5:xs.length<=1000)(aS:(h :: c).length=xs.length)(W:∀(j:Nat) x t,xs[j]?=I x->(h :: c)[j]?=I t->Yv f w bb x t)(P:∀x∈xs,∃T y,x=Ud T y)(N:je w bb i)(hn:r<i.length)(hl:(xg (bld f) r c (bld f h r (sts i)).1 (bld f h r (sts i)).2).2.length<=1000):Uh V 117 #[Ua (I ⟨bb,0,U⟩),sv,M J (r:Nat)] w (ZO w bb (xg (bld f) r c (bld f h r (sts i)).1 (bld f h r (sts i)).2)):=by
 have hB:=ze F;have HP:=ze W;have HZ:=ze N;have HI:=ze P;have S:xs.length=c.length+1:=by rw[<-aS];rfl
 obtain⟨g,q,rfl,aQ,aY,aN,HC⟩:∃g q,sv=K (I ⟨g,0,U⟩) xs.length q/\xs.length<=q/\g<bb/\g<w.heap.size/\H (∀j x,xs[j]?=I x->w.cell? ⟨g,j,U⟩=I x):=by rcases hr with⟨rfl,rfl⟩|⟨g,aF,rfl,h1,h2,h3,h4⟩;simp at S;exact⟨g,aF,rfl,h2,h1,h3,h4⟩
 have ab:xs[0]?=I (xs[0]' oa):=zgE oa;have c0:=zb HC 0 _ ab;have X:=W 0 _ h ab rfl;obtain⟨T0,y0,B⟩:=P _ (zg5 (show 0<xs.length by omega));rw[B] at c0 X;have aM:(bld f h r (sts i)).2.length<=1000:=zgN (vT (xl f) c _ _) hl;have ag:=ze (F (Ud T0 y0) h r i w X N hn aM);have a4:=jr f h r (sts i) (by rw[yd];exact hn);have aP:=xl f h r (sts i);rw[yd] at aP;clear F W N hr P ab X B;generalize a3:bld f h r (sts i)=k at *;have a0:xs.length<=c.length+1:=oa;have a1:c.length+1<=xs.length:=oa;rw[S] at aQ ⊢;clear S;by_cases aR:q=1
 .subst aR;obtain rfl:c=[]:=zgY oa;go_enter func117,ntmps117;go_wp2_with(go_at_call 67;refine ag.mono ?_;rintro e w1 ⟨v,rfl,o,n⟩;have u:=ze n;have m:=ze o;clear n o);go_loopw[7,19] (λvb s wr=>vb=M J (k.1:Nat)/\s=M J 0/\H (qb w wr bb v)) (λ_ _ _=>0)
  exact⟨rfl,rfl,u⟩;obtain⟨rfl,rfl,l⟩:=hrel;go_wp2_with fail;go_ret;exact⟨v,rfl,m,l⟩
 have a2:1<q:=by omega
 go_enter func117,ntmps117;go_wp2_with(go_at_call 67;refine ag.mono ?_;rintro e w1 ⟨v,rfl,o,n⟩;have u:=ze n;have m:=ze o;clear n o);go_loopw[7,19] (λvb s wr=>∃(b j:Nat) (d:List (Stp×Y)),vb=M J (b:Nat)/\s=M J (j:Nat)/\j<=c.length/\r<d.length/\H (qb w wr bb d)/\H (xg (bld f) r c k.1 k.2=xg (bld f) r (c.drop j) b (sts d))) (λ_ s _=>c.length-(intOf s).toNat)
 exact⟨k.1,0,v,rfl,rfl,oa,(by rw[<-yd,zb m];omega),u,(by rw[zb m];rfl)⟩;clear u m;obtain⟨b,j,d,rfl,rfl,hj,aO,l,HF⟩:=hrel;by_cases ar:j<c.length
 .obtain⟨x,z⟩:∃x,xs[j+1]?=I x:=⟨_,zgE (show j+1<xs.length by omega)⟩
  ((have ht:(h :: c)[j+1]?=I c[j]:=(by simp[ar]);have c1:=(l.only.cell (p:=⟨g,j+1,U⟩) aN (by show ¬bb<=g;omega)).trans (zb HC _ _ z);rw[Nat.add_comm j 1] at c1;have av:=(zb HP (j+1) _ _ z ht).keep l.only;obtain⟨T,y,B⟩:=zb HI x (zgS z);subst B;have aj:H (xg (bld f) r c k.1 k.2=xg (bld f) r (c.drop (j+1)) (bld f c[j] r (sts d)).2.length ((bld f c[j] r (sts d)).2++[zA b (bld f c[j] r (sts d)).1])):=by rw[zb HF,zin ar];rfl);have aX:(bld f c[j] r (sts d)).2.length+1<=1000:=by rw[zb aj] at hl;have:=vT (xl f) (r:=r) (c.drop (j+1)) (bld f c[j] r (sts d)).2.length ((bld f c[j] r (sts d)).2++[zA b (bld f c[j] r (sts d)).1]);simp only[zgK,zg7] at this;omega);have aL:=xl f c[j] r (sts d);rw[yd] at aL;have az:=ze (zb hB (Ud T y) _ r d wr av l.at' aO oa);clear z ht av;generalize hr:bld f c[j] r (sts d)=a at *;go_wp2_with(go_at_call 67;refine az.mono ?_;rintro e w1 ⟨L,rfl,aw,ao⟩;have am:=ze (l.trans ao);have ak:=ze aw;clear ao aw);have aV:L.length=a.2.length:=(by rw[<-yd,zb ak]);refine(Zu bb L (zA b a.1) w1 am.at' (by simp[zA]) oa).mono ?_;rintro e w3 ⟨Y3,rfl,ax,ap⟩;have aC:=ze (am.trans ap);have al:=ze ax;clear ap ax;go_wp2_with fail;have aW:Y3.length=L.length+1:=(by rw[<-yd,zb al];simp[yd]);exact⟨⟨a.2.length,j+1,Y3,rfl,by go_num,oa,oa,aC,(by rw[zb aj,zb al,zb ak];rfl)⟩,by simp[intOf];omega⟩
 have HE:H (xg (bld f) r c k.1 k.2=(b,sts d)):=(by rw[zb HF,List.drop_eq_nil_of_le oa];rfl);go_wp2_with fail;go_ret;exact⟨d,by rw[zb HE];rfl,by rw[zb HE],l⟩
theorem Ke:∀(a:List (Stp×Y)) (k:Nat) (s:Stp) (x:Y),a[k]?=I (s,x)->(yN a)[k*5+3]?=I (M J (s.next:Nat))
 | [],k,s,x,h=>by simp at h
 |z :: a,0,s,x,h=>by simp at h;subst h;simp[yN]
 |z :: a,k+1,s,x,h=>by
  have:=Ke a k s x (by simpa using h);rw[show(k+1)*5+3=(k*5+3)+5 by omega];simpa [yN] using this
theorem Jr:∀(a:List (Stp×Y)) (k:Nat) (s:Stp) (x:Y) (q:Nat),a[k]?=I (s,x)->(yN a).set (k*5+3) (M J (q:Nat))=yN (a.set k ({ s with next:=q },x))
 | [],k,s,x,q,h=>by simp at h
 |z :: a,0,s,x,q,h=>by simp at h;subst h;simp[yN]
 |z :: a,k+1,s,x,q,h=>by
  have:=Jr a k s x q (by simpa using h);rw[show(k+1)*5+3=(k*5+3)+5 by omega];simp[yN] at this ⊢;exact this
theorem je.setNext {w:E}{bb:Nat}{a:List (Stp×Y)}(h:je w bb a)(k:Nat)(s:Stp)(x:Y)(c:a[k]?=I (s,x))(q:Nat):∃g cap,w.cell? ⟨bb,0,U⟩=I (K (I ⟨g,0,U⟩) a.length cap)/\a.length<=cap/\w.cell? ⟨g,k*5+3,U⟩=I (M J (s.next:Nat))/\w.frozen? ⟨g,k*5+3,U⟩=Z/\qb w (w.setCell ⟨g,k*5+3,U⟩ (M J (q:Nat))) bb (a.set k ({ s with next:=q },x)):=by
 obtain⟨t,f,l,n⟩:=h.ex;have W:k<a.length:=(zgG.1 c).1;rcases l.2 with⟨rfl,e⟩|⟨g,cap,N,rfl,P,B,L,S,T,X⟩;omega;have r:=@World.ownsRow.cells w (bb+1) 164 5 _ a.length (yN a) l g rfl _ _ (Ke a k s x c);have u:∀q,(⟨g,0,U⟩:Addr).add q=⟨g,q,U⟩:=λq=>by unfold Addr.add;split<;>simp_all
 rw[u] at r;have o:zf (λj=>j=g) w (w.setCell ⟨g,k*5+3,U⟩ (M J (q:Nat))):=(zf.refl (λj=>j=g) w).setCell (p:=⟨g,k*5+3,U⟩) (Q rfl) _;refine⟨g,cap,f,L,r,by simp[World.frozen?,B],⟨⟨⟨_,(o.cell (p:=⟨bb,0,U⟩) h.lt (by show ¬bb=g;omega)).trans f,?_,λz m=>?_⟩,(o.frozen (p:=⟨bb,0,U⟩) h.lt (by show ¬bb=g;omega)).trans h.fr⟩,o.mono (λj _ b=>oa),o.mono (λj _ b=>by subst b;exact O ⟨_,f,rfl⟩),λj b=>?_⟩⟩;have:=wR (i:=k*5+3) l (M J (q:Nat));rw[Jr a k s x q c] at this;rw[zhw];exact this
 (have key:xu w (λd=>bb<d/\(K (I ⟨g,0,U⟩) a.length cap).ownBlock≠I d) (Uf #[z.2]) (jC z.1):=by rcases zim m with m|rfl;exact n z m;exact n (s,x) (zgS c));exact key.keep o (λd F e=>F.2 (by rw[e];rfl));rcases b with rfl|⟨t,v,y⟩;exact Q (Q rfl);exact Q (O ⟨t,(o.cell (p:=⟨bb,0,U⟩) h.lt (by show ¬bb=g;omega)).symm.trans v,y⟩)
theorem loop_any (HB:BOK f bb)(T:TypeId)(y:Y)(l m:Int)(t:Tree)(r:Nat)(b:List (Stp×Y))(w:E)(hp:Yv f w bb (Ud T y) t)(h0:0<=l)(X:l<=100)(hZ:je w bb b)(_hn:r<b.length)(a:Nat×List Stp)(hr:(if l=0 then(b.length,(xR (bld f) t r (sts b)).2) else yM (bld f) t (l-1).toNat (xR (bld f) t r (sts b)).1 (xR (bld f) t r (sts b)).2)=a)(n:a.2.length<=1000):Uh V 160 #[Ua (I ⟨bb,0,U⟩),Uf #[Ud T y,M J l,M J m],M J (r:Nat)] w (ZO w bb a):=by
 have aa:(xR (bld f) t r (sts b)).2.length<=1000:=by rw[<-hr] at n;split at n;exact n;exact zgN (jX (xl f) _ _ _) n
 have ad:=zey f t (sts b).length (sts b++[zA 0 r]) (sts b).length ov;have au:=xl f t (sts b).length (sts b++[zA 0 r]);have ay:=jr f t (sts b).length (sts b++[zA 0 r]) ov;simp only[xR,zhw] at aa;have F:=hr;simp only[xR] at F;clear hr;rw[yd] at ad au ay aa F;generalize hq:bld f t b.length (sts b++[zA 0 r])=q at *;have hB:=ze HB;have HP:=ze hp;have W:=ze hZ;have P:=ze F;have HQ:=ze hq;clear HB hp hZ F hq;have ai:H (ziE w (w.alloc (Ub #[Ud T y,M J l,M J m] 256))):=(zf.refl _ _).alloc _;have b0:(w.alloc (Ub #[Ud T y,M J l,M J m] 256)).cell? ⟨w.heap.size,0,U⟩=I (Ud T y):=zm w _ rfl _ _ 0 _ rfl;have b1:(w.alloc (Ub #[Ud T y,M J l,M J m] 256)).cell? ⟨w.heap.size,1,U⟩=I (M J l):=zm w _ rfl _ _ 1 _ rfl;go_enter func160,ntmps160;have aK:=W.lt;have v:=ze (qb.young W ai);have aA:=ze (HP.keep v.only);have ac:¬vI (w.alloc (Ub #[Ud T y,M J l,M J m] 256)) bb w.heap.size:=λh=>by rcases(zb v).own.size,h with⟨_,X|⟨sv,X,h2⟩⟩;omega;have:=vI.lt W (k:=w.heap.size) (O ⟨sv,(ai.cell (p:=⟨bb,0,U⟩) aK id).symm.trans X,h2⟩);omega
 have a1:(w.alloc (Ub #[Ud T y,M J l,M J m] 256)).heap.size=w.heap.size+1:=ov;go_wp2_with fail;generalize w.alloc (Ub #[Ud T y,M J l,M J m] 256)=wA at *;refine(Zu bb b (zA 0 r) wA v.at' (by simp[zA]) (by simp only[zgK,zg7,yd] at au;omega)).mono ?_;rintro e w1 ⟨Y1,rfl,L,d⟩;have c0:=(d.cell (p:=⟨w.heap.size,0,U⟩) (by show _<_;simp only;omega) ac).trans b0;have c1:=(d.cell (p:=⟨w.heap.size,1,U⟩) (by show _<_;simp only;omega) ac).trans b1;have ab:¬vI w1 bb w.heap.size:=λh=>by rcases d.sep _ h with h|h;exact ac h;omega
 have a2:=d.own.size;have aC:=ze d;have aY:Y1.length=b.length+1:=by rw[<-yd,L];simp[yd]
 have o:=zb hB (Ud T y) t b.length Y1 w1 (aA.keep d.only) d.at' oa (by rw[L,zb HQ];exact aa);rw[L,zb HQ] at o;have o:=ze o;clear d b0 b1 L;go_wp2_with fail;refine o.mono ?_;rintro e w2 ⟨c,rfl,N,i⟩;have d0:=(i.cell (p:=⟨w.heap.size,0,U⟩) (by show _<_;simp only;omega) ab).trans c0;have d1:=(i.cell (p:=⟨w.heap.size,1,U⟩) (by show _<_;simp only;omega) ab).trans c1;have aM:¬vI w2 bb w.heap.size:=λh=>by rcases i.sep _ h with h|h;exact ab h;omega
 have a3:=i.own.size;obtain⟨x,hx⟩:∃x,c[b.length]?=I (zA 0 r,x):=by
  rw[zg2 (by rw[yd];exact zgH _),yd,zhV] at ad;have j:(sts c)[b.length]?=I (zA 0 r):=by rw[N,ad];rfl
  simp only[sts,zgZ] at j;cases hY:c[b.length]? with
  |none=>rw[hY] at j;cases j
  |some p=>
   rw[hY] at j;simp at j;exact⟨p.2,by rw[<-j]⟩
 obtain⟨g,aS,k1,k2,k3,k4,aJ⟩:=i.at'.setNext b.length _ x hx q.1;have u:=ze ((v.trans aC).trans (i.trans aJ));have aZ:b.length<c.length:=(zgG.1 hx).1;have S:H (sts (c.set b.length ({ zA 0 r with next:=q.1 },x))=q.2.set b.length (zA q.1 r)):=by show sts _=_;rw[<-N];simp only[sts,List.map_set];rfl
 have aW:c.length<=1000:=by rw[<-yd,N];omega
 clear hx;have aX:g≠w.heap.size:=λe=>aM (O ⟨_,k1,by rw[e];rfl⟩);have e0:(w2.setCell ⟨g,b.length*5+3,U⟩ (M J (q.1:Nat))).cell? ⟨w.heap.size,0,U⟩=I (Ud T y):=(zgI _ _ _ _ ov).trans d0;have e1:(w2.setCell ⟨g,b.length*5+3,U⟩ (M J (q.1:Nat))).cell? ⟨w.heap.size,1,U⟩=I (M J l):=(zgI _ _ _ _ ov).trans d1;by_cases B:l=0
 .have al:H ((b.length,q.2.set b.length (zA q.1 r))=a):=by have:=zb P;rw[IN B] at this;exact this
  clear P;subst B;go_wp2_with fail;go_ret;exact⟨_,by rw[<-zb al];rfl,by rw[zb S,<-zb al],u⟩
 have z:=zb P;rw[iN B] at z;have a0:(l == 0)=Z:=by simpa using B
 have aL:(c.set b.length ({ zA 0 r with next:=q.1 },x)).length=c.length:=zhw;have aN:c.length=q.2.length:=by rw[<-yd,N]
 have s:=VI f bb hB (Ud T y) t (l-1).toNat q.1 _ _ (HP.keep u.only) ⟨_,_,rfl⟩ u.at' (by rw[aL,aN];exact ay) oa (by rw[zb S,z];exact n);rw[zb S,z,show(((l-1).toNat:Nat):Int)=l-1 by omega] at s;have s:=ze s;clear z;go_wp2_with(go_at_call 161;refine s.mono ?_;rintro e w4 ⟨Y4,rfl,ax,aq⟩;have aD:=ze (u.trans aq);have aB:=ze ax;clear aq ax);go_ret;exact⟨Y4,rfl,aB,aD⟩
theorem bld_rep (t:Tree)(l m:Int)(r:Nat)(S:List Stp):bld (f+1) (vH t l m) r S=if m = -1 then(if l=0 then(S.length,(xR (bld f) t r S).2) else yM (bld f) t (l-1).toNat (xR (bld f) t r S).1 (xR (bld f) t r S).2) else yM (bld f) t l.toNat (vt (bld f) t r (m-l).toNat r S).1 (vt (bld f) t r (m-l).toNat r S).2:=by unfold bld;rw[iN (by simp[vH]),iN (by simp[vH]),iN (by simp[vH]),IN (by rfl)];rfl
theorem zcP (HB:BOK f bb)(T:TypeId)(y:Y)(l m:Int)(t:Tree)(r:Nat)(g:List (Stp×Y))(w:E)(hp:Yv f w bb (Ud T y) t)(h0:0<=l)(B:l<=100)(h2:-1<=m)(h3:m<=100)(h4:m = -1\/l<=m)(hZ:je w bb g)(N:r<g.length)(a:Nat×List Stp)(i:bld (f+1) (vH t l m) r (sts g)=a)(L:a.2.length<=1000):Uh V 119 #[Ua (I ⟨bb,0,U⟩),Uf #[Ud T y,M J l,M J m],M J (r:Nat)] w (ZO w bb a):=by
 have hB:=ze HB;have HP:=ze hp;have HZ:=ze hZ;clear HB hp hZ;have ak:H (ziE w (w.alloc (Ub #[Ud T y,M J l,M J m] 256))):=(zf.refl _ _).alloc _;have b0:(w.alloc (Ub #[Ud T y,M J l,M J m] 256)).cell? ⟨w.heap.size,0,U⟩=I (Ud T y):=zm w _ rfl _ _ 0 _ rfl;have b1:(w.alloc (Ub #[Ud T y,M J l,M J m] 256)).cell? ⟨w.heap.size,1,U⟩=I (M J l):=zm w _ rfl _ _ 1 _ rfl;have b2:(w.alloc (Ub #[Ud T y,M J l,M J m] 256)).cell? ⟨w.heap.size,2,U⟩=I (M J m):=zm w _ rfl _ _ 2 _ rfl;have aR:=HZ.lt;have s:=ze (qb.young HZ ak);have S:=ze (HP.keep s.only);have aT:¬vI (w.alloc (Ub #[Ud T y,M J l,M J m] 256)) bb w.heap.size:=λh=>by rcases h with B|⟨sv,B,h2⟩;omega;have:=vI.lt HZ (k:=w.heap.size) (O ⟨sv,(ak.cell (p:=⟨bb,0,U⟩) aR id).symm.trans B,h2⟩);omega
 have bc:(w.alloc (Ub #[Ud T y,M J l,M J m] 256)).heap.size=w.heap.size+1:=ov;rw[bld_rep] at i;by_cases hm:m = -1
 .subst hm;rw[IN rfl,yd] at i;have aF:=ze (loop_any f bb hB T y l (-1) t r g _ S h0 B s.at' N a i L);go_enter func119,ntmps119;go_wp2_with(go_at_call 160;refine aF.mono ?_;rintro e w4 ⟨Y4,rfl,x,v⟩;have X:=ze (s.trans v);have W:=ze x;clear v x);go_ret;exact⟨Y4,rfl,W,X⟩
 rw[iN hm] at i;have a8:(m == -1)=Z:=by simpa using hm
 go_enter func119,ntmps119;go_wp2_with fail;generalize w.alloc (Ub #[Ud T y,M J l,M J m] 256)=wA at *;obtain⟨c,hK⟩:∃c:Nat,(c:Int)=m-l:=⟨(m-l).toNat,oa⟩
 have av:(m-l).toNat=c:=oa;rw[av] at i;have aQ:(vt (bld f) t r c r (sts g)).2.length<=1000:=by rw[<-i] at L;exact zgN (jX (xl f) _ _ _) L
 have be:=Za (xl f) (jr f) (t:=t) (r:=r) c r (sts g) (by rw[yd];exact N);rw[<-hK];have HR:=ze i;have a2:c<=201:=oa;clear i av hK;go_loopw[7,21] (λvb vj wr=>∃(b j:Nat) (d:List (Stp×Y)),vb=M J (b:Nat)/\vj=M J (j:Nat)/\j<=c/\b<d.length/\r<d.length/\H (qb wA wr bb d)/\wr.cell? ⟨w.heap.size,0,U⟩=I (Ud T y)/\wr.cell? ⟨w.heap.size,1,U⟩=I (M J l)/\H (¬vI wr bb w.heap.size)/\H (vt (bld f) t r c r (sts g)=vt (bld f) t r (c-j) b (sts d))) (λ_ vj _=>c-(intOf vj).toNat);exact⟨r,0,g,rfl,rfl,oa,N,N,qb.refl s.at',b0,b1,aT,rfl⟩;obtain⟨b,j,d,rfl,rfl,hj,ay,a9,n,c0,c1,Hn,HF⟩:=hrel;have bg:=n.own.size;by_cases a7:j<c
 .obtain⟨k,hk⟩:∃k,c-j=k+1:=⟨c-j-1,oa⟩
  (((have aj:H (vt (bld f) t r c r (sts g)=vt (bld f) t r k (bld f t b (sts d)).2.length ((bld f t b (sts d)).2++[zA (bld f t b (sts d)).1 r])):=(by rw[zb HF,hk];rfl);have a5:(bld f t b (sts d)).2.length+1<=1000:=by rw[zb aj] at aQ;have:=Xp (xl f) (t:=t) (r:=r) k (bld f t b (sts d)).2.length ((bld f t b (sts d)).2++[zA (bld f t b (sts d)).1 r]);simp only[zgK,zg7] at this;omega);have aP:=xl f t b (sts d);rw[yd] at aP;have aE:=ze (zb hB (Ud T y) _ b d wr (S.keep n.only) n.at' ay oa);generalize hq:bld f t b (sts d)=q at *;go_wp2_with(go_at_call 67;refine aE.mono ?_;rintro e w1 ⟨Y2,rfl,aB,aw⟩;have o:=ze aw;have al:=ze aB;clear aw aB);have a3:Y2.length=q.2.length:=(by rw[<-yd,zb al]);have d0:=(o.cell (p:=⟨w.heap.size,0,U⟩) (by show _<_;simp only;omega) Hn).trans c0;have d1:=(o.cell (p:=⟨w.heap.size,1,U⟩) (by show _<_;simp only;omega) Hn).trans c1;have bf:=o.own.size;have P:¬vI w1 bb w.heap.size:=λh=>by rcases(zb o).sep _ h with h|h;exact zb Hn h;omega);refine(Zu bb Y2 (zA q.1 r) w1 o.at' (by simp[zA]) oa).mono ?_;rintro e w3 ⟨Y3,rfl,aC,u⟩;have f0:=(u.cell (p:=⟨w.heap.size,0,U⟩) (by show _<_;simp only;omega) P).trans d0;have f1:=(u.cell (p:=⟨w.heap.size,1,U⟩) (by show _<_;simp only;omega) P).trans d1;have az:¬vI w3 bb w.heap.size:=λh=>by rcases u.sep _ h with h|h;exact P h;omega);have aH:=ze az;have aK:=ze ((n.trans o).trans u);have am:=ze aC;clear u aC d0 d1 c0 c1 P az;go_wp2_with fail;have a4:Y3.length=Y2.length+1:=(by rw[<-yd,zb am];simp[yd]);exact⟨⟨q.2.length,j+1,Y3,rfl,by go_num,oa,oa,oa,aK,f0,f1,aH,(by rw[zb aj,zb am,zb al,show c-(j+1)=k by omega];rfl)⟩,by simp[intOf];omega⟩
 have HE:H (vt (bld f) t r c r (sts g)=(b,sts d)):=(by rw[zb HF,show c-j=0 by omega];rfl);have F:=zb HR;rw[zb HE] at F;have z:=VI f bb hB (Ud T y) t l.toNat b d wr (S.keep n.only) ⟨_,_,rfl⟩ n.at' ay oa (by rw[F];exact L);rw[F,show((l.toNat:Nat):Int)=l by omega] at z;have z:=ze z;clear F;go_wp2_with(go_at_call 161;refine z.mono ?_;rintro e w4 ⟨Y4,rfl,x,v⟩;have X:=ze (s.trans (n.trans v));have W:=ze x;clear v x);go_ret;exact⟨Y4,rfl,W,X⟩
theorem Tryz.bs15:(Uk (Ud 246 v) 99 243 G).run V w=.ok (Ue #[K U 0 0,C Z]) w:=om
theorem Tryz.bs16:(Uk (Ud 246 v) 99 254 G).run V w=.ok (Ue #[K U 0 0,C Z]) w:=om
theorem Tryz.bs17:(Uk (Ud 246 v) 99 256 G).run V w=.ok (Ue #[Uf #[Ui,M J 0,M J 0],C Z]) w:=om
theorem Tryz.bs25:(Uk (Ud 247 v) 99 243 G).run V w=.ok (Ue #[K U 0 0,C Z]) w:=om
theorem Tryz.bs26:(Uk (Ud 247 v) 99 254 G).run V w=.ok (Ue #[K U 0 0,C Z]) w:=om
theorem Tryz.bs27:(Uk (Ud 247 v) 99 256 G).run V w=.ok (Ue #[Uf #[Ui,M J 0,M J 0],C Z]) w:=om
theorem Tryz.bs35:(Uk (Ud 248 v) 99 243 G).run V w=.ok (Ue #[K U 0 0,C Z]) w:=om
theorem Tryz.bs36:(Uk (Ud 248 v) 99 254 G).run V w=.ok (Ue #[K U 0 0,C Z]) w:=om
theorem Tryz.bs37:(Uk (Ud 248 v) 99 256 G).run V w=.ok (Ue #[Uf #[Ui,M J 0,M J 0],C Z]) w:=om
theorem Tryz.bs45:(Uk (Ud 252 v) 99 243 G).run V w=.ok (Ue #[K U 0 0,C Z]) w:=om
theorem Tryz.bs46:(Uk (Ud 252 v) 99 254 G).run V w=.ok (Ue #[K U 0 0,C Z]) w:=om
theorem Tryz.bs47:(Uk (Ud 252 v) 99 256 G).run V w=.ok (Ue #[Uf #[Ui,M J 0,M J 0],C Z]) w:=om
theorem zG.iface:∀{f:Nat} {w:E} {A:Nat->Prop} {v:Y} {t:Tree},zG f w A v t->∃T y,v=Ud T y
 |0,_,_,_,_,h=>h.elim
 |f+1,w,A,v,t,h=>by
  rcases h with h|⟨a,xs,b,_,h,_⟩|⟨a,xs,b,_,h,_⟩|⟨p,l,m,d,_,h,_⟩;rcases h with⟨c,_,h⟩|⟨_,h⟩|⟨c,_,h⟩|⟨c,_,h⟩|⟨neg,R,S,e,v2,_,h,_⟩<;>exact⟨_,_,h⟩;exact⟨_,_,h⟩;exact⟨_,_,h⟩;exact⟨_,_,h⟩
theorem zd2 {a:Int}(h:jj a=G):okSh a:=by simp[jj] at h;unfold okSh;omega
theorem ze6 {f:Nat}{t:Tree}(h:kL (f+1) t)(k:kM (f+1) t):LeafOK t:=by refine⟨λc e=>?_,λneg d S e=>?_⟩;subst e;exact zd2 (h.2.1 rfl);subst e;exact⟨λa b=>zd2 ((h.2.2.1 rfl).2 a b),k.1 rfl⟩
theorem bld_asr (c:Int)(r:Nat)(S:List Stp):bld (f+1) (wO c) r S=(S.length,S++[tester c r]):=by unfold bld;rw[IN (by rfl)];rfl
theorem bld_leaf (t:Tree)(a:t.kind≠0)(b:t.kind<5)(r:Nat)(S:List Stp):bld (f+1) t r S=(S.length,S++[taker t r]):=by unfold bld;rw[iN a,iN oa,iN oa,iN oa]
theorem bld_alt (t:Tree)(a:List Tree)(r:Nat)(S:List Stp):bld (f+1) (tAlt (t :: a)) r S=xg (bld f) r a (bld f t r S).1 (bld f t r S).2:=by rw[bld.eq_def];simp[tAlt]
theorem bld_seq (a:List Tree)(r:Nat)(S:List Stp):bld (f+1) (ZH a) r S=wJ (bld f) a.reverse r S:=by rw[bld.eq_def];simp[ZH]
theorem ze7 (t:Tree)(r:Nat)(c:Int):jC (taker t r) c=kT t c:=by simp[jC,taker]
theorem ze8:∀f,BOK f bb:=by
 intro f
 induction f with
 |zero=>intro v t r N w s;exact s.at'.elim
 |succ f ih=>
  intro v t r N w s hZ hn hl;have IH:=ze ih;have aW:N.length<=1000:=by have:=xl (f+1) t r (sts N);rw[yd] at this;omega
  have X:=ze hZ;clear ih;have hq:=s.at';rcases hq with h|⟨sv,xs,ts,rfl,rfl,hr,aL,an,hk,h0⟩|⟨sv,xs,ts,rfl,rfl,hr,aL,an,hk⟩|⟨p,l,m,t',rfl,rfl,aK,h0,h1,h2,h3,h4⟩
  .by_cases aF:∃c,t=wO c
   ·(obtain⟨c,rfl⟩:=aF;obtain rfl:v=Ud 162 (M J c):=by rcases h with⟨c',e,h⟩|⟨e,h⟩|⟨c',e,h⟩|⟨c',e,h⟩|⟨neg,aR,S,v1,v2,e,h,_⟩;simp[wO] at e;subst e;exact h;all_goals simp[wO,wP,ji,qJ,vG] at e);rw[bld_asr] at hl ⊢;have F:=Tryz.as00;have HC:=ze (Zu bb N (tester c r) w X (by simp[tester]) aW);clear s hZ hl h;go_enter func67,ntmps67;go_wp2_with fail;clear F;refine HC.mono ?_;rintro e q ⟨B,rfl,k,i⟩;have z:=ze i;have u:=ze k;clear i k;go_wp2_with fail;go_ret;exact⟨B,by rw[yd];rfl,u,z⟩
   (have aJ:∀c,t≠wO c:=λc e=>aF ⟨c,e⟩;have hM:=λq (o:ziE w q)=>zaV v t (λg=>g<bb) q (h.keep o (λ_ _ f=>f)) aJ (ze6 s.sh s.ln);have HM:=ze hM;have aH:t.kind≠0/\t.kind<5:=by rcases h with⟨c',e,h⟩|⟨e,h⟩|⟨c',e,h⟩|⟨c',e,h⟩|⟨neg,aR,S,v1,v2,e,h,_⟩;exact absurd e (aJ c');all_goals subst e;exact⟨by simp[wP,ji,qJ,vG],by simp[wP,ji,qJ,vG]⟩);rw[bld_leaf f t aH.1 aH.2] at hl ⊢;have HA:H (∀(x:Y) (q P:E),je q bb N->yp q P (Uf #[x]) (kT t)->Uh V 66 #[Ua (I ⟨bb,0,U⟩),Uf #[M J 1,x,M J 0,M J (r:Nat),M J 0]] P (ZO P bb (N.length,sts N++[taker t r]))):=λx q P hb n=>
    (zd1 bb N (taker t r) x q.heap.size P (hb.young n.2) (n.1.congr (λc=>(ze7 t r c).symm)) (λsv a4=>hb.own_lt sv ((n.2.cell (p:=⟨bb,0,U⟩) hb.lt id).symm.trans a4)) hb.lt aW).mono (λe w' ⟨h1,h2⟩=>⟨_,h1,by simp[sts],h2⟩)
   have ar:=h;clear hM s hZ hl h aF aJ;rcases ar with⟨c',e,h⟩|⟨e,h⟩|⟨c',e,h⟩|⟨c',e,h⟩|⟨neg,aR,S,v1,v2,e,h,g1,g2⟩;subst e;exact absurd rfl aH.1
   .subst h;have F:=Tryz.as10;have L:=Tryz.bs15;have a6:=Tryz.bs16;have a7:=Tryz.bs17;go_enter func67,ntmps67;go_wp2_with fail;clear F L a6 a7;refine(zb HM _ (zf.refl _ _)).mono ?_;rintro e2 q ⟨v',rfl,n⟩;obtain⟨qa,qn,qc,rfl⟩:=n.1.slice;have W:=ze n;clear n;go_wp2_with fail;refine(zb HA _ w q X W).mono ?_;rintro e2 P ⟨B,rfl,k,i⟩;have z:=ze ((qb.young X W.2).trans i);have u:=ze k;clear i k;go_wp2_with fail;go_ret;exact⟨B,by rw[yd];rfl,u,z⟩
   .subst h;have F:=Tryz.as20;have L:=Tryz.bs25;have a6:=Tryz.bs26;have a7:=Tryz.bs27;go_enter func67,ntmps67;go_wp2_with fail;clear F L a6 a7;refine(zb HM _ (zf.refl _ _)).mono ?_;rintro e2 q ⟨v',rfl,n⟩;obtain⟨qa,qn,qc,rfl⟩:=n.1.slice;have W:=ze n;clear n;go_wp2_with fail;refine(zb HA _ w q X W).mono ?_;rintro e2 P ⟨B,rfl,k,i⟩;have z:=ze ((qb.young X W.2).trans i);have u:=ze k;clear i k;go_wp2_with fail;go_ret;exact⟨B,by rw[yd];rfl,u,z⟩
   .subst h;have F:=Tryz.as30;have L:=Tryz.bs35;have a6:=Tryz.bs36;have a7:=Tryz.bs37;go_enter func67,ntmps67;go_wp2_with fail;clear F L a6 a7;refine(zb HM _ (zf.refl _ _)).mono ?_;rintro e2 q ⟨v',rfl,n⟩;obtain⟨qa,qn,qc,rfl⟩:=n.1.slice;have W:=ze n;clear n;go_wp2_with fail;refine(zb HA _ w q X W).mono ?_;rintro e2 P ⟨B,rfl,k,i⟩;have z:=ze ((qb.young X W.2).trans i);have u:=ze k;clear i k;go_wp2_with fail;go_ret;exact⟨B,by rw[yd];rfl,u,z⟩
   subst h;obtain⟨pa,pn,pc,rfl⟩:=g1.slice;obtain⟨ua,un,uc,rfl⟩:=g2.slice;clear g1 g2;have F:=Tryz.as40;have L:=Tryz.bs45;have a6:=Tryz.bs46;have a7:=Tryz.bs47;go_enter func67,ntmps67;go_wp2_with fail;clear F L a6 a7;refine(zb HM _ (zf.refl _ _)).mono ?_;rintro e2 q ⟨v',rfl,n⟩;obtain⟨qa,qn,qc,rfl⟩:=n.1.slice;have W:=ze n;clear n;go_wp2_with fail;refine(zb HA _ w q X W).mono ?_;rintro e2 P ⟨B,rfl,k,i⟩;have z:=ze ((qb.young X W.2).trans i);have u:=ze k;clear i k;go_wp2_with fail;go_ret;exact⟨B,by rw[yd];rfl,u,z⟩
  .obtain⟨t0,aB,rfl⟩:∃t0 aB,ts=t0 :: aB:=by
    cases ts with
    |nil=>simp at an;omega
    |cons a b=>exact⟨a,b,rfl⟩
   rw[bld_alt] at hl ⊢;have ar:∃pa pn pc,sv=K pa pn pc:=(by rcases hr with⟨h,_⟩|⟨g,a0,h,_⟩<;>exact⟨_,_,_,h⟩);have HC:=ze (zcO f bb IH sv xs t0 aB r N w hr aL an (λj x t hx ht=>⟨hk j x t hx ht,s.sh.2.2.2 t (zgS ht),s.ln.2 t (zgS ht)⟩) (λx hx=>by
    obtain⟨j,hj⟩:=zhN.1 hx;have aG:j<(t0 :: aB).length:=(by rw[an];exact(zgG.1 hj).1);exact(hk j x _ hj (zgE aG)).iface) hZ hn hl)
   obtain⟨pa,pn,pc,rfl⟩:=ar;clear s hZ hr hk hl;have F:=Tryz.as50;have L:=Tryz.as55;go_enter func67,ntmps67;go_wp2_with fail;clear F L;refine HC.mono ?_;rintro e P ⟨B,rfl,k,i⟩;have z:=ze i;have u:=ze k;clear i k;go_wp2_with fail;go_ret;exact⟨B,rfl,u,z⟩
  .rw[bld_seq] at hl ⊢;have ar:∃pa pn pc,sv=K pa pn pc:=(by rcases hr with⟨h,_⟩|⟨g,a0,h,_⟩<;>exact⟨_,_,_,h⟩);have HC:=ze (WL f bb IH sv xs ts r N w hr aL an (λj x t hx ht=>⟨hk j x t hx ht,s.sh.2.2.2 t (zgS ht),s.ln.2 t (zgS ht)⟩) (λx hx=>by
    obtain⟨j,hj⟩:=zhN.1 hx;have aG:j<ts.length:=(by rw[an];exact(zgG.1 hj).1);exact(hk j x _ hj (zgE aG)).iface) hZ hn hl)
   obtain⟨pa,pn,pc,rfl⟩:=ar;clear s hZ hr hk hl;have F:=Tryz.as60;have L:=Tryz.as65;have a6:=Tryz.as66;go_enter func67,ntmps67;go_wp2_with fail;clear F L a6;refine HC.mono ?_;rintro e P ⟨B,rfl,k,i⟩;have z:=ze i;have u:=ze k;clear i k;go_wp2_with fail;go_ret;exact⟨B,rfl,u,z⟩
  obtain⟨T,y,rfl⟩:=aK.iface;have HC:=ze (λq (hO:ziE w q)=>zcP f bb IH T y l m t' r N q ⟨zG.keep hO (λ_ _ f=>f) f _ _ aK,s.sh.2.2.2 t' (by simp[vH]),s.ln.2 t' (by simp[vH])⟩ h0 h1 h2 h3 h4 (X.young hO) hn _ rfl hl);generalize bld (f+1) (vH t' l m) r (sts N)=d at *;clear s hZ aK;have F:=Tryz.as70;have L:=Tryz.as75;have a6:=Tryz.as76;have a7:=Tryz.as77;go_enter func67,ntmps67;go_wp2_with fail;clear F L a6 a7;have hO:ziE w (w.alloc (Ub #[Ud T y,M J l,M J m] 256)):=(zf.refl _ _).alloc _;refine(zb HC _ hO).mono ?_;rintro e P ⟨B,rfl,k,i⟩;have z:=ze ((qb.young X hO).trans i);have u:=ze k;clear i k hO;go_wp2_with fail;go_ret;exact⟨B,rfl,u,z⟩
end
