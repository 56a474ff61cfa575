/- The program's builder: its row of steps, and one step more. -/
import Derived.Test.YtcgleficedipkaaGreatDoorYCsICsL
import Derived.Test.YtcgleficedipkaaGreatDoorYPrgA
import Derived.Deep.RegionLawGrows
namespace Go.Proofs.YtcgleficedipkaaGreatDoor
open _root_.Go.Proofs.Tryz
variable (v:Value)(f bb:Nat)(w:World)
section
open Go.RowKit
open Sm (Stp Tree)
set_option maxHeartbeats 2000000
set_option maxRecDepth 1000000
def yt (Z:List (Stp×Value)):List Value:=Z.flatMap fun z=>[.int .i64 (z.1.kind:Nat),z.2,.int .i64 z.1.asr,.int .i64 (z.1.next:Nat),.int .i64 (z.1.other:Nat)]
theorem XU (l m:List (Stp×Value)):yt (l++m)=yt l++yt m:=by simp [yt]
theorem KQ (l:List (Stp×Value)):(yt l).length=l.length*5:=by
 induction l with
 |nil=>rfl
 |cons x l ih=>simp [yt] at ih ⊢;omega
theorem Tryz.infoStep:(prog.info? 164).map (fun i=>(i.zero,i.size,i.bytes))=some (some (.agg #[.int .i64 0,.slice none 0 0,.int .i64 0,.int .i64 0,.int .i64 0]),5,56):=by kernel_rfl
structure qi (w:World)(bb:Nat)(Z:List (Stp×Value)):Prop where
 ex:∃ sv,w.cell? ⟨bb,0,none⟩=some sv/\w.ownsRow (bb+1) 164 5 sv Z.length (yt Z)/\∀ z∈Z,yQ w (fun g=>bb<g/\sv.ownBlock≠some g) (.agg #[z.2]) (Prg.setP z.1)
 fr:w.frozen? ⟨bb,0,none⟩=false
theorem qi.lt {w:World}{bb:Nat}{Z:List (Stp×Value)}(h:qi w bb Z):bb<w.heap.size:=by
 obtain ⟨sv,h1,_⟩:=h.ex;exact zE w _ h1
theorem qi.young {w w':World}{bb:Nat}{Z:List (Stp×Value)}(h:qi w bb Z)(o:Q8 w w'):qi w' bb Z:=by
 obtain ⟨sv,h1,h2,h3⟩:=h.ex;exact ⟨⟨sv,(o.cell (p:=⟨bb,0,none⟩) h.lt (fun f=>f)).trans h1,zn h2 o (fun _ _ f=>f),fun z hz=>(h3 z hz).keep o (fun _ _ f=>f)⟩,(o.frozen (p:=⟨bb,0,none⟩) h.lt (fun f=>f)).trans h.fr⟩
theorem yQ.none (A:Nat->Prop)(S:Int->Bool)(h:∀ c,S c=false):yQ w A (.agg #[.slice none 0 0]) S:=⟨_,[],rfl,.inl ⟨rfl,rfl⟩,⟨List.Pairwise.nil,fun x hx=>by cases hx⟩,fun c=>by rw [h c];rfl⟩
theorem five_new (W:World)(n:Nat)(hn:W.heap.size=n)(a b c d e:Value)(T:TypeId):∀ j u,[a,b,c,d,e][j]?=some u->(W.alloc (.cells #[a,b,c,d,e] T)).cell? ((⟨n,0,none⟩:Addr).add j)=some u:=by
 intro j u hj;have e0:(⟨n,0,none⟩:Addr).add j=⟨n,j,none⟩:=by unfold Addr.add;split<;>simp_all
 rw [e0];exact zm W n hn _ _ _ _ (by simpa using hj)
theorem jL {P:Program}{ops:Array Oper}{o:Oper}{a:Act}{w:World}{K:Act->World->Prop}{Q:Exit->Act->World->Prop}{E:Prop}(hgd:o.guard=none)(s x:Operand)(t:TypeId)
  (ho:o.op = .call { callee:=.builtin .append,args:=#[s,x],argTypes:=#[t,t] })
  (base:Nat) (e:TypeId) (i:TypeInfo) (z:Value) (size bytes:Nat) (ht:P.underlying t=some (.slice e)) (hi:P.info? e=some i) (hz:i.zero=some z)
  (hsize:i.size=size) (hby:i.bytes=bytes) (hzs:z.cells.size=size) (hsz:0<size)
  (v:Value) (n:Nat) (xs:List Value) (hs:a.eval s=v) (hown:w.ownsRow base e size v n xs)
  (ad:Addr) (m c:Nat) (news:List Value) (hx:a.eval x = .slice (some ad) m c) (hl:news.length=m*size) (hnews:∀ j u,news[j]?=some u->w.cell? (ad.add j)=some u) (h1:∀ u∈news,u.oneCell'=true)
  (hm:0<m) (h63:n+m<=maxLen) (hbytes:(n+m)*bytes<=140737488355328) (hbase:base<=w.heap.size)
  (h:∀ v' w',w'.ownsRow base e size v' (n+m) (xs++news)->w.grownBy w' v.ownBlock->(∀ k,v'.ownBlock=some k->v.ownBlock=some k\/w.heap.size<=k)->K (a.put o.dst v') w'):if Region.wanted o (yielded ops a.tmps)=true then Oper.wp P o a w K Q else E:=by
 have hgr:∀ w' row,w.grownBy w' none->w.grownBy w' row:=fun w' row g=>⟨g.os,g.tape,g.output,g.size,fun k hk _=>g.block k hk (by simp)⟩
 rcases hown.2 with ⟨rfl,rfl⟩ |⟨g,cap,cur,rfl,hbg,hg,hnc,hcm,hcs,htake⟩
 ·have hxs:xs=[]:=qg (by simpa using hown.1);subst hxs;exact step_append_grows hgd s x t ho e i z size bytes ht hi hz hsize hby hzs hsz none 0 0 [] hs (fun _=>⟨rfl,rfl⟩) (by simp) (fun b hb=>by cases hb) ad m c news hx hl hnews h1 (by omega) h63 hbytes (fun v' w' h2 h3=>h v' w' (xd h2 hbase) (hgr _ _ h3) (fun k hk=>.inr (h2.lt k hk).1))
 ·by_cases hroom:n+m<=cap
  ·have hw:Region.wanted o (yielded ops a.tmps)=true:=(by simp [Region.wanted,hgd]);rw [if_pos hw];obtain ⟨w',hrun,r1,r2⟩:=run_append_fits (P:=P) w base t o.type e i size ht hi hsize g n cap xs hown ad m c news hl hnews h1 hroom;unfold Oper.wp;simp [execOp,ho,resolve,invoke,builtin,hs,hx,hrun,Result.andThen];exact h _ _ r1 r2 (fun k hk=>.inl hk)
  ·exact step_append_grows hgd s x t ho e i z size bytes ht hi hz hsize hby hzs hsz (some ⟨g,0,none⟩) n cap xs hs (fun hh=>by cases hh) hown.1 (fun b hb=>by cases hb;exact hown.cells (g:=g) rfl) ad m c news hx hl hnews h1 (by omega) h63 hbytes (fun v' w' h2 h3=>h v' w' (xd h2 hbase) (hgr _ _ h3) (fun k hk=>.inr (h2.lt k hk).1))
def jP (w:World)(bb k:Nat):Prop:=k=bb\/∃ sv,w.cell? ⟨bb,0,none⟩=some sv/\sv.ownBlock=some k
structure xx (w w':World)(bb:Nat)(Z':List (Stp×Value)):Prop where
 at':qi w' bb Z'
 only:ze (fun k=>bb<=k) w w'
 own:ze (jP w bb) w w'
 sep:∀ k,jP w' bb k->jP w bb k\/w.heap.size<=k
theorem zao (Z:List (Stp×Value))(s:Stp)(x:Value)(B:Nat)(w:World)(h:qi w bb Z)(hx:yQ w (fun g=>B<=g) (.agg #[x]) (Prg.setP s))(hB:∀ sv,w.cell? ⟨bb,0,none⟩=some sv->∀ k,sv.ownBlock=some k->k<B)(hbB:bb<B)(hl:Z.length<=1000) :
  Calls prog 66 #[.pointer (some ⟨bb,0,none⟩),.agg #[.int .i64 (s.kind:Nat),x,.int .i64 s.asr,.int .i64 (s.next:Nat),.int .i64 (s.other:Nat)]] w fun e w'=>e = .returned (.int .i64 (Z.length:Nat))/\xx w w' bb (Z++[(s,x)]):=by
 obtain ⟨i0,hi,hz0,hz1,hz2⟩:=info_parts Tryz.infoStep;obtain ⟨sv,h1,h2,h3⟩:=h.ex;have h0:=h.fr;have hblt:=h.lt;obtain ⟨pa,pn,pc,rfl⟩:=zy h2;obtain ⟨xa,xn,xc,hxe⟩:=hx.slice;have hxx:x = .slice xa xn xc:=by injection hxe with e;injection e with e;injection e
 subst hxx;have Hown:=zc h2;have h2':=h2;have HX:=zc hx;have H3:=zc h3;have HB:=zc (hB _ h1);clear h h2 h3 hx hB;go_enter func66,ntmps66;have hnb:(Value.slice pa pn pc).ownBlock≠some bb:=fun e=>by have:=(zh h2' _ e).1;omega
 clear h2';have HOA:Hid (Q8 w (w.alloc (.cells #[.int .i64 (s.kind:Nat),.slice xa xn xc,.int .i64 s.asr,.int .i64 (s.next:Nat),.int .i64 (s.other:Nat)] 164))):=(ze.refl _ _).alloc _;have k1:=((zb HOA).cell (p:=⟨bb,0,none⟩) hblt (fun f=>f)).trans h1;have k0:=((zb HOA).frozen (p:=⟨bb,0,none⟩) hblt (fun f=>f)).trans h0;go_wp2_with fail;go_region_law (refine jL rfl (.tmp 9) (.tmp 11) 154 rfl (bb+1) 164 i0 (.agg #[.int .i64 0,.slice none 0 0,.int .i64 0,.int .i64 0,.int .i64 0]) 5 56 underlying154 hi hz0 hz1 hz2 rfl (by decide) (.slice pa pn pc) _ (yt Z) (by simp [Act.eval]) (zn (zb Hown) ((((ze.refl (fun _=>False) w).alloc _).drew).alloc _) (fun _ _ f=>f)) ⟨w.heap.size+1,0,none⟩ 1 1 [.int .i64 (s.kind:Nat),.slice xa xn xc,.int .i64 s.asr,.int .i64 (s.next:Nat),.int .i64 (s.other:Nat)] (by simp [Act.eval]) rfl (five_new _ (w.heap.size+1) (by simp) _ _ _ _ _ _) (fun u hu=>by simp at hu;rcases hu with rfl |rfl |rfl |rfl |rfl<;>rfl) (by decide) (by unfold maxLen;omega) (by omega) (by simp;omega) ?_;intro v' w4 hown' hgrow hsep;obtain ⟨ya,yn,yc,rfl⟩:=zy hown';have oW:ze (fun k=>(Value.slice pa pn pc).ownBlock=some k) w w4:=((((ze.refl _ w).alloc _).drew).alloc _).grown hgrow (fun k hk=>.inl hk);have m1:=(oW.cell (p:=⟨bb,0,none⟩) hblt hnb).trans h1;have m0:=(oW.frozen (p:=⟨bb,0,none⟩) hblt hnb).trans h0;have HO4:=zc hown';have HW4:=zc oW;have HSe:=zc hsep;clear hown' oW hgrow hsep)
 all_goals
  have hyn:yn=Z.length+1:=by rcases (zb HO4).2 with ⟨e1,e2⟩ |⟨g',cap',cur,e1,_⟩<;>cases e1<;>first |rfl |omega
  subst hyn;have HF:Hid (xx w (w4.setCell ⟨bb,0,none⟩ (.slice ya (Z.length+1) yc)) bb (Z++[(s,.slice xa xn xc)])):=by
   have oS:ze (fun k=>k=bb) w4 (w4.setCell ⟨bb,0,none⟩ (.slice ya (Z.length+1) yc)):=(ze.refl (fun k=>k=bb) w4).setCell (p:=⟨bb,0,none⟩) (.inl rfl) _;have hnb4:∀ k,(Value.slice ya (Z.length+1) yc).ownBlock=some k->k≠bb:=fun k hk e=>(by have:=(zh (zb HO4) k hk).1;omega);refine ⟨⟨⟨_,yY _ _ _ m1,?_,fun z hz=>?_⟩,(zk _ _ _ _).trans m0⟩,?_,?_,?_⟩
   ·rw [yS,XU];exact zn (zb HO4) oS (fun k hk e=>hnb4 k hk e)
   ·have key:yQ w4 (fun g=>bb<g/\(Value.slice ya (Z.length+1) yc).ownBlock≠some g) (.agg #[z.2]) (Prg.setP z.1):=by
     rcases qe.1 hz with hz |hz
     ·have h9:yQ w (fun g=>(bb<g/\(Value.slice pa pn pc).ownBlock≠some g)/\g<w.heap.size) (.agg #[z.2]) (Prg.setP z.1):=(zb H3 z hz).mono (fun g hg hA=>⟨hA,hg⟩);refine (h9.keep (zb HW4) (fun g hg=>hg.1.2)).mono (fun g _ hg=>⟨hg.1.1,fun e=>?_⟩);rcases zb HSe g e with h |h
      ·exact hg.1.2 h
      ·have:=hg.2;simp at h;omega
     ·obtain rfl:=xf.1 hz;have h9:yQ w (fun g=>B<=g/\g<w.heap.size) (.agg #[.slice xa xn xc]) (Prg.setP s):=(zb HX).mono (fun g hg hA=>⟨hA,hg⟩);refine (h9.keep (zb HW4) (fun g hg e=>by have:=zb HB g e;omega)).mono (fun g _ hg=>⟨by omega,fun e=>?_⟩);rcases zb HSe g e with h |h
      ·have:=zb HB g h;omega
      ·have:=hg.2;simp at h;omega
    exact key.keep oS (fun g hg e=>by omega)
   ·have o1:ze (fun k=>bb<=k) w w4:=(zb HW4).mono (fun k _ hk=>by have:=(zh (zb Hown) k hk).1;omega);exact o1.setCell (p:=⟨bb,0,none⟩) (.inl (z8 _)) _
   ·have o1:ze (jP w bb) w w4:=(zb HW4).mono (fun k _ hk=>.inr ⟨_,h1,hk⟩);exact o1.setCell (p:=⟨bb,0,none⟩) (.inl (.inl rfl)) _
   ·rintro k (rfl |⟨sv,e1,e2⟩)
    ·exact .inl (.inl rfl)
    ·cases (yY _ _ _ m1).symm.trans e1;rcases zb HSe k e2 with h |h
     ·exact .inl (.inr ⟨_,h1,h⟩)
     ·exact .inr (by simp at h;omega)
  go_wp2_with fail;go_ret;exact ⟨by simp,zb HF⟩
open Sm (Stp Tree bld yr bSeq yM bOpt xm)
structure vJ (f:Nat)(w:World)(bb:Nat)(v:Value)(t:Tree):Prop where
 at':zA f w (fun g=>g<bb) v t
 sh:Pro.jg f t
 ln:Pro.jh f t
theorem vJ.keep {f:Nat}{w w':World}{bb:Nat}{v:Value}{t:Tree}(h:vJ f w bb v t)(o:ze (fun k=>bb<=k) w w'):vJ f w' bb v t:=⟨zA.keep o (fun g hg hp=>by omega) f v t h.at',h.sh,h.ln⟩
def sts (Z:List (Stp×Value)):List Stp:=Z.map Prod.fst
theorem zU (Z:List (Stp×Value)):(sts Z).length=Z.length:=by simp [sts]
def vo (w:World)(bb:Nat)(r:Nat×List Stp)(e:Ending)(w':World):Prop:=∃ Z',e = .returned (.int .i64 (r.1:Nat))/\sts Z'=r.2/\xx w w' bb Z'
def BOK (f bb:Nat):Prop:=∀ (v:Value) (t:Tree) (nx:Nat) (Z:List (Stp×Value)) (w:World),vJ f w bb v t->qi w bb Z->nx<Z.length->(bld f t nx (sts Z)).2.length<=1000->
 Calls prog 67 #[.pointer (some ⟨bb,0,none⟩),v,.int .i64 (nx:Nat)] w (vo w bb (bld f t nx (sts Z)))
theorem xx.refl {w:World}{bb:Nat}{Z:List (Stp×Value)}(h:qi w bb Z):xx w w bb Z:=⟨h,ze.refl _ _,ze.refl _ _,fun _ h=>.inl h⟩
theorem xx.trans {a b c:World}{bb:Nat}{Y Z:List (Stp×Value)}(h:xx a b bb Y)(k:xx b c bb Z):xx a c bb Z:=
 ⟨k.at',h.only.trans k.only,⟨k.own.os.trans h.own.os,k.own.tape.trans h.own.tape,k.own.output.trans h.own.output,yZ h.own.size k.own.size,fun j hj hn=>(k.own.block j (yh hj h.own.size) (fun hp=>by
  rcases h.sep j hp with h |h
  ·exact hn h
  ·omega)).trans (h.own.block j hj hn)⟩,fun j hj=>by
  rcases k.sep j hj with h1 |h1
  ·exact h.sep j h1
  ·exact .inr (yZ h.own.size h1)⟩
theorem xx.young {a b:World}{bb:Nat}{Z:List (Stp×Value)}(h:qi a bb Z)(o:Q8 a b):xx a b bb Z:=
 ⟨h.young o,o.mono (fun _ _ f=>f.elim),o.mono (fun _ _ f=>f.elim),fun k hk=>by
  rcases hk with h1 |⟨sv,h1,h2⟩
  ·exact .inl (.inl h1)
  ·exact .inl (.inr ⟨sv,(o.cell (p:=⟨bb,0,none⟩) h.lt (fun f=>f)).symm.trans h1,h2⟩)⟩
theorem xx.cell {a b:World}{bb:Nat}{Z:List (Stp×Value)}(h:xx a b bb Z){p:Addr}(hp:p.block<a.heap.size)(hn:¬jP a bb p.block):b.cell? p=a.cell? p:=h.own.cell hp hn
theorem jP.lt {w:World}{bb k:Nat}{Z:List (Stp×Value)}(h:qi w bb Z)(hk:jP w bb k):k<w.heap.size:=by
 rcases hk with rfl |⟨sv,h1,h2⟩
 ·exact h.lt
 ·obtain ⟨sv',h3,h4,_⟩:=h.ex;cases h1.symm.trans h3;exact (zh h4 k h2).2
theorem QW (HB:BOK f bb)(v:Value)(t:Tree)(count nx:Nat)(Z:List (Stp×Value))(w:World)(hp:vJ f w bb v t)(hv:∃ T y,v = .iface T y)(hZ:qi w bb Z)(hn:nx<Z.length)(hc:count<=100)(hl:(yr (bld f) t count nx (sts Z)).2.length<=1000) :
  Calls prog 161 #[.pointer (some ⟨bb,0,none⟩),v,.int .i64 (count:Nat),.int .i64 (nx:Nat)] w (vo w bb (yr (bld f) t count nx (sts Z))):=by
 obtain ⟨T,y,rfl⟩:=hv;have hB:=zc HB;have HP:=zc hp;have HZ:=zc hZ;clear HB hp hZ;go_enter func161,ntmps161;go_wp2_with fail;go_loopw [9,13] (fun vb vj wr=>∃ (b j:Nat) (Y:List (Stp×Value)),vb = .int .i64 (b:Nat)/\vj = .int .i64 (j:Nat)/\j<=count/\b<Y.length/\Hid (xx w wr bb Y)/\Hid (yr (bld f) t count nx (sts Z)=yr (bld f) t (count-j) b (sts Y))) (fun _ vj _=>count-(intOf vj).toNat)
 case atStart=>exact ⟨nx,0,Z,rfl,rfl,by omega,hn,xx.refl (zb HZ),rfl⟩
 case round=>
  obtain ⟨b,j,Y,rfl,rfl,hj,hbY,HT,HF⟩:=hrel;by_cases hlt:j<count
  ·obtain ⟨k,hk⟩:∃ k,count-j=k+1:=⟨count-j-1,by omega⟩
   have hbig:(bld f t b (sts Y)).2.length<=1000:=by
    rw [zb HF,hk] at hl;simp only [yr] at hl;split at hl
    ·exact hl
    ·exact yZ (Sm.qX (Sm.yU f) k _ _) hl
   have hst:=Sm.qt f t b (sts Y) (by rw [zU];exact hbY);have HC:=zc (zb hB (.iface T y) t b Y wr ((zb HP).keep (zb HT).only) (zb HT).at' hbY hbig);by_cases hsame:(bld f t b (sts Y)).1=b
   ·have HE:Hid (yr (bld f) t count nx (sts Z)=bld f t b (sts Y)):=(by rw [zb HF,hk];simp only [yr];rw [if_pos hsame];rfl);go_wp2_with (go_at_call 67;refine (zb HC).mono ?_;rintro e w1 ⟨Y2,rfl,hs2,hT2⟩;have HT2:=zc ((zb HT).trans hT2);have HS2:=zc hs2;clear hT2 hs2);go_ret;exact ⟨Y2,by rw [zb HE,hsame];rfl,by rw [zb HS2,zb HE],zb HT2⟩
   ·have HE:Hid (yr (bld f) t count nx (sts Z)=yr (bld f) t k (bld f t b (sts Y)).1 (bld f t b (sts Y)).2):=(by rw [zb HF,hk];simp only [yr];rw [if_neg hsame];rfl);generalize hr:bld f t b (sts Y)=r at *;have hne:((r.1:Int) == (b:Int))=false:=(by simp;omega);go_wp2_with (go_at_call 67;refine (zb HC).mono ?_;rintro e w1 ⟨Y2,rfl,hs2,hT2⟩;have HT2:=zc ((zb HT).trans hT2);have HS2:=zc hs2;clear hT2 hs2);exact ⟨⟨r.1,j+1,Y2,rfl,by go_num,by omega,(by rw [<-zU,zb HS2];exact hst),zb HT2,(by rw [zb HE,zb HS2,show count-(j+1)=k by omega];rfl)⟩,by simp [intOf];omega⟩
  ·have HE:Hid (yr (bld f) t count nx (sts Z)=(b,sts Y)):=(by rw [zb HF,show count-j=0 by omega];rfl);go_wp2_with fail;go_ret;exact ⟨Y,by rw [zb HE];rfl,by rw [zb HE],zb HT⟩
theorem zbx {α:Type}(l:List α)(i:Nat)(hi:i<l.length):l.take (i+1)=l.take i++[l[i]]:=(kY l i hi).symm
theorem JW (HB:BOK f bb)(sv:Value)(xs:List Value)(ts:List Tree)(nx:Nat)(Z:List (Stp×Value))(w:World)(hr:kI w (fun g=>g<bb) sv xs)(hxl:xs.length<=1000)(htl:ts.length=xs.length)(hp:∀ (j:Nat) x t,xs[j]?=some x->ts[j]?=some t->vJ f w bb x t)(hif:∀ x∈xs,∃ T y,x = .iface T y)(hZ:qi w bb Z)(hn:nx<Z.length)(hl:(bSeq (bld f) ts.reverse nx (sts Z)).2.length<=1000) :
  Calls prog 118 #[.pointer (some ⟨bb,0,none⟩),sv,.int .i64 (nx:Nat)] w (vo w bb (bSeq (bld f) ts.reverse nx (sts Z))):=by
 have hB:=zc HB;have HP:=zc hp;have HZ:=zc hZ;have HI:=zc hif;obtain ⟨pa,pc,rfl,HC⟩:∃ pa pc,sv = .slice pa xs.length pc/\Hid (xs.length≠0->∃ g,pa=some ⟨g,0,none⟩/\xs.length<=pc/\g<bb/\g<w.heap.size/\∀ j x,xs[j]?=some x->w.cell? ⟨g,j,none⟩=some x):=by
  rcases hr with ⟨rfl,rfl⟩ |⟨g,cap,rfl,h1,h2,h3,h4⟩
  ·exact ⟨none,0,rfl,fun h=>absurd rfl h⟩
  ·exact ⟨_,_,rfl,fun _=>⟨g,rfl,h2,h1,h3,h4⟩⟩
 clear HB hp hZ hr hif;go_enter func118,ntmps118;go_wp2_with fail;go_loopw [7,8] (fun vb vj wr=>∃ (b m:Nat) (Y:List (Stp×Value)),vb = .int .i64 (b:Nat)/\vj = .int .i64 ((m:Int)-1)/\m<=xs.length/\b<Y.length/\Hid (xx w wr bb Y)/\Hid (bSeq (bld f) ts.reverse nx (sts Z)=bSeq (bld f) (ts.take m).reverse b (sts Y))) (fun _ vj _=>(intOf vj+1).toNat)
 case atStart=>exact ⟨nx,xs.length,Z,rfl,rfl,z8 _,hn,xx.refl (zb HZ),(by rw [<-htl,ZA];rfl)⟩
 case round=>
  obtain ⟨b,m,Y,rfl,rfl,hm,hbY,HT,HF⟩:=hrel;by_cases hlt:0<m
  ·obtain ⟨k,rfl⟩:∃ k,m=k+1:=⟨m-1,by omega⟩
   obtain ⟨g,rfl,hpc,hgb,hgw,hcells⟩:=zb HC (by omega);have hx:xs[k]?=some xs[k]:=zD (by omega);have ht:ts[k]?=some (ts[k]'(by omega)):=zD (by omega);have c1:=((zb HT).only.cell (p:=⟨g,k,none⟩) hgw (by show ¬bb<=g;omega)).trans (hcells _ _ hx);have hpk:=(zb HP k _ _ hx ht).keep (zb HT).only;obtain ⟨T,y,hxe⟩:=zb HI xs[k] (jG _);have HF2:Hid (bSeq (bld f) ts.reverse nx (sts Z)=bSeq (bld f) (ts.take k).reverse (bld f (ts[k]'(by omega)) b (sts Y)).1 (bld f (ts[k]'(by omega)) b (sts Y)).2):=by
    rw [zb HF,zbx ts k (by omega),List.reverse_append];rfl
   have hbig:(bld f (ts[k]'(by omega)) b (sts Y)).2.length<=1000:=by
    rw [zb HF2] at hl;exact yZ (Sm.YX (Sm.yU f) _ _ _) hl
   have hst:=Sm.qt f (ts[k]'(by omega)) b (sts Y) (by rw [zU];exact hbY);rw [hxe] at c1 hpk;have HCa:=zc (zb hB (.iface T y) _ b Y wr hpk (zb HT).at' hbY hbig);clear hx ht hcells hpk hxe;have e1:((k+1:Nat):Int)-1=(k:Nat):=(by omega);have e2:(0:Int)<=((k+1:Nat):Int)-1:=(by omega);simp only [e1] at *;generalize hr:bld f (ts[k]'(by omega)) b (sts Y)=r at *;go_wp2_with (go_at_call 67;refine (zb HCa).mono ?_;rintro e w1 ⟨Y2,rfl,hs2,hT2⟩;have HT2:=zc ((zb HT).trans hT2);have HS2:=zc hs2;clear hT2 hs2);exact ⟨⟨r.1,k,Y2,rfl,by go_num,by omega,(by rw [<-zU,zb HS2];exact hst),zb HT2,(by rw [zb HF2,zb HS2];rfl)⟩,by simp [intOf]⟩
  ·obtain rfl:m=0:=(by omega);have HE:Hid (bSeq (bld f) ts.reverse nx (sts Z)=(b,sts Y)):=(by rw [zb HF];rfl);have e2:¬(0:Int)<=((0:Nat):Int)-1:=(by omega);go_wp2_with fail;go_ret;exact ⟨Y,by rw [zb HE];rfl,by rw [zb HE],zb HT⟩
theorem zby (s:Stp)(h:s.kind≠1)(c:Int):Prg.setP s c=false:=by simp [Prg.setP,h]
theorem qi.own_lt {w:World}{bb:Nat}{Z:List (Stp×Value)}(h:qi w bb Z):∀ sv,w.cell? ⟨bb,0,none⟩=some sv->∀ k,sv.ownBlock=some k->k<w.heap.size:=fun sv h1 k hk=>by
 obtain ⟨sv',h2,h3,_⟩:=h.ex;cases h1.symm.trans h2;exact (zh h3 k hk).2
theorem kV (Z:List (Stp×Value))(s:Stp)(w:World)(h:qi w bb Z)(hs:s.kind≠1)(hl:Z.length<=1000) :
  Calls prog 66 #[.pointer (some ⟨bb,0,none⟩),.agg #[.int .i64 (s.kind:Nat),.slice none 0 0,.int .i64 s.asr,.int .i64 (s.next:Nat),.int .i64 (s.other:Nat)]] w (vo w bb (Z.length,sts Z++[s])):=
 (zao bb Z s (.slice none 0 0) w.heap.size w h (yQ.none _ _ _ (zby s hs)) h.own_lt h.lt hl).mono (fun e w' ⟨h1,h2⟩=>⟨_,h1,by simp [sts],h2⟩)
theorem Wr (HB:BOK f bb)(sv:Value)(xs:List Value)(t0:Tree)(ts:List Tree)(nx:Nat)(Z:List (Stp×Value))(w:World)(hr:kI w (fun g=>g<bb) sv xs)(hxl:xs.length<=1000)(htl:(t0 :: ts).length=xs.length)(hp:∀ (j:Nat) x t,xs[j]?=some x->(t0 :: ts)[j]?=some t->vJ f w bb x t)(hif:∀ x∈xs,∃ T y,x = .iface T y)(hZ:qi w bb Z)(hn:nx<Z.length)(hl:(yM (bld f) nx ts (bld f t0 nx (sts Z)).1 (bld f t0 nx (sts Z)).2).2.length<=1000) :
  Calls prog 117 #[.pointer (some ⟨bb,0,none⟩),sv,.int .i64 (nx:Nat)] w (vo w bb (yM (bld f) nx ts (bld f t0 nx (sts Z)).1 (bld f t0 nx (sts Z)).2)):=by
 have hB:=zc HB;have HP:=zc hp;have HZ:=zc hZ;have HI:=zc hif;have hlen:xs.length=ts.length+1:=by rw [<-htl];rfl
 obtain ⟨g,pc,rfl,hpc,hgb,hgw,HC⟩:∃ g pc,sv = .slice (some ⟨g,0,none⟩) xs.length pc/\xs.length<=pc/\g<bb/\g<w.heap.size/\Hid (∀ j x,xs[j]?=some x->w.cell? ⟨g,j,none⟩=some x):=by
  rcases hr with ⟨rfl,rfl⟩ |⟨g,cap,rfl,h1,h2,h3,h4⟩
  ·simp at hlen
  ·exact ⟨g,cap,rfl,h2,h1,h3,h4⟩
 have hx0:xs[0]?=some (xs[0]'(by omega)):=zD (by omega);have c0:=zb HC 0 _ hx0;have hp0:=hp 0 _ t0 hx0 rfl;obtain ⟨T0,y0,hxe⟩:=hif _ (jG (show 0<xs.length by omega));rw [hxe] at c0 hp0;have hb0:(bld f t0 nx (sts Z)).2.length<=1000:=yZ (Sm.jX (Sm.yU f) ts _ _) hl;have HC0:=zc (HB (.iface T0 y0) t0 nx Z w hp0 hZ hn hb0);have hst0:=Sm.qt f t0 nx (sts Z) (by rw [zU];exact hn);have hnx0:=Sm.yU f t0 nx (sts Z);rw [zU] at hnx0;clear HB hp hZ hr hif hx0 hp0 hxe;generalize hr0:bld f t0 nx (sts Z)=r0 at *;have hl1:xs.length<=ts.length+1:=by omega
 have hl2:ts.length+1<=xs.length:=by omega
 rw [hlen] at hpc ⊢;clear hlen;by_cases hpc1:pc=1
 ·subst hpc1;obtain rfl:ts=[]:=qg (by omega);go_enter func117,ntmps117;go_wp2_with (go_at_call 67;refine (zb HC0).mono ?_;rintro e w1 ⟨Y1,rfl,hs1,hT1⟩;have HT1:=zc hT1;have HS1:=zc hs1;clear hT1 hs1);go_loopw [7,19] (fun vb vj wr=>vb = .int .i64 (r0.1:Nat)/\vj = .int .i64 0/\Hid (xx w wr bb Y1)) (fun _ _ _=>0)
  case atStart=>exact ⟨rfl,rfl,HT1⟩
  case round=>
   obtain ⟨rfl,rfl,HT⟩:=hrel;go_wp2_with fail;go_ret;exact ⟨Y1,rfl,zb HS1,zb HT⟩
 ·have hpc2:1<pc:=by omega
  go_enter func117,ntmps117;go_wp2_with (go_at_call 67;refine (zb HC0).mono ?_;rintro e w1 ⟨Y1,rfl,hs1,hT1⟩;have HT1:=zc hT1;have HS1:=zc hs1;clear hT1 hs1);go_loopw [7,19] (fun vb vj wr=>∃ (b j:Nat) (Y:List (Stp×Value)),vb = .int .i64 (b:Nat)/\vj = .int .i64 (j:Nat)/\j<=ts.length/\nx<Y.length/\Hid (xx w wr bb Y)/\Hid (yM (bld f) nx ts r0.1 r0.2=yM (bld f) nx (ts.drop j) b (sts Y))) (fun _ vj _=>ts.length-(intOf vj).toNat)
  case atStart=>exact ⟨r0.1,0,Y1,rfl,rfl,by omega,(by rw [<-zU,zb HS1];omega),HT1,(by rw [zb HS1];rfl)⟩
  case round=>
   clear HT1 HS1;obtain ⟨b,j,Y,rfl,rfl,hj,hnY,HT,HF⟩:=hrel;by_cases hlt:j<ts.length
   ·obtain ⟨x,hx⟩:∃ x,xs[j+1]?=some x:=⟨_,zD (show j+1<xs.length by omega)⟩
    have ht:(t0 :: ts)[j+1]?=some ts[j]:=(by simp [hlt]);have c1:=((zb HT).only.cell (p:=⟨g,j+1,none⟩) hgw (by show ¬bb<=g;omega)).trans (zb HC _ _ hx);rw [Nat.add_comm j 1] at c1;have hpk:=(zb HP (j+1) _ _ hx ht).keep (zb HT).only;obtain ⟨T,y,hxe⟩:=zb HI x (xP hx);subst hxe;have HF2:Hid (yM (bld f) nx ts r0.1 r0.2=yM (bld f) nx (ts.drop (j+1)) (bld f ts[j] nx (sts Y)).2.length ((bld f ts[j] nx (sts Y)).2++[Sm.zx b (bld f ts[j] nx (sts Y)).1])):=by
     rw [zb HF,YK hlt];rfl
    have hbig:(bld f ts[j] nx (sts Y)).2.length+1<=1000:=by
     rw [zb HF2] at hl;have:=Sm.jX (Sm.yU f) (nx:=nx) (ts.drop (j+1)) (bld f ts[j] nx (sts Y)).2.length ((bld f ts[j] nx (sts Y)).2++[Sm.zx b (bld f ts[j] nx (sts Y)).1]);simp only [yS,jq] at this;omega
    have had:=Sm.yU f ts[j] nx (sts Y);rw [zU] at had;have HCa:=zc (zb hB (.iface T y) _ nx Y wr hpk (zb HT).at' hnY (by omega));clear hx ht hpk;generalize hr:bld f ts[j] nx (sts Y)=r at *;go_wp2_with (go_at_call 67;refine (zb HCa).mono ?_;rintro e w1 ⟨Y2,rfl,hs2,hT2⟩;have HT2:=zc ((zb HT).trans hT2);have HS2:=zc hs2;clear hT2 hs2);have hY2:Y2.length=r.2.length:=(by rw [<-zU,zb HS2]);refine (kV bb Y2 (Sm.zx b r.1) w1 (zb HT2).at' (by simp [Sm.zx]) (by omega)).mono ?_;rintro e w3 ⟨Y3,rfl,hs3,hT3⟩;have HT3:=zc ((zb HT2).trans hT3);have HS3:=zc hs3;clear hT3 hs3;go_wp2_with fail;have hY3:Y3.length=Y2.length+1:=(by rw [<-zU,zb HS3];simp [zU]);exact ⟨⟨r.2.length,j+1,Y3,rfl,by go_num,by omega,by omega,zb HT3,(by rw [zb HF2,zb HS3,zb HS2];rfl)⟩,by simp [intOf];omega⟩
   ·have HE:Hid (yM (bld f) nx ts r0.1 r0.2=(b,sts Y)):=(by rw [zb HF,List.drop_eq_nil_of_le (by omega)];rfl);go_wp2_with fail;go_ret;exact ⟨Y,by rw [zb HE];rfl,by rw [zb HE],zb HT⟩
theorem XV:∀ (Z:List (Stp×Value)) (k:Nat) (s:Stp) (x:Value),Z[k]?=some (s,x)->(yt Z)[k*5+3]?=some (.int .i64 (s.next:Nat))
 | [],k,s,x,h=>by simp at h
 |z :: Z,0,s,x,h=>by simp at h;subst h;simp [yt]
 |z :: Z,k+1,s,x,h=>by
  have:=XV Z k s x (by simpa using h);rw [show (k+1)*5+3=(k*5+3)+5 by omega];simpa [yt] using this
theorem Y7:∀ (Z:List (Stp×Value)) (k:Nat) (s:Stp) (x:Value) (q:Nat),Z[k]?=some (s,x)->(yt Z).set (k*5+3) (.int .i64 (q:Nat))=yt (Z.set k ({ s with next:=q },x))
 | [],k,s,x,q,h=>by simp at h
 |z :: Z,0,s,x,q,h=>by simp at h;subst h;simp [yt]
 |z :: Z,k+1,s,x,q,h=>by
  have:=Y7 Z k s x q (by simpa using h);rw [show (k+1)*5+3=(k*5+3)+5 by omega];simp [yt] at this ⊢;exact this
theorem qi.setNext {w:World}{bb:Nat}{Z:List (Stp×Value)}(h:qi w bb Z)(k:Nat)(s:Stp)(x:Value)(hk:Z[k]?=some (s,x))(q:Nat):∃ g cap,w.cell? ⟨bb,0,none⟩=some (.slice (some ⟨g,0,none⟩) Z.length cap)/\Z.length<=cap/\w.cell? ⟨g,k*5+3,none⟩=some (.int .i64 (s.next:Nat))/\w.frozen? ⟨g,k*5+3,none⟩=false/\xx w (w.setCell ⟨g,k*5+3,none⟩ (.int .i64 (q:Nat))) bb (Z.set k ({ s with next:=q },x)):=by
 obtain ⟨sv,h1,h2,h3⟩:=h.ex;have hkl:k<Z.length:=(yd.1 hk).1;rcases h2.2 with ⟨rfl,e⟩ |⟨g,cap,cur,rfl,hb,hg,hn,hcm,hcs,htake⟩
 ·omega
 ·have hc:=@World.ownsRow.cells w (bb+1) 164 5 _ Z.length (yt Z) h2 g rfl _ _ (XV Z k s x hk);have e0:∀ q,(⟨g,0,none⟩:Addr).add q=⟨g,q,none⟩:=fun q=>by unfold Addr.add;split<;>simp_all
  rw [e0] at hc;have o:ze (fun j=>j=g) w (w.setCell ⟨g,k*5+3,none⟩ (.int .i64 (q:Nat))):=(ze.refl (fun j=>j=g) w).setCell (p:=⟨g,k*5+3,none⟩) (.inl rfl) _;refine ⟨g,cap,h1,hn,hc,by simp [World.frozen?,hg],⟨⟨⟨_,(o.cell (p:=⟨bb,0,none⟩) h.lt (by show ¬bb=g;omega)).trans h1,?_,fun z hz=>?_⟩,(o.frozen (p:=⟨bb,0,none⟩) h.lt (by show ¬bb=g;omega)).trans h.fr⟩,o.mono (fun j _ hj=>by omega),o.mono (fun j _ hj=>by subst hj;exact .inr ⟨_,h1,rfl⟩),fun j hj=>?_⟩⟩
  ·have:=Xb (i:=k*5+3) h2 (.int .i64 (q:Nat));rw [Y7 Z k s x q hk] at this;rw [ve];exact this
  ·have key:yQ w (fun g'=>bb<g'/\(Value.slice (some ⟨g,0,none⟩) Z.length cap).ownBlock≠some g') (.agg #[z.2]) (Prg.setP z.1):=by
    rcases X9 hz with hz |rfl
    ·exact h3 z hz
    ·exact h3 (s,x) (xP hk)
   exact key.keep o (fun g' hg' e=>hg'.2 (by rw [e];rfl))
  ·rcases hj with rfl |⟨sv,e1,e2⟩
   ·exact .inl (.inl rfl)
   ·exact .inl (.inr ⟨sv,(o.cell (p:=⟨bb,0,none⟩) h.lt (by show ¬bb=g;omega)).symm.trans e1,e2⟩)
theorem loop_any (HB:BOK f bb)(T:TypeId)(y:Value)(l m:Int)(t:Tree)(nx:Nat)(Z:List (Stp×Value))(w:World)(hp:vJ f w bb (.iface T y) t)(h0:0<=l)(h1:l<=100)(hZ:qi w bb Z)(_hn:nx<Z.length)(r:Nat×List Stp)(hr:(if l=0 then (Z.length,(xm (bld f) t nx (sts Z)).2) else yr (bld f) t (l-1).toNat (xm (bld f) t nx (sts Z)).1 (xm (bld f) t nx (sts Z)).2)=r)(hl:r.2.length<=1000) :
  Calls prog 160 #[.pointer (some ⟨bb,0,none⟩),.agg #[.iface T y,.int .i64 l,.int .i64 m],.int .i64 (nx:Nat)] w (vo w bb r):=by
 have hbody:(xm (bld f) t nx (sts Z)).2.length<=1000:=by
  rw [<-hr] at hl;split at hl
  ·exact hl
  ·exact yZ (Sm.qX (Sm.yU f) _ _ _) hl
 have hold:=Sm.zaR f t (sts Z).length (sts Z++[Sm.zx 0 nx]) (sts Z).length (by simp);have hadd:=Sm.yU f t (sts Z).length (sts Z++[Sm.zx 0 nx]);have hsta:=Sm.qt f t (sts Z).length (sts Z++[Sm.zx 0 nx]) (by simp);simp only [xm,ve] at hbody;have hr':=hr;simp only [xm] at hr';clear hr;rw [zU] at hold hadd hsta hbody hr';generalize hq:bld f t Z.length (sts Z++[Sm.zx 0 nx])=q at *;have hB:=zc HB;have HP:=zc hp;have HZ:=zc hZ;have HR:=zc hr';have HQ:=zc hq;clear HB hp hZ hr' hq;have HOA:Hid (Q8 w (w.alloc (.cells #[.iface T y,.int .i64 l,.int .i64 m] 256))):=(ze.refl _ _).alloc _;have b0:(w.alloc (.cells #[.iface T y,.int .i64 l,.int .i64 m] 256)).cell? ⟨w.heap.size,0,none⟩=some (.iface T y):=zm w _ rfl _ _ 0 _ rfl;have b1:(w.alloc (.cells #[.iface T y,.int .i64 l,.int .i64 m] 256)).cell? ⟨w.heap.size,1,none⟩=some (.int .i64 l):=zm w _ rfl _ _ 1 _ rfl;go_enter func160,ntmps160;have hbw:=(zb HZ).lt;have HTA:=zc (xx.young (zb HZ) (zb HOA));have HPA:=zc ((zb HP).keep (zb HTA).only);have hnA:¬jP (w.alloc (.cells #[.iface T y,.int .i64 l,.int .i64 m] 256)) bb w.heap.size:=fun h=>by
  rcases (zb HTA).own.size,h with ⟨_,h1 |⟨sv,h1,h2⟩⟩
  ·omega
  ·have:=jP.lt (zb HZ) (k:=w.heap.size) (.inr ⟨sv,((zb HOA).cell (p:=⟨bb,0,none⟩) hbw (fun f=>f)).symm.trans h1,h2⟩);omega
 have hsA:(w.alloc (.cells #[.iface T y,.int .i64 l,.int .i64 m] 256)).heap.size=w.heap.size+1:=by simp
 go_wp2_with fail;generalize w.alloc (.cells #[.iface T y,.int .i64 l,.int .i64 m] 256)=wA at *;refine (kV bb Z (Sm.zx 0 nx) wA (zb HTA).at' (by simp [Sm.zx]) (by simp only [yS,jq,zU] at hadd;omega)).mono ?_;rintro e w1 ⟨Y1,rfl,hs1,hT1⟩;have c0:=(hT1.cell (p:=⟨w.heap.size,0,none⟩) (by show _<_;simp only;omega) hnA).trans b0;have c1:=(hT1.cell (p:=⟨w.heap.size,1,none⟩) (by show _<_;simp only;omega) hnA).trans b1;have hn1:¬jP w1 bb w.heap.size:=fun h=>by
  rcases hT1.sep _ h with h |h
  ·exact hnA h
  ·omega
 have hz1:=hT1.own.size;have HT1:=zc hT1;have hlY1:Y1.length=Z.length+1:=by rw [<-zU,hs1];simp [zU]
 have HCb:=zb hB (.iface T y) t Z.length Y1 w1 ((zb HPA).keep hT1.only) hT1.at' (by omega) (by rw [hs1,zb HQ];exact hbody);rw [hs1,zb HQ] at HCb;have HCb:=zc HCb;clear hT1 b0 b1 hs1;go_wp2_with fail;refine (zb HCb).mono ?_;rintro e w2 ⟨Y2,rfl,hs2,hT2⟩;have d0:=(hT2.cell (p:=⟨w.heap.size,0,none⟩) (by show _<_;simp only;omega) hn1).trans c0;have d1:=(hT2.cell (p:=⟨w.heap.size,1,none⟩) (by show _<_;simp only;omega) hn1).trans c1;have hn2:¬jP w2 bb w.heap.size:=fun h=>by
  rcases hT2.sep _ h with h |h
  ·exact hn1 h
  ·omega
 have hz2:=hT2.own.size;obtain ⟨x,hx⟩:∃ x,Y2[Z.length]?=some (Sm.zx 0 nx,x):=by
  rw [jj (by rw [zU];exact z8 _),zU,Xg] at hold;have hq2:(sts Y2)[Z.length]?=some (Sm.zx 0 nx):=by rw [hs2,hold];rfl
  simp only [sts,ky] at hq2;cases hY:Y2[Z.length]? with
  |none=>rw [hY] at hq2;cases hq2
  |some p=>
   rw [hY] at hq2;simp at hq2;exact ⟨p.2,by rw [<-hq2]⟩
 obtain ⟨g,cap,k1,k2,k3,k4,hT3⟩:=hT2.at'.setNext Z.length _ x hx q.1;have HT12:=zc (((zb HTA).trans (zb HT1)).trans (hT2.trans hT3));have hlY2:Z.length<Y2.length:=(yd.1 hx).1;have HS3:Hid (sts (Y2.set Z.length ({ Sm.zx 0 nx with next:=q.1 },x))=q.2.set Z.length (Sm.zx q.1 nx)):=by
  show sts _=_;rw [<-hs2];simp only [sts,List.map_set];rfl
 have hY2l:Y2.length<=1000:=by rw [<-zU,hs2];omega
 clear hx;have hgne:g≠w.heap.size:=fun e=>hn2 (.inr ⟨_,k1,by rw [e];rfl⟩);have e0:(w2.setCell ⟨g,Z.length*5+3,none⟩ (.int .i64 (q.1:Nat))).cell? ⟨w.heap.size,0,none⟩=some (.iface T y):=(zF _ _ _ _ (by simp)).trans d0;have e1:(w2.setCell ⟨g,Z.length*5+3,none⟩ (.int .i64 (q.1:Nat))).cell? ⟨w.heap.size,1,none⟩=some (.int .i64 l):=(zF _ _ _ _ (by simp)).trans d1;by_cases hl0:l=0
 ·have HR2:Hid ((Z.length,q.2.set Z.length (Sm.zx q.1 nx))=r):=by have:=zb HR;rw [if_pos hl0] at this;exact this
  clear HR;subst hl0;go_wp2_with fail;go_ret;exact ⟨_,by rw [<-zb HR2];rfl,by rw [zb HS3,<-zb HR2],zb HT12⟩
 ·have hR:=zb HR;rw [if_neg hl0] at hR;have hld:(l == 0)=false:=by simpa using hl0
  have hlen3:(Y2.set Z.length ({ Sm.zx 0 nx with next:=q.1 },x)).length=Y2.length:=ve;have hq2l:Y2.length=q.2.length:=by rw [<-zU,hs2]
  have HCt:=QW f bb (zb hB) (.iface T y) t (l-1).toNat q.1 _ _ ((zb HP).keep (zb HT12).only) ⟨_,_,rfl⟩ (zb HT12).at' (by rw [hlen3,hq2l];exact hsta) (by omega) (by rw [zb HS3,hR];exact hl);rw [zb HS3,hR,show (((l-1).toNat:Nat):Int)=l-1 by omega] at HCt;have HCt:=zc HCt;clear hR;go_wp2_with (go_at_call 161;refine (zb HCt).mono ?_;rintro e w4 ⟨Y4,rfl,hs4,hT4⟩;have HT4:=zc ((zb HT12).trans hT4);have HS4:=zc hs4;clear hT4 hs4);go_ret;exact ⟨Y4,rfl,zb HS4,zb HT4⟩
theorem bld_rep (t:Tree)(l m:Int)(nx:Nat)(S:List Stp):bld (f+1) (Pro.tRep t l m) nx S=if m = -1 then (if l=0 then (S.length,(xm (bld f) t nx S).2) else yr (bld f) t (l-1).toNat (xm (bld f) t nx S).1 (xm (bld f) t nx S).2) else yr (bld f) t l.toNat (bOpt (bld f) t nx (m-l).toNat nx S).1 (bOpt (bld f) t nx (m-l).toNat nx S).2:=by
 unfold bld;rw [if_neg (by simp [Pro.tRep]),if_neg (by simp [Pro.tRep]),if_neg (by simp [Pro.tRep]),if_pos (by rfl)];rfl
theorem Ws (HB:BOK f bb)(T:TypeId)(y:Value)(l m:Int)(t:Tree)(nx:Nat)(Z:List (Stp×Value))(w:World)(hp:vJ f w bb (.iface T y) t)(h0:0<=l)(h1:l<=100)(h2:-1<=m)(h3:m<=100)(h4:m = -1\/l<=m)(hZ:qi w bb Z)(hn:nx<Z.length)(r:Nat×List Stp)(hr:bld (f+1) (Pro.tRep t l m) nx (sts Z)=r)(hl:r.2.length<=1000) :
  Calls prog 119 #[.pointer (some ⟨bb,0,none⟩),.agg #[.iface T y,.int .i64 l,.int .i64 m],.int .i64 (nx:Nat)] w (vo w bb r):=by
 have hB:=zc HB;have HP:=zc hp;have HZ:=zc hZ;clear HB hp hZ;have HOA:Hid (Q8 w (w.alloc (.cells #[.iface T y,.int .i64 l,.int .i64 m] 256))):=(ze.refl _ _).alloc _;have b0:(w.alloc (.cells #[.iface T y,.int .i64 l,.int .i64 m] 256)).cell? ⟨w.heap.size,0,none⟩=some (.iface T y):=zm w _ rfl _ _ 0 _ rfl;have b1:(w.alloc (.cells #[.iface T y,.int .i64 l,.int .i64 m] 256)).cell? ⟨w.heap.size,1,none⟩=some (.int .i64 l):=zm w _ rfl _ _ 1 _ rfl;have b2:(w.alloc (.cells #[.iface T y,.int .i64 l,.int .i64 m] 256)).cell? ⟨w.heap.size,2,none⟩=some (.int .i64 m):=zm w _ rfl _ _ 2 _ rfl;have hbw:=(zb HZ).lt;have HTA:=zc (xx.young (zb HZ) (zb HOA));have HPA:=zc ((zb HP).keep (zb HTA).only);have hnA:¬jP (w.alloc (.cells #[.iface T y,.int .i64 l,.int .i64 m] 256)) bb w.heap.size:=fun h=>by
  rcases h with h1 |⟨sv,h1,h2⟩
  ·omega
  ·have:=jP.lt (zb HZ) (k:=w.heap.size) (.inr ⟨sv,((zb HOA).cell (p:=⟨bb,0,none⟩) hbw (fun f=>f)).symm.trans h1,h2⟩);omega
 have hsA:(w.alloc (.cells #[.iface T y,.int .i64 l,.int .i64 m] 256)).heap.size=w.heap.size+1:=by simp
 rw [bld_rep] at hr;by_cases hm:m = -1
 ·subst hm;rw [if_pos rfl,zU] at hr;have HCl:=zc (loop_any f bb (zb hB) T y l (-1) t nx Z _ (zb HPA) h0 h1 (zb HTA).at' hn r hr hl);go_enter func119,ntmps119;go_wp2_with (go_at_call 160;refine (zb HCl).mono ?_;rintro e w4 ⟨Y4,rfl,hs4,hT4⟩;have HT4:=zc ((zb HTA).trans hT4);have HS4:=zc hs4;clear hT4 hs4);go_ret;exact ⟨Y4,rfl,zb HS4,zb HT4⟩
 ·rw [if_neg hm] at hr;have hmd:(m == -1)=false:=by simpa using hm
  go_enter func119,ntmps119;go_wp2_with fail;generalize w.alloc (.cells #[.iface T y,.int .i64 l,.int .i64 m] 256)=wA at *;obtain ⟨K,hK⟩:∃ K:Nat,(K:Int)=m-l:=⟨(m-l).toNat,by omega⟩
  have hK2:(m-l).toNat=K:=by omega
  rw [hK2] at hr;have hbo:(bOpt (bld f) t nx K nx (sts Z)).2.length<=1000:=by rw [<-hr] at hl;exact yZ (Sm.qX (Sm.yU f) _ _ _) hl
  have hso:=Sm.kH (Sm.yU f) (Sm.qt f) (t:=t) (nx:=nx) K nx (sts Z) (by rw [zU];exact hn);rw [<-hK];have HR:=zc hr;have hK3:K<=201:=by omega
  clear hr hK2 hK;go_loopw [7,21] (fun vb vj wr=>∃ (b j:Nat) (Y:List (Stp×Value)),vb = .int .i64 (b:Nat)/\vj = .int .i64 (j:Nat)/\j<=K/\b<Y.length/\nx<Y.length/\Hid (xx wA wr bb Y)/\wr.cell? ⟨w.heap.size,0,none⟩=some (.iface T y)/\wr.cell? ⟨w.heap.size,1,none⟩=some (.int .i64 l)/\Hid (¬jP wr bb w.heap.size)/\Hid (bOpt (bld f) t nx K nx (sts Z)=bOpt (bld f) t nx (K-j) b (sts Y))) (fun _ vj _=>K-(intOf vj).toNat)
  case atStart=>exact ⟨nx,0,Z,rfl,rfl,by omega,hn,hn,xx.refl (zb HTA).at',b0,b1,hnA,rfl⟩
  case round=>
   obtain ⟨b,j,Y,rfl,rfl,hj,hbY,hnY,HT,c0,c1,Hn,HF⟩:=hrel;have hzT:=(zb HT).own.size;by_cases hlt:j<K
   ·obtain ⟨k,hk⟩:∃ k,K-j=k+1:=⟨K-j-1,by omega⟩
    have HF2:Hid (bOpt (bld f) t nx K nx (sts Z)=bOpt (bld f) t nx k (bld f t b (sts Y)).2.length ((bld f t b (sts Y)).2++[Sm.zx (bld f t b (sts Y)).1 nx])):=(by rw [zb HF,hk];rfl);have hbig:(bld f t b (sts Y)).2.length+1<=1000:=by
     rw [zb HF2] at hbo;have:=Sm.wZ (Sm.yU f) (t:=t) (nx:=nx) k (bld f t b (sts Y)).2.length ((bld f t b (sts Y)).2++[Sm.zx (bld f t b (sts Y)).1 nx]);simp only [yS,jq] at this;omega
    have had:=Sm.yU f t b (sts Y);rw [zU] at had;have HCa:=zc (zb hB (.iface T y) _ b Y wr ((zb HPA).keep (zb HT).only) (zb HT).at' hbY (by omega));generalize hq:bld f t b (sts Y)=q at *;go_wp2_with (go_at_call 67;refine (zb HCa).mono ?_;rintro e w1 ⟨Y2,rfl,hs2,hT2⟩;have HT2:=zc hT2;have HS2:=zc hs2;clear hT2 hs2);have hY2:Y2.length=q.2.length:=(by rw [<-zU,zb HS2]);have d0:=((zb HT2).cell (p:=⟨w.heap.size,0,none⟩) (by show _<_;simp only;omega) (zb Hn)).trans c0;have d1:=((zb HT2).cell (p:=⟨w.heap.size,1,none⟩) (by show _<_;simp only;omega) (zb Hn)).trans c1;have hz2:=(zb HT2).own.size;have hn2:¬jP w1 bb w.heap.size:=fun h=>by
     rcases (zb HT2).sep _ h with h |h
     ·exact zb Hn h
     ·omega
    refine (kV bb Y2 (Sm.zx q.1 nx) w1 (zb HT2).at' (by simp [Sm.zx]) (by omega)).mono ?_;rintro e w3 ⟨Y3,rfl,hs3,hT3⟩;have f0:=(hT3.cell (p:=⟨w.heap.size,0,none⟩) (by show _<_;simp only;omega) hn2).trans d0;have f1:=(hT3.cell (p:=⟨w.heap.size,1,none⟩) (by show _<_;simp only;omega) hn2).trans d1;have hn3:¬jP w3 bb w.heap.size:=fun h=>by
     rcases hT3.sep _ h with h |h
     ·exact hn2 h
     ·omega
    have HN3:=zc hn3;have HT3:=zc (((zb HT).trans (zb HT2)).trans hT3);have HS3:=zc hs3;clear hT3 hs3 d0 d1 c0 c1 hn2 hn3;go_wp2_with fail;have hY3:Y3.length=Y2.length+1:=(by rw [<-zU,zb HS3];simp [zU]);exact ⟨⟨q.2.length,j+1,Y3,rfl,by go_num,by omega,by omega,by omega,zb HT3,f0,f1,zb HN3,(by rw [zb HF2,zb HS3,zb HS2,show K-(j+1)=k by omega];rfl)⟩,by simp [intOf];omega⟩
   ·have HE:Hid (bOpt (bld f) t nx K nx (sts Z)=(b,sts Y)):=(by rw [zb HF,show K-j=0 by omega];rfl);have hR:=zb HR;rw [zb HE] at hR;have HCt:=QW f bb (zb hB) (.iface T y) t l.toNat b Y wr ((zb HPA).keep (zb HT).only) ⟨_,_,rfl⟩ (zb HT).at' hbY (by omega) (by rw [hR];exact hl);rw [hR,show ((l.toNat:Nat):Int)=l by omega] at HCt;have HCt:=zc HCt;clear hR;go_wp2_with (go_at_call 161;refine (zb HCt).mono ?_;rintro e w4 ⟨Y4,rfl,hs4,hT4⟩;have HT4:=zc ((zb HTA).trans ((zb HT).trans hT4));have HS4:=zc hs4;clear hT4 hs4);go_ret;exact ⟨Y4,rfl,zb HS4,zb HT4⟩
theorem Tryz.bs15:(Instr.typeAssert (.iface 246 v) 99 243 true).run prog w = .ok (.tuple #[.slice none 0 0,.bool false]) w:=by kernel_rfl
theorem Tryz.bs16:(Instr.typeAssert (.iface 246 v) 99 254 true).run prog w = .ok (.tuple #[.slice none 0 0,.bool false]) w:=by kernel_rfl
theorem Tryz.bs17:(Instr.typeAssert (.iface 246 v) 99 256 true).run prog w = .ok (.tuple #[.agg #[.nilIface,.int .i64 0,.int .i64 0],.bool false]) w:=by kernel_rfl
theorem Tryz.bs25:(Instr.typeAssert (.iface 247 v) 99 243 true).run prog w = .ok (.tuple #[.slice none 0 0,.bool false]) w:=by kernel_rfl
theorem Tryz.bs26:(Instr.typeAssert (.iface 247 v) 99 254 true).run prog w = .ok (.tuple #[.slice none 0 0,.bool false]) w:=by kernel_rfl
theorem Tryz.bs27:(Instr.typeAssert (.iface 247 v) 99 256 true).run prog w = .ok (.tuple #[.agg #[.nilIface,.int .i64 0,.int .i64 0],.bool false]) w:=by kernel_rfl
theorem Tryz.bs35:(Instr.typeAssert (.iface 248 v) 99 243 true).run prog w = .ok (.tuple #[.slice none 0 0,.bool false]) w:=by kernel_rfl
theorem Tryz.bs36:(Instr.typeAssert (.iface 248 v) 99 254 true).run prog w = .ok (.tuple #[.slice none 0 0,.bool false]) w:=by kernel_rfl
theorem Tryz.bs37:(Instr.typeAssert (.iface 248 v) 99 256 true).run prog w = .ok (.tuple #[.agg #[.nilIface,.int .i64 0,.int .i64 0],.bool false]) w:=by kernel_rfl
theorem Tryz.bs45:(Instr.typeAssert (.iface 252 v) 99 243 true).run prog w = .ok (.tuple #[.slice none 0 0,.bool false]) w:=by kernel_rfl
theorem Tryz.bs46:(Instr.typeAssert (.iface 252 v) 99 254 true).run prog w = .ok (.tuple #[.slice none 0 0,.bool false]) w:=by kernel_rfl
theorem Tryz.bs47:(Instr.typeAssert (.iface 252 v) 99 256 true).run prog w = .ok (.tuple #[.agg #[.nilIface,.int .i64 0,.int .i64 0],.bool false]) w:=by kernel_rfl
theorem zA.iface:∀ {f:Nat} {w:World} {A:Nat->Prop} {v:Value} {t:Tree},zA f w A v t->∃ T y,v = .iface T y
 |0,_,_,_,_,h=>h.elim
 |f+1,w,A,v,t,h=>by
  rcases h with h |⟨sv,xs,ts,_,h,_⟩ |⟨sv,xs,ts,_,h,_⟩ |⟨p,l,m,t',_,h,_⟩
  ·rcases h with ⟨c,_,h⟩ |⟨_,h⟩ |⟨c,_,h⟩ |⟨c,_,h⟩ |⟨neg,R,S,v1,v2,_,h,_⟩<;>exact ⟨_,_,h⟩
  ·exact ⟨_,_,h⟩
  ·exact ⟨_,_,h⟩
  ·exact ⟨_,_,h⟩
theorem zap {a:Int}(h:Pro.setB a=true):okSh a:=by
 simp [Pro.setB] at h;unfold okSh;omega
theorem zbz {f:Nat}{t:Tree}(h:Pro.jg (f+1) t)(k:Pro.jh (f+1) t):LeafOK t:=by
 refine ⟨fun c e=>?_,fun neg R S e=>?_⟩
 ·subst e;exact zap (h.2.1 rfl)
 ·subst e;exact ⟨fun a ha=>zap ((h.2.2.1 rfl).2 a ha),k.1 rfl⟩
theorem bld_asr (c:Int)(nx:Nat)(S:List Stp):bld (f+1) (Pro.tAsr c) nx S=(S.length,S++[Sm.tester c nx]):=by
 unfold bld;rw [if_pos (by rfl)];rfl
theorem bld_leaf (t:Tree)(h1:t.kind≠0)(h2:t.kind<5)(nx:Nat)(S:List Stp):bld (f+1) t nx S=(S.length,S++[Sm.taker t nx]):=by
 unfold bld;rw [if_neg h1,if_neg (by omega),if_neg (by omega),if_neg (by omega)]
theorem bld_alt (t:Tree)(ts:List Tree)(nx:Nat)(S:List Stp):bld (f+1) (Pro.tAlt (t :: ts)) nx S=yM (bld f) nx ts (bld f t nx S).1 (bld f t nx S).2:=by
 rw [bld.eq_def];simp [Pro.tAlt]
theorem bld_seq (ts:List Tree)(nx:Nat)(S:List Stp):bld (f+1) (Pro.tSeq ts) nx S=bSeq (bld f) ts.reverse nx S:=by
 rw [bld.eq_def];simp [Pro.tSeq]
theorem zbA (t:Tree)(nx:Nat)(c:Int):Prg.setP (Sm.taker t nx) c=Cs.qY t c:=by simp [Prg.setP,Sm.taker]
theorem zbB:∀ f,BOK f bb:=by
 intro f
 induction f with
 |zero=>intro v t nx Z w hp;exact hp.at'.elim
 |succ f ih=>
  intro v t nx Z w hp hZ hn hl;have IH:=zc ih;have hzl:Z.length<=1000:=by have:=Sm.yU (f+1) t nx (sts Z);rw [zU] at this;omega
  have HZ:=zc hZ;clear ih;have hq:=hp.at';rcases hq with h |⟨sv,xs,ts,rfl,rfl,hr,hxl,htl,hk,h0⟩ |⟨sv,xs,ts,rfl,rfl,hr,hxl,htl,hk⟩ |⟨p,l,m,t',rfl,rfl,hpt,h0,h1,h2,h3,h4⟩
  ·by_cases hasr:∃ c,t=Pro.tAsr c
   ·obtain ⟨c,rfl⟩:=hasr;obtain rfl:v = .iface 162 (.int .i64 c):=by
     rcases h with ⟨c',e,h⟩ |⟨e,h⟩ |⟨c',e,h⟩ |⟨c',e,h⟩ |⟨neg,R,S,v1,v2,e,h,_⟩
     ·simp [Pro.tAsr] at e;subst e;exact h
     all_goals simp [Pro.tAsr,Pro.tAny,Pro.qK,Pro.xV,Pro.tCls] at e
    rw [bld_asr] at hl ⊢;have a0:=Tryz.as00;have HC:=zc (kV bb Z (Sm.tester c nx) w (zb HZ) (by simp [Sm.tester]) hzl);clear hp hZ hl h;go_enter func67,ntmps67;go_wp2_with fail;clear a0;refine (zb HC).mono ?_;rintro e w1 ⟨Y,rfl,hs,hT⟩;have HT:=zc hT;have HS:=zc hs;clear hT hs;go_wp2_with fail;go_ret;exact ⟨Y,by rw [zU];rfl,zb HS,zb HT⟩
   ·have hne:∀ c,t≠Pro.tAsr c:=fun c e=>hasr ⟨c,e⟩;have hM:=fun w1 (o:Q8 w w1)=>K2 v t (fun g=>g<bb) w1 (h.keep o (fun _ _ f=>f)) hne (zbz hp.sh hp.ln);have HM:=zc hM;have hkind:t.kind≠0/\t.kind<5:=by
     rcases h with ⟨c',e,h⟩ |⟨e,h⟩ |⟨c',e,h⟩ |⟨c',e,h⟩ |⟨neg,R,S,v1,v2,e,h,_⟩
     ·exact absurd e (hne c')
     all_goals subst e;exact ⟨by simp [Pro.tAny,Pro.qK,Pro.xV,Pro.tCls],by simp [Pro.tAny,Pro.qK,Pro.xV,Pro.tCls]⟩
    rw [bld_leaf f t hkind.1 hkind.2] at hl ⊢;have HA:Hid (∀ (x:Value) (w1 w2:World),qi w1 bb Z->z7 w1 w2 (.agg #[x]) (Cs.qY t)->Calls prog 66 #[.pointer (some ⟨bb,0,none⟩),.agg #[.int .i64 1,x,.int .i64 0,.int .i64 (nx:Nat),.int .i64 0]] w2 (vo w2 bb (Z.length,sts Z++[Sm.taker t nx]))):=fun x w1 w2 hb hN=>
     (zao bb Z (Sm.taker t nx) x w1.heap.size w2 (hb.young hN.2) (hN.1.congr (fun c=>(zbA t nx c).symm)) (fun sv hsv=>hb.own_lt sv ((hN.2.cell (p:=⟨bb,0,none⟩) hb.lt (fun f=>f)).symm.trans hsv)) hb.lt hzl).mono (fun e w' ⟨h1,h2⟩=>⟨_,h1,by simp [sts],h2⟩)
    have hcs:=h;clear hM hp hZ hl h hasr hne;rcases hcs with ⟨c',e,h⟩ |⟨e,h⟩ |⟨c',e,h⟩ |⟨c',e,h⟩ |⟨neg,R,S,v1,v2,e,h,g1,g2⟩
    ·subst e;exact absurd rfl hkind.1
    ·subst h;have a0:=Tryz.as10;have a5:=Tryz.bs15;have a6:=Tryz.bs16;have a7:=Tryz.bs17;go_enter func67,ntmps67;go_wp2_with fail;clear a0 a5 a6 a7;refine (zb HM _ (ze.refl _ _)).mono ?_;rintro e2 w1 ⟨v',rfl,hN⟩;obtain ⟨qa,qn,qc,rfl⟩:=hN.1.slice;have HN:=zc hN;clear hN;go_wp2_with fail;refine (zb HA _ w w1 (zb HZ) (zb HN)).mono ?_;rintro e2 w2 ⟨Y,rfl,hs,hT⟩;have HT:=zc ((xx.young (zb HZ) (zb HN).2).trans hT);have HS:=zc hs;clear hT hs;go_wp2_with fail;go_ret;exact ⟨Y,by rw [zU];rfl,zb HS,zb HT⟩
    ·subst h;have a0:=Tryz.as20;have a5:=Tryz.bs25;have a6:=Tryz.bs26;have a7:=Tryz.bs27;go_enter func67,ntmps67;go_wp2_with fail;clear a0 a5 a6 a7;refine (zb HM _ (ze.refl _ _)).mono ?_;rintro e2 w1 ⟨v',rfl,hN⟩;obtain ⟨qa,qn,qc,rfl⟩:=hN.1.slice;have HN:=zc hN;clear hN;go_wp2_with fail;refine (zb HA _ w w1 (zb HZ) (zb HN)).mono ?_;rintro e2 w2 ⟨Y,rfl,hs,hT⟩;have HT:=zc ((xx.young (zb HZ) (zb HN).2).trans hT);have HS:=zc hs;clear hT hs;go_wp2_with fail;go_ret;exact ⟨Y,by rw [zU];rfl,zb HS,zb HT⟩
    ·subst h;have a0:=Tryz.as30;have a5:=Tryz.bs35;have a6:=Tryz.bs36;have a7:=Tryz.bs37;go_enter func67,ntmps67;go_wp2_with fail;clear a0 a5 a6 a7;refine (zb HM _ (ze.refl _ _)).mono ?_;rintro e2 w1 ⟨v',rfl,hN⟩;obtain ⟨qa,qn,qc,rfl⟩:=hN.1.slice;have HN:=zc hN;clear hN;go_wp2_with fail;refine (zb HA _ w w1 (zb HZ) (zb HN)).mono ?_;rintro e2 w2 ⟨Y,rfl,hs,hT⟩;have HT:=zc ((xx.young (zb HZ) (zb HN).2).trans hT);have HS:=zc hs;clear hT hs;go_wp2_with fail;go_ret;exact ⟨Y,by rw [zU];rfl,zb HS,zb HT⟩
    ·subst h;obtain ⟨pa,pn,pc,rfl⟩:=g1.slice;obtain ⟨ua,un,uc,rfl⟩:=g2.slice;clear g1 g2;have a0:=Tryz.as40;have a5:=Tryz.bs45;have a6:=Tryz.bs46;have a7:=Tryz.bs47;go_enter func67,ntmps67;go_wp2_with fail;clear a0 a5 a6 a7;refine (zb HM _ (ze.refl _ _)).mono ?_;rintro e2 w1 ⟨v',rfl,hN⟩;obtain ⟨qa,qn,qc,rfl⟩:=hN.1.slice;have HN:=zc hN;clear hN;go_wp2_with fail;refine (zb HA _ w w1 (zb HZ) (zb HN)).mono ?_;rintro e2 w2 ⟨Y,rfl,hs,hT⟩;have HT:=zc ((xx.young (zb HZ) (zb HN).2).trans hT);have HS:=zc hs;clear hT hs;go_wp2_with fail;go_ret;exact ⟨Y,by rw [zU];rfl,zb HS,zb HT⟩
  ·obtain ⟨t0,ts',rfl⟩:∃ t0 ts',ts=t0 :: ts':=by
    cases ts with
    |nil=>simp at htl;omega
    |cons a b=>exact ⟨a,b,rfl⟩
   rw [bld_alt] at hl ⊢;have hcs:∃ pa pn pc,sv = .slice pa pn pc:=(by rcases hr with ⟨h,_⟩ |⟨g,cap,h,_⟩<;>exact ⟨_,_,_,h⟩);have HC:=zc (Wr f bb (zb IH) sv xs t0 ts' nx Z w hr hxl htl (fun j x t hx ht=>⟨hk j x t hx ht,hp.sh.2.2.2 t (xP ht),hp.ln.2 t (xP ht)⟩) (fun x hx=>by
    obtain ⟨j,hj⟩:=List.mem_iff_getElem?.1 hx;have hjl:j<(t0 :: ts').length:=(by rw [htl];exact (yd.1 hj).1);exact (hk j x _ hj (zD hjl)).iface) hZ hn hl)
   obtain ⟨pa,pn,pc,rfl⟩:=hcs;clear hp hZ hr hk hl;have a0:=Tryz.as50;have a5:=Tryz.as55;go_enter func67,ntmps67;go_wp2_with fail;clear a0 a5;refine (zb HC).mono ?_;rintro e w2 ⟨Y,rfl,hs,hT⟩;have HT:=zc hT;have HS:=zc hs;clear hT hs;go_wp2_with fail;go_ret;exact ⟨Y,rfl,zb HS,zb HT⟩
  ·rw [bld_seq] at hl ⊢;have hcs:∃ pa pn pc,sv = .slice pa pn pc:=(by rcases hr with ⟨h,_⟩ |⟨g,cap,h,_⟩<;>exact ⟨_,_,_,h⟩);have HC:=zc (JW f bb (zb IH) sv xs ts nx Z w hr hxl htl (fun j x t hx ht=>⟨hk j x t hx ht,hp.sh.2.2.2 t (xP ht),hp.ln.2 t (xP ht)⟩) (fun x hx=>by
    obtain ⟨j,hj⟩:=List.mem_iff_getElem?.1 hx;have hjl:j<ts.length:=(by rw [htl];exact (yd.1 hj).1);exact (hk j x _ hj (zD hjl)).iface) hZ hn hl)
   obtain ⟨pa,pn,pc,rfl⟩:=hcs;clear hp hZ hr hk hl;have a0:=Tryz.as60;have a5:=Tryz.as65;have a6:=Tryz.as66;go_enter func67,ntmps67;go_wp2_with fail;clear a0 a5 a6;refine (zb HC).mono ?_;rintro e w2 ⟨Y,rfl,hs,hT⟩;have HT:=zc hT;have HS:=zc hs;clear hT hs;go_wp2_with fail;go_ret;exact ⟨Y,rfl,zb HS,zb HT⟩
  ·obtain ⟨T,y,rfl⟩:=hpt.iface;have HC:=zc (fun w1 (hO:Q8 w w1)=>Ws f bb (zb IH) T y l m t' nx Z w1 ⟨zA.keep hO (fun _ _ f=>f) f _ _ hpt,hp.sh.2.2.2 t' (by simp [Pro.tRep]),hp.ln.2 t' (by simp [Pro.tRep])⟩ h0 h1 h2 h3 h4 ((zb HZ).young hO) hn _ rfl hl);generalize bld (f+1) (Pro.tRep t' l m) nx (sts Z)=r at *;clear hp hZ hpt;have a0:=Tryz.as70;have a5:=Tryz.as75;have a6:=Tryz.as76;have a7:=Tryz.as77;go_enter func67,ntmps67;go_wp2_with fail;clear a0 a5 a6 a7;have hO:Q8 w (w.alloc (.cells #[.iface T y,.int .i64 l,.int .i64 m] 256)):=(ze.refl _ _).alloc _;refine (zb HC _ hO).mono ?_;rintro e w2 ⟨Y,rfl,hs,hT⟩;have HT:=zc ((xx.young (zb HZ) hO).trans hT);have HS:=zc hs;clear hT hs hO;go_wp2_with fail;go_ret;exact ⟨Y,rfl,zb HS,zb HT⟩
end
end Go.Proofs.YtcgleficedipkaaGreatDoor
