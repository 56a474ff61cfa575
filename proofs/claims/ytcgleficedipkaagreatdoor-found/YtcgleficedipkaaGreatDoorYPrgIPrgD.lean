/- The shelf's contracts of slices, laid at this program. -/
import Derived.Test.YtcgleficedipkaaGreatDoorYSrtHSrtN
import Derived.Test.YtcgleficedipkaaGreatDoorYBldABldF
import Derived.Shelf.SlicesE.Compact
import Derived.Shelf.SlicesQ.IndexFunc
import Derived.Ground.SlgnProg
import Derived.Ground.SlgfProg
import Derived.Test.YtcgleficedipkaaGreatDoorYMatKMatO
namespace Go.Proofs.YtcgleficedipkaaGreatDoor
open _root_.Go.Proofs.Tryz
variable {w V:World}{pb g cap st:Nat}{v:Value}(W:World)(base sb rb gb n:Nat){rs:List Nat}{L:List (Int×Int)}
section
open Go.RowKit Go.Shelf Go.Lib Go.Sort
def Xv:Go.Shelf.Ren:=⟨fun |43=>125 |n=>n,fun |22=>166 |23=>21 |3=>3 |4=>4 |0=>0 |n=>n,fun |n=>n⟩
theorem Vw:Go.Proofs.SlLaysE.n43 prog Xv:={
 mixed:=by kernel_rfl
 f43:=⟨Tryz.f125.name,by decide,func125.trans (congrArg some (by kernel_rfl))⟩
 t0:=underlying0
 a0:=Tryz.isAgg0
 z0:=Tryz.sizeOf0
 v0:=Tryz.zeroValue0
 t3:=underlying3
 a3:=Tryz.isAgg3
 z3:=Tryz.sizeOf3
 v3:=Tryz.zeroValue3
 t4:=underlying4
 a4:=Tryz.isAgg4
 z4:=Tryz.sizeOf4
 v4:=Tryz.zeroValue4
 t22:=underlying166
 a22:=Tryz.isAgg166
 z22:=Tryz.sizeOf166
 v22:=Tryz.zeroValue166
 a23:=Tryz.isAgg21
 z23:=Tryz.sizeOf21 }
def YM:Go.Shelf.Ren:=⟨fun |8=>68 |6=>121 |n=>n,fun |22=>154 |23=>164 |25=>170 |4=>4 |3=>3 |0=>0 |n=>n,fun |n=>n⟩
theorem Kn:Go.Proofs.SlLaysH0.n8 prog YM:={
 mixed:=by kernel_rfl
 f6:=⟨Tryz.f121.name,by decide,func121.trans (congrArg some (by kernel_rfl))⟩
 f8:=⟨Tryz.f68.name,by decide,func68.trans (congrArg some (by kernel_rfl))⟩
 t0:=underlying0
 a0:=Tryz.isAgg0
 z0:=Tryz.sizeOf0
 v0:=Tryz.zeroValue0
 t3:=underlying3
 a3:=Tryz.isAgg3
 z3:=Tryz.sizeOf3
 v3:=Tryz.zeroValue3
 t4:=underlying4
 a4:=Tryz.isAgg4
 z4:=Tryz.sizeOf4
 v4:=Tryz.zeroValue4
 t22:=underlying154
 a22:=Tryz.isAgg154
 z22:=Tryz.sizeOf154
 v22:=Tryz.zeroValue154
 t25:=underlying170
 a25:=Tryz.isAgg170
 z25:=Tryz.sizeOf170
 v25:=Tryz.zeroValue170 }
theorem Vx {blk q:Nat}{d:Array Int}:ze (zt blk) w (putRow (Value.int .i32) (Sort.ahead w q) blk 0 d):=by
 refine ⟨rfl,rfl,rfl,by simp,fun k hk hn=>?_⟩;have hne:k≠blk:=hn;unfold putRow mapBlock Sort.ahead;simp only [XN,Ne.symm hne,if_false]
end
section
open Go.RowKit Go.Shelf
open Sm (Stp)
set_option maxHeartbeats 4000000
set_option maxRecDepth 1000000
attribute [local go_sem] Oper.semAt_some
theorem jV:∀ (Z:List (Stp×Value)) (j:Nat) (z:Stp×Value),Z[j]?=some z->(yt Z)[j*5]?=some (.int .i64 (z.1.kind:Nat))/\(yt Z)[j*5+1]?=some z.2/\(yt Z)[j*5+2]?=some (.int .i64 z.1.asr)/\(yt Z)[j*5+3]?=some (.int .i64 (z.1.next:Nat))/\(yt Z)[j*5+4]?=some (.int .i64 (z.1.other:Nat))
 | [],j,z,h=>by simp at h
 |x :: Z,0,z,h=>by simp at h;subst h;simp [yt]
 |x :: Z,j+1,z,h=>by
  have:=jV Z j z (by simpa using h);rw [show (j+1)*5=j*5+5 by omega];simpa [yt] using this
structure StpsAt (w:World)(pb g cap:Nat)(Z:List (Stp×Value))(wv:Value):Prop where
 c0:w.cell? ⟨pb,0,none⟩=some (.slice (some ⟨g,0,none⟩) Z.length cap)
 c2:w.cell? ⟨pb,2,none⟩=some wv
 le:Z.length<=cap
 row:∀ j u,(yt Z)[j]?=some u->w.cell? ⟨g,j,none⟩=some u
 gl:g<w.heap.size
abbrev Slc:=Option Addr×Nat×Nat
def slV (p:Slc):Value:=.slice p.1 p.2.1 p.2.2
def Qn (p:Slc):Array Value:=#[.agg #[slV p]]
theorem Vy (pb g cap kb:Nat)(Z:List (Stp×Value))(ws:Slc)(zs:List Slc)(w0:World)(h:StpsAt w0 pb g cap Z (slV ws))(hkb:w0.cell? ⟨kb,0,none⟩=some (.pointer (some ⟨pb,0,none⟩)))(hz:Z.map Prod.snd=zs.map slV)(hl:Z.length<=1000)(n:Nat)(hn1:1<=n) :
  SeqO Fence.wide n prog 126 #[.pointer (some ⟨kb,0,none⟩)] Qn (ws :: zs) (fun k=>k=kb\/k=pb\/k=g) w0:=by
 intro lp J O0 W hO hD hO0 hJ hY h0;have hkl:=zE w0 _ hkb;have hpl:=zE w0 _ h.c0;have hgl:=h.gl;have HK:Hid (qT (fun k=>k=kb\/k=pb\/k=g) w0 W O0):=qT.start (fun k hk=>by rcases hk with rfl |rfl |rfl;exact hkl;exact hpl;exact hgl) hO hD;have hk1:=((zb HK).cell (p:=⟨kb,0,none⟩) (.inl rfl)).trans hkb;have hk2:=((zb HK).cell (p:=⟨pb,2,none⟩) (.inr (.inl rfl))).trans h.c2;have HH:=zc h;have HJ:=zc hJ;have HY:=zc hY;have HZ:=zc hz;have hsW:=hO.size;have hzl:zs.length=Z.length:=by have:=congrArg List.length hz;simpa using this.symm
 obtain ⟨fn,tmps,assign,body,hy,hR⟩:=hY [] O0 ws W h0 (by simp);obtain ⟨wa,wn,wc⟩:=ws;simp only [Qn,slV] at hy hk2;clear h hJ hY h0 hD hO0 hz;refine callsIn_of_wp func126 rfl trivial ?_ rfl;simp only [ntmps126,jZ,qH,jU,Nat.reduceAdd,Nat.reduceSub,wO,wl,Z1,Zr,kB,jS]
 gi_wp2
 refine hR.mono ?_;rintro e W1 ⟨rfl,O1,hJ1,hs1,hO1,hlt1⟩;have HJ1:=zc hJ1;have HK1:=zc ((zb HK).yield hs1 hO1);have hm1:=((zb HK1).cell (p:=⟨kb,0,none⟩) (.inl rfl)).trans hkb;have hm2:=((zb HK1).cell (p:=⟨pb,0,none⟩) (.inr (.inl rfl))).trans (zb HH).c0;clear hJ1 hs1 hO1 hlt1 hk1 hk2 hy hR HK
 gi_wp2
 gi_loopw [17] (fun vi wr=>∃ (i:Nat) (O:Nat->Prop),vi = .int .i64 i/\i<=Z.length/\Hid (J (((wa,wn,wc):Slc) :: zs.take i) O wr)/\Hid (qT (fun k=>k=kb\/k=pb\/k=g) w0 wr O)) (fun vi _=>Z.length-(intOf vi).toNat)
 case atStart=>exact ⟨0,O1,rfl,by omega,HJ1,HK1⟩
 case round=>
  clear HK1 HJ1;obtain ⟨i,O,rfl,hi,HJ1,HK⟩:=hrel;by_cases hlt:i<Z.length
  ·have hget:Z[i]?=some Z[i]:=zD hlt;obtain ⟨f0,f1,f2,f3,f4⟩:=jV Z i _ hget;have kc:∀ q u,(yt Z)[q]?=some u->wr.cell? ⟨g,q,none⟩=some u:=fun q u hq=>((zb HK).cell (p:=⟨g,q,none⟩) (.inr (.inr rfl))).trans ((zb HH).row q u hq);have c0:=kc _ _ f0;have c1:=kc _ _ f1;have c2:=kc _ _ f2;have c3:=kc _ _ f3;have c4:=kc _ _ f4;obtain ⟨⟨xa,xn,xc⟩,hzi⟩:∃ q,zs[i]?=some q:=⟨_,zD (show i<zs.length by omega)⟩
   have hxe:Z[i].2 = .slice xa xn xc:=by
    have h1:(Z.map Prod.snd)[i]?=(zs.map slV)[i]?:=(by rw [zb HZ]);rw [ky,ky,hget,hzi] at h1;simpa [slV] using h1
   have hzg:zs[i]'(by omega)=(xa,xn,xc):=by
    obtain ⟨h1,h2⟩:=yd.1 hzi;exact h2
   have HP:Hid ((((wa,wn,wc):Slc) :: zs.take i++[(xa,xn,xc)]) <+: (((wa,wn,wc):Slc) :: zs)):=by
    rw [jS,<-hzg];exact (List.cons_prefix_cons).2 ⟨rfl,X5 _ i (by omega)⟩
   have HT:Hid (((wa,wn,wc):Slc) :: zs.take i++[(xa,xn,xc)]=((wa,wn,wc):Slc) :: zs.take (i+1)):=by
    rw [jS,<-hzg,kY _ i (by omega)];rfl
   rw [hxe] at c1;clear hget f0 f1 f2 f3 f4 kc hzi hzg;generalize Z[i]=y at *;obtain ⟨⟨yk,yl,ya,yn,yo⟩,yv⟩:=y;simp only [] at hxe c0 c2 c3 c4;clear hxe;have hJ2:=zb HJ _ O wr (wr.alloc (.cells #[.int .i64 (yk:Nat),.slice xa xn xc,.int .i64 ya,.int .i64 (yn:Nat),.int .i64 (yo:Nat)] 164)) (zb HJ1) ((ze.refl _ wr).alloc _);have HK2:=zc ((zb HK).young (W:=W) hsW (A':=wr.alloc (.cells #[.int .i64 (yk:Nat),.slice xa xn xc,.int .i64 ya,.int .i64 (yn:Nat),.int .i64 (yo:Nat)] 164)) ((ze.refl _ wr).alloc _));obtain ⟨fn,tmps,assign,body,hy,hR⟩:=zb HY _ O (xa,xn,xc) _ hJ2 (zb HP);simp only [Qn,slV] at hy;clear hJ2
   gi_wp2
   refine hR.mono ?_;rintro e W3 ⟨rfl,O',hJ3,hs3,hO3,hlt3⟩;have HK3:=zc ((zb HK2).yield hs3 hO3)
   gi_wp2
   exact ⟨⟨i+1,O',by go_num,by omega,(by rw [<-zb HT];exact hJ3),zb HK3⟩,by simp [intOf];omega⟩
  ·obtain rfl:i=Z.length:=by omega
   gi_wp2
   go_end0
   exact ⟨⟨_,rfl⟩,O,by have:=zb HJ1;rwa [vd (by omega)] at this⟩
attribute [local go_sem] Oper.semAt_some
theorem Ko {F:Fence}{nF:Nat}{P:Program}(w:World){ops:Array Oper}{rest:List Oper}{o:Oper}{a:Act}{Q:Exit->Act->World->Prop}(hgd:o.guard=none)(s x:Operand)(t:TypeId)
  (ho:o.op = .call { callee:=.builtin .append,args:=#[s,x],argTypes:=#[t,t] })
  (base:Nat) (e:TypeId) (i:TypeInfo) (z:Value) (size bytes:Nat) (ht:P.underlying t=some (.slice e)) (hi:P.info? e=some i) (hz:i.zero=some z)
  (hsize:i.size=size) (hby:i.bytes=bytes) (hzs:z.cells.size=size) (hsz:0<size)
  (v:Value) (n:Nat) (xs:List Value) (hs:a.eval s=v) (hown:w.ownsRow base e size v n xs)
  (ad:Addr) (m c:Nat) (news:List Value) (hx:a.eval x = .slice (some ad) m c) (hl:news.length=m*size) (hnews:∀ j u,news[j]?=some u->w.cell? (ad.add j)=some u) (h1:∀ u∈news,u.oneCell'=true)
  (_hm:0<m) (h63:n+m<=maxLen) (hbytes:(n+m)*bytes<=140737488355328) (hbase:base<=w.heap.size)
  (h:∀ v' w',w'.ownsRow base e size v' (n+m) (xs++news)->w.grownBy w' v.ownBlock->(∀ k,v'.ownBlock=some k->v.ownBlock=some k\/w.heap.size<=k)->wpListIn F nF P ops Q rest (a.put o.dst v') w'):wpListIn F nF P ops Q (o :: rest) a w:=by
 have hgr:∀ w' row,w.grownBy w' none->w.grownBy w' row:=fun w' row g=>⟨g.os,g.tape,g.output,g.size,fun k hk _=>g.block k hk (by simp)⟩
 rcases hown.2 with ⟨rfl,rfl⟩ |⟨g,cap,cur,rfl,hbg,hg,hnc,hcm,hcs,htake⟩
 ·have hxs:xs=[]:=qg (by simpa using hown.1);subst hxs;exact wpListIn_append_own w hgd s x t ho w.heap.size e i z size bytes ht hi hz hsize hby hzs hsz _ 0 [] hs (qD _ _ _ _) ad m c news hx hl hnews h1 h63 hbytes (z8 _) (fun v' w' h2 h3 _=>h v' w' (xd h2 hbase) h3 (fun k hk=>.inr (h2.lt k hk).1))
 ·by_cases hroom:n+m<=cap
  ·exact wpListIn_append_fits w hgd s x t ho base e i size ht hi hsize g n cap xs hs hown ad m c news hx hl hnews h1 hroom (fun w' h2 h3=>h _ w' h2 h3 (fun k hk=>.inl hk))
  ·refine wpListIn_plain hgd fun K hK'=>?_;obtain ⟨v',w',hrun,r1,r2⟩:=run_append_arg_grows (P:=P) w t o.type e i z size bytes ht hi hz hsize hby hzs hsz ⟨g,0,none⟩ n cap xs hown.1 (hown.cells (g:=g) rfl) ad m c news hl hnews (by omega) h63 hbytes;unfold Oper.wpIn;refine ⟨?_,?_⟩
   ·simp [Oper.about,ho,resolve,Target.leads,Sem.run_pure]
   ·rw [Oper.semAt_plain F _ _ (by rw [ho];intro c hc';cases hc')];simp [execOp,ho,resolve,invoke,builtin,hs,hx,hrun,Result.andThen];exact hK' _ _ (h v' w' (xd r1 hbase) (hgr _ _ r2) (fun k hk=>.inr (r1.lt k hk).1))
theorem Tryz.infoRune:(prog.info? 21).map (fun i=>(i.zero,i.size,i.bytes))=some (some (.int .i32 0),1,4):=by kernel_rfl
def xw (cs:List Int):List Value:=cs.map (Value.int .i32)
theorem YN (a b:List Int):xw (a++b)=xw a++xw b:=by simp [xw]
abbrev Stl:=Nat×Slc×Int×Nat×Nat
def wu (x:Stl):List Value:=[.int .i64 (x.1:Nat),slV x.2.1,.int .i64 x.2.2.1,.int .i64 (x.2.2.2.1:Nat),.int .i64 (x.2.2.2.2:Nat)]
def asksW (x:Stl):Bool:=decide (x.1=2) && (decide (x.2.2.1=2) ||decide (x.2.2.1=3))
theorem asks_any (x:Stl)(w:World):Calls prog 69 #[.agg (wu x).toArray] w fun e w'=>e = .returned (.bool (asksW x))/\Q8 w w':=by
 obtain ⟨k,⟨pa,pn,pc⟩,a,n,o⟩:=x;unfold wu asksW slV;simp only [];have HO:Hid (Q8 w (w.alloc (.cells #[.int .i64 (k:Nat),.slice pa pn pc,.int .i64 a,.int .i64 (n:Nat),.int .i64 (o:Nat)] 164))):=(ze.refl _ _).alloc _;by_cases hk:k=2
 ·subst hk;by_cases h2:a=2
  ·subst h2;go_enter func69,ntmps69;go_wp2;go_ret;exact ⟨by simp,zb HO⟩
  ·have h2d:(a == 2)=false:=(by simp [h2]);by_cases h3:a=3
   ·subst h3;go_enter func69,ntmps69;go_wp2;go_ret;exact ⟨by simp,zb HO⟩
   ·have h3d:(a == 3)=false:=(by simp [h3]);go_enter func69,ntmps69;go_wp2;go_ret;exact ⟨by simp [h2,h3],zb HO⟩
 ·have hkd:((k:Int) == 2)=false:=by simp;omega
  go_enter func69,ntmps69;go_wp2;go_ret;exact ⟨by simp [hk],zb HO⟩
theorem Vz (pb:Nat)(w:World):Calls prog 72 #[.pointer (some ⟨pb,0,none⟩)] w fun e w'=>∃ v,e = .returned v/\∃ kb,v = .func (.func 126) #[] #[.pointer (some ⟨kb,0,none⟩)]/\w.heap.size<=kb/\w'.cell? ⟨kb,0,none⟩=some (.pointer (some ⟨pb,0,none⟩))/\Q8 w w':=by
 have HO:Hid (∃ kb,Value.func (.func 126) #[] #[.pointer (some ⟨w.heap.size,0,none⟩)] = .func (.func 126) #[] #[.pointer (some ⟨kb,0,none⟩)]/\w.heap.size<=kb/\(w.alloc (.cells #[.pointer (some ⟨pb,0,none⟩)] 95)).cell? ⟨kb,0,none⟩=some (.pointer (some ⟨pb,0,none⟩))/\Q8 w (w.alloc (.cells #[.pointer (some ⟨pb,0,none⟩)] 95))):=⟨_,rfl,z8 _,zm w _ rfl _ _ 0 _ rfl,(ze.refl _ _).alloc _⟩
 go_enter func72,ntmps72;go_wp2_with fail;go_ret;exact ⟨_,rfl,zb HO⟩
structure jk (w V:World)(pb g cap st:Nat)(Z:List (Stp×Value))(ws:Slc)(W:Int->Bool):Prop where
 at':StpsAt V pb g cap Z (slV ws)
 c1:V.cell? ⟨pb,1,none⟩=some (.int .i64 (st:Nat))
 c3:∃ u,V.cell? ⟨pb,3,none⟩=some u
 f2:V.frozen? ⟨pb,2,none⟩=false
 f3:V.frozen? ⟨pb,3,none⟩=false
 sets:∀ z∈Z,yQ V (fun k=>w.heap.size<=k/\k≠pb) (.agg #[z.2]) (Prg.setP z.1)
 word:yQ V (fun k=>w.heap.size<=k/\k≠pb) (.agg #[slV ws]) W
 own:w.heap.size<=pb/\w.heap.size<=g/\g≠pb
 only:Q8 w V
theorem jk.pl {Z:List (Stp×Value)}{ws:Slc}{W:Int->Bool}(h:jk w V pb g cap st Z ws W):pb<V.heap.size:=zE _ _ h.c1
theorem jk.keep {w V V':World}{pb g cap st:Nat}{Z:List (Stp×Value)}{ws:Slc}{W:Int->Bool}(h:jk w V pb g cap st Z ws W)(k:Q8 V V'):jk w V' pb g cap st Z ws W:=by
 have hp:=h.pl;obtain ⟨u,hu⟩:=h.c3;have kc:∀ o u,V.cell? ⟨pb,o,none⟩=some u->V'.cell? ⟨pb,o,none⟩=some u:=fun o u e=>(k.cell (p:=⟨pb,o,none⟩) hp (fun f=>f)).trans e;exact ⟨⟨kc _ _ h.at'.c0,kc _ _ h.at'.c2,h.at'.le,fun j u e=>(k.cell (p:=⟨g,j,none⟩) h.at'.gl (fun f=>f)).trans (h.at'.row j u e),yh h.at'.gl k.size⟩,kc _ _ h.c1,⟨u,kc _ _ hu⟩,
  (k.frozen (p:=⟨pb,2,none⟩) hp (fun f=>f)).trans h.f2,(k.frozen (p:=⟨pb,3,none⟩) hp (fun f=>f)).trans h.f3,fun z hz=>(h.sets z hz).keep k (fun _ _ f=>f),h.word.keep k (fun _ _ f=>f),h.own,h.only.trans k⟩
theorem jk.setOther {Z:List (Stp×Value)}{ws:Slc}{W:Int->Bool}(h:jk w V pb g cap st Z ws W)(u:Value):jk w (V.setCell ⟨pb,3,none⟩ u) pb g cap st Z ws W:=by
 have k:ze (fun k=>k=pb) V (V.setCell ⟨pb,3,none⟩ u):=(ze.refl (fun k=>k=pb) V).setCell (p:=⟨pb,3,none⟩) (.inl rfl) _;obtain ⟨u3,hu⟩:=h.c3;have hgp:=h.own.2.2;exact ⟨⟨(zF _ _ _ _ (by simp)).trans h.at'.c0,(zF _ _ _ _ (by simp)).trans h.at'.c2,h.at'.le,fun j u e=>(k.cell (p:=⟨g,j,none⟩) h.at'.gl hgp).trans (h.at'.row j u e),yh h.at'.gl k.size⟩,(zF _ _ _ _ (by simp)).trans h.c1,⟨u,yY _ _ _ hu⟩,
  (zk _ _ _ _).trans h.f2,(zk _ _ _ _).trans h.f3,fun z hz=>(h.sets z hz).keep k (fun _ h2 e=>h2.2 e),h.word.keep k (fun _ h2 e=>h2.2 e),h.own,h.only.setCell (p:=⟨pb,3,none⟩) (.inr h.own.1) u⟩
theorem jk.setWord {Z:List (Stp×Value)}{ws ws':Slc}{W W':Int->Bool}(h:jk w V pb g cap st Z ws W)(hs:yQ V (fun k=>w.heap.size<=k/\k≠pb) (.agg #[slV ws']) W'):jk w (V.setCell ⟨pb,2,none⟩ (slV ws')) pb g cap st Z ws' W':=by
 have k:ze (fun k=>k=pb) V (V.setCell ⟨pb,2,none⟩ (slV ws')):=(ze.refl (fun k=>k=pb) V).setCell (p:=⟨pb,2,none⟩) (.inl rfl) _;obtain ⟨u3,hu⟩:=h.c3;have hgp:=h.own.2.2;exact ⟨⟨(zF _ _ _ _ (by simp)).trans h.at'.c0,yY _ _ _ h.at'.c2,h.at'.le,fun j u e=>(k.cell (p:=⟨g,j,none⟩) h.at'.gl hgp).trans (h.at'.row j u e),yh h.at'.gl k.size⟩,(zF _ _ _ _ (by simp)).trans h.c1,⟨u3,(zF _ _ _ _ (by simp)).trans hu⟩,
  (zk _ _ _ _).trans h.f2,(zk _ _ _ _).trans h.f3,fun z hz=>(h.sets z hz).keep k (fun _ h2 e=>h2.2 e),hs.keep k (fun _ h2 e=>h2.2 e),h.own,h.only.setCell (p:=⟨pb,2,none⟩) (.inr h.own.1) _⟩
theorem Kp {A:Nat->Prop}{x:Value}{S:Int->Bool}(h:yQ w A (.agg #[x]) S):∃ p:Slc,x=slV p:=by
 obtain ⟨sv,sp,h1,h2,_⟩:=h;simp at h1;subst h1;rcases h2 with ⟨h2,_⟩ |⟨g,cap,h2,_⟩
 ·exact ⟨(none,0,0),h2⟩
 ·exact ⟨(_,_,_),h2⟩
theorem slcs {w:World}{A:Nat->Prop}:∀ (Z:List (Stp×Value)),(∀ z∈Z,yQ w A (.agg #[z.2]) (Prg.setP z.1))->∃ zs:List Slc,Z.map Prod.snd=zs.map slV
 | [],_=>⟨[],rfl⟩
 |z :: Z,h=>by
  obtain ⟨zs,e⟩:=slcs Z (fun y hy=>h y (xp _ hy));obtain ⟨p,hp⟩:=Kp (h z xF);exact ⟨p :: zs,by simp [e,hp]⟩
theorem jk.spans {Z:List (Stp×Value)}{ws:Slc}{W:Int->Bool}{zs:List Slc}(h:jk w V pb g cap st Z ws W)(hz:Z.map Prod.snd=zs.map slV):∀ p∈ws :: zs,∃ l A,yu V A (slV p) l/\Cs.zK l:=by
 have one:∀ (p:Slc) (S:Int->Bool),yQ V (fun k=>w.heap.size<=k/\k≠pb) (.agg #[slV p]) S->∃ l A,yu V A (slV p) l/\Cs.zK l:=fun p S hs=>by
  obtain ⟨sv,sp,h1,h2,h3,_⟩:=hs;simp at h1;subst h1;exact ⟨sp,_,h2,h3⟩
 intro p hp;rcases qP.1 hp with rfl |hp
 ·exact one _ _ h.word
 ·have:slV p∈Z.map Prod.snd:=by rw [hz];exact Yn hp
  obtain ⟨z,hzm,hze⟩:=Zz.1 this;exact one p _ (hze ▸ h.sets z hzm)
theorem jk.prog {Z:List (Stp×Value)}{ws:Slc}{W:Int->Bool}(h:jk w V pb g cap st Z ws W)(hl:Z.length<=300)(hf:∀ (k:Nat) s,(sts Z)[k]?=some s->s.next<(sts Z).length/\s.other<(sts Z).length)(hst:st<(sts Z).length):xi V (fun k=>w.heap.size<=k) pb (sts Z) st W:=by
 refine ⟨h.own.1,⟨g,cap,by rw [zU];exact h.at'.c0,h.own.2.1,by rw [zU];exact h.at'.le,fun k s hk=>?_⟩,h.c1,⟨slV ws,h.at'.c2,h.word.mono (fun _ _ h=>h.1)⟩,by rw [zU];exact hl,hf,hst⟩;unfold sts at hk;rw [ky] at hk;obtain ⟨z,hz,rfl⟩:=Z4.1 hk;obtain ⟨f0,f1,f2,f3,f4⟩:=jV Z k z hz;exact ⟨h.at'.row _ _ f0,⟨z.2,h.at'.row _ _ f1,(h.sets z (xP hz)).mono (fun _ _ h=>h.1)⟩,h.at'.row _ _ f2,h.at'.row _ _ f3,h.at'.row _ _ f4⟩
end
section
open Go.RowKit Go.Shelf Go.Lib
open Sm (Stp Tree capT)
def slcOf:Value->Slc
 | .slice a n c=>(a,n,c)
 |_=>(none,0,0)
def Qo (z:Stp×Value):Stl:=(z.1.kind,slcOf z.2,z.1.asr,z.1.next,z.1.other)
def askS (s:Stp):Bool:=decide (s.kind=2) && (decide (s.asr=2) ||decide (s.asr=3))
theorem Qp (Z:List (Stp×Value))(g cap:Nat)(V:World)(hz:∀ z∈Z,∃ p:Slc,z.2=slV p)(hrow:∀ j u,(yt Z)[j]?=some u->V.cell? ⟨g,j,none⟩=some u)(hg:g<V.heap.size)(hl:Z.length<=1000) :
  Calls prog 68 #[.slice (some ⟨g,0,none⟩) Z.length cap,.func (.func 69) #[] #[]] V fun e V'=>e = .returned (.bool (Z.any (fun z=>askS z.1)))/\Q8 V V':=by
 have hcell:∀ j,j<(Z.map Qo).length->∀ i v,(wu (Z.map Qo)[j]!)[i]?=some v->V.cell? ⟨g,0+j*5+i,none⟩=some v:=by
  intro j hj i v hi;have hjZ:j<Z.length:=by simpa using hj
  have hget:Z[j]?=some Z[j]:=zD hjZ;obtain ⟨p,hp⟩:=hz Z[j] (jG hjZ);obtain ⟨f0,f1,f2,f3,f4⟩:=jV Z j _ hget;have e:(Z.map Qo)[j]! = Qo Z[j]:=by rw [getElem!_pos _ j hj];simp
  rw [e] at hi;have e2:wu (Qo Z[j])=[.int .i64 (Z[j].1.kind:Nat),Z[j].2,.int .i64 Z[j].1.asr,.int .i64 (Z[j].1.next:Nat),.int .i64 (Z[j].1.other:Nat)]:=by
   unfold wu Qo;simp only [];rw [hp];rfl
  rw [e2] at hi;rw [jY]
  match i,hi with
  |0,hi=>simp at hi;subst hi;exact hrow _ _ f0
  |1,hi=>simp at hi;subst hi;exact hrow _ _ f1
  |2,hi=>simp at hi;subst hi;exact hrow _ _ f2
  |3,hi=>simp at hi;subst hi;exact hrow _ _ f3
  |4,hi=>simp at hi;subst hi;exact hrow _ _ f4
  |n+5,hi=>simp at hi
 have hpred:PredBelow prog 69 #[] (fun x:Stl=>.agg (wu x).toArray) asksW V:=fun W x hb=>by
  have:=asks_any x W;refine Calls.mono (by simpa using this) ?_;rintro e w' ⟨rfl,hO⟩;exact ⟨rfl,hb.trans (hO.below.mono hb.size)⟩
 refine (AnyQ.slices_ContainsFunc Kn 5 (fun w=>by kernel_rfl) (fun w=>by kernel_rfl) wu (fun x=>by simp [wu]) asksW 69 #[] (enters_of func69 (by kernel_rfl) rfl) g 0 Z.length cap (Z.map Qo) V hpred (by simp) (by omega) hg hcell).mono ?_;rintro e w' ⟨rfl,hb⟩;refine ⟨?_,ze.ofBelow hb⟩;rw [vd (by simp),List.any_map];rfl
theorem VA {w3:World}{st:Nat}{Z:List (Stp×Value)}{sv:Value}(hB:qi w3 w.heap.size Z)(h1:w3.cell? ⟨w.heap.size,0,none⟩=some sv)(hne:0<Z.length)(hO:Q8 w w3):∃ g cap,sv = .slice (some ⟨g,0,none⟩) Z.length cap/\jk w (w3.alloc (.cells #[sv,.int .i64 (st:Nat),.slice none 0 0,.slice none 0 0] 168)) w3.heap.size g cap st Z (none,0,0) (fun _=>false):=by
 obtain ⟨sv',h1',h2,h3⟩:=hB.ex;obtain rfl:sv=sv':=qu (h1.symm.trans h1');have hs:=hO.size;have k:Q8 w3 (w3.alloc (.cells #[sv,.int .i64 (st:Nat),.slice none 0 0,.slice none 0 0] 168)):=(ze.refl _ _).alloc _;have hbl:=fun g=>zh h2 g;rcases h2.2 with ⟨rfl,hz⟩ |⟨g,cap,cur,rfl,hbg,hg,hnc,hcm,hcs,htake⟩
 ·omega
 ·have hgl:=(hbl g rfl).2;refine ⟨g,cap,rfl,⟨zm w3 _ rfl _ _ 0 _ rfl,zm w3 _ rfl _ _ 2 _ rfl,hnc,fun j u hj=>?_,by simp;omega⟩,zm w3 _ rfl _ _ 1 _ rfl,⟨_,zm w3 _ rfl _ _ 3 _ rfl⟩,zG w3 _ rfl _ _ 2,zG w3 _ rfl _ _ 3,fun z hz=>?_,yQ.none _ _ _ (fun _=>rfl),⟨hs,by omega,by omega⟩,hO.trans k⟩
  ·refine (k.cell (p:=⟨g,j,none⟩) hgl (fun f=>f)).trans ?_;have hj2:j<Z.length*5:=(by have:=(yd.1 hj).1;rwa [KQ] at this);have e1:(cur.toList.take (Z.length*5))[j]?=(yt Z)[j]?:=(by rw [htake]);rw [Qd hj2,hj] at e1;unfold World.cell?;rw [hg];simpa using e1
  ·exact ((h3 z hz).mono (B:=fun k=>w.heap.size<=k/\k≠w3.heap.size) (fun q hq h=>⟨by omega,by omega⟩)).keep k (fun _ _ f=>f)
end
section
open Go.RowKit
open Sm (Stp Tree)
theorem jQ.get (h:jQ w v L){k:Nat}(hk:k<L.length):∃ g cap x0,v = .slice (some ⟨g,0,none⟩) L.length cap/\L.length<=cap/\w.cell? ⟨g,k*2,none⟩=some (.int .i64 x0)/\w.cell? ⟨g,k*2+1,none⟩=some (.int .i32 (Pro.zf L k)):=by
 rcases h with ⟨_,rfl⟩ |⟨g,cap,h1,h2,h3⟩
 ·simp at hk
 ·obtain ⟨h4,h5⟩:=h3 k L[k] (zD hk);exact ⟨g,cap,_,h1,h2,h4,by rw [Pro.Yd hk];exact h5⟩
theorem jQ.slice (h:jQ w v L):∃ a c,v = .slice a L.length c:=by
 rcases h with ⟨rfl,rfl⟩ |⟨g,cap,h1,_⟩
 ·exact ⟨_,_,rfl⟩
 ·exact ⟨_,_,h1⟩
structure xr (W:World)(b:Nat)(x y z u:Bool):Prop where
 k0:W.cell? ⟨b,0,none⟩=some (.bool x)
 k1:W.cell? ⟨b,1,none⟩=some (.bool y)
 k2:W.cell? ⟨b,2,none⟩=some (.bool z)
 k3:W.cell? ⟨b,3,none⟩=some (.bool u)
 f0:W.frozen? ⟨b,0,none⟩=false
 f1:W.frozen? ⟨b,1,none⟩=false
 f2:W.frozen? ⟨b,2,none⟩=false
 f3:W.frozen? ⟨b,3,none⟩=false
theorem xr.keep {W W':World}{b:Nat}{x y z u:Bool}(h:xr W b x y z u)(k:Q8 W W'):xr W' b x y z u:=by
 have hb:b<W.heap.size:=zE W ⟨b,0,none⟩ h.k0;exact ⟨zg k _ _ h.k0 (fun f=>f),zg k _ _ h.k1 (fun f=>f),zg k _ _ h.k2 (fun f=>f),zg k _ _ h.k3 (fun f=>f),zP k _ hb h.f0 (fun f=>f),zP k _ hb h.f1 (fun f=>f),zP k _ hb h.f2 (fun f=>f),zP k _ hb h.f3 (fun f=>f)⟩
theorem xr.new (hn:W.heap.size=n)(x y z u:Bool)(T:TypeId):xr (W.alloc (.cells #[.bool x,.bool y,.bool z,.bool u] T)) n x y z u:=
 ⟨zm W n hn _ T 0 _ rfl,zm W n hn _ T 1 _ rfl,zm W n hn _ T 2 _ rfl,zm W n hn _ T 3 _ rfl,zG W n hn _ T 0,zG W n hn _ T 1,zG W n hn _ T 2,zG W n hn _ T 3⟩
set_option maxHeartbeats 1600000
def xI (w:World)(v:Value)(rs:List Nat):Prop:=(v = .slice none 0 0/\rs=[])\/∃ g cap,v = .slice (some ⟨g,0,none⟩) rs.length cap/\rs.length<=cap/\∀ (j:Nat) a,rs[j]?=some a->w.cell? ⟨g,j,none⟩=some (.int .i64 (a:Nat))
theorem xI.keep {w':World}{v:Value}{rs:List Nat}(h:xI w v rs)(k:Q8 w w'):xI w' v rs:=by
 rcases h with h |⟨g,cap,h1,h2,h3⟩
 ·exact .inl h
 ·exact .inr ⟨g,cap,h1,h2,fun j a hj=>zg k _ _ (h3 j a hj) (fun f=>f)⟩
theorem xI.slice (h:xI w v rs):∃ a c,v = .slice a rs.length c:=by
 rcases h with ⟨rfl,rfl⟩ |⟨g,cap,h1,_⟩
 ·exact ⟨_,_,rfl⟩
 ·exact ⟨_,_,h1⟩
theorem xI.get {a:Option Addr}{c:Nat}{rs:List Nat}(h:xI w (.slice a rs.length c) rs){k:Nat}(hk:k<rs.length):∃ g,a=some ⟨g,0,none⟩/\rs.length<=c/\w.cell? ⟨g,k,none⟩=some (.int .i64 (rs[k]:Nat)):=by
 rcases h with ⟨_,h⟩ |⟨g,cap,h1,h2,h3⟩
 ·rw [h] at hk;simp at hk
 ·simp at h1;exact ⟨g,h1.1,by omega,h3 k rs[k] (zD hk)⟩
namespace Prg
def xG (N:List Stp)(c:Int)(a:Nat):Option Nat:=match N[a]? with
 |some s=>if setP s c=true then some s.next else none
 |none=>none
def xo (N:List Stp)(c:Int)(rs:List Nat):List Nat:=rs.filterMap (xG N c)
theorem zcq {N:List Stp}{c:Int}{rs:List Nat}{n:Nat}{s:Stp}(hn:n<rs.length)(hs:N[rs[n]]?=some s)(hp:setP s c=true):xo N c (rs.take (n+1))=xo N c (rs.take n)++[s.next]:=by
 have e:xG N c rs[n]=some s.next:=by simp [xG,hs,hp]
 unfold xo;rw [vG,zD hn,List.filterMap_append];show _++List.filterMap (xG N c) [rs[n]]=_;simp [e]
theorem VB {N:List Stp}{c:Int}{rs:List Nat}{n:Nat}{s:Stp}(hn:n<rs.length)(hs:N[rs[n]]?=some s)(hp:setP s c=false):xo N c (rs.take (n+1))=xo N c (rs.take n):=by
 have e:xG N c rs[n]=none:=by simp [xG,hs,hp]
 unfold xo;rw [vG,zD hn,List.filterMap_append];show _++List.filterMap (xG N c) [rs[n]]=_;simp [e]
theorem wV (N:List Stp)(c:Int)(rs:List Nat):(xo N c rs).length<=rs.length:=List.length_filterMap_le _ _
theorem YO {N:List Stp}{c:Int}{rs:List Nat}{b:Nat}:b∈xo N c rs↔∃ a∈rs,∃ s,N[a]?=some s/\setP s c=true/\b=s.next:=by
 unfold xo;rw [List.mem_filterMap];constructor
 ·rintro ⟨a,ha,h⟩;unfold xG at h;split at h
  ·rename_i s hs;split at h
   ·rename_i hp;exact ⟨a,ha,s,hs,hp,(qu h).symm⟩
   ·cases h
  ·cases h
 ·rintro ⟨a,ha,s,hs,hp,rfl⟩;exact ⟨a,ha,by simp [xG,hs,hp]⟩
end Prg
theorem YP (pb st:Nat)(N:List Stp)(W:Int->Bool)(rv:Value)(rs:List Nat)(c:Int)(A:Nat->Prop)(w:World)(hP:xi w A pb N st W)(hR:xI w rv rs)(hr:∀ a∈rs,a<N.length)(hl:rs.length<=300) :
  Calls prog 86 #[.pointer (some ⟨pb,0,none⟩),rv,.int .i32 c] w fun x w'=>∃ sv,x = .returned sv/\w'.ownsRow w.heap.size 3 1 sv (Prg.xo N c rs).length (zM (Prg.xo N c rs))/\Q8 w w':=by
 obtain ⟨i0,hi0,hz0,hz1,hz2⟩:=info_parts Tryz.infoInt;obtain ⟨va,vc,rfl⟩:=hR.slice;obtain ⟨gs,cs,hst,hA,hcs,hrow⟩:=hP.c0;have hNl:=hP.len;have HR:=zc hR;have HP:=zc hP;have HW:=zc hrow;have HRN:=zc hr;clear hR hP hrow hr;go_enter func86,ntmps86;go_wp2_with fail;go_loopw [7,13] (fun lv k wr=>∃ n:Nat,k = .int .i64 n/\n<=rs.length/\Hid (Q8 w wr)/\Hid (wr.ownsRow w.heap.size 3 1 lv (Prg.xo N c (rs.take n)).length (zM (Prg.xo N c (rs.take n))))) (fun _ k _=>rs.length-(intOf k).toNat)
 case atStart=>exact ⟨0,rfl,by omega,ze.refl _ _,qD _ _ _ _⟩
 case round=>
  obtain ⟨n,rfl,hn,HK,HO⟩:=hrel;obtain ⟨ga,na,ca,rfl⟩:=zy (zb HO);by_cases hlt:n<rs.length
  ·obtain ⟨g,rfl,hcap,hc1⟩:=(zb HR).get hlt;have hc2:=zg (zb HK) _ _ hc1 (fun f=>f);clear hc1;have hrn:=(zb HRN) rs[n] (jG hlt);have hget:N[rs[n]]?=some N[rs[n]]:=zD hrn;obtain ⟨s0,⟨sv,s1,s1'⟩,s2,s3,s4⟩:=zb HW _ _ hget;have e0:=zg (zb HK) _ _ s0 (fun f=>f);have e1:=zg (zb HK) _ _ s1 (fun f=>f);have e3:=zg (zb HK) _ _ s3 (fun f=>f);have ep:=zg (zb HK) _ _ hst (fun f=>f);have HG:=zc hget;have HS:=zc s1';clear s0 s1 s2 s3 s4 s1' hget;generalize hs':N[rs[n]]=s at *;clear hs';generalize hrn':rs[n]=a at *;have hsl:∃ x y z,sv = .slice x y z:=by
    obtain ⟨sv',sp,e,h1,_⟩:=zb HS;simp at e;subst e;rcases h1 with ⟨h1,_⟩ |⟨g,cap,h1,_⟩<;>exact ⟨_,_,_,h1⟩
   obtain ⟨sx,sy,sz,rfl⟩:=hsl;by_cases hk:s.kind=1
   ·have hkb:((s.kind:Int) == 1)=true:=(by simp;omega);have HZ:Hid (∀ W',Q8 wr W'->Calls prog 134 #[.agg #[.slice sx sy sz],.int .i32 c] W' fun e w'=>e = .returned (.bool (Prg.setP s c))/\Q8 wr w'/\w'.cell? ⟨gs,a*5,none⟩=some (.int .i64 (s.kind:Nat))/\w'.cell? ⟨gs,a*5+1,none⟩=some (.slice sx sy sz)):=fun W' k=>by
     refine (JY _ (Prg.setP s) c A _ ((zb HS).keep ((zb HK).trans k) (fun _ _ f=>f))).mono ?_;rintro e w' ⟨rfl,hO⟩;have k1:=k.trans hO;exact ⟨rfl,k1,zg k1 _ _ e0 (fun f=>f),zg k1 _ _ e1 (fun f=>f)⟩
    clear hk;cases hsp:Prg.setP s c
    ·rw [hsp] at HZ;have HO1:Hid (wr.ownsRow w.heap.size 3 1 (.slice ga na ca) (Prg.xo N c (rs.take (n+1))).length (zM (Prg.xo N c (rs.take (n+1))))):=by
      rw [Prg.VB hlt (by rw [hrn'];exact zb HG) hsp];exact HO
     go_wp2_with (go_at_call 134;refine (zb HZ _ (by first |exact ze.refl _ _ |exact (ze.refl _ _).drewN _)).mono ?_;rintro e w1 ⟨rfl,hO1,z0,z1⟩;have HKK:=zc hO1;clear hO1);have HO2:Hid (w1.ownsRow w.heap.size 3 1 (.slice ga na ca) (Prg.xo N c (rs.take (n+1))).length (zM (Prg.xo N c (rs.take (n+1))))):=zn (zb HO1) (zb HKK) (fun _ _ f=>f);exact ⟨⟨n+1,by go_num,by omega,(zb HK).trans (zb HKK),HO2⟩,by simp [intOf];omega⟩
    ·rw [hsp] at HZ;have HE:Hid (Prg.xo N c (rs.take (n+1))=Prg.xo N c (rs.take n)++[s.next]):=Prg.zcq hlt (by rw [hrn'];exact zb HG) hsp;have htl:(Prg.xo N c (rs.take n)).length<=300:=(by have:=Prg.wV N c (rs.take n);rw [ZN] at this;omega);have hszw:=(zb HK).size;go_wp2_with (first
      |(go_at_call 134;refine (zb HZ _ (by first |exact ze.refl _ _ |exact (ze.refl _ _).drewN _)).mono ?_;rintro e w1 ⟨rfl,hO1,z0,z1⟩;have z3:=zg hO1 _ _ e3 (fun f=>f);have HKK:=zc hO1;have hsz1:=hO1.size;have HO1:=zc (zn (zb HO) hO1 (fun _ _ f=>f));clear hO1)
      |(at_builtin;refine wpList_append_own _ rfl _ _ 27 rfl w.heap.size 3 i0 (.int .i64 0) 1 8 underlying27 hi0 hz0 hz1 hz2 rfl (by decide) _ _ _ rfl (xR (zb HO1) _) _ 1 1 [.int .i64 (s.next:Nat)] rfl rfl (cell_one_new _ _ _) (fun x hx=>by simp at hx;subst hx;rfl) (by unfold maxLen;omega) (by omega) (by simp;omega) ?_;intro v' w4 hown' hgrow hnil;have Hown4:=zc hown';have Hgr:=zc hgrow;clear hown' hgrow hnil))
     have hO4:Q8 w w4:=((((zb HK).trans (zb HKK)).alloc _)).grown (zb Hgr) (fun j hj=>Or.inr (zh (zb HO1) j hj).1);exact ⟨⟨n+1,by go_num,by omega,hO4,(by show World.ownsRow _ _ _ _ _ _ _;rw [zb HE];unfold zM;rw [yS,X7];exact zb Hown4)⟩,by simp [intOf];omega⟩
   ·have hkb:((s.kind:Int) == 1)=false:=(by simp;omega);have hsp:Prg.setP s c=false:=(by simp [Prg.setP,hk]);have HO1:Hid (wr.ownsRow w.heap.size 3 1 (.slice ga na ca) (Prg.xo N c (rs.take (n+1))).length (zM (Prg.xo N c (rs.take (n+1))))):=by
     rw [Prg.VB hlt (by rw [hrn'];exact zb HG) hsp];exact HO
    clear hk;go_wp2_with fail;exact ⟨⟨n+1,by go_num,by omega,HK,HO1⟩,by simp [intOf];omega⟩
  ·obtain rfl:n=rs.length:=(by omega);go_wp2_with fail;go_ret;rw [ZA] at HO;exact ⟨_,rfl,zb HO,zb HK⟩
set_option maxRecDepth 100000
structure Rch (w:World)(base sb rb gb n:Nat)(ms:List Bool)(rs:List Nat):Prop where
 s0:w.cell? ⟨sb,0,none⟩=some (.slice (some ⟨gb,0,none⟩) n n)
 r0:∃ rv,w.cell? ⟨rb,0,none⟩=some rv/\w.ownsRow base 3 1 rv rs.length (zM rs)
 rf:w.frozen? ⟨rb,0,none⟩=false
 ob:xQ w gb ms
 ml:ms.length=n
 mark:∀ p,p<n->ms[p]?=some (decide (p∈rs))
 cnt:ms.countP id=rs.length
 lt:∀ a∈rs,a<n
 d1:sb≠rb
 d2:sb≠gb
 d3:rb≠gb
 l1:sb<base
 l2:rb<base
 l3:gb<base
 lb:base<=w.heap.size
theorem Rch.len {base sb rb gb n:Nat}{ms:List Bool}{rs:List Nat}(h:Rch w base sb rb gb n ms rs):rs.length<=n:=by
 rw [<-h.cnt,<-h.ml];exact List.countP_le_length
theorem Rch.keep {w w':World}{base sb rb gb n:Nat}{ms:List Bool}{rs:List Nat}(h:Rch w base sb rb gb n ms rs)(k:Q8 w w'):Rch w' base sb rb gb n ms rs:=by
 obtain ⟨rv,h1,h2⟩:=h.r0;exact { h with s0:=zg k _ _ h.s0 (fun f=>f),r0:=⟨rv,zg k _ _ h1 (fun f=>f),zn h2 k (fun _ _ f=>f)⟩,rf:=zP k _ (yh h.l2 h.lb) h.rf (fun f=>f),ob:=h.ob.keep k (fun f=>f),lb:=yZ h.lb k.size }
namespace Prg
def visL (rs:List Nat)(p:Nat):List Nat:=if p∈rs then rs else rs++[p]
end Prg
def Vis (base rb gb:Nat)(g:Nat):Prop:=g=rb\/g=gb\/base<=g
theorem zcr (p:Nat)(ms:List Bool)(rs:List Nat)(w:World)(h:Rch w base sb rb gb n ms rs)(hp:p<n)(hn:n<=300) :
  Calls prog 132 #[.int .i64 (p:Nat),.pointer (some ⟨sb,0,none⟩),.pointer (some ⟨rb,0,none⟩)] w fun x w'=>x = .returned (.tuple #[])/\(∃ ms',Rch w' base sb rb gb n ms' (Prg.visL rs p))/\ze (Vis base rb gb) w w':=by
 obtain ⟨i0,hi0,hz0,hz1,hz2⟩:=info_parts Tryz.infoInt;obtain ⟨rv,hrv,hown⟩:=h.r0;obtain ⟨ra,rn,rc,rfl⟩:=zy hown;have hs0:=h.s0;have hrf:=h.rf;have hlen:=h.len;have hm:=h.mark p hp;have hcell:=h.ob.c p _ hm;have hfro:=h.ob.f p _ hm;have hd1:=h.d1;have hd2:=h.d2;have hd3:=h.d3;have hl1:=h.l1;have hl2:=h.l2;have hl3:=h.l3;have hlb:=h.lb;have H:=zc h;have HO:=zc hown;clear h hown hm;by_cases hin:p∈rs
 ·have hd:decide (p∈rs)=true:=decide_eq_true hin;rw [hd] at hcell;have HV:Hid (Prg.visL rs p=rs):=by show _=_;unfold Prg.visL;rw [if_pos hin]
  clear hin hd;go_enter func132,ntmps132;go_wp2_with fail
  go_end0
  exact ⟨rfl,⟨ms,by rw [zb HV];exact zb H⟩,ze.refl _ _⟩
 ·have hd:decide (p∈rs)=false:=decide_eq_false hin;rw [hd] at hcell;have HV:Hid (Prg.visL rs p=rs++[p]):=by show _=_;unfold Prg.visL;rw [if_neg hin]
  have HIN:=zc hin;have HK1:Hid (ze (fun g=>g=gb\/base<=g) w (w.setCell ⟨gb,p,none⟩ (.bool true))):=(ze.refl _ w).setCell (Or.inl (Or.inl rfl)) _;have HO1:Hid ((w.setCell ⟨gb,p,none⟩ (.bool true)).ownsRow base 3 1 (.slice ra rn rc) rs.length (zM rs)):=zn (zb HO) ((ze.refl (fun g=>g=gb) w).setCell (Or.inl rfl) _) (fun g hg e=>by have:=(zh (zb HO) g hg).1;omega);have HB1:=zc ((zb H).ob.set p true);have HC1:Hid (∀ (j:Nat) (u:Value),[Value.int .i64 (p:Nat)][j]?=some u->((w.setCell ⟨gb,p,none⟩ (.bool true)).alloc (.cells #[.int .i64 (p:Nat)] 3)).cell? ((⟨w.heap.size,0,none⟩:Addr).add j)=some u):=by
   have h:=cell_one_new (w.setCell ⟨gb,p,none⟩ (.bool true)) (.int .i64 (p:Nat)) 3;rw [show (w.setCell ⟨gb,p,none⟩ (.bool true)).heap.size=w.heap.size by simp] at h;exact h
  have hnot:¬(rb=gb\/base<=rb):=by omega
  have hrl:rb<w.heap.size:=by omega
  clear hin hd;go_enter func132,ntmps132;go_wp2_with (at_builtin;refine wpList_append_own _ rfl _ _ 27 rfl base 3 i0 (.int .i64 0) 1 8 underlying27 hi0 hz0 hz1 hz2 rfl (by decide) _ _ _ rfl (xR (zb HO1) _) _ 1 1 [.int .i64 (p:Nat)] rfl rfl (zb HC1) (fun x hx=>by simp at hx;subst hx;rfl) (by unfold maxLen;omega) (by omega) (by simp;omega) ?_;intro v' w4 hown' hgrow hnil;obtain ⟨xa,xn,xc,rfl⟩:=zy hown';have Hown4:=zc hown';have HGR:=zc hgrow;have hK4:ze (fun g=>g=gb\/base<=g) w w4:=((zb HK1).alloc _).grown hgrow (fun j hj=>Or.inl (Or.inr (zh (zb HO1) j hj).1));have hrv4:=zg hK4 _ _ hrv hnot;have hrf4:=zP hK4 _ hrl hrf hnot;have HK4:=zc hK4;clear hown' hgrow hnil hK4)
  go_end0
  have hK5:ze (fun g=>g=rb) w4 (w4.setCell ⟨rb,0,none⟩ (.slice xa xn xc)):=(ze.refl (fun g=>g=rb) w4).setCell (p:=⟨rb,0,none⟩) (Or.inl (show rb=rb from rfl)) _;have hO:=zb H;have hBl:∀ k,k<base->k≠gb->¬(k=gb\/base<=k):=fun k h1 h2=>by omega
  have hown5:(w4.setCell ⟨rb,0,none⟩ (.slice xa xn xc)).ownsRow base 3 1 (.slice xa xn xc) (rs++[p]).length (zM (rs++[p])):=by
   have:=zn (zb Hown4) hK5 (fun g hg e=>by have h1:=(zh (zb Hown4) g hg).1;have h2:g=rb:=e;omega);rw [yS];unfold zM;rw [X7];exact this
  have hB4:xQ w4 gb (ms.set p true):=(((zb HB1).keep ((ze.refl (fun _=>False) _).alloc _) (fun f=>f))).keep (P:=fun g=>base<=g) ((ze.refl _ _).grown (zb HGR) (fun j hj=>Or.inl (zh (zb HO1) j hj).1)) (by omega);have hms:ms[p]?=some false:=by have:=hO.mark p hp;rw [decide_eq_false (zb HIN)] at this;exact this
  have hpl:p<ms.length:=by rw [hO.ml];exact hp
  refine ⟨rfl,⟨ms.set p true,?_⟩,?_⟩
  ·rw [zb HV];refine ⟨?_,⟨_,yY _ _ _ hrv4,hown5⟩,?_,hB4.keep hK5 (fun e=>hd3 e.symm),by rw [ve];exact hO.ml,fun q hq=>?_,?_,fun a ha=>?_,hd1,hd2,hd3,hl1,hl2,hl3,?_⟩
   ·exact zg hK5 _ _ (zg (zb HK4) _ _ hs0 (hBl sb hl1 hd2)) hd1
   ·rw [Xm];exact hrf4
   ·by_cases e:p=q
    ·subst e;rw [YE hpl];simp
    ·rw [Z0 e,hO.mark q hq];simp [List.mem_append,Ne.symm e]
   ·rw [List.countP_set hpl,yS,hO.cnt];have:ms[p]=false:=(by have:=zD hpl;rw [hms] at this;exact (qu this).symm);simp [this]
   ·rcases qe.1 ha with ha |ha
    ·exact hO.lt a ha
    ·simp at ha;omega
   ·have:=(zb HK4).size;simp;omega
  ·exact ((zb HK4).mono (fun k _ e=>e.elim (fun e=>Or.inr (Or.inl e)) (fun e=>Or.inr (Or.inr e)))).trans (hK5.mono (fun k _ e=>Or.inl e))
end
end Go.Proofs.YtcgleficedipkaaGreatDoor
