/- The program's iterator over the characters of a text. -/
import Derived.Test.YtcgleficedipkaaGreatDoorYEqJEqM
import Derived.RangeFuncBound
import Derived.RangeFuncLeaves
import Derived.Shelf.Abstract
import Derived.OwnWalkIn
import Derived.TacticsInMore
import Derived.LoopNIn
import Derived.LoopIn
import Derived.RangeFuncBox
namespace Go.Proofs.YtcgleficedipkaaGreatDoor
open _root_.Go.Proofs.Tryz
variable {w:World}{b:Nat}{s:ByteArray}{nx p n:Nat}{ch c:Int}(l:List (Int×Int)){pre:List (Int×Int)}
section
open Go.RowKit Go.Shelf
set_option maxHeartbeats 4000000
set_option maxRecDepth 1000000
attribute [local go_sem] Oper.semAt_some
namespace Pro
def letM (s:ByteArray):Nat->Nat->List (Int×Int)
 |0,_=>[]
 |f+1,p=>match yi s p with
  |none=>[]
  |some (n,c)=>((p:Int),c) :: letM s f n
end Pro
theorem y6.keepT {w':World}{b:Nat}{s:ByteArray}{nx p:Nat}{ch:Int}(h:y6 w b s nx p ch)(k:kW w w'):y6 w' b s nx p ch:=by
 have e:=k.same b ⟨s,h.c0⟩;exact ⟨(vw (w:=w) (a:=⟨b,0,none⟩) e).trans h.c0,(vw (w:=w) (a:=⟨b,1,none⟩) e).trans h.c1,(vw (w:=w) (a:=⟨b,2,none⟩) e).trans h.c2,(vw (w:=w) (a:=⟨b,3,none⟩) e).trans h.c3,
  (Xe (w:=w) (a:=⟨b,1,none⟩) e).trans h.f1,(Xe (w:=w) (a:=⟨b,2,none⟩) e).trans h.f2,(Xe (w:=w) (a:=⟨b,3,none⟩) e).trans h.f3⟩
def macN (w:World)(b:Nat):Nat:=match w.cell? ⟨b,1,none⟩ with
 |some (.int _ n)=>n.toNat
 |_=>0
theorem zaq (h:y6 w b s nx p ch):macN w b=nx:=by unfold macN;rw [h.c1];simp
theorem XY (h:Pro.yi s p=some (n,c)):p<n/\n<=s.size/\0<=c/\c<=1114111:=by
 by_cases hp:p<s.size
 ·rw [Eqv.jE hp] at h;cases h1:Ref.oneF s p with
  |none=>rw [h1] at h;cases h
  |some nc=>
   obtain ⟨m,d⟩:=nc;rw [h1] at h;simp only [Eqv.ahead,Option.some.injEq,Prod.mk.injEq] at h;obtain ⟨rfl,rfl⟩:=h;have:=Ref.qC h1;exact ⟨by omega,by omega,by omega,by omega⟩
 ·unfold Pro.yi at h;rw [if_neg hp] at h;cases h
theorem letM_eq (s:ByteArray):∀ (f p:Nat),Pro.letM s f p=Eqv.letF s f p
 |0,_=>rfl
 |f+1,p=>by
  unfold Pro.letM Eqv.letF;by_cases hp:p<s.size
  ·rw [if_pos hp,Eqv.jE hp];cases h1:Ref.oneF s p with
   |none=>rfl
   |some nc=>
    obtain ⟨m,d⟩:=nc;simp only [Eqv.ahead];rw [letM_eq s f (p+m)]
  ·rw [if_neg hp];unfold Pro.yi;rw [if_neg hp]
theorem read_yes {q:Nat}{ch c:Int}{w:World}(h:y6 w b s nx p ch)(hs:s.size<=400)(hn:nx<=s.size)(hr:Pro.yi s nx=some (q,c)) :
  Calls prog 128 #[.pointer (some ⟨b,0,none⟩)] w fun x w'=>x = .returned (.bool true)/\y6 w' b s q nx c/\ze (zt b) w w':=by
 refine (KR b s nx p ch w h hs hn).mono ?_;rintro e w1 ⟨hO1,h1⟩;rcases h1 with ⟨q1,c1,e1,rfl,hM1⟩ |⟨e1,_⟩
 ·rw [hr] at e1;obtain ⟨rfl,rfl⟩:=Prod.mk.inj (qu e1);exact ⟨rfl,hM1,hO1⟩
 ·rw [hr] at e1;cases e1
theorem read_no {w:World}(h:y6 w b s nx p ch)(hs:s.size<=400)(hn:nx<=s.size)(hr:Pro.yi s nx=none) :
  Calls prog 128 #[.pointer (some ⟨b,0,none⟩)] w fun x w'=>x = .returned (.bool false)/\ze (zt b) w w':=by
 refine (KR b s nx p ch w h hs hn).mono ?_;rintro e w1 ⟨hO1,h1⟩;rcases h1 with ⟨q1,c1,e1,rfl,hM1⟩ |⟨_,rfl⟩
 ·rw [hr] at e1;cases e1
 ·exact ⟨rfl,hO1⟩
theorem each_seq (s:ByteArray)(hs:s.size<=400)(kb:Nat)(w0:World)(hkb:w0.cell? ⟨kb,0,none⟩=some (.string s))(n:Nat)(hn1:1<=n) :
  SeqT Fence.wide n prog 127 #[.pointer (some ⟨kb,0,none⟩)] (fun x:Int×Int=>#[.int .i64 x.1,.int .i32 x.2]) (Pro.letM s (s.size+1) 0) w0:=by
 intro l J W hO hJ hY h0;have hk:=(hO.cell (p:=⟨kb,0,none⟩) (zE w0 _ hkb) (fun f=>f)).trans hkb;refine callsIn_of_wp func127 rfl trivial ?_ rfl;simp only [ntmps127,jZ,qH,jU,Nat.reduceAdd,Nat.reduceSub,wO,wl,Z1,Zr,kB,jS];have hm0:y6 (W.alloc (.cells #[.string s,.int .i64 0,.int .i64 0,.int .i32 0] 274)) W.heap.size s 0 0 0:=⟨zm W _ rfl _ _ 0 _ rfl,zm W _ rfl _ _ 1 _ rfl,zm W _ rfl _ _ 2 _ rfl,zm W _ rfl _ _ 3 _ rfl,zG W _ rfl _ _ 1,zG W _ rfl _ _ 2,zG W _ rfl _ _ 3⟩
 have HJ:=zc hJ;have HY:=zc hY;clear hJ hY
 gi_wp2
 gi_loopw [6] (fun _ wr=>∃ (pre:List (Int×Int)) (f p p':Nat) (ch:Int),y6 wr W.heap.size s p p' ch/\p<=s.size/\Hid (s.size<p+f)/\Hid (pre++Pro.letM s f p=Pro.letM s (s.size+1) 0)/\Hid (J pre wr)) (fun _ wr=>s.size+1-macN wr W.heap.size)
 case atStart=>exact ⟨[],s.size+1,0,0,0,hm0,by omega,(by show _<_;omega),rfl,zb HJ _ _ _ h0 ((ze.refl _ W).alloc _)⟩
 case round=>
  obtain ⟨pre,f,p,p',ch,hM,hp,hf,hx,hj⟩:=hrel;obtain ⟨f,rfl⟩:∃ f',f=f'+1:=⟨f-1,by have:=zb hf;omega⟩
  have HM:=zc hM;have hms:=zaq hM;clear hM;cases hr:Pro.yi s p with
  |none=>
   have HE:Hid (pre=Pro.letM s (s.size+1) 0):=by
    have:=zb hx;simp only [Pro.letM] at this;rw [hr,kT] at this;exact this
   gi_wp2_with (refine ⟨trivial,?_⟩;gi_at_call 128;refine (callsIn_wide.2 (read_no (zb HM) hs hp hr)).mono ?_;rintro e w1 ⟨rfl,hO1⟩)
   refine ⟨fun _ h=>(by cases h),?_⟩;have hJ1:=zb HJ pre _ w1 (zb hj) (hO1.mono (fun k _ hk=>⟨by unfold zt at hk;omega,by unfold zt at hk;rw [hk];exact ⟨s,(zb HM).c0⟩⟩))
   gi_wp2
   go_end0
   exact ⟨⟨_,rfl⟩,by rw [<-zb HE];exact hJ1⟩
  |some qc=>
   obtain ⟨q,c⟩:=qc;have HX:Hid (pre++[((p:Int),c)]++Pro.letM s f q=Pro.letM s (s.size+1) 0):=by
    have e:Pro.letM s (f+1) p=((p:Int),c) :: Pro.letM s f q:=(by simp only [Pro.letM];rw [hr]);have:=zb hx;rw [e] at this;show _=_;rw [<-this];simp
   have hin:=XY hr
   gi_wp2_with (refine ⟨trivial,?_⟩;gi_at_call 128;refine (callsIn_wide.2 (read_yes (zb HM) hs hp hr)).mono ?_;rintro e w1 ⟨rfl,hM1,hO1⟩;have hJ1:=zb HJ pre _ w1 (zb hj) (hO1.mono (fun k _ hk=>⟨by unfold zt at hk;omega,by unfold zt at hk;rw [hk];exact ⟨s,(zb HM).c0⟩⟩));obtain ⟨fn,tmps,assign,body,hy,hR⟩:=zb HY pre ((p:Int),c) w1 hJ1 ⟨Pro.letM s f q,zb HX⟩;dsimp only at hy;have HM1:=zc hM1;obtain ⟨d0,d1,d2,d3,g1,g2,g3⟩:=hM1)
   refine hR.mono ?_;rintro e W3 ⟨rfl,hJ3,hk3⟩;have hM3:=(zb HM1).keepT hk3;have hn3:=zaq hM3
   gi_wp2
   exact ⟨⟨pre++[((p:Int),c)],f,q,p,c,hM3,by omega,(by show _<_;have:_<_:=zb hf;omega),HX,hJ3⟩,by rw [hn3,hms];omega⟩
theorem each_any (s:ByteArray)(w:World) :
  Calls prog 73 #[.string s] w fun x w'=>x = .returned (.func (.func 127) #[] #[.pointer (some ⟨w.heap.size,0,none⟩)])/\w'=w.alloc (.cells #[.string s] 9):=by
 go_enter func73,ntmps73;go_wp2_with fail;go_ret;exact ⟨rfl,rfl⟩
namespace Pro
def qj (c:Int):Int:=if c<=127 then 1 else if c<=2047 then 2 else if c<=65535 then 3 else 4
end Pro
theorem KV (c:Int)(w:World)(h0:0<=c)(h1:c<=1114111)(h2:¬(55296<=c/\c<=57343)) :
  Calls prog 74 #[.int .i32 c] w fun x w'=>x = .returned (.int .i64 (Pro.qj c))/\w'=w:=by
 by_cases a1:c<=127
 ·have HR:Hid (Pro.qj c=1):=by unfold Pro.qj;rw [if_pos a1];rfl
  go_enter func74,ntmps74;go_wp2_with fail;go_ret;rw [zb HR];exact ⟨rfl,rfl⟩
 ·by_cases a2:c<=2047
  ·have HR:Hid (Pro.qj c=2):=(by unfold Pro.qj;rw [if_neg a1,if_pos a2];rfl);go_enter func74,ntmps74;go_wp2_with fail;go_ret;rw [zb HR];exact ⟨rfl,rfl⟩
  ·by_cases a3:c<=65535
   ·have HR:Hid (Pro.qj c=3):=(by unfold Pro.qj;rw [if_neg a1,if_neg a2,if_pos a3];rfl);by_cases a4:55296<=c
    ·have a5:¬c<=57343:=fun h=>h2 ⟨a4,h⟩;clear h2;go_enter func74,ntmps74;go_wp2_with fail;go_ret;rw [zb HR];exact ⟨rfl,rfl⟩
    ·clear h2;go_enter func74,ntmps74;go_wp2_with fail;go_ret;rw [zb HR];exact ⟨rfl,rfl⟩
   ·have HR:Hid (Pro.qj c=4):=(by unfold Pro.qj;rw [if_neg a1,if_neg a2,if_neg a3];rfl);clear h2;go_enter func74,ntmps74;go_wp2_with fail;go_ret;rw [zb HR];exact ⟨rfl,rfl⟩
theorem one_len (h:Ref.oneF s p=some (n,c)):Pro.qj c=(n:Int):=by
 obtain ⟨h1,h2,h3,h4,_⟩:=Ref.qC h;have hb0:=(yL s p).2 (by omega);have hb1:=yD s p;have cases4:n=1\/n=2\/n=3\/n=4:=by omega
 have hk:Ref.headN (zd s p)=(n:Int):=by rw [Ref.W5,<-h4]
 unfold Ref.headN at hk;by_cases b1:zd s p<128
 ·rw [Ref.W6 hb0 b1] at h;obtain ⟨rfl,rfl⟩:=Prod.mk.inj (qu h);unfold Pro.qj;rw [if_pos (by omega)];rfl
 ·rw [if_neg (by omega)] at hk;by_cases b2:192<=zd s p/\zd s p<224
  ·obtain ⟨y,nn⟩:=Eqv.zau b2;by_cases hc:Eqv.cont (zd s (p+1))
   ·rw [y hc] at h;split at h
    ·cases h
    ·rename_i hb;rw [Eqv.ja] at hb;obtain ⟨rfl,rfl⟩:=Prod.mk.inj (qu h);have l2:Ref.xK ((2:Nat):Int)=128:=rfl;rw [l2] at hb;unfold Eqv.cont at hc;unfold Pro.qj;rw [if_neg (by omega),if_pos (by omega)];rfl
   ·rw [nn hc] at h;cases h
  ·by_cases b3:224<=zd s p/\zd s p<240
   ·obtain ⟨y,nn⟩:=Eqv.Q1 b3;by_cases hc:Eqv.cont (zd s (p+1))/\Eqv.cont (zd s (p+2))
    ·rw [y hc] at h;split at h
     ·cases h
     ·rename_i hb;rw [Eqv.ja] at hb;obtain ⟨rfl,rfl⟩:=Prod.mk.inj (qu h);have l2:Ref.xK ((3:Nat):Int)=2048:=rfl;rw [l2] at hb;unfold Eqv.cont at hc;unfold Pro.qj;rw [if_neg (by omega),if_neg (by omega),if_pos (by omega)];rfl
    ·rw [nn hc] at h;cases h
   ·by_cases b4:240<=zd s p/\zd s p<248
    ·obtain ⟨y,nn⟩:=Eqv.K4 b4;by_cases hc:Eqv.cont (zd s (p+1))/\Eqv.cont (zd s (p+2))/\Eqv.cont (zd s (p+3))
     ·rw [y hc] at h;split at h
      ·cases h
      ·rename_i hb;rw [Eqv.ja] at hb;obtain ⟨rfl,rfl⟩:=Prod.mk.inj (qu h);have l2:Ref.xK ((4:Nat):Int)=65536:=rfl;rw [l2] at hb;unfold Eqv.cont at hc;unfold Pro.qj;rw [if_neg (by omega),if_neg (by omega),if_neg (by omega)];rfl
     ·rw [nn hc] at h;cases h
    ·rw [if_neg b2,if_neg b3,if_neg b4] at hk;omega
attribute [local go_sem] Oper.semAt_some
namespace Pro
def xg:List (Int×Int)->List Value
 | []=>[]
 |(a,b) :: r=>.int .i64 a :: .int .i32 b :: xg r
theorem Xt (m:List (Int×Int)):xg (l++m)=xg l++xg m:=by
 induction l with
 |nil=>rfl
 |cons x l ih=>obtain ⟨a,b⟩:=x;simp [xg,ih]
def j8 (l:List (Int×Int)):Int:=l.foldl (fun _ x=>x.1+qj x.2) 0
theorem XZ (x:Int×Int):j8 (l++[x])=x.1+qj x.2:=by unfold j8;simp
theorem XB (s:ByteArray):∀ (f p:Nat) (x:Int×Int),x∈letM s f p->0<=x.1/\x.1<=s.size/\0<=x.2/\x.2<=1114111/\¬(55296<=x.2/\x.2<=57343)
 |0,_,x,h=>by simp [letM] at h
 |f+1,p,x,h=>by
  simp only [letM] at h;by_cases hp:p<s.size
  ·rw [Eqv.jE hp] at h;cases h1:Ref.oneF s p with
   |none=>rw [h1] at h;simp [Eqv.ahead] at h
   |some nc=>
    obtain ⟨m,d⟩:=nc;rw [h1] at h;simp only [Eqv.ahead,qP] at h;have hb:=Ref.qC h1;rcases h with rfl |h
    ·exact ⟨(by show (0:Int)<=(p:Int);omega),(by show (p:Int)<=s.size;omega),hb.2.2.2.2.1,hb.2.2.2.2.2.1,hb.2.2.2.2.2.2⟩
    ·exact XB s f _ x h
  ·rw [show yi s p=none by unfold yi;rw [if_neg hp]] at h;simp at h
theorem qG (s:ByteArray):∀ (f p:Nat),(letM s f p).length<=f
 |0,_=>by simp [letM]
 |f+1,p=>by
  simp only [letM];split
  ·simp
  ·simp;exact qG s f _
theorem KW (c:Int):1<=qj c/\qj c<=4:=by unfold qj;(repeat' split)<;>omega
end Pro
theorem ze.later {P Q:Nat->Prop}{a w w':World}(h:ze P a w)(k:ze Q w w')(hq:∀ i,Q i->a.heap.size<=i):ze P a w':=
 ⟨k.os.trans h.os,k.tape.trans h.tape,k.output.trans h.output,yZ h.size k.size,fun i hi hp=>(k.block i (yh hi h.size) (fun q=>by have:=hq i q;omega)).trans (h.block i hi hp)⟩
theorem Tryz.infoLetter:(prog.info? 184).map (fun i=>(i.zero,i.size,i.bytes))=some (some (.agg #[.int .i64 0,.int .i32 0]),2,16):=by kernel_rfl
def LetI (w:World)(pre:List (Int×Int))(W:World):Prop:=∃ v,Boxed W w.heap.size 108 v/\W.ownsRow (w.heap.size+3) 184 2 v pre.length (Pro.xg pre)/\(pre=[]->v = .slice none 0 0)/\
 Boxed W (w.heap.size+1) 3 (.int .i64 (Pro.j8 pre))/\Q8 w W/\w.heap.size+3<=W.heap.size
theorem LetI.keep {A A':World}(h:LetI w pre A)(hA:ze (fun k=>w.heap.size+3<=k/\(strB A k\/∃ o,A.heap[k]?=some o/\o.isCells=false)) A A'):LetI w pre A':=by
 obtain ⟨v,h1,h2,h3,h4,h5,h6⟩:=h;refine ⟨v,(hA.block _ h1.lt (fun hp=>by omega)).trans h1,?_,h3,(hA.block _ h4.lt (fun hp=>by omega)).trans h4,h5.later hA (fun i hi=>by omega),yZ h6 hA.size⟩;refine ⟨h2.1,?_⟩;rcases h2.2 with ⟨rfl,e⟩ |⟨g,cap,cur,rfl,hb,hg,hc,hm,hs,ht⟩
 ·exact .inl ⟨rfl,e⟩
 ·refine .inr ⟨g,cap,cur,rfl,hb,(hA.block g (yK.1 hg).1 ?_).trans hg,hc,hm,hs,ht⟩;rintro ⟨_,hq⟩;rcases hq with ⟨t,hq⟩ |⟨o,ho,hq⟩
  ·cases pre with
   |nil=>have:=h3 rfl;cases this
   |cons x r=>
    have e0:=h2.cellAt 0 (by simp);rw [e0] at hq;simp [Pro.xg] at hq
  ·rw [hg] at ho;cases ho;cases hq
theorem LetI.keepT {W W':World}{pre:List (Int×Int)}{v:Value}{e:Int}(h1:Boxed W w.heap.size 108 v)(hv:∃ a b c,v = .slice a b c)(h2:W.ownsRow (w.heap.size+3) 184 2 v pre.length (Pro.xg pre))(h3:pre=[]->v = .slice none 0 0)
  (h4:Boxed W (w.heap.size+1) 3 (.int .i64 e)) (hA:ze (fun k=>k=w.heap.size\/k=w.heap.size+1\/v.ownBlock=some k) W W'):kW W W':=by
 refine ⟨hA.size,?_⟩;rintro k ⟨t,ht⟩;refine hA.block k (zE W _ ht) ?_;rintro (rfl |rfl |hk)
 ·obtain ⟨a,b,c,rfl⟩:=hv;rw [h1.cell] at ht;cases ht
 ·rw [h4.cell] at ht;cases ht
 ·rcases h2.2 with ⟨rfl,e⟩ |⟨g,cap,cur,rfl,_⟩
  ·simp [Value.ownBlock] at hk
  ·simp [Value.ownBlock] at hk;subst hk;cases pre with
   |nil=>have:=h3 rfl;cases this
   |cons x r=>
    have e0:=h2.cellAt 0 (by simp);rw [e0] at ht;simp [Pro.xg] at ht
theorem Y9 (s:ByteArray)(most:Int)(hm:(s.size:Int)<=most)(hs:s.size<=400)(w:World)(T:TypeId)(y:Value)(hsent:w.cell? ⟨1,0,none⟩=some (.iface T y))(_hw:11<=w.heap.size) :
  Calls prog 39 #[.string s,.int .i64 most] w fun x w'=>Q8 w w'/\
   ((¬Pro.j8 (Pro.letM s (s.size+1) 0)<s.size/\∃ v,x = .returned (.tuple #[v,.nilIface])/\w'.ownsRow (w.heap.size+3) 184 2 v (Pro.letM s (s.size+1) 0).length (Pro.xg (Pro.letM s (s.size+1) 0)))\/
    (Pro.j8 (Pro.letM s (s.size+1) 0)<s.size/\∃ v,x = .returned (.tuple #[.slice none 0 0,v])/\zI w' w.heap.size v (.iface T y) (Pro.j8 (Pro.letM s (s.size+1) 0)))):=by
 obtain ⟨i0,hi,hz0,hz1,hz2⟩:=info_parts Tryz.infoLetter;refine (callsIn_wide (n:=5)).1 ?_;refine callsIn_of_wp_marks func39 rfl trivial ?_ rfl;simp only [ntmps39,jZ,qH,jU,Nat.reduceAdd,Nat.reduceSub,wO,wl,Z1,Zr,kB,jS]
 gi_wp2_with (refine ⟨trivial,?_⟩;gi_at_call 73;refine (callsIn_wide.2 (each_any s _)).mono ?_;rintro e w1 ⟨rfl,rfl⟩)
 have b1:=((Boxed.new w 108 (.slice none 0 0)).alloc (.cells #[.int .i64 0] 3)).alloc (.cells #[.string s] 9);have b2:=(Boxed.new (w.alloc (.cells #[.slice none 0 0] 108)) 3 (.int .i64 0)).alloc (.cells #[.string s] 9);have b3:=(Boxed.new ((w.alloc (.cells #[.slice none 0 0] 108)).alloc (.cells #[.int .i64 0] 3)) 9 (.string s)).cell;have hO0:Q8 w (((w.alloc (.cells #[.slice none 0 0] 108)).alloc (.cells #[.int .i64 0] 3)).alloc (.cells #[.string s] 9)):=(((ze.refl _ w).alloc _).alloc _).alloc _;have hz:(((w.alloc (.cells #[.slice none 0 0] 108)).alloc (.cells #[.int .i64 0] 3)).alloc (.cells #[.string s] 9)).heap.size=w.heap.size+3:=by simp
 simp only [Yz] at b2 b3;generalize (((w.alloc (.cells #[.slice none 0 0] 108)).alloc (.cells #[.int .i64 0] 3)).alloc (.cells #[.string s] 9))=W0 at *;have HS:=zc (And.intro hi (And.intro hz0 (And.intro hz1 hz2)));clear hi hz0 hz1 hz2;refine KS (F:=Fence.wide) rfl (by omega) (gf:=127) (lb:=#[.pointer (some ⟨w.heap.size+1+1,0,none⟩)]) rfl trivial (enters_of func127 (by kernel_rfl) rfl)
  (each_seq s hs (w.heap.size+1+1) W0 b3 4 (by omega)) (fun _=>rfl) (LetI w) (fun pre A A' h hA=>h.keep (hA.mono (fun k _ hp=>⟨by have:=hp.1;omega,hp.2⟩)))
  ⟨.slice none 0 0,b1,qD _ _ _ _,fun _=>rfl,b2,hO0,by omega⟩
  (fun x=>{ tmps:=#[.string s,.int .i64 most,undef,undef,.slice none 0 0,.nilIface,.pointer (some ⟨w.heap.size,0,none⟩),.pointer (some ⟨w.heap.size+1,0,none⟩),.int .i64 x.1,.int .i32 x.2,.string s,.int .i64 (s.size:Nat),.int .i64 most,.bool (decide (most<(s.size:Int))),undef,undef,undef,.string s,.func (.func 127) #[] #[.pointer (some ⟨w.heap.size+1+1,0,none⟩)],.int .i64 x.1,.int .i32 x.2,undef,undef,undef,undef,undef,undef,undef,undef,undef,undef,undef,undef,undef,undef,undef,undef,undef,undef],defers:=[] }) ?assign ?body ?done
 case assign=>
  intro l x W K hK
  gi_wp2
  exact hK
 case body=>
  rintro l pre x W ⟨v,bv,hrow,hnil,bE,hO,hsz⟩ hpre;obtain ⟨hi,hz0,hz1,hz2⟩:=zb HS;have hmem:=Pro.XB s (s.size+1) 0 x (hpre.subset (by simp));have hlen:pre.length+1<=401:=by have:=hpre.length_le;have h2:=Pro.qG s (s.size+1) 0;simp at this;omega
  obtain ⟨hx0,hx1,hc0,hc1,hc2⟩:=hmem;have hrn:=Pro.KW x.2;obtain ⟨pa,pn,pc,rfl⟩:=zy hrow;have k1:=bv.cell;have Hrow:=zc hrow;obtain ⟨xa,xc⟩:=x;simp only [] at hx0 hx1 hc0 hc1 hc2 hrn ⊢
  gi_wp2_with (gi_at_builtin;refine zb ?_)
  refine zc ?_;refine wpListIn_append_own _ rfl _ _ 108 rfl (w.heap.size+3) 184 i0 (.agg #[.int .i64 0,.int .i32 0]) 2 16 underlying108 hi hz0 hz1 hz2 rfl (by decide) (.slice pa pn pc) _ _ rfl (xR hrow _) ⟨W.heap.size,0,none⟩ 1 1 [.int .i64 xa,.int .i32 xc] rfl rfl (cell_two_new _ _ _ _) (fun u hu=>by simp at hu;rcases hu with rfl |rfl<;>rfl) (by unfold maxLen;omega) (by omega) (by simp;omega) ?_;intro v' w1 hown' hgrow _;obtain ⟨g',cap',rfl⟩:=ownsRow_succ hown';have bv1:Boxed w1 w.heap.size 108 (.slice pa pn pc):=(bv.alloc _).kept hgrow (bv.not_row (by decide) hrow);have bE1:Boxed w1 (w.heap.size+1) 3 (.int .i64 (Pro.j8 pre)):=(bE.alloc _).kept hgrow (bE.not_row (by decide) hrow);have bE2:=bE1.other (B':=w.heap.size) (by omega) (.slice (some ⟨g',0,none⟩) (pre.length+1) cap');have HOW:Hid (ze (fun k=>k=w.heap.size\/k=w.heap.size+1\/(Value.slice pa pn pc).ownBlock=some k) W w1):=((ze.refl _ W).alloc _).grown hgrow (fun k e=>.inl (.inr (.inr e)));have HKO:Hid (KeepsOthers W w1):=(KeepsOthers.alloc W _).trans (KeepsOthers.of_grownBy hgrow fun q o ej hj=>by
   rcases (xR hrow (.cells #[.int .i64 xa,.int .i32 xc] 184)).2 with ⟨e,_⟩ |⟨g,cap,cur,e,_,hgb,_⟩
   ·cases e;simp [Value.ownBlock] at ej
   ·cases e;obtain rfl:g=q:=(by simpa [Value.ownBlock] using ej);rw [hgb] at hj;cases hj;rfl)
  have r1:=bv1.cell;have r2:=bv1.frozen;have r3:=bE2.cell;have r4:=bE2.frozen;have HOWN:=zc hown';have HB1:=zc bv1;have HB2:=zc bE2;have HB0:=zc bE;have HBV:=zc bv;clear hrow hown' hgrow bv1 bE2 bE1 bE bv
  gi_wp2_with (refine ⟨trivial,?_⟩;gi_at_call 74;refine (CallsIn.inRound l (callsIn_wide.2 (KV xc _ hc0 hc1 hc2))).mono ?_;rintro e wq ⟨rfl,hwq⟩;obtain rfl:=hwq.symm;clear hwq)
  have HO2:=((zb HOW).setCell (p:=⟨w.heap.size,0,none⟩) (.inl (.inl rfl)) (.slice (some ⟨g',0,none⟩) (pre.length+1) cap')).setCell (p:=⟨w.heap.size+1,0,none⟩) (.inl (.inr (.inl rfl))) (.int .i64 (xa+Pro.qj xc));have own1:=(zb HOWN).kept (grownBy_setCell' w1 w.heap.size (.slice (some ⟨g',0,none⟩) (pre.length+1) cap')) (.inr (Boxed.not_row (zb HB1) (by decide) (zb HOWN)).symm);have own2:=own1.kept (grownBy_setCell' _ (w.heap.size+1) (.int .i64 (xa+Pro.qj xc))) (.inr (Boxed.not_row (zb HB2) (by decide) own1).symm);refine ⟨(((zb HKO).trans (KeepsOthers.setCell _ _ _)).trans (KeepsOthers.setCell _ _ _)).from _,LetI.keepT (zb HBV) ⟨pa,pn,pc,rfl⟩ (zb Hrow) hnil (zb HB0) HO2,?_⟩;refine ⟨.slice (some ⟨g',0,none⟩) (pre.length+1) cap',Boxed.other (Boxed.set _ (zb HB1)) (by omega) _,?_,fun h=>by simp at h,?_,hO.later HO2 ?_,yZ hsz HO2.size⟩
  ·rw [Pro.Xt,yS];exact own2
  ·rw [Pro.XZ];exact Boxed.set _ (zb HB2)
  ·rintro i (rfl |rfl |hi)
   ·omega
   ·omega
   ·have:=(zb Hrow).lt i hi;omega
 case done=>
  rintro D W hD ⟨v,bv,hrow,hnil,bE,hO,hsz⟩ hK;have hen:0<=Pro.j8 (Pro.letM s (s.size+1) 0)/\Pro.j8 (Pro.letM s (s.size+1) 0)<=500:=by
   rcases List.eq_nil_or_concat (Pro.letM s (s.size+1) 0) with e |⟨pre,x,e⟩
   ·rw [e];simp [Pro.j8]
   ·have hm:=Pro.XB s (s.size+1) 0 x (by rw [e];simp);have hr:=Pro.KW x.2;rw [e,List.concat_eq_append,Pro.XZ];omega
  have hs1:=(hO.cell (p:=⟨1,0,none⟩) (zE w _ hsent) (fun f=>f)).trans hsent;obtain ⟨pa,pn,pc,rfl⟩:=zy hrow;have k1:=bv.cell;have k2:=bE.cell;generalize hEn:Pro.j8 (Pro.letM s (s.size+1) 0)=en at *;by_cases hE:en<s.size
  ·gi_wp2_with (refine ⟨trivial,?_⟩;gi_at_call 45;refine (callsIn_wide.2 (wX T y en _)).mono ?_;rintro e w1 ⟨v,rfl,hv,hO1⟩)
   subst hEn;have hDl:D<W.heap.size:=(yK.1 hK).1;have hK1:=(hO1.block D hDl (fun f=>f)).trans hK;refine ⟨by simp,.inl ⟨_,_,rfl,run_takeDeferred hK1,?_⟩⟩;refine ⟨_,results_tmp2 rfl _ _ _,((hO.trans hO1).putObj _ _ (.inr (by omega))),.inr ⟨v,rfl,?_⟩⟩;exact (hv.keep ((ze.refl (fun k=>k=D) w1).putObj D _ (.inl rfl)) (fun g hg=>by omega)).base (base':=w.heap.size) (by omega)
  ·gi_wp2
   subst hEn;refine ⟨by simp,.inl ⟨_,_,rfl,run_takeDeferred hK,?_⟩⟩;refine ⟨_,results_tmp2 rfl _ _ _,(hO.putObj _ _ (.inr (by omega))),.inl ⟨_,rfl,ownsRow_putObj hrow _ hK rfl⟩⟩
end
end Go.Proofs.YtcgleficedipkaaGreatDoor
