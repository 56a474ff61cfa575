/- The shelf's contracts of slices, laid at this program. -/
import Derived.Test.YtcgleficedipkaaGreatDoorYBldABldF
import Derived.Shelf.SlicesE.Compact
import Derived.Shelf.SlicesQ.IndexFunc
import Derived.Ground.SlgnProg
import Derived.Ground.SlgfProg
import Derived.Test.YtcgleficedipkaaGreatDoorYMatAMatM
namespace Go.Proofs.YtcgleficedipkaaGreatDoor
section
open Go.RowKit Go.Shelf Go.Lib Go.Sort
def Xv:Go.Shelf.Ren:=⟨fun |43=>125 |n=>n,fun |22=>166 |23=>21 |3=>3 |4=>4 |0=>0 |n=>n,fun |n=>n⟩
theorem Vw:Go.Proofs.SlLaysE.n43 Tryz.prog Xv:={
 mixed:=by kernel_rfl
 f43:=⟨Tryz.f125.name,by decide,Tryz.func125.trans (congrArg some (by kernel_rfl))⟩
 t0:=Tryz.underlying0
 a0:=Tryz.isAgg0
 z0:=Tryz.sizeOf0
 v0:=Tryz.zeroValue0
 t3:=Tryz.underlying3
 a3:=Tryz.isAgg3
 z3:=Tryz.sizeOf3
 v3:=Tryz.zeroValue3
 t4:=Tryz.underlying4
 a4:=Tryz.isAgg4
 z4:=Tryz.sizeOf4
 v4:=Tryz.zeroValue4
 t22:=Tryz.underlying166
 a22:=Tryz.isAgg166
 z22:=Tryz.sizeOf166
 v22:=Tryz.zeroValue166
 a23:=Tryz.isAgg21
 z23:=Tryz.sizeOf21 }
def YM:Go.Shelf.Ren:=⟨fun |8=>68 |6=>121 |n=>n,fun |22=>154 |23=>164 |25=>170 |4=>4 |3=>3 |0=>0 |n=>n,fun |n=>n⟩
theorem Kn:Go.Proofs.SlLaysH0.n8 Tryz.prog YM:={
 mixed:=by kernel_rfl
 f6:=⟨Tryz.f121.name,by decide,Tryz.func121.trans (congrArg some (by kernel_rfl))⟩
 f8:=⟨Tryz.f68.name,by decide,Tryz.func68.trans (congrArg some (by kernel_rfl))⟩
 t0:=Tryz.underlying0
 a0:=Tryz.isAgg0
 z0:=Tryz.sizeOf0
 v0:=Tryz.zeroValue0
 t3:=Tryz.underlying3
 a3:=Tryz.isAgg3
 z3:=Tryz.sizeOf3
 v3:=Tryz.zeroValue3
 t4:=Tryz.underlying4
 a4:=Tryz.isAgg4
 z4:=Tryz.sizeOf4
 v4:=Tryz.zeroValue4
 t22:=Tryz.underlying154
 a22:=Tryz.isAgg154
 z22:=Tryz.sizeOf154
 v22:=Tryz.zeroValue154
 t25:=Tryz.underlying170
 a25:=Tryz.isAgg170
 z25:=Tryz.sizeOf170
 v25:=Tryz.zeroValue170 }
theorem Vx {w:World}{blk q:Nat}{d:Array Int}:ze (zt blk) w (putRow (Value.int .i32) (Sort.ahead w q) blk 0 d):=by
 refine ⟨rfl,rfl,rfl,by simp,fun k hk hn=>?_⟩
 have hne:k≠blk:=hn
 unfold putRow mapBlock Sort.ahead
 simp only [Array.getElem?_modify,Ne.symm hne,if_false]
end
section
open Go.RowKit Go.Shelf
open Sm (Stp)
set_option maxHeartbeats 4000000
set_option maxRecDepth 1000000
attribute [local go_sem] Oper.semAt_some
theorem jV:∀ (Z:List (Stp×Value)) (j:Nat) (z:Stp×Value),Z[j]?=some z→(yt Z)[j*5]?=some (.int .i64 (z.1.kind:Nat))∧(yt Z)[j*5+1]?=some z.2∧(yt Z)[j*5+2]?=some (.int .i64 z.1.asr)∧(yt Z)[j*5+3]?=some (.int .i64 (z.1.next:Nat))∧(yt Z)[j*5+4]?=some (.int .i64 (z.1.other:Nat))
 | [],j,z,h=>by simp at h
 |x :: Z,0,z,h=>by simp at h;subst h;simp [yt]
 |x :: Z,j+1,z,h=>by
  have:=jV Z j z (by simpa using h)
  rw [show (j+1)*5=j*5+5 by omega]
  simpa [yt] using this
structure StpsAt (w:World)(pb g cap:Nat)(Z:List (Stp×Value))(wv:Value):Prop where
 c0:w.cell? ⟨pb,0,none⟩=some (.slice (some ⟨g,0,none⟩) Z.length cap)
 c2:w.cell? ⟨pb,2,none⟩=some wv
 le:Z.length≤cap
 row:∀ j u,(yt Z)[j]?=some u→w.cell? ⟨g,j,none⟩=some u
 gl:g<w.heap.size
abbrev Slc:=Option Addr×Nat×Nat
def slV (p:Slc):Value:=.slice p.1 p.2.1 p.2.2
def Qn (p:Slc):Array Value:=#[.agg #[slV p]]
theorem Vy (pb g cap kb:Nat)(Z:List (Stp×Value))(ws:Slc)(zs:List Slc)(w0:World)(h:StpsAt w0 pb g cap Z (slV ws))(hkb:w0.cell? ⟨kb,0,none⟩=some (.pointer (some ⟨pb,0,none⟩)))(hz:Z.map Prod.snd=zs.map slV)(hl:Z.length≤1000)(n:Nat)(hn1:1≤n) :
  SeqO Fence.wide n Tryz.prog 126 #[.pointer (some ⟨kb,0,none⟩)] Qn (ws :: zs) (fun k=>k=kb∨k=pb∨k=g) w0:=by
 intro lp J O0 W hO hD hO0 hJ hY h0
 have hkl:=World.block_lt_of_cell? w0 _ hkb
 have hpl:=World.block_lt_of_cell? w0 _ h.c0
 have hgl:=h.gl
 have HK:Hid (qT (fun k=>k=kb∨k=pb∨k=g) w0 W O0):=qT.start (fun k hk=>by rcases hk with rfl |rfl |rfl;exact hkl;exact hpl;exact hgl) hO hD
 have hk1:=((zb HK).cell (p:=⟨kb,0,none⟩) (.inl rfl)).trans hkb
 have hk2:=((zb HK).cell (p:=⟨pb,2,none⟩) (.inr (.inl rfl))).trans h.c2
 have HH:=zc h
 have HJ:=zc hJ
 have HY:=zc hY
 have HZ:=zc hz
 have hsW:=hO.size
 have hzl:zs.length=Z.length:=by have:=congrArg List.length hz;simpa using this.symm
 obtain ⟨fn,tmps,assign,body,hy,hR⟩:=hY [] O0 ws W h0 (by simp)
 obtain ⟨wa,wn,wc⟩:=ws
 simp only [Qn,slV] at hy hk2
 clear h hJ hY h0 hD hO0 hz
 refine callsIn_of_wp Tryz.func126 rfl trivial ?_ rfl
 simp only [Tryz.ntmps126,List.size_toArray,List.length_cons,List.length_nil,Nat.reduceAdd,Nat.reduceSub,Array.replicate_succ,Array.replicate_zero,List.push_toArray,List.append_toArray,List.nil_append,List.cons_append]
 gi_wp2
 refine hR.mono ?_
 rintro e W1 ⟨rfl,O1,hJ1,hs1,hO1,hlt1⟩
 have HJ1:=zc hJ1
 have HK1:=zc ((zb HK).yield hs1 hO1)
 have hm1:=((zb HK1).cell (p:=⟨kb,0,none⟩) (.inl rfl)).trans hkb
 have hm2:=((zb HK1).cell (p:=⟨pb,0,none⟩) (.inr (.inl rfl))).trans (zb HH).c0
 clear hJ1 hs1 hO1 hlt1 hk1 hk2 hy hR HK
 gi_wp2
 gi_loopw [17] (fun vi wr=>∃ (i:Nat) (O:Nat→Prop),vi = .int .i64 i∧i≤Z.length∧Hid (J (((wa,wn,wc):Slc) :: zs.take i) O wr)∧Hid (qT (fun k=>k=kb∨k=pb∨k=g) w0 wr O)) (fun vi _=>Z.length-(intOf vi).toNat)
 case atStart=>exact ⟨0,O1,rfl,by omega,HJ1,HK1⟩
 case round=>
  clear HK1 HJ1
  obtain ⟨i,O,rfl,hi,HJ1,HK⟩:=hrel
  by_cases hlt:i<Z.length
  ·have hget:Z[i]?=some Z[i]:=List.getElem?_eq_getElem hlt
   obtain ⟨f0,f1,f2,f3,f4⟩:=jV Z i _ hget
   have kc:∀ q u,(yt Z)[q]?=some u→wr.cell? ⟨g,q,none⟩=some u:=fun q u hq=>((zb HK).cell (p:=⟨g,q,none⟩) (.inr (.inr rfl))).trans ((zb HH).row q u hq)
   have c0:=kc _ _ f0
   have c1:=kc _ _ f1
   have c2:=kc _ _ f2
   have c3:=kc _ _ f3
   have c4:=kc _ _ f4
   obtain ⟨⟨xa,xn,xc⟩,hzi⟩:∃ q,zs[i]?=some q:=⟨_,List.getElem?_eq_getElem (show i<zs.length by omega)⟩
   have hxe:Z[i].2 = .slice xa xn xc:=by
    have h1:(Z.map Prod.snd)[i]?=(zs.map slV)[i]?:=by rw [zb HZ]
    rw [List.getElem?_map,List.getElem?_map,hget,hzi] at h1
    simpa [slV] using h1
   have hzg:zs[i]'(by omega)=(xa,xn,xc):=by
    obtain ⟨h1,h2⟩:=List.getElem?_eq_some_iff.1 hzi
    exact h2
   have HP:Hid ((((wa,wn,wc):Slc) :: zs.take i++[(xa,xn,xc)]) <+: (((wa,wn,wc):Slc) :: zs)):=by
    rw [List.cons_append,←hzg]
    exact (List.cons_prefix_cons).2 ⟨rfl,X5 _ i (by omega)⟩
   have HT:Hid (((wa,wn,wc):Slc) :: zs.take i++[(xa,xn,xc)]=((wa,wn,wc):Slc) :: zs.take (i+1)):=by
    rw [List.cons_append,←hzg,kY _ i (by omega)]
    rfl
   rw [hxe] at c1
   clear hget f0 f1 f2 f3 f4 kc hzi hzg
   generalize Z[i]=y at *
   obtain ⟨⟨yk,yl,ya,yn,yo⟩,yv⟩:=y
   simp only [] at hxe c0 c2 c3 c4
   clear hxe
   have hJ2:=zb HJ _ O wr (wr.alloc (.cells #[.int .i64 (yk:Nat),.slice xa xn xc,.int .i64 ya,.int .i64 (yn:Nat),.int .i64 (yo:Nat)] 164)) (zb HJ1) ((ze.refl _ wr).alloc _)
   have HK2:=zc ((zb HK).young (W:=W) hsW (A':=wr.alloc (.cells #[.int .i64 (yk:Nat),.slice xa xn xc,.int .i64 ya,.int .i64 (yn:Nat),.int .i64 (yo:Nat)] 164)) ((ze.refl _ wr).alloc _))
   obtain ⟨fn,tmps,assign,body,hy,hR⟩:=zb HY _ O (xa,xn,xc) _ hJ2 (zb HP)
   simp only [Qn,slV] at hy
   clear hJ2
   gi_wp2
   refine hR.mono ?_
   rintro e W3 ⟨rfl,O',hJ3,hs3,hO3,hlt3⟩
   have HK3:=zc ((zb HK2).yield hs3 hO3)
   gi_wp2
   exact ⟨⟨i+1,O',by go_num,by omega,(by rw [←zb HT];exact hJ3),zb HK3⟩,by simp [intOf];omega⟩
  ·obtain rfl:i=Z.length:=by omega
   gi_wp2
   go_end0
   exact ⟨⟨_,rfl⟩,O,by have:=zb HJ1;rwa [List.take_of_length_le (by omega)] at this⟩
attribute [local go_sem] Oper.semAt_some
theorem Ko {F:Fence}{nF:Nat}{P:Program}(w:World){ops:Array Oper}{rest:List Oper}{o:Oper}{a:Act}{Q:Exit→Act→World→Prop}(hgd:o.guard=none)(s x:Operand)(t:TypeId)
  (ho:o.op = .call { callee:=.builtin .append,args:=#[s,x],argTypes:=#[t,t] })
  (base:Nat) (e:TypeId) (i:TypeInfo) (z:Value) (size bytes:Nat) (ht:P.underlying t=some (.slice e)) (hi:P.info? e=some i) (hz:i.zero=some z)
  (hsize:i.size=size) (hby:i.bytes=bytes) (hzs:z.cells.size=size) (hsz:0<size)
  (v:Value) (n:Nat) (xs:List Value) (hs:a.eval s=v) (hown:w.ownsRow base e size v n xs)
  (ad:Addr) (m c:Nat) (news:List Value) (hx:a.eval x = .slice (some ad) m c) (hl:news.length=m*size) (hnews:∀ j u,news[j]?=some u→w.cell? (ad.add j)=some u) (h1:∀ u∈news,u.oneCell'=true)
  (_hm:0<m) (h63:n+m≤maxLen) (hbytes:(n+m)*bytes≤140737488355328) (hbase:base≤w.heap.size)
  (h:∀ v' w',w'.ownsRow base e size v' (n+m) (xs++news)→w.grownBy w' v.ownBlock→(∀ k,v'.ownBlock=some k→v.ownBlock=some k∨w.heap.size≤k)→wpListIn F nF P ops Q rest (a.put o.dst v') w'):wpListIn F nF P ops Q (o :: rest) a w:=by
 have hgr:∀ w' row,w.grownBy w' none→w.grownBy w' row:=fun w' row g=>⟨g.os,g.tape,g.output,g.size,fun k hk _=>g.block k hk (by simp)⟩
 rcases hown.2 with ⟨rfl,rfl⟩ |⟨g,cap,cur,rfl,hbg,hg,hnc,hcm,hcs,htake⟩
 ·have hxs:xs=[]:=List.eq_nil_of_length_eq_zero (by simpa using hown.1)
  subst hxs
  exact wpListIn_append_own w hgd s x t ho w.heap.size e i z size bytes ht hi hz hsize hby hzs hsz _ 0 [] hs (World.ownsRow_nil _ _ _ _) ad m c news hx hl hnews h1 h63 hbytes (Nat.le_refl _) (fun v' w' h2 h3 _=>h v' w' (xd h2 hbase) h3 (fun k hk=>.inr (h2.lt k hk).1))
 ·by_cases hroom:n+m≤cap
  ·exact wpListIn_append_fits w hgd s x t ho base e i size ht hi hsize g n cap xs hs hown ad m c news hx hl hnews h1 hroom (fun w' h2 h3=>h _ w' h2 h3 (fun k hk=>.inl hk))
  ·refine wpListIn_plain hgd fun K hK'=>?_
   obtain ⟨v',w',hrun,r1,r2⟩:=run_append_arg_grows (P:=P) w t o.type e i z size bytes ht hi hz hsize hby hzs hsz ⟨g,0,none⟩ n cap xs hown.1 (hown.cells (g:=g) rfl) ad m c news hl hnews (by omega) h63 hbytes
   unfold Oper.wpIn
   refine ⟨?_,?_⟩
   ·simp [Oper.about,ho,resolve,Target.leads,Sem.run_pure]
   ·rw [Oper.semAt_plain F _ _ (by rw [ho];intro c hc';cases hc')]
    simp [execOp,ho,resolve,invoke,builtin,hs,hx,hrun,Result.andThen]
    exact hK' _ _ (h v' w' (xd r1 hbase) (hgr _ _ r2) (fun k hk=>.inr (r1.lt k hk).1))
theorem Tryz.infoRune:(Tryz.prog.info? 21).map (fun i=>(i.zero,i.size,i.bytes))=some (some (.int .i32 0),1,4):=by kernel_rfl
def xw (cs:List Int):List Value:=cs.map (Value.int .i32)
theorem YN (a b:List Int):xw (a++b)=xw a++xw b:=by simp [xw]
abbrev Stl:=Nat×Slc×Int×Nat×Nat
def wu (x:Stl):List Value:=[.int .i64 (x.1:Nat),slV x.2.1,.int .i64 x.2.2.1,.int .i64 (x.2.2.2.1:Nat),.int .i64 (x.2.2.2.2:Nat)]
def asksW (x:Stl):Bool:=decide (x.1=2) && (decide (x.2.2.1=2) ||decide (x.2.2.1=3))
theorem asks_any (x:Stl)(w:World):Calls Tryz.prog 69 #[.agg (wu x).toArray] w fun e w'=>e = .returned (.bool (asksW x))∧ze (fun _=>False) w w':=by
 obtain ⟨k,⟨pa,pn,pc⟩,a,n,o⟩:=x
 unfold wu asksW slV
 simp only []
 have HO:Hid (ze (fun _=>False) w (w.alloc (.cells #[.int .i64 (k:Nat),.slice pa pn pc,.int .i64 a,.int .i64 (n:Nat),.int .i64 (o:Nat)] 164))):=(ze.refl _ _).alloc _
 by_cases hk:k=2
 ·subst hk
  by_cases h2:a=2
  ·subst h2
   go_enter Tryz.func69,Tryz.ntmps69
   go_wp2
   go_ret
   exact ⟨by simp,zb HO⟩
  ·have h2d:(a == 2)=false:=by simp [h2]
   by_cases h3:a=3
   ·subst h3
    go_enter Tryz.func69,Tryz.ntmps69
    go_wp2
    go_ret
    exact ⟨by simp,zb HO⟩
   ·have h3d:(a == 3)=false:=by simp [h3]
    go_enter Tryz.func69,Tryz.ntmps69
    go_wp2
    go_ret
    exact ⟨by simp [h2,h3],zb HO⟩
 ·have hkd:((k:Int) == 2)=false:=by simp;omega
  go_enter Tryz.func69,Tryz.ntmps69
  go_wp2
  go_ret
  exact ⟨by simp [hk],zb HO⟩
theorem Vz (pb:Nat)(w:World):Calls Tryz.prog 72 #[.pointer (some ⟨pb,0,none⟩)] w fun e w'=>∃ v,e = .returned v∧∃ kb,v = .func (.func 126) #[] #[.pointer (some ⟨kb,0,none⟩)]∧w.heap.size≤kb∧w'.cell? ⟨kb,0,none⟩=some (.pointer (some ⟨pb,0,none⟩))∧ze (fun _=>False) w w':=by
 have HO:Hid (∃ kb,Value.func (.func 126) #[] #[.pointer (some ⟨w.heap.size,0,none⟩)] = .func (.func 126) #[] #[.pointer (some ⟨kb,0,none⟩)]∧w.heap.size≤kb∧(w.alloc (.cells #[.pointer (some ⟨pb,0,none⟩)] 95)).cell? ⟨kb,0,none⟩=some (.pointer (some ⟨pb,0,none⟩))∧ze (fun _=>False) w (w.alloc (.cells #[.pointer (some ⟨pb,0,none⟩)] 95))):=⟨_,rfl,Nat.le_refl _,zm w _ rfl _ _ 0 _ rfl,(ze.refl _ _).alloc _⟩
 go_enter Tryz.func72,Tryz.ntmps72
 go_wp2_with fail
 go_ret
 exact ⟨_,rfl,zb HO⟩
structure jk (w V:World)(pb g cap st:Nat)(Z:List (Stp×Value))(ws:Slc)(W:Int→Bool):Prop where
 at':StpsAt V pb g cap Z (slV ws)
 c1:V.cell? ⟨pb,1,none⟩=some (.int .i64 (st:Nat))
 c3:∃ u,V.cell? ⟨pb,3,none⟩=some u
 f2:V.frozen? ⟨pb,2,none⟩=false
 f3:V.frozen? ⟨pb,3,none⟩=false
 sets:∀ z∈Z,yQ V (fun k=>w.heap.size≤k∧k≠pb) (.agg #[z.2]) (Prg.setP z.1)
 word:yQ V (fun k=>w.heap.size≤k∧k≠pb) (.agg #[slV ws]) W
 own:w.heap.size≤pb∧w.heap.size≤g∧g≠pb
 only:ze (fun _=>False) w V
theorem jk.pl {w V:World}{pb g cap st:Nat}{Z:List (Stp×Value)}{ws:Slc}{W:Int→Bool}(h:jk w V pb g cap st Z ws W):pb<V.heap.size:=World.block_lt_of_cell? _ _ h.c1
theorem jk.keep {w V V':World}{pb g cap st:Nat}{Z:List (Stp×Value)}{ws:Slc}{W:Int→Bool}(h:jk w V pb g cap st Z ws W)(k:ze (fun _=>False) V V'):jk w V' pb g cap st Z ws W:=by
 have hp:=h.pl
 obtain ⟨u,hu⟩:=h.c3
 have kc:∀ o u,V.cell? ⟨pb,o,none⟩=some u→V'.cell? ⟨pb,o,none⟩=some u:=fun o u e=>(k.cell (p:=⟨pb,o,none⟩) hp (fun f=>f)).trans e
 exact ⟨⟨kc _ _ h.at'.c0,kc _ _ h.at'.c2,h.at'.le,fun j u e=>(k.cell (p:=⟨g,j,none⟩) h.at'.gl (fun f=>f)).trans (h.at'.row j u e),Nat.lt_of_lt_of_le h.at'.gl k.size⟩,kc _ _ h.c1,⟨u,kc _ _ hu⟩,
  (k.frozen (p:=⟨pb,2,none⟩) hp (fun f=>f)).trans h.f2,(k.frozen (p:=⟨pb,3,none⟩) hp (fun f=>f)).trans h.f3,fun z hz=>(h.sets z hz).keep k (fun _ _ f=>f),h.word.keep k (fun _ _ f=>f),h.own,h.only.trans k⟩
theorem jk.setOther {w V:World}{pb g cap st:Nat}{Z:List (Stp×Value)}{ws:Slc}{W:Int→Bool}(h:jk w V pb g cap st Z ws W)(u:Value):jk w (V.setCell ⟨pb,3,none⟩ u) pb g cap st Z ws W:=by
 have k:ze (fun k=>k=pb) V (V.setCell ⟨pb,3,none⟩ u):=(ze.refl (fun k=>k=pb) V).setCell (p:=⟨pb,3,none⟩) (.inl rfl) _
 obtain ⟨u3,hu⟩:=h.c3
 have hgp:=h.own.2.2
 exact ⟨⟨(World.cell?_setCell_other _ _ _ _ (by simp)).trans h.at'.c0,(World.cell?_setCell_other _ _ _ _ (by simp)).trans h.at'.c2,h.at'.le,fun j u e=>(k.cell (p:=⟨g,j,none⟩) h.at'.gl hgp).trans (h.at'.row j u e),Nat.lt_of_lt_of_le h.at'.gl k.size⟩,(World.cell?_setCell_other _ _ _ _ (by simp)).trans h.c1,⟨u,World.cell?_setCell_same _ _ _ hu⟩,
  (zk _ _ _ _).trans h.f2,(zk _ _ _ _).trans h.f3,fun z hz=>(h.sets z hz).keep k (fun _ h2 e=>h2.2 e),h.word.keep k (fun _ h2 e=>h2.2 e),h.own,h.only.setCell (p:=⟨pb,3,none⟩) (.inr h.own.1) u⟩
theorem jk.setWord {w V:World}{pb g cap st:Nat}{Z:List (Stp×Value)}{ws ws':Slc}{W W':Int→Bool}(h:jk w V pb g cap st Z ws W)(hs:yQ V (fun k=>w.heap.size≤k∧k≠pb) (.agg #[slV ws']) W'):jk w (V.setCell ⟨pb,2,none⟩ (slV ws')) pb g cap st Z ws' W':=by
 have k:ze (fun k=>k=pb) V (V.setCell ⟨pb,2,none⟩ (slV ws')):=(ze.refl (fun k=>k=pb) V).setCell (p:=⟨pb,2,none⟩) (.inl rfl) _
 obtain ⟨u3,hu⟩:=h.c3
 have hgp:=h.own.2.2
 exact ⟨⟨(World.cell?_setCell_other _ _ _ _ (by simp)).trans h.at'.c0,World.cell?_setCell_same _ _ _ h.at'.c2,h.at'.le,fun j u e=>(k.cell (p:=⟨g,j,none⟩) h.at'.gl hgp).trans (h.at'.row j u e),Nat.lt_of_lt_of_le h.at'.gl k.size⟩,(World.cell?_setCell_other _ _ _ _ (by simp)).trans h.c1,⟨u3,(World.cell?_setCell_other _ _ _ _ (by simp)).trans hu⟩,
  (zk _ _ _ _).trans h.f2,(zk _ _ _ _).trans h.f3,fun z hz=>(h.sets z hz).keep k (fun _ h2 e=>h2.2 e),hs.keep k (fun _ h2 e=>h2.2 e),h.own,h.only.setCell (p:=⟨pb,2,none⟩) (.inr h.own.1) _⟩
theorem Kp {w:World}{A:Nat→Prop}{x:Value}{S:Int→Bool}(h:yQ w A (.agg #[x]) S):∃ p:Slc,x=slV p:=by
 obtain ⟨sv,sp,h1,h2,_⟩:=h
 simp at h1
 subst h1
 rcases h2 with ⟨h2,_⟩ |⟨g,cap,h2,_⟩
 ·exact ⟨(none,0,0),h2⟩
 ·exact ⟨(_,_,_),h2⟩
theorem slcs {w:World}{A:Nat→Prop}:∀ (Z:List (Stp×Value)),(∀ z∈Z,yQ w A (.agg #[z.2]) (Prg.setP z.1))→∃ zs:List Slc,Z.map Prod.snd=zs.map slV
 | [],_=>⟨[],rfl⟩
 |z :: Z,h=>by
  obtain ⟨zs,e⟩:=slcs Z (fun y hy=>h y (List.mem_cons_of_mem _ hy))
  obtain ⟨p,hp⟩:=Kp (h z List.mem_cons_self)
  exact ⟨p :: zs,by simp [e,hp]⟩
theorem jk.spans {w V:World}{pb g cap st:Nat}{Z:List (Stp×Value)}{ws:Slc}{W:Int→Bool}{zs:List Slc}(h:jk w V pb g cap st Z ws W)(hz:Z.map Prod.snd=zs.map slV):∀ p∈ws :: zs,∃ l A,yu V A (slV p) l∧Cs.zK l:=by
 have one:∀ (p:Slc) (S:Int→Bool),yQ V (fun k=>w.heap.size≤k∧k≠pb) (.agg #[slV p]) S→∃ l A,yu V A (slV p) l∧Cs.zK l:=fun p S hs=>by
  obtain ⟨sv,sp,h1,h2,h3,_⟩:=hs
  simp at h1
  subst h1
  exact ⟨sp,_,h2,h3⟩
 intro p hp
 rcases List.mem_cons.1 hp with rfl |hp
 ·exact one _ _ h.word
 ·have:slV p∈Z.map Prod.snd:=by rw [hz];exact List.mem_map_of_mem hp
  obtain ⟨z,hzm,hze⟩:=List.mem_map.1 this
  exact one p _ (hze ▸ h.sets z hzm)
theorem jk.prog {w V:World}{pb g cap st:Nat}{Z:List (Stp×Value)}{ws:Slc}{W:Int→Bool}(h:jk w V pb g cap st Z ws W)(hl:Z.length≤300)(hf:∀ (k:Nat) s,(sts Z)[k]?=some s→s.next<(sts Z).length∧s.other<(sts Z).length)(hst:st<(sts Z).length):xi V (fun k=>w.heap.size≤k) pb (sts Z) st W:=by
 refine ⟨h.own.1,⟨g,cap,by rw [zU];exact h.at'.c0,h.own.2.1,by rw [zU];exact h.at'.le,fun k s hk=>?_⟩,h.c1,⟨slV ws,h.at'.c2,h.word.mono (fun _ _ h=>h.1)⟩,by rw [zU];exact hl,hf,hst⟩
 unfold sts at hk
 rw [List.getElem?_map] at hk
 obtain ⟨z,hz,rfl⟩:=Option.map_eq_some_iff.1 hk
 obtain ⟨f0,f1,f2,f3,f4⟩:=jV Z k z hz
 exact ⟨h.at'.row _ _ f0,⟨z.2,h.at'.row _ _ f1,(h.sets z (List.mem_of_getElem? hz)).mono (fun _ _ h=>h.1)⟩,h.at'.row _ _ f2,h.at'.row _ _ f3,h.at'.row _ _ f4⟩
end
section
open Go.RowKit Go.Shelf Go.Lib
open Sm (Stp Tree capT)
def slcOf:Value→Slc
 | .slice a n c=>(a,n,c)
 |_=>(none,0,0)
def Qo (z:Stp×Value):Stl:=(z.1.kind,slcOf z.2,z.1.asr,z.1.next,z.1.other)
def askS (s:Stp):Bool:=decide (s.kind=2) && (decide (s.asr=2) ||decide (s.asr=3))
theorem Qp (Z:List (Stp×Value))(g cap:Nat)(V:World)(hz:∀ z∈Z,∃ p:Slc,z.2=slV p)(hrow:∀ j u,(yt Z)[j]?=some u→V.cell? ⟨g,j,none⟩=some u)(hg:g<V.heap.size)(hl:Z.length≤1000) :
  Calls Tryz.prog 68 #[.slice (some ⟨g,0,none⟩) Z.length cap,.func (.func 69) #[] #[]] V fun e V'=>e = .returned (.bool (Z.any (fun z=>askS z.1)))∧ze (fun _=>False) V V':=by
 have hcell:∀ j,j<(Z.map Qo).length→∀ i v,(wu (Z.map Qo)[j]!)[i]?=some v→V.cell? ⟨g,0+j*5+i,none⟩=some v:=by
  intro j hj i v hi
  have hjZ:j<Z.length:=by simpa using hj
  have hget:Z[j]?=some Z[j]:=List.getElem?_eq_getElem hjZ
  obtain ⟨p,hp⟩:=hz Z[j] (List.getElem_mem hjZ)
  obtain ⟨f0,f1,f2,f3,f4⟩:=jV Z j _ hget
  have e:(Z.map Qo)[j]! = Qo Z[j]:=by rw [getElem!_pos _ j hj];simp
  rw [e] at hi
  have e2:wu (Qo Z[j])=[.int .i64 (Z[j].1.kind:Nat),Z[j].2,.int .i64 Z[j].1.asr,.int .i64 (Z[j].1.next:Nat),.int .i64 (Z[j].1.other:Nat)]:=by
   unfold wu Qo;simp only [];rw [hp];rfl
  rw [e2] at hi
  rw [Nat.zero_add]
  match i,hi with
  |0,hi=>simp at hi;subst hi;exact hrow _ _ f0
  |1,hi=>simp at hi;subst hi;exact hrow _ _ f1
  |2,hi=>simp at hi;subst hi;exact hrow _ _ f2
  |3,hi=>simp at hi;subst hi;exact hrow _ _ f3
  |4,hi=>simp at hi;subst hi;exact hrow _ _ f4
  |n+5,hi=>simp at hi
 have hpred:PredBelow Tryz.prog 69 #[] (fun x:Stl=>.agg (wu x).toArray) asksW V:=fun W x hb=>by
  have:=asks_any x W
  refine Calls.mono (by simpa using this) ?_
  rintro e w' ⟨rfl,hO⟩
  exact ⟨rfl,hb.trans (hO.below.mono hb.size)⟩
 refine (AnyQ.slices_ContainsFunc Kn 5 (fun w=>by kernel_rfl) (fun w=>by kernel_rfl) wu (fun x=>by simp [wu]) asksW 69 #[] (enters_of Tryz.func69 (by kernel_rfl) rfl) g 0 Z.length cap (Z.map Qo) V hpred (by simp) (by omega) hg hcell).mono ?_
 rintro e w' ⟨rfl,hb⟩
 refine ⟨?_,ze.ofBelow hb⟩
 rw [List.take_of_length_le (by simp),List.any_map]
 rfl
theorem VA {w w3:World}{st:Nat}{Z:List (Stp×Value)}{sv:Value}(hB:qi w3 w.heap.size Z)(h1:w3.cell? ⟨w.heap.size,0,none⟩=some sv)(hne:0<Z.length)(hO:ze (fun _=>False) w w3):∃ g cap,sv = .slice (some ⟨g,0,none⟩) Z.length cap∧jk w (w3.alloc (.cells #[sv,.int .i64 (st:Nat),.slice none 0 0,.slice none 0 0] 168)) w3.heap.size g cap st Z (none,0,0) (fun _=>false):=by
 obtain ⟨sv',h1',h2,h3⟩:=hB.ex
 obtain rfl:sv=sv':=Option.some.inj (h1.symm.trans h1')
 have hs:=hO.size
 have k:ze (fun _=>False) w3 (w3.alloc (.cells #[sv,.int .i64 (st:Nat),.slice none 0 0,.slice none 0 0] 168)):=(ze.refl _ _).alloc _
 have hbl:=fun g=>zh h2 g
 rcases h2.2 with ⟨rfl,hz⟩ |⟨g,cap,cur,rfl,hbg,hg,hnc,hcm,hcs,htake⟩
 ·omega
 ·have hgl:=(hbl g rfl).2
  refine ⟨g,cap,rfl,⟨zm w3 _ rfl _ _ 0 _ rfl,zm w3 _ rfl _ _ 2 _ rfl,hnc,fun j u hj=>?_,by simp;omega⟩,zm w3 _ rfl _ _ 1 _ rfl,⟨_,zm w3 _ rfl _ _ 3 _ rfl⟩,zG w3 _ rfl _ _ 2,zG w3 _ rfl _ _ 3,fun z hz=>?_,yQ.none _ _ _ (fun _=>rfl),⟨hs,by omega,by omega⟩,hO.trans k⟩
  ·refine (k.cell (p:=⟨g,j,none⟩) hgl (fun f=>f)).trans ?_
   have hj2:j<Z.length*5:=by have:=(List.getElem?_eq_some_iff.1 hj).1;rwa [KQ] at this
   have e1:(cur.toList.take (Z.length*5))[j]?=(yt Z)[j]?:=by rw [htake]
   rw [List.getElem?_take_of_lt hj2,hj] at e1
   unfold World.cell?
   rw [hg]
   simpa using e1
  ·exact ((h3 z hz).mono (B:=fun k=>w.heap.size≤k∧k≠w3.heap.size) (fun q hq h=>⟨by omega,by omega⟩)).keep k (fun _ _ f=>f)
end
section
open Go.RowKit
open Sm (Stp Tree)
set_option maxHeartbeats 1600000
theorem jQ.get {w:World}{v:Value}{L:List (Int×Int)}(h:jQ w v L){k:Nat}(hk:k<L.length):∃ g cap x0,v = .slice (some ⟨g,0,none⟩) L.length cap∧L.length≤cap∧w.cell? ⟨g,k*2,none⟩=some (.int .i64 x0)∧w.cell? ⟨g,k*2+1,none⟩=some (.int .i32 (Pro.zf L k)):=by
 rcases h with ⟨_,rfl⟩ |⟨g,cap,h1,h2,h3⟩
 ·simp at hk
 ·obtain ⟨h4,h5⟩:=h3 k L[k] (List.getElem?_eq_getElem hk)
  exact ⟨g,cap,_,h1,h2,h4,by rw [Pro.Yd hk];exact h5⟩
theorem jQ.slice {w:World}{v:Value}{L:List (Int×Int)}(h:jQ w v L):∃ a c,v = .slice a L.length c:=by
 rcases h with ⟨rfl,rfl⟩ |⟨g,cap,h1,_⟩
 ·exact ⟨_,_,rfl⟩
 ·exact ⟨_,_,h1⟩
structure xr (W:World)(b:Nat)(x y z u:Bool):Prop where
 k0:W.cell? ⟨b,0,none⟩=some (.bool x)
 k1:W.cell? ⟨b,1,none⟩=some (.bool y)
 k2:W.cell? ⟨b,2,none⟩=some (.bool z)
 k3:W.cell? ⟨b,3,none⟩=some (.bool u)
 f0:W.frozen? ⟨b,0,none⟩=false
 f1:W.frozen? ⟨b,1,none⟩=false
 f2:W.frozen? ⟨b,2,none⟩=false
 f3:W.frozen? ⟨b,3,none⟩=false
theorem xr.keep {W W':World}{b:Nat}{x y z u:Bool}(h:xr W b x y z u)(k:ze (fun _=>False) W W'):xr W' b x y z u:=by
 have hb:b<W.heap.size:=World.block_lt_of_cell? W ⟨b,0,none⟩ h.k0
 exact ⟨zg k _ _ h.k0 (fun f=>f),zg k _ _ h.k1 (fun f=>f),zg k _ _ h.k2 (fun f=>f),zg k _ _ h.k3 (fun f=>f),zP k _ hb h.f0 (fun f=>f),zP k _ hb h.f1 (fun f=>f),zP k _ hb h.f2 (fun f=>f),zP k _ hb h.f3 (fun f=>f)⟩
theorem xr.new (W:World)(n:Nat)(hn:W.heap.size=n)(x y z u:Bool)(T:TypeId):xr (W.alloc (.cells #[.bool x,.bool y,.bool z,.bool u] T)) n x y z u:=
 ⟨zm W n hn _ T 0 _ rfl,zm W n hn _ T 1 _ rfl,zm W n hn _ T 2 _ rfl,zm W n hn _ T 3 _ rfl,zG W n hn _ T 0,zG W n hn _ T 1,zG W n hn _ T 2,zG W n hn _ T 3⟩
theorem xr.set2 {W:World}{b:Nat}{x y z u:Bool}(h:xr W b x y z u)(v:Bool):xr (W.setCell ⟨b,2,none⟩ (.bool v)) b x y v u:=
 ⟨by rw [World.cell?_setCell_other _ _ _ _ (by simp)];exact h.k0,by rw [World.cell?_setCell_other _ _ _ _ (by simp)];exact h.k1,World.cell?_setCell_same' _ _ _ (by rw [h.k2];rfl),by rw [World.cell?_setCell_other _ _ _ _ (by simp)];exact h.k3,by rw [World.frozen?_setCell];exact h.f0,by rw [World.frozen?_setCell];exact h.f1,by rw [World.frozen?_setCell];exact h.f2,by rw [World.frozen?_setCell];exact h.f3⟩
theorem xr.other {W:World}{b c o:Nat}{x y z u:Bool}(h:xr W b x y z u)(hc:c≠b)(v:Value):xr (W.setCell ⟨c,o,none⟩ v) b x y z u:=by
 have e:∀ k,(W.setCell ⟨c,o,none⟩ v).cell? ⟨b,k,none⟩=W.cell? ⟨b,k,none⟩:=fun k=>World.cell?_setCell_other _ _ _ _ (by intro e;simp only [Addr.mk.injEq] at e;exact hc e.1)
 exact ⟨by rw [e];exact h.k0,by rw [e];exact h.k1,by rw [e];exact h.k2,by rw [e];exact h.k3,by rw [World.frozen?_setCell];exact h.f0,by rw [World.frozen?_setCell];exact h.f1,by rw [World.frozen?_setCell];exact h.f2,by rw [World.frozen?_setCell];exact h.f3⟩
theorem Yb {w:World}{A:Nat→Prop}{W:Int→Bool}{pb g k:Nat}{c:Int}{sv:Value}(h1:w.cell? ⟨pb,2,none⟩=some sv)(h2:w.cell? ⟨g,k*2+1,none⟩=some (.int .i32 c))(hS:∀ W',ze (fun _=>False) w W'→yQ W' A (.agg #[sv]) W)(X W':World)(hX:ze (fun _=>False) w X)(hW:ze (fun _=>False) X W') :
  Calls Tryz.prog 134 #[.agg #[sv],.int .i32 c] W' fun e w'=>e = .returned (.bool (W c))∧ze (fun _=>False) X w'∧w'.cell? ⟨pb,2,none⟩=some sv∧w'.cell? ⟨g,k*2+1,none⟩=some (.int .i32 c):=by
 refine (JY _ W c A _ (hS _ (hX.trans hW))).mono ?_
 rintro e w' ⟨rfl,hO⟩
 have k1:=hW.trans hO
 have k2:=hX.trans k1
 exact ⟨rfl,k1,zg k2 _ _ h1 (fun f=>f),zg k2 _ _ h2 (fun f=>f)⟩
theorem WU (pb st i:Nat)(N:List Stp)(W:Int→Bool)(L:List (Int×Int))(v:Value)(A:Nat→Prop)(w:World)(hP:xi w A pb N st W)(hL:jQ w v L)(hi:i≤L.length)(hl:L.length≤400) :
  Calls Tryz.prog 84 #[.pointer (some ⟨pb,0,none⟩),v,.int .i64 i] w fun x w'=>x = .returned (.agg #[.bool (decide (i=0)),.bool (decide (i=L.length)),.bool (Prg.befB W L i),.bool (Prg.aftB W L i)])∧ze (fun _=>False) w w':=by
 obtain ⟨sv,hsv,hset⟩:=hP.c2
 have HS:Hid (∀ W',ze (fun _=>False) w W'→yQ W' A (.agg #[sv]) W):=fun W' k=>hset.keep k (fun _ _ f=>f)
 clear hP hset
 have hpb:pb<w.heap.size:=World.block_lt_of_cell? w ⟨pb,2,none⟩ hsv
 have hsl:∃ a n c,sv = .slice a n c:=by
  obtain ⟨sv',sp,e,h1,_⟩:=zb HS w (ze.refl _ _)
  simp at e
  subst e
  rcases h1 with ⟨h1,_⟩ |⟨g,cap,h1,_⟩<;>exact ⟨_,_,_,h1⟩
 obtain ⟨sa,sn,sc,rfl⟩:=hsl
 obtain ⟨va,vc,rfl⟩:=hL.slice
 have HL:=zc hL
 clear hL
 unfold Prg.befB Prg.aftB
 have hz:(decide (i=0))=((i:Int) == 0):=by
  by_cases h:i=0
  ·subst h;rfl
  ·rw [decide_eq_false h];symm;simp;omega
 have he:(decide (i=L.length))=((i:Int) == (L.length:Int)):=by
  by_cases h:i=L.length
  ·rw [decide_eq_true h];symm;simp;omega
  ·rw [decide_eq_false h];symm;simp;omega
 have hz':(decide (i≠0)) = !((i:Int) == 0):=by rw [←hz];simp
 have he':(decide (i≠L.length)) = !((i:Int) == (L.length:Int)):=by rw [←he];simp
 rw [hz,he,hz',he']
 clear hz he hz' he'
 by_cases h0:i=0
 ·have hb0:((i:Int) == 0)=true:=by simp;omega
  by_cases h1:i=L.length
  ·have hb1:((i:Int) == (L.length:Int))=true:=by simp;omega
   rw [hb0,hb1]
   have hle:L.length≤i:=by omega
   have hle2:i≤0:=by omega
   clear h0 h1
   go_enter Tryz.func84,Tryz.ntmps84
   go_wp2_with fail
   refine bodyPost_ret (v:=.agg #[.bool true,.bool true,.bool false,.bool false]) (by simp [results,Tryz.results84,go_sem]) rfl ?_
   refine ⟨rfl,?_⟩
   repeat refine ze.setCell ?_ (Or.inr (by simp)) _
   exact (((ze.refl _ _).alloc _).alloc _)
  ·have hb1:((i:Int) == (L.length:Int))=false:=by simp;omega
   rw [hb0,hb1]
   obtain ⟨g,cap,x0,hv,hcap,d1,d2⟩:=(zb HL).get (k:=i) (by omega)
   simp at hv
   obtain ⟨rfl,rfl⟩:=hv
   have hgl:g<w.heap.size:=World.block_lt_of_cell? w _ d2
   have hlt:i<L.length:=by omega
   have hle2:i≤0:=by omega
   clear h0 h1
   go_enter Tryz.func84,Tryz.ntmps84
   go_wp2_with fail
   have HZ:=zc (Yb (k:=i) (A:=A) (W:=W) hsv d2 (zb HS))
   go_region_held3 (fun w'=>w'.cell? ⟨pb,2,none⟩=some (.slice sa sn sc)∧w'.cell? ⟨g,(i)*2+1,none⟩=some (.int .i32 (Pro.zf L (i)))) (first |go_keep |(refine ⟨?_,?_⟩<;>(rw [World.cell?_setCell_other _ _ _ _ (by intro e;simp only [Addr.mk.injEq] at e;omega)];assumption)))
    (first |(go_at_call 134;refine (zb HZ _ _ (((ze.refl _ _).alloc _).alloc _) ((ze.refl _ _).drewN _)).mono ?_;rintro e w1 ⟨rfl,hO1,z0,z1⟩;have HK1:=zc ((((ze.refl _ _).alloc _).alloc _).trans hO1);have HSP:=zc ((xr.new _ (w.heap.size+1) (by simp) _ _ _ _ _).keep hO1);obtain ⟨k0,k1,k2,k3,f0,f1,f2,f3⟩:=zb HSP;have HSR:=zc (((xr.new w w.heap.size rfl _ _ _ _ _).keep ((ze.refl _ _).alloc _)).keep hO1);obtain ⟨r0,r1,r2,r3,q0,q1,q2,q3⟩:=zb HSR;clear hO1))
   go_wp2_with fail
   refine bodyPost_ret (v:=.agg #[.bool true,.bool false,.bool false,.bool (W (Pro.zf L i))]) (by simp [results,Tryz.results84,go_sem,r0,r1,r2,r3]) rfl ?_
   refine ⟨rfl,?_⟩
   repeat refine ze.setCell ?_ (Or.inr (by simp)) _
   exact zb HK1
 ·obtain ⟨k,rfl⟩:∃ k,i=k+1:=⟨i-1,by omega⟩
  rw [show k+1-1=k by omega]
  simp only [Int.natCast_add,Int.natCast_one]
  have hb0:((k:Int)+1 == 0)=false:=by simp;omega
  have hk0:(0:Int)≤(k:Int):=by omega
  have hk1:(k:Int)<(L.length:Int):=by omega
  have hwr:IntKind.i64.wrap ((k:Int)+1-1)=(k:Int):=by rw [show (k:Int)+1-1=(k:Int) by omega];exact ZF _ (by omega) (by omega)
  have hwk:IntKind.i64.wrap (k:Int)=(k:Int):=ZF _ (by omega) (by omega)
  by_cases h1:k+1=L.length
  ·have hb1:((k:Int)+1 == (L.length:Int))=true:=by simp;omega
   rw [hb0,hb1]
   obtain ⟨g,cap,x0,hv,hcap,d1,d2⟩:=(zb HL).get (k:=k) (by omega)
   simp at hv
   obtain ⟨rfl,rfl⟩:=hv
   have hgl:g<w.heap.size:=World.block_lt_of_cell? w _ d2
   have hle:L.length≤k+1:=by omega
   clear h0 h1
   go_enter Tryz.func84,Tryz.ntmps84
   go_wp2_with fail
   have HZ:=zc (Yb (k:=k) (A:=A) (W:=W) hsv d2 (zb HS))
   go_region_held3 (fun w'=>w'.cell? ⟨pb,2,none⟩=some (.slice sa sn sc)∧w'.cell? ⟨g,k*2+1,none⟩=some (.int .i32 (Pro.zf L k))) (first |go_keep |(refine ⟨?_,?_⟩<;>(rw [World.cell?_setCell_other _ _ _ _ (by intro e;simp only [Addr.mk.injEq] at e;omega)];assumption)))
    (first |(go_at_call 134;refine (zb HZ _ _ (((ze.refl _ _).alloc _).alloc _) ((ze.refl _ _).drewN _)).mono ?_;rintro e w1 ⟨rfl,hO1,z0,z1⟩;have HK1:=zc ((((ze.refl _ _).alloc _).alloc _).trans hO1);have HSP:=zc ((xr.new _ (w.heap.size+1) (by simp) _ _ _ _ _).keep hO1);obtain ⟨k0,k1,k2,k3,f0,f1,f2,f3⟩:=zb HSP;have HSR:=zc (((xr.new w w.heap.size rfl _ _ _ _ _).keep ((ze.refl _ _).alloc _)).keep hO1);obtain ⟨r0,r1,r2,r3,q0,q1,q2,q3⟩:=zb HSR;clear hO1))
   go_wp2_with fail
   refine bodyPost_ret (v:=.agg #[.bool false,.bool true,.bool (W (Pro.zf L k)),.bool false]) (by simp [results,Tryz.results84,go_sem,r0,r1,r2,r3]) rfl ?_
   refine ⟨rfl,?_⟩
   repeat refine ze.setCell ?_ (Or.inr (by simp)) _
   exact zb HK1
  ·have hb1:((k:Int)+1 == (L.length:Int))=false:=by simp;omega
   rw [hb0,hb1]
   obtain ⟨g,cap,x0,hv,hcap,d1,d2⟩:=(zb HL).get (k:=k) (by omega)
   simp at hv
   obtain ⟨rfl,rfl⟩:=hv
   have hgl:g<w.heap.size:=World.block_lt_of_cell? w _ d2
   obtain ⟨g2,cap2,x2,hv2,_,e1,e2⟩:=(zb HL).get (k:=k+1) (by omega)
   simp at hv2
   obtain ⟨rfl,rfl⟩:=hv2
   have hlt:k+1<L.length:=by omega
   have hk2:(0:Int)≤(k:Int)+1:=by omega
   have hk3:(k:Int)+1<(L.length:Int):=by omega
   clear h0 h1
   go_enter Tryz.func84,Tryz.ntmps84
   go_wp2_with fail
   have HZ:=zc (Yb (k:=k) (A:=A) (W:=W) hsv d2 (zb HS))
   go_region_held3 (fun w'=>w'.cell? ⟨pb,2,none⟩=some (.slice sa sn sc)∧w'.cell? ⟨g,k*2+1,none⟩=some (.int .i32 (Pro.zf L k))) (first |go_keep |(refine ⟨?_,?_⟩<;>(rw [World.cell?_setCell_other _ _ _ _ (by intro e;simp only [Addr.mk.injEq] at e;omega)];assumption)))
    (first |(go_at_call 134;refine (zb HZ _ _ (((ze.refl _ _).alloc _).alloc _) ((ze.refl _ _).drewN _)).mono ?_;rintro e w1 ⟨rfl,hO1,z0,z1⟩;have HK1:=zc ((((ze.refl _ _).alloc _).alloc _).trans hO1);have HSP:=zc ((xr.new _ (w.heap.size+1) (by simp) _ _ _ _ _).keep hO1);obtain ⟨k0,k1,k2,k3,f0,f1,f2,f3⟩:=zb HSP;have HSR:=zc (((xr.new w w.heap.size rfl _ _ _ _ _).keep ((ze.refl _ _).alloc _)).keep hO1);obtain ⟨r0,r1,r2,r3,q0,q1,q2,q3⟩:=zb HSR;clear hO1))
   go_wp2_with fail
   have HZ2:=zc (Yb (k:=k+1) (A:=A) (W:=W) hsv e2 (zb HS))
   have z2:(w1.setCell ⟨w.heap.size+1,2,none⟩ (.bool (W (Pro.zf L k)))).drew.cell? ⟨g,(k+1)*2+1,none⟩=some (.int .i32 (Pro.zf L (k+1))):=by
    show (w1.setCell ⟨w.heap.size+1,2,none⟩ (.bool (W (Pro.zf L k)))).cell? _=_
    rw [World.cell?_setCell_other _ _ _ _ (by intro e;simp only [Addr.mk.injEq] at e;omega)]
    exact zg (zb HK1) _ _ e2 (fun f=>f)
   have z3:(w1.setCell ⟨w.heap.size+1,2,none⟩ (.bool (W (Pro.zf L k)))).drew.cell? ⟨pb,2,none⟩=some (.slice sa sn sc):=by
    show (w1.setCell ⟨w.heap.size+1,2,none⟩ (.bool (W (Pro.zf L k)))).cell? _=_
    rw [World.cell?_setCell_other _ _ _ _ (by intro e;simp only [Addr.mk.injEq] at e;omega)]
    exact z0
   clear HZ z1 z0
   go_region_held3 (fun w'=>w'.cell? ⟨pb,2,none⟩=some (.slice sa sn sc)∧w'.cell? ⟨g,(k+1)*2+1,none⟩=some (.int .i32 (Pro.zf L (k+1)))) (first |exact ⟨z3,z2⟩ |go_keep |(refine ⟨?_,?_⟩<;>(rw [World.cell?_setCell_other _ _ _ _ (by intro e;simp only [Addr.mk.injEq] at e;omega)];assumption)))
    (first |(go_at_call 134;refine (zb HZ2 _ _ ((zb HK1).setCell (.inr (by simp)) _) ((ze.refl _ _).drewN _)).mono ?_;rintro e w2 ⟨rfl,hO2,y0,y1⟩;have HK2:=zc (((zb HK1).setCell (.inr (by simp)) _).trans hO2);have HSP2:=zc (((zb HSP).set2 _).keep hO2);have HSR2:=zc (((zb HSR).other (by omega) _).keep hO2);clear k0 k1 k2 k3 f0 f1 f2 f3 r0 r1 r2 r3 q0 q1 q2 q3;obtain ⟨k0,k1,k2,k3,f0,f1,f2,f3⟩:=zb HSP2;obtain ⟨r0,r1,r2,r3,q0,q1,q2,q3⟩:=zb HSR2;clear hO2))
   go_wp2_with fail
   refine bodyPost_ret (v:=.agg #[.bool false,.bool false,.bool (W (Pro.zf L k)),.bool (W (Pro.zf L (k+1)))]) (by simp [results,Tryz.results84,go_sem,r0,r1,r2,r3]) rfl ?_
   refine ⟨rfl,?_⟩
   repeat refine ze.setCell ?_ (Or.inr (by simp)) _
   exact zb HK2
def xI (w:World)(v:Value)(rs:List Nat):Prop:=(v = .slice none 0 0∧rs=[])∨∃ g cap,v = .slice (some ⟨g,0,none⟩) rs.length cap∧rs.length≤cap∧∀ (j:Nat) a,rs[j]?=some a→w.cell? ⟨g,j,none⟩=some (.int .i64 (a:Nat))
theorem xI.keep {w w':World}{v:Value}{rs:List Nat}(h:xI w v rs)(k:ze (fun _=>False) w w'):xI w' v rs:=by
 rcases h with h |⟨g,cap,h1,h2,h3⟩
 ·exact .inl h
 ·exact .inr ⟨g,cap,h1,h2,fun j a hj=>zg k _ _ (h3 j a hj) (fun f=>f)⟩
theorem xI.slice {w:World}{v:Value}{rs:List Nat}(h:xI w v rs):∃ a c,v = .slice a rs.length c:=by
 rcases h with ⟨rfl,rfl⟩ |⟨g,cap,h1,_⟩
 ·exact ⟨_,_,rfl⟩
 ·exact ⟨_,_,h1⟩
theorem xI.get {w:World}{a:Option Addr}{c:Nat}{rs:List Nat}(h:xI w (.slice a rs.length c) rs){k:Nat}(hk:k<rs.length):∃ g,a=some ⟨g,0,none⟩∧rs.length≤c∧w.cell? ⟨g,k,none⟩=some (.int .i64 (rs[k]:Nat)):=by
 rcases h with ⟨_,h⟩ |⟨g,cap,h1,h2,h3⟩
 ·rw [h] at hk;simp at hk
 ·simp at h1
  exact ⟨g,h1.1,by omega,h3 k rs[k] (List.getElem?_eq_getElem hk)⟩
namespace Prg
def xG (N:List Stp)(c:Int)(a:Nat):Option Nat:=match N[a]? with
 |some s=>if setP s c=true then some s.next else none
 |none=>none
def xo (N:List Stp)(c:Int)(rs:List Nat):List Nat:=rs.filterMap (xG N c)
theorem zcq {N:List Stp}{c:Int}{rs:List Nat}{n:Nat}{s:Stp}(hn:n<rs.length)(hs:N[rs[n]]?=some s)(hp:setP s c=true):xo N c (rs.take (n+1))=xo N c (rs.take n)++[s.next]:=by
 have e:xG N c rs[n]=some s.next:=by simp [xG,hs,hp]
 unfold xo
 rw [List.take_add_one,List.getElem?_eq_getElem hn,List.filterMap_append]
 show _++List.filterMap (xG N c) [rs[n]]=_
 simp [e]
theorem VB {N:List Stp}{c:Int}{rs:List Nat}{n:Nat}{s:Stp}(hn:n<rs.length)(hs:N[rs[n]]?=some s)(hp:setP s c=false):xo N c (rs.take (n+1))=xo N c (rs.take n):=by
 have e:xG N c rs[n]=none:=by simp [xG,hs,hp]
 unfold xo
 rw [List.take_add_one,List.getElem?_eq_getElem hn,List.filterMap_append]
 show _++List.filterMap (xG N c) [rs[n]]=_
 simp [e]
theorem wV (N:List Stp)(c:Int)(rs:List Nat):(xo N c rs).length≤rs.length:=List.length_filterMap_le _ _
theorem YO {N:List Stp}{c:Int}{rs:List Nat}{b:Nat}:b∈xo N c rs↔∃ a∈rs,∃ s,N[a]?=some s∧setP s c=true∧b=s.next:=by
 unfold xo
 rw [List.mem_filterMap]
 constructor
 ·rintro ⟨a,ha,h⟩
  unfold xG at h
  split at h
  ·rename_i s hs
   split at h
   ·rename_i hp
    exact ⟨a,ha,s,hs,hp,(Option.some.inj h).symm⟩
   ·cases h
  ·cases h
 ·rintro ⟨a,ha,s,hs,hp,rfl⟩
  exact ⟨a,ha,by simp [xG,hs,hp]⟩
end Prg
theorem YP (pb st:Nat)(N:List Stp)(W:Int→Bool)(rv:Value)(rs:List Nat)(c:Int)(A:Nat→Prop)(w:World)(hP:xi w A pb N st W)(hR:xI w rv rs)(hr:∀ a∈rs,a<N.length)(hl:rs.length≤300) :
  Calls Tryz.prog 86 #[.pointer (some ⟨pb,0,none⟩),rv,.int .i32 c] w fun x w'=>∃ sv,x = .returned sv∧w'.ownsRow w.heap.size 3 1 sv (Prg.xo N c rs).length (zM (Prg.xo N c rs))∧ze (fun _=>False) w w':=by
 obtain ⟨i0,hi0,hz0,hz1,hz2⟩:=info_parts Tryz.infoInt
 obtain ⟨va,vc,rfl⟩:=hR.slice
 obtain ⟨gs,cs,hst,hA,hcs,hrow⟩:=hP.c0
 have hNl:=hP.len
 have HR:=zc hR
 have HP:=zc hP
 have HW:=zc hrow
 have HRN:=zc hr
 clear hR hP hrow hr
 go_enter Tryz.func86,Tryz.ntmps86
 go_wp2_with fail
 go_loopw [7,13] (fun lv k wr=>∃ n:Nat,k = .int .i64 n∧n≤rs.length∧Hid (ze (fun _=>False) w wr)∧Hid (wr.ownsRow w.heap.size 3 1 lv (Prg.xo N c (rs.take n)).length (zM (Prg.xo N c (rs.take n))))) (fun _ k _=>rs.length-(intOf k).toNat)
 case atStart=>exact ⟨0,rfl,by omega,ze.refl _ _,World.ownsRow_nil _ _ _ _⟩
 case round=>
  obtain ⟨n,rfl,hn,HK,HO⟩:=hrel
  obtain ⟨ga,na,ca,rfl⟩:=zy (zb HO)
  by_cases hlt:n<rs.length
  ·obtain ⟨g,rfl,hcap,hc1⟩:=(zb HR).get hlt
   have hc2:=zg (zb HK) _ _ hc1 (fun f=>f)
   clear hc1
   have hrn:=(zb HRN) rs[n] (List.getElem_mem hlt)
   have hget:N[rs[n]]?=some N[rs[n]]:=List.getElem?_eq_getElem hrn
   obtain ⟨s0,⟨sv,s1,s1'⟩,s2,s3,s4⟩:=zb HW _ _ hget
   have e0:=zg (zb HK) _ _ s0 (fun f=>f)
   have e1:=zg (zb HK) _ _ s1 (fun f=>f)
   have e3:=zg (zb HK) _ _ s3 (fun f=>f)
   have ep:=zg (zb HK) _ _ hst (fun f=>f)
   have HG:=zc hget
   have HS:=zc s1'
   clear s0 s1 s2 s3 s4 s1' hget
   generalize hs':N[rs[n]]=s at *
   clear hs'
   generalize hrn':rs[n]=a at *
   have hsl:∃ x y z,sv = .slice x y z:=by
    obtain ⟨sv',sp,e,h1,_⟩:=zb HS
    simp at e
    subst e
    rcases h1 with ⟨h1,_⟩ |⟨g,cap,h1,_⟩<;>exact ⟨_,_,_,h1⟩
   obtain ⟨sx,sy,sz,rfl⟩:=hsl
   by_cases hk:s.kind=1
   ·have hkb:((s.kind:Int) == 1)=true:=by simp;omega
    have HZ:Hid (∀ W',ze (fun _=>False) wr W'→Calls Tryz.prog 134 #[.agg #[.slice sx sy sz],.int .i32 c] W' fun e w'=>e = .returned (.bool (Prg.setP s c))∧ze (fun _=>False) wr w'∧w'.cell? ⟨gs,a*5,none⟩=some (.int .i64 (s.kind:Nat))∧w'.cell? ⟨gs,a*5+1,none⟩=some (.slice sx sy sz)):=fun W' k=>by
     refine (JY _ (Prg.setP s) c A _ ((zb HS).keep ((zb HK).trans k) (fun _ _ f=>f))).mono ?_
     rintro e w' ⟨rfl,hO⟩
     have k1:=k.trans hO
     exact ⟨rfl,k1,zg k1 _ _ e0 (fun f=>f),zg k1 _ _ e1 (fun f=>f)⟩
    clear hk
    cases hsp:Prg.setP s c
    ·rw [hsp] at HZ
     have HO1:Hid (wr.ownsRow w.heap.size 3 1 (.slice ga na ca) (Prg.xo N c (rs.take (n+1))).length (zM (Prg.xo N c (rs.take (n+1))))):=by
      rw [Prg.VB hlt (by rw [hrn'];exact zb HG) hsp];exact HO
     go_wp2_with (go_at_call 134;refine (zb HZ _ (by first |exact ze.refl _ _ |exact (ze.refl _ _).drewN _)).mono ?_;rintro e w1 ⟨rfl,hO1,z0,z1⟩;have HKK:=zc hO1;clear hO1)
     have HO2:Hid (w1.ownsRow w.heap.size 3 1 (.slice ga na ca) (Prg.xo N c (rs.take (n+1))).length (zM (Prg.xo N c (rs.take (n+1))))):=zn (zb HO1) (zb HKK) (fun _ _ f=>f)
     exact ⟨⟨n+1,by go_num,by omega,(zb HK).trans (zb HKK),HO2⟩,by simp [intOf];omega⟩
    ·rw [hsp] at HZ
     have HE:Hid (Prg.xo N c (rs.take (n+1))=Prg.xo N c (rs.take n)++[s.next]):=Prg.zcq hlt (by rw [hrn'];exact zb HG) hsp
     have htl:(Prg.xo N c (rs.take n)).length≤300:=by have:=Prg.wV N c (rs.take n);rw [List.length_take] at this;omega
     have hszw:=(zb HK).size
     go_wp2_with (first
      |(go_at_call 134;refine (zb HZ _ (by first |exact ze.refl _ _ |exact (ze.refl _ _).drewN _)).mono ?_;rintro e w1 ⟨rfl,hO1,z0,z1⟩;have z3:=zg hO1 _ _ e3 (fun f=>f);have HKK:=zc hO1;have hsz1:=hO1.size;have HO1:=zc (zn (zb HO) hO1 (fun _ _ f=>f));clear hO1)
      |(at_builtin;refine wpList_append_own _ rfl _ _ 27 rfl w.heap.size 3 i0 (.int .i64 0) 1 8 Tryz.underlying27 hi0 hz0 hz1 hz2 rfl (by decide) _ _ _ rfl (World.ownsRow.alloc (zb HO1) _) _ 1 1 [.int .i64 (s.next:Nat)] rfl rfl (cell_one_new _ _ _) (fun x hx=>by simp at hx;subst hx;rfl) (by unfold maxLen;omega) (by omega) (by simp;omega) ?_;intro v' w4 hown' hgrow hnil;have Hown4:=zc hown';have Hgr:=zc hgrow;clear hown' hgrow hnil))
     have hO4:ze (fun _=>False) w w4:=((((zb HK).trans (zb HKK)).alloc _)).grown (zb Hgr) (fun j hj=>Or.inr (zh (zb HO1) j hj).1)
     exact ⟨⟨n+1,by go_num,by omega,hO4,(by show World.ownsRow _ _ _ _ _ _ _;rw [zb HE];unfold zM;rw [List.length_append,List.map_append];exact zb Hown4)⟩,by simp [intOf];omega⟩
   ·have hkb:((s.kind:Int) == 1)=false:=by simp;omega
    have hsp:Prg.setP s c=false:=by simp [Prg.setP,hk]
    have HO1:Hid (wr.ownsRow w.heap.size 3 1 (.slice ga na ca) (Prg.xo N c (rs.take (n+1))).length (zM (Prg.xo N c (rs.take (n+1))))):=by
     rw [Prg.VB hlt (by rw [hrn'];exact zb HG) hsp];exact HO
    clear hk
    go_wp2_with fail
    exact ⟨⟨n+1,by go_num,by omega,HK,HO1⟩,by simp [intOf];omega⟩
  ·obtain rfl:n=rs.length:=by omega
   go_wp2_with fail
   go_ret
   rw [List.take_length] at HO
   exact ⟨_,rfl,zb HO,zb HK⟩
set_option maxRecDepth 100000
structure Rch (w:World)(base sb rb gb n:Nat)(ms:List Bool)(rs:List Nat):Prop where
 s0:w.cell? ⟨sb,0,none⟩=some (.slice (some ⟨gb,0,none⟩) n n)
 r0:∃ rv,w.cell? ⟨rb,0,none⟩=some rv∧w.ownsRow base 3 1 rv rs.length (zM rs)
 rf:w.frozen? ⟨rb,0,none⟩=false
 ob:xQ w gb ms
 ml:ms.length=n
 mark:∀ p,p<n→ms[p]?=some (decide (p∈rs))
 cnt:ms.countP id=rs.length
 lt:∀ a∈rs,a<n
 d1:sb≠rb
 d2:sb≠gb
 d3:rb≠gb
 l1:sb<base
 l2:rb<base
 l3:gb<base
 lb:base≤w.heap.size
theorem Rch.len {w:World}{base sb rb gb n:Nat}{ms:List Bool}{rs:List Nat}(h:Rch w base sb rb gb n ms rs):rs.length≤n:=by
 rw [←h.cnt,←h.ml];exact List.countP_le_length
theorem Rch.keep {w w':World}{base sb rb gb n:Nat}{ms:List Bool}{rs:List Nat}(h:Rch w base sb rb gb n ms rs)(k:ze (fun _=>False) w w'):Rch w' base sb rb gb n ms rs:=by
 obtain ⟨rv,h1,h2⟩:=h.r0
 exact { h with s0:=zg k _ _ h.s0 (fun f=>f),r0:=⟨rv,zg k _ _ h1 (fun f=>f),zn h2 k (fun _ _ f=>f)⟩,rf:=zP k _ (Nat.lt_of_lt_of_le h.l2 h.lb) h.rf (fun f=>f),ob:=h.ob.keep k (fun f=>f),lb:=Nat.le_trans h.lb k.size }
namespace Prg
def visL (rs:List Nat)(p:Nat):List Nat:=if p∈rs then rs else rs++[p]
end Prg
def Vis (base rb gb:Nat)(g:Nat):Prop:=g=rb∨g=gb∨base≤g
theorem zcr (base sb rb gb n p:Nat)(ms:List Bool)(rs:List Nat)(w:World)(h:Rch w base sb rb gb n ms rs)(hp:p<n)(hn:n≤300) :
  Calls Tryz.prog 132 #[.int .i64 (p:Nat),.pointer (some ⟨sb,0,none⟩),.pointer (some ⟨rb,0,none⟩)] w fun x w'=>x = .returned (.tuple #[])∧(∃ ms',Rch w' base sb rb gb n ms' (Prg.visL rs p))∧ze (Vis base rb gb) w w':=by
 obtain ⟨i0,hi0,hz0,hz1,hz2⟩:=info_parts Tryz.infoInt
 obtain ⟨rv,hrv,hown⟩:=h.r0
 obtain ⟨ra,rn,rc,rfl⟩:=zy hown
 have hs0:=h.s0
 have hrf:=h.rf
 have hlen:=h.len
 have hm:=h.mark p hp
 have hcell:=h.ob.c p _ hm
 have hfro:=h.ob.f p _ hm
 have hd1:=h.d1
 have hd2:=h.d2
 have hd3:=h.d3
 have hl1:=h.l1
 have hl2:=h.l2
 have hl3:=h.l3
 have hlb:=h.lb
 have H:=zc h
 have HO:=zc hown
 clear h hown hm
 by_cases hin:p∈rs
 ·have hd:decide (p∈rs)=true:=decide_eq_true hin
  rw [hd] at hcell
  have HV:Hid (Prg.visL rs p=rs):=by show _=_;unfold Prg.visL;rw [if_pos hin]
  clear hin hd
  go_enter Tryz.func132,Tryz.ntmps132
  go_wp2_with fail
  go_end0
  exact ⟨rfl,⟨ms,by rw [zb HV];exact zb H⟩,ze.refl _ _⟩
 ·have hd:decide (p∈rs)=false:=decide_eq_false hin
  rw [hd] at hcell
  have HV:Hid (Prg.visL rs p=rs++[p]):=by show _=_;unfold Prg.visL;rw [if_neg hin]
  have HIN:=zc hin
  have HK1:Hid (ze (fun g=>g=gb∨base≤g) w (w.setCell ⟨gb,p,none⟩ (.bool true))):=(ze.refl _ w).setCell (Or.inl (Or.inl rfl)) _
  have HO1:Hid ((w.setCell ⟨gb,p,none⟩ (.bool true)).ownsRow base 3 1 (.slice ra rn rc) rs.length (zM rs)):=zn (zb HO) ((ze.refl (fun g=>g=gb) w).setCell (Or.inl rfl) _) (fun g hg e=>by have:=(zh (zb HO) g hg).1;omega)
  have HB1:=zc ((zb H).ob.set p true)
  have HC1:Hid (∀ (j:Nat) (u:Value),[Value.int .i64 (p:Nat)][j]?=some u→((w.setCell ⟨gb,p,none⟩ (.bool true)).alloc (.cells #[.int .i64 (p:Nat)] 3)).cell? ((⟨w.heap.size,0,none⟩:Addr).add j)=some u):=by
   have h:=cell_one_new (w.setCell ⟨gb,p,none⟩ (.bool true)) (.int .i64 (p:Nat)) 3
   rw [show (w.setCell ⟨gb,p,none⟩ (.bool true)).heap.size=w.heap.size by simp] at h
   exact h
  have hnot:¬(rb=gb∨base≤rb):=by omega
  have hrl:rb<w.heap.size:=by omega
  clear hin hd
  go_enter Tryz.func132,Tryz.ntmps132
  go_wp2_with (at_builtin;refine wpList_append_own _ rfl _ _ 27 rfl base 3 i0 (.int .i64 0) 1 8 Tryz.underlying27 hi0 hz0 hz1 hz2 rfl (by decide) _ _ _ rfl (World.ownsRow.alloc (zb HO1) _) _ 1 1 [.int .i64 (p:Nat)] rfl rfl (zb HC1) (fun x hx=>by simp at hx;subst hx;rfl) (by unfold maxLen;omega) (by omega) (by simp;omega) ?_;intro v' w4 hown' hgrow hnil;obtain ⟨xa,xn,xc,rfl⟩:=zy hown';have Hown4:=zc hown';have HGR:=zc hgrow;have hK4:ze (fun g=>g=gb∨base≤g) w w4:=((zb HK1).alloc _).grown hgrow (fun j hj=>Or.inl (Or.inr (zh (zb HO1) j hj).1));have hrv4:=zg hK4 _ _ hrv hnot;have hrf4:=zP hK4 _ hrl hrf hnot;have HK4:=zc hK4;clear hown' hgrow hnil hK4)
  go_end0
  have hK5:ze (fun g=>g=rb) w4 (w4.setCell ⟨rb,0,none⟩ (.slice xa xn xc)):=(ze.refl (fun g=>g=rb) w4).setCell (p:=⟨rb,0,none⟩) (Or.inl (show rb=rb from rfl)) _
  have hO:=zb H
  have hBl:∀ k,k<base→k≠gb→¬(k=gb∨base≤k):=fun k h1 h2=>by omega
  have hown5:(w4.setCell ⟨rb,0,none⟩ (.slice xa xn xc)).ownsRow base 3 1 (.slice xa xn xc) (rs++[p]).length (zM (rs++[p])):=by
   have:=zn (zb Hown4) hK5 (fun g hg e=>by have h1:=(zh (zb Hown4) g hg).1;have h2:g=rb:=e;omega)
   rw [List.length_append]
   unfold zM
   rw [List.map_append]
   exact this
  have hB4:xQ w4 gb (ms.set p true):=(((zb HB1).keep ((ze.refl (fun _=>False) _).alloc _) (fun f=>f))).keep (P:=fun g=>base≤g) ((ze.refl _ _).grown (zb HGR) (fun j hj=>Or.inl (zh (zb HO1) j hj).1)) (by omega)
  have hms:ms[p]?=some false:=by have:=hO.mark p hp;rw [decide_eq_false (zb HIN)] at this;exact this
  have hpl:p<ms.length:=by rw [hO.ml];exact hp
  refine ⟨rfl,⟨ms.set p true,?_⟩,?_⟩
  ·rw [zb HV]
   refine ⟨?_,⟨_,World.cell?_setCell_same _ _ _ hrv4,hown5⟩,?_,hB4.keep hK5 (fun e=>hd3 e.symm),by rw [List.length_set];exact hO.ml,fun q hq=>?_,?_,fun a ha=>?_,hd1,hd2,hd3,hl1,hl2,hl3,?_⟩
   ·exact zg hK5 _ _ (zg (zb HK4) _ _ hs0 (hBl sb hl1 hd2)) hd1
   ·rw [World.frozen?_setCell];exact hrf4
   ·by_cases e:p=q
    ·subst e
     rw [List.getElem?_set_self hpl]
     simp
    ·rw [List.getElem?_set_ne e,hO.mark q hq]
     simp [List.mem_append,Ne.symm e]
   ·rw [List.countP_set hpl,List.length_append,hO.cnt]
    have:ms[p]=false:=by have:=List.getElem?_eq_getElem hpl;rw [hms] at this;exact (Option.some.inj this).symm
    simp [this]
   ·rcases List.mem_append.1 ha with ha |ha
    ·exact hO.lt a ha
    ·simp at ha;omega
   ·have:=(zb HK4).size
    simp;omega
  ·exact ((zb HK4).mono (fun k _ e=>e.elim (fun e=>Or.inr (Or.inl e)) (fun e=>Or.inr (Or.inr e)))).trans (hK5.mono (fun k _ e=>Or.inl e))
set_option maxHeartbeats 4000000
namespace Prg
theorem jI {rs:List Nat}{p q:Nat}:q∈visL rs p↔q∈rs∨q=p:=by
 unfold visL
 split
 ·rename_i h
  exact ⟨.inl,fun e=>e.elim id (fun e=>e ▸ h)⟩
 ·simp
theorem VC {rs:List Nat}{p j:Nat}(h:j<rs.length):(visL rs p)[j]?=rs[j]?:=by
 unfold visL
 split
 ·rfl
 ·rw [List.getElem?_append_left h]
theorem Qq (rs:List Nat)(p:Nat):rs.length≤(visL rs p).length:=by
 unfold visL
 split
 ·exact Nat.le_refl _
 ·simp
def epsB (N:List Stp)(H:Int→Bool)(a t:Nat):Prop:=∃ s,N[a]?=some s∧((s.kind=2∧H s.asr=true∧t=s.next)∨(s.kind=3∧(t=s.next∨t=s.other)))
def GE (N:List Stp)(H:Int→Bool)(a b:Nat):Prop:=Sm.Goes (fun _ _=>False) (fun x _=>H x=true) N a 0 b 0
theorem GE.refl (N:List Stp)(H:Int→Bool)(a:Nat):GE N H a a:=Sm.Goes.refl _ _ _
theorem GE.step {N:List Stp}{H:Int→Bool}{a b c:Nat}(h:GE N H a b)(e:epsB N H b c):GE N H a c:=by
 refine Sm.Goes.trans h (Sm.Goes.one ?_)
 obtain ⟨s,hs,h1 |h1⟩:=e
 ·exact ⟨s,hs,.inr (.inl ⟨h1.1,h1.2.1,h1.2.2,rfl⟩)⟩
 ·exact ⟨s,hs,.inr (.inr ⟨h1.1,h1.2,rfl⟩)⟩
end Prg
namespace Prg
def Inv (N:List Stp)(H:Int→Bool)(bs:List Nat)(n:Nat)(rs:List Nat):Prop:=(∀ p∈bs,p∈rs)∧(∀ q∈rs,∃ p∈bs,GE N H p q)∧∀ (j:Nat) a,j<n→rs[j]?=some a→∀ t,epsB N H a t→t∈rs
theorem Inv.visit {N:List Stp}{H:Int→Bool}{bs rs:List Nat}{n a t:Nat}(h:Inv N H bs n rs)(ha:rs[n]?=some a)(e:epsB N H a t):Inv N H bs n (visL rs t)∧(visL rs t)[n]?=some a∧t∈visL rs t:=by
 have hn:n<rs.length:=(List.getElem?_eq_some_iff.1 ha).1
 refine ⟨⟨fun p hp=>jI.2 (.inl (h.1 p hp)),fun q hq=>?_,fun j b hj hb u hu=>?_⟩,by rw [VC hn];exact ha,jI.2 (.inr rfl)⟩
 ·rcases jI.1 hq with hq |rfl
  ·exact h.2.1 q hq
  ·obtain ⟨p,hp,g⟩:=h.2.1 a (List.mem_of_getElem? ha)
   exact ⟨p,hp,g.step e⟩
 ·rw [VC (by omega)] at hb
  exact jI.2 (.inl (h.2.2 j b hj hb u hu))
theorem Inv.next {N:List Stp}{H:Int→Bool}{bs rs:List Nat}{n a:Nat}(h:Inv N H bs n rs)(ha:rs[n]?=some a)(e:∀ t,epsB N H a t→t∈rs):Inv N H bs (n+1) rs:=
 ⟨h.1,h.2.1,fun j b hj hb u hu=>by
  by_cases ej:j=n
  ·subst ej
   cases ha.symm.trans hb
   exact e u hu
  ·exact h.2.2 j b (by omega) hb u hu⟩
theorem eps_test {N:List Stp}{H:Int→Bool}{a:Nat}{s:Stp}(hs:N[a]?=some s)(hk:s.kind=2)(t:Nat):epsB N H a t↔H s.asr=true∧t=s.next:=by
 constructor
 ·rintro ⟨s',hs',h⟩
  cases hs.symm.trans hs'
  rcases h with h |h
  ·exact h.2
  ·omega
 ·rintro ⟨h1,h2⟩
  exact ⟨s,hs,.inl ⟨hk,h1,h2⟩⟩
theorem eps_fork {N:List Stp}{H:Int→Bool}{a:Nat}{s:Stp}(hs:N[a]?=some s)(hk:s.kind=3)(t:Nat):epsB N H a t↔t=s.next∨t=s.other:=by
 constructor
 ·rintro ⟨s',hs',h⟩
  cases hs.symm.trans hs'
  rcases h with h |h
  ·omega
  ·exact h.2
 ·exact fun h=>⟨s,hs,.inr ⟨hk,h⟩⟩
theorem eps_none {N:List Stp}{H:Int→Bool}{a:Nat}{s:Stp}(hs:N[a]?=some s)(h2:s.kind≠2)(h3:s.kind≠3)(t:Nat):¬epsB N H a t:=by
 rintro ⟨s',hs',h⟩
 cases hs.symm.trans hs'
 rcases h with h |h
 ·exact h2 h.1
 ·exact h3 h.1
end Prg
theorem zaL {w:World}{base m n c:Nat}{a:Option Addr}{rs:List Nat}(h:w.ownsRow base 3 1 (.slice a n c) m (zM rs))(hm:m=rs.length):n=m∧∀ k,(hk:k<rs.length)→∃ g,a=some ⟨g,0,none⟩∧m≤c∧w.cell? ⟨g,k,none⟩=some (.int .i64 (rs[k]:Nat)):=by
 have hc:=@World.ownsRow.cells w base 3 1 _ m _ h
 rcases h.2 with ⟨e,h0⟩ |⟨g,cap,cur,e,hb,hg,hn,_⟩
 ·simp at e
  exact ⟨by omega,fun k hk=>by omega⟩
 ·simp at e
  obtain ⟨rfl,rfl,rfl⟩:=e
  refine ⟨rfl,fun k hk=>⟨g,rfl,hn,?_⟩⟩
  have:=hc (g:=g) rfl k (.int .i64 (rs[k]:Nat)) (by unfold zM;rw [List.getElem?_map,List.getElem?_eq_getElem hk];rfl)
  have e:(⟨g,0,none⟩:Addr).add k=⟨g,k,none⟩:=by unfold Addr.add;split<;>simp_all
  rw [e] at this
  exact this
theorem ze.under {P:Nat→Prop}{a b c:World}(h:ze (fun _=>False) a b)(k:ze P b c)(hp:∀ j,j<a.heap.size→¬P j):ze (fun _=>False) a c:=
 ⟨k.os.trans h.os,k.tape.trans h.tape,k.output.trans h.output,Nat.le_trans h.size k.size,fun j hj _=>(k.block j (Nat.lt_of_lt_of_le hj h.size) (hp j hj)).trans (h.block j hj (fun f=>f))⟩
theorem xr.keepP {P:Nat→Prop}{W W':World}{b:Nat}{x y z u:Bool}(h:xr W b x y z u)(k:ze P W W')(hn:¬P b):xr W' b x y z u:=by
 have hb:b<W.heap.size:=World.block_lt_of_cell? W ⟨b,0,none⟩ h.k0
 exact ⟨zg k _ _ h.k0 hn,zg k _ _ h.k1 hn,zg k _ _ h.k2 hn,zg k _ _ h.k3 hn,zP k _ hb h.f0 hn,zP k _ hb h.f1 hn,zP k _ hb h.f2 hn,zP k _ hb h.f3 hn⟩
structure Rgo (w wr:World)(n:Nat)(x0 x1 x2 x3:Bool)(ms:List Bool)(rs:List Nat):Prop where
 rch:Rch wr (w.heap.size+1+1+1+1) (w.heap.size+1+1+1) (w.heap.size+1) (w.heap.size+1+1) n ms rs
 on:ze (fun _=>False) w wr
 sp:xr wr w.heap.size x0 x1 x2 x3
theorem Rgo.keep {w wr w':World}{n:Nat}{x0 x1 x2 x3:Bool}{ms:List Bool}{rs:List Nat}(h:Rgo w wr n x0 x1 x2 x3 ms rs)(k:ze (fun _=>False) wr w'):Rgo w w' n x0 x1 x2 x3 ms rs:=⟨h.rch.keep k,h.on.trans k,h.sp.keep k⟩
theorem Yc {w wr:World}{n p:Nat}{x0 x1 x2 x3:Bool}{ms:List Bool}{rs:List Nat}(h:Rgo w wr n x0 x1 x2 x3 ms rs)(hp:p<n)(hn:n≤300) :
  Calls Tryz.prog 132 #[.int .i64 (p:Nat),.pointer (some ⟨w.heap.size+1+1+1,0,none⟩),.pointer (some ⟨w.heap.size+1,0,none⟩)] wr fun x w'=>x = .returned (.tuple #[])∧∃ ms',Rgo w w' n x0 x1 x2 x3 ms' (Prg.visL rs p):=by
 refine (zcr _ _ _ _ n p ms rs wr h.rch hp hn).mono ?_
 rintro e w' ⟨rfl,⟨ms',h1⟩,h2⟩
 exact ⟨rfl,ms',h1,h.on.under h2 (fun j hj e=>by unfold Vis at e;omega),h.sp.keepP h2 (fun e=>by unfold Vis at e;omega)⟩
theorem Rgo.start (w:World)(n:Nat)(x0 x1 x2 x3:Bool)(T:TypeId):Rgo w ((((w.alloc (.cells #[.bool x0,.bool x1,.bool x2,.bool x3] T)).alloc (.cells #[.slice none 0 0] 27)).alloc (.cells (madeCells #[.bool false] n) 4)).alloc (.cells #[.slice (some ⟨w.heap.size+1+1,0,none⟩) n n] 186)) n x0 x1 x2 x3 (List.replicate n false) []:=by
 have k1:∀ (W:World) (o:Obj),ze (fun _=>False) W (W.alloc o):=fun W o=>(ze.refl _ _).alloc o
 refine ⟨⟨?_,⟨.slice none 0 0,?_,World.ownsRow_nil _ _ _ _⟩,?_,?_,by simp,fun p hp=>?_,?_,by simp,by omega,by omega,by omega,by omega,by omega,by omega,by simp⟩,?_,?_⟩
 ·exact zm _ _ (by simp) _ _ 0 _ rfl
 ·exact zg ((k1 _ _).trans (k1 _ _)) _ _ (zm _ _ (by simp) _ _ 0 _ rfl) (fun f=>f)
 ·exact zP ((k1 _ _).trans (k1 _ _)) _ (by simp) (zG _ _ (by simp) _ _ 0) (fun f=>f)
 ·have h:=xQ.made ((w.alloc (.cells #[.bool x0,.bool x1,.bool x2,.bool x3] T)).alloc (.cells #[.slice none 0 0] 27)) n
  rw [show ((w.alloc (.cells #[.bool x0,.bool x1,.bool x2,.bool x3] T)).alloc (.cells #[.slice none 0 0] 27)).heap.size=w.heap.size+1+1 by simp] at h
  exact h.keep (k1 _ _) (fun f=>f)
 ·rw [List.getElem?_replicate,if_pos hp];simp
 ·rw [List.countP_replicate];simp
 ·exact (((k1 _ _).trans (k1 _ _)).trans (k1 _ _)).trans (k1 _ _)
 ·exact ((xr.new w _ rfl _ _ _ _ _).keep (((k1 _ _).trans (k1 _ _)).trans (k1 _ _)))
theorem YQ (pb st:Nat)(N:List Stp)(W:Int→Bool)(bv:Value)(bs:List Nat)(x0 x1 x2 x3:Bool)(A:Nat→Prop)(w:World)(hP:xi w A pb N st W)(hB:xI w bv bs)(hb:∀ a∈bs,a<N.length)(hl:bs.length≤301) :
  Calls Tryz.prog 83 #[.pointer (some ⟨pb,0,none⟩),bv,.agg #[.bool x0,.bool x1,.bool x2,.bool x3]] w fun x w'=>∃ rv rs,x = .returned rv∧w'.ownsRow w.heap.size 3 1 rv rs.length (zM rs)∧ze (fun _=>False) w w'∧rs.length≤N.length∧(∀ a∈rs,a<N.length)∧(∀ p∈bs,p∈rs)∧(∀ q∈rs,∃ p∈bs,Prg.GE N (Prg.qJ x0 x1 x2 x3) p q)∧∀ a∈rs,∀ t,Prg.epsB N (Prg.qJ x0 x1 x2 x3) a t→t∈rs:=by
 obtain ⟨va,vc,rfl⟩:=hB.slice
 obtain ⟨gs,cs,hst,hA,hcs,hrow⟩:=hP.c0
 have hNl:=hP.len
 have hmk:=jt N.length (by omega)
 have HB:=zc hB
 have HP:=zc hP
 have HW:=zc hrow
 have HBN:=zc hb
 clear hB hP hrow hb
 have hst1:∀ o1 o2,((w.alloc o1).alloc o2).cell? ⟨pb,0,none⟩=some (.slice (some ⟨gs,0,none⟩) N.length cs):=fun o1 o2=>zg (((ze.refl (fun _=>False) w).alloc o1).alloc o2) _ _ hst (fun f=>f)
 go_enter Tryz.func83,Tryz.ntmps83
 go_wp2_with fail
 have HR:=zc (Rgo.start w N.length x0 x1 x2 x3 200)
 generalize hW0:((((w.alloc (.cells #[.bool x0,.bool x1,.bool x2,.bool x3] 200)).alloc (.cells #[.slice none 0 0] 27)).alloc (.cells (madeCells #[.bool false] N.length) 4)).alloc (.cells #[.slice (some ⟨w.heap.size+1+1,0,none⟩) N.length N.length] 186))=W0 at HR ⊢
 clear hW0 hmk hst1
 have eg:∀ args w,(callFunc 132 args).run Tryz.prog w = .ok (.enter 132 args) w:=enters_of Tryz.func132 (by kernel_rfl) rfl
 go_loopw [23] (fun k wr=>∃ (n:Nat) (ms:List Bool) (rs:List Nat),k = .int .i64 n∧n≤bs.length∧Hid (Rgo w wr N.length x0 x1 x2 x3 ms rs)∧Hid ((∀ q∈rs,q∈bs)∧∀ p∈bs.take n,p∈rs)) (fun k _=>bs.length-(intOf k).toNat)
 case atStart=>exact ⟨0,_,[],rfl,by omega,HR,by simp,by simp⟩
 case round=>
  obtain ⟨n,ms,rs,rfl,hn,HG,HI⟩:=hrel
  by_cases hlt:n<bs.length
  ·obtain ⟨g,rfl,hcap,hc1⟩:=(zb HB).get hlt
   have hc2:=zg (zb HG).on _ _ hc1 (fun f=>f)
   clear hc1
   have hbn:=(zb HBN) bs[n] (List.getElem_mem hlt)
   have HI2:Hid ((∀ q∈Prg.visL rs bs[n],q∈bs)∧∀ p∈bs.take (n+1),p∈Prg.visL rs bs[n]):=by
    refine ⟨fun q hq=>?_,fun p hp=>?_⟩
    ·rcases Prg.jI.1 hq with h |rfl
     ·exact (zb HI).1 q h
     ·exact List.getElem_mem hlt
    ·rw [List.take_add_one,List.getElem?_eq_getElem hlt] at hp
     rcases List.mem_append.1 hp with h |h
     ·exact Prg.jI.2 (.inl ((zb HI).2 p h))
     ·exact Prg.jI.2 (.inr (by simpa using h))
   generalize bs[n]=a at *
   go_wp2_with (go_at_fn 132;refine (Yc (zb HG) hbn hNl).mono ?_;rintro e w1 ⟨rfl,ms1,hG1⟩;have HG1:=zc hG1;clear hG1)
   exact ⟨⟨n+1,ms1,_,by go_num,by omega,HG1,HI2⟩,by simp [intOf];omega⟩
  ·obtain rfl:n=bs.length:=by omega
   rw [List.take_length] at HI
   go_wp2_with fail
   have HI0:Hid (Prg.Inv N (Prg.qJ x0 x1 x2 x3) bs 0 rs):=⟨(zb HI).2,fun q hq=>⟨q,(zb HI).1 q hq,Prg.GE.refl _ _ _⟩,fun j a hj=>by omega⟩
   clear HI
   go_loopw [12] (fun k wq=>∃ (n:Nat) (ms:List Bool) (rs:List Nat),k = .int .i64 n∧n≤rs.length∧Hid (Rgo w wq N.length x0 x1 x2 x3 ms rs)∧Hid (Prg.Inv N (Prg.qJ x0 x1 x2 x3) bs n rs)) (fun k _=>N.length-(intOf k).toNat)
   case atStart=>exact ⟨0,ms,rs,rfl,by omega,HG,HI0⟩
   case round=>
    clear HG HI0
    obtain ⟨n,ms2,rs2,rfl,hn2,HG2,HI2⟩:=hrel
    have hlen2:=(zb HG2).rch.len
    obtain ⟨rv,hrv,hown⟩:=(zb HG2).rch.r0
    obtain ⟨ra,rn,rc,rfl⟩:=zy hown
    obtain ⟨rfl,hgets⟩:=zaL hown rfl
    by_cases hlt2:n<rs2.length
    ·obtain ⟨gr,rfl,hrc,hcr⟩:=hgets n hlt2
     have hra:rs2[n]<N.length:=(zb HG2).rch.lt _ (List.getElem_mem hlt2)
     have hget:N[rs2[n]]?=some N[rs2[n]]:=List.getElem?_eq_getElem hra
     have HA:Hid (rs2[n]?=some rs2[n]):=List.getElem?_eq_getElem hlt2
     obtain ⟨s0,_,s2,s3,s4⟩:=zb HW _ _ hget
     have hfit:=(zb HP).fit _ _ hget
     have HS3:=zc s3
     have HS4:=zc s4
     have e0:=zg (zb HG2).on _ _ s0 (fun f=>f)
     have e2:=zg (zb HG2).on _ _ s2 (fun f=>f)
     have e3:=zg (zb HG2).on _ _ s3 (fun f=>f)
     have ep:=zg (zb HG2).on _ _ hst (fun f=>f)
     have HGT:=zc hget
     clear s0 s2 s3 s4 hget hgets hown
     generalize N[rs2[n]]=s at *
     generalize rs2[n]=a at *
     obtain ⟨hf1,hf2⟩:=hfit
     have b1:(0:Int)≤(n:Int):=by omega
     have b2:(n:Int)<(rs2.length:Int):=by omega
     have b3:(0:Int)≤(a:Int):=by omega
     have b4:(a:Int)<(N.length:Int):=by omega
     by_cases hk2:s.kind=2
     ·have hb2:((s.kind:Int) == 2)=true:=by simp;omega
      obtain ⟨k0,k1,k2,k3,_,_,_,_⟩:=(zb HG2).sp
      have HZ:Hid (∀ W',ze (fun _=>False) wr W'→Calls Tryz.prog 133 #[.agg #[.bool x0,.bool x1,.bool x2,.bool x3],.int .i64 s.asr] W' fun e w'=>e = .returned (.bool (Prg.qJ x0 x1 x2 x3 s.asr))∧ze (fun _=>False) wr w'∧w'.cell? ⟨w.heap.size,0,none⟩=some (.bool x0)∧w'.cell? ⟨w.heap.size,1,none⟩=some (.bool x1)∧w'.cell? ⟨w.heap.size,2,none⟩=some (.bool x2)∧w'.cell? ⟨w.heap.size,3,none⟩=some (.bool x3)∧w'.cell? ⟨gs,a*5+2,none⟩=some (.int .i64 s.asr)):=fun W' hW=>by
       refine (zcn x0 x1 x2 x3 s.asr W').mono ?_
       rintro e w' ⟨rfl,hO⟩
       have k:=hW.trans hO
       exact ⟨rfl,k,zg k _ _ k0 (fun f=>f),zg k _ _ k1 (fun f=>f),zg k _ _ k2 (fun f=>f),zg k _ _ k3 (fun f=>f),zg k _ _ e2 (fun f=>f)⟩
      have HE:=zc (fun t=>Prg.eps_test (H:=Prg.qJ x0 x1 x2 x3) (zb HGT) hk2 t)
      clear hk2
      cases hH:Prg.qJ x0 x1 x2 x3 s.asr
      ·have HI3:Hid (Prg.Inv N (Prg.qJ x0 x1 x2 x3) bs (n+1) rs2):=(zb HI2).next (zb HA) (fun t ht=>by have:=((zb HE t).1 ht).1;rw [hH] at this;cases this)
       rw [hH] at HZ
       clear hH
       go_wp2_with fail
       go_quiet (fail)
       go_wp2_with fail
       go_region_held3 (fun w'=>w'.cell? ⟨w.heap.size,0,none⟩=some (.bool x0)∧w'.cell? ⟨w.heap.size,1,none⟩=some (.bool x1)∧w'.cell? ⟨w.heap.size,2,none⟩=some (.bool x2)∧w'.cell? ⟨w.heap.size,3,none⟩=some (.bool x3)∧w'.cell? ⟨gs,a*5+2,none⟩=some (.int .i64 s.asr)) (go_keep)
        (first |(go_at_call 133;refine (zb HZ _ (by first |exact ze.refl _ _ |exact (ze.refl _ _).drewN _ |exact ((ze.refl _ _).drewN _).drewN _)).mono ?_;rintro e w1 ⟨rfl,hO1,y0,y1,y2,y3,y4⟩;have HG3:=zc ((zb HG2).keep hO1);clear hO1))
       go_wp2_with fail
       exact ⟨⟨n+1,ms2,rs2,by go_num,by omega,HG3,HI3⟩,by simp [intOf];omega⟩
      ·obtain ⟨i1,i2,i3⟩:=(zb HI2).visit (zb HA) ((zb HE s.next).2 ⟨hH,rfl⟩)
       have HI3:Hid (Prg.Inv N (Prg.qJ x0 x1 x2 x3) bs (n+1) (Prg.visL rs2 s.next)):=i1.next i2 (fun t ht=>by rw [((zb HE t).1 ht).2];exact i3)
       have hvl:=Prg.Qq rs2 s.next
       rw [hH] at HZ
       clear hH i1 i2 i3
       go_wp2_with fail
       go_quiet (fail)
       go_wp2_with fail
       go_region_held3 (fun w'=>w'.cell? ⟨w.heap.size,0,none⟩=some (.bool x0)∧w'.cell? ⟨w.heap.size,1,none⟩=some (.bool x1)∧w'.cell? ⟨w.heap.size,2,none⟩=some (.bool x2)∧w'.cell? ⟨w.heap.size,3,none⟩=some (.bool x3)∧w'.cell? ⟨gs,a*5+2,none⟩=some (.int .i64 s.asr)) (go_keep)
        (first |(go_at_call 133;refine (zb HZ _ (by first |exact ze.refl _ _ |exact (ze.refl _ _).drewN _ |exact ((ze.refl _ _).drewN _).drewN _)).mono ?_;rintro e w1 ⟨rfl,hO1,y0,y1,y2,y3,y4⟩;have z3:=zg hO1 _ _ e3 (fun f=>f);have HG3:=zc ((zb HG2).keep hO1);clear hO1))
       go_wp2_with (go_at_fn 132;refine (Yc ((zb HG3).keep (by first |exact ze.refl _ _ |exact (ze.refl _ _).drewN _)) hf1 hNl).mono ?_;rintro e w2 ⟨rfl,ms3,hG4⟩;have HG4:=zc hG4;clear hG4)
       exact ⟨⟨n+1,ms3,_,by go_num,by omega,HG4,HI3⟩,by simp [intOf];omega⟩
     ·by_cases hk3:s.kind=3
      ·have hb2:((s.kind:Int) == 2)=false:=by simp;omega
       have hb3:((s.kind:Int) == 3)=true:=by simp;omega
       have HE:=zc (fun t=>Prg.eps_fork (H:=Prg.qJ x0 x1 x2 x3) (zb HGT) hk3 t)
       clear hk2 hk3
       obtain ⟨i1,i2,i3⟩:=(zb HI2).visit (zb HA) ((zb HE s.next).2 (.inl rfl))
       obtain ⟨j1,j2,j3⟩:=i1.visit i2 ((zb HE s.other).2 (.inr rfl))
       have HI3:Hid (Prg.Inv N (Prg.qJ x0 x1 x2 x3) bs (n+1) (Prg.visL (Prg.visL rs2 s.next) s.other)):=j1.next j2 (fun t ht=>by
        rcases (zb HE t).1 ht with rfl |rfl
        ·exact Prg.jI.2 (.inl i3)
        ·exact j3)
       have hvl:=Prg.Qq rs2 s.next
       have hvl2:=Prg.Qq (Prg.visL rs2 s.next) s.other
       clear i1 i2 i3 j1 j2 j3
       go_wp2_with fail
       go_quiet (fail)
       go_wp2_with (first
        |(go_at_fn 132;refine (Yc ((zb HG2).keep (by first |exact ze.refl _ _ |exact (ze.refl _ _).drewN _)) hf1 hNl).mono ?_;rintro e w1 ⟨rfl,ms3,hG3⟩;have z4:=zg hG3.on _ _ (zb HS4) (fun f=>f);have HG3:=zc hG3;clear hG3 HG2)
        |(go_at_fn 132;refine (Yc ((zb HG3).keep (by first |exact ze.refl _ _ |exact (ze.refl _ _).drewN _)) hf2 hNl).mono ?_;rintro e w2 ⟨rfl,ms4,hG4⟩;have HG4:=zc hG4;clear hG4))
       exact ⟨⟨n+1,ms4,_,by go_num,by omega,HG4,HI3⟩,by simp [intOf];omega⟩
      ·have hb2:((s.kind:Int) == 2)=false:=by simp;omega
       have hb3:((s.kind:Int) == 3)=false:=by simp;omega
       have HI3:Hid (Prg.Inv N (Prg.qJ x0 x1 x2 x3) bs (n+1) rs2):=(zb HI2).next (zb HA) (fun t ht=>absurd ht (Prg.eps_none (zb HGT) hk2 hk3 t))
       clear hk2 hk3
       go_wp2_with fail
       go_quiet (fail)
       go_wp2_with fail
       exact ⟨⟨n+1,ms2,rs2,by go_num,by omega,(zb HG2).keep ((ze.refl _ _).drewN _),HI3⟩,by simp [intOf];omega⟩
    ·obtain rfl:n=rs2.length:=by omega
     have HF:=zc hown
     clear hgets hown
     go_wp2_with fail
     go_ret
     refine ⟨_,rs2,rfl,xd (zb HF) (by omega),(zb HG2).on,hlen2,(zb HG2).rch.lt,(zb HI2).1,(zb HI2).2.1,fun a ha t ht=>?_⟩
     obtain ⟨j,hj⟩:=j5 ha
     exact (zb HI2).2.2 j a (List.getElem?_eq_some_iff.1 hj).1 hj t ht
theorem xI.of {w:World}{base:Nat}{v:Value}{rs:List Nat}(h:w.ownsRow base 3 1 v rs.length (zM rs)):xI w v rs:=by
 obtain ⟨a,n,c,rfl⟩:=zy h
 obtain ⟨rfl,hg⟩:=zaL h rfl
 by_cases h0:rs=[]
 ·subst h0
  rcases h.2 with ⟨e,_⟩ |⟨g,cap,cur,e,_,_,hn,_⟩
  ·exact .inl ⟨e,rfl⟩
  ·exact .inr ⟨g,cap,e,hn,fun j a hj=>by simp at hj⟩
 ·have hl:0<rs.length:=List.length_pos_iff.2 h0
  obtain ⟨g,rfl,hc,_⟩:=hg 0 hl
  refine .inr ⟨g,c,rfl,hc,fun j a hj=>?_⟩
  obtain ⟨hjl,rfl⟩:=List.getElem?_eq_some_iff.1 hj
  obtain ⟨g',e,_,h2⟩:=hg j hjl
  cases e
  exact h2
theorem zcs (rv:Value)(rs:List Nat)(v:Nat)(w:World)(h:xI w rv rs)(hl:rs.length≤1000) :
  Calls Tryz.prog 135 #[rv,.int .i64 (v:Nat)] w fun x w'=>∃ k:Int,x = .returned (.int .i64 k)∧(0≤k↔v∈rs)∧ze (fun _=>False) w w':=by
 obtain ⟨va,vc,rfl⟩:=h.slice
 have HB:=zc h
 clear h
 go_enter Tryz.func135,Tryz.ntmps135
 go_wp2_with fail
 go_loopw [8] (fun k wr=>∃ n:Nat,k = .int .i64 n∧n≤rs.length∧Hid (ze (fun _=>False) w wr)∧Hid (v∉rs.take n)) (fun k _=>rs.length-(intOf k).toNat)
 case atStart=>exact ⟨0,rfl,by omega,ze.refl _ _,by show ¬v∈rs.take 0;simp⟩
 case round=>
  obtain ⟨n,rfl,hn,HK,HN⟩:=hrel
  by_cases hlt:n<rs.length
  ·obtain ⟨g,rfl,hcap,hc1⟩:=(zb HB).get hlt
   have hc2:=zg (zb HK) _ _ hc1 (fun f=>f)
   clear hc1
   have b1:(0:Int)≤(n:Int):=by omega
   have b2:(n:Int)<(rs.length:Int):=by omega
   have HM:Hid (rs[n]∈rs):=List.getElem_mem hlt
   have HN1:Hid (v≠rs[n]→v∉rs.take (n+1)):=fun hne hm=>by
    rw [List.take_add_one,List.getElem?_eq_getElem hlt] at hm
    rcases List.mem_append.1 hm with h |h
    ·exact zb HN h
    ·exact hne (by simpa using h)
   generalize rs[n]=a at *
   by_cases hva:v=a
   ·have hb:((v:Int) == (a:Int))=true:=by simp [hva]
    have HV:Hid (v∈rs):=by show v∈rs;rw [hva];exact zb HM
    clear hva
    go_wp2_with fail
    go_ret
    exact ⟨n,rfl,⟨fun _=>zb HV,fun _=>by omega⟩,zb HK⟩
   ·have hb:((v:Int) == (a:Int))=false:=by simp;omega
    have HN2:=zc (zb HN1 hva)
    clear hva
    go_wp2_with fail
    exact ⟨⟨n+1,by go_num,by omega,HK,zb HN2⟩,by simp [intOf];omega⟩
  ·obtain rfl:n=rs.length:=by omega
   rw [List.take_length] at HN
   go_wp2_with fail
   go_ret
   exact ⟨-1,rfl,⟨fun h=>by omega,fun h=>absurd h (zb HN)⟩,zb HK⟩
theorem YR (rv:Value)(rs:List Nat)(v:Nat)(w:World)(h:xI w rv rs)(hl:rs.length≤1000) :
  Calls Tryz.prog 85 #[rv,.int .i64 (v:Nat)] w fun x w'=>x = .returned (.bool (decide (v∈rs)))∧ze (fun _=>False) w w':=by
 have HZ:=zc (zcs rv rs v w h hl)
 obtain ⟨va,vc,rfl⟩:=h.slice
 clear h
 by_cases hv:v∈rs
 ·rw [decide_eq_true hv]
  go_enter Tryz.func85,Tryz.ntmps85
  go_wp2_with (go_at_call 135;refine (zb HZ).mono ?_;rintro e w1 ⟨k,rfl,hk,hO1⟩;have hk0:0≤k:=hk.2 hv;clear hk;have HO1:=zc hO1;clear hO1)
  go_ret
  exact ⟨rfl,zb HO1⟩
 ·rw [decide_eq_false hv]
  go_enter Tryz.func85,Tryz.ntmps85
  go_wp2_with (go_at_call 135;refine (zb HZ).mono ?_;rintro e w1 ⟨k,rfl,hk,hO1⟩;have hk0:¬0≤k:=fun h=>hv (hk.1 h);clear hk;have HO1:=zc hO1;clear hO1)
  go_ret
  refine ⟨?_,zb HO1⟩
  show Ending.returned (.bool (decide (0≤k)))=_
  rw [decide_eq_false (by omega)]
end
end Go.Proofs.YtcgleficedipkaaGreatDoor
