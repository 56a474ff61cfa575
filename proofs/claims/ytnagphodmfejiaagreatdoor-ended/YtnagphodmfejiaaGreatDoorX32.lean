/- The shelf's contracts of slices, laid at this program. -/
import Derived.Test.YtnagphodmfejiaaGreatDoorX31
import Derived.Shelf.SlicesE.Compact
import Derived.Shelf.SlicesQ.IndexFunc
import Derived.Ground.SlgnProg
import Derived.Ground.SlgfProg
import Derived.Deep.RegionHeld3
namespace Go.Proofs.YtnagphodmfejiaaGreatDoor
section
open Go.RowKit Go.Shelf Go.Lib Go.Sort
def Ql:Go.Shelf.Ren:=⟨fun |43=>120 |n=>n,fun |22=>158 |23=>21 |3=>3 |4=>4 |0=>0 |n=>n,fun |n=>n⟩
theorem WB:Go.Proofs.SlLaysE.n43 Tryz.prog Ql:={
 mixed:=by kernel_rfl
 f43:=⟨Tryz.f120.name,by decide,Tryz.func120.trans (congrArg some (by kernel_rfl))⟩
 t0:=Tryz.underlying0
 a0:=Tryz.isAgg0
 z0:=Tryz.sizeOf0
 v0:=Tryz.zeroValue0
 t3:=Tryz.underlying3
 a3:=Tryz.isAgg3
 z3:=Tryz.sizeOf3
 v3:=Tryz.zeroValue3
 t4:=Tryz.underlying4
 a4:=Tryz.isAgg4
 z4:=Tryz.sizeOf4
 v4:=Tryz.zeroValue4
 t22:=Tryz.underlying158
 a22:=Tryz.isAgg158
 z22:=Tryz.sizeOf158
 v22:=Tryz.zeroValue158
 a23:=Tryz.isAgg21
 z23:=Tryz.sizeOf21 }
def XK:Go.Shelf.Ren:=⟨fun |8=>62 |6=>116 |n=>n,fun |22=>146 |23=>156 |25=>162 |4=>4 |3=>3 |0=>0 |n=>n,fun |n=>n⟩
theorem K5:Go.Proofs.SlLaysH0.n8 Tryz.prog XK:={
 mixed:=by kernel_rfl
 f6:=⟨Tryz.f116.name,by decide,Tryz.func116.trans (congrArg some (by kernel_rfl))⟩
 f8:=⟨Tryz.f62.name,by decide,Tryz.func62.trans (congrArg some (by kernel_rfl))⟩
 t0:=Tryz.underlying0
 a0:=Tryz.isAgg0
 z0:=Tryz.sizeOf0
 v0:=Tryz.zeroValue0
 t3:=Tryz.underlying3
 a3:=Tryz.isAgg3
 z3:=Tryz.sizeOf3
 v3:=Tryz.zeroValue3
 t4:=Tryz.underlying4
 a4:=Tryz.isAgg4
 z4:=Tryz.sizeOf4
 v4:=Tryz.zeroValue4
 t22:=Tryz.underlying146
 a22:=Tryz.isAgg146
 z22:=Tryz.sizeOf146
 v22:=Tryz.zeroValue146
 t25:=Tryz.underlying162
 a25:=Tryz.isAgg162
 z25:=Tryz.sizeOf162
 v25:=Tryz.zeroValue162 }
theorem WC {w:World}{blk q:Nat}{d:Array Int}:zf (zm blk) w (putRow (Value.int .i32) (Sort.ahead w q) blk 0 d):=by
 refine ⟨rfl,rfl,rfl,by simp,fun k hk hn=>?_⟩
 have hne:k≠blk:=hn
 unfold putRow mapBlock Sort.ahead
 simp only [Array.getElem?_modify,Ne.symm hne,if_false]
theorem jZ.holds {w:World}{blk n:Nat}(h:jZ w blk 0 n):∃ d:Array Int,d.size=n∧Holds (Value.int .i32) w blk 0 d:=by
 obtain ⟨G,h1,h2⟩:=h
 refine ⟨Array.ofFn (n:=n) (fun i=>G i),by simp,fun j hj=>?_⟩
 simp at hj
 rw [getElem!_pos _ j (by simpa using hj)]
 simp only [Array.getElem_ofFn]
 exact ⟨h1 j hj,h2 j hj⟩
theorem compactR (blk n cap:Nat)(w:World)(h:jZ w blk 0 n)(hn:n<1099511627776)(hc:n≤cap) :
  Calls Tryz.prog 120 #[.slice (some ⟨blk,0,none⟩) n cap] w fun e w'=>(∃ a k c,e = .returned (.slice a k c))∧zf (zm blk) w w':=by
 obtain ⟨d,rfl,hH⟩:=h.holds
 refine (AnyE.slices_Compact WB (Value.int .i32) (fun _=>rfl) (EqlAt.intD _ _ _) (NeqAt.intD _ _ _) 0 (fun w=>by kernel_rfl) blk 0 cap d w hH (by omega) hc).mono ?_
 rintro e w' ⟨rfl,q,rfl⟩
 exact ⟨⟨_,_,_,rfl⟩,WC⟩
theorem WD (w:World):Calls Tryz.prog 120 #[.slice none 0 0] w fun e w'=>(∃ a k c,e = .returned (.slice a k c))∧zf (fun _=>False) w w':=by
 have HO:Hid (zf (fun _=>False) w w):=zf.refl _ _
 go_enter Tryz.func120,Tryz.ntmps120
 go_wp2_with fail
 go_ret
 exact ⟨⟨_,_,_,rfl⟩,zb HO⟩
end
section
open Go.RowKit Go.Shelf
open Sm (Stp)
set_option maxHeartbeats 4000000
set_option maxRecDepth 1000000
attribute [local go_sem] Oper.semAt_some
theorem kS:∀ (Z:List (Stp×Value))(j:Nat)(z:Stp×Value),Z[j]?=some z→(yJ Z)[j*5]?=some (.int .i64 (z.1.kind:Nat))∧(yJ Z)[j*5+1]?=some z.2∧(yJ Z)[j*5+2]?=some (.int .i64 z.1.asr)∧(yJ Z)[j*5+3]?=some (.int .i64 (z.1.next:Nat))∧(yJ Z)[j*5+4]?=some (.int .i64 (z.1.other:Nat))
 | [],j,z,h=>by simp at h
 |x :: Z,0,z,h=>by simp at h;subst h;simp [yJ]
 |x :: Z,j+1,z,h=>by
  have:=kS Z j z (by simpa using h)
  rw [show (j+1)*5=j*5+5 by omega]
  simpa [yJ] using this
structure StpsAt (w:World)(pb g cap:Nat)(Z:List (Stp×Value))(wv:Value):Prop where
 c0:w.cell? ⟨pb,0,none⟩=some (.slice (some ⟨g,0,none⟩) Z.length cap)
 c2:w.cell? ⟨pb,2,none⟩=some wv
 le:Z.length≤cap
 row:∀ j u,(yJ Z)[j]?=some u→w.cell? ⟨g,j,none⟩=some u
 gl:g<w.heap.size
abbrev Slc:=Option Addr×Nat×Nat
def slV (p:Slc):Value:=.slice p.1 p.2.1 p.2.2
def Jk (p:Slc):Array Value:=#[.agg #[slV p]]
theorem WE (pb g cap kb:Nat)(Z:List (Stp×Value))(ws:Slc)(zs:List Slc)(w0:World)(h:StpsAt w0 pb g cap Z (slV ws))(hkb:w0.cell? ⟨kb,0,none⟩=some (.pointer (some ⟨pb,0,none⟩)))(hz:Z.map Prod.snd=zs.map slV)(hl:Z.length≤1000)(n:Nat)(hn1:1≤n) :
  SeqO Fence.wide n Tryz.prog 121 #[.pointer (some ⟨kb,0,none⟩)] Jk (ws :: zs) (fun k=>k=kb∨k=pb∨k=g) w0:=by
 intro lp J O0 W hO hD hO0 hJ hY h0
 have hkl:=World.block_lt_of_cell? w0 _ hkb
 have hpl:=World.block_lt_of_cell? w0 _ h.c0
 have hgl:=h.gl
 have HK:Hid (jG (fun k=>k=kb∨k=pb∨k=g) w0 W O0):=jG.start (fun k hk=>by rcases hk with rfl |rfl |rfl;exact hkl;exact hpl;exact hgl) hO hD
 have hk1:=((zb HK).cell (p:=⟨kb,0,none⟩) (.inl rfl)).trans hkb
 have hk2:=((zb HK).cell (p:=⟨pb,2,none⟩) (.inr (.inl rfl))).trans h.c2
 have HH:=ze h
 have HJ:=ze hJ
 have HY:=ze hY
 have HZ:=ze hz
 have hsW:=hO.size
 have hzl:zs.length=Z.length:=by have:=congrArg List.length hz;simpa using this.symm
 obtain ⟨fn,tmps,assign,body,hy,hR⟩:=hY [] O0 ws W h0 (by simp)
 obtain ⟨wa,wn,wc⟩:=ws
 simp only [Jk,slV] at hy hk2
 clear h hJ hY h0 hD hO0 hz
 refine callsIn_of_wp Tryz.func121 rfl trivial ?_ rfl
 simp only [Tryz.ntmps121,List.size_toArray,List.length_cons,List.length_nil,Nat.reduceAdd,Nat.reduceSub,Array.replicate_succ,Array.replicate_zero,List.push_toArray,List.append_toArray,List.nil_append,List.cons_append]
 gi_wp2
 refine hR.mono ?_
 rintro e W1 ⟨rfl,O1,hJ1,hs1,hO1,hlt1⟩
 have HJ1:=ze hJ1
 have HK1:=ze ((zb HK).yield hs1 hO1)
 have hm1:=((zb HK1).cell (p:=⟨kb,0,none⟩) (.inl rfl)).trans hkb
 have hm2:=((zb HK1).cell (p:=⟨pb,0,none⟩) (.inr (.inl rfl))).trans (zb HH).c0
 clear hJ1 hs1 hO1 hlt1 hk1 hk2 hy hR HK
 gi_wp2
 gi_loopw [17] (fun vi wr=>∃ (i:Nat) (O:Nat→Prop),vi = .int .i64 i∧i≤Z.length∧Hid (J (((wa,wn,wc):Slc) :: zs.take i) O wr)∧Hid (jG (fun k=>k=kb∨k=pb∨k=g) w0 wr O)) (fun vi _=>Z.length-(intOf vi).toNat)
 case atStart=>exact ⟨0,O1,rfl,by omega,HJ1,HK1⟩
 case round=>
  clear HK1 HJ1
  obtain ⟨i,O,rfl,hi,HJ1,HK⟩:=hrel
  by_cases hlt:i<Z.length
  ·have hget:Z[i]?=some Z[i]:=List.getElem?_eq_getElem hlt
   obtain ⟨f0,f1,f2,f3,f4⟩:=kS Z i _ hget
   have kc:∀ q u,(yJ Z)[q]?=some u→wr.cell? ⟨g,q,none⟩=some u:=fun q u hq=>((zb HK).cell (p:=⟨g,q,none⟩) (.inr (.inr rfl))).trans ((zb HH).row q u hq)
   have c0:=kc _ _ f0
   have c1:=kc _ _ f1
   have c2:=kc _ _ f2
   have c3:=kc _ _ f3
   have c4:=kc _ _ f4
   obtain ⟨⟨xa,xn,xc⟩,hzi⟩:∃ q,zs[i]?=some q:=⟨_,List.getElem?_eq_getElem (show i<zs.length by omega)⟩
   have hxe:Z[i].2 = .slice xa xn xc:=by
    have h1:(Z.map Prod.snd)[i]?=(zs.map slV)[i]?:=by rw [zb HZ]
    rw [List.getElem?_map,List.getElem?_map,hget,hzi] at h1
    simpa [slV] using h1
   have hzg:zs[i]'(by omega)=(xa,xn,xc):=by
    obtain ⟨h1,h2⟩:=List.getElem?_eq_some_iff.1 hzi
    exact h2
   have HP:Hid ((((wa,wn,wc):Slc) :: zs.take i++[(xa,xn,xc)]) <+: (((wa,wn,wc):Slc) :: zs)):=by
    rw [List.cons_append,←hzg]
    exact (List.cons_prefix_cons).2 ⟨rfl,Je _ i (by omega)⟩
   have HT:Hid (((wa,wn,wc):Slc) :: zs.take i++[(xa,xn,xc)]=((wa,wn,wc):Slc) :: zs.take (i+1)):=by
    rw [List.cons_append,←hzg,vX _ i (by omega)]
    rfl
   rw [hxe] at c1
   clear hget f0 f1 f2 f3 f4 kc hzi hzg
   generalize Z[i]=y at *
   obtain ⟨⟨yk,yl,ya,yn,yo⟩,yv⟩:=y
   simp only [] at hxe c0 c2 c3 c4
   clear hxe
   have hJ2:=zb HJ _ O wr (wr.alloc (.cells #[.int .i64 (yk:Nat),.slice xa xn xc,.int .i64 ya,.int .i64 (yn:Nat),.int .i64 (yo:Nat)] 156)) (zb HJ1) ((zf.refl _ wr).alloc _)
   have HK2:=ze ((zb HK).young (W:=W) hsW (A':=wr.alloc (.cells #[.int .i64 (yk:Nat),.slice xa xn xc,.int .i64 ya,.int .i64 (yn:Nat),.int .i64 (yo:Nat)] 156)) ((zf.refl _ wr).alloc _))
   obtain ⟨fn,tmps,assign,body,hy,hR⟩:=zb HY _ O (xa,xn,xc) _ hJ2 (zb HP)
   simp only [Jk,slV] at hy
   clear hJ2
   gi_wp2
   refine hR.mono ?_
   rintro e W3 ⟨rfl,O',hJ3,hs3,hO3,hlt3⟩
   have HK3:=ze ((zb HK2).yield hs3 hO3)
   gi_wp2
   exact ⟨⟨i+1,O',by go_num,by omega,(by rw [←zb HT];exact hJ3),zb HK3⟩,by simp [intOf];omega⟩
  ·obtain rfl:i=Z.length:=by omega
   gi_wp2
   go_end0
   exact ⟨⟨_,rfl⟩,O,by have:=zb HJ1;rwa [List.take_of_length_le (by omega)] at this⟩
attribute [local go_sem] Oper.semAt_some
theorem K6 {F:Fence}{nF:Nat}{P:Program}(w:World){ops:Array Oper}{rest:List Oper}{o:Oper}{a:Act}{Q:Exit→Act→World→Prop}(hgd:o.guard=none)(s x:Operand)(t:TypeId)
  (ho:o.op = .call { callee:=.builtin .append,args:=#[s,x],argTypes:=#[t,t] })
  (base:Nat) (e:TypeId) (i:TypeInfo) (z:Value) (size bytes:Nat) (ht:P.underlying t=some (.slice e)) (hi:P.info? e=some i) (hz:i.zero=some z)
  (hsize:i.size=size) (hby:i.bytes=bytes) (hzs:z.cells.size=size) (hsz:0<size)
  (v:Value) (n:Nat) (xs:List Value) (hs:a.eval s=v) (hown:w.ownsRow base e size v n xs)
  (ad:Addr) (m c:Nat) (news:List Value) (hx:a.eval x = .slice (some ad) m c) (hl:news.length=m*size) (hnews:∀ j u,news[j]?=some u→w.cell? (ad.add j)=some u) (h1:∀ u∈news,u.oneCell'=true)
  (_hm:0<m) (h63:n+m≤maxLen) (hbytes:(n+m)*bytes≤140737488355328) (hbase:base≤w.heap.size)
  (h:∀ v' w',w'.ownsRow base e size v' (n+m) (xs++news)→w.grownBy w' v.ownBlock→(∀ k,v'.ownBlock=some k→v.ownBlock=some k∨w.heap.size≤k)→wpListIn F nF P ops Q rest (a.put o.dst v') w'):wpListIn F nF P ops Q (o :: rest) a w:=by
 have hgr:∀ w' row,w.grownBy w' none→w.grownBy w' row:=fun w' row g=>⟨g.os,g.tape,g.output,g.size,fun k hk _=>g.block k hk (by simp)⟩
 rcases hown.2 with ⟨rfl,rfl⟩ |⟨g,cap,cur,rfl,hbg,hg,hnc,hcm,hcs,htake⟩
 ·have hxs:xs=[]:=List.eq_nil_of_length_eq_zero (by simpa using hown.1)
  subst hxs
  exact wpListIn_append_own w hgd s x t ho w.heap.size e i z size bytes ht hi hz hsize hby hzs hsz _ 0 [] hs (World.ownsRow_nil _ _ _ _) ad m c news hx hl hnews h1 h63 hbytes (Nat.le_refl _) (fun v' w' h2 h3 _=>h v' w' (yD h2 hbase) h3 (fun k hk=>.inr (h2.lt k hk).1))
 ·by_cases hroom:n+m≤cap
  ·exact wpListIn_append_fits w hgd s x t ho base e i size ht hi hsize g n cap xs hs hown ad m c news hx hl hnews h1 hroom (fun w' h2 h3=>h _ w' h2 h3 (fun k hk=>.inl hk))
  ·refine wpListIn_plain hgd fun K hK'=>?_
   obtain ⟨v',w',hrun,r1,r2⟩:=run_append_arg_grows (P:=P) w t o.type e i z size bytes ht hi hz hsize hby hzs hsz ⟨g,0,none⟩ n cap xs hown.1 (hown.cells (g:=g) rfl) ad m c news hl hnews (by omega) h63 hbytes
   unfold Oper.wpIn
   refine ⟨?_,?_⟩
   ·simp [Oper.about,ho,resolve,Target.leads,Sem.run_pure]
   ·rw [Oper.semAt_plain F _ _ (by rw [ho];intro c hc';cases hc')]
    simp [execOp,ho,resolve,invoke,builtin,hs,hx,hrun,Result.andThen]
    exact hK' _ _ (h v' w' (yD r1 hbase) (hgr _ _ r2) (fun k hk=>.inr (r1.lt k hk).1))
theorem Tryz.infoRune:(Tryz.prog.info? 21).map (fun i=>(i.zero,i.size,i.bytes))=some (some (.int .i32 0),1,4):=by kernel_rfl
def xU (cs:List Int):List Value:=cs.map (Value.int .i32)
structure ZF (w:World)(O:Nat→Prop)(X:World)(B:Nat):Prop where
 ex:∃ sv cs,X.cell? ⟨w.heap.size,0,none⟩=some sv∧X.ownsRow (w.heap.size+1) 21 1 sv cs.length (xU cs)∧cs.length≤B∧∀ k,O k↔k=w.heap.size∨sv.ownBlock=some k
 fr:X.frozen? ⟨w.heap.size,0,none⟩=false
 only:zf (fun _=>False) w X
 size:w.heap.size+1≤X.heap.size
theorem ZF.keep {w X X':World}{O:Nat→Prop}{B B2:Nat}(h:ZF w O X B)(hB:w.heap.size+1≤B2)(k:zf (fun k=>B2≤k∧¬O k) X X'):ZF w O X' B:=by
 obtain ⟨sv,cs,h1,h2,h3,h4⟩:=h.ex
 have hn:¬(B2≤w.heap.size∧¬O w.heap.size):=fun h=>by omega
 have hs:=h.size
 exact ⟨⟨sv,cs,(k.cell (p:=⟨w.heap.size,0,none⟩) (by show _<_;simp only;omega) hn).trans h1,zp h2 k (fun g hg hp=>hp.2 ((h4 g).2 (.inr hg))),h3,h4⟩,(k.frozen (p:=⟨w.heap.size,0,none⟩) (by show _<_;simp only;omega) hn).trans h.fr,
  ⟨k.os.trans h.only.os,k.tape.trans h.only.tape,k.output.trans h.only.output,Nat.le_trans h.only.size k.size,fun j hj _=>(k.block j (by omega) (fun hp=>by omega)).trans (h.only.block j hj (fun f=>f))⟩,Nat.le_trans h.size k.size⟩
theorem ZF.lt {w X:World}{O:Nat→Prop}{B:Nat}(h:ZF w O X B):∀ k,O k→k<X.heap.size:=fun k hk=>by
 obtain ⟨sv,cs,h1,h2,h3,h4⟩:=h.ex
 rcases (h4 k).1 hk with e |e
 ·have:=h.size;omega
 ·exact (zh h2 k e).2
theorem ZF.up {w X:World}{O:Nat→Prop}{B C:Nat}(h:ZF w O X B)(hBC:B≤C):ZF w O X C:=by
 obtain ⟨sv,cs,h1,h2,h3,h4⟩:=h.ex
 exact ⟨⟨sv,cs,h1,h2,by omega,h4⟩,h.fr,h.only,h.size⟩
theorem XL (a b:List Int):xU (a++b)=xU a++xU b:=by simp [xU]
theorem ZF.push {w X V:World}{O:Nat→Prop}{B B':Nat}{sv v':Value}{cs:List Int}{a b:Int}(h:ZF w O X B)(q1:X.cell? ⟨w.heap.size,0,none⟩=some sv)(q2:X.ownsRow (w.heap.size+1) 21 1 sv cs.length (xU cs))(q3:cs.length+2≤B')(q4:∀ k,O k↔k=w.heap.size∨sv.ownBlock=some k)
  (hk:zf (fun k=>sv.ownBlock=some k) X V) (hown:V.ownsRow (w.heap.size+1) 21 1 v' (cs.length+2) (xU cs++[.int .i32 a,.int .i32 b])) (hsep:∀ k,v'.ownBlock=some k→sv.ownBlock=some k∨X.heap.size≤k) :
  ZF w (fun k=>k=w.heap.size∨v'.ownBlock=some k) (V.setCell ⟨w.heap.size,0,none⟩ v') B'∧(∀ k,(k=w.heap.size∨v'.ownBlock=some k)→O k∨X.heap.size≤k)∧zf O X (V.setCell ⟨w.heap.size,0,none⟩ v'):=by
 have hs:=h.size
 have hn:¬sv.ownBlock=some w.heap.size:=fun e=>by have:=(zh q2 _ e).1;omega
 have hn':¬v'.ownBlock=some w.heap.size:=fun e=>by have:=(zh hown _ e).1;omega
 have c1:=(hk.cell (p:=⟨w.heap.size,0,none⟩) (World.block_lt_of_cell? _ _ q1) hn).trans q1
 have c2:=(hk.frozen (p:=⟨w.heap.size,0,none⟩) (World.block_lt_of_cell? _ _ q1) hn).trans h.fr
 have hst:zf (fun k=>k=w.heap.size) V (V.setCell ⟨w.heap.size,0,none⟩ v'):=(zf.refl (fun k=>k=w.heap.size) V).setCell (p:=⟨w.heap.size,0,none⟩) (.inl rfl) _
 have hO:zf O X (V.setCell ⟨w.heap.size,0,none⟩ v'):=(hk.mono (fun k _ e=>(q4 k).2 (.inr e))).setCell (p:=⟨w.heap.size,0,none⟩) (.inl ((q4 _).2 (.inl rfl))) _
 have hl:(cs++[a,b]).length=cs.length+2:=by simp
 refine ⟨⟨⟨v',cs++[a,b],World.cell?_setCell_same _ _ _ c1,?_,by omega,fun k=>Iff.rfl⟩,(zj _ _ _ _).trans c2,?_,Nat.le_trans hs hO.size⟩,fun k hk2=>?_,hO⟩
 ·rw [hl,XL]
  exact zp hown hst (fun g hg e=>hn' (e ▸ hg))
 ·exact ⟨hO.os.trans h.only.os,hO.tape.trans h.only.tape,hO.output.trans h.only.output,Nat.le_trans h.only.size hO.size,fun j hj _=>(hO.block j (by have:=h.only.size;omega) (fun e=>by
   rcases (q4 j).1 e with e |e
   ·omega
   ·have:=(zh q2 _ e).1;omega)).trans (h.only.block j hj (fun f=>f))⟩
 ·rcases hk2 with e |e
  ·exact .inl ((q4 k).2 (.inl e))
  ·exact (hsep k e).imp_left (fun e=>(q4 k).2 (.inr e))
theorem ZF.row {w X:World}{blk n cap:Nat}{cs:List Int}(q2:X.ownsRow (w.heap.size+1) 21 1 (.slice (some ⟨blk,0,none⟩) n cap) n (xU cs)):jZ X blk 0 n∧n≤cap:=by
 rcases q2.2 with ⟨h1,_⟩ |⟨g',cap',cur,h1,h2,h3,h4,h5,h6,h7⟩
 ·cases h1
 ·cases h1
  have hl:cs.length=n:=by have:=q2.1;simpa [xU] using this
  have hc:∀ t,t<n→cur[t]?=some (.int .i32 (cs.getD t 0)):=fun t ht=>by
   have e1:(cur.toList.take (n*1))[t]?=(xU cs)[t]?:=by rw [h7]
   rw [List.getElem?_take_of_lt (by omega)] at e1
   rw [←Array.getElem?_toList,e1]
   simp [xU,List.getElem?_map,List.getElem?_eq_getElem (show t<cs.length by omega)]
  refine ⟨⟨fun t=>cs.getD t 0,fun t ht=>?_,fun t ht=>?_⟩,by omega⟩
  ·unfold World.cell?
   rw [h3]
   simpa using hc t ht
  ·unfold World.frozen?
   rw [h3]
   simp
theorem Jl (gf:Nat)(lb:Array Value)(xs:List Slc)(D:Nat→Prop)(w:World)(eg:∀ args w,(callFunc gf args).run Tryz.prog w = .ok (.enter gf args) w)(hseq:SeqO Fence.wide 8 Tryz.prog gf lb Jk xs D w)(hD:∀ k,D k→k<w.heap.size)(hl:xs.length≤1001)(hset:∀ p∈xs,∃ l A,xt w A (slV p) l∧Cs.zV l) :
  Calls Tryz.prog 65 #[.func (.func gf) #[] lb] w fun e w'=>(∃ a k c,e = .returned (.slice a k c))∧zf (fun _=>False) w w':=by
 obtain ⟨i0,hi,hz0,hz1,hz2⟩:=info_parts Tryz.infoRune
 have HSeq:=ze hseq
 have HD:=ze hD
 have HSt:=ze hset
 have HInfo:=ze (And.intro hi (And.intro hz0 (And.intro hz1 hz2)))
 clear hseq hD hset hi hz0 hz1 hz2
 refine (callsIn_wide (n:=9)).1 ?_
 refine callsIn_of_wp_marks Tryz.func65 rfl trivial ?_ rfl
 simp only [Tryz.ntmps65,List.size_toArray,List.length_cons,List.length_nil,Nat.reduceAdd,Nat.reduceSub,Array.replicate_succ,Array.replicate_zero,List.push_toArray,List.append_toArray,List.nil_append,List.cons_append]
 gi_wp2
 have HO1:Hid (zf (fun _=>False) w (w.alloc (.cells #[.slice none 0 0] 158))):=(zf.refl _ _).alloc _
 have hsz:(w.alloc (.cells #[.slice none 0 0] 158)).heap.size=w.heap.size+1:=by simp
 have HI0:Hid (ZF w (fun k=>k=w.heap.size) (w.alloc (.cells #[.slice none 0 0] 158)) 0):=⟨⟨.slice none 0 0,[],zo w _ rfl _ _ 0 _ rfl,World.ownsRow_nil _ _ _ _,Nat.le_refl _,(fun k=>by simp [Value.ownBlock])⟩,zv w _ rfl _ _ 0,zb HO1,by omega⟩
 generalize w.alloc (.cells #[.slice none 0 0] 158)=w1 at *
 refine Wh (F:=Fence.wide) rfl (by omega) (gf:=gf) (lb:=lb) rfl trivial eg
  ((zb HSeq).later (zb HO1)) (fun _=>rfl) (fun pre O X=>ZF w O X (2300000*pre.length)) (fun k=>k=w.heap.size) (fun k hk=>by omega) (fun k hk=>by have:=zb HD k hk;exact ⟨by omega,by omega⟩) (fun pre O X X' h k=>h.keep (by omega) k) (zb HI0)
  (fun x a V=>∃ k,a = { tmps:=#[.func (.func gf) #[] lb,undef,.slice none 0 0,.pointer (some ⟨w.heap.size,0,none⟩),.pointer (some ⟨k,0,none⟩),undef,undef,.func (.func gf) #[] lb,.agg #[slV x],undef,undef,undef,undef,undef,undef,undef,undef,undef,undef,undef,undef,undef,undef],defers:=[] }∧V.cell? ⟨k,0,none⟩=some (slV x)) ?ax ?assign ?body ?done
 case ax=>
  rintro x a V l o o' ⟨k,h1,h2⟩ hl' ho
  have hkl:k≠l:=by
   rintro rfl
   unfold World.cell? at h2
   rw [hl'] at h2
   cases o with
   |cells c T f=>simp [Obj.isCells] at ho
   |_=>simp at h2
  exact ⟨k,h1,(World.cell?_of_block (w:=V) (World.putObj_heap_other hkl)).trans h2⟩
 case assign=>
  intro l x W K hK
  obtain ⟨xa,xn,xc⟩:=x
  unfold Jk
  simp only [slV] at hK ⊢
  have hA:zf (fun _=>False) W (W.alloc (.cells #[.slice xa xn xc] 153)):=(zf.refl _ _).alloc _
  have hC:(W.alloc (.cells #[.slice xa xn xc] 153)).cell? ⟨W.heap.size,0,none⟩=some (.slice xa xn xc):=zo W _ rfl _ _ 0 _ rfl
  gi_wp2
  exact hK _ _ hA ⟨W.heap.size,rfl,hC⟩
 case body=>
  rintro l pre O x a V hl2 hOl ⟨r,hr⟩ hI hpre ⟨k,rfl,hk⟩
  obtain ⟨ls,A,hrow,hri⟩:=zb HSt x (hpre.subset (by simp))
  obtain ⟨xa,xn,xc⟩:=x
  simp only [slV] at hk hrow ⊢
  have HIv:=ze hI
  have hlen:=hri.len
  have hprel:=hpre.length_le
  simp only [List.length_append,List.length_singleton] at hprel
  have HRi:=ze hri
  have HRow:=ze (hrow.mono (B:=fun g=>g<w.heap.size) (fun g hg _=>hg))
  clear hI hrow hri
  gi_wp2
  refine ⟨trivial,(CallsIn.inRound l (callsIn_wide.2 (YB _ _ ⟨_,_,_,rfl⟩))).mono ?_⟩
  rintro e V1 ⟨v,rfl,kb2,rfl,hk21,hk22,hO2⟩
  have HO2:=ze hO2
  have HK2:=ze hk22
  have hr2:=(hO2.block l (Array.getElem?_eq_some_iff.1 hr).1 (fun f=>f)).trans hr
  have hsV:=(zb HIv).size
  have hs2:=hO2.size
  have HIv2:Hid (ZF w O V1 (2300000*pre.length)):=(zb HIv).keep (B2:=w.heap.size+1) (Nat.le_refl _) (hO2.mono (fun _ _ f=>f.elim))
  have HRow2:=ze ((zb HRow).keep ((zb HIv).only.trans hO2) (fun _ _ f=>f))
  clear hO2 hk22
  gi_wp2
  refine Wi (F:=Fence.wide.inRound l) rfl hr2 (by omega) (gf:=194) (lb:=#[.pointer (some ⟨kb2,0,none⟩)]) rfl trivial (enters_of Tryz.func194 (by kernel_rfl) rfl)
   (wN _ ls _ kb2 V1 (zb HRow2) (zb HK2) (by omega) (9-1-1-1) (by omega)) (fun _=>rfl) (fun pre2 O2 X=>ZF w O2 X (2300000*pre.length+2*pre2.length)∧zf O V1 X∧∀ k,O2 k→O k∨V1.heap.size≤k) O (zb HIv2).lt ?d (fun pre2 O2 X X' h k=>⟨h.1.keep (by omega) k,⟨k.os.trans h.2.1.os,k.tape.trans h.2.1.tape,k.output.trans h.2.1.output,Nat.le_trans h.2.1.size k.size,fun j hj hn=>(k.block j (Nat.lt_of_lt_of_le hj h.2.1.size) (fun hp=>by omega)).trans (h.2.1.block j hj hn)⟩,h.2.2⟩) ⟨zb HIv2,zf.refl _ _,fun k hk=>.inl hk⟩
   (fun y=>{ tmps:=#[.func (.func gf) #[] lb,undef,.slice none 0 0,.pointer (some ⟨w.heap.size,0,none⟩),.pointer (some ⟨k,0,none⟩),.int .i32 y.1,.int .i32 y.2,.func (.func gf) #[] lb,.agg #[.slice xa xn xc],.agg #[.slice xa xn xc],.func (.func 194) #[] #[.pointer (some ⟨kb2,0,none⟩)],.int .i32 y.1,.int .i32 y.2,undef,undef,undef,undef,undef,undef,undef,undef,undef,undef],defers:=[] }) ?assign2 ?body2 ?done2
  case d=>
   obtain ⟨sv,cs,q1,q2,q3,q4⟩:=(zb HIv).ex
   rintro j (rfl |⟨h1,h2⟩)
   ·refine ⟨World.block_lt_of_cell? V1 _ (zb HK2),fun hj=>?_⟩
    rcases (q4 j).1 hj with e |e
    ·omega
    ·have:=(zh q2 j e).2;omega
   ·refine ⟨h2,fun hj=>?_⟩
    rcases (q4 j).1 hj with e |e
    ·omega
    ·have:=(zh q2 j e).1;omega
  case assign2=>
   intro l' y W K hK
   unfold vY
   gi_wp2
   exact hK
  case body2=>
   rintro l' pre2 O2 y X hl' hOl' ⟨r',hr'⟩ ⟨hX,hOX,hsub⟩ hpre2
   have hy:=(zb HRi).2 y (hpre2.subset (by simp))
   have hp2l:=hpre2.length_le
   simp only [List.length_append,List.length_singleton] at hp2l
   obtain ⟨sv,cs,q1,q2,q3,q4⟩:=hX.ex
   have q5:=hX.fr
   obtain ⟨pa,pn,pc,rfl⟩:=zr q2
   obtain ⟨hi,hz0,hz1,hz2⟩:=zb HInfo
   obtain ⟨ya,yb⟩:=y
   unfold Cs.okS at hy
   simp only [] at hy ⊢
   have hyw:wrap32 (yb+1)=yb+1:=by unfold wrap32;omega
   have HXX:=ze hX
   have Hq2:=ze q2
   have HOX:=ze (And.intro hOX hsub)
   have hXs:=hX.size
   clear hX q2 hOX hsub
   gi_wp2_with (gi_at_builtin;refine zb ?_)
   refine ze ?_
   refine K6 _ rfl _ _ 158 rfl (w.heap.size+1) 21 i0 (.int .i32 0) 1 4 Tryz.underlying158 hi hz0 hz1 hz2 rfl (by decide) (.slice pa pn pc) cs.length (xU cs) rfl (World.ownsRow.alloc (zb Hq2) _) ⟨X.heap.size,0,none⟩ 2 2 [.int .i32 ya,.int .i32 (yb+1)] rfl rfl (cell_two_new _ _ _ _) (fun u hu=>by simp at hu;rcases hu with rfl |rfl<;>rfl) (by omega) (by unfold maxLen;omega) (by omega) (by simp;omega) ?_
   intro v' V3 hown' hgrow hsep
   obtain ⟨pa2,pn2,pc2,rfl⟩:=zr hown'
   have hO3:=((zf.refl (fun k=>(Value.slice pa pn pc).ownBlock=some k) X).alloc (.cells #[.int .i32 ya,.int .i32 (yb+1)] 21)).grown hgrow (fun k hk=>.inl hk)
   have hnb:¬(Value.slice pa pn pc).ownBlock=some w.heap.size:=fun e=>by have:=(zh (zb Hq2) _ e).1;omega
   have c1:=(hO3.cell (p:=⟨w.heap.size,0,none⟩) (World.block_lt_of_cell? _ _ q1) hnb).trans q1
   have c2:=(hO3.frozen (p:=⟨w.heap.size,0,none⟩) (World.block_lt_of_cell? _ _ q1) hnb).trans q5
   have HPu:=ze ((zb HXX).push q1 (zb Hq2) (B':=2300000*pre.length+2*(pre2.length+1)) (by omega) q4 hO3 hown' (fun k hk=>(hsep k hk).imp_right (fun h=>by simp at h;omega)))
   clear hown' hgrow hsep hO3
   gi_wp2
   obtain ⟨g1,g2,g3⟩:=zb HPu
   have hOX:=(zb HOX).1
   refine ⟨_,⟨by simpa using g1,⟨g3.os.trans hOX.os,g3.tape.trans hOX.tape,g3.output.trans hOX.output,Nat.le_trans hOX.size g3.size,fun j hj hn=>(g3.block j (Nat.lt_of_lt_of_le hj hOX.size) (fun ho=>((zb HOX).2 j ho).elim hn (fun h=>by omega))).trans (hOX.block j hj hn)⟩,fun k hk=>?_⟩,g2,g3,g1.lt⟩
   rcases g2 k hk with h |h
   ·exact (zb HOX).2 k h
   ·exact .inr (Nat.le_trans hOX.size h)
  case done2=>
   rintro O2 X ⟨hX,hOX,hsub⟩
   have hO2:=zb HO2
   refine ⟨O2,hX.up (by simp;omega),fun k hk=>(hsub k hk).imp_right (fun h=>by omega),⟨hOX.os.trans hO2.os,hOX.tape.trans hO2.tape,hOX.output.trans hO2.output,Nat.le_trans hO2.size hOX.size,fun j hj hn=>(hOX.block j (by omega) hn).trans (hO2.block j hj (fun f=>f))⟩,hX.lt⟩
 case done=>
  rintro Dm O V hDw hOD hX hK
  obtain ⟨sv,cs,q1,q2,q3,q4⟩:=hX.ex
  have hOw:=hX.only
  have hXs:=hX.size
  have hKV:Dm<V.heap.size:=(Array.getElem?_eq_some_iff.1 hK).1
  have hOD2:¬sv.ownBlock=some Dm:=fun e=>hOD ((q4 Dm).2 (.inr e))
  have hnb:¬sv.ownBlock=some w.heap.size:=fun e=>by have:=(zh q2 _ e).1;omega
  have hnw:∀ k,sv.ownBlock=some k→w.heap.size+1≤k:=fun k e=>(zh q2 k e).1
  clear hX
  have HFin:Hid (∀ V2,zf (fun k=>sv.ownBlock=some k) V V2→V2.heap[Dm]?=some (.deferred (some []))∧zf (fun _=>False) w (V2.putObj Dm (.deferred none))):=fun V2 h=>⟨(h.block Dm hKV hOD2).trans hK,⟨h.os.trans hOw.os,h.tape.trans hOw.tape,h.output.trans hOw.output,by rw [xe];exact Nat.le_trans hOw.size h.size,fun j hj _=>(World.putObj_heap_other (by omega)).trans ((h.block j (by have:=hOw.size;omega) (fun e=>by have:=hnw j e;omega)).trans (hOw.block j hj (fun f=>f)))⟩⟩
  rcases q2.2 with ⟨rfl,_⟩ |⟨g,cap,cur,rfl,hbg,hg,hnc,hcm,hcs,htake⟩
  ·clear q2 hOD2 hnb hnw hOw
   gi_wp2_with (refine ⟨trivial,?_⟩;gi_at_call 119;refine (callsIn_wide.2 (sortN _)).mono ?_;rintro e V1 ⟨rfl,hO1⟩;have m1:=(hO1.cell (p:=⟨w.heap.size,0,none⟩) (World.block_lt_of_cell? _ _ q1) (fun f=>f)).trans q1;have HO1:=ze hO1;clear hO1)
   refine ⟨trivial,(callsIn_wide.2 (WD _)).mono ?_⟩
   rintro e V2 ⟨⟨a2,k2,c2,rfl⟩,hO2⟩
   have HO2:=ze ((zb HO1).trans hO2)
   clear hO2
   gi_wp2
   obtain ⟨g1,g2⟩:=zb HFin _ ((zb HO2).mono (fun _ _ f=>f.elim))
   refine ⟨by simp,.inl ⟨_,_,rfl,run_takeDeferred g1,?_⟩⟩
   exact ⟨_,results_tmp rfl _ _ _,⟨_,_,_,rfl⟩,g2⟩
  ·have hRow:=ZF.row q2
   have hgl:=(zh q2 g rfl).2
   have HSo:=ze (sortR g cs.length cap V hRow.1 hgl (by omega))
   have hcc:=hRow.2
   clear q2 hOD2 hnw hOw hRow hcs htake
   have hgne:¬zm g w.heap.size:=fun e=>hnb (by simp only [Value.ownBlock];exact congrArg some e.symm)
   gi_wp2_with (refine ⟨trivial,?_⟩;gi_at_call 119;refine (callsIn_wide.2 (zb HSo)).mono ?_;rintro e V1 ⟨rfl,hO1,hR1⟩;have m1:=(hO1.cell (p:=⟨w.heap.size,0,none⟩) (World.block_lt_of_cell? _ _ q1) hgne).trans q1;have HO1:=ze hO1;have HR1:=ze hR1;clear hO1 hR1)
   refine ⟨trivial,(callsIn_wide.2 (compactR g cs.length cap V1 (zb HR1) (by omega) hcc)).mono ?_⟩
   rintro e V2 ⟨⟨a2,k2,c2,rfl⟩,hO2⟩
   have HO2:=ze ((zb HO1).trans hO2)
   clear hO2
   gi_wp2
   obtain ⟨g1,g2⟩:=zb HFin _ ((zb HO2).mono (fun k _ f=>by simp only [Value.ownBlock];exact congrArg some (Eq.symm f)))
   refine ⟨by simp,.inl ⟨_,_,rfl,run_takeDeferred g1,?_⟩⟩
   exact ⟨_,results_tmp rfl _ _ _,⟨_,_,_,rfl⟩,g2⟩
abbrev Stl:=Nat×Slc×Int×Nat×Nat
def ZG (x:Stl):List Value:=[.int .i64 (x.1:Nat),slV x.2.1,.int .i64 x.2.2.1,.int .i64 (x.2.2.2.1:Nat),.int .i64 (x.2.2.2.2:Nat)]
def asksW (x:Stl):Bool:=decide (x.1=2) && (decide (x.2.2.1=2) ||decide (x.2.2.1=3))
theorem asks_any (x:Stl)(w:World):Calls Tryz.prog 63 #[.agg (ZG x).toArray] w fun e w'=>e = .returned (.bool (asksW x))∧zf (fun _=>False) w w':=by
 obtain ⟨k,⟨pa,pn,pc⟩,a,n,o⟩:=x
 unfold ZG asksW slV
 simp only []
 have HO:Hid (zf (fun _=>False) w (w.alloc (.cells #[.int .i64 (k:Nat),.slice pa pn pc,.int .i64 a,.int .i64 (n:Nat),.int .i64 (o:Nat)] 156))):=(zf.refl _ _).alloc _
 by_cases hk:k=2
 ·subst hk
  by_cases h2:a=2
  ·subst h2
   go_enter Tryz.func63,Tryz.ntmps63
   go_wp2
   go_ret
   exact ⟨by simp,zb HO⟩
  ·have h2d:(a == 2)=false:=by simp [h2]
   by_cases h3:a=3
   ·subst h3
    go_enter Tryz.func63,Tryz.ntmps63
    go_wp2
    go_ret
    exact ⟨by simp,zb HO⟩
   ·have h3d:(a == 3)=false:=by simp [h3]
    go_enter Tryz.func63,Tryz.ntmps63
    go_wp2
    go_ret
    exact ⟨by simp [h2,h3],zb HO⟩
 ·have hkd:((k:Int) == 2)=false:=by simp;omega
  go_enter Tryz.func63,Tryz.ntmps63
  go_wp2
  go_ret
  exact ⟨by simp [hk],zb HO⟩
theorem WG (pb:Nat)(w:World):Calls Tryz.prog 66 #[.pointer (some ⟨pb,0,none⟩)] w fun e w'=>∃ v,e = .returned v∧∃ kb,v = .func (.func 121) #[] #[.pointer (some ⟨kb,0,none⟩)]∧w.heap.size≤kb∧w'.cell? ⟨kb,0,none⟩=some (.pointer (some ⟨pb,0,none⟩))∧zf (fun _=>False) w w':=by
 have HO:Hid (∃ kb,Value.func (.func 121) #[] #[.pointer (some ⟨w.heap.size,0,none⟩)] = .func (.func 121) #[] #[.pointer (some ⟨kb,0,none⟩)]∧w.heap.size≤kb∧(w.alloc (.cells #[.pointer (some ⟨pb,0,none⟩)] 65)).cell? ⟨kb,0,none⟩=some (.pointer (some ⟨pb,0,none⟩))∧zf (fun _=>False) w (w.alloc (.cells #[.pointer (some ⟨pb,0,none⟩)] 65))):=⟨_,rfl,Nat.le_refl _,zo w _ rfl _ _ 0 _ rfl,(zf.refl _ _).alloc _⟩
 go_enter Tryz.func66,Tryz.ntmps66
 go_wp2_with fail
 go_ret
 exact ⟨_,rfl,zb HO⟩
structure kM (w V:World)(pb g cap st:Nat)(Z:List (Stp×Value))(ws:Slc)(W:Int→Bool):Prop where
 at':StpsAt V pb g cap Z (slV ws)
 c1:V.cell? ⟨pb,1,none⟩=some (.int .i64 (st:Nat))
 c3:∃ u,V.cell? ⟨pb,3,none⟩=some u
 f2:V.frozen? ⟨pb,2,none⟩=false
 f3:V.frozen? ⟨pb,3,none⟩=false
 sets:∀ z∈Z,xg V (fun k=>w.heap.size≤k∧k≠pb) (.agg #[z.2]) (Prg.setP z.1)
 word:xg V (fun k=>w.heap.size≤k∧k≠pb) (.agg #[slV ws]) W
 own:w.heap.size≤pb∧w.heap.size≤g∧g≠pb
 only:zf (fun _=>False) w V
theorem kM.pl {w V:World}{pb g cap st:Nat}{Z:List (Stp×Value)}{ws:Slc}{W:Int→Bool}(h:kM w V pb g cap st Z ws W):pb<V.heap.size:=World.block_lt_of_cell? _ _ h.c1
theorem kM.keep {w V V':World}{pb g cap st:Nat}{Z:List (Stp×Value)}{ws:Slc}{W:Int→Bool}(h:kM w V pb g cap st Z ws W)(k:zf (fun _=>False) V V'):kM w V' pb g cap st Z ws W:=by
 have hp:=h.pl
 obtain ⟨u,hu⟩:=h.c3
 have kc:∀ o u,V.cell? ⟨pb,o,none⟩=some u→V'.cell? ⟨pb,o,none⟩=some u:=fun o u e=>(k.cell (p:=⟨pb,o,none⟩) hp (fun f=>f)).trans e
 exact ⟨⟨kc _ _ h.at'.c0,kc _ _ h.at'.c2,h.at'.le,fun j u e=>(k.cell (p:=⟨g,j,none⟩) h.at'.gl (fun f=>f)).trans (h.at'.row j u e),Nat.lt_of_lt_of_le h.at'.gl k.size⟩,kc _ _ h.c1,⟨u,kc _ _ hu⟩,
  (k.frozen (p:=⟨pb,2,none⟩) hp (fun f=>f)).trans h.f2,(k.frozen (p:=⟨pb,3,none⟩) hp (fun f=>f)).trans h.f3,fun z hz=>(h.sets z hz).keep k (fun _ _ f=>f),h.word.keep k (fun _ _ f=>f),h.own,h.only.trans k⟩
theorem kM.setOther {w V:World}{pb g cap st:Nat}{Z:List (Stp×Value)}{ws:Slc}{W:Int→Bool}(h:kM w V pb g cap st Z ws W)(u:Value):kM w (V.setCell ⟨pb,3,none⟩ u) pb g cap st Z ws W:=by
 have k:zf (fun k=>k=pb) V (V.setCell ⟨pb,3,none⟩ u):=(zf.refl (fun k=>k=pb) V).setCell (p:=⟨pb,3,none⟩) (.inl rfl) _
 obtain ⟨u3,hu⟩:=h.c3
 have hgp:=h.own.2.2
 exact ⟨⟨(World.cell?_setCell_other _ _ _ _ (by simp)).trans h.at'.c0,(World.cell?_setCell_other _ _ _ _ (by simp)).trans h.at'.c2,h.at'.le,fun j u e=>(k.cell (p:=⟨g,j,none⟩) h.at'.gl hgp).trans (h.at'.row j u e),Nat.lt_of_lt_of_le h.at'.gl k.size⟩,(World.cell?_setCell_other _ _ _ _ (by simp)).trans h.c1,⟨u,World.cell?_setCell_same _ _ _ hu⟩,
  (zj _ _ _ _).trans h.f2,(zj _ _ _ _).trans h.f3,fun z hz=>(h.sets z hz).keep k (fun _ h2 e=>h2.2 e),h.word.keep k (fun _ h2 e=>h2.2 e),h.own,h.only.setCell (p:=⟨pb,3,none⟩) (.inr h.own.1) u⟩
theorem kM.setWord {w V:World}{pb g cap st:Nat}{Z:List (Stp×Value)}{ws ws':Slc}{W W':Int→Bool}(h:kM w V pb g cap st Z ws W)(hs:xg V (fun k=>w.heap.size≤k∧k≠pb) (.agg #[slV ws']) W'):kM w (V.setCell ⟨pb,2,none⟩ (slV ws')) pb g cap st Z ws' W':=by
 have k:zf (fun k=>k=pb) V (V.setCell ⟨pb,2,none⟩ (slV ws')):=(zf.refl (fun k=>k=pb) V).setCell (p:=⟨pb,2,none⟩) (.inl rfl) _
 obtain ⟨u3,hu⟩:=h.c3
 have hgp:=h.own.2.2
 exact ⟨⟨(World.cell?_setCell_other _ _ _ _ (by simp)).trans h.at'.c0,World.cell?_setCell_same _ _ _ h.at'.c2,h.at'.le,fun j u e=>(k.cell (p:=⟨g,j,none⟩) h.at'.gl hgp).trans (h.at'.row j u e),Nat.lt_of_lt_of_le h.at'.gl k.size⟩,(World.cell?_setCell_other _ _ _ _ (by simp)).trans h.c1,⟨u3,(World.cell?_setCell_other _ _ _ _ (by simp)).trans hu⟩,
  (zj _ _ _ _).trans h.f2,(zj _ _ _ _).trans h.f3,fun z hz=>(h.sets z hz).keep k (fun _ h2 e=>h2.2 e),hs.keep k (fun _ h2 e=>h2.2 e),h.own,h.only.setCell (p:=⟨pb,2,none⟩) (.inr h.own.1) _⟩
theorem K7 {w:World}{A:Nat→Prop}{x:Value}{S:Int→Bool}(h:xg w A (.agg #[x]) S):∃ p:Slc,x=slV p:=by
 obtain ⟨sv,sp,h1,h2,_⟩:=h
 simp at h1
 subst h1
 rcases h2 with ⟨h2,_⟩ |⟨g,cap,h2,_⟩
 ·exact ⟨(none,0,0),h2⟩
 ·exact ⟨(_,_,_),h2⟩
theorem slcs {w:World}{A:Nat→Prop}:∀ (Z:List (Stp×Value)),(∀ z∈Z,xg w A (.agg #[z.2]) (Prg.setP z.1))→∃ zs:List Slc,Z.map Prod.snd=zs.map slV
 | [],_=>⟨[],rfl⟩
 |z :: Z,h=>by
  obtain ⟨zs,e⟩:=slcs Z (fun y hy=>h y (List.mem_cons_of_mem _ hy))
  obtain ⟨p,hp⟩:=K7 (h z List.mem_cons_self)
  exact ⟨p :: zs,by simp [e,hp]⟩
theorem kM.spans {w V:World}{pb g cap st:Nat}{Z:List (Stp×Value)}{ws:Slc}{W:Int→Bool}{zs:List Slc}(h:kM w V pb g cap st Z ws W)(hz:Z.map Prod.snd=zs.map slV):∀ p∈ws :: zs,∃ l A,xt V A (slV p) l∧Cs.zV l:=by
 have one:∀ (p:Slc) (S:Int→Bool),xg V (fun k=>w.heap.size≤k∧k≠pb) (.agg #[slV p]) S→∃ l A,xt V A (slV p) l∧Cs.zV l:=fun p S hs=>by
  obtain ⟨sv,sp,h1,h2,h3,_⟩:=hs
  simp at h1
  subst h1
  exact ⟨sp,_,h2,h3⟩
 intro p hp
 rcases List.mem_cons.1 hp with rfl |hp
 ·exact one _ _ h.word
 ·have:slV p∈Z.map Prod.snd:=by rw [hz];exact List.mem_map_of_mem hp
  obtain ⟨z,hzm,hze⟩:=List.mem_map.1 this
  exact one p _ (hze ▸ h.sets z hzm)
theorem kM.prog {w V:World}{pb g cap st:Nat}{Z:List (Stp×Value)}{ws:Slc}{W:Int→Bool}(h:kM w V pb g cap st Z ws W)(hl:Z.length≤300)(hf:∀ (k:Nat) s,(sts Z)[k]?=some s→s.next<(sts Z).length∧s.other<(sts Z).length)(hst:st<(sts Z).length):jV V (fun k=>w.heap.size≤k) pb (sts Z) st W:=by
 refine ⟨h.own.1,⟨g,cap,by rw [yg];exact h.at'.c0,h.own.2.1,by rw [yg];exact h.at'.le,fun k s hk=>?_⟩,h.c1,⟨slV ws,h.at'.c2,h.word.mono (fun _ _ h=>h.1)⟩,by rw [yg];exact hl,hf,hst⟩
 unfold sts at hk
 rw [List.getElem?_map] at hk
 obtain ⟨z,hz,rfl⟩:=Option.map_eq_some_iff.1 hk
 obtain ⟨f0,f1,f2,f3,f4⟩:=kS Z k z hz
 exact ⟨h.at'.row _ _ f0,⟨z.2,h.at'.row _ _ f1,(h.sets z (List.mem_of_getElem? hz)).mono (fun _ _ h=>h.1)⟩,h.at'.row _ _ f2,h.at'.row _ _ f3,h.at'.row _ _ f4⟩
end
section
open Go.RowKit Go.Shelf Go.Lib
open Sm (Stp Tree capT)
set_option maxHeartbeats 4000000
set_option maxRecDepth 1000000
def slcOf:Value→Slc
 | .slice a n c=>(a,n,c)
 |_=>(none,0,0)
def Jm (z:Stp×Value):Stl:=(z.1.kind,slcOf z.2,z.1.asr,z.1.next,z.1.other)
def askS (s:Stp):Bool:=decide (s.kind=2) && (decide (s.asr=2) ||decide (s.asr=3))
theorem Jn (Z:List (Stp×Value))(g cap:Nat)(V:World)(hz:∀ z∈Z,∃ p:Slc,z.2=slV p)(hrow:∀ j u,(yJ Z)[j]?=some u→V.cell? ⟨g,j,none⟩=some u)(hg:g<V.heap.size)(hl:Z.length≤1000) :
  Calls Tryz.prog 62 #[.slice (some ⟨g,0,none⟩) Z.length cap,.func (.func 63) #[] #[]] V fun e V'=>e = .returned (.bool (Z.any (fun z=>askS z.1)))∧zf (fun _=>False) V V':=by
 have hcell:∀ j,j<(Z.map Jm).length→∀ i v,(ZG (Z.map Jm)[j]!)[i]?=some v→V.cell? ⟨g,0+j*5+i,none⟩=some v:=by
  intro j hj i v hi
  have hjZ:j<Z.length:=by simpa using hj
  have hget:Z[j]?=some Z[j]:=List.getElem?_eq_getElem hjZ
  obtain ⟨p,hp⟩:=hz Z[j] (List.getElem_mem hjZ)
  obtain ⟨f0,f1,f2,f3,f4⟩:=kS Z j _ hget
  have e:(Z.map Jm)[j]! = Jm Z[j]:=by rw [getElem!_pos _ j hj];simp
  rw [e] at hi
  have e2:ZG (Jm Z[j])=[.int .i64 (Z[j].1.kind:Nat),Z[j].2,.int .i64 Z[j].1.asr,.int .i64 (Z[j].1.next:Nat),.int .i64 (Z[j].1.other:Nat)]:=by
   unfold ZG Jm;simp only [];rw [hp];rfl
  rw [e2] at hi
  rw [Nat.zero_add]
  match i,hi with
  |0,hi=>simp at hi;subst hi;exact hrow _ _ f0
  |1,hi=>simp at hi;subst hi;exact hrow _ _ f1
  |2,hi=>simp at hi;subst hi;exact hrow _ _ f2
  |3,hi=>simp at hi;subst hi;exact hrow _ _ f3
  |4,hi=>simp at hi;subst hi;exact hrow _ _ f4
  |n+5,hi=>simp at hi
 have hpred:PredBelow Tryz.prog 63 #[] (fun x:Stl=>.agg (ZG x).toArray) asksW V:=fun W x hb=>by
  have:=asks_any x W
  refine Calls.mono (by simpa using this) ?_
  rintro e w' ⟨rfl,hO⟩
  exact ⟨rfl,hb.trans (hO.below.mono hb.size)⟩
 refine (AnyQ.slices_ContainsFunc K5 5 (fun w=>by kernel_rfl) (fun w=>by kernel_rfl) ZG (fun x=>by simp [ZG]) asksW 63 #[] (enters_of Tryz.func63 (by kernel_rfl) rfl) g 0 Z.length cap (Z.map Jm) V hpred (by simp) (by omega) hg hcell).mono ?_
 rintro e w' ⟨rfl,hb⟩
 refine ⟨?_,zf.ofBelow hb⟩
 rw [List.take_of_length_le (by simp),List.any_map]
 rfl
theorem WH {w w3:World}{st:Nat}{Z:List (Stp×Value)}{sv:Value}(hB:qR w3 w.heap.size Z)(h1:w3.cell? ⟨w.heap.size,0,none⟩=some sv)(hne:0<Z.length)(hO:zf (fun _=>False) w w3):∃ g cap,sv = .slice (some ⟨g,0,none⟩) Z.length cap∧kM w (w3.alloc (.cells #[sv,.int .i64 (st:Nat),.slice none 0 0,.slice none 0 0] 160)) w3.heap.size g cap st Z (none,0,0) (fun _=>false):=by
 obtain ⟨sv',h1',h2,h3⟩:=hB.ex
 obtain rfl:sv=sv':=Option.some.inj (h1.symm.trans h1')
 have hs:=hO.size
 have k:zf (fun _=>False) w3 (w3.alloc (.cells #[sv,.int .i64 (st:Nat),.slice none 0 0,.slice none 0 0] 160)):=(zf.refl _ _).alloc _
 have hbl:=fun g=>zh h2 g
 rcases h2.2 with ⟨rfl,hz⟩ |⟨g,cap,cur,rfl,hbg,hg,hnc,hcm,hcs,htake⟩
 ·omega
 ·have hgl:=(hbl g rfl).2
  refine ⟨g,cap,rfl,⟨zo w3 _ rfl _ _ 0 _ rfl,zo w3 _ rfl _ _ 2 _ rfl,hnc,fun j u hj=>?_,by simp;omega⟩,zo w3 _ rfl _ _ 1 _ rfl,⟨_,zo w3 _ rfl _ _ 3 _ rfl⟩,zv w3 _ rfl _ _ 2,zv w3 _ rfl _ _ 3,fun z hz=>?_,xg.none _ _ _ (fun _=>rfl),⟨hs,by omega,by omega⟩,hO.trans k⟩
  ·refine (k.cell (p:=⟨g,j,none⟩) hgl (fun f=>f)).trans ?_
   have hj2:j<Z.length*5:=by have:=(List.getElem?_eq_some_iff.1 hj).1;rwa [WA] at this
   have e1:(cur.toList.take (Z.length*5))[j]?=(yJ Z)[j]?:=by rw [htake]
   rw [List.getElem?_take_of_lt hj2,hj] at e1
   unfold World.cell?
   rw [hg]
   simpa using e1
  ·exact ((h3 z hz).mono (B:=fun k=>w.heap.size≤k∧k≠w3.heap.size) (fun q hq h=>⟨by omega,by omega⟩)).keep k (fun _ _ f=>f)
theorem newP_any (F:Nat)(T:Tree)(v:Value)(w:World)(hp:ZE F w w.heap.size v T)(hif:∃ T y,v = .iface T y)(hc:capT F T≤299) :
  Calls Tryz.prog 34 #[v] w fun e w'=>∃ pb W,e = .returned (.pointer (some ⟨pb,0,none⟩))∧jV w' (fun g=>w.heap.size≤g) pb (Sm.prg F T).2 (Sm.prg F T).1 W∧(((Sm.prg F T).2.any askS)=true→W=Cs.zZ 119)∧zf (fun _=>False) w w':=by
 obtain ⟨iT,iy,rfl⟩:=hif
 have hlen:((Sm.prg F T).2.length:Int)≤300:=by
  have:=Sm.Qr hp.at'.wf (by omega) 0 [Sm.jL]
  simp at this
  unfold Sm.prg
  omega
 have HP:=ze hp
 clear hp
 have HO1:Hid (zf (fun _=>False) w (w.alloc (.cells #[.slice none 0 0] 148))):=(zf.refl _ _).alloc _
 have HB1:Hid (qR (w.alloc (.cells #[.slice none 0 0] 148)) w.heap.size []):=⟨⟨.slice none 0 0,zo w _ rfl _ _ 0 _ rfl,World.ownsRow_nil _ _ _ _,fun z hz=>by cases hz⟩,zv w _ rfl _ _ 0⟩
 go_enter Tryz.func34,Tryz.ntmps34
 go_upto_region 4 with (first |(go_at_call 60;refine (vZ w.heap.size [] Sm.jL _ (zb HB1) (by decide) (by decide)).mono ?_;rintro e w2 ⟨Z2,rfl,hZ2,hB2⟩;have HB2:=ze hB2;have HZ2:=ze hZ2;clear hB2 hZ2))
 have hs2:sts Z2=[Sm.jL]:=by have:=zb HZ2;simpa [sts] using this
 have hO2:zf (fun k=>w.heap.size≤k) w w2:=((zb HO1).mono (fun _ _ f=>f.elim)).trans (zb HB2).only
 have HBu:Hid (Calls Tryz.prog 61 #[.pointer (some ⟨w.heap.size,0,none⟩),.iface iT iy,.int .i64 0] w2 (wS w2 w.heap.size (Sm.prg F T))):=by
  have hb:=zcI w.heap.size F (.iface iT iy) T 0 Z2 w2 ((zb HP).keep hO2) (zb HB2).at' (by rw [←yg,hs2];decide) (by rw [hs2];unfold Sm.prg at hlen;omega)
  rw [hs2] at hb
  exact hb
 clear hs2
 refine (zb HBu).mono ?_
 rintro e w3 ⟨Z,rfl,hZ,hB3⟩
 obtain ⟨sv,d1,_⟩:=hB3.at'.ex
 have hO3:zf (fun _=>False) w w3:=by
  have:=hO2.trans hB3.only
  exact ⟨this.os,this.tape,this.output,this.size,fun j hj _=>this.block j hj (by omega)⟩
 have hZl:Z.length=(Sm.prg F T).2.length:=by rw [←hZ,yg]
 have hpos:0<Z.length:=by
  have:=Sm.xf F T 0 [Sm.jL]
  simp at this
  unfold Sm.prg at hZl
  omega
 obtain ⟨g,cap,rfl,hN⟩:=WH (st:=(Sm.prg F T).1) hB3.at' d1 hpos hO3
 have HN:=ze hN
 have HZ:=ze hZ
 have HZl:=ze hZl
 clear hZ hZl hN hB3 hO3 hO2
 have hZ300:Z.length≤300:=by have:=zb HZl;omega
 have HFit:Hid (∀ (k:Nat) s,(Sm.prg F T).2[k]?=some s→s.next<(Sm.prg F T).2.length∧s.other<(Sm.prg F T).2.length):=by
  intro k s hk
  exact Sm.VK F T 0 [Sm.jL] (by simp) (fun s hs=>by obtain rfl:=List.mem_singleton.1 hs;decide) s (List.mem_of_getElem? hk)
 have HStl:Hid ((Sm.prg F T).1<(Sm.prg F T).2.length):=Sm.qX F T 0 [Sm.jL] (by simp)
 go_upto_region 5 with fail
 generalize w3.alloc (.cells #[.slice (some ⟨g,0,none⟩) Z.length cap,.int .i64 ((Sm.prg F T).1:Nat),.slice none 0 0,.slice none 0 0] 160)=w4 at *
 generalize w3.heap.size=pb at *
 have hc0:=(zb HN).at'.c0
 obtain ⟨zs,hzs⟩:=slcs Z (zb HN).sets
 have Hzs:=ze hzs
 clear hzs
 have HCo:=ze (Jn Z g cap w4 (fun z hz=>K7 ((zb HN).sets z hz)) (zb HN).at'.row (zb HN).at'.gl (by omega))
 have hany:Z.any (fun z=>askS z.1)=(Sm.prg F T).2.any askS:=by rw [←zb HZ];unfold sts;rw [List.any_map];rfl
 rw [hany] at HCo
 clear hany hpos d1
 cases hcb:(Sm.prg F T).2.any askS
 ·rw [hcb] at HCo
  have Hcb:=ze hcb
  clear hcb
  go_upto_region 7 with (go_at_call 62;refine (zb HCo).mono ?_;rintro e w5 ⟨rfl,hO5⟩;have HN6:=ze ((zb HN).keep hO5);clear hO5)
  go_wp2_with (first |(go_at_call 66;refine (WG pb _).mono ?_;rintro e w8 ⟨v,rfl,kb,rfl,hkb1,hkb2,hO8⟩;have HN8:=ze ((zb HN6).keep hO8);have HK8:=ze hkb2;have hkl:=World.block_lt_of_cell? w8 _ hkb2;clear hO8 hkb2) |(go_at_call 65;refine (Jl 121 #[.pointer (some ⟨kb,0,none⟩)] (((none,0,0):Slc) :: zs) (fun k=>k=kb∨k=pb∨k=g) _ (enters_of Tryz.func121 (by kernel_rfl) rfl) (WE pb g cap kb Z ((none,0,0):Slc) zs _ (zb HN8).at' (zb HK8) (zb Hzs) (by omega) 8 (by omega)) (fun k hk=>by rcases hk with rfl |rfl |rfl;exact hkl;exact (zb HN8).pl;exact (zb HN8).at'.gl) (by have h9:=congrArg List.length (zb Hzs);simp at h9;simp;omega) ((zb HN8).spans (zb Hzs))).mono ?_;rintro e w9 ⟨⟨ra,rk,rc,rfl⟩,hO9⟩;have hN9:=(zb HN8).keep hO9;(obtain ⟨u9,d3⟩:=hN9.c3);have f3:=hN9.f3;have HN9:=ze hN9;clear hO9 hN9))
  go_ret
  have hE:=(zb HN9).setOther (.slice ra rk rc)
  refine ⟨pb,(fun _=>false),rfl,?_,?_,hE.only⟩
  ·have hPr:=hE.prog (by omega) ?_ ?_
   ·rw [zb HZ] at hPr;exact hPr
   ·rw [zb HZ];exact zb HFit
   ·rw [zb HZ];exact zb HStl
  ·intro h;rw [zb Hcb] at h;cases h
 ·rw [hcb] at HCo
  clear hcb
  go_upto_region 7 with (first |(go_at_call 62;refine (zb HCo).mono ?_;rintro e w5 ⟨rfl,hO5⟩;have HN5:=ze ((zb HN).keep hO5);clear hO5) |(go_at_call 64;refine (ZA _).mono ?_;rintro e w6 ⟨v,rfl,hS6,hO6⟩;(obtain ⟨sv6,sp6,rfl,_⟩:=id hS6);(obtain ⟨⟨pa6,pn6,pc6⟩,rfl⟩:=K7 hS6);unfold slV at hS6 ⊢;simp only [] at hS6 ⊢;have hN6:=(zb HN5).keep hO6;have d2:=hN6.at'.c2;have f2:=hN6.f2;have HW:=ze (hN6.setWord (ws':=(pa6,pn6,pc6)) (W':=Cs.zZ 119) (hS6.mono (fun q _ hq=>⟨by have:=(zb HN5).only.size;omega,by have:=(zb HN5).pl;omega⟩)));clear hN6 hS6 hO6))
  have HN6:=HW
  go_wp2_with (first |(go_at_call 66;refine (WG pb _).mono ?_;rintro e w8 ⟨v,rfl,kb,rfl,hkb1,hkb2,hO8⟩;have HN8:=ze ((zb HN6).keep hO8);have HK8:=ze hkb2;have hkl:=World.block_lt_of_cell? w8 _ hkb2;clear hO8 hkb2) |(go_at_call 65;refine (Jl 121 #[.pointer (some ⟨kb,0,none⟩)] (((pa6,pn6,pc6):Slc) :: zs) (fun k=>k=kb∨k=pb∨k=g) _ (enters_of Tryz.func121 (by kernel_rfl) rfl) (WE pb g cap kb Z ((pa6,pn6,pc6):Slc) zs _ (zb HN8).at' (zb HK8) (zb Hzs) (by omega) 8 (by omega)) (fun k hk=>by rcases hk with rfl |rfl |rfl;exact hkl;exact (zb HN8).pl;exact (zb HN8).at'.gl) (by have h9:=congrArg List.length (zb Hzs);simp at h9;simp;omega) ((zb HN8).spans (zb Hzs))).mono ?_;rintro e w9 ⟨⟨ra,rk,rc,rfl⟩,hO9⟩;have hN9:=(zb HN8).keep hO9;(obtain ⟨u9,d3⟩:=hN9.c3);have f3:=hN9.f3;have HN9:=ze hN9;clear hO9 hN9))
  go_ret
  have hE:=(zb HN9).setOther (.slice ra rk rc)
  refine ⟨pb,Cs.zZ 119,rfl,?_,?_,hE.only⟩
  ·have hPr:=hE.prog (by omega) ?_ ?_
   ·rw [zb HZ] at hPr;exact hPr
   ·rw [zb HZ];exact zb HFit
   ·rw [zb HZ];exact zb HStl
  ·intro _;rfl
end
section
open Go.RowKit
open Sm (Stp Tree)
set_option maxHeartbeats 1600000
theorem ZD.get {w:World}{v:Value}{L:List (Int×Int)}(h:ZD w v L){k:Nat}(hk:k<L.length):∃ g cap x0,v = .slice (some ⟨g,0,none⟩) L.length cap∧L.length≤cap∧w.cell? ⟨g,k*2,none⟩=some (.int .i64 x0)∧w.cell? ⟨g,k*2+1,none⟩=some (.int .i32 (Pro.zi L k)):=by
 rcases h with ⟨_,rfl⟩ |⟨g,cap,h1,h2,h3⟩
 ·simp at hk
 ·obtain ⟨h4,h5⟩:=h3 k L[k] (List.getElem?_eq_getElem hk)
  exact ⟨g,cap,_,h1,h2,h4,by rw [Pro.Jy hk];exact h5⟩
theorem ZD.slice {w:World}{v:Value}{L:List (Int×Int)}(h:ZD w v L):∃ a c,v = .slice a L.length c:=by
 rcases h with ⟨rfl,rfl⟩ |⟨g,cap,h1,_⟩
 ·exact ⟨_,_,rfl⟩
 ·exact ⟨_,_,h1⟩
structure xQ (W:World)(b:Nat)(x y z u:Bool):Prop where
 k0:W.cell? ⟨b,0,none⟩=some (.bool x)
 k1:W.cell? ⟨b,1,none⟩=some (.bool y)
 k2:W.cell? ⟨b,2,none⟩=some (.bool z)
 k3:W.cell? ⟨b,3,none⟩=some (.bool u)
 f0:W.frozen? ⟨b,0,none⟩=false
 f1:W.frozen? ⟨b,1,none⟩=false
 f2:W.frozen? ⟨b,2,none⟩=false
 f3:W.frozen? ⟨b,3,none⟩=false
theorem xQ.keep {W W':World}{b:Nat}{x y z u:Bool}(h:xQ W b x y z u)(k:zf (fun _=>False) W W'):xQ W' b x y z u:=by
 have hb:b<W.heap.size:=World.block_lt_of_cell? W ⟨b,0,none⟩ h.k0
 exact ⟨zg k _ _ h.k0 (fun f=>f),zg k _ _ h.k1 (fun f=>f),zg k _ _ h.k2 (fun f=>f),zg k _ _ h.k3 (fun f=>f),zw k _ hb h.f0 (fun f=>f),zw k _ hb h.f1 (fun f=>f),zw k _ hb h.f2 (fun f=>f),zw k _ hb h.f3 (fun f=>f)⟩
theorem xQ.new (W:World)(n:Nat)(hn:W.heap.size=n)(x y z u:Bool)(T:TypeId):xQ (W.alloc (.cells #[.bool x,.bool y,.bool z,.bool u] T)) n x y z u:=
 ⟨zo W n hn _ T 0 _ rfl,zo W n hn _ T 1 _ rfl,zo W n hn _ T 2 _ rfl,zo W n hn _ T 3 _ rfl,zv W n hn _ T 0,zv W n hn _ T 1,zv W n hn _ T 2,zv W n hn _ T 3⟩
theorem xQ.set2 {W:World}{b:Nat}{x y z u:Bool}(h:xQ W b x y z u)(v:Bool):xQ (W.setCell ⟨b,2,none⟩ (.bool v)) b x y v u:=
 ⟨by rw [World.cell?_setCell_other _ _ _ _ (by simp)];exact h.k0,by rw [World.cell?_setCell_other _ _ _ _ (by simp)];exact h.k1,World.cell?_setCell_same' _ _ _ (by rw [h.k2];rfl),by rw [World.cell?_setCell_other _ _ _ _ (by simp)];exact h.k3,by rw [World.frozen?_setCell];exact h.f0,by rw [World.frozen?_setCell];exact h.f1,by rw [World.frozen?_setCell];exact h.f2,by rw [World.frozen?_setCell];exact h.f3⟩
theorem xQ.other {W:World}{b c o:Nat}{x y z u:Bool}(h:xQ W b x y z u)(hc:c≠b)(v:Value):xQ (W.setCell ⟨c,o,none⟩ v) b x y z u:=by
 have e:∀ k,(W.setCell ⟨c,o,none⟩ v).cell? ⟨b,k,none⟩=W.cell? ⟨b,k,none⟩:=fun k=>World.cell?_setCell_other _ _ _ _ (by intro e;simp only [Addr.mk.injEq] at e;exact hc e.1)
 exact ⟨by rw [e];exact h.k0,by rw [e];exact h.k1,by rw [e];exact h.k2,by rw [e];exact h.k3,by rw [World.frozen?_setCell];exact h.f0,by rw [World.frozen?_setCell];exact h.f1,by rw [World.frozen?_setCell];exact h.f2,by rw [World.frozen?_setCell];exact h.f3⟩
theorem Xd {w:World}{A:Nat→Prop}{W:Int→Bool}{pb g k:Nat}{c:Int}{sv:Value}(h1:w.cell? ⟨pb,2,none⟩=some sv)(h2:w.cell? ⟨g,k*2+1,none⟩=some (.int .i32 c))(hS:∀ W',zf (fun _=>False) w W'→xg W' A (.agg #[sv]) W)(X W':World)(hX:zf (fun _=>False) w X)(hW:zf (fun _=>False) X W') :
  Calls Tryz.prog 145 #[.agg #[sv],.int .i32 c] W' fun e w'=>e = .returned (.bool (W c))∧zf (fun _=>False) X w'∧w'.cell? ⟨pb,2,none⟩=some sv∧w'.cell? ⟨g,k*2+1,none⟩=some (.int .i32 c):=by
 refine (zbN _ W c A _ (hS _ (hX.trans hW))).mono ?_
 rintro e w' ⟨rfl,hO⟩
 have k1:=hW.trans hO
 have k2:=hX.trans k1
 exact ⟨rfl,k1,zg k2 _ _ h1 (fun f=>f),zg k2 _ _ h2 (fun f=>f)⟩
theorem zaT (pb st i:Nat)(N:List Stp)(W:Int→Bool)(L:List (Int×Int))(v:Value)(A:Nat→Prop)(w:World)(hP:jV w A pb N st W)(hL:ZD w v L)(hi:i≤L.length)(hl:L.length≤400) :
  Calls Tryz.prog 98 #[.pointer (some ⟨pb,0,none⟩),v,.int .i64 i] w fun x w'=>x = .returned (.agg #[.bool (decide (i=0)),.bool (decide (i=L.length)),.bool (Prg.befB W L i),.bool (Prg.aftB W L i)])∧zf (fun _=>False) w w':=by
 obtain ⟨sv,hsv,hset⟩:=hP.c2
 have HS:Hid (∀ W',zf (fun _=>False) w W'→xg W' A (.agg #[sv]) W):=fun W' k=>hset.keep k (fun _ _ f=>f)
 clear hP hset
 have hpb:pb<w.heap.size:=World.block_lt_of_cell? w ⟨pb,2,none⟩ hsv
 have hsl:∃ a n c,sv = .slice a n c:=by
  obtain ⟨sv',sp,e,h1,_⟩:=zb HS w (zf.refl _ _)
  simp at e
  subst e
  rcases h1 with ⟨h1,_⟩ |⟨g,cap,h1,_⟩<;>exact ⟨_,_,_,h1⟩
 obtain ⟨sa,sn,sc,rfl⟩:=hsl
 obtain ⟨va,vc,rfl⟩:=hL.slice
 have HL:=ze hL
 clear hL
 unfold Prg.befB Prg.aftB
 have hz:(decide (i=0))=((i:Int) == 0):=by
  by_cases h:i=0
  ·subst h;rfl
  ·rw [decide_eq_false h];symm;simp;omega
 have he:(decide (i=L.length))=((i:Int) == (L.length:Int)):=by
  by_cases h:i=L.length
  ·rw [decide_eq_true h];symm;simp;omega
  ·rw [decide_eq_false h];symm;simp;omega
 have hz':(decide (i≠0)) = !((i:Int) == 0):=by rw [←hz];simp
 have he':(decide (i≠L.length)) = !((i:Int) == (L.length:Int)):=by rw [←he];simp
 rw [hz,he,hz',he']
 clear hz he hz' he'
 by_cases h0:i=0
 ·have hb0:((i:Int) == 0)=true:=by simp;omega
  by_cases h1:i=L.length
  ·have hb1:((i:Int) == (L.length:Int))=true:=by simp;omega
   rw [hb0,hb1]
   have hle:L.length≤i:=by omega
   have hle2:i≤0:=by omega
   clear h0 h1
   go_enter Tryz.func98,Tryz.ntmps98
   go_wp2_with fail
   refine bodyPost_ret (v:=.agg #[.bool true,.bool true,.bool false,.bool false]) (by simp [results,Tryz.results98,go_sem]) rfl ?_
   refine ⟨rfl,?_⟩
   repeat refine zf.setCell ?_ (Or.inr (by simp)) _
   exact (((zf.refl _ _).alloc _).alloc _)
  ·have hb1:((i:Int) == (L.length:Int))=false:=by simp;omega
   rw [hb0,hb1]
   obtain ⟨g,cap,x0,hv,hcap,d1,d2⟩:=(zb HL).get (k:=i) (by omega)
   simp at hv
   obtain ⟨rfl,rfl⟩:=hv
   have hgl:g<w.heap.size:=World.block_lt_of_cell? w _ d2
   have hlt:i<L.length:=by omega
   have hle2:i≤0:=by omega
   clear h0 h1
   go_enter Tryz.func98,Tryz.ntmps98
   go_wp2_with fail
   have HZ:=ze (Xd (k:=i) (A:=A) (W:=W) hsv d2 (zb HS))
   go_region_held3 (fun w'=>w'.cell? ⟨pb,2,none⟩=some (.slice sa sn sc)∧w'.cell? ⟨g,(i)*2+1,none⟩=some (.int .i32 (Pro.zi L (i)))) (first |go_keep |(refine ⟨?_,?_⟩<;>(rw [World.cell?_setCell_other _ _ _ _ (by intro e;simp only [Addr.mk.injEq] at e;omega)];assumption)))
    (first |(go_at_call 145;refine (zb HZ _ _ (((zf.refl _ _).alloc _).alloc _) ((zf.refl _ _).drewN _)).mono ?_;rintro e w1 ⟨rfl,hO1,z0,z1⟩;have HK1:=ze ((((zf.refl _ _).alloc _).alloc _).trans hO1);have HSP:=ze ((xQ.new _ (w.heap.size+1) (by simp) _ _ _ _ _).keep hO1);obtain ⟨k0,k1,k2,k3,f0,f1,f2,f3⟩:=zb HSP;have HSR:=ze (((xQ.new w w.heap.size rfl _ _ _ _ _).keep ((zf.refl _ _).alloc _)).keep hO1);obtain ⟨r0,r1,r2,r3,q0,q1,q2,q3⟩:=zb HSR;clear hO1))
   go_wp2_with fail
   refine bodyPost_ret (v:=.agg #[.bool true,.bool false,.bool false,.bool (W (Pro.zi L i))]) (by simp [results,Tryz.results98,go_sem,r0,r1,r2,r3]) rfl ?_
   refine ⟨rfl,?_⟩
   repeat refine zf.setCell ?_ (Or.inr (by simp)) _
   exact zb HK1
 ·obtain ⟨k,rfl⟩:∃ k,i=k+1:=⟨i-1,by omega⟩
  rw [show k+1-1=k by omega]
  simp only [Int.natCast_add,Int.natCast_one]
  have hb0:((k:Int)+1 == 0)=false:=by simp;omega
  have hk0:(0:Int)≤(k:Int):=by omega
  have hk1:(k:Int)<(L.length:Int):=by omega
  have hwr:IntKind.i64.wrap ((k:Int)+1-1)=(k:Int):=by rw [show (k:Int)+1-1=(k:Int) by omega];exact vt _ (by omega) (by omega)
  have hwk:IntKind.i64.wrap (k:Int)=(k:Int):=vt _ (by omega) (by omega)
  by_cases h1:k+1=L.length
  ·have hb1:((k:Int)+1 == (L.length:Int))=true:=by simp;omega
   rw [hb0,hb1]
   obtain ⟨g,cap,x0,hv,hcap,d1,d2⟩:=(zb HL).get (k:=k) (by omega)
   simp at hv
   obtain ⟨rfl,rfl⟩:=hv
   have hgl:g<w.heap.size:=World.block_lt_of_cell? w _ d2
   have hle:L.length≤k+1:=by omega
   clear h0 h1
   go_enter Tryz.func98,Tryz.ntmps98
   go_wp2_with fail
   have HZ:=ze (Xd (k:=k) (A:=A) (W:=W) hsv d2 (zb HS))
   go_region_held3 (fun w'=>w'.cell? ⟨pb,2,none⟩=some (.slice sa sn sc)∧w'.cell? ⟨g,k*2+1,none⟩=some (.int .i32 (Pro.zi L k))) (first |go_keep |(refine ⟨?_,?_⟩<;>(rw [World.cell?_setCell_other _ _ _ _ (by intro e;simp only [Addr.mk.injEq] at e;omega)];assumption)))
    (first |(go_at_call 145;refine (zb HZ _ _ (((zf.refl _ _).alloc _).alloc _) ((zf.refl _ _).drewN _)).mono ?_;rintro e w1 ⟨rfl,hO1,z0,z1⟩;have HK1:=ze ((((zf.refl _ _).alloc _).alloc _).trans hO1);have HSP:=ze ((xQ.new _ (w.heap.size+1) (by simp) _ _ _ _ _).keep hO1);obtain ⟨k0,k1,k2,k3,f0,f1,f2,f3⟩:=zb HSP;have HSR:=ze (((xQ.new w w.heap.size rfl _ _ _ _ _).keep ((zf.refl _ _).alloc _)).keep hO1);obtain ⟨r0,r1,r2,r3,q0,q1,q2,q3⟩:=zb HSR;clear hO1))
   go_wp2_with fail
   refine bodyPost_ret (v:=.agg #[.bool false,.bool true,.bool (W (Pro.zi L k)),.bool false]) (by simp [results,Tryz.results98,go_sem,r0,r1,r2,r3]) rfl ?_
   refine ⟨rfl,?_⟩
   repeat refine zf.setCell ?_ (Or.inr (by simp)) _
   exact zb HK1
  ·have hb1:((k:Int)+1 == (L.length:Int))=false:=by simp;omega
   rw [hb0,hb1]
   obtain ⟨g,cap,x0,hv,hcap,d1,d2⟩:=(zb HL).get (k:=k) (by omega)
   simp at hv
   obtain ⟨rfl,rfl⟩:=hv
   have hgl:g<w.heap.size:=World.block_lt_of_cell? w _ d2
   obtain ⟨g2,cap2,x2,hv2,_,e1,e2⟩:=(zb HL).get (k:=k+1) (by omega)
   simp at hv2
   obtain ⟨rfl,rfl⟩:=hv2
   have hlt:k+1<L.length:=by omega
   have hk2:(0:Int)≤(k:Int)+1:=by omega
   have hk3:(k:Int)+1<(L.length:Int):=by omega
   clear h0 h1
   go_enter Tryz.func98,Tryz.ntmps98
   go_wp2_with fail
   have HZ:=ze (Xd (k:=k) (A:=A) (W:=W) hsv d2 (zb HS))
   go_region_held3 (fun w'=>w'.cell? ⟨pb,2,none⟩=some (.slice sa sn sc)∧w'.cell? ⟨g,k*2+1,none⟩=some (.int .i32 (Pro.zi L k))) (first |go_keep |(refine ⟨?_,?_⟩<;>(rw [World.cell?_setCell_other _ _ _ _ (by intro e;simp only [Addr.mk.injEq] at e;omega)];assumption)))
    (first |(go_at_call 145;refine (zb HZ _ _ (((zf.refl _ _).alloc _).alloc _) ((zf.refl _ _).drewN _)).mono ?_;rintro e w1 ⟨rfl,hO1,z0,z1⟩;have HK1:=ze ((((zf.refl _ _).alloc _).alloc _).trans hO1);have HSP:=ze ((xQ.new _ (w.heap.size+1) (by simp) _ _ _ _ _).keep hO1);obtain ⟨k0,k1,k2,k3,f0,f1,f2,f3⟩:=zb HSP;have HSR:=ze (((xQ.new w w.heap.size rfl _ _ _ _ _).keep ((zf.refl _ _).alloc _)).keep hO1);obtain ⟨r0,r1,r2,r3,q0,q1,q2,q3⟩:=zb HSR;clear hO1))
   go_wp2_with fail
   have HZ2:=ze (Xd (k:=k+1) (A:=A) (W:=W) hsv e2 (zb HS))
   have z2:(w1.setCell ⟨w.heap.size+1,2,none⟩ (.bool (W (Pro.zi L k)))).drew.cell? ⟨g,(k+1)*2+1,none⟩=some (.int .i32 (Pro.zi L (k+1))):=by
    show (w1.setCell ⟨w.heap.size+1,2,none⟩ (.bool (W (Pro.zi L k)))).cell? _=_
    rw [World.cell?_setCell_other _ _ _ _ (by intro e;simp only [Addr.mk.injEq] at e;omega)]
    exact zg (zb HK1) _ _ e2 (fun f=>f)
   have z3:(w1.setCell ⟨w.heap.size+1,2,none⟩ (.bool (W (Pro.zi L k)))).drew.cell? ⟨pb,2,none⟩=some (.slice sa sn sc):=by
    show (w1.setCell ⟨w.heap.size+1,2,none⟩ (.bool (W (Pro.zi L k)))).cell? _=_
    rw [World.cell?_setCell_other _ _ _ _ (by intro e;simp only [Addr.mk.injEq] at e;omega)]
    exact z0
   clear HZ z1 z0
   go_region_held3 (fun w'=>w'.cell? ⟨pb,2,none⟩=some (.slice sa sn sc)∧w'.cell? ⟨g,(k+1)*2+1,none⟩=some (.int .i32 (Pro.zi L (k+1)))) (first |exact ⟨z3,z2⟩ |go_keep |(refine ⟨?_,?_⟩<;>(rw [World.cell?_setCell_other _ _ _ _ (by intro e;simp only [Addr.mk.injEq] at e;omega)];assumption)))
    (first |(go_at_call 145;refine (zb HZ2 _ _ ((zb HK1).setCell (.inr (by simp)) _) ((zf.refl _ _).drewN _)).mono ?_;rintro e w2 ⟨rfl,hO2,y0,y1⟩;have HK2:=ze (((zb HK1).setCell (.inr (by simp)) _).trans hO2);have HSP2:=ze (((zb HSP).set2 _).keep hO2);have HSR2:=ze (((zb HSR).other (by omega) _).keep hO2);clear k0 k1 k2 k3 f0 f1 f2 f3 r0 r1 r2 r3 q0 q1 q2 q3;obtain ⟨k0,k1,k2,k3,f0,f1,f2,f3⟩:=zb HSP2;obtain ⟨r0,r1,r2,r3,q0,q1,q2,q3⟩:=zb HSR2;clear hO2))
   go_wp2_with fail
   refine bodyPost_ret (v:=.agg #[.bool false,.bool false,.bool (W (Pro.zi L k)),.bool (W (Pro.zi L (k+1)))]) (by simp [results,Tryz.results98,go_sem,r0,r1,r2,r3]) rfl ?_
   refine ⟨rfl,?_⟩
   repeat refine zf.setCell ?_ (Or.inr (by simp)) _
   exact zb HK2
end
end Go.Proofs.YtnagphodmfejiaaGreatDoor
