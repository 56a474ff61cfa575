/- Worlds that differ in named blocks alone, and a lexer's four cells. -/
import Derived.WalkKit
import Derived.WalkSpells
import Derived.WalkLawsBesides
import Derived.Deep.QuietTactic
import Derived.BigQuiet
import Derived.Deep.RegionWith
namespace Go.Proofs.YtcgleficedipkaaGreatDoor
abbrev zD:=@List.getElem?_eq_getElem
abbrev zE:=@World.block_lt_of_cell?
abbrev zF:=@World.cell?_setCell_other
abbrev z8:=@Nat.le_refl
abbrev yd:=@List.getElem?_eq_some_iff
abbrev yh:=@Nat.lt_of_lt_of_le
abbrev yK:=@Array.getElem?_eq_some_iff
abbrev yS:=@List.length_append
abbrev yY:=@World.cell?_setCell_same
abbrev yZ:=@Nat.le_trans
abbrev xf:=@List.mem_singleton
abbrev xp:=@List.mem_cons_of_mem
abbrev xF:=@List.mem_cons_self
abbrev xP:=@List.mem_of_getElem?
abbrev xR:=@World.ownsRow.alloc
abbrev qe:=@List.mem_append
abbrev qg:=@List.eq_nil_of_length_eq_zero
abbrev qh:=@List.getElem?_append_left
abbrev ql:=@List.append_assoc
abbrev qu:=@Option.some.inj
abbrev qD:=@World.ownsRow_nil
abbrev qH:=@List.length_cons
abbrev qP:=@List.mem_cons
abbrev jj:=@List.getElem?_append_right
abbrev jq:=@List.length_singleton
abbrev jF:=@List.getElem?_eq_none
abbrev jG:=@List.getElem_mem
abbrev jS:=@List.cons_append
abbrev jU:=@List.length_nil
abbrev jY:=@Nat.zero_add
abbrev jZ:=@List.size_toArray
abbrev kg:=@List.pairwise_cons
abbrev kh:=@List.getElem?_replicate
abbrev kt:=@Bool.and_eq_true
abbrev ky:=@List.getElem?_map
abbrev kz:=@World.cell?_alloc_lt
abbrev kB:=@List.nil_append
abbrev kT:=@List.append_nil
abbrev vd:=@List.take_of_length_le
abbrev ve:=@List.length_set
abbrev vw:=@World.cell?_of_block
abbrev vz:=@Int.mul_le_mul_of_nonneg_right
abbrev vG:=@List.take_add_one
abbrev vK:=@Int.toNat_natCast
abbrev wg:=@Int.mul_nonneg
abbrev wh:=@List.getElem?_cons_zero
abbrev wl:=@Array.replicate_zero
abbrev wO:=@Array.replicate_succ
abbrev Zp:=@World.ownsRow.cells
abbrev Zr:=@List.append_toArray
abbrev Zs:=@List.pairwise_iff_getElem
abbrev Zz:=@List.mem_map
abbrev ZA:=@List.take_length
abbrev ZN:=@List.length_take
abbrev ZX:=@List.length_drop
abbrev ZY:=@List.getElem?_drop
abbrev Z0:=@List.getElem?_set_ne
abbrev Z1:=@List.push_toArray
abbrev Z3:=@Bool.eq_false_iff
abbrev Z4:=@Option.map_eq_some_iff
abbrev Z5:=@Bool.or_eq_true
abbrev Yb:=@List.mem_append_left
abbrev Yn:=@List.mem_map_of_mem
abbrev Yw:=@List.drop_drop
abbrev Yz:=@World.size_alloc
abbrev YD:=@Int.le_refl
abbrev YE:=@List.getElem?_set_self
abbrev YF:=@Nat.lt_or_ge
abbrev YG:=@Nat.add_zero
abbrev YH:=@Bool.eq_iff_iff
abbrev YI:=@List.flatMap_cons
abbrev YJ:=@List.pairwise_append
abbrev YK:=@List.drop_eq_getElem_cons
abbrev Xc:=@List.mem_flatMap
abbrev Xd:=@World.frozen?_alloc_old
abbrev Xe:=@World.frozen?_of_block
abbrev Xf:=@World.drewN_drewN
abbrev Xg:=@Nat.sub_self
abbrev Xm:=@World.frozen?_setCell
abbrev Xz:=@List.set_append_right
abbrev XC:=@List.mem_append_right
abbrev XD:=@List.length_replicate
abbrev XN:=@Array.getElem?_modify
abbrev XP:=@World.cell?_alloc_at
abbrev XQ:=@List.sum_cons
abbrev XR:=@Nat.le_succ
abbrev X4:=@List.getElem_of_mem
abbrev X7:=@List.map_append
abbrev X9:=@List.mem_or_eq_of_mem_set
abbrev Qa:=@List.prefix_append
abbrev Qb:=@List.getElem?_take
abbrev Qc:=@Int.emod_lt_of_pos
abbrev Qd:=@List.getElem?_take_of_lt
abbrev Qf:=@List.mem_range
abbrev Qg:=@List.drop_of_length_le
abbrev Qh:=@Nat.add_assoc
abbrev Qi:=@Bool.not_eq_true
abbrev Qj:=@Array.getElem?_toList
abbrev Qk:=@Nat.zero_mul
abbrev QD:=@Int.pow_succ
abbrev QG:=@Int.emod_nonneg
abbrev QN:=@List.mem_of_mem_take
abbrev QV:=@List.mem_of_mem_drop
theorem Q7 {P:Program}{f:FuncId}{a:Array Value}{w:World}{v:Ending}{Q:Ending->World->Prop}(h:Calls P f a w fun x w'=>x=v/\w'=w)(k:Q v w):Calls P f a w Q:=h.mono (by rintro _ _ ⟨rfl,rfl⟩;exact k)
variable {w:World}{b:Nat}(s:ByteArray)(k:Nat){i e a:Int}
section
open Go.RowKit
theorem zc {p:Prop}(h:p):Hid p:=h
theorem zb {p:Prop}(h:Hid p):p:=h
structure ze (P:Nat->Prop)(w w':World):Prop where
 os:w'.os=w.os
 tape:w'.tape=w.tape
 output:w'.output=w.output
 size:w.heap.size<=w'.heap.size
 block:∀ k,k<w.heap.size->¬P k->w'.heap[k]?=w.heap[k]?
abbrev Q8:=ze (fun _=>False)
theorem ze.refl (P:Nat->Prop)(w:World):ze P w w:=⟨rfl,rfl,rfl,z8 _,fun _ _ _=>rfl⟩
theorem ze.trans {P:Nat->Prop}{a b c:World}(h:ze P a b)(k:ze P b c):ze P a c:=
 ⟨k.os.trans h.os,k.tape.trans h.tape,k.output.trans h.output,yZ h.size k.size,fun i hi hp=>(k.block i (yh hi h.size) hp).trans (h.block i hi hp)⟩
theorem ze.mono {P Q:Nat->Prop}{a b:World}(h:ze P a b)(hPQ:∀ k,k<a.heap.size->P k->Q k):ze Q a b:=
 ⟨h.os,h.tape,h.output,h.size,fun i hi hq=>h.block i hi (fun hp=>hq (hPQ i hi hp))⟩
theorem ze.drew {P:Nat->Prop}{a w:World}(h:ze P a w):ze P a w.drew:=⟨h.os,h.tape,h.output,h.size,h.block⟩
theorem ze.drewN {P:Nat->Prop}{a w:World}(h:ze P a w)(n:Nat):ze P a (w.drewN n):=⟨h.os,h.tape,h.output,h.size,h.block⟩
theorem ze.alloc {P:Nat->Prop}{a w:World}(h:ze P a w)(o:Obj):ze P a (w.alloc o):=
 ⟨h.os,h.tape,h.output,yZ h.size (by simp),fun k hk hp=>(Below.heap_alloc _ _ _ (yh hk h.size)).trans (h.block k hk hp)⟩
theorem ze.setCell {P:Nat->Prop}{a w:World}(h:ze P a w){p:Addr}(hp:P p.block\/a.heap.size<=p.block)(u:Value):ze P a (w.setCell p u):=
 ⟨h.os,h.tape,h.output,yZ h.size (by simp [World.setCell]),fun k hk hn=>(Below.heap_setCell _ _ _ _ (by
  rintro rfl;rcases hp with hp |hp
  ·exact hn hp
  ·omega)).trans (h.block k hk hn)⟩
theorem ze.grown {P:Nat->Prop}{a w w':World}{row:Option Nat}(h:ze P a w)(hg:w.grownBy w' row)(hr:∀ k,row=some k->P k\/a.heap.size<=k):ze P a w':=
 ⟨hg.os.trans h.os,hg.tape.trans h.tape,hg.output.trans h.output,yZ h.size hg.size,fun k hk hn=>(hg.block k (yh hk h.size) (fun e=>by
  rcases hr k e.symm with hp |hp
  ·exact hn hp
  ·omega)).trans (h.block k hk hn)⟩
theorem ze.cell {P:Nat->Prop}{w w':World}(h:ze P w w'){p:Addr}(hp:p.block<w.heap.size)(hn:¬P p.block):w'.cell? p=w.cell? p:=vw (w:=w) (h.block p.block hp hn)
theorem ze.frozen {P:Nat->Prop}{w w':World}(h:ze P w w'){p:Addr}(hp:p.block<w.heap.size)(hn:¬P p.block):w'.frozen? p=w.frozen? p:=Xe (w:=w) (h.block p.block hp hn)
theorem ze.below {w':World}(h:Q8 w w'):Below w.heap.size w w':=⟨h.os,h.tape,h.output,h.size,fun k hk=>h.block k hk (fun f=>f)⟩
theorem ze.ofBelow {P:Nat->Prop}{w w':World}(h:Below w.heap.size w w'):ze P w w':=⟨h.os,h.tape,h.output,h.size,fun k hk _=>h.block k hk⟩
structure LexAt (w:World)(b:Nat)(s:ByteArray)(i e at':Int):Prop where
 c0:w.cell? ⟨b,0,none⟩=some (.string s)
 c1:w.cell? ⟨b,1,none⟩=some (.int .i64 i)
 c2:w.cell? ⟨b,2,none⟩=some (.int .i64 e)
 c3:w.cell? ⟨b,3,none⟩=some (.int .i64 at')
 f1:w.frozen? ⟨b,1,none⟩=false
 f2:w.frozen? ⟨b,2,none⟩=false
 f3:w.frozen? ⟨b,3,none⟩=false
variable {s}
theorem LexAt.lt (h:LexAt w b s i e a):b<w.heap.size:=zE w ⟨b,0,none⟩ h.c0
theorem LexAt.keep {P:Nat->Prop}{w w':World}{b:Nat}{s:ByteArray}{i e a:Int}(h:LexAt w b s i e a)(k:ze P w w')(hn:¬P b):LexAt w' b s i e a:=
 ⟨(k.cell (p:=⟨b,0,none⟩) h.lt hn).trans h.c0,(k.cell (p:=⟨b,1,none⟩) h.lt hn).trans h.c1,(k.cell (p:=⟨b,2,none⟩) h.lt hn).trans h.c2,(k.cell (p:=⟨b,3,none⟩) h.lt hn).trans h.c3,
  (k.frozen (p:=⟨b,1,none⟩) h.lt hn).trans h.f1,(k.frozen (p:=⟨b,2,none⟩) h.lt hn).trans h.f2,(k.frozen (p:=⟨b,3,none⟩) h.lt hn).trans h.f3⟩
theorem zk (w:World)(a p:Addr)(u:Value):(w.setCell a u).frozen? p=w.frozen? p:=by simp
theorem LexAt.setI (h:LexAt w b s i e a)(j:Int):LexAt (w.setCell ⟨b,1,none⟩ (.int .i64 j)) b s j e a:=
 ⟨(zF _ _ _ _ (by simp)).trans h.c0,yY _ _ _ h.c1,(zF _ _ _ _ (by simp)).trans h.c2,(zF _ _ _ _ (by simp)).trans h.c3,
  (zk _ _ _ _).trans h.f1,(zk _ _ _ _).trans h.f2,(zk _ _ _ _).trans h.f3⟩
theorem LexAt.setE (h:LexAt w b s i e a)(j:Int):LexAt (w.setCell ⟨b,2,none⟩ (.int .i64 j)) b s i j a:=
 ⟨(zF _ _ _ _ (by simp)).trans h.c0,(zF _ _ _ _ (by simp)).trans h.c1,yY _ _ _ h.c2,(zF _ _ _ _ (by simp)).trans h.c3,
  (zk _ _ _ _).trans h.f1,(zk _ _ _ _).trans h.f2,(zk _ _ _ _).trans h.f3⟩
theorem LexAt.setA (h:LexAt w b s i e a)(j:Int):LexAt (w.setCell ⟨b,3,none⟩ (.int .i64 j)) b s i e j:=
 ⟨(zF _ _ _ _ (by simp)).trans h.c0,(zF _ _ _ _ (by simp)).trans h.c1,(zF _ _ _ _ (by simp)).trans h.c2,yY _ _ _ h.c3,
  (zk _ _ _ _).trans h.f1,(zk _ _ _ _).trans h.f2,(zk _ _ _ _).trans h.f3⟩
theorem LexAt.drewN {w:World}{b:Nat}{s:ByteArray}{i e a:Int}(h:LexAt w b s i e a)(n:Nat):LexAt (w.drewN n) b s i e a:=
 h.keep ((ze.refl (fun _=>False) w).drewN n) (fun f=>f)
def zt (b:Nat)(k:Nat):Prop:=k=b
theorem ze.mine {a w:World}(h:ze (zt b) a w)(off:Nat)(u:Value):ze (zt b) a (w.setCell ⟨b,off,none⟩ u):=h.setCell (p:=⟨b,off,none⟩) (Or.inl (show b=b from rfl)) u
def zd (s:ByteArray)(k:Nat):Int:=if h:k<s.size then (s[k].toNat:Int) else -1
variable (s)
theorem zbt:-1<=zd s k:=by unfold zd;split<;>omega
theorem yD:zd s k<=255:=by
 unfold zd;split
 ·rename_i h;have:=(s[k]).toNat_lt;omega
 ·omega
theorem xZ (h:k<s.size):zd s k=(s[k].toNat:Int):=by unfold zd;rw [dif_pos h]
theorem Zq (h:s.size<=k):zd s k = -1:=by unfold zd;rw [dif_neg (by omega)]
theorem yL:0<=zd s k↔k<s.size:=by
 constructor
 ·intro h;by_cases hk:k<s.size
  ·exact hk
  ·rw [Zq s k (by omega)] at h;omega
 ·intro h;rw [xZ s k h];omega
theorem zeM (n:UInt8):wrap64 (n.toNat:Int)=(n.toNat:Int):=by
 have:=n.toNat_lt;unfold wrap64;omega
structure St where
 i:Nat
 e:Int
 a:Int
def Lex (w:World)(b:Nat)(s:ByteArray)(st:St):Prop:=LexAt w b s st.i st.e st.a
def St.fail (st:St)(e' a':Int):St:=if st.e=0 then ⟨st.i,e',a'⟩ else st
def St.go (st:St)(n:Nat):St:=⟨st.i+n,st.e,st.a⟩
end
section
namespace Sm
structure Tree where
 kind:Nat
 a:Int
 b:Int
 neg:Bool
 rs:List (Int×Int)
 ss:List Int
 kids:List Tree
def Tree.kid (T:Tree):Tree:=match T.kids with | []=>T |t :: _=>t
section
variable (R:Nat->Nat->Prop)
def pow:Nat->Nat->Nat->Prop
 |0,i,j=>i=j
 |k+1,i,j=>∃ m,R i m/\pow k m j
end
def q7 (X:Tree->Nat->Nat->Prop):List Tree->Nat->Nat->Prop
 | [],i,j=>i=j
 |t :: ts,i,j=>∃ m,X t i m/\q7 X ts m j
theorem jz (R:Nat->Nat->Prop):∀ (k l i j:Nat),pow R (k+l) i j↔∃ m,pow R k i m/\pow R l m j
 |0,l,i,j=>by simp [pow]
 |k+1,l,i,j=>by
  rw [Nat.add_right_comm];simp only [pow];constructor
  ·rintro ⟨m,h1,h2⟩;obtain ⟨m',h3,h4⟩:=(jz R k l m j).1 h2;exact ⟨m',⟨m,h1,h3⟩,h4⟩
  ·rintro ⟨m',⟨m,h1,h3⟩,h4⟩;exact ⟨m,h1,(jz R k l m j).2 ⟨m',h3,h4⟩⟩
variable (lf:Tree->Nat->Prop) (ah:Int->Nat->Prop)
def M:Nat->Tree->Nat->Nat->Prop
 |0,_,_,_=>False
 |f+1,T,i,j=>
  if T.kind=0 then i=j/\ah T.a i
  else if T.kind=5 then ∃ t∈T.kids,M f t i j
  else if T.kind=6 then q7 (M f) T.kids i j
  else if T.kind=7 then ∃ k:Nat,T.a<=k/\(T.b = -1\/(k:Int)<=T.b)/\pow (M f T.kid) k i j
  else lf T i/\j=i+1
def WF:Nat->Tree->Prop
 |0,_=>False
 |f+1,T=>(T.kind=5->T.kids≠[])/\(T.kind=5\/T.kind=6->∀ t∈T.kids,WF f t)/\(T.kind=7->WF f T.kid/\0<=T.a/\(T.b = -1\/T.a<=T.b))
structure Stp where
 kind:Nat
 leaf:Tree
 asr:Int
 next:Nat
 other:Nat
def noTree:Tree:=⟨1,0,0,false,[],[],[]⟩
def q8:Stp:=⟨0,noTree,0,0,0⟩
def taker (T:Tree)(nx:Nat):Stp:=⟨1,T,0,nx,0⟩
def tester (a:Int)(nx:Nat):Stp:=⟨2,noTree,a,nx,0⟩
def zx (x y:Nat):Stp:=⟨3,noTree,0,x,y⟩
def one (N:List Stp)(p i q j:Nat):Prop:=∃ s,N[p]?=some s/\((s.kind=1/\lf s.leaf i/\q=s.next/\j=i+1)\/(s.kind=2/\ah s.asr i/\q=s.next/\j=i)\/(s.kind=3/\(q=s.next\/q=s.other)/\j=i))
def Run (N:List Stp):Nat->Nat->Nat->Nat->Nat->Prop
 |0,p,i,q,j=>p=q/\i=j
 |k+1,p,i,q,j=>∃ p' i',one lf ah N p i p' i'/\Run N k p' i' q j
def Goes (N:List Stp)(p i q j:Nat):Prop:=∃ k,Run lf ah N k p i q j
variable {lf ah}
theorem Run.trans {N:List Stp}:∀ {k l p i q j r m:Nat},Run lf ah N k p i q j->Run lf ah N l q j r m->Run lf ah N (k+l) p i r m
 |0,l,p,i,q,j,r,m,h,g=>by
  obtain ⟨rfl,rfl⟩:=h
  rwa [jY]
 |k+1,l,p,i,q,j,r,m,h,g=>by
  obtain ⟨p',i',h1,h2⟩:=h;rw [Nat.add_right_comm];exact ⟨p',i',h1,Run.trans h2 g⟩
theorem Goes.refl (N:List Stp)(p i:Nat):Goes lf ah N p i p i:=⟨0,rfl,rfl⟩
theorem Goes.trans {N:List Stp}{p i q j r m:Nat}:Goes lf ah N p i q j->Goes lf ah N q j r m->Goes lf ah N p i r m
 |⟨k,h⟩,⟨l,g⟩=>⟨k+l,h.trans g⟩
theorem Goes.one {N:List Stp}{p i q j:Nat}(h:one lf ah N p i q j):Goes lf ah N p i q j:=⟨1,q,j,h,rfl,rfl⟩
theorem Goes.head {N:List Stp}{p i p' i' q j:Nat}(h:Sm.one lf ah N p i p' i')(g:Goes lf ah N p' i' q j):Goes lf ah N p i q j:=(Goes.one h).trans g
variable (lf ah)
def xe (R:Nat->Nat->Prop)(b nx lo hi:Nat)(N:List Stp):Prop:=
 (∀ i j,R i j->Goes lf ah N b i nx j)/\∀ k q i j,¬(lo<=q/\q<hi)->Run lf ah N k b i q j->∃ m k',k'<=k/\R i m/\Run lf ah N k' nx m q j
variable {lf ah}
theorem xe.empty (nx lo:Nat)(N:List Stp):xe lf ah (fun i j=>i=j) nx nx lo lo N:=
 ⟨fun i j e=>by cases e;exact Goes.refl _ _ _,fun k _ i _ _ h=>⟨i,k,z8 _,rfl,h⟩⟩
theorem xe.congr {R R':Nat->Nat->Prop}{b nx lo hi:Nat}{N:List Stp}(h:xe lf ah R b nx lo hi N)(e:∀ i j,R i j↔R' i j):xe lf ah R' b nx lo hi N:=
 ⟨fun i j r=>h.1 i j ((e i j).2 r),fun k q i j hq hr=>by
  obtain ⟨m,k',h1,h2,h3⟩:=h.2 k q i j hq hr;exact ⟨m,k',h1,(e i m).1 h2,h3⟩⟩
theorem xe.then {R R':Nat->Nat->Prop}{b c nx lo mid hi:Nat}{N:List Stp}(h:xe lf ah R b c mid hi N)(g:xe lf ah R' c nx lo mid N)(h1:lo<=mid)(h2:mid<=hi):xe lf ah (fun i j=>∃ m,R i m/\R' m j) b nx lo hi N:=by
 refine ⟨?_,?_⟩
 ·rintro i j ⟨m,r,r'⟩;exact (h.1 i m r).trans (g.1 m j r')
 ·intro k q i j hq hr;obtain ⟨m,k1,e1,r,hr1⟩:=h.2 k q i j (fun e=>hq ⟨by omega,by omega⟩) hr;obtain ⟨m',k2,e2,r',hr2⟩:=g.2 k1 q m j (fun e=>hq ⟨by omega,by omega⟩) hr1;exact ⟨m',k2,by omega,⟨m,r,r'⟩,hr2⟩
theorem xe.taker {N:List Stp}{p nx:Nat}{T:Tree}(h:N[p]?=some (taker T nx)):xe lf ah (fun i j=>lf T i/\j=i+1) p nx p (p+1) N:=by
 refine ⟨?_,?_⟩
 ·rintro i j ⟨h1,rfl⟩;exact Goes.one ⟨_,h,.inl ⟨rfl,h1,rfl,rfl⟩⟩
 ·intro k q i j hq hr;cases k with
  |zero=>obtain ⟨rfl,rfl⟩:=hr;exact absurd ⟨z8 _,Nat.lt_succ_self _⟩ hq
  |succ k=>
   obtain ⟨p',i',⟨s,hs,ho⟩,hr1⟩:=hr;obtain rfl:=qu (h.symm.trans hs);rcases ho with ⟨_,h1,rfl,rfl⟩ |⟨h0,_⟩ |⟨h0,_⟩
   ·exact ⟨_,k,XR _,⟨h1,rfl⟩,hr1⟩
   ·exact absurd h0 (by simp [Sm.taker])
   ·exact absurd h0 (by simp [Sm.taker])
theorem xe.tester {N:List Stp}{p nx:Nat}{a:Int}(h:N[p]?=some (tester a nx)):xe lf ah (fun i j=>i=j/\ah a i) p nx p (p+1) N:=by
 refine ⟨?_,?_⟩
 ·rintro i j ⟨rfl,h1⟩;exact Goes.one ⟨_,h,.inr (.inl ⟨rfl,h1,rfl,rfl⟩)⟩
 ·intro k q i j hq hr;cases k with
  |zero=>obtain ⟨rfl,rfl⟩:=hr;exact absurd ⟨z8 _,Nat.lt_succ_self _⟩ hq
  |succ k=>
   obtain ⟨p',i',⟨s,hs,ho⟩,hr1⟩:=hr;obtain rfl:=qu (h.symm.trans hs);rcases ho with ⟨h0,_⟩ |⟨_,h1,rfl,rfl⟩ |⟨h0,_⟩
   ·exact absurd h0 (by simp [Sm.tester])
   ·exact ⟨_,k,XR _,⟨rfl,h1⟩,hr1⟩
   ·exact absurd h0 (by simp [Sm.tester])
theorem q9 {N:List Stp}{p x y i p' i':Nat}(h:N[p]?=some (zx x y)):one lf ah N p i p' i'↔(p'=x\/p'=y)/\i'=i:=by
 constructor
 ·rintro ⟨s,hs,ho⟩;obtain rfl:=qu (h.symm.trans hs);rcases ho with ⟨h0,_⟩ |⟨h0,_⟩ |⟨_,h1,h2⟩
  ·exact absurd h0 (by simp [zx])
  ·exact absurd h0 (by simp [zx])
  ·exact ⟨h1,h2⟩
 ·rintro ⟨h1,h2⟩;exact ⟨_,h,.inr (.inr ⟨rfl,h1,h2⟩)⟩
theorem xe.either {R R':Nat->Nat->Prop}{b c nx lo mid hi:Nat}{N:List Stp}(h:xe lf ah R b nx lo mid N)(g:xe lf ah R' c nx mid hi N)(hf:N[hi]?=some (zx b c))(h1:lo<=mid)(h2:mid<=hi):xe lf ah (fun i j=>R i j\/R' i j) hi nx lo (hi+1) N:=by
 refine ⟨?_,?_⟩
 ·rintro i j (r |r)
  ·exact Goes.head ((q9 hf).2 ⟨.inl rfl,rfl⟩) (h.1 i j r)
  ·exact Goes.head ((q9 hf).2 ⟨.inr rfl,rfl⟩) (g.1 i j r)
 ·intro k q i j hq hr;cases k with
  |zero=>obtain ⟨rfl,rfl⟩:=hr;exact absurd ⟨by omega,by omega⟩ hq
  |succ k=>
   obtain ⟨p',i',ho,hr1⟩:=hr;obtain ⟨rfl |rfl,rfl⟩:=(q9 hf).1 ho
   ·obtain ⟨m,k',e,r,hr2⟩:=h.2 k q i' j (fun e=>hq ⟨by omega,by omega⟩) hr1;exact ⟨m,k',by omega,.inl r,hr2⟩
   ·obtain ⟨m,k',e,r,hr2⟩:=g.2 k q i' j (fun e=>hq ⟨by omega,by omega⟩) hr1;exact ⟨m,k',by omega,.inr r,hr2⟩
theorem xe.maybe {R U:Nat->Nat->Prop}{b c nx lo mid hi:Nat}{N:List Stp}(g:xe lf ah U c nx lo mid N)(h:xe lf ah R b c mid hi N)(hf:N[hi]?=some (zx b nx))(h1:lo<=mid)(h2:mid<=hi):xe lf ah (fun i j=>i=j\/∃ m,R i m/\U m j) hi nx lo (hi+1) N:=by
 have s:=h.then g h1 h2;refine ⟨?_,?_⟩
 ·rintro i j (rfl |r)
  ·exact Goes.one ((q9 hf).2 ⟨.inr rfl,rfl⟩)
  ·exact Goes.head ((q9 hf).2 ⟨.inl rfl,rfl⟩) (s.1 i j r)
 ·intro k q i j hq hr;cases k with
  |zero=>obtain ⟨rfl,rfl⟩:=hr;exact absurd ⟨by omega,by omega⟩ hq
  |succ k=>
   obtain ⟨p',i',ho,hr1⟩:=hr;obtain ⟨rfl |rfl,rfl⟩:=(q9 hf).1 ho
   ·obtain ⟨m,k',e,r,hr2⟩:=s.2 k q i' j (fun e=>hq ⟨by omega,by omega⟩) hr1;exact ⟨m,k',by omega,.inr r,hr2⟩
   ·exact ⟨i',k,by omega,.inl rfl,hr1⟩
theorem xe.again {R:Nat->Nat->Prop}{b nx lo hi:Nat}{N:List Stp}(h:xe lf ah R b lo (lo+1) hi N)(hf:N[lo]?=some (zx b nx))(h1:lo<hi):xe lf ah (fun i j=>∃ k,pow R k i j) lo nx lo hi N:=by
 refine ⟨?_,?_⟩
 ·rintro i j ⟨k,r⟩
  induction k generalizing i with
  |zero=>cases r;exact Goes.one ((q9 hf).2 ⟨.inr rfl,rfl⟩)
  |succ k ih=>
   obtain ⟨m,r1,r2⟩:=r;exact Goes.head ((q9 hf).2 ⟨.inl rfl,rfl⟩) ((h.1 i m r1).trans (ih m r2))
 ·intro k
  induction k using Nat.strongRecOn with
  |ind k ih=>
   intro q i j hq hr;cases k with
   |zero=>obtain ⟨rfl,rfl⟩:=hr;exact absurd ⟨by omega,by omega⟩ hq
   |succ k=>
    obtain ⟨p',i',ho,hr1⟩:=hr;obtain ⟨rfl |rfl,rfl⟩:=(q9 hf).1 ho
    ·obtain ⟨m,k1,e1,r,hr2⟩:=h.2 k q i' j (fun e=>hq ⟨by omega,by omega⟩) hr1;obtain ⟨m',k2,e2,⟨l,r2⟩,hr3⟩:=ih k1 (by omega) q m j hq hr2;exact ⟨m',k2,by omega,⟨l+1,m,r,r2⟩,hr3⟩
    ·exact ⟨i',k,by omega,⟨0,rfl⟩,hr1⟩
end Sm
namespace Sm
section
variable (B:Tree->Nat->List Stp->Nat×List Stp)
def yM (nx:Nat):List Tree->Nat->List Stp->Nat×List Stp
 | [],b,S=>(b,S)
 |t :: ts,b,S=>yM nx ts (B t nx S).2.length ((B t nx S).2++[zx b (B t nx S).1])
def bSeq:List Tree->Nat->List Stp->Nat×List Stp
 | [],b,S=>(b,S)
 |t :: ts,b,S=>bSeq ts (B t b S).1 (B t b S).2
def bOpt (t:Tree)(nx:Nat):Nat->Nat->List Stp->Nat×List Stp
 |0,b,S=>(b,S)
 |k+1,b,S=>bOpt t nx k (B t b S).2.length ((B t b S).2++[zx (B t b S).1 nx])
def yr (t:Tree):Nat->Nat->List Stp->Nat×List Stp
 |0,b,S=>(b,S)
 |k+1,b,S=>if (B t b S).1=b then B t b S else yr t k (B t b S).1 (B t b S).2
def xm (t:Tree)(nx:Nat)(S:List Stp):Nat×List Stp:=
 ((B t S.length (S++[zx 0 nx])).1,(B t S.length (S++[zx 0 nx])).2.set S.length (zx (B t S.length (S++[zx 0 nx])).1 nx))
end
def bld:Nat->Tree->Nat->List Stp->Nat×List Stp
 |0,_,nx,S=>(nx,S)
 |f+1,T,nx,S=>
  if T.kind=0 then (S.length,S++[tester T.a nx])
  else if T.kind=5 then
   match T.kids with
   | []=>(nx,S)
   |t :: ts=>yM (bld f) nx ts (bld f t nx S).1 (bld f t nx S).2
  else if T.kind=6 then bSeq (bld f) T.kids.reverse nx S
  else if T.kind=7 then
   if T.b = -1 then
    if T.a=0 then (S.length,(xm (bld f) T.kid nx S).2)
    else yr (bld f) T.kid (T.a-1).toNat (xm (bld f) T.kid nx S).1 (xm (bld f) T.kid nx S).2
   else yr (bld f) T.kid T.a.toNat (bOpt (bld f) T.kid nx (T.b-T.a).toNat nx S).1 (bOpt (bld f) T.kid nx (T.b-T.a).toNat nx S).2
  else (S.length,S++[taker T nx])
variable (lf:Tree->Nat->Prop) (ah:Int->Nat->Prop)
structure yJ (R:Nat->Nat->Prop)(nx:Nat)(S:List Stp)(r:Nat×List Stp):Prop where
 le:S.length<=r.2.length
 old:∀ k,k<S.length->r.2[k]?=S[k]?
 at':(r.1=nx/\r.2.length=S.length)\/(S.length<=r.1/\r.1<r.2.length)
 fit:∀ k s,S.length<=k->r.2[k]?=some s->s.next<r.2.length/\s.other<r.2.length
 right:∀ N:List Stp,(∀ k,S.length<=k->k<r.2.length->N[k]?=r.2[k]?)->xe lf ah R r.1 nx S.length r.2.length N
variable {lf ah}
theorem yJ.congr {R R':Nat->Nat->Prop}{nx:Nat}{S:List Stp}{r:Nat×List Stp}(h:yJ lf ah R nx S r)(e:∀ i j,R i j↔R' i j):yJ lf ah R' nx S r:=
 ⟨h.le,h.old,h.at',h.fit,fun N hN=>(h.right N hN).congr e⟩
theorem yJ.empty (nx:Nat)(S:List Stp):yJ lf ah (fun i j=>i=j) nx S (nx,S):=
 ⟨z8 _,fun _ _=>rfl,.inl ⟨rfl,rfl⟩,fun k s hk hs=>by have h:=(yd.1 hs).1;exact absurd h (Nat.not_lt.2 hk),fun N _=>xe.empty nx _ N⟩
theorem yJ.lt {R:Nat->Nat->Prop}{nx:Nat}{S:List Stp}{r:Nat×List Stp}(h:yJ lf ah R nx S r)(hn:nx<S.length):r.1<r.2.length:=by
 have:=h.le;rcases h.at' with ⟨e,_⟩ |⟨_,e⟩<;>omega
theorem yJ.same {R:Nat->Nat->Prop}{nx:Nat}{S:List Stp}{r:Nat×List Stp}(h:yJ lf ah R nx S r)(hn:nx<S.length)(e:r.1=nx):∀ i j,R i j↔i=j:=by
 have hl:r.2.length=S.length:=by rcases h.at' with ⟨_,e2⟩ |⟨e2,_⟩<;>omega
 have hr:=h.right [] (fun k h1 h2=>by omega);intro i j;constructor
 ·intro r;obtain ⟨k,hk⟩:=hr.1 i j r;cases k with
  |zero=>exact hk.2
  |succ k=>obtain ⟨_,_,⟨s,hs,_⟩,_⟩:=hk;simp at hs
 ·rintro rfl;obtain ⟨m,k',hk,hR,hrun⟩:=hr.2 0 nx i i (by omega) ⟨e,rfl⟩;obtain rfl:k'=0:=by omega
  obtain ⟨_,rfl⟩:=hrun;exact hR
theorem yJ.then {R R':Nat->Nat->Prop}{nx:Nat}{S:List Stp}{r r':Nat×List Stp}(h:yJ lf ah R' nx S r)(g:yJ lf ah R r.1 r.2 r'):yJ lf ah (fun i j=>∃ m,R i m/\R' m j) nx S r':=by
 have h1:=h.le;have g1:=g.le;refine ⟨by omega,fun k hk=>(g.old k (by omega)).trans (h.old k hk),?_,?_,?_⟩
 ·rcases g.at' with ⟨e1,e2⟩ |⟨e1,e2⟩
  ·rcases h.at' with ⟨e3,e4⟩ |⟨e3,e4⟩
   ·exact .inl ⟨e1.trans e3,by omega⟩
   ·exact .inr ⟨by omega,by omega⟩
  ·exact .inr ⟨by omega,by omega⟩
 ·intro k s hk hs;by_cases hk2:k<r.2.length
  ·have:=h.fit k s hk ((g.old k hk2).symm.trans hs);omega
  ·exact g.fit k s (by omega) hs
 ·intro N hN;exact (g.right N (fun k e1 e2=>hN k (by omega) e2)).then (h.right N (fun k e1 e2=>(hN k e1 (by omega)).trans (g.old k (by omega)))) h1 g1
theorem vS (S:List Stp)(s:Stp):(S++[s])[S.length]?=some s:=by simp
theorem jA (S:List Stp)(s:Stp){k:Nat}(h:k<S.length):(S++[s])[k]?=S[k]?:=qh h
theorem XA {S:List Stp}{x s:Stp}{k:Nat}(h:(S++[x])[k]?=some s):(k<S.length/\S[k]?=some s)\/(k=S.length/\s=x):=by
 by_cases hk:k<S.length
 ·exact .inl ⟨hk,(jA S x hk).symm.trans h⟩
 ·have:=(yd.1 h).1;simp at this;obtain rfl:k=S.length:=by omega
  exact .inr ⟨rfl,(qu ((vS S x).symm.trans h)).symm⟩
theorem yJ.leaf (T:Tree){nx:Nat}{S:List Stp}(hn:nx<S.length):yJ lf ah (fun i j=>lf T i/\j=i+1) nx S (S.length,S++[taker T nx]):=by
 refine ⟨by simp,fun k hk=>jA S _ hk,.inr ⟨z8 _,by simp⟩,fun k s hk hs=>?_,fun N hN=>?_⟩
 ·rcases XA hs with ⟨h1,_⟩ |⟨_,rfl⟩
  ·omega
  ·simp [taker];omega
 ·have e:=hN S.length (z8 _) (by simp);rw [vS] at e;simpa using xe.taker (lf:=lf) (ah:=ah) e
theorem yJ.asr (a:Int){nx:Nat}{S:List Stp}(hn:nx<S.length):yJ lf ah (fun i j=>i=j/\ah a i) nx S (S.length,S++[tester a nx]):=by
 refine ⟨by simp,fun k hk=>jA S _ hk,.inr ⟨z8 _,by simp⟩,fun k s hk hs=>?_,fun N hN=>?_⟩
 ·rcases XA hs with ⟨h1,_⟩ |⟨_,rfl⟩
  ·omega
  ·simp [tester];omega
 ·have e:=hN S.length (z8 _) (by simp);rw [vS] at e;simpa using xe.tester (lf:=lf) (ah:=ah) e
theorem yJ.either {R R':Nat->Nat->Prop}{nx:Nat}{S:List Stp}{r r':Nat×List Stp}(h:yJ lf ah R nx S r)(g:yJ lf ah R' nx r.2 r')(hn:nx<S.length):yJ lf ah (fun i j=>R i j\/R' i j) nx S (r'.2.length,r'.2++[zx r.1 r'.1]):=by
 have h1:=h.le;have g1:=g.le;have hb:=h.lt hn;have gb:=g.lt (by omega);refine ⟨by simp;omega,fun k hk=>(jA _ _ (by omega)).trans ((g.old k (by omega)).trans (h.old k hk)),.inr ⟨by simp only [];omega,by simp⟩,fun k s hk hs=>?_,fun N hN=>?_⟩
 ·rw [yS,jq];rcases XA hs with ⟨e1,e2⟩ |⟨_,rfl⟩
  ·by_cases hk2:k<r.2.length
   ·have:=h.fit k s hk ((g.old k hk2).symm.trans e2);omega
   ·have:=g.fit k s (by omega) e2;omega
  ·simp only [zx];omega
 ·have hl:(r'.2++[zx r.1 r'.1]).length=r'.2.length+1:=by simp
  rw [hl];refine xe.either (h.right N (fun k e1 e2=>?_)) (g.right N (fun k e1 e2=>?_)) ?_ h1 g1
  ·exact (hN k e1 (by rw [hl];omega)).trans ((jA _ _ (by omega)).trans (g.old k e2))
  ·exact (hN k (by omega) (by rw [hl];omega)).trans (jA _ _ e2)
  ·exact (hN r'.2.length (by omega) (by rw [hl];omega)).trans (vS _ _)
theorem yJ.maybe {R U:Nat->Nat->Prop}{nx:Nat}{S:List Stp}{r r':Nat×List Stp}(h:yJ lf ah U nx S r)(g:yJ lf ah R r.1 r.2 r')(hn:nx<S.length):yJ lf ah (fun i j=>i=j\/∃ m,R i m/\U m j) nx S (r'.2.length,r'.2++[zx r'.1 nx]):=by
 have h1:=h.le;have g1:=g.le;have gb:=g.lt (h.lt hn);refine ⟨by simp;omega,fun k hk=>(jA _ _ (by omega)).trans ((g.old k (by omega)).trans (h.old k hk)),.inr ⟨by simp only [];omega,by simp⟩,fun k s hk hs=>?_,fun N hN=>?_⟩
 ·rw [yS,jq];rcases XA hs with ⟨e1,e2⟩ |⟨_,rfl⟩
  ·by_cases hk2:k<r.2.length
   ·have:=h.fit k s hk ((g.old k hk2).symm.trans e2);omega
   ·have:=g.fit k s (by omega) e2;omega
  ·simp only [zx];omega
 ·have hl:(r'.2++[zx r'.1 nx]).length=r'.2.length+1:=by simp
  rw [hl];refine xe.maybe (h.right N (fun k e1 e2=>?_)) (g.right N (fun k e1 e2=>?_)) ?_ h1 g1
  ·exact (hN k e1 (by rw [hl];omega)).trans ((jA _ _ (by omega)).trans (g.old k e2))
  ·exact (hN k (by omega) (by rw [hl];omega)).trans (jA _ _ e2)
  ·exact (hN r'.2.length (by omega) (by rw [hl];omega)).trans (vS _ _)
end Sm
namespace Sm
variable {lf:Tree->Nat->Prop} {ah:Int->Nat->Prop}
def BOK (lf:Tree->Nat->Prop)(ah:Int->Nat->Prop)(B:Tree->Nat->List Stp->Nat×List Stp)(X:Tree->Nat->Nat->Prop)(t:Tree):Prop:=∀ nx S,nx<S.length->yJ lf ah (X t) nx S (B t nx S)
section
variable {B:Tree->Nat->List Stp->Nat×List Stp} {X:Tree->Nat->Nat->Prop}
theorem Zf {nx:Nat}{S:List Stp}(hn:nx<S.length):∀ (ts:List Tree) (R:Nat->Nat->Prop) (r:Nat×List Stp),(∀ t∈ts,BOK lf ah B X t)->yJ lf ah R nx S r->yJ lf ah (fun i j=>R i j\/∃ t∈ts,X t i j) nx S (yM B nx ts r.1 r.2)
 | [],R,r,_,h=>h.congr (by simp)
 |t :: ts,R,r,hB,h=>by
  have h1:=h.le;have g:=hB t (by simp) nx r.2 (by omega);have e:=h.either g hn;have k:=Zf hn ts _ _ (fun u hu=>hB u (by simp [hu])) e;refine k.congr (fun i j=>?_);simp only [qP,exists_eq_or_imp,or_assoc]
theorem jT (X:Tree->Nat->Nat->Prop):∀ (l r:List Tree) (i j:Nat),q7 X (l++r) i j↔∃ m,q7 X l i m/\q7 X r m j
 | [],r,i,j=>by simp [q7]
 |t :: l,r,i,j=>by
  simp only [jS,q7];constructor
  ·rintro ⟨m,h1,h2⟩;obtain ⟨m',h3,h4⟩:=(jT X l r m j).1 h2;exact ⟨m',⟨m,h1,h3⟩,h4⟩
  ·rintro ⟨m',⟨m,h1,h3⟩,h4⟩;exact ⟨m,h1,(jT X l r m j).2 ⟨m',h3,h4⟩⟩
theorem XS {nx:Nat}{S:List Stp}(hn:nx<S.length):∀ (ts:List Tree) (R:Nat->Nat->Prop) (r:Nat×List Stp),(∀ t∈ts,BOK lf ah B X t)->yJ lf ah R nx S r->yJ lf ah (fun i j=>∃ m,q7 X ts.reverse i m/\R m j) nx S (bSeq B ts r.1 r.2)
 | [],R,r,_,h=>h.congr (by simp [q7])
 |t :: ts,R,r,hB,h=>by
  have g:=hB t (by simp) r.1 r.2 (h.lt hn);have k:=XS hn ts _ _ (fun u hu=>hB u (by simp [hu])) (h.then g);refine k.congr (fun i j=>?_);rw [List.reverse_cons];constructor
  ·rintro ⟨m,h1,m',h2,h3⟩;exact ⟨m',(jT X _ _ _ _).2 ⟨m,h1,m',h2,rfl⟩,h3⟩
  ·rintro ⟨m',h1,h3⟩;obtain ⟨m,h4,m2,h5,rfl⟩:=(jT X _ _ _ _).1 h1;exact ⟨m,h4,m2,h5,h3⟩
def upto (R:Nat->Nat->Prop)(k i j:Nat):Prop:=∃ l,l<=k/\pow R l i j
theorem zbu (R:Nat->Nat->Prop)(i j:Nat):upto R 0 i j↔i=j:=by
 constructor
 ·rintro ⟨l,hl,h⟩;obtain rfl:l=0:=by omega
  exact h
 ·intro h;exact ⟨0,z8 _,h⟩
theorem zbv (R:Nat->Nat->Prop)(k i j:Nat):upto R (k+1) i j↔i=j\/∃ m,R i m/\upto R k m j:=by
 constructor
 ·rintro ⟨l,hl,h⟩;cases l with
  |zero=>exact .inl h
  |succ l=>
   obtain ⟨m,h1,h2⟩:=h;exact .inr ⟨m,h1,l,by omega,h2⟩
 ·rintro (h |⟨m,h1,l,hl,h2⟩)
  ·exact ⟨0,by omega,h⟩
  ·exact ⟨l+1,by omega,m,h1,h2⟩
theorem XT {t:Tree}{nx:Nat}{S:List Stp}(hn:nx<S.length)(hB:BOK lf ah B X t):∀ (k l:Nat) (r:Nat×List Stp),yJ lf ah (upto (X t) l) nx S r->yJ lf ah (upto (X t) (l+k)) nx S (bOpt B t nx k r.1 r.2)
 |0,l,r,h=>h
 |k+1,l,r,h=>by
  have g:=hB r.1 r.2 (h.lt hn);have e:=(h.maybe g hn).congr (fun i j=>(zbv (X t) l i j).symm);have:=XT hn hB k (l+1) _ e
  rwa [show l+1+k=l+(k+1) by omega] at this
theorem JU {R:Nat->Nat->Prop}(h:∀ i j,R i j↔i=j):∀ (k i j:Nat),pow R k i j↔i=j
 |0,i,j=>Iff.rfl
 |k+1,i,j=>by
  simp only [pow];constructor
  ·rintro ⟨m,h1,h2⟩;exact ((h i m).1 h1).trans ((JU h k m j).1 h2)
  ·rintro rfl;exact ⟨i,(h i i).2 rfl,(JU h k i i).2 rfl⟩
theorem vn {t:Tree}{nx:Nat}{S:List Stp}(hn:nx<S.length)(hB:BOK lf ah B X t):∀ (k:Nat) (R:Nat->Nat->Prop) (r:Nat×List Stp),yJ lf ah R nx S r->yJ lf ah (fun i j=>∃ m,pow (X t) k i m/\R m j) nx S (yr B t k r.1 r.2)
 |0,R,r,h=>h.congr (by simp [pow])
 |k+1,R,r,h=>by
  have g:=hB r.1 r.2 (h.lt hn);have s:=h.then g;unfold yr;by_cases e:(B t r.1 r.2).1=r.1
  ·rw [if_pos e];have hid:=g.same (h.lt hn) e;refine s.congr (fun i j=>?_);constructor
   ·rintro ⟨m,h1,h2⟩;exact ⟨m,(JU hid (k+1) i m).2 ((hid i m).1 h1),h2⟩
   ·rintro ⟨m,h1,h2⟩;exact ⟨m,(hid i m).2 ((JU hid (k+1) i m).1 h1),h2⟩
  ·rw [if_neg e];refine (vn hn hB k _ _ s).congr (fun i j=>?_);constructor
   ·rintro ⟨m,h1,m',h2,h3⟩;exact ⟨m',(jz (X t) k 1 i m').2 ⟨m,h1,m',h2,rfl⟩,h3⟩
   ·rintro ⟨m',h1,h3⟩;obtain ⟨m,h4,m2,h5,rfl⟩:=(jz (X t) k 1 i m').1 h1;exact ⟨m,h4,m2,h5,h3⟩
theorem KP {t:Tree}{nx:Nat}{S:List Stp}(hn:nx<S.length)(hB:BOK lf ah B X t) :
  yJ lf ah (fun i j=>∃ k,pow (X t) k i j) nx S (S.length,(xm B t nx S).2)/\yJ lf ah (fun i j=>∃ k,pow (X t) (k+1) i j) nx S (xm B t nx S):=by
 have hl0:(S++[zx 0 nx]).length=S.length+1:=by simp
 have g:=hB S.length (S++[zx 0 nx]) (by rw [hl0];omega);have gl:=g.lt (by rw [hl0];omega);unfold xm;generalize hr:B t S.length (S++[zx 0 nx])=r at g gl;have g1:=g.le;rw [hl0] at g1;have hlen:(r.2.set S.length (zx r.1 nx)).length=r.2.length:=ve;have hself:(r.2.set S.length (zx r.1 nx))[S.length]?=some (zx r.1 nx):=YE (by omega);have hoth:∀ k,k≠S.length->(r.2.set S.length (zx r.1 nx))[k]?=r.2[k]?:=fun k hk=>Z0 (fun e=>hk e.symm);have hold:∀ k,k<S.length->(r.2.set S.length (zx r.1 nx))[k]?=S[k]?:=fun k hk=>(hoth k (by omega)).trans ((g.old k (by rw [hl0];omega)).trans (jA S _ hk));have hfit:∀ k s,S.length<=k->(r.2.set S.length (zx r.1 nx))[k]?=some s->s.next<r.2.length/\s.other<r.2.length:=fun k s hk hs=>by
  by_cases e:k=S.length
  ·subst e;obtain rfl:=qu (hself.symm.trans hs);simp only [zx];omega
  ·exact g.fit k s (by rw [hl0];omega) ((hoth k e).symm.trans hs)
 have hbody:∀ N:List Stp,(∀ k,S.length<=k->k<r.2.length->N[k]?=(r.2.set S.length (zx r.1 nx))[k]?)->xe lf ah (X t) r.1 S.length (S.length+1) r.2.length N:=fun N hN=>by
  have:=g.right N (fun k e1 e2=>by rw [hl0] at e1;exact (hN k (by omega) e2).trans (hoth k (by omega)))
  rwa [hl0] at this
 have hloop:∀ N:List Stp,(∀ k,S.length<=k->k<r.2.length->N[k]?=(r.2.set S.length (zx r.1 nx))[k]?)->xe lf ah (fun i j=>∃ k,pow (X t) k i j) S.length nx S.length r.2.length N:=fun N hN=>
  (hbody N hN).again ((hN S.length (z8 _) (by omega)).trans hself) (by omega)
 refine ⟨⟨by simp only [hlen];omega,hold,.inr ⟨z8 _,by simp only [hlen];omega⟩,fun k s hk hs=>by simp only [hlen];exact hfit k s hk hs,fun N hN=>?_⟩,⟨by simp only [hlen];omega,hold,.inr ?_,fun k s hk hs=>by simp only [hlen];exact hfit k s hk hs,fun N hN=>?_⟩⟩
 ·simp only [hlen] at hN ⊢;exact hloop N hN
 ·simp only [hlen];rcases g.at' with ⟨e1,_⟩ |⟨e1,e2⟩
  ·exact ⟨by omega,by omega⟩
  ·rw [hl0] at e1;exact ⟨by omega,by omega⟩
 ·simp only [hlen] at hN ⊢;have hb:=hbody N hN;have hp:=hloop N hN;refine ⟨?_,?_⟩
  ·rintro i j ⟨k,m,h1,h2⟩;exact (hb.1 i m h1).trans (hp.1 m j ⟨k,h2⟩)
  ·intro k q i j hq hrun;obtain ⟨m,k1,e1,r1,hr1⟩:=hb.2 k q i j (fun e=>hq ⟨by omega,by omega⟩) hrun;obtain ⟨m',k2,e2,⟨l,r2⟩,hr2⟩:=hp.2 k1 q m j hq hr1;exact ⟨m',k2,by omega,⟨l,m,r1,r2⟩,hr2⟩
end
theorem kU:∀ (f:Nat) (T:Tree),WF f T->BOK lf ah (bld f) (M lf ah f) T
 |0,T,h=>h.elim
 |f+1,T,h=>by
  obtain ⟨h5,h56,h7⟩:=h;intro nx S hn;unfold bld;by_cases k0:T.kind=0
  ·simp only [if_pos k0];exact (yJ.asr T.a hn).congr (fun i j=>by simp only [M,if_pos k0])
  by_cases k5:T.kind=5
  ·simp only [if_neg k0,if_pos k5];have hk:=h56 (.inl k5);cases hT:T.kids with
   |nil=>exact absurd hT (h5 k5)
   |cons t ts=>
    rw [hT] at hk;refine (Zf hn ts (M lf ah f t) (bld f t nx S) (fun u hu=>kU f u (hk u (by simp [hu]))) (kU f t (hk t (by simp)) nx S hn)).congr (fun i j=>?_);simp [M,k5,hT]
  by_cases k6:T.kind=6
  ·simp only [if_neg k0,if_neg k5,if_pos k6];have hk:=h56 (.inr k6);refine (XS hn T.kids.reverse (fun i j=>i=j) (nx,S) (fun u hu=>kU f u (hk u (List.mem_reverse.1 hu))) (yJ.empty nx S)).congr (fun i j=>?_);rw [List.reverse_reverse];simp [M,k6]
  by_cases k7:T.kind=7
  ·simp only [if_neg k0,if_neg k5,if_neg k6,if_pos k7];obtain ⟨hw,ha,hb⟩:=h7 k7;have hB:=kU f T.kid hw;by_cases eb:T.b = -1
   ·simp only [if_pos eb];obtain ⟨l1,l2⟩:=KP hn hB;by_cases ea:T.a=0
    ·simp only [if_pos ea];refine l1.congr (fun i j=>?_);simp only [M,if_neg k0,if_neg k5,if_neg k6,if_pos k7];constructor
     ·rintro ⟨k,h⟩;exact ⟨k,by omega,.inl eb,h⟩
     ·rintro ⟨k,_,_,h⟩;exact ⟨k,h⟩
    ·simp only [if_neg ea];refine (vn hn hB _ _ _ l2).congr (fun i j=>?_);simp only [M,if_neg k0,if_neg k5,if_neg k6,if_pos k7];constructor
     ·rintro ⟨m,h1,k,h2⟩;exact ⟨(T.a-1).toNat+(k+1),by omega,.inl eb,(jz _ _ _ _ _).2 ⟨m,h1,h2⟩⟩
     ·rintro ⟨k,h1,_,h2⟩;obtain ⟨m,h3,h4⟩:=(jz _ (T.a-1).toNat (k-T.a.toNat+1) i j).1 (by rwa [show (T.a-1).toNat+(k-T.a.toNat+1)=k by omega]);exact ⟨m,h3,_,h4⟩
   ·simp only [if_neg eb];have hab:T.a<=T.b:=(by rcases hb with h |h;exact absurd h eb;exact h);have o:=XT hn hB (T.b-T.a).toNat 0 (nx,S) ((yJ.empty nx S).congr (fun i j=>(zbu _ i j).symm));refine (vn hn hB _ _ _ o).congr (fun i j=>?_);simp only [M,if_neg k0,if_neg k5,if_neg k6,if_pos k7];constructor
    ·rintro ⟨m,h1,l,hl,h2⟩;exact ⟨T.a.toNat+l,by omega,.inr (by omega),(jz _ _ _ _ _).2 ⟨m,h1,h2⟩⟩
    ·rintro ⟨k,h1,h2,h3⟩;have h2:(k:Int)<=T.b:=(by rcases h2 with h |h;exact absurd h eb;exact h);obtain ⟨m,h4,h5⟩:=(jz _ T.a.toNat (k-T.a.toNat) i j).1 (by rwa [show T.a.toNat+(k-T.a.toNat)=k by omega]);exact ⟨m,h4,_,by omega,h5⟩
  ·simp only [if_neg k0,if_neg k5,if_neg k6,if_neg k7];exact (yJ.leaf T hn).congr (fun i j=>by simp only [M,if_neg k0,if_neg k5,if_neg k6,if_neg k7])
def prg (f:Nat)(T:Tree):Nat×List Stp:=bld f T 0 [q8]
theorem QT {f:Nat}{T:Tree}(h:WF f T)(i j:Nat):Goes lf ah (prg f T).2 (prg f T).1 i 0 j↔M lf ah f T i j:=by
 have b:=kU (lf:=lf) (ah:=ah) f T h 0 [q8] (by simp);have r:=b.right (bld f T 0 [q8]).2 (fun k _ _=>rfl);constructor
 ·rintro ⟨k,hk⟩;obtain ⟨m,k',_,hM,hr⟩:=r.2 k 0 i j (by simp) hk;cases k' with
  |zero=>obtain ⟨_,rfl⟩:=hr;exact hM
  |succ k'=>
   obtain ⟨p',i',⟨s,hs,ho⟩,_⟩:=hr;have e:(bld f T 0 [q8]).2[0]?=some q8:=(b.old 0 (by simp)).trans rfl;obtain rfl:=qu (e.symm.trans hs);simp [q8] at ho
 ·exact r.1 i j
end Sm
namespace Sm
variable {lf:Tree->Nat->Prop} {ah:Int->Nat->Prop}
theorem one_le {N:List Stp}{p i q j:Nat}(h:one lf ah N p i q j):i<=j/\j<=i+1:=by
 obtain ⟨s,_,⟨_,_,_,rfl⟩ |⟨_,_,_,rfl⟩ |⟨_,_,rfl⟩⟩:=h<;>omega
theorem Run.le {N:List Stp}:∀ {k p i q j:Nat},Run lf ah N k p i q j->i<=j
 |0,_,_,_,_,h=>by rw [h.2];exact z8 _
 |_+1,_,_,_,_,⟨_,_,h1,h2⟩=>yZ (one_le h1).1 h2.le
theorem Goes.le {N:List Stp}{p i q j:Nat}:Goes lf ah N p i q j->i<=j
 |⟨_,h⟩=>h.le
variable (lf) in
def tkr (N:List Stp)(a i b:Nat):Prop:=∃ s,N[a]?=some s/\s.kind=1/\lf s.leaf i/\b=s.next
variable (ah) in
def eps (N:List Stp)(a i b:Nat):Prop:=∃ s,N[a]?=some s/\((s.kind=2/\ah s.asr i/\b=s.next)\/(s.kind=3/\(b=s.next\/b=s.other)))
theorem JV {N:List Stp}{p i q j:Nat}:one lf ah N p i q j↔(tkr lf N p i q/\j=i+1)\/(eps ah N p i q/\j=i):=by
 constructor
 ·rintro ⟨s,hs,⟨h1,h2,h3,h4⟩ |⟨h1,h2,h3,h4⟩ |⟨h1,h2,h4⟩⟩
  ·exact .inl ⟨⟨s,hs,h1,h2,h3⟩,h4⟩
  ·exact .inr ⟨⟨s,hs,.inl ⟨h1,h2,h3⟩⟩,h4⟩
  ·exact .inr ⟨⟨s,hs,.inr ⟨h1,h2⟩⟩,h4⟩
 ·rintro (⟨⟨s,hs,h1,h2,h3⟩,h4⟩ |⟨⟨s,hs,⟨h1,h2,h3⟩ |⟨h1,h2⟩⟩,h4⟩)
  ·exact ⟨s,hs,.inl ⟨h1,h2,h3,h4⟩⟩
  ·exact ⟨s,hs,.inr (.inl ⟨h1,h2,h3,h4⟩)⟩
  ·exact ⟨s,hs,.inr (.inr ⟨h1,h2,h4⟩)⟩
theorem QU {N:List Stp}:∀ {k p i q at':Nat},Run lf ah N k p i q (at'+1)->i<=at'->∃ a b,Goes lf ah N p i a at'/\tkr lf N a at' b/\Goes lf ah N b (at'+1) q (at'+1)
 |0,_,_,_,_,h,hi=>by have:=h.2;omega
 |k+1,p,i,q,at',⟨p',i',h1,h2⟩,hi=>by
  by_cases hi':i'<=at'
  ·obtain ⟨a,b,g1,g2,g3⟩:=QU h2 hi';exact ⟨a,b,Goes.head h1 g1,g2,g3⟩
  ·rcases JV.1 h1 with ⟨ht,e⟩ |⟨_,e⟩
   ·obtain rfl:i=at':=(by omega);subst e;exact ⟨p,p',Goes.refl _ _ _,ht,k,h2⟩
   ·omega
theorem wP {N:List Stp}{s i q at':Nat}(hi:i<=at'):Goes lf ah N s i q (at'+1)↔∃ a b,Goes lf ah N s i a at'/\tkr lf N a at' b/\Goes lf ah N b (at'+1) q (at'+1):=by
 constructor
 ·rintro ⟨k,h⟩;exact QU h hi
 ·rintro ⟨a,b,g1,g2,g3⟩;exact g1.trans (Goes.head (JV.2 (.inl ⟨g2,rfl⟩)) g3)
theorem Y6 {N:List Stp}{i:Nat}{bs rs:List Nat}(h1:∀ p∈bs,p∈rs)(h2:∀ q∈rs,∃ p∈bs,Goes lf ah N p i q i)(h3:∀ a∈rs,∀ b,eps ah N a i b->b∈rs)(q:Nat):q∈rs↔∃ p∈bs,Goes lf ah N p i q i:=by
 refine ⟨h2 q,?_⟩;rintro ⟨p,hp,k,hk⟩;replace hp:=h1 p hp;clear h1 h2
 induction k generalizing p with
 |zero=>rw [<-hk.1];exact hp
 |succ k ih=>
  obtain ⟨p',i',h4,h5⟩:=hk;rcases JV.1 h4 with ⟨_,e⟩ |⟨he,e⟩
  ·have:=h5.le;omega
  ·subst e;exact ih p' h5 (h3 p hp p' he)
end Sm
end
end Go.Proofs.YtcgleficedipkaaGreatDoor
