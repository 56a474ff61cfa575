/- Worlds that differ in named blocks alone, and a lexer's four cells. -/
import Derived.WalkKit
import Derived.WalkSpells
import Derived.WalkLawsBesides
import Derived.Deep.QuietTactic
import Derived.BigQuiet
import Derived.Deep.RegionWith
namespace Go.Proofs.YtcgleficedipkaaGreatDoor
open Option renaming none->U,some->I
open Value renaming int->M,string->Uc
open IntKind renaming i64->J
open Bool renaming false->Z
open Go renaming World->E,Value->Y,Calls->Uh
open Go.RowKit renaming Hid->H
open Or renaming inr->O,inl->Q
theorem oa {p:Prop}(h:p:=by omega):p:=h
theorem od {p:Prop}(h:p:=by decide):p:=h
theorem om {p:Prop}(h:p:=by kernel_rfl):p:=h
theorem ou {p:Prop}(h:p:=by (simp;omega)):p:=h
theorem ov {p:Prop}(h:p:=by simp):p:=h
theorem ox {p:Prop}(h:p:=by assumption):p:=h
theorem iN {c:Prop}{h:Decidable c}(k:¬c){α:Sort _}{x y:α}:ite c x y=y:=if_neg k
theorem IN {c:Prop}{h:Decidable c}(k:c){α:Sort _}{x y:α}:ite c x y=x:=if_pos k
abbrev zgE:=@List.getElem?_eq_getElem
abbrev zgF:=@World.block_lt_of_cell?
abbrev zgG:=@List.getElem?_eq_some_iff
abbrev zgH:=@Nat.le_refl
abbrev zgI:=@World.cell?_setCell_other
abbrev zgJ:=@Nat.lt_of_lt_of_le
abbrev zgK:=@List.length_append
abbrev zgL:=@World.cell?_setCell_same
abbrev zgM:=@Array.getElem?_eq_some_iff
abbrev zgN:=@Nat.le_trans
abbrev zgO:=@World.ownsRow.alloc
abbrev zgP:=@World.ownsRow_nil
abbrev zgQ:=@List.mem_cons_self
abbrev zgR:=@List.mem_cons_of_mem
abbrev zgS:=@List.mem_of_getElem?
abbrev zgT:=@List.mem_singleton
abbrev zgU:=@List.mem_append
abbrev zgV:=@Nat.not_lt_zero
abbrev zgW:=@List.getElem?_append_left
abbrev zgX:=@List.append_assoc
abbrev zgY:=@List.eq_nil_of_length_eq_zero
abbrev zgZ:=@List.getElem?_map
abbrev zg0:=@Option.some.inj
abbrev zg1:=@List.setIfInBounds_toArray
abbrev zg2:=@List.getElem?_append_right
abbrev zg3:=@List.getD_eq_getElem?_getD
abbrev zg4:=@List.length_cons
abbrev zg5:=@List.getElem_mem
abbrev zg6:=@Nat.zero_add
abbrev zg7:=@List.length_singleton
abbrev zg8:=@List.getElem_cons_zero
abbrev zg9:=@List.getElem_cons_succ
abbrev zha:=@List.getElem_toArray
abbrev zhb:=@Bool.and_eq_true
abbrev zhc:=@List.append_nil
abbrev zhd:=@Option.map_eq_some_iff
abbrev zhe:=@List.length_nil
abbrev zhf:=@List.cons_append
abbrev zhg:=@List.size_toArray
abbrev zhh:=@List.mem_cons
abbrev zhi:=@List.set_cons_zero
abbrev zhj:=@List.set_cons_succ
abbrev zhk:=@List.pairwise_cons
abbrev zhl:=@Nat.add_zero
abbrev zhm:=@Int.toNat_natCast
abbrev zhn:=@World.cell?_alloc_lt
abbrev zho:=@List.nil_append
abbrev zhp:=@Nat.lt_or_eq_of_le
abbrev zhq:=@World.cell?_of_block
abbrev zhr:=@Int.mul_le_mul_of_nonneg_right
abbrev zhs:=@List.take_of_length_le
abbrev zht:=@List.take_add_one
abbrev zhu:=@Int.mul_nonneg
abbrev zhv:=@List.getElem?_eq_none
abbrev zhw:=@List.length_set
abbrev zhx:=@List.getElem?_replicate
abbrev zhy:=@List.length_take
abbrev zhz:=@Array.replicate_zero
abbrev zhA:=@Array.replicate_succ
abbrev zhB:=@World.ownsRow.cells
abbrev zhC:=@List.append_toArray
abbrev zhD:=@Bool.or_eq_true
abbrev zhE:=@List.pairwise_iff_getElem
abbrev zhF:=@List.mem_map
abbrev zhG:=@List.take_length
abbrev zhH:=@List.length_drop
abbrev zhI:=@List.getElem?_drop
abbrev zhJ:=@Nat.le_of_lt_succ
abbrev zhK:=@List.push_toArray
abbrev zhL:=@Bool.eq_false_iff
abbrev zhM:=@Bool.eq_iff_iff
abbrev zhN:=@List.mem_iff_getElem?
abbrev zhO:=@List.map_append
abbrev zhP:=@List.getElem?_set_ne
abbrev zhQ:=@List.getElem?_take_of_lt
abbrev zhR:=@Array.getElem?_push_size
abbrev zhS:=@List.mem_map_of_mem
abbrev zhT:=@List.drop_drop
abbrev zhU:=@World.size_alloc
abbrev zhV:=@Nat.sub_self
abbrev zhW:=@Nat.lt_or_ge
abbrev zhX:=@Int.natCast_add
abbrev zhY:=@List.getElem?_toArray
abbrev zhZ:=@List.flatMap_cons
abbrev zh0:=@List.pairwise_append
abbrev zh1:=@List.mem_append_left
abbrev zh2:=@List.mem_flatMap
abbrev zh3:=@World.frozen?_alloc_old
abbrev zh4:=@List.getElem?_cons_zero
abbrev zh5:=@Int.natCast_mul
abbrev zh6:=@World.frozen?_of_block
abbrev zh7:=@List.getElem?_set_self
abbrev zh8:=@World.drewN_drewN
abbrev zh9:=@Bool.not_eq_true'
abbrev zia:=@Nat.zero_mul
abbrev zib:=@List.mem_range
abbrev zic:=@Array.getElem?_modify
abbrev zid:=@Bool.not_eq_true
abbrev zie:=@World.cell?_alloc_at
abbrev zif:=@Nat.div_lt_of_lt_mul
abbrev zig:=@List.replicate_succ'
abbrev zih:=@Nat.add_assoc
abbrev zii:=@List.sum_cons
abbrev zij:=@Int.le_refl
abbrev zik:=@List.getElem_of_mem
abbrev zil:=@List.length_map
abbrev zim:=@List.mem_or_eq_of_mem_set
abbrev zin:=@List.drop_eq_getElem_cons
abbrev zio:=@Nat.eq_zero_or_pos
abbrev ziq:=@List.prefix_append
abbrev zir:=@List.getElem?_take
abbrev zis:=@Nat.mul_one
abbrev zit:=@List.drop_of_length_le
abbrev ziu:=@Bool.or_false
abbrev ziv:=@List.set_append_right
abbrev ziw:=@List.mem_append_right
abbrev zix:=@Nat.mul_comm
abbrev ziy:=@Int.pow_succ
abbrev ziz:=@Int.natCast_one
abbrev ziA:=@List.mem_of_mem_take
abbrev ziB:=@List.mem_of_mem_drop
theorem ziD {P:Program}{f:FuncId}{a:Array Y}{w:E}{v:Ending}{Q:Ending->E->Prop}(h:Uh P f a w λx b=>x=v/\b=w)(k:Q v w):Uh P f a w Q:=h.mono (by rintro _ _ ⟨rfl,rfl⟩;exact k)
variable {w:World}{b:Nat}(s:ByteArray)(k:Nat){i e a:Int}
section
open Go.RowKit
theorem ze {p:Prop}(h:p):H p:=h
theorem zb {p:Prop}(h:H p):p:=h
structure zf (P:Nat->Prop)(w w':E):Prop where
 os:w'.os=w.os
 tape:w'.tape=w.tape
 output:w'.output=w.output
 size:w.heap.size<=w'.heap.size
 block:∀k,k<w.heap.size->¬P k->w'.heap[k]?=w.heap[k]?
abbrev ziE:=zf (λ_=>False)
theorem zf.refl (P:Nat->Prop)(w:E):zf P w w:=⟨rfl,rfl,rfl,zgH _,λ_ _ _=>rfl⟩
theorem zf.trans {P:Nat->Prop}{a b c:E}(h:zf P a b)(k:zf P b c):zf P a c:=
 ⟨k.os.trans h.os,k.tape.trans h.tape,k.output.trans h.output,zgN h.size k.size,λi d e=>(k.block i (zgJ d h.size) e).trans (h.block i d e)⟩
theorem zf.mono {P Q:Nat->Prop}{a b:E}(h:zf P a b)(d:∀k,k<a.heap.size->P k->Q k):zf Q a b:=
 ⟨h.os,h.tape,h.output,h.size,λi c f=>h.block i c (λe=>f (d i c e))⟩
theorem zf.drew {P:Nat->Prop}{a w:E}(h:zf P a w):zf P a w.drew:=⟨h.os,h.tape,h.output,h.size,h.block⟩
theorem zf.drewN {P:Nat->Prop}{a w:E}(h:zf P a w)(n:Nat):zf P a (w.drewN n):=⟨h.os,h.tape,h.output,h.size,h.block⟩
theorem zf.alloc {P:Nat->Prop}{a w:E}(h:zf P a w)(o:Obj):zf P a (w.alloc o):=
 ⟨h.os,h.tape,h.output,zgN h.size ov,λk b c=>(Below.heap_alloc _ _ _ (zgJ b h.size)).trans (h.block k b c)⟩
theorem zf.setCell {P:Nat->Prop}{a w:E}(h:zf P a w){p:Addr}(b:P p.block\/a.heap.size<=p.block)(u:Y):zf P a (w.setCell p u):=
 ⟨h.os,h.tape,h.output,zgN h.size (by simp[World.setCell]),λk d c=>(Below.heap_setCell _ _ _ _ (by
  rintro rfl;rcases b with b|b;exact c b;omega)).trans (h.block k d c)⟩
theorem zf.grown {P:Nat->Prop}{a w g:E}{row:Option Nat}(h:zf P a w)(b:w.grownBy g row)(i:∀k,row=I k->P k\/a.heap.size<=k):zf P a g:=
 ⟨b.os.trans h.os,b.tape.trans h.tape,b.output.trans h.output,zgN h.size b.size,λk c d=>(b.block k (zgJ c h.size) (λe=>by
  rcases i k e.symm with f|f;exact d f;omega)).trans (h.block k c d)⟩
theorem zf.cell {P:Nat->Prop}{w a:E}(h:zf P w a){p:Addr}(c:p.block<w.heap.size)(b:¬P p.block):a.cell? p=w.cell? p:=zhq (w:=w) (h.block p.block c b)
theorem zf.frozen {P:Nat->Prop}{w a:E}(h:zf P w a){p:Addr}(c:p.block<w.heap.size)(b:¬P p.block):a.frozen? p=w.frozen? p:=zh6 (w:=w) (h.block p.block c b)
theorem zf.below {a:E}(h:ziE w a):Below w.heap.size w a:=⟨h.os,h.tape,h.output,h.size,λk b=>h.block k b id⟩
theorem zf.ofBelow {P:Nat->Prop}{w a:E}(h:Below w.heap.size w a):zf P w a:=⟨h.os,h.tape,h.output,h.size,λk b _=>h.block k b⟩
structure qW (w:E)(b:Nat)(s:ByteArray)(i e at':Int):Prop where
 c0:w.cell? ⟨b,0,U⟩=I (Uc s)
 c1:w.cell? ⟨b,1,U⟩=I (M J i)
 c2:w.cell? ⟨b,2,U⟩=I (M J e)
 c3:w.cell? ⟨b,3,U⟩=I (M J at')
 f1:w.frozen? ⟨b,1,U⟩=Z
 f2:w.frozen? ⟨b,2,U⟩=Z
 f3:w.frozen? ⟨b,3,U⟩=Z
variable {s}
theorem qW.lt (h:qW w b s i e a):b<w.heap.size:=zgF w ⟨b,0,U⟩ h.c0
theorem qW.keep {P:Nat->Prop}{w d:E}{b:Nat}{s:ByteArray}{i e a:Int}(h:qW w b s i e a)(k:zf P w d)(c:¬P b):qW d b s i e a:=
 ⟨(k.cell (p:=⟨b,0,U⟩) h.lt c).trans h.c0,(k.cell (p:=⟨b,1,U⟩) h.lt c).trans h.c1,(k.cell (p:=⟨b,2,U⟩) h.lt c).trans h.c2,(k.cell (p:=⟨b,3,U⟩) h.lt c).trans h.c3,
  (k.frozen (p:=⟨b,1,U⟩) h.lt c).trans h.f1,(k.frozen (p:=⟨b,2,U⟩) h.lt c).trans h.f2,(k.frozen (p:=⟨b,3,U⟩) h.lt c).trans h.f3⟩
theorem zk (w:E)(a p:Addr)(u:Y):(w.setCell a u).frozen? p=w.frozen? p:=ov
theorem qW.setI (h:qW w b s i e a)(j:Int):qW (w.setCell ⟨b,1,U⟩ (M J j)) b s j e a:=
 ⟨(zgI _ _ _ _ ov).trans h.c0,zgL _ _ _ h.c1,(zgI _ _ _ _ ov).trans h.c2,(zgI _ _ _ _ ov).trans h.c3,
  (zk _ _ _ _).trans h.f1,(zk _ _ _ _).trans h.f2,(zk _ _ _ _).trans h.f3⟩
theorem qW.setE (h:qW w b s i e a)(j:Int):qW (w.setCell ⟨b,2,U⟩ (M J j)) b s i j a:=
 ⟨(zgI _ _ _ _ ov).trans h.c0,(zgI _ _ _ _ ov).trans h.c1,zgL _ _ _ h.c2,(zgI _ _ _ _ ov).trans h.c3,
  (zk _ _ _ _).trans h.f1,(zk _ _ _ _).trans h.f2,(zk _ _ _ _).trans h.f3⟩
theorem qW.setA (h:qW w b s i e a)(j:Int):qW (w.setCell ⟨b,3,U⟩ (M J j)) b s i e j:=
 ⟨(zgI _ _ _ _ ov).trans h.c0,(zgI _ _ _ _ ov).trans h.c1,(zgI _ _ _ _ ov).trans h.c2,zgL _ _ _ h.c3,
  (zk _ _ _ _).trans h.f1,(zk _ _ _ _).trans h.f2,(zk _ _ _ _).trans h.f3⟩
theorem qW.drewN {w:E}{b:Nat}{s:ByteArray}{i e a:Int}(h:qW w b s i e a)(n:Nat):qW (w.drewN n) b s i e a:=
 h.keep ((zf.refl (λ_=>False) w).drewN n) id
def zt (b:Nat)(k:Nat):Prop:=k=b
theorem zf.mine {a w:E}(h:zf (zt b) a w)(off:Nat)(u:Y):zf (zt b) a (w.setCell ⟨b,off,U⟩ u):=h.setCell (p:=⟨b,off,U⟩) (Or.inl (show b=b from rfl)) u
def zd (s:ByteArray)(k:Nat):Int:=if h:k<s.size then(s[k].toNat:Int) else -1
variable (s)
theorem jw:-1<=zd s k:=by unfold zd;split<;>omega
theorem xj:zd s k<=255:=by unfold zd;split;rename_i h;have:=(s[k]).toNat_lt;omega;omega
theorem yZ (h:k<s.size):zd s k=(s[k].toNat:Int):=by unfold zd;rw[dif_pos h]
theorem qw (h:s.size<=k):zd s k = -1:=by unfold zd;rw[dif_neg oa]
theorem zw:0<=zd s k↔k<s.size:=by constructor;intro h;by_cases a:k<s.size;exact a;rw[qw s k oa] at h;omega;intro h;rw[yZ s k h];omega
theorem Zs (n:UInt8):wrap64 (n.toNat:Int)=(n.toNat:Int):=by have:=n.toNat_lt;unfold wrap64;omega
structure St where
 i:Nat
 e:Int
 a:Int
def Lex (w:E)(b:Nat)(s:ByteArray)(h:St):Prop:=qW w b s h.i h.e h.a
def St.fail (h:St)(b a:Int):St:=if h.e=0 then⟨h.i,b,a⟩ else h
def St.go (h:St)(n:Nat):St:=⟨h.i+n,h.e,h.a⟩
end
section
namespace Sm
structure Tree where
 kind:Nat
 a:Int
 b:Int
 neg:Bool
 rs:List (Int×Int)
 ss:List Int
 kids:List Tree
def Tree.kid (T:Tree):Tree:=match T.kids with|[]=>T|t :: _=>t
section
variable (R:Nat->Nat->Prop)
def pow:Nat->Nat->Nat->Prop
 |0,i,j=>i=j
 |k+1,i,j=>∃m,R i m/\pow k m j
end
def kN (X:Tree->Nat->Nat->Prop):List Tree->Nat->Nat->Prop
 | [],i,j=>i=j
 |t :: a,i,j=>∃m,X t i m/\kN X a m j
theorem jx (R:Nat->Nat->Prop):∀(k l i j:Nat),pow R (k+l) i j↔∃m,pow R k i m/\pow R l m j
 |0,l,i,j=>by simp[pow]
 |k+1,l,i,j=>by
  rw[Nat.add_right_comm];simp only[pow];constructor;rintro⟨m,a,d⟩;obtain⟨m',b,c⟩:=(jx R k l m j).1 d;exact⟨m',⟨m,a,b⟩,c⟩;rintro⟨m',⟨m,a,b⟩,c⟩;exact⟨m,a,(jx R k l m j).2 ⟨m',b,c⟩⟩
variable (lf:Tree->Nat->Prop) (ah:Int->Nat->Prop)
def M:Nat->Tree->Nat->Nat->Prop
 |0,_,_,_=>False
 |f+1,T,i,j=>
  if T.kind=0 then i=j/\ah T.a i
  else if T.kind=5 then ∃t∈T.kids,M f t i j
  else if T.kind=6 then kN (M f) T.kids i j
  else if T.kind=7 then ∃k:Nat,T.a<=k/\(T.b = -1\/(k:Int)<=T.b)/\pow (M f T.kid) k i j
  else lf T i/\j=i+1
def WF:Nat->Tree->Prop
 |0,_=>False
 |f+1,T=>(T.kind=5->T.kids≠[])/\(T.kind=5\/T.kind=6->∀t∈T.kids,WF f t)/\(T.kind=7->WF f T.kid/\0<=T.a/\(T.b = -1\/T.a<=T.b))
structure Stp where
 kind:Nat
 leaf:Tree
 asr:Int
 next:Nat
 other:Nat
def noTree:Tree:=⟨1,0,0,Z,[],[],[]⟩
def j8:Stp:=⟨0,noTree,0,0,0⟩
def taker (T:Tree)(r:Nat):Stp:=⟨1,T,0,r,0⟩
def tester (a:Int)(r:Nat):Stp:=⟨2,noTree,a,r,0⟩
def zA (x y:Nat):Stp:=⟨3,noTree,0,x,y⟩
def one (N:List Stp)(p i q j:Nat):Prop:=∃s,N[p]?=I s/\((s.kind=1/\lf s.leaf i/\q=s.next/\j=i+1)\/(s.kind=2/\ah s.asr i/\q=s.next/\j=i)\/(s.kind=3/\(q=s.next\/q=s.other)/\j=i))
def Run (N:List Stp):Nat->Nat->Nat->Nat->Nat->Prop
 |0,p,i,q,j=>p=q/\i=j
 |k+1,p,i,q,j=>∃b a,one lf ah N p i b a/\Run N k b a q j
def Goes (N:List Stp)(p i q j:Nat):Prop:=∃k,Run lf ah N k p i q j
variable {lf ah}
theorem Run.trans {N:List Stp}:∀{k l p i q j r m:Nat},Run lf ah N k p i q j->Run lf ah N l q j r m->Run lf ah N (k+l) p i r m
 |0,l,p,i,q,j,r,m,h,g=>by
  obtain⟨rfl,rfl⟩:=h;rwa [zg6]
 |k+1,l,p,i,q,j,r,m,h,g=>by
  obtain⟨d,c,a,b⟩:=h;rw[Nat.add_right_comm];exact⟨d,c,a,Run.trans b g⟩
theorem Goes.refl (N:List Stp)(p i:Nat):Goes lf ah N p i p i:=⟨0,rfl,rfl⟩
theorem Goes.trans {N:List Stp}{p i q j r m:Nat}:Goes lf ah N p i q j->Goes lf ah N q j r m->Goes lf ah N p i r m
 |⟨k,h⟩,⟨l,g⟩=>⟨k+l,h.trans g⟩
theorem Goes.one {N:List Stp}{p i q j:Nat}(h:one lf ah N p i q j):Goes lf ah N p i q j:=⟨1,q,j,h,rfl,rfl⟩
theorem Goes.head {N:List Stp}{p i b a q j:Nat}(h:Sm.one lf ah N p i b a)(g:Goes lf ah N b a q j):Goes lf ah N p i q j:=(Goes.one h).trans g
variable (lf ah)
def xJ (R:Nat->Nat->Prop)(b r d c:Nat)(N:List Stp):Prop:=
 (∀i j,R i j->Goes lf ah N b i r j)/\∀k q i j,¬(d<=q/\q<c)->Run lf ah N k b i q j->∃m a,a<=k/\R i m/\Run lf ah N a r m q j
variable {lf ah}
theorem xJ.empty (r a:Nat)(N:List Stp):xJ lf ah (λi j=>i=j) r r a a N:=
 ⟨λi j e=>by cases e;exact Goes.refl _ _ _,λk _ i _ _ h=>⟨i,k,zgH _,rfl,h⟩⟩
theorem xJ.congr {R R':Nat->Nat->Prop}{b r d c:Nat}{N:List Stp}(h:xJ lf ah R b r d c N)(e:∀i j,R i j↔R' i j):xJ lf ah R' b r d c N:=
 ⟨λi j a=>h.1 i j ((e i j).2 a),λk q i j n o=>by
  obtain⟨m,p,f,g,l⟩:=h.2 k q i j n o;exact⟨m,p,f,(e i m).1 g,l⟩⟩
theorem xJ.then {R R':Nat->Nat->Prop}{b c r l d f:Nat}{N:List Stp}(h:xJ lf ah R b c d f N)(g:xJ lf ah R' c r l d N)(z:l<=d)(B:d<=f):xJ lf ah (λi j=>∃m,R i m/\R' m j) b r l f N:=by refine⟨?_,?_⟩;rintro i j ⟨m,a,n⟩;exact(h.1 i m a).trans (g.1 m j n);intro k q i j o p;obtain⟨m,u,x,a,s⟩:=h.2 k q i j (λe=>o ⟨oa,oa⟩) p;obtain⟨w,v,y,n,t⟩:=g.2 u q m j (λe=>o ⟨oa,oa⟩) s;exact⟨w,v,oa,⟨m,a,n⟩,t⟩
theorem xJ.taker {N:List Stp}{p r:Nat}{T:Tree}(h:N[p]?=I (taker T r)):xJ lf ah (λi j=>lf T i/\j=i+1) p r p (p+1) N:=by
 refine⟨?_,?_⟩;rintro i j ⟨b,rfl⟩;exact Goes.one ⟨_,h,Q ⟨rfl,b,rfl,rfl⟩⟩;intro k q i j e c;cases k with
 |zero=>obtain⟨rfl,rfl⟩:=c;exact absurd ⟨zgH _,Nat.lt_succ_self _⟩ e
 |succ k=>
  obtain⟨m,l,⟨s,g,d⟩,f⟩:=c;obtain rfl:=zg0 (h.symm.trans g);rcases d with⟨_,b,rfl,rfl⟩|⟨a,_⟩|⟨a,_⟩;exact⟨_,k,Nat.le_succ _,⟨b,rfl⟩,f⟩;exact absurd a (by simp[Sm.taker]);exact absurd a (by simp[Sm.taker])
theorem xJ.tester {N:List Stp}{p r:Nat}{a:Int}(h:N[p]?=I (tester a r)):xJ lf ah (λi j=>i=j/\ah a i) p r p (p+1) N:=by
 refine⟨?_,?_⟩;rintro i j ⟨rfl,c⟩;exact Goes.one ⟨_,h,O (Q ⟨rfl,c,rfl,rfl⟩)⟩;intro k q i j f d;cases k with
 |zero=>obtain⟨rfl,rfl⟩:=d;exact absurd ⟨zgH _,Nat.lt_succ_self _⟩ f
 |succ k=>
  obtain⟨n,m,⟨s,l,e⟩,g⟩:=d;obtain rfl:=zg0 (h.symm.trans l);rcases e with⟨b,_⟩|⟨_,c,rfl,rfl⟩|⟨b,_⟩;exact absurd b (by simp[Sm.tester]);exact⟨_,k,Nat.le_succ _,⟨rfl,c⟩,g⟩;exact absurd b (by simp[Sm.tester])
theorem ke {N:List Stp}{p x y i d e:Nat}(h:N[p]?=I (zA x y)):one lf ah N p i d e↔(d=x\/d=y)/\e=i:=by constructor;rintro⟨s,g,f⟩;obtain rfl:=zg0 (h.symm.trans g);rcases f with⟨a,_⟩|⟨a,_⟩|⟨_,b,c⟩;exact absurd a (by simp[zA]);exact absurd a (by simp[zA]);exact⟨b,c⟩;rintro⟨b,c⟩;exact⟨_,h,O (O ⟨rfl,b,c⟩)⟩
theorem xJ.either {R R':Nat->Nat->Prop}{b c r s f d:Nat}{N:List Stp}(h:xJ lf ah R b r s f N)(g:xJ lf ah R' c r f d N)(l:N[d]?=I (zA b c))(x:s<=f)(y:f<=d):xJ lf ah (λi j=>R i j\/R' i j) d r s (d+1) N:=by
 refine⟨?_,?_⟩;rintro i j (a|a);exact Goes.head ((ke l).2 ⟨Q rfl,rfl⟩) (h.1 i j a);exact Goes.head ((ke l).2 ⟨O rfl,rfl⟩) (g.1 i j a);intro k q i j n t;cases k with
 |zero=>obtain⟨rfl,rfl⟩:=t;exact absurd ⟨oa,oa⟩ n
 |succ k=>
  obtain⟨z,v,w,u⟩:=t;obtain⟨rfl|rfl,rfl⟩:=(ke l).1 w;obtain⟨m,p,e,a,o⟩:=h.2 k q v j (λe=>n ⟨oa,oa⟩) u;exact⟨m,p,oa,Q a,o⟩;obtain⟨m,p,e,a,o⟩:=g.2 k q v j (λe=>n ⟨oa,oa⟩) u;exact⟨m,p,oa,O a,o⟩
theorem xJ.maybe {R o:Nat->Nat->Prop}{b c r n f d:Nat}{N:List Stp}(g:xJ lf ah o c r n f N)(h:xJ lf ah R b c f d N)(l:N[d]?=I (zA b r))(w:n<=f)(x:f<=d):xJ lf ah (λi j=>i=j\/∃m,R i m/\o m j) d r n (d+1) N:=by
 have s:=h.then g w x;refine⟨?_,?_⟩;rintro i j (rfl|a);exact Goes.one ((ke l).2 ⟨O rfl,rfl⟩);exact Goes.head ((ke l).2 ⟨Q rfl,rfl⟩) (s.1 i j a);intro k q i j p t;cases k with
 |zero=>obtain⟨rfl,rfl⟩:=t;exact absurd ⟨oa,oa⟩ p
 |succ k=>
  obtain⟨F,v,y,u⟩:=t;obtain⟨rfl|rfl,rfl⟩:=(ke l).1 y;obtain⟨m,B,e,a,z⟩:=s.2 k q v j (λe=>p ⟨oa,oa⟩) u;exact⟨m,B,oa,O a,z⟩;exact⟨v,k,oa,Q rfl,u⟩
theorem xJ.again {R:Nat->Nat->Prop}{b r c f:Nat}{N:List Stp}(h:xJ lf ah R b c (c+1) f N)(d:N[c]?=I (zA b r))(P:c<f):xJ lf ah (λi j=>∃k,pow R k i j) c r c f N:=by
 refine⟨?_,?_⟩
 .rintro i j ⟨k,a⟩
  induction k generalizing i with
  |zero=>cases a;exact Goes.one ((ke d).2 ⟨O rfl,rfl⟩)
  |succ k n=>
   obtain⟨m,B,o⟩:=a;exact Goes.head ((ke d).2 ⟨Q rfl,rfl⟩) ((h.1 i m B).trans (n m o))
 intro k
 induction k using Nat.strongRecOn with
 |ind k n=>
  intro q i j g p;cases k with
  |zero=>obtain⟨rfl,rfl⟩:=p;exact absurd ⟨oa,oa⟩ g
  |succ k=>
   obtain⟨S,t,u,s⟩:=p;obtain⟨rfl|rfl,rfl⟩:=(ke d).1 u;obtain⟨m,x,F,a,v⟩:=h.2 k q t j (λe=>g ⟨oa,oa⟩) s;obtain⟨z,y,L,⟨l,o⟩,w⟩:=n x oa q m j g v;exact⟨z,y,oa,⟨l+1,m,a,o⟩,w⟩;exact⟨t,k,oa,⟨0,rfl⟩,s⟩
end Sm
namespace Sm
section
variable (B:Tree->Nat->List Stp->Nat×List Stp)
def xg (r:Nat):List Tree->Nat->List Stp->Nat×List Stp
 | [],b,S=>(b,S)
 |t :: a,b,S=>xg r a (B t r S).2.length ((B t r S).2++[zA b (B t r S).1])
def wJ:List Tree->Nat->List Stp->Nat×List Stp
 | [],b,S=>(b,S)
 |t :: a,b,S=>wJ a (B t b S).1 (B t b S).2
def vt (t:Tree)(r:Nat):Nat->Nat->List Stp->Nat×List Stp
 |0,b,S=>(b,S)
 |k+1,b,S=>vt t r k (B t b S).2.length ((B t b S).2++[zA (B t b S).1 r])
def yM (t:Tree):Nat->Nat->List Stp->Nat×List Stp
 |0,b,S=>(b,S)
 |k+1,b,S=>if(B t b S).1=b then B t b S else yM t k (B t b S).1 (B t b S).2
def xR (t:Tree)(r:Nat)(S:List Stp):Nat×List Stp:=
 ((B t S.length (S++[zA 0 r])).1,(B t S.length (S++[zA 0 r])).2.set S.length (zA (B t S.length (S++[zA 0 r])).1 r))
end
def bld:Nat->Tree->Nat->List Stp->Nat×List Stp
 |0,_,r,S=>(r,S)
 |f+1,T,r,S=>
  if T.kind=0 then(S.length,S++[tester T.a r])
  else if T.kind=5 then
   match T.kids with
   | []=>(r,S)
   |t :: a=>xg (bld f) r a (bld f t r S).1 (bld f t r S).2
  else if T.kind=6 then wJ (bld f) T.kids.reverse r S
  else if T.kind=7 then
   if T.b = -1 then
    if T.a=0 then(S.length,(xR (bld f) T.kid r S).2)
    else yM (bld f) T.kid (T.a-1).toNat (xR (bld f) T.kid r S).1 (xR (bld f) T.kid r S).2
   else yM (bld f) T.kid T.a.toNat (vt (bld f) T.kid r (T.b-T.a).toNat r S).1 (vt (bld f) T.kid r (T.b-T.a).toNat r S).2
  else(S.length,S++[taker T r])
variable (lf:Tree->Nat->Prop) (ah:Int->Nat->Prop)
structure xe (R:Nat->Nat->Prop)(nx:Nat)(S:List Stp)(r:Nat×List Stp):Prop where
 le:S.length<=r.2.length
 old:∀k,k<S.length->r.2[k]?=S[k]?
 at':(r.1=nx/\r.2.length=S.length)\/(S.length<=r.1/\r.1<r.2.length)
 fit:∀k s,S.length<=k->r.2[k]?=I s->s.next<r.2.length/\s.other<r.2.length
 right:∀N:List Stp,(∀k,S.length<=k->k<r.2.length->N[k]?=r.2[k]?)->xJ lf ah R r.1 nx S.length r.2.length N
variable {lf ah}
theorem xe.congr {R R':Nat->Nat->Prop}{r:Nat}{S:List Stp}{a:Nat×List Stp}(h:xe lf ah R r S a)(e:∀i j,R i j↔R' i j):xe lf ah R' r S a:=
 ⟨h.le,h.old,h.at',h.fit,λN b=>(h.right N b).congr e⟩
theorem xe.empty (r:Nat)(S:List Stp):xe lf ah (λi j=>i=j) r S (r,S):=
 ⟨zgH _,λ_ _=>rfl,Q ⟨rfl,rfl⟩,λk s a b=>by have h:=(zgG.1 b).1;exact absurd h (Nat.not_lt.2 a),λN _=>xJ.empty r _ N⟩
theorem xe.lt {R:Nat->Nat->Prop}{r:Nat}{S:List Stp}{a:Nat×List Stp}(h:xe lf ah R r S a)(b:r<S.length):a.1<a.2.length:=by have:=h.le;rcases h.at' with⟨e,_⟩|⟨_,e⟩<;>omega
theorem xe.same {R:Nat->Nat->Prop}{r:Nat}{S:List Stp}{a:Nat×List Stp}(h:xe lf ah R r S a)(t:r<S.length)(e:a.1=r):∀i j,R i j↔i=j:=by
 have q:a.2.length=S.length:=by rcases h.at' with⟨_,d⟩|⟨d,_⟩<;>omega
 have c:=h.right [] (λk o p=>oa);intro i j;constructor
 .intro a;obtain⟨k,b⟩:=c.1 i j a;cases k with
  |zero=>exact b.2
  |succ k=>obtain⟨_,_,⟨s,l,_⟩,_⟩:=b;simp at l
 rintro rfl;obtain⟨m,n,b,f,g⟩:=c.2 0 r i i oa ⟨e,rfl⟩;obtain rfl:n=0:=by omega
 obtain⟨_,rfl⟩:=g;exact f
theorem xe.then {R R':Nat->Nat->Prop}{r:Nat}{S:List Stp}{a n:Nat×List Stp}(h:xe lf ah R' r S a)(g:xe lf ah R a.1 a.2 n):xe lf ah (λi j=>∃m,R i m/\R' m j) r S n:=by have q:=h.le;have p:=g.le;refine⟨oa,λk d=>(g.old k oa).trans (h.old k d),?_,?_,?_⟩;rcases g.at' with⟨b,c⟩|⟨b,c⟩;rcases h.at' with⟨e,o⟩|⟨e,o⟩;exact Q ⟨b.trans e,oa⟩;exact O ⟨oa,oa⟩;exact O ⟨oa,oa⟩;intro k s d l;by_cases t:k<a.2.length;have:=h.fit k s d ((g.old k t).symm.trans l);omega;exact g.fit k s oa l;intro N f;exact(g.right N (λk b c=>f k oa c)).then (h.right N (λk b c=>(f k b oa).trans (g.old k oa))) q p
theorem zaG (S:List Stp)(s:Stp):(S++[s])[S.length]?=I s:=ov
theorem ZM (S:List Stp)(s:Stp){k:Nat}(h:k<S.length):(S++[s])[k]?=S[k]?:=zgW h
theorem JX {S:List Stp}{x s:Stp}{k:Nat}(h:(S++[x])[k]?=I s):(k<S.length/\S[k]?=I s)\/(k=S.length/\s=x):=by grind
theorem xe.leaf (T:Tree){r:Nat}{S:List Stp}(f:r<S.length):xe lf ah (λi j=>lf T i/\j=i+1) r S (S.length,S++[taker T r]):=by refine⟨ov,λk a=>ZM S _ a,O ⟨zgH _,ov⟩,λk s a c=>?_,λN b=>?_⟩;rcases JX c with⟨d,_⟩|⟨_,rfl⟩;omega;simp[taker];omega;have e:=b S.length (zgH _) ov;rw[zaG] at e;simpa using xJ.taker (lf:=lf) (ah:=ah) e
theorem xe.asr (a:Int){r:Nat}{S:List Stp}(g:r<S.length):xe lf ah (λi j=>i=j/\ah a i) r S (S.length,S++[tester a r]):=by refine⟨ov,λk b=>ZM S _ b,O ⟨zgH _,ov⟩,λk s b d=>?_,λN c=>?_⟩;rcases JX d with⟨f,_⟩|⟨_,rfl⟩;omega;simp[tester];omega;have e:=c S.length (zgH _) ov;rw[zaG] at e;simpa using xJ.tester (lf:=lf) (ah:=ah) e
theorem xe.either {R R':Nat->Nat->Prop}{r:Nat}{S:List Stp}{a b:Nat×List Stp}(h:xe lf ah R r S a)(g:xe lf ah R' r a.2 b)(p:r<S.length):xe lf ah (λi j=>R i j\/R' i j) r S (b.2.length,b.2++[zA a.1 b.1]):=by
 have m:=h.le;have l:=g.le;have u:=h.lt p;have t:=g.lt oa;refine⟨by simp;omega,λk e=>(ZM _ _ oa).trans ((g.old k oa).trans (h.old k e)),O ⟨by simp only[];omega,ov⟩,λk s e q=>?_,λN n=>?_⟩;rw[zgK,zg7];rcases JX q with⟨d,c⟩|⟨_,rfl⟩;by_cases o:k<a.2.length;have:=h.fit k s e ((g.old k o).symm.trans c);omega;have:=g.fit k s oa c;omega;simp only[zA];omega;have f:(b.2++[zA a.1 b.1]).length=b.2.length+1:=by simp
 rw[f];refine xJ.either (h.right N (λk d c=>?_)) (g.right N (λk d c=>?_)) ?_ m l;exact(n k d (by rw[f];omega)).trans ((ZM _ _ oa).trans (g.old k c))
 grind
 grind
theorem xe.maybe {R f:Nat->Nat->Prop}{r:Nat}{S:List Stp}{a b:Nat×List Stp}(h:xe lf ah f r S a)(g:xe lf ah R a.1 a.2 b)(t:r<S.length):xe lf ah (λi j=>i=j\/∃m,R i m/\f m j) r S (b.2.length,b.2++[zA b.1 r]):=by
 have o:=h.le;have n:=g.le;have v:=g.lt (h.lt t);refine⟨by simp;omega,λk e=>(ZM _ _ oa).trans ((g.old k oa).trans (h.old k e)),O ⟨by simp only[];omega,ov⟩,λk s e u=>?_,λN p=>?_⟩;rw[zgK,zg7];rcases JX u with⟨d,c⟩|⟨_,rfl⟩;by_cases q:k<a.2.length;have:=h.fit k s e ((g.old k q).symm.trans c);omega;have:=g.fit k s oa c;omega;simp only[zA];omega;have l:(b.2++[zA b.1 r]).length=b.2.length+1:=by simp
 rw[l];refine xJ.maybe (h.right N (λk d c=>?_)) (g.right N (λk d c=>?_)) ?_ o n;exact(p k d (by rw[l];omega)).trans ((ZM _ _ oa).trans (g.old k c))
 grind
 grind
end Sm
namespace Sm
variable {lf:Tree->Nat->Prop} {ah:Int->Nat->Prop}
def BOK (lf:Tree->Nat->Prop)(ah:Int->Nat->Prop)(B:Tree->Nat->List Stp->Nat×List Stp)(X:Tree->Nat->Nat->Prop)(t:Tree):Prop:=∀r S,r<S.length->xe lf ah (X t) r S (B t r S)
section
variable {B:Tree->Nat->List Stp->Nat×List Stp} {X:Tree->Nat->Nat->Prop}
theorem Xz {r:Nat}{S:List Stp}(d:r<S.length):∀(b:List Tree) (R:Nat->Nat->Prop) (a:Nat×List Stp),(∀t∈b,BOK lf ah B X t)->xe lf ah R r S a->xe lf ah (λi j=>R i j\/∃t∈b,X t i j) r S (xg B r b a.1 a.2)
 | [],R,a,_,h=>h.congr ov
 |t :: b,R,a,c,h=>by
  have l:=h.le;have g:=c t ov r a.2 oa;have e:=h.either g d;have k:=Xz d b _ _ (λu f=>c u (by simp[f])) e;refine k.congr (λi j=>?_);simp only[zhh,exists_eq_or_imp,or_assoc]
theorem vL (X:Tree->Nat->Nat->Prop):∀(l r:List Tree) (i j:Nat),kN X (l++r) i j↔∃m,kN X l i m/\kN X r m j
 | [],r,i,j=>by simp[kN]
 |t :: l,r,i,j=>by
  simp only[zhf,kN];constructor;rintro⟨m,a,d⟩;obtain⟨m',b,c⟩:=(vL X l r m j).1 d;exact⟨m',⟨m,a,b⟩,c⟩;rintro⟨m',⟨m,a,b⟩,c⟩;exact⟨m,a,(vL X l r m j).2 ⟨m',b,c⟩⟩
theorem Kb {r:Nat}{S:List Stp}(l:r<S.length):∀(b:List Tree) (R:Nat->Nat->Prop) (a:Nat×List Stp),(∀t∈b,BOK lf ah B X t)->xe lf ah R r S a->xe lf ah (λi j=>∃m,kN X b.reverse i m/\R m j) r S (wJ B b a.1 a.2)
 | [],R,a,_,h=>h.congr (by simp[kN])
 |t :: b,R,a,f,h=>by
  have g:=f t ov a.1 a.2 (h.lt l);have k:=Kb l b _ _ (λu q=>f u (by simp[q])) (h.then g);refine k.congr (λi j=>?_);rw[List.reverse_cons];constructor;rintro⟨m,c,e,n,d⟩;exact⟨e,(vL X _ _ _ _).2 ⟨m,c,e,n,rfl⟩,d⟩;rintro⟨e,c,d⟩;obtain⟨m,o,s,p,rfl⟩:=(vL X _ _ _ _).1 c;exact⟨m,o,s,p,d⟩
def upto (R:Nat->Nat->Prop)(k i j:Nat):Prop:=∃l,l<=k/\pow R l i j
theorem ze1 (R:Nat->Nat->Prop)(i j:Nat):upto R 0 i j↔i=j:=by
 constructor
 .rintro⟨l,a,h⟩;obtain rfl:l=0:=by omega
  exact h
 intro h;exact⟨0,zgH _,h⟩
theorem ze2 (R:Nat->Nat->Prop)(k i j:Nat):upto R (k+1) i j↔i=j\/∃m,R i m/\upto R k m j:=by
 constructor
 .rintro⟨l,c,h⟩;cases l with
  |zero=>exact Q h
  |succ l=>
   obtain⟨m,a,b⟩:=h;exact O ⟨m,a,l,oa,b⟩
 rintro(h|⟨m,a,l,c,b⟩);exact⟨0,oa,h⟩;exact⟨l+1,oa,m,a,b⟩
theorem Kc {t:Tree}{r:Nat}{S:List Stp}(b:r<S.length)(c:BOK lf ah B X t):∀(k l:Nat) (a:Nat×List Stp),xe lf ah (upto (X t) l) r S a->xe lf ah (upto (X t) (l+k)) r S (vt B t r k a.1 a.2)
 |0,l,a,h=>h
 |k+1,l,a,h=>by
  have g:=c a.1 a.2 (h.lt b);have e:=(h.maybe g b).congr (λi j=>(ze2 (X t) l i j).symm);have:=Kc b c k (l+1) _ e;rwa [show l+1+k=l+(k+1) by omega] at this
theorem WJ {R:Nat->Nat->Prop}(h:∀i j,R i j↔i=j):∀(k i j:Nat),pow R k i j↔i=j
 |0,i,j=>Iff.rfl
 |k+1,i,j=>by
  simp only[pow];constructor;rintro⟨m,a,b⟩;exact((h i m).1 a).trans ((WJ h k m j).1 b);rintro rfl;exact⟨i,(h i i).2 rfl,(WJ h k i i).2 rfl⟩
theorem ZN {t:Tree}{r:Nat}{S:List Stp}(l:r<S.length)(n:BOK lf ah B X t):∀(k:Nat) (R:Nat->Nat->Prop) (a:Nat×List Stp),xe lf ah R r S a->xe lf ah (λi j=>∃m,pow (X t) k i m/\R m j) r S (yM B t k a.1 a.2)
 |0,R,a,h=>h.congr (by simp[pow])
 |k+1,R,a,h=>by
  have g:=n a.1 a.2 (h.lt l);have s:=h.then g;unfold yM;by_cases e:(B t a.1 a.2).1=a.1;rw[IN e];have hid:=g.same (h.lt l) e;refine s.congr (λi j=>?_);constructor;rintro⟨m,b,c⟩;exact⟨m,(WJ hid (k+1) i m).2 ((hid i m).1 b),c⟩;rintro⟨m,b,c⟩;exact⟨m,(hid i m).2 ((WJ hid (k+1) i m).1 b),c⟩;rw[iN e];refine(ZN l n k _ _ s).congr (λi j=>?_);constructor;rintro⟨m,b,d,c,f⟩;exact⟨d,(jx (X t) k 1 i d).2 ⟨m,b,d,c,rfl⟩,f⟩;rintro⟨d,b,f⟩;obtain⟨m,o,q,p,rfl⟩:=(jx (X t) k 1 i d).1 b;exact⟨m,o,q,p,f⟩
theorem zaH {t:Tree}{r:Nat}{S:List Stp}(hn:r<S.length)(hB:BOK lf ah B X t):xe lf ah (λi j=>∃k,pow (X t) k i j) r S (S.length,(xR B t r S).2)/\xe lf ah (λi j=>∃k,pow (X t) (k+1) i j) r S (xR B t r S):=by
 have d:(S++[zA 0 r]).length=S.length+1:=ov;have g:=hB S.length (S++[zA 0 r]) (by rw[d];omega);have T:=g.lt (by rw[d];omega);unfold xR;generalize hr:B t S.length (S++[zA 0 r])=a at g T;have P:=g.le;rw[d] at P;have f:(a.2.set S.length (zA a.1 r)).length=a.2.length:=zhw;have L:(a.2.set S.length (zA a.1 r))[S.length]?=I (zA a.1 r):=zh7 oa;have p:∀k,k≠S.length->(a.2.set S.length (zA a.1 r))[k]?=a.2[k]?:=λk c=>zhP (λe=>c e.symm);have y:∀k,k<S.length->(a.2.set S.length (zA a.1 r))[k]?=S[k]?:=λk c=>(p k oa).trans ((g.old k (by rw[d];omega)).trans (ZM S _ c));have w:∀k s,S.length<=k->(a.2.set S.length (zA a.1 r))[k]?=I s->s.next<a.2.length/\s.other<a.2.length:=λk s c h=>by by_cases e:k=S.length;subst e;obtain rfl:=zg0 (L.symm.trans h);simp only[zA];omega;exact g.fit k s (by rw[d];omega) ((p k e).symm.trans h)
 have v:∀N:List Stp,(∀k,S.length<=k->k<a.2.length->N[k]?=(a.2.set S.length (zA a.1 r))[k]?)->xJ lf ah (X t) a.1 S.length (S.length+1) a.2.length N:=λN b=>by have:=g.right N (λk n o=>by rw[d] at n;exact(b k oa o).trans (p k oa));rwa [d] at this
 have x:∀N:List Stp,(∀k,S.length<=k->k<a.2.length->N[k]?=(a.2.set S.length (zA a.1 r))[k]?)->xJ lf ah (λi j=>∃k,pow (X t) k i j) S.length r S.length a.2.length N:=λN b=>
  (v N b).again ((b S.length (zgH _) oa).trans L) oa
 refine⟨⟨by simp only[f];omega,y,O ⟨zgH _,by simp only[f];omega⟩,λk s c h=>by simp only[f];exact w k s c h,λN b=>?_⟩,⟨by simp only[f];omega,y,O ?_,λk s c h=>by simp only[f];exact w k s c h,λN b=>?_⟩⟩;simp only[f] at b ⊢;exact x N b;simp only[f];rcases g.at' with⟨n,_⟩|⟨n,o⟩;exact⟨oa,oa⟩;rw[d] at n;exact⟨oa,oa⟩;simp only[f] at b ⊢;have u:=v N b;have z:=x N b;refine⟨?_,?_⟩;rintro i j ⟨k,m,W,h2⟩;exact(u.1 i m W).trans (z.1 m j ⟨k,h2⟩);intro k q i j F ae;obtain⟨m,k1,n,r1,ac⟩:=u.2 k q i j (λe=>F ⟨oa,oa⟩) ae;obtain⟨m',k2,o,⟨l,r2⟩,ad⟩:=z.2 k1 q m j F ac;exact⟨m',k2,oa,⟨l,m,r1,r2⟩,ad⟩
end
theorem Zt:∀(f:Nat) (T:Tree),WF f T->BOK lf ah (bld f) (M lf ah f) T
 |0,T,h=>h.elim
 |f+1,T,h=>by
  obtain⟨w,B,F⟩:=h;intro r S c;unfold bld;by_cases b:T.kind=0;simp only[IN b];exact(xe.asr T.a c).congr (λi j=>by simp only[M,IN b]);by_cases a:T.kind=5
  .simp only[iN b,IN a];have q:=B (Q a);cases hT:T.kids with
   |nil=>exact absurd hT (w a)
   |cons t X=>
    rw[hT] at q;refine(Xz c X (M lf ah f t) (bld f t r S) (λu x=>Zt f u (q u (by simp[x]))) (Zt f t (q t ov) r S c)).congr (λi j=>?_);simp[M,a,hT]
  by_cases d:T.kind=6;simp only[iN b,iN a,IN d];have q:=B (O d);refine(Kb c T.kids.reverse (λi j=>i=j) (r,S) (λu x=>Zt f u (q u (List.mem_reverse.1 x))) (xe.empty r S)).congr (λi j=>?_);rw[List.reverse_reverse];simp[M,d];by_cases g:T.kind=7;simp only[iN b,iN a,iN d,IN g];obtain⟨N,ha,L⟩:=F g;have s:=Zt f T.kid N;by_cases n:T.b = -1;simp only[IN n];obtain⟨P,W⟩:=zaH c s;by_cases y:T.a=0;simp only[IN y];refine P.congr (λi j=>?_);simp only[M,iN b,iN a,iN d,IN g];constructor;rintro⟨k,h⟩;exact⟨k,oa,Q n,h⟩;rintro⟨k,_,_,h⟩;exact⟨k,h⟩;simp only[iN y];refine(ZN c s _ _ _ W).congr (λi j=>?_);simp only[M,iN b,iN a,iN d,IN g];constructor;rintro⟨m,p,k,e⟩;exact⟨(T.a-1).toNat+(k+1),oa,Q n,(jx _ _ _ _ _).2 ⟨m,p,e⟩⟩;rintro⟨k,p,_,e⟩;obtain⟨m,z,v⟩:=(jx _ (T.a-1).toNat (k-T.a.toNat+1) i j).1 (by rwa [show(T.a-1).toNat+(k-T.a.toNat+1)=k by omega]);exact⟨m,z,_,v⟩;simp only[iN n];have ab:T.a<=T.b:=(by rcases L with h|h;exact absurd h n;exact h);have o:=Kc c s (T.b-T.a).toNat 0 (r,S) ((xe.empty r S).congr (λi j=>(ze1 _ i j).symm));refine(ZN c s _ _ _ o).congr (λi j=>?_);simp only[M,iN b,iN a,iN d,IN g];constructor;rintro⟨m,p,l,hl,e⟩;exact⟨T.a.toNat+l,oa,O oa,(jx _ _ _ _ _).2 ⟨m,p,e⟩⟩;rintro⟨k,p,e,z⟩;have e:(k:Int)<=T.b:=(by rcases e with h|h;exact absurd h n;exact h);obtain⟨m,v,w⟩:=(jx _ T.a.toNat (k-T.a.toNat) i j).1 (by rwa [show T.a.toNat+(k-T.a.toNat)=k by omega]);exact⟨m,v,_,oa,w⟩;simp only[iN b,iN a,iN d,iN g];exact(xe.leaf T c).congr (λi j=>by simp only[M,iN b,iN a,iN d,iN g])
def prg (f:Nat)(T:Tree):Nat×List Stp:=bld f T 0 [j8]
theorem ze3 {f:Nat}{T:Tree}(h:WF f T)(i j:Nat):Goes lf ah (prg f T).2 (prg f T).1 i 0 j↔M lf ah f T i j:=by
 have b:=Zt (lf:=lf) (ah:=ah) f T h 0 [j8] ov;have r:=b.right (bld f T 0 [j8]).2 (λk _ _=>rfl);constructor
 .rintro⟨k,g⟩;obtain⟨m,c,_,d,a⟩:=r.2 k 0 i j ov g;cases c with
  |zero=>obtain⟨_,rfl⟩:=a;exact d
  |succ c=>
   obtain⟨p,o,⟨s,n,l⟩,_⟩:=a;have e:(bld f T 0 [j8]).2[0]?=I j8:=(b.old 0 ov).trans rfl;obtain rfl:=zg0 (e.symm.trans n);simp[j8] at l
 exact r.1 i j
end Sm
namespace Sm
variable {lf:Tree->Nat->Prop} {ah:Int->Nat->Prop}
theorem one_le {N:List Stp}{p i q j:Nat}(h:one lf ah N p i q j):i<=j/\j<=i+1:=by obtain⟨s,_,⟨_,_,_,rfl⟩|⟨_,_,_,rfl⟩|⟨_,_,rfl⟩⟩:=h<;>omega
theorem Run.le {N:List Stp}:∀{k p i q j:Nat},Run lf ah N k p i q j->i<=j
 |0,_,_,_,_,h=>by rw[h.2];exact zgH _
 |_+1,_,_,_,_,⟨_,_,a,b⟩=>zgN (one_le a).1 b.le
theorem Goes.le {N:List Stp}{p i q j:Nat}:Goes lf ah N p i q j->i<=j
 |⟨_,h⟩=>h.le
variable (lf) in
def tkr (N:List Stp)(a i b:Nat):Prop:=∃s,N[a]?=I s/\s.kind=1/\lf s.leaf i/\b=s.next
variable (ah) in
def eps (N:List Stp)(a i b:Nat):Prop:=∃s,N[a]?=I s/\((s.kind=2/\ah s.asr i/\b=s.next)\/(s.kind=3/\(b=s.next\/b=s.other)))
theorem WK {N:List Stp}{p i q j:Nat}:one lf ah N p i q j↔(tkr lf N p i q/\j=i+1)\/(eps ah N p i q/\j=i):=by constructor;rintro⟨s,d,⟨a,b,e,c⟩|⟨a,b,e,c⟩|⟨a,b,c⟩⟩;exact Q ⟨⟨s,d,a,b,e⟩,c⟩;exact O ⟨⟨s,d,Q ⟨a,b,e⟩⟩,c⟩;exact O ⟨⟨s,d,O ⟨a,b⟩⟩,c⟩;rintro(⟨⟨s,d,a,b,e⟩,c⟩|⟨⟨s,d,⟨a,b,e⟩|⟨a,b⟩⟩,c⟩);exact⟨s,d,Q ⟨a,b,e,c⟩⟩;exact⟨s,d,O (Q ⟨a,b,e,c⟩)⟩;exact⟨s,d,O (O ⟨a,b,c⟩)⟩
theorem VG {N:List Stp}:∀{k p i q at':Nat},Run lf ah N k p i q (at'+1)->i<=at'->∃a b,Goes lf ah N p i a at'/\tkr lf N a at' b/\Goes lf ah N b (at'+1) q (at'+1)
 |0,_,_,_,_,h,l=>by have:=h.2;omega
 |k+1,p,i,q,at',⟨r,o,c,d⟩,l=>by
  by_cases m:o<=at';obtain⟨a,b,f,g,j⟩:=VG d m;exact⟨a,b,Goes.head c f,g,j⟩;rcases WK.1 c with⟨n,e⟩|⟨_,e⟩;obtain rfl:i=at':=oa;subst e;exact⟨p,r,Goes.refl _ _ _,n,k,d⟩;omega
theorem VH {N:List Stp}{s i q at':Nat}(f:i<=at'):Goes lf ah N s i q (at'+1)↔∃a b,Goes lf ah N s i a at'/\tkr lf N a at' b/\Goes lf ah N b (at'+1) q (at'+1):=by constructor;rintro⟨k,h⟩;exact VG h f;rintro⟨a,b,c,d,e⟩;exact c.trans (Goes.head (WK.2 (Q ⟨d,rfl⟩)) e)
theorem zaI {N:List Stp}{i:Nat}{d rs:List Nat}(f:∀p∈d,p∈rs)(g:∀q∈rs,∃p∈d,Goes lf ah N p i q i)(m:∀a∈rs,∀b,eps ah N a i b->b∈rs)(q:Nat):q∈rs↔∃p∈d,Goes lf ah N p i q i:=by
 refine⟨g q,?_⟩;rintro⟨p,c,k,j⟩;replace c:=f p c;clear f g
 induction k generalizing p with
 |zero=>rw[<-j.1];exact c
 |succ k r=>
  obtain⟨l,s,n,h⟩:=j;rcases WK.1 n with⟨_,e⟩|⟨o,e⟩;have:=h.le;omega;subst e;exact r l h (m p c l o)
end Sm
end
