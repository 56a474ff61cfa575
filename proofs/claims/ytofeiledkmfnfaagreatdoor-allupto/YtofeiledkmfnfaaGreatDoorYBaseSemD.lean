/- Worlds that differ in named blocks alone, and a lexer's four cells. -/
import Derived.WalkKit
import Derived.WalkSpells
import Derived.WalkLawsBesides
import Derived.Deep.QuietTactic
import Derived.BigQuiet
import Derived.Deep.RegionWith
import Derived.Test.YtofeiledkmfnfaaGreatDoorProg
import Derived.Lib.Strings
import Derived.Lib.IndexBytes
import Derived.Deep.DeepCutAuto
namespace Go.Proofs.YtofeiledkmfnfaaGreatDoor
open World renaming heap->A,cell?->d,cell?->dx,frozen?->dz,frozen?->g,ownsRow->dA,alloc->dB,setCell->dC
open _root_.Array renaming size->dg,size->y
open Value renaming ownBlock->dH
open _root_.ByteArray renaming size->dJ,size->q
open Option renaming none->U,some->I
open Value renaming int->M,slice->K,bool->C,pointer->Ua,string->Uc,tuple->Ue,agg->Uf
open IntKind renaming i64->J
open Bool renaming false->Z,true->G
open _root_.Go.Proofs.Tryz renaming prog->V
open Go renaming World->E,Value->Y,Calls->Uh
open Go.RowKit renaming Hid->H
open Or renaming inr->O,inl->Q
open Obj renaming cells->Ub
open And renaming intro->Ur
open List renaming length->D
set_option maxHeartbeats 1600000
set_option maxRecDepth 100000
theorem Ae {p:Prop}(h:p:=by go_num):p:=h
theorem Ad {p:Prop}(h:p:=by simp[intOf];omega):p:=h
theorem Ac {p:Prop}(h:p:=by unfold maxLen;omega):p:=h
abbrev Ai:=List (Int×Int)
abbrev Aj:=Nat->Prop
abbrev Ak:=Nat->Nat
abbrev Al:=ByteArray
abbrev Am:=Int->Bool
abbrev An:=List Value
abbrev Ao:=List Nat
abbrev Ap:=Option Addr
abbrev Ar:=List Int
abbrev Ay:=List Bool
theorem oa {p:Prop}(h:p:=by omega):p:=h
theorem od {p:Prop}(h:p:=by decide):p:=h
theorem om {p:Prop}(h:p:=by kernel_rfl):p:=h
theorem ou {p:Prop}(h:p:=by (simp;omega)):p:=h
theorem ov {p:Prop}(h:p:=by simp):p:=h
theorem ox {p:Prop}(h:p:=by assumption):p:=h
theorem iN {c:Prop}{h:Decidable c}(k:¬c){α:Sort _}{x y:α}:ite c x y=y:=if_neg k
theorem IN {c:Prop}{h:Decidable c}(k:c){α:Sort _}{x y:α}:ite c x y=x:=if_pos k
abbrev AE:=@List.getElem?_eq_getElem
abbrev zic:=@World.block_lt_of_cell?
abbrev AK:=@List.getElem?_eq_some_iff
abbrev AN:=@World.cell?_setCell_other
abbrev AD:=@Nat.le_refl
abbrev AM:=@Nat.lt_of_lt_of_le
abbrev AO:=@List.length_append
abbrev AX:=@World.cell?_setCell_same
abbrev A1:=@Array.getElem?_eq_some_iff
abbrev AP:=@Nat.le_trans
abbrev AZ:=@World.ownsRow.alloc
abbrev A0:=@World.ownsRow_nil
abbrev A5:=@List.mem_singleton
abbrev Bg:=@List.mem_of_getElem?
abbrev A8:=@List.mem_cons_self
abbrev Bm:=@List.mem_cons_of_mem
abbrev BG:=@List.getElem?_append_left
abbrev Bo:=@List.getElem?_map
abbrev A7:=@List.mem_append
abbrev Bu:=@List.append_assoc
abbrev B9:=@List.getElem?_append_right
abbrev B7:=@List.getD_eq_getElem?_getD
abbrev Cb:=@List.eq_nil_of_length_eq_zero
abbrev Bs:=@Nat.not_lt_zero
abbrev Bz:=@Option.some.inj
abbrev BH:=@List.length_cons
abbrev BO:=@List.getElem_mem
abbrev ziD:=@List.setIfInBounds_toArray
abbrev Ce:=@List.length_singleton
abbrev Cj:=@Option.map_eq_some_iff
abbrev Bv:=@Nat.zero_add
abbrev BW:=@List.append_nil
abbrev BD:=@Nat.add_zero
abbrev B8:=@Bool.and_eq_true
abbrev ziK:=@List.getElem_cons_zero
abbrev ziL:=@List.getElem_cons_succ
abbrev ziM:=@List.getElem_toArray
abbrev CP:=@List.getElem?_replicate
abbrev CI:=@World.frozen?_setCell
abbrev ziP:=@List.set_cons_succ
abbrev Cv:=@List.pairwise_cons
abbrev BZ:=@List.mem_cons
abbrev Cd:=@List.nil_append
abbrev Cc:=@List.length_nil
abbrev Ci:=@List.cons_append
abbrev Cu:=@List.size_toArray
abbrev ziW:=@List.set_cons_zero
abbrev CH:=@Int.toNat_natCast
abbrev CV:=@World.cell?_alloc_lt
abbrev Ct:=@List.length_set
abbrev FY:=@List.take_of_length_le
abbrev Cf:=@List.mem_map
abbrev FX:=@World.cell?_of_block
abbrev FW:=@List.getElem?_set_ne
abbrev Lr:=@Int.mul_le_mul_of_nonneg_right
abbrev FK:=@List.take_add_one
abbrev CQ:=@Int.mul_nonneg
abbrev Hh:=@List.getElem?_eq_none
abbrev CX:=@List.map_append
abbrev CW:=@List.length_map
abbrev FS:=@Nat.lt_or_eq_of_le
abbrev Hf:=@List.getElem?_drop
abbrev Ir:=@List.getElem?_cons_zero
abbrev FI:=@List.length_take
abbrev He:=@Array.replicate_zero
abbrev G9:=@Array.replicate_succ
abbrev Iq:=@List.getElem?_set_self
abbrev zjh:=@World.ownsRow.cells
abbrev G8:=@List.append_toArray
abbrev FH:=@Int.natCast_add
abbrev FG:=@Bool.or_eq_true
abbrev FE:=@Bool.eq_iff_iff
abbrev Lk:=@List.pairwise_iff_getElem
abbrev Ip:=@List.length_replicate
abbrev FR:=@List.take_length
abbrev FQ:=@List.length_drop
abbrev Lj:=@Array.getElem?_push_size
abbrev Io:=@List.pairwise_append
abbrev G7:=@List.push_toArray
abbrev G6:=@Bool.eq_false_iff
abbrev Im:=@List.mem_map_of_mem
abbrev CU:=@Nat.sub_self
abbrev Li:=@List.mem_iff_getElem?
abbrev Il:=@Nat.le_of_lt_succ
abbrev Ik:=@List.mem_range
abbrev G5:=@List.drop_drop
abbrev Iu:=@World.size_alloc
abbrev FJ:=@Nat.mul_one
abbrev FV:=@Nat.zero_mul
abbrev FU:=@Nat.lt_or_ge
abbrev It:=@Int.natCast_one
abbrev Lp:=@List.flatMap_cons
abbrev LC:=@List.mem_append_left
abbrev MG:=@List.drop_eq_getElem_cons
abbrev FT:=@Nat.zero_le
abbrev Lo:=@List.mem_flatMap
abbrev MF:=@List.getElem?_take_of_lt
abbrev ME:=@World.frozen?_alloc_old
abbrev Ln:=@Int.natCast_mul
abbrev MD:=@World.frozen?_of_block
abbrev LA:=@World.drewN_drewN
abbrev Lz:=@List.length_range
abbrev Ly:=@Bool.not_eq_true'
abbrev MC:=@List.set_append_right
abbrev MB:=@List.getElem?_toArray
abbrev M1:=@Array.getElem?_modify
abbrev Lx:=@Bool.not_eq_true
abbrev MA:=@World.cell?_alloc_at
abbrev Mz:=@Nat.div_lt_of_lt_mul
abbrev Lm:=@Nat.add_assoc
abbrev Ll:=@List.sum_cons
abbrev Is:=@Nat.le_succ
abbrev Iv:=@Int.le_refl
abbrev ML:=@List.getElem_of_mem
abbrev M3:=@List.mem_or_eq_of_mem_set
abbrev Lq:=@Nat.succ_mul
abbrev MK:=@Nat.eq_zero_or_pos
abbrev MJ:=@List.prefix_append
abbrev MI:=@List.getElem?_take
abbrev MH:=@Int.emod_lt_of_pos
abbrev M2:=@List.drop_of_length_le
abbrev LD:=@Bool.or_false
abbrev M0:=@List.mem_append_right
abbrev MZ:=@Array.getElem?_toList
theorem AL {P:Program}{f:FuncId}{a:Array Y}{w:E}{v:Ending}{Q:Ending->E->Prop}(h:Uh P f a w λx w'=>x=v/\w'=w)(k:Q v w):Uh P f a w Q:=h.mono (by rintro _ _ ⟨rfl,rfl⟩;exact k)
open _root_.Go.Proofs.Tryz
variable (W w:World)(b:Nat){s:Al}(i:Nat){f p n:Nat}(k:Nat){c e a:Int}{cls:Bool}{w':World}{acc:Ai}
section
open Go.RowKit
theorem zd {p:Prop}(h:p):H p:=h
theorem zb {p:Prop}(h:H p):p:=h
structure zg (P:Aj)(w w':E):Prop where
 os:w'.os=w.os
 tape:w'.tape=w.tape
 output:w'.output=w.output
 size:y (A w)<=y (A w')
 block:∀k,k<y (A w)->¬P k->w'.heap[k]?=w.heap[k]?
abbrev zke:=zg (λ_=>False)
theorem zg.refl (P:Aj)(w:E):zg P w w:=⟨rfl,rfl,rfl,AD _,λ_ _ _=>rfl⟩
theorem zg.trans {P:Aj}{a b c:E}(h:zg P a b)(k:zg P b c):zg P a c:=
 ⟨k.os.trans h.os,k.tape.trans h.tape,k.output.trans h.output,AP h.size k.size,λi d e=>(k.block i (AM d h.size) e).trans (h.block i d e)⟩
theorem zg.mono {P Q:Aj}{a b:E}(h:zg P a b)(d:∀k,k<y (A a)->P k->Q k):zg Q a b:=
 ⟨h.os,h.tape,h.output,h.size,λi c f=>h.block i c (λe=>f (d i c e))⟩
theorem zg.drew {P:Aj}{a w:E}(h:zg P a w):zg P a w.drew:=⟨h.os,h.tape,h.output,h.size,h.block⟩
theorem zg.drewN {P:Aj}{a w:E}(h:zg P a w)(n:Nat):zg P a (w.drewN n):=⟨h.os,h.tape,h.output,h.size,h.block⟩
theorem zg.alloc {P:Aj}{a w:E}(h:zg P a w)(o:Obj):zg P a (w.alloc o):=
 ⟨h.os,h.tape,h.output,AP h.size ov,λk b c=>(Below.heap_alloc _ _ _ (AM b h.size)).trans (h.block k b c)⟩
theorem Ah {P:Nat->Prop}{w:World}{n:Nat}:zg P w (w.drewN n):=(zg.refl _ _).drewN _
theorem Ag {P:Nat->Prop}{w:World}{o:Obj}:zg P w (w.alloc o):=(zg.refl _ _).alloc _
theorem Ab {p:Prop}(h:p:=by (first|exact zg.refl _ _|exact(zg.refl _ _).drew|exact(zg.refl _ _).drewN _)):p:=h
theorem Aa {p:Prop}(h:p:=by repeat (first|exact zg.refl _ _|refine zg.alloc ?_ _|refine zg.drew ?_|refine zg.drewN ?_ _)):p:=h
theorem zg.setCell {P:Aj}{a w:E}(h:zg P a w){p:Addr}(b:P p.block\/y (A a)<=p.block)(u:Y):zg P a (w.setCell p u):=
 ⟨h.os,h.tape,h.output,AP h.size (by simp[World.setCell]),λk d c=>(Below.heap_setCell _ _ _ _ (by
  rintro rfl;obtain b|b:=b;exact c b;omega)).trans (h.block k d c)⟩
theorem zg.grown {P:Aj}{a w w':E}{row:Option Nat}(h:zg P a w)(b:w.grownBy w' row)(g:∀k,row=I k->P k\/y (A a)<=k):zg P a w':=
 ⟨b.os.trans h.os,b.tape.trans h.tape,b.output.trans h.output,AP h.size b.size,λk c d=>(b.block k (AM c h.size) (λe=>by
  obtain f|f:=g k e.symm;exact d f;omega)).trans (h.block k c d)⟩
theorem zg.cell {P:Aj}{w w':E}(h:zg P w w'){p:Addr}(b:p.block<y (A w))(a:¬P p.block):d w' p=d w p:=FX (w:=w) (h.block p.block b a)
theorem zg.frozen {P:Aj}{w w':E}(h:zg P w w'){p:Addr}(b:p.block<y (A w))(a:¬P p.block):g w' p=g w p:=MD (w:=w) (h.block p.block b a)
theorem zg.below {w w':E}(h:zke w w'):Below (y (A w)) w w':=⟨h.os,h.tape,h.output,h.size,λk a=>h.block k a id⟩
theorem zg.ON {P:Aj}{w w':E}(h:Below (y (A w)) w w'):zg P w w':=⟨h.os,h.tape,h.output,h.size,λk a _=>h.block k a⟩
structure je (w:E)(b:Nat)(s:Al)(i e at':Int):Prop where
 c0:d w ⟨b,0,U⟩=I (Uc s)
 c1:d w ⟨b,1,U⟩=I (M J i)
 c2:d w ⟨b,2,U⟩=I (M J e)
 c3:d w ⟨b,3,U⟩=I (M J at')
 f1:g w ⟨b,1,U⟩=Z
 f2:g w ⟨b,2,U⟩=Z
 f3:g w ⟨b,3,U⟩=Z
variable {w b}
theorem je.lt {i e a:Int}(h:je w b s i e a):b<y (A w):=zic w ⟨b,0,U⟩ h.c0
theorem je.keep {P:Aj}{w w':E}{b:Nat}{s:Al}{i e a:Int}(h:je w b s i e a)(k:zg P w w')(c:¬P b):je w' b s i e a:=
 ⟨(k.cell (p:=⟨b,0,U⟩) h.lt c).trans h.c0,(k.cell (p:=⟨b,1,U⟩) h.lt c).trans h.c1,(k.cell (p:=⟨b,2,U⟩) h.lt c).trans h.c2,(k.cell (p:=⟨b,3,U⟩) h.lt c).trans h.c3,
  (k.frozen (p:=⟨b,1,U⟩) h.lt c).trans h.f1,(k.frozen (p:=⟨b,2,U⟩) h.lt c).trans h.f2,(k.frozen (p:=⟨b,3,U⟩) h.lt c).trans h.f3⟩
theorem zl (w:E)(a p:Addr)(u:Y):(dC w a u).frozen? p=g w p:=ov
theorem je.NX {i e a:Int}(h:je w b s i e a)(j:Int):je (w.setCell ⟨b,1,U⟩ (M J j)) b s j e a:=
 ⟨(AN _ _ _ _ ov).trans h.c0,AX _ _ _ h.c1,(AN _ _ _ _ ov).trans h.c2,(AN _ _ _ _ ov).trans h.c3,
  (zl _ _ _ _).trans h.f1,(zl _ _ _ _).trans h.f2,(zl _ _ _ _).trans h.f3⟩
theorem je.SA {i e a:Int}(h:je w b s i e a)(j:Int):je (w.setCell ⟨b,2,U⟩ (M J j)) b s i j a:=
 ⟨(AN _ _ _ _ ov).trans h.c0,(AN _ _ _ _ ov).trans h.c1,AX _ _ _ h.c2,(AN _ _ _ _ ov).trans h.c3,
  (zl _ _ _ _).trans h.f1,(zl _ _ _ _).trans h.f2,(zl _ _ _ _).trans h.f3⟩
theorem je.SB {i e a:Int}(h:je w b s i e a)(j:Int):je (w.setCell ⟨b,3,U⟩ (M J j)) b s i e j:=
 ⟨(AN _ _ _ _ ov).trans h.c0,(AN _ _ _ _ ov).trans h.c1,(AN _ _ _ _ ov).trans h.c2,AX _ _ _ h.c3,
  (zl _ _ _ _).trans h.f1,(zl _ _ _ _).trans h.f2,(zl _ _ _ _).trans h.f3⟩
theorem je.drewN {w:E}{b:Nat}{s:Al}{i e a:Int}(h:je w b s i e a)(n:Nat):je (w.drewN n) b s i e a:=
 h.keep ((zg.refl (λ_=>False) w).drewN n) id
def zr (b:Nat)(k:Nat):Prop:=k=b
theorem Af {p:Prop}(h:p:=by unfold zr;omega):p:=h
theorem zg.NS {a w:E}(h:zg (zr b) a w)(off:Nat)(u:Y):zg (zr b) a (w.setCell ⟨b,off,U⟩ u):=h.setCell (p:=⟨b,off,U⟩) (Or.inl (show b=b from rfl)) u
def ze (s:Al)(k:Nat):Int:=if h:k<s.size then(s[k].toNat:Int) else -1
variable (s)
theorem jJ:-1<=ze s k:=by unfold ze;split<;>omega
theorem xk:ze s k<=255:=by unfold ze;split;rename_i h;have:=(s[k]).toNat_lt;omega;omega
theorem yY (h:k<s.size):ze s k=(s[k].toNat:Int):=by unfold ze;rw[dif_pos h]
theorem qE (h:q s<=k):ze s k = -1:=by unfold ze;rw[dif_neg oa]
theorem zw:0<=ze s k↔k<q s:=by constructor;intro h;by_cases a:k<q s;exact a;rw[qE s k oa] at h;omega;intro h;rw[yY s k h];omega
theorem ZP (n:UInt8):wrap64 (n.toNat:Int)=(n.toNat:Int):=by have:=n.toNat_lt;unfold wrap64;omega
structure St where
 i:Nat
 e:Int
 a:Int
def Lex (w:E)(b:Nat)(s:Al)(st:St):Prop:=je w b s st.i st.e st.a
def St.fail (st:St)(b a:Int):St:=if st.e=0 then⟨st.i,b,a⟩ else st
def St.go (st:St)(n:Nat):St:=⟨st.i+n,st.e,st.a⟩
end
section
namespace Sm
structure Tree where
 kind:Nat
 a:Int
 b:Int
 neg:Bool
 rs:Ai
 ss:Ar
 kids:List Tree
abbrev _root_.Go.Proofs.YtofeiledkmfnfaaGreatDoor.Au:=List Tree
def Tree.kid (T:Tree):Tree:=match T.kids with|[]=>T|t :: _=>t
section
variable (R:Nat->Aj)
def pow:Nat->Nat->Aj
 |0,i,j=>i=j
 |k+1,i,j=>∃m,R i m/\pow k m j
end
def vf (X:Tree->Nat->Aj):Au->Nat->Aj
 | [],i,j=>i=j
 |t :: a,i,j=>∃m,X t i m/\vf X a m j
theorem jK (R:Nat->Aj):∀(k l i j:Nat),pow R (k+l) i j↔∃m,pow R k i m/\pow R l m j
 |0,l,i,j=>by simp[pow]
 |k+1,l,i,j=>by
  rw[Nat.add_right_comm];simp only[pow];constructor;rintro⟨m,a,d⟩;have⟨m',b,c⟩:=(jK R k l m j).1 d;exact⟨m',⟨m,a,b⟩,c⟩;rintro⟨m',⟨m,a,b⟩,c⟩;exact⟨m,a,(jK R k l m j).2 ⟨m',b,c⟩⟩
variable (lf:Tree->Aj) (ah:Int->Aj)
def M:Nat->Tree->Nat->Aj
 |0,_,_,_=>False
 |f+1,T,i,j=>
  if T.kind=0 then i=j/\ah T.a i
  else if T.kind=5 then ∃t∈T.kids,M f t i j
  else if T.kind=6 then vf (M f) T.kids i j
  else if T.kind=7 then ∃k:Nat,T.a<=k/\(T.b = -1\/(k:Int)<=T.b)/\pow (M f T.kid) k i j
  else lf T i/\j=i+1
def WF:Nat->Tree->Prop
 |0,_=>False
 |f+1,T=>(T.kind=5->T.kids≠[])/\(T.kind=5\/T.kind=6->∀t∈T.kids,WF f t)/\(T.kind=7->WF f T.kid/\0<=T.a/\(T.b = -1\/T.a<=T.b))
structure Stp where
 kind:Nat
 leaf:Tree
 asr:Int
 next:Nat
 other:Nat
abbrev _root_.Go.Proofs.YtofeiledkmfnfaaGreatDoor.Aq:=List Stp
def Cl:Tree:=⟨1,0,0,Z,[],[],[]⟩
def kI:Stp:=⟨0,Cl,0,0,0⟩
def taker (T:Tree)(h:Nat):Stp:=⟨1,T,0,h,0⟩
def tester (a:Int)(h:Nat):Stp:=⟨2,Cl,a,h,0⟩
def zy (x y:Nat):Stp:=⟨3,Cl,0,x,y⟩
def one (N:Aq)(p i q j:Nat):Prop:=∃s,N[p]?=I s/\((s.kind=1/\lf s.leaf i/\q=s.next/\j=i+1)\/(s.kind=2/\ah s.asr i/\q=s.next/\j=i)\/(s.kind=3/\(q=s.next\/q=s.other)/\j=i))
def UA (N:Aq):Nat->Nat->Nat->Nat->Aj
 |0,p,i,q,j=>p=q/\i=j
 |k+1,p,i,q,j=>∃b a,one lf ah N p i b a/\UA N k b a q j
def Goes (N:Aq)(p i q j:Nat):Prop:=∃k,UA lf ah N k p i q j
variable {lf ah}
theorem UA.trans {N:Aq}:∀{k l p i q j r m:Nat},UA lf ah N k p i q j->UA lf ah N l q j r m->UA lf ah N (k+l) p i r m
 |0,l,p,i,q,j,r,m,h,g=>by
  obtain⟨rfl,rfl⟩:=h;rwa [Bv]
 |k+1,l,p,i,q,j,r,m,h,g=>by
  have⟨d,c,a,b⟩:=h;rw[Nat.add_right_comm];exact⟨d,c,a,UA.trans b g⟩
theorem Goes.refl (N:Aq)(p i:Nat):Goes lf ah N p i p i:=⟨0,rfl,rfl⟩
theorem Goes.trans {N:Aq}{p i q j r m:Nat}:Goes lf ah N p i q j->Goes lf ah N q j r m->Goes lf ah N p i r m
 |⟨k,h⟩,⟨l,g⟩=>⟨k+l,h.trans g⟩
theorem Goes.one {N:Aq}{p i q j:Nat}(h:one lf ah N p i q j):Goes lf ah N p i q j:=⟨1,q,j,h,rfl,rfl⟩
theorem Goes.head {N:Aq}{p i b a q j:Nat}(h:Sm.one lf ah N p i b a)(g:Goes lf ah N b a q j):Goes lf ah N p i q j:=(Goes.one h).trans g
variable (lf ah)
def xN (R:Nat->Aj)(b h d c:Nat)(N:Aq):Prop:=
 (∀i j,R i j->Goes lf ah N b i h j)/\∀k q i j,¬(d<=q/\q<c)->UA lf ah N k b i q j->∃m a,a<=k/\R i m/\UA lf ah N a h m q j
variable {lf ah}
theorem xN.empty (h b:Nat)(N:Aq):xN lf ah (λi j=>i=j) h h b b N:=
 ⟨λi j e=>by cases e;exact Goes.refl _ _ _,λk _ i _ _ a=>⟨i,k,AD _,rfl,a⟩⟩
theorem xN.congr {R c:Nat->Aj}{b h f d:Nat}{N:Aq}(a:xN lf ah R b h f d N)(e:∀i j,R i j↔c i j):xN lf ah c b h f d N:=
 ⟨λi j r=>a.1 i j ((e i j).2 r),λk q i j o p=>by
  have⟨m,s,g,l,n⟩:=a.2 k q i j o p;exact⟨m,s,g,(e i m).1 l,n⟩⟩
theorem xN.then {R o:Nat->Aj}{b c h l d f:Nat}{N:Aq}(a:xN lf ah R b c d f N)(g:xN lf ah o c h l d N)(B:l<=d)(F:d<=f):xN lf ah (λi j=>∃m,R i m/\o m j) b h l f N:=by refine⟨?_,?_⟩;rintro i j ⟨m,r,n⟩;exact(a.1 i m r).trans (g.1 m j n);intro k q i j p s;have⟨m,v,y,r,t⟩:=a.2 k q i j (λe=>p ⟨oa,oa⟩) s;have⟨x,w,z,n,u⟩:=g.2 v q m j (λe=>p ⟨oa,oa⟩) t;exact⟨x,w,oa,⟨m,r,n⟩,u⟩
theorem xN.taker {N:Aq}{p h:Nat}{T:Tree}(a:N[p]?=I (taker T h)):xN lf ah (λi j=>lf T i/\j=i+1) p h p (p+1) N:=by
 refine⟨?_,?_⟩;rintro i j ⟨c,rfl⟩;exact Goes.one ⟨_,a,Q ⟨rfl,c,rfl,rfl⟩⟩;intro k q i j f d;cases k with
 |zero=>obtain⟨rfl,rfl⟩:=d;exact absurd ⟨AD _,Nat.lt_succ_self _⟩ f
 |succ k=>
  have⟨n,m,⟨s,l,e⟩,g⟩:=d;obtain rfl:=Bz (a.symm.trans l);obtain⟨_,c,rfl,rfl⟩|⟨b,_⟩|⟨b,_⟩:=e;exact⟨_,k,Is _,⟨c,rfl⟩,g⟩;exact absurd b (by simp[Sm.taker]);exact absurd b (by simp[Sm.taker])
theorem xN.tester {N:Aq}{p h:Nat}{a:Int}(b:N[p]?=I (tester a h)):xN lf ah (λi j=>i=j/\ah a i) p h p (p+1) N:=by
 refine⟨?_,?_⟩;rintro i j ⟨rfl,d⟩;exact Goes.one ⟨_,b,O (Q ⟨rfl,d,rfl,rfl⟩)⟩;intro k q i j g e;cases k with
 |zero=>obtain⟨rfl,rfl⟩:=e;exact absurd ⟨AD _,Nat.lt_succ_self _⟩ g
 |succ k=>
  have⟨o,n,⟨s,m,f⟩,l⟩:=e;obtain rfl:=Bz (b.symm.trans m);obtain⟨c,_⟩|⟨_,d,rfl,rfl⟩|⟨c,_⟩:=f;exact absurd c (by simp[Sm.tester]);exact⟨_,k,Is _,⟨rfl,d⟩,l⟩;exact absurd c (by simp[Sm.tester])
theorem kJ {N:Aq}{p x y i d e:Nat}(h:N[p]?=I (zy x y)):one lf ah N p i d e↔(d=x\/d=y)/\e=i:=by constructor;rintro⟨s,g,f⟩;obtain rfl:=Bz (h.symm.trans g);obtain⟨a,_⟩|⟨a,_⟩|⟨_,b,c⟩:=f;exact absurd a (by simp[zy]);exact absurd a (by simp[zy]);exact⟨b,c⟩;rintro⟨b,c⟩;exact⟨_,h,O (O ⟨rfl,b,c⟩)⟩
theorem xN.either {R t:Nat->Aj}{b c h s f d:Nat}{N:Aq}(a:xN lf ah R b h s f N)(g:xN lf ah t c h f d N)(l:N[d]?=I (zy b c))(y:s<=f)(z:f<=d):xN lf ah (λi j=>R i j\/t i j) d h s (d+1) N:=by
 refine⟨?_,?_⟩;rintro i j (r|r);exact Goes.head ((kJ l).2 ⟨Q rfl,rfl⟩) (a.1 i j r);exact Goes.head ((kJ l).2 ⟨O rfl,rfl⟩) (g.1 i j r);intro k q i j n u;cases k with
 |zero=>obtain⟨rfl,rfl⟩:=u;exact absurd ⟨oa,oa⟩ n
 |succ k=>
  have⟨B,w,x,v⟩:=u;obtain⟨rfl|rfl,rfl⟩:=(kJ l).1 x;have⟨m,p,e,r,o⟩:=a.2 k q w j (λe=>n ⟨oa,oa⟩) v;exact⟨m,p,oa,Q r,o⟩;have⟨m,p,e,r,o⟩:=g.2 k q w j (λe=>n ⟨oa,oa⟩) v;exact⟨m,p,oa,O r,o⟩
theorem xN.maybe {R o:Nat->Aj}{b c h n f d:Nat}{N:Aq}(g:xN lf ah o c h n f N)(a:xN lf ah R b c f d N)(l:N[d]?=I (zy b h))(w:n<=f)(x:f<=d):xN lf ah (λi j=>i=j\/∃m,R i m/\o m j) d h n (d+1) N:=by
 have s:=a.then g w x;refine⟨?_,?_⟩;rintro i j (rfl|r);exact Goes.one ((kJ l).2 ⟨O rfl,rfl⟩);exact Goes.head ((kJ l).2 ⟨Q rfl,rfl⟩) (s.1 i j r);intro k q i j p t;cases k with
 |zero=>obtain⟨rfl,rfl⟩:=t;exact absurd ⟨oa,oa⟩ p
 |succ k=>
  have⟨F,v,y,u⟩:=t;obtain⟨rfl|rfl,rfl⟩:=(kJ l).1 y;have⟨m,B,e,r,z⟩:=s.2 k q v j (λe=>p ⟨oa,oa⟩) u;exact⟨m,B,oa,O r,z⟩;exact⟨v,k,oa,Q rfl,u⟩
theorem xN.again {R:Nat->Aj}{b h c f:Nat}{N:Aq}(a:xN lf ah R b c (c+1) f N)(d:N[c]?=I (zy b h))(P:c<f):xN lf ah (λi j=>∃k,pow R k i j) c h c f N:=by
 refine⟨?_,?_⟩
 .rintro i j ⟨k,r⟩
  induction k generalizing i with
  |zero=>cases r;exact Goes.one ((kJ d).2 ⟨O rfl,rfl⟩)
  |succ k n=>
   have⟨m,B,o⟩:=r;exact Goes.head ((kJ d).2 ⟨Q rfl,rfl⟩) ((a.1 i m B).trans (n m o))
 intro k
 induction k using Nat.strongRecOn with
 |ind k n=>
  intro q i j g p;cases k with
  |zero=>obtain⟨rfl,rfl⟩:=p;exact absurd ⟨oa,oa⟩ g
  |succ k=>
   have⟨S,t,u,s⟩:=p;obtain⟨rfl|rfl,rfl⟩:=(kJ d).1 u;have⟨m,x,F,r,v⟩:=a.2 k q t j (λe=>g ⟨oa,oa⟩) s;have⟨z,y,L,⟨l,o⟩,w⟩:=n x oa q m j g v;exact⟨z,y,oa,⟨l+1,m,r,o⟩,w⟩;exact⟨t,k,oa,⟨0,rfl⟩,s⟩
end Sm
namespace Sm
section
variable (B:Tree->Nat->Aq->Nat×Aq)
def xh (h:Nat):Au->Nat->Aq->Nat×Aq
 | [],b,S=>(b,S)
 |t :: a,b,S=>xh h a (B t h S).2.length ((B t h S).2++[zy b (B t h S).1])
def Zh:Au->Nat->Aq->Nat×Aq
 | [],b,S=>(b,S)
 |t :: a,b,S=>Zh a (B t b S).1 (B t b S).2
def vH (t:Tree)(h:Nat):Nat->Nat->Aq->Nat×Aq
 |0,b,S=>(b,S)
 |k+1,b,S=>vH t h k (B t b S).2.length ((B t b S).2++[zy (B t b S).1 h])
def yL (t:Tree):Nat->Nat->Aq->Nat×Aq
 |0,b,S=>(b,S)
 |k+1,b,S=>if(B t b S).1=b then B t b S else yL t k (B t b S).1 (B t b S).2
def xX (t:Tree)(h:Nat)(S:Aq):Nat×Aq:=
 ((B t (D S) (S++[zy 0 h])).1,(B t (D S) (S++[zy 0 h])).2.set (D S) (zy (B t (D S) (S++[zy 0 h])).1 h))
end
def AH:Nat->Tree->Nat->Aq->Nat×Aq
 |0,_,h,S=>(h,S)
 |f+1,T,h,S=>
  if T.kind=0 then(D S,S++[tester T.a h])
  else if T.kind=5 then
   match T.kids with
   | []=>(h,S)
   |t :: a=>xh (AH f) h a (AH f t h S).1 (AH f t h S).2
  else if T.kind=6 then Zh (AH f) T.kids.reverse h S
  else if T.kind=7 then
   if T.b = -1 then
    if T.a=0 then(D S,(xX (AH f) T.kid h S).2)
    else yL (AH f) T.kid (T.a-1).toNat (xX (AH f) T.kid h S).1 (xX (AH f) T.kid h S).2
   else yL (AH f) T.kid T.a.toNat (vH (AH f) T.kid h (T.b-T.a).toNat h S).1 (vH (AH f) T.kid h (T.b-T.a).toNat h S).2
  else(D S,S++[taker T h])
variable (lf:Tree->Aj) (ah:Int->Aj)
structure xg (R:Nat->Aj)(nx:Nat)(S:Aq)(r:Nat×Aq):Prop where
 le:D S<=D r.2
 old:∀k,k<D S->r.2[k]?=S[k]?
 at':(r.1=nx/\(D r.2)=D S)\/(D S<=r.1/\r.1<D r.2)
 fit:∀k s,D S<=k->r.2[k]?=I s->s.next<D r.2/\s.other<D r.2
 right:∀N:Aq,(∀k,D S<=k->k<D r.2->N[k]?=r.2[k]?)->xN lf ah R r.1 nx (D S) (D r.2) N
variable {lf ah}
theorem xg.congr {R b:Nat->Aj}{h:Nat}{S:Aq}{r:Nat×Aq}(a:xg lf ah R h S r)(e:∀i j,R i j↔b i j):xg lf ah b h S r:=
 ⟨a.le,a.old,a.at',a.fit,λN c=>(a.right N c).congr e⟩
theorem xg.empty (h:Nat)(S:Aq):xg lf ah (λi j=>i=j) h S (h,S):=
 ⟨AD _,λ_ _=>rfl,Q ⟨rfl,rfl⟩,λk s b c=>by have a:=(AK.1 c).1;exact absurd a (Nat.not_lt.2 b),λN _=>xN.empty h _ N⟩
theorem xg.lt {R:Nat->Aj}{h:Nat}{S:Aq}{r:Nat×Aq}(a:xg lf ah R h S r)(b:h<D S):r.1<D r.2:=by have:=a.le;obtain⟨e,_⟩|⟨_,e⟩:=a.at'<;>omega
theorem xg.same {R:Nat->Aj}{h:Nat}{S:Aq}{r:Nat×Aq}(a:xg lf ah R h S r)(t:h<D S)(e:r.1=h):∀i j,R i j↔i=j:=by
 have q:D r.2=D S:=by obtain⟨_,d⟩|⟨d,_⟩:=a.at'<;>omega
 have c:=a.right [] (λk o p=>oa);intro i j;constructor
 .intro r;have⟨k,b⟩:=c.1 i j r;cases k with
  |zero=>exact b.2
  |succ k=>have⟨_,_,⟨s,l,_⟩,_⟩:=b;simp at l
 rintro rfl;have⟨m,n,b,f,g⟩:=c.2 0 h i i oa ⟨e,rfl⟩;obtain rfl:n=0:=by omega
 obtain⟨_,rfl⟩:=g;exact f
theorem xg.then {R e:Nat->Aj}{h:Nat}{S:Aq}{r o:Nat×Aq}(a:xg lf ah e h S r)(g:xg lf ah R r.1 r.2 o):xg lf ah (λi j=>∃m,R i m/\e m j) h S o:=by have t:=a.le;have q:=g.le;refine⟨oa,λk d=>(g.old k oa).trans (a.old k d),?_,?_,?_⟩;obtain⟨b,c⟩|⟨b,c⟩:=g.at';obtain⟨f,p⟩|⟨f,p⟩:=a.at';exact Q ⟨b.trans f,oa⟩;exact O ⟨oa,oa⟩;exact O ⟨oa,oa⟩;intro k s d n;by_cases u:k<D r.2;have:=a.fit k s d ((g.old k u).symm.trans n);omega;exact g.fit k s oa n;intro N l;exact(g.right N (λk b c=>l k oa c)).then (a.right N (λk b c=>(l k b oa).trans (g.old k oa))) t q
theorem zbM (S:Aq)(s:Stp):(S++[s])[D S]?=I s:=ov
theorem Yc (S:Aq)(s:Stp){k:Nat}(h:k<D S):(S++[s])[k]?=S[k]?:=BG h
theorem KP {S:Aq}{x s:Stp}{k:Nat}(h:(S++[x])[k]?=I s):(k<D S/\S[k]?=I s)\/(k=D S/\s=x):=by grind
theorem xg.leaf (T:Tree){h:Nat}{S:Aq}(f:h<D S):xg lf ah (λi j=>lf T i/\j=i+1) h S (D S,S++[taker T h]):=by refine⟨ov,λk a=>Yc S _ a,O ⟨AD _,ov⟩,λk s a c=>?_,λN b=>?_⟩;obtain⟨d,_⟩|⟨_,rfl⟩:=KP c;omega;simp[taker];omega;have e:=b (D S) (AD _) ov;rw[zbM] at e;simpa using xN.taker (lf:=lf) (ah:=ah) e
theorem xg.asr (a:Int){h:Nat}{S:Aq}(g:h<D S):xg lf ah (λi j=>i=j/\ah a i) h S (D S,S++[tester a h]):=by refine⟨ov,λk b=>Yc S _ b,O ⟨AD _,ov⟩,λk s b d=>?_,λN c=>?_⟩;obtain⟨f,_⟩|⟨_,rfl⟩:=KP d;omega;simp[tester];omega;have e:=c (D S) (AD _) ov;rw[zbM] at e;simpa using xN.tester (lf:=lf) (ah:=ah) e
theorem xg.either {R f:Nat->Aj}{h:Nat}{S:Aq}{r b:Nat×Aq}(a:xg lf ah R h S r)(g:xg lf ah f h r.2 b)(q:h<D S):xg lf ah (λi j=>R i j\/f i j) h S (D b.2,b.2++[zy r.1 b.1]):=by
 have n:=a.le;have m:=g.le;have v:=a.lt q;have u:=g.lt oa;refine⟨by simp;omega,λk e=>(Yc _ _ oa).trans ((g.old k oa).trans (a.old k e)),O ⟨by simp only[];omega,ov⟩,λk s e t=>?_,λN o=>?_⟩;rw[AO,Ce];obtain⟨d,c⟩|⟨_,rfl⟩:=KP t;by_cases p:k<D r.2;have:=a.fit k s e ((g.old k p).symm.trans c);omega;have:=g.fit k s oa c;omega;simp only[zy];omega;have l:(b.2++[zy r.1 b.1]).length=D b.2+1:=by simp
 rw[l];refine xN.either (a.right N (λk d c=>?_)) (g.right N (λk d c=>?_)) ?_ n m;exact(o k d (by rw[l];omega)).trans ((Yc _ _ oa).trans (g.old k c))
 grind
 grind
theorem xg.maybe {R f:Nat->Aj}{h:Nat}{S:Aq}{r b:Nat×Aq}(a:xg lf ah f h S r)(g:xg lf ah R r.1 r.2 b)(t:h<D S):xg lf ah (λi j=>i=j\/∃m,R i m/\f m j) h S (D b.2,b.2++[zy b.1 h]):=by
 have o:=a.le;have n:=g.le;have v:=g.lt (a.lt t);refine⟨by simp;omega,λk e=>(Yc _ _ oa).trans ((g.old k oa).trans (a.old k e)),O ⟨by simp only[];omega,ov⟩,λk s e u=>?_,λN p=>?_⟩;rw[AO,Ce];obtain⟨d,c⟩|⟨_,rfl⟩:=KP u;by_cases q:k<D r.2;have:=a.fit k s e ((g.old k q).symm.trans c);omega;have:=g.fit k s oa c;omega;simp only[zy];omega;have l:(b.2++[zy b.1 h]).length=D b.2+1:=by simp
 rw[l];refine xN.maybe (a.right N (λk d c=>?_)) (g.right N (λk d c=>?_)) ?_ o n;exact(p k d (by rw[l];omega)).trans ((Yc _ _ oa).trans (g.old k c))
 grind
 grind
end Sm
namespace Sm
variable {lf:Tree->Aj} {ah:Int->Aj}
def BOK (lf:Tree->Aj)(ah:Int->Aj)(B:Tree->Nat->Aq->Nat×Aq)(X:Tree->Nat->Aj)(t:Tree):Prop:=∀h S,h<D S->xg lf ah (X t) h S (B t h S)
section
variable {B:Tree->Nat->Aq->Nat×Aq} {X:Tree->Nat->Aj}
theorem Qj {h:Nat}{S:Aq}(d:h<D S):∀(b:Au) (R:Nat->Aj) (r:Nat×Aq),(∀t∈b,BOK lf ah B X t)->xg lf ah R h S r->xg lf ah (λi j=>R i j\/∃t∈b,X t i j) h S (xh B h b r.1 r.2)
 | [],R,r,_,a=>a.congr ov
 |t :: b,R,r,c,a=>by
  have l:=a.le;have g:=c t ov h r.2 oa;have e:=a.either g d;have k:=Qj d b _ _ (λu f=>c u (by simp[f])) e;refine k.congr (λi j=>?_);simp only[BZ,exists_eq_or_imp,or_assoc]
theorem wy (X:Tree->Nat->Aj):∀(l r:Au) (i j:Nat),vf X (l++r) i j↔∃m,vf X l i m/\vf X r m j
 | [],r,i,j=>by simp[vf]
 |t :: l,r,i,j=>by
  simp only[Ci,vf];constructor;rintro⟨m,a,d⟩;have⟨m',b,c⟩:=(wy X l r m j).1 d;exact⟨m',⟨m,a,b⟩,c⟩;rintro⟨m',⟨m,a,b⟩,c⟩;exact⟨m,a,(wy X l r m j).2 ⟨m',b,c⟩⟩
theorem Va {h:Nat}{S:Aq}(l:h<D S):∀(b:Au) (R:Nat->Aj) (r:Nat×Aq),(∀t∈b,BOK lf ah B X t)->xg lf ah R h S r->xg lf ah (λi j=>∃m,vf X b.reverse i m/\R m j) h S (Zh B b r.1 r.2)
 | [],R,r,_,a=>a.congr (by simp[vf])
 |t :: b,R,r,f,a=>by
  have g:=f t ov r.1 r.2 (a.lt l);have k:=Va l b _ _ (λu q=>f u (by simp[q])) (a.then g);refine k.congr (λi j=>?_);rw[List.reverse_cons];constructor;rintro⟨m,c,e,n,d⟩;exact⟨e,(wy X _ _ _ _).2 ⟨m,c,e,n,rfl⟩,d⟩;rintro⟨e,c,d⟩;obtain⟨m,o,s,p,rfl⟩:=(wy X _ _ _ _).1 c;exact⟨m,o,s,p,d⟩
def upto (R:Nat->Aj)(k i j:Nat):Prop:=∃l,l<=k/\pow R l i j
theorem zgl (R:Nat->Aj)(i j:Nat):upto R 0 i j↔i=j:=by
 constructor
 .rintro⟨l,a,h⟩;obtain rfl:l=0:=by omega
  exact h
 intro h;exact⟨0,AD _,h⟩
theorem zgm (R:Nat->Aj)(k i j:Nat):upto R (k+1) i j↔i=j\/∃m,R i m/\upto R k m j:=by
 constructor
 .rintro⟨l,c,h⟩;cases l with
  |zero=>exact Q h
  |succ l=>
   have⟨m,a,b⟩:=h;exact O ⟨m,a,l,oa,b⟩
 rintro(h|⟨m,a,l,c,b⟩);exact⟨0,oa,h⟩;exact⟨l+1,oa,m,a,b⟩
theorem Vb {t:Tree}{h:Nat}{S:Aq}(b:h<D S)(c:BOK lf ah B X t):∀(k l:Nat) (r:Nat×Aq),xg lf ah (upto (X t) l) h S r->xg lf ah (upto (X t) (l+k)) h S (vH B t h k r.1 r.2)
 |0,l,r,a=>a
 |k+1,l,r,a=>by
  have g:=c r.1 r.2 (a.lt b);have e:=(a.maybe g b).congr (λi j=>(zgm (X t) l i j).symm);have:=Vb b c k (l+1) _ e;rwa [show l+1+k=l+(k+1) by omega] at this
theorem MS {R:Nat->Aj}(h:∀i j,R i j↔i=j):∀(k i j:Nat),pow R k i j↔i=j
 |0,i,j=>Iff.rfl
 |k+1,i,j=>by
  simp only[pow];constructor;rintro⟨m,a,b⟩;exact((h i m).1 a).trans ((MS h k m j).1 b);rintro rfl;exact⟨i,(h i i).2 rfl,(MS h k i i).2 rfl⟩
theorem Yd {t:Tree}{h:Nat}{S:Aq}(l:h<D S)(n:BOK lf ah B X t):∀(k:Nat) (R:Nat->Aj) (r:Nat×Aq),xg lf ah R h S r->xg lf ah (λi j=>∃m,pow (X t) k i m/\R m j) h S (yL B t k r.1 r.2)
 |0,R,r,a=>a.congr (by simp[pow])
 |k+1,R,r,a=>by
  have g:=n r.1 r.2 (a.lt l);have s:=a.then g;unfold yL;by_cases e:(B t r.1 r.2).1=r.1;rw[IN e];have hid:=g.same (a.lt l) e;refine s.congr (λi j=>?_);constructor;rintro⟨m,b,c⟩;exact⟨m,(MS hid (k+1) i m).2 ((hid i m).1 b),c⟩;rintro⟨m,b,c⟩;exact⟨m,(hid i m).2 ((MS hid (k+1) i m).1 b),c⟩;rw[iN e];refine(Yd l n k _ _ s).congr (λi j=>?_);constructor;rintro⟨m,b,d,c,f⟩;exact⟨d,(jK (X t) k 1 i d).2 ⟨m,b,d,c,rfl⟩,f⟩;rintro⟨d,b,f⟩;obtain⟨m,o,q,p,rfl⟩:=(jK (X t) k 1 i d).1 b;exact⟨m,o,q,p,f⟩
theorem zbN {t:Tree}{h:Nat}{S:Aq}(hn:h<D S)(hB:BOK lf ah B X t):xg lf ah (λi j=>∃k,pow (X t) k i j) h S (D S,(xX B t h S).2)/\xg lf ah (λi j=>∃k,pow (X t) (k+1) i j) h S (xX B t h S):=by
 have c:(S++[zy 0 h]).length=D S+1:=ov;have g:=hB (D S) (S++[zy 0 h]) (by rw[c];omega);have T:=g.lt (by rw[c];omega);unfold xX;generalize hr:B t (D S) (S++[zy 0 h])=r at g T;have P:=g.le;rw[c] at P;have d:(r.2.set (D S) (zy r.1 h)).length=D r.2:=Ct;have L:(r.2.set (D S) (zy r.1 h))[D S]?=I (zy r.1 h):=Iq oa;have p:∀k,k≠(D S)->(r.2.set (D S) (zy r.1 h))[k]?=r.2[k]?:=λk b=>FW (λe=>b e.symm);have y:∀k,k<D S->(r.2.set (D S) (zy r.1 h))[k]?=S[k]?:=λk b=>(p k oa).trans ((g.old k (by rw[c];omega)).trans (Yc S _ b));have w:∀k s,D S<=k->(r.2.set (D S) (zy r.1 h))[k]?=I s->s.next<D r.2/\s.other<D r.2:=λk s b f=>by by_cases e:k=D S;subst e;obtain rfl:=Bz (L.symm.trans f);simp only[zy];omega;exact g.fit k s (by rw[c];omega) ((p k e).symm.trans f)
 have v:∀N:Aq,(∀k,D S<=k->k<D r.2->N[k]?=(r.2.set (D S) (zy r.1 h))[k]?)->xN lf ah (X t) r.1 (D S) (D S+1) (D r.2) N:=λN a=>by have:=g.right N (λk n o=>by rw[c] at n;exact(a k oa o).trans (p k oa));rwa [c] at this
 have x:∀N:Aq,(∀k,D S<=k->k<D r.2->N[k]?=(r.2.set (D S) (zy r.1 h))[k]?)->xN lf ah (λi j=>∃k,pow (X t) k i j) (D S) h (D S) (D r.2) N:=λN a=>
  (v N a).again ((a (D S) (AD _) oa).trans L) oa
 refine⟨⟨by simp only[d];omega,y,O ⟨AD _,by simp only[d];omega⟩,λk s b f=>by simp only[d];exact w k s b f,λN a=>?_⟩,⟨by simp only[d];omega,y,O ?_,λk s b f=>by simp only[d];exact w k s b f,λN a=>?_⟩⟩;simp only[d] at a ⊢;exact x N a;simp only[d];obtain⟨n,_⟩|⟨n,o⟩:=g.at';exact⟨oa,oa⟩;rw[c] at n;exact⟨oa,oa⟩;simp only[d] at a ⊢;have u:=v N a;have z:=x N a;refine⟨?_,?_⟩;rintro i j ⟨k,m,W,h2⟩;exact(u.1 i m W).trans (z.1 m j ⟨k,h2⟩);intro k q i j F ae;have⟨m,k1,n,r1,ac⟩:=u.2 k q i j (λe=>F ⟨oa,oa⟩) ae;have⟨m',k2,o,⟨l,r2⟩,ad⟩:=z.2 k1 q m j F ac;exact⟨m',k2,oa,⟨l,m,r1,r2⟩,ad⟩
end
theorem ZQ:∀(f:Nat) (T:Tree),WF f T->BOK lf ah (AH f) (M lf ah f) T
 |0,T,a=>a.elim
 |f+1,T,a=>by
  obtain⟨w,B,F⟩:=a;intro h S d;unfold AH;by_cases c:T.kind=0;simp only[IN c];exact(xg.asr T.a d).congr (λi j=>by simp only[M,IN c]);by_cases b:T.kind=5
  .simp only[iN c,IN b];have r:=B (Q b);cases hT:T.kids with
   |nil=>exact absurd hT (w b)
   |cons t X=>
    rw[hT] at r;refine(Qj d X (M lf ah f t) (AH f t h S) (λu x=>ZQ f u (r u (by simp[x]))) (ZQ f t (r t ov) h S d)).congr (λi j=>?_);simp[M,b,hT]
  by_cases e:T.kind=6;simp only[iN c,iN b,IN e];have r:=B (O e);refine(Va d T.kids.reverse (λi j=>i=j) (h,S) (λu x=>ZQ f u (r u (List.mem_reverse.1 x))) (xg.empty h S)).congr (λi j=>?_);rw[List.reverse_reverse];simp[M,e];by_cases n:T.kind=7;simp only[iN c,iN b,iN e,IN n];obtain⟨N,ha,L⟩:=F n;have s:=ZQ f T.kid N;by_cases p:T.b = -1;simp only[IN p];obtain⟨P,W⟩:=zbN d s;by_cases y:T.a=0;simp only[IN y];refine P.congr (λi j=>?_);simp only[M,iN c,iN b,iN e,IN n];constructor;rintro⟨k,a⟩;exact⟨k,oa,Q p,a⟩;rintro⟨k,_,_,a⟩;exact⟨k,a⟩;simp only[iN y];refine(Yd d s _ _ _ W).congr (λi j=>?_);simp only[M,iN c,iN b,iN e,IN n];constructor;rintro⟨m,q,k,g⟩;exact⟨(T.a-1).toNat+(k+1),oa,Q p,(jK _ _ _ _ _).2 ⟨m,q,g⟩⟩;rintro⟨k,q,_,g⟩;obtain⟨m,z,v⟩:=(jK _ (T.a-1).toNat (k-T.a.toNat+1) i j).1 (by rwa [show(T.a-1).toNat+(k-T.a.toNat+1)=k by omega]);exact⟨m,z,_,v⟩;simp only[iN p];have ab:T.a<=T.b:=(by rcases L with a|a;exact absurd a p;exact a);have o:=Vb d s (T.b-T.a).toNat 0 (h,S) ((xg.empty h S).congr (λi j=>(zgl _ i j).symm));refine(Yd d s _ _ _ o).congr (λi j=>?_);simp only[M,iN c,iN b,iN e,IN n];constructor;rintro⟨m,q,l,hl,g⟩;exact⟨T.a.toNat+l,oa,O oa,(jK _ _ _ _ _).2 ⟨m,q,g⟩⟩;rintro⟨k,q,g,z⟩;have g:(k:Int)<=T.b:=(by rcases g with a|a;exact absurd a p;exact a);obtain⟨m,v,w⟩:=(jK _ T.a.toNat (k-T.a.toNat) i j).1 (by rwa [show T.a.toNat+(k-T.a.toNat)=k by omega]);exact⟨m,v,_,oa,w⟩;simp only[iN c,iN b,iN e,iN n];exact(xg.leaf T d).congr (λi j=>by simp only[M,iN c,iN b,iN e,iN n])
def AR (f:Nat)(T:Tree):Nat×Aq:=AH f T 0 [kI]
theorem zgn {f:Nat}{T:Tree}(h:WF f T)(i j:Nat):Goes lf ah (AR f T).2 (AR f T).1 i 0 j↔M lf ah f T i j:=by
 have b:=ZQ (lf:=lf) (ah:=ah) f T h 0 [kI] ov;have r:=b.right (AH f T 0 [kI]).2 (λk _ _=>rfl);constructor
 .rintro⟨k,g⟩;have⟨m,c,_,d,a⟩:=r.2 k 0 i j ov g;cases c with
  |zero=>obtain⟨_,rfl⟩:=a;exact d
  |succ c=>
   have⟨p,o,⟨s,n,l⟩,_⟩:=a;have e:(AH f T 0 [kI]).2[0]?=I kI:=(b.old 0 ov).trans rfl;obtain rfl:=Bz (e.symm.trans n);simp[kI] at l
 exact r.1 i j
end Sm
namespace Sm
variable {lf:Tree->Aj} {ah:Int->Aj}
theorem one_le {N:Aq}{p i q j:Nat}(h:one lf ah N p i q j):i<=j/\j<=i+1:=by obtain⟨s,_,⟨_,_,_,rfl⟩|⟨_,_,_,rfl⟩|⟨_,_,rfl⟩⟩:=h<;>omega
theorem UA.le {N:Aq}:∀{k p i q j:Nat},UA lf ah N k p i q j->i<=j
 |0,_,_,_,_,h=>by rw[h.2];exact AD _
 |_+1,_,_,_,_,⟨_,_,a,b⟩=>AP (one_le a).1 b.le
theorem Goes.le {N:Aq}{p i q j:Nat}:Goes lf ah N p i q j->i<=j
 |⟨_,h⟩=>h.le
variable (lf) in
def Lv (N:Aq)(a i b:Nat):Prop:=∃s,N[a]?=I s/\s.kind=1/\lf s.leaf i/\b=s.next
variable (ah) in
def NN (N:Aq)(a i b:Nat):Prop:=∃s,N[a]?=I s/\((s.kind=2/\ah s.asr i/\b=s.next)\/(s.kind=3/\(b=s.next\/b=s.other)))
theorem NB {N:Aq}{p i q j:Nat}:one lf ah N p i q j↔(Lv lf N p i q/\j=i+1)\/(NN ah N p i q/\j=i):=by constructor;rintro⟨s,d,⟨a,b,e,c⟩|⟨a,b,e,c⟩|⟨a,b,c⟩⟩;exact Q ⟨⟨s,d,a,b,e⟩,c⟩;exact O ⟨⟨s,d,Q ⟨a,b,e⟩⟩,c⟩;exact O ⟨⟨s,d,O ⟨a,b⟩⟩,c⟩;rintro(⟨⟨s,d,a,b,e⟩,c⟩|⟨⟨s,d,⟨a,b,e⟩|⟨a,b⟩⟩,c⟩);exact⟨s,d,Q ⟨a,b,e,c⟩⟩;exact⟨s,d,O (Q ⟨a,b,e,c⟩)⟩;exact⟨s,d,O (O ⟨a,b,c⟩)⟩
theorem WN {N:Aq}:∀{k p i q at':Nat},UA lf ah N k p i q (at'+1)->i<=at'->∃a b,Goes lf ah N p i a at'/\Lv lf N a at' b/\Goes lf ah N b (at'+1) q (at'+1)
 |0,_,_,_,_,h,l=>by have:=h.2;omega
 |k+1,p,i,q,at',⟨r,o,c,d⟩,l=>by
  by_cases m:o<=at';have⟨a,b,f,g,j⟩:=WN d m;exact⟨a,b,Goes.head c f,g,j⟩;obtain⟨n,e⟩|⟨_,e⟩:=NB.1 c;obtain rfl:i=at':=oa;subst e;exact⟨p,r,Goes.refl _ _ _,n,k,d⟩;omega
theorem XG {N:Aq}{s i q at':Nat}(f:i<=at'):Goes lf ah N s i q (at'+1)↔∃a b,Goes lf ah N s i a at'/\Lv lf N a at' b/\Goes lf ah N b (at'+1) q (at'+1):=by constructor;rintro⟨k,h⟩;exact WN h f;rintro⟨a,b,c,d,e⟩;exact c.trans (Goes.head (NB.2 (Q ⟨d,rfl⟩)) e)
theorem WO {N:Aq}{s i at':Nat}(c:i<=at')(h:∀q,¬Goes lf ah N s i q at'):∀(d q:Nat),¬Goes lf ah N s i q (at'+d)
 |0,q=>h q
 |d+1,q=>λg=>by
  have⟨a,_,b,_⟩:=(XG (at':=at'+d) oa).1 g;exact WO c h d a b
theorem Kf {N:Aq}{i:Nat}{d rs:Ao}(f:∀p∈d,p∈rs)(g:∀q∈rs,∃p∈d,Goes lf ah N p i q i)(m:∀a∈rs,∀b,NN ah N a i b->b∈rs)(q:Nat):q∈rs↔∃p∈d,Goes lf ah N p i q i:=by
 refine⟨g q,?_⟩;rintro⟨p,c,k,j⟩;replace c:=f p c
 induction k generalizing p with
 |zero=>rw[<-j.1];exact c
 |succ k r=>
  have⟨l,s,n,h⟩:=j;obtain⟨_,e⟩|⟨o,e⟩:=NB.1 n;have:=h.le;omega;subst e;exact r l h (m p c l o)
theorem zgo {N:Aq}{s i at':Nat}{c rs d:Ao}(e:i<=at')(f:∀q,(∃p∈c,Goes lf ah N p at' q at')↔Goes lf ah N s i q at')(g:∀q,q∈rs↔∃p∈c,Goes lf ah N p at' q at')(h:∀b,b∈d↔∃a∈rs,Lv lf N a at' b)(q:Nat):(∃p∈d,Goes lf ah N p (at'+1) q (at'+1))↔Goes lf ah N s i q (at'+1):=by
 rw[XG e];constructor
 grind
 grind
end Sm
end
section
open Go.RowKit
namespace Ref
def hexV (b:Int):Int:=if 48<=b/\b<=57 then b-48 else if 97<=b/\b<=102 then b-87 else if 65<=b/\b<=70 then b-55 else -1
def jz (n:Int):Int:=if n=2 then 128 else if n=3 then 2048 else if n=4 then 65536 else 0
def headN (b:Int):Int:=if b<128 then 1 else if 192<=b/\b<224 then 2 else if 224<=b/\b<240 then 3 else if 240<=b/\b<248 then 4 else 0
def jU (b:Int):Int:=if b<128 then b else if 192<=b/\b<224 then b-192 else if 224<=b/\b<240 then b-224 else if 240<=b/\b<248 then b-240 else 0
def yS (b:Int):Int:=if b=116 then 9 else if b=110 then 10 else if b=118 then 11 else if b=102 then 12 else if b=114 then 13 else -1
end Ref
theorem Ye {k l:IntKind}{a b c d:Int}(h:a=b)(g:c=d):Ending.returned (Ue #[M k a,M l c])=.returned (Ue #[M k b,M l d]):=by rw[h,g]
theorem DI {a b:Bool}(h:a=b):Ending.returned (C a)=.returned (C b):=by rw[h]
theorem qR {k:IntKind}{a b:Int}(h:a=b):Ending.returned (M k a)=.returned (M k b):=by rw[h]
theorem JE (b:Int)(w:E)(a:-1<=b)(c:b<=255):Uh V 228 #[M J b] w λe w'=>e=.returned (M J (Ref.hexV b))/\w'=w:=by go_enter func228,ntmps228;go_wp2;all_goals (go_ret;refine⟨qR ?_,rfl⟩;unfold Ref.hexV;(repeat' split)<;>omega)
theorem zbO (b:Int)(w:E):Uh V 205 #[M J b] w λe w'=>e=.returned (M J (Ref.yS b))/\w'=w:=by go_enter func205,ntmps205;go_wp2;all_goals (go_ret;refine⟨qR ?_,rfl⟩;unfold Ref.yS;simp_all)
theorem zgp (n:Int)(w:E):Uh V 67 #[M J n] w λe w'=>e=.returned (M J (Ref.jz n))/\w'=w:=by go_enter func67,ntmps67;go_wp2;all_goals (go_ret;refine⟨qR ?_,rfl⟩;unfold Ref.jz;simp_all)
theorem EG (b:Int)(w:E)(a:0<=b)(c:b<=255):Uh V 66 #[M J b] w λe w'=>e=.returned (Ue #[M J (Ref.headN b),M J (Ref.jU b)])/\w'=w:=by
 go_enter func66,ntmps66;go_wp2;all_goals go_ret2
 all_goals (refine⟨Ye ?_ ?_,rfl⟩<;>(first|unfold Ref.headN|unfold Ref.jU)<;>(repeat' split)<;>omega)
variable (s e a)
theorem Gq (w:E)(h:je w b s i e a)(_c:q s<=maxLen):Uh V 68 #[Ua (I ⟨b,0,U⟩)] w λx w'=>x=.returned (M J (ze s i))/\∃n,w'=w.drewN n:=by
 have⟨f,c1,g,j,f1,k,l⟩:=h;unfold maxLen at _c;by_cases d:i<q s
 .go_enter func68,ntmps68;go_wp2;go_quiet(fail);go_wp2;go_quiet(fail);go_wp2;go_ret;exact⟨qR (by rw[yY s i d,ZP]),_,by rw[LA]⟩
 go_enter func68,ntmps68;go_wp2;go_quiet(fail);go_wp2;go_ret;exact⟨qR (by rw[qE s i oa]),_,rfl⟩
theorem EV (i e a f d:Int)(w:E)(h:je w b s i e a):Uh V 71 #[Ua (I ⟨b,0,U⟩),M J f,M J d] w λx w'=> x=.returned (Ue #[])/\je w' b s i (if e=0 then f else e) (if e=0 then d else a)/\zg (zr b) w w':=by
 have g:=zd h;have⟨l,c1,m,n,f1,o,p⟩:=h;by_cases c:e=0
 .have k:(e == 0)=G:=by simp[c]
  have j:H (e=0):=c;go_enter func71,ntmps71;go_wp2
  go_end0
  exact⟨rfl,(g.SA f).SB d,((zg.refl _ _).NS _ _).NS _ _⟩
 have k:(e == 0)=Z:=by simp[c]
 have j:H (¬e=0):=c;go_enter func71,ntmps71;go_wp2
 go_end0
 exact⟨rfl,g,zg.refl _ _⟩
def Ref.signB (b:Int):Bool:=[94,36,92,46,42,43,63,40,41,91,93,123,125,124,47].any λc=>decide (c=b)
theorem zd4 (b:Int)(w:E)(_r:-1<=b)(_s:b<=255):Uh V 206 #[M J b] w λe w'=>e=.returned (C (Ref.signB b))/\w'=w:=by
 have a:wrap64 ((({ data:=#[94,36,92,46,42,43,63,40,41,91,93,123,125,124,47] }:Al)[0]' od).toNat:Int)=94:=by decide +kernel
 have c:wrap64 ((({ data:=#[94,36,92,46,42,43,63,40,41,91,93,123,125,124,47] }:Al)[1]' od).toNat:Int)=36:=by decide +kernel
 have j:wrap64 ((({ data:=#[94,36,92,46,42,43,63,40,41,91,93,123,125,124,47] }:Al)[2]' od).toNat:Int)=92:=by decide +kernel
 have k:wrap64 ((({ data:=#[94,36,92,46,42,43,63,40,41,91,93,123,125,124,47] }:Al)[3]' od).toNat:Int)=46:=by decide +kernel
 have l:wrap64 ((({ data:=#[94,36,92,46,42,43,63,40,41,91,93,123,125,124,47] }:Al)[4]' od).toNat:Int)=42:=by decide +kernel
 have m:wrap64 ((({ data:=#[94,36,92,46,42,43,63,40,41,91,93,123,125,124,47] }:Al)[5]' od).toNat:Int)=43:=by decide +kernel
 have n:wrap64 ((({ data:=#[94,36,92,46,42,43,63,40,41,91,93,123,125,124,47] }:Al)[6]' od).toNat:Int)=63:=by decide +kernel
 have o:wrap64 ((({ data:=#[94,36,92,46,42,43,63,40,41,91,93,123,125,124,47] }:Al)[7]' od).toNat:Int)=40:=by decide +kernel
 have p:wrap64 ((({ data:=#[94,36,92,46,42,43,63,40,41,91,93,123,125,124,47] }:Al)[8]' od).toNat:Int)=41:=by decide +kernel
 have q:wrap64 ((({ data:=#[94,36,92,46,42,43,63,40,41,91,93,123,125,124,47] }:Al)[9]' od).toNat:Int)=91:=by decide +kernel
 have d:wrap64 ((({ data:=#[94,36,92,46,42,43,63,40,41,91,93,123,125,124,47] }:Al)[10]' od).toNat:Int)=93:=by decide +kernel
 have f:wrap64 ((({ data:=#[94,36,92,46,42,43,63,40,41,91,93,123,125,124,47] }:Al)[11]' od).toNat:Int)=123:=by decide +kernel
 have g:wrap64 ((({ data:=#[94,36,92,46,42,43,63,40,41,91,93,123,125,124,47] }:Al)[12]' od).toNat:Int)=125:=by decide +kernel
 have h:wrap64 ((({ data:=#[94,36,92,46,42,43,63,40,41,91,93,123,125,124,47] }:Al)[13]' od).toNat:Int)=124:=by decide +kernel
 have i:wrap64 ((({ data:=#[94,36,92,46,42,43,63,40,41,91,93,123,125,124,47] }:Al)[14]' od).toNat:Int)=47:=by decide +kernel
 go_enter func206,ntmps206;go_wp2;refine wp_loop_rounds 16 ?_;iterate 16 (all_goals (try rw[rounds_succ]);all_goals (try go_wp2))
 all_goals (go_ret;refine⟨DI ?_,rfl⟩)
 all_goals (clear a c j k l m n o p q d f g h i)
 all_goals (simp_all [Ref.signB])
 all_goals omega
theorem Yf (b:Int)(w:E):Uh V 74 #[M J a,M J b] w λe w'=>e=.returned (M J (if a<b then a else b))/\w'=w:=by go_enter func74,ntmps74;go_wp2;all_goals (go_ret;refine⟨qR ?_,rfl⟩;first|rfl|(split<;>omega))
namespace Ref
def Zi (s:Al):Nat->Int->St->Int×St
 |0,c,st=>(c,st)
 |n+1,c,st=>if hexV (ze s st.i)<0 then(0,st.fail 3 st.i) else Zi s n (16*c+hexV (ze s st.i)) (st.go 1)
theorem hexV_hi (b:Int):hexV b<=15:=by unfold hexV;(repeat' split)<;>omega
variable {s}
theorem Vc {st:St}(h:hexV (ze s st.i)<0):Zi s (n+1) c st=(0,st.fail 3 st.i):=by simp[Zi,h]
theorem JF {st:St}(h:0<=hexV (ze s st.i)):Zi s (n+1) c st=Zi s n (16*c+hexV (ze s st.i)) (st.go 1):=by simp[Zi,show ¬hexV (ze s st.i)<0 by omega]
end Ref
theorem zbP (h:k<=4):(16:Int) ^ k<=65536:=by have a:k=0\/k=1\/k=2\/k=3\/k=4:=oa;obtain rfl|rfl|rfl|rfl|rfl:=a<;>decide
theorem z8 (st:St)(w:E)(h:Lex w b s st)(a:q s<=400):Uh V 68 #[Ua (I ⟨b,0,U⟩)] w λx w'=>x=.returned (M J (ze s st.i))/\∃n,w'=w.drewN n:=
 Gq b s st.i st.e st.a w h Ac
theorem yT (st:St)(c a:Int)(w:E)(h:Lex w b s st):Uh V 71 #[Ua (I ⟨b,0,U⟩),M J c,M J a] w λx w'=> x=.returned (Ue #[])/\Lex w' b s (st.fail c a)/\zg (zr b) w w':=
 (EV b s st.i st.e st.a c a w h).mono λx w' ⟨f,e,g⟩=>⟨f,by
  unfold Lex St.fail;split;rename_i d;simpa [d] using e;rename_i d;simpa [d] using e,g⟩
theorem zfk (n:Nat)(st:St)(w:E)(hn:n<=4)(h:Lex w b s st)(v:dJ s<=400)(W:st.i<=1000):Uh V 207 #[Ua (I ⟨b,0,U⟩),M J n] w λx w'=> x=.returned (M J (Ref.Zi s n 0 st).1)/\Lex w' b s (Ref.Zi s n 0 st).2/\zg (zr b) w w':=by
 go_enter func207,ntmps207;go_wp2;go_loopw[5,6] (λc i wr=>∃(k:Nat) (q:Int) (st':St),k<=n/\i=M J k/\c=M J q/\0<=q/\q<(16:Int) ^ k/\st'.i<=1000+k/\Lex wr b s st'/\zg (zr b) w wr/\H (Ref.Zi s n 0 st=Ref.Zi s (n-k) q st'))
  (λ_ i _=>n-(intOf i).toNat)
 exact⟨0,0,st,FT _,rfl,rfl,oa,ov,oa,h,zg.refl _ _,rfl⟩;obtain⟨k,q,st',hk,rfl,rfl,ae,af,X,d,g,f⟩:=hrel;have hp:(16:Int) ^ k<=65536:=zbP k oa;have T:=Ref.hexV_hi (ze s st'.i);by_cases ab:k<n
 .go_wp2_with fail;refine(z8 b s st' _ d v).mono ?_;rintro e y ⟨rfl,nq,rfl⟩;go_wp2_with fail;refine(JE _ _ (jJ _ _) (xk _ _)).mono ?_;rintro e y ⟨rfl,rfl⟩;have l:=zd d;have⟨F,c1,L,N,f1,P,S⟩:=d;by_cases t:Ref.hexV (ze s st'.i)<0
  ·(have a:H (Ref.Zi s n 0 st=(0,st'.fail 3 st'.i)):=by rw[zb f,show n-k=(n-k-1)+1 by omega];exact Ref.Vc t);go_wp2_with fail;refine(yT b s st' 3 st'.i _ (l.drewN nq)).mono ?_;rintro e w2 ⟨rfl,p,r⟩;go_wp2;go_ret;rw[zb a];exact⟨rfl,p,(g.drewN nq).trans r⟩
  (have a:H (Ref.Zi s n 0 st=Ref.Zi s (n-(k+1)) (16*q+Ref.hexV (ze s st'.i)) (st'.go 1)):=by rw[zb f,show n-k=(n-(k+1))+1 by omega];exact Ref.JF oa);have u:(16:Int) ^ (k+1)=16*(16:Int) ^ k:=(by rw[Int.pow_succ];omega);have m:16*q+Ref.hexV (ze s st'.i)<(16:Int) ^ (k+1):=oa;have o:=zd m;generalize j:Ref.hexV (ze s st'.i)=z at *;have B:=zd j;go_wp2;go_roundw
  .exact⟨k+1,_,st'.go 1,oa,Ae,rfl,oa,o,by simp[St.go];omega,(l.drewN nq).NX _,((g.drewN nq).NS _ _),a⟩
  simp[intOf];omega
 (have a:H (Ref.Zi s n 0 st=(q,st')):=by rw[zb f,show n-k=0 by omega];rfl);go_wp2;go_ret;rw[zb a];exact⟨rfl,d,g⟩
namespace Ref
def qZ (s:Al):Nat->Int->Nat->St->Int×St
 |0,_,_,st=>(0,st)
 |f+1,c,n,st=>
  if 0<n/\ze s st.i=125 then(c,st.go 1)
  else if hexV (ze s st.i)<0\/1114111<16*c+hexV (ze s st.i) then(0,st.fail 3 st.i)
  else qZ s f (16*c+hexV (ze s st.i)) (n+1) (st.go 1)
variable {s}
theorem ZE {st:St}(h:0<n)(a:ze s st.i=125):qZ s (f+1) c n st=(c,st.go 1):=by simp[qZ,h,a]
theorem YV {st:St}(h:¬(0<n/\ze s st.i=125))(a:hexV (ze s st.i)<0\/1114111<16*c+hexV (ze s st.i)):qZ s (f+1) c n st=(0,st.fail 3 st.i):=by simp only[qZ];rw[iN h,IN a]
theorem Yg {st:St}(h:¬(0<n/\ze s st.i=125))(a:¬(hexV (ze s st.i)<0\/1114111<16*c+hexV (ze s st.i))):qZ s (f+1) c n st=qZ s f (16*c+hexV (ze s st.i)) (n+1) (st.go 1):=by simp only[qZ];rw[iN h,iN a]
def vC (s:Al)(st:St):Int×St:=qZ s (q s+1-st.i) 0 0 st
theorem hexV_neg:hexV (-1) = -1:=od
end Ref
theorem zd5 (st:St)(w:E)(h:Lex w b s st)(t:dJ s<=400)(hi:st.i<=dJ s):Uh V 230 #[Ua (I ⟨b,0,U⟩)] w λx w'=> x=.returned (M J (Ref.vC s st).1)/\Lex w' b s (Ref.vC s st).2/\zg (zr b) w w':=by
 go_enter func230,ntmps230;go_wp2_with fail;go_loopw[3,4] (λc n wr=>∃(k:Nat) (q:Int) (st':St),n=M J k/\c=M J q/\0<=q/\q<=1114111/\st'.i<=dJ s/\k<=st'.i/\Lex wr b s st'/\zg (zr b) w wr/\H (st'.i=st.i+k)/\H (Ref.vC s st=Ref.qZ s (dJ s+1-st'.i) q k st'))
  (λ_ n _=>dJ s-st.i-(intOf n).toNat)
 exact⟨0,0,st,rfl,rfl,oa,oa,hi,oa,h,zg.refl _ _,rfl,rfl⟩;obtain⟨k,q,st',rfl,rfl,ap,aq,ak,hk,f,p,v,m⟩:=hrel;have aj:=Ref.hexV_hi (ze s st'.i);have o:=zd f;have r:H (dJ s+1-st'.i=(dJ s-st'.i)+1):=by show _=_;omega
 by_cases a:0<k/\ze s st'.i=125
 ·(have j:H (Ref.vC s st=(q,st'.go 1)):=by rw[zb m,zb r];exact Ref.ZE a.1 a.2);have F:0<k:=a.1;have hb:(ze s st'.i == 125)=G:=(by simp[a.2]);clear a;go_wp2_with fail;refine(z8 b s st' _ f t).mono ?_;rintro e u ⟨rfl,nq,rfl⟩;have⟨P,c1,S,T,f1,W,X⟩:=f;go_wp2_with fail;go_ret;rw[zb j];exact⟨rfl,(o.drewN nq).NX _,((p.drewN nq).NS _ _)⟩
 have z:=zd a;by_cases B:k=0
 case' pos=>
  have am:decide (0<k)=Z:=(by simp[B]);clear a B
 case' neg=>
  have F:0<k:=oa;have hb:(ze s st'.i == 125)=Z:=(by simp only[beq_eq_false_iff_ne];intro ad;exact a ⟨F,ad⟩);clear a;go_wp2_with fail;refine(z8 b s st' _ f t).mono ?_;rintro e u ⟨rfl,ar,rfl⟩
 all_goals
  go_wp2_with fail;refine(z8 b s st' _ (by first|exact f|exact f.drewN _) t).mono ?_;rintro e u ⟨rfl,nq,rfl⟩;go_wp2_with fail;refine(JE _ _ (jJ _ _) (xk _ _)).mono ?_;rintro e u ⟨rfl,rfl⟩;have⟨P,c1,S,T,f1,W,X⟩:=f;generalize y:Ref.hexV (ze s st'.i)=d at *;have g:=zd y;clear y;by_cases l:d<0\/1114111<16*q+d
  ·(have j:H (Ref.vC s st=(0,st'.fail 3 st'.i)):=by rw[zb m,zb r];exact Ref.YV z (by rw[zb g];exact l));by_cases ah:d<0
   (case' neg=>have ai:1114111<16*q+d:=oa);all_goals clear l
   all_goals
    go_wp2_with fail;refine(yT b s st' 3 st'.i _ (o.drewN _)).mono ?_;rintro e w2 ⟨rfl,aa,ab⟩;go_wp2_with fail;go_ret;rw[zb j];exact⟨rfl,aa,(p.drewN _).trans ab⟩
  ((have an:st'.i<dJ s:=by apply Classical.byContradiction;intro hn;have:=qE s st'.i oa;rw[this,Ref.hexV_neg] at g;have:=zb g;omega);have j:H (Ref.vC s st=Ref.qZ s (dJ s+1-(st'.go 1).i) (16*q+d) (k+1) (st'.go 1)):=by rw[zb m,zb r,show dJ s+1-(st'.go 1).i=dJ s-st'.i by simp only[St.go];omega,<-zb g];exact Ref.Yg z (by rw[zb g];exact l));have h1:0<=d:=oa;have h2:16*q+d<=1114111:=oa;have L:=zb v;have N:H ((st'.go 1).i=st.i+(k+1)):=(by show _=_;simp only[St.go];rw[L];try omega);clear l L;go_wp2_with fail;go_roundw
  .exact⟨k+1,_,st'.go 1,Ae,rfl,oa,oa,by simp[St.go];omega,by simp[St.go];omega,(o.drewN _).NX _,(p.drewN _).NS _ _,N,j⟩
  have:=zb v;simp[intOf];omega
namespace Ref
def wh (s:Al):Nat->Nat->Int->Int
 |0,_,c=>c
 |n+1,k,c=>if hexV (ze s k)<0 then -1 else wh s n (k+1) (16*c+hexV (ze s k))
def xA (s:Al)(i:Nat):Int:=if q s<i+6\/ze s i≠92\/ze s (i+1)≠117 then -1 else wh s 4 (i+2) 0
variable {s k}
theorem XH (h:hexV (ze s k)<0):wh s (n+1) k c = -1:=by simp[wh,h]
theorem Yh (h:0<=hexV (ze s k)):wh s (n+1) k c=wh s n (k+1) (16*c+hexV (ze s k)):=by simp[wh,show ¬hexV (ze s k)<0 by omega]
theorem wQ {i:Nat}(h:q s<i+6\/ze s i≠92\/ze s (i+1)≠117):xA s i = -1:=by simp only[xA];rw[IN h]
theorem JG {i:Nat}(h:¬(q s<i+6\/ze s i≠92\/ze s (i+1)≠117)):xA s i=wh s 4 (i+2) 0:=by simp only[xA];rw[iN h]
end Ref
theorem EJ (w:E)(T:s.size<=400)(B:i<=1000):Uh V 229 #[Uc s,M J i] w λx w'=>x=.returned (M J (Ref.xA s i))/\w'=w:=by
 by_cases o:s.size<i+6
 .have a:=zd (Ref.wQ (s:=s) (i:=i) (Or.inl o));go_enter func229,ntmps229;go_wp2;go_ret;exact⟨qR a.symm,rfl⟩
 have h:i<s.size:=by omega
 have j:i+1<s.size:=oa;by_cases b:ze s i=92
 .have p:((s[i].toNat:Int) != 92)=Z:=(by rw[<-yY s i h];simp[b]);by_cases d:ze s (i+1)=117
  .have r:((s[i+1].toNat:Int) != 117)=Z:=(by rw[<-yY s (i+1) j];simp[d]);have a:=zd (Ref.JG (s:=s) (i:=i) (by simp[b,d];omega));clear b d;go_enter func229,ntmps229;go_wp2_with fail
   go_loop [5,6] (λc k=>∃(n:Nat) (q:Int),n<=4/\k=M J ((i+2+n:Nat):Int)/\c=M J q/\0<=q/\q<(16:Int) ^ n/\H (Ref.xA s i=Ref.wh s (4-n) (i+2+n) q))
    (λ_ k=>i+6-(intOf k).toNat)
   case atStart=>exact⟨0,0,oa,Ae,rfl,oa,ov,a⟩
   case round=>
    obtain⟨n,q,L,rfl,rfl,P,S,HG⟩:=hrel;have N:(16:Int) ^ n<=65536:=zbP n oa;have z:=Ref.hexV_hi (ze s (i+2+n));by_cases F:n<4
    .go_wp2_with fail;rw[ZP,<-yY s (i+2+n) oa];refine(JE _ _ (jJ _ _) (xk _ _)).mono ?_;rintro e W ⟨rfl,rfl⟩;by_cases t:Ref.hexV (ze s (i+2+n))<0
     ·(have f:H (Ref.xA s i = -1):=by rw[zb HG,show 4-n=(3-n)+1 by omega];exact Ref.XH t);go_wp2_with fail;go_ret;exact⟨qR f.symm,rfl⟩
     (have f:H (Ref.xA s i=Ref.wh s (4-(n+1)) (i+2+(n+1)) (16*q+Ref.hexV (ze s (i+2+n)))):=by rw[zb HG,show 4-n=(4-(n+1))+1 by omega];exact Ref.Yh oa);have u:(16:Int) ^ (n+1)=16*(16:Int) ^ n:=(by rw[Int.pow_succ];omega);have l:16*q+Ref.hexV (ze s (i+2+n))<(16:Int) ^ (n+1):=oa;have m:=zd l;clear u l;generalize g:Ref.hexV (ze s (i+2+n))=v at *;have y:=zd g;clear g;go_wp2_with fail;go_round
     case rel=>exact⟨n+1,_,oa,Ae,rfl,oa,m,f⟩
     case measure=>simp[intOf];omega
    go_wp2_with fail;go_ret;have:n=4:=oa;subst this;exact⟨qR HG.symm,rfl⟩
  have a:=zd (Ref.wQ (s:=s) (i:=i) (Or.inr (Or.inr d)));have r:((s[i+1].toNat:Int) != 117)=G:=(by rw[<-yY s (i+1) j];simp[d]);clear b d;go_enter func229,ntmps229;go_wp2;go_ret;exact⟨qR a.symm,rfl⟩
 have a:=zd (Ref.wQ (s:=s) (i:=i) (Or.inr (Or.inl b)));have p:((s[i].toNat:Int) != 92)=G:=(by rw[<-yY s i h];simp[b]);clear b;go_enter func229,ntmps229;go_wp2;go_ret;exact⟨qR a.symm,rfl⟩
namespace Ref
def ZR (s:Al)(st:St):Bool:=decide (55296<=xA s (st.i-1)) && decide (xA s (st.i-1)<=56319) && decide (56320<=xA s (st.i+5)) && decide (xA s (st.i+5)<=57343)
def xB (s:Al)(st:St):Int×St:=
 if ze s (st.i+1)=123 then vC s (st.go 2)
 else if ZR s st=G then(65536+(xA s (st.i-1)-55296)*1024+xA s (st.i+5)-56320,st.go 11)
 else Zi s 4 0 (st.go 1)
def zI (s:Al)(cls:Bool)(st:St):Int×St:=
 if 0<=yS (ze s st.i) then(yS (ze s st.i),st.go 1)
 else if ze s st.i=48 then(0,if 48<=ze s (st.i+1)/\ze s (st.i+1)<=57 then(st.go 1).fail 3 (st.i+1:Nat) else st.go 1)
 else if ze s st.i=99 then
  (if(97<=ze s (st.i+1)/\ze s (st.i+1)<=122)\/(65<=ze s (st.i+1)/\ze s (st.i+1)<=90) then(ze s (st.i+1) % 32,st.go 2) else(0,(st.go 1).fail 3 (st.i+1:Nat)))
 else if ze s st.i=120 then Zi s 2 0 (st.go 1)
 else if ze s st.i=117 then xB s st
 else if signB (ze s st.i)=G\/cls=G/\ze s st.i=45 then(ze s st.i,st.go 1)
 else if cls=G/\ze s st.i=98 then(8,st.go 1)
 else(0,st.fail 3 st.i)
theorem zbQ (s:Al):∀(n k:Nat) (c:Int),0<=c->c<(16:Int) ^ (4-n)->n<=4->-1<=wh s n k c/\wh s n k c<=65535
 |0,k,c,b,a,_=>by simp only[wh];simp at a;omega
 |n+1,k,c,b,a,e=>by
  have g:(16:Int) ^ (4-n)=16*(16:Int) ^ (4-(n+1)):=by rw[show 4-n=(4-(n+1))+1 by omega,Int.pow_succ];omega
  have f:=hexV_hi (ze s k);by_cases d:hexV (ze s k)<0;rw[XH d];omega;rw[Yh oa];exact zbQ s n (k+1) _ oa oa oa
theorem zbR:-1<=xA s i/\xA s i<=65535:=by unfold xA;split;omega;exact zbQ s 4 _ 0 oa od oa
end Ref
theorem zbS (i:Int)(w:E)(b:q s<=400)(a:0<=i)(c:i<=1000):Uh V 229 #[Uc s,M J i] w λx w'=>x=.returned (M J (Ref.xA s i.toNat))/\w'=w:=by obtain⟨n,rfl⟩:=Int.eq_ofNat_of_zero_le a;rw[CH];exact EJ s n w b oa
theorem Lex.NX {w:E}{b:Nat}{s:Al}{st:St}(h:Lex w b s st)(j:Int)(n:Nat)(a:j=((st.i+n:Nat):Int)):Lex (w.setCell ⟨b,1,U⟩ (M J j)) b s (st.go n):=by subst a;exact je.NX h _
theorem Lex.drewN {w:E}{b:Nat}{s:Al}{st:St}(h:Lex w b s st)(n:Nat):Lex (w.drewN n) b s st:=je.drewN h n
theorem zbT (st:St)(w:E)(h:Lex w b s st)(f:dJ s<=400)(L:1<=st.i)(F:st.i<dJ s):Uh V 208 #[Ua (I ⟨b,0,U⟩)] w λx w'=> x=.returned (M J (Ref.xB s st).1)/\Lex w' b s (Ref.xB s st).2/\zg (zr b) w w':=by
 have g:=zd h;have⟨u,c1,v,y,f1,z,B⟩:=h;have k:((st.i:Int)-1).toNat=st.i-1:=oa;have l:((st.i:Int)+5).toNat=st.i+5:=oa;have r:=Ref.zbR s (st.i-1);have t:=Ref.zbR s (st.i+5);go_enter func208,ntmps208;go_wp2;go_quiet((go_at_call 229;exact(zbS _ _ _ f oa oa).mono (by rintro e p ⟨rfl,rfl⟩;exact⟨rfl,_,rfl⟩)));go_wp2;go_quiet((go_at_call 229;exact(zbS _ _ _ f oa oa).mono (by rintro e p ⟨rfl,rfl⟩;exact⟨rfl,_,rfl⟩)));go_wp2_with fail;refine(z8 b s (st.go 1) _ ((g.drewN _).NX _ 1 oa) f).mono ?_;rintro e X ⟨rfl,nq,rfl⟩;simp only[St.go];by_cases a:ze s (st.i+1)=123
 .have n:(ze s (st.i+1) == 123)=G:=by simp[a]
  have d:H (Ref.xB s st=Ref.vC s (st.go 2)):=by show _=_;unfold Ref.xB;rw[IN a]
  have N:st.i+1<dJ s:=by rw[<-zw];omega
  go_wp2_with fail;refine(zd5 b s (st.go 2) _ ((((g.drewN _).NX _ 1 oa).drewN _).NX _ 1 (by simp only[St.go];omega)) f (by simp only[St.go];omega)).mono ?_;rintro e q ⟨rfl,i,j⟩;go_wp2;go_ret;rw[zb d];exact⟨rfl,i,(((Ah.NS _ _).drewN _).NS _ _).trans j⟩
 have n:(ze s (st.i+1) == 123)=Z:=by simp[a]
 by_cases c:Ref.ZR s st=G
 .have d:H (Ref.xB s st=(65536+(Ref.xA s (st.i-1)-55296)*1024+Ref.xA s (st.i+5)-56320,st.go 11)):=(by show _=_;unfold Ref.xB;rw[iN a,IN c]);simp only[Ref.ZR,B8,decide_eq_true_eq] at c;have⟨⟨⟨P,S⟩,T⟩,W⟩:=c;go_wp2;go_ret;rw[zb d];exact⟨rfl,((((g.drewN _).NX _ 1 oa).drewN _).NX _ 10 (by simp only[St.go];omega)),((Ah.NS _ _).drewN _).NS _ _⟩
 have d:H (Ref.xB s st=Ref.Zi s 4 0 (st.go 1)):=(by show _=_;unfold Ref.xB;rw[iN a,iN c]);simp only[Ref.ZR,B8,decide_eq_true_eq] at c;have m:=zd c;go_wp2_with fail
 all_goals first
  |exact absurd (zb m) (by intro o;exact o ⟨⟨⟨‹_›,‹_›⟩,‹_›⟩,‹_›⟩)
  |skip
 all_goals
  refine(zfk b s 4 (st.go 1) _ oa (((g.drewN _).NX _ 1 oa).drewN _) f (by simp only[St.go];omega)).mono ?_;rintro e q ⟨rfl,i,j⟩;go_wp2;go_ret;rw[zb d];exact⟨rfl,i,((Ah.NS _ _).drewN _).trans j⟩
namespace Ref
end Ref
theorem zd6 (cls:Bool)(st:St)(w:E)(h:Lex w b s st)(k:dJ s<=400)(af:1<=st.i)(hi:st.i<=dJ s):Uh V 166 #[Ua (I ⟨b,0,U⟩),C cls] w λx w'=> x=.returned (M J (Ref.zI s cls st).1)/\Lex w' b s (Ref.zI s cls st).2/\zg (zr b) w w':=by
 have d:=zd h;have ag:=jJ s st.i;have ae:=xk s st.i;have av:=jJ s (st.i+1);have ar:=xk s (st.i+1);have v:0<=ze s st.i->st.i<dJ s:=(zw s st.i).1;have X:=zd v;clear v;go_enter func166,ntmps166;go_wp2_with fail;refine(z8 b s st _ h k).mono ?_;rintro e q ⟨rfl,nq,rfl⟩;go_wp2_with fail;refine(zbO _ _).mono ?_;rintro e q ⟨rfl,rfl⟩;have⟨c0,c1,c2,c3,f1,f2,f3⟩:=h;generalize u:ze s st.i=B at *;by_cases S:0<=Ref.yS B
 .have a:H (Ref.zI s cls st=(Ref.yS B,st.go 1)):=by show _=_;unfold Ref.zI;rw[u,IN S]
  clear u;go_wp2;go_ret;rw[zb a];exact⟨rfl,(d.drewN _).NX _ 1 oa,Ah.NS _ _⟩
 have m:=zd u;have p:=zd S;clear u;go_wp2_with fail;refine(zd4 _ _ ag ae).mono ?_;rintro e q ⟨rfl,rfl⟩;clear S;by_cases c:B=48
 .have hb:(B == 48)=G:=(by simp[c]);by_cases g:48<=ze s (st.i+1)/\ze s (st.i+1)<=57
  .have a:H (Ref.zI s cls st=(0,(st.go 1).fail 3 (st.i+1:Nat))):=(by show _=_;unfold Ref.zI;rw[zb m,iN (show ¬0<=Ref.yS B by have:=zb p;omega),IN c,IN g]);clear c;have⟨N,P⟩:=g;go_wp2_with fail;refine(z8 b s (st.go 1) _ ((d.drewN _).NX _ 1 oa) k).mono ?_;rintro e q ⟨rfl,y,rfl⟩;simp only[St.go];go_wp2_with fail;refine(z8 b s (st.go 1) _ (((d.drewN _).NX _ 1 oa).drewN _) k).mono ?_;rintro e q ⟨rfl,ah,rfl⟩;simp only[St.go];go_wp2_with fail;refine(yT b s (st.go 1) 3 _ _ ((((d.drewN _).NX _ 1 oa).drewN _))).mono ?_;rintro e z ⟨rfl,n,o⟩;go_wp2;go_ret;rw[zb a];exact⟨rfl,n,((Ah.NS _ _).drewN _).trans o⟩
  have a:H (Ref.zI s cls st=(0,st.go 1)):=(by show _=_;unfold Ref.zI;rw[zb m,iN (show ¬0<=Ref.yS B by have:=zb p;omega),IN c,iN g]);have t:=zd g;clear c;by_cases N:48<=ze s (st.i+1)
  .have P:57<ze s (st.i+1):=oa;clear g;go_wp2_with fail;refine(z8 b s (st.go 1) _ ((d.drewN _).NX _ 1 oa) k).mono ?_;rintro e q ⟨rfl,y,rfl⟩;simp only[St.go];go_wp2_with fail;refine(z8 b s (st.go 1) _ (((d.drewN _).NX _ 1 oa).drewN _) k).mono ?_;rintro e q ⟨rfl,ah,rfl⟩;simp only[St.go];go_wp2;go_ret;rw[zb a];exact⟨rfl,((d.drewN _).NX _ 1 oa).drewN _,(Ah.NS _ _).drewN _⟩
  clear g;go_wp2_with fail;refine(z8 b s (st.go 1) _ ((d.drewN _).NX _ 1 oa) k).mono ?_;rintro e q ⟨rfl,y,rfl⟩;simp only[St.go];go_wp2;go_ret;rw[zb a];exact⟨rfl,((d.drewN _).NX _ 1 oa).drewN _,(Ah.NS _ _).drewN _⟩
 have hb:(B == 48)=Z:=(by simp[c]);by_cases f:B=99
 .have ab:(B == 99)=G:=(by simp[f]);by_cases g:(97<=ze s (st.i+1)/\ze s (st.i+1)<=122)\/(65<=ze s (st.i+1)/\ze s (st.i+1)<=90)
  .have a:H (Ref.zI s cls st=(ze s (st.i+1) % 32,st.go 2)):=(by show _=_;unfold Ref.zI;rw[zb m,iN (show ¬0<=Ref.yS B by have:=zb p;omega),iN c,IN f,IN g]);have t:=zd g;clear c f g;go_wp2_with fail;refine(z8 b s (st.go 1) _ ((d.drewN _).NX _ 1 oa) k).mono ?_;rintro e q ⟨rfl,y,rfl⟩;simp only[St.go];obtain⟨N,P⟩|⟨N,P⟩:=zb t
   case' inr=>have d3:¬97<=ze s (st.i+1):=oa
   all_goals
    go_wp2;go_ret;rw[zb a];refine⟨qR ?_,(((d.drewN _).NX _ 1 oa).drewN _).NX _ 1 (by simp only[St.go];omega),((Ah.NS _ _).drewN _).NS _ _⟩
    first|rfl|omega
  have a:H (Ref.zI s cls st=(0,(st.go 1).fail 3 (st.i+1:Nat))):=(by show _=_;unfold Ref.zI;rw[zb m,iN (show ¬0<=Ref.yS B by have:=zb p;omega),iN c,IN f,iN g]);have t:=zd g;clear c f g;go_wp2_with fail;refine(z8 b s (st.go 1) _ ((d.drewN _).NX _ 1 oa) k).mono ?_;rintro e q ⟨rfl,y,rfl⟩;simp only[St.go];go_wp2_with fail
  all_goals first
   |(exfalso;have:=zb t;omega)
   |skip
  all_goals
   refine(yT b s (st.go 1) 3 _ _ ((((d.drewN _).NX _ 1 oa).drewN _))).mono ?_;rintro e z ⟨rfl,n,o⟩;go_wp2;go_ret;rw[zb a];exact⟨rfl,n,((Ah.NS _ _).drewN _).trans o⟩
 have ab:(B == 99)=Z:=(by simp[f]);by_cases i:B=120
 .have ac:(B == 120)=G:=(by simp[i]);have a:H (Ref.zI s cls st=Ref.Zi s 2 0 (st.go 1)):=(by show _=_;unfold Ref.zI;rw[zb m,iN (show ¬0<=Ref.yS B by have:=zb p;omega),iN c,iN f,IN i]);clear c f i;go_wp2_with fail;refine(zfk b s 2 (st.go 1) _ oa ((d.drewN _).NX _ 1 oa) k (by simp only[St.go];omega)).mono ?_;rintro e z ⟨rfl,n,o⟩;go_wp2;go_ret;rw[zb a];exact⟨rfl,n,(Ah.NS _ _).trans o⟩
 have ac:(B == 120)=Z:=(by simp[i]);by_cases l:B=117
 .have ad:(B == 117)=G:=(by simp[l]);have a:H (Ref.zI s cls st=Ref.xB s st):=(by show _=_;unfold Ref.zI;rw[zb m,iN (show ¬0<=Ref.yS B by have:=zb p;omega),iN c,iN f,iN i,IN l]);have v:=zb X oa;clear c f i l;go_wp2_with fail;refine(zbT b s st _ (d.drewN _) k af v).mono ?_;rintro e z ⟨rfl,n,o⟩;go_wp2;go_ret;rw[zb a];exact⟨rfl,n,Ah.trans o⟩
 have ad:(B == 117)=Z:=(by simp[l]);by_cases j:Ref.signB B=G\/cls=G/\B=45
 .have a:H (Ref.zI s cls st=(B,st.go 1)):=(by show _=_;unfold Ref.zI;rw[zb m,iN (show ¬0<=Ref.yS B by have:=zb p;omega),iN c,iN f,iN i,iN l,IN j]);have W:=zd j;clear c f i l j;by_cases F:Ref.signB B=G
  case' neg=>
   have T:cls=G:=(by obtain h|h:=zb W;exact absurd h F;exact h.1);have L:(B == 45)=G:=(by obtain h|h:=zb W;exact absurd h F;simp[h.2]);have y4:Ref.signB B=Z:=(by simpa using F);clear F;subst T
  all_goals
   go_wp2;go_ret;rw[zb a];exact⟨rfl,(d.drewN _).NX _ 1 oa,Ah.NS _ _⟩
 have y4:Ref.signB B=Z:=(by simp at j;exact j.1);by_cases r:cls=G/\B=98
 .have a:H (Ref.zI s cls st=(8,st.go 1)):=(by show _=_;unfold Ref.zI;rw[zb m,iN (show ¬0<=Ref.yS B by have:=zb p;omega),iN c,iN f,iN i,iN l,iN j,IN r]);have⟨T,L⟩:=r;have y5:(B == 98)=G:=(by simp[L]);have y6:(B == 45)=Z:=(by simp[L]);clear c f i l j L;subst T;go_wp2;go_ret;rw[zb a];exact⟨rfl,(d.drewN _).NX _ 1 oa,Ah.NS _ _⟩
 have a:H (Ref.zI s cls st=(0,st.fail 3 st.i)):=(by show _=_;unfold Ref.zI;rw[zb m,iN (show ¬0<=Ref.yS B by have:=zb p;omega),iN c,iN f,iN i,iN l,iN j,iN r]);cases cls
 case' true=>
  have y5:(B == 98)=Z:=(by simp at r;simpa using r);have y6:(B == 45)=Z:=by simp at j;simpa using j.2
 all_goals
  clear c f i l j r;go_wp2_with fail;refine(yT b s st 3 _ _ (d.drewN _)).mono ?_;rintro e z ⟨rfl,n,o⟩;go_wp2;go_ret;rw[zb a];exact⟨rfl,n,Ah.trans o⟩
def AF:Ai->An
 | []=>[]
 |(a,b) :: r=>M J a :: M J b :: AF r
def yB (w:E)(base:Nat)(v:Y)(l:Ai):Prop:=w.ownsRow base 271 2 v (D l) (AF l)
theorem XI (c:Array Y)(l:Ai)(a:c.toList=AF l)(d:AF l=AF l->(AF l).length=D l*2)(e:D l<=maxLen):yB (dB w (Ub c 271)) (y (A w)) (K (I ⟨y (A w),0,U⟩) (D l) (D l)) l:=by have b:=d rfl;refine⟨b,O ⟨y (A w),D l,c,rfl,AD _,heap_alloc_new w _,AD _,e,?_,?_⟩⟩;rw[<-b,<-a];simp;rw[a,FY oa]
theorem jZ:∀l:Ai,(AF l).length=D l*2
 | []=>rfl
 |(a,b) :: r=>by simp only[AF,BH,jZ r];omega
theorem Yi (n base:Nat)(o:y (A W)=n)(q:base<=n)(c:Array Y)(l:Ai)(h:c.toList=AF l)(m:D l<=maxLen)(k:Nat)(j:k=D l):yB (dB W (Ub c 271)) base (K (I ⟨n,0,U⟩) k k) l:=by subst o;subst j;have⟨e,a⟩:=XI W c l h (λ_=>jZ l) m;refine⟨e,?_⟩;obtain a|⟨g,b,d,p,r,i,f⟩:=a;exact Q a;refine O ⟨g,b,d,p,?_,i,f⟩;omega
theorem zd7:Uh V 163 #[] w λx w'=>x=.returned (K (I ⟨y (A w),0,U⟩) 1 1)/\yB w' (y (A w)) (K (I ⟨y (A w),0,U⟩) 1 1) [(48,57)]/\zke w w':=by go_enter func163,ntmps163;go_wp2;go_ret;exact⟨rfl,XI w _ [(48,57)] rfl (λ_=>jZ _) od,Ag⟩
theorem WP:Uh V 164 #[] w λx w'=>x=.returned (K (I ⟨y (A w),0,U⟩) 4 4)/\yB w' (y (A w)) (K (I ⟨y (A w),0,U⟩) 4 4) [(48,57),(65,90),(95,95),(97,122)]/\zke w w':=by go_enter func164,ntmps164;go_wp2;go_ret;exact⟨rfl,XI w _ [(48,57),(65,90),(95,95),(97,122)] rfl (λ_=>jZ _) od,Ag⟩
theorem zd8:Uh V 165 #[] w λx w'=>x=.returned (K (I ⟨y (A w),0,U⟩) 10 10)/\yB w' (y (A w)) (K (I ⟨y (A w),0,U⟩) 10 10) [(9,13),(32,32),(160,160),(5760,5760),(8192,8202),(8232,8233),(8239,8239),(8287,8287),(12288,12288),(65279,65279)]/\zke w w':=by go_enter func165,ntmps165;go_wp2;go_ret;exact⟨rfl,XI w _ [(9,13),(32,32),(160,160),(5760,5760),(8192,8202),(8232,8233),(8239,8239),(8287,8287),(12288,12288),(65279,65279)] rfl (λ_=>jZ _) od,Ag⟩
theorem zk {P:Aj}{w w':E}{base:Nat}{e:TypeId}{size:Nat}{v:Y}{n:Nat}{xs:An}(h:dA w base e size v n xs)(k:zg P w w')(m:∀g,dH v=I g->¬P g):w'.ownsRow base e size v n xs:=by have⟨f,a⟩:=h;refine⟨f,?_⟩;obtain a|⟨g,c,d,rfl,j,b,i⟩:=a;exact Q a;refine O ⟨g,c,d,rfl,j,?_,i⟩;have l:g<y (A w):=(A1.1 b).1;rw[k.block g l (m g rfl)];exact b
theorem zL {w:E}{base base':Nat}{e:TypeId}{size:Nat}{v:Y}{n:Nat}{xs:An}(h:w.ownsRow base e size v n xs)(j:base'<=base):w.ownsRow base' e size v n xs:=by have⟨d,a⟩:=h;refine⟨d,?_⟩;obtain a|⟨g,b,c,rfl,k,i,f⟩:=a;exact Q a;exact O ⟨g,b,c,rfl,oa,i,f⟩
theorem zh {w:E}{base:Nat}{e:TypeId}{size:Nat}{v:Y}{n:Nat}{xs:An}(h:dA w base e size v n xs)(g:Nat)(a:dH v=I g):base<=g/\g<y (A w):=h.lt g a
theorem yB.keep {P:Aj}{w w':E}{base:Nat}{v:Y}{l:Ai}(h:yB w base v l)(k:zg P w w')(b:∀g,base<=g->g<y (A w)->¬P g):yB w' base v l:=
 zk h k λg a=>b g (zh h g a).1 (zh h g a).2
theorem yB.base {w:E}{base base':Nat}{v:Y}{l:Ai}(h:yB w base v l)(a:base'<=base):yB w base' v l:=zL h a
theorem zgq (n:Nat)(a:y (A w)=n):Uh V 163 #[] w λx w'=>x=.returned (K (I ⟨n,0,U⟩) 1 1)/\yB w' n (K (I ⟨n,0,U⟩) 1 1) [(48,57)]/\zke w w':=by subst a;exact zd7 w
theorem C0 (n:Nat)(a:y (A w)=n):Uh V 164 #[] w λx w'=>x=.returned (K (I ⟨n,0,U⟩) 4 4)/\yB w' n (K (I ⟨n,0,U⟩) 4 4) [(48,57),(65,90),(95,95),(97,122)]/\zke w w':=by subst a;exact WP w
theorem zgr (n:Nat)(a:y (A w)=n):Uh V 165 #[] w λx w'=>x=.returned (K (I ⟨n,0,U⟩) 10 10)/\yB w' n (K (I ⟨n,0,U⟩) 10 10) [(9,13),(32,32),(160,160),(5760,5760),(8192,8202),(8232,8233),(8239,8239),(8287,8287),(12288,12288),(65279,65279)]/\zke w w':=by subst a;exact zd8 w
structure Pt where
 neg:Bool
 spans:Ai
abbrev _root_.Go.Proofs.YtofeiledkmfnfaaGreatDoor.Ba:=List Pt
namespace Ref
def Vd:Ai:=[(48,57)]
def kK:Ai:=[(48,57),(65,90),(95,95),(97,122)]
def Qv:Ai:=[(9,13),(32,32),(160,160),(5760,5760),(8192,8202),(8232,8233),(8239,8239),(8287,8287),(12288,12288),(65279,65279)]
def backB (b:Int):Bool:=(decide (49<=b) && decide (b<=57)) ||(b == 107) ||(b == 112) ||(b == 80)
def setL (b:Int):Ai:=if b=100\/b=68 then Vd else if b=119\/b=87 then kK else if b=115\/b=83 then Qv else []
def zF (s:Al)(cls:Bool)(st:St):Pt×Bool×St:=
 if backB (ze s (st.i+1))=G then(⟨Z,[]⟩,G,(st.go 1).fail 6 st.i)
 else if setL (ze s (st.i+1))≠[] then(⟨decide (ze s (st.i+1)<97),setL (ze s (st.i+1))⟩,Z,st.go 2)
 else(⟨Z,[((zI s cls (st.go 1)).1,(zI s cls (st.go 1)).1)]⟩,G,(zI s cls (st.go 1)).2)
end Ref
theorem Ref.OC {b:Int}(h:Ref.backB b=G):(49<=b/\b<=57)\/b=107\/b=112\/b=80:=by simp[Ref.backB] at h;omega
theorem Ref.O4 {b:Int}(h:¬Ref.backB b=G):¬(49<=b/\b<=57)/\b≠107/\b≠112/\b≠80:=by simp[Ref.backB] at h;omega
theorem Ref.Pb {b:Int}(h:Ref.setL b=[]):(b == 100)=Z/\(b == 68)=Z/\(b == 119)=Z/\(b == 87)=Z/\(b == 115)=Z/\(b == 83)=Z:=by
 unfold Ref.setL at h
 (repeat' split at h)<;>simp_all [Ref.Vd,Ref.kK,Ref.Qv]
theorem Ref.OD {b:Int}(h:¬Ref.setL b=[]):((b == 100)=G/\Ref.setL b=Ref.Vd)\/((b == 100)=Z/\(b == 68)=G/\Ref.setL b=Ref.Vd)\/ ((b == 100)=Z/\(b == 68)=Z/\(b == 119)=G/\Ref.setL b=Ref.kK)\/((b == 100)=Z/\(b == 68)=Z/\(b == 119)=Z/\(b == 87)=G/\Ref.setL b=Ref.kK)\/ ((b == 100)=Z/\(b == 68)=Z/\(b == 119)=Z/\(b == 87)=Z/\(b == 115)=G/\Ref.setL b=Ref.Qv)\/ ((b == 100)=Z/\(b == 68)=Z/\(b == 119)=Z/\(b == 87)=Z/\(b == 115)=Z/\(b == 83)=G/\Ref.setL b=Ref.Qv):=by unfold Ref.setL at *;by_cases a:b=100;subst a;simp;by_cases c:b=68;subst c;simp;by_cases d:b=119;subst d;simp;by_cases e:b=87;subst e;simp;by_cases f:b=115;subst f;simp;by_cases g:b=83;subst g;simp;simp[a,c,d,e,f,g] at h
theorem zf {P:Aj}{w w':E}(h:zg P w w')(p:Addr)(v:Y)(a:d w p=I v)(b:¬P p.block):d w' p=I v:=
 (h.cell (zic w p a) b).trans a
theorem zp {P:Aj}{w w':E}(h:zg P w w')(p:Addr)(a:p.block<y (A w))(c:g w p=Z)(b:¬P p.block):g w' p=Z:=
 (h.frozen a b).trans c
theorem Lex.keep {P:Aj}{w w':E}{b:Nat}{s:Al}{st:St}(h:Lex w b s st)(k:zg P w w')(a:¬P b):Lex w' b s st:=je.keep h k a
theorem Lex.alloc {w:E}{b:Nat}{s:Al}{st:St}(h:Lex w b s st)(o:Obj):Lex (w.alloc o) b s st:=h.keep ((zg.refl (λ_=>False) w).alloc o) id
theorem Lex.lt {w:E}{b:Nat}{s:Al}{st:St}(h:Lex w b s st):b<y (A w):=je.lt h
theorem zj (n:Nat)(a:y (A W)=n)(c:Array Y)(T:TypeId)(off:Nat)(v:Y)(h:c[off]?=I v):(dB W (Ub c T)).cell? ⟨n,off,U⟩=I v:=by subst a;rw[MA _ _ _ _ rfl];exact h
theorem zt (n:Nat)(a:y (A W)=n)(c:Array Y)(T:TypeId)(off:Nat):(dB W (Ub c T)).frozen? ⟨n,off,U⟩=Z:=by subst a;exact World.frozen?_alloc_at _ _ _ _ rfl
theorem zg.fresh {P:Aj}{a w:E}(h:zg P a w)(p:Addr)(b:y (A a)<=p.block)(u:Y):zg P a (w.setCell p u):=h.setCell (Or.inr b) u
theorem zgs (base:Nat):yB w base (K U 0 0) []:=A0 w base _ _
theorem Ve (cls:Bool)(st:St)(w:E)(h:Lex w b s st)(hs:dJ s<=400)(hi:st.i<dJ s):Uh V 123 #[Ua (I ⟨b,0,U⟩),C cls] w λx w'=> ∃sv,x=.returned (Ue #[Uf #[C (Ref.zF s cls st).1.neg,sv],C (Ref.zF s cls st).2.1])/\yB w' (dg (A w)) sv (Ref.zF s cls st).1.spans/\Lex w' b s (Ref.zF s cls st).2.2/\zg (zr b) w w':=by
 have ao:=zd h;have aP:=h.lt;have aO:=jJ s (st.i+1);have aL:=xk s (st.i+1);have aQ:∀w a n c n' X,(binOp .neq 272 (K a n c) (K U n' X)).run V w=.ok (C (!a.isNone)) w:=λw a n c n' X=>run_neq_slice_nil_any (P:=V) w 272 271 a n c n' X underlying272;have⟨c0,c1,c2,c3,f1,f2,f3⟩:=h;go_enter func123,ntmps123;go_wp2_with fail;have L:=zd ((ao.NX ((st.i:Int)+1) 1 oa).alloc (Ub #[C Z,K U 0 0] 274));refine(z8 b s (st.go 1) _ L hs).mono ?_;rintro e w1 ⟨rfl,nq,rfl⟩;simp only[St.go];generalize p:ze s (st.i+1)=B at *;by_cases m:Ref.backB B=G
 .have y:H (Ref.zF s cls st=(⟨Z,[]⟩,G,(st.go 1).fail 6 st.i)):=by show _=_;unfold Ref.zF;rw[p,IN m]
  have S:=Ref.OC m;clear p m;have aa:(49<=B/\B<=57)\/(¬49<=B\/57<B)/\((B == 107)=G\/(B == 107)=Z/\((B == 112)=G\/(B == 112)=Z/\(B == 80)=G)):=by simp;omega
  clear S;obtain⟨l,q2⟩|⟨l|l,q2|⟨q2,q3|⟨q3,q4⟩⟩⟩:=aa
  all_goals
   go_wp2_with fail;refine(yT b s (st.go 1) 6 _ _ (L.drewN _)).mono ?_;rintro e j ⟨rfl,q,d⟩;have t:dx j ⟨dg (A w),0,U⟩=I (C Z):=zf (d) _ _ (zj _ _ ov _ _ 0 _ rfl) (by unfold zr;simp;omega);have z:dx j ⟨dg (A w),1,U⟩=I (K U 0 0):=zf d _ _ (zj _ _ ov _ _ 1 _ rfl) (by unfold zr;simp;omega);have r2:dz j ⟨dg (A w),0,U⟩=Z:=zp d _ ov (zt _ _ ov _ _ 0) (by unfold zr;simp;omega);have r3:dz j ⟨dg (A w),1,U⟩=Z:=zp d _ ov (zt _ _ ov _ _ 1) (by unfold zr;simp;omega);go_wp2_with fail;refine bodyPost_ret (v:=Ue #[Uf #[C Z,K U 0 0],C G]) (by simp[results,results123,go_sem,t,z]) rfl ?_;rw[zb y];exact⟨_,rfl,zgs _ _,q.keep (((zg.refl (zr (dg (A w))) _).NS _ _).NS _ _) Af,
    (((((((zg.refl _ _).NS _ _).alloc _).drewN _).trans d).fresh ⟨dg (A w),0,U⟩ (AD _) _).fresh ⟨dg (A w),1,U⟩ (AD _) _)⟩
 have S:=Ref.O4 m;have aa:(¬49<=B\/57<B)/\(B == 107)=Z/\(B == 112)=Z/\(B == 80)=Z:=by simp;omega
 have⟨l,q2,q3,q4⟩:=aa;by_cases r:Ref.setL B=[]
 ·(have y:H (Ref.zF s cls st=(⟨Z,[((Ref.zI s cls (st.go 1)).1,(Ref.zI s cls (st.go 1)).1)]⟩,G,(Ref.zI s cls (st.go 1)).2)):=by show _=_;unfold Ref.zF;rw[p,iN m,iN (by simp[r])]);have ab:=Ref.Pb r;have⟨u,F,W,x4,x5,x6⟩:=ab;clear p m r S;obtain l|l:=l
  all_goals
   go_wp2_with fail;refine(zd6 b s cls (st.go 1) _ (L.drewN _) hs (by simp only[St.go];omega) (by simp only[St.go];omega)).mono ?_;rintro e j ⟨rfl,q,d⟩;have t:dx j ⟨dg (A w),0,U⟩=I (C Z):=zf (d) _ _ (zj _ _ ov _ _ 0 _ rfl) (by unfold zr;simp;omega);have z:dx j ⟨dg (A w),1,U⟩=I (K U 0 0):=zf d _ _ (zj _ _ ov _ _ 1 _ rfl) (by unfold zr;simp;omega);have r2:dz j ⟨dg (A w),0,U⟩=Z:=zp d _ ov (zt _ _ ov _ _ 0) (by unfold zr;simp;omega);have r3:dz j ⟨dg (A w),1,U⟩=Z:=zp d _ ov (zt _ _ ov _ _ 1) (by unfold zr;simp;omega);have aq:dg (A w)<dg (A j):=zic j ⟨dg (A w),0,U⟩ t;go_wp2_with fail;refine bodyPost_ret (v:=Ue #[Uf #[C Z,K (I ⟨dg (A j),0,U⟩) 1 1],C G]) (by simp[results,results123,go_sem,t,z,aq]) rfl ?_;rw[zb y];generalize (Ref.zI s cls (st.go 1)).1=N at *;refine⟨_,rfl,?_,?_,?_⟩;exact Yi _ _ _ ov oa _ [(N,N)] rfl (by simp[maxLen]) 1 rfl;exact(q.keep (((zg.refl (zr (dg (A w))) _).NS _ _).NS _ _) Af).alloc _;exact(((((((zg.refl _ _).NS _ _).alloc _).drewN _).trans d).fresh ⟨dg (A w),0,U⟩ (AD _) _).fresh ⟨dg (A w),1,U⟩ (AD _) _).alloc _
 (have y:H (Ref.zF s cls st=(⟨decide (B<97),Ref.setL B⟩,Z,st.go 2)):=by show _=_;unfold Ref.zF;rw[p,iN m,IN r]);have ab:=Ref.OD r;clear p m r S;obtain l|l:=l
 case' inl=>have aR:¬49<=B:=l
 all_goals
  obtain⟨u,o⟩|⟨u,F,o⟩|⟨u,F,W,o⟩|⟨u,F,W,x4,o⟩|⟨u,F,W,x4,x5,o⟩|⟨u,F,W,x4,x5,x6,o⟩:=ab
 all_goals
  have Hq:=zd o;clear o;go_wp2_with fail
  first
   |(refine(zgq _ (dg (A w)+1) ov).mono ?_;rintro e j ⟨rfl,T,d⟩)
   |(refine(C0 _ (dg (A w)+1) ov).mono ?_;rintro e j ⟨rfl,T,d⟩)
   |(refine(zgr _ (dg (A w)+1) ov).mono ?_;rintro e j ⟨rfl,T,d⟩)
 all_goals
  have q:=(L.drewN nq).keep d id;have ap:=zd q;have⟨d0,d1,d2,d3,g1,g2,g3⟩:=q;have t:dx j ⟨dg (A w),0,U⟩=I (C Z):=zf (d) _ _ (zj _ _ ov _ _ 0 _ rfl) id;have z:dx j ⟨dg (A w),1,U⟩=I (K U 0 0):=zf d _ _ (zj _ _ ov _ _ 1 _ rfl) id;have r2:dz j ⟨dg (A w),0,U⟩=Z:=zp d _ ov (zt _ _ ov _ _ 0) id;have r3:dz j ⟨dg (A w),1,U⟩=Z:=zp d _ ov (zt _ _ ov _ _ 1) id;have aJ:(st.go 1).i<=1000:=(by simp only[St.go];omega);have an:=zd T;have al:=zd d;clear T d;go_wp2_with fail
 all_goals
  refine bodyPost_ret (v:=Ue #[Uf #[C (decide (B<97)),_],C Z]) (by simp[results,results123,go_sem,t,z];rfl) rfl ?_;rw[zb y];refine⟨_,rfl,?_,?_,?_⟩;rw[zb Hq];exact(an.keep ((((zg.refl (λk=>k=b\/k=dg (A w)) _).setCell (Or.inl (Or.inl rfl)) _).setCell (Or.inl (Or.inr rfl)) _).setCell (Or.inl (Or.inr rfl)) _) (by intro g hg _ hh;omega)).base oa;exact(ap.NX _ 1 (by simp only[St.go];omega)).keep (((zg.refl (zr (dg (A w))) _).NS _ _).NS _ _) Af;exact((((((((zg.refl _ _).NS _ _).alloc _).drewN _).trans (al.mono (λ_ _ f=>f.elim))).NS _ _).fresh ⟨dg (A w),0,U⟩ (AD _) _).fresh ⟨dg (A w),1,U⟩ (AD _) _)
namespace Ref
def jf (s:Al)(p:Nat):Nat->Nat->Int->Option Int
 |0,_,c=>I c
 |k+1,i,c=>if ze s (p+i)<128\/191<ze s (p+i) then U else jf s p k (i+1) (c*64+ze s (p+i)-128)
def headK (b:Int):Nat:=(headN b).toNat
theorem Vf (b:Int):headN b=(headK b:Int):=by unfold headK headN;(repeat' split)<;>rfl
theorem zbU (b:Int):headK b<=4:=by unfold headK headN;(repeat' split)<;>decide
theorem headC_bd (b:Int)(a:0<=b):0<=jU b/\jU b<128:=by unfold jU;(repeat' split)<;>omega
def Yj (n:Nat)(c:Int):Bool:=decide (c<jz n) ||decide (1114111<c) ||(decide (55296<=c) && decide (c<=57343))
def xt (s:Al)(p:Nat):Option (Nat×Int):=
 if headK (ze s p)=0\/q s<p+headK (ze s p) then U
 else match jf s p (headK (ze s p)-1) 1 (jU (ze s p)) with
  |none=>U
  |some c=>if Yj (headK (ze s p)) c=G then U else I (headK (ze s p),c)
def qb (s:Al):Nat->Nat->Ai->Ai×Int
 |0,_,acc=>(acc,-1)
 |f+1,p,acc=>if p<q s then(match xt s p with
   |none=>(acc,(p:Int))
   |some (n,c)=>qb s f (p+n) (acc++[(c,(p:Int))])) else(acc,-1)
def zu (s:Al):Ai×Int:=qb s (q s+1) 0 []
variable {s}
theorem vp {k i:Nat}{c:Int}(h:ze s (p+i)<128\/191<ze s (p+i)):jf s p (k+1) i c=U:=by simp only[jf];rw[IN h]
theorem qF {k i:Nat}{c:Int}(h:¬(ze s (p+i)<128\/191<ze s (p+i))):jf s p (k+1) i c=jf s p k (i+1) (c*64+ze s (p+i)-128):=by simp only[jf];rw[iN h]
theorem ke (h:¬p<q s):qb s (f+1) p acc=(acc,-1):=by simp only[qb];rw[iN h]
theorem q9 (h:p<q s)(a:xt s p=U):qb s (f+1) p acc=(acc,(p:Int)):=by simp only[qb];rw[IN h,a]
theorem qm (h:p<q s)(a:xt s p=I (n,c)):qb s (f+1) p acc=qb s f (p+n) (acc++[(c,(p:Int))]):=by simp only[qb];rw[IN h,a]
theorem vq (h:headK (ze s p)=0\/q s<p+headK (ze s p)):xt s p=U:=by unfold xt;rw[IN h]
theorem Yk (h:¬(headK (ze s p)=0\/q s<p+headK (ze s p)))(a:jf s p (headK (ze s p)-1) 1 (jU (ze s p))=U):xt s p=U:=by unfold xt;rw[iN h,a]
theorem zd9 (h:¬(headK (ze s p)=0\/q s<p+headK (ze s p)))(a:jf s p (headK (ze s p)-1) 1 (jU (ze s p))=I c)(b:Yj (headK (ze s p)) c=G):xt s p=U:=by unfold xt;rw[iN h,a];simp[b]
theorem WQ (h:¬(headK (ze s p)=0\/q s<p+headK (ze s p)))(a:jf s p (headK (ze s p)-1) 1 (jU (ze s p))=I c)(b:Yj (headK (ze s p)) c=Z):xt s p=I (headK (ze s p),c):=by unfold xt;rw[iN h,a];simp[b]
end Ref
theorem Tryz.Pv:(prog.info? 171).map (λi=>(i.zero,i.size,i.bytes))=I (I (Uf #[M J 0,M J 0]),2,16):=om
def KQ (w:E)(base:Nat)(v:Y)(l:Ai):Prop:=w.ownsRow base 171 2 v (D l) (AF l)
theorem JH (l m:Ai):AF (l++m)=AF l++AF m:=by
 induction l with
 |nil=>rfl
 |cons x r c=>have⟨a,b⟩:=x;simp only[Ci,AF,c]
def CL:Nat->Int
 |0=>128
 |1=>8192
 |2=>524288
 |3=>33554432
 |_=>2147483648
theorem GK:CL k<=2147483648:=by unfold CL;split<;>omega
theorem zgt (h:k<=3)(d b:Int)(c:d<CL k)(e:b<=191):d*64+b-128<CL (k+1):=by have a:k=0\/k=1\/k=2\/k=3:=oa;obtain rfl|rfl|rfl|rfl:=a<;>simp only[CL] at *<;>omega
theorem vr (w:E)(hs:s.size<=400):Uh V 34 #[Uc s] w λx w'=> ∃v,x=.returned (Ue #[v,M J (Ref.zu s).2])/\KQ w' (dg (A w)) v (Ref.zu s).1/\zke w w':=by
 have⟨i0,B,F,L,P⟩:=info_parts Tryz.Pv;go_enter func34,ntmps34;go_wp2_with fail;go_loopw[4,5] (λv p wr=>∃(q f:Nat) (acc:Ai),p=M J q/\q<=s.size/\(D acc)<=q/\KQ wr (dg (A w)) v acc/\zke w wr/\H (s.size<q+f)/\H (Ref.zu s=Ref.qb s f q acc))
  (λ_ p _=>s.size-(intOf p).toNat)
 exact⟨0,s.size+1,[],rfl,oa,ov,A0 _ _ _ _,zg.refl _ _,(by show _<_;omega),rfl⟩;obtain⟨q,f,acc,rfl,hq,aI,b,o,hf,l⟩:=hrel;obtain⟨f,rfl⟩:∃f',f=f'+1:=⟨f-1,by have:=zb hf;omega⟩
 by_cases g:q<s.size
 .go_wp2_with fail;rw[ZP,<-yY s q g];have X:=(zw s q).2 g;have ag:=xk s q;refine(EG _ _ X ag).mono ?_;rintro e w1 ⟨rfl,u⟩;have ab:=u.symm;subst ab;clear u;rw[Ref.Vf];have hc:=Ref.headC_bd (ze s q) X;have hK:=Ref.zbU (ze s q);generalize hN:Ref.headK (ze s q)=N at *;generalize hC:Ref.jU (ze s q)=h at *;have a:=zd hN;have W:=zd hC;clear hN hC X ag;by_cases n:N=0\/s.size<q+N
  ·(have HG:H (Ref.zu s=(acc,(q:Int))):=by rw[zb l];exact Ref.q9 g (Ref.vq (by rw[zb a];exact n)));by_cases h0:N=0
   .subst h0;clear n;go_wp2_with fail;go_ret2;rw[zb HG];exact⟨_,rfl,b,o⟩
   have h2:s.size<q+N:=oa;have h3:((N:Int) == 0)=Z:=ou;clear n;go_wp2_with fail;go_ret2;rw[zb HG];exact⟨_,rfl,b,o⟩
  have h0:((N:Int) == 0)=Z:=ou;have h2:q+N<=s.size:=oa;have h3:1<=N:=oa;have T:H (¬(Ref.headK (ze s q)=0\/s.size<q+Ref.headK (ze s q))):=(by rw[zb a];exact n);clear n;have aN:decide ((s.size:Int)<(q:Int)+N)=Z:=ou;have z:=zd b;have m:=zd o;have HI:=zd (Ur B (Ur F (Ur L P)));clear b o B F L P;go_wp2_with fail
  go_loop [7,8] (λc i=>∃(k:Nat) (d:Int),i=M J k/\c=M J d/\1<=k/\k<=N/\0<=d/\d<=2147483648/\H (d<CL k)/\H (Ref.jf s q (N-1) 1 h=Ref.jf s q (N-k) k d))
   (λ_ i=>N-(intOf i).toNat)
  case atStart=>exact⟨1,h,rfl,rfl,oa,oa,oa,oa,(by show h<8192;omega),rfl⟩
  case round=>
   obtain⟨k,d,rfl,rfl,aO,aP,aK,aL,ak,y⟩:=hrel;have aw:=jJ s (q+k);have ax:=xk s (q+k);by_cases aQ:k<N
   .have hw:wrap64 ((s[q+k]' oa).toNat:Int)=ze s (q+k):=(by rw[ZP,yY]);by_cases r:ze s (q+k)<128\/191<ze s (q+k)
    ·(have HG:H (Ref.zu s=(acc,(q:Int))):=by rw[zb l];exact Ref.q9 g (Ref.Yk T (by rw[zb a,zb W,zb y,show N-k=(N-k-1)+1 by omega];exact Ref.vp r)));by_cases ay:ze s (q+k)<128
     .clear r;go_wp2_with fail;go_ret2;rw[zb HG];exact⟨_,rfl,z,m⟩
     have aj:191<ze s (q+k):=oa;clear r;go_wp2_with fail;go_ret2;rw[zb HG];exact⟨_,rfl,z,m⟩
    (have aq:H (Ref.jf s q (N-1) 1 h=Ref.jf s q (N-(k+1)) (k+1) (d*64+ze s (q+k)-128)):=by rw[zb y,show N-k=(N-(k+1))+1 by omega];exact Ref.qF r);have ay:128<=ze s (q+k):=oa;have aj:ze s (q+k)<=191:=oa;have ad:=zd (zgt k oa d _ ak aj);have az:=GK (k+1);have aS:d*64+ze s (q+k)-128<=2147483648:=(by have:=zb ad;omega);clear r az;go_wp2_with fail;go_round
    case rel=>exact⟨k+1,_,Ae,rfl,oa,oa,oa,oa,ad,aq⟩
    case measure=>simp[intOf];omega
   have Hd:H (Ref.jf s q (N-1) 1 h=I d):=(by rw[zb y,show N-k=0 by omega];rfl);clear aw ax y ak;go_wp2_with fail;refine(zgp _ _).mono ?_;rintro e w1 ⟨rfl,u⟩;have ab:=u.symm;subst ab;clear u;by_cases t:Ref.Yj N d=G
   ·(have HG:H (Ref.zu s=(acc,(q:Int))):=by rw[zb l];exact Ref.q9 g (Ref.zd9 T (by rw[zb a,zb W];exact Hd) (by rw[zb a];exact t)));simp only[Ref.Yj,FG,B8,decide_eq_true_eq] at t;have aA:d<Ref.jz N\/¬d<Ref.jz N/\(1114111<d\/¬1114111<d/\55296<=d/\d<=57343):=oa;clear t;obtain y1|⟨y1,y2|⟨y2,y3,S⟩⟩:=aA
    all_goals
     go_wp2_with fail;go_ret2;rw[zb HG];exact⟨_,rfl,z,m⟩
   (have aa:Ref.Yj N d=Z:=(by simpa using t);have HG:H (Ref.zu s=Ref.qb s f (q+N) (acc++[(d,(q:Int))])):=by rw[zb l];have:=Ref.qm (f:=f) (acc:=acc) g (Ref.WQ T (by rw[zb a,zb W];exact Hd) (by rw[zb a];exact aa));rw[zb a] at this;exact this);simp only[Ref.Yj,Bool.or_eq_false_iff,Bool.and_eq_false_iff,decide_eq_false_iff_not] at aa;have⟨⟨y1,y2⟩,y3⟩:=aa;clear t;have⟨B,F,L,P⟩:=zb HI;have b:dA wr (dg (A w)) 171 2 _ (D acc) (AF acc):=zb z;have S:¬55296<=d\/55296<=d/\57343<d:=oa;clear y3;obtain S|⟨S,y5⟩:=S
   all_goals
    go_wp2_with(at_builtin;refine wpList_append_own _ rfl _ _ 98 rfl (dg (A w)) 171 i0 (Uf #[M J 0,M J 0]) 2 16 underlying98 B F L P rfl od _ _ _ rfl (AZ b _) ⟨dg (A wr),0,U⟩ 1 1 [M J d,M J (q:Int)] rfl rfl (cell_two_new _ _ _ _) (λx hx=>by simp at hx;obtain rfl|rfl:=hx<;>rfl) Ac oa (by have:=m.size;simp;omega) ?_;intro v' w3 aD aB aR);go_roundw
    case rel=>
     exact⟨q+N,f,acc++[(d,(q:Int))],Ae,h2,by simp;omega,(by
      show dA _ _ _ _ _ _ _;rw[JH,AO];exact aD),(m.alloc _).grown aB (λj hj=>Or.inr (b.lt j hj).1),(by have:=zb hf;show _<_;omega),HG⟩
    case measure=>simp[intOf];omega
 (have HG:H (Ref.zu s=(acc,-1)):=by rw[zb l];exact Ref.ke g);go_wp2_with fail;go_ret2;rw[zb HG];exact⟨_,rfl,b,o⟩
namespace Ref
def Kg (s:Al):Nat->Nat->Bool
 |0,p=>p == q s
 |f+1,p=>if p<q s then(match xt s p with
   |none=>Z
   |some (n,_)=>Kg s f (p+n)) else p == q s
def Good (s:Al)(p:Nat):Prop:=∃f,Kg s f p=G
variable {s}
theorem qo (h:xt s p=I (n,c)):1<=n/\p+n<=q s/\n<=4/\n=headK (ze s p)/\0<=c/\c<=1114111/\¬(55296<=c/\c<=57343):=by unfold xt at h;split at h;cases h;rename_i d;split at h;cases h;rename_i b e;split at h;cases h;rename_i a;simp only[Option.some.injEq,Prod.mk.injEq] at h;obtain⟨rfl,rfl⟩:=h;have:=zbU (ze s p);simp only[Yj,FG,B8,decide_eq_true_eq] at a;have f:0<=jz (headK (ze s p)):=(by unfold jz;(repeat' split)<;>omega);omega
theorem Good.le (h:Good s p):p<=q s:=by
 have⟨f,h⟩:=h;cases f with
 |zero=>simp[Kg] at h;omega
 |succ f=>
  simp only[Kg] at h;split at h;omega;simp at h;omega
theorem Good.next (h:Good s p)(b:p<q s):∃n c,xt s p=I (n,c)/\Good s (p+n):=by
 have⟨f,h⟩:=h;cases f with
 |zero=>simp[Kg] at h;omega
 |succ f=>
  simp only[Kg] at h;rw[IN b] at h;split at h;cases h;rename_i n c a;exact⟨n,c,a,f,h⟩
theorem YK (s:Al):∀(f p:Nat) (acc:Ai),q s<p+f->((qb s f p acc).2 = -1->p<=q s->Good s p)
 |0,p,acc,h,_,e=>oa
 |f+1,p,acc,h,a,e=>by
  by_cases b:p<q s
  .cases ho:xt s p with
   |none=>rw[q9 b ho] at a;simp at a
   |some r=>
    have⟨n,c⟩:=r;have i:=qo ho;rw[qm b ho] at a;have⟨g,d⟩:=YK s f (p+n) _ oa a oa;exact⟨g+1,by simp only[Kg];rw[IN b,ho];exact d⟩
  exact⟨0,by simp[Kg];omega⟩
theorem Vg (s:Al):∀(f p:Nat) (acc:Ai),∃t,(qb s f p acc).1=acc++t
 |0,p,acc=>⟨[],by simp[qb]⟩
 |f+1,p,acc=>by
  by_cases a:p<q s
  .cases ho:xt s p with
   |none=>exact⟨[],by rw[q9 a ho];simp⟩
   |some r=>
    have⟨n,c⟩:=r;rw[qm a ho];have⟨t,b⟩:=Vg s f (p+n) (acc++[(c,(p:Int))]);exact⟨[(c,(p:Int))]++t,by rw[b,Bu]⟩
  exact⟨[],by rw[ke a];simp⟩
variable (s)
theorem QO (_a:i<=q s):(s.extract i (q s)).size=q s-i:=ov
theorem Vh (a:i<=q s):ze (s.extract i (q s)) k=ze s (i+k):=by by_cases b:i+k<q s;rw[yY s (i+k) b,yY _ k (by rw[QO s i a];omega)];simp[ByteArray.getElem_extract];rw[qE s (i+k) oa,qE _ k (by rw[QO s i a];omega)]
theorem WR (s:Al)(i p:Nat)(a:i<=q s):∀(k j:Nat) (c:Int),jf (s.extract i (q s)) p k j c=jf s (i+p) k j c
 |0,_,_=>rfl
 |k+1,j,c=>by
  simp only[jf];rw[Vh s i (p+j) a,<-Lm,WR s i p a k (j+1)]
theorem zbV (p:Nat)(a:i<=q s):xt (s.extract i (q s)) p=xt s (i+p):=by unfold xt;rw[Vh s i p a,QO s i a];have e:(headK (ze s (i+p))=0\/q s-i<p+headK (ze s (i+p)))↔(headK (ze s (i+p))=0\/q s<i+p+headK (ze s (i+p))):=oa;simp only[e,WR s i p a]
variable {s i}
theorem zgu (m:i<q s)(h:xt s i=I (n,c))(g:Good s (i+n)):(i+n=q s/\(zu (s.extract i (q s))).1=[(c,0)])\/(i+n<q s/\∃a t,(zu (s.extract i (q s))).1=(c,0):: (a,(n:Int)):: t):=by
 have l:=qo h;have d:xt (s.extract i (q s)) 0=I (n,c):=by rw[zbV s i 0 oa];exact h
 have o:=QO s i oa;unfold zu;rw[qm oa d];by_cases f:i+n=q s;left;refine⟨f,?_⟩;rw[show(s.extract i (q s)).size=(q s-i-1)+1 by omega,ke oa];rfl;right;refine⟨oa,?_⟩;have⟨b,a,j,_⟩:=g.next oa;have e:xt (s.extract i (q s)) (0+n)=I (b,a):=by rw[zbV s i _ oa];simpa using j
 rw[show(s.extract i (q s)).size=(q s-i-1)+1 by omega,qm oa e];have⟨t,k⟩:=Vg (s.extract i (q s)) (q s-i-1) (0+n+b) ([]++[(c,((0:Nat):Int))]++[(a,((0+n:Nat):Int))]);exact⟨a,t,by rw[k];simp⟩
theorem Vi (b:0<=ze s p)(a:ze s p<128):xt s p=I (1,ze s p):=by
 have f:=(zw s p).1 b;have e:headK (ze s p)=1:=by simp[headK,headN,a]
 have d:jU (ze s p)=ze s p:=by simp[jU,a]
 have c:Yj 1 (ze s p)=Z:=by simp[Yj,jz];omega
 unfold xt;rw[e,iN oa,d];simp[jf,c]
theorem Good.NW (h:Good s p)(b:0<=ze s p)(e:ze s p<128):Good s (p+1):=by have f:=(zw s p).1 b;have⟨n,c,a,d⟩:=h.next f;rw[Vi b e] at a;simp at a;rw[<-a.1] at d;exact d
end Ref
theorem ZS {w:E}{base:Nat}{T:TypeId}{size:Nat}{v:Y}{n:Nat}{xs:An}(h:dA w base T size v n xs)(i:0<n):∃g cap,v=K (I ⟨g,0,U⟩) n cap/\base<=g/\g<y (A w)/\n<=cap:=by
 have⟨c,a⟩:=h;obtain⟨_,a⟩|⟨g,cap,b,rfl,e,f,d,_⟩:=a;omega
 grind
theorem zbW (st:St)(n:Nat)(c:Int)(w:E)(h:Lex w b s st)(hs:dJ s<=400)(hi:st.i<dJ s)(l:Ref.xt s st.i=I (n,c))(o:Ref.Good s (st.i+n)):Uh V 125 #[Ua (I ⟨b,0,U⟩)] w λx w'=> ∃N,x=.returned (Uf #[C Z,N])/\yB w' (dg (A w)) N [(c,c)]/\Lex w' b s (st.go n)/\zg (zr b) w w':=by
 have X:=zd h;have aw:=h.lt;have z:=Ref.qo l;have B:=Ref.zgu hi l o;have S:=zd B;have Ho:=zd l;have Hg:=zd o;have ax:n<=4:=z.2.2.1;have⟨c0,c1,c2,c3,f1,f2,f3⟩:=h;have r:=zd (X.alloc (Ub #[C Z,K U 0 0] 274));go_enter func125,ntmps125;go_wp2;go_region_with(go_at_call 34;refine(vr _ _ ou).mono ?_;rintro e d ⟨v,rfl,a,i⟩)
 all_goals
  have u:Lex d b s st:=Lex.keep (P:=λ_=>False) (by first|exact r|exact r.drewN _) i id;have m:(dB w (Obj.cells #[C Z,K U 0 0] 274)).drew.heap.size=dg (A w)+1:=ov;have p:dx d ⟨dg (A w),0,U⟩=I (C Z):=zf i _ _ (by first|exact zj _ _ ov _ _ 0 _ rfl) id;have L:dx d ⟨dg (A w),1,U⟩=I (K U 0 0):=zf i _ _ (by first|exact zj _ _ ov _ _ 1 _ rfl) id;have r2:dz d ⟨dg (A w),0,U⟩=Z:=zp i _ (by rw[m];simp) (by first|exact zt _ _ ov _ _ 0) id;have r3:dz d ⟨dg (A w),1,U⟩=Z:=zp i _ (by rw[m];simp) (by first|exact zt _ _ ov _ _ 1) id;have y:=zd u;have F:dg (A w)<dg (A d):=zic d ⟨dg (A w),0,U⟩ p;have⟨d0,d1,d2,d3,g1,g2,g3⟩:=u;rw[m] at a;have q:=zd i;obtain⟨k,j⟩|⟨k,c',t,j⟩:=zb S
  .unfold KQ at a;rw[j] at a;obtain⟨g,W,rfl,aa,ab,ac⟩:=ZS a ov;have k0:dx d ⟨g,0,U⟩=I (M J c):=a.cells rfl 0 _ rfl;have T:=zd k;go_wp2_with fail;have k:=zb T;refine bodyPost_ret (v:=Uf #[C Z,K (I ⟨dg (A d),0,U⟩) 1 1]) (by simp[results,results125,go_sem,p,L,F]) rfl ?_;refine⟨_,rfl,Yi _ _ _ ov oa _ [(c,c)] rfl (by simp[maxLen]) 1 rfl,?_,?_⟩;exact((y.NX _ n oa).keep (((zg.refl (zr (dg (A w))) _).NS _ _).NS _ _) Af).alloc _;exact(((((((((zg.refl (zr b) w).alloc _).drewN 1).trans (q.mono (λ_ _ f=>f.elim)))).NS _ _).fresh ⟨dg (A w),0,U⟩ (AD _) _).fresh ⟨dg (A w),1,U⟩ (AD _) _)).alloc _
  unfold KQ at a;rw[j] at a;obtain⟨g,W,rfl,aa,ab,ac⟩:=ZS a ov;have k0:dx d ⟨g,0,U⟩=I (M J c):=a.cells rfl 0 _ rfl;have k3:dx d ⟨g,3,U⟩=I (M J n):=a.cells rfl 3 _ rfl;go_wp2;go_region;all_goals (try go_wp2)
  all_goals
   refine bodyPost_ret (v:=Uf #[C Z,K (I ⟨dg (A d),0,U⟩) 1 1]) (by simp[results,results125,go_sem,p,L,F]) rfl ?_;refine⟨_,rfl,Yi _ _ _ ov oa _ [(c,c)] rfl (by simp[maxLen]) 1 rfl,?_,?_⟩;exact(((y.drewN _).NX _ n oa).keep (((zg.refl (zr (dg (A w))) _).NS _ _).NS _ _) Af).alloc _;exact((((((((((zg.refl (zr b) w).alloc _).drewN 1).trans (q.mono (λ_ _ f=>f.elim)))).drewN _).NS _ _).fresh ⟨dg (A w),0,U⟩ (AD _) _).fresh ⟨dg (A w),1,U⟩ (AD _) _)).alloc _
namespace Ref
def zo (s:Al)(st:St):Pt×Bool×St:=
 if ze s st.i=92 then zF s G st
 else match xt s st.i with
  |some (n,c)=>(⟨Z,[(c,c)]⟩,G,st.go n)
  |none=>(⟨Z,[]⟩,G,st)
def km (s:Al)(st:St):St:=
 if ze s (st.i+1)=63 then
  (if ze s (st.i+2)=58 then st.go 3
   else if ze s (st.i+2)=61\/ze s (st.i+2)=33\/ze s (st.i+2)=60 then(st.go 2).fail 6 st.i
   else(st.go 2).fail 3 ((st.i+2:Nat):Int))
 else st.go 1
def jX (b:Int):Bool:=decide (48<=b) && decide (b<=57)
def countL (s:Al):Nat->Int->St->Int×St
 |0,n,st=>(n,st)
 |f+1,n,st=>if jX (ze s st.i)=G then countL s f (if n<=100 then 10*n+ze s st.i-48 else n) (st.go 1) else(n,st)
def wR (s:Al)(st:St):Int×St:=countL s (q s+1-st.i) 0 st
def zU (s:Al)(st:St):Int×St:=
 let r:=wR s st
 let a:=if r.2.i=st.i then r.2.fail 3 st.i else r.2
 (r.1,if 100<r.1 then a.fail 5 st.i else a)
variable {s}
theorem countL_stop {n:Int}{st:St}(h:jX (ze s st.i)=Z):countL s (f+1) n st=(n,st):=by simp[countL,h]
theorem countL_go {n:Int}{st:St}(h:jX (ze s st.i)=G):countL s (f+1) n st=countL s f (if n<=100 then 10*n+ze s st.i-48 else n) (st.go 1):=by simp[countL,h]
end Ref
theorem zg.N6 {P:Aj}{a w:E}{n:Nat}(h:zg P (a.drewN n) w):zg P a w:=⟨h.os,h.tape,h.output,h.size,h.block⟩
theorem Gh {P:Aj}{W w:E}{n:Nat}{a0 a1:Y}{T:TypeId}(h:zg P (dB W (Ub #[a0,a1] T)) w)(a:y (A W)=n)(b:¬P n):d w ⟨n,0,U⟩=I a0/\d w ⟨n,1,U⟩=I a1/\g w ⟨n,0,U⟩=Z/\g w ⟨n,1,U⟩=Z/\n<y (A w):=
 have c:=zf h ⟨n,0,U⟩ _ (zj _ _ a _ _ 0 _ rfl) b
 ⟨c,zf h ⟨n,1,U⟩ _ (zj _ _ a _ _ 1 _ rfl) b,zp h ⟨n,0,U⟩ ou (zt _ _ a _ _ 0) b,zp h ⟨n,1,U⟩ ou (zt _ _ a _ _ 1) b,
  zic w ⟨n,0,U⟩ c⟩
theorem L3 {P:Aj}{W w:E}{n:Nat}{a0 a1 a2 a3 a4 a5:Y}{T:TypeId}(h:zg P (dB W (Ub #[a0,a1,a2,a3,a4,a5] T)) w)(a:y (A W)=n)(b:¬P n):(d w ⟨n,0,U⟩=I a0/\d w ⟨n,1,U⟩=I a1/\d w ⟨n,2,U⟩=I a2/\d w ⟨n,3,U⟩=I a3/\d w ⟨n,4,U⟩=I a4/\d w ⟨n,5,U⟩=I a5)/\(g w ⟨n,0,U⟩=Z/\g w ⟨n,1,U⟩=Z/\g w ⟨n,2,U⟩=Z/\g w ⟨n,3,U⟩=Z/\g w ⟨n,4,U⟩=Z/\g w ⟨n,5,U⟩=Z)/\n<y (A w):=
 have c:=zf h ⟨n,0,U⟩ _ (zj _ _ a _ _ 0 _ rfl) b
 ⟨⟨c,zf h ⟨n,1,U⟩ _ (zj _ _ a _ _ 1 _ rfl) b,zf h ⟨n,2,U⟩ _ (zj _ _ a _ _ 2 _ rfl) b,zf h ⟨n,3,U⟩ _ (zj _ _ a _ _ 3 _ rfl) b,zf h ⟨n,4,U⟩ _ (zj _ _ a _ _ 4 _ rfl) b,zf h ⟨n,5,U⟩ _ (zj _ _ a _ _ 5 _ rfl) b⟩,
  ⟨zp h ⟨n,0,U⟩ ou (zt _ _ a _ _ 0) b,zp h ⟨n,1,U⟩ ou (zt _ _ a _ _ 1) b,zp h ⟨n,2,U⟩ ou (zt _ _ a _ _ 2) b,
  zp h ⟨n,3,U⟩ ou (zt _ _ a _ _ 3) b,zp h ⟨n,4,U⟩ ou (zt _ _ a _ _ 4) b,zp h ⟨n,5,U⟩ ou (zt _ _ a _ _ 5) b⟩,
  zic w ⟨n,0,U⟩ c⟩
theorem zq {w:E}{base:Nat}{T:TypeId}{size:Nat}{v:Y}{n:Nat}{xs:An}(h:w.ownsRow base T size v n xs):∃a k c,v=K a k c:=by have⟨f,b⟩:=h;obtain⟨rfl,_⟩|⟨g,d,e,rfl,_⟩:=b;exact⟨_,_,_,rfl⟩;exact⟨_,_,_,rfl⟩
theorem zg.two (n:Nat)(w:E)(u0 u1:Y):zg (zr n) w ((w.setCell ⟨n,0,U⟩ u0).setCell ⟨n,1,U⟩ u1):=((zg.refl _ _).NS _ _).NS _ _
theorem zg.six (n:Nat)(w:E)(u0 u1 u2 u3 u4 u5:Y):zg (zr n) w ((((((w.setCell ⟨n,0,U⟩ u0).setCell ⟨n,1,U⟩ u1).setCell ⟨n,2,U⟩ u2).setCell ⟨n,3,U⟩ u3).setCell ⟨n,4,U⟩ u4).setCell ⟨n,5,U⟩ u5):=
 ((((((zg.refl _ _).NS _ _).NS _ _).NS _ _).NS _ _).NS _ _).NS _ _
theorem zg.NU {P:Aj}{a w w':E}{n:Nat}(h:zg P a w)(k:zg (zr n) w w')(d:y (A a)<=n):zg P a w':=
 ⟨k.os.trans h.os,k.tape.trans h.tape,k.output.trans h.output,AP h.size k.size,λi b c=>(k.block i (AM b h.size) Af).trans (h.block i b c)⟩
theorem Vj (st:St)(w:E)(h:Lex w b s st)(m:dJ s<=400)(z:st.i<dJ s)(j:Ref.Good s st.i):Uh V 162 #[Ua (I ⟨b,0,U⟩)] w λx w'=> ∃o,x=.returned (Ue #[Uf #[C (Ref.zo s st).1.neg,o],C (Ref.zo s st).2.1])/\yB w' (dg (A w)) o (Ref.zo s st).1.spans/\Lex w' b s (Ref.zo s st).2.2/\zg (zr b) w w':=by
 have ae:=h.lt;have⟨n,c,l,u⟩:=j.next z;have k:=zd (h.alloc (Ub #[C Z,K U 0 0] 274));by_cases f:ze s st.i=92
 .have W:(ze s st.i == 92)=G:=by simp[f]
  have p:H (Ref.zo s st=Ref.zF s G st):=by show _=_;unfold Ref.zo;rw[IN f]
  go_enter func162,ntmps162;go_wp2_with fail;refine(z8 b s st _ k m).mono ?_;rintro e w1 ⟨rfl,nq,rfl⟩;go_wp2_with fail;refine(Ve b s G st _ (k.drewN _) m z).mono ?_;rintro e w2 ⟨o,rfl,d,i,a⟩;have⟨B,F,r2,r3,X⟩:=Gh a.N6 rfl Af;have t:=zd (d.base (base':=dg (A w)+1) ov);have q:=zd i;have r:=zd a.N6;obtain⟨L,N,P,rfl⟩:=zq d;go_wp2_with fail;refine bodyPost_ret (v:=Ue #[Uf #[C (Ref.zF s G st).1.neg,K L N P],C (Ref.zF s G st).2.1]) (by simp[results,results162,go_sem,B,F]) rfl ?_;rw[zb p];refine⟨_,rfl,?_,?_,?_⟩;exact(t.keep (zg.two (dg (A w)) _ _ _) (by intro g j _ y;unfold zr at y;omega)).base oa;exact q.keep (zg.two (dg (A w)) _ _ _) Af;exact(Ag.trans r).NU (zg.two (dg (A w)) _ _ _) (AD _)
 have W:(ze s st.i == 92)=Z:=by simp[f]
 have p:H (Ref.zo s st=(⟨Z,[(c,c)]⟩,G,st.go n)):=by show _=_;unfold Ref.zo;rw[iN f,l]
 have T:=zd l;have S:=zd u;go_enter func162,ntmps162;go_wp2_with fail;refine(z8 b s st _ k m).mono ?_;rintro e w1 ⟨rfl,nq,rfl⟩;go_wp2_with fail;refine(zbW b s st n c _ (k.drewN _) m z T S).mono ?_;rintro e w2 ⟨o,rfl,d,i,a⟩;have⟨B,F,r2,r3,X⟩:=Gh a.N6 rfl Af;have t:=zd (d.base (base':=dg (A w)+1) ov);have q:=zd i;have r:=zd a.N6;obtain⟨L,N,P,rfl⟩:=zq d;go_wp2_with fail;refine bodyPost_ret (v:=Ue #[Uf #[C Z,K L N P],C G]) (by simp[results,results162,go_sem,B,F]) rfl ?_;rw[zb p];refine⟨_,rfl,?_,?_,?_⟩;exact(t.keep (zg.two (dg (A w)) _ _ _) (by intro g j _ y;unfold zr at y;omega)).base oa;exact q.keep (zg.two (dg (A w)) _ _ _) Af;exact(Ag.trans r).NU (zg.two (dg (A w)) _ _ _) (AD _)
theorem DZ (st:St)(w:E)(h:Lex w b s st)(L:dJ s<=400)(hi:st.i<dJ s):Uh V 124 #[Ua (I ⟨b,0,U⟩)] w λx w'=> x=.returned (Uf #[M J 3,C Z,K U 0 0,M J 0,M J 0,M J 0])/\Lex w' b s (Ref.km s st)/\zg (zr b) w w':=by
 have aq:=h.lt;have T:=zd h;have⟨c0,c1,c2,c3,f1,f2,f3⟩:=h;go_enter func124,ntmps124;go_wp2_with fail;have p:=zd ((T.NX ((st.i:Int)+1) 1 oa).alloc (Ub #[M J 0,C Z,K U 0 0,M J 0,M J 0,M J 0] 177));have F:=zd (((zg.refl (zr b) w).NS 1 (M J ((st.i:Int)+1))).alloc (Ub #[M J 0,C Z,K U 0 0,M J 0,M J 0,M J 0] 177));refine(z8 b s (st.go 1) _ p L).mono ?_;rintro e w1 ⟨rfl,nq,rfl⟩;simp only[St.go];by_cases a:ze s (st.i+1)=63
 .have W:(ze s (st.i+1) == 63)=G:=by simp[a]
  go_wp2_with fail;have k:=zd ((p.drewN nq).NX ((st.i:Int)+1+1) 1 (by simp only[St.go];omega));have q:=zd ((F.drewN nq).NS 1 (M J ((st.i:Int)+1+1)));refine(z8 b s ((st.go 1).go 1) _ k L).mono ?_;rintro e w1 ⟨rfl,d,rfl⟩;simp only[St.go];rw[show st.i+1+1=st.i+2 from rfl];by_cases c:ze s (st.i+2)=58
  .have X:(ze s (st.i+2) == 58)=G:=(by simp[c]);have f:H (Ref.km s st=st.go 3):=(by show _=_;unfold Ref.km;rw[IN a,IN c]);clear a c;go_wp2_with fail;refine bodyPost_ret (v:=Uf #[M J 3,C Z,K U 0 0,M J 0,M J 0,M J 0]) (by simp[results,results124,go_sem]) rfl ?_;rw[zb f];exact⟨rfl,((k.drewN d).NX _ 1 (by simp only[St.go];omega)).keep (zg.six (dg (A w)) _ _ _ _ _ _ _) Af,((q.drewN d).NS 1 _).NU (zg.six (dg (A w)) _ _ _ _ _ _ _) (AD _)⟩
  have X:(ze s (st.i+2) == 58)=Z:=(by simp[c]);by_cases j:ze s (st.i+2)=61\/ze s (st.i+2)=33\/ze s (st.i+2)=60
  .have f:H (Ref.km s st=(st.go 2).fail 6 st.i):=(by show _=_;unfold Ref.km;rw[IN a,iN c,IN j]);have o:(ze s (st.i+2) == 61)=G\/(ze s (st.i+2) == 61)=Z/\((ze s (st.i+2) == 33)=G\/(ze s (st.i+2) == 33)=Z/\(ze s (st.i+2) == 60)=G):=ou;clear a c j;obtain N|⟨N,S|⟨S,y3⟩⟩:=o
   all_goals
    go_wp2_with fail;refine(yT b s (st.go 2) 6 _ _ (k.drewN d)).mono ?_;rintro e w2 ⟨rfl,i,g⟩;have⟨⟨r,t,u,y,z,B⟩,⟨q0,q1,q2,q3,q4,q5⟩,aa⟩:=L3 (P:=zr b) (n:=dg (A w)) (((((zg.refl _ _).drewN nq).NS 1 _).drewN d).trans g) ov Af;have l:=zd i;have m:=zd ((q.drewN d).trans g);clear i g;go_wp2_with fail;refine bodyPost_ret (v:=Uf #[M J 3,C Z,K U 0 0,M J 0,M J 0,M J 0]) (by simp[results,results124,go_sem,r,t,u,y,z,B]) rfl ?_;rw[zb f];exact⟨rfl,l.keep (zg.six (dg (A w)) _ _ _ _ _ _ _) Af,m.NU (zg.six (dg (A w)) _ _ _ _ _ _ _) (AD _)⟩
  have f:H (Ref.km s st=(st.go 2).fail 3 ((st.i+2:Nat):Int)):=(by show _=_;unfold Ref.km;rw[IN a,iN c,iN j]);have o:(ze s (st.i+2) == 61)=Z/\(ze s (st.i+2) == 33)=Z/\(ze s (st.i+2) == 60)=Z:=ou;have⟨N,S,y3⟩:=o;clear a c j;go_wp2_with fail;refine(yT b s (st.go 2) 3 _ _ (k.drewN d)).mono ?_;rintro e w2 ⟨rfl,i,g⟩;have⟨⟨r,t,u,y,z,B⟩,⟨q0,q1,q2,q3,q4,q5⟩,aa⟩:=L3 (P:=zr b) (n:=dg (A w)) (((((zg.refl _ _).drewN nq).NS 1 _).drewN d).trans g) ov Af;have l:=zd i;have m:=zd ((q.drewN d).trans g);clear i g;go_wp2_with fail;refine bodyPost_ret (v:=Uf #[M J 3,C Z,K U 0 0,M J 0,M J 0,M J 0]) (by simp[results,results124,go_sem,r,t,u,y,z,B]) rfl ?_;rw[zb f];exact⟨rfl,l.keep (zg.six (dg (A w)) _ _ _ _ _ _ _) Af,m.NU (zg.six (dg (A w)) _ _ _ _ _ _ _) (AD _)⟩
 have W:(ze s (st.i+1) == 63)=Z:=by simp[a]
 have f:H (Ref.km s st=st.go 1):=by show _=_;unfold Ref.km;rw[iN a]
 clear a;go_wp2_with fail;refine bodyPost_ret (v:=Uf #[M J 3,C Z,K U 0 0,M J 0,M J 0,M J 0]) (by simp[results,results124,go_sem]) rfl ?_;rw[zb f];exact⟨rfl,(p.drewN nq).keep (zg.six (dg (A w)) _ _ _ _ _ _ _) Af,(F.drewN nq).NU (zg.six (dg (A w)) _ _ _ _ _ _ _) (AD _)⟩
namespace Ref
theorem YW {b:Int}(h:jX b=G):48<=b/\b<=57:=by simpa [jX] using h
theorem zaT {b:Int}(h:jX b=Z):¬(48<=b/\b<=57):=by intro⟨a,c⟩;simp[jX,a,c] at h
theorem jL {s:Al}{st st':St}{n:Int}(h:wR s st=(n,st')):zU s st=(n,if 100<n then(if st'.i=st.i then st'.fail 3 st.i else st').fail 5 st.i else(if st'.i=st.i then st'.fail 3 st.i else st')):=by unfold zU;rw[h]
end Ref
def Eo (w:E)(b:Nat):Nat:=match d w ⟨b,1,U⟩ with
 |some v=>(intOf v).toNat
 |none=>0
variable {w b s}
theorem jr {st:St}(h:Lex w b s st):Eo w b=st.i:=by unfold Eo;rw[h.c1];simp[intOf]
variable (b s)
theorem WS (st:St)(w:E)(h:Lex w b s st)(o:dJ s<=400)(hi:st.i<=dJ s):Uh V 161 #[Ua (I ⟨b,0,U⟩)] w λx w'=> x=.returned (M J (Ref.zU s st).1)/\Lex w' b s (Ref.zU s st).2/\zg (zr b) w w':=by
 have aa:=zd h;have⟨p,c1,r,t,f1,u,v⟩:=h;go_enter func161,ntmps161;go_wp2;go_loopw[4] (λn wr=>∃(q:Int) (st':St),n=M J q/\0<=q/\q<=2000/\st'.i<=dJ s/\Lex wr b s st'/\zg (zr b) w wr/\H (Ref.wR s st=Ref.countL s (dJ s+1-st'.i) q st'))
  (λ_ wr=>dJ s-Eo wr b)
 exact⟨0,st,rfl,oa,oa,hi,aa,zg.refl _ _,rfl⟩;obtain⟨q,st',rfl,aj,ak,ah,f,k,T⟩:=hrel;have W:H (dJ s+1-st'.i=(dJ s-st'.i)+1):=by show _=_;omega
 have j:=zd f;clear p c1 r t f1 u v;cases hd:Ref.jX (ze s st'.i)
 .have HG:H (Ref.wR s st=(q,st')):=(by rw[zb T,zb W];exact Ref.countL_stop hd);have X:=Ref.zaT hd;clear hd;by_cases ae:48<=ze s st'.i
  .have ac:57<ze s st'.i:=oa;have ab:decide (ze s st'.i<=57)=Z:=ou;clear X;go_wp2_with fail;refine(z8 b s st' _ f o).mono ?_;rintro e F ⟨rfl,nq,rfl⟩;go_wp2_with fail;refine(z8 b s st' _ (f.drewN _) o).mono ?_;rintro e F ⟨rfl,P,rfl⟩;have⟨p,c1,r,t,f1,u,v⟩:=f;by_cases g:st'.i=st.i
   .have N:((st'.i:Int) == (st.i:Int))=G:=(by simp[g]);have d:=zd g;clear g;go_wp2_with fail;refine(yT b s st' 3 _ _ (j.drewN _)).mono ?_;rintro e w2 ⟨rfl,y,B⟩;by_cases c:100<q
    .have a:H (Ref.zU s st=(q,(st'.fail 3 st.i).fail 5 st.i)):=(by rw[Ref.jL HG,IN c,IN (zb d)];rfl);go_wp2_with fail;refine(yT b s _ 5 _ _ y).mono ?_;rintro e S ⟨rfl,l,m⟩;go_wp2;go_ret;rw[zb a];exact⟨rfl,l,((k.drewN _).trans B).trans m⟩
    have a:H (Ref.zU s st=(q,(st'.fail 3 st.i))):=(by rw[Ref.jL HG,iN c,IN (zb d)];rfl);go_wp2;go_ret;rw[zb a];exact⟨rfl,y,((k.drewN _).trans B)⟩
   have N:((st'.i:Int) == (st.i:Int))=Z:=ou;have d:=zd g;clear g;by_cases c:100<q
   .have a:H (Ref.zU s st=(q,st'.fail 5 st.i)):=(by rw[Ref.jL HG,IN c,iN (zb d)];rfl);go_wp2_with fail;refine(yT b s st' 5 _ _ (j.drewN _)).mono ?_;rintro e S ⟨rfl,l,m⟩;go_wp2;go_ret;rw[zb a];exact⟨rfl,l,(k.drewN _).trans m⟩
   have a:H (Ref.zU s st=(q,st')):=(by rw[Ref.jL HG,iN c,iN (zb d)];rfl);go_wp2;go_ret;rw[zb a];exact⟨rfl,j.drewN _,k.drewN _⟩
  clear X;have ab:decide (48<=ze s st'.i)=Z:=ou;go_wp2_with fail;refine(z8 b s st' _ f o).mono ?_;rintro e F ⟨rfl,nq,rfl⟩;have⟨p,c1,r,t,f1,u,v⟩:=f;by_cases g:st'.i=st.i
  .have N:((st'.i:Int) == (st.i:Int))=G:=(by simp[g]);have d:=zd g;clear g;go_wp2_with fail;refine(yT b s st' 3 _ _ (j.drewN _)).mono ?_;rintro e w2 ⟨rfl,y,B⟩;by_cases c:100<q
   .have a:H (Ref.zU s st=(q,(st'.fail 3 st.i).fail 5 st.i)):=(by rw[Ref.jL HG,IN c,IN (zb d)];rfl);go_wp2_with fail;refine(yT b s _ 5 _ _ y).mono ?_;rintro e S ⟨rfl,l,m⟩;go_wp2;go_ret;rw[zb a];exact⟨rfl,l,((k.drewN _).trans B).trans m⟩
   have a:H (Ref.zU s st=(q,(st'.fail 3 st.i))):=(by rw[Ref.jL HG,iN c,IN (zb d)];rfl);go_wp2;go_ret;rw[zb a];exact⟨rfl,y,((k.drewN _).trans B)⟩
  have N:((st'.i:Int) == (st.i:Int))=Z:=ou;have d:=zd g;clear g;by_cases c:100<q
  .have a:H (Ref.zU s st=(q,st'.fail 5 st.i)):=(by rw[Ref.jL HG,IN c,iN (zb d)];rfl);go_wp2_with fail;refine(yT b s st' 5 _ _ (j.drewN _)).mono ?_;rintro e S ⟨rfl,l,m⟩;go_wp2;go_ret;rw[zb a];exact⟨rfl,l,(k.drewN _).trans m⟩
  have a:H (Ref.zU s st=(q,st')):=(by rw[Ref.jL HG,iN c,iN (zb d)];rfl);go_wp2;go_ret;rw[zb a];exact⟨rfl,j.drewN _,k.drewN _⟩
 (have HG:H (Ref.wR s st=Ref.countL s (dJ s+1-(st'.go 1).i) (if q<=100 then 10*q+ze s st'.i-48 else q) (st'.go 1)):=by rw[zb T,zb W,show dJ s+1-(st'.go 1).i=dJ s-st'.i by simp only[St.go];omega];exact Ref.countL_go hd);have⟨ae,ac⟩:=Ref.YW hd;have ai:st'.i<dJ s:=(by rw[<-zw];omega);clear hd;go_wp2_with fail;refine(z8 b s st' _ f o).mono ?_;rintro e F ⟨rfl,nq,rfl⟩;go_wp2_with fail;refine(z8 b s st' _ (f.drewN _) o).mono ?_;rintro e F ⟨rfl,P,rfl⟩;by_cases c:q<=100
 .have L:H (Ref.wR s st=Ref.countL s (dJ s+1-(st'.go 1).i) (10*q+ze s st'.i-48) (st'.go 1)):=(by rw[zb HG,IN c];rfl);go_wp2_with fail;refine(z8 b s st' _ (f.drewN _) o).mono ?_;rintro e F ⟨rfl,af,rfl⟩;have⟨p,c1,r,t,f1,u,v⟩:=f;go_wp2_with fail;have z:=(j.drewN (nq+P+af)).NX ((st'.i:Int)+1) 1 oa;go_roundw;exact⟨_,st'.go 1,rfl,oa,oa,by simp only[St.go];omega,z,(k.drewN _).NS _ _,L⟩;rw[jr j,jr z];simp only[St.go];omega
 have L:H (Ref.wR s st=Ref.countL s (dJ s+1-(st'.go 1).i) q (st'.go 1)):=(by rw[zb HG,iN c];rfl);have⟨p,c1,r,t,f1,u,v⟩:=f;go_wp2_with fail;have z:=(j.drewN (nq+P)).NX ((st'.i:Int)+1) 1 oa;go_roundw;exact⟨_,st'.go 1,rfl,oa,oa,by simp only[St.go];omega,z,(k.drewN _).NS _ _,L⟩;rw[jr j,jr z];simp only[St.go];omega
namespace Ref
def qK (s:Al)(mn:Int)(st:St):Int×St:=
 if st.e=0/\ze s st.i=44 then
  (if ze s (st.i+1)=125 then(-1,st.go 1) else zU s (st.go 1))
 else(mn,st)
def yE (s:Al)(st:St):St:=if st.e=0/\ze s st.i≠125 then st.fail 3 st.i else st
def yu (s:Al)(st:St):Int×Int×St:=
 let a:=zU s (st.go 1)
 let b:=qK s a.1 a.2
 let c:=(yE s b.2).go 1
 (a.1,b.1,if c.e=0/\0<=b.1/\b.1<a.1 then c.fail 4 st.i else c)
def xY (s:Al)(st:St):St:=if st.e=0/\ze s st.i=63 then st.go 1 else st
def zM (s:Al)(st:St):Int×Int×St:=
 if ze s st.i=43 then(1,-1,xY s (st.go 1))
 else if ze s st.i=63 then(0,1,xY s (st.go 1))
 else if ze s st.i=42 then(0,-1,xY s (st.go 1))
 else((yu s st).1,(yu s st).2.1,xY s (yu s st).2.2)
theorem WT (s:Al):∀(f:Nat) (n:Int) (st:St),0<=n->n<=2000->0<=(countL s f n st).1/\(countL s f n st).1<=2000/\st.i<=(countL s f n st).2.i/\(st.i<=q s->(countL s f n st).2.i<=q s)
 |0,n,st,a,b=>by simp only[countL];omega
 |f+1,n,st,a,b=>by
  cases hd:jX (ze s st.i);rw[countL_stop hd];simp only[];omega;rw[countL_go hd];have c:=YW hd;have d:st.i<q s:=(by rw[<-zw];omega);have h:=WT s f (if n<=100 then 10*n+ze s st.i-48 else n) (st.go 1) (by split<;>omega) (by split<;>omega);simp only[St.go] at h ⊢;omega
theorem xC (st:St)(e a:Int):(st.fail e a).i=st.i:=by unfold St.fail;split<;>rfl
theorem zbX (st:St):(zU s st).2.i=(wR s st).2.i:=by unfold zU;dsimp only;split;rw[xC];split;rw[xC];rfl;split;rw[xC];rfl
theorem wK (st:St):0<=(zU s st).1/\(zU s st).1<=2000/\st.i<=(zU s st).2.i/\(st.i<=q s->(zU s st).2.i<=q s):=by rw[zbX];exact WT s (q s+1-st.i) 0 st oa oa
end Ref
structure Tz (w:E)(n:Nat)(a0 a1 a2 a3 a4 a5:Y):Prop where
 c0:d w ⟨n,0,U⟩=I a0
 c1:d w ⟨n,1,U⟩=I a1
 c2:d w ⟨n,2,U⟩=I a2
 c3:d w ⟨n,3,U⟩=I a3
 c4:d w ⟨n,4,U⟩=I a4
 c5:d w ⟨n,5,U⟩=I a5
 f0:g w ⟨n,0,U⟩=Z
 f1:g w ⟨n,1,U⟩=Z
 f2:g w ⟨n,2,U⟩=Z
 f3:g w ⟨n,3,U⟩=Z
 f4:g w ⟨n,4,U⟩=Z
 f5:g w ⟨n,5,U⟩=Z
section
variable {P:Aj} {w w':World} {n:Nat} {a0 a1 a2 a3 a4 a5:Value}
theorem Tz.lt (h:Tz w n a0 a1 a2 a3 a4 a5):n<y (A w):=zic w ⟨n,0,U⟩ h.c0
theorem Tz.to (h:Tz w n a0 a1 a2 a3 a4 a5):(∀(j:Nat) u,[a0,a1,a2,a3,a4,a5][j]?=I u->d w ⟨n,j,U⟩=I u)/\∀j,j<6->g w ⟨n,j,U⟩=Z:=
 ⟨fun|0,_,rfl=>h.c0|1,_,rfl=>h.c1|2,_,rfl=>h.c2|3,_,rfl=>h.c3|4,_,rfl=>h.c4|5,_,rfl=>h.c5|j+6,_,e=>by simp at e,fun|0,_=>h.f0|1,_=>h.f1|2,_=>h.f2|3,_=>h.f3|4,_=>h.f4|5,_=>h.f5|j+6,e=>absurd e oa⟩
theorem Tz.of (h:∀(j:Nat) u,[a0,a1,a2,a3,a4,a5][j]?=I u->d w ⟨n,j,U⟩=I u)(f:∀j,j<6->g w ⟨n,j,U⟩=Z):Tz w n a0 a1 a2 a3 a4 a5:=
 ⟨h 0 _ rfl,h 1 _ rfl,h 2 _ rfl,h 3 _ rfl,h 4 _ rfl,h 5 _ rfl,f 0 od,f 1 od,f 2 od,f 3 od,f 4 od,f 5 od⟩
theorem Tz.keep (h:Tz w n a0 a1 a2 a3 a4 a5)(k:zg P w w')(a:¬P n):Tz w' n a0 a1 a2 a3 a4 a5:=
 .of (λj u e=>zf k _ _ (h.to.1 j u e) a) (λj e=>zp k _ h.lt (h.to.2 j e) a)
theorem Tz.new (W:E)(T:TypeId)(a:y (A W)=n):Tz (dB W (Ub #[a0,a1,a2,a3,a4,a5] T)) n a0 a1 a2 a3 a4 a5:=
 .of (λj u e=>zj _ _ a _ _ j _ (by simpa using e)) (λj _=>zt _ _ a _ _ j)
theorem Tz.drewN (h:Tz w n a0 a1 a2 a3 a4 a5)(k:Nat):Tz (w.drewN k) n a0 a1 a2 a3 a4 a5:=h.keep ((zg.refl (λ_=>False) w).drewN k) id
theorem Tz.other (h:Tz w n a0 a1 a2 a3 a4 a5)(p:Addr)(a:p.block≠n)(u:Y):Tz (w.setCell p u) n a0 a1 a2 a3 a4 a5:=
 h.keep (P:=zr p.block) ((zg.refl (zr p.block) w).setCell (p:=p) (Or.inl (show p.block=p.block from rfl)) u) (λe=>a e.symm)
theorem Tz.cells (h:Tz w n a0 a1 a2 a3 a4 a5)(i:Nat)(a:i<6)(u:Y):(∀(j:Nat) x,([a0,a1,a2,a3,a4,a5].set i u)[j]?=I x->(w.setCell ⟨n,i,U⟩ u).cell? ⟨n,j,U⟩=I x)/\∀j,j<6->(w.setCell ⟨n,i,U⟩ u).frozen? ⟨n,j,U⟩=Z:=by refine⟨λj x e=>?_,λj e=>(zl _ _ _ _).trans (h.to.2 j e)⟩;rw[List.getElem?_set] at e;split at e;rename_i q;subst q;rw[show(if i < [a0,a1,a2,a3,a4,a5].length then I u else U)=I u from IN a] at e;cases e;exact AX _ _ _ (h.to.1 i _ (AE a));rename_i q;exact(AN _ _ _ _ (λc=>q (by injection c))).trans (h.to.1 j x e)
theorem Tz.set1 (h:Tz w n a0 a1 a2 a3 a4 a5)(u:Y):Tz (w.setCell ⟨n,1,U⟩ u) n a0 u a2 a3 a4 a5:=.of (h.cells 1 od u).1 (h.cells 1 od u).2
theorem Tz.set2 (h:Tz w n a0 a1 a2 a3 a4 a5)(u:Y):Tz (w.setCell ⟨n,2,U⟩ u) n a0 a1 u a3 a4 a5:=.of (h.cells 2 od u).1 (h.cells 2 od u).2
theorem Tz.SD (h:Tz w n a0 a1 a2 a3 a4 a5)(u:Y):Tz (w.setCell ⟨n,4,U⟩ u) n a0 a1 a2 a3 u a5:=.of (h.cells 4 od u).1 (h.cells 4 od u).2
theorem Tz.SC (h:Tz w n a0 a1 a2 a3 a4 a5)(u:Y):Tz (w.setCell ⟨n,5,U⟩ u) n a0 a1 a2 a3 a4 u:=.of (h.cells 5 od u).1 (h.cells 5 od u).2
end
namespace Ref
theorem Yl {s:Al}{st b a:St}{mn mx:Int}(c:zU s (st.go 1)=(mn,b))(d:qK s mn b=(mx,a)):yu s st=(mn,mx,if((yE s a).go 1).e=0/\0<=mx/\mx<mn then((yE s a).go 1).fail 4 st.i else(yE s a).go 1):=by unfold yu;rw[c];simp only[d]
theorem vD (st:St)(e a:Int)(h:e≠0):(st.fail e a).e≠0:=by unfold St.fail;split<;>simp_all
theorem zaU {s:Al}{st c a:St}{mn mx:Int}(d:zU s (st.go 1)=(mn,c))(e:qK s mn c=(mx,a))(b:¬a.e=0):yu s st=(mn,mx,a.go 1):=by
 rw[Yl d e];have f:yE s a=a:=by unfold yE;rw[iN (by intro h;exact b h.1)]
 rw[f,iN (by intro h;exact b h.1)]
theorem zbY {s:Al}{st b a:St}{mn mx:Int}(c:zU s (st.go 1)=(mn,b))(d:qK s mn b=(mx,a))(e:a.e=0)(f:¬ze s a.i=125):yu s st=(mn,mx,(a.fail 3 a.i).go 1):=by
 rw[Yl c d];have g:yE s a=a.fail 3 a.i:=by unfold yE;rw[IN ⟨e,f⟩]
 rw[g,iN (by intro h;exact vD a 3 a.i od h.1)]
theorem Vk {s:Al}{st b a:St}{mn mx:Int}(c:zU s (st.go 1)=(mn,b))(d:qK s mn b=(mx,a))(e:a.e=0)(f:ze s a.i=125)(g:0<=mx/\mx<mn):yu s st=(mn,mx,(a.go 1).fail 4 st.i):=by
 rw[Yl c d];have i:yE s a=a:=by unfold yE;rw[iN (by intro h;exact h.2 f)]
 rw[i,IN ⟨e,g⟩]
theorem zaV {s:Al}{st b a:St}{mn mx:Int}(c:zU s (st.go 1)=(mn,b))(d:qK s mn b=(mx,a))(_i:a.e=0)(e:ze s a.i=125)(f:¬(0<=mx/\mx<mn)):yu s st=(mn,mx,a.go 1):=by
 rw[Yl c d];have g:yE s a=a:=by unfold yE;rw[iN (by intro h;exact h.2 e)]
 rw[g,iN (by intro h;exact f h.2)]
end Ref
theorem Zp (st:St)(w:E)(h:Lex w b s st)(d:q s<=400):Uh V 68 #[Ua (I ⟨b,0,U⟩)] w λx w'=>x=.returned (M J (ze s st.i))/\zke w w':=
 (z8 b s st w h d).mono λ_ _ ⟨a,_,c⟩=>⟨a,by rw[c];exact Ah⟩
structure YR (w wx:E)(b:Nat)(s:Al)(st:St)(mn mx:Int):Prop where
 l:Lex wx b s st
 t:Tz wx (y (A w)+1) (M J 6) (C Z) (K U 0 0) (M J 0) (M J mn) (M J mx)
 r:Tz wx (y (A w)) (M J 0) (C Z) (K U 0 0) (M J 0) (M J 0) (M J 0)
 o:zg (zr b) w wx
 lt:b<y (A w)
section
variable {w wx w':World} {b:Nat} {s:Al} {st st':St} {mn mx:Int}
theorem YR.turn (h:YR w wx b s st mn mx)(k:zg (zr b) wx w')(l:Lex w' b s st'):YR w w' b s st' mn mx:=by have a:=h.lt;exact⟨l,h.t.keep k Af,h.r.keep k Af,h.o.trans k,a⟩
theorem YR.keep (h:YR w wx b s st mn mx)(k:zke wx w'):YR w w' b s st mn mx:=h.turn (k.mono (λ_ _ f=>f.elim)) (h.l.keep k id)
theorem YR.go (h:YR w wx b s st mn mx):YR w (wx.setCell ⟨b,1,U⟩ (M J ((st.i:Int)+1))) b s (st.go 1) mn mx:=h.turn ((zg.refl _ _).NS _ _) (h.l.NX _ 1 oa)
theorem YR.top (h:YR w wx b s st mn mx)(m:Int):YR w (wx.setCell ⟨y (A w)+1,5,U⟩ (M J m)) b s st mn m:=by have a:=h.lt;exact⟨h.l.keep ((zg.refl (zr (y (A w)+1)) _).NS _ _) Af,h.t.SC _,h.r.other _ ov _,h.o.NU ((zg.refl (zr (y (A w)+1)) _).NS _ _) oa,a⟩
end
theorem zea (st:St)(w:E)(h:Lex w b s st)(hs:dJ s<=400)(hi:st.i<dJ s):Uh V 121 #[Ua (I ⟨b,0,U⟩)] w λx w'=> x=.returned (Uf #[M J 6,C Z,K U 0 0,M J 0,M J (Ref.yu s st).1,M J (Ref.yu s st).2.1])/\Lex w' b s (Ref.yu s st).2.2/\zg (zr b) w w':=by
 have aQ:=h.lt;have HX:H (YR w (((dC w ⟨b,1,U⟩ (M J ((st.i:Int)+1))).alloc (Ub #[M J 0,C Z,K U 0 0,M J 0,M J 0,M J 0] 177)).alloc (Ub #[M J 6,C Z,K U 0 0,M J 0,M J 0,M J 0] 177)) b s (st.go 1) 0 0):=
  ⟨((h.NX _ 1 oa).alloc _).alloc _,Tz.new _ _ ov,(Tz.new _ _ ov).keep ((zg.refl (λ_=>False) _).alloc _) id,(((zg.refl _ _).NS _ _).alloc _).alloc _,aQ⟩
 obtain⟨c0,c1,c2,c3,f1,f2,f3⟩:=h;go_enter func121,ntmps121;go_wp2_with fail;refine(WS b s (st.go 1) _ HX.l hs (by simp only[St.go];omega)).mono ?_;rintro e w1 ⟨rfl,aL,aO⟩;have u:=HX.turn aO aL;obtain⟨m0,m1,m2,m3⟩:=Ref.wK s (st.go 1);generalize hr:Ref.zU s (st.go 1)=r at *;obtain⟨mn,a⟩:=r;simp only[] at *;have m4:a.i<=dJ s:=m3 (by simp only[St.go];omega);have H1:=zd hr;have j:H (YR w ((w1.setCell ⟨dg (A w)+1,4,U⟩ (M J mn)).setCell ⟨dg (A w)+1,5,U⟩ (M J mn)) b s a mn mn):=
  (⟨u.l.keep ((zg.refl (zr (dg (A w)+1)) _).NS _ _) (by unfold zr;omega),u.t.SD _,u.r.other _ ov _,u.o.NU ((zg.refl (zr (dg (A w)+1)) _).NS _ _) oa,aQ⟩:YR w (w1.setCell ⟨dg (A w)+1,4,U⟩ (M J mn)) b s a mn 0).top mn
 obtain⟨t0,t1,t2,t3,t4,t5,v0,v1,v2,v3,v4,v5⟩:=u.t;clear hr m3 c0 c1 c2 c3 f1 f2 f3 u aL aO HX;go_upto_region 6 with fail;go_cut[32] (λx wx=>∃c:Bool,x=C c/\(c=G↔a.e=0/\ze s a.i=44)/\H (YR w wx b s a mn mn))
 case first=>
  obtain⟨l0,l1,l2,l3,k1,k2,k3⟩:=j.l;by_cases n:a.e=0
  .have eb:(a.e == 0)=G:=(by simp[n]);go_wp2_with fail;refine(Zp b s a _ j.l hs).mono ?_;rintro e w2 ⟨rfl,hO⟩;go_wp2_with fail;go_meet
   case rel=>exact⟨_,rfl,by simp[n],j.keep hO⟩
  have eb:(a.e == 0)=Z:=(by simp[n]);go_wp2_with fail;go_meet
  case rel=>exact⟨_,rfl,by simp[n],j⟩
 case rest=>
  clear j;obtain⟨c,rfl,hc,j⟩:=hcut;go_upto_if 32 with fail;go_cut[4] (λx wx=>x=Ua (I ⟨dg (A w)+1,0,U⟩)/\∃mx d,H (Ref.qK s mn a=(mx,d))/\mx<=2000/\(mx = -1\/0<=mx)/\d.i<=401/\H (YR w wx b s d mn mx))
  case first=>
   cases c
   .go_wp2_with fail;go_meet
    case rel=>exact⟨rfl,mn,a,by show _=_;unfold Ref.qK;exact iN (λq=>by simpa using hc.2 q),oa,oa,oa,j⟩
   obtain⟨n,b1⟩:=hc.1 rfl;clear hc;have bc:a.i<dJ s:=(by rw[<-zw];omega);obtain⟨l0,l1,l2,l3,k1,k2,k3⟩:=j.l;obtain⟨t0,t1,t2,t3,t4,t5,v0,v1,v2,v3,v4,v5⟩:=j.t;have H5:=zd (j.go.top (-1));go_wp2_with fail;refine(Zp b s (a.go 1) _ H5.l hs).mono ?_;rintro e w2 ⟨rfl,a6⟩;have H6:=zd (H5.keep a6);by_cases T:ze s (a.i+1)=125
   .have aW:(ze s (a.go 1).i != 125)=Z:=(by simp[St.go,T]);go_wp2_with fail;go_meet
    case rel=>exact⟨rfl,-1,a.go 1,by show _=_;unfold Ref.qK;rw[IN ⟨n,b1⟩,IN T],oa,Q rfl,by simp only[St.go];omega,H6⟩
   have aW:(ze s (a.go 1).i != 125)=G:=(by simp[St.go,T]);obtain⟨n0,n1,n2,n3⟩:=Ref.wK s (a.go 1);have n4:=n3 (by simp only[St.go];omega);go_wp2_with fail;refine(WS b s (a.go 1) _ H6.l hs (by simp only[St.go];omega)).mono ?_;rintro e w4 ⟨rfl,aN,aP⟩;have H7:=H6.turn aP aN;have g:H (Ref.qK s mn a=Ref.zU s (a.go 1)):=(by show _=_;unfold Ref.qK;rw[IN ⟨n,b1⟩,iN T]);generalize Ref.zU s (a.go 1)=r at *;obtain⟨mx,d⟩:=r;simp only[] at *;have S:=zd (H7.top mx);obtain⟨t0,t1,t2,t3,t4,t5,v0,v1,v2,v3,v4,v5⟩:=H7.t;clear H7 aN aP n2 n3 b1 T n l0 l1 l2 l3 k1 k2 k3 H5 H6;go_wp2_with fail;go_meet
   case rel=>exact⟨rfl,mx,d,g,n1,O n0,oa,S⟩
  case rest=>
   (clear j hc;obtain⟨rfl,mx,d,H2,x1,x2,x3,l⟩:=hcut;obtain⟨l0,l1,l2,l3,k1,k2,k3⟩:=l.l;obtain⟨t0,t1,t2,t3,t4,t5,v0,v1,v2,v3,v4,v5⟩:=l.t;obtain⟨z,B,F,L,N,P,u0,u1,u2,u3,u4,u5⟩:=l.r;have HF:H (∀aJ w',Ref.yu s st=(mn,mx,aJ)->YR w w' b s aJ mn mx->∀u0 u1 u2 u3 u4 u5,(Ref.yu s st).1=mn/\(Ref.yu s st).2.1=mx/\Lex ((((((w'.setCell ⟨dg (A w),0,U⟩ u0).setCell ⟨dg (A w),1,U⟩ u1).setCell ⟨dg (A w),2,U⟩ u2).setCell ⟨dg (A w),3,U⟩ u3).setCell ⟨dg (A w),4,U⟩ u4).setCell ⟨dg (A w),5,U⟩ u5) b s (Ref.yu s st).2.2/\zg (zr b) w ((((((w'.setCell ⟨dg (A w),0,U⟩ u0).setCell ⟨dg (A w),1,U⟩ u1).setCell ⟨dg (A w),2,U⟩ u2).setCell ⟨dg (A w),3,U⟩ u3).setCell ⟨dg (A w),4,U⟩ u4).setCell ⟨dg (A w),5,U⟩ u5)):=λaJ w' e h _ _ _ _ _ _=>by rw[e];exact⟨rfl,rfl,h.l.keep (zg.six (dg (A w)) _ _ _ _ _ _ _) (by unfold zr;omega),h.o.NU (zg.six (dg (A w)) _ _ _ _ _ _ _) (AD _)⟩);by_cases k:d.e=0
   .have a2:(d.e == 0)=G:=(by simp[k]);go_wp2_with fail;refine(z8 b s d _ l.l hs).mono ?_;rintro e w2 ⟨rfl,aI,rfl⟩;by_cases m:ze s d.i=125
    .have aX:(ze s d.i != 125)=Z:=(by simp[m]);have S:=zd (l.keep ((zg.refl _ _).drewN aI)).go;by_cases aH:0<=mx/\mx<mn
     .have HH:=zd (Ref.Vk H1 H2 k m aH);obtain⟨y0,y1⟩:=aH;clear k m x2;go_wp2_with fail;refine(yT b s (d.go 1) 4 _ _ S.l).mono ?_;rintro e w5 ⟨rfl,W,X⟩;have g:=S.turn X W;obtain⟨t0,t1,t2,t3,t4,t5,v0,v1,v2,v3,v4,v5⟩:=g.t;obtain⟨z,B,F,L,N,P,u0,u1,u2,u3,u4,u5⟩:=g.r;have HG:=zd (zb HF _ _ HH g);clear g W X;go_wp2_with fail;refine bodyPost_ret (v:=Uf #[M J 6,C Z,K U 0 0,M J 0,M J mn,M J mx]) (by simp[results,results121,go_sem,z,B,F,L,N,P]) rfl ?_;obtain⟨o,p,t⟩:=zb HG _ _ _ _ _ _;exact⟨by rw[o,p],t⟩
     have HG:=zd (zb HF _ _ (Ref.zaV H1 H2 k m aH) S);have y:decide (0<=mx)=Z\/(0<=mx/\¬mx<mn):=(by rcases x2 with q|q;left;simp;omega;right;omega);clear k m x2;rcases y with y|⟨y,y2⟩
     all_goals
      go_wp2_with fail;refine bodyPost_ret (v:=Uf #[M J 6,C Z,K U 0 0,M J 0,M J mn,M J mx]) (by simp[results,results121,go_sem,z,B,F,L,N,P]) rfl ?_;obtain⟨o,p,t⟩:=zb HG _ _ _ _ _ _;exact⟨by rw[o,p],t⟩
    have aX:(ze s d.i != 125)=G:=(by simp[m]);have HH:=zd (Ref.zbY H1 H2 k m);have en:((d.fail 3 d.i).e == 0)=Z:=(by simp[Ref.vD]);clear k m;go_wp2_with fail;refine(yT b s d 3 _ _ (l.l.drewN aI)).mono ?_;rintro e w5 ⟨rfl,W,X⟩;have g:=(l.keep ((zg.refl _ _).drewN aI)).turn X W;obtain⟨t0,t1,t2,t3,t4,t5,v0,v1,v2,v3,v4,v5⟩:=g.t;obtain⟨z,B,F,L,N,P,u0,u1,u2,u3,u4,u5⟩:=g.r;have ba:(d.fail 3 d.i).i<=401:=(by rw[Ref.xC];omega);have HG:=zd (zb HF _ _ HH g.go);obtain⟨l0,l1,l2,l3,k1,k2,k3⟩:=g.l;clear g W X;go_wp2_with fail;refine bodyPost_ret (v:=Uf #[M J 6,C Z,K U 0 0,M J 0,M J mn,M J mx]) (by simp[results,results121,go_sem,z,B,F,L,N,P]) rfl ?_;obtain⟨o,p,t⟩:=zb HG _ _ _ _ _ _;exact⟨by rw[o,p],t⟩
   have a2:(d.e == 0)=Z:=(by simp[k]);have HG:=zd (zb HF _ _ (Ref.zaU H1 H2 k) l.go);clear k;go_wp2_with fail;refine bodyPost_ret (v:=Uf #[M J 6,C Z,K U 0 0,M J 0,M J mn,M J mx]) (by simp[results,results121,go_sem,z,B,F,L,N,P]) rfl ?_;obtain⟨o,p,t⟩:=zb HG _ _ _ _ _ _;exact⟨by rw[o,p],t⟩
namespace Ref
theorem Gg (mn:Int)(st:St)(h:st.i<=q s):(qK s mn st).2.i<=q s+1:=by
 unfold qK;split
 .rename_i a;have b:st.i<q s:=by rw[<-zw];omega
  split;simp only[St.go];omega;have:=(wK s (st.go 1)).2.2.2 (by simp only[St.go];omega);omega
 simp only[];omega
theorem WU (st:St)(h:st.i<q s):(yu s st).2.2.i<=q s+2:=by
 have b:=(wK s (st.go 1)).2.2.2 (by simp only[St.go];omega);have d:=Gg s (zU s (st.go 1)).1 _ b;have c:∀st',(yE s st').i=st'.i:=by intro st';unfold yE;split;exact xC _ _ _;rfl
 unfold yu;dsimp only;have a:∀st':St,((yE s st').go 1).i=st'.i+1:=by intro st';show(yE s st').i+1=_;rw[c]
 split;rw[xC,a];omega;rw[a];omega
end Ref
namespace Ref
theorem bq {k:Int}(x:c=k)(j:Int):(c == j)=(k == j):=by rw[x]
end Ref
theorem Vl (st:St)(w:E)(h:Lex w b s st)(m:dJ s<=400)(hi:st.i<dJ s)(S:st.e=0):Uh V 69 #[Ua (I ⟨b,0,U⟩)] w λx w'=> x=.returned (Uf #[M J 6,C Z,K U 0 0,M J 0,M J (Ref.zM s st).1,M J (Ref.zM s st).2.1])/\Lex w' b s (Ref.zM s st).2.2/\zg (zr b) w w':=by
 have ay:=zd h;have bk:=h.lt;have HE:=zd S;have eb:(st.e == 0)=G:=by simp[S]
 clear S;have L:=zd ((ay.alloc (Ub #[M J 0,C Z,K U 0 0,M J 0,M J 0,M J 0] 177)).alloc (Ub #[M J 6,C Z,K U 0 0,M J 0,M J 0,M J (-1)] 177));have ao:=zd ((Tz.new (n:=dg (A w)) (a0:=M J 0) (a1:=C Z) (a2:=K U 0 0) (a3:=M J 0) (a4:=M J 0) (a5:=M J 0) w 177 rfl).keep ((zg.refl (λ_=>False) _).alloc (Ub #[M J 6,C Z,K U 0 0,M J 0,M J 0,M J (-1)] 177)) id);have aq:=zd (Tz.new (n:=dg (A w)+1) (a0:=M J 6) (a1:=C Z) (a2:=K U 0 0) (a3:=M J 0) (a4:=M J 0) (a5:=M J (-1)) (dB w (Ub #[M J 0,C Z,K U 0 0,M J 0,M J 0,M J 0] 177)) 177 ov);have al:=zd (((zg.refl (zr b) w).alloc (Ub #[M J 0,C Z,K U 0 0,M J 0,M J 0,M J 0] 177)).alloc (Ub #[M J 6,C Z,K U 0 0,M J 0,M J 0,M J (-1)] 177));clear h;go_enter func69,ntmps69;go_wp2_with fail;refine(Zp b s st _ L m).mono ?_;rintro e w1 ⟨rfl,k⟩;have ak:=L.keep k id;have ar:=aq.keep k id;have ap:=ao.keep k id;have an:=zd (al.trans (k.mono (λ_ _ f=>f.elim)));have aj:=zd ak;have aC:=zd ar;have aA:=zd ap;clear k L aq ao al;have⟨l0,l1,l2,l3,k1,k2,k3⟩:=ak;have⟨t0,t1,t2,t3,t4,t5,v0,v1,v2,v3,v4,v5⟩:=ar;have⟨T,W,X,r3,r4,r5,u0,u1,u2,u3,u4,u5⟩:=ap;by_cases x:ze s st.i=43\/ze s st.i=63\/ze s st.i=42
 .have bi:((st.go 1).e == 0)=G:=by simp[St.go,zb HE]
  obtain x|x|x:=x
  case' inl=>have d:H (Ref.zM s st=(1,-1,Ref.xY s (st.go 1))):=by show _=_;unfold Ref.zM;rw[IN x]
  case' inl=>have o:=zd ((zg.refl (zr (dg (A w)+1)) w1).NS 4 (M J 1))
  case' inr.inl=>have d:H (Ref.zM s st=(0,1,Ref.xY s (st.go 1))):=by show _=_;unfold Ref.zM;rw[iN oa,IN x]
  case' inr.inl=>have o:=zd ((zg.refl (zr (dg (A w)+1)) w1).NS 5 (M J 1))
  case' inr.inr=>have d:H (Ref.zM s st=(0,-1,Ref.xY s (st.go 1))):=by show _=_;unfold Ref.zM;rw[iN oa,iN oa,IN x]
  case' inr.inr=>have o:=zd (zg.refl (zr (dg (A w)+1)) w1)
  all_goals
   have hq:=Ref.bq x;clear x;go_wp2_with fail;have N:=zd ((aj.keep o Af).NX ((st.i:Int)+1) 1 oa);have am:=zd ((an.NU o oa).NS 1 (M J ((st.i:Int)+1)));refine(z8 b s (st.go 1) _ N m).mono ?_;rintro e w2 ⟨rfl,nq,rfl⟩;simp only[St.go];by_cases a:ze s (st.i+1)=63
   .have q:(ze s (st.i+1) == 63)=G:=(by simp[a]);have g:H (Ref.xY s (st.go 1)=(st.go 1).go 1):=(by show _=_;unfold Ref.xY;rw[IN ⟨by simp[St.go,zb HE],a⟩]);clear a;go_wp2_with fail;refine bodyPost_ret (v:=Uf #[M J 6,C Z,K U 0 0,M J 0,M J (Ref.zM s st).1,M J (Ref.zM s st).2.1]) (by simp[results,results69,go_sem,T,W,X,r3,r4,r5,zb d]) rfl ?_;rw[zb d,zb g];exact⟨rfl,((N.drewN nq).NX _ 1 (by simp only[St.go];omega)).keep (zg.six (dg (A w)) _ _ _ _ _ _ _) Af,((am.drewN nq).NS 1 _).NU (zg.six (dg (A w)) _ _ _ _ _ _ _) (AD _)⟩
   have q:(ze s (st.i+1) == 63)=Z:=(by simp[a]);have g:H (Ref.xY s (st.go 1)=st.go 1):=(by show _=_;unfold Ref.xY;rw[iN (by intro l;exact a l.2)]);clear a;go_wp2_with fail;refine bodyPost_ret (v:=Uf #[M J 6,C Z,K U 0 0,M J 0,M J (Ref.zM s st).1,M J (Ref.zM s st).2.1]) (by simp[results,results69,go_sem,T,W,X,r3,r4,r5,zb d]) rfl ?_;rw[zb d,zb g];exact⟨rfl,(N.drewN nq).keep (zg.six (dg (A w)) _ _ _ _ _ _ _) Af,(am.drewN nq).NU (zg.six (dg (A w)) _ _ _ _ _ _ _) (AD _)⟩
 simp only[not_or] at x;have⟨x1,x2,x3⟩:=x;have y1:(ze s st.i == 43)=Z:=by simp[x1]
 have y2:(ze s st.i == 63)=Z:=by simp[x2]
 have y3:(ze s st.i == 42)=Z:=by simp[x3]
 have d:H (Ref.zM s st=((Ref.yu s st).1,(Ref.yu s st).2.1,Ref.xY s (Ref.yu s st).2.2)):=by show _=_;unfold Ref.zM;rw[iN x1,iN x2,iN x3]
 clear x1 x2 x3;go_wp2_with fail;refine(zea b s st _ aj m hi).mono ?_;rintro e w3 ⟨rfl,ai,p⟩;have az:=aA.keep p Af;have aB:=aC.keep p Af;have bj:=Ref.WU s st hi;generalize hr:Ref.yu s st=r at *;have⟨mn,mx,c⟩:=r;simp only[] at *;have j:=zd (ai.keep (zg.six (dg (A w)+1) w3 (M J 6) (C Z) (K U 0 0) (M J 0) (M J mn) (M J mx)) Af);have P:=zd ((an.trans p).NU (zg.six (dg (A w)+1) w3 (M J 6) (C Z) (K U 0 0) (M J 0) (M J mn) (M J mx)) oa);have⟨a0,a1,a2,a3,a4,a5,c0,c1,c2,c3,c4,c5⟩:=aB;have⟨t,u,y,z,B,F,d0,d1,d2,d3,d4,d5⟩:=az;have⟨z0,z1,z2,z3,j1,j2,j3⟩:=ai;clear p hr l0 l1 l2 l3 k1 k2 k3 t0 t1 t2 t3 t4 t5 v0 v1 v2 v3 v4 v5 T W X r3 r4 r5 u0 u1 u2 u3 u4 u5;by_cases i:c.e=0
 .have ax:(c.e == 0)=G:=(by simp[i]);by_cases a:ze s c.i=63
  .have q:(ze s c.i == 63)=G:=(by simp[a]);have g:H (Ref.zM s st=(mn,mx,c.go 1)):=(by rw[zb d];show _=_;unfold Ref.xY;rw[IN ⟨i,a⟩]);clear i a;go_wp2_with fail;refine(z8 b s c _ j m).mono ?_;rintro e w2 ⟨rfl,nq,rfl⟩;go_wp2_with fail;refine bodyPost_ret (v:=Uf #[M J 6,C Z,K U 0 0,M J 0,M J (mn),M J (mx)]) (by simp[results,results69,go_sem,t,u,y,z,B,F]) rfl ?_;rw[zb g];exact⟨rfl,((j.drewN nq).NX _ 1 oa).keep (zg.six (dg (A w)) _ _ _ _ _ _ _) Af,((P.drewN nq).NS 1 _).NU (zg.six (dg (A w)) _ _ _ _ _ _ _) (AD _)⟩
  have q:(ze s c.i == 63)=Z:=(by simp[a]);have g:H (Ref.zM s st=(mn,mx,c)):=(by rw[zb d];show _=_;unfold Ref.xY;rw[iN (by intro l;exact a l.2)]);clear i a;go_wp2_with fail;refine(z8 b s c _ j m).mono ?_;rintro e w2 ⟨rfl,nq,rfl⟩;go_wp2_with fail;refine bodyPost_ret (v:=Uf #[M J 6,C Z,K U 0 0,M J 0,M J (mn),M J (mx)]) (by simp[results,results69,go_sem,t,u,y,z,B,F]) rfl ?_;rw[zb g];exact⟨rfl,(j.drewN nq).keep (zg.six (dg (A w)) _ _ _ _ _ _ _) Af,(P.drewN nq).NU (zg.six (dg (A w)) _ _ _ _ _ _ _) (AD _)⟩
 have ax:(c.e == 0)=Z:=(by simp[i]);have g:H (Ref.zM s st=(mn,mx,c)):=(by rw[zb d];show _=_;unfold Ref.xY;rw[iN (by intro l;exact i l.1)]);clear i;go_wp2_with fail;refine bodyPost_ret (v:=Uf #[M J 6,C Z,K U 0 0,M J 0,M J (mn),M J (mx)]) (by simp[results,results69,go_sem,t,u,y,z,B,F]) rfl ?_;rw[zb g];exact⟨rfl,j.keep (zg.six (dg (A w)) _ _ _ _ _ _ _) Af,P.NU (zg.six (dg (A w)) _ _ _ _ _ _ _) (AD _)⟩
namespace Ref
def Zj (s:Al)(st:St):Prop:=st.i<=q s/\(st.e=0->Good s st.i)
theorem Zj.fail {s:Al}{st:St}{e a:Int}(h:st.i<=q s)(c:e≠0):Zj s (st.fail e a):=
 ⟨by rw[xC];exact h,λb=>absurd b (vD st e a c)⟩
theorem Qw {b:Int}(h:0<=hexV b):0<=b/\b<128:=by unfold hexV at h;(repeat' split at h)<;>omega
theorem JI (s:Al):∀(n:Nat) (c:Int) (st:St),Good s st.i->Zj s (Zi s n c st).2/\st.i<=(Zi s n c st).2.i
 |0,c,st,h=>⟨⟨h.le,λ_=>h⟩,AD _⟩
 |n+1,c,st,h=>by
  by_cases d:hexV (ze s st.i)<0;rw[Vc d];exact⟨Zj.fail h.le od,by rw[xC];exact AD _⟩;rw[JF oa];have a:=Qw (b:=ze s st.i) oa;have:=JI s n (16*c+hexV (ze s st.i)) (st.go 1) (h.NW a.1 a.2);exact⟨this.1,by have:=this.2;simp only[St.go] at this ⊢;omega⟩
theorem QP (s:Al):∀(f:Nat) (c:Int) (n:Nat) (st:St),Good s st.i->Zj s (qZ s f c n st).2/\st.i<=(qZ s f c n st).2.i
 |0,c,n,st,h=>⟨⟨h.le,λ_=>h⟩,AD _⟩
 |f+1,c,n,st,h=>by
  by_cases a:0<n/\ze s st.i=125;rw[ZE a.1 a.2];have g:=h.NW oa oa;exact⟨⟨g.le,λ_=>g⟩,by simp only[St.go];omega⟩;by_cases e:hexV (ze s st.i)<0\/1114111<16*c+hexV (ze s st.i);rw[YV a e];exact⟨Zj.fail h.le od,by rw[xC];exact AD _⟩;rw[Yg a e];have d:=Qw (b:=ze s st.i) oa;have:=QP s f (16*c+hexV (ze s st.i)) (n+1) (st.go 1) (h.NW d.1 d.2);exact⟨this.1,by have:=this.2;simp only[St.go] at this ⊢;omega⟩
theorem QQ (s:Al):∀(n k:Nat) (c:Int),0<=c->0<=wh s n k c->Good s k->Good s (k+n)
 |0,k,c,_,_,h=>h
 |n+1,k,c,f,a,h=>by
  by_cases e:hexV (ze s k)<0;rw[XH e] at a;omega;rw[Yh oa] at a;have d:=Qw (b:=ze s k) oa;have:=QQ s n (k+1) _ oa a (h.NW d.1 d.2);rw[show k+(n+1)=k+1+n by omega];exact this
variable {s i}
theorem WV (h:0<=xA s i)(e:Good s i):Good s (i+6)/\ze s i=92/\ze s (i+1)=117:=by
 unfold xA at h;split at h;omega;rename_i f;have c:ze s i=92:=by omega
 have d:ze s (i+1)=117:=oa;have a:=e.NW oa oa;have b:=a.NW oa oa;exact⟨QQ s 4 (i+2) 0 oa h b,c,d⟩
theorem Wy {st:St}(e:1<=st.i)(b:Good s (st.i-1))(f:ze s (st.i-1)=92)(g:ze s st.i=117):Zj s (xB s st).2/\st.i<=(xB s st).2.i:=by
 have c:Good s st.i:=by have:=b.NW oa oa;rwa [show st.i-1+1=st.i by omega] at this
 have a:=c.NW oa oa;unfold xB;split;rename_i h;have d:=a.NW oa oa;have:=QP s (q s+1-(st.go 2).i) 0 0 (st.go 2) d;exact⟨this.1,by have:=this.2;simp only[St.go,vC] at this ⊢;omega⟩;split;rename_i h;simp only[ZR,B8,decide_eq_true_eq] at h;have a1:=(WV oa b).1;rw[show st.i-1+6=st.i+5 by omega] at a1;have a2:=(WV oa a1).1;exact⟨⟨a2.le,λ_=>a2⟩,by simp only[St.go];omega⟩;have:=JI s 4 0 (st.go 1) a;exact⟨this.1,by have:=this.2;simp only[St.go] at this ⊢;omega⟩
theorem zbZ {b:Int}(h:signB b=G):0<=b/\b<128:=by simp[signB] at h;omega
theorem zaW {st:St}(j:1<=st.i)(g:Good s (st.i-1))(k:ze s (st.i-1)=92):Zj s (zI s cls st).2/\st.i<=(zI s cls st).2.i:=by
 have d:Good s st.i:=by have:=g.NW oa oa;rwa [show st.i-1+1=st.i by omega] at this
 have step:0<=ze s st.i->ze s st.i<128->Zj s (st.go 1)/\st.i<=(st.go 1).i:=λa b=>⟨⟨(d.NW a b).le,λ_=>d.NW a b⟩,by simp only[St.go];omega⟩
 unfold zI;split
 .rename_i h;have:0<=ze s st.i/\ze s st.i<128:=by unfold yS at h;(repeat' split at h)<;>omega
  exact step this.1 this.2
 split;have c:=step oa oa;dsimp only;split;exact⟨Zj.fail c.1.1 od,by rw[xC];exact c.2⟩;exact c;split;have c:=step oa oa;have e:=d.NW oa oa;split;have f:=e.NW oa oa;exact⟨⟨f.le,λ_=>f⟩,by simp only[St.go];omega⟩;exact⟨Zj.fail c.1.1 od,by rw[xC];exact c.2⟩;split;have e:=d.NW oa oa;have:=JI s 2 0 (st.go 1) e;exact⟨this.1,by have:=this.2;simp only[St.go] at this ⊢;omega⟩;split;rename_i h;exact Wy j g k h;split
 .rename_i h;have:0<=ze s st.i/\ze s st.i<128:=by obtain h|h:=h;exact zbZ h;omega
  exact step this.1 this.2
 split;exact step oa oa;exact⟨Zj.fail d.le od,by rw[xC];exact AD _⟩
theorem zeb {b:Int}(h:setL b≠[]):0<=b/\b<128:=by unfold setL at h;(repeat' split at h)<;>first|omega|simp at h
theorem QR {st:St}(d:Good s st.i)(e:ze s st.i=92):Zj s (zF s cls st).2.2/\st.i<(zF s cls st).2.2.i:=by have a:=d.NW oa oa;unfold zF;split;exact⟨Zj.fail a.le od,by rw[xC];simp only[St.go];omega⟩;split;rename_i h;have c:=zeb h;have b:=a.NW c.1 c.2;exact⟨⟨b.le,λ_=>b⟩,by simp only[St.go];omega⟩;have:=zaW (cls:=cls) (st:=st.go 1) (by simp only[St.go];omega) (by simp only[St.go,Nat.add_sub_cancel];exact d) (by simp only[St.go,Nat.add_sub_cancel];exact e);exact⟨this.1,by have:=this.2;simp only[St.go] at this ⊢;omega⟩
theorem wC {st:St}(a:Good s st.i)(e:st.i<q s):Zj s (zo s st).2.2/\st.i<(zo s st).2.2.i:=by unfold zo;split;rename_i h;exact QR a h;have⟨n,c,d,b⟩:=a.next e;rw[d];have f:=qo d;exact⟨⟨b.le,λ_=>b⟩,by simp only[St.go];omega⟩
theorem zb0 {st:St}(h:(zF s cls st).2.1=G)(a:(zF s cls st).2.2.e=0):∃c,(zF s cls st).1.spans=[(c,c)]:=by
 unfold zF at *;split;rename_i b;rw[IN b] at a;exact absurd a (vD _ _ _ od)
 grind
theorem Ki {st:St}(d:Good s st.i)(f:st.i<q s)(h:(zo s st).2.1=G)(a:(zo s st).2.2.e=0):∃c,(zo s st).1.spans=[(c,c)]:=by unfold zo at *;split;rename_i b;rw[IN b] at h a;exact zb0 h a;have⟨n,c,g,i⟩:=d.next f;rw[g];exact⟨c,rfl⟩
end Ref
theorem zg.N3 {row:Option Nat}(h:w.grownBy w' row):zg (λk=>row=I k) w w':=
 ⟨h.os,h.tape,h.output,h.size,λk a b=>h.block k a (λe=>b e.symm)⟩
theorem Vm {base base':Nat}{e d:TypeId}{size p:Nat}{v f:Y}{n o:Nat}{xs q:An}(h:w.ownsRow base e size v n xs)(i:w.ownsRow base' d p f o q)(l:e≠d)(g:Nat)(a:dH v=I g):¬dH f=I g:=by intro b;have⟨_,j⟩:=h;have⟨_,k⟩:=i;obtain⟨rfl,_⟩|⟨x,r,t,rfl,z,m,_⟩:=j;simp[dH] at a;obtain⟨rfl,_⟩|⟨y,s,u,rfl,B,c,_⟩:=k;simp[dH] at b;simp only[dH,Option.some.injEq] at a b;subst a;subst b;rw[m] at c;simp only[Option.some.injEq,Obj.cells.injEq] at c;exact l c.2.1
def yw (w:E)(base:Nat):Ba->An->Prop
 | [],[]=>True
 |p :: ps,b :: v :: vs=>b=C p.neg/\yB w base v p.spans/\yw w base ps vs
 |_,_=>False
def Tt (w:E)(base:Nat)(v:Y)(l:Ba):Prop:=∃a,w.ownsRow base 274 2 v (D l) a/\yw w base l a
theorem yw.keep {P:Aj}{w w':E}{base:Nat}(k:zg P w w')(b:∀g,base<=g->g<y (A w)->¬P g):∀(l:Ba) (a:An),yw w base l a->yw w' base l a
 | [],[],_=>trivial
 |_p :: ps,_b :: _v :: vs,h=>⟨h.1,h.2.1.keep k b,yw.keep k b ps vs h.2.2⟩
 | [],_ :: _,h=>h
 |_ :: _,[],h=>h
 |_ :: _,[_],h=>h
theorem Tt.keep {P:Aj}{w w':E}{base:Nat}{v:Y}{l:Ba}(h:Tt w base v l)(k:zg P w w')(d:∀g,base<=g->g<y (A w)->¬P g):Tt w' base v l:=by have⟨b,a,e⟩:=h;exact⟨b,zk a k (λg c=>d g (zh a g c).1 (zh a g c).2),yw.keep k d l b e⟩
theorem yw.base {w:E}{base base':Nat}(b:base'<=base):∀(l:Ba) (a:An),yw w base l a->yw w base' l a
 | [],[],_=>trivial
 |_p :: ps,_b :: _v :: vs,h=>⟨h.1,h.2.1.base b,yw.base b ps vs h.2.2⟩
 | [],_ :: _,h=>h
 |_ :: _,[],h=>h
 |_ :: _,[_],h=>h
theorem Tt.base {w:E}{base base':Nat}{v:Y}{l:Ba}(h:Tt w base v l)(b:base'<=base):Tt w base' v l:=by have⟨a,c,d⟩:=h;exact⟨a,zL c b,yw.base b l a d⟩
theorem Tt.nil (w:E)(base:Nat):Tt w base (K U 0 0) []:=⟨[],A0 _ _ _ _,trivial⟩
theorem yB.grown {base base':Nat}{a v:Y}{n:Nat}{xs:An}{l:Ai}(h:yB w base a l)(e:w.ownsRow base' 274 2 v n xs)(d:w.grownBy w' (dH v)):yB w' base a l:=
 zk h (zg.N3 d) (λg b c=>Vm h e od g b c)
theorem yw.grown {w w':E}{base base':Nat}{v:Y}{n:Nat}{xs:An}(c:w.ownsRow base' 274 2 v n xs)(b:w.grownBy w' (dH v)):∀(l:Ba) (a:An),yw w base l a->yw w' base l a
 | [],[],_=>trivial
 |_p :: ps,_b :: _v :: vs,h=>⟨h.1,h.2.1.grown c b,yw.grown c b ps vs h.2.2⟩
 | [],_ :: _,h=>h
 |_ :: _,[],h=>h
 |_ :: _,[_],h=>h
theorem yw.append {w:E}{base:Nat}{p:Pt}{c:Y}(b:yB w base c p.spans):∀(l:Ba) (a:An),yw w base l a->yw w base (l++[p]) (a++[C p.neg,c])
 | [],[],_=>⟨rfl,b,trivial⟩
 |_q :: ps,_b :: _v :: vs,h=>⟨h.1,h.2.1,yw.append b ps vs h.2.2⟩
 | [],_ :: _,h=>h.elim
 |_ :: _,[],h=>h.elim
 |_ :: _,[_],h=>h.elim
theorem Tt.appended {base:Nat}{v e:Y}{l:Ba}{a:An}{p:Pt}{b:Y}(c:w.ownsRow base 274 2 v (D l) a)(f:yw w base l a)(h:yB w base b p.spans)(g:w'.ownsRow base 274 2 e (D l+1) (a++[C p.neg,b])) (d:w.grownBy w' (dH v)):Tt w' base e (l++[p]):=
 ⟨a++[C p.neg,b],by rw[AO];exact g,yw.append (h.grown c d) l a (yw.grown c d l a f)⟩
namespace Ref
def jY (s:Al)(st:St):Bool:=decide (st.e=0) && decide (ze s st.i=45) && decide (st.i+1<q s) && decide (ze s (st.i+1)≠93)
def A6 (p:Pt):Int:=match p.spans with
 | []=>0
 |x :: _=>x.1
def BN (p q:Pt)(one two:Bool):Bool:=!one || !two ||decide (A6 q<A6 p)
def yP (s:Al):Nat->Ba->St->Ba×St
 |0,ps,st=>(ps,st)
 |f+1,ps,st=>
  if st.e=0/\ze s st.i≠93 then
   (if ze s st.i<0 then(ps,st.fail 3 st.i)
    else if jY s (zo s st).2.2=G then
    (if(zo s ((zo s st).2.2.go 1)).2.2.e≠0 then(ps,(zo s ((zo s st).2.2.go 1)).2.2)
     else if BN (zo s st).1 (zo s ((zo s st).2.2.go 1)).1 (zo s st).2.1 (zo s ((zo s st).2.2.go 1)).2.1=G then(ps,(zo s ((zo s st).2.2.go 1)).2.2.fail 4 (zo s st).2.2.i)
     else yP s f (ps++[⟨(zo s st).1.neg,[(A6 (zo s st).1,A6 (zo s ((zo s st).2.2.go 1)).1)]⟩]) (zo s ((zo s st).2.2.go 1)).2.2)
    else yP s f (ps++[(zo s st).1]) (zo s st).2.2)
  else(ps,st.go 1)
def vI (s:Al)(st:St):Bool:=decide (ze s st.i=94)
def yV (s:Al)(st:St):St:=if vI s st=G then st.go 1 else st
def y9 (s:Al)(st:St):Ba×St:=yP s (q s+1-(yV s st).i) [] (yV s st)
section
variable {s:Al} {f:Nat} {ps:Ba} {st:St}
theorem vt (h:¬(st.e=0/\ze s st.i≠93)):yP s (f+1) ps st=(ps,st.go 1):=by simp only[yP];rw[iN h]
theorem YX (h:st.e=0/\ze s st.i≠93)(a:ze s st.i<0):yP s (f+1) ps st=(ps,st.fail 3 st.i):=by simp only[yP];rw[IN h,IN a]
theorem wS (h:st.e=0/\ze s st.i≠93)(a:¬ze s st.i<0)(b:¬jY s (zo s st).2.2=G):yP s (f+1) ps st=yP s f (ps++[(zo s st).1]) (zo s st).2.2:=by simp only[yP];rw[IN h,iN a,iN b]
theorem YY (h:st.e=0/\ze s st.i≠93)(a:¬ze s st.i<0)(b:jY s (zo s st).2.2=G)(c:¬(zo s ((zo s st).2.2.go 1)).2.2.e=0):yP s (f+1) ps st=(ps,(zo s ((zo s st).2.2.go 1)).2.2):=by simp only[yP];rw[IN h,iN a,IN b,IN c]
theorem Qx (h:st.e=0/\ze s st.i≠93)(a:¬ze s st.i<0)(b:jY s (zo s st).2.2=G)(c:(zo s ((zo s st).2.2.go 1)).2.2.e=0)(d:BN (zo s st).1 (zo s ((zo s st).2.2.go 1)).1 (zo s st).2.1 (zo s ((zo s st).2.2.go 1)).2.1=G):yP s (f+1) ps st=(ps,(zo s ((zo s st).2.2.go 1)).2.2.fail 4 (zo s st).2.2.i):=by simp only[yP];rw[IN h,iN a,IN b,iN (by simp[c]),IN d]
theorem wD (h:st.e=0/\ze s st.i≠93)(a:¬ze s st.i<0)(b:jY s (zo s st).2.2=G)(c:(zo s ((zo s st).2.2.go 1)).2.2.e=0)(d:¬BN (zo s st).1 (zo s ((zo s st).2.2.go 1)).1 (zo s st).2.1 (zo s ((zo s st).2.2.go 1)).2.1=G):yP s (f+1) ps st=yP s f (ps++[⟨(zo s st).1.neg,[(A6 (zo s st).1,A6 (zo s ((zo s st).2.2.go 1)).1)]⟩]) (zo s ((zo s st).2.2.go 1)).2.2:=by simp only[yP];rw[IN h,iN a,IN b,iN (by simp[c]),iN d]
end
end Ref
end
