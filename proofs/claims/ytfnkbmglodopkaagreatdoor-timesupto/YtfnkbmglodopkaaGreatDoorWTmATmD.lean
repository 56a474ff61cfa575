/- What is read of a group with counts behind it. -/
import Derived.Test.YtfnkbmglodopkaaGreatDoorWKmAStC
namespace Go.Proofs.YtfnkbmglodopkaaGreatDoor
section
open Sm (Tree)
namespace Pro
section
variable {S L':List (Int×Int)} {len len':Int} {m:Nat}
structure Tl (S L':List (Int×Int))(m:Nat):Prop where
 at':∀ k,zf L' (k+m)=zf S k
 len:L'.length=m+S.length
theorem zde (h:Tl S L' m):∀ (f f':Nat) (c:Int) (n:Nat),S.length<n+f→f≤f'→qg L' f' c (n+m)=((qg S f c n).1,(qg S f c n).2+m)
 |0,0,_,_,_,_=>rfl
 |0,f'+1,c,n,hn,_=>by
  have e:zf S n = -1:=zO (by omega)
  have e2:dig (zf L' (n+m))=false:=by rw [h.at',e];rfl
  unfold qg
  rw [e2]
  rfl
 |f+1,0,_,_,_,hff=>by omega
 |f+1,f'+1,c,n,hn,hff=>by
  unfold qg
  rw [h.at']
  by_cases c1:dig (zf S n)=true
  ·simp only [if_pos c1]
   rw [show n+m+1=n+1+m by omega]
   exact zde h f f' _ (n+1) (by omega) (by omega)
  ·simp only [if_neg c1]
theorem zdf (h:Tl S L' m){n:Nat}(hn:n≤S.length)(hk:(zj S len n).k=0):zj L' len' (n+m)=shO m (zj S len n):=by
 have hl:=h.len
 have hp:countP L' (n+m)=((countP S n).1,(countP S n).2+m):=zde h _ _ 0 n (by omega) (by omega)
 unfold zj at hk ⊢
 rw [h.at',hp]
 by_cases c1:dig (zf S n)=false
 ·simp only [if_pos c1] at hk;exact (xp hk).elim
 simp only [if_neg c1] at hk ⊢
 by_cases c2:100<(countP S n).1
 ·simp only [if_pos c2] at hk;exact (xp hk).elim
 ·simp only [if_neg c2];rfl
theorem zds (h:Tl S L' m){n:Nat}(hn:n<S.length)(hk:(zJ S len n).1.k=0):zJ L' len' (n+m)=(shO m (zJ S len n).1,(zJ S len n).2):=by
 unfold zJ at hk ⊢
 simp only at hk ⊢
 rw [show n+m+1=n+1+m by omega]
 by_cases c1:(zj S len (n+1)).k≠0
 ·simp only [if_pos c1] at hk;exact absurd hk c1
 have e1:=zdf (len':=len') h (show n+1≤S.length by omega) (show (zj S len (n+1)).k=0 by omega)
 have i1:=qV (len:=len) (n+1) (show n+1≤S.length by omega)
 rw [e1]
 generalize hA:zj S len (n+1)=A at *
 have c1':¬(shO m A).k≠0:=c1
 have eN:(shO m A).n=A.n+m:=rfl
 have eV:(shO m A).v=A.v:=rfl
 simp only [if_neg c1,if_neg c1',eN,eV] at hk ⊢
 rw [show A.n+m+1=A.n+1+m by omega,show A.n+m+2=A.n+2+m by omega,h.at',h.at']
 by_cases c2:zf S A.n=125
 ·simp only [if_pos c2]
  rfl
 simp only [if_neg c2] at hk ⊢
 by_cases c3:zf S A.n≠44
 ·simp only [if_pos c3] at hk;exact (xp hk).elim
 simp only [if_neg c3] at hk ⊢
 have h2:A.n<S.length:=zq (by rw [show zf S A.n=44 by simpa using c3];decide)
 by_cases c4:zf S (A.n+1)=125
 ·simp only [if_pos c4]
  rfl
 simp only [if_neg c4] at hk ⊢
 by_cases c5:(zj S len (A.n+1)).k≠0
 ·simp only [if_pos c5] at hk;exact absurd hk c5
 have e2:=zdf (len':=len') h (show A.n+1≤S.length by omega) (show (zj S len (A.n+1)).k=0 by omega)
 rw [e2]
 generalize hM:zj S len (A.n+1)=M at *
 have c5':¬(shO m M).k≠0:=c5
 have eN':(shO m M).n=M.n+m:=rfl
 have eV':(shO m M).v=M.v:=rfl
 simp only [if_neg c5,if_neg c5',eN',eV'] at hk ⊢
 rw [show M.n+m+1=M.n+1+m by omega,h.at']
 by_cases c6:zf S M.n≠125
 ·simp only [if_pos c6] at hk;exact (xp hk).elim
 simp only [if_neg c6] at hk ⊢
 by_cases c7:M.v<A.v
 ·simp only [if_pos c7] at hk;exact (xp hk).elim
 ·simp only [if_neg c7]
  rfl
theorem tl_quant (h:Tl S L' m)(h0:zf S 0=123){l hi:Int}(hc:zJ S 0 0=(good l S.length,hi)):zu L' len' m=(true,good l L'.length,hi)∧jR L' L'.length=L'.length:=by
 have e:=zds (len:=0) (len':=len') h (n:=0) (zq (by rw [h0];decide)) (by rw [hc];rfl)
 have a0:=h.at' 0
 rw [Nat.zero_add] at e a0
 rw [h0] at a0
 constructor
 ·unfold zu
  rw [a0,e,hc,h.len,kB,Nat.add_comm S.length m]
  simp
 ·unfold jR
  rw [if_neg]
  rw [zO (Nat.le_refl _)]
  decide
end
def digL (n:Nat):List UInt8:=if n<10 then [UInt8.ofNat (48+n)] else [UInt8.ofNat (48+n / 10),UInt8.ofNat (48+n % 10)]
def cntA (l:Nat):ByteArray:=⟨([123]++digL l++[125]).toArray⟩
def cntB (l:Nat):ByteArray:=⟨([123]++digL l++[44,125]).toArray⟩
def cntC (l h:Nat):ByteArray:=⟨([123]++digL l++[44]++digL h++[125]).toArray⟩
def cntK (c:ByteArray)(l hi:Int):Bool:=decide ((Ref.zo c).2<0) && decide (zf (lets c) 0=123) && decide ((zJ (lets c) 0 0).1.k=0) && decide ((zJ (lets c) 0 0).1.p=0) && decide ((zJ (lets c) 0 0).1.v=l) && decide ((zJ (lets c) 0 0).1.n=(lets c).length) && decide ((zJ (lets c) 0 0).2=hi)
theorem cntA_ok:∀ l:Fin 8,cntK (cntA l) l l=true:=by decide +kernel
theorem cntB_ok:∀ l:Fin 8,cntK (cntB l) l (-1)=true:=by decide +kernel
theorem cntC_ok:∀ (l:Fin 8) (m:Fin 6),cntK (cntC l (l+m)) l ((l:Nat)+(m:Nat):Nat)=true:=by decide +kernel
theorem cnt_out {p c:ByteArray}{l hi:Int}(h:Reads p)(hc:cntK c l hi=true)(h0:∀ v,0≤v→v<300→0≤repS v l hi)(hv:(zD p).v<300) :
  (zD (mixS sGo p zF c ByteArray.empty)).k=7∨(Reads (mixS sGo p zF c ByteArray.empty)∧(zD (mixS sGo p zF c ByteArray.empty)).v=min (repS (zD p).v l hi) 301∧zE (mixS sGo p zF c ByteArray.empty)=tAlt [tSeq [tRep (zE p) l hi]]):=by
 unfold cntK at hc
 simp only [Bool.and_eq_true,decide_eq_true_eq] at hc
 obtain ⟨⟨⟨⟨⟨⟨c1,c2⟩,c3⟩,c4⟩,c5⟩,c6⟩,c7⟩:=hc
 refine zbs h c1 nil_ch (fun L' len' m q1 q2=>?_) h0 hv
 rw [JT,List.append_nil] at q1 q2
 have e:zJ (lets c) 0 0=(good l (lets c).length,hi):=by
  generalize zJ (lets c) 0 0=x at *
  obtain ⟨⟨k,p,v,n⟩,y⟩:=x
  simp only at c3 c4 c5 c6 c7
  subst c3 c4 c5 c6 c7
  rfl
 exact ⟨_,tl_quant ⟨q1,q2⟩ c2 e⟩
end Pro
end
section
open Go.RowKit
set_option maxHeartbeats 2000000
set_option maxRecDepth 100000
theorem zdk (c:Int)(w:World)(h1:-9223372036854775808≤c)(h2:c≤9223372036854775807) :
  Calls Tryz.prog 24 #[.int .i64 c,.int .i64 8] w fun x w'=>∃ m:Nat,x = .returned (.int .i64 m)∧m<8∧w'=w:=by
 by_cases hc:c<0
 ·go_enter Tryz.func24,Tryz.ntmps24
  go_wp2_with fail
  go_ret
  have e:-(c+1).tmod 8=(-(c+1)) % 8:=by rw [←Int.neg_tmod,Int.tmod_eq_emod_of_nonneg (by omega)]
  refine ⟨((-(c+1)) % 8).toNat,?_,by omega,rfl⟩
  rw [show ((((-(c+1)) % 8).toNat:Nat):Int) = -(c+1).tmod 8 by omega]
  rfl
 ·go_enter Tryz.func24,Tryz.ntmps24
  go_wp2_with fail
  go_ret
  refine ⟨(c % 8).toNat,?_,by omega,rfl⟩
  rw [show (((c % 8).toNat:Nat):Int)=c % 8 by omega]
  rfl
theorem zdl (c:Int)(w:World)(h1:-9223372036854775808≤c)(h2:c≤9223372036854775807) :
  Calls Tryz.prog 24 #[.int .i64 c,.int .i64 6] w fun x w'=>∃ m:Nat,x = .returned (.int .i64 m)∧m<6∧w'=w:=by
 by_cases hc:c<0
 ·go_enter Tryz.func24,Tryz.ntmps24
  go_wp2_with fail
  go_ret
  have e:-(c+1).tmod 6=(-(c+1)) % 6:=by rw [←Int.neg_tmod,Int.tmod_eq_emod_of_nonneg (by omega)]
  refine ⟨((-(c+1)) % 6).toNat,?_,by omega,rfl⟩
  rw [show ((((-(c+1)) % 6).toNat:Nat):Int) = -(c+1).tmod 6 by omega]
  rfl
 ·go_enter Tryz.func24,Tryz.ntmps24
  go_wp2_with fail
  go_ret
  refine ⟨(c % 6).toNat,?_,by omega,rfl⟩
  rw [show (((c % 6).toNat:Nat):Int)=c % 6 by omega]
  rfl
theorem zdm {n:Nat}(h:n<10):(⟨(Kc.toB [48+(n:Int)]).toArray⟩:ByteArray)=⟨(Pro.digL n).toArray⟩:=by
 unfold Pro.digL
 rw [if_pos h]
 obtain rfl |rfl |rfl |rfl |rfl |rfl |rfl |rfl |rfl |rfl:n=0∨n=1∨n=2∨n=3∨n=4∨n=5∨n=6∨n=7∨n=8∨n=9:=by omega
 all_goals rfl
theorem zdd (n:Nat)(h:n<10)(w:World) :
  Calls Tryz.prog 25 #[.int .i64 (n:Nat)] w fun x w'=>x = .returned (.string ⟨(Pro.digL n).toArray⟩)∧ze (fun _=>False) w w':=by
 have hcv:=ZX w [48+(n:Int)] 1 rfl (fun x hx=>by simp at hx;omega)
 simp only [List.map_cons,List.map_nil] at hcv
 rw [zdm h] at hcv
 generalize (⟨(Pro.digL n).toArray⟩:ByteArray)=R at hcv ⊢
 have e1:(n:Int) % 10=n:=by omega
 have e2:(n:Int).tmod 10=n:=by rw [Int.tmod_eq_emod_of_nonneg (by omega)];omega
 have e3:IntKind.u8.wrap (48+(n:Int))=48+(n:Int):=by unfold IntKind.wrap IntKind.signed IntKind.bits;simp;omega
 have e4:IntKind.i64.wrap (48+(n:Int))=48+(n:Int):=yY _ (by omega) (by omega)
 go_enter Tryz.func25,Tryz.ntmps25
 go_wp2_with fail
 refine wp_loop_rounds 1 ?_
 rw [rounds_succ]
 go_wp2_with fail
 go_ret
 exact ⟨rfl,(ze.refl _ _).alloc _⟩
theorem digL_big {d:Nat}(h:d≤2):(⟨(Kc.toB [49]).toArray⟩:ByteArray)++⟨(Kc.toB [48+(d:Int)]).toArray⟩=⟨(Pro.digL (10+d)).toArray⟩:=by
 obtain rfl |rfl |rfl:d=0∨d=1∨d=2:=by omega
 all_goals rfl
theorem zdi (d:Nat)(h:d≤2)(w:World) :
  Calls Tryz.prog 25 #[.int .i64 (10+(d:Int))] w fun x w'=>x = .returned (.string ⟨(Pro.digL (10+d)).toArray⟩)∧ze (fun _=>False) w w':=by
 have hcv:=ZX w [48+(d:Int)] 1 rfl (fun x hx=>by simp at hx;omega)
 have hcv2:=ZX (w.alloc (.cells ([48+(d:Int)].map (fun x=>Value.int .u8 x)).toArray 5)) [49] 1 rfl (fun x hx=>by simp at hx;omega)
 have hcat:∀ V:World,(Op.stringOp .add ⟨(Kc.toB [49]).toArray⟩ ⟨(Kc.toB [48+(d:Int)]).toArray⟩).run Tryz.prog V = .ok (.string ⟨(Pro.digL (10+d)).toArray⟩) V:=fun V=>by
  rw [←digL_big h]
  exact run_string_add_sum V _ _ (by show 1+1≤_;decide)
 have hsz:(w.alloc (.cells ([48+(d:Int)].map (fun x=>Value.int .u8 x)).toArray 5)).heap.size=w.heap.size+1:=by simp
 rw [hsz] at hcv2
 simp only [List.map_cons,List.map_nil] at hcv hcv2
 clear hsz
 generalize (⟨(Pro.digL (10+d)).toArray⟩:ByteArray)=R at hcat ⊢
 generalize (⟨(Kc.toB [49]).toArray⟩:ByteArray)=R1 at hcat hcv2
 generalize (⟨(Kc.toB [48+(d:Int)]).toArray⟩:ByteArray)=R2 at hcat hcv
 have e1:(10+(d:Int)) % 10=d:=by omega
 have e2:(10+(d:Int)).tmod 10=d:=by rw [Int.tmod_eq_emod_of_nonneg (by omega)];omega
 have e5:(10+(d:Int)) / 10=1:=by omega
 have e6:(10+(d:Int)).tdiv 10=1:=by rw [Int.tdiv_eq_ediv_of_nonneg (by omega)];omega
 have e3:IntKind.u8.wrap (48+(d:Int))=48+(d:Int):=by unfold IntKind.wrap IntKind.signed IntKind.bits;simp;omega
 have e4:IntKind.i64.wrap (48+(d:Int))=48+(d:Int):=yY _ (by omega) (by omega)
 have e7:(10:Int)≤10+(d:Int):=by omega
 go_enter Tryz.func25,Tryz.ntmps25
 go_wp2_with fail
 refine wp_loop_rounds 2 ?_
 rw [rounds_succ]
 go_wp2_with fail
 rw [rounds_succ]
 go_wp2_with fail
 go_ret
 exact ⟨rfl,((ze.refl _ _).alloc _).alloc _⟩
theorem zda (n:Nat)(h:n≤12)(w:World) :
  Calls Tryz.prog 25 #[.int .i64 (n:Nat)] w fun x w'=>x = .returned (.string ⟨(Pro.digL n).toArray⟩)∧ze (fun _=>False) w w':=by
 by_cases h1:n<10
 ·exact zdd n h1 w
 ·obtain ⟨d,rfl⟩:∃ d,n=10+d:=⟨n-10,by omega⟩
  have:=zdi d (by omega) w
  rw [show (10:Int)+(d:Int)=((10+d:Nat):Int) by omega] at this
  exact this
open Sm (Stp Tree capT)
theorem cat_list (a b:List UInt8):(⟨a.toArray⟩:ByteArray)++⟨b.toArray⟩=⟨(a++b).toArray⟩:=by
 apply ByteArray.ext
 simp
def sBr:ByteArray:=⟨#[41,123]⟩
def digS (n:Nat):ByteArray:=⟨(Pro.digL n).toArray⟩
theorem cntA_cat (p:ByteArray)(l:Nat):Pro.sGo++p++sBr++digS l++⟨#[125]⟩=Pro.mixS Pro.sGo p Pro.zF (Pro.cntA l) ByteArray.empty:=by
 have e1:sBr++(digS l++⟨#[125]⟩)=Pro.zF++(Pro.cntA l++ByteArray.empty):=by
  have q1:(⟨#[125]⟩:ByteArray)=⟨[125].toArray⟩:=rfl
  have q2:sBr=⟨[41,123].toArray⟩:=rfl
  have q3:Pro.zF=⟨[41].toArray⟩:=rfl
  rw [ByteArray.append_empty,q1,q2,q3]
  unfold digS Pro.cntA
  rw [cat_list,cat_list,cat_list]
  simp
 unfold Pro.mixS
 simp only [ByteArray.append_assoc] at e1 ⊢
 rw [e1]
theorem cntB_cat (p:ByteArray)(l:Nat):Pro.sGo++p++sBr++digS l++⟨#[44,125]⟩=Pro.mixS Pro.sGo p Pro.zF (Pro.cntB l) ByteArray.empty:=by
 have e1:sBr++(digS l++⟨#[44,125]⟩)=Pro.zF++(Pro.cntB l++ByteArray.empty):=by
  have q1:(⟨#[44,125]⟩:ByteArray)=⟨[44,125].toArray⟩:=rfl
  have q2:sBr=⟨[41,123].toArray⟩:=rfl
  have q3:Pro.zF=⟨[41].toArray⟩:=rfl
  rw [ByteArray.append_empty,q1,q2,q3]
  unfold digS Pro.cntB
  rw [cat_list,cat_list,cat_list]
  simp
 unfold Pro.mixS
 simp only [ByteArray.append_assoc] at e1 ⊢
 rw [e1]
theorem cntC_cat (p:ByteArray)(l h:Nat):Pro.sGo++p++sBr++digS l++⟨#[44]⟩++digS h++⟨#[125]⟩=Pro.mixS Pro.sGo p Pro.zF (Pro.cntC l h) ByteArray.empty:=by
 have e1:sBr++(digS l++(⟨#[44]⟩++(digS h++⟨#[125]⟩)))=Pro.zF++(Pro.cntC l h++ByteArray.empty):=by
  have q0:(⟨#[44]⟩:ByteArray)=⟨[44].toArray⟩:=rfl
  have q1:(⟨#[125]⟩:ByteArray)=⟨[125].toArray⟩:=rfl
  have q2:sBr=⟨[41,123].toArray⟩:=rfl
  have q3:Pro.zF=⟨[41].toArray⟩:=rfl
  rw [ByteArray.append_empty,q0,q1,q2,q3]
  unfold digS Pro.cntC
  rw [cat_list,cat_list,cat_list,cat_list,cat_list]
  simp
 unfold Pro.mixS
 simp only [ByteArray.append_assoc] at e1 ⊢
 rw [e1]
theorem cnt_size (p c:ByteArray)(hp:p.size≤1099511627776)(hc:c.size≤100):(Pro.mixS Pro.sGo p Pro.zF c ByteArray.empty).size≤4398046511104:=by
 rw [Pro.XQ]
 show 3+p.size+1+c.size+0≤_
 omega
def stL (X:Nat→Nat→Prop)(l r i j:Nat):Prop:=∃ k,k≤r∧Sm.pow X (l+k) i j
theorem pow_next {n r:Nat}{X:Nat→Nat→Prop}(hX:∀ i j,X i j→i≤j)(i j:Nat)(hj:j≤n):(∃ k,k≤n∧Sm.pow X r i k∧X k j)↔Sm.pow X (r+1) i j:=by
 rw [Sm.jz X r 1 i j]
 constructor
 ·rintro ⟨k,_,a,b⟩
  exact ⟨k,a,j,b,rfl⟩
 ·rintro ⟨k,a,m',b,c⟩
  have c':m'=j:=c
  subst c'
  exact ⟨k,by have:=hX _ _ b;omega,a,b⟩
theorem stL_next {n l r:Nat}{X:Nat→Nat→Prop}(hX:∀ i j,X i j→i≤j)(i j:Nat)(hj:j≤n):(stL X l r i j∨∃ k,k≤n∧stL X l r i k∧X k j)↔stL X l (r+1) i j:=by
 constructor
 ·rintro (⟨k,a,b⟩ |⟨m,hm,⟨k,a,b⟩,c⟩)
  ·exact ⟨k,by omega,b⟩
  ·exact ⟨k+1,by omega,(pow_next hX i j hj).1 ⟨m,hm,b,c⟩⟩
 ·rintro ⟨k,a,b⟩
  by_cases e:k≤r
  ·exact .inl ⟨k,e,b⟩
  ·obtain rfl:k=r+1:=by omega
   obtain ⟨m,hm,c,d⟩:=(pow_next (r:=l+r) hX i j hj).2 b
   exact .inr ⟨m,hm,⟨r,Nat.le_refl _,c⟩,d⟩
theorem stL_all {n l:Nat}{X:Nat→Nat→Prop}(hX:∀ i j,X i j→i≤j)(i j:Nat)(hj:j≤n):stL X l (n+1) i j↔∃ k,l≤k∧Sm.pow X k i j:=by
 constructor
 ·rintro ⟨k,_,b⟩
  exact ⟨l+k,by omega,b⟩
 ·rintro ⟨k,a,b⟩
  obtain ⟨d,rfl⟩:∃ d,k=l+d:=⟨k-l,by omega⟩
  obtain ⟨m,b1,b2⟩:=(Sm.jz X l d i j).1 b
  obtain ⟨_,q,q1,_,q3⟩:=Kc.pow_short hX d m j b2
  exact ⟨q,by omega,(Sm.jz X l q i j).2 ⟨m,b1,q3⟩⟩
theorem rep_bd {v:Int}(h0:0≤v)(h1:v<300){l m:Nat}(hl:l<8)(hm:m<6):0≤(l:Int)*v∧(l:Int)*v≤2100∧0≤(m:Int)*(v+1)∧(m:Int)*(v+1)≤1500:=by
 refine ⟨Int.mul_nonneg (by omega) h0,?_,Int.mul_nonneg (by omega) (by omega),?_⟩
 ·exact Int.le_trans (Int.mul_le_mul (show (l:Int)≤7 by omega) (show v≤300 by omega) h0 (by omega)) (by omega)
 ·exact Int.le_trans (Int.mul_le_mul (show (m:Int)≤5 by omega) (show v+1≤300 by omega) (by omega) (by omega)) (by omega)
theorem made_cnt {p c s:ByteArray}{n:Nat}{l hi z:Int}{Z:Nat→Nat→Prop}(hp:qD p)(h:∃ F,Sm.WF F (Pro.zE p))(hc:Pro.cntK c l hi=true)(h0:∀ v,0≤v→v<300→0≤Pro.repS v l hi)(hz:z=Pro.repS (Pro.zD p).v l hi+1)(hzb:z≤1000000)(hl:0≤l)(hh:hi = -1∨l≤hi)
  (hZ:∀ i j,i≤n→j≤n→((∃ k:Nat,l≤k∧(hi = -1∨(k:Int)≤hi)∧Sm.pow (Mng s (Pro.zE p)) k i j)↔Z i j)):Zz (Pro.mixS Pro.sGo p Pro.zF c ByteArray.empty) s z n Z:=by
 obtain ⟨F,hF⟩:=h
 have hvp:=hp.v
 have hvp0:0≤(Pro.zD p).v:=((Pro.yF (len:=(p.size:Nat)) (Pro.zQ (L:=Pro.lets p) (len:=(p.size:Nat)) 10) 0 (Nat.zero_le _)).2.2 hp.rd.k).1
 have hr:=h0 _ hvp0 hvp
 have hch:(Ref.zo c).2<0:=by unfold Pro.cntK at hc;simp only [Bool.and_eq_true,decide_eq_true_eq] at hc;exact hc.1.1.1.1.1.1
 refine ⟨Pro.Yw Pro.ZN hp.rd.ch Pro.jS hch Pro.nil_ch,by omega,hzb,?_⟩
 rcases Pro.cnt_out hp.rd hc h0 hvp with h7 |⟨hR,hv,ht⟩
 ·exact .inl h7
 ·refine .inr ⟨hR,by rw [hv,hz];omega,fun i j hi hj=>?_⟩
  rw [ht,mng_rep hF hl hh]
  exact hZ i j hi hj
theorem zdt {p s:ByteArray}{n l:Nat}(hp:qD p)(h:∃ F,Sm.WF F (Pro.zE p))(hl:l<8):Zz (Pro.mixS Pro.sGo p Pro.zF (Pro.cntA l) ByteArray.empty) s ((l:Int)*(Pro.zD p).v+1) n (Sm.pow (Mng s (Pro.zE p)) l):=by
 have hvp:=hp.v
 have hvp0:0≤(Pro.zD p).v:=((Pro.yF (len:=(p.size:Nat)) (Pro.zQ (L:=Pro.lets p) (len:=(p.size:Nat)) 10) 0 (Nat.zero_le _)).2.2 hp.rd.k).1
 have e:∀ v,Pro.repS v l l=(l:Int)*v:=fun v=>by unfold Pro.repS;rw [if_neg (by omega),Int.sub_self,Int.zero_mul,Int.add_zero]
 have hb:=rep_bd hvp0 hvp hl (show 0<6 by decide)
 have hc:Pro.cntK (Pro.cntA l) l l=true:=Pro.cntA_ok ⟨l,hl⟩
 refine made_cnt (l:=(l:Int)) (hi:=(l:Int)) hp h hc (fun v v0 _=>by rw [e];exact Int.mul_nonneg (by omega) v0) (by rw [e]) (by omega) (by omega) (.inr (by omega)) (fun i j _ _=>?_)
 constructor
 ·rintro ⟨k,a,b,c⟩
  obtain rfl:k=l:=by omega
  exact c
 ·exact fun c=>⟨l,by omega,.inr (by omega),c⟩
theorem zdu {p s:ByteArray}{n l:Nat}(hp:qD p)(h:∃ F,Sm.WF F (Pro.zE p))(hl:l<8):Zz (Pro.mixS Pro.sGo p Pro.zF (Pro.cntB l) ByteArray.empty) s ((max l 1:Nat)*(Pro.zD p).v+2) n (stL (Mng s (Pro.zE p)) l (n+1)):=by
 have hvp:=hp.v
 have hvp0:0≤(Pro.zD p).v:=((Pro.yF (len:=(p.size:Nat)) (Pro.zQ (L:=Pro.lets p) (len:=(p.size:Nat)) 10) 0 (Nat.zero_le _)).2.2 hp.rd.k).1
 have e:∀ v,Pro.repS v l (-1)=((max l 1:Nat):Int)*v+1:=fun v=>by unfold Pro.repS;rw [if_pos rfl];congr 2;omega
 have hb:=rep_bd hvp0 hvp (show max l 1<8 by omega) (show 0<6 by decide)
 have hc:Pro.cntK (Pro.cntB l) l (-1)=true:=Pro.cntB_ok ⟨l,hl⟩
 refine made_cnt (l:=(l:Int)) (hi:=-1) hp h hc (fun v v0 _=>by rw [e];have:=Int.mul_nonneg (show (0:Int)≤((max l 1:Nat):Int) by omega) v0;omega) (by rw [e];omega) (by omega) (by omega) (.inl rfl) (fun i j _ hj=>?_)
 rw [stL_all (fun _ _=>YE) i j hj]
 constructor
 ·rintro ⟨k,a,_,c⟩
  exact ⟨k,by omega,c⟩
 ·rintro ⟨k,a,c⟩
  exact ⟨k,by omega,.inl rfl,c⟩
theorem zdv {p s:ByteArray}{n l m:Nat}(hp:qD p)(h:∃ F,Sm.WF F (Pro.zE p))(hl:l<8)(hm:m<6):Zz (Pro.mixS Pro.sGo p Pro.zF (Pro.cntC l (l+m)) ByteArray.empty) s ((l:Int)*(Pro.zD p).v+(m:Int)*((Pro.zD p).v+1)+1) n (stL (Mng s (Pro.zE p)) l m):=by
 have hvp:=hp.v
 have hvp0:0≤(Pro.zD p).v:=((Pro.yF (len:=(p.size:Nat)) (Pro.zQ (L:=Pro.lets p) (len:=(p.size:Nat)) 10) 0 (Nat.zero_le _)).2.2 hp.rd.k).1
 have e:∀ v,Pro.repS v l ((l:Nat)+(m:Nat):Nat)=(l:Int)*v+(m:Int)*(v+1):=fun v=>by unfold Pro.repS;rw [if_neg (by omega),show (((l+m:Nat)):Int)-(l:Int)=(m:Int) by omega]
 have hb:=rep_bd hvp0 hvp hl hm
 have hc:Pro.cntK (Pro.cntC l (l+m)) l ((l+m:Nat):Int)=true:=Pro.cntC_ok ⟨l,hl⟩ ⟨m,hm⟩
 refine made_cnt (l:=(l:Int)) (hi:=((l+m:Nat):Int)) hp h hc (fun v v0 v1=>by rw [e];have:=rep_bd v0 v1 hl hm;omega) (by rw [e]) (by omega) (by omega) (.inr (by omega)) (fun i j _ _=>?_)
 constructor
 ·rintro ⟨k,a,b,c⟩
  refine ⟨k-l,by omega,?_⟩
  rw [show l+(k-l)=k by omega]
  exact c
 ·rintro ⟨k,a,c⟩
  exact ⟨l+k,by omega,.inr (by omega),c⟩
set_option maxHeartbeats 16000000
set_option maxRecDepth 1000000
theorem timesLaw (p s:ByteArray)(low more:Int)(w:World)(a:Nat→Addr)(hB:wd w a w.heap.size)(hp:p.size≤1099511627776)(hs:s.size≤1099511627776)(h1:-9223372036854775808≤low)(h2:low≤9223372036854775807)(h3:-9223372036854775808≤more)(h4:more≤9223372036854775807) :
  Calls Tryz.prog 7 #[.string p,.string s,.int .i64 low,.int .i64 more] w fun x w'=>x = .returned (.bool true)∧ze (fun _=>False) w w':=by
 have HB:=zc hB
 have HSu:=zc (wg w a _ hB)
 have HP1:=zc (zdk low · h1 h2)
 have HP2:=zc (zdl more · h3 h4)
 have hnil:∀ (g n c:Nat) (V:World),(binOp .eql 34 (.slice (some ⟨g,0,none⟩) n c) (.slice none 0 0)).run Tryz.prog V = .ok (.bool false) V:=fun g n c V=>YF _ _ _ V
 have hnil2:∀ (V:World),(binOp .eql 34 (.slice none 0 0) (.slice none 0 0)).run Tryz.prog V = .ok (.bool true) V:=fun V=>YF _ _ _ V
 clear hB
 go_enter Tryz.func7,Tryz.ntmps7
 go_wp2_with (go_at_call 14;refine (zb HSu).mono ?_;rintro e w1 ⟨rfl,hO1⟩;refine zb ?_)
 refine zc ?_
 have HO1:=zc hO1
 have HTw:=zc (Qd p ByteArray.empty s w1 a ((zb HB).keep hO1 (fun _ f=>f.elim)).st hs)
 clear hO1 HSu
 go_wp2_with (go_at_call 19;refine zb ?_)
 refine zc ?_
 refine (zb HTw).mono ?_
 rintro x w2 ⟨hO2,rfl |⟨hIp,hIq,hs4,hc4,av,bv,rfl,hTa,hTb,hFp,hFq⟩⟩
 ·have HO2:=zc ((zb HO1).trans hO2)
  clear hO2 HTw
  go_wp2_with fail
  go_ret
  exact ⟨rfl,zb HO2⟩
 ·have HO2:=zc ((zb HO1).trans hO2)
  have hl4:=Ref.xh s
  rw [(Prg.yj.of s).len] at hl4
  have hvp:=hIp.v
  have hvp0:0≤(Pro.zD p).v:=((Pro.yF (len:=(p.size:Nat)) (Pro.zQ (L:=Pro.lets p) (len:=(p.size:Nat)) 10) 0 (Nat.zero_le _)).2.2 hIp.rd.k).1
  have HM1:=zc (fun (l:Nat) (hl:l<8)=>zdt (s:=s) (n:=(Pro.letM s (s.size+1) 0).length) hIp hFp hl)
  have HM2:=zc (fun (l:Nat) (hl:l<8)=>zdu (s:=s) (n:=(Pro.letM s (s.size+1) 0).length) hIp hFp hl)
  have HM3:=zc (fun (l m:Nat) (hl:l<8) (hm:m<6)=>zdv (s:=s) (n:=(Pro.letM s (s.size+1) 0).length) hIp hFp hl hm)
  have Hc4:=zc hc4
  have HTa:=zc hTa
  obtain ⟨ga,ca,rfl,_⟩:=id hTa
  obtain ⟨n,hn⟩:∃ n,n=(Pro.letM s (s.size+1) 0).length:=⟨_,rfl⟩
  have Hn:=zc hn
  rw [←hn] at HM1 HM2 HM3 hl4 HTa ⊢
  rw [nil_pat.2]
  obtain ⟨X,hX⟩:∃ X,X=Mng s (Pro.zE p):=⟨_,rfl⟩
  have HXl:Hid (∀ i j,X i j→i≤j):=by subst hX;exact fun _ _=>YE
  rw [←hX] at HM1 HM2 HM3 HTa
  generalize (Pro.zD p).v=v at *
  clear hTa hTb hIp hIq hFp hFq hO2 HO1 HTw hn hc4 hX
  have hw2:IntKind.i64.wrap ((n:Int)+1-1)=(n:Int):=by rw [show (n:Int)+1-1=(n:Int) by omega];exact yY _ (by omega) (by omega)
  have hw3:IntKind.i64.wrap (v+1+(0+1)-2)=v:=by rw [show v+1+(0+1)-2=v by omega];exact yY _ (by omega) (by omega)
  have hw3':IntKind.i64.wrap (v+1+1-2)=v:=by rw [show v+1+1-2=v by omega];exact yY _ (by omega) (by omega)
  go_wp2_with (go_at_call 24;refine (zb HP1 w2).mono ?_;rintro e wq ⟨l,rfl,hl,hwq⟩;obtain rfl:=hwq.symm;clear hwq;refine zb ?_)
  refine zc ?_
  go_wp2_with (go_at_call 24;refine (zb HP2 w2).mono ?_;rintro e wq ⟨m,rfl,hm,hwq⟩;obtain rfl:=hwq.symm;clear hwq;refine zb ?_)
  refine zc ?_
  have HMA:=zc (zb HM1 l hl)
  have HMB:=zc (zb HM2 l hl)
  have HMC:=zc (zb HM3 l m hl hm)
  clear HM1 HM2 HM3 HP1 HP2
  have hbd:=rep_bd hvp0 hvp hl hm
  have hwA:IntKind.i64.wrap ((l:Int)*v)=(l:Int)*v:=yY _ (by omega) (by omega)
  have hwA1:IntKind.i64.wrap ((l:Int)*v+1)=(l:Int)*v+1:=yY _ (by omega) (by omega)
  have hwA2:IntKind.i64.wrap ((l:Int)*v+2)=(l:Int)*v+2:=yY _ (by omega) (by omega)
  have hwv:IntKind.i64.wrap v=v:=yY _ (by omega) (by omega)
  have hwv1:IntKind.i64.wrap (v+1)=v+1:=yY _ (by omega) (by omega)
  have hwv2:IntKind.i64.wrap (v+2)=v+2:=yY _ (by omega) (by omega)
  have hwB:IntKind.i64.wrap ((m:Int)*(v+1))=(m:Int)*(v+1):=yY _ (by omega) (by omega)
  have hwC:IntKind.i64.wrap ((l:Int)*v+(m:Int)*(v+1))=(l:Int)*v+(m:Int)*(v+1):=yY _ (by omega) (by omega)
  have hwC1:IntKind.i64.wrap ((l:Int)*v+(m:Int)*(v+1)+1)=(l:Int)*v+(m:Int)*(v+1)+1:=yY _ (by omega) (by omega)
  have hwL:IntKind.i64.wrap ((l:Int)+(m:Int))=(l:Int)+(m:Int):=yY _ (by omega) (by omega)
  have hds:∀ x,(digS x).size≤2:=fun x=>by unfold digS Pro.digL;split;exact (show (1:Nat)≤2 by decide);exact Nat.le_refl 2
  have hd1:=hds l
  have hd2:=hds (l+m)
  have hz0:(Pro.sGo++p).size=p.size+3:=by rw [ByteArray.size_append];show 3+p.size=_;omega
  have hz1:(Pro.sGo++p++sBr).size=p.size+5:=by rw [ByteArray.size_append,hz0];rfl
  obtain ⟨G,hG⟩:∃ G,G=Pro.sGo++p++sBr++digS l:=⟨_,rfl⟩
  obtain ⟨G2,hG2⟩:∃ G2,G2=Pro.sGo++p++sBr++digS l++⟨#[44]⟩:=⟨_,rfl⟩
  obtain ⟨G3,hG3⟩:∃ G3,G3=Pro.sGo++p++sBr++digS l++⟨#[44]⟩++digS (l+m):=⟨_,rfl⟩
  have hGz:G.size≤p.size+7:=by rw [hG,ByteArray.size_append,hz1];omega
  have hG2z:G2.size≤p.size+8:=by rw [hG2,←hG,ByteArray.size_append];show _+1≤_;omega
  have hG3z:G3.size≤p.size+10:=by rw [hG3,←hG2,ByteArray.size_append];omega
  have k1:∀ V:World,(Op.stringOp .add ⟨#[40,63,58]⟩ p).run Tryz.prog V = .ok (.string (Pro.sGo++p)) V:=fun V=>run_string_add_sum V _ _ (by show 3+p.size≤_;omega)
  have k2:∀ V:World,(Op.stringOp .add (Pro.sGo++p) ⟨#[41,123]⟩).run Tryz.prog V = .ok (.string (Pro.sGo++p++sBr)) V:=fun V=>run_string_add_sum V _ _ (by rw [hz0];show p.size+3+2≤_;omega)
  have k3:∀ V:World,(Op.stringOp .add (Pro.sGo++p++sBr) (digS l)).run Tryz.prog V = .ok (.string G) V:=fun V=>by rw [hG];exact run_string_add_sum V _ _ (by rw [hz1];omega)
  have k4:∀ V:World,(Op.stringOp .add G ⟨#[125]⟩).run Tryz.prog V = .ok (.string (Pro.mixS Pro.sGo p Pro.zF (Pro.cntA l) ByteArray.empty)) V:=fun V=>by rw [←cntA_cat,←hG];exact run_string_add_sum V _ _ (by show G.size+1≤_;omega)
  have k5:∀ V:World,(Op.stringOp .add G ⟨#[44,125]⟩).run Tryz.prog V = .ok (.string (Pro.mixS Pro.sGo p Pro.zF (Pro.cntB l) ByteArray.empty)) V:=fun V=>by rw [←cntB_cat,←hG];exact run_string_add_sum V _ _ (by show G.size+2≤_;omega)
  have k6:∀ V:World,(Op.stringOp .add G ⟨#[44]⟩).run Tryz.prog V = .ok (.string G2) V:=fun V=>by rw [hG2,←hG];exact run_string_add_sum V _ _ (by show G.size+1≤_;omega)
  have k7:∀ V:World,(Op.stringOp .add G2 (digS (l+m))).run Tryz.prog V = .ok (.string G3) V:=fun V=>by rw [hG3,←hG2];exact run_string_add_sum V _ _ (by omega)
  have k8:∀ V:World,(Op.stringOp .add G3 ⟨#[125]⟩).run Tryz.prog V = .ok (.string (Pro.mixS Pro.sGo p Pro.zF (Pro.cntC l (l+m)) ByteArray.empty)) V:=fun V=>by rw [←cntC_cat,←hG3];exact run_string_add_sum V _ _ (by show G3.size+1≤_;omega)
  have hcz:∀ x y,(Pro.cntA x).size≤100∧(Pro.cntB x).size≤100∧(Pro.cntC x y).size≤100:=fun x y=>by
   have e:∀ x,(Pro.digL x).length≤2:=fun x=>by unfold Pro.digL;split;exact (show (1:Nat)≤2 by decide);exact Nat.le_refl 2
   have:=e x
   have:=e y
   refine ⟨?_,?_,?_⟩
   ·show ([123]++Pro.digL x++[125]).toArray.size≤100;simp;omega
   ·show ([123]++Pro.digL x++[44,125]).toArray.size≤100;simp;omega
   ·show ([123]++Pro.digL x++[44]++Pro.digL y++[125]).toArray.size≤100;simp;omega
  have HMd1:=zc (fun (V:World) (hV:ze (fun _=>False) w V) (tv:Value) (hT:TbV V tv n _)=>k9 _ s _ tv _ n (zb Hn) V a ((zb HB).keep hV (fun _ f=>f.elim)).st (cnt_size p _ hp (hcz l 0).1) hs4 (zb Hc4) hT (zb HMA))
  have HMd2:=zc (fun (V:World) (hV:ze (fun _=>False) w V) (tv:Value) (hT:TbV V tv n _)=>k9 _ s _ tv _ n (zb Hn) V a ((zb HB).keep hV (fun _ f=>f.elim)).st (cnt_size p _ hp (hcz l 0).2.1) hs4 (zb Hc4) hT (zb HMB))
  have HMd3:=zc (fun (V:World) (hV:ze (fun _=>False) w V) (tv:Value) (hT:TbV V tv n _)=>k9 _ s _ tv _ n (zb Hn) V a ((zb HB).keep hV (fun _ f=>f.elim)).st (cnt_size p _ hp (hcz l (l+m)).2.2) hs4 (zb Hc4) hT (zb HMC))
  have HDg:Hid (∀ V,Calls Tryz.prog 25 #[.int .i64 (l:Nat)] V fun x w'=>x = .returned (.string (digS l))∧ze (fun _=>False) V w'):=fun V=>zda l (by omega) V
  have HDh:Hid (∀ V,Calls Tryz.prog 25 #[.int .i64 ((l:Int)+(m:Int))] V fun x w'=>x = .returned (.string (digS (l+m)))∧ze (fun _=>False) V w'):=fun V=>zda (l+m) (by omega) V
  clear HMA HMB HMC hG hG2 hG3 hGz hG2z hG3z hds hd1 hd2 hz0 hz1 hcz hbd
  by_cases h60:60<n
  ·have d1:decide ((60:Int)<(n:Int))=true:=by simp;omega
   go_wp2_with fail
   go_ret
   exact ⟨rfl,zb HO2⟩
  ·have d1:decide ((60:Int)<(n:Int))=false:=by simp;omega
   have HSt:=zc (ZA n (by omega) w2)
   go_wp2_with (go_at_call 23;refine (zb HSt).mono ?_;rintro e w3 ⟨sv,rfl,hTs,hO3⟩;refine zb ?_)
   refine zc ?_
   have HO3:=zc ((zb HO2).trans hO3)
   have HTa3:=zc ((zb HTa).keep hO3)
   have HTs:Hid (TbV w3 sv n (Sm.pow X 0)):=hTs
   clear hTs hO3 HO2 HTa HSt
   go_wp2_with fail
   go_loopw [16,17] (fun tv iv wr=>∃ (r:Nat),iv = .int .i64 r∧r≤l∧Hid (TbV wr tv n (Sm.pow X r))∧Hid (ze (fun _=>False) w wr)∧Hid (TbV wr (.slice (some ⟨ga,0,none⟩) (n+1) ca) n X)) (fun _ iv _=>l-(intOf iv).toNat)
   case atStart=>exact ⟨0,rfl,by omega,HTs,HO3,HTa3⟩
   case round=>
    clear HTs HO3 HTa3
    obtain ⟨r,rfl,hr,HTs,HO3,HTa3⟩:=hrel
    obtain ⟨wo,rfl⟩:∃ W,W=wr:=⟨_,rfl⟩
    by_cases hlt:r<l
    ·have b1:(r:Int)<(l:Int):=by omega
     have HBe:=zc (ky n (by omega) _ _ _ _ wo (zb HTs) (zb HTa3))
     clear HMd1 HMd2 HMd3 HDg HDh
     go_wp2_with (go_at_call 21;refine (zb HBe).mono ?_;rintro e w4 ⟨cv,rfl,hTc,hO4⟩;have HO4:=zc ((zb HO3).trans hO4);have HTa4:=zc ((zb HTa3).keep hO4);have HTc:Hid (TbV w4 cv n (Sm.pow X (r+1))):=hTc.congr (fun i j _ hj=>pow_next (zb HXl) i j hj);clear hTc hO4)
     exact ⟨⟨r+1,by go_num,by omega,HTc,HO4,HTa4⟩,by simp [intOf];omega⟩
    ·obtain rfl:l=r:=by omega
     have b1:¬(l:Int)<(l:Int):=by omega
     obtain ⟨gt,ct,rfl,_⟩:=id (zb HTs)
     go_wp2_with (go_at_call 25;refine (zb HDg wo).mono ?_;rintro e w4 ⟨rfl,hO4⟩;refine zb ?_)
     refine zc ?_
     have HO4:=zc ((zb HO3).trans hO4)
     have HTa4:=zc ((zb HTa3).keep hO4)
     have HTt4:=zc ((zb HTs).keep hO4)
     have HA1:=zc (zb HMd1 w4 (zb HO4) _ (zb HTt4))
     clear hO4 HO3 HTa3 HTs HMd1 HDg
     go_wp2_with (go_at_call 20;refine (zb HA1).mono ?_;rintro e w5 ⟨rfl,hO5⟩;refine zb ?_)
     refine zc ?_
     have HO5:=zc ((zb HO4).trans hO5)
     have HTa5:=zc ((zb HTa4).keep hO5)
     have HTt5:=zc ((zb HTt4).keep hO5)
     have HTs5:Hid (TbV w5 (.slice (some ⟨gt,0,none⟩) (n+1) ct) n (stL X l 0)):=(zb HTt5).congr (fun i j _ _=>⟨fun e=>⟨0,Nat.le_refl _,e⟩,fun ⟨k,k0,q⟩=>by cases Nat.le_zero.1 k0;exact q⟩)
     clear hO5 HO4 HTa4 HTt4 HA1
     go_wp2_with fail
     go_loopw [20,21] (fun tv iv wr=>∃ (q:Nat),iv = .int .i64 q∧q≤n+1∧Hid (TbV wr tv n (stL X l q))∧Hid (ze (fun _=>False) w wr)∧Hid (TbV wr (.slice (some ⟨ga,0,none⟩) (n+1) ca) n X)∧Hid (TbV wr (.slice (some ⟨gt,0,none⟩) (n+1) ct) n (Sm.pow X l))) (fun _ iv _=>n+1-(intOf iv).toNat)
     case atStart=>exact ⟨0,rfl,by omega,HTs5,HO5,HTa5,HTt5⟩
     case round=>
      clear HTs5 HO5 HTa5 HTt5
      obtain ⟨q,rfl,hq,HTs6,HO6,HTa6,HTt6⟩:=hrel
      obtain ⟨wo,rfl⟩:∃ W,W=wr:=⟨_,rfl⟩
      by_cases hlt:q≤n
      ·have b1:(q:Int)≤(n:Int):=by omega
       have HBe:=zc (ky n (by omega) _ _ _ _ wo (zb HTs6) (zb HTa6))
       clear HMd2 HMd3 HDh
       go_wp2_with (go_at_call 21;refine (zb HBe).mono ?_;rintro e w4 ⟨cv,rfl,hTc,hO4⟩;refine zb ?_)
       refine zc ?_
       have HEi:=zc (kx n (by omega) _ _ _ _ w4 ((zb HTs6).keep hO4) hTc)
       have HO4:=zc ((zb HO6).trans hO4)
       have HTa4:=zc ((zb HTa6).keep hO4)
       have HTt4:=zc ((zb HTt6).keep hO4)
       clear hTc hO4 HBe HO6 HTa6 HTs6 HTt6
       go_wp2_with (go_at_call 22;refine (zb HEi).mono ?_;rintro e w5 ⟨dv,rfl,hTd,hO5⟩;have HO5:=zc ((zb HO4).trans hO5);have HTa5:=zc ((zb HTa4).keep hO5);have HTt5:=zc ((zb HTt4).keep hO5);have HTd:Hid (TbV w5 dv n (stL X l (q+1))):=hTd.congr (fun i j _ hj=>stL_next (zb HXl) i j hj);clear hTd hO5)
       exact ⟨⟨q+1,by go_num,by omega,HTd,HO5,HTa5,HTt5⟩,by simp [intOf];omega⟩
      ·obtain rfl:q=n+1:=by omega
       have b1:¬((n+1:Nat):Int)≤(n:Int):=by omega
       by_cases hl0:l=0
       ·have hz9:((l:Int) == 0)=true:=by simp [hl0]
        have HA2:=zb HMd2 wo (zb HO6) _ (zb HTs6)
        rw [show ((max l 1:Nat):Int)*v+2=v+2 by rw [show max l 1=1 by omega];omega] at HA2
        have HA2:=zc HA2
        clear HMd2 hl0
        go_wp2_with (go_at_call 20;refine (zb HA2).mono ?_;rintro e w7 ⟨rfl,hO7⟩;refine zb ?_)
        refine zc ?_
        have HO7:=zc ((zb HO6).trans hO7)
        have HTa7:=zc ((zb HTa6).keep hO7)
        have HT7:Hid (TbV w7 (.slice (some ⟨gt,0,none⟩) (n+1) ct) n (stL X l 0)):=((zb HTt6).keep hO7).congr (fun i j _ _=>⟨fun e=>⟨0,Nat.le_refl _,e⟩,fun ⟨k,k0,q⟩=>by cases Nat.le_zero.1 k0;exact q⟩)
        clear hO7 HO6 HTa6 HTt6 HTs6 HA2
        go_wp2_with fail
        go_loopw [16,24] (fun tv iv wr=>∃ (r:Nat),iv = .int .i64 r∧r≤m∧Hid (TbV wr tv n (stL X l r))∧Hid (ze (fun _=>False) w wr)∧Hid (TbV wr (.slice (some ⟨ga,0,none⟩) (n+1) ca) n X)) (fun _ iv _=>m-(intOf iv).toNat)
        case atStart=>exact ⟨0,rfl,by omega,HT7,HO7,HTa7⟩
        case round=>
         clear HT7 HO7 HTa7
         obtain ⟨r,rfl,hr,HTs,HO3,HTa3⟩:=hrel
         obtain ⟨wo,rfl⟩:∃ W,W=wr:=⟨_,rfl⟩
         by_cases hlt:r<m
         ·have b1:(r:Int)<(m:Int):=by omega
          have HBe:=zc (ky n (by omega) _ _ _ _ wo (zb HTs) (zb HTa3))
          clear HMd3 HDh
          go_wp2_with (go_at_call 21;refine (zb HBe).mono ?_;rintro e w4 ⟨cv,rfl,hTc,hO4⟩;refine zb ?_)
          refine zc ?_
          have HEi:=zc (kx n (by omega) _ _ _ _ w4 ((zb HTs).keep hO4) hTc)
          have HO4:=zc ((zb HO3).trans hO4)
          have HTa4:=zc ((zb HTa3).keep hO4)
          clear hTc hO4 HBe HO3 HTa3 HTs
          go_wp2_with (go_at_call 22;refine (zb HEi).mono ?_;rintro e w5 ⟨dv,rfl,hTd,hO5⟩;have HO5:=zc ((zb HO4).trans hO5);have HTa5:=zc ((zb HTa4).keep hO5);have HTd:Hid (TbV w5 dv n (stL X l (r+1))):=hTd.congr (fun i j _ hj=>stL_next (zb HXl) i j hj);clear hTd hO5)
          exact ⟨⟨r+1,by go_num,by omega,HTd,HO5,HTa5⟩,by simp [intOf];omega⟩
         ·obtain rfl:m=r:=by omega
          have b1:¬(m:Int)<(m:Int):=by omega
          go_wp2_with (go_at_call 25;refine (zb HDh wo).mono ?_;rintro e w8 ⟨rfl,hO8⟩;refine zb ?_)
          refine zc ?_
          have HO8:=zc ((zb HO3).trans hO8)
          have HA3:=zc (zb HMd3 w8 (zb HO8) _ ((zb HTs).keep hO8))
          clear hO8 HO3 HTs HTa3 HMd3 HDh
          go_wp2_with (go_at_call 20;refine (zb HA3).mono ?_;rintro e w9 ⟨rfl,hO9⟩;have HO9:=zc ((zb HO8).trans hO9);clear hO9)
          go_ret
          exact ⟨rfl,zb HO9⟩
       ·have hz9:((l:Int) == 0)=false:=by simp;omega
        have HA2:=zb HMd2 wo (zb HO6) _ (zb HTs6)
        rw [show max l 1=l by omega] at HA2
        have HA2:=zc HA2
        clear HMd2 hl0
        go_wp2_with (go_at_call 20;refine (zb HA2).mono ?_;rintro e w7 ⟨rfl,hO7⟩;refine zb ?_)
        refine zc ?_
        have HO7:=zc ((zb HO6).trans hO7)
        have HTa7:=zc ((zb HTa6).keep hO7)
        have HT7:Hid (TbV w7 (.slice (some ⟨gt,0,none⟩) (n+1) ct) n (stL X l 0)):=((zb HTt6).keep hO7).congr (fun i j _ _=>⟨fun e=>⟨0,Nat.le_refl _,e⟩,fun ⟨k,k0,q⟩=>by cases Nat.le_zero.1 k0;exact q⟩)
        clear hO7 HO6 HTa6 HTt6 HTs6 HA2
        go_wp2_with fail
        go_loopw [16,24] (fun tv iv wr=>∃ (r:Nat),iv = .int .i64 r∧r≤m∧Hid (TbV wr tv n (stL X l r))∧Hid (ze (fun _=>False) w wr)∧Hid (TbV wr (.slice (some ⟨ga,0,none⟩) (n+1) ca) n X)) (fun _ iv _=>m-(intOf iv).toNat)
        case atStart=>exact ⟨0,rfl,by omega,HT7,HO7,HTa7⟩
        case round=>
         clear HT7 HO7 HTa7
         obtain ⟨r,rfl,hr,HTs,HO3,HTa3⟩:=hrel
         obtain ⟨wo,rfl⟩:∃ W,W=wr:=⟨_,rfl⟩
         by_cases hlt:r<m
         ·have b1:(r:Int)<(m:Int):=by omega
          have HBe:=zc (ky n (by omega) _ _ _ _ wo (zb HTs) (zb HTa3))
          clear HMd3 HDh
          go_wp2_with (go_at_call 21;refine (zb HBe).mono ?_;rintro e w4 ⟨cv,rfl,hTc,hO4⟩;refine zb ?_)
          refine zc ?_
          have HEi:=zc (kx n (by omega) _ _ _ _ w4 ((zb HTs).keep hO4) hTc)
          have HO4:=zc ((zb HO3).trans hO4)
          have HTa4:=zc ((zb HTa3).keep hO4)
          clear hTc hO4 HBe HO3 HTa3 HTs
          go_wp2_with (go_at_call 22;refine (zb HEi).mono ?_;rintro e w5 ⟨dv,rfl,hTd,hO5⟩;have HO5:=zc ((zb HO4).trans hO5);have HTa5:=zc ((zb HTa4).keep hO5);have HTd:Hid (TbV w5 dv n (stL X l (r+1))):=hTd.congr (fun i j _ hj=>stL_next (zb HXl) i j hj);clear hTd hO5)
          exact ⟨⟨r+1,by go_num,by omega,HTd,HO5,HTa5⟩,by simp [intOf];omega⟩
         ·obtain rfl:m=r:=by omega
          have b1:¬(m:Int)<(m:Int):=by omega
          go_wp2_with (go_at_call 25;refine (zb HDh wo).mono ?_;rintro e w8 ⟨rfl,hO8⟩;refine zb ?_)
          refine zc ?_
          have HO8:=zc ((zb HO3).trans hO8)
          have HA3:=zc (zb HMd3 w8 (zb HO8) _ ((zb HTs).keep hO8))
          clear hO8 HO3 HTs HTa3 HMd3 HDh
          go_wp2_with (go_at_call 20;refine (zb HA3).mono ?_;rintro e w9 ⟨rfl,hO9⟩;have HO9:=zc ((zb HO8).trans hO9);clear hO9)
          go_ret
          exact ⟨rfl,zb HO9⟩
end
end Go.Proofs.YtfnkbmglodopkaaGreatDoor
