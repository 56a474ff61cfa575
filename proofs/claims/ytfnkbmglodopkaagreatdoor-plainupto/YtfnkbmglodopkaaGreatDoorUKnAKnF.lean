/- The law's own matches: what it tells of any two texts. -/
import Derived.Test.YtfnkbmglodopkaaGreatDoorUKmAStC
import Derived.KernelRfl
namespace Go.Proofs.YtfnkbmglodopkaaGreatDoor
section
open Go.RowKit
open Sm (Stp Tree capT)
set_option maxHeartbeats 4000000
set_option maxRecDepth 1000000
def Hits (p s:ByteArray):Prop:=qD p∧Kc.textB s=true∧∃ i j,i≤(Ref.zo s).1.length∧j≤(Ref.zo s).1.length∧Mng s (Pro.zE p) i j
def HitsOut (p s:ByteArray)(x:Ending):Prop:=∃ b:Bool,x = .returned (.bool b)∧(b=true↔Hits p s)
theorem zdF (p s:ByteArray)(w:World)(a:Nat→Addr)(base:Nat)(hB:wd w a base) :
  Calls Tryz.prog 33 #[.string p,.string s] w fun x w'=>HitsOut p s x∧ze (fun _=>False) w w':=by
 have HB:=zc hB
 have HTk:=zc (Z5 p w a hB.st)
 clear hB
 go_enter Tryz.func33,Tryz.ntmps33
 go_wp2_with (go_at_call 37;refine zb ?_)
 refine zc ?_
 refine (zb HTk).mono ?_
 rintro x w1 ⟨hO1,⟨rfl,k,q,hF⟩ |⟨hI,g,pb,F,W,cs,rfl,hM⟩⟩
 ·have HO1:=zc hO1
  have HNo:Hid (¬Hits p s):=fun h=>hF.no h.1
  clear hO1 hF HTk
  go_wp2_with fail
  go_ret
  exact ⟨⟨false,rfl,by simp;exact zb HNo⟩,zb HO1⟩
 ·have HO1:=zc hO1
  have HB1:=zc ((zb HB).keep hO1 (fun _ f=>f.elim))
  have HM:=zc hM
  have HI:=zc hI
  have HFi:=zc (Qe g pb _ 3 _ _ W cs _ w1 hM.c (zb HB1).tab (by decide) (by decide))
  clear hO1 hM hI HTk
  go_wp2_with (go_at_call 40;refine (zb HFi).mono ?_;rintro e w2 ⟨fb,sb,mb,rfl,hfb,hsb,hmb,hFd,hO2⟩;refine zb ?_)
  refine zc ?_
  have HF2:=zc (YI fb sb pb mb 3 _ _ _ _ _ W cs [] _ (.slice none 0 0) s [] w2 a ((zb HB1).keep hO2 (fun _ f=>f.elim)).st hFd (.inl ⟨rfl,none,0,rfl⟩) (by simp))
  have HO2:=zc ((zb HO1).trans hO2)
  have hs1:=(zb HO1).size
  clear hFd hO2 HFi
  go_wp2_with (go_at_call 41;refine (zb HF2).mono ?_;rintro e w3 ⟨r1,k1,p1,O1,D1,es1,sv1,rfl,hA1,hFd1,_,hoo1,hdd1,hO3⟩;refine zb ?_)
  refine zc ?_
  have HOz:Hid (ze (fun _=>False) w w3):=(zb HO2).laterO hO3 (fun i hi q=>by have e:i=sb∨i=mb:=q;rcases e with rfl |rfl<;>omega)
  have hlen:=(Prg.yj.of s).len
  rcases zb0 hA1 (zb HM).c.prog.at' with ⟨t1,t2,t3⟩ |⟨t1,t2,t3,t4,t5,t6⟩
  ·have HNo:Hid (¬Hits p s):=fun h=>by have:=h.2.1;rw [t1] at this;cases this
   subst t2
   clear hA1 hFd1 hoo1 hdd1 hO3 HF2 t1 hlen
   rcases t3 with rfl |rfl
   all_goals go_wp2_with fail
   all_goals go_ret
   all_goals exact ⟨⟨false,rfl,by simp;exact zb HNo⟩,zb HOz⟩
  ·have HYe:Hid (r1=true↔Hits p s):=by
    show _↔_
    rw [t6]
    constructor
    ·rintro ⟨i,j,hi,hj,hg⟩
     exact ⟨zb HI,t1,i,j,by omega,by omega,(Kk s (zb HM).wf (zb HM).ask hi).1 hg⟩
    ·rintro ⟨_,_,i,j,hi,hj,hg⟩
     exact ⟨i,j,by omega,by omega,(Kk s (zb HM).wf (zb HM).ask (by omega)).2 hg⟩
   subst t4
   clear hA1 hFd1 hoo1 hdd1 hO3 HF2 t1 t2 t3 t5 t6 hlen
   cases r1
   all_goals go_wp2_with fail
   all_goals go_ret
   ·exact ⟨⟨false,rfl,by simpa using zb HYe⟩,zb HOz⟩
   ·exact ⟨⟨true,rfl,by simpa using zb HYe⟩,zb HOz⟩
open Sm (Tree)
namespace Kn
def hc (k:Nat):Nat:=if k<10 then 48+k else 87+k
def dS (k:Nat):ByteArray:=⟨#[UInt8.ofNat (hc k)]⟩
def hexS (n:Nat):ByteArray:=if n<16 then dS n else hexS (n / 16)++dS (n % 16)
 termination_by n
 decreasing_by omega
theorem zdw {n:Nat}(h:n<16):hexS n=dS n:=by rw [hexS,if_pos h]
theorem hexS_big {n:Nat}(h:¬n<16):hexS n=hexS (n / 16)++dS (n % 16):=by rw [hexS,if_neg h]
def allS:ByteArray:=⟨#[48,49,50,51,52,53,54,55,56,57,97,98,99,100,101,102]⟩
theorem all_at:∀ k:Fin 16,allS.extract k (k+1)=dS k:=by decide +kernel
theorem d_let:∀ k:Fin 16,Pro.lets (dS k)=[(0,(hc k:Int))]:=by decide +kernel
theorem d_ch:∀ k:Fin 16,(Ref.zo (dS k)).2<0:=by decide +kernel
theorem d_hex:∀ k:Fin 16,Pro.hexV (hc k)=(k:Nat):=by decide +kernel
theorem d_size (k:Nat):(dS k).size=1:=rfl
theorem zdC:∀ (k n:Nat),n<16 ^ (k+1)→(hexS n).size≤k+1
 |0,n,h=>by rw [zdw (by simpa using h),d_size];omega
 |k+1,n,h=>by
  by_cases e:n<16
  ·rw [zdw e,d_size];omega
  ·rw [hexS_big e,ByteArray.size_append,d_size]
   have h2:n / 16<16 ^ (k+1):=Nat.div_lt_of_lt_mul (by rw [Nat.pow_succ] at h;omega)
   have:=zdC k (n / 16) h2
   omega
theorem hex_six {n:Nat}(h:n≤1114111):(hexS n).size≤6:=zdC 5 n (by omega)
theorem hex_ch (n:Nat):(Ref.zo (hexS n)).2<0:=by
 induction n using Nat.strongRecOn with
 |_ n ih=>
  by_cases e:n<16
  ·rw [zdw e];exact d_ch ⟨n,e⟩
  ·rw [hexS_big e,Ref.Z3]
   have h2:Ref.Good (hexS (n / 16)++dS (n % 16)) (hexS (n / 16)).size:=by
    refine Ref.Good.app (At.right _ _) (d_ch ⟨n % 16,by omega⟩) ?_
    have:=Ref.Good.fin (hexS (n / 16)++dS (n % 16))
    rw [ByteArray.size_append] at this
    exact this
   exact Ref.Good.app ((At.refl _).left _) (ih (n / 16) (by omega)) (by rw [Nat.zero_add];exact h2)
theorem hex_lets {n:Nat}(h:¬n<16):Pro.lets (hexS n)=Pro.sft 0 (Pro.lets (hexS (n / 16)))++Pro.sft (hexS (n / 16)).size [(0,(hc (n % 16):Int))]:=by
 rw [hexS_big h]
 have e0:=Pro.jG ((At.refl (hexS (n / 16))).left (dS (n % 16))) (hex_ch (n / 16))
 have e1:=Pro.jG (At.right (hexS (n / 16)) (dS (n % 16))) (d_ch ⟨n % 16,by omega⟩)
 have z:Pro.letF (hexS (n / 16)++dS (n % 16)) ((hexS (n / 16)).size+(dS (n % 16)).size)=[]:=Pro.Vm _ (by rw [ByteArray.size_append];exact Nat.le_refl _)
 rw [z,List.append_nil] at e1
 rw [Nat.zero_add,e1,Pro.Jh] at e0
 have e2:Pro.lets (dS (n % 16))=[(0,(hc (n % 16):Int))]:=d_let ⟨n % 16,by omega⟩
 rw [e2] at e0
 exact e0
theorem hex_len (n:Nat):(Pro.lets (hexS n)).length=(hexS n).size:=by
 induction n using Nat.strongRecOn with
 |_ n ih=>
  by_cases e:n<16
  ·rw [zdw e,d_size]
   have e2:Pro.lets (dS n)=[(0,(hc n:Int))]:=d_let ⟨n,e⟩
   rw [e2]
   rfl
  ·rw [hex_lets e,List.length_append,Pro.qk,ih (n / 16) (by omega),Pro.qk,hexS_big e,ByteArray.size_append,d_size]
   rfl
theorem d_ne {k:Nat}(h:k<16):((hc k:Nat):Int)≠125:=by unfold hc;split<;>omega
theorem zdK {L':List (Int×Int)}{len:Int}(n:Nat)(hn:n≤1114111):∀ (d f:Nat),(∀ k,k<(hexS n).size→Pro.zf L' (k+d)=Pro.zf (Pro.lets (hexS n)) k)→Pro.yw L' len (f+(hexS n).size) 0 0 d=Pro.yw L' len f n (hexS n).size (d+(hexS n).size):=by
 induction n using Nat.strongRecOn with
 |_ n ih=>
  intro d f hL
  by_cases e:n<16
  ·have e2:Pro.lets (hexS n)=[(0,(hc n:Int))]:=by rw [zdw e];exact d_let ⟨n,e⟩
   have e3:(hexS n).size=1:=by rw [zdw e];rfl
   have h0:=hL 0 (by omega)
   rw [e2,Nat.zero_add] at h0
   have h1:Pro.zf L' d=(hc n:Int):=h0
   have hv:Pro.hexV (hc n:Int)=(n:Int):=d_hex ⟨n,e⟩
   rw [e3,Pro.yw,h1,hv,if_neg (by omega),if_neg (by omega)]
   congr 1
   omega
  ·have h6:(hexS n).size=(hexS (n / 16)).size+1:=by rw [hexS_big e,ByteArray.size_append,d_size]
   have hl:=hex_len (n / 16)
   have e1:∀ k,k<(hexS (n / 16)).size→Pro.zf L' (k+d)=Pro.zf (Pro.lets (hexS (n / 16))) k:=fun k hk=>by
    rw [hL k (by omega),hex_lets e,Pro.qr (by rw [Pro.qk];omega),Pro.xf]
   have e2:Pro.zf L' ((hexS (n / 16)).size+d)=(hc (n % 16):Int):=by
    rw [hL _ (by omega),hex_lets e]
    have:=Pro.yS (A:=Pro.sft 0 (Pro.lets (hexS (n / 16)))) (B:=Pro.sft (hexS (n / 16)).size [(0,(hc (n % 16):Int))]) (k:=0)
    rw [Nat.zero_add,Pro.qk,hl] at this
    rw [this,Pro.xf]
    rfl
   have hv:Pro.hexV (hc (n % 16):Int)=((n % 16:Nat):Int):=d_hex ⟨n % 16,by omega⟩
   have hne:=d_ne (show n % 16<16 by omega)
   rw [h6,show f+((hexS (n / 16)).size+1)=f+1+(hexS (n / 16)).size by omega,ih (n / 16) (by omega) (by omega) d (f+1) e1,Pro.yw,Nat.add_comm d,e2,hv,if_neg (fun q=>hne q.2),if_neg (by omega),show 16*((n / 16:Nat):Int)+((n % 16:Nat):Int)=(n:Int) by omega]
   congr 1
   omega
theorem zdx {L':List (Int×Int)}{len:Int}{n d:Nat}(hn:n≤1114111)(hL:∀ k,k<(hexS n).size→Pro.zf L' (k+d)=Pro.zf (Pro.lets (hexS n)) k)(hc:Pro.zf L' ((hexS n).size+d)=125):Pro.jC L' len d=Pro.good n (d+(hexS n).size+1):=by
 have hlt:(hexS n).size+d<L'.length:=Pro.zq (by rw [hc];decide)
 have h1:1≤(hexS n).size:=by
  by_cases e:n<16
  ·rw [zdw e,d_size];omega
  ·rw [hexS_big e,ByteArray.size_append,d_size];omega
 unfold Pro.jC
 obtain ⟨f,hf⟩:∃ f,L'.length+1-d=f+1+(hexS n).size:=⟨L'.length+1-d-1-(hexS n).size,by omega⟩
 rw [hf,zdK n hn d (f+1) hL,Pro.yw,Nat.add_comm d,if_pos ⟨h1,hc⟩]
def preS (m:Nat):ByteArray:=if m<16 then ByteArray.empty else hexS (m / 16)
theorem pre_cat (m:Nat):hexS m=preS m++dS (m % 16):=by
 unfold preS
 by_cases e:m<16
 ·rw [if_pos e,zdw e,ByteArray.empty_append,Nat.mod_eq_of_lt e]
 ·rw [if_neg e,hexS_big e]
end Kn
theorem zdL (n:Nat)(hn:n≤1114111)(w:World) :
  Calls Tryz.prog 34 #[.int .i64 (n:Nat)] w fun x w'=>x = .returned (.string (Kn.hexS n))∧ze (fun _=>False) w w':=by
 have HSl:Hid (∀ (k:Nat),k<16→∀ V:World,(Instr.slice 9 (.string ⟨#[48,49,50,51,52,53,54,55,56,57,97,98,99,100,101,102]⟩) (some (.int .i64 (k:Int))) (some (.int .i64 ((k:Int)+1))) none).run Tryz.prog V = .ok (.string (Kn.dS k)) V):=fun k hk V=>by
  rw [run_slice_string V 9 _ .i64 .i64 (k:Int) ((k:Int)+1) Tryz.underlying9 (by omega) (by omega) (by show (k:Int)+1≤16;omega),show ((k:Int)+1).toNat=k+1 by omega,Int.toNat_natCast]
  exact congrArg (fun x=>Result.ok (Value.string x) V) (Kn.all_at ⟨k,hk⟩)
 have H6:=zc (Kn.hex_six hn)
 have hk:=Nat.mod_lt n (show 0<16 by decide)
 have hsl:=zb HSl (n % 16) hk
 have e1:(n:Int) % 16=((n % 16:Nat):Int):=by omega
 have e2:(n:Int).tmod 16=((n % 16:Nat):Int):=by rw [Int.tmod_eq_emod_of_nonneg (by omega)];omega
 have e3:IntKind.i64.wrap (((n % 16:Nat):Int)+1)=((n % 16:Nat):Int)+1:=yY _ (by omega) (by omega)
 have H0:Hid (Kn.hexS n=Kn.preS n++Kn.dS (n % 16)):=Kn.pre_cat n
 have HR:Hid (∃ R,Kn.hexS n=R):=⟨_,rfl⟩
 obtain ⟨R,hR⟩:=zb HR
 rw [hR] at H0 H6 ⊢
 clear HR hR
 generalize n % 16=k at *
 go_enter Tryz.func34,Tryz.ntmps34
 go_wp2_with fail
 go_loopw [0,4] (fun nv sv wr=>∃ (m:Nat) (S:ByteArray),nv = .int .i64 m∧sv = .string S∧m≤n∧S.size≤6∧Hid (R=Kn.preS m++S)∧Hid (ze (fun _=>False) w wr)) (fun nv _ _=>(intOf nv).toNat)
 case atStart=>exact ⟨n,Kn.dS k,rfl,rfl,Nat.le_refl _,by rw [Kn.d_size];omega,H0,ze.refl _ _⟩
 case round=>
  clear hsl e1 e2 e3 H0 hk
  obtain ⟨m,S,rfl,rfl,hm,hS,HS,HK⟩:=hrel
  by_cases hlt:16≤m
  ·have b1:(16:Int)≤(m:Int):=by omega
   have f1:(m:Int) / 16=((m / 16:Nat):Int):=by omega
   have f2:(m:Int).tdiv 16=((m / 16:Nat):Int):=by rw [Int.tdiv_eq_ediv_of_nonneg (by omega)];omega
   have HS2:Hid (R=Kn.preS (m / 16)++(Kn.dS (m / 16 % 16)++S)):=by
    show _=_
    rw [zb HS,←ByteArray.append_assoc,←Kn.pre_cat (m / 16)]
    unfold Kn.preS
    rw [if_neg (by omega)]
   have hm2:m / 16<m:=by omega
   have hk:=Nat.mod_lt (m / 16) (show 0<16 by decide)
   have hsl:=zb HSl (m / 16 % 16) hk
   have e1:((m / 16:Nat):Int) % 16=((m / 16 % 16:Nat):Int):=by omega
   have e2:((m / 16:Nat):Int).tmod 16=((m / 16 % 16:Nat):Int):=by rw [Int.tmod_eq_emod_of_nonneg (by omega)];omega
   have e3:IntKind.i64.wrap (((m / 16 % 16:Nat):Int)+1)=((m / 16 % 16:Nat):Int)+1:=yY _ (by omega) (by omega)
   have hz:(Kn.dS (m / 16 % 16)++S).size≤6:=by
    have h1:=zb H6
    rw [zb HS2,ByteArray.size_append] at h1
    omega
   have hcat:∀ V:World,(Op.stringOp .add (Kn.dS (m / 16 % 16)) S).run Tryz.prog V = .ok (.string (Kn.dS (m / 16 % 16)++S)) V:=fun V=>run_string_add_sum V _ _ (by rw [Kn.d_size];omega)
   clear HS
   generalize hq:m / 16=q at *
   clear hq
   generalize q % 16=k at *
   generalize hD:Kn.dS k=D at *
   clear hD
   go_wp2_with fail
   exact ⟨⟨q,D++S,rfl,rfl,by omega,hz,HS2,HK⟩,by simp [intOf];omega⟩
  ·have b1:¬(16:Int)≤(m:Int):=by omega
   have HE:Hid (R=S):=by
    have h:=zb HS
    unfold Kn.preS at h
    rw [if_pos (by omega),ByteArray.empty_append] at h
    exact h
   clear HS
   go_wp2_with fail
   go_ret
   exact ⟨by rw [zb HE];rfl,zb HK⟩
end
section
open Sm (Tree)
namespace Pro
def triS (a h b:ByteArray):ByteArray:=a++h++b
theorem mid_out {T:ByteArray}{m:Nat}{t:Tree}(hch:(Ref.zo T).2<0)(h0:zf (lets T) 0=94)(h1:yx (lets T) 1=false)(ht:zV (lets T) (T.size:Nat) (zl (lets T) (T.size:Nat) 10) 1=good 1 m)(hT:xO (lets T) (T.size:Nat) (zl (lets T) (T.size:Nat) 10) (zH (lets T) (T.size:Nat) 10) 1=t)(hm:zf (lets T) m=36)(hl:(lets T).length=m+1)(hm1:2≤m) :
  Reads T∧(zD T).v=3∧zE T=tAlt [tSeq [tAsr 0,t,tAsr 1]]:=by
 have key:∀ (L':List (Int×Int)) (len':Int),zf L' 0=94→yx L' 1=false→zV L' len' (zl L' len' 10) 1=good 1 m→xO L' len' (zl L' len' 10) (zH L' len' 10) 1=t→zf L' m=36→L'.length=m+1→altP L' len' (zl L' len' 10) 0=good 3 L'.length∧altQ L' len' (zl L' len' 10) (zH L' len' 10) 0=tAlt [tSeq [tAsr 0,t,tAsr 1]]:=by
  intro L' len' a0 s1 t1 t1' c1 hl
  have c2:zf L' (m+1) = -1:=zO (by omega)
  have s0:yx L' 0=false:=by unfold yx;rw [a0,hl];simp
  have s2:yx L' m=false:=by unfold yx;rw [c1,hl];simp
  have s3:yx L' (m+1)=true:=by unfold yx;rw [hl];simp
  have n0:asN L' 0=1:=by unfold asN;rw [a0];simp
  have n2:asN L' m=1:=by unfold asN;rw [c1];simp
  have t0:=zaH (L:=L') (len:=len') (D:=zl L' len' 10) (DT:=zH L' len' 10) (n:=0) (by rw [n0];decide)
  have t2:=zaH (L:=L') (len:=len') (D:=zl L' len' 10) (DT:=zH L' len' 10) (n:=m) (by rw [n2];decide)
  rw [n0] at t0
  rw [n2] at t2
  have v0:asV L' 0=0:=by unfold asV;rw [if_pos a0]
  have v2:asV L' m=1:=by unfold asV;rw [c1];simp
  obtain ⟨f,hf⟩:∃ f,L'.length+1-0=f+1+1+1+1:=⟨m-2,by omega⟩
  have hT:zw L' len' (zl L' len' 10) 0=good (min (min (min (0+1) 301+1) 301+1) 301) (m+1):=by
   unfold zw
   rw [hf,(yh (DT:=zH L' len' 10) (ts:=[]) s0 t0.1).1,Nat.zero_add,(yh (DT:=zH L' len' 10) (ts:=[]) s1 t1).1,(yh (DT:=zH L' len' 10) (ts:=[]) s2 t2.1).1,(xF (DT:=zH L' len' 10) (ts:=[]) s3).1]
  have hQ:yq L' len' (zl L' len' 10) (zH L' len' 10) 0=tSeq [tAsr 0,t,tAsr 1]:=by
   unfold yq
   rw [hf,(yh (s:=0) s0 t0.1).2,Nat.zero_add,(yh (s:=0) s1 t1).2,(yh (s:=0) s2 t2.1).2,(xF (s:=0) s3).2,t0.2,t1',t2.2,v0,v2]
   simp
  have hx:=Z4 (DT:=zH L' len' 10) (f:=f+1+1+1) (zs:=[]) (ts:=[]) hT hQ (by rw [c2];decide)
  constructor
  ·unfold altP
   have hw:min (sumS 0 ([]++[min (min (min (0+1) 301+1) 301+1) 301])+((([]:List Int).length:Int)+1)-1) 301=3:=by decide
   rw [hf,hx.1,hl,hw]
  ·unfold altQ
   rw [hf,hx.2]
   rfl
 obtain ⟨q1,q2⟩:=key _ (T.size:Nat) h0 h1 ht hT hm hl
 have e1:zD T=good 3 (lets T).length:=q1
 refine ⟨⟨hch,?_,?_⟩,?_,q2⟩
 ·rw [e1,Kg]
 ·rw [e1,Kh]
 ·rw [e1,Ki]
section
variable {L:List (Int×Int)} {len:Int}
theorem esc_u {n m:Nat}{d:Int}(h0:zf L n=92)(h1:zf L (n+1)=117)(h2:zf L (n+2)=123)(hb:jC L len (n+3)=good d m):escO L len n=good d m∧zi L len n=good d m∧many L n=false∧asN L n=0:=by
 have e1:numO L len (n+1)=good d m:=by
  unfold numO
  rw [h1,show n+1+1=n+2 by omega,h2,show n+1+2=n+3 by omega,hb,if_neg (by decide),if_neg (by decide),if_neg (by decide),if_neg (by decide),if_pos ⟨rfl,rfl⟩]
 have e2:escO L len n=good d m:=by
  unfold escO
  rw [h1,if_neg (by decide),if_neg (by decide),e1]
 refine ⟨e2,?_,?_,?_⟩
 ·unfold zi
  rw [h0,h1,e2,if_neg (by decide),if_neg (by decide),if_pos rfl]
 ·unfold many
  rw [h0,h1]
  rfl
 ·unfold asN
  rw [h0,h1]
  simp
theorem term_cls {D:Nat→Out}{DT:Nat→Tree}{n m:Nat}(h0:zf L n=91)(hc:qf L len n=good 1 m)(hq:zf L m=36):zV L len D n=good 1 m∧xO L len D DT n=xN L len n:=by
 have ha:asN L n=0:=by unfold asN;rw [h0];simp
 have ho:zL L len D n=good 1 m:=by
  unfold zL
  rw [h0,if_neg (by decide),if_neg (by decide),if_pos rfl,hc]
  rfl
 have hQ:(zu L len m).1=false:=by
  unfold zu
  rw [hq]
  simp
 have ht:xk L len DT n=xN L len n:=by
  unfold xk
  rw [h0,if_neg (by decide),if_pos rfl]
 unfold zV xO
 rw [ha,ho,Kg,Kh,hQ,ht]
 simp
end
end Pro
namespace Kn
open Pro (zf lets good jC yw triS)
end Kn
namespace Kn
def leafQ (T:Tree):Prop:=1≤T.kind∧T.kind≤4
theorem enc_byte {c:Int}(h0:0≤c)(h1:c≤1114111){j:Nat}(hj:j<(Kc.encI c).length):zd (Kc.encS c) j=(Kc.encI c)[j]:=by
 have hz:(Kc.encS c).size=(Kc.encI c).length:=by unfold Kc.encS Kc.toB;show (List.map _ _).toArray.size=_;simp
 rw [xZ _ _ (by omega),←Kc.toB_at (Kc.encI_bd h0 h1) j hj]
 rfl
theorem enc_size (c:Int):(Kc.encS c).size=(Kc.encI c).length:=by unfold Kc.encS Kc.toB;show (List.map _ _).toArray.size=_;simp
theorem enc_one {c:Int}(hc:Kc.isCharB c=true):Ref.oneF (Kc.encS c) 0=some ((Kc.encI c).length,c):=by
 have hc2:=hc
 unfold Kc.isCharB at hc2
 simp at hc2
 have h0:0≤c:=hc2.1.1
 have h1:c≤1114111:=hc2.1.2
 have hb:=fun j hj=>enc_byte h0 h1 (j:=j) hj
 have hz:=enc_size c
 by_cases c1:c<128
 ·have e:Kc.encI c=[c]:=by unfold Kc.encI;rw [if_pos c1]
  rw [e] at hz ⊢
  have b0:zd (Kc.encS c) 0=c:=by have:=hb 0 (by rw [e];simp);simpa [e] using this
  have hv:Kc.valueV (Kc.encS c) 0 1=c:=by rw [Kc.val1,b0]
  have:=Kc.one_of (s:=Kc.encS c) (p:=0) (n:=1) (by decide) (by decide) (by rw [hz];simp) (by rw [hv];exact hc) (by rw [hv,e,Kc.bytes1,b0])
  rw [hv] at this
  exact this
 ·by_cases c2:c<2048
  ·have e:Kc.encI c=[192+c / 64,128+c % 64]:=by unfold Kc.encI;rw [if_neg c1,if_pos c2]
   rw [e] at hz ⊢
   have b0:zd (Kc.encS c) 0=192+c / 64:=by have:=hb 0 (by rw [e];simp);simpa [e] using this
   have b1:zd (Kc.encS c) 1=128+c % 64:=by have:=hb 1 (by rw [e];simp);simpa [e] using this
   have hv:Kc.valueV (Kc.encS c) 0 2=c:=by rw [Kc.val2,b0,Nat.zero_add,b1];omega
   have:=Kc.one_of (s:=Kc.encS c) (p:=0) (n:=2) (by decide) (by decide) (by rw [hz];simp) (by rw [hv];exact hc) (by rw [hv,e,Kc.bytes2,b0,Nat.zero_add,b1])
   rw [hv] at this
   exact this
  ·by_cases c3:c<65536
   ·have e:Kc.encI c=[224+c / 4096,128+c / 64 % 64,128+c % 64]:=by unfold Kc.encI;rw [if_neg c1,if_neg c2,if_pos c3]
    rw [e] at hz ⊢
    have b0:zd (Kc.encS c) 0=224+c / 4096:=by have:=hb 0 (by rw [e];simp);simpa [e] using this
    have b1:zd (Kc.encS c) 1=128+c / 64 % 64:=by have:=hb 1 (by rw [e];simp);simpa [e] using this
    have b2:zd (Kc.encS c) 2=128+c % 64:=by have:=hb 2 (by rw [e];simp);simpa [e] using this
    have hv:Kc.valueV (Kc.encS c) 0 3=c:=by rw [Kc.val3,b0,Nat.zero_add,Nat.zero_add,b1,b2];omega
    have:=Kc.one_of (s:=Kc.encS c) (p:=0) (n:=3) (by decide) (by decide) (by rw [hz];simp) (by rw [hv];exact hc) (by rw [hv,e,Kc.bytes3,b0,Nat.zero_add,Nat.zero_add,b1,b2])
    rw [hv] at this
    exact this
   ·have e:Kc.encI c=[240+c / 262144,128+c / 4096 % 64,128+c / 64 % 64,128+c % 64]:=by unfold Kc.encI;rw [if_neg c1,if_neg c2,if_neg c3]
    rw [e] at hz ⊢
    have b0:zd (Kc.encS c) 0=240+c / 262144:=by have:=hb 0 (by rw [e];simp);simpa [e] using this
    have b1:zd (Kc.encS c) 1=128+c / 4096 % 64:=by have:=hb 1 (by rw [e];simp);simpa [e] using this
    have b2:zd (Kc.encS c) 2=128+c / 64 % 64:=by have:=hb 2 (by rw [e];simp);simpa [e] using this
    have b3:zd (Kc.encS c) 3=128+c % 64:=by have:=hb 3 (by rw [e];simp);simpa [e] using this
    have hv:Kc.valueV (Kc.encS c) 0 4=c:=by rw [Kc.val4,b0,Nat.zero_add,Nat.zero_add,Nat.zero_add,b1,b2,b3];omega
    have:=Kc.one_of (s:=Kc.encS c) (p:=0) (n:=4) (by decide) (by decide) (by rw [hz];simp) (by rw [hv];exact hc) (by rw [hv,e,Kc.bytes4,b0,Nat.zero_add,Nat.zero_add,Nat.zero_add,b1,b2,b3])
    rw [hv] at this
    exact this
theorem enc_len (c:Int):1≤(Kc.encI c).length∧(Kc.encI c).length≤4:=by
 unfold Kc.encI
 repeat' split
 all_goals simp
theorem zdz {c:Int}(hc:Kc.isCharB c=true):Ref.zo (Kc.encS c)=([(c,0)],-1):=by
 have h1:=enc_one hc
 have hz:=enc_size c
 have hl:=enc_len c
 unfold Ref.zo
 rw [Ref.qW (by omega) h1,hz]
 obtain ⟨f,hf⟩:∃ f,(Kc.encI c).length=f+1:=⟨(Kc.encI c).length-1,by omega⟩
 rw [hf,Ref.vE (by omega)]
 rfl
theorem enc_text {c:Int}(hc:Kc.isCharB c=true):Kc.textB (Kc.encS c)=true:=by
 have hz:=enc_size c
 have hl:=enc_len c
 unfold Kc.textB
 rw [zdz hc]
 simp
 omega
theorem char_is {c:Int}(hc:Kc.isCharB c=true):Cs.isCh c=true:=by
 unfold Kc.isCharB at hc
 simp at hc
 rw [Cs.wJ]
 omega
theorem hit_leaf {T:ByteArray}{t:Tree}{c:Int}(hP:qD T)(ht:Pro.zE T=Pro.tAlt [Pro.tSeq [Pro.tAsr 0,t,Pro.tAsr 1]])(hk:leafQ t)(hc:Kc.isCharB c=true):Hits T (Kc.encS c)↔Eqv.ZM t c=true:=by
 have hch:=zdz hc
 have hw:Sm.WF 1 t:=by
  unfold leafQ at hk
  refine ⟨fun h=>by omega,fun h=>by omega,fun h=>by omega⟩
 have hlen:(Ref.zo (Kc.encS c)).1.length=1:=by rw [hch];rfl
 have hM:Mng (Kc.encS c) t 0 1↔Eqv.ZM t c=true:=by
  rw [kh hw,Sm.M]
  unfold leafQ at hk
  rw [if_neg (by omega),if_neg (by omega),if_neg (by omega),if_neg (by omega)]
  have hS:=Prg.yj.of (Kc.encS c)
  rw [←Prg.lf_iff hS t 0]
  unfold Prg.lfP Cs.qY
  rw [←hS.len,hlen,←hS.at 0,hch]
  have e:Ref.chAt [(c,0)] 0=c:=rfl
  rw [e,char_is hc]
  simp
 constructor
 ·rintro ⟨_,_,i,j,hi,hj,hm⟩
  rw [ht,Vq hw hi hj,hlen] at hm
  obtain ⟨rfl,rfl,hm⟩:=hm
  exact hM.1 hm
 ·intro h
  refine ⟨hP,enc_text hc,0,1,by omega,by omega,?_⟩
  rw [ht,Vq hw (by omega) (by omega),hlen]
  exact ⟨rfl,rfl,hM.2 h⟩
end Kn
end
section
open Go.RowKit
open Sm (Tree)
namespace Kn
theorem leaf_k {k:Nat}{a b:Int}{n:Bool}{R:List (Int×Int)}{S:List Int}{ks:List Tree}(h1:1≤k)(h4:k≤4):leafQ ⟨k,a,b,n,R,S,ks⟩:=⟨h1,h4⟩
end Kn
theorem zdI {p s:ByteArray}{b:Bool}(h:Hits p s↔b=true)(w:World)(a:Nat→Addr)(base:Nat)(hB:wd w a base) :
  Calls Tryz.prog 33 #[.string p,.string s] w fun x w'=>x = .returned (.bool b)∧ze (fun _=>False) w w':=by
 refine (zdF p s w a base hB).mono ?_
 rintro x w' ⟨⟨b',rfl,hb⟩,hO⟩
 exact ⟨by rw [Bool.eq_iff_iff.2 (hb.trans h)],hO⟩
end
end Go.Proofs.YtfnkbmglodopkaaGreatDoor
