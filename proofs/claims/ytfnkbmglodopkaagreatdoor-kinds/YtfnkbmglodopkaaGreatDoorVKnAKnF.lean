/- The law's own matches: what it tells of any two texts. -/
import Derived.Test.YtfnkbmglodopkaaGreatDoorVKmAStC
import Derived.KernelRfl
namespace Go.Proofs.YtfnkbmglodopkaaGreatDoor
section
open Go.RowKit
open Sm (Stp Tree capT)
set_option maxHeartbeats 4000000
set_option maxRecDepth 1000000
def Hits (p s:ByteArray):Prop:=qD p∧Kc.textB s=true∧∃ i j,i≤(Ref.zo s).1.length∧j≤(Ref.zo s).1.length∧Mng s (Pro.zE p) i j
def HitsOut (p s:ByteArray)(x:Ending):Prop:=∃ b:Bool,x = .returned (.bool b)∧(b=true↔Hits p s)
theorem zdF (p s:ByteArray)(w:World)(a:Nat→Addr)(base:Nat)(hB:wd w a base) :
  Calls Tryz.prog 33 #[.string p,.string s] w fun x w'=>HitsOut p s x∧ze (fun _=>False) w w':=by
 have HB:=zc hB
 have HTk:=zc (Z5 p w a hB.st)
 clear hB
 go_enter Tryz.func33,Tryz.ntmps33
 go_wp2_with (go_at_call 37;refine zb ?_)
 refine zc ?_
 refine (zb HTk).mono ?_
 rintro x w1 ⟨hO1,⟨rfl,k,q,hF⟩ |⟨hI,g,pb,F,W,cs,rfl,hM⟩⟩
 ·have HO1:=zc hO1
  have HNo:Hid (¬Hits p s):=fun h=>hF.no h.1
  clear hO1 hF HTk
  go_wp2_with fail
  go_ret
  exact ⟨⟨false,rfl,by simp;exact zb HNo⟩,zb HO1⟩
 ·have HO1:=zc hO1
  have HB1:=zc ((zb HB).keep hO1 (fun _ f=>f.elim))
  have HM:=zc hM
  have HI:=zc hI
  have HFi:=zc (Qe g pb _ 3 _ _ W cs _ w1 hM.c (zb HB1).tab (by decide) (by decide))
  clear hO1 hM hI HTk
  go_wp2_with (go_at_call 40;refine (zb HFi).mono ?_;rintro e w2 ⟨fb,sb,mb,rfl,hfb,hsb,hmb,hFd,hO2⟩;refine zb ?_)
  refine zc ?_
  have HF2:=zc (YI fb sb pb mb 3 _ _ _ _ _ W cs [] _ (.slice none 0 0) s [] w2 a ((zb HB1).keep hO2 (fun _ f=>f.elim)).st hFd (.inl ⟨rfl,none,0,rfl⟩) (by simp))
  have HO2:=zc ((zb HO1).trans hO2)
  have hs1:=(zb HO1).size
  clear hFd hO2 HFi
  go_wp2_with (go_at_call 41;refine (zb HF2).mono ?_;rintro e w3 ⟨r1,k1,p1,O1,D1,es1,sv1,rfl,hA1,hFd1,_,hoo1,hdd1,hO3⟩;refine zb ?_)
  refine zc ?_
  have HOz:Hid (ze (fun _=>False) w w3):=(zb HO2).laterO hO3 (fun i hi q=>by have e:i=sb∨i=mb:=q;rcases e with rfl |rfl<;>omega)
  have hlen:=(Prg.yj.of s).len
  rcases zb0 hA1 (zb HM).c.prog.at' with ⟨t1,t2,t3⟩ |⟨t1,t2,t3,t4,t5,t6⟩
  ·have HNo:Hid (¬Hits p s):=fun h=>by have:=h.2.1;rw [t1] at this;cases this
   subst t2
   clear hA1 hFd1 hoo1 hdd1 hO3 HF2 t1 hlen
   rcases t3 with rfl |rfl
   all_goals go_wp2_with fail
   all_goals go_ret
   all_goals exact ⟨⟨false,rfl,by simp;exact zb HNo⟩,zb HOz⟩
  ·have HYe:Hid (r1=true↔Hits p s):=by
    show _↔_
    rw [t6]
    constructor
    ·rintro ⟨i,j,hi,hj,hg⟩
     exact ⟨zb HI,t1,i,j,by omega,by omega,(Kk s (zb HM).wf (zb HM).ask hi).1 hg⟩
    ·rintro ⟨_,_,i,j,hi,hj,hg⟩
     exact ⟨i,j,by omega,by omega,(Kk s (zb HM).wf (zb HM).ask (by omega)).2 hg⟩
   subst t4
   clear hA1 hFd1 hoo1 hdd1 hO3 HF2 t1 t2 t3 t5 t6 hlen
   cases r1
   all_goals go_wp2_with fail
   all_goals go_ret
   ·exact ⟨⟨false,rfl,by simpa using zb HYe⟩,zb HOz⟩
   ·exact ⟨⟨true,rfl,by simpa using zb HYe⟩,zb HOz⟩
open Sm (Tree)
namespace Kn
def hc (k:Nat):Nat:=if k<10 then 48+k else 87+k
def dS (k:Nat):ByteArray:=⟨#[UInt8.ofNat (hc k)]⟩
def hexS (n:Nat):ByteArray:=if n<16 then dS n else hexS (n / 16)++dS (n % 16)
 termination_by n
 decreasing_by omega
theorem zdw {n:Nat}(h:n<16):hexS n=dS n:=by rw [hexS,if_pos h]
theorem hexS_big {n:Nat}(h:¬n<16):hexS n=hexS (n / 16)++dS (n % 16):=by rw [hexS,if_neg h]
def allS:ByteArray:=⟨#[48,49,50,51,52,53,54,55,56,57,97,98,99,100,101,102]⟩
theorem all_at:∀ k:Fin 16,allS.extract k (k+1)=dS k:=by decide +kernel
theorem d_let:∀ k:Fin 16,Pro.lets (dS k)=[(0,(hc k:Int))]:=by decide +kernel
theorem d_ch:∀ k:Fin 16,(Ref.zo (dS k)).2<0:=by decide +kernel
theorem d_hex:∀ k:Fin 16,Pro.hexV (hc k)=(k:Nat):=by decide +kernel
theorem d_size (k:Nat):(dS k).size=1:=rfl
theorem zdC:∀ (k n:Nat),n<16 ^ (k+1)→(hexS n).size≤k+1
 |0,n,h=>by rw [zdw (by simpa using h),d_size];omega
 |k+1,n,h=>by
  by_cases e:n<16
  ·rw [zdw e,d_size];omega
  ·rw [hexS_big e,ByteArray.size_append,d_size]
   have h2:n / 16<16 ^ (k+1):=Nat.div_lt_of_lt_mul (by rw [Nat.pow_succ] at h;omega)
   have:=zdC k (n / 16) h2
   omega
theorem hex_six {n:Nat}(h:n≤1114111):(hexS n).size≤6:=zdC 5 n (by omega)
theorem hex_ch (n:Nat):(Ref.zo (hexS n)).2<0:=by
 induction n using Nat.strongRecOn with
 |_ n ih=>
  by_cases e:n<16
  ·rw [zdw e];exact d_ch ⟨n,e⟩
  ·rw [hexS_big e,Ref.Z3]
   have h2:Ref.Good (hexS (n / 16)++dS (n % 16)) (hexS (n / 16)).size:=by
    refine Ref.Good.app (At.right _ _) (d_ch ⟨n % 16,by omega⟩) ?_
    have:=Ref.Good.fin (hexS (n / 16)++dS (n % 16))
    rw [ByteArray.size_append] at this
    exact this
   exact Ref.Good.app ((At.refl _).left _) (ih (n / 16) (by omega)) (by rw [Nat.zero_add];exact h2)
theorem hex_lets {n:Nat}(h:¬n<16):Pro.lets (hexS n)=Pro.sft 0 (Pro.lets (hexS (n / 16)))++Pro.sft (hexS (n / 16)).size [(0,(hc (n % 16):Int))]:=by
 rw [hexS_big h]
 have e0:=Pro.jG ((At.refl (hexS (n / 16))).left (dS (n % 16))) (hex_ch (n / 16))
 have e1:=Pro.jG (At.right (hexS (n / 16)) (dS (n % 16))) (d_ch ⟨n % 16,by omega⟩)
 have z:Pro.letF (hexS (n / 16)++dS (n % 16)) ((hexS (n / 16)).size+(dS (n % 16)).size)=[]:=Pro.Vm _ (by rw [ByteArray.size_append];exact Nat.le_refl _)
 rw [z,List.append_nil] at e1
 rw [Nat.zero_add,e1,Pro.Jh] at e0
 have e2:Pro.lets (dS (n % 16))=[(0,(hc (n % 16):Int))]:=d_let ⟨n % 16,by omega⟩
 rw [e2] at e0
 exact e0
theorem hex_len (n:Nat):(Pro.lets (hexS n)).length=(hexS n).size:=by
 induction n using Nat.strongRecOn with
 |_ n ih=>
  by_cases e:n<16
  ·rw [zdw e,d_size]
   have e2:Pro.lets (dS n)=[(0,(hc n:Int))]:=d_let ⟨n,e⟩
   rw [e2]
   rfl
  ·rw [hex_lets e,List.length_append,Pro.qk,ih (n / 16) (by omega),Pro.qk,hexS_big e,ByteArray.size_append,d_size]
   rfl
theorem d_ne {k:Nat}(h:k<16):((hc k:Nat):Int)≠125:=by unfold hc;split<;>omega
theorem zdK {L':List (Int×Int)}{len:Int}(n:Nat)(hn:n≤1114111):∀ (d f:Nat),(∀ k,k<(hexS n).size→Pro.zf L' (k+d)=Pro.zf (Pro.lets (hexS n)) k)→Pro.yw L' len (f+(hexS n).size) 0 0 d=Pro.yw L' len f n (hexS n).size (d+(hexS n).size):=by
 induction n using Nat.strongRecOn with
 |_ n ih=>
  intro d f hL
  by_cases e:n<16
  ·have e2:Pro.lets (hexS n)=[(0,(hc n:Int))]:=by rw [zdw e];exact d_let ⟨n,e⟩
   have e3:(hexS n).size=1:=by rw [zdw e];rfl
   have h0:=hL 0 (by omega)
   rw [e2,Nat.zero_add] at h0
   have h1:Pro.zf L' d=(hc n:Int):=h0
   have hv:Pro.hexV (hc n:Int)=(n:Int):=d_hex ⟨n,e⟩
   rw [e3,Pro.yw,h1,hv,if_neg (by omega),if_neg (by omega)]
   congr 1
   omega
  ·have h6:(hexS n).size=(hexS (n / 16)).size+1:=by rw [hexS_big e,ByteArray.size_append,d_size]
   have hl:=hex_len (n / 16)
   have e1:∀ k,k<(hexS (n / 16)).size→Pro.zf L' (k+d)=Pro.zf (Pro.lets (hexS (n / 16))) k:=fun k hk=>by
    rw [hL k (by omega),hex_lets e,Pro.qr (by rw [Pro.qk];omega),Pro.xf]
   have e2:Pro.zf L' ((hexS (n / 16)).size+d)=(hc (n % 16):Int):=by
    rw [hL _ (by omega),hex_lets e]
    have:=Pro.yS (A:=Pro.sft 0 (Pro.lets (hexS (n / 16)))) (B:=Pro.sft (hexS (n / 16)).size [(0,(hc (n % 16):Int))]) (k:=0)
    rw [Nat.zero_add,Pro.qk,hl] at this
    rw [this,Pro.xf]
    rfl
   have hv:Pro.hexV (hc (n % 16):Int)=((n % 16:Nat):Int):=d_hex ⟨n % 16,by omega⟩
   have hne:=d_ne (show n % 16<16 by omega)
   rw [h6,show f+((hexS (n / 16)).size+1)=f+1+(hexS (n / 16)).size by omega,ih (n / 16) (by omega) (by omega) d (f+1) e1,Pro.yw,Nat.add_comm d,e2,hv,if_neg (fun q=>hne q.2),if_neg (by omega),show 16*((n / 16:Nat):Int)+((n % 16:Nat):Int)=(n:Int) by omega]
   congr 1
   omega
theorem zdx {L':List (Int×Int)}{len:Int}{n d:Nat}(hn:n≤1114111)(hL:∀ k,k<(hexS n).size→Pro.zf L' (k+d)=Pro.zf (Pro.lets (hexS n)) k)(hc:Pro.zf L' ((hexS n).size+d)=125):Pro.jC L' len d=Pro.good n (d+(hexS n).size+1):=by
 have hlt:(hexS n).size+d<L'.length:=Pro.zq (by rw [hc];decide)
 have h1:1≤(hexS n).size:=by
  by_cases e:n<16
  ·rw [zdw e,d_size];omega
  ·rw [hexS_big e,ByteArray.size_append,d_size];omega
 unfold Pro.jC
 obtain ⟨f,hf⟩:∃ f,L'.length+1-d=f+1+(hexS n).size:=⟨L'.length+1-d-1-(hexS n).size,by omega⟩
 rw [hf,zdK n hn d (f+1) hL,Pro.yw,Nat.add_comm d,if_pos ⟨h1,hc⟩]
def preS (m:Nat):ByteArray:=if m<16 then ByteArray.empty else hexS (m / 16)
theorem pre_cat (m:Nat):hexS m=preS m++dS (m % 16):=by
 unfold preS
 by_cases e:m<16
 ·rw [if_pos e,zdw e,ByteArray.empty_append,Nat.mod_eq_of_lt e]
 ·rw [if_neg e,hexS_big e]
end Kn
theorem zdL (n:Nat)(hn:n≤1114111)(w:World) :
  Calls Tryz.prog 34 #[.int .i64 (n:Nat)] w fun x w'=>x = .returned (.string (Kn.hexS n))∧ze (fun _=>False) w w':=by
 have HSl:Hid (∀ (k:Nat),k<16→∀ V:World,(Instr.slice 9 (.string ⟨#[48,49,50,51,52,53,54,55,56,57,97,98,99,100,101,102]⟩) (some (.int .i64 (k:Int))) (some (.int .i64 ((k:Int)+1))) none).run Tryz.prog V = .ok (.string (Kn.dS k)) V):=fun k hk V=>by
  rw [run_slice_string V 9 _ .i64 .i64 (k:Int) ((k:Int)+1) Tryz.underlying9 (by omega) (by omega) (by show (k:Int)+1≤16;omega),show ((k:Int)+1).toNat=k+1 by omega,Int.toNat_natCast]
  exact congrArg (fun x=>Result.ok (Value.string x) V) (Kn.all_at ⟨k,hk⟩)
 have H6:=zc (Kn.hex_six hn)
 have hk:=Nat.mod_lt n (show 0<16 by decide)
 have hsl:=zb HSl (n % 16) hk
 have e1:(n:Int) % 16=((n % 16:Nat):Int):=by omega
 have e2:(n:Int).tmod 16=((n % 16:Nat):Int):=by rw [Int.tmod_eq_emod_of_nonneg (by omega)];omega
 have e3:IntKind.i64.wrap (((n % 16:Nat):Int)+1)=((n % 16:Nat):Int)+1:=yY _ (by omega) (by omega)
 have H0:Hid (Kn.hexS n=Kn.preS n++Kn.dS (n % 16)):=Kn.pre_cat n
 have HR:Hid (∃ R,Kn.hexS n=R):=⟨_,rfl⟩
 obtain ⟨R,hR⟩:=zb HR
 rw [hR] at H0 H6 ⊢
 clear HR hR
 generalize n % 16=k at *
 go_enter Tryz.func34,Tryz.ntmps34
 go_wp2_with fail
 go_loopw [0,4] (fun nv sv wr=>∃ (m:Nat) (S:ByteArray),nv = .int .i64 m∧sv = .string S∧m≤n∧S.size≤6∧Hid (R=Kn.preS m++S)∧Hid (ze (fun _=>False) w wr)) (fun nv _ _=>(intOf nv).toNat)
 case atStart=>exact ⟨n,Kn.dS k,rfl,rfl,Nat.le_refl _,by rw [Kn.d_size];omega,H0,ze.refl _ _⟩
 case round=>
  clear hsl e1 e2 e3 H0 hk
  obtain ⟨m,S,rfl,rfl,hm,hS,HS,HK⟩:=hrel
  by_cases hlt:16≤m
  ·have b1:(16:Int)≤(m:Int):=by omega
   have f1:(m:Int) / 16=((m / 16:Nat):Int):=by omega
   have f2:(m:Int).tdiv 16=((m / 16:Nat):Int):=by rw [Int.tdiv_eq_ediv_of_nonneg (by omega)];omega
   have HS2:Hid (R=Kn.preS (m / 16)++(Kn.dS (m / 16 % 16)++S)):=by
    show _=_
    rw [zb HS,←ByteArray.append_assoc,←Kn.pre_cat (m / 16)]
    unfold Kn.preS
    rw [if_neg (by omega)]
   have hm2:m / 16<m:=by omega
   have hk:=Nat.mod_lt (m / 16) (show 0<16 by decide)
   have hsl:=zb HSl (m / 16 % 16) hk
   have e1:((m / 16:Nat):Int) % 16=((m / 16 % 16:Nat):Int):=by omega
   have e2:((m / 16:Nat):Int).tmod 16=((m / 16 % 16:Nat):Int):=by rw [Int.tmod_eq_emod_of_nonneg (by omega)];omega
   have e3:IntKind.i64.wrap (((m / 16 % 16:Nat):Int)+1)=((m / 16 % 16:Nat):Int)+1:=yY _ (by omega) (by omega)
   have hz:(Kn.dS (m / 16 % 16)++S).size≤6:=by
    have h1:=zb H6
    rw [zb HS2,ByteArray.size_append] at h1
    omega
   have hcat:∀ V:World,(Op.stringOp .add (Kn.dS (m / 16 % 16)) S).run Tryz.prog V = .ok (.string (Kn.dS (m / 16 % 16)++S)) V:=fun V=>run_string_add_sum V _ _ (by rw [Kn.d_size];omega)
   clear HS
   generalize hq:m / 16=q at *
   clear hq
   generalize q % 16=k at *
   generalize hD:Kn.dS k=D at *
   clear hD
   go_wp2_with fail
   exact ⟨⟨q,D++S,rfl,rfl,by omega,hz,HS2,HK⟩,by simp [intOf];omega⟩
  ·have b1:¬(16:Int)≤(m:Int):=by omega
   have HE:Hid (R=S):=by
    have h:=zb HS
    unfold Kn.preS at h
    rw [if_pos (by omega),ByteArray.empty_append] at h
    exact h
   clear HS
   go_wp2_with fail
   go_ret
   exact ⟨by rw [zb HE];rfl,zb HK⟩
end
section
open Sm (Tree)
namespace Pro
def triS (a h b:ByteArray):ByteArray:=a++h++b
theorem tri_ch {a h b:ByteArray}(ha:(Ref.zo a).2<0)(hh:(Ref.zo h).2<0)(hb:(Ref.zo b).2<0):(Ref.zo (triS a h b)).2<0:=by
 rw [Ref.Z3]
 have h3:Ref.Good (triS a h b) ((a++h).size+b.size):=by
  have:=Ref.Good.fin (triS a h b)
  unfold triS at this ⊢
  rw [ByteArray.size_append] at this
  exact this
 have h2:Ref.Good (triS a h b) (a++h).size:=Ref.Good.app (At.right _ _) hb h3
 rw [ByteArray.size_append] at h2
 have h1:Ref.Good (triS a h b) a.size:=Ref.Good.app ((At.right a h).left b) hh h2
 exact Ref.Good.app (((At.refl a).left h).left b) ha (by rw [Nat.zero_add];exact h1)
structure Tri (L' A H B:List (Int×Int)):Prop where
 a:∀ k,k<A.length→zf L' k=zf A k
 h:∀ k,k<H.length→zf L' (k+A.length)=zf H k
 b:∀ k,zf L' (k+(A.length+H.length))=zf B k
 len:L'.length=A.length+H.length+B.length
theorem tri_lets {a h b:ByteArray}(ha:(Ref.zo a).2<0)(hh:(Ref.zo h).2<0)(hb:(Ref.zo b).2<0):Tri (lets (triS a h b)) (lets a) (lets h) (lets b):=by
 have e0:=jG (((At.refl a).left h).left b) ha
 have e1:=jG ((At.right a h).left b) hh
 have e2:=jG (At.right (a++h) b) hb
 have z:letF (a++h++b) ((a++h).size+b.size)=[]:=Vm _ (by rw [ByteArray.size_append];exact Nat.le_refl _)
 rw [z,List.append_nil] at e2
 rw [←ByteArray.size_append,e2] at e1
 rw [Nat.zero_add,e1,Jh] at e0
 have e3:lets (triS a h b)=sft 0 (lets a)++(sft a.size (lets h)++sft (a++h).size (lets b)):=e0
 refine ⟨fun k hk=>?_,fun k hk=>?_,fun k=>?_,?_⟩
 ·rw [e3,qr (by rw [qk];exact hk),xf]
 ·rw [e3]
  have:=yS (A:=sft 0 (lets a)) (B:=sft a.size (lets h)++sft (a++h).size (lets b)) (k:=k)
  rw [qk] at this
  rw [this,qr (by rw [qk];exact hk),xf]
 ·rw [e3]
  have h1:=yS (A:=sft 0 (lets a)) (B:=sft a.size (lets h)++sft (a++h).size (lets b)) (k:=k+(lets h).length)
  have h2:=yS (A:=sft a.size (lets h)) (B:=sft (a++h).size (lets b)) (k:=k)
  rw [qk] at h1 h2
  rw [show k+((lets a).length+(lets h).length)=k+(lets h).length+(lets a).length by omega,h1,h2,xf]
 ·rw [e3]
  simp [qk]
  omega
theorem mid_out {T:ByteArray}{m:Nat}{t:Tree}(hch:(Ref.zo T).2<0)(h0:zf (lets T) 0=94)(h1:yx (lets T) 1=false)(ht:zV (lets T) (T.size:Nat) (zl (lets T) (T.size:Nat) 10) 1=good 1 m)(hT:xO (lets T) (T.size:Nat) (zl (lets T) (T.size:Nat) 10) (zH (lets T) (T.size:Nat) 10) 1=t)(hm:zf (lets T) m=36)(hl:(lets T).length=m+1)(hm1:2≤m) :
  Reads T∧(zD T).v=3∧zE T=tAlt [tSeq [tAsr 0,t,tAsr 1]]:=by
 have key:∀ (L':List (Int×Int)) (len':Int),zf L' 0=94→yx L' 1=false→zV L' len' (zl L' len' 10) 1=good 1 m→xO L' len' (zl L' len' 10) (zH L' len' 10) 1=t→zf L' m=36→L'.length=m+1→altP L' len' (zl L' len' 10) 0=good 3 L'.length∧altQ L' len' (zl L' len' 10) (zH L' len' 10) 0=tAlt [tSeq [tAsr 0,t,tAsr 1]]:=by
  intro L' len' a0 s1 t1 t1' c1 hl
  have c2:zf L' (m+1) = -1:=zO (by omega)
  have s0:yx L' 0=false:=by unfold yx;rw [a0,hl];simp
  have s2:yx L' m=false:=by unfold yx;rw [c1,hl];simp
  have s3:yx L' (m+1)=true:=by unfold yx;rw [hl];simp
  have n0:asN L' 0=1:=by unfold asN;rw [a0];simp
  have n2:asN L' m=1:=by unfold asN;rw [c1];simp
  have t0:=zaH (L:=L') (len:=len') (D:=zl L' len' 10) (DT:=zH L' len' 10) (n:=0) (by rw [n0];decide)
  have t2:=zaH (L:=L') (len:=len') (D:=zl L' len' 10) (DT:=zH L' len' 10) (n:=m) (by rw [n2];decide)
  rw [n0] at t0
  rw [n2] at t2
  have v0:asV L' 0=0:=by unfold asV;rw [if_pos a0]
  have v2:asV L' m=1:=by unfold asV;rw [c1];simp
  obtain ⟨f,hf⟩:∃ f,L'.length+1-0=f+1+1+1+1:=⟨m-2,by omega⟩
  have hT:zw L' len' (zl L' len' 10) 0=good (min (min (min (0+1) 301+1) 301+1) 301) (m+1):=by
   unfold zw
   rw [hf,(yh (DT:=zH L' len' 10) (ts:=[]) s0 t0.1).1,Nat.zero_add,(yh (DT:=zH L' len' 10) (ts:=[]) s1 t1).1,(yh (DT:=zH L' len' 10) (ts:=[]) s2 t2.1).1,(xF (DT:=zH L' len' 10) (ts:=[]) s3).1]
  have hQ:yq L' len' (zl L' len' 10) (zH L' len' 10) 0=tSeq [tAsr 0,t,tAsr 1]:=by
   unfold yq
   rw [hf,(yh (s:=0) s0 t0.1).2,Nat.zero_add,(yh (s:=0) s1 t1).2,(yh (s:=0) s2 t2.1).2,(xF (s:=0) s3).2,t0.2,t1',t2.2,v0,v2]
   simp
  have hx:=Z4 (DT:=zH L' len' 10) (f:=f+1+1+1) (zs:=[]) (ts:=[]) hT hQ (by rw [c2];decide)
  constructor
  ·unfold altP
   have hw:min (sumS 0 ([]++[min (min (min (0+1) 301+1) 301+1) 301])+((([]:List Int).length:Int)+1)-1) 301=3:=by decide
   rw [hf,hx.1,hl,hw]
  ·unfold altQ
   rw [hf,hx.2]
   rfl
 obtain ⟨q1,q2⟩:=key _ (T.size:Nat) h0 h1 ht hT hm hl
 have e1:zD T=good 3 (lets T).length:=q1
 refine ⟨⟨hch,?_,?_⟩,?_,q2⟩
 ·rw [e1,Kg]
 ·rw [e1,Kh]
 ·rw [e1,Ki]
section
variable {L:List (Int×Int)} {len:Int}
theorem esc_u {n m:Nat}{d:Int}(h0:zf L n=92)(h1:zf L (n+1)=117)(h2:zf L (n+2)=123)(hb:jC L len (n+3)=good d m):escO L len n=good d m∧zi L len n=good d m∧many L n=false∧asN L n=0:=by
 have e1:numO L len (n+1)=good d m:=by
  unfold numO
  rw [h1,show n+1+1=n+2 by omega,h2,show n+1+2=n+3 by omega,hb,if_neg (by decide),if_neg (by decide),if_neg (by decide),if_neg (by decide),if_pos ⟨rfl,rfl⟩]
 have e2:escO L len n=good d m:=by
  unfold escO
  rw [h1,if_neg (by decide),if_neg (by decide),e1]
 refine ⟨e2,?_,?_,?_⟩
 ·unfold zi
  rw [h0,h1,e2,if_neg (by decide),if_neg (by decide),if_pos rfl]
 ·unfold many
  rw [h0,h1]
  rfl
 ·unfold asN
  rw [h0,h1]
  simp
theorem term_u {D:Nat→Out}{DT:Nat→Tree}{n m:Nat}{d:Int}(h0:zf L n=92)(h1:zf L (n+1)=117)(h2:zf L (n+2)=123)(hb:jC L len (n+3)=good d m)(hq:zf L m=36):zV L len D n=good 1 m∧xO L len D DT n=qK d:=by
 obtain ⟨e1,_,_,e4⟩:=esc_u h0 h1 h2 hb
 have ho:zL L len D n=good 1 m:=by
  unfold zL
  rw [h0,if_neg (by decide),if_neg (by decide),if_neg (by decide),if_pos rfl,e1]
  rfl
 have hQ:(zu L len m).1=false:=by
  unfold zu
  rw [hq]
  simp
 have ht:xk L len DT n=qK d:=by
  unfold xk
  rw [h0,h1,e1,if_neg (by decide),if_neg (by decide),if_pos rfl]
  rfl
 unfold zV xO
 rw [e4,ho,Kg,Kh,hQ,ht]
 simp
theorem term_cls {D:Nat→Out}{DT:Nat→Tree}{n m:Nat}(h0:zf L n=91)(hc:qf L len n=good 1 m)(hq:zf L m=36):zV L len D n=good 1 m∧xO L len D DT n=xN L len n:=by
 have ha:asN L n=0:=by unfold asN;rw [h0];simp
 have ho:zL L len D n=good 1 m:=by
  unfold zL
  rw [h0,if_neg (by decide),if_neg (by decide),if_pos rfl,hc]
  rfl
 have hQ:(zu L len m).1=false:=by
  unfold zu
  rw [hq]
  simp
 have ht:xk L len DT n=xN L len n:=by
  unfold xk
  rw [h0,if_neg (by decide),if_pos rfl]
 unfold zV xO
 rw [ha,ho,Kg,Kh,hQ,ht]
 simp
theorem add_one {n m:Nat}{d:Int}(hm:zi L len n=good d m)(hy:many L n=false)(hd:zf L m≠45):addO L len n=good d m∧addR L len n []=[(d,d)]∧addS L len n []=[]:=by
 have hb:xJ L m=false:=by unfold xJ;simp [hd]
 unfold addO addR addS
 rw [hm,Kg,Kh,Ki,hb,hy]
 simp
theorem zdD {n m q:Nat}{d e:Int}(hm:zi L len n=good d m)(hy:many L n=false)(hd:zf L m=45)(hn:zf L (m+1)≠93∧zf L (m+1)≠-1)(hm2:zi L len (m+1)=good e q)(hy2:many L (m+1)=false)(hde:¬e<d):addO L len n=good e q∧addR L len n []=[(d,e)]∧addS L len n []=[]:=by
 have hb:xJ L m=true:=by unfold xJ;simp [hd,hn.1,hn.2]
 have hr:xj L len false d m=good e q:=by
  unfold xj
  rw [hm2,Kg,Ki,hy2]
  simp [hde]
 unfold addO addR addS
 rw [hm,Kg,Kh,Ki,hb,hy,hr,hm2,Ki]
 simp
theorem zdy {n s0 m:Nat}{d e x:Int}(h1:zf L (n+1)=94∧s0=n+2∨zf L (n+1)≠94∧s0=n+1)(hs:zf L s0≠93)(ha:addO L len s0=good x m∧addR L len s0 []=[(d,e)]∧addS L len s0 []=[])(hc:zf L m=93)(hs1:n<s0∧s0<m):qf L len n=good 1 (m+1)∧xN L len n=tCls (decide (zf L (n+1)=94)) [(d,e)] []:=by
 have hlt:m<L.length:=zq (by rw [hc];decide)
 have es:(if zf L (n+1)=94 then n+2 else n+1)=s0:=by
  rcases h1 with ⟨a,b⟩ |⟨a,b⟩
  ·rw [if_pos a,b]
  ·rw [if_neg a,b]
 obtain ⟨f,hf⟩:∃ f,L.length+1-n=f+1+1:=⟨L.length-1-n,by omega⟩
 have c1:yG L len (f+1+1) s0=good 1 (m+1):=by
  rw [yG,if_neg hs,if_neg (by omega),ha.1,Kg,Kh]
  simp only [ne_eq,not_true_eq_false,if_false]
  rw [yG,if_pos hc]
 have c2:xM L len (f+1+1) s0 [] []=([(d,e)],[]):=by
  rw [xM,if_neg hs,ha.1,ha.2.1,ha.2.2,Kh,xM,if_pos hc]
 unfold qf xN
 rw [es,hf,c1,c2]
 exact ⟨rfl,rfl⟩
end
end Pro
namespace Kn
open Pro (zf lets good jC yw triS)
def aOne:ByteArray:=⟨#[94,92,117,123]⟩
def bOne:ByteArray:=⟨#[125,36]⟩
def aNot:ByteArray:=⟨#[94,91,94,92,117,123]⟩
def bNot:ByteArray:=⟨#[125,93,36]⟩
def aUp:ByteArray:=⟨#[94,91,92,48,45,92,117,123]⟩
def aFr:ByteArray:=⟨#[94,91,92,117,123]⟩
def bFr:ByteArray:=⟨#[125,45,92,117,123,49,48,70,70,70,70,125,93,36]⟩
theorem aOne_l:lets aOne=[(0,94),(1,92),(2,117),(3,123)]:=by decide +kernel
theorem bOne_l:lets bOne=[(0,125),(1,36)]:=by decide +kernel
theorem aNot_l:lets aNot=[(0,94),(1,91),(2,94),(3,92),(4,117),(5,123)]:=by decide +kernel
theorem bNot_l:lets bNot=[(0,125),(1,93),(2,36)]:=by decide +kernel
theorem aUp_l:lets aUp=[(0,94),(1,91),(2,92),(3,48),(4,45),(5,92),(6,117),(7,123)]:=by decide +kernel
theorem aFr_l:lets aFr=[(0,94),(1,91),(2,92),(3,117),(4,123)]:=by decide +kernel
theorem bFr_l:lets bFr=[(0,125),(1,45),(2,92),(3,117),(4,123),(5,49),(6,48),(7,70),(8,70),(9,70),(10,70),(11,125),(12,93),(13,36)]:=by decide +kernel
theorem aOne_c:(Ref.zo aOne).2<0:=by decide +kernel
theorem bOne_c:(Ref.zo bOne).2<0:=by decide +kernel
theorem aNot_c:(Ref.zo aNot).2<0:=by decide +kernel
theorem bNot_c:(Ref.zo bNot).2<0:=by decide +kernel
theorem aUp_c:(Ref.zo aUp).2<0:=by decide +kernel
theorem aFr_c:(Ref.zo aFr).2<0:=by decide +kernel
theorem bFr_c:(Ref.zo bFr).2<0:=by decide +kernel
theorem one_out {d:Nat}(hd:d≤1114111):Pro.Reads (triS aOne (hexS d) bOne)∧(Pro.zD (triS aOne (hexS d) bOne)).v=3∧Pro.zE (triS aOne (hexS d) bOne)=Pro.tAlt [Pro.tSeq [Pro.tAsr 0,Pro.qK d,Pro.tAsr 1]]:=by
 have hT:=Pro.tri_lets aOne_c (hex_ch d) bOne_c
 have hl:=hex_len d
 have ha:=hT.a
 have hh:=hT.h
 have hb:=hT.b
 have hn:=hT.len
 rw [aOne_l] at ha hh hb hn
 rw [bOne_l] at hb hn
 rw [hl] at hh hb hn
 have q0:zf (lets (triS aOne (hexS d) bOne)) 0=94:=ha 0 (by decide)
 have q1:zf (lets (triS aOne (hexS d) bOne)) 1=92:=ha 1 (by decide)
 have q2:zf (lets (triS aOne (hexS d) bOne)) 2=117:=ha 2 (by decide)
 have q3:zf (lets (triS aOne (hexS d) bOne)) 3=123:=ha 3 (by decide)
 have q4:zf (lets (triS aOne (hexS d) bOne)) ((hexS d).size+4)=125:=by have:=hb 0;rw [Nat.zero_add,Nat.add_comm] at this;exact this
 have q5:zf (lets (triS aOne (hexS d) bOne)) ((hexS d).size+5)=36:=(congrArg (zf _) (by simp only [List.length_cons,List.length_nil];omega)).trans (hb 1)
 have hbr:=zdx (len:=((triS aOne (hexS d) bOne).size:Nat)) (d:=4) hd hh q4
 rw [show 4+(hexS d).size+1=(hexS d).size+5 by omega] at hbr
 have hl2:(lets (triS aOne (hexS d) bOne)).length=(hexS d).size+5+1:=by rw [hn];simp;omega
 have s1:Pro.yx (lets (triS aOne (hexS d) bOne)) 1=false:=by unfold Pro.yx;rw [q1,hl2];simp
 have ht:=Pro.term_u (D:=Pro.zl (lets (triS aOne (hexS d) bOne)) ((triS aOne (hexS d) bOne).size:Nat) 10) (DT:=Pro.zH (lets (triS aOne (hexS d) bOne)) ((triS aOne (hexS d) bOne).size:Nat) 10) (n:=1) q1 q2 q3 hbr q5
 exact Pro.mid_out (Pro.tri_ch aOne_c (hex_ch d) bOne_c) q0 s1 ht.1 ht.2 q5 hl2 (by omega)
theorem not_out {d:Nat}(hd:d≤1114111):Pro.Reads (triS aNot (hexS d) bNot)∧(Pro.zD (triS aNot (hexS d) bNot)).v=3∧Pro.zE (triS aNot (hexS d) bNot)=Pro.tAlt [Pro.tSeq [Pro.tAsr 0,Pro.tCls true [((d:Int),(d:Int))] [],Pro.tAsr 1]]:=by
 have hT:=Pro.tri_lets aNot_c (hex_ch d) bNot_c
 have hl:=hex_len d
 have ha:=hT.a
 have hh:=hT.h
 have hb:=hT.b
 have hn:=hT.len
 rw [aNot_l] at ha hh hb hn
 rw [bNot_l] at hb hn
 rw [hl] at hh hb hn
 have hch:=Pro.tri_ch aNot_c (hex_ch d) bNot_c
 generalize hTx:triS aNot (hexS d) bNot=T at *
 have q0:zf (lets T) 0=94:=ha 0 (by decide)
 have q1:zf (lets T) 1=91:=ha 1 (by decide)
 have q2:zf (lets T) 2=94:=ha 2 (by decide)
 have q3:zf (lets T) 3=92:=ha 3 (by decide)
 have q4:zf (lets T) 4=117:=ha 4 (by decide)
 have q5:zf (lets T) 5=123:=ha 5 (by decide)
 have q6:zf (lets T) ((hexS d).size+6)=125:=by have:=hb 0;rw [Nat.zero_add,Nat.add_comm] at this;exact this
 have q7:zf (lets T) ((hexS d).size+7)=93:=(congrArg (zf _) (by simp only [List.length_cons,List.length_nil];omega)).trans (hb 1)
 have q8:zf (lets T) ((hexS d).size+8)=36:=(congrArg (zf _) (by simp only [List.length_cons,List.length_nil];omega)).trans (hb 2)
 have hbr:=zdx (len:=(T.size:Nat)) (d:=6) hd hh q6
 rw [show 6+(hexS d).size+1=(hexS d).size+7 by omega] at hbr
 have hl2:(lets T).length=(hexS d).size+8+1:=by rw [hn];simp;omega
 have s1:Pro.yx (lets T) 1=false:=by unfold Pro.yx;rw [q1,hl2];simp
 obtain ⟨_,m1,m2,_⟩:=Pro.esc_u (L:=lets T) (len:=(T.size:Nat)) (n:=3) q3 q4 q5 hbr
 have hcl:=Pro.zdy (L:=lets T) (len:=(T.size:Nat)) (n:=1) (s0:=3) (.inl ⟨q2,rfl⟩) (by rw [q3];decide) (Pro.add_one m1 m2 (by rw [q7];decide)) q7 (by omega)
 have ht:=Pro.term_cls (D:=Pro.zl (lets T) (T.size:Nat) 10) (DT:=Pro.zH (lets T) (T.size:Nat) 10) q1 hcl.1 q8
 rw [hcl.2,q2] at ht
 exact Pro.mid_out hch q0 s1 ht.1 ht.2 q8 hl2 (by omega)
theorem up_out {d:Nat}(hd:d≤1114111):Pro.Reads (triS aUp (hexS d) bNot)∧(Pro.zD (triS aUp (hexS d) bNot)).v=3∧Pro.zE (triS aUp (hexS d) bNot)=Pro.tAlt [Pro.tSeq [Pro.tAsr 0,Pro.tCls false [((0:Int),(d:Int))] [],Pro.tAsr 1]]:=by
 have hT:=Pro.tri_lets aUp_c (hex_ch d) bNot_c
 have hl:=hex_len d
 have ha:=hT.a
 have hh:=hT.h
 have hb:=hT.b
 have hn:=hT.len
 rw [aUp_l] at ha hh hb hn
 rw [bNot_l] at hb hn
 rw [hl] at hh hb hn
 have hch:=Pro.tri_ch aUp_c (hex_ch d) bNot_c
 generalize hTx:triS aUp (hexS d) bNot=T at *
 have q0:zf (lets T) 0=94:=ha 0 (by decide)
 have q1:zf (lets T) 1=91:=ha 1 (by decide)
 have q2:zf (lets T) 2=92:=ha 2 (by decide)
 have q3:zf (lets T) 3=48:=ha 3 (by decide)
 have q4:zf (lets T) 4=45:=ha 4 (by decide)
 have q5:zf (lets T) 5=92:=ha 5 (by decide)
 have q6:zf (lets T) 6=117:=ha 6 (by decide)
 have q7:zf (lets T) 7=123:=ha 7 (by decide)
 have q8:zf (lets T) ((hexS d).size+8)=125:=by have:=hb 0;rw [Nat.zero_add,Nat.add_comm] at this;exact this
 have q9:zf (lets T) ((hexS d).size+9)=93:=(congrArg (zf _) (by simp only [List.length_cons,List.length_nil];omega)).trans (hb 1)
 have q10:zf (lets T) ((hexS d).size+10)=36:=(congrArg (zf _) (by simp only [List.length_cons,List.length_nil];omega)).trans (hb 2)
 have hbr:=zdx (len:=(T.size:Nat)) (d:=8) hd hh q8
 rw [show 8+(hexS d).size+1=(hexS d).size+9 by omega] at hbr
 have hl2:(lets T).length=(hexS d).size+10+1:=by rw [hn];simp;omega
 have s1:Pro.yx (lets T) 1=false:=by unfold Pro.yx;rw [q1,hl2];simp
 have m0:Pro.zi (lets T) (T.size:Nat) 2=good 0 4:=by
  unfold Pro.zi Pro.escO Pro.numO Pro.xY
  rw [q2,show (2+1:Nat)=3 from rfl,q3,show (3+1:Nat)=4 from rfl,q4]
  simp [Pro.setB,Pro.VE,Pro.wy,Pro.ctlV,Pro.sign,Pro.dig]
 have y0:Pro.many (lets T) 2=false:=by unfold Pro.many;rw [q2,show (2+1:Nat)=3 from rfl,q3];rfl
 obtain ⟨_,m1,m2,_⟩:=Pro.esc_u (L:=lets T) (len:=(T.size:Nat)) (n:=5) q5 q6 q7 hbr
 have hcl:=Pro.zdy (L:=lets T) (len:=(T.size:Nat)) (n:=1) (s0:=2) (.inr ⟨by rw [q2];decide,rfl⟩) (by rw [q2];decide) (Pro.zdD m0 y0 q4 (by rw [q5];decide) m1 m2 (by omega)) q9 (by omega)
 have ht:=Pro.term_cls (D:=Pro.zl (lets T) (T.size:Nat) 10) (DT:=Pro.zH (lets T) (T.size:Nat) 10) q1 hcl.1 q10
 rw [hcl.2,q2] at ht
 exact Pro.mid_out hch q0 s1 ht.1 ht.2 q10 hl2 (by omega)
theorem from_out {d:Nat}(hd:d≤1114111):Pro.Reads (triS aFr (hexS d) bFr)∧(Pro.zD (triS aFr (hexS d) bFr)).v=3∧Pro.zE (triS aFr (hexS d) bFr)=Pro.tAlt [Pro.tSeq [Pro.tAsr 0,Pro.tCls false [((d:Int),(1114111:Int))] [],Pro.tAsr 1]]:=by
 have hT:=Pro.tri_lets aFr_c (hex_ch d) bFr_c
 have hl:=hex_len d
 have ha:=hT.a
 have hh:=hT.h
 have hb:=hT.b
 have hn:=hT.len
 rw [aFr_l] at ha hh hb hn
 rw [bFr_l] at hb hn
 rw [hl] at hh hb hn
 have hch:=Pro.tri_ch aFr_c (hex_ch d) bFr_c
 generalize hTx:triS aFr (hexS d) bFr=T at *
 have q0:zf (lets T) 0=94:=ha 0 (by decide)
 have q1:zf (lets T) 1=91:=ha 1 (by decide)
 have q2:zf (lets T) 2=92:=ha 2 (by decide)
 have q3:zf (lets T) 3=117:=ha 3 (by decide)
 have q4:zf (lets T) 4=123:=ha 4 (by decide)
 have hbb:∀ k,zf (lets T) ((hexS d).size+(k+5))=zf [(0,125),(1,45),(2,92),(3,117),(4,123),(5,49),(6,48),(7,70),(8,70),(9,70),(10,70),(11,125),(12,93),(13,36)] k:=fun k=>(congrArg (zf _) (by simp only [List.length_cons,List.length_nil];omega)).trans (hb k)
 have p0:zf (lets T) ((hexS d).size+5)=125:=hbb 0
 have p1:zf (lets T) ((hexS d).size+6)=45:=hbb 1
 have p2:zf (lets T) ((hexS d).size+7)=92:=hbb 2
 have p3:zf (lets T) ((hexS d).size+8)=117:=hbb 3
 have p4:zf (lets T) ((hexS d).size+9)=123:=hbb 4
 have p5:zf (lets T) ((hexS d).size+10)=49:=hbb 5
 have p6:zf (lets T) ((hexS d).size+11)=48:=hbb 6
 have p7:zf (lets T) ((hexS d).size+12)=70:=hbb 7
 have p8:zf (lets T) ((hexS d).size+13)=70:=hbb 8
 have p9:zf (lets T) ((hexS d).size+14)=70:=hbb 9
 have p10:zf (lets T) ((hexS d).size+15)=70:=hbb 10
 have p11:zf (lets T) ((hexS d).size+16)=125:=hbb 11
 have p12:zf (lets T) ((hexS d).size+17)=93:=hbb 12
 have p13:zf (lets T) ((hexS d).size+18)=36:=hbb 13
 have hbr:=zdx (len:=(T.size:Nat)) (d:=5) hd hh p0
 rw [show 5+(hexS d).size+1=(hexS d).size+6 by omega] at hbr
 have hl2:(lets T).length=(hexS d).size+18+1:=by rw [hn];simp;omega
 have s1:Pro.yx (lets T) 1=false:=by unfold Pro.yx;rw [q1,hl2];simp
 have hbr2:jC (lets T) (T.size:Nat) ((hexS d).size+10)=good 1114111 ((hexS d).size+17):=by
  unfold jC
  obtain ⟨f,hf⟩:∃ f,(lets T).length+1-((hexS d).size+10)=f+1+1+1+1+1+1+1:=⟨3,by omega⟩
  rw [hf,yw,p5,if_neg (by decide),if_neg (by decide)]
  rw [yw,p6,if_neg (by decide),if_neg (by decide)]
  rw [yw,p7,if_neg (by decide),if_neg (by decide)]
  rw [yw,p8,if_neg (by decide),if_neg (by decide)]
  rw [yw,p9,if_neg (by decide),if_neg (by decide)]
  rw [yw,p10,if_neg (by decide),if_neg (by decide)]
  rw [yw,p11,if_pos (by decide)]
  rfl
 obtain ⟨_,m1,m2,_⟩:=Pro.esc_u (L:=lets T) (len:=(T.size:Nat)) (n:=2) q2 q3 q4 hbr
 obtain ⟨_,m3,m4,_⟩:=Pro.esc_u (L:=lets T) (len:=(T.size:Nat)) (n:=(hexS d).size+7) p2 p3 p4 hbr2
 have hcl:=Pro.zdy (L:=lets T) (len:=(T.size:Nat)) (n:=1) (s0:=2) (.inr ⟨by rw [q2];decide,rfl⟩) (by rw [q2];decide) (Pro.zdD m1 m2 p1 (by rw [p2];decide) m3 m4 (by omega)) p12 (by omega)
 have ht:=Pro.term_cls (D:=Pro.zl (lets T) (T.size:Nat) 10) (DT:=Pro.zH (lets T) (T.size:Nat) 10) q1 hcl.1 p13
 rw [hcl.2,q2] at ht
 exact Pro.mid_out hch q0 s1 ht.1 ht.2 p13 hl2 (by omega)
end Kn
namespace Kn
def sPd:ByteArray:=⟨#[94,92,100,36]⟩
theorem okPd:qD sPd:=⟨by decide,⟨by decide +kernel,by decide +kernel,by decide +kernel⟩,by decide +kernel⟩
theorem trPd:Pro.zE sPd=Pro.tAlt [Pro.tSeq [Pro.tAsr 0,Pro.xV 100,Pro.tAsr 1]]:=by kernel_rfl
def sPD:ByteArray:=⟨#[94,92,68,36]⟩
theorem okPD:qD sPD:=⟨by decide,⟨by decide +kernel,by decide +kernel,by decide +kernel⟩,by decide +kernel⟩
theorem trPD:Pro.zE sPD=Pro.tAlt [Pro.tSeq [Pro.tAsr 0,Pro.xV 68,Pro.tAsr 1]]:=by kernel_rfl
def sPNd:ByteArray:=⟨#[94,91,94,92,100,93,36]⟩
theorem okPNd:qD sPNd:=⟨by decide,⟨by decide +kernel,by decide +kernel,by decide +kernel⟩,by decide +kernel⟩
theorem trPNd:Pro.zE sPNd=Pro.tAlt [Pro.tSeq [Pro.tAsr 0,Pro.tCls true [] [100],Pro.tAsr 1]]:=by kernel_rfl
def sPCD:ByteArray:=⟨#[94,91,92,68,93,36]⟩
theorem okPCD:qD sPCD:=⟨by decide,⟨by decide +kernel,by decide +kernel,by decide +kernel⟩,by decide +kernel⟩
theorem trPCD:Pro.zE sPCD=Pro.tAlt [Pro.tSeq [Pro.tAsr 0,Pro.tCls false [] [68],Pro.tAsr 1]]:=by kernel_rfl
def sPw:ByteArray:=⟨#[94,92,119,36]⟩
theorem okPw:qD sPw:=⟨by decide,⟨by decide +kernel,by decide +kernel,by decide +kernel⟩,by decide +kernel⟩
theorem trPw:Pro.zE sPw=Pro.tAlt [Pro.tSeq [Pro.tAsr 0,Pro.xV 119,Pro.tAsr 1]]:=by kernel_rfl
def sPW:ByteArray:=⟨#[94,92,87,36]⟩
theorem okPW:qD sPW:=⟨by decide,⟨by decide +kernel,by decide +kernel,by decide +kernel⟩,by decide +kernel⟩
theorem trPW:Pro.zE sPW=Pro.tAlt [Pro.tSeq [Pro.tAsr 0,Pro.xV 87,Pro.tAsr 1]]:=by kernel_rfl
def sPNw:ByteArray:=⟨#[94,91,94,92,119,93,36]⟩
theorem okPNw:qD sPNw:=⟨by decide,⟨by decide +kernel,by decide +kernel,by decide +kernel⟩,by decide +kernel⟩
theorem trPNw:Pro.zE sPNw=Pro.tAlt [Pro.tSeq [Pro.tAsr 0,Pro.tCls true [] [119],Pro.tAsr 1]]:=by kernel_rfl
def sPs:ByteArray:=⟨#[94,92,115,36]⟩
theorem okPs:qD sPs:=⟨by decide,⟨by decide +kernel,by decide +kernel,by decide +kernel⟩,by decide +kernel⟩
theorem trPs:Pro.zE sPs=Pro.tAlt [Pro.tSeq [Pro.tAsr 0,Pro.xV 115,Pro.tAsr 1]]:=by kernel_rfl
def sPS:ByteArray:=⟨#[94,92,83,36]⟩
theorem okPS:qD sPS:=⟨by decide,⟨by decide +kernel,by decide +kernel,by decide +kernel⟩,by decide +kernel⟩
theorem trPS:Pro.zE sPS=Pro.tAlt [Pro.tSeq [Pro.tAsr 0,Pro.xV 83,Pro.tAsr 1]]:=by kernel_rfl
def sPCS:ByteArray:=⟨#[94,91,92,83,93,36]⟩
theorem okPCS:qD sPCS:=⟨by decide,⟨by decide +kernel,by decide +kernel,by decide +kernel⟩,by decide +kernel⟩
theorem trPCS:Pro.zE sPCS=Pro.tAlt [Pro.tSeq [Pro.tAsr 0,Pro.tCls false [] [83],Pro.tAsr 1]]:=by kernel_rfl
def sPA:ByteArray:=⟨#[94,46,36]⟩
theorem okPA:qD sPA:=⟨by decide,⟨by decide +kernel,by decide +kernel,by decide +kernel⟩,by decide +kernel⟩
theorem trPA:Pro.zE sPA=Pro.tAlt [Pro.tSeq [Pro.tAsr 0,Pro.tAny,Pro.tAsr 1]]:=by kernel_rfl
def sPAll:ByteArray:=⟨#[94,91,94,93,36]⟩
theorem okPAll:qD sPAll:=⟨by decide,⟨by decide +kernel,by decide +kernel,by decide +kernel⟩,by decide +kernel⟩
theorem trPAll:Pro.zE sPAll=Pro.tAlt [Pro.tSeq [Pro.tAsr 0,Pro.tCls true [] [],Pro.tAsr 1]]:=by kernel_rfl
def sPb:ByteArray:=⟨#[94,92,98]⟩
theorem okPb:qD sPb:=⟨by decide,⟨by decide +kernel,by decide +kernel,by decide +kernel⟩,by decide +kernel⟩
theorem trPb:Pro.zE sPb=Pro.tAlt [Pro.tSeq [Pro.tAsr 0,Pro.tAsr 2]]:=by kernel_rfl
def sP0:ByteArray:=⟨#[91,93]⟩
theorem trP0:Pro.zE sP0=Pro.tAlt [Pro.tSeq [Pro.tCls false [] []]]:=by kernel_rfl
def leafQ (T:Tree):Prop:=1≤T.kind∧T.kind≤4
theorem enc_byte {c:Int}(h0:0≤c)(h1:c≤1114111){j:Nat}(hj:j<(Kc.encI c).length):zd (Kc.encS c) j=(Kc.encI c)[j]:=by
 have hz:(Kc.encS c).size=(Kc.encI c).length:=by unfold Kc.encS Kc.toB;show (List.map _ _).toArray.size=_;simp
 rw [xZ _ _ (by omega),←Kc.toB_at (Kc.encI_bd h0 h1) j hj]
 rfl
theorem enc_size (c:Int):(Kc.encS c).size=(Kc.encI c).length:=by unfold Kc.encS Kc.toB;show (List.map _ _).toArray.size=_;simp
theorem enc_one {c:Int}(hc:Kc.isCharB c=true):Ref.oneF (Kc.encS c) 0=some ((Kc.encI c).length,c):=by
 have hc2:=hc
 unfold Kc.isCharB at hc2
 simp at hc2
 have h0:0≤c:=hc2.1.1
 have h1:c≤1114111:=hc2.1.2
 have hb:=fun j hj=>enc_byte h0 h1 (j:=j) hj
 have hz:=enc_size c
 by_cases c1:c<128
 ·have e:Kc.encI c=[c]:=by unfold Kc.encI;rw [if_pos c1]
  rw [e] at hz ⊢
  have b0:zd (Kc.encS c) 0=c:=by have:=hb 0 (by rw [e];simp);simpa [e] using this
  have hv:Kc.valueV (Kc.encS c) 0 1=c:=by rw [Kc.val1,b0]
  have:=Kc.one_of (s:=Kc.encS c) (p:=0) (n:=1) (by decide) (by decide) (by rw [hz];simp) (by rw [hv];exact hc) (by rw [hv,e,Kc.bytes1,b0])
  rw [hv] at this
  exact this
 ·by_cases c2:c<2048
  ·have e:Kc.encI c=[192+c / 64,128+c % 64]:=by unfold Kc.encI;rw [if_neg c1,if_pos c2]
   rw [e] at hz ⊢
   have b0:zd (Kc.encS c) 0=192+c / 64:=by have:=hb 0 (by rw [e];simp);simpa [e] using this
   have b1:zd (Kc.encS c) 1=128+c % 64:=by have:=hb 1 (by rw [e];simp);simpa [e] using this
   have hv:Kc.valueV (Kc.encS c) 0 2=c:=by rw [Kc.val2,b0,Nat.zero_add,b1];omega
   have:=Kc.one_of (s:=Kc.encS c) (p:=0) (n:=2) (by decide) (by decide) (by rw [hz];simp) (by rw [hv];exact hc) (by rw [hv,e,Kc.bytes2,b0,Nat.zero_add,b1])
   rw [hv] at this
   exact this
  ·by_cases c3:c<65536
   ·have e:Kc.encI c=[224+c / 4096,128+c / 64 % 64,128+c % 64]:=by unfold Kc.encI;rw [if_neg c1,if_neg c2,if_pos c3]
    rw [e] at hz ⊢
    have b0:zd (Kc.encS c) 0=224+c / 4096:=by have:=hb 0 (by rw [e];simp);simpa [e] using this
    have b1:zd (Kc.encS c) 1=128+c / 64 % 64:=by have:=hb 1 (by rw [e];simp);simpa [e] using this
    have b2:zd (Kc.encS c) 2=128+c % 64:=by have:=hb 2 (by rw [e];simp);simpa [e] using this
    have hv:Kc.valueV (Kc.encS c) 0 3=c:=by rw [Kc.val3,b0,Nat.zero_add,Nat.zero_add,b1,b2];omega
    have:=Kc.one_of (s:=Kc.encS c) (p:=0) (n:=3) (by decide) (by decide) (by rw [hz];simp) (by rw [hv];exact hc) (by rw [hv,e,Kc.bytes3,b0,Nat.zero_add,Nat.zero_add,b1,b2])
    rw [hv] at this
    exact this
   ·have e:Kc.encI c=[240+c / 262144,128+c / 4096 % 64,128+c / 64 % 64,128+c % 64]:=by unfold Kc.encI;rw [if_neg c1,if_neg c2,if_neg c3]
    rw [e] at hz ⊢
    have b0:zd (Kc.encS c) 0=240+c / 262144:=by have:=hb 0 (by rw [e];simp);simpa [e] using this
    have b1:zd (Kc.encS c) 1=128+c / 4096 % 64:=by have:=hb 1 (by rw [e];simp);simpa [e] using this
    have b2:zd (Kc.encS c) 2=128+c / 64 % 64:=by have:=hb 2 (by rw [e];simp);simpa [e] using this
    have b3:zd (Kc.encS c) 3=128+c % 64:=by have:=hb 3 (by rw [e];simp);simpa [e] using this
    have hv:Kc.valueV (Kc.encS c) 0 4=c:=by rw [Kc.val4,b0,Nat.zero_add,Nat.zero_add,Nat.zero_add,b1,b2,b3];omega
    have:=Kc.one_of (s:=Kc.encS c) (p:=0) (n:=4) (by decide) (by decide) (by rw [hz];simp) (by rw [hv];exact hc) (by rw [hv,e,Kc.bytes4,b0,Nat.zero_add,Nat.zero_add,Nat.zero_add,b1,b2,b3])
    rw [hv] at this
    exact this
theorem enc_len (c:Int):1≤(Kc.encI c).length∧(Kc.encI c).length≤4:=by
 unfold Kc.encI
 repeat' split
 all_goals simp
theorem zdz {c:Int}(hc:Kc.isCharB c=true):Ref.zo (Kc.encS c)=([(c,0)],-1):=by
 have h1:=enc_one hc
 have hz:=enc_size c
 have hl:=enc_len c
 unfold Ref.zo
 rw [Ref.qW (by omega) h1,hz]
 obtain ⟨f,hf⟩:∃ f,(Kc.encI c).length=f+1:=⟨(Kc.encI c).length-1,by omega⟩
 rw [hf,Ref.vE (by omega)]
 rfl
theorem enc_text {c:Int}(hc:Kc.isCharB c=true):Kc.textB (Kc.encS c)=true:=by
 have hz:=enc_size c
 have hl:=enc_len c
 unfold Kc.textB
 rw [zdz hc]
 simp
 omega
theorem char_is {c:Int}(hc:Kc.isCharB c=true):Cs.isCh c=true:=by
 unfold Kc.isCharB at hc
 simp at hc
 rw [Cs.wJ]
 omega
theorem hit_leaf {T:ByteArray}{t:Tree}{c:Int}(hP:qD T)(ht:Pro.zE T=Pro.tAlt [Pro.tSeq [Pro.tAsr 0,t,Pro.tAsr 1]])(hk:leafQ t)(hc:Kc.isCharB c=true):Hits T (Kc.encS c)↔Eqv.ZM t c=true:=by
 have hch:=zdz hc
 have hw:Sm.WF 1 t:=by
  unfold leafQ at hk
  refine ⟨fun h=>by omega,fun h=>by omega,fun h=>by omega⟩
 have hlen:(Ref.zo (Kc.encS c)).1.length=1:=by rw [hch];rfl
 have hM:Mng (Kc.encS c) t 0 1↔Eqv.ZM t c=true:=by
  rw [kh hw,Sm.M]
  unfold leafQ at hk
  rw [if_neg (by omega),if_neg (by omega),if_neg (by omega),if_neg (by omega)]
  have hS:=Prg.yj.of (Kc.encS c)
  rw [←Prg.lf_iff hS t 0]
  unfold Prg.lfP Cs.qY
  rw [←hS.len,hlen,←hS.at 0,hch]
  have e:Ref.chAt [(c,0)] 0=c:=rfl
  rw [e,char_is hc]
  simp
 constructor
 ·rintro ⟨_,_,i,j,hi,hj,hm⟩
  rw [ht,Vq hw hi hj,hlen] at hm
  obtain ⟨rfl,rfl,hm⟩:=hm
  exact hM.1 hm
 ·intro h
  refine ⟨hP,enc_text hc,0,1,by omega,by omega,?_⟩
  rw [ht,Vq hw (by omega) (by omega),hlen]
  exact ⟨rfl,rfl,hM.2 h⟩
end Kn
end
section
open Go.RowKit
open Sm (Tree)
namespace Kn
def dgB (c:Int):Bool:=Eqv.inSp Ref.W4 c
def wdB (c:Int):Bool:=Eqv.inSp Ref.vL c
def blB (c:Int):Bool:=Eqv.inSp Ref.QA c
def lnB (c:Int):Bool:=Eqv.inSp [(10,10),(13,13),(8232,8233)] c
theorem leaf_k {k:Nat}{a b:Int}{n:Bool}{R:List (Int×Int)}{S:List Int}{ks:List Tree}(h1:1≤k)(h4:k≤4):leafQ ⟨k,a,b,n,R,S,ks⟩:=⟨h1,h4⟩
theorem hitPd {c:Int}(hc:Kc.isCharB c=true):Hits sPd (Kc.encS c)↔(dgB c)=true:=by
 rw [hit_leaf okPd trPd (leaf_k (by decide) (by decide)) hc]
 simp [Eqv.ZM,Pro.xV,Eqv.kM,Eqv.inPt,Ref.setL,dgB,Eqv.inSp]
theorem hitPD {c:Int}(hc:Kc.isCharB c=true):Hits sPD (Kc.encS c)↔(!dgB c)=true:=by
 rw [hit_leaf okPD trPD (leaf_k (by decide) (by decide)) hc]
 simp [Eqv.ZM,Pro.xV,Eqv.kM,Eqv.inPt,Ref.setL,dgB,Eqv.inSp]
theorem hitPNd {c:Int}(hc:Kc.isCharB c=true):Hits sPNd (Kc.encS c)↔(!dgB c)=true:=by
 rw [hit_leaf okPNd trPNd (leaf_k (by decide) (by decide)) hc]
 simp [Eqv.ZM,Pro.tCls,Eqv.wN,Eqv.kM,Eqv.inPt,Ref.setL,dgB,Eqv.inSp]
theorem hitPCD {c:Int}(hc:Kc.isCharB c=true):Hits sPCD (Kc.encS c)↔(!dgB c)=true:=by
 rw [hit_leaf okPCD trPCD (leaf_k (by decide) (by decide)) hc]
 simp [Eqv.ZM,Pro.tCls,Eqv.wN,Eqv.kM,Eqv.inPt,Ref.setL,dgB,Eqv.inSp]
theorem hitPw {c:Int}(hc:Kc.isCharB c=true):Hits sPw (Kc.encS c)↔(wdB c)=true:=by
 rw [hit_leaf okPw trPw (leaf_k (by decide) (by decide)) hc]
 simp [Eqv.ZM,Pro.xV,Eqv.kM,Eqv.inPt,Ref.setL,wdB,Eqv.inSp]
theorem hitPW {c:Int}(hc:Kc.isCharB c=true):Hits sPW (Kc.encS c)↔(!wdB c)=true:=by
 rw [hit_leaf okPW trPW (leaf_k (by decide) (by decide)) hc]
 simp [Eqv.ZM,Pro.xV,Eqv.kM,Eqv.inPt,Ref.setL,wdB,Eqv.inSp]
theorem hitPNw {c:Int}(hc:Kc.isCharB c=true):Hits sPNw (Kc.encS c)↔(!wdB c)=true:=by
 rw [hit_leaf okPNw trPNw (leaf_k (by decide) (by decide)) hc]
 simp [Eqv.ZM,Pro.tCls,Eqv.wN,Eqv.kM,Eqv.inPt,Ref.setL,wdB,Eqv.inSp]
theorem hitPs {c:Int}(hc:Kc.isCharB c=true):Hits sPs (Kc.encS c)↔(blB c)=true:=by
 rw [hit_leaf okPs trPs (leaf_k (by decide) (by decide)) hc]
 simp [Eqv.ZM,Pro.xV,Eqv.kM,Eqv.inPt,Ref.setL,blB,Eqv.inSp]
theorem hitPS {c:Int}(hc:Kc.isCharB c=true):Hits sPS (Kc.encS c)↔(!blB c)=true:=by
 rw [hit_leaf okPS trPS (leaf_k (by decide) (by decide)) hc]
 simp [Eqv.ZM,Pro.xV,Eqv.kM,Eqv.inPt,Ref.setL,blB,Eqv.inSp]
theorem hitPCS {c:Int}(hc:Kc.isCharB c=true):Hits sPCS (Kc.encS c)↔(!blB c)=true:=by
 rw [hit_leaf okPCS trPCS (leaf_k (by decide) (by decide)) hc]
 simp [Eqv.ZM,Pro.tCls,Eqv.wN,Eqv.kM,Eqv.inPt,Ref.setL,blB,Eqv.inSp]
theorem hitPA {c:Int}(hc:Kc.isCharB c=true):Hits sPA (Kc.encS c)↔(!lnB c)=true:=by
 rw [hit_leaf okPA trPA (leaf_k (by decide) (by decide)) hc]
 simp [Eqv.ZM,Pro.tAny,lnB,Eqv.inSp]
theorem hitPAll {c:Int}(hc:Kc.isCharB c=true):Hits sPAll (Kc.encS c)↔(true)=true:=by
 rw [hit_leaf okPAll trPAll (leaf_k (by decide) (by decide)) hc]
 simp [Eqv.ZM,Pro.tCls,Eqv.wN,Eqv.kM,Eqv.inPt,Ref.setL,Eqv.inSp]
theorem hit0 {c:Int}(_hc:Kc.isCharB c=true):Hits sP0 (Kc.encS c)↔false=true:=by
 have hw:Sm.WF 3 (Pro.tAlt [Pro.tSeq [Pro.tCls false [] []]]):=by simp [Sm.WF,Pro.tAlt,Pro.tSeq,Pro.tCls]
 constructor
 ·rintro ⟨_,_,i,j,_,_,hm⟩
  rw [trP0,kh hw,Sm.M] at hm
  simp only [Pro.tAlt] at hm
  simp at hm
  rw [Sm.M] at hm
  simp only [Pro.tSeq,Sm.q7] at hm
  simp at hm
  rw [Sm.M] at hm
  simp only [Pro.tCls] at hm
  simp at hm
  have h2:=(Prg.lf_iff (Prg.yj.of (Kc.encS c)) _ i).2 hm.1
  unfold Prg.lfP Cs.qY Eqv.ZM Eqv.wN at h2
  simp [Eqv.inSp] at h2
 ·intro h
  cases h
theorem hitPb {c:Int}(hc:Kc.isCharB c=true):Hits sPb (Kc.encS c)↔wdB c=true:=by
 have hch:=zdz hc
 have hlen:(Ref.zo (Kc.encS c)).1.length=1:=by rw [hch];rfl
 have hw:Sm.WF 3 (Pro.tAlt [Pro.tSeq [Pro.tAsr 0,Pro.tAsr 2]]):=by simp [Sm.WF,Pro.tAlt,Pro.tSeq,Pro.tAsr]
 have hS:=Prg.yj.of (Kc.encS c)
 have h2:Ref.ahT (Ref.zo (Kc.encS c)).1 2 0↔wdB c=true:=by
  refine (Prg.Km hS (W:=Cs.zT 119) (Nat.zero_le _) ⟨by decide,by decide⟩ (fun _=>rfl)).symm.trans ?_
  unfold Prg.ahP Prg.jb Prg.qJ Prg.befB Prg.aftB
  rw [←hS.len,hlen,←hS.at 0,hch,show Ref.chAt [(c,0)] 0=c from rfl]
  simp [Cs.zT,char_is hc,Eqv.kM,Eqv.inPt,Ref.setL,wdB]
 have e:∀ i j,Mng (Kc.encS c) (Pro.tAlt [Pro.tSeq [Pro.tAsr 0,Pro.tAsr 2]]) i j↔i=j∧Ref.ahT (Ref.zo (Kc.encS c)).1 0 i∧Ref.ahT (Ref.zo (Kc.encS c)).1 2 i:=fun i j=>by
  rw [kh hw,Sm.M]
  simp only [Pro.tAlt]
  simp
  rw [Sm.M]
  simp only [Pro.tSeq,Sm.q7]
  simp [Sm.M,Pro.tAsr]
  constructor
  ·rintro ⟨m,⟨rfl,a⟩,rfl,b⟩
   exact ⟨rfl,a,b⟩
  ·rintro ⟨rfl,a,b⟩
   exact ⟨i,⟨rfl,a⟩,rfl,b⟩
 constructor
 ·rintro ⟨_,_,i,j,hi,hj,hm⟩
  rw [trPb,e] at hm
  obtain ⟨rfl,h0,hb⟩:=hm
  have hi0:=(ah0 hi).1 h0
  subst hi0
  exact h2.1 hb
 ·intro h
  refine ⟨okPb,enc_text hc,0,0,by omega,by omega,?_⟩
  rw [trPb,e]
  exact ⟨rfl,(ah0 (by omega)).2 rfl,h2.2 h⟩
theorem hex_pat {a b:ByteArray}{d:Nat}(hd:d≤1114111)(h:Pro.Reads (Pro.triS a (hexS d) b)∧(Pro.zD (Pro.triS a (hexS d) b)).v=3)(hz:a.size+b.size≤100):qD (Pro.triS a (hexS d) b):=by
 have h6:=hex_six hd
 refine ⟨?_,h.1,by rw [h.2];decide⟩
 unfold Pro.triS
 rw [ByteArray.size_append,ByteArray.size_append]
 omega
theorem hitOne {c:Int}{d:Nat}(hd:d≤1114111)(hc:Kc.isCharB c=true):Hits (Pro.triS aOne (hexS d) bOne) (Kc.encS c)↔decide (c=(d:Int))=true:=by
 obtain ⟨a,b,t⟩:=one_out hd
 rw [hit_leaf (hex_pat hd ⟨a,b⟩ (by decide)) t (leaf_k (by decide) (by decide)) hc]
 simp [Eqv.ZM,Pro.qK]
 exact decide_eq_true_iff
theorem hitNot {c:Int}{d:Nat}(hd:d≤1114111)(hc:Kc.isCharB c=true):Hits (Pro.triS aNot (hexS d) bNot) (Kc.encS c)↔decide (c≠(d:Int))=true:=by
 obtain ⟨a,b,t⟩:=not_out hd
 rw [hit_leaf (hex_pat hd ⟨a,b⟩ (by decide)) t (leaf_k (by decide) (by decide)) hc]
 simp [Eqv.ZM,Pro.tCls,Eqv.wN,Eqv.inSp]
 omega
theorem hitUp {c:Int}{d:Nat}(hd:d≤1114111)(hc:Kc.isCharB c=true):Hits (Pro.triS aUp (hexS d) bNot) (Kc.encS c)↔decide (c≤(d:Int))=true:=by
 obtain ⟨a,b,t⟩:=up_out hd
 have h0:=(Cs.wJ c).1 (char_is hc)
 rw [hit_leaf (hex_pat hd ⟨a,b⟩ (by decide)) t (leaf_k (by decide) (by decide)) hc]
 simp [Eqv.ZM,Pro.tCls,Eqv.wN,Eqv.inSp]
 omega
theorem hitFrom {c:Int}{d:Nat}(hd:d≤1114111)(hc:Kc.isCharB c=true):Hits (Pro.triS aFr (hexS d) bFr) (Kc.encS c)↔decide ((d:Int)≤c)=true:=by
 obtain ⟨a,b,t⟩:=from_out hd
 have h0:=(Cs.wJ c).1 (char_is hc)
 rw [hit_leaf (hex_pat hd ⟨a,b⟩ (by decide)) t (leaf_k (by decide) (by decide)) hc]
 simp [Eqv.ZM,Pro.tCls,Eqv.wN,Eqv.inSp]
 omega
end Kn
theorem zdI {p s:ByteArray}{b:Bool}(h:Hits p s↔b=true)(w:World)(a:Nat→Addr)(base:Nat)(hB:wd w a base) :
  Calls Tryz.prog 33 #[.string p,.string s] w fun x w'=>x = .returned (.bool b)∧ze (fun _=>False) w w':=by
 refine (zdF p s w a base hB).mono ?_
 rintro x w' ⟨⟨b',rfl,hb⟩,hO⟩
 exact ⟨by rw [Bool.eq_iff_iff.2 (hb.trans h)],hO⟩
end
end Go.Proofs.YtfnkbmglodopkaaGreatDoor
