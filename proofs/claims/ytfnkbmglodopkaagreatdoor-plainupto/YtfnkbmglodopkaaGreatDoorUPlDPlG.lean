/- The law's own plain. -/
import Derived.Test.YtfnkbmglodopkaaGreatDoorUPlAPlC
import Derived.Test.YtfnkbmglodopkaaGreatDoorUKnH
namespace Go.Proofs.YtfnkbmglodopkaaGreatDoor
section
open Go.RowKit
set_option maxHeartbeats 8000000
set_option maxRecDepth 100000
namespace Pl
open Pro (sign)
def plF (s:ByteArray):Nat→ByteArray
 |0=>ByteArray.empty
 |i+1=>(if sign (zd s i)=true then plF s i++⟨#[92]⟩ else plF s i)++s.extract i (i+1)
theorem plF_size (s:ByteArray):∀ i,i≤s.size→(plF s i).size≤2*i
 |0,_=>Nat.le_refl _
 |i+1,h=>by
  have ih:=plF_size s i (by omega)
  have h1:(s.extract i (i+1)).size≤1:=by rw [ByteArray.size_extract];omega
  unfold plF
  rw [ByteArray.size_append]
  split
  ·rw [ByteArray.size_append]
   have:(⟨#[92]⟩:ByteArray).size=1:=rfl
   omega
  ·omega
end Pl
theorem zd9 (s:ByteArray)(w:World)(hs:s.size≤1099511627776) :
  Calls Tryz.prog 36 #[.string s] w fun x w'=>x = .returned (.string (Pl.plF s s.size))∧ze (fun _=>False) w w':=by
 go_enter Tryz.func36,Tryz.ntmps36
 go_wp2_with fail
 go_loopw [3,4] (fun ov iv wr=>∃ (i:Nat) (O:ByteArray),iv = .int .i64 i∧ov = .string O∧i≤s.size∧O.size≤2*i∧Hid (O=Pl.plF s i)∧Hid (ze (fun _=>False) w wr)) (fun _ iv _=>s.size-(intOf iv).toNat)
 case atStart=>exact ⟨0,ByteArray.empty,rfl,rfl,by omega,by decide,rfl,ze.refl _ _⟩
 case round=>
  obtain ⟨i,O,rfl,rfl,hi,hO,HE,HK⟩:=hrel
  by_cases hlt:i<s.size
  ·obtain ⟨b,e,l,u,x⟩:=jF s i hlt
   have hx:=fun w=>x (i:Int) w rfl
   have hsl:∀ V:World,(Instr.slice 9 (.string s) (some (.int .i64 (i:Int))) (some (.int .i64 ((i:Int)+1))) none).run Tryz.prog V = .ok (.string (s.extract i (i+1))) V:=fun V=>by
    rw [run_slice_string V 9 s .i64 .i64 (i:Int) ((i:Int)+1) Tryz.underlying9 (by omega) (by omega) (by omega),show ((i:Int)+1).toNat=i+1 by omega,Int.toNat_natCast]
   have hw1:IntKind.i64.wrap ((i:Int)+1)=(i:Int)+1:=yY _ (by omega) (by omega)
   have h1:(s.extract i (i+1)).size≤1:=by rw [ByteArray.size_extract];omega
   have HN:Hid (Pl.plF s (i+1)=(if Pro.sign b=true then O++⟨#[92]⟩ else O)++s.extract i (i+1)):=by
    show _=_
    rw [Pl.plF,e,zb HE]
   clear x e HE
   generalize s.extract i (i+1)=S1 at *
   by_cases hb:Pro.sign b=true
   ·have hcat1:∀ V:World,(Op.stringOp .add O ⟨#[92]⟩).run Tryz.prog V = .ok (.string (O++⟨#[92]⟩)) V:=fun V=>run_string_add_sum V _ _ (by show _+1≤_;omega)
    have hz2:(O++⟨#[92]⟩).size=O.size+1:=by rw [ByteArray.size_append];rfl
    have hcat2:∀ V:World,(Op.stringOp .add (O++⟨#[92]⟩) S1).run Tryz.prog V = .ok (.string (O++⟨#[92]⟩++S1)) V:=fun V=>run_string_add_sum V _ _ (by rw [hz2];omega)
    have HN2:Hid (O++⟨#[92]⟩++S1=Pl.plF s (i+1)):=by show _=_;rw [zb HN,if_pos hb]
    have hz3:(O++⟨#[92]⟩++S1).size≤2*(i+1):=by rw [ByteArray.size_append,hz2];omega
    have hs2:=(Pl.sign_iff b).1 hb
    clear HN hb hz2
    generalize hO2:O++⟨#[92]⟩=O2 at *
    clear hO2
    generalize hO3:O2++S1=O3 at *
    clear hO3
    rcases hs2 with rfl |rfl |rfl |rfl |rfl |rfl |rfl |rfl |rfl |rfl |rfl |rfl |rfl |rfl |rfl
    all_goals go_wp2_with fail
    all_goals exact ⟨⟨i+1,O3,by go_num,rfl,by omega,hz3,zb HN2,HK⟩,by simp [intOf];omega⟩
   ·have hcat2:∀ V:World,(Op.stringOp .add O S1).run Tryz.prog V = .ok (.string (O++S1)) V:=fun V=>run_string_add_sum V _ _ (by omega)
    have HN2:Hid (O++S1=Pl.plF s (i+1)):=by show _=_;rw [zb HN,if_neg hb]
    have hz3:(O++S1).size≤2*(i+1):=by rw [ByteArray.size_append];omega
    have hs2:=mt (Pl.sign_iff b).2 hb
    have q1:(b == 94)=false:=by simp;omega
    have q2:(b == 36)=false:=by simp;omega
    have q3:(b == 92)=false:=by simp;omega
    have q4:(b == 46)=false:=by simp;omega
    have q5:(b == 42)=false:=by simp;omega
    have q6:(b == 43)=false:=by simp;omega
    have q7:(b == 63)=false:=by simp;omega
    have q8:(b == 40)=false:=by simp;omega
    have q9:(b == 41)=false:=by simp;omega
    have q10:(b == 91)=false:=by simp;omega
    have q11:(b == 93)=false:=by simp;omega
    have q12:(b == 123)=false:=by simp;omega
    have q13:(b == 125)=false:=by simp;omega
    have q14:(b == 124)=false:=by simp;omega
    have q15:(b == 47)=false:=by simp;omega
    clear HN hb hs2
    generalize hO3:O++S1=O3 at *
    clear hO3
    go_wp2_with fail
    exact ⟨⟨i+1,O3,by go_num,rfl,by omega,hz3,zb HN2,HK⟩,by simp [intOf];omega⟩
  ·obtain rfl:i=s.size:=by omega
   have HE2:Hid (Pl.plF s s.size=O):=(zb HE).symm
   clear HE
   go_wp2_with fail
   go_ret
   exact ⟨by rw [zb HE2];rfl,zb HK⟩
end
section
namespace Pl
open Pro (sign)
def plB (b:UInt8):List UInt8:=if sign (b.toNat:Int)=true then [92,b] else [b]
theorem zd6 (s:ByteArray):∀ i,i≤s.size→(plF s i).data.toList=(s.data.toList.take i).flatMap plB
 |0,_=>rfl
 |i+1,h=>by
  have ih:=zd6 s i (by omega)
  have hz:s.data.toList.length=s.size:=by rw [Array.length_toList];rfl
  have e1:(s.extract i (i+1)).data.toList=[s[i]]:=by
   rw [ByteArray.data_extract,Array.toList_extract]
   simp [List.extract]
   rw [List.drop_eq_getElem_cons (by omega)]
   simp
   rfl
  have e2:s.data.toList.take (i+1)=s.data.toList.take i++[s[i]]:=by
   rw [List.take_succ_eq_append_getElem (by omega)]
   congr 1
  have e3:zd s i=(s[i].toNat:Int):=xZ s i h
  rw [plF,e2,List.flatMap_append,←ih,ByteArray.data_append,Array.toList_append,e1,e3]
  unfold plB
  by_cases hb:sign (s[i].toNat:Int)=true
  ·rw [if_pos hb,ByteArray.data_append,Array.toList_append]
   simp [hb]
  ·rw [if_neg hb]
   simp [hb]
theorem flat_one {c:Int}(hc:Kc.isCharB c=true):(Kc.toB (Kc.encI c)).flatMap plB=(esc c).flatMap (fun x=>Kc.toB (Kc.encI x)):=by
 have hc2:=hc
 unfold Kc.isCharB at hc2
 simp at hc2
 have hb:=Kc.encI_bd hc2.1.1 hc2.1.2
 by_cases c1:c<128
 ·have e:Kc.encI c=[c]:=by unfold Kc.encI;rw [if_pos c1]
  have e9:Kc.encI 92=[92]:=rfl
  have et:((UInt8.ofNat c.toNat).toNat:Int)=c:=by
   rw [UInt8.toNat_ofNat']
   omega
  unfold esc
  by_cases hs:sign c=true
  ·rw [if_pos hs,e]
   simp only [List.flatMap_cons,List.flatMap_nil,e,e9,Kc.toB,List.map_cons,List.map_nil,plB,et,if_pos hs]
   rfl
  ·rw [if_neg hs,e]
   simp only [List.flatMap_cons,List.flatMap_nil,e,Kc.toB,List.map_cons,List.map_nil,plB,et,if_neg hs]
 ·have hs:¬sign c=true:=fun q=>by
   have:=(sign_iff c).1 q
   omega
  have hbig:∀ x∈Kc.encI c,128≤x:=by
   unfold Kc.encI
   rw [if_neg c1]
   intro x hx
   split at hx
   ·simp at hx;omega
   ·split at hx<;>simp at hx<;>omega
  have key:∀ (xs:List Int),(∀ x∈xs,128≤x∧x≤255)→(Kc.toB xs).flatMap plB=Kc.toB xs:=by
   intro xs
   induction xs with
   |nil=>intro _;rfl
   |cons x xs ih=>
    intro h
    have hx:=h x (by simp)
    have et:((UInt8.ofNat x.toNat).toNat:Int)=x:=by
     rw [UInt8.toNat_ofNat']
     omega
    have hsx:¬sign x=true:=fun q=>by
     have:=(sign_iff x).1 q
     omega
    have ih':=ih (fun y hy=>h y (List.mem_cons_of_mem _ hy))
    simp only [Kc.toB,List.map_cons,List.flatMap_cons] at ih' ⊢
    rw [ih']
    simp only [plB,et,if_neg hsx]
    rfl
  unfold esc
  rw [if_neg hs,key _ (fun x hx=>⟨hbig x hx,(hb x hx).2⟩)]
  simp
theorem zef {s:ByteArray}(h:(Ref.zo s).2<0):plF s s.size=ofC (escs (codes s)):=by
 obtain ⟨h1,h2⟩:=ofC_codes h
 apply ByteArray.ext
 apply Array.toList_inj.1
 have hz:s.data.toList.length=s.size:=by rw [Array.length_toList];rfl
 rw [zd6 s s.size (Nat.le_refl _),List.take_of_length_le (by omega),zdY]
 have e:s.data.toList=(codes s).flatMap (fun c=>Kc.toB (Kc.encI c)):=by rw [←zdY,h1]
 rw [e]
 unfold escs
 rw [List.flatMap_assoc,List.flatMap_assoc]
 have:∀ (cs:List Int),(∀ c∈cs,Kc.isCharB c=true)→cs.flatMap (fun c=>(Kc.toB (Kc.encI c)).flatMap plB)=cs.flatMap (fun c=>(esc c).flatMap (fun x=>Kc.toB (Kc.encI x))):=by
  intro cs
  induction cs with
  |nil=>intro _;rfl
  |cons c cs ih=>
   intro h
   rw [List.flatMap_cons,List.flatMap_cons,flat_one (h c (by simp)),ih (fun y hy=>h y (List.mem_cons_of_mem _ hy))]
 exact this _ h2
theorem ofC_app:∀ (a b:List Int),ofC (a++b)=ofC a++ofC b
 | [],b=>by show ofC b=ByteArray.empty++ofC b;rw [ByteArray.empty_append]
 |c :: a,b=>by
  show Kc.encS c++ofC (a++b)=Kc.encS c++ofC a++ofC b
  rw [ofC_app a b,ByteArray.append_assoc]
theorem plain_pat {s:ByteArray}(h:(Ref.zo s).2<0):⟨#[94]⟩++plF s s.size++⟨#[36]⟩=ofC (patC (codes s)):=by
 have e1:ofC [94]=⟨#[94]⟩:=by decide +kernel
 have e2:ofC [36]=⟨#[36]⟩:=by decide +kernel
 rw [zef h,←e1,←e2,←ofC_app,←ofC_app]
 rfl
end Pl
open Sm (Tree)
namespace Pl
open Pro (zf lets good)
def uC (d:Nat):List Int:=92 :: 117 :: 123 :: (codes (Kn.hexS d)++[125])
def uCs (ds:List Nat):List Int:=ds.flatMap uC
theorem uCs_cons (d:Nat)(ds:List Nat):uCs (d :: ds)=uC d++uCs ds:=by unfold uCs;simp
section
variable {L:List (Int×Int)} {len:Int}
theorem u_member {n d:Nat}{r:List Int}(hd:d≤1114111)(h:Are L n (uC d++r)):Pro.zi L len n=good d (n+(uC d).length)∧Pro.many L n=false∧zf L n=92:=by
 have hl:(codes (Kn.hexS d)).length=(Kn.hexS d).size:=by rw [zdX,Kn.hex_len]
 have h0:zf L n=92:=by have:=h 0 92 rfl;rw [Nat.add_zero] at this;exact this
 have h1:zf L (n+1)=117:=h 1 117 rfl
 have h2:zf L (n+2)=123:=h 2 123 rfl
 have h3:Are L (n+3) (codes (Kn.hexS d)++([125]++r)):=by
  have:uC d++r=[92,117,123]++(codes (Kn.hexS d)++([125]++r)):=by unfold uC;simp
  rw [this] at h
  exact h.drop
 have hb:=Kn.zdx (L':=L) (len:=len) (n:=d) (d:=n+3) hd (fun k hk=>by
  obtain ⟨x,hx⟩:∃ x,(codes (Kn.hexS d))[k]?=some x:=⟨_,List.getElem?_eq_getElem (by omega)⟩
  rw [zdU _ hx,Nat.add_comm]
  exact h3 k x (by rw [List.getElem?_append_left (by omega)];exact hx)) (by
  have:=h3.drop 0 125 rfl
  rw [Nat.add_zero,hl,Nat.add_comm] at this
  exact this)
 have hlen:(uC d).length=(Kn.hexS d).size+4:=by unfold uC;simp [hl]
 rw [show n+3+(Kn.hexS d).size+1=n+(uC d).length by omega] at hb
 obtain ⟨_,m1,m2,_⟩:=Pro.esc_u h0 h1 h2 hb
 exact ⟨m1,m2,h0⟩
theorem u_head (ds:List Nat):∃ x r,uCs ds++[93,36]=x :: r∧x≠45∧x≠94:=by
 cases ds with
 |nil=>exact ⟨93,[36],rfl,by decide,by decide⟩
 |cons d ds=>rw [uCs_cons];exact ⟨92,_,rfl,by decide,by decide⟩
theorem zd1:∀ (ds:List Nat) (n f:Nat) (R:List (Int×Int)) (S:List Int),(∀ d∈ds,d≤1114111)→Are L n (uCs ds++[93,36])→Pro.yG L len (f+ds.length+1) n=good 1 (n+(uCs ds).length+1)∧Pro.xM L len (f+ds.length+1) n R S=(R++ds.map (fun (d:Nat)=>((d:Int),(d:Int))),S)
 | [],n,f,R,S,_,h=>by
  have h0:zf L n=93:=by have:=h 0 93 rfl;rw [Nat.add_zero] at this;exact this
  rw [Pro.yG,Pro.xM,if_pos h0,if_pos h0]
  simp [uCs]
 |d :: ds,n,f,R,S,hd,h=>by
  rw [uCs_cons,List.append_assoc] at h
  obtain ⟨m1,m2,m3⟩:=u_member (len:=len) (hd d (by simp)) h
  have hA:=h.drop
  obtain ⟨x,r,e,hx,_⟩:=u_head ds
  have hq:zf L (n+(uC d).length)=x:=by have:=hA 0 x (by rw [e];rfl);rw [Nat.add_zero] at this;exact this
  have hb:Pro.xJ L (n+(uC d).length)=false:=by unfold Pro.xJ;rw [hq];simp [hx]
  have hlt:n<L.length:=Pro.zq (by rw [m3];decide)
  have ha:Pro.addO L len n=good d (n+(uC d).length):=by
   unfold Pro.addO
   rw [m1,Pro.Kg,Pro.Kh,hb]
   simp
  have hR:Pro.addR L len n R=R++[((d:Int),(d:Int))]:=by
   unfold Pro.addR
   rw [m1,Pro.Kh,Pro.Ki,hb,m2]
   simp
  have hS:Pro.addS L len n S=S:=by
   unfold Pro.addS
   rw [m1,Pro.Kh,hb,m2]
   simp
  have ih:=zd1 ds (n+(uC d).length) f (R++[((d:Int),(d:Int))]) S (fun y hy=>hd y (List.mem_cons_of_mem _ hy)) hA
  have c1:Pro.yG L len (f+ds.length+1+1) n=Pro.yG L len (f+ds.length+1) (n+(uC d).length):=by
   rw [Pro.yG,m3,if_neg (by decide),if_neg (by omega),ha,Pro.Kg,Pro.Kh]
   simp
  have c2:Pro.xM L len (f+ds.length+1+1) n R S=Pro.xM L len (f+ds.length+1) (n+(uC d).length) (R++[((d:Int),(d:Int))]) S:=by
   rw [Pro.xM,m3,if_neg (by decide),ha,Pro.Kh,hR,hS]
  rw [List.length_cons,show f+(ds.length+1)+1=f+ds.length+1+1 by omega,c1,c2,ih.1,ih.2,uCs_cons,List.length_append]
  refine ⟨?_,?_⟩
  ·congr 1
   omega
  ·simp
end
theorem uCs_ge (ds:List Nat):ds.length≤(uCs ds).length:=by
 induction ds with
 |nil=>simp [uCs]
 |cons d ds ih=>
  rw [uCs_cons,List.length_append,List.length_cons]
  have:1≤(uC d).length:=by unfold uC;simp
  omega
def clsC (ds:List Nat):List Int:=94 :: 91 :: (uCs ds++[93,36])
theorem zeg (d:Nat):∀ c∈codes (Kn.hexS d),Kc.isCharB c=true:=(ofC_codes (Kn.hex_ch d)).2
theorem zeh (ds:List Nat):∀ x∈clsC ds,Kc.isCharB x=true:=by
 intro x hx
 unfold clsC uCs uC at hx
 simp only [List.mem_cons,List.mem_append,List.mem_flatMap,List.not_mem_nil,or_false] at hx
 rcases hx with rfl |rfl |⟨d,_,rfl |rfl |rfl |hx |rfl⟩ |rfl |rfl
 ·decide
 ·decide
 ·decide
 ·decide
 ·decide
 ·exact zeg d x hx
 ·decide
 ·decide
 ·decide
theorem cls_out {ds:List Nat}(hd:∀ d∈ds,d≤1114111):Pro.Reads (ofC (clsC ds))∧(Pro.zD (ofC (clsC ds))).v=3∧Pro.zE (ofC (clsC ds))=Pro.tAlt [Pro.tSeq [Pro.tAsr 0,Pro.tCls false (ds.map (fun (d:Nat)=>((d:Int),(d:Int)))) [],Pro.tAsr 1]]:=by
 obtain ⟨hch,hcd⟩:=ofC_ch (clsC ds) (zeh ds)
 have hA:Are (lets (ofC (clsC ds))) 0 (clsC ds):=fun k x hk=>by
  rw [Nat.zero_add]
  exact zdU _ (by rw [hcd];exact hk)
 have hl:(lets (ofC (clsC ds))).length=(uCs ds).length+4:=by
  rw [←zdX,hcd]
  unfold clsC
  simp
 generalize ofC (clsC ds)=T at *
 have q0:zf (lets T) 0=94:=hA 0 94 rfl
 have q1:zf (lets T) 1=91:=hA 1 91 rfl
 have hA2:Are (lets T) 2 (uCs ds++[93,36]):=Are.drop (a:=[94,91]) (b:=uCs ds++[93,36]) hA
 obtain ⟨x,r,e,_,hx⟩:=u_head ds
 have q2:zf (lets T) 2=x:=by have:=hA2 0 x (by rw [e];rfl);rw [Nat.add_zero] at this;exact this
 have q3:zf (lets T) ((uCs ds).length+3)=36:=by
  have:=hA2.drop 1 36 rfl
  rw [show 2+(uCs ds).length+1=(uCs ds).length+3 by omega] at this
  exact this
 have hge:=uCs_ge ds
 obtain ⟨f,hf⟩:∃ f,(lets T).length+1-1=f+ds.length+1:=⟨(uCs ds).length+3-ds.length,by omega⟩
 have cm:=zd1 (L:=lets T) (len:=(T.size:Nat)) ds 2 f [] [] hd hA2
 have hP:Pro.qf (lets T) (T.size:Nat) 1=good 1 ((uCs ds).length+3):=by
  unfold Pro.qf
  rw [show (1+1:Nat)=2 from rfl,q2,if_neg hx,hf,cm.1]
  congr 1
  omega
 have hC:Pro.xN (lets T) (T.size:Nat) 1=Pro.tCls false (ds.map (fun (d:Nat)=>((d:Int),(d:Int)))) []:=by
  unfold Pro.xN
  rw [show (1+1:Nat)=2 from rfl,q2,if_neg hx,hf,cm.2]
  simp [hx]
 have s1:Pro.yx (lets T) 1=false:=by unfold Pro.yx;rw [q1,hl];simp
 have ht:=Pro.term_cls (D:=Pro.zl (lets T) (T.size:Nat) 10) (DT:=Pro.zH (lets T) (T.size:Nat) 10) q1 hP q3
 rw [hC] at ht
 exact Pro.mid_out hch q0 s1 ht.1 ht.2 q3 (by omega) (by omega)
theorem hit_cls {ds:List Nat}{c:Int}(hd:∀ d∈ds,d≤1114111)(hz:(ofC (clsC ds)).size≤200)(hc:Kc.isCharB c=true):Hits (ofC (clsC ds)) (Kc.encS c)↔ds.any (fun d=>(d:Int) == c)=true:=by
 obtain ⟨a,b,t⟩:=cls_out hd
 rw [Kn.hit_leaf ⟨hz,a,by rw [b];decide⟩ t (Kn.leaf_k (by decide) (by decide)) hc]
 simp [Eqv.ZM,Pro.tCls,Eqv.wN,Eqv.inSp]
 constructor
 ·rintro ⟨d,h1,h2,h3⟩
  exact ⟨d,h1,by omega⟩
 ·rintro ⟨d,h1,h2⟩
  exact ⟨d,h1,by omega,by omega⟩
end Pl
end
section
open Go.RowKit
set_option maxHeartbeats 16000000
set_option maxRecDepth 1000000
namespace Pl
theorem ofC_size (cs:List Int):cs.length≤(ofC cs).size:=by
 induction cs with
 |nil=>simp
 |cons c cs ih=>
  have:=(Kn.enc_len c).1
  have hz:=Kn.enc_size c
  show _≤(Kc.encS c++ofC cs).size
  rw [ByteArray.size_append,List.length_cons]
  omega
theorem row_int {w:World}{base:Nat}{v:Value}{n:Nat}{xs:List Int}(h:w.ownsRow base 3 1 v n (qH xs)):∃ a c,v = .slice a n c∧∀ (j:Nat) u,xs[j]?=some u→∃ g,a=some ⟨g,0,none⟩∧w.cell? ⟨g,j,none⟩=some (.int .i64 u):=by
 have hx:=h.1
 have hl:(qH xs).length=xs.length:=by unfold qH;simp
 rcases h.2 with ⟨rfl,rfl⟩ |⟨g,cap,cur,rfl,hbg,hg,hnc,hcm,hcs,htake⟩
 ·exact ⟨none,0,rfl,fun j u hj=>by have:=(List.getElem?_eq_some_iff.1 hj).1;omega⟩
 ·exact ⟨_,cap,rfl,fun j u hj=>⟨g,rfl,(h.cellAt _ (by have:=(List.getElem?_eq_some_iff.1 hj).1;omega)).trans (by unfold qH;rw [List.getElem?_map,hj];rfl)⟩⟩
def clB (ds:List Nat):ByteArray:=ofC (94 :: 91 :: uCs ds)
theorem clB_next (ds:List Nat)(d:Nat):clB ds++⟨#[92,117,123]⟩++Kn.hexS d++⟨#[125]⟩=clB (ds++[d]):=by
 have e1:ofC [92,117,123]=⟨#[92,117,123]⟩:=by decide +kernel
 have e2:ofC [125]=⟨#[125]⟩:=by decide +kernel
 have e3:=(ofC_codes (Kn.hex_ch d)).1
 unfold clB
 rw [←e1,←e2,←e3,←ofC_app,←ofC_app,←ofC_app]
 congr 1
 unfold uCs
 simp [uC]
theorem clB_end (ds:List Nat):clB ds++⟨#[93,36]⟩=ofC (clsC ds):=by
 have e1:ofC [93,36]=⟨#[93,36]⟩:=by decide +kernel
 unfold clB clsC
 rw [←e1,←ofC_app]
 rfl
theorem eq_bytes {s t:ByteArray}(hs:(Ref.zo s).2<0)(ht:(Ref.zo t).2<0):codes t=codes s↔(s.toList == t.toList)=true:=by
 constructor
 ·intro h
  have:=zeb ht hs h
  subst this
  simp
 ·intro h
  by_cases e:s=t
  ·rw [e]
  ·rw [beqB_ne e] at h
   cases h
end Pl
theorem plainLaw (s t:ByteArray)(c:Int)(w:World)(a:Nat→Addr)(hB:wd w a w.heap.size)(hs:s.size≤1099511627776)(ht:t.size≤1099511627776)(_:-9223372036854775808≤c)(_:c≤9223372036854775807) :
  Calls Tryz.prog 10 #[.string s,.string t,.int .i64 c] w fun x w'=>x = .returned (.bool true)∧ze (fun _=>False) w w':=by
 have HB:=zc hB
 have HSu:=zc (wg w a _ hB)
 have hpz:=Pl.plF_size s s.size (Nat.le_refl _)
 have HPl:=zc (fun V=>zd9 s V hs)
 have HCs:=zc (fun V=>Qb s V hs)
 have HI1:=zc (fun V=>Xe s V hs)
 have HI2:=zc (fun V=>Xe t V ht)
 have HCh:=zc Xc
 have HPat:Hid (Kc.textB s=true→Kc.textB t=true→∀ P,P=⟨#[94]⟩++Pl.plF s s.size++⟨#[36]⟩→P.size≤200→(Hits P s↔true=true)∧(Hits P t↔(s.toList == t.toList)=true)):=by
  intro h1 h2 P hP hz
  have hc1:=(text_of h1).1
  have hc2:=(text_of h2).1
  rw [Pl.plain_pat hc1] at hP
  subst hP
  have hn:(Pl.codes s).length≤200:=by
   have:=Pl.ofC_size (Pl.patC (Pl.codes s))
   have h3:=Pl.escs_ge (Pl.codes s)
   unfold Pl.patC at this hz
   simp at this
   omega
  refine ⟨?_,?_⟩
  ·rw [Pl.hit_plain (Pl.ofC_codes hc1).2 hz hn h1]
   simp
  ·rw [Pl.hit_plain (Pl.ofC_codes hc1).2 hz hn h2]
   exact Pl.eq_bytes hc1 hc2
 have hlenS:(Ref.zo s).1.length=(Pl.codes s).length:=by rw [←Pl.codes_tx];simp
 have hcsl:=Ref.xh s
 clear hB
 obtain ⟨A0,hA0⟩:∃ A,A=Pl.plF s s.size:=⟨_,rfl⟩
 obtain ⟨A1,hA1⟩:∃ A,A=⟨#[94]⟩++Pl.plF s s.size:=⟨_,rfl⟩
 obtain ⟨P,hP⟩:∃ P,P=⟨#[94]⟩++Pl.plF s s.size++⟨#[36]⟩:=⟨_,rfl⟩
 have z1:A1.size≤2*s.size+1:=by rw [hA1,ByteArray.size_append];show 1+_≤_;omega
 have z2:P.size≤2*s.size+2:=by rw [hP,←hA1,ByteArray.size_append];show _+1≤_;omega
 have k1:∀ V:World,(Op.stringOp .add ⟨#[94]⟩ A0).run Tryz.prog V = .ok (.string A1) V:=fun V=>by rw [hA1,hA0];exact run_string_add_sum V _ _ (by show 1+_≤_;omega)
 have k2:∀ V:World,(Op.stringOp .add A1 ⟨#[36]⟩).run Tryz.prog V = .ok (.string P) V:=fun V=>by rw [hP,←hA1];exact run_string_add_sum V _ _ (by show _+1≤_;omega)
 have HPt:=zc (fun h1 h2 hz=>zb HPat h1 h2 P hP hz)
 rw [←hA0] at HPl
 clear hA0 hA1 hP HPat hpz
 go_enter Tryz.func10,Tryz.ntmps10
 go_wp2_with (go_at_call 14;refine (zb HSu).mono ?_;rintro e w1 ⟨rfl,hO1⟩;refine zb ?_)
 refine zc ?_
 have HO1:=zc hO1
 clear hO1 HSu
 go_wp2_with (go_at_call 35;refine (zb HI1 w1).mono ?_;rintro e w2 ⟨rfl,hO2⟩;refine zb ?_)
 refine zc ?_
 have HO2:=zc ((zb HO1).trans hO2)
 clear hO2 HO1 HI1
 go_wp2_with (go_at_call 35;refine (zb HI2 w2).mono ?_;rintro e w3 ⟨rfl,hO3⟩;refine zb ?_)
 refine zc ?_
 have HO3:=zc ((zb HO2).trans hO3)
 clear hO3 HO2 HI2
 go_wp2_with (go_at_call 36;refine (zb HPl w3).mono ?_;rintro e w4 ⟨rfl,hO4⟩;refine zb ?_)
 refine zc ?_
 have HO4:=zc ((zb HO3).trans hO4)
 clear hO4 HO3 HPl
 cases hTs:Kc.textB s with
 |false=>
  generalize Kc.textB t=b at *
  cases b
  all_goals go_wp2_with fail
  all_goals go_ret
  all_goals exact ⟨rfl,zb HO4⟩
 |true=>
  cases hTt:Kc.textB t with
  |false=>
   go_wp2_with fail
   go_ret
   exact ⟨rfl,zb HO4⟩
  |true=>
   by_cases hz:200<P.size
   ·have d1:decide ((200:Int)<(P.size:Int))=true:=by simp;omega
    go_wp2_with fail
    go_ret
    exact ⟨rfl,zb HO4⟩
   ·have d1:decide ((200:Int)<(P.size:Int))=false:=by simp;omega
    obtain ⟨hx,hy⟩:=zb HPt hTs hTt (by omega)
    have hsz:=(text_of hTs).2
    have hcS:=(text_of hTs).1
    have M1:=zc (fun (V:World) (hV:ze (fun _=>False) w V)=>zdI (b:=true) (by simpa using hx) V a w.heap.size ((zb HB).keep hV (fun _ f=>f.elim)))
    have M2:=zc (fun (V:World) (hV:ze (fun _=>False) w V)=>zdI hy V a w.heap.size ((zb HB).keep hV (fun _ f=>f.elim)))
    clear hx hy HPt
    generalize hq:(s.toList == t.toList)=q at *
    have Hq:=zc hq
    clear hq
    have HcS:=zc hcS
    clear hcS hTs hTt
    go_wp2_with (go_at_call 33;refine (zb M1 w4 (zb HO4)).mono ?_;rintro e w5 ⟨rfl,hO5⟩;refine zb ?_)
    refine zc ?_
    have HO5:=zc ((zb HO4).trans hO5)
    clear hO5 HO4 M1
    go_wp2_with (go_at_call 33;refine (zb M2 w5 (zb HO5)).mono ?_;rintro e w6 ⟨rfl,hO6⟩;refine zb ?_)
    refine zc ?_
    have HO6:=zc ((zb HO5).trans hO6)
    clear hO6 HO5 M2
    have g1:(q != q)=false:=by simp
    have g2:(s.toList == t.toList)=q:=zb Hq
    cases hcc:Kc.isCharB c with
    |false=>
     have HC:=zb HCh c w6
     rw [hcc] at HC
     have HC:=zc HC
     go_wp2_with (go_at_call 27;refine (zb HC).mono ?_;rintro e wq ⟨rfl,hwq⟩;obtain rfl:=hwq.symm;clear hwq)
     all_goals go_ret
     all_goals exact ⟨rfl,zb HO6⟩
    |true=>
     have HC:=zb HCh c w6
     rw [hcc] at HC
     have HC:=zc HC
     have Hcc:=zc hcc
     clear hcc
     go_wp2_with (go_at_call 27;refine (zb HC).mono ?_;rintro e wq ⟨rfl,hwq⟩;obtain rfl:=hwq.symm;clear hwq;refine zb ?_)
     refine zc ?_
     go_wp2_with (go_at_call 17;refine (zb HCs w6).mono ?_;rintro e w7 ⟨v,rfl,hrow,hO7⟩;refine zb ?_)
     refine zc ?_
     have HO7:=zc ((zb HO6).trans hO7)
     rw [hlenS,show (Ref.zo s).1.map Prod.fst=Pl.codes s from Pl.codes_tx s] at hrow
     obtain ⟨va,vc,rfl,hcell⟩:=Pl.row_int hrow
     obtain ⟨ds,hds⟩:∃ ds:List Nat,ds=(Pl.codes s).map Int.toNat:=⟨_,rfl⟩
     have hcd:=(Pl.ofC_codes (zb HcS)).2
     have hbd:∀ x∈Pl.codes s,0≤x∧x≤1114111:=fun x hx=>by
      have h:=hcd x hx
      unfold Kc.isCharB at h
      simp at h
      omega
     have Hd:Hid (∀ d∈ds,d≤1114111):=by
      intro d hd
      rw [hds] at hd
      obtain ⟨x,hx,rfl⟩:=List.mem_map.1 hd
      have:=hbd x hx
      omega
     have hdl:ds.length=(Pl.codes s).length:=by rw [hds];simp
     have HCell:Hid (∀ (j:Nat) (d:Nat),ds[j]?=some d→∃ g,va=some ⟨g,0,none⟩∧w7.cell? ⟨g,j,none⟩=some (.int .i64 (d:Int))):=by
      intro j d hj
      rw [hds,List.getElem?_map] at hj
      cases e:(Pl.codes s)[j]? with
      |none=>rw [e] at hj;cases hj
      |some u=>
       rw [e] at hj
       have hj2:u.toNat=d:=by simpa using hj
       have hu:=hbd u (List.mem_of_getElem? e)
       obtain ⟨g,h1,h2⟩:=hcell j u e
       refine ⟨g,h1,?_⟩
       rw [h2,←hj2,Int.toNat_of_nonneg hu.1]
     rw [←hdl]
     have hn4:ds.length≤400:=by omega
     clear hrow hcell hO7 HO6 HC HCs HCh hds hcd hbd hdl hlenS hcsl
     have HMc:Hid (∀ (K:ByteArray),K=Pl.ofC (Pl.clsC ds)→K.size≤200→∀ (V:World),ze (fun _=>False) w V→Calls Tryz.prog 33 #[.string K,.string (Kc.encS c)] V fun x w'=>x = .returned (.bool (ds.any (fun d=>(d:Int) == c)))∧ze (fun _=>False) V w'):=fun K hK hz V hV=>by
      subst hK
      exact zdI (Pl.hit_cls (zb Hd) hz (zb Hcc)) V a w.heap.size ((zb HB).keep hV (fun _ f=>f.elim))
     have hc0:0≤c∧c≤1114111:=by
      have h:=zb Hcc
      unfold Kc.isCharB at h
      simp at h
      omega
     have HEn:=zc (fun V=>ZY c V hc0.1 hc0.2)
     clear hc0 Hcc HcS
     go_wp2_with fail
     go_loopw [18,19,20] (fun bv kv iv wr=>∃ (i:Nat) (b:Bool) (K:ByteArray),iv = .int .i64 i∧bv = .bool b∧kv = .string K∧i≤ds.length∧K.size≤2+10*i∧Hid (K=Pl.clB (ds.take i))∧Hid (b=(ds.take i).any (fun d=>(d:Int) == c))∧Hid (ze (fun _=>False) w wr)∧Hid (ze (fun _=>False) w7 wr)) (fun _ _ iv _=>ds.length-(intOf iv).toNat)
     case atStart=>exact ⟨0,false,⟨#[94,91]⟩,rfl,rfl,rfl,by omega,by decide,(by show _=_;rw [List.take_zero];decide +kernel),(by show _=_;rw [List.take_zero];rfl),HO7,ze.refl _ _⟩
     case round=>
      clear HO7
      obtain ⟨i,b,K,rfl,rfl,rfl,hi,hK,HK,Hb,HO8,HO9⟩:=hrel
      obtain ⟨wo,rfl⟩:∃ W,W=wr:=⟨_,rfl⟩
      by_cases hlt:i<ds.length
      ·have hdi:=List.getElem?_eq_getElem hlt
       obtain ⟨g,rfl,hcl⟩:=zb HCell i _ hdi
       have c1:=zg (zb HO9) _ _ hcl (fun f=>f)
       have hd:=zb Hd ds[i] (List.getElem_mem hlt)
       have HHx:=zc (zdL ds[i] hd wo)
       have h6:=Kn.hex_six hd
       have HKn:Hid (K++⟨#[92,117,123]⟩++Kn.hexS ds[i]++⟨#[125]⟩=Pl.clB (ds.take (i+1))):=by
        show _=_
        rw [zb HK,Pl.clB_next,List.take_succ_eq_append_getElem hlt]
       have Hbn:Hid ((ds.take (i+1)).any (fun d=>(d:Int) == c)=(b ||((ds[i]:Int) == c))):=by
        show _=_
        rw [List.take_succ_eq_append_getElem hlt,List.any_append,zb Hb]
        simp
       have b1:(0:Int)≤(i:Int):=by omega
       have b2:(i:Int)<(ds.length:Int):=by omega
       clear hcl HCell HK Hb Hd HMc HEn hd hdi
       generalize ds[i]=d at *
       generalize hH:Kn.hexS d=H at *
       have z1':(K++⟨#[92,117,123]⟩).size=K.size+3:=by rw [ByteArray.size_append];rfl
       have z2':(K++⟨#[92,117,123]⟩++H).size=K.size+3+H.size:=by rw [ByteArray.size_append,z1']
       have z3':(K++⟨#[92,117,123]⟩++H++⟨#[125]⟩).size≤2+10*(i+1):=by rw [ByteArray.size_append,z2'];show _+1≤_;omega
       have k3:∀ V:World,(Op.stringOp .add K ⟨#[92,117,123]⟩).run Tryz.prog V = .ok (.string (K++⟨#[92,117,123]⟩)) V:=fun V=>run_string_add_sum V _ _ (by show _+3≤_;omega)
       have k4:∀ V:World,(Op.stringOp .add (K++⟨#[92,117,123]⟩) H).run Tryz.prog V = .ok (.string (K++⟨#[92,117,123]⟩++H)) V:=fun V=>run_string_add_sum V _ _ (by rw [z1'];omega)
       have k5:∀ V:World,(Op.stringOp .add (K++⟨#[92,117,123]⟩++H) ⟨#[125]⟩).run Tryz.prog V = .ok (.string (K++⟨#[92,117,123]⟩++H++⟨#[125]⟩)) V:=fun V=>run_string_add_sum V _ _ (by rw [z2'];show _+1≤_;omega)
       clear z1' z2' hH
       generalize hK1:K++⟨#[92,117,123]⟩=K1 at *
       generalize hK2:K1++H=K2 at *
       generalize hK3:K2++⟨#[125]⟩=K3 at *
       clear hK1 hK2 hK3
       cases b
       ·have Hb2:Hid (((d:Int) == c)=(ds.take (i+1)).any (fun d=>(d:Int) == c)):=by show _=_;rw [zb Hbn];simp
        clear Hbn
        go_wp2_with (go_at_call 34;refine (zb HHx).mono ?_;rintro e w8 ⟨rfl,hO8⟩;have HO10:=zc ((zb HO8).trans hO8);have HO11:=zc ((zb HO9).trans hO8);clear hO8)
        exact ⟨⟨i+1,_,K3,by go_num,rfl,rfl,by omega,z3',zb HKn,zb Hb2,HO10,HO11⟩,by simp [intOf];omega⟩
       ·have Hb2:Hid (true=(ds.take (i+1)).any (fun d=>(d:Int) == c)):=by show _=_;rw [zb Hbn];simp
        clear Hbn
        go_wp2_with (go_at_call 34;refine (zb HHx).mono ?_;rintro e w8 ⟨rfl,hO8⟩;have HO10:=zc ((zb HO8).trans hO8);have HO11:=zc ((zb HO9).trans hO8);clear hO8)
        exact ⟨⟨i+1,_,K3,by go_num,rfl,rfl,by omega,z3',zb HKn,zb Hb2,HO10,HO11⟩,by simp [intOf];omega⟩
      ·obtain rfl:i=ds.length:=by omega
       have b2:¬(ds.length:Int)<(ds.length:Int):=by omega
       have hKf:K++⟨#[93,36]⟩=Pl.ofC (Pl.clsC ds):=by rw [zb HK,List.take_length,Pl.clB_end]
       have hbf:b=ds.any (fun d=>(d:Int) == c):=by rw [zb Hb,List.take_length]
       have zf:(K++⟨#[93,36]⟩).size=K.size+2:=by rw [ByteArray.size_append];rfl
       have hw8:IntKind.i64.wrap ((K.size:Int)+2)=(K.size:Int)+2:=yY _ (by omega) (by omega)
       have k6:∀ V:World,(Op.stringOp .add K ⟨#[93,36]⟩).run Tryz.prog V = .ok (.string (K++⟨#[93,36]⟩)) V:=fun V=>run_string_add_sum V _ _ (by show _+2≤_;omega)
       have HMk:Hid ((K++⟨#[93,36]⟩).size≤200→∀ (V:World),ze (fun _=>False) w V→Calls Tryz.prog 33 #[.string (K++⟨#[93,36]⟩),.string (Kc.encS c)] V fun x w'=>x = .returned (.bool b)∧ze (fun _=>False) V w'):=by
        intro hz V hV
        have h:=zb HMc _ hKf hz V hV
        rw [←hbf] at h
        exact h
       clear HMc HK Hb HCell Hd hKf hbf
       by_cases h200:200<K.size+2
       ·have d8:decide ((200:Int)<(K.size:Int)+2)=true:=by simp;omega
        clear HMk
        go_wp2_with fail
        go_ret
        exact ⟨rfl,zb HO8⟩
       ·have d8:decide ((200:Int)<(K.size:Int)+2)=false:=by simp;omega
        have HMk2:=zc (zb HMk (by omega))
        clear HMk zf
        generalize hKK:K++⟨#[93,36]⟩=KK at *
        clear hKK
        generalize hEE:Kc.encS c=EE at *
        clear hEE
        go_wp2_with (go_at_call 28;refine (zb HEn wo).mono ?_;rintro e w8 ⟨rfl,hO10⟩;refine zb ?_)
        refine zc ?_
        have HO10:=zc ((zb HO8).trans hO10)
        have HA9:=zc (zb HMk2 w8 (zb HO10))
        clear hO10 HO8 HO9 HMk2 HEn
        go_wp2_with (go_at_call 33;refine (zb HA9).mono ?_;rintro e w9 ⟨rfl,hO11⟩;have HO11:=zc ((zb HO10).trans hO11);clear hO11)
        go_ret
        exact ⟨by first |rfl |simp,zb HO11⟩
end
end Go.Proofs.YtfnkbmglodopkaaGreatDoor
