/- A text as a pattern of itself: how it is read. -/
import Derived.Test.YtfnkbmglodopkaaGreatDoorUKnAKnF
namespace Go.Proofs.YtfnkbmglodopkaaGreatDoor
section
open Sm (Tree)
namespace Pl
open Pro (zf good sign)
def esc (c:Int):List Int:=if sign c=true then [92,c] else [c]
def escs (cs:List Int):List Int:=cs.flatMap esc
theorem zdV (c:Int)(cs:List Int):escs (c :: cs)=esc c++escs cs:=by unfold escs;simp
theorem sign_iff (c:Int):sign c=true↔c=94∨c=36∨c=92∨c=46∨c=42∨c=43∨c=63∨c=40∨c=41∨c=91∨c=93∨c=123∨c=125∨c=124∨c=47:=by
 unfold sign
 simp
 omega
theorem head_ok (cs:List Int):∃ x r,escs cs++[36]=x :: r∧x≠42∧x≠43∧x≠63∧x≠123:=by
 cases cs with
 |nil=>exact ⟨36,[],rfl,by decide,by decide,by decide,by decide⟩
 |cons c cs=>
  rw [zdV]
  unfold esc
  by_cases h:sign c=true
  ·rw [if_pos h]
   exact ⟨92,_,rfl,by decide,by decide,by decide,by decide⟩
  ·rw [if_neg h]
   have:=mt (sign_iff c).2 h
   exact ⟨c,_,rfl,by omega,by omega,by omega,by omega⟩
section
variable {L:List (Int×Int)} {len:Int} {D:Nat→Pro.Out} {DT:Nat→Tree}
def Are (L:List (Int×Int))(n:Nat)(xs:List Int):Prop:=∀ (k:Nat) x,xs[k]?=some x→zf L (n+k)=x
theorem Are.drop {n:Nat}{a b:List Int}(h:Are L n (a++b)):Are L (n+a.length) b:=fun k x hk=>by
 have:=h (a.length+k) x (by rw [List.getElem?_append_right (by omega),Nat.add_sub_cancel_left];exact hk)
 rw [Nat.add_assoc]
 exact this
theorem quant_no {m:Nat}(h:zf L m≠42∧zf L m≠43∧zf L m≠63∧zf L m≠123):(Pro.zu L len m).1=false:=by
 unfold Pro.zu
 rw [if_neg h.1,if_neg h.2.1,if_neg h.2.2.1,if_neg h.2.2.2]
theorem term_esc {n:Nat}{c:Int}{cs:List Int}(h:Are L n (escs (c :: cs)++[36])):Pro.zV L len D n=good 1 (n+(esc c).length)∧Pro.xO L len D DT n=Pro.qK c∧zf L n≠124∧zf L n≠41:=by
 rw [zdV,List.append_assoc] at h
 have hd:=h.drop
 obtain ⟨x,r,e,hx⟩:=head_ok cs
 have hq:zf L (n+(esc c).length)=x:=by have:=hd 0 x (by rw [e];rfl);rw [Nat.add_zero] at this;exact this
 have hQ:=quant_no (len:=len) (by rw [hq];exact hx)
 by_cases hs:sign c=true
 ·have ee:esc c=[92,c]:=by unfold esc;rw [if_pos hs]
  have hs2:=(sign_iff c).1 hs
  rw [ee] at h hQ ⊢
  have h0:zf L n=92:=by have:=h 0 92 rfl;rw [Nat.add_zero] at this;exact this
  have h1:zf L (n+1)=c:=h 1 c rfl
  have hn:Pro.numO L len (n+1)=good c (n+2):=by
   have hc9:Pro.ctlV c = -1:=by
    unfold Pro.ctlV
    rw [if_neg (by omega),if_neg (by omega),if_neg (by omega),if_neg (by omega),if_neg (by omega)]
   unfold Pro.numO
   rw [h1,if_pos (by unfold Pro.wy;rw [hs];simp)]
   unfold Pro.wz
   rw [hc9,if_neg (by decide)]
  have hst:Pro.setB c=false:=by
   cases hb:Pro.setB c
   ·rfl
   ·unfold Pro.setB at hb;simp at hb;omega
  have hbk:Pro.VE c=false:=by
   cases hb:Pro.VE c
   ·rfl
   ·unfold Pro.VE at hb;simp at hb;omega
  have he:Pro.escO L len n=good c (n+2):=by
   unfold Pro.escO
   rw [h1,hst,hbk,hn]
   simp
  have ha:Pro.asN L n=0:=by
   unfold Pro.asN
   rw [h0,h1]
   rw [if_neg (by decide),if_neg (by omega)]
  have ho:Pro.zL L len D n=good 1 (n+2):=by
   unfold Pro.zL
   rw [h0,if_neg (by decide),if_neg (by decide),if_neg (by decide),if_pos rfl,he]
   rfl
  have ht:Pro.xk L len DT n=Pro.qK c:=by
   unfold Pro.xk
   rw [h0,h1,he,hst,if_neg (by decide),if_neg (by decide),if_pos rfl]
   rfl
  have hQ2:(Pro.zu L len (n+2)).1=false:=hQ
  refine ⟨?_,?_,by rw [h0];decide,by rw [h0];decide⟩
  ·unfold Pro.zV
   rw [ha,ho,Pro.Kg,Pro.Kh,hQ2]
   simp
  ·unfold Pro.xO
   rw [ha,ho,Pro.Kh,hQ2,ht]
   simp
 ·have ee:esc c=[c]:=by unfold esc;rw [if_neg hs]
  have hs2:=mt (sign_iff c).2 hs
  rw [ee] at h hQ ⊢
  have h0:zf L n=c:=by have:=h 0 c rfl;rw [Nat.add_zero] at this;exact this
  have ha:Pro.asN L n=0:=by
   unfold Pro.asN
   rw [h0]
   rw [if_neg (by omega),if_neg (by omega)]
  have hw:Pro.ZI c=false:=by
   cases hb:Pro.ZI c
   ·rfl
   ·unfold Pro.ZI at hb;simp at hb;omega
  have ho:Pro.zL L len D n=good 1 (n+1):=by
   unfold Pro.zL
   rw [h0,hw,if_neg (by decide),if_neg (by omega),if_neg (by omega),if_neg (by omega)]
  have ht:Pro.xk L len DT n=Pro.qK c:=by
   unfold Pro.xk
   rw [h0,if_neg (by omega),if_neg (by omega),if_neg (by omega),if_neg (by omega)]
  have hQ2:(Pro.zu L len (n+1)).1=false:=hQ
  refine ⟨?_,?_,by rw [h0];omega,by rw [h0];omega⟩
  ·unfold Pro.zV
   rw [ha,ho,Pro.Kg,Pro.Kh,hQ2]
   simp
  ·unfold Pro.xO
   rw [ha,ho,Pro.Kh,hQ2,ht]
   simp
theorem zd3:∀ (cs:List Int) (n f:Nat) (s:Int) (ts:List Tree),Are L n (escs cs++[36])→n+(escs cs).length<L.length→0≤s→s+cs.length≤301→Pro.yp L len D (f+cs.length) s n=Pro.yp L len D f (s+cs.length) (n+(escs cs).length)∧Pro.xt L len D DT (f+cs.length) ts n=Pro.xt L len D DT f (ts++cs.map Pro.qK) (n+(escs cs).length)
 | [],n,f,s,ts,_,_,_,_=>by simp [escs]
 |c :: cs,n,f,s,ts,h,hn,h0,hs=>by
  obtain ⟨t1,t2,t3,t4⟩:=term_esc (len:=len) (D:=D) (DT:=DT) h
  have hst:Pro.yx L n=false:=by
   unfold Pro.yx
   have:¬L.length≤n:=by omega
   simp [this,t3,t4]
  have hA:Are L (n+(esc c).length) (escs cs++[36]):=by
   rw [zdV,List.append_assoc] at h
   exact h.drop
  have hl:(escs (c :: cs)).length=(esc c).length+(escs cs).length:=by rw [zdV,List.length_append]
  have hst2:=Pro.yh (len:=len) (D:=D) (DT:=DT) (f:=f+cs.length) (s:=s) (ts:=ts) hst t1
  simp only [List.length_cons] at hs
  have ih:=zd3 cs (n+(esc c).length) f (s+1) (ts++[Pro.qK c]) hA (by omega) (by omega) (by omega)
  rw [List.length_cons,show f+(cs.length+1)=f+cs.length+1 by omega,hst2.1,hst2.2,t2,show min (s+1) 301=s+1 by omega,ih.1,ih.2,hl]
  refine ⟨?_,?_⟩
  ·congr 1
   ·omega
   ·omega
  ·congr 1
   ·simp
   ·omega
end
end Pl
namespace Pl
open Pro (zf lets good sign)
def ofC:List Int→ByteArray
 | []=>ByteArray.empty
 |c :: cs=>Kc.encS c++ofC cs
def codes (s:ByteArray):List Int:=(lets s).map (·.2)
theorem enc_lets {c:Int}(hc:Kc.isCharB c=true):(lets (Kc.encS c)).map (·.2)=[c]:=by
 have h:=(Prg.yj.of (Kc.encS c)).map
 rw [Kn.zdz hc] at h
 have h2:=congrArg (List.map Prod.fst) h
 simp at h2
 have e:lets (Kc.encS c)=Pro.letM (Kc.encS c) ((Kc.encS c).size+1) 0:=rfl
 rw [e]
 rcases hL:Pro.letM (Kc.encS c) ((Kc.encS c).size+1) 0 with _ |⟨x,r⟩
 ·rw [hL] at h2;simp at h2
 ·rw [hL] at h2
  simp at h2 ⊢
  exact ⟨h2.1.symm,h2.2⟩
theorem ofC_ch:∀ (cs:List Int),(∀ c∈cs,Kc.isCharB c=true)→(Ref.zo (ofC cs)).2<0∧codes (ofC cs)=cs
 | [],_=>by
  refine ⟨by decide +kernel,?_⟩
  decide +kernel
 |c :: cs,h=>by
  obtain ⟨h1,h2⟩:=ofC_ch cs (fun x hx=>h x (List.mem_cons_of_mem _ hx))
  have hc:=h c (by simp)
  have hce:(Ref.zo (Kc.encS c)).2<0:=by rw [Kn.zdz hc];exact (show (-1:Int)<0 by decide)
  have e0:=Pro.jG ((At.refl (Kc.encS c)).left (ofC cs)) hce
  have e1:=Pro.jG (At.right (Kc.encS c) (ofC cs)) h1
  have z:Pro.letF (Kc.encS c++ofC cs) ((Kc.encS c).size+(ofC cs).size)=[]:=Pro.Vm _ (by rw [ByteArray.size_append];exact Nat.le_refl _)
  rw [z,List.append_nil] at e1
  rw [Nat.zero_add,e1,Pro.Jh] at e0
  constructor
  ·unfold ofC
   rw [Ref.Z3]
   have g2:Ref.Good (Kc.encS c++ofC cs) (Kc.encS c).size:=by
    refine Ref.Good.app (At.right _ _) h1 ?_
    have:=Ref.Good.fin (Kc.encS c++ofC cs)
    rw [ByteArray.size_append] at this
    exact this
   exact Ref.Good.app ((At.refl _).left _) hce (by rw [Nat.zero_add];exact g2)
  ·have e3:codes (ofC (c :: cs))=(Pro.sft 0 (lets (Kc.encS c))++Pro.sft (Kc.encS c).size (lets (ofC cs))).map (·.2):=by
    show (lets (Kc.encS c++ofC cs)).map (·.2)=_
    rw [e0]
   have e4:∀ d L,(Pro.sft d L).map (·.2)=L.map (·.2):=fun d L=>by unfold Pro.sft;simp
   rw [e3,List.map_append,e4,e4,enc_lets hc]
   show [c]++codes (ofC cs)=_
   rw [h2]
   rfl
theorem zdU (s:ByteArray){k:Nat}{x:Int}(h:(codes s)[k]?=some x):zf (lets s) k=x:=by
 unfold codes at h
 rw [List.getElem?_map] at h
 unfold zf
 cases e:(lets s)[k]? with
 |none=>rw [e] at h;cases h
 |some p=>rw [e] at h;simpa using h
theorem zdX (s:ByteArray):(codes s).length=(lets s).length:=by unfold codes;simp
theorem zdY:∀ (cs:List Int),(ofC cs).data.toList=cs.flatMap (fun c=>Kc.toB (Kc.encI c))
 | []=>rfl
 |c :: cs=>by
  have ih:=zdY cs
  show (Kc.encS c++ofC cs).data.toList=_
  rw [ByteArray.data_append,Array.toList_append,ih]
  simp [Kc.encS]
theorem zd4 {s:ByteArray}:∀ (f p:Nat),s.size<p+f→Ref.Good s p→s.data.toList.drop p=((Pro.letM s f p).map (·.2)).flatMap (fun c=>Kc.toB (Kc.encI c))∧∀ c∈(Pro.letM s f p).map (·.2),Kc.isCharB c=true
 |0,p,hf,hg=>by have:=hg.le;omega
 |f+1,p,hf,hg=>by
  have hz:s.data.toList.length=s.size:=by rw [Array.length_toList];rfl
  by_cases hp:p<s.size
  ·obtain ⟨n,c,h1,hg2⟩:=hg.next hp
   obtain ⟨n1,n4,hpn,hv,hc,he⟩:=Kc.of_one h1
   have r1:Pro.yi s p=some (p+n,c):=by rw [Eqv.jE hp,h1];rfl
   obtain ⟨ih1,ih2⟩:=zd4 f (p+n) (by omega) hg2
   have hb:=Kc.Xd (s:=s) n p hpn
   simp only [Pro.letM,r1,List.map_cons,List.flatMap_cons]
   constructor
   ·rw [he,hb,←ih1,←List.drop_drop]
    exact (List.take_append_drop n (s.data.toList.drop p)).symm
   ·intro x hx
    rcases List.mem_cons.1 hx with rfl |hx
    ·exact hc
    ·exact ih2 x hx
  ·have:=hg.le
   rw [Pro.vd (by omega),List.drop_of_length_le (by omega)]
   simp
theorem ofC_codes {s:ByteArray}(h:(Ref.zo s).2<0):ofC (codes s)=s∧∀ c∈codes s,Kc.isCharB c=true:=by
 obtain ⟨h1,h2⟩:=zd4 (s:=s) (s.size+1) 0 (by omega) (Ref.Z3.1 h)
 refine ⟨?_,h2⟩
 apply ByteArray.ext
 apply Array.toList_inj.1
 rw [zdY]
 rw [List.drop_zero] at h1
 exact h1.symm
theorem zeb {s t:ByteArray}(hs:(Ref.zo s).2<0)(ht:(Ref.zo t).2<0)(h:codes s=codes t):s=t:=by
 rw [←(ofC_codes hs).1,←(ofC_codes ht).1,h]
theorem esc_char {c:Int}(h:Kc.isCharB c=true):∀ x∈esc c,Kc.isCharB x=true:=by
 intro x hx
 unfold esc at hx
 split at hx
 ·simp at hx
  rcases hx with rfl |rfl
  ·decide
  ·exact h
 ·simp at hx
  subst hx
  exact h
theorem zec {cs:List Int}(h:∀ c∈cs,Kc.isCharB c=true):∀ x∈escs cs,Kc.isCharB x=true:=by
 intro x hx
 unfold escs at hx
 obtain ⟨c,hc,hx⟩:=List.mem_flatMap.1 hx
 exact esc_char (h c hc) x hx
def patC (cs:List Int):List Int:=94 :: (escs cs++[36])
theorem zed {cs:List Int}(h:∀ c∈cs,Kc.isCharB c=true):∀ x∈patC cs,Kc.isCharB x=true:=by
 intro x hx
 rcases List.mem_cons.1 hx with rfl |hx
 ·decide
 ·rcases List.mem_append.1 hx with hx |hx
  ·exact zec h x hx
  ·simp at hx;subst hx;decide
theorem escs_ge (cs:List Int):cs.length≤(escs cs).length:=by
 induction cs with
 |nil=>simp [escs]
 |cons c cs ih=>
  rw [zdV,List.length_append,List.length_cons]
  have:1≤(esc c).length:=by unfold esc;split<;>simp
  omega
theorem zee {cs:List Int}(h:∀ c∈cs,Kc.isCharB c=true)(hn:cs.length+2≤301):Pro.Reads (ofC (patC cs))∧(Pro.zD (ofC (patC cs))).v=cs.length+2∧Pro.zE (ofC (patC cs))=Pro.tAlt [Pro.tSeq (Pro.tAsr 0 :: (cs.map Pro.qK++[Pro.tAsr 1]))]:=by
 obtain ⟨hch,hcd⟩:=ofC_ch (patC cs) (zed h)
 have hge:=escs_ge cs
 have key:∀ (L':List (Int×Int)) (len':Int),Are L' 0 (patC cs)→L'.length=(escs cs).length+2→Pro.altP L' len' (Pro.zl L' len' 10) 0=good (cs.length+2) L'.length∧Pro.altQ L' len' (Pro.zl L' len' 10) (Pro.zH L' len' 10) 0=Pro.tAlt [Pro.tSeq (Pro.tAsr 0 :: (cs.map Pro.qK++[Pro.tAsr 1]))]:=by
  intro L' len' hA hl
  have a0:zf L' 0=94:=hA 0 94 rfl
  have hA1:Are L' 1 (escs cs++[36]):=by
   have:=Are.drop (a:=[94]) (b:=escs cs++[36]) hA
   exact this
  have c1:zf L' (1+(escs cs).length)=36:=by
   have:=hA1.drop 0 36 rfl
   rw [Nat.add_zero] at this
   exact this
  have c2:zf L' ((escs cs).length+2) = -1:=Pro.zO (by omega)
  have s0:Pro.yx L' 0=false:=by unfold Pro.yx;rw [a0,hl];simp
  have s2:Pro.yx L' (1+(escs cs).length)=false:=by unfold Pro.yx;rw [c1,hl];simp;omega
  have s3:Pro.yx L' ((escs cs).length+2)=true:=by unfold Pro.yx;rw [hl];simp
  have n0:Pro.asN L' 0=1:=by unfold Pro.asN;rw [a0];simp
  have n2:Pro.asN L' (1+(escs cs).length)=1:=by unfold Pro.asN;rw [c1];simp
  have t0:=Pro.zaH (L:=L') (len:=len') (D:=Pro.zl L' len' 10) (DT:=Pro.zH L' len' 10) (n:=0) (by rw [n0];decide)
  have t2:=Pro.zaH (L:=L') (len:=len') (D:=Pro.zl L' len' 10) (DT:=Pro.zH L' len' 10) (n:=1+(escs cs).length) (by rw [n2];decide)
  rw [n0] at t0
  rw [n2,show 1+(escs cs).length+1=(escs cs).length+2 by omega] at t2
  have v0:Pro.asV L' 0=0:=by unfold Pro.asV;rw [if_pos a0]
  have v2:Pro.asV L' (1+(escs cs).length)=1:=by unfold Pro.asV;rw [c1];simp
  obtain ⟨f,hf⟩:∃ f,L'.length+1-0=f+1+1+cs.length+1:=⟨(escs cs).length-cs.length,by omega⟩
  have te:=zd3 (L:=L') (len:=len') (D:=Pro.zl L' len' 10) (DT:=Pro.zH L' len' 10) cs 1 (f+1+1) 1 [Pro.tAsr 0] hA1 (by omega) (by decide) (by omega)
  have hT:Pro.zw L' len' (Pro.zl L' len' 10) 0=good (cs.length+2) ((escs cs).length+2):=by
   unfold Pro.zw
   rw [hf,(Pro.yh (DT:=Pro.zH L' len' 10) (ts:=[]) s0 t0.1).1,Nat.zero_add,show min (0+1) (301:Int)=1 by decide,te.1,(Pro.yh (DT:=Pro.zH L' len' 10) (ts:=[]) s2 t2.1).1,(Pro.xF (DT:=Pro.zH L' len' 10) (ts:=[]) s3).1,show min (1+(cs.length:Int)+1) 301=(cs.length:Int)+2 by omega]
  have hQ:Pro.yq L' len' (Pro.zl L' len' 10) (Pro.zH L' len' 10) 0=Pro.tSeq (Pro.tAsr 0 :: (cs.map Pro.qK++[Pro.tAsr 1])):=by
   unfold Pro.yq
   rw [hf,(Pro.yh (s:=0) s0 t0.1).2,Nat.zero_add,t0.2,v0,List.nil_append,te.2,(Pro.yh (s:=0) s2 t2.1).2,(Pro.xF (s:=0) s3).2,t2.2,v2]
   simp
  have hx:=Pro.Z4 (DT:=Pro.zH L' len' 10) (f:=f+1+1+cs.length) (zs:=[]) (ts:=[]) hT hQ (by rw [c2];decide)
  constructor
  ·unfold Pro.altP
   have hw:min (Pro.sumS 0 ([]++[(cs.length:Int)+2])+((([]:List Int).length:Int)+1)-1) 301=(cs.length:Int)+2:=by
    simp [Pro.sumS]
    omega
   rw [hf,hx.1,hl,hw]
  ·unfold Pro.altQ
   rw [hf,hx.2]
   rfl
 have hA:Are (lets (ofC (patC cs))) 0 (patC cs):=fun k x hk=>by
  rw [Nat.zero_add]
  exact zdU _ (by rw [hcd];exact hk)
 have hl:(lets (ofC (patC cs))).length=(escs cs).length+2:=by
  rw [←zdX,hcd]
  unfold patC
  simp
 obtain ⟨q1,q2⟩:=key _ ((ofC (patC cs)).size:Nat) hA hl
 have e1:Pro.zD (ofC (patC cs))=good (cs.length+2) (lets (ofC (patC cs))).length:=q1
 refine ⟨⟨hch,?_,?_⟩,?_,q2⟩
 ·rw [e1,Pro.Kg]
 ·rw [e1,Pro.Kh]
 ·rw [e1,Pro.Ki]
end Pl
namespace Pl
open Pro (zf lets sign)
theorem wf_char (F:Nat)(c:Int):Sm.WF (F+1) (Pro.qK c):=by simp [Sm.WF,Pro.qK]
theorem wf_asr (F:Nat)(c:Int):Sm.WF (F+1) (Pro.tAsr c):=by simp [Sm.WF,Pro.tAsr]
theorem zdZ {X:Tree→Nat→Nat→Prop}:∀ (us bs:List Tree) (i j:Nat),Sm.q7 X (us++bs) i j↔∃ m,Sm.q7 X us i m∧Sm.q7 X bs m j
 | [],bs,i,j=>⟨fun h=>⟨i,rfl,h⟩,fun ⟨m,a,b⟩=>by have e:i=m:=a;subst e;exact b⟩
 |u :: us,bs,i,j=>by
  simp only [List.cons_append,Sm.q7]
  constructor
  ·rintro ⟨m,h1,h2⟩
   obtain ⟨k,h3,h4⟩:=(zdZ us bs m j).1 h2
   exact ⟨k,⟨m,h1,h3⟩,h4⟩
  ·rintro ⟨k,⟨m,h1,h3⟩,h4⟩
   exact ⟨m,h1,(zdZ us bs m j).2 ⟨k,h3,h4⟩⟩
theorem zdW {X:Tree→Nat→Nat→Prop}{ds:List Int}(hX:∀ c i j,X (Pro.qK c) i j↔ds[i]?=some c∧j=i+1):∀ (cs:List Int) (i j:Nat),Sm.q7 X (cs.map Pro.qK) i j↔j=i+cs.length∧∀ k,k<cs.length→ds[i+k]?=cs[k]?
 | [],i,j=>by
  simp [Sm.q7]
  exact eq_comm
 |c :: cs,i,j=>by
  simp only [List.map_cons,Sm.q7,hX,List.length_cons]
  constructor
  ·rintro ⟨m,⟨h1,rfl⟩,h2⟩
   obtain ⟨h3,h4⟩:=(zdW hX cs (i+1) j).1 h2
   refine ⟨by omega,fun k hk=>?_⟩
   cases k with
   |zero=>simpa using h1
   |succ k=>
    have:=h4 k (by omega)
    rw [show i+(k+1)=i+1+k by omega,this]
    simp
  ·rintro ⟨h1,h2⟩
   refine ⟨i+1,⟨by have:=h2 0 (by omega);simpa using this,rfl⟩,(zdW hX cs (i+1) j).2 ⟨by omega,fun k hk=>?_⟩⟩
   have:=h2 (k+1) (by omega)
   rw [show i+1+k=i+(k+1) by omega,this]
   simp
theorem codes_tx (s:ByteArray):(Ref.zo s).1.map Prod.fst=codes s:=by
 rw [(Prg.yj.of s).map]
 unfold codes lets
 simp
theorem char_lf {s:ByteArray}{c:Int}{i:Nat}:Ref.lfT (Ref.zo s).1 (Pro.qK c) i↔(codes s)[i]?=some c:=by
 have hS:=Prg.yj.of s
 rw [←Prg.lf_iff hS]
 unfold Prg.lfP Cs.qY
 have e:lets s=Pro.letM s (s.size+1) 0:=rfl
 rw [←e]
 constructor
 ·rintro ⟨h1,h2⟩
  have h3:zf (lets s) i=c:=by simp [Eqv.ZM,Pro.qK] at h2;exact of_decide_eq_true h2.2
  unfold codes
  rw [List.getElem?_map,List.getElem?_eq_getElem h1]
  rw [Pro.Yd h1] at h3
  simp [h3]
 ·intro h
  have h3:=zdU s h
  have hlt:i<(lets s).length:=by
   have:=(List.getElem?_eq_some_iff.1 h).1
   rw [zdX] at this
   exact this
  refine ⟨hlt,?_⟩
  have hch:Cs.isCh (zf (lets s) i)=true:=hS.isCh (by rw [←e];exact hlt)
  rw [hch,h3]
  simp [Eqv.ZM,Pro.qK]
theorem zd5 {t:ByteArray}{cs:List Int}{i j:Nat}(hi:i≤(codes t).length)(hj:j≤(codes t).length):Mng t (Pro.tAlt [Pro.tSeq (Pro.tAsr 0 :: (cs.map Pro.qK++[Pro.tAsr 1]))]) i j↔i=0∧j=(codes t).length∧codes t=cs:=by
 have hlen:(Ref.zo t).1.length=(codes t).length:=by rw [←codes_tx];simp
 have hw:Sm.WF (0+1+1+1) (Pro.tAlt [Pro.tSeq (Pro.tAsr 0 :: (cs.map Pro.qK++[Pro.tAsr 1]))]):=by
  refine ⟨by simp [Pro.tAlt],fun _ u hu=>?_,by simp [Pro.tAlt]⟩
  have e:u=Pro.tSeq (Pro.tAsr 0 :: (cs.map Pro.qK++[Pro.tAsr 1])):=by simpa [Pro.tAlt] using hu
  subst e
  refine ⟨by simp [Pro.tSeq],fun _ v hv=>?_,by simp [Pro.tSeq]⟩
  have hv2:v=Pro.tAsr 0∨(∃ c∈cs,Pro.qK c=v)∨v=Pro.tAsr 1:=by simpa [Pro.tSeq] using hv
  rcases hv2 with rfl |⟨c,_,rfl⟩ |rfl
  ·exact wf_asr 0 0
  ·exact wf_char 0 c
  ·exact wf_asr 0 1
 rw [kh hw]
 have eA:∀ (c:Int) (x y:Nat),Sm.M (Ref.lfT (Ref.zo t).1) (Ref.ahT (Ref.zo t).1) 1 (Pro.tAsr c) x y↔x=y∧Ref.ahT (Ref.zo t).1 c x:=fun c x y=>by simp [Sm.M,Pro.tAsr]
 have eC:∀ (c:Int) (x y:Nat),Sm.M (Ref.lfT (Ref.zo t).1) (Ref.ahT (Ref.zo t).1) 1 (Pro.qK c) x y↔(codes t)[x]?=some c∧y=x+1:=fun c x y=>by
  rw [←char_lf]
  simp [Sm.M,Pro.qK]
 have e2:Sm.M (Ref.lfT (Ref.zo t).1) (Ref.ahT (Ref.zo t).1) (0+1+1+1) (Pro.tAlt [Pro.tSeq (Pro.tAsr 0 :: (cs.map Pro.qK++[Pro.tAsr 1]))]) i j↔Sm.q7 (Sm.M (Ref.lfT (Ref.zo t).1) (Ref.ahT (Ref.zo t).1) 1) (Pro.tAsr 0 :: (cs.map Pro.qK++[Pro.tAsr 1])) i j:=by
  rw [Sm.M]
  simp only [Pro.tAlt]
  simp
  rw [Sm.M]
  simp [Pro.tSeq]
 rw [e2]
 simp only [Sm.q7,zdZ,zdW eC,eA]
 constructor
 ·rintro ⟨m,⟨rfl,h0⟩,m',⟨rfl,h1⟩,m'',⟨rfl,h2⟩,rfl⟩
  have hi0:=(ah0 (by omega)).1 h0
  subst hi0
  have hj0:=(ah1 (by omega)).1 h2
  rw [hlen] at hj0
  refine ⟨rfl,hj0,?_⟩
  apply List.ext_getElem?
  intro k
  by_cases hk:k<cs.length
  ·have:=h1 k hk
   rw [Nat.zero_add] at this
   exact this
  ·rw [List.getElem?_eq_none (by omega),List.getElem?_eq_none (by omega)]
 ·rintro ⟨rfl,rfl,rfl⟩
  exact ⟨0,⟨rfl,(ah0 (by omega)).2 rfl⟩,_,⟨rfl,fun k _=>by rw [Nat.zero_add]⟩,_,⟨rfl,(ah1 (by omega)).2 (by omega)⟩,by omega⟩
theorem hit_plain {cs:List Int}{t:ByteArray}(h:∀ c∈cs,Kc.isCharB c=true)(hz:(ofC (patC cs)).size≤200)(hn:cs.length≤200)(ht:Kc.textB t=true):Hits (ofC (patC cs)) t↔codes t=cs:=by
 obtain ⟨hR,hv,htr⟩:=zee h (by omega)
 have hlen:(Ref.zo t).1.length=(codes t).length:=by rw [←codes_tx];simp
 constructor
 ·rintro ⟨_,_,i,j,hi,hj,hm⟩
  rw [htr,zd5 (by omega) (by omega)] at hm
  exact hm.2.2
 ·intro e
  refine ⟨⟨hz,hR,by rw [hv];omega⟩,ht,0,(codes t).length,by omega,by omega,?_⟩
  rw [htr,zd5 (Nat.zero_le _) (Nat.le_refl _)]
  exact ⟨rfl,rfl,e⟩
end Pl
end
end Go.Proofs.YtfnkbmglodopkaaGreatDoor
