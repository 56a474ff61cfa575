/- The reader's letters beside the lexer's bytes. -/
import Derived.Test.YtcgleficedipkaaGreatDoorYRefURefV
import Derived.Test.YtcgleficedipkaaGreatDoorYSemGParC
namespace Go.Proofs.YtcgleficedipkaaGreatDoor
variable {s:ByteArray}{L:List (Int×Int)}{n p k:Nat}{c:Int}
section
open Go.RowKit
namespace Eqv
def letF (s:ByteArray):Nat->Nat->List (Int×Int)
 |0,_=>[]
 |f+1,p=>if p<s.size then (match Ref.oneF s p with
   |none=>[]
   |some (n,c)=>((p:Int),c) :: letF s f (p+n)) else []
structure Br (s:ByteArray)(L:List (Int×Int))(n p:Nat):Prop where
 good:Ref.Good s p
 le:n<=L.length
 rest:∃ f,s.size<p+f/\L.drop n=letF s f p
theorem Br.step (h:Br s L n p)(hp:p<s.size):∃ k c,Ref.oneF s p=some (k,c)/\L[n]?=some ((p:Int),c)/\Br s L (n+1) (p+k):=by
 obtain ⟨k,c,ho,hg⟩:=h.good.next hp;obtain ⟨f,hf,hd⟩:=h.rest;obtain ⟨f,rfl⟩:∃ f',f=f'+1:=⟨f-1,by omega⟩
 simp only [letF] at hd;rw [if_pos hp,ho] at hd;have hb:=Ref.qC ho;have hlt:n<L.length:=by
  have:(L.drop n).length=L.length-n:=ZX;rw [hd] at this;simp only [qH] at this;omega
 have hg0:L[n]?=some ((p:Int),c):=by
  have:(L.drop n)[0]?=L[n+0]?:=ZY;rw [hd] at this;simpa using this.symm
 refine ⟨k,c,ho,hg0,hg,by omega,f,by omega,?_⟩;rw [<-Yw,hd];rfl
theorem Br.stop (h:Br s L n p)(hp:¬p<s.size):n=L.length:=by
 obtain ⟨f,hf,hd⟩:=h.rest;have he:letF s f p=[]:=by
  cases f with
  |zero=>rfl
  |succ f=>simp only [letF];rw [if_neg hp]
 have:(L.drop n).length=L.length-n:=ZX;rw [hd,he] at this;simp only [jU] at this;have:=h.le;omega
theorem Br.lt (h:Br s L n p):n<L.length↔p<s.size:=by
 constructor
 ·intro hn;by_cases hp:p<s.size
  ·exact hp
  ·have:=h.stop hp;omega
 ·intro hp;obtain ⟨k,c,_,hg,_⟩:=h.step hp;by_cases hn:n<L.length
  ·exact hn
  ·rw [jF (by omega)] at hg;cases hg
theorem Br.place (h:Br s L n p):Pro.zC L (s.size:Nat) n=p:=by
 by_cases hp:p<s.size
 ·obtain ⟨k,c,_,hg,_⟩:=h.step hp;unfold Pro.zC;rw [hg]
 ·have:=h.stop hp;rw [Pro.ww (by omega)];have:=h.good.le;omega
theorem one_low (ho:Ref.oneF s p=some (k,c))(hb:zd s p<128):k=1/\c=zd s p:=by
 have h1:Ref.headK (zd s p)=1:=by unfold Ref.headK Ref.headN;rw [if_pos hb];rfl
 have h2:Ref.y7 (zd s p)=zd s p:=by unfold Ref.y7;rw [if_pos hb]
 have hk:=(Ref.qC ho).2.2.2.1;refine ⟨by omega,?_⟩;unfold Ref.oneF at ho;split at ho
 ·cases ho
 ·rw [h1,h2] at ho;simp only [Xg,Ref.xS] at ho;split at ho
  ·cases ho
  ·simp only [Option.some.injEq,Prod.mk.injEq] at ho;exact ho.2.symm
theorem one_high (ho:Ref.oneF s p=some (k,c))(hb:128<=zd s p):128<=c:=by
 have hbd:=Ref.qC ho;have hk:k≠1:=by
  rw [hbd.2.2.2.1];unfold Ref.headK Ref.headN;rw [if_neg (by omega)]
  (repeat' split)<;>decide
 unfold Ref.oneF at ho;split at ho
 ·cases ho
 ·split at ho
  ·cases ho
  ·split at ho
   ·cases ho
   ·rename_i hbad;simp only [Option.some.injEq,Prod.mk.injEq] at ho;obtain ⟨hk1,rfl⟩:=ho;simp only [Ref.badC,Z5,kt,decide_eq_true_eq] at hbad;rw [hk1] at hbad;have:128<=Ref.xK (k:Int):=by
     have h4:=hbd.2.2.1;have h1:=hbd.1;have:k=2\/k=3\/k=4:=(by omega);rcases this with rfl |rfl |rfl<;>decide
    omega
theorem Br.letter (h:Br s L n p)(hp:p<s.size)(ho:Ref.oneF s p=some (k,c)):Pro.zf L n=c/\Br s L (n+1) (p+k):=by
 obtain ⟨k',c',ho',hg,hn⟩:=h.step hp;rw [ho] at ho';simp only [Option.some.injEq,Prod.mk.injEq] at ho';obtain ⟨rfl,rfl⟩:=ho';exact ⟨by unfold Pro.zf;rw [hg],hn⟩
theorem Br.ascii (h:Br s L n p)(hb:zd s p<128):Pro.zf L n=zd s p:=by
 by_cases hp:p<s.size
 ·obtain ⟨k,c,ho,hg,_⟩:=h.step hp;unfold Pro.zf;rw [hg];exact (one_low ho hb).2
 ·have:=h.stop hp;rw [Pro.zO (by omega),Zq s p (by omega)]
theorem Br.high (h:Br s L n p)(hb:128<=zd s p):128<=Pro.zf L n:=by
 have hp:p<s.size:=(yL s p).1 (by omega);obtain ⟨k,c,ho,hg,_⟩:=h.step hp;unfold Pro.zf;rw [hg];exact one_high ho hb
theorem Br.alike (h:Br s L n p):(Pro.zf L n=zd s p/\zd s p<128)\/(128<=Pro.zf L n/\128<=zd s p):=by
 by_cases hb:zd s p<128
 ·exact .inl ⟨h.ascii hb,hb⟩
 ·exact .inr ⟨h.high (by omega),by omega⟩
theorem Br.next (h:Br s L n p)(h0:0<=zd s p)(hb:zd s p<128):Br s L (n+1) (p+1):=by
 have hp:p<s.size:=(yL s p).1 h0;obtain ⟨k,c,ho,hg,hn⟩:=h.step hp;obtain ⟨rfl,_⟩:=one_low ho hb;exact hn
theorem Br.hexV {s:ByteArray}{L:List (Int×Int)}{n p:Nat}(h:Br s L n p):Pro.hexV (Pro.zf L n)=Ref.hexV (zd s p):=by
 have:Pro.hexV=Ref.hexV:=rfl;rw [this];rcases h.alike with ⟨e,_⟩ |⟨h1,h2⟩
 ·rw [e]
 ·unfold Ref.hexV;rw [if_neg (by omega),if_neg (by omega),if_neg (by omega),if_neg (by omega),if_neg (by omega),if_neg (by omega)]
theorem Br.start (h:Ref.Good s 0):Br s (letF s (s.size+1) 0) 0 0:=⟨h,by omega,s.size+1,by omega,rfl⟩
def Same (s:ByteArray)(L:List (Int×Int))(o:Pro.Out)(v:Int)(st:St):Prop:=
 (o.k=0->st.e=0/\st.a=0/\v=o.v/\Br s L o.n st.i)/\(o.k≠0->st.e=(o.k:Int)/\st.a=o.p)
end Eqv
namespace Eqv
variable {s:ByteArray} {L:List (Int×Int)}
theorem Br.eqv {n p:Nat}(h:Br s L n p)(k:Int)(hk:k<128):Pro.zf L n=k↔zd s p=k:=by
 rcases h.alike with ⟨e,_⟩ |⟨h1,h2⟩
 ·rw [e]
 ·constructor<;>intro hh<;>omega
theorem Br.go {n p:Nat}(h:Br s L n p){k:Int}(hb:zd s p=k)(h0:0<=k)(h1:k<128):Br s L (n+1) (p+1):=h.next (by omega) (by omega)
def st0 (p:Nat):St:=⟨p,0,0⟩
theorem fail0 (p:Nat)(e a:Int):(st0 p).fail e a=⟨p,e,a⟩:=by unfold st0 St.fail;rw [if_pos rfl]
theorem go0 (p k:Nat):(st0 p).go k=st0 (p+k):=rfl
theorem zeq {k n:Nat}{q:Int}{v:Int}{st:St}(hk:k≠0)(he:st.e=(k:Int))(ha:st.a=q):Same s L (Pro.bad k q n) v st:=⟨fun h=>absurd h hk,fun _=>⟨he,ha⟩⟩
theorem zet {v:Int}{n p:Nat}(h:Br s L n p):Same s L (Pro.good v n) v (st0 p):=⟨fun _=>⟨rfl,rfl,rfl,h⟩,fun h=>absurd rfl h⟩
theorem hex_same:∀ (f:Nat) (c:Int) (n p:Nat),Br s L n p->Same s L (Pro.hexO L (s.size:Nat) f c n) (Ref.hexF s f c (st0 p)).1 (Ref.hexF s f c (st0 p)).2
 |0,c,n,p,h=>zet h
 |f+1,c,n,p,h=>by
  by_cases hb:Ref.hexV (zd s p)<0
  ·rw [Ref.hexF_bad (st:=st0 p) hb,Pro.Qr (by rw [h.hexV];exact hb),fail0];exact zeq (by decide) rfl h.place.symm
  ·have hb0:0<=Ref.hexV (zd s p):=(by omega);rw [Ref.zfw (st:=st0 p) hb0,Pro.YT (by rw [h.hexV];exact hb0),h.hexV,go0];have hx:48<=zd s p/\zd s p<=102:=(by unfold Ref.hexV at hb0;(repeat' split at hb0)<;>omega);exact hex_same f _ (n+1) (p+1) (h.next (by omega) (by omega))
theorem hexd {b:Int}(h:0<=Ref.hexV b):48<=b/\b<=102:=by unfold Ref.hexV at h;(repeat' split at h)<;>omega
theorem zfD:∀ (f g:Nat) (c:Int) (d n p:Nat),Br s L n p->L.length<n+f->s.size<p+g->Same s L (Pro.yw L (s.size:Nat) f c d n) (Ref.bracedF s g c d (st0 p)).1 (Ref.bracedF s g c d (st0 p)).2
 |0,g,c,d,n,p,h,hf,hg=>by have:=h.le;omega
 |f+1,0,c,d,n,p,h,hf,hg=>by have:=h.good.le;omega
 |f+1,g+1,c,d,n,p,h,hf,hg=>by
  by_cases hc:0<d/\zd s p=125
  ·rw [Ref.zeL (st:=st0 p) hc.1 hc.2,Pro.Zk hc.1 ((h.eqv 125 (by omega)).2 hc.2),go0];exact zet (h.go hc.2 (by omega) (by omega))
  ·have hc':¬(0<d/\Pro.zf L n=125):=fun hh=>hc ⟨hh.1,(h.eqv 125 (by omega)).1 hh.2⟩;by_cases hb:Ref.hexV (zd s p)<0\/1114111<16*c+Ref.hexV (zd s p)
   ·rw [Ref.zeX (st:=st0 p) hc hb,Pro.Xk hc' (by rw [h.hexV];exact hb),fail0];exact zeq (by decide) rfl h.place.symm
   ·rw [Ref.zeQ (st:=st0 p) hc hb,Pro.Yg hc' (by rw [h.hexV];exact hb),h.hexV,go0];have hx:=hexd (b:=zd s p) (by omega);have hn:=h.next (by omega) (by omega);exact zfD f g _ (d+1) (n+1) (p+1) hn (by omega) (by omega)
theorem ze4:∀ (f:Nat) (c:Int) (n p:Nat),Br s L n p->((Pro.hexO L (s.size:Nat) f c n).k=0->Ref.halfD s f p c=(Pro.hexO L (s.size:Nat) f c n).v/\Br s L (Pro.hexO L (s.size:Nat) f c n).n (p+f))/\((Pro.hexO L (s.size:Nat) f c n).k≠0->Ref.halfD s f p c = -1)
 |0,c,n,p,h=>⟨fun _=>⟨rfl,h⟩,fun hk=>absurd rfl hk⟩
 |f+1,c,n,p,h=>by
  by_cases hb:Ref.hexV (zd s p)<0
  ·rw [Ref.ze6 hb,Pro.Qr (by rw [h.hexV];exact hb)];exact ⟨fun hk=>absurd hk (by simp [Pro.bad]),fun _=>rfl⟩
  ·have hb0:0<=Ref.hexV (zd s p):=(by omega);rw [Ref.zeR hb0,Pro.YT (by rw [h.hexV];exact hb0),h.hexV];have hx:=hexd hb0;have:=ze4 f (16*c+Ref.hexV (zd s p)) (n+1) (p+1) (h.next (by omega) (by omega));rw [show p+(f+1)=p+1+f by omega];exact this
theorem half_at {n p:Nat}(h:Br s L n p)(h1:zd s p=92)(h2:zd s (p+1)=117):Ref.halfF s p=(if (Pro.hexO L (s.size:Nat) 4 0 (n+2)).k=0 then (Pro.hexO L (s.size:Nat) 4 0 (n+2)).v else -1):=by
 have hb:=(h.go h1 (by omega) (by omega)).go h2 (by omega) (by omega);have hh:=ze4 4 0 (n+2) (p+2) hb;by_cases hk:(Pro.hexO L (s.size:Nat) 4 0 (n+2)).k=0
 ·rw [if_pos hk];have:=(hh.1 hk).2.good.le;rw [Ref.zfx (by omega)];exact (hh.1 hk).1
 ·rw [if_neg hk];by_cases hsz:s.size<p+6\/zd s p≠92\/zd s (p+1)≠117
  ·exact Ref.halfF_no hsz
  ·rw [Ref.zfx hsz];exact hh.2 hk
theorem low_same {n p:Nat}(h:Br s L n p):Pro.lowV L (s.size:Nat) n=(if 56320<=Ref.halfF s p/\Ref.halfF s p<=57343 then Ref.halfF s p else -1):=by
 by_cases h1:zd s p=92
 ·have hb:=h.go h1 (by omega) (by omega);by_cases h2:zd s (p+1)=117
  ·rw [half_at h h1 h2];unfold Pro.lowV;have e1:=(h.eqv 92 (by omega)).2 h1;have e2:=(hb.eqv 117 (by omega)).2 h2;by_cases hk:(Pro.hexO L (s.size:Nat) 4 0 (n+2)).k=0
   ·simp only [if_pos hk];by_cases hr:56320<=(Pro.hexO L (s.size:Nat) 4 0 (n+2)).v/\(Pro.hexO L (s.size:Nat) 4 0 (n+2)).v<=57343
    ·rw [if_pos ⟨e1,e2,hk,hr.1,hr.2⟩,if_pos hr]
    ·rw [if_neg (fun hh=>hr ⟨hh.2.2.2.1,hh.2.2.2.2⟩),if_neg hr]
   ·simp only [if_neg hk];rw [if_neg (fun hh=>hk hh.2.2.1),if_neg (by omega)]
  ·rw [Ref.halfF_no (.inr (.inr h2)),if_neg (by omega)];unfold Pro.lowV;rw [if_neg (fun hh=>h2 ((hb.eqv 117 (by omega)).1 hh.2.1))]
 ·rw [Ref.halfF_no (.inr (.inl h1)),if_neg (by omega)];unfold Pro.lowV;rw [if_neg (fun hh=>h1 ((h.eqv 92 (by omega)).1 hh.1))]
end Eqv
namespace Eqv
variable {s:ByteArray} {L:List (Int×Int)}
theorem zgb {x:Int}(h:128<=x):Pro.sign x=false:=by unfold Pro.sign;simp;omega
theorem zhl (x:Int):Pro.sign x=Ref.signB x:=rfl
theorem ctl_same (x:Int):Pro.ctlV x=Ref.controlV x:=rfl
theorem ctl_high {x:Int}(h:128<=x):¬0<=Pro.ctlV x:=by unfold Pro.ctlV;(repeat' split)<;>omega
theorem zgR {x:Int}(h:128<=x):Pro.wy x=false:=by unfold Pro.wy;simp [zgb h,ctl_high h]
theorem zgS {x:Int}(h:Pro.sign x=true):36<=x/\x<=125/\x≠48/\x≠99/\x≠120/\x≠117:=by unfold Pro.sign at h;simp at h;omega
theorem zhm {x:Int}(h:0<=Pro.ctlV x):x=116\/x=110\/x=118\/x=102\/x=114:=by unfold Pro.ctlV at h;(repeat' split at h)<;>omega
theorem zgo {m q:Nat}(h:Br s L m q)(h92:zd s q=92)(h117:zd s (q+1)=117) :
  Same s L (if Pro.zf L (m+2)=123 then Pro.jC L (s.size:Nat) (m+3) else Pro.zY L (s.size:Nat) (m+2)) (Ref.unicodeF s (st0 (q+1))).1 (Ref.unicodeF s (st0 (q+1))).2:=by
 have h1:=h.go h92 (by omega) (by omega);have h2:=h1.go h117 (by omega) (by omega);by_cases h123:zd s (q+2)=123
 ·have h3:=h2.go h123 (by omega) (by omega);rw [if_pos ((h2.eqv 123 (by omega)).2 h123)];unfold Ref.unicodeF;rw [if_pos (show zd s ((st0 (q+1)).i+1)=123 from h123)];unfold Ref.bracedR Pro.jC;have hl:=h3.le;have hg:=h3.good.le;exact zfD _ _ 0 0 (m+3) (q+3) h3 (by omega) (by show s.size<q+3+(s.size+1-(q+1+2));omega)
 ·rw [if_neg (fun hh=>h123 ((h2.eqv 123 (by omega)).1 hh))];unfold Ref.unicodeF;rw [if_neg (show ¬zd s ((st0 (q+1)).i+1)=123 from h123)];have hf:=half_at h h92 h117;have hh:=ze4 4 0 (m+2) (q+2) h2;have hx:=hex_same (s:=s) (L:=L) 4 0 (m+2) (q+2) h2;have e1:Ref.halfF s ((st0 (q+1)).i-1)=Ref.halfF s q:=rfl;have e2:Ref.halfF s ((st0 (q+1)).i+5)=Ref.halfF s (q+6):=rfl;by_cases hk:(Pro.hexO L (s.size:Nat) 4 0 (m+2)).k=0
  ·have hb:=(hh.1 hk).2;have hn:=(Pro.YU L (s.size:Nat) 4 0 (m+2) h2.le).2.2 hk;have hb':Br s L (m+6) (q+6):=(by rw [hn] at hb;exact hb);have hlow:=low_same hb';rw [if_pos hk] at hf;by_cases hr:55296<=(Pro.hexO L (s.size:Nat) 4 0 (m+2)).v/\(Pro.hexO L (s.size:Nat) 4 0 (m+2)).v<=56319
   ·by_cases hl:56320<=Ref.halfF s (q+6)/\Ref.halfF s (q+6)<=57343
    ·have hp:Ref.pairB s (st0 (q+1))=true:=(by unfold Ref.pairB;rw [e1,e2,hf];simp [hr.1,hr.2,hl.1,hl.2]);rw [if_pos hl] at hlow;rw [if_pos hp,e1,e2,hf];have hu:Pro.zY L (s.size:Nat) (m+2)=Pro.good (65536+((Pro.hexO L (s.size:Nat) 4 0 (m+2)).v-55296)*1024+(Ref.halfF s (q+6)-56320)) (m+6+6):=by
      unfold Pro.zY;rw [if_neg (by omega),hn,show m+2+4=m+6 by omega,hlow,if_pos (by omega)]
     rw [hu];have hlo:0<=Pro.lowV L (s.size:Nat) (m+6):=(by rw [hlow];omega);have h92':zd s (q+6)=92/\zd s (q+7)=117:=by
      by_cases hn92:s.size<q+6+6\/zd s (q+6)≠92\/zd s (q+6+1)≠117
      ·rw [Ref.halfF_no hn92] at hl;omega
      ·have e:q+6+1=q+7:=rfl;rw [e] at hn92;exact ⟨Classical.byContradiction fun hh=>hn92 (.inr (.inl hh)),Classical.byContradiction fun hh=>hn92 (.inr (.inr hh))⟩
     have hbb:=(hb'.go h92'.1 (by omega) (by omega)).go h92'.2 (by omega) (by omega);have hh2:=ze4 4 0 (m+6+2) (q+6+2) hbb;have hk2:(Pro.hexO L (s.size:Nat) 4 0 (m+6+2)).k=0:=by
      by_cases hk2:(Pro.hexO L (s.size:Nat) 4 0 (m+6+2)).k=0
      ·exact hk2
      ·have:=half_at hb' h92'.1 h92'.2;rw [if_neg hk2] at this;omega
     have hend:=(hh2.1 hk2).2;have hn2:=(Pro.YU L (s.size:Nat) 4 0 (m+6+2) hbb.le).2.2 hk2;rw [hn2] at hend;rw [go0];refine ⟨fun _=>⟨rfl,rfl,?_,hend⟩,fun h=>absurd rfl h⟩;show 65536+(_-55296)*1024+Ref.halfF s (q+6)-56320=65536+(_-55296)*1024+(Ref.halfF s (q+6)-56320)
     omega
    ·have hp:¬Ref.pairB s (st0 (q+1))=true:=(by unfold Ref.pairB;rw [e1,e2];simp;intro _ _;omega);rw [if_neg hl] at hlow;rw [if_neg hp];have hu:Pro.zY L (s.size:Nat) (m+2)=Pro.hexO L (s.size:Nat) 4 0 (m+2):=by
      unfold Pro.zY;rw [if_neg (by omega),hn,show m+2+4=m+6 by omega,hlow,if_neg (by omega)]
     rw [hu];exact hx
   ·have hp:¬Ref.pairB s (st0 (q+1))=true:=(by unfold Ref.pairB;rw [e1,hf];simp;omega);rw [if_neg hp];have hu:Pro.zY L (s.size:Nat) (m+2)=Pro.hexO L (s.size:Nat) 4 0 (m+2):=by
     unfold Pro.zY;rw [if_pos (by omega)]
    rw [hu];exact hx
  ·rw [if_neg hk] at hf;have hp:¬Ref.pairB s (st0 (q+1))=true:=(by unfold Ref.pairB;rw [e1,hf];simp);rw [if_neg hp];have hu:Pro.zY L (s.size:Nat) (m+2)=Pro.hexO L (s.size:Nat) 4 0 (m+2):=by
    unfold Pro.zY;rw [if_pos (.inl hk)]
   rw [hu];exact hx
end Eqv
namespace Eqv
variable {s:ByteArray} {L:List (Int×Int)}
theorem num_same (cls:Bool){m q:Nat}(h:Br s L m q)(h92:zd s q=92)(hcl:cls=true->zd s (q+1)≠45/\zd s (q+1)≠98) :
  Same s L (Pro.numO L (s.size:Nat) (m+1)) (Ref.kf s cls (st0 (q+1))).1 (Ref.kf s cls (st0 (q+1))).2:=by
 have h1:=h.go h92 (by omega) (by omega);have hi:(st0 (q+1)).i=q+1:=rfl;have hbad:∀ (hs:Pro.wy (Pro.zf L (m+1))=false) (k1:zd s (q+1)≠48) (k2:zd s (q+1)≠99) (k3:zd s (q+1)≠120) (k4:zd s (q+1)≠117) (hc:¬0<=Ref.controlV (zd s (q+1))) (hg:Ref.signB (zd s (q+1))=false),
   Same s L (Pro.numO L (s.size:Nat) (m+1)) (Ref.kf s cls (st0 (q+1))).1 (Ref.kf s cls (st0 (q+1))).2:=by
  intro hs k1 k2 k3 k4 hc hg;have n1:=fun e=>k1 ((h1.eqv 48 (by omega)).1 e);have n2:=fun e=>k2 ((h1.eqv 99 (by omega)).1 e);have n3:=fun e=>k3 ((h1.eqv 120 (by omega)).1 e);have n4:=fun e=>k4 ((h1.eqv 117 (by omega)).1 e);unfold Pro.numO Ref.kf;rw [hi,if_neg (by simp [hs]),if_neg n1,if_neg n2,if_neg n3,if_neg (fun hh=>n4 hh.1),if_neg n4,if_neg hc,if_neg k1,if_neg k2,if_neg k3,if_neg k4,if_neg (by
   rintro (hh |⟨hh,he⟩)
   ·rw [hg] at hh;cases hh
   ·exact (hcl hh).1 he),if_neg (fun hh=>(hcl hh.1).2 hh.2),fail0]
  exact zeq (by decide) rfl h1.place.symm
 rcases h1.alike with ⟨e,hb⟩ |⟨hhi,hbi⟩
 ·cases hs:Pro.wy (Pro.zf L (m+1))
  ·have hc:¬0<=Ref.controlV (zd s (q+1)):=(by rw [e] at hs;unfold Pro.wy at hs;simp at hs;rw [<-ctl_same];omega);have hg:Ref.signB (zd s (q+1))=false:=(by rw [e] at hs;unfold Pro.wy at hs;simp at hs;exact hs.2);by_cases k1:zd s (q+1)=48
   ·have h2:=h1.go k1 (by omega) (by omega);unfold Pro.numO Ref.kf;rw [hi,if_neg (by simp [hs]),if_pos ((h1.eqv 48 (by omega)).2 k1),if_neg hc,if_pos k1];unfold Pro.xY Pro.dig;rcases h2.alike with ⟨e2,hb2⟩ |⟨hh2,hb2⟩
    ·rw [e2];by_cases hd:48<=zd s (q+1+1)/\zd s (q+1+1)<=57
     ·rw [if_pos (by simp [hd.1,hd.2]),if_pos hd,go0,fail0];exact zeq (by decide) rfl h2.place.symm
     ·rw [if_neg (by simp;omega),if_neg hd,go0];exact zet h2
    ·rw [if_neg (by simp;omega),if_neg (by omega),go0];exact zet h2
   ·by_cases k2:zd s (q+1)=99
    ·have h2:=h1.go k2 (by omega) (by omega);unfold Pro.numO Ref.kf;rw [hi,if_neg (by simp [hs]),if_neg (by rw [e];exact k1),if_pos ((h1.eqv 99 (by omega)).2 k2),if_neg hc,if_neg k1,if_pos k2];unfold Pro.ym;rcases h2.alike with ⟨e2,hb2⟩ |⟨hh2,hb2⟩
     ·rw [e2];by_cases hd:(97<=zd s (q+1+1)/\zd s (q+1+1)<=122)\/(65<=zd s (q+1+1)/\zd s (q+1+1)<=90)
      ·rw [if_pos (show Pro.letter _ from hd),if_pos hd,go0];exact zet (h2.next (by omega) (by omega))
      ·rw [if_neg (show ¬Pro.letter _ from hd),if_neg hd,go0,fail0];exact zeq (by decide) rfl h2.place.symm
     ·rw [if_neg (show ¬Pro.letter _ by unfold Pro.letter;omega),if_neg (by omega),go0,fail0];exact zeq (by decide) rfl h2.place.symm
    ·by_cases k3:zd s (q+1)=120
     ·have h2:=h1.go k3 (by omega) (by omega);unfold Pro.numO Ref.kf;rw [hi,if_neg (by simp [hs]),if_neg (by rw [e];exact k1),if_neg (by rw [e];exact k2),if_pos ((h1.eqv 120 (by omega)).2 k3),if_neg hc,if_neg k1,if_neg k2,if_pos k3,go0];exact hex_same 2 0 (m+2) (q+2) h2
     ·by_cases k4:zd s (q+1)=117
      ·have hu:=zgo h h92 k4;unfold Pro.numO Ref.kf;rw [hi,if_neg (by simp [hs]),if_neg (by rw [e];exact k1),if_neg (by rw [e];exact k2),if_neg (by rw [e];exact k3),if_neg hc,if_neg k1,if_neg k2,if_neg k3,if_pos k4];have e117:=(h1.eqv 117 (by omega)).2 k4;by_cases h123:Pro.zf L (m+2)=123
       ·rw [if_pos h123] at hu;rw [if_pos ⟨e117,h123⟩];exact hu
       ·rw [if_neg h123] at hu;rw [if_neg (fun hh=>h123 hh.2),if_pos e117];exact hu
      ·exact hbad hs k1 k2 k3 k4 hc hg
  ·unfold Pro.numO Ref.kf;rw [hi,if_pos hs,e];by_cases hc:0<=Ref.controlV (zd s (q+1))
   ·have hcs:=zhm hc;rw [if_pos hc,go0];have:Pro.wz (zd s (q+1))=Ref.controlV (zd s (q+1)):=(by unfold Pro.wz;rw [if_pos (show 0<=Pro.ctlV _ from hc)];rfl);rw [this];exact zet (h1.next (by omega) (by omega))
   ·have hg:Pro.sign (zd s (q+1))=true:=(by rw [e] at hs;unfold Pro.wy at hs;simp at hs;rcases hs with hs |hs;exact absurd hs hc;exact hs);have hcs:=zgS hg;rw [if_neg hc,if_neg hcs.2.2.1,if_neg hcs.2.2.2.1,if_neg hcs.2.2.2.2.1,if_neg hcs.2.2.2.2.2,if_pos (.inl hg),go0];have:Pro.wz (zd s (q+1))=zd s (q+1):=(by unfold Pro.wz;rw [if_neg (show ¬0<=Pro.ctlV _ from hc)]);rw [this];exact zet (h1.next (by omega) (by omega))
 ·exact hbad (zgR hhi) (by omega) (by omega) (by omega) (by omega) (by rw [<-ctl_same];exact ctl_high hbi) (by rw [<-zhl];exact zgb hbi)
theorem set_same (x:Int):Pro.setB x=true↔Ref.setL x≠[]:=by
 unfold Pro.setB Ref.setL;simp only [List.any_cons,List.any_nil,Bool.or_false,Z5,decide_eq_true_eq];constructor
 ·intro h
  (repeat' split)<;>first |(intro hh;cases hh;done) |omega
 ·intro h
  (repeat' split at h)<;>first |omega |exact absurd rfl h
theorem zfs (x:Int):Pro.backB x=Ref.backB x:=by
 have:(Pro.backB x=true)↔(Ref.backB x=true):=by
  unfold Pro.backB Ref.backB;simp;omega
 cases h1:Pro.backB x<;>cases h2:Ref.backB x<;>simp_all
theorem set_high {x:Int}(h:128<=x\/x<0):Pro.setB x=false:=by unfold Pro.setB;simp;omega
theorem zgc {x:Int}(h:128<=x\/x<0):Pro.backB x=false:=by unfold Pro.backB;simp;omega
theorem set_back {x:Int}(h:Pro.setB x=true):Pro.backB x=false/\68<=x/\x<=119/\x≠98/\x≠45:=by unfold Pro.setB at h;unfold Pro.backB;simp at h ⊢;omega
theorem esc_same (cls:Bool){m q:Nat}(h:Br s L m q)(h92:zd s q=92)(hcl:cls=true->zd s (q+1)≠45/\zd s (q+1)≠98) :
  Same s L (Pro.escO L (s.size:Nat) m) (Pro.escO L (s.size:Nat) m).v (Ref.jv s cls (st0 q)).2.2/\((Pro.escO L (s.size:Nat) m).k=0->(Ref.jv s cls (st0 q)).2.1 = !Pro.setB (Pro.zf L (m+1))/\((Ref.jv s cls (st0 q)).2.1=true->(Ref.jv s cls (st0 q)).1=⟨false,[((Pro.escO L (s.size:Nat) m).v,(Pro.escO L (s.size:Nat) m).v)]⟩)):=by
 have h1:=h.go h92 (by omega) (by omega);have hi:(st0 q).i=q:=rfl;have hset:Pro.setB (Pro.zf L (m+1))=Pro.setB (zd s (q+1)):=by
  rcases h1.alike with ⟨e,_⟩ |⟨a,b⟩
  ·rw [e]
  ·rw [set_high (.inl a),set_high (.inl b)]
 have hback:Pro.backB (Pro.zf L (m+1))=Ref.backB (zd s (q+1)):=by
  rw [<-zfs];rcases h1.alike with ⟨e,_⟩ |⟨a,b⟩
  ·rw [e]
  ·rw [zgc (.inl a),zgc (.inl b)]
 cases hs:Pro.setB (zd s (q+1))
 ·have hs':¬Ref.setL (zd s (q+1))≠[]:=fun hh=>by rw [(set_same _).2 hh] at hs;cases hs
  cases hb:Ref.backB (zd s (q+1))
  ·have e1:Pro.escO L (s.size:Nat) m=Pro.numO L (s.size:Nat) (m+1):=(by unfold Pro.escO;rw [hset,hback,hs,hb];simp);have e2:Ref.jv s cls (st0 q)=(⟨false,[((Ref.kf s cls (st0 (q+1))).1,(Ref.kf s cls (st0 (q+1))).1)]⟩,true,(Ref.kf s cls (st0 (q+1))).2):=by
    unfold Ref.jv;rw [hi,hb,if_neg (by simp),if_neg hs',go0]
   have hn:=num_same cls h h92 hcl;rw [e1,e2,hset,hs];refine ⟨⟨fun hk=>?_,hn.2⟩,fun hk=>⟨rfl,fun _=>?_⟩⟩
   ·have:=hn.1 hk;exact ⟨this.1,this.2.1,rfl,this.2.2.2⟩
   ·have:=(hn.1 hk).2.2.1;rw [this]
  ·have e1:Pro.escO L (s.size:Nat) m=Pro.bad 6 (Pro.zC L (s.size:Nat) m) (m+1):=(by unfold Pro.escO;rw [hset,hback,hs,hb];simp);have e2:(Ref.jv s cls (st0 q)).2.2=⟨q+1,6,q⟩:=(by unfold Ref.jv;rw [hi,if_pos hb,go0,fail0]);rw [e1,e2];exact ⟨zeq (by decide) rfl h.place.symm,fun hk=>absurd hk (by simp [Pro.bad])⟩
 ·have hsb:=set_back hs;have hb:Ref.backB (zd s (q+1))=false:=by rw [<-zfs];exact hsb.1
  have e1:Pro.escO L (s.size:Nat) m=Pro.good (Pro.zf L (m+1)) (m+2):=by unfold Pro.escO;rw [hset,hs,if_pos rfl]
  have e2:Ref.jv s cls (st0 q)=(⟨decide (zd s (q+1)<97),Ref.setL (zd s (q+1))⟩,false,st0 (q+2)):=by
   unfold Ref.jv;rw [hi,if_neg (by simp [hb]),if_pos ((set_same _).1 hs),go0]
  rw [e1,e2,hset,hs];exact ⟨⟨fun _=>⟨rfl,rfl,rfl,h1.next (by omega) (by omega)⟩,fun hk=>absurd rfl hk⟩,fun _=>⟨rfl,fun hh=>by cases hh⟩⟩
theorem zeB {m q:Nat}(h:Br s L m q)(hlt:q<s.size) :
  Same s L (Pro.zi L (s.size:Nat) m) (Pro.zi L (s.size:Nat) m).v (Ref.za s (st0 q)).2.2/\((Pro.zi L (s.size:Nat) m).k=0->(Ref.za s (st0 q)).2.1 = !Pro.many L m/\((Ref.za s (st0 q)).2.1=true->(Ref.za s (st0 q)).1=⟨false,[((Pro.zi L (s.size:Nat) m).v,(Pro.zi L (s.size:Nat) m).v)]⟩)):=by
 have hi:(st0 q).i=q:=rfl;by_cases h92:zd s q=92
 ·have h1:=h.go h92 (by omega) (by omega);have e92:=(h.eqv 92 (by omega)).2 h92;have hm:Pro.many L m=Pro.setB (Pro.zf L (m+1)):=Pro.Qw e92;have eR:Ref.za s (st0 q)=Ref.jv s true (st0 q):=by unfold Ref.za;rw [hi,if_pos h92]
  by_cases hsp:zd s (q+1)=98\/zd s (q+1)=45
  ·have hb0:zd s (q+1)<128:=(by omega);have e:=h1.ascii hb0;have hset:Pro.setB (zd s (q+1))=false:=(by rcases hsp with hh |hh<;>rw [hh]<;>decide);have hs':¬Ref.setL (zd s (q+1))≠[]:=fun hh=>(by rw [(set_same _).2 hh] at hset;cases hset);have hb:Ref.backB (zd s (q+1))=false:=(by rcases hsp with hh |hh<;>rw [hh]<;>decide);have e2:Ref.jv s true (st0 q)=(⟨false,[((Ref.kf s true (st0 (q+1))).1,(Ref.kf s true (st0 (q+1))).1)]⟩,true,(Ref.kf s true (st0 (q+1))).2):=by
    unfold Ref.jv;rw [hi,hb,if_neg (by simp),if_neg hs',go0]
   have hn:∃ v,Ref.kf s true (st0 (q+1))=(v,st0 (q+2))/\Pro.zi L (s.size:Nat) m=Pro.good v (m+2):=by
    have hi1:(st0 (q+1)).i=q+1:=rfl;rcases hsp with hh |hh
    ·refine ⟨8,?_,?_⟩
     ·unfold Ref.kf;rw [hi1,hh,if_neg (by decide),if_neg (by decide),if_neg (by decide),if_neg (by decide),if_neg (by decide),if_neg (by decide),if_pos ⟨rfl,rfl⟩,go0]
     ·unfold Pro.zi;rw [if_pos ⟨e92,by rw [e];exact hh⟩]
    ·refine ⟨45,?_,?_⟩
     ·unfold Ref.kf;rw [hi1,hh,if_neg (by decide),if_neg (by decide),if_neg (by decide),if_neg (by decide),if_neg (by decide),if_pos (.inr ⟨rfl,rfl⟩),go0]
     ·unfold Pro.zi;rw [if_neg (fun hx=>by rw [e,hh] at hx;exact absurd hx.2 (by decide)),if_pos ⟨e92,by rw [e];exact hh⟩]
   obtain ⟨v,hn1,hn2⟩:=hn;rw [eR,e2,hn1,hn2,hm,e,hset];exact ⟨⟨fun _=>⟨rfl,rfl,rfl,h1.next (by omega) (by omega)⟩,fun hk=>absurd rfl hk⟩,fun _=>⟨rfl,fun _=>rfl⟩⟩
  ·have e1:Pro.zi L (s.size:Nat) m=Pro.escO L (s.size:Nat) m:=by
    unfold Pro.zi;rw [if_neg (fun hh=>hsp (.inl ((h1.eqv 98 (by omega)).1 hh.2))),if_neg (fun hh=>hsp (.inr ((h1.eqv 45 (by omega)).1 hh.2))),if_pos e92]
   rw [e1,eR,hm];exact esc_same true h h92 (fun _=>⟨fun hh=>hsp (.inr hh),fun hh=>hsp (.inl hh)⟩)
 ·have n92:¬Pro.zf L m=92:=fun hh=>h92 ((h.eqv 92 (by omega)).1 hh);obtain ⟨k,c,ho,hg,hn⟩:=h.step hlt;have hl:=(h.letter hlt ho).1;have e1:Pro.zi L (s.size:Nat) m=Pro.good c (m+1):=by
   unfold Pro.zi;rw [if_neg (fun hh=>n92 hh.1),if_neg (fun hh=>n92 hh.1),if_neg n92,hl]
  have e2:Ref.za s (st0 q)=(⟨false,[(c,c)]⟩,true,st0 (q+k)):=by unfold Ref.za;rw [hi,if_neg h92,ho];rfl
  rw [e1,e2,Pro.many_no n92];exact ⟨⟨fun _=>⟨rfl,rfl,rfl,hn⟩,fun hk=>absurd rfl hk⟩,fun _=>⟨rfl,fun _=>rfl⟩⟩
end Eqv
namespace Eqv
variable {s:ByteArray} {L:List (Int×Int)}
theorem st_eta {st:St}(he:st.e=0)(ha:st.a=0):st=st0 st.i:=by cases st;simp only at he ha;subst he;subst ha;rfl
theorem fail_nz {st:St}(h:st.e≠0)(e a:Int):st.fail e a=st:=by unfold St.fail;rw [if_neg h]
theorem zgT:∀ (g:Nat) (ps:List Pt) (st:St),st.e≠0->(Ref.classF s g ps st).2.e=st.e/\(Ref.classF s g ps st).2.a=st.a
 |0,ps,st,h=>⟨rfl,rfl⟩
 |g+1,ps,st,h=>by rw [Ref.zez (fun hh=>h hh.1)];exact ⟨rfl,rfl⟩
theorem zgd {n p:Nat}(h:Br s L n p):Pro.xJ L n=Ref.rangeB s (st0 p):=by
 have hi:(st0 p).i=p:=rfl;unfold Pro.xJ Ref.rangeB;rw [hi];by_cases h45:zd s p=45
 ·have h1:=h.go h45 (by omega) (by omega);have e1:=(h.eqv 45 (by omega)).2 h45;have e2:=h1.eqv 93 (by omega);have e3:=h1.eqv (-1) (by omega);have e4:=yL s (p+1);have e5:=zbt s (p+1);by_cases k1:zd s (p+1)=93<;>by_cases k2:p+1<s.size
  ·simp [e1,h45,e2.2 k1,k1]
  ·simp [e1,h45,e2.2 k1,k1]
  ·have k3:¬Pro.zf L (n+1) = -1:=fun hh=>(by have:=e3.1 hh;omega);have k4:¬Pro.zf L (n+1)=93:=fun hh=>k1 (e2.1 hh);simp [e1,h45,k1,k2,k3,k4,st0]
  ·have k3:Pro.zf L (n+1) = -1:=e3.2 (by omega);simp [e1,h45,k1,k2,k3,st0]
 ·have e1:¬Pro.zf L n=45:=fun hh=>h45 ((h.eqv 45 (by omega)).1 hh);simp [e1,h45]
theorem br_mono {n m p q:Nat}(h1:Br s L n p)(h2:Br s L m q)(hq:q<=p):m<=n:=by
 by_cases hnm:m<=n
 ·exact hnm
 ·exfalso;have key:∀ k n p,Br s L n p->n+k<=L.length->∃ r,Br s L (n+k) r/\p+k<=r:=by
   intro k
   induction k with
   |zero=>intro n p h _;exact ⟨p,h,by omega⟩
   |succ k ih=>
    intro n p h hl;have hp:p<s.size:=h.lt.1 (by omega);obtain ⟨j,c,ho,_,hn⟩:=h.step hp;obtain ⟨r,hr,hle⟩:=ih (n+1) (p+j) hn (by omega);have:=Ref.qC ho;exact ⟨r,by rw [show n+(k+1)=n+1+k by omega];exact hr,by omega⟩
  obtain ⟨r,hr,hle⟩:=key (m-n) n p h1 (by have:=h2.le;omega);rw [show n+(m-n)=m by omega] at hr;have e1:=hr.place;have e2:=h2.place;rw [e1] at e2;omega
theorem zeO:∀ (f g:Nat) (ps:List Pt) (n p:Nat),Br s L n p->L.length<n+f->s.size<p+g->Same s L (Pro.yG L (s.size:Nat) f n) 1 (Ref.classF s g ps (st0 p)).2
 |0,g,ps,n,p,h,hf,hg=>by have:=h.le;omega
 |f+1,0,ps,n,p,h,hf,hg=>by have:=h.good.le;omega
 |f+1,g+1,ps,n,p,h,hf,hg=>by
  simp only [Pro.yG];by_cases h93:zd s p=93
  ·rw [if_pos ((h.eqv 93 (by omega)).2 h93),Ref.zez (fun hh=>hh.2 h93),go0];exact zet (h.go h93 (by omega) (by omega))
  ·have hc:(st0 p).e=0/\zd s (st0 p).i≠93:=⟨rfl,h93⟩
   rw [if_neg (fun hh=>h93 ((h.eqv 93 (by omega)).1 hh))];by_cases hlt:p<s.size
   ·have hln:=h.lt.2 hlt;have hb0:=(yL s p).2 hlt;have hc1:¬zd s (st0 p).i<0:=(by show ¬zd s p<0;omega);rw [if_neg (by omega)];have hm:=zeB h hlt;have hmi:=Pro.vD (L:=L) (len:=(s.size:Nat)) n hln;by_cases hk:(Pro.zi L (s.size:Nat) n).k=0
    ·obtain ⟨m1,m2,_,hb1⟩:=hm.1.1 hk;obtain ⟨hone,hlo⟩:=hm.2 hk;have hst:=st_eta m1 m2;have hd:=zgd hb1;cases hdd:Pro.xJ L (Pro.zi L (s.size:Nat) n).n
     ·rw [hdd] at hd;have ha:Pro.addO L (s.size:Nat) n=Pro.zi L (s.size:Nat) n:=(by unfold Pro.addO;rw [if_neg (by simp [hk]),if_neg (by simp [hdd])]);rw [ha,if_neg (by simp [hk]),Ref.zeJ hc hc1 (by rw [hst,<-hd];simp),hst];have hgt:p<(Ref.za s (st0 p)).2.2.i:=by
       have:=hb1.good.le;by_cases hh:p<(Ref.za s (st0 p)).2.2.i
       ·exact hh
       ·exfalso;have:=br_mono h hb1 (by omega);omega
      exact zeO f g _ _ _ hb1 (by omega) (by omega)
     ·rw [hdd] at hd;have hdy:=Pro.Jp hdd;have h45:=(hb1.eqv 45 (by omega)).1 hdy.1;have hb2:=hb1.go h45 (by omega) (by omega);have hlt2:(Ref.za s (st0 p)).2.2.i+1<s.size:=by
       by_cases hh:(Ref.za s (st0 p)).2.2.i+1<s.size
       ·exact hh
       ·exact absurd ((hb2.eqv (-1) (by omega)).2 (Zq _ _ (by omega))) hdy.2.2
      have hm2:=zeB hb2 hlt2;have hgo:(Ref.za s (st0 p)).2.2.go 1=st0 ((Ref.za s (st0 p)).2.2.i+1):=(by rw [hst];rfl);have hr2:Ref.rangeB s (Ref.za s (st0 p)).2.2=true:=(by rw [hst];exact hd.symm);have hmi2:=Pro.vD (L:=L) (len:=(s.size:Nat)) ((Pro.zi L (s.size:Nat) n).n+1) (Pro.VF hdy.2.2);by_cases hk2:(Pro.zi L (s.size:Nat) ((Pro.zi L (s.size:Nat) n).n+1)).k=0
      ·obtain ⟨p1,p2,_,hb3⟩:=hm2.1.1 hk2;obtain ⟨htwo,hlo2⟩:=hm2.2 hk2;have hst2:=st_eta p1 p2;have hbad:Ref.badB (Ref.za s (st0 p)).1 (Ref.za s ((Ref.za s (st0 p)).2.2.go 1)).1 (Ref.za s (st0 p)).2.1 (Ref.za s ((Ref.za s (st0 p)).2.2.go 1)).2.1=true↔(Pro.many L n=true\/Pro.many L ((Pro.zi L (s.size:Nat) n).n+1)=true\/(Pro.zi L (s.size:Nat) ((Pro.zi L (s.size:Nat) n).n+1)).v<(Pro.zi L (s.size:Nat) n).v):=by
        rw [hgo];unfold Ref.badB;rw [hone,htwo];cases q1:Pro.many L n
        ·cases q2:Pro.many L ((Pro.zi L (s.size:Nat) n).n+1)
         ·rw [q1] at hone;rw [q2] at htwo;rw [hlo hone,hlo2 htwo];simp [Ref.loOf];exact decide_eq_true_iff
         ·simp
        ·simp
       by_cases hbb:Pro.many L n=true\/Pro.many L ((Pro.zi L (s.size:Nat) n).n+1)=true\/(Pro.zi L (s.size:Nat) ((Pro.zi L (s.size:Nat) n).n+1)).v<(Pro.zi L (s.size:Nat) n).v
       ·have ha:Pro.addO L (s.size:Nat) n=Pro.bad 4 (Pro.zC L (s.size:Nat) (Pro.zi L (s.size:Nat) n).n) (Pro.zi L (s.size:Nat) ((Pro.zi L (s.size:Nat) n).n+1)).n:=by
         unfold Pro.addO;rw [if_neg (by simp [hk]),if_pos hdd];unfold Pro.xj;rw [if_neg (by simp [hk2]),if_pos hbb]
        rw [ha,if_pos (by simp [Pro.bad]),Ref.zff hc hc1 hr2 (by rw [hgo];exact p1) (hbad.2 hbb),hgo,hst2,fail0];exact zeq (by decide) rfl hb1.place.symm
       ·have ha:Pro.addO L (s.size:Nat) n=Pro.zi L (s.size:Nat) ((Pro.zi L (s.size:Nat) n).n+1):=by
         unfold Pro.addO;rw [if_neg (by simp [hk]),if_pos hdd];unfold Pro.xj;rw [if_neg (by simp [hk2]),if_neg hbb]
        rw [ha,if_neg (by simp [hk2]),Ref.zeE hc hc1 hr2 (by rw [hgo];exact p1) (fun hh=>hbb (hbad.1 hh)),hgo,hst2];have hgt:p<(Ref.za s (st0 ((Ref.za s (st0 p)).2.2.i+1))).2.2.i:=by
         by_cases hh:p<(Ref.za s (st0 ((Ref.za s (st0 p)).2.2.i+1))).2.2.i
         ·exact hh
         ·exfalso;have:=br_mono h hb3 (by omega);omega
        exact zeO f g _ _ _ hb3 (by omega) (by omega)
      ·have ha:Pro.addO L (s.size:Nat) n=Pro.zi L (s.size:Nat) ((Pro.zi L (s.size:Nat) n).n+1):=by
        unfold Pro.addO;rw [if_neg (by simp [hk]),if_pos hdd];unfold Pro.xj;rw [if_pos hk2]
       have he:=hm2.1.2 hk2;rw [ha,if_pos hk2,Ref.ze0 hc hc1 hr2 (by rw [hgo,he.1];omega),hgo];exact ⟨fun hh=>absurd hh hk2,fun _=>he⟩
    ·have ha:Pro.addO L (s.size:Nat) n=Pro.zi L (s.size:Nat) n:=(by unfold Pro.addO;rw [if_pos hk]);have he:=hm.1.2 hk;have hne:(Ref.za s (st0 p)).2.2.e≠0:=(by rw [he.1];omega);rw [ha,if_pos hk,Ref.zeJ hc hc1 (by unfold Ref.rangeB;simp [hne])];have hce:=zgT (s:=s) g (ps++[(Ref.za s (st0 p)).1]) (Ref.za s (st0 p)).2.2 hne;exact ⟨fun hh=>absurd hh hk,fun _=>⟨by rw [hce.1];exact he.1,by rw [hce.2];exact he.2⟩⟩
   ·have hb0:zd s p = -1:=Zq s p (by omega);have hend:=h.stop hlt;rw [if_pos (by omega),Ref.zeZ hc (by show zd s p<0;omega),fail0];exact zeq (by decide) rfl (by have:=h.good.le;show (p:Int)=((s.size:Nat):Int);omega)
end Eqv
namespace Eqv
variable {s:ByteArray} {L:List (Int×Int)}
theorem dig_same {n p:Nat}(h:Br s L n p):Pro.dig (Pro.zf L n)=Ref.digitB (zd s p):=by
 unfold Pro.dig Ref.digitB;rcases h.alike with ⟨e,_⟩ |⟨a,b⟩
 ·rw [e]
 ·have a1:decide (Pro.zf L n<=57)=false:=decide_eq_false (by omega);have b1:decide (zd s p<=57)=false:=decide_eq_false (by omega);rw [a1,b1,Bool.and_false,Bool.and_false]
theorem digb {b:Int}(h:Ref.digitB b=true):48<=b/\b<=57:=by unfold Ref.digitB at h;simpa using h
theorem zeV:∀ (f g:Nat) (c d:Int) (n p:Nat),Br s L n p->L.length<n+f->s.size<p+g->0<=d->c=min d 101->
  (Pro.countL L f c n).1=min (Ref.countL s g d (st0 p)).1 101/\0<=(Ref.countL s g d (st0 p)).1/\(Ref.countL s g d (st0 p)).2=st0 (Ref.countL s g d (st0 p)).2.i/\Br s L (Pro.countL L f c n).2 (Ref.countL s g d (st0 p)).2.i/\p<=(Ref.countL s g d (st0 p)).2.i
 |0,g,c,d,n,p,h,hf,hg,hd,hc=>by have:=h.le;omega
 |f+1,0,c,d,n,p,h,hf,hg,hd,hc=>by have:=h.good.le;omega
 |f+1,g+1,c,d,n,p,h,hf,hg,hd,hc=>by
  have hds:=dig_same h;cases hb:Ref.digitB (zd s p)
  ·rw [hb] at hds;rw [Ref.countL_stop (st:=st0 p) hb,Pro.countL_stop hds];exact ⟨hc,hd,rfl,h,z8 _⟩
  ·rw [hb] at hds;have hx:=digb hb;have hl:Pro.zf L n=zd s p:=h.ascii (by omega);rw [Ref.countL_go (st:=st0 p) hb,Pro.countL_go hds,hl,go0];have hi:(st0 p).i=p:=rfl;rw [hi];have:=zeV f g (min (c*10+(zd s p-48)) 101) (if d<=100 then 10*d+zd s p-48 else d) (n+1) (p+1) (h.next (by omega) (by omega)) (by omega) (by omega) (by split<;>omega) (by split<;>omega);exact ⟨this.1,this.2.1,this.2.2.1,this.2.2.2.1,by have:=this.2.2.2.2;omega⟩
theorem zfK {n p:Nat}(h:Br s L n p):Same s L (Pro.zj L (s.size:Nat) n) (Ref.Kc s (st0 p)).1 (Ref.Kc s (st0 p)).2:=by
 have hl:=h.le;have hg:=h.good.le;have hi:(st0 p).i=p:=rfl;have hc:=zeV (L.length+1-n) (s.size+1-p) 0 0 n p h (by omega) (by omega) (by omega) (by omega);have hN:Ref.countN s (st0 p)=Ref.countL s (s.size+1-p) 0 (st0 p):=rfl;have hP:Pro.countP L n=Pro.countL L (L.length+1-n) 0 n:=rfl;have hds:=dig_same h;have hR:=Ref.zev (s:=s) (st:=st0 p) (n:=(Ref.countN s (st0 p)).1) (st':=(Ref.countN s (st0 p)).2) rfl;rw [hR,hN,hi];unfold Pro.zj;rw [hP];cases hb:Ref.digitB (zd s p)
 ·rw [hb] at hds;have hz:Ref.countL s (s.size+1-p) 0 (st0 p)=(0,st0 p):=by rw [show s.size+1-p=(s.size-p)+1 by omega];exact Ref.countL_stop (st:=st0 p) hb
  rw [if_pos hds,hz];rw [if_neg (show ¬(100:Int)<((0:Int),st0 p).1 from (by decide:¬(100:Int)<0)),if_pos (show ((0:Int),st0 p).2.i=p from rfl)];show Same s L _ 0 ((st0 p).fail 3 p);rw [fail0];exact zeq (by decide) rfl h.place.symm
 ·rw [hb] at hds;rw [if_neg (by simp [hds])];have hx:=digb hb;have hgt:p<(Ref.countL s (s.size+1-p) 0 (st0 p)).2.i:=by
   rw [show s.size+1-p=(s.size-p)+1 by omega,Ref.countL_go (st:=st0 p) hb,go0];have:=zeV (L.length+1-(n+1)) (s.size-p) (min (if (0:Int)<=100 then 10*0+zd s (st0 p).i-48 else 0) 101) (if (0:Int)<=100 then 10*0+zd s (st0 p).i-48 else 0) (n+1) (p+1) (h.next (by omega) (by omega)) (by have:=h.lt.2 ((yL s p).1 (by omega));omega) (by have:=(yL s p).1 (by omega);omega) (by rw [if_pos (by decide),hi];omega) rfl;have:=this.2.2.2.2;omega
  generalize Ref.countL s (s.size+1-p) 0 (st0 p)=r at *;generalize Pro.countL L (L.length+1-n) 0 n=t at *;obtain ⟨e1,e2,e3,e4,e5⟩:=hc;rw [e1];by_cases hbig:100<r.1
  ·rw [if_pos (by omega),if_pos hbig,if_neg (by omega),e3,fail0];exact zeq (by decide) rfl h.place.symm
  ·rw [if_neg (by omega),if_neg hbig,if_neg (by omega),e3];exact ⟨fun _=>⟨rfl,rfl,by show r.1=min r.1 101;omega,e4⟩,fun hh=>absurd rfl hh⟩
def SameQ (s:ByteArray)(L:List (Int×Int))(o:Pro.Out)(n:Nat)(mx:Int)(r:Int×Int×St):Prop:=(o.k=0->r.1=o.v/\r.2.1=mx/\r.2.2=st0 r.2.2.i/\Br s L n r.2.2.i)/\(o.k≠0->r.2.2.e=(o.k:Int)/\r.2.2.a=o.p)
theorem zgC {n p:Nat}(h:Br s L n p)(hb:zd s p=123):SameQ s L (Pro.zJ L (s.size:Nat) n).1 (Pro.zJ L (s.size:Nat) n).1.n (Pro.zJ L (s.size:Nat) n).2 (Ref.countsF s (st0 p)):=by
 have h1:=h.go hb (by omega) (by omega);have ha:=zfK h1;have hva:=Pro.qV (L:=L) (len:=(s.size:Nat)) (n+1) h1.le;have hi:(st0 p).i=p:=rfl;unfold Pro.zJ Ref.countsF;simp only [];rw [go0,hi];by_cases hk:(Pro.zj L (s.size:Nat) (n+1)).k=0
 ·obtain ⟨a1,a2,a3,a4⟩:=ha.1 hk;have hst:=st_eta a1 a2;rw [if_neg (by simp [hk]),a3,hst];generalize (Ref.Kc s (st0 (p+1))).2.i=p1 at *;generalize Pro.zj L (s.size:Nat) (n+1)=A at *;by_cases h125:zd s p1=125
  ·have e1:Ref.restF s A.v (st0 p1)=(A.v,st0 p1):=(by unfold Ref.restF;rw [if_neg (fun hh=>by have:zd s p1=44:=hh.2;omega)]);have e2:Ref.braceF s (st0 p1)=st0 p1:=(by unfold Ref.braceF;rw [if_neg (fun hh=>hh.2 h125)]);rw [if_pos ((a4.eqv 125 (by omega)).2 h125),e1,e2,go0,if_neg (by omega)];exact ⟨fun _=>⟨rfl,rfl,rfl,a4.go h125 (by omega) (by omega)⟩,fun hh=>absurd rfl hh⟩
  ·rw [if_neg (fun hh=>h125 ((a4.eqv 125 (by omega)).1 hh))];by_cases h44:zd s p1=44
   ·rw [if_neg (by simp;exact (a4.eqv 44 (by omega)).2 h44)];have b1:=a4.go h44 (by omega) (by omega);by_cases h3:zd s (p1+1)=125
    ·have e1:Ref.restF s A.v (st0 p1)=(-1,st0 (p1+1)):=(by unfold Ref.restF;rw [if_pos ⟨rfl,h44⟩,if_pos (show zd s ((st0 p1).i+1)=125 from h3),go0]);have e2:Ref.braceF s (st0 (p1+1))=st0 (p1+1):=(by unfold Ref.braceF;rw [if_neg (fun hh=>hh.2 h3)]);rw [if_pos ((b1.eqv 125 (by omega)).2 h3),e1,e2,go0,if_neg (by omega)];exact ⟨fun _=>⟨rfl,rfl,rfl,b1.go h3 (by omega) (by omega)⟩,fun hh=>absurd rfl hh⟩
    ·rw [if_neg (fun hh=>h3 ((b1.eqv 125 (by omega)).1 hh))];have e1:Ref.restF s A.v (st0 p1)=Ref.Kc s (st0 (p1+1)):=(by unfold Ref.restF;rw [if_pos ⟨rfl,h44⟩,if_neg (show ¬zd s ((st0 p1).i+1)=125 from h3),go0]);rw [e1];have hm:=zfK b1;have hvm:=Pro.qV (L:=L) (len:=(s.size:Nat)) (A.n+1) b1.le;by_cases hk2:(Pro.zj L (s.size:Nat) (A.n+1)).k=0
     ·obtain ⟨c1,c2,c3,c4⟩:=hm.1 hk2;have hst2:=st_eta c1 c2;rw [if_neg (by simp [hk2]),c3,hst2];generalize (Ref.Kc s (st0 (p1+1))).2.i=p2 at *;generalize Pro.zj L (s.size:Nat) (A.n+1)=M at *;by_cases h4:zd s p2=125
      ·have e2:Ref.braceF s (st0 p2)=st0 p2:=(by unfold Ref.braceF;rw [if_neg (fun hh=>hh.2 h4)]);rw [if_neg (by simp;exact (c4.eqv 125 (by omega)).2 h4),e2,go0];by_cases h5:M.v<A.v
       ·rw [if_pos h5,if_pos ⟨rfl,hvm.2.2.1,h5⟩,fail0];exact ⟨fun hh=>absurd hh (by simp [Pro.bad]),fun _=>⟨rfl,h.place.symm⟩⟩
       ·rw [if_neg h5,if_neg (fun hh=>h5 hh.2.2)];exact ⟨fun _=>⟨rfl,rfl,rfl,c4.go h4 (by omega) (by omega)⟩,fun hh=>absurd rfl hh⟩
      ·have e2:Ref.braceF s (st0 p2)=⟨p2,3,p2⟩:=(by unfold Ref.braceF;rw [if_pos ⟨rfl,h4⟩,fail0];rfl);rw [if_pos (fun hh=>h4 ((c4.eqv 125 (by omega)).1 hh)),e2];rw [if_neg (fun hh=>absurd hh.1 (show ¬(3:Int)=0 by decide))];exact ⟨fun hh=>absurd hh (by simp [Pro.bad]),fun _=>⟨rfl,c4.place.symm⟩⟩
     ·have he:=hm.2 hk2;have hne:(Ref.Kc s (st0 (p1+1))).2.e≠0:=(by rw [he.1];omega);have e2:Ref.braceF s (Ref.Kc s (st0 (p1+1))).2=(Ref.Kc s (st0 (p1+1))).2:=(by unfold Ref.braceF;rw [if_neg (fun hh=>hne hh.1)]);rw [if_pos hk2,e2,if_neg (fun hh=>hne hh.1)];exact ⟨fun hh=>absurd hh hk2,fun _=>he⟩
   ·have e1:Ref.restF s A.v (st0 p1)=(A.v,st0 p1):=(by unfold Ref.restF;rw [if_neg (fun hh=>h44 hh.2)]);have e2:Ref.braceF s (st0 p1)=⟨p1,3,p1⟩:=(by unfold Ref.braceF;rw [if_pos ⟨rfl,h125⟩,fail0];rfl);rw [if_pos (fun hh=>h44 ((a4.eqv 44 (by omega)).1 hh)),e1,e2];rw [if_neg (fun hh=>absurd hh.1 (show ¬(3:Int)=0 by decide))];exact ⟨fun hh=>absurd hh (by simp [Pro.bad]),fun _=>⟨rfl,a4.place.symm⟩⟩
 ·have he:=ha.2 hk;have hne:(Ref.Kc s (st0 (p+1))).2.e≠0:=by rw [he.1];omega
  have e1:Ref.restF s (Ref.Kc s (st0 (p+1))).1 (Ref.Kc s (st0 (p+1))).2=((Ref.Kc s (st0 (p+1))).1,(Ref.Kc s (st0 (p+1))).2):=by unfold Ref.restF;rw [if_neg (fun hh=>hne hh.1)]
  have e2:Ref.braceF s (Ref.Kc s (st0 (p+1))).2=(Ref.Kc s (st0 (p+1))).2:=by unfold Ref.braceF;rw [if_neg (fun hh=>hne hh.1)]
  rw [if_pos hk,e1,e2,if_neg (fun hh=>hne hh.1)];exact ⟨fun hh=>absurd hh hk,fun _=>he⟩
end Eqv
namespace Eqv
variable {s:ByteArray} {L:List (Int×Int)}
theorem ze5 {n p:Nat}(h:Br s L n p):Ref.lazyF s (st0 p)=st0 (Ref.lazyF s (st0 p)).i/\Br s L (Pro.jR L n) (Ref.lazyF s (st0 p)).i:=by
 unfold Ref.lazyF Pro.jR;by_cases hb:zd s p=63
 ·rw [if_pos ⟨rfl,hb⟩,if_pos ((h.eqv 63 (by omega)).2 hb)];exact ⟨rfl,h.go hb (by omega) (by omega)⟩
 ·rw [if_neg (fun hh=>hb hh.2),if_neg (fun hh=>hb ((h.eqv 63 (by omega)).1 hh))];exact ⟨rfl,h⟩
theorem zgU {n p:Nat}(h:Br s L n p)(hq:Ref.quantB (zd s p)=true):(Pro.zu L (s.size:Nat) n).1=true/\SameQ s L (Pro.zu L (s.size:Nat) n).2.1 (Pro.jR L (Pro.zu L (s.size:Nat) n).2.1.n) (Pro.zu L (s.size:Nat) n).2.2 (Ref.kp s (st0 p)):=by
 have hi:(st0 p).i=p:=rfl;have hc:=Ref.zeF hq;have e42:=h.eqv 42 (by omega);have e43:=h.eqv 43 (by omega);have e63:=h.eqv 63 (by omega);have e123:=h.eqv 123 (by omega);unfold Pro.zu Ref.kp;rw [hi];by_cases k1:zd s p=42
 ·have hz:=ze5 (h.go k1 (by omega) (by omega));rw [if_pos (e42.2 k1),if_neg (by omega),if_neg (by omega),if_pos k1,go0];exact ⟨rfl,fun _=>⟨rfl,rfl,hz.1,hz.2⟩,fun hh=>absurd rfl hh⟩
 ·by_cases k2:zd s p=43
  ·have hz:=ze5 (h.go k2 (by omega) (by omega));rw [if_neg (fun hh=>k1 (e42.1 hh)),if_pos (e43.2 k2),if_pos k2,go0];exact ⟨rfl,fun _=>⟨rfl,rfl,hz.1,hz.2⟩,fun hh=>absurd rfl hh⟩
  ·by_cases k3:zd s p=63
   ·have hz:=ze5 (h.go k3 (by omega) (by omega));rw [if_neg (fun hh=>k1 (e42.1 hh)),if_neg (fun hh=>k2 (e43.1 hh)),if_pos (e63.2 k3),if_neg k2,if_pos k3,go0];exact ⟨rfl,fun _=>⟨rfl,rfl,hz.1,hz.2⟩,fun hh=>absurd rfl hh⟩
   ·have k4:zd s p=123:=(by omega);have hcs:=zgC h k4;rw [if_neg (fun hh=>k1 (e42.1 hh)),if_neg (fun hh=>k2 (e43.1 hh)),if_neg (fun hh=>k3 (e63.1 hh)),if_pos (e123.2 k4),if_neg k2,if_neg k3,if_neg k1];refine ⟨rfl,fun hk=>?_,fun hk=>?_⟩
    ·obtain ⟨a1,a2,a3,a4⟩:=hcs.1 hk;rw [a3];have hz:=ze5 a4;exact ⟨a1,a2,hz.1,hz.2⟩
    ·have he:=hcs.2 hk;have:Ref.lazyF s (Ref.countsF s (st0 p)).2.2=(Ref.countsF s (st0 p)).2.2:=(by unfold Ref.lazyF;rw [if_neg (fun hh=>by have e1:=hh.1;have e2:=he.1;have:(Pro.zJ L (s.size:Nat) n).1.k≠0:=hk;omega)]);rw [this];exact he
theorem zgV {n p:Nat}(h:Br s L n p)(hq:Ref.quantB (zd s p)=false):Pro.zu L (s.size:Nat) n=(false,Pro.good 0 n,0):=by
 have e42:=h.eqv 42 (by omega);have e43:=h.eqv 43 (by omega);have e63:=h.eqv 63 (by omega);have e123:=h.eqv 123 (by omega);have hn:zd s p≠42/\zd s p≠43/\zd s p≠63/\zd s p≠123:=by unfold Ref.quantB at hq;simpa [and_assoc] using hq
 unfold Pro.zu;rw [if_neg (fun hh=>hn.1 (e42.1 hh)),if_neg (fun hh=>hn.2.1 (e43.1 hh)),if_neg (fun hh=>hn.2.2.1 (e63.1 hh)),if_neg (fun hh=>hn.2.2.2 (e123.1 hh))]
theorem zhn {n p:Nat}(h:Br s L n p)(hb:zd s p=40):Same s L (Pro.zS L (s.size:Nat) n) 0 (Ref.openF s (st0 p)):=by
 have h1:=h.go hb (by omega) (by omega);have hi:(st0 p).i=p:=rfl;unfold Pro.zS Ref.openF;rw [hi];by_cases k1:zd s (p+1)=63
 ·have h2:=h1.go k1 (by omega) (by omega);rw [if_pos ((h1.eqv 63 (by omega)).2 k1),if_pos k1];by_cases k2:zd s (p+2)=58
  ·rw [if_pos ((h2.eqv 58 (by omega)).2 k2),if_pos k2,go0];exact zet (h2.go k2 (by omega) (by omega))
  ·rw [if_neg (fun hh=>k2 ((h2.eqv 58 (by omega)).1 hh)),if_neg k2];have a1:=h2.eqv 61 (by omega);have a2:=h2.eqv 33 (by omega);have a3:=h2.eqv 60 (by omega);by_cases k3:zd s (p+2)=61\/zd s (p+2)=33\/zd s (p+2)=60
   ·have k3':Pro.zf L (n+2)=61\/Pro.zf L (n+2)=33\/Pro.zf L (n+2)=60:=by
     rcases k3 with k |k |k
     ·exact .inl (a1.2 k)
     ·exact .inr (.inl (a2.2 k))
     ·exact .inr (.inr (a3.2 k))
    rw [if_pos k3',if_pos k3,go0,fail0];exact zeq (by decide) rfl h.place.symm
   ·have k3':¬(Pro.zf L (n+2)=61\/Pro.zf L (n+2)=33\/Pro.zf L (n+2)=60):=fun hh=>by
     rcases hh with k |k |k
     ·exact k3 (.inl (a1.1 k))
     ·exact k3 (.inr (.inl (a2.1 k)))
     ·exact k3 (.inr (.inr (a3.1 k)))
    rw [if_neg k3',if_neg k3,go0,fail0];exact zeq (by decide) rfl h2.place.symm
 ·rw [if_neg (fun hh=>k1 ((h1.eqv 63 (by omega)).1 hh)),if_neg k1,go0];exact zet h1
end Eqv
namespace Ref
def scan:List Tok->Int->Nat->Option Nat
 | [],_,_=>none
 |t :: r,op,k=>if zen t.kind op=0 then some k else scan r (zen t.kind op) (k+1)
theorem zeG (t:Tok)(r:List Tok)(op:Int)(k:Nat):scan (t :: r) op k=if zen t.kind op=0 then some k else scan r (zen t.kind op) (k+1):=rfl
def qsize (k mn mx:Int):Int:=if mx<0 then (if mn=0 then 1 else mn)*k+1 else mn*k+(mx-mn)*(k+1)
def headKind (l:List Tok):Int:=wm l 0
def vq (rest:List Tok)(k:Int):Int×List Tok:=match rest with
 | []=>(k,[])
 |q :: r=>if q.kind=6 then (qsize k q.mn q.mx,r) else (k,q :: r)
def zep:Nat->List Tok->Int->Option Int
 |0,_,_=>none
 |_+1,[],n=>some n
 |f+1,t :: r,n=>
  if t.kind=5 then zep f r (n+1)
  else if t.kind=3 then
   (match scan r 1 0 with
    |none=>none
    |some j=>match zep f (r.take j) 0 with
     |none=>none
     |some k=>zep f (vq (r.drop (j+1)) k).2 (min 1000000 (n+(vq (r.drop (j+1)) k).1)))
  else zep f (vq r 1).2 (min 1000000 (n+(vq r 1).1))
def SizeIs (l:List Tok)(n z:Int):Prop:=∃ f,zep f l n=some z
theorem sizeS_up:∀ (f:Nat) (l:List Tok) (n z:Int),zep f l n=some z->zep (f+1) l n=some z
 |0,l,n,z,h=>by simp [zep] at h
 |f+1,[],n,z,h=>by simpa [zep] using h
 |f+1,t :: r,n,z,h=>by
  unfold zep at h;rw [show f+1+1=(f+1)+1 from rfl];unfold zep;split at h
  ·rename_i h5;rw [if_pos h5];exact sizeS_up f _ _ _ h
  ·rename_i h5;rw [if_neg h5];split at h
   ·rename_i h3;rw [if_pos h3];split at h
    ·cases h
    ·rename_i j hj;split at h
     ·cases h
     ·rename_i k hk;rw [sizeS_up f _ _ _ hk];exact sizeS_up f _ _ _ h
   ·rename_i h3;rw [if_neg h3];exact sizeS_up f _ _ _ h
theorem sizeS_le {f g:Nat}{l:List Tok}{n z:Int}(h:zep f l n=some z)(hg:f<=g):zep g l n=some z:=by
 induction g with
 |zero=>
  have:f=0:=by omega
  subst this;exact h
 |succ g ih=>
  by_cases hfg:f=g+1
  ·subst hfg;exact h
  ·exact sizeS_up g l n z (ih (by omega))
def TokB (t:Tok):Prop:=0<=t.mn/\t.mn<=100/\-1<=t.mx/\t.mx<=100/\(t.mx = -1\/t.mn<=t.mx)
def Bal (ts:List Tok):Prop:=(∀ (op:Int) (rest:List Tok) (k:Nat),1<=op->scan (ts++rest) op k=scan rest op (k+ts.length))/\∀ t∈ts,TokB t
theorem Bal.nil:Bal []:=⟨fun op rest k _=>by simp,fun t h=>by cases h⟩
theorem Bal.append {a b:List Tok}(ha:Bal a)(hb:Bal b):Bal (a++b):=by
 refine ⟨fun op rest k h=>?_,fun t h=>?_⟩
 ·rw [ql,ha.1 op _ k h,hb.1 op _ _ h,yS,Qh]
 ·rcases qe.1 h with h |h
  ·exact ha.2 t h
  ·exact hb.2 t h
theorem Bal.one {t:Tok}(h3:t.kind≠3)(h4:t.kind≠4)(hb:TokB t):Bal [t]:=by
 refine ⟨fun op rest k h=>?_,fun u h=>by simp at h;subst h;exact hb⟩;have:zen t.kind op=op:=by unfold zen;rw [if_neg h3,if_neg h4]
 show scan (t :: rest) op k=_;rw [zeG,this,if_neg (by omega)];rfl
theorem Bal.group {o c:Tok}{ts:List Tok}(ho:o.kind=3)(hc:c.kind=4)(hbo:TokB o)(hbc:TokB c)(h:Bal ts):Bal (o :: ts++[c]):=by
 refine ⟨fun op rest k hop=>?_,fun t ht=>by
  simp at ht;rcases ht with rfl |ht |rfl
  ·exact hbo
  ·exact h.2 t ht
  ·exact hbc⟩
 have e1:zen o.kind op=op+1:=by unfold zen;rw [if_pos ho]
 have e2:zen c.kind (op+1)=op:=by unfold zen;rw [if_neg (by omega),if_pos hc];omega
 show scan (o :: (ts++[c]++rest)) op k=_;rw [zeG,e1,if_neg (by omega),ql,h.1 (op+1) _ _ (by omega)];show scan (c :: rest) (op+1) _=_;rw [zeG,e2,if_neg (by omega)];simp only [qH,yS,jU];rw [show k+1+ts.length+1=k+(ts.length+1+(0+1)) by omega]
def zeo (ts:List Tok)(v:Int):Prop:=∀ n:Int,0<=n->∃ n',0<=n'/\min n' 301=min (n+v) 301/\∀ rest z,headKind rest≠6->SizeIs rest n' z->SizeIs (ts++rest) n z
theorem zeo.nil:zeo [] 0:=fun n h=>⟨n,h,by rw [Int.add_zero],fun _ _ _ hz=>hz⟩
theorem zeo.append {a b:List Tok}{x y:Int}(ha:zeo a x)(hb:zeo b y)(hx:0<=x)(hy:0<=y)(hh:headKind b≠6):zeo (a++b) (min (x+y) 301):=fun n h=>by
 obtain ⟨n1,p1,q1,r1⟩:=ha n h;obtain ⟨n2,p2,q2,r2⟩:=hb n1 p1;refine ⟨n2,p2,by omega,fun rest z hr hz=>?_⟩;rw [ql];refine r1 (b++rest) z ?_ (r2 rest z hr hz);cases b with
 |nil=>exact hr
 |cons t r=>exact hh
theorem zeo.weak {a:List Tok}{x y:Int}(ha:zeo a x)(h:min x 301=min y 301)(hx:0<=x)(_hy:0<=y):zeo a y:=fun n hn=>by
 obtain ⟨n1,p1,q1,r1⟩:=ha n hn;exact ⟨n1,p1,by omega,r1⟩
theorem zeo.bar {t:Tok}(h:t.kind=5):zeo [t] 1:=fun n hn=>⟨n+1,by omega,rfl,fun rest z _ ⟨f,hf⟩=>⟨f+1,by show zep (f+1) (t :: rest) n=_;unfold zep;rw [if_pos h];exact hf⟩⟩
theorem zeo.one {t:Tok}(h5:t.kind≠5)(h3:t.kind≠3):zeo [t] 1:=fun n hn=>⟨min 1000000 (n+1),by omega,by omega,fun rest z hr ⟨f,hf⟩=>⟨f+1,by
 show zep (f+1) (t :: rest) n=_;unfold zep;rw [if_neg h5,if_neg h3];have:vq rest 1=(1,rest):=by
  unfold vq;cases rest with
  |nil=>rfl
  |cons q r=>simp only [];rw [if_neg (show ¬q.kind=6 from hr)]
 rw [this];exact hf⟩⟩
theorem zeo.oneQ {t q:Tok}(h5:t.kind≠5)(h3:t.kind≠3)(h6:q.kind=6)(hq:0<=qsize 1 q.mn q.mx):zeo [t,q] (qsize 1 q.mn q.mx):=fun n hn=>⟨min 1000000 (n+qsize 1 q.mn q.mx),by omega,by omega,fun rest z hr ⟨f,hf⟩=>⟨f+1,by
 show zep (f+1) (t :: q :: rest) n=_;unfold zep;rw [if_neg h5,if_neg h3];have:vq (q :: rest) 1=(qsize 1 q.mn q.mx,rest):=by unfold vq;simp only [];rw [if_pos h6]
 rw [this];exact hf⟩⟩
theorem zeo.whole {ts:List Tok}{v:Int}(h:zeo ts v):∃ z,0<=z/\min z 301=min v 301/\SizeIs ts 0 z:=by
 obtain ⟨n',p,q,r⟩:=h 0 (by omega);refine ⟨n',p,by omega,?_⟩;have:=r [] n' (by decide) ⟨1,rfl⟩;rw [kT] at this;exact this
theorem zfd {ts rest:List Tok}{c:Tok}(hB:Bal ts)(hc:c.kind=4):scan (ts++c :: rest) 1 0=some ts.length:=by
 rw [hB.1 1 _ 0 (by omega),zeG];have:zen c.kind 1=0:=by unfold zen;rw [if_neg (by omega),if_pos hc];rfl
 rw [this,if_pos rfl,jY]
theorem zeo.group {o c:Tok}{ts:List Tok}{v:Int}(ho:o.kind=3)(hc:c.kind=4)(hB:Bal ts)(h:zeo ts v)(hv:0<=v):zeo (o :: ts++[c]) v:=fun n hn=>by
 obtain ⟨k,hk0,hk1,fk,hk2⟩:=h.whole;refine ⟨min 1000000 (n+k),by omega,by omega,fun rest z hr ⟨f,hf⟩=>⟨max fk f+1,?_⟩⟩;show zep (max fk f+1) (o :: (ts++[c]++rest)) n=_;rw [ql];show zep (max fk f+1) (o :: (ts++c :: rest)) n=_;unfold zep;rw [if_neg (by omega),if_pos ho,zfd hB hc];simp only [];rw [List.take_left,sizeS_le hk2 (by omega)];have hd:(ts++c :: rest).drop (ts.length+1)=rest:=by rw [<-Yw,List.drop_left];rfl
 rw [hd];have:vq rest k=(k,rest):=by
  unfold vq;cases rest with
  |nil=>rfl
  |cons q r=>simp only [];rw [if_neg (show ¬q.kind=6 from hr)]
 simp only [this];exact sizeS_le hf (by omega)
theorem zeo.groupQ {o c q:Tok}{ts:List Tok}{v w:Int}(ho:o.kind=3)(hc:c.kind=4)(h6:q.kind=6)(hB:Bal ts)(h:zeo ts v)(hw:0<=w)(hq:∀ k,0<=k->min k 301=min v 301->0<=qsize k q.mn q.mx/\min (qsize k q.mn q.mx) 301=min w 301):zeo (o :: ts++[c,q]) w:=fun n hn=>by
 obtain ⟨k,hk0,hk1,fk,hk2⟩:=h.whole;obtain ⟨hq0,hq1⟩:=hq k hk0 hk1;refine ⟨min 1000000 (n+qsize k q.mn q.mx),by omega,by omega,fun rest z hr ⟨f,hf⟩=>⟨max fk f+1,?_⟩⟩;show zep (max fk f+1) (o :: (ts++[c,q]++rest)) n=_;rw [ql];show zep (max fk f+1) (o :: (ts++c :: (q :: rest))) n=_;unfold zep;rw [if_neg (by omega),if_pos ho,zfd hB hc];simp only [];rw [List.take_left,sizeS_le hk2 (by omega)];have hd:(ts++c :: (q :: rest)).drop (ts.length+1)=q :: rest:=by rw [<-Yw,List.drop_left];rfl
 rw [hd];have:vq (q :: rest) k=(qsize k q.mn q.mx,rest):=by unfold vq;simp only [];rw [if_pos h6]
 simp only [this];exact sizeS_le hf (by omega)
end Ref
namespace Eqv
variable {s:ByteArray} {L:List (Int×Int)}
theorem mul_ge {a b:Int}(ha:1<=a)(hb:301<=b):301<=a*b:=by
 have:=vz ha (show (0:Int)<=b by omega);omega
theorem zfL {k v mn mx:Int}(hk:0<=k)(hv0:0<=v)(hv1:v<=301)(h:min k 301=min v 301)(h0:0<=mn)(h1:-1<=mx)(h2:mx = -1\/mn<=mx):0<=Ref.qsize k mn mx/\min (Ref.qsize k mn mx) 301=min (Pro.repS v mn mx) 301:=by
 have hnn:∀ z:Int,0<=z->Ref.qsize z mn mx=Pro.repS z mn mx:=by
  intro z hz;unfold Ref.qsize Pro.repS;by_cases hm:mx = -1
  ·rw [if_pos (by omega),if_pos hm];by_cases h0':mn=0
   ·rw [if_pos h0',h0'];rfl
   ·rw [if_neg h0',show max mn 1=mn by omega]
  ·rw [if_neg (by omega),if_neg hm]
 have hr0:0<=Pro.repS k mn mx:=Pro.XJ hk h0 h2;rw [hnn k hk];refine ⟨hr0,?_⟩;by_cases he:k=v
 ·rw [he]
 ·have hk1:301<=k:=by omega
  have hv2:301<=v:=by omega
  have big:∀ z:Int,301<=z->Pro.repS z mn mx=0/\mn=0/\mx=0\/301<=Pro.repS z mn mx:=by
   intro z hz;unfold Pro.repS;by_cases hm:mx = -1
   ·right;rw [if_pos hm];have:=mul_ge (a:=max mn 1) (b:=z) (by omega) hz;omega
   ·rw [if_neg hm];by_cases h0':mn=0
    ·by_cases h00:mx=0
     ·left;subst h0';subst h00;simp
     ·right;have:=mul_ge (a:=mx-mn) (b:=z+1) (by omega) (by omega);rw [h0'] at this ⊢;omega
    ·right;have:=mul_ge (a:=mn) (b:=z) (by omega) hz;have h3:0<=(mx-mn)*(z+1):=wg (by omega) (by omega);omega
  rcases big k hk1 with ⟨a1,a2,a3⟩ |a1<;>rcases big v hv2 with ⟨b1,b2,b3⟩ |b1
  ·rw [a1,b1]
  ·rw [a2,a3] at b1;unfold Pro.repS at b1;simp at b1
  ·rw [b2,b3] at a1;unfold Pro.repS at a1;simp at a1
  ·omega
theorem tokB0 {t:Tok}(h1:t.mn=0)(h2:t.mx=0):Ref.TokB t:=by unfold Ref.TokB;omega
def AtomOK (ts:List Tok)(v:Int):Prop:=Ref.Bal ts/\Ref.headKind ts≠6/\ts≠[]/\Ref.zeo ts v/\∀ q:Tok,q.kind=6->0<=q.mn->-1<=q.mx->(q.mx = -1\/q.mn<=q.mx)->Ref.zeo (ts++[q]) (min (Pro.repS v q.mn q.mx) 301)
theorem AtomOK.one {t:Tok}(h1:t.kind=1)(hb:Ref.TokB t):AtomOK [t] 1:=by
 refine ⟨Ref.Bal.one (by omega) (by omega) hb,?_,by simp,Ref.zeo.one (by omega) (by omega),?_⟩
 ·show t.kind≠6;omega
 ·intro q h6 a b c;have hq:=zfL (k:=1) (v:=1) (by omega) (by omega) (by omega) rfl a b c;have hr:=Pro.XJ (z:=1) (by omega) a c;exact (Ref.zeo.oneQ (t:=t) (q:=q) (by omega) (by omega) h6 hq.1).weak (by omega) hq.1 (by omega)
theorem AtomOK.group {o c:Tok}{ts:List Tok}{v:Int}(ho:o.kind=3)(hc:c.kind=4)(hbo:Ref.TokB o)(hbc:Ref.TokB c)(hB:Ref.Bal ts)(h:Ref.zeo ts v)(hv0:0<=v)(hv1:v<=301):AtomOK (o :: ts++[c]) v:=by
 refine ⟨hB.group ho hc hbo hbc,?_,by simp,Ref.zeo.group ho hc hB h hv0,?_⟩
 ·show o.kind≠6;omega
 ·intro q h6 a b e;have hr:=Pro.XJ (z:=v) hv0 a e;have:=Ref.zeo.groupQ (w:=min (Pro.repS v q.mn q.mx) 301) ho hc h6 hB h (by omega) (fun k hk hkv=>by have:=zfL hk hv0 hv1 hkv a b e;exact ⟨this.1,by omega⟩);rw [show o :: ts++[c]++[q]=o :: ts++[c,q] by simp];exact this
theorem zex {f:Nat}{l:List Tok}{op:Int}{atom:Bool}{st:St}(h:st.e≠0):∃ l',Ref.vp s f l op atom st=(l',st.e,st.a):=by
 cases f with
 |zero=>exact ⟨l,rfl⟩
 |succ f=>
  rw [Ref.zeK (fun hh=>h hh.2)];refine ⟨l,?_⟩;split
  ·rw [fail_nz h]
  ·rfl
def Goes (s:ByteArray)(L:List (Int×Int))(f:Nat)(l:List Tok)(op:Int)(atom:Bool)(p:Nat)(o:Pro.Out)(P:List Tok->Prop):Prop:=
 (o.k≠0->∃ l',Ref.vp s f l op atom (st0 p)=(l',(o.k:Int),o.p))/\
 (o.k=0->∃ ts f' p' atom',Ref.vp s f l op atom (st0 p)=Ref.vp s f' (l++ts) op atom' (st0 p')/\Br s L o.n p'/\s.size<p'+f'/\(atom'=true->Ref.quantB (zd s p')=false)/\P ts)
def TermP (v:Int)(ts:List Tok):Prop:=Ref.Bal ts/\Ref.zeo ts v/\Ref.headKind ts≠6
theorem zgW {f:Nat}{l:List Tok}{op:Int}{n p:Nat}{at':List Tok}{v:Int}(h:Br s L n p)(hf:s.size<p+f)(hA:AtomOK at' v)(hv0:0<=v)(hv1:v<=301){A:Pro.Out}(hk:A.k=0)(hn:A.n=n)(hv:A.v=v) :
  Goes s L f (l++at') op true p (if (Pro.zu L (s.size:Nat) A.n).1=false then A else if (Pro.zu L (s.size:Nat) A.n).2.1.k≠0 then (Pro.zu L (s.size:Nat) A.n).2.1 else Pro.good (min (Pro.repS A.v (Pro.zu L (s.size:Nat) A.n).2.1.v (Pro.zu L (s.size:Nat) A.n).2.2) 301) (Pro.jR L (Pro.zu L (s.size:Nat) A.n).2.1.n)) (fun ts=>ts=[]/\(if (Pro.zu L (s.size:Nat) A.n).1=false then True else False)\/∃ q:Tok,ts=[q]/\Ref.zeo (at'++[q]) (min (Pro.repS v (Pro.zu L (s.size:Nat) A.n).2.1.v (Pro.zu L (s.size:Nat) A.n).2.2) 301)/\Ref.Bal [q]/\(Pro.zu L (s.size:Nat) A.n).1=true/\q.kind=6/\q.mn=(Pro.zu L (s.size:Nat) A.n).2.1.v/\q.mx=(Pro.zu L (s.size:Nat) A.n).2.2):=by
 subst hv;rw [hn];cases hq:Ref.quantB (zd s p)
 ·have hqn:=zgV h hq;rw [hqn];simp only [if_true];exact ⟨fun hh=>absurd hk hh,fun _=>⟨[],f,p,true,by rw [kT],by rw [hn];exact h,hf,fun _=>hq,.inl ⟨rfl,trivial⟩⟩⟩
 ·obtain ⟨hq1,hqs⟩:=zgU h hq;have hqc:=Ref.zeF hq;have hlt:p<s.size:=(yL s p).1 (by omega);obtain ⟨f,rfl⟩:∃ f',f=f'+1:=⟨f-1,by omega⟩
  have hstep:=Ref.zfa (s:=s) (f:=f) (l:=l++at') (op:=op) (atom:=true) (st:=st0 p) ⟨hlt,rfl⟩ ⟨rfl,hq⟩;rw [if_neg (by simp [hq1])];by_cases hk2:(Pro.zu L (s.size:Nat) n).2.1.k=0
  ·obtain ⟨a1,a2,a3,a4⟩:=hqs.1 hk2;have hvb:=Pro.VP (L:=L) (len:=(s.size:Nat)) n hq1 hk2;rw [if_neg (by simp [hk2])];refine ⟨fun hh=>absurd rfl hh,fun _=>⟨[⟨6,false,[],0,(Ref.kp s (st0 p)).1,(Ref.kp s (st0 p)).2.1⟩],f,(Ref.kp s (st0 p)).2.2.i,false,?_,a4,?_,(fun hh=>by cases hh),.inr ⟨_,rfl,?_,Ref.Bal.one (show (6:Int)≠3 by decide) (show (6:Int)≠4 by decide) ⟨by show 0<=(Ref.kp s (st0 p)).1;rw [a1];exact hvb.1,by show (Ref.kp s (st0 p)).1<=100;rw [a1];exact hvb.2.1,by show -1<=(Ref.kp s (st0 p)).2.1;rw [a2];exact hvb.2.2.1,by show (Ref.kp s (st0 p)).2.1<=100;rw [a2];exact hvb.2.2.2.1,by show (Ref.kp s (st0 p)).2.1 = -1\/(Ref.kp s (st0 p)).1<=(Ref.kp s (st0 p)).2.1;rw [a1,a2];exact hvb.2.2.2.2⟩,hq1,rfl,a1,a2⟩⟩⟩
   ·rw [hstep,<-a3]
   ·have:=(Ref.zfI (s:=s) (st:=st0 p) h.good hq).1;have hi:(st0 p).i=p:=rfl;omega
   ·have:=hA.2.2.2.2 ⟨6,false,[],0,(Ref.kp s (st0 p)).1,(Ref.kp s (st0 p)).2.1⟩ rfl (by show 0<=(Ref.kp s (st0 p)).1;rw [a1];exact hvb.1) (by show -1<=(Ref.kp s (st0 p)).2.1;rw [a2];exact hvb.2.2.1) (by show (Ref.kp s (st0 p)).2.1 = -1\/(Ref.kp s (st0 p)).1<=(Ref.kp s (st0 p)).2.1;rw [a1,a2];exact hvb.2.2.2.2);have e1:({ kind:=6,neg:=false,parts:=[],c:=0,mn:=(Ref.kp s (st0 p)).1,mx:=(Ref.kp s (st0 p)).2.1 }:Tok).mn=(Pro.zu L (s.size:Nat) n).2.1.v:=a1;have e2:({ kind:=6,neg:=false,parts:=[],c:=0,mn:=(Ref.kp s (st0 p)).1,mx:=(Ref.kp s (st0 p)).2.1 }:Tok).mx=(Pro.zu L (s.size:Nat) n).2.2:=a2;rw [e1,e2] at this;exact this
  ·have he:=hqs.2 hk2;rw [if_pos hk2];refine ⟨fun _=>?_,fun hh=>absurd hh hk2⟩;obtain ⟨l',hl⟩:=zex (s:=s) (f:=f) (l:=l++at'++[⟨6,false,[],0,(Ref.kp s (st0 p)).1,(Ref.kp s (st0 p)).2.1⟩]) (op:=op) (atom:=false) (st:=(Ref.kp s (st0 p)).2.2) (by rw [he.1];omega);exact ⟨l',by rw [hstep,hl,he.1,he.2]⟩
end Eqv
end
end Go.Proofs.YtcgleficedipkaaGreatDoor
