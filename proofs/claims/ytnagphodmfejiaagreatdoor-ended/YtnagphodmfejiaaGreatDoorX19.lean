/- The reader beside the lexer: what an atom's tokens add, with its quantifier. -/
import Derived.Test.YtnagphodmfejiaaGreatDoorX17
import Derived.Test.YtnagphodmfejiaaGreatDoorX15
namespace Go.Proofs.YtnagphodmfejiaaGreatDoor
section
open Go.RowKit
namespace Eqv
variable {s:ByteArray} {L:List (Int×Int)}
theorem zau {a b:Int}(ha:1≤a)(hb:301≤b):301≤a*b:=by
 have:=Int.mul_le_mul_of_nonneg_right ha (show (0:Int)≤b by omega)
 omega
theorem QX {k v mn mx:Int}(hk:0≤k)(hv0:0≤v)(hv1:v≤301)(h:min k 301=min v 301)(h0:0≤mn)(h1:-1≤mx)(h2:mx = -1∨mn≤mx):0≤Ref.yR k mn mx∧min (Ref.yR k mn mx) 301=min (Pro.repS v mn mx) 301:=by
 have hnn:∀ z:Int,0≤z→Ref.yR z mn mx=Pro.repS z mn mx:=by
  intro z hz
  unfold Ref.yR Pro.repS
  by_cases hm:mx = -1
  ·rw [if_pos (by omega),if_pos hm]
   by_cases h0':mn=0
   ·rw [if_pos h0',h0'];rfl
   ·rw [if_neg h0',show max mn 1=mn by omega]
  ·rw [if_neg (by omega),if_neg hm]
 have hr0:0≤Pro.repS k mn mx:=Pro.wz hk h0 h2
 rw [hnn k hk]
 refine ⟨hr0,?_⟩
 by_cases he:k=v
 ·rw [he]
 ·have hk1:301≤k:=by omega
  have hv2:301≤v:=by omega
  have big:∀ z:Int,301≤z→Pro.repS z mn mx=0∧mn=0∧mx=0∨301≤Pro.repS z mn mx:=by
   intro z hz
   unfold Pro.repS
   by_cases hm:mx = -1
   ·right
    rw [if_pos hm]
    have:=zau (a:=max mn 1) (b:=z) (by omega) hz
    omega
   ·rw [if_neg hm]
    by_cases h0':mn=0
    ·by_cases h00:mx=0
     ·left;subst h0';subst h00;simp
     ·right
      have:=zau (a:=mx-mn) (b:=z+1) (by omega) (by omega)
      rw [h0'] at this ⊢
      omega
    ·right
     have:=zau (a:=mn) (b:=z) (by omega) hz
     have h3:0≤(mx-mn)*(z+1):=Int.mul_nonneg (by omega) (by omega)
     omega
  rcases big k hk1 with ⟨a1,a2,a3⟩ |a1<;>rcases big v hv2 with ⟨b1,b2,b3⟩ |b1
  ·rw [a1,b1]
  ·rw [a2,a3] at b1;unfold Pro.repS at b1;simp at b1
  ·rw [b2,b3] at a1;unfold Pro.repS at a1;simp at a1
  ·omega
theorem YQ {t:Tok}(h1:t.mn=0)(h2:t.mx=0):Ref.jz t:=by unfold Ref.jz;omega
def kE (ts:List Tok)(v:Int):Prop:=Ref.Bal ts∧Ref.qA ts≠6∧ts≠[]∧Ref.yh ts v∧∀ q:Tok,q.kind=6→0≤q.mn→-1≤q.mx→(q.mx = -1∨q.mn≤q.mx)→Ref.yh (ts++[q]) (min (Pro.repS v q.mn q.mx) 301)
theorem kE.one {t:Tok}(h1:t.kind=1)(hb:Ref.jz t):kE [t] 1:=by
 refine ⟨Ref.Bal.one (by omega) (by omega) hb,?_,by simp,Ref.yh.one (by omega) (by omega),?_⟩
 ·show t.kind≠6;omega
 ·intro q h6 a b c
  have hq:=QX (k:=1) (v:=1) (by omega) (by omega) (by omega) rfl a b c
  have hr:=Pro.wz (z:=1) (by omega) a c
  exact (Ref.yh.oneQ (t:=t) (q:=q) (by omega) (by omega) h6 hq.1).weak (by omega) hq.1 (by omega)
theorem kE.group {o c:Tok}{ts:List Tok}{v:Int}(ho:o.kind=3)(hc:c.kind=4)(hbo:Ref.jz o)(hbc:Ref.jz c)(hB:Ref.Bal ts)(h:Ref.yh ts v)(hv0:0≤v)(hv1:v≤301):kE (o :: ts++[c]) v:=by
 refine ⟨hB.group ho hc hbo hbc,?_,by simp,Ref.yh.group ho hc hB h hv0,?_⟩
 ·show o.kind≠6;omega
 ·intro q h6 a b e
  have hr:=Pro.wz (z:=v) hv0 a e
  have:=Ref.yh.groupQ (w:=min (Pro.repS v q.mn q.mx) 301) ho hc h6 hB h (by omega) (fun k hk hkv=>by have:=QX hk hv0 hv1 hkv a b e;exact ⟨this.1,by omega⟩)
  rw [show o :: ts++[c]++[q]=o :: ts++[c,q] by simp]
  exact this
theorem ke {f:Nat}{l:List Tok}{op:Int}{atom:Bool}{st:St}(h:st.e≠0):∃ l',Ref.zQ s f l op atom st=(l',st.e,st.a):=by
 cases f with
 |zero=>exact ⟨l,rfl⟩
 |succ f=>
  rw [Ref.vD (fun hh=>h hh.2)]
  refine ⟨l,?_⟩
  split
  ·rw [fail_nz h]
  ·rfl
def Goes (s:ByteArray)(L:List (Int×Int))(f:Nat)(l:List Tok)(op:Int)(atom:Bool)(p:Nat)(o:Pro.Out)(P:List Tok→Prop):Prop:=
 (o.k≠0→∃ l',Ref.zQ s f l op atom (st0 p)=(l',(o.k:Int),o.p))∧
 (o.k=0→∃ ts f' p' atom',Ref.zQ s f l op atom (st0 p)=Ref.zQ s f' (l++ts) op atom' (st0 p')∧Br s L o.n p'∧s.size<p'+f'∧(atom'=true→Ref.xy (zd s p')=false)∧P ts)
def TermP (v:Int)(ts:List Tok):Prop:=Ref.Bal ts∧Ref.yh ts v∧Ref.qA ts≠6
theorem zav {f:Nat}{l:List Tok}{op:Int}{n p:Nat}{at':List Tok}{v:Int}(h:Br s L n p)(hf:s.size<p+f)(hA:kE at' v)(hv0:0≤v)(hv1:v≤301){A:Pro.Out}(hk:A.k=0)(hn:A.n=n)(hv:A.v=v) :
  Goes s L f (l++at') op true p (if (Pro.zz L (s.size:Nat) A.n).1=false then A else if (Pro.zz L (s.size:Nat) A.n).2.1.k≠0 then (Pro.zz L (s.size:Nat) A.n).2.1 else Pro.good (min (Pro.repS A.v (Pro.zz L (s.size:Nat) A.n).2.1.v (Pro.zz L (s.size:Nat) A.n).2.2) 301) (Pro.vI L (Pro.zz L (s.size:Nat) A.n).2.1.n)) (fun ts=>ts=[]∧(if (Pro.zz L (s.size:Nat) A.n).1=false then True else False)∨∃ q:Tok,ts=[q]∧Ref.yh (at'++[q]) (min (Pro.repS v (Pro.zz L (s.size:Nat) A.n).2.1.v (Pro.zz L (s.size:Nat) A.n).2.2) 301)∧Ref.Bal [q]∧(Pro.zz L (s.size:Nat) A.n).1=true∧q.kind=6∧q.mn=(Pro.zz L (s.size:Nat) A.n).2.1.v∧q.mx=(Pro.zz L (s.size:Nat) A.n).2.2):=by
 subst hv
 rw [hn]
 cases hq:Ref.xy (zd s p)
 ·have hqn:=zar h hq
  rw [hqn]
  simp only [if_true]
  exact ⟨fun hh=>absurd hk hh,fun _=>⟨[],f,p,true,by rw [List.append_nil],by rw [hn];exact h,hf,fun _=>hq,.inl ⟨rfl,trivial⟩⟩⟩
 ·obtain ⟨hq1,hqs⟩:=zaq h hq
  have hqc:=Ref.kT hq
  have hlt:p<s.size:=(zx s p).1 (by omega)
  obtain ⟨f,rfl⟩:∃ f',f=f'+1:=⟨f-1,by omega⟩
  have hstep:=Ref.Yn (s:=s) (f:=f) (l:=l++at') (op:=op) (atom:=true) (st:=st0 p) ⟨hlt,rfl⟩ ⟨rfl,hq⟩
  rw [if_neg (by simp [hq1])]
  by_cases hk2:(Pro.zz L (s.size:Nat) n).2.1.k=0
  ·obtain ⟨a1,a2,a3,a4⟩:=hqs.1 hk2
   have hvb:=Pro.QF (L:=L) (len:=(s.size:Nat)) n hq1 hk2
   rw [if_neg (by simp [hk2])]
   refine ⟨fun hh=>absurd rfl hh,fun _=>⟨[⟨6,false,[],0,(Ref.zO s (st0 p)).1,(Ref.zO s (st0 p)).2.1⟩],f,(Ref.zO s (st0 p)).2.2.i,false,?_,a4,?_,(fun hh=>by cases hh),.inr ⟨_,rfl,?_,Ref.Bal.one (show (6:Int)≠3 by decide) (show (6:Int)≠4 by decide) ⟨by show 0≤(Ref.zO s (st0 p)).1;rw [a1];exact hvb.1,by show (Ref.zO s (st0 p)).1≤100;rw [a1];exact hvb.2.1,by show -1≤(Ref.zO s (st0 p)).2.1;rw [a2];exact hvb.2.2.1,by show (Ref.zO s (st0 p)).2.1≤100;rw [a2];exact hvb.2.2.2.1,by show (Ref.zO s (st0 p)).2.1 = -1∨(Ref.zO s (st0 p)).1≤(Ref.zO s (st0 p)).2.1;rw [a1,a2];exact hvb.2.2.2.2⟩,hq1,rfl,a1,a2⟩⟩⟩
   ·rw [hstep,←a3]
   ·have:=(Ref.Qf (s:=s) (st:=st0 p) h.good hq).1
    have hi:(st0 p).i=p:=rfl
    omega
   ·have:=hA.2.2.2.2 ⟨6,false,[],0,(Ref.zO s (st0 p)).1,(Ref.zO s (st0 p)).2.1⟩ rfl (by show 0≤(Ref.zO s (st0 p)).1;rw [a1];exact hvb.1) (by show -1≤(Ref.zO s (st0 p)).2.1;rw [a2];exact hvb.2.2.1) (by show (Ref.zO s (st0 p)).2.1 = -1∨(Ref.zO s (st0 p)).1≤(Ref.zO s (st0 p)).2.1;rw [a1,a2];exact hvb.2.2.2.2)
    have e1:({ kind:=6,neg:=false,parts:=[],c:=0,mn:=(Ref.zO s (st0 p)).1,mx:=(Ref.zO s (st0 p)).2.1 }:Tok).mn=(Pro.zz L (s.size:Nat) n).2.1.v:=a1
    have e2:({ kind:=6,neg:=false,parts:=[],c:=0,mn:=(Ref.zO s (st0 p)).1,mx:=(Ref.zO s (st0 p)).2.1 }:Tok).mx=(Pro.zz L (s.size:Nat) n).2.2:=a2
    rw [e1,e2] at this
    exact this
  ·have he:=hqs.2 hk2
   rw [if_pos hk2]
   refine ⟨fun _=>?_,fun hh=>absurd hh hk2⟩
   obtain ⟨l',hl⟩:=ke (s:=s) (f:=f) (l:=l++at'++[⟨6,false,[],0,(Ref.zO s (st0 p)).1,(Ref.zO s (st0 p)).2.1⟩]) (op:=op) (atom:=false) (st:=(Ref.zO s (st0 p)).2.2) (by rw [he.1];omega)
   exact ⟨l',by rw [hstep,hl,he.1,he.2]⟩
end Eqv
open Sm (Tree)
namespace Eqv
variable {s:ByteArray} {L:List (Int×Int)}
def XC (a:Int):Int:=if a=0 then 94 else if a=1 then 36 else if a=2 then 98 else 66
section
variable (A:List Tok→Tree→Prop)
def TokS:List Tok→List Tree→Prop
 |ts,[]=>ts=[]
 |ts,t :: r=>∃ a b,ts=a++b∧A a t∧TokS b r
def TokP:List Tok→List Tree→Prop
 |ts,[]=>ts=[]
 |ts,t :: r=>∃ a b bar,ts=a++bar :: b∧bar.kind=5∧t.kind=6∧TokS A a t.kids∧TokP b r
def kw (ts:List Tok)(kids:List Tree):Prop:=∃ pre fin init last,ts=pre++fin∧kids=init++[last]∧TokP A pre init∧last.kind=6∧TokS A fin last.kids
end
def xZ:Nat→List Tok→Tree→Prop
 |0,_,_=>False
 |f+1,ts,T=>
  (T.kind=0∧0≤T.a∧T.a≤3∧∃ t,ts=[t]∧t.kind=2∧t.c=XC T.a∧t.parts=[])∨(∃ t,ts=[t]∧t.kind=1∧LeafTok t T)∨
  (T.kind=5∧∃ o c us,ts=o :: us++[c]∧o.kind=3∧c.kind=4∧Ref.Bal us∧kw (xZ f) us T.kids)∨
  (T.kind=7∧∃ us q,ts=us++[q]∧q.kind=6∧q.mn=T.a∧q.mx=T.b∧(T.kid.kind=5∨Ke T.kid)∧xZ f us T.kid)
section
variable {A B:List Tok→Tree→Prop}
theorem TokS.mono (h:∀ a t,A a t→B a t):∀ (ts:List Tok) (l:List Tree),TokS A ts l→TokS B ts l
 |_,[],e=>e
 |_,_ :: r,⟨a,b,e,h1,h2⟩=>⟨a,b,e,h _ _ h1,TokS.mono h b r h2⟩
theorem TokP.mono (h:∀ a t,A a t→B a t):∀ (ts:List Tok) (l:List Tree),TokP A ts l→TokP B ts l
 |_,[],e=>e
 |_,_ :: r,⟨a,b,bar,e,h0,h1,h2,h3⟩=>⟨a,b,bar,e,h0,h1,TokS.mono h a _ h2,TokP.mono h b r h3⟩
theorem kw.mono (h:∀ a t,A a t→B a t){ts:List Tok}{l:List Tree}:kw A ts l→kw B ts l
 |⟨pre,fin,init,last,h1,h2,h3,h4,h5⟩=>⟨pre,fin,init,last,h1,h2,TokP.mono h _ _ h3,h4,TokS.mono h _ _ h5⟩
theorem xZ.up:∀ (f g:Nat)(ts:List Tok)(T:Tree),f≤g→xZ f ts T→xZ g ts T
 |0,_,_,_,_,h=>h.elim
 |f+1,0,_,_,hg,_=>by omega
 |f+1,g+1,ts,T,hg,h=>by
  rcases h with h |h |⟨h1,o,c,us,h2,h3,h4,h5,h6⟩ |⟨h1,us,q,h2,h3,h4,h5,h6,h7⟩
  ·exact .inl h
  ·exact .inr (.inl h)
  ·exact .inr (.inr (.inl ⟨h1,o,c,us,h2,h3,h4,h5,kw.mono (fun a t ha=>xZ.up f g a t (by omega) ha) h6⟩))
  ·exact .inr (.inr (.inr ⟨h1,us,q,h2,h3,h4,h5,h6,xZ.up f g us T.kid (by omega) h7⟩))
end
def jd (s:ByteArray)(L:List (Int×Int))(op:Int)(D:Nat→Pro.Out)(F:Nat)(DT:Nat→Tree):Prop:=∀ (f:Nat) (l:List Tok) (atom:Bool) (n p:Nat),Br s L n p→s.size<p+f→zd s p=40→
 ((D n).k≠0→∃ l',Ref.zQ s f l op atom (st0 p)=(l',((D n).k:Int),(D n).p))∧
 ((D n).k=0→∃ ts f' p',Ref.zQ s f l op atom (st0 p)=Ref.zQ s f' (l++ts) op true (st0 p')∧Br s L (D n).n p'∧s.size<p'+f'∧kE ts (D n).v∧(DT n).kind=5∧xZ F ts (DT n))
theorem no_q {atom:Bool}{p:Nat}(hA:atom=true→Ref.xy (zd s p)=false):¬(atom=true∧Ref.xy (zd s (st0 p).i)=true):=fun hh=>by
 have e1:=hA hh.1
 have e2:Ref.xy (zd s p)=true:=hh.2
 rw [e1] at e2
 cases e2
theorem YR {f:Nat}{l:List Tok}{op:Int}{atom:Bool}{p:Nat}(hlt:p<s.size)(hA:atom=true→Ref.xy (zd s p)=false)(h40:zd s p≠40)(hop:0≤op)(h1:(Ref.zy s (st0 p)).1.kind=1) :
  Ref.zQ s (f+1) l op atom (st0 p)=Ref.zQ s f (l++[(Ref.zy s (st0 p)).1]) op true (Ref.zy s (st0 p)).2:=by
 rw [Ref.qC (st:=st0 p) ⟨hlt,rfl⟩ (no_q hA) (fun hh=>h40 hh.1),h1]
 have e1:Ref.yf 1 op=op:=by unfold Ref.yf;simp
 rw [e1,if_neg (by omega)]
 rfl
theorem Kg (m:Bool)(c:Int):Ke (Pro.oneT m c):=by
 cases m
 ·exact ⟨by show 1≤2;decide,by show 2≤4;decide⟩
 ·exact ⟨by show 1≤3;decide,by show 3≤4;decide⟩
theorem zaw {o:Pro.Out}{v:Int}{st:St}(h:Same s L o v st)(hk:o.k≠0):st.e≠0:=by rw [(h.2 hk).1];omega
theorem zcr (hs4:s.size≤400){op:Int}{D:Nat→Pro.Out}{F:Nat}{DT:Nat→Tree}(hD:jd s L op D (F+1) DT)(hop:0≤op){f:Nat}{l:List Tok}{atom:Bool}{n p:Nat}(h:Br s L n p)(hf:s.size<p+f)(hlt:p<s.size)(hA:atom=true→Ref.xy (zd s p)=false)(hstop:zd s p≠124∧zd s p≠41)(has:Pro.asN L n=0) :
  ((Pro.zN L (s.size:Nat) D n).k≠0→∃ l',Ref.zQ s f l op atom (st0 p)=(l',((Pro.zN L (s.size:Nat) D n).k:Int),(Pro.zN L (s.size:Nat) D n).p))∧
  ((Pro.zN L (s.size:Nat) D n).k=0→∃ ts f' p',Ref.zQ s f l op atom (st0 p)=Ref.zQ s f' (l++ts) op true (st0 p')∧Br s L (Pro.zN L (s.size:Nat) D n).n p'∧s.size<p'+f'∧kE ts (Pro.zN L (s.size:Nat) D n).v∧((Pro.y8 L (s.size:Nat) DT n).kind=5∨Ke (Pro.y8 L (s.size:Nat) DT n))∧xZ (F+1) ts (Pro.y8 L (s.size:Nat) DT n)):=by
 have hi:(st0 p).i=p:=rfl
 have hb0:=(zx s p).2 hlt
 have e94:=h.eqv 94 (by omega)
 have e36:=h.eqv 36 (by omega)
 have e92:=h.eqv 92 (by omega)
 have e40:=h.eqv 40 (by omega)
 have e91:=h.eqv 91 (by omega)
 have n94:zd s p≠94∧zd s p≠36:=by
  unfold Pro.asN at has
  by_cases hh:Pro.zi L n=94∨Pro.zi L n=36
  ·rw [if_pos hh] at has;cases has
  ·exact ⟨fun e=>hh (.inl (e94.2 e)),fun e=>hh (.inr (e36.2 e))⟩
 have nbB:¬(zd s p=92∧(zd s (p+1)=98∨zd s (p+1)=66)):=by
  rintro ⟨k1,k2⟩
  have h1:=h.go k1 (by omega) (by omega)
  unfold Pro.asN at has
  rw [if_neg (by rw [e92.2 k1];omega),if_pos ⟨e92.2 k1,by rcases k2 with k |k;exact .inl ((h1.eqv 98 (by omega)).2 k);exact .inr ((h1.eqv 66 (by omega)).2 k)⟩] at has
  cases has
 have hw:Pro.wC (Pro.zi L n)=Ref.kF (zd s p):=by
  unfold Pro.wC Ref.kF
  rcases h.alike with ⟨e,_⟩ |⟨a,b⟩
  ·rw [e]
  ·have q:∀ k:Int,k<128→(Pro.zi L n == k)=false∧(zd s p == k)=false:=fun k hk=>⟨by simp;omega,by simp;omega⟩
   rw [(q 42 (by omega)).1,(q 43 (by omega)).1,(q 63 (by omega)).1,(q 123 (by omega)).1,(q 125 (by omega)).1,(q 93 (by omega)).1,(q 42 (by omega)).2,(q 43 (by omega)).2,(q 63 (by omega)).2,(q 123 (by omega)).2,(q 125 (by omega)).2,(q 93 (by omega)).2]
 obtain ⟨f,rfl⟩:∃ f',f=f'+1:=⟨f-1,by omega⟩
 by_cases k40:zd s p=40
 ·have hwf:Pro.wC (Pro.zi L n)=false:=by rw [hw,k40];decide
  have e:Pro.zN L (s.size:Nat) D n=D n:=by unfold Pro.zN;rw [if_neg (by simp [hwf]),if_pos (e40.2 k40)]
  have eT:Pro.y8 L (s.size:Nat) DT n=DT n:=by unfold Pro.y8;rw [if_pos (e40.2 k40)]
  rw [e,eT]
  obtain ⟨d1,d2⟩:=hD (f+1) l atom n p h hf k40
  refine ⟨d1,fun hk=>?_⟩
  obtain ⟨ts,f',p',d3,d4,d5,d6,d7,d8⟩:=d2 hk
  exact ⟨ts,f',p',d3,d4,d5,d6,.inl d7,d8⟩
 ·have m40:¬Pro.zi L n=40:=fun hh=>k40 (e40.1 hh)
  cases hwb:Ref.kF (zd s p)
  ·have hwf:¬Pro.wC (Pro.zi L n)=true:=by rw [hw,hwb];simp
   by_cases k91:zd s p=91
   ·have h1:=h.go k91 (by omega) (by omega)
    have e:Pro.zN L (s.size:Nat) D n=Pro.one (Pro.qo L (s.size:Nat) n):=by unfold Pro.zN;rw [if_neg hwf,if_neg m40,if_pos (e91.2 k91)]
    have et:Ref.zy s (st0 p)=(⟨1,Ref.notB s (st0 (p+1)),(Ref.xm s (st0 (p+1))).1,0,0,0⟩,(Ref.xm s (st0 (p+1))).2):=by
     unfold Ref.zy;rw [hi,if_neg (by omega),if_neg nbB,if_neg (by omega),if_neg (by omega),if_pos k91,go0]
    have hst:=YR (f:=f) (l:=l) hlt hA k40 hop (by rw [et])
    have hcs:Same s L (Pro.qo L (s.size:Nat) n) 1 (Ref.xm s (st0 (p+1))).2:=by
     unfold Pro.qo Ref.xm Ref.yP Ref.notB
     have hi1:(st0 (p+1)).i=p+1:=rfl
     rw [hi1]
     by_cases k94:zd s (p+1)=94
     ·have h2:=h1.go k94 (by omega) (by omega)
      have:=h2.le
      have:=h2.good.le
      rw [if_pos ((h1.eqv 94 (by omega)).2 k94),if_pos (by simp [k94]),go0]
      exact wJ _ _ [] (n+2) (p+1+1) h2 (by omega) (by show s.size<p+1+1+(s.size+1-(p+1+1));omega)
     ·have:=h1.le
      have:=h1.good.le
      rw [if_neg (fun hh=>k94 ((h1.eqv 94 (by omega)).1 hh)),if_neg (by simp [k94])]
      exact wJ _ _ [] (n+1) (p+1) h1 (by omega) (by show s.size<p+1+(s.size+1-(p+1));omega)
    have eT:Pro.y8 L (s.size:Nat) DT n=Pro.xK L (s.size:Nat) n:=by unfold Pro.y8;rw [if_neg m40,if_pos (e91.2 k91)]
    rw [e,hst,et,Pro.Vw,Pro.Vv,eT]
    by_cases hk:(Pro.qo L (s.size:Nat) n).k=0
    ·obtain ⟨a1,a2,_,a4⟩:=hcs.1 hk
     refine ⟨fun hh=>absurd hk hh,fun _=>⟨_,f,(Ref.xm s (st0 (p+1))).2.i,by rw [←wH a1 a2],a4,?_,by rw [Pro.one_v _ hk];exact kE.one rfl (YQ rfl rfl),.inr (show Ke _ from ⟨by show 1≤4;decide,by show 4≤4;decide⟩),.inr (.inl ⟨_,rfl,rfl,⟨by show 1≤4;decide,by show 4≤4;decide⟩,fun c=>?_,by
      show (Ref.xm s (st0 (p+1))).1.length≤1000
      have hb:=(Z3 (s:=s) (s.size+1-(Ref.yP s (st0 (p+1))).i) [] (Ref.yP s (st0 (p+1))) (fun p hp=>by cases hp)).2
      show (Ref.yK s (s.size+1-(Ref.yP s (st0 (p+1))).i) [] (Ref.yP s (st0 (p+1)))).1.length≤1000
      simp at hb
      omega,(Z3 (s:=s) (s.size+1-(Ref.yP s (st0 (p+1))).i) [] (Ref.yP s (st0 (p+1))) (fun p hp=>by cases hp)).1⟩)⟩⟩
     rotate_left
     ·show (anyPt (Ref.xm s (st0 (p+1))).1 c != Ref.notB s (st0 (p+1)))=tkTree (Pro.xK L (s.size:Nat) n) c
      have hcc:anyPt (Ref.xm s (st0 (p+1))).1 c=jE (Pro.xK L (s.size:Nat) n).rs (Pro.xK L (s.size:Nat) n).ss c:=by
       unfold Pro.qo at hk
       unfold Ref.xm Ref.yP Ref.notB Pro.xK
       have hi1:(st0 (p+1)).i=p+1:=rfl
       rw [hi1]
       by_cases k94:zd s (p+1)=94
       ·have h2:=h1.go k94 (by omega) (by omega)
        have:=h2.le
        have:=h2.good.le
        rw [if_pos ((h1.eqv 94 (by omega)).2 k94)] at hk
        simp only [if_pos ((h1.eqv 94 (by omega)).2 k94)]
        rw [if_pos (by simp [k94]),go0]
        exact wK _ _ [] [] [] (n+2) (p+1+1) h2 (by omega) (by show s.size<p+1+1+(s.size+1-(p+1+1));omega) hk (fun _=>rfl) c
       ·have:=h1.le
        have:=h1.good.le
        have n94':¬Pro.zi L (n+1)=94:=fun hh=>k94 ((h1.eqv 94 (by omega)).1 hh)
        rw [if_neg n94'] at hk
        simp only [if_neg n94']
        rw [if_neg (by simp [k94])]
        exact wK _ _ [] [] [] (n+1) (p+1) h1 (by omega) (by show s.size<p+1+(s.size+1-(p+1));omega) hk (fun _=>rfl) c
      have hng:Ref.notB s (st0 (p+1))=(Pro.xK L (s.size:Nat) n).neg:=by
       show decide (zd s (p+1)=94)=decide (Pro.zi L (n+1)=94)
       exact decide_eq_decide.2 ((h1.eqv 94 (by omega)).symm)
      rw [hcc,hng]
      rfl
     have hgt:p<(Ref.xm s (st0 (p+1))).2.i:=by
      by_cases hh:p<(Ref.xm s (st0 (p+1))).2.i
      ·exact hh
      ·exfalso
       have:=wI h a4 (by omega)
       have:=Pro.JU (L:=L) (len:=(s.size:Nat)) n (h.lt.2 hlt)
       omega
     omega
    ·have he:=hcs.2 hk
     obtain ⟨l',hl⟩:=ke (s:=s) (f:=f) (l:=l++[⟨1,Ref.notB s (st0 (p+1)),(Ref.xm s (st0 (p+1))).1,0,0,0⟩]) (op:=op) (atom:=true) (zaw hcs hk)
     have e1:Pro.one (Pro.qo L (s.size:Nat) n)=Pro.qo L (s.size:Nat) n:=by unfold Pro.one;rw [if_neg hk]
     exact ⟨fun _=>⟨l',by rw [hl,he.1,he.2,e1]⟩,fun hh=>absurd hh hk⟩
   ·by_cases k92:zd s p=92
    ·have e:Pro.zN L (s.size:Nat) D n=Pro.one (Pro.escO L (s.size:Nat) n):=by unfold Pro.zN;rw [if_neg hwf,if_neg m40,if_neg (fun hh=>k91 (e91.1 hh)),if_pos (e92.2 k92)]
     have et:Ref.zy s (st0 p)=(⟨1,false,[(Ref.zI s false (st0 p)).1],0,0,0⟩,(Ref.zI s false (st0 p)).2.2):=by
      unfold Ref.zy;rw [hi,if_neg (by omega),if_neg nbB,if_neg (by omega),if_neg (by omega),if_neg k91,if_pos k92]
     have hst:=YR (f:=f) (l:=l) hlt hA k40 hop (by rw [et])
     have hcs:=(QT false h k92 (fun hh=>by cases hh)).1
     have eT:Pro.y8 L (s.size:Nat) DT n=Pro.oneT (Pro.setB (Pro.zi L (n+1))) (Pro.escO L (s.size:Nat) n).v:=by unfold Pro.y8;rw [if_neg m40,if_neg (fun hh=>k91 (e91.1 hh)),if_pos (e92.2 k92)]
     rw [e,hst,et,Pro.Vw,Pro.Vv,eT]
     by_cases hk:(Pro.escO L (s.size:Nat) n).k=0
     ·obtain ⟨a1,a2,_,a4⟩:=hcs.1 hk
      refine ⟨fun hh=>absurd hk hh,fun _=>⟨_,f,(Ref.zI s false (st0 p)).2.2.i,by rw [←wH a1 a2],a4,?_,by rw [Pro.one_v _ hk];exact kE.one rfl (YQ rfl rfl),.inr (Kg _ _),.inr (.inl ⟨_,rfl,rfl,Kg _ _,fun c=>?_,by show 1≤1000;decide,fun p hp=>by
       have hp:p∈[(Ref.zI s false (st0 _)).1]:=hp
       simp at hp;subst hp;exact QW false _⟩)⟩⟩
      rotate_left
      ·show (anyPt [(Ref.zI s false (st0 p)).1] c != false)=_
       have e0:anyPt [(Ref.zI s false (st0 p)).1] c=inPt (Ref.zI s false (st0 p)).1 c:=by unfold anyPt;simp
       rw [e0]
       cases hset:Pro.setB (Pro.zi L (n+1))
       ·have h2:=(QT false h k92 (fun hh=>by cases hh)).2 hk
        have h3:(Ref.zI s false (st0 p)).2.1=true:=by rw [h2.1,hset];rfl
        rw [h2.2 h3,vT,inSp_one]
        simp [tkTree,Pro.oneT,Pro.qO]
        rfl
       ·rw [VY false h k92 hset]
        simp [tkTree,Pro.oneT,Pro.qy,jQ]
        rfl
      have hgt:p<(Ref.zI s false (st0 p)).2.2.i:=by
       by_cases hh:p<(Ref.zI s false (st0 p)).2.2.i
       ·exact hh
       ·exfalso
        have:=wI h a4 (by omega)
        have:=Pro.Vk (L:=L) (len:=(s.size:Nat)) n (h.lt.2 hlt)
        omega
      omega
     ·have he:=hcs.2 hk
      obtain ⟨l',hl⟩:=ke (s:=s) (f:=f) (l:=l++[⟨1,false,[(Ref.zI s false (st0 p)).1],0,0,0⟩]) (op:=op) (atom:=true) (zaw hcs hk)
      have e1:Pro.one (Pro.escO L (s.size:Nat) n)=Pro.escO L (s.size:Nat) n:=by unfold Pro.one;rw [if_neg hk]
      exact ⟨fun _=>⟨l',by rw [hl,he.1,he.2,e1]⟩,fun hh=>absurd hh hk⟩
    ·have e:Pro.zN L (s.size:Nat) D n=Pro.good 1 (n+1):=by unfold Pro.zN;rw [if_neg hwf,if_neg m40,if_neg (fun hh=>k91 (e91.1 hh)),if_neg (fun hh=>k92 (e92.1 hh))]
     rw [e]
     refine ⟨fun hh=>absurd rfl hh,fun _=>?_⟩
     by_cases k46:zd s p=46
     ·have et:Ref.zy s (st0 p)=(⟨1,true,[⟨false,[(10,10),(13,13),(8232,8233)]⟩],0,0,0⟩,st0 (p+1)):=by
       unfold Ref.zy;rw [hi,if_neg (by omega),if_neg nbB,if_neg (by omega),if_pos k46,go0]
      have hst:=YR (f:=f) (l:=l) hlt hA k40 hop (by rw [et])
      rw [et] at hst
      have eT:Pro.y8 L (s.size:Nat) DT n=Pro.tAny:=by unfold Pro.y8;rw [if_neg m40,if_neg (fun hh=>k91 (e91.1 hh)),if_neg (fun hh=>k92 (e92.1 hh)),if_pos ((h.eqv 46 (by omega)).2 k46)]
      rw [eT]
      exact ⟨_,f,p+1,hst,h.go k46 (by omega) (by omega),by omega,kE.one rfl (YQ rfl rfl),.inr ⟨Nat.le_refl 1,by show 1≤4;decide⟩,.inr (.inl ⟨_,rfl,rfl,⟨Nat.le_refl 1,by show 1≤4;decide⟩,fun c=>by simp [Zo,anyPt,vT,tkTree,Pro.tAny],by show 1≤1000;decide,fun p hp=>by simp at hp;subst hp;simp⟩)⟩
     ·obtain ⟨k,c,ho,hg,hn⟩:=h.step hlt
      have et:Ref.zy s (st0 p)=(⟨1,false,[⟨false,[(c,c)]⟩],0,0,0⟩,st0 (p+k)):=by
       unfold Ref.zy;rw [hi,if_neg (by omega),if_neg nbB,if_neg (by omega),if_neg k46,if_neg k91,if_neg k92,if_neg k40,if_neg hstop.2,if_neg (by simp [hwb]),ho];rfl
      have hst:=YR (f:=f) (l:=l) hlt hA k40 hop (by rw [et])
      rw [et] at hst
      have:=Ref.qd ho
      have hl:=(h.letter hlt ho).1
      have eT:Pro.y8 L (s.size:Nat) DT n=Pro.qO c:=by unfold Pro.y8;rw [if_neg m40,if_neg (fun hh=>k91 (e91.1 hh)),if_neg (fun hh=>k92 (e92.1 hh)),if_neg (fun hh=>k46 ((h.eqv 46 (by omega)).1 hh)),hl]
      rw [eT]
      exact ⟨_,f,p+k,hst,hn,by omega,kE.one rfl (YQ rfl rfl),.inr ⟨by show 1≤2;decide,by show 2≤4;decide⟩,.inr (.inl ⟨_,rfl,rfl,⟨by show 1≤2;decide,by show 2≤4;decide⟩,fun c'=>by simp [Zo,anyPt,vT,inSp_one,tkTree,Pro.qO];rfl,by show 1≤1000;decide,fun p hp=>by simp at hp;subst hp;simp⟩)⟩
  ·have e:Pro.zN L (s.size:Nat) D n=Pro.bad 3 (Pro.zC L (s.size:Nat) n) n:=by unfold Pro.zN;rw [if_pos (by rw [hw];exact hwb)]
   have hwc:zd s p=42∨zd s p=43∨zd s p=63∨zd s p=123∨zd s p=125∨zd s p=93:=by unfold Ref.kF at hwb;simp at hwb;omega
   have et:Ref.zy s (st0 p)=(⟨0,false,[],0,0,0⟩,⟨p,3,p⟩):=by
    unfold Ref.zy;rw [hi,if_neg (by omega),if_neg nbB,if_neg (by omega),if_neg (by omega),if_neg (by omega),if_neg (by omega),if_neg k40,if_neg hstop.2,if_pos hwb,fail0]
   rw [e]
   refine ⟨fun _=>?_,fun hh=>absurd hh (by simp [Pro.bad])⟩
   rw [Ref.qC (st:=st0 p) ⟨hlt,rfl⟩ (no_q hA) (fun hh=>k40 hh.1),et]
   have e1:Ref.yf 0 op=op:=by unfold Ref.yf;simp
   simp only []
   rw [e1,if_neg (by omega)]
   obtain ⟨l',hl⟩:=ke (s:=s) (f:=f) (l:=l++[⟨0,false,[],0,0,0⟩]) (op:=op) (atom:=((0:Int) == 1) ||((0:Int) == 4)) (st:=⟨p,3,p⟩) (show (3:Int)≠0 by decide)
   exact ⟨l',by rw [hl];show (l',(3:Int),(p:Int))=(l',((3:Nat):Int),Pro.zC L (s.size:Nat) n);rw [h.place];rfl⟩
end Eqv
namespace Eqv
variable {s:ByteArray} {L:List (Int×Int)}
theorem zcs (hs4:s.size≤400){op:Int}{D:Nat→Pro.Out}{F:Nat}{DT:Nat→Tree}(hD:jd s L op D (F+1) DT)(hDO:Pro.DOK L D)(hop:0≤op){f:Nat}{l:List Tok}{atom:Bool}{n p:Nat}(h:Br s L n p)(hf:s.size<p+f)(hlt:p<s.size)(hA:atom=true→Ref.xy (zd s p)=false)(hstop:zd s p≠124∧zd s p≠41) :
  Goes s L f l op atom p (Pro.yH L (s.size:Nat) D n) (fun ts=>TermP (Pro.yH L (s.size:Nat) D n).v ts∧xZ (F+2) ts (Pro.qJ L (s.size:Nat) D DT n)):=by
 have hi:(st0 p).i=p:=rfl
 have hb0:=(zx s p).2 hlt
 by_cases has:Pro.asN L n=0
 ·obtain ⟨g1,g2⟩:=zcr hs4 hD hop (l:=l) h hf hlt hA hstop has
  have hin:=Pro.QE (len:=(s.size:Nat)) hDO n (h.lt.2 hlt)
  by_cases hk:(Pro.zN L (s.size:Nat) D n).k=0
  ·obtain ⟨ts,f1,p1,e1,b1,hf1,hok,hkd,htok⟩:=g2 hk
   have hvb:=hin.2.2 hk
   have hq:=zav (s:=s) (L:=L) (l:=l) (op:=op) b1 hf1 hok hvb.2.1 hvb.2.2 hk rfl rfl
   have et:Pro.yH L (s.size:Nat) D n=(if (Pro.zz L (s.size:Nat) (Pro.zN L (s.size:Nat) D n).n).1=false then Pro.zN L (s.size:Nat) D n else if (Pro.zz L (s.size:Nat) (Pro.zN L (s.size:Nat) D n).n).2.1.k≠0 then (Pro.zz L (s.size:Nat) (Pro.zN L (s.size:Nat) D n).n).2.1 else Pro.good (min (Pro.repS (Pro.zN L (s.size:Nat) D n).v (Pro.zz L (s.size:Nat) (Pro.zN L (s.size:Nat) D n).n).2.1.v (Pro.zz L (s.size:Nat) (Pro.zN L (s.size:Nat) D n).n).2.2) 301) (Pro.vI L (Pro.zz L (s.size:Nat) (Pro.zN L (s.size:Nat) D n).n).2.1.n)):=by
    unfold Pro.yH;rw [if_neg (by simp [has]),if_neg (by simp [hk])]
   rw [et]
   refine ⟨fun hh=>by rw [e1];exact hq.1 hh,fun hh=>?_⟩
   obtain ⟨us,f2,p2,at2,e2,b2,hf2,ha2,hP⟩:=hq.2 hh
   refine ⟨ts++us,f2,p2,at2,by rw [e1,e2,List.append_assoc],b2,hf2,ha2,?_⟩
   rcases hP with ⟨rfl,hq0⟩ |⟨q,rfl,hadd,hbq,hq1,hq6,hqn,hqx⟩
   ·have hq0':(Pro.zz L (s.size:Nat) (Pro.zN L (s.size:Nat) D n).n).1=false:=by
     by_cases hx:(Pro.zz L (s.size:Nat) (Pro.zN L (s.size:Nat) D n).n).1=false
     ·exact hx
     ·rw [if_neg hx] at hq0;exact hq0.elim
    have eT:Pro.qJ L (s.size:Nat) D DT n=Pro.y8 L (s.size:Nat) DT n:=by unfold Pro.qJ;rw [if_neg (by simp [has]),if_pos hq0']
    rw [if_pos hq0',List.append_nil,eT]
    exact ⟨⟨hok.1,hok.2.2.2.1,hok.2.1⟩,xZ.up _ _ _ _ (by omega) htok⟩
   ·have hk2:¬(Pro.zz L (s.size:Nat) (Pro.zN L (s.size:Nat) D n).n).2.1.k≠0:=fun hx=>by
     rw [if_neg (by simp [hq1]),if_pos hx] at hh
     exact hx hh
    have eT:Pro.qJ L (s.size:Nat) D DT n=Pro.tRep (Pro.y8 L (s.size:Nat) DT n) (Pro.zz L (s.size:Nat) (Pro.zN L (s.size:Nat) D n).n).2.1.v (Pro.zz L (s.size:Nat) (Pro.zN L (s.size:Nat) D n).n).2.2:=by unfold Pro.qJ;rw [if_neg (by simp [has]),if_neg (by simp [hq1])]
    rw [if_neg (by simp [hq1]),if_neg hk2,eT]
    refine ⟨⟨hok.1.append hbq,hadd,?_⟩,.inr (.inr (.inr ⟨rfl,ts,q,rfl,hq6,hqn,hqx,hkd,htok⟩))⟩
    have h2:=hok.2.1
    have h3:=hok.2.2.1
    cases ts with
    |nil=>exact absurd rfl h3
    |cons t r=>exact h2
  ·have et:Pro.yH L (s.size:Nat) D n=Pro.zN L (s.size:Nat) D n:=by unfold Pro.yH;rw [if_neg (by simp [has]),if_pos hk]
   rw [et]
   exact ⟨g1,fun hh=>absurd hh hk⟩
 ·have et:Pro.yH L (s.size:Nat) D n=Pro.good 1 (n+Pro.asN L n):=by unfold Pro.yH;rw [if_pos has]
  rw [et]
  refine ⟨fun hh=>absurd rfl hh,fun _=>?_⟩
  obtain ⟨f,rfl⟩:∃ f',f=f'+1:=⟨f-1,by omega⟩
  have hs:∃ t k,Ref.zy s (st0 p)=(t,st0 (p+k))∧(t.kind=2∧Ref.jz t)∧Br s L (n+Pro.asN L n) (p+k)∧1≤k∧zd s p≠40∧0≤Pro.asV L n∧Pro.asV L n≤3∧t.c=XC (Pro.asV L n)∧t.parts=[]:=by
   unfold Pro.asN at has ⊢
   by_cases h1:Pro.zi L n=94∨Pro.zi L n=36
   ·rw [if_pos h1]
    have h1':zd s p=94∨zd s p=36:=by rcases h1 with k |k;exact .inl ((h.eqv 94 (by omega)).1 k);exact .inr ((h.eqv 36 (by omega)).1 k)
    refine ⟨⟨2,false,[],zd s p,0,0⟩,1,?_,⟨rfl,YQ rfl rfl⟩,h.next (by omega) (by omega),by omega,by omega,?_⟩
    ·unfold Ref.zy;rw [hi,if_pos h1',go0]
    ·show 0≤Pro.asV L n∧Pro.asV L n≤3∧zd s p=XC (Pro.asV L n)∧([]:List Pt)=[]
     unfold Pro.asV
     rcases h1 with k |k
     ·rw [if_pos k];exact ⟨by decide,by decide,(h.eqv 94 (by omega)).1 k,rfl⟩
     ·rw [if_neg (by omega),if_pos k];exact ⟨by decide,by decide,(h.eqv 36 (by omega)).1 k,rfl⟩
   ·rw [if_neg h1] at has ⊢
    by_cases h2:Pro.zi L n=92∧(Pro.zi L (n+1)=98∨Pro.zi L (n+1)=66)
    ·rw [if_pos h2]
     have k1:=(h.eqv 92 (by omega)).1 h2.1
     have hb:=h.go k1 (by omega) (by omega)
     have k2:zd s (p+1)=98∨zd s (p+1)=66:=by rcases h2.2 with k |k;exact .inl ((hb.eqv 98 (by omega)).1 k);exact .inr ((hb.eqv 66 (by omega)).1 k)
     refine ⟨⟨2,false,[],zd s (p+1),0,0⟩,2,?_,⟨rfl,YQ rfl rfl⟩,hb.next (by omega) (by omega),by omega,by omega,?_⟩
     ·unfold Ref.zy;rw [hi,if_neg (by omega),if_pos ⟨k1,k2⟩,go0]
     ·show 0≤Pro.asV L n∧Pro.asV L n≤3∧zd s (p+1)=XC (Pro.asV L n)∧([]:List Pt)=[]
      unfold Pro.asV
      rw [if_neg (by omega),if_neg (by omega)]
      by_cases k:Pro.zi L (n+1)=98
      ·rw [if_pos k];exact ⟨by decide,by decide,(hb.eqv 98 (by omega)).1 k,rfl⟩
      ·rw [if_neg k];exact ⟨by decide,by decide,(hb.eqv 66 (by omega)).1 (by rcases h2.2 with q |q;exact absurd q k;exact q),rfl⟩
    ·rw [if_neg h2] at has;exact absurd rfl has
  obtain ⟨t,k,et2,⟨hk2,htb⟩,hb,hk1,h40,hv0,hv3,htc,htp⟩:=hs
  have eT:Pro.qJ L (s.size:Nat) D DT n=Pro.tAsr (Pro.asV L n):=by unfold Pro.qJ;rw [if_pos has]
  rw [eT]
  refine ⟨[t],f,p+k,false,?_,hb,by omega,(fun hh=>by cases hh),⟨Ref.Bal.one (by omega) (by omega) htb,Ref.yh.one (by omega) (by omega),by show t.kind≠6;omega⟩,.inl ⟨rfl,hv0,hv3,t,rfl,hk2,htc,htp⟩⟩
  rw [Ref.qC (st:=st0 p) ⟨hlt,rfl⟩ (no_q hA) (fun hh=>h40 hh.1),et2]
  simp only []
  rw [hk2]
  have e1:Ref.yf 2 op=op:=by unfold Ref.yf;simp
  rw [e1,if_neg (by omega)]
  rfl
theorem XD {n p:Nat}(h:Br s L n p):Pro.vx L n=true↔(¬p<s.size∨zd s p=124∨zd s p=41):=by
 have e1:=h.eqv 124 (by omega)
 have e2:=h.eqv 41 (by omega)
 have e3:=h.lt
 unfold Pro.vx
 simp only [Bool.or_eq_true,decide_eq_true_eq]
 constructor
 ·rintro ((k |k) |k)
  ·exact .inl (fun hh=>by have:=e3.2 hh;omega)
  ·exact .inr (.inl (e1.1 k))
  ·exact .inr (.inr (e2.1 k))
 ·rintro (k |k |k)
  ·exact .inl (.inl (Nat.le_of_not_lt (fun hh=>k (e3.1 hh))))
  ·exact .inl (.inr (e1.2 k))
  ·exact .inr (e2.2 k)
theorem QY (hs4:s.size≤400){op:Int}{D:Nat→Pro.Out}{F:Nat}{DT:Nat→Tree}(hD:jd s L op D (F+1) DT)(hDO:Pro.DOK L D)(hop:0≤op):∀ (g f:Nat) (l:List Tok) (v:Int) (atom:Bool) (n p:Nat),Br s L n p→s.size<p+f→L.length<n+g→(atom=true→Ref.xy (zd s p)=false)→0≤v→v≤301→
  Goes s L f l op atom p (Pro.xC L (s.size:Nat) D g v n) (fun ts=>(Ref.Bal ts∧Ref.qA ts≠6∧∀ us,Ref.yh us v→Ref.yh (us++ts) (Pro.xC L (s.size:Nat) D g v n).v)∧∃ new,(∀ zs,Pro.qV L (s.size:Nat) D DT g zs n=zs++new)∧TokS (xZ (F+2)) ts new)∧((Pro.xC L (s.size:Nat) D g v n).k=0→Pro.vx L (Pro.xC L (s.size:Nat) D g v n).n=true)
 |0,f,l,v,atom,n,p,h,hf,hg,hA,hv0,hv1=>by have:=h.le;omega
 |g+1,f,l,v,atom,n,p,h,hf,hg,hA,hv0,hv1=>by
  simp only [Pro.xC]
  by_cases hs:Pro.vx L n=true
  ·rw [if_pos hs]
   exact ⟨⟨fun hh=>absurd rfl hh,fun _=>⟨[],f,p,atom,by rw [List.append_nil],h,hf,hA,⟨Ref.Bal.nil,by decide,fun us hu=>by rw [List.append_nil];exact hu⟩,[],fun zs=>by simp only [Pro.qV];rw [if_pos hs,List.append_nil],rfl⟩⟩,fun _=>hs⟩
  ·rw [if_neg hs]
   have hns:=fun hh=>hs ((XD h).2 hh)
   have hlt:p<s.size:=Classical.byContradiction fun hh=>hns (.inl hh)
   have ht:=zcs hs4 hD hDO hop (l:=l) h hf hlt hA ⟨fun hh=>hns (.inr (.inl hh)),fun hh=>hns (.inr (.inr hh))⟩
   have hin:=Pro.QG (len:=(s.size:Nat)) hDO n (h.lt.2 hlt)
   by_cases hk:(Pro.yH L (s.size:Nat) D n).k=0
   ·rw [if_neg (by simp [hk])]
    obtain ⟨ts,f1,p1,at1,e1,b1,hf1,ha1,⟨hB,hadd,hh6⟩,htok⟩:=ht.2 hk
    have hvb:=hin.2.2 hk
    obtain ⟨r1,r2⟩:=QY hs4 hD hDO hop g f1 (l++ts) (min (v+(Pro.yH L (s.size:Nat) D n).v) 301) at1 _ p1 b1 hf1 (by omega) ha1 (by omega) (by omega)
    refine ⟨⟨fun hh=>by rw [e1];exact r1.1 hh,fun hh=>?_⟩,r2⟩
    obtain ⟨us,f2,p2,at2,e2,b2,hf2,ha2,⟨hB2,h62,hadd2⟩,new,hnew,htoks⟩:=r1.2 hh
    refine ⟨ts++us,f2,p2,at2,by rw [e1,e2,List.append_assoc],b2,hf2,ha2,⟨hB.append hB2,?_,fun ws hw=>?_⟩,Pro.qJ L (s.size:Nat) D DT n :: new,fun zs=>?_,ts,us,rfl,htok,htoks⟩
    ·cases ts with
     |nil=>exact h62
     |cons t r=>exact hh6
    ·rw [←List.append_assoc]
     exact hadd2 (ws++ts) (hw.append hadd hv0 hvb.2.1 hh6)
    ·simp only [Pro.qV];rw [if_neg hs,hnew,List.append_assoc];rfl
   ·rw [if_pos hk]
    exact ⟨⟨ht.1,fun hh=>absurd hh hk⟩,fun hh=>absurd hh hk⟩
end Eqv
namespace Eqv
variable {s:ByteArray} {L:List (Int×Int)}
theorem QZ (hs4:s.size≤400){op:Int}{D:Nat→Pro.Out}{F:Nat}{DT:Nat→Tree}(hD:jd s L op D (F+1) DT)(hDO:Pro.DOK L D)(hop:0≤op):∀ (g f:Nat) (l:List Tok) (zs:List Int) (n p:Nat),Br s L n p→s.size<p+f→L.length<n+g→(∀ z∈zs,0≤z)→
  Goes s L f l op false p (Pro.altO L (s.size:Nat) D g zs n) (fun ts=>(Ref.Bal ts∧Ref.qA ts≠6∧∀ us,Ref.yh us (min (Pro.sumS 0 zs+zs.length) 301)→Ref.yh (us++ts) (Pro.altO L (s.size:Nat) D g zs n).v)∧∃ new,(∀ ys,Pro.altT L (s.size:Nat) D DT g ys n=ys++new)∧kw (xZ (F+2)) ts new)∧((Pro.altO L (s.size:Nat) D g zs n).k=0→Pro.vx L (Pro.altO L (s.size:Nat) D g zs n).n=true∧Pro.zi L (Pro.altO L (s.size:Nat) D g zs n).n≠124)
 |0,f,l,zs,n,p,h,hf,hg,hz=>by have:=h.le;omega
 |g+1,f,l,zs,n,p,h,hf,hg,hz=>by
  have hle:=h.le
  have hsb:=Pro.ZU zs 0 (by omega) (by omega) hz
  obtain ⟨t1,t2⟩:=QY hs4 hD hDO hop (L.length+1-n) f l 0 false n p h hf (by omega) (fun hh=>by cases hh) (by omega) (by omega)
  have htin:=Pro.ZV (len:=(s.size:Nat)) hDO n hle
  have e0:Pro.zS L (s.size:Nat) D n=Pro.xC L (s.size:Nat) D (L.length+1-n) 0 n:=rfl
  rw [←e0] at t1 t2
  simp only [Pro.altO]
  by_cases hk:(Pro.zS L (s.size:Nat) D n).k=0
  ·rw [if_neg (by simp [hk])]
   obtain ⟨ts,f1,p1,at1,e1,b1,hf1,ha1,⟨hB,h6,hadd⟩,tn,htn,htoks⟩:=t1.2 hk
   have htq:Pro.xO L (s.size:Nat) D DT n=Pro.tSeq tn:=by unfold Pro.xO;rw [htn,List.nil_append]
   have hstop:=t2 hk
   have hts:Ref.yh ts (Pro.zS L (s.size:Nat) D n).v:=hadd [] Ref.yh.nil
   have hvb:=htin.2.2 hk
   have happ:=Pro.sumS_append zs 0 (Pro.zS L (s.size:Nat) D n).v
   by_cases hbar:Pro.zi L (Pro.zS L (s.size:Nat) D n).n=124
   ·rw [if_pos hbar]
    have hb:=(b1.eqv 124 (by omega)).1 hbar
    have hlt1:p1<s.size:=(zx s p1).1 (by omega)
    have b2:=b1.go hb (by omega) (by omega)
    obtain ⟨f1,rfl⟩:∃ f',f1=f'+1:=⟨f1-1,by omega⟩
    have et:Ref.zy s (st0 p1)=(⟨5,false,[],0,0,0⟩,st0 (p1+1)):=by
     have hi:(st0 p1).i=p1:=rfl
     unfold Ref.zy;rw [hi,if_neg (by omega),if_neg (by omega),if_pos hb,go0]
    have hst:Ref.zQ s (f1+1) (l++ts) op at1 (st0 p1)=Ref.zQ s f1 (l++ts++[⟨5,false,[],0,0,0⟩]) op false (st0 (p1+1)):=by
     rw [Ref.qC (st:=st0 p1) ⟨hlt1,rfl⟩ (no_q ha1) (fun hh=>by have:zd s p1=40:=hh.1;omega),et]
     simp only []
     have e5:Ref.yf 5 op=op:=by unfold Ref.yf;simp
     rw [e5,if_neg (by omega)]
     rfl
    have hz':∀ z∈zs++[(Pro.zS L (s.size:Nat) D n).v],0≤z:=by
     intro z hzm
     rcases List.mem_append.1 hzm with hm |hm
     ·exact hz z hm
     ·simp at hm;omega
    obtain ⟨r1,r2⟩:=QZ hs4 hD hDO hop g f1 (l++ts++[⟨5,false,[],0,0,0⟩]) (zs++[(Pro.zS L (s.size:Nat) D n).v]) _ (p1+1) b2 (by omega) (by omega) hz'
    refine ⟨⟨fun hh=>by rw [e1,hst];exact r1.1 hh,fun hh=>?_⟩,r2⟩
    obtain ⟨us,f2,p2,at2,e2,b3,hf2,ha2,⟨hB2,h62,hadd2⟩,an,han,pre,fin,init,last,c1,c2,c3,c4,c5⟩:=r1.2 hh
    refine ⟨ts++[⟨5,false,[],0,0,0⟩]++us,f2,p2,at2,by rw [e1,hst,e2];simp only [List.append_assoc],b3,hf2,ha2,⟨(hB.append (Ref.Bal.one (show (5:Int)≠3 by decide) (show (5:Int)≠4 by decide) (YQ rfl rfl))).append hB2,?_,fun ws hw=>?_⟩,Pro.tSeq tn :: an,fun ys=>?_,ts++[⟨5,false,[],0,0,0⟩]++pre,fin,Pro.tSeq tn :: init,last,by rw [c1];simp only [List.append_assoc],by rw [c2];rfl,⟨ts,pre,⟨5,false,[],0,0,0⟩,by simp,rfl,rfl,htoks,c3⟩,c4,c5⟩
    ·cases ts with
     |nil=>exact (show (5:Int)≠6 by decide)
     |cons t r=>exact h6
    ·rw [←List.append_assoc,←List.append_assoc]
     refine hadd2 _ ?_
     have h1:=hw.append hts (by omega) hvb.1 h6
     have h2:=h1.append (Ref.yh.bar (t:=⟨5,false,[],0,0,0⟩) rfl) (by omega) (by omega) (show (5:Int)≠6 by decide)
     refine h2.weak ?_ (by omega) ?_
     ·rw [happ,List.length_append];simp only [List.length_cons,List.length_nil];omega
     ·rw [happ];omega
    ·simp only [Pro.altT];rw [if_pos hbar,htq,han,List.append_assoc];rfl
   ·rw [if_neg hbar]
    refine ⟨⟨fun hh=>absurd rfl hh,fun _=>⟨ts,f1,p1,at1,e1,b1,hf1,ha1,⟨hB,h6,fun ws hw=>?_⟩,[Pro.tSeq tn],fun ys=>by simp only [Pro.altT];rw [if_neg hbar,htq],[],ts,[],Pro.tSeq tn,rfl,rfl,rfl,rfl,htoks⟩⟩,fun _=>⟨hstop,hbar⟩⟩
    have h1:=hw.append hts (by omega) hvb.1 h6
    refine h1.weak ?_ (by omega) ?_
    ·show min (min (min (Pro.sumS 0 zs+zs.length) 301+_) 301) 301=min (min (Pro.sumS 0 (zs++[_])+((zs.length:Int)+1)-1) 301) 301
     rw [happ];omega
    ·show 0≤min (Pro.sumS 0 (zs++[_])+((zs.length:Int)+1)-1) 301
     rw [happ];omega
  ·rw [if_pos hk]
   exact ⟨⟨t1.1,fun hh=>absurd hh hk⟩,fun hh=>absurd hh hk⟩
theorem zax:jd s L 10 (Pro.zD L (s.size:Nat) 0) 1 (Pro.qr L (s.size:Nat) 0):=by
 intro f l atom n p h hf hb
 have hlt:p<s.size:=(zx s p).1 (by omega)
 obtain ⟨f,rfl⟩:∃ f',f=f'+1:=⟨f-1,by omega⟩
 refine ⟨fun _=>⟨[],?_⟩,fun hh=>absurd hh (by simp [Pro.zD,Pro.bad])⟩
 rw [Ref.Xm (st:=st0 p) ⟨hlt,rfl⟩ (fun hh=>by have:Ref.xy (zd s p)=true:=hh.2;rw [hb] at this;exact absurd this (by decide)) ⟨hb,rfl⟩]
 show ([],(7:Int),(p:Int))=([],((7:Nat):Int),Pro.zC L (s.size:Nat) n)
 rw [h.place];rfl
theorem zay (hs4:s.size≤400){op:Int}{r F:Nat}(hop:0≤op)(h10:op<10)(hD:jd s L (op+1) (Pro.zD L (s.size:Nat) r) (F+1) (Pro.qr L (s.size:Nat) r)):jd s L op (Pro.zD L (s.size:Nat) (r+1)) (F+3) (Pro.qr L (s.size:Nat) (r+1)):=by
 intro f l atom n p h hf hb
 have hlt:p<s.size:=(zx s p).1 (by omega)
 have hnl:=h.lt.2 hlt
 obtain ⟨f,rfl⟩:∃ f',f=f'+1:=⟨f-1,by omega⟩
 have hi:(st0 p).i=p:=rfl
 have et:Ref.zy s (st0 p)=(⟨3,false,[],0,0,0⟩,Ref.jF s (st0 p)):=by
  unfold Ref.zy;rw [hi,if_neg (by omega),if_neg (by omega),if_neg (by omega),if_neg (by omega),if_neg (by omega),if_neg (by omega),if_pos hb]
 have hnq:¬(atom=true∧Ref.xy (zd s (st0 p).i)=true):=fun hh=>by have:Ref.xy (zd s p)=true:=hh.2;rw [hb] at this;exact absurd this (by decide)
 have hst:Ref.zQ s (f+1) l op atom (st0 p)=Ref.zQ s f (l++[⟨3,false,[],0,0,0⟩]) (op+1) false (Ref.jF s (st0 p)):=by
  rw [Ref.qC (st:=st0 p) ⟨hlt,rfl⟩ hnq (fun hh=>by have:=hh.2;omega),et]
  simp only []
  have e3:Ref.yf 3 op=op+1:=by unfold Ref.yf;simp
  rw [e3,if_neg (by omega)]
  rfl
 have hos:=zcm h hb
 have hoi:=Pro.YM (L:=L) (len:=(s.size:Nat)) n hnl
 rw [hst]
 simp only [Pro.zD]
 unfold Pro.kZ
 by_cases hk1:(Pro.ye L (s.size:Nat) n).k=0
 ·obtain ⟨a1,a2,_,b1⟩:=hos.1 hk1
  rw [if_neg (by simp [hk1]),wH a1 a2]
  have hgt:p<(Ref.jF s (st0 p)).i:=by
   by_cases hh:p<(Ref.jF s (st0 p)).i
   ·exact hh
   ·exfalso
    have:=wI h b1 (by omega)
    omega
  have hble:=b1.le
  obtain ⟨r1,r2⟩:=QZ hs4 hD (Pro.qx r) (by omega) (L.length+1-(Pro.ye L (s.size:Nat) n).n) f (l++[⟨3,false,[],0,0,0⟩]) [] (Pro.ye L (s.size:Nat) n).n _ b1 (by omega) (by omega) (by simp)
  have e0:Pro.altP L (s.size:Nat) (Pro.zD L (s.size:Nat) r) (Pro.ye L (s.size:Nat) n).n=Pro.altO L (s.size:Nat) (Pro.zD L (s.size:Nat) r) (L.length+1-(Pro.ye L (s.size:Nat) n).n) [] (Pro.ye L (s.size:Nat) n).n:=rfl
  rw [←e0] at r1 r2
  have hai:=Pro.wD (L:=L) (len:=(s.size:Nat)) (D:=Pro.zD L (s.size:Nat) r) (Pro.qx r) (Pro.ye L (s.size:Nat) n).n hoi.2
  by_cases hk2:(Pro.altP L (s.size:Nat) (Pro.zD L (s.size:Nat) r) (Pro.ye L (s.size:Nat) n).n).k=0
  ·rw [if_neg (by simp [hk2])]
   obtain ⟨ts,f2,p2,at2,e2,b2,hf2,ha2,⟨hB,_,hadd⟩,an,han,htc⟩:=r1.2 hk2
   obtain ⟨hs1,hs2⟩:=r2 hk2
   have hts:Ref.yh ts (Pro.altP L (s.size:Nat) (Pro.zD L (s.size:Nat) r) (Pro.ye L (s.size:Nat) n).n).v:=hadd [] (by exact Ref.yh.nil)
   have hvb:=hai.2.2 hk2
   rw [e2]
   by_cases h41:Pro.zi L (Pro.altP L (s.size:Nat) (Pro.zD L (s.size:Nat) r) (Pro.ye L (s.size:Nat) n).n).n=41
   ·rw [if_pos h41]
    have hb2:=(b2.eqv 41 (by omega)).1 h41
    have hlt2:p2<s.size:=(zx s p2).1 (by omega)
    obtain ⟨f2,rfl⟩:∃ f',f2=f'+1:=⟨f2-1,by omega⟩
    refine ⟨fun hh=>absurd rfl hh,fun _=>⟨⟨3,false,[],0,0,0⟩ :: ts++[⟨4,false,[],0,0,0⟩],f2,p2+1,?_,b2.go hb2 (by omega) (by omega),by omega,kE.group rfl rfl (YQ rfl rfl) (YQ rfl rfl) hB hts hvb.1 hvb.2,rfl,.inr (.inr (.inl ⟨rfl,_,_,ts,rfl,rfl,rfl,hB,?_⟩))⟩⟩
    rotate_left
    ·show kw (xZ (F+2)) ts (Pro.altT L (s.size:Nat) (Pro.zD L (s.size:Nat) r) (Pro.qr L (s.size:Nat) r) (L.length+1-(Pro.ye L (s.size:Nat) n).n) [] (Pro.ye L (s.size:Nat) n).n)
     rw [han,List.nil_append];exact htc
    have hi2:(st0 p2).i=p2:=rfl
    have et2:Ref.zy s (st0 p2)=(⟨4,false,[],0,0,0⟩,st0 (p2+1)):=by
     unfold Ref.zy;rw [hi2,if_neg (by omega),if_neg (by omega),if_neg (by omega),if_neg (by omega),if_neg (by omega),if_neg (by omega),if_neg (by omega),if_pos hb2,go0]
    rw [Ref.qC (st:=st0 p2) ⟨hlt2,rfl⟩ (fun hh=>by have:Ref.xy (zd s p2)=true:=hh.2;rw [hb2] at this;exact absurd this (by decide)) (fun hh=>by have:zd s p2=40:=hh.1;omega),et2]
    simp only []
    have e4:Ref.yf 4 (op+1)=op:=by unfold Ref.yf;rw [if_neg (by decide),if_pos rfl];omega
    rw [e4,if_neg (by omega)]
    simp only [List.append_assoc,List.cons_append,List.nil_append]
    rfl
   ·rw [if_neg h41]
    refine ⟨fun _=>?_,fun hh=>absurd hh (by simp [Pro.bad])⟩
    have hend:¬p2<s.size:=by
     rcases (XD b2).1 hs1 with k |k |k
     ·exact k
     ·exact absurd ((b2.eqv 124 (by omega)).2 k) hs2
     ·exact absurd ((b2.eqv 41 (by omega)).2 k) h41
    obtain ⟨f2,rfl⟩:∃ f',f2=f'+1:=⟨f2-1,by have:=b2.good.le;omega⟩
    rw [Ref.vD (st:=st0 p2) (fun hh=>hend hh.1),if_pos (by omega),fail0]
    refine ⟨l++[⟨3,false,[],0,0,0⟩]++ts,?_⟩
    have:=b2.good.le
    have:=b2.place
    show (_,(3:Int),((s.size:Nat):Int))=(_,((3:Nat):Int),Pro.zC L (s.size:Nat) _)
    rw [b2.place,show p2=s.size by omega]
    rfl
  ·rw [if_pos hk2]
   exact ⟨r1.1,fun hh=>absurd hh hk2⟩
 ·rw [if_pos hk1]
  have he:=hos.2 hk1
  obtain ⟨l',hl⟩:=ke (s:=s) (f:=f) (l:=l++[⟨3,false,[],0,0,0⟩]) (op:=op+1) (atom:=false) (zaw hos hk1)
  exact ⟨fun _=>⟨l',by rw [hl,he.1,he.2]⟩,fun hh=>absurd hh hk1⟩
theorem XX (hs4:s.size≤400):∀ r:Nat,r≤10→jd s L ((10:Int)-r) (Pro.zD L (s.size:Nat) r) (2*r+1) (Pro.qr L (s.size:Nat) r)
 |0,_=>zax
 |r+1,hr=>by
  refine zay hs4 (F:=2*r) (by omega) (by omega) ?_
  rw [show ((10:Int)-((r+1:Nat):Int))+1=(10:Int)-r by omega]
  exact XX hs4 r (by omega)
theorem zaz (hs4:s.size≤400)(h:Br s L 0 0) :
  ((Pro.altP L (s.size:Nat) (Pro.zD L (s.size:Nat) 10) 0).k≠0→∃ l',Ref.yF s=(l',((Pro.altP L (s.size:Nat) (Pro.zD L (s.size:Nat) 10) 0).k:Int),(Pro.altP L (s.size:Nat) (Pro.zD L (s.size:Nat) 10) 0).p))∧
  ((Pro.altP L (s.size:Nat) (Pro.zD L (s.size:Nat) 10) 0).k=0→((Pro.altP L (s.size:Nat) (Pro.zD L (s.size:Nat) 10) 0).n=L.length→∃ ts,Ref.yF s=(ts,0,0)∧Ref.Bal ts∧Ref.yh ts (Pro.altP L (s.size:Nat) (Pro.zD L (s.size:Nat) 10) 0).v∧kw (xZ 22) ts (Pro.altQ L (s.size:Nat) (Pro.zD L (s.size:Nat) 10) (Pro.qr L (s.size:Nat) 10) 0).kids)∧
   ((Pro.altP L (s.size:Nat) (Pro.zD L (s.size:Nat) 10) 0).n≠L.length→∃ l',Ref.yF s=(l',3,Pro.zC L (s.size:Nat) (Pro.altP L (s.size:Nat) (Pro.zD L (s.size:Nat) 10) 0).n))):=by
 have hD:jd s L 0 (Pro.zD L (s.size:Nat) 10) 21 (Pro.qr L (s.size:Nat) 10):=XX hs4 10 (by omega)
 obtain ⟨r1,r2⟩:=QZ hs4 hD (Pro.qx 10) (by omega) (L.length+1-0) (s.size+1) [] [] 0 0 h (by omega) (by omega) (by simp)
 have e0:Pro.altP L (s.size:Nat) (Pro.zD L (s.size:Nat) 10) 0=Pro.altO L (s.size:Nat) (Pro.zD L (s.size:Nat) 10) (L.length+1-0) [] 0:=rfl
 rw [←e0] at r1 r2
 have eR:Ref.yF s=Ref.zQ s (s.size+1) [] 0 false (st0 0):=rfl
 rw [eR]
 refine ⟨r1.1,fun hk=>?_⟩
 obtain ⟨ts,f2,p2,at2,e2,b2,hf2,ha2,⟨hB,_,hadd⟩,an,han,htc⟩:=r1.2 hk
 obtain ⟨hs1,hs2⟩:=r2 hk
 have hts:Ref.yh ts _:=hadd [] (by exact Ref.yh.nil)
 rw [e2]
 constructor
 ·intro hn
  have hend:¬p2<s.size:=fun hh=>by have:=b2.lt.2 hh;omega
  obtain ⟨f2,rfl⟩:∃ f',f2=f'+1:=⟨f2-1,by have:=b2.good.le;omega⟩
  have hkids:(Pro.altQ L (s.size:Nat) (Pro.zD L (s.size:Nat) 10) (Pro.qr L (s.size:Nat) 10) 0).kids=an:=(han []).trans (List.nil_append _)
  refine ⟨ts,?_,hB,hts,by rw [hkids];exact htc⟩
  rw [Ref.vD (st:=st0 p2) (fun hh=>hend hh.1),if_neg (by omega)]
  rfl
 ·intro hn
  have hlt2:p2<s.size:=b2.lt.1 (by have:=b2.le;omega)
  have hb2:zd s p2=41:=by
   rcases (XD b2).1 hs1 with k |k |k
   ·exact absurd hlt2 k
   ·exact absurd ((b2.eqv 124 (by omega)).2 k) hs2
   ·exact k
  obtain ⟨f2,rfl⟩:∃ f',f2=f'+1:=⟨f2-1,by omega⟩
  have hi2:(st0 p2).i=p2:=rfl
  have et2:Ref.zy s (st0 p2)=(⟨4,false,[],0,0,0⟩,st0 (p2+1)):=by
   unfold Ref.zy;rw [hi2,if_neg (by omega),if_neg (by omega),if_neg (by omega),if_neg (by omega),if_neg (by omega),if_neg (by omega),if_neg (by omega),if_pos hb2,go0]
  rw [Ref.qC (st:=st0 p2) ⟨hlt2,rfl⟩ (fun hh=>by have:Ref.xy (zd s p2)=true:=hh.2;rw [hb2] at this;exact absurd this (by decide)) (fun hh=>by have:zd s p2=40:=hh.1;omega),et2]
  simp only []
  have e4:Ref.yf 4 0 = -1:=by decide
  rw [e4,if_pos (by decide),fail0,hi2]
  obtain ⟨l',hl⟩:=ke (s:=s) (f:=f2) (l:=[]++ts++[⟨4,false,[],0,0,0⟩]) (op:=-1) (atom:=((4:Int) == 1) ||((4:Int) == 4)) (st:=⟨p2+1,3,p2⟩) (show (3:Int)≠0 by decide)
  exact ⟨l',by rw [hl,b2.place]⟩
end Eqv
namespace Eqv
variable {s:ByteArray}
abbrev cont (b:Int):Prop:=128≤b∧b≤191
theorem KO {k:Nat}(h:cont (zd s k)):k<s.size:=(zx s k).1 (by unfold cont at h;omega)
theorem qK (k:Nat)(lo hi:Int)(hl:128≤lo)(_hh:hi≤191):Pro.xX s k lo hi=true↔(lo≤zd s k∧zd s k≤hi):=by
 constructor
 ·exact fun h=>Pro.vh h
 ·intro h
  exact Pro.Ka ((zx s k).1 (by omega)) (by omega) (by omega)
theorem zbI {p:Nat}(hb:192≤zd s p∧zd s p<224):(cont (zd s (p+1))→Ref.oneF s p=if Ref.badC 2 ((zd s p-192)*64+zd s (p+1)-128)=true then none else some (2,(zd s p-192)*64+zd s (p+1)-128))∧(¬cont (zd s (p+1))→Ref.oneF s p=none):=by
 have h1:Ref.headK (zd s p)=2:=by unfold Ref.headK Ref.headN;rw [if_neg (by omega),if_pos hb];rfl
 have h2:Ref.ji (zd s p)=zd s p-192:=by unfold Ref.ji;rw [if_neg (by omega),if_pos hb]
 constructor
 ·intro hc
  have:=KO hc
  have e:Ref.qL s p 1 1 (zd s p-192)=some ((zd s p-192)*64+zd s (p+1)-128):=by
   rw [Ref.qm (by unfold cont at hc;omega)];rfl
  unfold Ref.oneF
  rw [h1,h2,if_neg (by omega)]
  simp only [show 2-1=1 from rfl,e]
 ·intro hc
  by_cases hsz:s.size<p+2
  ·exact Ref.kg (by rw [h1];exact .inr hsz)
  ·exact Ref.wL (by rw [h1];omega) (by rw [h1,h2];exact Ref.kf (by unfold cont at hc;omega))
theorem Kh {p:Nat}(hb:224≤zd s p∧zd s p<240):(cont (zd s (p+1))∧cont (zd s (p+2))→Ref.oneF s p=if Ref.badC 3 (((zd s p-224)*64+zd s (p+1)-128)*64+zd s (p+2)-128)=true then none else some (3,((zd s p-224)*64+zd s (p+1)-128)*64+zd s (p+2)-128))∧(¬(cont (zd s (p+1))∧cont (zd s (p+2)))→Ref.oneF s p=none):=by
 have h1:Ref.headK (zd s p)=3:=by unfold Ref.headK Ref.headN;rw [if_neg (by omega),if_neg (by omega),if_pos hb];rfl
 have h2:Ref.ji (zd s p)=zd s p-224:=by unfold Ref.ji;rw [if_neg (by omega),if_neg (by omega),if_pos hb]
 constructor
 ·rintro ⟨hc,hd⟩
  have:=KO hd
  have e:Ref.qL s p 2 1 (zd s p-224)=some (((zd s p-224)*64+zd s (p+1)-128)*64+zd s (p+2)-128):=by
   rw [Ref.qm (by unfold cont at hc;omega),Ref.qm (by unfold cont at hd;show ¬(zd s (p+2)<128∨191<zd s (p+2));omega)];rfl
  unfold Ref.oneF
  rw [h1,h2,if_neg (by omega)]
  simp only [show 3-1=2 from rfl,e]
 ·intro hc
  by_cases hsz:s.size<p+3
  ·exact Ref.kg (by rw [h1];exact .inr hsz)
  ·refine Ref.wL (by rw [h1];omega) ?_
   rw [h1,h2]
   show Ref.qL s p 2 1 _=none
   by_cases hc1:cont (zd s (p+1))
   ·rw [Ref.qm (by unfold cont at hc1;omega)]
    exact Ref.kf (by unfold cont at hc hc1;show zd s (p+2)<128∨191<zd s (p+2);omega)
   ·exact Ref.kf (by unfold cont at hc1;omega)
theorem V8 {p:Nat}(hb:240≤zd s p∧zd s p<248):(cont (zd s (p+1))∧cont (zd s (p+2))∧cont (zd s (p+3))→Ref.oneF s p=if Ref.badC 4 ((((zd s p-240)*64+zd s (p+1)-128)*64+zd s (p+2)-128)*64+zd s (p+3)-128)=true then none else some (4,(((zd s p-240)*64+zd s (p+1)-128)*64+zd s (p+2)-128)*64+zd s (p+3)-128))∧(¬(cont (zd s (p+1))∧cont (zd s (p+2))∧cont (zd s (p+3)))→Ref.oneF s p=none):=by
 have h1:Ref.headK (zd s p)=4:=by unfold Ref.headK Ref.headN;rw [if_neg (by omega),if_neg (by omega),if_neg (by omega),if_pos hb];rfl
 have h2:Ref.ji (zd s p)=zd s p-240:=by unfold Ref.ji;rw [if_neg (by omega),if_neg (by omega),if_neg (by omega),if_pos hb]
 constructor
 ·rintro ⟨hc,hd,hx⟩
  have:=KO hx
  have e:Ref.qL s p 3 1 (zd s p-240)=some ((((zd s p-240)*64+zd s (p+1)-128)*64+zd s (p+2)-128)*64+zd s (p+3)-128):=by
   rw [Ref.qm (by unfold cont at hc;omega),Ref.qm (by unfold cont at hd;show ¬(zd s (p+2)<128∨191<zd s (p+2));omega),Ref.qm (by unfold cont at hx;show ¬(zd s (p+3)<128∨191<zd s (p+3));omega)];rfl
  unfold Ref.oneF
  rw [h1,h2,if_neg (by omega)]
  simp only [show 4-1=3 from rfl,e]
 ·intro hc
  by_cases hsz:s.size<p+4
  ·exact Ref.kg (by rw [h1];exact .inr hsz)
  ·refine Ref.wL (by rw [h1];omega) ?_
   rw [h1,h2]
   show Ref.qL s p 3 1 _=none
   by_cases hc1:cont (zd s (p+1))
   ·rw [Ref.qm (by unfold cont at hc1;omega)]
    by_cases hc2:cont (zd s (p+2))
    ·rw [Ref.qm (by unfold cont at hc2;show ¬(zd s (p+2)<128∨191<zd s (p+2));omega)]
     exact Ref.kf (by unfold cont at hc hc1 hc2;show zd s (p+3)<128∨191<zd s (p+3);omega)
    ·exact Ref.kf (by unfold cont at hc2;show zd s (p+2)<128∨191<zd s (p+2);omega)
   ·exact Ref.kf (by unfold cont at hc1;omega)
def ahead (p:Nat):Option (Nat×Int)→Option (Nat×Int)
 |none=>none
 |some (n,c)=>some (p+n,c)
theorem jT (n:Nat)(c:Int):Ref.badC n c=true↔(c<Ref.qT n∨1114111<c∨(55296≤c∧c≤57343)):=by
 unfold Ref.badC;simp [or_assoc]
theorem vU {p:Nat}(hp:p<s.size):Pro.yM s p=ahead p (Ref.oneF s p):=by
 have hb0:=(zx s p).2 hp
 have hb1:=yw s p
 have l2:Ref.qT ((2:Nat):Int)=128:=rfl
 have l3:Ref.qT ((3:Nat):Int)=2048:=rfl
 have l4:Ref.qT ((4:Nat):Int)=65536:=rfl
 by_cases c0:zd s p<128
 ·have h1:Ref.headK (zd s p)=1:=by unfold Ref.headK Ref.headN;rw [if_pos c0];rfl
  have h2:Ref.ji (zd s p)=zd s p:=by unfold Ref.ji;rw [if_pos c0]
  have hl:Ref.qT ((1:Nat):Int)=0:=rfl
  have:Ref.oneF s p=some (1,zd s p):=by
   have:=Ref.Ki (s:=s) (p:=p) (c:=zd s p) (by rw [h1];omega) (by rw [h1,h2];rfl) (by rw [h1];cases hx:Ref.badC 1 (zd s p) with |false=>rfl |true=>have:=(jT 1 _).1 hx;omega)
   rw [h1] at this;exact this
  rw [this,Pro.XV hp c0]
  have:Pro.y9 (zd s p)=zd s p:=by unfold Pro.y9;rw [if_pos c0]
  rw [this];rfl
 ·by_cases c1:zd s p<192
  ·have h1:Ref.headK (zd s p)=0:=by unfold Ref.headK Ref.headN;rw [if_neg c0,if_neg (by omega),if_neg (by omega),if_neg (by omega)];rfl
   rw [Ref.kg (.inl h1),Pro.j8 (by unfold Pro.xd;rw [if_neg c0,if_pos (by omega)])];rfl
  ·by_cases c2:zd s p<224
   ·have ho:=zbI (s:=s) (p:=p) ⟨by omega,c2⟩
    by_cases hc:cont (zd s (p+1))
    ·rw [ho.1 hc]
     by_cases c3:zd s p<194
     ·rw [Pro.j8 (by unfold Pro.xd;rw [if_neg c0,if_pos c3]),if_pos ((jT 2 _).2 (by rw [l2];unfold cont at hc;omega))];rfl
     ·rw [if_neg (fun hh=>by have:=(jT 2 _).1 hh;rw [l2] at this;unfold cont at hc;omega)]
      rw [Pro.xj hp (l:=0) (by unfold Pro.xd;rw [if_neg c0,if_neg c3,if_pos c2]) (by omega)]
      show Pro.oneM s (p+1) _=_
      unfold Pro.oneM
      rw [if_pos ((qK _ _ _ (by omega) (by omega)).2 hc)]
      have:Pro.y9 (zd s p)=zd s p-192:=by unfold Pro.y9;rw [if_neg c0,if_pos c2];omega
      rw [this];rfl
    ·rw [ho.2 hc]
     by_cases c3:zd s p<194
     ·rw [Pro.j8 (by unfold Pro.xd;rw [if_neg c0,if_pos c3])];rfl
     ·rw [Pro.xj hp (l:=0) (by unfold Pro.xd;rw [if_neg c0,if_neg c3,if_pos c2]) (by omega)]
      show Pro.oneM s (p+1) _=_
      unfold Pro.oneM
      rw [if_neg (fun hh=>hc ((qK _ _ _ (by omega) (by omega)).1 hh))];rfl
   ·by_cases c3:zd s p<240
    ·have ho:=Kh (s:=s) (p:=p) ⟨by omega,c3⟩
     have hl:Pro.y9 (zd s p)=zd s p-224:=by unfold Pro.y9;rw [if_neg c0,if_neg c2,if_pos c3];omega
     have key:Pro.yM s p=(if (if zd s p=224 then 160 else 128)≤zd s (p+1)∧zd s (p+1)≤(if zd s p=237 then 159 else 191) then (if cont (zd s (p+2)) then some (p+3,((zd s p-224)*64+zd s (p+1)-128)*64+zd s (p+2)-128) else none) else none):=by
      have gen:∀ lo hi:Int,128≤lo→hi≤191→(if Pro.xX s (p+1) lo hi=true then Pro.oneM s (p+1+1) (Pro.y9 (zd s p)*64+zd s (p+1)-128) else none)=(if lo≤zd s (p+1)∧zd s (p+1)≤hi then (if cont (zd s (p+2)) then some (p+3,((zd s p-224)*64+zd s (p+1)-128)*64+zd s (p+2)-128) else none) else none):=by
       intro lo hi h1 h2
       by_cases ht:lo≤zd s (p+1)∧zd s (p+1)≤hi
       ·rw [if_pos ((qK _ _ _ h1 h2).2 ht),if_pos ht,hl]
        unfold Pro.oneM
        by_cases hc:cont (zd s (p+2))
        ·rw [if_pos ((qK (p+2) _ _ (by omega) (by omega)).2 hc),if_pos hc]
        ·rw [if_neg (fun hh=>hc ((qK (p+2) _ _ (by omega) (by omega)).1 hh)),if_neg hc]
       ·rw [if_neg (fun hh=>ht ((qK _ _ _ h1 h2).1 hh)),if_neg ht]
      by_cases k1:zd s p=224
      ·rw [Pro.xj hp (l:=1) (by unfold Pro.xd;rw [if_neg c0,if_neg (by omega),if_neg c2,if_pos k1]) (by omega),if_pos k1,if_neg (show ¬zd s p=237 by omega)]
       exact gen 160 191 (by omega) (by omega)
      ·by_cases k2:zd s p=237
       ·rw [Pro.xj hp (l:=2) (by unfold Pro.xd;rw [if_neg c0,if_neg (by omega),if_neg c2,if_neg k1,if_pos k2]) (by omega),if_neg k1,if_pos k2]
        exact gen 128 159 (by omega) (by omega)
       ·rw [Pro.xj hp (l:=3) (by unfold Pro.xd;rw [if_neg c0,if_neg (by omega),if_neg c2,if_neg k1,if_neg k2,if_pos c3]) (by omega),if_neg k1,if_neg k2]
        exact gen 128 191 (by omega) (by omega)
     rw [key]
     by_cases hc:cont (zd s (p+1))∧cont (zd s (p+2))
     ·rw [ho.1 hc]
      obtain ⟨hc1,hc2⟩:=hc
      rw [if_pos hc2]
      by_cases hb:Ref.badC 3 (((zd s p-224)*64+zd s (p+1)-128)*64+zd s (p+2)-128)=true
      ·rw [if_pos hb,if_neg (fun hh=>by have:=(jT 3 _).1 hb;rw [l3] at this;unfold cont at hc1 hc2;split at hh<;>split at hh<;>omega)];rfl
      ·have hb':¬(((zd s p-224)*64+zd s (p+1)-128)*64+zd s (p+2)-128<2048∨1114111<((zd s p-224)*64+zd s (p+1)-128)*64+zd s (p+2)-128∨(55296≤((zd s p-224)*64+zd s (p+1)-128)*64+zd s (p+2)-128∧((zd s p-224)*64+zd s (p+1)-128)*64+zd s (p+2)-128≤57343)):=fun hh=>hb ((jT 3 _).2 (by rw [l3];exact hh))
       rw [if_neg hb,if_pos (by unfold cont at hc1 hc2;constructor<;>split<;>omega)];rfl
     ·rw [ho.2 hc]
      by_cases ht:(if zd s p=224 then (160:Int) else 128)≤zd s (p+1)∧zd s (p+1)≤(if zd s p=237 then (159:Int) else 191)
      ·have hc1:cont (zd s (p+1)):=by unfold cont;obtain ⟨a,b⟩:=ht;split at a<;>split at b<;>omega
       rw [if_pos ht,if_neg (fun hh=>hc ⟨hc1,hh⟩)];rfl
      ·rw [if_neg ht];rfl
    ·by_cases c4:zd s p<248
     ·have ho:=V8 (s:=s) (p:=p) ⟨by omega,c4⟩
      have hl:Pro.y9 (zd s p)=zd s p-240:=by unfold Pro.y9;rw [if_neg c0,if_neg c2,if_neg c3];omega
      by_cases c5:245≤zd s p
      ·rw [Pro.j8 (by unfold Pro.xd;rw [if_neg c0,if_neg (by omega),if_neg c2,if_neg (by omega),if_neg (by omega),if_neg c3,if_neg (by omega),if_neg (by omega),if_neg (by omega)])]
       by_cases hc:cont (zd s (p+1))∧cont (zd s (p+2))∧cont (zd s (p+3))
       ·rw [ho.1 hc,if_pos ((jT 4 _).2 (by unfold cont at hc;omega))];rfl
       ·rw [ho.2 hc];rfl
      ·have key:Pro.yM s p=(if (if zd s p=240 then 144 else 128)≤zd s (p+1)∧zd s (p+1)≤(if zd s p=244 then 143 else 191) then (if cont (zd s (p+2)) then (if cont (zd s (p+3)) then some (p+4,(((zd s p-240)*64+zd s (p+1)-128)*64+zd s (p+2)-128)*64+zd s (p+3)-128) else none) else none) else none):=by
        have gen:∀ lo hi:Int,128≤lo→hi≤191→(if Pro.xX s (p+1) lo hi=true then Pro.twoM s (p+1+1) (Pro.y9 (zd s p)*64+zd s (p+1)-128) else none)=(if lo≤zd s (p+1)∧zd s (p+1)≤hi then (if cont (zd s (p+2)) then (if cont (zd s (p+3)) then some (p+4,(((zd s p-240)*64+zd s (p+1)-128)*64+zd s (p+2)-128)*64+zd s (p+3)-128) else none) else none) else none):=by
         intro lo hi h1 h2
         by_cases ht:lo≤zd s (p+1)∧zd s (p+1)≤hi
         ·rw [if_pos ((qK _ _ _ h1 h2).2 ht),if_pos ht,hl]
          unfold Pro.twoM Pro.oneM
          by_cases hc:cont (zd s (p+2))
          ·rw [if_pos ((qK (p+2) _ _ (by omega) (by omega)).2 hc),if_pos hc]
           by_cases hd:cont (zd s (p+3))
           ·rw [if_pos ((qK (p+3) _ _ (by omega) (by omega)).2 hd),if_pos hd]
           ·rw [if_neg (fun hh=>hd ((qK (p+3) _ _ (by omega) (by omega)).1 hh)),if_neg hd]
          ·rw [if_neg (fun hh=>hc ((qK (p+2) _ _ (by omega) (by omega)).1 hh)),if_neg hc]
         ·rw [if_neg (fun hh=>ht ((qK _ _ _ h1 h2).1 hh)),if_neg ht]
        by_cases k1:zd s p=240
        ·rw [Pro.xj hp (l:=4) (by unfold Pro.xd;rw [if_neg c0,if_neg (by omega),if_neg c2,if_neg (by omega),if_neg (by omega),if_neg c3,if_pos k1]) (by omega),if_pos k1,if_neg (show ¬zd s p=244 by omega)]
         exact gen 144 191 (by omega) (by omega)
        ·by_cases k2:zd s p=244
         ·rw [Pro.xj hp (l:=6) (by unfold Pro.xd;rw [if_neg c0,if_neg (by omega),if_neg c2,if_neg (by omega),if_neg (by omega),if_neg c3,if_neg k1,if_neg (by omega),if_pos k2]) (by omega),if_neg k1,if_pos k2]
          exact gen 128 143 (by omega) (by omega)
         ·rw [Pro.xj hp (l:=5) (by unfold Pro.xd;rw [if_neg c0,if_neg (by omega),if_neg c2,if_neg (by omega),if_neg (by omega),if_neg c3,if_neg k1,if_pos (by omega)]) (by omega),if_neg k1,if_neg k2]
          exact gen 128 191 (by omega) (by omega)
       rw [key]
       by_cases hc:cont (zd s (p+1))∧cont (zd s (p+2))∧cont (zd s (p+3))
       ·rw [ho.1 hc]
        obtain ⟨hc1,hc2,hc3⟩:=hc
        rw [if_pos hc2,if_pos hc3]
        by_cases hb:Ref.badC 4 ((((zd s p-240)*64+zd s (p+1)-128)*64+zd s (p+2)-128)*64+zd s (p+3)-128)=true
        ·rw [if_pos hb,if_neg (fun hh=>by have:=(jT 4 _).1 hb;rw [l4] at this;unfold cont at hc1 hc2 hc3;split at hh<;>split at hh<;>omega)];rfl
        ·have hb':¬((((zd s p-240)*64+zd s (p+1)-128)*64+zd s (p+2)-128)*64+zd s (p+3)-128<65536∨1114111<(((zd s p-240)*64+zd s (p+1)-128)*64+zd s (p+2)-128)*64+zd s (p+3)-128∨(55296≤(((zd s p-240)*64+zd s (p+1)-128)*64+zd s (p+2)-128)*64+zd s (p+3)-128∧(((zd s p-240)*64+zd s (p+1)-128)*64+zd s (p+2)-128)*64+zd s (p+3)-128≤57343)):=fun hh=>hb ((jT 4 _).2 (by rw [l4];exact hh))
         rw [if_neg hb,if_pos (by unfold cont at hc1 hc2 hc3;constructor<;>split<;>omega)];rfl
       ·rw [ho.2 hc]
        by_cases ht:(if zd s p=240 then (144:Int) else 128)≤zd s (p+1)∧zd s (p+1)≤(if zd s p=244 then (143:Int) else 191)
        ·have hc1:cont (zd s (p+1)):=by unfold cont;obtain ⟨a,b⟩:=ht;split at a<;>split at b<;>omega
         rw [if_pos ht]
         by_cases hc2:cont (zd s (p+2))
         ·rw [if_pos hc2,if_neg (fun hh=>hc ⟨hc1,hc2,hh⟩)];rfl
         ·rw [if_neg hc2];rfl
        ·rw [if_neg ht];rfl
     ·have h1:Ref.headK (zd s p)=0:=by unfold Ref.headK Ref.headN;rw [if_neg c0,if_neg (by omega),if_neg (by omega),if_neg (by omega)];rfl
      rw [Ref.kg (.inl h1),Pro.j8 (by unfold Pro.xd;rw [if_neg c0,if_neg (by omega),if_neg c2,if_neg (by omega),if_neg (by omega),if_neg c3,if_neg (by omega),if_neg (by omega),if_neg (by omega)])];rfl
end Eqv
end
end Go.Proofs.YtnagphodmfejiaaGreatDoor
