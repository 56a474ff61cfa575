/- The reader beside the lexer: a term. -/
import Derived.Test.YtcgleficedipkaaGreatDoorYTrITqA
import Derived.Test.YtcgleficedipkaaGreatDoorYChARanB
namespace Go.Proofs.YtcgleficedipkaaGreatDoor
section
open Go.RowKit
open Sm (Tree)
namespace Eqv
variable {s:ByteArray} {L:List (Int×Int)}
def asSign (a:Int):Int:=if a=0 then 94 else if a=1 then 36 else if a=2 then 98 else 66
section
variable (A:List Tok->Tree->Prop)
def TokS:List Tok->List Tree->Prop
 |ts,[]=>ts=[]
 |ts,t :: r=>∃ a b,ts=a++b/\A a t/\TokS b r
def TokP:List Tok->List Tree->Prop
 |ts,[]=>ts=[]
 |ts,t :: r=>∃ a b bar,ts=a++bar :: b/\bar.kind=5/\t.kind=6/\TokS A a t.kids/\TokP b r
def TokC (ts:List Tok)(kids:List Tree):Prop:=∃ pre fin init last,ts=pre++fin/\kids=init++[last]/\TokP A pre init/\last.kind=6/\TokS A fin last.kids
end
def zer:Nat->List Tok->Tree->Prop
 |0,_,_=>False
 |f+1,ts,T=>
  (T.kind=0/\0<=T.a/\T.a<=3/\∃ t,ts=[t]/\t.kind=2/\t.c=asSign T.a/\t.parts=[])\/(∃ t,ts=[t]/\t.kind=1/\LeafTok t T)\/
  (T.kind=5/\∃ o c us,ts=o :: us++[c]/\o.kind=3/\c.kind=4/\Ref.Bal us/\TokC (zer f) us T.kids)\/
  (T.kind=7/\∃ us q,ts=us++[q]/\q.kind=6/\q.mn=T.a/\q.mx=T.b/\(T.kid.kind=5\/leafK T.kid)/\zer f us T.kid)
section
variable {A B:List Tok->Tree->Prop}
theorem TokS.mono (h:∀ a t,A a t->B a t):∀ (ts:List Tok) (l:List Tree),TokS A ts l->TokS B ts l
 |_,[],e=>e
 |_,_ :: r,⟨a,b,e,h1,h2⟩=>⟨a,b,e,h _ _ h1,TokS.mono h b r h2⟩
theorem TokP.mono (h:∀ a t,A a t->B a t):∀ (ts:List Tok) (l:List Tree),TokP A ts l->TokP B ts l
 |_,[],e=>e
 |_,_ :: r,⟨a,b,bar,e,h0,h1,h2,h3⟩=>⟨a,b,bar,e,h0,h1,TokS.mono h a _ h2,TokP.mono h b r h3⟩
theorem TokC.mono (h:∀ a t,A a t->B a t){ts:List Tok}{l:List Tree}:TokC A ts l->TokC B ts l
 |⟨pre,fin,init,last,h1,h2,h3,h4,h5⟩=>⟨pre,fin,init,last,h1,h2,TokP.mono h _ _ h3,h4,TokS.mono h _ _ h5⟩
theorem zer.up:∀ (f g:Nat) (ts:List Tok) (T:Tree),f<=g->zer f ts T->zer g ts T
 |0,_,_,_,_,h=>h.elim
 |f+1,0,_,_,hg,_=>by omega
 |f+1,g+1,ts,T,hg,h=>by
  rcases h with h |h |⟨h1,o,c,us,h2,h3,h4,h5,h6⟩ |⟨h1,us,q,h2,h3,h4,h5,h6,h7⟩
  ·exact .inl h
  ·exact .inr (.inl h)
  ·exact .inr (.inr (.inl ⟨h1,o,c,us,h2,h3,h4,h5,TokC.mono (fun a t ha=>zer.up f g a t (by omega) ha) h6⟩))
  ·exact .inr (.inr (.inr ⟨h1,us,q,h2,h3,h4,h5,h6,zer.up f g us T.kid (by omega) h7⟩))
end
def zeu (s:ByteArray)(L:List (Int×Int))(op:Int)(D:Nat->Pro.Out)(F:Nat)(DT:Nat->Tree):Prop:=∀ (f:Nat) (l:List Tok) (atom:Bool) (n p:Nat),Br s L n p->s.size<p+f->zd s p=40->
 ((D n).k≠0->∃ l',Ref.vp s f l op atom (st0 p)=(l',((D n).k:Int),(D n).p))/\
 ((D n).k=0->∃ ts f' p',Ref.vp s f l op atom (st0 p)=Ref.vp s f' (l++ts) op true (st0 p')/\Br s L (D n).n p'/\s.size<p'+f'/\AtomOK ts (D n).v/\(DT n).kind=5/\zer F ts (DT n))
theorem no_q {atom:Bool}{p:Nat}(hA:atom=true->Ref.quantB (zd s p)=false):¬(atom=true/\Ref.quantB (zd s (st0 p).i)=true):=fun hh=>by
 have e1:=hA hh.1;have e2:Ref.quantB (zd s p)=true:=hh.2;rw [e1] at e2;cases e2
theorem tok_step {f:Nat}{l:List Tok}{op:Int}{atom:Bool}{p:Nat}(hlt:p<s.size)(hA:atom=true->Ref.quantB (zd s p)=false)(h40:zd s p≠40)(hop:0<=op)(h1:(Ref.zv s (st0 p)).1.kind=1) :
  Ref.vp s (f+1) l op atom (st0 p)=Ref.vp s f (l++[(Ref.zv s (st0 p)).1]) op true (Ref.zv s (st0 p)).2:=by
 rw [Ref.zes (st:=st0 p) ⟨hlt,rfl⟩ (no_q hA) (fun hh=>h40 hh.1),h1];have e1:Ref.zen 1 op=op:=by unfold Ref.zen;simp
 rw [e1,if_neg (by omega)];rfl
theorem zge (m:Bool)(c:Int):leafK (Pro.oneT m c):=by
 cases m
 ·exact ⟨by show 1<=2;decide,by show 2<=4;decide⟩
 ·exact ⟨by show 1<=3;decide,by show 3<=4;decide⟩
theorem out_ne {o:Pro.Out}{v:Int}{st:St}(h:Same s L o v st)(hk:o.k≠0):st.e≠0:=by rw [(h.2 hk).1];omega
theorem zho (hs4:s.size<=400){op:Int}{D:Nat->Pro.Out}{F:Nat}{DT:Nat->Tree}(hD:zeu s L op D (F+1) DT)(hop:0<=op){f:Nat}{l:List Tok}{atom:Bool}{n p:Nat}(h:Br s L n p)(hf:s.size<p+f)(hlt:p<s.size)(hA:atom=true->Ref.quantB (zd s p)=false)(hstop:zd s p≠124/\zd s p≠41)(has:Pro.asN L n=0) :
  ((Pro.zL L (s.size:Nat) D n).k≠0->∃ l',Ref.vp s f l op atom (st0 p)=(l',((Pro.zL L (s.size:Nat) D n).k:Int),(Pro.zL L (s.size:Nat) D n).p))/\
  ((Pro.zL L (s.size:Nat) D n).k=0->∃ ts f' p',Ref.vp s f l op atom (st0 p)=Ref.vp s f' (l++ts) op true (st0 p')/\Br s L (Pro.zL L (s.size:Nat) D n).n p'/\s.size<p'+f'/\AtomOK ts (Pro.zL L (s.size:Nat) D n).v/\((Pro.xk L (s.size:Nat) DT n).kind=5\/leafK (Pro.xk L (s.size:Nat) DT n))/\zer (F+1) ts (Pro.xk L (s.size:Nat) DT n)):=by
 have hi:(st0 p).i=p:=rfl;have hb0:=(yL s p).2 hlt;have e94:=h.eqv 94 (by omega);have e36:=h.eqv 36 (by omega);have e92:=h.eqv 92 (by omega);have e40:=h.eqv 40 (by omega);have e91:=h.eqv 91 (by omega);have n94:zd s p≠94/\zd s p≠36:=by
  unfold Pro.asN at has;by_cases hh:Pro.zf L n=94\/Pro.zf L n=36
  ·rw [if_pos hh] at has;cases has
  ·exact ⟨fun e=>hh (.inl (e94.2 e)),fun e=>hh (.inr (e36.2 e))⟩
 have nbB:¬(zd s p=92/\(zd s (p+1)=98\/zd s (p+1)=66)):=by
  rintro ⟨k1,k2⟩;have h1:=h.go k1 (by omega) (by omega);unfold Pro.asN at has;rw [if_neg (by rw [e92.2 k1];omega),if_pos ⟨e92.2 k1,by rcases k2 with k |k;exact .inl ((h1.eqv 98 (by omega)).2 k);exact .inr ((h1.eqv 66 (by omega)).2 k)⟩] at has;cases has
 have hw:Pro.ZI (Pro.zf L n)=Ref.wrongB (zd s p):=by
  unfold Pro.ZI Ref.wrongB;rcases h.alike with ⟨e,_⟩ |⟨a,b⟩
  ·rw [e]
  ·have q:∀ k:Int,k<128->(Pro.zf L n == k)=false/\(zd s p == k)=false:=fun k hk=>⟨by simp;omega,by simp;omega⟩
   rw [(q 42 (by omega)).1,(q 43 (by omega)).1,(q 63 (by omega)).1,(q 123 (by omega)).1,(q 125 (by omega)).1,(q 93 (by omega)).1,(q 42 (by omega)).2,(q 43 (by omega)).2,(q 63 (by omega)).2,(q 123 (by omega)).2,(q 125 (by omega)).2,(q 93 (by omega)).2]
 obtain ⟨f,rfl⟩:∃ f',f=f'+1:=⟨f-1,by omega⟩
 by_cases k40:zd s p=40
 ·have hwf:Pro.ZI (Pro.zf L n)=false:=by rw [hw,k40];decide
  have e:Pro.zL L (s.size:Nat) D n=D n:=by unfold Pro.zL;rw [if_neg (by simp [hwf]),if_pos (e40.2 k40)]
  have eT:Pro.xk L (s.size:Nat) DT n=DT n:=by unfold Pro.xk;rw [if_pos (e40.2 k40)]
  rw [e,eT];obtain ⟨d1,d2⟩:=hD (f+1) l atom n p h hf k40;refine ⟨d1,fun hk=>?_⟩;obtain ⟨ts,f',p',d3,d4,d5,d6,d7,d8⟩:=d2 hk;exact ⟨ts,f',p',d3,d4,d5,d6,.inl d7,d8⟩
 ·have m40:¬Pro.zf L n=40:=fun hh=>k40 (e40.1 hh);cases hwb:Ref.wrongB (zd s p)
  ·have hwf:¬Pro.ZI (Pro.zf L n)=true:=(by rw [hw,hwb];simp);by_cases k91:zd s p=91
   ·have h1:=h.go k91 (by omega) (by omega);have e:Pro.zL L (s.size:Nat) D n=Pro.one (Pro.qf L (s.size:Nat) n):=(by unfold Pro.zL;rw [if_neg hwf,if_neg m40,if_pos (e91.2 k91)]);have et:Ref.zv s (st0 p)=(⟨1,Ref.notB s (st0 (p+1)),(Ref.classR s (st0 (p+1))).1,0,0,0⟩,(Ref.classR s (st0 (p+1))).2):=by
     unfold Ref.zv;rw [hi,if_neg (by omega),if_neg nbB,if_neg (by omega),if_neg (by omega),if_pos k91,go0]
    have hst:=tok_step (f:=f) (l:=l) hlt hA k40 hop (by rw [et]);have hcs:Same s L (Pro.qf L (s.size:Nat) n) 1 (Ref.classR s (st0 (p+1))).2:=by
     unfold Pro.qf Ref.classR Ref.classSt Ref.notB;have hi1:(st0 (p+1)).i=p+1:=rfl;rw [hi1];by_cases k94:zd s (p+1)=94
     ·have h2:=h1.go k94 (by omega) (by omega);have:=h2.le;have:=h2.good.le;rw [if_pos ((h1.eqv 94 (by omega)).2 k94),if_pos (by simp [k94]),go0];exact zeO _ _ [] (n+2) (p+1+1) h2 (by omega) (by show s.size<p+1+1+(s.size+1-(p+1+1));omega)
     ·have:=h1.le;have:=h1.good.le;rw [if_neg (fun hh=>k94 ((h1.eqv 94 (by omega)).1 hh)),if_neg (by simp [k94])];exact zeO _ _ [] (n+1) (p+1) h1 (by omega) (by show s.size<p+1+(s.size+1-(p+1));omega)
    have eT:Pro.xk L (s.size:Nat) DT n=Pro.xN L (s.size:Nat) n:=(by unfold Pro.xk;rw [if_neg m40,if_pos (e91.2 k91)]);rw [e,hst,et,Pro.one_k,Pro.one_n,eT];by_cases hk:(Pro.qf L (s.size:Nat) n).k=0
    ·obtain ⟨a1,a2,_,a4⟩:=hcs.1 hk;refine ⟨fun hh=>absurd hk hh,fun _=>⟨_,f,(Ref.classR s (st0 (p+1))).2.i,by rw [<-st_eta a1 a2],a4,?_,by rw [Pro.one_v _ hk];exact AtomOK.one rfl (tokB0 rfl rfl),.inr (show leafK _ from ⟨by show 1<=4;decide,by show 4<=4;decide⟩),.inr (.inl ⟨_,rfl,rfl,⟨by show 1<=4;decide,by show 4<=4;decide⟩,fun c=>?_,by
      show (Ref.classR s (st0 (p+1))).1.length<=1000;have hb:=(ze8 (s:=s) (s.size+1-(Ref.classSt s (st0 (p+1))).i) [] (Ref.classSt s (st0 (p+1))) (fun p hp=>by cases hp)).2;show (Ref.classF s (s.size+1-(Ref.classSt s (st0 (p+1))).i) [] (Ref.classSt s (st0 (p+1)))).1.length<=1000;simp at hb;omega,(ze8 (s:=s) (s.size+1-(Ref.classSt s (st0 (p+1))).i) [] (Ref.classSt s (st0 (p+1))) (fun p hp=>by cases hp)).1⟩)⟩⟩
     rotate_left
     ·show (anyPt (Ref.classR s (st0 (p+1))).1 c != Ref.notB s (st0 (p+1)))=ZM (Pro.xN L (s.size:Nat) n) c;have hcc:anyPt (Ref.classR s (st0 (p+1))).1 c=wN (Pro.xN L (s.size:Nat) n).rs (Pro.xN L (s.size:Nat) n).ss c:=by
       unfold Pro.qf at hk;unfold Ref.classR Ref.classSt Ref.notB Pro.xN;have hi1:(st0 (p+1)).i=p+1:=rfl;rw [hi1];by_cases k94:zd s (p+1)=94
       ·have h2:=h1.go k94 (by omega) (by omega);have:=h2.le;have:=h2.good.le;rw [if_pos ((h1.eqv 94 (by omega)).2 k94)] at hk;simp only [if_pos ((h1.eqv 94 (by omega)).2 k94)];rw [if_pos (by simp [k94]),go0];exact zeU _ _ [] [] [] (n+2) (p+1+1) h2 (by omega) (by show s.size<p+1+1+(s.size+1-(p+1+1));omega) hk (fun _=>rfl) c
       ·have:=h1.le;have:=h1.good.le;have n94':¬Pro.zf L (n+1)=94:=fun hh=>k94 ((h1.eqv 94 (by omega)).1 hh);rw [if_neg n94'] at hk;simp only [if_neg n94'];rw [if_neg (by simp [k94])];exact zeU _ _ [] [] [] (n+1) (p+1) h1 (by omega) (by show s.size<p+1+(s.size+1-(p+1));omega) hk (fun _=>rfl) c
      have hng:Ref.notB s (st0 (p+1))=(Pro.xN L (s.size:Nat) n).neg:=by
       show decide (zd s (p+1)=94)=decide (Pro.zf L (n+1)=94);exact decide_eq_decide.2 ((h1.eqv 94 (by omega)).symm)
      rw [hcc,hng];rfl
     have hgt:p<(Ref.classR s (st0 (p+1))).2.i:=by
      by_cases hh:p<(Ref.classR s (st0 (p+1))).2.i
      ·exact hh
      ·exfalso;have:=br_mono h a4 (by omega);have:=Pro.zcC (L:=L) (len:=(s.size:Nat)) n (h.lt.2 hlt);omega
     omega
    ·have he:=hcs.2 hk;obtain ⟨l',hl⟩:=zex (s:=s) (f:=f) (l:=l++[⟨1,Ref.notB s (st0 (p+1)),(Ref.classR s (st0 (p+1))).1,0,0,0⟩]) (op:=op) (atom:=true) (out_ne hcs hk);have e1:Pro.one (Pro.qf L (s.size:Nat) n)=Pro.qf L (s.size:Nat) n:=(by unfold Pro.one;rw [if_neg hk]);exact ⟨fun _=>⟨l',by rw [hl,he.1,he.2,e1]⟩,fun hh=>absurd hh hk⟩
   ·by_cases k92:zd s p=92
    ·have e:Pro.zL L (s.size:Nat) D n=Pro.one (Pro.escO L (s.size:Nat) n):=(by unfold Pro.zL;rw [if_neg hwf,if_neg m40,if_neg (fun hh=>k91 (e91.1 hh)),if_pos (e92.2 k92)]);have et:Ref.zv s (st0 p)=(⟨1,false,[(Ref.jv s false (st0 p)).1],0,0,0⟩,(Ref.jv s false (st0 p)).2.2):=by
      unfold Ref.zv;rw [hi,if_neg (by omega),if_neg nbB,if_neg (by omega),if_neg (by omega),if_neg k91,if_pos k92]
     have hst:=tok_step (f:=f) (l:=l) hlt hA k40 hop (by rw [et]);have hcs:=(esc_same false h k92 (fun hh=>by cases hh)).1;have eT:Pro.xk L (s.size:Nat) DT n=Pro.oneT (Pro.setB (Pro.zf L (n+1))) (Pro.escO L (s.size:Nat) n).v:=(by unfold Pro.xk;rw [if_neg m40,if_neg (fun hh=>k91 (e91.1 hh)),if_pos (e92.2 k92)]);rw [e,hst,et,Pro.one_k,Pro.one_n,eT];by_cases hk:(Pro.escO L (s.size:Nat) n).k=0
     ·obtain ⟨a1,a2,_,a4⟩:=hcs.1 hk;refine ⟨fun hh=>absurd hk hh,fun _=>⟨_,f,(Ref.jv s false (st0 p)).2.2.i,by rw [<-st_eta a1 a2],a4,?_,by rw [Pro.one_v _ hk];exact AtomOK.one rfl (tokB0 rfl rfl),.inr (zge _ _),.inr (.inl ⟨_,rfl,rfl,zge _ _,fun c=>?_,by show 1<=1000;decide,fun p hp=>by
       have hp:p∈[(Ref.jv s false (st0 _)).1]:=hp;simp at hp;subst hp;exact zf4 false _⟩)⟩⟩
      rotate_left
      ·show (anyPt [(Ref.jv s false (st0 p)).1] c != false)=_;have e0:anyPt [(Ref.jv s false (st0 p)).1] c=inPt (Ref.jv s false (st0 p)).1 c:=(by unfold anyPt;simp);rw [e0];cases hset:Pro.setB (Pro.zf L (n+1))
       ·have h2:=(esc_same false h k92 (fun hh=>by cases hh)).2 hk;have h3:(Ref.jv s false (st0 p)).2.1=true:=(by rw [h2.1,hset];rfl);rw [h2.2 h3,inPt_pos,inSp_one];simp [ZM,Pro.oneT,Pro.qK];rfl
       ·rw [esc_many false h k92 hset];simp [ZM,Pro.oneT,Pro.xV,kM];rfl
      have hgt:p<(Ref.jv s false (st0 p)).2.2.i:=by
       by_cases hh:p<(Ref.jv s false (st0 p)).2.2.i
       ·exact hh
       ·exfalso;have:=br_mono h a4 (by omega);have:=Pro.zaN (L:=L) (len:=(s.size:Nat)) n (h.lt.2 hlt);omega
      omega
     ·have he:=hcs.2 hk;obtain ⟨l',hl⟩:=zex (s:=s) (f:=f) (l:=l++[⟨1,false,[(Ref.jv s false (st0 p)).1],0,0,0⟩]) (op:=op) (atom:=true) (out_ne hcs hk);have e1:Pro.one (Pro.escO L (s.size:Nat) n)=Pro.escO L (s.size:Nat) n:=(by unfold Pro.one;rw [if_neg hk]);exact ⟨fun _=>⟨l',by rw [hl,he.1,he.2,e1]⟩,fun hh=>absurd hh hk⟩
    ·have e:Pro.zL L (s.size:Nat) D n=Pro.good 1 (n+1):=(by unfold Pro.zL;rw [if_neg hwf,if_neg m40,if_neg (fun hh=>k91 (e91.1 hh)),if_neg (fun hh=>k92 (e92.1 hh))]);rw [e];refine ⟨fun hh=>absurd rfl hh,fun _=>?_⟩;by_cases k46:zd s p=46
     ·have et:Ref.zv s (st0 p)=(⟨1,true,[⟨false,[(10,10),(13,13),(8232,8233)]⟩],0,0,0⟩,st0 (p+1)):=by
       unfold Ref.zv;rw [hi,if_neg (by omega),if_neg nbB,if_neg (by omega),if_pos k46,go0]
      have hst:=tok_step (f:=f) (l:=l) hlt hA k40 hop (by rw [et]);rw [et] at hst;have eT:Pro.xk L (s.size:Nat) DT n=Pro.tAny:=(by unfold Pro.xk;rw [if_neg m40,if_neg (fun hh=>k91 (e91.1 hh)),if_neg (fun hh=>k92 (e92.1 hh)),if_pos ((h.eqv 46 (by omega)).2 k46)]);rw [eT];exact ⟨_,f,p+1,hst,h.go k46 (by omega) (by omega),by omega,AtomOK.one rfl (tokB0 rfl rfl),.inr ⟨z8 1,by show 1<=4;decide⟩,.inr (.inl ⟨_,rfl,rfl,⟨z8 1,by show 1<=4;decide⟩,fun c=>by simp [tkTok,anyPt,inPt_pos,ZM,Pro.tAny],by show 1<=1000;decide,fun p hp=>by simp at hp;subst hp;simp⟩)⟩
     ·obtain ⟨k,c,ho,hg,hn⟩:=h.step hlt;have et:Ref.zv s (st0 p)=(⟨1,false,[⟨false,[(c,c)]⟩],0,0,0⟩,st0 (p+k)):=by
       unfold Ref.zv;rw [hi,if_neg (by omega),if_neg nbB,if_neg (by omega),if_neg k46,if_neg k91,if_neg k92,if_neg k40,if_neg hstop.2,if_neg (by simp [hwb]),ho];rfl
      have hst:=tok_step (f:=f) (l:=l) hlt hA k40 hop (by rw [et]);rw [et] at hst;have:=Ref.qC ho;have hl:=(h.letter hlt ho).1;have eT:Pro.xk L (s.size:Nat) DT n=Pro.qK c:=(by unfold Pro.xk;rw [if_neg m40,if_neg (fun hh=>k91 (e91.1 hh)),if_neg (fun hh=>k92 (e92.1 hh)),if_neg (fun hh=>k46 ((h.eqv 46 (by omega)).1 hh)),hl]);rw [eT];exact ⟨_,f,p+k,hst,hn,by omega,AtomOK.one rfl (tokB0 rfl rfl),.inr ⟨by show 1<=2;decide,by show 2<=4;decide⟩,.inr (.inl ⟨_,rfl,rfl,⟨by show 1<=2;decide,by show 2<=4;decide⟩,fun c'=>by simp [tkTok,anyPt,inPt_pos,inSp_one,ZM,Pro.qK];rfl,by show 1<=1000;decide,fun p hp=>by simp at hp;subst hp;simp⟩)⟩
  ·have e:Pro.zL L (s.size:Nat) D n=Pro.bad 3 (Pro.zC L (s.size:Nat) n) n:=(by unfold Pro.zL;rw [if_pos (by rw [hw];exact hwb)]);have hwc:zd s p=42\/zd s p=43\/zd s p=63\/zd s p=123\/zd s p=125\/zd s p=93:=(by unfold Ref.wrongB at hwb;simp at hwb;omega);have et:Ref.zv s (st0 p)=(⟨0,false,[],0,0,0⟩,⟨p,3,p⟩):=by
    unfold Ref.zv;rw [hi,if_neg (by omega),if_neg nbB,if_neg (by omega),if_neg (by omega),if_neg (by omega),if_neg (by omega),if_neg k40,if_neg hstop.2,if_pos hwb,fail0]
   rw [e];refine ⟨fun _=>?_,fun hh=>absurd hh (by simp [Pro.bad])⟩;rw [Ref.zes (st:=st0 p) ⟨hlt,rfl⟩ (no_q hA) (fun hh=>k40 hh.1),et];have e1:Ref.zen 0 op=op:=(by unfold Ref.zen;simp);simp only [];rw [e1,if_neg (by omega)];obtain ⟨l',hl⟩:=zex (s:=s) (f:=f) (l:=l++[⟨0,false,[],0,0,0⟩]) (op:=op) (atom:=((0:Int) == 1) ||((0:Int) == 4)) (st:=⟨p,3,p⟩) (show (3:Int)≠0 by decide);exact ⟨l',by rw [hl];show (l',(3:Int),(p:Int))=(l',((3:Nat):Int),Pro.zC L (s.size:Nat) n);rw [h.place];rfl⟩
end Eqv
namespace Eqv
variable {s:ByteArray} {L:List (Int×Int)}
theorem zhp (hs4:s.size<=400){op:Int}{D:Nat->Pro.Out}{F:Nat}{DT:Nat->Tree}(hD:zeu s L op D (F+1) DT)(hDO:Pro.DOK L D)(hop:0<=op){f:Nat}{l:List Tok}{atom:Bool}{n p:Nat}(h:Br s L n p)(hf:s.size<p+f)(hlt:p<s.size)(hA:atom=true->Ref.quantB (zd s p)=false)(hstop:zd s p≠124/\zd s p≠41) :
  Goes s L f l op atom p (Pro.zV L (s.size:Nat) D n) (fun ts=>TermP (Pro.zV L (s.size:Nat) D n).v ts/\zer (F+2) ts (Pro.xO L (s.size:Nat) D DT n)):=by
 have hi:(st0 p).i=p:=rfl;have hb0:=(yL s p).2 hlt;by_cases has:Pro.asN L n=0
 ·obtain ⟨g1,g2⟩:=zho hs4 hD hop (l:=l) h hf hlt hA hstop has;have hin:=Pro.QC (len:=(s.size:Nat)) hDO n (h.lt.2 hlt);by_cases hk:(Pro.zL L (s.size:Nat) D n).k=0
  ·obtain ⟨ts,f1,p1,e1,b1,hf1,hok,hkd,htok⟩:=g2 hk;have hvb:=hin.2.2 hk;have hq:=zgW (s:=s) (L:=L) (l:=l) (op:=op) b1 hf1 hok hvb.2.1 hvb.2.2 hk rfl rfl;have et:Pro.zV L (s.size:Nat) D n=(if (Pro.zu L (s.size:Nat) (Pro.zL L (s.size:Nat) D n).n).1=false then Pro.zL L (s.size:Nat) D n else if (Pro.zu L (s.size:Nat) (Pro.zL L (s.size:Nat) D n).n).2.1.k≠0 then (Pro.zu L (s.size:Nat) (Pro.zL L (s.size:Nat) D n).n).2.1 else Pro.good (min (Pro.repS (Pro.zL L (s.size:Nat) D n).v (Pro.zu L (s.size:Nat) (Pro.zL L (s.size:Nat) D n).n).2.1.v (Pro.zu L (s.size:Nat) (Pro.zL L (s.size:Nat) D n).n).2.2) 301) (Pro.jR L (Pro.zu L (s.size:Nat) (Pro.zL L (s.size:Nat) D n).n).2.1.n)):=by
    unfold Pro.zV;rw [if_neg (by simp [has]),if_neg (by simp [hk])]
   rw [et];refine ⟨fun hh=>by rw [e1];exact hq.1 hh,fun hh=>?_⟩;obtain ⟨us,f2,p2,at2,e2,b2,hf2,ha2,hP⟩:=hq.2 hh;refine ⟨ts++us,f2,p2,at2,by rw [e1,e2,ql],b2,hf2,ha2,?_⟩;rcases hP with ⟨rfl,hq0⟩ |⟨q,rfl,hadd,hbq,hq1,hq6,hqn,hqx⟩
   ·have hq0':(Pro.zu L (s.size:Nat) (Pro.zL L (s.size:Nat) D n).n).1=false:=by
     by_cases hx:(Pro.zu L (s.size:Nat) (Pro.zL L (s.size:Nat) D n).n).1=false
     ·exact hx
     ·rw [if_neg hx] at hq0;exact hq0.elim
    have eT:Pro.xO L (s.size:Nat) D DT n=Pro.xk L (s.size:Nat) DT n:=(by unfold Pro.xO;rw [if_neg (by simp [has]),if_pos hq0']);rw [if_pos hq0',kT,eT];exact ⟨⟨hok.1,hok.2.2.2.1,hok.2.1⟩,zer.up _ _ _ _ (by omega) htok⟩
   ·have hk2:¬(Pro.zu L (s.size:Nat) (Pro.zL L (s.size:Nat) D n).n).2.1.k≠0:=fun hx=>by
     rw [if_neg (by simp [hq1]),if_pos hx] at hh;exact hx hh
    have eT:Pro.xO L (s.size:Nat) D DT n=Pro.tRep (Pro.xk L (s.size:Nat) DT n) (Pro.zu L (s.size:Nat) (Pro.zL L (s.size:Nat) D n).n).2.1.v (Pro.zu L (s.size:Nat) (Pro.zL L (s.size:Nat) D n).n).2.2:=(by unfold Pro.xO;rw [if_neg (by simp [has]),if_neg (by simp [hq1])]);rw [if_neg (by simp [hq1]),if_neg hk2,eT];refine ⟨⟨hok.1.append hbq,hadd,?_⟩,.inr (.inr (.inr ⟨rfl,ts,q,rfl,hq6,hqn,hqx,hkd,htok⟩))⟩;have h2:=hok.2.1;have h3:=hok.2.2.1;cases ts with
    |nil=>exact absurd rfl h3
    |cons t r=>exact h2
  ·have et:Pro.zV L (s.size:Nat) D n=Pro.zL L (s.size:Nat) D n:=(by unfold Pro.zV;rw [if_neg (by simp [has]),if_pos hk]);rw [et];exact ⟨g1,fun hh=>absurd hh hk⟩
 ·have et:Pro.zV L (s.size:Nat) D n=Pro.good 1 (n+Pro.asN L n):=by unfold Pro.zV;rw [if_pos has]
  rw [et];refine ⟨fun hh=>absurd rfl hh,fun _=>?_⟩;obtain ⟨f,rfl⟩:∃ f',f=f'+1:=⟨f-1,by omega⟩
  have hs:∃ t k,Ref.zv s (st0 p)=(t,st0 (p+k))/\(t.kind=2/\Ref.TokB t)/\Br s L (n+Pro.asN L n) (p+k)/\1<=k/\zd s p≠40/\0<=Pro.asV L n/\Pro.asV L n<=3/\t.c=asSign (Pro.asV L n)/\t.parts=[]:=by
   unfold Pro.asN at has ⊢;by_cases h1:Pro.zf L n=94\/Pro.zf L n=36
   ·rw [if_pos h1];have h1':zd s p=94\/zd s p=36:=(by rcases h1 with k |k;exact .inl ((h.eqv 94 (by omega)).1 k);exact .inr ((h.eqv 36 (by omega)).1 k));refine ⟨⟨2,false,[],zd s p,0,0⟩,1,?_,⟨rfl,tokB0 rfl rfl⟩,h.next (by omega) (by omega),by omega,by omega,?_⟩
    ·unfold Ref.zv;rw [hi,if_pos h1',go0]
    ·show 0<=Pro.asV L n/\Pro.asV L n<=3/\zd s p=asSign (Pro.asV L n)/\([]:List Pt)=[]
     unfold Pro.asV;rcases h1 with k |k
     ·rw [if_pos k];exact ⟨by decide,by decide,(h.eqv 94 (by omega)).1 k,rfl⟩
     ·rw [if_neg (by omega),if_pos k];exact ⟨by decide,by decide,(h.eqv 36 (by omega)).1 k,rfl⟩
   ·rw [if_neg h1] at has ⊢;by_cases h2:Pro.zf L n=92/\(Pro.zf L (n+1)=98\/Pro.zf L (n+1)=66)
    ·rw [if_pos h2];have k1:=(h.eqv 92 (by omega)).1 h2.1;have hb:=h.go k1 (by omega) (by omega);have k2:zd s (p+1)=98\/zd s (p+1)=66:=(by rcases h2.2 with k |k;exact .inl ((hb.eqv 98 (by omega)).1 k);exact .inr ((hb.eqv 66 (by omega)).1 k));refine ⟨⟨2,false,[],zd s (p+1),0,0⟩,2,?_,⟨rfl,tokB0 rfl rfl⟩,hb.next (by omega) (by omega),by omega,by omega,?_⟩
     ·unfold Ref.zv;rw [hi,if_neg (by omega),if_pos ⟨k1,k2⟩,go0]
     ·show 0<=Pro.asV L n/\Pro.asV L n<=3/\zd s (p+1)=asSign (Pro.asV L n)/\([]:List Pt)=[]
      unfold Pro.asV;rw [if_neg (by omega),if_neg (by omega)];by_cases k:Pro.zf L (n+1)=98
      ·rw [if_pos k];exact ⟨by decide,by decide,(hb.eqv 98 (by omega)).1 k,rfl⟩
      ·rw [if_neg k];exact ⟨by decide,by decide,(hb.eqv 66 (by omega)).1 (by rcases h2.2 with q |q;exact absurd q k;exact q),rfl⟩
    ·rw [if_neg h2] at has;exact absurd rfl has
  obtain ⟨t,k,et2,⟨hk2,htb⟩,hb,hk1,h40,hv0,hv3,htc,htp⟩:=hs;have eT:Pro.xO L (s.size:Nat) D DT n=Pro.tAsr (Pro.asV L n):=by unfold Pro.xO;rw [if_pos has]
  rw [eT];refine ⟨[t],f,p+k,false,?_,hb,by omega,(fun hh=>by cases hh),⟨Ref.Bal.one (by omega) (by omega) htb,Ref.zeo.one (by omega) (by omega),by show t.kind≠6;omega⟩,.inl ⟨rfl,hv0,hv3,t,rfl,hk2,htc,htp⟩⟩;rw [Ref.zes (st:=st0 p) ⟨hlt,rfl⟩ (no_q hA) (fun hh=>h40 hh.1),et2];simp only [];rw [hk2];have e1:Ref.zen 2 op=op:=by unfold Ref.zen;simp
  rw [e1,if_neg (by omega)];rfl
theorem zft {n p:Nat}(h:Br s L n p):Pro.yx L n=true↔(¬p<s.size\/zd s p=124\/zd s p=41):=by
 have e1:=h.eqv 124 (by omega);have e2:=h.eqv 41 (by omega);have e3:=h.lt;unfold Pro.yx;simp only [Z5,decide_eq_true_eq];constructor
 ·rintro ((k |k) |k)
  ·exact .inl (fun hh=>by have:=e3.2 hh;omega)
  ·exact .inr (.inl (e1.1 k))
  ·exact .inr (.inr (e2.1 k))
 ·rintro (k |k |k)
  ·exact .inl (.inl (Nat.le_of_not_lt (fun hh=>k (e3.1 hh))))
  ·exact .inl (.inr (e1.2 k))
  ·exact .inr (e2.2 k)
theorem zfM (hs4:s.size<=400){op:Int}{D:Nat->Pro.Out}{F:Nat}{DT:Nat->Tree}(hD:zeu s L op D (F+1) DT)(hDO:Pro.DOK L D)(hop:0<=op):∀ (g f:Nat) (l:List Tok) (v:Int) (atom:Bool) (n p:Nat),Br s L n p->s.size<p+f->L.length<n+g->(atom=true->Ref.quantB (zd s p)=false)->0<=v->v<=301->
  Goes s L f l op atom p (Pro.yp L (s.size:Nat) D g v n) (fun ts=>(Ref.Bal ts/\Ref.headKind ts≠6/\∀ us,Ref.zeo us v->Ref.zeo (us++ts) (Pro.yp L (s.size:Nat) D g v n).v)/\∃ new,(∀ zs,Pro.xt L (s.size:Nat) D DT g zs n=zs++new)/\TokS (zer (F+2)) ts new)/\((Pro.yp L (s.size:Nat) D g v n).k=0->Pro.yx L (Pro.yp L (s.size:Nat) D g v n).n=true)
 |0,f,l,v,atom,n,p,h,hf,hg,hA,hv0,hv1=>by have:=h.le;omega
 |g+1,f,l,v,atom,n,p,h,hf,hg,hA,hv0,hv1=>by
  simp only [Pro.yp];by_cases hs:Pro.yx L n=true
  ·rw [if_pos hs];exact ⟨⟨fun hh=>absurd rfl hh,fun _=>⟨[],f,p,atom,by rw [kT],h,hf,hA,⟨Ref.Bal.nil,by decide,fun us hu=>by rw [kT];exact hu⟩,[],fun zs=>by simp only [Pro.xt];rw [if_pos hs,kT],rfl⟩⟩,fun _=>hs⟩
  ·rw [if_neg hs];have hns:=fun hh=>hs ((zft h).2 hh);have hlt:p<s.size:=Classical.byContradiction fun hh=>hns (.inl hh);have ht:=zhp hs4 hD hDO hop (l:=l) h hf hlt hA ⟨fun hh=>hns (.inr (.inl hh)),fun hh=>hns (.inr (.inr hh))⟩;have hin:=Pro.Ym (len:=(s.size:Nat)) hDO n (h.lt.2 hlt);by_cases hk:(Pro.zV L (s.size:Nat) D n).k=0
   ·rw [if_neg (by simp [hk])];obtain ⟨ts,f1,p1,at1,e1,b1,hf1,ha1,⟨hB,hadd,hh6⟩,htok⟩:=ht.2 hk;have hvb:=hin.2.2 hk;obtain ⟨r1,r2⟩:=zfM hs4 hD hDO hop g f1 (l++ts) (min (v+(Pro.zV L (s.size:Nat) D n).v) 301) at1 _ p1 b1 hf1 (by omega) ha1 (by omega) (by omega);refine ⟨⟨fun hh=>by rw [e1];exact r1.1 hh,fun hh=>?_⟩,r2⟩;obtain ⟨us,f2,p2,at2,e2,b2,hf2,ha2,⟨hB2,h62,hadd2⟩,new,hnew,htoks⟩:=r1.2 hh;refine ⟨ts++us,f2,p2,at2,by rw [e1,e2,ql],b2,hf2,ha2,⟨hB.append hB2,?_,fun ws hw=>?_⟩,Pro.xO L (s.size:Nat) D DT n :: new,fun zs=>?_,ts,us,rfl,htok,htoks⟩
    ·cases ts with
     |nil=>exact h62
     |cons t r=>exact hh6
    ·rw [<-ql];exact hadd2 (ws++ts) (hw.append hadd hv0 hvb.2.1 hh6)
    ·simp only [Pro.xt];rw [if_neg hs,hnew,ql];rfl
   ·rw [if_pos hk];exact ⟨⟨ht.1,fun hh=>absurd hh hk⟩,fun hh=>absurd hh hk⟩
end Eqv
namespace Eqv
variable {s:ByteArray} {L:List (Int×Int)}
theorem alt_goes (hs4:s.size<=400){op:Int}{D:Nat->Pro.Out}{F:Nat}{DT:Nat->Tree}(hD:zeu s L op D (F+1) DT)(hDO:Pro.DOK L D)(hop:0<=op):∀ (g f:Nat) (l:List Tok) (zs:List Int) (n p:Nat),Br s L n p->s.size<p+f->L.length<n+g->(∀ z∈zs,0<=z)->
  Goes s L f l op false p (Pro.altO L (s.size:Nat) D g zs n) (fun ts=>(Ref.Bal ts/\Ref.headKind ts≠6/\∀ us,Ref.zeo us (min (Pro.sumS 0 zs+zs.length) 301)->Ref.zeo (us++ts) (Pro.altO L (s.size:Nat) D g zs n).v)/\∃ new,(∀ ys,Pro.altT L (s.size:Nat) D DT g ys n=ys++new)/\TokC (zer (F+2)) ts new)/\((Pro.altO L (s.size:Nat) D g zs n).k=0->Pro.yx L (Pro.altO L (s.size:Nat) D g zs n).n=true/\Pro.zf L (Pro.altO L (s.size:Nat) D g zs n).n≠124)
 |0,f,l,zs,n,p,h,hf,hg,hz=>by have:=h.le;omega
 |g+1,f,l,zs,n,p,h,hf,hg,hz=>by
  have hle:=h.le;have hsb:=Pro.Yl zs 0 (by omega) (by omega) hz;obtain ⟨t1,t2⟩:=zfM hs4 hD hDO hop (L.length+1-n) f l 0 false n p h hf (by omega) (fun hh=>by cases hh) (by omega) (by omega);have htin:=Pro.vk (len:=(s.size:Nat)) hDO n hle;have e0:Pro.zw L (s.size:Nat) D n=Pro.yp L (s.size:Nat) D (L.length+1-n) 0 n:=rfl;rw [<-e0] at t1 t2;simp only [Pro.altO];by_cases hk:(Pro.zw L (s.size:Nat) D n).k=0
  ·rw [if_neg (by simp [hk])];obtain ⟨ts,f1,p1,at1,e1,b1,hf1,ha1,⟨hB,h6,hadd⟩,tn,htn,htoks⟩:=t1.2 hk;have htq:Pro.yq L (s.size:Nat) D DT n=Pro.tSeq tn:=(by unfold Pro.yq;rw [htn,kB]);have hstop:=t2 hk;have hts:Ref.zeo ts (Pro.zw L (s.size:Nat) D n).v:=hadd [] Ref.zeo.nil;have hvb:=htin.2.2 hk;have happ:=Pro.sumS_append zs 0 (Pro.zw L (s.size:Nat) D n).v;by_cases hbar:Pro.zf L (Pro.zw L (s.size:Nat) D n).n=124
   ·rw [if_pos hbar];have hb:=(b1.eqv 124 (by omega)).1 hbar;have hlt1:p1<s.size:=(yL s p1).1 (by omega);have b2:=b1.go hb (by omega) (by omega);obtain ⟨f1,rfl⟩:∃ f',f1=f'+1:=⟨f1-1,by omega⟩
    have et:Ref.zv s (st0 p1)=(⟨5,false,[],0,0,0⟩,st0 (p1+1)):=by
     have hi:(st0 p1).i=p1:=rfl;unfold Ref.zv;rw [hi,if_neg (by omega),if_neg (by omega),if_pos hb,go0]
    have hst:Ref.vp s (f1+1) (l++ts) op at1 (st0 p1)=Ref.vp s f1 (l++ts++[⟨5,false,[],0,0,0⟩]) op false (st0 (p1+1)):=by
     rw [Ref.zes (st:=st0 p1) ⟨hlt1,rfl⟩ (no_q ha1) (fun hh=>by have:zd s p1=40:=hh.1;omega),et];simp only [];have e5:Ref.zen 5 op=op:=(by unfold Ref.zen;simp);rw [e5,if_neg (by omega)];rfl
    have hz':∀ z∈zs++[(Pro.zw L (s.size:Nat) D n).v],0<=z:=by
     intro z hzm;rcases qe.1 hzm with hm |hm
     ·exact hz z hm
     ·simp at hm;omega
    obtain ⟨r1,r2⟩:=alt_goes hs4 hD hDO hop g f1 (l++ts++[⟨5,false,[],0,0,0⟩]) (zs++[(Pro.zw L (s.size:Nat) D n).v]) _ (p1+1) b2 (by omega) (by omega) hz';refine ⟨⟨fun hh=>by rw [e1,hst];exact r1.1 hh,fun hh=>?_⟩,r2⟩;obtain ⟨us,f2,p2,at2,e2,b3,hf2,ha2,⟨hB2,h62,hadd2⟩,an,han,pre,fin,init,last,c1,c2,c3,c4,c5⟩:=r1.2 hh;refine ⟨ts++[⟨5,false,[],0,0,0⟩]++us,f2,p2,at2,by rw [e1,hst,e2];simp only [ql],b3,hf2,ha2,⟨(hB.append (Ref.Bal.one (show (5:Int)≠3 by decide) (show (5:Int)≠4 by decide) (tokB0 rfl rfl))).append hB2,?_,fun ws hw=>?_⟩,Pro.tSeq tn :: an,fun ys=>?_,ts++[⟨5,false,[],0,0,0⟩]++pre,fin,Pro.tSeq tn :: init,last,by rw [c1];simp only [ql],by rw [c2];rfl,⟨ts,pre,⟨5,false,[],0,0,0⟩,by simp,rfl,rfl,htoks,c3⟩,c4,c5⟩
    ·cases ts with
     |nil=>exact (show (5:Int)≠6 by decide)
     |cons t r=>exact h6
    ·rw [<-ql,<-ql];refine hadd2 _ ?_;have h1:=hw.append hts (by omega) hvb.1 h6;have h2:=h1.append (Ref.zeo.bar (t:=⟨5,false,[],0,0,0⟩) rfl) (by omega) (by omega) (show (5:Int)≠6 by decide);refine h2.weak ?_ (by omega) ?_
     ·rw [happ,yS];simp only [qH,jU];omega
     ·rw [happ];omega
    ·simp only [Pro.altT];rw [if_pos hbar,htq,han,ql];rfl
   ·rw [if_neg hbar];refine ⟨⟨fun hh=>absurd rfl hh,fun _=>⟨ts,f1,p1,at1,e1,b1,hf1,ha1,⟨hB,h6,fun ws hw=>?_⟩,[Pro.tSeq tn],fun ys=>by simp only [Pro.altT];rw [if_neg hbar,htq],[],ts,[],Pro.tSeq tn,rfl,rfl,rfl,rfl,htoks⟩⟩,fun _=>⟨hstop,hbar⟩⟩;have h1:=hw.append hts (by omega) hvb.1 h6;refine h1.weak ?_ (by omega) ?_
    ·show min (min (min (Pro.sumS 0 zs+zs.length) 301+_) 301) 301=min (min (Pro.sumS 0 (zs++[_])+((zs.length:Int)+1)-1) 301) 301;rw [happ];omega
    ·show 0<=min (Pro.sumS 0 (zs++[_])+((zs.length:Int)+1)-1) 301;rw [happ];omega
  ·rw [if_pos hk];exact ⟨⟨t1.1,fun hh=>absurd hh hk⟩,fun hh=>absurd hh hk⟩
theorem zgX:zeu s L 10 (Pro.zl L (s.size:Nat) 0) 1 (Pro.zH L (s.size:Nat) 0):=by
 intro f l atom n p h hf hb;have hlt:p<s.size:=(yL s p).1 (by omega);obtain ⟨f,rfl⟩:∃ f',f=f'+1:=⟨f-1,by omega⟩
 refine ⟨fun _=>⟨[],?_⟩,fun hh=>absurd hh (by simp [Pro.zl,Pro.bad])⟩;rw [Ref.zfo (st:=st0 p) ⟨hlt,rfl⟩ (fun hh=>by have:Ref.quantB (zd s p)=true:=hh.2;rw [hb] at this;exact absurd this (by decide)) ⟨hb,rfl⟩];show ([],(7:Int),(p:Int))=([],((7:Nat):Int),Pro.zC L (s.size:Nat) n)
 rw [h.place];rfl
theorem zgY (hs4:s.size<=400){op:Int}{r F:Nat}(hop:0<=op)(h10:op<10)(hD:zeu s L (op+1) (Pro.zl L (s.size:Nat) r) (F+1) (Pro.zH L (s.size:Nat) r)):zeu s L op (Pro.zl L (s.size:Nat) (r+1)) (F+3) (Pro.zH L (s.size:Nat) (r+1)):=by
 intro f l atom n p h hf hb;have hlt:p<s.size:=(yL s p).1 (by omega);have hnl:=h.lt.2 hlt;obtain ⟨f,rfl⟩:∃ f',f=f'+1:=⟨f-1,by omega⟩
 have hi:(st0 p).i=p:=rfl;have et:Ref.zv s (st0 p)=(⟨3,false,[],0,0,0⟩,Ref.openF s (st0 p)):=by
  unfold Ref.zv;rw [hi,if_neg (by omega),if_neg (by omega),if_neg (by omega),if_neg (by omega),if_neg (by omega),if_neg (by omega),if_pos hb]
 have hnq:¬(atom=true/\Ref.quantB (zd s (st0 p).i)=true):=fun hh=>by have:Ref.quantB (zd s p)=true:=hh.2;rw [hb] at this;exact absurd this (by decide)
 have hst:Ref.vp s (f+1) l op atom (st0 p)=Ref.vp s f (l++[⟨3,false,[],0,0,0⟩]) (op+1) false (Ref.openF s (st0 p)):=by
  rw [Ref.zes (st:=st0 p) ⟨hlt,rfl⟩ hnq (fun hh=>by have:=hh.2;omega),et];simp only [];have e3:Ref.zen 3 op=op+1:=by unfold Ref.zen;simp
  rw [e3,if_neg (by omega)];rfl
 have hos:=zhn h hb;have hoi:=Pro.wI (L:=L) (len:=(s.size:Nat)) n hnl;rw [hst];simp only [Pro.zl];unfold Pro.qE;by_cases hk1:(Pro.zS L (s.size:Nat) n).k=0
 ·obtain ⟨a1,a2,_,b1⟩:=hos.1 hk1;rw [if_neg (by simp [hk1]),st_eta a1 a2];have hgt:p<(Ref.openF s (st0 p)).i:=by
   by_cases hh:p<(Ref.openF s (st0 p)).i
   ·exact hh
   ·exfalso;have:=br_mono h b1 (by omega);omega
  have hble:=b1.le;obtain ⟨r1,r2⟩:=alt_goes hs4 hD (Pro.zQ r) (by omega) (L.length+1-(Pro.zS L (s.size:Nat) n).n) f (l++[⟨3,false,[],0,0,0⟩]) [] (Pro.zS L (s.size:Nat) n).n _ b1 (by omega) (by omega) (by simp);have e0:Pro.altP L (s.size:Nat) (Pro.zl L (s.size:Nat) r) (Pro.zS L (s.size:Nat) n).n=Pro.altO L (s.size:Nat) (Pro.zl L (s.size:Nat) r) (L.length+1-(Pro.zS L (s.size:Nat) n).n) [] (Pro.zS L (s.size:Nat) n).n:=rfl;rw [<-e0] at r1 r2;have hai:=Pro.yF (L:=L) (len:=(s.size:Nat)) (D:=Pro.zl L (s.size:Nat) r) (Pro.zQ r) (Pro.zS L (s.size:Nat) n).n hoi.2;by_cases hk2:(Pro.altP L (s.size:Nat) (Pro.zl L (s.size:Nat) r) (Pro.zS L (s.size:Nat) n).n).k=0
  ·rw [if_neg (by simp [hk2])];obtain ⟨ts,f2,p2,at2,e2,b2,hf2,ha2,⟨hB,_,hadd⟩,an,han,htc⟩:=r1.2 hk2;obtain ⟨hs1,hs2⟩:=r2 hk2;have hts:Ref.zeo ts (Pro.altP L (s.size:Nat) (Pro.zl L (s.size:Nat) r) (Pro.zS L (s.size:Nat) n).n).v:=hadd [] (by exact Ref.zeo.nil);have hvb:=hai.2.2 hk2;rw [e2];by_cases h41:Pro.zf L (Pro.altP L (s.size:Nat) (Pro.zl L (s.size:Nat) r) (Pro.zS L (s.size:Nat) n).n).n=41
   ·rw [if_pos h41];have hb2:=(b2.eqv 41 (by omega)).1 h41;have hlt2:p2<s.size:=(yL s p2).1 (by omega);obtain ⟨f2,rfl⟩:∃ f',f2=f'+1:=⟨f2-1,by omega⟩
    refine ⟨fun hh=>absurd rfl hh,fun _=>⟨⟨3,false,[],0,0,0⟩ :: ts++[⟨4,false,[],0,0,0⟩],f2,p2+1,?_,b2.go hb2 (by omega) (by omega),by omega,AtomOK.group rfl rfl (tokB0 rfl rfl) (tokB0 rfl rfl) hB hts hvb.1 hvb.2,rfl,.inr (.inr (.inl ⟨rfl,_,_,ts,rfl,rfl,rfl,hB,?_⟩))⟩⟩
    rotate_left
    ·show TokC (zer (F+2)) ts (Pro.altT L (s.size:Nat) (Pro.zl L (s.size:Nat) r) (Pro.zH L (s.size:Nat) r) (L.length+1-(Pro.zS L (s.size:Nat) n).n) [] (Pro.zS L (s.size:Nat) n).n);rw [han,kB];exact htc
    have hi2:(st0 p2).i=p2:=rfl;have et2:Ref.zv s (st0 p2)=(⟨4,false,[],0,0,0⟩,st0 (p2+1)):=by
     unfold Ref.zv;rw [hi2,if_neg (by omega),if_neg (by omega),if_neg (by omega),if_neg (by omega),if_neg (by omega),if_neg (by omega),if_neg (by omega),if_pos hb2,go0]
    rw [Ref.zes (st:=st0 p2) ⟨hlt2,rfl⟩ (fun hh=>by have:Ref.quantB (zd s p2)=true:=hh.2;rw [hb2] at this;exact absurd this (by decide)) (fun hh=>by have:zd s p2=40:=hh.1;omega),et2];simp only [];have e4:Ref.zen 4 (op+1)=op:=(by unfold Ref.zen;rw [if_neg (by decide),if_pos rfl];omega);rw [e4,if_neg (by omega)];simp only [ql,jS,kB];rfl
   ·rw [if_neg h41];refine ⟨fun _=>?_,fun hh=>absurd hh (by simp [Pro.bad])⟩;have hend:¬p2<s.size:=by
     rcases (zft b2).1 hs1 with k |k |k
     ·exact k
     ·exact absurd ((b2.eqv 124 (by omega)).2 k) hs2
     ·exact absurd ((b2.eqv 41 (by omega)).2 k) h41
    obtain ⟨f2,rfl⟩:∃ f',f2=f'+1:=⟨f2-1,by have:=b2.good.le;omega⟩
    rw [Ref.zeK (st:=st0 p2) (fun hh=>hend hh.1),if_pos (by omega),fail0];refine ⟨l++[⟨3,false,[],0,0,0⟩]++ts,?_⟩;have:=b2.good.le;have:=b2.place;show (_,(3:Int),((s.size:Nat):Int))=(_,((3:Nat):Int),Pro.zC L (s.size:Nat) _)
    rw [b2.place,show p2=s.size by omega];rfl
  ·rw [if_pos hk2];exact ⟨r1.1,fun hh=>absurd hh hk2⟩
 ·rw [if_pos hk1];have he:=hos.2 hk1;obtain ⟨l',hl⟩:=zex (s:=s) (f:=f) (l:=l++[⟨3,false,[],0,0,0⟩]) (op:=op+1) (atom:=false) (out_ne hos hk1);exact ⟨fun _=>⟨l',by rw [hl,he.1,he.2]⟩,fun hh=>absurd hh hk1⟩
theorem zfE (hs4:s.size<=400):∀ r:Nat,r<=10->zeu s L ((10:Int)-r) (Pro.zl L (s.size:Nat) r) (2*r+1) (Pro.zH L (s.size:Nat) r)
 |0,_=>zgX
 |r+1,hr=>by
  refine zgY hs4 (F:=2*r) (by omega) (by omega) ?_;rw [show ((10:Int)-((r+1:Nat):Int))+1=(10:Int)-r by omega];exact zfE hs4 r (by omega)
theorem zgZ (hs4:s.size<=400)(h:Br s L 0 0) :
  ((Pro.altP L (s.size:Nat) (Pro.zl L (s.size:Nat) 10) 0).k≠0->∃ l',Ref.tokensR s=(l',((Pro.altP L (s.size:Nat) (Pro.zl L (s.size:Nat) 10) 0).k:Int),(Pro.altP L (s.size:Nat) (Pro.zl L (s.size:Nat) 10) 0).p))/\
  ((Pro.altP L (s.size:Nat) (Pro.zl L (s.size:Nat) 10) 0).k=0->((Pro.altP L (s.size:Nat) (Pro.zl L (s.size:Nat) 10) 0).n=L.length->∃ ts,Ref.tokensR s=(ts,0,0)/\Ref.Bal ts/\Ref.zeo ts (Pro.altP L (s.size:Nat) (Pro.zl L (s.size:Nat) 10) 0).v/\TokC (zer 22) ts (Pro.altQ L (s.size:Nat) (Pro.zl L (s.size:Nat) 10) (Pro.zH L (s.size:Nat) 10) 0).kids)/\
   ((Pro.altP L (s.size:Nat) (Pro.zl L (s.size:Nat) 10) 0).n≠L.length->∃ l',Ref.tokensR s=(l',3,Pro.zC L (s.size:Nat) (Pro.altP L (s.size:Nat) (Pro.zl L (s.size:Nat) 10) 0).n))):=by
 have hD:zeu s L 0 (Pro.zl L (s.size:Nat) 10) 21 (Pro.zH L (s.size:Nat) 10):=zfE hs4 10 (by omega);obtain ⟨r1,r2⟩:=alt_goes hs4 hD (Pro.zQ 10) (by omega) (L.length+1-0) (s.size+1) [] [] 0 0 h (by omega) (by omega) (by simp);have e0:Pro.altP L (s.size:Nat) (Pro.zl L (s.size:Nat) 10) 0=Pro.altO L (s.size:Nat) (Pro.zl L (s.size:Nat) 10) (L.length+1-0) [] 0:=rfl;rw [<-e0] at r1 r2;have eR:Ref.tokensR s=Ref.vp s (s.size+1) [] 0 false (st0 0):=rfl;rw [eR];refine ⟨r1.1,fun hk=>?_⟩;obtain ⟨ts,f2,p2,at2,e2,b2,hf2,ha2,⟨hB,_,hadd⟩,an,han,htc⟩:=r1.2 hk;obtain ⟨hs1,hs2⟩:=r2 hk;have hts:Ref.zeo ts _:=hadd [] (by exact Ref.zeo.nil);rw [e2];constructor
 ·intro hn;have hend:¬p2<s.size:=fun hh=>by have:=b2.lt.2 hh;omega
  obtain ⟨f2,rfl⟩:∃ f',f2=f'+1:=⟨f2-1,by have:=b2.good.le;omega⟩
  have hkids:(Pro.altQ L (s.size:Nat) (Pro.zl L (s.size:Nat) 10) (Pro.zH L (s.size:Nat) 10) 0).kids=an:=(han []).trans (kB _);refine ⟨ts,?_,hB,hts,by rw [hkids];exact htc⟩;rw [Ref.zeK (st:=st0 p2) (fun hh=>hend hh.1),if_neg (by omega)];rfl
 ·intro hn;have hlt2:p2<s.size:=b2.lt.1 (by have:=b2.le;omega);have hb2:zd s p2=41:=by
   rcases (zft b2).1 hs1 with k |k |k
   ·exact absurd hlt2 k
   ·exact absurd ((b2.eqv 124 (by omega)).2 k) hs2
   ·exact k
  obtain ⟨f2,rfl⟩:∃ f',f2=f'+1:=⟨f2-1,by omega⟩
  have hi2:(st0 p2).i=p2:=rfl;have et2:Ref.zv s (st0 p2)=(⟨4,false,[],0,0,0⟩,st0 (p2+1)):=by
   unfold Ref.zv;rw [hi2,if_neg (by omega),if_neg (by omega),if_neg (by omega),if_neg (by omega),if_neg (by omega),if_neg (by omega),if_neg (by omega),if_pos hb2,go0]
  rw [Ref.zes (st:=st0 p2) ⟨hlt2,rfl⟩ (fun hh=>by have:Ref.quantB (zd s p2)=true:=hh.2;rw [hb2] at this;exact absurd this (by decide)) (fun hh=>by have:zd s p2=40:=hh.1;omega),et2];simp only [];have e4:Ref.zen 4 0 = -1:=by decide
  rw [e4,if_pos (by decide),fail0,hi2];obtain ⟨l',hl⟩:=zex (s:=s) (f:=f2) (l:=[]++ts++[⟨4,false,[],0,0,0⟩]) (op:=-1) (atom:=((4:Int) == 1) ||((4:Int) == 4)) (st:=⟨p2+1,3,p2⟩) (show (3:Int)≠0 by decide);exact ⟨l',by rw [hl,b2.place]⟩
end Eqv
namespace Eqv
variable {s:ByteArray}
abbrev cont (b:Int):Prop:=128<=b/\b<=191
theorem J4 {k:Nat}(h:cont (zd s k)):k<s.size:=(yL s k).1 (by unfold cont at h;omega)
theorem xW (k:Nat)(lo hi:Int)(hl:128<=lo)(_hh:hi<=191):Pro.xy s k lo hi=true↔(lo<=zd s k/\zd s k<=hi):=by
 constructor
 ·exact fun h=>Pro.j7 h
 ·intro h;exact Pro.QX ((yL s k).1 (by omega)) (by omega) (by omega)
theorem zau {p:Nat}(hb:192<=zd s p/\zd s p<224):(cont (zd s (p+1))->Ref.oneF s p=if Ref.badC 2 ((zd s p-192)*64+zd s (p+1)-128)=true then none else some (2,(zd s p-192)*64+zd s (p+1)-128))/\(¬cont (zd s (p+1))->Ref.oneF s p=none):=by
 have h1:Ref.headK (zd s p)=2:=by unfold Ref.headK Ref.headN;rw [if_neg (by omega),if_pos hb];rfl
 have h2:Ref.y7 (zd s p)=zd s p-192:=by unfold Ref.y7;rw [if_neg (by omega),if_pos hb]
 constructor
 ·intro hc;have:=J4 hc;have e:Ref.xS s p 1 1 (zd s p-192)=some ((zd s p-192)*64+zd s (p+1)-128):=by
   rw [Ref.xU (by unfold cont at hc;omega)];rfl
  unfold Ref.oneF;rw [h1,h2,if_neg (by omega)];simp only [show 2-1=1 from rfl,e]
 ·intro hc;by_cases hsz:s.size<p+2
  ·exact Ref.kk (by rw [h1];exact .inr hsz)
  ·exact Ref.ZE (by rw [h1];omega) (by rw [h1,h2];exact Ref.j4 (by unfold cont at hc;omega))
theorem Q1 {p:Nat}(hb:224<=zd s p/\zd s p<240):(cont (zd s (p+1))/\cont (zd s (p+2))->Ref.oneF s p=if Ref.badC 3 (((zd s p-224)*64+zd s (p+1)-128)*64+zd s (p+2)-128)=true then none else some (3,((zd s p-224)*64+zd s (p+1)-128)*64+zd s (p+2)-128))/\(¬(cont (zd s (p+1))/\cont (zd s (p+2)))->Ref.oneF s p=none):=by
 have h1:Ref.headK (zd s p)=3:=by unfold Ref.headK Ref.headN;rw [if_neg (by omega),if_neg (by omega),if_pos hb];rfl
 have h2:Ref.y7 (zd s p)=zd s p-224:=by unfold Ref.y7;rw [if_neg (by omega),if_neg (by omega),if_pos hb]
 constructor
 ·rintro ⟨hc,hd⟩;have:=J4 hd;have e:Ref.xS s p 2 1 (zd s p-224)=some (((zd s p-224)*64+zd s (p+1)-128)*64+zd s (p+2)-128):=by
   rw [Ref.xU (by unfold cont at hc;omega),Ref.xU (by unfold cont at hd;show ¬(zd s (p+2)<128\/191<zd s (p+2));omega)];rfl
  unfold Ref.oneF;rw [h1,h2,if_neg (by omega)];simp only [show 3-1=2 from rfl,e]
 ·intro hc;by_cases hsz:s.size<p+3
  ·exact Ref.kk (by rw [h1];exact .inr hsz)
  ·refine Ref.ZE (by rw [h1];omega) ?_;rw [h1,h2];show Ref.xS s p 2 1 _=none;by_cases hc1:cont (zd s (p+1))
   ·rw [Ref.xU (by unfold cont at hc1;omega)];exact Ref.j4 (by unfold cont at hc hc1;show zd s (p+2)<128\/191<zd s (p+2);omega)
   ·exact Ref.j4 (by unfold cont at hc1;omega)
theorem K4 {p:Nat}(hb:240<=zd s p/\zd s p<248):(cont (zd s (p+1))/\cont (zd s (p+2))/\cont (zd s (p+3))->Ref.oneF s p=if Ref.badC 4 ((((zd s p-240)*64+zd s (p+1)-128)*64+zd s (p+2)-128)*64+zd s (p+3)-128)=true then none else some (4,(((zd s p-240)*64+zd s (p+1)-128)*64+zd s (p+2)-128)*64+zd s (p+3)-128))/\(¬(cont (zd s (p+1))/\cont (zd s (p+2))/\cont (zd s (p+3)))->Ref.oneF s p=none):=by
 have h1:Ref.headK (zd s p)=4:=by unfold Ref.headK Ref.headN;rw [if_neg (by omega),if_neg (by omega),if_neg (by omega),if_pos hb];rfl
 have h2:Ref.y7 (zd s p)=zd s p-240:=by unfold Ref.y7;rw [if_neg (by omega),if_neg (by omega),if_neg (by omega),if_pos hb]
 constructor
 ·rintro ⟨hc,hd,hx⟩;have:=J4 hx;have e:Ref.xS s p 3 1 (zd s p-240)=some ((((zd s p-240)*64+zd s (p+1)-128)*64+zd s (p+2)-128)*64+zd s (p+3)-128):=by
   rw [Ref.xU (by unfold cont at hc;omega),Ref.xU (by unfold cont at hd;show ¬(zd s (p+2)<128\/191<zd s (p+2));omega),Ref.xU (by unfold cont at hx;show ¬(zd s (p+3)<128\/191<zd s (p+3));omega)];rfl
  unfold Ref.oneF;rw [h1,h2,if_neg (by omega)];simp only [show 4-1=3 from rfl,e]
 ·intro hc;by_cases hsz:s.size<p+4
  ·exact Ref.kk (by rw [h1];exact .inr hsz)
  ·refine Ref.ZE (by rw [h1];omega) ?_;rw [h1,h2];show Ref.xS s p 3 1 _=none;by_cases hc1:cont (zd s (p+1))
   ·rw [Ref.xU (by unfold cont at hc1;omega)];by_cases hc2:cont (zd s (p+2))
    ·rw [Ref.xU (by unfold cont at hc2;show ¬(zd s (p+2)<128\/191<zd s (p+2));omega)];exact Ref.j4 (by unfold cont at hc hc1 hc2;show zd s (p+3)<128\/191<zd s (p+3);omega)
    ·exact Ref.j4 (by unfold cont at hc2;show zd s (p+2)<128\/191<zd s (p+2);omega)
   ·exact Ref.j4 (by unfold cont at hc1;omega)
def ahead (p:Nat):Option (Nat×Int)->Option (Nat×Int)
 |none=>none
 |some (n,c)=>some (p+n,c)
theorem ja (n:Nat)(c:Int):Ref.badC n c=true↔(c<Ref.xK n\/1114111<c\/(55296<=c/\c<=57343)):=by
 unfold Ref.badC;simp [or_assoc]
theorem jE {p:Nat}(hp:p<s.size):Pro.yi s p=ahead p (Ref.oneF s p):=by
 have hb0:=(yL s p).2 hp;have hb1:=yD s p;have l2:Ref.xK ((2:Nat):Int)=128:=rfl;have l3:Ref.xK ((3:Nat):Int)=2048:=rfl;have l4:Ref.xK ((4:Nat):Int)=65536:=rfl;by_cases c0:zd s p<128
 ·have h1:Ref.headK (zd s p)=1:=by unfold Ref.headK Ref.headN;rw [if_pos c0];rfl
  have h2:Ref.y7 (zd s p)=zd s p:=by unfold Ref.y7;rw [if_pos c0]
  have hl:Ref.xK ((1:Nat):Int)=0:=rfl;have:Ref.oneF s p=some (1,zd s p):=by
   have:=Ref.zcy (s:=s) (p:=p) (c:=zd s p) (by rw [h1];omega) (by rw [h1,h2];rfl) (by rw [h1];cases hx:Ref.badC 1 (zd s p) with |false=>rfl |true=>have:=(ja 1 _).1 hx;omega);rw [h1] at this;exact this
  rw [this,Pro.Y8 hp c0];have:Pro.yN (zd s p)=zd s p:=by unfold Pro.yN;rw [if_pos c0]
  rw [this];rfl
 ·by_cases c1:zd s p<192
  ·have h1:Ref.headK (zd s p)=0:=(by unfold Ref.headK Ref.headN;rw [if_neg c0,if_neg (by omega),if_neg (by omega),if_neg (by omega)];rfl);rw [Ref.kk (.inl h1),Pro.jo (by unfold Pro.yO;rw [if_neg c0,if_pos (by omega)])];rfl
  ·by_cases c2:zd s p<224
   ·have ho:=zau (s:=s) (p:=p) ⟨by omega,c2⟩;by_cases hc:cont (zd s (p+1))
    ·rw [ho.1 hc];by_cases c3:zd s p<194
     ·rw [Pro.jo (by unfold Pro.yO;rw [if_neg c0,if_pos c3]),if_pos ((ja 2 _).2 (by rw [l2];unfold cont at hc;omega))];rfl
     ·rw [if_neg (fun hh=>by have:=(ja 2 _).1 hh;rw [l2] at this;unfold cont at hc;omega)];rw [Pro.yV hp (l:=0) (by unfold Pro.yO;rw [if_neg c0,if_neg c3,if_pos c2]) (by omega)];show Pro.oneM s (p+1) _=_;unfold Pro.oneM;rw [if_pos ((xW _ _ _ (by omega) (by omega)).2 hc)];have:Pro.yN (zd s p)=zd s p-192:=(by unfold Pro.yN;rw [if_neg c0,if_pos c2];omega);rw [this];rfl
    ·rw [ho.2 hc];by_cases c3:zd s p<194
     ·rw [Pro.jo (by unfold Pro.yO;rw [if_neg c0,if_pos c3])];rfl
     ·rw [Pro.yV hp (l:=0) (by unfold Pro.yO;rw [if_neg c0,if_neg c3,if_pos c2]) (by omega)];show Pro.oneM s (p+1) _=_;unfold Pro.oneM;rw [if_neg (fun hh=>hc ((xW _ _ _ (by omega) (by omega)).1 hh))];rfl
   ·by_cases c3:zd s p<240
    ·have ho:=Q1 (s:=s) (p:=p) ⟨by omega,c3⟩;have hl:Pro.yN (zd s p)=zd s p-224:=(by unfold Pro.yN;rw [if_neg c0,if_neg c2,if_pos c3];omega);have key:Pro.yi s p=(if (if zd s p=224 then 160 else 128)<=zd s (p+1)/\zd s (p+1)<=(if zd s p=237 then 159 else 191) then (if cont (zd s (p+2)) then some (p+3,((zd s p-224)*64+zd s (p+1)-128)*64+zd s (p+2)-128) else none) else none):=by
      have gen:∀ lo hi:Int,128<=lo->hi<=191->(if Pro.xy s (p+1) lo hi=true then Pro.oneM s (p+1+1) (Pro.yN (zd s p)*64+zd s (p+1)-128) else none)=(if lo<=zd s (p+1)/\zd s (p+1)<=hi then (if cont (zd s (p+2)) then some (p+3,((zd s p-224)*64+zd s (p+1)-128)*64+zd s (p+2)-128) else none) else none):=by
       intro lo hi h1 h2;by_cases ht:lo<=zd s (p+1)/\zd s (p+1)<=hi
       ·rw [if_pos ((xW _ _ _ h1 h2).2 ht),if_pos ht,hl];unfold Pro.oneM;by_cases hc:cont (zd s (p+2))
        ·rw [if_pos ((xW (p+2) _ _ (by omega) (by omega)).2 hc),if_pos hc]
        ·rw [if_neg (fun hh=>hc ((xW (p+2) _ _ (by omega) (by omega)).1 hh)),if_neg hc]
       ·rw [if_neg (fun hh=>ht ((xW _ _ _ h1 h2).1 hh)),if_neg ht]
      by_cases k1:zd s p=224
      ·rw [Pro.yV hp (l:=1) (by unfold Pro.yO;rw [if_neg c0,if_neg (by omega),if_neg c2,if_pos k1]) (by omega),if_pos k1,if_neg (show ¬zd s p=237 by omega)];exact gen 160 191 (by omega) (by omega)
      ·by_cases k2:zd s p=237
       ·rw [Pro.yV hp (l:=2) (by unfold Pro.yO;rw [if_neg c0,if_neg (by omega),if_neg c2,if_neg k1,if_pos k2]) (by omega),if_neg k1,if_pos k2];exact gen 128 159 (by omega) (by omega)
       ·rw [Pro.yV hp (l:=3) (by unfold Pro.yO;rw [if_neg c0,if_neg (by omega),if_neg c2,if_neg k1,if_neg k2,if_pos c3]) (by omega),if_neg k1,if_neg k2];exact gen 128 191 (by omega) (by omega)
     rw [key];by_cases hc:cont (zd s (p+1))/\cont (zd s (p+2))
     ·rw [ho.1 hc];obtain ⟨hc1,hc2⟩:=hc;rw [if_pos hc2];by_cases hb:Ref.badC 3 (((zd s p-224)*64+zd s (p+1)-128)*64+zd s (p+2)-128)=true
      ·rw [if_pos hb,if_neg (fun hh=>by have:=(ja 3 _).1 hb;rw [l3] at this;unfold cont at hc1 hc2;split at hh<;>split at hh<;>omega)];rfl
      ·have hb':¬(((zd s p-224)*64+zd s (p+1)-128)*64+zd s (p+2)-128<2048\/1114111<((zd s p-224)*64+zd s (p+1)-128)*64+zd s (p+2)-128\/(55296<=((zd s p-224)*64+zd s (p+1)-128)*64+zd s (p+2)-128/\((zd s p-224)*64+zd s (p+1)-128)*64+zd s (p+2)-128<=57343)):=fun hh=>hb ((ja 3 _).2 (by rw [l3];exact hh));rw [if_neg hb,if_pos (by unfold cont at hc1 hc2;constructor<;>split<;>omega)];rfl
     ·rw [ho.2 hc];by_cases ht:(if zd s p=224 then (160:Int) else 128)<=zd s (p+1)/\zd s (p+1)<=(if zd s p=237 then (159:Int) else 191)
      ·have hc1:cont (zd s (p+1)):=(by unfold cont;obtain ⟨a,b⟩:=ht;split at a<;>split at b<;>omega);rw [if_pos ht,if_neg (fun hh=>hc ⟨hc1,hh⟩)];rfl
      ·rw [if_neg ht];rfl
    ·by_cases c4:zd s p<248
     ·have ho:=K4 (s:=s) (p:=p) ⟨by omega,c4⟩;have hl:Pro.yN (zd s p)=zd s p-240:=(by unfold Pro.yN;rw [if_neg c0,if_neg c2,if_neg c3];omega);by_cases c5:245<=zd s p
      ·rw [Pro.jo (by unfold Pro.yO;rw [if_neg c0,if_neg (by omega),if_neg c2,if_neg (by omega),if_neg (by omega),if_neg c3,if_neg (by omega),if_neg (by omega),if_neg (by omega)])];by_cases hc:cont (zd s (p+1))/\cont (zd s (p+2))/\cont (zd s (p+3))
       ·rw [ho.1 hc,if_pos ((ja 4 _).2 (by unfold cont at hc;omega))];rfl
       ·rw [ho.2 hc];rfl
      ·have key:Pro.yi s p=(if (if zd s p=240 then 144 else 128)<=zd s (p+1)/\zd s (p+1)<=(if zd s p=244 then 143 else 191) then (if cont (zd s (p+2)) then (if cont (zd s (p+3)) then some (p+4,(((zd s p-240)*64+zd s (p+1)-128)*64+zd s (p+2)-128)*64+zd s (p+3)-128) else none) else none) else none):=by
        have gen:∀ lo hi:Int,128<=lo->hi<=191->(if Pro.xy s (p+1) lo hi=true then Pro.twoM s (p+1+1) (Pro.yN (zd s p)*64+zd s (p+1)-128) else none)=(if lo<=zd s (p+1)/\zd s (p+1)<=hi then (if cont (zd s (p+2)) then (if cont (zd s (p+3)) then some (p+4,(((zd s p-240)*64+zd s (p+1)-128)*64+zd s (p+2)-128)*64+zd s (p+3)-128) else none) else none) else none):=by
         intro lo hi h1 h2;by_cases ht:lo<=zd s (p+1)/\zd s (p+1)<=hi
         ·rw [if_pos ((xW _ _ _ h1 h2).2 ht),if_pos ht,hl];unfold Pro.twoM Pro.oneM;by_cases hc:cont (zd s (p+2))
          ·rw [if_pos ((xW (p+2) _ _ (by omega) (by omega)).2 hc),if_pos hc];by_cases hd:cont (zd s (p+3))
           ·rw [if_pos ((xW (p+3) _ _ (by omega) (by omega)).2 hd),if_pos hd]
           ·rw [if_neg (fun hh=>hd ((xW (p+3) _ _ (by omega) (by omega)).1 hh)),if_neg hd]
          ·rw [if_neg (fun hh=>hc ((xW (p+2) _ _ (by omega) (by omega)).1 hh)),if_neg hc]
         ·rw [if_neg (fun hh=>ht ((xW _ _ _ h1 h2).1 hh)),if_neg ht]
        by_cases k1:zd s p=240
        ·rw [Pro.yV hp (l:=4) (by unfold Pro.yO;rw [if_neg c0,if_neg (by omega),if_neg c2,if_neg (by omega),if_neg (by omega),if_neg c3,if_pos k1]) (by omega),if_pos k1,if_neg (show ¬zd s p=244 by omega)];exact gen 144 191 (by omega) (by omega)
        ·by_cases k2:zd s p=244
         ·rw [Pro.yV hp (l:=6) (by unfold Pro.yO;rw [if_neg c0,if_neg (by omega),if_neg c2,if_neg (by omega),if_neg (by omega),if_neg c3,if_neg k1,if_neg (by omega),if_pos k2]) (by omega),if_neg k1,if_pos k2];exact gen 128 143 (by omega) (by omega)
         ·rw [Pro.yV hp (l:=5) (by unfold Pro.yO;rw [if_neg c0,if_neg (by omega),if_neg c2,if_neg (by omega),if_neg (by omega),if_neg c3,if_neg k1,if_pos (by omega)]) (by omega),if_neg k1,if_neg k2];exact gen 128 191 (by omega) (by omega)
       rw [key];by_cases hc:cont (zd s (p+1))/\cont (zd s (p+2))/\cont (zd s (p+3))
       ·rw [ho.1 hc];obtain ⟨hc1,hc2,hc3⟩:=hc;rw [if_pos hc2,if_pos hc3];by_cases hb:Ref.badC 4 ((((zd s p-240)*64+zd s (p+1)-128)*64+zd s (p+2)-128)*64+zd s (p+3)-128)=true
        ·rw [if_pos hb,if_neg (fun hh=>by have:=(ja 4 _).1 hb;rw [l4] at this;unfold cont at hc1 hc2 hc3;split at hh<;>split at hh<;>omega)];rfl
        ·have hb':¬((((zd s p-240)*64+zd s (p+1)-128)*64+zd s (p+2)-128)*64+zd s (p+3)-128<65536\/1114111<(((zd s p-240)*64+zd s (p+1)-128)*64+zd s (p+2)-128)*64+zd s (p+3)-128\/(55296<=(((zd s p-240)*64+zd s (p+1)-128)*64+zd s (p+2)-128)*64+zd s (p+3)-128/\(((zd s p-240)*64+zd s (p+1)-128)*64+zd s (p+2)-128)*64+zd s (p+3)-128<=57343)):=fun hh=>hb ((ja 4 _).2 (by rw [l4];exact hh));rw [if_neg hb,if_pos (by unfold cont at hc1 hc2 hc3;constructor<;>split<;>omega)];rfl
       ·rw [ho.2 hc];by_cases ht:(if zd s p=240 then (144:Int) else 128)<=zd s (p+1)/\zd s (p+1)<=(if zd s p=244 then (143:Int) else 191)
        ·have hc1:cont (zd s (p+1)):=(by unfold cont;obtain ⟨a,b⟩:=ht;split at a<;>split at b<;>omega);rw [if_pos ht];by_cases hc2:cont (zd s (p+2))
         ·rw [if_pos hc2,if_neg (fun hh=>hc ⟨hc1,hc2,hh⟩)];rfl
         ·rw [if_neg hc2];rfl
        ·rw [if_neg ht];rfl
     ·have h1:Ref.headK (zd s p)=0:=(by unfold Ref.headK Ref.headN;rw [if_neg c0,if_neg (by omega),if_neg (by omega),if_neg (by omega)];rfl);rw [Ref.kk (.inl h1),Pro.jo (by unfold Pro.yO;rw [if_neg c0,if_neg (by omega),if_neg c2,if_neg (by omega),if_neg (by omega),if_neg c3,if_neg (by omega),if_neg (by omega),if_neg (by omega)])];rfl
end Eqv
end
end Go.Proofs.YtcgleficedipkaaGreatDoor
