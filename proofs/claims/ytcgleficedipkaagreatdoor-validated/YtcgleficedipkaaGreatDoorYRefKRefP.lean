/- The reference's members, openings and counts. -/
import Derived.Test.YtcgleficedipkaaGreatDoorYRefARefJ
import Derived.Deep.DeepCutAuto
namespace Go.Proofs.YtcgleficedipkaaGreatDoor
open Option renaming none->U,some->I
open Value renaming int->M,slice->K,bool->C,pointer->Ua,tuple->Ue,agg->Uf
open IntKind renaming i64->J
open Bool renaming false->Z,true->G
open _root_.Go.Proofs.Tryz renaming prog->V
open Go renaming World->E,Value->Y,Calls->Uh
open Go.RowKit renaming Hid->H
open Or renaming inr->O,inl->Q
open Ending renaming returned->R
open Obj renaming cells->Ub
open Ref
open _root_.Go.Proofs.Tryz
variable (n b:Nat){s:ByteArray}{cls:Bool}{w m:World}{f:Nat}
section
open Go.RowKit
set_option maxHeartbeats 800000
namespace Ref
def zq (s:ByteArray)(h:St):Pt×Bool×St:=
 if zd s h.i=92 then zI s G h
 else match xo s h.i with
  |some (n,c)=>(⟨Z,[(c,c)]⟩,G,h.go n)
  |none=>(⟨Z,[]⟩,G,h)
def jW (s:ByteArray)(h:St):St:=
 if zd s (h.i+1)=63 then
  (if zd s (h.i+2)=58 then h.go 3
   else if zd s (h.i+2)=61\/zd s (h.i+2)=33\/zd s (h.i+2)=60 then(h.go 2).fail 6 h.i
   else(h.go 2).fail 3 ((h.i+2:Nat):Int))
 else h.go 1
def jJ (b:Int):Bool:=decide (48<=b) && decide (b<=57)
def countL (s:ByteArray):Nat->Int->St->Int×St
 |0,n,h=>(n,h)
 |f+1,n,h=>if jJ (zd s h.i)=G then countL s f (if n<=100 then 10*n+zd s h.i-48 else n) (h.go 1) else(n,h)
def ww (s:ByteArray)(h:St):Int×St:=countL s (s.size+1-h.i) 0 h
def zU (s:ByteArray)(h:St):Int×St:=
 let r:=ww s h
 let a:=if r.2.i=h.i then r.2.fail 3 h.i else r.2
 (r.1,if 100<r.1 then a.fail 5 h.i else a)
theorem countL_stop {n:Int}{h:St}(a:jJ (zd s h.i)=Z):countL s (f+1) n h=(n,h):=by simp[countL,a]
theorem countL_go {n:Int}{h:St}(a:jJ (zd s h.i)=G):countL s (f+1) n h=countL s f (if n<=100 then 10*n+zd s h.i-48 else n) (h.go 1):=by simp[countL,a]
end Ref
theorem zf.undrewN {P:Nat->Prop}{a w:E}{n:Nat}(h:zf P (a.drewN n) w):zf P a w:=⟨h.os,h.tape,h.output,h.size,h.block⟩
theorem res2 {P:Nat->Prop}{W w:E}{n:Nat}{a0 a1:Y}{T:TypeId}(h:zf P (W.alloc (Ub #[a0,a1] T)) w)(a:W.heap.size=n)(b:¬P n):w.cell? ⟨n,0,U⟩=I a0/\w.cell? ⟨n,1,U⟩=I a1/\w.frozen? ⟨n,0,U⟩=Z/\w.frozen? ⟨n,1,U⟩=Z/\n<w.heap.size:=
 have c:=zg h ⟨n,0,U⟩ _ (zm _ _ a _ _ 0 _ rfl) b
 ⟨c,zg h ⟨n,1,U⟩ _ (zm _ _ a _ _ 1 _ rfl) b,zo h ⟨n,0,U⟩ ou (zu _ _ a _ _ 0) b,zo h ⟨n,1,U⟩ ou (zu _ _ a _ _ 1) b,
  zgF w ⟨n,0,U⟩ c⟩
theorem res6 {P:Nat->Prop}{W w:E}{n:Nat}{a0 a1 a2 a3 a4 a5:Y}{T:TypeId}(h:zf P (W.alloc (Ub #[a0,a1,a2,a3,a4,a5] T)) w)(a:W.heap.size=n)(b:¬P n):(w.cell? ⟨n,0,U⟩=I a0/\w.cell? ⟨n,1,U⟩=I a1/\w.cell? ⟨n,2,U⟩=I a2/\w.cell? ⟨n,3,U⟩=I a3/\w.cell? ⟨n,4,U⟩=I a4/\w.cell? ⟨n,5,U⟩=I a5)/\(w.frozen? ⟨n,0,U⟩=Z/\w.frozen? ⟨n,1,U⟩=Z/\w.frozen? ⟨n,2,U⟩=Z/\w.frozen? ⟨n,3,U⟩=Z/\w.frozen? ⟨n,4,U⟩=Z/\w.frozen? ⟨n,5,U⟩=Z)/\n<w.heap.size:=
 have c:=zg h ⟨n,0,U⟩ _ (zm _ _ a _ _ 0 _ rfl) b
 ⟨⟨c,zg h ⟨n,1,U⟩ _ (zm _ _ a _ _ 1 _ rfl) b,zg h ⟨n,2,U⟩ _ (zm _ _ a _ _ 2 _ rfl) b,zg h ⟨n,3,U⟩ _ (zm _ _ a _ _ 3 _ rfl) b,zg h ⟨n,4,U⟩ _ (zm _ _ a _ _ 4 _ rfl) b,zg h ⟨n,5,U⟩ _ (zm _ _ a _ _ 5 _ rfl) b⟩,
  ⟨zo h ⟨n,0,U⟩ ou (zu _ _ a _ _ 0) b,zo h ⟨n,1,U⟩ ou (zu _ _ a _ _ 1) b,zo h ⟨n,2,U⟩ ou (zu _ _ a _ _ 2) b,
  zo h ⟨n,3,U⟩ ou (zu _ _ a _ _ 3) b,zo h ⟨n,4,U⟩ ou (zu _ _ a _ _ 4) b,zo h ⟨n,5,U⟩ ou (zu _ _ a _ _ 5) b⟩,
  zgF w ⟨n,0,U⟩ c⟩
theorem zr {base:Nat}{T:TypeId}{size:Nat}{v:Y}{n:Nat}{xs:List Y}(h:w.ownsRow base T size v n xs):∃a k c,v=K a k c:=by obtain⟨f,b⟩:=h;rcases b with⟨rfl,_⟩|⟨g,d,e,rfl,_⟩;exact⟨_,_,_,rfl⟩;exact⟨_,_,_,rfl⟩
theorem zf.two (w:E)(u0 u1:Y):zf (zt n) w ((w.setCell ⟨n,0,U⟩ u0).setCell ⟨n,1,U⟩ u1):=((zf.refl _ _).mine _ _).mine _ _
theorem zf.six (w:E)(u0 u1 u2 u3 u4 u5:Y):zf (zt n) w ((((((w.setCell ⟨n,0,U⟩ u0).setCell ⟨n,1,U⟩ u1).setCell ⟨n,2,U⟩ u2).setCell ⟨n,3,U⟩ u3).setCell ⟨n,4,U⟩ u4).setCell ⟨n,5,U⟩ u5):=
 ((((((zf.refl _ _).mine _ _).mine _ _).mine _ _).mine _ _).mine _ _).mine _ _
theorem zf.young {P:Nat->Prop}{a w m:E}{n:Nat}(h:zf P a w)(k:zf (zt n) w m)(d:a.heap.size<=n):zf P a m:=
 ⟨k.os.trans h.os,k.tape.trans h.tape,k.output.trans h.output,zgN h.size k.size,λi b c=>(k.block i (zgJ b h.size) (by unfold zt;omega)).trans (h.block i b c)⟩
theorem K4 (s:ByteArray)(h:St)(w:E)(a:Lex w b s h)(p:s.size<=400)(F:h.i<s.size)(k:Ref.Good s h.i):Uh V 214 #[Ua (I ⟨b,0,U⟩)] w λx m=> ∃q,x=R (Ue #[Uf #[C (zq s h).1.neg,q],C (zq s h).2.1])/\yB m w.heap.size q (zq s h).1.spans/\Lex m b s (zq s h).2.2/\zf (zt b) w m:=by
 have ag:=a.lt;obtain⟨n,c,o,z⟩:=k.next F;have l:=ze (a.alloc (Ub #[C Z,K U 0 0] 336));by_cases i:zd s h.i=92
 .have aa:(zd s h.i == 92)=G:=by simp[i]
  have r:H (zq s h=zI s G h):=by show _=_;unfold zq;rw[IN i]
  clear o k z i;go_enter func214,ntmps214;go_wp2_with fail;refine(ye b s h _ l p).mono ?_;rintro e w1 ⟨rfl,nq,rfl⟩;go_wp2_with fail;refine(KZ b s G h _ (l.drewN _) p F).mono ?_;rintro e w2 ⟨q,rfl,f,j,d⟩;obtain⟨L,N,r2,r3,ab⟩:=res2 d.undrewN rfl (by unfold zt;omega);have y:=ze (f.base (base':=w.heap.size+1) ov);have t:=ze j;have u:=ze d.undrewN;obtain⟨P,S,T,rfl⟩:=zr f;clear f j d;go_wp2_with fail;refine bodyPost_ret (v:=Ue #[Uf #[C (zI s G h).1.neg,K P S T],C (zI s G h).2.1]) (by simp[results,results214,go_sem,L,N]) rfl ?_;rw[zb r];refine⟨_,rfl,?_,?_,?_⟩;exact(y.keep (zf.two w.heap.size _ _ _) (by intro g k _ B;unfold zt at B;omega)).base oa;exact t.keep (zf.two w.heap.size _ _ _) (by unfold zt;omega);exact(((zf.refl _ _).alloc _).trans u).young (zf.two w.heap.size _ _ _) (zgH _)
 have aa:(zd s h.i == 92)=Z:=by simp[i]
 have r:H (zq s h=(⟨Z,[(c,c)]⟩,G,h.go n)):=by show _=_;unfold zq;rw[iN i,o]
 have X:=ze o;have W:=ze z;clear o k z i;go_enter func214,ntmps214;go_wp2_with fail;refine(ye b s h _ l p).mono ?_;rintro e w1 ⟨rfl,nq,rfl⟩;go_wp2_with fail;refine(zbR b s h n c _ (l.drewN _) p F X W).mono ?_;rintro e w2 ⟨q,rfl,f,j,d⟩;obtain⟨L,N,r2,r3,ab⟩:=res2 d.undrewN rfl (by unfold zt;omega);have y:=ze (f.base (base':=w.heap.size+1) ov);have t:=ze j;have u:=ze d.undrewN;obtain⟨P,S,T,rfl⟩:=zr f;clear f j d;go_wp2_with fail;refine bodyPost_ret (v:=Ue #[Uf #[C Z,K P S T],C G]) (by simp[results,results214,go_sem,L,N]) rfl ?_;rw[zb r];refine⟨_,rfl,?_,?_,?_⟩;exact(y.keep (zf.two w.heap.size _ _ _) (by intro g k _ B;unfold zt at B;omega)).base oa;exact t.keep (zf.two w.heap.size _ _ _) (by unfold zt;omega);exact(((zf.refl _ _).alloc _).trans u).young (zf.two w.heap.size _ _ _) (zgH _)
theorem open_any (s:ByteArray)(h:St)(w:E)(a:Lex w b s h)(S:s.size<=400)(hi:h.i<s.size):Uh V 181 #[Ua (I ⟨b,0,U⟩)] w λx m=> x=R (Uf #[M J 3,C Z,K U 0 0,M J 0,M J 0,M J 0])/\Lex m b s (jW s h)/\zf (zt b) w m:=by
 have au:=a.lt;have X:=ze a;obtain⟨c0,c1,c2,c3,f1,f2,f3⟩:=a;go_enter func181,ntmps181;go_wp2_with fail;have r:=ze ((X.setI ((h.i:Int)+1) 1 oa).alloc (Ub #[M J 0,C Z,K U 0 0,M J 0,M J 0,M J 0] 308));have N:=ze (((zf.refl (zt b) w).mine 1 (M J ((h.i:Int)+1))).alloc (Ub #[M J 0,C Z,K U 0 0,M J 0,M J 0,M J 0] 308));refine(ye b s (h.go 1) _ r S).mono ?_;rintro e w1 ⟨rfl,nq,rfl⟩;simp only[St.go];by_cases c:zd s (h.i+1)=63
 .have aa:(zd s (h.i+1) == 63)=G:=by simp[c]
  go_wp2_with fail;have l:=ze ((r.drewN nq).setI ((h.i:Int)+1+1) 1 (by simp only[St.go];omega));have t:=ze ((N.drewN nq).mine 1 (M J ((h.i:Int)+1+1)));refine(ye b s ((h.go 1).go 1) _ l S).mono ?_;rintro e w1 ⟨rfl,f,rfl⟩;simp only[St.go];rw[show h.i+1+1=h.i+2 from rfl];by_cases d:zd s (h.i+2)=58
  .have ab:(zd s (h.i+2) == 58)=G:=(by simp[d]);have g:H (jW s h=h.go 3):=(by show _=_;unfold jW;rw[IN c,IN d]);clear c d;go_wp2_with fail;refine bodyPost_ret (v:=Uf #[M J 3,C Z,K U 0 0,M J 0,M J 0,M J 0]) (by simp[results,results181,go_sem]) rfl ?_;rw[zb g];exact⟨rfl,((l.drewN f).setI _ 1 (by simp only[St.go];omega)).keep (zf.six w.heap.size _ _ _ _ _ _ _) (by unfold zt;omega),((t.drewN f).mine 1 _).young (zf.six w.heap.size _ _ _ _ _ _ _) (zgH _)⟩
  have ab:(zd s (h.i+2) == 58)=Z:=(by simp[d]);by_cases k:zd s (h.i+2)=61\/zd s (h.i+2)=33\/zd s (h.i+2)=60
  .have g:H (jW s h=(h.go 2).fail 6 h.i):=(by show _=_;unfold jW;rw[IN c,iN d,IN k]);have q:(zd s (h.i+2) == 61)=G\/(zd s (h.i+2) == 61)=Z/\((zd s (h.i+2) == 33)=G\/(zd s (h.i+2) == 33)=Z/\(zd s (h.i+2) == 60)=G):=ou;clear c d k;rcases q with T|⟨T,W|⟨W,y3⟩⟩
   all_goals
    go_wp2_with fail;refine(yU b s (h.go 2) 6 _ _ (l.drewN f)).mono ?_;rintro e w2 ⟨rfl,j,i⟩;obtain⟨⟨u,y,z,B,F,L⟩,⟨q0,q1,q2,q3,q4,q5⟩,ac⟩:=res6 (P:=zt b) (n:=w.heap.size) (((((zf.refl _ _).drewN nq).mine 1 _).drewN f).trans i) ov (by unfold zt;omega);have o:=ze j;have p:=ze ((t.drewN f).trans i);clear j i;go_wp2_with fail;refine bodyPost_ret (v:=Uf #[M J 3,C Z,K U 0 0,M J 0,M J 0,M J 0]) (by simp[results,results181,go_sem,u,y,z,B,F,L]) rfl ?_;rw[zb g];exact⟨rfl,o.keep (zf.six w.heap.size _ _ _ _ _ _ _) (by unfold zt;omega),p.young (zf.six w.heap.size _ _ _ _ _ _ _) (zgH _)⟩
  have g:H (jW s h=(h.go 2).fail 3 ((h.i+2:Nat):Int)):=(by show _=_;unfold jW;rw[IN c,iN d,iN k]);have q:(zd s (h.i+2) == 61)=Z/\(zd s (h.i+2) == 33)=Z/\(zd s (h.i+2) == 60)=Z:=ou;obtain⟨T,W,y3⟩:=q;clear c d k;go_wp2_with fail;refine(yU b s (h.go 2) 3 _ _ (l.drewN f)).mono ?_;rintro e w2 ⟨rfl,j,i⟩;obtain⟨⟨u,y,z,B,F,L⟩,⟨q0,q1,q2,q3,q4,q5⟩,ac⟩:=res6 (P:=zt b) (n:=w.heap.size) (((((zf.refl _ _).drewN nq).mine 1 _).drewN f).trans i) ov (by unfold zt;omega);have o:=ze j;have p:=ze ((t.drewN f).trans i);clear j i;go_wp2_with fail;refine bodyPost_ret (v:=Uf #[M J 3,C Z,K U 0 0,M J 0,M J 0,M J 0]) (by simp[results,results181,go_sem,u,y,z,B,F,L]) rfl ?_;rw[zb g];exact⟨rfl,o.keep (zf.six w.heap.size _ _ _ _ _ _ _) (by unfold zt;omega),p.young (zf.six w.heap.size _ _ _ _ _ _ _) (zgH _)⟩
 have aa:(zd s (h.i+1) == 63)=Z:=by simp[c]
 have g:H (jW s h=h.go 1):=by show _=_;unfold jW;rw[iN c]
 clear c;go_wp2_with fail;refine bodyPost_ret (v:=Uf #[M J 3,C Z,K U 0 0,M J 0,M J 0,M J 0]) (by simp[results,results181,go_sem]) rfl ?_;rw[zb g];exact⟨rfl,(r.drewN nq).keep (zf.six w.heap.size _ _ _ _ _ _ _) (by unfold zt;omega),(N.drewN nq).young (zf.six w.heap.size _ _ _ _ _ _ _) (zgH _)⟩
namespace Ref
theorem YS {b:Int}(h:jJ b=G):48<=b/\b<=57:=by simpa [jJ] using h
theorem zak {b:Int}(h:jJ b=Z):¬(48<=b/\b<=57):=by intro⟨a,c⟩;simp[jJ,a,c] at h
theorem jF {h st':St}{n:Int}(a:ww s h=(n,st')):zU s h=(n,if 100<n then(if st'.i=h.i then st'.fail 3 h.i else st').fail 5 h.i else(if st'.i=h.i then st'.fail 3 h.i else st')):=by unfold zU;rw[a]
end Ref
def lexI (w:E)(b:Nat):Nat:=match w.cell? ⟨b,1,U⟩ with
 |some v=>(intOf v).toNat
 |none=>0
theorem jh {b:Nat}{s:ByteArray}{h:St}(a:Lex w b s h):lexI w b=h.i:=by unfold lexI;rw[a.c1];simp[intOf]
theorem Wf (s:ByteArray)(h:St)(w:E)(a:Lex w b s h)(r:s.size<=400)(hi:h.i<=s.size):Uh V 213 #[Ua (I ⟨b,0,U⟩)] w λx m=> x=R (M J (Ref.zU s h).1)/\Lex m b s (Ref.zU s h).2/\zf (zt b) w m:=by
 have ac:=ze a;obtain⟨t,c1,u,v,f1,y,z⟩:=a;go_enter func213,ntmps213;go_wp2_with fail;go_loopw[4] (λn wr=>∃(q:Int) (st':St),n=M J q/\0<=q/\q<=2000/\st'.i<=s.size/\Lex wr b s st'/\zf (zt b) w wr/\H (ww s h=Ref.countL s (s.size+1-st'.i) q st'))
  (λ_ wr=>s.size-lexI wr b)
 exact⟨0,h,rfl,oa,oa,hi,ac,zf.refl _ _,rfl⟩;obtain⟨q,st',rfl,al,am,aj,g,l,X⟩:=hrel;have aa:H (s.size+1-st'.i=(s.size-st'.i)+1):=by show _=_;omega
 have k:=ze g;clear t c1 u v f1 y z;cases hd:jJ (zd s st'.i)
 .have HG:H (ww s h=(q,st')):=(by rw[zb X,zb aa];exact Ref.countL_stop hd);have ab:=zak hd;clear hd;by_cases ag:48<=zd s st'.i
  .have ae:57<zd s st'.i:=oa;have ad:decide (zd s st'.i<=57)=Z:=ou;clear ab;go_wp2_with fail;refine(ye b s st' _ g r).mono ?_;rintro e N ⟨rfl,nq,rfl⟩;go_wp2_with fail;refine(ye b s st' _ (g.drewN _) r).mono ?_;rintro e N ⟨rfl,T,rfl⟩;obtain⟨t,c1,u,v,f1,y,z⟩:=g;by_cases j:st'.i=h.i
   .have S:((st'.i:Int) == (h.i:Int))=G:=(by simp[j]);have f:=ze j;clear j;go_wp2_with fail;refine(yU b s st' 3 _ _ (k.drewN _)).mono ?_;rintro e w2 ⟨rfl,B,L⟩;by_cases d:100<q
    .have c:H (Ref.zU s h=(q,(st'.fail 3 h.i).fail 5 h.i)):=(by rw[jF HG,IN d,IN (zb f)];rfl);go_wp2_with fail;refine(yU b s _ 5 _ _ B).mono ?_;rintro e W ⟨rfl,o,p⟩;go_wp2_with fail;go_ret;rw[zb c];exact⟨rfl,o,((l.drewN _).trans L).trans p⟩
    have c:H (Ref.zU s h=(q,(st'.fail 3 h.i))):=(by rw[jF HG,iN d,IN (zb f)];rfl);go_wp2_with fail;go_ret;rw[zb c];exact⟨rfl,B,((l.drewN _).trans L)⟩
   have S:((st'.i:Int) == (h.i:Int))=Z:=ou;have f:=ze j;clear j;by_cases d:100<q
   .have c:H (Ref.zU s h=(q,st'.fail 5 h.i)):=(by rw[jF HG,IN d,iN (zb f)];rfl);go_wp2_with fail;refine(yU b s st' 5 _ _ (k.drewN _)).mono ?_;rintro e W ⟨rfl,o,p⟩;go_wp2_with fail;go_ret;rw[zb c];exact⟨rfl,o,(l.drewN _).trans p⟩
   have c:H (Ref.zU s h=(q,st')):=(by rw[jF HG,iN d,iN (zb f)];rfl);go_wp2_with fail;go_ret;rw[zb c];exact⟨rfl,k.drewN _,l.drewN _⟩
  clear ab;have ad:decide (48<=zd s st'.i)=Z:=ou;go_wp2_with fail;refine(ye b s st' _ g r).mono ?_;rintro e N ⟨rfl,nq,rfl⟩;obtain⟨t,c1,u,v,f1,y,z⟩:=g;by_cases j:st'.i=h.i
  .have S:((st'.i:Int) == (h.i:Int))=G:=(by simp[j]);have f:=ze j;clear j;go_wp2_with fail;refine(yU b s st' 3 _ _ (k.drewN _)).mono ?_;rintro e w2 ⟨rfl,B,L⟩;by_cases d:100<q
   .have c:H (Ref.zU s h=(q,(st'.fail 3 h.i).fail 5 h.i)):=(by rw[jF HG,IN d,IN (zb f)];rfl);go_wp2_with fail;refine(yU b s _ 5 _ _ B).mono ?_;rintro e W ⟨rfl,o,p⟩;go_wp2_with fail;go_ret;rw[zb c];exact⟨rfl,o,((l.drewN _).trans L).trans p⟩
   have c:H (Ref.zU s h=(q,(st'.fail 3 h.i))):=(by rw[jF HG,iN d,IN (zb f)];rfl);go_wp2_with fail;go_ret;rw[zb c];exact⟨rfl,B,((l.drewN _).trans L)⟩
  have S:((st'.i:Int) == (h.i:Int))=Z:=ou;have f:=ze j;clear j;by_cases d:100<q
  .have c:H (Ref.zU s h=(q,st'.fail 5 h.i)):=(by rw[jF HG,IN d,iN (zb f)];rfl);go_wp2_with fail;refine(yU b s st' 5 _ _ (k.drewN _)).mono ?_;rintro e W ⟨rfl,o,p⟩;go_wp2_with fail;go_ret;rw[zb c];exact⟨rfl,o,(l.drewN _).trans p⟩
  have c:H (Ref.zU s h=(q,st')):=(by rw[jF HG,iN d,iN (zb f)];rfl);go_wp2_with fail;go_ret;rw[zb c];exact⟨rfl,k.drewN _,l.drewN _⟩
 (have HG:H (ww s h=Ref.countL s (s.size+1-(st'.go 1).i) (if q<=100 then 10*q+zd s st'.i-48 else q) (st'.go 1)):=by rw[zb X,zb aa,show s.size+1-(st'.go 1).i=s.size-st'.i by simp only[St.go];omega];exact Ref.countL_go hd);obtain⟨ag,ae⟩:=YS hd;have ak:st'.i<s.size:=(by rw[<-zw];omega);clear hd;go_wp2_with fail;refine(ye b s st' _ g r).mono ?_;rintro e N ⟨rfl,nq,rfl⟩;go_wp2_with fail;refine(ye b s st' _ (g.drewN _) r).mono ?_;rintro e N ⟨rfl,T,rfl⟩;by_cases d:q<=100
 .have P:H (ww s h=Ref.countL s (s.size+1-(st'.go 1).i) (10*q+zd s st'.i-48) (st'.go 1)):=(by rw[zb HG,IN d];rfl);go_wp2_with fail;refine(ye b s st' _ (g.drewN _) r).mono ?_;rintro e N ⟨rfl,ah,rfl⟩;obtain⟨t,c1,u,v,f1,y,z⟩:=g;go_wp2_with fail;have F:=(k.drewN (nq+T+ah)).setI ((st'.i:Int)+1) 1 oa;go_roundw;exact⟨_,st'.go 1,rfl,oa,oa,by simp only[St.go];omega,F,(l.drewN _).mine _ _,P⟩;rw[jh k,jh F];simp only[St.go];omega
 have P:H (ww s h=Ref.countL s (s.size+1-(st'.go 1).i) q (st'.go 1)):=(by rw[zb HG,iN d];rfl);obtain⟨t,c1,u,v,f1,y,z⟩:=g;go_wp2_with fail;have F:=(k.drewN (nq+T)).setI ((st'.i:Int)+1) 1 oa;go_roundw;exact⟨_,st'.go 1,rfl,oa,oa,by simp only[St.go];omega,F,(l.drewN _).mine _ _,P⟩;rw[jh k,jh F];simp only[St.go];omega
set_option maxHeartbeats 1600000
set_option maxRecDepth 100000
namespace Ref
def qB (s:ByteArray)(mn:Int)(h:St):Int×St:=
 if h.e=0/\zd s h.i=44 then
  (if zd s (h.i+1)=125 then(-1,h.go 1) else zU s (h.go 1))
 else(mn,h)
def yD (s:ByteArray)(h:St):St:=if h.e=0/\zd s h.i≠125 then h.fail 3 h.i else h
def yz (s:ByteArray)(h:St):Int×Int×St:=
 let a:=zU s (h.go 1)
 let b:=qB s a.1 a.2
 let c:=(yD s b.2).go 1
 (a.1,b.1,if c.e=0/\0<=b.1/\b.1<a.1 then c.fail 4 h.i else c)
def xS (s:ByteArray)(h:St):St:=if h.e=0/\zd s h.i=63 then h.go 1 else h
def zO (s:ByteArray)(h:St):Int×Int×St:=
 if zd s h.i=43 then(1,-1,xS s (h.go 1))
 else if zd s h.i=63 then(0,1,xS s (h.go 1))
 else if zd s h.i=42 then(0,-1,xS s (h.go 1))
 else((yz s h).1,(yz s h).2.1,xS s (yz s h).2.2)
theorem Wg (s:ByteArray):∀(f:Nat) (n:Int) (h:St),0<=n->n<=2000->0<=(countL s f n h).1/\(countL s f n h).1<=2000/\h.i<=(countL s f n h).2.i/\(h.i<=s.size->(countL s f n h).2.i<=s.size)
 |0,n,h,b,c=>by simp only[countL];omega
 |f+1,n,h,b,c=>by
  cases hd:jJ (zd s h.i);rw[countL_stop hd];simp only[];omega;rw[countL_go hd];have d:=YS hd;have e:h.i<s.size:=(by rw[<-zw];omega);have a:=Wg s f (if n<=100 then 10*n+zd s h.i-48 else n) (h.go 1) (by split<;>omega) (by split<;>omega);simp only[St.go] at a ⊢;omega
theorem xz (h:St)(e a:Int):(h.fail e a).i=h.i:=by unfold St.fail;split<;>rfl
theorem zbS (s:ByteArray)(h:St):(zU s h).2.i=(ww s h).2.i:=by unfold zU;dsimp only;split;rw[xz];split;rw[xz];rfl;split;rw[xz];rfl
theorem vY (s:ByteArray)(h:St):0<=(zU s h).1/\(zU s h).1<=2000/\h.i<=(zU s h).2.i/\(h.i<=s.size->(zU s h).2.i<=s.size):=by rw[zbS];exact Wg s (s.size+1-h.i) 0 h oa oa
end Ref
structure Six (w:E)(n:Nat)(a0 a1 a2 a3 a4 a5:Y):Prop where
 c0:w.cell? ⟨n,0,U⟩=I a0
 c1:w.cell? ⟨n,1,U⟩=I a1
 c2:w.cell? ⟨n,2,U⟩=I a2
 c3:w.cell? ⟨n,3,U⟩=I a3
 c4:w.cell? ⟨n,4,U⟩=I a4
 c5:w.cell? ⟨n,5,U⟩=I a5
 f0:w.frozen? ⟨n,0,U⟩=Z
 f1:w.frozen? ⟨n,1,U⟩=Z
 f2:w.frozen? ⟨n,2,U⟩=Z
 f3:w.frozen? ⟨n,3,U⟩=Z
 f4:w.frozen? ⟨n,4,U⟩=Z
 f5:w.frozen? ⟨n,5,U⟩=Z
section
variable {P:Nat->Prop} {w m:World} {n:Nat} {a0 a1 a2 a3 a4 a5:Value}
theorem Six.lt (h:Six w n a0 a1 a2 a3 a4 a5):n<w.heap.size:=zgF w ⟨n,0,U⟩ h.c0
theorem Six.to (h:Six w n a0 a1 a2 a3 a4 a5):(∀(j:Nat) u,[a0,a1,a2,a3,a4,a5][j]?=I u->w.cell? ⟨n,j,U⟩=I u)/\∀j,j<6->w.frozen? ⟨n,j,U⟩=Z:=
 ⟨fun|0,_,rfl=>h.c0|1,_,rfl=>h.c1|2,_,rfl=>h.c2|3,_,rfl=>h.c3|4,_,rfl=>h.c4|5,_,rfl=>h.c5|j+6,_,e=>by simp at e,fun|0,_=>h.f0|1,_=>h.f1|2,_=>h.f2|3,_=>h.f3|4,_=>h.f4|5,_=>h.f5|j+6,e=>absurd e oa⟩
theorem Six.of (h:∀(j:Nat) u,[a0,a1,a2,a3,a4,a5][j]?=I u->w.cell? ⟨n,j,U⟩=I u)(f:∀j,j<6->w.frozen? ⟨n,j,U⟩=Z):Six w n a0 a1 a2 a3 a4 a5:=
 ⟨h 0 _ rfl,h 1 _ rfl,h 2 _ rfl,h 3 _ rfl,h 4 _ rfl,h 5 _ rfl,f 0 od,f 1 od,f 2 od,f 3 od,f 4 od,f 5 od⟩
theorem Six.keep (h:Six w n a0 a1 a2 a3 a4 a5)(k:zf P w m)(a:¬P n):Six m n a0 a1 a2 a3 a4 a5:=
 .of (λj u e=>zg k _ _ (h.to.1 j u e) a) (λj e=>zo k _ h.lt (h.to.2 j e) a)
theorem Six.new (W:E)(T:TypeId)(a:W.heap.size=n):Six (W.alloc (Ub #[a0,a1,a2,a3,a4,a5] T)) n a0 a1 a2 a3 a4 a5:=
 .of (λj u e=>zm _ _ a _ _ j _ (by simpa using e)) (λj _=>zu _ _ a _ _ j)
theorem Six.drewN (h:Six w n a0 a1 a2 a3 a4 a5)(k:Nat):Six (w.drewN k) n a0 a1 a2 a3 a4 a5:=h.keep ((zf.refl (λ_=>False) w).drewN k) id
theorem Six.other (h:Six w n a0 a1 a2 a3 a4 a5)(p:Addr)(a:p.block≠n)(u:Y):Six (w.setCell p u) n a0 a1 a2 a3 a4 a5:=
 h.keep (P:=zt p.block) ((zf.refl (zt p.block) w).setCell (p:=p) (Or.inl (show p.block=p.block from rfl)) u) (λe=>a e.symm)
theorem Six.cells (h:Six w n a0 a1 a2 a3 a4 a5)(i:Nat)(a:i<6)(u:Y):(∀(j:Nat) x,([a0,a1,a2,a3,a4,a5].set i u)[j]?=I x->(w.setCell ⟨n,i,U⟩ u).cell? ⟨n,j,U⟩=I x)/\∀j,j<6->(w.setCell ⟨n,i,U⟩ u).frozen? ⟨n,j,U⟩=Z:=by refine⟨λj x e=>?_,λj e=>(zk _ _ _ _).trans (h.to.2 j e)⟩;rw[List.getElem?_set] at e;split at e;rename_i q;subst q;rw[show(if i < [a0,a1,a2,a3,a4,a5].length then I u else U)=I u from IN a] at e;cases e;exact zgL _ _ _ (h.to.1 i _ (zgE a));rename_i q;exact(zgI _ _ _ _ (λc=>q (by injection c))).trans (h.to.1 j x e)
theorem Six.set1 (h:Six w n a0 a1 a2 a3 a4 a5)(u:Y):Six (w.setCell ⟨n,1,U⟩ u) n a0 u a2 a3 a4 a5:=.of (h.cells 1 od u).1 (h.cells 1 od u).2
theorem Six.set2 (h:Six w n a0 a1 a2 a3 a4 a5)(u:Y):Six (w.setCell ⟨n,2,U⟩ u) n a0 a1 u a3 a4 a5:=.of (h.cells 2 od u).1 (h.cells 2 od u).2
theorem Six.set4 (h:Six w n a0 a1 a2 a3 a4 a5)(u:Y):Six (w.setCell ⟨n,4,U⟩ u) n a0 a1 a2 a3 u a5:=.of (h.cells 4 od u).1 (h.cells 4 od u).2
theorem Six.set5 (h:Six w n a0 a1 a2 a3 a4 a5)(u:Y):Six (w.setCell ⟨n,5,U⟩ u) n a0 a1 a2 a3 a4 u:=.of (h.cells 5 od u).1 (h.cells 5 od u).2
end
namespace Ref
theorem Ya {h b a:St}{mn mx:Int}(c:zU s (h.go 1)=(mn,b))(d:qB s mn b=(mx,a)):yz s h=(mn,mx,if((yD s a).go 1).e=0/\0<=mx/\mx<mn then((yD s a).go 1).fail 4 h.i else(yD s a).go 1):=by unfold yz;rw[c];simp only[d]
theorem vp (h:St)(e a:Int)(b:e≠0):(h.fail e a).e≠0:=by unfold St.fail;split<;>simp_all
theorem zal {h d b:St}{mn mx:Int}(e:zU s (h.go 1)=(mn,d))(f:qB s mn d=(mx,b))(c:¬b.e=0):yz s h=(mn,mx,b.go 1):=by
 rw[Ya e f];have g:yD s b=b:=by unfold yD;rw[iN (by intro a;exact c a.1)]
 rw[g,iN (by intro a;exact c a.1)]
theorem zbT {h c b:St}{mn mx:Int}(d:zU s (h.go 1)=(mn,c))(e:qB s mn c=(mx,b))(f:b.e=0)(g:¬zd s b.i=125):yz s h=(mn,mx,(b.fail 3 b.i).go 1):=by
 rw[Ya d e];have i:yD s b=b.fail 3 b.i:=by unfold yD;rw[IN ⟨f,g⟩]
 rw[i,iN (by intro a;exact vp b 3 b.i od a.1)]
theorem K5 {h c b:St}{mn mx:Int}(d:zU s (h.go 1)=(mn,c))(e:qB s mn c=(mx,b))(f:b.e=0)(g:zd s b.i=125)(i:0<=mx/\mx<mn):yz s h=(mn,mx,(b.go 1).fail 4 h.i):=by
 rw[Ya d e];have j:yD s b=b:=by unfold yD;rw[iN (by intro a;exact a.2 g)]
 rw[j,IN ⟨f,i⟩]
theorem zam {h c b:St}{mn mx:Int}(d:zU s (h.go 1)=(mn,c))(e:qB s mn c=(mx,b))(_j:b.e=0)(f:zd s b.i=125)(g:¬(0<=mx/\mx<mn)):yz s h=(mn,mx,b.go 1):=by
 rw[Ya d e];have i:yD s b=b:=by unfold yD;rw[iN (by intro a;exact a.2 f)]
 rw[i,iN (by intro a;exact g a.2)]
end Ref
theorem wY (s:ByteArray)(h:St)(w:E)(a:Lex w b s h)(e:s.size<=400):Uh V 144 #[Ua (I ⟨b,0,U⟩)] w λx m=>x=R (M J (zd s h.i))/\ziE w m:=
 (ye b s h w a e).mono λ_ _ ⟨c,_,d⟩=>⟨c,by rw[d];exact(zf.refl _ _).drewN _⟩
structure Ys (w wx:E)(b:Nat)(s:ByteArray)(st:St)(mn mx:Int):Prop where
 l:Lex wx b s st
 t:Six wx (w.heap.size+1) (M J 6) (C Z) (K U 0 0) (M J 0) (M J mn) (M J mx)
 r:Six wx w.heap.size (M J 0) (C Z) (K U 0 0) (M J 0) (M J 0) (M J 0)
 o:zf (zt b) w wx
 lt:b<w.heap.size
section
variable {w wx m:World} {b:Nat} {s:ByteArray} {h st':St} {mn mx:Int}
theorem Ys.turn (a:Ys w wx b s h mn mx)(k:zf (zt b) wx m)(l:Lex m b s st'):Ys w m b s st' mn mx:=by have c:=a.lt;exact⟨l,a.t.keep k (by unfold zt;omega),a.r.keep k (by unfold zt;omega),a.o.trans k,c⟩
theorem Ys.keep (a:Ys w wx b s h mn mx)(k:ziE wx m):Ys w m b s h mn mx:=a.turn (k.mono (λ_ _ f=>f.elim)) (a.l.keep k id)
theorem Ys.go (a:Ys w wx b s h mn mx):Ys w (wx.setCell ⟨b,1,U⟩ (M J ((h.i:Int)+1))) b s (h.go 1) mn mx:=a.turn ((zf.refl _ _).mine _ _) (a.l.setI _ 1 oa)
theorem Ys.top (a:Ys w wx b s h mn mx)(m:Int):Ys w (wx.setCell ⟨w.heap.size+1,5,U⟩ (M J m)) b s h mn m:=by have c:=a.lt;exact⟨a.l.keep ((zf.refl (zt (w.heap.size+1)) _).mine _ _) (by unfold zt;omega),a.t.set5 _,a.r.other _ ov _,a.o.young ((zf.refl (zt (w.heap.size+1)) _).mine _ _) oa,c⟩
end
theorem zdH (s:ByteArray)(h:St)(w:E)(a:Lex w b s h)(hs:s.size<=400)(hi:h.i<s.size):Uh V 178 #[Ua (I ⟨b,0,U⟩)] w λx m=> x=R (Uf #[M J 6,C Z,K U 0 0,M J 0,M J (yz s h).1,M J (yz s h).2.1])/\Lex m b s (yz s h).2.2/\zf (zt b) w m:=by
 have aQ:=a.lt;have HX:H (Ys w (((w.setCell ⟨b,1,U⟩ (M J ((h.i:Int)+1))).alloc (Ub #[M J 0,C Z,K U 0 0,M J 0,M J 0,M J 0] 308)).alloc (Ub #[M J 6,C Z,K U 0 0,M J 0,M J 0,M J 0] 308)) b s (h.go 1) 0 0):=
  ⟨((a.setI _ 1 oa).alloc _).alloc _,Six.new _ _ ov,(Six.new _ _ ov).keep ((zf.refl (λ_=>False) _).alloc _) id,(((zf.refl _ _).mine _ _).alloc _).alloc _,aQ⟩
 obtain⟨c0,c1,c2,c3,f1,f2,f3⟩:=a;go_enter func178,ntmps178;go_wp2_with fail;refine(Wf b s (h.go 1) _ HX.l hs (by simp only[St.go];omega)).mono ?_;rintro e w1 ⟨rfl,aM,aO⟩;have B:=HX.turn aO aM;obtain⟨m0,m1,m2,m3⟩:=vY s (h.go 1);generalize hr:Ref.zU s (h.go 1)=r at *;obtain⟨mn,d⟩:=r;simp only[] at *;have m4:d.i<=s.size:=m3 (by simp only[St.go];omega);have H1:=ze hr;have k:H (Ys w ((w1.setCell ⟨w.heap.size+1,4,U⟩ (M J mn)).setCell ⟨w.heap.size+1,5,U⟩ (M J mn)) b s d mn mn):=
  (⟨B.l.keep ((zf.refl (zt (w.heap.size+1)) _).mine _ _) (by unfold zt;omega),B.t.set4 _,B.r.other _ ov _,B.o.young ((zf.refl (zt (w.heap.size+1)) _).mine _ _) oa,aQ⟩:Ys w (w1.setCell ⟨w.heap.size+1,4,U⟩ (M J mn)) b s d mn 0).top mn
 obtain⟨t0,t1,t2,t3,t4,t5,v0,v1,v2,v3,v4,v5⟩:=B.t;clear hr m3 c0 c1 c2 c3 f1 f2 f3 B aM aO HX;go_upto_region 6 with fail;go_cut[32] (λx wx=>∃c:Bool,x=C c/\(c=G↔d.e=0/\zd s d.i=44)/\H (Ys w wx b s d mn mn))
 case first=>
  obtain⟨l0,l1,l2,l3,k1,k2,k3⟩:=k.l;by_cases p:d.e=0
  .have eb:(d.e == 0)=G:=(by simp[p]);go_wp2_with fail;refine(wY b s d _ k.l hs).mono ?_;rintro e w2 ⟨rfl,hO⟩;go_wp2_with fail;go_meet
   case rel=>exact⟨_,rfl,by simp[p],k.keep hO⟩
  have eb:(d.e == 0)=Z:=(by simp[p]);go_wp2_with fail;go_meet
  case rel=>exact⟨_,rfl,by simp[p],k⟩
 case rest=>
  clear k;obtain⟨c,rfl,hc,k⟩:=hcut;go_upto_if 32 with fail;go_cut[4] (λx wx=>x=Ua (I ⟨w.heap.size+1,0,U⟩)/\∃mx g,H (Ref.qB s mn d=(mx,g))/\mx<=2000/\(mx = -1\/0<=mx)/\g.i<=401/\H (Ys w wx b s g mn mx))
  case first=>
   cases c
   .go_wp2_with fail;go_meet
    case rel=>exact⟨rfl,mn,d,by show _=_;unfold Ref.qB;exact iN (λq=>by simpa using hc.2 q),oa,oa,oa,k⟩
   obtain⟨p,b1⟩:=hc.1 rfl;clear hc;have bc:d.i<s.size:=(by rw[<-zw];omega);obtain⟨l0,l1,l2,l3,k1,k2,k3⟩:=k.l;obtain⟨t0,t1,t2,t3,t4,t5,v0,v1,v2,v3,v4,v5⟩:=k.t;have H5:=ze (k.go.top (-1));go_wp2_with fail;refine(wY b s (d.go 1) _ H5.l hs).mono ?_;rintro e w2 ⟨rfl,a6⟩;have H6:=ze (H5.keep a6);by_cases X:zd s (d.i+1)=125
   .have aW:(zd s (d.go 1).i != 125)=Z:=(by simp[St.go,X]);go_wp2_with fail;go_meet
    case rel=>exact⟨rfl,-1,d.go 1,by show _=_;unfold Ref.qB;rw[IN ⟨p,b1⟩,IN X],oa,Q rfl,by simp only[St.go];omega,H6⟩
   have aW:(zd s (d.go 1).i != 125)=G:=(by simp[St.go,X]);obtain⟨n0,n1,n2,n3⟩:=vY s (d.go 1);have n4:=n3 (by simp only[St.go];omega);go_wp2_with fail;refine(Wf b s (d.go 1) _ H6.l hs (by simp only[St.go];omega)).mono ?_;rintro e w4 ⟨rfl,aN,aP⟩;have H7:=H6.turn aP aN;have j:H (Ref.qB s mn d=Ref.zU s (d.go 1)):=(by show _=_;unfold Ref.qB;rw[IN ⟨p,b1⟩,iN X]);generalize Ref.zU s (d.go 1)=r at *;obtain⟨mx,g⟩:=r;simp only[] at *;have W:=ze (H7.top mx);obtain⟨t0,t1,t2,t3,t4,t5,v0,v1,v2,v3,v4,v5⟩:=H7.t;clear H7 aN aP n2 n3 b1 X p l0 l1 l2 l3 k1 k2 k3 H5 H6;go_wp2_with fail;go_meet
   case rel=>exact⟨rfl,mx,g,j,n1,O n0,oa,W⟩
  case rest=>
   (clear k hc;obtain⟨rfl,mx,g,H2,x1,x2,x3,n⟩:=hcut;obtain⟨l0,l1,l2,l3,k1,k2,k3⟩:=n.l;obtain⟨t0,t1,t2,t3,t4,t5,v0,v1,v2,v3,v4,v5⟩:=n.t;obtain⟨F,L,N,P,S,T,u0,u1,u2,u3,u4,u5⟩:=n.r;have HF:H (∀aK m,yz s h=(mn,mx,aK)->Ys w m b s aK mn mx->∀u0 u1 u2 u3 u4 u5,(yz s h).1=mn/\(yz s h).2.1=mx/\Lex ((((((m.setCell ⟨w.heap.size,0,U⟩ u0).setCell ⟨w.heap.size,1,U⟩ u1).setCell ⟨w.heap.size,2,U⟩ u2).setCell ⟨w.heap.size,3,U⟩ u3).setCell ⟨w.heap.size,4,U⟩ u4).setCell ⟨w.heap.size,5,U⟩ u5) b s (yz s h).2.2/\zf (zt b) w ((((((m.setCell ⟨w.heap.size,0,U⟩ u0).setCell ⟨w.heap.size,1,U⟩ u1).setCell ⟨w.heap.size,2,U⟩ u2).setCell ⟨w.heap.size,3,U⟩ u3).setCell ⟨w.heap.size,4,U⟩ u4).setCell ⟨w.heap.size,5,U⟩ u5)):=λaK m e a _ _ _ _ _ _=>by rw[e];exact⟨rfl,rfl,a.l.keep (zf.six w.heap.size _ _ _ _ _ _ _) (by unfold zt;omega),a.o.young (zf.six w.heap.size _ _ _ _ _ _ _) (zgH _)⟩);by_cases l:g.e=0
   .have a2:(g.e == 0)=G:=(by simp[l]);go_wp2_with fail;refine(ye b s g _ n.l hs).mono ?_;rintro e w2 ⟨rfl,aJ,rfl⟩;by_cases o:zd s g.i=125
    .have aX:(zd s g.i != 125)=Z:=(by simp[o]);have W:=ze (n.keep ((zf.refl _ _).drewN aJ)).go;by_cases aI:0<=mx/\mx<mn
     .have HH:=ze (K5 H1 H2 l o aI);obtain⟨y0,y1⟩:=aI;clear l o x2;go_wp2_with fail;refine(yU b s (g.go 1) 4 _ _ W.l).mono ?_;rintro e w5 ⟨rfl,aa,ab⟩;have j:=W.turn ab aa;obtain⟨t0,t1,t2,t3,t4,t5,v0,v1,v2,v3,v4,v5⟩:=j.t;obtain⟨F,L,N,P,S,T,u0,u1,u2,u3,u4,u5⟩:=j.r;have HG:=ze (zb HF _ _ HH j);clear j aa ab;go_wp2_with fail;refine bodyPost_ret (v:=Uf #[M J 6,C Z,K U 0 0,M J 0,M J mn,M J mx]) (by simp[results,results178,go_sem,F,L,N,P,S,T]) rfl ?_;obtain⟨t,u,z⟩:=zb HG _ _ _ _ _ _;exact⟨by rw[t,u],z⟩
     have HG:=ze (zb HF _ _ (zam H1 H2 l o aI) W);have y:decide (0<=mx)=Z\/(0<=mx/\¬mx<mn):=(by rcases x2 with q|q;left;simp;omega;right;omega);clear l o x2;rcases y with y|⟨y,y2⟩
     all_goals
      go_wp2_with fail;refine bodyPost_ret (v:=Uf #[M J 6,C Z,K U 0 0,M J 0,M J mn,M J mx]) (by simp[results,results178,go_sem,F,L,N,P,S,T]) rfl ?_;obtain⟨t,u,z⟩:=zb HG _ _ _ _ _ _;exact⟨by rw[t,u],z⟩
    have aX:(zd s g.i != 125)=G:=(by simp[o]);have HH:=ze (zbT H1 H2 l o);have en:((g.fail 3 g.i).e == 0)=Z:=(by simp[vp]);clear l o;go_wp2_with fail;refine(yU b s g 3 _ _ (n.l.drewN aJ)).mono ?_;rintro e w5 ⟨rfl,aa,ab⟩;have j:=(n.keep ((zf.refl _ _).drewN aJ)).turn ab aa;obtain⟨t0,t1,t2,t3,t4,t5,v0,v1,v2,v3,v4,v5⟩:=j.t;obtain⟨F,L,N,P,S,T,u0,u1,u2,u3,u4,u5⟩:=j.r;have ba:(g.fail 3 g.i).i<=401:=(by rw[xz];omega);have HG:=ze (zb HF _ _ HH j.go);obtain⟨l0,l1,l2,l3,k1,k2,k3⟩:=j.l;clear j aa ab;go_wp2_with fail;refine bodyPost_ret (v:=Uf #[M J 6,C Z,K U 0 0,M J 0,M J mn,M J mx]) (by simp[results,results178,go_sem,F,L,N,P,S,T]) rfl ?_;obtain⟨t,u,z⟩:=zb HG _ _ _ _ _ _;exact⟨by rw[t,u],z⟩
   have a2:(g.e == 0)=Z:=(by simp[l]);have HG:=ze (zb HF _ _ (zal H1 H2 l) n.go);clear l;go_wp2_with fail;refine bodyPost_ret (v:=Uf #[M J 6,C Z,K U 0 0,M J 0,M J mn,M J mx]) (by simp[results,results178,go_sem,F,L,N,P,S,T]) rfl ?_;obtain⟨t,u,z⟩:=zb HG _ _ _ _ _ _;exact⟨by rw[t,u],z⟩
namespace Ref
theorem restF_i (s:ByteArray)(mn:Int)(h:St)(a:h.i<=s.size):(qB s mn h).2.i<=s.size+1:=by
 unfold qB;split
 .rename_i b;have c:h.i<s.size:=by rw[<-zw];omega
  split;simp only[St.go];omega;have:=(vY s (h.go 1)).2.2.2 (by simp only[St.go];omega);omega
 simp only[];omega
theorem Wh (s:ByteArray)(h:St)(a:h.i<s.size):(yz s h).2.2.i<=s.size+2:=by
 have c:=(vY s (h.go 1)).2.2.2 (by simp only[St.go];omega);have e:=restF_i s (zU s (h.go 1)).1 _ c;have d:∀st',(yD s st').i=st'.i:=by intro st';unfold yD;split;exact xz _ _ _;rfl
 unfold yz;dsimp only;have b:∀st':St,((yD s st').go 1).i=st'.i+1:=by intro st';show(yD s st').i+1=_;rw[d]
 split;rw[xz,b];omega;rw[b];omega
end Ref
namespace Ref
theorem bq {c k:Int}(x:c=k)(j:Int):(c == j)=(k == j):=by rw[x]
end Ref
theorem K6 (s:ByteArray)(h:St)(w:E)(a:Lex w b s h)(p:s.size<=400)(hi:h.i<s.size)(W:h.e=0):Uh V 145 #[Ua (I ⟨b,0,U⟩)] w λx m=> x=R (Uf #[M J 6,C Z,K U 0 0,M J 0,M J (zO s h).1,M J (zO s h).2.1])/\Lex m b s (zO s h).2.2/\zf (zt b) w m:=by
 have aA:=ze a;have bk:=a.lt;have HE:=ze W;have eb:(h.e == 0)=G:=by simp[W]
 clear W;have P:=ze ((aA.alloc (Ub #[M J 0,C Z,K U 0 0,M J 0,M J 0,M J 0] 308)).alloc (Ub #[M J 6,C Z,K U 0 0,M J 0,M J 0,M J (-1)] 308));have aq:=ze ((Six.new (n:=w.heap.size) (a0:=M J 0) (a1:=C Z) (a2:=K U 0 0) (a3:=M J 0) (a4:=M J 0) (a5:=M J 0) w 308 rfl).keep ((zf.refl (λ_=>False) _).alloc (Ub #[M J 6,C Z,K U 0 0,M J 0,M J 0,M J (-1)] 308)) id);have au:=ze (Six.new (n:=w.heap.size+1) (a0:=M J 6) (a1:=C Z) (a2:=K U 0 0) (a3:=M J 0) (a4:=M J 0) (a5:=M J (-1)) (w.alloc (Ub #[M J 0,C Z,K U 0 0,M J 0,M J 0,M J 0] 308)) 308 ov);have an:=ze (((zf.refl (zt b) w).alloc (Ub #[M J 0,C Z,K U 0 0,M J 0,M J 0,M J 0] 308)).alloc (Ub #[M J 6,C Z,K U 0 0,M J 0,M J 0,M J (-1)] 308));clear a;go_enter func145,ntmps145;go_wp2_with fail;refine(wY b s h _ P p).mono ?_;rintro e w1 ⟨rfl,l⟩;have am:=P.keep l id;have av:=au.keep l id;have ar:=aq.keep l id;have ap:=ze (an.trans (l.mono (λ_ _ f=>f.elim)));have al:=ze am;have aE:=ze av;have aC:=ze ar;clear l P au aq an;obtain⟨l0,l1,l2,l3,k1,k2,k3⟩:=am;obtain⟨t0,t1,t2,t3,t4,t5,v0,v1,v2,v3,v4,v5⟩:=av;obtain⟨X,r1,r2,r3,r4,r5,u0,u1,u2,u3,u4,u5⟩:=ar;by_cases x:zd s h.i=43\/zd s h.i=63\/zd s h.i=42
 .have bi:((h.go 1).e == 0)=G:=by simp[St.go,zb HE]
  rcases x with x|x|x
  case' inl=>have g:H (zO s h=(1,-1,xS s (h.go 1))):=by show _=_;unfold zO;rw[IN x]
  case' inl=>have q:=ze ((zf.refl (zt (w.heap.size+1)) w1).mine 4 (M J 1))
  case' inr.inl=>have g:H (zO s h=(0,1,xS s (h.go 1))):=by show _=_;unfold zO;rw[iN oa,IN x]
  case' inr.inl=>have q:=ze ((zf.refl (zt (w.heap.size+1)) w1).mine 5 (M J 1))
  case' inr.inr=>have g:H (zO s h=(0,-1,xS s (h.go 1))):=by show _=_;unfold zO;rw[iN oa,iN oa,IN x]
  case' inr.inr=>have q:=ze (zf.refl (zt (w.heap.size+1)) w1)
  all_goals
   have hq:=bq x;clear x;go_wp2_with fail;have S:=ze ((al.keep q (by unfold zt;omega)).setI ((h.i:Int)+1) 1 oa);have ao:=ze ((ap.young q oa).mine 1 (M J ((h.i:Int)+1)));refine(ye b s (h.go 1) _ S p).mono ?_;rintro e w2 ⟨rfl,nq,rfl⟩;simp only[St.go];by_cases c:zd s (h.i+1)=63
   .have u:(zd s (h.i+1) == 63)=G:=(by simp[c]);have i:H (xS s (h.go 1)=(h.go 1).go 1):=(by show _=_;unfold xS;rw[IN ⟨by simp[St.go,zb HE],c⟩]);clear c;go_wp2_with fail;refine bodyPost_ret (v:=Uf #[M J 6,C Z,K U 0 0,M J 0,M J (zO s h).1,M J (zO s h).2.1]) (by simp[results,results145,go_sem,X,r1,r2,r3,r4,r5,zb g]) rfl ?_;rw[zb g,zb i];exact⟨rfl,((S.drewN nq).setI _ 1 (by simp only[St.go];omega)).keep (zf.six w.heap.size _ _ _ _ _ _ _) (by unfold zt;omega),((ao.drewN nq).mine 1 _).young (zf.six w.heap.size _ _ _ _ _ _ _) (zgH _)⟩
   have u:(zd s (h.i+1) == 63)=Z:=(by simp[c]);have i:H (xS s (h.go 1)=h.go 1):=(by show _=_;unfold xS;rw[iN (by intro o;exact c o.2)]);clear c;go_wp2_with fail;refine bodyPost_ret (v:=Uf #[M J 6,C Z,K U 0 0,M J 0,M J (zO s h).1,M J (zO s h).2.1]) (by simp[results,results145,go_sem,X,r1,r2,r3,r4,r5,zb g]) rfl ?_;rw[zb g,zb i];exact⟨rfl,(S.drewN nq).keep (zf.six w.heap.size _ _ _ _ _ _ _) (by unfold zt;omega),(ao.drewN nq).young (zf.six w.heap.size _ _ _ _ _ _ _) (zgH _)⟩
 simp only[not_or] at x;obtain⟨x1,x2,x3⟩:=x;have y1:(zd s h.i == 43)=Z:=by simp[x1]
 have y2:(zd s h.i == 63)=Z:=by simp[x2]
 have y3:(zd s h.i == 42)=Z:=by simp[x3]
 have g:H (zO s h=((yz s h).1,(yz s h).2.1,xS s (yz s h).2.2)):=by show _=_;unfold zO;rw[iN x1,iN x2,iN x3]
 clear x1 x2 x3;go_wp2_with fail;refine(zdH b s h _ al p hi).mono ?_;rintro e w3 ⟨rfl,ak,t⟩;have aB:=aC.keep t (by unfold zt;omega);have aD:=aE.keep t (by unfold zt;omega);have bj:=Wh s h hi;generalize hr:yz s h=r at *;obtain⟨mn,mx,d⟩:=r;simp only[] at *;have k:=ze (ak.keep (zf.six (w.heap.size+1) w3 (M J 6) (C Z) (K U 0 0) (M J 0) (M J mn) (M J mx)) (by unfold zt;omega));have T:=ze ((ap.trans t).young (zf.six (w.heap.size+1) w3 (M J 6) (C Z) (K U 0 0) (M J 0) (M J mn) (M J mx)) oa);obtain⟨a0,a1,a2,a3,a4,a5,c0,c1,c2,c3,c4,c5⟩:=aD;obtain⟨y,z,B,F,L,N,d0,d1,d2,d3,d4,d5⟩:=aB;obtain⟨z0,z1,z2,z3,j1,j2,j3⟩:=ak;clear t hr l0 l1 l2 l3 k1 k2 k3 t0 t1 t2 t3 t4 t5 v0 v1 v2 v3 v4 v5 X r1 r2 r3 r4 r5 u0 u1 u2 u3 u4 u5;by_cases j:d.e=0
 .have az:(d.e == 0)=G:=(by simp[j]);by_cases c:zd s d.i=63
  .have u:(zd s d.i == 63)=G:=(by simp[c]);have i:H (zO s h=(mn,mx,d.go 1)):=(by rw[zb g];show _=_;unfold xS;rw[IN ⟨j,c⟩]);clear j c;go_wp2_with fail;refine(ye b s d _ k p).mono ?_;rintro e w2 ⟨rfl,nq,rfl⟩;go_wp2_with fail;refine bodyPost_ret (v:=Uf #[M J 6,C Z,K U 0 0,M J 0,M J (mn),M J (mx)]) (by simp[results,results145,go_sem,y,z,B,F,L,N]) rfl ?_;rw[zb i];exact⟨rfl,((k.drewN nq).setI _ 1 oa).keep (zf.six w.heap.size _ _ _ _ _ _ _) (by unfold zt;omega),((T.drewN nq).mine 1 _).young (zf.six w.heap.size _ _ _ _ _ _ _) (zgH _)⟩
  have u:(zd s d.i == 63)=Z:=(by simp[c]);have i:H (zO s h=(mn,mx,d)):=(by rw[zb g];show _=_;unfold xS;rw[iN (by intro o;exact c o.2)]);clear j c;go_wp2_with fail;refine(ye b s d _ k p).mono ?_;rintro e w2 ⟨rfl,nq,rfl⟩;go_wp2_with fail;refine bodyPost_ret (v:=Uf #[M J 6,C Z,K U 0 0,M J 0,M J (mn),M J (mx)]) (by simp[results,results145,go_sem,y,z,B,F,L,N]) rfl ?_;rw[zb i];exact⟨rfl,(k.drewN nq).keep (zf.six w.heap.size _ _ _ _ _ _ _) (by unfold zt;omega),(T.drewN nq).young (zf.six w.heap.size _ _ _ _ _ _ _) (zgH _)⟩
 have az:(d.e == 0)=Z:=(by simp[j]);have i:H (zO s h=(mn,mx,d)):=(by rw[zb g];show _=_;unfold xS;rw[iN (by intro o;exact j o.1)]);clear j;go_wp2_with fail;refine bodyPost_ret (v:=Uf #[M J 6,C Z,K U 0 0,M J 0,M J (mn),M J (mx)]) (by simp[results,results145,go_sem,y,z,B,F,L,N]) rfl ?_;rw[zb i];exact⟨rfl,k.keep (zf.six w.heap.size _ _ _ _ _ _ _) (by unfold zt;omega),T.young (zf.six w.heap.size _ _ _ _ _ _ _) (zgH _)⟩
namespace Ref
def wM (s:ByteArray)(h:St):Prop:=h.i<=s.size/\(h.e=0->Good s h.i)
theorem wM.fail {h:St}{e a:Int}(b:h.i<=s.size)(d:e≠0):wM s (h.fail e a):=
 ⟨by rw[xz];exact b,λc=>absurd c (vp h e a d)⟩
theorem XV {b:Int}(h:0<=hexV b):0<=b/\b<128:=by unfold hexV at h;(repeat' split at h)<;>omega
theorem Jh (s:ByteArray):∀(n:Nat) (c:Int) (h:St),Good s h.i->wM s (wL s n c h).2/\h.i<=(wL s n c h).2.i
 |0,c,h,a=>⟨⟨a.le,λ_=>a⟩,zgH _⟩
 |n+1,c,h,a=>by
  by_cases e:hexV (zd s h.i)<0;rw[KW e];exact⟨wM.fail a.le od,by rw[xz];exact zgH _⟩;rw[Je oa];have d:=XV (b:=zd s h.i) oa;have:=Jh s n (16*c+hexV (zd s h.i)) (h.go 1) (a.ascii d.1 d.2);exact⟨this.1,by have:=this.2;simp only[St.go] at this ⊢;omega⟩
theorem QF (s:ByteArray):∀(f:Nat) (c:Int) (n:Nat) (h:St),Good s h.i->wM s (qT s f c n h).2/\h.i<=(qT s f c n h).2.i
 |0,c,n,h,a=>⟨⟨a.le,λ_=>a⟩,zgH _⟩
 |f+1,c,n,h,a=>by
  by_cases d:0<n/\zd s h.i=125;rw[Zn d.1 d.2];have j:=a.ascii oa oa;exact⟨⟨j.le,λ_=>j⟩,by simp only[St.go];omega⟩;by_cases g:hexV (zd s h.i)<0\/1114111<16*c+hexV (zd s h.i);rw[YR d g];exact⟨wM.fail a.le od,by rw[xz];exact zgH _⟩;rw[Z5 d g];have e:=XV (b:=zd s h.i) oa;have:=QF s f (16*c+hexV (zd s h.i)) (n+1) (h.go 1) (a.ascii e.1 e.2);exact⟨this.1,by have:=this.2;simp only[St.go] at this ⊢;omega⟩
theorem QG (s:ByteArray):∀(n k:Nat) (c:Int),0<=c->0<=vK s n k c->Good s k->Good s (k+n)
 |0,k,c,_,_,h=>h
 |n+1,k,c,f,a,h=>by
  by_cases e:hexV (zd s k)<0;rw[Xm e] at a;omega;rw[Z6 oa] at a;have d:=XV (b:=zd s k) oa;have:=QG s n (k+1) _ oa a (h.ascii d.1 d.2);rw[show k+(n+1)=k+1+n by omega];exact this
theorem Wi {i:Nat}(h:0<=xx s i)(e:Good s i):Good s (i+6)/\zd s i=92/\zd s (i+1)=117:=by
 unfold xx at h;split at h;omega;rename_i f;have c:zd s i=92:=by omega
 have d:zd s (i+1)=117:=oa;have a:=e.ascii oa oa;have b:=a.ascii oa oa;exact⟨QG s 4 (i+2) 0 oa h b,c,d⟩
theorem VD {h:St}(f:1<=h.i)(c:Good s (h.i-1))(g:zd s (h.i-1)=92)(j:zd s h.i=117):wM s (xy s h).2/\h.i<=(xy s h).2.i:=by
 have d:Good s h.i:=by have:=c.ascii oa oa;rwa [show h.i-1+1=h.i by omega] at this
 have b:=d.ascii oa oa;unfold xy;split;rename_i a;have e:=b.ascii oa oa;have:=QF s (s.size+1-(h.go 2).i) 0 0 (h.go 2) e;exact⟨this.1,by have:=this.2;simp only[St.go,vo] at this ⊢;omega⟩;split;rename_i a;simp only[ZD,zhb,decide_eq_true_eq] at a;have a1:=(Wi oa c).1;rw[show h.i-1+6=h.i+5 by omega] at a1;have a2:=(Wi oa a1).1;exact⟨⟨a2.le,λ_=>a2⟩,by simp only[St.go];omega⟩;have:=Jh s 4 0 (h.go 1) b;exact⟨this.1,by have:=this.2;simp only[St.go] at this ⊢;omega⟩
theorem zbU {b:Int}(h:signB b=G):0<=b/\b<128:=by simp[signB] at h;omega
theorem zan {h:St}(k:1<=h.i)(j:Good s (h.i-1))(l:zd s (h.i-1)=92):wM s (zL s cls h).2/\h.i<=(zL s cls h).2.i:=by
 have e:Good s h.i:=by have:=j.ascii oa oa;rwa [show h.i-1+1=h.i by omega] at this
 have step:0<=zd s h.i->zd s h.i<128->wM s (h.go 1)/\h.i<=(h.go 1).i:=λa b=>⟨⟨(e.ascii a b).le,λ_=>e.ascii a b⟩,by simp only[St.go];omega⟩
 unfold zL;split
 .rename_i c;have:0<=zd s h.i/\zd s h.i<128:=by unfold yT at c;(repeat' split at c)<;>omega
  exact step this.1 this.2
 split;have d:=step oa oa;dsimp only;split;exact⟨wM.fail d.1.1 od,by rw[xz];exact d.2⟩;exact d;split;have d:=step oa oa;have f:=e.ascii oa oa;split;have g:=f.ascii oa oa;exact⟨⟨g.le,λ_=>g⟩,by simp only[St.go];omega⟩;exact⟨wM.fail d.1.1 od,by rw[xz];exact d.2⟩;split;have f:=e.ascii oa oa;have:=Jh s 2 0 (h.go 1) f;exact⟨this.1,by have:=this.2;simp only[St.go] at this ⊢;omega⟩;split;rename_i c;exact VD k j l c;split
 .rename_i c;have:0<=zd s h.i/\zd s h.i<128:=by rcases c with c|c;exact zbU c;omega
  exact step this.1 this.2
 split;exact step oa oa;exact⟨wM.fail e.le od,by rw[xz];exact zgH _⟩
theorem zdI {b:Int}(h:setL b≠[]):0<=b/\b<128:=by unfold setL at h;(repeat' split at h)<;>first|omega|simp at h
theorem QH {h:St}(e:Good s h.i)(f:zd s h.i=92):wM s (zI s cls h).2.2/\h.i<(zI s cls h).2.2.i:=by have b:=e.ascii oa oa;unfold zI;split;exact⟨wM.fail b.le od,by rw[xz];simp only[St.go];omega⟩;split;rename_i a;have d:=zdI a;have c:=b.ascii d.1 d.2;exact⟨⟨c.le,λ_=>c⟩,by simp only[St.go];omega⟩;have:=zan (cls:=cls) (h:=h.go 1) (by simp only[St.go];omega) (by simp only[St.go,Nat.add_sub_cancel];exact e) (by simp only[St.go,Nat.add_sub_cancel];exact f);exact⟨this.1,by have:=this.2;simp only[St.go] at this ⊢;omega⟩
theorem vQ {h:St}(b:Good s h.i)(f:h.i<s.size):wM s (zq s h).2.2/\h.i<(zq s h).2.2.i:=by unfold zq;split;rename_i a;exact QH b a;obtain⟨n,c,e,d⟩:=b.next f;rw[e];have g:=qr e;exact⟨⟨d.le,λ_=>d⟩,by simp only[St.go];omega⟩
theorem zbV {h:St}(a:(zI s cls h).2.1=G)(b:(zI s cls h).2.2.e=0):∃c,(zI s cls h).1.spans=[(c,c)]:=by
 unfold zI at *;split;rename_i d;rw[IN d] at b;exact absurd b (vp _ _ _ od)
 grind
theorem JE {h:St}(f:Good s h.i)(g:h.i<s.size)(a:(zq s h).2.1=G)(b:(zq s h).2.2.e=0):∃c,(zq s h).1.spans=[(c,c)]:=by unfold zq at *;split;rename_i d;rw[IN d] at a b;exact zbV a b;obtain⟨n,c,i,j⟩:=f.next g;rw[i];exact⟨c,rfl⟩
end Ref
theorem zf.ofGrown {row:Option Nat}(h:w.grownBy m row):zf (λk=>row=I k) w m:=
 ⟨h.os,h.tape,h.output,h.size,λk a b=>h.block k a (λe=>b e.symm)⟩
theorem K7 {base base':Nat}{e d:TypeId}{size p:Nat}{v f:Y}{n o:Nat}{xs q:List Y}(h:w.ownsRow base e size v n xs)(i:w.ownsRow base' d p f o q)(l:e≠d)(g:Nat)(a:v.ownBlock=I g):¬f.ownBlock=I g:=by intro b;obtain⟨_,j⟩:=h;obtain⟨_,k⟩:=i;rcases j with⟨rfl,_⟩|⟨x,r,t,rfl,z,m,_⟩;simp[Value.ownBlock] at a;rcases k with⟨rfl,_⟩|⟨y,s,u,rfl,B,c,_⟩;simp[Value.ownBlock] at b;simp only[Value.ownBlock,Option.some.injEq] at a b;subst a;subst b;rw[m] at c;simp only[Option.some.injEq,Obj.cells.injEq] at c;exact l c.2.1
def yA (w:E)(base:Nat):List Pt->List Y->Prop
 | [],[]=>True
 |p :: ps,b :: v :: a=>b=C p.neg/\yB w base v p.spans/\yA w base ps a
 |_,_=>False
def PartsAt (w:E)(base:Nat)(v:Y)(l:List Pt):Prop:=∃a,w.ownsRow base 336 2 v l.length a/\yA w base l a
theorem yA.keep {P:Nat->Prop}{w m:E}{base:Nat}(k:zf P w m)(b:∀g,base<=g->g<w.heap.size->¬P g):∀(l:List Pt) (a:List Y),yA w base l a->yA m base l a
 | [],[],_=>trivial
 |_p :: ps,_b :: _v :: c,h=>⟨h.1,h.2.1.keep k b,yA.keep k b ps c h.2.2⟩
 | [],_ :: _,h=>h
 |_ :: _,[],h=>h
 |_ :: _,[_],h=>h
theorem PartsAt.keep {P:Nat->Prop}{w m:E}{base:Nat}{v:Y}{l:List Pt}(h:PartsAt w base v l)(k:zf P w m)(d:∀g,base<=g->g<w.heap.size->¬P g):PartsAt m base v l:=by obtain⟨b,a,e⟩:=h;exact⟨b,zl a k (λg c=>d g (zh a g c).1 (zh a g c).2),yA.keep k d l b e⟩
theorem yA.base {w:E}{base base':Nat}(b:base'<=base):∀(l:List Pt) (a:List Y),yA w base l a->yA w base' l a
 | [],[],_=>trivial
 |_p :: ps,_b :: _v :: c,h=>⟨h.1,h.2.1.base b,yA.base b ps c h.2.2⟩
 | [],_ :: _,h=>h
 |_ :: _,[],h=>h
 |_ :: _,[_],h=>h
theorem PartsAt.base {w:E}{base base':Nat}{v:Y}{l:List Pt}(h:PartsAt w base v l)(b:base'<=base):PartsAt w base' v l:=by obtain⟨a,c,d⟩:=h;exact⟨a,zZ c b,yA.base b l a d⟩
theorem PartsAt.nil (w:E)(base:Nat):PartsAt w base (K U 0 0) []:=⟨[],zgP _ _ _ _,trivial⟩
theorem yB.grown {base base':Nat}{a v:Y}{n:Nat}{xs:List Y}{l:List (Int×Int)}(h:yB w base a l)(e:w.ownsRow base' 336 2 v n xs)(d:w.grownBy m v.ownBlock):yB m base a l:=
 zl h (zf.ofGrown d) (λg b c=>K7 h e od g b c)
theorem yA.grown {w m:E}{base base':Nat}{v:Y}{n:Nat}{xs:List Y}(c:w.ownsRow base' 336 2 v n xs)(b:w.grownBy m v.ownBlock):∀(l:List Pt) (a:List Y),yA w base l a->yA m base l a
 | [],[],_=>trivial
 |_p :: ps,_b :: _v :: d,h=>⟨h.1,h.2.1.grown c b,yA.grown c b ps d h.2.2⟩
 | [],_ :: _,h=>h
 |_ :: _,[],h=>h
 |_ :: _,[_],h=>h
theorem yA.append {w:E}{base:Nat}{p:Pt}{c:Y}(b:yB w base c p.spans):∀(l:List Pt) (a:List Y),yA w base l a->yA w base (l++[p]) (a++[C p.neg,c])
 | [],[],_=>⟨rfl,b,trivial⟩
 |_q :: ps,_b :: _v :: d,h=>⟨h.1,h.2.1,yA.append b ps d h.2.2⟩
 | [],_ :: _,h=>h.elim
 |_ :: _,[],h=>h.elim
 |_ :: _,[_],h=>h.elim
theorem PartsAt.appended {base:Nat}{v e:Y}{l:List Pt}{a:List Y}{p:Pt}{b:Y}(c:w.ownsRow base 336 2 v l.length a)(f:yA w base l a)(h:yB w base b p.spans)(g:m.ownsRow base 336 2 e (l.length+1) (a++[C p.neg,b])) (d:w.grownBy m v.ownBlock):PartsAt m base e (l++[p]):=
 ⟨a++[C p.neg,b],by rw[zgK];exact g,yA.append (h.grown c d) l a (yA.grown c d l a f)⟩
namespace Ref
def jK (s:ByteArray)(h:St):Bool:=decide (h.e=0) && decide (zd s h.i=45) && decide (h.i+1<s.size) && decide (zd s (h.i+1)≠93)
def loOf (p:Pt):Int:=match p.spans with
 | []=>0
 |x :: _=>x.1
def badB (p q:Pt)(one two:Bool):Bool:=!one || !two ||decide (loOf q<loOf p)
def yQ (s:ByteArray):Nat->List Pt->St->List Pt×St
 |0,ps,h=>(ps,h)
 |f+1,ps,h=>
  if h.e=0/\zd s h.i≠93 then
   (if zd s h.i<0 then(ps,h.fail 3 h.i)
    else if jK s (zq s h).2.2=G then
    (if(zq s ((zq s h).2.2.go 1)).2.2.e≠0 then(ps,(zq s ((zq s h).2.2.go 1)).2.2)
     else if badB (zq s h).1 (zq s ((zq s h).2.2.go 1)).1 (zq s h).2.1 (zq s ((zq s h).2.2.go 1)).2.1=G then(ps,(zq s ((zq s h).2.2.go 1)).2.2.fail 4 (zq s h).2.2.i)
     else yQ s f (ps++[⟨(zq s h).1.neg,[(loOf (zq s h).1,loOf (zq s ((zq s h).2.2.go 1)).1)]⟩]) (zq s ((zq s h).2.2.go 1)).2.2)
    else yQ s f (ps++[(zq s h).1]) (zq s h).2.2)
  else(ps,h.go 1)
def vz (s:ByteArray)(h:St):Bool:=decide (zd s h.i=94)
def yX (s:ByteArray)(h:St):St:=if vz s h=G then h.go 1 else h
def y9 (s:ByteArray)(h:St):List Pt×St:=yQ s (s.size+1-(yX s h).i) [] (yX s h)
section
variable {s:ByteArray} {f:Nat} {ps:List Pt} {h:St}
theorem vh (a:¬(h.e=0/\zd s h.i≠93)):yQ s (f+1) ps h=(ps,h.go 1):=by simp only[yQ];rw[iN a]
theorem YT (a:h.e=0/\zd s h.i≠93)(b:zd s h.i<0):yQ s (f+1) ps h=(ps,h.fail 3 h.i):=by simp only[yQ];rw[IN a,IN b]
theorem wC (a:h.e=0/\zd s h.i≠93)(b:¬zd s h.i<0)(c:¬jK s (zq s h).2.2=G):yQ s (f+1) ps h=yQ s f (ps++[(zq s h).1]) (zq s h).2.2:=by simp only[yQ];rw[IN a,iN b,iN c]
theorem YU (a:h.e=0/\zd s h.i≠93)(b:¬zd s h.i<0)(c:jK s (zq s h).2.2=G)(d:¬(zq s ((zq s h).2.2.go 1)).2.2.e=0):yQ s (f+1) ps h=(ps,(zq s ((zq s h).2.2.go 1)).2.2):=by simp only[yQ];rw[IN a,iN b,IN c,IN d]
theorem XW (a:h.e=0/\zd s h.i≠93)(b:¬zd s h.i<0)(c:jK s (zq s h).2.2=G)(d:(zq s ((zq s h).2.2.go 1)).2.2.e=0)(g:badB (zq s h).1 (zq s ((zq s h).2.2.go 1)).1 (zq s h).2.1 (zq s ((zq s h).2.2.go 1)).2.1=G):yQ s (f+1) ps h=(ps,(zq s ((zq s h).2.2.go 1)).2.2.fail 4 (zq s h).2.2.i):=by simp only[yQ];rw[IN a,iN b,IN c,iN (by simp[d]),IN g]
theorem vR (a:h.e=0/\zd s h.i≠93)(b:¬zd s h.i<0)(c:jK s (zq s h).2.2=G)(d:(zq s ((zq s h).2.2.go 1)).2.2.e=0)(g:¬badB (zq s h).1 (zq s ((zq s h).2.2.go 1)).1 (zq s h).2.1 (zq s ((zq s h).2.2.go 1)).2.1=G):yQ s (f+1) ps h=yQ s f (ps++[⟨(zq s h).1.neg,[(loOf (zq s h).1,loOf (zq s ((zq s h).2.2.go 1)).1)]⟩]) (zq s ((zq s h).2.2.go 1)).2.2:=by simp only[yQ];rw[IN a,iN b,IN c,iN (by simp[d]),iN g]
end
end Ref
end
