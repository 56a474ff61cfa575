/- The statement's own functions: what is looked at behind each step. -/
import Derived.Test.YtcgleficedipkaaGreatDoorYCmpAEndB0
import Derived.KernelRfl
namespace Go.Proofs.YtcgleficedipkaaGreatDoor
variable (c:Int){w:World}{base:Nat}(b:Nat){e:TypeId}{v:Value}{n:Nat}{xs:List Value}(s:ByteArray)
section
open Go.RowKit

open Sm (Tree)
theorem rising_eq:∀ (js ks:List Nat),js.Pairwise (· < ·)->ks.Pairwise (· < ·)->(∀ j,j∈js↔j∈ks)->js=ks
 | [],[],_,_,_=>rfl
 | [],k :: ks,_,_,h=>absurd ((h k).2 (by simp)) (by simp)
 |j :: js,[],_,_,h=>absurd ((h j).1 (by simp)) (by simp)
 |j :: js,k :: ks,h1,h2,h=>by
  have a1:=kg.1 h1;have a2:=kg.1 h2;have e:j=k:=by
   rcases qP.1 ((h j).1 (by simp)) with e |m
   ·exact e
   ·rcases qP.1 ((h k).2 (by simp)) with e |m'
    ·exact e.symm
    ·have:=a1.1 k m';have:=a2.1 j m;omega
  subst e;rw [rising_eq js ks a1.2 a2.2 (fun x=>⟨fun hx=>?_,fun hx=>?_⟩)]
  ·rcases qP.1 ((h x).1 (xp _ hx)) with e |m
   ·have:=a1.1 x hx;omega
   ·exact m
  ·rcases qP.1 ((h x).2 (xp _ hx)) with e |m
   ·have:=a2.1 x hx;omega
   ·exact m
theorem ze.laterP {P Q:Nat->Prop}{a w w':World}(h:ze P a w)(k:ze Q w w')(hq:∀ i,i<a.heap.size->Q i->P i):ze P a w':=
 ⟨k.os.trans h.os,k.tape.trans h.tape,k.output.trans h.output,yZ h.size k.size,fun i hi hp=>(k.block i (yh hi h.size) (fun q=>hp (hq i hi q))).trans (h.block i hi hp)⟩
def patCells:List (Nat×Nat)->List Value
 | []=>[]
 |q :: r=>.pointer (some ⟨q.1,0,none⟩) :: .pointer (some ⟨q.2,0,none⟩) :: patCells r
theorem zf7 (ps:List (Nat×Nat))(q:Nat×Nat):patCells (ps++[q])=patCells ps++[.pointer (some ⟨q.1,0,none⟩),.pointer (some ⟨q.2,0,none⟩)]:=by
 induction ps with
 |nil=>rfl
 |cons x r ih=>simp [patCells,ih]
theorem zeW:∀ (ps:List (Nat×Nat)) (j:Nat) (q:Nat×Nat),ps[j]?=some q->(patCells ps)[j*2]?=some (.pointer (some ⟨q.1,0,none⟩))/\(patCells ps)[j*2+1]?=some (.pointer (some ⟨q.2,0,none⟩))
 | [],j,q,h=>by simp at h
 |x :: r,0,q,h=>by
  simp only [wh,Option.some.injEq] at h;subst h;exact ⟨rfl,rfl⟩
 |x :: r,j+1,q,h=>by
  have:=zeW r j q (by simpa using h);rw [show (j+1)*2=j*2+2 by omega];exact this
theorem zfP {b i j:Nat}{v u:Value}(hij:i≠j)(h:w.cell? ⟨b,j,none⟩=some v):(w.setCell ⟨b,i,none⟩ u).cell? ⟨b,j,none⟩=some v:=
 (zF _ _ _ _ (by intro e;exact hij (by have h2:=congrArg Addr.off e;simp only [] at h2;omega))).trans h
theorem own_sl (h:w.ownsRow base e 1 v n xs):∃ a c,v = .slice a n c/\∀ (j:Nat) u,xs[j]?=some u->∃ g,a=some ⟨g,0,none⟩/\w.cell? ⟨g,j,none⟩=some u:=by
 have hx:=h.1;rcases h.2 with ⟨rfl,rfl⟩ |⟨g,cap,cur,rfl,hbg,hg,hnc,hcm,hcs,htake⟩
 ·exact ⟨none,0,rfl,fun j u hj=>by have:=(yd.1 hj).1;omega⟩
 ·exact ⟨_,cap,rfl,fun j u hj=>⟨g,rfl,(h.cellAt _ (by have:=(yd.1 hj).1;omega)).trans hj⟩⟩
theorem own_fz {g n cap size:Nat}{e:TypeId}{xs:List Value}(h:w.ownsRow base e size (.slice (some ⟨g,0,none⟩) n cap) n xs)(t:Nat):w.frozen? ⟨g,t,none⟩=false:=by
 rcases h.2 with ⟨h1,_⟩ |⟨g',cap',cur,h1,h2,h3,_⟩
 ·cases h1
 ·cases h1;simp [World.frozen?,h3]
theorem Tryz.infoIntSl:(Tryz.prog.info? 27).map (fun i=>(i.zero,i.size,i.bytes))=some (some (.slice none 0 0),1,24):=by kernel_rfl
set_option maxHeartbeats 2000000
set_option maxRecDepth 1000000
def RefGoodT (s:ByteArray)(z:Int)(ts:List Tok):Prop:=∀ w:World,Calls Tryz.prog 53 #[.string s] w fun x w'=>∃ g,x = .returned (.tuple #[.pointer (some ⟨g,0,none⟩),.int .i64 0,.int .i64 0])/\Q8 w w'/\w.heap.size<=g/\w'.cell? ⟨g,1,none⟩=some (.int .i64 (z+1))/\∃ v,w'.cell? ⟨g,0,none⟩=some v/\ToksAt w' w.heap.size v ts
theorem zg3:
  (∃ (k:Nat) (p:Int),1<=k/\k<=8/\RefBad s k p/\∀ (w:World) (a:Nat->Addr),Start w a->JX s a k p w)\/
  (∃ (v:Int) (t:Tree) (ts:List Tok),0<=v/\v<300/\Zu t/\RefGoodT s v ts/\(∀ (w:World) (a:Nat->Addr),Start w a->wQ s t v w)/\Eqv.TokC (Eqv.zer 22) ts t.kids/\(∀ x∈ts,Ref.TokB x)/\ts.length<=1000/\t.kind=5):=by
 by_cases hs:s.size<=200
 ·by_cases hc:0<=(Ref.zo s).2
  ·exact .inl ⟨1,(Ref.zo s).2,by decide,by decide,fun w=>zga s w hs hc,fun w a h=>Z8 s w a h.sents h.size hs hc⟩
  ·have hc':(Ref.zo s).2<0:=(by omega);have hbr:Eqv.Br s (Pro.letM s (s.size+1) 0) 0 0:=(by rw [letM_eq];exact Eqv.Br.start (Ref.zeA hc'));obtain ⟨w1,w2⟩:=Eqv.zgZ (by omega) hbr;generalize ho:Pro.altP (Pro.letM s (s.size+1) 0) (s.size:Nat) (Pro.zl (Pro.letM s (s.size+1) 0) (s.size:Nat) 10) 0=o at w1 w2;have hk8:o.k<=8:=(by rw [<-ho];exact Pro.altP_k 0);by_cases hk:o.k=0
   ·obtain ⟨w3,w4⟩:=w2 hk;by_cases hn:o.n=(Pro.letM s (s.size+1) 0).length
    ·obtain ⟨ts,ht,hB,hA,hTok⟩:=w3 hn;obtain ⟨z,hz0,hz1,hz⟩:=hA.whole;have e1:(Ref.tokensR s).1=ts:=(by rw [ht]);have e2:(Ref.tokensR s).2.1=0:=(by rw [ht]);have h2:=Ref.ze3 s;rw [e1] at h2;have hzb:z<=10000000:=by
      obtain ⟨fz,hfz⟩:=hz;have h1:=(Ref.sizeS_bd fz ts 0 z 0 hfz hB.2 (by omega) (by omega) (by omega)).2;omega
     have hin:=Pro.yF (L:=Pro.letM s (s.size+1) 0) (len:=((s.size:Nat):Int)) (D:=Pro.zl (Pro.letM s (s.size+1) 0) ((s.size:Nat):Int) 10) (Pro.zQ 10) 0 (by omega);rw [ho] at hin;have hin3:=hin.2.2 hk;by_cases hv:o.v<300
     ·have hzv:z=o.v:=(by omega);refine .inr ⟨o.v,_,ts,by omega,hv,?_,fun w=>?_,fun w a h=>kD s w a h.sents h.size hs hc' _ rfl o ho hk hn hv,hTok,hB.2,by omega,rfl⟩
      ·exact fun f=>⟨Pro.Yt (jH s _ _) 10 0 f,Pro.Yv (by have:=Pro.qG s (s.size+1) 0;omega) 10 0 f,Pro.Yu (fun n f=>Pro.wL 10 n f) 0 f⟩
      rw [<-hzv,<-e1];exact zgt s w z hs hc' e2 (by rw [e1];exact hB.2) (by rw [e1];exact hz) (by omega) hz0
     ·refine .inl ⟨8,0,by decide,by decide,fun w=>?_,fun w a h=>Xj s w a h.sents h.size hs hc' _ rfl o ho hk hn (by omega)⟩;exact zgA s w z hs hc' e2 (by rw [e1];exact hB.2) (by rw [e1];exact hz) (by omega) hzb
    ·obtain ⟨l',hl⟩:=w4 hn;refine .inl ⟨3,Pro.zC (Pro.letM s (s.size+1) 0) (s.size:Nat) o.n,by decide,by decide,fun w=>?_,fun w a h=>Z9 s w a h.sents h.size hs hc' _ rfl o ho hk hn⟩;have:=zfr s w hs hc' (by rw [hl];show (3:Int)≠0;decide);rw [hl] at this;exact this
   ·obtain ⟨l',hl⟩:=w1 hk;refine .inl ⟨o.k,o.p,by omega,hk8,fun w=>?_,fun w a h=>wt s w a h.sents h.size hs hc' _ rfl o ho hk⟩;have:=zfr s w hs hc' (by rw [hl];show ((o.k:Nat):Int)≠0;omega);rw [hl] at this;exact this
 ·exact .inl ⟨2,200,by decide,by decide,fun w=>(zf9 s w (by omega)).mono (by rintro e w' ⟨rfl,rfl⟩;exact ⟨rfl,ze.refl _ _⟩),fun w a h=>Z7 s w a h.sents (by omega)⟩
def opV (k p f n:Int)(s:ByteArray)(lv nv sv:Value):Value:=.agg #[.int .i64 k,.int .i64 p,.int .i64 f,.int .i64 n,.string s,lv,nv,sv]
theorem zgr (kd p f n:Int)(s:ByteArray)(lv nv sv:Value)(k:Nat)(at':Int)(w:World)(a:Nat->Addr)(hS:Start w a)(k1:1<=k)(k2:k<=8)(hr:RefBad s k at')(hp:∀ (w:World) (a:Nat->Addr),Start w a->JX s a k at' w) :
  Calls Tryz.prog 29 #[.pointer (some ⟨b,0,none⟩),opV kd p f n s lv nv sv] w fun e w'=>e = .returned (.bool true)/\Q8 w w':=by
 have HC:Hid (∀ w1,Q8 w w1->Calls Tryz.prog 19 #[.string s] w1 fun x w'=>x = .returned (.tuple #[.pointer none,.int .i64 k,.int .i64 at'])/\Q8 w1 w'):=fun w1 h1=>Zv s w1 a k at' (hS.keep h1) k1 k2 (hp w1 a (hS.keep h1));have HR:=zc hr;clear hS hp hr;unfold opV;go_enter Tryz.func29,Tryz.ntmps29;go_wp2_with (first |(go_at_call 19;refine (zb HC _ ((ze.refl _ _).alloc _)).mono ?_;rintro e w1 ⟨rfl,hO1⟩;have q4:=zg hO1 ⟨w.heap.size,4,none⟩ _ (zm w _ rfl _ _ 4 _ rfl) (fun f=>f)) |(go_at_call 53;refine (zb HR w1).mono ?_;rintro e w2 ⟨rfl,hO2⟩));go_ret;exact ⟨rfl,(((ze.refl _ _).alloc _).trans hO1).trans hO2⟩
theorem Tryz.infoPat:(Tryz.prog.info? 64).map (fun i=>(i.zero,i.size,i.bytes))=some (some (.agg #[.pointer none,.pointer none]),2,16):=by kernel_rfl
def pickN (c:Int)(n:Nat):Nat:=(if c<0 then (-(c+1)) % (n:Int) else c % (n:Int)).toNat
theorem pickN_lt (hn:0<n):pickN c n<n:=by
 unfold pickN;have b0:=QG (-(c+1)) (show (n:Int)≠0 by omega);have b1:=Qc (-(c+1)) (show (0:Int)<n by omega);have b2:=QG c (show (n:Int)≠0 by omega);have b3:=Qc c (show (0:Int)<n by omega);split<;>omega
theorem pick_any (n:Nat)(w:World)(h0:-9223372036854775808<=c)(h1:c<9223372036854775808)(hn:0<n)(hn2:n<9223372036854775808) :
  Calls Tryz.prog 31 #[.int .i64 c,.int .i64 (n:Nat)] w fun e w'=>e = .returned (.int .i64 (pickN c n:Nat))/\w'=w:=by
 by_cases hc:c<0
 ·go_enter Tryz.func31,Tryz.ntmps31;go_wp2_with fail;go_ret;have e:-(c+1).tmod (n:Int)=(-(c+1)) % (n:Int):=by rw [<-Int.neg_tmod,Int.tmod_eq_emod_of_nonneg (by omega)]
  have b0:=QG (-(c+1)) (show (n:Int)≠0 by omega);have b1:=Qc (-(c+1)) (show (0:Int)<n by omega);refine ⟨?_,rfl⟩;rw [show ((pickN c n:Nat):Int) = -(c+1).tmod (n:Int) by unfold pickN;rw [if_pos (by omega)];omega];rfl
 ·go_enter Tryz.func31,Tryz.ntmps31;go_wp2_with fail;go_ret;have b0:=QG c (show (n:Int)≠0 by omega);have b1:=Qc c (show (0:Int)<n by omega);refine ⟨?_,rfl⟩;rw [show ((pickN c n:Nat):Int)=c % (n:Int) by unfold pickN;rw [if_neg (by omega)];omega];rfl
end
end Go.Proofs.YtcgleficedipkaaGreatDoor
