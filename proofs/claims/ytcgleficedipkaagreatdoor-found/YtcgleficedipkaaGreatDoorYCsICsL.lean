/- The program's sets: digits, words, blanks, ends of lines; shorthands. -/
import Derived.Test.YtcgleficedipkaaGreatDoorYCsACsH
namespace Go.Proofs.YtcgleficedipkaaGreatDoor
open _root_.Go.Proofs.Tryz
variable (neg:Bool)(v1 v2:Value)(w:World){x:Int×Int}(a:Int){l:List (Int×Int)}(R:List (Int×Int))(S:List Int)
section
open Go.RowKit Go.Shelf
set_option maxRecDepth 100000
theorem ZR (W:World)(n:Nat)(hn:W.heap.size=n)(l:List (Int×Int))(T:TypeId):yu (W.alloc (.cells (yf l).toArray T)) (fun g=>g=n) (.slice (some ⟨n,0,none⟩) l.length l.length) l:=
 .inr ⟨n,l.length,rfl,rfl,z8 _,by simp;omega,fun j p hj=>by
  obtain ⟨h1,h2⟩:=Zx l j p hj;exact ⟨zm W n hn _ _ _ _ (by simpa using h1),zm W n hn _ _ _ _ (by simpa using h2)⟩⟩
theorem Zg:Calls prog 190 #[] w fun e w'=>∃ v,e = .returned v/\z7 w w' v (Cs.zT 100):=by
 go_enter func190,ntmps190;go_wp2_with fail;have hL:=ke (.slice (some ⟨w.heap.size+1,0,none⟩) 1 1) [(48,57)] (fun g=>g=w.heap.size+1) _ (ZR (w.alloc (.cells #[.slice none 0 0] 161)) (w.heap.size+1) (by simp) [(48,57)] 265) (by decide);refine Calls.mono hL ?_;clear hL;rintro e w2 ⟨v,rfl,hN⟩;obtain ⟨qa,qn,qc,rfl⟩:=hN.1.slice;have hN:=(z7.later hN ((ze.refl (fun _=>False) (w.alloc (.cells #[.slice none 0 0] 161))).alloc _)).congr Cs.zaY;obtain ⟨k1,k2⟩:=yR hN.2;have HN:=zc (xl hN);clear hN;go_wp2_with fail;refine bodyPost_ret (results_cell_row rfl _ _ w.heap.size 161 #[.slice qa qn qc] (0,0) _ rfl (zb HN).2 underlying161 rfl Tryz.infoSet) rfl ?_;exact ⟨_,rfl,(zb HN).1⟩
theorem J0:Calls prog 162 #[] w fun e w'=>∃ v,e = .returned v/\z7 w w' v (fun c=>Cs.isCh c && Eqv.inSp Cs.lineL c):=by
 go_enter func162,ntmps162;go_wp2_with fail;have hL:=ke (.slice (some ⟨w.heap.size+1,0,none⟩) 3 3) [(10,10),(13,13),(8232,8233)] (fun g=>g=w.heap.size+1) _ (ZR (w.alloc (.cells #[.slice none 0 0] 161)) (w.heap.size+1) (by simp) [(10,10),(13,13),(8232,8233)] 265) (by decide);refine Calls.mono hL ?_;clear hL;rintro e w2 ⟨v,rfl,hN⟩;obtain ⟨qa,qn,qc,rfl⟩:=hN.1.slice;have hN:=(z7.later hN ((ze.refl (fun _=>False) (w.alloc (.cells #[.slice none 0 0] 161))).alloc _)).congr (fun _=>rfl);obtain ⟨k1,k2⟩:=yR hN.2;have HN:=zc (xl hN);clear hN;go_wp2_with fail;refine bodyPost_ret (results_cell_row rfl _ _ w.heap.size 161 #[.slice qa qn qc] (0,0) _ rfl (zb HN).2 underlying161 rfl Tryz.infoSet) rfl ?_;exact ⟨_,rfl,(zb HN).1⟩
theorem vW:Calls prog 70 #[] w fun e w'=>∃ v,e = .returned v/\z7 w w' v (Cs.zT 119):=by
 go_enter func70,ntmps70;go_wp2_with fail;have hL:=ke (.slice (some ⟨w.heap.size+1,0,none⟩) 4 4) [(97,122),(65,90),(48,57),(95,95)] (fun g=>g=w.heap.size+1) _ (ZR (w.alloc (.cells #[.slice none 0 0] 161)) (w.heap.size+1) (by simp) [(97,122),(65,90),(48,57),(95,95)] 265) (by decide);refine Calls.mono hL ?_;clear hL;rintro e w2 ⟨v,rfl,hN⟩;obtain ⟨qa,qn,qc,rfl⟩:=hN.1.slice;have hN:=(z7.later hN ((ze.refl (fun _=>False) (w.alloc (.cells #[.slice none 0 0] 161))).alloc _)).congr Cs.W7;obtain ⟨k1,k2⟩:=yR hN.2;have HN:=zc (xl hN);clear hN;go_wp2_with fail;refine bodyPost_ret (results_cell_row rfl _ _ w.heap.size 161 #[.slice qa qn qc] (0,0) _ rfl (zb HN).2 underlying161 rfl Tryz.infoSet) rfl ?_;exact ⟨_,rfl,(zb HN).1⟩
theorem ZS:Calls prog 191 #[] w fun e w'=>∃ v,e = .returned v/\z7 w w' v (Cs.zT 115):=by
 go_enter func191,ntmps191;go_wp2_with fail;have hL:=ke (.slice (some ⟨w.heap.size+1,0,none⟩) 10 10) [(9,13),(32,32),(160,160),(5760,5760),(8192,8202),(8232,8233),(8239,8239),(8287,8287),(12288,12288),(65279,65279)] (fun g=>g=w.heap.size+1) _ (ZR (w.alloc (.cells #[.slice none 0 0] 161)) (w.heap.size+1) (by simp) [(9,13),(32,32),(160,160),(5760,5760),(8192,8202),(8232,8233),(8239,8239),(8287,8287),(12288,12288),(65279,65279)] 265) (by decide);refine Calls.mono hL ?_;clear hL;rintro e w2 ⟨v,rfl,hN⟩;obtain ⟨qa,qn,qc,rfl⟩:=hN.1.slice;have hN:=(z7.later hN ((ze.refl (fun _=>False) (w.alloc (.cells #[.slice none 0 0] 161))).alloc _)).congr Cs.zaZ;obtain ⟨k1,k2⟩:=yR hN.2;have HN:=zc (xl hN);clear hN;go_wp2_with fail;refine bodyPost_ret (results_cell_row rfl _ _ w.heap.size 161 #[.slice qa qn qc] (0,0) _ rfl (zb HN).2 underlying161 rfl Tryz.infoSet) rfl ?_;exact ⟨_,rfl,(zb HN).1⟩
theorem zbE:Calls prog 164 #[.int .i32 100] w fun e w'=>∃ v,e = .returned v/\z7 w w' v (Cs.zT 100):=by
 go_enter func164,ntmps164;go_wp2_with fail;refine (Zg _).mono ?_;rintro e w2 ⟨v,rfl,hN⟩;obtain ⟨qa,qn,qc,rfl⟩:=hN.1.slice;obtain ⟨k1,k2⟩:=yR hN.2;have HN:=zc (xl hN);clear hN;go_wp2_with fail;refine bodyPost_ret (results_cell_row rfl _ _ w.heap.size 161 #[.slice qa qn qc] (0,0) _ rfl (zb HN).2 underlying161 rfl Tryz.infoSet) rfl ?_;exact ⟨_,rfl,(zb HN).1⟩
theorem short_68:Calls prog 164 #[.int .i32 68] w fun e w'=>∃ v,e = .returned v/\z7 w w' v (Cs.zT 68):=by
 go_enter func164,ntmps164;go_wp2_with fail;refine (Zg _).mono ?_;rintro e w1 ⟨v,rfl,hN1⟩;go_wp2_with fail;refine (ZQ v _ _ w1 hN1.1).mono ?_;rintro e w2 ⟨v,rfl,hN2⟩;have hN:=(z7.later hN2 hN1.2).congr (Cs.XM (a:=100) (b:=68) (by omega));clear hN1 hN2;obtain ⟨qa,qn,qc,rfl⟩:=hN.1.slice;obtain ⟨k1,k2⟩:=yR hN.2;have HN:=zc (xl hN);clear hN;go_wp2_with fail;refine bodyPost_ret (results_cell_row rfl _ _ w.heap.size 161 #[.slice qa qn qc] (0,0) _ rfl (zb HN).2 underlying161 rfl Tryz.infoSet) rfl ?_;exact ⟨_,rfl,(zb HN).1⟩
theorem zbF:Calls prog 164 #[.int .i32 119] w fun e w'=>∃ v,e = .returned v/\z7 w w' v (Cs.zT 119):=by
 go_enter func164,ntmps164;go_wp2_with fail;refine (vW _).mono ?_;rintro e w2 ⟨v,rfl,hN⟩;obtain ⟨qa,qn,qc,rfl⟩:=hN.1.slice;obtain ⟨k1,k2⟩:=yR hN.2;have HN:=zc (xl hN);clear hN;go_wp2_with fail;refine bodyPost_ret (results_cell_row rfl _ _ w.heap.size 161 #[.slice qa qn qc] (0,0) _ rfl (zb HN).2 underlying161 rfl Tryz.infoSet) rfl ?_;exact ⟨_,rfl,(zb HN).1⟩
theorem short_87:Calls prog 164 #[.int .i32 87] w fun e w'=>∃ v,e = .returned v/\z7 w w' v (Cs.zT 87):=by
 go_enter func164,ntmps164;go_wp2_with fail;refine (vW _).mono ?_;rintro e w1 ⟨v,rfl,hN1⟩;go_wp2_with fail;refine (ZQ v _ _ w1 hN1.1).mono ?_;rintro e w2 ⟨v,rfl,hN2⟩;have hN:=(z7.later hN2 hN1.2).congr (Cs.XM (a:=119) (b:=87) (by omega));clear hN1 hN2;obtain ⟨qa,qn,qc,rfl⟩:=hN.1.slice;obtain ⟨k1,k2⟩:=yR hN.2;have HN:=zc (xl hN);clear hN;go_wp2_with fail;refine bodyPost_ret (results_cell_row rfl _ _ w.heap.size 161 #[.slice qa qn qc] (0,0) _ rfl (zb HN).2 underlying161 rfl Tryz.infoSet) rfl ?_;exact ⟨_,rfl,(zb HN).1⟩
theorem zbG:Calls prog 164 #[.int .i32 115] w fun e w'=>∃ v,e = .returned v/\z7 w w' v (Cs.zT 115):=by
 go_enter func164,ntmps164;go_wp2_with fail;refine (ZS _).mono ?_;rintro e w2 ⟨v,rfl,hN⟩;obtain ⟨qa,qn,qc,rfl⟩:=hN.1.slice;obtain ⟨k1,k2⟩:=yR hN.2;have HN:=zc (xl hN);clear hN;go_wp2_with fail;refine bodyPost_ret (results_cell_row rfl _ _ w.heap.size 161 #[.slice qa qn qc] (0,0) _ rfl (zb HN).2 underlying161 rfl Tryz.infoSet) rfl ?_;exact ⟨_,rfl,(zb HN).1⟩
theorem short_83:Calls prog 164 #[.int .i32 83] w fun e w'=>∃ v,e = .returned v/\z7 w w' v (Cs.zT 83):=by
 go_enter func164,ntmps164;go_wp2_with fail;refine (ZS _).mono ?_;rintro e w1 ⟨v,rfl,hN1⟩;go_wp2_with fail;refine (ZQ v _ _ w1 hN1.1).mono ?_;rintro e w2 ⟨v,rfl,hN2⟩;have hN:=(z7.later hN2 hN1.2).congr (Cs.XM (a:=115) (b:=83) (by omega));clear hN1 hN2;obtain ⟨qa,qn,qc,rfl⟩:=hN.1.slice;obtain ⟨k1,k2⟩:=yR hN.2;have HN:=zc (xl hN);clear hN;go_wp2_with fail;refine bodyPost_ret (results_cell_row rfl _ _ w.heap.size 161 #[.slice qa qn qc] (0,0) _ rfl (zb HN).2 underlying161 rfl Tryz.infoSet) rfl ?_;exact ⟨_,rfl,(zb HN).1⟩
def okSh (a:Int):Prop:=a=100\/a=68\/a=119\/a=87\/a=115\/a=83
theorem Zh (h:okSh a)(w:World):Calls prog 164 #[.int .i32 a] w fun e w'=>∃ v,e = .returned v/\z7 w w' v (Cs.zT a):=by
 rcases h with rfl |rfl |rfl |rfl |rfl |rfl
 ·exact zbE w
 ·exact short_68 w
 ·exact zbF w
 ·exact short_87 w
 ·exact zbG w
 ·exact short_83 w
end
section
namespace Cs
open Eqv (inSp)
theorem wS (h:zK (x :: l)):inSp (x :: l) x.1=true:=by
 have:=h.2 x (xF ..);rw [qv];exact ⟨x,xF ..,YD _,this.1⟩
theorem zas (h:zK (x :: l)){c:Int}(hc:inSp (x :: l) c=true):x.1<=c:=by
 obtain ⟨y,hy,h1,h2⟩:=(qv _ _).1 hc;rcases qP.1 hy with rfl |hy
 ·exact h1
 ·have:=(kg.1 h.1).1 y hy;have hx:=h.2 x (xF ..);unfold okS at hx;omega
theorem Yx (h:zK (x :: l)){c:Int}(hc:inSp l c=true):x.2+1<c:=by
 obtain ⟨y,hy,h1,h2⟩:=(qv _ _).1 hc;have:=(kg.1 h.1).1 y hy;omega
theorem zK.tail (h:zK (x :: l)):zK l:=⟨(kg.1 h.1).2,fun y hy=>h.2 y (xp _ hy)⟩
theorem zat {y:Int×Int}{l m:List (Int×Int)}(h:zK (x :: l))(_k:zK (y :: m))(e:∀ c,inSp (x :: l) c=inSp (y :: m) c)(h1:x.1=y.1):y.2<=x.2:=by
 rcases Int.lt_or_le x.2 y.2 with h2 |h2
 ·have hx:=h.2 x (xF ..);unfold okS at hx;have:inSp (y :: m) (x.2+1)=true:=(qv _ _).2 ⟨y,xF ..,by omega,by omega⟩;rw [<-e,jy,Z5,jc] at this;rcases this with h3 |h3
  ·omega
  ·have:=Yx h h3;omega
 ·exact h2
theorem zK.unique:∀ {l m:List (Int×Int)},zK l->zK m->(∀ c,inSp l c=inSp m c)->l=m
 | [],[],_,_,_=>rfl
 | [],y :: m,_,k,e=>by have:=wS k;rw [<-e] at this;simp [inSp] at this
 |x :: l,[],h,_,e=>by have:=wS h;rw [e] at this;simp [inSp] at this
 |x :: l,y :: m,h,k,e=>by
  have h1:x.1=y.1:=by
   have a:=zas k (by rw [<-e];exact wS h);have b:=zas h (by rw [e];exact wS k);omega
  have h2:x.2=y.2:=by
   have a:=zat h k e h1;have b:=zat k h (fun c=>(e c).symm) h1.symm;omega
  obtain rfl:x=y:=Prod.ext h1 h2;congr 1;refine zK.unique h.tail k.tail (fun c=>?_);have ec:=e c;rw [jy,jy] at ec;rcases Int.lt_or_le (x.2+1) c with hc |hc
  ·have:in1 x c=false:=(by rw [Z3,ne_eq,jc];omega);simpa [this] using ec
  ·have a:inSp l c=false:=by
    cases hh:inSp l c with
    |false=>rfl
    |true=>have:=Yx h hh;omega
   have b:inSp m c=false:=by
    cases hh:inSp m c with
    |false=>rfl
    |true=>have:=Yx k hh;omega
   rw [a,b]
noncomputable def shL (a:Int):List (Int×Int):=open Classical in if h:∃ l,zK l/\∀ c,inSp l c=zT a c then h.choose else []
variable {a}
theorem shL_of (h:zK l)(e:∀ c,inSp l c=zT a c):shL a=l:=by
 have hx:∃ l,zK l/\∀ c,inSp l c=zT a c:=⟨l,h,e⟩
 unfold shL;rw [dif_pos hx];exact hx.choose_spec.1.unique h (fun c=>(hx.choose_spec.2 c).trans (e c).symm)
theorem Q0 (c:Int):∀ (S:List Int),(∀ a∈S,∀ c,inSp (shL a) c=zT a c)->inSp (S.flatMap shL) c=S.any fun a=>zT a c
 | [],_=>rfl
 |a :: S,h=>by
  rw [YI,inSp_append,h a (xF ..),Q0 c S (fun b hb=>h b (xp _ hb))];rfl
variable (l)
theorem jn_len:(jn [] l).length<=l.length:=
 ZO (P:=fun l=>(jn [] l).length<=l.length) (by simp [jn]) (fun l x ih=>by
  rw [jn_snoc];have:=jn1_len (jn [] l) x;simp only [yS,jq];omega) l
theorem vu (rs:List (Int×Int)):∃ l,zK l/\(∀ c,inSp l c=(isCh c && inSp rs c))/\l.length<=2*rs.length:=by
 have hp:=List.mergeSort_perm (spl rs) (fun x y=>decide (x.1<=y.1));have hs:=List.pairwise_mergeSort (le:=fun (x y:Int×Int)=>decide (x.1<=y.1)) (fun x y z h1 h2=>by simp at *;omega) (fun x y=>by simp;omega) (spl rs);obtain ⟨h1,h2⟩:=of_ok hp (hs.imp (fun h=>by simpa using h));refine ⟨_,h1,h2,?_⟩;have e1:=jn_len ((spl rs).mergeSort fun x y=>decide (x.1<=y.1));rw [List.length_mergeSort] at e1;have e2:=spl_len rs;omega
theorem sh_ok (a:Int)(h:okSh a):zK (shL a)/\(∀ c,inSp (shL a) c=zT a c)/\(shL a).length<=42:=by
 have fin:∀ l,zK l->(∀ c,inSp l c=zT a c)->l.length<=42->zK (shL a)/\(∀ c,inSp (shL a) c=zT a c)/\(shL a).length<=42:=fun l h1 h2 h3=>by rw [shL_of h1 h2];exact ⟨h1,h2,h3⟩
 have up:∀ (b:Int) l,zK l->(∀ c,inSp l c=zT b c)->l.length<=20->((b=100/\a=68)\/(b=119/\a=87)\/(b=115/\a=83))->zK (shL a)/\(∀ c,inSp (shL a) c=zT a c)/\(shL a).length<=42:=fun b l h1 h2 h0 hb=>by
  obtain ⟨m,h3,h4,h5⟩:=vu (gaps 0 l);rw [gaps_len] at h5;exact fin m h3 (fun c=>by rw [h4,not_ok h1,h2];exact XM hb c) (by omega)
 obtain ⟨d,d1,d2,d4⟩:=vu [(48,57)];obtain ⟨q,q1,q2,q4⟩:=vu VR;obtain ⟨s,s1,s2,s4⟩:=vu Ref.QA;have d3:∀ c,inSp d c=zT 100 c:=fun c=>(d2 c).trans (zaY c);have q3:∀ c,inSp q c=zT 119 c:=fun c=>(q2 c).trans (W7 c);have s3:∀ c,inSp s c=zT 115 c:=fun c=>(s2 c).trans (zaZ c);have q5:q.length<=20:=by simp [VR] at q4;omega
 have s5:s.length<=20:=by simp [Ref.QA] at s4;omega
 have d5:d.length<=20:=by simp at d4;omega
 rcases h with rfl |rfl |rfl |rfl |rfl |rfl
 ·exact fin d d1 d3 (by omega)
 ·exact up 100 d d1 d3 d5 (by omega)
 ·exact fin q q1 q3 (by omega)
 ·exact up 119 q q1 q3 q5 (by omega)
 ·exact fin s s1 s3 (by omega)
 ·exact up 115 s s1 s3 s5 (by omega)
theorem K0:∀ (S:List Int),(∀ a∈S,(shL a).length<=42)->(S.flatMap shL).length<=42*S.length
 | [],_=>by simp
 |a :: S,h=>by
  have h1:=h a (xF ..);have h2:=K0 S (fun b hb=>h b (xp _ hb));rw [YI,yS,qH];omega
end Cs
open Go.RowKit
theorem yQ.short {w:World}{A:Nat->Prop}{v:Value}{a:Int}(h:yQ w A v (Cs.zT a)):∃ sv,v = .agg #[sv]/\yu w A sv (Cs.shL a)/\Cs.zK (Cs.shL a)/\∀ c,Eqv.inSp (Cs.shL a) c=Cs.zT a c:=by
 obtain ⟨sv,sp,h1,h2,h3,h4⟩:=h;have e:=Cs.shL_of h3 h4;exact ⟨sv,h1,by rw [e];exact h2,by rw [e];exact h3,by rw [e];exact h4⟩
end
section
open Go.RowKit Go.Shelf
set_option maxHeartbeats 8000000
set_option maxRecDepth 1000000
attribute [local go_sem] Oper.semAt_some
theorem Zi:∀ (l:List (Int×Int)) (j:Nat) (p:Int×Int),l[j]?=some p->(rangeCells l)[j*2]?=some (.int .i32 p.1)/\(rangeCells l)[j*2+1]?=some (.int .i32 p.2)
 | [],j,p,h=>by simp at h
 |x :: l,0,p,h=>by simp at h;subst h;simp [rangeCells]
 |x :: l,j+1,p,h=>by
  have:=Zi l j p (by simpa using h);rw [show (j+1)*2=j*2+2 by omega];simpa [rangeCells] using this
structure ClsBox (w:World)(A:Nat->Prop)(kb:Nat)(v1 v2:Value)(R:List (Int×Int))(S:List Int):Prop where
 c1:w.cell? ⟨kb,1,none⟩=some v1
 c2:w.cell? ⟨kb,2,none⟩=some v2
 r1:xE w A v1 R.length (rangeCells R)
 r2:xE w A v2 S.length (qB S)
theorem xE.facts {w:World}{A:Nat->Prop}{v:Value}{n:Nat}{xs:List Value}(h:xE w A v n xs):∃ pa pc,v = .slice pa n pc/\(n≠0->∃ g,pa=some ⟨g,0,none⟩/\n<=pc/\(A g/\g<w.heap.size)/\∀ j x,xs[j]?=some x->w.cell? ⟨g,j,none⟩=some x):=by
 rcases h with ⟨rfl,rfl,rfl⟩ |⟨g,cap,rfl,h1,h2,h3,h4⟩
 ·exact ⟨none,0,rfl,fun h=>absurd rfl h⟩
 ·exact ⟨some ⟨g,0,none⟩,cap,rfl,fun _=>⟨g,rfl,h2,⟨h1,h3⟩,h4⟩⟩
def mkD (D:Nat):Deferred:={ target:=.collected D,args:=#[] }
theorem ZT {n:Nat}{P:Program}{fn:Func}{tmps:Array Value}{R:Ending->World->Prop}(hres:fn.results=#[]):∀ (ds:List Nat) (w:World),ds.Nodup->(∀ D∈ds,w.heap[D]?=some (.deferred (some [])))->(∀ w',ze (fun k=>k∈ds) w w'->R (.returned (.tuple #[])) w')->LeavesInM Fence.wide n P fn tmps R (ds.map mkD) .returning w
 | [],w,_,_,h=>⟨_,results_none hres _ _ _,h w (ze.refl _ _)⟩
 |D :: ds,w,hn,hd,h=>by
  obtain ⟨h1,h2⟩:=List.nodup_cons.1 hn;refine ⟨by simp,.inl ⟨_,_,rfl,run_takeDeferred (hd D (xF ..)),?_⟩⟩;refine ZT hres ds _ h2 (fun E hE=>?_) (fun w' hw'=>h w' ?_)
  ·rw [World.putObj_heap_other (by rintro rfl;exact h1 hE)];exact hd E (xp _ hE)
  ·exact ((ze.refl (fun k=>k∈D :: ds) w).putObj D _ (.inl (xF ..))).trans (hw'.mono (fun k _ hk=>xp _ hk))
structure MemI (w0:World)(D:Nat->Prop)(J:List (Int×Int)->(Nat->Prop)->World->Prop)(k0 lp:Nat)(ds:List Nat)(base:List (Int×Int))(pre:List (Int×Int))(O:Nat->Prop)(X:World):Prop where
 j:J (base++pre) O X
 kept:qT D w0 X O
 nO:¬O k0
 y:X.cell? ⟨k0,0,none⟩=some (.func (.yield lp) #[] #[])
 ms:∀ m∈ds,¬O m/\X.heap[m]?=some (.deferred (some []))
 lt:∀ k,O k->k<X.heap.size
theorem MemI.keep {w0:World}{D:Nat->Prop}{J:List (Int×Int)->(Nat->Prop)->World->Prop}{k0 lp B B2:Nat}{ds:List Nat}{base pre:List (Int×Int)}{O:Nat->Prop}{X X':World}(hJ:∀ pre O A A',J pre O A->ze (fun k=>B<=k/\¬O k) A A'->J pre O A')(hB:B<=B2)(h0:w0.heap.size<=B2)(hk0:k0<B2)(hds:∀ m∈ds,m<B2)(h:MemI w0 D J k0 lp ds base pre O X)(o:ze (fun k=>B2<=k/\¬O k) X X'):MemI w0 D J k0 lp ds base pre O X':=
 ⟨hJ _ _ _ _ h.j (o.mono (fun k _ hk=>⟨by omega,hk.2⟩)),
  ⟨yZ h.kept.1 o.size,fun k hk=>by
   obtain ⟨h1,h2,h3⟩:=h.kept.2 k hk;have:=h.kept.1;exact ⟨h1,h2,(o.block k (by omega) (fun hp=>by omega)).trans h3⟩⟩,
  h.nO,(o.cell (p:=⟨k0,0,none⟩) (zE X _ h.y) (fun hp=>by have:=hp.1;simp at this;omega)).trans h.y,
  fun m hm=>⟨(h.ms m hm).1,(o.block m (yK.1 (h.ms m hm).2).1 (fun hp=>by have:=hds m hm;omega)).trans (h.ms m hm).2⟩,
  fun k hk=>yh (h.lt k hk) o.size⟩
theorem MemI.yield {w0:World}{D:Nat->Prop}{J:List (Int×Int)->(Nat->Prop)->World->Prop}{k0 lp:Nat}{ds:List Nat}{base pre:List (Int×Int)}{x:Int×Int}{O O':Nat->Prop}{X X':World}(h:MemI w0 D J k0 lp ds base pre O X)(hj:J (base++pre++[x]) O' X')(hs:∀ k,O' k->O k\/X.heap.size<=k)(ho:ze O X X')(hlt:∀ k,O' k->k<X'.heap.size):MemI w0 D J k0 lp ds base (pre++[x]) O' X':=by
 have no:∀ m,¬O m->m<X.heap.size->¬O' m:=fun m h1 h2 h3=>by
  rcases hs m h3 with h |h
  ·exact h1 h
  ·omega
 have hk0:=zE X _ h.y;exact ⟨by rw [<-ql];exact hj,h.kept.yield hs ho,no _ h.nO hk0,(ho.cell (p:=⟨k0,0,none⟩) hk0 h.nO).trans h.y,fun m hm=>⟨no m (h.ms m hm).1 (yK.1 (h.ms m hm).2).1,(ho.block m (yK.1 (h.ms m hm).2).1 (h.ms m hm).1).trans (h.ms m hm).2⟩,hlt⟩
theorem K1 (A:Nat->Prop)(kb:Nat)(w0:World)(h:ClsBox w0 A kb v1 v2 R S)(hS:∀ a∈S,okSh a)(hR:R.length<=1000)(hSl:S.length<=1000)(n:Nat)(hn1:5<=n) :
  SeqO Fence.wide n prog 226 #[.pointer (some ⟨kb,0,none⟩)] kZ (R++S.flatMap Cs.shL) (fun k=>k=kb\/(A k/\k<w0.heap.size)) w0:=by
 intro lp J O0 W hO hD hO0 hJ hY h0;have hk0:=zE w0 _ h.c1;have HK:Hid (qT (fun k=>k=kb\/(A k/\k<w0.heap.size)) w0 W O0):=qT.start (fun k hk=>by rcases hk with rfl |hk;exact hk0;exact hk.2) hO hD;have hk1:=((zb HK).cell (p:=⟨kb,1,none⟩) (.inl rfl)).trans h.c1;have hk2:=((zb HK).cell (p:=⟨kb,2,none⟩) (.inl rfl)).trans h.c2;obtain ⟨pa,pc,rfl,HC⟩:=h.r1.facts;obtain ⟨qa,qc,rfl,HC2⟩:=h.r2.facts;have HC:=zc HC;have HC2:=zc HC2;have HJ:=zc hJ;have HY:=zc hY;have H0:=zc h0;have HSh:=zc hS;have HO0:=zc hO0;have hc2:=h.c2;have hsW:=hO.size;clear h hJ hY h0 hD hO0 hS;have HA:Hid (Q8 W (W.alloc (.cells #[.func (.yield lp) #[] #[]] 352))):=(ze.refl _ _).alloc _;have hkW:=zE W _ hk1;have ha1:=((zb HA).cell (p:=⟨kb,1,none⟩) hkW (fun f=>f)).trans hk1;have hb0:(W.alloc (.cells #[.func (.yield lp) #[] #[]] 352)).cell? ⟨W.heap.size,0,none⟩=some (.func (.yield lp) #[] #[]):=zm W _ rfl _ _ 0 _ rfl;have HI0:Hid (J [] O0 (W.alloc (.cells #[.func (.yield lp) #[] #[]] 352))):=zb HJ _ _ _ _ (zb H0) ((ze.refl _ W).alloc _);have HK0:=zc ((zb HK).young (W:=W) hsW (A':=W.alloc (.cells #[.func (.yield lp) #[] #[]] 352)) ((ze.refl _ W).alloc _));have hw1s:(W.alloc (.cells #[.func (.yield lp) #[] #[]] 352)).heap.size=W.heap.size+1:=by simp
 have hnO:¬O0 W.heap.size:=fun h=>by have:=zb HO0 _ h;omega
 clear HK H0;refine callsIn_of_wp_marks func226 rfl trivial ?_ rfl;simp only [ntmps226,jZ,qH,jU,Nat.reduceAdd,Nat.reduceSub,wO,wl,Z1,Zr,kB,jS]
 gi_wp2
 generalize W.alloc (.cells #[.func (.yield lp) #[] #[]] 352)=W1 at *
 gi_loopw [12] (fun vi wr=>∃ (i:Nat) (O:Nat->Prop),vi = .int .i64 i/\i<=R.length/\Hid (J (R.take i) O wr)/\Hid (qT (fun k=>k=kb\/(A k/\k<w0.heap.size)) w0 wr O)/\¬O W.heap.size/\wr.cell? ⟨W.heap.size,0,none⟩=some (.func (.yield lp) #[] #[])/\W.heap.size+1<=wr.heap.size/\Hid (∀ k,O k->k<wr.heap.size)) (fun vi _=>R.length-(intOf vi).toNat)
 case atStart=>exact ⟨0,O0,rfl,by omega,HI0,HK0,hnO,hb0,by omega,(fun k hk=>by have:=zb HO0 k hk;omega)⟩
 case round=>
  clear HK0 HI0 hb0 ha1;obtain ⟨i,O,rfl,hi,HJ1,HK,hnO1,hb1,hs1,HlO⟩:=hrel;by_cases hlt:i<R.length
  ·obtain ⟨g,rfl,hpc,hAg,hcells⟩:=zb HC (by omega);have hget:R[i]?=some R[i]:=zD hlt;obtain ⟨e1,e2⟩:=Zi R i _ hget;have c1:=((zb HK).cell (p:=⟨g,i*2,none⟩) (.inr hAg)).trans (hcells _ _ e1);have c2:=((zb HK).cell (p:=⟨g,i*2+1,none⟩) (.inr hAg)).trans (hcells _ _ e2);clear e1 e2 hcells;have HP:Hid ((R.take i++[R[i]]) <+: (R++S.flatMap Cs.shL)):=(X5 R i hlt).trans (Qa _ _);have HT:Hid (R.take i++[R[i]]=R.take (i+1)):=kY R i hlt;clear hget;generalize R[i]=y at *;have hA2:Q8 wr (wr.alloc (.cells #[.int .i32 y.1,.int .i32 y.2] 373)):=(ze.refl _ wr).alloc _;have hJ2:=zb HJ (R.take i) O wr (wr.alloc (.cells #[.int .i32 y.1,.int .i32 y.2] 373)) (zb HJ1) ((ze.refl _ wr).alloc _);have HK2:=zc ((zb HK).young (W:=W) hsW (A':=wr.alloc (.cells #[.int .i32 y.1,.int .i32 y.2] 373)) ((ze.refl _ wr).alloc _));have hb2:=(hA2.cell (p:=⟨W.heap.size,0,none⟩) (zE wr _ hb1) (fun f=>f)).trans hb1;have hs2:(wr.alloc (.cells #[.int .i32 y.1,.int .i32 y.2] 373)).heap.size=wr.heap.size+1:=(by simp);obtain ⟨fn,tmps,assign,body,hy,hR⟩:=zb HY (R.take i) O y _ hJ2 (zb HP);simp only [kZ] at hy;clear hJ2 hA2
   gi_wp2
   refine ⟨fun h=>by simp [Fence.wide] at h,hR.mono ?_⟩;rintro e W3 ⟨rfl,O',hJ3,hs3,hO3,hlt3⟩;have HK3:=zc ((zb HK2).yield hs3 hO3);have hb3:=(hO3.cell (p:=⟨W.heap.size,0,none⟩) (zE _ _ hb2) hnO1).trans hb2;have hnO3:¬O' W.heap.size:=fun h=>by
    rcases hs3 _ h with h |h
    ·exact hnO1 h
    ·omega
   have hsz3:=hO3.size
   gi_wp2
   exact ⟨⟨i+1,O',by go_num,by omega,(by rw [<-zb HT];exact hJ3),zb HK3,hnO3,hb3,by omega,hlt3⟩,by simp [intOf];omega⟩
  ·obtain rfl:i=R.length:=(by omega);rw [ZA] at HJ1;have ha2:=((zb HK).cell (p:=⟨kb,2,none⟩) (.inl rfl)).trans hc2
   gi_wp2
   refine wpIn_loop (fun a' w'=>∃ (j:Nat) (ds:List Nat) (O:Nat->Prop) (v6 v28 v29 v30 v31 v32 v33 v41:Value),a' = { tmps:=#[.func (.yield lp) #[] #[],.pointer (some ⟨kb,0,none⟩),.pointer (some ⟨W.heap.size,0,none⟩),undef,u4,undef,v6,undef,undef,.pointer (some ⟨kb,1,none⟩),.slice pa R.length pc,.int .i64 (R.length:Nat),.int .i64 (R.length:Nat),.bool false,u14,u15,u16,u17,u18,u19,u20,u21,u22,u23,.pointer (some ⟨kb,2,none⟩),.slice qa S.length qc,.int .i64 (S.length:Nat),.int .i64 (j:Nat),v28,v29,v30,v31,v32,v33,undef,undef,undef,undef,undef,undef,undef,v41],defers:=ds.map mkD }/\j<=S.length/\ds.Nodup/\(∀ m∈ds,W.heap.size<=m)/\Hid (MemI w0 (fun k=>k=kb\/(A k/\k<w0.heap.size)) J W.heap.size lp ds (R++(S.take j).flatMap Cs.shL) [] O w')) (fun a' _=>S.length-(intOf (a'.tmps.getD 27 undef)).toNat) ?start ?round
   case start=>exact ⟨0,[],O,undef,undef,undef,undef,undef,undef,undef,undef,rfl,by omega,List.nodup_nil,(fun m hm=>by cases hm),⟨by simpa using zb HJ1,zb HK,hnO1,hb1,(fun m hm=>by cases hm),zb HlO⟩⟩
   case round=>
    clear HJ1 HK hnO1 hb1 HlO ha2;rintro a' wr2 ⟨j,ds,O,v6,v28,v29,v30,v31,v32,v33,v41,rfl,hj,hnd,hds,HM⟩;by_cases hlt2:j<S.length
    ·obtain ⟨g,rfl,hpc,hAg,hcells⟩:=zb HC2 (by omega);have hget:S[j]?=some S[j]:=zD hlt2;have c1:=((zb HM).kept.cell (p:=⟨g,j,none⟩) (.inr hAg)).trans (hcells j (.int .i32 S[j]) (by simp [qB,hget]));have hok:=zb HSh S[j] (jG hlt2);have HT:Hid (R++(S.take j).flatMap Cs.shL++Cs.shL S[j]=R++(S.take (j+1)).flatMap Cs.shL):=by
      rw [<-kY S j hlt2,List.flatMap_append,ql];simp only [YI,List.flatMap_nil,kT];trivial
     have HP:Hid ((R++(S.take j).flatMap Cs.shL++Cs.shL S[j]) <+: (R++S.flatMap Cs.shL)):=by
      rw [zb HT];refine (List.prefix_append_right_inj _).2 ?_
      conv=>rhs;rw [<-List.take_append_drop (j+1) S,List.flatMap_append]
      exact Qa _ _
     clear hcells hget;generalize S[j]=a at *
     gi_wp2
     refine ⟨trivial,fun h=>by simp [Fence.wide] at h,(callsIn_wide.2 (Zh a hok _)).mono ?_⟩;rintro e V1 ⟨v,rfl,hN⟩;obtain ⟨sv,rfl,hrow,hri,hin⟩:=hN.1.short;have hO1:=hN.2;clear hN hin;have hsl:∃ pa pn pc,sv = .slice pa pn pc:=(by rcases hrow with ⟨h1,_⟩ |⟨g,cap,h1,_⟩<;>exact ⟨_,_,_,h1⟩);obtain ⟨ra,rn,rc,rfl⟩:=hsl
     gi_wp2
     refine ⟨trivial,fun h=>by simp [Fence.wide] at h,(callsIn_wide.2 (Zw _ _ ⟨_,_,_,rfl⟩)).mono ?_⟩;rintro e V2 ⟨v,rfl,kb2,rfl,hk21,hk22,hO2⟩;have HO12:=zc (hO1.trans hO2);have hsz1:=hO1.size;have hsz2:=hO2.size;have hlen:=hri.len;have HRow:=zc (hrow.keep hO2 (fun _ _ f=>f));have HK2:=zc hk22;have HM2:Hid (MemI w0 (fun k=>k=kb\/(A k/\k<w0.heap.size)) J W.heap.size lp ds (R++(S.take j).flatMap Cs.shL) [] O V2):=(zb HM).keep (B2:=wr2.heap.size) (zb HJ) (by have:=zE wr2 _ (zb HM).y;simp at this;omega) (zb HM).kept.1 (by have:=zE wr2 _ (zb HM).y;simpa using this) (fun m hm=>(yK.1 ((zb HM).ms m hm).2).1) ((zb HO12).mono (fun _ _ f=>f.elim));have hyl:=zE wr2 _ (zb HM).y;simp only [] at hyl;clear hO1 hO2 hrow hk22
     gi_wp2
     refine vT (F:=Fence.wide) rfl (by omega) (gf:=198) (lb:=#[.pointer (some ⟨kb2,0,none⟩)]) rfl trivial (enters_of func198 (by kernel_rfl) rfl)
      (vt _ (Cs.shL a) _ kb2 V2 (zb HRow) (zb HK2) (by omega) (n-1) (by omega)) (fun _=>rfl) (MemI w0 (fun k=>k=kb\/(A k/\k<w0.heap.size)) J W.heap.size lp ds (R++(S.take j).flatMap Cs.shL)) O (zb HM2).lt ?d ?i (zb HM2)
      (fun x=>{ tmps:=#[.func (.yield lp) #[] #[],.pointer (some ⟨kb,0,none⟩),.pointer (some ⟨W.heap.size,0,none⟩),undef,u4,undef,.int .i32 a,.int .i32 x.1,.int .i32 x.2,.pointer (some ⟨kb,1,none⟩),.slice pa R.length pc,.int .i64 (R.length:Nat),.int .i64 (R.length:Nat),.bool false,u14,u15,u16,u17,u18,u19,u20,u21,u22,u23,.pointer (some ⟨kb,2,none⟩),.slice (some ⟨g,0,none⟩) S.length qc,.int .i64 (S.length:Nat),.int .i64 (j:Nat),.bool true,.pointer (some ⟨g,j,none⟩),.int .i32 a,.int .i32 a,.agg #[.slice ra rn rc],.func (.func 198) #[] #[.pointer (some ⟨kb2,0,none⟩)],.int .i32 x.1,.int .i32 x.2,undef,undef,undef,undef,undef,v41],defers:=[] }) ?assign ?body ?done
     case d=>
      rintro k (rfl |⟨h1,h2⟩)
      ·exact ⟨zE V2 _ (zb HK2),fun hk=>by have:=(zb HM).lt _ hk;omega⟩
      ·exact ⟨h2,fun hk=>by have:=(zb HM).lt _ hk;omega⟩
     case i=>
      intro pre O1 X X' hX hXX;exact hX.keep (B2:=V2.heap.size) (zb HJ) (by omega) (zb HM2).kept.1 (by omega) (fun m hm=>(yK.1 ((zb HM2).ms m hm).2).1) hXX
     case assign=>
      intro l x W K hK;unfold kZ
      gi_wp2
      exact hK
     case body=>
      rintro l2 pre O1 x X hl2 hOl ⟨r,hr⟩ hX hpre;obtain ⟨fn,tmps,assign,body,hy,hR⟩:=YieldAt.anyN (m':=n-1-1-1) (zb HY (R++(S.take j).flatMap Cs.shL++pre) O1 x X hX.j (by rw [ql];exact List.IsPrefix.trans ((List.prefix_append_right_inj _).2 hpre) (zb HP)));simp only [kZ] at hy;have hy0:=hX.y;obtain ⟨xa,xc⟩:=x;simp only [] at hy ⊢
      gi_wp2
      refine ⟨fun h=>by simp [Fence.wide] at h,RoundIn.mono hR ?_⟩;rintro e X2 ⟨rfl,O',hJ2,hs2,hO2,hlt2⟩
      gi_wp2
      exact ⟨O',hX.yield hJ2 hs2 hO2 hlt2,hs2,hO2,hlt2⟩
     case done=>
      rintro Dm O1 X hDm hOD hX hKm
      gi_wp2
      refine ⟨⟨j+1,Dm :: ds,O1,_,_,_,_,_,_,_,_,rfl,by omega,List.nodup_cons.2 ⟨fun hm=>?_,hnd⟩,?_,?_⟩,?_⟩
      ·have:=(yK.1 ((zb HM2).ms Dm hm).2).1;omega
      ·intro m hm;rcases qP.1 hm with rfl |hm
       ·omega
       ·exact hds m hm
      ·refine ⟨by rw [kT,<-zb HT];exact hX.j,hX.kept,hX.nO,hX.y,fun m hm=>?_,hX.lt⟩;rcases qP.1 hm with rfl |hm
       ·exact ⟨hOD,hKm⟩
       ·exact hX.ms m hm
      ·simp [intOf];omega
    ·obtain rfl:j=S.length:=(by omega);rw [ZA] at HM
     gi_wp2
     refine ZT rfl ds wr2 hnd (fun m hm=>((zb HM).ms m hm).2) (fun w' hw'=>⟨⟨_,rfl⟩,O,?_⟩);have:=(zb HM).j;rw [kT] at this;exact zb HJ _ _ _ _ this (hw'.mono (fun k _ hk=>⟨hds k hk,((zb HM).ms k hk).1⟩))
theorem Yy (h1:∃ pa pn pc,v1 = .slice pa pn pc)(h2:∃ pa pn pc,v2 = .slice pa pn pc):Calls prog 192 #[.agg #[.bool neg,v1,v2]] w fun e w'=>∃ kb,e = .returned (.func (.func 226) #[] #[.pointer (some ⟨kb,0,none⟩)])/\w.heap.size<=kb/\w'.cell? ⟨kb,1,none⟩=some v1/\w'.cell? ⟨kb,2,none⟩=some v2/\Q8 w w':=by
 obtain ⟨pa,pn,pc,rfl⟩:=h1;obtain ⟨qa,qn,qc,rfl⟩:=h2;have HO:Hid ((w.alloc (.cells #[.bool neg,.slice pa pn pc,.slice qa qn qc] 252)).cell? ⟨w.heap.size,1,none⟩=some (.slice pa pn pc)/\(w.alloc (.cells #[.bool neg,.slice pa pn pc,.slice qa qn qc] 252)).cell? ⟨w.heap.size,2,none⟩=some (.slice qa qn qc)/\Q8 w (w.alloc (.cells #[.bool neg,.slice pa pn pc,.slice qa qn qc] 252))):=⟨zm w _ rfl _ _ 1 _ rfl,zm w _ rfl _ _ 2 _ rfl,(ze.refl _ _).alloc _⟩
 go_enter func192,ntmps192;go_wp2_with fail;go_ret;exact ⟨_,rfl,z8 _,(zb HO).1,(zb HO).2.1,(zb HO).2.2⟩
theorem xE.slice {w:World}{A:Nat->Prop}{v:Value}{n:Nat}{xs:List Value}(h:xE w A v n xs):∃ pa pn pc,v = .slice pa pn pc:=by
 rcases h with ⟨rfl,_⟩ |⟨g,cap,rfl,_⟩<;>exact ⟨_,_,_,rfl⟩
theorem zbH (kb:Nat)(v1 v2:Value)(R:List (Int×Int))(S:List Int)(A:Nat->Prop)(w:World)(h:ClsBox w A kb v1 v2 R S)(_hA:∀ k,A k->k<w.heap.size)(hS:∀ a∈S,okSh a)(hR:R.length<=1000)(hSl:S.length<=1000) :
  Calls prog 166 #[.func (.func 226) #[] #[.pointer (some ⟨kb,0,none⟩)]] w fun e w'=>∃ v,e = .returned v/\z7 w w' v (fun c=>Cs.isCh c && Eqv.wN R S c):=by
 have eg:∀ args w,(callFunc 226 args).run prog w = .ok (.enter 226 args) w:=enters_of func226 (by kernel_rfl) rfl;have hl:=Cs.K0 S (fun a ha=>(Cs.sh_ok a (hS a ha)).2.2);refine (Wz _ _ (R++S.flatMap Cs.shL) (fun k=>k=kb\/(A k/\k<w.heap.size)) w eg (K1 v1 v2 R S A kb w h hS hR hSl 8 (by omega)) (fun k hk=>?_) (by simp only [yS];omega)).mono ?_
 ·rcases hk with rfl |hk
  ·exact zE w _ h.c1
  ·exact hk.2
 ·rintro e w' ⟨v,rfl,h1,h2⟩;exact ⟨v,rfl,⟨h1.congr (fun c=>Cs.zcE (fun c=>Cs.Q0 c S (fun a ha=>(Cs.sh_ok a (hS a ha)).2.1)) c),h2⟩⟩
theorem J1 (A:Nat->Prop)(w:World)(h1:xE w A v1 R.length (rangeCells R))(h2:xE w A v2 S.length (qB S))(hS:∀ a∈S,okSh a)(hR:R.length<=1000)(hSl:S.length<=1000) :
  Calls prog 165 #[.agg #[.bool neg,v1,v2]] w fun e w'=>∃ v,e = .returned v/\z7 w w' v (Cs.qY (Pro.tCls neg R S)):=by
 have hs1:=h1.slice;have hs2:=h2.slice;obtain ⟨pa,pn,pc,rfl⟩:=hs1;obtain ⟨qa,qn,qc,rfl⟩:=hs2;have H1:=zc h1;have H2:=zc h2;clear h1 h2;go_enter func165,ntmps165;go_wp2_with fail;generalize hwB:w.alloc (.cells #[.bool neg,.slice pa pn pc,.slice qa qn qc] 252)=wB at *;have hsB:wB.heap.size=w.heap.size+1:=by rw [<-hwB];simp
 have HOB:Hid (Q8 w wB):=by rw [<-hwB];exact (ze.refl _ _).alloc _
 have HN0:Hid (wB.cell? ⟨w.heap.size,0,none⟩=some (.bool neg)):=by rw [<-hwB];exact zm w _ rfl _ _ 0 _ rfl
 clear hwB;generalize hwA:wB.alloc (.cells #[.slice none 0 0] 161)=wA at *;have HOA:Hid (Q8 wB wA):=by rw [<-hwA];exact (ze.refl _ _).alloc _
 refine (Yy neg _ _ wA ⟨_,_,_,rfl⟩ ⟨_,_,_,rfl⟩).mono ?_;rintro e w1 ⟨kb,rfl,hk,k1,k2,hO1⟩;have hO01:Q8 w w1:=((zb HOB).trans (zb HOA)).trans hO1;have HB1:Hid (ClsBox w1 (fun g=>A g/\g<w1.heap.size) kb (.slice pa pn pc) (.slice qa qn qc) R S):=⟨k1,k2,(((zb H1).keep hO01 (fun _ _ f=>f)).mono (fun g hg hA=>⟨hA,hg⟩)),(((zb H2).keep hO01 (fun _ _ f=>f)).mono (fun g hg hA=>⟨hA,hg⟩))⟩
 have HO1:=zc hO1;clear hO01 hO1 k1 k2;go_wp2_with fail;refine (zbH kb _ _ R S _ w1 (zb HB1) (fun k hk=>hk.2) hS hR hSl).mono ?_;rintro e w2 ⟨v,rfl,hN⟩;obtain ⟨ra,rn,rc,rfl⟩:=hN.1.slice;have HN2:=zc (hN.later (zb HO1));clear hN;have HA3:Hid (Q8 w2 (w2.alloc (.cells #[.slice ra rn rc] 161))):=(ze.refl _ _).alloc _;have c0:=(((zb HOA).trans ((zb HN2).2.trans (zb HA3))).cell (p:=⟨w.heap.size,0,none⟩) (by show _<_;simp only;omega) (fun f=>f)).trans (zb HN0);have HN3:Hid (z7 wA (w2.alloc (.cells #[.slice ra rn rc] 161)) (.agg #[.slice ra rn rc]) (fun c=>Cs.isCh c && Eqv.wN R S c)):=⟨(zb HN2).1.keep (zb HA3) (fun _ _ f=>f),(zb HN2).2.trans (zb HA3)⟩
 subst hwA;cases neg
 ·have hN:=(zb HN3).congr (Cs.zcG R S);obtain ⟨k1,k2⟩:=yR hN.2;have HN:=zc (xl hN);clear hN;rw [hsB] at k1 k2 HN;go_wp2_with fail;refine bodyPost_ret (results_cell_row rfl _ _ (w.heap.size+1) 161 #[.slice ra rn rc] (0,0) _ rfl (zb HN).2 underlying161 rfl Tryz.infoSet) rfl ?_;exact ⟨_,rfl,(zb HN).1.later (zb HOB)⟩
 ·go_wp2_with fail;refine (ZQ _ _ _ _ (zb HN3).1).mono ?_;rintro e w4 ⟨v,rfl,hN4⟩;obtain ⟨ta,tn,tc,rfl⟩:=hN4.1.slice;have hN:=(z7.later hN4 (zb HN3).2).congr (Cs.zcF R S);obtain ⟨k1,k2⟩:=yR hN.2;have HN:=zc (xl hN);clear hN hN4;rw [hsB] at k1 k2 HN;go_wp2_with fail;refine bodyPost_ret (results_cell_row rfl _ _ (w.heap.size+1) 161 #[.slice ta tn tc] (0,0) _ rfl (zb HN).2 underlying161 rfl Tryz.infoSet) rfl ?_;exact ⟨_,rfl,(zb HN).1.later (zb HOB)⟩
def LeafOK (t:Sm.Tree):Prop:=(∀ c,t=Pro.xV c->okSh c)/\∀ neg R S,t=Pro.tCls neg R S->(∀ a∈S,okSh a)/\R.length<=1000/\S.length<=1000
theorem K2 (v:Value)(t:Sm.Tree)(A:Nat->Prop)(w:World)(h:jd w A v t)(hn:∀ c,t≠Pro.tAsr c)(hok:LeafOK t) :
  Calls prog 120 #[v] w fun e w'=>∃ v',e = .returned v'/\z7 w w' v' (Cs.qY t):=by
 have HOA:Hid (Q8 w (w.alloc (.cells #[.slice none 0 0] 161))):=(ze.refl _ _).alloc _;rcases h with ⟨c,e,_⟩ |⟨rfl,rfl⟩ |⟨c,rfl,rfl⟩ |⟨c,rfl,rfl⟩ |⟨neg,R,S,v1,v2,rfl,rfl,h3,h4⟩
 ·exact absurd e (hn c)
 ·have a1:=Tryz.as11;go_enter func120,ntmps120;go_wp2_with fail;clear a1;refine (J0 _).mono ?_;rintro e w1 ⟨v,rfl,hN1⟩;go_wp2_with fail;refine (ZQ v _ _ w1 hN1.1).mono ?_;rintro e w2 ⟨v,rfl,hN2⟩;have hN:=((z7.later hN2 hN1.2).later ((ze.refl (fun _=>False) (w.alloc (.cells #[.slice none 0 0] 161))).alloc _)).congr Cs.any_P;clear hN1 hN2;obtain ⟨qa,qn,qc,rfl⟩:=hN.1.slice;obtain ⟨k1,k2⟩:=yR hN.2;have HN:=zc (xl hN);clear hN;go_wp2_with fail;refine bodyPost_ret (results_cell_row rfl _ _ w.heap.size 161 #[.slice qa qn qc] (0,0) _ rfl (zb HN).2 underlying161 rfl Tryz.infoSet) rfl ?_;exact ⟨_,rfl,(zb HN).1⟩
 ·have a1:=Tryz.as21;have a2:=Tryz.as22;go_enter func120,ntmps120;go_wp2_with fail;clear a1 a2;have hL:=ke (.slice (some ⟨w.heap.size+1,0,none⟩) 1 1) [(c,c)] (fun g=>g=w.heap.size+1) _ (ZR (w.alloc (.cells #[.slice none 0 0] 161)) (w.heap.size+1) (by simp) [(c,c)] 265) (by simp);refine Calls.mono hL ?_;clear hL;rintro e w2 ⟨v,rfl,hN⟩;have hN:=(z7.later hN ((ze.refl (fun _=>False) (w.alloc (.cells #[.slice none 0 0] 161))).alloc _)).congr (Cs.char_P c);obtain ⟨qa,qn,qc,rfl⟩:=hN.1.slice;obtain ⟨k1,k2⟩:=yR hN.2;have HN:=zc (xl hN);clear hN;go_wp2_with fail;refine bodyPost_ret (results_cell_row rfl _ _ w.heap.size 161 #[.slice qa qn qc] (0,0) _ rfl (zb HN).2 underlying161 rfl Tryz.infoSet) rfl ?_;exact ⟨_,rfl,(zb HN).1⟩
 ·have a1:=Tryz.as31;have a2:=Tryz.as32;have a3:=Tryz.as33;go_enter func120,ntmps120;go_wp2_with fail;clear a1 a2 a3;refine (Zh c (hok.1 c rfl) _).mono ?_;rintro e w1 ⟨v,rfl,hN1⟩;have hN:=hN1.congr (Cs.short_P c);clear hN1;obtain ⟨qa,qn,qc,rfl⟩:=hN.1.slice;obtain ⟨k1,k2⟩:=yR hN.2;have HN:=zc (xl hN);clear hN;go_wp2_with fail;refine bodyPost_ret (results_cell_row rfl _ _ w.heap.size 161 #[.slice qa qn qc] (0,0) _ rfl (zb HN).2 underlying161 rfl Tryz.infoSet) rfl ?_;exact ⟨_,rfl,(zb HN).1⟩
 ·have a1:=Tryz.as41;have a2:=Tryz.as42;have a3:=Tryz.as43;have a4:=Tryz.as44;obtain ⟨h5,h6,h7⟩:=hok.2 neg R S rfl;have hs1:=h3.slice;have hs2:=h4.slice;obtain ⟨pa,pn,pc,rfl⟩:=hs1;obtain ⟨ua,un,uc,rfl⟩:=hs2;have H3:=zc h3;have H4:=zc h4;clear h3 h4;go_enter func120,ntmps120;go_wp2_with fail;clear a1 a2 a3 a4;have hO2:Q8 w ((w.alloc (.cells #[.slice none 0 0] 161)).alloc (.cells #[.bool neg,.slice pa pn pc,.slice ua un uc] 252)):=((ze.refl _ _).alloc _).alloc _;refine (J1 neg _ _ R S A _ ((zb H3).keep hO2 (fun _ _ f=>f)) ((zb H4).keep hO2 (fun _ _ f=>f)) h5 h6 h7).mono ?_;clear hO2;rintro e w2 ⟨v,rfl,hN⟩;have hN:=z7.later hN ((ze.refl (fun _=>False) (w.alloc (.cells #[.slice none 0 0] 161))).alloc _);obtain ⟨qa,qn,qc,rfl⟩:=hN.1.slice;obtain ⟨k1,k2⟩:=yR hN.2;have HN:=zc (xl hN);clear hN;go_wp2_with fail;refine bodyPost_ret (results_cell_row rfl _ _ w.heap.size 161 #[.slice qa qn qc] (0,0) _ rfl (zb HN).2 underlying161 rfl Tryz.infoSet) rfl ?_;exact ⟨_,rfl,(zb HN).1⟩
end
end Go.Proofs.YtcgleficedipkaaGreatDoor
