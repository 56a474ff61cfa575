/- The statement's own functions over scripts with finders: what was written over is as it was; Live; Finder of any number. -/
import Derived.Test.YtcgleficedipkaaGreatDoorYFoAFoB
namespace Go.Proofs.YtcgleficedipkaaGreatDoor
open _root_.Go.Proofs.Tryz
section
open Go.RowKit
open Sm (Stp Tree)
set_option maxHeartbeats 4000000
set_option maxRecDepth 1000000
section
variable {wi w:World} {ow:Nat->Nat} {ps:List (Nat×Nat)} {fs:List FinQ} {vs:List Value} {us:Nat->Bool} {R:Nat->Value}
theorem keptF (h:FoR wi w ow ps fs vs us R)(hl:vs.length<=1000000000000000) :
  Calls prog 16 #[.pointer (some ⟨wi.heap.size,0,none⟩)] w fun e w'=>e = .returned (.bool true)/\Q8 w w':=by
 have c2:=h.c 2 _ rfl;have c4:=h.c 4 _ rfl;have c6:=h.c 6 _ rfl;have c7:=h.c 7 _ rfl;have c8:=h.c 8 _ rfl;have c9:=h.c 9 _ rfl;obtain ⟨ta,tc,e,ht⟩:=own_sl (n:=vs.length) (xs:=vs) (h.row 2 (by decide));rw [e] at c6;have HT:=zc ht;have HL:=zc h.lst;clear h ht e;go_enter func16,ntmps16;go_wp2_with fail;refine wp_loop_rounds 1 ?_;rw [rounds_succ];go_wp2_with fail;refine wp_loop_rounds 1 ?_;rw [rounds_succ];go_wp2_with fail;go_loopw [7] (fun k wr=>∃ n:Nat,k = .int .i64 n/\n<=vs.length/\wr=w) (fun k _=>vs.length-(intOf k).toNat)
 case atStart=>exact ⟨0,rfl,by omega,rfl⟩
 case round=>
  obtain ⟨n,rfl,hn,rfl⟩:=hrel;by_cases hlt:n<vs.length
  ·obtain ⟨gi,rfl,hci⟩:=zb HT n vs[n] (zD hlt);obtain ⟨g,q,cap,e,hq,_,hqc⟩:=zb HL vs[n] (jG hlt);rw [e] at hci;clear HT HL e;go_wp2_with fail;go_loopw [8] (fun k wr'=>∃ j:Nat,k = .int .i64 j/\j<=q/\wr'=wr) (fun k _=>q-(intOf k).toNat)
   case atStart=>exact ⟨0,rfl,by omega,rfl⟩
   case round=>
    obtain ⟨j,rfl,hj,rfl⟩:=hrel;by_cases hjq:j<q
    ·have hcj:=hqc j hjq;clear hqc;go_wp2_with fail;exact ⟨⟨j+1,by go_num,by omega,trivial⟩,by simp [intOf];omega⟩
    ·clear hqc;go_wp2_with fail;exact ⟨⟨n+1,by go_num,by omega,trivial⟩,by simp [intOf];omega⟩
  ·clear HT HL;go_wp2_with fail;refine wp_loop_rounds 1 ?_;rw [rounds_succ];go_wp2_with fail;refine wp_loop_rounds 1 ?_;rw [rounds_succ];go_wp2_with fail;refine wp_loop_rounds 1 ?_;rw [rounds_succ];go_wp2_with fail;go_ret;exact ⟨rfl,ze.refl _ _⟩
theorem livesF {k:Nat}{q:FinQ}(h:FinL w ow k q q.used) :
  Calls prog 18 #[.agg #[.pointer (some ⟨q.x,0,none⟩),.pointer (some ⟨q.y,0,none⟩),.int .i64 (q.most:Nat),.bool q.used]] w fun e w'=>e = .returned (.bool true)/\Q8 w w':=by
 obtain ⟨gx,pb,F,t,W,cs,ts,v,A,O,D,sb,mb,es,sv,_,h2,_,h4,h5⟩:=h;have hl:=h2.len;have HF:Hid (∀ w',Q8 w w'->Calls prog 34 #[.pointer (some ⟨q.x,0,none⟩)] w' fun x w''=>x = .returned (.int .i64 (es.length:Nat))/\w''=w'):=fun w' k=>zhB _ _ _ _ _ _ _ _ _ _ _ _ _ _ w' (h2.young k);clear h2;obtain ⟨x,y,most,used⟩:=q;simp only [] at h4 h5 hl HF;cases used with
 |false=>
  rw [h5 rfl] at HF;clear h4 h5;go_enter func18,ntmps18;go_wp2_with (go_at_call 34;refine Q7 (zb HF _ ((ze.refl _ _).alloc _)) ?_);go_ret;exact ⟨rfl,(ze.refl _ _).alloc _⟩
 |true=>
  have h1:=h4 rfl;clear h4 h5;go_enter func18,ntmps18;go_wp2_with (go_at_call 34;refine Q7 (zb HF _ ((ze.refl _ _).alloc _)) ?_);go_ret;exact ⟨rfl,(ze.refl _ _).alloc _⟩
theorem zhq (g:Nat)(n:Int)(w:World)(hn:n<2\/64<n) :
  Calls prog 20 #[.pointer (some ⟨g,0,none⟩),.int .i64 n] w fun x w'=>x = .returned (.tuple #[.pointer none,.int .i64 9])/\w'=w:=by
 by_cases h:n<2
 ·have hd:decide (n<2)=true:=decide_eq_true h;clear hn;go_enter func20,ntmps20;go_wp2_with fail;go_ret2;exact ⟨rfl,rfl⟩
 ·have hd:decide (n<2)=false:=decide_eq_false h;have h2:64<n:=by omega
  clear hn;go_enter func20,ntmps20;go_wp2_with fail;go_ret2;exact ⟨rfl,rfl⟩
def lab (ow:Nat->Nat)(a b m:Nat):Nat->Nat:=fun i=>if a<=i/\i<b then m else ow i
theorem lab_old {a b m i:Nat}(h:i<a):lab ow a b m i=ow i:=if_neg (fun e=>by omega)
theorem lab_new {a b m i:Nat}(h:a<=i)(h2:i<b):lab ow a b m i=m:=if_pos ⟨h,h2⟩
theorem FoR.lab {w1 w2:World}(m:Nat)(h:FoR wi w ow ps fs vs us R)(k1:Q8 w w1)(k2:Q8 w1 w2):FoR wi w2 (lab ow w1.heap.size w2.heap.size m) ps fs vs us R:=by
 have hs:=k1.size;have hl:=h.lt;refine (h.keep0 (k1.trans k2)).label (fun i hi=>lab_old (yh (h.sl i hi).2 hs)) (fun i hi=>?_);unfold Proofs.YtcgleficedipkaaGreatDoor.lab at hi;split at hi
 ·rename_i q;exact .inr ⟨by omega,q.2,fun j hj e=>by have:=(zh (h.row j hj) i e).2;omega⟩
 ·exact .inl hi
def FoS (wi w:World)(n:Nat):Prop:=∃ ow ps fs vs us R,FoR wi w ow ps fs vs us R/\(∀ k q,fs[k]?=some q->us k=q.used)/\ps.length<=n/\fs.length<=n/\vs.length<=n
theorem Tryz.infoFin:(prog.info? 71).map (fun i=>(i.zero,i.size,i.bytes))=some (some (.agg #[.pointer none,.pointer none,.int .i64 0,.bool false]),4,32):=by kernel_rfl
theorem zhr {gx gy m n0:Nat}(p f:Int)(s:ByteArray)(lv nv sv:Value)(h:FoR wi w ow ps fs vs us R)(hu:∀ k q,fs[k]?=some q->us k=q.used)(hP:∃ pb F t W cs ts v A,PatF w ow gx gy pb F t W cs ts v A)(hT:TabAt w)(h1:2<=m)(h2:m<=64)(hn:n0<1172812402961)(l1:ps.length<=n0)(l2:fs.length<=n0)(l3:vs.length<=n0) :
  Calls prog 33 #[.pointer (some ⟨wi.heap.size,0,none⟩),.agg #[.pointer (some ⟨gx,0,none⟩),.pointer (some ⟨gy,0,none⟩)],opV 4 p f (m:Nat) s lv nv sv] w fun e w'=>e = .returned (.bool true)/\FoS wi w' (n0+1)/\w'.cell? ⟨wi.heap.size,0,none⟩=some (R 0)/\ze (fun i=>i=wi.heap.size\/(R 1).ownBlock=some i) w w':=by
 obtain ⟨i0,hi0,hz0,hz1,hz2⟩:=info_parts Tryz.infoFin;obtain ⟨pb,F,t,W,cs,ts,v,A,hp⟩:=hP;have HC:Hid (∀ w1,Q8 w w1->Calls prog 20 #[.pointer (some ⟨gx,0,none⟩),.int .i64 (m:Nat)] w1 fun x w'=>∃ fb ow',x = .returned (.tuple #[.pointer (some ⟨fb,0,none⟩),.int .i64 0])/\FoR wi w' ow' ps fs vs (fun j=>if j=fs.length then false else us j) R/\FinL w' ow' fs.length ⟨fb,gy,m,false⟩ false/\Q8 w1 w'):=fun w1 k=>by
  refine (Qe gx pb _ m A _ W cs _ w1 (hp.keep k (fun _ f=>f.elim)).c (hT.keep k (fun f=>f)) h1 h2).mono ?_;rintro x w' ⟨fb,sb,mb,rfl,q1,q2,q3,q4,q5⟩;have hs:=k.size;refine ⟨fb,_,rfl,(h.lab (fs.length+2) k q5).reus (fun j hj=>if_neg (by omega)),⟨gx,pb,F,t,W,cs,ts,v,A,_,_,sb,mb,[],_,(hp.keep (k.trans q5) (fun _ f=>f.elim)).wide (fun i e=>(lab_old (yh (h.sl i (by omega)).2 hs)).trans e),q4,fun g hg=>?_,fun e=>(by cases e),fun _=>rfl⟩,q5⟩;have hfb:=zE w' _ q4.f0;simp only [] at hfb;rcases hg with hg |hg |rfl
  ·exact lab_new (by rcases hg with rfl |rfl<;>assumption) (q4.sto.olt g hg)
  ·exact hg.elim
  ·exact lab_new q1 hfb
 have HH:=zc h;have hlt:=h.lt;have hd1:¬(m:Int)<2:=by omega
 have hd2:¬(64:Int)<(m:Int):=by omega
 clear h hp hT;unfold opV;go_enter func33,ntmps33;go_wp2_with (go_at_call 20;refine (zb HC _ (((ze.refl _ _).alloc _).alloc _)).mono ?_;rintro e w1 ⟨fb,ow',rfl,hq,hf,hO1⟩;have y1:=zg hO1 ⟨w.heap.size,1,none⟩ _ (zg ((ze.refl (fun _=>False) _).alloc _) _ _ (zm w _ rfl _ _ 1 _ rfl) (fun f=>f)) (fun f=>f);have y3:=zg hO1 ⟨w.heap.size+1,3,none⟩ _ (zm _ _ (yX w _) _ _ 3 _ rfl) (fun f=>f);have HO1:Hid (Q8 w w1):=(((ze.refl (fun _=>False) w).alloc _).alloc _).trans hO1;have HQ:=zc hq;have HF:=zc hf;have d1:=hq.c 1 _ rfl;have f1:=hq.fz 1;obtain ⟨fa,fn,fc,e1⟩:=zy (hq.row 1 (by decide));rw [e1] at d1;have HR:Hid (w1.ownsRow (wi.heap.size+1) 71 4 (.slice fa fn fc) fs.length (finCells fs)):=(by rw [<-e1];exact hq.row 1 (by decide));have hlt1:=hq.lt;clear hq hf hO1);have hnb:¬(Value.slice fa fn fc).ownBlock=some wi.heap.size:=fun e=>by have:=(zh (zb HR) _ e).1;omega
 go_region_law (refine jL rfl (.tmp 110) (.tmp 117) 53 rfl (wi.heap.size+1) 71 i0 (.agg #[.pointer none,.pointer none,.int .i64 0,.bool false]) 4 32 underlying53 hi0 hz0 hz1 hz2 rfl (by decide) (.slice fa fn fc) fs.length (finCells fs) (by simp [Act.eval]) (zn (zb HR) (P:=fun _=>False) (by repeat (first |refine ze.alloc ?_ _ |refine ze.drew ?_ |refine ze.drewN ?_ _ |exact ze.refl _ _)) (fun _ _ f=>f)) ⟨w1.heap.size,0,none⟩ 1 1 [.pointer (some ⟨fb,0,none⟩),.pointer (some ⟨gy,0,none⟩),.int .i64 (m:Nat),.bool false] (by simp [Act.eval]) rfl (four_new _ w1.heap.size (by simp) _ _ _ _ _) (fun u hu=>by simp at hu;rcases hu with rfl |rfl |rfl |rfl<;>rfl) (by decide) (by unfold maxLen;omega) (by omega) (by simp;omega) ?_;intro v' w4 hown' hgrow hsep;obtain ⟨ya,yn,yc,rfl⟩:=zy hown';have oW:ze (fun k=>(Value.slice fa fn fc).ownBlock=some k) w1 w4:=ze.grown (by repeat (first |exact ze.refl _ _ |refine ze.alloc ?_ _ |refine ze.drew ?_ |refine ze.drewN ?_ _)) hgrow (fun k hk=>.inl hk);have m1:=zg oW _ _ d1 hnb;have m0:=zP oW _ hlt1 f1 hnb;have HO4:=zc hown';have HW4:=zc oW;have HSe:Hid (∀ k,(Value.slice ya yn yc).ownBlock=some k->(Value.slice fa fn fc).ownBlock=some k\/w1.heap.size<=k):=(fun k hk=>(hsep k hk).imp_right (fun q=>by simp at q;omega));clear hown' oW hgrow hsep)
 all_goals
  have k2:ze (fun i=>(R 1).ownBlock=some i) w1 w4:=by rw [e1];exact zb HW4
  have HX:=zc ((zb HQ).put (i:=1) (by decide) k2 (ps':=ps) (fs':=fs++[⟨fb,gy,m,false⟩]) (vs':=vs) (by show World.ownsRow _ _ _ _ _ (fs++[_]).length (finCells _);rw [yS,zf5];exact zb HO4) (fun x hx=>by rw [e1];exact zb HSe x hx) (by rintro (_ |_ |_ |j) h1 h2<;>first |exact ⟨rfl,rfl⟩ |omega) (zb HQ).pats (fun k q hk=>by
   by_cases e:k<fs.length
   ·rw [qh e] at hk;exact (zb HQ).fins k q hk
   ·rw [jj (by omega)] at hk;obtain rfl:k=fs.length:=(by have:=(yd.1 hk).1;simp at this;omega);simp at hk;subst hk;rw [if_pos rfl];exact zb HF) (zb HQ).lst)
  have HK:Hid (ze (fun i=>i=wi.heap.size\/(R 1).ownBlock=some i) w (w4.setCell ⟨wi.heap.size,1,none⟩ (.slice ya yn yc))):=(((zb HO1).mono (fun _ _ f=>f.elim)).trans (k2.mono (fun _ _ e=>.inr e))).setCell (p:=⟨wi.heap.size,1,none⟩) (.inl (.inl rfl)) _;clear k2 d1 f1;go_wp2_with fail;go_ret;refine ⟨rfl,⟨_,_,_,_,_,_,zb HX,fun k q hk=>?_,by omega,by simp;omega,by omega⟩,(zb HX).c 0 _ rfl,zb HK⟩;by_cases e:k<fs.length
  ·rw [qh e] at hk;rw [if_neg (by omega)];exact hu k q hk
  ·rw [jj (by omega)] at hk;obtain rfl:k=fs.length:=(by have:=(yd.1 hk).1;simp at this;omega);simp at hk;subst hk;exact if_pos rfl
theorem asksF_no (b gx gy:Nat)(p f n:Int)(s:ByteArray)(lv nv sv:Value)(w:World)(hn:n<2\/64<n) :
  Calls prog 33 #[.pointer (some ⟨b,0,none⟩),.agg #[.pointer (some ⟨gx,0,none⟩),.pointer (some ⟨gy,0,none⟩)],opV 4 p f n s lv nv sv] w fun e w'=>e = .returned (.bool true)/\Q8 w w':=by
 have HN:=zc (fun w=>zhq gx n w hn);unfold opV;by_cases h:n<2
 ·have hd:decide (n<2)=true:=decide_eq_true h;clear hn h;go_enter func33,ntmps33;go_wp2_with (go_at_call 20;refine Q7 (zb HN _) ?_);go_ret;exact ⟨rfl,((ze.refl _ _).alloc _).alloc _⟩
 ·have hd:decide (n<2)=false:=decide_eq_false h;have h2:64<n:=by omega
  clear hn;go_enter func33,ntmps33;go_wp2_with (go_at_call 20;refine Q7 (zb HN _) ?_);go_ret;exact ⟨rfl,((ze.refl _ _).alloc _).alloc _⟩
theorem asksF {gx gy n0:Nat}(p f n:Int)(s:ByteArray)(lv nv sv:Value)(h:FoR wi w ow ps fs vs us R)(hu:∀ k q,fs[k]?=some q->us k=q.used)(hP:∃ pb F t W cs ts v A,PatF w ow gx gy pb F t W cs ts v A)(hT:TabAt w)(hn:n0<1172812402961)(l1:ps.length<=n0)(l2:fs.length<=n0)(l3:vs.length<=n0) :
  Calls prog 33 #[.pointer (some ⟨wi.heap.size,0,none⟩),.agg #[.pointer (some ⟨gx,0,none⟩),.pointer (some ⟨gy,0,none⟩)],opV 4 p f n s lv nv sv] w fun e w'=>e = .returned (.bool true)/\FoS wi w' (n0+1)/\w'.cell? ⟨wi.heap.size,0,none⟩=some (R 0)/\ze (fun i=>i=wi.heap.size\/(R 1).ownBlock=some i) w w':=by
 by_cases hr:2<=n/\n<=64
 ·obtain ⟨m,rfl⟩:∃ m:Nat,n=m:=⟨n.toNat,by omega⟩
  exact zhr p f s lv nv sv h hu hP hT (by omega) (by omega) hn l1 l2 l3
 ·refine (asksF_no wi.heap.size gx gy p f n s lv nv sv w (by omega)).mono ?_;rintro e w' ⟨rfl,hO⟩;exact ⟨rfl,⟨_,_,_,_,_,_,h.keep0 hO,hu,by omega,by omega,by omega⟩,(h.keep0 hO).c 0 _ rfl,hO.mono (fun _ _ f=>f.elim)⟩
end
end
end Go.Proofs.YtcgleficedipkaaGreatDoor
