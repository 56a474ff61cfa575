/- The reference's characters: which a part, a token takes. -/
import Derived.Test.YtcgleficedipkaaGreatDoorYRefWRefY
import Derived.Deep.RegionHeld3
import Derived.Deep.OwnRows
import Derived.Test.YtcgleficedipkaaGreatDoorYEqJEqM
import Derived.Deep.CutBlock
namespace Go.Proofs.YtcgleficedipkaaGreatDoor
open _root_.Go.Proofs.Tryz
variable (c:Int)(sa sb:Value)(xs ys:List Bool){w w':World}{sv:Value}{l:List (Int×Int)}{f F g off cap k:Nat}(n i:Nat){bs zs:List Bool}
section
open Go.RowKit
set_option maxHeartbeats 800000
def PairRow (w:World)(sv:Value)(l:List (Int×Int)):Prop:=
 (sv = .slice none 0 0/\l=[])\/∃ g cap,sv = .slice (some ⟨g,0,none⟩) l.length cap/\l.length<=cap/\g<w.heap.size/\∀ (j:Nat) p,l[j]?=some p->w.cell? ⟨g,j*2,none⟩=some (.int .i64 p.1)/\w.cell? ⟨g,j*2+1,none⟩=some (.int .i64 p.2)
theorem PairRow.keep (h:PairRow w sv l)(k:Q8 w w'):PairRow w' sv l:=by
 rcases h with h |⟨g,cap,h1,h2,h3,h4⟩
 ·exact .inl h
 ·exact .inr ⟨g,cap,h1,h2,yh h3 k.size,fun j p hj=>⟨zg k _ _ (h4 j p hj).1 (fun f=>f),zg k _ _ (h4 j p hj).2 (fun f=>f)⟩⟩
theorem zfj:∀ (l:List (Int×Int)) (j:Nat) (p:Int×Int),l[j]?=some p->(spanCells l)[j*2]?=some (.int .i64 p.1)/\(spanCells l)[j*2+1]?=some (.int .i64 p.2)
 | [],j,p,h=>by simp at h
 |x :: r,0,p,h=>by
  obtain ⟨a,b⟩:=x;simp at h;subst h;exact ⟨rfl,rfl⟩
 |x :: r,j+1,p,h=>by
  obtain ⟨a,b⟩:=x;have:=zfj r j p (by simpa using h);have e1:(j+1)*2=(j*2)+2:=by omega
  have e2:(j+1)*2+1=(j*2+1)+2:=by omega
  rw [e2,e1];simp only [spanCells,List.getElem?_cons_succ];exact this
theorem PairRow.of {base:Nat}{T:TypeId}{sv:Value}{l:List (Int×Int)}(h:w.ownsRow base T 2 sv l.length (spanCells l)):PairRow w sv l:=by
 have hl:=zh h;have hc:=@World.ownsRow.cells w base T 2 sv l.length (spanCells l) h;rcases h.2 with ⟨rfl,h0⟩ |⟨g,cap,cur,rfl,hb,hg,hn,_⟩
 ·exact .inl ⟨rfl,qg h0⟩
 ·refine .inr ⟨g,cap,rfl,hn,(hl g rfl).2,fun j p hj=>?_⟩;have e:∀ k,(⟨g,0,none⟩:Addr).add k=⟨g,k,none⟩:=fun k=>by unfold Addr.add;split<;>simp_all
  obtain ⟨s1,s2⟩:=zfj l j p hj;have c1:=hc (g:=g) rfl _ _ s1;have c2:=hc (g:=g) rfl _ _ s2;rw [e] at c1 c2;exact ⟨c1,c2⟩
namespace Eqv
theorem inSp_yes {c:Int}{n:Nat}{p:Int×Int}(h:l[n]?=some p)(h1:p.1<=c)(h2:c<=p.2):inSp l c=true:=by
 unfold inSp;rw [List.any_eq_true];exact ⟨p,xP h,by simp [h1,h2]⟩
theorem inSp_no {c:Int}(h:∀ (n:Nat) p,n<l.length->l[n]?=some p->¬(p.1<=c/\c<=p.2)):inSp l c=false:=by
 unfold inSp;rw [List.any_eq_false];intro p hp;obtain ⟨n,hn,e⟩:=X4 hp;have:=h n p hn (by rw [zD hn,e]);simpa using this
end Eqv
theorem in_any (neg:Bool)(sv:Value)(l:List (Int×Int))(c:Int)(w:World)(h:PairRow w sv l)(hl:l.length<=1000) :
  Calls prog 250 #[.agg #[.bool neg,sv],.int .i64 c] w fun x w'=>x = .returned (.bool (Eqv.inPt ⟨neg,l⟩ c))/\Q8 w w':=by
 have hO:Q8 w (w.alloc (.cells #[.bool neg,sv] 336)):=(ze.refl _ _).alloc _;have HW:=zc (h.keep hO);have HO:=zc hO;clear h hO;obtain ⟨pa,pn,pc,rfl⟩:∃ pa pn pc,sv = .slice pa pn pc:=by rcases (zb HW) with ⟨h1,_⟩ |⟨g,cap,h1,_⟩<;>exact ⟨_,_,_,h1⟩
 have hpn:pn=l.length:=by rcases (zb HW) with ⟨h1,h2⟩ |⟨g,cap,h1,_⟩<;>simp at h1<;>simp [*]
 subst hpn;go_enter func250,ntmps250;go_wp2_with fail
 go_loop [5] (fun k=>∃ n:Nat,k = .int .i64 n/\n<=l.length/\Hid (∀ (j:Nat) p,j<n->l[j]?=some p->¬(p.1<=c/\c<=p.2))) (fun k=>l.length-(intOf k).toNat)
 case atStart=>exact ⟨0,rfl,by omega,fun j p hj=>by omega⟩
 case round=>
  obtain ⟨n,rfl,hn,HN⟩:=hrel;by_cases hlt:n<l.length
  ·have hW:=zb HW;obtain ⟨g,cap,hsv,hcap,hg,hcells⟩:∃ g cap,pa=some ⟨g,0,none⟩/\l.length<=pc/\g<cap/\∀ (j:Nat) p,l[j]?=some p->(w.alloc (.cells #[.bool neg,.slice pa l.length pc] 336)).cell? ⟨g,j*2,none⟩=some (.int .i64 p.1)/\(w.alloc (.cells #[.bool neg,.slice pa l.length pc] 336)).cell? ⟨g,j*2+1,none⟩=some (.int .i64 p.2):=by
    rcases hW with ⟨_,h2⟩ |⟨g,cap,h1,h2,h3,h4⟩
    ·rw [h2] at hlt;simp at hlt
    ·simp at h1;exact ⟨g,_,h1.1,by omega,h3,h4⟩
   subst hsv;obtain ⟨c1,c2⟩:=hcells n l[n] (zD hlt);clear hcells hW;have hstep:l[n].1<=c/\c<=l[n].2->Hid (Eqv.inSp l c=true):=fun hh=>Eqv.inSp_yes (zD hlt) hh.1 hh.2;have HN1:¬(l[n].1<=c/\c<=l[n].2)->Hid (∀ (j:Nat) p,j<n+1->l[j]?=some p->¬(p.1<=c/\c<=p.2)):=fun hh j p hj hp=>by
    by_cases e:j<n
    ·exact zb HN j p e hp
    ·obtain rfl:j=n:=(by omega);rw [zD hlt] at hp;obtain rfl:=qu hp;exact hh
   generalize l[n].1=lo at *;generalize l[n].2=hi at *;by_cases h1:lo<=c
   ·by_cases h2:c<=hi
    ·have hs:=zc (hstep ⟨h1,h2⟩);clear hstep HN1;go_wp2_with fail;go_ret;refine ⟨?_,zb HO⟩;unfold Eqv.inPt;rw [zb (zb hs)];cases neg<;>rfl
    ·have hs:=zc (HN1 (fun hh=>h2 hh.2));clear hstep HN1;go_wp2_with fail;go_round
     case rel=>exact ⟨n+1,by go_num,by omega,zb hs⟩
     case measure=>simp [intOf];omega
   ·have hs:=zc (HN1 (fun hh=>h1 hh.1));clear hstep HN1;go_wp2_with fail;go_round
    case rel=>exact ⟨n+1,by go_num,by omega,zb hs⟩
    case measure=>simp [intOf];omega
  ·go_wp2_with fail;go_ret;refine ⟨?_,zb HO⟩;unfold Eqv.inPt;rw [Eqv.inSp_no (fun j p hj=>zb HN j p (by omega))];cases neg<;>rfl
set_option maxHeartbeats 1600000
set_option maxRecDepth 100000
def PtRow (w:World)(sv:Value)(ps:List Pt):Prop:=
 (sv = .slice none 0 0/\ps=[])\/∃ g cap,sv = .slice (some ⟨g,0,none⟩) ps.length cap/\ps.length<=cap/\g<w.heap.size/\∀ (j:Nat) p,ps[j]?=some p->∃ pa pn pc,w.cell? ⟨g,j*2,none⟩=some (.bool p.neg)/\w.cell? ⟨g,j*2+1,none⟩=some (.slice pa pn pc)/\PairRow w (.slice pa pn pc) p.spans
theorem PtRow.keep {w w':World}{sv:Value}{l:List Pt}(h:PtRow w sv l)(k:Q8 w w'):PtRow w' sv l:=by
 rcases h with h |⟨g,cap,h1,h2,h3,h4⟩
 ·exact .inl h
 ·refine .inr ⟨g,cap,h1,h2,yh h3 k.size,fun j p hj=>?_⟩;obtain ⟨pa,pn,pc,a1,a2,a3⟩:=h4 j p hj;exact ⟨pa,pn,pc,zg k _ _ a1 (fun f=>f),zg k _ _ a2 (fun f=>f),a3.keep k⟩
namespace Eqv
theorem zhC {l:List Pt}{c:Int}{n:Nat}{p:Pt}(h:l[n]?=some p)(h1:inPt p c=true):anyPt l c=true:=by
 unfold anyPt;rw [List.any_eq_true];exact ⟨p,xP h,h1⟩
theorem anyPt_no {l:List Pt}{c:Int}(h:∀ (n:Nat) p,n<l.length->l[n]?=some p->inPt p c=false):anyPt l c=false:=by
 unfold anyPt;rw [List.any_eq_false];intro p hp;obtain ⟨n,hn,e⟩:=X4 hp;have:=h n p hn (by rw [zD hn,e]);simp [this]
end Eqv
def tokV (t:Tok)(pv:Value):Value:=.agg #[.int .i64 t.kind,.bool t.neg,pv,.int .i64 t.c,.int .i64 t.mn,.int .i64 t.mx]
theorem zhD (t:Tok)(sv:Value)(c:Int)(w:World)(h:PtRow w sv t.parts)(hl:t.parts.length<=1000)(hs:∀ p∈t.parts,p.spans.length<=10) :
  Calls prog 220 #[tokV t sv,.int .i64 c] w fun x w'=>x = .returned (.bool (Eqv.tkTok t c))/\Q8 w w':=by
 unfold tokV;have hO:Q8 w (w.alloc (.cells #[.int .i64 t.kind,.bool t.neg,sv,.int .i64 t.c,.int .i64 t.mn,.int .i64 t.mx] 308)):=(ze.refl _ _).alloc _;have HW:=zc (h.keep hO);have HO:=zc hO;have hcb:(w.alloc (.cells #[.int .i64 t.kind,.bool t.neg,sv,.int .i64 t.c,.int .i64 t.mn,.int .i64 t.mx] 308)).cell? ⟨w.heap.size,1,none⟩=some (.bool t.neg):=zm w _ rfl _ _ 1 _ rfl;have hcp:(w.alloc (.cells #[.int .i64 t.kind,.bool t.neg,sv,.int .i64 t.c,.int .i64 t.mn,.int .i64 t.mx] 308)).cell? ⟨w.heap.size,2,none⟩=some sv:=zm w _ rfl _ _ 2 _ rfl;clear h hO;obtain ⟨pa,pn,pc,rfl⟩:∃ pa pn pc,sv = .slice pa pn pc:=by rcases (zb HW) with ⟨h1,_⟩ |⟨g,cap,h1,_⟩<;>exact ⟨_,_,_,h1⟩
 have hpn:pn=t.parts.length:=by rcases (zb HW) with ⟨h1,h2⟩ |⟨g,cap,h1,_⟩<;>simp at h1<;>simp [*]
 subst hpn;have HS:=zc hs;clear hs;go_enter func220,ntmps220;go_wp2_with fail;generalize w.alloc (.cells #[.int .i64 t.kind,.bool t.neg,.slice pa t.parts.length pc,.int .i64 t.c,.int .i64 t.mn,.int .i64 t.mx] 308)=W at *;go_loopw [5] (fun k wr=>∃ n:Nat,k = .int .i64 n/\n<=t.parts.length/\Hid (Q8 W wr)/\Hid (∀ (j:Nat) p,j<n->t.parts[j]?=some p->Eqv.inPt p c=false)) (fun k _=>t.parts.length-(intOf k).toNat)
 case atStart=>exact ⟨0,rfl,by omega,ze.refl _ _,fun j p hj=>by omega⟩
 case round=>
  obtain ⟨n,rfl,hn,HK,HN⟩:=hrel;have k1:=zg (zb HK) _ _ hcb (fun f=>f);have k2:=zg (zb HK) _ _ hcp (fun f=>f);by_cases hlt:n<t.parts.length
  ·have hW:=(zb HW).keep (zb HK);obtain ⟨g,hsv,hcap,pa1,pn1,pc1,c1,c2,hpr⟩:∃ g,pa=some ⟨g,0,none⟩/\t.parts.length<=pc/\∃ pa1 pn1 pc1,wr.cell? ⟨g,n*2,none⟩=some (.bool t.parts[n].neg)/\wr.cell? ⟨g,n*2+1,none⟩=some (.slice pa1 pn1 pc1)/\PairRow wr (.slice pa1 pn1 pc1) t.parts[n].spans:=by
    rcases hW with ⟨_,h2⟩ |⟨g,cap,h1,h2,h3,h4⟩
    ·rw [h2] at hlt;simp at hlt
    ·simp at h1;obtain ⟨a1,a2,a3,a4,a5,a6⟩:=h4 n t.parts[n] (zD hlt);exact ⟨g,h1.1,by omega,a1,a2,a3,a4,a5,a6⟩
   subst hsv;have HP:=zc hpr;clear hpr hW;have hsp:=zb HS t.parts[n] (jG hlt);have hget:t.parts[n]?=some t.parts[n]:=zD hlt;generalize t.parts[n]=p at *;cases hin:Eqv.inPt p c
   ·have HN1:Hid (∀ (j:Nat) p,j<n+1->t.parts[j]?=some p->Eqv.inPt p c=false):=fun j q hj hq=>by
     by_cases e:j<n
     ·exact zb HN j q e hq
     ·obtain rfl:j=n:=(by omega);rw [hget] at hq;obtain rfl:=qu hq;exact hin
    clear hget;go_wp2_with (go_at_call 250;refine (in_any p.neg _ p.spans c _ (zb HP) (by omega)).mono ?_;rintro e w2 ⟨rfl,hO2⟩;have hin2:Eqv.inPt ⟨p.neg,p.spans⟩ c=false:=hin;rw [hin2];have HO2:=zc hO2;clear hO2 hin2);go_round
    case rel=>exact ⟨n+1,by go_num,by omega,(zb HK).trans (zb HO2),HN1⟩
    case measure=>simp [intOf];omega
   ·have HY:=zc (Eqv.zhC hget hin);clear hget;have hk:∀ w2,Q8 wr w2->w2.cell? ⟨w.heap.size,1,none⟩=some (.bool t.neg):=fun w2 h2=>zg h2 _ _ k1 (fun f=>f);have HK1:=zc hk;clear hk;go_wp2_with (go_at_call 250;refine (in_any p.neg _ p.spans c _ (zb HP) (by omega)).mono ?_;rintro e w2 ⟨rfl,hO2⟩;have hin2:Eqv.inPt ⟨p.neg,p.spans⟩ c=true:=hin;rw [hin2];have k3:=zb HK1 w2 hO2;have HO2:=zc hO2;clear hO2 hin2);go_ret;refine ⟨?_,((zb HO).trans (zb HK)).trans (zb HO2)⟩;unfold Eqv.tkTok;rw [zb HY];cases t.neg<;>rfl
  ·go_wp2_with fail;go_ret;refine ⟨?_,(zb HO).trans (zb HK)⟩;unfold Eqv.tkTok;rw [Eqv.anyPt_no (fun j p hj=>zb HN j p (by omega))];cases t.neg<;>rfl
theorem zg4 (w:World) :
  Calls prog 249 #[.int .i64 c] w fun x w'=>x = .returned (.bool (Eqv.inSp Ref.vL c))/\Q8 w w':=by
 go_enter func249,ntmps249;go_wp2_with (first
  |(go_at_call 216;refine (zgg _).mono ?_;rintro e w1 ⟨rfl,hS1,hO1⟩;have HS1:=zc hS1;have HO1:=zc hO1;clear hS1 hO1)
  |(go_at_call 250;refine (in_any false _ [(48,57),(65,90),(95,95),(97,122)] c _ (PairRow.of (zb HS1)) (by decide)).mono ?_;rintro e w2 ⟨rfl,hO2⟩))
 go_ret;exact ⟨by rw [Eqv.inPt_pos];rfl,(zb HO1).trans hO2⟩
namespace Ref
def chAt (l:List (Int×Int))(k:Nat):Int:=match l[k]? with
 |some p=>p.1
 |none=>-1
def chBe (l:List (Int×Int))(k:Nat):Int:=if 0<k then chAt l (k-1) else -1
theorem chAt_in (h:k<l.length):chAt l k=l[k].1:=by unfold chAt;rw [zD h]
theorem chAt_out (h:l.length<=k):chAt l k = -1:=by unfold chAt;rw [jF h]
def asB (sign:Int)(l:List (Int×Int))(i:Nat):Bool:=
 if sign=94 then decide (chBe l i<0)
 else if sign=36 then decide (chAt l i<0)
 else if sign=98 then (Eqv.inSp vL (chBe l i) != Eqv.inSp vL (chAt l i))
 else (Eqv.inSp vL (chBe l i) == Eqv.inSp vL (chAt l i))
end Ref
theorem PairRow.at {w:World}{sv:Value}{l:List (Int×Int)}(h:PairRow w sv l){k:Nat}(hk:k<l.length):∃ g cap,sv = .slice (some ⟨g,0,none⟩) l.length cap/\l.length<=cap/\w.cell? ⟨g,k*2,none⟩=some (.int .i64 (Ref.chAt l k)):=by
 rcases h with ⟨_,h⟩ |⟨g,cap,h1,h2,_,h4⟩
 ·rw [h] at hk;simp at hk
 ·exact ⟨g,cap,h1,h2,by rw [Ref.chAt_in hk];exact (h4 k l[k] (zD hk)).1⟩
theorem PairRow.len (h:PairRow w sv l):∃ pa pc,sv = .slice pa l.length pc:=by
 rcases h with ⟨h,h0⟩ |⟨g,cap,h,_⟩
 ·exact ⟨none,0,by rw [h,h0];rfl⟩
 ·exact ⟨_,_,h⟩
variable (sv l)
theorem zg5 (w:World)(h:PairRow w sv l)(hl:l.length<=1000)(hi:i<=l.length) :
  Calls prog 248 #[sv,.int .i64 i] w fun x w'=>x = .returned (.tuple #[.int .i64 (Ref.chBe l i),.int .i64 (Ref.chAt l i)])/\w'=w:=by
 by_cases h0:0<i
 ·obtain ⟨g,cap,rfl,hcap,hc⟩:=h.at (k:=i-1) (by omega)
  have HB:Hid (Ref.chBe l i=Ref.chAt l (i-1)):=by unfold Ref.chBe;rw [if_pos h0];rfl
  obtain ⟨j,rfl⟩:∃ j,i=j+1:=⟨i-1,by omega⟩
  simp only [Nat.add_sub_cancel] at hc HB;by_cases h1:j+1<l.length
  ·obtain ⟨g',cap',e,_,hc2⟩:=h.at h1;simp at e;obtain ⟨rfl,_⟩:=e;clear h;go_enter func248,ntmps248;go_wp2_with fail;go_ret2;rw [zb HB];exact ⟨rfl,rfl⟩
  ·have HA:Hid (Ref.chAt l (j+1) = -1):=Ref.chAt_out (by omega);clear h;go_enter func248,ntmps248;go_wp2_with fail;go_ret2;rw [zb HB,zb HA];exact ⟨rfl,rfl⟩
 ·obtain rfl:i=0:=by omega
  have HB:Hid (Ref.chBe l 0 = -1):=rfl;by_cases h1:0<l.length
  ·obtain ⟨g',cap',rfl,hcap,hc2⟩:=h.at h1;simp only [Qk] at hc2;clear h h0;go_enter func248,ntmps248;go_wp2_with fail;go_ret2;rw [zb HB];exact ⟨rfl,rfl⟩
  ·have HA:Hid (Ref.chAt l 0 = -1):=Ref.chAt_out (by omega);obtain ⟨pa,pc,rfl⟩:=h.len;clear h h0;go_enter func248,ntmps248;go_wp2_with fail;go_ret2;rw [zb HB,zb HA];exact ⟨rfl,rfl⟩
theorem zgs (w:World)(h:PairRow w sv l)(hl:l.length<=1000)(hi:i<=l.length) :
  Calls prog 219 #[.int .i64 c,sv,.int .i64 i] w fun x w'=>x = .returned (.bool (Ref.asB c l i))/\Q8 w w':=by
 have HB:=zc (zg5 sv l i w h hl hi);have HA:Hid (Ref.asB c l i=if c=94 then decide (Ref.chBe l i<0) else if c=36 then decide (Ref.chAt l i<0) else if c=98 then (Eqv.inSp Ref.vL (Ref.chBe l i) != Eqv.inSp Ref.vL (Ref.chAt l i)) else (Eqv.inSp Ref.vL (Ref.chBe l i) == Eqv.inSp Ref.vL (Ref.chAt l i))):=rfl;clear h;generalize Ref.chBe l i=x at *;generalize Ref.chAt l i=y at *;generalize Ref.asB c l i=r at *;have hc:(c == 94)=true\/((c == 94)=false/\(c == 36)=true)\/((c == 94)=false/\(c == 36)=false/\(c == 98)=true)\/((c == 94)=false/\(c == 36)=false/\(c == 98)=false):=by
  cases (c == 94)<;>cases (c == 36)<;>cases (c == 98)<;>simp
 rcases hc with k1 |⟨k1,k2⟩ |⟨k1,k2,k3⟩ |⟨k1,k2,k3⟩
 all_goals
  go_enter func219,ntmps219;go_wp2_with (first
   |(go_at_call 248;refine Q7 (zb HB) ?_)
   |(go_at_call 249;refine (zg4 _ _).mono ?_;rintro e wn ⟨rfl,hOn⟩;first |(have HO1:=(zb HO1).trans hOn;clear hOn) |(have HO1:Hid (Q8 w wn):=hOn;clear hOn)))
  go_ret;refine ⟨?_,zb HO1⟩;rw [zb HA]
 ·rw [if_pos (by simpa using k1)];rfl
 ·rw [if_neg (by simpa using k1),if_pos (by simpa using k2)];rfl
 ·rw [if_neg (by simpa using k1),if_neg (by simpa using k2),if_pos (by simpa using k3)];rfl
 ·rw [if_neg (by simpa using k1),if_neg (by simpa using k2),if_neg (by simpa using k3)];rfl
def BoolRow (w:World)(sv:Value)(bs:List Bool):Prop:=
 ∃ g cap,sv = .slice (some ⟨g,0,none⟩) bs.length cap/\bs.length<=cap/\g<w.heap.size/\∀ (j:Nat) b,bs[j]?=some b->w.cell? ⟨g,j,none⟩=some (.bool b)
theorem BoolRow.keep {sv:Value}{l:List Bool}(h:BoolRow w sv l)(k:Q8 w w'):BoolRow w' sv l:=by
 obtain ⟨g,cap,h1,h2,h3,h4⟩:=h;exact ⟨g,cap,h1,h2,yh h3 k.size,fun j b hj=>zg k _ _ (h4 j b hj) (fun f=>f)⟩
structure xQ (w:World)(g:Nat)(bs:List Bool):Prop where
 c:∀ (j:Nat) b,bs[j]?=some b->w.cell? ⟨g,j,none⟩=some (.bool b)
 f:∀ (j:Nat) b,bs[j]?=some b->w.frozen? ⟨g,j,none⟩=false
theorem xQ.keep {P:Nat->Prop}{w w':World}{g:Nat}{bs:List Bool}(h:xQ w g bs)(k:ze P w w')(hn:¬P g):xQ w' g bs:=
 ⟨fun j b hj=>zg k _ _ (h.c j b hj) hn,fun j b hj=>zP k _ (zE w _ (h.c j b hj)) (h.f j b hj) hn⟩
theorem xQ.set (h:xQ w g bs)(i:Nat)(v:Bool):xQ (w.setCell ⟨g,i,none⟩ (.bool v)) g (bs.set i v):=by
 refine ⟨fun j b hj=>?_,fun j b hj=>?_⟩
 ·by_cases e:i=j
  ·subst e;have hl:i<bs.length:=(by have:=(yd.1 hj).1;simpa using this);rw [YE hl] at hj;obtain rfl:=qu hj;exact yY _ _ _ (h.c i bs[i] (zD hl))
  ·rw [Z0 e] at hj;exact (zF _ _ _ _ (by intro hh;exact e (by have:=congrArg Addr.off hh;simpa using this))).trans (h.c j b hj)
 ·rw [zk];by_cases e:i=j
  ·subst e;have hl:i<bs.length:=(by have:=(yd.1 hj).1;simpa using this);exact h.f i bs[i] (zD hl)
  ·rw [Z0 e] at hj;exact h.f j b hj
theorem xQ.row (h:xQ w g bs)(hg:g<w.heap.size){cap:Nat}(hc:bs.length<=cap):BoolRow w (.slice (some ⟨g,0,none⟩) bs.length cap) bs:=⟨g,cap,rfl,hc,hg,h.c⟩
theorem ze.laterB {P:Nat->Prop}{a b c:World}(h:Q8 a b)(k:ze P b c)(hP:∀ i,P i->a.heap.size<=i):Q8 a c:=
 ⟨k.os.trans h.os,k.tape.trans h.tape,k.output.trans h.output,yZ h.size k.size,fun i hi hn=>(k.block i (yh hi h.size) (fun hp=>by have:=hP i hp;omega)).trans (h.block i hi hn)⟩
theorem Tryz.infoBool:(prog.info? 4).map (fun i=>(i.zero,i.size,i.bytes))=some (some (.bool false),1,1):=by kernel_rfl
theorem jt (hn:n<=1000)(w:World):(Instr.makeSlice 186 (.int .i64 (n:Int)) (.int .i64 (n:Int))).run prog w = .ok (.slice (some ⟨w.heap.size,0,none⟩) n n) (w.alloc (.cells (madeCells #[.bool false] n) 4)):=
 run_make_row' 186 4 (.bool false) 1 underlying186 Tryz.infoBool rfl .i64 .i64 n (by omega) (by omega) w
theorem made_get (j:Nat)(h:j<n):(madeCells #[.bool false] n)[j]?=some (.bool false):=by
 unfold madeCells;simp [h,Nat.mod_one]
variable (w)
theorem xQ.made:xQ (w.alloc (.cells (madeCells #[.bool false] n) 4)) w.heap.size (List.replicate n false):=by
 refine ⟨fun j b hj=>?_,fun j b hj=>zG w _ rfl _ _ j⟩;have hl:=(yd.1 hj).1;simp at hl;rw [kh,if_pos hl] at hj;obtain rfl:=qu hj;exact zm w _ rfl _ _ j _ (made_get n j hl)
theorem zeI (ha:BoolRow w sa xs)(hb:BoolRow w sb ys)(he:ys.length=xs.length)(hl:xs.length<=1000) :
  Calls prog 154 #[sa,sb] w fun x w'=>∃ sv,x = .returned sv/\BoolRow w' sv (List.zipWith (· || ·) xs ys)/\Q8 w w':=by
 obtain ⟨ga,ca,rfl,hca,hga,hac⟩:=ha;obtain ⟨gb,cb,rfl,hcb,hgb,hbc⟩:=hb;have hmk:=jt xs.length hl;have HA:=zc hac;have HB:=zc hbc;have HM:=zc (xQ.made w xs.length);clear hac hbc;go_enter func154,ntmps154;go_wp2_with fail;clear hmk;have hO0:Q8 w (w.alloc (.cells (madeCells #[.bool false] xs.length) 4)):=(ze.refl _ _).alloc _;have hs0:w.heap.size<(w.alloc (.cells (madeCells #[.bool false] xs.length) 4)).heap.size:=by simp
 have HO0:=zc hO0;clear hO0;generalize w.alloc (.cells (madeCells #[.bool false] xs.length) 4)=W at *;generalize hG:w.heap.size=G at *;go_loopw [6] (fun k wr=>∃ n:Nat,k = .int .i64 n/\n<=xs.length/\Hid (ze (fun g=>g=G) W wr)/\Hid (xQ wr G ((List.zipWith (· || ·) xs ys).take n++List.replicate (xs.length-n) false))) (fun k _=>xs.length-(intOf k).toNat)
 case atStart=>exact ⟨0,rfl,by omega,ze.refl _ _,by simpa using HM⟩
 case round=>
  obtain ⟨n,rfl,hn,HK,HB1⟩:=hrel;have hK:ze (fun g=>g=G) w wr:=((zb HO0).mono (fun _ _ f=>f.elim)).trans (zb HK);by_cases hlt:n<xs.length
  ·have hlt2:n<ys.length:=(by omega);have hzl:(List.zipWith (· || ·) xs ys).length=xs.length:=(by simp [he]);have c1:=zg hK _ _ (zb HA n xs[n] (zD hlt)) (fun e=>by have:ga=G:=e;omega);have c2:=zg hK _ _ (zb HB n ys[n] (zD hlt2)) (fun e=>by have:gb=G:=e;omega);have hz:(List.zipWith (· || ·) xs ys)[n]?=some (xs[n] ||ys[n]):=(by rw [List.getElem?_zipWith,zD hlt,zD hlt2]);have hset:Hid (((List.zipWith (· || ·) xs ys).take n++List.replicate (xs.length-n) false).set n (xs[n] ||ys[n])=(List.zipWith (· || ·) xs ys).take (n+1)++List.replicate (xs.length-(n+1)) false):=by
    have e1:((List.zipWith (· || ·) xs ys).take n).length=n:=(by rw [ZN,hzl];omega);show _=_;rw [Xz _ _ (by omega),e1,Xg,vG,hz];rw [show xs.length-n=(xs.length-(n+1))+1 by omega,List.replicate_succ];simp
   have hown:=zb HB1;have hcell:wr.cell? ⟨G,n,none⟩=some (.bool false):=hown.c n false (by
    rw [jj (by rw [ZN,hzl];omega),ZN,hzl,kh,if_pos (by omega)])
   have hfr:wr.frozen? ⟨G,n,none⟩=false:=hown.f n false (by
    rw [jj (by rw [ZN,hzl];omega),ZN,hzl,kh,if_pos (by omega)])
   clear hown hz;generalize xs[n]=p at *;generalize ys[n]=q at *;cases p
   all_goals
    go_wp2_with fail;go_roundw
    case rel=>exact ⟨n+1,by go_num,by omega,(zb HK).setCell (.inl rfl) _,by rw [<-zb hset];exact (zb HB1).set n _⟩
    case measure=>simp [intOf];omega
  ·obtain rfl:n=xs.length:=(by omega);go_wp2_with fail;go_ret;have hzl:(List.zipWith (· || ·) xs ys).length=xs.length:=(by simp [he]);have hown:=zb HB1;rw [Xg,List.replicate_zero,kT,vd (by omega)] at hown;refine ⟨_,rfl,?_,(zb HO0).laterB (zb HK) (fun i hi=>by omega)⟩;have:=hown.row (by have:=(zb HK).size;omega) (cap:=xs.length) (by omega)
   rwa [hzl] at this
theorem same_any (ha:BoolRow w sa xs)(hb:BoolRow w sb ys)(he:ys.length=xs.length)(hl:xs.length<=1000) :
  Calls prog 184 #[sa,sb] w fun x w'=>x = .returned (.bool (decide (xs=ys)))/\Q8 w w':=by
 obtain ⟨ga,ca,rfl,hca,hga,hac⟩:=ha;obtain ⟨gb,cb,rfl,hcb,hgb,hbc⟩:=hb;have HA:=zc hac;have HB:=zc hbc;clear hac hbc;go_enter func184,ntmps184;go_wp2_with fail;go_loopw [5] (fun k wr=>∃ n q:Nat,k = .int .i64 n/\n<=xs.length/\wr=w.drewN q/\Hid (xs.take n=ys.take n)) (fun k _=>xs.length-(intOf k).toNat)
 case atStart=>exact ⟨0,0,rfl,by omega,rfl,rfl⟩
 case round=>
  obtain ⟨n,q,rfl,hn,rfl,HT⟩:=hrel;by_cases hlt:n<xs.length
  ·have hlt2:n<ys.length:=(by omega);have c1:=zb HA n xs[n] (zD hlt);have c2:=zb HB n ys[n] (zD hlt2);have HN:Hid (xs[n]≠ys[n]->xs≠ys):=fun hh e=>hh (by subst e;rfl);have HY:Hid (xs[n]=ys[n]->xs.take (n+1)=ys.take (n+1)):=fun hh=>by
    rw [vG,vG,zb HT,zD hlt,zD hlt2,hh]
   generalize xs[n]=p at *;generalize ys[n]=r at *;cases p<;>cases r
   case' false.false=>have HT1:=zc (zb HY rfl)
   case' true.true=>have HT1:=zc (zb HY rfl)
   case' false.true=>have HNE:=zc (zb HN (by decide))
   case' true.false=>have HNE:=zc (zb HN (by decide))
   all_goals
    clear HY HN;go_wp2_with fail;go_quiet (fail);go_wp2_with fail
   all_goals (try go_ret)
   all_goals first
    |exact ⟨⟨n+1,_,by go_num,by omega,rfl,HT1⟩,by simp [intOf];omega⟩
    |exact ⟨by rw [decide_eq_false (zb HNE)];rfl,(ze.refl _ _).drewN _⟩
    |exact ⟨by rw [decide_eq_false (zb HNE)];rfl,((ze.refl _ _).drewN _).drewN _⟩
  ·obtain rfl:n=xs.length:=(by omega);go_wp2_with fail;go_ret;refine ⟨?_,(ze.refl _ _).drewN _⟩;have e:=zb HT;rw [vd (z8 _),vd (by omega)] at e;rw [decide_eq_true e];rfl
set_option maxHeartbeats 4000000
namespace Ref
def stepT (t:Tok)(l:List (Int×Int))(i j:Nat):Prop:=(t.kind=2/\j=i/\asB t.c l i=true)\/(t.kind≠2/\i<l.length/\j=i+1/\Eqv.tkTok t (chAt l i)=true)
def Img (X:Nat->Nat->Prop)(xs ys:List Bool):Prop:=ys.length=xs.length/\∀ j,ys[j]?=some true↔j<xs.length/\∃ i,xs[i]?=some true/\X i j
def ImgTo (X:Nat->Nat->Prop)(xs:List Bool)(n:Nat)(ys:List Bool):Prop:=ys.length=xs.length/\∀ j,ys[j]?=some true↔j<xs.length/\∃ i,i<n/\xs[i]?=some true/\X i j
theorem ImgTo.zero (X:Nat->Nat->Prop)(xs:List Bool):ImgTo X xs 0 (List.replicate xs.length false):=by
 refine ⟨by simp,fun j=>?_⟩;constructor
 ·intro h;rw [kh] at h;split at h<;>simp at h
 ·rintro ⟨_,i,h,_⟩;omega
theorem ImgTo.full {X:Nat->Nat->Prop}{xs ys:List Bool}{n:Nat}(h:ImgTo X xs n ys)(hn:xs.length<=n):Img X xs ys:=by
 refine ⟨h.1,fun j=>?_⟩;rw [h.2 j];constructor
 ·rintro ⟨h1,i,_,h2⟩;exact ⟨h1,i,h2⟩
 ·rintro ⟨h1,i,h2,h3⟩;exact ⟨h1,i,by have:=(yd.1 h2).1;omega,h2,h3⟩
theorem ImgTo.skip {X:Nat->Nat->Prop}{xs ys:List Bool}{n:Nat}(h:ImgTo X xs n ys)(hn:xs[n]?=some true->∀ j,j<xs.length->¬X n j):ImgTo X xs (n+1) ys:=by
 refine ⟨h.1,fun j=>?_⟩;rw [h.2 j];constructor
 ·rintro ⟨h1,i,h2,h3⟩;exact ⟨h1,i,by omega,h3⟩
 ·rintro ⟨h1,i,h2,h3,h4⟩;by_cases e:i<n
  ·exact ⟨h1,i,e,h3,h4⟩
  ·obtain rfl:i=n:=(by omega);exact absurd h4 (hn h3 j h1)
theorem ImgTo.step {X:Nat->Nat->Prop}{xs ys:List Bool}{n m:Nat}{b v:Bool}(h:ImgTo X xs n ys)(hn:xs[n]?=some true)(hm:m<xs.length)(hX:∀ j,X n j↔j=m/\b=true)(hv:v=true↔ys[m]?=some true\/b=true):ImgTo X xs (n+1) (ys.set m v):=by
 refine ⟨by rw [ve];exact h.1,fun j=>?_⟩;have hml:m<ys.length:=by rw [h.1];exact hm
 by_cases e:m=j
 ·subst e;rw [YE hml];have e1:(some v=some true)↔v=true:=by simp
  rw [e1,hv,h.2 m];constructor
  ·rintro (⟨h1,i,h2,h3⟩ |hb)
   ·exact ⟨h1,i,by omega,h3⟩
   ·exact ⟨hm,n,by omega,hn,(hX m).2 ⟨rfl,hb⟩⟩
  ·rintro ⟨h1,i,h2,h3,h4⟩;by_cases e:i<n
   ·exact .inl ⟨h1,i,e,h3,h4⟩
   ·obtain rfl:i=n:=(by omega);exact .inr ((hX m).1 h4).2
 ·rw [Z0 e,h.2 j];constructor
  ·rintro ⟨h1,i,h2,h3⟩;exact ⟨h1,i,by omega,h3⟩
  ·rintro ⟨h1,i,h2,h3,h4⟩;by_cases e2:i<n
   ·exact ⟨h1,i,e2,h3,h4⟩
   ·obtain rfl:i=n:=(by omega);exact absurd ((hX j).1 h4).1.symm e
end Ref
theorem PairRow.keepB {P:Nat->Prop}{w w':World}{sv:Value}{l:List (Int×Int)}(h:PairRow w sv l)(k:ze P w w')(hn:∀ {g},P g->¬g<w.heap.size):PairRow w' sv l:=by
 rcases h with h |⟨g,cap,h1,h2,h3,h4⟩
 ·exact .inl h
 ·exact .inr ⟨g,cap,h1,h2,yh h3 k.size,fun j p hj=>⟨zg k _ _ (h4 j p hj).1 (fun f=>hn f h3),zg k _ _ (h4 j p hj).2 (fun f=>hn f h3)⟩⟩
theorem PtRow.keepB {P:Nat->Prop}{w w':World}{sv:Value}{l:List Pt}(h:PtRow w sv l)(k:ze P w w')(hn:∀ {g},P g->¬g<w.heap.size):PtRow w' sv l:=by
 rcases h with h |⟨g,cap,h1,h2,h3,h4⟩
 ·exact .inl h
 ·refine .inr ⟨g,cap,h1,h2,yh h3 k.size,fun j p hj=>?_⟩;obtain ⟨pa,pn,pc,a1,a2,a3⟩:=h4 j p hj;exact ⟨pa,pn,pc,zg k _ _ a1 (fun f=>hn f h3),zg k _ _ a2 (fun f=>hn f h3),a3.keepB k hn⟩
theorem zg6 (t:Tok)(tv cv fv:Value)(l:List (Int×Int))(xs:List Bool)(w:World)(ht:PtRow w tv t.parts)(hc:PairRow w cv l)(hx:BoolRow w fv xs)(hl:l.length<=900)(hxl:xs.length=l.length+1)(hp:t.parts.length<=1000)(hs:∀ p∈t.parts,p.spans.length<=10) :
  Calls prog 185 #[tokV t tv,cv,fv] w fun x w'=>∃ sv ys,x = .returned sv/\BoolRow w' sv ys/\Ref.Img (Ref.stepT t l) xs ys/\Q8 w w':=by
 unfold tokV;have hx1:xs.length<=l.length+1:=by omega
 have hx2:l.length<xs.length:=by omega
 clear hxl;obtain ⟨gx,cx,rfl,hcx,hgx,hxc⟩:=hx;obtain ⟨pa,pn,pc,rfl⟩:∃ pa pn pc,tv = .slice pa pn pc:=by rcases ht with ⟨h1,_⟩ |⟨g,cap,h1,_⟩<;>exact ⟨_,_,_,h1⟩
 obtain ⟨ca,cc,rfl⟩:=hc.len;have hmk:=jt xs.length (by omega);have HX:=zc hxc;have HT:=zc ht;have HC:=zc hc;have HS:=zc hs;have HM:=zc (xQ.made (w.alloc (.cells #[.int .i64 t.kind,.bool t.neg,.slice pa pn pc,.int .i64 t.c,.int .i64 t.mn,.int .i64 t.mx] 308)) xs.length);have HO0:Hid (Q8 w ((w.alloc (.cells #[.int .i64 t.kind,.bool t.neg,.slice pa pn pc,.int .i64 t.c,.int .i64 t.mn,.int .i64 t.mx] 308)).alloc (.cells (madeCells #[.bool false] xs.length) 4))):=((ze.refl _ _).alloc _).alloc _;have q0:∀ (j:Nat) v,(#[.int .i64 t.kind,.bool t.neg,.slice pa pn pc,.int .i64 t.c,.int .i64 t.mn,.int .i64 t.mx]:Array Value)[j]?=some v->((w.alloc (.cells #[.int .i64 t.kind,.bool t.neg,.slice pa pn pc,.int .i64 t.c,.int .i64 t.mn,.int .i64 t.mx] 308)).alloc (.cells (madeCells #[.bool false] xs.length) 4)).cell? ⟨w.heap.size,j,none⟩=some v:=fun j v hj=>
  zg ((ze.refl (fun _=>False) _).alloc _) _ _ (zm w _ rfl _ _ j _ hj) (fun f=>f)
 have Q0:=zc q0;clear hxc ht hc hs q0;go_enter func185,ntmps185;go_wp2_with fail;clear hmk;have hs0:w.heap.size+1<((w.alloc (.cells #[.int .i64 t.kind,.bool t.neg,.slice pa pn pc,.int .i64 t.c,.int .i64 t.mn,.int .i64 t.mx] 308)).alloc (.cells (madeCells #[.bool false] xs.length) 4)).heap.size:=by simp
 have hsz1:(w.alloc (.cells #[.int .i64 t.kind,.bool t.neg,.slice pa pn pc,.int .i64 t.c,.int .i64 t.mn,.int .i64 t.mx] 308)).heap.size=w.heap.size+1:=by simp
 rw [hsz1] at HM;clear hsz1;generalize (w.alloc (.cells #[.int .i64 t.kind,.bool t.neg,.slice pa pn pc,.int .i64 t.c,.int .i64 t.mn,.int .i64 t.mx] 308)).alloc (.cells (madeCells #[.bool false] xs.length) 4)=W at *;go_loopw [8] (fun k wr=>∃ (n:Nat) (ys:List Bool),k = .int .i64 n/\n<=xs.length/\Hid (ze (fun g=>g=w.heap.size+1) W wr)/\Hid (xQ wr (w.heap.size+1) ys)/\Hid (Ref.ImgTo (Ref.stepT t l) xs n ys)) (fun k _=>xs.length-(intOf k).toNat)
 case atStart=>exact ⟨0,List.replicate xs.length false,rfl,by omega,ze.refl _ _,HM,Ref.ImgTo.zero _ _⟩
 case round=>
  obtain ⟨n,ys,rfl,hn,HK,HB,HI⟩:=hrel;have hK:ze (fun g=>g=w.heap.size+1) w wr:=((zb HO0).mono (fun _ _ f=>f.elim)).trans (zb HK);have hyl:=(zb HI).1;by_cases hlt:n<xs.length
  ·have c1:=zg hK _ _ (zb HX n xs[n] (zD hlt)) (fun e=>by have:gx=w.heap.size+1:=e;omega);have k0:=zg (zb HK) _ _ (zb Q0 0 _ rfl) (fun e=>by have:w.heap.size=w.heap.size+1:=e;omega);have k1:=zg (zb HK) _ _ (zb Q0 1 _ rfl) (fun e=>by have:w.heap.size=w.heap.size+1:=e;omega);have k2:=zg (zb HK) _ _ (zb Q0 2 _ rfl) (fun e=>by have:w.heap.size=w.heap.size+1:=e;omega);have k3:=zg (zb HK) _ _ (zb Q0 3 _ rfl) (fun e=>by have:w.heap.size=w.heap.size+1:=e;omega);have k4:=zg (zb HK) _ _ (zb Q0 4 _ rfl) (fun e=>by have:w.heap.size=w.heap.size+1:=e;omega);have k5:=zg (zb HK) _ _ (zb Q0 5 _ rfl) (fun e=>by have:w.heap.size=w.heap.size+1:=e;omega);have hxn:xs[n]?=some xs[n]:=zD hlt;cases hb:xs[n]
   ·rw [hb] at c1;have HI1:=zc ((zb HI).skip (fun e=>by rw [hxn,hb] at e;cases e));clear hxn hb;go_wp2_with fail;go_roundw
    case rel=>exact ⟨n+1,ys,by go_num,by omega,HK,HB,HI1⟩
    case measure=>simp [intOf];omega
   ·rw [hb] at c1 hxn;clear hb;have hG:∀ w2,Q8 wr w2->ze (fun g=>g=w.heap.size+1) W w2:=fun w2 h2=>(zb HK).trans (h2.mono (fun _ _ f=>f.elim));have HG:=zc hG;have HB2:Hid (∀ w2,Q8 wr w2->xQ w2 (w.heap.size+1) ys):=fun w2 h2=>(zb HB).keep h2 (fun f=>f);clear hG;by_cases hk2:t.kind=2
    ·have hkb:(t.kind == 2)=true:=(by simp [hk2]);have hX:Hid (∀ j,Ref.stepT t l n j↔j=n/\Ref.asB t.c l n=true):=fun j=>by
      unfold Ref.stepT;constructor
      ·rintro (⟨_,h1,h2⟩ |⟨h1,_⟩)
       ·exact ⟨h1,h2⟩
       ·exact absurd hk2 h1
      ·rintro ⟨h1,h2⟩;exact .inl ⟨hk2,h1,h2⟩
     have hyn:Hid (¬ys[n]?=some true):=fun e=>by
      obtain ⟨_,i,h1,h2,h3⟩:=((zb HI).2 n).1 e;rcases h3 with ⟨_,h4,_⟩ |⟨h4,_⟩
      ·omega
      ·exact absurd hk2 h4
     clear hk2;have hyn2:n<ys.length:=(by omega);have HF:Hid (∀ w2,Q8 wr w2->w2.cell? ⟨w.heap.size+1,n,none⟩=some (.bool ys[n])/\w2.frozen? ⟨w.heap.size+1,n,none⟩=false):=fun w2 h2=>⟨(zb HB2 w2 h2).c n _ (zD hyn2),(zb HB2 w2 h2).f n _ (zD hyn2)⟩
     go_wp2_with (go_at_call 219;refine (zgs t.c _ l n _ ((zb HC).keepB hK (fun e=>by omega)) (by omega) (by omega)).mono ?_;rintro e w2 ⟨rfl,hO2⟩;obtain ⟨z1,z2⟩:=zb HF w2 hO2;have HO2:=zc hO2;clear hO2);go_roundw
     case rel=>exact ⟨n+1,ys.set n (Ref.asB t.c l n),by go_num,by omega,(zb HG _ (zb HO2)).setCell (.inl rfl) _,(zb HB2 _ (zb HO2)).set n _,(zb HI).step hxn hlt (zb hX) ⟨fun h=>.inr h,fun h=>h.elim (fun h=>absurd h (zb hyn)) (fun h=>h)⟩⟩
     case measure=>simp [intOf];omega
    ·have hkb:(t.kind == 2)=false:=(by simp [hk2]);by_cases hnl:n<l.length
     ·obtain ⟨g',cap',hcv,hcap,hch⟩:=((zb HC).keepB hK (fun e=>by omega)).at hnl;have hca:ca=some ⟨g',0,none⟩:=(by simp at hcv;exact hcv.1);have hcc:l.length<=cc:=(by simp at hcv;omega);subst hca;clear hcv hcap;have hX:Hid (∀ j,Ref.stepT t l n j↔j=n+1/\Eqv.tkTok t (Ref.chAt l n)=true):=fun j=>by
       unfold Ref.stepT;constructor
       ·rintro (⟨h1,_⟩ |⟨_,_,h1,h2⟩)
        ·exact absurd h1 hk2
        ·exact ⟨h1,h2⟩
       ·rintro ⟨h1,h2⟩;exact .inr ⟨hk2,hnl,h1,h2⟩
      clear hk2;have hyn2:n+1<ys.length:=(by omega);have hy1:ys[n+1]?=some ys[n+1]:=zD hyn2;have HF:Hid (∀ w2,Q8 wr w2->w2.cell? ⟨w.heap.size+1,n+1,none⟩=some (.bool ys[n+1])/\w2.frozen? ⟨w.heap.size+1,n+1,none⟩=false):=fun w2 h2=>⟨(zb HB2 w2 h2).c (n+1) _ hy1,(zb HB2 w2 h2).f (n+1) _ hy1⟩
      have HV:Hid (∀ b:Bool,((ys[n+1] ||b)=true↔ys[n+1]?=some true\/b=true)):=fun b=>(by rw [hy1];simp);have HZ:Hid (∀ W',Q8 wr W'->Calls prog 220 #[.agg #[.int .i64 t.kind,.bool t.neg,.slice pa pn pc,.int .i64 t.c,.int .i64 t.mn,.int .i64 t.mx],.int .i64 (Ref.chAt l n)] W' fun x w'=>x = .returned (.bool (Eqv.tkTok t (Ref.chAt l n)))/\Q8 wr w'/\
        w'.cell? ⟨w.heap.size,0,none⟩=some (.int .i64 t.kind)/\w'.cell? ⟨w.heap.size,1,none⟩=some (.bool t.neg)/\w'.cell? ⟨w.heap.size,2,none⟩=some (.slice pa pn pc)/\w'.cell? ⟨w.heap.size,3,none⟩=some (.int .i64 t.c)/\w'.cell? ⟨w.heap.size,4,none⟩=some (.int .i64 t.mn)/\w'.cell? ⟨w.heap.size,5,none⟩=some (.int .i64 t.mx)/\w'.cell? ⟨g',n*2,none⟩=some (.int .i64 (Ref.chAt l n))):=fun W' hW'=>
       (zhD t (.slice pa pn pc) (Ref.chAt l n) W' (((zb HT).keepB hK (fun e=>by omega)).keep hW') hp (zb HS)).mono (by
        rintro e w' ⟨rfl,hO⟩;have k:=hW'.trans hO;exact ⟨rfl,k,zg k _ _ k0 (fun f=>f),zg k _ _ k1 (fun f=>f),zg k _ _ k2 (fun f=>f),zg k _ _ k3 (fun f=>f),zg k _ _ k4 (fun f=>f),zg k _ _ k5 (fun f=>f),zg k _ _ hch (fun f=>f)⟩)
      generalize ys[n+1]=y1 at *;clear hy1;go_wp2_with fail;go_region_held3 (fun w'=>w'.cell? ⟨w.heap.size,0,none⟩=some (.int .i64 t.kind)/\w'.cell? ⟨w.heap.size,1,none⟩=some (.bool t.neg)/\w'.cell? ⟨w.heap.size,2,none⟩=some (.slice pa pn pc)/\w'.cell? ⟨w.heap.size,3,none⟩=some (.int .i64 t.c)/\w'.cell? ⟨w.heap.size,4,none⟩=some (.int .i64 t.mn)/\w'.cell? ⟨w.heap.size,5,none⟩=some (.int .i64 t.mx)/\w'.cell? ⟨g',n*2,none⟩=some (.int .i64 (Ref.chAt l n))) (go_keep)
       (first |(go_at_call 220;refine (zb HZ _ ((ze.refl _ _).drewN _)).mono ?_;rintro e w2 ⟨rfl,hO2,z0,z1,z2,z3,z4,z5,z6⟩))
      obtain ⟨y2,y3⟩:=zb HF w2 hO2;have HO2:=zc hO2;clear hO2 z0 z1 z2 z3 z4 z5 z6;have hstp:=zc ((zb HI).step (v:=y1 ||Eqv.tkTok t (Ref.chAt l n)) hxn (by omega) (zb hX) (zb HV _));clear hX HV HZ;generalize Eqv.tkTok t (Ref.chAt l n)=tk at *;cases y1
      all_goals
       go_wp2_with fail;go_roundw
       case rel=>exact ⟨n+1,_,by go_num,by omega,(zb HG _ (zb HO2)).setCell (.inl rfl) _,(zb HB2 _ (zb HO2)).set (n+1) _,zb hstp⟩
       case measure=>simp [intOf];omega
     ·have HI1:=zc ((zb HI).skip (fun _ j _ h=>by
       rcases h with ⟨h,_⟩ |⟨_,h,_⟩
       ·exact hk2 h
       ·exact hnl h))
      clear hk2;go_wp2_with fail;go_roundw
      case rel=>exact ⟨n+1,ys,by go_num,by omega,HK,HB,HI1⟩
      case measure=>simp [intOf];omega
  ·go_wp2_with fail;go_ret;have:=(zb HB).row (by have:=(zb HK).size;omega) (cap:=xs.length) (by omega);rw [hyl] at this;exact ⟨_,ys,rfl,this,(zb HI).full (by omega),(zb HO0).laterB (zb HK) (fun i hi=>by omega)⟩
namespace Sm
variable {lf:Tree->Nat->Prop} {ah:Int->Nat->Prop}
theorem pow_le {R:Nat->Nat->Prop}(h:∀ i j,R i j->i<=j):∀ (k i j:Nat),pow R k i j->i<=j
 |0,i,j,e=>by rw [show i=j from e];exact z8 _
 |k+1,i,j,⟨m,h1,h2⟩=>yZ (h i m h1) (pow_le h k m j h2)
theorem Vu {X:Tree->Nat->Nat->Prop}:∀ (ts:List Tree),(∀ t∈ts,∀ i j,X t i j->i<=j)->∀ i j,q7 X ts i j->i<=j
 | [],_,i,j,e=>by rw [show i=j from e];exact z8 _
 |t :: ts,h,i,j,⟨m,h1,h2⟩=>yZ (h t (by simp) i m h1) (Vu ts (fun u hu=>h u (by simp [hu])) m j h2)
theorem M_le:∀ (f:Nat) (T:Tree) (i j:Nat),M lf ah f T i j->i<=j
 |0,_,_,_,h=>h.elim
 |f+1,T,i,j,h=>by
  unfold M at h;split at h
  ·rw [h.1];exact z8 _
  ·split at h
   ·obtain ⟨t,_,h⟩:=h;exact M_le f t i j h
   ·split at h
    ·exact Vu _ (fun t _=>M_le f t) i j h
    ·split at h
     ·obtain ⟨k,_,_,h⟩:=h;exact pow_le (M_le f _) k i j h
     ·omega
end Sm
namespace Ref
theorem Img.congr {X Y:Nat->Nat->Prop}{xs ys:List Bool}(h:Img X xs ys)(e:∀ i j,X i j↔Y i j):Img Y xs ys:=
 ⟨h.1,fun j=>by rw [h.2 j];constructor<;>rintro ⟨h1,i,h2,h3⟩<;>exact ⟨h1,i,h2,by first |exact (e i j).1 h3 |exact (e i j).2 h3⟩⟩
theorem Img.id:Img (fun i j=>i=j) xs xs:=⟨rfl,fun j=>by
 constructor
 ·intro h;exact ⟨(yd.1 h).1,j,h,rfl⟩
 ·rintro ⟨_,i,h,rfl⟩;exact h⟩
theorem Img.comp {X R:Nat->Nat->Prop}{xs ys zs:List Bool}(h:Img X xs ys)(g:Img R ys zs)(hR:∀ i j,R i j->i<=j):Img (fun i j=>∃ m,X i m/\R m j) xs zs:=by
 refine ⟨g.1.trans h.1,fun j=>?_⟩;rw [g.2 j,h.1];constructor
 ·rintro ⟨h1,p,h2,h3⟩;obtain ⟨_,i,h4,h5⟩:=(h.2 p).1 h2;exact ⟨h1,i,h4,p,h5,h3⟩
 ·rintro ⟨h1,i,h4,p,h5,h3⟩;exact ⟨h1,p,(h.2 p).2 ⟨by have:=hR p j h3;omega,i,h4,h5⟩,h3⟩
variable {ys}
theorem or_get (he:zs.length=ys.length)(j:Nat):(List.zipWith (· || ·) ys zs)[j]?=some true↔ys[j]?=some true\/zs[j]?=some true:=by
 by_cases hj:j<ys.length
 ·rw [List.getElem?_zipWith,zD hj,zD (by omega)];simp
 ·rw [jF (by simp;omega),jF (by omega),jF (by omega)];simp
theorem Img.or {X Y:Nat->Nat->Prop}{xs ys zs:List Bool}(h:Img X xs ys)(g:Img Y xs zs):Img (fun i j=>X i j\/Y i j) xs (List.zipWith (· || ·) ys zs):=by
 refine ⟨by rw [List.length_zipWith,h.1,g.1];omega,fun j=>?_⟩;rw [or_get (g.1.trans h.1.symm),h.2 j,g.2 j];constructor
 ·rintro (⟨h1,i,h2,h3⟩ |⟨h1,i,h2,h3⟩)
  ·exact ⟨h1,i,h2,.inl h3⟩
  ·exact ⟨h1,i,h2,.inr h3⟩
 ·rintro ⟨h1,i,h2,h3 |h3⟩
  ·exact .inl ⟨h1,i,h2,h3⟩
  ·exact .inr ⟨h1,i,h2,h3⟩
theorem Img.none:Img (fun _ _=>False) xs (List.replicate xs.length false):=⟨by simp,fun j=>by
 constructor
 ·intro h;rw [kh] at h;split at h<;>simp at h
 ·rintro ⟨_,_,_,h⟩;exact h.elim⟩
theorem Img.still {R:Nat->Nat->Prop}{xs ys:List Bool}{k:Nat}(hR:∀ i j,R i j->i<=j)(h:Img (Sm.pow R k) xs ys)(g:Img R ys ys):∀ m,Img (Sm.pow R (k+m)) xs ys
 |0=>h
 |m+1=>((Img.still hR h g m).comp g hR).congr (fun i j=>by
   rw [<-Qh,Sm.jz R (k+m) 1 i j];constructor
   ·rintro ⟨p,h1,h2⟩;exact ⟨p,h1,j,h2,rfl⟩
   ·rintro ⟨p,h1,q,h2,rfl⟩;exact ⟨p,h1,h2⟩)
theorem Img.pow_succ {R:Nat->Nat->Prop}{xs ys zs:List Bool}{k:Nat}(hR:∀ i j,R i j->i<=j)(h:Img (Sm.pow R k) xs ys)(g:Img R ys zs):Img (Sm.pow R (k+1)) xs zs:=
 (h.comp g hR).congr (fun i j=>by
  rw [Sm.jz R k 1 i j];constructor
  ·rintro ⟨p,h1,h2⟩;exact ⟨p,h1,j,h2,rfl⟩
  ·rintro ⟨p,h1,q,h2,rfl⟩;exact ⟨p,h1,h2⟩)
def span (R:Nat->Nat->Prop)(a b i j:Nat):Prop:=∃ k,a<=k/\k<=b/\Sm.pow R k i j
theorem Img.span_self {R:Nat->Nat->Prop}{xs ys:List Bool}{a:Nat}(h:Img (Sm.pow R a) xs ys):Img (span R a a) xs ys:=
 h.congr (fun i j=>⟨fun h=>⟨a,z8 _,z8 _,h⟩,fun h=>by
  obtain ⟨k,h1,h2,h3⟩:=h;obtain rfl:k=a:=by omega
  exact h3⟩)
theorem Img.span_succ {R:Nat->Nat->Prop}{xs ys zs:List Bool}{a b:Nat}(hab:a<=b)(hR:∀ i j,R i j->i<=j)(h:Img (span R a b) xs ys)(g:Img R ys zs):Img (span R a (b+1)) xs (List.zipWith (· || ·) ys zs):=
 (h.or (h.comp g hR)).congr (fun i j=>by
  constructor
  ·rintro (⟨k,h1,h2,h3⟩ |⟨p,⟨k,h1,h2,h3⟩,h4⟩)
   ·exact ⟨k,h1,by omega,h3⟩
   ·exact ⟨k+1,by omega,by omega,(Sm.jz R k 1 i j).2 ⟨p,h3,j,h4,rfl⟩⟩
  ·rintro ⟨k,h1,h2,h3⟩;by_cases hk:k<=b
   ·exact .inl ⟨k,h1,hk,h3⟩
   ·obtain rfl:k=b+1:=(by omega);obtain ⟨p,h4,q,h5,rfl⟩:=(Sm.jz R b 1 i j).1 h3;exact .inr ⟨p,⟨b,hab,z8 _,h4⟩,h5⟩)
theorem Img.closed {R:Nat->Nat->Prop}{xs ys zs:List Bool}{a b:Nat}(hab:a<=b)(hR:∀ i j,R i j->i<=j)(h:Img (span R a b) xs ys)(g:Img R ys zs)(e:List.zipWith (· || ·) ys zs=ys):Img (fun i j=>∃ k,a<=k/\Sm.pow R k i j) xs ys:=by
 have hsub:∀ j,zs[j]?=some true->ys[j]?=some true:=fun j hj=>by rw [<-e];exact (or_get g.1 j).2 (.inr hj)
 refine ⟨h.1,fun j=>?_⟩;constructor
 ·intro hj;obtain ⟨h1,i,h2,k,h3,_,h4⟩:=(h.2 j).1 hj;exact ⟨h1,i,h2,k,h3,h4⟩
 ·rintro ⟨h1,i,h2,k,h3,h4⟩;obtain ⟨d,rfl⟩:∃ d,k=a+d:=⟨k-a,by omega⟩
  clear h3
  induction d generalizing j with
  |zero=>exact (h.2 j).2 ⟨h1,i,h2,a,z8 _,by omega,h4⟩
  |succ d ih=>
   rw [<-Qh] at h4;obtain ⟨p,h5,q,h6,rfl⟩:=(Sm.jz R (a+d) 1 i j).1 h4;have hp:=ih p (by have:=hR p q h6;omega) h5;exact hsub q ((g.2 q).2 ⟨by rw [h.1];exact h1,p,hp,h6⟩)
def lacks (l:List Bool):Nat:=l.countP (fun b=>!b)
theorem lacks_le (he:zs.length=ys.length):lacks (List.zipWith (· || ·) ys zs)<=lacks ys/\(List.zipWith (· || ·) ys zs≠ys->lacks (List.zipWith (· || ·) ys zs)<lacks ys):=by
 induction ys generalizing zs with
 |nil=>simp [lacks]
 |cons y ys ih=>
  cases zs with
  |nil=>simp at he
  |cons z zs=>
   obtain ⟨i1,i2⟩:=ih (zs:=zs) (by simpa using he);unfold lacks at *;cases y<;>cases z<;>simp at *<;>first |(refine ⟨by omega,fun h=>?_⟩;have:=i2 h;omega) |omega |exact ⟨i1,i2⟩
end Ref
def lackN (w:World)(v:Value):Nat:=match v with
 | .slice (some a) n _=>((List.range n).filter fun j=>match w.cell? ⟨a.block,j,none⟩ with |some (.bool true)=>false |_=>true).length
 |_=>0
theorem BoolRow.lackN {w:World}{sv:Value}{bs:List Bool}(h:BoolRow w sv bs):lackN w sv=Ref.lacks bs:=by
 obtain ⟨g,cap,rfl,_,_,hc⟩:=h;unfold Go.Proofs.YtcgleficedipkaaGreatDoor.lackN Ref.lacks;simp only [];have key:∀ (k:Nat),k<=bs.length->((List.range k).filter fun j=>match w.cell? ⟨g,j,none⟩ with |some (.bool true)=>false |_=>true).length=(bs.take k).countP (fun b=>!b):=by
  intro k
  induction k with
  |zero=>intro _;simp
  |succ k ih=>
   intro hk;rw [List.range_succ,List.filter_append,yS,ih (by omega),vG,zD (by omega),List.countP_append];congr 1;have:=hc k bs[k] (zD (by omega));cases hb:bs[k]
   ·rw [hb] at this;simp [this]
   ·rw [hb] at this;simp [this]
 rw [key bs.length (z8 _),vd (z8 _)]
open Sm (Tree)
def TokFull (w:World)(g off:Nat)(l:List Tok):Prop:=∀ (j:Nat) (t:Tok),l[j]?=some t->∃ pa pn pc,
 (w.cell? ⟨g,off+j*6,none⟩=some (.int .i64 t.kind)/\w.cell? ⟨g,off+j*6+1,none⟩=some (.bool t.neg)/\w.cell? ⟨g,off+j*6+2,none⟩=some (.slice pa pn pc)/\
 w.cell? ⟨g,off+j*6+3,none⟩=some (.int .i64 t.c)/\w.cell? ⟨g,off+j*6+4,none⟩=some (.int .i64 t.mn)/\w.cell? ⟨g,off+j*6+5,none⟩=some (.int .i64 t.mx))/\PtRow w (.slice pa pn pc) t.parts
variable {w}
theorem TokFull.row {l:List Tok}(h:TokFull w g off l):TokRow w g off l:=fun j t hj=>by
 obtain ⟨pa,pn,pc,h1,_⟩:=h j t hj;exact ⟨pa,pn,pc,h1⟩
theorem TokFull.only {l:List Tok}(h:TokFull w g off l)(k:Q8 w w'):TokFull w' g off l:=fun j t hj=>by
 obtain ⟨pa,pn,pc,⟨z0,z1,z2,z3,z4,z5⟩,hp⟩:=h j t hj;exact ⟨pa,pn,pc,⟨zg k _ _ z0 (fun f=>f),zg k _ _ z1 (fun f=>f),zg k _ _ z2 (fun f=>f),zg k _ _ z3 (fun f=>f),zg k _ _ z4 (fun f=>f),zg k _ _ z5 (fun f=>f)⟩,hp.keep k⟩
theorem TokFull.sub {l:List Tok}(h:TokFull w g off l)(i m:Nat):TokFull w g (off+i*6) ((l.drop i).take m):=by
 intro j t hj;rw [Qb] at hj;split at hj
 ·rw [ZY] at hj;obtain ⟨pa,pn,pc,h0,h1⟩:=h (i+j) t hj;have e:off+i*6+j*6=off+(i+j)*6:=by omega
  rw [e];exact ⟨pa,pn,pc,h0,h1⟩
 ·cases hj
namespace Ref
def lfT (l:List (Int×Int))(T:Tree)(i:Nat):Prop:=i<l.length/\Eqv.ZM T (chAt l i)=true
def ahT (l:List (Int×Int))(a:Int)(i:Nat):Prop:=asB (Eqv.asSign a) l i=true
def MM (l:List (Int×Int))(f:Nat)(T:Tree)(i j:Nat):Prop:=Sm.M (lfT l) (ahT l) f T i j
def altR (l:List (Int×Int))(f:Nat)(kids:List Tree)(i j:Nat):Prop:=∃ t∈kids,MM l (f+1) t i j
theorem MM_le (f:Nat)(T:Tree)(i j:Nat)(h:MM l f T i j):i<=j:=Sm.M_le f T i j h
end Ref
structure Ctx (w:World)(cv fv:Value)(l:List (Int×Int))(xs:List Bool):Prop where
 c:PairRow w cv l
 f:BoolRow w fv xs
 hl:l.length<=900
 hx:xs.length=l.length+1
def Goes1 (w:World)(xs:List Bool)(X:Nat->Nat->Prop)(x:Ending)(w':World):Prop:=∃ sv ys,x = .returned sv/\BoolRow w' sv ys/\Ref.Img X xs ys/\Q8 w w'
def OneOK (f:Nat):Prop:=∀ (F g off cap:Nat) (ts:List Tok) (T:Tree) (cv fv:Value) (l:List (Int×Int)) (xs:List Bool) (w:World),3*f<=F->Eqv.zer f ts T->T.kind≠7->TokFull w g off ts->ts.length<=1000->ts.length<=cap->Ctx w cv fv l xs->
 Calls prog 156 #[.slice (some ⟨g,off,none⟩) ts.length cap,cv,fv] w (Goes1 w xs (Ref.MM l F T))
def ThrOK (f:Nat):Prop:=∀ (F g off cap:Nat) (ts:List Tok) (kids:List Tree) (cv fv:Value) (l:List (Int×Int)) (xs:List Bool) (w:World),3*f+1<=F->Eqv.TokC (Eqv.zer f) ts kids->(∀ t∈ts,Ref.TokB t)->TokFull w g off ts->ts.length<=1000->ts.length<=cap->Ctx w cv fv l xs->
 Calls prog 111 #[.slice (some ⟨g,off,none⟩) ts.length cap,cv,fv] w (Goes1 w xs (Ref.altR l F kids))
theorem one_zero:OneOK 0:=fun _ _ _ _ _ _ _ _ _ _ _ _ h=>h.elim
theorem zgf {t:Tok}{T:Tree}{cv fv:Value}{l:List (Int×Int)}{xs:List Bool}{w:World}(h3:t.kind≠3)(hX:∀ i j,Ref.stepT t l i j↔Ref.MM l F T i j)(hp:t.parts.length<=1000)(hs:∀ p∈t.parts,p.spans.length<=10)(h:TokFull w g off [t])(hC:Ctx w cv fv l xs) :
  Calls prog 156 #[.slice (some ⟨g,off,none⟩) 1 cap,cv,fv] w (Goes1 w xs (Ref.MM l F T)):=by
 obtain ⟨pa,pn,pc,⟨z0,z1,z2,z3,z4,z5⟩,hpt⟩:=h 0 t rfl;simp only [Qk,YG] at z0 z1 z2 z3 z4 z5;have h3':(t.kind == 3)=false:=by simp [h3]
 have HS:Hid (Calls prog 185 #[.agg #[.int .i64 t.kind,.bool t.neg,.slice pa pn pc,.int .i64 t.c,.int .i64 t.mn,.int .i64 t.mx],cv,fv] w (Goes1 w xs (Ref.MM l F T))):=
  (zg6 t (.slice pa pn pc) cv fv l xs w hpt hC.c hC.f hC.hl hC.hx hp hs).mono (by
   rintro e w' ⟨sv,ys,h1,h2,h3,h4⟩;exact ⟨sv,ys,h1,h2,h3.congr hX,h4⟩)
 clear hX hp hs h hC h3 hpt;go_enter func156,ntmps156;go_wp2_with (go_at_call 185;refine (zb HS).mono ?_;rintro e w' ⟨sv,ys,rfl,h2,h3,h4⟩;have H2:=zc h2;have H3:=zc h3;have H4:=zc h4;clear h2 h3 h4);go_ret;exact ⟨sv,ys,rfl,zb H2,zb H3,zb H4⟩
theorem zhE {ts us:List Tok}{o c:Tok}{T:Tree}{cv fv:Value}{l:List (Int×Int)}{xs:List Bool}{w:World}(hT:ThrOK f)(hF:3*f+1<=F)(h5:T.kind=5)(he:ts=o :: us++[c])(ho:o.kind=3)(hus:Eqv.TokC (Eqv.zer f) us T.kids)(hB:∀ t∈us,Ref.TokB t)(h:TokFull w g off ts)(hl:ts.length<=1000)(hc:ts.length<=cap)(hC:Ctx w cv fv l xs) :
  Calls prog 156 #[.slice (some ⟨g,off,none⟩) ts.length cap,cv,fv] w (Goes1 w xs (Ref.MM l (F+2) T)):=by
 have hlen:ts.length=us.length+2:=by rw [he];simp
 have hk0:Ref.wm ts 0=3:=by rw [he];exact ho
 have z0:w.cell? ⟨g,off,none⟩=some (.int .i64 3):=by
  have:=h.row.kind 0 (by omega);rw [hk0,Qk,YG] at this;exact this
 have hsub:TokFull w g (off+6) us:=by
  have:=h.sub 1 us.length;have e:(ts.drop 1).take us.length=us:=by rw [he];simp
  rw [e] at this;exact this
 have HI:=zc (zgn g off cap ts w h.row hl hc (by omega) hk0);have HS:Hid (Calls prog 111 #[.slice (some ⟨g,off+6,none⟩) (ts.length-2) (cap-1),cv,fv] w (Goes1 w xs (Ref.MM l (F+2) T))):=by
  have e:ts.length-2=us.length:=by omega
  rw [e];exact (hT F g (off+6) (cap-1) us T.kids cv fv l xs w hF hus hB hsub (by omega) (by omega) hC).mono (by
   rintro e w' ⟨sv,ys,h1,h2,h3,h4⟩;refine ⟨sv,ys,h1,h2,h3.congr (fun i j=>?_),h4⟩;unfold Ref.MM;show _↔Sm.M _ _ ((F+1)+1) T i j;unfold Sm.M;rw [if_neg (by omega),if_pos h5];rfl)
 have hl2:2<=ts.length:=by omega
 clear hT hus h hsub hC hk0 he hlen ho hB;go_enter func156,ntmps156;go_wp2_with (first
  |(go_at_call 149;refine Q7 (zb HI) ?_)
  |(go_at_call 111;refine (zb HS).mono ?_;rintro e w' ⟨sv,ys,rfl,h2,h3,h4⟩;have H2:=zc h2;have H3:=zc h3;have H4:=zc h4;clear h2 h3 h4))
 go_ret;exact ⟨sv,ys,rfl,zb H2,zb H3,zb H4⟩
theorem one_step (f:Nat)(hT:ThrOK f):OneOK (f+1):=by
 intro F g off cap ts T cv fv l xs w hF hA h7 h hl hc hC;obtain ⟨F,rfl⟩:∃ F',F=F'+2:=⟨F-2,by omega⟩
 rcases hA with ⟨k0,a0,a3,t,rfl,hk,htc,htp⟩ |⟨t,rfl,hk,⟨hlk1,hlk2⟩,htk,hp,hs⟩ |⟨h5,o,c,us,he,ho,hc4,hBal,hus⟩ |⟨k7,_⟩
 ·have hnp:t.parts.length<=1000/\∀ p∈t.parts,p.spans.length<=10:=by rw [htp];exact ⟨by simp,fun p hp=>by cases hp⟩
  refine zgf (by omega) (fun i j=>?_) hnp.1 hnp.2 h hC;unfold Ref.MM;show _↔Sm.M _ _ ((F+1)+1) T i j;unfold Sm.M Ref.stepT Ref.ahT;rw [if_pos k0,htc];constructor
  ·rintro (⟨_,h1,h2⟩ |⟨h1,_⟩)
   ·exact ⟨h1.symm,h2⟩
   ·exact absurd hk h1
  ·rintro ⟨h1,h2⟩;exact .inl ⟨hk,h1.symm,h2⟩
 ·refine zgf (by omega) (fun i j=>?_) hp hs h hC;unfold Ref.MM;show _↔Sm.M _ _ ((F+1)+1) T i j;unfold Sm.M Ref.stepT Ref.lfT;rw [if_neg (by omega),if_neg (by omega),if_neg (by omega),if_neg (by omega)];constructor
  ·rintro (⟨h1,_⟩ |⟨_,h1,h2,h3⟩)
   ·omega
   ·exact ⟨⟨h1,by rw [<-htk];exact h3⟩,h2⟩
  ·rintro ⟨⟨h1,h2⟩,h3⟩;exact .inr ⟨by omega,h1,h3,by rw [htk];exact h2⟩
 ·exact zhE hT (by omega) h5 he ho hus hBal.2 h hl hc hC
 ·exact absurd k7 h7
def OneIs (g off:Nat)(us:List Tok)(cap:Nat)(cv:Value)(l:List (Int×Int))(R:Nat->Nat->Prop)(w:World):Prop:=∀ (fv:Value) (xs:List Bool) (w':World),Q8 w w'->BoolRow w' fv xs->xs.length=l.length+1->
 Calls prog 156 #[.slice (some ⟨g,off,none⟩) us.length cap,cv,fv] w' (Goes1 w' xs R)
theorem many_any {us:List Tok}{q:Tok}{qv cv fv:Value}{l:List (Int×Int)}{xs:List Bool}{R:Nat->Nat->Prop}{w:World}(hO:OneIs g off us cap cv l R w)(hR:∀ i j,R i j->i<=j)(hx:BoolRow w fv xs)(hl:l.length<=900)(hxl:xs.length=l.length+1)
  (h0:0<=q.mn) (h1:q.mn<=100) (h2:-1<=q.mx) (h3:q.mx<=100) (h4:q.mx = -1\/q.mn<=q.mx) :
  Calls prog 155 #[.slice (some ⟨g,off,none⟩) us.length cap,.agg #[.int .i64 q.kind,.bool q.neg,qv,.int .i64 q.c,.int .i64 q.mn,.int .i64 q.mx],cv,fv] w (Goes1 w xs (fun i j=>∃ k:Nat,q.mn<=k/\(q.mx = -1\/(k:Int)<=q.mx)/\Sm.pow R k i j)):=by
 obtain ⟨qk,qn,qp,qc,mn,mx⟩:=q;simp only [] at *;obtain ⟨mn,rfl⟩:∃ m:Nat,mn=(m:Int):=⟨mn.toNat,by omega⟩
 have HO:=zc hO;have HR:=zc hR;have HX:=zc hx;have HXL:=zc hxl;have H4:=zc h4;have hO0:Q8 w (w.alloc (.cells #[.int .i64 qk,.bool qn,qv,.int .i64 qc,.int .i64 mn,.int .i64 mx] 308)):=(ze.refl _ _).alloc _;have c4:(w.alloc (.cells #[.int .i64 qk,.bool qn,qv,.int .i64 qc,.int .i64 mn,.int .i64 mx] 308)).cell? ⟨w.heap.size,4,none⟩=some (.int .i64 mn):=zm w _ rfl _ _ 4 _ rfl;have c5:(w.alloc (.cells #[.int .i64 qk,.bool qn,qv,.int .i64 qc,.int .i64 mn,.int .i64 mx] 308)).cell? ⟨w.heap.size,5,none⟩=some (.int .i64 mx):=zm w _ rfl _ _ 5 _ rfl;have HO0:=zc hO0;have C4:=zc c4;have C5:=zc c5;clear hO hR hx hxl h4 hO0 c4 c5;go_enter func155,ntmps155;go_upto_block 0 with fail;generalize w.alloc (.cells #[.int .i64 qk,.bool qn,qv,.int .i64 qc,.int .i64 mn,.int .i64 mx] 308)=W at *;go_cut [9] (fun tv wx=>∃ ys,Hid (BoolRow wx tv ys)/\Hid (Ref.Img (Sm.pow R mn) xs ys)/\Hid (Q8 W wx))
 case first=>
  go_wp2_with fail;go_loopw [9,10] (fun tv k wr=>∃ (n:Nat) (ys:List Bool),k = .int .i64 n/\n<=mn/\Hid (BoolRow wr tv ys)/\Hid (Ref.Img (Sm.pow R n) xs ys)/\Hid (Q8 W wr)) (fun _ k _=>mn-(intOf k).toNat)
  case atStart=>exact ⟨0,xs,rfl,by omega,(zb HX).keep (zb HO0),Ref.Img.id xs,ze.refl _ _⟩
  case round=>
   obtain ⟨n,ys,rfl,hn,HB,HI,HK⟩:=hrel;have k4:=zg (zb HK) _ _ (zb C4) (fun f=>f);have hyl:ys.length<=901:=(by have:=(zb HI).1;have:=zb HXL;omega);obtain ⟨ga,na,ca,hsl⟩:∃ ga na ca,u9=Value.slice ga na ca:=(by obtain ⟨g1,c1,h,_⟩:=zb HB;exact ⟨_,_,_,h⟩);subst hsl;have HC:=zc (zb HO _ ys wr ((zb HO0).trans (zb HK)) (zb HB) ((zb HI).1.trans (zb HXL)));by_cases hlt:n<mn
   ·go_wp2_with (first
     |(go_at_call 156;refine (zb HC).mono ?_;rintro e w2 ⟨sv,zs,rfl,hb2,hi2,hO2⟩;have HB2:=zc hb2;have HI2:=zc hi2;have HO2:=zc hO2;clear hb2 hi2 hO2)
     |(go_at_call 184;refine (same_any _ _ zs ys _ (zb HB2) ((zb HB).keep (zb HO2)) (zb HI2).1.symm (by have:=(zb HI2).1;omega)).mono ?_;rintro e w3 ⟨rfl,hO3⟩;have HO3:=zc hO3;clear hO3))
    ·go_meet
     case rel=>
      have hzy:zs=ys:=(by first |assumption |simp_all);have hst:=(zb HI).still (zb HR) (by have:=zb HI2;rw [hzy] at this;exact this) (mn-n);rw [show n+(mn-n)=mn by omega] at hst;exact ⟨ys,by have:=(zb HB2).keep (zb HO3);rw [hzy] at this;exact this,hst,((zb HK).trans (zb HO2)).trans (zb HO3)⟩
    ·exact ⟨⟨n+1,zs,by go_num,by omega,(zb HB2).keep (zb HO3),(zb HI).pow_succ (zb HR) (zb HI2),((zb HK).trans (zb HO2)).trans (zb HO3)⟩,by simp [intOf];omega⟩
   ·obtain rfl:n=mn:=(by omega);go_wp2_with fail;go_meet
    case rel=>exact ⟨ys,HB,HI,HK⟩
 case rest=>
  obtain ⟨ys,HB,HI,HK⟩:=hcut;have k4:=zg (zb HK) _ _ (zb C4) (fun f=>f);have k5:=zg (zb HK) _ _ (zb C5) (fun f=>f);obtain ⟨ga,na,ca,hsl⟩:∃ ga na ca,u9=Value.slice ga na ca:=by obtain ⟨g1,c1,h,_⟩:=zb HB;exact ⟨_,_,_,h⟩
  subst hsl;by_cases hmx:mx<0
  ·have Hm1:Hid (mx = -1):=(by show mx = -1;omega);go_wp2_with fail;go_loopw [9] (fun tv wr=>∃ (m:Nat) (ys:List Bool),Hid (BoolRow wr tv ys)/\Hid (Ref.Img (Ref.span R mn (mn+m)) xs ys)/\Hid (Q8 W wr)) (fun tv wr=>lackN wr tv)
   case atStart=>exact ⟨0,ys,HB,(zb HI).span_self,HK⟩
   case round=>
    obtain ⟨m,ys,HB,HI,HK⟩:=hrel;have hyl:ys.length<=901:=(by have:=(zb HI).1;have:=zb HXL;omega);have hlk:=(zb HB).lackN;obtain ⟨ga,na,ca,hsl⟩:∃ ga na ca,u9=Value.slice ga na ca:=(by obtain ⟨g1,c1,h,_⟩:=zb HB;exact ⟨_,_,_,h⟩);subst hsl;have HC:=zc (zb HO _ ys wr ((zb HO0).trans (zb HK)) (zb HB) ((zb HI).1.trans (zb HXL)));have HL:=zc hlk;clear hlk;go_wp2_with (first
     |(go_at_call 156;refine (zb HC).mono ?_;rintro e w2 ⟨sv,zs,rfl,hb2,hi2,hO2⟩;have HB2:=zc hb2;have HI2:=zc hi2;have HO2:=zc hO2;clear hb2 hi2 hO2)
     |(go_at_call 154;refine (zeI _ _ ys zs _ ((zb HB).keep (zb HO2)) (zb HB2) (zb HI2).1 (by omega)).mono ?_;rintro e w3 ⟨sv3,rfl,hb3,hO3⟩;have HB3:=zc hb3;have HO3:=zc hO3;clear hb3 hO3)
     |(go_at_call 184;refine (same_any _ _ _ ys _ (zb HB3) (((zb HB).keep (zb HO2)).keep (zb HO3)) (by rw [List.length_zipWith,(zb HI2).1];omega) (by rw [List.length_zipWith,(zb HI2).1];omega)).mono ?_;rintro e w4 ⟨rfl,hO4⟩;have HO4:=zc hO4;clear hO4))
    ·go_ret;have hzy:List.zipWith (· || ·) ys zs=ys:=(by first |assumption |simp_all);refine ⟨_,ys,rfl,(((zb HB).keep (zb HO2)).keep (zb HO3)).keep (zb HO4),((zb HI).closed (by omega) (zb HR) (zb HI2) hzy).congr (fun i j=>?_),((((zb HO0).trans (zb HK)).trans (zb HO2)).trans (zb HO3)).trans (zb HO4)⟩;constructor
     ·rintro ⟨k,e1,e2⟩;exact ⟨k,by omega,.inl (zb Hm1),e2⟩
     ·rintro ⟨k,e1,_,e2⟩;exact ⟨k,by omega,e2⟩
    ·have hzy:List.zipWith (· || ·) ys zs≠ys:=(by first |assumption |simp_all);refine ⟨⟨m+1,_,(zb HB3).keep (zb HO4),(zb HI).span_succ (b:=mn+m) (by omega) (zb HR) (zb HI2),(((zb HK).trans (zb HO2)).trans (zb HO3)).trans (zb HO4)⟩,?_⟩;rw [zb HL,((zb HB3).keep (zb HO4)).lackN];exact (Ref.lacks_le (zb HI2).1).2 hzy
  ·have hmm:(mn:Int)<=mx:=(by rcases (zb H4) with h |h;omega;exact h);obtain ⟨mx,rfl⟩:∃ m:Nat,mx=(m:Int):=⟨mx.toNat,by omega⟩
   have hmm':mn<=mx:=(by omega);go_wp2_with fail;go_loopw [9,15] (fun tv k wr=>∃ (n:Nat) (ys:List Bool),k = .int .i64 n/\mn<=n/\n<=mx/\Hid (BoolRow wr tv ys)/\Hid (Ref.Img (Ref.span R mn n) xs ys)/\Hid (Q8 W wr)) (fun _ k _=>mx-(intOf k).toNat)
   case atStart=>exact ⟨mn,ys,rfl,by omega,by omega,HB,(zb HI).span_self,HK⟩
   case round=>
    clear k4 k5;obtain ⟨n,ys,rfl,hn1,hn2,HB,HI,HK⟩:=hrel;have k5:=zg (zb HK) _ _ (zb C5) (fun f=>f);have hyl:ys.length<=901:=(by have:=(zb HI).1;have:=zb HXL;omega);obtain ⟨ga,na,ca,hsl⟩:∃ ga na ca,u9=Value.slice ga na ca:=(by obtain ⟨g1,c1,h,_⟩:=zb HB;exact ⟨_,_,_,h⟩);subst hsl;have HC:=zc (zb HO _ ys wr ((zb HO0).trans (zb HK)) (zb HB) ((zb HI).1.trans (zb HXL)));by_cases hlt:n<mx
    ·go_wp2_with (first
      |(go_at_call 156;refine (zb HC).mono ?_;rintro e w2 ⟨sv,zs,rfl,hb2,hi2,hO2⟩;have HB2:=zc hb2;have HI2:=zc hi2;have HO2:=zc hO2;clear hb2 hi2 hO2)
      |(go_at_call 154;refine (zeI _ _ ys zs _ ((zb HB).keep (zb HO2)) (zb HB2) (zb HI2).1 (by omega)).mono ?_;rintro e w3 ⟨sv3,rfl,hb3,hO3⟩;have HB3:=zc hb3;have HO3:=zc hO3;clear hb3 hO3))
     exact ⟨⟨n+1,_,by go_num,by omega,by omega,HB3,(zb HI).span_succ (by omega) (zb HR) (zb HI2),((zb HK).trans (zb HO2)).trans (zb HO3)⟩,by simp [intOf];omega⟩
    ·obtain rfl:n=mx:=(by omega);go_wp2_with fail;go_ret;refine ⟨_,ys,rfl,zb HB,(zb HI).congr (fun i j=>?_),(zb HO0).trans (zb HK)⟩;constructor
     ·rintro ⟨k,e1,e2,e3⟩;exact ⟨k,by omega,.inr (by omega),e3⟩
     ·rintro ⟨k,e1,e2,e3⟩;exact ⟨k,by omega,by omega,e3⟩
namespace Eqv
def Rest (f:Nat)(rem:List Tok)(terms alts:List Tree):Prop:=∃ a,TokS (zer f) a terms/\((rem=a/\alts=[])\/∃ bar b,rem=a++bar :: b/\bar.kind=5/\TokC (zer f) b alts)
theorem TokC.open {ts:List Tok}{kids:List Tree}(h:TokC (zer f) ts kids):∃ t alts,kids=t :: alts/\t.kind=6/\Rest f ts t.kids alts:=by
 obtain ⟨pre,fin,init,last,rfl,rfl,hp,hk,hf⟩:=h;cases init with
 |nil=>
  obtain rfl:pre=[]:=hp;exact ⟨last,[],rfl,hk,fin,hf,.inl ⟨rfl,rfl⟩⟩
 |cons t r=>
  obtain ⟨a,b,bar,rfl,h5,h6,hs,hr⟩:=hp;exact ⟨t,r++[last],rfl,h6,a,hs,.inr ⟨bar,b++fin,by simp,h5,b,fin,r,last,rfl,rfl,hr,hk,hf⟩⟩
theorem zer.head:∀ {f:Nat} {ts:List Tok} {T:Tree},zer f ts T->∃ t r,ts=t :: r/\(t.kind=1\/t.kind=2\/t.kind=3)
 |0,_,_,h=>h.elim
 |f+1,ts,T,h=>by
  rcases h with ⟨_,_,_,t,rfl,hk,_⟩ |⟨t,rfl,hk,_⟩ |⟨_,o,c,us,rfl,ho,_⟩ |⟨_,us,q,rfl,_,_,_,_,hu⟩
  ·exact ⟨t,[],rfl,.inr (.inl hk)⟩
  ·exact ⟨t,[],rfl,.inl hk⟩
  ·exact ⟨o,us++[c],rfl,.inr (.inr ho)⟩
  ·obtain ⟨t,r,rfl,hk⟩:=zer.head hu;exact ⟨t,r++[q],rfl,hk⟩
theorem Rest.nil {f:Nat}{terms alts:List Tree}(h:Rest f [] terms alts):terms=[]/\alts=[]:=by
 obtain ⟨a,hs,⟨h1,h2⟩ |⟨bar,b,h1,_⟩⟩:=h
 ·subst h1;cases terms with
  |nil=>exact ⟨rfl,h2⟩
  |cons t r=>
   obtain ⟨x,y,e,hx,_⟩:=hs;obtain ⟨u,v,rfl,_⟩:=hx.head;simp at e
 ·simp at h1
theorem Rest.bar {f:Nat}{t:Tok}{r:List Tok}{terms alts:List Tree}(h:Rest f (t :: r) terms alts)(hk:t.kind=5):terms=[]/\TokC (zer f) r alts:=by
 obtain ⟨a,hs,h⟩:=h;have ht:terms=[]:=by
  cases terms with
  |nil=>rfl
  |cons u v=>
   obtain ⟨x,y,rfl,hx,_⟩:=hs;obtain ⟨z,w,rfl,hz⟩:=hx.head;rcases h with ⟨h1,_⟩ |⟨bar,b,h1,_⟩
   ·simp at h1;rw [h1.1] at hk;omega
   ·simp at h1;rw [h1.1] at hk;omega
 subst ht;obtain rfl:a=[]:=hs;rcases h with ⟨h1,_⟩ |⟨bar,b,h1,h2,h3⟩
 ·simp at h1
 ·simp at h1;exact ⟨rfl,by rw [h1.2];exact h3⟩
theorem Rest.term {t:Tok}{r:List Tok}{terms alts:List Tree}(h:Rest f (t :: r) terms alts)(hk:t.kind≠5):∃ T more a rem,terms=T :: more/\t :: r=a++rem/\zer f a T/\Rest f rem more alts:=by
 obtain ⟨a,hs,h⟩:=h;cases terms with
 |nil=>
  obtain rfl:a=[]:=hs;rcases h with ⟨h1,_⟩ |⟨bar,b,h1,h2,_⟩
  ·simp at h1
  ·simp at h1;rw [h1.1] at hk;exact absurd h2 hk
 |cons T more=>
  obtain ⟨x,y,rfl,hx,hy⟩:=hs;rcases h with ⟨h1,h2⟩ |⟨bar,b,h1,h2,h3⟩
  ·exact ⟨T,more,x,y,rfl,h1,hx,y,hy,.inl ⟨rfl,h2⟩⟩
  ·exact ⟨T,more,x,y++bar :: b,rfl,by rw [h1,ql],hx,y,hy,.inr ⟨bar,b,rfl,h2,h3⟩⟩
theorem Rest.head6 {rem:List Tok}{terms alts:List Tree}(h:Rest f rem terms alts):Ref.headKind rem≠6:=by
 cases rem with
 |nil=>exact (show (0:Int)≠6 by decide)
 |cons t r=>
  show t.kind≠6;by_cases hk:t.kind=5
  ·omega
  ·obtain ⟨T,more,a,rem,_,e,hA,_⟩:=h.term hk;obtain ⟨u,v,rfl,hu⟩:=hA.head;simp at e;rw [e.1];omega
theorem zfQ {l us rem:List Tok}{K:Tree}{i:Nat}(hA:zer f us K)(h7:K.kind≠7)(hd:l.drop i=us++rem):Ref.atomEnd l i=((i+us.length:Nat):Int):=by
 have hlen:l.length-i=us.length+rem.length:=by rw [<-ZX,hd,yS]
 cases f with
 |zero=>exact hA.elim
 |succ f=>
  have hk0:Ref.wm l i=Ref.headKind (us++rem):=by rw [<-hd,Ref.zfC]
  have hone:∀ t:Tok,us=[t]->t.kind≠3->Ref.atomEnd l i=((i+us.length:Nat):Int):=fun t e h3=>by
   subst e;unfold Ref.atomEnd;rw [if_neg (by rw [hk0];exact h3)];simp
  rcases hA with ⟨_,_,_,t,h1,hk,_⟩ |⟨t,h1,hk,_⟩ |⟨_,o,c,vs,h1,ho,hc,hB,_⟩ |⟨k7,_⟩
  ·exact hone t h1 (by omega)
  ·exact hone t h1 (by omega)
  ·subst h1;have hi:i<l.length:=(by simp at hlen;omega);have h3:Ref.wm l i=3:=(by rw [hk0];exact ho);have hd1:l.drop (i+1)=vs++c :: rem:=by
    rw [<-Yw,hd];simp
   have:=(Ref.zfc hi h3 (j:=vs.length) (by rw [hd1];exact Ref.zfd hB hc)).1;rw [this];simp;omega
  ·exact absurd k7 h7
theorem kind_at {l us rem:List Tok}{i:Nat}(hd:l.drop i=us++rem):Ref.wm l (i+us.length)=Ref.headKind rem:=by
 rw [<-Ref.zfC,<-Yw,hd];simp
end Eqv
end
end Go.Proofs.YtcgleficedipkaaGreatDoor
