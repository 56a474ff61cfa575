/- The reference's characters: which a part, a token takes. -/
import Derived.Test.YtnagphodmfejiaaGreatDoorX20
import Derived.Deep.RegionHeld3
import Derived.Deep.OwnRows
import Derived.Test.YtnagphodmfejiaaGreatDoorX19
namespace Go.Proofs.YtnagphodmfejiaaGreatDoor
section
open Go.RowKit
set_option maxHeartbeats 800000
def yU (w:World)(sv:Value)(l:List (Int×Int)):Prop:=
 (sv = .slice none 0 0∧l=[])∨∃ g cap,sv = .slice (some ⟨g,0,none⟩) l.length cap∧l.length≤cap∧g<w.heap.size∧∀ (j:Nat) p,l[j]?=some p→w.cell? ⟨g,j*2,none⟩=some (.int .i64 p.1)∧w.cell? ⟨g,j*2+1,none⟩=some (.int .i64 p.2)
theorem yU.keep {w w':World}{sv:Value}{l:List (Int×Int)}(h:yU w sv l)(k:zf (fun _=>False) w w'):yU w' sv l:=by
 rcases h with h |⟨g,cap,h1,h2,h3,h4⟩
 ·exact .inl h
 ·exact .inr ⟨g,cap,h1,h2,Nat.lt_of_lt_of_le h3 k.size,fun j p hj=>⟨zg k _ _ (h4 j p hj).1 (fun f=>f),zg k _ _ (h4 j p hj).2 (fun f=>f)⟩⟩
theorem Xf:∀ (l:List (Int×Int))(j:Nat)(p:Int×Int),l[j]?=some p→(spanCells l)[j*2]?=some (.int .i64 p.1)∧(spanCells l)[j*2+1]?=some (.int .i64 p.2)
 | [],j,p,h=>by simp at h
 |x :: r,0,p,h=>by
  obtain ⟨a,b⟩:=x
  simp at h
  subst h
  exact ⟨rfl,rfl⟩
 |x :: r,j+1,p,h=>by
  obtain ⟨a,b⟩:=x
  have:=Xf r j p (by simpa using h)
  have e1:(j+1)*2=(j*2)+2:=by omega
  have e2:(j+1)*2+1=(j*2+1)+2:=by omega
  rw [e2,e1]
  simp only [spanCells,List.getElem?_cons_succ]
  exact this
theorem yU.of {w:World}{base:Nat}{T:TypeId}{sv:Value}{l:List (Int×Int)}(h:w.ownsRow base T 2 sv l.length (spanCells l)):yU w sv l:=by
 have hl:=zh h
 have hc:=@World.ownsRow.cells w base T 2 sv l.length (spanCells l) h
 rcases h.2 with ⟨rfl,h0⟩ |⟨g,cap,cur,rfl,hb,hg,hn,_⟩
 ·exact .inl ⟨rfl,List.eq_nil_of_length_eq_zero h0⟩
 ·refine .inr ⟨g,cap,rfl,hn,(hl g rfl).2,fun j p hj=>?_⟩
  have e:∀ k,(⟨g,0,none⟩:Addr).add k=⟨g,k,none⟩:=fun k=>by unfold Addr.add;split<;>simp_all
  obtain ⟨s1,s2⟩:=Xf l j p hj
  have c1:=hc (g:=g) rfl _ _ s1
  have c2:=hc (g:=g) rfl _ _ s2
  rw [e] at c1 c2
  exact ⟨c1,c2⟩
namespace Eqv
theorem inSp_yes {l:List (Int×Int)}{c:Int}{n:Nat}{p:Int×Int}(h:l[n]?=some p)(h1:p.1≤c)(h2:c≤p.2):inSp l c=true:=by
 unfold inSp
 rw [List.any_eq_true]
 exact ⟨p,List.mem_of_getElem? h,by simp [h1,h2]⟩
theorem inSp_no {l:List (Int×Int)}{c:Int}(h:∀ (n:Nat) p,n<l.length→l[n]?=some p→¬(p.1≤c∧c≤p.2)):inSp l c=false:=by
 unfold inSp
 rw [List.any_eq_false]
 intro p hp
 obtain ⟨n,hn,e⟩:=List.getElem_of_mem hp
 have:=h n p hn (by rw [List.getElem?_eq_getElem hn,e])
 simpa using this
end Eqv
theorem zaZ (neg:Bool)(sv:Value)(l:List (Int×Int))(c:Int)(w:World)(h:yU w sv l)(hl:l.length≤1000) :
  Calls Tryz.prog 215 #[.agg #[.bool neg,sv],.int .i64 c] w fun x w'=>x = .returned (.bool (Eqv.inPt ⟨neg,l⟩ c))∧zf (fun _=>False) w w':=by
 have hO:zf (fun _=>False) w (w.alloc (.cells #[.bool neg,sv] 274)):=(zf.refl _ _).alloc _
 have HW:=ze (h.keep hO)
 have HO:=ze hO
 clear h hO
 obtain ⟨pa,pn,pc,rfl⟩:∃ pa pn pc,sv = .slice pa pn pc:=by rcases (zb HW) with ⟨h1,_⟩ |⟨g,cap,h1,_⟩<;>exact ⟨_,_,_,h1⟩
 have hpn:pn=l.length:=by rcases (zb HW) with ⟨h1,h2⟩ |⟨g,cap,h1,_⟩<;>simp at h1<;>simp [*]
 subst hpn
 go_enter Tryz.func215,Tryz.ntmps215
 go_wp2_with fail
 go_loop [5] (fun k=>∃ n:Nat,k = .int .i64 n∧n≤l.length∧Hid (∀ (j:Nat) p,j<n→l[j]?=some p→¬(p.1≤c∧c≤p.2))) (fun k=>l.length-(intOf k).toNat)
 case atStart=>exact ⟨0,rfl,by omega,fun j p hj=>by omega⟩
 case round=>
  obtain ⟨n,rfl,hn,HN⟩:=hrel
  by_cases hlt:n<l.length
  ·have hW:=zb HW
   obtain ⟨g,cap,hsv,hcap,hg,hcells⟩:∃ g cap,pa=some ⟨g,0,none⟩∧l.length≤pc∧g<cap∧∀ (j:Nat) p,l[j]?=some p→(w.alloc (.cells #[.bool neg,.slice pa l.length pc] 274)).cell? ⟨g,j*2,none⟩=some (.int .i64 p.1)∧(w.alloc (.cells #[.bool neg,.slice pa l.length pc] 274)).cell? ⟨g,j*2+1,none⟩=some (.int .i64 p.2):=by
    rcases hW with ⟨_,h2⟩ |⟨g,cap,h1,h2,h3,h4⟩
    ·rw [h2] at hlt;simp at hlt
    ·simp at h1
     exact ⟨g,_,h1.1,by omega,h3,h4⟩
   subst hsv
   obtain ⟨c1,c2⟩:=hcells n l[n] (List.getElem?_eq_getElem hlt)
   clear hcells hW
   have hstep:l[n].1≤c∧c≤l[n].2→Hid (Eqv.inSp l c=true):=fun hh=>Eqv.inSp_yes (List.getElem?_eq_getElem hlt) hh.1 hh.2
   have HN1:¬(l[n].1≤c∧c≤l[n].2)→Hid (∀ (j:Nat) p,j<n+1→l[j]?=some p→¬(p.1≤c∧c≤p.2)):=fun hh j p hj hp=>by
    by_cases e:j<n
    ·exact zb HN j p e hp
    ·obtain rfl:j=n:=by omega
     rw [List.getElem?_eq_getElem hlt] at hp
     obtain rfl:=Option.some.inj hp
     exact hh
   generalize l[n].1=lo at *
   generalize l[n].2=hi at *
   by_cases h1:lo≤c
   ·by_cases h2:c≤hi
    ·have hs:=ze (hstep ⟨h1,h2⟩)
     clear hstep HN1
     go_wp2_with fail
     go_ret
     refine ⟨?_,zb HO⟩
     unfold Eqv.inPt
     rw [zb (zb hs)]
     cases neg<;>rfl
    ·have hs:=ze (HN1 (fun hh=>h2 hh.2))
     clear hstep HN1
     go_wp2_with fail
     go_round
     case rel=>exact ⟨n+1,by go_num,by omega,zb hs⟩
     case measure=>simp [intOf];omega
   ·have hs:=ze (HN1 (fun hh=>h1 hh.1))
    clear hstep HN1
    go_wp2_with fail
    go_round
    case rel=>exact ⟨n+1,by go_num,by omega,zb hs⟩
    case measure=>simp [intOf];omega
  ·go_wp2_with fail
   go_ret
   refine ⟨?_,zb HO⟩
   unfold Eqv.inPt
   rw [Eqv.inSp_no (fun j p hj=>zb HN j p (by omega))]
   cases neg<;>rfl
set_option maxHeartbeats 1600000
set_option maxRecDepth 100000
def Zc (w:World)(sv:Value)(ps:List Pt):Prop:=
 (sv = .slice none 0 0∧ps=[])∨∃ g cap,sv = .slice (some ⟨g,0,none⟩) ps.length cap∧ps.length≤cap∧g<w.heap.size∧∀ (j:Nat) p,ps[j]?=some p→∃ pa pn pc,w.cell? ⟨g,j*2,none⟩=some (.bool p.neg)∧w.cell? ⟨g,j*2+1,none⟩=some (.slice pa pn pc)∧yU w (.slice pa pn pc) p.spans
theorem Zc.keep {w w':World}{sv:Value}{l:List Pt}(h:Zc w sv l)(k:zf (fun _=>False) w w'):Zc w' sv l:=by
 rcases h with h |⟨g,cap,h1,h2,h3,h4⟩
 ·exact .inl h
 ·refine .inr ⟨g,cap,h1,h2,Nat.lt_of_lt_of_le h3 k.size,fun j p hj=>?_⟩
  obtain ⟨pa,pn,pc,a1,a2,a3⟩:=h4 j p hj
  exact ⟨pa,pn,pc,zg k _ _ a1 (fun f=>f),zg k _ _ a2 (fun f=>f),a3.keep k⟩
namespace Eqv
theorem zcK {l:List Pt}{c:Int}{n:Nat}{p:Pt}(h:l[n]?=some p)(h1:inPt p c=true):anyPt l c=true:=by
 unfold anyPt
 rw [List.any_eq_true]
 exact ⟨p,List.mem_of_getElem? h,h1⟩
theorem anyPt_no {l:List Pt}{c:Int}(h:∀ (n:Nat) p,n<l.length→l[n]?=some p→inPt p c=false):anyPt l c=false:=by
 unfold anyPt
 rw [List.any_eq_false]
 intro p hp
 obtain ⟨n,hn,e⟩:=List.getElem_of_mem hp
 have:=h n p hn (by rw [List.getElem?_eq_getElem hn,e])
 simp [this]
end Eqv
def tokV (t:Tok)(pv:Value):Value:=.agg #[.int .i64 t.kind,.bool t.neg,pv,.int .i64 t.c,.int .i64 t.mn,.int .i64 t.mx]
theorem zcL (t:Tok)(sv:Value)(c:Int)(w:World)(h:Zc w sv t.parts)(hl:t.parts.length≤1000)(hs:∀ p∈t.parts,p.spans.length≤10) :
  Calls Tryz.prog 179 #[tokV t sv,.int .i64 c] w fun x w'=>x = .returned (.bool (Eqv.Zo t c))∧zf (fun _=>False) w w':=by
 unfold tokV
 have hO:zf (fun _=>False) w (w.alloc (.cells #[.int .i64 t.kind,.bool t.neg,sv,.int .i64 t.c,.int .i64 t.mn,.int .i64 t.mx] 178)):=(zf.refl _ _).alloc _
 have HW:=ze (h.keep hO)
 have HO:=ze hO
 have hcb:(w.alloc (.cells #[.int .i64 t.kind,.bool t.neg,sv,.int .i64 t.c,.int .i64 t.mn,.int .i64 t.mx] 178)).cell? ⟨w.heap.size,1,none⟩=some (.bool t.neg):=zo w _ rfl _ _ 1 _ rfl
 have hcp:(w.alloc (.cells #[.int .i64 t.kind,.bool t.neg,sv,.int .i64 t.c,.int .i64 t.mn,.int .i64 t.mx] 178)).cell? ⟨w.heap.size,2,none⟩=some sv:=zo w _ rfl _ _ 2 _ rfl
 clear h hO
 obtain ⟨pa,pn,pc,rfl⟩:∃ pa pn pc,sv = .slice pa pn pc:=by rcases (zb HW) with ⟨h1,_⟩ |⟨g,cap,h1,_⟩<;>exact ⟨_,_,_,h1⟩
 have hpn:pn=t.parts.length:=by rcases (zb HW) with ⟨h1,h2⟩ |⟨g,cap,h1,_⟩<;>simp at h1<;>simp [*]
 subst hpn
 have HS:=ze hs
 clear hs
 go_enter Tryz.func179,Tryz.ntmps179
 go_wp2_with fail
 generalize w.alloc (.cells #[.int .i64 t.kind,.bool t.neg,.slice pa t.parts.length pc,.int .i64 t.c,.int .i64 t.mn,.int .i64 t.mx] 178)=W at *
 go_loopw [5] (fun k wr=>∃ n:Nat,k = .int .i64 n∧n≤t.parts.length∧Hid (zf (fun _=>False) W wr)∧Hid (∀ (j:Nat) p,j<n→t.parts[j]?=some p→Eqv.inPt p c=false)) (fun k _=>t.parts.length-(intOf k).toNat)
 case atStart=>exact ⟨0,rfl,by omega,zf.refl _ _,fun j p hj=>by omega⟩
 case round=>
  obtain ⟨n,rfl,hn,HK,HN⟩:=hrel
  have k1:=zg (zb HK) _ _ hcb (fun f=>f)
  have k2:=zg (zb HK) _ _ hcp (fun f=>f)
  by_cases hlt:n<t.parts.length
  ·have hW:=(zb HW).keep (zb HK)
   obtain ⟨g,hsv,hcap,pa1,pn1,pc1,c1,c2,hpr⟩:∃ g,pa=some ⟨g,0,none⟩∧t.parts.length≤pc∧∃ pa1 pn1 pc1,wr.cell? ⟨g,n*2,none⟩=some (.bool t.parts[n].neg)∧wr.cell? ⟨g,n*2+1,none⟩=some (.slice pa1 pn1 pc1)∧yU wr (.slice pa1 pn1 pc1) t.parts[n].spans:=by
    rcases hW with ⟨_,h2⟩ |⟨g,cap,h1,h2,h3,h4⟩
    ·rw [h2] at hlt;simp at hlt
    ·simp at h1
     obtain ⟨a1,a2,a3,a4,a5,a6⟩:=h4 n t.parts[n] (List.getElem?_eq_getElem hlt)
     exact ⟨g,h1.1,by omega,a1,a2,a3,a4,a5,a6⟩
   subst hsv
   have HP:=ze hpr
   clear hpr hW
   have hsp:=zb HS t.parts[n] (List.getElem_mem hlt)
   have hget:t.parts[n]?=some t.parts[n]:=List.getElem?_eq_getElem hlt
   generalize t.parts[n]=p at *
   cases hin:Eqv.inPt p c
   ·have HN1:Hid (∀ (j:Nat) p,j<n+1→t.parts[j]?=some p→Eqv.inPt p c=false):=fun j q hj hq=>by
     by_cases e:j<n
     ·exact zb HN j q e hq
     ·obtain rfl:j=n:=by omega
      rw [hget] at hq
      obtain rfl:=Option.some.inj hq
      exact hin
    clear hget
    go_wp2_with (go_at_call 215;refine (zaZ p.neg _ p.spans c _ (zb HP) (by omega)).mono ?_;rintro e w2 ⟨rfl,hO2⟩;have hin2:Eqv.inPt ⟨p.neg,p.spans⟩ c=false:=hin;rw [hin2];have HO2:=ze hO2;clear hO2 hin2)
    go_round
    case rel=>exact ⟨n+1,by go_num,by omega,(zb HK).trans (zb HO2),HN1⟩
    case measure=>simp [intOf];omega
   ·have HY:=ze (Eqv.zcK hget hin)
    clear hget
    have hk:∀ w2,zf (fun _=>False) wr w2→w2.cell? ⟨w.heap.size,1,none⟩=some (.bool t.neg):=fun w2 h2=>zg h2 _ _ k1 (fun f=>f)
    have HK1:=ze hk
    clear hk
    go_wp2_with (go_at_call 215;refine (zaZ p.neg _ p.spans c _ (zb HP) (by omega)).mono ?_;rintro e w2 ⟨rfl,hO2⟩;have hin2:Eqv.inPt ⟨p.neg,p.spans⟩ c=true:=hin;rw [hin2];have k3:=zb HK1 w2 hO2;have HO2:=ze hO2;clear hO2 hin2)
    go_ret
    refine ⟨?_,((zb HO).trans (zb HK)).trans (zb HO2)⟩
    unfold Eqv.Zo
    rw [zb HY]
    cases t.neg<;>rfl
  ·go_wp2_with fail
   go_ret
   refine ⟨?_,(zb HO).trans (zb HK)⟩
   unfold Eqv.Zo
   rw [Eqv.anyPt_no (fun j p hj=>zb HN j p (by omega))]
   cases t.neg<;>rfl
theorem za0 (c:Int)(w:World) :
  Calls Tryz.prog 214 #[.int .i64 c] w fun x w'=>x = .returned (.bool (Eqv.inSp Ref.jC c))∧zf (fun _=>False) w w':=by
 go_enter Tryz.func214,Tryz.ntmps214
 go_wp2_with (first
  |(go_at_call 165;refine (JT _).mono ?_;rintro e w1 ⟨rfl,hS1,hO1⟩;have HS1:=ze hS1;have HO1:=ze hO1;clear hS1 hO1)
  |(go_at_call 215;refine (zaZ false _ [(48,57),(65,90),(95,95),(97,122)] c _ (yU.of (zb HS1)) (by decide)).mono ?_;rintro e w2 ⟨rfl,hO2⟩))
 go_ret
 exact ⟨by rw [Eqv.vT];rfl,(zb HO1).trans hO2⟩
namespace Ref
def chAt (l:List (Int×Int))(k:Nat):Int:=match l[k]? with
 |some p=>p.1
 |none=>-1
def chBe (l:List (Int×Int))(k:Nat):Int:=if 0<k then chAt l (k-1) else -1
theorem chAt_in {l:List (Int×Int)}{k:Nat}(h:k<l.length):chAt l k=l[k].1:=by unfold chAt;rw [List.getElem?_eq_getElem h]
theorem WL {l:List (Int×Int)}{k:Nat}(h:l.length≤k):chAt l k = -1:=by unfold chAt;rw [List.getElem?_eq_none h]
def asB (sign:Int)(l:List (Int×Int))(i:Nat):Bool:=
 if sign=94 then decide (chBe l i<0)
 else if sign=36 then decide (chAt l i<0)
 else if sign=98 then (Eqv.inSp jC (chBe l i) != Eqv.inSp jC (chAt l i))
 else (Eqv.inSp jC (chBe l i) == Eqv.inSp jC (chAt l i))
end Ref
theorem yU.at {w:World}{sv:Value}{l:List (Int×Int)}(h:yU w sv l){k:Nat}(hk:k<l.length):∃ g cap,sv = .slice (some ⟨g,0,none⟩) l.length cap∧l.length≤cap∧w.cell? ⟨g,k*2,none⟩=some (.int .i64 (Ref.chAt l k)):=by
 rcases h with ⟨_,h⟩ |⟨g,cap,h1,h2,_,h4⟩
 ·rw [h] at hk;simp at hk
 ·exact ⟨g,cap,h1,h2,by rw [Ref.chAt_in hk];exact (h4 k l[k] (List.getElem?_eq_getElem hk)).1⟩
theorem yU.len {w:World}{sv:Value}{l:List (Int×Int)}(h:yU w sv l):∃ pa pc,sv = .slice pa l.length pc:=by
 rcases h with ⟨h,h0⟩ |⟨g,cap,h,_⟩
 ·exact ⟨none,0,by rw [h,h0];rfl⟩
 ·exact ⟨_,_,h⟩
theorem za1 (sv:Value)(l:List (Int×Int))(i:Nat)(w:World)(h:yU w sv l)(hl:l.length≤1000)(hi:i≤l.length) :
  Calls Tryz.prog 213 #[sv,.int .i64 i] w fun x w'=>x = .returned (.tuple #[.int .i64 (Ref.chBe l i),.int .i64 (Ref.chAt l i)])∧w'=w:=by
 by_cases h0:0<i
 ·obtain ⟨g,cap,rfl,hcap,hc⟩:=h.at (k:=i-1) (by omega)
  have HB:Hid (Ref.chBe l i=Ref.chAt l (i-1)):=by unfold Ref.chBe;rw [if_pos h0];rfl
  obtain ⟨j,rfl⟩:∃ j,i=j+1:=⟨i-1,by omega⟩
  simp only [Nat.add_sub_cancel] at hc HB
  by_cases h1:j+1<l.length
  ·obtain ⟨g',cap',e,_,hc2⟩:=h.at h1
   simp at e
   obtain ⟨rfl,_⟩:=e
   clear h
   go_enter Tryz.func213,Tryz.ntmps213
   go_wp2_with fail
   go_ret2
   rw [zb HB]
   exact ⟨rfl,rfl⟩
  ·have HA:Hid (Ref.chAt l (j+1) = -1):=Ref.WL (by omega)
   clear h
   go_enter Tryz.func213,Tryz.ntmps213
   go_wp2_with fail
   go_ret2
   rw [zb HB,zb HA]
   exact ⟨rfl,rfl⟩
 ·obtain rfl:i=0:=by omega
  have HB:Hid (Ref.chBe l 0 = -1):=rfl
  by_cases h1:0<l.length
  ·obtain ⟨g',cap',rfl,hcap,hc2⟩:=h.at h1
   simp only [Nat.zero_mul] at hc2
   clear h h0
   go_enter Tryz.func213,Tryz.ntmps213
   go_wp2_with fail
   go_ret2
   rw [zb HB]
   exact ⟨rfl,rfl⟩
  ·have HA:Hid (Ref.chAt l 0 = -1):=Ref.WL (by omega)
   obtain ⟨pa,pc,rfl⟩:=h.len
   clear h h0
   go_enter Tryz.func213,Tryz.ntmps213
   go_wp2_with fail
   go_ret2
   rw [zb HB,zb HA]
   exact ⟨rfl,rfl⟩
theorem K9 (c:Int)(sv:Value)(l:List (Int×Int))(i:Nat)(w:World)(h:yU w sv l)(hl:l.length≤1000)(hi:i≤l.length) :
  Calls Tryz.prog 178 #[.int .i64 c,sv,.int .i64 i] w fun x w'=>x = .returned (.bool (Ref.asB c l i))∧zf (fun _=>False) w w':=by
 have HB:=ze (za1 sv l i w h hl hi)
 have HA:Hid (Ref.asB c l i=if c=94 then decide (Ref.chBe l i<0) else if c=36 then decide (Ref.chAt l i<0) else if c=98 then (Eqv.inSp Ref.jC (Ref.chBe l i) != Eqv.inSp Ref.jC (Ref.chAt l i)) else (Eqv.inSp Ref.jC (Ref.chBe l i) == Eqv.inSp Ref.jC (Ref.chAt l i))):=rfl
 clear h
 generalize Ref.chBe l i=x at *
 generalize Ref.chAt l i=y at *
 generalize Ref.asB c l i=r at *
 have hc:(c == 94)=true∨((c == 94)=false∧(c == 36)=true)∨((c == 94)=false∧(c == 36)=false∧(c == 98)=true)∨((c == 94)=false∧(c == 36)=false∧(c == 98)=false):=by
  cases (c == 94)<;>cases (c == 36)<;>cases (c == 98)<;>simp
 rcases hc with k1 |⟨k1,k2⟩ |⟨k1,k2,k3⟩ |⟨k1,k2,k3⟩
 all_goals
  go_enter Tryz.func178,Tryz.ntmps178
  go_wp2_with (first
   |(go_at_call 213;refine (zb HB).mono ?_;rintro e wq ⟨rfl,hwq⟩;obtain rfl:=hwq.symm;clear hwq)
   |(go_at_call 214;refine (za0 _ _).mono ?_;rintro e wn ⟨rfl,hOn⟩;first |(have HO1:=(zb HO1).trans hOn;clear hOn) |(have HO1:Hid (zf (fun _=>False) w wn):=hOn;clear hOn)))
  go_ret
  refine ⟨?_,zb HO1⟩
  rw [zb HA]
 ·rw [if_pos (by simpa using k1)]
  rfl
 ·rw [if_neg (by simpa using k1),if_pos (by simpa using k2)]
  rfl
 ·rw [if_neg (by simpa using k1),if_neg (by simpa using k2),if_pos (by simpa using k3)]
  rfl
 ·rw [if_neg (by simpa using k1),if_neg (by simpa using k2),if_neg (by simpa using k3)]
  rfl
def yE (w:World)(sv:Value)(bs:List Bool):Prop:=
 ∃ g cap,sv = .slice (some ⟨g,0,none⟩) bs.length cap∧bs.length≤cap∧g<w.heap.size∧∀ (j:Nat) b,bs[j]?=some b→w.cell? ⟨g,j,none⟩=some (.bool b)
theorem yE.keep {w w':World}{sv:Value}{l:List Bool}(h:yE w sv l)(k:zf (fun _=>False) w w'):yE w' sv l:=by
 obtain ⟨g,cap,h1,h2,h3,h4⟩:=h
 exact ⟨g,cap,h1,h2,Nat.lt_of_lt_of_le h3 k.size,fun j b hj=>zg k _ _ (h4 j b hj) (fun f=>f)⟩
structure v7 (w:World)(g:Nat)(bs:List Bool):Prop where
 c:∀ (j:Nat) b,bs[j]?=some b→w.cell? ⟨g,j,none⟩=some (.bool b)
 f:∀ (j:Nat) b,bs[j]?=some b→w.frozen? ⟨g,j,none⟩=false
theorem v7.keep {P:Nat→Prop}{w w':World}{g:Nat}{bs:List Bool}(h:v7 w g bs)(k:zf P w w')(hn:¬P g):v7 w' g bs:=
 ⟨fun j b hj=>zg k _ _ (h.c j b hj) hn,fun j b hj=>zw k _ (World.block_lt_of_cell? w _ (h.c j b hj)) (h.f j b hj) hn⟩
theorem v7.set {w:World}{g:Nat}{bs:List Bool}(h:v7 w g bs)(i:Nat)(v:Bool):v7 (w.setCell ⟨g,i,none⟩ (.bool v)) g (bs.set i v):=by
 refine ⟨fun j b hj=>?_,fun j b hj=>?_⟩
 ·by_cases e:i=j
  ·subst e
   have hl:i<bs.length:=by have:=(List.getElem?_eq_some_iff.1 hj).1;simpa using this
   rw [List.getElem?_set_self hl] at hj
   obtain rfl:=Option.some.inj hj
   exact World.cell?_setCell_same _ _ _ (h.c i bs[i] (List.getElem?_eq_getElem hl))
  ·rw [List.getElem?_set_ne e] at hj
   exact (World.cell?_setCell_other _ _ _ _ (by intro hh;exact e (by have:=congrArg Addr.off hh;simpa using this))).trans (h.c j b hj)
 ·rw [zj]
  by_cases e:i=j
  ·subst e
   have hl:i<bs.length:=by have:=(List.getElem?_eq_some_iff.1 hj).1;simpa using this
   exact h.f i bs[i] (List.getElem?_eq_getElem hl)
  ·rw [List.getElem?_set_ne e] at hj
   exact h.f j b hj
theorem v7.row {w:World}{g:Nat}{bs:List Bool}(h:v7 w g bs)(hg:g<w.heap.size){cap:Nat}(hc:bs.length≤cap):yE w (.slice (some ⟨g,0,none⟩) bs.length cap) bs:=⟨g,cap,rfl,hc,hg,h.c⟩
theorem zf.laterB {P:Nat→Prop}{a b c:World}(h:zf (fun _=>False) a b)(k:zf P b c)(hP:∀ i,P i→a.heap.size≤i):zf (fun _=>False) a c:=
 ⟨k.os.trans h.os,k.tape.trans h.tape,k.output.trans h.output,Nat.le_trans h.size k.size,fun i hi hn=>(k.block i (Nat.lt_of_lt_of_le hi h.size) (fun hp=>by have:=hP i hp;omega)).trans (h.block i hi hn)⟩
theorem Tryz.infoBool:(Tryz.prog.info? 4).map (fun i=>(i.zero,i.size,i.bytes))=some (some (.bool false),1,1):=by kernel_rfl
theorem ko (n:Nat)(hn:n≤1000)(w:World):(Instr.makeSlice 114 (.int .i64 (n:Int)) (.int .i64 (n:Int))).run Tryz.prog w = .ok (.slice (some ⟨w.heap.size,0,none⟩) n n) (w.alloc (.cells (madeCells #[.bool false] n) 4)):=
 run_make_row' 114 4 (.bool false) 1 Tryz.underlying114 Tryz.infoBool rfl .i64 .i64 n (by omega) (by omega) w
theorem Xg (n j:Nat)(h:j<n):(madeCells #[.bool false] n)[j]?=some (.bool false):=by
 unfold madeCells
 simp [h,Nat.mod_one]
theorem v7.made (w:World)(n:Nat):v7 (w.alloc (.cells (madeCells #[.bool false] n) 4)) w.heap.size (List.replicate n false):=by
 refine ⟨fun j b hj=>?_,fun j b hj=>zv w _ rfl _ _ j⟩
 have hl:=(List.getElem?_eq_some_iff.1 hj).1
 simp at hl
 rw [List.getElem?_replicate,if_pos hl] at hj
 obtain rfl:=Option.some.inj hj
 exact zo w _ rfl _ _ j _ (Xg n j hl)
theorem vr (sa sb:Value)(xs ys:List Bool)(w:World)(ha:yE w sa xs)(hb:yE w sb ys)(he:ys.length=xs.length)(hl:xs.length≤1000) :
  Calls Tryz.prog 94 #[sa,sb] w fun x w'=>∃ sv,x = .returned sv∧yE w' sv (List.zipWith (· || ·) xs ys)∧zf (fun _=>False) w w':=by
 obtain ⟨ga,ca,rfl,hca,hga,hac⟩:=ha
 obtain ⟨gb,cb,rfl,hcb,hgb,hbc⟩:=hb
 have hmk:=ko xs.length hl
 have HA:=ze hac
 have HB:=ze hbc
 have HM:=ze (v7.made w xs.length)
 clear hac hbc
 go_enter Tryz.func94,Tryz.ntmps94
 go_wp2_with fail
 clear hmk
 have hO0:zf (fun _=>False) w (w.alloc (.cells (madeCells #[.bool false] xs.length) 4)):=(zf.refl _ _).alloc _
 have hs0:w.heap.size<(w.alloc (.cells (madeCells #[.bool false] xs.length) 4)).heap.size:=by simp
 have HO0:=ze hO0
 clear hO0
 generalize w.alloc (.cells (madeCells #[.bool false] xs.length) 4)=W at *
 generalize hG:w.heap.size=G at *
 go_loopw [6] (fun k wr=>∃ n:Nat,k = .int .i64 n∧n≤xs.length∧Hid (zf (fun g=>g=G) W wr)∧Hid (v7 wr G ((List.zipWith (· || ·) xs ys).take n++List.replicate (xs.length-n) false))) (fun k _=>xs.length-(intOf k).toNat)
 case atStart=>exact ⟨0,rfl,by omega,zf.refl _ _,by simpa using HM⟩
 case round=>
  obtain ⟨n,rfl,hn,HK,HB1⟩:=hrel
  have hK:zf (fun g=>g=G) w wr:=((zb HO0).mono (fun _ _ f=>f.elim)).trans (zb HK)
  by_cases hlt:n<xs.length
  ·have hlt2:n<ys.length:=by omega
   have hzl:(List.zipWith (· || ·) xs ys).length=xs.length:=by simp [he]
   have c1:=zg hK _ _ (zb HA n xs[n] (List.getElem?_eq_getElem hlt)) (fun e=>by have:ga=G:=e;omega)
   have c2:=zg hK _ _ (zb HB n ys[n] (List.getElem?_eq_getElem hlt2)) (fun e=>by have:gb=G:=e;omega)
   have hz:(List.zipWith (· || ·) xs ys)[n]?=some (xs[n] ||ys[n]):=by rw [List.getElem?_zipWith,List.getElem?_eq_getElem hlt,List.getElem?_eq_getElem hlt2]
   have hset:Hid (((List.zipWith (· || ·) xs ys).take n++List.replicate (xs.length-n) false).set n (xs[n] ||ys[n])=(List.zipWith (· || ·) xs ys).take (n+1)++List.replicate (xs.length-(n+1)) false):=by
    have e1:((List.zipWith (· || ·) xs ys).take n).length=n:=by rw [List.length_take,hzl];omega
    show _=_
    rw [List.set_append_right _ _ (by omega),e1,Nat.sub_self,List.take_add_one,hz]
    rw [show xs.length-n=(xs.length-(n+1))+1 by omega,List.replicate_succ]
    simp
   have hown:=zb HB1
   have hcell:wr.cell? ⟨G,n,none⟩=some (.bool false):=hown.c n false (by
    rw [List.getElem?_append_right (by rw [List.length_take,hzl];omega),List.length_take,hzl,List.getElem?_replicate,if_pos (by omega)])
   have hfr:wr.frozen? ⟨G,n,none⟩=false:=hown.f n false (by
    rw [List.getElem?_append_right (by rw [List.length_take,hzl];omega),List.length_take,hzl,List.getElem?_replicate,if_pos (by omega)])
   clear hown hz
   generalize xs[n]=p at *
   generalize ys[n]=q at *
   cases p
   all_goals
    go_wp2_with fail
    go_roundw
    case rel=>exact ⟨n+1,by go_num,by omega,(zb HK).setCell (.inl rfl) _,by rw [←zb hset];exact (zb HB1).set n _⟩
    case measure=>simp [intOf];omega
  ·obtain rfl:n=xs.length:=by omega
   go_wp2_with fail
   go_ret
   have hzl:(List.zipWith (· || ·) xs ys).length=xs.length:=by simp [he]
   have hown:=zb HB1
   rw [Nat.sub_self,List.replicate_zero,List.append_nil,List.take_of_length_le (by omega)] at hown
   refine ⟨_,rfl,?_,(zb HO0).laterB (zb HK) (fun i hi=>by omega)⟩
   have:=hown.row (by have:=(zb HK).size;omega) (cap:=xs.length) (by omega)
   rwa [hzl] at this
theorem WM (sa sb:Value)(xs ys:List Bool)(w:World)(ha:yE w sa xs)(hb:yE w sb ys)(he:ys.length=xs.length)(hl:xs.length≤1000) :
  Calls Tryz.prog 141 #[sa,sb] w fun x w'=>x = .returned (.bool (decide (xs=ys)))∧zf (fun _=>False) w w':=by
 obtain ⟨ga,ca,rfl,hca,hga,hac⟩:=ha
 obtain ⟨gb,cb,rfl,hcb,hgb,hbc⟩:=hb
 have HA:=ze hac
 have HB:=ze hbc
 clear hac hbc
 go_enter Tryz.func141,Tryz.ntmps141
 go_wp2_with fail
 go_loopw [5] (fun k wr=>∃ n q:Nat,k = .int .i64 n∧n≤xs.length∧wr=w.drewN q∧Hid (xs.take n=ys.take n)) (fun k _=>xs.length-(intOf k).toNat)
 case atStart=>exact ⟨0,0,rfl,by omega,rfl,rfl⟩
 case round=>
  obtain ⟨n,q,rfl,hn,rfl,HT⟩:=hrel
  by_cases hlt:n<xs.length
  ·have hlt2:n<ys.length:=by omega
   have c1:=zb HA n xs[n] (List.getElem?_eq_getElem hlt)
   have c2:=zb HB n ys[n] (List.getElem?_eq_getElem hlt2)
   have HN:Hid (xs[n]≠ys[n]→xs≠ys):=fun hh e=>hh (by subst e;rfl)
   have HY:Hid (xs[n]=ys[n]→xs.take (n+1)=ys.take (n+1)):=fun hh=>by
    rw [List.take_add_one,List.take_add_one,zb HT,List.getElem?_eq_getElem hlt,List.getElem?_eq_getElem hlt2,hh]
   generalize xs[n]=p at *
   generalize ys[n]=r at *
   cases p<;>cases r
   case' false.false=>have HT1:=ze (zb HY rfl)
   case' true.true=>have HT1:=ze (zb HY rfl)
   case' false.true=>have HNE:=ze (zb HN (by decide))
   case' true.false=>have HNE:=ze (zb HN (by decide))
   all_goals
    clear HY HN
    go_wp2_with fail
    go_quiet (fail)
    go_wp2_with fail
   all_goals (try go_ret)
   all_goals first
    |exact ⟨⟨n+1,_,by go_num,by omega,rfl,HT1⟩,by simp [intOf];omega⟩
    |exact ⟨by rw [decide_eq_false (zb HNE)];rfl,(zf.refl _ _).drewN _⟩
    |exact ⟨by rw [decide_eq_false (zb HNE)];rfl,((zf.refl _ _).drewN _).drewN _⟩
  ·obtain rfl:n=xs.length:=by omega
   go_wp2_with fail
   go_ret
   refine ⟨?_,(zf.refl _ _).drewN _⟩
   have e:=zb HT
   rw [List.take_of_length_le (Nat.le_refl _),List.take_of_length_le (by omega)] at e
   rw [decide_eq_true e]
   rfl
set_option maxHeartbeats 4000000
namespace Ref
def Xh (t:Tok)(l:List (Int×Int))(i j:Nat):Prop:=(t.kind=2∧j=i∧asB t.c l i=true)∨(t.kind≠2∧i<l.length∧j=i+1∧Eqv.Zo t (chAt l i)=true)
def Img (X:Nat→Nat→Prop)(xs ys:List Bool):Prop:=ys.length=xs.length∧∀ j,ys[j]?=some true↔j<xs.length∧∃ i,xs[i]?=some true∧X i j
def Zd (X:Nat→Nat→Prop)(xs:List Bool)(n:Nat)(ys:List Bool):Prop:=ys.length=xs.length∧∀ j,ys[j]?=some true↔j<xs.length∧∃ i,i<n∧xs[i]?=some true∧X i j
theorem Zd.zero (X:Nat→Nat→Prop)(xs:List Bool):Zd X xs 0 (List.replicate xs.length false):=by
 refine ⟨by simp,fun j=>?_⟩
 constructor
 ·intro h
  rw [List.getElem?_replicate] at h
  split at h<;>simp at h
 ·rintro ⟨_,i,h,_⟩
  omega
theorem Zd.full {X:Nat→Nat→Prop}{xs ys:List Bool}{n:Nat}(h:Zd X xs n ys)(hn:xs.length≤n):Img X xs ys:=by
 refine ⟨h.1,fun j=>?_⟩
 rw [h.2 j]
 constructor
 ·rintro ⟨h1,i,_,h2⟩;exact ⟨h1,i,h2⟩
 ·rintro ⟨h1,i,h2,h3⟩;exact ⟨h1,i,by have:=(List.getElem?_eq_some_iff.1 h2).1;omega,h2,h3⟩
theorem Zd.skip {X:Nat→Nat→Prop}{xs ys:List Bool}{n:Nat}(h:Zd X xs n ys)(hn:xs[n]?=some true→∀ j,j<xs.length→¬X n j):Zd X xs (n+1) ys:=by
 refine ⟨h.1,fun j=>?_⟩
 rw [h.2 j]
 constructor
 ·rintro ⟨h1,i,h2,h3⟩;exact ⟨h1,i,by omega,h3⟩
 ·rintro ⟨h1,i,h2,h3,h4⟩
  by_cases e:i<n
  ·exact ⟨h1,i,e,h3,h4⟩
  ·obtain rfl:i=n:=by omega
   exact absurd h4 (hn h3 j h1)
theorem Zd.step {X:Nat→Nat→Prop}{xs ys:List Bool}{n m:Nat}{b v:Bool}(h:Zd X xs n ys)(hn:xs[n]?=some true)(hm:m<xs.length)(hX:∀ j,X n j↔j=m∧b=true)(hv:v=true↔ys[m]?=some true∨b=true):Zd X xs (n+1) (ys.set m v):=by
 refine ⟨by rw [List.length_set];exact h.1,fun j=>?_⟩
 have hml:m<ys.length:=by rw [h.1];exact hm
 by_cases e:m=j
 ·subst e
  rw [List.getElem?_set_self hml]
  have e1:(some v=some true)↔v=true:=by simp
  rw [e1,hv,h.2 m]
  constructor
  ·rintro (⟨h1,i,h2,h3⟩ |hb)
   ·exact ⟨h1,i,by omega,h3⟩
   ·exact ⟨hm,n,by omega,hn,(hX m).2 ⟨rfl,hb⟩⟩
  ·rintro ⟨h1,i,h2,h3,h4⟩
   by_cases e:i<n
   ·exact .inl ⟨h1,i,e,h3,h4⟩
   ·obtain rfl:i=n:=by omega
    exact .inr ((hX m).1 h4).2
 ·rw [List.getElem?_set_ne e,h.2 j]
  constructor
  ·rintro ⟨h1,i,h2,h3⟩;exact ⟨h1,i,by omega,h3⟩
  ·rintro ⟨h1,i,h2,h3,h4⟩
   by_cases e2:i<n
   ·exact ⟨h1,i,e2,h3,h4⟩
   ·obtain rfl:i=n:=by omega
    exact absurd ((hX j).1 h4).1.symm e
end Ref
theorem yU.keepB {P:Nat→Prop}{w w':World}{sv:Value}{l:List (Int×Int)}(h:yU w sv l)(k:zf P w w')(hn:∀ {g},P g→¬g<w.heap.size):yU w' sv l:=by
 rcases h with h |⟨g,cap,h1,h2,h3,h4⟩
 ·exact .inl h
 ·exact .inr ⟨g,cap,h1,h2,Nat.lt_of_lt_of_le h3 k.size,fun j p hj=>⟨zg k _ _ (h4 j p hj).1 (fun f=>hn f h3),zg k _ _ (h4 j p hj).2 (fun f=>hn f h3)⟩⟩
theorem Zc.keepB {P:Nat→Prop}{w w':World}{sv:Value}{l:List Pt}(h:Zc w sv l)(k:zf P w w')(hn:∀ {g},P g→¬g<w.heap.size):Zc w' sv l:=by
 rcases h with h |⟨g,cap,h1,h2,h3,h4⟩
 ·exact .inl h
 ·refine .inr ⟨g,cap,h1,h2,Nat.lt_of_lt_of_le h3 k.size,fun j p hj=>?_⟩
  obtain ⟨pa,pn,pc,a1,a2,a3⟩:=h4 j p hj
  exact ⟨pa,pn,pc,zg k _ _ a1 (fun f=>hn f h3),zg k _ _ a2 (fun f=>hn f h3),a3.keepB k hn⟩
theorem za2 (t:Tok)(tv cv fv:Value)(l:List (Int×Int))(xs:List Bool)(w:World)(ht:Zc w tv t.parts)(hc:yU w cv l)(hx:yE w fv xs)(hl:l.length≤900)(hxl:xs.length=l.length+1)(hp:t.parts.length≤1000)(hs:∀ p∈t.parts,p.spans.length≤10) :
  Calls Tryz.prog 142 #[tokV t tv,cv,fv] w fun x w'=>∃ sv ys,x = .returned sv∧yE w' sv ys∧Ref.Img (Ref.Xh t l) xs ys∧zf (fun _=>False) w w':=by
 unfold tokV
 have hx1:xs.length≤l.length+1:=by omega
 have hx2:l.length<xs.length:=by omega
 clear hxl
 obtain ⟨gx,cx,rfl,hcx,hgx,hxc⟩:=hx
 obtain ⟨pa,pn,pc,rfl⟩:∃ pa pn pc,tv = .slice pa pn pc:=by rcases ht with ⟨h1,_⟩ |⟨g,cap,h1,_⟩<;>exact ⟨_,_,_,h1⟩
 obtain ⟨ca,cc,rfl⟩:=hc.len
 have hmk:=ko xs.length (by omega)
 have HX:=ze hxc
 have HT:=ze ht
 have HC:=ze hc
 have HS:=ze hs
 have HM:=ze (v7.made (w.alloc (.cells #[.int .i64 t.kind,.bool t.neg,.slice pa pn pc,.int .i64 t.c,.int .i64 t.mn,.int .i64 t.mx] 178)) xs.length)
 have HO0:Hid (zf (fun _=>False) w ((w.alloc (.cells #[.int .i64 t.kind,.bool t.neg,.slice pa pn pc,.int .i64 t.c,.int .i64 t.mn,.int .i64 t.mx] 178)).alloc (.cells (madeCells #[.bool false] xs.length) 4))):=((zf.refl _ _).alloc _).alloc _
 have q0:∀ (j:Nat) v,(#[.int .i64 t.kind,.bool t.neg,.slice pa pn pc,.int .i64 t.c,.int .i64 t.mn,.int .i64 t.mx]:Array Value)[j]?=some v→((w.alloc (.cells #[.int .i64 t.kind,.bool t.neg,.slice pa pn pc,.int .i64 t.c,.int .i64 t.mn,.int .i64 t.mx] 178)).alloc (.cells (madeCells #[.bool false] xs.length) 4)).cell? ⟨w.heap.size,j,none⟩=some v:=fun j v hj=>
  zg ((zf.refl (fun _=>False) _).alloc _) _ _ (zo w _ rfl _ _ j _ hj) (fun f=>f)
 have Q0:=ze q0
 clear hxc ht hc hs q0
 go_enter Tryz.func142,Tryz.ntmps142
 go_wp2_with fail
 clear hmk
 have hs0:w.heap.size+1<((w.alloc (.cells #[.int .i64 t.kind,.bool t.neg,.slice pa pn pc,.int .i64 t.c,.int .i64 t.mn,.int .i64 t.mx] 178)).alloc (.cells (madeCells #[.bool false] xs.length) 4)).heap.size:=by simp
 have hsz1:(w.alloc (.cells #[.int .i64 t.kind,.bool t.neg,.slice pa pn pc,.int .i64 t.c,.int .i64 t.mn,.int .i64 t.mx] 178)).heap.size=w.heap.size+1:=by simp
 rw [hsz1] at HM
 clear hsz1
 generalize (w.alloc (.cells #[.int .i64 t.kind,.bool t.neg,.slice pa pn pc,.int .i64 t.c,.int .i64 t.mn,.int .i64 t.mx] 178)).alloc (.cells (madeCells #[.bool false] xs.length) 4)=W at *
 go_loopw [8] (fun k wr=>∃ (n:Nat) (ys:List Bool),k = .int .i64 n∧n≤xs.length∧Hid (zf (fun g=>g=w.heap.size+1) W wr)∧Hid (v7 wr (w.heap.size+1) ys)∧Hid (Ref.Zd (Ref.Xh t l) xs n ys)) (fun k _=>xs.length-(intOf k).toNat)
 case atStart=>exact ⟨0,List.replicate xs.length false,rfl,by omega,zf.refl _ _,HM,Ref.Zd.zero _ _⟩
 case round=>
  obtain ⟨n,ys,rfl,hn,HK,HB,HI⟩:=hrel
  have hK:zf (fun g=>g=w.heap.size+1) w wr:=((zb HO0).mono (fun _ _ f=>f.elim)).trans (zb HK)
  have hyl:=(zb HI).1
  by_cases hlt:n<xs.length
  ·have c1:=zg hK _ _ (zb HX n xs[n] (List.getElem?_eq_getElem hlt)) (fun e=>by have:gx=w.heap.size+1:=e;omega)
   have k0:=zg (zb HK) _ _ (zb Q0 0 _ rfl) (fun e=>by have:w.heap.size=w.heap.size+1:=e;omega)
   have k1:=zg (zb HK) _ _ (zb Q0 1 _ rfl) (fun e=>by have:w.heap.size=w.heap.size+1:=e;omega)
   have k2:=zg (zb HK) _ _ (zb Q0 2 _ rfl) (fun e=>by have:w.heap.size=w.heap.size+1:=e;omega)
   have k3:=zg (zb HK) _ _ (zb Q0 3 _ rfl) (fun e=>by have:w.heap.size=w.heap.size+1:=e;omega)
   have k4:=zg (zb HK) _ _ (zb Q0 4 _ rfl) (fun e=>by have:w.heap.size=w.heap.size+1:=e;omega)
   have k5:=zg (zb HK) _ _ (zb Q0 5 _ rfl) (fun e=>by have:w.heap.size=w.heap.size+1:=e;omega)
   have hxn:xs[n]?=some xs[n]:=List.getElem?_eq_getElem hlt
   cases hb:xs[n]
   ·rw [hb] at c1
    have HI1:=ze ((zb HI).skip (fun e=>by rw [hxn,hb] at e;cases e))
    clear hxn hb
    go_wp2_with fail
    go_roundw
    case rel=>exact ⟨n+1,ys,by go_num,by omega,HK,HB,HI1⟩
    case measure=>simp [intOf];omega
   ·rw [hb] at c1 hxn
    clear hb
    have hG:∀ w2,zf (fun _=>False) wr w2→zf (fun g=>g=w.heap.size+1) W w2:=fun w2 h2=>(zb HK).trans (h2.mono (fun _ _ f=>f.elim))
    have HG:=ze hG
    have HB2:Hid (∀ w2,zf (fun _=>False) wr w2→v7 w2 (w.heap.size+1) ys):=fun w2 h2=>(zb HB).keep h2 (fun f=>f)
    clear hG
    by_cases hk2:t.kind=2
    ·have hkb:(t.kind == 2)=true:=by simp [hk2]
     have hX:Hid (∀ j,Ref.Xh t l n j↔j=n∧Ref.asB t.c l n=true):=fun j=>by
      unfold Ref.Xh
      constructor
      ·rintro (⟨_,h1,h2⟩ |⟨h1,_⟩)
       ·exact ⟨h1,h2⟩
       ·exact absurd hk2 h1
      ·rintro ⟨h1,h2⟩;exact .inl ⟨hk2,h1,h2⟩
     have hyn:Hid (¬ys[n]?=some true):=fun e=>by
      obtain ⟨_,i,h1,h2,h3⟩:=((zb HI).2 n).1 e
      rcases h3 with ⟨_,h4,_⟩ |⟨h4,_⟩
      ·omega
      ·exact absurd hk2 h4
     clear hk2
     have hyn2:n<ys.length:=by omega
     have HF:Hid (∀ w2,zf (fun _=>False) wr w2→w2.cell? ⟨w.heap.size+1,n,none⟩=some (.bool ys[n])∧w2.frozen? ⟨w.heap.size+1,n,none⟩=false):=fun w2 h2=>⟨(zb HB2 w2 h2).c n _ (List.getElem?_eq_getElem hyn2),(zb HB2 w2 h2).f n _ (List.getElem?_eq_getElem hyn2)⟩
     go_wp2_with (go_at_call 178;refine (K9 t.c _ l n _ ((zb HC).keepB hK (fun e=>by omega)) (by omega) (by omega)).mono ?_;rintro e w2 ⟨rfl,hO2⟩;obtain ⟨z1,z2⟩:=zb HF w2 hO2;have HO2:=ze hO2;clear hO2)
     go_roundw
     case rel=>exact ⟨n+1,ys.set n (Ref.asB t.c l n),by go_num,by omega,(zb HG _ (zb HO2)).setCell (.inl rfl) _,(zb HB2 _ (zb HO2)).set n _,(zb HI).step hxn hlt (zb hX) ⟨fun h=>.inr h,fun h=>h.elim (fun h=>absurd h (zb hyn)) (fun h=>h)⟩⟩
     case measure=>simp [intOf];omega
    ·have hkb:(t.kind == 2)=false:=by simp [hk2]
     by_cases hnl:n<l.length
     ·obtain ⟨g',cap',hcv,hcap,hch⟩:=((zb HC).keepB hK (fun e=>by omega)).at hnl
      have hca:ca=some ⟨g',0,none⟩:=by simp at hcv;exact hcv.1
      have hcc:l.length≤cc:=by simp at hcv;omega
      subst hca
      clear hcv hcap
      have hX:Hid (∀ j,Ref.Xh t l n j↔j=n+1∧Eqv.Zo t (Ref.chAt l n)=true):=fun j=>by
       unfold Ref.Xh
       constructor
       ·rintro (⟨h1,_⟩ |⟨_,_,h1,h2⟩)
        ·exact absurd h1 hk2
        ·exact ⟨h1,h2⟩
       ·rintro ⟨h1,h2⟩;exact .inr ⟨hk2,hnl,h1,h2⟩
      clear hk2
      have hyn2:n+1<ys.length:=by omega
      have hy1:ys[n+1]?=some ys[n+1]:=List.getElem?_eq_getElem hyn2
      have HF:Hid (∀ w2,zf (fun _=>False) wr w2→w2.cell? ⟨w.heap.size+1,n+1,none⟩=some (.bool ys[n+1])∧w2.frozen? ⟨w.heap.size+1,n+1,none⟩=false):=fun w2 h2=>⟨(zb HB2 w2 h2).c (n+1) _ hy1,(zb HB2 w2 h2).f (n+1) _ hy1⟩
      have HV:Hid (∀ b:Bool,((ys[n+1] ||b)=true↔ys[n+1]?=some true∨b=true)):=fun b=>by rw [hy1];simp
      have HZ:Hid (∀ W',zf (fun _=>False) wr W'→Calls Tryz.prog 179 #[.agg #[.int .i64 t.kind,.bool t.neg,.slice pa pn pc,.int .i64 t.c,.int .i64 t.mn,.int .i64 t.mx],.int .i64 (Ref.chAt l n)] W' fun x w'=>x = .returned (.bool (Eqv.Zo t (Ref.chAt l n)))∧zf (fun _=>False) wr w'∧
        w'.cell? ⟨w.heap.size,0,none⟩=some (.int .i64 t.kind)∧w'.cell? ⟨w.heap.size,1,none⟩=some (.bool t.neg)∧w'.cell? ⟨w.heap.size,2,none⟩=some (.slice pa pn pc)∧w'.cell? ⟨w.heap.size,3,none⟩=some (.int .i64 t.c)∧w'.cell? ⟨w.heap.size,4,none⟩=some (.int .i64 t.mn)∧w'.cell? ⟨w.heap.size,5,none⟩=some (.int .i64 t.mx)∧w'.cell? ⟨g',n*2,none⟩=some (.int .i64 (Ref.chAt l n))):=fun W' hW'=>
       (zcL t (.slice pa pn pc) (Ref.chAt l n) W' (((zb HT).keepB hK (fun e=>by omega)).keep hW') hp (zb HS)).mono (by
        rintro e w' ⟨rfl,hO⟩
        have k:=hW'.trans hO
        exact ⟨rfl,k,zg k _ _ k0 (fun f=>f),zg k _ _ k1 (fun f=>f),zg k _ _ k2 (fun f=>f),zg k _ _ k3 (fun f=>f),zg k _ _ k4 (fun f=>f),zg k _ _ k5 (fun f=>f),zg k _ _ hch (fun f=>f)⟩)
      generalize ys[n+1]=y1 at *
      clear hy1
      go_wp2_with fail
      go_region_held3 (fun w'=>w'.cell? ⟨w.heap.size,0,none⟩=some (.int .i64 t.kind)∧w'.cell? ⟨w.heap.size,1,none⟩=some (.bool t.neg)∧w'.cell? ⟨w.heap.size,2,none⟩=some (.slice pa pn pc)∧w'.cell? ⟨w.heap.size,3,none⟩=some (.int .i64 t.c)∧w'.cell? ⟨w.heap.size,4,none⟩=some (.int .i64 t.mn)∧w'.cell? ⟨w.heap.size,5,none⟩=some (.int .i64 t.mx)∧w'.cell? ⟨g',n*2,none⟩=some (.int .i64 (Ref.chAt l n))) (go_keep)
       (first |(go_at_call 179;refine (zb HZ _ ((zf.refl _ _).drewN _)).mono ?_;rintro e w2 ⟨rfl,hO2,z0,z1,z2,z3,z4,z5,z6⟩))
      obtain ⟨y2,y3⟩:=zb HF w2 hO2
      have HO2:=ze hO2
      clear hO2 z0 z1 z2 z3 z4 z5 z6
      have hstp:=ze ((zb HI).step (v:=y1 ||Eqv.Zo t (Ref.chAt l n)) hxn (by omega) (zb hX) (zb HV _))
      clear hX HV HZ
      generalize Eqv.Zo t (Ref.chAt l n)=tk at *
      cases y1
      all_goals
       go_wp2_with fail
       go_roundw
       case rel=>exact ⟨n+1,_,by go_num,by omega,(zb HG _ (zb HO2)).setCell (.inl rfl) _,(zb HB2 _ (zb HO2)).set (n+1) _,zb hstp⟩
       case measure=>simp [intOf];omega
     ·have HI1:=ze ((zb HI).skip (fun _ j _ h=>by
       rcases h with ⟨h,_⟩ |⟨_,h,_⟩
       ·exact hk2 h
       ·exact hnl h))
      clear hk2
      go_wp2_with fail
      go_roundw
      case rel=>exact ⟨n+1,ys,by go_num,by omega,HK,HB,HI1⟩
      case measure=>simp [intOf];omega
  ·go_wp2_with fail
   go_ret
   have:=(zb HB).row (by have:=(zb HK).size;omega) (cap:=xs.length) (by omega)
   rw [hyl] at this
   exact ⟨_,ys,rfl,this,(zb HI).full (by omega),(zb HO0).laterB (zb HK) (fun i hi=>by omega)⟩
namespace Sm
variable {lf:Tree→Nat→Prop} {ah:Int→Nat→Prop}
theorem pow_le {R:Nat→Nat→Prop}(h:∀ i j,R i j→i≤j):∀ (k i j:Nat),pow R k i j→i≤j
 |0,i,j,e=>by rw [show i=j from e];exact Nat.le_refl _
 |k+1,i,j,⟨m,h1,h2⟩=>Nat.le_trans (h i m h1) (pow_le h k m j h2)
theorem WN {X:Tree→Nat→Nat→Prop}:∀ (ts:List Tree),(∀ t∈ts,∀ i j,X t i j→i≤j)→∀ i j,j4 X ts i j→i≤j
 | [],_,i,j,e=>by rw [show i=j from e];exact Nat.le_refl _
 |t :: ts,h,i,j,⟨m,h1,h2⟩=>Nat.le_trans (h t (by simp) i m h1) (WN ts (fun u hu=>h u (by simp [hu])) m j h2)
theorem M_le:∀ (f:Nat)(T:Tree)(i j:Nat),M lf ah f T i j→i≤j
 |0,_,_,_,h=>h.elim
 |f+1,T,i,j,h=>by
  unfold M at h
  split at h
  ·rw [h.1];exact Nat.le_refl _
  ·split at h
   ·obtain ⟨t,_,h⟩:=h;exact M_le f t i j h
   ·split at h
    ·exact WN _ (fun t _=>M_le f t) i j h
    ·split at h
     ·obtain ⟨k,_,_,h⟩:=h;exact pow_le (M_le f _) k i j h
     ·omega
end Sm
namespace Ref
theorem Img.congr {X Y:Nat→Nat→Prop}{xs ys:List Bool}(h:Img X xs ys)(e:∀ i j,X i j↔Y i j):Img Y xs ys:=
 ⟨h.1,fun j=>by rw [h.2 j];constructor<;>rintro ⟨h1,i,h2,h3⟩<;>exact ⟨h1,i,h2,by first |exact (e i j).1 h3 |exact (e i j).2 h3⟩⟩
theorem Img.id (xs:List Bool):Img (fun i j=>i=j) xs xs:=⟨rfl,fun j=>by
 constructor
 ·intro h;exact ⟨(List.getElem?_eq_some_iff.1 h).1,j,h,rfl⟩
 ·rintro ⟨_,i,h,rfl⟩;exact h⟩
theorem Img.comp {X R:Nat→Nat→Prop}{xs ys zs:List Bool}(h:Img X xs ys)(g:Img R ys zs)(hR:∀ i j,R i j→i≤j):Img (fun i j=>∃ m,X i m∧R m j) xs zs:=by
 refine ⟨g.1.trans h.1,fun j=>?_⟩
 rw [g.2 j,h.1]
 constructor
 ·rintro ⟨h1,p,h2,h3⟩
  obtain ⟨_,i,h4,h5⟩:=(h.2 p).1 h2
  exact ⟨h1,i,h4,p,h5,h3⟩
 ·rintro ⟨h1,i,h4,p,h5,h3⟩
  exact ⟨h1,p,(h.2 p).2 ⟨by have:=hR p j h3;omega,i,h4,h5⟩,h3⟩
theorem or_get {ys zs:List Bool}(he:zs.length=ys.length)(j:Nat):(List.zipWith (· || ·) ys zs)[j]?=some true↔ys[j]?=some true∨zs[j]?=some true:=by
 by_cases hj:j<ys.length
 ·rw [List.getElem?_zipWith,List.getElem?_eq_getElem hj,List.getElem?_eq_getElem (by omega)]
  simp
 ·rw [List.getElem?_eq_none (by simp;omega),List.getElem?_eq_none (by omega),List.getElem?_eq_none (by omega)]
  simp
theorem Img.or {X Y:Nat→Nat→Prop}{xs ys zs:List Bool}(h:Img X xs ys)(g:Img Y xs zs):Img (fun i j=>X i j∨Y i j) xs (List.zipWith (· || ·) ys zs):=by
 refine ⟨by rw [List.length_zipWith,h.1,g.1];omega,fun j=>?_⟩
 rw [or_get (g.1.trans h.1.symm),h.2 j,g.2 j]
 constructor
 ·rintro (⟨h1,i,h2,h3⟩ |⟨h1,i,h2,h3⟩)
  ·exact ⟨h1,i,h2,.inl h3⟩
  ·exact ⟨h1,i,h2,.inr h3⟩
 ·rintro ⟨h1,i,h2,h3 |h3⟩
  ·exact .inl ⟨h1,i,h2,h3⟩
  ·exact .inr ⟨h1,i,h2,h3⟩
theorem Img.none (xs:List Bool):Img (fun _ _=>False) xs (List.replicate xs.length false):=⟨by simp,fun j=>by
 constructor
 ·intro h
  rw [List.getElem?_replicate] at h
  split at h<;>simp at h
 ·rintro ⟨_,_,_,h⟩;exact h.elim⟩
theorem Img.still {R:Nat→Nat→Prop}{xs ys:List Bool}{k:Nat}(hR:∀ i j,R i j→i≤j)(h:Img (Sm.pow R k) xs ys)(g:Img R ys ys):∀ m,Img (Sm.pow R (k+m)) xs ys
 |0=>h
 |m+1=>((Img.still hR h g m).comp g hR).congr (fun i j=>by
   rw [←Nat.add_assoc,Sm.jc R (k+m) 1 i j]
   constructor
   ·rintro ⟨p,h1,h2⟩;exact ⟨p,h1,j,h2,rfl⟩
   ·rintro ⟨p,h1,q,h2,rfl⟩;exact ⟨p,h1,h2⟩)
theorem Img.pow_succ {R:Nat→Nat→Prop}{xs ys zs:List Bool}{k:Nat}(hR:∀ i j,R i j→i≤j)(h:Img (Sm.pow R k) xs ys)(g:Img R ys zs):Img (Sm.pow R (k+1)) xs zs:=
 (h.comp g hR).congr (fun i j=>by
  rw [Sm.jc R k 1 i j]
  constructor
  ·rintro ⟨p,h1,h2⟩;exact ⟨p,h1,j,h2,rfl⟩
  ·rintro ⟨p,h1,q,h2,rfl⟩;exact ⟨p,h1,h2⟩)
def span (R:Nat→Nat→Prop)(a b i j:Nat):Prop:=∃ k,a≤k∧k≤b∧Sm.pow R k i j
theorem Img.span_self {R:Nat→Nat→Prop}{xs ys:List Bool}{a:Nat}(h:Img (Sm.pow R a) xs ys):Img (span R a a) xs ys:=
 h.congr (fun i j=>⟨fun h=>⟨a,Nat.le_refl _,Nat.le_refl _,h⟩,fun h=>by
  obtain ⟨k,h1,h2,h3⟩:=h
  obtain rfl:k=a:=by omega
  exact h3⟩)
theorem Img.span_succ {R:Nat→Nat→Prop}{xs ys zs:List Bool}{a b:Nat}(hab:a≤b)(hR:∀ i j,R i j→i≤j)(h:Img (span R a b) xs ys)(g:Img R ys zs):Img (span R a (b+1)) xs (List.zipWith (· || ·) ys zs):=
 (h.or (h.comp g hR)).congr (fun i j=>by
  constructor
  ·rintro (⟨k,h1,h2,h3⟩ |⟨p,⟨k,h1,h2,h3⟩,h4⟩)
   ·exact ⟨k,h1,by omega,h3⟩
   ·exact ⟨k+1,by omega,by omega,(Sm.jc R k 1 i j).2 ⟨p,h3,j,h4,rfl⟩⟩
  ·rintro ⟨k,h1,h2,h3⟩
   by_cases hk:k≤b
   ·exact .inl ⟨k,h1,hk,h3⟩
   ·obtain rfl:k=b+1:=by omega
    obtain ⟨p,h4,q,h5,rfl⟩:=(Sm.jc R b 1 i j).1 h3
    exact .inr ⟨p,⟨b,hab,Nat.le_refl _,h4⟩,h5⟩)
theorem Img.closed {R:Nat→Nat→Prop}{xs ys zs:List Bool}{a b:Nat}(hab:a≤b)(hR:∀ i j,R i j→i≤j)(h:Img (span R a b) xs ys)(g:Img R ys zs)(e:List.zipWith (· || ·) ys zs=ys):Img (fun i j=>∃ k,a≤k∧Sm.pow R k i j) xs ys:=by
 have hsub:∀ j,zs[j]?=some true→ys[j]?=some true:=fun j hj=>by rw [←e];exact (or_get g.1 j).2 (.inr hj)
 refine ⟨h.1,fun j=>?_⟩
 constructor
 ·intro hj
  obtain ⟨h1,i,h2,k,h3,_,h4⟩:=(h.2 j).1 hj
  exact ⟨h1,i,h2,k,h3,h4⟩
 ·rintro ⟨h1,i,h2,k,h3,h4⟩
  obtain ⟨d,rfl⟩:∃ d,k=a+d:=⟨k-a,by omega⟩
  clear h3
  induction d generalizing j with
  |zero=>exact (h.2 j).2 ⟨h1,i,h2,a,Nat.le_refl _,by omega,h4⟩
  |succ d ih=>
   rw [←Nat.add_assoc] at h4
   obtain ⟨p,h5,q,h6,rfl⟩:=(Sm.jc R (a+d) 1 i j).1 h4
   have hp:=ih p (by have:=hR p q h6;omega) h5
   exact hsub q ((g.2 q).2 ⟨by rw [h.1];exact h1,p,hp,h6⟩)
def Qc (l:List Bool):Nat:=l.countP (fun b=>!b)
theorem lacks_le {ys zs:List Bool}(he:zs.length=ys.length):Qc (List.zipWith (· || ·) ys zs)≤Qc ys∧(List.zipWith (· || ·) ys zs≠ys→Qc (List.zipWith (· || ·) ys zs)<Qc ys):=by
 induction ys generalizing zs with
 |nil=>simp [Qc]
 |cons y ys ih=>
  cases zs with
  |nil=>simp at he
  |cons z zs=>
   obtain ⟨i1,i2⟩:=ih (zs:=zs) (by simpa using he)
   unfold Qc at *
   cases y<;>cases z<;>simp at *<;>first |(refine ⟨by omega,fun h=>?_⟩;have:=i2 h;omega) |omega |exact ⟨i1,i2⟩
end Ref
def lackN (w:World)(v:Value):Nat:=match v with
 | .slice (some a) n _=>((List.range n).filter fun j=>match w.cell? ⟨a.block,j,none⟩ with |some (.bool true)=>false |_=>true).length
 |_=>0
theorem yE.lackN {w:World}{sv:Value}{bs:List Bool}(h:yE w sv bs):lackN w sv=Ref.Qc bs:=by
 obtain ⟨g,cap,rfl,_,_,hc⟩:=h
 unfold Go.Proofs.YtnagphodmfejiaaGreatDoor.lackN Ref.Qc
 simp only []
 have key:∀ (k:Nat),k≤bs.length→((List.range k).filter fun j=>match w.cell? ⟨g,j,none⟩ with |some (.bool true)=>false |_=>true).length=(bs.take k).countP (fun b=>!b):=by
  intro k
  induction k with
  |zero=>intro _;simp
  |succ k ih=>
   intro hk
   rw [List.range_succ,List.filter_append,List.length_append,ih (by omega),List.take_add_one,List.getElem?_eq_getElem (by omega),List.countP_append]
   congr 1
   have:=hc k bs[k] (List.getElem?_eq_getElem (by omega))
   cases hb:bs[k]
   ·rw [hb] at this;simp [this]
   ·rw [hb] at this;simp [this]
 rw [key bs.length (Nat.le_refl _),List.take_of_length_le (Nat.le_refl _)]
open Sm (Tree)
def qF (w:World)(g off:Nat)(l:List Tok):Prop:=∀ (j:Nat) (t:Tok),l[j]?=some t→∃ pa pn pc,
 (w.cell? ⟨g,off+j*6,none⟩=some (.int .i64 t.kind)∧w.cell? ⟨g,off+j*6+1,none⟩=some (.bool t.neg)∧w.cell? ⟨g,off+j*6+2,none⟩=some (.slice pa pn pc)∧
 w.cell? ⟨g,off+j*6+3,none⟩=some (.int .i64 t.c)∧w.cell? ⟨g,off+j*6+4,none⟩=some (.int .i64 t.mn)∧w.cell? ⟨g,off+j*6+5,none⟩=some (.int .i64 t.mx))∧Zc w (.slice pa pn pc) t.parts
theorem qF.row {w:World}{g off:Nat}{l:List Tok}(h:qF w g off l):jo w g off l:=fun j t hj=>by
 obtain ⟨pa,pn,pc,h1,_⟩:=h j t hj
 exact ⟨pa,pn,pc,h1⟩
theorem qF.only {w w':World}{g off:Nat}{l:List Tok}(h:qF w g off l)(k:zf (fun _=>False) w w'):qF w' g off l:=fun j t hj=>by
 obtain ⟨pa,pn,pc,⟨z0,z1,z2,z3,z4,z5⟩,hp⟩:=h j t hj
 exact ⟨pa,pn,pc,⟨zg k _ _ z0 (fun f=>f),zg k _ _ z1 (fun f=>f),zg k _ _ z2 (fun f=>f),zg k _ _ z3 (fun f=>f),zg k _ _ z4 (fun f=>f),zg k _ _ z5 (fun f=>f)⟩,hp.keep k⟩
theorem qF.sub {w:World}{g off:Nat}{l:List Tok}(h:qF w g off l)(i m:Nat):qF w g (off+i*6) ((l.drop i).take m):=by
 intro j t hj
 rw [List.getElem?_take] at hj
 split at hj
 ·rw [List.getElem?_drop] at hj
  obtain ⟨pa,pn,pc,h0,h1⟩:=h (i+j) t hj
  have e:off+i*6+j*6=off+(i+j)*6:=by omega
  rw [e]
  exact ⟨pa,pn,pc,h0,h1⟩
 ·cases hj
namespace Ref
def lfT (l:List (Int×Int))(T:Tree)(i:Nat):Prop:=i<l.length∧Eqv.tkTree T (chAt l i)=true
def ahT (l:List (Int×Int))(a:Int)(i:Nat):Prop:=asB (Eqv.XC a) l i=true
def MM (l:List (Int×Int))(f:Nat)(T:Tree)(i j:Nat):Prop:=Sm.M (lfT l) (ahT l) f T i j
def altR (l:List (Int×Int))(f:Nat)(kids:List Tree)(i j:Nat):Prop:=∃ t∈kids,MM l (f+1) t i j
theorem MM_le (l:List (Int×Int))(f:Nat)(T:Tree)(i j:Nat)(h:MM l f T i j):i≤j:=Sm.M_le f T i j h
end Ref
structure Ctx (w:World)(cv fv:Value)(l:List (Int×Int))(xs:List Bool):Prop where
 c:yU w cv l
 f:yE w fv xs
 hl:l.length≤900
 hx:xs.length=l.length+1
def ZH (w:World)(xs:List Bool)(X:Nat→Nat→Prop)(x:Ending)(w':World):Prop:=∃ sv ys,x = .returned sv∧yE w' sv ys∧Ref.Img X xs ys∧zf (fun _=>False) w w'
def WO (f:Nat):Prop:=∀ (F g off cap:Nat) (ts:List Tok) (T:Tree) (cv fv:Value) (l:List (Int×Int)) (xs:List Bool) (w:World),3*f≤F→Eqv.xZ f ts T→T.kind≠7→qF w g off ts→ts.length≤1000→ts.length≤cap→Ctx w cv fv l xs→
 Calls Tryz.prog 96 #[.slice (some ⟨g,off,none⟩) ts.length cap,cv,fv] w (ZH w xs (Ref.MM l F T))
def ThrOK (f:Nat):Prop:=∀ (F g off cap:Nat) (ts:List Tok) (kids:List Tree) (cv fv:Value) (l:List (Int×Int)) (xs:List Bool) (w:World),3*f+1≤F→Eqv.kw (Eqv.xZ f) ts kids→(∀ t∈ts,Ref.jz t)→qF w g off ts→ts.length≤1000→ts.length≤cap→Ctx w cv fv l xs→
 Calls Tryz.prog 50 #[.slice (some ⟨g,off,none⟩) ts.length cap,cv,fv] w (ZH w xs (Ref.altR l F kids))
theorem WP:WO 0:=fun _ _ _ _ _ _ _ _ _ _ _ _ h=>h.elim
theorem Kx {F g off cap:Nat}{t:Tok}{T:Tree}{cv fv:Value}{l:List (Int×Int)}{xs:List Bool}{w:World}(h3:t.kind≠3)(hX:∀ i j,Ref.Xh t l i j↔Ref.MM l F T i j)(hp:t.parts.length≤1000)(hs:∀ p∈t.parts,p.spans.length≤10)(h:qF w g off [t])(hC:Ctx w cv fv l xs) :
  Calls Tryz.prog 96 #[.slice (some ⟨g,off,none⟩) 1 cap,cv,fv] w (ZH w xs (Ref.MM l F T)):=by
 obtain ⟨pa,pn,pc,⟨z0,z1,z2,z3,z4,z5⟩,hpt⟩:=h 0 t rfl
 simp only [Nat.zero_mul,Nat.add_zero] at z0 z1 z2 z3 z4 z5
 have h3':(t.kind == 3)=false:=by simp [h3]
 have HS:Hid (Calls Tryz.prog 142 #[.agg #[.int .i64 t.kind,.bool t.neg,.slice pa pn pc,.int .i64 t.c,.int .i64 t.mn,.int .i64 t.mx],cv,fv] w (ZH w xs (Ref.MM l F T))):=
  (za2 t (.slice pa pn pc) cv fv l xs w hpt hC.c hC.f hC.hl hC.hx hp hs).mono (by
   rintro e w' ⟨sv,ys,h1,h2,h3,h4⟩
   exact ⟨sv,ys,h1,h2,h3.congr hX,h4⟩)
 clear hX hp hs h hC h3 hpt
 go_enter Tryz.func96,Tryz.ntmps96
 go_wp2_with (go_at_call 142;refine (zb HS).mono ?_;rintro e w' ⟨sv,ys,rfl,h2,h3,h4⟩;have H2:=ze h2;have H3:=ze h3;have H4:=ze h4;clear h2 h3 h4)
 go_ret
 exact ⟨sv,ys,rfl,zb H2,zb H3,zb H4⟩
theorem zcM {f F g off cap:Nat}{ts us:List Tok}{o c:Tok}{T:Tree}{cv fv:Value}{l:List (Int×Int)}{xs:List Bool}{w:World}(hT:ThrOK f)(hF:3*f+1≤F)(h5:T.kind=5)(he:ts=o :: us++[c])(ho:o.kind=3)(hus:Eqv.kw (Eqv.xZ f) us T.kids)(hB:∀ t∈us,Ref.jz t)(h:qF w g off ts)(hl:ts.length≤1000)(hc:ts.length≤cap)(hC:Ctx w cv fv l xs) :
  Calls Tryz.prog 96 #[.slice (some ⟨g,off,none⟩) ts.length cap,cv,fv] w (ZH w xs (Ref.MM l (F+2) T)):=by
 have hlen:ts.length=us.length+2:=by rw [he];simp
 have hk0:Ref.zU ts 0=3:=by rw [he];exact ho
 have z0:w.cell? ⟨g,off,none⟩=some (.int .i64 3):=by
  have:=h.row.kind 0 (by omega)
  rw [hk0,Nat.zero_mul,Nat.add_zero] at this
  exact this
 have hsub:qF w g (off+6) us:=by
  have:=h.sub 1 us.length
  have e:(ts.drop 1).take us.length=us:=by rw [he];simp
  rw [e] at this
  exact this
 have HI:=ze (Km g off cap ts w h.row hl hc (by omega) hk0)
 have HS:Hid (Calls Tryz.prog 50 #[.slice (some ⟨g,off+6,none⟩) (ts.length-2) (cap-1),cv,fv] w (ZH w xs (Ref.MM l (F+2) T))):=by
  have e:ts.length-2=us.length:=by omega
  rw [e]
  exact (hT F g (off+6) (cap-1) us T.kids cv fv l xs w hF hus hB hsub (by omega) (by omega) hC).mono (by
   rintro e w' ⟨sv,ys,h1,h2,h3,h4⟩
   refine ⟨sv,ys,h1,h2,h3.congr (fun i j=>?_),h4⟩
   unfold Ref.MM
   show _↔Sm.M _ _ ((F+1)+1) T i j
   unfold Sm.M
   rw [if_neg (by omega),if_pos h5]
   rfl)
 have hl2:2≤ts.length:=by omega
 clear hT hus h hsub hC hk0 he hlen ho hB
 go_enter Tryz.func96,Tryz.ntmps96
 go_wp2_with (first
  |(go_at_call 74;refine (zb HI).mono ?_;rintro e wq ⟨rfl,hwq⟩;obtain rfl:=hwq.symm;clear hwq)
  |(go_at_call 50;refine (zb HS).mono ?_;rintro e w' ⟨sv,ys,rfl,h2,h3,h4⟩;have H2:=ze h2;have H3:=ze h3;have H4:=ze h4;clear h2 h3 h4))
 go_ret
 exact ⟨sv,ys,rfl,zb H2,zb H3,zb H4⟩
theorem WQ (f:Nat)(hT:ThrOK f):WO (f+1):=by
 intro F g off cap ts T cv fv l xs w hF hA h7 h hl hc hC
 obtain ⟨F,rfl⟩:∃ F',F=F'+2:=⟨F-2,by omega⟩
 rcases hA with ⟨k0,a0,a3,t,rfl,hk,htc,htp⟩ |⟨t,rfl,hk,⟨hlk1,hlk2⟩,htk,hp,hs⟩ |⟨h5,o,c,us,he,ho,hc4,hBal,hus⟩ |⟨k7,_⟩
 ·have hnp:t.parts.length≤1000∧∀ p∈t.parts,p.spans.length≤10:=by rw [htp];exact ⟨by simp,fun p hp=>by cases hp⟩
  refine Kx (by omega) (fun i j=>?_) hnp.1 hnp.2 h hC
  unfold Ref.MM
  show _↔Sm.M _ _ ((F+1)+1) T i j
  unfold Sm.M Ref.Xh Ref.ahT
  rw [if_pos k0,htc]
  constructor
  ·rintro (⟨_,h1,h2⟩ |⟨h1,_⟩)
   ·exact ⟨h1.symm,h2⟩
   ·exact absurd hk h1
  ·rintro ⟨h1,h2⟩;exact .inl ⟨hk,h1.symm,h2⟩
 ·refine Kx (by omega) (fun i j=>?_) hp hs h hC
  unfold Ref.MM
  show _↔Sm.M _ _ ((F+1)+1) T i j
  unfold Sm.M Ref.Xh Ref.lfT
  rw [if_neg (by omega),if_neg (by omega),if_neg (by omega),if_neg (by omega)]
  constructor
  ·rintro (⟨h1,_⟩ |⟨_,h1,h2,h3⟩)
   ·omega
   ·exact ⟨⟨h1,by rw [←htk];exact h3⟩,h2⟩
  ·rintro ⟨⟨h1,h2⟩,h3⟩;exact .inr ⟨by omega,h1,h3,by rw [htk];exact h2⟩
 ·exact zcM hT (by omega) h5 he ho hus hBal.2 h hl hc hC
 ·exact absurd k7 h7
end
end Go.Proofs.YtnagphodmfejiaaGreatDoor
