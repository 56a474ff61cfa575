/- Taking a character. -/
import Derived.Test.YtnagphodmfejiaaGreatDoorX32
import Derived.Test.YtnagphodmfejiaaGreatDoorX37
import Derived.Test.YtnagphodmfejiaaGreatDoorX22
namespace Go.Proofs.YtnagphodmfejiaaGreatDoor
section
open Go.RowKit
open Sm (Stp Tree)
set_option maxHeartbeats 1600000
def q9 (w:World)(v:Value)(rs:List Nat):Prop:=(v = .slice none 0 0∧rs=[])∨∃ g cap,v = .slice (some ⟨g,0,none⟩) rs.length cap∧rs.length≤cap∧∀ (j:Nat) a,rs[j]?=some a→w.cell? ⟨g,j,none⟩=some (.int .i64 (a:Nat))
theorem q9.keep {w w':World}{v:Value}{rs:List Nat}(h:q9 w v rs)(k:zf (fun _=>False) w w'):q9 w' v rs:=by
 rcases h with h |⟨g,cap,h1,h2,h3⟩
 ·exact .inl h
 ·exact .inr ⟨g,cap,h1,h2,fun j a hj=>zg k _ _ (h3 j a hj) (fun f=>f)⟩
theorem q9.slice {w:World}{v:Value}{rs:List Nat}(h:q9 w v rs):∃ a c,v = .slice a rs.length c:=by
 rcases h with ⟨rfl,rfl⟩ |⟨g,cap,h1,_⟩
 ·exact ⟨_,_,rfl⟩
 ·exact ⟨_,_,h1⟩
theorem q9.get {w:World}{a:Option Addr}{c:Nat}{rs:List Nat}(h:q9 w (.slice a rs.length c) rs){k:Nat}(hk:k<rs.length):∃ g,a=some ⟨g,0,none⟩∧rs.length≤c∧w.cell? ⟨g,k,none⟩=some (.int .i64 (rs[k]:Nat)):=by
 rcases h with ⟨_,h⟩ |⟨g,cap,h1,h2,h3⟩
 ·rw [h] at hk;simp at hk
 ·simp at h1
  exact ⟨g,h1.1,by omega,h3 k rs[k] (List.getElem?_eq_getElem hk)⟩
namespace Prg
def wT (N:List Stp)(c:Int)(a:Nat):Option Nat:=match N[a]? with
 |some s=>if setP s c=true then some s.next else none
 |none=>none
def qS (N:List Stp)(c:Int)(rs:List Nat):List Nat:=rs.filterMap (wT N c)
theorem zcQ {N:List Stp}{c:Int}{rs:List Nat}{n:Nat}{s:Stp}(hn:n<rs.length)(hs:N[rs[n]]?=some s)(hp:setP s c=true):qS N c (rs.take (n+1))=qS N c (rs.take n)++[s.next]:=by
 have e:wT N c rs[n]=some s.next:=by simp [wT,hs,hp]
 unfold qS
 rw [List.take_add_one,List.getElem?_eq_getElem hn,List.filterMap_append]
 show _++List.filterMap (wT N c) [rs[n]]=_
 simp [e]
theorem WV {N:List Stp}{c:Int}{rs:List Nat}{n:Nat}{s:Stp}(hn:n<rs.length)(hs:N[rs[n]]?=some s)(hp:setP s c=false):qS N c (rs.take (n+1))=qS N c (rs.take n):=by
 have e:wT N c rs[n]=none:=by simp [wT,hs,hp]
 unfold qS
 rw [List.take_add_one,List.getElem?_eq_getElem hn,List.filterMap_append]
 show _++List.filterMap (wT N c) [rs[n]]=_
 simp [e]
theorem XN (N:List Stp)(c:Int)(rs:List Nat):(qS N c rs).length≤rs.length:=List.length_filterMap_le _ _
theorem Ky {N:List Stp}{c:Int}{rs:List Nat}{b:Nat}:b∈qS N c rs↔∃ a∈rs,∃ s,N[a]?=some s∧setP s c=true∧b=s.next:=by
 unfold qS
 rw [List.mem_filterMap]
 constructor
 ·rintro ⟨a,ha,h⟩
  unfold wT at h
  split at h
  ·rename_i s hs
   split at h
   ·rename_i hp
    exact ⟨a,ha,s,hs,hp,(Option.some.inj h).symm⟩
   ·cases h
  ·cases h
 ·rintro ⟨a,ha,s,hs,hp,rfl⟩
  exact ⟨a,ha,by simp [wT,hs,hp]⟩
end Prg
theorem Kz (pb st:Nat)(N:List Stp)(W:Int→Bool)(rv:Value)(rs:List Nat)(c:Int)(A:Nat→Prop)(w:World)(hP:jV w A pb N st W)(hR:q9 w rv rs)(hr:∀ a∈rs,a<N.length)(hl:rs.length≤300) :
  Calls Tryz.prog 100 #[.pointer (some ⟨pb,0,none⟩),rv,.int .i32 c] w fun x w'=>∃ sv,x = .returned sv∧w'.ownsRow w.heap.size 3 1 sv (Prg.qS N c rs).length (z8 (Prg.qS N c rs))∧zf (fun _=>False) w w':=by
 obtain ⟨i0,hi0,hz0,hz1,hz2⟩:=info_parts Tryz.infoInt
 obtain ⟨va,vc,rfl⟩:=hR.slice
 obtain ⟨gs,cs,hst,hA,hcs,hrow⟩:=hP.c0
 have hNl:=hP.len
 have HR:=ze hR
 have HP:=ze hP
 have HW:=ze hrow
 have HRN:=ze hr
 clear hR hP hrow hr
 go_enter Tryz.func100,Tryz.ntmps100
 go_wp2_with fail
 go_loopw [7,13] (fun lv k wr=>∃ n:Nat,k = .int .i64 n∧n≤rs.length∧Hid (zf (fun _=>False) w wr)∧Hid (wr.ownsRow w.heap.size 3 1 lv (Prg.qS N c (rs.take n)).length (z8 (Prg.qS N c (rs.take n))))) (fun _ k _=>rs.length-(intOf k).toNat)
 case atStart=>exact ⟨0,rfl,by omega,zf.refl _ _,World.ownsRow_nil _ _ _ _⟩
 case round=>
  obtain ⟨n,rfl,hn,HK,HO⟩:=hrel
  obtain ⟨ga,na,ca,rfl⟩:=zr (zb HO)
  by_cases hlt:n<rs.length
  ·obtain ⟨g,rfl,hcap,hc1⟩:=(zb HR).get hlt
   have hc2:=zg (zb HK) _ _ hc1 (fun f=>f)
   clear hc1
   have hrn:=(zb HRN) rs[n] (List.getElem_mem hlt)
   have hget:N[rs[n]]?=some N[rs[n]]:=List.getElem?_eq_getElem hrn
   obtain ⟨s0,⟨sv,s1,s1'⟩,s2,s3,s4⟩:=zb HW _ _ hget
   have e0:=zg (zb HK) _ _ s0 (fun f=>f)
   have e1:=zg (zb HK) _ _ s1 (fun f=>f)
   have e3:=zg (zb HK) _ _ s3 (fun f=>f)
   have ep:=zg (zb HK) _ _ hst (fun f=>f)
   have HG:=ze hget
   have HS:=ze s1'
   clear s0 s1 s2 s3 s4 s1' hget
   generalize hs':N[rs[n]]=s at *
   clear hs'
   generalize hrn':rs[n]=a at *
   have hsl:∃ x y z,sv = .slice x y z:=by
    obtain ⟨sv',sp,e,h1,_⟩:=zb HS
    simp at e
    subst e
    rcases h1 with ⟨h1,_⟩ |⟨g,cap,h1,_⟩<;>exact ⟨_,_,_,h1⟩
   obtain ⟨sx,sy,sz,rfl⟩:=hsl
   by_cases hk:s.kind=1
   ·have hkb:((s.kind:Int) == 1)=true:=by simp;omega
    have HZ:Hid (∀ W',zf (fun _=>False) wr W'→Calls Tryz.prog 145 #[.agg #[.slice sx sy sz],.int .i32 c] W' fun e w'=>e = .returned (.bool (Prg.setP s c))∧zf (fun _=>False) wr w'∧w'.cell? ⟨gs,a*5,none⟩=some (.int .i64 (s.kind:Nat))∧w'.cell? ⟨gs,a*5+1,none⟩=some (.slice sx sy sz)):=fun W' k=>by
     refine (zbN _ (Prg.setP s) c A _ ((zb HS).keep ((zb HK).trans k) (fun _ _ f=>f))).mono ?_
     rintro e w' ⟨rfl,hO⟩
     have k1:=k.trans hO
     exact ⟨rfl,k1,zg k1 _ _ e0 (fun f=>f),zg k1 _ _ e1 (fun f=>f)⟩
    clear hk
    cases hsp:Prg.setP s c
    ·rw [hsp] at HZ
     have HO1:Hid (wr.ownsRow w.heap.size 3 1 (.slice ga na ca) (Prg.qS N c (rs.take (n+1))).length (z8 (Prg.qS N c (rs.take (n+1))))):=by
      rw [Prg.WV hlt (by rw [hrn'];exact zb HG) hsp];exact HO
     go_wp2_with (go_at_call 145;refine (zb HZ _ (by first |exact zf.refl _ _ |exact (zf.refl _ _).drewN _)).mono ?_;rintro e w1 ⟨rfl,hO1,z0,z1⟩;have HKK:=ze hO1;clear hO1)
     have HO2:Hid (w1.ownsRow w.heap.size 3 1 (.slice ga na ca) (Prg.qS N c (rs.take (n+1))).length (z8 (Prg.qS N c (rs.take (n+1))))):=zp (zb HO1) (zb HKK) (fun _ _ f=>f)
     exact ⟨⟨n+1,by go_num,by omega,(zb HK).trans (zb HKK),HO2⟩,by simp [intOf];omega⟩
    ·rw [hsp] at HZ
     have HE:Hid (Prg.qS N c (rs.take (n+1))=Prg.qS N c (rs.take n)++[s.next]):=Prg.zcQ hlt (by rw [hrn'];exact zb HG) hsp
     have htl:(Prg.qS N c (rs.take n)).length≤300:=by have:=Prg.XN N c (rs.take n);rw [List.length_take] at this;omega
     have hszw:=(zb HK).size
     go_wp2_with (first
      |(go_at_call 145;refine (zb HZ _ (by first |exact zf.refl _ _ |exact (zf.refl _ _).drewN _)).mono ?_;rintro e w1 ⟨rfl,hO1,z0,z1⟩;have z3:=zg hO1 _ _ e3 (fun f=>f);have HKK:=ze hO1;have hsz1:=hO1.size;have HO1:=ze (zp (zb HO) hO1 (fun _ _ f=>f));clear hO1)
      |(at_builtin;refine wpList_append_own _ rfl _ _ 23 rfl w.heap.size 3 i0 (.int .i64 0) 1 8 Tryz.underlying23 hi0 hz0 hz1 hz2 rfl (by decide) _ _ _ rfl (World.ownsRow.alloc (zb HO1) _) _ 1 1 [.int .i64 (s.next:Nat)] rfl rfl (cell_one_new _ _ _) (fun x hx=>by simp at hx;subst hx;rfl) (by unfold maxLen;omega) (by omega) (by simp;omega) ?_;intro v' w4 hown' hgrow hnil;have Hown4:=ze hown';have Hgr:=ze hgrow;clear hown' hgrow hnil))
     have hO4:zf (fun _=>False) w w4:=((((zb HK).trans (zb HKK)).alloc _)).grown (zb Hgr) (fun j hj=>Or.inr (zh (zb HO1) j hj).1)
     exact ⟨⟨n+1,by go_num,by omega,hO4,(by show World.ownsRow _ _ _ _ _ _ _;rw [zb HE];unfold z8;rw [List.length_append,List.map_append];exact zb Hown4)⟩,by simp [intOf];omega⟩
   ·have hkb:((s.kind:Int) == 1)=false:=by simp;omega
    have hsp:Prg.setP s c=false:=by simp [Prg.setP,hk]
    have HO1:Hid (wr.ownsRow w.heap.size 3 1 (.slice ga na ca) (Prg.qS N c (rs.take (n+1))).length (z8 (Prg.qS N c (rs.take (n+1))))):=by
     rw [Prg.WV hlt (by rw [hrn'];exact zb HG) hsp];exact HO
    clear hk
    go_wp2_with fail
    exact ⟨⟨n+1,by go_num,by omega,HK,HO1⟩,by simp [intOf];omega⟩
  ·obtain rfl:n=rs.length:=by omega
   go_wp2_with fail
   go_ret
   rw [List.take_length] at HO
   exact ⟨_,rfl,zb HO,zb HK⟩
set_option maxRecDepth 100000
structure Rch (w:World)(base sb rb gb n:Nat)(ms:List Bool)(rs:List Nat):Prop where
 s0:w.cell? ⟨sb,0,none⟩=some (.slice (some ⟨gb,0,none⟩) n n)
 r0:∃ rv,w.cell? ⟨rb,0,none⟩=some rv∧w.ownsRow base 3 1 rv rs.length (z8 rs)
 rf:w.frozen? ⟨rb,0,none⟩=false
 ob:v7 w gb ms
 ml:ms.length=n
 mark:∀ p,p<n→ms[p]?=some (decide (p∈rs))
 cnt:ms.countP id=rs.length
 lt:∀ a∈rs,a<n
 d1:sb≠rb
 d2:sb≠gb
 d3:rb≠gb
 l1:sb<base
 l2:rb<base
 l3:gb<base
 lb:base≤w.heap.size
theorem Rch.len {w:World}{base sb rb gb n:Nat}{ms:List Bool}{rs:List Nat}(h:Rch w base sb rb gb n ms rs):rs.length≤n:=by
 rw [←h.cnt,←h.ml];exact List.countP_le_length
theorem Rch.keep {w w':World}{base sb rb gb n:Nat}{ms:List Bool}{rs:List Nat}(h:Rch w base sb rb gb n ms rs)(k:zf (fun _=>False) w w'):Rch w' base sb rb gb n ms rs:=by
 obtain ⟨rv,h1,h2⟩:=h.r0
 exact { h with s0:=zg k _ _ h.s0 (fun f=>f),r0:=⟨rv,zg k _ _ h1 (fun f=>f),zp h2 k (fun _ _ f=>f)⟩,rf:=zw k _ (Nat.lt_of_lt_of_le h.l2 h.lb) h.rf (fun f=>f),ob:=h.ob.keep k (fun f=>f),lb:=Nat.le_trans h.lb k.size }
namespace Prg
def visL (rs:List Nat)(p:Nat):List Nat:=if p∈rs then rs else rs++[p]
end Prg
def Vis (base rb gb:Nat)(g:Nat):Prop:=g=rb∨g=gb∨base≤g
theorem zcR (base sb rb gb n p:Nat)(ms:List Bool)(rs:List Nat)(w:World)(h:Rch w base sb rb gb n ms rs)(hp:p<n)(hn:n≤300) :
  Calls Tryz.prog 143 #[.int .i64 (p:Nat),.pointer (some ⟨sb,0,none⟩),.pointer (some ⟨rb,0,none⟩)] w fun x w'=>x = .returned (.tuple #[])∧(∃ ms',Rch w' base sb rb gb n ms' (Prg.visL rs p))∧zf (Vis base rb gb) w w':=by
 obtain ⟨i0,hi0,hz0,hz1,hz2⟩:=info_parts Tryz.infoInt
 obtain ⟨rv,hrv,hown⟩:=h.r0
 obtain ⟨ra,rn,rc,rfl⟩:=zr hown
 have hs0:=h.s0
 have hrf:=h.rf
 have hlen:=h.len
 have hm:=h.mark p hp
 have hcell:=h.ob.c p _ hm
 have hfro:=h.ob.f p _ hm
 have hd1:=h.d1
 have hd2:=h.d2
 have hd3:=h.d3
 have hl1:=h.l1
 have hl2:=h.l2
 have hl3:=h.l3
 have hlb:=h.lb
 have H:=ze h
 have HO:=ze hown
 clear h hown hm
 by_cases hin:p∈rs
 ·have hd:decide (p∈rs)=true:=decide_eq_true hin
  rw [hd] at hcell
  have HV:Hid (Prg.visL rs p=rs):=by show _=_;unfold Prg.visL;rw [if_pos hin]
  clear hin hd
  go_enter Tryz.func143,Tryz.ntmps143
  go_wp2_with fail
  go_end0
  exact ⟨rfl,⟨ms,by rw [zb HV];exact zb H⟩,zf.refl _ _⟩
 ·have hd:decide (p∈rs)=false:=decide_eq_false hin
  rw [hd] at hcell
  have HV:Hid (Prg.visL rs p=rs++[p]):=by show _=_;unfold Prg.visL;rw [if_neg hin]
  have HIN:=ze hin
  have HK1:Hid (zf (fun g=>g=gb∨base≤g) w (w.setCell ⟨gb,p,none⟩ (.bool true))):=(zf.refl _ w).setCell (Or.inl (Or.inl rfl)) _
  have HO1:Hid ((w.setCell ⟨gb,p,none⟩ (.bool true)).ownsRow base 3 1 (.slice ra rn rc) rs.length (z8 rs)):=zp (zb HO) ((zf.refl (fun g=>g=gb) w).setCell (Or.inl rfl) _) (fun g hg e=>by have:=(zh (zb HO) g hg).1;omega)
  have HB1:=ze ((zb H).ob.set p true)
  have HC1:Hid (∀ (j:Nat) (u:Value),[Value.int .i64 (p:Nat)][j]?=some u→((w.setCell ⟨gb,p,none⟩ (.bool true)).alloc (.cells #[.int .i64 (p:Nat)] 3)).cell? ((⟨w.heap.size,0,none⟩:Addr).add j)=some u):=by
   have h:=cell_one_new (w.setCell ⟨gb,p,none⟩ (.bool true)) (.int .i64 (p:Nat)) 3
   rw [show (w.setCell ⟨gb,p,none⟩ (.bool true)).heap.size=w.heap.size by simp] at h
   exact h
  have hnot:¬(rb=gb∨base≤rb):=by omega
  have hrl:rb<w.heap.size:=by omega
  clear hin hd
  go_enter Tryz.func143,Tryz.ntmps143
  go_wp2_with (at_builtin;refine wpList_append_own _ rfl _ _ 23 rfl base 3 i0 (.int .i64 0) 1 8 Tryz.underlying23 hi0 hz0 hz1 hz2 rfl (by decide) _ _ _ rfl (World.ownsRow.alloc (zb HO1) _) _ 1 1 [.int .i64 (p:Nat)] rfl rfl (zb HC1) (fun x hx=>by simp at hx;subst hx;rfl) (by unfold maxLen;omega) (by omega) (by simp;omega) ?_;intro v' w4 hown' hgrow hnil;obtain ⟨xa,xn,xc,rfl⟩:=zr hown';have Hown4:=ze hown';have HGR:=ze hgrow;have hK4:zf (fun g=>g=gb∨base≤g) w w4:=((zb HK1).alloc _).grown hgrow (fun j hj=>Or.inl (Or.inr (zh (zb HO1) j hj).1));have hrv4:=zg hK4 _ _ hrv hnot;have hrf4:=zw hK4 _ hrl hrf hnot;have HK4:=ze hK4;clear hown' hgrow hnil hK4)
  go_end0
  have hK5:zf (fun g=>g=rb) w4 (w4.setCell ⟨rb,0,none⟩ (.slice xa xn xc)):=(zf.refl (fun g=>g=rb) w4).setCell (p:=⟨rb,0,none⟩) (Or.inl (show rb=rb from rfl)) _
  have hO:=zb H
  have hBl:∀ k,k<base→k≠gb→¬(k=gb∨base≤k):=fun k h1 h2=>by omega
  have hown5:(w4.setCell ⟨rb,0,none⟩ (.slice xa xn xc)).ownsRow base 3 1 (.slice xa xn xc) (rs++[p]).length (z8 (rs++[p])):=by
   have:=zp (zb Hown4) hK5 (fun g hg e=>by have h1:=(zh (zb Hown4) g hg).1;have h2:g=rb:=e;omega)
   rw [List.length_append]
   unfold z8
   rw [List.map_append]
   exact this
  have hB4:v7 w4 gb (ms.set p true):=(((zb HB1).keep ((zf.refl (fun _=>False) _).alloc _) (fun f=>f))).keep (P:=fun g=>base≤g) ((zf.refl _ _).grown (zb HGR) (fun j hj=>Or.inl (zh (zb HO1) j hj).1)) (by omega)
  have hms:ms[p]?=some false:=by have:=hO.mark p hp;rw [decide_eq_false (zb HIN)] at this;exact this
  have hpl:p<ms.length:=by rw [hO.ml];exact hp
  refine ⟨rfl,⟨ms.set p true,?_⟩,?_⟩
  ·rw [zb HV]
   refine ⟨?_,⟨_,World.cell?_setCell_same _ _ _ hrv4,hown5⟩,?_,hB4.keep hK5 (fun e=>hd3 e.symm),by rw [List.length_set];exact hO.ml,fun q hq=>?_,?_,fun a ha=>?_,hd1,hd2,hd3,hl1,hl2,hl3,?_⟩
   ·exact zg hK5 _ _ (zg (zb HK4) _ _ hs0 (hBl sb hl1 hd2)) hd1
   ·rw [World.frozen?_setCell];exact hrf4
   ·by_cases e:p=q
    ·subst e
     rw [List.getElem?_set_self hpl]
     simp
    ·rw [List.getElem?_set_ne e,hO.mark q hq]
     simp [List.mem_append,Ne.symm e]
   ·rw [List.countP_set hpl,List.length_append,hO.cnt]
    have:ms[p]=false:=by have:=List.getElem?_eq_getElem hpl;rw [hms] at this;exact (Option.some.inj this).symm
    simp [this]
   ·rcases List.mem_append.1 ha with ha |ha
    ·exact hO.lt a ha
    ·simp at ha;omega
   ·have:=(zb HK4).size
    simp;omega
  ·exact ((zb HK4).mono (fun k _ e=>e.elim (fun e=>Or.inr (Or.inl e)) (fun e=>Or.inr (Or.inr e)))).trans (hK5.mono (fun k _ e=>Or.inl e))
set_option maxHeartbeats 4000000
namespace Prg
theorem ky {rs:List Nat}{p q:Nat}:q∈visL rs p↔q∈rs∨q=p:=by
 unfold visL
 split
 ·rename_i h
  exact ⟨.inl,fun e=>e.elim id (fun e=>e ▸ h)⟩
 ·simp
theorem WW {rs:List Nat}{p j:Nat}(h:j<rs.length):(visL rs p)[j]?=rs[j]?:=by
 unfold visL
 split
 ·rfl
 ·rw [List.getElem?_append_left h]
theorem Ju (rs:List Nat)(p:Nat):rs.length≤(visL rs p).length:=by
 unfold visL
 split
 ·exact Nat.le_refl _
 ·simp
def epsB (N:List Stp)(H:Int→Bool)(a t:Nat):Prop:=∃ s,N[a]?=some s∧((s.kind=2∧H s.asr=true∧t=s.next)∨(s.kind=3∧(t=s.next∨t=s.other)))
def GE (N:List Stp)(H:Int→Bool)(a b:Nat):Prop:=Sm.Goes (fun _ _=>False) (fun x _=>H x=true) N a 0 b 0
theorem GE.refl (N:List Stp)(H:Int→Bool)(a:Nat):GE N H a a:=Sm.Goes.refl _ _ _
theorem GE.step {N:List Stp}{H:Int→Bool}{a b c:Nat}(h:GE N H a b)(e:epsB N H b c):GE N H a c:=by
 refine Sm.Goes.trans h (Sm.Goes.one ?_)
 obtain ⟨s,hs,h1 |h1⟩:=e
 ·exact ⟨s,hs,.inr (.inl ⟨h1.1,h1.2.1,h1.2.2,rfl⟩)⟩
 ·exact ⟨s,hs,.inr (.inr ⟨h1.1,h1.2,rfl⟩)⟩
end Prg
namespace Prg
def Inv (N:List Stp)(H:Int→Bool)(bs:List Nat)(n:Nat)(rs:List Nat):Prop:=(∀ p∈bs,p∈rs)∧(∀ q∈rs,∃ p∈bs,GE N H p q)∧∀ (j:Nat) a,j<n→rs[j]?=some a→∀ t,epsB N H a t→t∈rs
theorem Inv.visit {N:List Stp}{H:Int→Bool}{bs rs:List Nat}{n a t:Nat}(h:Inv N H bs n rs)(ha:rs[n]?=some a)(e:epsB N H a t):Inv N H bs n (visL rs t)∧(visL rs t)[n]?=some a∧t∈visL rs t:=by
 have hn:n<rs.length:=(List.getElem?_eq_some_iff.1 ha).1
 refine ⟨⟨fun p hp=>ky.2 (.inl (h.1 p hp)),fun q hq=>?_,fun j b hj hb u hu=>?_⟩,by rw [WW hn];exact ha,ky.2 (.inr rfl)⟩
 ·rcases ky.1 hq with hq |rfl
  ·exact h.2.1 q hq
  ·obtain ⟨p,hp,g⟩:=h.2.1 a (List.mem_of_getElem? ha)
   exact ⟨p,hp,g.step e⟩
 ·rw [WW (by omega)] at hb
  exact ky.2 (.inl (h.2.2 j b hj hb u hu))
theorem Inv.next {N:List Stp}{H:Int→Bool}{bs rs:List Nat}{n a:Nat}(h:Inv N H bs n rs)(ha:rs[n]?=some a)(e:∀ t,epsB N H a t→t∈rs):Inv N H bs (n+1) rs:=
 ⟨h.1,h.2.1,fun j b hj hb u hu=>by
  by_cases ej:j=n
  ·subst ej
   cases ha.symm.trans hb
   exact e u hu
  ·exact h.2.2 j b (by omega) hb u hu⟩
theorem eps_test {N:List Stp}{H:Int→Bool}{a:Nat}{s:Stp}(hs:N[a]?=some s)(hk:s.kind=2)(t:Nat):epsB N H a t↔H s.asr=true∧t=s.next:=by
 constructor
 ·rintro ⟨s',hs',h⟩
  cases hs.symm.trans hs'
  rcases h with h |h
  ·exact h.2
  ·omega
 ·rintro ⟨h1,h2⟩
  exact ⟨s,hs,.inl ⟨hk,h1,h2⟩⟩
theorem eps_fork {N:List Stp}{H:Int→Bool}{a:Nat}{s:Stp}(hs:N[a]?=some s)(hk:s.kind=3)(t:Nat):epsB N H a t↔t=s.next∨t=s.other:=by
 constructor
 ·rintro ⟨s',hs',h⟩
  cases hs.symm.trans hs'
  rcases h with h |h
  ·omega
  ·exact h.2
 ·exact fun h=>⟨s,hs,.inr ⟨hk,h⟩⟩
theorem eps_none {N:List Stp}{H:Int→Bool}{a:Nat}{s:Stp}(hs:N[a]?=some s)(h2:s.kind≠2)(h3:s.kind≠3)(t:Nat):¬epsB N H a t:=by
 rintro ⟨s',hs',h⟩
 cases hs.symm.trans hs'
 rcases h with h |h
 ·exact h2 h.1
 ·exact h3 h.1
end Prg
theorem zbU {w:World}{base m n c:Nat}{a:Option Addr}{rs:List Nat}(h:w.ownsRow base 3 1 (.slice a n c) m (z8 rs))(hm:m=rs.length):n=m∧∀ k,(hk:k<rs.length)→∃ g,a=some ⟨g,0,none⟩∧m≤c∧w.cell? ⟨g,k,none⟩=some (.int .i64 (rs[k]:Nat)):=by
 have hc:=@World.ownsRow.cells w base 3 1 _ m _ h
 rcases h.2 with ⟨e,h0⟩ |⟨g,cap,cur,e,hb,hg,hn,_⟩
 ·simp at e
  exact ⟨by omega,fun k hk=>by omega⟩
 ·simp at e
  obtain ⟨rfl,rfl,rfl⟩:=e
  refine ⟨rfl,fun k hk=>⟨g,rfl,hn,?_⟩⟩
  have:=hc (g:=g) rfl k (.int .i64 (rs[k]:Nat)) (by unfold z8;rw [List.getElem?_map,List.getElem?_eq_getElem hk];rfl)
  have e:(⟨g,0,none⟩:Addr).add k=⟨g,k,none⟩:=by unfold Addr.add;split<;>simp_all
  rw [e] at this
  exact this
theorem zf.under {P:Nat→Prop}{a b c:World}(h:zf (fun _=>False) a b)(k:zf P b c)(hp:∀ j,j<a.heap.size→¬P j):zf (fun _=>False) a c:=
 ⟨k.os.trans h.os,k.tape.trans h.tape,k.output.trans h.output,Nat.le_trans h.size k.size,fun j hj _=>(k.block j (Nat.lt_of_lt_of_le hj h.size) (hp j hj)).trans (h.block j hj (fun f=>f))⟩
theorem xQ.keepP {P:Nat→Prop}{W W':World}{b:Nat}{x y z u:Bool}(h:xQ W b x y z u)(k:zf P W W')(hn:¬P b):xQ W' b x y z u:=by
 have hb:b<W.heap.size:=World.block_lt_of_cell? W ⟨b,0,none⟩ h.k0
 exact ⟨zg k _ _ h.k0 hn,zg k _ _ h.k1 hn,zg k _ _ h.k2 hn,zg k _ _ h.k3 hn,zw k _ hb h.f0 hn,zw k _ hb h.f1 hn,zw k _ hb h.f2 hn,zw k _ hb h.f3 hn⟩
structure Rgo (w wr:World)(n:Nat)(x0 x1 x2 x3:Bool)(ms:List Bool)(rs:List Nat):Prop where
 rch:Rch wr (w.heap.size+1+1+1+1) (w.heap.size+1+1+1) (w.heap.size+1) (w.heap.size+1+1) n ms rs
 on:zf (fun _=>False) w wr
 sp:xQ wr w.heap.size x0 x1 x2 x3
theorem Rgo.keep {w wr w':World}{n:Nat}{x0 x1 x2 x3:Bool}{ms:List Bool}{rs:List Nat}(h:Rgo w wr n x0 x1 x2 x3 ms rs)(k:zf (fun _=>False) wr w'):Rgo w w' n x0 x1 x2 x3 ms rs:=⟨h.rch.keep k,h.on.trans k,h.sp.keep k⟩
theorem Xj {w wr:World}{n p:Nat}{x0 x1 x2 x3:Bool}{ms:List Bool}{rs:List Nat}(h:Rgo w wr n x0 x1 x2 x3 ms rs)(hp:p<n)(hn:n≤300) :
  Calls Tryz.prog 143 #[.int .i64 (p:Nat),.pointer (some ⟨w.heap.size+1+1+1,0,none⟩),.pointer (some ⟨w.heap.size+1,0,none⟩)] wr fun x w'=>x = .returned (.tuple #[])∧∃ ms',Rgo w w' n x0 x1 x2 x3 ms' (Prg.visL rs p):=by
 refine (zcR _ _ _ _ n p ms rs wr h.rch hp hn).mono ?_
 rintro e w' ⟨rfl,⟨ms',h1⟩,h2⟩
 exact ⟨rfl,ms',h1,h.on.under h2 (fun j hj e=>by unfold Vis at e;omega),h.sp.keepP h2 (fun e=>by unfold Vis at e;omega)⟩
theorem Rgo.start (w:World)(n:Nat)(x0 x1 x2 x3:Bool)(T:TypeId):Rgo w ((((w.alloc (.cells #[.bool x0,.bool x1,.bool x2,.bool x3] T)).alloc (.cells #[.slice none 0 0] 23)).alloc (.cells (madeCells #[.bool false] n) 4)).alloc (.cells #[.slice (some ⟨w.heap.size+1+1,0,none⟩) n n] 114)) n x0 x1 x2 x3 (List.replicate n false) []:=by
 have k1:∀ (W:World) (o:Obj),zf (fun _=>False) W (W.alloc o):=fun W o=>(zf.refl _ _).alloc o
 refine ⟨⟨?_,⟨.slice none 0 0,?_,World.ownsRow_nil _ _ _ _⟩,?_,?_,by simp,fun p hp=>?_,?_,by simp,by omega,by omega,by omega,by omega,by omega,by omega,by simp⟩,?_,?_⟩
 ·exact zo _ _ (by simp) _ _ 0 _ rfl
 ·exact zg ((k1 _ _).trans (k1 _ _)) _ _ (zo _ _ (by simp) _ _ 0 _ rfl) (fun f=>f)
 ·exact zw ((k1 _ _).trans (k1 _ _)) _ (by simp) (zv _ _ (by simp) _ _ 0) (fun f=>f)
 ·have h:=v7.made ((w.alloc (.cells #[.bool x0,.bool x1,.bool x2,.bool x3] T)).alloc (.cells #[.slice none 0 0] 23)) n
  rw [show ((w.alloc (.cells #[.bool x0,.bool x1,.bool x2,.bool x3] T)).alloc (.cells #[.slice none 0 0] 23)).heap.size=w.heap.size+1+1 by simp] at h
  exact h.keep (k1 _ _) (fun f=>f)
 ·rw [List.getElem?_replicate,if_pos hp];simp
 ·rw [List.countP_replicate];simp
 ·exact (((k1 _ _).trans (k1 _ _)).trans (k1 _ _)).trans (k1 _ _)
 ·exact ((xQ.new w _ rfl _ _ _ _ _).keep (((k1 _ _).trans (k1 _ _)).trans (k1 _ _)))
theorem zcS (pb st:Nat)(N:List Stp)(W:Int→Bool)(bv:Value)(bs:List Nat)(x0 x1 x2 x3:Bool)(A:Nat→Prop)(w:World)(hP:jV w A pb N st W)(hB:q9 w bv bs)(hb:∀ a∈bs,a<N.length)(hl:bs.length≤301) :
  Calls Tryz.prog 97 #[.pointer (some ⟨pb,0,none⟩),bv,.agg #[.bool x0,.bool x1,.bool x2,.bool x3]] w fun x w'=>∃ rv rs,x = .returned rv∧w'.ownsRow w.heap.size 3 1 rv rs.length (z8 rs)∧zf (fun _=>False) w w'∧rs.length≤N.length∧(∀ a∈rs,a<N.length)∧(∀ p∈bs,p∈rs)∧(∀ q∈rs,∃ p∈bs,Prg.GE N (Prg.kK x0 x1 x2 x3) p q)∧∀ a∈rs,∀ t,Prg.epsB N (Prg.kK x0 x1 x2 x3) a t→t∈rs:=by
 obtain ⟨va,vc,rfl⟩:=hB.slice
 obtain ⟨gs,cs,hst,hA,hcs,hrow⟩:=hP.c0
 have hNl:=hP.len
 have hmk:=ko N.length (by omega)
 have HB:=ze hB
 have HP:=ze hP
 have HW:=ze hrow
 have HBN:=ze hb
 clear hB hP hrow hb
 have hst1:∀ o1 o2,((w.alloc o1).alloc o2).cell? ⟨pb,0,none⟩=some (.slice (some ⟨gs,0,none⟩) N.length cs):=fun o1 o2=>zg (((zf.refl (fun _=>False) w).alloc o1).alloc o2) _ _ hst (fun f=>f)
 go_enter Tryz.func97,Tryz.ntmps97
 go_wp2_with fail
 have HR:=ze (Rgo.start w N.length x0 x1 x2 x3 223)
 generalize hW0:((((w.alloc (.cells #[.bool x0,.bool x1,.bool x2,.bool x3] 223)).alloc (.cells #[.slice none 0 0] 23)).alloc (.cells (madeCells #[.bool false] N.length) 4)).alloc (.cells #[.slice (some ⟨w.heap.size+1+1,0,none⟩) N.length N.length] 114))=W0 at HR ⊢
 clear hW0 hmk hst1
 have eg:∀ args w,(callFunc 143 args).run Tryz.prog w = .ok (.enter 143 args) w:=enters_of Tryz.func143 (by kernel_rfl) rfl
 go_loopw [23] (fun k wr=>∃ (n:Nat) (ms:List Bool) (rs:List Nat),k = .int .i64 n∧n≤bs.length∧Hid (Rgo w wr N.length x0 x1 x2 x3 ms rs)∧Hid ((∀ q∈rs,q∈bs)∧∀ p∈bs.take n,p∈rs)) (fun k _=>bs.length-(intOf k).toNat)
 case atStart=>exact ⟨0,_,[],rfl,by omega,HR,by simp,by simp⟩
 case round=>
  obtain ⟨n,ms,rs,rfl,hn,HG,HI⟩:=hrel
  by_cases hlt:n<bs.length
  ·obtain ⟨g,rfl,hcap,hc1⟩:=(zb HB).get hlt
   have hc2:=zg (zb HG).on _ _ hc1 (fun f=>f)
   clear hc1
   have hbn:=(zb HBN) bs[n] (List.getElem_mem hlt)
   have HI2:Hid ((∀ q∈Prg.visL rs bs[n],q∈bs)∧∀ p∈bs.take (n+1),p∈Prg.visL rs bs[n]):=by
    refine ⟨fun q hq=>?_,fun p hp=>?_⟩
    ·rcases Prg.ky.1 hq with h |rfl
     ·exact (zb HI).1 q h
     ·exact List.getElem_mem hlt
    ·rw [List.take_add_one,List.getElem?_eq_getElem hlt] at hp
     rcases List.mem_append.1 hp with h |h
     ·exact Prg.ky.2 (.inl ((zb HI).2 p h))
     ·exact Prg.ky.2 (.inr (by simpa using h))
   generalize bs[n]=a at *
   go_wp2_with (go_at_fn 143;refine (Xj (zb HG) hbn hNl).mono ?_;rintro e w1 ⟨rfl,ms1,hG1⟩;have HG1:=ze hG1;clear hG1)
   exact ⟨⟨n+1,ms1,_,by go_num,by omega,HG1,HI2⟩,by simp [intOf];omega⟩
  ·obtain rfl:n=bs.length:=by omega
   rw [List.take_length] at HI
   go_wp2_with fail
   have HI0:Hid (Prg.Inv N (Prg.kK x0 x1 x2 x3) bs 0 rs):=⟨(zb HI).2,fun q hq=>⟨q,(zb HI).1 q hq,Prg.GE.refl _ _ _⟩,fun j a hj=>by omega⟩
   clear HI
   go_loopw [12] (fun k wq=>∃ (n:Nat) (ms:List Bool) (rs:List Nat),k = .int .i64 n∧n≤rs.length∧Hid (Rgo w wq N.length x0 x1 x2 x3 ms rs)∧Hid (Prg.Inv N (Prg.kK x0 x1 x2 x3) bs n rs)) (fun k _=>N.length-(intOf k).toNat)
   case atStart=>exact ⟨0,ms,rs,rfl,by omega,HG,HI0⟩
   case round=>
    clear HG HI0
    obtain ⟨n,ms2,rs2,rfl,hn2,HG2,HI2⟩:=hrel
    have hlen2:=(zb HG2).rch.len
    obtain ⟨rv,hrv,hown⟩:=(zb HG2).rch.r0
    obtain ⟨ra,rn,rc,rfl⟩:=zr hown
    obtain ⟨rfl,hgets⟩:=zbU hown rfl
    by_cases hlt2:n<rs2.length
    ·obtain ⟨gr,rfl,hrc,hcr⟩:=hgets n hlt2
     have hra:rs2[n]<N.length:=(zb HG2).rch.lt _ (List.getElem_mem hlt2)
     have hget:N[rs2[n]]?=some N[rs2[n]]:=List.getElem?_eq_getElem hra
     have HA:Hid (rs2[n]?=some rs2[n]):=List.getElem?_eq_getElem hlt2
     obtain ⟨s0,_,s2,s3,s4⟩:=zb HW _ _ hget
     have hfit:=(zb HP).fit _ _ hget
     have HS3:=ze s3
     have HS4:=ze s4
     have e0:=zg (zb HG2).on _ _ s0 (fun f=>f)
     have e2:=zg (zb HG2).on _ _ s2 (fun f=>f)
     have e3:=zg (zb HG2).on _ _ s3 (fun f=>f)
     have ep:=zg (zb HG2).on _ _ hst (fun f=>f)
     have HGT:=ze hget
     clear s0 s2 s3 s4 hget hgets hown
     generalize N[rs2[n]]=s at *
     generalize rs2[n]=a at *
     obtain ⟨hf1,hf2⟩:=hfit
     have b1:(0:Int)≤(n:Int):=by omega
     have b2:(n:Int)<(rs2.length:Int):=by omega
     have b3:(0:Int)≤(a:Int):=by omega
     have b4:(a:Int)<(N.length:Int):=by omega
     by_cases hk2:s.kind=2
     ·have hb2:((s.kind:Int) == 2)=true:=by simp;omega
      obtain ⟨k0,k1,k2,k3,_,_,_,_⟩:=(zb HG2).sp
      have HZ:Hid (∀ W',zf (fun _=>False) wr W'→Calls Tryz.prog 144 #[.agg #[.bool x0,.bool x1,.bool x2,.bool x3],.int .i64 s.asr] W' fun e w'=>e = .returned (.bool (Prg.kK x0 x1 x2 x3 s.asr))∧zf (fun _=>False) wr w'∧w'.cell? ⟨w.heap.size,0,none⟩=some (.bool x0)∧w'.cell? ⟨w.heap.size,1,none⟩=some (.bool x1)∧w'.cell? ⟨w.heap.size,2,none⟩=some (.bool x2)∧w'.cell? ⟨w.heap.size,3,none⟩=some (.bool x3)∧w'.cell? ⟨gs,a*5+2,none⟩=some (.int .i64 s.asr)):=fun W' hW=>by
       refine (zcD x0 x1 x2 x3 s.asr W').mono ?_
       rintro e w' ⟨rfl,hO⟩
       have k:=hW.trans hO
       exact ⟨rfl,k,zg k _ _ k0 (fun f=>f),zg k _ _ k1 (fun f=>f),zg k _ _ k2 (fun f=>f),zg k _ _ k3 (fun f=>f),zg k _ _ e2 (fun f=>f)⟩
      have HE:=ze (fun t=>Prg.eps_test (H:=Prg.kK x0 x1 x2 x3) (zb HGT) hk2 t)
      clear hk2
      cases hH:Prg.kK x0 x1 x2 x3 s.asr
      ·have HI3:Hid (Prg.Inv N (Prg.kK x0 x1 x2 x3) bs (n+1) rs2):=(zb HI2).next (zb HA) (fun t ht=>by have:=((zb HE t).1 ht).1;rw [hH] at this;cases this)
       rw [hH] at HZ
       clear hH
       go_wp2_with fail
       go_quiet (fail)
       go_wp2_with fail
       go_region_held3 (fun w'=>w'.cell? ⟨w.heap.size,0,none⟩=some (.bool x0)∧w'.cell? ⟨w.heap.size,1,none⟩=some (.bool x1)∧w'.cell? ⟨w.heap.size,2,none⟩=some (.bool x2)∧w'.cell? ⟨w.heap.size,3,none⟩=some (.bool x3)∧w'.cell? ⟨gs,a*5+2,none⟩=some (.int .i64 s.asr)) (go_keep)
        (first |(go_at_call 144;refine (zb HZ _ (by first |exact zf.refl _ _ |exact (zf.refl _ _).drewN _ |exact ((zf.refl _ _).drewN _).drewN _)).mono ?_;rintro e w1 ⟨rfl,hO1,y0,y1,y2,y3,y4⟩;have HG3:=ze ((zb HG2).keep hO1);clear hO1))
       go_wp2_with fail
       exact ⟨⟨n+1,ms2,rs2,by go_num,by omega,HG3,HI3⟩,by simp [intOf];omega⟩
      ·obtain ⟨i1,i2,i3⟩:=(zb HI2).visit (zb HA) ((zb HE s.next).2 ⟨hH,rfl⟩)
       have HI3:Hid (Prg.Inv N (Prg.kK x0 x1 x2 x3) bs (n+1) (Prg.visL rs2 s.next)):=i1.next i2 (fun t ht=>by rw [((zb HE t).1 ht).2];exact i3)
       have hvl:=Prg.Ju rs2 s.next
       rw [hH] at HZ
       clear hH i1 i2 i3
       go_wp2_with fail
       go_quiet (fail)
       go_wp2_with fail
       go_region_held3 (fun w'=>w'.cell? ⟨w.heap.size,0,none⟩=some (.bool x0)∧w'.cell? ⟨w.heap.size,1,none⟩=some (.bool x1)∧w'.cell? ⟨w.heap.size,2,none⟩=some (.bool x2)∧w'.cell? ⟨w.heap.size,3,none⟩=some (.bool x3)∧w'.cell? ⟨gs,a*5+2,none⟩=some (.int .i64 s.asr)) (go_keep)
        (first |(go_at_call 144;refine (zb HZ _ (by first |exact zf.refl _ _ |exact (zf.refl _ _).drewN _ |exact ((zf.refl _ _).drewN _).drewN _)).mono ?_;rintro e w1 ⟨rfl,hO1,y0,y1,y2,y3,y4⟩;have z3:=zg hO1 _ _ e3 (fun f=>f);have HG3:=ze ((zb HG2).keep hO1);clear hO1))
       go_wp2_with (go_at_fn 143;refine (Xj ((zb HG3).keep (by first |exact zf.refl _ _ |exact (zf.refl _ _).drewN _)) hf1 hNl).mono ?_;rintro e w2 ⟨rfl,ms3,hG4⟩;have HG4:=ze hG4;clear hG4)
       exact ⟨⟨n+1,ms3,_,by go_num,by omega,HG4,HI3⟩,by simp [intOf];omega⟩
     ·by_cases hk3:s.kind=3
      ·have hb2:((s.kind:Int) == 2)=false:=by simp;omega
       have hb3:((s.kind:Int) == 3)=true:=by simp;omega
       have HE:=ze (fun t=>Prg.eps_fork (H:=Prg.kK x0 x1 x2 x3) (zb HGT) hk3 t)
       clear hk2 hk3
       obtain ⟨i1,i2,i3⟩:=(zb HI2).visit (zb HA) ((zb HE s.next).2 (.inl rfl))
       obtain ⟨j1,j2,j3⟩:=i1.visit i2 ((zb HE s.other).2 (.inr rfl))
       have HI3:Hid (Prg.Inv N (Prg.kK x0 x1 x2 x3) bs (n+1) (Prg.visL (Prg.visL rs2 s.next) s.other)):=j1.next j2 (fun t ht=>by
        rcases (zb HE t).1 ht with rfl |rfl
        ·exact Prg.ky.2 (.inl i3)
        ·exact j3)
       have hvl:=Prg.Ju rs2 s.next
       have hvl2:=Prg.Ju (Prg.visL rs2 s.next) s.other
       clear i1 i2 i3 j1 j2 j3
       go_wp2_with fail
       go_quiet (fail)
       go_wp2_with (first
        |(go_at_fn 143;refine (Xj ((zb HG2).keep (by first |exact zf.refl _ _ |exact (zf.refl _ _).drewN _)) hf1 hNl).mono ?_;rintro e w1 ⟨rfl,ms3,hG3⟩;have z4:=zg hG3.on _ _ (zb HS4) (fun f=>f);have HG3:=ze hG3;clear hG3 HG2)
        |(go_at_fn 143;refine (Xj ((zb HG3).keep (by first |exact zf.refl _ _ |exact (zf.refl _ _).drewN _)) hf2 hNl).mono ?_;rintro e w2 ⟨rfl,ms4,hG4⟩;have HG4:=ze hG4;clear hG4))
       exact ⟨⟨n+1,ms4,_,by go_num,by omega,HG4,HI3⟩,by simp [intOf];omega⟩
      ·have hb2:((s.kind:Int) == 2)=false:=by simp;omega
       have hb3:((s.kind:Int) == 3)=false:=by simp;omega
       have HI3:Hid (Prg.Inv N (Prg.kK x0 x1 x2 x3) bs (n+1) rs2):=(zb HI2).next (zb HA) (fun t ht=>absurd ht (Prg.eps_none (zb HGT) hk2 hk3 t))
       clear hk2 hk3
       go_wp2_with fail
       go_quiet (fail)
       go_wp2_with fail
       exact ⟨⟨n+1,ms2,rs2,by go_num,by omega,(zb HG2).keep ((zf.refl _ _).drewN _),HI3⟩,by simp [intOf];omega⟩
    ·obtain rfl:n=rs2.length:=by omega
     have HF:=ze hown
     clear hgets hown
     go_wp2_with fail
     go_ret
     refine ⟨_,rs2,rfl,yD (zb HF) (by omega),(zb HG2).on,hlen2,(zb HG2).rch.lt,(zb HI2).1,(zb HI2).2.1,fun a ha t ht=>?_⟩
     obtain ⟨j,hj⟩:=kV ha
     exact (zb HI2).2.2 j a (List.getElem?_eq_some_iff.1 hj).1 hj t ht
theorem q9.of {w:World}{base:Nat}{v:Value}{rs:List Nat}(h:w.ownsRow base 3 1 v rs.length (z8 rs)):q9 w v rs:=by
 obtain ⟨a,n,c,rfl⟩:=zr h
 obtain ⟨rfl,hg⟩:=zbU h rfl
 by_cases h0:rs=[]
 ·subst h0
  rcases h.2 with ⟨e,_⟩ |⟨g,cap,cur,e,_,_,hn,_⟩
  ·exact .inl ⟨e,rfl⟩
  ·exact .inr ⟨g,cap,e,hn,fun j a hj=>by simp at hj⟩
 ·have hl:0<rs.length:=List.length_pos_iff.2 h0
  obtain ⟨g,rfl,hc,_⟩:=hg 0 hl
  refine .inr ⟨g,c,rfl,hc,fun j a hj=>?_⟩
  obtain ⟨hjl,rfl⟩:=List.getElem?_eq_some_iff.1 hj
  obtain ⟨g',e,_,h2⟩:=hg j hjl
  cases e
  exact h2
theorem zcT (rv:Value)(rs:List Nat)(v:Nat)(w:World)(h:q9 w rv rs)(hl:rs.length≤1000) :
  Calls Tryz.prog 146 #[rv,.int .i64 (v:Nat)] w fun x w'=>∃ k:Int,x = .returned (.int .i64 k)∧(0≤k↔v∈rs)∧zf (fun _=>False) w w':=by
 obtain ⟨va,vc,rfl⟩:=h.slice
 have HB:=ze h
 clear h
 go_enter Tryz.func146,Tryz.ntmps146
 go_wp2_with fail
 go_loopw [8] (fun k wr=>∃ n:Nat,k = .int .i64 n∧n≤rs.length∧Hid (zf (fun _=>False) w wr)∧Hid (v∉rs.take n)) (fun k _=>rs.length-(intOf k).toNat)
 case atStart=>exact ⟨0,rfl,by omega,zf.refl _ _,by show ¬v∈rs.take 0;simp⟩
 case round=>
  obtain ⟨n,rfl,hn,HK,HN⟩:=hrel
  by_cases hlt:n<rs.length
  ·obtain ⟨g,rfl,hcap,hc1⟩:=(zb HB).get hlt
   have hc2:=zg (zb HK) _ _ hc1 (fun f=>f)
   clear hc1
   have b1:(0:Int)≤(n:Int):=by omega
   have b2:(n:Int)<(rs.length:Int):=by omega
   have HM:Hid (rs[n]∈rs):=List.getElem_mem hlt
   have HN1:Hid (v≠rs[n]→v∉rs.take (n+1)):=fun hne hm=>by
    rw [List.take_add_one,List.getElem?_eq_getElem hlt] at hm
    rcases List.mem_append.1 hm with h |h
    ·exact zb HN h
    ·exact hne (by simpa using h)
   generalize rs[n]=a at *
   by_cases hva:v=a
   ·have hb:((v:Int) == (a:Int))=true:=by simp [hva]
    have HV:Hid (v∈rs):=by show v∈rs;rw [hva];exact zb HM
    clear hva
    go_wp2_with fail
    go_ret
    exact ⟨n,rfl,⟨fun _=>zb HV,fun _=>by omega⟩,zb HK⟩
   ·have hb:((v:Int) == (a:Int))=false:=by simp;omega
    have HN2:=ze (zb HN1 hva)
    clear hva
    go_wp2_with fail
    exact ⟨⟨n+1,by go_num,by omega,HK,zb HN2⟩,by simp [intOf];omega⟩
  ·obtain rfl:n=rs.length:=by omega
   rw [List.take_length] at HN
   go_wp2_with fail
   go_ret
   exact ⟨-1,rfl,⟨fun h=>by omega,fun h=>absurd h (zb HN)⟩,zb HK⟩
theorem zcU (rv:Value)(rs:List Nat)(v:Nat)(w:World)(h:q9 w rv rs)(hl:rs.length≤1000) :
  Calls Tryz.prog 99 #[rv,.int .i64 (v:Nat)] w fun x w'=>x = .returned (.bool (decide (v∈rs)))∧zf (fun _=>False) w w':=by
 have HZ:=ze (zcT rv rs v w h hl)
 obtain ⟨va,vc,rfl⟩:=h.slice
 clear h
 by_cases hv:v∈rs
 ·rw [decide_eq_true hv]
  go_enter Tryz.func99,Tryz.ntmps99
  go_wp2_with (go_at_call 146;refine (zb HZ).mono ?_;rintro e w1 ⟨k,rfl,hk,hO1⟩;have hk0:0≤k:=hk.2 hv;clear hk;have HO1:=ze hO1;clear hO1)
  go_ret
  exact ⟨rfl,zb HO1⟩
 ·rw [decide_eq_false hv]
  go_enter Tryz.func99,Tryz.ntmps99
  go_wp2_with (go_at_call 146;refine (zb HZ).mono ?_;rintro e w1 ⟨k,rfl,hk,hO1⟩;have hk0:¬0≤k:=fun h=>hv (hk.1 h);clear hk;have HO1:=ze hO1;clear hO1)
  go_ret
  refine ⟨?_,zb HO1⟩
  show Ending.returned (.bool (decide (0≤k)))=_
  rw [decide_eq_false (by omega)]
namespace Prg
def lfP (L:List (Int×Int))(T:Tree)(k:Nat):Prop:=k<L.length∧Cs.j5 T (Pro.zi L k)=true
def YG (W:Int→Bool)(L:List (Int×Int))(k:Nat)(a:Int):Bool:=kK (decide (k=0)) (decide (k=L.length)) (befB W L k) (aftB W L k) a
def ahP (W:Int→Bool)(L:List (Int×Int))(a:Int)(k:Nat):Prop:=YG W L k a=true
abbrev GoP (W:Int→Bool)(L:List (Int×Int))(N:List Stp)(p i q j:Nat):Prop:=Sm.Goes (lfP L) (ahP W L) N p i q j
def Beg (W:Int→Bool)(L:List (Int×Int))(N:List Stp)(st i m:Nat)(bs:List Nat):Prop:=(∀ p∈bs,p<N.length)∧∀ q,(∃ p∈bs,GoP W L N p m q m)↔GoP W L N st i q m
def Done (W:Int→Bool)(L:List (Int×Int))(N:List Stp)(st i m:Nat)(js:List Nat):Prop:=js.Pairwise (· < ·)∧∀ j,j∈js↔j<m∧GoP W L N st i 0 j
theorem Beg.first {W:Int→Bool}{L:List (Int×Int)}{N:List Stp}{st i:Nat}(hs:st<N.length):Beg W L N st i i [st]:=
 ⟨fun p hp=>by simp at hp;omega,fun q=>⟨fun ⟨p,hp,g⟩=>by obtain rfl:=List.mem_singleton.1 hp;exact g,fun g=>⟨st,List.mem_singleton.2 rfl,g⟩⟩⟩
theorem Done.first {W:Int→Bool}{L:List (Int×Int)}{N:List Stp}{st i:Nat}:Done W L N st i i []:=
 ⟨List.Pairwise.nil,fun j=>⟨fun h=>(by cases h),fun h=>(by have:=h.2.le;omega)⟩⟩
theorem eps_at {W:Int→Bool}{L:List (Int×Int)}{N:List Stp}{m a b:Nat}:Sm.eps (ahP W L) N a m b↔epsB N (YG W L m) a b:=Iff.rfl
theorem GE_at {W:Int→Bool}{L:List (Int×Int)}{N:List Stp}{m a b:Nat}(h:GE N (YG W L m) a b):GoP W L N a m b m:=by
 obtain ⟨k,h⟩:=h
 suffices H:∀ (k a b i j:Nat),Sm.Run (fun _ _=>False) (fun x _=>YG W L m x=true) N k a i b j→GoP W L N a m b m from H k a b 0 0 h
 intro k
 induction k with
 |zero=>rintro a b i j ⟨rfl,_⟩;exact Sm.Goes.refl _ _ _
 |succ k ih=>
  rintro a b i j ⟨p',i',⟨s,hs,h1⟩,h2⟩
  refine Sm.Goes.head ?_ (ih _ _ _ _ h2)
  rcases h1 with ⟨_,f,_⟩ |⟨k1,k2,k3,_⟩ |⟨k1,k2,_⟩
  ·exact f.elim
  ·exact ⟨s,hs,.inr (.inl ⟨k1,k2,k3,rfl⟩)⟩
  ·exact ⟨s,hs,.inr (.inr ⟨k1,k2,rfl⟩)⟩
theorem zcV {W:Int→Bool}{L:List (Int×Int)}{N:List Stp}{m:Nat}{bs rs:List Nat}(h1:∀ p∈bs,p∈rs)(h2:∀ q∈rs,∃ p∈bs,GE N (YG W L m) p q)(h3:∀ a∈rs,∀ t,epsB N (YG W L m) a t→t∈rs)(q:Nat):q∈rs↔∃ p∈bs,GoP W L N p m q m:=
 Sm.Vo h1 (fun q hq=>by obtain ⟨p,hp,g⟩:=h2 q hq;exact ⟨p,hp,GE_at g⟩) (fun a ha b hb=>h3 a ha b (eps_at.1 hb)) q
theorem take_all {L:List (Int×Int)}{N:List Stp}{m:Nat}{rs:List Nat}(hm:m<L.length)(b:Nat):b∈qS N (Pro.zi L m) rs↔∃ a∈rs,Sm.tkr (lfP L) N a m b:=by
 rw [Ky]
 constructor
 ·rintro ⟨a,ha,s,hs,hp,rfl⟩
  unfold setP at hp
  rw [Bool.and_eq_true,decide_eq_true_eq] at hp
  exact ⟨a,ha,s,hs,hp.1,⟨hm,hp.2⟩,rfl⟩
 ·rintro ⟨a,ha,s,hs,hk,hl,rfl⟩
  exact ⟨a,ha,s,hs,by unfold setP;rw [hl.2,decide_eq_true hk];rfl,rfl⟩
theorem Beg.next {W:Int→Bool}{L:List (Int×Int)}{N:List Stp}{st i m:Nat}{bs rs:List Nat}(h:Beg W L N st i m bs)(him:i≤m)(hm:m<L.length)(hr:∀ q,q∈rs↔∃ p∈bs,GoP W L N p m q m)(hf:∀ (k:Nat) s,N[k]?=some s→s.next<N.length∧s.other<N.length):Beg W L N st i (m+1) (qS N (Pro.zi L m) rs):=
 ⟨fun b hb=>by obtain ⟨a,_,s,hs,_,rfl⟩:=Ky.1 hb;exact (hf a s hs).1,fun q=>Sm.zb5 him h.2 hr (take_all hm) q⟩
theorem Done.next {W:Int→Bool}{L:List (Int×Int)}{N:List Stp}{st i m:Nat}{bs rs js:List Nat}(hd:Done W L N st i m js)(h:Beg W L N st i m bs)(hr:∀ q,q∈rs↔∃ p∈bs,GoP W L N p m q m):(0∈rs→Done W L N st i (m+1) (js++[m]))∧(0∉rs→Done W L N st i (m+1) js):=by
 have e:0∈rs↔GoP W L N st i 0 m:=(hr 0).trans (h.2 0)
 constructor
 ·intro h0
  refine ⟨List.pairwise_append.2 ⟨hd.1,by simp,fun a ha b hb=>?_⟩,fun j=>?_⟩
  ·simp at hb
   subst hb
   exact ((hd.2 a).1 ha).1
  ·rw [List.mem_append,hd.2 j]
   constructor
   ·rintro (⟨h1,h2⟩ |h1)
    ·exact ⟨by omega,h2⟩
    ·simp at h1;subst h1;exact ⟨by omega,e.1 h0⟩
   ·rintro ⟨h1,h2⟩
    by_cases ej:j=m
    ·right;simp [ej]
    ·left;exact ⟨by omega,h2⟩
 ·intro h0
  refine ⟨hd.1,fun j=>?_⟩
  rw [hd.2 j]
  constructor
  ·rintro ⟨h1,h2⟩;exact ⟨by omega,h2⟩
  ·rintro ⟨h1,h2⟩
   refine ⟨?_,h2⟩
   by_cases ej:j=m
   ·subst ej;exact absurd (e.2 h2) h0
   ·omega
theorem Done.all {W:Int→Bool}{L:List (Int×Int)}{N:List Stp}{st i:Nat}{js:List Nat}(hd:Done W L N st i (L.length+1) js):qG L.length (GoP W L N st i 0) js:=⟨hd.1,fun j=>by rw [hd.2 j];constructor<;>rintro ⟨h1,h2⟩<;>exact ⟨by omega,h2⟩⟩
theorem Done.none {W:Int→Bool}{L:List (Int×Int)}{N:List Stp}{st i m:Nat}{js:List Nat}(hd:Done W L N st i m js)(h:Beg W L N st i m [])(him:i≤m)(hm:m≤L.length):qG L.length (GoP W L N st i 0) js:=by
 have hn:∀ q,¬GoP W L N st i q m:=fun q g=>by obtain ⟨p,hp,_⟩:=(h.2 q).2 g;cases hp
 refine ⟨hd.1,fun j=>?_⟩
 rw [hd.2 j]
 constructor
 ·rintro ⟨h1,h2⟩;exact ⟨by omega,h2⟩
 ·rintro ⟨h1,h2⟩
  refine ⟨?_,h2⟩
  by_cases e:j<m
  ·exact e
  ·obtain ⟨d,rfl⟩:∃ d,j=m+d:=⟨j-m,by omega⟩
   exact absurd h2 (Sm.JS him hn d 0)
end Prg
theorem zcW (pb st i:Nat)(N:List Stp)(W:Int→Bool)(L:List (Int×Int))(v:Value)(A:Nat→Prop)(w:World)(hP:jV w A pb N st W)(hL:ZD w v L)(hi:i≤L.length)(hl:L.length≤400) :
  Calls Tryz.prog 51 #[.pointer (some ⟨pb,0,none⟩),v,.int .i64 (i:Nat)] w fun x w'=>∃ sv js,x = .returned sv∧w'.ownsRow w.heap.size 3 1 sv js.length (z8 js)∧qG L.length (Prg.GoP W L N st i 0) js∧zf (fun _=>False) w w':=by
 obtain ⟨i0,hi0,hz0,hz1,hz2⟩:=info_parts Tryz.infoInt
 obtain ⟨va,vc,rfl⟩:=hL.slice
 have hst:=hP.c1
 have hNl:=hP.len
 have HP:=ze hP
 have HL:=ze hL
 clear hP hL
 go_enter Tryz.func51,Tryz.ntmps51
 go_wp2_with fail
 have HO0:Hid (zf (fun _=>False) w (w.alloc (.cells #[.int .i64 (st:Nat)] 3))):=(zf.refl _ _).alloc _
 have HB0:Hid (q9 (w.alloc (.cells #[.int .i64 (st:Nat)] 3)) (.slice (some ⟨w.heap.size,0,none⟩) 1 1) [st]):=.inr ⟨w.heap.size,1,rfl,by simp,fun j a hj=>by
  have hj0:j=0:=by have:=(List.getElem?_eq_some_iff.1 hj).1;simp at this;omega
  subst hj0
  simp at hj
  subst hj
  exact zo _ _ rfl _ _ 0 _ rfl⟩
 generalize (w.alloc (.cells #[.int .i64 (st:Nat)] 3))=W0 at HO0 HB0 ⊢
 go_loopw [7,8,9] (fun ev bv k wr=>∃ (m:Nat) (bs js:List Nat),k = .int .i64 m∧i≤m∧m≤L.length∧bs.length≤300∧js.length≤m∧Hid (zf (fun _=>False) w wr)∧Hid (wr.ownsRow w.heap.size 3 1 ev js.length (z8 js))∧Hid (q9 wr bv bs)∧Hid (Prg.Beg W L N st i m bs)∧Hid (Prg.Done W L N st i m js)) (fun _ _ k _=>L.length+1-(intOf k).toNat)
 case atStart=>exact ⟨i,[st],[],rfl,by omega,by omega,by simp,by simp,HO0,World.ownsRow_nil _ _ _ _,HB0,Prg.Beg.first (zb HP).stl,Prg.Done.first⟩
 case round=>
  clear HO0 HB0
  obtain ⟨m,bs,js,rfl,him,hmL,hbl,hjl,HK,HE,HB,HG,HD⟩:=hrel
  obtain ⟨ea,en,ec,rfl⟩:=zr (zb HE)
  obtain ⟨ba,bc,rfl⟩:=(zb HB).slice
  by_cases hb0:bs.length=0
  ·have hbi:¬(0:Int)<(bs.length:Int):=by omega
   have HX:Hid (qG L.length (Prg.GoP W L N st i 0) js):=(zb HD).none (by rw [List.eq_nil_of_length_eq_zero hb0] at HG;exact zb HG) him hmL
   clear hb0
   go_wp2_with fail
   go_ret
   exact ⟨_,rfl,js,zb HE,zb HX,zb HK⟩
  ·have hbi:(0:Int)<(bs.length:Int):=by omega
   clear hb0
   have HA:=ze (zaT pb st m N W L _ A wr ((zb HP).keep (zb HK) (fun _ _ f=>f)) ((zb HL).keep (zb HK)) hmL hl)
   go_wp2_with (first
    |(go_at_call 98;refine (zb HA).mono ?_;rintro e w1 ⟨rfl,hO1⟩;have HK1:=ze ((zb HK).trans hO1);have HE1:=ze (zp (zb HE) hO1 (fun _ _ f=>f));have HB1:=ze ((zb HB).keep hO1);clear hO1 HK HE HB HA)
    |(go_at_call 97;refine (zcS pb st N W _ bs _ _ _ _ A w1 ((zb HP).keep (zb HK1) (fun _ _ f=>f)) (zb HB1) (zb HG).1 (by omega)).mono ?_;rintro e w2 ⟨rv,rs,rfl,ho2,hO2,hr1,hr2,hr3,hr4,hr5⟩;obtain ⟨ra,rn,rc,rfl⟩:=zr ho2;have HR2:=ze (q9.of ho2);have HK2:=ze ((zb HK1).trans hO2);have HE2:=ze (zp (zb HE1) hO2 (fun _ _ f=>f));have HQ:=ze (Prg.zcV (W:=W) (L:=L) (m:=m) hr3 hr4 hr5);have HRL:=ze hr2;have HRO:=ze ho2;have HEB:Hid (∀ j,(Value.slice ea en ec).ownBlock=some j→j<w1.heap.size):=(fun j hj=>(zh (zb HE1) j hj).2);clear ho2 hO2 hr2 hr3 hr4 hr5 HK1 HE1 HB1)
    |(go_at_call 99;refine zb ?_))
   refine ze ?_
   have hH:Calls Tryz.prog 99 #[.slice ra rn rc,.int .i64 0] w2 fun x w'=>x = .returned (.bool (decide (0∈rs)))∧zf (fun _=>False) w2 w':=zcU _ rs 0 w2 (zb HR2) (by omega)
   have HDN:=ze ((zb HD).next (zb HG) (zb HQ))
   by_cases h00:0∈rs
   ·rw [decide_eq_true h00] at hH
    have HD1:=ze ((zb HDN).1 h00)
    clear HDN h00
    refine hH.mono ?_
    rintro e w3 ⟨rfl,hO3⟩
    have HK3:=ze ((zb HK2).trans hO3)
    have HE3:=ze (zp (zb HE2) hO3 (fun _ _ f=>f))
    have HR3:=ze (zp (zb HRO) hO3 (fun _ _ f=>f))
    have hsz3:=(zb HK3).size
    clear hO3 hH HK2 HE2 HR2 HRO
    by_cases hmm:m=L.length
    ·have hmb:((m:Int) == (L.length:Int))=true:=by simp;omega
     have HX:Hid (qG L.length (Prg.GoP W L N st i 0) (js++[m])):=Prg.Done.all (by rw [←hmm];exact zb HD1)
     clear hmm
     go_wp2_with (at_builtin;refine wpList_append_own _ rfl _ _ 23 rfl w.heap.size 3 i0 (.int .i64 0) 1 8 Tryz.underlying23 hi0 hz0 hz1 hz2 rfl (by decide) _ _ _ rfl (World.ownsRow.alloc (zb HE3) _) _ 1 1 [.int .i64 (m:Nat)] rfl rfl (cell_one_new _ _ _) (fun x hx=>by simp at hx;subst hx;rfl) (by unfold maxLen;omega) (by omega) (by simp;omega) ?_;intro v' w4 hown' hgrow hnil;obtain ⟨xa,xn,xc,rfl⟩:=zr hown';have HG4:=ze hgrow;have HN4:=ze hown';clear hown' hgrow hnil)
     go_ret
     have hK4:zf (fun _=>False) w w4:=((zb HK3).alloc _).grown (zb HG4) (fun j hj=>Or.inr (zh (zb HE3) j hj).1)
     have HE4:Hid (w4.ownsRow w.heap.size 3 1 (.slice xa xn xc) (js++[m]).length (z8 (js++[m]))):=by show World.ownsRow _ _ _ _ _ _ _;unfold z8;rw [List.length_append,List.map_append];exact zb HN4
     exact ⟨_,js++[m],rfl,zb HE4,zb HX,hK4⟩
    ·have hmb:((m:Int) == (L.length:Int))=false:=by simp;omega
     have hml:m<L.length:=by omega
     obtain ⟨g,cap,x0,hv,hcap,d1,d2⟩:=(zb HL).get hml
     simp at hv
     obtain ⟨rfl,rfl⟩:=hv
     have b1:(0:Int)≤(m:Int):=by omega
     have b2:(m:Int)<(L.length:Int):=by omega
     have HG1:=ze ((zb HG).next him hml (zb HQ) (zb HP).fit)
     have htl:=Prg.XN N (Pro.zi L m) rs
     have HDD:=ze d2
     clear hmm d1 d2
     go_wp2_with (first
      |(at_builtin;refine wpList_append_own _ rfl _ _ 23 rfl w.heap.size 3 i0 (.int .i64 0) 1 8 Tryz.underlying23 hi0 hz0 hz1 hz2 rfl (by decide) _ _ _ rfl (World.ownsRow.alloc (zb HE3) _) _ 1 1 [.int .i64 (m:Nat)] rfl rfl (cell_one_new _ _ _) (fun x hx=>by simp at hx;subst hx;rfl) (by unfold maxLen;omega) (by omega) (by simp;omega) ?_;intro v' w4 hown' hgrow hnil;obtain ⟨xa,xn,xc,rfl⟩:=zr hown';have HG4:=ze hgrow;have HN4:=ze hown';clear hown' hgrow hnil;have hK4:zf (fun _=>False) w w4:=((zb HK3).alloc _).grown (zb HG4) (fun j hj=>Or.inr (zh (zb HE3) j hj).1);have d3:=zg hK4 _ _ (zb HDD) (fun f=>f);have HK4:=ze hK4;clear hK4)
      |(go_at_call 100;refine zb ?_))
     refine ze ?_
     have HE4:Hid (w4.ownsRow w.heap.size 3 1 (.slice xa xn xc) (js++[m]).length (z8 (js++[m]))):=by show World.ownsRow _ _ _ _ _ _ _;unfold z8;rw [List.length_append,List.map_append];exact zb HN4
     have hR4:w4.ownsRow w1.heap.size 3 1 (.slice ra rn rc) rs.length (z8 rs):=zp (P:=fun g=>(Value.slice ea en ec).ownBlock=some g) (World.ownsRow.alloc (zb HR3) _) ((zf.refl _ _).grown (zb HG4) (fun j hj=>Or.inl hj)) (fun g hg e=>by have h1:=(zh (zb HR3) g hg).1;have h2:=zb HEB g e;omega)
     refine (Kz pb st N W _ rs (Pro.zi L m) A w4 ((zb HP).keep (zb HK4) (fun _ _ f=>f)) (q9.of hR4) (zb HRL) (by omega)).mono ?_
     rintro e w5 ⟨tv,rfl,ho5,hO5⟩
     have HK5:=ze ((zb HK4).trans hO5)
     have HE5:=ze (zp (zb HE4) hO5 (fun _ _ f=>f))
     have HB5:=ze (q9.of ho5)
     clear ho5 hO5 hR4
     go_wp2_with fail
     exact ⟨⟨m+1,_,js++[m],by go_num,by omega,by omega,by omega,by simp;omega,HK5,HE5,HB5,HG1,HD1⟩,by simp [intOf];omega⟩
   ·rw [decide_eq_false h00] at hH
    have HD1:=ze ((zb HDN).2 h00)
    clear HDN h00
    refine hH.mono ?_
    rintro e w3 ⟨rfl,hO3⟩
    have HK3:=ze ((zb HK2).trans hO3)
    have HE3:=ze (zp (zb HE2) hO3 (fun _ _ f=>f))
    have HR3:=ze ((zb HR2).keep hO3)
    clear hO3 hH HK2 HE2 HR2
    by_cases hmm:m=L.length
    ·have hmb:((m:Int) == (L.length:Int))=true:=by simp;omega
     have HX:Hid (qG L.length (Prg.GoP W L N st i 0) js):=Prg.Done.all (by rw [←hmm];exact zb HD1)
     clear hmm
     go_wp2_with fail
     go_ret
     exact ⟨_,js,rfl,zb HE3,zb HX,zb HK3⟩
    ·have hmb:((m:Int) == (L.length:Int))=false:=by simp;omega
     have hml:m<L.length:=by omega
     obtain ⟨g,cap,x0,hv,hcap,d1,d2⟩:=(zb HL).get hml
     simp at hv
     obtain ⟨rfl,rfl⟩:=hv
     have d3:=zg (zb HK3) _ _ d2 (fun f=>f)
     have b1:(0:Int)≤(m:Int):=by omega
     have b2:(m:Int)<(L.length:Int):=by omega
     have HT:=ze (Kz pb st N W _ rs (Pro.zi L m) A w3 ((zb HP).keep (zb HK3) (fun _ _ f=>f)) (zb HR3) (zb HRL) (by omega))
     have HG1:=ze ((zb HG).next him hml (zb HQ) (zb HP).fit)
     have htl:=Prg.XN N (Pro.zi L m) rs
     clear hmm d1 d2
     go_wp2_with (go_at_call 100;refine (zb HT).mono ?_;rintro e w4 ⟨tv,rfl,ho4,hO4⟩;have HK4:=ze ((zb HK3).trans hO4);have HE4:=ze (zp (zb HE3) hO4 (fun _ _ f=>f));have HB4:=ze (q9.of ho4);clear ho4 hO4)
     exact ⟨⟨m+1,_,js,by go_num,by omega,by omega,by omega,by omega,HK4,HE4,HB4,HG1,HD1⟩,by simp [intOf];omega⟩
namespace Eqv
theorem KA (s:ByteArray):∀ (f p:Nat) (acc:List (Int×Int)),s.size<p+f→p≤s.size→(Ref.xP s f p acc).1=acc++(Pro.letM s f p).map (fun x=>(x.2,x.1))
 |0,p,acc,h,hp=>by omega
 |f+1,p,acc,h,hp=>by
  by_cases hlt:p<s.size
  ·have hr:=vU hlt
   cases h1:Ref.oneF s p with
   |none=>
    rw [h1] at hr
    rw [Ref.qE hlt h1]
    simp only [Pro.letM]
    rw [hr]
    simp [ahead]
   |some nc=>
    obtain ⟨m,d⟩:=nc
    rw [h1] at hr
    have hb:=Ref.qd h1
    have e:Pro.letM s (f+1) p=((p:Int),d) :: Pro.letM s f (p+m):=by
     simp only [Pro.letM];rw [hr];rfl
    rw [e,Ref.qb hlt h1,KA s f (p+m) _ (by omega) (by omega)]
    simp
  ·rw [Ref.jA hlt]
   simp only [Pro.letM]
   rw [show Pro.yM s p=none by unfold Pro.yM;rw [if_neg hlt]]
   simp
theorem zbV (s:ByteArray):∀ (f p:Nat),∀ x∈Pro.letM s f p,Cs.isCh x.2=true
 |0,_,x,hx=>by simp [Pro.letM] at hx
 |f+1,p,x,hx=>by
  by_cases hlt:p<s.size
  ·have hr:=vU hlt
   cases h1:Ref.oneF s p with
   |none=>
    rw [h1] at hr
    simp only [Pro.letM] at hx
    rw [hr] at hx
    simp [ahead] at hx
   |some nc=>
    obtain ⟨m,d⟩:=nc
    rw [h1] at hr
    have hb:=Ref.qd h1
    have e:Pro.letM s (f+1) p=((p:Int),d) :: Pro.letM s f (p+m):=by
     simp only [Pro.letM];rw [hr];rfl
    rw [e] at hx
    rcases List.mem_cons.1 hx with rfl |hx
    ·rw [Cs.Zp];simp only;omega
    ·exact zbV s f (p+m) x hx
  ·simp only [Pro.letM] at hx
   rw [show Pro.yM s p=none by unfold Pro.yM;rw [if_neg hlt]] at hx
   simp at hx
end Eqv
namespace Prg
structure qB (L tx:List (Int×Int)):Prop where
 map:tx=L.map (fun x=>(x.2,x.1))
 ch:∀ x∈L,Cs.isCh x.2=true
theorem qB.of (s:ByteArray):qB (Pro.letM s (s.size+1) 0) (Ref.zG s).1:=⟨by
 have:=Eqv.KA s (s.size+1) 0 [] (by omega) (by omega)
 simpa [Ref.zG] using this,Eqv.zbV s _ _⟩
variable {L tx:List (Int×Int)}
theorem qB.len (h:qB L tx):tx.length=L.length:=by rw [h.map];simp
theorem qB.at (h:qB L tx)(k:Nat):Ref.chAt tx k=Pro.zi L k:=by
 unfold Ref.chAt Pro.zi
 rw [h.map,List.getElem?_map]
 cases L[k]?<;>rfl
theorem qB.isCh (h:qB L tx){k:Nat}(hk:k<L.length):Cs.isCh (Pro.zi L k)=true:=by
 rw [Pro.Jy hk];exact h.ch _ (List.getElem_mem hk)
theorem qB.nn (h:qB L tx){k:Nat}(hk:k<L.length):0≤Pro.zi L k:=by
 have:=(Cs.Zp _).1 (h.isCh hk);omega
theorem lf_iff (h:qB L tx)(T:Tree)(k:Nat):lfP L T k↔Ref.lfT tx T k:=by
 unfold lfP Ref.lfT
 rw [h.len,h.at k]
 constructor
 ·rintro ⟨h1,h2⟩
  unfold Cs.j5 at h2
  rw [Bool.and_eq_true] at h2
  exact ⟨h1,h2.2⟩
 ·rintro ⟨h1,h2⟩
  exact ⟨h1,by unfold Cs.j5;rw [h.isCh h1,h2];rfl⟩
theorem zbW (h:qB L tx){k:Nat}(hk:k<L.length):Cs.zZ 119 (Pro.zi L k)=Eqv.inSp Ref.jC (Pro.zi L k):=by
 rw [←Cs.zat,h.isCh hk,Cs.V6];rfl
theorem zbX:Eqv.inSp Ref.jC (-1)=false:=by decide
theorem bef_at (h:qB L tx){k:Nat}(hk:k≤L.length):befB (Cs.zZ 119) L k=Eqv.inSp Ref.jC (Ref.chBe tx k):=by
 unfold befB Ref.chBe
 by_cases h0:k=0
 ·subst h0;simp [zbX]
 ·rw [if_pos (by omega),h.at,zbW h (by omega),decide_eq_true h0];rfl
theorem aft_at (h:qB L tx){k:Nat}(hk:k≤L.length):aftB (Cs.zZ 119) L k=Eqv.inSp Ref.jC (Ref.chAt tx k):=by
 unfold aftB
 by_cases h0:k=L.length
 ·rw [h.at,Pro.xV (by omega),zbX];simp [h0]
 ·rw [h.at,zbW h (by omega),decide_eq_true h0];rfl
theorem ah_iff (h:qB L tx){W:Int→Bool}{a:Int}{k:Nat}(hk:k≤L.length)(ha:0≤a∧a≤3)(hW:2≤a→W=Cs.zZ 119):ahP W L a k↔Ref.ahT tx a k:=by
 unfold ahP Ref.ahT YG kK Ref.asB Eqv.XC
 have hc:a=0∨a=1∨a=2∨a=3:=by omega
 rcases hc with rfl |rfl |rfl |rfl
 ·simp only [if_true]
  unfold Ref.chBe
  by_cases h0:k=0
  ·subst h0;simp
  ·rw [if_pos (by omega),h.at]
   have:=h.nn (k:=k-1) (by omega)
   simp;omega
 ·simp only [show (1:Int)≠0 by decide,if_false,if_true,show (36:Int)≠94 by decide]
  rw [h.at]
  by_cases h0:k=L.length
  ·rw [Pro.xV (by omega)];simp [h0]
  ·have:=h.nn (k:=k) (by omega)
   simp;omega
 ·rw [hW (by omega),bef_at h hk,aft_at h hk]
  simp
 ·rw [hW (by omega),bef_at h hk,aft_at h hk]
  simp
def Asks (N:List Stp)(W:Int→Bool):Prop:=∀ (p:Nat) s,N[p]?=some s→s.kind=2→(0≤s.asr∧s.asr≤3)∧(2≤s.asr→W=Cs.zZ 119)
theorem WX (h:qB L tx){W:Int→Bool}{N:List Stp}(hN:Asks N W){p i q j:Nat}(hi:i≤L.length):Sm.one (lfP L) (ahP W L) N p i q j↔Sm.one (Ref.lfT tx) (Ref.ahT tx) N p i q j:=by
 constructor
 ·rintro ⟨s,hs,⟨k1,k2,k3⟩ |⟨k1,k2,k3⟩ |k⟩
  ·exact ⟨s,hs,.inl ⟨k1,(lf_iff h _ _).1 k2,k3⟩⟩
  ·exact ⟨s,hs,.inr (.inl ⟨k1,(ah_iff h hi (hN p s hs k1).1 (hN p s hs k1).2).1 k2,k3⟩)⟩
  ·exact ⟨s,hs,.inr (.inr k)⟩
 ·rintro ⟨s,hs,⟨k1,k2,k3⟩ |⟨k1,k2,k3⟩ |k⟩
  ·exact ⟨s,hs,.inl ⟨k1,(lf_iff h _ _).2 k2,k3⟩⟩
  ·exact ⟨s,hs,.inr (.inl ⟨k1,(ah_iff h hi (hN p s hs k1).1 (hN p s hs k1).2).2 k2,k3⟩)⟩
  ·exact ⟨s,hs,.inr (.inr k)⟩
theorem one_in {W:Int→Bool}{N:List Stp}{p i q j:Nat}(hi:i≤L.length)(ho:Sm.one (lfP L) (ahP W L) N p i q j):j≤L.length:=by
 obtain ⟨s,hs,⟨k1,k2,k3,k4⟩ |⟨k1,k2,k3,k4⟩ |⟨k1,k2,k4⟩⟩:=ho
 ·have:=k2.1;omega
 ·omega
 ·omega
theorem Xk (h:qB L tx){W:Int→Bool}{N:List Stp}(hN:Asks N W):∀ {k p i q j:Nat},i≤L.length→(Sm.Run (lfP L) (ahP W L) N k p i q j↔Sm.Run (Ref.lfT tx) (Ref.ahT tx) N k p i q j)
 |0,_,_,_,_,_=>Iff.rfl
 |k+1,p,i,q,j,hi=>by
  constructor
  ·rintro ⟨p',i',h1,h2⟩
   exact ⟨p',i',(WX h hN hi).1 h1,(Xk h hN (one_in hi h1)).1 h2⟩
  ·rintro ⟨p',i',h1,h2⟩
   have h1':=(WX h hN hi).2 h1
   exact ⟨p',i',h1',(Xk h hN (one_in hi h1')).2 h2⟩
theorem goP_same (h:qB L tx){W:Int→Bool}{N:List Stp}(hN:Asks N W){p i q j:Nat}(hi:i≤L.length):GoP W L N p i q j↔Sm.Goes (Ref.lfT tx) (Ref.ahT tx) N p i q j:=
 ⟨fun ⟨k,r⟩=>⟨k,(Xk h hN hi).1 r⟩,fun ⟨k,r⟩=>⟨k,(Xk h hN hi).2 r⟩⟩
end Prg
end
end Go.Proofs.YtnagphodmfejiaaGreatDoor
