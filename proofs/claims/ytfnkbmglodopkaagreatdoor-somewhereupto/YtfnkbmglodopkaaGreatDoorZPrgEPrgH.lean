/- To which places one can come without taking a character. -/
import Derived.Test.YtfnkbmglodopkaaGreatDoorZPrgIPrgD
import Derived.Test.YtfnkbmglodopkaaGreatDoorZChCChE
namespace Go.Proofs.YtfnkbmglodopkaaGreatDoor
section
open Go.RowKit
open Sm (Stp Tree)
set_option maxHeartbeats 4000000
set_option maxRecDepth 100000
namespace Prg
theorem qK {rs:List Nat}{p q:Nat}:q∈visL rs p↔q∈rs∨q=p:=by
 unfold visL
 split
 ·rename_i h
  exact ⟨.inl,fun e=>e.elim id (fun e=>e ▸ h)⟩
 ·simp
theorem QN {rs:List Nat}{p j:Nat}(h:j<rs.length):(visL rs p)[j]?=rs[j]?:=by
 unfold visL
 split
 ·rfl
 ·rw [List.getElem?_append_left h]
theorem Yj (rs:List Nat)(p:Nat):rs.length≤(visL rs p).length:=by
 unfold visL
 split
 ·exact Nat.le_refl _
 ·simp
def epsB (N:List Stp)(H:Int→Bool)(a t:Nat):Prop:=∃ s,N[a]?=some s∧((s.kind=2∧H s.asr=true∧t=s.next)∨(s.kind=3∧(t=s.next∨t=s.other)))
def GE (N:List Stp)(H:Int→Bool)(a b:Nat):Prop:=Sm.Goes (fun _ _=>False) (fun x _=>H x=true) N a 0 b 0
theorem GE.refl (N:List Stp)(H:Int→Bool)(a:Nat):GE N H a a:=Sm.Goes.refl _ _ _
theorem GE.step {N:List Stp}{H:Int→Bool}{a b c:Nat}(h:GE N H a b)(e:epsB N H b c):GE N H a c:=by
 refine Sm.Goes.trans h (Sm.Goes.one ?_)
 obtain ⟨s,hs,h1 |h1⟩:=e
 ·exact ⟨s,hs,.inr (.inl ⟨h1.1,h1.2.1,h1.2.2,rfl⟩)⟩
 ·exact ⟨s,hs,.inr (.inr ⟨h1.1,h1.2,rfl⟩)⟩
end Prg
namespace Prg
def Inv (N:List Stp)(H:Int→Bool)(bs:List Nat)(n:Nat)(rs:List Nat):Prop:=(∀ p∈bs,p∈rs)∧(∀ q∈rs,∃ p∈bs,GE N H p q)∧∀ (j:Nat) a,j<n→rs[j]?=some a→∀ t,epsB N H a t→t∈rs
theorem Inv.visit {N:List Stp}{H:Int→Bool}{bs rs:List Nat}{n a t:Nat}(h:Inv N H bs n rs)(ha:rs[n]?=some a)(e:epsB N H a t):Inv N H bs n (visL rs t)∧(visL rs t)[n]?=some a∧t∈visL rs t:=by
 have hn:n<rs.length:=(List.getElem?_eq_some_iff.1 ha).1
 refine ⟨⟨fun p hp=>qK.2 (.inl (h.1 p hp)),fun q hq=>?_,fun j b hj hb u hu=>?_⟩,by rw [QN hn];exact ha,qK.2 (.inr rfl)⟩
 ·rcases qK.1 hq with hq |rfl
  ·exact h.2.1 q hq
  ·obtain ⟨p,hp,g⟩:=h.2.1 a (List.mem_of_getElem? ha)
   exact ⟨p,hp,g.step e⟩
 ·rw [QN (by omega)] at hb
  exact qK.2 (.inl (h.2.2 j b hj hb u hu))
theorem Inv.next {N:List Stp}{H:Int→Bool}{bs rs:List Nat}{n a:Nat}(h:Inv N H bs n rs)(ha:rs[n]?=some a)(e:∀ t,epsB N H a t→t∈rs):Inv N H bs (n+1) rs:=
 ⟨h.1,h.2.1,fun j b hj hb u hu=>by
  by_cases ej:j=n
  ·subst ej
   cases ha.symm.trans hb
   exact e u hu
  ·exact h.2.2 j b (by omega) hb u hu⟩
theorem eps_test {N:List Stp}{H:Int→Bool}{a:Nat}{s:Stp}(hs:N[a]?=some s)(hk:s.kind=2)(t:Nat):epsB N H a t↔H s.asr=true∧t=s.next:=by
 constructor
 ·rintro ⟨s',hs',h⟩
  cases hs.symm.trans hs'
  rcases h with h |h
  ·exact h.2
  ·omega
 ·rintro ⟨h1,h2⟩
  exact ⟨s,hs,.inl ⟨hk,h1,h2⟩⟩
theorem eps_fork {N:List Stp}{H:Int→Bool}{a:Nat}{s:Stp}(hs:N[a]?=some s)(hk:s.kind=3)(t:Nat):epsB N H a t↔t=s.next∨t=s.other:=by
 constructor
 ·rintro ⟨s',hs',h⟩
  cases hs.symm.trans hs'
  rcases h with h |h
  ·omega
  ·exact h.2
 ·exact fun h=>⟨s,hs,.inr ⟨hk,h⟩⟩
theorem eps_none {N:List Stp}{H:Int→Bool}{a:Nat}{s:Stp}(hs:N[a]?=some s)(h2:s.kind≠2)(h3:s.kind≠3)(t:Nat):¬epsB N H a t:=by
 rintro ⟨s',hs',h⟩
 cases hs.symm.trans hs'
 rcases h with h |h
 ·exact h2 h.1
 ·exact h3 h.1
end Prg
theorem Kq {w:World}{base m n c:Nat}{a:Option Addr}{rs:List Nat}(h:w.ownsRow base 3 1 (.slice a n c) m (zD rs))(hm:m=rs.length):n=m∧∀ k,(hk:k<rs.length)→∃ g,a=some ⟨g,0,none⟩∧m≤c∧w.cell? ⟨g,k,none⟩=some (.int .i64 (rs[k]:Nat)):=by
 have hc:=@World.ownsRow.cells w base 3 1 _ m _ h
 rcases h.2 with ⟨e,h0⟩ |⟨g,cap,cur,e,hb,hg,hn,_⟩
 ·simp at e
  exact ⟨by omega,fun k hk=>by omega⟩
 ·simp at e
  obtain ⟨rfl,rfl,rfl⟩:=e
  refine ⟨rfl,fun k hk=>⟨g,rfl,hn,?_⟩⟩
  have:=hc (g:=g) rfl k (.int .i64 (rs[k]:Nat)) (by unfold zD;rw [List.getElem?_map,List.getElem?_eq_getElem hk];rfl)
  have e:(⟨g,0,none⟩:Addr).add k=⟨g,k,none⟩:=by unfold Addr.add;split<;>simp_all
  rw [e] at this
  exact this
theorem zd.under {P:Nat→Prop}{a b c:World}(h:zd (fun _=>False) a b)(k:zd P b c)(hp:∀ j,j<a.heap.size→¬P j):zd (fun _=>False) a c:=
 ⟨k.os.trans h.os,k.tape.trans h.tape,k.output.trans h.output,Nat.le_trans h.size k.size,fun j hj _=>(k.block j (Nat.lt_of_lt_of_le hj h.size) (hp j hj)).trans (h.block j hj (fun f=>f))⟩
theorem yR.keepP {P:Nat→Prop}{W W':World}{b:Nat}{x y z u:Bool}(h:yR W b x y z u)(k:zd P W W')(hn:¬P b):yR W' b x y z u:=by
 have hb:b<W.heap.size:=World.block_lt_of_cell? W ⟨b,0,none⟩ h.k0
 exact ⟨zf k _ _ h.k0 hn,zf k _ _ h.k1 hn,zf k _ _ h.k2 hn,zf k _ _ h.k3 hn,zF k _ hb h.f0 hn,zF k _ hb h.f1 hn,zF k _ hb h.f2 hn,zF k _ hb h.f3 hn⟩
structure Rgo (w wr:World)(n:Nat)(x0 x1 x2 x3:Bool)(ms:List Bool)(rs:List Nat):Prop where
 rch:Rch wr (w.heap.size+1+1+1+1) (w.heap.size+1+1+1) (w.heap.size+1) (w.heap.size+1+1) n ms rs
 on:zd (fun _=>False) w wr
 sp:yR wr w.heap.size x0 x1 x2 x3
theorem Rgo.keep {w wr w':World}{n:Nat}{x0 x1 x2 x3:Bool}{ms:List Bool}{rs:List Nat}(h:Rgo w wr n x0 x1 x2 x3 ms rs)(k:zd (fun _=>False) wr w'):Rgo w w' n x0 x1 x2 x3 ms rs:=⟨h.rch.keep k,h.on.trans k,h.sp.keep k⟩
theorem wt {w wr:World}{n p:Nat}{x0 x1 x2 x3:Bool}{ms:List Bool}{rs:List Nat}(h:Rgo w wr n x0 x1 x2 x3 ms rs)(hp:p<n)(hn:n≤300) :
  Calls Tryz.prog 115 #[.int .i64 (p:Nat),.pointer (some ⟨w.heap.size+1+1+1,0,none⟩),.pointer (some ⟨w.heap.size+1,0,none⟩)] wr fun x w'=>x = .returned (.tuple #[])∧∃ ms',Rgo w w' n x0 x1 x2 x3 ms' (Prg.visL rs p):=by
 refine (VE _ _ _ _ n p ms rs wr h.rch hp hn).mono ?_
 rintro e w' ⟨rfl,⟨ms',h1⟩,h2⟩
 exact ⟨rfl,ms',h1,h.on.under h2 (fun j hj e=>by unfold Vis at e;omega),h.sp.keepP h2 (fun e=>by unfold Vis at e;omega)⟩
theorem Rgo.start (w:World)(n:Nat)(x0 x1 x2 x3:Bool)(T:TypeId):Rgo w ((((w.alloc (.cells #[.bool x0,.bool x1,.bool x2,.bool x3] T)).alloc (.cells #[.slice none 0 0] 28)).alloc (.cells (madeCells #[.bool false] n) 4)).alloc (.cells #[.slice (some ⟨w.heap.size+1+1,0,none⟩) n n] 56)) n x0 x1 x2 x3 (List.replicate n false) []:=by
 have k1:∀ (W:World) (o:Obj),zd (fun _=>False) W (W.alloc o):=fun W o=>(zd.refl _ _).alloc o
 refine ⟨⟨?_,⟨.slice none 0 0,?_,World.ownsRow_nil _ _ _ _⟩,?_,?_,by simp,fun p hp=>?_,?_,by simp,by omega,by omega,by omega,by omega,by omega,by omega,by simp⟩,?_,?_⟩
 ·exact zj _ _ (by simp) _ _ 0 _ rfl
 ·exact zf ((k1 _ _).trans (k1 _ _)) _ _ (zj _ _ (by simp) _ _ 0 _ rfl) (fun f=>f)
 ·exact zF ((k1 _ _).trans (k1 _ _)) _ (by simp) (zz _ _ (by simp) _ _ 0) (fun f=>f)
 ·have h:=xZ.made ((w.alloc (.cells #[.bool x0,.bool x1,.bool x2,.bool x3] T)).alloc (.cells #[.slice none 0 0] 28)) n
  rw [show ((w.alloc (.cells #[.bool x0,.bool x1,.bool x2,.bool x3] T)).alloc (.cells #[.slice none 0 0] 28)).heap.size=w.heap.size+1+1 by simp] at h
  exact h.keep (k1 _ _) (fun f=>f)
 ·rw [List.getElem?_replicate,if_pos hp];simp
 ·rw [List.countP_replicate];simp
 ·exact (((k1 _ _).trans (k1 _ _)).trans (k1 _ _)).trans (k1 _ _)
 ·exact ((yR.new w _ rfl _ _ _ _ _).keep (((k1 _ _).trans (k1 _ _)).trans (k1 _ _)))
theorem wV (pb st:Nat)(N:List Stp)(W:Int→Bool)(bv:Value)(bs:List Nat)(x0 x1 x2 x3:Bool)(A:Nat→Prop)(w:World)(hP:yM w A pb N st W)(hB:y9 w bv bs)(hb:∀ a∈bs,a<N.length)(hl:bs.length≤301) :
  Calls Tryz.prog 75 #[.pointer (some ⟨pb,0,none⟩),bv,.agg #[.bool x0,.bool x1,.bool x2,.bool x3]] w fun x w'=>∃ rv rs,x = .returned rv∧w'.ownsRow w.heap.size 3 1 rv rs.length (zD rs)∧zd (fun _=>False) w w'∧rs.length≤N.length∧(∀ a∈rs,a<N.length)∧(∀ p∈bs,p∈rs)∧(∀ q∈rs,∃ p∈bs,Prg.GE N (Prg.qt x0 x1 x2 x3) p q)∧∀ a∈rs,∀ t,Prg.epsB N (Prg.qt x0 x1 x2 x3) a t→t∈rs:=by
 obtain ⟨va,vc,rfl⟩:=hB.slice
 obtain ⟨gs,cs,hst,hA,hcs,hrow⟩:=hP.c0
 have hNl:=hP.len
 have hmk:=vI N.length (by omega)
 have HB:=zb hB
 have HP:=zb hP
 have HW:=zb hrow
 have HBN:=zb hb
 clear hB hP hrow hb
 have hst1:∀ o1 o2,((w.alloc o1).alloc o2).cell? ⟨pb,0,none⟩=some (.slice (some ⟨gs,0,none⟩) N.length cs):=fun o1 o2=>zf (((zd.refl (fun _=>False) w).alloc o1).alloc o2) _ _ hst (fun f=>f)
 go_enter Tryz.func75,Tryz.ntmps75
 go_wp2_with fail
 have HR:=zb (Rgo.start w N.length x0 x1 x2 x3 160)
 generalize hW0:((((w.alloc (.cells #[.bool x0,.bool x1,.bool x2,.bool x3] 160)).alloc (.cells #[.slice none 0 0] 28)).alloc (.cells (madeCells #[.bool false] N.length) 4)).alloc (.cells #[.slice (some ⟨w.heap.size+1+1,0,none⟩) N.length N.length] 56))=W0 at HR ⊢
 clear hW0 hmk hst1
 have eg:∀ args w,(callFunc 115 args).run Tryz.prog w = .ok (.enter 115 args) w:=enters_of Tryz.func115 (by kernel_rfl) rfl
 go_loopw [23] (fun k wr=>∃ (n:Nat) (ms:List Bool) (rs:List Nat),k = .int .i64 n∧n≤bs.length∧Hid (Rgo w wr N.length x0 x1 x2 x3 ms rs)∧Hid ((∀ q∈rs,q∈bs)∧∀ p∈bs.take n,p∈rs)) (fun k _=>bs.length-(intOf k).toNat)
 case atStart=>exact ⟨0,_,[],rfl,by omega,HR,by simp,by simp⟩
 case round=>
  obtain ⟨n,ms,rs,rfl,hn,HG,HI⟩:=hrel
  by_cases hlt:n<bs.length
  ·obtain ⟨g,rfl,hcap,hc1⟩:=(za HB).get hlt
   have hc2:=zf (za HG).on _ _ hc1 (fun f=>f)
   clear hc1
   have hbn:=(za HBN) bs[n] (List.getElem_mem hlt)
   have HI2:Hid ((∀ q∈Prg.visL rs bs[n],q∈bs)∧∀ p∈bs.take (n+1),p∈Prg.visL rs bs[n]):=by
    refine ⟨fun q hq=>?_,fun p hp=>?_⟩
    ·rcases Prg.qK.1 hq with h |rfl
     ·exact (za HI).1 q h
     ·exact List.getElem_mem hlt
    ·rw [List.take_add_one,List.getElem?_eq_getElem hlt] at hp
     rcases List.mem_append.1 hp with h |h
     ·exact Prg.qK.2 (.inl ((za HI).2 p h))
     ·exact Prg.qK.2 (.inr (by simpa using h))
   generalize bs[n]=a at *
   go_wp2_with (go_at_fn 115;refine (wt (za HG) hbn hNl).mono ?_;rintro e w1 ⟨rfl,ms1,hG1⟩;have HG1:=zb hG1;clear hG1)
   exact ⟨⟨n+1,ms1,_,by go_num,by omega,HG1,HI2⟩,by simp [intOf];omega⟩
  ·obtain rfl:n=bs.length:=by omega
   rw [List.take_length] at HI
   go_wp2_with fail
   have HI0:Hid (Prg.Inv N (Prg.qt x0 x1 x2 x3) bs 0 rs):=⟨(za HI).2,fun q hq=>⟨q,(za HI).1 q hq,Prg.GE.refl _ _ _⟩,fun j a hj=>by omega⟩
   clear HI
   go_loopw [12] (fun k wq=>∃ (n:Nat) (ms:List Bool) (rs:List Nat),k = .int .i64 n∧n≤rs.length∧Hid (Rgo w wq N.length x0 x1 x2 x3 ms rs)∧Hid (Prg.Inv N (Prg.qt x0 x1 x2 x3) bs n rs)) (fun k _=>N.length-(intOf k).toNat)
   case atStart=>exact ⟨0,ms,rs,rfl,by omega,HG,HI0⟩
   case round=>
    clear HG HI0
    obtain ⟨n,ms2,rs2,rfl,hn2,HG2,HI2⟩:=hrel
    have hlen2:=(za HG2).rch.len
    obtain ⟨rv,hrv,hown⟩:=(za HG2).rch.r0
    obtain ⟨ra,rn,rc,rfl⟩:=zp hown
    obtain ⟨rfl,hgets⟩:=Kq hown rfl
    by_cases hlt2:n<rs2.length
    ·obtain ⟨gr,rfl,hrc,hcr⟩:=hgets n hlt2
     have hra:rs2[n]<N.length:=(za HG2).rch.lt _ (List.getElem_mem hlt2)
     have hget:N[rs2[n]]?=some N[rs2[n]]:=List.getElem?_eq_getElem hra
     have HA:Hid (rs2[n]?=some rs2[n]):=List.getElem?_eq_getElem hlt2
     obtain ⟨s0,_,s2,s3,s4⟩:=za HW _ _ hget
     have hfit:=(za HP).fit _ _ hget
     have HS3:=zb s3
     have HS4:=zb s4
     have e0:=zf (za HG2).on _ _ s0 (fun f=>f)
     have e2:=zf (za HG2).on _ _ s2 (fun f=>f)
     have e3:=zf (za HG2).on _ _ s3 (fun f=>f)
     have ep:=zf (za HG2).on _ _ hst (fun f=>f)
     have HGT:=zb hget
     clear s0 s2 s3 s4 hget hgets hown
     generalize N[rs2[n]]=s at *
     generalize rs2[n]=a at *
     obtain ⟨hf1,hf2⟩:=hfit
     have b1:(0:Int)≤(n:Int):=by omega
     have b2:(n:Int)<(rs2.length:Int):=by omega
     have b3:(0:Int)≤(a:Int):=by omega
     have b4:(a:Int)<(N.length:Int):=by omega
     by_cases hk2:s.kind=2
     ·have hb2:((s.kind:Int) == 2)=true:=by simp;omega
      obtain ⟨k0,k1,k2,k3,_,_,_,_⟩:=(za HG2).sp
      have HZ:Hid (∀ W',zd (fun _=>False) wr W'→Calls Tryz.prog 116 #[.agg #[.bool x0,.bool x1,.bool x2,.bool x3],.int .i64 s.asr] W' fun e w'=>e = .returned (.bool (Prg.qt x0 x1 x2 x3 s.asr))∧zd (fun _=>False) wr w'∧w'.cell? ⟨w.heap.size,0,none⟩=some (.bool x0)∧w'.cell? ⟨w.heap.size,1,none⟩=some (.bool x1)∧w'.cell? ⟨w.heap.size,2,none⟩=some (.bool x2)∧w'.cell? ⟨w.heap.size,3,none⟩=some (.bool x3)∧w'.cell? ⟨gs,a*5+2,none⟩=some (.int .i64 s.asr)):=fun W' hW=>by
       refine (Vz x0 x1 x2 x3 s.asr W').mono ?_
       rintro e w' ⟨rfl,hO⟩
       have k:=hW.trans hO
       exact ⟨rfl,k,zf k _ _ k0 (fun f=>f),zf k _ _ k1 (fun f=>f),zf k _ _ k2 (fun f=>f),zf k _ _ k3 (fun f=>f),zf k _ _ e2 (fun f=>f)⟩
      have HE:=zb (fun t=>Prg.eps_test (H:=Prg.qt x0 x1 x2 x3) (za HGT) hk2 t)
      clear hk2
      cases hH:Prg.qt x0 x1 x2 x3 s.asr
      ·have HI3:Hid (Prg.Inv N (Prg.qt x0 x1 x2 x3) bs (n+1) rs2):=(za HI2).next (za HA) (fun t ht=>by have:=((za HE t).1 ht).1;rw [hH] at this;cases this)
       rw [hH] at HZ
       clear hH
       go_wp2_with fail
       go_quiet (fail)
       go_wp2_with fail
       go_region_held3 (fun w'=>w'.cell? ⟨w.heap.size,0,none⟩=some (.bool x0)∧w'.cell? ⟨w.heap.size,1,none⟩=some (.bool x1)∧w'.cell? ⟨w.heap.size,2,none⟩=some (.bool x2)∧w'.cell? ⟨w.heap.size,3,none⟩=some (.bool x3)∧w'.cell? ⟨gs,a*5+2,none⟩=some (.int .i64 s.asr)) (go_keep)
        (first |(go_at_call 116;refine (za HZ _ (by first |exact zd.refl _ _ |exact (zd.refl _ _).drewN _ |exact ((zd.refl _ _).drewN _).drewN _)).mono ?_;rintro e w1 ⟨rfl,hO1,y0,y1,y2,y3,y4⟩;have HG3:=zb ((za HG2).keep hO1);clear hO1))
       go_wp2_with fail
       exact ⟨⟨n+1,ms2,rs2,by go_num,by omega,HG3,HI3⟩,by simp [intOf];omega⟩
      ·obtain ⟨i1,i2,i3⟩:=(za HI2).visit (za HA) ((za HE s.next).2 ⟨hH,rfl⟩)
       have HI3:Hid (Prg.Inv N (Prg.qt x0 x1 x2 x3) bs (n+1) (Prg.visL rs2 s.next)):=i1.next i2 (fun t ht=>by rw [((za HE t).1 ht).2];exact i3)
       have hvl:=Prg.Yj rs2 s.next
       rw [hH] at HZ
       clear hH i1 i2 i3
       go_wp2_with fail
       go_quiet (fail)
       go_wp2_with fail
       go_region_held3 (fun w'=>w'.cell? ⟨w.heap.size,0,none⟩=some (.bool x0)∧w'.cell? ⟨w.heap.size,1,none⟩=some (.bool x1)∧w'.cell? ⟨w.heap.size,2,none⟩=some (.bool x2)∧w'.cell? ⟨w.heap.size,3,none⟩=some (.bool x3)∧w'.cell? ⟨gs,a*5+2,none⟩=some (.int .i64 s.asr)) (go_keep)
        (first |(go_at_call 116;refine (za HZ _ (by first |exact zd.refl _ _ |exact (zd.refl _ _).drewN _ |exact ((zd.refl _ _).drewN _).drewN _)).mono ?_;rintro e w1 ⟨rfl,hO1,y0,y1,y2,y3,y4⟩;have z3:=zf hO1 _ _ e3 (fun f=>f);have HG3:=zb ((za HG2).keep hO1);clear hO1))
       go_wp2_with (go_at_fn 115;refine (wt ((za HG3).keep (by first |exact zd.refl _ _ |exact (zd.refl _ _).drewN _)) hf1 hNl).mono ?_;rintro e w2 ⟨rfl,ms3,hG4⟩;have HG4:=zb hG4;clear hG4)
       exact ⟨⟨n+1,ms3,_,by go_num,by omega,HG4,HI3⟩,by simp [intOf];omega⟩
     ·by_cases hk3:s.kind=3
      ·have hb2:((s.kind:Int) == 2)=false:=by simp;omega
       have hb3:((s.kind:Int) == 3)=true:=by simp;omega
       have HE:=zb (fun t=>Prg.eps_fork (H:=Prg.qt x0 x1 x2 x3) (za HGT) hk3 t)
       clear hk2 hk3
       obtain ⟨i1,i2,i3⟩:=(za HI2).visit (za HA) ((za HE s.next).2 (.inl rfl))
       obtain ⟨j1,j2,j3⟩:=i1.visit i2 ((za HE s.other).2 (.inr rfl))
       have HI3:Hid (Prg.Inv N (Prg.qt x0 x1 x2 x3) bs (n+1) (Prg.visL (Prg.visL rs2 s.next) s.other)):=j1.next j2 (fun t ht=>by
        rcases (za HE t).1 ht with rfl |rfl
        ·exact Prg.qK.2 (.inl i3)
        ·exact j3)
       have hvl:=Prg.Yj rs2 s.next
       have hvl2:=Prg.Yj (Prg.visL rs2 s.next) s.other
       clear i1 i2 i3 j1 j2 j3
       go_wp2_with fail
       go_quiet (fail)
       go_wp2_with (first
        |(go_at_fn 115;refine (wt ((za HG2).keep (by first |exact zd.refl _ _ |exact (zd.refl _ _).drewN _)) hf1 hNl).mono ?_;rintro e w1 ⟨rfl,ms3,hG3⟩;have z4:=zf hG3.on _ _ (za HS4) (fun f=>f);have HG3:=zb hG3;clear hG3 HG2)
        |(go_at_fn 115;refine (wt ((za HG3).keep (by first |exact zd.refl _ _ |exact (zd.refl _ _).drewN _)) hf2 hNl).mono ?_;rintro e w2 ⟨rfl,ms4,hG4⟩;have HG4:=zb hG4;clear hG4))
       exact ⟨⟨n+1,ms4,_,by go_num,by omega,HG4,HI3⟩,by simp [intOf];omega⟩
      ·have hb2:((s.kind:Int) == 2)=false:=by simp;omega
       have hb3:((s.kind:Int) == 3)=false:=by simp;omega
       have HI3:Hid (Prg.Inv N (Prg.qt x0 x1 x2 x3) bs (n+1) rs2):=(za HI2).next (za HA) (fun t ht=>absurd ht (Prg.eps_none (za HGT) hk2 hk3 t))
       clear hk2 hk3
       go_wp2_with fail
       go_quiet (fail)
       go_wp2_with fail
       exact ⟨⟨n+1,ms2,rs2,by go_num,by omega,(za HG2).keep ((zd.refl _ _).drewN _),HI3⟩,by simp [intOf];omega⟩
    ·obtain rfl:n=rs2.length:=by omega
     have HF:=zb hown
     clear hgets hown
     go_wp2_with fail
     go_ret
     refine ⟨_,rs2,rfl,yI (za HF) (by omega),(za HG2).on,hlen2,(za HG2).rch.lt,(za HI2).1,(za HI2).2.1,fun a ha t ht=>?_⟩
     obtain ⟨j,hj⟩:=jc ha
     exact (za HI2).2.2 j a (List.getElem?_eq_some_iff.1 hj).1 hj t ht
theorem y9.of {w:World}{base:Nat}{v:Value}{rs:List Nat}(h:w.ownsRow base 3 1 v rs.length (zD rs)):y9 w v rs:=by
 obtain ⟨a,n,c,rfl⟩:=zp h
 obtain ⟨rfl,hg⟩:=Kq h rfl
 by_cases h0:rs=[]
 ·subst h0
  rcases h.2 with ⟨e,_⟩ |⟨g,cap,cur,e,_,_,hn,_⟩
  ·exact .inl ⟨e,rfl⟩
  ·exact .inr ⟨g,cap,e,hn,fun j a hj=>by simp at hj⟩
 ·have hl:0<rs.length:=List.length_pos_iff.2 h0
  obtain ⟨g,rfl,hc,_⟩:=hg 0 hl
  refine .inr ⟨g,c,rfl,hc,fun j a hj=>?_⟩
  obtain ⟨hjl,rfl⟩:=List.getElem?_eq_some_iff.1 hj
  obtain ⟨g',e,_,h2⟩:=hg j hjl
  cases e
  exact h2
theorem VA (rv:Value)(rs:List Nat)(v:Nat)(w:World)(h:y9 w rv rs)(hl:rs.length≤1000) :
  Calls Tryz.prog 118 #[rv,.int .i64 (v:Nat)] w fun x w'=>∃ k:Int,x = .returned (.int .i64 k)∧(0≤k↔v∈rs)∧zd (fun _=>False) w w':=by
 obtain ⟨va,vc,rfl⟩:=h.slice
 have HB:=zb h
 clear h
 go_enter Tryz.func118,Tryz.ntmps118
 go_wp2_with fail
 go_loopw [8] (fun k wr=>∃ n:Nat,k = .int .i64 n∧n≤rs.length∧Hid (zd (fun _=>False) w wr)∧Hid (v∉rs.take n)) (fun k _=>rs.length-(intOf k).toNat)
 case atStart=>exact ⟨0,rfl,by omega,zd.refl _ _,by show ¬v∈rs.take 0;simp⟩
 case round=>
  obtain ⟨n,rfl,hn,HK,HN⟩:=hrel
  by_cases hlt:n<rs.length
  ·obtain ⟨g,rfl,hcap,hc1⟩:=(za HB).get hlt
   have hc2:=zf (za HK) _ _ hc1 (fun f=>f)
   clear hc1
   have b1:(0:Int)≤(n:Int):=by omega
   have b2:(n:Int)<(rs.length:Int):=by omega
   have HM:Hid (rs[n]∈rs):=List.getElem_mem hlt
   have HN1:Hid (v≠rs[n]→v∉rs.take (n+1)):=fun hne hm=>by
    rw [List.take_add_one,List.getElem?_eq_getElem hlt] at hm
    rcases List.mem_append.1 hm with h |h
    ·exact za HN h
    ·exact hne (by simpa using h)
   generalize rs[n]=a at *
   by_cases hva:v=a
   ·have hb:((v:Int) == (a:Int))=true:=by simp [hva]
    have HV:Hid (v∈rs):=by show v∈rs;rw [hva];exact za HM
    clear hva
    go_wp2_with fail
    go_ret
    exact ⟨n,rfl,⟨fun _=>za HV,fun _=>by omega⟩,za HK⟩
   ·have hb:((v:Int) == (a:Int))=false:=by simp;omega
    have HN2:=zb (za HN1 hva)
    clear hva
    go_wp2_with fail
    exact ⟨⟨n+1,by go_num,by omega,HK,za HN2⟩,by simp [intOf];omega⟩
  ·obtain rfl:n=rs.length:=by omega
   rw [List.take_length] at HN
   go_wp2_with fail
   go_ret
   exact ⟨-1,rfl,⟨fun h=>by omega,fun h=>absurd h (za HN)⟩,za HK⟩
theorem wW (rv:Value)(rs:List Nat)(v:Nat)(w:World)(h:y9 w rv rs)(hl:rs.length≤1000) :
  Calls Tryz.prog 77 #[rv,.int .i64 (v:Nat)] w fun x w'=>x = .returned (.bool (decide (v∈rs)))∧zd (fun _=>False) w w':=by
 have HZ:=zb (VA rv rs v w h hl)
 obtain ⟨va,vc,rfl⟩:=h.slice
 clear h
 by_cases hv:v∈rs
 ·rw [decide_eq_true hv]
  go_enter Tryz.func77,Tryz.ntmps77
  go_wp2_with (go_at_call 118;refine (za HZ).mono ?_;rintro e w1 ⟨k,rfl,hk,hO1⟩;have hk0:0≤k:=hk.2 hv;clear hk;have HO1:=zb hO1;clear hO1)
  go_ret
  exact ⟨rfl,za HO1⟩
 ·rw [decide_eq_false hv]
  go_enter Tryz.func77,Tryz.ntmps77
  go_wp2_with (go_at_call 118;refine (za HZ).mono ?_;rintro e w1 ⟨k,rfl,hk,hO1⟩;have hk0:¬0≤k:=fun h=>hv (hk.1 h);clear hk;have HO1:=zb hO1;clear hO1)
  go_ret
  refine ⟨?_,za HO1⟩
  show Ending.returned (.bool (decide (0≤k)))=_
  rw [decide_eq_false (by omega)]
namespace Prg
def lfP (L:List (Int×Int))(T:Tree)(k:Nat):Prop:=k<L.length∧Cs.qv T (Pro.ze L k)=true
def jl (W:Int→Bool)(L:List (Int×Int))(k:Nat)(a:Int):Bool:=qt (decide (k=0)) (decide (k=L.length)) (befB W L k) (aftB W L k) a
def ahP (W:Int→Bool)(L:List (Int×Int))(a:Int)(k:Nat):Prop:=jl W L k a=true
abbrev GoP (W:Int→Bool)(L:List (Int×Int))(N:List Stp)(p i q j:Nat):Prop:=Sm.Goes (lfP L) (ahP W L) N p i q j
def Beg (W:Int→Bool)(L:List (Int×Int))(N:List Stp)(st i m:Nat)(bs:List Nat):Prop:=(∀ p∈bs,p<N.length)∧∀ q,(∃ p∈bs,GoP W L N p m q m)↔GoP W L N st i q m
def Done (W:Int→Bool)(L:List (Int×Int))(N:List Stp)(st i m:Nat)(js:List Nat):Prop:=js.Pairwise (· < ·)∧∀ j,j∈js↔j<m∧GoP W L N st i 0 j
theorem Beg.first {W:Int→Bool}{L:List (Int×Int)}{N:List Stp}{st i:Nat}(hs:st<N.length):Beg W L N st i i [st]:=
 ⟨fun p hp=>by simp at hp;omega,fun q=>⟨fun ⟨p,hp,g⟩=>by obtain rfl:=List.mem_singleton.1 hp;exact g,fun g=>⟨st,List.mem_singleton.2 rfl,g⟩⟩⟩
theorem Done.first {W:Int→Bool}{L:List (Int×Int)}{N:List Stp}{st i:Nat}:Done W L N st i i []:=
 ⟨List.Pairwise.nil,fun j=>⟨fun h=>(by cases h),fun h=>(by have:=h.2.le;omega)⟩⟩
theorem eps_at {W:Int→Bool}{L:List (Int×Int)}{N:List Stp}{m a b:Nat}:Sm.eps (ahP W L) N a m b↔epsB N (jl W L m) a b:=Iff.rfl
theorem GE_at {W:Int→Bool}{L:List (Int×Int)}{N:List Stp}{m a b:Nat}(h:GE N (jl W L m) a b):GoP W L N a m b m:=by
 obtain ⟨k,h⟩:=h
 suffices H:∀ (k a b i j:Nat),Sm.Run (fun _ _=>False) (fun x _=>jl W L m x=true) N k a i b j→GoP W L N a m b m from H k a b 0 0 h
 intro k
 induction k with
 |zero=>rintro a b i j ⟨rfl,_⟩;exact Sm.Goes.refl _ _ _
 |succ k ih=>
  rintro a b i j ⟨p',i',⟨s,hs,h1⟩,h2⟩
  refine Sm.Goes.head ?_ (ih _ _ _ _ h2)
  rcases h1 with ⟨_,f,_⟩ |⟨k1,k2,k3,_⟩ |⟨k1,k2,_⟩
  ·exact f.elim
  ·exact ⟨s,hs,.inr (.inl ⟨k1,k2,k3,rfl⟩)⟩
  ·exact ⟨s,hs,.inr (.inr ⟨k1,k2,rfl⟩)⟩
theorem VB {W:Int→Bool}{L:List (Int×Int)}{N:List Stp}{m:Nat}{bs rs:List Nat}(h1:∀ p∈bs,p∈rs)(h2:∀ q∈rs,∃ p∈bs,GE N (jl W L m) p q)(h3:∀ a∈rs,∀ t,epsB N (jl W L m) a t→t∈rs)(q:Nat):q∈rs↔∃ p∈bs,GoP W L N p m q m:=
 Sm.Zk h1 (fun q hq=>by obtain ⟨p,hp,g⟩:=h2 q hq;exact ⟨p,hp,GE_at g⟩) (fun a ha b hb=>h3 a ha b (eps_at.1 hb)) q
theorem take_all {L:List (Int×Int)}{N:List Stp}{m:Nat}{rs:List Nat}(hm:m<L.length)(b:Nat):b∈yQ N (Pro.ze L m) rs↔∃ a∈rs,Sm.tkr (lfP L) N a m b:=by
 rw [wZ]
 constructor
 ·rintro ⟨a,ha,s,hs,hp,rfl⟩
  unfold setP at hp
  rw [Bool.and_eq_true,decide_eq_true_eq] at hp
  exact ⟨a,ha,s,hs,hp.1,⟨hm,hp.2⟩,rfl⟩
 ·rintro ⟨a,ha,s,hs,hk,hl,rfl⟩
  exact ⟨a,ha,s,hs,by unfold setP;rw [hl.2,decide_eq_true hk];rfl,rfl⟩
theorem Beg.next {W:Int→Bool}{L:List (Int×Int)}{N:List Stp}{st i m:Nat}{bs rs:List Nat}(h:Beg W L N st i m bs)(him:i≤m)(hm:m<L.length)(hr:∀ q,q∈rs↔∃ p∈bs,GoP W L N p m q m)(hf:∀ (k:Nat) s,N[k]?=some s→s.next<N.length∧s.other<N.length):Beg W L N st i (m+1) (yQ N (Pro.ze L m) rs):=
 ⟨fun b hb=>by obtain ⟨a,_,s,hs,_,rfl⟩:=wZ.1 hb;exact (hf a s hs).1,fun q=>Sm.K5 him h.2 hr (take_all hm) q⟩
theorem Done.next {W:Int→Bool}{L:List (Int×Int)}{N:List Stp}{st i m:Nat}{bs rs js:List Nat}(hd:Done W L N st i m js)(h:Beg W L N st i m bs)(hr:∀ q,q∈rs↔∃ p∈bs,GoP W L N p m q m):(0∈rs→Done W L N st i (m+1) (js++[m]))∧(0∉rs→Done W L N st i (m+1) js):=by
 have e:0∈rs↔GoP W L N st i 0 m:=(hr 0).trans (h.2 0)
 constructor
 ·intro h0
  refine ⟨List.pairwise_append.2 ⟨hd.1,by simp,fun a ha b hb=>?_⟩,fun j=>?_⟩
  ·simp at hb
   subst hb
   exact ((hd.2 a).1 ha).1
  ·rw [List.mem_append,hd.2 j]
   constructor
   ·rintro (⟨h1,h2⟩ |h1)
    ·exact ⟨by omega,h2⟩
    ·simp at h1;subst h1;exact ⟨by omega,e.1 h0⟩
   ·rintro ⟨h1,h2⟩
    by_cases ej:j=m
    ·right;simp [ej]
    ·left;exact ⟨by omega,h2⟩
 ·intro h0
  refine ⟨hd.1,fun j=>?_⟩
  rw [hd.2 j]
  constructor
  ·rintro ⟨h1,h2⟩;exact ⟨by omega,h2⟩
  ·rintro ⟨h1,h2⟩
   refine ⟨?_,h2⟩
   by_cases ej:j=m
   ·subst ej;exact absurd (e.2 h2) h0
   ·omega
theorem Done.all {W:Int→Bool}{L:List (Int×Int)}{N:List Stp}{st i:Nat}{js:List Nat}(hd:Done W L N st i (L.length+1) js):kI L.length (GoP W L N st i 0) js:=⟨hd.1,fun j=>by rw [hd.2 j];constructor<;>rintro ⟨h1,h2⟩<;>exact ⟨by omega,h2⟩⟩
theorem Done.none {W:Int→Bool}{L:List (Int×Int)}{N:List Stp}{st i m:Nat}{js:List Nat}(hd:Done W L N st i m js)(h:Beg W L N st i m [])(him:i≤m)(hm:m≤L.length):kI L.length (GoP W L N st i 0) js:=by
 have hn:∀ q,¬GoP W L N st i q m:=fun q g=>by obtain ⟨p,hp,_⟩:=(h.2 q).2 g;cases hp
 refine ⟨hd.1,fun j=>?_⟩
 rw [hd.2 j]
 constructor
 ·rintro ⟨h1,h2⟩;exact ⟨by omega,h2⟩
 ·rintro ⟨h1,h2⟩
  refine ⟨?_,h2⟩
  by_cases e:j<m
  ·exact e
  ·obtain ⟨d,rfl⟩:∃ d,j=m+d:=⟨j-m,by omega⟩
   exact absurd h2 (Sm.YO him hn d 0)
end Prg
theorem VC (pb st i:Nat)(N:List Stp)(W:Int→Bool)(L:List (Int×Int))(v:Value)(A:Nat→Prop)(w:World)(hP:yM w A pb N st W)(hL:qX w v L)(hi:i≤L.length)(hl:L.length≤400) :
  Calls Tryz.prog 51 #[.pointer (some ⟨pb,0,none⟩),v,.int .i64 (i:Nat)] w fun x w'=>∃ sv js,x = .returned sv∧w'.ownsRow w.heap.size 3 1 sv js.length (zD js)∧kI L.length (Prg.GoP W L N st i 0) js∧zd (fun _=>False) w w':=by
 obtain ⟨i0,hi0,hz0,hz1,hz2⟩:=info_parts Tryz.infoInt
 obtain ⟨va,vc,rfl⟩:=hL.slice
 have hst:=hP.c1
 have hNl:=hP.len
 have HP:=zb hP
 have HL:=zb hL
 clear hP hL
 go_enter Tryz.func51,Tryz.ntmps51
 go_wp2_with fail
 have HO0:Hid (zd (fun _=>False) w (w.alloc (.cells #[.int .i64 (st:Nat)] 3))):=(zd.refl _ _).alloc _
 have HB0:Hid (y9 (w.alloc (.cells #[.int .i64 (st:Nat)] 3)) (.slice (some ⟨w.heap.size,0,none⟩) 1 1) [st]):=.inr ⟨w.heap.size,1,rfl,by simp,fun j a hj=>by
  have hj0:j=0:=by have:=(List.getElem?_eq_some_iff.1 hj).1;simp at this;omega
  subst hj0
  simp at hj
  subst hj
  exact zj _ _ rfl _ _ 0 _ rfl⟩
 generalize (w.alloc (.cells #[.int .i64 (st:Nat)] 3))=W0 at HO0 HB0 ⊢
 go_loopw [7,8,9] (fun ev bv k wr=>∃ (m:Nat) (bs js:List Nat),k = .int .i64 m∧i≤m∧m≤L.length∧bs.length≤300∧js.length≤m∧Hid (zd (fun _=>False) w wr)∧Hid (wr.ownsRow w.heap.size 3 1 ev js.length (zD js))∧Hid (y9 wr bv bs)∧Hid (Prg.Beg W L N st i m bs)∧Hid (Prg.Done W L N st i m js)) (fun _ _ k _=>L.length+1-(intOf k).toNat)
 case atStart=>exact ⟨i,[st],[],rfl,by omega,by omega,by simp,by simp,HO0,World.ownsRow_nil _ _ _ _,HB0,Prg.Beg.first (za HP).stl,Prg.Done.first⟩
 case round=>
  clear HO0 HB0
  obtain ⟨m,bs,js,rfl,him,hmL,hbl,hjl,HK,HE,HB,HG,HD⟩:=hrel
  obtain ⟨ea,en,ec,rfl⟩:=zp (za HE)
  obtain ⟨ba,bc,rfl⟩:=(za HB).slice
  by_cases hb0:bs.length=0
  ·have hbi:¬(0:Int)<(bs.length:Int):=by omega
   have HX:Hid (kI L.length (Prg.GoP W L N st i 0) js):=(za HD).none (by rw [List.eq_nil_of_length_eq_zero hb0] at HG;exact za HG) him hmL
   clear hb0
   go_wp2_with fail
   go_ret
   exact ⟨_,rfl,js,za HE,za HX,za HK⟩
  ·have hbi:(0:Int)<(bs.length:Int):=by omega
   clear hb0
   have HA:=zb (JT pb st m N W L _ A wr ((za HP).keep (za HK) (fun _ _ f=>f)) ((za HL).keep (za HK)) hmL hl)
   go_wp2_with (first
    |(go_at_call 76;refine (za HA).mono ?_;rintro e w1 ⟨rfl,hO1⟩;have HK1:=zb ((za HK).trans hO1);have HE1:=zb (zk (za HE) hO1 (fun _ _ f=>f));have HB1:=zb ((za HB).keep hO1);clear hO1 HK HE HB HA)
    |(go_at_call 75;refine (wV pb st N W _ bs _ _ _ _ A w1 ((za HP).keep (za HK1) (fun _ _ f=>f)) (za HB1) (za HG).1 (by omega)).mono ?_;rintro e w2 ⟨rv,rs,rfl,ho2,hO2,hr1,hr2,hr3,hr4,hr5⟩;obtain ⟨ra,rn,rc,rfl⟩:=zp ho2;have HR2:=zb (y9.of ho2);have HK2:=zb ((za HK1).trans hO2);have HE2:=zb (zk (za HE1) hO2 (fun _ _ f=>f));have HQ:=zb (Prg.VB (W:=W) (L:=L) (m:=m) hr3 hr4 hr5);have HRL:=zb hr2;have HRO:=zb ho2;have HEB:Hid (∀ j,(Value.slice ea en ec).ownBlock=some j→j<w1.heap.size):=(fun j hj=>(zg (za HE1) j hj).2);clear ho2 hO2 hr2 hr3 hr4 hr5 HK1 HE1 HB1)
    |(go_at_call 77;refine za ?_))
   refine zb ?_
   have hH:Calls Tryz.prog 77 #[.slice ra rn rc,.int .i64 0] w2 fun x w'=>x = .returned (.bool (decide (0∈rs)))∧zd (fun _=>False) w2 w':=wW _ rs 0 w2 (za HR2) (by omega)
   have HDN:=zb ((za HD).next (za HG) (za HQ))
   by_cases h00:0∈rs
   ·rw [decide_eq_true h00] at hH
    have HD1:=zb ((za HDN).1 h00)
    clear HDN h00
    refine hH.mono ?_
    rintro e w3 ⟨rfl,hO3⟩
    have HK3:=zb ((za HK2).trans hO3)
    have HE3:=zb (zk (za HE2) hO3 (fun _ _ f=>f))
    have HR3:=zb (zk (za HRO) hO3 (fun _ _ f=>f))
    have hsz3:=(za HK3).size
    clear hO3 hH HK2 HE2 HR2 HRO
    by_cases hmm:m=L.length
    ·have hmb:((m:Int) == (L.length:Int))=true:=by simp;omega
     have HX:Hid (kI L.length (Prg.GoP W L N st i 0) (js++[m])):=Prg.Done.all (by rw [←hmm];exact za HD1)
     clear hmm
     go_wp2_with (at_builtin;refine wpList_append_own _ rfl _ _ 28 rfl w.heap.size 3 i0 (.int .i64 0) 1 8 Tryz.underlying28 hi0 hz0 hz1 hz2 rfl (by decide) _ _ _ rfl (World.ownsRow.alloc (za HE3) _) _ 1 1 [.int .i64 (m:Nat)] rfl rfl (cell_one_new _ _ _) (fun x hx=>by simp at hx;subst hx;rfl) (by unfold maxLen;omega) (by omega) (by simp;omega) ?_;intro v' w4 hown' hgrow hnil;obtain ⟨xa,xn,xc,rfl⟩:=zp hown';have HG4:=zb hgrow;have HN4:=zb hown';clear hown' hgrow hnil)
     go_ret
     have hK4:zd (fun _=>False) w w4:=((za HK3).alloc _).grown (za HG4) (fun j hj=>Or.inr (zg (za HE3) j hj).1)
     have HE4:Hid (w4.ownsRow w.heap.size 3 1 (.slice xa xn xc) (js++[m]).length (zD (js++[m]))):=by show World.ownsRow _ _ _ _ _ _ _;unfold zD;rw [List.length_append,List.map_append];exact za HN4
     exact ⟨_,js++[m],rfl,za HE4,za HX,hK4⟩
    ·have hmb:((m:Int) == (L.length:Int))=false:=by simp;omega
     have hml:m<L.length:=by omega
     obtain ⟨g,cap,x0,hv,hcap,d1,d2⟩:=(za HL).get hml
     simp at hv
     obtain ⟨rfl,rfl⟩:=hv
     have b1:(0:Int)≤(m:Int):=by omega
     have b2:(m:Int)<(L.length:Int):=by omega
     have HG1:=zb ((za HG).next him hml (za HQ) (za HP).fit)
     have htl:=Prg.ve N (Pro.ze L m) rs
     have HDD:=zb d2
     clear hmm d1 d2
     go_wp2_with (first
      |(at_builtin;refine wpList_append_own _ rfl _ _ 28 rfl w.heap.size 3 i0 (.int .i64 0) 1 8 Tryz.underlying28 hi0 hz0 hz1 hz2 rfl (by decide) _ _ _ rfl (World.ownsRow.alloc (za HE3) _) _ 1 1 [.int .i64 (m:Nat)] rfl rfl (cell_one_new _ _ _) (fun x hx=>by simp at hx;subst hx;rfl) (by unfold maxLen;omega) (by omega) (by simp;omega) ?_;intro v' w4 hown' hgrow hnil;obtain ⟨xa,xn,xc,rfl⟩:=zp hown';have HG4:=zb hgrow;have HN4:=zb hown';clear hown' hgrow hnil;have hK4:zd (fun _=>False) w w4:=((za HK3).alloc _).grown (za HG4) (fun j hj=>Or.inr (zg (za HE3) j hj).1);have d3:=zf hK4 _ _ (za HDD) (fun f=>f);have HK4:=zb hK4;clear hK4)
      |(go_at_call 78;refine za ?_))
     refine zb ?_
     have HE4:Hid (w4.ownsRow w.heap.size 3 1 (.slice xa xn xc) (js++[m]).length (zD (js++[m]))):=by show World.ownsRow _ _ _ _ _ _ _;unfold zD;rw [List.length_append,List.map_append];exact za HN4
     have hR4:w4.ownsRow w1.heap.size 3 1 (.slice ra rn rc) rs.length (zD rs):=zk (P:=fun g=>(Value.slice ea en ec).ownBlock=some g) (World.ownsRow.alloc (za HR3) _) ((zd.refl _ _).grown (za HG4) (fun j hj=>Or.inl hj)) (fun g hg e=>by have h1:=(zg (za HR3) g hg).1;have h2:=za HEB g e;omega)
     refine (Za pb st N W _ rs (Pro.ze L m) A w4 ((za HP).keep (za HK4) (fun _ _ f=>f)) (y9.of hR4) (za HRL) (by omega)).mono ?_
     rintro e w5 ⟨tv,rfl,ho5,hO5⟩
     have HK5:=zb ((za HK4).trans hO5)
     have HE5:=zb (zk (za HE4) hO5 (fun _ _ f=>f))
     have HB5:=zb (y9.of ho5)
     clear ho5 hO5 hR4
     go_wp2_with fail
     exact ⟨⟨m+1,_,js++[m],by go_num,by omega,by omega,by omega,by simp;omega,HK5,HE5,HB5,HG1,HD1⟩,by simp [intOf];omega⟩
   ·rw [decide_eq_false h00] at hH
    have HD1:=zb ((za HDN).2 h00)
    clear HDN h00
    refine hH.mono ?_
    rintro e w3 ⟨rfl,hO3⟩
    have HK3:=zb ((za HK2).trans hO3)
    have HE3:=zb (zk (za HE2) hO3 (fun _ _ f=>f))
    have HR3:=zb ((za HR2).keep hO3)
    clear hO3 hH HK2 HE2 HR2
    by_cases hmm:m=L.length
    ·have hmb:((m:Int) == (L.length:Int))=true:=by simp;omega
     have HX:Hid (kI L.length (Prg.GoP W L N st i 0) js):=Prg.Done.all (by rw [←hmm];exact za HD1)
     clear hmm
     go_wp2_with fail
     go_ret
     exact ⟨_,js,rfl,za HE3,za HX,za HK3⟩
    ·have hmb:((m:Int) == (L.length:Int))=false:=by simp;omega
     have hml:m<L.length:=by omega
     obtain ⟨g,cap,x0,hv,hcap,d1,d2⟩:=(za HL).get hml
     simp at hv
     obtain ⟨rfl,rfl⟩:=hv
     have d3:=zf (za HK3) _ _ d2 (fun f=>f)
     have b1:(0:Int)≤(m:Int):=by omega
     have b2:(m:Int)<(L.length:Int):=by omega
     have HT:=zb (Za pb st N W _ rs (Pro.ze L m) A w3 ((za HP).keep (za HK3) (fun _ _ f=>f)) (za HR3) (za HRL) (by omega))
     have HG1:=zb ((za HG).next him hml (za HQ) (za HP).fit)
     have htl:=Prg.ve N (Pro.ze L m) rs
     clear hmm d1 d2
     go_wp2_with (go_at_call 78;refine (za HT).mono ?_;rintro e w4 ⟨tv,rfl,ho4,hO4⟩;have HK4:=zb ((za HK3).trans hO4);have HE4:=zb (zk (za HE3) hO4 (fun _ _ f=>f));have HB4:=zb (y9.of ho4);clear ho4 hO4)
     exact ⟨⟨m+1,_,js,by go_num,by omega,by omega,by omega,by omega,HK4,HE4,HB4,HG1,HD1⟩,by simp [intOf];omega⟩
namespace Eqv
theorem Y9 (s:ByteArray):∀ (f p:Nat) (acc:List (Int×Int)),s.size<p+f→p≤s.size→(Ref.xm s f p acc).1=acc++(Pro.letM s f p).map (fun x=>(x.2,x.1))
 |0,p,acc,h,hp=>by omega
 |f+1,p,acc,h,hp=>by
  by_cases hlt:p<s.size
  ·have hr:=kC hlt
   cases h1:Ref.oneF s p with
   |none=>
    rw [h1] at hr
    rw [Ref.jm hlt h1]
    simp only [Pro.letM]
    rw [hr]
    simp [ahead]
   |some nc=>
    obtain ⟨m,d⟩:=nc
    rw [h1] at hr
    have hb:=Ref.q9 h1
    have e:Pro.letM s (f+1) p=((p:Int),d) :: Pro.letM s f (p+m):=by
     simp only [Pro.letM];rw [hr];rfl
    rw [e,Ref.jG hlt h1,Y9 s f (p+m) _ (by omega) (by omega)]
    simp
  ·rw [Ref.vN hlt]
   simp only [Pro.letM]
   rw [show Pro.z8 s p=none by unfold Pro.z8;rw [if_neg hlt]]
   simp
theorem Kr (s:ByteArray):∀ (f p:Nat),∀ x∈Pro.letM s f p,Cs.isCh x.2=true
 |0,_,x,hx=>by simp [Pro.letM] at hx
 |f+1,p,x,hx=>by
  by_cases hlt:p<s.size
  ·have hr:=kC hlt
   cases h1:Ref.oneF s p with
   |none=>
    rw [h1] at hr
    simp only [Pro.letM] at hx
    rw [hr] at hx
    simp [ahead] at hx
   |some nc=>
    obtain ⟨m,d⟩:=nc
    rw [h1] at hr
    have hb:=Ref.q9 h1
    have e:Pro.letM s (f+1) p=((p:Int),d) :: Pro.letM s f (p+m):=by
     simp only [Pro.letM];rw [hr];rfl
    rw [e] at hx
    rcases List.mem_cons.1 hx with rfl |hx
    ·rw [Cs.wH];simp only;omega
    ·exact Kr s f (p+m) x hx
  ·simp only [Pro.letM] at hx
   rw [show Pro.z8 s p=none by unfold Pro.z8;rw [if_neg hlt]] at hx
   simp at hx
end Eqv
namespace Prg
structure jO (L tx:List (Int×Int)):Prop where
 map:tx=L.map (fun x=>(x.2,x.1))
 ch:∀ x∈L,Cs.isCh x.2=true
theorem jO.of (s:ByteArray):jO (Pro.letM s (s.size+1) 0) (Ref.zJ s).1:=⟨by
 have:=Eqv.Y9 s (s.size+1) 0 [] (by omega) (by omega)
 simpa [Ref.zJ] using this,Eqv.Kr s _ _⟩
variable {L tx:List (Int×Int)}
theorem jO.len (h:jO L tx):tx.length=L.length:=by rw [h.map];simp
end Prg
end
end Go.Proofs.YtfnkbmglodopkaaGreatDoor
