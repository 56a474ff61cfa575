/- To which places one can come without taking a character. -/
import Derived.Test.YtcgleficedipkaaGreatDoorYPrgIPrgD
import Derived.Test.YtcgleficedipkaaGreatDoorYChCChE
namespace Go.Proofs.YtcgleficedipkaaGreatDoor
open _root_.Go.Proofs.Tryz
variable (rv:Value){rs:List Nat}(v:Nat)(w:World){base n p:Nat}(x0 x1 x2 x3:Bool){L:List (Int×Int)}
section
open Go.RowKit
open Sm (Stp Tree)
set_option maxHeartbeats 4000000
set_option maxRecDepth 100000
namespace Prg
theorem jI {q:Nat}:q∈visL rs p↔q∈rs\/q=p:=by
 unfold visL;split
 ·rename_i h;exact ⟨.inl,fun e=>e.elim id (fun e=>e ▸ h)⟩
 ·simp
theorem VC {j:Nat}(h:j<rs.length):(visL rs p)[j]?=rs[j]?:=by
 unfold visL;split
 ·rfl
 ·rw [qh h]
variable (rs p)
theorem Qq:rs.length<=(visL rs p).length:=by
 unfold visL;split
 ·exact z8 _
 ·simp
def epsB (N:List Stp)(H:Int->Bool)(a t:Nat):Prop:=∃ s,N[a]?=some s/\((s.kind=2/\H s.asr=true/\t=s.next)\/(s.kind=3/\(t=s.next\/t=s.other)))
def GE (N:List Stp)(H:Int->Bool)(a b:Nat):Prop:=Sm.Goes (fun _ _=>False) (fun x _=>H x=true) N a 0 b 0
theorem GE.refl (N:List Stp)(H:Int->Bool)(a:Nat):GE N H a a:=Sm.Goes.refl _ _ _
theorem GE.step {N:List Stp}{H:Int->Bool}{a b c:Nat}(h:GE N H a b)(e:epsB N H b c):GE N H a c:=by
 refine Sm.Goes.trans h (Sm.Goes.one ?_);obtain ⟨s,hs,h1 |h1⟩:=e
 ·exact ⟨s,hs,.inr (.inl ⟨h1.1,h1.2.1,h1.2.2,rfl⟩)⟩
 ·exact ⟨s,hs,.inr (.inr ⟨h1.1,h1.2,rfl⟩)⟩
end Prg
namespace Prg
def Inv (N:List Stp)(H:Int->Bool)(bs:List Nat)(n:Nat)(rs:List Nat):Prop:=(∀ p∈bs,p∈rs)/\(∀ q∈rs,∃ p∈bs,GE N H p q)/\∀ (j:Nat) a,j<n->rs[j]?=some a->∀ t,epsB N H a t->t∈rs
theorem Inv.visit {N:List Stp}{H:Int->Bool}{bs rs:List Nat}{n a t:Nat}(h:Inv N H bs n rs)(ha:rs[n]?=some a)(e:epsB N H a t):Inv N H bs n (visL rs t)/\(visL rs t)[n]?=some a/\t∈visL rs t:=by
 have hn:n<rs.length:=(yd.1 ha).1;refine ⟨⟨fun p hp=>jI.2 (.inl (h.1 p hp)),fun q hq=>?_,fun j b hj hb u hu=>?_⟩,by rw [VC hn];exact ha,jI.2 (.inr rfl)⟩
 ·rcases jI.1 hq with hq |rfl
  ·exact h.2.1 q hq
  ·obtain ⟨p,hp,g⟩:=h.2.1 a (xP ha);exact ⟨p,hp,g.step e⟩
 ·rw [VC (by omega)] at hb;exact jI.2 (.inl (h.2.2 j b hj hb u hu))
theorem Inv.next {N:List Stp}{H:Int->Bool}{bs rs:List Nat}{n a:Nat}(h:Inv N H bs n rs)(ha:rs[n]?=some a)(e:∀ t,epsB N H a t->t∈rs):Inv N H bs (n+1) rs:=
 ⟨h.1,h.2.1,fun j b hj hb u hu=>by
  by_cases ej:j=n
  ·subst ej;cases ha.symm.trans hb;exact e u hu
  ·exact h.2.2 j b (by omega) hb u hu⟩
theorem eps_test {N:List Stp}{H:Int->Bool}{a:Nat}{s:Stp}(hs:N[a]?=some s)(hk:s.kind=2)(t:Nat):epsB N H a t↔H s.asr=true/\t=s.next:=by
 constructor
 ·rintro ⟨s',hs',h⟩;cases hs.symm.trans hs';rcases h with h |h
  ·exact h.2
  ·omega
 ·rintro ⟨h1,h2⟩;exact ⟨s,hs,.inl ⟨hk,h1,h2⟩⟩
theorem eps_fork {N:List Stp}{H:Int->Bool}{a:Nat}{s:Stp}(hs:N[a]?=some s)(hk:s.kind=3)(t:Nat):epsB N H a t↔t=s.next\/t=s.other:=by
 constructor
 ·rintro ⟨s',hs',h⟩;cases hs.symm.trans hs';rcases h with h |h
  ·omega
  ·exact h.2
 ·exact fun h=>⟨s,hs,.inr ⟨hk,h⟩⟩
theorem eps_none {N:List Stp}{H:Int->Bool}{a:Nat}{s:Stp}(hs:N[a]?=some s)(h2:s.kind≠2)(h3:s.kind≠3)(t:Nat):¬epsB N H a t:=by
 rintro ⟨s',hs',h⟩;cases hs.symm.trans hs';rcases h with h |h
 ·exact h2 h.1
 ·exact h3 h.1
end Prg
variable {w}
theorem zaL {m n c:Nat}{a:Option Addr}{rs:List Nat}(h:w.ownsRow base 3 1 (.slice a n c) m (zM rs))(hm:m=rs.length):n=m/\∀ k,(hk:k<rs.length)->∃ g,a=some ⟨g,0,none⟩/\m<=c/\w.cell? ⟨g,k,none⟩=some (.int .i64 (rs[k]:Nat)):=by
 have hc:=@World.ownsRow.cells w base 3 1 _ m _ h;rcases h.2 with ⟨e,h0⟩ |⟨g,cap,cur,e,hb,hg,hn,_⟩
 ·simp at e;exact ⟨by omega,fun k hk=>by omega⟩
 ·simp at e;obtain ⟨rfl,rfl,rfl⟩:=e;refine ⟨rfl,fun k hk=>⟨g,rfl,hn,?_⟩⟩;have:=hc (g:=g) rfl k (.int .i64 (rs[k]:Nat)) (by unfold zM;rw [ky,zD hk];rfl);have e:(⟨g,0,none⟩:Addr).add k=⟨g,k,none⟩:=by unfold Addr.add;split<;>simp_all
  rw [e] at this;exact this
theorem ze.under {P:Nat->Prop}{a b c:World}(h:Q8 a b)(k:ze P b c)(hp:∀ j,j<a.heap.size->¬P j):Q8 a c:=
 ⟨k.os.trans h.os,k.tape.trans h.tape,k.output.trans h.output,yZ h.size k.size,fun j hj _=>(k.block j (yh hj h.size) (hp j hj)).trans (h.block j hj (fun f=>f))⟩
theorem xr.keepP {P:Nat->Prop}{W W':World}{b:Nat}{x y z u:Bool}(h:xr W b x y z u)(k:ze P W W')(hn:¬P b):xr W' b x y z u:=by
 have hb:b<W.heap.size:=zE W ⟨b,0,none⟩ h.k0;exact ⟨zg k _ _ h.k0 hn,zg k _ _ h.k1 hn,zg k _ _ h.k2 hn,zg k _ _ h.k3 hn,zP k _ hb h.f0 hn,zP k _ hb h.f1 hn,zP k _ hb h.f2 hn,zP k _ hb h.f3 hn⟩
structure Rgo (w wr:World)(n:Nat)(x0 x1 x2 x3:Bool)(ms:List Bool)(rs:List Nat):Prop where
 rch:Rch wr (w.heap.size+1+1+1+1) (w.heap.size+1+1+1) (w.heap.size+1) (w.heap.size+1+1) n ms rs
 on:Q8 w wr
 sp:xr wr w.heap.size x0 x1 x2 x3
theorem Rgo.keep {w wr w':World}{n:Nat}{x0 x1 x2 x3:Bool}{ms:List Bool}{rs:List Nat}(h:Rgo w wr n x0 x1 x2 x3 ms rs)(k:Q8 wr w'):Rgo w w' n x0 x1 x2 x3 ms rs:=⟨h.rch.keep k,h.on.trans k,h.sp.keep k⟩
theorem Yc {wr:World}{n p:Nat}{x0 x1 x2 x3:Bool}{ms:List Bool}{rs:List Nat}(h:Rgo w wr n x0 x1 x2 x3 ms rs)(hp:p<n)(hn:n<=300) :
  Calls prog 132 #[.int .i64 (p:Nat),.pointer (some ⟨w.heap.size+1+1+1,0,none⟩),.pointer (some ⟨w.heap.size+1,0,none⟩)] wr fun x w'=>x = .returned (.tuple #[])/\∃ ms',Rgo w w' n x0 x1 x2 x3 ms' (Prg.visL rs p):=by
 refine (zcr _ _ _ _ n p ms rs wr h.rch hp hn).mono ?_;rintro e w' ⟨rfl,⟨ms',h1⟩,h2⟩;exact ⟨rfl,ms',h1,h.on.under h2 (fun j hj e=>by unfold Vis at e;omega),h.sp.keepP h2 (fun e=>by unfold Vis at e;omega)⟩
variable (w n)
theorem Rgo.start (T:TypeId):Rgo w ((((w.alloc (.cells #[.bool x0,.bool x1,.bool x2,.bool x3] T)).alloc (.cells #[.slice none 0 0] 27)).alloc (.cells (madeCells #[.bool false] n) 4)).alloc (.cells #[.slice (some ⟨w.heap.size+1+1,0,none⟩) n n] 186)) n x0 x1 x2 x3 (List.replicate n false) []:=by
 have k1:∀ (W:World) (o:Obj),Q8 W (W.alloc o):=fun W o=>(ze.refl _ _).alloc o;refine ⟨⟨?_,⟨.slice none 0 0,?_,qD _ _ _ _⟩,?_,?_,by simp,fun p hp=>?_,?_,by simp,by omega,by omega,by omega,by omega,by omega,by omega,by simp⟩,?_,?_⟩
 ·exact zm _ _ (by simp) _ _ 0 _ rfl
 ·exact zg ((k1 _ _).trans (k1 _ _)) _ _ (zm _ _ (by simp) _ _ 0 _ rfl) (fun f=>f)
 ·exact zP ((k1 _ _).trans (k1 _ _)) _ (by simp) (zG _ _ (by simp) _ _ 0) (fun f=>f)
 ·have h:=xQ.made ((w.alloc (.cells #[.bool x0,.bool x1,.bool x2,.bool x3] T)).alloc (.cells #[.slice none 0 0] 27)) n;rw [show ((w.alloc (.cells #[.bool x0,.bool x1,.bool x2,.bool x3] T)).alloc (.cells #[.slice none 0 0] 27)).heap.size=w.heap.size+1+1 by simp] at h;exact h.keep (k1 _ _) (fun f=>f)
 ·rw [kh,if_pos hp];simp
 ·rw [List.countP_replicate];simp
 ·exact (((k1 _ _).trans (k1 _ _)).trans (k1 _ _)).trans (k1 _ _)
 ·exact ((xr.new w _ rfl _ _ _ _ _).keep (((k1 _ _).trans (k1 _ _)).trans (k1 _ _)))
theorem YQ (pb st:Nat)(N:List Stp)(W:Int->Bool)(bv:Value)(bs:List Nat)(x0 x1 x2 x3:Bool)(A:Nat->Prop)(w:World)(hP:xi w A pb N st W)(hB:xI w bv bs)(hb:∀ a∈bs,a<N.length)(hl:bs.length<=301) :
  Calls prog 83 #[.pointer (some ⟨pb,0,none⟩),bv,.agg #[.bool x0,.bool x1,.bool x2,.bool x3]] w fun x w'=>∃ rv rs,x = .returned rv/\w'.ownsRow w.heap.size 3 1 rv rs.length (zM rs)/\Q8 w w'/\rs.length<=N.length/\(∀ a∈rs,a<N.length)/\(∀ p∈bs,p∈rs)/\(∀ q∈rs,∃ p∈bs,Prg.GE N (Prg.qJ x0 x1 x2 x3) p q)/\∀ a∈rs,∀ t,Prg.epsB N (Prg.qJ x0 x1 x2 x3) a t->t∈rs:=by
 obtain ⟨va,vc,rfl⟩:=hB.slice;obtain ⟨gs,cs,hst,hA,hcs,hrow⟩:=hP.c0;have hNl:=hP.len;have hmk:=jt N.length (by omega);have HB:=zc hB;have HP:=zc hP;have HW:=zc hrow;have HBN:=zc hb;clear hB hP hrow hb;have hst1:∀ o1 o2,((w.alloc o1).alloc o2).cell? ⟨pb,0,none⟩=some (.slice (some ⟨gs,0,none⟩) N.length cs):=fun o1 o2=>zg (((ze.refl (fun _=>False) w).alloc o1).alloc o2) _ _ hst (fun f=>f);go_enter func83,ntmps83;go_wp2_with fail;have HR:=zc (Rgo.start w N.length x0 x1 x2 x3 200);generalize hW0:((((w.alloc (.cells #[.bool x0,.bool x1,.bool x2,.bool x3] 200)).alloc (.cells #[.slice none 0 0] 27)).alloc (.cells (madeCells #[.bool false] N.length) 4)).alloc (.cells #[.slice (some ⟨w.heap.size+1+1,0,none⟩) N.length N.length] 186))=W0 at HR ⊢;clear hW0 hmk hst1;have eg:∀ args w,(callFunc 132 args).run prog w = .ok (.enter 132 args) w:=enters_of func132 (by kernel_rfl) rfl;go_loopw [23] (fun k wr=>∃ (n:Nat) (ms:List Bool) (rs:List Nat),k = .int .i64 n/\n<=bs.length/\Hid (Rgo w wr N.length x0 x1 x2 x3 ms rs)/\Hid ((∀ q∈rs,q∈bs)/\∀ p∈bs.take n,p∈rs)) (fun k _=>bs.length-(intOf k).toNat)
 case atStart=>exact ⟨0,_,[],rfl,by omega,HR,by simp,by simp⟩
 case round=>
  obtain ⟨n,ms,rs,rfl,hn,HG,HI⟩:=hrel;by_cases hlt:n<bs.length
  ·obtain ⟨g,rfl,hcap,hc1⟩:=(zb HB).get hlt;have hc2:=zg (zb HG).on _ _ hc1 (fun f=>f);clear hc1;have hbn:=(zb HBN) bs[n] (jG hlt);have HI2:Hid ((∀ q∈Prg.visL rs bs[n],q∈bs)/\∀ p∈bs.take (n+1),p∈Prg.visL rs bs[n]):=by
    refine ⟨fun q hq=>?_,fun p hp=>?_⟩
    ·rcases Prg.jI.1 hq with h |rfl
     ·exact (zb HI).1 q h
     ·exact jG hlt
    ·rw [vG,zD hlt] at hp;rcases qe.1 hp with h |h
     ·exact Prg.jI.2 (.inl ((zb HI).2 p h))
     ·exact Prg.jI.2 (.inr (by simpa using h))
   generalize bs[n]=a at *;go_wp2_with (go_at_fn 132;refine (Yc (zb HG) hbn hNl).mono ?_;rintro e w1 ⟨rfl,ms1,hG1⟩;have HG1:=zc hG1;clear hG1);exact ⟨⟨n+1,ms1,_,by go_num,by omega,HG1,HI2⟩,by simp [intOf];omega⟩
  ·obtain rfl:n=bs.length:=(by omega);rw [ZA] at HI;go_wp2_with fail;have HI0:Hid (Prg.Inv N (Prg.qJ x0 x1 x2 x3) bs 0 rs):=⟨(zb HI).2,fun q hq=>⟨q,(zb HI).1 q hq,Prg.GE.refl _ _ _⟩,fun j a hj=>by omega⟩
   clear HI;go_loopw [12] (fun k wq=>∃ (n:Nat) (ms:List Bool) (rs:List Nat),k = .int .i64 n/\n<=rs.length/\Hid (Rgo w wq N.length x0 x1 x2 x3 ms rs)/\Hid (Prg.Inv N (Prg.qJ x0 x1 x2 x3) bs n rs)) (fun k _=>N.length-(intOf k).toNat)
   case atStart=>exact ⟨0,ms,rs,rfl,by omega,HG,HI0⟩
   case round=>
    clear HG HI0;obtain ⟨n,ms2,rs2,rfl,hn2,HG2,HI2⟩:=hrel;have hlen2:=(zb HG2).rch.len;obtain ⟨rv,hrv,hown⟩:=(zb HG2).rch.r0;obtain ⟨ra,rn,rc,rfl⟩:=zy hown;obtain ⟨rfl,hgets⟩:=zaL hown rfl;by_cases hlt2:n<rs2.length
    ·obtain ⟨gr,rfl,hrc,hcr⟩:=hgets n hlt2;have hra:rs2[n]<N.length:=(zb HG2).rch.lt _ (jG hlt2);have hget:N[rs2[n]]?=some N[rs2[n]]:=zD hra;have HA:Hid (rs2[n]?=some rs2[n]):=zD hlt2;obtain ⟨s0,_,s2,s3,s4⟩:=zb HW _ _ hget;have hfit:=(zb HP).fit _ _ hget;have HS3:=zc s3;have HS4:=zc s4;have e0:=zg (zb HG2).on _ _ s0 (fun f=>f);have e2:=zg (zb HG2).on _ _ s2 (fun f=>f);have e3:=zg (zb HG2).on _ _ s3 (fun f=>f);have ep:=zg (zb HG2).on _ _ hst (fun f=>f);have HGT:=zc hget;clear s0 s2 s3 s4 hget hgets hown;generalize N[rs2[n]]=s at *;generalize rs2[n]=a at *;obtain ⟨hf1,hf2⟩:=hfit;have b1:(0:Int)<=(n:Int):=(by omega);have b2:(n:Int)<(rs2.length:Int):=(by omega);have b3:(0:Int)<=(a:Int):=(by omega);have b4:(a:Int)<(N.length:Int):=(by omega);by_cases hk2:s.kind=2
     ·have hb2:((s.kind:Int) == 2)=true:=(by simp;omega);obtain ⟨k0,k1,k2,k3,_,_,_,_⟩:=(zb HG2).sp;have HZ:Hid (∀ W',Q8 wr W'->Calls prog 133 #[.agg #[.bool x0,.bool x1,.bool x2,.bool x3],.int .i64 s.asr] W' fun e w'=>e = .returned (.bool (Prg.qJ x0 x1 x2 x3 s.asr))/\Q8 wr w'/\w'.cell? ⟨w.heap.size,0,none⟩=some (.bool x0)/\w'.cell? ⟨w.heap.size,1,none⟩=some (.bool x1)/\w'.cell? ⟨w.heap.size,2,none⟩=some (.bool x2)/\w'.cell? ⟨w.heap.size,3,none⟩=some (.bool x3)/\w'.cell? ⟨gs,a*5+2,none⟩=some (.int .i64 s.asr)):=fun W' hW=>by
       refine (zcn x0 x1 x2 x3 s.asr W').mono ?_;rintro e w' ⟨rfl,hO⟩;have k:=hW.trans hO;exact ⟨rfl,k,zg k _ _ k0 (fun f=>f),zg k _ _ k1 (fun f=>f),zg k _ _ k2 (fun f=>f),zg k _ _ k3 (fun f=>f),zg k _ _ e2 (fun f=>f)⟩
      have HE:=zc (fun t=>Prg.eps_test (H:=Prg.qJ x0 x1 x2 x3) (zb HGT) hk2 t);clear hk2;cases hH:Prg.qJ x0 x1 x2 x3 s.asr
      ·have HI3:Hid (Prg.Inv N (Prg.qJ x0 x1 x2 x3) bs (n+1) rs2):=(zb HI2).next (zb HA) (fun t ht=>by have:=((zb HE t).1 ht).1;rw [hH] at this;cases this);rw [hH] at HZ;clear hH;go_wp2_with fail;go_quiet (fail);go_wp2_with fail;go_region_held3 (fun w'=>w'.cell? ⟨w.heap.size,0,none⟩=some (.bool x0)/\w'.cell? ⟨w.heap.size,1,none⟩=some (.bool x1)/\w'.cell? ⟨w.heap.size,2,none⟩=some (.bool x2)/\w'.cell? ⟨w.heap.size,3,none⟩=some (.bool x3)/\w'.cell? ⟨gs,a*5+2,none⟩=some (.int .i64 s.asr)) (go_keep)
        (first |(go_at_call 133;refine (zb HZ _ (by first |exact ze.refl _ _ |exact (ze.refl _ _).drewN _ |exact ((ze.refl _ _).drewN _).drewN _)).mono ?_;rintro e w1 ⟨rfl,hO1,y0,y1,y2,y3,y4⟩;have HG3:=zc ((zb HG2).keep hO1);clear hO1))
       go_wp2_with fail;exact ⟨⟨n+1,ms2,rs2,by go_num,by omega,HG3,HI3⟩,by simp [intOf];omega⟩
      ·obtain ⟨i1,i2,i3⟩:=(zb HI2).visit (zb HA) ((zb HE s.next).2 ⟨hH,rfl⟩);have HI3:Hid (Prg.Inv N (Prg.qJ x0 x1 x2 x3) bs (n+1) (Prg.visL rs2 s.next)):=i1.next i2 (fun t ht=>by rw [((zb HE t).1 ht).2];exact i3);have hvl:=Prg.Qq rs2 s.next;rw [hH] at HZ;clear hH i1 i2 i3;go_wp2_with fail;go_quiet (fail);go_wp2_with fail;go_region_held3 (fun w'=>w'.cell? ⟨w.heap.size,0,none⟩=some (.bool x0)/\w'.cell? ⟨w.heap.size,1,none⟩=some (.bool x1)/\w'.cell? ⟨w.heap.size,2,none⟩=some (.bool x2)/\w'.cell? ⟨w.heap.size,3,none⟩=some (.bool x3)/\w'.cell? ⟨gs,a*5+2,none⟩=some (.int .i64 s.asr)) (go_keep)
        (first |(go_at_call 133;refine (zb HZ _ (by first |exact ze.refl _ _ |exact (ze.refl _ _).drewN _ |exact ((ze.refl _ _).drewN _).drewN _)).mono ?_;rintro e w1 ⟨rfl,hO1,y0,y1,y2,y3,y4⟩;have z3:=zg hO1 _ _ e3 (fun f=>f);have HG3:=zc ((zb HG2).keep hO1);clear hO1))
       go_wp2_with (go_at_fn 132;refine (Yc ((zb HG3).keep (by first |exact ze.refl _ _ |exact (ze.refl _ _).drewN _)) hf1 hNl).mono ?_;rintro e w2 ⟨rfl,ms3,hG4⟩;have HG4:=zc hG4;clear hG4);exact ⟨⟨n+1,ms3,_,by go_num,by omega,HG4,HI3⟩,by simp [intOf];omega⟩
     ·by_cases hk3:s.kind=3
      ·have hb2:((s.kind:Int) == 2)=false:=(by simp;omega);have hb3:((s.kind:Int) == 3)=true:=(by simp;omega);have HE:=zc (fun t=>Prg.eps_fork (H:=Prg.qJ x0 x1 x2 x3) (zb HGT) hk3 t);clear hk2 hk3;obtain ⟨i1,i2,i3⟩:=(zb HI2).visit (zb HA) ((zb HE s.next).2 (.inl rfl));obtain ⟨j1,j2,j3⟩:=i1.visit i2 ((zb HE s.other).2 (.inr rfl));have HI3:Hid (Prg.Inv N (Prg.qJ x0 x1 x2 x3) bs (n+1) (Prg.visL (Prg.visL rs2 s.next) s.other)):=j1.next j2 (fun t ht=>by
        rcases (zb HE t).1 ht with rfl |rfl
        ·exact Prg.jI.2 (.inl i3)
        ·exact j3)
       have hvl:=Prg.Qq rs2 s.next;have hvl2:=Prg.Qq (Prg.visL rs2 s.next) s.other;clear i1 i2 i3 j1 j2 j3;go_wp2_with fail;go_quiet (fail);go_wp2_with (first
        |(go_at_fn 132;refine (Yc ((zb HG2).keep (by first |exact ze.refl _ _ |exact (ze.refl _ _).drewN _)) hf1 hNl).mono ?_;rintro e w1 ⟨rfl,ms3,hG3⟩;have z4:=zg hG3.on _ _ (zb HS4) (fun f=>f);have HG3:=zc hG3;clear hG3 HG2)
        |(go_at_fn 132;refine (Yc ((zb HG3).keep (by first |exact ze.refl _ _ |exact (ze.refl _ _).drewN _)) hf2 hNl).mono ?_;rintro e w2 ⟨rfl,ms4,hG4⟩;have HG4:=zc hG4;clear hG4))
       exact ⟨⟨n+1,ms4,_,by go_num,by omega,HG4,HI3⟩,by simp [intOf];omega⟩
      ·have hb2:((s.kind:Int) == 2)=false:=(by simp;omega);have hb3:((s.kind:Int) == 3)=false:=(by simp;omega);have HI3:Hid (Prg.Inv N (Prg.qJ x0 x1 x2 x3) bs (n+1) rs2):=(zb HI2).next (zb HA) (fun t ht=>absurd ht (Prg.eps_none (zb HGT) hk2 hk3 t));clear hk2 hk3;go_wp2_with fail;go_quiet (fail);go_wp2_with fail;exact ⟨⟨n+1,ms2,rs2,by go_num,by omega,(zb HG2).keep ((ze.refl _ _).drewN _),HI3⟩,by simp [intOf];omega⟩
    ·obtain rfl:n=rs2.length:=(by omega);have HF:=zc hown;clear hgets hown;go_wp2_with fail;go_ret;refine ⟨_,rs2,rfl,xd (zb HF) (by omega),(zb HG2).on,hlen2,(zb HG2).rch.lt,(zb HI2).1,(zb HI2).2.1,fun a ha t ht=>?_⟩;obtain ⟨j,hj⟩:=j5 ha;exact (zb HI2).2.2 j a (yd.1 hj).1 hj t ht
variable {w}
theorem xI.of {v:Value}{rs:List Nat}(h:w.ownsRow base 3 1 v rs.length (zM rs)):xI w v rs:=by
 obtain ⟨a,n,c,rfl⟩:=zy h;obtain ⟨rfl,hg⟩:=zaL h rfl;by_cases h0:rs=[]
 ·subst h0;rcases h.2 with ⟨e,_⟩ |⟨g,cap,cur,e,_,_,hn,_⟩
  ·exact .inl ⟨e,rfl⟩
  ·exact .inr ⟨g,cap,e,hn,fun j a hj=>by simp at hj⟩
 ·have hl:0<rs.length:=List.length_pos_iff.2 h0;obtain ⟨g,rfl,hc,_⟩:=hg 0 hl;refine .inr ⟨g,c,rfl,hc,fun j a hj=>?_⟩;obtain ⟨hjl,rfl⟩:=yd.1 hj;obtain ⟨g',e,_,h2⟩:=hg j hjl;cases e;exact h2
variable (rs w)
theorem zcs (h:xI w rv rs)(hl:rs.length<=1000) :
  Calls prog 135 #[rv,.int .i64 (v:Nat)] w fun x w'=>∃ k:Int,x = .returned (.int .i64 k)/\(0<=k↔v∈rs)/\Q8 w w':=by
 obtain ⟨va,vc,rfl⟩:=h.slice;have HB:=zc h;clear h;go_enter func135,ntmps135;go_wp2_with fail;go_loopw [8] (fun k wr=>∃ n:Nat,k = .int .i64 n/\n<=rs.length/\Hid (Q8 w wr)/\Hid (v∉rs.take n)) (fun k _=>rs.length-(intOf k).toNat)
 case atStart=>exact ⟨0,rfl,by omega,ze.refl _ _,by show ¬v∈rs.take 0;simp⟩
 case round=>
  obtain ⟨n,rfl,hn,HK,HN⟩:=hrel;by_cases hlt:n<rs.length
  ·obtain ⟨g,rfl,hcap,hc1⟩:=(zb HB).get hlt;have hc2:=zg (zb HK) _ _ hc1 (fun f=>f);clear hc1;have b1:(0:Int)<=(n:Int):=(by omega);have b2:(n:Int)<(rs.length:Int):=(by omega);have HM:Hid (rs[n]∈rs):=jG hlt;have HN1:Hid (v≠rs[n]->v∉rs.take (n+1)):=fun hne hm=>by
    rw [vG,zD hlt] at hm;rcases qe.1 hm with h |h
    ·exact zb HN h
    ·exact hne (by simpa using h)
   generalize rs[n]=a at *;by_cases hva:v=a
   ·have hb:((v:Int) == (a:Int))=true:=(by simp [hva]);have HV:Hid (v∈rs):=(by show v∈rs;rw [hva];exact zb HM);clear hva;go_wp2_with fail;go_ret;exact ⟨n,rfl,⟨fun _=>zb HV,fun _=>by omega⟩,zb HK⟩
   ·have hb:((v:Int) == (a:Int))=false:=(by simp;omega);have HN2:=zc (zb HN1 hva);clear hva;go_wp2_with fail;exact ⟨⟨n+1,by go_num,by omega,HK,zb HN2⟩,by simp [intOf];omega⟩
  ·obtain rfl:n=rs.length:=(by omega);rw [ZA] at HN;go_wp2_with fail;go_ret;exact ⟨-1,rfl,⟨fun h=>by omega,fun h=>absurd h (zb HN)⟩,zb HK⟩
theorem YR (h:xI w rv rs)(hl:rs.length<=1000) :
  Calls prog 85 #[rv,.int .i64 (v:Nat)] w fun x w'=>x = .returned (.bool (decide (v∈rs)))/\Q8 w w':=by
 have HZ:=zc (zcs rv rs v w h hl);obtain ⟨va,vc,rfl⟩:=h.slice;clear h;by_cases hv:v∈rs
 ·rw [decide_eq_true hv];go_enter func85,ntmps85;go_wp2_with (go_at_call 135;refine (zb HZ).mono ?_;rintro e w1 ⟨k,rfl,hk,hO1⟩;have hk0:0<=k:=hk.2 hv;clear hk;have HO1:=zc hO1;clear hO1);go_ret;exact ⟨rfl,zb HO1⟩
 ·rw [decide_eq_false hv];go_enter func85,ntmps85;go_wp2_with (go_at_call 135;refine (zb HZ).mono ?_;rintro e w1 ⟨k,rfl,hk,hO1⟩;have hk0:¬0<=k:=fun h=>hv (hk.1 h);clear hk;have HO1:=zc hO1;clear hO1);go_ret;refine ⟨?_,zb HO1⟩;show Ending.returned (.bool (decide (0<=k)))=_;rw [decide_eq_false (by omega)]
namespace Prg
def lfP (L:List (Int×Int))(T:Tree)(k:Nat):Prop:=k<L.length/\Cs.qY T (Pro.zf L k)=true
def jb (W:Int->Bool)(L:List (Int×Int))(k:Nat)(a:Int):Bool:=qJ (decide (k=0)) (decide (k=L.length)) (befB W L k) (aftB W L k) a
def ahP (W:Int->Bool)(L:List (Int×Int))(a:Int)(k:Nat):Prop:=jb W L k a=true
abbrev GoP (W:Int->Bool)(L:List (Int×Int))(N:List Stp)(p i q j:Nat):Prop:=Sm.Goes (lfP L) (ahP W L) N p i q j
theorem GE_at {W:Int->Bool}{L:List (Int×Int)}{N:List Stp}{m a b:Nat}(h:GE N (jb W L m) a b):GoP W L N a m b m:=by
 obtain ⟨k,h⟩:=h
 suffices H:∀ (k a b i j:Nat),Sm.Run (fun _ _=>False) (fun x _=>jb W L m x=true) N k a i b j->GoP W L N a m b m from H k a b 0 0 h
 intro k
 induction k with
 |zero=>rintro a b i j ⟨rfl,_⟩;exact Sm.Goes.refl _ _ _
 |succ k ih=>
  rintro a b i j ⟨p',i',⟨s,hs,h1⟩,h2⟩;refine Sm.Goes.head ?_ (ih _ _ _ _ h2);rcases h1 with ⟨_,f,_⟩ |⟨k1,k2,k3,_⟩ |⟨k1,k2,_⟩
  ·exact f.elim
  ·exact ⟨s,hs,.inr (.inl ⟨k1,k2,k3,rfl⟩)⟩
  ·exact ⟨s,hs,.inr (.inr ⟨k1,k2,rfl⟩)⟩
theorem take_all {N:List Stp}{m:Nat}{rs:List Nat}(hm:m<L.length)(b:Nat):b∈xo N (Pro.zf L m) rs↔∃ a∈rs,Sm.tkr (lfP L) N a m b:=by
 rw [YO];constructor
 ·rintro ⟨a,ha,s,hs,hp,rfl⟩;unfold setP at hp;rw [kt,decide_eq_true_eq] at hp;exact ⟨a,ha,s,hs,hp.1,⟨hm,hp.2⟩,rfl⟩
 ·rintro ⟨a,ha,s,hs,hk,hl,rfl⟩;exact ⟨a,ha,s,hs,by unfold setP;rw [hl.2,decide_eq_true hk];rfl,rfl⟩
end Prg
namespace Eqv
theorem Jn (s:ByteArray):∀ (f p:Nat) (acc:List (Int×Int)),s.size<p+f->p<=s.size->(Ref.xL s f p acc).1=acc++(Pro.letM s f p).map (fun x=>(x.2,x.1))
 |0,p,acc,h,hp=>by omega
 |f+1,p,acc,h,hp=>by
  by_cases hlt:p<s.size
  ·have hr:=jE hlt;cases h1:Ref.oneF s p with
   |none=>
    rw [h1] at hr;rw [Ref.jx hlt h1];simp only [Pro.letM];rw [hr];simp [ahead]
   |some nc=>
    obtain ⟨m,d⟩:=nc;rw [h1] at hr;have hb:=Ref.qC h1;have e:Pro.letM s (f+1) p=((p:Int),d) :: Pro.letM s f (p+m):=by
     simp only [Pro.letM];rw [hr];rfl
    rw [e,Ref.qW hlt h1,Jn s f (p+m) _ (by omega) (by omega)];simp
  ·rw [Ref.vE hlt];simp only [Pro.letM];rw [show Pro.yi s p=none by unfold Pro.yi;rw [if_neg hlt]];simp
theorem zaI (s:ByteArray):∀ (f p:Nat),∀ x∈Pro.letM s f p,Cs.isCh x.2=true
 |0,_,x,hx=>by simp [Pro.letM] at hx
 |f+1,p,x,hx=>by
  by_cases hlt:p<s.size
  ·have hr:=jE hlt;cases h1:Ref.oneF s p with
   |none=>
    rw [h1] at hr;simp only [Pro.letM] at hx;rw [hr] at hx;simp [ahead] at hx
   |some nc=>
    obtain ⟨m,d⟩:=nc;rw [h1] at hr;have hb:=Ref.qC h1;have e:Pro.letM s (f+1) p=((p:Int),d) :: Pro.letM s f (p+m):=by
     simp only [Pro.letM];rw [hr];rfl
    rw [e] at hx;rcases qP.1 hx with rfl |hx
    ·rw [Cs.wJ];simp only;omega
    ·exact zaI s f (p+m) x hx
  ·simp only [Pro.letM] at hx;rw [show Pro.yi s p=none by unfold Pro.yi;rw [if_neg hlt]] at hx;simp at hx
end Eqv
namespace Prg
structure yj (L tx:List (Int×Int)):Prop where
 map:tx=L.map (fun x=>(x.2,x.1))
 ch:∀ x∈L,Cs.isCh x.2=true
theorem yj.of (s:ByteArray):yj (Pro.letM s (s.size+1) 0) (Ref.zo s).1:=⟨by
 have:=Eqv.Jn s (s.size+1) 0 [] (by omega) (by omega);simpa [Ref.zo] using this,Eqv.zaI s _ _⟩
variable {L tx:List (Int×Int)}
theorem yj.len (h:yj L tx):tx.length=L.length:=by rw [h.map];simp
theorem yj.at (h:yj L tx)(k:Nat):Ref.chAt tx k=Pro.zf L k:=by
 unfold Ref.chAt Pro.zf;rw [h.map,ky];cases L[k]?<;>rfl
theorem yj.isCh (h:yj L tx){k:Nat}(hk:k<L.length):Cs.isCh (Pro.zf L k)=true:=by
 rw [Pro.Yd hk];exact h.ch _ (jG hk)
theorem yj.nn (h:yj L tx){k:Nat}(hk:k<L.length):0<=Pro.zf L k:=by
 have:=(Cs.wJ _).1 (h.isCh hk);omega
theorem lf_iff (h:yj L tx)(T:Tree)(k:Nat):lfP L T k↔Ref.lfT tx T k:=by
 unfold lfP Ref.lfT;rw [h.len,h.at k];constructor
 ·rintro ⟨h1,h2⟩;unfold Cs.qY at h2;rw [kt] at h2;exact ⟨h1,h2.2⟩
 ·rintro ⟨h1,h2⟩;exact ⟨h1,by unfold Cs.qY;rw [h.isCh h1,h2];rfl⟩
theorem zaJ (h:yj L tx){k:Nat}(hk:k<L.length):Cs.zT 119 (Pro.zf L k)=Eqv.inSp Ref.vL (Pro.zf L k):=by
 rw [<-Cs.W7,h.isCh hk,Cs.VS];rfl
theorem zaK:Eqv.inSp Ref.vL (-1)=false:=by decide
theorem bef_at (h:yj L tx){k:Nat}(hk:k<=L.length):befB (Cs.zT 119) L k=Eqv.inSp Ref.vL (Ref.chBe tx k):=by
 unfold befB Ref.chBe;by_cases h0:k=0
 ·subst h0;simp [zaK]
 ·rw [if_pos (by omega),h.at,zaJ h (by omega),decide_eq_true h0];rfl
theorem aft_at (h:yj L tx){k:Nat}(hk:k<=L.length):aftB (Cs.zT 119) L k=Eqv.inSp Ref.vL (Ref.chAt tx k):=by
 unfold aftB;by_cases h0:k=L.length
 ·rw [h.at,Pro.zO (by omega),zaK];simp [h0]
 ·rw [h.at,zaJ h (by omega),decide_eq_true h0];rfl
theorem Km (h:yj L tx){W:Int->Bool}{a:Int}{k:Nat}(hk:k<=L.length)(ha:0<=a/\a<=3)(hW:2<=a->W=Cs.zT 119):ahP W L a k↔Ref.ahT tx a k:=by
 unfold ahP Ref.ahT jb qJ Ref.asB Eqv.asSign;have hc:a=0\/a=1\/a=2\/a=3:=by omega
 rcases hc with rfl |rfl |rfl |rfl
 ·simp only [if_true];unfold Ref.chBe;by_cases h0:k=0
  ·subst h0;simp
  ·rw [if_pos (by omega),h.at];have:=h.nn (k:=k-1) (by omega);simp;omega
 ·simp only [show (1:Int)≠0 by decide,if_false,if_true,show (36:Int)≠94 by decide];rw [h.at];by_cases h0:k=L.length
  ·rw [Pro.zO (by omega)];simp [h0]
  ·have:=h.nn (k:=k) (by omega);simp;omega
 ·rw [hW (by omega),bef_at h hk,aft_at h hk];simp
 ·rw [hW (by omega),bef_at h hk,aft_at h hk];simp
def Asks (N:List Stp)(W:Int->Bool):Prop:=∀ (p:Nat) s,N[p]?=some s->s.kind=2->(0<=s.asr/\s.asr<=3)/\(2<=s.asr->W=Cs.zT 119)
theorem Vv (h:yj L tx){W:Int->Bool}{N:List Stp}(hN:Asks N W){p i q j:Nat}(hi:i<=L.length):Sm.one (lfP L) (ahP W L) N p i q j↔Sm.one (Ref.lfT tx) (Ref.ahT tx) N p i q j:=by
 constructor
 ·rintro ⟨s,hs,⟨k1,k2,k3⟩ |⟨k1,k2,k3⟩ |k⟩
  ·exact ⟨s,hs,.inl ⟨k1,(lf_iff h _ _).1 k2,k3⟩⟩
  ·exact ⟨s,hs,.inr (.inl ⟨k1,(Km h hi (hN p s hs k1).1 (hN p s hs k1).2).1 k2,k3⟩)⟩
  ·exact ⟨s,hs,.inr (.inr k)⟩
 ·rintro ⟨s,hs,⟨k1,k2,k3⟩ |⟨k1,k2,k3⟩ |k⟩
  ·exact ⟨s,hs,.inl ⟨k1,(lf_iff h _ _).2 k2,k3⟩⟩
  ·exact ⟨s,hs,.inr (.inl ⟨k1,(Km h hi (hN p s hs k1).1 (hN p s hs k1).2).2 k2,k3⟩)⟩
  ·exact ⟨s,hs,.inr (.inr k)⟩
theorem one_in {W:Int->Bool}{N:List Stp}{p i q j:Nat}(hi:i<=L.length)(ho:Sm.one (lfP L) (ahP W L) N p i q j):j<=L.length:=by
 obtain ⟨s,hs,⟨k1,k2,k3,k4⟩ |⟨k1,k2,k3,k4⟩ |⟨k1,k2,k4⟩⟩:=ho
 ·have:=k2.1;omega
 ·omega
 ·omega
theorem Ya (h:yj L tx){W:Int->Bool}{N:List Stp}(hN:Asks N W):∀ {k p i q j:Nat},i<=L.length->(Sm.Run (lfP L) (ahP W L) N k p i q j↔Sm.Run (Ref.lfT tx) (Ref.ahT tx) N k p i q j)
 |0,_,_,_,_,_=>Iff.rfl
 |k+1,p,i,q,j,hi=>by
  constructor
  ·rintro ⟨p',i',h1,h2⟩;exact ⟨p',i',(Vv h hN hi).1 h1,(Ya h hN (one_in hi h1)).1 h2⟩
  ·rintro ⟨p',i',h1,h2⟩;have h1':=(Vv h hN hi).2 h1;exact ⟨p',i',h1',(Ya h hN (one_in hi h1')).2 h2⟩
theorem goP_same (h:yj L tx){W:Int->Bool}{N:List Stp}(hN:Asks N W){p i q j:Nat}(hi:i<=L.length):GoP W L N p i q j↔Sm.Goes (Ref.lfT tx) (Ref.ahT tx) N p i q j:=
 ⟨fun ⟨k,r⟩=>⟨k,(Ya h hN hi).1 r⟩,fun ⟨k,r⟩=>⟨k,(Ya h hN hi).2 r⟩⟩
end Prg
end
end Go.Proofs.YtcgleficedipkaaGreatDoor
