/- The statement's own functions over scripts with finders: Find. -/
import Derived.Test.YtcgleficedipkaaGreatDoorYFoC
import Derived.Laws.CopyOwn
namespace Go.Proofs.YtcgleficedipkaaGreatDoor
open _root_.Go.Proofs.Tryz
variable {X:List Value}{i:Nat}(w:World)(g n:Nat)
section
open Go.RowKit
open Sm (Stp Tree)
set_option maxHeartbeats 8000000
set_option maxRecDepth 1000000
def turnRow (X:List Value)(i:Nat):List Value:=List.replicate i (.int .i64 (-7))++X.drop i
theorem turn_at:(turnRow X i)[i]?=X[i]?:=by
 unfold turnRow;rw [jj (by simp),XD,Xg,ZY,YG]
theorem turn_set (h:i<X.length):(turnRow X i).set i (.int .i64 (-7))=turnRow X (i+1):=by
 unfold turnRow;rw [Xz _ _ (by simp),XD,Xg,List.replicate_succ',ql,YK h];rfl
theorem turn_end {j:Nat}(h:j<X.length):(turnRow X X.length)[j]?=some (.int .i64 (-7)):=by
 unfold turnRow;rw [qh (by simpa using h),kh,if_pos h]
theorem Tryz.infoIntM:(prog.info? 3).map (fun i=>(i.zero,i.size,i.bytes))=some (some (.int .i64 0),1,8):=by kernel_rfl
theorem Tryz.sizeIntM:(prog.info? 3).map (·.size)=some 1:=by kernel_rfl
theorem zg0 (hn:n<=17592186044417)(w:World):(Instr.makeSlice 27 (.int .i64 (n:Int)) (.int .i64 (n:Int))).run prog w = .ok (.slice (some ⟨w.heap.size,0,none⟩) n n) (w.alloc (.cells (madeCells #[.int .i64 0] n) 3)):=
 run_make_row' 27 3 (.int .i64 0) 8 underlying27 Tryz.infoIntM rfl .i64 .i64 n (by omega) (by omega) w
theorem Tryz.elemIF:prog.elem 27=3:=by kernel_rfl
theorem cut_ints (W:World):(Instr.slice 27 (.slice (some ⟨g,0,none⟩) (n+1) (n+1)) none (some (.int .i64 (n:Nat))) none).run prog W = .ok (.slice (some ⟨g,0,none⟩) n (n+1)) W:=by
 rw [run_slice_h W 27 _ _ _ (by rw [Tryz.elemIF];exact underlying27) .i64 _ (by omega) (by omega),Tryz.elemIF];simp [go_sem,sliced]
theorem zgD (ks:List Int):splice (madeCells #[.int .i64 0] (ks.length+1)).toList 0 (ks.map (Value.int .i64))=ks.map (Value.int .i64)++[.int .i64 0]:=by
 have e:(madeCells #[Value.int .i64 0] (ks.length+1)).toList=List.replicate (ks.length+1) (.int .i64 0):=List.ext_getElem? (fun j=>by
  rw [Qj,kh];unfold madeCells;by_cases h:j<ks.length+1
  ·simp [h,Nat.mod_one]
  ·simp [h])
 unfold splice;rw [e];simp
theorem own_row {w:World}{base n z:Nat}{e:TypeId}{v:Value}{xs:List Value}(h:w.ownsRow base e z v n xs)(hn:0<n):∃ g cap,v = .slice (some ⟨g,0,none⟩) n cap/\(∀ (j:Nat) u,xs[j]?=some u->w.cell? ⟨g,j,none⟩=some u)/\∀ j,w.frozen? ⟨g,j,none⟩=false:=by
 have hx:=h.1;rcases h.2 with ⟨_,h0⟩ |⟨g,cap,cur,rfl,hbg,hg,hnc,hcm,hcs,htake⟩
 ·omega
 ·exact ⟨g,cap,rfl,fun j u hj=>(h.cellAt _ (by have:=(yd.1 hj).1;omega)).trans hj,fun j=>own_fz h j⟩
theorem addF (off i:Nat):(⟨g,off,none⟩:Addr).add i=⟨g,off+i,none⟩:=by
 unfold Addr.add;split<;>simp_all
theorem below3 (o1 o2 o3:Obj):Below (w.heap.size+1+1) ((w.alloc o1).alloc o2) (((w.alloc o1).alloc o2).alloc o3):=by
 have h:=((ze.refl (fun _=>False) ((w.alloc o1).alloc o2)).alloc o3).below;rw [yX,yX] at h;exact h
theorem new3 (o1 o2 o3:Obj):(((w.alloc o1).alloc o2).alloc o3).heap[w.heap.size+1+1]?=some o3:=by
 have e:w.heap.size+1+1=((w.alloc o1).alloc o2).heap.size:=by rw [yX,yX]
 rw [e];exact Array.getElem?_push_size
section
variable {wi w:World} {ow:Nat->Nat} {ps:List (Nat×Nat)} {fs:List FinQ} {vs:List Value} {us:Nat->Bool} {R:Nat->Value}
theorem findF {k:Nat}{q:FinQ}{s:ByteArray}{ks:List Int}{a:Nat->Addr}(h:FoR wi w ow ps fs vs us R)(hq:fs[k]?=some q)(hS:Start wi a)(hk:ks.length<=17592186044416):∃ (r:Bool) (e at':Int) (ts:List Tok) (kids:List Tree),AnsF s kids r e at'/\∀ (w1:World) (ev:Value),Q8 w w1->wk w1 (fun _=>True) ev ks->
  Calls prog 21 #[.pointer (some ⟨q.x,0,none⟩),.string s,ev] w1 fun x w'=>x = .returned (.tuple #[.bool r,.int .i64 e,.int .i64 at'])/\FoR wi w' (lab ow w1.heap.size w'.heap.size (k+2)) ps fs vs (fun j=>if j=k/\e=0 then true else us j) R/\PatR w' q.y ts kids/\ze (fun i=>ow i=k+2) w1 w':=by
 obtain ⟨gx,pb,F,t,W,cs,ts,v,A,O,D,sb,mb,es,sv,g1,g2,g3,g4,g5⟩:=h.fins k q hq;obtain ⟨r,e,at',hA⟩:=AnsF.ex s t.kids;refine ⟨r,e,at',ts,t.kids,hA,fun w1 ev k1 hN=>(lfindF hA (hS.keep (h.old.trans k1)) (g2.young k1) g1.asks g1.tok g1.k5 g1.wf hN (by omega)).mono ?_⟩;rintro x w' ⟨rfl,O',D',es',sv'',q1,q2,q3,q4,q5,q6⟩;have hs:=k1.size;have hs2:=q6.size;have hold:∀ g,ow g≠0->lab ow w1.heap.size w'.heap.size (k+2) g=ow g:=fun g hg=>lab_old (yh (h.sl g hg).2 hs);have hpat:=(g1.keep k1 (fun _ f=>f.elim)).keep q6 (fun i p=>by have:=g3 i (.inl p);omega);have hO:∀ g,ow g=k+2->lab ow w1.heap.size w'.heap.size (k+2) g=k+2:=fun g e=>(hold g (by omega)).trans e;refine ⟨rfl,(h.keep0 k1).turn (n:=k) q6 (fun i hi=>g3 i (.inl hi)) (fun i hi=>lab_old hi) (fun i hi=>(if_neg (by omega)).trans (Decidable.byContradiction fun c=>by have:=h.sl i c;omega)) (fun j hj=>if_neg (fun e=>hj e.1)) (fun q' hq'=>?_),hpat.use.1,q6.mono (fun i _ hi=>g3 i (.inl hi))⟩;obtain rfl:=qu (hq.symm.trans hq');refine ⟨gx,pb,F,t,W,cs,ts,v,A,O',D',sb,mb,es',sv'',hpat.wide (fun i e=>(hold i (by omega)).trans e),q1,fun g hg=>?_,fun hu=>?_,fun hu=>?_⟩
 ·rcases hg with hg |hg |rfl
  ·exact (q4 g hg).elim (fun e=>hO g (g3 g (.inl e))) (fun e=>lab_new e (q1.sto.olt g hg))
  ·exact (q5 g hg).elim (fun e=>hO g (g3 g (.inr (.inl e)))) (fun e=>lab_new e (q1.sto.dlt g hg))
  ·exact hO _ (g3 _ (.inr (.inr rfl)))
 ·by_cases e0:e=0
  ·exact q2 e0
  ·rw [q3 e0];rw [if_neg (fun c=>e0 c.2)] at hu;exact g4 hu
 ·by_cases e0:e=0
  ·rw [if_pos ⟨rfl,e0⟩] at hu;cases hu
  ·rw [q3 e0];rw [if_neg (fun c=>e0 c.2)] at hu;exact g5 hu
theorem findsF {n0 k:Nat}{q:FinQ}(kd p f n:Int)(s:ByteArray)(la:Option Addr)(lc:Nat)(ks:List Int)(nv sv:Value)(a:Nat->Addr)(h:FoR wi w ow ps fs vs us R)(hu:∀ k q,fs[k]?=some q->us k=q.used)(hq:fs[k]?=some q)(hS:Start wi a)(hE:wk wi (fun _=>True) (.slice la ks.length lc) ks)(hk:ks.length<=17592186044416)(hn:n0<1172812402961)(l1:ps.length<=n0)(l2:fs.length<=n0)(l3:vs.length<=n0) :
  Calls prog 32 #[.pointer (some ⟨wi.heap.size,0,none⟩),.int .i64 (k:Nat),opV kd p f n s (.slice la ks.length lc) nv sv] w fun e w'=>e = .returned (.bool true)/\FoS wi w' (n0+1):=by
 obtain ⟨i0,hi0,hz0,hz1,hz2⟩:=info_parts Tryz.infoIntSl;have hkl:=(yd.1 hq).1;obtain ⟨r,e,at',ts,kids,hA,hfind⟩:=findF (s:=s) (ks:=ks) h hq hS hk;obtain ⟨gf,fc,e1,hfc,hff⟩:=own_row (n:=fs.length) (xs:=finCells fs) (h.row 1 (by decide)) (by omega);obtain ⟨z0,z1,z2,z3⟩:=zeC fs k q hq;replace z0:=hfc _ _ z0;replace z1:=hfc _ _ z1;replace z2:=hfc _ _ z2;replace z3:=hfc _ _ z3;have c1:=h.c 1 _ rfl;rw [e1] at c1;have hgl:gf<w.heap.size:=zE _ _ z0;have hmk:=zg0 (ks.length+1) (by omega);simp only [Int.natCast_add,Int.natCast_one] at hmk;have hlt:=h.lt;have HH:=zc h;have HA:=zc hA;have HFI:=zc hfind;have HE:=zc hE;have HL:Hid (∀ w2,Q8 w w2->∀ (j:Nat) u,(ks.map (Value.int .i64))[j]?=some u->∃ gl off,la=some ⟨gl,off,none⟩/\w2.cell? ⟨gl,off+j,none⟩=some u):=fun w2 k2 j u hj=>by
  obtain ⟨x,hx,rfl⟩:=Zz.1 (xP hj);rw [ky] at hj;rcases hE with ⟨rfl,_⟩ |⟨gl,off,cap,e,_,hc⟩
  ·simp at hx
  ·cases e;obtain ⟨y,hy,e⟩:=Z4.1 hj;rw [<-e];exact ⟨gl,off,rfl,zg (h.old.trans k2) _ _ (hc j y hy) (fun f=>f)⟩
 have HL0:Hid (0<(ks.map (Value.int .i64)).length->∀ w2,Q8 w w2->∃ ad,la=some ad/\∀ (j:Nat) v,(ks.map (Value.int .i64))[j]?=some v->w2.cell? (ad.add j)=some v):=fun hp w2 k2=>by
  obtain ⟨gl,off,e,_⟩:=zb HL w2 k2 0 _ (zD hp);refine ⟨_,e,fun j v hj=>?_⟩;obtain ⟨gl',off',e',hc⟩:=zb HL w2 k2 j v hj;cases e.symm.trans e';rw [addF];exact hc
 clear h hA hfind hE hS hfc;unfold opV;go_enter func32,ntmps32;go_wp2_with (refine wpList_copy_splice (o:={ dst:=some 34,op:=.call { callee:=.builtin .copy,args:=#[.tmp 31,.tmp 33],argTypes:=#[27,27] },type:=_,pos:=_,after:=_,guard:=none }) rfl (.tmp 31) (.tmp 33) 27 27 rfl 3 underlying27 Tryz.sizeIntM (some ⟨w.heap.size+1+1,0,none⟩) la (ks.length+1) (ks.length+1) ks.length lc rfl rfl (w.heap.size+1+1) 0 (madeCells #[.int .i64 0] (ks.length+1)).toList 3 (by rw [Array.toArray_toList];exact new3 _ _ _ _) (ks.map (Value.int .i64)) (by rw [List.length_map];exact (Nat.min_eq_left (XR _)).symm) (fun hp=>⟨rfl,zb HL0 hp _ (by repeat (first |exact ze.refl _ _ |refine ze.alloc ?_ _))⟩) (by simp [madeCells]) (fun v hv=>by obtain ⟨x,_,rfl⟩:=Zz.1 hv;rfl) (w.heap.size+1+1) _ (below3 _ _ _ _) (z8 _) ?_;intro w2 HG2 hB2;refine zb ?_);refine zc ?_;have k02:=ze.ofBelow (P:=fun _=>False) (hB2.mono (by rw [yX,yX];exact z8 _));have hO2:=(((ze.refl (fun _=>False) w).alloc _).alloc _).trans k02;have y4:=zg k02 ⟨w.heap.size,4,none⟩ (.string s) (zg ((ze.refl (fun _=>False) _).alloc _) _ _ (zm w _ rfl _ _ 4 _ rfl) (fun f=>f)) (fun f=>f);have y5:=zg k02 ⟨w.heap.size,5,none⟩ (.slice la ks.length lc) (zg ((ze.refl (fun _=>False) _).alloc _) _ _ (zm w _ rfl _ _ 5 _ rfl) (fun f=>f)) (fun f=>f);have x0:=zg k02 ⟨w.heap.size+1,0,none⟩ (.pointer (some ⟨q.x,0,none⟩)) (zm _ _ (yX w _) _ _ 0 _ rfl) (fun f=>f);have x1:=zg k02 ⟨w.heap.size+1,1,none⟩ (.pointer (some ⟨q.y,0,none⟩)) (zm _ _ (yX w _) _ _ 1 _ rfl) (fun f=>f);have hrow:w2.ownsRow w.heap.size 3 1 (.slice (some ⟨w.heap.size+1+1,0,none⟩) (ks.length+1) (ks.length+1)) (ks.length+1) (turnRow (ks.map (Value.int .i64)++[.int .i64 0]) 0):=by
  have hg:=HG2.out;rw [zgD] at hg;exact ⟨by simp [turnRow],.inr ⟨_,_,_,rfl,by omega,hg,z8 _,by unfold maxLen;omega,by simp,by unfold turnRow;rw [List.replicate_zero,kB,List.drop_zero];exact vd (by simp)⟩⟩
 have HFD:Hid (∀ w3,Q8 w2 w3->Calls prog 21 #[.pointer (some ⟨q.x,0,none⟩),.string s,.slice (some ⟨w.heap.size+1+1,0,none⟩) ks.length (ks.length+1)] w3 fun x w'=>x = .returned (.tuple #[.bool r,.int .i64 e,.int .i64 at'])/\Hid (∃ ow',FoR wi w' ow' ps fs vs (fun j=>if j=k/\e=0 then true else us j) R/\ow' (w.heap.size+1+1)=0)/\Hid (PatR w' q.y ts kids)/\Hid (w'.ownsRow w.heap.size 3 1 (.slice (some ⟨w.heap.size+1+1,0,none⟩) (ks.length+1) (ks.length+1)) (ks.length+1) (turnRow (ks.map (Value.int .i64)++[.int .i64 0]) 0))/\w'.cell? ⟨w.heap.size,4,none⟩=some (.string s)/\w'.cell? ⟨w.heap.size,5,none⟩=some (.slice la ks.length lc)/\w'.cell? ⟨w.heap.size+1,0,none⟩=some (.pointer (some ⟨q.x,0,none⟩))/\w'.cell? ⟨w.heap.size+1,1,none⟩=some (.pointer (some ⟨q.y,0,none⟩))):=fun w3 k3=>by
  obtain ⟨g',cap',e',hc',_⟩:=own_row hrow (by omega);cases e';have hnew:∀ i,w.heap.size<=i->ow i=0:=fun i hi=>Decidable.byContradiction fun c=>by have:=(zb HH).sl i c;omega
  have hn2:∀ i,w.heap.size<=i->¬ow i=k+2:=fun i hi c=>by have:=hnew i hi;omega
  have hgl2:w.heap.size+1+1<w2.heap.size:=(zh hrow _ rfl).2;have hs3:=k3.size;refine (zb HFI w3 _ (hO2.trans k3) (.inr ⟨_,0,_,rfl,trivial,fun j x hj=>?_⟩)).mono ?_
  ·rw [jY];exact zg k3 _ _ (hc' j _ (by unfold turnRow;rw [List.replicate_zero,kB,List.drop_zero,qh (by simpa using (yd.1 hj).1),ky,hj];rfl)) (fun f=>f)
  ·rintro x w' ⟨rfl,r1,r2,r3⟩;exact ⟨rfl,⟨_,r1,(lab_old (by omega)).trans (hnew _ (by omega))⟩,r2,zn (zn hrow k3 (fun _ _ f=>f)) r3 (fun g hg=>hn2 g (zh hrow g hg).1),zg r3 _ _ (zg k3 _ _ y4 (fun f=>f)) (hn2 _ (z8 _)),zg r3 _ _ (zg k3 _ _ y5 (fun f=>f)) (hn2 _ (z8 _)),zg r3 _ _ (zg k3 _ _ x0 (fun f=>f)) (hn2 _ (XR _)),zg r3 _ _ (zg k3 _ _ x1 (fun f=>f)) (hn2 _ (XR _))⟩
 have hsl:=cut_ints (w.heap.size+1+1) ks.length;clear HFI HL0 hrow HG2 hB2 k02 hO2 c1 z0 z1 z2 z3 hmk;go_wp2_with fail;go_region_held3 (fun w'=>w'.cell? ⟨w.heap.size+1,0,none⟩=some (.pointer (some ⟨q.x,0,none⟩))/\w'.cell? ⟨w.heap.size,4,none⟩=some (.string s)) (go_keep)
  (first |(go_at_call 21;refine (zb HFD _ ((ze.refl _ _).drewN _)).mono ?_;rintro e' w3 ⟨rfl,H3,HPR,HRow,y4,y5,x0,x1⟩))
 go_wp2_with (go_at_call 57;refine (rfindF (zb HA) (zb HPR)).mono ?_;rintro e' w4 ⟨rfl,hO4⟩;refine zb ?_);refine zc ?_;obtain ⟨ow',h3,hg0⟩:=zb H3;have HQ:=zc (h3.keep0 hO4);have HW:=zc (zn (zb HRow) hO4 (fun _ _ f=>f));have hlt4:w.heap.size+1+1<w4.heap.size:=(zh (zb HW) _ rfl).2;replace y5:=zg hO4 _ _ y5 (fun f=>f);have HG0:=zc hg0;have hX:(ks.map (Value.int .i64)++[Value.int .i64 0]).length=ks.length+1:=by simp
 clear h3 hO4 H3 HRow HPR y4 x0 x1 HA HFD HL hsl hg0;go_wp2_with fail;go_loopw [16] (fun x wr=>∃ i:Nat,x = .int .i64 i/\i<=ks.length+1/\Hid (FoR wi wr ow' ps fs vs (fun j=>if j=k/\e=0 then true else us j) R)/\Hid (wr.ownsRow w.heap.size 3 1 (.slice (some ⟨w.heap.size+1+1,0,none⟩) (ks.length+1) (ks.length+1)) (ks.length+1) (turnRow (ks.map (Value.int .i64)++[.int .i64 0]) i))/\Hid (wr.cell? ⟨w.heap.size,5,none⟩=some (.slice la ks.length lc))) (fun x _=>ks.length+1-(intOf x).toNat)
 case atStart=>exact ⟨0,rfl,by omega,HQ,HW,y5⟩
 case round=>
  clear HQ HW y5;obtain ⟨i,rfl,hi,HQ,HW,y5⟩:=hrel;replace y5:=zb y5;obtain ⟨g',cap',e',hc',hf'⟩:=own_row (zb HW) (by omega);cases e';have HR0:Hid (∀ m,m<3->(R m).ownBlock≠some (w.heap.size+1+1)):=fun m hm c=>by have:=(zh ((zb HH).row m hm) _ c).2;omega
  by_cases hlt2:i<ks.length+1
  ·have hfz:=hf' i;have HN:Hid (FoR wi (wr.setCell ⟨w.heap.size+1+1,i,none⟩ (.int .i64 (-7))) ow' ps fs vs (fun j=>if j=k/\e=0 then true else us j) R/\(wr.setCell ⟨w.heap.size+1+1,i,none⟩ (.int .i64 (-7))).ownsRow w.heap.size 3 1 (.slice (some ⟨w.heap.size+1+1,0,none⟩) (ks.length+1) (ks.length+1)) (ks.length+1) (turnRow (ks.map (Value.int .i64)++[.int .i64 0]) (i+1))/\(wr.setCell ⟨w.heap.size+1+1,i,none⟩ (.int .i64 (-7))).cell? ⟨w.heap.size,5,none⟩=some (.slice la ks.length lc)):=by
    have hS:ze (fun j=>j=w.heap.size+1+1) wr (wr.setCell ⟨w.heap.size+1+1,i,none⟩ (.int .i64 (-7))):=(ze.refl (fun j=>j=w.heap.size+1+1) wr).setCell (p:=⟨w.heap.size+1+1,i,none⟩) (Or.inl rfl) _;refine ⟨(zb HQ).keep hS (fun j e=>by subst e;exact ⟨zb HG0,by omega,zb HR0⟩),?_,zg hS _ _ y5 (by simp;omega)⟩;rw [<-turn_set (by rw [hX];exact hlt2)];exact Xb (zb HW) _
   by_cases hin:i<ks.length
   ·rcases zb HE with ⟨c,_⟩ |⟨gl,off,cap,e2,_,hc2⟩
    ·rw [c] at hin;simp at hin
    ·cases e2;have hcl:=zg (zb HQ).old _ _ (hc2 i ks[i] (zD hin)) (fun f=>f);have hci:=hc' i (.int .i64 ks[i]) (by rw [turn_at,qh (by simpa using hin),ky,zD hin];rfl);generalize ks[i]=x at hcl hci;clear hc2 hc' hf';go_wp2_with fail;exact ⟨⟨i+1,by go_num,by omega,(zb HN).1,(zb HN).2.1,(zb HN).2.2⟩,by simp [intOf];omega⟩
   ·obtain rfl:i=ks.length:=(by omega);have hci:=hc' ks.length (.int .i64 0) (by rw [turn_at,jj (by simp)];exact congrArg (fun j=>[Value.int .i64 0][j]?) (show ks.length-(ks.map (Value.int .i64)).length=0 by simp));clear hc' hf';go_wp2_with fail;exact ⟨⟨ks.length+1,by go_num,by omega,(zb HN).1,(zb HN).2.1,(zb HN).2.2⟩,by simp [intOf]⟩
  ·obtain rfl:i=ks.length+1:=(by omega);have hgr:w.heap.size+1+1<wr.heap.size:=(zh (zb HW) _ rfl).2;have HQ2:=zc ((zb HQ).label (ow':=fun j=>if j=w.heap.size+1+1 then 1 else ow' j) (fun j hj=>if_neg (fun c=>by subst c;exact hj (zb HG0))) (fun j hj=>by
    by_cases c:j=w.heap.size+1+1
    ·subst c;exact .inr ⟨by omega,hgr,zb HR0⟩
    ·rw [if_neg c] at hj;exact .inl hj))
   have HT:Hid (ListT wr (fun j=>if j=w.heap.size+1+1 then 1 else ow' j) (.slice (some ⟨w.heap.size+1+1,0,none⟩) (ks.length+1) (ks.length+1))):=⟨_,_,_,rfl,by omega,if_pos rfl,fun j hj=>hc' j _ (by rw [<-hX] at hj ⊢;exact turn_end hj)⟩
   have c6:=(zb HQ).c 6 _ rfl;have f6:=(zb HQ).fz 6;have c1:=(zb HQ).c 1 _ rfl;obtain ⟨ta,tn,tc,e2⟩:=zy ((zb HQ).row 2 (by decide));rw [e2] at c6;rw [e1] at c1;have hlt5:=(zb HQ).lt;have HRo:Hid (wr.ownsRow (wi.heap.size+1) 27 1 (.slice ta tn tc) vs.length vs):=(by show World.ownsRow _ _ _ _ _ _ _;rw [<-e2];exact (zb HQ).row 2 (by decide));clear hc' hf' y5;go_wp2_with (at_builtin;refine zb ?_);refine zc ?_;refine xH _ rfl _ _ 54 rfl (wi.heap.size+1) 27 i0 (.slice none 0 0) 1 24 underlying54 hi0 hz0 hz1 hz2 rfl (by decide) (.slice ta tn tc) vs.length vs rfl (xR (zb HRo) _) _ 1 1 [.slice (some ⟨w.heap.size+1+1,0,none⟩) (ks.length+1) (ks.length+1)] rfl rfl (cell_one_new _ _ _) (fun x hx=>by simp at hx;subst hx;rfl) (by unfold maxLen;omega) (by omega) (by simp;omega) ?_;intro v2 wb hown2 hgr2 hsep2;have k2:ze (fun j=>(R 2).ownBlock=some j) wr wb:=(by rw [e2];exact ((ze.refl _ _).alloc _).grown hgr2 (fun k e=>.inl e));have HX:=zc ((zb HQ2).put (i:=2) (by decide) k2 (ps':=ps) (fs':=fs) (vs':=vs++[.slice (some ⟨w.heap.size+1+1,0,none⟩) (ks.length+1) (ks.length+1)]) (by show World.ownsRow _ _ _ _ _ (vs++[_]).length (vs++[_]);rw [yS];exact hown2) (fun x hx=>by rw [e2];exact (hsep2 x hx).imp_right (fun q=>by simp at q;omega)) (by rintro (_ |_ |_ |j) h1 h2<;>first |exact ⟨rfl,rfl⟩ |omega) (zb HQ2).pats (zb HQ2).fins (fun v hv=>by
    rcases qe.1 hv with hv |hv
    ·exact (zb HQ2).lst v hv
    ·simp only [xf] at hv;subst hv;exact zb HT))
   have hnb:¬(R 2).ownBlock=some wi.heap.size:=fun c=>(by have:=(zh ((zb HQ).row 2 (by decide)) _ c).1;omega);have d6:=zg k2 _ _ c6 hnb;have f6':=zP k2 _ hlt5 f6 hnb;obtain ⟨va,vn,vc,rfl⟩:=zy hown2;have e3:putR R 2 (.slice va vn vc) 1 = .slice (some ⟨gf,0,none⟩) fs.length fc:=e1;have hr1:=zn ((zb HQ).row 1 (by decide)) k2 (fun g hg=>own_ne ((zb HQ).row 1 (by decide)) ((zb HQ).row 2 (by decide)) (by decide) g hg);obtain ⟨g4,cap4,e4,hc4,hf4⟩:=own_row (n:=fs.length) (xs:=finCells fs) hr1 (by omega);cases e1.symm.trans e4;have z3:=hc4 _ _ (zeC fs k q hq).2.2.2;have z4:=hf4 (k*4+3);have z1:=zg k2 _ _ c1 hnb;have hgB:gf≠wi.heap.size:=(by have:=(zh hr1 gf (by rw [e1];rfl)).1;omega);have HU:=zc ((zb HX).used hq e3);have HQQ:=zc hq;have hul:(fs.set k { q with used:=true }).length=fs.length:=ve;clear hown2 hgr2 hsep2 k2 hnb c6 f6 hc4 hf4 c1 hq hr1 HQ HQ2 HT HW HRo HH HE;by_cases he0:e=0
   ·have heb:(e == 0)=true:=(by simp [he0]);have HF:Hid (∀ j q',(fs.set k { q with used:=true })[j]?=some q'->(if j=k/\e=0 then true else us j)=q'.used):=fun j q' hj=>by
     by_cases c:k=j
     ·subst c;rw [YE hkl] at hj;cases hj;exact if_pos ⟨rfl,he0⟩
     ·rw [Z0 c] at hj;rw [if_neg (fun d=>c d.1.symm)];exact hu j q' hj
    clear he0;go_wp2_with fail;go_ret;exact ⟨rfl,_,_,_,_,_,_,zb HU,zb HF,by omega,by omega,by simp;omega⟩
   ·have heb:(e == 0)=false:=(by simp [he0]);have HF:Hid (∀ j q',fs[j]?=some q'->(if j=k/\e=0 then true else us j)=q'.used):=fun j q' hj=>by
     rw [if_neg (fun d=>he0 d.2)];exact hu j q' hj
    clear he0;go_wp2_with fail;go_ret;exact ⟨rfl,_,_,_,_,_,_,zb HX,zb HF,by omega,by omega,by simp;omega⟩
end
end
end Go.Proofs.YtcgleficedipkaaGreatDoor
