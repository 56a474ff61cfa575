/- The law's own encoding of characters: plain, against where characters begin. -/
import Derived.Test.YtfnkbmglodopkaaGreatDoorZLinALinG
namespace Go.Proofs.YtfnkbmglodopkaaGreatDoor
section
namespace Kc
open Ref (xf headK headN yF badC xd oneF)
def XL (n:Nat):Int:=if n=1 then 0 else if n=2 then 192 else if n=3 then 224 else 240
def contV (s:ByteArray)(p:Nat):Nat→Nat→Int→Int
 |0,_,c=>c
 |k+1,i,c=>contV s p k (i+1) (c*64+zc s (p+i)-128)
def valueV (s:ByteArray)(p n:Nat):Int:=contV s p (n-1) 1 (zc s p-XL n)
def isCharB (c:Int):Bool:=decide (0≤c) && decide (c≤1114111) && (decide (c<55296) ||decide (57343<c))
def encI (c:Int):List Int:=if c<128 then [c] else if c<2048 then [192+c / 64,128+c % 64] else if c<65536 then [224+c / 4096,128+c / 64 % 64,128+c % 64] else [240+c / 262144,128+c / 4096 % 64,128+c / 64 % 64,128+c % 64]
def xP (s:ByteArray)(p:Nat):Nat→List Int
 |0=>[]
 |n+1=>zc s p :: xP s (p+1) n
theorem cont2 (s:ByteArray)(p:Nat)(c:Int):xf s p 1 1 c=if zc s (p+1)<128∨191<zc s (p+1) then none else some (c*64+zc s (p+1)-128):=rfl
theorem cont3 (s:ByteArray)(p:Nat)(c:Int):xf s p 2 1 c=if zc s (p+1)<128∨191<zc s (p+1) then none else if zc s (p+2)<128∨191<zc s (p+2) then none else some ((c*64+zc s (p+1)-128)*64+zc s (p+2)-128):=rfl
theorem cont4 (s:ByteArray)(p:Nat)(c:Int):xf s p 3 1 c=if zc s (p+1)<128∨191<zc s (p+1) then none else if zc s (p+2)<128∨191<zc s (p+2) then none else if zc s (p+3)<128∨191<zc s (p+3) then none else some (((c*64+zc s (p+1)-128)*64+zc s (p+2)-128)*64+zc s (p+3)-128):=rfl
theorem bytes1 (s:ByteArray)(p:Nat):xP s p 1=[zc s p]:=rfl
theorem bytes2 (s:ByteArray)(p:Nat):xP s p 2=[zc s p,zc s (p+1)]:=rfl
theorem bytes3 (s:ByteArray)(p:Nat):xP s p 3=[zc s p,zc s (p+1),zc s (p+2)]:=rfl
theorem bytes4 (s:ByteArray)(p:Nat):xP s p 4=[zc s p,zc s (p+1),zc s (p+2),zc s (p+3)]:=rfl
theorem val1 (s:ByteArray)(p:Nat):valueV s p 1=zc s p:=by show zc s p-XL 1=_;simp [XL]
theorem val2 (s:ByteArray)(p:Nat):valueV s p 2=(zc s p-192)*64+zc s (p+1)-128:=rfl
theorem val3 (s:ByteArray)(p:Nat):valueV s p 3=((zc s p-224)*64+zc s (p+1)-128)*64+zc s (p+2)-128:=rfl
theorem val4 (s:ByteArray)(p:Nat):valueV s p 4=(((zc s p-240)*64+zc s (p+1)-128)*64+zc s (p+2)-128)*64+zc s (p+3)-128:=rfl
theorem one_of {s:ByteArray}{p n:Nat}(h1:1≤n)(h4:n≤4)(hp:p+n≤s.size)(hc:isCharB (valueV s p n)=true)(he:encI (valueV s p n)=xP s p n):oneF s p=some (n,valueV s p n):=by
 have b0:=ye s p
 simp only [isCharB,Bool.and_eq_true,Bool.or_eq_true,decide_eq_true_eq] at hc
 obtain ⟨⟨c0,c1⟩,c2⟩:=hc
 have key:headK (zc s p)=n∧xf s p (n-1) 1 (yF (zc s p))=some (valueV s p n)∧badC n (valueV s p n)=false:=by
  rcases (by omega:n=1∨n=2∨n=3∨n=4) with rfl |rfl |rfl |rfl
  ·rw [val1] at *
   rw [bytes1] at he
   have e:zc s p<128:=by
    unfold encI at he
    split at he
    ·assumption
    ·split at he
     ·simp at he
     ·split at he<;>simp at he
   have hN:headN (zc s p)=1:=by unfold headN;rw [if_pos e]
   have hC:yF (zc s p)=zc s p:=by unfold yF;rw [if_pos e]
   refine ⟨by simp [headK,hN],by rw [hC];rfl,?_⟩
   simp [badC,xd]
   omega
  ·rw [val2,bytes2] at he
   rw [val2] at c0 c1 c2 ⊢
   generalize hg:(zc s p-192)*64+zc s (p+1)-128=c at *
   have hr:¬c<128∧c<2048:=by
    unfold encI at he
    split at he
    ·simp at he
    ·split at he
     ·exact ⟨by assumption,by assumption⟩
     ·split at he<;>simp at he
   unfold encI at he
   rw [if_neg hr.1,if_pos hr.2] at he
   simp at he
   obtain ⟨e1,e2⟩:=he
   have hN:headN (zc s p)=2:=by unfold headN;rw [if_neg (by omega),if_pos (by omega)]
   have hC:yF (zc s p)=zc s p-192:=by unfold yF;rw [if_neg (by omega),if_pos (by omega)]
   refine ⟨by simp [headK,hN],?_,?_⟩
   ·show xf s p 1 1 _=_
    rw [hC,cont2,if_neg (by omega),hg]
   ·simp [badC,xd]
    omega
  ·rw [val3,bytes3] at he
   rw [val3] at c0 c1 c2 ⊢
   generalize hg:((zc s p-224)*64+zc s (p+1)-128)*64+zc s (p+2)-128=c at *
   have hr:¬c<128∧¬c<2048∧c<65536:=by
    unfold encI at he
    split at he
    ·simp at he
    ·split at he
     ·simp at he
     ·split at he
      ·exact ⟨by assumption,by assumption,by assumption⟩
      ·simp at he
   unfold encI at he
   rw [if_neg hr.1,if_neg hr.2.1,if_pos hr.2.2] at he
   simp at he
   obtain ⟨e1,e2,e3⟩:=he
   have hN:headN (zc s p)=3:=by unfold headN;rw [if_neg (by omega),if_neg (by omega),if_pos (by omega)]
   have hC:yF (zc s p)=zc s p-224:=by unfold yF;rw [if_neg (by omega),if_neg (by omega),if_pos (by omega)]
   refine ⟨by simp [headK,hN],?_,?_⟩
   ·show xf s p 2 1 _=_
    rw [hC,cont3,if_neg (by omega),if_neg (by omega),hg]
   ·simp [badC,xd]
    omega
  ·rw [val4,bytes4] at he
   rw [val4] at c0 c1 c2 ⊢
   generalize hg:(((zc s p-240)*64+zc s (p+1)-128)*64+zc s (p+2)-128)*64+zc s (p+3)-128=c at *
   have hr:¬c<128∧¬c<2048∧¬c<65536:=by
    unfold encI at he
    split at he
    ·simp at he
    ·split at he
     ·simp at he
     ·split at he
      ·simp at he
      ·exact ⟨by assumption,by assumption,by assumption⟩
   unfold encI at he
   rw [if_neg hr.1,if_neg hr.2.1,if_neg hr.2.2] at he
   simp at he
   obtain ⟨e1,e2,e3,e4⟩:=he
   have hN:headN (zc s p)=4:=by unfold headN;rw [if_neg (by omega),if_neg (by omega),if_neg (by omega),if_pos (by omega)]
   have hC:yF (zc s p)=zc s p-240:=by unfold yF;rw [if_neg (by omega),if_neg (by omega),if_neg (by omega),if_pos (by omega)]
   refine ⟨by simp [headK,hN],?_,?_⟩
   ·show xf s p 3 1 _=_
    rw [hC,cont4,if_neg (by omega),if_neg (by omega),if_neg (by omega),hg]
   ·simp [badC,xd]
    omega
 unfold oneF
 rw [key.1,if_neg (by omega),key.2.1]
 simp [key.2.2]
theorem of_one {s:ByteArray}{p n:Nat}{c:Int}(h:oneF s p=some (n,c)):1≤n∧n≤4∧p+n≤s.size∧valueV s p n=c∧isCharB c=true∧encI c=xP s p n:=by
 obtain ⟨h1,h2,h3,h4,c0,c1,c2⟩:=Ref.q9 h
 refine ⟨h1,h3,h2,?_⟩
 unfold oneF at h
 rw [←h4,if_neg (by omega)] at h
 split at h
 ·cases h
 ·rename_i d hd
  split at h
  ·cases h
  ·rename_i hbad
   simp only [Option.some.injEq,Prod.mk.injEq,true_and] at h
   subst h
   have hch:isCharB d=true:=by simp [isCharB];omega
   rcases (by omega:n=1∨n=2∨n=3∨n=4) with rfl |rfl |rfl |rfl
   ·have hlt:zc s p<128:=by
     unfold headK headN at h4
     (repeat' split at h4)<;>first |assumption |simp at h4
    have e:d=zc s p:=by
     have:yF (zc s p)=zc s p:=by unfold yF;rw [if_pos hlt]
     rw [this] at hd
     exact (Option.some.inj hd).symm
    subst e
    refine ⟨val1 _ _,hch,?_⟩
    unfold encI
    rw [if_pos hlt]
    rfl
   ·have hr:192≤zc s p∧zc s p<224:=by
     unfold headK headN at h4
     (repeat' split at h4)<;>first |assumption |simp at h4
    have hC:yF (zc s p)=zc s p-192:=by unfold yF;rw [if_neg (by omega),if_pos hr]
    have hd':xf s p 1 1 (yF (zc s p))=some d:=hd
    rw [hC,cont2] at hd'
    split at hd'
    ·cases hd'
    ·rename_i q1
     have e:=Option.some.inj hd'
     simp [badC,xd] at hbad
     refine ⟨(val2 s p).trans e,hch,?_⟩
     rw [bytes2]
     unfold encI
     rw [if_neg (by omega),if_pos (by omega)]
     simp only [List.cons.injEq,and_true]
     omega
   ·have hr:224≤zc s p∧zc s p<240:=by
     unfold headK headN at h4
     (repeat' split at h4)<;>first |assumption |simp at h4
    have hC:yF (zc s p)=zc s p-224:=by unfold yF;rw [if_neg (by omega),if_neg (by omega),if_pos hr]
    have hd':xf s p 2 1 (yF (zc s p))=some d:=hd
    rw [hC,cont3] at hd'
    split at hd'
    ·cases hd'
    ·rename_i q1
     split at hd'
     ·cases hd'
     ·rename_i q2
      have e:=Option.some.inj hd'
      simp [badC,xd] at hbad
      refine ⟨(val3 s p).trans e,hch,?_⟩
      rw [bytes3]
      unfold encI
      rw [if_neg (by omega),if_neg (by omega),if_pos (by omega)]
      simp only [List.cons.injEq,and_true]
      omega
   ·have hr:240≤zc s p∧zc s p<248:=by
     unfold headK headN at h4
     (repeat' split at h4)<;>first |assumption |simp at h4
    have hC:yF (zc s p)=zc s p-240:=by unfold yF;rw [if_neg (by omega),if_neg (by omega),if_neg (by omega),if_pos hr]
    have hd':xf s p 3 1 (yF (zc s p))=some d:=hd
    rw [hC,cont4] at hd'
    split at hd'
    ·cases hd'
    ·rename_i q1
     split at hd'
     ·cases hd'
     ·rename_i q2
      split at hd'
      ·cases hd'
      ·rename_i q3
       have e:=Option.some.inj hd'
       simp [badC,xd] at hbad
       refine ⟨(val4 s p).trans e,hch,?_⟩
       rw [bytes4]
       unfold encI
       rw [if_neg (by omega),if_neg (by omega),if_neg (by omega)]
       simp only [List.cons.injEq,and_true]
       omega
end Kc
end
section
open Go.RowKit
set_option maxHeartbeats 4000000
theorem Zr (c:Int)(w:World):Calls Tryz.prog 27 #[.int .i64 c] w fun x w'=>x = .returned (.bool (Kc.isCharB c))∧w'=w:=by
 by_cases h0:0≤c
 ·by_cases h1:c≤1114111
  ·by_cases h2:c<55296
   ·have HT:Hid (Kc.isCharB c=true):=by show _=_;unfold Kc.isCharB;rw [decide_eq_true h0,decide_eq_true h1,decide_eq_true h2];simp
    generalize Kc.isCharB c=T at HT ⊢
    go_enter Tryz.func27,Tryz.ntmps27
    go_wp2_with fail
    go_ret
    exact ⟨by rw [za HT];rfl,rfl⟩
   ·have HT:Hid (Kc.isCharB c=decide (57343<c)):=by show _=_;unfold Kc.isCharB;rw [decide_eq_true h0,decide_eq_true h1,decide_eq_false h2];simp
    generalize Kc.isCharB c=T at HT ⊢
    go_enter Tryz.func27,Tryz.ntmps27
    go_wp2_with fail
    go_ret
    exact ⟨by rw [za HT];rfl,rfl⟩
  ·have HT:Hid (Kc.isCharB c=false):=by show _=_;unfold Kc.isCharB;rw [decide_eq_true h0,decide_eq_false h1];simp
   generalize Kc.isCharB c=T at HT ⊢
   go_enter Tryz.func27,Tryz.ntmps27
   go_wp2_with fail
   go_ret
   exact ⟨by rw [za HT];rfl,rfl⟩
 ·have HT:Hid (Kc.isCharB c=false):=by show _=_;unfold Kc.isCharB;rw [decide_eq_false h0];simp
  generalize Kc.isCharB c=T at HT ⊢
  go_enter Tryz.func27,Tryz.ntmps27
  go_wp2_with fail
  go_ret
  exact ⟨by rw [za HT];rfl,rfl⟩
theorem jj (s:ByteArray)(k:Nat)(hk:k<s.size):∃ b:Int,zc s k=b∧0≤b∧b≤255∧∀ (i:Int) (w:World),i=(k:Int)→(Instr.index 9 (.string s) (.int .i64 i)).run Tryz.prog w = .ok (.int .u8 b) w:=
 ⟨zc s k,rfl,(ym s k).2 hk,ye s k,fun i w hi=>by rw [jb s k hk];exact X5 s k hk i hi w⟩
theorem JO (s:ByteArray)(p n:Nat)(w:World)(h1:1≤n)(h4:n≤4)(hp:p+n≤s.size)(hs:s.size<4611686018427387904) :
  Calls Tryz.prog 49 #[.string s,.int .i64 (p:Nat),.int .i64 (n:Nat)] w fun x w'=>x = .returned (.int .i64 (Kc.valueV s p n))∧zd (fun _=>False) w w':=by
 obtain ⟨b0,e0,l0,u0,x0⟩:=jj s p (by omega)
 have hx0:=fun w=>x0 (p:Int) w rfl
 clear x0
 have HO:Hid (zd (fun _=>False) w (w.alloc (.cells #[.int .i64 0,.int .i64 192,.int .i64 224,.int .i64 240] 3))):=(zd.refl _ _).alloc _
 rcases (by omega:n=1∨n=2∨n=3∨n=4) with rfl |rfl |rfl |rfl
 ·have HT:Hid (Kc.valueV s p 1=b0):=by show _=_;rw [Kc.val1,e0]
  generalize Kc.valueV s p 1=T at HT ⊢
  clear e0
  go_enter Tryz.func49,Tryz.ntmps49
  go_wp2_with fail
  go_region
  go_wp2_with fail
  refine wp_loop_rounds 1 ?_
  rw [rounds_succ]
  go_wp2_with fail
  go_ret
  exact ⟨by rw [za HT];rfl,by first |exact (za HO).drew |exact (za HO).drewN _ |exact za HO⟩
 ·obtain ⟨b1,e1,l1,u1,x1⟩:=jj s (p+1) (by omega)
  have hx1:=fun w=>x1 ((p:Int)+1) w (by omega)
  clear x1
  have HT:Hid (Kc.valueV s p 2=(b0-192)*64+b1-128):=by show _=_;rw [Kc.val2,e0,e1]
  generalize Kc.valueV s p 2=T at HT ⊢
  clear e0 e1
  go_enter Tryz.func49,Tryz.ntmps49
  go_wp2_with fail
  go_region
  go_wp2_with fail
  refine wp_loop_rounds 2 ?_
  rw [rounds_succ]
  go_wp2_with fail
  rw [rounds_succ]
  go_wp2_with fail
  go_ret
  exact ⟨by rw [za HT];rfl,by first |exact (za HO).drew |exact (za HO).drewN _ |exact za HO⟩
 ·obtain ⟨b1,e1,l1,u1,x1⟩:=jj s (p+1) (by omega)
  have hx1:=fun w=>x1 ((p:Int)+1) w (by omega)
  clear x1
  obtain ⟨b2,e2,l2,u2,x2⟩:=jj s (p+2) (by omega)
  have hx2:=fun w=>x2 ((p:Int)+2) w (by omega)
  clear x2
  have HT:Hid (Kc.valueV s p 3=((b0-224)*64+b1-128)*64+b2-128):=by show _=_;rw [Kc.val3,e0,e1,e2]
  generalize Kc.valueV s p 3=T at HT ⊢
  clear e0 e1 e2
  go_enter Tryz.func49,Tryz.ntmps49
  go_wp2_with fail
  go_region
  go_wp2_with fail
  refine wp_loop_rounds 3 ?_
  rw [rounds_succ]
  go_wp2_with fail
  rw [rounds_succ]
  go_wp2_with fail
  rw [rounds_succ]
  go_wp2_with fail
  go_ret
  exact ⟨by rw [za HT];rfl,by first |exact (za HO).drew |exact (za HO).drewN _ |exact za HO⟩
 ·obtain ⟨b1,e1,l1,u1,x1⟩:=jj s (p+1) (by omega)
  have hx1:=fun w=>x1 ((p:Int)+1) w (by omega)
  clear x1
  obtain ⟨b2,e2,l2,u2,x2⟩:=jj s (p+2) (by omega)
  have hx2:=fun w=>x2 ((p:Int)+2) w (by omega)
  clear x2
  obtain ⟨b3,e3,l3,u3,x3⟩:=jj s (p+3) (by omega)
  have hx3:=fun w=>x3 ((p:Int)+3) w (by omega)
  clear x3
  have HT:Hid (Kc.valueV s p 4=(((b0-240)*64+b1-128)*64+b2-128)*64+b3-128):=by show _=_;rw [Kc.val4,e0,e1,e2,e3]
  generalize Kc.valueV s p 4=T at HT ⊢
  clear e0 e1 e2 e3
  go_enter Tryz.func49,Tryz.ntmps49
  go_wp2_with fail
  go_region
  go_wp2_with fail
  refine wp_loop_rounds 4 ?_
  rw [rounds_succ]
  go_wp2_with fail
  rw [rounds_succ]
  go_wp2_with fail
  rw [rounds_succ]
  go_wp2_with fail
  rw [rounds_succ]
  go_wp2_with fail
  go_ret
  exact ⟨by rw [za HT];rfl,by first |exact (za HO).drew |exact (za HO).drewN _ |exact za HO⟩
namespace Kc
def toB (xs:List Int):List UInt8:=xs.map (fun x=>UInt8.ofNat x.toNat)
def encS (c:Int):ByteArray:=⟨(toB (encI c)).toArray⟩
theorem toB_at {xs:List Int}(h:∀ x∈xs,0≤x∧x≤255)(j:Nat)(hj:j<xs.length):(((toB xs)[j]'(by simpa [toB] using hj)).toNat:Int)=xs[j]:=by
 have hx:=h xs[j] (List.getElem_mem hj)
 simp only [toB,List.getElem_map,UInt8.toNat_ofNat']
 omega
end Kc
theorem wg (w:World)(xs:List Int)(n:Nat)(hn:n=xs.length)(h:∀ x∈xs,0≤x∧x≤255):(convert 88 9 (.slice (some ⟨w.heap.size,0,none⟩) n n)).run Tryz.prog (w.alloc (.cells (xs.map (fun x=>Value.int .u8 x)).toArray 5)) = .ok (.string ⟨(Kc.toB xs).toArray⟩) (w.alloc (.cells (xs.map (fun x=>Value.int .u8 x)).toArray 5)):=by
 subst hn
 have hl:(Kc.toB xs).length=xs.length:=by simp [Kc.toB]
 have:=run_convert_bytes_back (P:=Tryz.prog) (w.alloc (.cells (xs.map (fun x=>Value.int .u8 x)).toArray 5)) 88 9 5 ⟨w.heap.size,0,none⟩ xs.length (Kc.toB xs) Tryz.underlying88 Tryz.underlying5 Tryz.underlying9 (fun j hj=>by
  have hj2:j<xs.length:=by rw [←hl];exact hj
  have e0:(⟨w.heap.size,0,none⟩:Addr).add j=⟨w.heap.size,j,none⟩:=by unfold Addr.add;split<;>simp_all
  rw [e0,Kc.toB_at h j hj2]
  exact zj w _ rfl _ _ j _ (by simp [hj2]))
 rw [hl] at this
 exact this
theorem wh (c:Int)(w:World)(h0:0≤c)(h1:c≤1114111) :
  Calls Tryz.prog 28 #[.int .i64 c] w fun x w'=>x = .returned (.string (Kc.encS c))∧zd (fun _=>False) w w':=by
 by_cases c1:c<128
 ·have HT:Hid (Kc.encS c=⟨(Kc.toB [c]).toArray⟩):=by show _=_;unfold Kc.encS Kc.encI;rw [if_pos c1]
  have hcv:=wg w [c] 1 rfl (fun x hx=>by simp at hx;omega)
  simp only [List.map_cons,List.map_nil] at hcv
  generalize Kc.encS c=T at HT ⊢
  generalize (⟨(Kc.toB [c]).toArray⟩:ByteArray)=R at HT hcv
  go_enter Tryz.func28,Tryz.ntmps28
  go_wp2_with fail
  go_ret
  exact ⟨by rw [za HT];rfl,(zd.refl _ _).alloc _⟩
 ·by_cases c2:c<2048
  ·have HT:Hid (Kc.encS c=⟨(Kc.toB [192+c / 64,128+c % 64]).toArray⟩):=by show _=_;unfold Kc.encS Kc.encI;rw [if_neg c1,if_pos c2]
   have hcv:=wg w [192+c / 64,128+c % 64] 2 rfl (fun x hx=>by simp at hx;omega)
   simp only [List.map_cons,List.map_nil] at hcv
   generalize Kc.encS c=T at HT ⊢
   generalize (⟨(Kc.toB [192+c / 64,128+c % 64]).toArray⟩:ByteArray)=R at HT hcv
   go_enter Tryz.func28,Tryz.ntmps28
   go_wp2_with fail
   go_ret
   exact ⟨by rw [za HT];rfl,(zd.refl _ _).alloc _⟩
  ·by_cases c3:c<65536
   ·have HT:Hid (Kc.encS c=⟨(Kc.toB [224+c / 4096,128+c / 64 % 64,128+c % 64]).toArray⟩):=by show _=_;unfold Kc.encS Kc.encI;rw [if_neg c1,if_neg c2,if_pos c3]
    have hcv:=wg w [224+c / 4096,128+c / 64 % 64,128+c % 64] 3 rfl (fun x hx=>by simp at hx;omega)
    simp only [List.map_cons,List.map_nil] at hcv
    generalize Kc.encS c=T at HT ⊢
    generalize (⟨(Kc.toB [224+c / 4096,128+c / 64 % 64,128+c % 64]).toArray⟩:ByteArray)=R at HT hcv
    go_enter Tryz.func28,Tryz.ntmps28
    go_wp2_with fail
    go_ret
    exact ⟨by rw [za HT];rfl,(zd.refl _ _).alloc _⟩
   ·have HT:Hid (Kc.encS c=⟨(Kc.toB [240+c / 262144,128+c / 4096 % 64,128+c / 64 % 64,128+c % 64]).toArray⟩):=by show _=_;unfold Kc.encS Kc.encI;rw [if_neg c1,if_neg c2,if_neg c3]
    have hcv:=wg w [240+c / 262144,128+c / 4096 % 64,128+c / 64 % 64,128+c % 64] 4 rfl (fun x hx=>by simp at hx;omega)
    simp only [List.map_cons,List.map_nil] at hcv
    generalize Kc.encS c=T at HT ⊢
    generalize (⟨(Kc.toB [240+c / 262144,128+c / 4096 % 64,128+c / 64 % 64,128+c % 64]).toArray⟩:ByteArray)=R at HT hcv
    go_enter Tryz.func28,Tryz.ntmps28
    go_wp2_with fail
    go_ret
    exact ⟨by rw [za HT];rfl,(zd.refl _ _).alloc _⟩
namespace Kc
theorem encI_bd {c:Int}(h0:0≤c)(h1:c≤1114111):∀ x∈encI c,0≤x∧x≤255:=by
 intro x hx
 unfold encI at hx
 split at hx
 ·simp at hx;omega
 ·split at hx
  ·simp at hx;omega
  ·split at hx
   ·simp at hx;omega
   ·simp at hx;omega
theorem Kn:∀ (xs ys:List Int),(∀ x∈xs,0≤x∧x≤255)→(∀ x∈ys,0≤x∧x≤255)→toB xs=toB ys→xs=ys
 | [],[],_,_,_=>rfl
 | [],_ :: _,_,_,h=>by simp [toB] at h
 |_ :: _,[],_,_,h=>by simp [toB] at h
 |x :: xs,y :: ys,hx,hy,h=>by
  simp only [toB,List.map_cons,List.cons.injEq] at h
  have a:=hx x (by simp)
  have b:=hy y (by simp)
  have e:=congrArg UInt8.toNat h.1
  simp only [UInt8.toNat_ofNat'] at e
  rw [Kn xs ys (fun z hz=>hx z (by simp [hz])) (fun z hz=>hy z (by simp [hz])) h.2]
  congr 1
  omega
theorem YZ {s:ByteArray}:∀ (n p:Nat),p+n≤s.size→∀ x∈xP s p n,0≤x∧x≤255
 |0,_,_,x,hx=>by simp [xP] at hx
 |n+1,p,h,x,hx=>by
  simp only [xP,List.mem_cons] at hx
  rcases hx with rfl |hx
  ·exact ⟨(ym s p).2 (by omega),ye s p⟩
  ·exact YZ n (p+1) (by omega) x hx
theorem Zs {s:ByteArray}:∀ (n p:Nat),p+n≤s.size→toB (xP s p n)=(s.data.toList.drop p).take n
 |0,p,_=>by simp [xP,toB]
 |n+1,p,h=>by
  have hp:p<s.size:=by omega
  have hl:p<s.data.toList.length:=by simpa using hp
  rw [List.drop_eq_getElem_cons hl,List.take_succ_cons,←Zs n (p+1) (by omega)]
  simp only [xP,toB,List.map_cons,List.cons.injEq,and_true]
  rw [jb s p hp]
  simp
  rfl
theorem Yc {s:ByteArray}{c:Int}{p n:Nat}(h0:0≤c)(h1:c≤1114111)(hp:p+n≤s.size):encS c=s.extract p (p+n)↔encI c=xP s p n:=by
 have e:s.extract p (p+n)=⟨((s.data.toList.drop p).take n).toArray⟩:=by
  obtain ⟨d⟩:=s
  rw [ByteArray.extract_mk]
  congr 1
  apply Array.ext'
  simp [Nat.add_sub_cancel_left]
 rw [e,←Zs n p hp]
 unfold encS
 constructor
 ·intro h
  have h2:toB (encI c)=toB (xP s p n):=by simpa using h
  exact Kn _ _ (encI_bd h0 h1) (YZ n p hp) h2
 ·intro h
  rw [h]
def fits (s:ByteArray)(p n:Nat):Bool:=isCharB (valueV s p n) && decide (encS (valueV s p n)=s.extract p (p+n))
theorem fits_iff {s:ByteArray}{p n:Nat}(h1:1≤n)(h4:n≤4)(hp:p+n≤s.size):fits s p n=true↔Ref.oneF s p=some (n,valueV s p n):=by
 unfold fits
 rw [Bool.and_eq_true]
 constructor
 ·rintro ⟨hc,he⟩
  have hc2:=hc
  simp only [isCharB,Bool.and_eq_true,Bool.or_eq_true,decide_eq_true_eq] at hc2
  exact one_of h1 h4 hp hc ((Yc hc2.1.1 hc2.1.2 hp).1 (by simpa using he))
 ·intro h
  obtain ⟨_,_,_,_,hc,he⟩:=of_one h
  have hc2:=hc
  simp only [isCharB,Bool.and_eq_true,Bool.or_eq_true,decide_eq_true_eq] at hc2
  exact ⟨hc,by simpa using (Yc hc2.1.1 hc2.1.2 hp).2 he⟩
def NoFit (s:ByteArray)(p m:Nat):Prop:=∀ k,1≤k→k<m→p+k≤s.size→fits s p k=false
theorem none_of {s:ByteArray}{p m:Nat}(h:NoFit s p m)(hm:m=5∨s.size<p+m):Ref.oneF s p=none:=by
 cases e:Ref.oneF s p with
 |none=>rfl
 |some x=>
  obtain ⟨k,c⟩:=x
  obtain ⟨k1,k4,kp,kv,_,_⟩:=of_one e
  have hf:=h k k1 (by omega) kp
  have:=(fits_iff k1 k4 kp).2 (by rw [kv];exact e)
  rw [hf] at this
  cases this
end Kc
set_option maxRecDepth 100000
def xK (cs:List Int):List Value:=cs.map (fun c=>Value.int .i64 c)
theorem jV (n:Int)(h1:0≤n)(h2:n≤4611686018427387904):IntKind.i64.wrap n=n:=by
 simp [IntKind.wrap,IntKind.bits,IntKind.signed]
 omega
theorem beqB_ne {a b:ByteArray}(h:a≠b):(a.toList == b.toList)=false:=by
 rw [ByteArray.toList_eq,ByteArray.toList_eq]
 obtain ⟨⟨x⟩⟩:=a
 obtain ⟨⟨y⟩⟩:=b
 have hxy:x≠y:=fun e=>h (by rw [e])
 exact beq_false_of_ne hxy
theorem JP (s:ByteArray)(w:World)(hs:s.size≤1099511627776) :
  Calls Tryz.prog 17 #[.string s] w fun x w'=>∃ v,x = .returned (.tuple #[v,.int .i64 (Ref.zJ s).2])∧w'.ownsRow w.heap.size 3 1 v (Ref.zJ s).1.length (xK ((Ref.zJ s).1.map Prod.fst))∧zd (fun _=>False) w w':=by
 obtain ⟨i0,hi0,hz0,hz1,hz2⟩:=info_parts Tryz.infoInt
 have HT:Hid (Ref.zJ s=Ref.xm s (s.size+1) 0 []):=rfl
 generalize Ref.zJ s=R at HT ⊢
 go_enter Tryz.func17,Tryz.ntmps17
 go_wp2_with fail
 go_loopw [4,5] (fun lv pv wr=>∃ (p f:Nat) (acc:List (Int×Int)),pv = .int .i64 p∧p≤s.size∧acc.length≤p∧Hid (s.size<p+f)∧Hid (R=Ref.xm s f p acc)∧Hid (zd (fun _=>False) w wr)∧Hid (wr.ownsRow w.heap.size 3 1 lv acc.length (xK (acc.map Prod.fst)))) (fun _ pv _=>s.size-(intOf pv).toNat)
 case atStart=>exact ⟨0,s.size+1,[],rfl,by omega,by simp,by show _<_;omega,HT,zd.refl _ _,World.ownsRow_nil _ _ _ _⟩
 case round=>
  clear HT
  obtain ⟨p,f,acc,rfl,hp,hal,HF,HR,HK,HO⟩:=hrel
  obtain ⟨la,ln,lc,rfl⟩:=zp (za HO)
  by_cases hlt:p<s.size
  ·have HE0:Hid (f≠0):=by have:=za HF;show f≠0;omega
   go_wp2_with fail
   go_loopw [4,6,7] (fun lv2 zv nv wq=>∃ (m z:Nat),nv = .int .i64 m∧zv = .int .i64 z∧1≤m∧m≤5∧z≤4∧Hid (zd (fun _=>False) w wq)∧Hid ((z=0∧Kc.NoFit s p m∧wq.ownsRow w.heap.size 3 1 lv2 acc.length (xK (acc.map Prod.fst)))∨(0<z∧∃ c,Ref.oneF s p=some (z,c)∧wq.ownsRow w.heap.size 3 1 lv2 (acc.length+1) (xK ((acc++[(c,(p:Int))]).map Prod.fst))))) (fun _ _ nv _=>5-(intOf nv).toNat)
   case atStart=>exact ⟨1,0,rfl,rfl,by omega,by omega,by omega,HK,.inl ⟨rfl,fun k k1 k2=>by omega,za HO⟩⟩
   case round=>
    clear HK HO
    obtain ⟨m,z,rfl,rfl,hm1,hm5,hz4,HK2,HI⟩:=hrel
    obtain ⟨xa,xn,xc,rfl⟩:∃ a n c,u4 = .slice a n c:=by rcases za HI with ⟨_,_,h⟩ |⟨_,_,_,h⟩<;>exact zp h
    by_cases hz:z=0
    ·subst hz
     by_cases hm4:m≤4
     ·by_cases hpm:p+m≤s.size
      ·obtain ⟨HNo,HOw⟩:Hid (Kc.NoFit s p m)∧Hid (wr.ownsRow w.heap.size 3 1 (.slice xa xn xc) acc.length (xK (acc.map Prod.fst))):=by
        rcases za HI with ⟨_,h1,h2⟩ |⟨h0,_⟩
        ·exact ⟨h1,h2⟩
        ·omega
       have HVa:=zb (JO s p m wr hm1 hm4 hpm (by omega))
       have HFit:=zb (Kc.fits_iff hm1 hm4 hpm)
       have HNx:Hid (Kc.fits s p m=false→Kc.NoFit s p (m+1)):=fun hf k k1 k2 k3=>by
        by_cases e:k=m
        ·subst e;exact hf
        ·exact za HNo k k1 (by omega) k3
       have HDf:Hid (Kc.fits s p m=(Kc.isCharB (Kc.valueV s p m) && decide (Kc.encS (Kc.valueV s p m)=s.extract p (p+m)))):=rfl
       generalize Kc.fits s p m=fb at HFit HNx HDf
       generalize Kc.valueV s p m=c at HVa HFit HDf
       have hsl:∀ V:World,(Instr.slice 9 (.string s) (some (.int .i64 (p:Int))) (some (.int .i64 ((p:Int)+(m:Int)))) none).run Tryz.prog V = .ok (.string (s.extract p (p+m))) V:=fun V=>by
        rw [run_slice_string V 9 s .i64 .i64 (p:Int) ((p:Int)+(m:Int)) Tryz.underlying9 (by omega) (by omega) (by omega),show ((p:Int)+(m:Int)).toNat=p+m by omega,Int.toNat_natCast]
       have hw1:IntKind.i64.wrap ((p:Int)+(m:Int))=(p:Int)+(m:Int):=jV _ (by omega) (by omega)
       have hb0:(0:Int)≤(p:Int)+(m:Int):=by omega
       have hb4:((p:Int)+(m:Int)).toNat=p+m:=by omega
       have hb1:(0:Int)≤(p:Int):=by omega
       have hb2:(p:Int)≤(p:Int)+(m:Int):=by omega
       have hb3:(p:Int)+(m:Int)≤(s.size:Int):=by omega
       by_cases hch:Kc.isCharB c=true
       ·have hch2:=hch
        simp only [Kc.isCharB,Bool.and_eq_true,Bool.or_eq_true,decide_eq_true_eq] at hch2
        obtain ⟨⟨hc0,hc1⟩,_⟩:=hch2
        have HCh:Hid (∀ V,Calls Tryz.prog 27 #[.int .i64 c] V fun x w'=>x = .returned (.bool true)∧w'=V):=fun V=>by have:=Zr c V;rw [hch] at this;exact this
        rw [hch,Bool.true_and] at HDf
        clear hch
        by_cases heq:Kc.encS c=s.extract p (p+m)
        ·rw [decide_eq_true heq] at HDf
         have HFit2:=zb ((za HFit).1 (za HDf))
         clear HFit HNx HDf HNo
         go_wp2_with (first
          |(go_at_call 49;refine (za HVa).mono ?_;rintro e9 w1 ⟨rfl,hO1⟩;have HK3:=zb ((za HK2).trans hO1);have HOw1:=zb (zk (za HOw) hO1 (fun _ _ f=>f));have HEn:∀ V,zd (fun _=>False) w1 V→Calls Tryz.prog 28 #[.int .i64 c] V fun x w'=>x = .returned (.string (s.extract p (p+m)))∧zd (fun _=>False) w1 w':=(fun V hV=>by rw [←heq];exact (wh c V hc0 hc1).mono (fun _ _ h=>⟨h.1,hV.trans h.2⟩));clear hO1)
          |(go_at_call 27;refine (za HCh _).mono ?_;rintro e wq ⟨rfl,hwq⟩;obtain rfl:=hwq.symm;clear hwq))
         go_region_held3 (fun _=>True) (first |exact trivial |go_keep) (first |(go_at_call 28;refine (HEn _ (by first |exact zd.refl _ _ |exact (zd.refl _ _).drew |exact (zd.refl _ _).drewN _)).mono ?_;rintro e9 w2 ⟨rfl,hO2⟩;have HK4:=zb ((za HK3).trans hO2);have HOw2:=zb (zk (za HOw1) hO2 (fun _ _ f=>f));clear hO2))
         go_wp2_with (at_builtin;refine wpList_append_own _ rfl _ _ 28 rfl w.heap.size 3 i0 (.int .i64 0) 1 8 Tryz.underlying28 hi0 hz0 hz1 hz2 rfl (by decide) _ _ _ rfl (World.ownsRow.alloc (za HOw2) _) _ 1 1 [.int .i64 c] rfl rfl (cell_one_new _ _ _) (fun x hx=>by simp at hx;subst hx;rfl) (by unfold maxLen;omega) (by omega) (by have:=(za HK4).size;simp;omega) ?_;intro v' w4 hown' hgrow hnil;refine za ?_)
         refine zb ?_
         have HK5:Hid (zd (fun _=>False) w w4):=((za HK4).alloc _).grown hgrow (fun j hj=>Or.inr (zg (za HOw2) j hj).1)
         obtain ⟨ya,yn,yc,rfl⟩:=zp hown'
         have HOw4:Hid (w4.ownsRow w.heap.size 3 1 (.slice ya yn yc) (acc.length+1) (xK ((acc++[(c,(p:Int))]).map Prod.fst))):=by
          show World.ownsRow _ _ _ _ _ _ _
          unfold xK
          rw [List.map_append,List.map_append]
          exact hown'
         clear hown' hgrow hnil HOw2 HOw1 HOw HK4 HK3 HK2
         go_wp2_with fail
         exact ⟨⟨m+1,m,by go_num,rfl,by omega,by omega,by omega,HK5,.inr ⟨by omega,c,za HFit2,za HOw4⟩⟩,by simp [intOf];omega⟩
        ·rw [decide_eq_false heq] at HDf
         have HNx2:=zb (za HNx (za HDf))
         have hne:=beqB_ne heq
         have HEq:Hid (∀ V,Calls Tryz.prog 28 #[.int .i64 c] V fun x w'=>x = .returned (.string (Kc.encS c))∧zd (fun _=>False) V w'):=fun V=>wh c V hc0 hc1
         generalize Kc.encS c=E at heq hne HEq
         clear HFit HNx HDf HNo
         go_wp2_with (first
          |(go_at_call 49;refine (za HVa).mono ?_;rintro e9 w1 ⟨rfl,hO1⟩;have HK3:=zb ((za HK2).trans hO1);have HOw1:=zb (zk (za HOw) hO1 (fun _ _ f=>f));have HEn:∀ V,zd (fun _=>False) w1 V→Calls Tryz.prog 28 #[.int .i64 c] V fun x w'=>x = .returned (.string E)∧zd (fun _=>False) w1 w':=(fun V hV=>(za HEq V).mono (fun _ _ h=>⟨h.1,hV.trans h.2⟩));clear hO1)
          |(go_at_call 27;refine (za HCh _).mono ?_;rintro e wq ⟨rfl,hwq⟩;obtain rfl:=hwq.symm;clear hwq))
         go_region_held3 (fun _=>True) (first |exact trivial |go_keep) (first |(go_at_call 28;refine (HEn _ (by first |exact zd.refl _ _ |exact (zd.refl _ _).drew |exact (zd.refl _ _).drewN _)).mono ?_;rintro e9 w2 ⟨rfl,hO2⟩;have HK4:=zb ((za HK3).trans hO2);have HOw2:=zb (zk (za HOw1) hO2 (fun _ _ f=>f));clear hO2))
         clear HOw1 HOw HK3 HK2
         go_wp2_with fail
         exact ⟨⟨m+1,0,by go_num,rfl,by omega,by omega,by omega,HK4,.inl ⟨rfl,za HNx2,za HOw2⟩⟩,by simp [intOf];omega⟩
       ·have hcf:Kc.isCharB c=false:=by simpa using hch
        rw [hcf,Bool.false_and] at HDf
        have HNx2:=zb (za HNx (za HDf))
        have HCh:Hid (∀ V,Calls Tryz.prog 27 #[.int .i64 c] V fun x w'=>x = .returned (.bool false)∧w'=V):=fun V=>by have:=Zr c V;rw [hcf] at this;exact this
        clear HFit HNx HDf HNo hch hcf
        go_wp2_with (first
         |(go_at_call 49;refine (za HVa).mono ?_;rintro e9 w1 ⟨rfl,hO1⟩;have HK3:=zb ((za HK2).trans hO1);have HOw1:=zb (zk (za HOw) hO1 (fun _ _ f=>f));clear hO1)
         |(go_at_call 27;refine (za HCh _).mono ?_;rintro e wq ⟨rfl,hwq⟩;obtain rfl:=hwq.symm;clear hwq))
        clear HOw HK2
        go_quiet (fail)
        go_wp2_with fail
        exact ⟨⟨m+1,0,by go_num,rfl,by omega,by omega,by omega,zb ((za HK3).drewN _),.inl ⟨rfl,za HNx2,za HOw1⟩⟩,by simp [intOf];omega⟩
      ·have HX:Hid (Ref.oneF s p=none)∧Hid (wr.ownsRow w.heap.size 3 1 (.slice xa xn xc) acc.length (xK (acc.map Prod.fst))):=by
        rcases za HI with ⟨_,h1,h2⟩ |⟨h0,_⟩
        ·exact ⟨Kc.none_of h1 (.inr (by omega)),h2⟩
        ·omega
       obtain ⟨HX,HOw⟩:=HX
       have hw1:IntKind.i64.wrap ((p:Int)+(m:Int))=(p:Int)+(m:Int):=jV _ (by omega) (by omega)
       have hb3:¬(p:Int)+(m:Int)≤(s.size:Int):=by omega
       have hb4:(m:Int)≤4:=by omega
       obtain ⟨f',rfl⟩:∃ f',f=f'+1:=⟨f-1,by have:=za HE0;omega⟩
       have hR:R=(acc,(p:Int)):=by rw [za HR,Ref.jm hlt (za HX)]
       subst hR
       clear HI HE0 HF HR HX
       go_wp2_with fail
       go_ret2
       exact ⟨_,rfl,za HOw,za HK2⟩
     ·have HX:Hid (Ref.oneF s p=none)∧Hid (wr.ownsRow w.heap.size 3 1 (.slice xa xn xc) acc.length (xK (acc.map Prod.fst))):=by
       rcases za HI with ⟨_,h1,h2⟩ |⟨h0,_⟩
       ·exact ⟨Kc.none_of h1 (.inl (by omega)),h2⟩
       ·omega
      obtain ⟨HX,HOw⟩:=HX
      obtain rfl:m=5:=by omega
      obtain ⟨f',rfl⟩:∃ f',f=f'+1:=⟨f-1,by have:=za HE0;omega⟩
      have hR:R=(acc,(p:Int)):=by rw [za HR,Ref.jm hlt (za HX)]
      subst hR
      clear HI HE0 HF HR HX
      go_wp2_with fail
      go_ret2
      exact ⟨_,rfl,za HOw,za HK2⟩
    ·obtain ⟨c,HX,HOw⟩:∃ c,Hid (Ref.oneF s p=some (z,c))∧Hid (wr.ownsRow w.heap.size 3 1 (.slice xa xn xc) (acc.length+1) (xK ((acc++[(c,(p:Int))]).map Prod.fst))):=by
      rcases za HI with ⟨h0,_⟩ |⟨_,c,h1,h2⟩
      ·omega
      ·exact ⟨c,h1,h2⟩
     have hzz:¬(z:Int)=0:=by omega
     obtain ⟨f',rfl⟩:∃ f',f=f'+1:=⟨f-1,by have:=za HE0;omega⟩
     obtain ⟨_,hsz,_⟩:=Ref.q9 (za HX)
     have HR2:Hid (R=Ref.xm s f' (p+z) (acc++[(c,(p:Int))])):=by show R=_;rw [za HR,Ref.jG hlt (za HX)]
     have hw1:IntKind.i64.wrap ((p:Int)+(z:Int))=(p:Int)+(z:Int):=jV _ (by omega) (by omega)
     have hz0:0<z:=by omega
     clear HI HR HX
     have hw2:IntKind.i64.wrap ((p:Int)+(m:Int))=(p:Int)+(m:Int):=jV _ (by omega) (by omega)
     by_cases hm4:(m:Int)≤4<;>by_cases hb3:(p:Int)+(m:Int)≤(s.size:Int)
     all_goals go_wp2_with fail
     all_goals exact ⟨⟨p+z,f',acc++[(c,(p:Int))],by go_num,by omega,by simp;omega,by have:=za HF;show _<_;omega,HR2,HK2,by have h:=za HOw;show World.ownsRow _ _ _ _ _ _ _;rw [List.length_append];exact h⟩,by simp [intOf];omega⟩
  ·obtain rfl:p=s.size:=by omega
   have HX:Hid (R=(acc,-1)):=by
    show R=_
    rw [za HR]
    cases f with
    |zero=>rfl
    |succ f=>simp [Ref.xm]
   have hR:=za HX
   subst hR
   clear HX HR
   go_wp2_with fail
   go_ret2
   exact ⟨_,rfl,za HO,za HK⟩
namespace Kc
def textB (s:ByteArray):Bool:=decide ((Ref.zJ s).2<0) && decide ((s.size:Int)≤400)
end Kc
theorem own_n {w:World}{base:Nat}{e:TypeId}{v:Value}{n size:Nat}{xs:List Value}(h:w.ownsRow base e size v n xs):∃ a c,v = .slice a n c:=by
 obtain ⟨_,⟨rfl,rfl⟩ |⟨g,cap,_,rfl,_⟩⟩:=h
 ·exact ⟨_,_,rfl⟩
 ·exact ⟨_,_,rfl⟩
theorem QA (s:ByteArray)(w:World)(hs:s.size≤1099511627776) :
  Calls Tryz.prog 35 #[.string s] w fun x w'=>x = .returned (.tuple #[.int .i64 (Ref.zJ s).1.length,.bool (Kc.textB s)])∧zd (fun _=>False) w w':=by
 have HC:=zb (JP s w hs)
 have HB:Hid (Kc.textB s=(decide ((Ref.zJ s).2<0) && decide ((s.size:Int)≤400))):=rfl
 generalize Kc.textB s=b at HB ⊢
 generalize Ref.zJ s=R at HB HC ⊢
 obtain ⟨l,z⟩:=R
 have hb:=za HB
 go_enter Tryz.func35,Tryz.ntmps35
 by_cases h1:z<0<;>by_cases h2:(s.size:Int)≤400
 all_goals simp only [h1,h2,decide_true,decide_false,Bool.and_true,Bool.and_false] at hb
 all_goals subst hb
 all_goals go_wp2_with (go_at_call 17;refine (za HC).mono ?_;rintro e9 w1 ⟨v,rfl,hO,hK⟩;have hK:=zb hK;obtain ⟨xa,xc,rfl⟩:=own_n hO;clear hO)
 all_goals go_ret2
 all_goals first |exact ⟨rfl,za hK⟩ |exact ⟨by simp [h2],za hK⟩
namespace Kc
def Tells (n:Nat)(X:Nat→Prop)(ms:List Bool):Prop:=ms.length=n+1∧∀ j,ms[j]?=some true↔j≤n∧X j
theorem mark_next {ms:List Bool}{js:List Nat}{m:Nat}(hm:m<js.length)(hq:js[m]<ms.length)(h:∀ j:Nat,ms[j]?=some true↔j∈js.take m)(j:Nat):(ms.set js[m] true)[j]?=some true↔j∈js.take (m+1):=by
 rw [List.take_succ_eq_append_getElem hm,List.mem_append,List.mem_singleton]
 by_cases e:js[m]=j
 ·subst e
  rw [List.getElem?_set_self hq]
  simp
 ·rw [List.getElem?_set_ne e,h j]
  exact ⟨.inl,fun h=>h.elim id (fun f=>(e f.symm).elim)⟩
theorem rising_len:∀ (js:List Nat) (lo n:Nat),js.Pairwise (· < ·)→(∀ j∈js,lo≤j∧j≤n)→js.length≤n+1-lo
 | [],_,_,_,_=>Nat.zero_le _
 |j :: r,lo,n,h,hb=>by
  have h1:=List.pairwise_cons.1 h
  have h2:=hb j (by simp)
  have h3:=rising_len r (j+1) n h1.2 (fun x hx=>⟨h1.1 x hx,(hb x (List.mem_cons_of_mem _ hx)).2⟩)
  simp only [List.length_cons]
  omega
end Kc
theorem xZ.drewN {w:World}{g:Nat}{bs:List Bool}(h:xZ w g bs)(n:Nat):xZ (w.drewN n) g bs:=h.keep (P:=fun _=>False) ((zd.refl _ _).drewN n) (fun f=>f)
theorem Vo (g pb st i:Nat)(s:ByteArray)(N:List Sm.Stp)(W:Int→Bool)(A:Nat→Prop)(w:World)(a:Nat→Addr)(hS:Start w a)(hs:s.size≤400)(hc:(Ref.zJ s).2<0)(hg:w.cell? ⟨g,1,none⟩=some (.pointer (some ⟨pb,0,none⟩)))(hP:yM w A pb N st W)(hi:i≤(Pro.letM s (s.size+1) 0).length) :
  Calls Tryz.prog 38 #[.pointer (some ⟨g,0,none⟩),.string s,.int .i64 (i:Nat),.int .i64 ((Pro.letM s (s.size+1) 0).length:Nat)] w fun x w'=>∃ ob ms,x = .returned (.tuple #[.slice (some ⟨ob,0,none⟩) ((Pro.letM s (s.size+1) 0).length+1) ((Pro.letM s (s.size+1) 0).length+1),.bool true])∧xZ w' ob ms∧Kc.Tells (Pro.letM s (s.size+1) 0).length (Prg.GoP W (Pro.letM s (s.size+1) 0) N st i 0) ms∧w.heap.size≤ob∧ob<w'.heap.size∧zd (fun _=>False) w w':=by
 have HL:=zb (Qm g pb st i s N W A w a hS hs hc hg hP hi)
 have hl:(Pro.letM s (s.size+1) 0).length≤400:=by have h:=Ref.jk s;rw [(Prg.jO.of s).len] at h;omega
 have HLe:Hid (∀ j,Prg.GoP W (Pro.letM s (s.size+1) 0) N st i 0 j→i≤j):=fun j h=>Sm.Goes.le h
 generalize hX:Prg.GoP W (Pro.letM s (s.size+1) 0) N st i 0=X at *
 generalize Pro.letM s (s.size+1) 0=L at *
 generalize L.length=n at *
 clear hS hc hg hP hX hs
 have hmk:∀ w:World,_:=vI (n+1) (by omega)
 rw [show (((n+1:Nat)):Int)=(n:Int)+1 by omega] at hmk
 have hw1:IntKind.i64.wrap ((n:Int)+1)=(n:Int)+1:=jV _ (by omega) (by omega)
 go_enter Tryz.func38,Tryz.ntmps38
 go_wp2_with (go_at_call 18;refine (za HL).mono ?_;rintro e w1 ⟨sv,js,rfl,hr,he,hO1⟩;have HV:=zb (y9.of hr);have HE:=zb he;have HO1:=zb hO1;obtain ⟨va,vc,rfl⟩:=own_n hr;clear hr he hO1;have HO0:Hid (zd (fun _=>False) w1 (w1.alloc (.cells (madeCells #[.bool false] (n+1)) 4))):=(zd.refl _ _).alloc _;have HB0:Hid (xZ (w1.alloc (.cells (madeCells #[.bool false] (n+1)) 4)) w1.heap.size (List.replicate (n+1) false)):=xZ.made w1 (n+1))
 go_loopw [14] (fun k wr=>∃ (m:Nat) (ms:List Bool),k = .int .i64 m∧m≤js.length∧ms.length=n+1∧Hid (zd (fun _=>False) w1 wr)∧Hid (xZ wr w1.heap.size ms)∧Hid (w1.heap.size<wr.heap.size)∧Hid (∀ j:Nat,ms[j]?=some true↔j∈js.take m)) (fun k _=>js.length-(intOf k).toNat)
 case atStart=>exact ⟨0,_,rfl,by omega,by simp,HO0,HB0,by show _<_;simp,fun j=>by simp [List.getElem?_replicate]⟩
 case round=>
  clear HO0 HB0 HL hmk
  obtain ⟨m,ms,rfl,hm,hml,HK,HB,HZ,HM⟩:=hrel
  by_cases hlt:m<js.length
  ·obtain ⟨gl,rfl,hcs⟩:∃ gl,va=some ⟨gl,0,none⟩∧∀ (j:Nat) x,js[j]?=some x→wr.cell? ⟨gl,j,none⟩=some (.int .i64 (x:Nat)):=by
    rcases (za HV).keep (za HK) with ⟨_,h⟩ |⟨gl,cap,h1,_,h2⟩
    ·rw [h] at hlt;simp at hlt
    ·simp at h1;exact ⟨gl,h1.1,h2⟩
   have hq:=(za HE).2 js[m]
   have hq0:=hq.1 (List.getElem_mem hlt)
   have hqi:=za HLe _ hq0.2
   have HN:=zb (Kc.mark_next hlt (by omega) (za HM))
   have hc1:=hcs m _ (List.getElem?_eq_getElem hlt)
   have hqn:=hq0.1
   have hml2:js.length≤401:=by have:=Kc.rising_len js 0 n (za HE).1 (fun x hx=>⟨by omega,((za HE).2 x).1 hx |>.1⟩);omega
   have b1:(0:Int)≤(m:Int):=by omega
   have b2:(m:Int)<(js.length:Int):=by omega
   have HPr:Hid (∀ m',m=m'+1→∃ q':Nat,q'<js[m]∧wr.cell? ⟨gl,m',none⟩=some (.int .i64 (q':Nat))):=by
    rintro m' rfl
    exact ⟨js[m'],List.pairwise_iff_getElem.1 (za HE).1 m' (m'+1) (by omega) hlt (by omega),hcs m' _ (List.getElem?_eq_getElem (by omega))⟩
   clear hq hq0 hcs HM
   generalize js[m]=q at *
   have hqm:q<ms.length:=by omega
   have d1:=(za HB).c q _ (List.getElem?_eq_getElem hqm)
   have d2:=(za HB).f q _ (List.getElem?_eq_getElem hqm)
   have c1:decide (q<i)=false:=by simp;omega
   have c2:decide (n<q)=false:=by simp;omega
   have b3:(0:Int)≤(q:Int):=by omega
   have b4:(q:Int)<(n:Int)+1:=by omega
   by_cases hm0:(0:Int)<(m:Int)
   ·obtain ⟨m',hm'⟩:∃ m',m=m'+1:=⟨m-1,by omega⟩
    obtain ⟨q',hq',hc2⟩:=za HPr m' hm'
    have c3:decide (q≤q')=false:=by simp;omega
    have c4:decide (0<m)=true:=by simp;omega
    have hw2:IntKind.i64.wrap ((m:Int)-1)=(m':Int):=by rw [show (m:Int)-1=(m':Int) by omega];exact jV _ (by omega) (by omega)
    have b5:(0:Int)≤(m':Int):=by omega
    have b6:(m':Int)<(js.length:Int):=by omega
    clear HPr hm'
    go_wp2_with fail
    go_quiet (fail)
    go_wp2_with fail
    exact ⟨⟨m+1,ms.set q true,by go_num,by omega,by simpa using hml,(((za HK).drewN _).setCell (p:=⟨w1.heap.size,q,none⟩) (.inr (Nat.le_refl _)) _),((za HB).drewN _).set q true,by have:=za HZ;show _<_;simpa using this,za HN⟩,by simp [intOf];omega⟩
   ·clear HPr
    have c4:decide (0<m)=false:=by simp;omega
    go_wp2_with fail
    go_quiet (fail)
    go_wp2_with fail
    exact ⟨⟨m+1,ms.set q true,by go_num,by omega,by simpa using hml,(((za HK).drewN _).setCell (p:=⟨w1.heap.size,q,none⟩) (.inr (Nat.le_refl _)) _),((za HB).drewN _).set q true,by have:=za HZ;show _<_;simpa using this,za HN⟩,by simp [intOf];omega⟩
  ·obtain rfl:m=js.length:=by omega
   go_wp2_with fail
   go_ret2
   refine ⟨_,ms,rfl,za HB,⟨hml,fun j=>?_⟩,(za HO1).size,za HZ,(za HO1).trans (za HK)⟩
   rw [za HM j,List.take_length]
   exact (za HE).2 j
theorem Tryz.infoKcB:(Tryz.prog.info? 56).map (fun i=>(i.zero,i.size,i.bytes))=some (some (.slice none 0 0),1,24):=by kernel_rfl
def ZN (n:Nat)(obs:List Nat):List Value:=obs.map fun ob=>Value.slice (some ⟨ob,0,none⟩) (n+1) (n+1)
structure Tb (w:World)(base:Nat)(v:Value)(n m:Nat)(X:Nat→Nat→Prop)(obs:List Nat):Prop where
 len:obs.length=m
 row:w.ownsRow base 56 1 v m (ZN n obs)
 sub:∀ (i ob:Nat),obs[i]?=some ob→base≤ob∧ob<w.heap.size∧v.ownBlock≠some ob∧∃ ms,xZ w ob ms∧Kc.Tells n (X i) ms
theorem Tb.keep {w w':World}{base n m:Nat}{v:Value}{X:Nat→Nat→Prop}{obs:List Nat}(h:Tb w base v n m X obs)(k:zd (fun _=>False) w w'):Tb w' base v n m X obs:=
 ⟨h.len,zk h.row k (fun _ _ f=>f),fun i ob hi=>by
  obtain ⟨h1,h2,h3,ms,h4,h5⟩:=h.sub i ob hi
  exact ⟨h1,by have:=k.size;omega,h3,ms,h4.keep k (fun f=>f),h5⟩⟩
theorem Tb.push {w w':World}{base n m ob:Nat}{v v':Value}{X:Nat→Nat→Prop}{obs:List Nat}{ms:List Bool}(h:Tb w base v n m X obs)(hb:xZ w ob ms)(ht:Kc.Tells n (X m) ms)(h1:base≤ob)(h2:ob<w.heap.size)(h3:v.ownBlock≠some ob)(hg:w.grownBy w' v.ownBlock)(hr:w'.ownsRow base 56 1 v' (m+1) (ZN n obs++[.slice (some ⟨ob,0,none⟩) (n+1) (n+1)]))(hs:∀ k,v'.ownBlock=some k→v.ownBlock=some k∨w.heap.size≤k):Tb w' base v' n (m+1) X (obs++[ob]):=by
 have k:=zd.ofGrown hg
 have key:∀ b ms,b<w.heap.size→v.ownBlock≠some b→xZ w b ms→b<w'.heap.size∧v'.ownBlock≠some b∧xZ w' b ms:=fun b ms q1 q2 q3=>⟨by have:=k.size;omega,fun e=>(hs b e).elim q2 (fun f=>by omega),q3.keep k q2⟩
 refine ⟨by simp [h.len],by unfold ZN at *;rw [List.map_append];exact hr,fun i b hi=>?_⟩
 by_cases e:i<obs.length
 ·rw [List.getElem?_append_left e] at hi
  obtain ⟨q1,q2,q3,ms',q4,q5⟩:=h.sub i b hi
  obtain ⟨z1,z2,z3⟩:=key b ms' q2 q3 q4
  exact ⟨q1,z1,z2,ms',z3,q5⟩
 ·rw [List.getElem?_append_right (by omega)] at hi
  obtain e2:i=m:=by
   have:=(List.getElem?_eq_some_iff.1 hi).1
   simp at this
   have:=h.len
   omega
  subst e2
  rw [h.len,Nat.sub_self] at hi
  simp at hi
  subst hi
  obtain ⟨z1,z2,z3⟩:=key ob ms h2 h3 hb
  exact ⟨h1,z1,z2,ms,z3,ht⟩
theorem kall_any (g pb st:Nat)(s:ByteArray)(N:List Sm.Stp)(W:Int→Bool)(A:Nat→Prop)(w:World)(a:Nat→Addr)(hS:Start w a)(hs:s.size≤400)(hc:(Ref.zJ s).2<0)(hg:w.cell? ⟨g,1,none⟩=some (.pointer (some ⟨pb,0,none⟩)))(hP:yM w A pb N st W) :
  Calls Tryz.prog 42 #[.pointer (some ⟨g,0,none⟩),.string s,.int .i64 ((Pro.letM s (s.size+1) 0).length:Nat)] w fun x w'=>∃ v obs,x = .returned (.tuple #[v,.bool true])∧Tb w' w.heap.size v (Pro.letM s (s.size+1) 0).length ((Pro.letM s (s.size+1) 0).length+1) (fun i=>Prg.GoP W (Pro.letM s (s.size+1) 0) N st i 0) obs∧zd (fun _=>False) w w':=by
 obtain ⟨i0,hi0,hz0,hz1,hz2⟩:=info_parts Tryz.infoKcB
 have HE:Hid (∀ V i,zd (fun _=>False) w V→i≤(Pro.letM s (s.size+1) 0).length→_):=fun V i hV hi=>Vo g pb st i s N W A V a (hS.keep hV) hs hc (zf hV _ _ hg (fun f=>f)) (hP.keep hV (fun _ _ f=>f)) hi
 have hl:(Pro.letM s (s.size+1) 0).length≤400:=by have h:=Ref.jk s;rw [(Prg.jO.of s).len] at h;omega
 generalize hX:(fun i=>Prg.GoP W (Pro.letM s (s.size+1) 0) N st i 0)=X at *
 have HE2:Hid (∀ V i,zd (fun _=>False) w V→i≤(Pro.letM s (s.size+1) 0).length→Calls Tryz.prog 38 #[.pointer (some ⟨g,0,none⟩),.string s,.int .i64 (i:Nat),.int .i64 ((Pro.letM s (s.size+1) 0).length:Nat)] V fun x w'=>∃ ob ms,x = .returned (.tuple #[.slice (some ⟨ob,0,none⟩) ((Pro.letM s (s.size+1) 0).length+1) ((Pro.letM s (s.size+1) 0).length+1),.bool true])∧xZ w' ob ms∧Kc.Tells (Pro.letM s (s.size+1) 0).length (X i) ms∧V.heap.size≤ob∧ob<w'.heap.size∧zd (fun _=>False) V w'):=by subst hX;exact za HE
 clear HE hX
 generalize (Pro.letM s (s.size+1) 0).length=n at *
 clear hS hc hg hP hs
 go_enter Tryz.func42,Tryz.ntmps42
 go_wp2_with fail
 go_loopw [8,9] (fun ov iv wr=>∃ (i:Nat) (obs:List Nat),iv = .int .i64 i∧i≤n+1∧Hid (Tb wr w.heap.size ov n i X obs)∧Hid (zd (fun _=>False) w wr)) (fun _ iv _=>n+1-(intOf iv).toNat)
 case atStart=>exact ⟨0,[],rfl,by omega,⟨rfl,World.ownsRow_nil _ _ _ _,fun i ob h=>by simp at h⟩,zd.refl _ _⟩
 case round=>
  obtain ⟨i,obs,rfl,hi,HT,HK⟩:=hrel
  obtain ⟨xa,xc,rfl⟩:=own_n (za HT).row
  by_cases hlt:i≤n
  ·have b1:(i:Int)≤(n:Int):=by omega
   have HC:=zb (za HE2 wr i (za HK) hlt)
   clear HE2
   go_wp2_with (first
    |(go_at_call 38;refine (za HC).mono ?_;rintro e w2 ⟨ob,ms,rfl,hb,ht,ho1,ho2,hO2⟩;have HB:=zb hb;have HTe:=zb ht;have HO2:=zb hO2;have HT2:=zb ((za HT).keep hO2);have HK2:=zb ((za HK).trans hO2);clear hb ht hO2)
    |(at_builtin;refine za ?_))
   refine zb ?_
   have hz:=(za HK).size
   have hz2':=(za HK2).size
   have hnb:(Value.slice xa i xc).ownBlock≠some ob:=fun e=>by have:=(zg (za HT).row ob e).2;omega
   refine xQ _ rfl _ _ 34 rfl w.heap.size 56 i0 (.slice none 0 0) 1 24 Tryz.underlying34 hi0 hz0 hz1 hz2 rfl (by decide) _ _ _ rfl (World.ownsRow.alloc (za HT2).row _) _ 1 1 [.slice (some ⟨ob,0,none⟩) (n+1) (n+1)] rfl rfl (cell_one_new _ _ _) (fun x hx=>by simp at hx;subst hx;rfl) (by unfold maxLen;omega) (by omega) (by simp;omega) ?_
   intro v' w4 hown' hgrow hsep
   have HT4:Hid (Tb w4 w.heap.size v' n (i+1) X (obs++[ob])):=by
    refine Tb.push (w:=w2.alloc _) ((za HT2).keep ((zd.refl _ _).alloc _)) ((za HB).keep (P:=fun _=>False) ((zd.refl _ _).alloc _) (fun f=>f)) (za HTe) (by omega) (by simp;omega) hnb hgrow hown' hsep
   have HK4:Hid (zd (fun _=>False) w w4):=((za HK2).alloc _).grown hgrow (fun j hj=>Or.inr (zg (za HT2).row j hj).1)
   clear hown' hgrow hsep HT2 HT HK HK2 HB HTe HO2 HC hnb
   go_wp2_with fail
   exact ⟨⟨i+1,obs++[ob],by go_num,by omega,HT4,HK4⟩,by simp [intOf];omega⟩
  ·obtain rfl:i=n+1:=by omega
   have b1:¬((n+1:Nat):Int)≤(n:Int):=by omega
   clear HE2
   go_wp2_with fail
   go_ret2
   first |exact ⟨_,obs,rfl,za HT,za HK⟩ |exact ⟨_,rfl,⟨obs,za HT⟩,za HK⟩
open Sm (Stp Tree capT)
structure One (w0 wr:World)(a:Nat→Addr)(A:Nat→Prop)(g pb:Nat)(N:List Stp)(st:Nat)(W:Int→Bool)(cs:List Int)(z:Int)(F:Fd):Prop where
 f:Fdr wr A F.O F.D F.fb F.sb pb F.mb F.most N st W cs F.es F.sv
 c:CompX wr A g pb N st W cs z
 o:∀ k,F.O k→w0.heap.size≤k
 bg:Begun wr a w0.heap.size
 only:zd (fun _=>False) w0 wr
theorem One.young {w0 wr w':World}{a:Nat→Addr}{A:Nat→Prop}{g pb st:Nat}{N:List Stp}{W:Int→Bool}{cs:List Int}{z:Int}{F:Fd}(h:One w0 wr a A g pb N st W cs z F)(k:zd (fun _=>False) wr w'):One w0 w' a A g pb N st W cs z F:=
 ⟨h.f.young k,h.c.keep k (fun _ _ f=>f),h.o,h.bg.keep k (fun _ f=>f.elim),h.only.trans k⟩
theorem One.step {w0 wr w':World}{a:Nat→Addr}{A:Nat→Prop}{g pb st:Nat}{N:List Stp}{W:Int→Bool}{cs:List Int}{z:Int}{F:Fd}{s:ByteArray}{x:Ending}(h:One w0 wr a A g pb N st W cs z F)(k:qz wr w' s A F.O F.D F.fb F.sb pb F.mb F.most N st W cs x) :
  ∃ (r:Bool) (e p:Int) (F':Fd),x = .returned (.tuple #[.bool r,.int .i64 e,.int .i64 p])∧jz s N st W r e p∧One w0 w' a A g pb N st W cs z F'∧F'.fb=F.fb∧F'.most=F.most∧(e=0→1≤F'.es.length):=by
 obtain ⟨r,e,p,O',D',es',sv',rfl,hA,hF,he,hO,hD,hK⟩:=k
 have hs:=h.only.size
 refine ⟨r,e,p,⟨O',D',F.fb,F.sb,F.mb,F.most,es',sv'⟩,rfl,hA,⟨hF,h.c.keep hK (fun q hA hq=>h.f.env.ao q hA hq),fun q hq=>?_,h.bg.keep hK h.o,h.only.laterO hK (fun i hi q=>by have:=h.o i q;omega)⟩,rfl,rfl,he⟩
 rcases hO q hq with q1 |q1
 ·exact h.o q q1
 ·omega
theorem Vp {s:ByteArray}{N:List Stp}{st:Nat}{W:Int→Bool}{r:Bool}{e p:Int}{A:Nat→Prop}{w:World}{pb:Nat}(h:jz s N st W r e p)(hP:yM w A pb N st W) :
  (Kc.textB s=false∧r=false∧(e=2∨e=1))∨(Kc.textB s=true∧s.size≤400∧(Ref.zJ s).2<0∧e=0∧p=0∧(r=true↔∃ i j,i≤(Pro.letM s (s.size+1) 0).length∧j≤(Pro.letM s (s.size+1) 0).length∧Prg.GoP W (Pro.letM s (s.size+1) 0) N st i 0 j)):=by
 rcases h with ⟨a1,a2,a3,a4⟩ |⟨a1,a2,a3,a4,a5⟩ |⟨a1,a2,a3,a4,a5⟩
 ·exact .inl ⟨by unfold Kc.textB;rw [decide_eq_false (p:=(s.size:Int)≤400) (by omega),Bool.and_false],a2,.inl a3⟩
 ·exact .inl ⟨by unfold Kc.textB;rw [decide_eq_false (p:=(Ref.zJ s).2<0) (by omega),Bool.false_and],a3,.inr a4⟩
 ·exact .inr ⟨by unfold Kc.textB;rw [decide_eq_true (p:=(Ref.zJ s).2<0) a2,decide_eq_true (p:=(s.size:Int)≤400) (by omega)];rfl,a1,a2,a3,a4,a5.trans (Fnd.found_iff hP.stl hP.fit)⟩
end
end Go.Proofs.YtfnkbmglodopkaaGreatDoor
