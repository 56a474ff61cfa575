/- The law's own encoding of characters: plain, against where characters begin. -/
import Derived.Test.YtcgleficedipkaaGreatDoorYLinALinF
namespace Go.Proofs.YtcgleficedipkaaGreatDoor
section
namespace Kc
open Ref (xS headK headN y7 badC xK oneF)
def Ka (n:Nat):Int:=if n=1 then 0 else if n=2 then 192 else if n=3 then 224 else 240
def contV (s:ByteArray)(p:Nat):Nat→Nat→Int→Int
 |0,_,c=>c
 |k+1,i,c=>contV s p k (i+1) (c*64+zd s (p+i)-128)
def valueV (s:ByteArray)(p n:Nat):Int:=contV s p (n-1) 1 (zd s p-Ka n)
def isCharB (c:Int):Bool:=decide (0≤c) && decide (c≤1114111) && (decide (c<55296) ||decide (57343<c))
def encI (c:Int):List Int:=if c<128 then [c] else if c<2048 then [192+c / 64,128+c % 64] else if c<65536 then [224+c / 4096,128+c / 64 % 64,128+c % 64] else [240+c / 262144,128+c / 4096 % 64,128+c / 64 % 64,128+c % 64]
def bytesI (s:ByteArray)(p:Nat):Nat→List Int
 |0=>[]
 |n+1=>zd s p :: bytesI s (p+1) n
theorem cont2 (s:ByteArray)(p:Nat)(c:Int):xS s p 1 1 c=if zd s (p+1)<128∨191<zd s (p+1) then none else some (c*64+zd s (p+1)-128):=rfl
theorem cont3 (s:ByteArray)(p:Nat)(c:Int):xS s p 2 1 c=if zd s (p+1)<128∨191<zd s (p+1) then none else if zd s (p+2)<128∨191<zd s (p+2) then none else some ((c*64+zd s (p+1)-128)*64+zd s (p+2)-128):=rfl
theorem cont4 (s:ByteArray)(p:Nat)(c:Int):xS s p 3 1 c=if zd s (p+1)<128∨191<zd s (p+1) then none else if zd s (p+2)<128∨191<zd s (p+2) then none else if zd s (p+3)<128∨191<zd s (p+3) then none else some (((c*64+zd s (p+1)-128)*64+zd s (p+2)-128)*64+zd s (p+3)-128):=rfl
theorem bytes1 (s:ByteArray)(p:Nat):bytesI s p 1=[zd s p]:=rfl
theorem bytes2 (s:ByteArray)(p:Nat):bytesI s p 2=[zd s p,zd s (p+1)]:=rfl
theorem bytes3 (s:ByteArray)(p:Nat):bytesI s p 3=[zd s p,zd s (p+1),zd s (p+2)]:=rfl
theorem bytes4 (s:ByteArray)(p:Nat):bytesI s p 4=[zd s p,zd s (p+1),zd s (p+2),zd s (p+3)]:=rfl
theorem val1 (s:ByteArray)(p:Nat):valueV s p 1=zd s p:=by show zd s p-Ka 1=_;simp [Ka]
theorem val2 (s:ByteArray)(p:Nat):valueV s p 2=(zd s p-192)*64+zd s (p+1)-128:=rfl
theorem val3 (s:ByteArray)(p:Nat):valueV s p 3=((zd s p-224)*64+zd s (p+1)-128)*64+zd s (p+2)-128:=rfl
theorem val4 (s:ByteArray)(p:Nat):valueV s p 4=(((zd s p-240)*64+zd s (p+1)-128)*64+zd s (p+2)-128)*64+zd s (p+3)-128:=rfl
theorem one_of {s:ByteArray}{p n:Nat}(h1:1≤n)(h4:n≤4)(hp:p+n≤s.size)(hc:isCharB (valueV s p n)=true)(he:encI (valueV s p n)=bytesI s p n):oneF s p=some (n,valueV s p n):=by
 have b0:=yD s p
 simp only [isCharB,Bool.and_eq_true,Bool.or_eq_true,decide_eq_true_eq] at hc
 obtain ⟨⟨c0,c1⟩,c2⟩:=hc
 have key:headK (zd s p)=n∧xS s p (n-1) 1 (y7 (zd s p))=some (valueV s p n)∧badC n (valueV s p n)=false:=by
  rcases (by omega:n=1∨n=2∨n=3∨n=4) with rfl |rfl |rfl |rfl
  ·rw [val1] at *
   rw [bytes1] at he
   have e:zd s p<128:=by
    unfold encI at he
    split at he
    ·assumption
    ·split at he
     ·simp at he
     ·split at he<;>simp at he
   have hN:headN (zd s p)=1:=by unfold headN;rw [if_pos e]
   have hC:y7 (zd s p)=zd s p:=by unfold y7;rw [if_pos e]
   refine ⟨by simp [headK,hN],by rw [hC];rfl,?_⟩
   simp [badC,xK]
   omega
  ·rw [val2,bytes2] at he
   rw [val2] at c0 c1 c2 ⊢
   generalize hg:(zd s p-192)*64+zd s (p+1)-128=c at *
   have hr:¬c<128∧c<2048:=by
    unfold encI at he
    split at he
    ·simp at he
    ·split at he
     ·exact ⟨by assumption,by assumption⟩
     ·split at he<;>simp at he
   unfold encI at he
   rw [if_neg hr.1,if_pos hr.2] at he
   simp at he
   obtain ⟨e1,e2⟩:=he
   have hN:headN (zd s p)=2:=by unfold headN;rw [if_neg (by omega),if_pos (by omega)]
   have hC:y7 (zd s p)=zd s p-192:=by unfold y7;rw [if_neg (by omega),if_pos (by omega)]
   refine ⟨by simp [headK,hN],?_,?_⟩
   ·show xS s p 1 1 _=_
    rw [hC,cont2,if_neg (by omega),hg]
   ·simp [badC,xK]
    omega
  ·rw [val3,bytes3] at he
   rw [val3] at c0 c1 c2 ⊢
   generalize hg:((zd s p-224)*64+zd s (p+1)-128)*64+zd s (p+2)-128=c at *
   have hr:¬c<128∧¬c<2048∧c<65536:=by
    unfold encI at he
    split at he
    ·simp at he
    ·split at he
     ·simp at he
     ·split at he
      ·exact ⟨by assumption,by assumption,by assumption⟩
      ·simp at he
   unfold encI at he
   rw [if_neg hr.1,if_neg hr.2.1,if_pos hr.2.2] at he
   simp at he
   obtain ⟨e1,e2,e3⟩:=he
   have hN:headN (zd s p)=3:=by unfold headN;rw [if_neg (by omega),if_neg (by omega),if_pos (by omega)]
   have hC:y7 (zd s p)=zd s p-224:=by unfold y7;rw [if_neg (by omega),if_neg (by omega),if_pos (by omega)]
   refine ⟨by simp [headK,hN],?_,?_⟩
   ·show xS s p 2 1 _=_
    rw [hC,cont3,if_neg (by omega),if_neg (by omega),hg]
   ·simp [badC,xK]
    omega
  ·rw [val4,bytes4] at he
   rw [val4] at c0 c1 c2 ⊢
   generalize hg:(((zd s p-240)*64+zd s (p+1)-128)*64+zd s (p+2)-128)*64+zd s (p+3)-128=c at *
   have hr:¬c<128∧¬c<2048∧¬c<65536:=by
    unfold encI at he
    split at he
    ·simp at he
    ·split at he
     ·simp at he
     ·split at he
      ·simp at he
      ·exact ⟨by assumption,by assumption,by assumption⟩
   unfold encI at he
   rw [if_neg hr.1,if_neg hr.2.1,if_neg hr.2.2] at he
   simp at he
   obtain ⟨e1,e2,e3,e4⟩:=he
   have hN:headN (zd s p)=4:=by unfold headN;rw [if_neg (by omega),if_neg (by omega),if_neg (by omega),if_pos (by omega)]
   have hC:y7 (zd s p)=zd s p-240:=by unfold y7;rw [if_neg (by omega),if_neg (by omega),if_neg (by omega),if_pos (by omega)]
   refine ⟨by simp [headK,hN],?_,?_⟩
   ·show xS s p 3 1 _=_
    rw [hC,cont4,if_neg (by omega),if_neg (by omega),if_neg (by omega),hg]
   ·simp [badC,xK]
    omega
 unfold oneF
 rw [key.1,if_neg (by omega),key.2.1]
 simp [key.2.2]
theorem of_one {s:ByteArray}{p n:Nat}{c:Int}(h:oneF s p=some (n,c)):1≤n∧n≤4∧p+n≤s.size∧valueV s p n=c∧isCharB c=true∧encI c=bytesI s p n:=by
 obtain ⟨h1,h2,h3,h4,c0,c1,c2⟩:=Ref.qC h
 refine ⟨h1,h3,h2,?_⟩
 unfold oneF at h
 rw [←h4,if_neg (by omega)] at h
 split at h
 ·cases h
 ·rename_i d hd
  split at h
  ·cases h
  ·rename_i hbad
   simp only [Option.some.injEq,Prod.mk.injEq,true_and] at h
   subst h
   have hch:isCharB d=true:=by simp [isCharB];omega
   rcases (by omega:n=1∨n=2∨n=3∨n=4) with rfl |rfl |rfl |rfl
   ·have hlt:zd s p<128:=by
     unfold headK headN at h4
     (repeat' split at h4)<;>first |assumption |simp at h4
    have e:d=zd s p:=by
     have:y7 (zd s p)=zd s p:=by unfold y7;rw [if_pos hlt]
     rw [this] at hd
     exact (Option.some.inj hd).symm
    subst e
    refine ⟨val1 _ _,hch,?_⟩
    unfold encI
    rw [if_pos hlt]
    rfl
   ·have hr:192≤zd s p∧zd s p<224:=by
     unfold headK headN at h4
     (repeat' split at h4)<;>first |assumption |simp at h4
    have hC:y7 (zd s p)=zd s p-192:=by unfold y7;rw [if_neg (by omega),if_pos hr]
    have hd':xS s p 1 1 (y7 (zd s p))=some d:=hd
    rw [hC,cont2] at hd'
    split at hd'
    ·cases hd'
    ·rename_i q1
     have e:=Option.some.inj hd'
     simp [badC,xK] at hbad
     refine ⟨(val2 s p).trans e,hch,?_⟩
     rw [bytes2]
     unfold encI
     rw [if_neg (by omega),if_pos (by omega)]
     simp only [List.cons.injEq,and_true]
     omega
   ·have hr:224≤zd s p∧zd s p<240:=by
     unfold headK headN at h4
     (repeat' split at h4)<;>first |assumption |simp at h4
    have hC:y7 (zd s p)=zd s p-224:=by unfold y7;rw [if_neg (by omega),if_neg (by omega),if_pos hr]
    have hd':xS s p 2 1 (y7 (zd s p))=some d:=hd
    rw [hC,cont3] at hd'
    split at hd'
    ·cases hd'
    ·rename_i q1
     split at hd'
     ·cases hd'
     ·rename_i q2
      have e:=Option.some.inj hd'
      simp [badC,xK] at hbad
      refine ⟨(val3 s p).trans e,hch,?_⟩
      rw [bytes3]
      unfold encI
      rw [if_neg (by omega),if_neg (by omega),if_pos (by omega)]
      simp only [List.cons.injEq,and_true]
      omega
   ·have hr:240≤zd s p∧zd s p<248:=by
     unfold headK headN at h4
     (repeat' split at h4)<;>first |assumption |simp at h4
    have hC:y7 (zd s p)=zd s p-240:=by unfold y7;rw [if_neg (by omega),if_neg (by omega),if_neg (by omega),if_pos hr]
    have hd':xS s p 3 1 (y7 (zd s p))=some d:=hd
    rw [hC,cont4] at hd'
    split at hd'
    ·cases hd'
    ·rename_i q1
     split at hd'
     ·cases hd'
     ·rename_i q2
      split at hd'
      ·cases hd'
      ·rename_i q3
       have e:=Option.some.inj hd'
       simp [badC,xK] at hbad
       refine ⟨(val4 s p).trans e,hch,?_⟩
       rw [bytes4]
       unfold encI
       rw [if_neg (by omega),if_neg (by omega),if_neg (by omega)]
       simp only [List.cons.injEq,and_true]
       omega
end Kc
end
section
open Go.RowKit
set_option maxHeartbeats 4000000
theorem Xc (c:Int)(w:World):Calls Tryz.prog 43 #[.int .i64 c] w fun x w'=>x = .returned (.bool (Kc.isCharB c))∧w'=w:=by
 by_cases h0:0≤c
 ·by_cases h1:c≤1114111
  ·by_cases h2:c<55296
   ·have HT:Hid (Kc.isCharB c=true):=by show _=_;unfold Kc.isCharB;rw [decide_eq_true h0,decide_eq_true h1,decide_eq_true h2];simp
    generalize Kc.isCharB c=T at HT ⊢
    go_enter Tryz.func43,Tryz.ntmps43
    go_wp2_with fail
    go_ret
    exact ⟨by rw [zb HT];rfl,rfl⟩
   ·have HT:Hid (Kc.isCharB c=decide (57343<c)):=by show _=_;unfold Kc.isCharB;rw [decide_eq_true h0,decide_eq_true h1,decide_eq_false h2];simp
    generalize Kc.isCharB c=T at HT ⊢
    go_enter Tryz.func43,Tryz.ntmps43
    go_wp2_with fail
    go_ret
    exact ⟨by rw [zb HT];rfl,rfl⟩
  ·have HT:Hid (Kc.isCharB c=false):=by show _=_;unfold Kc.isCharB;rw [decide_eq_true h0,decide_eq_false h1];simp
   generalize Kc.isCharB c=T at HT ⊢
   go_enter Tryz.func43,Tryz.ntmps43
   go_wp2_with fail
   go_ret
   exact ⟨by rw [zb HT];rfl,rfl⟩
 ·have HT:Hid (Kc.isCharB c=false):=by show _=_;unfold Kc.isCharB;rw [decide_eq_false h0];simp
  generalize Kc.isCharB c=T at HT ⊢
  go_enter Tryz.func43,Tryz.ntmps43
  go_wp2_with fail
  go_ret
  exact ⟨by rw [zb HT];rfl,rfl⟩
theorem jF (s:ByteArray)(k:Nat)(hk:k<s.size):∃ b:Int,zd s k=b∧0≤b∧b≤255∧∀ (i:Int) (w:World),i=(k:Int)→(Instr.index 9 (.string s) (.int .i64 i)).run Tryz.prog w = .ok (.int .u8 b) w:=
 ⟨zd s k,rfl,(yL s k).2 hk,yD s k,fun i w hi=>by rw [xZ s k hk];exact Kw s k hk i hi w⟩
theorem WJ (s:ByteArray)(p n:Nat)(w:World)(h1:1≤n)(h4:n≤4)(hp:p+n≤s.size)(hs:s.size<4611686018427387904) :
  Calls Tryz.prog 42 #[.string s,.int .i64 (p:Nat),.int .i64 (n:Nat)] w fun x w'=>x = .returned (.int .i64 (Kc.valueV s p n))∧ze (fun _=>False) w w':=by
 obtain ⟨b0,e0,l0,u0,x0⟩:=jF s p (by omega)
 have hx0:=fun w=>x0 (p:Int) w rfl
 clear x0
 have HO:Hid (ze (fun _=>False) w (w.alloc (.cells #[.int .i64 0,.int .i64 192,.int .i64 224,.int .i64 240] 3))):=(ze.refl _ _).alloc _
 rcases (by omega:n=1∨n=2∨n=3∨n=4) with rfl |rfl |rfl |rfl
 ·have HT:Hid (Kc.valueV s p 1=b0):=by show _=_;rw [Kc.val1,e0]
  generalize Kc.valueV s p 1=T at HT ⊢
  clear e0
  go_enter Tryz.func42,Tryz.ntmps42
  go_wp2_with fail
  go_region
  go_wp2_with fail
  refine wp_loop_rounds 1 ?_
  rw [rounds_succ]
  go_wp2_with fail
  go_ret
  exact ⟨by rw [zb HT];rfl,by first |exact (zb HO).drew |exact (zb HO).drewN _ |exact zb HO⟩
 ·obtain ⟨b1,e1,l1,u1,x1⟩:=jF s (p+1) (by omega)
  have hx1:=fun w=>x1 ((p:Int)+1) w (by omega)
  clear x1
  have HT:Hid (Kc.valueV s p 2=(b0-192)*64+b1-128):=by show _=_;rw [Kc.val2,e0,e1]
  generalize Kc.valueV s p 2=T at HT ⊢
  clear e0 e1
  go_enter Tryz.func42,Tryz.ntmps42
  go_wp2_with fail
  go_region
  go_wp2_with fail
  refine wp_loop_rounds 2 ?_
  rw [rounds_succ]
  go_wp2_with fail
  rw [rounds_succ]
  go_wp2_with fail
  go_ret
  exact ⟨by rw [zb HT];rfl,by first |exact (zb HO).drew |exact (zb HO).drewN _ |exact zb HO⟩
 ·obtain ⟨b1,e1,l1,u1,x1⟩:=jF s (p+1) (by omega)
  have hx1:=fun w=>x1 ((p:Int)+1) w (by omega)
  clear x1
  obtain ⟨b2,e2,l2,u2,x2⟩:=jF s (p+2) (by omega)
  have hx2:=fun w=>x2 ((p:Int)+2) w (by omega)
  clear x2
  have HT:Hid (Kc.valueV s p 3=((b0-224)*64+b1-128)*64+b2-128):=by show _=_;rw [Kc.val3,e0,e1,e2]
  generalize Kc.valueV s p 3=T at HT ⊢
  clear e0 e1 e2
  go_enter Tryz.func42,Tryz.ntmps42
  go_wp2_with fail
  go_region
  go_wp2_with fail
  refine wp_loop_rounds 3 ?_
  rw [rounds_succ]
  go_wp2_with fail
  rw [rounds_succ]
  go_wp2_with fail
  rw [rounds_succ]
  go_wp2_with fail
  go_ret
  exact ⟨by rw [zb HT];rfl,by first |exact (zb HO).drew |exact (zb HO).drewN _ |exact zb HO⟩
 ·obtain ⟨b1,e1,l1,u1,x1⟩:=jF s (p+1) (by omega)
  have hx1:=fun w=>x1 ((p:Int)+1) w (by omega)
  clear x1
  obtain ⟨b2,e2,l2,u2,x2⟩:=jF s (p+2) (by omega)
  have hx2:=fun w=>x2 ((p:Int)+2) w (by omega)
  clear x2
  obtain ⟨b3,e3,l3,u3,x3⟩:=jF s (p+3) (by omega)
  have hx3:=fun w=>x3 ((p:Int)+3) w (by omega)
  clear x3
  have HT:Hid (Kc.valueV s p 4=(((b0-240)*64+b1-128)*64+b2-128)*64+b3-128):=by show _=_;rw [Kc.val4,e0,e1,e2,e3]
  generalize Kc.valueV s p 4=T at HT ⊢
  clear e0 e1 e2 e3
  go_enter Tryz.func42,Tryz.ntmps42
  go_wp2_with fail
  go_region
  go_wp2_with fail
  refine wp_loop_rounds 4 ?_
  rw [rounds_succ]
  go_wp2_with fail
  rw [rounds_succ]
  go_wp2_with fail
  rw [rounds_succ]
  go_wp2_with fail
  rw [rounds_succ]
  go_wp2_with fail
  go_ret
  exact ⟨by rw [zb HT];rfl,by first |exact (zb HO).drew |exact (zb HO).drewN _ |exact zb HO⟩
namespace Kc
def toB (xs:List Int):List UInt8:=xs.map (fun x=>UInt8.ofNat x.toNat)
def encS (c:Int):ByteArray:=⟨(toB (encI c)).toArray⟩
theorem toB_at {xs:List Int}(h:∀ x∈xs,0≤x∧x≤255)(j:Nat)(hj:j<xs.length):(((toB xs)[j]'(by simpa [toB] using hj)).toNat:Int)=xs[j]:=by
 have hx:=h xs[j] (List.getElem_mem hj)
 simp only [toB,List.getElem_map,UInt8.toNat_ofNat']
 omega
end Kc
theorem ZX (w:World)(xs:List Int)(n:Nat)(hn:n=xs.length)(h:∀ x∈xs,0≤x∧x≤255):(convert 204 9 (.slice (some ⟨w.heap.size,0,none⟩) n n)).run Tryz.prog (w.alloc (.cells (xs.map (fun x=>Value.int .u8 x)).toArray 5)) = .ok (.string ⟨(Kc.toB xs).toArray⟩) (w.alloc (.cells (xs.map (fun x=>Value.int .u8 x)).toArray 5)):=by
 subst hn
 have hl:(Kc.toB xs).length=xs.length:=by simp [Kc.toB]
 have:=run_convert_bytes_back (P:=Tryz.prog) (w.alloc (.cells (xs.map (fun x=>Value.int .u8 x)).toArray 5)) 204 9 5 ⟨w.heap.size,0,none⟩ xs.length (Kc.toB xs) Tryz.underlying204 Tryz.underlying5 Tryz.underlying9 (fun j hj=>by
  have hj2:j<xs.length:=by rw [←hl];exact hj
  have e0:(⟨w.heap.size,0,none⟩:Addr).add j=⟨w.heap.size,j,none⟩:=by unfold Addr.add;split<;>simp_all
  rw [e0,Kc.toB_at h j hj2]
  exact zm w _ rfl _ _ j _ (by simp [hj2]))
 rw [hl] at this
 exact this
theorem ZY (c:Int)(w:World)(h0:0≤c)(h1:c≤1114111) :
  Calls Tryz.prog 44 #[.int .i64 c] w fun x w'=>x = .returned (.string (Kc.encS c))∧ze (fun _=>False) w w':=by
 by_cases c1:c<128
 ·have HT:Hid (Kc.encS c=⟨(Kc.toB [c]).toArray⟩):=by show _=_;unfold Kc.encS Kc.encI;rw [if_pos c1]
  have hcv:=ZX w [c] 1 rfl (fun x hx=>by simp at hx;omega)
  simp only [List.map_cons,List.map_nil] at hcv
  generalize Kc.encS c=T at HT ⊢
  generalize (⟨(Kc.toB [c]).toArray⟩:ByteArray)=R at HT hcv
  go_enter Tryz.func44,Tryz.ntmps44
  go_wp2_with fail
  go_ret
  exact ⟨by rw [zb HT];rfl,(ze.refl _ _).alloc _⟩
 ·by_cases c2:c<2048
  ·have HT:Hid (Kc.encS c=⟨(Kc.toB [192+c / 64,128+c % 64]).toArray⟩):=by show _=_;unfold Kc.encS Kc.encI;rw [if_neg c1,if_pos c2]
   have hcv:=ZX w [192+c / 64,128+c % 64] 2 rfl (fun x hx=>by simp at hx;omega)
   simp only [List.map_cons,List.map_nil] at hcv
   generalize Kc.encS c=T at HT ⊢
   generalize (⟨(Kc.toB [192+c / 64,128+c % 64]).toArray⟩:ByteArray)=R at HT hcv
   go_enter Tryz.func44,Tryz.ntmps44
   go_wp2_with fail
   go_ret
   exact ⟨by rw [zb HT];rfl,(ze.refl _ _).alloc _⟩
  ·by_cases c3:c<65536
   ·have HT:Hid (Kc.encS c=⟨(Kc.toB [224+c / 4096,128+c / 64 % 64,128+c % 64]).toArray⟩):=by show _=_;unfold Kc.encS Kc.encI;rw [if_neg c1,if_neg c2,if_pos c3]
    have hcv:=ZX w [224+c / 4096,128+c / 64 % 64,128+c % 64] 3 rfl (fun x hx=>by simp at hx;omega)
    simp only [List.map_cons,List.map_nil] at hcv
    generalize Kc.encS c=T at HT ⊢
    generalize (⟨(Kc.toB [224+c / 4096,128+c / 64 % 64,128+c % 64]).toArray⟩:ByteArray)=R at HT hcv
    go_enter Tryz.func44,Tryz.ntmps44
    go_wp2_with fail
    go_ret
    exact ⟨by rw [zb HT];rfl,(ze.refl _ _).alloc _⟩
   ·have HT:Hid (Kc.encS c=⟨(Kc.toB [240+c / 262144,128+c / 4096 % 64,128+c / 64 % 64,128+c % 64]).toArray⟩):=by show _=_;unfold Kc.encS Kc.encI;rw [if_neg c1,if_neg c2,if_neg c3]
    have hcv:=ZX w [240+c / 262144,128+c / 4096 % 64,128+c / 64 % 64,128+c % 64] 4 rfl (fun x hx=>by simp at hx;omega)
    simp only [List.map_cons,List.map_nil] at hcv
    generalize Kc.encS c=T at HT ⊢
    generalize (⟨(Kc.toB [240+c / 262144,128+c / 4096 % 64,128+c / 64 % 64,128+c % 64]).toArray⟩:ByteArray)=R at HT hcv
    go_enter Tryz.func44,Tryz.ntmps44
    go_wp2_with fail
    go_ret
    exact ⟨by rw [zb HT];rfl,(ze.refl _ _).alloc _⟩
namespace Kc
theorem encI_bd {c:Int}(h0:0≤c)(h1:c≤1114111):∀ x∈encI c,0≤x∧x≤255:=by
 intro x hx
 unfold encI at hx
 split at hx
 ·simp at hx;omega
 ·split at hx
  ·simp at hx;omega
  ·split at hx
   ·simp at hx;omega
   ·simp at hx;omega
theorem zaz:∀ (xs ys:List Int),(∀ x∈xs,0≤x∧x≤255)→(∀ x∈ys,0≤x∧x≤255)→toB xs=toB ys→xs=ys
 | [],[],_,_,_=>rfl
 | [],_ :: _,_,_,h=>by simp [toB] at h
 |_ :: _,[],_,_,h=>by simp [toB] at h
 |x :: xs,y :: ys,hx,hy,h=>by
  simp only [toB,List.map_cons,List.cons.injEq] at h
  have a:=hx x (by simp)
  have b:=hy y (by simp)
  have e:=congrArg UInt8.toNat h.1
  simp only [UInt8.toNat_ofNat'] at e
  rw [zaz xs ys (fun z hz=>hx z (by simp [hz])) (fun z hz=>hy z (by simp [hz])) h.2]
  congr 1
  omega
theorem Q6 {s:ByteArray}:∀ (n p:Nat),p+n≤s.size→∀ x∈bytesI s p n,0≤x∧x≤255
 |0,_,_,x,hx=>by simp [bytesI] at hx
 |n+1,p,h,x,hx=>by
  simp only [bytesI,List.mem_cons] at hx
  rcases hx with rfl |hx
  ·exact ⟨(yL s p).2 (by omega),yD s p⟩
  ·exact Q6 n (p+1) (by omega) x hx
theorem Xd {s:ByteArray}:∀ (n p:Nat),p+n≤s.size→toB (bytesI s p n)=(s.data.toList.drop p).take n
 |0,p,_=>by simp [bytesI,toB]
 |n+1,p,h=>by
  have hp:p<s.size:=by omega
  have hl:p<s.data.toList.length:=by simpa using hp
  rw [List.drop_eq_getElem_cons hl,List.take_succ_cons,←Xd n (p+1) (by omega)]
  simp only [bytesI,toB,List.map_cons,List.cons.injEq,and_true]
  rw [xZ s p hp]
  simp
  rfl
theorem Qa {s:ByteArray}{c:Int}{p n:Nat}(h0:0≤c)(h1:c≤1114111)(hp:p+n≤s.size):encS c=s.extract p (p+n)↔encI c=bytesI s p n:=by
 have e:s.extract p (p+n)=⟨((s.data.toList.drop p).take n).toArray⟩:=by
  obtain ⟨d⟩:=s
  rw [ByteArray.extract_mk]
  congr 1
  apply Array.ext'
  simp [Nat.add_sub_cancel_left]
 rw [e,←Xd n p hp]
 unfold encS
 constructor
 ·intro h
  have h2:toB (encI c)=toB (bytesI s p n):=by simpa using h
  exact zaz _ _ (encI_bd h0 h1) (Q6 n p hp) h2
 ·intro h
  rw [h]
def fits (s:ByteArray)(p n:Nat):Bool:=isCharB (valueV s p n) && decide (encS (valueV s p n)=s.extract p (p+n))
theorem fits_iff {s:ByteArray}{p n:Nat}(h1:1≤n)(h4:n≤4)(hp:p+n≤s.size):fits s p n=true↔Ref.oneF s p=some (n,valueV s p n):=by
 unfold fits
 rw [Bool.and_eq_true]
 constructor
 ·rintro ⟨hc,he⟩
  have hc2:=hc
  simp only [isCharB,Bool.and_eq_true,Bool.or_eq_true,decide_eq_true_eq] at hc2
  exact one_of h1 h4 hp hc ((Qa hc2.1.1 hc2.1.2 hp).1 (by simpa using he))
 ·intro h
  obtain ⟨_,_,_,_,hc,he⟩:=of_one h
  have hc2:=hc
  simp only [isCharB,Bool.and_eq_true,Bool.or_eq_true,decide_eq_true_eq] at hc2
  exact ⟨hc,by simpa using (Qa hc2.1.1 hc2.1.2 hp).2 he⟩
def NoFit (s:ByteArray)(p m:Nat):Prop:=∀ k,1≤k→k<m→p+k≤s.size→fits s p k=false
theorem none_of {s:ByteArray}{p m:Nat}(h:NoFit s p m)(hm:m=5∨s.size<p+m):Ref.oneF s p=none:=by
 cases e:Ref.oneF s p with
 |none=>rfl
 |some x=>
  obtain ⟨k,c⟩:=x
  obtain ⟨k1,k4,kp,kv,_,_⟩:=of_one e
  have hf:=h k k1 (by omega) kp
  have:=(fits_iff k1 k4 kp).2 (by rw [kv];exact e)
  rw [hf] at this
  cases this
end Kc
set_option maxRecDepth 100000
def qH (cs:List Int):List Value:=cs.map (fun c=>Value.int .i64 c)
theorem yY (n:Int)(h1:0≤n)(h2:n≤4611686018427387904):IntKind.i64.wrap n=n:=by
 simp [IntKind.wrap,IntKind.bits,IntKind.signed]
 omega
theorem beqB_ne {a b:ByteArray}(h:a≠b):(a.toList == b.toList)=false:=by
 rw [ByteArray.toList_eq,ByteArray.toList_eq]
 obtain ⟨⟨x⟩⟩:=a
 obtain ⟨⟨y⟩⟩:=b
 have hxy:x≠y:=fun e=>h (by rw [e])
 exact beq_false_of_ne hxy
theorem Qb (s:ByteArray)(w:World)(hs:s.size≤1099511627776) :
  Calls Tryz.prog 23 #[.string s] w fun x w'=>∃ v,x = .returned (.tuple #[v,.int .i64 (Ref.zo s).2])∧w'.ownsRow w.heap.size 3 1 v (Ref.zo s).1.length (qH ((Ref.zo s).1.map Prod.fst))∧ze (fun _=>False) w w':=by
 obtain ⟨i0,hi0,hz0,hz1,hz2⟩:=info_parts Tryz.infoInt
 have HT:Hid (Ref.zo s=Ref.xL s (s.size+1) 0 []):=rfl
 generalize Ref.zo s=R at HT ⊢
 go_enter Tryz.func23,Tryz.ntmps23
 go_wp2_with fail
 go_loopw [4,5] (fun lv pv wr=>∃ (p f:Nat) (acc:List (Int×Int)),pv = .int .i64 p∧p≤s.size∧acc.length≤p∧Hid (s.size<p+f)∧Hid (R=Ref.xL s f p acc)∧Hid (ze (fun _=>False) w wr)∧Hid (wr.ownsRow w.heap.size 3 1 lv acc.length (qH (acc.map Prod.fst)))) (fun _ pv _=>s.size-(intOf pv).toNat)
 case atStart=>exact ⟨0,s.size+1,[],rfl,by omega,by simp,by show _<_;omega,HT,ze.refl _ _,World.ownsRow_nil _ _ _ _⟩
 case round=>
  clear HT
  obtain ⟨p,f,acc,rfl,hp,hal,HF,HR,HK,HO⟩:=hrel
  obtain ⟨la,ln,lc,rfl⟩:=zy (zb HO)
  by_cases hlt:p<s.size
  ·have HE0:Hid (f≠0):=by have:=zb HF;show f≠0;omega
   go_wp2_with fail
   go_loopw [4,6,7] (fun lv2 zv nv wq=>∃ (m z:Nat),nv = .int .i64 m∧zv = .int .i64 z∧1≤m∧m≤5∧z≤4∧Hid (ze (fun _=>False) w wq)∧Hid ((z=0∧Kc.NoFit s p m∧wq.ownsRow w.heap.size 3 1 lv2 acc.length (qH (acc.map Prod.fst)))∨(0<z∧∃ c,Ref.oneF s p=some (z,c)∧wq.ownsRow w.heap.size 3 1 lv2 (acc.length+1) (qH ((acc++[(c,(p:Int))]).map Prod.fst))))) (fun _ _ nv _=>5-(intOf nv).toNat)
   case atStart=>exact ⟨1,0,rfl,rfl,by omega,by omega,by omega,HK,.inl ⟨rfl,fun k k1 k2=>by omega,zb HO⟩⟩
   case round=>
    clear HK HO
    obtain ⟨m,z,rfl,rfl,hm1,hm5,hz4,HK2,HI⟩:=hrel
    obtain ⟨xa,xn,xc,rfl⟩:∃ a n c,u4 = .slice a n c:=by rcases zb HI with ⟨_,_,h⟩ |⟨_,_,_,h⟩<;>exact zy h
    by_cases hz:z=0
    ·subst hz
     by_cases hm4:m≤4
     ·by_cases hpm:p+m≤s.size
      ·obtain ⟨HNo,HOw⟩:Hid (Kc.NoFit s p m)∧Hid (wr.ownsRow w.heap.size 3 1 (.slice xa xn xc) acc.length (qH (acc.map Prod.fst))):=by
        rcases zb HI with ⟨_,h1,h2⟩ |⟨h0,_⟩
        ·exact ⟨h1,h2⟩
        ·omega
       have HVa:=zc (WJ s p m wr hm1 hm4 hpm (by omega))
       have HFit:=zc (Kc.fits_iff hm1 hm4 hpm)
       have HNx:Hid (Kc.fits s p m=false→Kc.NoFit s p (m+1)):=fun hf k k1 k2 k3=>by
        by_cases e:k=m
        ·subst e;exact hf
        ·exact zb HNo k k1 (by omega) k3
       have HDf:Hid (Kc.fits s p m=(Kc.isCharB (Kc.valueV s p m) && decide (Kc.encS (Kc.valueV s p m)=s.extract p (p+m)))):=rfl
       generalize Kc.fits s p m=fb at HFit HNx HDf
       generalize Kc.valueV s p m=c at HVa HFit HDf
       have hsl:∀ V:World,(Instr.slice 9 (.string s) (some (.int .i64 (p:Int))) (some (.int .i64 ((p:Int)+(m:Int)))) none).run Tryz.prog V = .ok (.string (s.extract p (p+m))) V:=fun V=>by
        rw [run_slice_string V 9 s .i64 .i64 (p:Int) ((p:Int)+(m:Int)) Tryz.underlying9 (by omega) (by omega) (by omega),show ((p:Int)+(m:Int)).toNat=p+m by omega,Int.toNat_natCast]
       have hw1:IntKind.i64.wrap ((p:Int)+(m:Int))=(p:Int)+(m:Int):=yY _ (by omega) (by omega)
       have hb0:(0:Int)≤(p:Int)+(m:Int):=by omega
       have hb4:((p:Int)+(m:Int)).toNat=p+m:=by omega
       have hb1:(0:Int)≤(p:Int):=by omega
       have hb2:(p:Int)≤(p:Int)+(m:Int):=by omega
       have hb3:(p:Int)+(m:Int)≤(s.size:Int):=by omega
       by_cases hch:Kc.isCharB c=true
       ·have hch2:=hch
        simp only [Kc.isCharB,Bool.and_eq_true,Bool.or_eq_true,decide_eq_true_eq] at hch2
        obtain ⟨⟨hc0,hc1⟩,_⟩:=hch2
        have HCh:Hid (∀ V,Calls Tryz.prog 43 #[.int .i64 c] V fun x w'=>x = .returned (.bool true)∧w'=V):=fun V=>by have:=Xc c V;rw [hch] at this;exact this
        rw [hch,Bool.true_and] at HDf
        clear hch
        by_cases heq:Kc.encS c=s.extract p (p+m)
        ·rw [decide_eq_true heq] at HDf
         have HFit2:=zc ((zb HFit).1 (zb HDf))
         clear HFit HNx HDf HNo
         go_wp2_with (first
          |(go_at_call 42;refine (zb HVa).mono ?_;rintro e9 w1 ⟨rfl,hO1⟩;have HK3:=zc ((zb HK2).trans hO1);have HOw1:=zc (zn (zb HOw) hO1 (fun _ _ f=>f));have HEn:∀ V,ze (fun _=>False) w1 V→Calls Tryz.prog 44 #[.int .i64 c] V fun x w'=>x = .returned (.string (s.extract p (p+m)))∧ze (fun _=>False) w1 w':=(fun V hV=>by rw [←heq];exact (ZY c V hc0 hc1).mono (fun _ _ h=>⟨h.1,hV.trans h.2⟩));clear hO1)
          |(go_at_call 43;refine (zb HCh _).mono ?_;rintro e wq ⟨rfl,hwq⟩;obtain rfl:=hwq.symm;clear hwq))
         go_region_held3 (fun _=>True) (first |exact trivial |go_keep) (first |(go_at_call 44;refine (HEn _ (by first |exact ze.refl _ _ |exact (ze.refl _ _).drew |exact (ze.refl _ _).drewN _)).mono ?_;rintro e9 w2 ⟨rfl,hO2⟩;have HK4:=zc ((zb HK3).trans hO2);have HOw2:=zc (zn (zb HOw1) hO2 (fun _ _ f=>f));clear hO2))
         go_wp2_with (at_builtin;refine wpList_append_own _ rfl _ _ 27 rfl w.heap.size 3 i0 (.int .i64 0) 1 8 Tryz.underlying27 hi0 hz0 hz1 hz2 rfl (by decide) _ _ _ rfl (World.ownsRow.alloc (zb HOw2) _) _ 1 1 [.int .i64 c] rfl rfl (cell_one_new _ _ _) (fun x hx=>by simp at hx;subst hx;rfl) (by unfold maxLen;omega) (by omega) (by have:=(zb HK4).size;simp;omega) ?_;intro v' w4 hown' hgrow hnil;refine zb ?_)
         refine zc ?_
         have HK5:Hid (ze (fun _=>False) w w4):=((zb HK4).alloc _).grown hgrow (fun j hj=>Or.inr (zh (zb HOw2) j hj).1)
         obtain ⟨ya,yn,yc,rfl⟩:=zy hown'
         have HOw4:Hid (w4.ownsRow w.heap.size 3 1 (.slice ya yn yc) (acc.length+1) (qH ((acc++[(c,(p:Int))]).map Prod.fst))):=by
          show World.ownsRow _ _ _ _ _ _ _
          unfold qH
          rw [List.map_append,List.map_append]
          exact hown'
         clear hown' hgrow hnil HOw2 HOw1 HOw HK4 HK3 HK2
         go_wp2_with fail
         exact ⟨⟨m+1,m,by go_num,rfl,by omega,by omega,by omega,HK5,.inr ⟨by omega,c,zb HFit2,zb HOw4⟩⟩,by simp [intOf];omega⟩
        ·rw [decide_eq_false heq] at HDf
         have HNx2:=zc (zb HNx (zb HDf))
         have hne:=beqB_ne heq
         have HEq:Hid (∀ V,Calls Tryz.prog 44 #[.int .i64 c] V fun x w'=>x = .returned (.string (Kc.encS c))∧ze (fun _=>False) V w'):=fun V=>ZY c V hc0 hc1
         generalize Kc.encS c=E at heq hne HEq
         clear HFit HNx HDf HNo
         go_wp2_with (first
          |(go_at_call 42;refine (zb HVa).mono ?_;rintro e9 w1 ⟨rfl,hO1⟩;have HK3:=zc ((zb HK2).trans hO1);have HOw1:=zc (zn (zb HOw) hO1 (fun _ _ f=>f));have HEn:∀ V,ze (fun _=>False) w1 V→Calls Tryz.prog 44 #[.int .i64 c] V fun x w'=>x = .returned (.string E)∧ze (fun _=>False) w1 w':=(fun V hV=>(zb HEq V).mono (fun _ _ h=>⟨h.1,hV.trans h.2⟩));clear hO1)
          |(go_at_call 43;refine (zb HCh _).mono ?_;rintro e wq ⟨rfl,hwq⟩;obtain rfl:=hwq.symm;clear hwq))
         go_region_held3 (fun _=>True) (first |exact trivial |go_keep) (first |(go_at_call 44;refine (HEn _ (by first |exact ze.refl _ _ |exact (ze.refl _ _).drew |exact (ze.refl _ _).drewN _)).mono ?_;rintro e9 w2 ⟨rfl,hO2⟩;have HK4:=zc ((zb HK3).trans hO2);have HOw2:=zc (zn (zb HOw1) hO2 (fun _ _ f=>f));clear hO2))
         clear HOw1 HOw HK3 HK2
         go_wp2_with fail
         exact ⟨⟨m+1,0,by go_num,rfl,by omega,by omega,by omega,HK4,.inl ⟨rfl,zb HNx2,zb HOw2⟩⟩,by simp [intOf];omega⟩
       ·have hcf:Kc.isCharB c=false:=by simpa using hch
        rw [hcf,Bool.false_and] at HDf
        have HNx2:=zc (zb HNx (zb HDf))
        have HCh:Hid (∀ V,Calls Tryz.prog 43 #[.int .i64 c] V fun x w'=>x = .returned (.bool false)∧w'=V):=fun V=>by have:=Xc c V;rw [hcf] at this;exact this
        clear HFit HNx HDf HNo hch hcf
        go_wp2_with (first
         |(go_at_call 42;refine (zb HVa).mono ?_;rintro e9 w1 ⟨rfl,hO1⟩;have HK3:=zc ((zb HK2).trans hO1);have HOw1:=zc (zn (zb HOw) hO1 (fun _ _ f=>f));clear hO1)
         |(go_at_call 43;refine (zb HCh _).mono ?_;rintro e wq ⟨rfl,hwq⟩;obtain rfl:=hwq.symm;clear hwq))
        clear HOw HK2
        go_quiet (fail)
        go_wp2_with fail
        exact ⟨⟨m+1,0,by go_num,rfl,by omega,by omega,by omega,zc ((zb HK3).drewN _),.inl ⟨rfl,zb HNx2,zb HOw1⟩⟩,by simp [intOf];omega⟩
      ·have HX:Hid (Ref.oneF s p=none)∧Hid (wr.ownsRow w.heap.size 3 1 (.slice xa xn xc) acc.length (qH (acc.map Prod.fst))):=by
        rcases zb HI with ⟨_,h1,h2⟩ |⟨h0,_⟩
        ·exact ⟨Kc.none_of h1 (.inr (by omega)),h2⟩
        ·omega
       obtain ⟨HX,HOw⟩:=HX
       have hw1:IntKind.i64.wrap ((p:Int)+(m:Int))=(p:Int)+(m:Int):=yY _ (by omega) (by omega)
       have hb3:¬(p:Int)+(m:Int)≤(s.size:Int):=by omega
       have hb4:(m:Int)≤4:=by omega
       obtain ⟨f',rfl⟩:∃ f',f=f'+1:=⟨f-1,by have:=zb HE0;omega⟩
       have hR:R=(acc,(p:Int)):=by rw [zb HR,Ref.jx hlt (zb HX)]
       subst hR
       clear HI HE0 HF HR HX
       go_wp2_with fail
       go_ret2
       exact ⟨_,rfl,zb HOw,zb HK2⟩
     ·have HX:Hid (Ref.oneF s p=none)∧Hid (wr.ownsRow w.heap.size 3 1 (.slice xa xn xc) acc.length (qH (acc.map Prod.fst))):=by
       rcases zb HI with ⟨_,h1,h2⟩ |⟨h0,_⟩
       ·exact ⟨Kc.none_of h1 (.inl (by omega)),h2⟩
       ·omega
      obtain ⟨HX,HOw⟩:=HX
      obtain rfl:m=5:=by omega
      obtain ⟨f',rfl⟩:∃ f',f=f'+1:=⟨f-1,by have:=zb HE0;omega⟩
      have hR:R=(acc,(p:Int)):=by rw [zb HR,Ref.jx hlt (zb HX)]
      subst hR
      clear HI HE0 HF HR HX
      go_wp2_with fail
      go_ret2
      exact ⟨_,rfl,zb HOw,zb HK2⟩
    ·obtain ⟨c,HX,HOw⟩:∃ c,Hid (Ref.oneF s p=some (z,c))∧Hid (wr.ownsRow w.heap.size 3 1 (.slice xa xn xc) (acc.length+1) (qH ((acc++[(c,(p:Int))]).map Prod.fst))):=by
      rcases zb HI with ⟨h0,_⟩ |⟨_,c,h1,h2⟩
      ·omega
      ·exact ⟨c,h1,h2⟩
     have hzz:¬(z:Int)=0:=by omega
     obtain ⟨f',rfl⟩:∃ f',f=f'+1:=⟨f-1,by have:=zb HE0;omega⟩
     obtain ⟨_,hsz,_⟩:=Ref.qC (zb HX)
     have HR2:Hid (R=Ref.xL s f' (p+z) (acc++[(c,(p:Int))])):=by show R=_;rw [zb HR,Ref.qW hlt (zb HX)]
     have hw1:IntKind.i64.wrap ((p:Int)+(z:Int))=(p:Int)+(z:Int):=yY _ (by omega) (by omega)
     have hz0:0<z:=by omega
     clear HI HR HX
     have hw2:IntKind.i64.wrap ((p:Int)+(m:Int))=(p:Int)+(m:Int):=yY _ (by omega) (by omega)
     by_cases hm4:(m:Int)≤4<;>by_cases hb3:(p:Int)+(m:Int)≤(s.size:Int)
     all_goals go_wp2_with fail
     all_goals exact ⟨⟨p+z,f',acc++[(c,(p:Int))],by go_num,by omega,by simp;omega,by have:=zb HF;show _<_;omega,HR2,HK2,by have h:=zb HOw;show World.ownsRow _ _ _ _ _ _ _;rw [List.length_append];exact h⟩,by simp [intOf];omega⟩
  ·obtain rfl:p=s.size:=by omega
   have HX:Hid (R=(acc,-1)):=by
    show R=_
    rw [zb HR]
    cases f with
    |zero=>rfl
    |succ f=>simp [Ref.xL]
   have hR:=zb HX
   subst hR
   clear HX HR
   go_wp2_with fail
   go_ret2
   exact ⟨_,rfl,zb HO,zb HK⟩
namespace Kc
def textB (s:ByteArray):Bool:=decide ((Ref.zo s).2<0) && decide ((s.size:Int)≤400)
end Kc
theorem Qc {w:World}{base:Nat}{e:TypeId}{v:Value}{n size:Nat}{xs:List Value}(h:w.ownsRow base e size v n xs):∃ a c,v = .slice a n c:=by
 obtain ⟨_,⟨rfl,rfl⟩ |⟨g,cap,_,rfl,_⟩⟩:=h
 ·exact ⟨_,_,rfl⟩
 ·exact ⟨_,_,rfl⟩
theorem Xe (s:ByteArray)(w:World)(hs:s.size≤1099511627776) :
  Calls Tryz.prog 9 #[.string s] w fun x w'=>x = .returned (.tuple #[.int .i64 (Ref.zo s).1.length,.bool (Kc.textB s)])∧ze (fun _=>False) w w':=by
 have HC:=zc (Qb s w hs)
 have HB:Hid (Kc.textB s=(decide ((Ref.zo s).2<0) && decide ((s.size:Int)≤400))):=rfl
 generalize Kc.textB s=b at HB ⊢
 generalize Ref.zo s=R at HB HC ⊢
 obtain ⟨l,z⟩:=R
 have hb:=zb HB
 go_enter Tryz.func9,Tryz.ntmps9
 by_cases h1:z<0<;>by_cases h2:(s.size:Int)≤400
 all_goals simp only [h1,h2,decide_true,decide_false,Bool.and_true,Bool.and_false] at hb
 all_goals subst hb
 all_goals go_wp2_with (go_at_call 23;refine (zb HC).mono ?_;rintro e9 w1 ⟨v,rfl,hO,hK⟩;have hK:=zc hK;obtain ⟨xa,xc,rfl⟩:=Qc hO;clear hO)
 all_goals go_ret2
 all_goals first |exact ⟨rfl,zb hK⟩ |exact ⟨by simp [h2],zb hK⟩
open Sm (Stp Tree capT)
theorem zb0 {s:ByteArray}{N:List Stp}{st:Nat}{W:Int→Bool}{r:Bool}{e p:Int}{A:Nat→Prop}{w:World}{pb:Nat}(h:vx s N st W r e p)(hP:xi w A pb N st W) :
  (Kc.textB s=false∧r=false∧(e=2∨e=1))∨(Kc.textB s=true∧s.size≤400∧(Ref.zo s).2<0∧e=0∧p=0∧(r=true↔∃ i j,i≤(Pro.letM s (s.size+1) 0).length∧j≤(Pro.letM s (s.size+1) 0).length∧Prg.GoP W (Pro.letM s (s.size+1) 0) N st i 0 j)):=by
 rcases h with ⟨a1,a2,a3,a4⟩ |⟨a1,a2,a3,a4,a5⟩ |⟨a1,a2,a3,a4,a5⟩
 ·exact .inl ⟨by unfold Kc.textB;rw [decide_eq_false (p:=(s.size:Int)≤400) (by omega),Bool.and_false],a2,.inl a3⟩
 ·exact .inl ⟨by unfold Kc.textB;rw [decide_eq_false (p:=(Ref.zo s).2<0) (by omega),Bool.false_and],a3,.inr a4⟩
 ·exact .inr ⟨by unfold Kc.textB;rw [decide_eq_true (p:=(Ref.zo s).2<0) a2,decide_eq_true (p:=(s.size:Int)≤400) (by omega)];rfl,a1,a2,a3,a4,a5.trans (Fnd.found_iff hP.stl hP.fit)⟩
end
end Go.Proofs.YtcgleficedipkaaGreatDoor
