/- Tables of the law: reading them; either. -/
import Derived.Test.YtfnkbmglodopkaaGreatDoorWAncBLocH
namespace Go.Proofs.YtfnkbmglodopkaaGreatDoor
section
open Go.RowKit
set_option maxHeartbeats 4000000
set_option maxRecDepth 100000
def TbV (w:World)(v:Value)(n:Nat)(X:Nat→Nat→Prop):Prop:=∃ g c,v = .slice (some ⟨g,0,none⟩) (n+1) c∧∀ i,i<n+1→∃ ob ms,w.cell? ⟨g,i,none⟩=some (.slice (some ⟨ob,0,none⟩) (n+1) (n+1))∧xQ w ob ms∧Kc.Tells n (X i) ms
theorem TbV.keep {w w':World}{v:Value}{n:Nat}{X:Nat→Nat→Prop}(h:TbV w v n X)(k:ze (fun _=>False) w w'):TbV w' v n X:=by
 obtain ⟨g,c,rfl,h⟩:=h
 refine ⟨g,c,rfl,fun i hi=>?_⟩
 obtain ⟨ob,ms,h1,h2,h3⟩:=h i hi
 exact ⟨ob,ms,zg k _ _ h1 (fun f=>f),h2.keep k (fun f=>f),h3⟩
theorem TbV.congr {w:World}{v:Value}{n:Nat}{X Y:Nat→Nat→Prop}(h:TbV w v n X)(e:∀ i j,i≤n→j≤n→(X i j↔Y i j)):TbV w v n Y:=by
 obtain ⟨g,c,rfl,h⟩:=h
 refine ⟨g,c,rfl,fun i hi=>?_⟩
 obtain ⟨ob,ms,h1,h2,h3,h4⟩:=h i hi
 refine ⟨ob,ms,h1,h2,h3,fun j=>(h4 j).trans ⟨fun ⟨a,b⟩=>⟨a,(e i j (by omega) a).1 b⟩,fun ⟨a,b⟩=>⟨a,(e i j (by omega) a).2 b⟩⟩⟩
theorem Tb.read {w:World}{base n:Nat}{v:Value}{X:Nat→Nat→Prop}{obs:List Nat}(h:Tb w base v n (n+1) X obs):TbV w v n X:=by
 have hl:=h.len
 have hr:=h.row
 rcases hr.2 with ⟨_,h0⟩ |⟨g,cap,cur,rfl,hbg,hg,hnc,hcm,hcs,htake⟩
 ·omega
 ·refine ⟨g,cap,rfl,fun i hi=>?_⟩
  obtain ⟨_,_,_,ms,h4,h5⟩:=h.sub i obs[i] (List.getElem?_eq_getElem (by omega))
  refine ⟨obs[i],ms,(hr.cellAt _ (by omega)).trans ?_,h4,h5⟩
  unfold XC
  rw [List.getElem?_map,List.getElem?_eq_getElem (by omega)]
  rfl
theorem Kc.set_at {ms:List Bool}{k:Nat}(hk:k<ms.length)(b:Bool)(j:Nat):(ms.set k b)[j]?=some true↔(j=k∧b=true)∨(j≠k∧ms[j]?=some true):=by
 by_cases e:k=j
 ·subst e
  rw [List.getElem?_set_self hk]
  simp
 ·rw [List.getElem?_set_ne e]
  exact ⟨fun h=>.inr ⟨fun f=>e f.symm,h⟩,fun h=>h.elim (fun h=>absurd h.1.symm e) (fun h=>h.2)⟩
theorem Kc.set_next {ms:List Bool}{k:Nat}{Z:Nat→Prop}(hk:k<ms.length){b:Bool}(hb:b=true↔Z k)(h:∀ j:Nat,ms[j]?=some true↔j<k∧Z j)(j:Nat):(ms.set k b)[j]?=some true↔j<k+1∧Z j:=by
 rw [Kc.set_at hk,h j]
 constructor
 ·rintro (⟨rfl,q⟩ |⟨q1,q2,q3⟩)
  ·exact ⟨by omega,hb.1 q⟩
  ·exact ⟨by omega,q3⟩
 ·rintro ⟨q1,q2⟩
  by_cases e:j=k
  ·subst e
   exact .inl ⟨rfl,hb.2 q2⟩
  ·exact .inr ⟨e,by omega,q2⟩
theorem Kc.Tells.at {n:Nat}{X:Nat→Prop}{ms:List Bool}(h:Kc.Tells n X ms){k:Nat}(hk:k<n+1):∃ b,ms[k]?=some b∧(b=true↔X k):=by
 have hl:k<ms.length:=by have:=h.1;omega
 refine ⟨ms[k],List.getElem?_eq_getElem hl,?_⟩
 have h2:=h.2 k
 rw [List.getElem?_eq_getElem hl] at h2
 simp at h2
 exact h2.trans ⟨fun q=>q.2,fun q=>⟨by omega,q⟩⟩
theorem kx (n:Nat)(hn:n≤400)(av bv:Value)(X Y:Nat→Nat→Prop)(w:World)(hA:TbV w av n X)(hB:TbV w bv n Y) :
  Calls Tryz.prog 22 #[av,bv] w fun x w'=>∃ v,x = .returned v∧TbV w' v n (fun i j=>X i j∨Y i j)∧ze (fun _=>False) w w':=by
 obtain ⟨i0,hi0,hz0,hz1,hz2⟩:=info_parts Tryz.infoKcB
 obtain ⟨ga,ca,rfl,hA⟩:=hA
 obtain ⟨gb,cb,rfl,hB⟩:=hB
 have HA:=zc hA
 have HBt:=zc hB
 have HZ:Hid (∃ Z:Nat→Nat→Prop,Z=fun i j=>X i j∨Y i j):=⟨_,rfl⟩
 clear hA hB
 obtain ⟨Z,hZ⟩:=zb HZ
 have HZ2:Hid (∀ i j,Z i j↔X i j∨Y i j):=by subst hZ;exact fun _ _=>Iff.rfl
 rw [←hZ]
 clear HZ hZ
 have hmk:∀ w:World,_:=jt (n+1) (by omega)
 rw [show (((n+1:Nat)):Int)=(n:Int)+1 by omega] at hmk
 go_enter Tryz.func22,Tryz.ntmps22
 go_wp2_with fail
 go_loopw [5,6] (fun ov iv wr=>∃ (i:Nat) (obs:List Nat),iv = .int .i64 i∧i≤n+1∧Hid (Tb wr w.heap.size ov n i Z obs)∧Hid (ze (fun _=>False) w wr)) (fun _ iv _=>n+1-(intOf iv).toNat)
 case atStart=>exact ⟨0,[],rfl,by omega,⟨rfl,World.ownsRow_nil _ _ _ _,fun i ob h=>by simp at h⟩,ze.refl _ _⟩
 case round=>
  obtain ⟨i,obs,rfl,hi,HT,HK⟩:=hrel
  obtain ⟨xa,xc,rfl⟩:=Qc (zb HT).row
  obtain ⟨wo,rfl⟩:∃ W,W=wr:=⟨_,rfl⟩
  by_cases hlt:i<n+1
  ·have b1:(i:Int)<(n:Int)+1:=by omega
   have b0:(0:Int)≤(i:Int):=by omega
   obtain ⟨oa,ma,a1,a2,a3⟩:=zb HA i hlt
   obtain ⟨ob,mb,e1,e2,e3⟩:=zb HBt i hlt
   have HA1:=zc a1
   have HA2:=zc a2
   have HA3:=zc a3
   have HE1:=zc e1
   have HE2:=zc e2
   have HE3:=zc e3
   have HO0:Hid (ze (fun _=>False) wo (wo.alloc (.cells (madeCells #[.bool false] (n+1)) 4))):=(ze.refl _ _).alloc _
   have HB0:Hid (xQ (wo.alloc (.cells (madeCells #[.bool false] (n+1)) 4)) wo.heap.size (List.replicate (n+1) false)):=xQ.made wo (n+1)
   clear a1 a2 a3 e1 e2 e3
   go_wp2_with fail
   go_loopw [8] (fun kv wq=>∃ (k:Nat) (ms:List Bool),kv = .int .i64 k∧k≤n+1∧ms.length=n+1∧Hid (ze (fun _=>False) wo wq)∧Hid (xQ wq wo.heap.size ms)∧Hid (wo.heap.size<wq.heap.size)∧Hid (∀ j:Nat,ms[j]?=some true↔j<k∧Z i j)) (fun kv _=>n+1-(intOf kv).toNat)
   case atStart=>exact ⟨0,_,rfl,by omega,by simp,HO0,HB0,by show _<_;simp,fun j=>by simp [List.getElem?_replicate]⟩
   case round=>
    clear HO0 HB0 hmk
    obtain ⟨k,ms,rfl,hk,hml,HQ,HB,HS,HM⟩:=hrel
    by_cases hk1:k<n+1
    ·have hKq:=(zb HK).trans (zb HQ)
     obtain ⟨x,x1,x2⟩:=(zb HA3).at hk1
     obtain ⟨y,y1,y2⟩:=(zb HE3).at hk1
     have c1:=zg hKq _ _ (zb HA1) (fun f=>f)
     have c2:=zg hKq _ _ ((zb HA2).c k _ x1) (fun f=>f)
     have c3:=zg hKq _ _ (zb HE1) (fun f=>f)
     have c4:=zg hKq _ _ ((zb HE2).c k _ y1) (fun f=>f)
     have hkm:k<ms.length:=by omega
     have d1:=(zb HB).c k _ (List.getElem?_eq_getElem hkm)
     have d2:=(zb HB).f k _ (List.getElem?_eq_getElem hkm)
     have HN:=zc (Kc.set_next (b:=x ||y) hkm (by rw [zb HZ2,←x2,←y2];simp) (zb HM))
     have b3:(0:Int)≤(k:Int):=by omega
     have b4:(k:Int)<(n:Int)+1:=by omega
     have HKq:=zc hKq
     clear x1 x2 y1 y2 hKq HM HA3 HE3 HA1 HE1 HA2 HE2 HZ2
     cases x
     all_goals go_wp2_with fail
     all_goals exact ⟨⟨k+1,ms.set k _,by go_num,by omega,by simpa using hml,((zb HQ).setCell (p:=⟨wo.heap.size,k,none⟩) (.inr (Nat.le_refl _)) _),(zb HB).set k _,by have:=zb HS;show _<_;simpa using this,zb HN⟩,by simp [intOf];omega⟩
    ·obtain rfl:k=n+1:=by omega
     have b4:¬((n+1:Nat):Int)<(n:Int)+1:=by omega
     go_wp2_with (at_builtin;refine zb ?_)
     refine zc ?_
     have hz:=(zb HK).size
     have hzq:=(zb HQ).size
     have hzs:=zb HS
     have HTq:=zc ((zb HT).keep (zb HQ))
     have hnb:(Value.slice xa i xc).ownBlock≠some wo.heap.size:=fun e=>by have:=(zh (zb HT).row _ e).2;omega
     refine xH _ rfl _ _ 34 rfl w.heap.size 56 i0 (.slice none 0 0) 1 24 Tryz.underlying34 hi0 hz0 hz1 hz2 rfl (by decide) _ _ _ rfl (World.ownsRow.alloc (zb HTq).row _) _ 1 1 [.slice (some ⟨wo.heap.size,0,none⟩) (n+1) (n+1)] rfl rfl (cell_one_new _ _ _) (fun x hx=>by simp at hx;subst hx;rfl) (by unfold maxLen;omega) (by omega) (by simp;omega) ?_
     intro v' w4 hown' hgrow hsep
     have HT4:Hid (Tb w4 w.heap.size v' n (i+1) Z (obs++[wo.heap.size])):=by
      refine Tb.push (w:=wr.alloc _) ((zb HTq).keep ((ze.refl _ _).alloc _)) ((zb HB).keep (P:=fun _=>False) ((ze.refl _ _).alloc _) (fun f=>f)) ⟨hml,fun j=>(zb HM j).trans ⟨fun q=>⟨by omega,q.2⟩,fun q=>⟨by omega,q.2⟩⟩⟩ (by omega) (by simp;omega) hnb hgrow hown' hsep
     have HK4:Hid (ze (fun _=>False) w w4):=(((zb HK).trans (zb HQ)).alloc _).grown hgrow (fun j hj=>Or.inr (zh (zb HT).row j hj).1)
     clear hown' hgrow hsep HT HTq HK HQ HB HM hnb HA1 HA2 HA3 HE1 HE2 HE3
     go_wp2_with fail
     exact ⟨⟨i+1,obs++[wo.heap.size],by go_num,by omega,HT4,HK4⟩,by simp [intOf];omega⟩
  ·obtain rfl:i=n+1:=by omega
   have b1:¬((n+1:Nat):Int)<(n:Int)+1:=by omega
   go_wp2_with fail
   go_ret
   exact ⟨_,rfl,(zb HT).read,zb HK⟩
set_option maxHeartbeats 8000000
theorem Kc.set_or {ms:List Bool}{k n:Nat}{P Y:Nat→Prop}(hl:ms.length=n+1)(hk:k<n+1){m y:Bool}(hm:ms[k]?=some m)(hy:y=true↔Y k)(h:∀ j:Nat,ms[j]?=some true↔j≤n∧(P j∨(j<k∧Y j)))(j:Nat):(ms.set k (m ||y))[j]?=some true↔j≤n∧(P j∨(j<k+1∧Y j)):=by
 rw [Kc.set_at (by omega)]
 constructor
 ·rintro (⟨rfl,q⟩ |⟨q1,q2⟩)
  ·rcases Bool.or_eq_true_iff.1 q with q |q
   ·subst q
    obtain ⟨a,b |⟨b,_⟩⟩:=(h j).1 hm
    ·exact ⟨a,.inl b⟩
    ·omega
   ·exact ⟨by omega,.inr ⟨by omega,hy.1 q⟩⟩
  ·obtain ⟨a,b |⟨b,c⟩⟩:=(h j).1 q2
   ·exact ⟨a,.inl b⟩
   ·exact ⟨a,.inr ⟨by omega,c⟩⟩
 ·rintro ⟨a,b⟩
  by_cases e:j=k
  ·subst e
   left
   refine ⟨rfl,?_⟩
   rcases b with b |⟨_,b⟩
   ·have:=(h j).2 ⟨a,.inl b⟩
    rw [hm] at this
    simp at this
    simp [this]
   ·rw [hy.2 b];simp
  ·right
   refine ⟨e,(h j).2 ⟨a,?_⟩⟩
   rcases b with b |⟨b,c⟩
   ·exact .inl b
   ·exact .inr ⟨by omega,c⟩
theorem ky (n:Nat)(hn:n≤400)(av bv:Value)(X Y:Nat→Nat→Prop)(w:World)(hA:TbV w av n X)(hB:TbV w bv n Y) :
  Calls Tryz.prog 21 #[av,bv] w fun x w'=>∃ v,x = .returned v∧TbV w' v n (fun i j=>∃ k,k≤n∧X i k∧Y k j)∧ze (fun _=>False) w w':=by
 obtain ⟨i0,hi0,hz0,hz1,hz2⟩:=info_parts Tryz.infoKcB
 obtain ⟨ga,ca,rfl,hA⟩:=hA
 obtain ⟨gb,cb,rfl,hB⟩:=hB
 have HA:=zc hA
 have HBt:=zc hB
 have HZ:Hid (∃ Z:Nat→Nat→Prop,Z=fun i j=>∃ k,k≤n∧X i k∧Y k j):=⟨_,rfl⟩
 clear hA hB
 obtain ⟨Z,hZ⟩:=zb HZ
 have HZ2:Hid (∀ i j,Z i j↔∃ k,k≤n∧X i k∧Y k j):=by subst hZ;exact fun _ _=>Iff.rfl
 rw [←hZ]
 clear HZ hZ
 have hmk:∀ w:World,_:=jt (n+1) (by omega)
 rw [show (((n+1:Nat)):Int)=(n:Int)+1 by omega] at hmk
 go_enter Tryz.func21,Tryz.ntmps21
 go_wp2_with fail
 go_loopw [5,6] (fun ov iv wr=>∃ (i:Nat) (obs:List Nat),iv = .int .i64 i∧i≤n+1∧Hid (Tb wr w.heap.size ov n i Z obs)∧Hid (ze (fun _=>False) w wr)) (fun _ iv _=>n+1-(intOf iv).toNat)
 case atStart=>exact ⟨0,[],rfl,by omega,⟨rfl,World.ownsRow_nil _ _ _ _,fun i ob h=>by simp at h⟩,ze.refl _ _⟩
 case round=>
  obtain ⟨i,obs,rfl,hi,HT,HK⟩:=hrel
  obtain ⟨xa,xc,rfl⟩:=Qc (zb HT).row
  obtain ⟨wo,rfl⟩:∃ W,W=wr:=⟨_,rfl⟩
  by_cases hlt:i<n+1
  ·have b1:(i:Int)<(n:Int)+1:=by omega
   have b0:(0:Int)≤(i:Int):=by omega
   obtain ⟨oa,ma,a1,a2,a3⟩:=zb HA i hlt
   have HA1:=zc a1
   have HA2:=zc a2
   have HA3:=zc a3
   have HO0:Hid (ze (fun _=>False) wo (wo.alloc (.cells (madeCells #[.bool false] (n+1)) 4))):=(ze.refl _ _).alloc _
   have HB0:Hid (xQ (wo.alloc (.cells (madeCells #[.bool false] (n+1)) 4)) wo.heap.size (List.replicate (n+1) false)):=xQ.made wo (n+1)
   clear a1 a2 a3
   go_wp2_with fail
   go_loopw [8] (fun kv wq=>∃ (k:Nat) (ms:List Bool),kv = .int .i64 k∧k≤n+1∧ms.length=n+1∧Hid (ze (fun _=>False) wo wq)∧Hid (xQ wq wo.heap.size ms)∧Hid (wo.heap.size<wq.heap.size)∧Hid (∀ j:Nat,ms[j]?=some true↔j≤n∧∃ k',k'<k∧X i k'∧Y k' j)) (fun kv _=>n+1-(intOf kv).toNat)
   case atStart=>exact ⟨0,_,rfl,by omega,by simp,HO0,HB0,by show _<_;simp,fun j=>by simp [List.getElem?_replicate]⟩
   case round=>
    clear HO0 HB0 hmk
    obtain ⟨k,ms,rfl,hk,hml,HQ,HB,HS,HM⟩:=hrel
    obtain ⟨wm,rfl⟩:∃ W,W=wr:=⟨_,rfl⟩
    by_cases hk1:k<n+1
    ·obtain ⟨x,x1,x2⟩:=(zb HA3).at hk1
     obtain ⟨ob,mb,e1,e2,e3⟩:=zb HBt k hk1
     have HE1:=zc e1
     have HE2:=zc e2
     have HE3:=zc e3
     have HX1:=zc x1
     have HX2:=zc x2
     have b3:(0:Int)≤(k:Int):=by omega
     have b4:(k:Int)<(n:Int)+1:=by omega
     clear x1 x2 e1 e2 e3
     go_wp2_with fail
     go_loopw [9] (fun jv wq=>∃ (j:Nat) (ns:List Bool),jv = .int .i64 j∧j≤n+1∧ns.length=n+1∧Hid (x=false→j=0)∧Hid (ze (fun _=>False) wo wq)∧Hid (xQ wq wo.heap.size ns)∧Hid (wo.heap.size<wq.heap.size)∧Hid (∀ j':Nat,ns[j']?=some true↔j'≤n∧((∃ k',k'<k∧X i k'∧Y k' j')∨(j'<j∧Y k j')))) (fun jv _=>n+1-(intOf jv).toNat)
     case atStart=>exact ⟨0,ms,rfl,by omega,hml,fun _=>rfl,HQ,HB,HS,fun j=>(zb HM j).trans ⟨fun ⟨p,q⟩=>⟨p,.inl q⟩,fun ⟨p,q⟩=>⟨p,q.elim id (fun q=>by omega)⟩⟩⟩
     case round=>
      clear HQ HB HS HM hml
      obtain ⟨j,ns,rfl,hj,hnl,HF,HQ,HB,HS,HM⟩:=hrel
      have hKq:=(zb HK).trans (zb HQ)
      have c1:=zg hKq _ _ (zb HA1) (fun f=>f)
      have c2:=zg hKq _ _ ((zb HA2).c k _ (zb HX1)) (fun f=>f)
      have HKq:=zc hKq
      clear hKq
      cases x
      ·have hj0:=zb HF rfl
       subst hj0
       have HN:Hid (∀ j:Nat,ns[j]?=some true↔j≤n∧∃ k',k'<k+1∧X i k'∧Y k' j):=fun j=>(zb HM j).trans ⟨fun ⟨p,q⟩=>⟨p,by
        rcases q with ⟨k',q1,q2⟩ |⟨q1,_⟩
        ·exact ⟨k',by omega,q2⟩
        ·omega⟩,fun ⟨p,k',q1,q2,q3⟩=>⟨p,.inl ⟨k',by
        by_cases e:k'=k
        ·subst e
         exact absurd ((zb HX2).2 q2) (by simp)
        ·omega,q2,q3⟩⟩⟩
       clear HM HF HA1 HA2 HA3 HE1 HE2 HE3 HX1 HX2 HZ2
       go_wp2_with fail
       exact ⟨⟨k+1,ns,by go_num,by omega,hnl,HQ,HB,HS,HN⟩,by simp [intOf];omega⟩
      ·by_cases hj1:j<n+1
       ·obtain ⟨y,y1,y2⟩:=(zb HE3).at hj1
        have c3:=zg (zb HKq) _ _ (zb HE1) (fun f=>f)
        have c4:=zg (zb HKq) _ _ ((zb HE2).c j _ y1) (fun f=>f)
        have hjm:j<ns.length:=by omega
        have d1:=(zb HB).c j _ (List.getElem?_eq_getElem hjm)
        have d2:=(zb HB).f j _ (List.getElem?_eq_getElem hjm)
        have HN:=zc (Kc.set_or hnl hj1 (List.getElem?_eq_getElem hjm) y2 (zb HM))
        have b5:(0:Int)≤(j:Int):=by omega
        have b6:(j:Int)<(n:Int)+1:=by omega
        clear y1 y2 HM HF HA1 HA2 HA3 HE1 HE2 HE3 HX1 HX2 HZ2
        generalize ns[j]=m at *
        cases m
        all_goals go_wp2_with fail
        all_goals exact ⟨⟨j+1,ns.set j _,by go_num,by omega,by simpa using hnl,(fun f=>by cases f),((zb HQ).setCell (p:=⟨wo.heap.size,j,none⟩) (.inr (Nat.le_refl _)) _),(zb HB).set j _,by have:=zb HS;show _<_;simpa using this,zb HN⟩,by simp [intOf];omega⟩
       ·obtain rfl:j=n+1:=by omega
        have b6:¬((n+1:Nat):Int)<(n:Int)+1:=by omega
        have HN:Hid (∀ j:Nat,ns[j]?=some true↔j≤n∧∃ k',k'<k+1∧X i k'∧Y k' j):=fun j=>(zb HM j).trans ⟨fun ⟨p,q⟩=>⟨p,by
         rcases q with ⟨k',q1,q2⟩ |⟨q1,q2⟩
         ·exact ⟨k',by omega,q2⟩
         ·exact ⟨k,by omega,(zb HX2).1 rfl,q2⟩⟩,fun ⟨p,k',q1,q2,q3⟩=>⟨p,by
         by_cases e:k'=k
         ·subst e
          exact .inr ⟨by omega,q3⟩
         ·exact .inl ⟨k',by omega,q2,q3⟩⟩⟩
        clear HM HF HA1 HA2 HA3 HE1 HE2 HE3 HX1 HX2 HZ2
        go_wp2_with fail
        exact ⟨⟨k+1,ns,by go_num,by omega,hnl,HQ,HB,HS,HN⟩,by simp [intOf];omega⟩
    ·obtain rfl:k=n+1:=by omega
     have b4:¬((n+1:Nat):Int)<(n:Int)+1:=by omega
     go_wp2_with (at_builtin;refine zb ?_)
     refine zc ?_
     have hz:=(zb HK).size
     have hzq:=(zb HQ).size
     have hzs:=zb HS
     have HTq:=zc ((zb HT).keep (zb HQ))
     have hnb:(Value.slice xa i xc).ownBlock≠some wo.heap.size:=fun e=>by have:=(zh (zb HT).row _ e).2;omega
     refine xH _ rfl _ _ 34 rfl w.heap.size 56 i0 (.slice none 0 0) 1 24 Tryz.underlying34 hi0 hz0 hz1 hz2 rfl (by decide) _ _ _ rfl (World.ownsRow.alloc (zb HTq).row _) _ 1 1 [.slice (some ⟨wo.heap.size,0,none⟩) (n+1) (n+1)] rfl rfl (cell_one_new _ _ _) (fun x hx=>by simp at hx;subst hx;rfl) (by unfold maxLen;omega) (by omega) (by simp;omega) ?_
     intro v' w4 hown' hgrow hsep
     have HT4:Hid (Tb w4 w.heap.size v' n (i+1) Z (obs++[wo.heap.size])):=by
      refine Tb.push (w:=wm.alloc _) ((zb HTq).keep ((ze.refl _ _).alloc _)) ((zb HB).keep (P:=fun _=>False) ((ze.refl _ _).alloc _) (fun f=>f)) ⟨hml,fun j=>(zb HM j).trans ?_⟩ (by omega) (by simp;omega) hnb hgrow hown' hsep
      rw [zb HZ2]
      exact ⟨fun ⟨p,k',q1,q2⟩=>⟨p,k',by omega,q2⟩,fun ⟨p,k',q1,q2⟩=>⟨p,k',by omega,q2⟩⟩
     have HK4:Hid (ze (fun _=>False) w w4):=(((zb HK).trans (zb HQ)).alloc _).grown hgrow (fun j hj=>Or.inr (zh (zb HT).row j hj).1)
     clear hown' hgrow hsep HT HTq HK HQ HB HM hnb HA1 HA2 HA3
     go_wp2_with fail
     exact ⟨⟨i+1,obs++[wo.heap.size],by go_num,by omega,HT4,HK4⟩,by simp [intOf];omega⟩
  ·obtain rfl:i=n+1:=by omega
   have b1:¬((n+1:Nat):Int)<(n:Int)+1:=by omega
   go_wp2_with fail
   go_ret
   exact ⟨_,rfl,(zb HT).read,zb HK⟩
theorem zb2 (n:Nat)(hn:n≤400)(av bv:Value)(X Y:Nat→Nat→Prop)(w:World)(hA:TbV w av n X)(hB:TbV w bv n Y)(hXY:∀ i j,i≤n→j≤n→(X i j↔Y i j)) :
  Calls Tryz.prog 52 #[av,bv] w fun x w'=>x = .returned (.bool true)∧ze (fun _=>False) w w':=by
 obtain ⟨ga,ca,rfl,hA⟩:=hA
 obtain ⟨gb,cb,rfl,hB⟩:=hB
 have HA:=zc hA
 have HBt:=zc hB
 have HXY:=zc hXY
 clear hA hB hXY
 go_enter Tryz.func52,Tryz.ntmps52
 go_wp2_with fail
 go_loopw [5] (fun iv wr=>∃ (i:Nat),iv = .int .i64 i∧i≤n+1∧Hid (ze (fun _=>False) w wr)) (fun iv _=>n+1-(intOf iv).toNat)
 case atStart=>exact ⟨0,rfl,by omega,ze.refl _ _⟩
 case round=>
  obtain ⟨i,rfl,hi,HK⟩:=hrel
  obtain ⟨wo,rfl⟩:∃ W,W=wr:=⟨_,rfl⟩
  by_cases hlt:i<n+1
  ·have b1:(i:Int)<(n:Int)+1:=by omega
   have b0:(0:Int)≤(i:Int):=by omega
   obtain ⟨oa,ma,a1,a2,a3⟩:=zb HA i hlt
   obtain ⟨ob,mb,e1,e2,e3⟩:=zb HBt i hlt
   have HA1:=zc a1
   have HA2:=zc a2
   have HA3:=zc a3
   have HE1:=zc e1
   have HE2:=zc e2
   have HE3:=zc e3
   clear a1 a2 a3 e1 e2 e3
   go_wp2_with fail
   go_loopw [6] (fun kv wq=>∃ (k:Nat),kv = .int .i64 k∧k≤n+1∧Hid (ze (fun _=>False) w wq)) (fun kv _=>n+1-(intOf kv).toNat)
   case atStart=>exact ⟨0,rfl,by omega,HK⟩
   case round=>
    clear HK
    obtain ⟨k,rfl,hk,HK⟩:=hrel
    have c1:=zg (zb HK) _ _ (zb HA1) (fun f=>f)
    have c3:=zg (zb HK) _ _ (zb HE1) (fun f=>f)
    by_cases hk1:k<n+1
    ·obtain ⟨x,x1,x2⟩:=(zb HA3).at hk1
     obtain ⟨y,y1,y2⟩:=(zb HE3).at hk1
     have hxy:x=y:=Bool.eq_iff_iff.2 (x2.trans ((zb HXY i k (by omega) (by omega)).trans y2.symm))
     subst hxy
     have c2:=zg (zb HK) _ _ ((zb HA2).c k _ x1) (fun f=>f)
     have c4:=zg (zb HK) _ _ ((zb HE2).c k _ y1) (fun f=>f)
     have b3:(0:Int)≤(k:Int):=by omega
     have b4:(k:Int)<(n:Int)+1:=by omega
     clear x1 x2 y1 y2
     cases x
     all_goals go_wp2_with fail
     all_goals go_quiet (fail)
     all_goals go_wp2_with fail
     all_goals exact ⟨⟨k+1,by go_num,by omega,by first |exact HK |exact (zb HK).drewN _ |exact (zb HK).drew⟩,by simp [intOf];omega⟩
    ·obtain rfl:k=n+1:=by omega
     have b4:¬((n+1:Nat):Int)<(n:Int)+1:=by omega
     go_wp2_with fail
     exact ⟨⟨i+1,by go_num,by omega,HK⟩,by simp [intOf];omega⟩
  ·obtain rfl:i=n+1:=by omega
   have b1:¬((n+1:Nat):Int)<(n:Int)+1:=by omega
   go_wp2_with fail
   go_ret
   exact ⟨rfl,zb HK⟩
open Sm (Stp Tree capT)
set_option maxRecDepth 1000000
theorem jU {fn:Func}{t u v x:Tmp}(h:fn.results=#[.tmp t,.tmp u,.tmp v,.tmp x])(tmps:Array Value)(P:Program)(w:World) :
  (results fn tmps).run P w = .ok (.tuple #[tmps.getD t undef,tmps.getD u undef,tmps.getD v undef,tmps.getD x undef]) w:=by
 simp [results,h]
theorem text_of {s:ByteArray}(h:Kc.textB s=true):(Ref.zo s).2<0∧s.size≤400:=by
 unfold Kc.textB at h
 simp at h
 exact ⟨h.1,by omega⟩
theorem Kb {p s:ByteArray}{A:Nat→Prop}{g pb F:Nat}{W:Int→Bool}{cs:List Int}(w:World)(a:Nat→Addr)(hM:PatM w A p g pb F W cs)(hS:Start w a)(hs:s.size≤400)(hc:(Ref.zo s).2<0) :
  Calls Tryz.prog 42 #[.pointer (some ⟨g,0,none⟩),.string s,.int .i64 ((Pro.letM s (s.size+1) 0).length:Nat)] w fun x w'=>∃ v,x = .returned (.tuple #[v,.bool true])∧TbV w' v (Pro.letM s (s.size+1) 0).length (Mng s (Pro.zE p))∧ze (fun _=>False) w w':=by
 refine (kall_any g pb _ s _ W A w a hS hs hc hM.c.ptr hM.c.prog.at').mono ?_
 rintro x w' ⟨v,obs,rfl,hT,hO⟩
 exact ⟨v,rfl,hT.read.congr (fun i j hi _=>Kk s hM.wf hM.ask hi),hO⟩
def TwoOut (w w':World)(p q s:ByteArray)(n:Nat)(x:Ending):Prop:=
 ze (fun _=>False) w w'∧(x = .returned (.tuple #[.slice none 0 0,.slice none 0 0,.int .i64 0,.bool true])∨(qD p∧qD q∧s.size≤400∧(Ref.zo s).2<0∧∃ av bv,x = .returned (.tuple #[av,bv,.int .i64 ((Pro.zD p).v+1+((Pro.zD q).v+1)),.bool true])∧TbV w' av n (Mng s (Pro.zE p))∧TbV w' bv n (Mng s (Pro.zE q))∧(∃ F,Sm.WF F (Pro.zE p))∧(∃ F,Sm.WF F (Pro.zE q))))
theorem Qd (p q s:ByteArray)(w:World)(a:Nat→Addr)(hS:Start w a)(hs:s.size≤1099511627776) :
  Calls Tryz.prog 19 #[.string p,.string q,.string s] w (fun x w'=>TwoOut w w' p q s (Pro.letM s (s.size+1) 0).length x):=by
 have HS:=zc hS
 have HI:=zc (Xe s w hs)
 clear hS
 go_enter Tryz.func19,Tryz.ntmps19
 go_wp2_with (go_at_call 35;refine (zb HI).mono ?_;rintro e w1 ⟨rfl,hO1⟩;refine zb ?_)
 refine zc ?_
 have HO1:=zc hO1
 have HTp:=zc (Z5 p w1 a ((zb HS).keep hO1))
 clear hO1 HI
 go_wp2_with (go_at_call 37;refine zb ?_)
 refine zc ?_
 refine (zb HTp).mono ?_
 rintro x w2 ⟨hO2,hx⟩
 have HO2:=zc ((zb HO1).trans hO2)
 have HTq:=zc (Z5 q w2 a ((zb HS).keep (zb HO2)))
 obtain ⟨xv,rfl,hxv⟩:∃ xv,x = .returned (.pointer xv)∧((xv=none)∨(qD p∧∃ g pb F W cs,xv=some ⟨g,0,none⟩∧PatM w2 (fun k=>w1.heap.size≤k∧k<w2.heap.size) p g pb F W cs)):=by
  rcases hx with ⟨rfl,_⟩ |⟨hI,g,pb,F,W,cs,rfl,hM⟩
  ·exact ⟨_,rfl,.inl rfl⟩
  ·exact ⟨_,rfl,.inr ⟨hI,g,pb,F,W,cs,rfl,hM⟩⟩
 have HX:=zc hxv
 clear hO2 HO1 HTp hx hxv
 go_wp2_with (go_at_call 37;refine zb ?_)
 refine zc ?_
 refine (zb HTq).mono ?_
 rintro y w3 ⟨hO3,hy⟩
 have HO3:=zc ((zb HO2).trans hO3)
 obtain ⟨yv,rfl,hyv⟩:∃ xv,y = .returned (.pointer xv)∧((xv=none)∨(qD q∧∃ g pb F W cs,xv=some ⟨g,0,none⟩∧PatM w3 (fun k=>w2.heap.size≤k∧k<w3.heap.size) q g pb F W cs)):=by
  rcases hy with ⟨rfl,_⟩ |⟨hI,g,pb,F,W,cs,rfl,hM⟩
  ·exact ⟨_,rfl,.inl rfl⟩
  ·exact ⟨_,rfl,.inr ⟨hI,g,pb,F,W,cs,rfl,hM⟩⟩
 have hxv:=zb HX
 have HOk:=zc hO3
 clear hO3 HO2 HTq hy HX
 have HNo:Hid (TwoOut w w3 p q s (Pro.letM s (s.size+1) 0).length (.returned (.tuple #[.slice none 0 0,.slice none 0 0,.int .i64 0,.bool true]))):=⟨zb HO3,.inl rfl⟩
 cases hTB:Kc.textB s with
 |false=>
  clear hxv hyv
  cases xv<;>cases yv
  all_goals go_wp2_with fail
  all_goals ((try simp only [Exit.inBlock,Exit.then]);refine bodyPost_ret (jU rfl _ _ _) rfl ?_)
  all_goals exact zb HNo
 |true=>
  rcases hxv with rfl |⟨hIp,g,pb,F,W,cs,rfl,hM⟩
  ·clear hyv
   cases yv
   all_goals go_wp2_with fail
   all_goals ((try simp only [Exit.inBlock,Exit.then]);refine bodyPost_ret (jU rfl _ _ _) rfl ?_)
   all_goals exact zb HNo
  ·rcases hyv with rfl |⟨hIq,g2,pb2,F2,W2,cs2,rfl,hM2⟩
   ·clear hM hIp
    go_wp2_with fail
    ((try simp only [Exit.inBlock,Exit.then]);refine bodyPost_ret (jU rfl _ _ _) rfl ?_)
    exact zb HNo
   ·have hT:=text_of hTB
    have hlen:=(Prg.yj.of s).len
    have hl4:=Ref.xh s
    have HM:=zc (hM.keep (zb HOk) (fun _ _ f=>f))
    have HM2:=zc hM2
    have HIp:=zc hIp
    have HIq:=zc hIq
    have hvp:=hIp.v
    have hvq:=hIq.v
    have hvp0:0≤(Pro.zD p).v:=((Pro.yF (len:=(p.size:Nat)) (Pro.zQ (L:=Pro.lets p) (len:=(p.size:Nat)) 10) 0 (Nat.zero_le _)).2.2 hIp.rd.k).1
    have hvq0:0≤(Pro.zD q).v:=((Pro.yF (len:=(q.size:Nat)) (Pro.zQ (L:=Pro.lets q) (len:=(q.size:Nat)) 10) 0 (Nat.zero_le _)).2.2 hIq.rd.k).1
    have HTT:=zc hT
    have HA1:=zc (Kb w3 a (zb HM) ((zb HS).keep (zb HO3)) hT.2 hT.1)
    have HA2:Hid (∀ V,ze (fun _=>False) w3 V→_):=fun V hV=>Kb (s:=s) V a ((zb HM2).keep hV (fun _ _ f=>f)) (((zb HS).keep (zb HO3)).keep hV) hT.2 hT.1
    rw [hlen] at hl4 ⊢
    clear hM hM2 hIp hIq hT hlen HNo HOk hTB
    go_wp2_with (go_at_call 42;refine (zb HA1).mono ?_;rintro e w4 ⟨av,rfl,hTa,hO4⟩;refine zb ?_)
    refine zc ?_
    have HTa:=zc hTa
    have HO4:=zc hO4
    have HA3:=zc (zb HA2 w4 hO4)
    clear hTa hO4 HA1 HA2
    go_wp2_with (go_at_call 42;refine (zb HA3).mono ?_;rintro e w5 ⟨bv,rfl,hTb,hO5⟩;refine zb ?_)
    refine zc ?_
    have HTb:=zc hTb
    have HTa5:=zc ((zb HTa).keep hO5)
    have HO5:=zc ((zb HO4).trans hO5)
    have HS1:=zc (kX g _ w5 ((zb HM).keep (zb HO5) (fun _ _ f=>f)).c.size)
    have HS2:Hid (∀ V,ze (fun _=>False) w5 V→_):=fun V hV=>kX g2 _ V (((zb HM2).keep (zb HO5) (fun _ _ f=>f)).keep hV (fun _ _ f=>f)).c.size
    have HFp:Hid (∃ F,Sm.WF F (Pro.zE p)):=⟨_,(zb HM).wf⟩
    have HFq:Hid (∃ F,Sm.WF F (Pro.zE q)):=⟨_,(zb HM2).wf⟩
    clear hTb hO5 HA3 HTa HO4 HM HM2
    generalize hEp:(Pro.zD p).v=vp at *
    generalize hEq:(Pro.zD q).v=vq at *
    have HEp:=zc hEp
    have HEq:=zc hEq
    clear hEp hEq
    have hw:IntKind.i64.wrap (vp+1+(vq+1))=vp+1+(vq+1):=yY _ (by omega) (by omega)
    go_wp2_with (go_at_call 16;refine (zb HS1).mono ?_;rintro e w6 ⟨rfl,hO6⟩;refine zb ?_)
    refine zc ?_
    have HO6:=zc hO6
    have HS3:=zc (zb HS2 w6 hO6)
    clear hO6 HS1 HS2
    go_wp2_with (go_at_call 16;refine (zb HS3).mono ?_;rintro e w7 ⟨rfl,hO7⟩;have HO7:=zc ((zb HO6).trans hO7);clear hO7)
    ((try simp only [Exit.inBlock,Exit.then]);refine bodyPost_ret (jU rfl _ _ _) rfl ?_)
    refine ⟨((zb HO3).trans (zb HO5)).trans (zb HO7),.inr ⟨zb HIp,zb HIq,(zb HTT).2,(zb HTT).1,av,bv,?_,(zb HTa5).keep (zb HO7),(zb HTb).keep (zb HO7),zb HFp,zb HFq⟩⟩
    rw [zb HEp,zb HEq]
    rfl
def Zz (T s:ByteArray)(z:Int)(n:Nat)(Z:Nat→Nat→Prop):Prop:=
 (Ref.zo T).2<0∧1≤z∧z≤1000000∧((Pro.zD T).k=7∨(Pro.Reads T∧(Pro.zD T).v=min (z-1) 301∧∀ i j,i≤n→j≤n→(Mng s (Pro.zE T) i j↔Z i j)))
theorem zb3 {T:ByteArray}(h:(Pro.zD T).k=7):10<Pro.yK T T.size:=by
 have h1:11≤Pro.vK (Pro.lets T) 0:=Pro.whole7 h
 have h2:=Pro.Qj T
 omega
theorem k9 (T s:ByteArray)(z:Int)(wv:Value)(Z:Nat→Nat→Prop)(n:Nat)(hn:n=(Pro.letM s (s.size+1) 0).length)(w:World)(a:Nat→Addr)(hS:Start w a)(hTs:T.size≤4398046511104)(hs:s.size≤400)(hc:(Ref.zo s).2<0)(hW:TbV w wv n Z)(hM:Zz T s z n Z) :
  Calls Tryz.prog 20 #[.string T,.int .i64 z,.string s,.int .i64 (n:Nat),wv] w fun x w'=>x = .returned (.bool true)∧ze (fun _=>False) w w':=by
 obtain ⟨hch,hz1,hz2,hM⟩:=hM
 have hl4:=Ref.xh s
 rw [(Prg.yj.of s).len,←hn] at hl4
 have HS:=zc hS
 have HW:=zc hW
 have HC:=zc (Qk T w a hS)
 have Hn:=zc hn
 have Hc:=zc hc
 clear hS hW hn hc
 go_enter Tryz.func20,Tryz.ntmps20
 go_wp2_with (go_at_call 15;refine zb ?_)
 refine zc ?_
 refine (zb HC).mono ?_
 rintro x w1 ⟨hO1,hx⟩
 have HO1:=zc hO1
 clear hO1 HC
 by_cases q1:200<T.size
 ·have d1:decide ((200:Int)<(T.size:Int))=true:=by simp;omega
  rcases hx with ⟨k,p,k1,k2,rfl,hF⟩ |⟨hI,_⟩
  ·obtain ⟨rfl,rfl⟩:=hF.long q1
   clear hM hF
   go_wp2_with fail
   go_ret
   exact ⟨rfl,zb HO1⟩
  ·have:=hI.size
   omega
 ·have d1:decide ((200:Int)<(T.size:Int))=false:=by simp;omega
  rcases hM with h7 |⟨hR,hv,hZ⟩
  ·rcases hx with ⟨k,p,k1,k2,rfl,hF⟩ |⟨hI,_⟩
   ·obtain rfl:k=7:=(hF.out (by omega) hch (by rw [h7];decide)).trans h7
    have HD:=Jj T w1 hTs
    rw [show decide (10<Pro.yK T T.size)=true by simpa using zb3 h7] at HD
    have HDp:=zc HD
    clear HD h7 hF
    go_wp2_with (go_at_call 39;refine (zb HDp).mono ?_;rintro e w2 ⟨rfl,hO2⟩;have HO2:=zc ((zb HO1).trans hO2);clear hO2)
    go_ret
    exact ⟨rfl,zb HO2⟩
   ·have:=hI.rd.k
    rw [h7] at this
    cases this
  ·by_cases q2:300<z
   ·have d2:decide ((300:Int)<z)=true:=by simpa using q2
    rcases hx with ⟨k,p,k1,k2,rfl,hF⟩ |⟨hI,_⟩
    ·obtain ⟨rfl,rfl⟩:=hF.big (by omega) hR
     clear hF hR hv hZ
     go_wp2_with fail
     go_ret
     exact ⟨rfl,zb HO1⟩
    ·have:=hI.v
     omega
   ·have d2:decide ((300:Int)<z)=false:=by simpa using q2
    rcases hx with ⟨k,p,k1,k2,rfl,hF⟩ |⟨hI,g,pb,F,W,cs,rfl,hP⟩
    ·exact absurd ⟨by omega,hR,by rw [hv];omega⟩ hF.no
    ·have HP:=zc hP
     have hz:(Pro.zD T).v+1=z:=by rw [hv];omega
     have HSz:Hid (Calls Tryz.prog 16 #[.pointer (some ⟨g,0,none⟩)] w1 fun x w'=>x = .returned (.int .i64 z)∧ze (fun _=>False) w1 w'):=by
      have h:=kX g _ w1 hP.c.size
      rw [hz] at h
      exact h
     have HZ:=zc hZ
     clear hP hI hR hv hZ hz
     go_wp2_with (go_at_call 16;refine (zb HSz).mono ?_;rintro e w2 ⟨rfl,hO2⟩;refine zb ?_)
     refine zc ?_
     have HO2:=zc ((zb HO1).trans hO2)
     have HA1:=zc (Kb (s:=s) w2 a ((zb HP).keep hO2 (fun _ _ f=>f)) ((zb HS).keep (zb HO2)) hs (zb Hc))
     rw [←zb Hn] at HA1
     clear hO2 HO1 HSz
     go_wp2_with (go_at_call 42;refine (zb HA1).mono ?_;rintro e w3 ⟨av,rfl,hTa,hO3⟩;refine zb ?_)
     refine zc ?_
     have HO3:=zc ((zb HO2).trans hO3)
     have HSm:=zc (zb2 n (by omega) av wv _ _ w3 hTa ((zb HW).keep (zb HO3)) (zb HZ))
     clear hTa hO3 HO2 HA1
     go_wp2_with (go_at_call 52;refine (zb HSm).mono ?_;rintro e w4 ⟨rfl,hO4⟩;have HO4:=zc ((zb HO3).trans hO4);clear hO4)
     go_ret
     exact ⟨rfl,zb HO4⟩
theorem YE {s:ByteArray}{t:Tree}{i j:Nat}(h:Mng s t i j):i≤j:=by
 obtain ⟨F,_,h⟩:=h
 exact Sm.M_le F t i j h
theorem YF (x:Option Addr)(l c:Nat)(V:World):(binOp .eql 34 (.slice x l c) (.slice none 0 0)).run Tryz.prog V = .ok (.bool x.isNone) V:=by
 have h:=run_equal_slice_nil (P:=Tryz.prog) V 34 56 x l c Tryz.underlying34
 simp [binOp,h]
theorem ZA (n:Nat)(hn:n≤400)(w:World) :
  Calls Tryz.prog 23 #[.int .i64 (n:Nat)] w fun x w'=>∃ v,x = .returned v∧TbV w' v n (fun i j=>i=j)∧ze (fun _=>False) w w':=by
 obtain ⟨i0,hi0,hz0,hz1,hz2⟩:=info_parts Tryz.infoKcB
 have HZ:Hid (∃ Z:Nat→Nat→Prop,Z=fun i j=>i=j):=⟨_,rfl⟩
 obtain ⟨Z,hZ⟩:=zb HZ
 have HZ2:Hid (∀ i j,Z i j↔i=j):=by subst hZ;exact fun _ _=>Iff.rfl
 rw [←hZ]
 clear HZ hZ
 have hmk:∀ w:World,_:=jt (n+1) (by omega)
 rw [show (((n+1:Nat)):Int)=(n:Int)+1 by omega] at hmk
 have hw1:IntKind.i64.wrap ((n:Int)+1)=(n:Int)+1:=yY _ (by omega) (by omega)
 go_enter Tryz.func23,Tryz.ntmps23
 go_wp2_with fail
 go_loopw [3,4] (fun ov iv wr=>∃ (i:Nat) (obs:List Nat),iv = .int .i64 i∧i≤n+1∧Hid (Tb wr w.heap.size ov n i Z obs)∧Hid (ze (fun _=>False) w wr)) (fun _ iv _=>n+1-(intOf iv).toNat)
 case atStart=>exact ⟨0,[],rfl,by omega,⟨rfl,World.ownsRow_nil _ _ _ _,fun i ob h=>by simp at h⟩,ze.refl _ _⟩
 case round=>
  obtain ⟨i,obs,rfl,hi,HT,HK⟩:=hrel
  obtain ⟨xa,xc,rfl⟩:=Qc (zb HT).row
  obtain ⟨wo,rfl⟩:∃ W,W=wr:=⟨_,rfl⟩
  by_cases hlt:i≤n
  ·have b1:(i:Int)≤(n:Int):=by omega
   have b0:(0:Int)≤(i:Int):=by omega
   have b2:(i:Int)<(n:Int)+1:=by omega
   have hB0:xQ (wo.alloc (.cells (madeCells #[.bool false] (n+1)) 4)) wo.heap.size (List.replicate (n+1) false):=xQ.made wo (n+1)
   have hil:i<(List.replicate (n+1) false).length:=by simp;omega
   have d1:=hB0.c i _ (List.getElem?_eq_getElem hil)
   have d2:=hB0.f i _ (List.getElem?_eq_getElem hil)
   have HB0:=zc hB0
   simp only [List.getElem_replicate] at d1 d2
   clear hB0
   go_wp2_with (at_builtin;refine zb ?_)
   refine zc ?_
   have HQ:Hid (ze (fun _=>False) wo ((wo.alloc (.cells (madeCells #[.bool false] (n+1)) 4)).setCell ⟨wo.heap.size,i,none⟩ (.bool true))):=((ze.refl _ _).alloc _).setCell (p:=⟨wo.heap.size,i,none⟩) (.inr (Nat.le_refl _)) _
   have HB:Hid (xQ ((wo.alloc (.cells (madeCells #[.bool false] (n+1)) 4)).setCell ⟨wo.heap.size,i,none⟩ (.bool true)) wo.heap.size ((List.replicate (n+1) false).set i true)):=(zb HB0).set i true
   have HS:Hid (wo.heap.size<((wo.alloc (.cells (madeCells #[.bool false] (n+1)) 4)).setCell ⟨wo.heap.size,i,none⟩ (.bool true)).heap.size):=by show _<_;simp
   have eW:(wo.alloc (.cells (madeCells #[.bool false] (n+1)) 4)).setCell ⟨wo.heap.size,i,none⟩ (.bool true)=wo.alloc (.cells ((madeCells #[.bool false] (n+1)).setIfInBounds i (.bool true)) 4):=World.setCell_alloc_new _ _ _ _
   rw [eW] at HQ HB HS
   have hsz:wo.heap.size+1=(wo.alloc (.cells ((madeCells #[.bool false] (n+1)).setIfInBounds i (.bool true)) 4)).heap.size:=by simp
   clear eW
   generalize wo.alloc (.cells ((madeCells #[.bool false] (n+1)).setIfInBounds i (.bool true)) 4)=wm at *
   rw [hsz]
   have hz:=(zb HK).size
   have hzq:=(zb HQ).size
   have hzs:=zb HS
   have HTq:=zc ((zb HT).keep (zb HQ))
   have hnb:(Value.slice xa i xc).ownBlock≠some wo.heap.size:=fun e=>by have:=(zh (zb HT).row _ e).2;omega
   refine xH _ rfl _ _ 34 rfl w.heap.size 56 i0 (.slice none 0 0) 1 24 Tryz.underlying34 hi0 hz0 hz1 hz2 rfl (by decide) _ _ _ rfl (World.ownsRow.alloc (zb HTq).row _) _ 1 1 [.slice (some ⟨wo.heap.size,0,none⟩) (n+1) (n+1)] rfl rfl (cell_one_new _ _ _) (fun x hx=>by simp at hx;subst hx;rfl) (by unfold maxLen;omega) (by omega) (by simp;omega) ?_
   intro v' w4 hown' hgrow hsep
   have HT4:Hid (Tb w4 w.heap.size v' n (i+1) Z (obs++[wo.heap.size])):=by
    refine Tb.push (w:=wm.alloc _) ((zb HTq).keep ((ze.refl _ _).alloc _)) ((zb HB).keep (P:=fun _=>False) ((ze.refl _ _).alloc _) (fun f=>f)) ⟨by simp,fun j=>?_⟩ (by omega) (by simp;omega) hnb hgrow hown' hsep
    rw [Kc.set_at hil,zb HZ2]
    constructor
    ·rintro (⟨rfl,_⟩ |⟨_,h⟩)
     ·exact ⟨hlt,rfl⟩
     ·simp [List.getElem?_replicate] at h
    ·rintro ⟨_,rfl⟩
     exact .inl ⟨rfl,rfl⟩
   have HK4:Hid (ze (fun _=>False) w w4):=(((zb HK).trans (zb HQ)).alloc _).grown hgrow (fun j hj=>Or.inr (zh (zb HT).row j hj).1)
   clear hown' hgrow hsep HT HTq HK HQ HB hnb HB0 HS d1 d2
   go_wp2_with fail
   exact ⟨⟨i+1,obs++[wo.heap.size],by go_num,by omega,HT4,HK4⟩,by simp [intOf];omega⟩
  ·obtain rfl:i=n+1:=by omega
   have b1:¬((n+1:Nat):Int)≤(n:Int):=by omega
   go_wp2_with fail
   go_ret
   exact ⟨_,rfl,(zb HT).read,zb HK⟩
namespace Kc
theorem pow_short {R:Nat→Nat→Prop}(hR:∀ i j,R i j→i≤j):∀ (k i j:Nat),Sm.pow R k i j→i≤j∧∃ m,m≤j-i∧m≤k∧Sm.pow R m i j
 |0,i,j,h=>by
  have e:i=j:=h
  subst e
  exact ⟨Nat.le_refl _,0,by omega,by omega,rfl⟩
 |k+1,i,j,h=>by
  obtain ⟨m,h1,h2⟩:=h
  have a:=hR _ _ h1
  obtain ⟨b,q,q1,q2,q3⟩:=pow_short hR k m j h2
  refine ⟨by omega,?_⟩
  by_cases e:i=m
  ·subst e
   exact ⟨q,q1,by omega,q3⟩
  ·exact ⟨q+1,by omega,by omega,m,h1,q3⟩
end Kc
theorem pow_iff {R Q:Nat→Nat→Prop}(h:∀ i j,R i j↔Q i j):∀ (k i j:Nat),Sm.pow R k i j↔Sm.pow Q k i j
 |0,_,_=>Iff.rfl
 |k+1,i,j=>⟨fun ⟨m,a,b⟩=>⟨m,(h i m).1 a,(pow_iff h k m j).1 b⟩,fun ⟨m,a,b⟩=>⟨m,(h i m).2 a,(pow_iff h k m j).2 b⟩⟩
theorem mng_rep {s:ByteArray}{t:Tree}{F:Nat}{l hi:Int}(h:Sm.WF F t)(h0:0≤l)(h1:hi = -1∨l≤hi)(i j:Nat):Mng s (Pro.tAlt [Pro.tSeq [Pro.tRep t l hi]]) i j↔∃ k:Nat,l≤k∧(hi = -1∨(k:Int)≤hi)∧Sm.pow (Mng s t) k i j:=by
 have hw:Sm.WF (F+1+1+1) (Pro.tAlt [Pro.tSeq [Pro.tRep t l hi]]):=by
  simp [Sm.WF,Pro.tAlt,Pro.tSeq,Pro.tRep,Sm.Tree.kid,h,h0,h1]
 rw [kh hw]
 have e:∀ k,Sm.pow (Mng s t) k i j↔Sm.pow (Sm.M (Ref.lfT (Ref.zo s).1) (Ref.ahT (Ref.zo s).1) F t) k i j:=fun k=>pow_iff (fun _ _=>kh h) k i j
 simp only [e]
 rw [Sm.M]
 simp only [Pro.tAlt]
 simp
 rw [Sm.M]
 simp only [Pro.tSeq,Sm.q7]
 simp
 rw [Sm.M]
 simp [Pro.tRep,Sm.Tree.kid]
theorem nil_pat:qD ByteArray.empty∧(Pro.zD ByteArray.empty).v=0:=by
 have e0:Pro.zD ByteArray.empty=Pro.altP [] (ByteArray.empty.size:Nat) (Pro.zl [] (ByteArray.empty.size:Nat) 10) 0:=by unfold Pro.zD;rw [Pro.JT]
 have h:=em_out
 rw [←e0] at h
 exact ⟨⟨by decide,⟨em_ch,h.1,by rw [h.2.1,Pro.JT];rfl⟩,by rw [h.2.2];decide⟩,h.2.2⟩
end
end Go.Proofs.YtfnkbmglodopkaaGreatDoor
