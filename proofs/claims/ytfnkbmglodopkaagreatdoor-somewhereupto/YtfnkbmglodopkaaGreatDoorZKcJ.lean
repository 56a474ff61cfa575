/- Somewhere: the law. -/
import Derived.Test.YtfnkbmglodopkaaGreatDoorZKcAKcI
namespace Go.Proofs.YtfnkbmglodopkaaGreatDoor
section
open Go.RowKit
open Sm (Stp Tree capT)
set_option maxHeartbeats 8000000
set_option maxRecDepth 1000000
theorem kown_sl {w:World}{base:Nat}{e:TypeId}{v:Value}{n:Nat}{xs:List Value}(h:w.ownsRow base e 1 v n xs):∃ a c,v = .slice a n c∧∀ (j:Nat) u,xs[j]?=some u→∃ g,a=some ⟨g,0,none⟩∧w.cell? ⟨g,j,none⟩=some u:=by
 have hx:=h.1
 rcases h.2 with ⟨rfl,rfl⟩ |⟨g,cap,cur,rfl,hbg,hg,hnc,hcm,hcs,htake⟩
 ·exact ⟨none,0,rfl,fun j u hj=>by have:=(List.getElem?_eq_some_iff.1 hj).1;omega⟩
 ·exact ⟨_,cap,rfl,fun j u hj=>⟨g,rfl,(h.cellAt _ (by have:=(List.getElem?_eq_some_iff.1 hj).1;omega)).trans hj⟩⟩
theorem Tb.get {w:World}{base n m c:Nat}{a:Option Addr}{X:Nat→Nat→Prop}{obs:List Nat}(h:Tb w base (.slice a m c) n m X obs){i:Nat}(hi:i<m):∃ g ob ms,a=some ⟨g,0,none⟩∧w.cell? ⟨g,i,none⟩=some (.slice (some ⟨ob,0,none⟩) (n+1) (n+1))∧xZ w ob ms∧Kc.Tells n (X i) ms:=by
 have hl:=h.len
 obtain ⟨_,_,_,ms,h4,h5⟩:=h.sub i obs[i] (List.getElem?_eq_getElem (by omega))
 obtain ⟨x,y,e,hc⟩:=kown_sl h.row
 simp at e
 obtain ⟨g,hg,hcell⟩:=hc i (.slice (some ⟨obs[i],0,none⟩) (n+1) (n+1)) (by unfold ZN;rw [List.getElem?_map,List.getElem?_eq_getElem (by omega)];rfl)
 exact ⟨g,obs[i],ms,by rw [e.1,hg],hcell,h4,h5⟩
theorem YI (s:ByteArray)(ts:List ByteArray)(tv ev:Value)(states:Int)(ks:List Int)(w:World)(a:Nat→Addr)(hB:Begun w a w.heap.size)(hT:StrSl w tv ts)(hE:qW w (fun g=>g<w.heap.size) ev ks)(htl:ts.length<4611686018427387904)(hkl:ks.length<4611686018427387904)(h1:-9223372036854775808≤states)(h2:states≤9223372036854775807)(hsz:∀ t∈ts,t.size≤1099511627776) :
  Calls Tryz.prog 12 #[.string s,tv,.int .i64 states,ev] w fun x w'=>x = .returned (.bool true)∧zd (fun _=>False) w w':=by
 obtain ⟨ta,tc,rfl⟩:=hT.slice
 obtain ⟨ea,ec,rfl⟩:=hE.slice
 have HB:=zb hB
 have HT:=zb hT
 have HE:=zb hE
 have HSz:=zb hsz
 have HSu:=zb (sure_any w a _ hB)
 have HP1:=zb (Vu states · h1 h2)
 clear hB hT hE hsz
 go_enter Tryz.func12,Tryz.ntmps12
 go_wp2_with (go_at_call 14;refine (za HSu).mono ?_;rintro e w1 ⟨rfl,hO1⟩;refine za ?_)
 refine zb ?_
 have hB1:=(za HB).keep hO1 (fun _ f=>f.elim)
 have HTk:=zb (Vs s w1 a hB1.st)
 have HO1:=zb hO1
 clear hO1 hB1 HSu
 go_wp2_with (go_at_call 37;refine za ?_)
 refine zb ?_
 refine (za HTk).mono ?_
 rintro x w2 ⟨hO2,rfl |⟨g,pb,F,t,W,cs,v,rfl,hX,hF⟩⟩
 ·have HO2:=zb ((za HO1).trans hO2)
  clear hO2 HTk
  go_wp2_with fail
  go_ret
  exact ⟨rfl,za HO2⟩
 ·have hB2:=((za HB).keep (za HO1) (fun _ f=>f.elim)).keep hO2 (fun _ f=>f.elim)
  have HO2:=zb ((za HO1).trans hO2)
  have HB2:=zb hB2
  have HX:=zb hX
  generalize (Sm.prg F t).2=N at *
  generalize (Sm.prg F t).1=st at *
  generalize (fun k=>w1.heap.size≤k∧k<w2.heap.size)=A at *
  clear hO2 hX hF hB2 HTk
  go_wp2_with (go_at_call 24;refine (za HP1 w2).mono ?_;rintro e wq ⟨m1,rfl,hm1,hwq⟩;obtain rfl:=hwq.symm;clear hwq;refine za ?_)
  refine zb ?_
  have HF1:Hid (Calls Tryz.prog 40 #[.pointer (some ⟨g,0,none⟩),.int .i64 (2+(m1:Int))] w2 fun x w'=>∃ fb sb mb,x = .returned (.tuple #[.pointer (some ⟨fb,0,none⟩),.int .i64 0])∧w2.heap.size≤fb∧w2.heap.size≤sb∧w2.heap.size≤mb∧Fdr w' A (fun k=>k=sb∨k=mb) (fun _=>False) fb sb pb mb (2+m1) N st W cs [] (.slice none 0 0)∧zd (fun _=>False) w2 w'):=by
   have h:=Yd g pb st (2+m1) A N W cs _ w2 (za HX) (za HB2).tab (by omega) (by omega)
   rw [show (((2+m1:Nat):Int))=2+(m1:Int) by omega] at h
   exact h
  go_wp2_with (go_at_call 40;refine (za HF1).mono ?_;rintro e w3 ⟨fb1,sb1,mb1,rfl,hfb1,hsb1,hmb1,hFd1,hO3⟩;refine za ?_)
  refine zb ?_
  have HPr:Hid (One w w3 a A g pb N st W cs (min (v+1) 301) ⟨fun k=>k=sb1∨k=mb1,fun _=>False,fb1,sb1,mb1,2+m1,[],.slice none 0 0⟩):=by
   have s2:=(za HO2).size
   exact ⟨hFd1,(za HX).keep hO3 (fun _ _ f=>f),fun k hk=>(by rcases hk with rfl |rfl<;>omega),(za HB2).keep hO3 (fun _ f=>f.elim),(za HO2).trans hO3⟩
  clear hFd1 hO3 HF1 HX HB2 HO2 HO1 HP1 hfb1 hsb1 hmb1
  generalize min (v+1) 301=z at *
  go_wp2_with fail
  go_loopw [14] (fun k wr=>∃ (n:Nat) (F:Fd),k = .int .i64 n∧n≤ts.length∧Hid (One w wr a A g pb N st W cs z F∧F.fb=fb1∧F.most=2+m1)) (fun k _=>ts.length-(intOf k).toNat)
  case atStart=>exact ⟨0,_,rfl,by omega,za HPr,rfl,rfl⟩
  case round=>
   clear HPr
   obtain ⟨n,F1,rfl,hn,HQ⟩:=hrel
   by_cases hlt:n<ts.length
   ·obtain ⟨g9,off,rfl,_,d1⟩:=(za HT).get hlt
    have d2:=zf (za HQ).1.only _ _ d1 (fun f=>f)
    have hF1:Calls Tryz.prog 41 #[.pointer (some ⟨fb1,0,none⟩),.string ts[n],.slice ea ks.length ec] wr (fun x w'=>qz wr w' ts[n] A F1.O F1.D F1.fb F1.sb pb F1.mb F1.most N st W cs x):=by
     rw [←(za HQ).2.1]
     exact wS F1.fb F1.sb pb F1.mb F1.most st A F1.O F1.D N W cs F1.es F1.sv _ ts[n] ks wr a (za HQ).1.bg.st (za HQ).1.f ((za HE).keep (za HQ).1.only (fun _ _ f=>f)).any hkl
    have HF1:=zb hF1
    have HD1:=zb d1
    have hzt:=za HSz ts[n] (List.getElem_mem hlt)
    have b1:(0:Int)≤(n:Int):=by omega
    have b2:(n:Int)<(ts.length:Int):=by omega
    clear hF1 d1 HSz
    generalize ts[n]=tx at *
    go_wp2_with (go_at_call 41;refine (za HF1).mono ?_;intro e w5 hL1;obtain ⟨r1,k1,p1,F2,rfl,hA1,hQ1,hf1,hf2,hf3⟩:=(za HQ).1.step hL1;refine za ?_)
    refine zb ?_
    have d3:=zf hQ1.only _ _ (za HD1) (fun f=>f)
    have HQ1:Hid (One w w5 a A g pb N st W cs z F2∧F2.fb=fb1∧F2.most=2+m1):=⟨hQ1,hf1.trans (za HQ).2.1,hf2.trans (za HQ).2.2⟩
    have HA1:=zb (Vp hA1 hQ1.c.prog.at')
    have HLv:=zb hf3
    have HI:=zb (QA tx w5 hzt)
    clear hQ1 hA1 hf1 hf2 hf3 hL1 HF1 d2 HQ
    go_wp2_with (go_at_call 35;refine (za HI).mono ?_;rintro e w6 ⟨rfl,hO6⟩;refine za ?_)
    refine zb ?_
    have d4:=zf hO6 _ _ d3 (fun f=>f)
    have HQ2:Hid (One w w6 a A g pb N st W cs z F2∧F2.fb=fb1∧F2.most=2+m1):=⟨(za HQ1).1.young hO6,(za HQ1).2⟩
    clear hO6 d3 HI HQ1
    rcases za HA1 with ⟨t1,t2,t3⟩ |⟨t1,t2,t3,t4,t5,t6⟩
    ·rw [t1]
     subst t2
     clear HA1 HLv t1
     rcases t3 with rfl |rfl
     all_goals go_wp2_with fail
     all_goals exact ⟨⟨n+1,F2,by go_num,by omega,HQ2⟩,by simp [intOf];omega⟩
    ·rw [t1,(Prg.jO.of tx).len]
     subst t4
     subst t5
     have HAl:=zb (kall_any g pb st tx N W A w6 a (za HQ2).1.bg.st t2 t3 (za HQ2).1.c.ptr (za HQ2).1.c.prog.at')
     have hL4:(Pro.letM tx (tx.size+1) 0).length≤400:=by have h:=Ref.jk tx;rw [(Prg.jO.of tx).len] at h;omega
     have HLv1:=zb (za HLv rfl)
     have HR:=zb t6
     clear t1 t2 t3 t6 HA1 HLv
     generalize hXX:(fun i=>Prg.GoP W (Pro.letM tx (tx.size+1) 0) N st i 0)=X at HAl
     have HR2:Hid (r1=true↔∃ i j,i≤(Pro.letM tx (tx.size+1) 0).length∧j≤(Pro.letM tx (tx.size+1) 0).length∧X i j):=by subst hXX;exact za HR
     clear HR hXX
     generalize (Pro.letM tx (tx.size+1) 0).length=q at *
     go_wp2_with (go_at_call 42;refine (za HAl).mono ?_;rintro e w7 ⟨tv,obs,rfl,hTb,hO7⟩;refine za ?_)
     refine zb ?_
     have HQ3:Hid (One w w7 a A g pb N st W cs z F2∧F2.fb=fb1∧F2.most=2+m1):=⟨(za HQ2).1.young hO7,(za HQ2).2⟩
     have HTb:=zb hTb
     obtain ⟨xa,xc,rfl⟩:=own_n hTb.row
     clear hTb hO7 HAl HQ2 d4
     go_wp2_with fail
     go_loopw [22,23] (fun av kv wq=>∃ (k:Nat) (b:Bool),kv = .int .i64 k∧av = .bool b∧k≤q+1∧Hid (b=true↔∃ i j,i<k∧j≤q∧X i j)∧Hid (zd (fun _=>False) w7 wq)) (fun _ kv _=>q+1-(intOf kv).toNat)
     case atStart=>exact ⟨0,false,rfl,rfl,by omega,⟨fun h=>by simp at h,fun ⟨i,j,h,_⟩=>by omega⟩,zd.refl _ _⟩
     case round=>
      obtain ⟨k,b,rfl,rfl,hk,HBk,HKq⟩:=hrel
      by_cases hk1:k<q+1
      ·obtain ⟨gt,ob,ms,rfl,c1,hOb,hTe⟩:=((za HTb).keep (za HKq)).get hk1
       have HOb:=zb hOb
       have HTe:=zb hTe
       have c0:=c1
       have e1:(0:Int)≤(k:Int):=by omega
       have e2:(k:Int)<(q:Int)+1:=by omega
       have HC1:=zb c1
       clear hOb hTe c1
       go_wp2_with fail
       go_loopw [22,24] (fun av jv wx=>∃ (j:Nat) (b':Bool),jv = .int .i64 j∧av = .bool b'∧j≤q+1∧Hid (b'=true↔b=true∨∃ j',j'<j∧X k j')∧Hid (zd (fun _=>False) wr wx)) (fun _ jv _=>q+1-(intOf jv).toNat)
       case atStart=>exact ⟨0,b,rfl,rfl,by omega,⟨.inl,fun h=>h.elim id (fun ⟨j,h,_⟩=>by omega)⟩,zd.refl _ _⟩
       case round=>
        obtain ⟨j,b',rfl,rfl,hj,HBj,HKx⟩:=hrel
        have c1:=zf (za HKx) _ _ (za HC1) (fun f=>f)
        clear c0
        by_cases hj1:j<q+1
        ·have hjm:j<ms.length:=by have:=(za HTe).1;omega
         have c2:=zf (za HKx) _ _ ((za HOb).c j _ (List.getElem?_eq_getElem hjm)) (fun f=>f)
         have HM:Hid (ms[j]=true↔j≤q∧X k j):=by
          have h:=(za HTe).2 j
          rw [List.getElem?_eq_getElem hjm] at h
          show _↔_
          simpa using h
         have e3:(0:Int)≤(j:Int):=by omega
         have e4:(j:Int)<(q:Int)+1:=by omega
         generalize ms[j]=mj at *
         cases b'
         ·have HN:Hid (mj=true↔b=true∨∃ j',j'<j+1∧X k j'):=by
           have h0:=za HBj
           have h1:=za HM
           constructor
           ·intro h
            exact .inr ⟨j,by omega,(h1.1 h).2⟩
           ·rintro (h |⟨j',h2,h3⟩)
            ·exact absurd (h0.2 (.inl h)) (by simp)
            ·by_cases e:j'=j
             ·subst e
              exact h1.2 ⟨by omega,h3⟩
             ·exact absurd (h0.2 (.inr ⟨j',by omega,h3⟩)) (by simp)
          clear HM HBj
          go_wp2_with fail
          exact ⟨⟨j+1,mj,by go_num,rfl,by omega,HN,HKx⟩,by simp [intOf];omega⟩
         ·have HN:Hid (true=true↔b=true∨∃ j',j'<j+1∧X k j'):=by
           have h0:=za HBj
           exact ⟨fun _=>(h0.1 rfl).imp id (fun ⟨j',h2,h3⟩=>⟨j',by omega,h3⟩),fun _=>rfl⟩
          clear HM HBj
          go_wp2_with fail
          exact ⟨⟨j+1,true,by go_num,rfl,by omega,HN,HKx⟩,by simp [intOf];omega⟩
        ·obtain rfl:j=q+1:=by omega
         have e3:¬((q+1:Nat):Int)<(q:Int)+1:=by omega
         have HN:Hid (b'=true↔∃ i j,i<k+1∧j≤q∧X i j):=by
          have h0:=za HBj
          have h1:=za HBk
          constructor
          ·intro h
           rcases h0.1 h with h2 |⟨j',h2,h3⟩
           ·obtain ⟨i,j,h3,h4,h5⟩:=h1.1 h2
            exact ⟨i,j,by omega,h4,h5⟩
           ·exact ⟨k,j',by omega,by omega,h3⟩
          ·rintro ⟨i,j,h2,h3,h4⟩
           by_cases e:i=k
           ·subst e
            exact h0.2 (.inr ⟨j,by omega,h4⟩)
           ·exact h0.2 (.inl (h1.2 ⟨i,j,by omega,h3,h4⟩))
         clear HBj HBk
         go_wp2_with fail
         exact ⟨⟨k+1,b',by go_num,rfl,by omega,HN,(za HKq).trans (za HKx)⟩,by simp [intOf];omega⟩
      ·obtain rfl:k=q+1:=by omega
       have hbr:b=r1:=Bool.eq_iff_iff.2 ((za HBk).trans ⟨fun ⟨i,j,h1,h2,h3⟩=>(za HR2).2 ⟨i,j,by omega,h2,h3⟩,fun h=>by obtain ⟨i,j,h1,h2,h3⟩:=(za HR2).1 h;exact ⟨i,j,by omega,h2,h3⟩⟩)
       subst hbr
       have HQ4:Hid (One w wr a A g pb N st W cs z F2∧F2.fb=fb1∧F2.most=2+m1):=⟨(za HQ3).1.young (za HKq),(za HQ3).2⟩
       have HLi:Hid (Calls Tryz.prog 43 #[.pointer (some ⟨fb1,0,none⟩)] wr fun x w'=>x = .returned (.int .i64 (F2.es.length:Nat))∧w'=wr):=by
        have h:=Vr F2.fb F2.sb pb F2.mb F2.most st A F2.O F2.D N W cs F2.es F2.sv wr (za HQ4).1.f
        rw [(za HQ4).2.1] at h
        exact h
       have hl1:=za HLv1
       have hl2:=(za HQ4).1.f.len
       rw [(za HQ4).2.2] at hl2
       have e1:¬((q+1:Nat):Int)<(q:Int)+1:=by omega
       clear HBk HR2 HKq HQ3 HTb HLv1
       generalize F2.es.length=lv at *
       have e2:decide (lv<1)=false:=by simp;omega
       have e3:decide (2+m1<lv)=false:=by simp;omega
       go_wp2_with (go_at_call 43;refine (za HLi).mono ?_;rintro e wq ⟨rfl,hwq⟩;obtain rfl:=hwq.symm;clear hwq)
       cases b
       all_goals exact ⟨⟨n+1,F2,by go_num,by omega,HQ4⟩,by simp [intOf];omega⟩
   ·obtain rfl:n=ts.length:=by omega
    go_wp2_with fail
    go_ret
    exact ⟨rfl,(za HQ).1.only⟩
end
end Go.Proofs.YtfnkbmglodopkaaGreatDoor
