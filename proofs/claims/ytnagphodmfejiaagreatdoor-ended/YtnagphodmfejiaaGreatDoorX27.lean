/- The library's sort of a row of characters: parting it. -/
import Derived.Test.YtnagphodmfejiaaGreatDoorX26
import Derived.Shelf.SlSortCmp.WholeK
import Derived.Ground.SlsfProg
import Derived.Laws.Bits64b
import Derived.Deep.Cut
import Derived.Deep.CutRange
import Derived.Deep.CutBlock
namespace Go.Proofs.YtnagphodmfejiaaGreatDoor
section
open Go.RowKit
set_option maxHeartbeats 4000000
set_option maxRecDepth 1000000
theorem partR (blk off n cap a b p:Nat)(w:World)(h:jZ w blk off n)(hap:a≤p)(hpb:p<b)(hb:b≤n)(hn:n<1099511627776) :
  Calls Tryz.prog 203 #[.slice (some ⟨blk,off,none⟩) n cap,.int .i64 a,.int .i64 b,.int .i64 p] w fun e w'=>∃ (m:Nat) (r:Bool),e = .returned (.tuple #[.int .i64 m,.bool r])∧a≤m∧m<b∧zL w blk off n w':=by
 obtain ⟨G,hcw,hfw⟩:=h
 have HH:Hid (zL w blk off n w):=zL.refl ⟨G,hcw,hfw⟩
 go_enter Tryz.func203,Tryz.ntmps203
 have hpn:p<n:=by omega
 have d2:=hcw p hpn
 have g2:=hfw p hpn
 have d1:=hcw a (by omega)
 have g1:=hfw a (by omega)
 obtain ⟨y,hy⟩:∃ y,y=G p:=⟨_,rfl⟩
 obtain ⟨z,hz⟩:∃ z,z=G a:=⟨_,rfl⟩
 rw [←hy] at d2
 rw [←hz] at d1
 rcases Nat.lt_or_ge a p with hpa |hpa
 ·go_wp2_with fail
  go_region
  go_wp2_with fail
  clear d1 d2 g1 g2 hcw hfw
  skip
  obtain ⟨i,hi⟩:∃ i,i=a+1:=⟨_,rfl⟩
  obtain ⟨j,hj⟩:∃ j,j=b-1:=⟨_,rfl⟩
  have e1:(a:Int)+1=(i:Nat):=by omega
  have e2:(b:Int)-1=(j:Nat):=by omega
  have hai:a<i:=by omega
  have hij:i≤j+1:=by omega
  have hjb:j<b:=by omega
  simp only [e1,e2]
  clear e1 e2 hi hj
  have HS:=ze (((zb HH).set (off+a) (G p)).set (off+p) (G a)).drew
  obtain ⟨G,hcw,hfw⟩:=(zb HS).2
  have HG:Hid (xr _ blk off n G):=⟨hcw,hfw⟩
  go_loopw [10] (fun vi wr2=>∃ i2:Nat,vi = .int .i64 i2∧i≤i2∧i2≤j+1∧Hid (zL w blk off n wr2)∧Hid (xr wr2 blk off n G)) (fun vi _=>j+1-(intOf vi).toNat)
  case atStart=>exact ⟨i,rfl,Nat.le_refl _,hij,HS,HG⟩
  case round=>
   clear HS HG
   obtain ⟨i2,rfl,hai2,hij2,HS,HG⟩:=hrel
   by_cases hle1:i2≤j
   ·clear hcw hfw
    obtain ⟨hcw,hfw⟩:=zb HG
    go_wp2_with fail
    go_big_quiet (first |(go_at_call 201;refine Calls.quiet_of_same (zH _ _ _)))
    go_wp2_with fail
    ·go_roundw
     case rel=>exact ⟨i2+1,by go_num,by omega,by omega,(zb HS).drewN _,zb HG⟩
     case measure=>simp [intOf];omega
    ·have hf1:Sort.ltInt (G i2) (G a)=false:=by assumption
     revert nq;intro nq1
     have HS2:=ze ((zb HS).drewN nq1)
     have HG2:Hid (xr (wr.drewN nq1) blk off n G):=zb HG
     clear hcw hfw HS HG
     generalize wr.drewN nq1=wr5 at *
     have HS:=HS2
     have HG:=HG2
     clear HS2 HG2
     obtain ⟨hcw,hfw⟩:=zb HG
     go_loopw [11] (fun vj wr3=>∃ j2:Nat,vj = .int .i64 j2∧i2≤j2+1∧j2≤j∧Hid (zL w blk off n wr3)∧Hid (xr wr3 blk off n G)) (fun vj _=>(intOf vj).toNat)
     case atStart=>exact ⟨j,rfl,by omega,Nat.le_refl _,HS,HG⟩
     case round=>
      clear HS HG
      obtain ⟨j2,rfl,hij2,hj2,HS,HG⟩:=hrel
      by_cases hle:i2≤j2
      ·have hgt:decide ((j2:Int)<(i2:Int))=false:=by simp;omega
       clear hcw hfw
       obtain ⟨hcw,hfw⟩:=zb HG
       go_wp2_with fail
       go_big_quiet (first |(go_at_call 201;refine Calls.quiet_of_same (zH _ _ _)))
       go_wp2_with fail
       ·go_roundw
        case rel=>exact ⟨j2-1,by congr 1;omega,by omega,by omega,(zb HS).drewN _,zb HG⟩
        case measure=>simp [intOf];omega
       ·have hf2:Sort.ltInt (G j2) (G a)=true:=by simpa using (by assumption:(!Sort.ltInt (G j2) (G a))=false)
        have hlt:i2<j2:=by
         rcases Nat.lt_or_ge i2 j2 with h |h
         ·exact h
         ·obtain rfl:i2=j2:=by omega
          exact absurd hf2 (by rw [hf1];simp)
        revert nq;intro nq2
        have HS2:=ze ((zb HS).drewN nq2)
        clear hcw hfw
        obtain ⟨hcw,hfw⟩:xr (wr.drewN nq2) blk off n G:=zb HG
        clear HS HG
        generalize wr.drewN nq2=wr4 at *
        go_region
        go_wp2_with fail
        go_loopw [10,11] (fun vi vj wr=>∃ i j:Nat,vi = .int .i64 i∧vj = .int .i64 j∧a<i∧i≤j+1∧j<b∧Hid (zL w blk off n wr)) (fun vi vj _=>(intOf vj+1-intOf vi).toNat)
        case atStart=>exact ⟨i2+1,j2-1,by go_num,by congr 1;omega,by omega,by omega,by omega,zJ (zb HS2)⟩
        case round=>
         clear HS2 hcw hfw hf1 hf2
         obtain ⟨i,j,rfl,rfl,hai,hij,hjb,HS⟩:=hrel
         obtain ⟨G,hcw,hfw⟩:=(zb HS).2
         have HG:Hid (xr wr blk off n G):=⟨hcw,hfw⟩
         go_wp2_with fail
         go_loopw [10] (fun vi wr2=>∃ i2:Nat,vi = .int .i64 i2∧i≤i2∧i2≤j+1∧Hid (zL w blk off n wr2)∧Hid (xr wr2 blk off n G)) (fun vi _=>j+1-(intOf vi).toNat)
         case atStart=>exact ⟨i,rfl,Nat.le_refl _,hij,HS,HG⟩
         case round=>
          clear HS HG
          obtain ⟨i2,rfl,hai2,hij2,HS,HG⟩:=hrel
          by_cases hle1:i2≤j
          ·clear hcw hfw
           obtain ⟨hcw,hfw⟩:=zb HG
           go_wp2_with fail
           go_big_quiet (first |(go_at_call 201;refine Calls.quiet_of_same (zH _ _ _)))
           go_wp2_with fail
           ·go_roundw
            case rel=>exact ⟨i2+1,by go_num,by omega,by omega,(zb HS).drewN _,zb HG⟩
            case measure=>simp [intOf];omega
           ·have hf1:Sort.ltInt (G i2) (G a)=false:=by assumption
            revert nq;intro nq1
            have HS2:=ze ((zb HS).drewN nq1)
            have HG2:Hid (xr (wr.drewN nq1) blk off n G):=zb HG
            clear hcw hfw HS HG
            generalize wr.drewN nq1=wr5 at *
            have HS:=HS2
            have HG:=HG2
            clear HS2 HG2
            obtain ⟨hcw,hfw⟩:=zb HG
            go_loopw [11] (fun vj wr3=>∃ j2:Nat,vj = .int .i64 j2∧i2≤j2+1∧j2≤j∧Hid (zL w blk off n wr3)∧Hid (xr wr3 blk off n G)) (fun vj _=>(intOf vj).toNat)
            case atStart=>exact ⟨j,rfl,by omega,Nat.le_refl _,HS,HG⟩
            case round=>
             clear HS HG
             obtain ⟨j2,rfl,hij2,hj2,HS,HG⟩:=hrel
             by_cases hle:i2≤j2
             ·have hgt:decide ((j2:Int)<(i2:Int))=false:=by simp;omega
              clear hcw hfw
              obtain ⟨hcw,hfw⟩:=zb HG
              go_wp2_with fail
              go_big_quiet (first |(go_at_call 201;refine Calls.quiet_of_same (zH _ _ _)))
              go_wp2_with fail
              ·go_roundw
               case rel=>exact ⟨j2-1,by congr 1;omega,by omega,by omega,(zb HS).drewN _,zb HG⟩
               case measure=>simp [intOf];omega
              ·have hf2:Sort.ltInt (G j2) (G a)=true:=by simpa using (by assumption:(!Sort.ltInt (G j2) (G a))=false)
               have hlt:i2<j2:=by
                rcases Nat.lt_or_ge i2 j2 with h |h
                ·exact h
                ·obtain rfl:i2=j2:=by omega
                 exact absurd hf2 (by rw [hf1];simp)
               revert nq;intro nq2
               have HS2:=ze ((zb HS).drewN nq2)
               clear hcw hfw
               obtain ⟨hcw,hfw⟩:xr (wr.drewN nq2) blk off n G:=zb HG
               clear HS HG
               generalize wr.drewN nq2=wr4 at *
               go_region
               go_wp2_with fail
               go_roundw
               case rel=>exact ⟨i2+1,j2-1,by go_num,by congr 1;omega,by omega,by omega,by omega,zJ (zb HS2)⟩
               case measure=>simp [intOf];omega
             ·have hgt:(j2:Int)<(i2:Int):=by omega
              have hgd:decide ((i2:Int)≤(j2:Int))=false:=by simp;omega
              go_wp2_with fail
              go_big_quiet (first |(go_at_call 201;refine Calls.quiet_of_same (zH _ _ _)))
              go_wp2_with fail
              have HT:=ze ((zb HS).drewN nq)
              have HGT:Hid (xr (wr.drewN nq) blk off n G):=zb HG
              clear HS HG
              generalize wr.drewN nq=wr4 at *
              obtain ⟨hcw,hfw⟩:=zb HGT
              have d1:=hcw a (by omega)
              have g1:=hfw a (by omega)
              have d2:=hcw j2 (by omega)
              have g2:=hfw j2 (by omega)
              clear hcw hfw
              rcases Nat.lt_or_ge a j2 with hq |hq
              ·go_region
               go_wp2_with fail
               go_ret2
               exact ⟨j2,_,rfl,by omega,by omega,zJ (zb HT)⟩
              ·obtain rfl:a=j2:=by omega
               go_region
               go_wp2_with fail
               go_ret2
               exact ⟨a,_,rfl,by omega,by omega,(by first |exact zJ (zb HT) |exact ((zb HT).drewN _).set _ _)⟩
          ·have hgd1:decide ((i2:Int)≤(j:Int))=false:=by simp;omega
           go_wp2_with fail
           go_big_quiet (first |(go_at_call 201;refine Calls.quiet_of_same (zH _ _ _)))
           go_wp2_with fail
           have HS2:=ze ((zb HS).drewN nq)
           have HG2:Hid (xr (wr.drewN nq) blk off n G):=zb HG
           clear HS HG
           generalize wr.drewN nq=wr5 at *
           have HS:=HS2
           have HG:=HG2
           clear HS2 HG2
           obtain ⟨hcw,hfw⟩:=zb HG
           go_loopw [11] (fun vj wr3=>∃ j2:Nat,vj = .int .i64 j2∧i2≤j2+1∧j2≤j∧Hid (zL w blk off n wr3)∧Hid (xr wr3 blk off n G)) (fun vj _=>(intOf vj).toNat)
           case atStart=>exact ⟨j,rfl,by omega,Nat.le_refl _,HS,HG⟩
           case round=>
            clear HS HG
            obtain ⟨j2,rfl,hij2,hj2,HS,HG⟩:=hrel
            have hle:¬i2≤j2:=by omega
            ·have hgt:(j2:Int)<(i2:Int):=by omega
             have hgd:decide ((i2:Int)≤(j2:Int))=false:=by simp;omega
             go_wp2_with fail
             go_big_quiet (first |(go_at_call 201;refine Calls.quiet_of_same (zH _ _ _)))
             go_wp2_with fail
             have HT:=ze ((zb HS).drewN nq)
             have HGT:Hid (xr (wr.drewN nq) blk off n G):=zb HG
             clear HS HG
             generalize wr.drewN nq=wr4 at *
             obtain ⟨hcw,hfw⟩:=zb HGT
             have d1:=hcw a (by omega)
             have g1:=hfw a (by omega)
             have d2:=hcw j2 (by omega)
             have g2:=hfw j2 (by omega)
             clear hcw hfw
             rcases Nat.lt_or_ge a j2 with hq |hq
             ·go_region
              go_wp2_with fail
              go_ret2
              exact ⟨j2,_,rfl,by omega,by omega,zJ (zb HT)⟩
             ·obtain rfl:a=j2:=by omega
              go_region
              go_wp2_with fail
              go_ret2
              exact ⟨a,_,rfl,by omega,by omega,(by first |exact zJ (zb HT) |exact ((zb HT).drewN _).set _ _)⟩
      ·have hgt:(j2:Int)<(i2:Int):=by omega
       have hgd:decide ((i2:Int)≤(j2:Int))=false:=by simp;omega
       go_wp2_with fail
       go_big_quiet (first |(go_at_call 201;refine Calls.quiet_of_same (zH _ _ _)))
       go_wp2_with fail
       have HT:=ze ((zb HS).drewN nq)
       have HGT:Hid (xr (wr.drewN nq) blk off n G):=zb HG
       clear HS HG
       generalize wr.drewN nq=wr4 at *
       obtain ⟨hcw,hfw⟩:=zb HGT
       have d1:=hcw a (by omega)
       have g1:=hfw a (by omega)
       have d2:=hcw j2 (by omega)
       have g2:=hfw j2 (by omega)
       clear hcw hfw
       rcases Nat.lt_or_ge a j2 with hq |hq
       ·go_region
        go_wp2_with fail
        go_ret2
        exact ⟨j2,_,rfl,by omega,by omega,zJ (zb HT)⟩
       ·obtain rfl:a=j2:=by omega
        go_region
        go_wp2_with fail
        go_ret2
        exact ⟨a,_,rfl,by omega,by omega,(by first |exact zJ (zb HT) |exact ((zb HT).drewN _).set _ _)⟩
   ·have hgd1:decide ((i2:Int)≤(j:Int))=false:=by simp;omega
    go_wp2_with fail
    go_big_quiet (first |(go_at_call 201;refine Calls.quiet_of_same (zH _ _ _)))
    go_wp2_with fail
    have HS2:=ze ((zb HS).drewN nq)
    have HG2:Hid (xr (wr.drewN nq) blk off n G):=zb HG
    clear HS HG
    generalize wr.drewN nq=wr5 at *
    have HS:=HS2
    have HG:=HG2
    clear HS2 HG2
    obtain ⟨hcw,hfw⟩:=zb HG
    go_loopw [11] (fun vj wr3=>∃ j2:Nat,vj = .int .i64 j2∧i2≤j2+1∧j2≤j∧Hid (zL w blk off n wr3)∧Hid (xr wr3 blk off n G)) (fun vj _=>(intOf vj).toNat)
    case atStart=>exact ⟨j,rfl,by omega,Nat.le_refl _,HS,HG⟩
    case round=>
     clear HS HG
     obtain ⟨j2,rfl,hij2,hj2,HS,HG⟩:=hrel
     have hle:¬i2≤j2:=by omega
     ·have hgt:(j2:Int)<(i2:Int):=by omega
      have hgd:decide ((i2:Int)≤(j2:Int))=false:=by simp;omega
      go_wp2_with fail
      go_big_quiet (first |(go_at_call 201;refine Calls.quiet_of_same (zH _ _ _)))
      go_wp2_with fail
      have HT:=ze ((zb HS).drewN nq)
      have HGT:Hid (xr (wr.drewN nq) blk off n G):=zb HG
      clear HS HG
      generalize wr.drewN nq=wr4 at *
      obtain ⟨hcw,hfw⟩:=zb HGT
      have d1:=hcw a (by omega)
      have g1:=hfw a (by omega)
      have d2:=hcw j2 (by omega)
      have g2:=hfw j2 (by omega)
      clear hcw hfw
      rcases Nat.lt_or_ge a j2 with hq |hq
      ·go_region
       go_wp2_with fail
       go_ret2
       exact ⟨j2,_,rfl,by omega,by omega,zJ (zb HT)⟩
      ·obtain rfl:a=j2:=by omega
       go_region
       go_wp2_with fail
       go_ret2
       exact ⟨a,_,rfl,by omega,by omega,(by first |exact zJ (zb HT) |exact ((zb HT).drewN _).set _ _)⟩
 ·obtain rfl:a=p:=by omega
  go_wp2_with fail
  go_region
  go_wp2_with fail
  clear d1 d2 g1 g2 hcw hfw
  skip
  obtain ⟨i,hi⟩:∃ i,i=a+1:=⟨_,rfl⟩
  obtain ⟨j,hj⟩:∃ j,j=b-1:=⟨_,rfl⟩
  have e1:(a:Int)+1=(i:Nat):=by omega
  have e2:(b:Int)-1=(j:Nat):=by omega
  have hai:a<i:=by omega
  have hij:i≤j+1:=by omega
  have hjb:j<b:=by omega
  simp only [e1,e2]
  clear e1 e2 hi hj
  have HS:=ze (((zb HH).set (off+a) (G a)).set (off+a) (G a)).drew
  obtain ⟨G,hcw,hfw⟩:=(zb HS).2
  have HG:Hid (xr _ blk off n G):=⟨hcw,hfw⟩
  go_loopw [10] (fun vi wr2=>∃ i2:Nat,vi = .int .i64 i2∧i≤i2∧i2≤j+1∧Hid (zL w blk off n wr2)∧Hid (xr wr2 blk off n G)) (fun vi _=>j+1-(intOf vi).toNat)
  case atStart=>exact ⟨i,rfl,Nat.le_refl _,hij,HS,HG⟩
  case round=>
   clear HS HG
   obtain ⟨i2,rfl,hai2,hij2,HS,HG⟩:=hrel
   by_cases hle1:i2≤j
   ·clear hcw hfw
    obtain ⟨hcw,hfw⟩:=zb HG
    go_wp2_with fail
    go_big_quiet (first |(go_at_call 201;refine Calls.quiet_of_same (zH _ _ _)))
    go_wp2_with fail
    ·go_roundw
     case rel=>exact ⟨i2+1,by go_num,by omega,by omega,(zb HS).drewN _,zb HG⟩
     case measure=>simp [intOf];omega
    ·have hf1:Sort.ltInt (G i2) (G a)=false:=by assumption
     revert nq;intro nq1
     have HS2:=ze ((zb HS).drewN nq1)
     have HG2:Hid (xr (wr.drewN nq1) blk off n G):=zb HG
     clear hcw hfw HS HG
     generalize wr.drewN nq1=wr5 at *
     have HS:=HS2
     have HG:=HG2
     clear HS2 HG2
     obtain ⟨hcw,hfw⟩:=zb HG
     go_loopw [11] (fun vj wr3=>∃ j2:Nat,vj = .int .i64 j2∧i2≤j2+1∧j2≤j∧Hid (zL w blk off n wr3)∧Hid (xr wr3 blk off n G)) (fun vj _=>(intOf vj).toNat)
     case atStart=>exact ⟨j,rfl,by omega,Nat.le_refl _,HS,HG⟩
     case round=>
      clear HS HG
      obtain ⟨j2,rfl,hij2,hj2,HS,HG⟩:=hrel
      by_cases hle:i2≤j2
      ·have hgt:decide ((j2:Int)<(i2:Int))=false:=by simp;omega
       clear hcw hfw
       obtain ⟨hcw,hfw⟩:=zb HG
       go_wp2_with fail
       go_big_quiet (first |(go_at_call 201;refine Calls.quiet_of_same (zH _ _ _)))
       go_wp2_with fail
       ·go_roundw
        case rel=>exact ⟨j2-1,by congr 1;omega,by omega,by omega,(zb HS).drewN _,zb HG⟩
        case measure=>simp [intOf];omega
       ·have hf2:Sort.ltInt (G j2) (G a)=true:=by simpa using (by assumption:(!Sort.ltInt (G j2) (G a))=false)
        have hlt:i2<j2:=by
         rcases Nat.lt_or_ge i2 j2 with h |h
         ·exact h
         ·obtain rfl:i2=j2:=by omega
          exact absurd hf2 (by rw [hf1];simp)
        revert nq;intro nq2
        have HS2:=ze ((zb HS).drewN nq2)
        clear hcw hfw
        obtain ⟨hcw,hfw⟩:xr (wr.drewN nq2) blk off n G:=zb HG
        clear HS HG
        generalize wr.drewN nq2=wr4 at *
        go_region
        go_wp2_with fail
        go_loopw [10,11] (fun vi vj wr=>∃ i j:Nat,vi = .int .i64 i∧vj = .int .i64 j∧a<i∧i≤j+1∧j<b∧Hid (zL w blk off n wr)) (fun vi vj _=>(intOf vj+1-intOf vi).toNat)
        case atStart=>exact ⟨i2+1,j2-1,by go_num,by congr 1;omega,by omega,by omega,by omega,zJ (zb HS2)⟩
        case round=>
         clear HS2 hcw hfw hf1 hf2
         obtain ⟨i,j,rfl,rfl,hai,hij,hjb,HS⟩:=hrel
         obtain ⟨G,hcw,hfw⟩:=(zb HS).2
         have HG:Hid (xr wr blk off n G):=⟨hcw,hfw⟩
         go_wp2_with fail
         go_loopw [10] (fun vi wr2=>∃ i2:Nat,vi = .int .i64 i2∧i≤i2∧i2≤j+1∧Hid (zL w blk off n wr2)∧Hid (xr wr2 blk off n G)) (fun vi _=>j+1-(intOf vi).toNat)
         case atStart=>exact ⟨i,rfl,Nat.le_refl _,hij,HS,HG⟩
         case round=>
          clear HS HG
          obtain ⟨i2,rfl,hai2,hij2,HS,HG⟩:=hrel
          by_cases hle1:i2≤j
          ·clear hcw hfw
           obtain ⟨hcw,hfw⟩:=zb HG
           go_wp2_with fail
           go_big_quiet (first |(go_at_call 201;refine Calls.quiet_of_same (zH _ _ _)))
           go_wp2_with fail
           ·go_roundw
            case rel=>exact ⟨i2+1,by go_num,by omega,by omega,(zb HS).drewN _,zb HG⟩
            case measure=>simp [intOf];omega
           ·have hf1:Sort.ltInt (G i2) (G a)=false:=by assumption
            revert nq;intro nq1
            have HS2:=ze ((zb HS).drewN nq1)
            have HG2:Hid (xr (wr.drewN nq1) blk off n G):=zb HG
            clear hcw hfw HS HG
            generalize wr.drewN nq1=wr5 at *
            have HS:=HS2
            have HG:=HG2
            clear HS2 HG2
            obtain ⟨hcw,hfw⟩:=zb HG
            go_loopw [11] (fun vj wr3=>∃ j2:Nat,vj = .int .i64 j2∧i2≤j2+1∧j2≤j∧Hid (zL w blk off n wr3)∧Hid (xr wr3 blk off n G)) (fun vj _=>(intOf vj).toNat)
            case atStart=>exact ⟨j,rfl,by omega,Nat.le_refl _,HS,HG⟩
            case round=>
             clear HS HG
             obtain ⟨j2,rfl,hij2,hj2,HS,HG⟩:=hrel
             by_cases hle:i2≤j2
             ·have hgt:decide ((j2:Int)<(i2:Int))=false:=by simp;omega
              clear hcw hfw
              obtain ⟨hcw,hfw⟩:=zb HG
              go_wp2_with fail
              go_big_quiet (first |(go_at_call 201;refine Calls.quiet_of_same (zH _ _ _)))
              go_wp2_with fail
              ·go_roundw
               case rel=>exact ⟨j2-1,by congr 1;omega,by omega,by omega,(zb HS).drewN _,zb HG⟩
               case measure=>simp [intOf];omega
              ·have hf2:Sort.ltInt (G j2) (G a)=true:=by simpa using (by assumption:(!Sort.ltInt (G j2) (G a))=false)
               have hlt:i2<j2:=by
                rcases Nat.lt_or_ge i2 j2 with h |h
                ·exact h
                ·obtain rfl:i2=j2:=by omega
                 exact absurd hf2 (by rw [hf1];simp)
               revert nq;intro nq2
               have HS2:=ze ((zb HS).drewN nq2)
               clear hcw hfw
               obtain ⟨hcw,hfw⟩:xr (wr.drewN nq2) blk off n G:=zb HG
               clear HS HG
               generalize wr.drewN nq2=wr4 at *
               go_region
               go_wp2_with fail
               go_roundw
               case rel=>exact ⟨i2+1,j2-1,by go_num,by congr 1;omega,by omega,by omega,by omega,zJ (zb HS2)⟩
               case measure=>simp [intOf];omega
             ·have hgt:(j2:Int)<(i2:Int):=by omega
              have hgd:decide ((i2:Int)≤(j2:Int))=false:=by simp;omega
              go_wp2_with fail
              go_big_quiet (first |(go_at_call 201;refine Calls.quiet_of_same (zH _ _ _)))
              go_wp2_with fail
              have HT:=ze ((zb HS).drewN nq)
              have HGT:Hid (xr (wr.drewN nq) blk off n G):=zb HG
              clear HS HG
              generalize wr.drewN nq=wr4 at *
              obtain ⟨hcw,hfw⟩:=zb HGT
              have d1:=hcw a (by omega)
              have g1:=hfw a (by omega)
              have d2:=hcw j2 (by omega)
              have g2:=hfw j2 (by omega)
              clear hcw hfw
              rcases Nat.lt_or_ge a j2 with hq |hq
              ·go_region
               go_wp2_with fail
               go_ret2
               exact ⟨j2,_,rfl,by omega,by omega,zJ (zb HT)⟩
              ·obtain rfl:a=j2:=by omega
               go_region
               go_wp2_with fail
               go_ret2
               exact ⟨a,_,rfl,by omega,by omega,(by first |exact zJ (zb HT) |exact ((zb HT).drewN _).set _ _)⟩
          ·have hgd1:decide ((i2:Int)≤(j:Int))=false:=by simp;omega
           go_wp2_with fail
           go_big_quiet (first |(go_at_call 201;refine Calls.quiet_of_same (zH _ _ _)))
           go_wp2_with fail
           have HS2:=ze ((zb HS).drewN nq)
           have HG2:Hid (xr (wr.drewN nq) blk off n G):=zb HG
           clear HS HG
           generalize wr.drewN nq=wr5 at *
           have HS:=HS2
           have HG:=HG2
           clear HS2 HG2
           obtain ⟨hcw,hfw⟩:=zb HG
           go_loopw [11] (fun vj wr3=>∃ j2:Nat,vj = .int .i64 j2∧i2≤j2+1∧j2≤j∧Hid (zL w blk off n wr3)∧Hid (xr wr3 blk off n G)) (fun vj _=>(intOf vj).toNat)
           case atStart=>exact ⟨j,rfl,by omega,Nat.le_refl _,HS,HG⟩
           case round=>
            clear HS HG
            obtain ⟨j2,rfl,hij2,hj2,HS,HG⟩:=hrel
            have hle:¬i2≤j2:=by omega
            ·have hgt:(j2:Int)<(i2:Int):=by omega
             have hgd:decide ((i2:Int)≤(j2:Int))=false:=by simp;omega
             go_wp2_with fail
             go_big_quiet (first |(go_at_call 201;refine Calls.quiet_of_same (zH _ _ _)))
             go_wp2_with fail
             have HT:=ze ((zb HS).drewN nq)
             have HGT:Hid (xr (wr.drewN nq) blk off n G):=zb HG
             clear HS HG
             generalize wr.drewN nq=wr4 at *
             obtain ⟨hcw,hfw⟩:=zb HGT
             have d1:=hcw a (by omega)
             have g1:=hfw a (by omega)
             have d2:=hcw j2 (by omega)
             have g2:=hfw j2 (by omega)
             clear hcw hfw
             rcases Nat.lt_or_ge a j2 with hq |hq
             ·go_region
              go_wp2_with fail
              go_ret2
              exact ⟨j2,_,rfl,by omega,by omega,zJ (zb HT)⟩
             ·obtain rfl:a=j2:=by omega
              go_region
              go_wp2_with fail
              go_ret2
              exact ⟨a,_,rfl,by omega,by omega,(by first |exact zJ (zb HT) |exact ((zb HT).drewN _).set _ _)⟩
      ·have hgt:(j2:Int)<(i2:Int):=by omega
       have hgd:decide ((i2:Int)≤(j2:Int))=false:=by simp;omega
       go_wp2_with fail
       go_big_quiet (first |(go_at_call 201;refine Calls.quiet_of_same (zH _ _ _)))
       go_wp2_with fail
       have HT:=ze ((zb HS).drewN nq)
       have HGT:Hid (xr (wr.drewN nq) blk off n G):=zb HG
       clear HS HG
       generalize wr.drewN nq=wr4 at *
       obtain ⟨hcw,hfw⟩:=zb HGT
       have d1:=hcw a (by omega)
       have g1:=hfw a (by omega)
       have d2:=hcw j2 (by omega)
       have g2:=hfw j2 (by omega)
       clear hcw hfw
       rcases Nat.lt_or_ge a j2 with hq |hq
       ·go_region
        go_wp2_with fail
        go_ret2
        exact ⟨j2,_,rfl,by omega,by omega,zJ (zb HT)⟩
       ·obtain rfl:a=j2:=by omega
        go_region
        go_wp2_with fail
        go_ret2
        exact ⟨a,_,rfl,by omega,by omega,(by first |exact zJ (zb HT) |exact ((zb HT).drewN _).set _ _)⟩
   ·have hgd1:decide ((i2:Int)≤(j:Int))=false:=by simp;omega
    go_wp2_with fail
    go_big_quiet (first |(go_at_call 201;refine Calls.quiet_of_same (zH _ _ _)))
    go_wp2_with fail
    have HS2:=ze ((zb HS).drewN nq)
    have HG2:Hid (xr (wr.drewN nq) blk off n G):=zb HG
    clear HS HG
    generalize wr.drewN nq=wr5 at *
    have HS:=HS2
    have HG:=HG2
    clear HS2 HG2
    obtain ⟨hcw,hfw⟩:=zb HG
    go_loopw [11] (fun vj wr3=>∃ j2:Nat,vj = .int .i64 j2∧i2≤j2+1∧j2≤j∧Hid (zL w blk off n wr3)∧Hid (xr wr3 blk off n G)) (fun vj _=>(intOf vj).toNat)
    case atStart=>exact ⟨j,rfl,by omega,Nat.le_refl _,HS,HG⟩
    case round=>
     clear HS HG
     obtain ⟨j2,rfl,hij2,hj2,HS,HG⟩:=hrel
     have hle:¬i2≤j2:=by omega
     ·have hgt:(j2:Int)<(i2:Int):=by omega
      have hgd:decide ((i2:Int)≤(j2:Int))=false:=by simp;omega
      go_wp2_with fail
      go_big_quiet (first |(go_at_call 201;refine Calls.quiet_of_same (zH _ _ _)))
      go_wp2_with fail
      have HT:=ze ((zb HS).drewN nq)
      have HGT:Hid (xr (wr.drewN nq) blk off n G):=zb HG
      clear HS HG
      generalize wr.drewN nq=wr4 at *
      obtain ⟨hcw,hfw⟩:=zb HGT
      have d1:=hcw a (by omega)
      have g1:=hfw a (by omega)
      have d2:=hcw j2 (by omega)
      have g2:=hfw j2 (by omega)
      clear hcw hfw
      rcases Nat.lt_or_ge a j2 with hq |hq
      ·go_region
       go_wp2_with fail
       go_ret2
       exact ⟨j2,_,rfl,by omega,by omega,zJ (zb HT)⟩
      ·obtain rfl:a=j2:=by omega
       go_region
       go_wp2_with fail
       go_ret2
       exact ⟨a,_,rfl,by omega,by omega,(by first |exact zJ (zb HT) |exact ((zb HT).drewN _).set _ _)⟩
end
section
open Go.RowKit Go.Shelf Go.Lib Go.Sort
def KY:Go.Shelf.Ren:=⟨fun |6=>190 |15=>161 |14=>222 |28=>204 |29=>205 |20=>247 |21=>248 |22=>249 |23=>250 |24=>251 |25=>252 |26=>253 |27=>254 |46=>275 |47=>225 |48=>226 |49=>276 |50=>277 |57=>289 |n=>n,fun |22=>151 |24=>263 |25=>348 |3=>3 |39=>324 |0=>0 |53=>359 |55=>361 |4=>4 |46=>353 |45=>352 |50=>292 |5=>5 |9=>9 |66=>370 |70=>374 |76=>396 |77=>168 |n=>n,fun |n=>n⟩
theorem Zw:Go.Proofs.SlLaysF0.n6 Tryz.prog KY:={
 mixed:=by kernel_rfl
 f6:=⟨Tryz.f190.name,by decide,Tryz.func190.trans (congrArg some (by kernel_rfl))⟩
 f14:=⟨Tryz.f222.name,by decide,Tryz.func222.trans (congrArg some (by kernel_rfl))⟩
 f15:=Tryz.func161.trans (congrArg some (by kernel_rfl))
 f20:=⟨Tryz.f247.name,by decide,Tryz.func247.trans (congrArg some (by kernel_rfl))⟩
 f21:=⟨Tryz.f248.name,by decide,Tryz.func248.trans (congrArg some (by kernel_rfl))⟩
 f22:=⟨Tryz.f249.name,by decide,Tryz.func249.trans (congrArg some (by kernel_rfl))⟩
 f23:=⟨Tryz.f250.name,by decide,Tryz.func250.trans (congrArg some (by kernel_rfl))⟩
 f24:=⟨Tryz.f251.name,by decide,Tryz.func251.trans (congrArg some (by kernel_rfl))⟩
 f25:=⟨Tryz.f252.name,by decide,Tryz.func252.trans (congrArg some (by kernel_rfl))⟩
 f26:=⟨Tryz.f253.name,by decide,Tryz.func253.trans (congrArg some (by kernel_rfl))⟩
 f27:=⟨Tryz.f254.name,by decide,Tryz.func254.trans (congrArg some (by kernel_rfl))⟩
 f28:=Tryz.func204.trans (congrArg some (by kernel_rfl))
 f29:=Tryz.func205.trans (congrArg some (by kernel_rfl))
 f46:=⟨Tryz.f275.name,by decide,Tryz.func275.trans (congrArg some (by kernel_rfl))⟩
 f47:=Tryz.func225.trans (congrArg some (by kernel_rfl))
 f48:=Tryz.func226.trans (congrArg some (by kernel_rfl))
 f49:=⟨Tryz.f276.name,by decide,Tryz.func276.trans (congrArg some (by kernel_rfl))⟩
 f50:=⟨Tryz.f277.name,by decide,Tryz.func277.trans (congrArg some (by kernel_rfl))⟩
 f57:=⟨Tryz.f289.name,by decide,Tryz.func289.trans (congrArg some (by kernel_rfl))⟩
 t0:=Tryz.underlying0
 a0:=Tryz.isAgg0
 z0:=Tryz.sizeOf0
 v0:=Tryz.zeroValue0
 t3:=Tryz.underlying3
 a3:=Tryz.isAgg3
 z3:=Tryz.sizeOf3
 v3:=Tryz.zeroValue3
 t4:=Tryz.underlying4
 a4:=Tryz.isAgg4
 z4:=Tryz.sizeOf4
 v4:=Tryz.zeroValue4
 t5:=Tryz.underlying5
 a5:=Tryz.isAgg5
 z5:=Tryz.sizeOf5
 v5:=Tryz.zeroValue5
 t9:=Tryz.underlying9
 a9:=Tryz.isAgg9
 z9:=Tryz.sizeOf9
 v9:=Tryz.zeroValue9
 t22:=Tryz.underlying151
 a22:=Tryz.isAgg151
 z22:=Tryz.sizeOf151
 v22:=Tryz.zeroValue151
 t25:=Tryz.underlying348
 a25:=Tryz.isAgg348
 z25:=Tryz.sizeOf348
 v25:=Tryz.zeroValue348
 t39:=Tryz.underlying324
 a39:=Tryz.isAgg324
 z39:=Tryz.sizeOf324
 v39:=Tryz.zeroValue324
 t45:=Tryz.underlying352
 a45:=Tryz.isAgg352
 z45:=Tryz.sizeOf352
 v45:=Tryz.zeroValue352
 t46:=Tryz.underlying353
 a46:=Tryz.isAgg353
 z46:=Tryz.sizeOf353
 v46:=Tryz.zeroValue353
 t50:=Tryz.underlying292
 a50:=Tryz.isAgg292
 z50:=Tryz.sizeOf292
 v50:=Tryz.zeroValue292
 t53:=Tryz.underlying359
 a53:=Tryz.isAgg359
 z53:=Tryz.sizeOf359
 v53:=Tryz.zeroValue359
 t55:=Tryz.underlying361
 a55:=Tryz.isAgg361
 z55:=Tryz.sizeOf361
 v55:=Tryz.zeroValue361
 t66:=Tryz.underlying370
 a66:=Tryz.isAgg370
 z66:=Tryz.sizeOf370
 v66:=Tryz.zeroValue370
 t70:=Tryz.underlying374
 a70:=Tryz.isAgg374
 z70:=Tryz.sizeOf374
 v70:=Tryz.zeroValue374
 t76:=Tryz.underlying396
 a76:=Tryz.isAgg396
 z76:=Tryz.sizeOf396
 v76:=Tryz.zeroValue396
 t77:=Tryz.underlying168
 a77:=Tryz.isAgg168
 z77:=Tryz.sizeOf168
 v77:=Tryz.zeroValue168 }
theorem xorN_lt (X:Nat)(hX:X<18446744073709551616):xorNextN X<18446744073709551616:=by
 unfold xorNextN
 simp only []
 exact Nat.xor_lt_two_pow (n:=64) (Nat.xor_lt_two_pow (n:=64) (Nat.xor_lt_two_pow (n:=64) (by omega) (by omega)) (Nat.lt_of_le_of_lt (Nat.div_le_self _ _) (Nat.xor_lt_two_pow (n:=64) (by omega) (by omega)))) (by omega)
theorem Wr (n:Nat)(hn:n<4611686018427387904)(w:World):Calls Tryz.prog 161 #[.int .u64 (n:Int)] w fun e w'=>e = .returned (.int .i64 (Lib.bitLen n:Nat))∧w'=w:=by
 have h:=Any.bits_Len (SlLaysF0.n15.bits { Zw with }) (n:Int) w (by omega) (by omega)
 rw [Int.toNat_natCast] at h
 exact h
theorem npowR (n:Nat)(hn:n<4611686018427387904)(w:World):Calls Tryz.prog 225 #[.int .i64 n] w fun e w'=>e = .returned (.int .u64 ((1 <<< Sort.bitsLen n:Nat):Int))∧w'=w:=AnyF.nextPowerOfTwo { Zw with } n hn w
theorem nextR (rb X:Nat)(hX:X<18446744073709551616)(w:World)(hc:w.cell? ⟨rb,0,none⟩=some (.int .u64 X))(hf:w.frozen? ⟨rb,0,none⟩=false) :
  Calls Tryz.prog 226 #[.pointer (some ⟨rb,0,none⟩)] w fun e w'=>∃ Y:Nat,Y<18446744073709551616∧e = .returned (.int .u64 Y)∧w'=(w.setCell ⟨rb,0,none⟩ (.int .u64 Y)).drewN 3:=
 (AnyF.xorshift_Next { Zw with } rb 0 X hX w hc hf).mono (fun _e _w' ⟨h1,h2⟩=>⟨_,xorN_lt X hX,h1,h2⟩)
theorem pow_le (n:Nat)(hn:1≤n):1 <<< Sort.bitsLen n≤2*n:=by
 have h1:¬n<2 ^ (Sort.bitsLen n-1):=fun h=>by
  have:=(bitsLen_le_iff n (Sort.bitsLen n-1)).2 h
  have h0:Sort.bitsLen n≠0:=by unfold Sort.bitsLen;rw [if_neg (by omega)];omega
  omega
 have h0:Sort.bitsLen n≠0:=by unfold Sort.bitsLen;rw [if_neg (by omega)];omega
 rw [Nat.one_shiftLeft]
 have h2:2 ^ Sort.bitsLen n=2*2 ^ (Sort.bitsLen n-1):=by rw [←Nat.pow_succ'];congr 1;omega
 omega
end
section
open Go.RowKit
set_option maxHeartbeats 1000000
theorem zL.aside {a b:World}{blk off n k0:Nat}(h:zL a blk off n b)(hk:a.heap.size≤k0)(hb:blk≠k0)(u:Value):zL a blk off n (b.setCell ⟨k0,0,none⟩ u):=
 ⟨h.1.setCell (p:=⟨k0,0,none⟩) (.inr hk) u,by
  obtain ⟨G,h1,h2⟩:=h.2
  exact ⟨G,fun t ht=>(World.cell?_setCell_other _ _ _ _ (by simp)).trans (h1 t ht),fun t ht=>(zj _ _ _ _).trans (h2 t ht)⟩⟩
def Ze (w:World)(sb:Nat)(X:Nat):Prop:=w.cell? ⟨sb,0,none⟩=some (.int .u64 (X:Int))∧w.frozen? ⟨sb,0,none⟩=false
theorem Ze.two {w:World}{sb X blk i j q:Nat}{u v:Value}(h:Ze w sb X)(hb:blk≠sb):Ze (((w.drewN q).setCell ⟨blk,i,none⟩ u).setCell ⟨blk,j,none⟩ v) sb X:=
 ⟨(World.cell?_setCell_other _ _ _ _ (by simp)).trans ((World.cell?_setCell_other _ _ _ _ (by simp)).trans h.1),(zj _ _ _ _).trans ((zj _ _ _ _).trans h.2)⟩
theorem Ze.two' {w:World}{sb X blk i j:Nat}{u v:Value}(h:Ze w sb X)(hb:blk≠sb):Ze (((w.setCell ⟨blk,i,none⟩ u).setCell ⟨blk,j,none⟩ v).drew) sb X:=Ze.two (q:=0) h hb
theorem breakR (blk off n cap a b:Nat)(w:World)(h:jZ w blk off n)(hblk:blk<w.heap.size)(hab:a+12<b)(hb:b≤n)(hn:n<1099511627776) :
  Calls Tryz.prog 197 #[.slice (some ⟨blk,off,none⟩) n cap,.int .i64 a,.int .i64 b] w fun e w'=>e = .returned (.tuple #[])∧zL w blk off n w':=by
 have HH:=ze h
 clear h
 obtain ⟨L,rfl⟩:∃ L,b=a+L:=⟨b-a,by omega⟩
 obtain ⟨q,hq⟩:∃ q,q=L / 4:=⟨_,rfl⟩
 have hq4':(L:Int) / 4=q:=by rw [hq];rfl
 have hqL:4*q≤L∧L<4*q+4:=by omega
 have e0:(a:Int)+L-a=L:=by omega
 have eL:IntKind.u64.wrap (L:Int)=L:=by simp [IntKind.wrap,IntKind.bits,IntKind.signed];omega
 have hM:=pow_le L (by omega)
 obtain ⟨M,hMe⟩:∃ M,M=1 <<< Sort.bitsLen L:=⟨_,rfl⟩
 have hM1:1≤M:=by rw [hMe,Nat.one_shiftLeft];exact Nat.one_le_two_pow
 have HN:=ze (npowR L (by omega))
 rw [←hMe] at hM HN
 clear hMe hq
 go_enter Tryz.func197,Tryz.ntmps197
 go_wp2_with (go_at_call 225;refine (zb HN _).mono ?_;rintro e w' ⟨rfl,rfl⟩)
 have HS0:Hid (zL w blk off n (w.alloc (.cells #[.int .u64 (L:Int)] 370))):=⟨(zf.refl _ _).alloc _,(zb HH).keep ((zf.refl (fun _=>False) _).alloc _) (fun f=>f)⟩
 have HC0:Hid (Ze (w.alloc (.cells #[.int .u64 (L:Int)] 370)) w.heap.size L):=⟨zo w _ rfl _ _ 0 _ rfl,zv w _ rfl _ _ 0⟩
 have eM:IntKind.u64.wrap ((M:Int)-1)=(M:Int)-1:=by simp [IntKind.wrap,IntKind.bits,IntKind.signed];omega
 go_loopw [9] (fun vi wr=>∃ t X:Nat,vi = .int .i64 t∧a+q*2≤t+1∧t≤a+q*2+2∧X<18446744073709551616∧Hid (zL w blk off n wr)∧Hid (Ze wr w.heap.size X)) (fun vi _=>a+q*2+2-(intOf vi).toNat)
 case atStart=>exact ⟨a+q*2-1,L,by congr 1;omega,by omega,by omega,by omega,HS0,HC0⟩
 case round=>
  clear HS0 HC0
  obtain ⟨t,X,rfl,ht0,ht1,hX,HS,HC⟩:=hrel
  by_cases hle:(t:Int)≤a+q*2+1
  ·obtain ⟨c0,f0⟩:=zb HC
   go_wp2_with (go_at_call 226;refine (nextR _ X hX _ c0 f0).mono ?_;rintro e w1 ⟨Y,hY,rfl,hw1⟩;have HS1:Hid (zL w blk off n w1):=(by rw [hw1];exact ((zb HS).aside (Nat.le_refl _) (by omega) _).drewN _);have HC1:Hid (Ze w1 w.heap.size Y):=(by rw [hw1];exact ⟨World.cell?_setCell_same _ _ _ c0,(zj _ _ _ _).trans f0⟩);have hand:bits .and .u64 (Y:Int) ((M:Int)-1)=((Y &&& (M-1):Nat):Int):=(by rw [show (M:Int)-1=((M-1:Nat):Int) by omega];exact bits_and_u64_nat _ _ hY (by omega));have ho:Y &&& (M-1)≤M-1:=Nat.and_le_right;obtain ⟨o,hoe⟩:∃ o,o=Y &&& (M-1):=⟨_,rfl⟩;rw [←hoe] at hand ho;have ho2:IntKind.i64.wrap (o:Int)=o:=(by simp [IntKind.wrap,IntKind.bits,IntKind.signed];omega);clear hw1 hoe)
   ·rename_i hLo
    obtain ⟨o',ho'⟩:∃ o',o'=o-L:=⟨_,rfl⟩
    have e9:(o:Int)-L=(o':Nat):=by omega
    simp only [e9]
    have hoL:o'<L:=by omega
    clear e9 ho' hand ho2
    obtain ⟨G,hcw,hfw⟩:=(zb HS1).2
    have d1:=hcw t (by omega)
    have g1:=hfw t (by omega)
    have d2:=hcw (a+o') (by omega)
    have g2:=hfw (a+o') (by omega)
    by_cases hto:t=a+o'
    ·subst hto
     go_region
     go_wp2_with fail
     go_roundw
     case rel=>exact ⟨a+o'+1,Y,by go_num,by omega,by omega,hY,(by first |exact zJ (zb HS1) |exact ((zb HS1).drewN _).set _ _ |exact (((zb HS1).set _ _).set _ _).drew |exact ((zb HS1).set _ _).drew),(by first |exact Ze.two (zb HC1) (by omega) |exact Ze.two' (zb HC1) (by omega))⟩
     case measure=>simp [intOf];omega
    ·go_region
     go_wp2_with fail
     go_roundw
     case rel=>exact ⟨t+1,Y,by go_num,by omega,by omega,hY,(by first |exact zJ (zb HS1) |exact ((zb HS1).drewN _).set _ _ |exact (((zb HS1).set _ _).set _ _).drew |exact ((zb HS1).set _ _).drew),(by first |exact Ze.two (zb HC1) (by omega) |exact Ze.two' (zb HC1) (by omega))⟩
     case measure=>simp [intOf];omega
   ·have hoL:o<L:=by omega
    clear hand ho2
    obtain ⟨G,hcw,hfw⟩:=(zb HS1).2
    have d1:=hcw t (by omega)
    have g1:=hfw t (by omega)
    have d2:=hcw (a+o) (by omega)
    have g2:=hfw (a+o) (by omega)
    by_cases hto:t=a+o
    ·subst hto
     go_region
     go_wp2_with fail
     go_roundw
     case rel=>exact ⟨a+o+1,Y,by go_num,by omega,by omega,hY,(by first |exact zJ (zb HS1) |exact ((zb HS1).drewN _).set _ _ |exact (((zb HS1).set _ _).set _ _).drew |exact ((zb HS1).set _ _).drew),(by first |exact Ze.two (zb HC1) (by omega) |exact Ze.two' (zb HC1) (by omega))⟩
     case measure=>simp [intOf];omega
    ·go_region
     go_wp2_with fail
     go_roundw
     case rel=>exact ⟨t+1,Y,by go_num,by omega,by omega,hY,(by first |exact zJ (zb HS1) |exact ((zb HS1).drewN _).set _ _ |exact (((zb HS1).set _ _).set _ _).drew |exact ((zb HS1).set _ _).drew),(by first |exact Ze.two (zb HC1) (by omega) |exact Ze.two' (zb HC1) (by omega))⟩
     case measure=>simp [intOf];omega
  ·have hld:decide ((t:Int)≤a+q*2+1)=false:=by simp;omega
   go_wp2_with fail
   go_end0
   exact ⟨rfl,zb HS⟩
set_option maxHeartbeats 16000000
set_option maxRecDepth 1000000
theorem zL.same {a b:World}{blk off n:Nat}(h:jZ a blk off n)(k:zf (fun _=>False) a b):zL a blk off n b:=⟨k.mono (fun _ _ f=>f.elim),h.keep k (fun f=>f)⟩
theorem pdqR (blk off n cap:Nat)(hn:n<1099511627776):∀ (N a b:Nat) (lim:Int) (w:World),b-a<N→jZ w blk off n→blk<w.heap.size→a≤b→b≤n→0≤lim→lim<1000→
  Calls Tryz.prog 160 #[.slice (some ⟨blk,off,none⟩) n cap,.int .i64 a,.int .i64 b,.int .i64 lim] w fun e w'=>e = .returned (.tuple #[])∧zL w blk off n w':=by
 intro N
 induction N with
 |zero=>intro _ _ _ _ h;exact absurd h (Nat.not_lt_zero _)
 |succ N ih=>
  intro a0 b0 lim0 w hN h hblk hab0 hb0 hl0 hl1
  have IH:=ze ih
  clear ih
  have HH:=ze h
  clear h
  go_enter Tryz.func160,Tryz.ntmps160
  go_wp2_with fail
  go_loopw [1,2,3,8,9] (fun va vb vl v8 v9 wr=>∃ (a b:Nat) (lim:Int) (wb wp:Bool),va = .int .i64 a∧vb = .int .i64 b∧vl = .int .i64 lim∧v8 = .bool wb∧v9 = .bool wp∧a0≤a∧a≤b∧b≤b0∧0≤lim∧lim<1000∧Hid (zL w blk off n wr)) (fun va vb _ _ _ _=>(intOf vb-intOf va).toNat)
  case atStart=>exact ⟨a0,b0,lim0,true,true,rfl,rfl,rfl,rfl,rfl,Nat.le_refl _,hab0,Nat.le_refl _,hl0,hl1,zL.refl (zb HH)⟩
  case round=>
   obtain ⟨a,b,lim,wb,wp,rfl,rfl,rfl,rfl,rfl,ha0,hab,hbb,hm0,hm1,HS⟩:=hrel
   have hb:b≤n:=by omega
   by_cases h12:(b:Int)-a≤12
   ·go_wp2_with (go_at_call 195;refine (insertR blk off n cap a b _ (zb HS).2 hab hb hn).mono ?_;rintro e w1 ⟨rfl,hS1⟩;have HS:=ze ((zb HS).trans hS1);clear hS1)
    (try simp only [Exit.inBlock,Exit.then]);refine bodyPost_ret (results_none rfl _ _ _) rfl ?_
    exact ⟨rfl,zb HS⟩
   ·have h12d:decide ((b:Int)-a≤12)=false:=by simp;omega
    by_cases hl:lim=0
    ·subst hl
     go_wp2_with (go_at_call 196;refine (heapR blk off n cap a b _ (zb HS).2 (by omega) hb hn).mono ?_;rintro e w1 ⟨rfl,hS1⟩;have HS:=ze ((zb HS).trans hS1);clear hS1)
     (try simp only [Exit.inBlock,Exit.then]);refine bodyPost_ret (results_none rfl _ _ _) rfl ?_
     exact ⟨rfl,zb HS⟩
    ·have hl2:((lim:Int) == 0)=false:=by simp;omega
     go_upto_if 35 with fail
     go_cut [3] from 19 to 133 (fun s3 wx=>∃ l2:Int,s3 = .int .i64 l2∧0≤l2∧l2<1000∧Hid (zL w blk off n wx))
     case first=>
      cases wb
      ·go_wp2_with (go_at_call 197;refine (breakR blk off n cap a b _ (zb HS).2 (by have:=(zb HS).1.size;omega) (by omega) hb hn).mono ?_;rintro e w1 ⟨rfl,hS1⟩;have HS:=ze ((zb HS).trans hS1);clear hS1)
       go_meet
       exact ⟨lim-1,rfl,by omega,by omega,zb HS⟩
      ·go_wp2_with fail
       go_meet
       exact ⟨lim,rfl,by omega,by omega,zb HS⟩
     case rest=>
      clear HS
      obtain ⟨l2,rfl,hl20,hl21,HS⟩:=hcut
      clear hl hl2
      go_upto_if 50 with (go_at_call 198;refine (pivotR blk off n cap a b _ (zb HS).2 (by have:=(zb HS).1.size;omega) (by omega) hb hn).mono ?_;rintro e w2 ⟨p,hint,rfl,hpa,hpb,hh0,hh2,hO1⟩;have HS:=ze ((zb HS).trans (zL.same (zb HS).2 hO1));clear hO1)
      go_cut [11,12] from 19 to 133 (fun s11 s12 wx=>∃ (p2:Nat) (h2:Int),s11 = .int .i64 p2∧s12 = .int .i64 h2∧a≤p2∧p2<b∧Hid (zL w blk off n wx))
      case first=>
       by_cases hh:hint=2
       ·subst hh
        go_wp2_with (go_at_call 199;refine (reverseR blk off n cap a b _ (zb HS).2 (by omega) hb hn).mono ?_;rintro e w3 ⟨rfl,hS1⟩;have HS:=ze ((zb HS).trans hS1);clear hS1;obtain ⟨p,hpe⟩:∃ p2:Nat,(b:Int)-1-((p:Int)-a)=p2:=⟨b-1-(p-a),by omega⟩;have hpa:a≤p:=(by omega);have hpb:p<b:=(by omega))
        go_meet
        exact ⟨p,1,rfl,rfl,hpa,hpb,zb HS⟩
       ·have hhd:(hint == 2)=false:=by simp;omega
        go_wp2_with fail
        go_meet
        exact ⟨p,hint,rfl,rfl,hpa,hpb,zb HS⟩
      case rest=>
       clear HS hpa hpb hh0 hh2
       obtain ⟨p,hint2,rfl,rfl,hpa,hpb,HS⟩:=hcut
       go_upto_region 15 with fail
       go_cut [68] from 19 to 133 (fun s68 wx=>∃ c:Bool,s68 = .bool c∧Hid (zL w blk off n wx))
       case first=>
        cases wb<;>cases wp
        all_goals
         go_wp2_with fail
         go_meet
         exact ⟨_,rfl,zb HS⟩
       case rest=>
        clear HS
        obtain ⟨c,rfl,HS⟩:=hcut
        go_upto_if 68 with fail
        go_cut [72] from 19 to 133 (fun s72 wx=>Hid (zL w blk off n wx))
        case first=>
         cases c
         ·go_wp2_with fail
          go_meet
          exact zb HS
         ·go_wp2_with (go_at_call 200;refine (partialR blk off n cap a b _ (zb HS).2 (by omega) hb hn).mono ?_;rintro e w4 ⟨⟨r,rfl⟩,hS1⟩;have HS:=ze ((zb HS).trans hS1);clear hS1)
          ·(try simp only [Exit.inBlock,Exit.then]);refine bodyPost_ret (results_none rfl _ _ _) rfl ?_
           exact ⟨rfl,zb HS⟩
          ·go_meet
           exact zb HS
        case rest=>
         clear HS
         have HS:=hcut
         go_upto_region 17 with fail
         go_cut [87] from 19 to 133 (fun s87 wx=>∃ c2:Bool,s87 = .bool c2∧Hid (zL w blk off n wx))
         case first=>
          obtain ⟨G,hcw,hfw⟩:=(zb HS).2
          rcases Nat.eq_zero_or_pos a with ha |ha
          ·have hgz:decide ((0:Int)<(a:Int))=false:=by simp;omega
           go_wp2_with fail
           go_big_quiet (first |(go_at_call 201;refine Calls.quiet_of_same (zH _ _ _)))
           go_wp2_with fail
           go_meet
           exact ⟨_,rfl,(zb HS).drewN _⟩
          ·have hgz:(0:Int)<(a:Int):=by omega
           go_wp2_with fail
           go_big_quiet (first |(go_at_call 201;refine Calls.quiet_of_same (zH _ _ _)))
           go_wp2_with fail
           go_meet
           exact ⟨_,rfl,(zb HS).drewN _⟩
         case rest=>
          clear HS
          obtain ⟨c2,rfl,HS⟩:=hcut
          cases c2
          ·go_wp2_with (go_at_call 203;refine (partR blk off n cap a b p _ (zb HS).2 hpa hpb hb hn).mono ?_;rintro e w5 ⟨m,r,rfl,hm1,hm2,hS1⟩;have HS:=ze ((zb HS).trans hS1);clear hS1)
           ·have hsz9:=(zb HS).1.size
            refine (zb IH a m l2 _ (by omega) (zb HS).2 (by omega) (by omega) (by omega) hl20 hl21).mono ?_
            rintro e w6 ⟨rfl,hS1⟩
            have HS:=ze ((zb HS).trans hS1)
            clear hS1
            go_wp2_with fail
            go_roundw
            case rel=>exact ⟨m+1,b,l2,_,_,by go_num,rfl,rfl,rfl,rfl,by omega,by omega,by omega,by omega,by omega,zb HS⟩
            case measure=>simp [intOf];omega
           ·have hsz9:=(zb HS).1.size
            have hi:=zb IH (m+1) b l2
            rw [show ((m+1:Nat):Int)=(m:Int)+1 by omega] at hi
            refine (hi _ (by omega) (zb HS).2 (by omega) (by omega) (by omega) hl20 hl21).mono ?_
            rintro e w6 ⟨rfl,hS1⟩
            have HS:=ze ((zb HS).trans hS1)
            clear hS1 hi
            go_wp2_with fail
            go_roundw
            case rel=>exact ⟨a,m,l2,_,_,rfl,rfl,rfl,rfl,rfl,by omega,by omega,by omega,by omega,by omega,zb HS⟩
            case measure=>simp [intOf];omega
          ·go_wp2_with (go_at_call 202;refine (partEqR blk off n cap a b p _ (zb HS).2 hpa hpb hb hn).mono ?_;rintro e w5 ⟨m,rfl,hm1,hm2,hS1⟩;have HS:=ze ((zb HS).trans hS1);clear hS1)
           go_roundw
           case rel=>exact ⟨m,b,_,_,_,rfl,rfl,rfl,rfl,rfl,by omega,by omega,by omega,by omega,by omega,zb HS⟩
           case measure=>simp [intOf];omega
theorem sortR (blk n cap:Nat)(w:World)(h:jZ w blk 0 n)(hblk:blk<w.heap.size)(hn:n<1099511627776) :
  Calls Tryz.prog 119 #[.slice (some ⟨blk,0,none⟩) n cap] w fun e w'=>e = .returned (.tuple #[])∧zL w blk 0 n w':=by
 have hlim:Lib.bitLen n≤62:=Lib.bitLen_le n 62 (by omega) (by omega)
 have HP:=ze (pdqR blk 0 n cap hn (n+1) 0 n (Lib.bitLen n:Nat) w (by omega) h hblk (by omega) (by omega) (by omega) (by omega))
 have HL:=ze (Wr n (by omega))
 have wr:IntKind.u64.wrap (n:Int)=n:=by simp [IntKind.wrap,IntKind.bits,IntKind.signed];omega
 clear h
 go_enter Tryz.func119,Tryz.ntmps119
 go_wp2_with (first |(go_at_call 161;refine (zb HL _).mono ?_;rintro e w' ⟨rfl,rfl⟩) |(go_at_call 160;refine (zb HP).mono ?_;rintro e w1 ⟨rfl,hS⟩;have HS:=ze hS;clear hS))
 go_end0
 exact ⟨rfl,zb HS⟩
theorem insertN (w:World) :
  Calls Tryz.prog 195 #[.slice none 0 0,.int .i64 0,.int .i64 0] w fun e w'=>e = .returned (.tuple #[])∧zf (fun _=>False) w w':=by
 go_enter Tryz.func195,Tryz.ntmps195
 go_wp2_with fail
 go_loopw [6] (fun vi wr=>vi = .int .i64 1∧Hid (zf (fun _=>False) w wr)) (fun _ _=>0)
 case atStart=>exact ⟨by go_num,zf.refl _ _⟩
 case round=>
  obtain ⟨rfl,HS⟩:=hrel
  go_wp2
  go_end0
  exact ⟨rfl,zb HS⟩
theorem pdqN (lim:Int)(w:World) :
  Calls Tryz.prog 160 #[.slice none 0 0,.int .i64 0,.int .i64 0,.int .i64 lim] w fun e w'=>e = .returned (.tuple #[])∧zf (fun _=>False) w w':=by
 go_enter Tryz.func160,Tryz.ntmps160
 go_wp2_with fail
 go_loopw [1,2,3,8,9] (fun va vb vl v8 v9 wr=>va = .int .i64 0∧vb = .int .i64 0∧vl = .int .i64 lim∧v8 = .bool true∧v9 = .bool true∧Hid (zf (fun _=>False) w wr)) (fun _ _ _ _ _ _=>0)
 case atStart=>exact ⟨rfl,rfl,rfl,rfl,rfl,zf.refl _ _⟩
 case round=>
  obtain ⟨rfl,rfl,rfl,rfl,rfl,HS⟩:=hrel
  go_wp2_with (go_at_call 195;refine (insertN _).mono ?_;rintro e w1 ⟨rfl,hS1⟩;have HS:=ze ((zb HS).trans hS1);clear hS1)
  (try simp only [Exit.inBlock,Exit.then]);refine bodyPost_ret (results_none rfl _ _ _) rfl ?_
  exact ⟨rfl,zb HS⟩
theorem sortN (w:World) :
  Calls Tryz.prog 119 #[.slice none 0 0] w fun e w'=>e = .returned (.tuple #[])∧zf (fun _=>False) w w':=by
 have HL:=ze (Wr 0 (by omega))
 have HP:=ze (pdqN)
 have wr:IntKind.u64.wrap 0=0:=by simp [IntKind.wrap,IntKind.bits,IntKind.signed]
 have wr2:IntKind.u64.wrap ((0:Nat):Int)=((0:Nat):Int):=by simp [IntKind.wrap,IntKind.bits,IntKind.signed]
 go_enter Tryz.func119,Tryz.ntmps119
 go_wp2_with (first |(go_at_call 161;refine (zb HL _).mono ?_;rintro e w' ⟨rfl,rfl⟩) |(go_at_call 160;refine (zb HP _ _).mono ?_;rintro e w1 ⟨rfl,hS⟩;have HS:=ze hS;clear hS))
 go_end0
 exact ⟨rfl,zb HS⟩
end
end Go.Proofs.YtnagphodmfejiaaGreatDoor
