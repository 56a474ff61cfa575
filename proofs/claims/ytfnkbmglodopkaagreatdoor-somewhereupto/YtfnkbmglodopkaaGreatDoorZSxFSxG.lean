/- The library's sort of a row of characters, to the element: insertion in part. -/
import Derived.Test.YtfnkbmglodopkaaGreatDoorZSxASxE
namespace Go.Proofs.YtfnkbmglodopkaaGreatDoor
section
open Go.RowKit
set_option maxHeartbeats 4000000
set_option maxRecDepth 1000000
def upT (b i:Nat)(d:Array Int):Array Int:=if b-i≥2 then Sort.shiftUp Sort.ltInt b (i+1) d else d
theorem X9 {b i:Nat}{d:Array Int}(h:b-i≥2):upT b i d=Sort.shiftUp Sort.ltInt b (i+1) d:=if_pos h
theorem J6 {b i:Nat}{d:Array Int}(h:¬b-i≥2):upT b i d=d:=if_neg h
def ZE (a b k i:Nat)(d:Array Int):Array Int×Bool:=if i=b then (d,true) else if b-a<50 then (d,false) else Sort.partialIns Sort.ltInt a b k i (upT b i (if i-a≥2 then Sort.shiftDown Sort.ltInt (i-1) (Sort.swp d i (i-1)) else Sort.swp d i (i-1)))
theorem Qa (a b k i:Nat)(d:Array Int):Sort.partialIns Sort.ltInt a b (k+1) i d=ZE a b k (Sort.scanSorted Sort.ltInt d b i) d:=rfl
theorem KK {d:Array Int}{b i:Nat}(h:i<b)(hl:Sort.ltInt d[i]! d[i-1]! = false):Sort.scanSorted Sort.ltInt d b i=Sort.scanSorted Sort.ltInt d b (i+1):=by
 conv=>lhs;unfold Sort.scanSorted
 rw [if_pos (by rw [hl];simp [h])]
theorem Zi {d:Array Int}{b i:Nat}(h:¬i<b∨Sort.ltInt d[i]! d[i-1]! = true):Sort.scanSorted Sort.ltInt d b i=i:=by
 unfold Sort.scanSorted
 rw [if_neg (by rcases h with h |h;simp [h];rw [h];simp)]
theorem KL {d:Array Int}{j:Nat}(h:1≤j)(hl:Sort.ltInt d[j]! d[j-1]! = false):Sort.shiftDown Sort.ltInt j d=d:=by
 obtain ⟨k,rfl⟩:∃ k,j=k+1:=⟨j-1,by omega⟩
 unfold Sort.shiftDown
 rw [if_pos (by simp at hl;rw [hl];rfl)]
theorem sd_go {d:Array Int}{j:Nat}(h:1≤j)(hl:Sort.ltInt d[j]! d[j-1]! = true):Sort.shiftDown Sort.ltInt j d=Sort.shiftDown Sort.ltInt (j-1) (Sort.swp d j (j-1)):=by
 obtain ⟨k,rfl⟩:∃ k,j=k+1:=⟨j-1,by omega⟩
 conv=>lhs;unfold Sort.shiftDown
 rw [if_neg (by simp at hl;rw [hl];decide)]
 rfl
theorem Qb {d:Array Int}{b j:Nat}(h:j<b)(hl:Sort.ltInt d[j]! d[j-1]! = false):Sort.shiftUp Sort.ltInt b j d=d:=by
 unfold Sort.shiftUp
 rw [if_pos h,if_pos (by rw [hl];rfl)]
theorem su_go {d:Array Int}{b j:Nat}(h:j<b)(hl:Sort.ltInt d[j]! d[j-1]! = true):Sort.shiftUp Sort.ltInt b j d=Sort.shiftUp Sort.ltInt b (j+1) (Sort.swp d j (j-1)):=by
 conv=>lhs;unfold Sort.shiftUp
 rw [if_pos h,if_neg (by rw [hl];decide)]
theorem J7 {d:Array Int}{b j:Nat}(h:¬j<b):Sort.shiftUp Sort.ltInt b j d=d:=by
 unfold Sort.shiftUp
 rw [if_neg h]
theorem partialE (blk off cap a b:Nat)(d:Array Int)(w:World)(h:Sort.Holds (Value.int .i32) w blk off d)(hab:a<b)(hb:b≤d.size)(hn:d.size<1099511627776) :
  Calls Tryz.prog 186 #[.slice (some ⟨blk,off,none⟩) d.size cap,.int .i64 a,.int .i64 b] w fun e w'=>e = .returned (.bool (Sort.partialInsertionSort Sort.ltInt d a b).2)∧Ex w blk off (Sort.partialInsertionSort Sort.ltInt d a b).1 w':=by
 have HH:=zb (Ex.refl h)
 clear h
 generalize hN:d.size=N at *
 have HN:=zb hN
 clear hN
 have HT:Hid (Sort.partialInsertionSort Sort.ltInt d a b=Sort.partialIns Sort.ltInt a b (5-0) (a+1) d):=rfl
 generalize Sort.partialInsertionSort Sort.ltInt d a b=tgt at *
 go_enter Tryz.func186,Tryz.ntmps186
 go_wp2_with fail
 go_loopw [7,8] (fun vi vs wr=>∃ (i s:Nat) (dc:Array Int),vi = .int .i64 i∧vs = .int .i64 s∧a<i∧i≤b∧s≤5∧Hid (dc.size=N)∧Hid (Ex w blk off dc wr)∧Hid (tgt=Sort.partialIns Sort.ltInt a b (5-s) i dc)) (fun vi vs _=>5-(intOf vs).toNat)
 case atStart=>exact ⟨a+1,0,d,by go_num,rfl,by omega,by omega,by omega,HN,HH,HT⟩
 case round=>
  clear HN HH HT
  obtain ⟨i0,s,dc,rfl,rfl,hai0,hib0,hs,HC,HX,HE⟩:=hrel
  by_cases h5:s<5
  ·have h5z:(s:Int)<5:=by omega
   have HE1:Hid (tgt=ZE a b (4-s) (Sort.scanSorted Sort.ltInt dc b i0) dc):=by show _=_;rw [za HE,show 5-s=(4-s)+1 by omega,Qa]
   clear HE
   go_wp2_with fail
   go_loopw [7] (fun vi wr=>∃ i:Nat,vi = .int .i64 i∧a<i∧i≤b∧Hid (Ex w blk off dc wr)∧Hid (tgt=ZE a b (4-s) (Sort.scanSorted Sort.ltInt dc b i) dc)) (fun vi _=>b-(intOf vi).toNat)
   case atStart=>exact ⟨i0,rfl,hai0,hib0,HX,HE1⟩
   case round=>
    clear HX HE1
    obtain ⟨i,rfl,hai,hib,HX,HE⟩:=hrel
    by_cases hilt:i<b
    ·have hne:((i:Int) == (b:Int))=false:=by simp;omega
     obtain ⟨G,HG,hcw,hfw⟩:=(za HX).fam (za HC)
     by_cases h50:(b:Int)-a<50
     ·go_wp2_with fail
      go_big_quiet (first |(go_at_call 187;refine Calls.quiet_of_same (zq _ _ _)))
      go_wp2_with fail
      ·have hl:Sort.ltInt (G i) (G (i-1))=false:=by have q:(!Sort.ltInt (G i) (G (i-1)))=true:=(by assumption);simpa using q
       have HE2:Hid (tgt=ZE a b (4-s) (Sort.scanSorted Sort.ltInt dc b (i+1)) dc):=by show _=_;rw [za HE,KK hilt (by rw [←za HG,←za HG];exact hl)]
       go_roundw
       case rel=>exact ⟨i+1,by go_num,by omega,by omega,(za HX).drewN _,HE2⟩
       case measure=>simp [intOf];omega
      ·have hl:Sort.ltInt (G i) (G (i-1))=true:=by have q:(!Sort.ltInt (G i) (G (i-1)))=false:=(by assumption);simpa using q
       have HE2:Hid (tgt=(dc,false)):=by show _=_;rw [za HE,Zi (.inr (by rw [←za HG,←za HG];exact hl))];unfold ZE;rw [if_neg (by omega),if_pos (by omega)]
       go_ret
       rw [za HE2]
       exact ⟨rfl,(za HX).drewN _⟩
     ·have h50d:decide ((b:Int)-a<50)=false:=by simp;omega
      go_wp2_with fail
      go_big_quiet (first |(go_at_call 187;refine Calls.quiet_of_same (zq _ _ _)))
      go_wp2_with fail
      ·have hl:Sort.ltInt (G i) (G (i-1))=false:=by have q:(!Sort.ltInt (G i) (G (i-1)))=true:=(by assumption);simpa using q
       have HE2:Hid (tgt=ZE a b (4-s) (Sort.scanSorted Sort.ltInt dc b (i+1)) dc):=by show _=_;rw [za HE,KK hilt (by rw [←za HG,←za HG];exact hl)]
       go_roundw
       case rel=>exact ⟨i+1,by go_num,by omega,by omega,(za HX).drewN _,HE2⟩
       case measure=>simp [intOf];omega
      ·have hl:Sort.ltInt (G i) (G (i-1))=true:=by have q:(!Sort.ltInt (G i) (G (i-1)))=false:=(by assumption);simpa using q
       have HE3:Hid (tgt=Sort.partialIns Sort.ltInt a b (4-s) i (upT b i (if i-a≥2 then Sort.shiftDown Sort.ltInt (i-1) ((dc.setIfInBounds i (G (i-1))).setIfInBounds (i-1) (G i)) else (dc.setIfInBounds i (G (i-1))).setIfInBounds (i-1) (G i)))):=by show _=_;rw [za HE,Zi (.inr (by rw [←za HG,←za HG];exact hl)),zS (za HG)];unfold ZE;rw [if_neg (by omega),if_neg (by omega)]
       have HC3:Hid (((dc.setIfInBounds i (G (i-1))).setIfInBounds (i-1) (G i)).size=N):=by show _=_;simp;exact za HC
       revert nq;intro nq1
       have HX2:=zb ((za HX).drewN nq1)
       have hcw2:∀ t,t<N→(wr.drewN nq1).cell? ⟨blk,off+t,none⟩=some (.int .i32 (G t)):=hcw
       have hfw2:∀ t,t<N→(wr.drewN nq1).frozen? ⟨blk,off+t,none⟩=false:=hfw
       clear HX HE HG hcw hfw hl HC
       generalize wr.drewN nq1=wr2 at *
       go_region
       have HX3:=zb ((za HX2).two (p:=off+i) (q:=off+(i-1)) (n:=1) (y:=G (i-1)) (z:=G i) rfl rfl)
       generalize (dc.setIfInBounds i (G (i-1))).setIfInBounds (i-1) (G i)=dj at *
       have HX:=HX3
       have HC:=HC3
       have HE:=HE3
       clear HX3 HC3 HE3 HX2
       by_cases hb2:2≤(b:Int)-i
       ·have hb2n:b-i≥2:=by omega
        by_cases ha2:2≤(i:Int)-a
        ·skip
         go_wp2_with fail
         go_loopw [9] (fun vj wr2=>∃ (j:Nat) (dj:Array Int),vj = .int .i64 j∧j<i∧Hid (dj.size=N)∧Hid (Ex w blk off dj wr2)∧Hid (tgt=Sort.partialIns Sort.ltInt a b (4-s) i (upT b i (Sort.shiftDown Sort.ltInt j dj)))) (fun vj _=>(intOf vj).toNat)
         case atStart=>exact ⟨i-1,_,by congr 1;omega,by omega,HC,HX,(za HE).trans (by rw [if_pos (by omega)])⟩
         case round=>
          clear HX HC HE
          obtain ⟨j,dj,rfl,hji,HC,HX,HE⟩:=hrel
          by_cases hj1:1≤(j:Int)
          ·obtain ⟨G,HG,hcw,hfw⟩:=(za HX).fam (za HC)
           go_wp2_with fail
           go_big_quiet (first |(go_at_call 187;refine Calls.quiet_of_same (zq _ _ _)))
           go_wp2_with fail
           ·have hl:Sort.ltInt (G j) (G (j-1))=false:=by have q:(!Sort.ltInt (G j) (G (j-1)))=true:=(by assumption);simpa using q
            have HE1:Hid (tgt=Sort.partialIns Sort.ltInt a b (4-s) i (upT b i dj)):=by show _=_;rw [za HE,KL (by omega) (by rw [←za HG,←za HG];exact hl)]
            revert nq;intro nq1
            have HX2:=zb ((za HX).drewN nq1)
            clear hcw hfw HX HE HG hl
            generalize wr.drewN nq1=wr2 at *
            have HX:=HX2
            have HE:=HE1
            clear HX2 HE1
            have HE0:=HE
            clear HE
            have HE:=zb ((za HE0).trans (by rw [X9 hb2n]))
            clear HE0
            try go_wp2_with fail
            go_loopw [10] (fun vj wr2=>∃ (j:Nat) (dj:Array Int),vj = .int .i64 j∧i<j∧j≤b∧Hid (dj.size=N)∧Hid (Ex w blk off dj wr2)∧Hid (tgt=Sort.partialIns Sort.ltInt a b (4-s) i (Sort.shiftUp Sort.ltInt b j dj))) (fun vj _=>b-(intOf vj).toNat)
            case atStart=>exact ⟨i+1,_,by go_num,by omega,by omega,HC,HX,HE⟩
            case round=>
             clear HX HC HE
             obtain ⟨j,dj,rfl,hij,hjb,HC,HX,HE⟩:=hrel
             by_cases hjb2:j<b
             ·obtain ⟨G,HG,hcw,hfw⟩:=(za HX).fam (za HC)
              go_wp2_with fail
              go_big_quiet (first |(go_at_call 187;refine Calls.quiet_of_same (zq _ _ _)))
              go_wp2_with fail
              ·have hl:Sort.ltInt (G j) (G (j-1))=false:=by have q:(!Sort.ltInt (G j) (G (j-1)))=true:=(by assumption);simpa using q
               have HE2:Hid (tgt=Sort.partialIns Sort.ltInt a b (4-s) i dj):=by show _=_;rw [za HE,Qb hjb2 (by rw [←za HG,←za HG];exact hl)]
               go_roundw
               case rel=>exact ⟨i,s+1,_,rfl,by go_num,by omega,by omega,by omega,HC,(za HX).drewN _,by rw [show 5-(s+1)=4-s by omega];exact HE2⟩
               case measure=>simp [intOf];omega
              ·have hl:Sort.ltInt (G j) (G (j-1))=true:=by have q:(!Sort.ltInt (G j) (G (j-1)))=false:=(by assumption);simpa using q
               have HE2:Hid (tgt=Sort.partialIns Sort.ltInt a b (4-s) i (Sort.shiftUp Sort.ltInt b (j+1) ((dj.setIfInBounds j (G (j-1))).setIfInBounds (j-1) (G j)))):=by show _=_;rw [za HE,su_go hjb2 (by rw [←za HG,←za HG];exact hl),zS (za HG)]
               have HC2:Hid (((dj.setIfInBounds j (G (j-1))).setIfInBounds (j-1) (G j)).size=N):=by show _=_;simp;exact za HC
               revert nq;intro nq1
               have HX2:=zb ((za HX).drewN nq1)
               have hcw2:∀ t,t<N→(wr.drewN nq1).cell? ⟨blk,off+t,none⟩=some (.int .i32 (G t)):=hcw
               have hfw2:∀ t,t<N→(wr.drewN nq1).frozen? ⟨blk,off+t,none⟩=false:=hfw
               clear HX HC HE HG hcw hfw hl
               generalize wr.drewN nq1=wr2 at *
               go_region
               go_wp2_with fail
               go_roundw
               case rel=>exact ⟨j+1,_,by go_num,by omega,by omega,HC2,(za HX2).two (by omega) (by omega),HE2⟩
               case measure=>simp [intOf];omega
             ·have HE2:Hid (tgt=Sort.partialIns Sort.ltInt a b (4-s) i dj):=by show _=_;rw [za HE,J7 hjb2]
              go_wp2_with fail
              go_roundw
              case rel=>exact ⟨i,s+1,_,rfl,by go_num,by omega,by omega,by omega,HC,HX,by rw [show 5-(s+1)=4-s by omega];exact HE2⟩
              case measure=>simp [intOf];omega
           ·have hl:Sort.ltInt (G j) (G (j-1))=true:=by have q:(!Sort.ltInt (G j) (G (j-1)))=false:=(by assumption);simpa using q
            have HE2:Hid (tgt=Sort.partialIns Sort.ltInt a b (4-s) i (upT b i (Sort.shiftDown Sort.ltInt (j-1) ((dj.setIfInBounds j (G (j-1))).setIfInBounds (j-1) (G j))))):=by show _=_;rw [za HE,sd_go (by omega) (by rw [←za HG,←za HG];exact hl),zS (za HG)]
            have HC2:Hid (((dj.setIfInBounds j (G (j-1))).setIfInBounds (j-1) (G j)).size=N):=by show _=_;simp;exact za HC
            revert nq;intro nq1
            have HX2:=zb ((za HX).drewN nq1)
            have hcw2:∀ t,t<N→(wr.drewN nq1).cell? ⟨blk,off+t,none⟩=some (.int .i32 (G t)):=hcw
            have hfw2:∀ t,t<N→(wr.drewN nq1).frozen? ⟨blk,off+t,none⟩=false:=hfw
            clear HX HC HE HG hcw hfw hl
            generalize wr.drewN nq1=wr2 at *
            go_region
            go_wp2_with fail
            go_roundw
            case rel=>exact ⟨j-1,_,by congr 1;omega,by omega,HC2,(za HX2).two (by omega) (by omega),HE2⟩
            case measure=>simp [intOf];omega
          ·obtain rfl:j=0:=by omega
           have HE1:Hid (tgt=Sort.partialIns Sort.ltInt a b (4-s) i (upT b i dj)):=HE
           clear HE
           have HE:=HE1
           clear HE1
           go_wp2_with fail
           have HE0:=HE
           clear HE
           have HE:=zb ((za HE0).trans (by rw [X9 hb2n]))
           clear HE0
           try go_wp2_with fail
           go_loopw [10] (fun vj wr2=>∃ (j:Nat) (dj:Array Int),vj = .int .i64 j∧i<j∧j≤b∧Hid (dj.size=N)∧Hid (Ex w blk off dj wr2)∧Hid (tgt=Sort.partialIns Sort.ltInt a b (4-s) i (Sort.shiftUp Sort.ltInt b j dj))) (fun vj _=>b-(intOf vj).toNat)
           case atStart=>exact ⟨i+1,_,by go_num,by omega,by omega,HC,HX,HE⟩
           case round=>
            clear HX HC HE
            obtain ⟨j,dj,rfl,hij,hjb,HC,HX,HE⟩:=hrel
            by_cases hjb2:j<b
            ·obtain ⟨G,HG,hcw,hfw⟩:=(za HX).fam (za HC)
             go_wp2_with fail
             go_big_quiet (first |(go_at_call 187;refine Calls.quiet_of_same (zq _ _ _)))
             go_wp2_with fail
             ·have hl:Sort.ltInt (G j) (G (j-1))=false:=by have q:(!Sort.ltInt (G j) (G (j-1)))=true:=(by assumption);simpa using q
              have HE2:Hid (tgt=Sort.partialIns Sort.ltInt a b (4-s) i dj):=by show _=_;rw [za HE,Qb hjb2 (by rw [←za HG,←za HG];exact hl)]
              go_roundw
              case rel=>exact ⟨i,s+1,_,rfl,by go_num,by omega,by omega,by omega,HC,(za HX).drewN _,by rw [show 5-(s+1)=4-s by omega];exact HE2⟩
              case measure=>simp [intOf];omega
             ·have hl:Sort.ltInt (G j) (G (j-1))=true:=by have q:(!Sort.ltInt (G j) (G (j-1)))=false:=(by assumption);simpa using q
              have HE2:Hid (tgt=Sort.partialIns Sort.ltInt a b (4-s) i (Sort.shiftUp Sort.ltInt b (j+1) ((dj.setIfInBounds j (G (j-1))).setIfInBounds (j-1) (G j)))):=by show _=_;rw [za HE,su_go hjb2 (by rw [←za HG,←za HG];exact hl),zS (za HG)]
              have HC2:Hid (((dj.setIfInBounds j (G (j-1))).setIfInBounds (j-1) (G j)).size=N):=by show _=_;simp;exact za HC
              revert nq;intro nq1
              have HX2:=zb ((za HX).drewN nq1)
              have hcw2:∀ t,t<N→(wr.drewN nq1).cell? ⟨blk,off+t,none⟩=some (.int .i32 (G t)):=hcw
              have hfw2:∀ t,t<N→(wr.drewN nq1).frozen? ⟨blk,off+t,none⟩=false:=hfw
              clear HX HC HE HG hcw hfw hl
              generalize wr.drewN nq1=wr2 at *
              go_region
              go_wp2_with fail
              go_roundw
              case rel=>exact ⟨j+1,_,by go_num,by omega,by omega,HC2,(za HX2).two (by omega) (by omega),HE2⟩
              case measure=>simp [intOf];omega
            ·have HE2:Hid (tgt=Sort.partialIns Sort.ltInt a b (4-s) i dj):=by show _=_;rw [za HE,J7 hjb2]
             go_wp2_with fail
             go_roundw
             case rel=>exact ⟨i,s+1,_,rfl,by go_num,by omega,by omega,by omega,HC,HX,by rw [show 5-(s+1)=4-s by omega];exact HE2⟩
             case measure=>simp [intOf];omega
        ·skip
         have HE0:=HE
         clear HE
         have HE:Hid (tgt=Sort.partialIns Sort.ltInt a b (4-s) i (upT b i dj)):=(za HE0).trans (by rw [if_neg (by omega)])
         clear HE0
         go_wp2_with fail
         have HE0:=HE
         clear HE
         have HE:=zb ((za HE0).trans (by rw [X9 hb2n]))
         clear HE0
         try go_wp2_with fail
         go_loopw [10] (fun vj wr2=>∃ (j:Nat) (dj:Array Int),vj = .int .i64 j∧i<j∧j≤b∧Hid (dj.size=N)∧Hid (Ex w blk off dj wr2)∧Hid (tgt=Sort.partialIns Sort.ltInt a b (4-s) i (Sort.shiftUp Sort.ltInt b j dj))) (fun vj _=>b-(intOf vj).toNat)
         case atStart=>exact ⟨i+1,_,by go_num,by omega,by omega,HC,HX,HE⟩
         case round=>
          clear HX HC HE
          obtain ⟨j,dj,rfl,hij,hjb,HC,HX,HE⟩:=hrel
          by_cases hjb2:j<b
          ·obtain ⟨G,HG,hcw,hfw⟩:=(za HX).fam (za HC)
           go_wp2_with fail
           go_big_quiet (first |(go_at_call 187;refine Calls.quiet_of_same (zq _ _ _)))
           go_wp2_with fail
           ·have hl:Sort.ltInt (G j) (G (j-1))=false:=by have q:(!Sort.ltInt (G j) (G (j-1)))=true:=(by assumption);simpa using q
            have HE2:Hid (tgt=Sort.partialIns Sort.ltInt a b (4-s) i dj):=by show _=_;rw [za HE,Qb hjb2 (by rw [←za HG,←za HG];exact hl)]
            go_roundw
            case rel=>exact ⟨i,s+1,_,rfl,by go_num,by omega,by omega,by omega,HC,(za HX).drewN _,by rw [show 5-(s+1)=4-s by omega];exact HE2⟩
            case measure=>simp [intOf];omega
           ·have hl:Sort.ltInt (G j) (G (j-1))=true:=by have q:(!Sort.ltInt (G j) (G (j-1)))=false:=(by assumption);simpa using q
            have HE2:Hid (tgt=Sort.partialIns Sort.ltInt a b (4-s) i (Sort.shiftUp Sort.ltInt b (j+1) ((dj.setIfInBounds j (G (j-1))).setIfInBounds (j-1) (G j)))):=by show _=_;rw [za HE,su_go hjb2 (by rw [←za HG,←za HG];exact hl),zS (za HG)]
            have HC2:Hid (((dj.setIfInBounds j (G (j-1))).setIfInBounds (j-1) (G j)).size=N):=by show _=_;simp;exact za HC
            revert nq;intro nq1
            have HX2:=zb ((za HX).drewN nq1)
            have hcw2:∀ t,t<N→(wr.drewN nq1).cell? ⟨blk,off+t,none⟩=some (.int .i32 (G t)):=hcw
            have hfw2:∀ t,t<N→(wr.drewN nq1).frozen? ⟨blk,off+t,none⟩=false:=hfw
            clear HX HC HE HG hcw hfw hl
            generalize wr.drewN nq1=wr2 at *
            go_region
            go_wp2_with fail
            go_roundw
            case rel=>exact ⟨j+1,_,by go_num,by omega,by omega,HC2,(za HX2).two (by omega) (by omega),HE2⟩
            case measure=>simp [intOf];omega
          ·have HE2:Hid (tgt=Sort.partialIns Sort.ltInt a b (4-s) i dj):=by show _=_;rw [za HE,J7 hjb2]
           go_wp2_with fail
           go_roundw
           case rel=>exact ⟨i,s+1,_,rfl,by go_num,by omega,by omega,by omega,HC,HX,by rw [show 5-(s+1)=4-s by omega];exact HE2⟩
           case measure=>simp [intOf];omega
       ·have hb2d:decide (2≤(b:Int)-i)=false:=by simp;omega
        have hb2n:¬b-i≥2:=by omega
        by_cases ha2:2≤(i:Int)-a
        ·skip
         go_wp2_with fail
         go_loopw [9] (fun vj wr2=>∃ (j:Nat) (dj:Array Int),vj = .int .i64 j∧j<i∧Hid (dj.size=N)∧Hid (Ex w blk off dj wr2)∧Hid (tgt=Sort.partialIns Sort.ltInt a b (4-s) i (upT b i (Sort.shiftDown Sort.ltInt j dj)))) (fun vj _=>(intOf vj).toNat)
         case atStart=>exact ⟨i-1,_,by congr 1;omega,by omega,HC,HX,(za HE).trans (by rw [if_pos (by omega)])⟩
         case round=>
          clear HX HC HE
          obtain ⟨j,dj,rfl,hji,HC,HX,HE⟩:=hrel
          by_cases hj1:1≤(j:Int)
          ·obtain ⟨G,HG,hcw,hfw⟩:=(za HX).fam (za HC)
           go_wp2_with fail
           go_big_quiet (first |(go_at_call 187;refine Calls.quiet_of_same (zq _ _ _)))
           go_wp2_with fail
           ·have hl:Sort.ltInt (G j) (G (j-1))=false:=by have q:(!Sort.ltInt (G j) (G (j-1)))=true:=(by assumption);simpa using q
            have HE1:Hid (tgt=Sort.partialIns Sort.ltInt a b (4-s) i (upT b i dj)):=by show _=_;rw [za HE,KL (by omega) (by rw [←za HG,←za HG];exact hl)]
            revert nq;intro nq1
            have HX2:=zb ((za HX).drewN nq1)
            clear hcw hfw HX HE HG hl
            generalize wr.drewN nq1=wr2 at *
            have HX:=HX2
            have HE:=HE1
            clear HX2 HE1
            have HE2:Hid (tgt=Sort.partialIns Sort.ltInt a b (4-s) i dj):=(za HE).trans (by rw [J6 hb2n])
            try go_wp2_with fail
            go_roundw
            case rel=>exact ⟨i,s+1,_,rfl,by go_num,by omega,by omega,by omega,HC,HX,by rw [show 5-(s+1)=4-s by omega];exact HE2⟩
            case measure=>simp [intOf];omega
           ·have hl:Sort.ltInt (G j) (G (j-1))=true:=by have q:(!Sort.ltInt (G j) (G (j-1)))=false:=(by assumption);simpa using q
            have HE2:Hid (tgt=Sort.partialIns Sort.ltInt a b (4-s) i (upT b i (Sort.shiftDown Sort.ltInt (j-1) ((dj.setIfInBounds j (G (j-1))).setIfInBounds (j-1) (G j))))):=by show _=_;rw [za HE,sd_go (by omega) (by rw [←za HG,←za HG];exact hl),zS (za HG)]
            have HC2:Hid (((dj.setIfInBounds j (G (j-1))).setIfInBounds (j-1) (G j)).size=N):=by show _=_;simp;exact za HC
            revert nq;intro nq1
            have HX2:=zb ((za HX).drewN nq1)
            have hcw2:∀ t,t<N→(wr.drewN nq1).cell? ⟨blk,off+t,none⟩=some (.int .i32 (G t)):=hcw
            have hfw2:∀ t,t<N→(wr.drewN nq1).frozen? ⟨blk,off+t,none⟩=false:=hfw
            clear HX HC HE HG hcw hfw hl
            generalize wr.drewN nq1=wr2 at *
            go_region
            go_wp2_with fail
            go_roundw
            case rel=>exact ⟨j-1,_,by congr 1;omega,by omega,HC2,(za HX2).two (by omega) (by omega),HE2⟩
            case measure=>simp [intOf];omega
          ·obtain rfl:j=0:=by omega
           have HE1:Hid (tgt=Sort.partialIns Sort.ltInt a b (4-s) i (upT b i dj)):=HE
           clear HE
           have HE:=HE1
           clear HE1
           go_wp2_with fail
           have HE2:Hid (tgt=Sort.partialIns Sort.ltInt a b (4-s) i dj):=(za HE).trans (by rw [J6 hb2n])
           try go_wp2_with fail
           go_roundw
           case rel=>exact ⟨i,s+1,_,rfl,by go_num,by omega,by omega,by omega,HC,HX,by rw [show 5-(s+1)=4-s by omega];exact HE2⟩
           case measure=>simp [intOf];omega
        ·skip
         have HE0:=HE
         clear HE
         have HE:Hid (tgt=Sort.partialIns Sort.ltInt a b (4-s) i (upT b i dj)):=(za HE0).trans (by rw [if_neg (by omega)])
         clear HE0
         go_wp2_with fail
         have HE2:Hid (tgt=Sort.partialIns Sort.ltInt a b (4-s) i dj):=(za HE).trans (by rw [J6 hb2n])
         try go_wp2_with fail
         go_roundw
         case rel=>exact ⟨i,s+1,_,rfl,by go_num,by omega,by omega,by omega,HC,HX,by rw [show 5-(s+1)=4-s by omega];exact HE2⟩
         case measure=>simp [intOf];omega
    ·obtain rfl:i=b:=by omega
     have hg:decide ((i:Int)<(i:Int))=false:=by simp
     have HE2:Hid (tgt=(dc,true)):=by show _=_;rw [za HE,Zi (.inl (by omega))];unfold ZE;rw [if_pos rfl]
     go_wp2_with fail
     go_big_quiet (first |(go_at_call 187;refine Calls.quiet_of_same (zq _ _ _)))
     go_wp2_with fail
     go_ret
     rw [za HE2]
     exact ⟨rfl,(za HX).drewN _⟩
  ·have HE2:Hid (tgt=(dc,false)):=by show _=_;rw [za HE,show 5-s=0 by omega];rfl
   go_wp2_with fail
   go_ret
   rw [za HE2]
   exact ⟨rfl,za HX⟩
def Fam (w:World)(blk off N:Nat)(G:Nat→Int):Prop:=(∀ t,t<N→w.cell? ⟨blk,off+t,none⟩=some (.int .i32 (G t)))∧∀ t,t<N→w.frozen? ⟨blk,off+t,none⟩=false
def eqR (a i j i2 j2:Nat)(d:Array Int):Nat×Array Int:=if i2 > j2 then (i2,d) else if (j2-1)+1-(i2+1)<j+1-i then Sort.partEqLoop Sort.ltInt a (i2+1) (j2-1) (Sort.swp d i2 j2) else (i2,d)
def eqT (a i j i2:Nat)(d:Array Int):Nat×Array Int:=eqR a i j i2 (Sort.scanDown (fun x=>Sort.ltInt d[a]! x) d i2 j) d
theorem Xj (a i j:Nat)(d:Array Int):Sort.partEqLoop Sort.ltInt a i j d=eqT a i j (Sort.scanUp (fun x=>!Sort.ltInt d[a]! x) d j i) d:=by
 conv=>lhs;unfold Sort.partEqLoop
 unfold eqT eqR
 simp only []
 split
 ·rfl
 ·split<;>rfl
theorem Xk {p:Int→Bool}{d:Array Int}{j i:Nat}(h:i≤j)(hl:p d[i]! = true):Sort.scanUp p d j i=Sort.scanUp p d j (i+1):=by
 conv=>lhs;unfold Sort.scanUp
 rw [if_pos (by rw [hl];simp [h])]
theorem xN {p:Int→Bool}{d:Array Int}{j i:Nat}(h:¬i≤j∨p d[i]! = false):Sort.scanUp p d j i=i:=by
 unfold Sort.scanUp
 rw [if_neg (by rcases h with h |h;simp [h];rw [h];simp)]
theorem Xl {p:Int→Bool}{d:Array Int}{j i:Nat}(h0:1≤j)(h:i≤j)(hl:p d[j]! = true):Sort.scanDown p d i j=Sort.scanDown p d i (j-1):=by
 obtain ⟨k,rfl⟩:∃ k,j=k+1:=⟨j-1,by omega⟩
 conv=>lhs;unfold Sort.scanDown
 rw [if_pos (by rw [hl];simp [h])]
 rfl
theorem vn {p:Int→Bool}{d:Array Int}{j i:Nat}(hl:p d[j]! = false):Sort.scanDown p d i j=j:=by
 cases j with
 |zero=>rfl
 |succ k=>
  unfold Sort.scanDown
  rw [if_neg (by rw [hl];simp)]
theorem qU {p:Int→Bool}{d:Array Int}{j i:Nat}(h:¬i≤j):Sort.scanDown p d i j=j:=by
 cases j with
 |zero=>rfl
 |succ k=>
  unfold Sort.scanDown
  rw [if_neg (by simp [h])]
theorem Ex.drew {a b:World}{blk off:Nat}{d:Array Int}(h:Ex a blk off d b):Ex a blk off d b.drew:=⟨h.1.drew,h.2⟩
theorem partEqE (blk off cap a b p:Nat)(d:Array Int)(w:World)(h:Sort.Holds (Value.int .i32) w blk off d)(hap:a≤p)(hpb:p<b)(hb:b≤d.size)(hn:d.size<1099511627776) :
  Calls Tryz.prog 188 #[.slice (some ⟨blk,off,none⟩) d.size cap,.int .i64 a,.int .i64 b,.int .i64 p] w fun e w'=>e = .returned (.int .i64 ((Sort.partitionEqual Sort.ltInt d a b p).1:Nat))∧Ex w blk off (Sort.partitionEqual Sort.ltInt d a b p).2 w':=by
 have HH:=zb (Ex.refl h)
 clear h
 generalize hN:d.size=N at *
 obtain ⟨G,HG0,hcw,hfw⟩:=(za HH).fam hN
 have HT0:Hid (Sort.partitionEqual Sort.ltInt d a b p=Sort.partEqLoop Sort.ltInt a (a+1) (b-1) (Sort.swp d a p)):=rfl
 have HC:Hid ((Sort.swp d a p).size=N):=by show _=_;rw [wI];exact hN
 clear hN
 generalize Sort.partitionEqual Sort.ltInt d a b p=tgt at *
 have HT:Hid (tgt=Sort.partEqLoop Sort.ltInt a (a+1) (b-1) (Sort.swp d a p)):=HT0
 clear HT0
 go_enter Tryz.func188,Tryz.ntmps188
 have hpn:p<N:=by omega
 have d2:=hcw p hpn
 have g2:=hfw p hpn
 have d1:=hcw a (by omega)
 have g1:=hfw a (by omega)
 rcases Nat.lt_or_ge a p with hpa |hpa
 ·go_wp2_with fail
  go_region
  go_wp2_with fail
  clear d1 d2 g1 g2 hcw hfw
  go_loopw [9,10] (fun vi vj wr=>∃ (i j:Nat) (dc:Array Int),vi = .int .i64 i∧vj = .int .i64 j∧a<i∧i≤j+1∧j<b∧Hid (dc.size=N)∧Hid (Ex w blk off dc wr)∧Hid (tgt=Sort.partEqLoop Sort.ltInt a i j dc)) (fun vi vj _=>(intOf vj+1-intOf vi).toNat)
  case atStart=>exact ⟨a+1,b-1,_,by go_num,by congr 1;omega,by omega,by omega,by omega,HC,(by show Ex _ _ _ _ _;rw [←zS (za HG0)];first |exact (((za HH).set a _).set p _).drew |exact (za HH).two rfl rfl),HT⟩
  case round=>
   clear HH HC HT HG0
   obtain ⟨i,j,dc,rfl,rfl,hai,hij,hjb,HC,HX,HE⟩:=hrel
   obtain ⟨G,HG,hcw,hfw⟩:=(za HX).fam (za HC)
   have HF:Hid (Fam wr blk off N G):=⟨hcw,hfw⟩
   have HE1:Hid (tgt=eqT a i j (Sort.scanUp (fun x=>!Sort.ltInt dc[a]! x) dc j i) dc):=by show _=_;rw [za HE,Xj]
   clear HE
   go_wp2_with fail
   go_loopw [9] (fun vi wr2=>∃ i2:Nat,vi = .int .i64 i2∧i≤i2∧i2≤j+1∧Hid (Ex w blk off dc wr2)∧Hid (Fam wr2 blk off N G)∧Hid (tgt=eqT a i j (Sort.scanUp (fun x=>!Sort.ltInt dc[a]! x) dc j i2) dc)) (fun vi _=>j+1-(intOf vi).toNat)
   case atStart=>exact ⟨i,rfl,Nat.le_refl _,hij,HX,HF,HE1⟩
   case round=>
    clear HX HF HE1 hcw hfw
    obtain ⟨i2,rfl,hai2,hij2,HX,HF,HE⟩:=hrel
    obtain ⟨hcw,hfw⟩:=za HF
    by_cases hle1:i2≤j
    ·go_wp2_with fail
     go_big_quiet (first |(go_at_call 187;refine Calls.quiet_of_same (zq _ _ _)))
     go_wp2_with fail
     ·have hl:Sort.ltInt (G a) (G i2)=false:=by have q:(!Sort.ltInt (G a) (G i2))=true:=(by assumption);simpa using q
      have HE2:Hid (tgt=eqT a i j (Sort.scanUp (fun x=>!Sort.ltInt dc[a]! x) dc j (i2+1)) dc):=by show _=_;rw [za HE,Xk hle1 (by show (!Sort.ltInt dc[a]! dc[i2]!)=true;rw [←za HG,←za HG,hl];rfl)]
      go_roundw
      case rel=>exact ⟨i2+1,by go_num,by omega,by omega,(za HX).drewN _,za HF,HE2⟩
      case measure=>simp [intOf];omega
     ·have hf1:Sort.ltInt (G a) (G i2)=true:=by simpa using (by assumption:(!Sort.ltInt (G a) (G i2))=false)
      have HE2:Hid (tgt=eqR a i j i2 (Sort.scanDown (fun x=>Sort.ltInt dc[a]! x) dc i2 j) dc):=by show _=_;rw [za HE,xN (.inr (by show (!Sort.ltInt dc[a]! dc[i2]!)=false;rw [←za HG,←za HG,hf1];rfl))];rfl
      clear HE
      have HE:=HE2
      clear HE2
      revert nq;intro nq1
      have HX2:=zb ((za HX).drewN nq1)
      have HF2:Hid (Fam (wr.drewN nq1) blk off N G):=za HF
      clear hcw hfw HX HF
      generalize wr.drewN nq1=wr5 at *
      have HX:=HX2
      have HF:=HF2
      clear HX2 HF2
      obtain ⟨hcw,hfw⟩:=za HF
      go_loopw [10] (fun vj wr3=>∃ j2:Nat,vj = .int .i64 j2∧i2≤j2+1∧j2≤j∧Hid (Ex w blk off dc wr3)∧Hid (Fam wr3 blk off N G)∧Hid (tgt=eqR a i j i2 (Sort.scanDown (fun x=>Sort.ltInt dc[a]! x) dc i2 j2) dc)) (fun vj _=>(intOf vj).toNat)
      case atStart=>exact ⟨j,rfl,by omega,Nat.le_refl _,HX,HF,HE⟩
      case round=>
       clear HX HF HE hcw hfw
       obtain ⟨j2,rfl,hij2,hj2,HX,HF,HE⟩:=hrel
       by_cases hle:i2≤j2
       ·have hgt:decide ((j2:Int)<(i2:Int))=false:=by simp;omega
        obtain ⟨hcw,hfw⟩:=za HF
        go_wp2_with fail
        go_big_quiet (first |(go_at_call 187;refine Calls.quiet_of_same (zq _ _ _)))
        go_wp2_with fail
        ·have hl:Sort.ltInt (G a) (G j2)=true:=by assumption
         have HE2:Hid (tgt=eqR a i j i2 (Sort.scanDown (fun x=>Sort.ltInt dc[a]! x) dc i2 (j2-1)) dc):=by show _=_;rw [za HE,Xl (by omega) hle (by show Sort.ltInt dc[a]! dc[j2]! = true;rw [←za HG,←za HG];exact hl)]
         go_roundw
         case rel=>exact ⟨j2-1,by congr 1;omega,by omega,by omega,(za HX).drewN _,za HF,HE2⟩
         case measure=>simp [intOf];omega
        ·have hf2:Sort.ltInt (G a) (G j2)=false:=by assumption
         have hlt:i2<j2:=by
          rcases Nat.lt_or_ge i2 j2 with h |h
          ·exact h
          ·obtain rfl:i2=j2:=by omega
           exact absurd hf2 (by rw [hf1];simp)
         have HE2:Hid (tgt=Sort.partEqLoop Sort.ltInt a (i2+1) (j2-1) ((dc.setIfInBounds i2 (G j2)).setIfInBounds j2 (G i2))):=by show _=_;rw [za HE,vn (by show Sort.ltInt dc[a]! dc[j2]! = false;rw [←za HG,←za HG];exact hf2),zS (za HG)];unfold eqR;rw [if_neg (by omega),if_pos (by omega)]
         have HC2:Hid (((dc.setIfInBounds i2 (G j2)).setIfInBounds j2 (G i2)).size=N):=by show _=_;simp;exact za HC
         revert nq;intro nq2
         have HX2:=zb ((za HX).drewN nq2)
         have HF2:Hid (Fam (wr.drewN nq2) blk off N G):=za HF
         clear hcw hfw HX HF
         generalize wr.drewN nq2=wr4 at *
         have HX:=HX2
         have HF:=HF2
         clear HX2 HF2
         obtain ⟨hcw,hfw⟩:=za HF
         clear HE HG
         go_region
         go_wp2_with fail
         go_roundw
         case rel=>exact ⟨i2+1,j2-1,_,by go_num,by congr 1;omega,by omega,by omega,by omega,HC2,(za HX).two (by omega) (by omega),HE2⟩
         case measure=>simp [intOf];omega
       ·skip
        have hgt:(j2:Int)<(i2:Int):=by omega
        have hgd:decide ((i2:Int)≤(j2:Int))=false:=by simp;omega
        have HE2:Hid (tgt=(i2,dc)):=by show _=_;rw [za HE,qU (by omega)];unfold eqR;rw [if_pos (by omega)]
        obtain ⟨hcw,hfw⟩:=za HF
        go_wp2_with fail
        go_big_quiet (first |(go_at_call 187;refine Calls.quiet_of_same (zq _ _ _)))
        go_wp2_with fail
        have HX2:=zb ((za HX).drewN nq)
        have HF2:Hid (Fam (wr.drewN nq) blk off N G):=za HF
        clear hcw hfw HX HF
        generalize wr.drewN nq=wr4 at *
        have HX:=HX2
        have HF:=HF2
        clear HX2 HF2
        go_ret
        rw [za HE2]
        exact ⟨rfl,za HX⟩
    ·have hgd1:decide ((i2:Int)≤(j:Int))=false:=by simp;omega
     have HE2:Hid (tgt=eqR a i j i2 (Sort.scanDown (fun x=>Sort.ltInt dc[a]! x) dc i2 j) dc):=by show _=_;rw [za HE,xN (.inl hle1)];rfl
     clear HE
     have HE:=HE2
     clear HE2
     go_wp2_with fail
     go_big_quiet (first |(go_at_call 187;refine Calls.quiet_of_same (zq _ _ _)))
     go_wp2_with fail
     have HX2:=zb ((za HX).drewN nq)
     have HF2:Hid (Fam (wr.drewN nq) blk off N G):=za HF
     clear hcw hfw HX HF
     generalize wr.drewN nq=wr5 at *
     have HX:=HX2
     have HF:=HF2
     clear HX2 HF2
     obtain ⟨hcw,hfw⟩:=za HF
     go_loopw [10] (fun vj wr3=>∃ j2:Nat,vj = .int .i64 j2∧i2≤j2+1∧j2≤j∧Hid (Ex w blk off dc wr3)∧Hid (Fam wr3 blk off N G)∧Hid (tgt=eqR a i j i2 (Sort.scanDown (fun x=>Sort.ltInt dc[a]! x) dc i2 j2) dc)) (fun vj _=>(intOf vj).toNat)
     case atStart=>exact ⟨j,rfl,by omega,Nat.le_refl _,HX,HF,HE⟩
     case round=>
      clear HX HF HE hcw hfw
      obtain ⟨j2,rfl,hij2,hj2,HX,HF,HE⟩:=hrel
      have hle:¬i2≤j2:=by omega
      have hgt:(j2:Int)<(i2:Int):=by omega
      have hgd:decide ((i2:Int)≤(j2:Int))=false:=by simp;omega
      have HE2:Hid (tgt=(i2,dc)):=by show _=_;rw [za HE,qU (by omega)];unfold eqR;rw [if_pos (by omega)]
      obtain ⟨hcw,hfw⟩:=za HF
      go_wp2_with fail
      go_big_quiet (first |(go_at_call 187;refine Calls.quiet_of_same (zq _ _ _)))
      go_wp2_with fail
      have HX2:=zb ((za HX).drewN nq)
      have HF2:Hid (Fam (wr.drewN nq) blk off N G):=za HF
      clear hcw hfw HX HF
      generalize wr.drewN nq=wr4 at *
      have HX:=HX2
      have HF:=HF2
      clear HX2 HF2
      go_ret
      rw [za HE2]
      exact ⟨rfl,za HX⟩
 ·obtain rfl:a=p:=by omega
  go_wp2_with fail
  go_region
  go_wp2_with fail
  clear d1 d2 g1 g2 hcw hfw
  go_loopw [9,10] (fun vi vj wr=>∃ (i j:Nat) (dc:Array Int),vi = .int .i64 i∧vj = .int .i64 j∧a<i∧i≤j+1∧j<b∧Hid (dc.size=N)∧Hid (Ex w blk off dc wr)∧Hid (tgt=Sort.partEqLoop Sort.ltInt a i j dc)) (fun vi vj _=>(intOf vj+1-intOf vi).toNat)
  case atStart=>exact ⟨a+1,b-1,_,by go_num,by congr 1;omega,by omega,by omega,by omega,HC,(by show Ex _ _ _ _ _;rw [←zS (za HG0)];first |exact (((za HH).set a _).set a _).drew |exact (za HH).two rfl rfl),HT⟩
  case round=>
   clear HH HC HT HG0
   obtain ⟨i,j,dc,rfl,rfl,hai,hij,hjb,HC,HX,HE⟩:=hrel
   obtain ⟨G,HG,hcw,hfw⟩:=(za HX).fam (za HC)
   have HF:Hid (Fam wr blk off N G):=⟨hcw,hfw⟩
   have HE1:Hid (tgt=eqT a i j (Sort.scanUp (fun x=>!Sort.ltInt dc[a]! x) dc j i) dc):=by show _=_;rw [za HE,Xj]
   clear HE
   go_wp2_with fail
   go_loopw [9] (fun vi wr2=>∃ i2:Nat,vi = .int .i64 i2∧i≤i2∧i2≤j+1∧Hid (Ex w blk off dc wr2)∧Hid (Fam wr2 blk off N G)∧Hid (tgt=eqT a i j (Sort.scanUp (fun x=>!Sort.ltInt dc[a]! x) dc j i2) dc)) (fun vi _=>j+1-(intOf vi).toNat)
   case atStart=>exact ⟨i,rfl,Nat.le_refl _,hij,HX,HF,HE1⟩
   case round=>
    clear HX HF HE1 hcw hfw
    obtain ⟨i2,rfl,hai2,hij2,HX,HF,HE⟩:=hrel
    obtain ⟨hcw,hfw⟩:=za HF
    by_cases hle1:i2≤j
    ·go_wp2_with fail
     go_big_quiet (first |(go_at_call 187;refine Calls.quiet_of_same (zq _ _ _)))
     go_wp2_with fail
     ·have hl:Sort.ltInt (G a) (G i2)=false:=by have q:(!Sort.ltInt (G a) (G i2))=true:=(by assumption);simpa using q
      have HE2:Hid (tgt=eqT a i j (Sort.scanUp (fun x=>!Sort.ltInt dc[a]! x) dc j (i2+1)) dc):=by show _=_;rw [za HE,Xk hle1 (by show (!Sort.ltInt dc[a]! dc[i2]!)=true;rw [←za HG,←za HG,hl];rfl)]
      go_roundw
      case rel=>exact ⟨i2+1,by go_num,by omega,by omega,(za HX).drewN _,za HF,HE2⟩
      case measure=>simp [intOf];omega
     ·have hf1:Sort.ltInt (G a) (G i2)=true:=by simpa using (by assumption:(!Sort.ltInt (G a) (G i2))=false)
      have HE2:Hid (tgt=eqR a i j i2 (Sort.scanDown (fun x=>Sort.ltInt dc[a]! x) dc i2 j) dc):=by show _=_;rw [za HE,xN (.inr (by show (!Sort.ltInt dc[a]! dc[i2]!)=false;rw [←za HG,←za HG,hf1];rfl))];rfl
      clear HE
      have HE:=HE2
      clear HE2
      revert nq;intro nq1
      have HX2:=zb ((za HX).drewN nq1)
      have HF2:Hid (Fam (wr.drewN nq1) blk off N G):=za HF
      clear hcw hfw HX HF
      generalize wr.drewN nq1=wr5 at *
      have HX:=HX2
      have HF:=HF2
      clear HX2 HF2
      obtain ⟨hcw,hfw⟩:=za HF
      go_loopw [10] (fun vj wr3=>∃ j2:Nat,vj = .int .i64 j2∧i2≤j2+1∧j2≤j∧Hid (Ex w blk off dc wr3)∧Hid (Fam wr3 blk off N G)∧Hid (tgt=eqR a i j i2 (Sort.scanDown (fun x=>Sort.ltInt dc[a]! x) dc i2 j2) dc)) (fun vj _=>(intOf vj).toNat)
      case atStart=>exact ⟨j,rfl,by omega,Nat.le_refl _,HX,HF,HE⟩
      case round=>
       clear HX HF HE hcw hfw
       obtain ⟨j2,rfl,hij2,hj2,HX,HF,HE⟩:=hrel
       by_cases hle:i2≤j2
       ·have hgt:decide ((j2:Int)<(i2:Int))=false:=by simp;omega
        obtain ⟨hcw,hfw⟩:=za HF
        go_wp2_with fail
        go_big_quiet (first |(go_at_call 187;refine Calls.quiet_of_same (zq _ _ _)))
        go_wp2_with fail
        ·have hl:Sort.ltInt (G a) (G j2)=true:=by assumption
         have HE2:Hid (tgt=eqR a i j i2 (Sort.scanDown (fun x=>Sort.ltInt dc[a]! x) dc i2 (j2-1)) dc):=by show _=_;rw [za HE,Xl (by omega) hle (by show Sort.ltInt dc[a]! dc[j2]! = true;rw [←za HG,←za HG];exact hl)]
         go_roundw
         case rel=>exact ⟨j2-1,by congr 1;omega,by omega,by omega,(za HX).drewN _,za HF,HE2⟩
         case measure=>simp [intOf];omega
        ·have hf2:Sort.ltInt (G a) (G j2)=false:=by assumption
         have hlt:i2<j2:=by
          rcases Nat.lt_or_ge i2 j2 with h |h
          ·exact h
          ·obtain rfl:i2=j2:=by omega
           exact absurd hf2 (by rw [hf1];simp)
         have HE2:Hid (tgt=Sort.partEqLoop Sort.ltInt a (i2+1) (j2-1) ((dc.setIfInBounds i2 (G j2)).setIfInBounds j2 (G i2))):=by show _=_;rw [za HE,vn (by show Sort.ltInt dc[a]! dc[j2]! = false;rw [←za HG,←za HG];exact hf2),zS (za HG)];unfold eqR;rw [if_neg (by omega),if_pos (by omega)]
         have HC2:Hid (((dc.setIfInBounds i2 (G j2)).setIfInBounds j2 (G i2)).size=N):=by show _=_;simp;exact za HC
         revert nq;intro nq2
         have HX2:=zb ((za HX).drewN nq2)
         have HF2:Hid (Fam (wr.drewN nq2) blk off N G):=za HF
         clear hcw hfw HX HF
         generalize wr.drewN nq2=wr4 at *
         have HX:=HX2
         have HF:=HF2
         clear HX2 HF2
         obtain ⟨hcw,hfw⟩:=za HF
         clear HE HG
         go_region
         go_wp2_with fail
         go_roundw
         case rel=>exact ⟨i2+1,j2-1,_,by go_num,by congr 1;omega,by omega,by omega,by omega,HC2,(za HX).two (by omega) (by omega),HE2⟩
         case measure=>simp [intOf];omega
       ·skip
        have hgt:(j2:Int)<(i2:Int):=by omega
        have hgd:decide ((i2:Int)≤(j2:Int))=false:=by simp;omega
        have HE2:Hid (tgt=(i2,dc)):=by show _=_;rw [za HE,qU (by omega)];unfold eqR;rw [if_pos (by omega)]
        obtain ⟨hcw,hfw⟩:=za HF
        go_wp2_with fail
        go_big_quiet (first |(go_at_call 187;refine Calls.quiet_of_same (zq _ _ _)))
        go_wp2_with fail
        have HX2:=zb ((za HX).drewN nq)
        have HF2:Hid (Fam (wr.drewN nq) blk off N G):=za HF
        clear hcw hfw HX HF
        generalize wr.drewN nq=wr4 at *
        have HX:=HX2
        have HF:=HF2
        clear HX2 HF2
        go_ret
        rw [za HE2]
        exact ⟨rfl,za HX⟩
    ·have hgd1:decide ((i2:Int)≤(j:Int))=false:=by simp;omega
     have HE2:Hid (tgt=eqR a i j i2 (Sort.scanDown (fun x=>Sort.ltInt dc[a]! x) dc i2 j) dc):=by show _=_;rw [za HE,xN (.inl hle1)];rfl
     clear HE
     have HE:=HE2
     clear HE2
     go_wp2_with fail
     go_big_quiet (first |(go_at_call 187;refine Calls.quiet_of_same (zq _ _ _)))
     go_wp2_with fail
     have HX2:=zb ((za HX).drewN nq)
     have HF2:Hid (Fam (wr.drewN nq) blk off N G):=za HF
     clear hcw hfw HX HF
     generalize wr.drewN nq=wr5 at *
     have HX:=HX2
     have HF:=HF2
     clear HX2 HF2
     obtain ⟨hcw,hfw⟩:=za HF
     go_loopw [10] (fun vj wr3=>∃ j2:Nat,vj = .int .i64 j2∧i2≤j2+1∧j2≤j∧Hid (Ex w blk off dc wr3)∧Hid (Fam wr3 blk off N G)∧Hid (tgt=eqR a i j i2 (Sort.scanDown (fun x=>Sort.ltInt dc[a]! x) dc i2 j2) dc)) (fun vj _=>(intOf vj).toNat)
     case atStart=>exact ⟨j,rfl,by omega,Nat.le_refl _,HX,HF,HE⟩
     case round=>
      clear HX HF HE hcw hfw
      obtain ⟨j2,rfl,hij2,hj2,HX,HF,HE⟩:=hrel
      have hle:¬i2≤j2:=by omega
      have hgt:(j2:Int)<(i2:Int):=by omega
      have hgd:decide ((i2:Int)≤(j2:Int))=false:=by simp;omega
      have HE2:Hid (tgt=(i2,dc)):=by show _=_;rw [za HE,qU (by omega)];unfold eqR;rw [if_pos (by omega)]
      obtain ⟨hcw,hfw⟩:=za HF
      go_wp2_with fail
      go_big_quiet (first |(go_at_call 187;refine Calls.quiet_of_same (zq _ _ _)))
      go_wp2_with fail
      have HX2:=zb ((za HX).drewN nq)
      have HF2:Hid (Fam (wr.drewN nq) blk off N G):=za HF
      clear hcw hfw HX HF
      generalize wr.drewN nq=wr4 at *
      have HX:=HX2
      have HF:=HF2
      clear HX2 HF2
      go_ret
      rw [za HE2]
      exact ⟨rfl,za HX⟩
end
end Go.Proofs.YtfnkbmglodopkaaGreatDoor
