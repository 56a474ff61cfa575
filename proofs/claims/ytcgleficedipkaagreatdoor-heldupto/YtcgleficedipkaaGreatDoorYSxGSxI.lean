/- The library's sort of a row of characters, to the element: parting off what is equal. -/
import Derived.Test.YtcgleficedipkaaGreatDoorYSxASxF
import Derived.Sort.Walk7
namespace Go.Proofs.YtcgleficedipkaaGreatDoor
section
open Go.RowKit
set_option maxHeartbeats 4000000
set_option maxRecDepth 1000000
def Fam (w:World)(blk off N:Nat)(G:Nat→Int):Prop:=(∀ t,t<N→w.cell? ⟨blk,off+t,none⟩=some (.int .i32 (G t)))∧∀ t,t<N→w.frozen? ⟨blk,off+t,none⟩=false
def eqR (a i j i2 j2:Nat)(d:Array Int):Nat×Array Int:=if i2 > j2 then (i2,d) else if (j2-1)+1-(i2+1)<j+1-i then Sort.partEqLoop Sort.ltInt a (i2+1) (j2-1) (Sort.swp d i2 j2) else (i2,d)
def eqT (a i j i2:Nat)(d:Array Int):Nat×Array Int:=eqR a i j i2 (Sort.scanDown (fun x=>Sort.ltInt d[a]! x) d i2 j) d
theorem Jz (a i j:Nat)(d:Array Int):Sort.partEqLoop Sort.ltInt a i j d=eqT a i j (Sort.scanUp (fun x=>!Sort.ltInt d[a]! x) d j i) d:=by
 conv=>lhs;unfold Sort.partEqLoop
 unfold eqT eqR
 simp only []
 split
 ·rfl
 ·split<;>rfl
theorem JA {p:Int→Bool}{d:Array Int}{j i:Nat}(h:i≤j)(hl:p d[i]! = true):Sort.scanUp p d j i=Sort.scanUp p d j (i+1):=by
 conv=>lhs;unfold Sort.scanUp
 rw [if_pos (by rw [hl];simp [h])]
theorem qN {p:Int→Bool}{d:Array Int}{j i:Nat}(h:¬i≤j∨p d[i]! = false):Sort.scanUp p d j i=i:=by
 unfold Sort.scanUp
 rw [if_neg (by rcases h with h |h;simp [h];rw [h];simp)]
theorem JB {p:Int→Bool}{d:Array Int}{j i:Nat}(h0:1≤j)(h:i≤j)(hl:p d[j]! = true):Sort.scanDown p d i j=Sort.scanDown p d i (j-1):=by
 obtain ⟨k,rfl⟩:∃ k,j=k+1:=⟨j-1,by omega⟩
 conv=>lhs;unfold Sort.scanDown
 rw [if_pos (by rw [hl];simp [h])]
 rfl
theorem Zb {p:Int→Bool}{d:Array Int}{j i:Nat}(hl:p d[j]! = false):Sort.scanDown p d i j=j:=by
 cases j with
 |zero=>rfl
 |succ k=>
  unfold Sort.scanDown
  rw [if_neg (by rw [hl];simp)]
theorem jO {p:Int→Bool}{d:Array Int}{j i:Nat}(h:¬i≤j):Sort.scanDown p d i j=j:=by
 cases j with
 |zero=>rfl
 |succ k=>
  unfold Sort.scanDown
  rw [if_neg (by simp [h])]
theorem Ex.drew {a b:World}{blk off:Nat}{d:Array Int}(h:Ex a blk off d b):Ex a blk off d b.drew:=⟨h.1.drew,h.2⟩
theorem partEqE (blk off cap a b p:Nat)(d:Array Int)(w:World)(h:Sort.Holds (Value.int .i32) w blk off d)(hap:a≤p)(hpb:p<b)(hb:b≤d.size)(hn:d.size<1099511627776) :
  Calls Tryz.prog 206 #[.slice (some ⟨blk,off,none⟩) d.size cap,.int .i64 a,.int .i64 b,.int .i64 p] w fun e w'=>e = .returned (.int .i64 ((Sort.partitionEqual Sort.ltInt d a b p).1:Nat))∧Ex w blk off (Sort.partitionEqual Sort.ltInt d a b p).2 w':=by
 have HH:=zc (Ex.refl h)
 clear h
 generalize hN:d.size=N at *
 obtain ⟨G,HG0,hcw,hfw⟩:=(zb HH).fam hN
 have HT0:Hid (Sort.partitionEqual Sort.ltInt d a b p=Sort.partEqLoop Sort.ltInt a (a+1) (b-1) (Sort.swp d a p)):=rfl
 have HC:Hid ((Sort.swp d a p).size=N):=by show _=_;rw [Yo];exact hN
 clear hN
 generalize Sort.partitionEqual Sort.ltInt d a b p=tgt at *
 have HT:Hid (tgt=Sort.partEqLoop Sort.ltInt a (a+1) (b-1) (Sort.swp d a p)):=HT0
 clear HT0
 go_enter Tryz.func206,Tryz.ntmps206
 have hpn:p<N:=by omega
 have d2:=hcw p hpn
 have g2:=hfw p hpn
 have d1:=hcw a (by omega)
 have g1:=hfw a (by omega)
 rcases Nat.lt_or_ge a p with hpa |hpa
 ·go_wp2_with fail
  go_region
  go_wp2_with fail
  clear d1 d2 g1 g2 hcw hfw
  go_loopw [9,10] (fun vi vj wr=>∃ (i j:Nat) (dc:Array Int),vi = .int .i64 i∧vj = .int .i64 j∧a<i∧i≤j+1∧j<b∧Hid (dc.size=N)∧Hid (Ex w blk off dc wr)∧Hid (tgt=Sort.partEqLoop Sort.ltInt a i j dc)) (fun vi vj _=>(intOf vj+1-intOf vi).toNat)
  case atStart=>exact ⟨a+1,b-1,_,by go_num,by congr 1;omega,by omega,by omega,by omega,HC,(by show Ex _ _ _ _ _;rw [←yg (zb HG0)];first |exact (((zb HH).set a _).set p _).drew |exact (zb HH).two rfl rfl),HT⟩
  case round=>
   clear HH HC HT HG0
   obtain ⟨i,j,dc,rfl,rfl,hai,hij,hjb,HC,HX,HE⟩:=hrel
   obtain ⟨G,HG,hcw,hfw⟩:=(zb HX).fam (zb HC)
   have HF:Hid (Fam wr blk off N G):=⟨hcw,hfw⟩
   have HE1:Hid (tgt=eqT a i j (Sort.scanUp (fun x=>!Sort.ltInt dc[a]! x) dc j i) dc):=by show _=_;rw [zb HE,Jz]
   clear HE
   go_wp2_with fail
   go_loopw [9] (fun vi wr2=>∃ i2:Nat,vi = .int .i64 i2∧i≤i2∧i2≤j+1∧Hid (Ex w blk off dc wr2)∧Hid (Fam wr2 blk off N G)∧Hid (tgt=eqT a i j (Sort.scanUp (fun x=>!Sort.ltInt dc[a]! x) dc j i2) dc)) (fun vi _=>j+1-(intOf vi).toNat)
   case atStart=>exact ⟨i,rfl,Nat.le_refl _,hij,HX,HF,HE1⟩
   case round=>
    clear HX HF HE1 hcw hfw
    obtain ⟨i2,rfl,hai2,hij2,HX,HF,HE⟩:=hrel
    obtain ⟨hcw,hfw⟩:=zb HF
    by_cases hle1:i2≤j
    ·go_wp2_with fail
     go_big_quiet (first |(go_at_call 205;refine Calls.quiet_of_same (zz _ _ _)))
     go_wp2_with fail
     ·have hl:Sort.ltInt (G a) (G i2)=false:=by have q:(!Sort.ltInt (G a) (G i2))=true:=(by assumption);simpa using q
      have HE2:Hid (tgt=eqT a i j (Sort.scanUp (fun x=>!Sort.ltInt dc[a]! x) dc j (i2+1)) dc):=by show _=_;rw [zb HE,JA hle1 (by show (!Sort.ltInt dc[a]! dc[i2]!)=true;rw [←zb HG,←zb HG,hl];rfl)]
      go_roundw
      case rel=>exact ⟨i2+1,by go_num,by omega,by omega,(zb HX).drewN _,zb HF,HE2⟩
      case measure=>simp [intOf];omega
     ·have hf1:Sort.ltInt (G a) (G i2)=true:=by simpa using (by assumption:(!Sort.ltInt (G a) (G i2))=false)
      have HE2:Hid (tgt=eqR a i j i2 (Sort.scanDown (fun x=>Sort.ltInt dc[a]! x) dc i2 j) dc):=by show _=_;rw [zb HE,qN (.inr (by show (!Sort.ltInt dc[a]! dc[i2]!)=false;rw [←zb HG,←zb HG,hf1];rfl))];rfl
      clear HE
      have HE:=HE2
      clear HE2
      revert nq;intro nq1
      have HX2:=zc ((zb HX).drewN nq1)
      have HF2:Hid (Fam (wr.drewN nq1) blk off N G):=zb HF
      clear hcw hfw HX HF
      generalize wr.drewN nq1=wr5 at *
      have HX:=HX2
      have HF:=HF2
      clear HX2 HF2
      obtain ⟨hcw,hfw⟩:=zb HF
      go_loopw [10] (fun vj wr3=>∃ j2:Nat,vj = .int .i64 j2∧i2≤j2+1∧j2≤j∧Hid (Ex w blk off dc wr3)∧Hid (Fam wr3 blk off N G)∧Hid (tgt=eqR a i j i2 (Sort.scanDown (fun x=>Sort.ltInt dc[a]! x) dc i2 j2) dc)) (fun vj _=>(intOf vj).toNat)
      case atStart=>exact ⟨j,rfl,by omega,Nat.le_refl _,HX,HF,HE⟩
      case round=>
       clear HX HF HE hcw hfw
       obtain ⟨j2,rfl,hij2,hj2,HX,HF,HE⟩:=hrel
       by_cases hle:i2≤j2
       ·have hgt:decide ((j2:Int)<(i2:Int))=false:=by simp;omega
        obtain ⟨hcw,hfw⟩:=zb HF
        go_wp2_with fail
        go_big_quiet (first |(go_at_call 205;refine Calls.quiet_of_same (zz _ _ _)))
        go_wp2_with fail
        ·have hl:Sort.ltInt (G a) (G j2)=true:=by assumption
         have HE2:Hid (tgt=eqR a i j i2 (Sort.scanDown (fun x=>Sort.ltInt dc[a]! x) dc i2 (j2-1)) dc):=by show _=_;rw [zb HE,JB (by omega) hle (by show Sort.ltInt dc[a]! dc[j2]! = true;rw [←zb HG,←zb HG];exact hl)]
         go_roundw
         case rel=>exact ⟨j2-1,by congr 1;omega,by omega,by omega,(zb HX).drewN _,zb HF,HE2⟩
         case measure=>simp [intOf];omega
        ·have hf2:Sort.ltInt (G a) (G j2)=false:=by assumption
         have hlt:i2<j2:=by
          rcases Nat.lt_or_ge i2 j2 with h |h
          ·exact h
          ·obtain rfl:i2=j2:=by omega
           exact absurd hf2 (by rw [hf1];simp)
         have HE2:Hid (tgt=Sort.partEqLoop Sort.ltInt a (i2+1) (j2-1) ((dc.setIfInBounds i2 (G j2)).setIfInBounds j2 (G i2))):=by show _=_;rw [zb HE,Zb (by show Sort.ltInt dc[a]! dc[j2]! = false;rw [←zb HG,←zb HG];exact hf2),yg (zb HG)];unfold eqR;rw [if_neg (by omega),if_pos (by omega)]
         have HC2:Hid (((dc.setIfInBounds i2 (G j2)).setIfInBounds j2 (G i2)).size=N):=by show _=_;simp;exact zb HC
         revert nq;intro nq2
         have HX2:=zc ((zb HX).drewN nq2)
         have HF2:Hid (Fam (wr.drewN nq2) blk off N G):=zb HF
         clear hcw hfw HX HF
         generalize wr.drewN nq2=wr4 at *
         have HX:=HX2
         have HF:=HF2
         clear HX2 HF2
         obtain ⟨hcw,hfw⟩:=zb HF
         clear HE HG
         go_region
         go_wp2_with fail
         go_roundw
         case rel=>exact ⟨i2+1,j2-1,_,by go_num,by congr 1;omega,by omega,by omega,by omega,HC2,(zb HX).two (by omega) (by omega),HE2⟩
         case measure=>simp [intOf];omega
       ·skip
        have hgt:(j2:Int)<(i2:Int):=by omega
        have hgd:decide ((i2:Int)≤(j2:Int))=false:=by simp;omega
        have HE2:Hid (tgt=(i2,dc)):=by show _=_;rw [zb HE,jO (by omega)];unfold eqR;rw [if_pos (by omega)]
        obtain ⟨hcw,hfw⟩:=zb HF
        go_wp2_with fail
        go_big_quiet (first |(go_at_call 205;refine Calls.quiet_of_same (zz _ _ _)))
        go_wp2_with fail
        have HX2:=zc ((zb HX).drewN nq)
        have HF2:Hid (Fam (wr.drewN nq) blk off N G):=zb HF
        clear hcw hfw HX HF
        generalize wr.drewN nq=wr4 at *
        have HX:=HX2
        have HF:=HF2
        clear HX2 HF2
        go_ret
        rw [zb HE2]
        exact ⟨rfl,zb HX⟩
    ·have hgd1:decide ((i2:Int)≤(j:Int))=false:=by simp;omega
     have HE2:Hid (tgt=eqR a i j i2 (Sort.scanDown (fun x=>Sort.ltInt dc[a]! x) dc i2 j) dc):=by show _=_;rw [zb HE,qN (.inl hle1)];rfl
     clear HE
     have HE:=HE2
     clear HE2
     go_wp2_with fail
     go_big_quiet (first |(go_at_call 205;refine Calls.quiet_of_same (zz _ _ _)))
     go_wp2_with fail
     have HX2:=zc ((zb HX).drewN nq)
     have HF2:Hid (Fam (wr.drewN nq) blk off N G):=zb HF
     clear hcw hfw HX HF
     generalize wr.drewN nq=wr5 at *
     have HX:=HX2
     have HF:=HF2
     clear HX2 HF2
     obtain ⟨hcw,hfw⟩:=zb HF
     go_loopw [10] (fun vj wr3=>∃ j2:Nat,vj = .int .i64 j2∧i2≤j2+1∧j2≤j∧Hid (Ex w blk off dc wr3)∧Hid (Fam wr3 blk off N G)∧Hid (tgt=eqR a i j i2 (Sort.scanDown (fun x=>Sort.ltInt dc[a]! x) dc i2 j2) dc)) (fun vj _=>(intOf vj).toNat)
     case atStart=>exact ⟨j,rfl,by omega,Nat.le_refl _,HX,HF,HE⟩
     case round=>
      clear HX HF HE hcw hfw
      obtain ⟨j2,rfl,hij2,hj2,HX,HF,HE⟩:=hrel
      have hle:¬i2≤j2:=by omega
      have hgt:(j2:Int)<(i2:Int):=by omega
      have hgd:decide ((i2:Int)≤(j2:Int))=false:=by simp;omega
      have HE2:Hid (tgt=(i2,dc)):=by show _=_;rw [zb HE,jO (by omega)];unfold eqR;rw [if_pos (by omega)]
      obtain ⟨hcw,hfw⟩:=zb HF
      go_wp2_with fail
      go_big_quiet (first |(go_at_call 205;refine Calls.quiet_of_same (zz _ _ _)))
      go_wp2_with fail
      have HX2:=zc ((zb HX).drewN nq)
      have HF2:Hid (Fam (wr.drewN nq) blk off N G):=zb HF
      clear hcw hfw HX HF
      generalize wr.drewN nq=wr4 at *
      have HX:=HX2
      have HF:=HF2
      clear HX2 HF2
      go_ret
      rw [zb HE2]
      exact ⟨rfl,zb HX⟩
 ·obtain rfl:a=p:=by omega
  go_wp2_with fail
  go_region
  go_wp2_with fail
  clear d1 d2 g1 g2 hcw hfw
  go_loopw [9,10] (fun vi vj wr=>∃ (i j:Nat) (dc:Array Int),vi = .int .i64 i∧vj = .int .i64 j∧a<i∧i≤j+1∧j<b∧Hid (dc.size=N)∧Hid (Ex w blk off dc wr)∧Hid (tgt=Sort.partEqLoop Sort.ltInt a i j dc)) (fun vi vj _=>(intOf vj+1-intOf vi).toNat)
  case atStart=>exact ⟨a+1,b-1,_,by go_num,by congr 1;omega,by omega,by omega,by omega,HC,(by show Ex _ _ _ _ _;rw [←yg (zb HG0)];first |exact (((zb HH).set a _).set a _).drew |exact (zb HH).two rfl rfl),HT⟩
  case round=>
   clear HH HC HT HG0
   obtain ⟨i,j,dc,rfl,rfl,hai,hij,hjb,HC,HX,HE⟩:=hrel
   obtain ⟨G,HG,hcw,hfw⟩:=(zb HX).fam (zb HC)
   have HF:Hid (Fam wr blk off N G):=⟨hcw,hfw⟩
   have HE1:Hid (tgt=eqT a i j (Sort.scanUp (fun x=>!Sort.ltInt dc[a]! x) dc j i) dc):=by show _=_;rw [zb HE,Jz]
   clear HE
   go_wp2_with fail
   go_loopw [9] (fun vi wr2=>∃ i2:Nat,vi = .int .i64 i2∧i≤i2∧i2≤j+1∧Hid (Ex w blk off dc wr2)∧Hid (Fam wr2 blk off N G)∧Hid (tgt=eqT a i j (Sort.scanUp (fun x=>!Sort.ltInt dc[a]! x) dc j i2) dc)) (fun vi _=>j+1-(intOf vi).toNat)
   case atStart=>exact ⟨i,rfl,Nat.le_refl _,hij,HX,HF,HE1⟩
   case round=>
    clear HX HF HE1 hcw hfw
    obtain ⟨i2,rfl,hai2,hij2,HX,HF,HE⟩:=hrel
    obtain ⟨hcw,hfw⟩:=zb HF
    by_cases hle1:i2≤j
    ·go_wp2_with fail
     go_big_quiet (first |(go_at_call 205;refine Calls.quiet_of_same (zz _ _ _)))
     go_wp2_with fail
     ·have hl:Sort.ltInt (G a) (G i2)=false:=by have q:(!Sort.ltInt (G a) (G i2))=true:=(by assumption);simpa using q
      have HE2:Hid (tgt=eqT a i j (Sort.scanUp (fun x=>!Sort.ltInt dc[a]! x) dc j (i2+1)) dc):=by show _=_;rw [zb HE,JA hle1 (by show (!Sort.ltInt dc[a]! dc[i2]!)=true;rw [←zb HG,←zb HG,hl];rfl)]
      go_roundw
      case rel=>exact ⟨i2+1,by go_num,by omega,by omega,(zb HX).drewN _,zb HF,HE2⟩
      case measure=>simp [intOf];omega
     ·have hf1:Sort.ltInt (G a) (G i2)=true:=by simpa using (by assumption:(!Sort.ltInt (G a) (G i2))=false)
      have HE2:Hid (tgt=eqR a i j i2 (Sort.scanDown (fun x=>Sort.ltInt dc[a]! x) dc i2 j) dc):=by show _=_;rw [zb HE,qN (.inr (by show (!Sort.ltInt dc[a]! dc[i2]!)=false;rw [←zb HG,←zb HG,hf1];rfl))];rfl
      clear HE
      have HE:=HE2
      clear HE2
      revert nq;intro nq1
      have HX2:=zc ((zb HX).drewN nq1)
      have HF2:Hid (Fam (wr.drewN nq1) blk off N G):=zb HF
      clear hcw hfw HX HF
      generalize wr.drewN nq1=wr5 at *
      have HX:=HX2
      have HF:=HF2
      clear HX2 HF2
      obtain ⟨hcw,hfw⟩:=zb HF
      go_loopw [10] (fun vj wr3=>∃ j2:Nat,vj = .int .i64 j2∧i2≤j2+1∧j2≤j∧Hid (Ex w blk off dc wr3)∧Hid (Fam wr3 blk off N G)∧Hid (tgt=eqR a i j i2 (Sort.scanDown (fun x=>Sort.ltInt dc[a]! x) dc i2 j2) dc)) (fun vj _=>(intOf vj).toNat)
      case atStart=>exact ⟨j,rfl,by omega,Nat.le_refl _,HX,HF,HE⟩
      case round=>
       clear HX HF HE hcw hfw
       obtain ⟨j2,rfl,hij2,hj2,HX,HF,HE⟩:=hrel
       by_cases hle:i2≤j2
       ·have hgt:decide ((j2:Int)<(i2:Int))=false:=by simp;omega
        obtain ⟨hcw,hfw⟩:=zb HF
        go_wp2_with fail
        go_big_quiet (first |(go_at_call 205;refine Calls.quiet_of_same (zz _ _ _)))
        go_wp2_with fail
        ·have hl:Sort.ltInt (G a) (G j2)=true:=by assumption
         have HE2:Hid (tgt=eqR a i j i2 (Sort.scanDown (fun x=>Sort.ltInt dc[a]! x) dc i2 (j2-1)) dc):=by show _=_;rw [zb HE,JB (by omega) hle (by show Sort.ltInt dc[a]! dc[j2]! = true;rw [←zb HG,←zb HG];exact hl)]
         go_roundw
         case rel=>exact ⟨j2-1,by congr 1;omega,by omega,by omega,(zb HX).drewN _,zb HF,HE2⟩
         case measure=>simp [intOf];omega
        ·have hf2:Sort.ltInt (G a) (G j2)=false:=by assumption
         have hlt:i2<j2:=by
          rcases Nat.lt_or_ge i2 j2 with h |h
          ·exact h
          ·obtain rfl:i2=j2:=by omega
           exact absurd hf2 (by rw [hf1];simp)
         have HE2:Hid (tgt=Sort.partEqLoop Sort.ltInt a (i2+1) (j2-1) ((dc.setIfInBounds i2 (G j2)).setIfInBounds j2 (G i2))):=by show _=_;rw [zb HE,Zb (by show Sort.ltInt dc[a]! dc[j2]! = false;rw [←zb HG,←zb HG];exact hf2),yg (zb HG)];unfold eqR;rw [if_neg (by omega),if_pos (by omega)]
         have HC2:Hid (((dc.setIfInBounds i2 (G j2)).setIfInBounds j2 (G i2)).size=N):=by show _=_;simp;exact zb HC
         revert nq;intro nq2
         have HX2:=zc ((zb HX).drewN nq2)
         have HF2:Hid (Fam (wr.drewN nq2) blk off N G):=zb HF
         clear hcw hfw HX HF
         generalize wr.drewN nq2=wr4 at *
         have HX:=HX2
         have HF:=HF2
         clear HX2 HF2
         obtain ⟨hcw,hfw⟩:=zb HF
         clear HE HG
         go_region
         go_wp2_with fail
         go_roundw
         case rel=>exact ⟨i2+1,j2-1,_,by go_num,by congr 1;omega,by omega,by omega,by omega,HC2,(zb HX).two (by omega) (by omega),HE2⟩
         case measure=>simp [intOf];omega
       ·skip
        have hgt:(j2:Int)<(i2:Int):=by omega
        have hgd:decide ((i2:Int)≤(j2:Int))=false:=by simp;omega
        have HE2:Hid (tgt=(i2,dc)):=by show _=_;rw [zb HE,jO (by omega)];unfold eqR;rw [if_pos (by omega)]
        obtain ⟨hcw,hfw⟩:=zb HF
        go_wp2_with fail
        go_big_quiet (first |(go_at_call 205;refine Calls.quiet_of_same (zz _ _ _)))
        go_wp2_with fail
        have HX2:=zc ((zb HX).drewN nq)
        have HF2:Hid (Fam (wr.drewN nq) blk off N G):=zb HF
        clear hcw hfw HX HF
        generalize wr.drewN nq=wr4 at *
        have HX:=HX2
        have HF:=HF2
        clear HX2 HF2
        go_ret
        rw [zb HE2]
        exact ⟨rfl,zb HX⟩
    ·have hgd1:decide ((i2:Int)≤(j:Int))=false:=by simp;omega
     have HE2:Hid (tgt=eqR a i j i2 (Sort.scanDown (fun x=>Sort.ltInt dc[a]! x) dc i2 j) dc):=by show _=_;rw [zb HE,qN (.inl hle1)];rfl
     clear HE
     have HE:=HE2
     clear HE2
     go_wp2_with fail
     go_big_quiet (first |(go_at_call 205;refine Calls.quiet_of_same (zz _ _ _)))
     go_wp2_with fail
     have HX2:=zc ((zb HX).drewN nq)
     have HF2:Hid (Fam (wr.drewN nq) blk off N G):=zb HF
     clear hcw hfw HX HF
     generalize wr.drewN nq=wr5 at *
     have HX:=HX2
     have HF:=HF2
     clear HX2 HF2
     obtain ⟨hcw,hfw⟩:=zb HF
     go_loopw [10] (fun vj wr3=>∃ j2:Nat,vj = .int .i64 j2∧i2≤j2+1∧j2≤j∧Hid (Ex w blk off dc wr3)∧Hid (Fam wr3 blk off N G)∧Hid (tgt=eqR a i j i2 (Sort.scanDown (fun x=>Sort.ltInt dc[a]! x) dc i2 j2) dc)) (fun vj _=>(intOf vj).toNat)
     case atStart=>exact ⟨j,rfl,by omega,Nat.le_refl _,HX,HF,HE⟩
     case round=>
      clear HX HF HE hcw hfw
      obtain ⟨j2,rfl,hij2,hj2,HX,HF,HE⟩:=hrel
      have hle:¬i2≤j2:=by omega
      have hgt:(j2:Int)<(i2:Int):=by omega
      have hgd:decide ((i2:Int)≤(j2:Int))=false:=by simp;omega
      have HE2:Hid (tgt=(i2,dc)):=by show _=_;rw [zb HE,jO (by omega)];unfold eqR;rw [if_pos (by omega)]
      obtain ⟨hcw,hfw⟩:=zb HF
      go_wp2_with fail
      go_big_quiet (first |(go_at_call 205;refine Calls.quiet_of_same (zz _ _ _)))
      go_wp2_with fail
      have HX2:=zc ((zb HX).drewN nq)
      have HF2:Hid (Fam (wr.drewN nq) blk off N G):=zb HF
      clear hcw hfw HX HF
      generalize wr.drewN nq=wr4 at *
      have HX:=HX2
      have HF:=HF2
      clear HX2 HF2
      go_ret
      rw [zb HE2]
      exact ⟨rfl,zb HX⟩
set_option maxHeartbeats 8000000
def ptR (a i j i2 j2:Nat)(d:Array Int):Nat×Array Int:=if i2 > j2 then (j2,d) else if (j2-1)+1-(i2+1)<j+1-i then Sort.partLoop Sort.ltInt a (i2+1) (j2-1) (Sort.swp d i2 j2) else (j2,d)
def ptT (a i j i2:Nat)(d:Array Int):Nat×Array Int:=ptR a i j i2 (Sort.scanDown (fun x=>!Sort.ltInt x d[a]!) d i2 j) d
def fin (a:Nat)(r:Nat×Array Int):Nat×Bool×Array Int:=(r.1,false,Sort.swp r.2 r.1 a)
def fsR (a i2 j2:Nat)(d:Array Int):Nat×Bool×Array Int:=if i2 > j2 then (j2,true,Sort.swp d j2 a) else fin a (Sort.partLoop Sort.ltInt a (i2+1) (j2-1) (Sort.swp d i2 j2))
def fsT (a j i2:Nat)(d:Array Int):Nat×Bool×Array Int:=fsR a i2 (Sort.scanDown (fun x=>!Sort.ltInt x d[a]!) d i2 j) d
theorem za5 (a i j:Nat)(d:Array Int):Sort.partLoop Sort.ltInt a i j d=ptT a i j (Sort.scanUp (fun x=>Sort.ltInt x d[a]!) d j i) d:=by
 conv=>lhs;unfold Sort.partLoop
 unfold ptT ptR
 simp only []
 split
 ·rfl
 ·split<;>rfl
theorem partE (blk off cap a b p:Nat)(d:Array Int)(w:World)(h:Sort.Holds (Value.int .i32) w blk off d)(hap:a≤p)(hpb:p<b)(hb:b≤d.size)(hn:d.size<1099511627776) :
  Calls Tryz.prog 207 #[.slice (some ⟨blk,off,none⟩) d.size cap,.int .i64 a,.int .i64 b,.int .i64 p] w fun e w'=>e = .returned (.tuple #[.int .i64 ((Sort.partition Sort.ltInt d a b p).1:Nat),.bool (Sort.partition Sort.ltInt d a b p).2.1])∧Ex w blk off (Sort.partition Sort.ltInt d a b p).2.2 w':=by
 have HH:=zc (Ex.refl h)
 clear h
 generalize hN:d.size=N at *
 obtain ⟨G,HG0,hcw,hfw⟩:=(zb HH).fam hN
 have HT0:Hid (Sort.partition Sort.ltInt d a b p=fsT a (b-1) (Sort.scanUp (fun x=>Sort.ltInt x (Sort.swp d a p)[a]!) (Sort.swp d a p) (b-1) (a+1)) (Sort.swp d a p)):=rfl
 have HC:Hid ((Sort.swp d a p).size=N):=by show _=_;rw [Yo];exact hN
 clear hN
 generalize Sort.partition Sort.ltInt d a b p=tgt at *
 have HT:Hid (tgt=fsT a (b-1) (Sort.scanUp (fun x=>Sort.ltInt x (Sort.swp d a p)[a]!) (Sort.swp d a p) (b-1) (a+1)) (Sort.swp d a p)):=HT0
 clear HT0
 go_enter Tryz.func207,Tryz.ntmps207
 have hpn:p<N:=by omega
 have d2:=hcw p hpn
 have g2:=hfw p hpn
 have d1:=hcw a (by omega)
 have g1:=hfw a (by omega)
 rcases Nat.lt_or_ge a p with hpa |hpa
 ·go_wp2_with fail
  go_region
  go_wp2_with fail
  clear d1 d2 g1 g2 hcw hfw
  obtain ⟨dc,hdc⟩:∃ dc,dc=Sort.swp d a p:=⟨_,rfl⟩
  have HX1:=zc ((((zb HH).set a (G p)).set p (G a)).drew)
  rw [yg (zb HG0)] at HX1
  rw [←hdc] at HC HT HX1
  obtain ⟨i,hi⟩:∃ i,i=a+1:=⟨_,rfl⟩
  obtain ⟨j,hj⟩:∃ j,j=b-1:=⟨_,rfl⟩
  have e1:(a:Int)+1=(i:Nat):=by omega
  have e2:(b:Int)-1=(j:Nat):=by omega
  have hai:a<i:=by omega
  have hij:i≤j+1:=by omega
  have hjb:j<b:=by omega
  rw [←hi,←hj] at HT
  simp only [e1,e2]
  clear e1 e2 hi hj hdc HH HG0
  have HX:=HX1
  have HE1:=HT
  clear HX1 HT
  obtain ⟨G,HG,hcw,hfw⟩:=(zb HX).fam (zb HC)
  have HF:Hid (Fam _ blk off N G):=⟨hcw,hfw⟩
  go_loopw [10] (fun vi wr2=>∃ i2:Nat,vi = .int .i64 i2∧i≤i2∧i2≤j+1∧Hid (Ex w blk off dc wr2)∧Hid (Fam wr2 blk off N G)∧Hid (tgt=fsT a j (Sort.scanUp (fun x=>Sort.ltInt x dc[a]!) dc j i2) dc)) (fun vi _=>j+1-(intOf vi).toNat)
  case atStart=>exact ⟨i,rfl,Nat.le_refl _,hij,HX,HF,HE1⟩
  case round=>
   clear HX HF HE1 hcw hfw
   obtain ⟨i2,rfl,hai2,hij2,HX,HF,HE⟩:=hrel
   obtain ⟨hcw,hfw⟩:=zb HF
   by_cases hle1:i2≤j
   ·go_wp2_with fail
    go_big_quiet (first |(go_at_call 205;refine Calls.quiet_of_same (zz _ _ _)))
    go_wp2_with fail
    ·have hl:Sort.ltInt (G i2) (G a)=true:=by assumption
     have HE2:Hid (tgt=fsT a j (Sort.scanUp (fun x=>Sort.ltInt x dc[a]!) dc j (i2+1)) dc):=by show _=_;rw [zb HE,JA hle1 (by show Sort.ltInt dc[i2]! dc[a]! = true;rw [←zb HG,←zb HG];exact hl)]
     go_roundw
     case rel=>exact ⟨i2+1,by go_num,by omega,by omega,(zb HX).drewN _,zb HF,HE2⟩
     case measure=>simp [intOf];omega
    ·have hf1:Sort.ltInt (G i2) (G a)=false:=by assumption
     have HE2:Hid (tgt=fsR a i2 (Sort.scanDown (fun x=>!Sort.ltInt x dc[a]!) dc i2 j) dc):=by show _=_;rw [zb HE,qN (.inr (by show Sort.ltInt dc[i2]! dc[a]! = false;rw [←zb HG,←zb HG];exact hf1))];rfl
     clear HE
     have HE:=HE2
     clear HE2
     revert nq;intro nq1
     have HX2:=zc ((zb HX).drewN nq1)
     have HF2:Hid (Fam (wr.drewN nq1) blk off N G):=zb HF
     clear hcw hfw HX HF
     generalize wr.drewN nq1=wr5 at *
     have HX:=HX2
     have HF:=HF2
     clear HX2 HF2
     obtain ⟨hcw,hfw⟩:=zb HF
     go_loopw [11] (fun vj wr3=>∃ j2:Nat,vj = .int .i64 j2∧i2≤j2+1∧j2≤j∧Hid (Ex w blk off dc wr3)∧Hid (Fam wr3 blk off N G)∧Hid (tgt=fsR a i2 (Sort.scanDown (fun x=>!Sort.ltInt x dc[a]!) dc i2 j2) dc)) (fun vj _=>(intOf vj).toNat)
     case atStart=>exact ⟨j,rfl,by omega,Nat.le_refl _,HX,HF,HE⟩
     case round=>
      clear HX HF HE hcw hfw
      obtain ⟨j2,rfl,hij2,hj2,HX,HF,HE⟩:=hrel
      by_cases hle:i2≤j2
      ·have hgt:decide ((j2:Int)<(i2:Int))=false:=by simp;omega
       obtain ⟨hcw,hfw⟩:=zb HF
       go_wp2_with fail
       go_big_quiet (first |(go_at_call 205;refine Calls.quiet_of_same (zz _ _ _)))
       go_wp2_with fail
       ·have hl:Sort.ltInt (G j2) (G a)=false:=by have q:(!Sort.ltInt (G j2) (G a))=true:=(by assumption);simpa using q
        have HE2:Hid (tgt=fsR a i2 (Sort.scanDown (fun x=>!Sort.ltInt x dc[a]!) dc i2 (j2-1)) dc):=by show _=_;rw [zb HE,JB (by omega) hle (by show (!Sort.ltInt dc[j2]! dc[a]!)=true;rw [←zb HG,←zb HG,hl];rfl)]
        go_roundw
        case rel=>exact ⟨j2-1,by congr 1;omega,by omega,by omega,(zb HX).drewN _,zb HF,HE2⟩
        case measure=>simp [intOf];omega
       ·have hf2:Sort.ltInt (G j2) (G a)=true:=by simpa using (by assumption:(!Sort.ltInt (G j2) (G a))=false)
        have hlt:i2<j2:=by
         rcases Nat.lt_or_ge i2 j2 with h |h
         ·exact h
         ·obtain rfl:i2=j2:=by omega
          exact absurd hf2 (by rw [hf1];simp)
        have HE2:Hid (tgt=fin a (Sort.partLoop Sort.ltInt a (i2+1) (j2-1) ((dc.setIfInBounds i2 (G j2)).setIfInBounds j2 (G i2)))):=by show _=_;rw [zb HE,Zb (by show (!Sort.ltInt dc[j2]! dc[a]!)=false;rw [←zb HG,←zb HG,hf2];rfl),yg (zb HG)];unfold fsR;rw [if_neg (by omega)]
        have HC2:Hid (((dc.setIfInBounds i2 (G j2)).setIfInBounds j2 (G i2)).size=N):=by show _=_;simp;exact zb HC
        revert nq;intro nq2
        have HX2:=zc ((zb HX).drewN nq2)
        have HF2:Hid (Fam (wr.drewN nq2) blk off N G):=zb HF
        clear hcw hfw HX HF
        generalize wr.drewN nq2=wr4 at *
        have HX:=HX2
        have HF:=HF2
        clear HX2 HF2
        obtain ⟨hcw,hfw⟩:=zb HF
        clear HE HG
        go_region
        go_wp2_with fail
        go_loopw [10,11] (fun vi vj wr=>∃ (i j:Nat) (dc:Array Int),vi = .int .i64 i∧vj = .int .i64 j∧a<i∧i≤j+1∧j<b∧Hid (dc.size=N)∧Hid (Ex w blk off dc wr)∧Hid (tgt=fin a (Sort.partLoop Sort.ltInt a i j dc))) (fun vi vj _=>(intOf vj+1-intOf vi).toNat)
        case atStart=>exact ⟨i2+1,j2-1,_,by go_num,by congr 1;omega,by omega,by omega,by omega,HC2,(zb HX).two (by omega) (by omega),HE2⟩
        case round=>
         clear HX HF HC HC2 HE2 hcw hfw hf1 hf2
         obtain ⟨i,j,dc,rfl,rfl,hai,hij,hjb,HC,HX,HE⟩:=hrel
         obtain ⟨G,HG,hcw,hfw⟩:=(zb HX).fam (zb HC)
         have HF:Hid (Fam wr blk off N G):=⟨hcw,hfw⟩
         have HE1:Hid (tgt=fin a (ptT a i j (Sort.scanUp (fun x=>Sort.ltInt x dc[a]!) dc j i) dc)):=by show _=_;rw [zb HE,za5]
         clear HE
         go_wp2_with fail
         go_loopw [10] (fun vi wr2=>∃ i2:Nat,vi = .int .i64 i2∧i≤i2∧i2≤j+1∧Hid (Ex w blk off dc wr2)∧Hid (Fam wr2 blk off N G)∧Hid (tgt=fin a (ptT a i j (Sort.scanUp (fun x=>Sort.ltInt x dc[a]!) dc j i2) dc))) (fun vi _=>j+1-(intOf vi).toNat)
         case atStart=>exact ⟨i,rfl,Nat.le_refl _,hij,HX,HF,HE1⟩
         case round=>
          clear HX HF HE1 hcw hfw
          obtain ⟨i2,rfl,hai2,hij2,HX,HF,HE⟩:=hrel
          obtain ⟨hcw,hfw⟩:=zb HF
          by_cases hle1:i2≤j
          ·go_wp2_with fail
           go_big_quiet (first |(go_at_call 205;refine Calls.quiet_of_same (zz _ _ _)))
           go_wp2_with fail
           ·have hl:Sort.ltInt (G i2) (G a)=true:=by assumption
            have HE2:Hid (tgt=fin a (ptT a i j (Sort.scanUp (fun x=>Sort.ltInt x dc[a]!) dc j (i2+1)) dc)):=by show _=_;rw [zb HE,JA hle1 (by show Sort.ltInt dc[i2]! dc[a]! = true;rw [←zb HG,←zb HG];exact hl)]
            go_roundw
            case rel=>exact ⟨i2+1,by go_num,by omega,by omega,(zb HX).drewN _,zb HF,HE2⟩
            case measure=>simp [intOf];omega
           ·have hf1:Sort.ltInt (G i2) (G a)=false:=by assumption
            have HE2:Hid (tgt=fin a (ptR a i j i2 (Sort.scanDown (fun x=>!Sort.ltInt x dc[a]!) dc i2 j) dc)):=by show _=_;rw [zb HE,qN (.inr (by show Sort.ltInt dc[i2]! dc[a]! = false;rw [←zb HG,←zb HG];exact hf1))];rfl
            clear HE
            have HE:=HE2
            clear HE2
            revert nq;intro nq1
            have HX2:=zc ((zb HX).drewN nq1)
            have HF2:Hid (Fam (wr.drewN nq1) blk off N G):=zb HF
            clear hcw hfw HX HF
            generalize wr.drewN nq1=wr5 at *
            have HX:=HX2
            have HF:=HF2
            clear HX2 HF2
            obtain ⟨hcw,hfw⟩:=zb HF
            go_loopw [11] (fun vj wr3=>∃ j2:Nat,vj = .int .i64 j2∧i2≤j2+1∧j2≤j∧Hid (Ex w blk off dc wr3)∧Hid (Fam wr3 blk off N G)∧Hid (tgt=fin a (ptR a i j i2 (Sort.scanDown (fun x=>!Sort.ltInt x dc[a]!) dc i2 j2) dc))) (fun vj _=>(intOf vj).toNat)
            case atStart=>exact ⟨j,rfl,by omega,Nat.le_refl _,HX,HF,HE⟩
            case round=>
             clear HX HF HE hcw hfw
             obtain ⟨j2,rfl,hij2,hj2,HX,HF,HE⟩:=hrel
             by_cases hle:i2≤j2
             ·have hgt:decide ((j2:Int)<(i2:Int))=false:=by simp;omega
              obtain ⟨hcw,hfw⟩:=zb HF
              go_wp2_with fail
              go_big_quiet (first |(go_at_call 205;refine Calls.quiet_of_same (zz _ _ _)))
              go_wp2_with fail
              ·have hl:Sort.ltInt (G j2) (G a)=false:=by have q:(!Sort.ltInt (G j2) (G a))=true:=(by assumption);simpa using q
               have HE2:Hid (tgt=fin a (ptR a i j i2 (Sort.scanDown (fun x=>!Sort.ltInt x dc[a]!) dc i2 (j2-1)) dc)):=by show _=_;rw [zb HE,JB (by omega) hle (by show (!Sort.ltInt dc[j2]! dc[a]!)=true;rw [←zb HG,←zb HG,hl];rfl)]
               go_roundw
               case rel=>exact ⟨j2-1,by congr 1;omega,by omega,by omega,(zb HX).drewN _,zb HF,HE2⟩
               case measure=>simp [intOf];omega
              ·have hf2:Sort.ltInt (G j2) (G a)=true:=by simpa using (by assumption:(!Sort.ltInt (G j2) (G a))=false)
               have hlt:i2<j2:=by
                rcases Nat.lt_or_ge i2 j2 with h |h
                ·exact h
                ·obtain rfl:i2=j2:=by omega
                 exact absurd hf2 (by rw [hf1];simp)
               have HE2:Hid (tgt=fin a (Sort.partLoop Sort.ltInt a (i2+1) (j2-1) ((dc.setIfInBounds i2 (G j2)).setIfInBounds j2 (G i2)))):=by show _=_;rw [zb HE,Zb (by show (!Sort.ltInt dc[j2]! dc[a]!)=false;rw [←zb HG,←zb HG,hf2];rfl),yg (zb HG)];unfold ptR;rw [if_neg (by omega),if_pos (by omega)]
               have HC2:Hid (((dc.setIfInBounds i2 (G j2)).setIfInBounds j2 (G i2)).size=N):=by show _=_;simp;exact zb HC
               revert nq;intro nq2
               have HX2:=zc ((zb HX).drewN nq2)
               have HF2:Hid (Fam (wr.drewN nq2) blk off N G):=zb HF
               clear hcw hfw HX HF
               generalize wr.drewN nq2=wr4 at *
               have HX:=HX2
               have HF:=HF2
               clear HX2 HF2
               obtain ⟨hcw,hfw⟩:=zb HF
               clear HE HG
               go_region
               go_wp2_with fail
               go_roundw
               case rel=>exact ⟨i2+1,j2-1,_,by go_num,by congr 1;omega,by omega,by omega,by omega,HC2,(zb HX).two (by omega) (by omega),HE2⟩
               case measure=>simp [intOf];omega
             ·skip
              have hgt:(j2:Int)<(i2:Int):=by omega
              have hgd:decide ((i2:Int)≤(j2:Int))=false:=by simp;omega
              have HE2:Hid (tgt=(j2,false,Sort.swp dc j2 a)):=by show _=_;rw [zb HE,jO (by omega)];unfold ptR;rw [if_pos (by omega)];rfl
              clear HE
              obtain ⟨hcw,hfw⟩:=zb HF
              go_wp2_with fail
              go_big_quiet (first |(go_at_call 205;refine Calls.quiet_of_same (zz _ _ _)))
              go_wp2_with fail
              have HX2:=zc ((zb HX).drewN nq)
              have HF2:Hid (Fam (wr.drewN nq) blk off N G):=zb HF
              clear hcw hfw HX HF
              generalize wr.drewN nq=wr4 at *
              have HX:=HX2
              have HF:=HF2
              clear HX2 HF2
              obtain ⟨hcw,hfw⟩:=zb HF
              have d1:=hcw a (by omega)
              have g1:=hfw a (by omega)
              have d2:=hcw j2 (by omega)
              have g2:=hfw j2 (by omega)
              clear hcw hfw
              rcases Nat.lt_or_ge a j2 with hq |hq
              ·go_region
               go_wp2_with fail
               go_ret2
               rw [zb HE2]
               exact ⟨rfl,(by rw [←yg (zb HG)];first |exact (zb HX).two rfl rfl |exact (((zb HX).set j2 _).set a _).drew)⟩
              ·obtain rfl:a=j2:=by omega
               go_region
               go_wp2_with fail
               go_ret2
               rw [zb HE2]
               exact ⟨rfl,(by rw [←yg (zb HG)];first |exact (zb HX).two rfl rfl |exact (((zb HX).set a _).set a _).drew |exact (((zb HX).set a _).set a _).drewN _)⟩
          ·have hgd1:decide ((i2:Int)≤(j:Int))=false:=by simp;omega
           have HE2:Hid (tgt=fin a (ptR a i j i2 (Sort.scanDown (fun x=>!Sort.ltInt x dc[a]!) dc i2 j) dc)):=by show _=_;rw [zb HE,qN (.inl hle1)];rfl
           clear HE
           have HE:=HE2
           clear HE2
           go_wp2_with fail
           go_big_quiet (first |(go_at_call 205;refine Calls.quiet_of_same (zz _ _ _)))
           go_wp2_with fail
           have HX2:=zc ((zb HX).drewN nq)
           have HF2:Hid (Fam (wr.drewN nq) blk off N G):=zb HF
           clear hcw hfw HX HF
           generalize wr.drewN nq=wr5 at *
           have HX:=HX2
           have HF:=HF2
           clear HX2 HF2
           obtain ⟨hcw,hfw⟩:=zb HF
           go_loopw [11] (fun vj wr3=>∃ j2:Nat,vj = .int .i64 j2∧i2≤j2+1∧j2≤j∧Hid (Ex w blk off dc wr3)∧Hid (Fam wr3 blk off N G)∧Hid (tgt=fin a (ptR a i j i2 (Sort.scanDown (fun x=>!Sort.ltInt x dc[a]!) dc i2 j2) dc))) (fun vj _=>(intOf vj).toNat)
           case atStart=>exact ⟨j,rfl,by omega,Nat.le_refl _,HX,HF,HE⟩
           case round=>
            clear HX HF HE hcw hfw
            obtain ⟨j2,rfl,hij2,hj2,HX,HF,HE⟩:=hrel
            have hle:¬i2≤j2:=by omega
            have hgt:(j2:Int)<(i2:Int):=by omega
            have hgd:decide ((i2:Int)≤(j2:Int))=false:=by simp;omega
            have HE2:Hid (tgt=(j2,false,Sort.swp dc j2 a)):=by show _=_;rw [zb HE,jO (by omega)];unfold ptR;rw [if_pos (by omega)];rfl
            clear HE
            obtain ⟨hcw,hfw⟩:=zb HF
            go_wp2_with fail
            go_big_quiet (first |(go_at_call 205;refine Calls.quiet_of_same (zz _ _ _)))
            go_wp2_with fail
            have HX2:=zc ((zb HX).drewN nq)
            have HF2:Hid (Fam (wr.drewN nq) blk off N G):=zb HF
            clear hcw hfw HX HF
            generalize wr.drewN nq=wr4 at *
            have HX:=HX2
            have HF:=HF2
            clear HX2 HF2
            obtain ⟨hcw,hfw⟩:=zb HF
            have d1:=hcw a (by omega)
            have g1:=hfw a (by omega)
            have d2:=hcw j2 (by omega)
            have g2:=hfw j2 (by omega)
            clear hcw hfw
            rcases Nat.lt_or_ge a j2 with hq |hq
            ·go_region
             go_wp2_with fail
             go_ret2
             rw [zb HE2]
             exact ⟨rfl,(by rw [←yg (zb HG)];first |exact (zb HX).two rfl rfl |exact (((zb HX).set j2 _).set a _).drew)⟩
            ·obtain rfl:a=j2:=by omega
             go_region
             go_wp2_with fail
             go_ret2
             rw [zb HE2]
             exact ⟨rfl,(by rw [←yg (zb HG)];first |exact (zb HX).two rfl rfl |exact (((zb HX).set a _).set a _).drew |exact (((zb HX).set a _).set a _).drewN _)⟩
      ·skip
       have hgt:(j2:Int)<(i2:Int):=by omega
       have hgd:decide ((i2:Int)≤(j2:Int))=false:=by simp;omega
       have HE2:Hid (tgt=(j2,true,Sort.swp dc j2 a)):=by show _=_;rw [zb HE,jO (by omega)];unfold fsR;rw [if_pos (by omega)]
       clear HE
       obtain ⟨hcw,hfw⟩:=zb HF
       go_wp2_with fail
       go_big_quiet (first |(go_at_call 205;refine Calls.quiet_of_same (zz _ _ _)))
       go_wp2_with fail
       have HX2:=zc ((zb HX).drewN nq)
       have HF2:Hid (Fam (wr.drewN nq) blk off N G):=zb HF
       clear hcw hfw HX HF
       generalize wr.drewN nq=wr4 at *
       have HX:=HX2
       have HF:=HF2
       clear HX2 HF2
       obtain ⟨hcw,hfw⟩:=zb HF
       have d1:=hcw a (by omega)
       have g1:=hfw a (by omega)
       have d2:=hcw j2 (by omega)
       have g2:=hfw j2 (by omega)
       clear hcw hfw
       rcases Nat.lt_or_ge a j2 with hq |hq
       ·go_region
        go_wp2_with fail
        go_ret2
        rw [zb HE2]
        exact ⟨rfl,(by rw [←yg (zb HG)];first |exact (zb HX).two rfl rfl |exact (((zb HX).set j2 _).set a _).drew)⟩
       ·obtain rfl:a=j2:=by omega
        go_region
        go_wp2_with fail
        go_ret2
        rw [zb HE2]
        exact ⟨rfl,(by rw [←yg (zb HG)];first |exact (zb HX).two rfl rfl |exact (((zb HX).set a _).set a _).drew |exact (((zb HX).set a _).set a _).drewN _)⟩
   ·have hgd1:decide ((i2:Int)≤(j:Int))=false:=by simp;omega
    have HE2:Hid (tgt=fsR a i2 (Sort.scanDown (fun x=>!Sort.ltInt x dc[a]!) dc i2 j) dc):=by show _=_;rw [zb HE,qN (.inl hle1)];rfl
    clear HE
    have HE:=HE2
    clear HE2
    go_wp2_with fail
    go_big_quiet (first |(go_at_call 205;refine Calls.quiet_of_same (zz _ _ _)))
    go_wp2_with fail
    have HX2:=zc ((zb HX).drewN nq)
    have HF2:Hid (Fam (wr.drewN nq) blk off N G):=zb HF
    clear hcw hfw HX HF
    generalize wr.drewN nq=wr5 at *
    have HX:=HX2
    have HF:=HF2
    clear HX2 HF2
    obtain ⟨hcw,hfw⟩:=zb HF
    go_loopw [11] (fun vj wr3=>∃ j2:Nat,vj = .int .i64 j2∧i2≤j2+1∧j2≤j∧Hid (Ex w blk off dc wr3)∧Hid (Fam wr3 blk off N G)∧Hid (tgt=fsR a i2 (Sort.scanDown (fun x=>!Sort.ltInt x dc[a]!) dc i2 j2) dc)) (fun vj _=>(intOf vj).toNat)
    case atStart=>exact ⟨j,rfl,by omega,Nat.le_refl _,HX,HF,HE⟩
    case round=>
     clear HX HF HE hcw hfw
     obtain ⟨j2,rfl,hij2,hj2,HX,HF,HE⟩:=hrel
     have hle:¬i2≤j2:=by omega
     have hgt:(j2:Int)<(i2:Int):=by omega
     have hgd:decide ((i2:Int)≤(j2:Int))=false:=by simp;omega
     have HE2:Hid (tgt=(j2,true,Sort.swp dc j2 a)):=by show _=_;rw [zb HE,jO (by omega)];unfold fsR;rw [if_pos (by omega)]
     clear HE
     obtain ⟨hcw,hfw⟩:=zb HF
     go_wp2_with fail
     go_big_quiet (first |(go_at_call 205;refine Calls.quiet_of_same (zz _ _ _)))
     go_wp2_with fail
     have HX2:=zc ((zb HX).drewN nq)
     have HF2:Hid (Fam (wr.drewN nq) blk off N G):=zb HF
     clear hcw hfw HX HF
     generalize wr.drewN nq=wr4 at *
     have HX:=HX2
     have HF:=HF2
     clear HX2 HF2
     obtain ⟨hcw,hfw⟩:=zb HF
     have d1:=hcw a (by omega)
     have g1:=hfw a (by omega)
     have d2:=hcw j2 (by omega)
     have g2:=hfw j2 (by omega)
     clear hcw hfw
     rcases Nat.lt_or_ge a j2 with hq |hq
     ·go_region
      go_wp2_with fail
      go_ret2
      rw [zb HE2]
      exact ⟨rfl,(by rw [←yg (zb HG)];first |exact (zb HX).two rfl rfl |exact (((zb HX).set j2 _).set a _).drew)⟩
     ·obtain rfl:a=j2:=by omega
      go_region
      go_wp2_with fail
      go_ret2
      rw [zb HE2]
      exact ⟨rfl,(by rw [←yg (zb HG)];first |exact (zb HX).two rfl rfl |exact (((zb HX).set a _).set a _).drew |exact (((zb HX).set a _).set a _).drewN _)⟩
 ·obtain rfl:a=p:=by omega
  go_wp2_with fail
  go_region
  go_wp2_with fail
  clear d1 d2 g1 g2 hcw hfw
  obtain ⟨dc,hdc⟩:∃ dc,dc=Sort.swp d a a:=⟨_,rfl⟩
  have HX1:=zc ((((zb HH).set a (G a)).set a (G a)).drew)
  rw [yg (zb HG0)] at HX1
  rw [←hdc] at HC HT HX1
  obtain ⟨i,hi⟩:∃ i,i=a+1:=⟨_,rfl⟩
  obtain ⟨j,hj⟩:∃ j,j=b-1:=⟨_,rfl⟩
  have e1:(a:Int)+1=(i:Nat):=by omega
  have e2:(b:Int)-1=(j:Nat):=by omega
  have hai:a<i:=by omega
  have hij:i≤j+1:=by omega
  have hjb:j<b:=by omega
  rw [←hi,←hj] at HT
  simp only [e1,e2]
  clear e1 e2 hi hj hdc HH HG0
  have HX:=HX1
  have HE1:=HT
  clear HX1 HT
  obtain ⟨G,HG,hcw,hfw⟩:=(zb HX).fam (zb HC)
  have HF:Hid (Fam _ blk off N G):=⟨hcw,hfw⟩
  go_loopw [10] (fun vi wr2=>∃ i2:Nat,vi = .int .i64 i2∧i≤i2∧i2≤j+1∧Hid (Ex w blk off dc wr2)∧Hid (Fam wr2 blk off N G)∧Hid (tgt=fsT a j (Sort.scanUp (fun x=>Sort.ltInt x dc[a]!) dc j i2) dc)) (fun vi _=>j+1-(intOf vi).toNat)
  case atStart=>exact ⟨i,rfl,Nat.le_refl _,hij,HX,HF,HE1⟩
  case round=>
   clear HX HF HE1 hcw hfw
   obtain ⟨i2,rfl,hai2,hij2,HX,HF,HE⟩:=hrel
   obtain ⟨hcw,hfw⟩:=zb HF
   by_cases hle1:i2≤j
   ·go_wp2_with fail
    go_big_quiet (first |(go_at_call 205;refine Calls.quiet_of_same (zz _ _ _)))
    go_wp2_with fail
    ·have hl:Sort.ltInt (G i2) (G a)=true:=by assumption
     have HE2:Hid (tgt=fsT a j (Sort.scanUp (fun x=>Sort.ltInt x dc[a]!) dc j (i2+1)) dc):=by show _=_;rw [zb HE,JA hle1 (by show Sort.ltInt dc[i2]! dc[a]! = true;rw [←zb HG,←zb HG];exact hl)]
     go_roundw
     case rel=>exact ⟨i2+1,by go_num,by omega,by omega,(zb HX).drewN _,zb HF,HE2⟩
     case measure=>simp [intOf];omega
    ·have hf1:Sort.ltInt (G i2) (G a)=false:=by assumption
     have HE2:Hid (tgt=fsR a i2 (Sort.scanDown (fun x=>!Sort.ltInt x dc[a]!) dc i2 j) dc):=by show _=_;rw [zb HE,qN (.inr (by show Sort.ltInt dc[i2]! dc[a]! = false;rw [←zb HG,←zb HG];exact hf1))];rfl
     clear HE
     have HE:=HE2
     clear HE2
     revert nq;intro nq1
     have HX2:=zc ((zb HX).drewN nq1)
     have HF2:Hid (Fam (wr.drewN nq1) blk off N G):=zb HF
     clear hcw hfw HX HF
     generalize wr.drewN nq1=wr5 at *
     have HX:=HX2
     have HF:=HF2
     clear HX2 HF2
     obtain ⟨hcw,hfw⟩:=zb HF
     go_loopw [11] (fun vj wr3=>∃ j2:Nat,vj = .int .i64 j2∧i2≤j2+1∧j2≤j∧Hid (Ex w blk off dc wr3)∧Hid (Fam wr3 blk off N G)∧Hid (tgt=fsR a i2 (Sort.scanDown (fun x=>!Sort.ltInt x dc[a]!) dc i2 j2) dc)) (fun vj _=>(intOf vj).toNat)
     case atStart=>exact ⟨j,rfl,by omega,Nat.le_refl _,HX,HF,HE⟩
     case round=>
      clear HX HF HE hcw hfw
      obtain ⟨j2,rfl,hij2,hj2,HX,HF,HE⟩:=hrel
      by_cases hle:i2≤j2
      ·have hgt:decide ((j2:Int)<(i2:Int))=false:=by simp;omega
       obtain ⟨hcw,hfw⟩:=zb HF
       go_wp2_with fail
       go_big_quiet (first |(go_at_call 205;refine Calls.quiet_of_same (zz _ _ _)))
       go_wp2_with fail
       ·have hl:Sort.ltInt (G j2) (G a)=false:=by have q:(!Sort.ltInt (G j2) (G a))=true:=(by assumption);simpa using q
        have HE2:Hid (tgt=fsR a i2 (Sort.scanDown (fun x=>!Sort.ltInt x dc[a]!) dc i2 (j2-1)) dc):=by show _=_;rw [zb HE,JB (by omega) hle (by show (!Sort.ltInt dc[j2]! dc[a]!)=true;rw [←zb HG,←zb HG,hl];rfl)]
        go_roundw
        case rel=>exact ⟨j2-1,by congr 1;omega,by omega,by omega,(zb HX).drewN _,zb HF,HE2⟩
        case measure=>simp [intOf];omega
       ·have hf2:Sort.ltInt (G j2) (G a)=true:=by simpa using (by assumption:(!Sort.ltInt (G j2) (G a))=false)
        have hlt:i2<j2:=by
         rcases Nat.lt_or_ge i2 j2 with h |h
         ·exact h
         ·obtain rfl:i2=j2:=by omega
          exact absurd hf2 (by rw [hf1];simp)
        have HE2:Hid (tgt=fin a (Sort.partLoop Sort.ltInt a (i2+1) (j2-1) ((dc.setIfInBounds i2 (G j2)).setIfInBounds j2 (G i2)))):=by show _=_;rw [zb HE,Zb (by show (!Sort.ltInt dc[j2]! dc[a]!)=false;rw [←zb HG,←zb HG,hf2];rfl),yg (zb HG)];unfold fsR;rw [if_neg (by omega)]
        have HC2:Hid (((dc.setIfInBounds i2 (G j2)).setIfInBounds j2 (G i2)).size=N):=by show _=_;simp;exact zb HC
        revert nq;intro nq2
        have HX2:=zc ((zb HX).drewN nq2)
        have HF2:Hid (Fam (wr.drewN nq2) blk off N G):=zb HF
        clear hcw hfw HX HF
        generalize wr.drewN nq2=wr4 at *
        have HX:=HX2
        have HF:=HF2
        clear HX2 HF2
        obtain ⟨hcw,hfw⟩:=zb HF
        clear HE HG
        go_region
        go_wp2_with fail
        go_loopw [10,11] (fun vi vj wr=>∃ (i j:Nat) (dc:Array Int),vi = .int .i64 i∧vj = .int .i64 j∧a<i∧i≤j+1∧j<b∧Hid (dc.size=N)∧Hid (Ex w blk off dc wr)∧Hid (tgt=fin a (Sort.partLoop Sort.ltInt a i j dc))) (fun vi vj _=>(intOf vj+1-intOf vi).toNat)
        case atStart=>exact ⟨i2+1,j2-1,_,by go_num,by congr 1;omega,by omega,by omega,by omega,HC2,(zb HX).two (by omega) (by omega),HE2⟩
        case round=>
         clear HX HF HC HC2 HE2 hcw hfw hf1 hf2
         obtain ⟨i,j,dc,rfl,rfl,hai,hij,hjb,HC,HX,HE⟩:=hrel
         obtain ⟨G,HG,hcw,hfw⟩:=(zb HX).fam (zb HC)
         have HF:Hid (Fam wr blk off N G):=⟨hcw,hfw⟩
         have HE1:Hid (tgt=fin a (ptT a i j (Sort.scanUp (fun x=>Sort.ltInt x dc[a]!) dc j i) dc)):=by show _=_;rw [zb HE,za5]
         clear HE
         go_wp2_with fail
         go_loopw [10] (fun vi wr2=>∃ i2:Nat,vi = .int .i64 i2∧i≤i2∧i2≤j+1∧Hid (Ex w blk off dc wr2)∧Hid (Fam wr2 blk off N G)∧Hid (tgt=fin a (ptT a i j (Sort.scanUp (fun x=>Sort.ltInt x dc[a]!) dc j i2) dc))) (fun vi _=>j+1-(intOf vi).toNat)
         case atStart=>exact ⟨i,rfl,Nat.le_refl _,hij,HX,HF,HE1⟩
         case round=>
          clear HX HF HE1 hcw hfw
          obtain ⟨i2,rfl,hai2,hij2,HX,HF,HE⟩:=hrel
          obtain ⟨hcw,hfw⟩:=zb HF
          by_cases hle1:i2≤j
          ·go_wp2_with fail
           go_big_quiet (first |(go_at_call 205;refine Calls.quiet_of_same (zz _ _ _)))
           go_wp2_with fail
           ·have hl:Sort.ltInt (G i2) (G a)=true:=by assumption
            have HE2:Hid (tgt=fin a (ptT a i j (Sort.scanUp (fun x=>Sort.ltInt x dc[a]!) dc j (i2+1)) dc)):=by show _=_;rw [zb HE,JA hle1 (by show Sort.ltInt dc[i2]! dc[a]! = true;rw [←zb HG,←zb HG];exact hl)]
            go_roundw
            case rel=>exact ⟨i2+1,by go_num,by omega,by omega,(zb HX).drewN _,zb HF,HE2⟩
            case measure=>simp [intOf];omega
           ·have hf1:Sort.ltInt (G i2) (G a)=false:=by assumption
            have HE2:Hid (tgt=fin a (ptR a i j i2 (Sort.scanDown (fun x=>!Sort.ltInt x dc[a]!) dc i2 j) dc)):=by show _=_;rw [zb HE,qN (.inr (by show Sort.ltInt dc[i2]! dc[a]! = false;rw [←zb HG,←zb HG];exact hf1))];rfl
            clear HE
            have HE:=HE2
            clear HE2
            revert nq;intro nq1
            have HX2:=zc ((zb HX).drewN nq1)
            have HF2:Hid (Fam (wr.drewN nq1) blk off N G):=zb HF
            clear hcw hfw HX HF
            generalize wr.drewN nq1=wr5 at *
            have HX:=HX2
            have HF:=HF2
            clear HX2 HF2
            obtain ⟨hcw,hfw⟩:=zb HF
            go_loopw [11] (fun vj wr3=>∃ j2:Nat,vj = .int .i64 j2∧i2≤j2+1∧j2≤j∧Hid (Ex w blk off dc wr3)∧Hid (Fam wr3 blk off N G)∧Hid (tgt=fin a (ptR a i j i2 (Sort.scanDown (fun x=>!Sort.ltInt x dc[a]!) dc i2 j2) dc))) (fun vj _=>(intOf vj).toNat)
            case atStart=>exact ⟨j,rfl,by omega,Nat.le_refl _,HX,HF,HE⟩
            case round=>
             clear HX HF HE hcw hfw
             obtain ⟨j2,rfl,hij2,hj2,HX,HF,HE⟩:=hrel
             by_cases hle:i2≤j2
             ·have hgt:decide ((j2:Int)<(i2:Int))=false:=by simp;omega
              obtain ⟨hcw,hfw⟩:=zb HF
              go_wp2_with fail
              go_big_quiet (first |(go_at_call 205;refine Calls.quiet_of_same (zz _ _ _)))
              go_wp2_with fail
              ·have hl:Sort.ltInt (G j2) (G a)=false:=by have q:(!Sort.ltInt (G j2) (G a))=true:=(by assumption);simpa using q
               have HE2:Hid (tgt=fin a (ptR a i j i2 (Sort.scanDown (fun x=>!Sort.ltInt x dc[a]!) dc i2 (j2-1)) dc)):=by show _=_;rw [zb HE,JB (by omega) hle (by show (!Sort.ltInt dc[j2]! dc[a]!)=true;rw [←zb HG,←zb HG,hl];rfl)]
               go_roundw
               case rel=>exact ⟨j2-1,by congr 1;omega,by omega,by omega,(zb HX).drewN _,zb HF,HE2⟩
               case measure=>simp [intOf];omega
              ·have hf2:Sort.ltInt (G j2) (G a)=true:=by simpa using (by assumption:(!Sort.ltInt (G j2) (G a))=false)
               have hlt:i2<j2:=by
                rcases Nat.lt_or_ge i2 j2 with h |h
                ·exact h
                ·obtain rfl:i2=j2:=by omega
                 exact absurd hf2 (by rw [hf1];simp)
               have HE2:Hid (tgt=fin a (Sort.partLoop Sort.ltInt a (i2+1) (j2-1) ((dc.setIfInBounds i2 (G j2)).setIfInBounds j2 (G i2)))):=by show _=_;rw [zb HE,Zb (by show (!Sort.ltInt dc[j2]! dc[a]!)=false;rw [←zb HG,←zb HG,hf2];rfl),yg (zb HG)];unfold ptR;rw [if_neg (by omega),if_pos (by omega)]
               have HC2:Hid (((dc.setIfInBounds i2 (G j2)).setIfInBounds j2 (G i2)).size=N):=by show _=_;simp;exact zb HC
               revert nq;intro nq2
               have HX2:=zc ((zb HX).drewN nq2)
               have HF2:Hid (Fam (wr.drewN nq2) blk off N G):=zb HF
               clear hcw hfw HX HF
               generalize wr.drewN nq2=wr4 at *
               have HX:=HX2
               have HF:=HF2
               clear HX2 HF2
               obtain ⟨hcw,hfw⟩:=zb HF
               clear HE HG
               go_region
               go_wp2_with fail
               go_roundw
               case rel=>exact ⟨i2+1,j2-1,_,by go_num,by congr 1;omega,by omega,by omega,by omega,HC2,(zb HX).two (by omega) (by omega),HE2⟩
               case measure=>simp [intOf];omega
             ·skip
              have hgt:(j2:Int)<(i2:Int):=by omega
              have hgd:decide ((i2:Int)≤(j2:Int))=false:=by simp;omega
              have HE2:Hid (tgt=(j2,false,Sort.swp dc j2 a)):=by show _=_;rw [zb HE,jO (by omega)];unfold ptR;rw [if_pos (by omega)];rfl
              clear HE
              obtain ⟨hcw,hfw⟩:=zb HF
              go_wp2_with fail
              go_big_quiet (first |(go_at_call 205;refine Calls.quiet_of_same (zz _ _ _)))
              go_wp2_with fail
              have HX2:=zc ((zb HX).drewN nq)
              have HF2:Hid (Fam (wr.drewN nq) blk off N G):=zb HF
              clear hcw hfw HX HF
              generalize wr.drewN nq=wr4 at *
              have HX:=HX2
              have HF:=HF2
              clear HX2 HF2
              obtain ⟨hcw,hfw⟩:=zb HF
              have d1:=hcw a (by omega)
              have g1:=hfw a (by omega)
              have d2:=hcw j2 (by omega)
              have g2:=hfw j2 (by omega)
              clear hcw hfw
              rcases Nat.lt_or_ge a j2 with hq |hq
              ·go_region
               go_wp2_with fail
               go_ret2
               rw [zb HE2]
               exact ⟨rfl,(by rw [←yg (zb HG)];first |exact (zb HX).two rfl rfl |exact (((zb HX).set j2 _).set a _).drew)⟩
              ·obtain rfl:a=j2:=by omega
               go_region
               go_wp2_with fail
               go_ret2
               rw [zb HE2]
               exact ⟨rfl,(by rw [←yg (zb HG)];first |exact (zb HX).two rfl rfl |exact (((zb HX).set a _).set a _).drew |exact (((zb HX).set a _).set a _).drewN _)⟩
          ·have hgd1:decide ((i2:Int)≤(j:Int))=false:=by simp;omega
           have HE2:Hid (tgt=fin a (ptR a i j i2 (Sort.scanDown (fun x=>!Sort.ltInt x dc[a]!) dc i2 j) dc)):=by show _=_;rw [zb HE,qN (.inl hle1)];rfl
           clear HE
           have HE:=HE2
           clear HE2
           go_wp2_with fail
           go_big_quiet (first |(go_at_call 205;refine Calls.quiet_of_same (zz _ _ _)))
           go_wp2_with fail
           have HX2:=zc ((zb HX).drewN nq)
           have HF2:Hid (Fam (wr.drewN nq) blk off N G):=zb HF
           clear hcw hfw HX HF
           generalize wr.drewN nq=wr5 at *
           have HX:=HX2
           have HF:=HF2
           clear HX2 HF2
           obtain ⟨hcw,hfw⟩:=zb HF
           go_loopw [11] (fun vj wr3=>∃ j2:Nat,vj = .int .i64 j2∧i2≤j2+1∧j2≤j∧Hid (Ex w blk off dc wr3)∧Hid (Fam wr3 blk off N G)∧Hid (tgt=fin a (ptR a i j i2 (Sort.scanDown (fun x=>!Sort.ltInt x dc[a]!) dc i2 j2) dc))) (fun vj _=>(intOf vj).toNat)
           case atStart=>exact ⟨j,rfl,by omega,Nat.le_refl _,HX,HF,HE⟩
           case round=>
            clear HX HF HE hcw hfw
            obtain ⟨j2,rfl,hij2,hj2,HX,HF,HE⟩:=hrel
            have hle:¬i2≤j2:=by omega
            have hgt:(j2:Int)<(i2:Int):=by omega
            have hgd:decide ((i2:Int)≤(j2:Int))=false:=by simp;omega
            have HE2:Hid (tgt=(j2,false,Sort.swp dc j2 a)):=by show _=_;rw [zb HE,jO (by omega)];unfold ptR;rw [if_pos (by omega)];rfl
            clear HE
            obtain ⟨hcw,hfw⟩:=zb HF
            go_wp2_with fail
            go_big_quiet (first |(go_at_call 205;refine Calls.quiet_of_same (zz _ _ _)))
            go_wp2_with fail
            have HX2:=zc ((zb HX).drewN nq)
            have HF2:Hid (Fam (wr.drewN nq) blk off N G):=zb HF
            clear hcw hfw HX HF
            generalize wr.drewN nq=wr4 at *
            have HX:=HX2
            have HF:=HF2
            clear HX2 HF2
            obtain ⟨hcw,hfw⟩:=zb HF
            have d1:=hcw a (by omega)
            have g1:=hfw a (by omega)
            have d2:=hcw j2 (by omega)
            have g2:=hfw j2 (by omega)
            clear hcw hfw
            rcases Nat.lt_or_ge a j2 with hq |hq
            ·go_region
             go_wp2_with fail
             go_ret2
             rw [zb HE2]
             exact ⟨rfl,(by rw [←yg (zb HG)];first |exact (zb HX).two rfl rfl |exact (((zb HX).set j2 _).set a _).drew)⟩
            ·obtain rfl:a=j2:=by omega
             go_region
             go_wp2_with fail
             go_ret2
             rw [zb HE2]
             exact ⟨rfl,(by rw [←yg (zb HG)];first |exact (zb HX).two rfl rfl |exact (((zb HX).set a _).set a _).drew |exact (((zb HX).set a _).set a _).drewN _)⟩
      ·skip
       have hgt:(j2:Int)<(i2:Int):=by omega
       have hgd:decide ((i2:Int)≤(j2:Int))=false:=by simp;omega
       have HE2:Hid (tgt=(j2,true,Sort.swp dc j2 a)):=by show _=_;rw [zb HE,jO (by omega)];unfold fsR;rw [if_pos (by omega)]
       clear HE
       obtain ⟨hcw,hfw⟩:=zb HF
       go_wp2_with fail
       go_big_quiet (first |(go_at_call 205;refine Calls.quiet_of_same (zz _ _ _)))
       go_wp2_with fail
       have HX2:=zc ((zb HX).drewN nq)
       have HF2:Hid (Fam (wr.drewN nq) blk off N G):=zb HF
       clear hcw hfw HX HF
       generalize wr.drewN nq=wr4 at *
       have HX:=HX2
       have HF:=HF2
       clear HX2 HF2
       obtain ⟨hcw,hfw⟩:=zb HF
       have d1:=hcw a (by omega)
       have g1:=hfw a (by omega)
       have d2:=hcw j2 (by omega)
       have g2:=hfw j2 (by omega)
       clear hcw hfw
       rcases Nat.lt_or_ge a j2 with hq |hq
       ·go_region
        go_wp2_with fail
        go_ret2
        rw [zb HE2]
        exact ⟨rfl,(by rw [←yg (zb HG)];first |exact (zb HX).two rfl rfl |exact (((zb HX).set j2 _).set a _).drew)⟩
       ·obtain rfl:a=j2:=by omega
        go_region
        go_wp2_with fail
        go_ret2
        rw [zb HE2]
        exact ⟨rfl,(by rw [←yg (zb HG)];first |exact (zb HX).two rfl rfl |exact (((zb HX).set a _).set a _).drew |exact (((zb HX).set a _).set a _).drewN _)⟩
   ·have hgd1:decide ((i2:Int)≤(j:Int))=false:=by simp;omega
    have HE2:Hid (tgt=fsR a i2 (Sort.scanDown (fun x=>!Sort.ltInt x dc[a]!) dc i2 j) dc):=by show _=_;rw [zb HE,qN (.inl hle1)];rfl
    clear HE
    have HE:=HE2
    clear HE2
    go_wp2_with fail
    go_big_quiet (first |(go_at_call 205;refine Calls.quiet_of_same (zz _ _ _)))
    go_wp2_with fail
    have HX2:=zc ((zb HX).drewN nq)
    have HF2:Hid (Fam (wr.drewN nq) blk off N G):=zb HF
    clear hcw hfw HX HF
    generalize wr.drewN nq=wr5 at *
    have HX:=HX2
    have HF:=HF2
    clear HX2 HF2
    obtain ⟨hcw,hfw⟩:=zb HF
    go_loopw [11] (fun vj wr3=>∃ j2:Nat,vj = .int .i64 j2∧i2≤j2+1∧j2≤j∧Hid (Ex w blk off dc wr3)∧Hid (Fam wr3 blk off N G)∧Hid (tgt=fsR a i2 (Sort.scanDown (fun x=>!Sort.ltInt x dc[a]!) dc i2 j2) dc)) (fun vj _=>(intOf vj).toNat)
    case atStart=>exact ⟨j,rfl,by omega,Nat.le_refl _,HX,HF,HE⟩
    case round=>
     clear HX HF HE hcw hfw
     obtain ⟨j2,rfl,hij2,hj2,HX,HF,HE⟩:=hrel
     have hle:¬i2≤j2:=by omega
     have hgt:(j2:Int)<(i2:Int):=by omega
     have hgd:decide ((i2:Int)≤(j2:Int))=false:=by simp;omega
     have HE2:Hid (tgt=(j2,true,Sort.swp dc j2 a)):=by show _=_;rw [zb HE,jO (by omega)];unfold fsR;rw [if_pos (by omega)]
     clear HE
     obtain ⟨hcw,hfw⟩:=zb HF
     go_wp2_with fail
     go_big_quiet (first |(go_at_call 205;refine Calls.quiet_of_same (zz _ _ _)))
     go_wp2_with fail
     have HX2:=zc ((zb HX).drewN nq)
     have HF2:Hid (Fam (wr.drewN nq) blk off N G):=zb HF
     clear hcw hfw HX HF
     generalize wr.drewN nq=wr4 at *
     have HX:=HX2
     have HF:=HF2
     clear HX2 HF2
     obtain ⟨hcw,hfw⟩:=zb HF
     have d1:=hcw a (by omega)
     have g1:=hfw a (by omega)
     have d2:=hcw j2 (by omega)
     have g2:=hfw j2 (by omega)
     clear hcw hfw
     rcases Nat.lt_or_ge a j2 with hq |hq
     ·go_region
      go_wp2_with fail
      go_ret2
      rw [zb HE2]
      exact ⟨rfl,(by rw [←yg (zb HG)];first |exact (zb HX).two rfl rfl |exact (((zb HX).set j2 _).set a _).drew)⟩
     ·obtain rfl:a=j2:=by omega
      go_region
      go_wp2_with fail
      go_ret2
      rw [zb HE2]
      exact ⟨rfl,(by rw [←yg (zb HG)];first |exact (zb HX).two rfl rfl |exact (((zb HX).set a _).set a _).drew |exact (((zb HX).set a _).set a _).drewN _)⟩
theorem Ex.aside {a b:World}{blk off k0:Nat}{d:Array Int}(h:Ex a blk off d b)(hk:a.heap.size≤k0)(hb:blk≠k0)(u:Value):Ex a blk off d (b.setCell ⟨k0,0,none⟩ u):=
 ⟨h.1.setCell (p:=⟨k0,0,none⟩) (.inr hk) u,fun t ht=>⟨(World.cell?_setCell_other _ _ _ _ (by simp)).trans (h.2 t ht).1,(zk _ _ _ _).trans (h.2 t ht).2⟩⟩
open Go.Shelf Go.Lib Go.Sort in
theorem nextE (rb:Nat)(r:UInt64)(w:World)(hc:w.cell? ⟨rb,0,none⟩=some (.int .u64 (r.toNat:Nat)))(hf:w.frozen? ⟨rb,0,none⟩=false) :
  Calls Tryz.prog 231 #[.pointer (some ⟨rb,0,none⟩)] w fun e w'=>e = .returned (.int .u64 ((Sort.xorNext r).toNat:Nat))∧w'=(w.setCell ⟨rb,0,none⟩ (.int .u64 ((Sort.xorNext r).toNat:Nat))).drewN 3:=by
 rw [Sort.xorNext_toNat]
 exact AnyF.xorshift_Next { wK with } rb 0 r.toNat r.toNat_lt w hc hf
theorem breakE (blk off cap a b:Nat)(d:Array Int)(w:World)(h:Sort.Holds (Value.int .i32) w blk off d)(hblk:blk<w.heap.size)(hab:a+12<b)(hb:b≤d.size)(hn:d.size<1099511627776) :
  Calls Tryz.prog 201 #[.slice (some ⟨blk,off,none⟩) d.size cap,.int .i64 a,.int .i64 b] w fun e w'=>e = .returned (.tuple #[])∧Ex w blk off (Sort.breakPatterns d a b) w':=by
 obtain ⟨L,rfl⟩:∃ L,b=a+L:=⟨b-a,by omega⟩
 have HT:=zc (breakPatterns_eq d a L (by omega))
 generalize Sort.breakPatterns d a (a+L)=tgt at *
 have HH:=zc (Ex.refl h)
 clear h
 generalize hN:d.size=N at *
 obtain ⟨q,hq⟩:∃ q,q=L / 4:=⟨_,rfl⟩
 have hq4':(L:Int) / 4=q:=by rw [hq];rfl
 have hqL:4*q≤L∧L<4*q+4:=by omega
 have e0:(a:Int)+L-a=L:=by omega
 have eL:IntKind.u64.wrap (L:Int)=L:=by simp [IntKind.wrap,IntKind.bits,IntKind.signed];omega
 have hM:=pow_le L (by omega)
 obtain ⟨M,hMe⟩:∃ M,M=1 <<< Sort.bitsLen L:=⟨_,rfl⟩
 have hM1:1≤M:=by rw [hMe,Nat.one_shiftLeft];exact Nat.one_le_two_pow
 have HN:=zc (npowR L (by omega))
 rw [←hMe] at hM HN HT
 rw [←hq] at HT
 have eX:(UInt64.ofNat L).toNat=L:=by simp;omega
 have HC9:Hid (d.size=N):=hN
 clear hMe hq hN
 go_enter Tryz.func201,Tryz.ntmps201
 go_wp2_with (go_at_call 230;refine (zb HN _).mono ?_;rintro e w' ⟨rfl,rfl⟩)
 have HS0:Hid (Ex w blk off d (w.alloc (.cells #[.int .u64 (L:Int)] 375))):=⟨(ze.refl _ _).alloc _,fun t ht=>⟨(((ze.refl (fun _=>False) _).alloc _).cell (p:=⟨blk,off+t,none⟩) hblk (fun f=>f)).trans ((zb HH).2 t ht).1,(((ze.refl (fun _=>False) _).alloc _).frozen (p:=⟨blk,off+t,none⟩) hblk (fun f=>f)).trans ((zb HH).2 t ht).2⟩⟩
 have HC0:Hid (vQ (w.alloc (.cells #[.int .u64 (L:Int)] 375)) w.heap.size (UInt64.ofNat L).toNat):=by rw [eX];exact ⟨zm w _ rfl _ _ 0 _ rfl,zG w _ rfl _ _ 0⟩
 have eM:IntKind.u64.wrap ((M:Int)-1)=(M:Int)-1:=by simp [IntKind.wrap,IntKind.bits,IntKind.signed];omega
 go_loopw [9] (fun vi wr=>∃ (t s:Nat) (r:UInt64) (dc:Array Int),vi = .int .i64 t∧Hid (t=a+q*2-1+s)∧a+q*2≤t+1∧t≤a+q*2+2∧s≤3∧Hid (dc.size=N)∧Hid (Ex w blk off dc wr)∧Hid (vQ wr w.heap.size r.toNat)∧Hid (tgt=bpRest a L M (a+q*2-1) (3-s) s (r,dc))) (fun vi _=>a+q*2+2-(intOf vi).toNat)
 case atStart=>exact ⟨a+q*2-1,0,_,d,by congr 1;omega,rfl,by omega,by omega,by omega,HC9,HS0,HC0,HT⟩
 case round=>
  clear HS0 HC0 HT HH HC9
  obtain ⟨t,s,r,dc,rfl,HTS,ht0,ht1,hs3,HZ,HS,HC,HE⟩:=hrel
  by_cases hs:s<3
  ·have hle:(t:Int)≤a+q*2+1:=by have:=zb HTS;omega
   have HB:=zc (fun o=>bp_step (α:=Int) a L M (a+q*2-1) s r dc o hs)
   rw [←zb HTS] at HB
   obtain ⟨c0,f0⟩:=zb HC
   go_wp2_with (go_at_call 231;refine (nextE _ r _ c0 f0).mono ?_;rintro e w1 ⟨rfl,hw1⟩;have HS1:Hid (Ex w blk off dc w1):=(by rw [hw1];exact ((zb HS).aside (Nat.le_refl _) (by omega) _).drewN _);have HC1:Hid (vQ w1 w.heap.size (Sort.xorNext r).toNat):=(by rw [hw1];exact ⟨World.cell?_setCell_same _ _ _ c0,(zk _ _ _ _).trans f0⟩);have hY:(Sort.xorNext r).toNat<18446744073709551616:=(Sort.xorNext r).toNat_lt;generalize hr2:Sort.xorNext r=r2 at *;generalize hYe:r2.toNat=Y at *;have hand:bits .and .u64 (Y:Int) ((M:Int)-1)=((Y &&& (M-1):Nat):Int):=(by rw [show (M:Int)-1=((M-1:Nat):Int) by omega];exact bits_and_u64_nat _ _ hY (by omega));have ho:Y &&& (M-1)≤M-1:=Nat.and_le_right;generalize hoe:Y &&& (M-1)=o at *;have ho2:IntKind.i64.wrap (o:Int)=o:=(by simp [IntKind.wrap,IntKind.bits,IntKind.signed];omega);clear hw1 hoe)
   ·rename_i hLo
    obtain ⟨o',ho'⟩:∃ o',o'=o-L:=⟨_,rfl⟩
    have e9:(o:Int)-L=(o':Nat):=by omega
    simp only [e9]
    have hoL:o'<L:=by omega
    obtain ⟨G,HG,hcw,hfw⟩:=(zb HS1).fam (zb HZ)
    have HE2:Hid (tgt=bpRest a L M (a+q*2-1) (3-(s+1)) (s+1) (r2,(dc.setIfInBounds t (G (a+o'))).setIfInBounds (a+o') (G t))):=by show _=_;rw [zb HE,yg (zb HG)];exact zb HB o' (by rw [if_pos (by omega)];omega)
    have HZ2:Hid (((dc.setIfInBounds t (G (a+o'))).setIfInBounds (a+o') (G t)).size=N):=by show _=_;simp;exact zb HZ
    rw [←hYe] at HC1
    clear e9 ho' hand ho2 HB HE HG hYe hr2
    have d1:=hcw t (by omega)
    have g1:=hfw t (by omega)
    have d2:=hcw (a+o') (by omega)
    have g2:=hfw (a+o') (by omega)
    by_cases hto:t=a+o'
    ·subst hto
     go_region
     go_wp2_with fail
     go_roundw
     case rel=>exact ⟨a+o'+1,s+1,r2,_,by go_num,(by show _=_;have:=zb HTS;omega),by omega,by omega,by omega,HZ2,(by first |exact (zb HS1).two rfl rfl |exact (((zb HS1).set (a+o') _).set (a+o') _).drew),(by first |exact vQ.two (zb HC1) (by omega) |exact vQ.two' (zb HC1) (by omega)),HE2⟩
     case measure=>simp [intOf];omega
    ·go_region
     go_wp2_with fail
     go_roundw
     case rel=>exact ⟨t+1,s+1,r2,_,by go_num,(by show _=_;have:=zb HTS;omega),by omega,by omega,by omega,HZ2,(by first |exact (zb HS1).two rfl rfl |exact (((zb HS1).set t _).set (a+o') _).drew),(by first |exact vQ.two (zb HC1) (by omega) |exact vQ.two' (zb HC1) (by omega)),HE2⟩
     case measure=>simp [intOf];omega
   ·have hoL:o<L:=by omega
    obtain ⟨G,HG,hcw,hfw⟩:=(zb HS1).fam (zb HZ)
    have HE2:Hid (tgt=bpRest a L M (a+q*2-1) (3-(s+1)) (s+1) (r2,(dc.setIfInBounds t (G (a+o))).setIfInBounds (a+o) (G t))):=by show _=_;rw [zb HE,yg (zb HG)];exact zb HB o (by rw [if_neg (by omega)])
    have HZ2:Hid (((dc.setIfInBounds t (G (a+o))).setIfInBounds (a+o) (G t)).size=N):=by show _=_;simp;exact zb HZ
    rw [←hYe] at HC1
    clear hand ho2 HB HE HG hYe hr2
    have d1:=hcw t (by omega)
    have g1:=hfw t (by omega)
    have d2:=hcw (a+o) (by omega)
    have g2:=hfw (a+o) (by omega)
    by_cases hto:t=a+o
    ·subst hto
     go_region
     go_wp2_with fail
     go_roundw
     case rel=>exact ⟨a+o+1,s+1,r2,_,by go_num,(by show _=_;have:=zb HTS;omega),by omega,by omega,by omega,HZ2,(by first |exact (zb HS1).two rfl rfl |exact (((zb HS1).set (a+o) _).set (a+o) _).drew),(by first |exact vQ.two (zb HC1) (by omega) |exact vQ.two' (zb HC1) (by omega)),HE2⟩
     case measure=>simp [intOf];omega
    ·go_region
     go_wp2_with fail
     go_roundw
     case rel=>exact ⟨t+1,s+1,r2,_,by go_num,(by show _=_;have:=zb HTS;omega),by omega,by omega,by omega,HZ2,(by first |exact (zb HS1).two rfl rfl |exact (((zb HS1).set t _).set (a+o) _).drew),(by first |exact vQ.two (zb HC1) (by omega) |exact vQ.two' (zb HC1) (by omega)),HE2⟩
     case measure=>simp [intOf];omega
  ·have hld:decide ((t:Int)≤a+q*2+1)=false:=by have:=zb HTS;simp;omega
   obtain rfl:s=3:=by omega
   go_wp2_with fail
   go_end0
   refine ⟨rfl,?_⟩
   rw [zb HE]
   exact zb HS
end
end Go.Proofs.YtcgleficedipkaaGreatDoor
