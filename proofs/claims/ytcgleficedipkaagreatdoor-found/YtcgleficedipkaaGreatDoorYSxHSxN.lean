/- The library's sort of a row of characters, to the element: parting it. -/
import Derived.Test.YtcgleficedipkaaGreatDoorYSxASxG
import Derived.Sort.Walk7
import Derived.Sort.Walk13a
import Derived.Sort.LotD4
import Derived.Sort.AssemblyPlain
import Derived.Test.YtcgleficedipkaaGreatDoorYFndAFndD
namespace Go.Proofs.YtcgleficedipkaaGreatDoor
open _root_.Go.Proofs.Tryz
variable (blk off n cap a b p:Nat)(d:Array Int){w X V:World}(cs:List Int){g:Nat}
section
open Go.RowKit
set_option maxHeartbeats 8000000
set_option maxRecDepth 1000000
def ptR (a i j i2 j2:Nat)(d:Array Int):Nat×Array Int:=if i2 > j2 then (j2,d) else if (j2-1)+1-(i2+1)<j+1-i then Sort.partLoop Sort.ltInt a (i2+1) (j2-1) (Sort.swp d i2 j2) else (j2,d)
def ptT (a i j i2:Nat)(d:Array Int):Nat×Array Int:=ptR a i j i2 (Sort.scanDown (fun x=>!Sort.ltInt x d[a]!) d i2 j) d
def fin (a:Nat)(r:Nat×Array Int):Nat×Bool×Array Int:=(r.1,false,Sort.swp r.2 r.1 a)
def fsR (a i2 j2:Nat)(d:Array Int):Nat×Bool×Array Int:=if i2 > j2 then (j2,true,Sort.swp d j2 a) else fin a (Sort.partLoop Sort.ltInt a (i2+1) (j2-1) (Sort.swp d i2 j2))
def fsT (a j i2:Nat)(d:Array Int):Nat×Bool×Array Int:=fsR a i2 (Sort.scanDown (fun x=>!Sort.ltInt x d[a]!) d i2 j) d
theorem za5 (i j:Nat)(d:Array Int):Sort.partLoop Sort.ltInt a i j d=ptT a i j (Sort.scanUp (fun x=>Sort.ltInt x d[a]!) d j i) d:=by
 conv=>lhs;unfold Sort.partLoop
 unfold ptT ptR;simp only [];split
 ·rfl
 ·split<;>rfl
theorem partE (w:World)(h:Sort.Holds (Value.int .i32) w blk off d)(hap:a<=p)(hpb:p<b)(hb:b<=d.size)(hn:d.size<1099511627776) :
  Calls prog 207 #[.slice (some ⟨blk,off,none⟩) d.size cap,.int .i64 a,.int .i64 b,.int .i64 p] w fun e w'=>e = .returned (.tuple #[.int .i64 ((Sort.partition Sort.ltInt d a b p).1:Nat),.bool (Sort.partition Sort.ltInt d a b p).2.1])/\Ex w blk off (Sort.partition Sort.ltInt d a b p).2.2 w':=by
 have HH:=zc (Ex.refl h);clear h;generalize hN:d.size=N at *;obtain ⟨G,HG0,hcw,hfw⟩:=(zb HH).fam hN;have HT0:Hid (Sort.partition Sort.ltInt d a b p=fsT a (b-1) (Sort.scanUp (fun x=>Sort.ltInt x (Sort.swp d a p)[a]!) (Sort.swp d a p) (b-1) (a+1)) (Sort.swp d a p)):=rfl;have HC:Hid ((Sort.swp d a p).size=N):=by show _=_;rw [Yo];exact hN
 clear hN;generalize Sort.partition Sort.ltInt d a b p=tgt at *;have HT:Hid (tgt=fsT a (b-1) (Sort.scanUp (fun x=>Sort.ltInt x (Sort.swp d a p)[a]!) (Sort.swp d a p) (b-1) (a+1)) (Sort.swp d a p)):=HT0;clear HT0;go_enter func207,ntmps207;have hpn:p<N:=by omega
 have d2:=hcw p hpn;have g2:=hfw p hpn;have d1:=hcw a (by omega);have g1:=hfw a (by omega);rcases Nat.lt_or_eq_of_le hap with hpa |rfl
 all_goals
  go_wp2_with fail;go_region;go_upto_block 0 with fail;clear d1 d2 g1 g2 hcw hfw
  first
   |(obtain ⟨dc,hdc⟩:∃ dc,dc=Sort.swp d a p:=⟨_,rfl⟩;have HX1:=zc ((((zb HH).set a (G p)).set p (G a)).drew))
   |(obtain ⟨dc,hdc⟩:∃ dc,dc=Sort.swp d a a:=⟨_,rfl⟩;have HX1:=zc ((((zb HH).set a (G a)).set a (G a)).drew))
  rw [yg (zb HG0)] at HX1;rw [<-hdc] at HC HT HX1;obtain ⟨i,hi⟩:∃ i,i=a+1:=⟨_,rfl⟩
  obtain ⟨j,hj⟩:∃ j,j=b-1:=⟨_,rfl⟩
  have e1:(a:Int)+1=(i:Nat):=by omega
  have e2:(b:Int)-1=(j:Nat):=by omega
  have hai:a<i:=by omega
  have hij:i<=j+1:=by omega
  have hjb:j<b:=by omega
  rw [<-hi,<-hj] at HT;simp only [e1,e2];clear e1 e2 hi hj hdc HH HG0;have HX:=HX1;have HE1:=HT;clear HX1 HT;obtain ⟨G,HG,hcw,hfw⟩:=(zb HX).fam (zb HC);have HF:Hid (Fam _ blk off N G):=⟨hcw,hfw⟩
  go_cut [10] from 12 to 167 (fun s10 wx=>∃ i2:Nat,s10 = .int .i64 i2/\i<=i2/\i2<=j+1/\(i2<=j->Sort.ltInt (G i2) (G a)=false)/\Hid (Ex w blk off dc wx)/\Hid (Fam wx blk off N G)/\Hid (tgt=fsR a i2 (Sort.scanDown (fun x=>!Sort.ltInt x dc[a]!) dc i2 j) dc))
  case first=>
   go_wp2_with fail;go_loopw [10] (fun vi wr2=>∃ i2:Nat,vi = .int .i64 i2/\i<=i2/\i2<=j+1/\Hid (Ex w blk off dc wr2)/\Hid (Fam wr2 blk off N G)/\Hid (tgt=fsT a j (Sort.scanUp (fun x=>Sort.ltInt x dc[a]!) dc j i2) dc)) (fun vi _=>j+1-(intOf vi).toNat)
   case atStart=>exact ⟨i,rfl,z8 _,hij,HX,HF,HE1⟩
   case round=>
    clear HX HF HE1 hcw hfw;obtain ⟨i2,rfl,hai2,hij2,HX,HF,HE⟩:=hrel;obtain ⟨hcw,hfw⟩:=zb HF;by_cases hle1:i2<=j
    ·go_wp2_with fail;go_big_quiet (first |(go_at_call 205;refine Calls.quiet_of_same (zz _ _ _)));go_wp2_with fail
     ·have hl:Sort.ltInt (G i2) (G a)=true:=(by assumption);have HE2:Hid (tgt=fsT a j (Sort.scanUp (fun x=>Sort.ltInt x dc[a]!) dc j (i2+1)) dc):=(by show _=_;rw [zb HE,JA hle1 (by show Sort.ltInt dc[i2]! dc[a]! = true;rw [<-zb HG,<-zb HG];exact hl)]);go_roundw
      case rel=>exact ⟨i2+1,by go_num,by omega,by omega,(zb HX).drewN _,zb HF,HE2⟩
      case measure=>simp [intOf];omega
     ·have hf1:Sort.ltInt (G i2) (G a)=false:=(by assumption);go_meet
      case rel=>exact ⟨i2,rfl,hai2,hij2,fun _=>hf1,(zb HX).drewN _,zb HF,by show _=_;rw [zb HE,qN (.inr (by show Sort.ltInt dc[i2]! dc[a]! = false;rw [<-zb HG,<-zb HG];exact hf1))];rfl⟩
    ·have hgd1:decide ((i2:Int)<=(j:Int))=false:=(by simp;omega);go_wp2_with fail;go_big_quiet (first |(go_at_call 205;refine Calls.quiet_of_same (zz _ _ _)));go_wp2_with fail;go_meet
     case rel=>exact ⟨i2,rfl,hai2,hij2,fun h=>absurd h hle1,(zb HX).drewN _,zb HF,by show _=_;rw [zb HE,qN (.inl hle1)];rfl⟩
  case rest=>
   clear HX HF HE1 hcw hfw;obtain ⟨i2,rfl,hai2,hij2,hf1,HX,HF,HE⟩:=hcut;obtain ⟨hcw,hfw⟩:=zb HF;go_wp2_with fail;go_loopw [11] (fun vj wr3=>∃ j2:Nat,vj = .int .i64 j2/\i2<=j2+1/\j2<=j/\Hid (Ex w blk off dc wr3)/\Hid (Fam wr3 blk off N G)/\Hid (tgt=fsR a i2 (Sort.scanDown (fun x=>!Sort.ltInt x dc[a]!) dc i2 j2) dc)) (fun vj _=>(intOf vj).toNat)
   case atStart=>exact ⟨j,rfl,by omega,z8 _,HX,HF,HE⟩
   case round=>
    clear HX HF HE hcw hfw;obtain ⟨j2,rfl,hij2,hj2,HX,HF,HE⟩:=hrel;by_cases hle:i2<=j2
    ·have hgt:decide ((j2:Int)<(i2:Int))=false:=(by simp;omega);obtain ⟨hcw,hfw⟩:=zb HF;go_wp2_with fail;go_big_quiet (first |(go_at_call 205;refine Calls.quiet_of_same (zz _ _ _)));go_wp2_with fail
     ·have hl:Sort.ltInt (G j2) (G a)=false:=(by have q:(!Sort.ltInt (G j2) (G a))=true:=(by assumption);simpa using q);have HE2:Hid (tgt=fsR a i2 (Sort.scanDown (fun x=>!Sort.ltInt x dc[a]!) dc i2 (j2-1)) dc):=(by show _=_;rw [zb HE,JB (by omega) hle (by show (!Sort.ltInt dc[j2]! dc[a]!)=true;rw [<-zb HG,<-zb HG,hl];rfl)]);go_roundw
      case rel=>exact ⟨j2-1,by congr 1;omega,by omega,by omega,(zb HX).drewN _,zb HF,HE2⟩
      case measure=>simp [intOf];omega
     ·have hf2:Sort.ltInt (G j2) (G a)=true:=(by simpa using (by assumption:(!Sort.ltInt (G j2) (G a))=false));have hlt:i2<j2:=by
       rcases YF i2 j2 with h |h
       ·exact h
       ·obtain rfl:i2=j2:=(by omega);exact absurd hf2 (by rw [hf1 (by omega)];simp)
      have HE2:Hid (tgt=fin a (Sort.partLoop Sort.ltInt a (i2+1) (j2-1) ((dc.setIfInBounds i2 (G j2)).setIfInBounds j2 (G i2)))):=(by show _=_;rw [zb HE,Zb (by show (!Sort.ltInt dc[j2]! dc[a]!)=false;rw [<-zb HG,<-zb HG,hf2];rfl),yg (zb HG)];unfold fsR;rw [if_neg (by omega)]);have HC2:Hid (((dc.setIfInBounds i2 (G j2)).setIfInBounds j2 (G i2)).size=N):=by show _=_;simp;exact zb HC
      revert nq;intro nq2
      have HX2:=zc ((zb HX).drewN nq2);have HF2:Hid (Fam (wr.drewN nq2) blk off N G):=zb HF;clear hcw hfw HX HF;generalize wr.drewN nq2=wr4 at *;have HX:=HX2;have HF:=HF2;clear HX2 HF2;obtain ⟨hcw,hfw⟩:=zb HF;clear HE HG;go_region;go_wp2_with fail;go_loopw [10,11] (fun vi vj wr=>∃ (i j:Nat) (dc:Array Int),vi = .int .i64 i/\vj = .int .i64 j/\a<i/\i<=j+1/\j<b/\Hid (dc.size=N)/\Hid (Ex w blk off dc wr)/\Hid (tgt=fin a (Sort.partLoop Sort.ltInt a i j dc))) (fun vi vj _=>(intOf vj+1-intOf vi).toNat)
      case atStart=>exact ⟨i2+1,j2-1,_,by go_num,by congr 1;omega,by omega,by omega,by omega,HC2,(zb HX).two (by omega) (by omega),HE2⟩
      case round=>
       clear HX HF HC HC2 HE2 hcw hfw hf1 hf2;obtain ⟨i,j,dc,rfl,rfl,hai,hij,hjb,HC,HX,HE⟩:=hrel;obtain ⟨G,HG,hcw,hfw⟩:=(zb HX).fam (zb HC);have HF:Hid (Fam wr blk off N G):=⟨hcw,hfw⟩
       have HE1:Hid (tgt=fin a (ptT a i j (Sort.scanUp (fun x=>Sort.ltInt x dc[a]!) dc j i) dc)):=(by show _=_;rw [zb HE,za5]);clear HE;go_upto_block 6 with fail;go_cut [10] from 99 to 152 (fun s10 wx=>∃ i2:Nat,s10 = .int .i64 i2/\i<=i2/\i2<=j+1/\(i2<=j->Sort.ltInt (G i2) (G a)=false)/\Hid (Ex w blk off dc wx)/\Hid (Fam wx blk off N G)/\Hid (tgt=fin a (ptR a i j i2 (Sort.scanDown (fun x=>!Sort.ltInt x dc[a]!) dc i2 j) dc)))
       case first=>
        go_wp2_with fail;go_loopw [10] (fun vi wr2=>∃ i2:Nat,vi = .int .i64 i2/\i<=i2/\i2<=j+1/\Hid (Ex w blk off dc wr2)/\Hid (Fam wr2 blk off N G)/\Hid (tgt=fin a (ptT a i j (Sort.scanUp (fun x=>Sort.ltInt x dc[a]!) dc j i2) dc))) (fun vi _=>j+1-(intOf vi).toNat)
        case atStart=>exact ⟨i,rfl,z8 _,hij,HX,HF,HE1⟩
        case round=>
         clear HX HF HE1 hcw hfw;obtain ⟨i2,rfl,hai2,hij2,HX,HF,HE⟩:=hrel;obtain ⟨hcw,hfw⟩:=zb HF;by_cases hle1:i2<=j
         ·go_wp2_with fail;go_big_quiet (first |(go_at_call 205;refine Calls.quiet_of_same (zz _ _ _)));go_wp2_with fail
          ·have hl:Sort.ltInt (G i2) (G a)=true:=(by assumption);have HE2:Hid (tgt=fin a (ptT a i j (Sort.scanUp (fun x=>Sort.ltInt x dc[a]!) dc j (i2+1)) dc)):=(by show _=_;rw [zb HE,JA hle1 (by show Sort.ltInt dc[i2]! dc[a]! = true;rw [<-zb HG,<-zb HG];exact hl)]);go_roundw
           case rel=>exact ⟨i2+1,by go_num,by omega,by omega,(zb HX).drewN _,zb HF,HE2⟩
           case measure=>simp [intOf];omega
          ·have hf1:Sort.ltInt (G i2) (G a)=false:=(by assumption);go_meet
           case rel=>exact ⟨i2,rfl,hai2,hij2,fun _=>hf1,(zb HX).drewN _,zb HF,by show _=_;rw [zb HE,qN (.inr (by show Sort.ltInt dc[i2]! dc[a]! = false;rw [<-zb HG,<-zb HG];exact hf1))];rfl⟩
         ·have hgd1:decide ((i2:Int)<=(j:Int))=false:=(by simp;omega);go_wp2_with fail;go_big_quiet (first |(go_at_call 205;refine Calls.quiet_of_same (zz _ _ _)));go_wp2_with fail;go_meet
          case rel=>exact ⟨i2,rfl,hai2,hij2,fun h=>absurd h hle1,(zb HX).drewN _,zb HF,by show _=_;rw [zb HE,qN (.inl hle1)];rfl⟩
       case rest=>
        clear HX HF HE1 hcw hfw;obtain ⟨i2,rfl,hai2,hij2,hf1,HX,HF,HE⟩:=hcut;obtain ⟨hcw,hfw⟩:=zb HF;go_wp2_with fail;go_loopw [11] (fun vj wr3=>∃ j2:Nat,vj = .int .i64 j2/\i2<=j2+1/\j2<=j/\Hid (Ex w blk off dc wr3)/\Hid (Fam wr3 blk off N G)/\Hid (tgt=fin a (ptR a i j i2 (Sort.scanDown (fun x=>!Sort.ltInt x dc[a]!) dc i2 j2) dc))) (fun vj _=>(intOf vj).toNat)
        case atStart=>exact ⟨j,rfl,by omega,z8 _,HX,HF,HE⟩
        case round=>
         clear HX HF HE hcw hfw;obtain ⟨j2,rfl,hij2,hj2,HX,HF,HE⟩:=hrel;by_cases hle:i2<=j2
         ·have hgt:decide ((j2:Int)<(i2:Int))=false:=(by simp;omega);obtain ⟨hcw,hfw⟩:=zb HF;go_wp2_with fail;go_big_quiet (first |(go_at_call 205;refine Calls.quiet_of_same (zz _ _ _)));go_wp2_with fail
          ·have hl:Sort.ltInt (G j2) (G a)=false:=(by have q:(!Sort.ltInt (G j2) (G a))=true:=(by assumption);simpa using q);have HE2:Hid (tgt=fin a (ptR a i j i2 (Sort.scanDown (fun x=>!Sort.ltInt x dc[a]!) dc i2 (j2-1)) dc)):=(by show _=_;rw [zb HE,JB (by omega) hle (by show (!Sort.ltInt dc[j2]! dc[a]!)=true;rw [<-zb HG,<-zb HG,hl];rfl)]);go_roundw
           case rel=>exact ⟨j2-1,by congr 1;omega,by omega,by omega,(zb HX).drewN _,zb HF,HE2⟩
           case measure=>simp [intOf];omega
          ·have hf2:Sort.ltInt (G j2) (G a)=true:=(by simpa using (by assumption:(!Sort.ltInt (G j2) (G a))=false));have hlt:i2<j2:=by
            rcases YF i2 j2 with h |h
            ·exact h
            ·obtain rfl:i2=j2:=(by omega);exact absurd hf2 (by rw [hf1 (by omega)];simp)
           have HE2:Hid (tgt=fin a (Sort.partLoop Sort.ltInt a (i2+1) (j2-1) ((dc.setIfInBounds i2 (G j2)).setIfInBounds j2 (G i2)))):=(by show _=_;rw [zb HE,Zb (by show (!Sort.ltInt dc[j2]! dc[a]!)=false;rw [<-zb HG,<-zb HG,hf2];rfl),yg (zb HG)];unfold ptR;rw [if_neg (by omega),if_pos (by omega)]);have HC2:Hid (((dc.setIfInBounds i2 (G j2)).setIfInBounds j2 (G i2)).size=N):=by show _=_;simp;exact zb HC
           revert nq;intro nq2
           have HX2:=zc ((zb HX).drewN nq2);have HF2:Hid (Fam (wr.drewN nq2) blk off N G):=zb HF;clear hcw hfw HX HF;generalize wr.drewN nq2=wr4 at *;have HX:=HX2;have HF:=HF2;clear HX2 HF2;obtain ⟨hcw,hfw⟩:=zb HF;clear HE HG;go_region;go_wp2_with fail;go_roundw
           case rel=>exact ⟨i2+1,j2-1,_,by go_num,by congr 1;omega,by omega,by omega,by omega,HC2,(zb HX).two (by omega) (by omega),HE2⟩
           case measure=>simp [intOf];omega
         ·skip
          have hgt:(j2:Int)<(i2:Int):=(by omega);have hgd:decide ((i2:Int)<=(j2:Int))=false:=(by simp;omega);have HE2:Hid (tgt=(j2,false,Sort.swp dc j2 a)):=(by show _=_;rw [zb HE,jO (by omega)];unfold ptR;rw [if_pos (by omega)];rfl);clear HE;obtain ⟨hcw,hfw⟩:=zb HF;go_wp2_with fail;go_big_quiet (first |(go_at_call 205;refine Calls.quiet_of_same (zz _ _ _)));go_wp2_with fail;have HX2:=zc ((zb HX).drewN nq);have HF2:Hid (Fam (wr.drewN nq) blk off N G):=zb HF;clear hcw hfw HX HF;generalize wr.drewN nq=wr4 at *;have HX:=HX2;have HF:=HF2;clear HX2 HF2;obtain ⟨hcw,hfw⟩:=zb HF;have d1:=hcw a (by omega);have g1:=hfw a (by omega);have d2:=hcw j2 (by omega);have g2:=hfw j2 (by omega);clear hcw hfw;rcases YF a j2 with hq |hq
          ·go_region;go_wp2_with fail;go_ret2;rw [zb HE2];exact ⟨rfl,(by rw [<-yg (zb HG)];first |exact (zb HX).two rfl rfl |exact (((zb HX).set j2 _).set a _).drew)⟩
          ·obtain rfl:a=j2:=(by omega);go_region;go_wp2_with fail;go_ret2;rw [zb HE2];exact ⟨rfl,(by rw [<-yg (zb HG)];first |exact (zb HX).two rfl rfl |exact (((zb HX).set a _).set a _).drew |exact (((zb HX).set a _).set a _).drewN _)⟩
    ·skip
     have hgt:(j2:Int)<(i2:Int):=(by omega);have hgd:decide ((i2:Int)<=(j2:Int))=false:=(by simp;omega);have HE2:Hid (tgt=(j2,true,Sort.swp dc j2 a)):=(by show _=_;rw [zb HE,jO (by omega)];unfold fsR;rw [if_pos (by omega)]);clear HE;obtain ⟨hcw,hfw⟩:=zb HF;go_wp2_with fail;go_big_quiet (first |(go_at_call 205;refine Calls.quiet_of_same (zz _ _ _)));go_wp2_with fail;have HX2:=zc ((zb HX).drewN nq);have HF2:Hid (Fam (wr.drewN nq) blk off N G):=zb HF;clear hcw hfw HX HF;generalize wr.drewN nq=wr4 at *;have HX:=HX2;have HF:=HF2;clear HX2 HF2;obtain ⟨hcw,hfw⟩:=zb HF;have d1:=hcw a (by omega);have g1:=hfw a (by omega);have d2:=hcw j2 (by omega);have g2:=hfw j2 (by omega);clear hcw hfw;rcases YF a j2 with hq |hq
     ·go_region;go_wp2_with fail;go_ret2;rw [zb HE2];exact ⟨rfl,(by rw [<-yg (zb HG)];first |exact (zb HX).two rfl rfl |exact (((zb HX).set j2 _).set a _).drew)⟩
     ·obtain rfl:a=j2:=(by omega);go_region;go_wp2_with fail;go_ret2;rw [zb HE2];exact ⟨rfl,(by rw [<-yg (zb HG)];first |exact (zb HX).two rfl rfl |exact (((zb HX).set a _).set a _).drew |exact (((zb HX).set a _).set a _).drewN _)⟩
theorem Ex.aside {a b:World}{blk off k0:Nat}{d:Array Int}(h:Ex a blk off d b)(hk:a.heap.size<=k0)(hb:blk≠k0)(u:Value):Ex a blk off d (b.setCell ⟨k0,0,none⟩ u):=
 ⟨h.1.setCell (p:=⟨k0,0,none⟩) (.inr hk) u,fun t ht=>⟨(zF _ _ _ _ (by simp)).trans (h.2 t ht).1,(zk _ _ _ _).trans (h.2 t ht).2⟩⟩
open Go.Shelf Go.Lib Go.Sort in
theorem nextE (rb:Nat)(r:UInt64)(w:World)(hc:w.cell? ⟨rb,0,none⟩=some (.int .u64 (r.toNat:Nat)))(hf:w.frozen? ⟨rb,0,none⟩=false) :
  Calls prog 231 #[.pointer (some ⟨rb,0,none⟩)] w fun e w'=>e = .returned (.int .u64 ((Sort.xorNext r).toNat:Nat))/\w'=(w.setCell ⟨rb,0,none⟩ (.int .u64 ((Sort.xorNext r).toNat:Nat))).drewN 3:=by
 rw [Sort.xorNext_toNat];exact AnyF.xorshift_Next { wK with } rb 0 r.toNat r.toNat_lt w hc hf
theorem breakE (w:World)(h:Sort.Holds (Value.int .i32) w blk off d)(hblk:blk<w.heap.size)(hab:a+12<b)(hb:b<=d.size)(hn:d.size<1099511627776) :
  Calls prog 201 #[.slice (some ⟨blk,off,none⟩) d.size cap,.int .i64 a,.int .i64 b] w fun e w'=>e = .returned (.tuple #[])/\Ex w blk off (Sort.breakPatterns d a b) w':=by
 obtain ⟨L,rfl⟩:∃ L,b=a+L:=⟨b-a,by omega⟩
 have HT:=zc (breakPatterns_eq d a L (by omega));generalize Sort.breakPatterns d a (a+L)=tgt at *;have HH:=zc (Ex.refl h);clear h;generalize hN:d.size=N at *;obtain ⟨q,hq⟩:∃ q,q=L / 4:=⟨_,rfl⟩
 have hq4':(L:Int) / 4=q:=by rw [hq];rfl
 have hqL:4*q<=L/\L<4*q+4:=by omega
 have e0:(a:Int)+L-a=L:=by omega
 have eL:IntKind.u64.wrap (L:Int)=L:=by simp [IntKind.wrap,IntKind.bits,IntKind.signed];omega
 have hM:=pow_le L (by omega);obtain ⟨M,hMe⟩:∃ M,M=1 <<< Sort.bitsLen L:=⟨_,rfl⟩
 have hM1:1<=M:=by rw [hMe,Nat.one_shiftLeft];exact Nat.one_le_two_pow
 have HN:=zc (npowR L (by omega));rw [<-hMe] at hM HN HT;rw [<-hq] at HT;have eX:(UInt64.ofNat L).toNat=L:=by simp;omega
 have HC9:Hid (d.size=N):=hN;clear hMe hq hN;go_enter func201,ntmps201;go_wp2_with (go_at_call 230;refine (zb HN _).mono ?_;rintro e w' ⟨rfl,rfl⟩);have HS0:Hid (Ex w blk off d (w.alloc (.cells #[.int .u64 (L:Int)] 375))):=⟨(ze.refl _ _).alloc _,fun t ht=>⟨(((ze.refl (fun _=>False) _).alloc _).cell (p:=⟨blk,off+t,none⟩) hblk (fun f=>f)).trans ((zb HH).2 t ht).1,(((ze.refl (fun _=>False) _).alloc _).frozen (p:=⟨blk,off+t,none⟩) hblk (fun f=>f)).trans ((zb HH).2 t ht).2⟩⟩
 have HC0:Hid (vQ (w.alloc (.cells #[.int .u64 (L:Int)] 375)) w.heap.size (UInt64.ofNat L).toNat):=by rw [eX];exact ⟨zm w _ rfl _ _ 0 _ rfl,zG w _ rfl _ _ 0⟩
 have eM:IntKind.u64.wrap ((M:Int)-1)=(M:Int)-1:=by simp [IntKind.wrap,IntKind.bits,IntKind.signed];omega
 go_loopw [9] (fun vi wr=>∃ (t s:Nat) (r:UInt64) (dc:Array Int),vi = .int .i64 t/\Hid (t=a+q*2-1+s)/\a+q*2<=t+1/\t<=a+q*2+2/\s<=3/\Hid (dc.size=N)/\Hid (Ex w blk off dc wr)/\Hid (vQ wr w.heap.size r.toNat)/\Hid (tgt=bpRest a L M (a+q*2-1) (3-s) s (r,dc))) (fun vi _=>a+q*2+2-(intOf vi).toNat)
 case atStart=>exact ⟨a+q*2-1,0,_,d,by congr 1;omega,rfl,by omega,by omega,by omega,HC9,HS0,HC0,HT⟩
 case round=>
  clear HS0 HC0 HT HH HC9;obtain ⟨t,s,r,dc,rfl,HTS,ht0,ht1,hs3,HZ,HS,HC,HE⟩:=hrel;by_cases hs:s<3
  ·have hle:(t:Int)<=a+q*2+1:=(by have:=zb HTS;omega);have HB:=zc (fun o=>bp_step (α:=Int) a L M (a+q*2-1) s r dc o hs);rw [<-zb HTS] at HB;obtain ⟨c0,f0⟩:=zb HC;go_wp2_with (go_at_call 231;refine (nextE _ r _ c0 f0).mono ?_;rintro e w1 ⟨rfl,hw1⟩;have HS1:Hid (Ex w blk off dc w1):=(by rw [hw1];exact ((zb HS).aside (z8 _) (by omega) _).drewN _);have HC1:Hid (vQ w1 w.heap.size (Sort.xorNext r).toNat):=(by rw [hw1];exact ⟨yY _ _ _ c0,(zk _ _ _ _).trans f0⟩);have hY:(Sort.xorNext r).toNat<18446744073709551616:=(Sort.xorNext r).toNat_lt;generalize hr2:Sort.xorNext r=r2 at *;generalize hYe:r2.toNat=Y at *;have hand:bits .and .u64 (Y:Int) ((M:Int)-1)=((Y &&& (M-1):Nat):Int):=(by rw [show (M:Int)-1=((M-1:Nat):Int) by omega];exact bits_and_u64_nat _ _ hY (by omega));have ho:Y &&& (M-1)<=M-1:=Nat.and_le_right;generalize hoe:Y &&& (M-1)=o at *;have ho2:IntKind.i64.wrap (o:Int)=o:=(by simp [IntKind.wrap,IntKind.bits,IntKind.signed];omega);clear hw1 hoe)
   ·rename_i hLo;obtain ⟨o',ho'⟩:∃ o',o'=o-L:=⟨_,rfl⟩
    have e9:(o:Int)-L=(o':Nat):=(by omega);simp only [e9];have hoL:o'<L:=(by omega);obtain ⟨G,HG,hcw,hfw⟩:=(zb HS1).fam (zb HZ);have HE2:Hid (tgt=bpRest a L M (a+q*2-1) (3-(s+1)) (s+1) (r2,(dc.setIfInBounds t (G (a+o'))).setIfInBounds (a+o') (G t))):=(by show _=_;rw [zb HE,yg (zb HG)];exact zb HB o' (by rw [if_pos (by omega)];omega));have HZ2:Hid (((dc.setIfInBounds t (G (a+o'))).setIfInBounds (a+o') (G t)).size=N):=(by show _=_;simp;exact zb HZ);rw [<-hYe] at HC1;clear e9 ho' hand ho2 HB HE HG hYe hr2;have d1:=hcw t (by omega);have g1:=hfw t (by omega);have d2:=hcw (a+o') (by omega);have g2:=hfw (a+o') (by omega);by_cases hto:t=a+o'
    ·subst hto;go_region;go_wp2_with fail;go_roundw
     case rel=>exact ⟨a+o'+1,s+1,r2,_,by go_num,(by show _=_;have:=zb HTS;omega),by omega,by omega,by omega,HZ2,(by first |exact (zb HS1).two rfl rfl |exact (((zb HS1).set (a+o') _).set (a+o') _).drew),(by first |exact vQ.two (zb HC1) (by omega) |exact vQ.two' (zb HC1) (by omega)),HE2⟩
     case measure=>simp [intOf];omega
    ·go_region;go_wp2_with fail;go_roundw
     case rel=>exact ⟨t+1,s+1,r2,_,by go_num,(by show _=_;have:=zb HTS;omega),by omega,by omega,by omega,HZ2,(by first |exact (zb HS1).two rfl rfl |exact (((zb HS1).set t _).set (a+o') _).drew),(by first |exact vQ.two (zb HC1) (by omega) |exact vQ.two' (zb HC1) (by omega)),HE2⟩
     case measure=>simp [intOf];omega
   ·have hoL:o<L:=(by omega);obtain ⟨G,HG,hcw,hfw⟩:=(zb HS1).fam (zb HZ);have HE2:Hid (tgt=bpRest a L M (a+q*2-1) (3-(s+1)) (s+1) (r2,(dc.setIfInBounds t (G (a+o))).setIfInBounds (a+o) (G t))):=(by show _=_;rw [zb HE,yg (zb HG)];exact zb HB o (by rw [if_neg (by omega)]));have HZ2:Hid (((dc.setIfInBounds t (G (a+o))).setIfInBounds (a+o) (G t)).size=N):=(by show _=_;simp;exact zb HZ);rw [<-hYe] at HC1;clear hand ho2 HB HE HG hYe hr2;have d1:=hcw t (by omega);have g1:=hfw t (by omega);have d2:=hcw (a+o) (by omega);have g2:=hfw (a+o) (by omega);by_cases hto:t=a+o
    ·subst hto;go_region;go_wp2_with fail;go_roundw
     case rel=>exact ⟨a+o+1,s+1,r2,_,by go_num,(by show _=_;have:=zb HTS;omega),by omega,by omega,by omega,HZ2,(by first |exact (zb HS1).two rfl rfl |exact (((zb HS1).set (a+o) _).set (a+o) _).drew),(by first |exact vQ.two (zb HC1) (by omega) |exact vQ.two' (zb HC1) (by omega)),HE2⟩
     case measure=>simp [intOf];omega
    ·go_region;go_wp2_with fail;go_roundw
     case rel=>exact ⟨t+1,s+1,r2,_,by go_num,(by show _=_;have:=zb HTS;omega),by omega,by omega,by omega,HZ2,(by first |exact (zb HS1).two rfl rfl |exact (((zb HS1).set t _).set (a+o) _).drew),(by first |exact vQ.two (zb HC1) (by omega) |exact vQ.two' (zb HC1) (by omega)),HE2⟩
     case measure=>simp [intOf];omega
  ·have hld:decide ((t:Int)<=a+q*2+1)=false:=(by have:=zb HTS;simp;omega);obtain rfl:s=3:=(by omega);go_wp2_with fail
   go_end0
   refine ⟨rfl,?_⟩;rw [zb HE];exact zb HS
end
section
open Go.RowKit Go.Sort
set_option maxHeartbeats 16000000
set_option maxRecDepth 1000000
theorem zcO {h:Hint}(e:vN h=2):h = .decreasing:=by cases h<;>simp [vN] at e ⊢
theorem Ex.same {a b c:World}{blk off:Nat}{d:Array Int}(h:Ex a blk off d b)(hb:blk<b.heap.size)(k:Q8 b c):Ex a blk off d c:=
 ⟨h.1.trans (k.mono (fun _ _ f=>f.elim)),fun t ht=>⟨(k.cell (p:=⟨blk,off+t,none⟩) hb (fun f=>f)).trans (h.2 t ht).1,(k.frozen (p:=⟨blk,off+t,none⟩) hb (fun f=>f)).trans (h.2 t ht).2⟩⟩
theorem za6 {x y p q:Nat}(h1:q<=p)(h2:y<=x):decide (((x:Int)-(y:Int)) / 8<=(p:Int)-(q:Int))=decide (p-q≥(x-y) / 8):=
 decide_eq_decide.2 ⟨fun h=>by omega,fun h=>by omega⟩
theorem pdqE (hn:n<1099511627776):∀ (N a b limit:Nat) (d:Array Int) (w:World),b-a<N->d.size=n->Holds (Value.int .i32) w blk off d->blk<w.heap.size->a<=b->b<=n->limit<1000->Below ltInt a b d->
  Calls prog 168 #[.slice (some ⟨blk,off,none⟩) n cap,.int .i64 a,.int .i64 b,.int .i64 limit] w fun e w'=>e = .returned (.tuple #[])/\Ex w blk off (pdq ltInt d a b limit true true) w':=by
 intro N
 induction N with
 |zero=>intro _ _ _ _ _ h;exact absurd h (Nat.not_lt_zero _)
 |succ N ih=>
  intro a0 b0 limit d w hN hd0 hH hblk hab0 hb0 hlimit hBel0;have IH:=zc ih;clear ih;obtain ⟨tgt,ht⟩:∃ tgt,pdq ltInt d a0 b0 limit true true=tgt:=⟨_,rfl⟩
  rw [ht];have HS0:Hid (d.size=n/\Below ltInt a0 b0 d/\Ex w blk off d w/\pdq ltInt d a0 b0 limit true true=tgt):=⟨hd0,hBel0,Ex.refl hH,ht⟩
  clear hd0 hBel0 hH ht;go_enter func168,ntmps168;go_wp2_with fail;go_loopw [1,2,3,8,9] (fun va vb vl v8 v9 wr=>∃ (a b lim:Nat) (wb wp:Bool) (dk:Array Int),va = .int .i64 a/\vb = .int .i64 b/\vl = .int .i64 lim/\v8 = .bool wb/\v9 = .bool wp/\a0<=a/\a<=b/\b<=b0/\lim<1000/\Hid (dk.size=n/\Below ltInt a b dk/\Ex w blk off dk wr/\pdq ltInt dk a b lim wb wp=tgt)) (fun va vb _ _ _ _=>(intOf vb-intOf va).toNat)
  case atStart=>exact ⟨a0,b0,limit,true,true,d,rfl,rfl,rfl,rfl,rfl,z8 _,hab0,z8 _,hlimit,HS0⟩
  case round=>
   clear HS0;obtain ⟨a,b,lim,wb,wp,dk,rfl,rfl,rfl,rfl,rfl,ha0,hab,hbb,hm1,HR⟩:=hrel;have hb:b<=n:=(by omega);obtain ⟨hds,hBel,hX,heq⟩:=zb HR;have hbd:b<=dk.size:=(by omega);have hnd:dk.size<1099511627776:=(by omega);have HX:=zc hX;have A:=zc heq;have HBel:=zc hBel;have HDS:=zc hds;clear HR hX heq hBel;by_cases h12:b-a<=12
   ·have h12z:(b:Int)-a<=12:=(by omega);have hc:=insertE blk off cap a b dk wr (zb HX).2 hab hbd hnd;rw [hds] at hc;have HC:=zc hc;clear hc hds hbd hnd;go_wp2_with (go_at_call 199;refine (zb HC).mono ?_;rintro e w1 ⟨rfl,hS1⟩;have HS:=zc ((zb HX).trans hS1);clear hS1)
    (try simp only [Exit.inBlock,Exit.then]);refine bodyPost_ret (results_none rfl _ _ _) rfl ?_
    refine ⟨rfl,?_⟩;rw [<-zb A,pdq_small h12];exact zb HS
   ·have h12z:¬(b:Int)-a<=12:=(by omega);have h12d:decide ((b:Int)-a<=12)=false:=(by simp;omega);by_cases hl:lim=0
    ·subst hl;have hc:=heapE blk off cap a b dk wr (zb HX).2 (by omega) hbd hnd;rw [hds] at hc;have HC:=zc hc;clear hc hds hbd hnd;go_wp2_with (go_at_call 200;refine (zb HC).mono ?_;rintro e w1 ⟨rfl,hS1⟩;have HS:=zc ((zb HX).trans hS1);clear hS1)
     (try simp only [Exit.inBlock,Exit.then]);refine bodyPost_ret (results_none rfl _ _ _) rfl ?_
     refine ⟨rfl,?_⟩;rw [<-zb A,pdq_heap h12 rfl];exact zb HS
    ·have hl2:((lim:Int) == 0)=false:=(by simp;omega);have HF:=zc (rd_facts (limit:=lim) (wb:=wb) (wp:=wp) swo_ltInt partialInsertionSort_holds reverseRange_holds (show a<b by omega) hbd (zb HBel));clear hds hbd hnd;have hll:=rd_lim_le (lt:=ltInt) (d:=dk) (a:=a) (b:=b) (limit:=lim) (wb:=wb) (wp:=wp);have HB0:=zc (fun w9 (h9:Ex w blk off dk w9)=>breakE blk off cap a b dk w9 h9.2 (yh hblk h9.1.size) (by omega) (by rw [zb HDS];omega) (by rw [zb HDS];omega));rw [zb HDS] at HB0;go_upto_if 35 with fail;go_cut [3] from 19 to 133 (fun s3 wx=>s3 = .int .i64 (rd ltInt dk a b lim wb wp).lim/\Hid (Ex w blk off (rd ltInt dk a b lim wb wp).d1 wx))
     case first=>
      cases wb
      ·go_wp2_with (go_at_call 201;refine (zb HB0 _ (zb HX)).mono ?_;rintro e w1 ⟨rfl,hS1⟩;have HS:=zc ((zb HX).trans hS1);clear hS1);go_meet;refine ⟨?_,zb HS⟩;show Value.int .i64 ((lim:Int)-1)=Value.int .i64 ((lim-1:Nat):Int);congr 1;omega
      ·go_wp2_with fail;go_meet;exact ⟨rfl,zb HX⟩
     case rest=>
      clear HX HB0;obtain ⟨rfl,HX⟩:=hcut;obtain ⟨s1,B1,hc1,s2,B2,hpv,s3,B3⟩:=zb HF;have HS1:=zc (s1.trans (zb HDS));have HS2:=zc (s2.trans (zb HDS));have HS3:=zc (s3.trans (zb HDS));have HB3:=zc B3;clear HF s1 B1 s2 B2 s3 B3;have HC1:=zc (pivotE blk off cap a b (rd ltInt dk a b lim wb wp).d1 wc (zb HX).2 (yh hblk (zb HX).1.size) (by omega) (by rw [zb HS1];omega) (by rw [zb HS1];omega));rw [zb HS1] at HC1;have HC1':Hid (Calls prog 202 #[.slice (some ⟨blk,off,none⟩) n cap,.int .i64 a,.int .i64 b] wc fun e w'=>e = .returned (.tuple #[.int .i64 ((rd ltInt dk a b lim wb wp).c.1:Nat),.int .i64 (vN (rd ltInt dk a b lim wb wp).c.2)])/\Q8 wc w'):=zb HC1;clear HC1;go_upto_if 50 with (go_at_call 202;refine (zb HC1').mono ?_;rintro e w2 ⟨rfl,hw2⟩);have HX2:=zc ((zb HX).same (yh hblk (zb HX).1.size) hw2);clear HX HC1' hw2;have HX:=HX2;clear HX2;go_cut [11,12] from 19 to 133 (fun s11 s12 wx=>s11 = .int .i64 (rd ltInt dk a b lim wb wp).pivot/\s12 = .int .i64 (vN (rd ltInt dk a b lim wb wp).hint)/\Hid (Ex w blk off (rd ltInt dk a b lim wb wp).d2 wx))
      case first=>
       by_cases hh:(rd ltInt dk a b lim wb wp).c.2 = .decreasing
       ·have hcode:vN (rd ltInt dk a b lim wb wp).c.2=2:=(by rw [hh];rfl);have HD:=zc (rd_dec hh);clear hh;have HC2:=zc (reverseE blk off cap a b (rd ltInt dk a b lim wb wp).d1 w2 (zb HX).2 (by omega) (by rw [zb HS1];omega) (by rw [zb HS1];omega));rw [zb HS1] at HC2;go_wp2_with (go_at_call 203;refine (zb HC2).mono ?_;rintro e w3 ⟨rfl,hS1⟩;have HS:=zc ((zb HX).trans hS1);clear hS1);go_meet;obtain ⟨e2,epv,eht⟩:=zb HD;refine ⟨?_,by rw [eht];rfl,by show Ex _ _ _ _ _;rw [e2];exact zb HS⟩;rw [epv];congr 1;omega
       ·have hcode:¬(vN (rd ltInt dk a b lim wb wp).c.2=2):=fun h=>hh (zcO h);have HD:=zc (rd_not hh);clear hh;go_wp2_with fail;go_meet;obtain ⟨e2,epv,eht⟩:=zb HD;exact ⟨by rw [epv],by rw [eht],by show Ex _ _ _ _ _;rw [e2];exact zb HX⟩
      case rest=>
       clear HX;obtain ⟨rfl,rfl,HX⟩:=hcut;go_upto_region 15 with fail;go_cut [12,68] from 19 to 133 (fun s12 s68 wx=>s12 = .int .i64 (vN (rd ltInt dk a b lim wb wp).hint)/\s68 = .bool (wb && wp && decide ((rd ltInt dk a b lim wb wp).hint = .increasing))/\Hid (Ex w blk off (rd ltInt dk a b lim wb wp).d2 wx))
       case first=>
        cases wb<;>cases wp<;>cases hh3:(rd ltInt dk a b lim _ _).hint <;>
         (have hcode3:=congrArg vN hh3
          simp only [vN] at hcode3;go_wp2_with fail;go_meet;exact ⟨by simp [hh3,vN],by simp [hh3,vN],zb HX⟩)
       case rest=>
        clear HX;obtain ⟨rfl,rfl,HX⟩:=hcut;go_upto_if 68 with fail;go_cut [72] from 19 to 133 (fun s72 wx=>(rd ltInt dk a b lim wb wp).pi.2=false/\Hid (Ex w blk off (rd ltInt dk a b lim wb wp).pi.1 wx))
        case first=>
         cases h68:(wb && wp && decide ((rd ltInt dk a b lim wb wp).hint = .increasing))
         ·have HPI:=zc (rd_pi_no h68);go_wp2_with fail;go_meet;exact ⟨by rw [zb HPI],by show Ex _ _ _ _ _;rw [zb HPI];exact zb HX⟩
         ·have epi:=rd_pi_yes h68;have HC3:=zc (partialE blk off cap a b (rd ltInt dk a b lim wb wp).d2 _ (zb HX).2 (by omega) (by rw [zb HS2];omega) (by rw [zb HS2];omega));rw [zb HS2,<-epi] at HC3;have HPI:=zc epi;clear epi;go_wp2_with (go_at_call 204;refine (zb HC3).mono ?_;rintro e w4 ⟨rfl,hS1⟩;have HS:=zc ((zb HX).trans hS1);clear hS1)
          all_goals first
           |(have hp2:(rd ltInt dk a b lim wb wp).pi.2=false:=by first |assumption |(rw [zb HPI];assumption)
             go_meet;exact ⟨hp2,zb HS⟩)
           |(have hp2:(rd ltInt dk a b lim wb wp).pi.2=true:=by first |assumption |(rw [zb HPI];assumption)
             (try simp only [Exit.inBlock,Exit.then]);refine bodyPost_ret (results_none rfl _ _ _) rfl ?_
             refine ⟨rfl,?_⟩;rw [<-zb A,pdq_done h12 hl hp2];exact zb HS)
        case rest=>
         clear HX;obtain ⟨hp2,HX⟩:=hcut;have HP2:=zc hp2;clear hp2;obtain ⟨G,HG,hcw,hfw⟩:=(zb HX).fam (zb HS3);go_upto_region 17 with fail;go_cut [87] from 19 to 133 (fun s87 wx=>s87 = .bool (decide (a > 0) && !ltInt (rd ltInt dk a b lim wb wp).pi.1[a-1]! (rd ltInt dk a b lim wb wp).pi.1[(rd ltInt dk a b lim wb wp).pivot]!)/\Hid (Ex w blk off (rd ltInt dk a b lim wb wp).pi.1 wx))
         case first=>
          rcases Nat.eq_zero_or_pos a with ha |ha
          ·have hgz:decide ((0:Int)<(a:Int))=false:=(by simp;omega);go_wp2_with fail;go_big_quiet (first |(go_at_call 205;refine Calls.quiet_of_same (zz _ _ _)));go_wp2_with fail;go_meet;exact ⟨by simp [ha],(zb HX).drewN _⟩
          ·have hgz:(0:Int)<(a:Int):=(by omega);go_wp2_with fail;go_big_quiet (first |(go_at_call 205;refine Calls.quiet_of_same (zz _ _ _)));go_wp2_with fail;go_meet;exact ⟨by rw [<-zb HG,<-zb HG];simp [ha],(zb HX).drewN _⟩
         case rest=>
          clear HX hcw hfw HG;obtain ⟨rfl,HX⟩:=hcut;cases h87:(decide (a > 0) && !ltInt (rd ltInt dk a b lim wb wp).pi.1[a-1]! (rd ltInt dk a b lim wb wp).pi.1[(rd ltInt dk a b lim wb wp).pivot]!)
          ·obtain ⟨mid,ap,d4,hx⟩:∃ mid ap d4,partition ltInt (rd ltInt dk a b lim wb wp).pi.1 a b (rd ltInt dk a b lim wb wp).pivot=(mid,ap,d4):=⟨(partition ltInt (rd ltInt dk a b lim wb wp).pi.1 a b (rd ltInt dk a b lim wb wp).pivot).1,(partition ltInt (rd ltInt dk a b lim wb wp).pi.1 a b (rd ltInt dk a b lim wb wp).pivot).2.1,(partition ltInt (rd ltInt dk a b lim wb wp).pi.1 a b (rd ltInt dk a b lim wb wp).pivot).2.2,rfl⟩
           obtain ⟨r1,r2,r3,r4,r5,r6,r7⟩:=round_part swo_ltInt (partition_holds _) hpv.1 hpv.2 (show b<=(rd ltInt dk a b lim wb wp).pi.1.size by rw [zb HS3];omega) (zb HB3) hx;have HC4:=zc (partE blk off cap a b (rd ltInt dk a b lim wb wp).pivot (rd ltInt dk a b lim wb wp).pi.1 _ (zb HX).2 hpv.1 hpv.2 (by rw [zb HS3];omega) (by rw [zb HS3];omega));rw [zb HS3,hx] at HC4;have H87:=zc h87;have HQ:=zc hx;have HR3:=zc (r3.trans (zb HS3));have HR4:=zc r4;have HR5:=zc r5;have HR6:=zc r6;have HR7:=zc r7;clear hx h87 r3 r4 r5 r6 r7;go_upto_if 113 with (go_at_call 207;refine (zb HC4).mono ?_;rintro e w7 ⟨rfl,hS1⟩;have HS:=zc ((zb HX).trans hS1);clear hS1);clear HX HC4;have hsz9:=(zb HS).1.size;by_cases h4:mid-a<b-mid
           ·have h4z:(mid:Int)-(a:Int)<(b:Int)-(mid:Int):=(by omega);have HI:=zc (zb IH a mid (rd ltInt dk a b lim wb wp).lim d4 w7 (by omega) (zb HR3) (zb HS).2 (by omega) (by omega) (by omega) (by omega) (zb HR4));obtain ⟨pL,sL⟩:=pdq_sorts ltInt swo_ltInt d4 a mid (rd ltInt dk a b lim wb wp).lim true true (by omega) (by rw [zb HR3];omega) (zb HR4);have HP:=zc pL;have HQ6:=zc (zb HR6 _ pL sL).1;clear pL sL;go_wp2_with (go_at_call 168;refine (zb HI).mono ?_;rintro e w8 ⟨rfl,hS1⟩;have HT:=zc ((zb HS).trans hS1);clear hS1);go_roundw
            case rel=>
             refine ⟨mid+1,b,(rd ltInt dk a b lim wb wp).lim,decide (mid-a≥(b-a) / 8),ap,pdq ltInt d4 a mid (rd ltInt dk a b lim wb wp).lim true true,by go_num,rfl,rfl,?_,rfl,by omega,by omega,by omega,by omega,(zb HP).1.trans (zb HR3),zb HQ6,zb HT,?_⟩
             ·exact congrArg Value.bool (za6 (by omega) (by omega))
             ·rw [<-zb A,pdq_left h12 hl (zb HP2) (zb H87) (by rw [zb HQ];exact ⟨r1,r2⟩) (by rw [zb HQ];exact h4),zb HQ]
            case measure=>simp [intOf];omega
           ·have h4z:¬((mid:Int)-(a:Int)<(b:Int)-(mid:Int)):=(by omega);have hi:=zb IH (mid+1) b (rd ltInt dk a b lim wb wp).lim d4 w7 (by omega) (zb HR3) (zb HS).2 (by omega) (by omega) (by omega) (by omega) (zb HR5);rw [show ((mid+1:Nat):Int)=(mid:Int)+1 by omega] at hi;have HI:=zc hi;clear hi;obtain ⟨pL,sL⟩:=pdq_sorts ltInt swo_ltInt d4 (mid+1) b (rd ltInt dk a b lim wb wp).lim true true (by omega) (by rw [zb HR3];omega) (zb HR5);have HP:=zc pL;have HQ7:=zc (zb HR7 _ pL sL).1;clear pL sL;go_wp2_with (go_at_call 168;refine (zb HI).mono ?_;rintro e w8 ⟨rfl,hS1⟩;have HT:=zc ((zb HS).trans hS1);clear hS1);go_roundw
            case rel=>
             refine ⟨a,mid,(rd ltInt dk a b lim wb wp).lim,decide (b-mid≥(b-a) / 8),ap,pdq ltInt d4 (mid+1) b (rd ltInt dk a b lim wb wp).lim true true,rfl,rfl,rfl,?_,rfl,by omega,by omega,by omega,by omega,(zb HP).1.trans (zb HR3),zb HQ7,zb HT,?_⟩
             ·exact congrArg Value.bool (za6 (by omega) (by omega))
             ·rw [<-zb A,pdq_right h12 hl (zb HP2) (zb H87) (by rw [zb HQ];exact ⟨r1,r2⟩) (by rw [zb HQ];exact h4),zb HQ]
            case measure=>simp [intOf];omega
          ·have h87':=h87;simp only [kt,decide_eq_true_eq,Bool.not_eq_true'] at h87';obtain ⟨mid,d4,hx⟩:∃ mid d4,partitionEqual ltInt (rd ltInt dk a b lim wb wp).pi.1 a b (rd ltInt dk a b lim wb wp).pivot=(mid,d4):=⟨(partitionEqual ltInt (rd ltInt dk a b lim wb wp).pi.1 a b (rd ltInt dk a b lim wb wp).pivot).1,(partitionEqual ltInt (rd ltInt dk a b lim wb wp).pi.1 a b (rd ltInt dk a b lim wb wp).pivot).2,rfl⟩
           obtain ⟨r1,r2,r3,r4,_⟩:=round_eq swo_ltInt (partitionEqual_holds _) h87'.1 hpv.1 hpv.2 (show b<=(rd ltInt dk a b lim wb wp).pi.1.size by rw [zb HS3];omega) (zb HB3) h87'.2 hx;have HC4:=zc (partEqE blk off cap a b (rd ltInt dk a b lim wb wp).pivot (rd ltInt dk a b lim wb wp).pi.1 _ (zb HX).2 hpv.1 hpv.2 (by rw [zb HS3];omega) (by rw [zb HS3];omega));rw [zb HS3,hx] at HC4;have H87:=zc h87;have HQ:=zc hx;have HR3:=zc (r3.trans (zb HS3));have HR4:=zc r4;clear hx h87 h87' r3 r4;go_wp2_with (go_at_call 206;refine (zb HC4).mono ?_;rintro e w7 ⟨rfl,hS1⟩;have HS:=zc ((zb HX).trans hS1);clear hS1);go_roundw
           case rel=>exact ⟨mid,b,(rd ltInt dk a b lim wb wp).lim,wb,wp,d4,rfl,rfl,rfl,rfl,rfl,by omega,by omega,by omega,by omega,zb HR3,zb HR4,zb HS,by rw [<-zb A,pdq_eq h12 hl (zb HP2) (zb H87) (by rw [zb HQ];exact ⟨r1,r2⟩),zb HQ]⟩
           case measure=>simp [intOf];omega
theorem sortE (w:World)(h:Holds (Value.int .i32) w blk 0 d)(hblk:blk<w.heap.size)(hn:d.size<1099511627776) :
  Calls prog 124 #[.slice (some ⟨blk,0,none⟩) d.size cap] w fun e w'=>e = .returned (.tuple #[])/\Ex w blk 0 (sort ltInt d) w':=by
 have hlim:Lib.bitLen d.size<=62:=Lib.bitLen_le d.size 62 (by omega) (by omega);have he:Lib.bitLen d.size=bitsLen d.size:=bitLen_eq _ (by omega);have HP:=zc (pdqE blk 0 d.size cap hn (d.size+1) 0 d.size (Lib.bitLen d.size) d w (by omega) rfl h hblk (by omega) (by omega) (by omega) (Or.inl rfl));have HT:Hid (pdq ltInt d 0 d.size (Lib.bitLen d.size) true true=sort ltInt d):=by show _=_;rw [he];rfl
 have HL:=zc (VV d.size (by omega));have wr:IntKind.u64.wrap (d.size:Int)=d.size:=by simp [IntKind.wrap,IntKind.bits,IntKind.signed];omega
 clear h he;generalize d.size=n at *;go_enter func124,ntmps124;go_wp2_with (first |(go_at_call 169;refine (zb HL _).mono ?_;rintro e w' ⟨rfl,rfl⟩) |(go_at_call 168;refine (zb HP).mono ?_;rintro e w1 ⟨rfl,hS⟩;have HS:=zc hS;clear hS))
 go_end0
 refine ⟨rfl,?_⟩;rw [<-zb HT];exact zb HS
theorem JC:(sort ltInt d).toList.Pairwise (fun x y=>x<=y)/\(sort ltInt d).toList.Perm d.toList:=by
 have h:(sort ltInt d).toList=d.toList.mergeSort (fun x y=>decide (x<=y)):=by have:=sortInt d.toList;rwa [Array.toArray_toList] at this
 rw [h];refine ⟨?_,List.mergeSort_perm _ _⟩;have h2:=List.pairwise_mergeSort (le:=fun x y:Int=>decide (x<=y)) (by intro a b c;simp;omega) (by intro a b;simp;omega) d.toList;exact h2.imp (by intro a b h;simpa using h)
end
section
open Go.RowKit Go.Shelf Go.Lib Go.Sort
theorem ZJ:(compactUpTo d d.size).length<=d.size:=by
 unfold compactUpTo;rw [List.length_map];exact yZ (List.length_filter_le _ _) (by simp)
theorem compactE (w:World)(h:Holds (Value.int .i32) w blk 0 d)(hn:d.size<1099511627776)(hc:d.size<=cap) :
  Calls prog 125 #[.slice (some ⟨blk,0,none⟩) d.size cap] w fun e w'=>e = .returned (.slice (some ⟨blk,0,none⟩) (compactUpTo d d.size).length cap)/\Ex w blk 0 (compactUpTo d d.size++List.replicate (d.size-(compactUpTo d d.size).length) 0).toArray w':=by
 refine (AnyE.slices_Compact Vw (Value.int .i32) (fun _=>rfl) (EqlAt.intD _ _ _) (NeqAt.intD _ _ _) 0 (fun w=>by kernel_rfl) blk 0 cap d w h (by omega) hc).mono ?_;rintro e w' ⟨rfl,q,rfl⟩;exact ⟨rfl,Vx,holds_putRow _ _ blk 0 d _ (holds_ahead _ w q blk 0 d h) (by have:=ZJ d;simp;omega)⟩
theorem zcP {d:Array Int}(h:d.toList.Pairwise (fun x y=>x<=y)):∀ i j,i<=j->j<d.size->d[i]!<=d[j]!:=by
 intro i j hij hj;rcases YF i j with hlt |hge
 ·have:=Zs.1 h i j (by simp;omega) (by simpa using hj) hlt;rw [getElem!_pos d i (by omega),getElem!_pos d j hj];simpa using this
 ·obtain rfl:i=j:=by omega
  exact YD _
theorem KE {d:Array Int}(h:∀ i j,i<=j->j<d.size->d[i]!<=d[j]!):∀ m,m<=d.size->(compactUpTo d m).Pairwise (fun x y=>x<y)/\(∀ x∈compactUpTo d m,∃ j,j<m/\d[j]! = x)/\∀ j,j<m->d[j]!∈compactUpTo d m:=by
 intro m
 induction m with
 |zero=>intro _;exact ⟨by simp [compactUpTo],by simp [compactUpTo],fun j hj=>by omega⟩
 |succ m ih=>
  intro hm;obtain ⟨i1,i2,i3⟩:=ih (by omega);rw [compactUpTo_succ];by_cases hk:keeps d m=true
  ·rw [if_pos hk];refine ⟨YJ.2 ⟨i1,by simp,fun x hx y hy=>?_⟩,fun x hx=>?_,fun j hj=>?_⟩
   ·simp at hy;subst hy;obtain ⟨j,hj,rfl⟩:=i2 x hx;simp [keeps] at hk;have h1:=h j (m-1) (by omega) (by omega);have h2:=h (m-1) m (by omega) (by omega);rcases hk with hk |hk
    ·omega
    ·have h3:d[m]!≠d[m-1]!:=(by simpa using hk);omega
   ·rcases qe.1 hx with hx |hx
    ·obtain ⟨j,hj,e⟩:=i2 x hx;exact ⟨j,by omega,e⟩
    ·simp at hx;exact ⟨m,by omega,by simp [hx]⟩
   ·rcases YF j m with hl |hl
    ·exact Yb _ (i3 j hl)
    ·obtain rfl:j=m:=(by omega);exact XC _ (by simp)
  ·rw [if_neg hk,kT];have hk2:m≠0/\d[m]! = d[m-1]!:=(by unfold keeps at hk;simp only [decide_eq_true_eq] at hk;exact ⟨fun e=>hk (.inl e),Classical.byContradiction fun e=>hk (.inr e)⟩);refine ⟨i1,fun x hx=>?_,fun j hj=>?_⟩
   ·obtain ⟨j,hj,e⟩:=i2 x hx;exact ⟨j,by omega,e⟩
   ·rcases YF j m with hl |hl
    ·exact i3 j hl
    ·obtain rfl:j=m:=(by omega);rw [hk2.2];exact i3 (j-1) (by omega)
theorem Yq:(compactUpTo (sort ltInt d) (sort ltInt d).size).Pairwise (fun x y=>x<y)/\∀ x,x∈compactUpTo (sort ltInt d) (sort ltInt d).size↔x∈d.toList:=by
 obtain ⟨h1,h2⟩:=JC d;obtain ⟨i1,i2,i3⟩:=KE (zcP h1) _ (z8 _);refine ⟨i1,fun x=>⟨fun hx=>?_,fun hx=>?_⟩⟩
 ·obtain ⟨j,hj,rfl⟩:=i2 x hx;refine h2.mem_iff.1 ?_;rw [getElem!_pos _ j hj];simp
 ·obtain ⟨j,hj,e⟩:=X4 (h2.mem_iff.2 hx);have:=i3 j (by simpa using hj);rw [getElem!_pos _ j (by simpa using hj)] at this;simpa [<-e] using this
set_option maxHeartbeats 4000000
set_option maxRecDepth 1000000
attribute [local go_sem] Oper.semAt_some
theorem zcQ (w:World):Calls prog 125 #[.slice none 0 0] w fun e w'=>e = .returned (.slice none 0 0)/\Q8 w w':=by
 have HO:Hid (Q8 w w):=ze.refl _ _;go_enter func125,ntmps125;go_wp2_with fail;go_ret;exact ⟨rfl,zb HO⟩
theorem Xy {w':World}{a:Addr}(h:w'.heap[a.block]?=w.heap[a.block]?):w'.frozen? a=w.frozen? a:=by unfold World.frozen?;rw [h]
structure vR (w:World)(O:Nat->Prop)(X:World)(B:Nat)(cs:List Int):Prop where
 ex:∃ sv,X.cell? ⟨w.heap.size,0,none⟩=some sv/\X.ownsRow (w.heap.size+1) 21 1 sv cs.length (xw cs)/\cs.length<=B/\∀ k,O k↔k=w.heap.size\/sv.ownBlock=some k
 fr:X.frozen? ⟨w.heap.size,0,none⟩=false
 only:Q8 w X
 size:w.heap.size+1<=X.heap.size
theorem vR.keep {X':World}{O:Nat->Prop}{B B2:Nat}{cs:List Int}(h:vR w O X B cs)(hB:w.heap.size+1<=B2)(k:ze (fun k=>B2<=k/\¬O k) X X'):vR w O X' B cs:=by
 obtain ⟨sv,h1,h2,h3,h4⟩:=h.ex;have hn:¬(B2<=w.heap.size/\¬O w.heap.size):=fun h=>by omega
 have hs:=h.size;exact ⟨⟨sv,(k.cell (p:=⟨w.heap.size,0,none⟩) (by show _<_;simp only;omega) hn).trans h1,zn h2 k (fun g hg hp=>hp.2 ((h4 g).2 (.inr hg))),h3,h4⟩,(k.frozen (p:=⟨w.heap.size,0,none⟩) (by show _<_;simp only;omega) hn).trans h.fr,
  ⟨k.os.trans h.only.os,k.tape.trans h.only.tape,k.output.trans h.only.output,yZ h.only.size k.size,fun j hj _=>(k.block j (by omega) (fun hp=>by omega)).trans (h.only.block j hj (fun f=>f))⟩,yZ h.size k.size⟩
theorem vR.lt {O:Nat->Prop}{B:Nat}{cs:List Int}(h:vR w O X B cs):∀ k,O k->k<X.heap.size:=fun k hk=>by
 obtain ⟨sv,h1,h2,h3,h4⟩:=h.ex;rcases (h4 k).1 hk with e |e
 ·have:=h.size;omega
 ·exact (zh h2 k e).2
theorem vR.up {O:Nat->Prop}{B C:Nat}{cs:List Int}(h:vR w O X B cs)(hBC:B<=C):vR w O X C cs:=by
 obtain ⟨sv,h1,h2,h3,h4⟩:=h.ex;exact ⟨⟨sv,h1,h2,by omega,h4⟩,h.fr,h.only,h.size⟩
theorem vR.push {O:Nat->Prop}{B B':Nat}{sv v':Value}{cs:List Int}{a b:Int}(h:vR w O X B cs)(q1:X.cell? ⟨w.heap.size,0,none⟩=some sv)(q2:X.ownsRow (w.heap.size+1) 21 1 sv cs.length (xw cs))(q3:cs.length+2<=B')(q4:∀ k,O k↔k=w.heap.size\/sv.ownBlock=some k)
  (hk:ze (fun k=>sv.ownBlock=some k) X V) (hown:V.ownsRow (w.heap.size+1) 21 1 v' (cs.length+2) (xw cs++[.int .i32 a,.int .i32 b])) (hsep:∀ k,v'.ownBlock=some k->sv.ownBlock=some k\/X.heap.size<=k) :
  vR w (fun k=>k=w.heap.size\/v'.ownBlock=some k) (V.setCell ⟨w.heap.size,0,none⟩ v') B' (cs++[a,b])/\(∀ k,(k=w.heap.size\/v'.ownBlock=some k)->O k\/X.heap.size<=k)/\ze O X (V.setCell ⟨w.heap.size,0,none⟩ v'):=by
 have hs:=h.size;have hn:¬sv.ownBlock=some w.heap.size:=fun e=>by have:=(zh q2 _ e).1;omega
 have hn':¬v'.ownBlock=some w.heap.size:=fun e=>by have:=(zh hown _ e).1;omega
 have c1:=(hk.cell (p:=⟨w.heap.size,0,none⟩) (zE _ _ q1) hn).trans q1;have c2:=(hk.frozen (p:=⟨w.heap.size,0,none⟩) (zE _ _ q1) hn).trans h.fr;have hst:ze (fun k=>k=w.heap.size) V (V.setCell ⟨w.heap.size,0,none⟩ v'):=(ze.refl (fun k=>k=w.heap.size) V).setCell (p:=⟨w.heap.size,0,none⟩) (.inl rfl) _;have hO:ze O X (V.setCell ⟨w.heap.size,0,none⟩ v'):=(hk.mono (fun k _ e=>(q4 k).2 (.inr e))).setCell (p:=⟨w.heap.size,0,none⟩) (.inl ((q4 _).2 (.inl rfl))) _;have hl:(cs++[a,b]).length=cs.length+2:=by simp
 refine ⟨⟨⟨v',yY _ _ _ c1,?_,by omega,fun k=>Iff.rfl⟩,(zk _ _ _ _).trans c2,?_,yZ hs hO.size⟩,fun k hk2=>?_,hO⟩
 ·rw [hl,YN];exact zn hown hst (fun g hg e=>hn' (e ▸ hg))
 ·exact ⟨hO.os.trans h.only.os,hO.tape.trans h.only.tape,hO.output.trans h.only.output,yZ h.only.size hO.size,fun j hj _=>(hO.block j (by have:=h.only.size;omega) (fun e=>by
   rcases (q4 j).1 e with e |e
   ·omega
   ·have:=(zh q2 _ e).1;omega)).trans (h.only.block j hj (fun f=>f))⟩
 ·rcases hk2 with e |e
  ·exact .inl ((q4 k).2 (.inl e))
  ·exact (hsep k e).imp_left (fun e=>(q4 k).2 (.inr e))
theorem vR.row {blk n cap:Nat}{cs:List Int}(q2:X.ownsRow (w.heap.size+1) 21 1 (.slice (some ⟨blk,0,none⟩) n cap) n (xw cs)):Holds (Value.int .i32) X blk 0 cs.toArray/\n=cs.length/\n<=cap:=by
 rcases q2.2 with ⟨h1,_⟩ |⟨g',cap',cur,h1,h2,h3,h4,h5,h6,h7⟩
 ·cases h1
 ·cases h1;have hl:cs.length=n:=by have:=q2.1;simpa [xw] using this
  have hc:∀ t,t<n->cur[t]?=some (.int .i32 (cs.toArray[t]!)):=fun t ht=>by
   have e1:(cur.toList.take (n*1))[t]?=(xw cs)[t]?:=(by rw [h7]);rw [Qd (by omega)] at e1;rw [<-Qj,e1];rw [getElem!_pos _ t (by simp;omega)];simp [xw,List.getElem?_map,List.getElem?_eq_getElem (show t<cs.length by omega)]
  refine ⟨fun t ht=>⟨?_,?_⟩,hl.symm,by omega⟩
  ·unfold World.cell?;rw [h3];simpa using hc t (by simpa [hl] using ht)
  ·unfold World.frozen?;rw [h3];simp
def rawP (l:List (Int×Int)):List Int:=l.flatMap (fun y=>[y.1,y.2+1])
def rawS (sp:Slc->List (Int×Int))(xs:List Slc):List Int:=xs.flatMap (fun p=>rawP (sp p))
theorem zcR (l:List (Int×Int))(y:Int×Int):rawP (l++[y])=rawP l++[y.1,y.2+1]:=by simp [rawP]
theorem zcS (sp:Slc->List (Int×Int))(xs:List Slc)(p:Slc):rawS sp (xs++[p])=rawS sp xs++rawP (sp p):=by simp [rawS]
def jl (cs:List Int):List Int:=compactUpTo (sort ltInt cs.toArray) (sort ltInt cs.toArray).size
def CutV (w w':World)(v:Value)(cs:List Int):Prop:=(v = .slice none 0 0/\cs=[])\/∃ g cap,v = .slice (some ⟨g,0,none⟩) (jl cs).length cap/\w.heap.size<g/\Holds (Value.int .i32) w' g 0 (jl cs).toArray
theorem qZ:(sort ltInt d).size=d.size:=by have:=(JC d).2.length_eq;simpa using this
theorem Holds.front {zs:List Int}{k:Nat}(h:Holds (Value.int .i32) w g 0 (zs++List.replicate k 0).toArray):Holds (Value.int .i32) w g 0 zs.toArray:=by
 intro j hj;have hj2:j<zs.length:=by simpa using hj
 obtain ⟨h1,h2⟩:=h j (by simp;omega);refine ⟨?_,h2⟩;rw [h1,getElem!_pos _ j (by simp;omega),getElem!_pos _ j hj];simp [List.getElem_append_left hj2]
theorem Yr (sp:Slc->List (Int×Int))(gf:Nat)(lb:Array Value)(xs:List Slc)(D:Nat->Prop)(w:World)(eg:∀ args w,(callFunc gf args).run prog w = .ok (.enter gf args) w)(hseq:SeqO Fence.wide 8 prog gf lb Qn xs D w)(hD:∀ k,D k->k<w.heap.size)(hl:xs.length<=1001)(hset:∀ p∈xs,∃ A,yu w A (slV p) (sp p)/\Cs.zK (sp p)) :
  Calls prog 71 #[.func (.func gf) #[] lb] w fun e w'=>(∃ v,e = .returned v/\CutV w w' v (rawS sp xs))/\Q8 w w':=by
 obtain ⟨i0,hi,hz0,hz1,hz2⟩:=info_parts Tryz.infoRune;have HSeq:=zc hseq;have HD:=zc hD;have HSt:=zc hset;have HInfo:=zc (And.intro hi (And.intro hz0 (And.intro hz1 hz2)));clear hseq hD hset hi hz0 hz1 hz2;refine (callsIn_wide (n:=9)).1 ?_;refine callsIn_of_wp_marks func71 rfl trivial ?_ rfl;simp only [ntmps71,jZ,qH,jU,Nat.reduceAdd,Nat.reduceSub,wO,wl,Z1,Zr,kB,jS]
 gi_wp2
 have HO1:Hid (Q8 w (w.alloc (.cells #[.slice none 0 0] 166))):=(ze.refl _ _).alloc _;have hsz:(w.alloc (.cells #[.slice none 0 0] 166)).heap.size=w.heap.size+1:=by simp
 have HI0:Hid (vR w (fun k=>k=w.heap.size) (w.alloc (.cells #[.slice none 0 0] 166)) 0 []):=⟨⟨.slice none 0 0,zm w _ rfl _ _ 0 _ rfl,qD _ _ _ _,z8 _,(fun k=>by simp [Value.ownBlock])⟩,zG w _ rfl _ _ 0,zb HO1,by omega⟩
 generalize w.alloc (.cells #[.slice none 0 0] 166)=w1 at *;refine KT (F:=Fence.wide) rfl (by omega) (gf:=gf) (lb:=lb) rfl trivial eg
  ((zb HSeq).later (zb HO1)) (fun _=>rfl) (fun pre O X=>vR w O X (2300000*pre.length) (rawS sp pre)) (fun k=>k=w.heap.size) (fun k hk=>by omega) (fun k hk=>by have:=zb HD k hk;exact ⟨by omega,by omega⟩) (fun pre O X X' h k=>h.keep (by omega) k) (zb HI0)
  (fun x a V=>∃ k,a = { tmps:=#[.func (.func gf) #[] lb,undef,.slice none 0 0,.pointer (some ⟨w.heap.size,0,none⟩),.pointer (some ⟨k,0,none⟩),undef,undef,.func (.func gf) #[] lb,.agg #[slV x],undef,undef,undef,undef,undef,undef,undef,undef,undef,undef,undef,undef,undef,undef],defers:=[] }/\V.cell? ⟨k,0,none⟩=some (slV x)) ?ax ?assign ?body ?done
 case ax=>
  rintro x a V l o o' ⟨k,h1,h2⟩ hl' ho;have hkl:k≠l:=by
   rintro rfl;unfold World.cell? at h2;rw [hl'] at h2;cases o with
   |cells c T f=>simp [Obj.isCells] at ho
   |_=>simp at h2
  exact ⟨k,h1,(vw (w:=V) (World.putObj_heap_other hkl)).trans h2⟩
 case assign=>
  intro l x W K hK;obtain ⟨xa,xn,xc⟩:=x;unfold Qn;simp only [slV] at hK ⊢;have hA:Q8 W (W.alloc (.cells #[.slice xa xn xc] 161)):=(ze.refl _ _).alloc _;have hC:(W.alloc (.cells #[.slice xa xn xc] 161)).cell? ⟨W.heap.size,0,none⟩=some (.slice xa xn xc):=zm W _ rfl _ _ 0 _ rfl
  gi_wp2
  exact hK _ _ hA ⟨W.heap.size,rfl,hC⟩
 case body=>
  rintro l pre O x a V hl2 hOl ⟨r,hr⟩ hI hpre ⟨k,rfl,hk⟩;obtain ⟨A,hrow,hri⟩:=zb HSt x (hpre.subset (by simp));obtain ⟨ls,hls⟩:∃ ls,sp x=ls:=⟨_,rfl⟩
  rw [hls] at hrow hri;have HRS:Hid (rawS sp (pre++[x])=rawS sp pre++rawP ls):=by show _=_;rw [zcS,hls]
  clear hls;obtain ⟨xa,xn,xc⟩:=x;simp only [slV] at hk hrow ⊢;have HIv:=zc hI;have hlen:=hri.len;have hprel:=hpre.length_le;simp only [yS,jq] at hprel;have HRi:=zc hri;have HRow:=zc (hrow.mono (B:=fun g=>g<w.heap.size) (fun g hg _=>hg));clear hI hrow hri
  gi_wp2
  refine ⟨trivial,(CallsIn.inRound l (callsIn_wide.2 (Zw _ _ ⟨_,_,_,rfl⟩))).mono ?_⟩;rintro e V1 ⟨v,rfl,kb2,rfl,hk21,hk22,hO2⟩;have HO2:=zc hO2;have HK2:=zc hk22;have hr2:=(hO2.block l (yK.1 hr).1 (fun f=>f)).trans hr;have hsV:=(zb HIv).size;have hs2:=hO2.size;have HIv2:Hid (vR w O V1 (2300000*pre.length) (rawS sp pre)):=(zb HIv).keep (B2:=w.heap.size+1) (z8 _) (hO2.mono (fun _ _ f=>f.elim));have HRow2:=zc ((zb HRow).keep ((zb HIv).only.trans hO2) (fun _ _ f=>f));clear hO2 hk22
  gi_wp2
  refine KU (F:=Fence.wide.inRound l) rfl hr2 (by omega) (gf:=198) (lb:=#[.pointer (some ⟨kb2,0,none⟩)]) rfl trivial (enters_of func198 (by kernel_rfl) rfl)
   (vt _ ls _ kb2 V1 (zb HRow2) (zb HK2) (by omega) (9-1-1-1) (by omega)) (fun _=>rfl) (fun pre2 O2 X=>vR w O2 X (2300000*pre.length+2*pre2.length) (rawS sp pre++rawP pre2)/\ze O V1 X/\∀ k,O2 k->O k\/V1.heap.size<=k) O (zb HIv2).lt ?d (fun pre2 O2 X X' h k=>⟨h.1.keep (by omega) k,⟨k.os.trans h.2.1.os,k.tape.trans h.2.1.tape,k.output.trans h.2.1.output,yZ h.2.1.size k.size,fun j hj hn=>(k.block j (yh hj h.2.1.size) (fun hp=>by omega)).trans (h.2.1.block j hj hn)⟩,h.2.2⟩) ⟨by simpa [rawP] using zb HIv2,ze.refl _ _,fun k hk=>.inl hk⟩
   (fun y=>{ tmps:=#[.func (.func gf) #[] lb,undef,.slice none 0 0,.pointer (some ⟨w.heap.size,0,none⟩),.pointer (some ⟨k,0,none⟩),.int .i32 y.1,.int .i32 y.2,.func (.func gf) #[] lb,.agg #[.slice xa xn xc],.agg #[.slice xa xn xc],.func (.func 198) #[] #[.pointer (some ⟨kb2,0,none⟩)],.int .i32 y.1,.int .i32 y.2,undef,undef,undef,undef,undef,undef,undef,undef,undef,undef],defers:=[] }) ?assign2 ?body2 ?done2
  case d=>
   obtain ⟨sv,q1,q2,q3,q4⟩:=(zb HIv).ex;rintro j (rfl |⟨h1,h2⟩)
   ·refine ⟨zE V1 _ (zb HK2),fun hj=>?_⟩;rcases (q4 j).1 hj with e |e
    ·omega
    ·have:=(zh q2 j e).2;omega
   ·refine ⟨h2,fun hj=>?_⟩;rcases (q4 j).1 hj with e |e
    ·omega
    ·have:=(zh q2 j e).1;omega
  case assign2=>
   intro l' y W K hK;unfold kZ
   gi_wp2
   exact hK
  case body2=>
   rintro l' pre2 O2 y X hl' hOl' ⟨r',hr'⟩ ⟨hX,hOX,hsub⟩ hpre2;have hy:=(zb HRi).2 y (hpre2.subset (by simp));have hp2l:=hpre2.length_le;simp only [yS,jq] at hp2l;obtain ⟨cs,hcs⟩:∃ cs,rawS sp pre++rawP pre2=cs:=⟨_,rfl⟩
   rw [hcs] at hX;have HCS:Hid (∀ y,rawS sp pre++rawP (pre2++[y])=cs++[y.1,y.2+1]):=(by intro y;rw [zcR,<-hcs,ql]);clear hcs;obtain ⟨sv,q1,q2,q3,q4⟩:=hX.ex;have q5:=hX.fr;obtain ⟨pa,pn,pc,rfl⟩:=zy q2;obtain ⟨hi,hz0,hz1,hz2⟩:=zb HInfo;obtain ⟨ya,yb⟩:=y;unfold Cs.okS at hy;simp only [] at hy ⊢;have hyw:wrap32 (yb+1)=yb+1:=(by unfold wrap32;omega);have HXX:=zc hX;have Hq2:=zc q2;have HOX:=zc (And.intro hOX hsub);have hXs:=hX.size;clear hX q2 hOX hsub
   gi_wp2_with (gi_at_builtin;refine zb ?_)
   refine zc ?_;refine Ko _ rfl _ _ 166 rfl (w.heap.size+1) 21 i0 (.int .i32 0) 1 4 underlying166 hi hz0 hz1 hz2 rfl (by decide) (.slice pa pn pc) cs.length (xw cs) rfl (xR (zb Hq2) _) ⟨X.heap.size,0,none⟩ 2 2 [.int .i32 ya,.int .i32 (yb+1)] rfl rfl (cell_two_new _ _ _ _) (fun u hu=>by simp at hu;rcases hu with rfl |rfl<;>rfl) (by omega) (by unfold maxLen;omega) (by omega) (by simp;omega) ?_;intro v' V3 hown' hgrow hsep;obtain ⟨pa2,pn2,pc2,rfl⟩:=zy hown';have hO3:=((ze.refl (fun k=>(Value.slice pa pn pc).ownBlock=some k) X).alloc (.cells #[.int .i32 ya,.int .i32 (yb+1)] 21)).grown hgrow (fun k hk=>.inl hk);have hnb:¬(Value.slice pa pn pc).ownBlock=some w.heap.size:=fun e=>(by have:=(zh (zb Hq2) _ e).1;omega);have c1:=(hO3.cell (p:=⟨w.heap.size,0,none⟩) (zE _ _ q1) hnb).trans q1;have c2:=(hO3.frozen (p:=⟨w.heap.size,0,none⟩) (zE _ _ q1) hnb).trans q5;have HPu:=zc ((zb HXX).push q1 (zb Hq2) (B':=2300000*pre.length+2*(pre2.length+1)) (by omega) q4 hO3 hown' (fun k hk=>(hsep k hk).imp_right (fun h=>by simp at h;omega)));clear hown' hgrow hsep hO3
   gi_wp2
   obtain ⟨g1,g2,g3⟩:=zb HPu;have hOX:=(zb HOX).1;refine ⟨_,⟨by rw [zb HCS (ya,yb)];simpa using g1,⟨g3.os.trans hOX.os,g3.tape.trans hOX.tape,g3.output.trans hOX.output,yZ hOX.size g3.size,fun j hj hn=>(g3.block j (yh hj hOX.size) (fun ho=>((zb HOX).2 j ho).elim hn (fun h=>by omega))).trans (hOX.block j hj hn)⟩,fun k hk=>?_⟩,g2,g3,g1.lt⟩;rcases g2 k hk with h |h
   ·exact (zb HOX).2 k h
   ·exact .inr (yZ hOX.size h)
  case done2=>
   rintro O2 X ⟨hX,hOX,hsub⟩;have hO2:=zb HO2;refine ⟨O2,by show vR _ _ _ _ _;rw [zb HRS];exact hX.up (by simp;omega),fun k hk=>(hsub k hk).imp_right (fun h=>by omega),⟨hOX.os.trans hO2.os,hOX.tape.trans hO2.tape,hOX.output.trans hO2.output,yZ hO2.size hOX.size,fun j hj hn=>(hOX.block j (by omega) hn).trans (hO2.block j hj (fun f=>f))⟩,hX.lt⟩
 case done=>
  rintro Dm O V hDw hOD hX hK;obtain ⟨cs,hcs⟩:∃ cs,rawS sp xs=cs:=⟨_,rfl⟩
  rw [hcs] at hX;have HCS9:=zc hcs;clear hcs;obtain ⟨sv,q1,q2,q3,q4⟩:=hX.ex;have hOw:=hX.only;have hXs:=hX.size;have hKV:Dm<V.heap.size:=(yK.1 hK).1;have hOD2:¬sv.ownBlock=some Dm:=fun e=>hOD ((q4 Dm).2 (.inr e));have hnb:¬sv.ownBlock=some w.heap.size:=fun e=>by have:=(zh q2 _ e).1;omega
  have hnw:∀ k,sv.ownBlock=some k->w.heap.size+1<=k:=fun k e=>(zh q2 k e).1;clear hX;have HFin:Hid (∀ V2,ze (fun k=>sv.ownBlock=some k) V V2->V2.heap[Dm]?=some (.deferred (some []))/\Q8 w (V2.putObj Dm (.deferred none))):=fun V2 h=>⟨(h.block Dm hKV hOD2).trans hK,⟨h.os.trans hOw.os,h.tape.trans hOw.tape,h.output.trans hOw.output,by rw [yP];exact yZ hOw.size h.size,fun j hj _=>(World.putObj_heap_other (by omega)).trans ((h.block j (by have:=hOw.size;omega) (fun e=>by have:=hnw j e;omega)).trans (hOw.block j hj (fun f=>f)))⟩⟩
  rcases q2.2 with ⟨rfl,hz9⟩ |⟨g,cap,cur,rfl,hbg,hg,hnc,hcm,hcs,htake⟩
  ·have hcs0:cs=[]:=(by simpa using hz9);subst hcs0;clear q2 hOD2 hnb hnw hOw
   gi_wp2_with (refine ⟨trivial,?_⟩;gi_at_call 124;refine (callsIn_wide.2 (sortN _)).mono ?_;rintro e V1 ⟨rfl,hO1⟩;have m1:=(hO1.cell (p:=⟨w.heap.size,0,none⟩) (zE _ _ q1) (fun f=>f)).trans q1;have HO1:=zc hO1;clear hO1)
   refine ⟨trivial,(callsIn_wide.2 (zcQ _)).mono ?_⟩;rintro e V2 ⟨rfl,hO2⟩;have HO2:=zc ((zb HO1).trans hO2);clear hO2
   gi_wp2
   obtain ⟨g1,g2⟩:=zb HFin _ ((zb HO2).mono (fun _ _ f=>f.elim));refine ⟨by simp,.inl ⟨_,_,rfl,run_takeDeferred g1,?_⟩⟩;exact ⟨_,results_tmp rfl _ _ _,⟨_,rfl,.inl ⟨rfl,zb HCS9⟩⟩,g2⟩
  ·have hRow:=vR.row q2;have hgl:=(zh q2 g rfl).2;have HSo:=zc (sortE g cap cs.toArray V hRow.1 hgl (by simp;omega));have hcc:=hRow.2.2;have hwg:w.heap.size<g:=(by omega);have hgD:g≠Dm:=fun e=>hOD2 (by simp only [Value.ownBlock];exact congrArg some e);rw [jZ] at HSo;clear q2 hOD2 hnw hOw hRow hcs htake;have hgne:¬zt g w.heap.size:=fun e=>hnb (by simp only [Value.ownBlock];exact congrArg some e.symm)
   gi_wp2_with (refine ⟨trivial,?_⟩;gi_at_call 124;refine (callsIn_wide.2 (zb HSo)).mono ?_;rintro e V1 ⟨rfl,hO1,hR1⟩;have m1:=(hO1.cell (p:=⟨w.heap.size,0,none⟩) (zE _ _ q1) hgne).trans q1;have HO1:=zc hO1;have HR1:=zc hR1;clear hO1 hR1)
   have HCo:=zc (compactE g cap (sort ltInt cs.toArray) V1 (zb HR1) (by rw [qZ];simp;omega) (by rw [qZ];simpa using hcc));rw [qZ,jZ] at HCo;refine ⟨trivial,(callsIn_wide.2 (zb HCo)).mono ?_⟩;rintro e V2 ⟨rfl,hO2,hH2⟩;have HO2:=zc ((zb HO1).trans hO2);have HH2:=zc hH2;clear hO2 hH2
   gi_wp2
   have h9:Holds (Value.int .i32) V2 g 0 (jl cs).toArray:=(by unfold jl;rw [qZ,jZ];exact Holds.front (zb HH2));have HH9:Hid (Holds (Value.int .i32) (V2.putObj Dm (.deferred none)) g 0 (jl cs).toArray):=fun t ht=>⟨(vw (w:=V2) (World.putObj_heap_other (by first |exact hgD |exact hgD.symm))).trans (h9 t ht).1,(Xy (World.putObj_heap_other (by first |exact hgD |exact hgD.symm))).trans (h9 t ht).2⟩
   obtain ⟨g1,g2⟩:=zb HFin _ ((zb HO2).mono (fun k _ f=>by simp only [Value.ownBlock];exact congrArg some (Eq.symm f)));refine ⟨by simp,.inl ⟨_,_,rfl,run_takeDeferred g1,?_⟩⟩;refine ⟨_,results_tmp rfl _ _ _,⟨_,rfl,by rw [zb HCS9];exact .inr ⟨g,cap,by first |(unfold jl;rw [qZ,jZ];done) |(unfold jl;rw [qZ,jZ];rfl) |(unfold jl;simp [qZ,Act.put,Act.eval]),hwg,zb HH9⟩⟩,g2⟩
open Sm (Stp Tree capT)
theorem yu.one {A B:Nat->Prop}{v:Value}{l l':List (Int×Int)}(h:yu w A v l)(k:yu w B v l'):l=l':=by
 rcases h with ⟨h1,h2⟩ |⟨g,cap,h1,_,_,_,h4⟩<;>rcases k with ⟨k1,k2⟩ |⟨g',cap',k1,_,_,_,k4⟩
 ·rw [h2,k2]
 ·rw [h1] at k1;simp at k1
 ·rw [h1] at k1;simp at k1
 ·rw [h1] at k1;simp at k1;obtain ⟨rfl,hl,rfl⟩:=k1;refine List.ext_getElem hl (fun i hi hi'=>?_);obtain ⟨a1,a2⟩:=h4 i _ (zD hi);obtain ⟨b1,b2⟩:=k4 i _ (zD hi');rw [a1] at b1;rw [a2] at b2;simp at b1 b2;exact Prod.ext b1 b2
open Classical in
theorem jk.spansF {pb g cap st:Nat}{Z:List (Stp×Value)}{ws:Slc}{W:Int->Bool}{zs:List Slc}(h:jk w V pb g cap st Z ws W)(hz:Z.map Prod.snd=zs.map slV) :
  ∃ sp:Slc->List (Int×Int),(∀ p∈ws :: zs,∃ A,yu V A (slV p) (sp p)/\Cs.zK (sp p))/\(∀ c,Eqv.inSp (sp ws) c=W c)/\∀ z∈Z,∃ p∈zs,∀ c,Eqv.inSp (sp p) c=Prg.setP z.1 c:=by
 have hs:=h.spans hz;refine ⟨fun p=>if hp:∃ l A,yu V A (slV p) l/\Cs.zK l then Classical.choose hp else [],fun p hp=>?_,fun c=>?_,fun z hzm=>?_⟩
 ·have hp:=hs p hp;simp only [dif_pos hp];exact Classical.choose_spec hp
 ·have hp:=hs ws xF;simp only [dif_pos hp];obtain ⟨A,h1,_⟩:=Classical.choose_spec hp;obtain ⟨sv,l,e1,e2,_,e4⟩:=h.word;simp at e1;subst e1;rw [h1.one e2];exact e4 c
 ·have:z.2∈zs.map slV:=by rw [<-hz];exact Yn hzm
  obtain ⟨p,hpm,hpe⟩:=Zz.1 this;refine ⟨p,hpm,fun c=>?_⟩;have hp:=hs p (xp _ hpm);simp only [dif_pos hp];obtain ⟨A,h1,_⟩:=Classical.choose_spec hp;obtain ⟨sv,l,e1,e2,_,e4⟩:=h.sets z hzm;simp at e1;subst e1;rw [<-hpe] at e2;rw [h1.one e2];exact e4 c
theorem za7 {sp:Slc->List (Int×Int)}{xs:List Slc}{p:Slc}(hp:p∈xs):∀ x∈sp p,x.1∈jl (rawS sp xs)/\x.2+1∈jl (rawS sp xs):=by
 intro x hx;have h:=(Yq (rawS sp xs).toArray).2;have hr:∀ y,y∈rawP (sp p)->y∈jl (rawS sp xs):=fun y hy=>by
  unfold jl;rw [h];simp only [rawS];exact Xc.2 ⟨p,hp,hy⟩
 exact ⟨hr _ (Xc.2 ⟨x,hx,by simp⟩),hr _ (Xc.2 ⟨x,hx,by simp⟩)⟩
theorem za8 {sp:Slc->List (Int×Int)}{xs:List Slc}{V:World}(h:∀ p∈xs,∃ A,yu V A (slV p) (sp p)/\Cs.zK (sp p)):∀ x∈jl (rawS sp xs),0<=x/\x<=1114112:=by
 intro x hx;have hx2:=((Yq (rawS sp xs).toArray).2 x).1 hx;simp only [rawS,Xc] at hx2;obtain ⟨p,hp,hx3⟩:=hx2;obtain ⟨A,_,_,h2⟩:=h p hp;obtain ⟨y,hy,hx4⟩:=Xc.1 hx3;have:=h2 y hy;simp [Cs.okS] at this hx4;omega
theorem Ys:(jl cs).Pairwise (· < ·):=(Yq cs.toArray).1
theorem VX {Z:List (Stp×Value)}{sp:Slc->List (Int×Int)}{ws:Slc}{zs:List Slc}{W:Int->Bool}(h1:∀ c,Eqv.inSp (sp ws) c=W c)(h2:∀ z∈Z,∃ p∈zs,∀ c,Eqv.inSp (sp p) c=Prg.setP z.1 c){c d:Int}(h :  Fnd.grp (jl (rawS sp (ws :: zs))) c =  Fnd.grp (jl (rawS sp (ws :: zs))) d) :
  W c=W d/\∀ z∈Z,Prg.setP z.1 c=Prg.setP z.1 d:=by
 refine ⟨?_,fun z hz=>?_⟩
 ·rw [<-h1,<-h1];exact  Fnd.alike (za7 xF) h
 ·obtain ⟨p,hp,e⟩:=h2 z hz;rw [<-e,<-e];exact  Fnd.alike (za7 (xp _ hp)) h
end
end Go.Proofs.YtcgleficedipkaaGreatDoor
