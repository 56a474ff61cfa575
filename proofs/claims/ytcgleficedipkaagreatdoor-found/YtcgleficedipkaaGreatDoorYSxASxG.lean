/- The library's sort of a row of characters, to the element: insertion. -/
import Derived.Test.YtcgleficedipkaaGreatDoorYSrtASrtL
import Derived.Sort.Row
import Derived.Deep.DeepCutAuto
namespace Go.Proofs.YtcgleficedipkaaGreatDoor
open _root_.Go.Proofs.Tryz
variable {p:Int->Bool}(blk off cap a b sb s:Nat){i hi first r:Nat}{d:Array Int}(w:World){j:Nat}
section
open Go.RowKit
set_option maxHeartbeats 1000000
def Ex (w:World)(blk off:Nat)(d:Array Int)(w':World):Prop:=ze (zt blk) w w'/\Sort.Holds (Value.int .i32) w' blk off d
theorem Ex.refl {w:World}{blk off:Nat}{d:Array Int}(h:Sort.Holds (Value.int .i32) w blk off d):Ex w blk off d w:=⟨ze.refl _ _,h⟩
theorem Ex.trans {a b c:World}{blk off:Nat}{d e:Array Int}(h:Ex a blk off d b)(k:Ex b blk off e c):Ex a blk off e c:=⟨h.1.trans k.1,k.2⟩
theorem Ex.drewN {a b:World}{blk off:Nat}{d:Array Int}(h:Ex a blk off d b)(q:Nat):Ex a blk off d (b.drewN q):=⟨h.1.drewN q,h.2⟩
theorem Ex.set {a b:World}{blk off:Nat}{d:Array Int}(h:Ex a blk off d b)(i:Nat)(z:Int):Ex a blk off (d.setIfInBounds i z) (b.setCell ⟨blk,off+i,none⟩ (.int .i32 z)):=by
 refine ⟨h.1.mine _ _,fun j hj=>?_⟩;simp only [Array.size_setIfInBounds] at hj;obtain ⟨h1,h2⟩:=h.2 j hj;refine ⟨?_,by rw [Xm];exact h2⟩;by_cases e:i=j
 ·subst e;rw [yY _ _ _ h1];simp [hj]
 ·rw [zF _ _ _ _ (by intro q;have h3:=congrArg Addr.off q;simp only [] at h3;omega),h1];simp [Array.getElem!_eq_getD,Array.getD_eq_getD_getElem?,Array.getElem?_setIfInBounds_ne e]
theorem Yo (d:Array Int)(i j:Nat):(Sort.swp d i j).size=d.size:=by unfold Sort.swp;simp
variable (d)
theorem insertE (h:Sort.Holds (Value.int .i32) w blk off d)(hab:a<=b)(hb:b<=d.size)(hn:d.size<1099511627776) :
  Calls prog 199 #[.slice (some ⟨blk,off,none⟩) d.size cap,.int .i64 a,.int .i64 b] w fun e w'=>e = .returned (.tuple #[])/\Ex w blk off (Sort.insertionSort Sort.ltInt d a b) w':=by
 have HH:=zc (Ex.refl h);clear h;generalize hN:d.size=N at *;have HT:Hid (Sort.insertionSort Sort.ltInt d a b=Sort.insOuter Sort.ltInt a b (a+1) d):=rfl;have HN:=zc hN;clear hN;generalize Sort.insertionSort Sort.ltInt d a b=tgt at *;go_enter func199,ntmps199;go_wp2_with fail;go_loopw [6] (fun vi wr=>∃ (i:Nat) (dc:Array Int),vi = .int .i64 i/\a<i/\i<=b+1/\Hid (dc.size=N)/\Hid (Ex w blk off dc wr)/\Hid (tgt=Sort.insOuter Sort.ltInt a b i dc)) (fun vi _=>b+1-(intOf vi).toNat)
 case atStart=>exact ⟨a+1,d,by go_num,by omega,by omega,HN,HH,HT⟩
 case round=>
  clear HH HT HN;obtain ⟨i,dc,rfl,hai,hib,HC,HS,HT⟩:=hrel;by_cases hlt:i<b
  ·have HT2:Hid (tgt=Sort.insOuter Sort.ltInt a b (i+1) (Sort.insInner Sort.ltInt a i dc)):=by
    show _=_;rw [zb HT]
    conv=>lhs;unfold Sort.insOuter
    rw [if_pos hlt]
   clear HT;go_wp2;go_loopw [7] (fun vj wr2=>∃ (j:Nat) (dj:Array Int),vj = .int .i64 j/\a<=j/\j<=i/\Hid (dj.size=N)/\Hid (Ex w blk off dj wr2)/\Hid (tgt=Sort.insOuter Sort.ltInt a b (i+1) (Sort.insInner Sort.ltInt a j dj))) (fun vj _=>(intOf vj).toNat)
   case atStart=>exact ⟨i,dc,rfl,by omega,z8 _,HC,HS,HT2⟩
   case round=>
    clear HC HS HT2;obtain ⟨j,dj,rfl,haj,hji,HC,HS2,HT⟩:=hrel;go_wp2;by_cases hja:a<j
    ·obtain ⟨G,HG,hcw,hfw⟩:∃ G:Nat->Int,Hid (∀ t,G t=dj[t]!)/\(∀ t,t<N->wr.cell? ⟨blk,off+t,none⟩=some (.int .i32 (G t)))/\∀ t,t<N->wr.frozen? ⟨blk,off+t,none⟩=false:=⟨fun t=>dj[t]!,fun _=>rfl,fun t ht=>((zb HS2).2 t (by rw [zb HC];exact ht)).1,fun t ht=>((zb HS2).2 t (by rw [zb HC];exact ht)).2⟩
     have HSZ:Hid (((dj.setIfInBounds j (G (j-1))).setIfInBounds (j-1) (G j)).size=N):=(by show _=_;simp;exact zb HC);have HE:Hid ((dj.setIfInBounds j (G (j-1))).setIfInBounds (j-1) (G j)=Sort.swp dj j (j-1)):=(by show _=_;rw [zb HG,zb HG];rfl);have hj1:j-1+1=j:=(by omega);by_cases hl:Sort.ltInt (G j) (G (j-1))=true
     ·have HT2:Hid (tgt=Sort.insOuter Sort.ltInt a b (i+1) (Sort.insInner Sort.ltInt a (j-1) ((dj.setIfInBounds j (G (j-1))).setIfInBounds (j-1) (G j)))):=by
       show _=_;rw [zb HT,zb HE];rw [zb HG,zb HG] at hl;generalize hk:j-1=k at *;subst hj1
       conv=>lhs;unfold Sort.insInner
       rw [if_pos (by rw [hl];simp;omega)]
      clear HT HC HE HG hj1;go_quiet (first |(go_at_call 205;refine Calls.quiet_of_same (zz _ _ _)));go_wp2;go_region
      all_goals go_wp2
      go_roundw
      case rel=>exact ⟨j-1,_,by congr 1;omega,by omega,by omega,HSZ,(((zb HS2).drewN _).set j _).set (j-1) _,HT2⟩
      case measure=>simp [intOf];omega
     ·have hl2:Sort.ltInt (G j) (G (j-1))=false:=(by simpa using hl);have HT2:Hid (tgt=Sort.insOuter Sort.ltInt a b (i+1) dj):=by
       show _=_;rw [zb HT];rw [zb HG,zb HG] at hl2;generalize hk:j-1=k at *;subst hj1
       conv=>lhs;unfold Sort.insInner
       rw [if_neg (by rw [hl2];simp)]
      clear HT HE HG hj1 hl HSZ;go_quiet (first |(go_at_call 205;refine Calls.quiet_of_same (zz _ _ _)));go_wp2;go_roundw
      case rel=>exact ⟨i+1,dj,by go_num,by omega,by omega,HC,(zb HS2).drewN _,HT2⟩
      case measure=>simp [intOf];omega
    ·have HT2:Hid (tgt=Sort.insOuter Sort.ltInt a b (i+1) dj):=by
      show _=_;rw [zb HT];cases j with
      |zero=>rfl
      |succ k=>
       conv=>lhs;unfold Sort.insInner
       rw [if_neg (by simp;omega)]
     clear HT;go_quiet (first |(go_at_call 205;refine Calls.quiet_of_same (zz _ _ _)));go_wp2;go_roundw
     case rel=>exact ⟨i+1,dj,by go_num,by omega,by omega,HC,(zb HS2).drewN _,HT2⟩
     case measure=>simp [intOf];omega
  ·go_wp2
   go_end0
   refine ⟨rfl,?_⟩;rw [zb HT];unfold Sort.insOuter;rw [if_neg hlt];exact zb HS
set_option maxHeartbeats 2000000
theorem Ex.fam {w wr:World}{blk off N:Nat}{d:Array Int}(h:Ex w blk off d wr)(hN:d.size=N):∃ G:Nat->Int,Hid (∀ t,G t=d[t]!)/\(∀ t,t<N->wr.cell? ⟨blk,off+t,none⟩=some (.int .i32 (G t)))/\∀ t,t<N->wr.frozen? ⟨blk,off+t,none⟩=false:=
 ⟨fun t=>d[t]!,fun _=>rfl,fun t ht=>(h.2 t (by rw [hN];exact ht)).1,fun t ht=>(h.2 t (by rw [hN];exact ht)).2⟩
theorem yg {d:Array Int}{G:Nat->Int}(h:∀ t,G t=d[t]!)(i j:Nat):(d.setIfInBounds i (G j)).setIfInBounds j (G i)=Sort.swp d i j:=by rw [h,h];rfl
theorem reverseE (h:Sort.Holds (Value.int .i32) w blk off d)(hab:a<=b)(hb:b<=d.size)(hn:d.size<1099511627776) :
  Calls prog 203 #[.slice (some ⟨blk,off,none⟩) d.size cap,.int .i64 a,.int .i64 b] w fun e w'=>e = .returned (.tuple #[])/\Ex w blk off (Sort.reverseRange d a b) w':=by
 have HH:=zc (Ex.refl h);clear h;generalize hN:d.size=N at *;have HT:Hid (Sort.reverseRange d a b=Sort.reverseLoop a ((b:Int)-1).toNat d):=by show _=_;unfold Sort.reverseRange;congr 1;omega
 have HN:=zc hN;clear hN;generalize Sort.reverseRange d a b=tgt at *;go_enter func203,ntmps203;go_wp2_with fail;go_loopw [6,7] (fun vi vj wr=>∃ (i:Nat) (j:Int) (dc:Array Int),vi = .int .i64 i/\vj = .int .i64 j/\i<=N/\-1<=j/\j<N/\Hid (dc.size=N)/\Hid (Ex w blk off dc wr)/\Hid (tgt=Sort.reverseLoop i j.toNat dc)) (fun vi vj _=>(intOf vj+1-intOf vi).toNat)
 case atStart=>exact ⟨a,(b:Int)-1,d,rfl,rfl,by omega,by omega,by omega,HN,HH,HT⟩
 case round=>
  clear HN HH HT;obtain ⟨i,j,dc,rfl,rfl,hi,hj,hjn,HC,HS,HT⟩:=hrel;by_cases hij:(i:Int)<j
  ·obtain ⟨j,rfl⟩:∃ q:Nat,j=q:=⟨j.toNat,by omega⟩
   obtain ⟨G,HG,hcw,hfw⟩:=(zb HS).fam (zb HC);have HSZ:Hid (((dc.setIfInBounds i (G j)).setIfInBounds j (G i)).size=N):=(by show _=_;simp;exact zb HC);have HT2:Hid (tgt=Sort.reverseLoop (i+1) ((j:Int)-1).toNat ((dc.setIfInBounds i (G j)).setIfInBounds j (G i))):=by
    show _=_;rw [zb HT,yg (zb HG)]
    conv=>lhs;unfold Sort.reverseLoop
    rw [show ((j:Int)).toNat=j by omega,if_pos (by omega),show ((j:Int)-1).toNat=j-1 by omega]
   clear HT HC HG;go_wp2;go_region
   all_goals go_wp2
   go_roundw
   case rel=>exact ⟨i+1,(j:Int)-1,_,by go_num,by go_num,by omega,by omega,by omega,HSZ,(((zb HS).drewN _).set i _).set j _,HT2⟩
   case measure=>simp [intOf];omega
  ·go_wp2
   go_end0
   refine ⟨rfl,?_⟩;rw [zb HT];unfold Sort.reverseLoop;rw [if_neg (by omega)];exact zb HS
theorem Jy {d:Array Int}(h1:¬hi<=2*r+1)(h2:2*r+2<hi)(hl:Sort.ltInt d[first+2*r+1]! d[first+2*r+2]! = true):Sort.siftDown Sort.ltInt hi first r d=if Sort.ltInt d[first+r]! d[first+2*r+2]! = true then Sort.siftDown Sort.ltInt hi first (2*r+2) (Sort.swp d (first+r) (first+2*r+2)) else d:=by
 conv=>lhs;unfold Sort.siftDown
 rw [dif_neg h1,show first+(2*r+1)+1=first+2*r+2 by omega,show first+(2*r+1)=first+2*r+1 by omega,show first+(2*r+2)=first+2*r+2 by omega,hl,if_pos (by simp;omega),dif_pos h2];cases Sort.ltInt d[first+r]! d[first+2*r+2]!<;>simp
theorem QE {d:Array Int}(h1:¬hi<=2*r+1)(h2:¬2*r+2<hi\/Sort.ltInt d[first+2*r+1]! d[first+2*r+2]! = false):Sort.siftDown Sort.ltInt hi first r d=if Sort.ltInt d[first+r]! d[first+2*r+1]! = true then Sort.siftDown Sort.ltInt hi first (2*r+1) (Sort.swp d (first+r) (first+2*r+1)) else d:=by
 conv=>lhs;unfold Sort.siftDown
 rw [dif_neg h1,show first+(2*r+1)+1=first+2*r+2 by omega,show first+(2*r+1)=first+2*r+1 by omega];rw [if_neg (by rcases h2 with h2 |h2;simp;omega;rw [h2];simp)];cases Sort.ltInt d[first+r]! d[first+2*r+1]!<;>simp
theorem siftE (lo hi first:Nat)(d:Array Int)(w:World)(h:Sort.Holds (Value.int .i32) w blk off d)(hlo:lo<=hi)(hb:first+hi<=d.size)(hn:d.size<1099511627776) :
  Calls prog 229 #[.slice (some ⟨blk,off,none⟩) d.size cap,.int .i64 lo,.int .i64 hi,.int .i64 first] w fun e w'=>e = .returned (.tuple #[])/\Ex w blk off (Sort.siftDown Sort.ltInt hi first lo d) w':=by
 have HH:=zc (Ex.refl h);clear h;generalize hN:d.size=N at *;have HT:Hid (Sort.siftDown Sort.ltInt hi first lo d=Sort.siftDown Sort.ltInt hi first lo d):=rfl;have HN:=zc hN;clear hN;generalize htg:Sort.siftDown Sort.ltInt hi first lo d=tgt at HT ⊢
 have HT0:Hid (tgt=Sort.siftDown Sort.ltInt hi first lo d):=htg.symm;clear HT htg;go_enter func229,ntmps229;go_wp2_with fail;go_loopw [8] (fun vi wr=>∃ (r:Nat) (dc:Array Int),vi = .int .i64 r/\r<=hi/\Hid (dc.size=N)/\Hid (Ex w blk off dc wr)/\Hid (tgt=Sort.siftDown Sort.ltInt hi first r dc)) (fun vi _=>hi-(intOf vi).toNat)
 case atStart=>exact ⟨lo,d,rfl,hlo,HN,HH,HT0⟩
 case round=>
  clear HN HH HT0;obtain ⟨r,dc,rfl,hr,HC,HS,HT⟩:=hrel;by_cases h1:hi<=2*r+1
  ·have h1z:(hi:Int)<=2*(r:Int)+1:=(by omega);have HT2:Hid (tgt=dc):=by
    show _=_;rw [zb HT];unfold Sort.siftDown;rw [dif_pos h1]
   clear HT;go_wp2_with fail
   go_end0
   exact ⟨rfl,by rw [zb HT2];exact zb HS⟩
  ·have h1z:¬((hi:Int)<=2*(r:Int)+1):=(by omega);obtain ⟨G,HG,hcw,hfw⟩:=(zb HS).fam (zb HC);by_cases h2:2*r+2<hi
   ·have h2z:2*(r:Int)+1+1<(hi:Int):=(by omega);go_wp2_with fail;go_big_quiet (first |(go_at_call 205;refine Calls.quiet_of_same (zz _ _ _)));go_wp2_with fail
    ·have HL1:Hid (Sort.ltInt dc[first+2*r+1]! dc[first+2*r+2]! = true):=by show _=_;rw [<-zb HG,<-zb HG];assumption
     revert nq;intro nq1
     have HS2:=zc ((zb HS).drewN nq1);have hcw2:∀ t,t<N->(wr.drewN nq1).cell? ⟨blk,off+t,none⟩=some (.int .i32 (G t)):=hcw;have hfw2:∀ t,t<N->(wr.drewN nq1).frozen? ⟨blk,off+t,none⟩=false:=hfw;clear HS hcw hfw;generalize wr.drewN nq1=wr2 at *;have HSZ:Hid (((dc.setIfInBounds (first+r) (G (first+2*r+2))).setIfInBounds (first+2*r+2) (G (first+r))).size=N):=(by show _=_;simp;exact zb HC);have HT2:Hid (tgt=if Sort.ltInt (G (first+r)) (G (first+2*r+2))=true then Sort.siftDown Sort.ltInt hi first (2*r+2) ((dc.setIfInBounds (first+r) (G (first+2*r+2))).setIfInBounds (first+2*r+2) (G (first+r))) else dc):=by
      show _=_;rw [zb HT,Jy h1 h2 (zb HL1),yg (zb HG),zb HG,zb HG]
     clear HT HG HL1 HC;go_big_quiet (first |(go_at_call 205;refine Calls.quiet_of_same (zz _ _ _)));go_wp2_with fail
     ·have hl2:Sort.ltInt (G (first+r)) (G (first+2*r+2))=false:=by have q:(!Sort.ltInt (G (first+r)) (G (first+2*r+2)))=true:=(by assumption);simpa using q
      (try simp only [Exit.inBlock,Exit.then]);refine bodyPost_ret (results_none rfl _ _ _) rfl ?_
      refine ⟨rfl,?_⟩;rw [zb HT2,if_neg (by rw [hl2];decide)];exact (zb HS2).drewN _
     ·have hl2:Sort.ltInt (G (first+r)) (G (first+2*r+2))=true:=(by have q:(!Sort.ltInt (G (first+r)) (G (first+2*r+2)))=false:=(by assumption);simpa using q);have HT3:Hid (tgt=Sort.siftDown Sort.ltInt hi first (2*r+2) ((dc.setIfInBounds (first+r) (G (first+2*r+2))).setIfInBounds (first+2*r+2) (G (first+r)))):=(by show _=_;rw [zb HT2,if_pos hl2]);clear HT2;go_region
      all_goals go_wp2
      go_roundw
      case rel=>exact ⟨2*r+2,_,by go_num,by omega,HSZ,(((zb HS2).drewN _).set (first+r) _).set (first+2*r+2) _,HT3⟩
      case measure=>simp [intOf];omega
    ·have HL1:Hid (Sort.ltInt dc[first+2*r+1]! dc[first+2*r+2]! = false):=by show _=_;rw [<-zb HG,<-zb HG];assumption
     revert nq;intro nq1
     have HS2:=zc ((zb HS).drewN nq1);have hcw2:∀ t,t<N->(wr.drewN nq1).cell? ⟨blk,off+t,none⟩=some (.int .i32 (G t)):=hcw;have hfw2:∀ t,t<N->(wr.drewN nq1).frozen? ⟨blk,off+t,none⟩=false:=hfw;clear HS hcw hfw;generalize wr.drewN nq1=wr2 at *;have HSZ:Hid (((dc.setIfInBounds (first+r) (G (first+2*r+1))).setIfInBounds (first+2*r+1) (G (first+r))).size=N):=(by show _=_;simp;exact zb HC);have HT2:Hid (tgt=if Sort.ltInt (G (first+r)) (G (first+2*r+1))=true then Sort.siftDown Sort.ltInt hi first (2*r+1) ((dc.setIfInBounds (first+r) (G (first+2*r+1))).setIfInBounds (first+2*r+1) (G (first+r))) else dc):=by
      show _=_;rw [zb HT,QE h1 (.inr (zb HL1)),yg (zb HG),zb HG,zb HG]
     clear HT HG HL1 HC;go_big_quiet (first |(go_at_call 205;refine Calls.quiet_of_same (zz _ _ _)));go_wp2_with fail
     ·have hl2:Sort.ltInt (G (first+r)) (G (first+2*r+1))=false:=by have q:(!Sort.ltInt (G (first+r)) (G (first+2*r+1)))=true:=(by assumption);simpa using q
      (try simp only [Exit.inBlock,Exit.then]);refine bodyPost_ret (results_none rfl _ _ _) rfl ?_
      refine ⟨rfl,?_⟩;rw [zb HT2,if_neg (by rw [hl2];decide)];exact (zb HS2).drewN _
     ·have hl2:Sort.ltInt (G (first+r)) (G (first+2*r+1))=true:=(by have q:(!Sort.ltInt (G (first+r)) (G (first+2*r+1)))=false:=(by assumption);simpa using q);have HT3:Hid (tgt=Sort.siftDown Sort.ltInt hi first (2*r+1) ((dc.setIfInBounds (first+r) (G (first+2*r+1))).setIfInBounds (first+2*r+1) (G (first+r)))):=(by show _=_;rw [zb HT2,if_pos hl2]);clear HT2;go_region
      all_goals go_wp2
      go_roundw
      case rel=>exact ⟨2*r+1,_,by go_num,by omega,HSZ,(((zb HS2).drewN _).set (first+r) _).set (first+2*r+1) _,HT3⟩
      case measure=>simp [intOf];omega
   ·have h2z:¬(2*(r:Int)+1+1<(hi:Int)):=(by omega);have h2d:decide (2*(r:Int)+1+1<(hi:Int))=false:=(by simp;omega);have h2e:(hi:Int)<=2*(r:Int)+1+1:=(by omega);have HL1:Hid (¬2*r+2<hi):=h2;go_wp2_with fail;go_big_quiet (first |(go_at_call 205;refine Calls.quiet_of_same (zz _ _ _)));go_wp2_with fail
    revert nq;intro nq1
    have HS2:=zc ((zb HS).drewN nq1);have hcw2:∀ t,t<N->(wr.drewN nq1).cell? ⟨blk,off+t,none⟩=some (.int .i32 (G t)):=hcw;have hfw2:∀ t,t<N->(wr.drewN nq1).frozen? ⟨blk,off+t,none⟩=false:=hfw;clear HS hcw hfw;generalize wr.drewN nq1=wr2 at *;have HSZ:Hid (((dc.setIfInBounds (first+r) (G (first+2*r+1))).setIfInBounds (first+2*r+1) (G (first+r))).size=N):=(by show _=_;simp;exact zb HC);have HT2:Hid (tgt=if Sort.ltInt (G (first+r)) (G (first+2*r+1))=true then Sort.siftDown Sort.ltInt hi first (2*r+1) ((dc.setIfInBounds (first+r) (G (first+2*r+1))).setIfInBounds (first+2*r+1) (G (first+r))) else dc):=by
     show _=_;rw [zb HT,QE h1 (.inl (zb HL1)),yg (zb HG),zb HG,zb HG]
    clear HT HG HL1 HC;go_big_quiet (first |(go_at_call 205;refine Calls.quiet_of_same (zz _ _ _)));go_wp2_with fail
    ·have hl2:Sort.ltInt (G (first+r)) (G (first+2*r+1))=false:=by have q:(!Sort.ltInt (G (first+r)) (G (first+2*r+1)))=true:=(by assumption);simpa using q
     (try simp only [Exit.inBlock,Exit.then]);refine bodyPost_ret (results_none rfl _ _ _) rfl ?_
     refine ⟨rfl,?_⟩;rw [zb HT2,if_neg (by rw [hl2];decide)];exact (zb HS2).drewN _
    ·have hl2:Sort.ltInt (G (first+r)) (G (first+2*r+1))=true:=(by have q:(!Sort.ltInt (G (first+r)) (G (first+2*r+1)))=false:=(by assumption);simpa using q);have HT3:Hid (tgt=Sort.siftDown Sort.ltInt hi first (2*r+1) ((dc.setIfInBounds (first+r) (G (first+2*r+1))).setIfInBounds (first+2*r+1) (G (first+r)))):=(by show _=_;rw [zb HT2,if_pos hl2]);clear HT2;go_region
     all_goals go_wp2
     go_roundw
     case rel=>exact ⟨2*r+1,_,by go_num,by omega,HSZ,(((zb HS2).drewN _).set (first+r) _).set (first+2*r+1) _,HT3⟩
     case measure=>simp [intOf];omega
theorem jD (hi first:Nat):∀ (n r:Nat) (d:Array Int),hi-r<=n->(Sort.siftDown Sort.ltInt hi first r d).size=d.size
 |0,r,d,h=>by
  unfold Sort.siftDown;rw [dif_pos (by omega)]
 |n+1,r,d,h=>by
  by_cases h1:hi<=2*r+1
  ·unfold Sort.siftDown;rw [dif_pos h1]
  ·by_cases h2:2*r+2<hi/\Sort.ltInt d[first+2*r+1]! d[first+2*r+2]! = true
   ·rw [Jy h1 h2.1 h2.2];split
    ·rw [jD hi first n _ _ (by omega),Yo]
    ·rfl
   ·rw [QE h1 (by by_cases h3:2*r+2<hi;exact .inr (by simpa using fun q=>h2 ⟨h3,q⟩);exact .inl h3)];split
    ·rw [jD hi first n _ _ (by omega),Yo]
    ·rfl
theorem Ex.two {a b:World}{blk off i j p q n:Nat}{d:Array Int}{y z:Int}(h:Ex a blk off d b)(hp:p=off+i)(hq:q=off+j):Ex a blk off ((d.setIfInBounds i y).setIfInBounds j z) (((b.drewN n).setCell ⟨blk,p,none⟩ (.int .i32 y)).setCell ⟨blk,q,none⟩ (.int .i32 z)):=by
 subst hp hq;exact ((h.drewN n).set i y).set j z
theorem heapE (h:Sort.Holds (Value.int .i32) w blk off d)(hab:a<b)(hb:b<=d.size)(hn:d.size<1099511627776) :
  Calls prog 200 #[.slice (some ⟨blk,off,none⟩) d.size cap,.int .i64 a,.int .i64 b] w fun e w'=>e = .returned (.tuple #[])/\Ex w blk off (Sort.heapSort Sort.ltInt d a b) w':=by
 have HH:=zc (Ex.refl h);clear h;generalize hN:d.size=N at *;have HN:=zc hN;clear hN;have HT:Hid (Sort.heapSort Sort.ltInt d a b=Sort.heapPop Sort.ltInt a (b-a) (Sort.heapBuild Sort.ltInt (b-a) a ((((b-a-1) / 2:Nat):Int)+1).toNat d)):=by
  show _=_;rw [show ((((b-a-1) / 2:Nat):Int)+1).toNat=(b-a-1) / 2+1 by omega];rfl
 generalize Sort.heapSort Sort.ltInt d a b=tgt at *;have HSF:Hid (∀ (i hi:Nat) (dc:Array Int) (W:World),dc.size=N->Sort.Holds (Value.int .i32) W blk off dc->i<=hi->a+hi<=N->Calls prog 229 #[.slice (some ⟨blk,off,none⟩) N cap,.int .i64 i,.int .i64 hi,.int .i64 a] W fun e w'=>e = .returned (.tuple #[])/\Ex W blk off (Sort.siftDown Sort.ltInt hi a i dc) w'):=fun i hi dc W h1 h2 h3 h4=>by
  subst h1;exact siftE blk off cap i hi a dc W h2 h3 h4 hn
 have hhalf:((b:Int)-a-1).tdiv 2=(((b-a-1) / 2:Nat):Int):=by
  rw [show (b:Int)-a-1=((b-a-1:Nat):Int) by omega];rfl
 go_enter func200,ntmps200;go_wp2_with fail;have e1:((b-a:Nat):Int)=(b:Int)-a:=by omega
 go_loopw [9] (fun vi wr=>∃ (i:Int) (dc:Array Int),vi = .int .i64 i/\-1<=i/\i<=((b-a-1:Nat):Int) / 2/\Hid (dc.size=N)/\Hid (Ex w blk off dc wr)/\Hid (tgt=Sort.heapPop Sort.ltInt a (b-a) (Sort.heapBuild Sort.ltInt (b-a) a (i+1).toNat dc))) (fun vi _=>(intOf vi+1).toNat)
 case atStart=>exact ⟨_,d,rfl,by omega,by omega,HN,HH,HT⟩
 case round=>
  clear HN HH HT;obtain ⟨i,dc,rfl,h0,h1,HC,HS,HT⟩:=hrel;by_cases hi:0<=i
  ·obtain ⟨i,rfl⟩:∃ q:Nat,i=q:=⟨i.toNat,by omega⟩
   have HT2:Hid (tgt=Sort.heapPop Sort.ltInt a (b-a) (Sort.heapBuild Sort.ltInt (b-a) a ((i:Int)-1+1).toNat (Sort.siftDown Sort.ltInt (b-a) a i dc))):=by
    show _=_;rw [zb HT,show ((i:Int)+1).toNat=i+1 by omega,show ((i:Int)-1+1).toNat=i by omega];rfl
   have HC2:Hid ((Sort.siftDown Sort.ltInt (b-a) a i dc).size=N):=(by show _=_;rw [jD _ _ (b-a-i) _ _ (z8 _)];exact zb HC);clear HT;go_wp2_with (go_at_call 229;have hs:=zb HSF i (b-a) dc _ (zb HC) (zb HS).2 (by omega) (by omega);rw [e1] at hs;refine hs.mono ?_;rintro e w1 ⟨rfl,hS1⟩;have HS1:=zc ((zb HS).trans hS1);clear hS1 hs);exact ⟨⟨(i:Int)-1,_,by go_num,by omega,by omega,HC2,HS1,HT2⟩,by simp [intOf]⟩
  ·have HT2:Hid (tgt=Sort.heapPop Sort.ltInt a ((b:Int)-a-1+1).toNat dc):=by
    show _=_;rw [zb HT,show (i+1).toNat=0 by omega,show ((b:Int)-a-1+1).toNat=b-a by omega];rfl
   clear HT;go_wp2_with fail;go_loopw [10] (fun vi wr=>∃ (i:Int) (dc:Array Int),vi = .int .i64 i/\-1<=i/\i<=(b:Int)-a-1/\Hid (dc.size=N)/\Hid (Ex w blk off dc wr)/\Hid (tgt=Sort.heapPop Sort.ltInt a (i+1).toNat dc)) (fun vi _=>(intOf vi+1).toNat)
   case atStart=>exact ⟨_,dc,rfl,by omega,YD _,HC,HS,HT2⟩
   case round=>
    clear HS HC HT2;obtain ⟨i,dc,rfl,h0,h1,HC,HS,HT⟩:=hrel;by_cases hi:0<=i
    ·obtain ⟨i,rfl⟩:∃ q:Nat,i=q:=⟨i.toNat,by omega⟩
     obtain ⟨G,HG,hcw,hfw⟩:=(zb HS).fam (zb HC);have d1:=hcw a (by omega);have d2:=hcw (a+i) (by omega);have g1:=hfw a (by omega);have g2:=hfw (a+i) (by omega);have HC1:Hid (((dc.setIfInBounds a (G (a+i))).setIfInBounds (a+i) (G a)).size=N):=(by show _=_;simp;exact zb HC);have HC2:Hid ((Sort.siftDown Sort.ltInt i a 0 ((dc.setIfInBounds a (G (a+i))).setIfInBounds (a+i) (G a))).size=N):=(by show _=_;rw [jD _ _ i _ _ (by omega)];exact zb HC1);have HT2:Hid (tgt=Sort.heapPop Sort.ltInt a ((i:Int)-1+1).toNat (Sort.siftDown Sort.ltInt i a 0 ((dc.setIfInBounds a (G (a+i))).setIfInBounds (a+i) (G a)))):=by
      show _=_;rw [zb HT,show ((i:Int)+1).toNat=i+1 by omega,show ((i:Int)-1+1).toNat=i by omega,yg (zb HG)];rfl
     clear HT HG;by_cases hi0:i=0
     ·subst hi0;go_wp2_with fail;go_region;go_wp2_with (go_at_call 229;refine (zb HSF 0 0 ((dc.setIfInBounds a (G (a+0))).setIfInBounds (a+0) (G a)) _ (zb HC1) ?_ (by omega) (by omega)).mono ?_;exact ((zb HS).two (by omega) (by omega)).2;rintro e w1 ⟨rfl,hS1⟩;have HS1:=zc (Ex.trans ((zb HS).two (i:=a) (j:=a+0) (y:=G (a+0)) (z:=G a) (by omega) (by omega)) hS1);clear hS1);exact ⟨⟨((0:Nat):Int)-1,_,by go_num,by omega,by omega,HC2,HS1,HT2⟩,by simp [intOf]⟩
     ·go_wp2_with fail;go_region;go_wp2_with (go_at_call 229;refine (zb HSF 0 i ((dc.setIfInBounds a (G (a+i))).setIfInBounds (a+i) (G a)) _ (zb HC1) ?_ (by omega) (by omega)).mono ?_;exact ((zb HS).two (by omega) (by omega)).2;rintro e w1 ⟨rfl,hS1⟩;have HS1:=zc (Ex.trans ((zb HS).two (i:=a) (j:=a+i) (y:=G (a+i)) (z:=G a) (by omega) (by omega)) hS1);clear hS1);exact ⟨⟨(i:Int)-1,_,by go_num,by omega,by omega,HC2,HS1,HT2⟩,by simp [intOf]⟩
    ·have HT2:Hid (tgt=dc):=by
      show _=_;rw [zb HT,show (i+1).toNat=0 by omega];rfl
     clear HT;go_wp2_with fail
     go_end0
     exact ⟨rfl,by rw [zb HT2];exact zb HS⟩
theorem YZ {d:Array Int}{a b s n:Nat}(ha:a<n)(hb:b<n):(Sort.order2 Sort.ltInt d a b s).1<n/\(Sort.order2 Sort.ltInt d a b s).2.1<n/\(Sort.order2 Sort.ltInt d a b s).2.2<=s+1:=by
 unfold Sort.order2;split
 ·exact ⟨hb,ha,z8 _⟩
 ·exact ⟨ha,hb,XR _⟩
theorem Ex.holds {w w':World}{P:Nat->Prop}{blk off:Nat}{d:Array Int}(h:Sort.Holds (Value.int .i32) w blk off d)(k:ze P w w')(hn:¬P blk):Sort.Holds (Value.int .i32) w' blk off d:=fun j hj=>by
 obtain ⟨h1,h2⟩:=h j hj;exact ⟨(k.cell (p:=⟨blk,off+j,none⟩) (zE w _ h1) hn).trans h1,(k.frozen (p:=⟨blk,off+j,none⟩) (zE w _ h1) hn).trans h2⟩
theorem order2E (h:Sort.Holds (Value.int .i32) w blk off d)(ha:a<d.size)(hb:b<d.size)(_hsb:sb≠blk)(hc:Cnt w sb (s:Nat))(hs:s<1000000)(_hn:d.size<1099511627776) :
  Calls prog 264 #[.slice (some ⟨blk,off,none⟩) d.size cap,.int .i64 a,.int .i64 b,.pointer (some ⟨sb,0,none⟩)] w fun e w'=>e = .returned (.tuple #[.int .i64 ((Sort.order2 Sort.ltInt d a b s).1:Nat),.int .i64 ((Sort.order2 Sort.ltInt d a b s).2.1:Nat)])/\ze (zt sb) w w'/\Cnt w' sb ((Sort.order2 Sort.ltInt d a b s).2.2:Nat):=by
 obtain ⟨G,HG,hcw,hfw⟩:=(Ex.refl h).fam (N:=d.size) rfl;obtain ⟨hc,hf⟩:=hc;have HO:Hid (ze (zt sb) w w):=ze.refl _ _;have HT:Hid (Sort.order2 Sort.ltInt d a b s=if Sort.ltInt (G b) (G a)=true then (b,a,s+1) else (a,b,s)):=by show _=_;unfold Sort.order2;rw [zb HG,zb HG]
 generalize Sort.order2 Sort.ltInt d a b s=tgt at *;clear h HG;go_enter func264,ntmps264;go_wp2_with fail;go_big_quiet (first |(go_at_call 205;refine Calls.quiet_of_same (zz _ _ _)));go_wp2_with fail
 ·have hl:Sort.ltInt (G b) (G a)=true:=by assumption
  go_ret2;rw [zb HT,if_pos hl];exact ⟨rfl,((zb HO).drewN _).mine _ _,yY _ _ _ hc,(zk _ _ _ _).trans hf⟩
 ·have hl:Sort.ltInt (G b) (G a)=false:=by assumption
  go_ret2;rw [zb HT,if_neg (by rw [hl];decide)];exact ⟨rfl,(zb HO).drewN _,hc,hf⟩
theorem za2 (c sb s:Nat)(d:Array Int)(w:World)(h:Sort.Holds (Value.int .i32) w blk off d)(ha:a<d.size)(hb:b<d.size)(hc:c<d.size)(hsb:sb≠blk)(hC:Cnt w sb (s:Nat))(hs:s<1000)(hn:d.size<1099511627776) :
  Calls prog 233 #[.slice (some ⟨blk,off,none⟩) d.size cap,.int .i64 a,.int .i64 b,.int .i64 c,.pointer (some ⟨sb,0,none⟩)] w fun e w'=>e = .returned (.int .i64 ((Sort.median Sort.ltInt d a b c s).1:Nat))/\ze (zt sb) w w'/\Cnt w' sb ((Sort.median Sort.ltInt d a b c s).2:Nat):=by
 have HH:=zc h;have HC:=zc hC;clear h hC;have hm:¬zt sb blk:=fun e=>hsb e.symm;have HX:Hid (∀ (x y t:Nat) (W:World),Sort.Holds (Value.int .i32) W blk off d->x<d.size->y<d.size->Cnt W sb (t:Nat)->t<1000000->Calls prog 264 #[.slice (some ⟨blk,off,none⟩) d.size cap,.int .i64 x,.int .i64 y,.pointer (some ⟨sb,0,none⟩)] W fun e w'=>e = .returned (.tuple #[.int .i64 ((Sort.order2 Sort.ltInt d x y t).1:Nat),.int .i64 ((Sort.order2 Sort.ltInt d x y t).2.1:Nat)])/\ze (zt sb) W w'/\Cnt w' sb ((Sort.order2 Sort.ltInt d x y t).2.2:Nat)):=fun x y t W h1 h2 h3 h4 h5=>order2E blk off cap x y sb t d W h1 h2 h3 hsb h4 h5 hn;have HT:Hid (Sort.median Sort.ltInt d a b c s=((Sort.order2 Sort.ltInt d (Sort.order2 Sort.ltInt d a b s).1 (Sort.order2 Sort.ltInt d (Sort.order2 Sort.ltInt d a b s).2.1 c (Sort.order2 Sort.ltInt d a b s).2.2).1 (Sort.order2 Sort.ltInt d (Sort.order2 Sort.ltInt d a b s).2.1 c (Sort.order2 Sort.ltInt d a b s).2.2).2.2).2.1,(Sort.order2 Sort.ltInt d (Sort.order2 Sort.ltInt d a b s).1 (Sort.order2 Sort.ltInt d (Sort.order2 Sort.ltInt d a b s).2.1 c (Sort.order2 Sort.ltInt d a b s).2.2).1 (Sort.order2 Sort.ltInt d (Sort.order2 Sort.ltInt d a b s).2.1 c (Sort.order2 Sort.ltInt d a b s).2.2).2.2).2.2)):=rfl;generalize Sort.median Sort.ltInt d a b c s=tgt at *;have i1:=YZ (d:=d) (s:=s) ha hb;have X1:=zc (zb HX a b s w (zb HH) ha hb (zb HC) (by omega));generalize Sort.order2 Sort.ltInt d a b s=r1 at *;have i2:=YZ (d:=d) (s:=r1.2.2) i1.2.1 hc;go_enter func233,ntmps233;go_wp2_with fail;refine (zb X1).mono ?_;rintro e w1 ⟨rfl,hO1,hC1⟩;have HH1:=zc (Ex.holds (zb HH) hO1 hm);have X2:=zc (zb HX r1.2.1 c r1.2.2 w1 (zb HH1) i1.2.1 hc hC1 (by omega));generalize Sort.order2 Sort.ltInt d r1.2.1 c r1.2.2=r2 at *;have i3:=YZ (d:=d) (s:=r2.2.2) i1.1 i2.1;have HO1:=zc hO1;clear hO1 hC1;go_wp2_with fail;refine (zb X2).mono ?_;rintro e w2 ⟨rfl,hO2,hC2⟩;have HH2:=zc (Ex.holds (zb HH1) hO2 hm);have X3:=zc (zb HX r1.1 r2.1 r2.2.2 w2 (zb HH2) i1.1 i2.1 hC2 (by omega));generalize Sort.order2 Sort.ltInt d r1.1 r2.1 r2.2.2=r3 at *;have HO2:=zc ((zb HO1).trans hO2);clear hO2 hC2;go_wp2_with fail;refine (zb X3).mono ?_;rintro e w3 ⟨rfl,hO3,hC3⟩;have HO3:=zc ((zb HO2).trans hO3);have HC3:=zc hC3;clear hO3 hC3;go_wp2_with fail;go_ret;rw [zb HT];exact ⟨rfl,zb HO3,zb HC3⟩
theorem zaa (h:Sort.Holds (Value.int .i32) w blk off d)(ha1:1<=a)(ha:a+1<d.size)(hsb:sb≠blk)(hC:Cnt w sb (s:Nat))(hs:s<1000)(hn:d.size<1099511627776) :
  Calls prog 232 #[.slice (some ⟨blk,off,none⟩) d.size cap,.int .i64 a,.pointer (some ⟨sb,0,none⟩)] w fun e w'=>e = .returned (.int .i64 ((Sort.medianAdjacent Sort.ltInt d a s).1:Nat))/\ze (zt sb) w w'/\Cnt w' sb ((Sort.medianAdjacent Sort.ltInt d a s).2:Nat):=by
 have HM:=zc (za2 blk off cap (a-1) a (a+1) sb s d w h (by omega) (by omega) (by omega) hsb hC hs hn);rw [show ((a-1:Nat):Int)=(a:Int)-1 by omega,show ((a+1:Nat):Int)=(a:Int)+1 by omega] at HM;have HT:Hid (Sort.medianAdjacent Sort.ltInt d a s=Sort.median Sort.ltInt d (a-1) a (a+1) s):=rfl;generalize Sort.medianAdjacent Sort.ltInt d a s=tgt at *;generalize Sort.median Sort.ltInt d (a-1) a (a+1) s=r at *;clear h hC;go_enter func232,ntmps232;go_wp2_with (go_at_call 233;refine (zb HM).mono ?_;rintro e w1 ⟨rfl,hO,hC⟩;have HO:=zc hO;have HC:=zc hC;clear hO hC);go_ret;rw [zb HT];exact ⟨rfl,zb HO,zb HC⟩
theorem QF {P:Nat->Prop}{d:Array Int}{a b s:Nat}(ha:P a)(hb:P b):P (Sort.order2 Sort.ltInt d a b s).1/\P (Sort.order2 Sort.ltInt d a b s).2.1/\(Sort.order2 Sort.ltInt d a b s).2.2<=s+1:=by
 unfold Sort.order2;split
 ·exact ⟨hb,ha,z8 _⟩
 ·exact ⟨ha,hb,XR _⟩
theorem Yp {P:Nat->Prop}{d:Array Int}{a b c s:Nat}(ha:P a)(hb:P b)(hc:P c):P (Sort.median Sort.ltInt d a b c s).1/\(Sort.median Sort.ltInt d a b c s).2<=s+3:=by
 have h1:=QF (d:=d) (s:=s) ha hb;have h2:=QF (d:=d) (s:=(Sort.order2 Sort.ltInt d a b s).2.2) h1.2.1 hc;have h3:=QF (d:=d) (s:=(Sort.order2 Sort.ltInt d (Sort.order2 Sort.ltInt d a b s).2.1 c (Sort.order2 Sort.ltInt d a b s).2.2).2.2) h1.1 h2.1;refine ⟨h3.2.1,?_⟩;have:=h3.2.2;show (Sort.order2 Sort.ltInt d (Sort.order2 Sort.ltInt d a b s).1 _ _).2.2<=_;omega
def vN:Sort.Hint->Int
 | .unknown=>0
 | .increasing=>1
 | .decreasing=>2
theorem zcN {d:Array Int}{a L q:Nat}(h50:50<=L)(hq:q=L / 4):Sort.choosePivot Sort.ltInt d a (a+L)=((Sort.median Sort.ltInt d (Sort.medianAdjacent Sort.ltInt d (a+q) 0).1 (Sort.medianAdjacent Sort.ltInt d (a+q*2) (Sort.medianAdjacent Sort.ltInt d (a+q) 0).2).1 (Sort.medianAdjacent Sort.ltInt d (a+q*3) (Sort.medianAdjacent Sort.ltInt d (a+q*2) (Sort.medianAdjacent Sort.ltInt d (a+q) 0).2).2).1 (Sort.medianAdjacent Sort.ltInt d (a+q*3) (Sort.medianAdjacent Sort.ltInt d (a+q*2) (Sort.medianAdjacent Sort.ltInt d (a+q) 0).2).2).2).1,if (Sort.median Sort.ltInt d (Sort.medianAdjacent Sort.ltInt d (a+q) 0).1 (Sort.medianAdjacent Sort.ltInt d (a+q*2) (Sort.medianAdjacent Sort.ltInt d (a+q) 0).2).1 (Sort.medianAdjacent Sort.ltInt d (a+q*3) (Sort.medianAdjacent Sort.ltInt d (a+q*2) (Sort.medianAdjacent Sort.ltInt d (a+q) 0).2).2).1 (Sort.medianAdjacent Sort.ltInt d (a+q*3) (Sort.medianAdjacent Sort.ltInt d (a+q*2) (Sort.medianAdjacent Sort.ltInt d (a+q) 0).2).2).2).2=0 then .increasing else if (Sort.median Sort.ltInt d (Sort.medianAdjacent Sort.ltInt d (a+q) 0).1 (Sort.medianAdjacent Sort.ltInt d (a+q*2) (Sort.medianAdjacent Sort.ltInt d (a+q) 0).2).1 (Sort.medianAdjacent Sort.ltInt d (a+q*3) (Sort.medianAdjacent Sort.ltInt d (a+q*2) (Sort.medianAdjacent Sort.ltInt d (a+q) 0).2).2).1 (Sort.medianAdjacent Sort.ltInt d (a+q*3) (Sort.medianAdjacent Sort.ltInt d (a+q*2) (Sort.medianAdjacent Sort.ltInt d (a+q) 0).2).2).2).2=12 then .decreasing else .unknown):=by
 unfold Sort.choosePivot;simp only [Nat.add_sub_cancel_left,<-hq,Nat.mul_one];rw [if_pos (by omega),if_pos (by omega)]
theorem VW {d:Array Int}{a L q:Nat}(h50:¬50<=L)(h8:8<=L)(hq:q=L / 4):Sort.choosePivot Sort.ltInt d a (a+L)=((Sort.median Sort.ltInt d (a+q) (a+q*2) (a+q*3) 0).1,if (Sort.median Sort.ltInt d (a+q) (a+q*2) (a+q*3) 0).2=0 then .increasing else if (Sort.median Sort.ltInt d (a+q) (a+q*2) (a+q*3) 0).2=12 then .decreasing else .unknown):=by
 unfold Sort.choosePivot;simp only [Nat.add_sub_cancel_left,<-hq,Nat.mul_one];rw [if_pos (by omega),if_neg (by omega)]
theorem pivotE (h:Sort.Holds (Value.int .i32) w blk off d)(hblk:blk<w.heap.size)(hab:a+12<b)(hb:b<=d.size)(hn:d.size<1099511627776) :
  Calls prog 202 #[.slice (some ⟨blk,off,none⟩) d.size cap,.int .i64 a,.int .i64 b] w fun e w'=>e = .returned (.tuple #[.int .i64 ((Sort.choosePivot Sort.ltInt d a b).1:Nat),.int .i64 (vN (Sort.choosePivot Sort.ltInt d a b).2)])/\Q8 w w':=by
 have HH:=zc h;clear h;obtain ⟨L,rfl⟩:∃ L,b=a+L:=⟨b-a,by omega⟩
 obtain ⟨q,hq⟩:∃ q,q=L / 4:=⟨_,rfl⟩
 have hq4:(L:Int).tdiv 4=q:=by rw [hq];rfl
 have hq4':(L:Int) / 4=q:=by rw [hq];rfl
 have hqL:4*q<=L/\L<4*q+4:=by omega
 have e0:(a:Int)+L-a=L:=by omega
 have e1:((a+q:Nat):Int)=(a:Int)+q:=by omega
 have e2:((a+q*2:Nat):Int)=(a:Int)+q*2:=by omega
 have e3:((a+q*3:Nat):Int)=(a:Int)+q*3:=by omega
 have HA:Hid (Q8 w (w.alloc (.cells #[.int .i64 0] 3))):=(ze.refl _ _).alloc _;have HR:=zc (Ex.holds (zb HH) (zb HA) (fun f=>f));have HC0:Hid (Cnt (w.alloc (.cells #[.int .i64 0] 3)) w.heap.size ((0:Nat):Int)):=⟨zm w _ rfl _ _ 0 _ rfl,zG w _ rfl _ _ 0⟩
 have hne:w.heap.size≠blk:=by omega
 have hm:¬zt w.heap.size blk:=fun e=>hne e.symm;have HY:Hid (∀ A B:World,Q8 w A->ze (zt w.heap.size) A B->Q8 w B):=fun A B hA hB=>W9 hA hB;have HMA:Hid (∀ (x s:Nat) (W:World),Sort.Holds (Value.int .i32) W blk off d->1<=x->x+1<d.size->Cnt W w.heap.size (s:Nat)->s<1000->Calls prog 232 #[.slice (some ⟨blk,off,none⟩) d.size cap,.int .i64 x,.pointer (some ⟨w.heap.size,0,none⟩)] W fun e w'=>e = .returned (.int .i64 ((Sort.medianAdjacent Sort.ltInt d x s).1:Nat))/\ze (zt w.heap.size) W w'/\Cnt w' w.heap.size ((Sort.medianAdjacent Sort.ltInt d x s).2:Nat)):=fun x s W h1 h2 h3 h4 h5=>zaa blk off cap x w.heap.size s d W h1 h2 h3 hne h4 h5 hn;have HME:Hid (∀ (x y z s:Nat) (W:World),Sort.Holds (Value.int .i32) W blk off d->x<d.size->y<d.size->z<d.size->Cnt W w.heap.size (s:Nat)->s<1000->Calls prog 233 #[.slice (some ⟨blk,off,none⟩) d.size cap,.int .i64 x,.int .i64 y,.int .i64 z,.pointer (some ⟨w.heap.size,0,none⟩)] W fun e w'=>e = .returned (.int .i64 ((Sort.median Sort.ltInt d x y z s).1:Nat))/\ze (zt w.heap.size) W w'/\Cnt w' w.heap.size ((Sort.median Sort.ltInt d x y z s).2:Nat)):=fun x y z s W h1 h2 h3 h4 h5 h6=>za2 blk off cap x y z w.heap.size s d W h1 h2 h3 h4 hne h5 h6 hn;go_enter func202,ntmps202;by_cases h50:50<=L
 ·have HT:=zc (zcN (d:=d) (a:=a) h50 hq);generalize Sort.choosePivot Sort.ltInt d a (a+L)=tgt at *;clear hq hq4;go_wp2_with fail
  try simp only [e0,hq4']
  generalize w.alloc (.cells #[.int .i64 0] 3)=w0 at *;have p1:=Yp (P:=fun x=>a<=x/\x<a+L) (d:=d) (a:=a+q-1) (b:=a+q) (c:=a+q+1) (s:=0) (by omega) (by omega) (by omega);have hM:=zb HMA (a+q) 0 w0 (zb HR) (by omega) (by omega) (zb HC0) (by omega);rw [show Sort.median Sort.ltInt d (a+q-1) (a+q) (a+q+1) 0=Sort.medianAdjacent Sort.ltInt d (a+q) 0 from rfl] at p1;generalize Sort.medianAdjacent Sort.ltInt d (a+q) 0=r1 at *;rw [e1] at hM;refine hM.mono ?_;clear hM;rintro e w1 ⟨rfl,hO1,hC1⟩;have HA1:=zc (zb HY _ _ (zb HA) hO1);have HR1:=zc (Ex.holds (zb HR) hO1 hm);have p2:=Yp (P:=fun x=>a<=x/\x<a+L) (d:=d) (a:=a+q*2-1) (b:=a+q*2) (c:=a+q*2+1) (s:=r1.2) (by omega) (by omega) (by omega);have HM2:=zc (zb HMA (a+q*2) r1.2 w1 (zb HR1) (by omega) (by omega) hC1 (by omega));rw [show Sort.median Sort.ltInt d (a+q*2-1) (a+q*2) (a+q*2+1) r1.2=Sort.medianAdjacent Sort.ltInt d (a+q*2) r1.2 from rfl] at p2;generalize Sort.medianAdjacent Sort.ltInt d (a+q*2) r1.2=r2 at *;clear hO1 hC1;go_wp2_with fail;have hM:=zb HM2;rw [e2] at hM;refine hM.mono ?_;clear hM HM2;rintro e w2 ⟨rfl,hO2,hC2⟩;have HA2:=zc (zb HY _ _ (zb HA1) hO2);have HR2:=zc (Ex.holds (zb HR1) hO2 hm);have p3:=Yp (P:=fun x=>a<=x/\x<a+L) (d:=d) (a:=a+q*3-1) (b:=a+q*3) (c:=a+q*3+1) (s:=r2.2) (by omega) (by omega) (by omega);have HM3:=zc (zb HMA (a+q*3) r2.2 w2 (zb HR2) (by omega) (by omega) hC2 (by omega));rw [show Sort.median Sort.ltInt d (a+q*3-1) (a+q*3) (a+q*3+1) r2.2=Sort.medianAdjacent Sort.ltInt d (a+q*3) r2.2 from rfl] at p3;generalize Sort.medianAdjacent Sort.ltInt d (a+q*3) r2.2=r3 at *;clear hO2 hC2;go_wp2_with fail;have hM:=zb HM3;rw [e3] at hM;refine hM.mono ?_;clear hM HM3;rintro e w3 ⟨rfl,hO3,hC3⟩;have HA3:=zc (zb HY _ _ (zb HA2) hO3);have HR3:=zc (Ex.holds (zb HR2) hO3 hm);have HM4:=zc (zb HME r1.1 r2.1 r3.1 r3.2 w3 (zb HR3) (by omega) (by omega) (by omega) hC3 (by omega));generalize Sort.median Sort.ltInt d r1.1 r2.1 r3.1 r3.2=r4 at *;clear hO3 hC3;go_wp2_with fail;refine (zb HM4).mono ?_;clear HM4;rintro e w4 ⟨rfl,hO4,hC4⟩;have HA4:=zc (zb HY _ _ (zb HA3) hO4);have c4:=hC4.1;clear hO4 hC4;obtain ⟨x4,s4⟩:=r4;simp only [] at HT c4 ⊢;by_cases z0:s4=0
  ·subst z0;go_wp2_with fail;go_ret2;rw [zb HT];exact ⟨rfl,zb HA4⟩
  ·by_cases z1:s4=12
   ·subst z1;go_wp2_with fail;go_ret2;rw [zb HT];exact ⟨rfl,zb HA4⟩
   ·have y0:((s4:Int) == 0)=false:=(by simp;omega);have y1:((s4:Int) == 12)=false:=(by simp;omega);go_wp2_with fail;go_ret2;rw [zb HT,if_neg z0,if_neg z1];exact ⟨rfl,zb HA4⟩
 ·have HT:=zc (VW (d:=d) (a:=a) h50 (by omega) hq);generalize Sort.choosePivot Sort.ltInt d a (a+L)=tgt at *;clear hq hq4;go_wp2_with fail
  try simp only [e0,hq4']
  generalize w.alloc (.cells #[.int .i64 0] 3)=w0 at *;have p4:=Yp (P:=fun x=>a<=x/\x<a+L) (d:=d) (a:=a+q) (b:=a+q*2) (c:=a+q*3) (s:=0) (by omega) (by omega) (by omega);have hM:=zb HME (a+q) (a+q*2) (a+q*3) 0 w0 (zb HR) (by omega) (by omega) (by omega) (zb HC0) (by omega);generalize Sort.median Sort.ltInt d (a+q) (a+q*2) (a+q*3) 0=r4 at *;rw [e1,e2,e3] at hM;refine hM.mono ?_;clear hM;rintro e w4 ⟨rfl,hO4,hC4⟩;have HA4:=zc (zb HY _ _ (zb HA) hO4);have c4:=hC4.1;clear hO4 hC4;obtain ⟨x4,s4⟩:=r4;simp only [] at HT c4 p4 ⊢;by_cases z0:s4=0
  ·subst z0;go_wp2_with fail;go_ret2;rw [zb HT];exact ⟨rfl,zb HA4⟩
  ·have z1:s4≠12:=(by omega);have y0:((s4:Int) == 0)=false:=(by simp;omega);have y1:((s4:Int) == 12)=false:=(by simp;omega);go_wp2_with fail;go_ret2;rw [zb HT,if_neg z0,if_neg z1];exact ⟨rfl,zb HA4⟩
set_option maxHeartbeats 4000000
set_option maxRecDepth 1000000
def upT (b i:Nat)(d:Array Int):Array Int:=if b-i≥2 then Sort.shiftUp Sort.ltInt b (i+1) d else d
variable {b d}
theorem KB (h:b-i≥2):upT b i d=Sort.shiftUp Sort.ltInt b (i+1) d:=if_pos h
theorem zab (h:¬b-i≥2):upT b i d=d:=if_neg h
def Xr (a b k i:Nat)(d:Array Int):Array Int×Bool:=if i=b then (d,true) else if b-a<50 then (d,false) else Sort.partialIns Sort.ltInt a b k i (upT b i (if i-a≥2 then Sort.shiftDown Sort.ltInt (i-1) (Sort.swp d i (i-1)) else Sort.swp d i (i-1)))
theorem KC (b k i:Nat)(d:Array Int):Sort.partialIns Sort.ltInt a b (k+1) i d=Xr a b k (Sort.scanSorted Sort.ltInt d b i) d:=rfl
theorem za3 {b i:Nat}(h:i<b)(hl:Sort.ltInt d[i]! d[i-1]! = false):Sort.scanSorted Sort.ltInt d b i=Sort.scanSorted Sort.ltInt d b (i+1):=by
 conv=>lhs;unfold Sort.scanSorted
 rw [if_pos (by rw [hl];simp [h])]
theorem Y0 {b i:Nat}(h:¬i<b\/Sort.ltInt d[i]! d[i-1]! = true):Sort.scanSorted Sort.ltInt d b i=i:=by
 unfold Sort.scanSorted;rw [if_neg (by rcases h with h |h;simp [h];rw [h];simp)]
theorem za4 (h:1<=j)(hl:Sort.ltInt d[j]! d[j-1]! = false):Sort.shiftDown Sort.ltInt j d=d:=by
 obtain ⟨k,rfl⟩:∃ k,j=k+1:=⟨j-1,by omega⟩
 unfold Sort.shiftDown;rw [if_pos (by simp at hl;rw [hl];rfl)]
theorem sd_go (h:1<=j)(hl:Sort.ltInt d[j]! d[j-1]! = true):Sort.shiftDown Sort.ltInt j d=Sort.shiftDown Sort.ltInt (j-1) (Sort.swp d j (j-1)):=by
 obtain ⟨k,rfl⟩:∃ k,j=k+1:=⟨j-1,by omega⟩
 conv=>lhs;unfold Sort.shiftDown
 rw [if_neg (by simp at hl;rw [hl];decide)];rfl
theorem KD {b j:Nat}(h:j<b)(hl:Sort.ltInt d[j]! d[j-1]! = false):Sort.shiftUp Sort.ltInt b j d=d:=by
 unfold Sort.shiftUp;rw [if_pos h,if_pos (by rw [hl];rfl)]
theorem su_go {b j:Nat}(h:j<b)(hl:Sort.ltInt d[j]! d[j-1]! = true):Sort.shiftUp Sort.ltInt b j d=Sort.shiftUp Sort.ltInt b (j+1) (Sort.swp d j (j-1)):=by
 conv=>lhs;unfold Sort.shiftUp
 rw [if_pos h,if_neg (by rw [hl];decide)]
theorem zac {b j:Nat}(h:¬j<b):Sort.shiftUp Sort.ltInt b j d=d:=by
 unfold Sort.shiftUp;rw [if_neg h]
variable (b d)
theorem partialE (h:Sort.Holds (Value.int .i32) w blk off d)(hab:a<b)(hb:b<=d.size)(hn:d.size<1099511627776) :
  Calls prog 204 #[.slice (some ⟨blk,off,none⟩) d.size cap,.int .i64 a,.int .i64 b] w fun e w'=>e = .returned (.bool (Sort.partialInsertionSort Sort.ltInt d a b).2)/\Ex w blk off (Sort.partialInsertionSort Sort.ltInt d a b).1 w':=by
 have HH:=zc (Ex.refl h);clear h;generalize hN:d.size=N at *;have HN:=zc hN;clear hN;have HT:Hid (Sort.partialInsertionSort Sort.ltInt d a b=Sort.partialIns Sort.ltInt a b (5-0) (a+1) d):=rfl;generalize Sort.partialInsertionSort Sort.ltInt d a b=tgt at *;go_enter func204,ntmps204;go_wp2_with fail;go_loopw [7,8] (fun vi vs wr=>∃ (i s:Nat) (dc:Array Int),vi = .int .i64 i/\vs = .int .i64 s/\a<i/\i<=b/\s<=5/\Hid (dc.size=N)/\Hid (Ex w blk off dc wr)/\Hid (tgt=Sort.partialIns Sort.ltInt a b (5-s) i dc)) (fun vi vs _=>5-(intOf vs).toNat)
 case atStart=>exact ⟨a+1,0,d,by go_num,rfl,by omega,by omega,by omega,HN,HH,HT⟩
 case round=>
  clear HN HH HT;obtain ⟨i0,s,dc,rfl,rfl,hai0,hib0,hs,HC,HX,HE⟩:=hrel;by_cases h5:s<5
  ·have h5z:(s:Int)<5:=(by omega);have HE1:Hid (tgt=Xr a b (4-s) (Sort.scanSorted Sort.ltInt dc b i0) dc):=(by show _=_;rw [zb HE,show 5-s=(4-s)+1 by omega,KC]);clear HE;go_wp2_with fail;go_loopw [7] (fun vi wr=>∃ i:Nat,vi = .int .i64 i/\a<i/\i<=b/\Hid (Ex w blk off dc wr)/\Hid (tgt=Xr a b (4-s) (Sort.scanSorted Sort.ltInt dc b i) dc)) (fun vi _=>b-(intOf vi).toNat)
   case atStart=>exact ⟨i0,rfl,hai0,hib0,HX,HE1⟩
   case round=>
    clear HX HE1;obtain ⟨i,rfl,hai,hib,HX,HE⟩:=hrel;by_cases hilt:i<b
    ·have hne:((i:Int) == (b:Int))=false:=(by simp;omega);obtain ⟨G,HG,hcw,hfw⟩:=(zb HX).fam (zb HC);by_cases h50:(b:Int)-a<50
     ·go_wp2_with fail;go_big_quiet (first |(go_at_call 205;refine Calls.quiet_of_same (zz _ _ _)));go_wp2_with fail
      ·have hl:Sort.ltInt (G i) (G (i-1))=false:=(by have q:(!Sort.ltInt (G i) (G (i-1)))=true:=(by assumption);simpa using q);have HE2:Hid (tgt=Xr a b (4-s) (Sort.scanSorted Sort.ltInt dc b (i+1)) dc):=(by show _=_;rw [zb HE,za3 hilt (by rw [<-zb HG,<-zb HG];exact hl)]);go_roundw
       case rel=>exact ⟨i+1,by go_num,by omega,by omega,(zb HX).drewN _,HE2⟩
       case measure=>simp [intOf];omega
      ·have hl:Sort.ltInt (G i) (G (i-1))=true:=(by have q:(!Sort.ltInt (G i) (G (i-1)))=false:=(by assumption);simpa using q);have HE2:Hid (tgt=(dc,false)):=(by show _=_;rw [zb HE,Y0 (.inr (by rw [<-zb HG,<-zb HG];exact hl))];unfold Xr;rw [if_neg (by omega),if_pos (by omega)]);go_ret;rw [zb HE2];exact ⟨rfl,(zb HX).drewN _⟩
     ·have h50d:decide ((b:Int)-a<50)=false:=(by simp;omega);go_wp2_with fail;go_big_quiet (first |(go_at_call 205;refine Calls.quiet_of_same (zz _ _ _)));go_wp2_with fail
      ·have hl:Sort.ltInt (G i) (G (i-1))=false:=(by have q:(!Sort.ltInt (G i) (G (i-1)))=true:=(by assumption);simpa using q);have HE2:Hid (tgt=Xr a b (4-s) (Sort.scanSorted Sort.ltInt dc b (i+1)) dc):=(by show _=_;rw [zb HE,za3 hilt (by rw [<-zb HG,<-zb HG];exact hl)]);go_roundw
       case rel=>exact ⟨i+1,by go_num,by omega,by omega,(zb HX).drewN _,HE2⟩
       case measure=>simp [intOf];omega
      ·have hl:Sort.ltInt (G i) (G (i-1))=true:=(by have q:(!Sort.ltInt (G i) (G (i-1)))=false:=(by assumption);simpa using q);have HE3:Hid (tgt=Sort.partialIns Sort.ltInt a b (4-s) i (upT b i (if i-a≥2 then Sort.shiftDown Sort.ltInt (i-1) ((dc.setIfInBounds i (G (i-1))).setIfInBounds (i-1) (G i)) else (dc.setIfInBounds i (G (i-1))).setIfInBounds (i-1) (G i)))):=(by show _=_;rw [zb HE,Y0 (.inr (by rw [<-zb HG,<-zb HG];exact hl)),yg (zb HG)];unfold Xr;rw [if_neg (by omega),if_neg (by omega)]);have HC3:Hid (((dc.setIfInBounds i (G (i-1))).setIfInBounds (i-1) (G i)).size=N):=by show _=_;simp;exact zb HC
       revert nq;intro nq1
       have HX2:=zc ((zb HX).drewN nq1);have hcw2:∀ t,t<N->(wr.drewN nq1).cell? ⟨blk,off+t,none⟩=some (.int .i32 (G t)):=hcw;have hfw2:∀ t,t<N->(wr.drewN nq1).frozen? ⟨blk,off+t,none⟩=false:=hfw;clear HX HE HG hcw hfw hl HC;generalize wr.drewN nq1=wr2 at *;go_region;have HX3:=zc ((zb HX2).two (p:=off+i) (q:=off+(i-1)) (n:=1) (y:=G (i-1)) (z:=G i) rfl rfl);generalize (dc.setIfInBounds i (G (i-1))).setIfInBounds (i-1) (G i)=dj at *;have HX:=HX3;have HC:=HC3;have HE:=HE3;clear HX3 HC3 HE3 HX2;go_upto_if 61 with fail;go_cut [9] from 13 to 132 (fun _ wx=>∃ dj:Array Int,Hid (dj.size=N)/\Hid (Ex w blk off dj wx)/\Hid (tgt=Sort.partialIns Sort.ltInt a b (4-s) i (upT b i dj)))
       case first=>
        by_cases ha2:2<=(i:Int)-a
        ·go_wp2_with fail;go_loopw [9] (fun vj wr2=>∃ (j:Nat) (dj:Array Int),vj = .int .i64 j/\j<i/\Hid (dj.size=N)/\Hid (Ex w blk off dj wr2)/\Hid (tgt=Sort.partialIns Sort.ltInt a b (4-s) i (upT b i (Sort.shiftDown Sort.ltInt j dj)))) (fun vj _=>(intOf vj).toNat)
         case atStart=>exact ⟨i-1,_,by congr 1;omega,by omega,HC,HX,(zb HE).trans (by rw [if_pos (by omega)])⟩
         case round=>
          clear HX HC HE;obtain ⟨j,dj,rfl,hji,HC,HX,HE⟩:=hrel;by_cases hj1:1<=(j:Int)
          ·obtain ⟨G,HG,hcw,hfw⟩:=(zb HX).fam (zb HC);go_wp2_with fail;go_big_quiet (first |(go_at_call 205;refine Calls.quiet_of_same (zz _ _ _)));go_wp2_with fail
           ·have hl:Sort.ltInt (G j) (G (j-1))=false:=(by have q:(!Sort.ltInt (G j) (G (j-1)))=true:=(by assumption);simpa using q);go_meet
            case rel=>exact ⟨dj,HC,(zb HX).drewN _,by show _=_;rw [zb HE,za4 (by omega) (by rw [<-zb HG,<-zb HG];exact hl)]⟩
           ·have hl:Sort.ltInt (G j) (G (j-1))=true:=(by have q:(!Sort.ltInt (G j) (G (j-1)))=false:=(by assumption);simpa using q);have HE2:Hid (tgt=Sort.partialIns Sort.ltInt a b (4-s) i (upT b i (Sort.shiftDown Sort.ltInt (j-1) ((dj.setIfInBounds j (G (j-1))).setIfInBounds (j-1) (G j))))):=(by show _=_;rw [zb HE,sd_go (by omega) (by rw [<-zb HG,<-zb HG];exact hl),yg (zb HG)]);have HC2:Hid (((dj.setIfInBounds j (G (j-1))).setIfInBounds (j-1) (G j)).size=N):=by show _=_;simp;exact zb HC
            revert nq;intro nq1
            have HX2:=zc ((zb HX).drewN nq1);have hcw2:∀ t,t<N->(wr.drewN nq1).cell? ⟨blk,off+t,none⟩=some (.int .i32 (G t)):=hcw;have hfw2:∀ t,t<N->(wr.drewN nq1).frozen? ⟨blk,off+t,none⟩=false:=hfw;clear HX HC HE HG hcw hfw hl;generalize wr.drewN nq1=wr2 at *;go_region;go_wp2_with fail;go_roundw
            case rel=>exact ⟨j-1,_,by congr 1;omega,by omega,HC2,(zb HX2).two (by omega) (by omega),HE2⟩
            case measure=>simp [intOf];omega
          ·obtain rfl:j=0:=(by omega);go_wp2_with fail;go_meet
           case rel=>exact ⟨dj,HC,HX,HE⟩
        ·go_wp2_with fail;go_meet
         case rel=>exact ⟨dj,HC,HX,(zb HE).trans (by rw [if_neg (by omega)])⟩
       case rest=>
        clear HX HC HE;obtain ⟨dj,HC,HX,HE0⟩:=hcut;by_cases hb2:2<=(b:Int)-i
        ·have HE:=zc ((zb HE0).trans (by rw [KB (show b-i≥2 by omega)]));clear HE0;go_wp2_with fail;go_loopw [10] (fun vj wr2=>∃ (j:Nat) (dj:Array Int),vj = .int .i64 j/\i<j/\j<=b/\Hid (dj.size=N)/\Hid (Ex w blk off dj wr2)/\Hid (tgt=Sort.partialIns Sort.ltInt a b (4-s) i (Sort.shiftUp Sort.ltInt b j dj))) (fun vj _=>b-(intOf vj).toNat)
         case atStart=>exact ⟨i+1,_,by go_num,by omega,by omega,HC,HX,HE⟩
         case round=>
          clear HX HC HE;obtain ⟨j,dj,rfl,hij,hjb,HC,HX,HE⟩:=hrel;by_cases hjb2:j<b
          ·obtain ⟨G,HG,hcw,hfw⟩:=(zb HX).fam (zb HC);go_wp2_with fail;go_big_quiet (first |(go_at_call 205;refine Calls.quiet_of_same (zz _ _ _)));go_wp2_with fail
           ·have hl:Sort.ltInt (G j) (G (j-1))=false:=(by have q:(!Sort.ltInt (G j) (G (j-1)))=true:=(by assumption);simpa using q);have HE2:Hid (tgt=Sort.partialIns Sort.ltInt a b (4-s) i dj):=(by show _=_;rw [zb HE,KD hjb2 (by rw [<-zb HG,<-zb HG];exact hl)]);go_roundw
            case rel=>exact ⟨i,s+1,_,rfl,by go_num,by omega,by omega,by omega,HC,(zb HX).drewN _,by rw [show 5-(s+1)=4-s by omega];exact HE2⟩
            case measure=>simp [intOf];omega
           ·have hl:Sort.ltInt (G j) (G (j-1))=true:=(by have q:(!Sort.ltInt (G j) (G (j-1)))=false:=(by assumption);simpa using q);have HE2:Hid (tgt=Sort.partialIns Sort.ltInt a b (4-s) i (Sort.shiftUp Sort.ltInt b (j+1) ((dj.setIfInBounds j (G (j-1))).setIfInBounds (j-1) (G j)))):=(by show _=_;rw [zb HE,su_go hjb2 (by rw [<-zb HG,<-zb HG];exact hl),yg (zb HG)]);have HC2:Hid (((dj.setIfInBounds j (G (j-1))).setIfInBounds (j-1) (G j)).size=N):=by show _=_;simp;exact zb HC
            revert nq;intro nq1
            have HX2:=zc ((zb HX).drewN nq1);have hcw2:∀ t,t<N->(wr.drewN nq1).cell? ⟨blk,off+t,none⟩=some (.int .i32 (G t)):=hcw;have hfw2:∀ t,t<N->(wr.drewN nq1).frozen? ⟨blk,off+t,none⟩=false:=hfw;clear HX HC HE HG hcw hfw hl;generalize wr.drewN nq1=wr2 at *;go_region;go_wp2_with fail;go_roundw
            case rel=>exact ⟨j+1,_,by go_num,by omega,by omega,HC2,(zb HX2).two (by omega) (by omega),HE2⟩
            case measure=>simp [intOf];omega
          ·have HE2:Hid (tgt=Sort.partialIns Sort.ltInt a b (4-s) i dj):=(by show _=_;rw [zb HE,zac hjb2]);go_wp2_with fail;go_roundw
           case rel=>exact ⟨i,s+1,_,rfl,by go_num,by omega,by omega,by omega,HC,HX,by rw [show 5-(s+1)=4-s by omega];exact HE2⟩
           case measure=>simp [intOf];omega
        ·have HE2:Hid (tgt=Sort.partialIns Sort.ltInt a b (4-s) i dj):=(zb HE0).trans (by rw [zab (show ¬b-i≥2 by omega)]);have hb2d:decide (2<=(b:Int)-i)=false:=(by simp;omega);go_wp2_with fail;go_roundw
         case rel=>exact ⟨i,s+1,_,rfl,by go_num,by omega,by omega,by omega,HC,HX,by rw [show 5-(s+1)=4-s by omega];exact HE2⟩
         case measure=>simp [intOf];omega
    ·obtain rfl:i=b:=(by omega);have hg:decide ((i:Int)<(i:Int))=false:=(by simp);have HE2:Hid (tgt=(dc,true)):=(by show _=_;rw [zb HE,Y0 (.inl (by omega))];unfold Xr;rw [if_pos rfl]);go_wp2_with fail;go_big_quiet (first |(go_at_call 205;refine Calls.quiet_of_same (zz _ _ _)));go_wp2_with fail;go_ret;rw [zb HE2];exact ⟨rfl,(zb HX).drewN _⟩
  ·have HE2:Hid (tgt=(dc,false)):=(by show _=_;rw [zb HE,show 5-s=0 by omega];rfl);go_wp2_with fail;go_ret;rw [zb HE2];exact ⟨rfl,zb HX⟩
def Fam (w:World)(blk off N:Nat)(G:Nat->Int):Prop:=(∀ t,t<N->w.cell? ⟨blk,off+t,none⟩=some (.int .i32 (G t)))/\∀ t,t<N->w.frozen? ⟨blk,off+t,none⟩=false
def eqR (a i j i2 j2:Nat)(d:Array Int):Nat×Array Int:=if i2 > j2 then (i2,d) else if (j2-1)+1-(i2+1)<j+1-i then Sort.partEqLoop Sort.ltInt a (i2+1) (j2-1) (Sort.swp d i2 j2) else (i2,d)
def eqT (a i j i2:Nat)(d:Array Int):Nat×Array Int:=eqR a i j i2 (Sort.scanDown (fun x=>Sort.ltInt d[a]! x) d i2 j) d
theorem Jz (i j:Nat)(d:Array Int):Sort.partEqLoop Sort.ltInt a i j d=eqT a i j (Sort.scanUp (fun x=>!Sort.ltInt d[a]! x) d j i) d:=by
 conv=>lhs;unfold Sort.partEqLoop
 unfold eqT eqR;simp only [];split
 ·rfl
 ·split<;>rfl
variable {d}
theorem JA {i:Nat}(h:i<=j)(hl:p d[i]! = true):Sort.scanUp p d j i=Sort.scanUp p d j (i+1):=by
 conv=>lhs;unfold Sort.scanUp
 rw [if_pos (by rw [hl];simp [h])]
theorem qN {i:Nat}(h:¬i<=j\/p d[i]! = false):Sort.scanUp p d j i=i:=by
 unfold Sort.scanUp;rw [if_neg (by rcases h with h |h;simp [h];rw [h];simp)]
theorem JB {i:Nat}(h0:1<=j)(h:i<=j)(hl:p d[j]! = true):Sort.scanDown p d i j=Sort.scanDown p d i (j-1):=by
 obtain ⟨k,rfl⟩:∃ k,j=k+1:=⟨j-1,by omega⟩
 conv=>lhs;unfold Sort.scanDown
 rw [if_pos (by rw [hl];simp [h])];rfl
theorem Zb {i:Nat}(hl:p d[j]! = false):Sort.scanDown p d i j=j:=by
 cases j with
 |zero=>rfl
 |succ k=>
  unfold Sort.scanDown;rw [if_neg (by rw [hl];simp)]
theorem jO {i:Nat}(h:¬i<=j):Sort.scanDown p d i j=j:=by
 cases j with
 |zero=>rfl
 |succ k=>
  unfold Sort.scanDown;rw [if_neg (by simp [h])]
theorem Ex.drew {a b:World}{blk off:Nat}{d:Array Int}(h:Ex a blk off d b):Ex a blk off d b.drew:=⟨h.1.drew,h.2⟩
theorem partEqE (p:Nat)(d:Array Int)(w:World)(h:Sort.Holds (Value.int .i32) w blk off d)(hap:a<=p)(hpb:p<b)(hb:b<=d.size)(hn:d.size<1099511627776) :
  Calls prog 206 #[.slice (some ⟨blk,off,none⟩) d.size cap,.int .i64 a,.int .i64 b,.int .i64 p] w fun e w'=>e = .returned (.int .i64 ((Sort.partitionEqual Sort.ltInt d a b p).1:Nat))/\Ex w blk off (Sort.partitionEqual Sort.ltInt d a b p).2 w':=by
 have HH:=zc (Ex.refl h);clear h;generalize hN:d.size=N at *;obtain ⟨G,HG0,hcw,hfw⟩:=(zb HH).fam hN;have HT0:Hid (Sort.partitionEqual Sort.ltInt d a b p=Sort.partEqLoop Sort.ltInt a (a+1) (b-1) (Sort.swp d a p)):=rfl;have HC:Hid ((Sort.swp d a p).size=N):=by show _=_;rw [Yo];exact hN
 clear hN;generalize Sort.partitionEqual Sort.ltInt d a b p=tgt at *;have HT:Hid (tgt=Sort.partEqLoop Sort.ltInt a (a+1) (b-1) (Sort.swp d a p)):=HT0;clear HT0;go_enter func206,ntmps206;have hpn:p<N:=by omega
 have d2:=hcw p hpn;have g2:=hfw p hpn;have d1:=hcw a (by omega);have g1:=hfw a (by omega);rcases Nat.lt_or_eq_of_le hap with hpa |rfl
 all_goals
  go_wp2_with fail;go_region;go_wp2_with fail;clear d1 d2 g1 g2 hcw hfw;go_loopw [9,10] (fun vi vj wr=>∃ (i j:Nat) (dc:Array Int),vi = .int .i64 i/\vj = .int .i64 j/\a<i/\i<=j+1/\j<b/\Hid (dc.size=N)/\Hid (Ex w blk off dc wr)/\Hid (tgt=Sort.partEqLoop Sort.ltInt a i j dc)) (fun vi vj _=>(intOf vj+1-intOf vi).toNat)
  case atStart=>exact ⟨a+1,b-1,_,by go_num,by congr 1;omega,by omega,by omega,by omega,HC,(by show Ex _ _ _ _ _;rw [<-yg (zb HG0)];first |exact (((zb HH).set a _).set _ _).drew |exact (zb HH).two rfl rfl),HT⟩
  case round=>
   clear HH HC HT HG0;obtain ⟨i,j,dc,rfl,rfl,hai,hij,hjb,HC,HX,HE⟩:=hrel;obtain ⟨G,HG,hcw,hfw⟩:=(zb HX).fam (zb HC);have HF:Hid (Fam wr blk off N G):=⟨hcw,hfw⟩
   have HE1:Hid (tgt=eqT a i j (Sort.scanUp (fun x=>!Sort.ltInt dc[a]! x) dc j i) dc):=(by show _=_;rw [zb HE,Jz]);clear HE;go_wp2_with fail;go_loopw [9] (fun vi wr2=>∃ i2:Nat,vi = .int .i64 i2/\i<=i2/\i2<=j+1/\Hid (Ex w blk off dc wr2)/\Hid (Fam wr2 blk off N G)/\Hid (tgt=eqT a i j (Sort.scanUp (fun x=>!Sort.ltInt dc[a]! x) dc j i2) dc)) (fun vi _=>j+1-(intOf vi).toNat)
   case atStart=>exact ⟨i,rfl,z8 _,hij,HX,HF,HE1⟩
   case round=>
    clear HX HF HE1 hcw hfw;obtain ⟨i2,rfl,hai2,hij2,HX,HF,HE⟩:=hrel;obtain ⟨hcw,hfw⟩:=zb HF;by_cases hle1:i2<=j
    ·go_wp2_with fail;go_big_quiet (first |(go_at_call 205;refine Calls.quiet_of_same (zz _ _ _)));go_wp2_with fail
     ·have hl:Sort.ltInt (G a) (G i2)=false:=(by have q:(!Sort.ltInt (G a) (G i2))=true:=(by assumption);simpa using q);have HE2:Hid (tgt=eqT a i j (Sort.scanUp (fun x=>!Sort.ltInt dc[a]! x) dc j (i2+1)) dc):=(by show _=_;rw [zb HE,JA hle1 (by show (!Sort.ltInt dc[a]! dc[i2]!)=true;rw [<-zb HG,<-zb HG,hl];rfl)]);go_roundw
      case rel=>exact ⟨i2+1,by go_num,by omega,by omega,(zb HX).drewN _,zb HF,HE2⟩
      case measure=>simp [intOf];omega
     ·have hf1:Sort.ltInt (G a) (G i2)=true:=(by simpa using (by assumption:(!Sort.ltInt (G a) (G i2))=false));have HE2:Hid (tgt=eqR a i j i2 (Sort.scanDown (fun x=>Sort.ltInt dc[a]! x) dc i2 j) dc):=(by show _=_;rw [zb HE,qN (.inr (by show (!Sort.ltInt dc[a]! dc[i2]!)=false;rw [<-zb HG,<-zb HG,hf1];rfl))];rfl);clear HE;have HE:=HE2;clear HE2
      revert nq;intro nq1
      have HX2:=zc ((zb HX).drewN nq1);have HF2:Hid (Fam (wr.drewN nq1) blk off N G):=zb HF;clear hcw hfw HX HF;generalize wr.drewN nq1=wr5 at *;have HX:=HX2;have HF:=HF2;clear HX2 HF2;obtain ⟨hcw,hfw⟩:=zb HF;go_loopw [10] (fun vj wr3=>∃ j2:Nat,vj = .int .i64 j2/\i2<=j2+1/\j2<=j/\Hid (Ex w blk off dc wr3)/\Hid (Fam wr3 blk off N G)/\Hid (tgt=eqR a i j i2 (Sort.scanDown (fun x=>Sort.ltInt dc[a]! x) dc i2 j2) dc)) (fun vj _=>(intOf vj).toNat)
      case atStart=>exact ⟨j,rfl,by omega,z8 _,HX,HF,HE⟩
      case round=>
       clear HX HF HE hcw hfw;obtain ⟨j2,rfl,hij2,hj2,HX,HF,HE⟩:=hrel;by_cases hle:i2<=j2
       ·have hgt:decide ((j2:Int)<(i2:Int))=false:=(by simp;omega);obtain ⟨hcw,hfw⟩:=zb HF;go_wp2_with fail;go_big_quiet (first |(go_at_call 205;refine Calls.quiet_of_same (zz _ _ _)));go_wp2_with fail
        ·have hl:Sort.ltInt (G a) (G j2)=true:=(by assumption);have HE2:Hid (tgt=eqR a i j i2 (Sort.scanDown (fun x=>Sort.ltInt dc[a]! x) dc i2 (j2-1)) dc):=(by show _=_;rw [zb HE,JB (by omega) hle (by show Sort.ltInt dc[a]! dc[j2]! = true;rw [<-zb HG,<-zb HG];exact hl)]);go_roundw
         case rel=>exact ⟨j2-1,by congr 1;omega,by omega,by omega,(zb HX).drewN _,zb HF,HE2⟩
         case measure=>simp [intOf];omega
        ·have hf2:Sort.ltInt (G a) (G j2)=false:=(by assumption);have hlt:i2<j2:=by
          rcases YF i2 j2 with h |h
          ·exact h
          ·obtain rfl:i2=j2:=(by omega);exact absurd hf2 (by rw [hf1];simp)
         have HE2:Hid (tgt=Sort.partEqLoop Sort.ltInt a (i2+1) (j2-1) ((dc.setIfInBounds i2 (G j2)).setIfInBounds j2 (G i2))):=(by show _=_;rw [zb HE,Zb (by show Sort.ltInt dc[a]! dc[j2]! = false;rw [<-zb HG,<-zb HG];exact hf2),yg (zb HG)];unfold eqR;rw [if_neg (by omega),if_pos (by omega)]);have HC2:Hid (((dc.setIfInBounds i2 (G j2)).setIfInBounds j2 (G i2)).size=N):=by show _=_;simp;exact zb HC
         revert nq;intro nq2
         have HX2:=zc ((zb HX).drewN nq2);have HF2:Hid (Fam (wr.drewN nq2) blk off N G):=zb HF;clear hcw hfw HX HF;generalize wr.drewN nq2=wr4 at *;have HX:=HX2;have HF:=HF2;clear HX2 HF2;obtain ⟨hcw,hfw⟩:=zb HF;clear HE HG;go_region;go_wp2_with fail;go_roundw
         case rel=>exact ⟨i2+1,j2-1,_,by go_num,by congr 1;omega,by omega,by omega,by omega,HC2,(zb HX).two (by omega) (by omega),HE2⟩
         case measure=>simp [intOf];omega
       ·skip
        have hgt:(j2:Int)<(i2:Int):=(by omega);have hgd:decide ((i2:Int)<=(j2:Int))=false:=(by simp;omega);have HE2:Hid (tgt=(i2,dc)):=(by show _=_;rw [zb HE,jO (by omega)];unfold eqR;rw [if_pos (by omega)]);obtain ⟨hcw,hfw⟩:=zb HF;go_wp2_with fail;go_big_quiet (first |(go_at_call 205;refine Calls.quiet_of_same (zz _ _ _)));go_wp2_with fail;have HX2:=zc ((zb HX).drewN nq);have HF2:Hid (Fam (wr.drewN nq) blk off N G):=zb HF;clear hcw hfw HX HF;generalize wr.drewN nq=wr4 at *;have HX:=HX2;have HF:=HF2;clear HX2 HF2;go_ret;rw [zb HE2];exact ⟨rfl,zb HX⟩
    ·have hgd1:decide ((i2:Int)<=(j:Int))=false:=(by simp;omega);have HE2:Hid (tgt=eqR a i j i2 (Sort.scanDown (fun x=>Sort.ltInt dc[a]! x) dc i2 j) dc):=(by show _=_;rw [zb HE,qN (.inl hle1)];rfl);clear HE;have HE:=HE2;clear HE2;go_wp2_with fail;go_big_quiet (first |(go_at_call 205;refine Calls.quiet_of_same (zz _ _ _)));go_wp2_with fail;have HX2:=zc ((zb HX).drewN nq);have HF2:Hid (Fam (wr.drewN nq) blk off N G):=zb HF;clear hcw hfw HX HF;generalize wr.drewN nq=wr5 at *;have HX:=HX2;have HF:=HF2;clear HX2 HF2;obtain ⟨hcw,hfw⟩:=zb HF;go_loopw [10] (fun vj wr3=>∃ j2:Nat,vj = .int .i64 j2/\i2<=j2+1/\j2<=j/\Hid (Ex w blk off dc wr3)/\Hid (Fam wr3 blk off N G)/\Hid (tgt=eqR a i j i2 (Sort.scanDown (fun x=>Sort.ltInt dc[a]! x) dc i2 j2) dc)) (fun vj _=>(intOf vj).toNat)
     case atStart=>exact ⟨j,rfl,by omega,z8 _,HX,HF,HE⟩
     case round=>
      clear HX HF HE hcw hfw;obtain ⟨j2,rfl,hij2,hj2,HX,HF,HE⟩:=hrel;have hle:¬i2<=j2:=(by omega);have hgt:(j2:Int)<(i2:Int):=(by omega);have hgd:decide ((i2:Int)<=(j2:Int))=false:=(by simp;omega);have HE2:Hid (tgt=(i2,dc)):=(by show _=_;rw [zb HE,jO (by omega)];unfold eqR;rw [if_pos (by omega)]);obtain ⟨hcw,hfw⟩:=zb HF;go_wp2_with fail;go_big_quiet (first |(go_at_call 205;refine Calls.quiet_of_same (zz _ _ _)));go_wp2_with fail;have HX2:=zc ((zb HX).drewN nq);have HF2:Hid (Fam (wr.drewN nq) blk off N G):=zb HF;clear hcw hfw HX HF;generalize wr.drewN nq=wr4 at *;have HX:=HX2;have HF:=HF2;clear HX2 HF2;go_ret;rw [zb HE2];exact ⟨rfl,zb HX⟩
end
end Go.Proofs.YtcgleficedipkaaGreatDoor
