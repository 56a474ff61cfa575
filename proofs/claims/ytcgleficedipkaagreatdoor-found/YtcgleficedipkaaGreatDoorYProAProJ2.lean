/- The program's reader: its cells, and its smallest methods. -/
import Derived.Test.YtcgleficedipkaaGreatDoorProg
import Derived.Test.YtcgleficedipkaaGreatDoorYBaseSemD
import Derived.Lib.Bytealg
import Derived.Laws.Runes
import Derived.Laws.RangeString
import Derived.WalkMore
import Derived.LoopN
import Derived.Laws.RangeAny
namespace Go.Proofs.YtcgleficedipkaaGreatDoor
open _root_.Go.Proofs.Tryz
variable (b:Nat){L:List (Int×Int)}(n:Nat)(len dp:Int)(a:Nat->Addr)(word s:ByteArray){k f i d:Nat}{v c:Int}(r:Int)(w:World){w':World}{x y z:Ending}
section
open Go.RowKit
set_option maxHeartbeats 400000
def LetRow (w:World)(g:Nat)(L:List (Int×Int)):Prop:=∀ (j:Nat) (p:Int×Int),L[j]?=some p->w.cell? ⟨g,j*2,none⟩=some (.int .i64 p.1)/\w.cell? ⟨g,j*2+1,none⟩=some (.int .i32 p.2)
structure zR (w:World)(b:Nat)(L:List (Int×Int))(n:Nat)(len dp:Int):Prop where
 c0:(∃ g cap,w.cell? ⟨b,0,none⟩=some (.slice (some ⟨g,0,none⟩) L.length cap)/\L.length<=cap/\g<b/\LetRow w g L)\/(L=[]/\w.cell? ⟨b,0,none⟩=some (.slice none 0 0))
 c1:w.cell? ⟨b,1,none⟩=some (.int .i64 n)
 c2:w.cell? ⟨b,2,none⟩=some (.int .i64 len)
 c3:w.cell? ⟨b,3,none⟩=some (.int .i64 dp)
 f1:w.frozen? ⟨b,1,none⟩=false
 f3:w.frozen? ⟨b,3,none⟩=false
theorem LetRow.keep {P:Nat->Prop}{w w':World}{g:Nat}{L:List (Int×Int)}(h:LetRow w g L)(k:ze P w w')(hn:¬P g):LetRow w' g L:=fun j p hj=>
 ⟨(k.cell (zE w _ (h j p hj).1) hn).trans (h j p hj).1,(k.cell (zE w _ (h j p hj).2) hn).trans (h j p hj).2⟩
theorem zR.lt {w:World}{b:Nat}{L:List (Int×Int)}{n:Nat}{len dp:Int}(h:zR w b L n len dp):b<w.heap.size:=zE w ⟨b,1,none⟩ h.c1
theorem zR.keep {P:Nat->Prop}{w w':World}{b:Nat}{L:List (Int×Int)}{n:Nat}{len dp:Int}(h:zR w b L n len dp)(k:ze P w w')(hb:¬P b)(hg:∀ g,g<b->¬P g):zR w' b L n len dp:=by
 have hlt:=h.lt;obtain ⟨c0,c1,c2,c3,f1,f3⟩:=h;refine ⟨?_,(k.cell (p:=⟨b,1,none⟩) hlt hb).trans c1,(k.cell (p:=⟨b,2,none⟩) hlt hb).trans c2,(k.cell (p:=⟨b,3,none⟩) hlt hb).trans c3,(k.frozen (p:=⟨b,1,none⟩) hlt hb).trans f1,(k.frozen (p:=⟨b,3,none⟩) hlt hb).trans f3⟩;rcases c0 with ⟨g,cap,c0,hcap,hne,hrow⟩ |⟨rfl,c0⟩
 ·refine .inl ⟨g,cap,(k.cell (p:=⟨b,0,none⟩) hlt hb).trans c0,hcap,hne,?_⟩;intro j p hj;exact hrow.keep k (hg g hne) j p hj
 ·exact .inr ⟨rfl,(k.cell (p:=⟨b,0,none⟩) hlt hb).trans c0⟩
theorem zR.drewN {w:World}{b:Nat}{L:List (Int×Int)}{n:Nat}{len dp:Int}(h:zR w b L n len dp)(q:Nat):zR (w.drewN q) b L n len dp:=
 h.keep ((ze.refl (fun _=>False) w).drewN q) (fun f=>f) (fun _ _ f=>f)
theorem zR.setN {w:World}{b:Nat}{L:List (Int×Int)}{n:Nat}{len dp:Int}(h:zR w b L n len dp)(m:Nat)(j:Int)(hj:j=(m:Int)):zR (w.setCell ⟨b,1,none⟩ (.int .i64 j)) b L m len dp:=by
 subst hj;obtain ⟨c0,c1,c2,c3,f1,f3⟩:=h;refine ⟨?_,yY _ _ _ c1,(zF _ _ _ _ (by simp)).trans c2,(zF _ _ _ _ (by simp)).trans c3,(zk _ _ _ _).trans f1,(zk _ _ _ _).trans f3⟩;rcases c0 with ⟨g,cap,c0,hcap,hne,hrow⟩ |⟨rfl,c0⟩
 ·exact .inl ⟨g,cap,(zF _ _ _ _ (by simp)).trans c0,hcap,hne,hrow.keep ((ze.refl (zt b) w).mine 1 _) (by unfold zt;omega)⟩
 ·exact .inr ⟨rfl,(zF _ _ _ _ (by simp)).trans c0⟩
namespace Pro
def zf (L:List (Int×Int))(k:Nat):Int:=match L[k]? with
 |some p=>p.2
 |none=>-1
def zC (L:List (Int×Int))(len:Int)(k:Nat):Int:=match L[k]? with
 |some p=>p.1
 |none=>len
theorem Yd (h:k<L.length):zf L k=L[k].2:=by unfold zf;rw [zD h]
theorem zO (h:L.length<=k):zf L k = -1:=by unfold zf;rw [jF h]
variable {len}
theorem WV (h:k<L.length):zC L len k=L[k].1:=by unfold zC;rw [zD h]
theorem ww (h:L.length<=k):zC L len k=len:=by unfold zC;rw [jF h]
def ju (L:List (Int×Int))(n:Nat)(word:ByteArray):Nat->Nat->Bool
 |0,_=>true
 |f+1,i=>if zf L (n+i)=zd word i then ju L n word f (i+1) else false
def zr (L:List (Int×Int))(n:Nat)(word:ByteArray):Bool:=ju L n word word.size 0
end Pro
theorem xB {k:IntKind}{a b:Int}(h:a=b):Ending.returned (.int k a) = .returned (.int k b):=by rw [h]
variable (L k)
theorem wW (h:zR w b L n len dp)(hL:L.length<=400)(hn:n<=1000)(hk:k<=1000) :
  Calls prog 159 #[.pointer (some ⟨b,0,none⟩),.int .i64 k] w fun x w'=>x = .returned (.int .i32 (Pro.zf L (n+k)))/\w'=w:=by
 obtain ⟨c0,c1,c2,c3,f1,f3⟩:=h;rcases c0 with ⟨g,cap,c0,hcap,_,hrow⟩ |⟨rfl,c0⟩
 ·by_cases hlt:n+k<L.length
  ·obtain ⟨r0,r1⟩:=hrow (n+k) L[n+k] (zD hlt);have HR:Hid (Pro.zf L (n+k)=L[n+k].2):=Pro.Yd hlt;clear hrow;go_enter func159,ntmps159;go_wp2;go_ret;exact ⟨xB HR.out.symm,rfl⟩
  ·have HR:Hid (Pro.zf L (n+k) = -1):=Pro.zO (by omega);clear hrow;go_enter func159,ntmps159;go_wp2;go_ret;exact ⟨xB HR.out.symm,rfl⟩
 ·have HR:Hid (Pro.zf [] (n+k) = -1):=Pro.zO (by simp);go_enter func159,ntmps159;go_wp2;go_ret;exact ⟨xB HR.out.symm,rfl⟩
theorem yA (h:zR w b L n len dp)(hL:L.length<=400)(hn:n<=1000) :
  Calls prog 157 #[.pointer (some ⟨b,0,none⟩)] w fun x w'=>x = .returned (.int .i32 (Pro.zf L n))/\w'=w:=by
 have H:=zc h;clear h;go_enter func157,ntmps157;go_wp2_with fail;refine (wW b L n len dp 0 _ (zb H) hL hn (by omega)).mono ?_;rintro e w1 ⟨rfl,hw1⟩;have hw2:=hw1.symm;subst hw2;clear hw1;go_wp2_with fail;go_ret;exact ⟨rfl,rfl⟩
theorem jw (h:zR w b L n len dp) :
  Calls prog 63 #[.pointer (some ⟨b,0,none⟩)] w fun x w'=>x = .returned (.bool ((n:Int) == (L.length:Int)))/\∃ q,w'=w.drewN q:=by
 obtain ⟨c0,c1,c2,c3,f1,f3⟩:=h;rcases c0 with ⟨g,cap,c0,hcap,_,hrow⟩ |⟨rfl,c0⟩
 ·clear hrow;go_enter func63,ntmps63;go_wp2;go_quiet (fail);go_wp2;go_ret;exact ⟨rfl,_,rfl⟩
 ·go_enter func63,ntmps63;go_wp2;go_quiet (fail);go_wp2;go_ret;exact ⟨rfl,_,rfl⟩
variable (c)
theorem y5:
  Calls prog 286 #[.int .i32 c] w fun x w'=>x = .returned (.bool (decide (48<=c) && decide (c<=57)))/\w'=w:=by
 by_cases h1:48<=c
 ·by_cases h2:c<=57
  ·go_enter func286,ntmps286;go_wp2;go_ret;exact ⟨by simp [h1,h2],rfl⟩
  ·go_enter func286,ntmps286;go_wp2;go_ret;exact ⟨by simp;omega,rfl⟩
 ·go_enter func286,ntmps286;go_wp2;go_ret;exact ⟨by simp;try omega,rfl⟩
theorem Jo (h:zR w b L n len dp)(hL:L.length<=400)(hn:n<=L.length) :
  Calls prog 114 #[.pointer (some ⟨b,0,none⟩)] w fun x w'=>x = .returned (.int .i64 (Pro.zC L len n))/\∃ q,w'=w.drewN q:=by
 have H:=zc h;obtain ⟨c0,c1,c2,c3,f1,f3⟩:=h;rcases c0 with ⟨g,cap,c0,hcap,_,hrow⟩ |⟨rfl,c0⟩
 ·by_cases hlt:n<L.length
  ·obtain ⟨r0,r1⟩:=hrow n L[n] (zD hlt);have HR:Hid (Pro.zC L len n=L[n].1):=Pro.WV hlt;have he:((n:Int) == (L.length:Int))=false:=(by simp;omega);clear hrow;go_enter func114,ntmps114;go_wp2_with fail;refine (jw b L n len dp _ (zb H)).mono ?_;rintro e w1 ⟨rfl,q,rfl⟩;go_wp2_with fail;go_quiet (fail);go_wp2_with fail;go_ret;exact ⟨xB HR.out.symm,_,by rw [Xf]⟩
  ·have HR:Hid (Pro.zC L len n=len):=Pro.ww (by omega);have he:((n:Int) == (L.length:Int))=true:=(by simp;omega);clear hrow;go_enter func114,ntmps114;go_wp2_with fail;refine (jw b L n len dp _ (zb H)).mono ?_;rintro e w1 ⟨rfl,q,rfl⟩;go_wp2_with fail;go_ret;exact ⟨xB HR.out.symm,_,rfl⟩
 ·have hn0:n=0:=by simpa using hn
  have HR:Hid (Pro.zC [] len n=len):=Pro.ww (by simp);have he:((n:Int) == ((([]:List (Int×Int)).length:Nat):Int))=true:=by simp [hn0]
  clear hn0;go_enter func114,ntmps114;go_wp2_with fail;refine (jw b [] n len dp _ (zb H)).mono ?_;rintro e w1 ⟨rfl,q,rfl⟩;rw [he];go_wp2_with fail;go_ret;exact ⟨xB HR.out.symm,_,rfl⟩
set_option maxHeartbeats 800000
theorem vf (hk:k<s.size)(i:Int)(hi:i=(k:Int))(w:World):(Instr.index 9 (.string s) (.int .i64 i)).run prog w = .ok (.int .u8 (zd s k)) w:=by
 subst hi;rw [run_index_string w 9 s .i64 (k:Int) underlying9,xZ s k hk];simp [hk]
namespace Pro
def behind (L:List (Int×Int))(n:Nat)(word:ByteArray):Nat:=if zr L n word=true then n+word.size else n
variable {L n word}
theorem ZC (h:zr L n word=true):behind L n word=n+word.size:=by unfold behind;rw [if_pos h]
theorem YS (h:zr L n word=false):behind L n word=n:=by unfold behind;rw [if_neg (by simp [h])]
theorem WW (h:zf L (n+i)=zd word i):ju L n word (f+1) i=ju L n word f (i+1):=by simp only [ju];rw [if_pos h]
theorem zct (h:¬zf L (n+i)=zd word i):ju L n word (f+1) i=false:=by simp only [ju];rw [if_neg h]
end Pro
theorem take_all (h:zR w b L n len dp)(hL:L.length<=400)(hn:n<=1000)(hw:word.size<=10) :
  Calls prog 113 #[.pointer (some ⟨b,0,none⟩),.string word] w fun x w'=>(Pro.zr L n word=true/\x = .returned (.bool true)/\∃ q,w'=(w.drewN q).setCell ⟨b,1,none⟩ (.int .i64 ((n+word.size:Nat):Int)))\/(Pro.zr L n word=false/\x = .returned (.bool false)/\∃ q,w'=w.drewN q):=by
 have H:=zc h;clear h;go_enter func113,ntmps113;go_wp2_with fail;go_loopw [8] (fun c wr=>∃ (k q:Nat),c = .int .i64 k/\k<=word.size/\wr=w.drewN q/\Hid (Pro.zr L n word=Pro.ju L n word (word.size-k) k)) (fun c _=>word.size-(intOf c).toNat)
 case atStart=>exact ⟨0,0,rfl,by omega,rfl,rfl⟩
 case round=>
  obtain ⟨k,q,rfl,hk,rfl,HF⟩:=hrel;by_cases hlt:k<word.size
  ·have hix:∀ wx,(Instr.index 9 (.string word) (.int .i64 (k:Int))).run prog wx = .ok (.int .u8 (zd word k)) wx:=fun wx=>vf word k hlt _ rfl wx;have hb0:=zbt word k;have hb1:=yD word k;have hcv:IntKind.i32.wrap (zd word k)=zd word k:=(by simp [IntKind.wrap,IntKind.bits,IntKind.signed];omega);by_cases he:Pro.zf L (n+k)=zd word k
   ·have he':(Pro.zf L (n+k) != zd word k)=false:=(by simp [he]);have HG:Hid (Pro.zr L n word=Pro.ju L n word (word.size-(k+1)) (k+1)):=(by rw [zb HF,show word.size-k=(word.size-(k+1))+1 by omega];exact Pro.WW he);clear he;go_wp2_with fail;go_quiet ((go_at_call 159;exact (wW b L n len dp k _ (by first |exact (zb H).drewN _ |exact zb H) hL hn (by omega)).mono (by rintro e w'' ⟨rfl,rfl⟩;exact ⟨rfl,_,rfl⟩)));go_wp2_with fail;go_roundw
    case rel=>exact ⟨k+1,_,by go_num,by omega,rfl,HG⟩
    case measure=>simp [intOf];omega
   ·have he':(Pro.zf L (n+k) != zd word k)=true:=(by simp [he]);have HG:Hid (Pro.zr L n word=false):=(by rw [zb HF,show word.size-k=(word.size-(k+1))+1 by omega];exact Pro.zct he);clear he;go_wp2_with fail;go_quiet ((go_at_call 159;exact (wW b L n len dp k _ (by first |exact (zb H).drewN _ |exact zb H) hL hn (by omega)).mono (by rintro e w'' ⟨rfl,rfl⟩;exact ⟨rfl,_,rfl⟩)));go_wp2_with fail;go_ret;exact .inr ⟨zb HG,rfl,by first |exact ⟨_,rfl⟩ |exact ⟨_,by rw [Xf]⟩⟩
  ·have HG:Hid (Pro.zr L n word=true):=(by rw [zb HF,show word.size-k=0 by omega];rfl);have hc:=zb H;obtain ⟨c0,c1,c2,c3,f1,f3⟩:=hc;clear c0;go_wp2_with fail;go_ret;exact .inl ⟨zb HG,rfl,q,by simp⟩
theorem xC (h:zR w b L n len dp)(hL:L.length<=400)(hn:n<=1000)(hw:word.size<=10)(hm:Pro.zr L n word=false) :
  Calls prog 113 #[.pointer (some ⟨b,0,none⟩),.string word] w fun x w'=>x = .returned (.bool false)/\∃ q,w'=w.drewN q:=
 (take_all b L n len dp word w h hL hn hw).mono (by
  rintro e w1 (⟨h1,_⟩ |⟨_,h1⟩)
  ·rw [hm] at h1;cases h1
  ·exact h1)
theorem yT (h:zR w b L n len dp)(hL:L.length<=400)(hn:n<=1000)(hw:word.size<=10)(hm:Pro.zr L n word=true) :
  Calls prog 113 #[.pointer (some ⟨b,0,none⟩),.string word] w fun x w'=>x = .returned (.bool true)/\zR w' b L (n+word.size) len dp/\ze (zt b) w w':=
 (take_all b L n len dp word w h hL hn hw).mono (by
  rintro e w1 (⟨_,rfl,q,rfl⟩ |⟨h1,_⟩)
  ·exact ⟨rfl,(h.drewN q).setN _ _ rfl,((ze.refl _ _).drewN q).mine _ _⟩
  ·rw [hm] at h1;cases h1)
theorem VD (h:zR w b L n len dp)(hL:L.length<=400)(hn:n<=1000)(hw:word.size<=10) :
  Calls prog 113 #[.pointer (some ⟨b,0,none⟩),.string word] w fun x w'=>x = .returned (.bool (Pro.zr L n word))/\zR w' b L (Pro.behind L n word) len dp/\ze (zt b) w w':=by
 cases hm:Pro.zr L n word
 ·rw [Pro.YS hm];exact (xC b L n len dp word w h hL hn hw hm).mono (by rintro e w1 ⟨rfl,q,rfl⟩;exact ⟨rfl,h.drewN q,(ze.refl _ _).drewN q⟩)
 ·rw [Pro.ZC hm];exact yT b L n len dp word w h hL hn hw hm
namespace Pro
def hexV (b:Int):Int:=if 48<=b/\b<=57 then b-48 else if 97<=b/\b<=102 then b-87 else if 65<=b/\b<=70 then b-55 else -1
def hexN (b:Int):Int:=if hexV b<0 then 0 else hexV b
def hexB (b:Int):Bool:=decide (0<=hexV b)
end Pro
theorem ZD {k:IntKind}{a b:Int}{c d:Bool}(h:a=b)(g:c=d):Ending.returned (.tuple #[.int k a,.bool c]) = .returned (.tuple #[.int k b,.bool d]):=by rw [h,g]
theorem jW (h1:-1<=c)(h2:c<=1114111) :
  Calls prog 299 #[.int .i32 c] w fun x w'=>x = .returned (.tuple #[.int .i32 (Pro.hexN c),.bool (Pro.hexB c)])/\w'=w:=by
 have hd:(decide (48<=c) && decide (c<=57))=true\/((decide (48<=c) && decide (c<=57))=false/\¬(48<=c/\c<=57)):=by
  by_cases h:48<=c/\c<=57
  ·left;simp [h.1,h.2]
  ·right;exact ⟨by simp;omega,h⟩
 rcases hd with hd |⟨hd,hn⟩
 ·have hd':48<=c/\c<=57:=by simpa using hd
  have HN:Hid (Pro.hexN c=c-48/\Pro.hexB c=true):=by
   have e:Pro.hexV c=c-48:=(by unfold Pro.hexV;rw [if_pos hd']);exact ⟨by unfold Pro.hexN;rw [e,if_neg (by omega)],by unfold Pro.hexB;rw [e];simp;omega⟩
  go_enter func299,ntmps299;go_wp2_with fail;refine (y5 c _).mono ?_;rintro e w1 ⟨rfl,hw1⟩;have hw2:=hw1.symm;subst hw2;clear hw1;rw [hd];go_wp2_with fail;go_ret2;rw [HN.out.1,HN.out.2];exact ⟨ZD (by first |rfl |omega) rfl,rfl⟩
 ·by_cases ha:97<=c/\c<=102
  ·have HN:Hid (Pro.hexN c=c-97+10/\Pro.hexB c=true):=by
    have e:Pro.hexV c=c-87:=(by unfold Pro.hexV;rw [if_neg hn,if_pos ha]);exact ⟨by unfold Pro.hexN;rw [e,if_neg (by omega)];omega,by unfold Pro.hexB;rw [e];simp;omega⟩
   obtain ⟨a1,a2⟩:=ha;clear hn;go_enter func299,ntmps299;go_wp2_with fail;refine (y5 c _).mono ?_;rintro e w1 ⟨rfl,hw1⟩;have hw2:=hw1.symm;subst hw2;clear hw1;rw [hd];go_wp2_with fail;go_ret2;rw [HN.out.1,HN.out.2];exact ⟨ZD (by first |rfl |omega) rfl,rfl⟩
  ·by_cases hA:65<=c/\c<=70
   ·have HN:Hid (Pro.hexN c=c-65+10/\Pro.hexB c=true):=by
     have e:Pro.hexV c=c-55:=(by unfold Pro.hexV;rw [if_neg hn,if_neg ha,if_pos hA]);exact ⟨by unfold Pro.hexN;rw [e,if_neg (by omega)];omega,by unfold Pro.hexB;rw [e];simp;omega⟩
    obtain ⟨a1,a2⟩:=hA;have a3:¬97<=c:=(by omega);clear hn ha;go_enter func299,ntmps299;go_wp2_with fail;refine (y5 c _).mono ?_;rintro e w1 ⟨rfl,hw1⟩;have hw2:=hw1.symm;subst hw2;clear hw1;rw [hd];go_wp2_with fail;go_ret2;rw [HN.out.1,HN.out.2];exact ⟨ZD (by first |rfl |omega) rfl,rfl⟩
   ·have HN:Hid (Pro.hexN c=0/\Pro.hexB c=false):=by
     have e:Pro.hexV c = -1:=(by unfold Pro.hexV;rw [if_neg hn,if_neg ha,if_neg hA]);exact ⟨by unfold Pro.hexN;rw [e];rfl,by unfold Pro.hexB;rw [e];rfl⟩
    have Hx:=zc (And.intro hn (And.intro ha hA));clear hn ha hA;go_enter func299,ntmps299;go_wp2_with fail;refine (y5 c _).mono ?_;rintro e w1 ⟨rfl,hw1⟩;have hw2:=hw1.symm;subst hw2;clear hw1;rw [hd];go_wp2_with fail
    all_goals first
     |(exfalso;have:=zb Hx;omega)
     |skip
    all_goals
     go_ret2;rw [HN.out.1,HN.out.2];exact ⟨rfl,rfl⟩
def zI (w:World)(base:Nat)(v:Value)(kind:Value)(p:Int):Prop:=∃ g,base<=g/\v = .iface 122 (.pointer (some ⟨g,0,none⟩))/\w.cell? ⟨g,0,none⟩=some kind/\w.cell? ⟨g,1,none⟩=some (.int .i64 p)
theorem zI.keep {P:Nat->Prop}{w w':World}{base:Nat}{v kd:Value}{p:Int}(h:zI w base v kd p)(k:ze P w w')(hn:∀ g,base<=g->¬P g):zI w' base v kd p:=by
 obtain ⟨g,hg,rfl,c0,c1⟩:=h;exact ⟨g,hg,rfl,(k.cell (zE w _ c0) (hn g hg)).trans c0,(k.cell (zE w _ c1) (hn g hg)).trans c1⟩
theorem zI.base {w:World}{base base':Nat}{v kd:Value}{p:Int}(h:zI w base v kd p)(hb:base'<=base):zI w base' v kd p:=by
 obtain ⟨g,hg,rest⟩:=h;exact ⟨g,by omega,rest⟩
theorem wX (T:TypeId)(x:Value)(p:Int)(w:World) :
  Calls prog 45 #[.iface T x,.int .i64 p] w fun e w'=>∃ v,e = .returned v/\zI w' w.heap.size v (.iface T x) p/\Q8 w w':=by
 go_enter func45,ntmps45;go_wp2;go_ret;exact ⟨_,rfl,⟨_,by first |exact z8 _ |simp,rfl,by first |(rw [XP _ _ _ _ rfl];rfl),by first |(rw [XP _ _ _ _ rfl];rfl)⟩,(ze.refl _ _).alloc _⟩
theorem zcu (h:zR w b L n len dp)(hL:L.length<=400)(hn:n<=L.length)(T:TypeId)(kd:Value)(hS:w.cell? ⟨10,0,none⟩=some (.iface T kd)) :
  Calls prog 64 #[.pointer (some ⟨b,0,none⟩)] w fun x w'=>∃ v,x = .returned v/\zI w' w.heap.size v (.iface T kd) (Pro.zC L len n)/\Q8 w w':=by
 have H:=zc h;clear h;go_enter func64,ntmps64;go_wp2_with fail;go_region_with (first
  |(go_at_call 114;refine (Jo b L n len dp _ (by first |exact zb H |exact (zb H).drewN _) hL hn).mono ?_;rintro e w1 ⟨rfl,q,rfl⟩)
  |(go_at_call 45;refine (wX _ _ _ _).mono ?_;rintro e w1 ⟨v,rfl,hv,hO⟩))
 all_goals go_wp2_with fail
 all_goals go_ret
 all_goals exact ⟨v,rfl,hv,by first |exact ((ze.refl _ _).drewN _).trans hO |exact (((ze.refl _ _).drewN _).drewN _).trans hO⟩
def zN (a:Nat->Addr)(k:Nat):Value:=.iface 428 (.pointer (some (a k)))
structure zW (w:World)(a:Nat->Addr):Prop where
 s1:w.cell? ⟨1,0,none⟩=some (zN a 1)
 s2:w.cell? ⟨2,0,none⟩=some (zN a 2)
 s3:w.cell? ⟨10,0,none⟩=some (zN a 3)
 s4:w.cell? ⟨3,0,none⟩=some (zN a 4)
 s5:w.cell? ⟨4,0,none⟩=some (zN a 5)
 s6:w.cell? ⟨5,0,none⟩=some (zN a 6)
 s7:w.cell? ⟨6,0,none⟩=some (zN a 7)
 s8:w.cell? ⟨7,0,none⟩=some (zN a 8)
theorem zW.keep {P:Nat->Prop}{w w':World}{a:Nat->Addr}(h:zW w a)(k:ze P w w')(hn:∀ j,j<11->¬P j):zW w' a:=
 have c:∀ j v,w.cell? ⟨j,0,none⟩=some v->j<11->w'.cell? ⟨j,0,none⟩=some v:=fun j v hv hj=>(k.cell (p:=⟨j,0,none⟩) (zE w ⟨j,0,none⟩ hv) (hn j hj)).trans hv
 ⟨c _ _ h.s1 (by decide),c _ _ h.s2 (by decide),c _ _ h.s3 (by decide),c _ _ h.s4 (by decide),c _ _ h.s5 (by decide),c _ _ h.s6 (by decide),c _ _ h.s7 (by decide),c _ _ h.s8 (by decide)⟩
theorem jJ (h:zR w b L n len dp)(hS:zW w a)(hL:L.length<=400)(hn:n<=L.length) :
  Calls prog 64 #[.pointer (some ⟨b,0,none⟩)] w fun x w'=>∃ v,x = .returned v/\zI w' w.heap.size v (zN a 3) (Pro.zC L len n)/\Q8 w w':=
 zcu b L n len dp w h hL hn _ _ hS.s3
theorem zI.form {w:World}{base:Nat}{v kd:Value}{p:Int}(h:zI w base v kd p):∃ g,v = .iface 122 (.pointer (some ⟨g,0,none⟩)):=⟨h.choose,h.choose_spec.2.1⟩
theorem zero_any (h:zR w b L n len dp)(hS:zW w a)(hL:L.length<=400)(hn:n<=L.length) :
  Calls prog 281 #[.pointer (some ⟨b,0,none⟩)] w fun x w'=>Q8 w w'/\
   (((decide (48<=Pro.zf L n) && decide (Pro.zf L n<=57))=false/\x = .returned (.tuple #[.int .i32 0,.nilIface]))\/
    ((decide (48<=Pro.zf L n) && decide (Pro.zf L n<=57))=true/\∃ v,x = .returned (.tuple #[.int .i32 0,v])/\zI w' w.heap.size v (zN a 3) (Pro.zC L len n))):=by
 have H:=zc h;have HS:=zc hS;clear h hS;cases hd:(decide (48<=Pro.zf L n) && decide (Pro.zf L n<=57))
 ·go_enter func281,ntmps281;go_wp2_with fail;refine (yA b L n len dp _ (zb H) hL (by omega)).mono ?_;rintro e w1 ⟨rfl,hw1⟩;have hw2:=hw1.symm;subst hw2;clear hw1;go_wp2_with fail;refine (y5 _ _).mono ?_;rintro e w1 ⟨rfl,hw1⟩;have hw2:=hw1.symm;subst hw2;clear hw1;rw [hd];go_wp2_with fail;go_ret2;exact ⟨ze.refl _ _,.inl ⟨trivial,rfl⟩⟩
 ·go_enter func281,ntmps281;go_wp2_with fail;refine (yA b L n len dp _ (zb H) hL (by omega)).mono ?_;rintro e w1 ⟨rfl,hw1⟩;have hw2:=hw1.symm;subst hw2;clear hw1;go_wp2_with fail;refine (y5 _ _).mono ?_;rintro e w1 ⟨rfl,hw1⟩;have hw2:=hw1.symm;subst hw2;clear hw1;rw [hd];go_wp2_with fail;refine (jJ b L n len dp a _ (zb H) (zb HS) hL hn).mono ?_;rintro e w2 ⟨v,rfl,hv,hO⟩;go_wp2_with fail;go_ret2;exact ⟨hO,.inr ⟨trivial,v,rfl,hv⟩⟩
namespace Pro
structure Out where
 k:Nat
 p:Int
 v:Int
 n:Nat
def bad (k:Nat)(p:Int)(n:Nat):Out:=⟨k,p,0,n⟩
def good (v:Int)(n:Nat):Out:=⟨0,0,v,n⟩
def Fit (L:List (Int×Int)):Prop:=∀ k,-1<=zf L k/\zf L k<=1114111
def dig (c:Int):Bool:=decide (48<=c) && decide (c<=57)
def xY (L:List (Int×Int))(len:Int)(n:Nat):Out:=if dig (zf L n)=true then bad 3 (zC L len n) n else good 0 n
abbrev letter (c:Int):Prop:=(97<=c/\c<=122)\/(65<=c/\c<=90)
def ym (L:List (Int×Int))(len:Int)(n:Nat):Out:=if letter (zf L n) then good (zf L n % 32) (n+1) else bad 3 (zC L len n) n
def hexO (L:List (Int×Int))(len:Int):Nat->Int->Nat->Out
 |0,c,n=>good c n
 |f+1,c,n=>if hexV (zf L n)<0 then bad 3 (zC L len n) n else hexO L len f (16*c+hexV (zf L n)) (n+1)
def yw (L:List (Int×Int))(len:Int):Nat->Int->Nat->Nat->Out
 |0,c,_,n=>good c n
 |f+1,c,d,n=>
  if 0<d/\zf L n=125 then good c (n+1)
  else if hexV (zf L n)<0\/1114111<16*c+hexV (zf L n) then bad 3 (zC L len n) n
  else yw L len f (16*c+hexV (zf L n)) (d+1) (n+1)
def jC (L:List (Int×Int))(len:Int)(n:Nat):Out:=yw L len (L.length+1-n) 0 0 n
def lowV (L:List (Int×Int))(len:Int)(n:Nat):Int:=if zf L n=92/\zf L (n+1)=117/\(hexO L len 4 0 (n+2)).k=0/\56320<=(hexO L len 4 0 (n+2)).v/\(hexO L len 4 0 (n+2)).v<=57343 then (hexO L len 4 0 (n+2)).v else -1
def zY (L:List (Int×Int))(len:Int)(n:Nat):Out:=
 if (hexO L len 4 0 n).k≠0\/(hexO L len 4 0 n).v<55296\/56319<(hexO L len 4 0 n).v then hexO L len 4 0 n
 else if 0<=lowV L len (hexO L len 4 0 n).n then good (65536+((hexO L len 4 0 n).v-55296)*1024+(lowV L len (hexO L len 4 0 n).n-56320)) ((hexO L len 4 0 n).n+6)
 else hexO L len 4 0 n
def ctlV (b:Int):Int:=if b=116 then 9 else if b=110 then 10 else if b=118 then 11 else if b=102 then 12 else if b=114 then 13 else -1
def sign (b:Int):Bool:=[94,36,92,46,42,43,63,40,41,91,93,123,125,124,47].any fun c=>decide (c=b)
def wy (b:Int):Bool:=decide (0<=ctlV b) ||sign b
def wz (b:Int):Int:=if 0<=ctlV b then ctlV b else b
def numO (L:List (Int×Int))(len:Int)(n:Nat):Out:=
 if wy (zf L n)=true then good (wz (zf L n)) (n+1)
 else if zf L n=48 then xY L len (n+1)
 else if zf L n=99 then ym L len (n+1)
 else if zf L n=120 then hexO L len 2 0 (n+1)
 else if zf L n=117/\zf L (n+1)=123 then jC L len (n+2)
 else if zf L n=117 then zY L len (n+1)
 else bad 3 (zC L len n) n
def setB (b:Int):Bool:=[100,68,119,87,115,83].any fun c=>decide (c=b)
def backB (b:Int):Bool:=[49,50,51,52,53,54,55,56,57,107,112,80].any fun c=>decide (c=b)
def escO (L:List (Int×Int))(len:Int)(n:Nat):Out:=
 if setB (zf L (n+1))=true then good (zf L (n+1)) (n+2)
 else if backB (zf L (n+1))=true then bad 6 (zC L len n) (n+1)
 else numO L len (n+1)
def zi (L:List (Int×Int))(len:Int)(n:Nat):Out:=
 if zf L n=92/\zf L (n+1)=98 then good 8 (n+2)
 else if zf L n=92/\zf L (n+1)=45 then good 45 (n+2)
 else if zf L n=92 then escO L len n
 else good (zf L n) (n+1)
def many (L:List (Int×Int))(n:Nat):Bool:=decide (zf L n=92) && setB (zf L (n+1))
def xJ (L:List (Int×Int))(n:Nat):Bool:=decide (zf L n=45) && decide (zf L (n+1)≠93) && decide (zf L (n+1)≠-1)
def xj (L:List (Int×Int))(len:Int)(m:Bool)(first:Int)(n:Nat):Out:=
 if (zi L len (n+1)).k≠0 then zi L len (n+1)
 else if m=true\/many L (n+1)=true\/(zi L len (n+1)).v<first then bad 4 (zC L len n) (zi L len (n+1)).n
 else zi L len (n+1)
def addO (L:List (Int×Int))(len:Int)(n:Nat):Out:=
 if (zi L len n).k≠0 then zi L len n
 else if xJ L (zi L len n).n=true then xj L len (many L n) (zi L len n).v (zi L len n).n
 else zi L len n
def yG (L:List (Int×Int))(len:Int):Nat->Nat->Out
 |0,n=>good 1 n
 |f+1,n=>
  if zf L n=93 then good 1 (n+1)
  else if L.length<=n then bad 3 len n
  else if (addO L len n).k≠0 then addO L len n
  else yG L len f (addO L len n).n
def qf (L:List (Int×Int))(len:Int)(n:Nat):Out:=yG L len (L.length+1-n) (if zf L (n+1)=94 then n+2 else n+1)
def countL (L:List (Int×Int)):Nat->Int->Nat->Int×Nat
 |0,c,n=>(c,n)
 |f+1,c,n=>if dig (zf L n)=true then countL L f (min (c*10+(zf L n-48)) 101) (n+1) else (c,n)
def countP (L:List (Int×Int))(n:Nat):Int×Nat:=countL L (L.length+1-n) 0 n
def zj (L:List (Int×Int))(len:Int)(n:Nat):Out:=
 if dig (zf L n)=false then bad 3 (zC L len n) n
 else if 100<(countP L n).1 then bad 5 (zC L len n) (countP L n).2
 else good (countP L n).1 (countP L n).2
def zJ (L:List (Int×Int))(len:Int)(n:Nat):Out×Int:=
 let a:=zj L len (n+1)
 if a.k≠0 then (a,0)
 else if zf L a.n=125 then (good a.v (a.n+1),a.v)
 else if zf L a.n≠44 then (bad 3 (zC L len a.n) a.n,0)
 else if zf L (a.n+1)=125 then (good a.v (a.n+2),-1)
 else
  let m:=zj L len (a.n+1)
  if m.k≠0 then (m,0)
  else if zf L m.n≠125 then (bad 3 (zC L len m.n) m.n,0)
  else if m.v<a.v then (bad 4 (zC L len n) (m.n+1),0)
  else (good a.v (m.n+1),m.v)
end Pro
def Tells (b:Nat)(L:List (Int×Int))(len dp:Int)(a:Nat->Addr)(w:World)(o:Pro.Out)(yes no:Value)(x:Ending)(w':World):Prop:=
 ze (zt b) w w'/\zR w' b L o.n len dp/\((o.k=0/\x = .returned (.tuple #[yes,.nilIface]))\/(o.k≠0/\∃ v,x = .returned (.tuple #[no,v])/\zI w' w.heap.size v (zN a o.k) o.p))
theorem zX {base:Nat}{a:Nat->Addr}{o:Pro.Out}{yes no:Value}{x:Ending}(h:(o.k=0/\x = .returned (.tuple #[yes,.nilIface]))\/(o.k≠0/\∃ v,x = .returned (.tuple #[no,v])/\zI w' base v (zN a o.k) o.p))(hk:o.k=0):x = .returned (.tuple #[yes,.nilIface]):=by
 rcases h with ⟨_,h⟩ |⟨h,_⟩
 ·exact h
 ·exact absurd hk h
theorem qz {base:Nat}{a:Nat->Addr}{o:Pro.Out}{yes no:Value}{x:Ending}(h:(o.k=0/\x = .returned (.tuple #[yes,.nilIface]))\/(o.k≠0/\∃ v,x = .returned (.tuple #[no,v])/\zI w' base v (zN a o.k) o.p))(hk:o.k≠0):∃ v,x = .returned (.tuple #[no,v])/\zI w' base v (zN a o.k) o.p:=by
 rcases h with ⟨h,_⟩ |⟨_,h⟩
 ·exact absurd h hk
 ·exact h
variable {b w}
theorem zW.mine {a:Nat->Addr}(h:zW w a)(k:ze (zt b) w w')(hb:11<=b):zW w' a:=h.keep k (fun j hj e=>by unfold zt at e;omega)
theorem zW.drewN {w:World}{a:Nat->Addr}(h:zW w a)(q:Nat):zW (w.drewN q) a:=h.keep ((ze.refl (fun _=>False) w).drewN q) (fun _ _ f=>f)
variable {L len dp a}
theorem jK {o:Pro.Out}{yes no v:Value}{k n:Nat}{p:Int}(ho:o=Pro.bad k p n)(hk:k≠0)(hO:ze (zt b) w w')(hR:zR w' b L n len dp)(hF:zI w' w.heap.size v (zN a k) p) :
  Tells b L len dp a w o yes no (.returned (.tuple #[no,v])) w':=by
 subst ho;exact ⟨hO,hR,.inr ⟨hk,v,rfl,hF⟩⟩
theorem qU {o:Pro.Out}{yes yes' no:Value}{v:Int}{n:Nat}(ho:o=Pro.good v n)(hy:yes'=yes)(hO:ze (zt b) w w')(hR:zR w' b L n len dp) :
  Tells b L len dp a w o yes no (.returned (.tuple #[yes',.nilIface])) w':=by
 subst ho;subst hy;exact ⟨hO,hR,.inl ⟨rfl,rfl⟩⟩
theorem zcv (x:Int)(h0:0<=x)(h1:x<2147483648):bits .and .i32 x 31=x % 32:=bits_mask .i32 31 (by decide) wraps_i32 5 (by decide) x h0 (by omega)
theorem zcw (h:k<=4):(16:Int) ^ k<=65536:=by
 have:k=0\/k=1\/k=2\/k=3\/k=4:=by omega
 rcases this with rfl |rfl |rfl |rfl |rfl<;>decide
namespace Pro
theorem hexV_hi (b:Int):hexV b<=15:=by unfold hexV;(repeat' split)<;>omega
theorem zaM (b:Int):-1<=hexV b:=by unfold hexV;(repeat' split)<;>omega
theorem Qr {n:Nat}{c:Int}(h:hexV (zf L n)<0):hexO L len (f+1) c n=bad 3 (zC L len n) n:=by simp only [hexO];rw [if_pos h]
theorem YT {n:Nat}{c:Int}(h:0<=hexV (zf L n)):hexO L len (f+1) c n=hexO L len f (16*c+hexV (zf L n)) (n+1):=by simp only [hexO];rw [if_neg (by omega)]
theorem Ye {n:Nat}(h:0<=hexV (zf L n)):n<L.length:=by
 by_cases hn:n<L.length
 ·exact hn
 ·rw [zO (by omega)] at h;exact absurd h (by decide)
end Pro
theorem Kr (x y:Int)(h0:0<=x)(h1:x<134217728)(h2:0<=y)(h3:y<16):bits .or .i32 (x*16) y=16*x+y:=by
 rw [bits_join .i32 31 (by decide) wraps_i32 4 (x*16) y (by omega) (by omega) (by omega) h2 (by omega) (by omega)];omega
theorem ze.none {P:Nat->Prop}{w w':World}(h:Q8 w w'):ze P w w':=h.mono (fun _ _ f=>f.elim)
variable (b L len dp a w)
theorem Yf (h:zR w b L n len dp)(hS:zW w a)(_hb:11<=b)(hL:L.length<=400)(hn:n<=L.length)(hF:Pro.Fit L) :
  Calls prog 282 #[.pointer (some ⟨b,0,none⟩)] w (Tells b L len dp a w (Pro.ym L len n) (.int .i32 (Pro.ym L len n).v) (.int .i32 0)):=by
 have H:=zc h;have HS:=zc hS;have hfit:=hF n;clear hS hF;by_cases hlet:Pro.letter (Pro.zf L n)
 ·have HO:Hid (Pro.ym L len n=Pro.good (Pro.zf L n % 32) (n+1)):=by unfold Pro.ym;rw [if_pos hlet];rfl
  obtain ⟨c0,c1,c2,c3,f1,f3⟩:=h;clear c0 c2 c3 f3;unfold Pro.letter at hlet;go_enter func282,ntmps282;go_wp2_with (go_at_call 157;refine Q7 (yA b L (n) len dp _ (by exact zb H) hL (by omega)) ?_)
  all_goals
   go_ret2;refine qU (zb HO) ?_ ((ze.refl _ _).mine _ _) ((zb H).setN _ _ (by omega));rw [zb HO];show Value.int .i32 _=Value.int .i32 _;rw [zcv _ (by omega) (by omega)];rfl
 ·have HO:Hid (Pro.ym L len n=Pro.bad 3 (Pro.zC L len n) n):=by unfold Pro.ym;rw [if_neg hlet];rfl
  unfold Pro.letter at hlet;clear h;go_enter func282,ntmps282;go_wp2_with (first |(go_at_call 157;refine Q7 (yA b L (n) len dp _ (by exact zb H) hL (by omega)) ?_) |(go_at_call 64;refine (jJ b L (n) len dp a _ (by exact zb H) (by exact zb HS) hL (by omega)).mono ?_;rintro e wq ⟨v,rfl,hv,hO1⟩))
  all_goals
   go_ret2;exact jK (zb HO) (by decide) hO1.none ((zb H).keep hO1 (fun f=>f) (fun _ _ f=>f)) hv
variable (d)
theorem yW (h:zR w b L n len dp)(hS:zW w a)(hb:11<=b)(hL:L.length<=400)(hn:n<=L.length)(hF:Pro.Fit L)(hd:d<=4) :
  Calls prog 283 #[.pointer (some ⟨b,0,none⟩),.int .i64 d] w (Tells b L len dp a w (Pro.hexO L len d 0 n) (.int .i32 (Pro.hexO L len d 0 n).v) (.int .i32 0)):=by
 have HS:=zc hS;clear hS;go_enter func283,ntmps283;go_wp2_with fail;go_loopw [6,10] (fun c i wr=>∃ (k:Nat) (q:Int),k<=d/\i = .int .i64 k/\c = .int .i32 q/\0<=q/\q<(16:Int) ^ k/\n+k<=L.length/\Hid (zR wr b L (n+k) len dp)/\ze (zt b) w wr/\Hid (Pro.hexO L len d 0 n=Pro.hexO L len (d-k) q (n+k)))
  (fun _ i _=>d-(intOf i).toNat)
 case atStart=>exact ⟨0,0,Nat.zero_le _,rfl,rfl,by omega,by simp,by omega,h,ze.refl _ _,rfl⟩
 case round=>
  obtain ⟨k,q,hk,rfl,rfl,hq0,hq1,hnk,H,hO,HF⟩:=hrel;have hp:(16:Int) ^ k<=65536:=zcw k (by omega);have hd1:=Pro.hexV_hi (Pro.zf L (n+k));have hd0:=Pro.zaM (Pro.zf L (n+k));have hfit:=hF (n+k);by_cases hlt:k<d
  ·by_cases hd:Pro.hexV (Pro.zf L (n+k))<0
   ·have HF1:Hid (Pro.hexO L len d 0 n=Pro.bad 3 (Pro.zC L len (n+k)) (n+k)):=by
     rw [zb HF,show d-k=(d-k-1)+1 by omega];exact Pro.Qr hd
    have hB:Pro.hexB (Pro.zf L (n+k))=false:=(by unfold Pro.hexB;simp;omega);have HS:=zc ((zb HS).mine hO hb);go_wp2_with (first |(go_at_call 157;refine Q7 (yA b L (n+k) len dp _ (by exact zb H) hL (by omega)) ?_) |(go_at_call 299;refine Q7 (jW _ _ (by omega) (by omega)) ?_) |(go_at_call 64;refine (jJ b L (n+k) len dp a _ (by exact zb H) (by exact zb HS) hL (by omega)).mono ?_;rintro e wq ⟨v,rfl,hv,hO1⟩));go_ret2;exact jK (zb HF1) (by decide) (hO.trans hO1.none) ((zb H).keep hO1 (fun f=>f) (fun _ _ f=>f)) (hv.base hO.size)
   ·have HF1:Hid (Pro.hexO L len d 0 n=Pro.hexO L len (d-(k+1)) (16*q+Pro.hexV (Pro.zf L (n+k))) (n+(k+1))):=by
     rw [zb HF,show d-k=(d-(k+1))+1 by omega];exact Pro.YT (by omega)
    have hlen:n+k<L.length:=Pro.Ye (by omega);have hB:Pro.hexB (Pro.zf L (n+k))=true:=(by unfold Pro.hexB;simp;omega);have hN:Pro.hexN (Pro.zf L (n+k))=Pro.hexV (Pro.zf L (n+k)):=(by unfold Pro.hexN;rw [if_neg hd]);have hp':(16:Int) ^ (k+1)=16*(16:Int) ^ k:=(by rw [QD];omega);have hpn:16*q+Pro.hexV (Pro.zf L (n+k))<(16:Int) ^ (k+1):=(by omega);have Hpn:=zc hpn;clear hp' hpn;have hc:=zb H;obtain ⟨c0,c1,c2,c3,f1,f3⟩:=hc;clear c0 c2 c3 f3;go_wp2_with (first |(go_at_call 157;refine Q7 (yA b L (n+k) len dp _ (by exact zb H) hL (by omega)) ?_) |(go_at_call 299;refine Q7 (jW _ _ (by omega) (by omega)) ?_));refine ⟨⟨k+1,16*q+Pro.hexV (Pro.zf L (n+k)),by omega,by go_num,?_,by omega,zb Hpn,by omega,(zb H).setN _ _ (by omega),hO.mine _ _,HF1⟩,by simp [intOf];omega⟩;rw [Kr _ _ hq0 (by omega) (by omega) (by omega)]
  ·have HF1:Hid (Pro.hexO L len d 0 n=Pro.good q (n+k)):=by
    rw [zb HF,show d-k=0 by omega];rfl
   go_wp2_with fail;go_ret2;exact qU (zb HF1) (by rw [zb HF1];rfl) hO (zb H)
namespace Pro
theorem zp (c:UInt8)(k:Int)(hk:k=(c.toNat:Int)):zr L n { data:=#[c] }=decide (zf L n=k):=by
 subst hk;show ju L n { data:=#[c] } 1 0=_;simp only [ju];have:zd { data:=#[c] } 0=(c.toNat:Int):=rfl;rw [this];by_cases h:zf L (n+0)=(c.toNat:Int)
 ·rw [if_pos h];simpa using h
 ·rw [if_neg h];simpa using h
theorem yC (c d:UInt8)(k j:Int)(hk:k=(c.toNat:Int))(hj:j=(d.toNat:Int)):zr L n { data:=#[c,d] }=decide (zf L n=k/\zf L (n+1)=j):=by
 subst hk;subst hj;show ju L n { data:=#[c,d] } 2 0=_;simp only [ju];have e0:zd { data:=#[c,d] } 0=(c.toNat:Int):=rfl;have e1:zd { data:=#[c,d] } (0+1)=(d.toNat:Int):=rfl;rw [e0,e1];by_cases h:zf L (n+0)=(c.toNat:Int)
 ·rw [if_pos h];by_cases h':zf L (n+(0+1))=(d.toNat:Int)
  ·rw [if_pos h'];simp only [YG,jY] at h h';simp [h,h']
  ·rw [if_neg h'];simp only [YG,jY] at h h';simp [h,h']
 ·rw [if_neg h];simp only [YG] at h;simp [h]
variable {L n}
theorem zq (h:0<=zf L n):n<L.length:=by
 by_cases hn:n<L.length
 ·exact hn
 ·rw [zO (by omega)] at h;omega
theorem Zk {len:Int}{f d n:Nat}{c:Int}(h:0<d)(h1:zf L n=125):yw L len (f+1) c d n=good c (n+1):=by simp only [yw];rw [if_pos ⟨h,h1⟩]
theorem Xk {len:Int}{f d n:Nat}{c:Int}(h:¬(0<d/\zf L n=125))(h1:hexV (zf L n)<0\/1114111<16*c+hexV (zf L n)):yw L len (f+1) c d n=bad 3 (zC L len n) n:=by simp only [yw];rw [if_neg h,if_pos h1]
theorem Yg {len:Int}{f d n:Nat}{c:Int}(h:¬(0<d/\zf L n=125))(h1:¬(hexV (zf L n)<0\/1114111<16*c+hexV (zf L n))):yw L len (f+1) c d n=yw L len f (16*c+hexV (zf L n)) (d+1) (n+1):=by simp only [yw];rw [if_neg h,if_neg h1]
end Pro
theorem vg (h:zR w b L n len dp)(hS:zW w a)(hb:11<=b)(hL:L.length<=400)(hn:n<=L.length)(hF:Pro.Fit L) :
  Calls prog 284 #[.pointer (some ⟨b,0,none⟩)] w (Tells b L len dp a w (Pro.jC L len n) (.int .i32 (Pro.jC L len n).v) (.int .i32 0)):=by
 have HS:=zc hS;clear hS;go_enter func284,ntmps284;go_wp2_with fail;go_loopw [4,5] (fun c i wr=>∃ (d:Nat) (q:Int),i = .int .i64 d/\c = .int .i32 q/\0<=q/\q<=1114111/\n+d<=L.length/\Hid (zR wr b L (n+d) len dp)/\ze (zt b) w wr/\Hid (Pro.jC L len n=Pro.yw L len (L.length+1-(n+d)) q d (n+d)))
  (fun _ i _=>L.length-(intOf i).toNat)
 case atStart=>exact ⟨0,0,rfl,rfl,by omega,by omega,by omega,h,ze.refl _ _,rfl⟩
 case round=>
  obtain ⟨d,q,rfl,rfl,hq0,hq1,hnd,H,hO,HF⟩:=hrel;have hd1:=Pro.hexV_hi (Pro.zf L (n+d));have hd0:=Pro.zaM (Pro.zf L (n+d));have hfit:=hF (n+d);by_cases hc:0<d/\Pro.zf L (n+d)=125
  ·have HF1:Hid (Pro.jC L len n=Pro.good q (n+d+1)):=by
    rw [zb HF,show L.length+1-(n+d)=(L.length-(n+d))+1 by omega];exact Pro.Zk hc.1 hc.2
   have hz:((d:Int) == 0)=false:=(by simp;omega);have hm:Pro.zr L (n+d) { data:=#[125] }=true:=(by rw [Pro.zp L (n+d) 125 125 rfl];simp [hc.2]);clear hc;go_wp2_with (go_at_call 113;refine (yT b L (n+d) len dp _ _ (by exact zb H) hL (by omega) (by decide) (by assumption)).mono ?_;rintro e wq ⟨rfl,hR1,hO1⟩);go_ret2;exact qU (zb HF1) (by rw [zb HF1];rfl) (hO.trans hO1) hR1
  ·by_cases hbd:Pro.hexV (Pro.zf L (n+d))<0\/1114111<16*q+Pro.hexV (Pro.zf L (n+d))
   ·have HF1:Hid (Pro.jC L len n=Pro.bad 3 (Pro.zC L len (n+d)) (n+d)):=by
     rw [zb HF,show L.length+1-(n+d)=(L.length-(n+d))+1 by omega];exact Pro.Xk hc hbd
    have HS:=zc ((zb HS).mine hO hb);have hcs:(((d:Int) == 0)=true)\/(((d:Int) == 0)=false/\Pro.zr L (n+d) { data:=#[125] }=false):=by
     by_cases hz:d=0
     ·left;simp [hz]
     ·right;exact ⟨by simp;omega,by rw [Pro.zp L (n+d) 125 125 rfl];simp;omega⟩
    have hvs:(Pro.hexB (Pro.zf L (n+d))=false)\/(Pro.hexB (Pro.zf L (n+d))=true/\bits BinOp.or IntKind.i32 (q*16) (Pro.hexN (Pro.zf L (n+d)))=16*q+Pro.hexV (Pro.zf L (n+d))/\1114111<16*q+Pro.hexV (Pro.zf L (n+d))):=by
     by_cases hx:Pro.hexV (Pro.zf L (n+d))<0
     ·left;unfold Pro.hexB;simp;omega
     ·right;refine ⟨by unfold Pro.hexB;simp;omega,?_,by omega⟩;have:Pro.hexN (Pro.zf L (n+d))=Pro.hexV (Pro.zf L (n+d)):=(by unfold Pro.hexN;rw [if_neg hx]);rw [this];exact Kr _ _ hq0 (by omega) (by omega) (by omega)
    clear hc hbd;rcases hcs with hz |⟨hz,hm⟩
    all_goals
     rcases hvs with hB |⟨hB,hor,hbig⟩
    all_goals
     go_wp2_with (first |(go_at_call 113;refine (xC b L (n+d) len dp _ _ (by exact zb H) hL (by omega) (by decide) (by assumption)).mono ?_;rintro e wq ⟨rfl,qq,rfl⟩) |(go_at_call 157;refine Q7 (yA b L (n+d) len dp _ (by first |exact zb H |exact (zb H).drewN _) hL (by omega)) ?_) |(go_at_call 299;refine Q7 (jW _ _ (by omega) (by omega)) ?_) |(go_at_call 64;refine (jJ b L (n+d) len dp a _ (by first |exact zb H |exact (zb H).drewN _) (by first |exact zb HS |exact (zb HS).drewN _) hL (by omega)).mono ?_;rintro e wq ⟨v,rfl,hv,hO1⟩))
    all_goals
     go_ret2
     first
      |exact jK (zb HF1) (by decide) (hO.trans hO1.none) ((zb H).keep hO1 (fun f=>f) (fun _ _ f=>f)) (hv.base hO.size)
      |exact jK (zb HF1) (by decide) ((hO.drewN _).trans hO1.none) (((zb H).drewN _).keep hO1 (fun f=>f) (fun _ _ f=>f)) (hv.base hO.size)
   ·have HF1:Hid (Pro.jC L len n=Pro.yw L len (L.length+1-(n+(d+1))) (16*q+Pro.hexV (Pro.zf L (n+d))) (d+1) (n+(d+1))):=by
     have hlen:n+d<L.length:=Pro.Ye (by omega);rw [zb HF,show L.length+1-(n+d)=(L.length+1-(n+(d+1)))+1 by omega];exact Pro.Yg hc hbd
    have hlen:n+d<L.length:=Pro.Ye (by omega);have hcs:(((d:Int) == 0)=true)\/(((d:Int) == 0)=false/\Pro.zr L (n+d) { data:=#[125] }=false):=by
     by_cases hz:d=0
     ·left;simp [hz]
     ·right;exact ⟨by simp;omega,by rw [Pro.zp L (n+d) 125 125 rfl];simp;omega⟩
    have hB:Pro.hexB (Pro.zf L (n+d))=true:=(by unfold Pro.hexB;simp;omega);have hor:bits BinOp.or IntKind.i32 (q*16) (Pro.hexN (Pro.zf L (n+d)))=16*q+Pro.hexV (Pro.zf L (n+d)):=by
     have:Pro.hexN (Pro.zf L (n+d))=Pro.hexV (Pro.zf L (n+d)):=(by unfold Pro.hexN;rw [if_neg (by omega)]);rw [this];exact Kr _ _ hq0 (by omega) (by omega) (by omega)
    have hsm:16*q+Pro.hexV (Pro.zf L (n+d))<=1114111:=(by omega);have hge:0<=16*q+Pro.hexV (Pro.zf L (n+d)):=(by omega);clear hc hbd;have hc:=zb H;obtain ⟨c0,c1,c2,c3,f1,f3⟩:=hc;clear c0 c2 c3 f3;rcases hcs with hz |⟨hz,hm⟩
    all_goals
     go_wp2_with (first |(go_at_call 113;refine (xC b L (n+d) len dp _ _ (by exact zb H) hL (by omega) (by decide) (by assumption)).mono ?_;rintro e wq ⟨rfl,qq,rfl⟩) |(go_at_call 157;refine Q7 (yA b L (n+d) len dp _ (by first |exact zb H |exact (zb H).drewN _) hL (by omega)) ?_) |(go_at_call 299;refine Q7 (jW _ _ (by omega) (by omega)) ?_))
    all_goals
     exact ⟨⟨d+1,16*q+Pro.hexV (Pro.zf L (n+d)),by go_num,rfl,hge,hsm,by omega,(by first |exact (zb H).setN _ _ (by omega) |exact ((zb H).drewN _).setN _ _ (by omega)),(by first |exact hO.mine _ _ |exact (hO.drewN _).mine _ _),HF1⟩,by simp [intOf];omega⟩
namespace Pro
theorem Ks (L:List (Int×Int))(len:Int):∀ (f:Nat) (c:Int) (n:Nat),0<=c->c<(16:Int) ^ (4-f)->f<=4->0<=(hexO L len f c n).v/\(hexO L len f c n).v<=65535
 |0,c,n,h0,h1,_=>by simp only [hexO,good];simp at h1;omega
 |f+1,c,n,h0,h1,h2=>by
  have hp:(16:Int) ^ (4-f)=16*(16:Int) ^ (4-(f+1)):=by rw [show 4-f=(4-(f+1))+1 by omega,QD];omega
  have hd:=hexV_hi (zf L n);by_cases hb:hexV (zf L n)<0
  ·rw [Qr hb];simp only [bad];omega
  ·rw [YT (by omega)];exact Ks L len f _ (n+1) (by omega) (by omega) (by omega)
theorem YU (L:List (Int×Int))(len:Int):∀ (f:Nat) (c:Int) (n:Nat),n<=L.length->n<=(hexO L len f c n).n/\(hexO L len f c n).n<=L.length/\((hexO L len f c n).k=0->(hexO L len f c n).n=n+f)
 |0,c,n,h=>by simp only [hexO,good];omega
 |f+1,c,n,h=>by
  by_cases hb:hexV (zf L n)<0
  ·rw [Qr hb];simp only [bad];omega
  ·rw [YT (by omega)];have hlt:n<L.length:=Ye (by omega);have:=YU L len f (16*c+hexV (zf L n)) (n+1) (by omega);omega
variable {L len}
theorem lowV_bd {n:Nat}(h:0<=lowV L len n):56320<=lowV L len n/\lowV L len n<=57343:=by
 unfold lowV at h ⊢;split at h
 ·rename_i hh;rw [if_pos hh];omega
 ·omega
end Pro
theorem wC (h:zR w b L n len dp)(hS:zW w a)(hb:11<=b)(hL:L.length<=400)(hn:n<=L.length)(hF:Pro.Fit L) :
  Calls prog 300 #[.pointer (some ⟨b,0,none⟩)] w fun x w'=>ze (zt b) w w'/\((0<=Pro.lowV L len n/\x = .returned (.tuple #[.int .i32 (Pro.lowV L len n),.bool true])/\zR w' b L (n+6) len dp)\/(Pro.lowV L len n = -1/\x = .returned (.tuple #[.int .i32 0,.bool false])/\zR w' b L n len dp)):=by
 have H:=zc h;have HS:=zc hS;clear hS;obtain ⟨c0,c1,c2,c3,f1,f3⟩:=h;clear c0 c2 c3 f3;cases hm:Pro.zr L n { data:=#[92,117] }
 ·have hv:Hid (Pro.lowV L len n = -1):=by
   rw [Pro.yC L n 92 117 92 117 rfl rfl] at hm;simp only [decide_eq_false_iff_not] at hm;unfold Pro.lowV;rw [if_neg (fun hh=>hm ⟨hh.1,hh.2.1⟩)];rfl
  go_enter func300,ntmps300;go_wp2_with (go_at_call 113;refine (xC b L (n) len dp _ _ (by exact zb H) hL (by omega) (by decide) (by assumption)).mono ?_;rintro e wq ⟨rfl,qq,rfl⟩);go_ret2;exact ⟨((ze.refl _ _).drewN _).mine _ _,.inr ⟨zb hv,rfl,((zb H).drewN _).setN _ _ rfl⟩⟩
 ·have hmm:Pro.zf L n=92/\Pro.zf L (n+1)=117:=by
   rw [Pro.yC L n 92 117 92 117 rfl rfl] at hm;simpa using hm
  have hn2:n+1<L.length:=Pro.zq (by omega);have hvb:=Pro.Ks L len 4 0 (n+2) (by omega) (by decide) (by omega);have hnb:=Pro.YU L len 4 0 (n+2) (by omega);by_cases hk:(Pro.hexO L len 4 0 (n+2)).k=0
  ·by_cases hin:56320<=(Pro.hexO L len 4 0 (n+2)).v/\(Pro.hexO L len 4 0 (n+2)).v<=57343
   ·have hv:Hid (Pro.lowV L len n=(Pro.hexO L len 4 0 (n+2)).v):=by
     unfold Pro.lowV;rw [if_pos ⟨hmm.1,hmm.2,hk,hin.1,hin.2⟩];rfl
    obtain ⟨hi1,hi2⟩:=hin;clear hmm;go_enter func300,ntmps300;go_wp2_with (first |(go_at_call 113;refine (yT b L (n) len dp _ _ (by exact zb H) hL (by omega) (by decide) (by assumption)).mono ?_;rintro e w1 ⟨rfl,hR1,hO1⟩;have hR1:zR w1 b L ((n)+2) len dp:=hR1;have H1:=zc hR1);(have HS:=zc ((zb HS).mine hO1 hb)) |(go_at_call 283;refine (yW b L (n+2) len dp a 4 _ (by exact zb H1) (by exact zb HS) hb hL (by omega) hF (by omega)).mono ?_;rintro e w2 ⟨hO2,hR2,hT2⟩;obtain rfl:=zX hT2 hk;have H2:=zc hR2;have c12:=hR2.c1;have f12:=hR2.f1));go_ret2;exact ⟨hO1.trans hO2,.inl ⟨by rw [zb hv];omega,by rw [zb hv];rfl,by have:=hnb.2.2 hk;rw [this] at hR2;exact hR2⟩⟩
   ·have hv:Hid (Pro.lowV L len n = -1):=by
     unfold Pro.lowV;rw [if_neg (fun hh=>hin ⟨hh.2.2.2.1,hh.2.2.2.2⟩)];rfl
    clear hmm;go_enter func300,ntmps300;go_wp2_with (first |(go_at_call 113;refine (yT b L (n) len dp _ _ (by exact zb H) hL (by omega) (by decide) (by assumption)).mono ?_;rintro e w1 ⟨rfl,hR1,hO1⟩;have hR1:zR w1 b L ((n)+2) len dp:=hR1;have H1:=zc hR1);(have HS:=zc ((zb HS).mine hO1 hb)) |(go_at_call 283;refine (yW b L (n+2) len dp a 4 _ (by exact zb H1) (by exact zb HS) hb hL (by omega) hF (by omega)).mono ?_;rintro e w2 ⟨hO2,hR2,hT2⟩;obtain rfl:=zX hT2 hk;have H2:=zc hR2;have c12:=hR2.c1;have f12:=hR2.f1))
    all_goals first
     |(exfalso;exact hin ⟨by omega,by omega⟩)
     |(go_ret2;exact ⟨(hO1.trans hO2).mine _ _,.inr ⟨zb hv,rfl,hR2.setN _ _ rfl⟩⟩)
  ·have hv:Hid (Pro.lowV L len n = -1):=by
    unfold Pro.lowV;rw [if_neg (fun hh=>hk hh.2.2.1)];rfl
   clear hmm;go_enter func300,ntmps300;go_wp2_with (first |(go_at_call 113;refine (yT b L (n) len dp _ _ (by exact zb H) hL (by omega) (by decide) (by assumption)).mono ?_;rintro e w1 ⟨rfl,hR1,hO1⟩;have hR1:zR w1 b L ((n)+2) len dp:=hR1;have H1:=zc hR1);(have HS:=zc ((zb HS).mine hO1 hb)) |(go_at_call 283;refine (yW b L (n+2) len dp a 4 _ (by exact zb H1) (by exact zb HS) hb hL (by omega) hF (by omega)).mono ?_;rintro e w2 ⟨hO2,hR2,hT2⟩;obtain ⟨v2,rfl,hv2⟩:=qz hT2 hk;obtain ⟨g2,hg2⟩:=hv2.form;subst hg2;have H2:=zc hR2;have c12:=hR2.c1;have f12:=hR2.f1));go_ret2;exact ⟨(hO1.trans hO2).mine _ _,.inr ⟨zb hv,rfl,hR2.setN _ _ rfl⟩⟩
theorem WX {A B:Prop}(h:(0<=v/\x=y/\A)\/(v = -1/\x=z/\B))(hv:0<=v):x=y/\A:=by
 rcases h with ⟨_,h⟩ |⟨h,_⟩
 ·exact h
 ·omega
theorem zcx {A B:Prop}(h:(0<=v/\x=y/\A)\/(v = -1/\x=z/\B))(hv:¬0<=v):x=z/\B:=by
 rcases h with ⟨h,_⟩ |⟨_,h⟩
 ·exact absurd h hv
 ·exact h
theorem kE (h:zR w b L n len dp)(hS:zW w a)(hb:11<=b)(hL:L.length<=400)(hn:n<=L.length)(hF:Pro.Fit L) :
  Calls prog 285 #[.pointer (some ⟨b,0,none⟩)] w (Tells b L len dp a w (Pro.zY L len n) (.int .i32 (Pro.zY L len n).v) (.int .i32 0)):=by
 have H:=zc h;have HS:=zc hS;clear h hS;have hvb:=Pro.Ks L len 4 0 n (by omega) (by decide) (by omega);have hnb:=Pro.YU L len 4 0 n (by omega);by_cases hk:(Pro.hexO L len 4 0 n).k=0
 ·by_cases hin:(Pro.hexO L len 4 0 n).v<55296\/56319<(Pro.hexO L len 4 0 n).v
  ·have HO:Hid (Pro.zY L len n=Pro.hexO L len 4 0 n):=(by unfold Pro.zY;rw [if_pos (.inr hin)];rfl);go_enter func285,ntmps285;go_wp2_with (first |(go_at_call 283;refine (yW b L n len dp a 4 _ (by exact zb H) (by exact zb HS) hb hL (by omega) hF (by omega)).mono ?_;rintro e w2 ⟨hO2,hR2,hT2⟩;obtain rfl:=zX hT2 hk;have H2:=zc hR2;have c12:=hR2.c1;have f12:=hR2.f1))
   all_goals first
    |(exfalso;omega)
    |(go_ret2;rw [zb HO];exact ⟨hO2,hR2,.inl ⟨hk,rfl⟩⟩)
  ·have hn4:=hnb.2.2 hk;have hle4:n+4<=L.length:=(by omega);clear hnb;by_cases hlow:0<=Pro.lowV L len (n+4)
   ·have HO:Hid (Pro.zY L len n=Pro.good (65536+((Pro.hexO L len 4 0 n).v-55296)*1024+(Pro.lowV L len (n+4)-56320)) (n+4+6)):=by
     unfold Pro.zY;rw [if_neg (by omega),hn4,if_pos hlow];rfl
    have hlb:=Pro.lowV_bd hlow;go_enter func285,ntmps285;go_wp2_with (first |(go_at_call 283;refine (yW b L n len dp a 4 _ (by exact zb H) (by exact zb HS) hb hL (by omega) hF (by omega)).mono ?_;rintro e w2 ⟨hO2,hR2,hT2⟩;obtain rfl:=zX hT2 hk;have H2:=zc hR2;have c12:=hR2.c1;have f12:=hR2.f1);(have HS:=zc ((zb HS).mine hO2 hb)) |(go_at_call 300;refine (wC b L (n+4) len dp a _ (by have:=zb H2;rw [hn4] at this;exact this) (zb HS) hb hL (by omega) hF).mono ?_;rintro e w3 ⟨hO3,hT3⟩;obtain ⟨rfl,hR3⟩:=WX hT3 (by omega)))
    all_goals first
     |(exfalso;omega)
     |(go_ret2;exact qU (zb HO) (by rw [zb HO];rfl) (hO2.trans hO3) hR3)
   ·have HO:Hid (Pro.zY L len n=Pro.hexO L len 4 0 n):=(by unfold Pro.zY;rw [if_neg (by omega),hn4,if_neg hlow];rfl);go_enter func285,ntmps285;go_wp2_with (first |(go_at_call 283;refine (yW b L n len dp a 4 _ (by exact zb H) (by exact zb HS) hb hL (by omega) hF (by omega)).mono ?_;rintro e w2 ⟨hO2,hR2,hT2⟩;obtain rfl:=zX hT2 hk;have H2:=zc hR2;have c12:=hR2.c1;have f12:=hR2.f1);(have HS:=zc ((zb HS).mine hO2 hb)) |(go_at_call 300;refine (wC b L (n+4) len dp a _ (by have:=zb H2;rw [hn4] at this;exact this) (zb HS) hb hL (by omega) hF).mono ?_;rintro e w3 ⟨hO3,hT3⟩;obtain ⟨rfl,hR3⟩:=zcx hT3 (by omega)))
    all_goals first
     |(exfalso;omega)
     |(go_ret2;rw [zb HO];exact ⟨hO2.trans hO3,(by rw [hn4];exact hR3),.inl ⟨hk,rfl⟩⟩)
 ·have HO:Hid (Pro.zY L len n=Pro.hexO L len 4 0 n):=by unfold Pro.zY;rw [if_pos (.inl hk)];rfl
  go_enter func285,ntmps285;go_wp2_with (first |(go_at_call 283;refine (yW b L n len dp a 4 _ (by exact zb H) (by exact zb HS) hb hL (by omega) hF (by omega)).mono ?_;rintro e w2 ⟨hO2,hR2,hT2⟩;obtain ⟨v2,rfl,hv2⟩:=qz hT2 hk;obtain ⟨g2,hg2⟩:=hv2.form;subst hg2;have H2:=zc hR2;have c12:=hR2.c1;have f12:=hR2.f1))
  all_goals
   go_ret2;rw [zb HO];exact ⟨hO2,hR2,.inr ⟨hk,_,rfl,hv2⟩⟩
set_option maxHeartbeats 2000000
set_option maxRecDepth 1000000
theorem Zl:
  Calls prog 295 #[.string s,.int .u8 c] w fun e w'=>e = .returned (.int .i64 (firstIdx s c.toNat.toUInt8))/\w'=w:=by
 rw [Lib.firstIdx_eq];go_enter func295,ntmps295;go_wp2;rw [run_callFunc_extern func305 (by kernel_rfl) (by kernel_rfl) (by kernel_rfl) (e:=Extern.BytealgIndexByte.indexByte) (by kernel_rfl),Lib.run_indexByteString];simp only [Result.andThen];rw [Oper.upon_value];go_wp2;go_ret;exact ⟨rfl,rfl⟩
theorem Qs (h1:r<0) :
  Calls prog 279 #[.string s,.int .i32 r] w fun e w'=>e = .returned (.int .i64 (-1))/\w'=w:=by
 go_enter func279,ntmps279;go_wp2;go_ret;exact ⟨rfl,rfl⟩
theorem Xw (h0:0<=r)(h1:r<128) :
  Calls prog 279 #[.string s,.int .i32 r] w fun e w'=>e = .returned (.int .i64 (firstIdx s r.toNat.toUInt8))/\w'=w:=by
 go_enter func279,ntmps279;go_wp2_with (go_at_call 295;refine Q7 (Zl _ _ _) ?_);go_ret;exact ⟨rfl,rfl⟩
theorem Qt (h0:128<=r)(h1:r<=1114111)(h2:r≠65533)(hs:∀ b∈s.data.toList,b.toNat<128)(_hz:s.size<=20) :
  Calls prog 279 #[.string s,.int .i32 r] w fun e w'=>e = .returned (.int .i64 (-1))/\Q8 w w':=by
 by_cases hv:(0<=r/\r<55296)\/(57343<r/\r<=1114111)
 ·have hval:Utf8.valid r=true:=by rw [validRune_eq];unfold validRune;exact decide_eq_true hv
  obtain ⟨e1,e2,e3⟩:=encode_facts r hval h0;have e3:128<=zd (Utf8.encode r) ((Utf8.encode r).size-1):=by
   have hh:(Utf8.encode r).size-1<(Utf8.encode r).size:=(by omega);rw [xZ _ _ hh];have:=e3 hh;omega
  have e4:=yD (Utf8.encode r) ((Utf8.encode r).size-1);generalize hR:Utf8.encode r=rs at *;have hx2:∀ wx,(Instr.index 9 (.string rs) (.int .i64 ((rs.size:Int)-1))).run prog wx = .ok (.int .u8 (zd rs (rs.size-1))) wx:=fun wx=>vf rs _ (by omega) _ (by omega) wx;by_cases hlen:rs.size-1<s.size
  ·have hx1:∀ wx,(Instr.index 9 (.string s) (.int .i64 ((rs.size:Int)-1))).run prog wx = .ok (.int .u8 (zd s (rs.size-1))) wx:=fun wx=>vf s _ hlen _ (by omega) wx;have e5:zd s (rs.size-1)<128:=by
    rw [xZ s _ hlen];have:=hs (s[rs.size-1]) (by exact Array.getElem_mem_toList (xs:=s.data) hlen);omega
   have hne:(zd s (rs.size-1) != zd rs (rs.size-1))=true:=(by simp;omega);have hfi:∀ a e,firstIdx (s.extract a e) (zd rs (rs.size-1)).toNat.toUInt8 = -1:=fun a e=>firstIdx_ascii s a e _ hs (by simp;omega);have hwr:IntKind.i64.wrap ((rs.size:Int)-1+1)=(rs.size:Int):=(by rw [wrap_small _ (by omega) (by omega)];omega);have Hs:=zc hs;clear hs hval;go_enter func279,ntmps279;rcases hv with ⟨hv1,hv2⟩ |⟨hv1,hv2⟩
   all_goals
    go_wp2_with go_in
    go_step3
    go_wp2;refine wp_loop_rounds 1 ?_;rw [rounds_succ];go_wp2
    go_step3
    go_wp2;go_quiet (fail);go_wp2;go_quiet ((go_at_call 295;exact (Zl _ _ _).mono (by rintro e w'' ⟨rfl,rfl⟩;exact ⟨rfl,_,rfl⟩)));go_wp2;rw [Exit.noGoto_ret];go_wp2;rw [Exit.noGoto_ret];go_wp2;go_ret;exact ⟨rfl,(ze.refl _ _).drewN _⟩
  ·have Hs:=zc hs;clear hs hval;go_enter func279,ntmps279;rcases hv with ⟨hv1,hv2⟩ |⟨hv1,hv2⟩
   all_goals
    go_wp2_with go_in
    go_step3
    go_wp2;refine wp_loop_rounds 1 ?_;rw [rounds_succ];go_wp2;rw [Exit.noGoto_ret];go_wp2;go_ret;exact ⟨rfl,ze.refl _ _⟩
 ·go_enter func279,ntmps279;go_wp2
  all_goals first
   |(exfalso;omega)
   |(go_ret;exact ⟨rfl,ze.refl _ _⟩)
theorem Xx (hs:∀ b∈s.data.toList,b.toNat<128)(_hz:s.size<=20) :
  Calls prog 279 #[.string s,.int .i32 65533] w fun e w'=>e = .returned (.int .i64 (-1))/\Q8 w w':=by
 go_enter func279,ntmps279;go_wp2;go_loopw [4] (fun _ wr=>∃ pos:Nat,wr=w.iter s pos) (fun _ wr=>s.size-wr.iterPos w.heap.size)
 case atStart=>exact ⟨0,rfl⟩
 case round=>
  obtain ⟨pos,rfl⟩:=hrel;by_cases hp:pos<s.size
  ·have ha:(s[pos]'hp).toNat<128:=hs _ (by exact Array.getElem_mem_toList (xs:=s.data) hp);have hnx:∀ ty,(Instr.next (.pointer (some ⟨w.heap.size,0,none⟩)) true ty).run prog (w.iter s pos)=_:=fun ty=>run_next_ascii w s pos ty hp ha;have hne:(((s[pos]'hp).toNat:Int) == 65533)=false:=(by simp;omega);have Hs:=zc hs;clear hs;go_wp2;go_roundw
   case rel=>exact ⟨pos+1,rfl⟩
   case measure=>simp;omega
  ·have hnx:∀ ty,(Instr.next (.pointer (some ⟨w.heap.size,0,none⟩)) true ty).run prog (w.iter s pos)=_:=fun ty=>run_next_end w s pos ty hp;have Hs:=zc hs;clear hs;go_wp2;go_ret;exact ⟨rfl,(ze.refl _ _).alloc _⟩
def Pro.inB (s:ByteArray)(r:Int):Bool:=s.data.toList.any fun b=>decide ((b.toNat:Int)=r)
theorem inB_low (h0:0<=r)(h1:r<128):decide (0<=firstIdx s r.toNat.toUInt8)=Pro.inB s r:=by
 rw [firstIdx_nonneg];unfold Pro.inB;congr 1;funext b;have hb:=b.toNat_lt;by_cases h:(b.toNat:Int)=r
 ·have e:b=r.toNat.toUInt8:=by
   apply UInt8.toNat_inj.1;rw [<-h];simp
  rw [beq_iff_eq.2 e,decide_eq_true h]
 ·rw [decide_eq_false h,beq_eq_false_iff_ne];intro e;apply h;rw [e];simp;omega
theorem Qu (hs:∀ b∈s.data.toList,b.toNat<128)(h:r<0\/128<=r):Pro.inB s r=false:=by
 unfold Pro.inB;rw [List.any_eq_false];intro b hb;have:=hs b hb;simp;omega
theorem QS (h1:r<=1114111)(hs:∀ b∈s.data.toList,b.toNat<128)(hz:s.size<=20) :
  Calls prog 279 #[.string s,.int .i32 r] w fun e w'=>(∃ k,e = .returned (.int .i64 k)/\decide (0<=k)=Pro.inB s r)/\Q8 w w':=by
 by_cases h0:r<0
 ·exact (Qs s r w h0).mono (by rintro e w1 ⟨rfl,rfl⟩;exact ⟨⟨_,rfl,(Qu s r hs (.inl h0)).symm⟩,ze.refl _ _⟩)
 ·by_cases h2:r<128
  ·exact (Xw s r w (by omega) h2).mono (by rintro e w1 ⟨rfl,rfl⟩;exact ⟨⟨_,rfl,inB_low s r (by omega) h2⟩,ze.refl _ _⟩)
  ·by_cases h3:r=65533
   ·subst h3;exact (Xx s w hs hz).mono (by rintro e w1 ⟨rfl,hO⟩;exact ⟨⟨_,rfl,(Qu s _ hs (.inr (by omega))).symm⟩,hO⟩)
   ·exact (Qt s r w (by omega) h1 h3 hs hz).mono (by rintro e w1 ⟨rfl,hO⟩;exact ⟨⟨_,rfl,(Qu s _ hs (.inr (by omega))).symm⟩,hO⟩)
theorem Yh (h1:r<=1114111)(hs:∀ b∈s.data.toList,b.toNat<128)(hz:s.size<=20) :
  Calls prog 253 #[.string s,.int .i32 r] w fun e w'=>e = .returned (.bool (Pro.inB s r))/\Q8 w w':=by
 have HS:=zc hs;clear hs;go_enter func253,ntmps253;go_wp2_with (go_at_call 279;refine (QS s r _ h1 (zb HS) hz).mono ?_;rintro e w1 ⟨⟨k,rfl,hk⟩,hO⟩);go_ret;exact ⟨by rw [<-hk];rfl,hO⟩
theorem inB_sign:Pro.inB { data:=#[94,36,92,46,42,43,63,40,41,91,93,123,125,124,47] } r=Pro.sign r:=rfl
theorem zZ (h1:c<=1114111) :
  Calls prog 280 #[.int .i32 c] w fun x w'=>x = .returned (.tuple #[.int .i32 (Pro.wz c),.bool (Pro.wy c)])/\Q8 w w':=by
 by_cases hc:0<=Pro.ctlV c
 ·have HV:Hid (Pro.wz c=Pro.ctlV c/\Pro.wy c=true):=⟨by unfold Pro.wz;rw [if_pos hc],by unfold Pro.wy;simp [hc]⟩
  have hcs:c=116\/c=110\/c=118\/c=102\/c=114:=by unfold Pro.ctlV at hc;(repeat' split at hc)<;>omega
  clear hc h1;rcases hcs with rfl |rfl |rfl |rfl |rfl
  all_goals
   go_enter func280,ntmps280;go_wp2_with fail;go_ret2;rw [HV.out.1,HV.out.2];exact ⟨rfl,ze.refl _ _⟩
 ·have HV:Hid (Pro.wz c=c/\Pro.wy c=Pro.sign c):=⟨by unfold Pro.wz;rw [if_neg hc],by unfold Pro.wy;simp [hc]⟩
  have hcs:(c == 116)=false/\(c == 110)=false/\(c == 118)=false/\(c == 102)=false/\(c == 114)=false:=by
   unfold Pro.ctlV at hc
   (repeat' split at hc)<;>simp<;>omega
  obtain ⟨k1,k2,k3,k4,k5⟩:=hcs;clear hc;go_enter func280,ntmps280;go_wp2_with (go_at_call 253;refine (Yh _ _ _ h1 (by decide) (by decide)).mono ?_;rintro e w1 ⟨rfl,hO⟩);go_ret2;rw [HV.out.1,HV.out.2,<-inB_sign];exact ⟨rfl,hO⟩
theorem Tells.trans {b:Nat}{L:List (Int×Int)}{len dp:Int}{a:Nat->Addr}{w w1 w':World}{o:Pro.Out}{yes no:Value}{x:Ending}(hO:ze (zt b) w w1)(h:Tells b L len dp a w1 o yes no x w'):Tells b L len dp a w o yes no x w':=by
 obtain ⟨h1,h2,h3⟩:=h;refine ⟨hO.trans h1,h2,?_⟩;rcases h3 with h3 |⟨hk,v,hx,hv⟩
 ·exact .inl h3
 ·exact .inr ⟨hk,v,hx,hv.base hO.size⟩
variable {b L len dp a w}
theorem Tells.yes {o:Pro.Out}{yes no:Value}(hk:o.k=0)(hO:ze (zt b) w w')(hR:zR w' b L o.n len dp):Tells b L len dp a w o yes no (.returned (.tuple #[yes,.nilIface])) w':=⟨hO,hR,.inl ⟨hk,rfl⟩⟩
theorem Tells.no {o:Pro.Out}{yes no v:Value}(hk:o.k≠0)(hO:ze (zt b) w w')(hR:zR w' b L o.n len dp)(hv:zI w' w.heap.size v (zN a o.k) o.p):Tells b L len dp a w o yes no (.returned (.tuple #[no,v])) w':=⟨hO,hR,.inr ⟨hk,v,rfl,hv⟩⟩
variable (b L len dp a w)
theorem Qv (h:zR w b L n len dp)(hS:zW w a)(_hb:11<=b)(hL:L.length<=400)(hn:n<=L.length)(_hF:Pro.Fit L) :
  Calls prog 281 #[.pointer (some ⟨b,0,none⟩)] w (Tells b L len dp a w (Pro.xY L len n) (.int .i32 (Pro.xY L len n).v) (.int .i32 0)):=by
 refine (zero_any b L n len dp a w h hS hL hn).mono ?_;rintro e w1 ⟨hO,⟨hd,rfl⟩ |⟨hd,v,rfl,hv⟩⟩
 ·have e1:Pro.xY L len n=Pro.good 0 n:=by unfold Pro.xY Pro.dig;rw [hd];rfl
  exact qU e1 (by rw [e1];rfl) hO.none (h.keep hO (fun f=>f) (fun _ _ f=>f))
 ·have e1:Pro.xY L len n=Pro.bad 3 (Pro.zC L len n) n:=by unfold Pro.xY Pro.dig;rw [hd];rfl
  exact jK e1 (by decide) hO.none (h.keep hO (fun f=>f) (fun _ _ f=>f)) hv
variable {b L len dp a w}
theorem Tells.form {o:Pro.Out}{yes no:Value}{x:Ending}(h:Tells b L len dp a w o yes no x w'):∃ y v,x = .returned (.tuple #[y,v]):=by
 rcases h.2.2 with ⟨_,e⟩ |⟨_,v,e,_⟩<;>exact ⟨_,_,e⟩
namespace Pro
theorem chain5 (a b c d e:Bool):a=true\/(a=false/\b=true)\/(a=false/\b=false/\c=true)\/(a=false/\b=false/\c=false/\d=true)\/(a=false/\b=false/\c=false/\d=false/\e=true)\/(a=false/\b=false/\c=false/\d=false/\e=false):=by
 cases a<;>cases b<;>cases c<;>cases d<;>cases e<;>simp
variable (L len)
theorem zeroO_n (n:Nat):(xY L len n).n=n:=by unfold xY;split<;>rfl
end Pro
variable (b L len dp a w)
theorem kF (h:zR w b L n len dp)(hS:zW w a)(hb:11<=b)(hL:L.length<=400)(hn:n<=L.length)(hF:Pro.Fit L) :
  Calls prog 254 #[.pointer (some ⟨b,0,none⟩)] w (Tells b L len dp a w (Pro.numO L len n) (.int .i32 (Pro.numO L len n).v) (.int .i32 0)):=by
 have H:=zc h;have HS:=zc hS;clear h hS;have hfit:=hF n;cases hsh:Pro.wy (Pro.zf L n) with
 |true=>
  have HO:Hid (Pro.numO L len n=Pro.good (Pro.wz (Pro.zf L n)) (n+1)):=by unfold Pro.numO;rw [if_pos hsh];rfl
  have hlt:n<L.length:=by
   by_cases hlt:n<L.length
   ·exact hlt
   ·rw [Pro.zO (by omega)] at hsh;exact absurd hsh (by decide)
  go_enter func254,ntmps254;go_wp2_with (first |(go_at_call 157;refine Q7 (yA b L (n) len dp _ (by exact zb H) hL (by omega)) ?_) |(go_at_call 280;refine (zZ _ _ (by omega)).mono ?_;rintro e w1 ⟨rfl,hOs⟩;have H:=zc ((zb H).keep hOs (fun f=>f) (fun _ _ f=>f));have HS:=zc ((zb HS).keep hOs (fun _ _ f=>f));have c1:=(zb H).c1;have f1:=(zb H).f1));go_ret2;exact qU (zb HO) (by rw [zb HO];rfl) (hOs.none.mine _ _) ((zb H).setN _ _ (by omega))
 |false=>
  have HO:Hid (Pro.numO L len n=if Pro.zr L n { data:=#[48] }=true then Pro.xY L len (n+1) else if Pro.zr L n { data:=#[99] }=true then Pro.ym L len (n+1) else if Pro.zr L n { data:=#[120] }=true then Pro.hexO L len 2 0 (n+1) else if Pro.zr L n { data:=#[117,123] }=true then Pro.jC L len (n+2) else if Pro.zr L n { data:=#[117] }=true then Pro.zY L len (n+1) else Pro.bad 3 (Pro.zC L len n) n):=by
   show _=_;rw [Pro.zp L n 48 48 rfl,Pro.zp L n 99 99 rfl,Pro.zp L n 120 120 rfl,Pro.yC L n 117 123 117 123 rfl rfl,Pro.zp L n 117 117 rfl];unfold Pro.numO;rw [hsh];simp only [decide_eq_true_eq,Bool.false_eq_true,if_false]
  have l1:∀ (c:UInt8) (k:Int),k=(c.toNat:Int)->Pro.zr L n { data:=#[c] }=true->n<L.length:=fun c k hk e=>Pro.zq (by rw [Pro.zp L n c k hk] at e;simp at e;omega);have l2:Pro.zr L n { data:=#[117,123] }=true->n+1<L.length:=fun e=>Pro.zq (by rw [Pro.yC L n 117 123 117 123 rfl rfl] at e;simp at e;omega);have L0:=l1 48 48 rfl;have L1:=l1 99 99 rfl;have L2:=l1 120 120 rfl;have L4:=l1 117 117 rfl;clear l1;rcases Pro.chain5 (Pro.zr L n { data:=#[48] }) (Pro.zr L n { data:=#[99] }) (Pro.zr L n { data:=#[120] }) (Pro.zr L n { data:=#[117,123] }) (Pro.zr L n { data:=#[117] }) with m0 |⟨m0,m1⟩ |⟨m0,m1,m2⟩ |⟨m0,m1,m2,m3⟩ |⟨m0,m1,m2,m3,m4⟩ |⟨m0,m1,m2,m3,m4⟩
  all_goals
   first |have hlt:=L0 m0 |have hlt:=L1 m1 |have hlt:=L2 m2 |have hlt:=l2 m3 |have hlt:=L4 m4 |skip
   clear L0 L1 L2 L4 l2;simp only [*,if_true,if_false,Bool.false_eq_true] at HO;go_enter func254,ntmps254;go_wp2_with (first |(go_at_call 157;refine Q7 (yA b L (n) len dp _ (by exact zb H) hL (by omega)) ?_) |(go_at_call 280;refine (zZ _ _ (by omega)).mono ?_;rintro e w1 ⟨rfl,hOs⟩;have H:=zc ((zb H).keep hOs (fun f=>f) (fun _ _ f=>f));have HS:=zc ((zb HS).keep hOs (fun _ _ f=>f));have c1:=(zb H).c1;have f1:=(zb H).f1) |(go_at_call 113;refine (xC b L (n) len dp _ _ (by first |exact zb H |exact (zb H).drewN _) hL (by omega) (by decide) (by assumption)).mono ?_;rintro e wq ⟨rfl,qq,rfl⟩) |(go_at_call 113;refine (yT b L (n) len dp _ _ (by first |exact zb H |exact (zb H).drewN _) hL (by omega) (by decide) (by assumption)).mono ?_;rintro e w3 ⟨rfl,hR3,hO3⟩;have hR3:zR w3 b L ((n)+1) len dp:=hR3;have H3:=zc hR3);(have HS:=zc ((zb HS).mine (by first |exact hO3 |exact ((ze.refl _ _).drewN _).trans hO3) hb)) |(go_at_call 113;refine (yT b L (n) len dp _ _ (by exact (zb H).drewN _) hL (by omega) (by decide) (by assumption)).mono ?_;rintro e w3 ⟨rfl,hR3,hO3⟩;have hR3:zR w3 b L ((n)+2) len dp:=hR3;have H3:=zc hR3);(have HS:=zc ((zb HS).mine (by first |exact hO3 |exact ((ze.refl _ _).drewN _).trans hO3) hb)) |(go_at_call 281;refine (Qv b L (n+1) len dp a _ (by exact zb H3) (by exact zb HS) hb hL (by omega) hF).mono ?_;intro e w4 hT;obtain ⟨y,v,rfl⟩:=hT.form;have HT:=zc hT;have HO3:=zc hO3;clear hT hO3 H3 hR3) |(go_at_call 282;refine (Yf b L (n+1) len dp a _ (by exact zb H3) (by exact zb HS) hb hL (by omega) hF).mono ?_;intro e w4 hT;obtain ⟨y,v,rfl⟩:=hT.form;have HT:=zc hT;have HO3:=zc hO3;clear hT hO3 H3 hR3) |(go_at_call 283;refine (yW b L (n+1) len dp a 2 _ (by exact zb H3) (by exact zb HS) hb hL (by omega) hF (by omega)).mono ?_;intro e w4 hT;obtain ⟨y,v,rfl⟩:=hT.form;have HT:=zc hT;have HO3:=zc hO3;clear hT hO3 H3 hR3) |(go_at_call 284;refine (vg b L (n+2) len dp a _ (by exact zb H3) (by exact zb HS) hb hL (by omega) hF).mono ?_;intro e w4 hT;obtain ⟨y,v,rfl⟩:=hT.form;have HT:=zc hT;have HO3:=zc hO3;clear hT hO3 H3 hR3) |(go_at_call 285;refine (kE b L (n+1) len dp a _ (by exact zb H3) (by exact zb HS) hb hL (by omega) hF).mono ?_;intro e w4 hT;obtain ⟨y,v,rfl⟩:=hT.form;have HT:=zc hT;have HO3:=zc hO3;clear hT hO3 H3 hR3) |(go_at_call 64;refine (jJ b L (n) len dp a _ (by exact (zb H).drewN _) (by exact (zb HS).drewN _) hL (by omega)).mono ?_;rintro e wq ⟨v,rfl,hv,hO1⟩));go_ret2;rw [zb HO]
   first |first |exact Tells.trans (hOs.none.trans (zb HO3)) (zb HT) |exact Tells.trans ((hOs.none.drewN _).trans (zb HO3)) (zb HT) |exact jK rfl (by decide) ((hOs.none.drewN _).trans hO1.none) (((zb H).drewN _).keep hO1 (fun f=>f) (fun _ _ f=>f)) (hv.base hOs.size)
end
end Go.Proofs.YtcgleficedipkaaGreatDoor
