/- The reader beside the lexer: a term. -/
import Derived.Test.YtcgleficedipkaaGreatDoorYTrITrK
import Derived.Test.YtcgleficedipkaaGreatDoorYChARanB
namespace Go.Proofs.YtcgleficedipkaaGreatDoor
section
open Go.RowKit
open Sm (Tree)
namespace Eqv
variable {s:ByteArray} {L:List (Int×Int)}
def asSign (a:Int):Int:=if a=0 then 94 else if a=1 then 36 else if a=2 then 98 else 66
section
variable (A:List Tok→Tree→Prop)
end
section
variable {A B:List Tok→Tree→Prop}
end
end Eqv
namespace Eqv
variable {s:ByteArray} {L:List (Int×Int)}
end Eqv
namespace Eqv
variable {s:ByteArray} {L:List (Int×Int)}
end Eqv
namespace Eqv
variable {s:ByteArray}
abbrev cont (b:Int):Prop:=128≤b∧b≤191
theorem J4 {k:Nat}(h:cont (zd s k)):k<s.size:=(yL s k).1 (by unfold cont at h;omega)
theorem xW (k:Nat)(lo hi:Int)(hl:128≤lo)(_hh:hi≤191):Pro.xy s k lo hi=true↔(lo≤zd s k∧zd s k≤hi):=by
 constructor
 ·exact fun h=>Pro.j7 h
 ·intro h
  exact Pro.QX ((yL s k).1 (by omega)) (by omega) (by omega)
theorem zau {p:Nat}(hb:192≤zd s p∧zd s p<224):(cont (zd s (p+1))→Ref.oneF s p=if Ref.badC 2 ((zd s p-192)*64+zd s (p+1)-128)=true then none else some (2,(zd s p-192)*64+zd s (p+1)-128))∧(¬cont (zd s (p+1))→Ref.oneF s p=none):=by
 have h1:Ref.headK (zd s p)=2:=by unfold Ref.headK Ref.headN;rw [if_neg (by omega),if_pos hb];rfl
 have h2:Ref.y7 (zd s p)=zd s p-192:=by unfold Ref.y7;rw [if_neg (by omega),if_pos hb]
 constructor
 ·intro hc
  have:=J4 hc
  have e:Ref.xS s p 1 1 (zd s p-192)=some ((zd s p-192)*64+zd s (p+1)-128):=by
   rw [Ref.xU (by unfold cont at hc;omega)];rfl
  unfold Ref.oneF
  rw [h1,h2,if_neg (by omega)]
  simp only [show 2-1=1 from rfl,e]
 ·intro hc
  by_cases hsz:s.size<p+2
  ·exact Ref.kk (by rw [h1];exact .inr hsz)
  ·exact Ref.ZE (by rw [h1];omega) (by rw [h1,h2];exact Ref.j4 (by unfold cont at hc;omega))
theorem Q1 {p:Nat}(hb:224≤zd s p∧zd s p<240):(cont (zd s (p+1))∧cont (zd s (p+2))→Ref.oneF s p=if Ref.badC 3 (((zd s p-224)*64+zd s (p+1)-128)*64+zd s (p+2)-128)=true then none else some (3,((zd s p-224)*64+zd s (p+1)-128)*64+zd s (p+2)-128))∧(¬(cont (zd s (p+1))∧cont (zd s (p+2)))→Ref.oneF s p=none):=by
 have h1:Ref.headK (zd s p)=3:=by unfold Ref.headK Ref.headN;rw [if_neg (by omega),if_neg (by omega),if_pos hb];rfl
 have h2:Ref.y7 (zd s p)=zd s p-224:=by unfold Ref.y7;rw [if_neg (by omega),if_neg (by omega),if_pos hb]
 constructor
 ·rintro ⟨hc,hd⟩
  have:=J4 hd
  have e:Ref.xS s p 2 1 (zd s p-224)=some (((zd s p-224)*64+zd s (p+1)-128)*64+zd s (p+2)-128):=by
   rw [Ref.xU (by unfold cont at hc;omega),Ref.xU (by unfold cont at hd;show ¬(zd s (p+2)<128∨191<zd s (p+2));omega)];rfl
  unfold Ref.oneF
  rw [h1,h2,if_neg (by omega)]
  simp only [show 3-1=2 from rfl,e]
 ·intro hc
  by_cases hsz:s.size<p+3
  ·exact Ref.kk (by rw [h1];exact .inr hsz)
  ·refine Ref.ZE (by rw [h1];omega) ?_
   rw [h1,h2]
   show Ref.xS s p 2 1 _=none
   by_cases hc1:cont (zd s (p+1))
   ·rw [Ref.xU (by unfold cont at hc1;omega)]
    exact Ref.j4 (by unfold cont at hc hc1;show zd s (p+2)<128∨191<zd s (p+2);omega)
   ·exact Ref.j4 (by unfold cont at hc1;omega)
theorem K4 {p:Nat}(hb:240≤zd s p∧zd s p<248):(cont (zd s (p+1))∧cont (zd s (p+2))∧cont (zd s (p+3))→Ref.oneF s p=if Ref.badC 4 ((((zd s p-240)*64+zd s (p+1)-128)*64+zd s (p+2)-128)*64+zd s (p+3)-128)=true then none else some (4,(((zd s p-240)*64+zd s (p+1)-128)*64+zd s (p+2)-128)*64+zd s (p+3)-128))∧(¬(cont (zd s (p+1))∧cont (zd s (p+2))∧cont (zd s (p+3)))→Ref.oneF s p=none):=by
 have h1:Ref.headK (zd s p)=4:=by unfold Ref.headK Ref.headN;rw [if_neg (by omega),if_neg (by omega),if_neg (by omega),if_pos hb];rfl
 have h2:Ref.y7 (zd s p)=zd s p-240:=by unfold Ref.y7;rw [if_neg (by omega),if_neg (by omega),if_neg (by omega),if_pos hb]
 constructor
 ·rintro ⟨hc,hd,hx⟩
  have:=J4 hx
  have e:Ref.xS s p 3 1 (zd s p-240)=some ((((zd s p-240)*64+zd s (p+1)-128)*64+zd s (p+2)-128)*64+zd s (p+3)-128):=by
   rw [Ref.xU (by unfold cont at hc;omega),Ref.xU (by unfold cont at hd;show ¬(zd s (p+2)<128∨191<zd s (p+2));omega),Ref.xU (by unfold cont at hx;show ¬(zd s (p+3)<128∨191<zd s (p+3));omega)];rfl
  unfold Ref.oneF
  rw [h1,h2,if_neg (by omega)]
  simp only [show 4-1=3 from rfl,e]
 ·intro hc
  by_cases hsz:s.size<p+4
  ·exact Ref.kk (by rw [h1];exact .inr hsz)
  ·refine Ref.ZE (by rw [h1];omega) ?_
   rw [h1,h2]
   show Ref.xS s p 3 1 _=none
   by_cases hc1:cont (zd s (p+1))
   ·rw [Ref.xU (by unfold cont at hc1;omega)]
    by_cases hc2:cont (zd s (p+2))
    ·rw [Ref.xU (by unfold cont at hc2;show ¬(zd s (p+2)<128∨191<zd s (p+2));omega)]
     exact Ref.j4 (by unfold cont at hc hc1 hc2;show zd s (p+3)<128∨191<zd s (p+3);omega)
    ·exact Ref.j4 (by unfold cont at hc2;show zd s (p+2)<128∨191<zd s (p+2);omega)
   ·exact Ref.j4 (by unfold cont at hc1;omega)
def ahead (p:Nat):Option (Nat×Int)→Option (Nat×Int)
 |none=>none
 |some (n,c)=>some (p+n,c)
theorem ja (n:Nat)(c:Int):Ref.badC n c=true↔(c<Ref.xK n∨1114111<c∨(55296≤c∧c≤57343)):=by
 unfold Ref.badC;simp [or_assoc]
theorem jE {p:Nat}(hp:p<s.size):Pro.yi s p=ahead p (Ref.oneF s p):=by
 have hb0:=(yL s p).2 hp
 have hb1:=yD s p
 have l2:Ref.xK ((2:Nat):Int)=128:=rfl
 have l3:Ref.xK ((3:Nat):Int)=2048:=rfl
 have l4:Ref.xK ((4:Nat):Int)=65536:=rfl
 by_cases c0:zd s p<128
 ·have h1:Ref.headK (zd s p)=1:=by unfold Ref.headK Ref.headN;rw [if_pos c0];rfl
  have h2:Ref.y7 (zd s p)=zd s p:=by unfold Ref.y7;rw [if_pos c0]
  have hl:Ref.xK ((1:Nat):Int)=0:=rfl
  have:Ref.oneF s p=some (1,zd s p):=by
   have:=Ref.zcy (s:=s) (p:=p) (c:=zd s p) (by rw [h1];omega) (by rw [h1,h2];rfl) (by rw [h1];cases hx:Ref.badC 1 (zd s p) with |false=>rfl |true=>have:=(ja 1 _).1 hx;omega)
   rw [h1] at this;exact this
  rw [this,Pro.Y8 hp c0]
  have:Pro.yN (zd s p)=zd s p:=by unfold Pro.yN;rw [if_pos c0]
  rw [this];rfl
 ·by_cases c1:zd s p<192
  ·have h1:Ref.headK (zd s p)=0:=by unfold Ref.headK Ref.headN;rw [if_neg c0,if_neg (by omega),if_neg (by omega),if_neg (by omega)];rfl
   rw [Ref.kk (.inl h1),Pro.jo (by unfold Pro.yO;rw [if_neg c0,if_pos (by omega)])];rfl
  ·by_cases c2:zd s p<224
   ·have ho:=zau (s:=s) (p:=p) ⟨by omega,c2⟩
    by_cases hc:cont (zd s (p+1))
    ·rw [ho.1 hc]
     by_cases c3:zd s p<194
     ·rw [Pro.jo (by unfold Pro.yO;rw [if_neg c0,if_pos c3]),if_pos ((ja 2 _).2 (by rw [l2];unfold cont at hc;omega))];rfl
     ·rw [if_neg (fun hh=>by have:=(ja 2 _).1 hh;rw [l2] at this;unfold cont at hc;omega)]
      rw [Pro.yV hp (l:=0) (by unfold Pro.yO;rw [if_neg c0,if_neg c3,if_pos c2]) (by omega)]
      show Pro.oneM s (p+1) _=_
      unfold Pro.oneM
      rw [if_pos ((xW _ _ _ (by omega) (by omega)).2 hc)]
      have:Pro.yN (zd s p)=zd s p-192:=by unfold Pro.yN;rw [if_neg c0,if_pos c2];omega
      rw [this];rfl
    ·rw [ho.2 hc]
     by_cases c3:zd s p<194
     ·rw [Pro.jo (by unfold Pro.yO;rw [if_neg c0,if_pos c3])];rfl
     ·rw [Pro.yV hp (l:=0) (by unfold Pro.yO;rw [if_neg c0,if_neg c3,if_pos c2]) (by omega)]
      show Pro.oneM s (p+1) _=_
      unfold Pro.oneM
      rw [if_neg (fun hh=>hc ((xW _ _ _ (by omega) (by omega)).1 hh))];rfl
   ·by_cases c3:zd s p<240
    ·have ho:=Q1 (s:=s) (p:=p) ⟨by omega,c3⟩
     have hl:Pro.yN (zd s p)=zd s p-224:=by unfold Pro.yN;rw [if_neg c0,if_neg c2,if_pos c3];omega
     have key:Pro.yi s p=(if (if zd s p=224 then 160 else 128)≤zd s (p+1)∧zd s (p+1)≤(if zd s p=237 then 159 else 191) then (if cont (zd s (p+2)) then some (p+3,((zd s p-224)*64+zd s (p+1)-128)*64+zd s (p+2)-128) else none) else none):=by
      have gen:∀ lo hi:Int,128≤lo→hi≤191→(if Pro.xy s (p+1) lo hi=true then Pro.oneM s (p+1+1) (Pro.yN (zd s p)*64+zd s (p+1)-128) else none)=(if lo≤zd s (p+1)∧zd s (p+1)≤hi then (if cont (zd s (p+2)) then some (p+3,((zd s p-224)*64+zd s (p+1)-128)*64+zd s (p+2)-128) else none) else none):=by
       intro lo hi h1 h2
       by_cases ht:lo≤zd s (p+1)∧zd s (p+1)≤hi
       ·rw [if_pos ((xW _ _ _ h1 h2).2 ht),if_pos ht,hl]
        unfold Pro.oneM
        by_cases hc:cont (zd s (p+2))
        ·rw [if_pos ((xW (p+2) _ _ (by omega) (by omega)).2 hc),if_pos hc]
        ·rw [if_neg (fun hh=>hc ((xW (p+2) _ _ (by omega) (by omega)).1 hh)),if_neg hc]
       ·rw [if_neg (fun hh=>ht ((xW _ _ _ h1 h2).1 hh)),if_neg ht]
      by_cases k1:zd s p=224
      ·rw [Pro.yV hp (l:=1) (by unfold Pro.yO;rw [if_neg c0,if_neg (by omega),if_neg c2,if_pos k1]) (by omega),if_pos k1,if_neg (show ¬zd s p=237 by omega)]
       exact gen 160 191 (by omega) (by omega)
      ·by_cases k2:zd s p=237
       ·rw [Pro.yV hp (l:=2) (by unfold Pro.yO;rw [if_neg c0,if_neg (by omega),if_neg c2,if_neg k1,if_pos k2]) (by omega),if_neg k1,if_pos k2]
        exact gen 128 159 (by omega) (by omega)
       ·rw [Pro.yV hp (l:=3) (by unfold Pro.yO;rw [if_neg c0,if_neg (by omega),if_neg c2,if_neg k1,if_neg k2,if_pos c3]) (by omega),if_neg k1,if_neg k2]
        exact gen 128 191 (by omega) (by omega)
     rw [key]
     by_cases hc:cont (zd s (p+1))∧cont (zd s (p+2))
     ·rw [ho.1 hc]
      obtain ⟨hc1,hc2⟩:=hc
      rw [if_pos hc2]
      by_cases hb:Ref.badC 3 (((zd s p-224)*64+zd s (p+1)-128)*64+zd s (p+2)-128)=true
      ·rw [if_pos hb,if_neg (fun hh=>by have:=(ja 3 _).1 hb;rw [l3] at this;unfold cont at hc1 hc2;split at hh<;>split at hh<;>omega)];rfl
      ·have hb':¬(((zd s p-224)*64+zd s (p+1)-128)*64+zd s (p+2)-128<2048∨1114111<((zd s p-224)*64+zd s (p+1)-128)*64+zd s (p+2)-128∨(55296≤((zd s p-224)*64+zd s (p+1)-128)*64+zd s (p+2)-128∧((zd s p-224)*64+zd s (p+1)-128)*64+zd s (p+2)-128≤57343)):=fun hh=>hb ((ja 3 _).2 (by rw [l3];exact hh))
       rw [if_neg hb,if_pos (by unfold cont at hc1 hc2;constructor<;>split<;>omega)];rfl
     ·rw [ho.2 hc]
      by_cases ht:(if zd s p=224 then (160:Int) else 128)≤zd s (p+1)∧zd s (p+1)≤(if zd s p=237 then (159:Int) else 191)
      ·have hc1:cont (zd s (p+1)):=by unfold cont;obtain ⟨a,b⟩:=ht;split at a<;>split at b<;>omega
       rw [if_pos ht,if_neg (fun hh=>hc ⟨hc1,hh⟩)];rfl
      ·rw [if_neg ht];rfl
    ·by_cases c4:zd s p<248
     ·have ho:=K4 (s:=s) (p:=p) ⟨by omega,c4⟩
      have hl:Pro.yN (zd s p)=zd s p-240:=by unfold Pro.yN;rw [if_neg c0,if_neg c2,if_neg c3];omega
      by_cases c5:245≤zd s p
      ·rw [Pro.jo (by unfold Pro.yO;rw [if_neg c0,if_neg (by omega),if_neg c2,if_neg (by omega),if_neg (by omega),if_neg c3,if_neg (by omega),if_neg (by omega),if_neg (by omega)])]
       by_cases hc:cont (zd s (p+1))∧cont (zd s (p+2))∧cont (zd s (p+3))
       ·rw [ho.1 hc,if_pos ((ja 4 _).2 (by unfold cont at hc;omega))];rfl
       ·rw [ho.2 hc];rfl
      ·have key:Pro.yi s p=(if (if zd s p=240 then 144 else 128)≤zd s (p+1)∧zd s (p+1)≤(if zd s p=244 then 143 else 191) then (if cont (zd s (p+2)) then (if cont (zd s (p+3)) then some (p+4,(((zd s p-240)*64+zd s (p+1)-128)*64+zd s (p+2)-128)*64+zd s (p+3)-128) else none) else none) else none):=by
        have gen:∀ lo hi:Int,128≤lo→hi≤191→(if Pro.xy s (p+1) lo hi=true then Pro.twoM s (p+1+1) (Pro.yN (zd s p)*64+zd s (p+1)-128) else none)=(if lo≤zd s (p+1)∧zd s (p+1)≤hi then (if cont (zd s (p+2)) then (if cont (zd s (p+3)) then some (p+4,(((zd s p-240)*64+zd s (p+1)-128)*64+zd s (p+2)-128)*64+zd s (p+3)-128) else none) else none) else none):=by
         intro lo hi h1 h2
         by_cases ht:lo≤zd s (p+1)∧zd s (p+1)≤hi
         ·rw [if_pos ((xW _ _ _ h1 h2).2 ht),if_pos ht,hl]
          unfold Pro.twoM Pro.oneM
          by_cases hc:cont (zd s (p+2))
          ·rw [if_pos ((xW (p+2) _ _ (by omega) (by omega)).2 hc),if_pos hc]
           by_cases hd:cont (zd s (p+3))
           ·rw [if_pos ((xW (p+3) _ _ (by omega) (by omega)).2 hd),if_pos hd]
           ·rw [if_neg (fun hh=>hd ((xW (p+3) _ _ (by omega) (by omega)).1 hh)),if_neg hd]
          ·rw [if_neg (fun hh=>hc ((xW (p+2) _ _ (by omega) (by omega)).1 hh)),if_neg hc]
         ·rw [if_neg (fun hh=>ht ((xW _ _ _ h1 h2).1 hh)),if_neg ht]
        by_cases k1:zd s p=240
        ·rw [Pro.yV hp (l:=4) (by unfold Pro.yO;rw [if_neg c0,if_neg (by omega),if_neg c2,if_neg (by omega),if_neg (by omega),if_neg c3,if_pos k1]) (by omega),if_pos k1,if_neg (show ¬zd s p=244 by omega)]
         exact gen 144 191 (by omega) (by omega)
        ·by_cases k2:zd s p=244
         ·rw [Pro.yV hp (l:=6) (by unfold Pro.yO;rw [if_neg c0,if_neg (by omega),if_neg c2,if_neg (by omega),if_neg (by omega),if_neg c3,if_neg k1,if_neg (by omega),if_pos k2]) (by omega),if_neg k1,if_pos k2]
          exact gen 128 143 (by omega) (by omega)
         ·rw [Pro.yV hp (l:=5) (by unfold Pro.yO;rw [if_neg c0,if_neg (by omega),if_neg c2,if_neg (by omega),if_neg (by omega),if_neg c3,if_neg k1,if_pos (by omega)]) (by omega),if_neg k1,if_neg k2]
          exact gen 128 191 (by omega) (by omega)
       rw [key]
       by_cases hc:cont (zd s (p+1))∧cont (zd s (p+2))∧cont (zd s (p+3))
       ·rw [ho.1 hc]
        obtain ⟨hc1,hc2,hc3⟩:=hc
        rw [if_pos hc2,if_pos hc3]
        by_cases hb:Ref.badC 4 ((((zd s p-240)*64+zd s (p+1)-128)*64+zd s (p+2)-128)*64+zd s (p+3)-128)=true
        ·rw [if_pos hb,if_neg (fun hh=>by have:=(ja 4 _).1 hb;rw [l4] at this;unfold cont at hc1 hc2 hc3;split at hh<;>split at hh<;>omega)];rfl
        ·have hb':¬((((zd s p-240)*64+zd s (p+1)-128)*64+zd s (p+2)-128)*64+zd s (p+3)-128<65536∨1114111<(((zd s p-240)*64+zd s (p+1)-128)*64+zd s (p+2)-128)*64+zd s (p+3)-128∨(55296≤(((zd s p-240)*64+zd s (p+1)-128)*64+zd s (p+2)-128)*64+zd s (p+3)-128∧(((zd s p-240)*64+zd s (p+1)-128)*64+zd s (p+2)-128)*64+zd s (p+3)-128≤57343)):=fun hh=>hb ((ja 4 _).2 (by rw [l4];exact hh))
         rw [if_neg hb,if_pos (by unfold cont at hc1 hc2 hc3;constructor<;>split<;>omega)];rfl
       ·rw [ho.2 hc]
        by_cases ht:(if zd s p=240 then (144:Int) else 128)≤zd s (p+1)∧zd s (p+1)≤(if zd s p=244 then (143:Int) else 191)
        ·have hc1:cont (zd s (p+1)):=by unfold cont;obtain ⟨a,b⟩:=ht;split at a<;>split at b<;>omega
         rw [if_pos ht]
         by_cases hc2:cont (zd s (p+2))
         ·rw [if_pos hc2,if_neg (fun hh=>hc ⟨hc1,hc2,hh⟩)];rfl
         ·rw [if_neg hc2];rfl
        ·rw [if_neg ht];rfl
     ·have h1:Ref.headK (zd s p)=0:=by unfold Ref.headK Ref.headN;rw [if_neg c0,if_neg (by omega),if_neg (by omega),if_neg (by omega)];rfl
      rw [Ref.kk (.inl h1),Pro.jo (by unfold Pro.yO;rw [if_neg c0,if_neg (by omega),if_neg c2,if_neg (by omega),if_neg (by omega),if_neg c3,if_neg (by omega),if_neg (by omega),if_neg (by omega)])];rfl
end Eqv
end
end Go.Proofs.YtcgleficedipkaaGreatDoor
