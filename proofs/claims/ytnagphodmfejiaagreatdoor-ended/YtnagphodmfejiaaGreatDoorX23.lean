/- The letters beside the lexer's characters: where a text stops being one. -/
import Derived.Test.YtnagphodmfejiaaGreatDoorX22
namespace Go.Proofs.YtnagphodmfejiaaGreatDoor
section
open Go.RowKit
namespace Eqv
theorem Q6 (s:ByteArray):∀ (f p:Nat) (acc:List (Int×Int)),s.size<p+f→p≤s.size→
  ((Ref.xk s f p acc).2 = -1∧(Pro.letM s f p).foldl (fun _ x=>x.1+Pro.xY x.2) (p:Int)=s.size)∨
  (∃ q:Nat,(Ref.xk s f p acc).2=q∧q<s.size∧(Pro.letM s f p).foldl (fun _ x=>x.1+Pro.xY x.2) (p:Int)=q)
 |0,p,acc,h,hp=>by omega
 |f+1,p,acc,h,hp=>by
  by_cases hlt:p<s.size
  ·have hr:=kB hlt
   cases h1:Ref.oneF s p with
   |none=>
    rw [h1] at hr
    right
    refine ⟨p,by rw [Ref.xO hlt h1],hlt,?_⟩
    simp only [Pro.letM]
    rw [hr]
    rfl
   |some nc=>
    obtain ⟨m,d⟩:=nc
    rw [h1] at hr
    have hb:=Ref.xw h1
    have e:Pro.letM s (f+1) p=((p:Int),d) :: Pro.letM s f (p+m):=by
     simp only [Pro.letM];rw [hr];rfl
    rw [e,Ref.xu hlt h1,List.foldl_cons]
    have:=Q6 s f (p+m) (acc++[(d,(p:Int))]) (by omega) (by omega)
    rw [show (p:Int)+Pro.xY d=((p+m:Nat):Int) by rw [one_len h1];omega]
    exact this
  ·left
   rw [Ref.qI hlt]
   refine ⟨rfl,?_⟩
   simp only [Pro.letM]
   rw [show Pro.yw s p=none by unfold Pro.yw;rw [if_neg hlt]]
   show (p:Int)=s.size
   omega
theorem XP (s:ByteArray):((Ref.zE s).2 = -1∧Pro.jY (Pro.letM s (s.size+1) 0)=s.size)∨(0≤(Ref.zE s).2∧Pro.jY (Pro.letM s (s.size+1) 0)=(Ref.zE s).2∧Pro.jY (Pro.letM s (s.size+1) 0)<s.size):=by
 rcases Q6 s (s.size+1) 0 [] (by omega) (by omega) with ⟨h1,h2⟩ |⟨q,h1,h2,h3⟩
 ·exact .inl ⟨h1,h2⟩
 ·right
  have e:Pro.jY (Pro.letM s (s.size+1) 0)=q:=h3
  have e2:(Ref.zE s).2=q:=h1
  rw [e,e2]
  exact ⟨by omega,rfl,by omega⟩
end Eqv
namespace Pro
variable {L:List (Int×Int)} {len:Int}
theorem jb {k:Nat}(h:k≤8)(p:Int)(n:Nat):(bad k p n).k≤8:=h
theorem yx (v:Int)(n:Nat):(good v n).k≤8:=Nat.zero_le _
theorem zeroO_k (n:Nat):(jx L len n).k≤8:=by unfold jx;split;exact jb (by decide) _ _;exact yx _ _
theorem Wf (n:Nat):(y8 L len n).k≤8:=by unfold y8;split;exact yx _ _;exact jb (by decide) _ _
theorem JA:∀ (f:Nat)(c:Int)(n:Nat),(hexO L len f c n).k≤8
 |0,c,n=>yx _ _
 |f+1,c,n=>by unfold hexO;split;exact jb (by decide) _ _;exact JA f _ _
theorem Q7:∀ (f:Nat)(c:Int)(d n:Nat),(xe L len f c d n).k≤8
 |0,c,_,n=>yx _ _
 |f+1,c,d,n=>by
  unfold xe;split
  ·exact yx _ _
  ·split;exact jb (by decide) _ _;exact Q7 f _ _ _
theorem Wg (n:Nat):(z8 L len n).k≤8:=by
 unfold z8;split
 ·exact JA _ _ _
 ·split;exact yx _ _;exact JA _ _ _
theorem numO_k (n:Nat):(numO L len n).k≤8:=by
 unfold numO;split
 ·exact yx _ _
 ·split
  ·exact zeroO_k _
  ·split
   ·exact Wf _
   ·split
    ·exact JA _ _ _
    ·split
     ·exact Q7 _ _ _ _
     ·split;exact Wg _;exact jb (by decide) _ _
theorem escO_k (n:Nat):(escO L len n).k≤8:=by
 unfold escO;split
 ·exact yx _ _
 ·split;exact jb (by decide) _ _;exact numO_k _
theorem wH (n:Nat):(zj L len n).k≤8:=by
 unfold zj;split
 ·exact yx _ _
 ·split
  ·exact yx _ _
  ·split;exact escO_k _;exact yx _ _
theorem rangeO_k (m:Bool)(c:Int)(n:Nat):(xl L len m c n).k≤8:=by
 unfold xl;split
 ·exact wH _
 ·split;exact jb (by decide) _ _;exact wH _
theorem addO_k (n:Nat):(addO L len n).k≤8:=by
 unfold addO;split
 ·exact wH _
 ·split;exact rangeO_k _ _ _;exact wH _
theorem KY:∀ (f n:Nat),(xP L len f n).k≤8
 |0,n=>yx _ _
 |f+1,n=>by
  unfold xP;split
  ·exact yx _ _
  ·split
   ·exact jb (by decide) _ _
   ·split;exact addO_k _;exact KY f _
theorem KZ (n:Nat):(zp L len n).k≤8:=by
 unfold zp;split
 ·exact jb (by decide) _ _
 ·split;exact jb (by decide) _ _;exact yx _ _
theorem zbc (n:Nat):(zQ L len n).1.k≤8:=by
 unfold zQ;simp only []
 split
 ·exact KZ _
 ·split
  ·exact yx _ _
  ·split
   ·exact jb (by decide) _ _
   ·split
    ·exact yx _ _
    ·split
     ·exact KZ _
     ·split
      ·exact jb (by decide) _ _
      ·split;exact jb (by decide) _ _;exact yx _ _
theorem quantO_k (n:Nat):(zy L len n).2.1.k≤8:=by
 unfold zy;split
 ·exact yx _ _
 ·split
  ·exact yx _ _
  ·split
   ·exact yx _ _
   ·split;exact zbc _;exact yx _ _
theorem openO_k (n:Nat):(zV L len n).k≤8:=by
 unfold zV;split
 ·split
  ·exact yx _ _
  ·split;exact jb (by decide) _ _;exact jb (by decide) _ _
 ·exact yx _ _
theorem oneO_k {o:Out}(h:o.k≤8):(one o).k≤8:=by unfold one;split;exact yx _ _;exact h
theorem zaq {D:Nat→Out}(hD:∀ n,(D n).k≤8)(n:Nat):(zJ L len D n).k≤8:=by
 unfold zJ;split
 ·exact jb (by decide) _ _
 ·split
  ·exact hD _
  ·split
   ·exact oneO_k (KY _ _)
   ·split;exact oneO_k (escO_k _);exact yx _ _
theorem groupO_k {alt:Nat→Out}(hA:∀ n,(alt n).k≤8)(n:Nat):(jR L len alt n).k≤8:=by
 unfold jR;split
 ·exact openO_k _
 ·split
  ·exact hA _
  ·split;exact yx _ _;exact jb (by decide) _ _
theorem termO_k {D:Nat→Out}(hD:∀ n,(D n).k≤8)(n:Nat):(yp L len D n).k≤8:=by
 unfold yp;split
 ·exact yx _ _
 ·split
  ·exact zaq hD _
  ·split
   ·exact zaq hD _
   ·split;exact quantO_k _;exact yx _ _
theorem K0 {D:Nat→Out}(hD:∀ n,(D n).k≤8):∀ (f:Nat) (s:Int) (n:Nat),(yY L len D f s n).k≤8
 |0,s,n=>yx _ _
 |f+1,s,n=>by
  unfold yY;split
  ·exact yx _ _
  ·split;exact termO_k hD _;exact K0 hD f _ _
theorem Wh {D:Nat→Out}(hD:∀ n,(D n).k≤8):∀ (f:Nat) (zs:List Int) (n:Nat),(altO L len D f zs n).k≤8
 |0,_,n=>yx _ _
 |f+1,zs,n=>by
  unfold altO;split
  ·exact K0 hD _ _ _
  ·split;exact Wh hD f _ _;exact yx _ _
theorem zar:∀ (r n:Nat),(zC L len r n).k≤8
 |0,n=>jb (by decide) _ _
 |r+1,n=>groupO_k (fun m=>Wh (zar r) _ _ m) n
theorem altP_k (n:Nat):(altP L len (zC L len 10) n).k≤8:=Wh (zar 10) _ _ n
end Pro
end
end Go.Proofs.YtnagphodmfejiaaGreatDoor
