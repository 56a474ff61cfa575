/- The letters beside the lexer's characters: where a text stops being one. -/
import Derived.Test.YtnagphodmfejiaaGreatDoorX22
namespace Go.Proofs.YtnagphodmfejiaaGreatDoor
section
open Go.RowKit
namespace Eqv
theorem Kn (s:ByteArray):∀ (f p:Nat) (acc:List (Int×Int)),s.size<p+f→p≤s.size→
  ((Ref.xP s f p acc).2 = -1∧(Pro.letM s f p).foldl (fun _ x=>x.1+Pro.qQ x.2) (p:Int)=s.size)∨
  (∃ q:Nat,(Ref.xP s f p acc).2=q∧q<s.size∧(Pro.letM s f p).foldl (fun _ x=>x.1+Pro.qQ x.2) (p:Int)=q)
 |0,p,acc,h,hp=>by omega
 |f+1,p,acc,h,hp=>by
  by_cases hlt:p<s.size
  ·have hr:=vU hlt
   cases h1:Ref.oneF s p with
   |none=>
    rw [h1] at hr
    right
    refine ⟨p,by rw [Ref.qE hlt h1],hlt,?_⟩
    simp only [Pro.letM]
    rw [hr]
    rfl
   |some nc=>
    obtain ⟨m,d⟩:=nc
    rw [h1] at hr
    have hb:=Ref.qd h1
    have e:Pro.letM s (f+1) p=((p:Int),d) :: Pro.letM s f (p+m):=by
     simp only [Pro.letM];rw [hr];rfl
    rw [e,Ref.qb hlt h1,List.foldl_cons]
    have:=Kn s f (p+m) (acc++[(d,(p:Int))]) (by omega) (by omega)
    rw [show (p:Int)+Pro.qQ d=((p+m:Nat):Int) by rw [one_len h1];omega]
    exact this
  ·left
   rw [Ref.jA hlt]
   refine ⟨rfl,?_⟩
   simp only [Pro.letM]
   rw [show Pro.yM s p=none by unfold Pro.yM;rw [if_neg hlt]]
   show (p:Int)=s.size
   omega
theorem Jc (s:ByteArray):((Ref.zG s).2 = -1∧Pro.vm (Pro.letM s (s.size+1) 0)=s.size)∨(0≤(Ref.zG s).2∧Pro.vm (Pro.letM s (s.size+1) 0)=(Ref.zG s).2∧Pro.vm (Pro.letM s (s.size+1) 0)<s.size):=by
 rcases Kn s (s.size+1) 0 [] (by omega) (by omega) with ⟨h1,h2⟩ |⟨q,h1,h2,h3⟩
 ·exact .inl ⟨h1,h2⟩
 ·right
  have e:Pro.vm (Pro.letM s (s.size+1) 0)=q:=h3
  have e2:(Ref.zG s).2=q:=h1
  rw [e,e2]
  exact ⟨by omega,rfl,by omega⟩
end Eqv
namespace Pro
variable {L:List (Int×Int)} {len:Int}
theorem j6 {k:Nat}(h:k≤8)(p:Int)(n:Nat):(bad k p n).k≤8:=h
theorem yN (v:Int)(n:Nat):(good v n).k≤8:=Nat.zero_le _
theorem zeroO_k (n:Nat):(kB L len n).k≤8:=by unfold kB;split;exact j6 (by decide) _ _;exact yN _ _
theorem zaE (n:Nat):(xE L len n).k≤8:=by unfold xE;split;exact yN _ _;exact j6 (by decide) _ _
theorem KR:∀ (f:Nat)(c:Int)(n:Nat),(hexO L len f c n).k≤8
 |0,c,n=>yN _ _
 |f+1,c,n=>by unfold hexO;split;exact j6 (by decide) _ _;exact KR f _ _
theorem Ko:∀ (f:Nat)(c:Int)(d n:Nat),(xI L len f c d n).k≤8
 |0,c,_,n=>yN _ _
 |f+1,c,d,n=>by
  unfold xI;split
  ·exact yN _ _
  ·split;exact j6 (by decide) _ _;exact Ko f _ _ _
theorem zaF (n:Nat):(yp L len n).k≤8:=by
 unfold yp;split
 ·exact KR _ _ _
 ·split;exact yN _ _;exact KR _ _ _
theorem numO_k (n:Nat):(numO L len n).k≤8:=by
 unfold numO;split
 ·exact yN _ _
 ·split
  ·exact zeroO_k _
  ·split
   ·exact zaE _
   ·split
    ·exact KR _ _ _
    ·split
     ·exact Ko _ _ _ _
     ·split;exact zaF _;exact j6 (by decide) _ _
theorem escO_k (n:Nat):(escO L len n).k≤8:=by
 unfold escO;split
 ·exact yN _ _
 ·split;exact j6 (by decide) _ _;exact numO_k _
theorem Z5 (n:Nat):(zk L len n).k≤8:=by
 unfold zk;split
 ·exact yN _ _
 ·split
  ·exact yN _ _
  ·split;exact escO_k _;exact yN _ _
theorem rangeO_k (m:Bool)(c:Int)(n:Nat):(xR L len m c n).k≤8:=by
 unfold xR;split
 ·exact Z5 _
 ·split;exact j6 (by decide) _ _;exact Z5 _
theorem addO_k (n:Nat):(addO L len n).k≤8:=by
 unfold addO;split
 ·exact Z5 _
 ·split;exact rangeO_k _ _ _;exact Z5 _
theorem Wl:∀ (f n:Nat),(qH L len f n).k≤8
 |0,n=>yN _ _
 |f+1,n=>by
  unfold qH;split
  ·exact yN _ _
  ·split
   ·exact j6 (by decide) _ _
   ·split;exact addO_k _;exact Wl f _
theorem Wm (n:Nat):(zq L len n).k≤8:=by
 unfold zq;split
 ·exact j6 (by decide) _ _
 ·split;exact j6 (by decide) _ _;exact yN _ _
theorem zcx (n:Nat):(zW L len n).1.k≤8:=by
 unfold zW;simp only []
 split
 ·exact Wm _
 ·split
  ·exact yN _ _
  ·split
   ·exact j6 (by decide) _ _
   ·split
    ·exact yN _ _
    ·split
     ·exact Wm _
     ·split
      ·exact j6 (by decide) _ _
      ·split;exact j6 (by decide) _ _;exact yN _ _
theorem quantO_k (n:Nat):(zz L len n).2.1.k≤8:=by
 unfold zz;split
 ·exact yN _ _
 ·split
  ·exact yN _ _
  ·split
   ·exact yN _ _
   ·split;exact zcx _;exact yN _ _
theorem openO_k (n:Nat):(ye L len n).k≤8:=by
 unfold ye;split
 ·split
  ·exact yN _ _
  ·split;exact j6 (by decide) _ _;exact j6 (by decide) _ _
 ·exact yN _ _
theorem oneO_k {o:Out}(h:o.k≤8):(one o).k≤8:=by unfold one;split;exact yN _ _;exact h
theorem zbL {D:Nat→Out}(hD:∀ n,(D n).k≤8)(n:Nat):(zN L len D n).k≤8:=by
 unfold zN;split
 ·exact j6 (by decide) _ _
 ·split
  ·exact hD _
  ·split
   ·exact oneO_k (Wl _ _)
   ·split;exact oneO_k (escO_k _);exact yN _ _
theorem groupO_k {alt:Nat→Out}(hA:∀ n,(alt n).k≤8)(n:Nat):(kZ L len alt n).k≤8:=by
 unfold kZ;split
 ·exact openO_k _
 ·split
  ·exact hA _
  ·split;exact yN _ _;exact j6 (by decide) _ _
theorem termO_k {D:Nat→Out}(hD:∀ n,(D n).k≤8)(n:Nat):(yH L len D n).k≤8:=by
 unfold yH;split
 ·exact yN _ _
 ·split
  ·exact zbL hD _
  ·split
   ·exact zbL hD _
   ·split;exact quantO_k _;exact yN _ _
theorem Wn {D:Nat→Out}(hD:∀ n,(D n).k≤8):∀ (f:Nat) (s:Int) (n:Nat),(xC L len D f s n).k≤8
 |0,s,n=>yN _ _
 |f+1,s,n=>by
  unfold xC;split
  ·exact yN _ _
  ·split;exact termO_k hD _;exact Wn hD f _ _
theorem zaG {D:Nat→Out}(hD:∀ n,(D n).k≤8):∀ (f:Nat) (zs:List Int) (n:Nat),(altO L len D f zs n).k≤8
 |0,_,n=>yN _ _
 |f+1,zs,n=>by
  unfold altO;split
  ·exact Wn hD _ _ _
  ·split;exact zaG hD f _ _;exact yN _ _
theorem zbM:∀ (r n:Nat),(zD L len r n).k≤8
 |0,n=>j6 (by decide) _ _
 |r+1,n=>groupO_k (fun m=>zaG (zbM r) _ _ m) n
theorem altP_k (n:Nat):(altP L len (zD L len 10) n).k≤8:=zaG (zbM 10) _ _ n
end Pro
end
end Go.Proofs.YtnagphodmfejiaaGreatDoor
