/- The letters beside the lexer's characters: where a text stops being one. -/
import Derived.Test.YtfnkbmglodopkaaGreatDoorZChCChE
namespace Go.Proofs.YtfnkbmglodopkaaGreatDoor
section
open Go.RowKit
namespace Eqv
theorem YV (s:ByteArray):∀ (f p:Nat) (acc:List (Int×Int)),s.size<p+f→p≤s.size→
  ((Ref.xm s f p acc).2 = -1∧(Pro.letM s f p).foldl (fun _ x=>x.1+Pro.xp x.2) (p:Int)=s.size)∨
  (∃ q:Nat,(Ref.xm s f p acc).2=q∧q<s.size∧(Pro.letM s f p).foldl (fun _ x=>x.1+Pro.xp x.2) (p:Int)=q)
 |0,p,acc,h,hp=>by omega
 |f+1,p,acc,h,hp=>by
  by_cases hlt:p<s.size
  ·have hr:=kC hlt
   cases h1:Ref.oneF s p with
   |none=>
    rw [h1] at hr
    right
    refine ⟨p,by rw [Ref.jm hlt h1],hlt,?_⟩
    simp only [Pro.letM]
    rw [hr]
    rfl
   |some nc=>
    obtain ⟨m,d⟩:=nc
    rw [h1] at hr
    have hb:=Ref.q9 h1
    have e:Pro.letM s (f+1) p=((p:Int),d) :: Pro.letM s f (p+m):=by
     simp only [Pro.letM];rw [hr];rfl
    rw [e,Ref.jG hlt h1,List.foldl_cons]
    have:=YV s f (p+m) (acc++[(d,(p:Int))]) (by omega) (by omega)
    rw [show (p:Int)+Pro.xp d=((p+m:Nat):Int) by rw [one_len h1];omega]
    exact this
  ·left
   rw [Ref.vN hlt]
   refine ⟨rfl,?_⟩
   simp only [Pro.letM]
   rw [show Pro.z8 s p=none by unfold Pro.z8;rw [if_neg hlt]]
   show (p:Int)=s.size
   omega
theorem Ya (s:ByteArray):((Ref.zJ s).2 = -1∧Pro.jh (Pro.letM s (s.size+1) 0)=s.size)∨(0≤(Ref.zJ s).2∧Pro.jh (Pro.letM s (s.size+1) 0)=(Ref.zJ s).2∧Pro.jh (Pro.letM s (s.size+1) 0)<s.size):=by
 rcases YV s (s.size+1) 0 [] (by omega) (by omega) with ⟨h1,h2⟩ |⟨q,h1,h2,h3⟩
 ·exact .inl ⟨h1,h2⟩
 ·right
  have e:Pro.jh (Pro.letM s (s.size+1) 0)=q:=h3
  have e2:(Ref.zJ s).2=q:=h1
  rw [e,e2]
  exact ⟨by omega,rfl,by omega⟩
end Eqv
namespace Pro
variable {L:List (Int×Int)} {len:Int}
theorem qr {k:Nat}(h:k≤8)(p:Int)(n:Nat):(bad k p n).k≤8:=h
theorem zY (v:Int)(n:Nat):(good v n).k≤8:=Nat.zero_le _
theorem zeroO_k (n:Nat):(qY L len n).k≤8:=by unfold qY;split;exact qr (by decide) _ _;exact zY _ _
theorem JJ (n:Nat):(yN L len n).k≤8:=by unfold yN;split;exact zY _ _;exact qr (by decide) _ _
theorem XI:∀ (f:Nat) (c:Int) (n:Nat),(hexO L len f c n).k≤8
 |0,c,n=>zY _ _
 |f+1,c,n=>by unfold hexO;split;exact qr (by decide) _ _;exact XI f _ _
theorem YW:∀ (f:Nat) (c:Int) (d n:Nat),(yP L len f c d n).k≤8
 |0,c,_,n=>zY _ _
 |f+1,c,d,n=>by
  unfold yP;split
  ·exact zY _ _
  ·split;exact qr (by decide) _ _;exact YW f _ _ _
theorem JK (n:Nat):(yf L len n).k≤8:=by
 unfold yf;split
 ·exact XI _ _ _
 ·split;exact zY _ _;exact XI _ _ _
theorem numO_k (n:Nat):(numO L len n).k≤8:=by
 unfold numO;split
 ·exact zY _ _
 ·split
  ·exact zeroO_k _
  ·split
   ·exact JJ _
   ·split
    ·exact XI _ _ _
    ·split
     ·exact YW _ _ _ _
     ·split;exact JK _;exact qr (by decide) _ _
theorem escO_k (n:Nat):(escO L len n).k≤8:=by
 unfold escO;split
 ·exact zY _ _
 ·split;exact qr (by decide) _ _;exact numO_k _
theorem k9 (n:Nat):(zl L len n).k≤8:=by
 unfold zl;split
 ·exact zY _ _
 ·split
  ·exact zY _ _
  ·split;exact escO_k _;exact zY _ _
theorem rangeO_k (m:Bool)(c:Int)(n:Nat):(xR L len m c n).k≤8:=by
 unfold xR;split
 ·exact k9 _
 ·split;exact qr (by decide) _ _;exact k9 _
theorem addO_k (n:Nat):(addO L len n).k≤8:=by
 unfold addO;split
 ·exact k9 _
 ·split;exact rangeO_k _ _ _;exact k9 _
theorem Qt:∀ (f n:Nat),(xS L len f n).k≤8
 |0,n=>zY _ _
 |f+1,n=>by
  unfold xS;split
  ·exact zY _ _
  ·split
   ·exact qr (by decide) _ _
   ·split;exact addO_k _;exact Qt f _
theorem Qu (n:Nat):(zi L len n).k≤8:=by
 unfold zi;split
 ·exact qr (by decide) _ _
 ·split;exact qr (by decide) _ _;exact zY _ _
theorem Vg (n:Nat):(zL L len n).1.k≤8:=by
 unfold zL;simp only []
 split
 ·exact Qu _
 ·split
  ·exact zY _ _
  ·split
   ·exact qr (by decide) _ _
   ·split
    ·exact zY _ _
    ·split
     ·exact Qu _
     ·split
      ·exact qr (by decide) _ _
      ·split;exact qr (by decide) _ _;exact zY _ _
theorem quantO_k (n:Nat):(zC L len n).2.1.k≤8:=by
 unfold zC;split
 ·exact zY _ _
 ·split
  ·exact zY _ _
  ·split
   ·exact zY _ _
   ·split;exact Vg _;exact zY _ _
theorem openO_k (n:Nat):(zU L len n).k≤8:=by
 unfold zU;split
 ·split
  ·exact zY _ _
  ·split;exact qr (by decide) _ _;exact qr (by decide) _ _
 ·exact zY _ _
theorem oneO_k {o:Out}(h:o.k≤8):(one o).k≤8:=by unfold one;split;exact zY _ _;exact h
theorem Kj {D:Nat→Out}(hD:∀ n,(D n).k≤8)(n:Nat):(zT L len D n).k≤8:=by
 unfold zT;split
 ·exact qr (by decide) _ _
 ·split
  ·exact hD _
  ·split
   ·exact oneO_k (Qt _ _)
   ·split;exact oneO_k (escO_k _);exact zY _ _
theorem groupO_k {alt:Nat→Out}(hA:∀ n,(alt n).k≤8)(n:Nat):(jN L len alt n).k≤8:=by
 unfold jN;split
 ·exact openO_k _
 ·split
  ·exact hA _
  ·split;exact zY _ _;exact qr (by decide) _ _
theorem termO_k {D:Nat→Out}(hD:∀ n,(D n).k≤8)(n:Nat):(yB L len D n).k≤8:=by
 unfold yB;split
 ·exact zY _ _
 ·split
  ·exact Kj hD _
  ·split
   ·exact Kj hD _
   ·split;exact quantO_k _;exact zY _ _
theorem Qv {D:Nat→Out}(hD:∀ n,(D n).k≤8):∀ (f:Nat) (s:Int) (n:Nat),(xg L len D f s n).k≤8
 |0,s,n=>zY _ _
 |f+1,s,n=>by
  unfold xg;split
  ·exact zY _ _
  ·split;exact termO_k hD _;exact Qv hD f _ _
theorem JL {D:Nat→Out}(hD:∀ n,(D n).k≤8):∀ (f:Nat) (zs:List Int) (n:Nat),(altO L len D f zs n).k≤8
 |0,_,n=>zY _ _
 |f+1,zs,n=>by
  unfold altO;split
  ·exact Qv hD _ _ _
  ·split;exact JL hD f _ _;exact zY _ _
theorem Kk:∀ (r n:Nat),(zy L len r n).k≤8
 |0,n=>qr (by decide) _ _
 |r+1,n=>groupO_k (fun m=>JL (Kk r) _ _ m) n
theorem altP_k (n:Nat):(altP L len (zy L len 10) n).k≤8:=JL (Kk 10) _ _ n
end Pro
end
end Go.Proofs.YtfnkbmglodopkaaGreatDoor
