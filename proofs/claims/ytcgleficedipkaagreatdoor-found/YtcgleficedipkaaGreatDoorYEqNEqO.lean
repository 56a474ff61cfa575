/- The letters beside the lexer's characters: where a text stops being one. -/
import Derived.Test.YtcgleficedipkaaGreatDoorYChCChE
namespace Go.Proofs.YtcgleficedipkaaGreatDoor
section
open Go.RowKit
namespace Eqv
theorem Q2 (s:ByteArray):∀ (f p:Nat) (acc:List (Int×Int)),s.size<p+f->p<=s.size->
  ((Ref.xL s f p acc).2 = -1/\(Pro.letM s f p).foldl (fun _ x=>x.1+Pro.qj x.2) (p:Int)=s.size)\/
  (∃ q:Nat,(Ref.xL s f p acc).2=q/\q<s.size/\(Pro.letM s f p).foldl (fun _ x=>x.1+Pro.qj x.2) (p:Int)=q)
 |0,p,acc,h,hp=>by omega
 |f+1,p,acc,h,hp=>by
  by_cases hlt:p<s.size
  ·have hr:=jE hlt;cases h1:Ref.oneF s p with
   |none=>
    rw [h1] at hr;right;refine ⟨p,by rw [Ref.jx hlt h1],hlt,?_⟩;simp only [Pro.letM];rw [hr];rfl
   |some nc=>
    obtain ⟨m,d⟩:=nc;rw [h1] at hr;have hb:=Ref.qC h1;have e:Pro.letM s (f+1) p=((p:Int),d) :: Pro.letM s f (p+m):=by
     simp only [Pro.letM];rw [hr];rfl
    rw [e,Ref.qW hlt h1,List.foldl_cons];have:=Q2 s f (p+m) (acc++[(d,(p:Int))]) (by omega) (by omega);rw [show (p:Int)+Pro.qj d=((p+m:Nat):Int) by rw [one_len h1];omega];exact this
  ·left;rw [Ref.vE hlt];refine ⟨rfl,?_⟩;simp only [Pro.letM];rw [show Pro.yi s p=none by unfold Pro.yi;rw [if_neg hlt]];show (p:Int)=s.size;omega
theorem ZU (s:ByteArray):((Ref.zo s).2 = -1/\Pro.j8 (Pro.letM s (s.size+1) 0)=s.size)\/(0<=(Ref.zo s).2/\Pro.j8 (Pro.letM s (s.size+1) 0)=(Ref.zo s).2/\Pro.j8 (Pro.letM s (s.size+1) 0)<s.size):=by
 rcases Q2 s (s.size+1) 0 [] (by omega) (by omega) with ⟨h1,h2⟩ |⟨q,h1,h2,h3⟩
 ·exact .inl ⟨h1,h2⟩
 ·right;have e:Pro.j8 (Pro.letM s (s.size+1) 0)=q:=h3;have e2:(Ref.zo s).2=q:=h1;rw [e,e2];exact ⟨by omega,rfl,by omega⟩
end Eqv
namespace Pro
variable {L:List (Int×Int)} {len:Int}
theorem ji {k:Nat}(h:k<=8)(p:Int)(n:Nat):(bad k p n).k<=8:=h
theorem yz (v:Int)(n:Nat):(good v n).k<=8:=Nat.zero_le _
theorem zeroO_k (n:Nat):(xY L len n).k<=8:=by unfold xY;split;exact ji (by decide) _ _;exact yz _ _
theorem WC (n:Nat):(ym L len n).k<=8:=by unfold ym;split;exact yz _ _;exact ji (by decide) _ _
theorem J5:∀ (f:Nat) (c:Int) (n:Nat),(hexO L len f c n).k<=8
 |0,c,n=>yz _ _
 |f+1,c,n=>by unfold hexO;split;exact ji (by decide) _ _;exact J5 f _ _
theorem Q3:∀ (f:Nat) (c:Int) (d n:Nat),(yw L len f c d n).k<=8
 |0,c,_,n=>yz _ _
 |f+1,c,d,n=>by
  unfold yw;split
  ·exact yz _ _
  ·split;exact ji (by decide) _ _;exact Q3 f _ _ _
theorem WD (n:Nat):(zY L len n).k<=8:=by
 unfold zY;split
 ·exact J5 _ _ _
 ·split;exact yz _ _;exact J5 _ _ _
theorem numO_k (n:Nat):(numO L len n).k<=8:=by
 unfold numO;split
 ·exact yz _ _
 ·split
  ·exact zeroO_k _
  ·split
   ·exact WC _
   ·split
    ·exact J5 _ _ _
    ·split
     ·exact Q3 _ _ _ _
     ·split;exact WD _;exact ji (by decide) _ _
theorem escO_k (n:Nat):(escO L len n).k<=8:=by
 unfold escO;split
 ·exact yz _ _
 ·split;exact ji (by decide) _ _;exact numO_k _
theorem wT (n:Nat):(zi L len n).k<=8:=by
 unfold zi;split
 ·exact yz _ _
 ·split
  ·exact yz _ _
  ·split;exact escO_k _;exact yz _ _
theorem rangeO_k (m:Bool)(c:Int)(n:Nat):(xj L len m c n).k<=8:=by
 unfold xj;split
 ·exact wT _
 ·split;exact ji (by decide) _ _;exact wT _
theorem addO_k (n:Nat):(addO L len n).k<=8:=by
 unfold addO;split
 ·exact wT _
 ·split;exact rangeO_k _ _ _;exact wT _
theorem K5:∀ (f n:Nat),(yG L len f n).k<=8
 |0,n=>yz _ _
 |f+1,n=>by
  unfold yG;split
  ·exact yz _ _
  ·split
   ·exact ji (by decide) _ _
   ·split;exact addO_k _;exact K5 f _
theorem K6 (n:Nat):(zj L len n).k<=8:=by
 unfold zj;split
 ·exact ji (by decide) _ _
 ·split;exact ji (by decide) _ _;exact yz _ _
theorem zbN (n:Nat):(zJ L len n).1.k<=8:=by
 unfold zJ;simp only [];split
 ·exact K6 _
 ·split
  ·exact yz _ _
  ·split
   ·exact ji (by decide) _ _
   ·split
    ·exact yz _ _
    ·split
     ·exact K6 _
     ·split
      ·exact ji (by decide) _ _
      ·split;exact ji (by decide) _ _;exact yz _ _
theorem quantO_k (n:Nat):(zu L len n).2.1.k<=8:=by
 unfold zu;split
 ·exact yz _ _
 ·split
  ·exact yz _ _
  ·split
   ·exact yz _ _
   ·split;exact zbN _;exact yz _ _
theorem openO_k (n:Nat):(zS L len n).k<=8:=by
 unfold zS;split
 ·split
  ·exact yz _ _
  ·split;exact ji (by decide) _ _;exact ji (by decide) _ _
 ·exact yz _ _
theorem oneO_k {o:Out}(h:o.k<=8):(one o).k<=8:=by unfold one;split;exact yz _ _;exact h
theorem zav {D:Nat->Out}(hD:∀ n,(D n).k<=8)(n:Nat):(zL L len D n).k<=8:=by
 unfold zL;split
 ·exact ji (by decide) _ _
 ·split
  ·exact hD _
  ·split
   ·exact oneO_k (K5 _ _)
   ·split;exact oneO_k (escO_k _);exact yz _ _
theorem groupO_k {alt:Nat->Out}(hA:∀ n,(alt n).k<=8)(n:Nat):(qE L len alt n).k<=8:=by
 unfold qE;split
 ·exact openO_k _
 ·split
  ·exact hA _
  ·split;exact yz _ _;exact ji (by decide) _ _
theorem termO_k {D:Nat->Out}(hD:∀ n,(D n).k<=8)(n:Nat):(zV L len D n).k<=8:=by
 unfold zV;split
 ·exact yz _ _
 ·split
  ·exact zav hD _
  ·split
   ·exact zav hD _
   ·split;exact quantO_k _;exact yz _ _
theorem K7 {D:Nat->Out}(hD:∀ n,(D n).k<=8):∀ (f:Nat) (s:Int) (n:Nat),(yp L len D f s n).k<=8
 |0,s,n=>yz _ _
 |f+1,s,n=>by
  unfold yp;split
  ·exact yz _ _
  ·split;exact termO_k hD _;exact K7 hD f _ _
theorem WE {D:Nat->Out}(hD:∀ n,(D n).k<=8):∀ (f:Nat) (zs:List Int) (n:Nat),(altO L len D f zs n).k<=8
 |0,_,n=>yz _ _
 |f+1,zs,n=>by
  unfold altO;split
  ·exact K7 hD _ _ _
  ·split;exact WE hD f _ _;exact yz _ _
theorem zaw:∀ (r n:Nat),(zl L len r n).k<=8
 |0,n=>ji (by decide) _ _
 |r+1,n=>groupO_k (fun m=>WE (zaw r) _ _ m) n
theorem altP_k (n:Nat):(altP L len (zl L len 10) n).k<=8:=WE (zaw 10) _ _ n
end Pro
end
end Go.Proofs.YtcgleficedipkaaGreatDoor
