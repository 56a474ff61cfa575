/- Programs in memory; what assertions ask of a place. -/
import Derived.Test.YtcgleficedipkaaGreatDoorYCsACsH
namespace Go.Proofs.YtcgleficedipkaaGreatDoor
section
open Go.RowKit
open Sm (Stp Tree)
namespace Prg
def setP (s:Stp)(c:Int):Bool:=decide (s.kind=1) && Cs.qY s.leaf c
def qJ (b e p n:Bool)(a:Int):Bool:=if a=0 then b else if a=1 then e else if a=2 then p != n else p == n
def befB (W:Int->Bool)(L:List (Int×Int))(i:Nat):Bool:=decide (i≠0) && W (Pro.zf L (i-1))
def aftB (W:Int->Bool)(L:List (Int×Int))(i:Nat):Bool:=decide (i≠L.length) && W (Pro.zf L i)
end Prg
def vB (w:World)(A:Nat->Prop)(g:Nat)(N:List Stp):Prop:=∀ (k:Nat) s,N[k]?=some s->w.cell? ⟨g,k*5,none⟩=some (.int .i64 (s.kind:Nat))/\(∃ sv,w.cell? ⟨g,k*5+1,none⟩=some sv/\yQ w A (.agg #[sv]) (Prg.setP s))/\w.cell? ⟨g,k*5+2,none⟩=some (.int .i64 s.asr)/\w.cell? ⟨g,k*5+3,none⟩=some (.int .i64 (s.next:Nat))/\w.cell? ⟨g,k*5+4,none⟩=some (.int .i64 (s.other:Nat))
theorem vB.keep {P A:Nat->Prop}{w w':World}{g:Nat}{N:List Stp}(h:vB w A g N)(k:ze P w w')(hn:∀ g,A g->¬P g)(hg:A g):vB w' A g N:=fun j s hj=>by
 obtain ⟨h0,⟨sv,h1,h1'⟩,h2,h3,h4⟩:=h j s hj;have hng:=hn g hg;exact ⟨zg k _ _ h0 hng,⟨sv,zg k _ _ h1 hng,h1'.keep k hn⟩,zg k _ _ h2 hng,zg k _ _ h3 hng,zg k _ _ h4 hng⟩
theorem vB.mono {A B:Nat->Prop}{w:World}{g:Nat}{N:List Stp}(h:vB w A g N)(hAB:∀ g,g<w.heap.size->A g->B g):vB w B g N:=fun j s hj=>by
 obtain ⟨h0,⟨sv,h1,h1'⟩,h2⟩:=h j s hj;exact ⟨h0,⟨sv,h1,h1'.mono hAB⟩,h2⟩
structure xi (w:World)(A:Nat->Prop)(pb:Nat)(N:List Stp)(st:Nat)(W:Int->Bool):Prop where
 own:A pb
 c0:∃ g cap,w.cell? ⟨pb,0,none⟩=some (.slice (some ⟨g,0,none⟩) N.length cap)/\A g/\N.length<=cap/\vB w A g N
 c1:w.cell? ⟨pb,1,none⟩=some (.int .i64 (st:Nat))
 c2:∃ sv,w.cell? ⟨pb,2,none⟩=some sv/\yQ w A (.agg #[sv]) W
 len:N.length<=300
 fit:∀ (k:Nat) s,N[k]?=some s->s.next<N.length/\s.other<N.length
 stl:st<N.length
theorem xi.keep {P A:Nat->Prop}{w w':World}{pb:Nat}{N:List Stp}{st:Nat}{W:Int->Bool}(h:xi w A pb N st W)(k:ze P w w')(hn:∀ g,A g->¬P g):xi w' A pb N st W:=by
 obtain ⟨g,cap,h1,h2,h3,h4⟩:=h.c0;obtain ⟨sv,h5,h6⟩:=h.c2;exact ⟨h.own,⟨g,cap,zg k _ _ h1 (hn _ h.own),h2,h3,h4.keep k hn h2⟩,zg k _ _ h.c1 (hn _ h.own),⟨sv,zg k _ _ h5 (hn _ h.own),h6.keep k hn⟩,h.len,h.fit,h.stl⟩
def jQ (w:World)(v:Value)(L:List (Int×Int)):Prop:=(v = .slice none 0 0/\L=[])\/∃ g cap,v = .slice (some ⟨g,0,none⟩) L.length cap/\L.length<=cap/\LetRow w g L
theorem jQ.keep {w w':World}{v:Value}{L:List (Int×Int)}(h:jQ w v L)(k:Q8 w w'):jQ w' v L:=by
 rcases h with h |⟨g,cap,h1,h2,h3⟩
 ·exact .inl h
 ·exact .inr ⟨g,cap,h1,h2,h3.keep k (fun f=>f)⟩
theorem zcn (b e p n:Bool)(a:Int)(w:World) :
  Calls Tryz.prog 133 #[.agg #[.bool b,.bool e,.bool p,.bool n],.int .i64 a] w fun x w'=>x = .returned (.bool (Prg.qJ b e p n a))/\Q8 w w':=by
 have HO:Hid (Q8 w (w.alloc (.cells #[.bool b,.bool e,.bool p,.bool n] 200))):=(ze.refl _ _).alloc _;unfold Prg.qJ;by_cases h0:a=0
 ·subst h0;go_enter Tryz.func133,Tryz.ntmps133;go_wp2_with fail;go_ret;exact ⟨rfl,zb HO⟩
 ·by_cases h1:a=1
  ·subst h1;go_enter Tryz.func133,Tryz.ntmps133;go_wp2_with fail;go_ret;exact ⟨rfl,zb HO⟩
  ·by_cases h2:a=2
   ·subst h2;go_enter Tryz.func133,Tryz.ntmps133;go_wp2_with fail;go_ret;exact ⟨rfl,zb HO⟩
   ·simp only [h0,h1,h2,if_false];go_enter Tryz.func133,Tryz.ntmps133;go_wp2_with fail;go_ret;exact ⟨rfl,zb HO⟩
end
end Go.Proofs.YtcgleficedipkaaGreatDoor
