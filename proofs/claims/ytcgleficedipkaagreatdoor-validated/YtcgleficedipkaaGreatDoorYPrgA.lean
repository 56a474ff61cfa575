/- Programs in memory; what assertions ask of a place. -/
import Derived.Test.YtcgleficedipkaaGreatDoorYCsACsJ
namespace Go.Proofs.YtcgleficedipkaaGreatDoor
open Option renaming none->U,some->I
open Value renaming int->M,slice->K,bool->C,agg->Uf
open IntKind renaming i64->J
open Go renaming World->E,Value->Y,Calls->Uh
open Go.RowKit renaming Hid->H
open Or renaming inr->O,inl->Q
open Ending renaming returned->R
open Obj renaming cells->Ub
open Pro Cs
section
open Go.RowKit
open Sm (Stp Tree)
namespace Prg
def jC (s:Stp)(c:Int):Bool:=decide (s.kind=1) && kT s.leaf c
def kp (b e p n:Bool)(a:Int):Bool:=if a=0 then b else if a=1 then e else if a=2 then p != n else p == n
def befB (W:Int->Bool)(L:List (Int×Int))(i:Nat):Bool:=decide (i≠0) && W (zj L (i-1))
def aftB (W:Int->Bool)(L:List (Int×Int))(i:Nat):Bool:=decide (i≠L.length) && W (zj L i)
end Prg
def ZW (w:E)(A:Nat->Prop)(g:Nat)(N:List Stp):Prop:=∀(k:Nat) s,N[k]?=I s->w.cell? ⟨g,k*5,U⟩=I (M J (s.kind:Nat))/\(∃a,w.cell? ⟨g,k*5+1,U⟩=I a/\xu w A (Uf #[a]) (Prg.jC s))/\w.cell? ⟨g,k*5+2,U⟩=I (M J s.asr)/\w.cell? ⟨g,k*5+3,U⟩=I (M J (s.next:Nat))/\w.cell? ⟨g,k*5+4,U⟩=I (M J (s.other:Nat))
theorem ZW.keep {P A:Nat->Prop}{w c:E}{g:Nat}{N:List Stp}(h:ZW w A g N)(k:zf P w c)(b:∀g,A g->¬P g)(n:A g):ZW c A g N:=λj s o=>by obtain⟨d,⟨p,e,f⟩,i,l,m⟩:=h j s o;have a:=b g n;exact⟨zg k _ _ d a,⟨p,zg k _ _ e a,f.keep k b⟩,zg k _ _ i a,zg k _ _ l a,zg k _ _ m a⟩
theorem ZW.mono {A B:Nat->Prop}{w:E}{g:Nat}{N:List Stp}(h:ZW w A g N)(e:∀g,g<w.heap.size->A g->B g):ZW w B g N:=λj s f=>by obtain⟨a,⟨i,b,c⟩,d⟩:=h j s f;exact⟨a,⟨i,b,c.mono e⟩,d⟩
structure kr (w:E)(A:Nat->Prop)(pb:Nat)(N:List Stp)(st:Nat)(W:Int->Bool):Prop where
 own:A pb
 c0:∃g cap,w.cell? ⟨pb,0,U⟩=I (K (I ⟨g,0,U⟩) N.length cap)/\A g/\N.length<=cap/\ZW w A g N
 c1:w.cell? ⟨pb,1,U⟩=I (M J (st:Nat))
 c2:∃sv,w.cell? ⟨pb,2,U⟩=I sv/\xu w A (Uf #[sv]) W
 len:N.length<=300
 fit:∀(k:Nat) s,N[k]?=I s->s.next<N.length/\s.other<N.length
 stl:st<N.length
theorem kr.keep {P A:Nat->Prop}{w d:E}{pb:Nat}{N:List Stp}{h:Nat}{W:Int->Bool}(a:kr w A pb N h W)(k:zf P w d)(b:∀g,A g->¬P g):kr d A pb N h W:=by obtain⟨g,e,f,c,i,j⟩:=a.c0;obtain⟨n,l,m⟩:=a.c2;exact⟨a.own,⟨g,e,zg k _ _ f (b _ a.own),c,i,j.keep k b c⟩,zg k _ _ a.c1 (b _ a.own),⟨n,zg k _ _ l (b _ a.own),m.keep k b⟩,a.len,a.fit,a.stl⟩
def jo (w:E)(v:Y)(L:List (Int×Int)):Prop:=(v=K U 0 0/\L=[])\/∃g a,v=K (I ⟨g,0,U⟩) L.length a/\L.length<=a/\LetRow w g L
theorem jo.keep {w a:E}{v:Y}{L:List (Int×Int)}(h:jo w v L)(k:ziE w a):jo a v L:=by rcases h with h|⟨g,b,c,d,e⟩;exact Q h;exact O ⟨g,b,c,d,e.keep k id⟩
theorem zfF (b e p n:Bool)(a:Int)(w:E):Uh Tryz.prog 133 #[Uf #[C b,C e,C p,C n],M J a] w λx h=>x=R (C (Prg.kp b e p n a))/\ziE w h:=by
 have c:H (ziE w (w.alloc (Ub #[C b,C e,C p,C n] 200))):=(zf.refl _ _).alloc _;unfold Prg.kp;by_cases d:a=0
 .subst d;go_enter Tryz.func133,Tryz.ntmps133;go_wp2_with fail;go_ret;exact⟨rfl,c⟩
 by_cases f:a=1
 .subst f;go_enter Tryz.func133,Tryz.ntmps133;go_wp2_with fail;go_ret;exact⟨rfl,c⟩
 by_cases g:a=2
 .subst g;go_enter Tryz.func133,Tryz.ntmps133;go_wp2_with fail;go_ret;exact⟨rfl,c⟩
 simp only[d,f,g,if_false];go_enter Tryz.func133,Tryz.ntmps133;go_wp2_with fail;go_ret;exact⟨rfl,c⟩
end
