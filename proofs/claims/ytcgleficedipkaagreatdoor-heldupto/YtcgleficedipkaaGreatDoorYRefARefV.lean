/- The reference's smallest functions: what each answers, for every argument. -/
import Derived.Test.YtcgleficedipkaaGreatDoorProg
import Derived.Test.YtcgleficedipkaaGreatDoorYBaseSemD
import Derived.Lib.Strings
import Derived.Lib.IndexBytes
import Derived.Deep.DeepCutAuto
namespace Go.Proofs.YtcgleficedipkaaGreatDoor
section
open Go.RowKit
namespace Ref
def xK (n:Int):Int:=if n=2 then 128 else if n=3 then 2048 else if n=4 then 65536 else 0
def headN (b:Int):Int:=if b<128 then 1 else if 192≤b∧b<224 then 2 else if 224≤b∧b<240 then 3 else if 240≤b∧b<248 then 4 else 0
def y7 (b:Int):Int:=if b<128 then b else if 192≤b∧b<224 then b-192 else if 224≤b∧b<240 then b-224 else if 240≤b∧b<248 then b-240 else 0
end Ref
namespace Ref
end Ref
namespace Ref
end Ref
namespace Ref
end Ref
namespace Ref
end Ref
namespace Ref
end Ref
theorem zn {P:Nat→Prop}{w w':World}{base:Nat}{e:TypeId}{size:Nat}{v:Value}{n:Nat}{xs:List Value}(h:w.ownsRow base e size v n xs)(k:ze P w w')(hn:∀ g,v.ownBlock=some g→¬P g) :
  w'.ownsRow base e size v n xs:=by
 obtain ⟨h1,h2⟩:=h
 refine ⟨h1,?_⟩
 rcases h2 with h2 |⟨g,cap,cur,rfl,hb,hh,h3⟩
 ·exact .inl h2
 ·refine .inr ⟨g,cap,cur,rfl,hb,?_,h3⟩
  have hg:g<w.heap.size:=(Array.getElem?_eq_some_iff.1 hh).1
  rw [k.block g hg (hn g rfl)];exact hh
theorem xd {w:World}{base base':Nat}{e:TypeId}{size:Nat}{v:Value}{n:Nat}{xs:List Value}(h:w.ownsRow base e size v n xs)(hb:base'≤base):w.ownsRow base' e size v n xs:=by
 obtain ⟨h1,h2⟩:=h
 refine ⟨h1,?_⟩
 rcases h2 with h2 |⟨g,cap,cur,rfl,hb',hh,h3⟩
 ·exact .inl h2
 ·exact .inr ⟨g,cap,cur,rfl,by omega,hh,h3⟩
theorem zh {w:World}{base:Nat}{e:TypeId}{size:Nat}{v:Value}{n:Nat}{xs:List Value}(h:w.ownsRow base e size v n xs)(g:Nat)(hg:v.ownBlock=some g):base≤g∧g<w.heap.size:=h.lt g hg
structure Pt where
 neg:Bool
 spans:List (Int×Int)
namespace Ref
def W4:List (Int×Int):=[(48,57)]
def vL:List (Int×Int):=[(48,57),(65,90),(95,95),(97,122)]
def QA:List (Int×Int):=[(9,13),(32,32),(160,160),(5760,5760),(8192,8202),(8232,8233),(8239,8239),(8287,8287),(12288,12288),(65279,65279)]
def setL (b:Int):List (Int×Int):=if b=100∨b=68 then W4 else if b=119∨b=87 then vL else if b=115∨b=83 then QA else []
end Ref
theorem zg {P:Nat→Prop}{w w':World}(h:ze P w w')(p:Addr)(v:Value)(hp:w.cell? p=some v)(hn:¬P p.block):w'.cell? p=some v:=
 (h.cell (World.block_lt_of_cell? w p hp) hn).trans hp
theorem zP {P:Nat→Prop}{w w':World}(h:ze P w w')(p:Addr)(hl:p.block<w.heap.size)(hp:w.frozen? p=false)(hn:¬P p.block):w'.frozen? p=false:=
 (h.frozen hl hn).trans hp
theorem zm (W:World)(n:Nat)(hn:W.heap.size=n)(c:Array Value)(T:TypeId)(off:Nat)(v:Value)(h:c[off]?=some v):(W.alloc (.cells c T)).cell? ⟨n,off,none⟩=some v:=by
 subst hn;rw [World.cell?_alloc_at _ _ _ _ rfl];exact h
theorem zG (W:World)(n:Nat)(hn:W.heap.size=n)(c:Array Value)(T:TypeId)(off:Nat):(W.alloc (.cells c T)).frozen? ⟨n,off,none⟩=false:=by
 subst hn;exact World.frozen?_alloc_at _ _ _ _ rfl
namespace Ref
def xS (s:ByteArray)(p:Nat):Nat→Nat→Int→Option Int
 |0,_,c=>some c
 |k+1,i,c=>if zd s (p+i)<128∨191<zd s (p+i) then none else xS s p k (i+1) (c*64+zd s (p+i)-128)
def headK (b:Int):Nat:=(headN b).toNat
theorem W5 (b:Int):headN b=(headK b:Int):=by unfold headK headN;(repeat' split)<;>rfl
theorem headK_le (b:Int):headK b≤4:=by unfold headK headN;(repeat' split)<;>decide
def badC (n:Nat)(c:Int):Bool:=decide (c<xK n) ||decide (1114111<c) ||(decide (55296≤c) && decide (c≤57343))
def oneF (s:ByteArray)(p:Nat):Option (Nat×Int):=
 if headK (zd s p)=0∨s.size<p+headK (zd s p) then none
 else match xS s p (headK (zd s p)-1) 1 (y7 (zd s p)) with
  |none=>none
  |some c=>if badC (headK (zd s p)) c=true then none else some (headK (zd s p),c)
def xL (s:ByteArray):Nat→Nat→List (Int×Int)→List (Int×Int)×Int
 |0,_,acc=>(acc,-1)
 |f+1,p,acc=>if p<s.size then (match oneF s p with
   |none=>(acc,(p:Int))
   |some (n,c)=>xL s f (p+n) (acc++[(c,(p:Int))])) else (acc,-1)
def zo (s:ByteArray):List (Int×Int)×Int:=xL s (s.size+1) 0 []
theorem j4 {s:ByteArray}{p k i:Nat}{c:Int}(h:zd s (p+i)<128∨191<zd s (p+i)):xS s p (k+1) i c=none:=by simp only [xS];rw [if_pos h]
theorem xU {s:ByteArray}{p k i:Nat}{c:Int}(h:¬(zd s (p+i)<128∨191<zd s (p+i))):xS s p (k+1) i c=xS s p k (i+1) (c*64+zd s (p+i)-128):=by simp only [xS];rw [if_neg h]
theorem vE {s:ByteArray}{f p:Nat}{acc:List (Int×Int)}(h:¬p<s.size):xL s (f+1) p acc=(acc,-1):=by simp only [xL];rw [if_neg h]
theorem jx {s:ByteArray}{f p:Nat}{acc:List (Int×Int)}(h:p<s.size)(h1:oneF s p=none):xL s (f+1) p acc=(acc,(p:Int)):=by simp only [xL];rw [if_pos h,h1]
theorem qW {s:ByteArray}{f p n:Nat}{c:Int}{acc:List (Int×Int)}(h:p<s.size)(h1:oneF s p=some (n,c)):xL s (f+1) p acc=xL s f (p+n) (acc++[(c,(p:Int))]):=by simp only [xL];rw [if_pos h,h1]
theorem kk {s:ByteArray}{p:Nat}(h:headK (zd s p)=0∨s.size<p+headK (zd s p)):oneF s p=none:=by unfold oneF;rw [if_pos h]
theorem ZE {s:ByteArray}{p:Nat}(h:¬(headK (zd s p)=0∨s.size<p+headK (zd s p)))(h1:xS s p (headK (zd s p)-1) 1 (y7 (zd s p))=none):oneF s p=none:=by unfold oneF;rw [if_neg h,h1]
theorem zcy {s:ByteArray}{p:Nat}{c:Int}(h:¬(headK (zd s p)=0∨s.size<p+headK (zd s p)))(h1:xS s p (headK (zd s p)-1) 1 (y7 (zd s p))=some c)(h2:badC (headK (zd s p)) c=false):oneF s p=some (headK (zd s p),c):=by
 unfold oneF;rw [if_neg h,h1];simp [h2]
end Ref
namespace Ref
theorem qC {s:ByteArray}{p n:Nat}{c:Int}(h:oneF s p=some (n,c)):1≤n∧p+n≤s.size∧n≤4∧n=headK (zd s p)∧0≤c∧c≤1114111∧¬(55296≤c∧c≤57343):=by
 unfold oneF at h
 split at h
 ·cases h
 ·rename_i h1
  split at h
  ·cases h
  ·rename_i c' hc
   split at h
   ·cases h
   ·rename_i hb
    simp only [Option.some.injEq,Prod.mk.injEq] at h
    obtain ⟨rfl,rfl⟩:=h
    have:=headK_le (zd s p)
    simp only [badC,Bool.or_eq_true,Bool.and_eq_true,decide_eq_true_eq] at hb
    have hl:0≤xK (headK (zd s p)):=by unfold xK;(repeat' split)<;>omega
    omega
theorem W6 {s:ByteArray}{p:Nat}(h0:0≤zd s p)(h1:zd s p<128):oneF s p=some (1,zd s p):=by
 have hlt:=(yL s p).1 h0
 have hn:headK (zd s p)=1:=by simp [headK,headN,h1]
 have hc:y7 (zd s p)=zd s p:=by simp [y7,h1]
 have hbc:badC 1 (zd s p)=false:=by simp [badC,xK];omega
 unfold oneF
 rw [hn,if_neg (by omega),hc]
 simp [xS,hbc]
end Ref

namespace Ref
end Ref
theorem ze.undrewN {P:Nat→Prop}{a w:World}{n:Nat}(h:ze P (a.drewN n) w):ze P a w:=⟨h.os,h.tape,h.output,h.size,h.block⟩
theorem zy {w:World}{base:Nat}{T:TypeId}{size:Nat}{v:Value}{n:Nat}{xs:List Value}(h:w.ownsRow base T size v n xs):∃ a k c,v = .slice a k c:=by
 obtain ⟨h1,h2⟩:=h
 rcases h2 with ⟨rfl,_⟩ |⟨g,cap,cur,rfl,_⟩
 ·exact ⟨_,_,_,rfl⟩
 ·exact ⟨_,_,_,rfl⟩
namespace Ref
end Ref
namespace Ref
end Ref
section
variable {P:Nat→Prop} {w w':World} {n:Nat} {a0 a1 a2 a3 a4 a5:Value}
end
namespace Ref
end Ref
namespace Ref
end Ref
namespace Ref
end Ref
theorem ze.ofGrown {w w':World}{row:Option Nat}(h:w.grownBy w' row):ze (fun k=>row=some k) w w':=
 ⟨h.os,h.tape,h.output,h.size,fun k hk hn=>h.block k hk (fun e=>hn e.symm)⟩
theorem own_ne {w:World}{base base':Nat}{e e':TypeId}{size size':Nat}{v v':Value}{n n':Nat}{xs xs':List Value}(h:w.ownsRow base e size v n xs)(h':w.ownsRow base' e' size' v' n' xs')(he:e≠e')(g:Nat)(hg:v.ownBlock=some g):¬v'.ownBlock=some g:=by
 intro hg'
 obtain ⟨_,h2⟩:=h
 obtain ⟨_,h2'⟩:=h'
 rcases h2 with ⟨rfl,_⟩ |⟨g1,cap,cur,rfl,hb,hh,_⟩
 ·simp [Value.ownBlock] at hg
 rcases h2' with ⟨rfl,_⟩ |⟨g2,cap',cur',rfl,hb',hh',_⟩
 ·simp [Value.ownBlock] at hg'
 simp only [Value.ownBlock,Option.some.injEq] at hg hg'
 subst hg;subst hg'
 rw [hh] at hh'
 simp only [Option.some.injEq,Obj.cells.injEq] at hh'
 exact he hh'.2.1
namespace Ref
section
variable {s:ByteArray} {f:Nat} {ps:List Pt} {st:St}
end
end Ref
theorem ZF (n:Int)(h1:0≤n)(h2:n≤100000):IntKind.i64.wrap n=n:=by
 rw [IntKind.wrap_i64];omega
namespace Ref
end Ref
theorem Kw (s:ByteArray)(k:Nat)(hk:k<s.size)(i:Int)(hi:i=(k:Int))(w:World):(Instr.index 9 (.string s) (.int .i64 i)).run Tryz.prog w = .ok (.int .u8 ((s[k]'hk).toNat:Int)) w:=by
 subst hi
 rw [run_index_string w 9 s .i64 (k:Int) Tryz.underlying9]
 simp [hk]
structure Tok where
 kind:Int
 neg:Bool
 parts:List Pt
 c:Int
 mn:Int
 mx:Int
namespace Ref
end Ref
namespace Ref
def turnO (k op:Int):Int:=if k=3 then op+1 else if k=4 then op-1 else op
end Ref
namespace Ref
section
variable {s:ByteArray} {f:Nat} {l:List Tok} {op:Int} {atom:Bool} {st:St}
end
end Ref
namespace Ref
section
variable {s:ByteArray} {f:Nat} {L:List Tok} {k op:Int} {A B:St}
end
end Ref
namespace Ref
end Ref
namespace Ref
end Ref
end
end Go.Proofs.YtcgleficedipkaaGreatDoor
