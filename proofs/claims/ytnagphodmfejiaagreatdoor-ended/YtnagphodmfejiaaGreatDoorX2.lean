/- The reference's characters of a text. -/
import Derived.Test.YtnagphodmfejiaaGreatDoorX1
import Derived.Lib.Strings
import Derived.Lib.IndexBytes
namespace Go.Proofs.YtnagphodmfejiaaGreatDoor
section
open Go.RowKit
set_option maxHeartbeats 1000000
set_option maxRecDepth 100000
namespace Ref
def qL (s:ByteArray)(p:Nat):Nat→Nat→Int→Option Int
 |0,_,c=>some c
 |k+1,i,c=>if zd s (p+i)<128∨191<zd s (p+i) then none else qL s p k (i+1) (c*64+zd s (p+i)-128)
def headK (b:Int):Nat:=(headN b).toNat
theorem Q1 (b:Int):headN b=(headK b:Int):=by unfold headK headN;(repeat' split)<;>rfl
theorem V9 (b:Int):headK b≤4:=by unfold headK headN;(repeat' split)<;>decide
theorem headC_bd (b:Int)(h0:0≤b):0≤ji b∧ji b<128:=by unfold ji;(repeat' split)<;>omega
def badC (n:Nat)(c:Int):Bool:=decide (c<qT n) ||decide (1114111<c) ||(decide (55296≤c) && decide (c≤57343))
def oneF (s:ByteArray)(p:Nat):Option (Nat×Int):=
 if headK (zd s p)=0∨s.size<p+headK (zd s p) then none
 else match qL s p (headK (zd s p)-1) 1 (ji (zd s p)) with
  |none=>none
  |some c=>if badC (headK (zd s p)) c=true then none else some (headK (zd s p),c)
def xP (s:ByteArray):Nat→Nat→List (Int×Int)→List (Int×Int)×Int
 |0,_,acc=>(acc,-1)
 |f+1,p,acc=>if p<s.size then (match oneF s p with
   |none=>(acc,(p:Int))
   |some (n,c)=>xP s f (p+n) (acc++[(c,(p:Int))])) else (acc,-1)
def zG (s:ByteArray):List (Int×Int)×Int:=xP s (s.size+1) 0 []
theorem kf {s:ByteArray}{p k i:Nat}{c:Int}(h:zd s (p+i)<128∨191<zd s (p+i)):qL s p (k+1) i c=none:=by simp only [qL];rw [if_pos h]
theorem qm {s:ByteArray}{p k i:Nat}{c:Int}(h:¬(zd s (p+i)<128∨191<zd s (p+i))):qL s p (k+1) i c=qL s p k (i+1) (c*64+zd s (p+i)-128):=by simp only [qL];rw [if_neg h]
theorem jA {s:ByteArray}{f p:Nat}{acc:List (Int×Int)}(h:¬p<s.size):xP s (f+1) p acc=(acc,-1):=by simp only [xP];rw [if_neg h]
theorem qE {s:ByteArray}{f p:Nat}{acc:List (Int×Int)}(h:p<s.size)(h1:oneF s p=none):xP s (f+1) p acc=(acc,(p:Int)):=by simp only [xP];rw [if_pos h,h1]
theorem qb {s:ByteArray}{f p n:Nat}{c:Int}{acc:List (Int×Int)}(h:p<s.size)(h1:oneF s p=some (n,c)):xP s (f+1) p acc=xP s f (p+n) (acc++[(c,(p:Int))]):=by simp only [xP];rw [if_pos h,h1]
theorem kg {s:ByteArray}{p:Nat}(h:headK (zd s p)=0∨s.size<p+headK (zd s p)):oneF s p=none:=by unfold oneF;rw [if_pos h]
theorem wL {s:ByteArray}{p:Nat}(h:¬(headK (zd s p)=0∨s.size<p+headK (zd s p)))(h1:qL s p (headK (zd s p)-1) 1 (ji (zd s p))=none):oneF s p=none:=by unfold oneF;rw [if_neg h,h1]
theorem zaA {s:ByteArray}{p:Nat}{c:Int}(h:¬(headK (zd s p)=0∨s.size<p+headK (zd s p)))(h1:qL s p (headK (zd s p)-1) 1 (ji (zd s p))=some c)(h2:badC (headK (zd s p)) c=true):oneF s p=none:=by
 unfold oneF;rw [if_neg h,h1];simp [h2]
theorem Ki {s:ByteArray}{p:Nat}{c:Int}(h:¬(headK (zd s p)=0∨s.size<p+headK (zd s p)))(h1:qL s p (headK (zd s p)-1) 1 (ji (zd s p))=some c)(h2:badC (headK (zd s p)) c=false):oneF s p=some (headK (zd s p),c):=by
 unfold oneF;rw [if_neg h,h1];simp [h2]
end Ref
theorem Tryz.infoChar:(Tryz.prog.info? 172).map (fun i=>(i.zero,i.size,i.bytes))=some (some (.agg #[.int .i64 0,.int .i64 0]),2,16):=by kernel_rfl
def Qw (w:World)(base:Nat)(v:Value)(l:List (Int×Int)):Prop:=w.ownsRow base 172 2 v l.length (spanCells l)
theorem XE (l m:List (Int×Int)):spanCells (l++m)=spanCells l++spanCells m:=by
 induction l with
 |nil=>rfl
 |cons x r ih=>obtain ⟨a,b⟩:=x;simp only [List.cons_append,spanCells,ih]
def capC:Nat→Int
 |0=>128
 |1=>8192
 |2=>524288
 |3=>33554432
 |_=>2147483648
theorem capC_le (k:Nat):capC k≤2147483648:=by unfold capC;split<;>omega
theorem zct (k:Nat)(h:k≤3)(d b:Int)(h0:d<capC k)(h1:b≤191):d*64+b-128<capC (k+1):=by
 have h5:k=0∨k=1∨k=2∨k=3:=by omega
 rcases h5 with rfl |rfl |rfl |rfl<;>simp only [capC] at *<;>omega
theorem kh (s:ByteArray)(w:World)(hs:s.size≤400) :
  Calls Tryz.prog 35 #[.string s] w fun x w'=>
   ∃ v,x = .returned (.tuple #[v,.int .i64 (Ref.zG s).2])∧Qw w' w.heap.size v (Ref.zG s).1∧zf (fun _=>False) w w':=by
 obtain ⟨i0,hi,hz0,hz1,hz2⟩:=info_parts Tryz.infoChar
 go_enter Tryz.func35,Tryz.ntmps35
 go_wp2_with fail
 go_loopw [4,5] (fun v p wr=>∃ (q f:Nat) (acc:List (Int×Int)),p = .int .i64 q∧q≤s.size∧acc.length≤q∧Qw wr w.heap.size v acc∧zf (fun _=>False) w wr∧Hid (s.size<q+f)∧Hid (Ref.zG s=Ref.xP s f q acc))
  (fun _ p _=>s.size-(intOf p).toNat)
 case atStart=>exact ⟨0,s.size+1,[],rfl,by omega,by simp,World.ownsRow_nil _ _ _ _,zf.refl _ _,(by show _<_;omega),rfl⟩
 case round=>
  obtain ⟨q,f,acc,rfl,hq,hacc,hown,hO,hf,HF⟩:=hrel
  obtain ⟨f,rfl⟩:∃ f',f=f'+1:=⟨f-1,by have:=zb hf;omega⟩
  by_cases hlt:q<s.size
  ·go_wp2_with fail
   rw [vO,←yT s q hlt]
   have hB0:=(zx s q).2 hlt
   have hB1:=yw s q
   refine (head_any _ _ hB0 hB1).mono ?_
   rintro e w1 ⟨rfl,hw1⟩
   have hw2:=hw1.symm
   subst hw2
   clear hw1
   rw [Ref.Q1]
   have hc:=Ref.headC_bd (zd s q) hB0
   have hK:=Ref.V9 (zd s q)
   generalize hN:Ref.headK (zd s q)=N at *
   generalize hC:Ref.ji (zd s q)=C at *
   have HN:=ze hN
   have HC:=ze hC
   clear hN hC hB0 hB1
   by_cases h1:N=0∨s.size<q+N
   ·have HG:Hid (Ref.zG s=(acc,(q:Int))):=by
     rw [zb HF];exact Ref.qE hlt (Ref.kg (by rw [zb HN];exact h1))
    by_cases h0:N=0
    ·subst h0
     clear h1
     go_wp2_with fail
     go_ret2
     rw [zb HG]
     exact ⟨_,rfl,hown,hO⟩
    ·have h2:s.size<q+N:=by omega
     have h3:((N:Int) == 0)=false:=by simp;omega
     clear h1
     go_wp2_with fail
     go_ret2
     rw [zb HG]
     exact ⟨_,rfl,hown,hO⟩
   ·have h0:((N:Int) == 0)=false:=by simp;omega
    have h2:q+N≤s.size:=by omega
    have h3:1≤N:=by omega
    have H1:Hid (¬(Ref.headK (zd s q)=0∨s.size<q+Ref.headK (zd s q))):=by rw [zb HN];exact h1
    clear h1
    have hdd:decide ((s.size:Int)<(q:Int)+N)=false:=by simp;omega
    have Hown:=ze hown
    have HO:=ze hO
    have HI:=ze (And.intro hi (And.intro hz0 (And.intro hz1 hz2)))
    clear hown hO hi hz0 hz1 hz2
    go_wp2_with fail
    go_loop [7,8] (fun c i=>∃ (k:Nat) (d:Int),i = .int .i64 k∧c = .int .i64 d∧1≤k∧k≤N∧0≤d∧d≤2147483648∧Hid (d<capC k)∧Hid (Ref.qL s q (N-1) 1 C=Ref.qL s q (N-k) k d))
     (fun _ i=>N-(intOf i).toNat)
    case atStart=>exact ⟨1,C,rfl,rfl,by omega,by omega,by omega,by omega,(by show C<8192;omega),rfl⟩
    case round=>
     obtain ⟨k,d,rfl,rfl,hk1,hk2,hd0,hd1,hd2,HD⟩:=hrel
     have hb0:=jb s (q+k)
     have hb1:=yw s (q+k)
     by_cases hkn:k<N
     ·have hw:wrap64 ((s[q+k]'(by omega)).toNat:Int)=zd s (q+k):=by rw [vO,yT]
      by_cases hbad:zd s (q+k)<128∨191<zd s (q+k)
      ·have HG:Hid (Ref.zG s=(acc,(q:Int))):=by
        rw [zb HF];exact Ref.qE hlt (Ref.wL (zb H1) (by rw [zb HN,zb HC,zb HD,show N-k=(N-k-1)+1 by omega];exact Ref.kf hbad))
       by_cases hb2:zd s (q+k)<128
       ·clear hbad
        go_wp2_with fail
        go_ret2
        rw [zb HG]
        exact ⟨_,rfl,zb Hown,zb HO⟩
       ·have hb3:191<zd s (q+k):=by omega
        clear hbad
        go_wp2_with fail
        go_ret2
        rw [zb HG]
        exact ⟨_,rfl,zb Hown,zb HO⟩
      ·have HD1:Hid (Ref.qL s q (N-1) 1 C=Ref.qL s q (N-(k+1)) (k+1) (d*64+zd s (q+k)-128)):=by
        rw [zb HD,show N-k=(N-(k+1))+1 by omega];exact Ref.qm hbad
       have hb2:128≤zd s (q+k):=by omega
       have hb3:zd s (q+k)≤191:=by omega
       have Hpn:=ze (zct k (by omega) d _ (zb hd2) hb3)
       have hcl:=capC_le (k+1)
       have hpl:d*64+zd s (q+k)-128≤2147483648:=by have:=zb Hpn;omega
       clear hbad hcl
       go_wp2_with fail
       go_round
       case rel=>exact ⟨k+1,_,by go_num,rfl,by omega,by omega,by omega,by omega,Hpn,HD1⟩
       case measure=>simp [intOf];omega
     ·have Hd:Hid (Ref.qL s q (N-1) 1 C=some d):=by rw [zb HD,show N-k=0 by omega];rfl
      clear hb0 hb1 HD hd2
      go_wp2_with fail
      refine (zb6 _ _).mono ?_
      rintro e w1 ⟨rfl,hw1⟩
      have hw2:=hw1.symm
      subst hw2
      clear hw1
      by_cases hbc:Ref.badC N d=true
      ·have HG:Hid (Ref.zG s=(acc,(q:Int))):=by
        rw [zb HF];exact Ref.qE hlt (Ref.zaA (zb H1) (by rw [zb HN,zb HC];exact zb Hd) (by rw [zb HN];exact hbc))
       simp only [Ref.badC,Bool.or_eq_true,Bool.and_eq_true,decide_eq_true_eq] at hbc
       have hcs:d<Ref.qT N∨¬d<Ref.qT N∧(1114111<d∨¬1114111<d∧55296≤d∧d≤57343):=by omega
       clear hbc
       rcases hcs with y1 |⟨y1,y2 |⟨y2,y3,y4⟩⟩
       all_goals
        go_wp2_with fail
        go_ret2
        rw [zb HG]
        exact ⟨_,rfl,zb Hown,zb HO⟩
      ·have hbc':Ref.badC N d=false:=by simpa using hbc
       have HG:Hid (Ref.zG s=Ref.xP s f (q+N) (acc++[(d,(q:Int))])):=by
        rw [zb HF]
        have:=Ref.qb (f:=f) (acc:=acc) hlt (Ref.Ki (zb H1) (by rw [zb HN,zb HC];exact zb Hd) (by rw [zb HN];exact hbc'))
        rw [zb HN] at this;exact this
       simp only [Ref.badC,Bool.or_eq_false_iff,Bool.and_eq_false_iff,decide_eq_false_iff_not] at hbc'
       obtain ⟨⟨y1,y2⟩,y3⟩:=hbc'
       clear hbc
       obtain ⟨hi,hz0,hz1,hz2⟩:=zb HI
       have hown:wr.ownsRow w.heap.size 172 2 _ acc.length (spanCells acc):=zb Hown
       have y4:¬55296≤d∨55296≤d∧57343<d:=by omega
       clear y3
       rcases y4 with y4 |⟨y4,y5⟩
       all_goals
        go_wp2_with (at_builtin;refine wpList_append_own _ rfl _ _ 99 rfl w.heap.size 172 i0 (.agg #[.int .i64 0,.int .i64 0]) 2 16 Tryz.underlying99 hi hz0 hz1 hz2 rfl (by decide) _ _ _ rfl (World.ownsRow.alloc hown _) ⟨wr.heap.size,0,none⟩ 1 1 [.int .i64 d,.int .i64 (q:Int)] rfl rfl (cell_two_new _ _ _ _) (fun x hx=>by simp at hx;rcases hx with rfl |rfl<;>rfl) (by unfold maxLen;omega) (by omega) (by have:=(zb HO).size;simp;omega) ?_;intro v' w3 hown' hgrow3 hnil3)
        go_roundw
        case rel=>
         exact ⟨q+N,f,acc++[(d,(q:Int))],by go_num,h2,by simp;omega,(by
          show World.ownsRow _ _ _ _ _ _ _
          rw [XE,List.length_append];exact hown'),((zb HO).alloc _).grown hgrow3 (fun j hj=>Or.inr (hown.lt j hj).1),(by have:=zb hf;show _<_;omega),HG⟩
        case measure=>simp [intOf];omega
  ·have HG:Hid (Ref.zG s=(acc,-1)):=by
    rw [zb HF];exact Ref.jA hlt
   go_wp2_with fail
   go_ret2
   rw [zb HG]
   exact ⟨_,rfl,hown,hO⟩
namespace Ref
def XY (s:ByteArray):Nat→Nat→Bool
 |0,p=>p == s.size
 |f+1,p=>if p<s.size then (match oneF s p with
   |none=>false
   |some (n,_)=>XY s f (p+n)) else p == s.size
def Good (s:ByteArray)(p:Nat):Prop:=∃ f,XY s f p=true
theorem qd {s:ByteArray}{p n:Nat}{c:Int}(h:oneF s p=some (n,c)):1≤n∧p+n≤s.size∧n≤4∧n=headK (zd s p)∧0≤c∧c≤1114111∧¬(55296≤c∧c≤57343):=by
 unfold oneF at h
 split at h
 ·cases h
 ·rename_i h1
  split at h
  ·cases h
  ·rename_i c' hc
   split at h
   ·cases h
   ·rename_i hb
    simp only [Option.some.injEq,Prod.mk.injEq] at h
    obtain ⟨rfl,rfl⟩:=h
    have:=V9 (zd s p)
    simp only [badC,Bool.or_eq_true,Bool.and_eq_true,decide_eq_true_eq] at hb
    have hl:0≤qT (headK (zd s p)):=by unfold qT;(repeat' split)<;>omega
    omega
theorem Good.le {s:ByteArray}{p:Nat}(h:Good s p):p≤s.size:=by
 obtain ⟨f,h⟩:=h
 cases f with
 |zero=>simp [XY] at h;omega
 |succ f=>
  simp only [XY] at h
  split at h
  ·omega
  ·simp at h;omega
theorem Good.next {s:ByteArray}{p:Nat}(h:Good s p)(hp:p<s.size):∃ n c,oneF s p=some (n,c)∧Good s (p+n):=by
 obtain ⟨f,h⟩:=h
 cases f with
 |zero=>simp [XY] at h;omega
 |succ f=>
  simp only [XY] at h
  rw [if_pos hp] at h
  split at h
  ·cases h
  ·rename_i n c hc
   exact ⟨n,c,hc,f,h⟩
theorem Zb (s:ByteArray):∀ (f p:Nat) (acc:List (Int×Int)),s.size<p+f→((xP s f p acc).2 = -1→p≤s.size→Good s p)
 |0,p,acc,h,_,hp=>by omega
 |f+1,p,acc,h,h1,hp=>by
  by_cases hlt:p<s.size
  ·cases ho:oneF s p with
   |none=>rw [qE hlt ho] at h1;simp at h1
   |some r=>
    obtain ⟨n,c⟩:=r
    have hb:=qd ho
    rw [qb hlt ho] at h1
    obtain ⟨g,hg⟩:=Zb s f (p+n) _ (by omega) h1 (by omega)
    exact ⟨g+1,by simp only [XY];rw [if_pos hlt,ho];exact hg⟩
  ·exact ⟨0,by simp [XY];omega⟩
theorem Q2 (s:ByteArray):∀ (f p:Nat) (acc:List (Int×Int)),∃ t,(xP s f p acc).1=acc++t
 |0,p,acc=>⟨[],by simp [xP]⟩
 |f+1,p,acc=>by
  by_cases hlt:p<s.size
  ·cases ho:oneF s p with
   |none=>exact ⟨[],by rw [qE hlt ho];simp⟩
   |some r=>
    obtain ⟨n,c⟩:=r
    rw [qb hlt ho]
    obtain ⟨t,ht⟩:=Q2 s f (p+n) (acc++[(c,(p:Int))])
    exact ⟨[(c,(p:Int))]++t,by rw [ht,List.append_assoc]⟩
  ·exact ⟨[],by rw [jA hlt];simp⟩
theorem YS (s:ByteArray)(i:Nat)(_hi:i≤s.size):(s.extract i s.size).size=s.size-i:=by simp
theorem Q3 (s:ByteArray)(i k:Nat)(hi:i≤s.size):zd (s.extract i s.size) k=zd s (i+k):=by
 by_cases hk:i+k<s.size
 ·rw [yT s (i+k) hk,yT _ k (by rw [YS s i hi];omega)]
  simp [ByteArray.getElem_extract]
 ·rw [ql s (i+k) (by omega),ql _ k (by rw [YS s i hi];omega)]
theorem Kj (s:ByteArray)(i p:Nat)(hi:i≤s.size):∀ (k j:Nat) (c:Int),qL (s.extract i s.size) p k j c=qL s (i+p) k j c
 |0,_,_=>rfl
 |k+1,j,c=>by
  simp only [qL]
  rw [Q3 s i (p+j) hi,←Nat.add_assoc,Kj s i p hi k (j+1)]
theorem Wa (s:ByteArray)(i p:Nat)(hi:i≤s.size):oneF (s.extract i s.size) p=oneF s (i+p):=by
 unfold oneF
 rw [Q3 s i p hi,YS s i hi]
 have e:(headK (zd s (i+p))=0∨s.size-i<p+headK (zd s (i+p)))↔(headK (zd s (i+p))=0∨s.size<i+p+headK (zd s (i+p))):=by omega
 simp only [e,Kj s i p hi]
theorem zcu {s:ByteArray}{i n:Nat}{c:Int}(hi:i<s.size)(h:oneF s i=some (n,c))(hg:Good s (i+n)) :
  (i+n=s.size∧(zG (s.extract i s.size)).1=[(c,0)])∨(i+n<s.size∧∃ c' t,(zG (s.extract i s.size)).1=(c,0) :: (c',(n:Int)) :: t):=by
 have hb:=qd h
 have h0:oneF (s.extract i s.size) 0=some (n,c):=by rw [Wa s i 0 (by omega)];exact h
 have hsz:=YS s i (by omega)
 unfold zG
 rw [qb (by omega) h0]
 by_cases he:i+n=s.size
 ·left
  refine ⟨he,?_⟩
  rw [show (s.extract i s.size).size=(s.size-i-1)+1 by omega,jA (by omega)]
  rfl
 ·right
  refine ⟨by omega,?_⟩
  obtain ⟨n',c',ho,_⟩:=hg.next (by omega)
  have h1:oneF (s.extract i s.size) (0+n)=some (n',c'):=by rw [Wa s i _ (by omega)];simpa using ho
  rw [show (s.extract i s.size).size=(s.size-i-1)+1 by omega,qb (by omega) h1]
  obtain ⟨t,ht⟩:=Q2 (s.extract i s.size) (s.size-i-1) (0+n+n') ([]++[(c,((0:Nat):Int))]++[(c',((0+n:Nat):Int))])
  exact ⟨c',t,by rw [ht];simp⟩
theorem Q4 {s:ByteArray}{p:Nat}(h0:0≤zd s p)(h1:zd s p<128):oneF s p=some (1,zd s p):=by
 have hlt:=(zx s p).1 h0
 have hn:headK (zd s p)=1:=by simp [headK,headN,h1]
 have hc:ji (zd s p)=zd s p:=by simp [ji,h1]
 have hbc:badC 1 (zd s p)=false:=by simp [badC,qT];omega
 unfold oneF
 rw [hn,if_neg (by omega),hc]
 simp [qL,hbc]
theorem Good.ascii {s:ByteArray}{p:Nat}(h:Good s p)(h0:0≤zd s p)(h1:zd s p<128):Good s (p+1):=by
 have hlt:=(zx s p).1 h0
 obtain ⟨n,c,ho,hg⟩:=h.next hlt
 rw [Q4 h0 h1] at ho
 simp at ho
 rw [←ho.1] at hg;exact hg
end Ref
theorem vV {w:World}{base:Nat}{T:TypeId}{size:Nat}{v:Value}{n:Nat}{xs:List Value}(h:w.ownsRow base T size v n xs)(hn:0<n):∃ g cap,v = .slice (some ⟨g,0,none⟩) n cap∧base≤g∧g<w.heap.size∧n≤cap:=by
 obtain ⟨h1,h2⟩:=h
 rcases h2 with ⟨_,h2⟩ |⟨g,cap,cur,rfl,hb,hh,h3,_⟩
 ·omega
 ·exact ⟨g,cap,rfl,hb,(Array.getElem?_eq_some_iff.1 hh).1,h3⟩
theorem Wb (b:Nat)(s:ByteArray)(st:St)(n:Nat)(c:Int)(w:World)(h:Lex w b s st)(hs:s.size≤400)(hi:st.i<s.size)(ho:Ref.oneF s st.i=some (n,c))(hg:Ref.Good s (st.i+n)) :
  Calls Tryz.prog 126 #[.pointer (some ⟨b,0,none⟩)] w fun x w'=>
   ∃ sv,x = .returned (.agg #[.bool false,sv])∧yB w' w.heap.size sv [(c,c)]∧Lex w' b s (st.go n)∧zf (zm b) w w':=by
 have hL1:=ze h
 have hlt:=h.lt
 have hbd:=Ref.qd ho
 have hce:=Ref.zcu hi ho hg
 have Hce:=ze hce
 have Ho:=ze ho
 have Hg:=ze hg
 have hn4:n≤4:=hbd.2.2.1
 clear hce ho hg hbd
 obtain ⟨c0,c1,c2,c3,f1,f2,f3⟩:=h
 have hL2:=ze ((zb hL1).alloc (.cells #[.bool false,.slice none 0 0] 274))
 go_enter Tryz.func126,Tryz.ntmps126
 go_wp2_with fail
 go_region_with (go_at_call 35;refine (kh _ _ (by simp;omega)).mono ?_;rintro e w1 ⟨v,rfl,hch,hO⟩)
 all_goals
  have hL3:Lex w1 b s st:=Lex.keep (P:=fun _=>False) (by first |exact zb hL2 |exact (zb hL2).drewN _) hO (fun f=>f)
  have hsz:(w.alloc (Obj.cells #[Value.bool false,Value.slice none 0 0] 274)).drew.heap.size=w.heap.size+1:=by simp
  have r0:w1.cell? ⟨w.heap.size,0,none⟩=some (.bool false):=zg hO _ _ (by first |exact zo _ _ (by simp) _ _ 0 _ rfl) (fun f=>f)
  have r1:w1.cell? ⟨w.heap.size,1,none⟩=some (.slice none 0 0):=zg hO _ _ (by first |exact zo _ _ (by simp) _ _ 1 _ rfl) (fun f=>f)
  have r2:w1.frozen? ⟨w.heap.size,0,none⟩=false:=zw hO _ (by rw [hsz];simp) (by first |exact zv _ _ (by simp) _ _ 0) (fun f=>f)
  have r3:w1.frozen? ⟨w.heap.size,1,none⟩=false:=zw hO _ (by rw [hsz];simp) (by first |exact zv _ _ (by simp) _ _ 1) (fun f=>f)
  have hL4:=ze hL3
  have hlt1:w.heap.size<w1.heap.size:=World.block_lt_of_cell? w1 ⟨w.heap.size,0,none⟩ r0
  obtain ⟨d0,d1,d2,d3,g1,g2,g3⟩:=hL3
  rw [hsz] at hch
  have HO:=ze hO
  clear hsz hO
  rcases zb Hce with ⟨he,hl⟩ |⟨he,c',t,hl⟩
  ·unfold Qw at hch
   rw [hl] at hch
   obtain ⟨g,cap,rfl,hb1,hb2,hcap⟩:=vV hch (by simp)
   have k0:w1.cell? ⟨g,0,none⟩=some (.int .i64 c):=hch.cells rfl 0 _ rfl
   clear hl hch
   have Hee:=ze he
   clear he
   go_wp2_with fail
   have he:=zb Hee
   refine bodyPost_ret (v:=.agg #[.bool false,.slice (some ⟨w1.heap.size,0,none⟩) 1 1]) (by simp [results,Tryz.results126,go_sem,r0,r1,hlt1]) rfl ?_
   refine ⟨_,rfl,wy _ _ _ (by simp) (by omega) _ [(c,c)] rfl (by simp [maxLen]) 1 rfl,?_,?_⟩
   ·exact (((zb hL4).setI _ n (by omega)).keep (((zf.refl (zm w.heap.size) _).mine _ _).mine _ _) (by unfold zm;omega)).alloc _
   ·exact (((((((((zf.refl (zm b) w).alloc _).drewN 1).trans ((zb HO).mono (fun _ _ f=>f.elim)))).mine _ _).fresh ⟨w.heap.size,0,none⟩ (Nat.le_refl _) _).fresh ⟨w.heap.size,1,none⟩ (Nat.le_refl _) _)).alloc _
  ·unfold Qw at hch
   rw [hl] at hch
   obtain ⟨g,cap,rfl,hb1,hb2,hcap⟩:=vV hch (by simp)
   have k0:w1.cell? ⟨g,0,none⟩=some (.int .i64 c):=hch.cells rfl 0 _ rfl
   have k3:w1.cell? ⟨g,3,none⟩=some (.int .i64 n):=hch.cells rfl 3 _ rfl
   clear hl hch
   go_wp2_with fail
   go_region
   all_goals (try go_wp2_with fail)
   all_goals
    refine bodyPost_ret (v:=.agg #[.bool false,.slice (some ⟨w1.heap.size,0,none⟩) 1 1]) (by simp [results,Tryz.results126,go_sem,r0,r1,hlt1]) rfl ?_
    refine ⟨_,rfl,wy _ _ _ (by simp) (by omega) _ [(c,c)] rfl (by simp [maxLen]) 1 rfl,?_,?_⟩
    ·exact ((((zb hL4).drewN _).setI _ n (by omega)).keep (((zf.refl (zm w.heap.size) _).mine _ _).mine _ _) (by unfold zm;omega)).alloc _
    ·exact ((((((((((zf.refl (zm b) w).alloc _).drewN 1).trans ((zb HO).mono (fun _ _ f=>f.elim)))).drewN _).mine _ _).fresh ⟨w.heap.size,0,none⟩ (Nat.le_refl _) _).fresh ⟨w.heap.size,1,none⟩ (Nat.le_refl _) _)).alloc _
namespace Ref
def zl (s:ByteArray)(st:St):Pt×Bool×St:=
 if zd s st.i=92 then zI s true st
 else match oneF s st.i with
  |some (n,c)=>(⟨false,[(c,c)]⟩,true,st.go n)
  |none=>(⟨false,[]⟩,true,st)
def jF (s:ByteArray)(st:St):St:=
 if zd s (st.i+1)=63 then
  (if zd s (st.i+2)=58 then st.go 3
   else if zd s (st.i+2)=61∨zd s (st.i+2)=33∨zd s (st.i+2)=60 then (st.go 2).fail 6 st.i
   else (st.go 2).fail 3 ((st.i+2:Nat):Int))
 else st.go 1
def jk (b:Int):Bool:=decide (48≤b) && decide (b≤57)
def countL (s:ByteArray):Nat→Int→St→Int×St
 |0,n,st=>(n,st)
 |f+1,n,st=>if jk (zd s st.i)=true then countL s f (if n≤100 then 10*n+zd s st.i-48 else n) (st.go 1) else (n,st)
def vk (s:ByteArray)(st:St):Int×St:=countL s (s.size+1-st.i) 0 st
def zX (s:ByteArray)(st:St):Int×St:=
 let r:=vk s st
 let st1:=if r.2.i=st.i then r.2.fail 3 st.i else r.2
 (r.1,if 100<r.1 then st1.fail 5 st.i else st1)
theorem countL_stop {s:ByteArray}{f:Nat}{n:Int}{st:St}(h:jk (zd s st.i)=false):countL s (f+1) n st=(n,st):=by simp [countL,h]
theorem countL_go {s:ByteArray}{f:Nat}{n:Int}{st:St}(h:jk (zd s st.i)=true):countL s (f+1) n st=countL s f (if n≤100 then 10*n+zd s st.i-48 else n) (st.go 1):=by simp [countL,h]
end Ref
theorem zf.undrewN {P:Nat→Prop}{a w:World}{n:Nat}(h:zf P (a.drewN n) w):zf P a w:=⟨h.os,h.tape,h.output,h.size,h.block⟩
theorem res2 {P:Nat→Prop}{W w:World}{n:Nat}{a0 a1:Value}{T:TypeId}(h:zf P (W.alloc (.cells #[a0,a1] T)) w)(hn:W.heap.size=n)(hp:¬P n) :
  w.cell? ⟨n,0,none⟩=some a0∧w.cell? ⟨n,1,none⟩=some a1∧w.frozen? ⟨n,0,none⟩=false∧w.frozen? ⟨n,1,none⟩=false∧n<w.heap.size:=
 have r0:=zg h ⟨n,0,none⟩ _ (zo _ _ hn _ _ 0 _ rfl) hp
 ⟨r0,zg h ⟨n,1,none⟩ _ (zo _ _ hn _ _ 1 _ rfl) hp,zw h ⟨n,0,none⟩ (by simp;omega) (zv _ _ hn _ _ 0) hp,zw h ⟨n,1,none⟩ (by simp;omega) (zv _ _ hn _ _ 1) hp,
  World.block_lt_of_cell? w ⟨n,0,none⟩ r0⟩
theorem res6 {P:Nat→Prop}{W w:World}{n:Nat}{a0 a1 a2 a3 a4 a5:Value}{T:TypeId}(h:zf P (W.alloc (.cells #[a0,a1,a2,a3,a4,a5] T)) w)(hn:W.heap.size=n)(hp:¬P n) :
  (w.cell? ⟨n,0,none⟩=some a0∧w.cell? ⟨n,1,none⟩=some a1∧w.cell? ⟨n,2,none⟩=some a2∧w.cell? ⟨n,3,none⟩=some a3∧w.cell? ⟨n,4,none⟩=some a4∧w.cell? ⟨n,5,none⟩=some a5)∧
  (w.frozen? ⟨n,0,none⟩=false∧w.frozen? ⟨n,1,none⟩=false∧w.frozen? ⟨n,2,none⟩=false∧w.frozen? ⟨n,3,none⟩=false∧w.frozen? ⟨n,4,none⟩=false∧w.frozen? ⟨n,5,none⟩=false)∧n<w.heap.size:=
 have r0:=zg h ⟨n,0,none⟩ _ (zo _ _ hn _ _ 0 _ rfl) hp
 ⟨⟨r0,zg h ⟨n,1,none⟩ _ (zo _ _ hn _ _ 1 _ rfl) hp,zg h ⟨n,2,none⟩ _ (zo _ _ hn _ _ 2 _ rfl) hp,zg h ⟨n,3,none⟩ _ (zo _ _ hn _ _ 3 _ rfl) hp,zg h ⟨n,4,none⟩ _ (zo _ _ hn _ _ 4 _ rfl) hp,zg h ⟨n,5,none⟩ _ (zo _ _ hn _ _ 5 _ rfl) hp⟩,
  ⟨zw h ⟨n,0,none⟩ (by simp;omega) (zv _ _ hn _ _ 0) hp,zw h ⟨n,1,none⟩ (by simp;omega) (zv _ _ hn _ _ 1) hp,zw h ⟨n,2,none⟩ (by simp;omega) (zv _ _ hn _ _ 2) hp,
  zw h ⟨n,3,none⟩ (by simp;omega) (zv _ _ hn _ _ 3) hp,zw h ⟨n,4,none⟩ (by simp;omega) (zv _ _ hn _ _ 4) hp,zw h ⟨n,5,none⟩ (by simp;omega) (zv _ _ hn _ _ 5) hp⟩,
  World.block_lt_of_cell? w ⟨n,0,none⟩ r0⟩
theorem zr {w:World}{base:Nat}{T:TypeId}{size:Nat}{v:Value}{n:Nat}{xs:List Value}(h:w.ownsRow base T size v n xs):∃ a k c,v = .slice a k c:=by
 obtain ⟨h1,h2⟩:=h
 rcases h2 with ⟨rfl,_⟩ |⟨g,cap,cur,rfl,_⟩
 ·exact ⟨_,_,_,rfl⟩
 ·exact ⟨_,_,_,rfl⟩
theorem zf.two (n:Nat)(w:World)(u0 u1:Value):zf (zm n) w ((w.setCell ⟨n,0,none⟩ u0).setCell ⟨n,1,none⟩ u1):=((zf.refl _ _).mine _ _).mine _ _
theorem zf.six (n:Nat)(w:World)(u0 u1 u2 u3 u4 u5:Value):zf (zm n) w ((((((w.setCell ⟨n,0,none⟩ u0).setCell ⟨n,1,none⟩ u1).setCell ⟨n,2,none⟩ u2).setCell ⟨n,3,none⟩ u3).setCell ⟨n,4,none⟩ u4).setCell ⟨n,5,none⟩ u5):=
 ((((((zf.refl _ _).mine _ _).mine _ _).mine _ _).mine _ _).mine _ _).mine _ _
theorem zf.young {P:Nat→Prop}{a w w':World}{n:Nat}(h:zf P a w)(k:zf (zm n) w w')(hn:a.heap.size≤n):zf P a w':=
 ⟨k.os.trans h.os,k.tape.trans h.tape,k.output.trans h.output,Nat.le_trans h.size k.size,fun i hi hp=>(k.block i (Nat.lt_of_lt_of_le hi h.size) (by unfold zm;omega)).trans (h.block i hi hp)⟩
theorem Q5 (b:Nat)(s:ByteArray)(st:St)(w:World)(h:Lex w b s st)(hs:s.size≤400)(hi:st.i<s.size)(hg:Ref.Good s st.i) :
  Calls Tryz.prog 163 #[.pointer (some ⟨b,0,none⟩)] w fun x w'=>
   ∃ sv,x = .returned (.tuple #[.agg #[.bool (Ref.zl s st).1.neg,sv],.bool (Ref.zl s st).2.1])∧yB w' w.heap.size sv (Ref.zl s st).1.spans∧
    Lex w' b s (Ref.zl s st).2.2∧zf (zm b) w w':=by
 have hlt:=h.lt
 obtain ⟨n,c,ho,hgn⟩:=hg.next hi
 have hL1:=ze (h.alloc (.cells #[.bool false,.slice none 0 0] 274))
 by_cases hb:zd s st.i=92
 ·have hbb:(zd s st.i == 92)=true:=by simp [hb]
  have HF:Hid (Ref.zl s st=Ref.zI s true st):=by show _=_;unfold Ref.zl;rw [if_pos hb]
  clear ho hg hgn hb
  go_enter Tryz.func163,Tryz.ntmps163
  go_wp2_with fail
  refine (zP b s st _ (zb hL1) hs).mono ?_
  rintro e w1 ⟨rfl,nq,rfl⟩
  go_wp2_with fail
  refine (QD b s true st _ ((zb hL1).drewN _) hs hi).mono ?_
  rintro e w2 ⟨sv,rfl,hsp,hL2,hO2⟩
  obtain ⟨r0,r1,r2,r3,hsz⟩:=res2 hO2.undrewN rfl (by unfold zm;omega)
  have Hsp:=ze (hsp.base (base':=w.heap.size+1) (by simp))
  have HL2:=ze hL2
  have HO2:=ze hO2.undrewN
  obtain ⟨v0,v1,v2,rfl⟩:=zr hsp
  clear hsp hL2 hO2
  go_wp2_with fail
  refine bodyPost_ret (v:=.tuple #[.agg #[.bool (Ref.zI s true st).1.neg,.slice v0 v1 v2],.bool (Ref.zI s true st).2.1]) (by simp [results,Tryz.results163,go_sem,r0,r1]) rfl ?_
  rw [zb HF]
  refine ⟨_,rfl,?_,?_,?_⟩
  ·exact ((zb Hsp).keep (zf.two w.heap.size _ _ _) (by intro g hg _ hh;unfold zm at hh;omega)).base (by omega)
  ·exact (zb HL2).keep (zf.two w.heap.size _ _ _) (by unfold zm;omega)
  ·exact (((zf.refl _ _).alloc _).trans (zb HO2)).young (zf.two w.heap.size _ _ _) (Nat.le_refl _)
 ·have hbb:(zd s st.i == 92)=false:=by simp [hb]
  have HF:Hid (Ref.zl s st=(⟨false,[(c,c)]⟩,true,st.go n)):=by show _=_;unfold Ref.zl;rw [if_neg hb,ho]
  have Ho:=ze ho
  have Hg:=ze hgn
  clear ho hg hgn hb
  go_enter Tryz.func163,Tryz.ntmps163
  go_wp2_with fail
  refine (zP b s st _ (zb hL1) hs).mono ?_
  rintro e w1 ⟨rfl,nq,rfl⟩
  go_wp2_with fail
  refine (Wb b s st n c _ ((zb hL1).drewN _) hs hi (zb Ho) (zb Hg)).mono ?_
  rintro e w2 ⟨sv,rfl,hsp,hL2,hO2⟩
  obtain ⟨r0,r1,r2,r3,hsz⟩:=res2 hO2.undrewN rfl (by unfold zm;omega)
  have Hsp:=ze (hsp.base (base':=w.heap.size+1) (by simp))
  have HL2:=ze hL2
  have HO2:=ze hO2.undrewN
  obtain ⟨v0,v1,v2,rfl⟩:=zr hsp
  clear hsp hL2 hO2
  go_wp2_with fail
  refine bodyPost_ret (v:=.tuple #[.agg #[.bool false,.slice v0 v1 v2],.bool true]) (by simp [results,Tryz.results163,go_sem,r0,r1]) rfl ?_
  rw [zb HF]
  refine ⟨_,rfl,?_,?_,?_⟩
  ·exact ((zb Hsp).keep (zf.two w.heap.size _ _ _) (by intro g hg _ hh;unfold zm at hh;omega)).base (by omega)
  ·exact (zb HL2).keep (zf.two w.heap.size _ _ _) (by unfold zm;omega)
  ·exact (((zf.refl _ _).alloc _).trans (zb HO2)).young (zf.two w.heap.size _ _ _) (Nat.le_refl _)
theorem open_any (b:Nat)(s:ByteArray)(st:St)(w:World)(h:Lex w b s st)(hs:s.size≤400)(hi:st.i<s.size) :
  Calls Tryz.prog 125 #[.pointer (some ⟨b,0,none⟩)] w fun x w'=>
   x = .returned (.agg #[.int .i64 3,.bool false,.slice none 0 0,.int .i64 0,.int .i64 0,.int .i64 0])∧Lex w' b s (Ref.jF s st)∧zf (zm b) w w':=by
 have hlt:=h.lt
 have hL1:=ze h
 obtain ⟨c0,c1,c2,c3,f1,f2,f3⟩:=h
 go_enter Tryz.func125,Tryz.ntmps125
 go_wp2_with fail
 have hL2:=ze (((zb hL1).setI ((st.i:Int)+1) 1 (by omega)).alloc (.cells #[.int .i64 0,.bool false,.slice none 0 0,.int .i64 0,.int .i64 0,.int .i64 0] 178))
 have hO1:=ze (((zf.refl (zm b) w).mine 1 (.int .i64 ((st.i:Int)+1))).alloc (.cells #[.int .i64 0,.bool false,.slice none 0 0,.int .i64 0,.int .i64 0,.int .i64 0] 178))
 refine (zP b s (st.go 1) _ (zb hL2) hs).mono ?_
 rintro e w1 ⟨rfl,nq,rfl⟩
 simp only [St.go]
 by_cases h1:zd s (st.i+1)=63
 ·have hb1:(zd s (st.i+1) == 63)=true:=by simp [h1]
  go_wp2_with fail
  have hL3:=ze (((zb hL2).drewN nq).setI ((st.i:Int)+1+1) 1 (by simp only [St.go];omega))
  have hO3:=ze (((zb hO1).drewN nq).mine 1 (.int .i64 ((st.i:Int)+1+1)))
  refine (zP b s ((st.go 1).go 1) _ (zb hL3) hs).mono ?_
  rintro e w1 ⟨rfl,nq1,rfl⟩
  simp only [St.go]
  rw [show st.i+1+1=st.i+2 from rfl]
  by_cases h2:zd s (st.i+2)=58
  ·have hb2:(zd s (st.i+2) == 58)=true:=by simp [h2]
   have HF:Hid (Ref.jF s st=st.go 3):=by show _=_;unfold Ref.jF;rw [if_pos h1,if_pos h2]
   clear h1 h2
   go_wp2_with fail
   refine bodyPost_ret (v:=.agg #[.int .i64 3,.bool false,.slice none 0 0,.int .i64 0,.int .i64 0,.int .i64 0]) (by simp [results,Tryz.results125,go_sem]) rfl ?_
   rw [zb HF]
   exact ⟨rfl,(((zb hL3).drewN nq1).setI _ 1 (by simp only [St.go];omega)).keep (zf.six w.heap.size _ _ _ _ _ _ _) (by unfold zm;omega),(((zb hO3).drewN nq1).mine 1 _).young (zf.six w.heap.size _ _ _ _ _ _ _) (Nat.le_refl _)⟩
  ·have hb2:(zd s (st.i+2) == 58)=false:=by simp [h2]
   by_cases h3:zd s (st.i+2)=61∨zd s (st.i+2)=33∨zd s (st.i+2)=60
   ·have HF:Hid (Ref.jF s st=(st.go 2).fail 6 st.i):=by show _=_;unfold Ref.jF;rw [if_pos h1,if_neg h2,if_pos h3]
    have h3':(zd s (st.i+2) == 61)=true∨(zd s (st.i+2) == 61)=false∧((zd s (st.i+2) == 33)=true∨(zd s (st.i+2) == 33)=false∧(zd s (st.i+2) == 60)=true):=by simp;omega
    clear h1 h2 h3
    rcases h3' with y1 |⟨y1,y2 |⟨y2,y3⟩⟩
    all_goals
     go_wp2_with fail
     refine (yi b s (st.go 2) 6 _ _ ((zb hL3).drewN nq1)).mono ?_
     rintro e w2 ⟨rfl,hL4,hO4⟩
     obtain ⟨⟨r0,r1,r2,r3,r4,r5⟩,⟨q0,q1,q2,q3,q4,q5⟩,hsz⟩:=res6 (P:=zm b) (n:=w.heap.size) (((((zf.refl _ _).drewN nq).mine 1 _).drewN nq1).trans hO4) (by simp) (by unfold zm;omega)
     have HL4:=ze hL4
     have HO4:=ze (((zb hO3).drewN nq1).trans hO4)
     clear hL4 hO4
     go_wp2_with fail
     refine bodyPost_ret (v:=.agg #[.int .i64 3,.bool false,.slice none 0 0,.int .i64 0,.int .i64 0,.int .i64 0]) (by simp [results,Tryz.results125,go_sem,r0,r1,r2,r3,r4,r5]) rfl ?_
     rw [zb HF]
     exact ⟨rfl,(zb HL4).keep (zf.six w.heap.size _ _ _ _ _ _ _) (by unfold zm;omega),(zb HO4).young (zf.six w.heap.size _ _ _ _ _ _ _) (Nat.le_refl _)⟩
   ·have HF:Hid (Ref.jF s st=(st.go 2).fail 3 ((st.i+2:Nat):Int)):=by show _=_;unfold Ref.jF;rw [if_pos h1,if_neg h2,if_neg h3]
    have h3':(zd s (st.i+2) == 61)=false∧(zd s (st.i+2) == 33)=false∧(zd s (st.i+2) == 60)=false:=by simp;omega
    obtain ⟨y1,y2,y3⟩:=h3'
    clear h1 h2 h3
    go_wp2_with fail
    refine (yi b s (st.go 2) 3 _ _ ((zb hL3).drewN nq1)).mono ?_
    rintro e w2 ⟨rfl,hL4,hO4⟩
    obtain ⟨⟨r0,r1,r2,r3,r4,r5⟩,⟨q0,q1,q2,q3,q4,q5⟩,hsz⟩:=res6 (P:=zm b) (n:=w.heap.size) (((((zf.refl _ _).drewN nq).mine 1 _).drewN nq1).trans hO4) (by simp) (by unfold zm;omega)
    have HL4:=ze hL4
    have HO4:=ze (((zb hO3).drewN nq1).trans hO4)
    clear hL4 hO4
    go_wp2_with fail
    refine bodyPost_ret (v:=.agg #[.int .i64 3,.bool false,.slice none 0 0,.int .i64 0,.int .i64 0,.int .i64 0]) (by simp [results,Tryz.results125,go_sem,r0,r1,r2,r3,r4,r5]) rfl ?_
    rw [zb HF]
    exact ⟨rfl,(zb HL4).keep (zf.six w.heap.size _ _ _ _ _ _ _) (by unfold zm;omega),(zb HO4).young (zf.six w.heap.size _ _ _ _ _ _ _) (Nat.le_refl _)⟩
 ·have hb1:(zd s (st.i+1) == 63)=false:=by simp [h1]
  have HF:Hid (Ref.jF s st=st.go 1):=by show _=_;unfold Ref.jF;rw [if_neg h1]
  clear h1
  go_wp2_with fail
  refine bodyPost_ret (v:=.agg #[.int .i64 3,.bool false,.slice none 0 0,.int .i64 0,.int .i64 0,.int .i64 0]) (by simp [results,Tryz.results125,go_sem]) rfl ?_
  rw [zb HF]
  exact ⟨rfl,((zb hL2).drewN nq).keep (zf.six w.heap.size _ _ _ _ _ _ _) (by unfold zm;omega),((zb hO1).drewN nq).young (zf.six w.heap.size _ _ _ _ _ _ _) (Nat.le_refl _)⟩
namespace Ref
theorem Zq {b:Int}(h:jk b=true):48≤b∧b≤57:=by simpa [jk] using h
theorem KP {b:Int}(h:jk b=false):¬(48≤b∧b≤57):=by
 intro ⟨h1,h2⟩;simp [jk,h1,h2] at h
theorem je {s:ByteArray}{st st':St}{n:Int}(h:vk s st=(n,st')):zX s st=(n,if 100<n then (if st'.i=st.i then st'.fail 3 st.i else st').fail 5 st.i else (if st'.i=st.i then st'.fail 3 st.i else st')):=by
 unfold zX;rw [h]
end Ref
def lexI (w:World)(b:Nat):Nat:=match w.cell? ⟨b,1,none⟩ with
 |some v=>(intOf v).toNat
 |none=>0
theorem qP {w:World}{b:Nat}{s:ByteArray}{st:St}(h:Lex w b s st):lexI w b=st.i:=by unfold lexI;rw [h.c1];simp [intOf]
theorem Kk (b:Nat)(s:ByteArray)(st:St)(w:World)(h:Lex w b s st)(hs:s.size≤400)(hi:st.i≤s.size) :
  Calls Tryz.prog 162 #[.pointer (some ⟨b,0,none⟩)] w fun x w'=>
   x = .returned (.int .i64 (Ref.zX s st).1)∧Lex w' b s (Ref.zX s st).2∧zf (zm b) w w':=by
 have hL1:=ze h
 obtain ⟨c0,c1,c2,c3,f1,f2,f3⟩:=h
 go_enter Tryz.func162,Tryz.ntmps162
 go_wp2_with fail
 go_loopw [4] (fun n wr=>∃ (q:Int) (st':St),n = .int .i64 q∧0≤q∧q≤2000∧st'.i≤s.size∧Lex wr b s st'∧zf (zm b) w wr∧Hid (Ref.vk s st=Ref.countL s (s.size+1-st'.i) q st'))
  (fun _ wr=>s.size-lexI wr b)
 case atStart=>exact ⟨0,st,rfl,by omega,by omega,hi,zb hL1,zf.refl _ _,rfl⟩
 case round=>
  obtain ⟨q,st',rfl,hq0,hq1,hi',hL,hO,HF⟩:=hrel
  have hfu:Hid (s.size+1-st'.i=(s.size-st'.i)+1):=by show _=_;omega
  have hL2:=ze hL
  clear c0 c1 c2 c3 f1 f2 f3
  cases hd:Ref.jk (zd s st'.i)
  ·have HG:Hid (Ref.vk s st=(q,st')):=by rw [zb HF,zb hfu];exact Ref.countL_stop hd
   have hnd:=Ref.KP hd
   clear hd
   by_cases hlo:48≤zd s st'.i
   ·have hhi:57<zd s st'.i:=by omega
    have hhd:decide (zd s st'.i≤57)=false:=by simp;omega
    clear hnd
    go_wp2_with fail
    refine (zP b s st' _ hL hs).mono ?_
    rintro e w1 ⟨rfl,nq,rfl⟩
    go_wp2_with fail
    refine (zP b s st' _ (hL.drewN _) hs).mono ?_
    rintro e w1 ⟨rfl,nq1,rfl⟩
    obtain ⟨c0,c1,c2,c3,f1,f2,f3⟩:=hL
    by_cases he:st'.i=st.i
    ·have hb:((st'.i:Int) == (st.i:Int))=true:=by simp [he]
     have Hee:=ze he
     clear he
     go_wp2_with fail
     refine (yi b s st' 3 _ _ ((zb hL2).drewN _)).mono ?_
     rintro e w2 ⟨rfl,hL3,hO3⟩
     by_cases hn:100<q
     ·have HH:Hid (Ref.zX s st=(q,(st'.fail 3 st.i).fail 5 st.i)):=by rw [Ref.je (zb HG),if_pos hn,if_pos (zb Hee)];rfl
      go_wp2_with fail
      refine (yi b s _ 5 _ _ hL3).mono ?_
      rintro e w3 ⟨rfl,hL4,hO4⟩
      go_wp2_with fail
      go_ret
      rw [zb HH]
      exact ⟨rfl,hL4,((hO.drewN _).trans hO3).trans hO4⟩
     ·have HH:Hid (Ref.zX s st=(q,(st'.fail 3 st.i))):=by rw [Ref.je (zb HG),if_neg hn,if_pos (zb Hee)];rfl
      go_wp2_with fail
      go_ret
      rw [zb HH]
      exact ⟨rfl,hL3,((hO.drewN _).trans hO3)⟩
    ·have hb:((st'.i:Int) == (st.i:Int))=false:=by simp;omega
     have Hee:=ze he
     clear he
     by_cases hn:100<q
     ·have HH:Hid (Ref.zX s st=(q,st'.fail 5 st.i)):=by rw [Ref.je (zb HG),if_pos hn,if_neg (zb Hee)];rfl
      go_wp2_with fail
      refine (yi b s st' 5 _ _ ((zb hL2).drewN _)).mono ?_
      rintro e w3 ⟨rfl,hL4,hO4⟩
      go_wp2_with fail
      go_ret
      rw [zb HH]
      exact ⟨rfl,hL4,(hO.drewN _).trans hO4⟩
     ·have HH:Hid (Ref.zX s st=(q,st')):=by rw [Ref.je (zb HG),if_neg hn,if_neg (zb Hee)];rfl
      go_wp2_with fail
      go_ret
      rw [zb HH]
      exact ⟨rfl,(zb hL2).drewN _,hO.drewN _⟩
   ·clear hnd
    have hhd:decide (48≤zd s st'.i)=false:=by simp;omega
    go_wp2_with fail
    refine (zP b s st' _ hL hs).mono ?_
    rintro e w1 ⟨rfl,nq,rfl⟩
    obtain ⟨c0,c1,c2,c3,f1,f2,f3⟩:=hL
    by_cases he:st'.i=st.i
    ·have hb:((st'.i:Int) == (st.i:Int))=true:=by simp [he]
     have Hee:=ze he
     clear he
     go_wp2_with fail
     refine (yi b s st' 3 _ _ ((zb hL2).drewN _)).mono ?_
     rintro e w2 ⟨rfl,hL3,hO3⟩
     by_cases hn:100<q
     ·have HH:Hid (Ref.zX s st=(q,(st'.fail 3 st.i).fail 5 st.i)):=by rw [Ref.je (zb HG),if_pos hn,if_pos (zb Hee)];rfl
      go_wp2_with fail
      refine (yi b s _ 5 _ _ hL3).mono ?_
      rintro e w3 ⟨rfl,hL4,hO4⟩
      go_wp2_with fail
      go_ret
      rw [zb HH]
      exact ⟨rfl,hL4,((hO.drewN _).trans hO3).trans hO4⟩
     ·have HH:Hid (Ref.zX s st=(q,(st'.fail 3 st.i))):=by rw [Ref.je (zb HG),if_neg hn,if_pos (zb Hee)];rfl
      go_wp2_with fail
      go_ret
      rw [zb HH]
      exact ⟨rfl,hL3,((hO.drewN _).trans hO3)⟩
    ·have hb:((st'.i:Int) == (st.i:Int))=false:=by simp;omega
     have Hee:=ze he
     clear he
     by_cases hn:100<q
     ·have HH:Hid (Ref.zX s st=(q,st'.fail 5 st.i)):=by rw [Ref.je (zb HG),if_pos hn,if_neg (zb Hee)];rfl
      go_wp2_with fail
      refine (yi b s st' 5 _ _ ((zb hL2).drewN _)).mono ?_
      rintro e w3 ⟨rfl,hL4,hO4⟩
      go_wp2_with fail
      go_ret
      rw [zb HH]
      exact ⟨rfl,hL4,(hO.drewN _).trans hO4⟩
     ·have HH:Hid (Ref.zX s st=(q,st')):=by rw [Ref.je (zb HG),if_neg hn,if_neg (zb Hee)];rfl
      go_wp2_with fail
      go_ret
      rw [zb HH]
      exact ⟨rfl,(zb hL2).drewN _,hO.drewN _⟩
  ·have HG:Hid (Ref.vk s st=Ref.countL s (s.size+1-(st'.go 1).i) (if q≤100 then 10*q+zd s st'.i-48 else q) (st'.go 1)):=by
    rw [zb HF,zb hfu,show s.size+1-(st'.go 1).i=s.size-st'.i by simp only [St.go];omega];exact Ref.countL_go hd
   obtain ⟨hlo,hhi⟩:=Ref.Zq hd
   have hlt:st'.i<s.size:=by rw [←zx];omega
   clear hd
   go_wp2_with fail
   refine (zP b s st' _ hL hs).mono ?_
   rintro e w1 ⟨rfl,nq,rfl⟩
   go_wp2_with fail
   refine (zP b s st' _ (hL.drewN _) hs).mono ?_
   rintro e w1 ⟨rfl,nq1,rfl⟩
   by_cases hn:q≤100
   ·have HG1:Hid (Ref.vk s st=Ref.countL s (s.size+1-(st'.go 1).i) (10*q+zd s st'.i-48) (st'.go 1)):=by rw [zb HG,if_pos hn];rfl
    go_wp2_with fail
    refine (zP b s st' _ (hL.drewN _) hs).mono ?_
    rintro e w1 ⟨rfl,nq2,rfl⟩
    obtain ⟨c0,c1,c2,c3,f1,f2,f3⟩:=hL
    go_wp2_with fail
    have hLn:=((zb hL2).drewN (nq+nq1+nq2)).setI ((st'.i:Int)+1) 1 (by omega)
    go_roundw
    case rel=>exact ⟨_,st'.go 1,rfl,by omega,by omega,by simp only [St.go];omega,hLn,(hO.drewN _).mine _ _,HG1⟩
    case measure=>rw [qP (zb hL2),qP hLn];simp only [St.go];omega
   ·have HG1:Hid (Ref.vk s st=Ref.countL s (s.size+1-(st'.go 1).i) q (st'.go 1)):=by rw [zb HG,if_neg hn];rfl
    obtain ⟨c0,c1,c2,c3,f1,f2,f3⟩:=hL
    go_wp2_with fail
    have hLn:=((zb hL2).drewN (nq+nq1)).setI ((st'.i:Int)+1) 1 (by omega)
    go_roundw
    case rel=>exact ⟨_,st'.go 1,rfl,by omega,by omega,by simp only [St.go];omega,hLn,(hO.drewN _).mine _ _,HG1⟩
    case measure=>rw [qP (zb hL2),qP hLn];simp only [St.go];omega
end
end Go.Proofs.YtnagphodmfejiaaGreatDoor
