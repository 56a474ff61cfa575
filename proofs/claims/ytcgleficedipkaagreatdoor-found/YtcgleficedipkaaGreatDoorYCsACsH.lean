/- The program's sets: looking a character up (from commit d632176 on). -/
import Derived.Test.YtcgleficedipkaaGreatDoorYSetASetC
import Derived.Test.YtcgleficedipkaaGreatDoorYChARanB
import Derived.RangeFuncBound
import Derived.RangeFuncLeaves
import Derived.OwnWalkIn
import Derived.TacticsInMore
import Derived.LoopNIn
import Derived.LoopIn
import Derived.Sort.Row
import Derived.Test.YtcgleficedipkaaGreatDoorYSrtASrtL
import Derived.Shelf.SlSortCmp.NoneTotal
namespace Go.Proofs.YtcgleficedipkaaGreatDoor
open _root_.Go.Proofs.Tryz
variable (base:Nat){w w2:World}(v sv:Value){pre:List (Int×Int)}(l acc:List (Int×Int))(x y:Int×Int){z:Value}(S:Int->Bool)(c:Int)(W:World)
section
open Go.RowKit
set_option maxHeartbeats 1600000
namespace Cs
theorem zK.ge {sp:List (Int×Int)}(h:zK sp):∀ (i:Nat) (x:Int×Int),sp[i]?=some x->(i:Int)<=x.1
 |0,x,hx=>(h.at hx).2.1
 |i+1,x,hx=>by
  have hl:i+1<sp.length:=(yd.1 hx).1;have hi:sp[i]?=some sp[i]:=zD (by omega);have h1:=zK.ge h i _ hi;have h2:=h.lt hi hx (by omega);have h3:=h.at hi;unfold okS at h3;omega
theorem zK.len {sp:List (Int×Int)}(h:zK sp):sp.length<=1114112:=by
 by_cases e:sp.length=0
 ·omega
 ·have hx:sp[sp.length-1]?=some (sp[sp.length-1]'(by omega)):=zD (by omega);have h1:=h.ge _ _ hx;have h2:=h.at hx;unfold okS at h2;omega
end Cs
def yu (w:World)(A:Nat->Prop)(sv:Value)(l:List (Int×Int)):Prop:=
 (sv = .slice none 0 0/\l=[])\/∃ g cap,sv = .slice (some ⟨g,0,none⟩) l.length cap/\A g/\l.length<=cap/\g<w.heap.size/\∀ (j:Nat) p,l[j]?=some p->w.cell? ⟨g,j*2,none⟩=some (.int .i32 p.1)/\w.cell? ⟨g,j*2+1,none⟩=some (.int .i32 p.2)
theorem yu.keep {P A:Nat->Prop}{w w':World}{sv:Value}{l:List (Int×Int)}(h:yu w A sv l)(k:ze P w w')(hn:∀ g,A g->¬P g):yu w' A sv l:=by
 rcases h with h |⟨g,cap,h1,h0,h2,h3,h4⟩
 ·exact .inl h
 ·exact .inr ⟨g,cap,h1,h0,h2,yh h3 k.size,fun j p hj=>⟨zg k _ _ (h4 j p hj).1 (hn g h0),zg k _ _ (h4 j p hj).2 (hn g h0)⟩⟩
theorem yu.mono {A B:Nat->Prop}{w:World}{sv:Value}{l:List (Int×Int)}(h:yu w A sv l)(hAB:∀ g,g<w.heap.size->A g->B g):yu w B sv l:=by
 rcases h with h |⟨g,cap,h1,h0,h2,h3,h4⟩
 ·exact .inl h
 ·exact .inr ⟨g,cap,h1,hAB g h3 h0,h2,h3,h4⟩
def yQ (w:World)(A:Nat->Prop)(v:Value)(P:Int->Bool):Prop:=∃ sv sp,v = .agg #[sv]/\yu w A sv sp/\Cs.zK sp/\∀ c,Eqv.inSp sp c=P c
theorem yQ.keep {P A:Nat->Prop}{w w':World}{v:Value}{S:Int->Bool}(h:yQ w A v S)(k:ze P w w')(hn:∀ g,A g->¬P g):yQ w' A v S:=by
 obtain ⟨sv,sp,h1,h2,h3⟩:=h;exact ⟨sv,sp,h1,h2.keep k hn,h3⟩
theorem yQ.mono {A B:Nat->Prop}{w:World}{v:Value}{S:Int->Bool}(h:yQ w A v S)(hAB:∀ g,g<w.heap.size->A g->B g):yQ w B v S:=by
 obtain ⟨sv,sp,h1,h2,h3⟩:=h;exact ⟨sv,sp,h1,h2.mono hAB,h3⟩
theorem vr (w:World) :
  Calls prog 177 #[.agg #[.int .i32 x.1,.int .i32 x.2],.int .i32 c] w fun e w'=>e = .returned (.int .i64 (Cs.cmpS x c))/\Q8 w w':=by
 obtain ⟨a,b⟩:=x;have HO:Hid (Q8 w (w.alloc (.cells #[.int .i32 a,.int .i32 b] 265))):=(ze.refl _ _).alloc _;unfold Cs.cmpS;by_cases h1:b<c
 ·simp only [h1,if_true];go_enter func177,ntmps177;go_wp2_with fail;go_ret;exact ⟨rfl,zb HO⟩
 ·by_cases h2:a > c
  ·simp only [h1,h2,if_true,if_false];go_enter func177,ntmps177;go_wp2_with fail;go_ret;exact ⟨rfl,zb HO⟩
  ·simp only [h1,h2,if_false];go_enter func177,ntmps177;go_wp2_with fail;go_ret;exact ⟨rfl,zb HO⟩
theorem bsf_any (A:Nat->Prop)(w:World)(h:yu w A sv l)(hr:Cs.zK l) :
  Calls prog 176 #[sv,.int .i32 c,.func (.func 177) #[] #[]] w fun e w'=>∃ i:Nat,e = .returned (.tuple #[.int .i64 i,.bool (Eqv.inSp l c)])/\Q8 w w':=by
 have hlen:=hr.len;have HR:=zc hr;have HW:=zc h;clear h hr;obtain ⟨pa,pn,pc,rfl⟩:∃ pa pn pc,sv = .slice pa pn pc:=by rcases (zb HW) with ⟨h1,_⟩ |⟨g,cap,h1,_⟩<;>exact ⟨_,_,_,h1⟩
 have hpn:pn=l.length:=by rcases (zb HW) with ⟨h1,h2⟩ |⟨g,cap,h1,_⟩<;>simp at h1<;>simp [*]
 subst hpn;have HC:Hid (l.length≠0->∃ g,pa=some ⟨g,0,none⟩/\l.length<=pc/\∀ (j:Nat) p,l[j]?=some p->w.cell? ⟨g,j*2,none⟩=some (.int .i32 p.1)/\w.cell? ⟨g,j*2+1,none⟩=some (.int .i32 p.2)):=by
  intro hne;rcases zb HW with ⟨_,h2⟩ |⟨g,cap,h1,_,h2,h3,h4⟩
  ·rw [h2] at hne;exact absurd rfl hne
  ·simp at h1;exact ⟨g,h1.1,by omega,h4⟩
 clear HW;have eg:∀ args w,(callFunc 177 args).run prog w = .ok (.enter 177 args) w:=enters_of func177 (by kernel_rfl) rfl;go_enter func176,ntmps176;go_wp2_with fail;go_loopw [9,10] (fun ki kj wr=>∃ i j:Nat,ki = .int .i64 i/\kj = .int .i64 j/\i<=j/\j<=l.length/\Hid (Q8 w wr)/\Hid ((∀ (t:Nat) x,t<i->l[t]?=some x->x.2<c)/\∀ (t:Nat) x,j<=t->l[t]?=some x->c<=x.2)) (fun ki kj _=>(intOf kj-intOf ki).toNat)
 case atStart=>exact ⟨0,l.length,rfl,rfl,by omega,by omega,ze.refl _ _,fun t x ht=>by omega,fun t x ht hx=>by have:=(yd.1 hx).1;omega⟩
 case round=>
  obtain ⟨i,j,rfl,rfl,hij,hjl,HK,HN⟩:=hrel;by_cases hlt:i<j
  ·obtain ⟨g,rfl,hpc,hcells⟩:=zb HC (by omega);have hm:(i+j) / 2<l.length:=(by omega);have hget:l[(i+j) / 2]?=some l[(i+j) / 2]:=zD hm;obtain ⟨d1,d2⟩:=hcells _ _ hget;have c1:=zg (zb HK) _ _ d1 (fun f=>f);have c2:=zg (zb HK) _ _ d2 (fun f=>f);clear d1 d2 hcells;have HG:=zc hget;clear hget;generalize l[(i+j) / 2]=y at *;by_cases hy:y.2<c
   ·have HN1:Hid ((∀ (t:Nat) x,t<(i+j) / 2+1->l[t]?=some x->x.2<c)/\∀ (t:Nat) x,j<=t->l[t]?=some x->c<=x.2):=⟨Cs.has_left (zb HR) (zb HG) hy,(zb HN).2⟩
    have hcm:Cs.cmpS y c<0:=(Cs.VT y c).2 hy;clear hy;go_wp2_with (go_at_fn 177;refine (vr y c _).mono ?_;rintro e w1 ⟨rfl,hO1⟩;have HK1:=zc ((zb HK).trans hO1);clear hO1);exact ⟨⟨(i+j) / 2+1,j,by rw [show ((i:Int)+(j:Int)) / 2+1=(((i+j) / 2+1:Nat):Int) by omega],rfl,by omega,hjl,zb HK1,HN1⟩,by simp [intOf];omega⟩
   ·have HN1:Hid ((∀ (t:Nat) x,t<i->l[t]?=some x->x.2<c)/\∀ (t:Nat) x,(i+j) / 2<=t->l[t]?=some x->c<=x.2):=⟨(zb HN).1,Cs.zcH (zb HR) (zb HG) hy⟩
    have hcm:¬Cs.cmpS y c<0:=fun h=>hy ((Cs.VT y c).1 h);clear hy;go_wp2_with (go_at_fn 177;refine (vr y c _).mono ?_;rintro e w1 ⟨rfl,hO1⟩;have HK1:=zc ((zb HK).trans hO1);clear hO1);exact ⟨⟨i,(i+j) / 2,rfl,by rw [show ((i:Int)+(j:Int)) / 2=(((i+j) / 2:Nat):Int) by omega],by omega,by omega,zb HK1,HN1⟩,by simp [intOf];omega⟩
  ·obtain rfl:i=j:=(by omega);have HI:Hid (Eqv.inSp l c=true↔∃ x,l[i]?=some x/\x.1<=c/\c<=x.2):=Cs.has_iff (zb HR) (zb HN).1 (zb HN).2;by_cases hn:i<l.length
   ·obtain ⟨g,rfl,hpc,hcells⟩:=zb HC (by omega);have hget:l[i]?=some l[i]:=zD hn;obtain ⟨d1,d2⟩:=hcells _ _ hget;have c1:=zg (zb HK) _ _ d1 (fun f=>f);have c2:=zg (zb HK) _ _ d2 (fun f=>f);clear d1 d2 hcells;have HG:=zc hget;clear hget;generalize l[i]=y at *;by_cases hy:Cs.cmpS y c=0
    ·have HE:Hid (Eqv.inSp l c=true):=(zb HI).2 ⟨y,zb HG,Cs.Jx.1 hy⟩;go_wp2_with (go_at_fn 177;refine (vr y c _).mono ?_;rintro e w1 ⟨rfl,hO1⟩;have HK1:=zc ((zb HK).trans hO1);clear hO1);go_ret2;exact ⟨i,by rw [zb HE];rfl,zb HK1⟩
    ·have HE:Hid (Eqv.inSp l c=(Cs.cmpS y c == 0)):=by
      rw [show (Cs.cmpS y c == 0)=false by simpa using hy];refine zc (Z3.2 fun h=>?_);obtain ⟨x,hx,hxc⟩:=(zb HI).1 h;cases (zb HG).symm.trans hx;exact hy (Cs.Jx.2 hxc)
     go_wp2_with (go_at_fn 177;refine (vr y c _).mono ?_;rintro e w1 ⟨rfl,hO1⟩;have HK1:=zc ((zb HK).trans hO1);clear hO1);go_ret2;exact ⟨i,by rw [zb HE];rfl,zb HK1⟩
   ·have HE:Hid (Eqv.inSp l c=false):=by
     refine zc (Z3.2 fun h=>?_);obtain ⟨x,hx,hxc⟩:=(zb HI).1 h;have:=(yd.1 hx).1;omega
    go_wp2_with fail;go_ret2;exact ⟨i,by rw [zb HE];rfl,zb HK⟩
theorem JY (A:Nat->Prop)(w:World)(h:yQ w A v S) :
  Calls prog 134 #[v,.int .i32 c] w fun e w'=>e = .returned (.bool (S c))/\Q8 w w':=by
 obtain ⟨sv,sp,rfl,h1,h2,h3⟩:=h;obtain ⟨pa,pn,pc,rfl⟩:∃ pa pn pc,sv = .slice pa pn pc:=by rcases h1 with ⟨h1,_⟩ |⟨g,cap,h1,_⟩<;>exact ⟨_,_,_,h1⟩
 have HO:Hid (Q8 w (w.alloc (.cells #[.slice pa pn pc] 161))):=(ze.refl _ _).alloc _;have HC:=zc (bsf_any _ sp c A _ (h1.keep (zb HO) (fun _ _ f=>f)) h2);have HS:=zc (h3 c);clear h1 h2 h3;go_enter func134,ntmps134;go_wp2_with (go_at_call 176;refine (zb HC).mono ?_;rintro e w1 ⟨i,rfl,hO1⟩;have HK1:=zc ((zb HO).trans hO1);clear hO1);go_ret;exact ⟨by rw [zb HS];rfl,zb HK1⟩
end
section
open Go.RowKit Go.Shelf
set_option maxHeartbeats 4000000
set_option maxRecDepth 1000000
attribute [local go_sem] Oper.semAt_some
def qT (D:Nat->Prop)(w0 wr:World)(O:Nat->Prop):Prop:=w0.heap.size<=wr.heap.size/\∀ k,D k->k<w0.heap.size/\¬O k/\wr.heap[k]?=w0.heap[k]?
theorem qT.cell {D O:Nat->Prop}{w0 wr:World}(h:qT D w0 wr O){p:Addr}(hp:D p.block):wr.cell? p=w0.cell? p:=vw (w:=w0) (h.2 _ hp).2.2
theorem qT.yield {D O O':Nat->Prop}{w0 A A':World}(h:qT D w0 A O)(hs:∀ k,O' k->O k\/A.heap.size<=k)(hO:ze O A A'):qT D w0 A' O':=
 ⟨yZ h.1 hO.size,fun k hk=>by
  obtain ⟨h1,h2,h3⟩:=h.2 k hk;have:=h.1;exact ⟨h1,fun ho=>by
   rcases hs k ho with h |h
   ·exact h2 h
   ·omega,(hO.block k (by omega) h2).trans h3⟩⟩
theorem qT.young {D O:Nat->Prop}{w0 W A A':World}(h:qT D w0 A O)(hW:w0.heap.size<=W.heap.size)(hO:ze (fun k=>W.heap.size<=k/\¬O k) A A'):qT D w0 A' O:=
 ⟨yZ h.1 hO.size,fun k hk=>by
  obtain ⟨h1,h2,h3⟩:=h.2 k hk;have:=h.1;exact ⟨h1,h2,(hO.block k (by omega) (fun hh=>by omega)).trans h3⟩⟩
theorem qT.start {D O:Nat->Prop}{w0 W:World}(hlt:∀ k,D k->k<w0.heap.size)(h:Q8 w0 W)(hD:∀ k,D k->¬O k):qT D w0 W O:=
 ⟨h.size,fun k hk=>⟨hlt k hk,hD k hk,h.block k (hlt k hk) (fun f=>f)⟩⟩
theorem X5 {α:Type}(l:List α)(i:Nat)(hi:i<l.length):(l.take i++[l[i]]) <+: l:=by
 have:l.take i++[l[i]]=l.take (i+1):=by simp
 rw [this];exact List.take_prefix _ _
theorem kY {α:Type}(l:List α)(i:Nat)(hi:i<l.length):l.take i++[l[i]]=l.take (i+1):=by simp
def kZ (x:Int×Int):Array Value:=#[.int .i32 x.1,.int .i32 x.2]
theorem vt (A:Nat->Prop)(kb:Nat)(w0:World)(h:yu w0 A sv l)(hkb:w0.cell? ⟨kb,0,none⟩=some sv)(hl:l.length<=2000000)(n:Nat)(hn1:1<=n) :
  SeqO Fence.wide n prog 198 #[.pointer (some ⟨kb,0,none⟩)] kZ l (fun k=>k=kb\/(A k/\k<w0.heap.size)) w0:=by
 intro lp J O0 W hO hD hO0 hJ hY h0;have hk0:=zE w0 _ hkb;have HK:Hid (qT (fun k=>k=kb\/(A k/\k<w0.heap.size)) w0 W O0):=qT.start (fun k hk=>by rcases hk with rfl |hk;exact hk0;exact hk.2) hO hD;have hk:=((zb HK).cell (p:=⟨kb,0,none⟩) (.inl rfl)).trans hkb;obtain ⟨pa,pn,pc,rfl⟩:∃ pa pn pc,sv = .slice pa pn pc:=by rcases h with ⟨h1,_⟩ |⟨g,cap,h1,_⟩<;>exact ⟨_,_,_,h1⟩
 have hpn:pn=l.length:=by rcases h with ⟨h1,h2⟩ |⟨g,cap,h1,_⟩<;>simp at h1<;>simp [*]
 subst hpn;have HC:Hid (l.length≠0->∃ g,pa=some ⟨g,0,none⟩/\l.length<=pc/\(A g/\g<w0.heap.size)/\∀ (j:Nat) p,l[j]?=some p->w0.cell? ⟨g,j*2,none⟩=some (.int .i32 p.1)/\w0.cell? ⟨g,j*2+1,none⟩=some (.int .i32 p.2)):=by
  intro hne;rcases h with ⟨_,h2⟩ |⟨g,cap,h1,hA,h2,h3,h4⟩
  ·rw [h2] at hne;exact absurd rfl hne
  ·simp at h1;exact ⟨g,h1.1,by omega,⟨hA,h3⟩,h4⟩
 have HJ:=zc hJ;have HY:=zc hY;have H0:=zc h0;have hsW:=hO.size;clear h hJ hY h0 hD hO0;refine callsIn_of_wp func198 rfl trivial ?_ rfl;simp only [ntmps198,jZ,qH,jU,Nat.reduceAdd,Nat.reduceSub,wO,wl,Z1,Zr,kB,jS]
 gi_wp2
 gi_loopw [7] (fun vi wr=>∃ (i:Nat) (O:Nat->Prop),vi = .int .i64 i/\i<=l.length/\Hid (J (l.take i) O wr)/\Hid (qT (fun k=>k=kb\/(A k/\k<w0.heap.size)) w0 wr O)) (fun vi _=>l.length-(intOf vi).toNat)
 case atStart=>exact ⟨0,O0,rfl,by omega,H0,HK⟩
 case round=>
  clear HK;obtain ⟨i,O,rfl,hi,HJ1,HK⟩:=hrel;by_cases hlt:i<l.length
  ·obtain ⟨g,rfl,hpc,hAg,hcells⟩:=zb HC (by omega);have hget:l[i]?=some l[i]:=zD hlt;obtain ⟨d1,d2⟩:=hcells _ _ hget;have c1:=((zb HK).cell (p:=⟨g,i*2,none⟩) (.inr hAg)).trans d1;have c2:=((zb HK).cell (p:=⟨g,i*2+1,none⟩) (.inr hAg)).trans d2;clear d1 d2 hcells;have HP:Hid ((l.take i++[l[i]]) <+: l):=X5 l i hlt;have HT:Hid (l.take i++[l[i]]=l.take (i+1)):=kY l i hlt;clear hget;generalize l[i]=y at *;have hJ2:=zb HJ (l.take i) O wr (wr.alloc (.cells #[.int .i32 y.1,.int .i32 y.2] 265)) (zb HJ1) ((ze.refl _ wr).alloc _);have HK2:=zc ((zb HK).young (W:=W) hsW (A':=wr.alloc (.cells #[.int .i32 y.1,.int .i32 y.2] 265)) ((ze.refl _ wr).alloc _));obtain ⟨fn,tmps,assign,body,hy,hR⟩:=zb HY (l.take i) O y _ hJ2 (zb HP);simp only [kZ] at hy;clear hJ2
   gi_wp2
   refine hR.mono ?_;rintro e W3 ⟨rfl,O',hJ3,hs3,hO3,hlt3⟩;have HK3:=zc ((zb HK2).yield hs3 hO3)
   gi_wp2
   exact ⟨⟨i+1,O',by go_num,by omega,(by rw [<-zb HT];exact hJ3),zb HK3⟩,by simp [intOf];omega⟩
  ·obtain rfl:i=l.length:=by omega
   gi_wp2
   go_end0
   exact ⟨⟨_,rfl⟩,O,by have:=zb HJ1;rwa [ZA] at this⟩
attribute [local go_sem] Oper.semAt_some
theorem YieldAt.anyN {m m':Nat}{P:Program}{l:Nat}{args:Array Value}{W:World}{R:Ending->World->Prop}(h:YieldAt Fence.wide m P l args W R):YieldAt Fence.wide m' P l args W R:=
 let ⟨fn,tmps,assign,body,hy,hr⟩:=h
 ⟨fn,tmps,assign,body,hy,hr.1,fun c cs _=>hr.2 c cs (room_wide _)⟩
def JZ (w w':World)(sv v:Value):Prop:=∃ kb,v = .func (.func 198) #[] #[.pointer (some ⟨kb,0,none⟩)]/\w.heap.size<=kb/\w'.cell? ⟨kb,0,none⟩=some sv/\Q8 w w'
theorem QY (w:World)(hs:∃ pa pn pc,sv = .slice pa pn pc):Calls prog 167 #[sv] w fun e w'=>∃ v,e = .returned v/\JZ w w' sv v:=by
 obtain ⟨pa,pn,pc,rfl⟩:=hs;have HO:Hid (JZ w (w.alloc (.cells #[.slice pa pn pc] 159)) (.slice pa pn pc) (.func (.func 198) #[] #[.pointer (some ⟨w.heap.size,0,none⟩)])):=⟨_,rfl,z8 _,zm w _ rfl _ _ 0 _ rfl,(ze.refl _ _).alloc _⟩
 go_enter func167,ntmps167;go_wp2_with fail;go_ret;exact ⟨_,rfl,zb HO⟩
theorem Zw (w:World)(hs:∃ pa pn pc,sv = .slice pa pn pc):Calls prog 123 #[.agg #[sv]] w fun e w'=>∃ v,e = .returned v/\JZ w w' sv v:=by
 obtain ⟨pa,pn,pc,rfl⟩:=hs;have HO:Hid (Q8 w (w.alloc (.cells #[.slice pa pn pc] 161))):=(ze.refl _ _).alloc _;have hsz:(w.alloc (.cells #[.slice pa pn pc] 161)).heap.size=w.heap.size+1:=by simp
 go_enter func123,ntmps123;go_wp2_with (go_at_call 167;refine (QY _ _ ⟨_,_,_,rfl⟩).mono ?_;rintro e w1 ⟨v,rfl,kb,rfl,h1,h2,h3⟩;have H1:Hid (JZ w w1 (.slice pa pn pc) (.func (.func 198) #[] #[.pointer (some ⟨kb,0,none⟩)])):=⟨kb,rfl,(by rw [hsz] at h1;omega),h2,(zb HO).trans h3⟩;clear h1 h2 h3);go_ret;exact ⟨_,rfl,zb H1⟩
theorem ZO {α:Type}{P:List α->Prop}(h0:P [])(hs:∀ l x,P l->P (l++[x]))(l:List α):P l:=by
 rw [<-List.reverse_reverse l];generalize l.reverse=r
 induction r with
 |nil=>exact h0
 |cons x r ih=>rw [List.reverse_cons];exact hs _ _ ih
namespace Cs
def gE:List (Int×Int)->List (Int×Int)×Int
 |l=>l.foldl (fun s x=>(s.1++[(s.2,x.1-1)],x.2+1)) ([],0)
theorem gE_nil:gE []=([],0):=rfl
theorem ZP:gE (l++[x])=((gE l).1++[((gE l).2,x.1-1)],x.2+1):=by simp [gE]
theorem QZ:∀ (l:List (Int×Int)) (e:List (Int×Int)) (b:Int),(l.foldl (fun s x=>(s.1++[(s.2,x.1-1)],x.2+1)) (e,b)).1++[((l.foldl (fun (s:List (Int×Int)×Int) x=>(s.1++[(s.2,x.1-1)],x.2+1)) (e,b)).2,1114111)]=e++gaps b l
 | [],e,b=>rfl
 |x :: l,e,b=>by
  rw [List.foldl_cons,QZ l];simp [gaps]
theorem Wu:(gE l).1++[((gE l).2,1114111)]=gaps 0 l:=by
 have:=QZ l [] 0;simpa [gE] using this
variable {l}
theorem gE_pre (h:pre <+: l):(gE pre).1 <+: (gE l).1:=by
 obtain ⟨r,rfl⟩:=h;refine ZO (P:=fun r=>(gE pre).1 <+: (gE (pre++r)).1) (by simp) (fun r x ih=>?_) r;show _ <+: (gE (pre++(r++[x]))).1;rw [<-ql,ZP];exact List.IsPrefix.trans ih (Qa _ _)
theorem gE_step {x:Int×Int}(h:(pre++[x]) <+: l):((gE pre).1++[((gE pre).2,x.1-1)]) <+: gaps 0 l:=by
 have h1:=gE_pre h;rw [ZP] at h1;rw [<-Wu];exact List.IsPrefix.trans h1 (Qa _ _)
theorem gE_lo:∀ (l:List (Int×Int)),(∀ x∈l,okS x)->0<=(gE l).2/\(gE l).2<=1114112:=by
 refine ZO (P:=fun l=>(∀ x∈l,okS x)->0<=(gE l).2/\(gE l).2<=1114112) (fun _=>by rw [gE_nil];exact ⟨by simp,by simp⟩) (fun l x ih h=>?_);rw [ZP];have:=h x (by simp);unfold okS at this;simp only;omega
end Cs
structure vU (w:World)(k lp:Nat)(b:Int):Prop where
 y:w.cell? ⟨k,0,none⟩=some (.func (.yield lp) #[] #[])
 b:w.cell? ⟨k+1,0,none⟩=some (.int .i32 b)
 f:w.frozen? ⟨k+1,0,none⟩=false
theorem vU.keep {P:Nat->Prop}{w w':World}{k lp:Nat}{b:Int}(h:vU w k lp b)(o:ze P w w')(h0:¬P k)(h1:¬P (k+1)):vU w' k lp b:=
 ⟨(o.cell (p:=⟨k,0,none⟩) (zE w _ h.y) h0).trans h.y,(o.cell (p:=⟨k+1,0,none⟩) (zE w _ h.b) h1).trans h.b,(o.frozen (p:=⟨k+1,0,none⟩) (zE w _ h.b) h1).trans h.f⟩
def GapI (k0 lp:Nat)(J:List (Int×Int)->(Nat->Prop)->World->Prop)(pre:List (Int×Int))(O:Nat->Prop)(X:World):Prop:=
 ∃ Oj:Nat->Prop,(∀ k,O k↔Oj k\/k=k0\/k=k0+1)/\¬Oj k0/\¬Oj (k0+1)/\J (Cs.gE pre).1 Oj X/\vU X k0 lp (Cs.gE pre).2/\k0+2<=X.heap.size/\True
theorem gaps_seq (A:Nat->Prop)(kb:Nat)(w0:World)(h:yu w0 A sv l)(hr:Cs.zK l)(hkb:w0.cell? ⟨kb,0,none⟩=some sv)(n:Nat)(hn1:5<=n) :
  SeqO Fence.wide n prog 225 #[.pointer (some ⟨kb,0,none⟩)] kZ (Cs.gaps 0 l) (fun k=>k=kb\/(A k/\k<w0.heap.size)) w0:=by
 intro lp J O0 W hO hD hO0 hJ hY h0;have hk0:=zE w0 _ hkb;have hk:=(hO.cell (p:=⟨kb,0,none⟩) hk0 (fun f=>f)).trans hkb;obtain ⟨pa,pn,pc,rfl⟩:∃ pa pn pc,sv = .slice pa pn pc:=by rcases h with ⟨h1,_⟩ |⟨g,cap,h1,_⟩<;>exact ⟨_,_,_,h1⟩
 have HW:Hid (yu W (fun g=>A g/\g<w0.heap.size) (.slice pa pn pc) l):=(h.mono (fun g hg hA=>⟨hA,hg⟩)).keep hO (fun _ _ f=>f);have HJ:=zc hJ;have HY:=zc hY;have H0:=zc h0;have HD:=zc hD;have HO0:=zc hO0;have HR:=zc hr;have HOW:=zc hO;clear h hJ hY h0 hD hO0 hr hO;have HA:Hid (Q8 W ((W.alloc (.cells #[.func (.yield lp) #[] #[]] 352)).alloc (.cells #[.int .i32 0] 21))):=((ze.refl _ _).alloc _).alloc _;have hkW:=zE W _ hk;have hk2:=((zb HA).cell (p:=⟨kb,0,none⟩) hkW (fun f=>f)).trans hk;have HB:Hid (vU ((W.alloc (.cells #[.func (.yield lp) #[] #[]] 352)).alloc (.cells #[.int .i32 0] 21)) W.heap.size lp 0):=by
  have hs1:(W.alloc (.cells #[.func (.yield lp) #[] #[]] 352)).heap.size=W.heap.size+1:=by simp
  refine ⟨?_,zm _ _ hs1 _ _ 0 _ rfl,zG _ _ hs1 _ _ 0⟩;exact (((ze.refl (fun _=>False) _).alloc _).cell (p:=⟨W.heap.size,0,none⟩) (by rw [hs1];exact Nat.lt_succ_self _) (fun f=>f)).trans (zm W _ rfl _ _ 0 _ rfl)
 have eg:∀ args w,(callFunc 198 args).run prog w = .ok (.enter 198 args) w:=enters_of func198 (by kernel_rfl) rfl;refine callsIn_of_wp_marks func225 rfl trivial ?_ rfl;simp only [ntmps225,jZ,qH,jU,Nat.reduceAdd,Nat.reduceSub,wO,wl,Z1,Zr,kB,jS]
 gi_wp2
 refine ⟨trivial,fun h=>by simp [Fence.wide] at h,?_⟩;refine (callsIn_wide.2 (Zw _ _ ⟨_,_,_,rfl⟩)).mono ?_;rintro e w1 ⟨v,rfl,kb2,rfl,hk21,hk22,hO2⟩;have HO2:=zc hO2;have HK2:=zc hk22;clear hO2 hk22
 gi_wp2
 have hW2:((W.alloc (.cells #[.func (.yield lp) #[] #[]] 352)).alloc (.cells #[.int .i32 0] 21)).heap.size=W.heap.size+2:=by simp
 rw [hW2] at hk21;have HO3:=zc ((zb HA).trans (zb HO2));have hsz1:=(zb HO2).size;rw [hW2] at hsz1;have HB1:Hid (vU w1 W.heap.size lp 0):=(zb HB).keep (zb HO2) (fun f=>f) (fun f=>f);have HW1:=zc ((zb HW).keep (zb HO3) (fun _ _ f=>f));have hlen:=(zb HR).len;have hWw:=(zb HOW).size;clear HB HW HA hk2 hW2;refine vT (F:=Fence.wide) rfl (by omega) (gf:=198) (lb:=#[.pointer (some ⟨kb2,0,none⟩)]) rfl trivial eg
  (vt _ l _ kb2 w1 (zb HW1) (zb HK2) (by omega) (n-1) (by omega)) (fun _=>rfl) (GapI W.heap.size lp J) (fun k=>O0 k\/k=W.heap.size\/k=W.heap.size+1) ?o ?d ?i ?z
  (fun x=>{ tmps:=#[.func (.yield lp) #[] #[],.pointer (some ⟨kb,0,none⟩),.pointer (some ⟨W.heap.size,0,none⟩),.pointer (some ⟨W.heap.size+1,0,none⟩),.int .i32 x.1,.int .i32 x.2,.agg #[.slice pa pn pc],.func (.func 198) #[] #[.pointer (some ⟨kb2,0,none⟩)],.int .i32 x.1,.int .i32 x.2,undef,undef,undef,undef,undef,undef,undef,undef,undef,undef,undef],defers:=[] }) ?assign ?body ?done
 case o=>
  rintro k (h |h |h)
  ·have:=zb HO0 k h;omega
  ·omega
  ·omega
 case d=>
  rintro k (rfl |⟨⟨hA,hk⟩,h1⟩)
  ·refine ⟨zE w1 _ (zb HK2),?_⟩;rintro (h |h |h)
   ·have:=zb HO0 _ h;omega
   ·omega
   ·omega
  ·refine ⟨h1,?_⟩;rintro (h |h |h)
   ·exact zb HD k (.inr ⟨hA,hk⟩) h
   ·omega
   ·omega
 case i=>
  rintro pre O X X' ⟨Oj,h1,h2,h3,h4,h5,h6,h7⟩ hX;exact ⟨Oj,h1,h2,h3,zb HJ _ _ _ _ h4 (hX.mono (fun k _ hk=>⟨by omega,fun h=>hk.2 ((h1 k).2 (.inl h))⟩)),h5.keep hX (fun h=>by omega) (fun h=>by omega),yZ h6 hX.size,h7⟩
 case z=>
  exact ⟨O0,fun _=>Iff.rfl,fun h=>by have:=zb HO0 _ h;omega,fun h=>by have:=zb HO0 _ h;omega,zb HJ _ _ _ _ (zb H0) ((zb HO3).mono (fun _ _ f=>f.elim)),zb HB1,by omega,trivial⟩
 case assign=>
  intro l x W K hK;unfold kZ
  gi_wp2
  exact hK
 case body=>
  rintro l2 pre O x V hl2 hOl ⟨r,hr⟩ ⟨Oj,h1,h2,h3,h4,h5,h6,h7⟩ hpre;have hx:=(zb HR).2 x (hpre.subset (by simp));have hb:=Cs.gE_lo pre (fun y hy=>(zb HR).2 y (hpre.subset (by simp [hy])));obtain ⟨fn,tmps,assign,body,hy,hR⟩:=YieldAt.anyN (m':=n-1-1-1) (zb HY (Cs.gE pre).1 Oj ((Cs.gE pre).2,x.1-1) V h4 (Cs.gE_step hpre));simp only [kZ] at hy;obtain ⟨c1,c2,f2⟩:=h5;have H5:Hid (vU V W.heap.size lp (Cs.gE pre).2):=⟨c1,c2,f2⟩
  obtain ⟨xa,xc⟩:=x;unfold Cs.okS at hx;simp only [] at hx hy ⊢;generalize hgb:(Cs.gE pre).2=gb at *
  gi_wp2
  refine ⟨fun h=>by simp [Fence.wide] at h,RoundIn.mono hR ?_⟩;rintro e V2 ⟨rfl,O',hJ2,hs2,hO2,hlt2⟩;have hB2:=(zb H5).keep hO2 h2 h3;obtain ⟨e1,e2,g2⟩:=hB2;have HB2:Hid (vU V2 W.heap.size lp gb):=⟨e1,e2,g2⟩
  have n0:¬O' W.heap.size:=fun h=>by
   rcases hs2 _ h with h |h
   ·exact h2 h
   ·omega
  have n1:¬O' (W.heap.size+1):=fun h=>by
   rcases hs2 _ h with h |h
   ·exact h3 h
   ·omega
  have HJ2:=zc hJ2;have HS2:=zc hs2;have HO4:=zc hO2;have hsz2:=hO2.size;clear hJ2 hs2 hO2 hy hR
  gi_wp2
  refine ⟨fun k=>O' k\/k=W.heap.size\/k=W.heap.size+1,⟨O',fun _=>Iff.rfl,n0,n1,?_,?_,by simp [World.setCell];omega,trivial⟩,?_,?_,?_⟩
  ·rw [Cs.ZP,hgb];exact zb HJ _ _ _ _ (zb HJ2) ((ze.refl _ _).setCell (p:=⟨W.heap.size+1,0,none⟩) (.inl ⟨by simp,n1⟩) _)
  ·rw [Cs.ZP];exact ⟨(zF _ _ _ _ (by simp)).trans e1,yY _ _ _ e2,(zk _ _ _ _).trans g2⟩
  ·rintro k (h |h |h)
   ·rcases zb HS2 k h with h |h
    ·exact .inl ((h1 k).2 (.inl h))
    ·exact .inr h
   ·exact .inl ((h1 k).2 (.inr (.inl h)))
   ·exact .inl ((h1 k).2 (.inr (.inr h)))
  ·exact ((zb HO4).mono (fun k _ h=>(h1 k).2 (.inl h))).setCell (p:=⟨W.heap.size+1,0,none⟩) (.inl ((h1 _).2 (.inr (.inr rfl)))) _
  ·intro k hk;simp only [World.setCell,Array.size_modify];rcases hk with h |h |h
   ·exact hlt2 k h
   ·omega
   ·omega
 case done=>
  rintro D O V hDw hOD ⟨Oj,h1,h2,h3,h4,h5,h6,h7⟩ hK;have hb:=Cs.gE_lo l (zb HR).2;obtain ⟨fn,tmps,assign,body,hy,hR⟩:=YieldAt.anyN (m':=n-1) (zb HY (Cs.gE l).1 Oj ((Cs.gE l).2,1114111) V h4 (by rw [Cs.Wu];exact List.prefix_refl _));simp only [kZ] at hy;obtain ⟨c1,c2,f2⟩:=h5;have HE:=zc (Cs.Wu l);generalize hgb:(Cs.gE l).2=gb at *
  gi_wp2
  refine ⟨fun h=>by simp [Fence.wide] at h,RoundIn.mono hR ?_⟩;rintro e V2 ⟨rfl,O',hJ2,hs2,hO2,hlt2⟩;have HJ2:=zc hJ2;have hDV:D<V.heap.size:=(yK.1 hK).1;have hOjD:¬Oj D:=fun h=>hOD ((h1 D).2 (.inl h));have hK2:=(hO2.block D hDV hOjD).trans hK;have hnD:¬O' D:=fun h=>by
   rcases hs2 _ h with h |h
   ·exact hOjD h
   ·omega
  clear hJ2 hs2 hO2 hy hR
  gi_wp2
  refine ⟨by simp,.inl ⟨_,_,rfl,run_takeDeferred hK2,?_⟩⟩;refine ⟨_,results_none rfl _ _ _,⟨_,rfl⟩,O',?_⟩;rw [<-zb HE];exact zb HJ _ _ _ _ (zb HJ2) ((ze.refl _ _).putObj D _ (.inl ⟨by omega,hnD⟩))
end
section
open Go.RowKit
set_option maxHeartbeats 1000000
def yf (l:List (Int×Int)):List Value:=l.flatMap fun x=>[.int .i32 x.1,.int .i32 x.2]
theorem qm (m:List (Int×Int)):yf (l++m)=yf l++yf m:=by simp [yf]
theorem Xa:(yf l).length=l.length*2:=by
 induction l with
 |nil=>rfl
 |cons x l ih=>simp [yf] at ih ⊢;omega
theorem Zx:∀ (l:List (Int×Int)) (j:Nat) (p:Int×Int),l[j]?=some p->(yf l)[j*2]?=some (.int .i32 p.1)/\(yf l)[j*2+1]?=some (.int .i32 p.2)
 | [],j,p,h=>by simp at h
 |x :: l,0,p,h=>by simp at h;subst h;simp [yf]
 |x :: l,j+1,p,h=>by
  have:=Zx l j p (by simpa using h);rw [show (j+1)*2=j*2+2 by omega];simpa [yf] using this
theorem Tryz.infoSpan:(prog.info? 265).map (fun i=>(i.zero,i.size,i.bytes))=some (some (.agg #[.int .i32 0,.int .i32 0]),2,8):=by kernel_rfl
variable {base sv l}
theorem X6 (h:w.ownsRow base 265 2 sv l.length (yf l)):yu w (fun g=>sv.ownBlock=some g) sv l:=by
 have hl:=zh h;have hc:=@World.ownsRow.cells w base 265 2 sv l.length (yf l) h;rcases h.2 with ⟨rfl,h0⟩ |⟨g,cap,cur,rfl,hb,hg,hn,_⟩
 ·exact .inl ⟨rfl,qg h0⟩
 ·exact .inr ⟨g,cap,rfl,rfl,hn,(hl g rfl).2,fun j p hj=>by
   obtain ⟨h1,h2⟩:=Zx l j p hj;have e:∀ q,(⟨g,0,none⟩:Addr).add q=⟨g,q,none⟩:=fun q=>(by unfold Addr.add;split<;>simp_all);have k1:=hc (g:=g) rfl _ _ h1;have k2:=hc (g:=g) rfl _ _ h2;rw [e] at k1 k2;exact ⟨k1,k2⟩⟩
structure Grew (base:Nat)(w w':World)(sv sv':Value)(l':List (Int×Int)):Prop where
 row:w'.ownsRow base 265 2 sv' l'.length (yf l')
 only:ze (fun k=>sv.ownBlock=some k) w w'
 sep:∀ k,sv'.ownBlock=some k->sv.ownBlock=some k\/w.heap.size<=k
variable (base sv l)
theorem vV (a b:Int)(w:World)(h:w.ownsRow base 265 2 sv l.length (yf l))(hbase:base<=w.heap.size)(hl:l.length<=10000000) :
  Calls prog 193 #[sv,.int .i32 a,.int .i32 b] w fun e w'=>∃ sv',e = .returned sv'/\Grew base w w' sv sv' (l++if a<=b then [(a,b)] else []):=by
 obtain ⟨i0,hi,hz0,hz1,hz2⟩:=info_parts Tryz.infoSpan;obtain ⟨pa,pn,pc,rfl⟩:=zy h;have Hown:=zc h;clear h;by_cases hab:a<=b
 ·simp only [hab,if_true];have hd:decide (b<a)=false:=by simp;omega
  go_enter func193,ntmps193;go_wp2_with (at_builtin;refine xH _ rfl _ _ 159 rfl base 265 i0 (.agg #[.int .i32 0,.int .i32 0]) 2 8 underlying159 hi hz0 hz1 hz2 rfl (by decide) _ _ (yf l) rfl (xR (zb Hown) _) _ 1 1 [.int .i32 a,.int .i32 b] rfl rfl (cell_two_new _ _ _ _) (fun x hx=>by simp at hx;rcases hx with rfl |rfl<;>rfl) (by unfold maxLen;omega) (by omega) (by simp;omega) ?_;intro v' w4 hown' hgrow hsep;have HG:Hid (Grew base w w4 (.slice pa pn pc) v' (l++[(a,b)])):=⟨(by rw [yS,qm];exact hown'),((ze.refl _ _).alloc _).grown hgrow (fun k hk=>.inl hk),(fun k hk=>(hsep k hk).imp_right (fun h=>by simp at h;omega))⟩;clear hown' hgrow hsep);go_ret;exact ⟨_,rfl,zb HG⟩
 ·simp only [hab,if_false,kT];have hd:b<a:=by omega
  go_enter func193,ntmps193;go_wp2_with fail;go_ret;exact ⟨_,rfl,zb Hown,ze.refl _ _,fun k hk=>.inl hk⟩
set_option maxHeartbeats 2000000
set_option maxRecDepth 1000000
theorem kQ {g off:Nat}{c:Array Value}{e:TypeId}{fr:Nat×Nat}(u:Value)(h:w.heap[g]?=some (.cells c e fr)):(w.setCell ⟨g,off,none⟩ u).heap[g]?=some (.cells (c.setIfInBounds off u) e fr):=by
 rw [Go.Sort.setCell_eq];simp [Go.Sort.mapBlock,XN,h,Go.Sort.onCells]
theorem Xb {base g n cap size i:Nat}{e:TypeId}{xs:List Value}(h:w.ownsRow base e size (.slice (some ⟨g,0,none⟩) n cap) n xs)(u:Value):(w.setCell ⟨g,i,none⟩ u).ownsRow base e size (.slice (some ⟨g,0,none⟩) n cap) n (xs.set i u):=by
 rcases h.2 with ⟨h1,_⟩ |⟨g',cap',cur,h1,h2,h3,h4,h5,h6,h7⟩
 ·cases h1
 ·cases h1;exact ⟨by rw [ve];exact h.1,.inr ⟨g,cap,_,rfl,h2,kQ u h3,h4,h5,by simpa using h6,by rw [Array.toList_setIfInBounds,List.take_set,h7]⟩⟩
theorem KY (init:List (Int×Int))(l:Int×Int)(z:Int):(yf (init++[l])).set (init.length*2+1) (.int .i32 z)=yf (init++[(l.1,z)]):=by
 rw [qm,qm,Xz _ _ (by rw [Xa];omega),Xa,show init.length*2+1-init.length*2=1 by omega];simp [yf]
theorem Cs.jn_snoc:Cs.jn [] (l++[x])=Cs.jn1 (Cs.jn [] l) x:=by simp [Cs.jn]
theorem Cs.jn1_len:(Cs.jn1 acc x).length<=acc.length+1:=by
 rcases Cs.kK acc with rfl |⟨init,l,rfl⟩
 ·simp [Cs.jn1]
 ·by_cases hc:x.1<=l.2+1
  ·rw [Cs.XK hc];simp
  ·rw [Cs.XL hc];simp
variable {acc x}
theorem Cs.jn1_bd (h:∀ y∈acc,0<=y.2/\y.2<=1114111)(hx:0<=x.2/\x.2<=1114111):∀ y∈Cs.jn1 acc x,0<=y.2/\y.2<=1114111:=by
 rcases Cs.kK acc with rfl |⟨init,l,rfl⟩
 ·intro y hy;simp [Cs.jn1] at hy;subst hy;exact hx
 ·have hl:=h l (by simp);by_cases hc:x.1<=l.2+1
  ·rw [Cs.XK hc];intro y hy;rcases qe.1 hy with hy |hy
   ·exact h y (Yb _ hy)
   ·obtain rfl:=xf.1 hy;simp only;omega
  ·rw [Cs.XL hc];intro y hy;rcases qe.1 hy with hy |hy
   ·exact h y hy
   ·obtain rfl:=xf.1 hy;exact hx
theorem zar (n:Nat)(hn:W.heap.size=n)(x y:Value)(T:TypeId):∀ j u,[x,y][j]?=some u->(W.alloc (.cells #[x,y] T)).cell? ((⟨n,0,none⟩:Addr).add j)=some u:=by
 subst hn;exact cell_two_new _ _ _ _
theorem Wv (A:Nat->Prop)(w:World)(h:yu w A sv l)(hok:∀ x∈l,Cs.okS x)(hl:l.length<=10000000) :
  Calls prog 197 #[sv] w fun e w'=>∃ sv',e = .returned sv'/\w'.ownsRow w.heap.size 265 2 sv' (Cs.jn [] l).length (yf (Cs.jn [] l))/\Q8 w w':=by
 obtain ⟨i0,hi,hz0,hz1,hz2⟩:=info_parts Tryz.infoSpan;obtain ⟨pa,pn,pc,rfl⟩:∃ pa pn pc,sv = .slice pa pn pc:=by rcases h with ⟨h1,_⟩ |⟨g,cap,h1,_⟩<;>exact ⟨_,_,_,h1⟩
 have hpn:pn=l.length:=by rcases h with ⟨h1,h2⟩ |⟨g,cap,h1,_⟩<;>simp at h1<;>simp [*]
 subst hpn;have HC:Hid (l.length≠0->∃ g,pa=some ⟨g,0,none⟩/\l.length<=pc/\∀ (j:Nat) p,l[j]?=some p->w.cell? ⟨g,j*2,none⟩=some (.int .i32 p.1)/\w.cell? ⟨g,j*2+1,none⟩=some (.int .i32 p.2)):=by
  intro hne;rcases h with ⟨_,h2⟩ |⟨g,cap,h1,hA,h2,h3,h4⟩
  ·rw [h2] at hne;exact absurd rfl hne
  ·simp at h1;exact ⟨g,h1.1,by omega,h4⟩
 have HOK:=zc hok;clear h hok;go_enter func197,ntmps197;go_wp2_with fail;go_loopw [3,9] (fun vs vi wr=>∃ i:Nat,vi = .int .i64 i/\i<=l.length/\(Cs.jn [] (l.take i)).length<=i/\Hid (wr.ownsRow w.heap.size 265 2 vs (Cs.jn [] (l.take i)).length (yf (Cs.jn [] (l.take i))))/\Hid (∀ y∈Cs.jn [] (l.take i),0<=y.2/\y.2<=1114111)/\Hid (Q8 w wr)) (fun _ vi _=>l.length-(intOf vi).toNat)
 case atStart=>exact ⟨0,rfl,by omega,z8 _,qD _ _ _ _,(fun y hy=>by simp [Cs.jn] at hy),ze.refl _ _⟩
 case round=>
  obtain ⟨i,rfl,hil,hai,Hown,HB,HO⟩:=hrel;by_cases hlt:i<l.length
  ·obtain ⟨g,rfl,hpc,hcells⟩:=zb HC (by omega);have hget:l[i]?=some l[i]:=zD hlt;have hxk:=zb HOK l[i] (jG hlt);obtain ⟨d1,d2⟩:=hcells _ _ hget;have c1:=zg (zb HO) _ _ d1 (fun f=>f);have c2:=zg (zb HO) _ _ d2 (fun f=>f);clear d1 d2 hcells hget;have HT:Hid (Cs.jn [] (l.take (i+1))=Cs.jn1 (Cs.jn [] (l.take i)) l[i]):=(by rw [<-kY l i hlt,Cs.jn_snoc];rfl);generalize l[i]=x at *;generalize Cs.jn [] (l.take i)=acc at *;obtain ⟨xa,xb⟩:=x;unfold Cs.okS at hxk;simp only [] at hxk c1 c2;have HL:=zc (Cs.jn1_len acc (xa,xb));have HB2:=zc (Cs.jn1_bd (x:=(xa,xb)) (zb HB) ⟨by simp only;omega,hxk.2.2⟩);have HNA:=zc ((ze.refl (fun _=>False) wr).alloc (.cells #[.int .i32 xa,.int .i32 xb] 265));obtain ⟨sa,sn,sc,rfl⟩:=zy (zb Hown);rcases Cs.kK acc with rfl |⟨init,y,rfl⟩
   ·have hs0:sn=0:=(by rcases (zb Hown).2 with ⟨h1,_⟩ |⟨g',cap',cur,h1,_⟩<;>cases h1<;>rfl);subst hs0;rw [Cs.zaV] at HT HL HB2;go_wp2_with fail;go_big_quiet (fail);go_wp2_with (at_builtin;refine zb ?_);refine zc ?_;refine xH _ rfl _ _ 159 rfl w.heap.size 265 i0 (.agg #[.int .i32 0,.int .i32 0]) 2 8 underlying159 hi hz0 hz1 hz2 rfl (by decide) _ _ (yf []) rfl (zn (zb Hown) ((((ze.refl (fun _=>False) wr).alloc _).drewN _).alloc _) (fun _ _ f=>f)) ⟨wr.heap.size+1,0,none⟩ 1 1 [.int .i32 xa,.int .i32 xb] rfl rfl (zar _ (wr.heap.size+1) (by simp) _ _ _) (fun x hx=>by simp at hx;rcases hx with rfl |rfl<;>rfl) (by unfold maxLen;simp<;>omega) (by simp<;>omega) (by simp;have:=(zb HO).size;omega) ?_;intro v' w4 hown' hgrow hsep;have HR:Hid (w4.ownsRow w.heap.size 265 2 v' ([]++[(xa,xb)]).length (yf ([]++[(xa,xb)]))):=by
     show World.ownsRow _ _ _ _ _ _ _;rw [yS,qm];exact hown'
    have HO4:Hid (Q8 w w4):=((((zb HO).alloc _).drewN _).alloc _).grown hgrow (fun k hk=>.inr (zh (zb Hown) k hk).1);clear hown' hgrow hsep;go_wp2_with fail;go_roundw
    case rel=>exact ⟨i+1,by go_num,by omega,(by rw [zb HT];have:=zb HL;skip;omega),(by rw [zb HT];skip;exact zb HR),(by rw [zb HT];exact zb HB2),zb HO4⟩
    case measure=>simp [intOf];omega
   ·have hs1:sn=init.length+1:=(by rcases (zb Hown).2 with ⟨h1,h0⟩ |⟨g',cap',cur,h1,_⟩<;>cases h1<;>simp_all);subst hs1;have Hown2:Hid (wr.ownsRow w.heap.size 265 2 (.slice sa (init.length+1) sc) (init.length+1) (yf (init++[y]))):=(by have h9:=zb Hown;rw [yS] at h9;exact h9);clear Hown;have Hown:=Hown2;clear Hown2;have hy2:=zb HB y (by simp);have hwy:wrap32 (y.2+1)=y.2+1:=(by unfold wrap32;omega);obtain ⟨g2,rfl⟩:∃ g2,sa=some ⟨g2,0,none⟩:=by
     rcases (zb Hown).2 with ⟨h1,h0⟩ |⟨g',cap',cur,h1,_⟩
     ·cases h1
     ·cases h1;exact ⟨_,rfl⟩
    have hrow:=X6 (l:=init++[y]) (by rw [yS];exact zb Hown);obtain ⟨k1,k2⟩:wr.cell? ⟨g2,init.length*2+1,none⟩=some (.int .i32 y.2)/\g2<wr.heap.size:=by
     rcases hrow with ⟨h1,_⟩ |⟨g3,cap3,h1,_,_,h3,h4⟩
     ·simp at h1
     ·simp at h1;rw [<-h1.1] at h3 h4;exact ⟨(h4 init.length y (by simp)).2,h3⟩
    have m1:=(zb HNA).cell (p:=⟨g2,init.length*2+1,none⟩) k2 (fun f=>f);rw [k1] at m1;have f1:(wr.alloc (.cells #[.int .i32 xa,.int .i32 xb] 265)).frozen? ⟨g2,init.length*2+1,none⟩=false:=by
     rw [(zb HNA).frozen (p:=⟨g2,init.length*2+1,none⟩) k2 (fun f=>f)];rcases (zb Hown).2 with ⟨h1,h0⟩ |⟨g',cap',cur,h1,_,h3,_⟩
     ·cases h1
     ·cases h1;simp [World.frozen?,h3]
    have ha1:init.length+1<=i:=(by simpa using hai);have hcap:init.length+1<=sc:=by
     rcases (zb Hown).2 with ⟨h1,h0⟩ |⟨g',cap',cur,h1,_,_,h4,_⟩
     ·cases h1
     ·cases h1;simpa using h4
    clear hrow;by_cases hc:xa<=y.2+1
    ·go_wp2_with fail;go_big_quiet (fail);have HQ:=zc ((zb HO).trans ((zb HNA).drewN nq));go_wp2_with fail;go_region;have hmx:max y.2 xb=if y.2<xb then xb else y.2:=by split<;>omega
     have HW9:=zc (Xb (i:=init.length*2+1) (zn (zb Hown) ((zb HNA).drewN (nq+1)) (fun _ _ f=>f)) (.int .i32 (max y.2 xb)));rw [KY] at HW9;have HQ9:=zc (((zb HO).trans ((zb HNA).drewN (nq+1))).setCell (p:=⟨g2,init.length*2+1,none⟩) (.inr (zh (zb Hown) g2 rfl).1) (.int .i32 (max y.2 xb)));have HJ9:Hid (Cs.jn1 (init++[y]) (xa,xb)=init++[(y.1,max y.2 xb)]):=Cs.XK (by simpa using hc);have HL9:Hid ((Cs.jn1 (init++[y]) (xa,xb)).length<=i+1):=(by rw [zb HJ9];show _<=_;simp;omega);have HR9:Hid ((((wr.alloc (.cells #[.int .i32 xa,.int .i32 xb] 265)).drewN (nq+1)).setCell ⟨g2,init.length*2+1,none⟩ (.int .i32 (max y.2 xb))).ownsRow w.heap.size 265 2 (.slice (some ⟨g2,0,none⟩) (init.length+1) sc) (Cs.jn1 (init++[y]) (xa,xb)).length (yf (Cs.jn1 (init++[y]) (xa,xb)))):=by
      show World.ownsRow _ _ _ _ _ _ _;rw [zb HJ9,yS];exact zb HW9
     clear HW9 HJ9;have HQ8:=HQ9;have HR8:=HR9;rw [hmx] at HQ9 HR9;clear hmx;go_wp2_with fail;go_roundw
     case rel=>exact ⟨i+1,by go_num,by omega,(by rw [zb HT];exact zb HL9),(by rw [zb HT];first |exact zb HR9 |exact zb HR8),(by rw [zb HT];exact zb HB2),(by first |exact zb HQ9 |exact zb HQ8)⟩
     case measure=>simp [intOf];omega
    ·have hcd:decide (xa<=y.2+1)=false:=(by simp;omega);go_wp2_with fail;go_big_quiet (fail);go_wp2_with (at_builtin;refine zb ?_);refine zc ?_;refine xH _ rfl _ _ 159 rfl w.heap.size 265 i0 (.agg #[.int .i32 0,.int .i32 0]) 2 8 underlying159 hi hz0 hz1 hz2 rfl (by decide) _ _ (yf (init++[y])) rfl (zn (zb Hown) ((((ze.refl (fun _=>False) wr).alloc _).drewN _).alloc _) (fun _ _ f=>f)) ⟨wr.heap.size+1,0,none⟩ 1 1 [.int .i32 xa,.int .i32 xb] rfl rfl (zar _ (wr.heap.size+1) (by simp) _ _ _) (fun x hx=>by simp at hx;rcases hx with rfl |rfl<;>rfl) (by unfold maxLen;simp<;>omega) (by omega) (by simp;have:=(zb HO).size;omega) ?_;intro v' w4 hown' hgrow hsep;have HR:Hid (w4.ownsRow w.heap.size 265 2 v' ((init++[y])++[(xa,xb)]).length (yf ((init++[y])++[(xa,xb)]))):=by
      show World.ownsRow _ _ _ _ _ _ _;rw [yS,qm,yS];exact hown'
     have HO4:Hid (Q8 w w4):=((((zb HO).alloc _).drewN _).alloc _).grown hgrow (fun k hk=>.inr (zh (zb Hown) k hk).1);clear hown' hgrow hsep;go_wp2_with fail;go_roundw
     case rel=>exact ⟨i+1,by go_num,by omega,(by rw [zb HT];have:=zb HL;skip;omega),(by rw [zb HT];rw [Cs.XL (by simp only;omega)];exact zb HR),(by rw [zb HT];exact zb HB2),zb HO4⟩
     case measure=>simp [intOf];omega
  ·go_wp2_with fail;go_ret;obtain rfl:i=l.length:=(by omega);rw [ZA] at Hown;exact ⟨_,rfl,zb Hown,zb HO⟩
end
section
open Go.RowKit Go.Shelf Go.Lib Go.Sort
set_option maxHeartbeats 1000000
theorem KZ (x y:Int)(w:World):Calls prog 196 #[.int .i32 x,.int .i32 y] w fun e w'=>e = .returned (.int .i64 (Lib.compareInt x y))/\w'=w:=by
 unfold Lib.compareInt;by_cases h1:x<y
 ·simp only [h1,if_true];go_enter func196,ntmps196;go_wp2_with (go_at_call 228;refine (Za _ _).mono ?_;rintro e w' ⟨rfl,rfl⟩);go_ret;exact ⟨rfl,rfl⟩
 ·by_cases h2:y<x
  ·simp only [h1,h2,if_true,if_false];go_enter func196,ntmps196;go_wp2_with (go_at_call 228;refine (Za _ _).mono ?_;rintro e w' ⟨rfl,rfl⟩);go_ret;exact ⟨rfl,rfl⟩
  ·simp only [h1,h2,if_false];go_enter func196,ntmps196;go_wp2_with (go_at_call 228;refine (Za _ _).mono ?_;rintro e w' ⟨rfl,rfl⟩);go_ret;exact ⟨rfl,rfl⟩
def encL (x:Int×Int):List Value:=[.int .i32 x.1,.int .i32 x.2]
def cmpF (x y:Int×Int):Int:=Lib.compareInt x.1 y.1
theorem wR:ltOf cmpF x y=decide (x.1<y.1):=by
 unfold ltOf cmpF Lib.compareInt;by_cases h1:x.1<y.1
 ·simp [h1]
 ·by_cases h2:y.1<x.1<;>simp [h1,h2]
theorem swo_cmpF:SWO (ltOf cmpF) where
 irrefl x:=by rw [wR];simp
 trans x y z h1 h2:=by rw [wR] at *;simp at *;omega
 ntrans x y z h1 h2:=by rw [wR] at *;simp at *;omega
theorem zbD:Calls prog 195 #[.agg #[.int .i32 x.1,.int .i32 x.2],.agg #[.int .i32 y.1,.int .i32 y.2]] W fun e w'=>e = .returned (.int .i64 (cmpF x y))/\∃ q os',w'=grow (W.drewN q) os':=by
 have hcon:=fun W'=>KZ x.1 y.1 W';unfold cmpF;generalize Lib.compareInt x.1 y.1=r at hcon ⊢;go_enter func195,ntmps195;go_wp2_with (go_at_call 196;refine (hcon _).mono ?_;rintro e w' ⟨rfl,rfl⟩);go_ret;exact ⟨rfl,0,_,by rw [alloc_eq_grow,alloc_eq_grow,grow_grow];rfl⟩
theorem Ww {blk n:Nat}{d:Array (Int×Int)}{os:Array Obj}(_hblk:blk<w.heap.size):ze (zt blk) w (sortWorldK encL 2 w blk 0 n d os):=by
 refine ⟨rfl,rfl,rfl,size_sortWorldK_c encL 2 w blk 0 n d os,fun k hk hn=>?_⟩;have hne:k≠blk:=hn;unfold sortWorldK grow putRowK putRow mapBlock Sort.ahead;simp only [Array.getElem?_append,Array.size_modify,hk,if_true,XN,Ne.symm hne,if_false]
theorem Wx (g cap:Nat)(l:List (Int×Int))(w:World)(h:w.ownsRow base 265 2 (.slice (some ⟨g,0,none⟩) l.length cap) l.length (yf l))(hl:l.length<=10000000) :
  Calls prog 194 #[.slice (some ⟨g,0,none⟩) l.length cap,.func (.func 195) #[] #[]] w fun e w'=>e = .returned (.tuple #[])/\∃ l',l'.Perm l/\l'.Pairwise (fun x y=>x.1<=y.1)/\yu w' (zt g) (.slice (some ⟨g,0,none⟩) l.length cap) l'/\ze (zt g) w w':=by
 have eg:∀ args w,(callFunc 195 args).run prog w = .ok (.enter 195 args) w:=enters_of func195 (by kernel_rfl) rfl;have hg:=(zh h g rfl).2;have hrow:=X6 h;have hfr:∀ t,w.frozen? ⟨g,t,none⟩=false:=fun t=>by
  rcases h.2 with ⟨h1,_⟩ |⟨g',cap',cur,h1,_,h3,_⟩
  ·cases h1
  ·cases h1;simp [World.frozen?,h3]
 obtain ⟨hcap,hcell⟩:l.length<=cap/\∀ (j:Nat) p,l[j]?=some p->w.cell? ⟨g,j*2,none⟩=some (.int .i32 p.1)/\w.cell? ⟨g,j*2+1,none⟩=some (.int .i32 p.2):=by
  rcases hrow with ⟨h1,_⟩ |⟨g3,cap3,h1,_,h2,h3,h4⟩
  ·cases h1
  ·simp at h1;obtain ⟨rfl,rfl⟩:=h1;exact ⟨h2,h4⟩
 have hH:HoldsK encL 2 w g 0 l.toArray:=by
  intro t ht;rw [size_flatK] at ht;rw [get_flatK _ _ _ _ ht];have hq:t / 2<l.length:=by simp at ht;omega
  have hget:l[t / 2]?=some l[t / 2]:=zD hq;have hd:l.toArray[t / 2]! = l[t / 2]:=by simp [hq]
  obtain ⟨c1,c2⟩:=hcell _ _ hget;refine ⟨?_,hfr _⟩;rw [hd,jY];rcases Nat.mod_two_eq_zero_or_one t with e |e
  ·rw [show t / 2*2=t by omega] at c1;rw [e];exact c1
  ·rw [show t / 2*2+1=t by omega] at c2;rw [e];exact c2
 have hcon:=AnyQ.slices_SortFunc wK 2 Tryz.isAgg265 Tryz.sizeOf265 encL (fun _=>rfl) (fun x v hv=>by simp [encL] at hv;rcases hv with rfl |rfl<;>rfl) cmpF swo_cmpF 195 #[] g 0 cap l.toArray w eg (fun _ _ _ _ x y=>zbD x y _) hH hg (by simp;omega);refine Calls.mono hcon ?_;rintro e w' ⟨rfl,d',n,os,hp,hs,rfl⟩;refine ⟨rfl,d'.toList,?_,?_,?_,Ww hg⟩
 ·have h1:=hp.2.2;have h2:=hp.1;have e1:(d'.extract 0 l.toArray.size).toList=d'.toList:=by rw [<-h2];simp
  have e2:(l.toArray.extract 0 l.toArray.size).toList=l:=by simp
  rw [e1,e2] at h1;exact h1
 ·rw [Zs];intro i j hi hj hij;have hsz:=hp.1;have hi':i<d'.size:=by simpa using hi
  have hj':j<d'.size:=by simpa using hj
  have:=hs i j (Nat.zero_le _) hij (by omega);rw [wR,getElem!_pos d' i hi',getElem!_pos d' j hj'] at this;simp at this;simpa using this
 ·have hsz:d'.toList.length=l.length:=by have:=hp.1;simpa using this
  have hH':=holdsK_sortWorldK_c encL 2 w g 0 l.toArray d' n os hH hg hp.1;refine .inr ⟨g,cap,by rw [hsz],rfl,by omega,yh hg (size_sortWorldK_c encL 2 w g 0 n d' os),fun j p hj=>?_⟩;have hjl:j<d'.size:=by have:=(yd.1 hj).1;simpa using this
  have hd:d'[j]! = p:=by
   obtain ⟨h1,h2⟩:=yd.1 hj;rw [getElem!_pos d' j hjl];simpa using h2
  have k1:=(hH' (j*2) (by rw [size_flatK];omega)).1;have k2:=(hH' (j*2+1) (by rw [size_flatK];omega)).1;rw [get_flatK _ _ _ _ (by omega),jY,show j*2 / 2=j by omega,show j*2 % 2=0 by omega,hd] at k1;rw [get_flatK _ _ _ _ (by omega),jY,show (j*2+1) / 2=j by omega,show (j*2+1) % 2=1 by omega,hd] at k2;exact ⟨k1,k2⟩
end
section
open Go.RowKit Go.Shelf
set_option maxHeartbeats 4000000
set_option maxRecDepth 1000000
attribute [local go_sem] Oper.semAt_some
theorem SeqO.later {α:Type}{F:Fence}{n:Nat}{P:Program}{gf:Nat}{lb:Array Value}{encs:α->Array Value}{xs:List α}{D:Nat->Prop}{w w1:World}(h:SeqO F n P gf lb encs xs D w)(o:Q8 w w1):SeqO F n P gf lb encs xs D w1:=
 fun l J O0 W hO=>h l J O0 W (o.trans hO)
theorem Tryz.infoSet:(prog.info? 161).map (·.size)=some 1:=by kernel_rfl
def OfI (w:World)(pre:List (Int×Int))(O:Nat->Prop)(X:World):Prop:=
 ∃ sv,X.cell? ⟨w.heap.size,0,none⟩=some sv/\X.frozen? ⟨w.heap.size,0,none⟩=false/\X.ownsRow (w.heap.size+1) 265 2 sv (Cs.spl pre).length (yf (Cs.spl pre))/\(∀ k,O k↔k=w.heap.size\/sv.ownBlock=some k)/\Q8 w X/\w.heap.size+1<=X.heap.size
theorem OfI.keep {O:Nat->Prop}{X X':World}(h:OfI w pre O X)(k:ze (fun k=>w.heap.size+1<=k/\¬O k) X X'):OfI w pre O X':=by
 obtain ⟨sv,h1,h2,h3,h4,h5,h6⟩:=h;have hn:¬(w.heap.size+1<=w.heap.size/\¬O w.heap.size):=fun h=>by omega
 exact ⟨sv,(k.cell (p:=⟨w.heap.size,0,none⟩) (by show _<_;simp only;omega) hn).trans h1,(k.frozen (p:=⟨w.heap.size,0,none⟩) (by show _<_;simp only;omega) hn).trans h2,zn h3 k (fun g hg hp=>hp.2 ((h4 g).2 (.inr hg))),h4,
  ⟨k.os.trans h5.os,k.tape.trans h5.tape,k.output.trans h5.output,yZ h5.size k.size,fun j hj _=>(k.block j (by omega) (fun hp=>by omega)).trans (h5.block j hj (fun f=>f))⟩,yZ h6 k.size⟩
structure OfS (wA V0:World)(O:Nat->Prop)(X:World)(sv:Value)(l:List (Int×Int)):Prop where
 cell:X.cell? ⟨wA.heap.size,0,none⟩=some sv
 frozen:X.frozen? ⟨wA.heap.size,0,none⟩=false
 row:X.ownsRow (wA.heap.size+1) 265 2 sv l.length (yf l)
 onlyA:Q8 wA X
 onlyO:ze O V0 X
 sep:∀ k,sv.ownBlock=some k->O k\/V0.heap.size<=k
 size:wA.heap.size+1<=X.heap.size
theorem OfS.grow {wA V0 X X1:World}{O:Nat->Prop}{sv sv1:Value}{l l1:List (Int×Int)}(h:OfS wA V0 O X sv l)(hO:O wA.heap.size)(g:Grew (wA.heap.size+1) X X1 sv sv1 l1):OfS wA V0 O (X1.setCell ⟨wA.heap.size,0,none⟩ sv1) sv1 l1:=by
 have hb:sv.ownBlock≠some wA.heap.size:=fun e=>by have:=(zh h.row _ e).1;omega
 have hlt:wA.heap.size<X.heap.size:=by have:=h.size;omega
 have c1:=(g.only.cell (p:=⟨wA.heap.size,0,none⟩) hlt hb).trans h.cell;refine ⟨yY _ _ _ c1,(zk _ _ _ _).trans ((g.only.frozen (p:=⟨wA.heap.size,0,none⟩) hlt hb).trans h.frozen),?_,?_,?_,?_,?_⟩
 ·exact zn g.row ((ze.refl (fun k=>k=wA.heap.size) X1).setCell (p:=⟨wA.heap.size,0,none⟩) (.inl rfl) _) (fun k hk e=>by have:=(zh g.row _ hk).1;omega)
 ·have o1:Q8 wA X1:=⟨g.only.os.trans h.onlyA.os,g.only.tape.trans h.onlyA.tape,g.only.output.trans h.onlyA.output,yZ h.onlyA.size g.only.size,fun j hj _=>(g.only.block j (yh hj h.onlyA.size) (fun e=>by have:=(zh h.row _ e).1;omega)).trans (h.onlyA.block j hj (fun f=>f))⟩
  exact o1.setCell (p:=⟨wA.heap.size,0,none⟩) (.inr (z8 _)) _
 ·have o2:ze O V0 X1:=⟨g.only.os.trans h.onlyO.os,g.only.tape.trans h.onlyO.tape,g.only.output.trans h.onlyO.output,yZ h.onlyO.size g.only.size,fun j hj hn=>(g.only.block j (yh hj h.onlyO.size) (fun e=>by
   rcases h.sep _ e with h1 |h1
   ·exact hn h1
   ·omega)).trans (h.onlyO.block j hj hn)⟩
  exact o2.setCell (p:=⟨wA.heap.size,0,none⟩) (.inl hO) _
 ·intro k hk;rcases g.sep k hk with h1 |h1
  ·exact h.sep k h1
  ·exact .inr (yZ h.onlyO.size h1)
 ·have:=g.only.size;have:=h.size;simp [World.setCell];omega
theorem Cs.spl_snoc:Cs.spl (l++[x])=(Cs.spl l++Cs.clip 0 55295 x)++Cs.clip 57344 1114111 x:=by simp [Cs.spl,Cs.VQ]
theorem Cs.clip_len (lo hi:Int)(x:Int×Int):(Cs.clip lo hi x).length<=1:=by unfold Cs.clip;split<;>simp
theorem Cs.spl_len:(Cs.spl l).length<=2*l.length:=by
 refine ZO (P:=fun l=>(Cs.spl l).length<=2*l.length) (by simp [Cs.spl]) (fun l x ih=>?_) l;have h1:=Cs.clip_len 0 55295 x;have h2:=Cs.clip_len 57344 1114111 x;rw [Cs.spl_snoc];simp only [yS,jq];omega
theorem Wy (w:World)(h:w.ownsRow base 265 2 sv l.length (yf l))(hl:l.length<=10000000) :
  Calls prog 194 #[sv,.func (.func 195) #[] #[]] w fun e w'=>e = .returned (.tuple #[])/\∃ l',l'.Perm l/\l'.Pairwise (fun x y=>x.1<=y.1)/\yu w' (fun g=>sv.ownBlock=some g) sv l'/\ze (fun k=>sv.ownBlock=some k) w w':=by
 rcases h.2 with ⟨rfl,h0⟩ |⟨g,cap,cur,rfl,_⟩
 ·have hln:l=[]:=qg h0;subst hln;refine (AnyF.slices_SortFunc_none wK none 0 _ w).mono ?_;rintro e w' ⟨rfl,rfl⟩;exact ⟨rfl,[],List.Perm.refl _,List.Pairwise.nil,.inl ⟨rfl,rfl⟩,ze.refl _ _⟩
 ·refine (Wx base g cap l w h hl).mono ?_;rintro e w' ⟨rfl,l',h1,h2,h3,h4⟩;exact ⟨rfl,l',h1,h2,h3.mono (fun k _ hk=>by unfold zt at hk;subst hk;rfl),h4.mono (fun k _ hk=>by unfold zt at hk;subst hk;rfl)⟩
theorem Wz (gf:Nat)(lb:Array Value)(xs:List (Int×Int))(D:Nat->Prop)(w:World)(eg:∀ args w,(callFunc gf args).run prog w = .ok (.enter gf args) w)(hseq:SeqO Fence.wide 8 prog gf lb kZ xs D w)(hD:∀ k,D k->k<w.heap.size)(hl:xs.length<=2000000) :
  Calls prog 166 #[.func (.func gf) #[] lb] w fun e w'=>∃ v,e = .returned v/\yQ w' (fun g=>w.heap.size<=g) v (fun c=>Cs.isCh c && Eqv.inSp xs c)/\Q8 w w':=by
 have HSeq:=zc hseq;have HD:=zc hD;clear hseq hD;refine (callsIn_wide (n:=9)).1 ?_;refine callsIn_of_wp_marks func166 rfl trivial ?_ rfl;simp only [ntmps166,jZ,qH,jU,Nat.reduceAdd,Nat.reduceSub,wO,wl,Z1,Zr,kB,jS]
 gi_wp2
 obtain ⟨wA,hwA⟩:∃ wA,wA=w.alloc (.cells #[.slice none 0 0] 161):=⟨_,rfl⟩
 rw [<-hwA];have hsA:wA.heap.size=w.heap.size+1:=by rw [hwA];simp
 have HOA:Hid (Q8 w wA):=by rw [hwA];exact (ze.refl _ _).alloc _
 have HRB:Hid (wA.heap[w.heap.size]?=some (.cells #[.slice none 0 0] 161 (0,0))):=by rw [hwA];exact World.alloc_heap_new w _
 clear hwA;rw [<-hsA];have hsA1:w.heap.size+1<=wA.heap.size:=by omega
 have hsA2:wA.heap.size<=w.heap.size+1:=by omega
 clear hsA;have HO1:Hid (Q8 wA (wA.alloc (.cells #[.slice none 0 0] 159))):=(ze.refl _ _).alloc _;have hsz:(wA.alloc (.cells #[.slice none 0 0] 159)).heap.size=wA.heap.size+1:=by simp
 have HI0:Hid (OfI wA [] (fun k=>k=wA.heap.size) (wA.alloc (.cells #[.slice none 0 0] 159))):=⟨.slice none 0 0,zm wA _ rfl _ _ 0 _ rfl,zG wA _ rfl _ _ 0,qD _ _ _ _,(fun k=>by simp [Value.ownBlock]),zb HO1,by omega⟩
 generalize wA.alloc (.cells #[.slice none 0 0] 159)=w1 at *;refine vT (F:=Fence.wide) rfl (by omega) (gf:=gf) (lb:=lb) rfl trivial eg
  ((zb HSeq).later ((zb HOA).trans (zb HO1))) (fun _=>rfl) (OfI wA) (fun k=>k=wA.heap.size) (fun k hk=>by omega) (fun k hk=>by have:=zb HD k hk;exact ⟨by omega,by omega⟩) (fun pre O X X' h k=>h.keep (k.mono (fun j _ hp=>⟨by have:=hp.1;omega,hp.2⟩))) (zb HI0)
  (fun x=>{ tmps:=#[.func (.func gf) #[] lb,undef,.pointer (some ⟨w.heap.size,0,none⟩),.pointer (some ⟨wA.heap.size,0,none⟩),.int .i32 x.1,.int .i32 x.2,.func (.func gf) #[] lb,.int .i32 x.1,.int .i32 x.2,undef,undef,undef,undef,undef,undef,undef,undef,undef,undef,undef,undef,undef,undef,undef,undef,undef],defers:=[] }) ?assign ?body ?done
 case assign=>
  intro l x W K hK;unfold kZ
  gi_wp2
  exact hK
 case body=>
  rintro l pre O x V hl2 hOl ⟨r,hr⟩ ⟨sv,h1,h2,h3,h4,h5,h6⟩ hpre;obtain ⟨pa,pn,pc,rfl⟩:=zy h3;have hpl:(Cs.spl pre).length<=4000000:=by have:=Cs.spl_len pre;have h9:=hpre.length_le;simp at h9;omega
  have H3:=zc h3;clear h3;obtain ⟨xa,xb⟩:=x;simp only [];have S0:OfS wA V O V (.slice pa pn pc) (Cs.spl pre):=⟨h1,h2,zb H3,h5,ze.refl _ _,(fun k hk=>.inl ((h4 k).2 (.inr hk))),h6⟩
  have hOw:O wA.heap.size:=(h4 _).2 (.inl rfl);have HS0:=zc S0;clear S0;have c1:=Cs.clip_len 0 55295 (xa,xb);have c2:=Cs.clip_len 57344 1114111 (xa,xb)
  gi_wp2
  refine ⟨trivial,(CallsIn.inRound l (callsIn_wide.2 (vV (wA.heap.size+1) (.slice pa pn pc) (Cs.spl pre) (max xa 0) (min xb 55295) V (zb H3) h6 (by omega)))).mono ?_⟩;rintro e V1 ⟨sv1,rfl,hG1⟩;obtain ⟨pa1,pn1,pc1,rfl⟩:=zy hG1.row;have hG1':Grew (wA.heap.size+1) V V1 (.slice pa pn pc) (.slice pa1 pn1 pc1) (Cs.spl pre++Cs.clip 0 55295 (xa,xb)):=hG1;have S1:=(zb HS0).grow hOw hG1';have k1:=S1.cell;have k2:=S1.frozen;have HS1:=zc S1;have m1:=(hG1.only.cell (p:=⟨wA.heap.size,0,none⟩) (zE V _ h1) (fun e=>by have:=(zh (zb H3) _ e).1;simp at this;omega)).trans h1;have m2:=(hG1.only.frozen (p:=⟨wA.heap.size,0,none⟩) (zE V _ h1) (fun e=>by have:=(zh (zb H3) _ e).1;simp at this;omega)).trans h2;clear hG1 hG1' S1
  gi_wp2
  have hw1:=(zb HS1).size;refine ⟨trivial,(CallsIn.inRound l (callsIn_wide.2 (vV (wA.heap.size+1) (.slice pa1 pn1 pc1) _ (max xa 57344) (min xb 1114111) _ (zb HS1).row hw1 (by simp only [yS];omega)))).mono ?_⟩;rintro e V2 ⟨sv2,rfl,hG2⟩;obtain ⟨pa2,pn2,pc2,rfl⟩:=zy hG2.row;have hG2':Grew (wA.heap.size+1) (V1.setCell ⟨wA.heap.size,0,none⟩ (.slice pa1 pn1 pc1)) V2 (.slice pa1 pn1 pc1) (.slice pa2 pn2 pc2) (Cs.spl (pre++[(xa,xb)])):=by rw [Cs.spl_snoc];exact hG2
  have S2:=(zb HS1).grow hOw hG2';have HS2:=zc S2;have hb1:(Value.slice pa1 pn1 pc1).ownBlock≠some wA.heap.size:=fun e=>by have:=(zh (zb HS1).row _ e).1;omega
  have n1:=(hG2.only.cell (p:=⟨wA.heap.size,0,none⟩) (zE _ _ k1) hb1).trans k1;have n2:=(hG2.only.frozen (p:=⟨wA.heap.size,0,none⟩) (zE _ _ k1) hb1).trans k2;clear hG2 hG2' S2
  gi_wp2
  refine ⟨fun k=>k=wA.heap.size\/(Value.slice pa2 pn2 pc2).ownBlock=some k,⟨_,(zb HS2).cell,(zb HS2).frozen,(zb HS2).row,fun _=>Iff.rfl,(zb HS2).onlyA,(zb HS2).size⟩,?_,(zb HS2).onlyO,?_⟩
  ·rintro k (h |h)
   ·exact .inl (by rw [h];exact hOw)
   ·exact (zb HS2).sep k h
  ·rintro k (h |h)
   ·have:=(zb HS2).size;omega
   ·exact (zh (zb HS2).row k h).2
 case done=>
  rintro Dm O V hDw hOD ⟨sv,h1,h2,h3,h4,h5,h6⟩ hK;obtain ⟨pa,pn,pc,rfl⟩:=zy h3;have hpl:(Cs.spl xs).length<=4000000:=by have:=Cs.spl_len xs;omega
  have HSo:=zc (Wy _ _ _ V h3 (by omega));have H3:=zc h3;clear h3
  gi_wp2_with (refine ⟨trivial,?_⟩;gi_at_call 194;refine (callsIn_wide.2 (zb HSo)).mono ?_;rintro e V1 ⟨rfl,l',hp,hs,hr1,hO1⟩;have hbx:(Value.slice pa pn pc).ownBlock≠some wA.heap.size:=(fun e=>by have:=(zh (zb H3) _ e).1;omega);have m1:=(hO1.cell (p:=⟨wA.heap.size,0,none⟩) (zE _ _ h1) hbx).trans h1;have HOF:=zc (Cs.of_ok hp hs);have HJo:=zc (Wv _ l' _ V1 hr1 (fun x hx=>Cs.spl_ok xs x (hp.mem_iff.1 hx)) (by have:=hp.length_eq;omega));have HO1:=zc hO1;clear hr1 hO1 hp hs)
  refine ⟨trivial,(callsIn_wide.2 (zb HJo)).mono ?_⟩;rintro e V2 ⟨sv2,rfl,hr2,hO2⟩;obtain ⟨pa2,pn2,pc2,rfl⟩:=zy hr2;have hbw:(Value.slice pa pn pc).ownBlock≠some w.heap.size:=fun e=>by have:=(zh (zb H3) _ e).1;omega
  have q1:=(h5.block w.heap.size (by omega) (fun f=>f)).trans (zb HRB);have hVw:w.heap.size<V.heap.size:=by have:=h5.size;omega
  have p1:=((zb HO1).block w.heap.size hVw hbw).trans q1;have hV1w:w.heap.size<V1.heap.size:=by have:=(zb HO1).size;omega
  have HR9:=zc ((hO2.block w.heap.size hV1w (fun f=>f)).trans p1);have r1:V2.cell? ⟨w.heap.size,0,none⟩=some (.slice none 0 0):=by unfold World.cell?;rw [zb HR9];rfl
  have r2:V2.frozen? ⟨w.heap.size,0,none⟩=false:=by unfold World.frozen?;rw [zb HR9];rfl
  clear q1 p1;have hKV:Dm<V.heap.size:=(yK.1 hK).1;have hK1:=((zb HO1).block Dm hKV (fun e=>hOD ((h4 Dm).2 (.inr e)))).trans hK;have hK2:=(hO2.block Dm (yh hKV (zb HO1).size) (fun f=>f)).trans hK1;have hDA:wA.heap.size<=Dm:=by omega
  have hw1s:=(zb HO1).size;have HOV:Hid (Q8 wA V2):=ze.trans ⟨(zb HO1).os.trans h5.os,(zb HO1).tape.trans h5.tape,(zb HO1).output.trans h5.output,yZ h5.size (zb HO1).size,fun j hj _=>((zb HO1).block j (yh hj h5.size) (fun e=>by have:=(zh (zb H3) _ e).1;omega)).trans (h5.block j hj (fun f=>f))⟩ hO2;have hr2b:=fun g=>zh hr2 g;have HR2:=zc (X6 hr2);have hr2':=zc hr2;clear hr2 hO2
  gi_wp2
  have hb9:=kQ (off:=0) (.slice pa2 pn2 pc2) (zb HR9);have hne:Dm≠w.heap.size:=by omega
  have hK3:=(((ze.refl (fun k=>k=w.heap.size) V2).setCell (p:=⟨w.heap.size,0,none⟩) (.inl rfl) (.slice pa2 pn2 pc2)).block Dm (yK.1 hK2).1 hne).trans hK2;refine ⟨by simp,.inl ⟨_,_,rfl,run_takeDeferred hK3,?_⟩⟩;refine ⟨_,results_cell_row rfl _ _ w.heap.size 161 #[.slice pa2 pn2 pc2] (0,0) _ rfl ((World.putObj_heap_other (Ne.symm hne)).trans hb9) underlying161 rfl Tryz.infoSet,?_⟩;have hf:ze (fun k=>k=w.heap.size\/k=Dm) V2 ((V2.setCell ⟨w.heap.size,0,none⟩ (.slice pa2 pn2 pc2)).putObj Dm (.deferred none)):=((ze.refl (fun k=>k=w.heap.size\/k=Dm) V2).setCell (p:=⟨w.heap.size,0,none⟩) (.inl (.inl rfl)) _).putObj Dm _ (.inl (.inr rfl));have hDV1:Dm<V1.heap.size:=yh hKV (zb HO1).size;refine ⟨_,rfl,⟨.slice pa2 pn2 pc2,Cs.jn [] l',rfl,?_,(zb HOF).1,(zb HOF).2⟩,?_⟩
  ·refine ((zb HR2).mono (B:=fun g=>V1.heap.size<=g) (fun g _ hg=>(hr2b g hg).1)).keep hf (fun g hg hp=>?_) |>.mono (fun g _ hg=>by omega);rcases hp with h |h<;>omega
  ·exact ⟨(hf.os.trans (zb HOV).os).trans (zb HOA).os,(hf.tape.trans (zb HOV).tape).trans (zb HOA).tape,(hf.output.trans (zb HOV).output).trans (zb HOA).output,yZ (zb HOA).size (yZ (zb HOV).size hf.size),fun j hj _=>
    (hf.block j (by have:=(zb HOV).size;omega) (fun hp=>by rcases hp with h |h<;>omega)).trans (((zb HOV).block j (by omega) (fun f=>f)).trans ((zb HOA).block j hj (fun f=>f)))⟩
theorem yQ.slice {A:Nat->Prop}{v:Value}{S:Int->Bool}(h:yQ w A v S):∃ pa pn pc,v = .agg #[.slice pa pn pc]:=by
 obtain ⟨sv,sp,rfl,h2,_⟩:=h;rcases h2 with ⟨h1,_⟩ |⟨g,cap,h1,_⟩
 ·exact ⟨_,_,_,by rw [h1]⟩
 ·exact ⟨_,_,_,by rw [h1]⟩
theorem yQ.congr {A:Nat->Prop}{v:Value}{S T:Int->Bool}(h:yQ w A v S)(e:∀ c,S c=T c):yQ w A v T:=by
 obtain ⟨sv,sp,h1,h2,h3,h4⟩:=h;exact ⟨sv,sp,h1,h2,h3,fun c=>(h4 c).trans (e c)⟩
def z7 (w w':World)(v:Value)(S:Int->Bool):Prop:=yQ w' (fun g=>w.heap.size<=g) v S/\Q8 w w'
theorem z7.congr {w w':World}{v:Value}{S T:Int->Bool}(h:z7 w w' v S)(e:∀ c,S c=T c):z7 w w' v T:=⟨h.1.congr e,h.2⟩
theorem z7.later {w1 w2:World}{v:Value}{S:Int->Bool}(h:z7 w1 w2 v S)(o:Q8 w w1):z7 w w2 v S:=⟨h.1.mono (fun _g _ hg=>yZ o.size hg),o.trans h.2⟩
theorem xl {sv:Value}{S:Int->Bool}(h:z7 (w.alloc (.cells #[z] 161)) w2 (.agg #[sv]) S) :
  z7 w (w2.setCell ⟨w.heap.size,0,none⟩ sv) (.agg #[sv]) S/\(w2.setCell ⟨w.heap.size,0,none⟩ sv).heap[w.heap.size]?=some (.cells #[sv] 161 (0,0)):=by
 have hb:w2.heap[w.heap.size]?=some (.cells #[z] 161 (0,0)):=(h.2.block w.heap.size (by simp) (fun f=>f)).trans (World.alloc_heap_new w _);have o:ze (fun k=>k=w.heap.size) w2 (w2.setCell ⟨w.heap.size,0,none⟩ sv):=(ze.refl (fun k=>k=w.heap.size) w2).setCell (p:=⟨w.heap.size,0,none⟩) (.inl rfl) _;refine ⟨⟨(h.1.keep o (fun g hg e=>by simp at hg;omega)).mono (fun g _ hg=>by simp at hg;omega),?_⟩,by rw [kQ sv hb];rfl⟩;have o2:Q8 w w2:=((ze.refl _ w).alloc _).trans h.2;exact o2.setCell (p:=⟨w.heap.size,0,none⟩) (.inr (z8 _)) _
theorem yR (h:Q8 (w.alloc (.cells #[z] 161)) w2):w2.cell? ⟨w.heap.size,0,none⟩=some z/\w2.frozen? ⟨w.heap.size,0,none⟩=false:=by
 have hb:w2.heap[w.heap.size]?=some (.cells #[z] 161 (0,0)):=(h.block w.heap.size (by simp) (fun f=>f)).trans (World.alloc_heap_new w _);exact ⟨by simp [World.cell?,hb],by simp [World.frozen?,hb]⟩
theorem ke (A:Nat->Prop)(w:World)(h:yu w A sv l)(hl:l.length<=1000000) :
  Calls prog 122 #[sv] w fun e w'=>∃ v,e = .returned v/\z7 w w' v (fun c=>Cs.isCh c && Eqv.inSp l c):=by
 have hsl:∃ pa pn pc,sv = .slice pa pn pc:=by rcases h with ⟨h1,_⟩ |⟨g,cap,h1,_⟩<;>exact ⟨_,_,_,h1⟩
 have eg:∀ args w,(callFunc 198 args).run prog w = .ok (.enter 198 args) w:=enters_of func198 (by kernel_rfl) rfl;obtain ⟨pa,pn,pc,rfl⟩:=hsl;have H:=zc (h.keep ((ze.refl (fun _=>False) w).alloc (.cells #[.slice none 0 0] 161)) (fun _ _ f=>f));clear h;go_enter func122,ntmps122;go_wp2_with fail;generalize hwA:w.alloc (.cells #[.slice none 0 0] 161)=wA at *;refine (QY _ wA ⟨_,_,_,rfl⟩).mono ?_;rintro e w1 ⟨v,rfl,kb,rfl,h1,h2,h3⟩;go_wp2_with fail;refine (Wz _ _ l (fun k=>k=kb\/((A k/\k<wA.heap.size)/\k<w1.heap.size)) w1 eg (vt _ l (fun k=>A k/\k<wA.heap.size) kb w1 (((zb H).mono (fun g hg hA=>⟨hA,hg⟩)).keep h3 (fun _ _ f=>f)) h2 (by omega) 8 (by omega)) (fun k hk=>by
  rcases hk with rfl |hk
  ·exact zE w1 _ h2
  ·exact hk.2) (by omega)).mono ?_
 rintro e w2 ⟨v,rfl,hs,hO⟩;obtain ⟨qa,qn,qc,rfl⟩:=hs.slice;have hN:z7 wA w2 (.agg #[.slice qa qn qc]) (fun c=>Cs.isCh c && Eqv.inSp l c):=z7.later ⟨hs,hO⟩ h3;clear hs hO h3 h2 h1;subst hwA;obtain ⟨k1,k2⟩:=yR hN.2;have HN:=zc (xl hN);clear hN;go_wp2_with fail;refine bodyPost_ret (results_cell_row rfl _ _ w.heap.size 161 #[.slice qa qn qc] (0,0) _ rfl (zb HN).2 underlying161 rfl Tryz.infoSet) rfl ?_;exact ⟨_,rfl,(zb HN).1⟩
theorem WA (w:World)(hs:∃ pa pn pc,sv = .slice pa pn pc):Calls prog 189 #[.agg #[sv]] w fun e w'=>∃ kb,e = .returned (.func (.func 225) #[] #[.pointer (some ⟨kb,0,none⟩)])/\w.heap.size<=kb/\w'.cell? ⟨kb,0,none⟩=some sv/\Q8 w w':=by
 obtain ⟨pa,pn,pc,rfl⟩:=hs;have HO:Hid ((w.alloc (.cells #[.slice pa pn pc] 161)).cell? ⟨w.heap.size,0,none⟩=some (.slice pa pn pc)/\Q8 w (w.alloc (.cells #[.slice pa pn pc] 161))):=⟨zm w _ rfl _ _ 0 _ rfl,(ze.refl _ _).alloc _⟩
 go_enter func189,ntmps189;go_wp2_with fail;go_ret;exact ⟨_,rfl,z8 _,(zb HO).1,(zb HO).2⟩
theorem Cs.gaps_len:∀ (l:List (Int×Int)) (b:Int),(Cs.gaps b l).length=l.length+1
 | [],_=>rfl
 |x :: l,b=>by simp [Cs.gaps,Cs.gaps_len l]
theorem ZQ (A:Nat->Prop)(w:World)(h:yQ w A v S) :
  Calls prog 163 #[v] w fun e w'=>∃ v',e = .returned v'/\z7 w w' v' (fun c=>Cs.isCh c && !S c):=by
 have eg:∀ args w,(callFunc 225 args).run prog w = .ok (.enter 225 args) w:=enters_of func225 (by kernel_rfl) rfl;obtain ⟨sv,l,rfl,hr,hri,hS⟩:=h;obtain ⟨pa,pn,pc,rfl⟩:∃ pa pn pc,sv = .slice pa pn pc:=by rcases hr with ⟨h1,_⟩ |⟨g,cap,h1,_⟩<;>exact ⟨_,_,_,h1⟩
 have HOO:Hid (Q8 w ((w.alloc (.cells #[.slice pa pn pc] 161)).alloc (.cells #[.slice none 0 0] 161))):=((ze.refl _ _).alloc _).alloc _;have HRi:=zc hri;have HS:=zc hS;have hlen:=hri.len;have H:=zc (hr.keep (zb HOO) (fun _ _ f=>f));clear hr hri hS;go_enter func163,ntmps163;go_wp2_with fail;generalize hwB:w.alloc (.cells #[.slice pa pn pc] 161)=wB at *;have hsB:wB.heap.size=w.heap.size+1:=by rw [<-hwB];simp
 have HOB:Hid (Q8 w wB):=by rw [<-hwB];exact (ze.refl _ _).alloc _
 clear hwB;generalize hwA:wB.alloc (.cells #[.slice none 0 0] 161)=wA at *;refine (WA _ wA ⟨_,_,_,rfl⟩).mono ?_;rintro e w1 ⟨kb,rfl,h1,h2,h3⟩;go_wp2_with fail;refine (Wz _ _ (Cs.gaps 0 l) (fun k=>k=kb\/((A k/\k<wA.heap.size)/\k<w1.heap.size)) w1 eg (gaps_seq _ l (fun k=>A k/\k<wA.heap.size) kb w1 (((zb H).mono (fun g hg hA=>⟨hA,hg⟩)).keep h3 (fun _ _ f=>f)) (zb HRi) h2 8 (by omega)) (fun k hk=>by
  rcases hk with rfl |hk
  ·exact zE w1 _ h2
  ·exact hk.2) (by have:=Cs.gaps_len l 0;omega)).mono ?_
 rintro e w2 ⟨v,rfl,hs,hO⟩;obtain ⟨qa,qn,qc,rfl⟩:=hs.slice;have hN:z7 wA w2 (.agg #[.slice qa qn qc]) (fun c=>Cs.isCh c && !S c):=(z7.later ⟨hs,hO⟩ h3).congr (fun c=>by rw [Cs.not_ok (zb HRi),zb HS c]);clear hs hO h3 h2 h1;subst hwA;obtain ⟨k1,k2⟩:=yR hN.2;have HN:=zc (xl hN);clear hN;rw [hsB] at k1 k2 HN;go_wp2_with fail;refine bodyPost_ret (results_cell_row rfl _ _ (w.heap.size+1) 161 #[.slice qa qn qc] (0,0) _ rfl (zb HN).2 underlying161 rfl Tryz.infoSet) rfl ?_;exact ⟨_,rfl,(zb HN).1.later (zb HOB)⟩
end
end Go.Proofs.YtcgleficedipkaaGreatDoor
