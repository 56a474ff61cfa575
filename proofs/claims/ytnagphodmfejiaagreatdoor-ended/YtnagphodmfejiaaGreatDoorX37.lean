/- The reference's many. -/
import Derived.Test.YtnagphodmfejiaaGreatDoorX36
import Derived.Deep.CutBlock
import Derived.Test.YtnagphodmfejiaaGreatDoorX12
namespace Go.Proofs.YtnagphodmfejiaaGreatDoor
section
open Go.RowKit
open Sm (Tree)
set_option maxHeartbeats 4000000
set_option maxRecDepth 100000
def OneIs (g off:Nat)(us:List Tok)(cap:Nat)(cv:Value)(l:List (Int×Int))(R:Nat→Nat→Prop)(w:World):Prop:=∀ (fv:Value) (xs:List Bool) (w':World),zf (fun _=>False) w w'→yE w' fv xs→xs.length=l.length+1→
 Calls Tryz.prog 96 #[.slice (some ⟨g,off,none⟩) us.length cap,cv,fv] w' (ZH w' xs R)
theorem many_any {g off cap:Nat}{us:List Tok}{q:Tok}{qv cv fv:Value}{l:List (Int×Int)}{xs:List Bool}{R:Nat→Nat→Prop}{w:World}(hO:OneIs g off us cap cv l R w)(hR:∀ i j,R i j→i≤j)(hx:yE w fv xs)(hl:l.length≤900)(hxl:xs.length=l.length+1)
  (h0:0≤q.mn) (h1:q.mn≤100) (h2:-1≤q.mx) (h3:q.mx≤100) (h4:q.mx = -1∨q.mn≤q.mx) :
  Calls Tryz.prog 95 #[.slice (some ⟨g,off,none⟩) us.length cap,.agg #[.int .i64 q.kind,.bool q.neg,qv,.int .i64 q.c,.int .i64 q.mn,.int .i64 q.mx],cv,fv] w (ZH w xs (fun i j=>∃ k:Nat,q.mn≤k∧(q.mx = -1∨(k:Int)≤q.mx)∧Sm.pow R k i j)):=by
 obtain ⟨qk,qn,qp,qc,mn,mx⟩:=q
 simp only [] at *
 obtain ⟨mn,rfl⟩:∃ m:Nat,mn=(m:Int):=⟨mn.toNat,by omega⟩
 have HO:=ze hO
 have HR:=ze hR
 have HX:=ze hx
 have HXL:=ze hxl
 have H4:=ze h4
 have hO0:zf (fun _=>False) w (w.alloc (.cells #[.int .i64 qk,.bool qn,qv,.int .i64 qc,.int .i64 mn,.int .i64 mx] 178)):=(zf.refl _ _).alloc _
 have c4:(w.alloc (.cells #[.int .i64 qk,.bool qn,qv,.int .i64 qc,.int .i64 mn,.int .i64 mx] 178)).cell? ⟨w.heap.size,4,none⟩=some (.int .i64 mn):=zo w _ rfl _ _ 4 _ rfl
 have c5:(w.alloc (.cells #[.int .i64 qk,.bool qn,qv,.int .i64 qc,.int .i64 mn,.int .i64 mx] 178)).cell? ⟨w.heap.size,5,none⟩=some (.int .i64 mx):=zo w _ rfl _ _ 5 _ rfl
 have HO0:=ze hO0
 have C4:=ze c4
 have C5:=ze c5
 clear hO hR hx hxl h4 hO0 c4 c5
 go_enter Tryz.func95,Tryz.ntmps95
 go_upto_block 0 with fail
 generalize w.alloc (.cells #[.int .i64 qk,.bool qn,qv,.int .i64 qc,.int .i64 mn,.int .i64 mx] 178)=W at *
 go_cut [9] (fun tv wx=>∃ ys,Hid (yE wx tv ys)∧Hid (Ref.Img (Sm.pow R mn) xs ys)∧Hid (zf (fun _=>False) W wx))
 case first=>
  go_wp2_with fail
  go_loopw [9,10] (fun tv k wr=>∃ (n:Nat) (ys:List Bool),k = .int .i64 n∧n≤mn∧Hid (yE wr tv ys)∧Hid (Ref.Img (Sm.pow R n) xs ys)∧Hid (zf (fun _=>False) W wr)) (fun _ k _=>mn-(intOf k).toNat)
  case atStart=>exact ⟨0,xs,rfl,by omega,(zb HX).keep (zb HO0),Ref.Img.id xs,zf.refl _ _⟩
  case round=>
   obtain ⟨n,ys,rfl,hn,HB,HI,HK⟩:=hrel
   have k4:=zg (zb HK) _ _ (zb C4) (fun f=>f)
   have hyl:ys.length≤901:=by have:=(zb HI).1;have:=zb HXL;omega
   obtain ⟨ga,na,ca,hsl⟩:∃ ga na ca,u9=Value.slice ga na ca:=by obtain ⟨g1,c1,h,_⟩:=zb HB;exact ⟨_,_,_,h⟩
   subst hsl
   have HC:=ze (zb HO _ ys wr ((zb HO0).trans (zb HK)) (zb HB) ((zb HI).1.trans (zb HXL)))
   by_cases hlt:n<mn
   ·go_wp2_with (first
     |(go_at_call 96;refine (zb HC).mono ?_;rintro e w2 ⟨sv,zs,rfl,hb2,hi2,hO2⟩;have HB2:=ze hb2;have HI2:=ze hi2;have HO2:=ze hO2;clear hb2 hi2 hO2)
     |(go_at_call 141;refine (WM _ _ zs ys _ (zb HB2) ((zb HB).keep (zb HO2)) (zb HI2).1.symm (by have:=(zb HI2).1;omega)).mono ?_;rintro e w3 ⟨rfl,hO3⟩;have HO3:=ze hO3;clear hO3))
    ·go_meet
     case rel=>
      have hzy:zs=ys:=by first |assumption |simp_all
      have hst:=(zb HI).still (zb HR) (by have:=zb HI2;rw [hzy] at this;exact this) (mn-n)
      rw [show n+(mn-n)=mn by omega] at hst
      exact ⟨ys,by have:=(zb HB2).keep (zb HO3);rw [hzy] at this;exact this,hst,((zb HK).trans (zb HO2)).trans (zb HO3)⟩
    ·exact ⟨⟨n+1,zs,by go_num,by omega,(zb HB2).keep (zb HO3),(zb HI).pow_succ (zb HR) (zb HI2),((zb HK).trans (zb HO2)).trans (zb HO3)⟩,by simp [intOf];omega⟩
   ·obtain rfl:n=mn:=by omega
    go_wp2_with fail
    go_meet
    case rel=>exact ⟨ys,HB,HI,HK⟩
 case rest=>
  obtain ⟨ys,HB,HI,HK⟩:=hcut
  have k4:=zg (zb HK) _ _ (zb C4) (fun f=>f)
  have k5:=zg (zb HK) _ _ (zb C5) (fun f=>f)
  obtain ⟨ga,na,ca,hsl⟩:∃ ga na ca,u9=Value.slice ga na ca:=by obtain ⟨g1,c1,h,_⟩:=zb HB;exact ⟨_,_,_,h⟩
  subst hsl
  by_cases hmx:mx<0
  ·have Hm1:Hid (mx = -1):=by show mx = -1;omega
   go_wp2_with fail
   go_loopw [9] (fun tv wr=>∃ (m:Nat) (ys:List Bool),Hid (yE wr tv ys)∧Hid (Ref.Img (Ref.span R mn (mn+m)) xs ys)∧Hid (zf (fun _=>False) W wr)) (fun tv wr=>lackN wr tv)
   case atStart=>exact ⟨0,ys,HB,(zb HI).span_self,HK⟩
   case round=>
    obtain ⟨m,ys,HB,HI,HK⟩:=hrel
    have hyl:ys.length≤901:=by have:=(zb HI).1;have:=zb HXL;omega
    have hlk:=(zb HB).lackN
    obtain ⟨ga,na,ca,hsl⟩:∃ ga na ca,u9=Value.slice ga na ca:=by obtain ⟨g1,c1,h,_⟩:=zb HB;exact ⟨_,_,_,h⟩
    subst hsl
    have HC:=ze (zb HO _ ys wr ((zb HO0).trans (zb HK)) (zb HB) ((zb HI).1.trans (zb HXL)))
    have HL:=ze hlk
    clear hlk
    go_wp2_with (first
     |(go_at_call 96;refine (zb HC).mono ?_;rintro e w2 ⟨sv,zs,rfl,hb2,hi2,hO2⟩;have HB2:=ze hb2;have HI2:=ze hi2;have HO2:=ze hO2;clear hb2 hi2 hO2)
     |(go_at_call 94;refine (vr _ _ ys zs _ ((zb HB).keep (zb HO2)) (zb HB2) (zb HI2).1 (by omega)).mono ?_;rintro e w3 ⟨sv3,rfl,hb3,hO3⟩;have HB3:=ze hb3;have HO3:=ze hO3;clear hb3 hO3)
     |(go_at_call 141;refine (WM _ _ _ ys _ (zb HB3) (((zb HB).keep (zb HO2)).keep (zb HO3)) (by rw [List.length_zipWith,(zb HI2).1];omega) (by rw [List.length_zipWith,(zb HI2).1];omega)).mono ?_;rintro e w4 ⟨rfl,hO4⟩;have HO4:=ze hO4;clear hO4))
    ·go_ret
     have hzy:List.zipWith (· || ·) ys zs=ys:=by first |assumption |simp_all
     refine ⟨_,ys,rfl,(((zb HB).keep (zb HO2)).keep (zb HO3)).keep (zb HO4),((zb HI).closed (by omega) (zb HR) (zb HI2) hzy).congr (fun i j=>?_),((((zb HO0).trans (zb HK)).trans (zb HO2)).trans (zb HO3)).trans (zb HO4)⟩
     constructor
     ·rintro ⟨k,e1,e2⟩;exact ⟨k,by omega,.inl (zb Hm1),e2⟩
     ·rintro ⟨k,e1,_,e2⟩;exact ⟨k,by omega,e2⟩
    ·have hzy:List.zipWith (· || ·) ys zs≠ys:=by first |assumption |simp_all
     refine ⟨⟨m+1,_,(zb HB3).keep (zb HO4),(zb HI).span_succ (b:=mn+m) (by omega) (zb HR) (zb HI2),(((zb HK).trans (zb HO2)).trans (zb HO3)).trans (zb HO4)⟩,?_⟩
     rw [zb HL,((zb HB3).keep (zb HO4)).lackN]
     exact (Ref.lacks_le (zb HI2).1).2 hzy
  ·have hmm:(mn:Int)≤mx:=by rcases (zb H4) with h |h;omega;exact h
   obtain ⟨mx,rfl⟩:∃ m:Nat,mx=(m:Int):=⟨mx.toNat,by omega⟩
   have hmm':mn≤mx:=by omega
   go_wp2_with fail
   go_loopw [9,15] (fun tv k wr=>∃ (n:Nat) (ys:List Bool),k = .int .i64 n∧mn≤n∧n≤mx∧Hid (yE wr tv ys)∧Hid (Ref.Img (Ref.span R mn n) xs ys)∧Hid (zf (fun _=>False) W wr)) (fun _ k _=>mx-(intOf k).toNat)
   case atStart=>exact ⟨mn,ys,rfl,by omega,by omega,HB,(zb HI).span_self,HK⟩
   case round=>
    clear k4 k5
    obtain ⟨n,ys,rfl,hn1,hn2,HB,HI,HK⟩:=hrel
    have k5:=zg (zb HK) _ _ (zb C5) (fun f=>f)
    have hyl:ys.length≤901:=by have:=(zb HI).1;have:=zb HXL;omega
    obtain ⟨ga,na,ca,hsl⟩:∃ ga na ca,u9=Value.slice ga na ca:=by obtain ⟨g1,c1,h,_⟩:=zb HB;exact ⟨_,_,_,h⟩
    subst hsl
    have HC:=ze (zb HO _ ys wr ((zb HO0).trans (zb HK)) (zb HB) ((zb HI).1.trans (zb HXL)))
    by_cases hlt:n<mx
    ·go_wp2_with (first
      |(go_at_call 96;refine (zb HC).mono ?_;rintro e w2 ⟨sv,zs,rfl,hb2,hi2,hO2⟩;have HB2:=ze hb2;have HI2:=ze hi2;have HO2:=ze hO2;clear hb2 hi2 hO2)
      |(go_at_call 94;refine (vr _ _ ys zs _ ((zb HB).keep (zb HO2)) (zb HB2) (zb HI2).1 (by omega)).mono ?_;rintro e w3 ⟨sv3,rfl,hb3,hO3⟩;have HB3:=ze hb3;have HO3:=ze hO3;clear hb3 hO3))
     exact ⟨⟨n+1,_,by go_num,by omega,by omega,HB3,(zb HI).span_succ (by omega) (zb HR) (zb HI2),((zb HK).trans (zb HO2)).trans (zb HO3)⟩,by simp [intOf];omega⟩
    ·obtain rfl:n=mx:=by omega
     go_wp2_with fail
     go_ret
     refine ⟨_,ys,rfl,zb HB,(zb HI).congr (fun i j=>?_),(zb HO0).trans (zb HK)⟩
     constructor
     ·rintro ⟨k,e1,e2,e3⟩;exact ⟨k,by omega,.inr (by omega),e3⟩
     ·rintro ⟨k,e1,e2,e3⟩;exact ⟨k,by omega,by omega,e3⟩
namespace Eqv
def Rest (f:Nat)(rem:List Tok)(terms alts:List Tree):Prop:=∃ a,TokS (xZ f) a terms∧((rem=a∧alts=[])∨∃ bar b,rem=a++bar :: b∧bar.kind=5∧kw (xZ f) b alts)
theorem kw.open {f:Nat}{ts:List Tok}{kids:List Tree}(h:kw (xZ f) ts kids):∃ t alts,kids=t :: alts∧t.kind=6∧Rest f ts t.kids alts:=by
 obtain ⟨pre,fin,init,last,rfl,rfl,hp,hk,hf⟩:=h
 cases init with
 |nil=>
  obtain rfl:pre=[]:=hp
  exact ⟨last,[],rfl,hk,fin,hf,.inl ⟨rfl,rfl⟩⟩
 |cons t r=>
  obtain ⟨a,b,bar,rfl,h5,h6,hs,hr⟩:=hp
  exact ⟨t,r++[last],rfl,h6,a,hs,.inr ⟨bar,b++fin,by simp,h5,b,fin,r,last,rfl,rfl,hr,hk,hf⟩⟩
theorem xZ.head:∀ {f:Nat}{ts:List Tok}{T:Tree},xZ f ts T→∃ t r,ts=t :: r∧(t.kind=1∨t.kind=2∨t.kind=3)
 |0,_,_,h=>h.elim
 |f+1,ts,T,h=>by
  rcases h with ⟨_,_,_,t,rfl,hk,_⟩ |⟨t,rfl,hk,_⟩ |⟨_,o,c,us,rfl,ho,_⟩ |⟨_,us,q,rfl,_,_,_,_,hu⟩
  ·exact ⟨t,[],rfl,.inr (.inl hk)⟩
  ·exact ⟨t,[],rfl,.inl hk⟩
  ·exact ⟨o,us++[c],rfl,.inr (.inr ho)⟩
  ·obtain ⟨t,r,rfl,hk⟩:=xZ.head hu
   exact ⟨t,r++[q],rfl,hk⟩
theorem Rest.nil {f:Nat}{terms alts:List Tree}(h:Rest f [] terms alts):terms=[]∧alts=[]:=by
 obtain ⟨a,hs,⟨h1,h2⟩ |⟨bar,b,h1,_⟩⟩:=h
 ·subst h1
  cases terms with
  |nil=>exact ⟨rfl,h2⟩
  |cons t r=>
   obtain ⟨x,y,e,hx,_⟩:=hs
   obtain ⟨u,v,rfl,_⟩:=hx.head
   simp at e
 ·simp at h1
theorem Rest.bar {f:Nat}{t:Tok}{r:List Tok}{terms alts:List Tree}(h:Rest f (t :: r) terms alts)(hk:t.kind=5):terms=[]∧kw (xZ f) r alts:=by
 obtain ⟨a,hs,h⟩:=h
 have ht:terms=[]:=by
  cases terms with
  |nil=>rfl
  |cons u v=>
   obtain ⟨x,y,rfl,hx,_⟩:=hs
   obtain ⟨z,w,rfl,hz⟩:=hx.head
   rcases h with ⟨h1,_⟩ |⟨bar,b,h1,_⟩
   ·simp at h1;rw [h1.1] at hk;omega
   ·simp at h1;rw [h1.1] at hk;omega
 subst ht
 obtain rfl:a=[]:=hs
 rcases h with ⟨h1,_⟩ |⟨bar,b,h1,h2,h3⟩
 ·simp at h1
 ·simp at h1
  exact ⟨rfl,by rw [h1.2];exact h3⟩
theorem Rest.term {f:Nat}{t:Tok}{r:List Tok}{terms alts:List Tree}(h:Rest f (t :: r) terms alts)(hk:t.kind≠5):∃ T more a rem,terms=T :: more∧t :: r=a++rem∧xZ f a T∧Rest f rem more alts:=by
 obtain ⟨a,hs,h⟩:=h
 cases terms with
 |nil=>
  obtain rfl:a=[]:=hs
  rcases h with ⟨h1,_⟩ |⟨bar,b,h1,h2,_⟩
  ·simp at h1
  ·simp at h1;rw [h1.1] at hk;exact absurd h2 hk
 |cons T more=>
  obtain ⟨x,y,rfl,hx,hy⟩:=hs
  rcases h with ⟨h1,h2⟩ |⟨bar,b,h1,h2,h3⟩
  ·exact ⟨T,more,x,y,rfl,h1,hx,y,hy,.inl ⟨rfl,h2⟩⟩
  ·exact ⟨T,more,x,y++bar :: b,rfl,by rw [h1,List.append_assoc],hx,y,hy,.inr ⟨bar,b,rfl,h2,h3⟩⟩
theorem Rest.head6 {f:Nat}{rem:List Tok}{terms alts:List Tree}(h:Rest f rem terms alts):Ref.qA rem≠6:=by
 cases rem with
 |nil=>exact (show (0:Int)≠6 by decide)
 |cons t r=>
  show t.kind≠6
  by_cases hk:t.kind=5
  ·omega
  ·obtain ⟨T,more,a,rem,_,e,hA,_⟩:=h.term hk
   obtain ⟨u,v,rfl,hu⟩:=hA.head
   simp at e
   rw [e.1];omega
theorem Jp {f:Nat}{l us rem:List Tok}{K:Tree}{i:Nat}(hA:xZ f us K)(h7:K.kind≠7)(hd:l.drop i=us++rem):Ref.qw l i=((i+us.length:Nat):Int):=by
 have hlen:l.length-i=us.length+rem.length:=by rw [←List.length_drop,hd,List.length_append]
 cases f with
 |zero=>exact hA.elim
 |succ f=>
  have hk0:Ref.zU l i=Ref.qA (us++rem):=by rw [←hd,Ref.XG]
  have hone:∀ t:Tok,us=[t]→t.kind≠3→Ref.qw l i=((i+us.length:Nat):Int):=fun t e h3=>by
   subst e
   unfold Ref.qw
   rw [if_neg (by rw [hk0];exact h3)]
   simp
  rcases hA with ⟨_,_,_,t,h1,hk,_⟩ |⟨t,h1,hk,_⟩ |⟨_,o,c,vs,h1,ho,hc,hB,_⟩ |⟨k7,_⟩
  ·exact hone t h1 (by omega)
  ·exact hone t h1 (by omega)
  ·subst h1
   have hi:i<l.length:=by simp at hlen;omega
   have h3:Ref.zU l i=3:=by rw [hk0];exact ho
   have hd1:l.drop (i+1)=vs++c :: rem:=by
    rw [←List.drop_drop,hd];simp
   have:=(Ref.Yh hi h3 (j:=vs.length) (by rw [hd1];exact Ref.Yx hB hc)).1
   rw [this]
   simp
   omega
  ·exact absurd k7 h7
theorem zbS {l us rem:List Tok}{i:Nat}(hd:l.drop i=us++rem):Ref.zU l (i+us.length)=Ref.qA rem:=by
 rw [←Ref.XG,←List.drop_drop,hd]
 simp
end Eqv
set_option maxHeartbeats 8000000
theorem one_at {f F:Nat}(hO:WO f)(hF:3*f≤F){g off cap E i:Nat}{l us:List Tok}{K:Tree}{cv:Value}{tx:List (Int×Int)}{w:World}(h:qF w g off l)(hl:l.length≤1000)(hc:l.length≤cap)(hE:E=i+us.length)(hEl:E≤l.length)(hu:(l.drop i).take us.length=us)(hA:Eqv.xZ f us K)(h7:K.kind≠7)(hcv:yU w cv tx)(htl:tx.length≤900) :
  ∀ (fv:Value) (xs:List Bool) (w':World),zf (fun _=>False) w w'→yE w' fv xs→xs.length=tx.length+1→Calls Tryz.prog 96 #[.slice (some ⟨g,off+i*6,none⟩) (E-i) (cap-i),cv,fv] w' (ZH w' xs (Ref.MM tx F K)):=by
 intro fv xs w' hk hx hxl
 have hlen:E-i=us.length:=by omega
 rw [hlen]
 have hsub:=(h.only hk).sub i us.length
 rw [hu] at hsub
 exact hO F g (off+i*6) (cap-i) us K cv fv tx xs w' hF hA h7 hsub (by omega) (by omega) ⟨hcv.keep hk,hx,htl,hxl⟩
theorem WR (f:Nat)(hO:WO f):ThrOK f:=by
 intro F g off cap ts kids cv fv tx xs w hF hC hTB h hl hc hX
 have HTB:=ze hTB
 clear hTB
 obtain ⟨t0,alts0,rfl,h60,hR0⟩:=hC.open
 have hx:=hX.f
 have hmk:=ko xs.length (by have:=hX.hx;have:=hX.hl;omega)
 have HX:=ze hX
 have H:=ze h
 have HO:=ze hO
 have HR0:=ze hR0
 have H60:=ze h60
 have HF:=ze hF
 have hxl:xs.length≤901:=by have:=hX.hx;have:=hX.hl;omega
 have HM:Hid (yE (w.alloc (.cells (madeCells #[.bool false] xs.length) 4)) (.slice (some ⟨w.heap.size,0,none⟩) xs.length xs.length) (List.replicate xs.length false)):=by
  have:=(v7.made w xs.length).row (by simp) (cap:=xs.length) (by simp)
  exact ze (by simpa using this)
 obtain ⟨gx,cx,rfl,_⟩:=hx
 clear hX h hO hR0 h60 hF hC
 go_enter Tryz.func50,Tryz.ntmps50
 go_wp2_with fail
 clear hmk
 have HO0:Hid (zf (fun _=>False) w (w.alloc (.cells (madeCells #[.bool false] xs.length) 4))):=(zf.refl _ _).alloc _
 generalize w.alloc (.cells (madeCells #[.bool false] xs.length) 4)=W at *
 go_loopw [7,8,9] (fun av nv k wr=>∃ (i:Nat) (es ns:List Bool) (A N:Nat→Nat→Prop) (terms alts:List Tree),k = .int .i64 i∧i≤ts.length∧Hid (zf (fun _=>False) W wr)∧Hid (yE wr av es)∧Hid (yE wr nv ns)∧Hid (Ref.Img A xs es)∧Hid (Ref.Img N xs ns)∧Hid (Eqv.Rest f (ts.drop i) terms alts)∧
  Hid (∀ i j,Ref.altR tx F (t0 :: alts0) i j↔A i j∨(∃ m,N i m∧Sm.j4 (Ref.MM tx F) terms m j)∨∃ t∈alts,Ref.MM tx (F+1) t i j)) (fun _ _ k _=>ts.length-(intOf k).toNat)
 case atStart=>
  refine ⟨0,List.replicate xs.length false,xs,_,_,t0.kids,alts0,rfl,by omega,zf.refl _ _,HM,(zb HX).f.keep (zb HO0),Ref.Img.none xs,Ref.Img.id xs,HR0,fun i j=>?_⟩
  have e:Ref.MM tx (F+1) t0 i j↔Sm.j4 (Ref.MM tx F) t0.kids i j:=by
   show Sm.M _ _ (F+1) t0 i j↔_
   unfold Sm.M
   rw [if_neg (by rw [zb H60];decide),if_neg (by rw [zb H60];decide),if_pos (zb H60)]
   rfl
  constructor
  ·rintro ⟨t,ht,hm⟩
   rcases List.mem_cons.1 ht with rfl |ht
   ·exact .inr (.inl ⟨i,rfl,e.1 hm⟩)
   ·exact .inr (.inr ⟨t,ht,hm⟩)
  ·rintro (h |⟨m,rfl,h⟩ |⟨t,ht,hm⟩)
   ·exact h.elim
   ·exact ⟨t0,by simp,e.2 h⟩
   ·exact ⟨t,by simp [ht],hm⟩
 case round=>
  obtain ⟨i,es,ns,A,N,terms,alts,rfl,hi,HK,HBA,HBN,HIA,HIN,HRE,HEQ⟩:=hrel
  have HK0:Hid (zf (fun _=>False) w wr):=(zb HO0).trans (zb HK)
  obtain ⟨ga,na,ca,hsa⟩:∃ ga na ca,u7=Value.slice ga na ca:=by obtain ⟨g1,c1,h,_⟩:=zb HBA;exact ⟨_,_,_,h⟩
  subst hsa
  obtain ⟨gn,nn,cn,hsn⟩:∃ ga na ca,u8=Value.slice ga na ca:=by obtain ⟨g1,c1,h,_⟩:=zb HBN;exact ⟨_,_,_,h⟩
  subst hsn
  have hal:es.length≤901:=by have:=(zb HIA).1;omega
  by_cases hlt:i<ts.length
  ·have hkc:=((zb H).only (zb HK0)).row.kind i hlt
   have hds:=Ref.XF hlt
   have hkg:=Ref.Yy hlt
   by_cases h5:Ref.zU ts i=5
   ·have h5':(Ref.zU ts i == 5)=true:=by simp [h5]
    have hre:=zb HRE
    rw [hds] at hre
    obtain ⟨rfl,hCC⟩:=hre.bar (by rw [←hkg];exact h5)
    obtain ⟨t1,alts1,rfl,h61,hR1⟩:=hCC.open
    have HR1:=ze hR1
    have H61:=ze h61
    clear hre hCC hR1 h61 h5 hds hkg
    go_wp2_with (go_at_call 94;refine (vr _ _ es ns _ (zb HBA) (zb HBN) ((zb HIN).1.trans (zb HIA).1.symm) (by omega)).mono ?_;rintro e w2 ⟨sv,rfl,hb2,hO2⟩;have HB2:=ze hb2;have HO2:=ze hO2;clear hb2 hO2)
    refine ⟨⟨i+1,_,xs,_,_,t1.kids,alts1,by go_num,by omega,(zb HK).trans (zb HO2),HB2,((zb HX).f.keep (zb HK0)).keep (zb HO2),(zb HIA).or (zb HIN),Ref.Img.id xs,HR1,fun i j=>?_⟩,by simp [intOf];omega⟩
    rw [zb HEQ i j]
    have e:Ref.MM tx (F+1) t1 i j↔Sm.j4 (Ref.MM tx F) t1.kids i j:=by
     show Sm.M _ _ (F+1) t1 i j↔_
     unfold Sm.M
     rw [if_neg (by rw [zb H61];decide),if_neg (by rw [zb H61];decide),if_pos (zb H61)]
     rfl
    constructor
    ·rintro (h |⟨m,h,rfl⟩ |⟨t,ht,hm⟩)
     ·exact .inl (.inl h)
     ·exact .inl (.inr h)
     ·rcases List.mem_cons.1 ht with rfl |ht
      ·exact .inr (.inl ⟨i,rfl,e.1 hm⟩)
      ·exact .inr (.inr ⟨t,ht,hm⟩)
    ·rintro ((h |h) |⟨m,rfl,h⟩ |⟨t,ht,hm⟩)
     ·exact .inl h
     ·exact .inr (.inl ⟨j,h,rfl⟩)
     ·exact .inr (.inr ⟨t1,by simp,e.2 h⟩)
     ·exact .inr (.inr ⟨t,by simp [ht],hm⟩)
   ·have h5':(Ref.zU ts i == 5)=false:=by simp [h5]
    have hre:=zb HRE
    rw [hds] at hre
    obtain ⟨T,more,a,rem,rfl,hdr,hA,hRR⟩:=hre.term (by rw [←hkg];exact h5)
    rw [←hds] at hdr
    have HR1:=ze hRR
    have hEQ1:Hid (∀ i j,Ref.altR tx F (t0 :: alts0) i j↔A i j∨(∃ m,(∃ p,N i p∧Ref.MM tx F T p m)∧Sm.j4 (Ref.MM tx F) more m j)∨∃ t∈alts,Ref.MM tx (F+1) t i j):=fun i j=>by
     rw [zb HEQ i j]
     constructor
     ·rintro (h |⟨m,h,p,h1,h2⟩ |h)
      ·exact .inl h
      ·exact .inr (.inl ⟨p,⟨m,h,h1⟩,h2⟩)
      ·exact .inr (.inr h)
     ·rintro (h |⟨p,⟨m,h,h1⟩,h2⟩ |h)
      ·exact .inl h
      ·exact .inr (.inl ⟨m,h,p,h1,h2⟩)
      ·exact .inr (.inr h)
    have hci:¬cap=i:=by omega
    have hns:=(zb HIN).1.trans (zb HX).hx
    have HNS:=ze hns
    clear hre hRR h5 hds hkg hns
    by_cases h7:T.kind=7
    ·obtain ⟨f',rfl⟩:∃ f',f=f'+1:=by
      cases f with
      |zero=>exact hA.elim
      |succ f'=>exact ⟨f',rfl⟩
     have hA7:∃ us q,a=us++[q]∧q.kind=6∧q.mn=T.a∧q.mx=T.b∧(T.kid.kind=5∨Eqv.Ke T.kid)∧Eqv.xZ f' us T.kid:=by
      rcases hA with ⟨k0,_⟩ |⟨t,_,_,⟨_,k4⟩,_⟩ |⟨k5,_⟩ |⟨_,us,q,r⟩
      ·omega
      ·omega
      ·omega
      ·exact ⟨us,q,r⟩
     obtain ⟨us,q,rfl,hq6,hqn,hqx,hkd,hU⟩:=hA7
     have hU2:=Eqv.xZ.up f' (f'+1) us T.kid (by omega) hU
     have hk7:T.kid.kind≠7:=by rcases hkd with h |⟨_,h⟩<;>omega
     rw [List.append_assoc] at hdr
     have hdr2:ts.drop i=us++(q :: rem):=hdr
     have hE:=Eqv.Jp hU2 hk7 hdr2
     have hlen:ts.length-i=us.length+(rem.length+1):=by rw [←List.length_drop,hdr2,List.length_append];simp
     have hat:(ts.drop i).take us.length=us:=by rw [hdr2];simp
     have hrem:ts.drop (i+us.length+1)=rem:=by rw [Nat.add_assoc,←List.drop_drop,hdr2];simp
     have hk6:Ref.zU ts (i+us.length)=6:=by rw [Eqv.zbS hdr2];exact hq6
     have hget:ts[i+us.length]?=some q:=by rw [←List.getElem?_drop,hdr2];simp
     have htb:=zb HTB q (List.mem_of_getElem? hget)
     obtain ⟨u,v,hav,_⟩:=hU.head
     have ha1:1≤us.length:=by rw [hav];simp
     obtain ⟨F,rfl⟩:∃ F',F=F'+1:=⟨F-1,by have:=zb HF;omega⟩
     obtain ⟨E,hEE⟩:∃ E,E=i+us.length:=⟨_,rfl⟩
     rw [←hEE] at hE hk6 hrem hget
     have HE:=ze hE
     have HN:Hid (Ref.yA ts i=((E:Nat):Int)+1):=by show _=_;unfold Ref.yA;rw [hE,if_pos ⟨by omega,by rw [Int.toNat_natCast];exact hk6⟩]
     obtain ⟨pa,pn,pc,⟨z0,z1,z2,z3,z4,z5⟩,_⟩:=((zb H).only (zb HK0)) E q hget
     have hMX:∀ i j,(∃ k:Nat,q.mn≤k∧(q.mx = -1∨(k:Int)≤q.mx)∧Sm.pow (Ref.MM tx F T.kid) k i j)↔Ref.MM tx (F+1) T i j:=fun i j=>by
      show _↔Sm.M _ _ (F+1) T i j
      unfold Sm.M
      rw [if_neg (by omega),if_neg (by omega),if_neg (by omega),if_pos h7,hqn,hqx]
      rfl
     have hOne:=one_at (zb HO) (F:=F) (by have:=zb HF;omega) ((zb H).only (zb HK0)) hl hc hEE (by omega) hat hU2 hk7 ((zb HX).c.keep (zb HK0)) (zb HX).hl
     have HZ:Hid (∀ W',zf (fun _=>False) wr W'→Calls Tryz.prog 95 #[.slice (some ⟨g,off+i*6,none⟩) (E-i) (cap-i),.agg #[.int .i64 q.kind,.bool q.neg,.slice pa pn pc,.int .i64 q.c,.int .i64 q.mn,.int .i64 q.mx],cv,.slice gn nn cn] W' fun x w'=>(∃ sv zs,x = .returned sv∧yE w' sv zs∧Ref.Img (Ref.MM tx (F+1) T) ns zs)∧zf (fun _=>False) wr w'∧
       w'.cell? ⟨g,off+E*6,none⟩=some (.int .i64 q.kind)∧w'.cell? ⟨g,off+E*6+1,none⟩=some (.bool q.neg)∧w'.cell? ⟨g,off+E*6+2,none⟩=some (.slice pa pn pc)∧w'.cell? ⟨g,off+E*6+3,none⟩=some (.int .i64 q.c)∧w'.cell? ⟨g,off+E*6+4,none⟩=some (.int .i64 q.mn)∧w'.cell? ⟨g,off+E*6+5,none⟩=some (.int .i64 q.mx)):=fun W' hW'=>by
      have hlu:E-i=us.length:=by omega
      have hone2:OneIs g (off+i*6) us (cap-i) cv tx (Ref.MM tx F T.kid) W':=fun fv' ys w' hk hb hyl=>by
       have:=hOne fv' ys w' (hW'.trans hk) hb hyl
       rwa [hlu] at this
      rw [hlu]
      refine (many_any hone2 (Ref.MM_le tx F T.kid) ((zb HBN).keep hW') (zb HX).hl (zb HNS) htb.1 htb.2.1 htb.2.2.1 htb.2.2.2.1 htb.2.2.2.2).mono ?_
      rintro e w' ⟨sv,zs,rfl,b1,b2,b3⟩
      have k:=hW'.trans b3
      exact ⟨⟨sv,zs,rfl,b1,b2.congr hMX⟩,k,zg k _ _ z0 (fun f=>f),zg k _ _ z1 (fun f=>f),zg k _ _ z2 (fun f=>f),zg k _ _ z3 (fun f=>f),zg k _ _ z4 (fun f=>f),zg k _ _ z5 (fun f=>f)⟩
     have HHR:=ze ((zb H).only (zb HK0)).row
     have HRM:Hid (Eqv.Rest (f'+1) (ts.drop (E+1)) more alts):=by rw [hrem];exact HR1
     have hiE:i<E:=by omega
     have hEl:E<ts.length:=by omega
     have hb0:(0:Int)≤((i:Nat):Int):=by omega
     have hb1:((i:Nat):Int)≤((E:Nat):Int):=by omega
     have hb2:((E:Nat):Int)≤((cap:Nat):Int):=by omega
     have hb3:((E:Nat):Int)≤((ts.length:Nat):Int):=by omega
     have hb4:((E:Nat):Int)<((ts.length:Nat):Int):=by omega
     clear hE hlen hat hrem hk6 hav ha1 hEE hA h7 hdr hdr2 hU hU2 hkd hk7 hqn hqx hq6 hget htb hMX hOne
     generalize q.mn=qmn at *
     generalize q.mx=qmx at *
     generalize q.c=qc at *
     generalize q.neg=qng at *
     generalize q.kind=qk at *
     go_wp2_with (go_at_call 73;refine (jt g off cap ts i _ (zb HHR) hl hc hlt).mono ?_;rintro e wq ⟨rfl,hwq⟩;obtain rfl:=hwq.symm;clear hwq;rw [zb HE,zb HN])
     go_region_held3 (fun w'=>w'.cell? ⟨g,off+E*6,none⟩=some (.int .i64 qk)∧w'.cell? ⟨g,off+E*6+1,none⟩=some (.bool qng)∧w'.cell? ⟨g,off+E*6+2,none⟩=some (.slice pa pn pc)∧w'.cell? ⟨g,off+E*6+3,none⟩=some (.int .i64 qc)∧w'.cell? ⟨g,off+E*6+4,none⟩=some (.int .i64 qmn)∧w'.cell? ⟨g,off+E*6+5,none⟩=some (.int .i64 qmx)) (go_keep)
      (first |(go_at_call 95;refine (zb HZ _ ((zf.refl _ _).drewN _)).mono ?_;rintro e w2 ⟨⟨sv,zs,rfl,hb2,hi2⟩,hO2,y0,y1,y2,y3,y4,y5⟩;have HB2:=ze hb2;have HI2:=ze hi2;have HO2:=ze hO2;clear hb2 hi2 hO2))
     go_wp2_with fail
     exact ⟨⟨E+1,es,zs,A,_,more,alts,by go_num,by omega,(zb HK).trans (zb HO2),(zb HBA).keep (zb HO2),HB2,HIA,(zb HIN).comp (zb HI2) (Ref.MM_le tx (F+1) T),HRM,hEQ1⟩,by simp [intOf];omega⟩
    ·have hE:=Eqv.Jp hA h7 hdr
     have hlen:ts.length-i=a.length+rem.length:=by rw [←List.length_drop,hdr,List.length_append]
     have hat:(ts.drop i).take a.length=a:=by rw [hdr];simp
     have hrem:ts.drop (i+a.length)=rem:=by rw [←List.drop_drop,hdr];simp
     have hk6:Ref.zU ts (i+a.length)≠6:=by rw [Eqv.zbS hdr];exact (zb HR1).head6
     obtain ⟨u,v,hav,_⟩:=hA.head
     have ha1:1≤a.length:=by rw [hav];simp
     obtain ⟨E,hEE⟩:∃ E,E=i+a.length:=⟨_,rfl⟩
     rw [←hEE] at hE hk6 hrem
     have HE:=ze hE
     have HN:Hid (Ref.yA ts i=((E:Nat):Int)):=by show _=_;unfold Ref.yA;rw [hE,if_neg (fun hh=>hk6 (by have:=hh.2;rw [Int.toNat_natCast] at this;exact this))]
     have HC:=ze (one_at (zb HO) (F:=F) (by have:=zb HF;omega) ((zb H).only (zb HK0)) hl hc hEE (by omega) hat hA h7 ((zb HX).c.keep (zb HK0)) (zb HX).hl _ ns wr (zf.refl _ _) (zb HBN) (zb HNS))
     have HHR:=ze ((zb H).only (zb HK0)).row
     have HRM:Hid (Eqv.Rest f (ts.drop E) more alts):=by rw [hrem];exact HR1
     have hiE:i<E:=by omega
     have hEl:E≤ts.length:=by omega
     clear hE hlen hat hrem hk6 hav ha1 hEE hA h7 hdr
     go_wp2_with (first
      |(go_at_call 73;refine (jt g off cap ts i _ (zb HHR) hl hc hlt).mono ?_;rintro e wq ⟨rfl,hwq⟩;obtain rfl:=hwq.symm;clear hwq;rw [zb HE,zb HN])
      |(go_at_call 96;refine (zb HC).mono ?_;rintro e w2 ⟨sv,zs,rfl,hb2,hi2,hO2⟩;have HB2:=ze hb2;have HI2:=ze hi2;have HO2:=ze hO2;clear hb2 hi2 hO2))
     exact ⟨⟨E,es,zs,A,_,more,alts,rfl,hEl,(zb HK).trans (zb HO2),(zb HBA).keep (zb HO2),HB2,HIA,(zb HIN).comp (zb HI2) (Ref.MM_le tx F T),HRM,hEQ1⟩,by simp [intOf];omega⟩
  ·obtain rfl:i=ts.length:=by omega
   have hre:=zb HRE
   rw [List.drop_length] at hre
   obtain ⟨rfl,rfl⟩:=hre.nil
   go_wp2_with (go_at_call 94;refine (vr _ _ es ns _ (zb HBA) (zb HBN) ((zb HIN).1.trans (zb HIA).1.symm) (by omega)).mono ?_;rintro e w2 ⟨sv,rfl,hb2,hO2⟩;have HB2:=ze hb2;have HO2:=ze hO2;clear hb2 hO2)
   go_ret
   refine ⟨_,_,rfl,zb HB2,((zb HIA).or (zb HIN)).congr (fun i j=>?_),(zb HK0).trans (zb HO2)⟩
   rw [zb HEQ i j]
   constructor
   ·rintro (h |h)
    ·exact .inl h
    ·exact .inr (.inl ⟨j,h,rfl⟩)
   ·rintro (h |⟨m,h,rfl⟩ |⟨t,ht,_⟩)
    ·exact .inl h
    ·exact .inr h
    ·cases ht
theorem Yl {w:World}{base:Nat}:∀ (l:List Pt) (cs:List Value),yz w base l cs→∀ (j:Nat) (p:Pt),l[j]?=some p→∃ v,cs[j*2]?=some (.bool p.neg)∧cs[j*2+1]?=some v∧yB w base v p.spans
 | [],_,_,j,t,hj=>by simp at hj
 |u :: us,b :: v :: vs,h,0,t,hj=>by
  simp only [List.getElem?_cons_zero,Option.some.injEq] at hj
  subst hj
  obtain ⟨rfl,h1,_⟩:=h
  exact ⟨v,rfl,rfl,h1⟩
 |u :: us,b :: v :: vs,h,j+1,t,hj=>by
  obtain ⟨x,z⟩:=Yl us vs h.2.2 j t (by simpa using hj)
  exact ⟨x,by
   rw [show (j+1)*2=j*2+2 by omega]
   exact z⟩
 |_ :: _,[],h,_,_,_=>absurd h id
 |_ :: _,[_],h,_,_,_=>absurd h id
theorem Zc.of {w:World}{base:Nat}{v:Value}{l:List Pt}(h:PartsAt w base v l):Zc w v l:=by
 obtain ⟨cs,ho,hk⟩:=h
 have hl:=zh ho
 obtain ⟨h1,h2⟩:=ho
 rcases h2 with ⟨rfl,h0⟩ |⟨g,cap,cur,rfl,hb,hg,hc,hm,hs,ht⟩
 ·exact .inl ⟨rfl,List.eq_nil_of_length_eq_zero h0⟩
 ·refine .inr ⟨g,cap,rfl,hc,(hl g rfl).2,?_⟩
  intro j p hj
  obtain ⟨x,z0,z1,hx⟩:=Yl l cs hk j p hj
  obtain ⟨pa,pn,pc,rfl⟩:=zr hx
  have hjl:j<l.length:=(List.getElem?_eq_some_iff.1 hj).1
  have how:w.ownsRow base 274 2 (.slice (some ⟨g,0,none⟩) l.length cap) l.length cs:=⟨h1,.inr ⟨g,cap,cur,rfl,hb,hg,hc,hm,hs,ht⟩⟩
  exact ⟨pa,pn,pc,by rw [how.cellAt _ (by omega)];exact z0,by rw [how.cellAt _ (by omega)];exact z1,yU.of hx⟩
def TokSl (w:World)(v:Value)(ts:List Tok):Prop:=(v = .slice none 0 0∧ts=[])∨∃ g cap,v = .slice (some ⟨g,0,none⟩) ts.length cap∧ts.length≤cap∧qF w g 0 ts
theorem TokSl.keep {w w':World}{v:Value}{ts:List Tok}(h:TokSl w v ts)(k:zf (fun _=>False) w w'):TokSl w' v ts:=by
 rcases h with h |⟨g,cap,h1,h2,h3⟩
 ·exact .inl h
 ·exact .inr ⟨g,cap,h1,h2,h3.only k⟩
theorem Xi {w:World}{base:Nat}:∀ (l:List Tok) (cs:List Value),xo w base l cs→∀ (j:Nat) (t:Tok),l[j]?=some t→∃ v,cs[j*6+2]?=some v∧PartsAt w base v t.parts
 | [],_,_,j,t,hj=>by simp at hj
 |u :: us,a0 :: a1 :: a2 :: a3 :: a4 :: a5 :: vs,h,0,t,hj=>by
  simp only [List.getElem?_cons_zero,Option.some.injEq] at hj
  subst hj
  exact ⟨a2,rfl,h.2.1⟩
 |u :: us,a0 :: a1 :: a2 :: a3 :: a4 :: a5 :: vs,h,j+1,t,hj=>by
  obtain ⟨v,z⟩:=Xi us vs h.2.2 j t (by simpa using hj)
  exact ⟨v,by
   rw [show (j+1)*6+2=j*6+2+6 by omega]
   exact z⟩
 |_ :: _,[],h,_,_,_=>absurd h id
 |_ :: _,[_],h,_,_,_=>absurd h id
 |_ :: _,[_,_],h,_,_,_=>absurd h id
 |_ :: _,[_,_,_],h,_,_,_=>absurd h id
 |_ :: _,[_,_,_,_],h,_,_,_=>absurd h id
 |_ :: _,[_,_,_,_,_],h,_,_,_=>absurd h id
theorem TokSl.of {w:World}{base:Nat}{v:Value}{l:List Tok}(h:xH w base v l):TokSl w v l:=by
 have hr:=Wf h
 obtain ⟨cs,ho,hk⟩:=h
 obtain ⟨h1,h2⟩:=ho
 rcases h2 with ⟨rfl,h0⟩ |⟨g,cap,cur,rfl,hb,hg,hc,hm,hs,ht⟩
 ·exact .inl ⟨rfl,List.eq_nil_of_length_eq_zero h0⟩
 ·refine .inr ⟨g,cap,rfl,hc,fun j t hj=>?_⟩
  rcases hr with ⟨hh,_⟩ |⟨g',cap',hv,_,_,hrow⟩
  ·cases hh
  ·cases hv
   obtain ⟨pa,pn,pc,z0,z1,z2,z3⟩:=hrow j t hj
   obtain ⟨x,hx1,hx2⟩:=Xi l cs hk j t hj
   have hjl:j<l.length:=(List.getElem?_eq_some_iff.1 hj).1
   have how:w.ownsRow base 178 6 (.slice (some ⟨g,0,none⟩) l.length cap) l.length cs:=⟨h1,.inr ⟨g,cap,cur,rfl,hb,hg,hc,hm,hs,ht⟩⟩
   have e:w.cell? ⟨g,j*6+2,none⟩=some x:=by rw [how.cellAt _ (by omega)];exact hx1
   rw [Nat.zero_add] at z2
   rw [z2] at e
   cases e
   exact ⟨pa,pn,pc,⟨z0,z1,by rw [Nat.zero_add];exact z2,z3⟩,Zc.of hx2⟩
theorem xo.base {w:World}{base base':Nat}(hb:base'≤base):∀ (l:List Tok) (cs:List Value),xo w base l cs→xo w base' l cs
 | [],[],_=>trivial
 |_t :: ts,_a0 :: _a1 :: _a2 :: _a3 :: _a4 :: _a5 :: vs,h=>⟨h.1,h.2.1.base hb,xo.base hb ts vs h.2.2⟩
 | [],_ :: _,h=>h
 |_ :: _,[],h=>h
 |_ :: _,[_],h=>h
 |_ :: _,[_,_],h=>h
 |_ :: _,[_,_,_],h=>h
 |_ :: _,[_,_,_,_],h=>h
 |_ :: _,[_,_,_,_,_],h=>h
theorem xH.base {w:World}{base base':Nat}{v:Value}{l:List Tok}(h:xH w base v l)(hb:base'≤base):xH w base' v l:=by
 obtain ⟨cs,h1,h2⟩:=h
 exact ⟨cs,yD h1 hb,xo.base hb l cs h2⟩
theorem Va (s:ByteArray)(w:World)(z:Int)(hs:s.size≤200)(hc:(Ref.zG s).2<0)(he:(Ref.yF s).2.1=0)(hb:∀ t∈(Ref.yF s).1,Ref.jz t)(hz:Ref.XB (Ref.yF s).1 0 z)(h0:z<300)(h1:0≤z) :
  Calls Tryz.prog 17 #[.string s] w fun x w'=>∃ g,x = .returned (.tuple #[.pointer (some ⟨g,0,none⟩),.int .i64 0,.int .i64 0])∧zf (fun _=>False) w w'∧w.heap.size≤g∧w'.cell? ⟨g,1,none⟩=some (.int .i64 (z+1))∧∃ v,w'.cell? ⟨g,0,none⟩=some v∧xH w' w.heap.size v (Ref.yF s).1:=by
 have HG:=ze (Ref.ku hc)
 have HB:=ze hb
 have HZ:=ze hz
 have HL:=ze (Ref.Zt s)
 clear hb hz
 generalize hA:(Ref.zG s).2=A at *
 generalize hP:(Ref.yF s).2.2=P at *
 generalize hT:(Ref.yF s).1=ts at *
 go_enter Tryz.func17,Tryz.ntmps17
 go_wp2_with (first |(go_at_call 35;refine (kh s _ (by omega)).mono ?_;rintro e w1 ⟨v,rfl,hv,hO1⟩;rw [hA];obtain ⟨pa,pn,pc,rfl⟩:=zr hv) |(go_at_call 36;refine (YJ s _ (by omega) (zb HG)).mono ?_;rintro e w2 ⟨v2,rfl,hv2,hO2⟩;rw [he,hP];rw [hT] at hv2;obtain ⟨qa,qn,qc,rfl⟩:=zr hv2.choose_spec.1;have HV2:=ze hv2;clear hv2) |(go_at_call 37;refine (Ja (zb HV2) (by have:=zb HL;omega) (zb HB) (zb HZ)).mono ?_;rintro e w3 ⟨rfl,hO3⟩))
 go_ret3
 exact ⟨_,rfl,((hO1.trans hO2).trans hO3).alloc _,((hO1.trans hO2).trans hO3).size,zo _ _ rfl _ _ 1 _ rfl,_,zo _ _ rfl _ _ 0 _ rfl,((zb HV2).base (by have:=hO1.size;omega)).keep (hO3.alloc _) (fun _ _ _ f=>f)⟩
theorem Vb:∀ f,WO f∧ThrOK f
 |0=>⟨WP,WR 0 WP⟩
 |f+1=>⟨WQ f (Vb f).2,WR (f+1) (WQ f (Vb f).2)⟩
theorem thr_nil {f F:Nat}{kids:List Tree}{cv fv:Value}{tx:List (Int×Int)}{xs:List Bool}{w:World}(hC:Eqv.kw (Eqv.xZ f) [] kids)(hX:Ctx w cv fv tx xs) :
  Calls Tryz.prog 50 #[.slice none 0 0,cv,fv] w (ZH w xs (Ref.altR tx F kids)):=by
 obtain ⟨t0,alts0,rfl,h6,hR⟩:=hC.open
 obtain ⟨hk,rfl⟩:=hR.nil
 have hxl:xs.length≤901:=by have:=hX.hx;have:=hX.hl;omega
 have hmk:=ko xs.length (by omega)
 have HM:Hid (yE (w.alloc (.cells (madeCells #[.bool false] xs.length) 4)) (.slice (some ⟨w.heap.size,0,none⟩) xs.length xs.length) (List.replicate xs.length false)):=by
  have:=(v7.made w xs.length).row (by simp) (cap:=xs.length) (by simp)
  exact ze (by simpa using this)
 have HO0:Hid (zf (fun _=>False) w (w.alloc (.cells (madeCells #[.bool false] xs.length) 4))):=(zf.refl _ _).alloc _
 have HB:Hid (yE (w.alloc (.cells (madeCells #[.bool false] xs.length) 4)) fv xs):=hX.f.keep (zb HO0)
 obtain ⟨gx,cx,rfl,_⟩:=hX.f
 have HE:Hid (∀ i j,(False∨i=j)↔Ref.altR tx F [t0] i j):=fun i j=>by
  have e:Ref.MM tx (F+1) t0 i j↔Sm.j4 (Ref.MM tx F) t0.kids i j:=by
   show Sm.M _ _ (F+1) t0 i j↔_
   unfold Sm.M
   rw [if_neg (by rw [h6];decide),if_neg (by rw [h6];decide),if_pos h6]
   rfl
  rw [hk] at e
  constructor
  ·rintro (h |h)
   ·exact h.elim
   ·exact ⟨t0,by simp,e.2 h⟩
  ·rintro ⟨t,ht,hm⟩
   simp at ht
   subst ht
   exact .inr (e.1 hm)
 clear hX hC h6 hR hk
 go_enter Tryz.func50,Tryz.ntmps50
 go_wp2_with fail
 refine wp_loop_rounds 1 ?_
 rw [rounds_succ]
 go_wp2_with (go_at_call 94;refine (vr _ _ _ xs _ (zb HM) (zb HB) (by simp) (by simp;omega)).mono ?_;rintro e w2 ⟨sv,rfl,hb2,hO2⟩;have HB2:=ze hb2;have HO2:=ze hO2;clear hb2 hO2)
 go_ret
 exact ⟨sv,_,rfl,zb HB2,((Ref.Img.none xs).or (Ref.Img.id xs)).congr (zb HE),(zb HO0).trans (zb HO2)⟩
theorem WS {kids:List Tree}{ts:List Tok}{v cv fv:Value}{tx:List (Int×Int)}{xs:List Bool}{w:World}(hC:Eqv.kw (Eqv.xZ 22) ts kids)(hB:∀ t∈ts,Ref.jz t)(hl:ts.length≤1000)(h:TokSl w v ts)(hX:Ctx w cv fv tx xs) :
  Calls Tryz.prog 50 #[v,cv,fv] w (ZH w xs (Ref.altR tx 67 kids)):=by
 rcases h with ⟨rfl,rfl⟩ |⟨g,cap,rfl,hc,hF⟩
 ·exact thr_nil hC hX
 ·exact (Vb 22).2 67 g 0 cap ts kids cv fv tx xs w (by omega) hC hB hF hl hc hX
namespace Ref
theorem Jq (s:ByteArray):∀ (f p:Nat) (acc:List (Int×Int)),acc.length≤p→p≤s.size→(xP s f p acc).1.length≤s.size
 |0,p,acc,h,hp=>by simp only [xP];omega
 |f+1,p,acc,h,hp=>by
  by_cases hlt:p<s.size
  ·cases ho:oneF s p with
   |none=>rw [qE hlt ho];show acc.length≤_;omega
   |some nc=>
    obtain ⟨n,c⟩:=nc
    rw [qb hlt ho]
    have:=qd ho
    exact Jq s f (p+n) _ (by simp;omega) (by omega)
  ·rw [jA hlt];show acc.length≤_;omega
theorem YF (s:ByteArray):(zG s).1.length≤s.size:=Jq s _ 0 [] (by simp) (by omega)
end Ref
theorem zcN (s:ByteArray)(w:World)(hs:400<s.size) :
  Calls Tryz.prog 49 #[.string s] w fun x w'=>x = .returned (.tuple #[.slice none 0 0,.int .i64 2,.int .i64 400])∧zf (fun _=>False) w w':=by
 go_enter Tryz.func49,Tryz.ntmps49
 go_wp2_with fail
 go_ret3
 exact ⟨rfl,zf.refl _ _⟩
theorem text_bad (s:ByteArray)(w:World)(hs:s.size≤400)(hc:0≤(Ref.zG s).2) :
  Calls Tryz.prog 49 #[.string s] w fun x w'=>x = .returned (.tuple #[.slice none 0 0,.int .i64 1,.int .i64 (Ref.zG s).2])∧zf (fun _=>False) w w':=by
 have HC:=ze (kh s w hs)
 generalize (Ref.zG s).2=b at *
 go_enter Tryz.func49,Tryz.ntmps49
 go_wp2_with (go_at_call 35;refine (zb HC).mono ?_;rintro e w1 ⟨v,rfl,hv,hO1⟩;obtain ⟨pa,pn,pc,rfl⟩:=zr hv;have HO1:=ze hO1;clear hv hO1)
 go_ret3
 exact ⟨rfl,zb HO1⟩
theorem zbT (s:ByteArray)(w:World)(hs:s.size≤400)(hc:(Ref.zG s).2<0) :
  Calls Tryz.prog 49 #[.string s] w fun x w'=>∃ pa pc,x = .returned (.tuple #[.slice pa (Ref.zG s).1.length pc,.int .i64 0,.int .i64 0])∧yU w' (.slice pa (Ref.zG s).1.length pc) (Ref.zG s).1∧zf (fun _=>False) w w':=by
 have HC:=ze (kh s w hs)
 generalize (Ref.zG s).2=b at *
 go_enter Tryz.func49,Tryz.ntmps49
 go_wp2_with (go_at_call 35;refine (zb HC).mono ?_;rintro e w1 ⟨v,rfl,hv,hO1⟩;have hp:=yU.of hv;obtain ⟨pa,pc,rfl⟩:=hp.len;have HP:=ze hp;have HO1:=ze hO1;clear hv hO1 hp)
 go_ret3
 exact ⟨pa,pc,rfl,zb HP,zb HO1⟩
structure PatR (w:World)(p:Nat)(ts:List Tok)(kids:List Tree):Prop where
 c0:∃ pa pc,w.cell? ⟨p,0,none⟩=some (.slice pa ts.length pc)∧TokSl w (.slice pa ts.length pc) ts
 toks:Eqv.kw (Eqv.xZ 22) ts kids
 tb:∀ t∈ts,Ref.jz t
 len:ts.length≤1000
theorem PatR.keep {w w':World}{p:Nat}{ts:List Tok}{kids:List Tree}(h:PatR w p ts kids)(k:zf (fun _=>False) w w'):PatR w' p ts kids:=by
 obtain ⟨pa,pc,h1,h2⟩:=h.c0
 exact ⟨⟨pa,pc,zg k _ _ h1 (fun f=>f),h2.keep k⟩,h.toks,h.tb,h.len⟩
def z8 (js:List Nat):List Value:=js.map fun (j:Nat)=>Value.int .i64 (j:Int)
def qG (n:Nat)(X:Nat→Prop)(js:List Nat):Prop:=js.Pairwise (· < ·)∧∀ j,j∈js↔j≤n∧X j
theorem Tryz.infoInt:(Tryz.prog.info? 3).map (fun i=>(i.zero,i.size,i.bytes))=some (some (.int .i64 0),1,8):=by kernel_rfl
theorem zcO (w:World)(n i:Nat):yE (w.alloc (.cells ((madeCells #[.bool false] n).setIfInBounds i (.bool true)) 4)) (.slice (some ⟨w.heap.size,0,none⟩) n n) ((List.replicate n false).set i true):=by
 refine ⟨w.heap.size,n,by simp,by simp,by simp,fun j b hj=>?_⟩
 have hjl:j<n:=by have:=(List.getElem?_eq_some_iff.1 hj).1;simpa using this
 refine zo w _ rfl _ _ j _ ?_
 by_cases e:i=j
 ·subst e
  rw [List.getElem?_set_self (by simpa using hjl)] at hj
  obtain rfl:=Option.some.inj hj
  rw [Array.getElem?_setIfInBounds_self_of_lt (by have:=Xg n i hjl;exact (Array.getElem?_eq_some_iff.1 this).1)]
 ·rw [List.getElem?_set_ne e,List.getElem?_replicate,if_pos hjl] at hj
  obtain rfl:=Option.some.inj hj
  rw [Array.getElem?_setIfInBounds_ne e]
  exact Xg n j hjl
theorem Jr {n i:Nat}(hi:i<n)(k:Nat):((List.replicate n false).set i true)[k]?=some true↔k=i:=by
 by_cases e:i=k
 ·subst e
  rw [List.getElem?_set_self (by simpa using hi)]
  simp
 ·rw [List.getElem?_set_ne e,List.getElem?_replicate]
  constructor
  ·intro h;split at h<;>simp at h
  ·intro h;exact absurd h.symm e
theorem rends_ok (p:Nat)(s:ByteArray)(i:Nat)(ts:List Tok)(kids:List Tree)(w:World)(hP:PatR w p ts kids)(hs:s.size≤400)(hc:(Ref.zG s).2<0)(hi:i≤(Ref.zG s).1.length) :
  Calls Tryz.prog 25 #[.pointer (some ⟨p,0,none⟩),.string s,.int .i64 i] w fun x w'=>∃ sv js,x = .returned (.tuple #[sv,.int .i64 0,.int .i64 0])∧w'.ownsRow w.heap.size 3 1 sv js.length (z8 js)∧qG (Ref.zG s).1.length (Ref.altR (Ref.zG s).1 67 kids i) js∧zf (fun _=>False) w w':=by
 obtain ⟨i0,hi0,hz0,hz1,hz2⟩:=info_parts Tryz.infoInt
 have HT:=ze (zbT s w hs hc)
 have hlen:(Ref.zG s).1.length≤400:=Nat.le_trans (Ref.YF s) hs
 obtain ⟨qa,qc,hq0,hq1⟩:=hP.c0
 have HP:=ze hP
 have HQ:=ze hq1
 clear hP hc hq1
 generalize (Ref.zG s).1=tx at *
 have hmk:=ko (tx.length+1) (by omega)
 simp only [Int.natCast_add,Int.natCast_one] at hmk
 have hiI:(i:Int)≤(tx.length:Int):=by omega
 have hst1:∀ W:World,(W.alloc (.cells (madeCells #[.bool false] (tx.length+1)) 4)).cell? ⟨W.heap.size,i,none⟩=some (.bool false):=fun W=>zo W _ rfl _ _ i _ (Xg _ _ (by omega))
 have hst2:∀ W:World,(W.alloc (.cells (madeCells #[.bool false] (tx.length+1)) 4)).frozen? ⟨W.heap.size,i,none⟩=false:=fun W=>zv W _ rfl _ _ i
 go_enter Tryz.func25,Tryz.ntmps25
 go_wp2_with (first
  |(go_at_call 49;refine (zb HT).mono ?_;rintro e w1 ⟨pa,pc,rfl,hp1,hO1⟩;have hcell:∀ o,(w1.alloc o).cell? ⟨p,0,none⟩=some (.slice qa ts.length qc):=(fun o=>zg (hO1.alloc o) _ _ hq0 (fun f=>f));have HP1:=ze hp1;have HO1:=ze hO1;clear hp1 hO1)
  |(go_at_call 50;refine (WS (zb HP).toks (zb HP).tb (zb HP).len (((zb HQ).keep (zb HO1)).keep ((zf.refl _ _).alloc _)) ⟨(zb HP1).keep ((zf.refl _ _).alloc _),zcO w1 (tx.length+1) i,by omega,by simp⟩).mono ?_;rintro e w2 ⟨sv2,ys,rfl,hb2,hi2,hO2⟩;have HB2:=ze hb2;have HI2:=ze hi2;have HO2:=ze (((zb HO1).alloc _).trans hO2);clear hb2 hi2 hO2))
 clear hcell hmk hst1 hst2
 have hys:ys.length=tx.length+1:=by have:=(zb HI2).1;simpa using this
 have hyl:ys.length≤401:=by omega
 obtain ⟨gy,cy,rfl,hcy,hgy,hyc⟩:=(zb HB2)
 have HYC:=ze hyc
 clear hyc
 have HYS:=ze hys
 clear hys
 go_loopw [14,15] (fun lv k wr=>∃ (n:Nat) (js:List Nat),k = .int .i64 n∧n≤ys.length∧js.length≤n∧Hid (zf (fun _=>False) w2 wr)∧Hid (wr.ownsRow w2.heap.size 3 1 lv js.length (z8 js))∧Hid (js.Pairwise (· < ·)∧∀ j,j∈js↔j<n∧ys[j]?=some true)) (fun _ k _=>ys.length-(intOf k).toNat)
 case atStart=>exact ⟨0,[],rfl,by omega,by simp,zf.refl _ _,World.ownsRow_nil _ _ _ _,⟨List.Pairwise.nil,fun j=>by simp⟩⟩
 case round=>
  obtain ⟨n,js,rfl,hn,hjl,HK,HW,HJ⟩:=hrel
  obtain ⟨ga,na,ca,rfl⟩:=zr (zb HW)
  by_cases hlt:n<ys.length
  ·have hc1:=zg (zb HK) _ _ (zb HYC n ys[n] (List.getElem?_eq_getElem hlt)) (fun f=>f)
   have hget:ys[n]?=some ys[n]:=List.getElem?_eq_getElem hlt
   have hsz:=(zb HK).size
   have hsz2:=(zb HO2).size
   cases hb:ys[n]
   ·rw [hb] at hc1 hget
    have HJ1:Hid (js.Pairwise (· < ·)∧∀ j,j∈js↔j<n+1∧ys[j]?=some true):=⟨(zb HJ).1,fun j=>by
     rw [(zb HJ).2 j]
     constructor
     ·rintro ⟨h1,h2⟩;exact ⟨by omega,h2⟩
     ·rintro ⟨h1,h2⟩
      refine ⟨?_,h2⟩
      by_cases e:j=n
      ·subst e;rw [hget] at h2;cases h2
      ·omega⟩
    clear hb hget
    go_wp2_with fail
    exact ⟨⟨n+1,js,by go_num,by omega,by omega,HK,HW,HJ1⟩,by simp [intOf];omega⟩
   ·rw [hb] at hc1 hget
    have HJ1:Hid ((js++[n]).Pairwise (· < ·)∧∀ j,j∈js++[n]↔j<n+1∧ys[j]?=some true):=⟨by
      rw [List.pairwise_append]
      refine ⟨(zb HJ).1,by simp,fun a ha b hb=>?_⟩
      simp at hb
      subst hb
      exact (((zb HJ).2 a).1 ha).1,fun j=>by
     rw [List.mem_append,(zb HJ).2 j]
     constructor
     ·rintro (⟨h1,h2⟩ |h)
      ·exact ⟨by omega,h2⟩
      ·simp at h;subst h;exact ⟨by omega,hget⟩
     ·rintro ⟨h1,h2⟩
      by_cases e:j=n
      ·right;simp [e]
      ·left;exact ⟨by omega,h2⟩⟩
    clear hb hget
    go_wp2_with (at_builtin;refine wpList_append_own _ rfl _ _ 23 rfl w2.heap.size 3 i0 (.int .i64 0) 1 8 Tryz.underlying23 hi0 hz0 hz1 hz2 rfl (by decide) _ _ _ rfl (World.ownsRow.alloc (zb HW) _) _ 1 1 [.int .i64 (n:Int)] rfl rfl (cell_one_new _ _ _) (fun x hx=>by simp at hx;subst hx;rfl) (by unfold maxLen;omega) (by omega) (by simp;omega) ?_;intro v' w4 hown' hgrow hnil;have Hown4:=ze hown';have Hgr:=ze hgrow;clear hown' hgrow hnil)
    have hO4:zf (fun _=>False) w2 w4:=((zb HK).alloc _).grown (zb Hgr) (fun j hj=>Or.inr (zh (zb HW) j hj).1)
    exact ⟨⟨n+1,js++[n],by go_num,by omega,by simp;omega,hO4,(by show World.ownsRow _ _ _ _ _ _ _;unfold z8;rw [List.length_append,List.map_append];exact zb Hown4),HJ1⟩,by simp [intOf];omega⟩
  ·go_wp2_with fail
   go_ret3
   refine ⟨_,js,rfl,yD (zb HW) (zb HO2).size,⟨(zb HJ).1,fun j=>?_⟩,(zb HO2).trans (zb HK)⟩
   rw [(zb HJ).2 j,(zb HI2).2 j]
   have hys:=zb HYS
   simp only [List.length_set,List.length_replicate]
   constructor
   ·rintro ⟨_,h1,k,h2,h3⟩
    rw [Jr (by omega)] at h2
    subst h2
    exact ⟨by omega,h3⟩
   ·rintro ⟨h1,h2⟩
    exact ⟨by omega,by omega,i,(Jr (by omega) i).2 rfl,h2⟩
theorem Js (p:Nat)(s:ByteArray)(i k a:Int)(w:World)(hk:k≠0)(hT:Calls Tryz.prog 49 #[.string s] w fun x w'=>x = .returned (.tuple #[.slice none 0 0,.int .i64 k,.int .i64 a])∧zf (fun _=>False) w w') :
  Calls Tryz.prog 25 #[.pointer (some ⟨p,0,none⟩),.string s,.int .i64 i] w fun x w'=>x = .returned (.tuple #[.slice none 0 0,.int .i64 k,.int .i64 a])∧zf (fun _=>False) w w':=by
 have HT:=ze hT
 have hkb:(k != 0)=true:=by simp [hk]
 clear hT hk
 go_enter Tryz.func25,Tryz.ntmps25
 go_wp2_with (go_at_call 49;refine (zb HT).mono ?_;rintro e w1 ⟨rfl,hO1⟩)
 go_ret3
 exact ⟨rfl,hO1⟩
theorem zcP (p:Nat)(s:ByteArray)(i:Int)(w:World)(hs:s.size≤400)(hc:(Ref.zG s).2<0)(hi:i<0∨((Ref.zG s).1.length:Int)<i) :
  Calls Tryz.prog 25 #[.pointer (some ⟨p,0,none⟩),.string s,.int .i64 i] w fun x w'=>x = .returned (.tuple #[.slice none 0 0,.int .i64 9,.int .i64 0])∧zf (fun _=>False) w w':=by
 have HT:=ze (zbT s w hs hc)
 generalize (Ref.zG s).1=tx at *
 by_cases h0:i<0
 ·have hd:decide (i<0)=true:=by simp [h0]
  clear hi hc
  go_enter Tryz.func25,Tryz.ntmps25
  go_wp2_with (go_at_call 49;refine (zb HT).mono ?_;rintro e w1 ⟨pa,pc,rfl,_,hO1⟩)
  go_ret3
  exact ⟨rfl,hO1⟩
 ·have h1:(tx.length:Int)<i:=by omega
  have hd:decide (i<0)=false:=by simp;omega
  clear hi hc
  go_enter Tryz.func25,Tryz.ntmps25
  go_wp2_with (go_at_call 49;refine (zb HT).mono ?_;rintro e w1 ⟨pa,pc,rfl,_,hO1⟩)
  go_ret3
  exact ⟨rfl,hO1⟩
end
section
open Sm (Tree)
namespace Eqv
theorem Jt {A:List Tok→Tree→Prop}{Q:Tree→Prop}(h:∀ a t,A a t→Q t):∀ (ts:List Tok) (l:List Tree),TokS A ts l→∀ t∈l,Q t
 |_,[],_,t,ht=>by cases ht
 |ts,x :: r,hh,t,ht=>by
  obtain ⟨a,b,_,h1,h2⟩:=hh
  rcases List.mem_cons.1 ht with rfl |ht
  ·exact h a t h1
  ·exact Jt h b r h2 t ht
theorem WT {A:List Tok→Tree→Prop}:∀ (ts:List Tok) (l:List Tree),TokP A ts l→∀ t∈l,t.kind=6∧∃ a,TokS A a t.kids
 |_,[],_,t,ht=>by cases ht
 |ts,x :: r,hh,t,ht=>by
  obtain ⟨a,b,bar,_,_,h3,h4,h5⟩:=hh
  rcases List.mem_cons.1 ht with rfl |ht
  ·exact ⟨h3,a,h4⟩
  ·exact WT b r h5 t ht
theorem WU {A:List Tok→Tree→Prop}{ts:List Tok}{l:List Tree}(h:kw A ts l):l≠[]∧∀ t∈l,t.kind=6∧∃ a,TokS A a t.kids:=by
 obtain ⟨pre,fin,init,last,_,rfl,h1,h2,h3⟩:=h
 refine ⟨by simp,fun t ht=>?_⟩
 rcases List.mem_append.1 ht with ht |ht
 ·exact WT _ _ h1 t ht
 ·obtain rfl:=List.mem_singleton.1 ht
  exact ⟨h2,fin,h3⟩
end Eqv
theorem za3:∀ (f F:Nat)(ts:List Tok)(T:Tree),Eqv.xZ f ts T→Sm.WF F T→Sm.WF (3*f+1) T
 |0,_,_,_,h,_=>h.elim
 |_+1,0,_,_,_,h=>h.elim
 |f+1,F+1,ts,T,h,hw=>by
  rw [show 3*(f+1)+1=(3*f+3)+1 by omega]
  have leaf:T.kind≤4→Sm.WF ((3*f+3)+1) T:=fun hk=>⟨fun e=>by omega,fun e=>by omega,fun e=>by omega⟩
  rcases h with ⟨h1,_⟩ |⟨t,_,_,h1⟩ |⟨h1,o,c,us,_,_,_,_,h6⟩ |⟨h1,us,q,_,_,_,_,_,h7⟩
  ·exact leaf (by omega)
  ·exact leaf h1.1.2
  ·obtain ⟨h2,h3⟩:=Eqv.WU h6
   refine ⟨fun _=>h2,fun _ t ht=>?_,fun e=>by omega⟩
   obtain ⟨k1,a,k2⟩:=h3 t ht
   have hwt:=hw.2.1 (.inl h1) t ht
   show Sm.WF ((3*f+2)+1) t
   refine ⟨fun e=>by omega,fun _ u hu=>?_,fun e=>by omega⟩
   cases F with
   |zero=>exact hwt.elim
   |succ F=>
    have hwu:=hwt.2.1 (.inr k1) u hu
    obtain ⟨b,hb⟩:=Eqv.Jt (Q:=fun t=>∃ b,Eqv.xZ f b t) (fun a t h=>⟨a,h⟩) a t.kids k2 u hu
    exact Sm.WF.up (za3 f F b u hb hwu) (by omega)
  ·refine ⟨fun e=>by omega,fun e=>by omega,fun _=>⟨?_,(hw.2.2 h1).2⟩⟩
   exact Sm.WF.up (za3 f F us T.kid h7 (hw.2.2 h1).1) (by omega)
theorem tokC_wf {F:Nat}{ts:List Tok}{T:Tree}(h:Eqv.kw (Eqv.xZ 22) ts T.kids)(h5:T.kind=5)(hw:Sm.WF F T):Sm.WF 69 T:=by
 obtain ⟨h2,h3⟩:=Eqv.WU h
 cases F with
 |zero=>exact hw.elim
 |succ F=>
  refine ⟨fun _=>h2,fun _ t ht=>?_,fun e=>by omega⟩
  obtain ⟨k1,a,k2⟩:=h3 t ht
  have hwt:=hw.2.1 (.inl h5) t ht
  show Sm.WF (67+1) t
  refine ⟨fun e=>by omega,fun _ u hu=>?_,fun e=>by omega⟩
  cases F with
  |zero=>exact hwt.elim
  |succ F=>
   obtain ⟨b,hb⟩:=Eqv.Jt (Q:=fun t=>∃ b,Eqv.xZ 22 b t) (fun a t h=>⟨a,h⟩) a t.kids k2 u hu
   exact za3 22 F b u hb (hwt.2.1 (.inr k1) u hu)
theorem prg_altR {F:Nat}{ts:List Tok}{T:Tree}(h:Eqv.kw (Eqv.xZ 22) ts T.kids)(h5:T.kind=5)(hw:Sm.WF F T)(l:List (Int×Int))(i j:Nat) :
  Sm.Goes (Ref.lfT l) (Ref.ahT l) (Sm.prg F T).2 (Sm.prg F T).1 i 0 j↔Ref.altR l 67 T.kids i j:=by
 rw [Sm.zb4 hw]
 have e:=Sm.M_any (lf:=Ref.lfT l) (ah:=Ref.ahT l) hw (tokC_wf h h5 hw) i j
 rw [←e]
 show (if T.kind=0 then _ else if T.kind=5 then ∃ t∈T.kids,Sm.M (Ref.lfT l) (Ref.ahT l) 68 t i j else _)↔_
 rw [if_neg (by omega),if_pos h5]
 exact Iff.rfl
end
end Go.Proofs.YtnagphodmfejiaaGreatDoor
