/- The reference's tokens, one by one. -/
import Derived.Test.YtnagphodmfejiaaGreatDoorX4
namespace Go.Proofs.YtnagphodmfejiaaGreatDoor
section
open Go.RowKit
set_option maxHeartbeats 3200000
set_option maxRecDepth 100000
structure Tok where
 kind:Int
 neg:Bool
 parts:List Pt
 c:Int
 mn:Int
 mx:Int
namespace Ref
def kF (b:Int):Bool:=(b == 42) ||(b == 43) ||(b == 63) ||(b == 123) ||(b == 125) ||(b == 93)
def zy (s:ByteArray)(st:St):Tok×St:=
 if zd s st.i=94∨zd s st.i=36 then (⟨2,false,[],zd s st.i,0,0⟩,st.go 1)
 else if zd s st.i=92∧(zd s (st.i+1)=98∨zd s (st.i+1)=66) then (⟨2,false,[],zd s (st.i+1),0,0⟩,st.go 2)
 else if zd s st.i=124 then (⟨5,false,[],0,0,0⟩,st.go 1)
 else if zd s st.i=46 then (⟨1,true,[⟨false,[(10,10),(13,13),(8232,8233)]⟩],0,0,0⟩,st.go 1)
 else if zd s st.i=91 then (⟨1,notB s (st.go 1),(xm s (st.go 1)).1,0,0,0⟩,(xm s (st.go 1)).2)
 else if zd s st.i=92 then (⟨1,false,[(zI s false st).1],0,0,0⟩,(zI s false st).2.2)
 else if zd s st.i=40 then (⟨3,false,[],0,0,0⟩,jF s st)
 else if zd s st.i=41 then (⟨4,false,[],0,0,0⟩,st.go 1)
 else if kF (zd s st.i)=true then (⟨0,false,[],0,0,0⟩,st.fail 3 st.i)
 else match oneF s st.i with
  |some (n,c)=>(⟨1,false,[⟨false,[(c,c)]⟩],0,0,0⟩,st.go n)
  |none=>(⟨0,false,[],0,0,0⟩,st)
end Ref
theorem XO (W:World)(n base:Nat)(hn:W.heap.size=n)(hb:base≤n)(c:Array Value)(p:Pt)(sv:Value)(hc:c.toList=[.bool p.neg,sv])(hs:yB W base sv p.spans) :
  PartsAt (W.alloc (.cells c 274)) base (.slice (some ⟨n,0,none⟩) 1 1) [p]:=by
 subst hn
 refine ⟨[.bool p.neg,sv],⟨rfl,.inr ⟨W.heap.size,1,c,rfl,hb,heap_alloc_new W _,Nat.le_refl _,by simp [maxLen],?_,?_⟩⟩,rfl,hs.keep ((zf.refl (fun _=>False) W).alloc _) (fun _ _ _ f=>f),trivial⟩
 ·rw [←Array.length_toList,hc];rfl
 ·rw [hc];rfl
theorem zc9 (b:Nat)(s:ByteArray)(st:St)(w:World)(h:Lex w b s st)(hs:s.size≤400)(hi:st.i<s.size)(hg:Ref.Good s st.i)(he:st.e=0) :
  Calls Tryz.prog 71 #[.pointer (some ⟨b,0,none⟩)] w fun x w'=>
   ∃ pv,x = .returned (.agg #[.int .i64 (Ref.zy s st).1.kind,.bool (Ref.zy s st).1.neg,pv,.int .i64 (Ref.zy s st).1.c,.int .i64 (Ref.zy s st).1.mn,.int .i64 (Ref.zy s st).1.mx])∧
    PartsAt w' w.heap.size pv (Ref.zy s st).1.parts∧Lex w' b s (Ref.zy s st).2∧zf (zm b) w w':=by
 have hlt:=h.lt
 have HE:=ze he
 have HG:=ze hg
 obtain ⟨on,oc,ho,hgn⟩:=hg.next hi
 have Ho:=ze ho
 have Hgn:=ze hgn
 clear he hg ho hgn
 have hL2:=ze (h.alloc (.cells #[.int .i64 0,.bool false,.slice none 0 0,.int .i64 0,.int .i64 0,.int .i64 0] 178))
 have hR2:=ze (Six.new (n:=w.heap.size) (a0:=.int .i64 0) (a1:=.bool false) (a2:=.slice none 0 0) (a3:=.int .i64 0) (a4:=.int .i64 0) (a5:=.int .i64 0) w 178 rfl)
 have hO2:=ze ((zf.refl (zm b) w).alloc (.cells #[.int .i64 0,.bool false,.slice none 0 0,.int .i64 0,.int .i64 0,.int .i64 0] 178))
 clear h
 have hwr:IntKind.i64.wrap ((st.i:Int)+1)=(st.i:Int)+1:=vt _ (by omega) (by omega)
 go_enter Tryz.func71,Tryz.ntmps71
 go_wp2_with fail
 refine (wR b s st _ (zb hL2) hs).mono ?_
 rintro e w1 ⟨rfl,hON⟩
 have hLN:=(zb hL2).keep hON (fun f=>f)
 have hRN:=(zb hR2).keep hON (fun f=>f)
 have hOO:=ze ((zb hO2).trans (hON.mono (fun _ _ f=>f.elim)))
 have hLL:=ze hLN
 have hRR:=ze hRN
 clear hON hL2 hR2 hO2
 obtain ⟨l0,l1,l2,l3,k1,k2,k3⟩:=hLN
 go_wp2_with fail
 go_quiet (fail)
 go_upto_if 20 with fail
 go_cut [4] (fun s4 wx=>s4 = .int .i64 (zd s (st.i+1))∧zf (fun _=>False) w1 wx)
 case first=>
  by_cases hn:st.i+1<s.size
  ·have hix:∀ wx,(Instr.index 9 (.string s) (.int .i64 ((st.i:Int)+1))).run Tryz.prog wx = .ok (.int .u8 ((s[st.i+1]'hn).toNat:Int)) wx:=fun wx=>wX s (st.i+1) hn _ (by omega) wx
   have hnd:(st.i:Int)+1<(s.size:Int):=by omega
   have hin:=ze (yT s (st.i+1) hn)
   go_wp2_with fail
   go_quiet (fail)
   go_wp2_with fail
   go_meet
   case rel=>exact ⟨by rw [zb hin];first |rfl |(rw [vO]) |(congr 1;rw [IntKind.wrap_i64];have:=(s[st.i+1]'hn).toNat_lt;omega),by first |exact ((zf.refl _ _).drewN _).drewN _ |exact (zf.refl _ _).drewN _⟩
  ·have hnd:¬(st.i:Int)+1<(s.size:Int):=by omega
   have hout:=ze (ql s (st.i+1) (by omega))
   go_wp2_with fail
   go_meet
   case rel=>exact ⟨by rw [zb hout],((zf.refl _ _).drewN _)⟩
 case rest=>
  obtain ⟨rfl,hcO⟩:=hcut
  have hLc:=(zb hLL).keep hcO (fun f=>f)
  have hRc:=(zb hRR).keep hcO (fun f=>f)
  have hO3:=ze ((zb hOO).trans (hcO.mono (fun _ _ f=>f.elim)))
  clear l0 l1 l2 l3 k1 k2 k3 hLL hRR hOO hwr hcO
  have hLL:=ze hLc
  have hRR:=ze hRc
  have hOO:=ze (zb hO3)
  clear hO3
  obtain ⟨l0,l1,l2,l3,k1,k2,k3⟩:=hLc
  obtain ⟨r0,r1,r2,r3,r4,r5,u0,u1,u2,u3,u4,u5⟩:=hRc
  by_cases x:zd s st.i=94
  ·skip
   have h94:(zd s st.i == 94)=true:=by simp [x]
   have h36:(zd s st.i == 36)=false:=by simp [x]
   have h92:(zd s st.i == 92)=false:=by simp [x]
   have h124:(zd s st.i == 124)=false:=by simp [x]
   have h46:(zd s st.i == 46)=false:=by simp [x]
   have h91:(zd s st.i == 91)=false:=by simp [x]
   have h40:(zd s st.i == 40)=false:=by simp [x]
   have h41:(zd s st.i == 41)=false:=by simp [x]
   have h42:(zd s st.i == 42)=false:=by simp [x]
   have h43:(zd s st.i == 43)=false:=by simp [x]
   have h63:(zd s st.i == 63)=false:=by simp [x]
   have h123:(zd s st.i == 123)=false:=by simp [x]
   have h125:(zd s st.i == 125)=false:=by simp [x]
   have h93:(zd s st.i == 93)=false:=by simp [x]
   have HH:Hid (Ref.zy s st=(⟨2,false,[],zd s st.i,0,0⟩,st.go 1)):=by show _=_;unfold Ref.zy;rw [if_pos (Or.inl x)]
   clear x
   go_wp2_with fail
   refine bodyPost_ret (v:=.agg #[.int .i64 2,.bool false,.slice none 0 0,.int .i64 (zd s st.i),.int .i64 0,.int .i64 0]) (by simp [results,Tryz.results71,go_sem,r0,r1,r2,r3,r4,r5]) rfl ?_
   rw [zb HH]
   exact ⟨_,rfl,PartsAt.nil _ _,((zb hLL).setI _ 1 (by omega)).keep (zf.six w.heap.size _ _ _ _ _ _ _) (by unfold zm;omega),((zb hOO).mine 1 _).young (zf.six w.heap.size _ _ _ _ _ _ _) (Nat.le_refl _)⟩
  have n94:=ze x
  clear x
  by_cases x:zd s st.i=36
  ·skip
   have h94:(zd s st.i == 94)=false:=by simp [x]
   have h36:(zd s st.i == 36)=true:=by simp [x]
   have h92:(zd s st.i == 92)=false:=by simp [x]
   have h124:(zd s st.i == 124)=false:=by simp [x]
   have h46:(zd s st.i == 46)=false:=by simp [x]
   have h91:(zd s st.i == 91)=false:=by simp [x]
   have h40:(zd s st.i == 40)=false:=by simp [x]
   have h41:(zd s st.i == 41)=false:=by simp [x]
   have h42:(zd s st.i == 42)=false:=by simp [x]
   have h43:(zd s st.i == 43)=false:=by simp [x]
   have h63:(zd s st.i == 63)=false:=by simp [x]
   have h123:(zd s st.i == 123)=false:=by simp [x]
   have h125:(zd s st.i == 125)=false:=by simp [x]
   have h93:(zd s st.i == 93)=false:=by simp [x]
   have HH:Hid (Ref.zy s st=(⟨2,false,[],zd s st.i,0,0⟩,st.go 1)):=by show _=_;unfold Ref.zy;rw [if_pos (Or.inr x)]
   clear x
   go_wp2_with fail
   refine bodyPost_ret (v:=.agg #[.int .i64 2,.bool false,.slice none 0 0,.int .i64 (zd s st.i),.int .i64 0,.int .i64 0]) (by simp [results,Tryz.results71,go_sem,r0,r1,r2,r3,r4,r5]) rfl ?_
   rw [zb HH]
   exact ⟨_,rfl,PartsAt.nil _ _,((zb hLL).setI _ 1 (by omega)).keep (zf.six w.heap.size _ _ _ _ _ _ _) (by unfold zm;omega),((zb hOO).mine 1 _).young (zf.six w.heap.size _ _ _ _ _ _ _) (Nat.le_refl _)⟩
  have n36:=ze x
  clear x
  by_cases x:zd s st.i=92
  ·skip
   have h94:(zd s st.i == 94)=false:=by simp [x]
   have h36:(zd s st.i == 36)=false:=by simp [x]
   have h92:(zd s st.i == 92)=true:=by simp [x]
   have h124:(zd s st.i == 124)=false:=by simp [x]
   have h46:(zd s st.i == 46)=false:=by simp [x]
   have h91:(zd s st.i == 91)=false:=by simp [x]
   have h40:(zd s st.i == 40)=false:=by simp [x]
   have h41:(zd s st.i == 41)=false:=by simp [x]
   have h42:(zd s st.i == 42)=false:=by simp [x]
   have h43:(zd s st.i == 43)=false:=by simp [x]
   have h63:(zd s st.i == 63)=false:=by simp [x]
   have h123:(zd s st.i == 123)=false:=by simp [x]
   have h125:(zd s st.i == 125)=false:=by simp [x]
   have h93:(zd s st.i == 93)=false:=by simp [x]
   by_cases y:zd s (st.i+1)=98
   ·have y1:(zd s (st.i+1) == 98)=true:=by simp [y]
    have HH:Hid (Ref.zy s st=(⟨2,false,[],zd s (st.i+1),0,0⟩,st.go 2)):=by show _=_;unfold Ref.zy;rw [if_neg (by omega),if_pos ⟨x,by omega⟩]
    clear x y
    go_wp2_with fail
    refine bodyPost_ret (v:=.agg #[.int .i64 2,.bool false,.slice none 0 0,.int .i64 (zd s (st.i+1)),.int .i64 0,.int .i64 0]) (by simp [results,Tryz.results71,go_sem,r0,r1,r2,r3,r4,r5]) rfl ?_
    rw [zb HH]
    exact ⟨_,rfl,PartsAt.nil _ _,((zb hLL).setI _ 2 (by omega)).keep (zf.six w.heap.size _ _ _ _ _ _ _) (by unfold zm;omega),((zb hOO).mine 1 _).young (zf.six w.heap.size _ _ _ _ _ _ _) (Nat.le_refl _)⟩
   have z98:(zd s (st.i+1) == 98)=false:=by simp [y]
   have Z98:=ze y
   clear y
   by_cases y:zd s (st.i+1)=66
   ·have y1:(zd s (st.i+1) == 66)=true:=by simp [y]
    have y2:(zd s (st.i+1) == 98)=false:=by simp [y]
    have HH:Hid (Ref.zy s st=(⟨2,false,[],zd s (st.i+1),0,0⟩,st.go 2)):=by show _=_;unfold Ref.zy;rw [if_neg (by omega),if_pos ⟨x,by omega⟩]
    clear x y
    go_wp2_with fail
    refine bodyPost_ret (v:=.agg #[.int .i64 2,.bool false,.slice none 0 0,.int .i64 (zd s (st.i+1)),.int .i64 0,.int .i64 0]) (by simp [results,Tryz.results71,go_sem,r0,r1,r2,r3,r4,r5]) rfl ?_
    rw [zb HH]
    exact ⟨_,rfl,PartsAt.nil _ _,((zb hLL).setI _ 2 (by omega)).keep (zf.six w.heap.size _ _ _ _ _ _ _) (by unfold zm;omega),((zb hOO).mine 1 _).young (zf.six w.heap.size _ _ _ _ _ _ _) (Nat.le_refl _)⟩
   have z66:(zd s (st.i+1) == 66)=false:=by simp [y]
   have Z66:=ze y
   clear y
   have HH:Hid (Ref.zy s st=(⟨1,false,[(Ref.zI s false st).1],0,0,0⟩,(Ref.zI s false st).2.2)):=by
    show _=_;unfold Ref.zy
    have q1:=zb Z98
    have q2:=zb Z66
    rw [if_neg (by omega),if_neg (by omega),if_neg (by omega),if_neg (by omega),if_neg (by omega),if_pos x]
   clear x
   go_wp2_with fail
   refine (QD b s false st _ (zb hLL) hs hi).mono ?_
   rintro e w5 ⟨sv,rfl,hsp,hL5,hO5⟩
   have hR5:=(zb hRR).keep hO5 (by unfold zm;omega)
   obtain ⟨sa,sn,sc,rfl⟩:=zr hsp
   have HS:=ze (hsp.base (base':=w.heap.size+1) (by have:=Six.lt (zb hRR);omega))
   have HL5:=ze hL5
   have HO5:=ze ((zb hOO).trans hO5)
   have hsz5:w.heap.size<w5.heap.size:=hR5.lt
   clear hsp hL5 hO5 l0 l1 l2 l3 k1 k2 k3 r0 r1 r2 r3 r4 r5 u0 u1 u2 u3 u4 u5
   obtain ⟨r0,r1,r2,r3,r4,r5,u0,u1,u2,u3,u4,u5⟩:=hR5
   go_wp2_with fail
   refine bodyPost_ret (v:=.agg #[.int .i64 1,.bool false,.slice (some ⟨w5.heap.size+1,0,none⟩) 1 1,.int .i64 0,.int .i64 0,.int .i64 0]) (by simp [results,Tryz.results71,go_sem,r0,r1,r2,r3,r4,r5,hsz5]) rfl ?_
   rw [zb HH]
   refine ⟨_,rfl,?_,?_,?_⟩
   ·exact XO _ _ _ (by simp) (by omega) _ (Ref.zI s false st).1 (.slice sa sn sc) rfl (((zb HS).keep ((zf.six w.heap.size w5 _ _ _ _ _ _).alloc _) (by intro g hg _ hh;unfold zm at hh;omega)).base (by omega))
   ·exact (((zb HL5).keep (zf.six w.heap.size _ _ _ _ _ _ _) (by unfold zm;omega)).alloc _).alloc _
   ·exact (((zb HO5).young (zf.six w.heap.size _ _ _ _ _ _ _) (Nat.le_refl _)).alloc _).alloc _
  have n92:=ze x
  clear x
  by_cases x:zd s st.i=124
  ·skip
   have h94:(zd s st.i == 94)=false:=by simp [x]
   have h36:(zd s st.i == 36)=false:=by simp [x]
   have h92:(zd s st.i == 92)=false:=by simp [x]
   have h124:(zd s st.i == 124)=true:=by simp [x]
   have h46:(zd s st.i == 46)=false:=by simp [x]
   have h91:(zd s st.i == 91)=false:=by simp [x]
   have h40:(zd s st.i == 40)=false:=by simp [x]
   have h41:(zd s st.i == 41)=false:=by simp [x]
   have h42:(zd s st.i == 42)=false:=by simp [x]
   have h43:(zd s st.i == 43)=false:=by simp [x]
   have h63:(zd s st.i == 63)=false:=by simp [x]
   have h123:(zd s st.i == 123)=false:=by simp [x]
   have h125:(zd s st.i == 125)=false:=by simp [x]
   have h93:(zd s st.i == 93)=false:=by simp [x]
   have HH:Hid (Ref.zy s st=(⟨5,false,[],0,0,0⟩,st.go 1)):=by show _=_;unfold Ref.zy;rw [if_neg (by omega),if_neg (by omega),if_pos x]
   clear x
   go_wp2_with fail
   refine bodyPost_ret (v:=.agg #[.int .i64 5,.bool false,.slice none 0 0,.int .i64 (0),.int .i64 0,.int .i64 0]) (by simp [results,Tryz.results71,go_sem,r0,r1,r2,r3,r4,r5]) rfl ?_
   rw [zb HH]
   exact ⟨_,rfl,PartsAt.nil _ _,((zb hLL).setI _ 1 (by omega)).keep (zf.six w.heap.size _ _ _ _ _ _ _) (by unfold zm;omega),((zb hOO).mine 1 _).young (zf.six w.heap.size _ _ _ _ _ _ _) (Nat.le_refl _)⟩
  have n124:=ze x
  clear x
  by_cases x:zd s st.i=41
  ·skip
   have h94:(zd s st.i == 94)=false:=by simp [x]
   have h36:(zd s st.i == 36)=false:=by simp [x]
   have h92:(zd s st.i == 92)=false:=by simp [x]
   have h124:(zd s st.i == 124)=false:=by simp [x]
   have h46:(zd s st.i == 46)=false:=by simp [x]
   have h91:(zd s st.i == 91)=false:=by simp [x]
   have h40:(zd s st.i == 40)=false:=by simp [x]
   have h41:(zd s st.i == 41)=true:=by simp [x]
   have h42:(zd s st.i == 42)=false:=by simp [x]
   have h43:(zd s st.i == 43)=false:=by simp [x]
   have h63:(zd s st.i == 63)=false:=by simp [x]
   have h123:(zd s st.i == 123)=false:=by simp [x]
   have h125:(zd s st.i == 125)=false:=by simp [x]
   have h93:(zd s st.i == 93)=false:=by simp [x]
   have HH:Hid (Ref.zy s st=(⟨4,false,[],0,0,0⟩,st.go 1)):=by show _=_;unfold Ref.zy;rw [if_neg (by omega),if_neg (by omega),if_neg (by omega),if_neg (by omega),if_neg (by omega),if_neg (by omega),if_neg (by omega),if_pos x]
   clear x
   go_wp2_with fail
   refine bodyPost_ret (v:=.agg #[.int .i64 4,.bool false,.slice none 0 0,.int .i64 (0),.int .i64 0,.int .i64 0]) (by simp [results,Tryz.results71,go_sem,r0,r1,r2,r3,r4,r5]) rfl ?_
   rw [zb HH]
   exact ⟨_,rfl,PartsAt.nil _ _,((zb hLL).setI _ 1 (by omega)).keep (zf.six w.heap.size _ _ _ _ _ _ _) (by unfold zm;omega),((zb hOO).mine 1 _).young (zf.six w.heap.size _ _ _ _ _ _ _) (Nat.le_refl _)⟩
  have n41:=ze x
  clear x
  by_cases x:zd s st.i=46
  ·skip
   have h94:(zd s st.i == 94)=false:=by simp [x]
   have h36:(zd s st.i == 36)=false:=by simp [x]
   have h92:(zd s st.i == 92)=false:=by simp [x]
   have h124:(zd s st.i == 124)=false:=by simp [x]
   have h46:(zd s st.i == 46)=true:=by simp [x]
   have h91:(zd s st.i == 91)=false:=by simp [x]
   have h40:(zd s st.i == 40)=false:=by simp [x]
   have h41:(zd s st.i == 41)=false:=by simp [x]
   have h42:(zd s st.i == 42)=false:=by simp [x]
   have h43:(zd s st.i == 43)=false:=by simp [x]
   have h63:(zd s st.i == 63)=false:=by simp [x]
   have h123:(zd s st.i == 123)=false:=by simp [x]
   have h125:(zd s st.i == 125)=false:=by simp [x]
   have h93:(zd s st.i == 93)=false:=by simp [x]
   have HH:Hid (Ref.zy s st=(⟨1,true,[⟨false,[(10,10),(13,13),(8232,8233)]⟩],0,0,0⟩,st.go 1)):=by show _=_;unfold Ref.zy;rw [if_neg (by omega),if_neg (by omega),if_neg (by omega),if_pos x]
   have hszc:w.heap.size<wc.heap.size:=(zb hRR).lt
   clear x
   go_wp2_with fail
   refine bodyPost_ret (v:=.agg #[.int .i64 1,.bool true,.slice (some ⟨wc.heap.size+1,0,none⟩) 1 1,.int .i64 0,.int .i64 0,.int .i64 0]) (by simp [results,Tryz.results71,go_sem,r0,r1,r2,r3,r4,r5,hszc]) rfl ?_
   rw [zb HH]
   refine ⟨_,rfl,?_,?_,?_⟩
   ·exact XO _ _ _ (by simp) (by omega) _ ⟨false,[(10,10),(13,13),(8232,8233)]⟩ (.slice (some ⟨wc.heap.size,0,none⟩) 3 3) rfl (wy _ _ _ (by simp) (by omega) _ [(10,10),(13,13),(8232,8233)] rfl (by simp [maxLen]) 3 rfl)
   ·exact ((((zb hLL).setI _ 1 (by omega)).keep (zf.six w.heap.size _ _ _ _ _ _ _) (by unfold zm;omega)).alloc _).alloc _
   ·exact ((((zb hOO).mine 1 _).young (zf.six w.heap.size _ _ _ _ _ _ _) (Nat.le_refl _)).alloc _).alloc _
  have n46:=ze x
  clear x
  by_cases x:zd s st.i=91
  ·skip
   have h94:(zd s st.i == 94)=false:=by simp [x]
   have h36:(zd s st.i == 36)=false:=by simp [x]
   have h92:(zd s st.i == 92)=false:=by simp [x]
   have h124:(zd s st.i == 124)=false:=by simp [x]
   have h46:(zd s st.i == 46)=false:=by simp [x]
   have h91:(zd s st.i == 91)=true:=by simp [x]
   have h40:(zd s st.i == 40)=false:=by simp [x]
   have h41:(zd s st.i == 41)=false:=by simp [x]
   have h42:(zd s st.i == 42)=false:=by simp [x]
   have h43:(zd s st.i == 43)=false:=by simp [x]
   have h63:(zd s st.i == 63)=false:=by simp [x]
   have h123:(zd s st.i == 123)=false:=by simp [x]
   have h125:(zd s st.i == 125)=false:=by simp [x]
   have h93:(zd s st.i == 93)=false:=by simp [x]
   have HH:Hid (Ref.zy s st=(⟨1,Ref.notB s (st.go 1),(Ref.xm s (st.go 1)).1,0,0,0⟩,(Ref.xm s (st.go 1)).2)):=by show _=_;unfold Ref.zy;rw [if_neg (by omega),if_neg (by omega),if_neg (by omega),if_neg (by omega),if_pos x]
   have hg1:Ref.Good s (st.go 1).i:=(zb HG).ascii (by omega) (by omega)
   clear x
   go_wp2_with fail
   have hA:=(zf.refl (zm b) wc).mine 1 (.int .i64 ((st.i:Int)+1))
   refine (zc0 b s (st.go 1) _ ((zb hLL).setI ((st.i:Int)+1) 1 (by omega)) hs hg1 (zb HE)).mono ?_
   rintro e w5 ⟨pv,rfl,hpt,hL5,hO5⟩
   have hB:=hA.trans hO5
   have hR5:=(zb hRR).keep hB (by unfold zm;omega)
   obtain ⟨cs,hpo,hpk⟩:=hpt
   obtain ⟨sa,sn,sc,rfl⟩:=zr hpo
   have HP:=ze (PartsAt.base (base':=w.heap.size+1) (show PartsAt w5 _ _ _ from ⟨cs,hpo,hpk⟩) (by have:=Six.lt (zb hRR);simp;omega))
   have HL5:=ze hL5
   have HO5:=ze ((zb hOO).trans hB)
   clear hpo hpk hL5 hO5 hA hB l0 l1 l2 l3 k1 k2 k3 r0 r1 r2 r3 r4 r5 u0 u1 u2 u3 u4 u5
   obtain ⟨r0,r1,r2,r3,r4,r5,u0,u1,u2,u3,u4,u5⟩:=hR5
   go_wp2_with fail
   refine bodyPost_ret (v:=.agg #[.int .i64 1,.bool (Ref.notB s (st.go 1)),.slice sa sn sc,.int .i64 0,.int .i64 0,.int .i64 0]) (by simp [results,Tryz.results71,go_sem,r0,r1,r2,r3,r4,r5]) rfl ?_
   rw [zb HH]
   exact ⟨_,rfl,((zb HP).keep (zf.six w.heap.size _ _ _ _ _ _ _) (by intro g hg _ hh;unfold zm at hh;omega)).base (by omega),(zb HL5).keep (zf.six w.heap.size _ _ _ _ _ _ _) (by unfold zm;omega),(zb HO5).young (zf.six w.heap.size _ _ _ _ _ _ _) (Nat.le_refl _)⟩
  have n91:=ze x
  clear x
  by_cases x:zd s st.i=40
  ·skip
   have h94:(zd s st.i == 94)=false:=by simp [x]
   have h36:(zd s st.i == 36)=false:=by simp [x]
   have h92:(zd s st.i == 92)=false:=by simp [x]
   have h124:(zd s st.i == 124)=false:=by simp [x]
   have h46:(zd s st.i == 46)=false:=by simp [x]
   have h91:(zd s st.i == 91)=false:=by simp [x]
   have h40:(zd s st.i == 40)=true:=by simp [x]
   have h41:(zd s st.i == 41)=false:=by simp [x]
   have h42:(zd s st.i == 42)=false:=by simp [x]
   have h43:(zd s st.i == 43)=false:=by simp [x]
   have h63:(zd s st.i == 63)=false:=by simp [x]
   have h123:(zd s st.i == 123)=false:=by simp [x]
   have h125:(zd s st.i == 125)=false:=by simp [x]
   have h93:(zd s st.i == 93)=false:=by simp [x]
   have HH:Hid (Ref.zy s st=(⟨3,false,[],0,0,0⟩,Ref.jF s st)):=by show _=_;unfold Ref.zy;rw [if_neg (by omega),if_neg (by omega),if_neg (by omega),if_neg (by omega),if_neg (by omega),if_neg (by omega),if_pos x]
   clear x
   go_wp2_with fail
   refine (open_any b s st _ (zb hLL) hs hi).mono ?_
   rintro e w5 ⟨rfl,hL5,hO5⟩
   have hR5:=(zb hRR).keep hO5 (by unfold zm;omega)
   have HL5:=ze hL5
   have HO5:=ze ((zb hOO).trans hO5)
   clear hL5 hO5 l0 l1 l2 l3 k1 k2 k3 r0 r1 r2 r3 r4 r5 u0 u1 u2 u3 u4 u5
   obtain ⟨r0,r1,r2,r3,r4,r5,u0,u1,u2,u3,u4,u5⟩:=hR5
   go_wp2_with fail
   refine bodyPost_ret (v:=.agg #[.int .i64 3,.bool false,.slice none 0 0,.int .i64 (0),.int .i64 0,.int .i64 0]) (by simp [results,Tryz.results71,go_sem,r0,r1,r2,r3,r4,r5]) rfl ?_
   rw [zb HH]
   exact ⟨_,rfl,PartsAt.nil _ _,(zb HL5).keep (zf.six w.heap.size _ _ _ _ _ _ _) (by unfold zm;omega),(zb HO5).young (zf.six w.heap.size _ _ _ _ _ _ _) (Nat.le_refl _)⟩
  have n40:=ze x
  clear x
  by_cases x:zd s st.i=42
  ·skip
   have h94:(zd s st.i == 94)=false:=by simp [x]
   have h36:(zd s st.i == 36)=false:=by simp [x]
   have h92:(zd s st.i == 92)=false:=by simp [x]
   have h124:(zd s st.i == 124)=false:=by simp [x]
   have h46:(zd s st.i == 46)=false:=by simp [x]
   have h91:(zd s st.i == 91)=false:=by simp [x]
   have h40:(zd s st.i == 40)=false:=by simp [x]
   have h41:(zd s st.i == 41)=false:=by simp [x]
   have h42:(zd s st.i == 42)=true:=by simp [x]
   have h43:(zd s st.i == 43)=false:=by simp [x]
   have h63:(zd s st.i == 63)=false:=by simp [x]
   have h123:(zd s st.i == 123)=false:=by simp [x]
   have h125:(zd s st.i == 125)=false:=by simp [x]
   have h93:(zd s st.i == 93)=false:=by simp [x]
   have HH:Hid (Ref.zy s st=(⟨0,false,[],0,0,0⟩,st.fail 3 st.i)):=by show _=_;unfold Ref.zy;rw [if_neg (by omega),if_neg (by omega),if_neg (by omega),if_neg (by omega),if_neg (by omega),if_neg (by omega),if_neg (by omega),if_neg (by omega),if_pos (by simp [Ref.kF,x])]
   clear x
   go_wp2_with fail
   refine (yi b s st 3 _ _ (zb hLL)).mono ?_
   rintro e w5 ⟨rfl,hL5,hO5⟩
   have hR5:=(zb hRR).keep hO5 (by unfold zm;omega)
   have HL5:=ze hL5
   have HO5:=ze ((zb hOO).trans hO5)
   clear hL5 hO5 l0 l1 l2 l3 k1 k2 k3 r0 r1 r2 r3 r4 r5 u0 u1 u2 u3 u4 u5
   obtain ⟨r0,r1,r2,r3,r4,r5,u0,u1,u2,u3,u4,u5⟩:=hR5
   go_wp2_with fail
   refine bodyPost_ret (v:=.agg #[.int .i64 0,.bool false,.slice none 0 0,.int .i64 (0),.int .i64 0,.int .i64 0]) (by simp [results,Tryz.results71,go_sem,r0,r1,r2,r3,r4,r5]) rfl ?_
   rw [zb HH]
   exact ⟨_,rfl,PartsAt.nil _ _,(zb HL5).keep (zf.six w.heap.size _ _ _ _ _ _ _) (by unfold zm;omega),(zb HO5).young (zf.six w.heap.size _ _ _ _ _ _ _) (Nat.le_refl _)⟩
  have n42:=ze x
  clear x
  by_cases x:zd s st.i=43
  ·skip
   have h94:(zd s st.i == 94)=false:=by simp [x]
   have h36:(zd s st.i == 36)=false:=by simp [x]
   have h92:(zd s st.i == 92)=false:=by simp [x]
   have h124:(zd s st.i == 124)=false:=by simp [x]
   have h46:(zd s st.i == 46)=false:=by simp [x]
   have h91:(zd s st.i == 91)=false:=by simp [x]
   have h40:(zd s st.i == 40)=false:=by simp [x]
   have h41:(zd s st.i == 41)=false:=by simp [x]
   have h42:(zd s st.i == 42)=false:=by simp [x]
   have h43:(zd s st.i == 43)=true:=by simp [x]
   have h63:(zd s st.i == 63)=false:=by simp [x]
   have h123:(zd s st.i == 123)=false:=by simp [x]
   have h125:(zd s st.i == 125)=false:=by simp [x]
   have h93:(zd s st.i == 93)=false:=by simp [x]
   have HH:Hid (Ref.zy s st=(⟨0,false,[],0,0,0⟩,st.fail 3 st.i)):=by show _=_;unfold Ref.zy;rw [if_neg (by omega),if_neg (by omega),if_neg (by omega),if_neg (by omega),if_neg (by omega),if_neg (by omega),if_neg (by omega),if_neg (by omega),if_pos (by simp [Ref.kF,x])]
   clear x
   go_wp2_with fail
   refine (yi b s st 3 _ _ (zb hLL)).mono ?_
   rintro e w5 ⟨rfl,hL5,hO5⟩
   have hR5:=(zb hRR).keep hO5 (by unfold zm;omega)
   have HL5:=ze hL5
   have HO5:=ze ((zb hOO).trans hO5)
   clear hL5 hO5 l0 l1 l2 l3 k1 k2 k3 r0 r1 r2 r3 r4 r5 u0 u1 u2 u3 u4 u5
   obtain ⟨r0,r1,r2,r3,r4,r5,u0,u1,u2,u3,u4,u5⟩:=hR5
   go_wp2_with fail
   refine bodyPost_ret (v:=.agg #[.int .i64 0,.bool false,.slice none 0 0,.int .i64 (0),.int .i64 0,.int .i64 0]) (by simp [results,Tryz.results71,go_sem,r0,r1,r2,r3,r4,r5]) rfl ?_
   rw [zb HH]
   exact ⟨_,rfl,PartsAt.nil _ _,(zb HL5).keep (zf.six w.heap.size _ _ _ _ _ _ _) (by unfold zm;omega),(zb HO5).young (zf.six w.heap.size _ _ _ _ _ _ _) (Nat.le_refl _)⟩
  have n43:=ze x
  clear x
  by_cases x:zd s st.i=63
  ·skip
   have h94:(zd s st.i == 94)=false:=by simp [x]
   have h36:(zd s st.i == 36)=false:=by simp [x]
   have h92:(zd s st.i == 92)=false:=by simp [x]
   have h124:(zd s st.i == 124)=false:=by simp [x]
   have h46:(zd s st.i == 46)=false:=by simp [x]
   have h91:(zd s st.i == 91)=false:=by simp [x]
   have h40:(zd s st.i == 40)=false:=by simp [x]
   have h41:(zd s st.i == 41)=false:=by simp [x]
   have h42:(zd s st.i == 42)=false:=by simp [x]
   have h43:(zd s st.i == 43)=false:=by simp [x]
   have h63:(zd s st.i == 63)=true:=by simp [x]
   have h123:(zd s st.i == 123)=false:=by simp [x]
   have h125:(zd s st.i == 125)=false:=by simp [x]
   have h93:(zd s st.i == 93)=false:=by simp [x]
   have HH:Hid (Ref.zy s st=(⟨0,false,[],0,0,0⟩,st.fail 3 st.i)):=by show _=_;unfold Ref.zy;rw [if_neg (by omega),if_neg (by omega),if_neg (by omega),if_neg (by omega),if_neg (by omega),if_neg (by omega),if_neg (by omega),if_neg (by omega),if_pos (by simp [Ref.kF,x])]
   clear x
   go_wp2_with fail
   refine (yi b s st 3 _ _ (zb hLL)).mono ?_
   rintro e w5 ⟨rfl,hL5,hO5⟩
   have hR5:=(zb hRR).keep hO5 (by unfold zm;omega)
   have HL5:=ze hL5
   have HO5:=ze ((zb hOO).trans hO5)
   clear hL5 hO5 l0 l1 l2 l3 k1 k2 k3 r0 r1 r2 r3 r4 r5 u0 u1 u2 u3 u4 u5
   obtain ⟨r0,r1,r2,r3,r4,r5,u0,u1,u2,u3,u4,u5⟩:=hR5
   go_wp2_with fail
   refine bodyPost_ret (v:=.agg #[.int .i64 0,.bool false,.slice none 0 0,.int .i64 (0),.int .i64 0,.int .i64 0]) (by simp [results,Tryz.results71,go_sem,r0,r1,r2,r3,r4,r5]) rfl ?_
   rw [zb HH]
   exact ⟨_,rfl,PartsAt.nil _ _,(zb HL5).keep (zf.six w.heap.size _ _ _ _ _ _ _) (by unfold zm;omega),(zb HO5).young (zf.six w.heap.size _ _ _ _ _ _ _) (Nat.le_refl _)⟩
  have n63:=ze x
  clear x
  by_cases x:zd s st.i=123
  ·skip
   have h94:(zd s st.i == 94)=false:=by simp [x]
   have h36:(zd s st.i == 36)=false:=by simp [x]
   have h92:(zd s st.i == 92)=false:=by simp [x]
   have h124:(zd s st.i == 124)=false:=by simp [x]
   have h46:(zd s st.i == 46)=false:=by simp [x]
   have h91:(zd s st.i == 91)=false:=by simp [x]
   have h40:(zd s st.i == 40)=false:=by simp [x]
   have h41:(zd s st.i == 41)=false:=by simp [x]
   have h42:(zd s st.i == 42)=false:=by simp [x]
   have h43:(zd s st.i == 43)=false:=by simp [x]
   have h63:(zd s st.i == 63)=false:=by simp [x]
   have h123:(zd s st.i == 123)=true:=by simp [x]
   have h125:(zd s st.i == 125)=false:=by simp [x]
   have h93:(zd s st.i == 93)=false:=by simp [x]
   have HH:Hid (Ref.zy s st=(⟨0,false,[],0,0,0⟩,st.fail 3 st.i)):=by show _=_;unfold Ref.zy;rw [if_neg (by omega),if_neg (by omega),if_neg (by omega),if_neg (by omega),if_neg (by omega),if_neg (by omega),if_neg (by omega),if_neg (by omega),if_pos (by simp [Ref.kF,x])]
   clear x
   go_wp2_with fail
   refine (yi b s st 3 _ _ (zb hLL)).mono ?_
   rintro e w5 ⟨rfl,hL5,hO5⟩
   have hR5:=(zb hRR).keep hO5 (by unfold zm;omega)
   have HL5:=ze hL5
   have HO5:=ze ((zb hOO).trans hO5)
   clear hL5 hO5 l0 l1 l2 l3 k1 k2 k3 r0 r1 r2 r3 r4 r5 u0 u1 u2 u3 u4 u5
   obtain ⟨r0,r1,r2,r3,r4,r5,u0,u1,u2,u3,u4,u5⟩:=hR5
   go_wp2_with fail
   refine bodyPost_ret (v:=.agg #[.int .i64 0,.bool false,.slice none 0 0,.int .i64 (0),.int .i64 0,.int .i64 0]) (by simp [results,Tryz.results71,go_sem,r0,r1,r2,r3,r4,r5]) rfl ?_
   rw [zb HH]
   exact ⟨_,rfl,PartsAt.nil _ _,(zb HL5).keep (zf.six w.heap.size _ _ _ _ _ _ _) (by unfold zm;omega),(zb HO5).young (zf.six w.heap.size _ _ _ _ _ _ _) (Nat.le_refl _)⟩
  have n123:=ze x
  clear x
  by_cases x:zd s st.i=125
  ·skip
   have h94:(zd s st.i == 94)=false:=by simp [x]
   have h36:(zd s st.i == 36)=false:=by simp [x]
   have h92:(zd s st.i == 92)=false:=by simp [x]
   have h124:(zd s st.i == 124)=false:=by simp [x]
   have h46:(zd s st.i == 46)=false:=by simp [x]
   have h91:(zd s st.i == 91)=false:=by simp [x]
   have h40:(zd s st.i == 40)=false:=by simp [x]
   have h41:(zd s st.i == 41)=false:=by simp [x]
   have h42:(zd s st.i == 42)=false:=by simp [x]
   have h43:(zd s st.i == 43)=false:=by simp [x]
   have h63:(zd s st.i == 63)=false:=by simp [x]
   have h123:(zd s st.i == 123)=false:=by simp [x]
   have h125:(zd s st.i == 125)=true:=by simp [x]
   have h93:(zd s st.i == 93)=false:=by simp [x]
   have HH:Hid (Ref.zy s st=(⟨0,false,[],0,0,0⟩,st.fail 3 st.i)):=by show _=_;unfold Ref.zy;rw [if_neg (by omega),if_neg (by omega),if_neg (by omega),if_neg (by omega),if_neg (by omega),if_neg (by omega),if_neg (by omega),if_neg (by omega),if_pos (by simp [Ref.kF,x])]
   clear x
   go_wp2_with fail
   refine (yi b s st 3 _ _ (zb hLL)).mono ?_
   rintro e w5 ⟨rfl,hL5,hO5⟩
   have hR5:=(zb hRR).keep hO5 (by unfold zm;omega)
   have HL5:=ze hL5
   have HO5:=ze ((zb hOO).trans hO5)
   clear hL5 hO5 l0 l1 l2 l3 k1 k2 k3 r0 r1 r2 r3 r4 r5 u0 u1 u2 u3 u4 u5
   obtain ⟨r0,r1,r2,r3,r4,r5,u0,u1,u2,u3,u4,u5⟩:=hR5
   go_wp2_with fail
   refine bodyPost_ret (v:=.agg #[.int .i64 0,.bool false,.slice none 0 0,.int .i64 (0),.int .i64 0,.int .i64 0]) (by simp [results,Tryz.results71,go_sem,r0,r1,r2,r3,r4,r5]) rfl ?_
   rw [zb HH]
   exact ⟨_,rfl,PartsAt.nil _ _,(zb HL5).keep (zf.six w.heap.size _ _ _ _ _ _ _) (by unfold zm;omega),(zb HO5).young (zf.six w.heap.size _ _ _ _ _ _ _) (Nat.le_refl _)⟩
  have n125:=ze x
  clear x
  by_cases x:zd s st.i=93
  ·skip
   have h94:(zd s st.i == 94)=false:=by simp [x]
   have h36:(zd s st.i == 36)=false:=by simp [x]
   have h92:(zd s st.i == 92)=false:=by simp [x]
   have h124:(zd s st.i == 124)=false:=by simp [x]
   have h46:(zd s st.i == 46)=false:=by simp [x]
   have h91:(zd s st.i == 91)=false:=by simp [x]
   have h40:(zd s st.i == 40)=false:=by simp [x]
   have h41:(zd s st.i == 41)=false:=by simp [x]
   have h42:(zd s st.i == 42)=false:=by simp [x]
   have h43:(zd s st.i == 43)=false:=by simp [x]
   have h63:(zd s st.i == 63)=false:=by simp [x]
   have h123:(zd s st.i == 123)=false:=by simp [x]
   have h125:(zd s st.i == 125)=false:=by simp [x]
   have h93:(zd s st.i == 93)=true:=by simp [x]
   have HH:Hid (Ref.zy s st=(⟨0,false,[],0,0,0⟩,st.fail 3 st.i)):=by show _=_;unfold Ref.zy;rw [if_neg (by omega),if_neg (by omega),if_neg (by omega),if_neg (by omega),if_neg (by omega),if_neg (by omega),if_neg (by omega),if_neg (by omega),if_pos (by simp [Ref.kF,x])]
   clear x
   go_wp2_with fail
   refine (yi b s st 3 _ _ (zb hLL)).mono ?_
   rintro e w5 ⟨rfl,hL5,hO5⟩
   have hR5:=(zb hRR).keep hO5 (by unfold zm;omega)
   have HL5:=ze hL5
   have HO5:=ze ((zb hOO).trans hO5)
   clear hL5 hO5 l0 l1 l2 l3 k1 k2 k3 r0 r1 r2 r3 r4 r5 u0 u1 u2 u3 u4 u5
   obtain ⟨r0,r1,r2,r3,r4,r5,u0,u1,u2,u3,u4,u5⟩:=hR5
   go_wp2_with fail
   refine bodyPost_ret (v:=.agg #[.int .i64 0,.bool false,.slice none 0 0,.int .i64 (0),.int .i64 0,.int .i64 0]) (by simp [results,Tryz.results71,go_sem,r0,r1,r2,r3,r4,r5]) rfl ?_
   rw [zb HH]
   exact ⟨_,rfl,PartsAt.nil _ _,(zb HL5).keep (zf.six w.heap.size _ _ _ _ _ _ _) (by unfold zm;omega),(zb HO5).young (zf.six w.heap.size _ _ _ _ _ _ _) (Nat.le_refl _)⟩
  have n93:=ze x
  clear x
  have h94:(zd s st.i == 94)=false:=by have:=zb n94;simp [this]
  have h36:(zd s st.i == 36)=false:=by have:=zb n36;simp [this]
  have h92:(zd s st.i == 92)=false:=by have:=zb n92;simp [this]
  have h124:(zd s st.i == 124)=false:=by have:=zb n124;simp [this]
  have h46:(zd s st.i == 46)=false:=by have:=zb n46;simp [this]
  have h91:(zd s st.i == 91)=false:=by have:=zb n91;simp [this]
  have h40:(zd s st.i == 40)=false:=by have:=zb n40;simp [this]
  have h41:(zd s st.i == 41)=false:=by have:=zb n41;simp [this]
  have h42:(zd s st.i == 42)=false:=by have:=zb n42;simp [this]
  have h43:(zd s st.i == 43)=false:=by have:=zb n43;simp [this]
  have h63:(zd s st.i == 63)=false:=by have:=zb n63;simp [this]
  have h123:(zd s st.i == 123)=false:=by have:=zb n123;simp [this]
  have h125:(zd s st.i == 125)=false:=by have:=zb n125;simp [this]
  have h93:(zd s st.i == 93)=false:=by have:=zb n93;simp [this]
  have HH:Hid (Ref.zy s st=(⟨1,false,[⟨false,[(oc,oc)]⟩],0,0,0⟩,st.go on)):=by
   show _=_;unfold Ref.zy
   simp only [beq_eq_false_iff_ne] at *
   rw [if_neg (by omega),if_neg (by omega),if_neg (by omega),if_neg (by omega),if_neg (by omega),if_neg (by omega),if_neg (by omega),if_neg (by omega),if_neg (by simp [Ref.kF];omega),zb Ho]
  clear n94 n36 n92 n124 n46 n91 n40 n41 n42 n43 n63 n123 n125 n93
  go_wp2_with fail
  refine (Wb b s st on oc _ (zb hLL) hs hi (zb Ho) (zb Hgn)).mono ?_
  rintro e w5 ⟨sv,rfl,hsp,hL5,hO5⟩
  have hR5:=(zb hRR).keep hO5 (by unfold zm;omega)
  obtain ⟨sa,sn,sc,rfl⟩:=zr hsp
  have HS:=ze (hsp.base (base':=w.heap.size+1) (by have:=Six.lt (zb hRR);omega))
  have HL5:=ze hL5
  have HO5:=ze ((zb hOO).trans hO5)
  have hsz5:w.heap.size<w5.heap.size:=hR5.lt
  clear hsp hL5 hO5 l0 l1 l2 l3 k1 k2 k3 r0 r1 r2 r3 r4 r5 u0 u1 u2 u3 u4 u5
  obtain ⟨r0,r1,r2,r3,r4,r5,u0,u1,u2,u3,u4,u5⟩:=hR5
  go_wp2_with fail
  refine bodyPost_ret (v:=.agg #[.int .i64 1,.bool false,.slice (some ⟨w5.heap.size+1,0,none⟩) 1 1,.int .i64 0,.int .i64 0,.int .i64 0]) (by simp [results,Tryz.results71,go_sem,r0,r1,r2,r3,r4,r5,hsz5]) rfl ?_
  rw [zb HH]
  refine ⟨_,rfl,?_,?_,?_⟩
  ·exact XO _ _ _ (by simp) (by omega) _ ⟨false,[(oc,oc)]⟩ (.slice sa sn sc) rfl (((zb HS).keep ((zf.six w.heap.size w5 _ _ _ _ _ _).alloc _) (by intro g hg _ hh;unfold zm at hh;omega)).base (by omega))
  ·exact (((zb HL5).keep (zf.six w.heap.size _ _ _ _ _ _ _) (by unfold zm;omega)).alloc _).alloc _
  ·exact (((zb HO5).young (zf.six w.heap.size _ _ _ _ _ _ _) (Nat.le_refl _)).alloc _).alloc _
def xo (w:World)(base:Nat):List Tok→List Value→Prop
 | [],[]=>True
 |t :: ts,a0 :: a1 :: a2 :: a3 :: a4 :: a5 :: vs=>(a0 = .int .i64 t.kind∧a1 = .bool t.neg∧a3 = .int .i64 t.c∧a4 = .int .i64 t.mn∧a5 = .int .i64 t.mx)∧PartsAt w base a2 t.parts∧xo w base ts vs
 |_,_=>False
def xH (w:World)(base:Nat)(v:Value)(l:List Tok):Prop:=∃ cs,w.ownsRow base 178 6 v l.length cs∧xo w base l cs
theorem xo.keep {P:Nat→Prop}{w w':World}{base:Nat}(k:zf P w w')(hn:∀ g,base≤g→g<w.heap.size→¬P g):∀ (l:List Tok) (cs:List Value),xo w base l cs→xo w' base l cs
 | [],[],_=>trivial
 |_t :: ts,_a0 :: _a1 :: _a2 :: _a3 :: _a4 :: _a5 :: vs,h=>⟨h.1,h.2.1.keep k hn,xo.keep k hn ts vs h.2.2⟩
 | [],_ :: _,h=>h
 |_ :: _,[],h=>h
 |_ :: _,[_],h=>h
 |_ :: _,[_,_],h=>h
 |_ :: _,[_,_,_],h=>h
 |_ :: _,[_,_,_,_],h=>h
 |_ :: _,[_,_,_,_,_],h=>h
theorem xH.keep {P:Nat→Prop}{w w':World}{base:Nat}{v:Value}{l:List Tok}(h:xH w base v l)(k:zf P w w')(hn:∀ g,base≤g→g<w.heap.size→¬P g):xH w' base v l:=by
 obtain ⟨cs,h1,h2⟩:=h
 exact ⟨cs,zp h1 k (fun g hg=>hn g (zh h1 g hg).1 (zh h1 g hg).2),xo.keep k hn l cs h2⟩
theorem xH.nil (w:World)(base:Nat):xH w base (.slice none 0 0) []:=⟨[],World.ownsRow_nil _ _ _ _,trivial⟩
theorem yB.grownT {w w':World}{base base':Nat}{sv v:Value}{n:Nat}{xs:List Value}{l:List (Int×Int)}(h:yB w base sv l)(hr:w.ownsRow base' 178 6 v n xs)(hg:w.grownBy w' v.ownBlock):yB w' base sv l:=
 zp h (zf.ofGrown hg) (fun g h1 h2=>jl h hr (by decide) g h1 h2)
theorem yz.grownT {w w':World}{base base':Nat}{v:Value}{n:Nat}{xs:List Value}(hr:w.ownsRow base' 178 6 v n xs)(hg:w.grownBy w' v.ownBlock):∀ (l:List Pt) (cs:List Value),yz w base l cs→yz w' base l cs
 | [],[],_=>trivial
 |_p :: ps,_b :: _v :: vs,h=>⟨h.1,h.2.1.grownT hr hg,yz.grownT hr hg ps vs h.2.2⟩
 | [],_ :: _,h=>h
 |_ :: _,[],h=>h
 |_ :: _,[_],h=>h
theorem PartsAt.grownT {w w':World}{base base':Nat}{pv v:Value}{n:Nat}{xs:List Value}{l:List Pt}(h:PartsAt w base pv l)(hr:w.ownsRow base' 178 6 v n xs)(hg:w.grownBy w' v.ownBlock):PartsAt w' base pv l:=by
 obtain ⟨cs,h1,h2⟩:=h
 exact ⟨cs,zp h1 (zf.ofGrown hg) (fun g a b=>jl h1 hr (by decide) g a b),yz.grownT hr hg l cs h2⟩
theorem xo.grown {w w':World}{base base':Nat}{v:Value}{n:Nat}{xs:List Value}(hr:w.ownsRow base' 178 6 v n xs)(hg:w.grownBy w' v.ownBlock):∀ (l:List Tok) (cs:List Value),xo w base l cs→xo w' base l cs
 | [],[],_=>trivial
 |_t :: ts,_a0 :: _a1 :: _a2 :: _a3 :: _a4 :: _a5 :: vs,h=>⟨h.1,h.2.1.grownT hr hg,xo.grown hr hg ts vs h.2.2⟩
 | [],_ :: _,h=>h
 |_ :: _,[],h=>h
 |_ :: _,[_],h=>h
 |_ :: _,[_,_],h=>h
 |_ :: _,[_,_,_],h=>h
 |_ :: _,[_,_,_,_],h=>h
 |_ :: _,[_,_,_,_,_],h=>h
theorem xo.append {w:World}{base:Nat}{t:Tok}{pv:Value}(hs:PartsAt w base pv t.parts):∀ (l:List Tok) (cs:List Value),xo w base l cs→xo w base (l++[t]) (cs++[.int .i64 t.kind,.bool t.neg,pv,.int .i64 t.c,.int .i64 t.mn,.int .i64 t.mx])
 | [],[],_=>⟨⟨rfl,rfl,rfl,rfl,rfl⟩,hs,trivial⟩
 |_q :: ps,_a0 :: _a1 :: _a2 :: _a3 :: _a4 :: _a5 :: vs,h=>⟨h.1,h.2.1,xo.append hs ps vs h.2.2⟩
 | [],_ :: _,h=>h.elim
 |_ :: _,[],h=>h.elim
 |_ :: _,[_],h=>h.elim
 |_ :: _,[_,_],h=>h.elim
 |_ :: _,[_,_,_],h=>h.elim
 |_ :: _,[_,_,_,_],h=>h.elim
 |_ :: _,[_,_,_,_,_],h=>h.elim
theorem xH.appended {w w':World}{base:Nat}{v v':Value}{l:List Tok}{cs:List Value}{t:Tok}{pv:Value}(h1:w.ownsRow base 178 6 v l.length cs)(h2:xo w base l cs)(hs:PartsAt w base pv t.parts)
  (hown:w'.ownsRow base 178 6 v' (l.length+1) (cs++[.int .i64 t.kind,.bool t.neg,pv,.int .i64 t.c,.int .i64 t.mn,.int .i64 t.mx])) (hg:w.grownBy w' v.ownBlock):xH w' base v' (l++[t]):=
 ⟨cs++[.int .i64 t.kind,.bool t.neg,pv,.int .i64 t.c,.int .i64 t.mn,.int .i64 t.mx],by rw [List.length_append];exact hown,xo.append (hs.grownT h1 hg) l cs (xo.grown h1 hg l cs h2)⟩
namespace Ref
def xy (b:Int):Bool:=(b == 42) ||(b == 43) ||(b == 63) ||(b == 123)
def yf (k op:Int):Int:=if k=3 then op+1 else if k=4 then op-1 else op
def zQ (s:ByteArray):Nat→List Tok→Int→Bool→St→List Tok×Int×Int
 |0,l,_,_,st=>(l,st.e,st.a)
 |f+1,l,op,atom,st=>
  if st.i<s.size∧st.e=0 then
   (if atom=true∧xy (zd s st.i)=true then zQ s f (l++[⟨6,false,[],0,(zO s st).1,(zO s st).2.1⟩]) op false (zO s st).2.2
    else if zd s st.i=40∧op=10 then ([],7,(st.i:Int))
    else zQ s f (l++[(zy s st).1]) (yf (zy s st).1.kind op) (((zy s st).1.kind == 1) ||((zy s st).1.kind == 4))
     (if yf (zy s st).1.kind op<0 then (zy s st).2.fail 3 st.i else (zy s st).2))
  else (l,(if 0<op then st.fail 3 s.size else st).e,(if 0<op then st.fail 3 s.size else st).a)
def yF (s:ByteArray):List Tok×Int×Int:=zQ s (s.size+1) [] 0 false ⟨0,0,0⟩
theorem zba {s:ByteArray}{st:St}(hg:Good s st.i)(hb:zd s st.i=40):vu s (jF s st)∧st.i<(jF s st).i:=by
 have g1:=hg.ascii (by omega) (by omega)
 unfold jF
 split
 ·have g2:=g1.ascii (by omega) (by omega)
  split
  ·have g3:=g2.ascii (by show 0≤zd s (st.i+2);omega) (by show zd s (st.i+2)<128;omega)
   exact ⟨⟨g3.le,fun _=>g3⟩,by simp only [St.go];omega⟩
  ·split
   ·exact ⟨vu.fail g2.le (by decide),by rw [xl];simp only [St.go];omega⟩
   ·exact ⟨vu.fail g2.le (by decide),by rw [xl];simp only [St.go];omega⟩
 ·exact ⟨⟨g1.le,fun _=>g1⟩,by simp only [St.go];omega⟩
theorem ZK (s:ByteArray):∀ (f:Nat) (ps:List Pt) (st:St),vu s st→s.size<st.i+f→(st.i≤(yK s f ps st).2.i∧(yK s f ps st).2.i≤s.size+1∧((yK s f ps st).2.e=0→Good s (yK s f ps st).2.i))
 |0,ps,st,h,hf=>by have:=h.1;omega
 |f+1,ps,st,h,hf=>by
  by_cases c1:st.e=0∧zd s st.i≠93
  ·have hg:=h.2 c1.1
   by_cases c2:zd s st.i<0
   ·rw [ZB c1 c2]
    exact ⟨by rw [xl];exact Nat.le_refl _,by rw [xl];have:=h.1;omega,fun h0=>absurd h0 (jU _ _ _ (by decide))⟩
   ·have hi:st.i<s.size:=by rw [←zx];omega
    have m1:=kQ hg hi
    by_cases c3:jm s (zl s st).2.2=true
    ·have hr:(zl s st).2.2.e=0∧zd s (zl s st).2.2.i=45∧(zl s st).2.2.i+1<s.size:=by simp [jm] at c3;exact ⟨c3.1.1.1,c3.1.1.2,c3.1.2⟩
     have g2:=(m1.1.2 hr.1).ascii (by omega) (by omega)
     have m2:=kQ (st:=(zl s st).2.2.go 1) g2 hr.2.2
     have m2':(zl s st).2.2.i+1<(zl s ((zl s st).2.2.go 1)).2.2.i:=m2.2
     by_cases c4:(zl s ((zl s st).2.2.go 1)).2.2.e=0
     ·by_cases c5:badB (zl s st).1 (zl s ((zl s st).2.2.go 1)).1 (zl s st).2.1 (zl s ((zl s st).2.2.go 1)).2.1=true
      ·rw [YE c1 c2 c3 c4 c5]
       exact ⟨by rw [xl];omega,by rw [xl];have:=m2.1.1;omega,fun h0=>absurd h0 (jU _ _ _ (by decide))⟩
      ·rw [kR c1 c2 c3 c4 c5]
       have:=ZK s f (ps++[⟨(zl s st).1.neg,[(loOf (zl s st).1,loOf (zl s ((zl s st).2.2.go 1)).1)]⟩]) _ m2.1 (by omega)
       exact ⟨by omega,this.2⟩
     ·rw [ZC c1 c2 c3 c4]
      dsimp only
      exact ⟨by omega,by have:=m2.1.1;omega,fun h0=>absurd h0 c4⟩
    ·rw [vq c1 c2 c3]
     have:=ZK s f (ps++[(zl s st).1]) _ m1.1 (by omega)
     exact ⟨by omega,this.2⟩
  ·rw [km c1]
   refine ⟨by simp only [St.go];omega,by have:=h.1;simp only [St.go];omega,fun h0=>?_⟩
   have h0':st.e=0:=h0
   have hb:zd s st.i=93:=Classical.byContradiction fun hn=>c1 ⟨h0',hn⟩
   exact (h.2 h0').ascii (by omega) (by omega)
theorem Qd (s:ByteArray):∀ (f:Nat) (n:Int) (st:St),Good s st.i→Good s (countL s f n st).2.i∧(countL s f n st).2.e=st.e
 |0,n,st,h=>⟨h,rfl⟩
 |f+1,n,st,h=>by
  cases hd:jk (zd s st.i)
  ·rw [countL_stop hd];exact ⟨h,rfl⟩
  ·rw [countL_go hd]
   have hb:=Zq hd
   exact Qd s f _ (st.go 1) (h.ascii (by omega) (by omega))
theorem Qe {s:ByteArray}{st:St}(h:Good s st.i):Good s (zX s st).2.i:=by rw [Wx];exact (Qd s _ 0 st h).1
end Ref
namespace Ref
theorem zbb {s:ByteArray}{mn:Int}{st:St}(h:Good s st.i):Good s (qe s mn st).2.i:=by
 unfold qe
 split
 ·rename_i hh
  have g1:=h.ascii (by omega) (by omega)
  split
  ·exact g1
  ·exact Qe (st:=st.go 1) g1
 ·exact h
theorem restF_ge (s:ByteArray)(mn:Int)(st:St):st.i≤(qe s mn st).2.i:=by
 unfold qe
 split
 ·split
  ·simp only [St.go];omega
  ·have:=(kX s (st.go 1)).2.2.1;simp only [St.go] at this ⊢;omega
 ·exact Nat.le_refl _
theorem braceF_i (s:ByteArray)(st:St):(yC s st).i=st.i:=by unfold yC;split;exact xl _ _ _;rfl
theorem Vg {s:ByteArray}{st:St}(h:Good s st.i)(hb:zd s st.i=123):st.i<(yj s st).2.2.i∧((yj s st).2.2.e=0→Good s (yj s st).2.2.i):=by
 have g1:=h.ascii (by omega) (by omega)
 have g2:=zbb (mn:=(zX s (st.go 1)).1) (Qe (st:=st.go 1) g1)
 have l1:=(kX s (st.go 1)).2.2.1
 have l2:=restF_ge s (zX s (st.go 1)).1 (zX s (st.go 1)).2
 have l0:(st.go 1).i=st.i+1:=rfl
 unfold yj
 dsimp only
 generalize qe s (zX s (st.go 1)).1 (zX s (st.go 1)).2=r at *
 have hbi:=braceF_i s r.2
 have hgi:((yC s r.2).go 1).i=r.2.i+1:=by show (yC s r.2).i+1=_;rw [hbi]
 split
 ·exact ⟨by rw [xl,hgi];omega,fun h0=>absurd h0 (jU _ _ _ (by decide))⟩
 ·refine ⟨by rw [hgi];omega,fun h0=>?_⟩
  rw [hgi]
  have h0':(yC s r.2).e=0:=h0
  by_cases hc:r.2.e=0∧zd s r.2.i≠125
  ·unfold yC at h0';rw [if_pos hc] at h0';exact absurd h0' (jU _ _ _ (by decide))
  ·unfold yC at h0';rw [if_neg hc] at h0'
   have:zd s r.2.i=125:=Classical.byContradiction fun hn=>hc ⟨h0',hn⟩
   exact g2.ascii (by omega) (by omega)
theorem Jx {s:ByteArray}{st:St}(h:st.e=0→Good s st.i)(hi:st.i≤s.size+2):st.i≤(qf s st).i∧(qf s st).i≤s.size+2∧((qf s st).e=0→Good s (qf s st).i):=by
 unfold qf
 split
 ·rename_i hh
  have g:=(h hh.1).ascii (by omega) (by omega)
  have:=g.le
  exact ⟨by simp only [St.go];omega,by simp only [St.go];omega,fun _=>g⟩
 ·exact ⟨Nat.le_refl _,hi,h⟩
theorem kT {b:Int}(h:xy b=true):b=42∨b=43∨b=63∨b=123:=by simp [xy] at h;omega
theorem Qf {s:ByteArray}{st:St}(h:Good s st.i)(hb:xy (zd s st.i)=true):st.i<(zO s st).2.2.i∧(zO s st).2.2.i≤s.size+2∧((zO s st).2.2.e=0→Good s (zO s st).2.2.i):=by
 have hq:=kT hb
 have g1:=h.ascii (by omega) (by omega)
 have l1:=g1.le
 have one:st.i<(qf s (st.go 1)).i∧(qf s (st.go 1)).i≤s.size+2∧((qf s (st.go 1)).e=0→Good s (qf s (st.go 1)).i):=by
  have:=Jx (st:=st.go 1) (fun _=>g1) (by show st.i+1≤_;omega)
  exact ⟨by have:=this.1;simp only [St.go] at this ⊢;omega,this.2⟩
 unfold zO
 split
 ·exact one
 split
 ·exact one
 split
 ·exact one
 ·have hb':zd s st.i=123:=by omega
  have hi:st.i<s.size:=by rw [←zx];omega
  have c:=Vg h hb'
  have ci:=Ku s st hi
  have:=Jx (st:=(yj s st).2.2) c.2 ci
  exact ⟨by have:=this.1;dsimp only;omega,this.2⟩
theorem zaa {s:ByteArray}{st:St}(h:Good s st.i)(hi:st.i<s.size):(zy s st).2.i≤s.size+2∧((zy s st).2.e=0→st.i<(zy s st).2.i∧Good s (zy s st).2.i)∧st.i≤(zy s st).2.i:=by
 have one:0≤zd s st.i→zd s st.i<128→(st.go 1).i≤s.size+2∧((st.go 1).e=0→st.i<(st.go 1).i∧Good s (st.go 1).i)∧st.i≤(st.go 1).i:=fun a b=>by
  have g:=h.ascii a b
  have:=g.le
  exact ⟨by simp only [St.go];omega,fun _=>⟨by simp only [St.go];omega,g⟩,by simp only [St.go];omega⟩
 unfold zy
 split
 ·exact one (by omega) (by omega)
 split
 ·rename_i hh
  have g:=(h.ascii (by omega) (by omega)).ascii (by omega) (by omega)
  have:=g.le
  exact ⟨by simp only [St.go];omega,fun _=>⟨by simp only [St.go];omega,g⟩,by simp only [St.go];omega⟩
 split
 ·exact one (by omega) (by omega)
 split
 ·exact one (by omega) (by omega)
 split
 ·have g1:=h.ascii (by omega) (by omega)
  have hF:vu s (yP s (st.go 1)):=by
   unfold yP
   split
   ·rename_i hn
    simp only [notB,decide_eq_true_eq] at hn
    have:=Good.ascii (s:=s) (p:=(st.go 1).i) g1 (by omega) (by omega)
    exact ⟨this.le,fun _=>this⟩
   ·exact ⟨g1.le,fun _=>g1⟩
  have hge:st.i+1≤(yP s (st.go 1)).i:=by unfold yP;split<;>simp only [St.go]<;>omega
  have hc:=ZK s (s.size+1-(yP s (st.go 1)).i) [] (yP s (st.go 1)) hF (by have:=hF.1;omega)
  unfold xm
  exact ⟨by dsimp only;omega,fun h0=>⟨by dsimp only;omega,hc.2.2 h0⟩,by dsimp only;omega⟩
 split
 ·rename_i hb
  have hf:=Xc (cls:=false) h hb
  exact ⟨by have:=hf.1.1;dsimp only;omega,fun h0=>⟨hf.2,hf.1.2 h0⟩,by have:=hf.2;dsimp only;omega⟩
 split
 ·rename_i hb
  have hf:=zba h hb
  exact ⟨by have:=hf.1.1;dsimp only;omega,fun h0=>⟨hf.2,hf.1.2 h0⟩,by have:=hf.2;dsimp only;omega⟩
 split
 ·exact one (by omega) (by omega)
 split
 ·refine ⟨by rw [xl];omega,fun h0=>absurd h0 (jU _ _ _ (by decide)),by rw [xl];omega⟩
 ·obtain ⟨n,c,ho,hg⟩:=h.next hi
  rw [ho]
  have hb:=qd ho
  exact ⟨by simp only [St.go];omega,fun _=>⟨by simp only [St.go];omega,hg⟩,by simp only [St.go];omega⟩
section
variable {s:ByteArray} {f:Nat} {l:List Tok} {op:Int} {atom:Bool} {st:St}
theorem Yn (h:st.i<s.size∧st.e=0)(h1:atom=true∧xy (zd s st.i)=true):zQ s (f+1) l op atom st=zQ s f (l++[⟨6,false,[],0,(zO s st).1,(zO s st).2.1⟩]) op false (zO s st).2.2:=by
 simp only [zQ];rw [if_pos h,if_pos h1]
theorem Xm (h:st.i<s.size∧st.e=0)(h1:¬(atom=true∧xy (zd s st.i)=true))(h2:zd s st.i=40∧op=10):zQ s (f+1) l op atom st=([],7,(st.i:Int)):=by
 simp only [zQ];rw [if_pos h,if_neg h1,if_pos h2]
theorem qC (h:st.i<s.size∧st.e=0)(h1:¬(atom=true∧xy (zd s st.i)=true))(h2:¬(zd s st.i=40∧op=10)):zQ s (f+1) l op atom st=zQ s f (l++[(zy s st).1]) (yf (zy s st).1.kind op) (((zy s st).1.kind == 1) ||((zy s st).1.kind == 4))
     (if yf (zy s st).1.kind op<0 then (zy s st).2.fail 3 st.i else (zy s st).2):=by
 simp only [zQ];rw [if_pos h,if_neg h1,if_neg h2]
theorem vD (h:¬(st.i<s.size∧st.e=0)):zQ s (f+1) l op atom st=(l,(if 0<op then st.fail 3 s.size else st).e,(if 0<op then st.fail 3 s.size else st).a):=by
 simp only [zQ];rw [if_neg h]
end
end Ref
end
end Go.Proofs.YtnagphodmfejiaaGreatDoor
