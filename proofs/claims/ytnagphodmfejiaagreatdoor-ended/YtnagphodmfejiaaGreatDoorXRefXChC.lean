/- The reference's sizes. -/
import Derived.Test.YtnagphodmfejiaaGreatDoorXEqJRefW
import Derived.RangeFuncWrites
import Derived.RangeFuncCalls
import Derived.RangeFuncNested
import Derived.RangeFuncBound
import Derived.RangeFuncLeaves
import Derived.Shelf.Abstract
import Derived.OwnWalkIn
import Derived.TacticsInMore
import Derived.LoopNIn
import Derived.LoopIn
namespace Go.Proofs.YtnagphodmfejiaaGreatDoor
section
open Go.RowKit
set_option maxHeartbeats 4000000
set_option maxRecDepth 1000000
def SizedOK (f:Nat):Prop:=∀ (g off cap:Nat) (l:List Tok) (w:World) (z:Int),TokRow w g off l→l.length≤1000→l.length≤cap→(∀ t∈l,Ref.TokB t)→Ref.yp f l 0=some z→
 Calls Tryz.prog 37 #[.slice (some ⟨g,off,none⟩) l.length cap] w fun x w'=>x = .returned (.int .i64 z)∧Only (fun _=>False) w w'
theorem TokRow.only {w w':World}{g off:Nat}{l:List Tok}(h:TokRow w g off l)(k:Only (fun _=>False) w w'):TokRow w' g off l:=by
 intro j t hj
 obtain ⟨pa,pn,pc,z0,z1,z2,z3,z4,z5⟩:=h j t hj
 have e:∀ (p:Addr) (v:Value),w.cell? p=some v→w'.cell? p=some v:=fun p v hv=>(k.cell (World.block_lt_of_cell? w p hv) (fun f=>f)).trans hv
 exact ⟨pa,pn,pc,e _ _ z0,e _ _ z1,e _ _ z2,e _ _ z3,e _ _ z4,e _ _ z5⟩
namespace Ref
theorem Zs {l:List Tok}{i:Nat}(hi:i<l.length):zP l i=l[i].kind:=by unfold zP;rw [List.getElem?_eq_getElem hi]
theorem Yt {l:List Tok}{i:Nat}(hi:i<l.length):l.drop i=l[i] :: l.drop (i+1):=List.drop_eq_getElem_cons hi
theorem YO {rest:List Tok}{k:Int}(h:xI rest≠6):zN rest k=(k,rest):=by
 unfold zN
 cases rest with
 |nil=>rfl
 |cons q r=>simp only [];rw [if_neg (show ¬q.kind=6 from h)]
theorem Yu {l:List Tok}{i:Nat}:xI (l.drop i)=zP l i:=by unfold xI zP;rw [List.getElem?_drop,Nat.add_zero]
theorem Vo {l:List Tok}{i:Nat}(h:¬(i<l.length∧zP l i=6)):xI (l.drop i)≠6:=by
 rw [Yu]
 intro hh
 by_cases hi:i<l.length
 ·exact h ⟨hi,hh⟩
 ·unfold zP at hh;rw [List.getElem?_eq_none (by omega)] at hh;exact absurd hh (by decide)
end Ref
theorem wN {x y X Y:Int}(h0:0≤x)(h1:x≤X)(h2:0≤y)(h3:y≤Y):0≤x*y∧x*y≤X*Y:=by
 refine ⟨Int.mul_nonneg h0 h2,?_⟩
 have a:=Int.mul_le_mul_of_nonneg_right h1 h2
 have b:=Int.mul_le_mul_of_nonneg_left h3 (show (0:Int)≤X by omega)
 omega
theorem Z4 {g off cap:Nat}{l:List Tok}{i j:Nat}{w:World}(h:TokRow w g off l)(hl:l.length≤1000)(hc:l.length≤cap)(hE:i+j+2≤l.length)(h3:Ref.zP l i=3) :
  Calls Tryz.prog 74 #[.slice (some ⟨g,off+i*6,none⟩) (i+j+2-i) (cap-i)] w fun x w'=>x = .returned (.slice (some ⟨g,off+i*6+6,none⟩) (i+j+2-i-2) (cap-i-1))∧w'=w:=by
 have hlen:((l.drop i).take (j+2)).length=i+j+2-i:=by rw [List.length_take,List.length_drop];omega
 have:=QT g (off+i*6) (cap-i) ((l.drop i).take (j+2)) w (h.sub i (j+2)) (by rw [hlen];omega) (by rw [hlen];omega) (by rw [hlen];omega) (by
  unfold Ref.zP at h3 ⊢
  rw [List.getElem?_take,if_pos (by omega),List.getElem?_drop,Nat.add_zero]
  exact h3)
 rw [hlen] at this
 exact this
theorem Z5 {F:Nat}(hF:SizedOK F){g off cap:Nat}{l:List Tok}{i j f:Nat}{k:Int}{w:World}(h:TokRow w g off l)(hl:l.length≤1000)(hc:l.length≤cap)(hE:i+j+2≤l.length)(hb:∀ t∈l,Ref.TokB t)(hk:Ref.yp f ((l.drop (i+1)).take j) 0=some k)(hf:f≤F) :
  Calls Tryz.prog 37 #[.slice (some ⟨g,off+i*6+6,none⟩) (i+j+2-i-2) (cap-i-1)] w fun x w'=>x = .returned (.int .i64 k)∧Only (fun _=>False) w w':=by
 have hlen:((l.drop (i+1)).take j).length=i+j+2-i-2:=by rw [List.length_take,List.length_drop];omega
 have:=hF g (off+(i+1)*6) (cap-i-1) ((l.drop (i+1)).take j) w k (h.sub (i+1) j) (by rw [hlen];omega) (by rw [hlen];omega) (fun t ht=>hb t (List.mem_of_mem_drop (List.mem_of_mem_take ht))) (Ref.vG hk hf)
 rw [hlen,show off+(i+1)*6=off+i*6+6 by omega] at this
 exact this
namespace Ref
theorem YP {l:List Tok}{i:Nat}{k:Int}(hi:i<l.length)(h6:zP l i=6):zN (l.drop i) k=(yB k l[i].mn l[i].mx,l.drop (i+1)):=by
 rw [Yt hi]
 unfold zN
 simp only []
 rw [if_pos (by rw [←Zs hi];exact h6)]
end Ref
theorem vY (x:Int):(if (1000000:Int)<x then (1000000:Int) else x)=min 1000000 x:=by split<;>omega
theorem WN (F:Nat)(hF:SizedOK F):SizedOK (F+1):=by
 intro g off cap l w z h hl hc hb hz
 have H:=ze h
 have HF:=ze hF
 have HB:=ze hb
 clear h hF hb
 go_enter Tryz.func37,Tryz.ntmps37
 go_wp2_with fail
 go_loopw [3,4] (fun a b wr=>∃ (i f:Nat) (n:Int),a = .int .i64 n∧b = .int .i64 i∧i≤l.length∧f≤F+1∧0≤n∧n≤1000000+i∧Only (fun _=>False) w wr∧Hid (Ref.yp f (l.drop i) n=some z)) (fun _ b _=>l.length-(intOf b).toNat)
 case atStart=>exact ⟨0,F+1,0,rfl,rfl,by omega,by omega,by omega,by omega,Only.refl _ _,hz⟩
 case round=>
  obtain ⟨i,f,n,rfl,rfl,hi,hf,hn0,hn1,hO,HZ⟩:=hrel
  have HR:=ze ((zb H).only hO)
  obtain ⟨f,rfl⟩:∃ f',f=f'+1:=by
   cases f with
   |zero=>exact absurd (zb HZ) (by simp [Ref.yp])
   |succ f=>exact ⟨f,rfl⟩
  by_cases hlt:i<l.length
  ·have hkc:=(zb HR).kind i hlt
   have hds:=Ref.Yt hlt
   have hkg:=Ref.Zs hlt
   by_cases h5:Ref.zP l i=5
   ·have HZ1:Hid (Ref.yp f (l.drop (i+1)) (n+1)=some z):=by
     have:=zb HZ
     rw [hds] at this
     unfold Ref.yp at this
     rw [if_pos (by rw [←hkg];exact h5)] at this
     exact this
    have h5':(Ref.zP l i == 5)=true:=by simp [h5]
    clear h5 hds hkg
    go_wp2_with fail
    exact ⟨⟨i+1,f,n+1,rfl,by go_num,by omega,by omega,by omega,by omega,hO,HZ1⟩,by simp [intOf];omega⟩
   ·have h5':(Ref.zP l i == 5)=false:=by simp [h5]
    by_cases h3:Ref.zP l i=3
    ·have h3':(Ref.zP l i == 3)=true:=by simp [h3]
     obtain ⟨j,k,hj,hk,HZ1⟩:∃ j k,Ref.scan (l.drop (i+1)) 1 0=some j∧Ref.yp f ((l.drop (i+1)).take j) 0=some k∧Hid (Ref.yp f (Ref.zN ((l.drop (i+1)).drop (j+1)) k).2 (min 1000000 (n+(Ref.zN ((l.drop (i+1)).drop (j+1)) k).1))=some z):=by
      have:=zb HZ
      rw [hds] at this
      unfold Ref.yp at this
      rw [if_neg (by rw [←hkg];exact h5),if_pos (by rw [←hkg];exact h3)] at this
      split at this
      ·cases this
      ·rename_i j hj
       split at this
       ·cases this
       ·rename_i k hk
        exact ⟨j,k,hj,hk,this⟩
     obtain ⟨hE,hEl⟩:=Ref.wW hlt h3 hj
     have hkb:=Ref.KJ f _ 0 k 0 hk (fun u hu=>zb HB u (List.mem_of_mem_drop (List.mem_of_mem_take hu))) (by omega) (by omega) (by omega)
     have HE:=ze hE
     rw [List.drop_drop,show i+1+(j+1)=i+j+2 by omega] at HZ1
     have hci:¬cap=i:=by omega
     have H3:=ze h3
     have HK:=ze hk
     have hkb2:k≤1010000:=by have:((l.drop (i+1)).take j).length≤l.length:=by (rw [List.length_take,List.length_drop];omega)
                    omega
     have hkb0:=hkb.1
     clear hkb hj hk h3
     by_cases hq:i+j+2<l.length∧Ref.zP l (i+j+2)=6
     ·obtain ⟨hq1,hq6⟩:=hq
      have HC:Hid (∀ w',Only (fun _=>False) w w'→∃ pa pn pc,w'.cell? ⟨g,off+(i+j+2)*6,none⟩=some (.int .i64 l[i+j+2].kind)∧w'.cell? ⟨g,off+(i+j+2)*6+1,none⟩=some (.bool l[i+j+2].neg)∧w'.cell? ⟨g,off+(i+j+2)*6+2,none⟩=some (.slice pa pn pc)∧w'.cell? ⟨g,off+(i+j+2)*6+3,none⟩=some (.int .i64 l[i+j+2].c)∧w'.cell? ⟨g,off+(i+j+2)*6+4,none⟩=some (.int .i64 l[i+j+2].mn)∧w'.cell? ⟨g,off+(i+j+2)*6+5,none⟩=some (.int .i64 l[i+j+2].mx)):=fun w' ho=>((zb H).only ho) (i+j+2) l[i+j+2] (List.getElem?_eq_getElem hq1)
      have htb:=zb HB l[i+j+2] (List.getElem_mem hq1)
      have HN:Hid (Ref.yg l i=((i+j+2:Nat):Int)+1):=by show _=_;unfold Ref.yg;rw [hE,if_pos ⟨by omega,by rw [Int.toNat_natCast];exact hq6⟩]
      have HZ2:Hid (Ref.yp f (l.drop (i+j+2+1)) (min 1000000 (n+Ref.yB k l[i+j+2].mn l[i+j+2].mx))=some z):=by
       have:=zb HZ1
       rw [Ref.YP hq1 hq6] at this
       exact this
      have hqn:=Ref.XC (k:=k) (t:=l[i+j+2]) (by omega) htb
      unfold Ref.TokB at htb
      generalize l[i+j+2].mn=mn at *
      generalize l[i+j+2].mx=mx at *
      generalize l[i+j+2].neg=ng at *
      generalize l[i+j+2].c=cc at *
      generalize l[i+j+2].kind=kd at *
      clear hE hds hkg h5 hq6
      by_cases hmx:mx<0
      ·by_cases hmn:mn=0
       ·have hmn':(mn == 0)=true:=by simp [hmn]
        have HQ:Hid (1*k+1=Ref.yB k mn mx):=by show _=_;unfold Ref.yB;rw [if_pos hmx,if_pos hmn]
        clear hmn
        go_wp2_with (first |(go_at_call 73;refine (qC g off cap l i _ (zb HR) hl hc hlt).mono ?_;rintro e wq ⟨rfl,hwq⟩;obtain rfl:=hwq.symm;clear hwq;rw [zb HE,zb HN]) |(go_at_call 74;refine (Z4 (zb HR) hl hc hEl (zb H3)).mono ?_;rintro e wq ⟨rfl,hwq⟩;obtain rfl:=hwq.symm;clear hwq) |(go_at_call 37;refine (Z5 (zb HF) (zb HR) hl hc hEl (zb HB) (zb HK) (by omega)).mono ?_;rintro e w1 ⟨rfl,hO1⟩;obtain ⟨pa,pn,pc,z0,z1,z2,z3,z4,z5⟩:=zb HC w1 (hO.trans hO1)) |(go_at_call 75;refine (qd _ _ _).mono ?_;rintro e wq ⟨rfl,hwq⟩;obtain rfl:=hwq.symm;clear hwq))
        exact ⟨⟨i+j+2+1,f,min 1000000 (n+Ref.yB k mn mx),by rw [vY,show n+(k+1)=n+Ref.yB k mn mx by (rw [←zb HQ];omega)],by go_num,by omega,by omega,by omega,by omega,(hO.trans hO1).alloc _,HZ2⟩,by simp [intOf];omega⟩
       ·have hmn':(mn == 0)=false:=by simp [hmn]
        have HQ:Hid (mn*k+1=Ref.yB k mn mx):=by show _=_;unfold Ref.yB;rw [if_pos hmx,if_neg hmn]
        have hpr:=wN (x:=mn) (y:=k) (X:=100) (Y:=1010000) (by omega) (by omega) (by omega) (by omega)
        clear hmn
        go_wp2_with (first |(go_at_call 73;refine (qC g off cap l i _ (zb HR) hl hc hlt).mono ?_;rintro e wq ⟨rfl,hwq⟩;obtain rfl:=hwq.symm;clear hwq;rw [zb HE,zb HN]) |(go_at_call 74;refine (Z4 (zb HR) hl hc hEl (zb H3)).mono ?_;rintro e wq ⟨rfl,hwq⟩;obtain rfl:=hwq.symm;clear hwq) |(go_at_call 37;refine (Z5 (zb HF) (zb HR) hl hc hEl (zb HB) (zb HK) (by omega)).mono ?_;rintro e w1 ⟨rfl,hO1⟩;obtain ⟨pa,pn,pc,z0,z1,z2,z3,z4,z5⟩:=zb HC w1 (hO.trans hO1)) |(go_at_call 75;refine (qd _ _ _).mono ?_;rintro e wq ⟨rfl,hwq⟩;obtain rfl:=hwq.symm;clear hwq))
        exact ⟨⟨i+j+2+1,f,min 1000000 (n+Ref.yB k mn mx),by rw [vY,show n+(mn*k+1)=n+Ref.yB k mn mx by rw [←zb HQ]],by go_num,by omega,by omega,by omega,by omega,(hO.trans hO1).alloc _,HZ2⟩,by simp [intOf];omega⟩
      ·have HQ:Hid (mn*k+(mx-mn)*(k+1)=Ref.yB k mn mx):=by show _=_;unfold Ref.yB;rw [if_neg hmx]
       have hpr:=wN (x:=mn) (y:=k) (X:=100) (Y:=1010000) (by omega) (by omega) (by omega) (by omega)
       have hpr2:=wN (x:=mx-mn) (y:=k+1) (X:=100) (Y:=1010001) (by omega) (by omega) (by omega) (by omega)
       go_wp2_with (first |(go_at_call 73;refine (qC g off cap l i _ (zb HR) hl hc hlt).mono ?_;rintro e wq ⟨rfl,hwq⟩;obtain rfl:=hwq.symm;clear hwq;rw [zb HE,zb HN]) |(go_at_call 74;refine (Z4 (zb HR) hl hc hEl (zb H3)).mono ?_;rintro e wq ⟨rfl,hwq⟩;obtain rfl:=hwq.symm;clear hwq) |(go_at_call 37;refine (Z5 (zb HF) (zb HR) hl hc hEl (zb HB) (zb HK) (by omega)).mono ?_;rintro e w1 ⟨rfl,hO1⟩;obtain ⟨pa,pn,pc,z0,z1,z2,z3,z4,z5⟩:=zb HC w1 (hO.trans hO1)) |(go_at_call 75;refine (qd _ _ _).mono ?_;rintro e wq ⟨rfl,hwq⟩;obtain rfl:=hwq.symm;clear hwq))
       exact ⟨⟨i+j+2+1,f,min 1000000 (n+Ref.yB k mn mx),by rw [vY,show n+(mn*k+(mx-mn)*(k+1))=n+Ref.yB k mn mx by rw [←zb HQ]],by go_num,by omega,by omega,by omega,by omega,(hO.trans hO1).alloc _,HZ2⟩,by simp [intOf];omega⟩
     ·have HN:Hid (Ref.yg l i=((i+j+2:Nat):Int)):=by show _=_;unfold Ref.yg;rw [hE,if_neg (fun hh=>hq ⟨by omega,by have:=hh.2;rw [Int.toNat_natCast] at this;exact this⟩)]
      have HZ2:Hid (Ref.yp f (l.drop (i+j+2)) (min 1000000 (n+k))=some z):=by
       have:=zb HZ1
       rw [Ref.YO (Ref.Vo hq)] at this
       exact this
      clear hE hds hkg h5
      go_wp2_with (first |(go_at_call 73;refine (qC g off cap l i _ (zb HR) hl hc hlt).mono ?_;rintro e wq ⟨rfl,hwq⟩;obtain rfl:=hwq.symm;clear hwq;rw [zb HE,zb HN]) |(go_at_call 74;refine (Z4 (zb HR) hl hc hEl (zb H3)).mono ?_;rintro e wq ⟨rfl,hwq⟩;obtain rfl:=hwq.symm;clear hwq) |(go_at_call 37;refine (Z5 (zb HF) (zb HR) hl hc hEl (zb HB) (zb HK) (by omega)).mono ?_;rintro e w1 ⟨rfl,hO1⟩) |(go_at_call 75;refine (qd _ _ _).mono ?_;rintro e wq ⟨rfl,hwq⟩;obtain rfl:=hwq.symm;clear hwq))
      exact ⟨⟨i+j+2,f,min 1000000 (n+k),by rw [vY],by go_num,by omega,by omega,by omega,by omega,(hO.trans hO1),HZ2⟩,by simp [intOf];omega⟩
    ·have h3':(Ref.zP l i == 3)=false:=by simp [h3]
     have hE:Ref.xH l i=((i+1:Nat):Int):=by unfold Ref.xH;rw [if_neg h3];omega
     have HE:=ze hE
     have HZ1:Hid (Ref.yp f (Ref.zN (l.drop (i+1)) 1).2 (min 1000000 (n+(Ref.zN (l.drop (i+1)) 1).1))=some z):=by
      have:=zb HZ
      rw [hds] at this
      unfold Ref.yp at this
      rw [if_neg (by rw [←hkg];exact h5),if_neg (by rw [←hkg];exact h3)] at this
      exact this
     by_cases hq:i+1<l.length∧Ref.zP l (i+1)=6
     ·obtain ⟨hq1,hq6⟩:=hq
      have HC:Hid (∀ w',Only (fun _=>False) w w'→∃ pa pn pc,w'.cell? ⟨g,off+(i+1)*6,none⟩=some (.int .i64 l[i+1].kind)∧w'.cell? ⟨g,off+(i+1)*6+1,none⟩=some (.bool l[i+1].neg)∧w'.cell? ⟨g,off+(i+1)*6+2,none⟩=some (.slice pa pn pc)∧w'.cell? ⟨g,off+(i+1)*6+3,none⟩=some (.int .i64 l[i+1].c)∧w'.cell? ⟨g,off+(i+1)*6+4,none⟩=some (.int .i64 l[i+1].mn)∧w'.cell? ⟨g,off+(i+1)*6+5,none⟩=some (.int .i64 l[i+1].mx)):=fun w' ho=>((zb H).only ho) (i+1) l[i+1] (List.getElem?_eq_getElem hq1)
      have htb:=zb HB l[i+1] (List.getElem_mem hq1)
      have HN:Hid (Ref.yg l i=((i+1:Nat):Int)+1):=by show _=_;unfold Ref.yg;rw [hE,if_pos ⟨by omega,by rw [Int.toNat_natCast];exact hq6⟩]
      have HZ2:Hid (Ref.yp f (l.drop (i+1+1)) (min 1000000 (n+Ref.yB 1 l[i+1].mn l[i+1].mx))=some z):=by
       have:=zb HZ1
       rw [Ref.YP hq1 hq6] at this
       exact this
      have hqn:=Ref.XC (k:=1) (t:=l[i+1]) (by omega) htb
      unfold Ref.TokB at htb
      generalize l[i+1].mn=mn at *
      generalize l[i+1].mx=mx at *
      generalize l[i+1].neg=ng at *
      generalize l[i+1].c=cc at *
      generalize l[i+1].kind=kd at *
      clear hE hds hkg h5 hq6 h3
      by_cases hmx:mx<0
      ·by_cases hmn:mn=0
       ·have hmn':(mn == 0)=true:=by simp [hmn]
        have HQ:Hid (1*1+1=Ref.yB 1 mn mx):=by show _=_;unfold Ref.yB;rw [if_pos hmx,if_pos hmn]
        clear hmn
        obtain ⟨pa,pn,pc,z0,z1,z2,z3,z4,z5⟩:=zb HC _ hO
        go_wp2_with (first |(go_at_call 73;refine (qC g off cap l i _ (zb HR) hl hc hlt).mono ?_;rintro e wq ⟨rfl,hwq⟩;obtain rfl:=hwq.symm;clear hwq;rw [zb HE,zb HN]) |(go_at_call 75;refine (qd _ _ _).mono ?_;rintro e wq ⟨rfl,hwq⟩;obtain rfl:=hwq.symm;clear hwq))
        exact ⟨⟨i+1+1,f,min 1000000 (n+Ref.yB 1 mn mx),by rw [vY,show n+2=n+Ref.yB 1 mn mx by (rw [←zb HQ];omega)],by go_num,by omega,by omega,by omega,by omega,hO.alloc _,HZ2⟩,by simp [intOf];omega⟩
       ·have hmn':(mn == 0)=false:=by simp [hmn]
        have HQ:Hid (mn*1+1=Ref.yB 1 mn mx):=by show _=_;unfold Ref.yB;rw [if_pos hmx,if_neg hmn]
        have hpr:=wN (x:=mn) (y:=1) (X:=100) (Y:=1010000) (by omega) (by omega) (by omega) (by omega)
        clear hmn
        obtain ⟨pa,pn,pc,z0,z1,z2,z3,z4,z5⟩:=zb HC _ hO
        go_wp2_with (first |(go_at_call 73;refine (qC g off cap l i _ (zb HR) hl hc hlt).mono ?_;rintro e wq ⟨rfl,hwq⟩;obtain rfl:=hwq.symm;clear hwq;rw [zb HE,zb HN]) |(go_at_call 75;refine (qd _ _ _).mono ?_;rintro e wq ⟨rfl,hwq⟩;obtain rfl:=hwq.symm;clear hwq))
        exact ⟨⟨i+1+1,f,min 1000000 (n+Ref.yB 1 mn mx),by rw [vY,show n+(mn+1)=n+Ref.yB 1 mn mx by (rw [←zb HQ];omega)],by go_num,by omega,by omega,by omega,by omega,hO.alloc _,HZ2⟩,by simp [intOf];omega⟩
      ·have HQ:Hid (mn*1+(mx-mn)*(1+1)=Ref.yB 1 mn mx):=by show _=_;unfold Ref.yB;rw [if_neg hmx]
       have hpr:=wN (x:=mn) (y:=1) (X:=100) (Y:=1010000) (by omega) (by omega) (by omega) (by omega)
       have hpr2:=wN (x:=mx-mn) (y:=1+1) (X:=100) (Y:=1010001) (by omega) (by omega) (by omega) (by omega)
       obtain ⟨pa,pn,pc,z0,z1,z2,z3,z4,z5⟩:=zb HC _ hO
       go_wp2_with (first |(go_at_call 73;refine (qC g off cap l i _ (zb HR) hl hc hlt).mono ?_;rintro e wq ⟨rfl,hwq⟩;obtain rfl:=hwq.symm;clear hwq;rw [zb HE,zb HN]) |(go_at_call 75;refine (qd _ _ _).mono ?_;rintro e wq ⟨rfl,hwq⟩;obtain rfl:=hwq.symm;clear hwq))
       exact ⟨⟨i+1+1,f,min 1000000 (n+Ref.yB 1 mn mx),by rw [vY,show n+(mn+(mx-mn)*2)=n+Ref.yB 1 mn mx by (rw [←zb HQ];omega)],by go_num,by omega,by omega,by omega,by omega,hO.alloc _,HZ2⟩,by simp [intOf];omega⟩
     ·have HN:Hid (Ref.yg l i=((i+1:Nat):Int)):=by show _=_;unfold Ref.yg;rw [hE,if_neg (fun hh=>hq ⟨by omega,by have:=hh.2;rw [Int.toNat_natCast] at this;exact this⟩)]
      have HZ2:Hid (Ref.yp f (l.drop (i+1)) (min 1000000 (n+1))=some z):=by
       have:=zb HZ1
       rw [Ref.YO (Ref.Vo hq)] at this
       exact this
      clear hE hds hkg h3 h5
      go_wp2_with (first |(go_at_call 73;refine (qC g off cap l i _ (zb HR) hl hc hlt).mono ?_;rintro e wq ⟨rfl,hwq⟩;obtain rfl:=hwq.symm;clear hwq;rw [zb HE,zb HN]) |(go_at_call 75;refine (qd _ _ _).mono ?_;rintro e wq ⟨rfl,hwq⟩;obtain rfl:=hwq.symm;clear hwq))
      exact ⟨⟨i+1,f,min 1000000 (n+1),by rw [vY],by go_num,by omega,by omega,by omega,by omega,hO,HZ2⟩,by simp [intOf];omega⟩
  ·have HZ1:Hid (n=z):=by
    have:=zb HZ
    rw [List.drop_of_length_le (by omega)] at this
    unfold Ref.yp at this
    exact Option.some.inj this
   go_wp2_with fail
   go_ret
   rw [zb HZ1]
   exact ⟨rfl,hO⟩
theorem zbN:∀ f,SizedOK f:=by
 intro f
 induction f with
 |zero=>intro g off cap l w z _ _ _ _ hz;exact absurd hz (by simp [Ref.yp])
 |succ f ih=>exact WN f ih
theorem zbO (w:World):Calls Tryz.prog 37 #[.slice none 0 0] w fun x w'=>x = .returned (.int .i64 0)∧w'=w:=by
 go_enter Tryz.func37,Tryz.ntmps37
 go_wp2_with fail
 refine wp_loop_rounds 1 ?_
 rw [rounds_succ]
 go_wp2_with fail
 go_ret
 exact ⟨rfl,rfl⟩
namespace Ref
theorem vZ (s:ByteArray):∀ (f:Nat) (l:List Tok) (op:Int) (atom:Bool) (st:St),(zM s f l op atom st).1.length≤l.length+f
 |0,l,_,_,_=>by simp [zM]
 |f+1,l,op,atom,st=>by
  unfold zM
  split
  ·split
   ·exact Nat.le_trans (vZ s f _ _ _ _) (by simp;omega)
   ·split
    ·simp
    ·exact Nat.le_trans (vZ s f _ _ _ _) (by simp;omega)
  ·simp
theorem v7 (s:ByteArray):(yj s).1.length≤s.size+1:=by
 have:=vZ s (s.size+1) [] 0 false ⟨0,0,0⟩
 simp only [List.length_nil] at this
 unfold yj;omega
theorem Qd (s:ByteArray):∀ (f p:Nat) (acc:List (Int×Int)),(xk s f p acc).2<0→(xk s f p acc).2 = -1
 |0,p,acc=>by simp [xk]
 |f+1,p,acc=>by
  intro h
  by_cases hp:p<s.size
  ·cases h1:oneF s p with
   |none=>rw [xO hp h1] at h;simp only [] at h;omega
   |some nc=>
    obtain ⟨n,c⟩:=nc
    rw [xt hp h1] at h ⊢
    exact Qd s f _ _ h
  ·rw [qJ hp]
theorem jt {s:ByteArray}(h:(zE s).2<0):Good s 0:=vw s (s.size+1) 0 [] (by omega) (Qd s _ _ _ h) (by omega)
end Ref
theorem Z6 {w:World}{base:Nat}:∀ (l:List Tok) (cs:List Value),ToksOK w base l cs→∀ (j:Nat) (t:Tok),l[j]?=some t→∃ pa pn pc,
  cs[j*6]?=some (.int .i64 t.kind)∧cs[j*6+1]?=some (.bool t.neg)∧cs[j*6+2]?=some (.slice pa pn pc)∧cs[j*6+3]?=some (.int .i64 t.c)∧cs[j*6+4]?=some (.int .i64 t.mn)∧cs[j*6+5]?=some (.int .i64 t.mx)
 | [],_,_,j,t,hj=>by simp at hj
 |u :: us,a0 :: a1 :: a2 :: a3 :: a4 :: a5 :: vs,h,0,t,hj=>by
  simp only [List.getElem?_cons_zero,Option.some.injEq] at hj
  subst hj
  obtain ⟨⟨rfl,rfl,rfl,rfl,rfl⟩,⟨xs,hp,_⟩,_⟩:=h
  obtain ⟨pa,pn,pc,rfl⟩:=zq hp
  exact ⟨pa,pn,pc,rfl,rfl,rfl,rfl,rfl,rfl⟩
 |u :: us,a0 :: a1 :: a2 :: a3 :: a4 :: a5 :: vs,h,j+1,t,hj=>by
  obtain ⟨pa,pn,pc,z⟩:=Z6 us vs h.2.2 j t (by simpa using hj)
  exact ⟨pa,pn,pc,by
   rw [show (j+1)*6=j*6+6 by omega]
   exact z⟩
 |_ :: _,[],h,_,_,_=>absurd h id
 |_ :: _,[_],h,_,_,_=>absurd h id
 |_ :: _,[_,_],h,_,_,_=>absurd h id
 |_ :: _,[_,_,_],h,_,_,_=>absurd h id
 |_ :: _,[_,_,_,_],h,_,_,_=>absurd h id
 |_ :: _,[_,_,_,_,_],h,_,_,_=>absurd h id
theorem Vp {w:World}{base:Nat}{v:Value}{l:List Tok}(h:ToksAt w base v l):(v = .slice none 0 0∧l=[])∨∃ g cap,v = .slice (some ⟨g,0,none⟩) l.length cap∧base≤g∧l.length≤cap∧TokRow w g 0 l:=by
 obtain ⟨cs,ho,hk⟩:=h
 obtain ⟨h1,h2⟩:=ho
 rcases h2 with ⟨rfl,h0⟩ |⟨g,cap,cur,rfl,hb,hg,hc,hm,hs,ht⟩
 ·exact .inl ⟨rfl,List.eq_nil_of_length_eq_zero h0⟩
 ·refine .inr ⟨g,cap,rfl,hb,hc,?_⟩
  intro j t hj
  obtain ⟨pa,pn,pc,z0,z1,z2,z3,z4,z5⟩:=Z6 l cs hk j t hj
  have hjl:j<l.length:=by
   by_cases hlt:j<l.length
   ·exact hlt
   ·rw [List.getElem?_eq_none (by omega)] at hj;cases hj
  have how:w.ownsRow base 178 6 (.slice (some ⟨g,0,none⟩) l.length cap) l.length cs:=⟨h1,.inr ⟨g,cap,cur,rfl,hb,hg,hc,hm,hs,ht⟩⟩
  exact ⟨pa,pn,pc,by rw [Nat.zero_add,how.cellAt _ (by omega)];exact z0,by rw [Nat.zero_add,how.cellAt _ (by omega)];exact z1,by rw [Nat.zero_add,how.cellAt _ (by omega)];exact z2,by rw [Nat.zero_add,how.cellAt _ (by omega)];exact z3,by rw [Nat.zero_add,how.cellAt _ (by omega)];exact z4,by rw [Nat.zero_add,how.cellAt _ (by omega)];exact z5⟩
theorem Qe {w:World}{base:Nat}{v:Value}{l:List Tok}{z:Int}(h:ToksAt w base v l)(hl:l.length≤1000)(hb:∀ t∈l,Ref.TokB t)(hz:Ref.Yh l 0 z) :
  Calls Tryz.prog 37 #[v] w fun x w'=>x = .returned (.int .i64 z)∧Only (fun _=>False) w w':=by
 obtain ⟨f,hf⟩:=hz
 rcases Vp h with ⟨rfl,rfl⟩ |⟨g,cap,rfl,_,hc,hr⟩
 ·have:z=0:=by
   cases f with
   |zero=>simp [Ref.yp] at hf
   |succ f=>unfold Ref.yp at hf;exact (Option.some.inj hf).symm
  subst this
  exact (zbO w).mono (by rintro e w' ⟨rfl,rfl⟩;exact ⟨rfl,Only.refl _ _⟩)
 ·exact zbN f g 0 cap l w z hr hl hc hb hf
theorem Qw (s:ByteArray)(w:World)(hs:200<s.size) :
  Calls Tryz.prog 17 #[.string s] w fun x w'=>x = .returned (.tuple #[.pointer none,.int .i64 2,.int .i64 200])∧w'=w:=by
 go_enter Tryz.func17,Tryz.ntmps17
 go_wp2_with fail
 go_ret3
 exact ⟨rfl,rfl⟩
theorem Qx (s:ByteArray)(w:World)(hs:s.size≤200)(hc:0≤(Ref.zE s).2) :
  Calls Tryz.prog 17 #[.string s] w fun x w'=>x = .returned (.tuple #[.pointer none,.int .i64 1,.int .i64 (Ref.zE s).2])∧Only (fun _=>False) w w':=by
 generalize hA:(Ref.zE s).2=A at *
 go_enter Tryz.func17,Tryz.ntmps17
 go_wp2_with (go_at_call 35;refine (jl s _ (by omega)).mono ?_;rintro e w1 ⟨v,rfl,hv,hO1⟩;rw [hA];obtain ⟨pa,pn,pc,rfl⟩:=zq hv)
 go_ret3
 exact ⟨rfl,hO1⟩
theorem Z7 (s:ByteArray)(w:World)(hs:s.size≤200)(hc:(Ref.zE s).2<0)(he:(Ref.yj s).2.1≠0) :
  Calls Tryz.prog 17 #[.string s] w fun x w'=>x = .returned (.tuple #[.pointer none,.int .i64 (Ref.yj s).2.1,.int .i64 (Ref.yj s).2.2])∧Only (fun _=>False) w w':=by
 have HG:=ze (Ref.jt hc)
 generalize hA:(Ref.zE s).2=A at *
 generalize hE:(Ref.yj s).2.1=E at *
 generalize hP:(Ref.yj s).2.2=P at *
 have he':(E == 0)=false:=by simp [he]
 go_enter Tryz.func17,Tryz.ntmps17
 go_wp2_with (first |(go_at_call 35;refine (jl s _ (by omega)).mono ?_;rintro e w1 ⟨v,rfl,hv,hO1⟩;rw [hA];obtain ⟨pa,pn,pc,rfl⟩:=zq hv) |(go_at_call 36;refine (Zp s _ (by omega) (zb HG)).mono ?_;rintro e w2 ⟨v2,rfl,⟨cs2,hv2,hk2⟩,hO2⟩;rw [hE,hP];obtain ⟨qa,qn,qc,rfl⟩:=zq hv2))
 go_ret3
 exact ⟨rfl,hO1.trans hO2⟩
theorem J1 (s:ByteArray)(w:World)(z:Int)(hs:s.size≤200)(hc:(Ref.zE s).2<0)(he:(Ref.yj s).2.1=0)(hb:∀ t∈(Ref.yj s).1,Ref.TokB t)(hz:Ref.Yh (Ref.yj s).1 0 z)(h0:300≤z)(h1:z≤10000000) :
  Calls Tryz.prog 17 #[.string s] w fun x w'=>x = .returned (.tuple #[.pointer none,.int .i64 8,.int .i64 0])∧Only (fun _=>False) w w':=by
 have HG:=ze (Ref.jt hc)
 have HB:=ze hb
 have HZ:=ze hz
 have HL:=ze (Ref.v7 s)
 clear hb hz
 generalize hA:(Ref.zE s).2=A at *
 generalize hP:(Ref.yj s).2.2=P at *
 generalize hT:(Ref.yj s).1=ts at *
 go_enter Tryz.func17,Tryz.ntmps17
 go_wp2_with (first |(go_at_call 35;refine (jl s _ (by omega)).mono ?_;rintro e w1 ⟨v,rfl,hv,hO1⟩;rw [hA];obtain ⟨pa,pn,pc,rfl⟩:=zq hv) |(go_at_call 36;refine (Zp s _ (by omega) (zb HG)).mono ?_;rintro e w2 ⟨v2,rfl,hv2,hO2⟩;rw [he,hP];rw [hT] at hv2;obtain ⟨qa,qn,qc,rfl⟩:=zq hv2.choose_spec.1;have HV2:=ze hv2;clear hv2) |(go_at_call 37;refine (Qe (zb HV2) (by have:=zb HL;omega) (zb HB) (zb HZ)).mono ?_;rintro e w3 ⟨rfl,hO3⟩))
 go_ret3
 exact ⟨rfl,(hO1.trans hO2).trans hO3⟩
theorem Only.putObj {P:Nat→Prop}{a w:World}(h:Only P a w)(l:Nat)(o:Obj)(hp:P l∨a.heap.size≤l):Only P a (w.putObj l o):=
 ⟨h.os,h.tape,h.output,Nat.le_trans h.size (by simp [World.putObj]),fun k hk hn=>(World.putObj_heap_other (by
  rintro rfl
  rcases hp with hp |hp
  ·exact hn hp
  ·omega)).trans (h.block k hk hn)⟩
def strB (A:World)(k:Nat):Prop:=∃ s,A.cell? ⟨k,0,none⟩=some (.string s)
theorem WO {A:World}{k:Nat}{o:Obj}(h:A.heap[k]?=some o)(ho:o.isCells=false):¬strB A k:=by
 rintro ⟨s,hs⟩
 unfold World.cell? at hs
 rw [h] at hs
 cases o with
 |cells c T f=>simp [Obj.isCells] at ho
 |_=>simp at hs
structure KeepT (W W':World):Prop where
 size:W.heap.size≤W'.heap.size
 same:∀ (k:Nat),strB W k→W'.heap[k]?=W.heap[k]?
theorem KeepT.trans {A B C:World}(h:KeepT A B)(k:KeepT B C):KeepT A C:=⟨Nat.le_trans h.size k.size,fun i hi=>(k.same i (by
 obtain ⟨s,hs⟩:=hi
 exact ⟨s,(World.cell?_of_block (w:=A) (h.same i ⟨s,hs⟩)).trans hs⟩)).trans (h.same i hi)⟩
theorem KeepT.putObj (W:World)(l:Nat)(o o':Obj)(ho:W.heap[l]?=some o)(hc:o.isCells=false):KeepT W (W.putObj l o'):=
 ⟨by simp [World.putObj],fun k hk=>World.putObj_heap_other (by
  rintro rfl
  exact WO ho hc hk)⟩
def SeqT {α:Type}(F:Fence)(n:Nat)(P:Program)(gf:Nat)(lb:Array Value)(encs:α→Array Value)(xs:List α)(w0:World):Prop:=
 ∀ (l:Nat) (J:List α→World→Prop) (W:World),Only (fun _=>False) w0 W→
  (∀ pre A A',J pre A→Only (fun k=>W.heap.size≤k∧strB A k) A A'→J pre A')→
  (∀ pre x A,J pre A→(pre++[x]) <+: xs→YieldAt F (n-1) P l (encs x) A fun e A'=>e = .returned (.bool true)∧J (pre++[x]) A'∧KeepT A A')→
  J [] W→CallsIn F n P gf (#[.func (.yield l) #[] #[]]++lb) W fun e W'=>(∃ v,e = .returned v)∧J xs W'
def goesPost {α:Type}(B:Nat)(I:List α→World→Prop)(xs:List α)(W:World):Exit→Act→World→Prop
 | .normal,_,W'=>KeepsFrom B W W'∧KeepT W W'∧I xs W'
 |_,_,_=>False
variable {F:Fence} {n:Nat} {P:Program}
theorem Vq {α:Type}{g:Operand}{ps:Array Tmp}{assign body:Code}{Q:Exit→Act→World→Prop}{a:Act}{w:World}
  (hro:F.round=none) (h1:1≤n) {gf:Nat} {lb:Array Value} (hg:a.eval g = .func (.func gf) #[] lb) (hFg:F.fn gf) (eg:∀ args w,(callFunc gf args).run P w = .ok (.enter gf args) w)
  {encs:α→Array Value} {xs:List α} (hseq:SeqT F (n-1) P gf lb encs xs w) (hps:∀ x,(encs x).size=ps.size)
  (I:List α→World→Prop)
  (hI:∀ pre A A',I pre A→Only (fun k=>w.heap.size≤k∧(strB A k∨∃ o,A.heap[k]?=some o∧o.isCells=false)) A A'→I pre A')
  (h0:I [] w) (a₁:α→Act)
  (hassign:∀ (l:Nat) (x:α) (W:World) (K:Act→World→Prop),K (a₁ x) W→
   assign.wpIn (F.inRound l) (n-1-1) P (Exit.then K (fun _ _ _=>False)) { tmps:=(ps.zip (encs x)).foldl (fun t (p,v)=>t.setIfInBounds p v) a.tmps,defers:=[] } W)
  (hbody:∀ (l:Nat) (pre:List α) (x:α) (W:World),I pre W→(pre++[x]) <+: xs→body.wpIn (F.inRound l) (n-1-1) P (goesPost w.heap.size I (pre++[x]) W) (a₁ x) W)
  (hdone:∀ (D:Nat) (W:World),w.heap.size≤D→I xs W→W.heap[D]?=some (.deferred (some []))→Q .normal { a with defers:={ target:=.collected D,args:=#[] } :: a.defers } W) :
  (Code.rangeFunc g ps assign body).wpIn F n P Q a w:=by
 refine wpIn_rangeFunc ?_
 intro fn hfn
 rw [hro]
 obtain ⟨rec,hrec⟩:∃ rec:LoopState→Loop,rec=fun st=>{ state:=st,pending:=none,fn,tmps:=a.tmps,params:=ps,assign,body,defers:=w.heap.size }:=⟨_,rfl⟩
 obtain ⟨V,hV⟩:∃ V,(w.alloc (.deferred (some []))).alloc (.loop (rec .ready))=V:=⟨_,rfl⟩
 have hO:Only (fun _=>False) w V:=by rw [←hV];exact ((Only.refl _ w).alloc _).alloc _
 have hsz:V.heap.size=w.heap.size+1+1:=by rw [←hV];simp
 have hL1:V.heap[w.heap.size+1]?=some (.loop (rec .ready)):=by
  rw [←hV];have:=World.alloc_heap_new (w.alloc (.deferred (some []))) (.loop (rec .ready));rwa [World.size_alloc] at this
 have hD1:V.heap[w.heap.size]?=some (.deferred (some [])):=by
  rw [←hV];exact (Below.heap_alloc _ _ _ (by simp)).trans (World.alloc_heap_new w _)
 refine ⟨w.heap.size+1,[{ target:=.collected w.heap.size,args:=#[] }],V,{ target:=.fn (.func gf) lb,args:=#[.func (.yield (w.heap.size+1)) #[] #[]] },V,gf,
  #[.func (.yield (w.heap.size+1)) #[] #[]]++lb,V,?_,?_,?_,?_,fun _=>h1,?_⟩
 ·rw [←hV,hrec];exact run_enterLoop_outer _ _ _ _ _
 ·simp only [resolve,hg]
  simp [go_sem]
 ·intro f' hf';simp [Target.leads] at hf';subst hf';exact hFg
 ·simp [invoke,go_sem,eg]
 ·have put:∀ pre A o o',I pre A→A.heap[w.heap.size+1]?=some o→o.isCells=false→I pre (A.putObj (w.heap.size+1) o'):=fun pre A o o' hi ho hc=>
   hI pre A _ hi ((Only.refl _ A).putObj _ _ (.inl ⟨by omega,.inr ⟨o,ho,hc⟩⟩))
  refine (hseq (w.heap.size+1) (fun pre W=>I pre W∧W.heap[w.heap.size+1]?=some (.loop (rec .ready))∧W.heap[w.heap.size]?=some (.deferred (some []))) V hO ?_ ?_ ⟨hI _ _ _ h0 (hO.mono (fun _ _ f=>f.elim)),hL1,hD1⟩).mono ?_
  ·rintro pre A A' ⟨hi,hl,hd⟩ hA
   have lt:∀ k o,A.heap[k]?=some o→k<V.heap.size→A'.heap[k]?=some o:=fun k o hk hlt=>(hA.block k (Array.getElem?_eq_some_iff.1 hk).1 (fun hp=>by omega)).trans hk
   exact ⟨hI pre A A' hi (hA.mono (fun k hk hp=>⟨by omega,.inl hp.2⟩)),lt _ _ hl (by omega),lt _ _ hd (by omega)⟩
  ·rintro pre x W ⟨hi,hl,hd⟩ hpre
   have hlt:w.heap.size+1<W.heap.size:=(Array.getElem?_eq_some_iff.1 hl).1
   have hy:=run_yield (P:=P) (args:=encs x) hl (by rw [hrec];exact hps x)
   rw [hrec] at hy
   refine ⟨fn,_,assign,body,hy,roundIn_of_wpIn hfn (hassign _ x W _ ⟨_,run_beginRound hl (by rw [hrec]),?_⟩)⟩
   have hl2:(W.putObj (w.heap.size+1) (.loop { rec .ready with state:=.busy })).heap[w.heap.size+1]?=some (.loop { rec .ready with state:=.busy }):=World.putObj_heap_same hlt
   have hd2:(W.putObj (w.heap.size+1) (.loop { rec .ready with state:=.busy })).heap[w.heap.size]?=some (.deferred (some [])):=(World.putObj_heap_other (by omega)).trans hd
   have hk2:KeepT W (W.putObj (w.heap.size+1) (.loop { rec .ready with state:=.busy })):=KeepT.putObj _ _ _ _ hl rfl
   refine wpIn_mono (hbody _ pre x _ (put _ _ _ _ hi hl rfl) hpre) ?_
   rintro e a3 W3 hp
   cases e with
   |normal=>
    obtain ⟨hk3,hkt3,hi3⟩:=hp
    have hl3:=hk3.same _ _ (by omega) hl2 rfl
    have hd3:=hk3.same _ _ (Nat.le_refl _) hd2 rfl
    have hr:=run_endRound (P:=P) none hl3
    refine ⟨_,_,hr,rfl,⟨put _ _ _ _ hi3 hl3 rfl,?_,(World.putObj_heap_other (by omega)).trans hd3⟩,(hk2.trans hkt3).trans (KeepT.putObj _ _ _ _ hl3 rfl)⟩
    rw [World.putObj_heap_same (Array.getElem?_eq_some_iff.1 hl3).1,hrec]
    rfl
   |ret=>exact hp.elim
   |exit id=>exact hp.elim
   |goto t=>exact hp.elim
   |panic ch=>exact hp.elim
   |outgrown=>exact hp.elim
  ·rintro e W2 ⟨⟨v,rfl⟩,hi,hl,hd⟩
   have he:=run_endLoop (P:=P) hl (by rw [hrec];simp)
   refine ⟨none,_,he.trans (by rw [hrec]),?_⟩
   exact hdone _ _ (Nat.le_refl _) (put _ _ _ _ hi hl rfl) ((World.putObj_heap_other (by omega)).trans hd)
end
section
open Go.RowKit
def SeqO {α:Type}(F:Fence)(n:Nat)(P:Program)(gf:Nat)(lb:Array Value)(encs:α→Array Value)(xs:List α)(D:Nat→Prop)(w0:World):Prop:=
 ∀ (l:Nat) (J:List α→(Nat→Prop)→World→Prop) (O0:Nat→Prop) (W:World),Only (fun _=>False) w0 W→(∀ k,D k→¬O0 k)→(∀ k,O0 k→k<W.heap.size)→
  (∀ pre O A A',J pre O A→Only (fun k=>W.heap.size≤k∧¬O k) A A'→J pre O A')→
  (∀ pre O x A,J pre O A→(pre++[x]) <+: xs→YieldAt F (n-1) P l (encs x) A fun e A'=>e = .returned (.bool true)∧∃ O',J (pre++[x]) O' A'∧(∀ k,O' k→O k∨A.heap.size≤k)∧Only O A A'∧∀ k,O' k→k<A'.heap.size)→
  J [] O0 W→CallsIn F n P gf (#[.func (.yield l) #[] #[]]++lb) W fun e W'=>(∃ v,e = .returned v)∧∃ O',J xs O' W'
def goesO {α:Type}(I:List α→(Nat→Prop)→World→Prop)(xs:List α)(O:Nat→Prop)(W:World):Exit→Act→World→Prop
 | .normal,_,W'=>∃ O',I xs O' W'∧(∀ k,O' k→O k∨W.heap.size≤k)∧Only O W W'∧∀ k,O' k→k<W'.heap.size
 |_,_,_=>False
variable {F:Fence} {n:Nat} {P:Program}
theorem yK (W:World)(l:Nat)(o:Obj):(W.putObj l o).heap.size=W.heap.size:=by simp [World.putObj]
theorem wg {α:Type}{g:Operand}{ps:Array Tmp}{assign body:Code}{Q:Exit→Act→World→Prop}{a:Act}{w:World}
  (hro:F.round=none) (h1:1≤n) {gf:Nat} {lb:Array Value} (hg:a.eval g = .func (.func gf) #[] lb) (hFg:F.fn gf) (eg:∀ args w,(callFunc gf args).run P w = .ok (.enter gf args) w)
  {encs:α→Array Value} {xs:List α} {D:Nat→Prop} (hseq:SeqO F (n-1) P gf lb encs xs D w) (hps:∀ x,(encs x).size=ps.size)
  (I:List α→(Nat→Prop)→World→Prop) (O0:Nat→Prop) (hO0:∀ k,O0 k→k<w.heap.size) (hD:∀ k,D k→k<w.heap.size∧¬O0 k)
  (hI:∀ pre O A A',I pre O A→Only (fun k=>w.heap.size≤k∧¬O k) A A'→I pre O A')
  (h0:I [] O0 w) (a₁:α→Act)
  (hassign:∀ (l:Nat) (x:α) (W:World) (K:Act→World→Prop),K (a₁ x) W→
   assign.wpIn (F.inRound l) (n-1-1) P (Exit.then K (fun _ _ _=>False)) { tmps:=(ps.zip (encs x)).foldl (fun t (p,v)=>t.setIfInBounds p v) a.tmps,defers:=[] } W)
  (hbody:∀ (l:Nat) (pre:List α) (O:Nat→Prop) (x:α) (W:World),w.heap.size≤l→¬O l→(∃ r,W.heap[l]?=some (.loop r))→I pre O W→(pre++[x]) <+: xs→body.wpIn (F.inRound l) (n-1-1) P (goesO I (pre++[x]) O W) (a₁ x) W)
  (hdone:∀ (D:Nat) (O:Nat→Prop) (W:World),w.heap.size≤D→¬O D→I xs O W→W.heap[D]?=some (.deferred (some []))→Q .normal { a with defers:={ target:=.collected D,args:=#[] } :: a.defers } W) :
  (Code.rangeFunc g ps assign body).wpIn F n P Q a w:=by
 refine wpIn_rangeFunc ?_
 intro fn hfn
 rw [hro]
 obtain ⟨rec,hrec⟩:∃ rec:LoopState→Loop,rec=fun st=>{ state:=st,pending:=none,fn,tmps:=a.tmps,params:=ps,assign,body,defers:=w.heap.size }:=⟨_,rfl⟩
 obtain ⟨V,hV⟩:∃ V,(w.alloc (.deferred (some []))).alloc (.loop (rec .ready))=V:=⟨_,rfl⟩
 have hO:Only (fun _=>False) w V:=by rw [←hV];exact ((Only.refl _ w).alloc _).alloc _
 have hsz:V.heap.size=w.heap.size+1+1:=by rw [←hV];simp
 have hL1:V.heap[w.heap.size+1]?=some (.loop (rec .ready)):=by
  rw [←hV];have:=World.alloc_heap_new (w.alloc (.deferred (some []))) (.loop (rec .ready));rwa [World.size_alloc] at this
 have hD1:V.heap[w.heap.size]?=some (.deferred (some [])):=by
  rw [←hV];exact (Below.heap_alloc _ _ _ (by simp)).trans (World.alloc_heap_new w _)
 refine ⟨w.heap.size+1,[{ target:=.collected w.heap.size,args:=#[] }],V,{ target:=.fn (.func gf) lb,args:=#[.func (.yield (w.heap.size+1)) #[] #[]] },V,gf,
  #[.func (.yield (w.heap.size+1)) #[] #[]]++lb,V,?_,?_,?_,?_,fun _=>h1,?_⟩
 ·rw [←hV,hrec];exact run_enterLoop_outer _ _ _ _ _
 ·simp only [resolve,hg]
  simp [go_sem]
 ·intro f' hf';simp [Target.leads] at hf';subst hf';exact hFg
 ·simp [invoke,go_sem,eg]
 ·have put:∀ pre Ob A o',I pre Ob A→¬Ob (w.heap.size+1)→I pre Ob (A.putObj (w.heap.size+1) o'):=fun pre Ob A o' hi hn=>
   hI pre Ob A _ hi ((Only.refl _ A).putObj _ _ (.inl ⟨by omega,hn⟩))
  refine (hseq (w.heap.size+1) (fun pre O W=>∃ Ob:Nat→Prop,(∀ k,O k↔Ob k∨k=w.heap.size+1)∧¬Ob (w.heap.size+1)∧¬Ob w.heap.size∧I pre Ob W∧W.heap[w.heap.size+1]?=some (.loop (rec .ready))∧W.heap[w.heap.size]?=some (.deferred (some []))) (fun k=>O0 k∨k=w.heap.size+1) V hO ?_ ?_ ?_ ?_
   ⟨O0,fun _=>Iff.rfl,fun h=>by have:=hO0 _ h;omega,fun h=>by have:=hO0 _ h;omega,hI _ _ _ _ h0 (hO.mono (fun _ _ f=>f.elim)),hL1,hD1⟩).mono ?_
  ·intro k hk hor
   obtain ⟨h1,h2⟩:=hD k hk
   rcases hor with h |h
   ·exact h2 h
   ·omega
  ·rintro k (h |h)
   ·have:=hO0 k h;omega
   ·omega
  ·rintro pre O A A' ⟨Ob,hOb,hnL,hnD,hi,hl,hd⟩ hA
   have lt:∀ k o,A.heap[k]?=some o→k<V.heap.size→A'.heap[k]?=some o:=fun k o hk hlt=>(hA.block k (Array.getElem?_eq_some_iff.1 hk).1 (fun hp=>by omega)).trans hk
   exact ⟨Ob,hOb,hnL,hnD,hI pre Ob A A' hi (hA.mono (fun k hk hp=>⟨by omega,fun h=>hp.2 ((hOb k).2 (.inl h))⟩)),lt _ _ hl (by omega),lt _ _ hd (by omega)⟩
  ·rintro pre O x W ⟨Ob,hOb,hnL,hnD,hi,hl,hd⟩ hpre
   have hlt:w.heap.size+1<W.heap.size:=(Array.getElem?_eq_some_iff.1 hl).1
   have hy:=run_yield (P:=P) (args:=encs x) hl (by rw [hrec];exact hps x)
   rw [hrec] at hy
   refine ⟨fn,_,assign,body,hy,roundIn_of_wpIn hfn (hassign _ x W _ ⟨_,run_beginRound hl (by rw [hrec]),?_⟩)⟩
   have hl2:(W.putObj (w.heap.size+1) (.loop { rec .ready with state:=.busy })).heap[w.heap.size+1]?=some (.loop { rec .ready with state:=.busy }):=World.putObj_heap_same hlt
   have hd2:(W.putObj (w.heap.size+1) (.loop { rec .ready with state:=.busy })).heap[w.heap.size]?=some (.deferred (some [])):=(World.putObj_heap_other (by omega)).trans hd
   have hs2:(W.putObj (w.heap.size+1) (.loop { rec .ready with state:=.busy })).heap.size=W.heap.size:=by simp [World.putObj]
   have hk2:Only O W (W.putObj (w.heap.size+1) (.loop { rec .ready with state:=.busy })):=(Only.refl _ W).putObj _ _ (.inl ((hOb _).2 (.inr rfl)))
   refine wpIn_mono (hbody _ pre Ob x _ (by omega) hnL ⟨_,hl2⟩ (put _ _ _ _ hi hnL) hpre) ?_
   rintro e a3 W3 hp
   cases e with
   |normal=>
    obtain ⟨O2,hi3,hsub,hO3,hlt3⟩:=hp
    have keep:∀ k o,(W.putObj (w.heap.size+1) (.loop { rec .ready with state:=.busy })).heap[k]?=some o→¬Ob k→W3.heap[k]?=some o:=fun k o hk hn=>(hO3.block k (Array.getElem?_eq_some_iff.1 hk).1 hn).trans hk
    have hl3:=keep _ _ hl2 hnL
    have hd3:=keep _ _ hd2 hnD
    have hr:=run_endRound (P:=P) none hl3
    have hn2:¬O2 (w.heap.size+1):=fun h=>by
     rcases hsub _ h with h |h
     ·exact hnL h
     ·rw [yK] at h;omega
    have hn3:¬O2 w.heap.size:=fun h=>by
     rcases hsub _ h with h |h
     ·exact hnD h
     ·rw [yK] at h;omega
    refine ⟨_,_,hr,rfl,fun k=>O2 k∨k=w.heap.size+1,⟨O2,fun _=>Iff.rfl,hn2,hn3,put _ _ _ _ hi3 hn2,?_,(World.putObj_heap_other (by omega)).trans hd3⟩,?_,(hk2.trans (hO3.mono (fun k _ h=>(hOb k).2 (.inl h)))).putObj _ _ (.inl ((hOb _).2 (.inr rfl))),fun k hk=>by
     rw [yK]
     rcases hk with h |h
     ·exact hlt3 k h
     ·rw [h];exact (Array.getElem?_eq_some_iff.1 hl3).1⟩
    ·rw [World.putObj_heap_same (Array.getElem?_eq_some_iff.1 hl3).1,hrec]
     rfl
    ·rintro k (h |h)
     ·rcases hsub k h with h |h
      ·exact .inl ((hOb k).2 (.inl h))
      ·rw [yK] at h;exact .inr h
     ·exact .inl ((hOb k).2 (.inr h))
   |ret=>exact hp.elim
   |exit id=>exact hp.elim
   |goto t=>exact hp.elim
   |panic ch=>exact hp.elim
   |outgrown=>exact hp.elim
  ·rintro e W2 ⟨⟨v,rfl⟩,O',Ob,hOb,hnL,hnD,hi,hl,hd⟩
   have he:=run_endLoop (P:=P) hl (by rw [hrec];simp)
   refine ⟨none,_,he.trans (by rw [hrec]),?_⟩
   exact hdone _ Ob _ (Nat.le_refl _) hnD (put _ _ _ _ hi hnL) ((World.putObj_heap_other (by omega)).trans hd)
theorem Vr {α:Type}{g:Operand}{ps:Array Tmp}{assign body:Code}{Q:Exit→Act→World→Prop}{a:Act}{w:World}
  (hro:F.round=none) (h1:1≤n) {gf:Nat} {lb:Array Value} (hg:a.eval g = .func (.func gf) #[] lb) (hFg:F.fn gf) (eg:∀ args w,(callFunc gf args).run P w = .ok (.enter gf args) w)
  {encs:α→Array Value} {xs:List α} {D:Nat→Prop} (hseq:SeqO F (n-1) P gf lb encs xs D w) (hps:∀ x,(encs x).size=ps.size)
  (I:List α→(Nat→Prop)→World→Prop) (O0:Nat→Prop) (hO0:∀ k,O0 k→k<w.heap.size) (hD:∀ k,D k→k<w.heap.size∧¬O0 k)
  (hI:∀ pre O A A',I pre O A→Only (fun k=>w.heap.size≤k∧¬O k) A A'→I pre O A')
  (h0:I [] O0 w) (Ax:α→Act→World→Prop) (hAx:∀ x a V l o o',Ax x a V→V.heap[l]?=some o→o.isCells=false→Ax x a (V.putObj l o'))
  (hassign:∀ (l:Nat) (x:α) (W:World) (K:Act→World→Prop),(∀ a' V,Only (fun _=>False) W V→Ax x a' V→K a' V)→
   assign.wpIn (F.inRound l) (n-1-1) P (Exit.then K (fun _ _ _=>False)) { tmps:=(ps.zip (encs x)).foldl (fun t (p,v)=>t.setIfInBounds p v) a.tmps,defers:=[] } W)
  (hbody:∀ (l:Nat) (pre:List α) (O:Nat→Prop) (x:α) (a':Act) (W:World),w.heap.size≤l→¬O l→(∃ r,W.heap[l]?=some (.loop r))→I pre O W→(pre++[x]) <+: xs→Ax x a' W→body.wpIn (F.inRound l) (n-1-1) P (goesO I (pre++[x]) O W) a' W)
  (hdone:∀ (D:Nat) (O:Nat→Prop) (W:World),w.heap.size≤D→¬O D→I xs O W→W.heap[D]?=some (.deferred (some []))→Q .normal { a with defers:={ target:=.collected D,args:=#[] } :: a.defers } W) :
  (Code.rangeFunc g ps assign body).wpIn F n P Q a w:=by
 refine wpIn_rangeFunc ?_
 intro fn hfn
 rw [hro]
 obtain ⟨rec,hrec⟩:∃ rec:LoopState→Loop,rec=fun st=>{ state:=st,pending:=none,fn,tmps:=a.tmps,params:=ps,assign,body,defers:=w.heap.size }:=⟨_,rfl⟩
 obtain ⟨V,hV⟩:∃ V,(w.alloc (.deferred (some []))).alloc (.loop (rec .ready))=V:=⟨_,rfl⟩
 have hO:Only (fun _=>False) w V:=by rw [←hV];exact ((Only.refl _ w).alloc _).alloc _
 have hsz:V.heap.size=w.heap.size+1+1:=by rw [←hV];simp
 have hL1:V.heap[w.heap.size+1]?=some (.loop (rec .ready)):=by
  rw [←hV];have:=World.alloc_heap_new (w.alloc (.deferred (some []))) (.loop (rec .ready));rwa [World.size_alloc] at this
 have hD1:V.heap[w.heap.size]?=some (.deferred (some [])):=by
  rw [←hV];exact (Below.heap_alloc _ _ _ (by simp)).trans (World.alloc_heap_new w _)
 refine ⟨w.heap.size+1,[{ target:=.collected w.heap.size,args:=#[] }],V,{ target:=.fn (.func gf) lb,args:=#[.func (.yield (w.heap.size+1)) #[] #[]] },V,gf,
  #[.func (.yield (w.heap.size+1)) #[] #[]]++lb,V,?_,?_,?_,?_,fun _=>h1,?_⟩
 ·rw [←hV,hrec];exact run_enterLoop_outer _ _ _ _ _
 ·simp only [resolve,hg]
  simp [go_sem]
 ·intro f' hf';simp [Target.leads] at hf';subst hf';exact hFg
 ·simp [invoke,go_sem,eg]
 ·have put:∀ pre Ob A o',I pre Ob A→¬Ob (w.heap.size+1)→I pre Ob (A.putObj (w.heap.size+1) o'):=fun pre Ob A o' hi hn=>
   hI pre Ob A _ hi ((Only.refl _ A).putObj _ _ (.inl ⟨by omega,hn⟩))
  refine (hseq (w.heap.size+1) (fun pre O W=>∃ Ob:Nat→Prop,(∀ k,O k↔Ob k∨k=w.heap.size+1)∧¬Ob (w.heap.size+1)∧¬Ob w.heap.size∧I pre Ob W∧W.heap[w.heap.size+1]?=some (.loop (rec .ready))∧W.heap[w.heap.size]?=some (.deferred (some []))) (fun k=>O0 k∨k=w.heap.size+1) V hO ?_ ?_ ?_ ?_
   ⟨O0,fun _=>Iff.rfl,fun h=>by have:=hO0 _ h;omega,fun h=>by have:=hO0 _ h;omega,hI _ _ _ _ h0 (hO.mono (fun _ _ f=>f.elim)),hL1,hD1⟩).mono ?_
  ·intro k hk hor
   obtain ⟨h1,h2⟩:=hD k hk
   rcases hor with h |h
   ·exact h2 h
   ·omega
  ·rintro k (h |h)
   ·have:=hO0 k h;omega
   ·omega
  ·rintro pre O A A' ⟨Ob,hOb,hnL,hnD,hi,hl,hd⟩ hA
   have lt:∀ k o,A.heap[k]?=some o→k<V.heap.size→A'.heap[k]?=some o:=fun k o hk hlt=>(hA.block k (Array.getElem?_eq_some_iff.1 hk).1 (fun hp=>by omega)).trans hk
   exact ⟨Ob,hOb,hnL,hnD,hI pre Ob A A' hi (hA.mono (fun k hk hp=>⟨by omega,fun h=>hp.2 ((hOb k).2 (.inl h))⟩)),lt _ _ hl (by omega),lt _ _ hd (by omega)⟩
  ·rintro pre O x W0 ⟨Ob,hOb,hnL,hnD,hi0,hl0,hd0⟩ hpre
   have hlt0:w.heap.size+1<W0.heap.size:=(Array.getElem?_eq_some_iff.1 hl0).1
   have hy:=run_yield (P:=P) (args:=encs x) hl0 (by rw [hrec];exact hps x)
   rw [hrec] at hy
   refine ⟨fn,_,assign,body,hy,roundIn_of_wpIn hfn (hassign _ x W0 _ (fun a' W hoW hax=>?_))⟩
   have hl:=(hoW.block _ hlt0 (fun f=>f)).trans hl0
   have hd:=(hoW.block _ (Array.getElem?_eq_some_iff.1 hd0).1 (fun f=>f)).trans hd0
   have hi:=hI _ _ _ _ hi0 (hoW.mono (fun _ _ f=>f.elim))
   have hlt:w.heap.size+1<W.heap.size:=(Array.getElem?_eq_some_iff.1 hl).1
   refine ⟨_,run_beginRound hl (by rw [hrec]),?_⟩
   have hl2:(W.putObj (w.heap.size+1) (.loop { rec .ready with state:=.busy })).heap[w.heap.size+1]?=some (.loop { rec .ready with state:=.busy }):=World.putObj_heap_same hlt
   have hd2:(W.putObj (w.heap.size+1) (.loop { rec .ready with state:=.busy })).heap[w.heap.size]?=some (.deferred (some [])):=(World.putObj_heap_other (by omega)).trans hd
   have hk2:Only O W0 (W.putObj (w.heap.size+1) (.loop { rec .ready with state:=.busy })):=(hoW.mono (fun _ _ f=>f.elim)).putObj _ _ (.inl ((hOb _).2 (.inr rfl)))
   refine wpIn_mono (hbody _ pre Ob x a' _ (by omega) hnL ⟨_,hl2⟩ (put _ _ _ _ hi hnL) hpre (hAx _ _ _ _ _ _ hax hl rfl)) ?_
   rintro e a3 W3 hp
   cases e with
   |normal=>
    obtain ⟨O2,hi3,hsub,hO3,hlt3⟩:=hp
    have keep:∀ k o,(W.putObj (w.heap.size+1) (.loop { rec .ready with state:=.busy })).heap[k]?=some o→¬Ob k→W3.heap[k]?=some o:=fun k o hk hn=>(hO3.block k (Array.getElem?_eq_some_iff.1 hk).1 hn).trans hk
    have hl3:=keep _ _ hl2 hnL
    have hd3:=keep _ _ hd2 hnD
    have hr:=run_endRound (P:=P) none hl3
    have hn2:¬O2 (w.heap.size+1):=fun h=>by
     rcases hsub _ h with h |h
     ·exact hnL h
     ·rw [yK] at h;omega
    have hn3:¬O2 w.heap.size:=fun h=>by
     rcases hsub _ h with h |h
     ·exact hnD h
     ·rw [yK] at h;omega
    refine ⟨_,_,hr,rfl,fun k=>O2 k∨k=w.heap.size+1,⟨O2,fun _=>Iff.rfl,hn2,hn3,put _ _ _ _ hi3 hn2,?_,(World.putObj_heap_other (by omega)).trans hd3⟩,?_,(hk2.trans (hO3.mono (fun k _ h=>(hOb k).2 (.inl h)))).putObj _ _ (.inl ((hOb _).2 (.inr rfl))),fun k hk=>by
     rw [yK]
     rcases hk with h |h
     ·exact hlt3 k h
     ·rw [h];exact (Array.getElem?_eq_some_iff.1 hl3).1⟩
    ·rw [World.putObj_heap_same (Array.getElem?_eq_some_iff.1 hl3).1,hrec]
     rfl
    ·rintro k (h |h)
     ·rcases hsub k h with h |h
      ·exact .inl ((hOb k).2 (.inl h))
      ·rw [yK] at h;exact .inr (Nat.le_trans hoW.size h)
     ·exact .inl ((hOb k).2 (.inr h))
   |ret=>exact hp.elim
   |exit id=>exact hp.elim
   |goto t=>exact hp.elim
   |panic ch=>exact hp.elim
   |outgrown=>exact hp.elim
  ·rintro e W2 ⟨⟨v,rfl⟩,O',Ob,hOb,hnL,hnD,hi,hl,hd⟩
   have he:=run_endLoop (P:=P) hl (by rw [hrec];simp)
   refine ⟨none,_,he.trans (by rw [hrec]),?_⟩
   exact hdone _ Ob _ (Nat.le_refl _) hnD (put _ _ _ _ hi hnL) ((World.putObj_heap_other (by omega)).trans hd)
theorem Vs {α:Type}{g:Operand}{ps:Array Tmp}{assign body:Code}{Q:Exit→Act→World→Prop}{a:Act}{w:World}
  {l₀:Nat} {r₀:Loop} (hro:F.round=some l₀) (hl₀:w.heap[l₀]?=some (.loop r₀)) (h1:1≤n) {gf:Nat} {lb:Array Value} (hg:a.eval g = .func (.func gf) #[] lb) (hFg:F.fn gf) (eg:∀ args w,(callFunc gf args).run P w = .ok (.enter gf args) w)
  {encs:α→Array Value} {xs:List α} {D:Nat→Prop} (hseq:SeqO F (n-1) P gf lb encs xs D w) (hps:∀ x,(encs x).size=ps.size)
  (I:List α→(Nat→Prop)→World→Prop) (O0:Nat→Prop) (hO0:∀ k,O0 k→k<w.heap.size) (hD:∀ k,D k→k<w.heap.size∧¬O0 k)
  (hI:∀ pre O A A',I pre O A→Only (fun k=>w.heap.size≤k∧¬O k) A A'→I pre O A')
  (h0:I [] O0 w) (a₁:α→Act)
  (hassign:∀ (l:Nat) (x:α) (W:World) (K:Act→World→Prop),K (a₁ x) W→
   assign.wpIn (F.inRound l) (n-1-1) P (Exit.then K (fun _ _ _=>False)) { tmps:=(ps.zip (encs x)).foldl (fun t (p,v)=>t.setIfInBounds p v) a.tmps,defers:=[] } W)
  (hbody:∀ (l:Nat) (pre:List α) (O:Nat→Prop) (x:α) (W:World),w.heap.size≤l→¬O l→(∃ r,W.heap[l]?=some (.loop r))→I pre O W→(pre++[x]) <+: xs→body.wpIn (F.inRound l) (n-1-1) P (goesO I (pre++[x]) O W) (a₁ x) W)
  (hdone:∀ (O:Nat→Prop) (W:World),I xs O W→Q .normal a W) :
  (Code.rangeFunc g ps assign body).wpIn F n P Q a w:=by
 refine wpIn_rangeFunc ?_
 intro fn hfn
 rw [hro]
 obtain ⟨rec,hrec⟩:∃ rec:LoopState→Loop,rec=fun st=>{ state:=st,pending:=none,fn,tmps:=a.tmps,params:=ps,assign,body,defers:=r₀.defers }:=⟨_,rfl⟩
 obtain ⟨V,hV⟩:∃ V,w.alloc (.loop (rec .ready))=V:=⟨_,rfl⟩
 have hO:Only (fun _=>False) w V:=by rw [←hV];exact (Only.refl _ w).alloc _
 have hsz:V.heap.size=w.heap.size+1:=by rw [←hV];simp
 have hL1:V.heap[w.heap.size]?=some (.loop (rec .ready)):=by rw [←hV];exact World.alloc_heap_new w _
 refine ⟨w.heap.size,[],V,{ target:=.fn (.func gf) lb,args:=#[.func (.yield w.heap.size) #[] #[]] },V,gf,
  #[.func (.yield w.heap.size) #[] #[]]++lb,V,?_,?_,?_,?_,fun _=>h1,?_⟩
 ·rw [←hV,hrec];exact run_enterLoop_inner hl₀ _ _ _ _ _
 ·simp only [resolve,hg]
  simp [go_sem]
 ·intro f' hf';simp [Target.leads] at hf';subst hf';exact hFg
 ·simp [invoke,go_sem,eg]
 ·have put:∀ pre Ob A o',I pre Ob A→¬Ob w.heap.size→I pre Ob (A.putObj w.heap.size o'):=fun pre Ob A o' hi hn=>
   hI pre Ob A _ hi ((Only.refl _ A).putObj _ _ (.inl ⟨by omega,hn⟩))
  refine (hseq w.heap.size (fun pre O W=>∃ Ob:Nat→Prop,(∀ k,O k↔Ob k∨k=w.heap.size)∧¬Ob w.heap.size∧I pre Ob W∧W.heap[w.heap.size]?=some (.loop (rec .ready))) (fun k=>O0 k∨k=w.heap.size) V hO ?_ ?_ ?_ ?_
   ⟨O0,fun _=>Iff.rfl,fun h=>by have:=hO0 _ h;omega,hI _ _ _ _ h0 (hO.mono (fun _ _ f=>f.elim)),hL1⟩).mono ?_
  ·intro k hk hor
   obtain ⟨h1,h2⟩:=hD k hk
   rcases hor with h |h
   ·exact h2 h
   ·omega
  ·rintro k (h |h)
   ·have:=hO0 k h;omega
   ·omega
  ·rintro pre O A A' ⟨Ob,hOb,hnL,hi,hl⟩ hA
   have lt:∀ k o,A.heap[k]?=some o→k<V.heap.size→A'.heap[k]?=some o:=fun k o hk hlt=>(hA.block k (Array.getElem?_eq_some_iff.1 hk).1 (fun hp=>by omega)).trans hk
   exact ⟨Ob,hOb,hnL,hI pre Ob A A' hi (hA.mono (fun k hk hp=>⟨by omega,fun h=>hp.2 ((hOb k).2 (.inl h))⟩)),lt _ _ hl (by omega)⟩
  ·rintro pre O x W ⟨Ob,hOb,hnL,hi,hl⟩ hpre
   have hlt:w.heap.size<W.heap.size:=(Array.getElem?_eq_some_iff.1 hl).1
   have hy:=run_yield (P:=P) (args:=encs x) hl (by rw [hrec];exact hps x)
   rw [hrec] at hy
   refine ⟨fn,_,assign,body,hy,roundIn_of_wpIn hfn (hassign _ x W _ ⟨_,run_beginRound hl (by rw [hrec]),?_⟩)⟩
   have hl2:(W.putObj w.heap.size (.loop { rec .ready with state:=.busy })).heap[w.heap.size]?=some (.loop { rec .ready with state:=.busy }):=World.putObj_heap_same hlt
   have hs2:(W.putObj w.heap.size (.loop { rec .ready with state:=.busy })).heap.size=W.heap.size:=by simp [World.putObj]
   have hk2:Only O W (W.putObj w.heap.size (.loop { rec .ready with state:=.busy })):=(Only.refl _ W).putObj _ _ (.inl ((hOb _).2 (.inr rfl)))
   refine wpIn_mono (hbody _ pre Ob x _ (by omega) hnL ⟨_,hl2⟩ (put _ _ _ _ hi hnL) hpre) ?_
   rintro e a3 W3 hp
   cases e with
   |normal=>
    obtain ⟨O2,hi3,hsub,hO3,hlt3⟩:=hp
    have hl3:W3.heap[w.heap.size]?=some (.loop { rec .ready with state:=.busy }):=(hO3.block _ (Array.getElem?_eq_some_iff.1 hl2).1 hnL).trans hl2
    have hr:=run_endRound (P:=P) none hl3
    have hn2:¬O2 w.heap.size:=fun h=>by
     rcases hsub _ h with h |h
     ·exact hnL h
     ·rw [yK] at h;omega
    refine ⟨_,_,hr,rfl,fun k=>O2 k∨k=w.heap.size,⟨O2,fun _=>Iff.rfl,hn2,put _ _ _ _ hi3 hn2,?_⟩,?_,(hk2.trans (hO3.mono (fun k _ h=>(hOb k).2 (.inl h)))).putObj _ _ (.inl ((hOb _).2 (.inr rfl))),fun k hk=>by
     rw [yK]
     rcases hk with h |h
     ·exact hlt3 k h
     ·rw [h];exact (Array.getElem?_eq_some_iff.1 hl3).1⟩
    ·rw [World.putObj_heap_same (Array.getElem?_eq_some_iff.1 hl3).1,hrec]
     rfl
    ·rintro k (h |h)
     ·rcases hsub k h with h |h
      ·exact .inl ((hOb k).2 (.inl h))
      ·rw [yK] at h;exact .inr h
     ·exact .inl ((hOb k).2 (.inr h))
   |ret=>exact hp.elim
   |exit id=>exact hp.elim
   |goto t=>exact hp.elim
   |panic ch=>exact hp.elim
   |outgrown=>exact hp.elim
  ·rintro e W2 ⟨⟨v,rfl⟩,O',Ob,hOb,hnL,hi,hl⟩
   have he:=run_endLoop (P:=P) hl (by rw [hrec];simp)
   exact ⟨none,_,he.trans (by rw [hrec]),hdone Ob _ (put _ _ _ _ hi hnL)⟩
end
section
open Go.RowKit Go.Shelf
set_option maxHeartbeats 4000000
set_option maxRecDepth 1000000
attribute [local go_sem] Oper.semAt_some
namespace Pro
def letM (s:ByteArray):Nat→Nat→List (Int×Int)
 |0,_=>[]
 |f+1,p=>match yw s p with
  |none=>[]
  |some (n,c)=>((p:Int),c) :: letM s f n
end Pro
theorem MacAt.keepT {w w':World}{b:Nat}{s:ByteArray}{nx p:Nat}{ch:Int}(h:MacAt w b s nx p ch)(k:KeepT w w'):MacAt w' b s nx p ch:=by
 have e:=k.same b ⟨s,h.c0⟩
 exact ⟨(World.cell?_of_block (w:=w) (a:=⟨b,0,none⟩) e).trans h.c0,(World.cell?_of_block (w:=w) (a:=⟨b,1,none⟩) e).trans h.c1,(World.cell?_of_block (w:=w) (a:=⟨b,2,none⟩) e).trans h.c2,(World.cell?_of_block (w:=w) (a:=⟨b,3,none⟩) e).trans h.c3,
  (World.frozen?_of_block (w:=w) (a:=⟨b,1,none⟩) e).trans h.f1,(World.frozen?_of_block (w:=w) (a:=⟨b,2,none⟩) e).trans h.f2,(World.frozen?_of_block (w:=w) (a:=⟨b,3,none⟩) e).trans h.f3⟩
def macN (w:World)(b:Nat):Nat:=match w.cell? ⟨b,1,none⟩ with
 |some (.int _ n)=>n.toNat
 |_=>0
theorem zat {w:World}{b:Nat}{s:ByteArray}{nx p:Nat}{ch:Int}(h:MacAt w b s nx p ch):macN w b=nx:=by unfold macN;rw [h.c1];simp
theorem readM_in {s:ByteArray}{p n:Nat}{c:Int}(h:Pro.yw s p=some (n,c)):p<n∧n≤s.size∧0≤c∧c≤1114111:=by
 by_cases hp:p<s.size
 ·rw [Eqv.kC hp] at h
  cases h1:Ref.oneF s p with
  |none=>rw [h1] at h;cases h
  |some nc=>
   obtain ⟨m,d⟩:=nc
   rw [h1] at h
   simp only [Eqv.ahead,Option.some.injEq,Prod.mk.injEq] at h
   obtain ⟨rfl,rfl⟩:=h
   have:=Ref.xu h1
   exact ⟨by omega,by omega,by omega,by omega⟩
 ·unfold Pro.yw at h;rw [if_neg hp] at h;cases h
theorem zau (s:ByteArray):∀ (f p:Nat),Pro.letM s f p=Eqv.letF s f p
 |0,_=>rfl
 |f+1,p=>by
  unfold Pro.letM Eqv.letF
  by_cases hp:p<s.size
  ·rw [if_pos hp,Eqv.kC hp]
   cases h1:Ref.oneF s p with
   |none=>rfl
   |some nc=>
    obtain ⟨m,d⟩:=nc
    simp only [Eqv.ahead]
    rw [zau s f (p+m)]
  ·rw [if_neg hp]
   unfold Pro.yw
   rw [if_neg hp]
theorem read_yes {b:Nat}{s:ByteArray}{nx p q:Nat}{ch c:Int}{w:World}(h:MacAt w b s nx p ch)(hs:s.size≤400)(hn:nx≤s.size)(hr:Pro.yw s nx=some (q,c)) :
  Calls Tryz.prog 137 #[.pointer (some ⟨b,0,none⟩)] w fun x w'=>x = .returned (.bool true)∧MacAt w' b s q nx c∧Only (zl b) w w':=by
 refine (Kb b s nx p ch w h hs hn).mono ?_
 rintro e w1 ⟨hO1,h1⟩
 rcases h1 with ⟨q1,c1,e1,rfl,hM1⟩ |⟨e1,_⟩
 ·rw [hr] at e1
  obtain ⟨rfl,rfl⟩:=Prod.mk.inj (Option.some.inj e1)
  exact ⟨rfl,hM1,hO1⟩
 ·rw [hr] at e1;cases e1
theorem read_no {b:Nat}{s:ByteArray}{nx p:Nat}{ch:Int}{w:World}(h:MacAt w b s nx p ch)(hs:s.size≤400)(hn:nx≤s.size)(hr:Pro.yw s nx=none) :
  Calls Tryz.prog 137 #[.pointer (some ⟨b,0,none⟩)] w fun x w'=>x = .returned (.bool false)∧Only (zl b) w w':=by
 refine (Kb b s nx p ch w h hs hn).mono ?_
 rintro e w1 ⟨hO1,h1⟩
 rcases h1 with ⟨q1,c1,e1,rfl,hM1⟩ |⟨_,rfl⟩
 ·rw [hr] at e1;cases e1
 ·exact ⟨rfl,hO1⟩
theorem each_seq (s:ByteArray)(hs:s.size≤400)(kb:Nat)(w0:World)(hkb:w0.cell? ⟨kb,0,none⟩=some (.string s))(n:Nat)(hn1:1≤n) :
  SeqT Fence.wide n Tryz.prog 136 #[.pointer (some ⟨kb,0,none⟩)] (fun x:Int×Int=>#[.int .i64 x.1,.int .i32 x.2]) (Pro.letM s (s.size+1) 0) w0:=by
 intro l J W hO hJ hY h0
 have hk:=(hO.cell (p:=⟨kb,0,none⟩) (World.block_lt_of_cell? w0 _ hkb) (fun f=>f)).trans hkb
 refine callsIn_of_wp Tryz.func136 rfl trivial ?_ rfl
 simp only [Tryz.ntmps136,List.size_toArray,List.length_cons,List.length_nil,Nat.reduceAdd,Nat.reduceSub,Array.replicate_succ,Array.replicate_zero,List.push_toArray,List.append_toArray,List.nil_append,List.cons_append]
 have hm0:MacAt (W.alloc (.cells #[.string s,.int .i64 0,.int .i64 0,.int .i32 0] 290)) W.heap.size s 0 0 0:=⟨zm W _ rfl _ _ 0 _ rfl,zm W _ rfl _ _ 1 _ rfl,zm W _ rfl _ _ 2 _ rfl,zm W _ rfl _ _ 3 _ rfl,zu W _ rfl _ _ 1,zu W _ rfl _ _ 2,zu W _ rfl _ _ 3⟩
 have HJ:=ze hJ
 have HY:=ze hY
 clear hJ hY
 gi_wp2
 gi_loopw [6] (fun _ wr=>∃ (pre:List (Int×Int)) (f p p':Nat) (ch:Int),MacAt wr W.heap.size s p p' ch∧p≤s.size∧Hid (s.size<p+f)∧Hid (pre++Pro.letM s f p=Pro.letM s (s.size+1) 0)∧Hid (J pre wr)) (fun _ wr=>s.size+1-macN wr W.heap.size)
 case atStart=>exact ⟨[],s.size+1,0,0,0,hm0,by omega,(by show _<_;omega),rfl,zb HJ _ _ _ h0 ((Only.refl _ W).alloc _)⟩
 case round=>
  obtain ⟨pre,f,p,p',ch,hM,hp,hf,hx,hj⟩:=hrel
  obtain ⟨f,rfl⟩:∃ f',f=f'+1:=⟨f-1,by have:=zb hf;omega⟩
  have HM:=ze hM
  have hms:=zat hM
  clear hM
  cases hr:Pro.yw s p with
  |none=>
   have HE:Hid (pre=Pro.letM s (s.size+1) 0):=by
    have:=zb hx
    simp only [Pro.letM] at this
    rw [hr,List.append_nil] at this
    exact this
   gi_wp2_with (refine ⟨trivial,?_⟩;gi_at_call 137;refine (callsIn_wide.2 (read_no (zb HM) hs hp hr)).mono ?_;rintro e w1 ⟨rfl,hO1⟩)
   refine ⟨fun _ h=>(by cases h),?_⟩
   have hJ1:=zb HJ pre _ w1 (zb hj) (hO1.mono (fun k _ hk=>⟨by unfold zl at hk;omega,by unfold zl at hk;rw [hk];exact ⟨s,(zb HM).c0⟩⟩))
   gi_wp2
   go_end0
   exact ⟨⟨_,rfl⟩,by rw [←zb HE];exact hJ1⟩
  |some qc=>
   obtain ⟨q,c⟩:=qc
   have HX:Hid (pre++[((p:Int),c)]++Pro.letM s f q=Pro.letM s (s.size+1) 0):=by
    have e:Pro.letM s (f+1) p=((p:Int),c) :: Pro.letM s f q:=by simp only [Pro.letM];rw [hr]
    have:=zb hx
    rw [e] at this
    show _=_
    rw [←this];simp
   have hin:=readM_in hr
   gi_wp2_with (refine ⟨trivial,?_⟩;gi_at_call 137;refine (callsIn_wide.2 (read_yes (zb HM) hs hp hr)).mono ?_;rintro e w1 ⟨rfl,hM1,hO1⟩;have hJ1:=zb HJ pre _ w1 (zb hj) (hO1.mono (fun k _ hk=>⟨by unfold zl at hk;omega,by unfold zl at hk;rw [hk];exact ⟨s,(zb HM).c0⟩⟩));obtain ⟨fn,tmps,assign,body,hy,hR⟩:=zb HY pre ((p:Int),c) w1 hJ1 ⟨Pro.letM s f q,zb HX⟩;dsimp only at hy;have HM1:=ze hM1;obtain ⟨d0,d1,d2,d3,g1,g2,g3⟩:=hM1)
   refine hR.mono ?_
   rintro e W3 ⟨rfl,hJ3,hk3⟩
   have hM3:=(zb HM1).keepT hk3
   have hn3:=zat hM3
   gi_wp2
   exact ⟨⟨pre++[((p:Int),c)],f,q,p,c,hM3,by omega,(by show _<_;have:_<_:=zb hf;omega),HX,hJ3⟩,by rw [hn3,hms];omega⟩
end
end Go.Proofs.YtnagphodmfejiaaGreatDoor
