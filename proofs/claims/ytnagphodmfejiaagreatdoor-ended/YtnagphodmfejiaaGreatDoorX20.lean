/- The reference's sizes: an atom without its brackets. -/
import Derived.Test.YtnagphodmfejiaaGreatDoorX16
namespace Go.Proofs.YtnagphodmfejiaaGreatDoor
section
open Go.RowKit
set_option maxHeartbeats 800000
namespace Ref
theorem YT (l:List Tok):∀ (f k:Nat) (op:Int) (m:Nat),scan (l.drop k) op k=some m→l.length<k+f→xD l f k op=(m:Int)∧m<l.length∧k≤m
 |0,k,op,m,h,hf=>by rw [List.drop_of_length_le (by omega)] at h;cases h
 |f+1,k,op,m,h,hf=>by
  by_cases hk:k<l.length
  ·have hd:l.drop k=l[k] :: l.drop (k+1):=List.drop_eq_getElem_cons hk
   have hka:zU l k=l[k].kind:=by unfold zU;rw [List.getElem?_eq_getElem hk]
   rw [hd,kW] at h
   simp only [xD]
   rw [if_pos hk,hka]
   by_cases hz:yf l[k].kind op=0
   ·rw [if_pos hz] at h ⊢
    cases h
    exact ⟨rfl,hk,Nat.le_refl _⟩
   ·rw [if_neg hz] at h ⊢
    have:=YT l f (k+1) _ m h (by omega)
    exact ⟨this.1,this.2.1,by omega⟩
  ·rw [List.drop_of_length_le (by omega)] at h;cases h
theorem Wc:∀ (r:List Tok)(op:Int)(a b j:Nat),scan r op a=some j→scan r op (a+b)=some (j+b)
 | [],op,a,b,j,h=>by cases h
 |t :: r,op,a,b,j,h=>by
  rw [kW] at h ⊢
  by_cases hz:yf t.kind op=0
  ·rw [if_pos hz] at h ⊢;cases h;rfl
  ·rw [if_neg hz] at h ⊢
   rw [show a+b+1=a+1+b by omega]
   exact Wc r _ (a+1) b j h
theorem zaB (r:List Tok)(op:Int)(k j:Nat)(h:scan r op 0=some j):scan r op k=some (j+k):=by
 have:=Wc r op 0 k j h
 rw [Nat.zero_add] at this
 exact this
theorem Yh {l:List Tok}{i j:Nat}(hi:i<l.length)(h3:zU l i=3)(h:scan (l.drop (i+1)) 1 0=some j):qw l i=((i+j+2:Nat):Int)∧i+j+2≤l.length:=by
 have hs:=zaB _ _ (i+1) j h
 have hc:=YT l (l.length-i) (i+1) 1 _ hs (by omega)
 have e:xz l i=((j+(i+1):Nat):Int):=by
  unfold xz
  rw [show l.length+1-i=(l.length-i)+1 by omega]
  simp only [xD]
  have:yf (zU l i) 0=1:=by rw [h3];rfl
  rw [if_pos hi,this,if_neg (by decide)]
  exact hc.1
 unfold qw
 rw [if_pos h3,e]
 omega
theorem Q6 {k:Int}{t:Tok}(hk:0≤k)(h:jz t):0≤yR k t.mn t.mx:=by
 unfold jz at h
 unfold yR
 split
 ·have:0≤(if t.mn=0 then (1:Int) else t.mn)*k:=Int.mul_nonneg (by split<;>omega) hk
  omega
 ·have h1:0≤t.mn*k:=Int.mul_nonneg h.1 hk
  have h2:0≤(t.mx-t.mn)*(k+1):=Int.mul_nonneg (by omega) (by omega)
  omega
theorem Q7 {rest:List Tok}{k:Int}{t:Tok}(h:t∈(zT rest k).2):t∈rest:=by
 unfold zT at h
 cases rest with
 |nil=>exact h
 |cons q r=>
  simp only [] at h
  split at h
  ·exact List.mem_cons_of_mem _ h
  ·exact h
theorem Q8 (rest:List Tok)(k:Int):(zT rest k).2.length≤rest.length:=by
 unfold zT
 cases rest with
 |nil=>exact Nat.le_refl _
 |cons q r=>simp only [];split<;>simp
theorem Kl {rest:List Tok}{k:Int}(hk:0≤k)(h:∀ t∈rest,jz t):0≤(zT rest k).1:=by
 unfold zT
 cases rest with
 |nil=>exact hk
 |cons q r=>
  simp only []
  split
  ·exact Q6 hk (h q (List.mem_cons_self ..))
  ·exact hk
theorem Wd:∀ (f:Nat)(l:List Tok)(n z b:Int),yG f l n=some z→(∀ t∈l,jz t)→0≤n→0≤b→n≤1000000+b→0≤z∧z≤1000000+b+l.length:=by
 intro f
 induction f with
 |zero=>intro l n z b h;cases h
 |succ f ih=>
  intro l n z b h hb hn0 hb0 hn1
  cases l with
  |nil=>simp [yG] at h;subst h;simp;omega
  |cons t r=>
   have hr:∀ u∈r,jz u:=fun u hu=>hb u (List.mem_cons_of_mem _ hu)
   unfold yG at h
   simp only [List.length_cons]
   split at h
   ·have:=ih r (n+1) z (b+1) h hr (by omega) (by omega) (by omega)
    omega
   ·split at h
    ·split at h
     ·cases h
     ·rename_i j hj
      split at h
      ·cases h
      ·rename_i k hk
       have hk0:=(ih (r.take j) 0 k 0 hk (fun u hu=>hr u (List.mem_of_mem_take hu)) (by omega) (by omega) (by omega)).1
       have hd:∀ u∈r.drop (j+1),jz u:=fun u hu=>hr u (List.mem_of_mem_drop hu)
       have hq:=Kl hk0 hd
       have:=ih _ _ z b h (fun u hu=>hd u (Q7 hu)) (by omega) hb0 (by omega)
       have hl:=Q8 (r.drop (j+1)) k
       rw [List.length_drop] at hl
       omega
    ·have hq:=Kl (k:=1) (by omega) hr
     have:=ih _ _ z b h (fun u hu=>hr u (Q7 hu)) (by omega) hb0 (by omega)
     have hl:=Q8 r 1
     omega
end Ref
theorem jo.sub {w:World}{g off:Nat}{l:List Tok}(h:jo w g off l)(i m:Nat):jo w g (off+i*6) ((l.drop i).take m):=by
 intro j t hj
 rw [List.getElem?_take] at hj
 split at hj
 ·rw [List.getElem?_drop] at hj
  obtain ⟨pa,pn,pc,h0,h1,h2,h3,h4,h5⟩:=h (i+j) t hj
  have e:off+i*6+j*6=off+(i+j)*6:=by omega
  rw [e]
  exact ⟨pa,pn,pc,h0,h1,h2,h3,h4,h5⟩
 ·cases hj
theorem Km (g off cap:Nat)(l:List Tok)(w:World)(h:jo w g off l)(hl:l.length≤1000)(hc:l.length≤cap)(h2:2≤l.length)(h3:Ref.zU l 0=3) :
  Calls Tryz.prog 74 #[.slice (some ⟨g,off,none⟩) l.length cap] w fun x w'=>x = .returned (.slice (some ⟨g,off+6,none⟩) (l.length-2) (cap-1))∧w'=w:=by
 have hk:w.cell? ⟨g,off,none⟩=some (.int .i64 (Ref.zU l 0)):=by have:=h.kind 0 (by omega);rw [Nat.zero_mul,Nat.add_zero] at this;exact this
 have h3':(Ref.zU l 0 == 3)=true:=by simp [h3]
 have hcap:¬cap=1:=by omega
 clear h3 h
 go_enter Tryz.func74,Tryz.ntmps74
 go_wp2_with fail
 go_ret
 exact ⟨by rw [show l.length-2=l.length-1-1 by omega];rfl,rfl⟩
set_option maxHeartbeats 4000000
set_option maxRecDepth 1000000
def SizedOK (f:Nat):Prop:=∀ (g off cap:Nat) (l:List Tok) (w:World) (z:Int),jo w g off l→l.length≤1000→l.length≤cap→(∀ t∈l,Ref.jz t)→Ref.yG f l 0=some z→
 Calls Tryz.prog 37 #[.slice (some ⟨g,off,none⟩) l.length cap] w fun x w'=>x = .returned (.int .i64 z)∧zf (fun _=>False) w w'
theorem jo.only {w w':World}{g off:Nat}{l:List Tok}(h:jo w g off l)(k:zf (fun _=>False) w w'):jo w' g off l:=by
 intro j t hj
 obtain ⟨pa,pn,pc,z0,z1,z2,z3,z4,z5⟩:=h j t hj
 have e:∀ (p:Addr) (v:Value),w.cell? p=some v→w'.cell? p=some v:=fun p v hv=>(k.cell (World.block_lt_of_cell? w p hv) (fun f=>f)).trans hv
 exact ⟨pa,pn,pc,e _ _ z0,e _ _ z1,e _ _ z2,e _ _ z3,e _ _ z4,e _ _ z5⟩
namespace Ref
theorem Yy {l:List Tok}{i:Nat}(hi:i<l.length):zU l i=l[i].kind:=by unfold zU;rw [List.getElem?_eq_getElem hi]
theorem XF {l:List Tok}{i:Nat}(hi:i<l.length):l.drop i=l[i] :: l.drop (i+1):=List.drop_eq_getElem_cons hi
theorem XZ {rest:List Tok}{k:Int}(h:qA rest≠6):zT rest k=(k,rest):=by
 unfold zT
 cases rest with
 |nil=>rfl
 |cons q r=>simp only [];rw [if_neg (show ¬q.kind=6 from h)]
theorem XG {l:List Tok}{i:Nat}:qA (l.drop i)=zU l i:=by unfold qA zU;rw [List.getElem?_drop,Nat.add_zero]
theorem We {l:List Tok}{i:Nat}(h:¬(i<l.length∧zU l i=6)):qA (l.drop i)≠6:=by
 rw [XG]
 intro hh
 by_cases hi:i<l.length
 ·exact h ⟨hi,hh⟩
 ·unfold zU at hh;rw [List.getElem?_eq_none (by omega)] at hh;exact absurd hh (by decide)
end Ref
theorem Z4 {x y X Y:Int}(h0:0≤x)(h1:x≤X)(h2:0≤y)(h3:y≤Y):0≤x*y∧x*y≤X*Y:=by
 refine ⟨Int.mul_nonneg h0 h2,?_⟩
 have a:=Int.mul_le_mul_of_nonneg_right h1 h2
 have b:=Int.mul_le_mul_of_nonneg_left h3 (show (0:Int)≤X by omega)
 omega
theorem YU {g off cap:Nat}{l:List Tok}{i j:Nat}{w:World}(h:jo w g off l)(hl:l.length≤1000)(hc:l.length≤cap)(hE:i+j+2≤l.length)(h3:Ref.zU l i=3) :
  Calls Tryz.prog 74 #[.slice (some ⟨g,off+i*6,none⟩) (i+j+2-i) (cap-i)] w fun x w'=>x = .returned (.slice (some ⟨g,off+i*6+6,none⟩) (i+j+2-i-2) (cap-i-1))∧w'=w:=by
 have hlen:((l.drop i).take (j+2)).length=i+j+2-i:=by rw [List.length_take,List.length_drop];omega
 have:=Km g (off+i*6) (cap-i) ((l.drop i).take (j+2)) w (h.sub i (j+2)) (by rw [hlen];omega) (by rw [hlen];omega) (by rw [hlen];omega) (by
  unfold Ref.zU at h3 ⊢
  rw [List.getElem?_take,if_pos (by omega),List.getElem?_drop,Nat.add_zero]
  exact h3)
 rw [hlen] at this
 exact this
theorem YV {F:Nat}(hF:SizedOK F){g off cap:Nat}{l:List Tok}{i j f:Nat}{k:Int}{w:World}(h:jo w g off l)(hl:l.length≤1000)(hc:l.length≤cap)(hE:i+j+2≤l.length)(hb:∀ t∈l,Ref.jz t)(hk:Ref.yG f ((l.drop (i+1)).take j) 0=some k)(hf:f≤F) :
  Calls Tryz.prog 37 #[.slice (some ⟨g,off+i*6+6,none⟩) (i+j+2-i-2) (cap-i-1)] w fun x w'=>x = .returned (.int .i64 k)∧zf (fun _=>False) w w':=by
 have hlen:((l.drop (i+1)).take j).length=i+j+2-i-2:=by rw [List.length_take,List.length_drop];omega
 have:=hF g (off+(i+1)*6) (cap-i-1) ((l.drop (i+1)).take j) w k (h.sub (i+1) j) (by rw [hlen];omega) (by rw [hlen];omega) (fun t ht=>hb t (List.mem_of_mem_drop (List.mem_of_mem_take ht))) (Ref.Zn hk hf)
 rw [hlen,show off+(i+1)*6=off+i*6+6 by omega] at this
 exact this
namespace Ref
theorem X4 {l:List Tok}{i:Nat}{k:Int}(hi:i<l.length)(h6:zU l i=6):zT (l.drop i) k=(yR k l[i].mn l[i].mx,l.drop (i+1)):=by
 rw [XF hi]
 unfold zT
 simp only []
 rw [if_pos (by rw [←Yy hi];exact h6)]
end Ref
theorem Zr (x:Int):(if (1000000:Int)<x then (1000000:Int) else x)=min 1000000 x:=by split<;>omega
theorem zaC (F:Nat)(hF:SizedOK F):SizedOK (F+1):=by
 intro g off cap l w z h hl hc hb hz
 have H:=ze h
 have HF:=ze hF
 have HB:=ze hb
 clear h hF hb
 go_enter Tryz.func37,Tryz.ntmps37
 go_wp2_with fail
 go_loopw [3,4] (fun a b wr=>∃ (i f:Nat) (n:Int),a = .int .i64 n∧b = .int .i64 i∧i≤l.length∧f≤F+1∧0≤n∧n≤1000000+i∧zf (fun _=>False) w wr∧Hid (Ref.yG f (l.drop i) n=some z)) (fun _ b _=>l.length-(intOf b).toNat)
 case atStart=>exact ⟨0,F+1,0,rfl,rfl,by omega,by omega,by omega,by omega,zf.refl _ _,hz⟩
 case round=>
  obtain ⟨i,f,n,rfl,rfl,hi,hf,hn0,hn1,hO,HZ⟩:=hrel
  have HR:=ze ((zb H).only hO)
  obtain ⟨f,rfl⟩:∃ f',f=f'+1:=by
   cases f with
   |zero=>exact absurd (zb HZ) (by simp [Ref.yG])
   |succ f=>exact ⟨f,rfl⟩
  by_cases hlt:i<l.length
  ·have hkc:=(zb HR).kind i hlt
   have hds:=Ref.XF hlt
   have hkg:=Ref.Yy hlt
   by_cases h5:Ref.zU l i=5
   ·have HZ1:Hid (Ref.yG f (l.drop (i+1)) (n+1)=some z):=by
     have:=zb HZ
     rw [hds] at this
     unfold Ref.yG at this
     rw [if_pos (by rw [←hkg];exact h5)] at this
     exact this
    have h5':(Ref.zU l i == 5)=true:=by simp [h5]
    clear h5 hds hkg
    go_wp2_with fail
    exact ⟨⟨i+1,f,n+1,rfl,by go_num,by omega,by omega,by omega,by omega,hO,HZ1⟩,by simp [intOf];omega⟩
   ·have h5':(Ref.zU l i == 5)=false:=by simp [h5]
    by_cases h3:Ref.zU l i=3
    ·have h3':(Ref.zU l i == 3)=true:=by simp [h3]
     obtain ⟨j,k,hj,hk,HZ1⟩:∃ j k,Ref.scan (l.drop (i+1)) 1 0=some j∧Ref.yG f ((l.drop (i+1)).take j) 0=some k∧Hid (Ref.yG f (Ref.zT ((l.drop (i+1)).drop (j+1)) k).2 (min 1000000 (n+(Ref.zT ((l.drop (i+1)).drop (j+1)) k).1))=some z):=by
      have:=zb HZ
      rw [hds] at this
      unfold Ref.yG at this
      rw [if_neg (by rw [←hkg];exact h5),if_pos (by rw [←hkg];exact h3)] at this
      split at this
      ·cases this
      ·rename_i j hj
       split at this
       ·cases this
       ·rename_i k hk
        exact ⟨j,k,hj,hk,this⟩
     obtain ⟨hE,hEl⟩:=Ref.Yh hlt h3 hj
     have hkb:=Ref.Wd f _ 0 k 0 hk (fun u hu=>zb HB u (List.mem_of_mem_drop (List.mem_of_mem_take hu))) (by omega) (by omega) (by omega)
     have HE:=ze hE
     rw [List.drop_drop,show i+1+(j+1)=i+j+2 by omega] at HZ1
     have hci:¬cap=i:=by omega
     have H3:=ze h3
     have HK:=ze hk
     have hkb2:k≤1010000:=by
      have:((l.drop (i+1)).take j).length≤l.length:=by (rw [List.length_take,List.length_drop];omega)
      omega
     have hkb0:=hkb.1
     clear hkb hj hk h3
     by_cases hq:i+j+2<l.length∧Ref.zU l (i+j+2)=6
     ·obtain ⟨hq1,hq6⟩:=hq
      have HC:Hid (∀ w',zf (fun _=>False) w w'→∃ pa pn pc,w'.cell? ⟨g,off+(i+j+2)*6,none⟩=some (.int .i64 l[i+j+2].kind)∧w'.cell? ⟨g,off+(i+j+2)*6+1,none⟩=some (.bool l[i+j+2].neg)∧w'.cell? ⟨g,off+(i+j+2)*6+2,none⟩=some (.slice pa pn pc)∧w'.cell? ⟨g,off+(i+j+2)*6+3,none⟩=some (.int .i64 l[i+j+2].c)∧w'.cell? ⟨g,off+(i+j+2)*6+4,none⟩=some (.int .i64 l[i+j+2].mn)∧w'.cell? ⟨g,off+(i+j+2)*6+5,none⟩=some (.int .i64 l[i+j+2].mx)):=fun w' ho=>((zb H).only ho) (i+j+2) l[i+j+2] (List.getElem?_eq_getElem hq1)
      have htb:=zb HB l[i+j+2] (List.getElem_mem hq1)
      have HN:Hid (Ref.yA l i=((i+j+2:Nat):Int)+1):=by show _=_;unfold Ref.yA;rw [hE,if_pos ⟨by omega,by rw [Int.toNat_natCast];exact hq6⟩]
      have HZ2:Hid (Ref.yG f (l.drop (i+j+2+1)) (min 1000000 (n+Ref.yR k l[i+j+2].mn l[i+j+2].mx))=some z):=by
       have:=zb HZ1
       rw [Ref.X4 hq1 hq6] at this
       exact this
      have hqn:=Ref.Q6 (k:=k) (t:=l[i+j+2]) (by omega) htb
      unfold Ref.jz at htb
      generalize l[i+j+2].mn=mn at *
      generalize l[i+j+2].mx=mx at *
      generalize l[i+j+2].neg=ng at *
      generalize l[i+j+2].c=cc at *
      generalize l[i+j+2].kind=kd at *
      clear hE hds hkg h5 hq6
      by_cases hmx:mx<0
      ·by_cases hmn:mn=0
       ·have hmn':(mn == 0)=true:=by simp [hmn]
        have HQ:Hid (1*k+1=Ref.yR k mn mx):=by show _=_;unfold Ref.yR;rw [if_pos hmx,if_pos hmn]
        clear hmn
        go_wp2_with (first |(go_at_call 73;refine (jt g off cap l i _ (zb HR) hl hc hlt).mono ?_;rintro e wq ⟨rfl,hwq⟩;obtain rfl:=hwq.symm;clear hwq;rw [zb HE,zb HN]) |(go_at_call 74;refine (YU (zb HR) hl hc hEl (zb H3)).mono ?_;rintro e wq ⟨rfl,hwq⟩;obtain rfl:=hwq.symm;clear hwq) |(go_at_call 37;refine (YV (zb HF) (zb HR) hl hc hEl (zb HB) (zb HK) (by omega)).mono ?_;rintro e w1 ⟨rfl,hO1⟩;obtain ⟨pa,pn,pc,z0,z1,z2,z3,z4,z5⟩:=zb HC w1 (hO.trans hO1)) |(go_at_call 75;refine (qU _ _ _).mono ?_;rintro e wq ⟨rfl,hwq⟩;obtain rfl:=hwq.symm;clear hwq))
        exact ⟨⟨i+j+2+1,f,min 1000000 (n+Ref.yR k mn mx),by rw [Zr,show n+(k+1)=n+Ref.yR k mn mx by (rw [←zb HQ];omega)],by go_num,by omega,by omega,by omega,by omega,(hO.trans hO1).alloc _,HZ2⟩,by simp [intOf];omega⟩
       ·have hmn':(mn == 0)=false:=by simp [hmn]
        have HQ:Hid (mn*k+1=Ref.yR k mn mx):=by show _=_;unfold Ref.yR;rw [if_pos hmx,if_neg hmn]
        have hpr:=Z4 (x:=mn) (y:=k) (X:=100) (Y:=1010000) (by omega) (by omega) (by omega) (by omega)
        clear hmn
        go_wp2_with (first |(go_at_call 73;refine (jt g off cap l i _ (zb HR) hl hc hlt).mono ?_;rintro e wq ⟨rfl,hwq⟩;obtain rfl:=hwq.symm;clear hwq;rw [zb HE,zb HN]) |(go_at_call 74;refine (YU (zb HR) hl hc hEl (zb H3)).mono ?_;rintro e wq ⟨rfl,hwq⟩;obtain rfl:=hwq.symm;clear hwq) |(go_at_call 37;refine (YV (zb HF) (zb HR) hl hc hEl (zb HB) (zb HK) (by omega)).mono ?_;rintro e w1 ⟨rfl,hO1⟩;obtain ⟨pa,pn,pc,z0,z1,z2,z3,z4,z5⟩:=zb HC w1 (hO.trans hO1)) |(go_at_call 75;refine (qU _ _ _).mono ?_;rintro e wq ⟨rfl,hwq⟩;obtain rfl:=hwq.symm;clear hwq))
        exact ⟨⟨i+j+2+1,f,min 1000000 (n+Ref.yR k mn mx),by rw [Zr,show n+(mn*k+1)=n+Ref.yR k mn mx by rw [←zb HQ]],by go_num,by omega,by omega,by omega,by omega,(hO.trans hO1).alloc _,HZ2⟩,by simp [intOf];omega⟩
      ·have HQ:Hid (mn*k+(mx-mn)*(k+1)=Ref.yR k mn mx):=by show _=_;unfold Ref.yR;rw [if_neg hmx]
       have hpr:=Z4 (x:=mn) (y:=k) (X:=100) (Y:=1010000) (by omega) (by omega) (by omega) (by omega)
       have hpr2:=Z4 (x:=mx-mn) (y:=k+1) (X:=100) (Y:=1010001) (by omega) (by omega) (by omega) (by omega)
       go_wp2_with (first |(go_at_call 73;refine (jt g off cap l i _ (zb HR) hl hc hlt).mono ?_;rintro e wq ⟨rfl,hwq⟩;obtain rfl:=hwq.symm;clear hwq;rw [zb HE,zb HN]) |(go_at_call 74;refine (YU (zb HR) hl hc hEl (zb H3)).mono ?_;rintro e wq ⟨rfl,hwq⟩;obtain rfl:=hwq.symm;clear hwq) |(go_at_call 37;refine (YV (zb HF) (zb HR) hl hc hEl (zb HB) (zb HK) (by omega)).mono ?_;rintro e w1 ⟨rfl,hO1⟩;obtain ⟨pa,pn,pc,z0,z1,z2,z3,z4,z5⟩:=zb HC w1 (hO.trans hO1)) |(go_at_call 75;refine (qU _ _ _).mono ?_;rintro e wq ⟨rfl,hwq⟩;obtain rfl:=hwq.symm;clear hwq))
       exact ⟨⟨i+j+2+1,f,min 1000000 (n+Ref.yR k mn mx),by rw [Zr,show n+(mn*k+(mx-mn)*(k+1))=n+Ref.yR k mn mx by rw [←zb HQ]],by go_num,by omega,by omega,by omega,by omega,(hO.trans hO1).alloc _,HZ2⟩,by simp [intOf];omega⟩
     ·have HN:Hid (Ref.yA l i=((i+j+2:Nat):Int)):=by show _=_;unfold Ref.yA;rw [hE,if_neg (fun hh=>hq ⟨by omega,by have:=hh.2;rw [Int.toNat_natCast] at this;exact this⟩)]
      have HZ2:Hid (Ref.yG f (l.drop (i+j+2)) (min 1000000 (n+k))=some z):=by
       have:=zb HZ1
       rw [Ref.XZ (Ref.We hq)] at this
       exact this
      clear hE hds hkg h5
      go_wp2_with (first |(go_at_call 73;refine (jt g off cap l i _ (zb HR) hl hc hlt).mono ?_;rintro e wq ⟨rfl,hwq⟩;obtain rfl:=hwq.symm;clear hwq;rw [zb HE,zb HN]) |(go_at_call 74;refine (YU (zb HR) hl hc hEl (zb H3)).mono ?_;rintro e wq ⟨rfl,hwq⟩;obtain rfl:=hwq.symm;clear hwq) |(go_at_call 37;refine (YV (zb HF) (zb HR) hl hc hEl (zb HB) (zb HK) (by omega)).mono ?_;rintro e w1 ⟨rfl,hO1⟩) |(go_at_call 75;refine (qU _ _ _).mono ?_;rintro e wq ⟨rfl,hwq⟩;obtain rfl:=hwq.symm;clear hwq))
      exact ⟨⟨i+j+2,f,min 1000000 (n+k),by rw [Zr],by go_num,by omega,by omega,by omega,by omega,(hO.trans hO1),HZ2⟩,by simp [intOf];omega⟩
    ·have h3':(Ref.zU l i == 3)=false:=by simp [h3]
     have hE:Ref.qw l i=((i+1:Nat):Int):=by unfold Ref.qw;rw [if_neg h3];omega
     have HE:=ze hE
     have HZ1:Hid (Ref.yG f (Ref.zT (l.drop (i+1)) 1).2 (min 1000000 (n+(Ref.zT (l.drop (i+1)) 1).1))=some z):=by
      have:=zb HZ
      rw [hds] at this
      unfold Ref.yG at this
      rw [if_neg (by rw [←hkg];exact h5),if_neg (by rw [←hkg];exact h3)] at this
      exact this
     by_cases hq:i+1<l.length∧Ref.zU l (i+1)=6
     ·obtain ⟨hq1,hq6⟩:=hq
      have HC:Hid (∀ w',zf (fun _=>False) w w'→∃ pa pn pc,w'.cell? ⟨g,off+(i+1)*6,none⟩=some (.int .i64 l[i+1].kind)∧w'.cell? ⟨g,off+(i+1)*6+1,none⟩=some (.bool l[i+1].neg)∧w'.cell? ⟨g,off+(i+1)*6+2,none⟩=some (.slice pa pn pc)∧w'.cell? ⟨g,off+(i+1)*6+3,none⟩=some (.int .i64 l[i+1].c)∧w'.cell? ⟨g,off+(i+1)*6+4,none⟩=some (.int .i64 l[i+1].mn)∧w'.cell? ⟨g,off+(i+1)*6+5,none⟩=some (.int .i64 l[i+1].mx)):=fun w' ho=>((zb H).only ho) (i+1) l[i+1] (List.getElem?_eq_getElem hq1)
      have htb:=zb HB l[i+1] (List.getElem_mem hq1)
      have HN:Hid (Ref.yA l i=((i+1:Nat):Int)+1):=by show _=_;unfold Ref.yA;rw [hE,if_pos ⟨by omega,by rw [Int.toNat_natCast];exact hq6⟩]
      have HZ2:Hid (Ref.yG f (l.drop (i+1+1)) (min 1000000 (n+Ref.yR 1 l[i+1].mn l[i+1].mx))=some z):=by
       have:=zb HZ1
       rw [Ref.X4 hq1 hq6] at this
       exact this
      have hqn:=Ref.Q6 (k:=1) (t:=l[i+1]) (by omega) htb
      unfold Ref.jz at htb
      generalize l[i+1].mn=mn at *
      generalize l[i+1].mx=mx at *
      generalize l[i+1].neg=ng at *
      generalize l[i+1].c=cc at *
      generalize l[i+1].kind=kd at *
      clear hE hds hkg h5 hq6 h3
      by_cases hmx:mx<0
      ·by_cases hmn:mn=0
       ·have hmn':(mn == 0)=true:=by simp [hmn]
        have HQ:Hid (1*1+1=Ref.yR 1 mn mx):=by show _=_;unfold Ref.yR;rw [if_pos hmx,if_pos hmn]
        clear hmn
        obtain ⟨pa,pn,pc,z0,z1,z2,z3,z4,z5⟩:=zb HC _ hO
        go_wp2_with (first |(go_at_call 73;refine (jt g off cap l i _ (zb HR) hl hc hlt).mono ?_;rintro e wq ⟨rfl,hwq⟩;obtain rfl:=hwq.symm;clear hwq;rw [zb HE,zb HN]) |(go_at_call 75;refine (qU _ _ _).mono ?_;rintro e wq ⟨rfl,hwq⟩;obtain rfl:=hwq.symm;clear hwq))
        exact ⟨⟨i+1+1,f,min 1000000 (n+Ref.yR 1 mn mx),by rw [Zr,show n+2=n+Ref.yR 1 mn mx by (rw [←zb HQ];omega)],by go_num,by omega,by omega,by omega,by omega,hO.alloc _,HZ2⟩,by simp [intOf];omega⟩
       ·have hmn':(mn == 0)=false:=by simp [hmn]
        have HQ:Hid (mn*1+1=Ref.yR 1 mn mx):=by show _=_;unfold Ref.yR;rw [if_pos hmx,if_neg hmn]
        have hpr:=Z4 (x:=mn) (y:=1) (X:=100) (Y:=1010000) (by omega) (by omega) (by omega) (by omega)
        clear hmn
        obtain ⟨pa,pn,pc,z0,z1,z2,z3,z4,z5⟩:=zb HC _ hO
        go_wp2_with (first |(go_at_call 73;refine (jt g off cap l i _ (zb HR) hl hc hlt).mono ?_;rintro e wq ⟨rfl,hwq⟩;obtain rfl:=hwq.symm;clear hwq;rw [zb HE,zb HN]) |(go_at_call 75;refine (qU _ _ _).mono ?_;rintro e wq ⟨rfl,hwq⟩;obtain rfl:=hwq.symm;clear hwq))
        exact ⟨⟨i+1+1,f,min 1000000 (n+Ref.yR 1 mn mx),by rw [Zr,show n+(mn+1)=n+Ref.yR 1 mn mx by (rw [←zb HQ];omega)],by go_num,by omega,by omega,by omega,by omega,hO.alloc _,HZ2⟩,by simp [intOf];omega⟩
      ·have HQ:Hid (mn*1+(mx-mn)*(1+1)=Ref.yR 1 mn mx):=by show _=_;unfold Ref.yR;rw [if_neg hmx]
       have hpr:=Z4 (x:=mn) (y:=1) (X:=100) (Y:=1010000) (by omega) (by omega) (by omega) (by omega)
       have hpr2:=Z4 (x:=mx-mn) (y:=1+1) (X:=100) (Y:=1010001) (by omega) (by omega) (by omega) (by omega)
       obtain ⟨pa,pn,pc,z0,z1,z2,z3,z4,z5⟩:=zb HC _ hO
       go_wp2_with (first |(go_at_call 73;refine (jt g off cap l i _ (zb HR) hl hc hlt).mono ?_;rintro e wq ⟨rfl,hwq⟩;obtain rfl:=hwq.symm;clear hwq;rw [zb HE,zb HN]) |(go_at_call 75;refine (qU _ _ _).mono ?_;rintro e wq ⟨rfl,hwq⟩;obtain rfl:=hwq.symm;clear hwq))
       exact ⟨⟨i+1+1,f,min 1000000 (n+Ref.yR 1 mn mx),by rw [Zr,show n+(mn+(mx-mn)*2)=n+Ref.yR 1 mn mx by (rw [←zb HQ];omega)],by go_num,by omega,by omega,by omega,by omega,hO.alloc _,HZ2⟩,by simp [intOf];omega⟩
     ·have HN:Hid (Ref.yA l i=((i+1:Nat):Int)):=by show _=_;unfold Ref.yA;rw [hE,if_neg (fun hh=>hq ⟨by omega,by have:=hh.2;rw [Int.toNat_natCast] at this;exact this⟩)]
      have HZ2:Hid (Ref.yG f (l.drop (i+1)) (min 1000000 (n+1))=some z):=by
       have:=zb HZ1
       rw [Ref.XZ (Ref.We hq)] at this
       exact this
      clear hE hds hkg h3 h5
      go_wp2_with (first |(go_at_call 73;refine (jt g off cap l i _ (zb HR) hl hc hlt).mono ?_;rintro e wq ⟨rfl,hwq⟩;obtain rfl:=hwq.symm;clear hwq;rw [zb HE,zb HN]) |(go_at_call 75;refine (qU _ _ _).mono ?_;rintro e wq ⟨rfl,hwq⟩;obtain rfl:=hwq.symm;clear hwq))
      exact ⟨⟨i+1,f,min 1000000 (n+1),by rw [Zr],by go_num,by omega,by omega,by omega,by omega,hO,HZ2⟩,by simp [intOf];omega⟩
  ·have HZ1:Hid (n=z):=by
    have:=zb HZ
    rw [List.drop_of_length_le (by omega)] at this
    unfold Ref.yG at this
    exact Option.some.inj this
   go_wp2_with fail
   go_ret
   rw [zb HZ1]
   exact ⟨rfl,hO⟩
theorem zcv:∀ f,SizedOK f:=by
 intro f
 induction f with
 |zero=>intro g off cap l w z _ _ _ _ hz;exact absurd hz (by simp [Ref.yG])
 |succ f ih=>exact zaC f ih
theorem zcw (w:World):Calls Tryz.prog 37 #[.slice none 0 0] w fun x w'=>x = .returned (.int .i64 0)∧w'=w:=by
 go_enter Tryz.func37,Tryz.ntmps37
 go_wp2_with fail
 refine wp_loop_rounds 1 ?_
 rw [rounds_succ]
 go_wp2_with fail
 go_ret
 exact ⟨rfl,rfl⟩
namespace Ref
theorem Zs (s:ByteArray):∀ (f:Nat) (l:List Tok) (op:Int) (atom:Bool) (st:St),(zQ s f l op atom st).1.length≤l.length+f
 |0,l,_,_,_=>by simp [zQ]
 |f+1,l,op,atom,st=>by
  unfold zQ
  split
  ·split
   ·exact Nat.le_trans (Zs s f _ _ _ _) (by simp;omega)
   ·split
    ·simp
    ·exact Nat.le_trans (Zs s f _ _ _ _) (by simp;omega)
  ·simp
theorem Zt (s:ByteArray):(yF s).1.length≤s.size+1:=by
 have:=Zs s (s.size+1) [] 0 false ⟨0,0,0⟩
 simp only [List.length_nil] at this
 unfold yF;omega
theorem Q9 (s:ByteArray):∀ (f p:Nat) (acc:List (Int×Int)),(xP s f p acc).2<0→(xP s f p acc).2 = -1
 |0,p,acc=>by simp [xP]
 |f+1,p,acc=>by
  intro h
  by_cases hp:p<s.size
  ·cases h1:oneF s p with
   |none=>rw [qE hp h1] at h;simp only [] at h;omega
   |some nc=>
    obtain ⟨n,c⟩:=nc
    rw [qb hp h1] at h ⊢
    exact Q9 s f _ _ h
  ·rw [jA hp]
theorem ku {s:ByteArray}(h:(zG s).2<0):Good s 0:=Zb s (s.size+1) 0 [] (by omega) (Q9 s _ _ _ h) (by omega)
end Ref
theorem YW {w:World}{base:Nat}:∀ (l:List Tok) (cs:List Value),xo w base l cs→∀ (j:Nat) (t:Tok),l[j]?=some t→∃ pa pn pc,
  cs[j*6]?=some (.int .i64 t.kind)∧cs[j*6+1]?=some (.bool t.neg)∧cs[j*6+2]?=some (.slice pa pn pc)∧cs[j*6+3]?=some (.int .i64 t.c)∧cs[j*6+4]?=some (.int .i64 t.mn)∧cs[j*6+5]?=some (.int .i64 t.mx)
 | [],_,_,j,t,hj=>by simp at hj
 |u :: us,a0 :: a1 :: a2 :: a3 :: a4 :: a5 :: vs,h,0,t,hj=>by
  simp only [List.getElem?_cons_zero,Option.some.injEq] at hj
  subst hj
  obtain ⟨⟨rfl,rfl,rfl,rfl,rfl⟩,⟨xs,hp,_⟩,_⟩:=h
  obtain ⟨pa,pn,pc,rfl⟩:=zr hp
  exact ⟨pa,pn,pc,rfl,rfl,rfl,rfl,rfl,rfl⟩
 |u :: us,a0 :: a1 :: a2 :: a3 :: a4 :: a5 :: vs,h,j+1,t,hj=>by
  obtain ⟨pa,pn,pc,z⟩:=YW us vs h.2.2 j t (by simpa using hj)
  exact ⟨pa,pn,pc,by
   rw [show (j+1)*6=j*6+6 by omega]
   exact z⟩
 |_ :: _,[],h,_,_,_=>absurd h id
 |_ :: _,[_],h,_,_,_=>absurd h id
 |_ :: _,[_,_],h,_,_,_=>absurd h id
 |_ :: _,[_,_,_],h,_,_,_=>absurd h id
 |_ :: _,[_,_,_,_],h,_,_,_=>absurd h id
 |_ :: _,[_,_,_,_,_],h,_,_,_=>absurd h id
theorem Wf {w:World}{base:Nat}{v:Value}{l:List Tok}(h:xH w base v l):(v = .slice none 0 0∧l=[])∨∃ g cap,v = .slice (some ⟨g,0,none⟩) l.length cap∧base≤g∧l.length≤cap∧jo w g 0 l:=by
 obtain ⟨cs,ho,hk⟩:=h
 obtain ⟨h1,h2⟩:=ho
 rcases h2 with ⟨rfl,h0⟩ |⟨g,cap,cur,rfl,hb,hg,hc,hm,hs,ht⟩
 ·exact .inl ⟨rfl,List.eq_nil_of_length_eq_zero h0⟩
 ·refine .inr ⟨g,cap,rfl,hb,hc,?_⟩
  intro j t hj
  obtain ⟨pa,pn,pc,z0,z1,z2,z3,z4,z5⟩:=YW l cs hk j t hj
  have hjl:j<l.length:=by
   by_cases hlt:j<l.length
   ·exact hlt
   ·rw [List.getElem?_eq_none (by omega)] at hj;cases hj
  have how:w.ownsRow base 178 6 (.slice (some ⟨g,0,none⟩) l.length cap) l.length cs:=⟨h1,.inr ⟨g,cap,cur,rfl,hb,hg,hc,hm,hs,ht⟩⟩
  exact ⟨pa,pn,pc,by rw [Nat.zero_add,how.cellAt _ (by omega)];exact z0,by rw [Nat.zero_add,how.cellAt _ (by omega)];exact z1,by rw [Nat.zero_add,how.cellAt _ (by omega)];exact z2,by rw [Nat.zero_add,how.cellAt _ (by omega)];exact z3,by rw [Nat.zero_add,how.cellAt _ (by omega)];exact z4,by rw [Nat.zero_add,how.cellAt _ (by omega)];exact z5⟩
theorem Ja {w:World}{base:Nat}{v:Value}{l:List Tok}{z:Int}(h:xH w base v l)(hl:l.length≤1000)(hb:∀ t∈l,Ref.jz t)(hz:Ref.XB l 0 z) :
  Calls Tryz.prog 37 #[v] w fun x w'=>x = .returned (.int .i64 z)∧zf (fun _=>False) w w':=by
 obtain ⟨f,hf⟩:=hz
 rcases Wf h with ⟨rfl,rfl⟩ |⟨g,cap,rfl,_,hc,hr⟩
 ·have:z=0:=by
   cases f with
   |zero=>simp [Ref.yG] at hf
   |succ f=>unfold Ref.yG at hf;exact (Option.some.inj hf).symm
  subst this
  exact (zcw w).mono (by rintro e w' ⟨rfl,rfl⟩;exact ⟨rfl,zf.refl _ _⟩)
 ·exact zcv f g 0 cap l w z hr hl hc hb hf
theorem JH (s:ByteArray)(w:World)(hs:200<s.size) :
  Calls Tryz.prog 17 #[.string s] w fun x w'=>x = .returned (.tuple #[.pointer none,.int .i64 2,.int .i64 200])∧w'=w:=by
 go_enter Tryz.func17,Tryz.ntmps17
 go_wp2_with fail
 go_ret3
 exact ⟨rfl,rfl⟩
theorem JI (s:ByteArray)(w:World)(hs:s.size≤200)(hc:0≤(Ref.zG s).2) :
  Calls Tryz.prog 17 #[.string s] w fun x w'=>x = .returned (.tuple #[.pointer none,.int .i64 1,.int .i64 (Ref.zG s).2])∧zf (fun _=>False) w w':=by
 generalize hA:(Ref.zG s).2=A at *
 go_enter Tryz.func17,Tryz.ntmps17
 go_wp2_with (go_at_call 35;refine (kh s _ (by omega)).mono ?_;rintro e w1 ⟨v,rfl,hv,hO1⟩;rw [hA];obtain ⟨pa,pn,pc,rfl⟩:=zr hv)
 go_ret3
 exact ⟨rfl,hO1⟩
theorem YX (s:ByteArray)(w:World)(hs:s.size≤200)(hc:(Ref.zG s).2<0)(he:(Ref.yF s).2.1≠0) :
  Calls Tryz.prog 17 #[.string s] w fun x w'=>x = .returned (.tuple #[.pointer none,.int .i64 (Ref.yF s).2.1,.int .i64 (Ref.yF s).2.2])∧zf (fun _=>False) w w':=by
 have HG:=ze (Ref.ku hc)
 generalize hA:(Ref.zG s).2=A at *
 generalize hE:(Ref.yF s).2.1=E at *
 generalize hP:(Ref.yF s).2.2=P at *
 have he':(E == 0)=false:=by simp [he]
 go_enter Tryz.func17,Tryz.ntmps17
 go_wp2_with (first |(go_at_call 35;refine (kh s _ (by omega)).mono ?_;rintro e w1 ⟨v,rfl,hv,hO1⟩;rw [hA];obtain ⟨pa,pn,pc,rfl⟩:=zr hv) |(go_at_call 36;refine (YJ s _ (by omega) (zb HG)).mono ?_;rintro e w2 ⟨v2,rfl,⟨cs2,hv2,hk2⟩,hO2⟩;rw [hE,hP];obtain ⟨qa,qn,qc,rfl⟩:=zr hv2))
 go_ret3
 exact ⟨rfl,hO1.trans hO2⟩
theorem KQ (s:ByteArray)(w:World)(z:Int)(hs:s.size≤200)(hc:(Ref.zG s).2<0)(he:(Ref.yF s).2.1=0)(hb:∀ t∈(Ref.yF s).1,Ref.jz t)(hz:Ref.XB (Ref.yF s).1 0 z)(h0:300≤z)(h1:z≤10000000) :
  Calls Tryz.prog 17 #[.string s] w fun x w'=>x = .returned (.tuple #[.pointer none,.int .i64 8,.int .i64 0])∧zf (fun _=>False) w w':=by
 have HG:=ze (Ref.ku hc)
 have HB:=ze hb
 have HZ:=ze hz
 have HL:=ze (Ref.Zt s)
 clear hb hz
 generalize hA:(Ref.zG s).2=A at *
 generalize hP:(Ref.yF s).2.2=P at *
 generalize hT:(Ref.yF s).1=ts at *
 go_enter Tryz.func17,Tryz.ntmps17
 go_wp2_with (first |(go_at_call 35;refine (kh s _ (by omega)).mono ?_;rintro e w1 ⟨v,rfl,hv,hO1⟩;rw [hA];obtain ⟨pa,pn,pc,rfl⟩:=zr hv) |(go_at_call 36;refine (YJ s _ (by omega) (zb HG)).mono ?_;rintro e w2 ⟨v2,rfl,hv2,hO2⟩;rw [he,hP];rw [hT] at hv2;obtain ⟨qa,qn,qc,rfl⟩:=zr hv2.choose_spec.1;have HV2:=ze hv2;clear hv2) |(go_at_call 37;refine (Ja (zb HV2) (by have:=zb HL;omega) (zb HB) (zb HZ)).mono ?_;rintro e w3 ⟨rfl,hO3⟩))
 go_ret3
 exact ⟨rfl,(hO1.trans hO2).trans hO3⟩
end
end Go.Proofs.YtnagphodmfejiaaGreatDoor
