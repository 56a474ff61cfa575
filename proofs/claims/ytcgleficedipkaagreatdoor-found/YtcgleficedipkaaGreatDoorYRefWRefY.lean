/- The reference's sizes: an atom without its brackets. -/
import Derived.Test.YtcgleficedipkaaGreatDoorYEqAEqI
namespace Go.Proofs.YtcgleficedipkaaGreatDoor
open _root_.Go.Proofs.Tryz
variable (s:ByteArray)(w:World){base g off:Nat}(x:Int)(F:Nat){v:Value}
section
open Go.RowKit
set_option maxHeartbeats 800000
namespace Ref
theorem zfp (l:List Tok):∀ (f k:Nat) (op:Int) (m:Nat),scan (l.drop k) op k=some m->l.length<k+f->closingF l f k op=(m:Int)/\m<l.length/\k<=m
 |0,k,op,m,h,hf=>by rw [Qg (by omega)] at h;cases h
 |f+1,k,op,m,h,hf=>by
  by_cases hk:k<l.length
  ·have hd:l.drop k=l[k] :: l.drop (k+1):=YK hk;have hka:wm l k=l[k].kind:=(by unfold wm;rw [zD hk]);rw [hd,zeG] at h;simp only [closingF];rw [if_pos hk,hka];by_cases hz:zen l[k].kind op=0
   ·rw [if_pos hz] at h ⊢;cases h;exact ⟨rfl,hk,z8 _⟩
   ·rw [if_neg hz] at h ⊢;have:=zfp l f (k+1) _ m h (by omega);exact ⟨this.1,this.2.1,by omega⟩
  ·rw [Qg (by omega)] at h;cases h
theorem scan_gen:∀ (r:List Tok) (op:Int) (a b j:Nat),scan r op a=some j->scan r op (a+b)=some (j+b)
 | [],op,a,b,j,h=>by cases h
 |t :: r,op,a,b,j,h=>by
  rw [zeG] at h ⊢;by_cases hz:zen t.kind op=0
  ·rw [if_pos hz] at h ⊢;cases h;rfl
  ·rw [if_neg hz] at h ⊢;rw [show a+b+1=a+1+b by omega];exact scan_gen r _ (a+1) b j h
theorem zhi (r:List Tok)(op:Int)(k j:Nat)(h:scan r op 0=some j):scan r op k=some (j+k):=by
 have:=scan_gen r op 0 k j h;rw [jY] at this;exact this
theorem zfc {l:List Tok}{i j:Nat}(hi:i<l.length)(h3:wm l i=3)(h:scan (l.drop (i+1)) 1 0=some j):atomEnd l i=((i+j+2:Nat):Int)/\i+j+2<=l.length:=by
 have hs:=zhi _ _ (i+1) j h;have hc:=zfp l (l.length-i) (i+1) 1 _ hs (by omega);have e:closingR l i=((j+(i+1):Nat):Int):=by
  unfold closingR;rw [show l.length+1-i=(l.length-i)+1 by omega];simp only [closingF];have:zen (wm l i) 0=1:=by rw [h3];rfl
  rw [if_pos hi,this,if_neg (by decide)];exact hc.1
 unfold atomEnd;rw [if_pos h3,e];omega
theorem qsize_nn {k:Int}{t:Tok}(hk:0<=k)(h:TokB t):0<=qsize k t.mn t.mx:=by
 unfold TokB at h;unfold qsize;split
 ·have:0<=(if t.mn=0 then (1:Int) else t.mn)*k:=wg (by split<;>omega) hk;omega
 ·have h1:0<=t.mn*k:=wg h.1 hk;have h2:0<=(t.mx-t.mn)*(k+1):=wg (by omega) (by omega);omega
theorem zfZ {rest:List Tok}{k:Int}{t:Tok}(h:t∈(vq rest k).2):t∈rest:=by
 unfold vq at h;cases rest with
 |nil=>exact h
 |cons q r=>
  simp only [] at h;split at h
  ·exact xp _ h
  ·exact h
theorem zf0 (rest:List Tok)(k:Int):(vq rest k).2.length<=rest.length:=by
 unfold vq;cases rest with
 |nil=>exact z8 _
 |cons q r=>simp only [];split<;>simp
theorem zgm {rest:List Tok}{k:Int}(hk:0<=k)(h:∀ t∈rest,TokB t):0<=(vq rest k).1:=by
 unfold vq;cases rest with
 |nil=>exact hk
 |cons q r=>
  simp only [];split
  ·exact qsize_nn hk (h q (xF ..))
  ·exact hk
theorem sizeS_bd:∀ (f:Nat) (l:List Tok) (n z b:Int),zep f l n=some z->(∀ t∈l,TokB t)->0<=n->0<=b->n<=1000000+b->0<=z/\z<=1000000+b+l.length:=by
 intro f
 induction f with
 |zero=>intro l n z b h;cases h
 |succ f ih=>
  intro l n z b h hb hn0 hb0 hn1;cases l with
  |nil=>simp [zep] at h;subst h;simp;omega
  |cons t r=>
   have hr:∀ u∈r,TokB u:=fun u hu=>hb u (xp _ hu);unfold zep at h;simp only [qH];split at h
   ·have:=ih r (n+1) z (b+1) h hr (by omega) (by omega) (by omega);omega
   ·split at h
    ·split at h
     ·cases h
     ·rename_i j hj;split at h
      ·cases h
      ·rename_i k hk;have hk0:=(ih (r.take j) 0 k 0 hk (fun u hu=>hr u (QN hu)) (by omega) (by omega) (by omega)).1;have hd:∀ u∈r.drop (j+1),TokB u:=fun u hu=>hr u (QV hu);have hq:=zgm hk0 hd;have:=ih _ _ z b h (fun u hu=>hd u (zfZ hu)) (by omega) hb0 (by omega);have hl:=zf0 (r.drop (j+1)) k;rw [ZX] at hl;omega
    ·have hq:=zgm (k:=1) (by omega) hr;have:=ih _ _ z b h (fun u hu=>hr u (zfZ hu)) (by omega) hb0 (by omega);have hl:=zf0 r 1;omega
end Ref
variable {w}
theorem TokRow.sub {l:List Tok}(h:TokRow w g off l)(i m:Nat):TokRow w g (off+i*6) ((l.drop i).take m):=by
 intro j t hj;rw [Qb] at hj;split at hj
 ·rw [ZY] at hj;obtain ⟨pa,pn,pc,h0,h1,h2,h3,h4,h5⟩:=h (i+j) t hj;have e:off+i*6+j*6=off+(i+j)*6:=by omega
  rw [e];exact ⟨pa,pn,pc,h0,h1,h2,h3,h4,h5⟩
 ·cases hj
theorem zgn (g off cap:Nat)(l:List Tok)(w:World)(h:TokRow w g off l)(hl:l.length<=1000)(hc:l.length<=cap)(h2:2<=l.length)(h3:Ref.wm l 0=3) :
  Calls prog 149 #[.slice (some ⟨g,off,none⟩) l.length cap] w fun x w'=>x = .returned (.slice (some ⟨g,off+6,none⟩) (l.length-2) (cap-1))/\w'=w:=by
 have hk:w.cell? ⟨g,off,none⟩=some (.int .i64 (Ref.wm l 0)):=by have:=h.kind 0 (by omega);rw [Qk,YG] at this;exact this
 have h3':(Ref.wm l 0 == 3)=true:=by simp [h3]
 have hcap:¬cap=1:=by omega
 clear h3 h;go_enter func149,ntmps149;go_wp2_with fail;go_ret;exact ⟨by rw [show l.length-2=l.length-1-1 by omega];rfl,rfl⟩
set_option maxHeartbeats 4000000
set_option maxRecDepth 1000000
def SizedOK (f:Nat):Prop:=∀ (g off cap:Nat) (l:List Tok) (w:World) (z:Int),TokRow w g off l->l.length<=1000->l.length<=cap->(∀ t∈l,Ref.TokB t)->Ref.zep f l 0=some z->
 Calls prog 103 #[.slice (some ⟨g,off,none⟩) l.length cap] w fun x w'=>x = .returned (.int .i64 z)/\Q8 w w'
theorem TokRow.only {w':World}{g off:Nat}{l:List Tok}(h:TokRow w g off l)(k:Q8 w w'):TokRow w' g off l:=by
 intro j t hj;obtain ⟨pa,pn,pc,z0,z1,z2,z3,z4,z5⟩:=h j t hj;have e:∀ (p:Addr) (v:Value),w.cell? p=some v->w'.cell? p=some v:=fun p v hv=>(k.cell (zE w p hv) (fun f=>f)).trans hv;exact ⟨pa,pn,pc,e _ _ z0,e _ _ z1,e _ _ z2,e _ _ z3,e _ _ z4,e _ _ z5⟩
namespace Ref
theorem zfh {l:List Tok}{i:Nat}(hi:i<l.length):wm l i=l[i].kind:=by unfold wm;rw [zD hi]
theorem zfB {l:List Tok}{i:Nat}(hi:i<l.length):l.drop i=l[i] :: l.drop (i+1):=YK hi
theorem zgO {rest:List Tok}{k:Int}(h:headKind rest≠6):vq rest k=(k,rest):=by
 unfold vq;cases rest with
 |nil=>rfl
 |cons q r=>simp only [];rw [if_neg (show ¬q.kind=6 from h)]
theorem zfC {l:List Tok}{i:Nat}:headKind (l.drop i)=wm l i:=by unfold headKind wm;rw [ZY,YG]
theorem drop_not {l:List Tok}{i:Nat}(h:¬(i<l.length/\wm l i=6)):headKind (l.drop i)≠6:=by
 rw [zfC];intro hh;by_cases hi:i<l.length
 ·exact h ⟨hi,hh⟩
 ·unfold wm at hh;rw [jF (by omega)] at hh;exact absurd hh (by decide)
end Ref
theorem prod_in {x y X Y:Int}(h0:0<=x)(h1:x<=X)(h2:0<=y)(h3:y<=Y):0<=x*y/\x*y<=X*Y:=by
 refine ⟨wg h0 h2,?_⟩;have a:=vz h1 h2;have b:=Int.mul_le_mul_of_nonneg_left h3 (show (0:Int)<=X by omega);omega
theorem inner_at {cap:Nat}{l:List Tok}{i j:Nat}{w:World}(h:TokRow w g off l)(hl:l.length<=1000)(hc:l.length<=cap)(hE:i+j+2<=l.length)(h3:Ref.wm l i=3) :
  Calls prog 149 #[.slice (some ⟨g,off+i*6,none⟩) (i+j+2-i) (cap-i)] w fun x w'=>x = .returned (.slice (some ⟨g,off+i*6+6,none⟩) (i+j+2-i-2) (cap-i-1))/\w'=w:=by
 have hlen:((l.drop i).take (j+2)).length=i+j+2-i:=by rw [ZN,ZX];omega
 have:=zgn g (off+i*6) (cap-i) ((l.drop i).take (j+2)) w (h.sub i (j+2)) (by rw [hlen];omega) (by rw [hlen];omega) (by rw [hlen];omega) (by
  unfold Ref.wm at h3 ⊢;rw [Qb,if_pos (by omega),ZY,YG];exact h3)
 rw [hlen] at this;exact this
theorem sized_at {F:Nat}(hF:SizedOK F){g off cap:Nat}{l:List Tok}{i j f:Nat}{k:Int}{w:World}(h:TokRow w g off l)(hl:l.length<=1000)(hc:l.length<=cap)(hE:i+j+2<=l.length)(hb:∀ t∈l,Ref.TokB t)(hk:Ref.zep f ((l.drop (i+1)).take j) 0=some k)(hf:f<=F) :
  Calls prog 103 #[.slice (some ⟨g,off+i*6+6,none⟩) (i+j+2-i-2) (cap-i-1)] w fun x w'=>x = .returned (.int .i64 k)/\Q8 w w':=by
 have hlen:((l.drop (i+1)).take j).length=i+j+2-i-2:=by rw [ZN,ZX];omega
 have:=hF g (off+(i+1)*6) (cap-i-1) ((l.drop (i+1)).take j) w k (h.sub (i+1) j) (by rw [hlen];omega) (by rw [hlen];omega) (fun t ht=>hb t (QV (QN ht))) (Ref.sizeS_le hk hf);rw [hlen,show off+(i+1)*6=off+i*6+6 by omega] at this;exact this
namespace Ref
theorem zgP {l:List Tok}{i:Nat}{k:Int}(hi:i<l.length)(h6:wm l i=6):vq (l.drop i) k=(qsize k l[i].mn l[i].mx,l.drop (i+1)):=by
 rw [zfB hi];unfold vq;simp only [];rw [if_pos (by rw [<-zfh hi];exact h6)]
end Ref
theorem min_if:(if (1000000:Int)<x then (1000000:Int) else x)=min 1000000 x:=by split<;>omega
theorem zhj (hF:SizedOK F):SizedOK (F+1):=by
 intro g off cap l w z h hl hc hb hz;have H:=zc h;have HF:=zc hF;have HB:=zc hb;clear h hF hb;go_enter func103,ntmps103;go_wp2_with fail;go_loopw [3,4] (fun a b wr=>∃ (i f:Nat) (n:Int),a = .int .i64 n/\b = .int .i64 i/\i<=l.length/\f<=F+1/\0<=n/\n<=1000000+i/\Q8 w wr/\Hid (Ref.zep f (l.drop i) n=some z)) (fun _ b _=>l.length-(intOf b).toNat)
 case atStart=>exact ⟨0,F+1,0,rfl,rfl,by omega,by omega,by omega,by omega,ze.refl _ _,hz⟩
 case round=>
  obtain ⟨i,f,n,rfl,rfl,hi,hf,hn0,hn1,hO,HZ⟩:=hrel;have HR:=zc ((zb H).only hO);obtain ⟨f,rfl⟩:∃ f',f=f'+1:=by
   cases f with
   |zero=>exact absurd (zb HZ) (by simp [Ref.zep])
   |succ f=>exact ⟨f,rfl⟩
  by_cases hlt:i<l.length
  ·have hkc:=(zb HR).kind i hlt;have hds:=Ref.zfB hlt;have hkg:=Ref.zfh hlt;by_cases h5:Ref.wm l i=5
   ·have HZ1:Hid (Ref.zep f (l.drop (i+1)) (n+1)=some z):=by
     have:=zb HZ;rw [hds] at this;unfold Ref.zep at this;rw [if_pos (by rw [<-hkg];exact h5)] at this;exact this
    have h5':(Ref.wm l i == 5)=true:=(by simp [h5]);clear h5 hds hkg;go_wp2_with fail;exact ⟨⟨i+1,f,n+1,rfl,by go_num,by omega,by omega,by omega,by omega,hO,HZ1⟩,by simp [intOf];omega⟩
   ·have h5':(Ref.wm l i == 5)=false:=(by simp [h5]);obtain ⟨e,k,hE,hel,hk0,hk1,HZ1,HG⟩:∃ (e:Nat) (k:Int),Ref.atomEnd l i=(e:Int)/\(i<e/\e<=l.length)/\0<=k/\k<=1010000/\Hid (Ref.zep f (Ref.vq (l.drop e) k).2 (min 1000000 (n+(Ref.vq (l.drop e) k).1))=some z)/\((Ref.wm l i == 3)=true/\Ref.wm l i=3/\¬cap=i/\(∃ j,e=i+j+2/\i+j+2<=l.length/\Hid (Ref.zep f ((l.drop (i+1)).take j) 0=some k))\/(Ref.wm l i == 3)=false/\e=i+1/\k=1):=by
     by_cases h3:Ref.wm l i=3
     ·obtain ⟨j,k,hj,hk,HZ1⟩:∃ j k,Ref.scan (l.drop (i+1)) 1 0=some j/\Ref.zep f ((l.drop (i+1)).take j) 0=some k/\Hid (Ref.zep f (Ref.vq ((l.drop (i+1)).drop (j+1)) k).2 (min 1000000 (n+(Ref.vq ((l.drop (i+1)).drop (j+1)) k).1))=some z):=by
       have:=zb HZ;rw [hds] at this;unfold Ref.zep at this;rw [if_neg (by rw [<-hkg];exact h5),if_pos (by rw [<-hkg];exact h3)] at this;split at this
       ·cases this
       ·rename_i j hj;split at this
        ·cases this
        ·rename_i k hk;exact ⟨j,k,hj,hk,this⟩
      obtain ⟨hE,hEl⟩:=Ref.zfc hlt h3 hj;have hkb:=Ref.sizeS_bd f _ 0 k 0 hk (fun u hu=>zb HB u (QV (QN hu))) (by omega) (by omega) (by omega);rw [Yw,show i+1+(j+1)=i+j+2 by omega] at HZ1;have:((l.drop (i+1)).take j).length<=l.length:=by (rw [ZN,ZX];omega)
      exact ⟨i+j+2,k,hE,⟨by omega,by omega⟩,hkb.1,by omega,HZ1,.inl ⟨by simp [h3],h3,by omega,j,rfl,by omega,hk⟩⟩
     ·refine ⟨i+1,1,by unfold Ref.atomEnd;rw [if_neg h3];omega,⟨by omega,by omega⟩,by omega,by omega,?_,.inr ⟨by simp [h3],rfl,rfl⟩⟩;have:=zb HZ;rw [hds] at this;unfold Ref.zep at this;rw [if_neg (by rw [<-hkg];exact h5),if_neg (by rw [<-hkg];exact h3)] at this;exact this
    have HE:=zc hE;by_cases hq:e<l.length/\Ref.wm l e=6
    ·obtain ⟨hq1,hq6⟩:=hq;have HC:Hid (∀ w',Q8 w w'->∃ pa pn pc,w'.cell? ⟨g,off+e*6,none⟩=some (.int .i64 l[e].kind)/\w'.cell? ⟨g,off+e*6+1,none⟩=some (.bool l[e].neg)/\w'.cell? ⟨g,off+e*6+2,none⟩=some (.slice pa pn pc)/\w'.cell? ⟨g,off+e*6+3,none⟩=some (.int .i64 l[e].c)/\w'.cell? ⟨g,off+e*6+4,none⟩=some (.int .i64 l[e].mn)/\w'.cell? ⟨g,off+e*6+5,none⟩=some (.int .i64 l[e].mx)):=fun w' ho=>((zb H).only ho) e l[e] (zD hq1);have htb:=zb HB l[e] (jG hq1);have HN:Hid (Ref.atomNext l i=(e:Int)+1):=(by show _=_;unfold Ref.atomNext;rw [hE,if_pos ⟨by omega,by rw [vK];exact hq6⟩]);have HZ2:Hid (Ref.zep f (l.drop (e+1)) (min 1000000 (n+Ref.qsize k l[e].mn l[e].mx))=some z):=by
      have:=zb HZ1;rw [Ref.zgP hq1 hq6] at this;exact this
     have hqn:=Ref.qsize_nn (k:=k) (t:=l[e]) (by omega) htb;unfold Ref.TokB at htb;generalize l[e].mn=mn at *;generalize l[e].mx=mx at *;generalize l[e].neg=ng at *;generalize l[e].c=cc at *;generalize l[e].kind=kd at *;clear hE hds hkg h5 hq6 HZ1;obtain ⟨pa,pn,pc,z0,z1,z2,z3,z4,z5⟩:=zb HC _ hO;by_cases hmx:mx<0
     ·by_cases hmn:mn=0
      ·have hmn':(mn == 0)=true:=(by simp [hmn]);have HQ:Hid (1*k+1=Ref.qsize k mn mx):=(by show _=_;unfold Ref.qsize;rw [if_pos hmx,if_pos hmn]);clear hmn;rcases HG with ⟨h3',h3,hci,j,rfl,hEl,HK⟩ |⟨h3',rfl,rfl⟩
       case' inl=>have H3:=zc h3;have HL:=zc hEl;clear h3 hEl
       all_goals
        go_wp2_with (first |(go_at_call 148;refine Q7 (atom_any g off cap l i _ (zb HR) hl hc hlt) ?_;rw [zb HE,zb HN]) |(go_at_call 149;refine Q7 (inner_at (zb HR) hl hc (zb HL) (zb H3)) ?_) |(go_at_call 103;refine (sized_at (zb HF) (zb HR) hl hc (zb HL) (zb HB) (zb HK) (by omega)).mono ?_;rintro e w1 ⟨rfl,hO1⟩;obtain ⟨pa,pn,pc,z0,z1,z2,z3,z4,z5⟩:=zb HC w1 (hO.trans hO1)) |(go_at_call 150;refine Q7 (zeP _ _ _) ?_));exact ⟨⟨_,f,_,by first |rw [min_if,show n+(k+1)=n+Ref.qsize _ mn mx by ((rw [<-zb HQ])<;>omega)] |rw [min_if,show n+2=n+Ref.qsize _ mn mx by ((rw [<-zb HQ])<;>omega)],by go_num,by omega,by omega,by omega,by omega,by first |exact (hO.trans hO1).alloc _ |exact hO.alloc _,HZ2⟩,by simp [intOf];omega⟩
      ·have hmn':(mn == 0)=false:=(by simp [hmn]);have HQ:Hid (mn*k+1=Ref.qsize k mn mx):=(by show _=_;unfold Ref.qsize;rw [if_pos hmx,if_neg hmn]);have hpr:=prod_in (x:=mn) (y:=k) (X:=100) (Y:=1010000) (by omega) (by omega) (by omega) (by omega);clear hmn;rcases HG with ⟨h3',h3,hci,j,rfl,hEl,HK⟩ |⟨h3',rfl,rfl⟩
       case' inl=>have H3:=zc h3;have HL:=zc hEl;clear h3 hEl
       all_goals
        go_wp2_with (first |(go_at_call 148;refine Q7 (atom_any g off cap l i _ (zb HR) hl hc hlt) ?_;rw [zb HE,zb HN]) |(go_at_call 149;refine Q7 (inner_at (zb HR) hl hc (zb HL) (zb H3)) ?_) |(go_at_call 103;refine (sized_at (zb HF) (zb HR) hl hc (zb HL) (zb HB) (zb HK) (by omega)).mono ?_;rintro e w1 ⟨rfl,hO1⟩;obtain ⟨pa,pn,pc,z0,z1,z2,z3,z4,z5⟩:=zb HC w1 (hO.trans hO1)) |(go_at_call 150;refine Q7 (zeP _ _ _) ?_));exact ⟨⟨_,f,_,by first |rw [min_if,show n+(mn*k+1)=n+Ref.qsize _ mn mx by ((rw [<-zb HQ])<;>omega)] |rw [min_if,show n+(mn+1)=n+Ref.qsize _ mn mx by ((rw [<-zb HQ])<;>omega)],by go_num,by omega,by omega,by omega,by omega,by first |exact (hO.trans hO1).alloc _ |exact hO.alloc _,HZ2⟩,by simp [intOf];omega⟩
     ·have HQ:Hid (mn*k+(mx-mn)*(k+1)=Ref.qsize k mn mx):=(by show _=_;unfold Ref.qsize;rw [if_neg hmx]);have hpr:=prod_in (x:=mn) (y:=k) (X:=100) (Y:=1010000) (by omega) (by omega) (by omega) (by omega);have hpr2:=prod_in (x:=mx-mn) (y:=k+1) (X:=100) (Y:=1010001) (by omega) (by omega) (by omega) (by omega);rcases HG with ⟨h3',h3,hci,j,rfl,hEl,HK⟩ |⟨h3',rfl,rfl⟩
      case' inl=>have H3:=zc h3;have HL:=zc hEl;clear h3 hEl
      all_goals
       go_wp2_with (first |(go_at_call 148;refine Q7 (atom_any g off cap l i _ (zb HR) hl hc hlt) ?_;rw [zb HE,zb HN]) |(go_at_call 149;refine Q7 (inner_at (zb HR) hl hc (zb HL) (zb H3)) ?_) |(go_at_call 103;refine (sized_at (zb HF) (zb HR) hl hc (zb HL) (zb HB) (zb HK) (by omega)).mono ?_;rintro e w1 ⟨rfl,hO1⟩;obtain ⟨pa,pn,pc,z0,z1,z2,z3,z4,z5⟩:=zb HC w1 (hO.trans hO1)) |(go_at_call 150;refine Q7 (zeP _ _ _) ?_));exact ⟨⟨_,f,_,by first |rw [min_if,show n+(mn*k+(mx-mn)*(k+1))=n+Ref.qsize _ mn mx by ((rw [<-zb HQ])<;>omega)] |rw [min_if,show n+(mn+(mx-mn)*2)=n+Ref.qsize _ mn mx by ((rw [<-zb HQ])<;>omega)],by go_num,by omega,by omega,by omega,by omega,by first |exact (hO.trans hO1).alloc _ |exact hO.alloc _,HZ2⟩,by simp [intOf];omega⟩
    ·have HN:Hid (Ref.atomNext l i=(e:Int)):=(by show _=_;unfold Ref.atomNext;rw [hE,if_neg (fun hh=>hq ⟨by omega,by have:=hh.2;rw [vK] at this;exact this⟩)]);have HZ2:Hid (Ref.zep f (l.drop e) (min 1000000 (n+k))=some z):=by
      have:=zb HZ1;rw [Ref.zgO (Ref.drop_not hq)] at this;exact this
     clear hE hds hkg h5 HZ1;rcases HG with ⟨h3',h3,hci,j,rfl,hEl,HK⟩ |⟨h3',rfl,rfl⟩
     case' inl=>have H3:=zc h3;have HL:=zc hEl;clear h3 hEl
     all_goals
      go_wp2_with (first |(go_at_call 148;refine Q7 (atom_any g off cap l i _ (zb HR) hl hc hlt) ?_;rw [zb HE,zb HN]) |(go_at_call 149;refine Q7 (inner_at (zb HR) hl hc (zb HL) (zb H3)) ?_) |(go_at_call 103;refine (sized_at (zb HF) (zb HR) hl hc (zb HL) (zb HB) (zb HK) (by omega)).mono ?_;rintro e w1 ⟨rfl,hO1⟩) |(go_at_call 150;refine Q7 (zeP _ _ _) ?_));exact ⟨⟨_,f,_,by rw [min_if],by go_num,by omega,by omega,by omega,by omega,by first |exact hO.trans hO1 |exact hO,HZ2⟩,by simp [intOf];omega⟩
  ·have HZ1:Hid (n=z):=by
    have:=zb HZ;rw [Qg (by omega)] at this;unfold Ref.zep at this;exact qu this
   go_wp2_with fail;go_ret;rw [zb HZ1];exact ⟨rfl,hO⟩
theorem zhO:∀ f,SizedOK f:=by
 intro f
 induction f with
 |zero=>intro g off cap l w z _ _ _ _ hz;exact absurd hz (by simp [Ref.zep])
 |succ f ih=>exact zhj f ih
theorem zhP (w:World):Calls prog 103 #[.slice none 0 0] w fun x w'=>x = .returned (.int .i64 0)/\w'=w:=by
 go_enter func103,ntmps103;go_wp2_with fail;refine wp_loop_rounds 1 ?_;rw [rounds_succ];go_wp2_with fail;go_ret;exact ⟨rfl,rfl⟩
namespace Ref
theorem ze2 (s:ByteArray):∀ (f:Nat) (l:List Tok) (op:Int) (atom:Bool) (st:St),(vp s f l op atom st).1.length<=l.length+f
 |0,l,_,_,_=>by simp [vp]
 |f+1,l,op,atom,st=>by
  unfold vp;split
  ·split
   ·exact yZ (ze2 s f _ _ _ _) (by simp;omega)
   ·split
    ·simp
    ·exact yZ (ze2 s f _ _ _ _) (by simp;omega)
  ·simp
theorem ze3:(tokensR s).1.length<=s.size+1:=by
 have:=ze2 s (s.size+1) [] 0 false ⟨0,0,0⟩;simp only [jU] at this;unfold tokensR;omega
theorem zf1 (s:ByteArray):∀ (f p:Nat) (acc:List (Int×Int)),(xL s f p acc).2<0->(xL s f p acc).2 = -1
 |0,p,acc=>by simp [xL]
 |f+1,p,acc=>by
  intro h;by_cases hp:p<s.size
  ·cases h1:oneF s p with
   |none=>rw [jx hp h1] at h;simp only [] at h;omega
   |some nc=>
    obtain ⟨n,c⟩:=nc;rw [qW hp h1] at h ⊢;exact zf1 s f _ _ h
  ·rw [vE hp]
theorem zeA {s:ByteArray}(h:(zo s).2<0):Good s 0:=vM s (s.size+1) 0 [] (by omega) (zf1 s _ _ _ h) (by omega)
end Ref
theorem zfq {w:World}{base:Nat}:∀ (l:List Tok) (cs:List Value),ToksOK w base l cs->∀ (j:Nat) (t:Tok),l[j]?=some t->∃ pa pn pc,
  cs[j*6]?=some (.int .i64 t.kind)/\cs[j*6+1]?=some (.bool t.neg)/\cs[j*6+2]?=some (.slice pa pn pc)/\cs[j*6+3]?=some (.int .i64 t.c)/\cs[j*6+4]?=some (.int .i64 t.mn)/\cs[j*6+5]?=some (.int .i64 t.mx)
 | [],_,_,j,t,hj=>by simp at hj
 |u :: us,a0 :: a1 :: a2 :: a3 :: a4 :: a5 :: vs,h,0,t,hj=>by
  simp only [wh,Option.some.injEq] at hj;subst hj;obtain ⟨⟨rfl,rfl,rfl,rfl,rfl⟩,⟨xs,hp,_⟩,_⟩:=h;obtain ⟨pa,pn,pc,rfl⟩:=zy hp;exact ⟨pa,pn,pc,rfl,rfl,rfl,rfl,rfl,rfl⟩
 |u :: us,a0 :: a1 :: a2 :: a3 :: a4 :: a5 :: vs,h,j+1,t,hj=>by
  obtain ⟨pa,pn,pc,z⟩:=zfq us vs h.2.2 j t (by simpa using hj);exact ⟨pa,pn,pc,by
   rw [show (j+1)*6=j*6+6 by omega];exact z⟩
 |_ :: _,[],h,_,_,_=>absurd h id
 |_ :: _,[_],h,_,_,_=>absurd h id
 |_ :: _,[_,_],h,_,_,_=>absurd h id
 |_ :: _,[_,_,_],h,_,_,_=>absurd h id
 |_ :: _,[_,_,_,_],h,_,_,_=>absurd h id
 |_ :: _,[_,_,_,_,_],h,_,_,_=>absurd h id
theorem toks_row {l:List Tok}(h:ToksAt w base v l):(v = .slice none 0 0/\l=[])\/∃ g cap,v = .slice (some ⟨g,0,none⟩) l.length cap/\base<=g/\l.length<=cap/\TokRow w g 0 l:=by
 obtain ⟨cs,ho,hk⟩:=h;obtain ⟨h1,h2⟩:=ho;rcases h2 with ⟨rfl,h0⟩ |⟨g,cap,cur,rfl,hb,hg,hc,hm,hs,ht⟩
 ·exact .inl ⟨rfl,qg h0⟩
 ·refine .inr ⟨g,cap,rfl,hb,hc,?_⟩;intro j t hj;obtain ⟨pa,pn,pc,z0,z1,z2,z3,z4,z5⟩:=zfq l cs hk j t hj;have hjl:j<l.length:=by
   by_cases hlt:j<l.length
   ·exact hlt
   ·rw [jF (by omega)] at hj;cases hj
  have how:w.ownsRow base 308 6 (.slice (some ⟨g,0,none⟩) l.length cap) l.length cs:=⟨h1,.inr ⟨g,cap,cur,rfl,hb,hg,hc,hm,hs,ht⟩⟩
  exact ⟨pa,pn,pc,by rw [jY,how.cellAt _ (by omega)];exact z0,by rw [jY,how.cellAt _ (by omega)];exact z1,by rw [jY,how.cellAt _ (by omega)];exact z2,by rw [jY,how.cellAt _ (by omega)];exact z3,by rw [jY,how.cellAt _ (by omega)];exact z4,by rw [jY,how.cellAt _ (by omega)];exact z5⟩
theorem zf2 {l:List Tok}{z:Int}(h:ToksAt w base v l)(hl:l.length<=1000)(hb:∀ t∈l,Ref.TokB t)(hz:Ref.SizeIs l 0 z) :
  Calls prog 103 #[v] w fun x w'=>x = .returned (.int .i64 z)/\Q8 w w':=by
 obtain ⟨f,hf⟩:=hz;rcases toks_row h with ⟨rfl,rfl⟩ |⟨g,cap,rfl,_,hc,hr⟩
 ·have:z=0:=by
   cases f with
   |zero=>simp [Ref.zep] at hf
   |succ f=>unfold Ref.zep at hf;exact (qu hf).symm
  subst this;exact (zhP w).mono (by rintro e w' ⟨rfl,rfl⟩;exact ⟨rfl,ze.refl _ _⟩)
 ·exact zhO f g 0 cap l w z hr hl hc hb hf
theorem zf9 (w:World)(hs:200<s.size) :
  Calls prog 53 #[.string s] w fun x w'=>x = .returned (.tuple #[.pointer none,.int .i64 2,.int .i64 200])/\w'=w:=by
 go_enter func53,ntmps53;go_wp2_with fail;go_ret3;exact ⟨rfl,rfl⟩
theorem zga (w:World)(hs:s.size<=200)(hc:0<=(Ref.zo s).2) :
  Calls prog 53 #[.string s] w fun x w'=>x = .returned (.tuple #[.pointer none,.int .i64 1,.int .i64 (Ref.zo s).2])/\Q8 w w':=by
 generalize hA:(Ref.zo s).2=A at *;go_enter func53,ntmps53;go_wp2_with (go_at_call 101;refine (zey s _ (by omega)).mono ?_;rintro e w1 ⟨v,rfl,hv,hO1⟩;rw [hA];obtain ⟨pa,pn,pc,rfl⟩:=zy hv);go_ret3;exact ⟨rfl,hO1⟩
theorem zfr (w:World)(hs:s.size<=200)(hc:(Ref.zo s).2<0)(he:(Ref.tokensR s).2.1≠0) :
  Calls prog 53 #[.string s] w fun x w'=>x = .returned (.tuple #[.pointer none,.int .i64 (Ref.tokensR s).2.1,.int .i64 (Ref.tokensR s).2.2])/\Q8 w w':=by
 have HG:=zc (Ref.zeA hc);generalize hA:(Ref.zo s).2=A at *;generalize hE:(Ref.tokensR s).2.1=E at *;generalize hP:(Ref.tokensR s).2.2=P at *;have he':(E == 0)=false:=by simp [he]
 go_enter func53,ntmps53;go_wp2_with (first |(go_at_call 101;refine (zey s _ (by omega)).mono ?_;rintro e w1 ⟨v,rfl,hv,hO1⟩;rw [hA];obtain ⟨pa,pn,pc,rfl⟩:=zy hv) |(go_at_call 102;refine (zfg s _ (by omega) (zb HG)).mono ?_;rintro e w2 ⟨v2,rfl,⟨cs2,hv2,hk2⟩,hO2⟩;rw [hE,hP];obtain ⟨qa,qn,qc,rfl⟩:=zy hv2));go_ret3;exact ⟨rfl,hO1.trans hO2⟩
theorem zgA (w:World)(z:Int)(hs:s.size<=200)(hc:(Ref.zo s).2<0)(he:(Ref.tokensR s).2.1=0)(hb:∀ t∈(Ref.tokensR s).1,Ref.TokB t)(hz:Ref.SizeIs (Ref.tokensR s).1 0 z)(h0:300<=z)(h1:z<=10000000) :
  Calls prog 53 #[.string s] w fun x w'=>x = .returned (.tuple #[.pointer none,.int .i64 8,.int .i64 0])/\Q8 w w':=by
 have HG:=zc (Ref.zeA hc);have HB:=zc hb;have HZ:=zc hz;have HL:=zc (Ref.ze3 s);clear hb hz;generalize hA:(Ref.zo s).2=A at *;generalize hP:(Ref.tokensR s).2.2=P at *;generalize hT:(Ref.tokensR s).1=ts at *;go_enter func53,ntmps53;go_wp2_with (first |(go_at_call 101;refine (zey s _ (by omega)).mono ?_;rintro e w1 ⟨v,rfl,hv,hO1⟩;rw [hA];obtain ⟨pa,pn,pc,rfl⟩:=zy hv) |(go_at_call 102;refine (zfg s _ (by omega) (zb HG)).mono ?_;rintro e w2 ⟨v2,rfl,hv2,hO2⟩;rw [he,hP];rw [hT] at hv2;obtain ⟨qa,qn,qc,rfl⟩:=zy hv2.choose_spec.1;have HV2:=zc hv2;clear hv2) |(go_at_call 103;refine (zf2 (zb HV2) (by have:=zb HL;omega) (zb HB) (zb HZ)).mono ?_;rintro e w3 ⟨rfl,hO3⟩));go_ret3;exact ⟨rfl,(hO1.trans hO2).trans hO3⟩
end
end Go.Proofs.YtcgleficedipkaaGreatDoor
