/- The reference's Through. -/
import Derived.Test.YtcgleficedipkaaGreatDoorYMatAMatJ
namespace Go.Proofs.YtcgleficedipkaaGreatDoor
open _root_.Go.Proofs.Tryz
variable (p:Nat)(s:ByteArray)(k a:Int)(w:World){f F:Nat}
section
open Go.RowKit
open Sm (Tree)
set_option maxHeartbeats 8000000
set_option maxRecDepth 100000
theorem one_at (hO:OneOK f)(hF:3*f<=F){g off cap E i:Nat}{l us:List Tok}{K:Tree}{cv:Value}{tx:List (Int×Int)}{w:World}(h:TokFull w g off l)(hl:l.length<=1000)(hc:l.length<=cap)(hE:E=i+us.length)(hEl:E<=l.length)(hu:(l.drop i).take us.length=us)(hA:Eqv.zer f us K)(h7:K.kind≠7)(hcv:PairRow w cv tx)(htl:tx.length<=900) :
  ∀ (fv:Value) (xs:List Bool) (w':World),Q8 w w'->BoolRow w' fv xs->xs.length=tx.length+1->Calls prog 156 #[.slice (some ⟨g,off+i*6,none⟩) (E-i) (cap-i),cv,fv] w' (Goes1 w' xs (Ref.MM tx F K)):=by
 intro fv xs w' hk hx hxl;have hlen:E-i=us.length:=by omega
 rw [hlen];have hsub:=(h.only hk).sub i us.length;rw [hu] at hsub;exact hO F g (off+i*6) (cap-i) us K cv fv tx xs w' hF hA h7 hsub (by omega) (by omega) ⟨hcv.keep hk,hx,htl,hxl⟩
theorem thr_step (f:Nat)(hO:OneOK f):ThrOK f:=by
 intro F g off cap ts kids cv fv tx xs w hF hC hTB h hl hc hX;have HTB:=zc hTB;clear hTB;obtain ⟨t0,alts0,rfl,h60,hR0⟩:=hC.open;have hx:=hX.f;have hmk:=jt xs.length (by have:=hX.hx;have:=hX.hl;omega);have HX:=zc hX;have H:=zc h;have HO:=zc hO;have HR0:=zc hR0;have H60:=zc h60;have HF:=zc hF;have hxl:xs.length<=901:=by have:=hX.hx;have:=hX.hl;omega
 have HM:Hid (BoolRow (w.alloc (.cells (madeCells #[.bool false] xs.length) 4)) (.slice (some ⟨w.heap.size,0,none⟩) xs.length xs.length) (List.replicate xs.length false)):=by
  have:=(xQ.made w xs.length).row (by simp) (cap:=xs.length) (by simp);exact zc (by simpa using this)
 obtain ⟨gx,cx,rfl,_⟩:=hx;clear hX h hO hR0 h60 hF hC;go_enter func111,ntmps111;go_wp2_with fail;clear hmk;have HO0:Hid (Q8 w (w.alloc (.cells (madeCells #[.bool false] xs.length) 4))):=(ze.refl _ _).alloc _;generalize w.alloc (.cells (madeCells #[.bool false] xs.length) 4)=W at *;go_loopw [7,8,9] (fun av nv k wr=>∃ (i:Nat) (es ns:List Bool) (A N:Nat->Nat->Prop) (terms alts:List Tree),k = .int .i64 i/\i<=ts.length/\Hid (Q8 W wr)/\Hid (BoolRow wr av es)/\Hid (BoolRow wr nv ns)/\Hid (Ref.Img A xs es)/\Hid (Ref.Img N xs ns)/\Hid (Eqv.Rest f (ts.drop i) terms alts)/\
  Hid (∀ i j,Ref.altR tx F (t0 :: alts0) i j↔A i j\/(∃ m,N i m/\Sm.q7 (Ref.MM tx F) terms m j)\/∃ t∈alts,Ref.MM tx (F+1) t i j)) (fun _ _ k _=>ts.length-(intOf k).toNat)
 case atStart=>
  refine ⟨0,List.replicate xs.length false,xs,_,_,t0.kids,alts0,rfl,by omega,ze.refl _ _,HM,(zb HX).f.keep (zb HO0),Ref.Img.none xs,Ref.Img.id xs,HR0,fun i j=>?_⟩;have e:Ref.MM tx (F+1) t0 i j↔Sm.q7 (Ref.MM tx F) t0.kids i j:=by
   show Sm.M _ _ (F+1) t0 i j↔_;unfold Sm.M;rw [if_neg (by rw [zb H60];decide),if_neg (by rw [zb H60];decide),if_pos (zb H60)];rfl
  constructor
  ·rintro ⟨t,ht,hm⟩;rcases qP.1 ht with rfl |ht
   ·exact .inr (.inl ⟨i,rfl,e.1 hm⟩)
   ·exact .inr (.inr ⟨t,ht,hm⟩)
  ·rintro (h |⟨m,rfl,h⟩ |⟨t,ht,hm⟩)
   ·exact h.elim
   ·exact ⟨t0,by simp,e.2 h⟩
   ·exact ⟨t,by simp [ht],hm⟩
 case round=>
  obtain ⟨i,es,ns,A,N,terms,alts,rfl,hi,HK,HBA,HBN,HIA,HIN,HRE,HEQ⟩:=hrel;have HK0:Hid (Q8 w wr):=(zb HO0).trans (zb HK);obtain ⟨ga,na,ca,hsa⟩:∃ ga na ca,u7=Value.slice ga na ca:=by obtain ⟨g1,c1,h,_⟩:=zb HBA;exact ⟨_,_,_,h⟩
  subst hsa;obtain ⟨gn,nn,cn,hsn⟩:∃ ga na ca,u8=Value.slice ga na ca:=by obtain ⟨g1,c1,h,_⟩:=zb HBN;exact ⟨_,_,_,h⟩
  subst hsn;have hal:es.length<=901:=by have:=(zb HIA).1;omega
  by_cases hlt:i<ts.length
  ·have hkc:=((zb H).only (zb HK0)).row.kind i hlt;have hds:=Ref.zfB hlt;have hkg:=Ref.zfh hlt;by_cases h5:Ref.wm ts i=5
   ·have h5':(Ref.wm ts i == 5)=true:=(by simp [h5]);have hre:=zb HRE;rw [hds] at hre;obtain ⟨rfl,hCC⟩:=hre.bar (by rw [<-hkg];exact h5);obtain ⟨t1,alts1,rfl,h61,hR1⟩:=hCC.open;have HR1:=zc hR1;have H61:=zc h61;clear hre hCC hR1 h61 h5 hds hkg;go_wp2_with (go_at_call 154;refine (zeI _ _ es ns _ (zb HBA) (zb HBN) ((zb HIN).1.trans (zb HIA).1.symm) (by omega)).mono ?_;rintro e w2 ⟨sv,rfl,hb2,hO2⟩;have HB2:=zc hb2;have HO2:=zc hO2;clear hb2 hO2);refine ⟨⟨i+1,_,xs,_,_,t1.kids,alts1,by go_num,by omega,(zb HK).trans (zb HO2),HB2,((zb HX).f.keep (zb HK0)).keep (zb HO2),(zb HIA).or (zb HIN),Ref.Img.id xs,HR1,fun i j=>?_⟩,by simp [intOf];omega⟩;rw [zb HEQ i j];have e:Ref.MM tx (F+1) t1 i j↔Sm.q7 (Ref.MM tx F) t1.kids i j:=by
     show Sm.M _ _ (F+1) t1 i j↔_;unfold Sm.M;rw [if_neg (by rw [zb H61];decide),if_neg (by rw [zb H61];decide),if_pos (zb H61)];rfl
    constructor
    ·rintro (h |⟨m,h,rfl⟩ |⟨t,ht,hm⟩)
     ·exact .inl (.inl h)
     ·exact .inl (.inr h)
     ·rcases qP.1 ht with rfl |ht
      ·exact .inr (.inl ⟨i,rfl,e.1 hm⟩)
      ·exact .inr (.inr ⟨t,ht,hm⟩)
    ·rintro ((h |h) |⟨m,rfl,h⟩ |⟨t,ht,hm⟩)
     ·exact .inl h
     ·exact .inr (.inl ⟨j,h,rfl⟩)
     ·exact .inr (.inr ⟨t1,by simp,e.2 h⟩)
     ·exact .inr (.inr ⟨t,by simp [ht],hm⟩)
   ·have h5':(Ref.wm ts i == 5)=false:=(by simp [h5]);have hre:=zb HRE;rw [hds] at hre;obtain ⟨T,more,a,rem,rfl,hdr,hA,hRR⟩:=hre.term (by rw [<-hkg];exact h5);rw [<-hds] at hdr;have HR1:=zc hRR;have hEQ1:Hid (∀ i j,Ref.altR tx F (t0 :: alts0) i j↔A i j\/(∃ m,(∃ p,N i p/\Ref.MM tx F T p m)/\Sm.q7 (Ref.MM tx F) more m j)\/∃ t∈alts,Ref.MM tx (F+1) t i j):=fun i j=>by
     rw [zb HEQ i j];constructor
     ·rintro (h |⟨m,h,p,h1,h2⟩ |h)
      ·exact .inl h
      ·exact .inr (.inl ⟨p,⟨m,h,h1⟩,h2⟩)
      ·exact .inr (.inr h)
     ·rintro (h |⟨p,⟨m,h,h1⟩,h2⟩ |h)
      ·exact .inl h
      ·exact .inr (.inl ⟨m,h,p,h1,h2⟩)
      ·exact .inr (.inr h)
    have hci:¬cap=i:=(by omega);have hns:=(zb HIN).1.trans (zb HX).hx;have HNS:=zc hns;clear hre hRR h5 hds hkg hns;by_cases h7:T.kind=7
    ·obtain ⟨f',rfl⟩:∃ f',f=f'+1:=by
      cases f with
      |zero=>exact hA.elim
      |succ f'=>exact ⟨f',rfl⟩
     have hA7:∃ us q,a=us++[q]/\q.kind=6/\q.mn=T.a/\q.mx=T.b/\(T.kid.kind=5\/Eqv.leafK T.kid)/\Eqv.zer f' us T.kid:=by
      rcases hA with ⟨k0,_⟩ |⟨t,_,_,⟨_,k4⟩,_⟩ |⟨k5,_⟩ |⟨_,us,q,r⟩
      ·omega
      ·omega
      ·omega
      ·exact ⟨us,q,r⟩
     obtain ⟨us,q,rfl,hq6,hqn,hqx,hkd,hU⟩:=hA7;have hU2:=Eqv.zer.up f' (f'+1) us T.kid (by omega) hU;have hk7:T.kid.kind≠7:=(by rcases hkd with h |⟨_,h⟩<;>omega);rw [ql] at hdr;have hdr2:ts.drop i=us++(q :: rem):=hdr;have hE:=Eqv.zfQ hU2 hk7 hdr2;have hlen:ts.length-i=us.length+(rem.length+1):=(by rw [<-ZX,hdr2,yS];simp);have hat:(ts.drop i).take us.length=us:=(by rw [hdr2];simp);have hrem:ts.drop (i+us.length+1)=rem:=(by rw [Qh,<-Yw,hdr2];simp);have hk6:Ref.wm ts (i+us.length)=6:=(by rw [Eqv.kind_at hdr2];exact hq6);have hget:ts[i+us.length]?=some q:=(by rw [<-ZY,hdr2];simp);have htb:=zb HTB q (xP hget);obtain ⟨u,v,hav,_⟩:=hU.head;have ha1:1<=us.length:=(by rw [hav];simp);obtain ⟨F,rfl⟩:∃ F',F=F'+1:=⟨F-1,by have:=zb HF;omega⟩
     obtain ⟨E,hEE⟩:∃ E,E=i+us.length:=⟨_,rfl⟩
     rw [<-hEE] at hE hk6 hrem hget;have HE:=zc hE;have HN:Hid (Ref.atomNext ts i=((E:Nat):Int)+1):=(by show _=_;unfold Ref.atomNext;rw [hE,if_pos ⟨by omega,by rw [vK];exact hk6⟩]);obtain ⟨pa,pn,pc,⟨z0,z1,z2,z3,z4,z5⟩,_⟩:=((zb H).only (zb HK0)) E q hget;have hMX:∀ i j,(∃ k:Nat,q.mn<=k/\(q.mx = -1\/(k:Int)<=q.mx)/\Sm.pow (Ref.MM tx F T.kid) k i j)↔Ref.MM tx (F+1) T i j:=fun i j=>by
      show _↔Sm.M _ _ (F+1) T i j;unfold Sm.M;rw [if_neg (by omega),if_neg (by omega),if_neg (by omega),if_pos h7,hqn,hqx];rfl
     have hOne:=one_at (zb HO) (F:=F) (by have:=zb HF;omega) ((zb H).only (zb HK0)) hl hc hEE (by omega) hat hU2 hk7 ((zb HX).c.keep (zb HK0)) (zb HX).hl;have HZ:Hid (∀ W',Q8 wr W'->Calls prog 155 #[.slice (some ⟨g,off+i*6,none⟩) (E-i) (cap-i),.agg #[.int .i64 q.kind,.bool q.neg,.slice pa pn pc,.int .i64 q.c,.int .i64 q.mn,.int .i64 q.mx],cv,.slice gn nn cn] W' fun x w'=>(∃ sv zs,x = .returned sv/\BoolRow w' sv zs/\Ref.Img (Ref.MM tx (F+1) T) ns zs)/\Q8 wr w'/\
       w'.cell? ⟨g,off+E*6,none⟩=some (.int .i64 q.kind)/\w'.cell? ⟨g,off+E*6+1,none⟩=some (.bool q.neg)/\w'.cell? ⟨g,off+E*6+2,none⟩=some (.slice pa pn pc)/\w'.cell? ⟨g,off+E*6+3,none⟩=some (.int .i64 q.c)/\w'.cell? ⟨g,off+E*6+4,none⟩=some (.int .i64 q.mn)/\w'.cell? ⟨g,off+E*6+5,none⟩=some (.int .i64 q.mx)):=fun W' hW'=>by
      have hlu:E-i=us.length:=(by omega);have hone2:OneIs g (off+i*6) us (cap-i) cv tx (Ref.MM tx F T.kid) W':=fun fv' ys w' hk hb hyl=>by
       have:=hOne fv' ys w' (hW'.trans hk) hb hyl
       rwa [hlu] at this
      rw [hlu];refine (many_any hone2 (Ref.MM_le tx F T.kid) ((zb HBN).keep hW') (zb HX).hl (zb HNS) htb.1 htb.2.1 htb.2.2.1 htb.2.2.2.1 htb.2.2.2.2).mono ?_;rintro e w' ⟨sv,zs,rfl,b1,b2,b3⟩;have k:=hW'.trans b3;exact ⟨⟨sv,zs,rfl,b1,b2.congr hMX⟩,k,zg k _ _ z0 (fun f=>f),zg k _ _ z1 (fun f=>f),zg k _ _ z2 (fun f=>f),zg k _ _ z3 (fun f=>f),zg k _ _ z4 (fun f=>f),zg k _ _ z5 (fun f=>f)⟩
     have HHR:=zc ((zb H).only (zb HK0)).row;have HRM:Hid (Eqv.Rest (f'+1) (ts.drop (E+1)) more alts):=(by rw [hrem];exact HR1);have hiE:i<E:=(by omega);have hEl:E<ts.length:=(by omega);have hb0:(0:Int)<=((i:Nat):Int):=(by omega);have hb1:((i:Nat):Int)<=((E:Nat):Int):=(by omega);have hb2:((E:Nat):Int)<=((cap:Nat):Int):=(by omega);have hb3:((E:Nat):Int)<=((ts.length:Nat):Int):=(by omega);have hb4:((E:Nat):Int)<((ts.length:Nat):Int):=(by omega);clear hE hlen hat hrem hk6 hav ha1 hEE hA h7 hdr hdr2 hU hU2 hkd hk7 hqn hqx hq6 hget htb hMX hOne;generalize q.mn=qmn at *;generalize q.mx=qmx at *;generalize q.c=qc at *;generalize q.neg=qng at *;generalize q.kind=qk at *;go_wp2_with (go_at_call 148;refine Q7 (atom_any g off cap ts i _ (zb HHR) hl hc hlt) ?_;rw [zb HE,zb HN]);go_region_held3 (fun w'=>w'.cell? ⟨g,off+E*6,none⟩=some (.int .i64 qk)/\w'.cell? ⟨g,off+E*6+1,none⟩=some (.bool qng)/\w'.cell? ⟨g,off+E*6+2,none⟩=some (.slice pa pn pc)/\w'.cell? ⟨g,off+E*6+3,none⟩=some (.int .i64 qc)/\w'.cell? ⟨g,off+E*6+4,none⟩=some (.int .i64 qmn)/\w'.cell? ⟨g,off+E*6+5,none⟩=some (.int .i64 qmx)) (go_keep)
      (first |(go_at_call 155;refine (zb HZ _ ((ze.refl _ _).drewN _)).mono ?_;rintro e w2 ⟨⟨sv,zs,rfl,hb2,hi2⟩,hO2,y0,y1,y2,y3,y4,y5⟩;have HB2:=zc hb2;have HI2:=zc hi2;have HO2:=zc hO2;clear hb2 hi2 hO2))
     go_wp2_with fail;exact ⟨⟨E+1,es,zs,A,_,more,alts,by go_num,by omega,(zb HK).trans (zb HO2),(zb HBA).keep (zb HO2),HB2,HIA,(zb HIN).comp (zb HI2) (Ref.MM_le tx (F+1) T),HRM,hEQ1⟩,by simp [intOf];omega⟩
    ·have hE:=Eqv.zfQ hA h7 hdr;have hlen:ts.length-i=a.length+rem.length:=(by rw [<-ZX,hdr,yS]);have hat:(ts.drop i).take a.length=a:=(by rw [hdr];simp);have hrem:ts.drop (i+a.length)=rem:=(by rw [<-Yw,hdr];simp);have hk6:Ref.wm ts (i+a.length)≠6:=(by rw [Eqv.kind_at hdr];exact (zb HR1).head6);obtain ⟨u,v,hav,_⟩:=hA.head;have ha1:1<=a.length:=(by rw [hav];simp);obtain ⟨E,hEE⟩:∃ E,E=i+a.length:=⟨_,rfl⟩
     rw [<-hEE] at hE hk6 hrem;have HE:=zc hE;have HN:Hid (Ref.atomNext ts i=((E:Nat):Int)):=(by show _=_;unfold Ref.atomNext;rw [hE,if_neg (fun hh=>hk6 (by have:=hh.2;rw [vK] at this;exact this))]);have HC:=zc (one_at (zb HO) (F:=F) (by have:=zb HF;omega) ((zb H).only (zb HK0)) hl hc hEE (by omega) hat hA h7 ((zb HX).c.keep (zb HK0)) (zb HX).hl _ ns wr (ze.refl _ _) (zb HBN) (zb HNS));have HHR:=zc ((zb H).only (zb HK0)).row;have HRM:Hid (Eqv.Rest f (ts.drop E) more alts):=(by rw [hrem];exact HR1);have hiE:i<E:=(by omega);have hEl:E<=ts.length:=(by omega);clear hE hlen hat hrem hk6 hav ha1 hEE hA h7 hdr;go_wp2_with (first
      |(go_at_call 148;refine Q7 (atom_any g off cap ts i _ (zb HHR) hl hc hlt) ?_;rw [zb HE,zb HN])
      |(go_at_call 156;refine (zb HC).mono ?_;rintro e w2 ⟨sv,zs,rfl,hb2,hi2,hO2⟩;have HB2:=zc hb2;have HI2:=zc hi2;have HO2:=zc hO2;clear hb2 hi2 hO2))
     exact ⟨⟨E,es,zs,A,_,more,alts,rfl,hEl,(zb HK).trans (zb HO2),(zb HBA).keep (zb HO2),HB2,HIA,(zb HIN).comp (zb HI2) (Ref.MM_le tx F T),HRM,hEQ1⟩,by simp [intOf];omega⟩
  ·obtain rfl:i=ts.length:=(by omega);have hre:=zb HRE;rw [List.drop_length] at hre;obtain ⟨rfl,rfl⟩:=hre.nil;go_wp2_with (go_at_call 154;refine (zeI _ _ es ns _ (zb HBA) (zb HBN) ((zb HIN).1.trans (zb HIA).1.symm) (by omega)).mono ?_;rintro e w2 ⟨sv,rfl,hb2,hO2⟩;have HB2:=zc hb2;have HO2:=zc hO2;clear hb2 hO2);go_ret;refine ⟨_,_,rfl,zb HB2,((zb HIA).or (zb HIN)).congr (fun i j=>?_),(zb HK0).trans (zb HO2)⟩;rw [zb HEQ i j];constructor
   ·rintro (h |h)
    ·exact .inl h
    ·exact .inr (.inl ⟨j,h,rfl⟩)
   ·rintro (h |⟨m,h,rfl⟩ |⟨t,ht,_⟩)
    ·exact .inl h
    ·exact .inr h
    ·cases ht
theorem ze9 {w:World}{base:Nat}:∀ (l:List Pt) (cs:List Value),PartsOK w base l cs->∀ (j:Nat) (p:Pt),l[j]?=some p->∃ v,cs[j*2]?=some (.bool p.neg)/\cs[j*2+1]?=some v/\SpansAt w base v p.spans
 | [],_,_,j,t,hj=>by simp at hj
 |u :: us,b :: v :: vs,h,0,t,hj=>by
  simp only [wh,Option.some.injEq] at hj;subst hj;obtain ⟨rfl,h1,_⟩:=h;exact ⟨v,rfl,rfl,h1⟩
 |u :: us,b :: v :: vs,h,j+1,t,hj=>by
  obtain ⟨x,z⟩:=ze9 us vs h.2.2 j t (by simpa using hj);exact ⟨x,by
   rw [show (j+1)*2=j*2+2 by omega];exact z⟩
 |_ :: _,[],h,_,_,_=>absurd h id
 |_ :: _,[_],h,_,_,_=>absurd h id
theorem PtRow.of {w:World}{base:Nat}{v:Value}{l:List Pt}(h:PartsAt w base v l):PtRow w v l:=by
 obtain ⟨cs,ho,hk⟩:=h;have hl:=zh ho;obtain ⟨h1,h2⟩:=ho;rcases h2 with ⟨rfl,h0⟩ |⟨g,cap,cur,rfl,hb,hg,hc,hm,hs,ht⟩
 ·exact .inl ⟨rfl,qg h0⟩
 ·refine .inr ⟨g,cap,rfl,hc,(hl g rfl).2,?_⟩;intro j p hj;obtain ⟨x,z0,z1,hx⟩:=ze9 l cs hk j p hj;obtain ⟨pa,pn,pc,rfl⟩:=zy hx;have hjl:j<l.length:=(yd.1 hj).1;have how:w.ownsRow base 336 2 (.slice (some ⟨g,0,none⟩) l.length cap) l.length cs:=⟨h1,.inr ⟨g,cap,cur,rfl,hb,hg,hc,hm,hs,ht⟩⟩
  exact ⟨pa,pn,pc,by rw [how.cellAt _ (by omega)];exact z0,by rw [how.cellAt _ (by omega)];exact z1,PairRow.of hx⟩
def TokSl (w:World)(v:Value)(ts:List Tok):Prop:=(v = .slice none 0 0/\ts=[])\/∃ g cap,v = .slice (some ⟨g,0,none⟩) ts.length cap/\ts.length<=cap/\TokFull w g 0 ts
theorem TokSl.keep {w w':World}{v:Value}{ts:List Tok}(h:TokSl w v ts)(k:Q8 w w'):TokSl w' v ts:=by
 rcases h with h |⟨g,cap,h1,h2,h3⟩
 ·exact .inl h
 ·exact .inr ⟨g,cap,h1,h2,h3.only k⟩
theorem zfk {w:World}{base:Nat}:∀ (l:List Tok) (cs:List Value),ToksOK w base l cs->∀ (j:Nat) (t:Tok),l[j]?=some t->∃ v,cs[j*6+2]?=some v/\PartsAt w base v t.parts
 | [],_,_,j,t,hj=>by simp at hj
 |u :: us,a0 :: a1 :: a2 :: a3 :: a4 :: a5 :: vs,h,0,t,hj=>by
  simp only [wh,Option.some.injEq] at hj;subst hj;exact ⟨a2,rfl,h.2.1⟩
 |u :: us,a0 :: a1 :: a2 :: a3 :: a4 :: a5 :: vs,h,j+1,t,hj=>by
  obtain ⟨v,z⟩:=zfk us vs h.2.2 j t (by simpa using hj);exact ⟨v,by
   rw [show (j+1)*6+2=j*6+2+6 by omega];exact z⟩
 |_ :: _,[],h,_,_,_=>absurd h id
 |_ :: _,[_],h,_,_,_=>absurd h id
 |_ :: _,[_,_],h,_,_,_=>absurd h id
 |_ :: _,[_,_,_],h,_,_,_=>absurd h id
 |_ :: _,[_,_,_,_],h,_,_,_=>absurd h id
 |_ :: _,[_,_,_,_,_],h,_,_,_=>absurd h id
theorem TokSl.of {w:World}{base:Nat}{v:Value}{l:List Tok}(h:ToksAt w base v l):TokSl w v l:=by
 have hr:=toks_row h;obtain ⟨cs,ho,hk⟩:=h;obtain ⟨h1,h2⟩:=ho;rcases h2 with ⟨rfl,h0⟩ |⟨g,cap,cur,rfl,hb,hg,hc,hm,hs,ht⟩
 ·exact .inl ⟨rfl,qg h0⟩
 ·refine .inr ⟨g,cap,rfl,hc,fun j t hj=>?_⟩;rcases hr with ⟨hh,_⟩ |⟨g',cap',hv,_,_,hrow⟩
  ·cases hh
  ·cases hv;obtain ⟨pa,pn,pc,z0,z1,z2,z3⟩:=hrow j t hj;obtain ⟨x,hx1,hx2⟩:=zfk l cs hk j t hj;have hjl:j<l.length:=(yd.1 hj).1;have how:w.ownsRow base 308 6 (.slice (some ⟨g,0,none⟩) l.length cap) l.length cs:=⟨h1,.inr ⟨g,cap,cur,rfl,hb,hg,hc,hm,hs,ht⟩⟩
   have e:w.cell? ⟨g,j*6+2,none⟩=some x:=(by rw [how.cellAt _ (by omega)];exact hx1);rw [jY] at z2;rw [z2] at e;cases e;exact ⟨pa,pn,pc,⟨z0,z1,by rw [jY];exact z2,z3⟩,PtRow.of hx2⟩
theorem ToksOK.base {w:World}{base base':Nat}(hb:base'<=base):∀ (l:List Tok) (cs:List Value),ToksOK w base l cs->ToksOK w base' l cs
 | [],[],_=>trivial
 |_t :: ts,_a0 :: _a1 :: _a2 :: _a3 :: _a4 :: _a5 :: vs,h=>⟨h.1,h.2.1.base hb,ToksOK.base hb ts vs h.2.2⟩
 | [],_ :: _,h=>h
 |_ :: _,[],h=>h
 |_ :: _,[_],h=>h
 |_ :: _,[_,_],h=>h
 |_ :: _,[_,_,_],h=>h
 |_ :: _,[_,_,_,_],h=>h
 |_ :: _,[_,_,_,_,_],h=>h
theorem ToksAt.base {w:World}{base base':Nat}{v:Value}{l:List Tok}(h:ToksAt w base v l)(hb:base'<=base):ToksAt w base' v l:=by
 obtain ⟨cs,h1,h2⟩:=h;exact ⟨cs,xd h1 hb,ToksOK.base hb l cs h2⟩
theorem zgt (z:Int)(hs:s.size<=200)(hc:(Ref.zo s).2<0)(he:(Ref.tokensR s).2.1=0)(hb:∀ t∈(Ref.tokensR s).1,Ref.TokB t)(hz:Ref.SizeIs (Ref.tokensR s).1 0 z)(h0:z<300)(h1:0<=z) :
  Calls prog 53 #[.string s] w fun x w'=>∃ g,x = .returned (.tuple #[.pointer (some ⟨g,0,none⟩),.int .i64 0,.int .i64 0])/\Q8 w w'/\w.heap.size<=g/\w'.cell? ⟨g,1,none⟩=some (.int .i64 (z+1))/\∃ v,w'.cell? ⟨g,0,none⟩=some v/\ToksAt w' w.heap.size v (Ref.tokensR s).1:=by
 have HG:=zc (Ref.zeA hc);have HB:=zc hb;have HZ:=zc hz;have HL:=zc (Ref.ze3 s);clear hb hz;generalize hA:(Ref.zo s).2=A at *;generalize hP:(Ref.tokensR s).2.2=P at *;generalize hT:(Ref.tokensR s).1=ts at *;go_enter func53,ntmps53;go_wp2_with (first |(go_at_call 101;refine (zey s _ (by omega)).mono ?_;rintro e w1 ⟨v,rfl,hv,hO1⟩;rw [hA];obtain ⟨pa,pn,pc,rfl⟩:=zy hv) |(go_at_call 102;refine (zfg s _ (by omega) (zb HG)).mono ?_;rintro e w2 ⟨v2,rfl,hv2,hO2⟩;rw [he,hP];rw [hT] at hv2;obtain ⟨qa,qn,qc,rfl⟩:=zy hv2.choose_spec.1;have HV2:=zc hv2;clear hv2) |(go_at_call 103;refine (zf2 (zb HV2) (by have:=zb HL;omega) (zb HB) (zb HZ)).mono ?_;rintro e w3 ⟨rfl,hO3⟩));go_ret3;exact ⟨_,rfl,((hO1.trans hO2).trans hO3).alloc _,((hO1.trans hO2).trans hO3).size,zm _ _ rfl _ _ 1 _ rfl,_,zm _ _ rfl _ _ 0 _ rfl,((zb HV2).base (by have:=hO1.size;omega)).keep (hO3.alloc _) (fun _ _ _ f=>f)⟩
theorem thr_all:∀ f,OneOK f/\ThrOK f
 |0=>⟨one_zero,thr_step 0 one_zero⟩
 |f+1=>⟨one_step f (thr_all f).2,thr_step (f+1) (one_step f (thr_all f).2)⟩
theorem thr_nil {kids:List Tree}{cv fv:Value}{tx:List (Int×Int)}{xs:List Bool}{w:World}(hC:Eqv.TokC (Eqv.zer f) [] kids)(hX:Ctx w cv fv tx xs) :
  Calls prog 111 #[.slice none 0 0,cv,fv] w (Goes1 w xs (Ref.altR tx F kids)):=by
 obtain ⟨t0,alts0,rfl,h6,hR⟩:=hC.open;obtain ⟨hk,rfl⟩:=hR.nil;have hxl:xs.length<=901:=by have:=hX.hx;have:=hX.hl;omega
 have hmk:=jt xs.length (by omega);have HM:Hid (BoolRow (w.alloc (.cells (madeCells #[.bool false] xs.length) 4)) (.slice (some ⟨w.heap.size,0,none⟩) xs.length xs.length) (List.replicate xs.length false)):=by
  have:=(xQ.made w xs.length).row (by simp) (cap:=xs.length) (by simp);exact zc (by simpa using this)
 have HO0:Hid (Q8 w (w.alloc (.cells (madeCells #[.bool false] xs.length) 4))):=(ze.refl _ _).alloc _;have HB:Hid (BoolRow (w.alloc (.cells (madeCells #[.bool false] xs.length) 4)) fv xs):=hX.f.keep (zb HO0);obtain ⟨gx,cx,rfl,_⟩:=hX.f;have HE:Hid (∀ i j,(False\/i=j)↔Ref.altR tx F [t0] i j):=fun i j=>by
  have e:Ref.MM tx (F+1) t0 i j↔Sm.q7 (Ref.MM tx F) t0.kids i j:=by
   show Sm.M _ _ (F+1) t0 i j↔_;unfold Sm.M;rw [if_neg (by rw [h6];decide),if_neg (by rw [h6];decide),if_pos h6];rfl
  rw [hk] at e;constructor
  ·rintro (h |h)
   ·exact h.elim
   ·exact ⟨t0,by simp,e.2 h⟩
  ·rintro ⟨t,ht,hm⟩;simp at ht;subst ht;exact .inr (e.1 hm)
 clear hX hC h6 hR hk;go_enter func111,ntmps111;go_wp2_with fail;refine wp_loop_rounds 1 ?_;rw [rounds_succ];go_wp2_with (go_at_call 154;refine (zeI _ _ _ xs _ (zb HM) (zb HB) (by simp) (by simp;omega)).mono ?_;rintro e w2 ⟨sv,rfl,hb2,hO2⟩;have HB2:=zc hb2;have HO2:=zc hO2;clear hb2 hO2);go_ret;exact ⟨sv,_,rfl,zb HB2,((Ref.Img.none xs).or (Ref.Img.id xs)).congr (zb HE),(zb HO0).trans (zb HO2)⟩
theorem zgG {kids:List Tree}{ts:List Tok}{v cv fv:Value}{tx:List (Int×Int)}{xs:List Bool}{w:World}(hC:Eqv.TokC (Eqv.zer 22) ts kids)(hB:∀ t∈ts,Ref.TokB t)(hl:ts.length<=1000)(h:TokSl w v ts)(hX:Ctx w cv fv tx xs) :
  Calls prog 111 #[v,cv,fv] w (Goes1 w xs (Ref.altR tx 67 kids)):=by
 rcases h with ⟨rfl,rfl⟩ |⟨g,cap,rfl,hc,hF⟩
 ·exact thr_nil hC hX
 ·exact (thr_all 22).2 67 g 0 cap ts kids cv fv tx xs w (by omega) hC hB hF hl hc hX
namespace Ref
theorem Qm (s:ByteArray):∀ (f p:Nat) (acc:List (Int×Int)),acc.length<=p->p<=s.size->(xL s f p acc).1.length<=s.size
 |0,p,acc,h,hp=>by simp only [xL];omega
 |f+1,p,acc,h,hp=>by
  by_cases hlt:p<s.size
  ·cases ho:oneF s p with
   |none=>rw [jx hlt ho];show acc.length<=_;omega
   |some nc=>
    obtain ⟨n,c⟩:=nc;rw [qW hlt ho];have:=qC ho;exact Qm s f (p+n) _ (by simp;omega) (by omega)
  ·rw [vE hlt];show acc.length<=_;omega
theorem xh:(zo s).1.length<=s.size:=Qm s _ 0 [] (by simp) (by omega)
end Ref
theorem zhF (hs:400<s.size) :
  Calls prog 110 #[.string s] w fun x w'=>x = .returned (.tuple #[.slice none 0 0,.int .i64 2,.int .i64 400])/\Q8 w w':=by
 go_enter func110,ntmps110;go_wp2_with fail;go_ret3;exact ⟨rfl,ze.refl _ _⟩
theorem text_bad (hs:s.size<=400)(hc:0<=(Ref.zo s).2) :
  Calls prog 110 #[.string s] w fun x w'=>x = .returned (.tuple #[.slice none 0 0,.int .i64 1,.int .i64 (Ref.zo s).2])/\Q8 w w':=by
 have HC:=zc (zey s w hs);generalize (Ref.zo s).2=b at *;go_enter func110,ntmps110;go_wp2_with (go_at_call 101;refine (zb HC).mono ?_;rintro e w1 ⟨v,rfl,hv,hO1⟩;obtain ⟨pa,pn,pc,rfl⟩:=zy hv;have HO1:=zc hO1;clear hv hO1);go_ret3;exact ⟨rfl,zb HO1⟩
theorem text_ok (hs:s.size<=400)(hc:(Ref.zo s).2<0) :
  Calls prog 110 #[.string s] w fun x w'=>∃ pa pc,x = .returned (.tuple #[.slice pa (Ref.zo s).1.length pc,.int .i64 0,.int .i64 0])/\PairRow w' (.slice pa (Ref.zo s).1.length pc) (Ref.zo s).1/\Q8 w w':=by
 have HC:=zc (zey s w hs);generalize (Ref.zo s).2=b at *;go_enter func110,ntmps110;go_wp2_with (go_at_call 101;refine (zb HC).mono ?_;rintro e w1 ⟨v,rfl,hv,hO1⟩;have hp:=PairRow.of hv;obtain ⟨pa,pc,rfl⟩:=hp.len;have HP:=zc hp;have HO1:=zc hO1;clear hv hO1 hp);go_ret3;exact ⟨pa,pc,rfl,zb HP,zb HO1⟩
structure PatR (w:World)(p:Nat)(ts:List Tok)(kids:List Tree):Prop where
 c0:∃ pa pc,w.cell? ⟨p,0,none⟩=some (.slice pa ts.length pc)/\TokSl w (.slice pa ts.length pc) ts
 toks:Eqv.TokC (Eqv.zer 22) ts kids
 tb:∀ t∈ts,Ref.TokB t
 len:ts.length<=1000
def zM (js:List Nat):List Value:=js.map fun (j:Nat)=>Value.int .i64 (j:Int)
theorem Tryz.infoInt:(prog.info? 3).map (fun i=>(i.zero,i.size,i.bytes))=some (some (.int .i64 0),1,8):=by kernel_rfl
theorem rends_text (i k a:Int)(w:World)(hk:k≠0)(hT:Calls prog 110 #[.string s] w fun x w'=>x = .returned (.tuple #[.slice none 0 0,.int .i64 k,.int .i64 a])/\Q8 w w') :
  Calls prog 58 #[.pointer (some ⟨p,0,none⟩),.string s,.int .i64 i] w fun x w'=>x = .returned (.tuple #[.slice none 0 0,.int .i64 k,.int .i64 a])/\Q8 w w':=by
 have HT:=zc hT;have hkb:(k != 0)=true:=by simp [hk]
 clear hT hk;go_enter func58,ntmps58;go_wp2_with (go_at_call 110;refine (zb HT).mono ?_;rintro e w1 ⟨rfl,hO1⟩);go_ret3;exact ⟨rfl,hO1⟩
theorem zfR (hk:k≠0)(hT:Calls prog 110 #[.string s] w fun x w'=>x = .returned (.tuple #[.slice none 0 0,.int .i64 k,.int .i64 a])/\Q8 w w') :
  Calls prog 57 #[.pointer (some ⟨p,0,none⟩),.string s] w fun x w'=>x = .returned (.tuple #[.bool false,.int .i64 k,.int .i64 a])/\Q8 w w':=by
 have HT:=zc hT;have hkb:(k != 0)=true:=by simp [hk]
 clear hT hk;go_enter func57,ntmps57;go_wp2_with (go_at_call 110;refine (zb HT).mono ?_;rintro e w1 ⟨rfl,hO1⟩);go_ret3;exact ⟨rfl,hO1⟩
theorem rfind_ok (ts:List Tok)(kids:List Tree)(w:World)(hP:PatR w p ts kids)(hs:s.size<=400)(hc:(Ref.zo s).2<0) :
  Calls prog 57 #[.pointer (some ⟨p,0,none⟩),.string s] w fun x w'=>∃ b:Bool,x = .returned (.tuple #[.bool b,.int .i64 0,.int .i64 0])/\(b=true↔∃ i j,i<=(Ref.zo s).1.length/\j<=(Ref.zo s).1.length/\Ref.altR (Ref.zo s).1 67 kids i j)/\Q8 w w':=by
 have HT:=zc (text_ok s w hs hc);have hlen:(Ref.zo s).1.length<=400:=yZ (Ref.xh s) hs;obtain ⟨qa,qc,hq0,hq1⟩:=hP.c0;have HP:=zc hP;have HQ:=zc hq1;have HQ0:=zc hq0;clear hP hc hq1 hq0;generalize (Ref.zo s).1=tx at *;have hmk:=jt (tx.length+1) (by omega);simp only [Int.natCast_add,Int.natCast_one] at hmk;go_enter func57,ntmps57;go_wp2_with (go_at_call 110;refine (zb HT).mono ?_;rintro e w1 ⟨pa,pc,rfl,hp1,hO1⟩;have HP1:=zc hp1;have HO1:=zc hO1;clear hp1 hO1);clear hmk;have HM:=zc (xQ.made w1 (tx.length+1));have HO2:Hid (Q8 w1 (w1.alloc (.cells (madeCells #[.bool false] (tx.length+1)) 4))):=(ze.refl _ _).alloc _;have hs0:w1.heap.size<(w1.alloc (.cells (madeCells #[.bool false] (tx.length+1)) 4)).heap.size:=by simp
 generalize w1.alloc (.cells (madeCells #[.bool false] (tx.length+1)) 4)=W at *;go_loopw [11] (fun k wr=>∃ n:Nat,k = .int .i64 n/\n<=tx.length+1/\Hid (ze (fun g=>g=w1.heap.size) W wr)/\Hid (xQ wr w1.heap.size (List.replicate n true++List.replicate (tx.length+1-n) false))) (fun k _=>tx.length+1-(intOf k).toNat)
 case atStart=>exact ⟨0,rfl,by omega,ze.refl _ _,by simpa using HM⟩
 case round=>
  obtain ⟨n,rfl,hn,HK,HB⟩:=hrel;by_cases hlt:n<tx.length+1
  ·have hown:=zb HB;have hg:(List.replicate n true++List.replicate (tx.length+1-n) false)[n]?=some false:=by
    rw [jj (by simp),XD,kh,if_pos (by omega)]
   have c1:=hown.c n false hg;have f1:=hown.f n false hg;have hset:Hid ((List.replicate n true++List.replicate (tx.length+1-n) false).set n true=List.replicate (n+1) true++List.replicate (tx.length+1-(n+1)) false):=by
    show _=_;rw [Xz _ _ (by simp),XD,Xg,show tx.length+1-n=(tx.length+1-(n+1))+1 by omega,List.replicate_succ,List.replicate_succ'];simp
   clear hown hg;go_wp2_with fail;exact ⟨⟨n+1,by go_num,by omega,(zb HK).setCell (.inl rfl) _,by rw [<-zb hset];exact (zb HB).set n true⟩,by simp [intOf];omega⟩
  ·obtain rfl:n=tx.length+1:=(by omega);have hO3:Q8 w1 wr:=(zb HO2).laterB (zb HK) (fun g hg=>by omega);have hO4:Q8 w wr:=(zb HO1).trans hO3;have hcell:=zg hO4 _ _ (zb HQ0) (fun f=>f);have hrow:BoolRow wr (.slice (some ⟨w1.heap.size,0,none⟩) (tx.length+1) (tx.length+1)) (List.replicate (tx.length+1) true):=by
    have:=(zb HB).row (by have:=(zb HK).size;omega) (cap:=tx.length+1) (by simp);simpa using this
   have HR:=zc hrow;have HO3:=zc hO3;have HO4:=zc hO4;clear hrow hO3 hO4;go_wp2_with (go_at_call 111;refine (zgG (zb HP).toks (zb HP).tb (zb HP).len ((zb HQ).keep (zb HO4)) ⟨(zb HP1).keep (zb HO3),zb HR,by omega,by simp⟩).mono ?_;rintro e w2 ⟨sv2,ys,rfl,hb2,hi2,hO2⟩;have HB2:=zc hb2;have HI2:=zc hi2;have HO5:=zc ((zb HO4).trans hO2);clear hb2 hi2 hO2);have hys:ys.length=tx.length+1:=(by have:=(zb HI2).1;simpa using this);have HYS:=zc hys;have hyl:ys.length<=401:=(by omega);clear hys;obtain ⟨gy,cy,rfl,hcy,hgy,hyc⟩:=(zb HB2)
   have HYC:=zc hyc;clear hyc;have HIFF:Hid ((∃ j:Nat,ys[j]?=some true)↔∃ i j,i<=tx.length/\j<=tx.length/\Ref.altR tx 67 kids i j):=by
    constructor
    ·rintro ⟨j,hj⟩;obtain ⟨h1,i,h2,h3⟩:=((zb HI2).2 j).1 hj;have:=(yd.1 h2).1;simp at h1 this;exact ⟨i,j,by omega,by omega,h3⟩
    ·rintro ⟨i,j,h1,h2,h3⟩;exact ⟨j,((zb HI2).2 j).2 ⟨by simp;omega,i,by rw [kh,if_pos (by omega)],h3⟩⟩
   go_loopw [13] (fun k wr=>∃ n:Nat,k = .int .i64 n/\n<=ys.length/\Hid (Q8 w2 wr)/\Hid (∀ j:Nat,j<n->¬ys[j]?=some true)) (fun k _=>ys.length-(intOf k).toNat)
   case atStart=>exact ⟨0,rfl,by omega,ze.refl _ _,fun j hj=>by omega⟩
   case round=>
    obtain ⟨n,rfl,hn,HK6,HN⟩:=hrel;by_cases hlt:n<ys.length
    ·have hc1:=zg (zb HK6) _ _ (zb HYC n ys[n] (zD hlt)) (fun f=>f);have hget:ys[n]?=some ys[n]:=zD hlt;cases hb:ys[n]
     ·rw [hb] at hc1 hget;have HN1:Hid (∀ j:Nat,j<n+1->¬ys[j]?=some true):=fun j hj e=>by
       by_cases ej:j=n
       ·subst ej;rw [hget] at e;cases e
       ·exact zb HN j (by omega) e
      clear hb hget;go_wp2_with fail;exact ⟨⟨n+1,by go_num,by omega,HK6,HN1⟩,by simp [intOf];omega⟩
     ·rw [hb] at hc1 hget;have HG:=zc hget;clear hb hget;go_wp2_with fail;go_ret3;exact ⟨true,rfl,⟨fun _=>(zb HIFF).1 ⟨n,zb HG⟩,fun _=>rfl⟩,(zb HO5).trans (zb HK6)⟩
    ·go_wp2_with fail;go_ret3;refine ⟨false,rfl,⟨fun h=>(by cases h),fun h=>?_⟩,(zb HO5).trans (zb HK6)⟩;obtain ⟨j,hj⟩:=(zb HIFF).2 h;exact absurd hj (zb HN j (by have:=(yd.1 hj).1;omega))
end
section
open Sm (Tree)
namespace Eqv
theorem tokS_all {A:List Tok->Tree->Prop}{Q:Tree->Prop}(h:∀ a t,A a t->Q t):∀ (ts:List Tok) (l:List Tree),TokS A ts l->∀ t∈l,Q t
 |_,[],_,t,ht=>by cases ht
 |ts,x :: r,hh,t,ht=>by
  obtain ⟨a,b,_,h1,h2⟩:=hh;rcases qP.1 ht with rfl |ht
  ·exact h a t h1
  ·exact tokS_all h b r h2 t ht
theorem tokP_all {A:List Tok->Tree->Prop}:∀ (ts:List Tok) (l:List Tree),TokP A ts l->∀ t∈l,t.kind=6/\∃ a,TokS A a t.kids
 |_,[],_,t,ht=>by cases ht
 |ts,x :: r,hh,t,ht=>by
  obtain ⟨a,b,bar,_,_,h3,h4,h5⟩:=hh;rcases qP.1 ht with rfl |ht
  ·exact ⟨h3,a,h4⟩
  ·exact tokP_all b r h5 t ht
theorem tokC_all {A:List Tok->Tree->Prop}{ts:List Tok}{l:List Tree}(h:TokC A ts l):l≠[]/\∀ t∈l,t.kind=6/\∃ a,TokS A a t.kids:=by
 obtain ⟨pre,fin,init,last,_,rfl,h1,h2,h3⟩:=h;refine ⟨by simp,fun t ht=>?_⟩;rcases qe.1 ht with ht |ht
 ·exact tokP_all _ _ h1 t ht
 ·obtain rfl:=xf.1 ht;exact ⟨h2,fin,h3⟩
end Eqv
theorem tok_wf:∀ (f F:Nat) (ts:List Tok) (T:Tree),Eqv.zer f ts T->Sm.WF F T->Sm.WF (3*f+1) T
 |0,_,_,_,h,_=>h.elim
 |_+1,0,_,_,_,h=>h.elim
 |f+1,F+1,ts,T,h,hw=>by
  rw [show 3*(f+1)+1=(3*f+3)+1 by omega];have leaf:T.kind<=4->Sm.WF ((3*f+3)+1) T:=fun hk=>⟨fun e=>by omega,fun e=>by omega,fun e=>by omega⟩
  rcases h with ⟨h1,_⟩ |⟨t,_,_,h1⟩ |⟨h1,o,c,us,_,_,_,_,h6⟩ |⟨h1,us,q,_,_,_,_,_,h7⟩
  ·exact leaf (by omega)
  ·exact leaf h1.1.2
  ·obtain ⟨h2,h3⟩:=Eqv.tokC_all h6;refine ⟨fun _=>h2,fun _ t ht=>?_,fun e=>by omega⟩;obtain ⟨k1,a,k2⟩:=h3 t ht;have hwt:=hw.2.1 (.inl h1) t ht;show Sm.WF ((3*f+2)+1) t;refine ⟨fun e=>by omega,fun _ u hu=>?_,fun e=>by omega⟩;cases F with
   |zero=>exact hwt.elim
   |succ F=>
    have hwu:=hwt.2.1 (.inr k1) u hu;obtain ⟨b,hb⟩:=Eqv.tokS_all (Q:=fun t=>∃ b,Eqv.zer f b t) (fun a t h=>⟨a,h⟩) a t.kids k2 u hu;exact Sm.WF.up (tok_wf f F b u hb hwu) (by omega)
  ·refine ⟨fun e=>by omega,fun e=>by omega,fun _=>⟨?_,(hw.2.2 h1).2⟩⟩;exact Sm.WF.up (tok_wf f F us T.kid h7 (hw.2.2 h1).1) (by omega)
theorem tokC_wf {ts:List Tok}{T:Tree}(h:Eqv.TokC (Eqv.zer 22) ts T.kids)(h5:T.kind=5)(hw:Sm.WF F T):Sm.WF 69 T:=by
 obtain ⟨h2,h3⟩:=Eqv.tokC_all h;cases F with
 |zero=>exact hw.elim
 |succ F=>
  refine ⟨fun _=>h2,fun _ t ht=>?_,fun e=>by omega⟩;obtain ⟨k1,a,k2⟩:=h3 t ht;have hwt:=hw.2.1 (.inl h5) t ht;show Sm.WF (67+1) t;refine ⟨fun e=>by omega,fun _ u hu=>?_,fun e=>by omega⟩;cases F with
  |zero=>exact hwt.elim
  |succ F=>
   obtain ⟨b,hb⟩:=Eqv.tokS_all (Q:=fun t=>∃ b,Eqv.zer 22 b t) (fun a t h=>⟨a,h⟩) a t.kids k2 u hu;exact tok_wf 22 F b u hb (hwt.2.1 (.inr k1) u hu)
theorem prg_altR {ts:List Tok}{T:Tree}(h:Eqv.TokC (Eqv.zer 22) ts T.kids)(h5:T.kind=5)(hw:Sm.WF F T)(l:List (Int×Int))(i j:Nat) :
  Sm.Goes (Ref.lfT l) (Ref.ahT l) (Sm.prg F T).2 (Sm.prg F T).1 i 0 j↔Ref.altR l 67 T.kids i j:=by
 rw [Sm.QT hw];have e:=Sm.M_any (lf:=Ref.lfT l) (ah:=Ref.ahT l) hw (tokC_wf h h5 hw) i j;rw [<-e];show (if T.kind=0 then _ else if T.kind=5 then ∃ t∈T.kids,Sm.M (Ref.lfT l) (Ref.ahT l) 68 t i j else _)↔_;rw [if_neg (by omega),if_pos h5];exact Iff.rfl
end
end Go.Proofs.YtcgleficedipkaaGreatDoor
