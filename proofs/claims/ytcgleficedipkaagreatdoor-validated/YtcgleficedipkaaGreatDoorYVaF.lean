/- The document's Validate. -/
import Derived.Test.YtcgleficedipkaaGreatDoorYVaAVaH
namespace Go.Proofs.YtcgleficedipkaaGreatDoor
open Option renaming none->U,some->I
open Value renaming int->M,slice->K,bool->C,string->Uc,tuple->Ue,agg->Uf
open IntKind renaming i64->J
open Bool renaming false->Z,true->G
open Go renaming World->E,Value->Y,Calls->Uh
open Go.RowKit renaming Hid->H
open Or renaming inr->O,inl->Q
open Ending renaming returned->R
open Obj renaming cells->Ub
open And renaming intro->Ur
section
open Go.RowKit
set_option maxHeartbeats 8000000
set_option maxRecDepth 1000000
theorem Tryz.infoFl:(Tryz.prog.info? 49).map (λi=>(i.zero,i.size,i.bytes))=I (I (Uf #[M J 0,M J 0]),2,16):=om
theorem Vs {w:E}{f:Array Oper}{rest:List Oper}{o:Oper}{a:Act}{Q:Exit->Act->E->Prop}(l:o.guard=U)(s x:Operand)(p:o.op=.call { callee:=.builtin .append,args:=#[s,x],argTypes:=#[42,42] }) (base:Nat) (L:List (Int×Int)) (v:Y) (q:a.eval s=v) (e:w.ownsRow base 49 2 v L.length (yC L)) (k y:Int) (c:a.eval x=K (I ⟨w.heap.size,0,U⟩) 1 1) (F:L.length<=1000) (N:base<=w.heap.size)(h:∀d b,b.ownsRow base 49 2 d (L++[(k,y)]).length (yC (L++[(k,y)]))->(∀a0,ziE a0 w->a0.heap.size<=base->ziE a0 b)->wpList Tryz.prog f Q rest (a.put o.dst d) b):wpList Tryz.prog f Q (o :: rest) a (w.alloc (Ub #[M J k,M J y] 49)):=by obtain⟨z,m,r,t,u⟩:=info_parts Tryz.infoFl;refine yq _ l s x 42 p base 49 z (Uf #[M J 0,M J 0]) 2 16 Tryz.underlying42 m r t u rfl od v _ _ q (zgO e _) _ 1 1 [M J k,M J y] c rfl (cell_two_new _ _ _ _) (λx c=>by simp at c;rcases c with rfl|rfl<;>rfl) (by unfold maxLen;omega) oa ou (λd b g i _=>h d b ?_ λa0 B P=>?_);rw[zgK,Zr];exact g;exact(B.alloc _).grown i (λj n=>O (by have:=(zh e j n).1;omega))
theorem zdY (ns:List Nd)(ss:List Sc)(nv sv:Value)(w:World)(hN:vA w nv ns)(hS:vB w sv ss)(hn:ns.length<4611686018427387904)(hm:ss.length<4611686018427387904):Calls Tryz.prog 54 #[nv,sv] w (VAns ns ss w):=by
 have HN:=ze hN;have HS:=ze hS;obtain⟨na,nc,rfl,_⟩:=hN;obtain⟨sa,sc,rfl,_⟩:=hS;have HE:Hid (∀e a w',VErr ns ss e a->ziE w w'->VAns ns ss w (.returned (.tuple #[.slice none 0 0,.int .i64 e,.int .i64 a])) w'):=fun e a w' h k=>⟨k,.inl ⟨e,a,h,rfl⟩⟩
 go_enter Tryz.func54,Tryz.ntmps54;by_cases h0:ns.length=0
 ·have d0:((ns.length:Int) == 0)=true:=by simp[h0]
  have HF:=ze (zb HE 10 0 w (.inl ⟨h0,rfl,rfl⟩) (zf.refl _ _));clear h0;go_wp2_with fail;go_ret3;exact zb HF
 ·have d0:((ns.length:Int) == 0)=false:=beq_eq_false_iff_ne.2 oa;by_cases h1:40<ns.length
  ·have d1:(40:Int)<(ns.length:Int):=oa;have HF:=ze (zb HE 10 40 w (.inr (.inl ⟨h1,rfl,rfl⟩)) (zf.refl _ _));clear h0 h1;go_wp2_with fail;go_ret3;exact zb HF
  ·have d1:¬(40:Int)<(ns.length:Int):=oa;have hp:0<ns.length:=oa;have h40:ns.length<=40:=oa;clear h0 h1;go_wp2_with fail;go_loopw[9] (fun x wr=>∃i:Nat,x=.int .i64 i/\i<=ns.length/\Hid (ziE w wr)/\Hid (∀j,j<i->xI ns j)) (fun x _=>ns.length-(intOf x).toNat)
   case atStart=>exact⟨0,rfl,oa,zf.refl _ _,fun j hj=>absurd hj (zgV _)⟩
   case round=>
    obtain⟨i,rfl,hi,HR,HD⟩:=hrel;by_cases hlt:i<ns.length
    ·have HC:=ze (zgn ns _ i wr ((zb HN).keep (zb HR)) hlt h40);go_upto_region 11 with(go_at_call 104;refine(zb HC).mono ?_;rintro e w1 ⟨b,rfl,hb,hO1⟩;have HB:=ze hb;clear hb);cases b
     ·have HF:=ze (zb HE 10 i w1 (.inr (.inr (.inl ⟨hp,h40,i,hlt,zb HD,fun q=>Bool.noConfusion ((zb HB).2 q),rfl,rfl⟩))) ((zb HR).trans hO1));clear HB;go_wp2_with fail;go_ret3;exact zb HF
     ·have HD2:Hid (∀j,j<i+1->xI ns j):=fun j hj=>by
       by_cases c:j<i
       ·exact zb HD j c
       ·obtain rfl:j=i:=oa;exact(zb HB).1 rfl
      clear HB;go_wp2_with fail;exact⟨⟨i+1,by go_num,oa,(zb HR).trans hO1,zb HD2⟩,by simp[intOf];omega⟩
    ·obtain rfl:i=ns.length:=oa;generalize wr=wn at *;have HND:=ze (And.intro hp (And.intro h40 (zb HD)));by_cases m0:ss.length=0
     ·have e0:((ss.length:Int) == 0)=true:=(by simp[m0]);have HF:=ze (zb HE 11 0 wn (.inr (.inr (.inr ⟨zb HND,.inl ⟨m0,rfl,rfl⟩⟩))) (zb HR));clear m0;go_wp2_with fail;go_ret3;exact zb HF
     ·have e0:((ss.length:Int) == 0)=false:=beq_eq_false_iff_ne.2 oa;by_cases m1:8<ss.length
      ·have e1:(8:Int)<(ss.length:Int):=oa;have HF:=ze (zb HE 11 8 wn (.inr (.inr (.inr ⟨zb HND,.inr (.inl ⟨m1,rfl,rfl⟩)⟩))) (zb HR));clear m0 m1;go_wp2_with fail;go_ret3;exact zb HF
      ·have e1:¬(8:Int)<(ss.length:Int):=oa;have mp:0<ss.length:=oa;have m8:ss.length<=8:=oa;clear m0 m1;go_wp2_with fail;go_loopw[11] (fun x wr=>∃i:Nat,x=.int .i64 i/\i<=ss.length/\Hid (ziE w wr)/\Hid (∀(j:Nat) d,j<i->ss[j]?=some d->d.OK j ss.length)) (fun x _=>ss.length-(intOf x).toNat)
       case atStart=>exact⟨0,rfl,oa,HR,fun j _ hj=>absurd hj (zgV _)⟩
       case round=>
        clear HR HD;obtain⟨i,rfl,hi,HR,HD⟩:=hrel;by_cases hlt:i<ss.length
        ·obtain⟨a',cap',e',hc⟩:=(zb HS).keep (zb HR);cases e';have hd:=zgE hlt;obtain⟨blk,off,ka,kc,qa,qc,rfl,hl,hcs⟩:=hc i ss[i] hd;generalize ss[i]=d at *;have c0:wr.cell? ⟨blk,off+i*6,none⟩=some (.bool d.hp):=hcs 0 _ rfl;have c1:=hcs 1 _ rfl;have c2:=hcs 2 _ rfl;have c3:=hcs 3 _ rfl;have c4:=hcs 4 _ rfl;have c5:=hcs 5 _ rfl;have HC:Hid (Calls Tryz.prog 105 #[.agg #[.bool d.hp,.string d.pat,.int .i64 d.fmt,.slice ka d.keys.length kc,.slice qa d.subs.length qc,.int .i64 d.more],.int .i64 (i:Nat),.int .i64 (ss.length:Nat)] wr (Says wr (d.OK i ss.length))):=zcE d i ss.length ka kc qa qc wr hl;have HDD:=ze hd;clear hc hcs hl hd;go_upto_region 21 with(go_at_call 105;refine(zb HC).mono ?_;rintro e w1 ⟨b,rfl,hb,hO1⟩;have HB:=ze hb;clear hb);cases b
         ·have HF:=ze (zb HE 11 i w1 (.inr (.inr (.inr ⟨zb HND,.inr (.inr ⟨mp,m8,i,d,zb HDD,zb HD,fun q=>Bool.noConfusion ((zb HB).2 q),rfl,rfl⟩)⟩))) ((zb HR).trans hO1));clear HB;go_wp2_with fail;go_ret3;exact zb HF
         ·have HD2:Hid (∀(j:Nat) d,j<i+1->ss[j]?=some d->d.OK j ss.length):=fun j d' hj hd'=>by
           by_cases c:j<i
           ·exact zb HD j d' c hd'
           ·obtain rfl:j=i:=oa;cases(zb HDD).symm.trans hd';exact(zb HB).1 rfl
          clear HB;go_wp2_with fail;exact⟨⟨i+1,by go_num,oa,(zb HR).trans hO1,zb HD2⟩,by simp[intOf];omega⟩
        ·obtain rfl:i=ss.length:=oa;have HV:Hid (VFine ns ss):=⟨(zb HND).1,(zb HND).2.1,(zb HND).2.2,mp,m8,fun j d hd=>zb HD j d (zgG.1 hd).1 hd⟩
         generalize wr=wm at *;obtain⟨nb,no,rfl⟩:=(zb HN).adr hp;obtain⟨sb,so,rfl⟩:=(zb HS).adr mp;have HNc:Hid (∀V,ziE w V->_):=fun V k=>((zb HN).keep k).all.2;have HSc:Hid (∀V,ziE w V->_):=fun V k=>((zb HS).keep k).all.2;clear HN HS;have hnm:ns.length*ss.length<=320:=Nat.mul_le_mul h40 m8;have hmk1:=qP (ns.length*ss.length) oa;have hmk2:=qP ns.length oa;simp only[zh5] at hmk1;have hb1:(0:Int)<=(ns.length:Int)*(ss.length:Int)/\(ns.length:Int)*(ss.length:Int)<=320:=(by rw[<-zh5];omega);have hwr:IntKind.i64.wrap ((ns.length:Int)*(ss.length:Int))=(ns.length:Int)*(ss.length:Int):=qA _ hb1.1 (by have:=hb1.2;omega);go_upto_region 25 with fail;clear HD HND hmk1 hmk2 hwr hb1 HE hi;have hG:=(zb HR).size;have hpos:0<ns.length*ss.length:=Nat.mul_pos hp mp;have hBT:BT ((wm.alloc (.cells (madeCells #[.bool false] (ns.length*ss.length)) 4)).alloc (.cells (madeCells #[.bool false] ns.length) 4)) wm.heap.size ns.length ss.length (fun _ _=>False):=BF.keep (BF.made wm _) ((zf.refl (fun _=>False) _).alloc _) (fun f=>f);have hBF:=BF.made (wm.alloc (.cells (madeCells #[.bool false] (ns.length*ss.length)) 4)) ns.length;have hW:ziE w ((wm.alloc (.cells (madeCells #[.bool false] (ns.length*ss.length)) 4)).alloc (.cells (madeCells #[.bool false] ns.length) 4)):=((zb HR).alloc _).alloc _;have hsz:(wm.alloc (.cells (madeCells #[.bool false] (ns.length*ss.length)) 4)).heap.size=wm.heap.size+1:=ov;rw[hsz] at hBF;clear HR hsz;generalize (wm.alloc (.cells (madeCells #[.bool false] (ns.length*ss.length)) 4)).alloc (.cells (madeCells #[.bool false] ns.length) 4)=W at *;generalize wm.heap.size=G at *;obtain⟨⟨b0,c0,-⟩,f0⟩:=hBT 0 hpos;have HT:Hid (BT (W.setCell ⟨G,0,none⟩ (.bool true)) G ns.length ss.length (KA ns ss (Dk 1 0))):=KA.start hpos hBT;have HX:Hid (BF (W.setCell ⟨G,0,none⟩ (.bool true)) (G+1) ns.length (KX ns ss (Dk 1 0))):=(BF.keep hBF ((zf.refl (fun g=>g=G) _).setCell (.inl rfl) _) oa).to (fun i _=>KX.start);have HO:Hid (ziE w (W.setCell ⟨G,0,none⟩ (.bool true))):=hW.laterB ((zf.refl (fun g=>g=G) _).setCell (.inl rfl) _) (fun i hi=>oa);clear hBT hBF hW;go_upto_region 27 with fail;clear c0 f0 b0 hpos;go_loopw[15] (fun x wr=>∃k:Nat,x=.int .i64 k/\1<=k/\k<=ns.length/\Hid (ziE w wr)/\Hid (BT wr G ns.length ss.length (KA ns ss (Dk k 0)))/\Hid (BF wr (G+1) ns.length (KX ns ss (Dk k 0)))) (fun x _=>ns.length-(intOf x).toNat)
         case atStart=>exact⟨1,rfl,oa,oa,HO,HT,HX⟩
         case round=>
          clear HO HT HX;obtain⟨k,rfl,hk1,hk,HO,HT,HX⟩:=hrel;by_cases hlt:k<ns.length
          ·obtain⟨n,hn,_,hth⟩:=(zb HV).nodes k hlt;unfold Nd.there at hth;rw[iN oa] at hth;obtain⟨hp0,hp1,q,hq,_⟩:=hth;obtain⟨p,hpp⟩:∃p:Nat,n.parent=(p:Int):=⟨n.parent.toNat,oa⟩
           rw[hpp] at hq hp1;have y1:=zb HNc wr (zb HO) k n hn 1 _ rfl;rw[hpp] at y1;have hpk:p<k:=oa;clear hp0 hp1;have Hn:=ze hn;have Hp:=ze hpp;have Hq:=ze hq;clear hn hpp hq;go_upto_region 31 with fail;clear y1;go_loopw[17] (fun x wr=>∃s:Nat,x=.int .i64 s/\s<=ss.length/\Hid (ziE w wr)/\Hid (BT wr G ns.length ss.length (KA ns ss (Dk k s)))/\Hid (BF wr (G+1) ns.length (KX ns ss (Dk k s)))) (fun x _=>ss.length-(intOf x).toNat)
           case atStart=>exact⟨0,rfl,oa,HO,HT,HX⟩
           case round=>
            clear HO HT HX;obtain⟨s,rfl,hs,HO,HT,HX⟩:=hrel;by_cases hls:s<ss.length
            ·have hd:=zgE hls;generalize ss[s]=d at *;obtain⟨⟨b,cb,hb⟩,-⟩:=(zb HT).get (show p<ns.length by omega) hls;have Hb:=ze (hb.trans (KA.all (fun s0 _ _=>.inl hpk)));have q0:wr.cell? ⟨nb,no+p*4,none⟩=_:=zb HNc wr (zb HO) p q (zb Hq) 0 _ rfl;have Hti:=ze (tp_iff (zb Hn) (zb Hp) (zb Hq) hd);have Hd:=ze hd;have hat:=WH (show p<ns.length by omega) hls;have hw1:IntKind.i64.wrap ((p:Int)*(ss.length:Int))=((p*ss.length:Nat):Int):=by
              rw[<-zh5];exact qA _ oa oa
             have hw2:IntKind.i64.wrap (((p*ss.length:Nat):Int)+(s:Int))=((p*ss.length+s:Nat):Int):=by
              rw[<-zhX];exact qA _ oa oa
             clear hb hd;by_cases hgo:b=true/\q.kind=5
             ·obtain⟨rfl,h5⟩:=hgo;have d5:(q.kind == 5)=true:=(by simp[h5]);have hP:=(zb Hb).1 rfl;have hdo:=(zb HV).schemas s d (zb Hd);have hle:=hdo.1.2.2.1;have hl6:=hdo.1.2.2.2;have Hin:=ze (Sc.agn_in hdo n.key);have hll:=Sc.agn_len hl6 n.key;have Ht1:Hid (∀s':Nat,TP ns ss k s s'↔((s':Nat):Int)∈(d.agn n.key).1):=fun s'=>((zb Hti).1 s').trans ⟨And.right,fun e=>⟨⟨hP,h5⟩,e⟩⟩;have Ht2:Hid (XP ns ss k s↔(d.agn n.key).2=true):=(zb Hti).2.trans ⟨And.right,fun e=>⟨⟨hP,h5⟩,e⟩⟩;obtain⟨ka,kc,qa,qc,hsl,hsc⟩:=zb HSc wr (zb HO) s d (zb Hd);have s0:wr.cell? ⟨sb,so+s*6,none⟩=some (.bool d.hp):=hsc 0 _ rfl;have s1:=hsc 1 _ rfl;have s2:=hsc 2 _ rfl;have s3:=hsc 3 _ rfl;have s4:=hsc 4 _ rfl;have s5:=hsc 5 _ rfl;have n2:=zb HNc wr (zb HO) k n (zb Hn) 2 _ rfl;have HA:Hid (∀V,ziE wr V->Calls Tryz.prog 106 #[.agg #[.bool d.hp,.string d.pat,.int .i64 d.fmt,.slice ka d.keys.length kc,.slice qa d.subs.length qc,.int .i64 d.more],.string n.key] V _):=fun V k=>zaD d n.key ka kc qa qc V (hsl.keep k) oa hl6;have HC:Hid (∀V,ziE wr V->_/\_/\_/\_/\_/\_/\_):=fun V k=>⟨zg k _ _ s0 (fun f=>f),zg k _ _ s1 (fun f=>f),zg k _ _ s2 (fun f=>f),zg k _ _ s3 (fun f=>f),zg k _ _ s4 (fun f=>f),zg k _ _ s5 (fun f=>f),zg k _ _ n2 (fun f=>f)⟩
              clear hdo hle hl6 hsl hsc hP Hb Hti h5;generalize d.agn n.key=ag at *;obtain⟨l,x⟩:=ag;simp only[] at *;go_upto_region 34 with fail;clear cb q0 hw1 hw2 hat d5;go_region_held3(fun w'=>w'.cell? ⟨sb,so+s*6,none⟩=some (.bool d.hp)/\w'.cell? ⟨sb,so+s*6+1,none⟩=some (.string d.pat)/\w'.cell? ⟨sb,so+s*6+2,none⟩=some (.int .i64 d.fmt)/\w'.cell? ⟨sb,so+s*6+3,none⟩=some (.slice ka d.keys.length kc)/\w'.cell? ⟨sb,so+s*6+4,none⟩=some (.slice qa d.subs.length qc)/\w'.cell? ⟨sb,so+s*6+5,none⟩=some (.int .i64 d.more)/\w'.cell? ⟨nb,no+k*4+2,none⟩=some (.string n.key)) (first |go_keep |exact zb HC _ (zb HO1))
               (first |(go_at_call 106;refine(zb HA _ (by first |exact(zf.refl _ _).drew |exact(zf.refl _ _).drewN _)).mono ?_;rintro e w1 ⟨lv,rfl,hown,hO1⟩;have HW:=ze hown;have HO1:Hid (ziE wr w1):=zf.trans (by first |exact(zf.refl _ _).drew |exact(zf.refl _ _).drewN _) hO1;clear hown hO1))
              have hGl:G+1<wr.heap.size:=by
               obtain⟨⟨_,cx,-⟩,-⟩:=zb HX k hlt;exact zgF wr _ cx
              obtain⟨la,lc,rfl,hlc⟩:=jI (zb HW);have Hbl:Hid (∀g,la=some ⟨g,0,none⟩->wr.heap.size<=g):=fun g e=>(zh (zb HW) g (by rw[e];rfl)).1;have HL:=ze hlc;have HT1:Hid (BT w1 G ns.length ss.length (KI (KA ns ss (Dk k s)) k l 0)):=BT.to (BF.keep (zb HT) (zb HO1) (fun f=>f)) (fun _ _ _ _=>KI.zero);have HX1:=ze (BF.keep (zb HX) (zb HO1) (fun f=>f));have HOw:=ze ((zb HO).trans (zb HO1));clear hlc HW HC HA HT HX HO HO1 s0 s1 s2 s3 s4 s5 n2;rename_i hheld;clear hheld;go_wp2_with fail;go_loopw[20] (fun y wi=>∃i:Nat,y=.int .i64 i/\i<=l.length/\Hid (zf (fun g=>g=G) w1 wi)/\Hid (BT wi G ns.length ss.length (KI (KA ns ss (Dk k s)) k l i))) (fun y _=>l.length-(intOf y).toNat)
              case atStart=>exact⟨0,rfl,oa,zf.refl _ _,HT1⟩
              case round=>
               clear HT1;obtain⟨i,rfl,hi,HK,HTi⟩:=hrel;by_cases hli:i<l.length
               ·have hx:=zgE hli;obtain⟨hx0,hx1⟩:=zb Hin l[i] (zg5 hli);obtain⟨y,hy⟩:∃y:Nat,l[i]=(y:Int):=⟨l[i].toNat,oa⟩
                rw[hy] at hx hx1;have hym:y<ss.length:=oa;obtain⟨g,rfl,hcl⟩:=zb HL i (.int .i64 (y:Nat)) (by rw[yr,zgZ,hx];rfl);have e1:=zg (zb HK) _ _ hcl (fun e=>by have e:g=G:=e;have:=zb Hbl g rfl;omega);obtain⟨⟨b,cb,-⟩,fb⟩:=(zb HTi).get hlt hym;have hat:=WH hlt hym;have hw1:IntKind.i64.wrap ((k:Int)*(ss.length:Int))=((k*ss.length:Nat):Int):=by
                 rw[<-zh5];exact qA _ oa oa
                have hw2:IntKind.i64.wrap (((k*ss.length:Nat):Int)+(y:Int))=((k*ss.length+y:Nat):Int):=by
                 rw[<-zhX];exact qA _ oa oa
                have HTn:=ze (KI.set (zb HTi) hx hym hlt);clear hx hx0 hx1 hy hcl HTi;go_wp2_with fail;exact⟨⟨i+1,by go_num,oa,(zb HK).setCell (.inl rfl) _,HTn⟩,by simp[intOf];omega⟩
               ·obtain rfl:i=l.length:=oa;have HT2:=ze (KA.step (zb HTi) hk1 (zb Ht1));have hX2:=BF.keep (zb HX1) (zb HK) oa;obtain⟨⟨b,cb,hb⟩,fb⟩:=hX2 k hlt;have HX2:=ze (KX.step hX2 hk1 hlt (zb Ht2) hb);have HO2:=ze ((zb HOw).laterB (zb HK) (fun i hi=>oa));clear hX2 hb HTi HX1 Ht1 Ht2 HOw HK;cases b
                all_goals
                 go_wp2_with fail;exact⟨⟨s+1,by go_num,oa,(zb HO2).laterB ((zf.refl (fun g=>g=G+1) _).setCell (.inl rfl) _) (fun i hi=>oa),BF.keep (zb HT2) ((zf.refl (fun g=>g=G+1) _).setCell (.inl rfl) _) oa,zb HX2⟩,by simp[intOf];omega⟩
             ·have HT':=ze (KA.skip (zb HT) hk1 (fun s' e=>hgo ((((zb Hti).1 s').1 e).1.imp (zb Hb).2 id)));have HX':=ze (KX.skip (zb HX) hk1 (fun e=>hgo (((zb Hti).2.1 e).1.imp (zb Hb).2 id)));clear HT HX Hb Hti;cases b
              ·clear hgo;go_wp2_with fail;exact⟨⟨s+1,by go_num,oa,HO,HT',HX'⟩,by simp[intOf];omega⟩
              ·have d5:(q.kind == 5)=false:=beq_eq_false_iff_ne.2 (fun e=>hgo ⟨rfl,e⟩);clear hgo;go_wp2_with fail;exact⟨⟨s+1,by go_num,oa,HO,HT',HX'⟩,by simp[intOf];omega⟩
            ·obtain rfl:s=ss.length:=oa;go_wp2_with fail;exact⟨⟨k+1,by go_num,oa,oa,HO,BT.to (zb HT) (fun j s' _ _=>KA.same (fun _=>Dk.row)),BF.to (zb HX) (fun j _=>KX.same (fun _=>Dk.row))⟩,by simp[intOf];omega⟩
          ·obtain rfl:k=ns.length:=oa;generalize wr=wq at *;have HT2:Hid (BT wq G ns.length ss.length (qu ns ss)):=BT.to (zb HT) (fun j s' hj _=>KA.all (fun _ _ _=>.inl hj));have HX2:Hid (BF wq (G+1) ns.length (Jq ns ss)):=BF.to (zb HX) (fun j hj=>KX.all (fun _ _ _=>.inl hj));clear HT HX hk1 hk hlt;go_upto_region 42 with fail;go_loopw[21,22] (fun lv x wr=>∃k:Nat,x=.int .i64 k/\k<=ns.length/\Hid (ziE wq wr)/\Hid (wr.ownsRow wq.heap.size 49 2 lv (yP ns ss k).length (yC (yP ns ss k)))) (fun _ x _=>ns.length-(intOf x).toNat)
           case atStart=>exact⟨0,rfl,oa,zf.refl _ _,zgP _ _ _ _⟩
           case round=>
            obtain⟨k,rfl,hk,HR,HW⟩:=hrel;by_cases hlt:k<ns.length
            ·have hn:=zgE hlt;generalize ns[k]=n at *;have Hn:=ze hn;clear hn;generalize wr=wk at *;go_upto_region 46 with fail;go_loopw[23,24,25] (fun a b x wr=>∃(s:Nat) (p q:Bool),a=.bool p/\b=.bool q/\x=.int .i64 s/\s<=ss.length/\Hid (p=true↔Fs (FP ns ss k) s)/\Hid (q=true↔Fs (FF ns ss k) s)/\Hid (ziE wk wr)) (fun _ _ x _=>ss.length-(intOf x).toNat)
             case atStart=>exact⟨0,false,false,rfl,rfl,rfl,oa,Fs.zero,Fs.zero,zf.refl _ _⟩
             case round=>
              obtain⟨s,a,b,rfl,rfl,rfl,hs,Ha,Hb,HI⟩:=hrel;have HRI:=ze ((zb HR).trans (zb HI));by_cases hls:s<ss.length
              ·have hd:=zgE hls;generalize ss[s]=d at *;obtain⟨⟨c,cb,hc⟩,-⟩:=BT.get (BF.keep (zb HT2) (zb HRI) (fun f=>f)) hlt hls;have hOO:=(zb HO).trans (zb HRI);have q0:wr.cell? ⟨nb,no+k*4,none⟩=_:=zb HNc wr hOO k n (zb Hn) 0 _ rfl;have hfi:=Vr (zb Hn) hd;have hat:=WH hlt hls;have hw1:IntKind.i64.wrap ((k:Int)*(ss.length:Int))=((k*ss.length:Nat):Int):=by
                rw[<-zh5];exact qA _ oa oa
               have hw2:IntKind.i64.wrap (((k*ss.length:Nat):Int)+(s:Int))=((k*ss.length+s:Nat):Int):=by
                rw[<-zhX];exact qA _ oa oa
               by_cases hgo:c=true/\n.kind=3
               ·obtain⟨rfl,h3⟩:=hgo;have d3:(n.kind == 3)=true:=(by simp[h3]);have Ht1:=ze (Fs.step (zb Ha) (hfi.1.trans ⟨And.right,fun e=>⟨⟨hc.1 rfl,h3⟩,e⟩⟩).symm);have Ht2:=ze (Fs.step (zb Hb) (hfi.2.trans ⟨And.right,fun e=>⟨⟨hc.1 rfl,h3⟩,e⟩⟩).symm);obtain⟨ka,kc,qa,qc,hsl,hsc⟩:=zb HSc wr hOO s d hd;have s0:wr.cell? ⟨sb,so+s*6,none⟩=some (.bool d.hp):=hsc 0 _ rfl;have s1:=hsc 1 _ rfl;have s2:=hsc 2 _ rfl;have s3:=hsc 3 _ rfl;have s4:=hsc 4 _ rfl;have s5:=hsc 5 _ rfl;have n3:=zb HNc wr hOO k n (zb Hn) 3 _ rfl;have HA:Hid (∀V,Calls Tryz.prog 107 #[.agg #[.bool d.hp,.string d.pat,.int .i64 d.fmt,.slice ka d.keys.length kc,.slice qa d.subs.length qc,.int .i64 d.more],.string n.text] V _):=fun V=>zdW d n.text ka kc qa qc V;have HC:Hid (∀V,ziE wr V->_/\_/\_/\_/\_/\_/\_):=fun V k=>⟨zg k _ _ s0 (fun f=>f),zg k _ _ s1 (fun f=>f),zg k _ _ s2 (fun f=>f),zg k _ _ s3 (fun f=>f),zg k _ _ s4 (fun f=>f),zg k _ _ s5 (fun f=>f),zg k _ _ n3 (fun f=>f)⟩
                generalize (d.hp && !vU d.pat n.text)=x at *;generalize ((d.fmt != 0) && !vU (Zq d.fmt) n.text)=y at *;clear hc hd hOO hfi h3 hsl hsc Ha Hb;go_upto_region 49 with fail;clear cb q0 hw1 hw2 hat d3;go_region_held3(fun w'=>w'.cell? ⟨sb,so+s*6,none⟩=some (.bool d.hp)/\w'.cell? ⟨sb,so+s*6+1,none⟩=some (.string d.pat)/\w'.cell? ⟨sb,so+s*6+2,none⟩=some (.int .i64 d.fmt)/\w'.cell? ⟨sb,so+s*6+3,none⟩=some (.slice ka d.keys.length kc)/\w'.cell? ⟨sb,so+s*6+4,none⟩=some (.slice qa d.subs.length qc)/\w'.cell? ⟨sb,so+s*6+5,none⟩=some (.int .i64 d.more)/\w'.cell? ⟨nb,no+k*4+3,none⟩=some (.string n.text)) (first |go_keep |exact zb HC _ (zb HO1))
                 (first |(go_at_call 107;refine(zb HA _).mono ?_;rintro e w1 ⟨rfl,hO1⟩;have HO1:Hid (ziE wr w1):=zf.trans (by first |exact(zf.refl _ _).drew |exact(zf.refl _ _).drewN _) hO1;clear hO1))
                rename_i hheld;clear hheld HA HC s0 s1 s2 s3 s4 s5 n3;cases a<;>cases b
                all_goals
                 go_wp2_with fail;exact⟨⟨s+1,_,_,rfl,rfl,by go_num,oa,Ht1,Ht2,(zb HI).trans (zb HO1)⟩,by simp[intOf];omega⟩
               ·have Ht1:=ze (Fs.skip (zb Ha) (fun e=>hgo ((hfi.1.1 e).1.imp hc.2 id)));have Ht2:=ze (Fs.skip (zb Hb) (fun e=>hgo ((hfi.2.1 e).1.imp hc.2 id)));clear hc hd hOO hfi Ha Hb;cases c
                ·clear hgo;go_wp2_with fail;exact⟨⟨s+1,_,_,rfl,rfl,by go_num,oa,Ht1,Ht2,HI⟩,by simp[intOf];omega⟩
                ·have d3:(n.kind == 3)=false:=beq_eq_false_iff_ne.2 (fun e=>hgo ⟨rfl,e⟩);clear hgo;go_wp2_with fail;exact⟨⟨s+1,_,_,rfl,rfl,by go_num,oa,Ht1,Ht2,HI⟩,by simp[intOf];omega⟩
              ·obtain rfl:s=ss.length:=oa;obtain⟨⟨c,-,hc⟩,-⟩:=BF.keep (zb HX2) (zb HRI) (fun f=>f) k hlt;have HN:=ze (QW ((zb Ha).trans zcF.1) ((zb Hb).trans zcF.2) hc);have HWi:=ze (zl (zb HW) (zb HI) (fun _ _ f=>f));have hL:=Zg (ns:=ns) (ss:=ss) k;have Hc:=ze hc;clear HW HR HI Ha Hb hc hs hls;generalize yP ns ss k=L at *;generalize wr=wz at *;go_upto_if 191 with fail;go_cut[21] (fun lv wx=>Hid (ziE wq wx)/\Hid (wx.ownsRow wq.heap.size 49 2 lv (L++(if a then [((k:Int),(1:Int))] else [])).length (yC (L++(if a then [((k:Int),(1:Int))] else [])))))
               case first=>
                cases a
                ·go_wp2_with fail
                 all_goals go_meet
                 exact⟨HRI,ze (by simpa using zb HWi)⟩
                ·go_wp2_with(at_builtin;refine zb ?_);refine ze ?_;refine Vs rfl _ _ rfl wq.heap.size L _ rfl (zb HWi) k 1 rfl oa (zb HRI).size (fun v' w' h1 h2=>?_);have HRJ:=ze (h2 _ (zb HRI) (zgH _));have HWj:=ze h1;clear h1 h2;go_wp2_with fail
                 all_goals go_meet
                 exact⟨HRJ,HWj⟩
               case rest=>
                clear HRI HWi;obtain⟨HRI,HWi⟩:=hcut;go_upto_if 197 with fail;go_cut[21] (fun lv wx=>Hid (ziE wq wx)/\Hid (wx.ownsRow wq.heap.size 49 2 lv (L++(if a then [((k:Int),(1:Int))] else [])++(if b then [((k:Int),(2:Int))] else [])).length (yC (L++(if a then [((k:Int),(1:Int))] else [])++(if b then [((k:Int),(2:Int))] else [])))))
                case first=>
                 cases b
                 ·go_wp2_with fail
                  all_goals go_meet
                  exact⟨HRI,ze (by simpa using zb HWi)⟩
                 ·go_wp2_with(at_builtin;refine zb ?_);refine ze ?_;refine Vs rfl _ _ rfl wq.heap.size (L++(if a then [((k:Int),(1:Int))] else [])) _ rfl (zb HWi) k 2 rfl (by rw[zgK];cases a<;>simp<;>omega) (zb HRI).size (fun v' w' h1 h2=>?_);have HRJ:=ze (h2 _ (zb HRI) (zgH _));have HWj:=ze h1;clear h1 h2;go_wp2_with fail
                  all_goals go_meet
                  exact⟨HRJ,HWj⟩
                case rest=>
                 clear HRI HWi;obtain⟨HRI,HWi⟩:=hcut;obtain⟨⟨c',cc,hc'⟩,-⟩:=BF.keep (zb HX2) (zb HRI) (fun f=>f) k hlt;obtain rfl:c'=c:=zhM.2 (hc'.trans (zb Hc).symm);have HM:Hid (∀v (V:World),V.ownsRow wq.heap.size 49 2 v (L++(if a then [((k:Int),(1:Int))] else [])++(if b then [((k:Int),(2:Int))] else [])++(if c' then [((k:Int),(3:Int))] else [])).length (yC (L++(if a then [((k:Int),(1:Int))] else [])++(if b then [((k:Int),(2:Int))] else [])++(if c' then [((k:Int),(3:Int))] else [])))->V.ownsRow wq.heap.size 49 2 v (yP ns ss (k+1)).length (yC (yP ns ss (k+1)))):=fun v V h=>by
                  rw[zb HN,fail1];simpa [List.append_assoc] using h
                 clear hc' Hc HN;cases c'
                 ·go_wp2_with fail;exact⟨⟨k+1,by go_num,oa,HRI,ze (zb HM _ _ (by simpa using zb HWi))⟩,by simp[intOf];omega⟩
                 ·go_wp2_with(at_builtin;refine zb ?_);refine ze ?_;refine Vs rfl _ _ rfl wq.heap.size (L++(if a then [((k:Int),(1:Int))] else [])++(if b then [((k:Int),(2:Int))] else [])) _ rfl (zb HWi) k 3 rfl (by rw[zgK,zgK];cases a<;>cases b<;>simp<;>omega) (zb HRI).size (fun v' w' h1 h2=>?_);have HRJ:=ze (h2 _ (zb HRI) (zgH _));have HWj:=ze (zb HM _ _ h1);clear h1 h2;go_wp2_with fail;exact⟨⟨k+1,by go_num,oa,HRJ,HWj⟩,by simp[intOf];omega⟩
            ·obtain rfl:k=ns.length:=oa;have HZ:Hid (∀v,wr.ownsRow wq.heap.size 49 2 v (yP ns ss ns.length).length (yC (yP ns ss ns.length))->VAns ns ss w (.returned (.tuple #[v,.int .i64 0,.int .i64 0])) wr):=fun v h=>⟨(zb HO).trans (zb HR),.inr ⟨zb HV,v,rfl,zZ h (zb HO).size⟩⟩
             have HF:=ze (zb HZ _ (zb HW));clear HZ HW;go_wp2_with fail;go_ret3;exact zb HF
end
