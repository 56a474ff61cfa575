/- The library's sort of a row of characters, to the element: patterns broken. -/
import Derived.Test.YtcgleficedipkaaGreatDoorYSxASxH
import Derived.Sort.Walk7
import Derived.Sort.Walk13a
import Derived.Sort.LotD4
import Derived.Sort.AssemblyPlain
import Derived.Test.YtcgleficedipkaaGreatDoorYFndAFndD
namespace Go.Proofs.YtcgleficedipkaaGreatDoor
open Option renaming none->U,some->I
open Value renaming int->M,slice->K,bool->C,pointer->Ua,iface->Ud,tuple->Ue,agg->Uf
open IntKind renaming i64->J,i32->Ug
open Bool renaming false->Z,true->G
open Go renaming World->E,Value->Y,Calls->Uh
open Go.RowKit renaming Hid->H
open Or renaming inr->O,inl->Q
open Ending renaming returned->R
open Obj renaming cells->Ub
open Go.Calls renaming quiet_of_same->Uq
open And renaming intro->Ur
open Go.Sort renaming Holds->Ut
open Sm Cs Prg Fnd
open _root_.Go.Proofs.Tryz
variable {a b:World}(j off n cap:Nat)(d:Array Int){w X V m:World}{v:Value}{cs:List Int}{pb g:Nat}
section
open Go.RowKit
set_option maxHeartbeats 2000000
theorem Ex.aside {j off c:Nat}{d:Array Int}(h:Ex a j off d b)(f:a.heap.size<=c)(g:j≠c)(u:Y):Ex a j off d (b.setCell ⟨c,0,U⟩ u):=
 ⟨h.1.setCell (p:=⟨c,0,U⟩) (O f) u,λt e=>⟨(zgI _ _ _ _ ov).trans (h.2 t e).1,(zk _ _ _ _).trans (h.2 t e).2⟩⟩
open Go.Shelf Go.Lib Go.Sort in
theorem nextE (a:Nat)(r:UInt64)(w:E)(b:w.cell? ⟨a,0,U⟩=I (M .u64 (r.toNat:Nat)))(c:w.frozen? ⟨a,0,U⟩=Z):Uh prog 231 #[Ua (I ⟨a,0,U⟩)] w λe m=>e=R (M .u64 ((Sort.xorNext r).toNat:Nat))/\m=(w.setCell ⟨a,0,U⟩ (M .u64 ((Sort.xorNext r).toNat:Nat))).drewN 3:=by rw[Sort.xorNext_toNat];exact AnyF.xorshift_Next { Y5 with } a 0 r.toNat r.toNat_lt w b c
theorem breakE (a b:Nat)(d:Array Int)(w:E)(h:Ut (Value.int Ug) w j off d)(aq:j<w.heap.size)(aO:a+12<b)(hb:b<=d.size)(hn:d.size<1099511627776):Uh prog 201 #[K (I ⟨j,off,U⟩) d.size cap,.int J a,.int J b] w λe m=>e=R (Ue #[])/\Ex w j off (Sort.breakPatterns d a b) m:=by
 obtain⟨L,rfl⟩:∃L,b=a+L:=⟨b-a,oa⟩
 have P:=ze (breakPatterns_eq d a L oa);generalize Sort.breakPatterns d a (a+L)=ae at *;have X:=ze (Ex.refl h);clear h;generalize hN:d.size=N at *;obtain⟨q,hq⟩:∃q,q=L / 4:=⟨_,rfl⟩
 have aU:(L:Int) / 4=q:=by rw[hq];rfl
 have aV:4*q<=L/\L<4*q+4:=oa;have e0:(a:Int)+L-a=L:=oa;have eL:IntKind.u64.wrap (L:Int)=L:=by simp[IntKind.wrap,IntKind.bits,IntKind.signed];omega
 have hM:=pow_le L oa;obtain⟨M,aa⟩:∃M,M=1 <<< Sort.bitsLen L:=⟨_,rfl⟩
 have aN:1<=M:=by rw[aa,Nat.one_shiftLeft];exact Nat.one_le_two_pow
 have HN:=ze (npowR L oa);rw[<-aa] at hM HN P;rw[<-hq] at P;have eX:(UInt64.ofNat L).toNat=L:=by simp;omega
 have ah:H (d.size=N):=hN;clear aa hq hN;go_enter func201,ntmps201;go_wp2_with(go_at_call 230;refine(zb HN _).mono ?_;rintro e m ⟨rfl,rfl⟩);have ak:H (Ex w j off d (w.alloc (Ub #[.int .u64 (L:Int)] 375))):=⟨(zf.refl _ _).alloc _,λt ht=>⟨(((zf.refl (λ_=>False) _).alloc _).cell (p:=⟨j,off+t,U⟩) aq id).trans (X.2 t ht).1,(((zf.refl (λ_=>False) _).alloc _).frozen (p:=⟨j,off+t,U⟩) aq id).trans (X.2 t ht).2⟩⟩
 have ag:H (Yt (w.alloc (Ub #[.int .u64 (L:Int)] 375)) w.heap.size (UInt64.ofNat L).toNat):=by rw[eX];exact⟨zm w _ rfl _ _ 0 _ rfl,zu w _ rfl _ _ 0⟩
 have eM:IntKind.u64.wrap ((M:Int)-1)=(M:Int)-1:=by simp[IntKind.wrap,IntKind.bits,IntKind.signed];omega
 go_loopw[9] (λvi wr=>∃(t s:Nat) (r:UInt64) (k:Array Int),vi=.int J t/\H (t=a+q*2-1+s)/\a+q*2<=t+1/\t<=a+q*2+2/\s<=3/\H (k.size=N)/\H (Ex w j off k wr)/\H (Yt wr w.heap.size r.toNat)/\H (ae=bpRest a L M (a+q*2-1) (3-s) s (r,k))) (λvi _=>a+q*2+2-(intOf vi).toNat);exact⟨a+q*2-1,0,_,d,by congr 1;omega,rfl,oa,oa,oa,ah,ak,ag,P⟩;clear ak ag P X ah;obtain⟨t,s,r,k,rfl,n,aX,aY,aW,S,HS,HC,x⟩:=hrel;by_cases hs:s<3
 .have aR:(t:Int)<=a+q*2+1:=(by have:=zb n;omega);have v:=ze (λo=>bp_step (α:=Int) a L M (a+q*2-1) s r k o hs);rw[<-zb n] at v;obtain⟨c0,f0⟩:=zb HC;go_wp2_with(go_at_call 231;refine(nextE _ r _ c0 f0).mono ?_;rintro e w1 ⟨rfl,ad⟩;have i:H (Ex w j off k w1):=(by rw[ad];exact(HS.aside (zgH _) oa _).drewN _);have g:H (Yt w1 w.heap.size (Sort.xorNext r).toNat):=(by rw[ad];exact⟨zgL _ _ _ c0,(zk _ _ _ _).trans f0⟩);have hY:(Sort.xorNext r).toNat<18446744073709551616:=(Sort.xorNext r).toNat_lt;generalize au:Sort.xorNext r=u at *;generalize W:u.toNat=T at *;have ap:bits .and .u64 (T:Int) ((M:Int)-1)=((T &&& (M-1):Nat):Int):=(by rw[show(M:Int)-1=((M-1:Nat):Int) by omega];exact bits_and_u64_nat _ _ hY oa);have ho:T &&& (M-1)<=M-1:=Nat.and_le_right;generalize aH:T &&& (M-1)=o at *;have ar:IntKind.i64.wrap (o:Int)=o:=(by simp[IntKind.wrap,IntKind.bits,IntKind.signed];omega);clear ad aH)
  .rename_i aM;obtain⟨c,aF⟩:∃c,c=o-L:=⟨_,rfl⟩
   have e9:(o:Int)-L=(c:Nat):=oa;simp only[e9];have aG:c<L:=oa;obtain⟨l,HG,B,F⟩:=i.fam S;have y:H (ae=bpRest a L M (a+q*2-1) (3-(s+1)) (s+1) (u,(k.setIfInBounds t (l (a+c))).setIfInBounds (a+c) (l t))):=(by show _=_;rw[zb x,qV HG];exact zb v c (by rw[IN oa];omega));have z:H (((k.setIfInBounds t (l (a+c))).setIfInBounds (a+c) (l t)).size=N):=(by show _=_;simp;exact S);rw[<-W] at g;clear e9 aF ap ar v x HG W au;have d1:=B t oa;have g1:=F t oa;have d2:=B (a+c) oa;have g2:=F (a+c) oa;by_cases ac:t=a+c
   .subst ac;go_region;go_wp2_with fail;go_roundw
    .exact⟨a+c+1,s+1,u,_,by go_num,(by show _=_;have:=zb n;omega),oa,oa,oa,z,(by first|exact i.two rfl rfl|exact((i.set (a+c) _).set (a+c) _).drew),(by first|exact Yt.two g oa|exact Yt.two' g oa),y⟩
    simp[intOf];omega
   go_region;go_wp2_with fail;go_roundw
   .exact⟨t+1,s+1,u,_,by go_num,(by show _=_;have:=zb n;omega),oa,oa,oa,z,(by first|exact i.two rfl rfl|exact((i.set t _).set (a+c) _).drew),(by first|exact Yt.two g oa|exact Yt.two' g oa),y⟩
   simp[intOf];omega
  have aG:o<L:=oa;obtain⟨l,HG,B,F⟩:=i.fam S;have y:H (ae=bpRest a L M (a+q*2-1) (3-(s+1)) (s+1) (u,(k.setIfInBounds t (l (a+o))).setIfInBounds (a+o) (l t))):=(by show _=_;rw[zb x,qV HG];exact zb v o (by rw[iN oa]));have z:H (((k.setIfInBounds t (l (a+o))).setIfInBounds (a+o) (l t)).size=N):=(by show _=_;simp;exact S);rw[<-W] at g;clear ap ar v x HG W au;have d1:=B t oa;have g1:=F t oa;have d2:=B (a+o) oa;have g2:=F (a+o) oa;by_cases ac:t=a+o
  .subst ac;go_region;go_wp2_with fail;go_roundw
   .exact⟨a+o+1,s+1,u,_,by go_num,(by show _=_;have:=zb n;omega),oa,oa,oa,z,(by first|exact i.two rfl rfl|exact((i.set (a+o) _).set (a+o) _).drew),(by first|exact Yt.two g oa|exact Yt.two' g oa),y⟩
   simp[intOf];omega
  go_region;go_wp2_with fail;go_roundw
  .exact⟨t+1,s+1,u,_,by go_num,(by show _=_;have:=zb n;omega),oa,oa,oa,z,(by first|exact i.two rfl rfl|exact((i.set t _).set (a+o) _).drew),(by first|exact Yt.two g oa|exact Yt.two' g oa),y⟩
  simp[intOf];omega
 have aQ:decide ((t:Int)<=a+q*2+1)=Z:=(by have:=zb n;simp;omega);obtain rfl:s=3:=oa;go_wp2_with fail
 go_end0
 refine⟨rfl,?_⟩;rw[zb x];exact HS
end
section
open Go.RowKit Go.Sort
set_option maxHeartbeats 16000000
set_option maxRecDepth 1000000
theorem zga {h:Hint}(e:Yp h=2):h=.decreasing:=by cases h<;>simp[Yp] at e ⊢
theorem Ex.same {c:E}{j off:Nat}{d:Array Int}(h:Ex a j off d b)(e:j<b.heap.size)(k:ziE b c):Ex a j off d c:=
 ⟨h.1.trans (k.mono (λ_ _ f=>f.elim)),λt g=>⟨(k.cell (p:=⟨j,off+t,U⟩) e id).trans (h.2 t g).1,(k.frozen (p:=⟨j,off+t,U⟩) e id).trans (h.2 t g).2⟩⟩
theorem zeK {x y p q:Nat}(a:q<=p)(b:y<=x):decide (((x:Int)-(y:Int)) / 8<=(p:Int)-(q:Int))=decide (p-q≥(x-y) / 8):=
 decide_eq_decide.2 ⟨λh=>oa,λh=>oa⟩
theorem pdqE (hn:n<1099511627776):∀(N a b limit:Nat) (d:Array Int) (w:World),b-a<N->d.size=n->Holds (Value.int .i32) w j off d->j<w.heap.size->a<=b->b<=n->limit<1000->Below ltInt a b d->Calls prog 168 #[.slice (some ⟨j,off,none⟩) n cap,.int .i64 a,.int .i64 b,.int .i64 limit] w fun e m=>e=.returned (.tuple #[])/\Ex w j off (pdq ltInt d a b limit true true) m:=by
 intro N
 induction N with
 |zero=>intro _ _ _ _ _ h;exact absurd h (zgV _)
 |succ N ih=>
  intro a0 b0 limit d w hN hd0 hH hblk hab0 hb0 hlimit hBel0;have IH:=ze ih;clear ih;obtain⟨tgt,ht⟩:∃tgt,pdq ltInt d a0 b0 limit true true=tgt:=⟨_,rfl⟩
  rw[ht];have HS0:Hid (d.size=n/\Below ltInt a0 b0 d/\Ex w j off d w/\pdq ltInt d a0 b0 limit true true=tgt):=⟨hd0,hBel0,Ex.refl hH,ht⟩
  clear hd0 hBel0 hH ht;go_enter func168,ntmps168;go_wp2_with fail;go_loopw[1,2,3,8,9] (fun va vb vl v8 v9 wr=>∃(a b lim:Nat) (wb wp:Bool) (dk:Array Int),va=.int .i64 a/\vb=.int .i64 b/\vl=.int .i64 lim/\v8=.bool wb/\v9=.bool wp/\a0<=a/\a<=b/\b<=b0/\lim<1000/\Hid (dk.size=n/\Below ltInt a b dk/\Ex w j off dk wr/\pdq ltInt dk a b lim wb wp=tgt)) (fun va vb _ _ _ _=>(intOf vb-intOf va).toNat)
  case atStart=>exact⟨a0,b0,limit,true,true,d,rfl,rfl,rfl,rfl,rfl,zgH _,hab0,zgH _,hlimit,HS0⟩
  case round=>
   clear HS0;obtain⟨a,b,lim,wb,wp,dk,rfl,rfl,rfl,rfl,rfl,ha0,hab,hbb,hm1,HR⟩:=hrel;have hb:b<=n:=oa;obtain⟨hds,hBel,hX,heq⟩:=zb HR;have hbd:b<=dk.size:=oa;have hnd:dk.size<1099511627776:=oa;have HX:=ze hX;have A:=ze heq;have HBel:=ze hBel;have HDS:=ze hds;clear HR hX heq hBel;by_cases h12:b-a<=12
   ·have h12z:(b:Int)-a<=12:=oa;have hc:=insertE j off cap a b dk wr (zb HX).2 hab hbd hnd;rw[hds] at hc;have HC:=ze hc;clear hc hds hbd hnd;go_wp2_with(go_at_call 199;refine(zb HC).mono ?_;rintro e w1 ⟨rfl,hS1⟩;have HS:=ze ((zb HX).trans hS1);clear hS1)
    (try simp only[Exit.inBlock,Exit.then]);refine bodyPost_ret (results_none rfl _ _ _) rfl ?_
    refine⟨rfl,?_⟩;rw[<-zb A,pdq_small h12];exact zb HS
   ·have h12z:¬(b:Int)-a<=12:=oa;have h12d:decide ((b:Int)-a<=12)=false:=ou;by_cases hl:lim=0
    ·subst hl;have hc:=heapE j off cap a b dk wr (zb HX).2 oa hbd hnd;rw[hds] at hc;have HC:=ze hc;clear hc hds hbd hnd;go_wp2_with(go_at_call 200;refine(zb HC).mono ?_;rintro e w1 ⟨rfl,hS1⟩;have HS:=ze ((zb HX).trans hS1);clear hS1)
     (try simp only[Exit.inBlock,Exit.then]);refine bodyPost_ret (results_none rfl _ _ _) rfl ?_
     refine⟨rfl,?_⟩;rw[<-zb A,pdq_heap h12 rfl];exact zb HS
    ·have hl2:((lim:Int) == 0)=false:=ou;have HF:=ze (rd_facts (limit:=lim) (wb:=wb) (wp:=wp) swo_ltInt partialInsertionSort_holds reverseRange_holds (show a<b by omega) hbd (zb HBel));clear hds hbd hnd;have hll:=rd_lim_le (lt:=ltInt) (d:=dk) (a:=a) (b:=b) (limit:=lim) (wb:=wb) (wp:=wp);have HB0:=ze (fun w9 (h9:Ex w j off dk w9)=>breakE j off cap a b dk w9 h9.2 (zgJ hblk h9.1.size) oa (by rw[zb HDS];omega) (by rw[zb HDS];omega));rw[zb HDS] at HB0;go_upto_if 35 with fail;go_cut[3] from 19 to 133 (fun s3 wx=>s3=.int .i64 (rd ltInt dk a b lim wb wp).lim/\Hid (Ex w j off (rd ltInt dk a b lim wb wp).d1 wx))
     case first=>
      cases wb
      ·go_wp2_with(go_at_call 201;refine(zb HB0 _ (zb HX)).mono ?_;rintro e w1 ⟨rfl,hS1⟩;have HS:=ze ((zb HX).trans hS1);clear hS1);go_meet;refine⟨?_,zb HS⟩;show Value.int .i64 ((lim:Int)-1)=Value.int .i64 ((lim-1:Nat):Int);congr 1;omega
      ·go_wp2_with fail;go_meet;exact⟨rfl,zb HX⟩
     case rest=>
      clear HX HB0;obtain⟨rfl,HX⟩:=hcut;obtain⟨s1,B1,hc1,s2,B2,hpv,s3,B3⟩:=zb HF;have HS1:=ze (s1.trans (zb HDS));have HS2:=ze (s2.trans (zb HDS));have HS3:=ze (s3.trans (zb HDS));have HB3:=ze B3;clear HF s1 B1 s2 B2 s3 B3;have HC1:=ze (pivotE j off cap a b (rd ltInt dk a b lim wb wp).d1 wc (zb HX).2 (zgJ hblk (zb HX).1.size) oa (by rw[zb HS1];omega) (by rw[zb HS1];omega));rw[zb HS1] at HC1;have HC1':Hid (Calls prog 202 #[.slice (some ⟨j,off,none⟩) n cap,.int .i64 a,.int .i64 b] wc fun e m=>e=.returned (.tuple #[.int .i64 ((rd ltInt dk a b lim wb wp).c.1:Nat),.int .i64 (Yp (rd ltInt dk a b lim wb wp).c.2)])/\ziE wc m):=zb HC1;clear HC1;go_upto_if 50 with(go_at_call 202;refine(zb HC1').mono ?_;rintro e w2 ⟨rfl,hw2⟩);have HX2:=ze ((zb HX).same (zgJ hblk (zb HX).1.size) hw2);clear HX HC1' hw2;have HX:=HX2;clear HX2;go_cut[11,12] from 19 to 133 (fun s11 s12 wx=>s11=.int .i64 (rd ltInt dk a b lim wb wp).pivot/\s12=.int .i64 (Yp (rd ltInt dk a b lim wb wp).hint)/\Hid (Ex w j off (rd ltInt dk a b lim wb wp).d2 wx))
      case first=>
       by_cases hh:(rd ltInt dk a b lim wb wp).c.2=.decreasing
       ·have hcode:Yp (rd ltInt dk a b lim wb wp).c.2=2:=(by rw[hh];rfl);have HD:=ze (rd_dec hh);clear hh;have HC2:=ze (reverseE j off cap a b (rd ltInt dk a b lim wb wp).d1 w2 (zb HX).2 oa (by rw[zb HS1];omega) (by rw[zb HS1];omega));rw[zb HS1] at HC2;go_wp2_with(go_at_call 203;refine(zb HC2).mono ?_;rintro e w3 ⟨rfl,hS1⟩;have HS:=ze ((zb HX).trans hS1);clear hS1);go_meet;obtain⟨e2,epv,eht⟩:=zb HD;refine⟨?_,by rw[eht];rfl,by show Ex _ _ _ _ _;rw[e2];exact zb HS⟩;rw[epv];congr 1;omega
       ·have hcode:¬(Yp (rd ltInt dk a b lim wb wp).c.2=2):=fun h=>hh (zga h);have HD:=ze (rd_not hh);clear hh;go_wp2_with fail;go_meet;obtain⟨e2,epv,eht⟩:=zb HD;exact⟨by rw[epv],by rw[eht],by show Ex _ _ _ _ _;rw[e2];exact zb HX⟩
      case rest=>
       clear HX;obtain⟨rfl,rfl,HX⟩:=hcut;go_upto_region 15 with fail;go_cut[12,68] from 19 to 133 (fun s12 s68 wx=>s12=.int .i64 (Yp (rd ltInt dk a b lim wb wp).hint)/\s68=.bool (wb && wp && decide ((rd ltInt dk a b lim wb wp).hint=.increasing))/\Hid (Ex w j off (rd ltInt dk a b lim wb wp).d2 wx))
       case first=>
        cases wb<;>cases wp<;>cases hh3:(rd ltInt dk a b lim _ _).hint <;>
         (have hcode3:=congrArg Yp hh3
          simp only[Yp] at hcode3;go_wp2_with fail;go_meet;exact⟨by simp[hh3,Yp],by simp[hh3,Yp],zb HX⟩)
       case rest=>
        clear HX;obtain⟨rfl,rfl,HX⟩:=hcut;go_upto_if 68 with fail;go_cut[72] from 19 to 133 (fun s72 wx=>(rd ltInt dk a b lim wb wp).pi.2=false/\Hid (Ex w j off (rd ltInt dk a b lim wb wp).pi.1 wx))
        case first=>
         cases h68:(wb && wp && decide ((rd ltInt dk a b lim wb wp).hint=.increasing))
         ·have HPI:=ze (rd_pi_no h68);go_wp2_with fail;go_meet;exact⟨by rw[zb HPI],by show Ex _ _ _ _ _;rw[zb HPI];exact zb HX⟩
         ·have epi:=rd_pi_yes h68;have HC3:=ze (partialE j off cap a b (rd ltInt dk a b lim wb wp).d2 _ (zb HX).2 oa (by rw[zb HS2];omega) (by rw[zb HS2];omega));rw[zb HS2,<-epi] at HC3;have HPI:=ze epi;clear epi;go_wp2_with(go_at_call 204;refine(zb HC3).mono ?_;rintro e w4 ⟨rfl,hS1⟩;have HS:=ze ((zb HX).trans hS1);clear hS1)
          all_goals first
           |(have hp2:(rd ltInt dk a b lim wb wp).pi.2=false:=by first |assumption |(rw[zb HPI];assumption)
             go_meet;exact⟨hp2,zb HS⟩)
           |(have hp2:(rd ltInt dk a b lim wb wp).pi.2=true:=by first |assumption |(rw[zb HPI];assumption)
             (try simp only[Exit.inBlock,Exit.then]);refine bodyPost_ret (results_none rfl _ _ _) rfl ?_
             refine⟨rfl,?_⟩;rw[<-zb A,pdq_done h12 hl hp2];exact zb HS)
        case rest=>
         clear HX;obtain⟨hp2,HX⟩:=hcut;have HP2:=ze hp2;clear hp2;obtain⟨G,HG,hcw,hfw⟩:=(zb HX).fam (zb HS3);go_upto_region 17 with fail;go_cut[87] from 19 to 133 (fun s87 wx=>s87=.bool (decide (a > 0) && !ltInt (rd ltInt dk a b lim wb wp).pi.1[a-1]! (rd ltInt dk a b lim wb wp).pi.1[(rd ltInt dk a b lim wb wp).pivot]!)/\Hid (Ex w j off (rd ltInt dk a b lim wb wp).pi.1 wx))
         case first=>
          rcases zio a with ha |ha
          ·have hgz:decide ((0:Int)<(a:Int))=false:=ou;go_wp2_with fail;go_big_quiet(first |(go_at_call 205;refine Calls.quiet_of_same (zY _ _ _)));go_wp2_with fail;go_meet;exact⟨by simp[ha],(zb HX).drewN _⟩
          ·have hgz:(0:Int)<(a:Int):=oa;go_wp2_with fail;go_big_quiet(first |(go_at_call 205;refine Calls.quiet_of_same (zY _ _ _)));go_wp2_with fail;go_meet;exact⟨by rw[<-zb HG,<-zb HG];simp[ha],(zb HX).drewN _⟩
         case rest=>
          clear HX hcw hfw HG;obtain⟨rfl,HX⟩:=hcut;cases h87:(decide (a > 0) && !ltInt (rd ltInt dk a b lim wb wp).pi.1[a-1]! (rd ltInt dk a b lim wb wp).pi.1[(rd ltInt dk a b lim wb wp).pivot]!)
          ·obtain⟨mid,ap,d4,hx⟩:∃mid ap d4,partition ltInt (rd ltInt dk a b lim wb wp).pi.1 a b (rd ltInt dk a b lim wb wp).pivot=(mid,ap,d4):=⟨(partition ltInt (rd ltInt dk a b lim wb wp).pi.1 a b (rd ltInt dk a b lim wb wp).pivot).1,(partition ltInt (rd ltInt dk a b lim wb wp).pi.1 a b (rd ltInt dk a b lim wb wp).pivot).2.1,(partition ltInt (rd ltInt dk a b lim wb wp).pi.1 a b (rd ltInt dk a b lim wb wp).pivot).2.2,rfl⟩
           obtain⟨r1,r2,r3,r4,r5,r6,r7⟩:=round_part swo_ltInt (partition_holds _) hpv.1 hpv.2 (show b<=(rd ltInt dk a b lim wb wp).pi.1.size by rw[zb HS3];omega) (zb HB3) hx;have HC4:=ze (partE j off cap a b (rd ltInt dk a b lim wb wp).pivot (rd ltInt dk a b lim wb wp).pi.1 _ (zb HX).2 hpv.1 hpv.2 (by rw[zb HS3];omega) (by rw[zb HS3];omega));rw[zb HS3,hx] at HC4;have H87:=ze h87;have HQ:=ze hx;have HR3:=ze (r3.trans (zb HS3));have HR4:=ze r4;have HR5:=ze r5;have HR6:=ze r6;have HR7:=ze r7;clear hx h87 r3 r4 r5 r6 r7;go_upto_if 113 with(go_at_call 207;refine(zb HC4).mono ?_;rintro e w7 ⟨rfl,hS1⟩;have HS:=ze ((zb HX).trans hS1);clear hS1);clear HX HC4;have hsz9:=(zb HS).1.size;by_cases h4:mid-a<b-mid
           ·have h4z:(mid:Int)-(a:Int)<(b:Int)-(mid:Int):=oa;have HI:=ze (zb IH a mid (rd ltInt dk a b lim wb wp).lim d4 w7 oa (zb HR3) (zb HS).2 oa oa oa oa (zb HR4));obtain⟨pL,sL⟩:=pdq_sorts ltInt swo_ltInt d4 a mid (rd ltInt dk a b lim wb wp).lim true true oa (by rw[zb HR3];omega) (zb HR4);have HP:=ze pL;have HQ6:=ze (zb HR6 _ pL sL).1;clear pL sL;go_wp2_with(go_at_call 168;refine(zb HI).mono ?_;rintro e w8 ⟨rfl,hS1⟩;have HT:=ze ((zb HS).trans hS1);clear hS1);go_roundw
            case rel=>
             refine⟨mid+1,b,(rd ltInt dk a b lim wb wp).lim,decide (mid-a≥(b-a) / 8),ap,pdq ltInt d4 a mid (rd ltInt dk a b lim wb wp).lim true true,by go_num,rfl,rfl,?_,rfl,oa,oa,oa,oa,(zb HP).1.trans (zb HR3),zb HQ6,zb HT,?_⟩
             ·exact congrArg Value.bool (zeK oa oa)
             ·rw[<-zb A,pdq_left h12 hl (zb HP2) (zb H87) (by rw[zb HQ];exact⟨r1,r2⟩) (by rw[zb HQ];exact h4),zb HQ]
            case measure=>simp[intOf];omega
           ·have h4z:¬((mid:Int)-(a:Int)<(b:Int)-(mid:Int)):=oa;have hi:=zb IH (mid+1) b (rd ltInt dk a b lim wb wp).lim d4 w7 oa (zb HR3) (zb HS).2 oa oa oa oa (zb HR5);rw[show((mid+1:Nat):Int)=(mid:Int)+1 by omega] at hi;have HI:=ze hi;clear hi;obtain⟨pL,sL⟩:=pdq_sorts ltInt swo_ltInt d4 (mid+1) b (rd ltInt dk a b lim wb wp).lim true true oa (by rw[zb HR3];omega) (zb HR5);have HP:=ze pL;have HQ7:=ze (zb HR7 _ pL sL).1;clear pL sL;go_wp2_with(go_at_call 168;refine(zb HI).mono ?_;rintro e w8 ⟨rfl,hS1⟩;have HT:=ze ((zb HS).trans hS1);clear hS1);go_roundw
            case rel=>
             refine⟨a,mid,(rd ltInt dk a b lim wb wp).lim,decide (b-mid≥(b-a) / 8),ap,pdq ltInt d4 (mid+1) b (rd ltInt dk a b lim wb wp).lim true true,rfl,rfl,rfl,?_,rfl,oa,oa,oa,oa,(zb HP).1.trans (zb HR3),zb HQ7,zb HT,?_⟩
             ·exact congrArg Value.bool (zeK oa oa)
             ·rw[<-zb A,pdq_right h12 hl (zb HP2) (zb H87) (by rw[zb HQ];exact⟨r1,r2⟩) (by rw[zb HQ];exact h4),zb HQ]
            case measure=>simp[intOf];omega
          ·have h87':=h87;simp only[zhb,decide_eq_true_eq,zh9] at h87';obtain⟨mid,d4,hx⟩:∃mid d4,partitionEqual ltInt (rd ltInt dk a b lim wb wp).pi.1 a b (rd ltInt dk a b lim wb wp).pivot=(mid,d4):=⟨(partitionEqual ltInt (rd ltInt dk a b lim wb wp).pi.1 a b (rd ltInt dk a b lim wb wp).pivot).1,(partitionEqual ltInt (rd ltInt dk a b lim wb wp).pi.1 a b (rd ltInt dk a b lim wb wp).pivot).2,rfl⟩
           obtain⟨r1,r2,r3,r4,_⟩:=round_eq swo_ltInt (partitionEqual_holds _) h87'.1 hpv.1 hpv.2 (show b<=(rd ltInt dk a b lim wb wp).pi.1.size by rw[zb HS3];omega) (zb HB3) h87'.2 hx;have HC4:=ze (partEqE j off cap a b (rd ltInt dk a b lim wb wp).pivot (rd ltInt dk a b lim wb wp).pi.1 _ (zb HX).2 hpv.1 hpv.2 (by rw[zb HS3];omega) (by rw[zb HS3];omega));rw[zb HS3,hx] at HC4;have H87:=ze h87;have HQ:=ze hx;have HR3:=ze (r3.trans (zb HS3));have HR4:=ze r4;clear hx h87 h87' r3 r4;go_wp2_with(go_at_call 206;refine(zb HC4).mono ?_;rintro e w7 ⟨rfl,hS1⟩;have HS:=ze ((zb HX).trans hS1);clear hS1);go_roundw
           case rel=>exact⟨mid,b,(rd ltInt dk a b lim wb wp).lim,wb,wp,d4,rfl,rfl,rfl,rfl,rfl,oa,oa,oa,oa,zb HR3,zb HR4,zb HS,by rw[<-zb A,pdq_eq h12 hl (zb HP2) (zb H87) (by rw[zb HQ];exact⟨r1,r2⟩),zb HQ]⟩
           case measure=>simp[intOf];omega
theorem sortE (w:E)(h:Holds (M Ug) w j 0 d)(k:j<w.heap.size)(l:d.size<1099511627776):Uh prog 124 #[K (I ⟨j,0,U⟩) d.size cap] w λe m=>e=R (Ue #[])/\Ex w j 0 (sort ltInt d) m:=by
 have o:Lib.bitLen d.size<=62:=Lib.bitLen_le d.size 62 oa oa;have b:Lib.bitLen d.size=bitsLen d.size:=bitLen_eq _ oa;have f:=ze (pdqE j 0 d.size cap l (d.size+1) 0 d.size (Lib.bitLen d.size) d w oa rfl h k oa oa oa (Or.inl rfl));have i:H (pdq ltInt d 0 d.size (Lib.bitLen d.size) G G=sort ltInt d):=by show _=_;rw[b];rfl
 have c:=ze (zch d.size oa);have wr:IntKind.u64.wrap (d.size:Int)=d.size:=by simp[IntKind.wrap,IntKind.bits,IntKind.signed];omega
 clear h b;generalize d.size=n at *;go_enter func124,ntmps124;go_wp2_with(first|(go_at_call 169;refine(zb c _).mono ?_;rintro e m ⟨rfl,rfl⟩)|(go_at_call 168;refine f.mono ?_;rintro e p ⟨rfl,a⟩;have g:=ze a;clear a))
 go_end0
 refine⟨rfl,?_⟩;rw[<-zb i];exact g
theorem Wt:(sort ltInt d).toList.Pairwise (λx y=>x<=y)/\(sort ltInt d).toList.Perm d.toList:=by
 have h:(sort ltInt d).toList=d.toList.mergeSort (λx y=>decide (x<=y)):=by have:=sortInt d.toList;rwa [Array.toArray_toList] at this
 rw[h];refine⟨?_,List.mergeSort_perm _ _⟩;have e:=List.pairwise_mergeSort (le:=λx y:Int=>decide (x<=y)) (by intro a b c;simp;omega) (by intro a b;simp;omega) d.toList;exact e.imp (by intro a b h;simpa using h)
end
section
open Go.RowKit Go.Shelf Go.Lib Go.Sort
theorem X7:(compactUpTo d d.size).length<=d.size:=by unfold compactUpTo;rw[zil];exact zgN (List.length_filter_le _ _) ov
theorem compactE (w:E)(h:Holds (M Ug) w j 0 d)(b:d.size<1099511627776)(a:d.size<=cap):Uh prog 125 #[K (I ⟨j,0,U⟩) d.size cap] w λe m=>e=R (K (I ⟨j,0,U⟩) (compactUpTo d d.size).length cap)/\Ex w j 0 (compactUpTo d d.size++List.replicate (d.size-(compactUpTo d d.size).length) 0).toArray m:=by refine(AnyE.slices_Compact zbA (M Ug) (λ_=>rfl) (EqlAt.intD _ _ _) (NeqAt.intD _ _ _) 0 (λw=>om) j 0 cap d w h oa a).mono ?_;rintro e m ⟨rfl,q,rfl⟩;exact⟨rfl,zbB,holds_putRow _ _ j 0 d _ (holds_ahead _ w q j 0 d h) (by have:=X7 d;simp;omega)⟩
theorem zgb {d:Array Int}(h:d.toList.Pairwise (λx y=>x<=y)):∀i j,i<=j->j<d.size->d[i]!<=d[j]!:=by
 intro i j e a;rcases zhW i j with b|c;have:=zhE.1 h i j ou (by simpa using a) b;rw[getElem!_pos d i oa,getElem!_pos d j a];simpa using this
 grind
theorem zay {d:Array Int}(h:∀i j,i<=j->j<d.size->d[i]!<=d[j]!):∀m,m<=d.size->(compactUpTo d m).Pairwise (λx y=>x<y)/\(∀x∈compactUpTo d m,∃j,j<m/\d[j]! = x)/\∀j,j<m->d[j]!∈compactUpTo d m:=by
 intro m
 induction m with
 |zero=>intro _;exact⟨by simp[compactUpTo],by simp[compactUpTo],λj b=>oa⟩
 |succ m l=>
  intro q;obtain⟨g,k,r⟩:=l oa;rw[compactUpTo_succ];by_cases a:keeps d m=G
  .rw[IN a];refine⟨zh0.2 ⟨g,ov,λx c y f=>?_⟩,λx c=>?_,λj b=>?_⟩;simp at f;subst f;obtain⟨j,b,rfl⟩:=k x c;simp[keeps] at a;have n:=h j (m-1) oa oa;have o:=h (m-1) m oa oa;rcases a with a|a;omega;omega
   grind
   grind
  rw[iN a,zhc];have p:m≠0/\d[m]! = d[m-1]!:=(by unfold keeps at a;simp only[decide_eq_true_eq] at a;exact⟨λe=>a (Q e),Classical.byContradiction λe=>a (O e)⟩);refine⟨g,λx c=>?_,λj b=>?_⟩
  grind
  grind
theorem QT:(compactUpTo (sort ltInt d) (sort ltInt d).size).Pairwise (λx y=>x<y)/\∀x,x∈compactUpTo (sort ltInt d) (sort ltInt d).size↔x∈d.toList:=by
 obtain⟨c,f⟩:=Wt d;obtain⟨g,i,h⟩:=zay (zgb c) _ (zgH _);refine⟨g,λx=>⟨λb=>?_,λb=>?_⟩⟩
 grind
 obtain⟨j,a,e⟩:=zik (f.mem_iff.2 b);have:=h j (by simpa using a);rw[getElem!_pos _ j (by simpa using a)] at this;simpa [<-e] using this
set_option maxHeartbeats 4000000
set_option maxRecDepth 1000000
attribute [local go_sem] Oper.semAt_some
theorem zgc (w:E):Uh prog 125 #[K U 0 0] w λe m=>e=R (K U 0 0)/\ziE w m:=by have a:H (ziE w w):=zf.refl _ _;go_enter func125,ntmps125;go_wp2_with fail;go_ret;exact⟨rfl,a⟩
theorem JV {a:Addr}(h:m.heap[a.block]?=w.heap[a.block]?):m.frozen? a=w.frozen? a:=by unfold World.frozen?;rw[h]
structure Yu (w:E)(O:Nat->Prop)(X:E)(B:Nat)(cs:List Int):Prop where
 ex:∃sv,X.cell? ⟨w.heap.size,0,U⟩=I sv/\X.ownsRow (w.heap.size+1) 21 1 sv cs.length (xY cs)/\cs.length<=B/\∀k,O k↔k=w.heap.size\/sv.ownBlock=I k
 fr:X.frozen? ⟨w.heap.size,0,U⟩=Z
 only:ziE w X
 size:w.heap.size+1<=X.heap.size
theorem Yu.keep {X':E}{O:Nat->Prop}{B B2:Nat}{cs:List Int}(h:Yu w O X B cs)(o:w.heap.size+1<=B2)(k:zf (λk=>B2<=k/\¬O k) X X'):Yu w O X' B cs:=by
 obtain⟨n,d,e,i,a⟩:=h.ex;have b:¬(B2<=w.heap.size/\¬O w.heap.size):=λh=>oa;have q:=h.size;exact⟨⟨n,(k.cell (p:=⟨w.heap.size,0,U⟩) (by show _<_;simp only;omega) b).trans d,zl e k (λg l c=>c.2 ((a g).2 (.inr l))),i,a⟩,(k.frozen (p:=⟨w.heap.size,0,U⟩) (by show _<_;simp only;omega) b).trans h.fr,
  ⟨k.os.trans h.only.os,k.tape.trans h.only.tape,k.output.trans h.only.output,zgN h.only.size k.size,λj m _=>(k.block j oa (λc=>oa)).trans (h.only.block j m id)⟩,zgN h.size k.size⟩
theorem Yu.lt {O:Nat->Prop}{B:Nat}{cs:List Int}(h:Yu w O X B cs):∀k,O k->k<X.heap.size:=λk c=>by obtain⟨g,d,a,f,b⟩:=h.ex;rcases(b k).1 c with e|e;have:=h.size;omega;exact(zh a k e).2
theorem Yu.up {O:Nat->Prop}{B C:Nat}{cs:List Int}(h:Yu w O X B cs)(f:B<=C):Yu w O X C cs:=by obtain⟨d,a,b,e,c⟩:=h.ex;exact⟨⟨d,a,b,oa,c⟩,h.fr,h.only,h.size⟩
theorem Yu.push {O:Nat->Prop}{B B':Nat}{i c:Y}{cs:List Int}{a b:Int}(h:Yu w O X B cs)(m:X.cell? ⟨w.heap.size,0,U⟩=I i)(r:X.ownsRow (w.heap.size+1) 21 1 i cs.length (xY cs))(N:cs.length+2<=B')(n:∀k,O k↔k=w.heap.size\/i.ownBlock=I k)(l:zf (λk=>i.ownBlock=I k) X V) (q:V.ownsRow (w.heap.size+1) 21 1 c (cs.length+2) (xY cs++[M Ug a,M Ug b])) (L:∀k,c.ownBlock=I k->i.ownBlock=I k\/X.heap.size<=k):Yu w (λk=>k=w.heap.size\/c.ownBlock=I k) (V.setCell ⟨w.heap.size,0,U⟩ c) B' (cs++[a,b])/\(∀k,(k=w.heap.size\/c.ownBlock=I k)->O k\/X.heap.size<=k)/\zf O X (V.setCell ⟨w.heap.size,0,U⟩ c):=by
 have y:=h.size;have o:¬i.ownBlock=I w.heap.size:=λe=>by have:=(zh r _ e).1;omega
 have x:¬c.ownBlock=I w.heap.size:=λe=>by have:=(zh q _ e).1;omega
 have c1:=(l.cell (p:=⟨w.heap.size,0,U⟩) (zgF _ _ m) o).trans m;have s:=(l.frozen (p:=⟨w.heap.size,0,U⟩) (zgF _ _ m) o).trans h.fr;have z:zf (λk=>k=w.heap.size) V (V.setCell ⟨w.heap.size,0,U⟩ c):=(zf.refl (λk=>k=w.heap.size) V).setCell (p:=⟨w.heap.size,0,U⟩) (Q rfl) _;have d:zf O X (V.setCell ⟨w.heap.size,0,U⟩ c):=(l.mono (λk _ e=>(n k).2 (.inr e))).setCell (p:=⟨w.heap.size,0,U⟩) (Q ((n _).2 (Q rfl))) _;have v:(cs++[a,b]).length=cs.length+2:=ov;refine⟨⟨⟨c,zgL _ _ _ c1,?_,oa,λk=>Iff.rfl⟩,(zk _ _ _ _).trans s,?_,zgN y d.size⟩,λk F=>?_,d⟩;rw[v,Q9];exact zl q z (λg t e=>x (e ▸ t))
 .exact⟨d.os.trans h.only.os,d.tape.trans h.only.tape,d.output.trans h.only.output,zgN h.only.size d.size,λj u _=>(d.block j (by have:=h.only.size;omega) (λe=>by
   rcases(n j).1 e with e|e;omega;have:=(zh r _ e).1;omega)).trans (h.only.block j u id)⟩
 grind
theorem Yu.row {j n cap:Nat}{cs:List Int}(g:X.ownsRow (w.heap.size+1) 21 1 (K (I ⟨j,0,U⟩) n cap) n (xY cs)):Holds (M Ug) X j 0 cs.toArray/\n=cs.length/\n<=cap:=by
 rcases g.2 with⟨a,_⟩|⟨l,k,b,a,m,d,o,p,q,h⟩;cases a;cases a;have e:cs.length=n:=by have:=g.1;simpa [xY] using this
 have i:∀t,t<n->b[t]?=I (M Ug (cs.toArray[t]!)):=λt f=>by have c:(b.toList.take (n*1))[t]?=(xY cs)[t]?:=(by rw[h]);rw[zhQ oa] at c;rw[<-Array.getElem?_toList,c];rw[getElem!_pos _ t ou];simp[xY,List.getElem?_map,List.getElem?_eq_getElem (show t<cs.length by omega)]
 refine⟨λt f=>⟨?_,?_⟩,e.symm,oa⟩;unfold World.cell?;rw[d];simpa using i t (by simpa [e] using f);unfold World.frozen?;rw[d];simp
def rawP (l:List (Int×Int)):List Int:=l.flatMap (λy=>[y.1,y.2+1])
def wN (a:Slc->List (Int×Int))(xs:List Slc):List Int:=xs.flatMap (λp=>rawP (a p))
theorem zgd (l:List (Int×Int))(y:Int×Int):rawP (l++[y])=rawP l++[y.1,y.2+1]:=by simp[rawP]
theorem zge (a:Slc->List (Int×Int))(xs:List Slc)(p:Slc):wN a (xs++[p])=wN a xs++rawP (a p):=by simp[wN]
def kU (cs:List Int):List Int:=compactUpTo (sort ltInt cs.toArray) (sort ltInt cs.toArray).size
def CutV (w m:E)(v:Y)(cs:List Int):Prop:=(v=K U 0 0/\cs=[])\/∃g cap,v=K (I ⟨g,0,U⟩) (kU cs).length cap/\w.heap.size<g/\Holds (M Ug) m g 0 (kU cs).toArray
theorem jY:(sort ltInt d).size=d.size:=by have:=(Wt d).2.length_eq;simpa using this
theorem Holds.front {zs:List Int}{k:Nat}(h:Holds (M Ug) w g 0 (zs++List.replicate k 0).toArray):Holds (M Ug) w g 0 zs.toArray:=by
 intro j a;have d:j<zs.length:=by simpa using a
 obtain⟨b,c⟩:=h j ou;refine⟨?_,c⟩;rw[b,getElem!_pos _ j ou,getElem!_pos _ j a];simp[List.getElem_append_left d]
theorem QU (P:Slc->List (Int×Int))(gf:Nat)(lb:Array Y)(xs:List Slc)(D:Nat->Prop)(w:E)(eg:∀args w,(callFunc gf args).run prog w=.ok (.enter gf args) w)(bk:SeqO Fence.wide 8 prog gf lb KM xs D w)(hD:∀k,D k->k<w.heap.size)(hl:xs.length<=1001)(bl:∀p∈xs,∃A,yO w A (slV p) (P p)/\zQ (P p)):Uh prog 71 #[.func (.func gf) #[] lb] w λe m=>(∃v,e=R v/\CutV w m v (wN P xs))/\ziE w m:=by
 obtain⟨i0,hi,aJ,aK,aL⟩:=info_parts Tryz.infoRune;have bE:=ze bk;have HD:=ze hD;have bF:=ze bl;have bw:=ze (Ur hi (Ur aJ (Ur aK aL)));clear bk hD bl hi aJ aK aL;refine(callsIn_wide (n:=9)).1 ?_;refine callsIn_of_wp_marks func71 rfl trivial ?_ rfl;simp only[ntmps71,zhg,zg4,zhe,Nat.reduceAdd,Nat.reduceSub,zhA,zhz,zhK,zhC,zho,zhf];gi_wp2;have aj:H (ziE w (w.alloc (Ub #[K U 0 0] 166))):=(zf.refl _ _).alloc _;have cl:(w.alloc (Ub #[K U 0 0] 166)).heap.size=w.heap.size+1:=ov;have bv:H (Yu w (λk=>k=w.heap.size) (w.alloc (Ub #[K U 0 0] 166)) 0 []):=⟨⟨K U 0 0,zm w _ rfl _ _ 0 _ rfl,zgP _ _ _ _,zgH _,(λk=>by simp[Value.ownBlock])⟩,zu w _ rfl _ _ 0,aj,oa⟩
 generalize w.alloc (Ub #[K U 0 0] 166)=w1 at *;refine zaN (F:=Fence.wide) rfl oa (gf:=gf) (lb:=lb) rfl trivial eg
  (bE.later aj) (λ_=>rfl) (λN ad X=>Yu w ad X (2300000*N.length) (wN P N)) (λk=>k=w.heap.size) (λk s=>oa) (λk s=>by have:=zb HD k s;exact⟨oa,oa⟩) (λN ad X X' h k=>h.keep oa k) bv
  (λx a V=>∃k,a = { tmps:=#[.func (.func gf) #[] lb,undef,K U 0 0,Ua (I ⟨w.heap.size,0,U⟩),Ua (I ⟨k,0,U⟩),undef,undef,.func (.func gf) #[] lb,Uf #[slV x],undef,undef,undef,undef,undef,undef,undef,undef,undef,undef,undef,undef,undef,undef],defers:=[] }/\V.cell? ⟨k,0,U⟩=I (slV x)) ?ax ?assign ?body ?done
 case ax=>
  rintro x a V l o o' ⟨k,h1,h2⟩ bf ho;have bT:k≠l:=by
   rintro rfl;unfold World.cell? at h2;rw[bf] at h2;cases o with
   |cells c T f=>simp[Obj.isCells] at ho
   |_=>simp at h2
  exact⟨k,h1,(zhq (w:=V) (World.putObj_heap_other bT)).trans h2⟩
 case assign=>
  intro l x W bH hK;obtain⟨xa,xn,xc⟩:=x;unfold KM;simp only[slV] at hK ⊢;have hA:ziE W (W.alloc (Ub #[K xa xn xc] 161)):=(zf.refl _ _).alloc _;have hC:(W.alloc (Ub #[K xa xn xc] 161)).cell? ⟨W.heap.size,0,U⟩=I (K xa xn xc):=zm W _ rfl _ _ 0 _ rfl;gi_wp2;exact hK _ _ hA ⟨W.heap.size,rfl,hC⟩
 case body=>
  rintro l N ad x a V ce b8 ⟨r,hr⟩ hI bg ⟨k,rfl,s⟩;obtain⟨A,aH,aG⟩:=zb bF x (bg.subset ov);obtain⟨ls,aQ⟩:∃ls,P x=ls:=⟨_,rfl⟩
  rw[aQ] at aH aG;have bA:H (wN P (N++[x])=wN P N++rawP ls):=by show _=_;rw[zge,aQ]
  clear aQ;obtain⟨xa,xn,xc⟩:=x;simp only[slV] at s aH ⊢;have aB:=ze hI;have cf:=aG.len;have bV:=bg.length_le;simp only[zgK,zg7] at bV;have bB:=ze aG;have bC:=ze (aH.mono (B:=λg=>g<w.heap.size) (λg hg _=>hg));clear hI aH aG;gi_wp2;refine⟨trivial,(CallsIn.inRound l (callsIn_wide.2 (XN _ _ ⟨_,_,_,rfl⟩))).mono ?_⟩;rintro e V1 ⟨v,rfl,aU,rfl,cc,be,b⟩;have ay:=ze b;have a3:=ze be;have bW:=(b.block l (zgM.1 hr).1 id).trans hr;have ck:=aB.size;have cj:=b.size;have a2:H (Yu w ad V1 (2300000*N.length) (wN P N)):=aB.keep (B2:=w.heap.size+1) (zgH _) (b.mono (λ_ _ f=>f.elim));have bD:=ze (bC.keep (aB.only.trans b) (λ_ _ f=>f));clear b be;gi_wp2;refine zaO (F:=Fence.wide.inRound l) rfl bW oa (gf:=198) (lb:=#[Ua (I ⟨aU,0,U⟩)]) rfl trivial (enters_of func198 om rfl)
   (ZQ _ ls _ aU V1 bD a3 oa (9-1-1-1) oa) (λ_=>rfl) (λai O2 X=>Yu w O2 X (2300000*N.length+2*ai.length) (wN P N++rawP ai)/\zf ad V1 X/\∀k,O2 k->ad k\/V1.heap.size<=k) ad a2.lt ?d (λai O2 X X' h k=>⟨h.1.keep oa k,⟨k.os.trans h.2.1.os,k.tape.trans h.2.1.tape,k.output.trans h.2.1.output,zgN h.2.1.size k.size,λj L hn=>(k.block j (zgJ L h.2.1.size) (λhp=>oa)).trans (h.2.1.block j L hn)⟩,h.2.2⟩) ⟨by simpa [rawP] using zb a2,zf.refl _ _,λk s=>Q s⟩
   (λy=>{ tmps:=#[.func (.func gf) #[] lb,undef,K U 0 0,Ua (I ⟨w.heap.size,0,U⟩),Ua (I ⟨k,0,U⟩),M Ug y.1,M Ug y.2,.func (.func gf) #[] lb,Uf #[K xa xn xc],Uf #[K xa xn xc],.func (.func 198) #[] #[Ua (I ⟨aU,0,U⟩)],M Ug y.1,M Ug y.2,undef,undef,undef,undef,undef,undef,undef,undef,undef,undef],defers:=[] }) ?assign2 ?body2 ?done2
  case d=>
   obtain⟨sv,S,z,q3,q4⟩:=aB.ex;rintro j (rfl|⟨h1,h2⟩);refine⟨zgF V1 _ a3,λL=>?_⟩;rcases(q4 j).1 L with e|e;omega;have:=(zh z j e).2;omega;refine⟨h2,λL=>?_⟩;rcases(q4 j).1 L with e|e;omega;have:=(zh z j e).1;omega
  case assign2=>
   intro l' y W bH hK;unfold Zx;gi_wp2;exact hK
  case body2=>
   rintro l' ai O2 y X bf b9 ⟨r',ci⟩ ⟨q,i,aI⟩ bh;have hy:=bB.2 y (bh.subset ov);have bU:=bh.length_le;simp only[zgK,zg7] at bU;obtain⟨cs,ab⟩:∃cs,wN P N++rawP ai=cs:=⟨_,rfl⟩
   rw[ab] at q;have br:H (∀y,wN P N++rawP (ai++[y])=cs++[y.1,y.2+1]):=(by intro y;rw[zgd,<-ab,zgX]);clear ab;obtain⟨sv,S,z,q3,q4⟩:=q.ex;have q5:=q.fr;obtain⟨pa,pn,pc,rfl⟩:=zr z;obtain⟨hi,aJ,aK,aL⟩:=zb bw;obtain⟨ya,yb⟩:=y;unfold okS at hy;simp only[] at hy ⊢;have cm:wrap32 (yb+1)=yb+1:=(by unfold wrap32;omega);have bG:=ze q;have aO:=ze z;have aN:=ze (Ur i aI);have bO:=q.size;clear q z i aI
   gi_wp2_with (gi_at_builtin;refine zb ?_)
   refine ze ?_;refine zab _ rfl _ _ 166 rfl (w.heap.size+1) 21 i0 (M Ug 0) 1 4 underlying166 hi aJ aK aL rfl od (K pa pn pc) cs.length (xY cs) rfl (zgO aO _) ⟨X.heap.size,0,U⟩ 2 2 [M Ug ya,M Ug (yb+1)] rfl rfl (cell_two_new _ _ _ _) (λu hu=>by simp at hu;rcases hu with rfl|rfl<;>rfl) oa (by unfold maxLen;omega) oa ou ?_;intro v' V3 aT bc bj;obtain⟨co,cq,cp,rfl⟩:=zr aT;have aC:=((zf.refl (λk=>(K pa pn pc).ownBlock=I k) X).alloc (Ub #[M Ug ya,M Ug (yb+1)] 21)).grown bc (λk s=>Q s);have az:¬(K pa pn pc).ownBlock=I w.heap.size:=λe=>(by have:=(zh aO _ e).1;omega);have c1:=(aC.cell (p:=⟨w.heap.size,0,U⟩) (zgF _ _ S) az).trans S;have c2:=(aC.frozen (p:=⟨w.heap.size,0,U⟩) (zgF _ _ S) az).trans q5;have bx:=ze (bG.push S aO (B':=2300000*N.length+2*(ai.length+1)) oa q4 aC aT (λk s=>(bj k s).imp_right (λh=>by simp at h;omega)));clear aT bc bj aC;gi_wp2;obtain⟨g1,g2,g3⟩:=zb bx;have i:=aN.1;refine⟨_,⟨by rw[zb br (ya,yb)];simpa using g1,⟨g3.os.trans i.os,g3.tape.trans i.tape,g3.output.trans i.output,zgN i.size g3.size,λj L hn=>(g3.block j (zgJ L i.size) (λho=>(aN.2 j ho).elim hn (λh=>oa))).trans (i.block j L hn)⟩,λk s=>?_⟩,g2,g3,g1.lt⟩;rcases g2 k s with h|h;exact aN.2 k h;exact O (zgN i.size h)
  case done2=>
   rintro O2 X ⟨q,i,aI⟩;have b:=zb ay;refine⟨O2,by show Yu _ _ _ _ _;rw[zb bA];exact q.up ou,λk s=>(aI k s).imp_right (λh=>oa),⟨i.os.trans b.os,i.tape.trans b.tape,i.output.trans b.output,zgN b.size i.size,λj L hn=>(i.block j oa hn).trans (b.block j L id)⟩,q.lt⟩
 case done=>
  rintro Dm ad V b7 bN q hK;obtain⟨cs,ab⟩:∃cs,wN P xs=cs:=⟨_,rfl⟩
  rw[ab] at q;have aZ:=ze ab;clear ab;obtain⟨sv,S,z,q3,q4⟩:=q.ex;have af:=q.only;have bO:=q.size;have bM:Dm<V.heap.size:=(zgM.1 hK).1;have aD:¬sv.ownBlock=I Dm:=λe=>bN ((q4 Dm).2 (O e));have az:¬sv.ownBlock=I w.heap.size:=λe=>by have:=(zh z _ e).1;omega
  have aR:∀k,sv.ownBlock=I k->w.heap.size+1<=k:=λk e=>(zh z k e).1;clear q;have a1:H (∀V2,zf (λk=>sv.ownBlock=I k) V V2->V2.heap[Dm]?=I (.deferred (I []))/\ziE w (V2.putObj Dm (.deferred U))):=λV2 h=>⟨(h.block Dm bM aD).trans hK,⟨h.os.trans af.os,h.tape.trans af.tape,h.output.trans af.output,by rw[xK];exact zgN af.size h.size,λj L _=>(World.putObj_heap_other oa).trans ((h.block j (by have:=af.size;omega) (λe=>by have:=aR j e;omega)).trans (af.block j L id))⟩⟩
  rcases z.2 with⟨rfl,bZ⟩|⟨g,cap,b6,rfl,ca,hg,cg,cb,ab,bX⟩
  .have bQ:cs=[]:=(by simpa using bZ);subst bQ;clear z aD az aR af
   gi_wp2_with (refine⟨trivial,?_⟩;gi_at_call 124;refine(callsIn_wide.2 (sortN _)).mono ?_;rintro e V1 ⟨rfl,ah⟩;have m1:=(ah.cell (p:=⟨w.heap.size,0,U⟩) (zgF _ _ S) id).trans S;have aj:=ze ah;clear ah)
   refine⟨trivial,(callsIn_wide.2 (zgc _)).mono ?_⟩;rintro e V2 ⟨rfl,b⟩;have ay:=ze (aj.trans b);clear b
   gi_wp2
   obtain⟨g1,g2⟩:=zb a1 _ (ay.mono (λ_ _ f=>f.elim));refine⟨ov,Q ⟨_,_,rfl,run_takeDeferred g1,?_⟩⟩;exact⟨_,results_tmp rfl _ _ _,⟨_,rfl,Q ⟨rfl,aZ⟩⟩,g2⟩
  have aP:=Yu.row z;have bR:=(zh z g rfl).2;have a4:=ze (sortE g cap cs.toArray V aP.1 bR ou);have bP:=aP.2.2;have bY:w.heap.size<g:=oa;have aE:g≠Dm:=λe=>aD (by simp only[Value.ownBlock];exact congrArg I e);rw[zhg] at a4;clear z aD aR af aP ab bX;have bS:¬zt g w.heap.size:=λe=>az (by simp only[Value.ownBlock];exact congrArg I e.symm)
  gi_wp2_with (refine⟨trivial,?_⟩;gi_at_call 124;refine(callsIn_wide.2 a4).mono ?_;rintro e V1 ⟨rfl,ah,ba⟩;have m1:=(ah.cell (p:=⟨w.heap.size,0,U⟩) (zgF _ _ S) bS).trans S;have aj:=ze ah;have bz:=ze ba;clear ah ba)
  have a0:=ze (compactE g cap (sort ltInt cs.toArray) V1 bz (by rw[jY];simp;omega) (by rw[jY];simpa using bP));rw[jY,zhg] at a0;refine⟨trivial,(callsIn_wide.2 a0).mono ?_⟩;rintro e V2 ⟨rfl,b,a8⟩;have ay:=ze (aj.trans b);have bt:=ze a8;clear b a8;gi_wp2;have h9:Holds (M Ug) V2 g 0 (kU cs).toArray:=(by unfold kU;rw[jY,zhg];exact Holds.front bt);have bu:H (Holds (M Ug) (V2.putObj Dm (.deferred U)) g 0 (kU cs).toArray):=λt ht=>⟨(zhq (w:=V2) (World.putObj_heap_other (by first|exact aE|exact aE.symm))).trans (h9 t ht).1,(JV (World.putObj_heap_other (by first|exact aE|exact aE.symm))).trans (h9 t ht).2⟩
  obtain⟨g1,g2⟩:=zb a1 _ (ay.mono (λk _ f=>by simp only[Value.ownBlock];exact congrArg I (Eq.symm f)));refine⟨ov,Q ⟨_,_,rfl,run_takeDeferred g1,?_⟩⟩;refine⟨_,results_tmp rfl _ _ _,⟨_,rfl,by rw[zb aZ];exact O ⟨g,cap,by first|(unfold kU;rw[jY,zhg];done)|(unfold kU;rw[jY,zhg];rfl)|(unfold kU;simp[jY,Act.put,Act.eval]),bY,bu⟩⟩,g2⟩
open Sm (Stp Tree yJ)
theorem yO.one {A B:Nat->Prop}{v:Y}{l e:List (Int×Int)}(h:yO w A v l)(k:yO w B v e):l=e:=by
 rcases h with⟨b,m⟩|⟨g,cap,b,_,_,_,n⟩<;>rcases k with⟨a,r⟩|⟨u,t,a,_,_,_,s⟩
 rw[m,r];rw[b] at a;simp at a;rw[b] at a;simp at a;rw[b] at a;simp at a;obtain⟨rfl,q,rfl⟩:=a;refine List.ext_getElem q (λi o p=>?_);obtain⟨f,j⟩:=n i _ (zgE o);obtain⟨c,d⟩:=s i _ (zgE p);rw[f] at c;rw[j] at d;simp at c d;exact Prod.ext c d
open Classical in
theorem kR.spansF {cap h:Nat}{j:List (Stp×Y)}{i:Slc}{W:Int->Bool}{zs:List Slc}(a:kR w V pb g cap h j i W)(q:j.map Prod.snd=zs.map slV):∃f:Slc->List (Int×Int),(∀p∈i :: zs,∃A,yO V A (slV p) (f p)/\zQ (f p))/\(∀c,Eqv.zK (f i) c=W c)/\∀z∈j,∃p∈zs,∀c,Eqv.zK (f p) c=jC z.1 c:=by
 have o:=a.spans q;refine⟨λp=>if b:∃l A,yO V A (slV p) l/\zQ l then Classical.choose b else [],λp b=>?_,λc=>?_,λz r=>?_⟩
 grind
 have b:=o i zgQ;simp only[dif_pos b];obtain⟨A,m,_⟩:=Classical.choose_spec b;obtain⟨t,l,d,e,_,k⟩:=a.word;simp at d;subst d;rw[m.one e];exact k c;have:z.2∈zs.map slV:=by rw[<-q];exact zhS r
 obtain⟨p,n,s⟩:=zhF.1 this;refine⟨p,n,λc=>?_⟩;have b:=o p (zgR _ n);simp only[dif_pos b];obtain⟨A,m,_⟩:=Classical.choose_spec b;obtain⟨t,l,d,e,_,k⟩:=a.sets z r;simp at d;subst d;rw[<-s] at e;rw[m.one e];exact k c
theorem zeL {a:Slc->List (Int×Int)}{xs:List Slc}{p:Slc}(d:p∈xs):∀x∈a p,x.1∈kU (wN a xs)/\x.2+1∈kU (wN a xs):=by
 intro x c;have h:=(QT (wN a xs).toArray).2;have b:∀y,y∈rawP (a p)->y∈kU (wN a xs):=λy e=>by unfold kU;rw[h];simp only[wN];exact zh2.2 ⟨p,d,e⟩
 exact⟨b _ (zh2.2 ⟨x,c,ov⟩),b _ (zh2.2 ⟨x,c,ov⟩)⟩
theorem zeM {a:Slc->List (Int×Int)}{xs:List Slc}{V:E}(h:∀p∈xs,∃A,yO V A (slV p) (a p)/\zQ (a p)):∀x∈kU (wN a xs),0<=x/\x<=1114112:=by intro x e;have b:=((QT (wN a xs).toArray).2 x).1 e;simp only[wN,zh2] at b;obtain⟨p,d,f⟩:=b;obtain⟨A,_,_,c⟩:=h p d;obtain⟨y,i,g⟩:=zh2.1 f;have:=c y i;simp[okS] at this g;omega
theorem QV (cs:List Int):(kU cs).Pairwise (· < ·):=(QT cs.toArray).1
theorem zcj {f:List (Stp×Y)}{a:Slc->List (Int×Int)}{b:Slc}{zs:List Slc}{W:Int->Bool}(g:∀c,Eqv.zK (a b) c=W c)(i:∀z∈f,∃p∈zs,∀c,Eqv.zK (a p) c=jC z.1 c){c d:Int}(h :  grp (kU (wN a (b :: zs))) c =  grp (kU (wN a (b :: zs))) d):W c=W d/\∀z∈f,jC z.1 c=jC z.1 d:=by refine⟨?_,λz k=>?_⟩;rw[<-g,<-g];exact  Fnd.alike (zeL zgQ) h;obtain⟨p,j,e⟩:=i z k;rw[<-e,<-e];exact  Fnd.alike (zeL (zgR _ j)) h
end
section
open Go.RowKit Go.Shelf Go.Lib
open Sm (Stp Tree yJ)
set_option maxHeartbeats 4000000
set_option maxRecDepth 1000000
def CutsAt (w:E)(A:Nat->Prop)(pb:Nat)(cs:List Int):Prop:=∃v,w.cell? ⟨pb,3,U⟩=I v/\((v=K U 0 0/\cs=[])\/∃g cap,v=K (I ⟨g,0,U⟩) cs.length cap/\A g/\g≠pb/\Ut (M Ug) w g 0 cs.toArray)
theorem CutV.slice (h:CutV w m v cs):∃a k c,v=K a k c:=by rcases h with⟨h,_⟩|⟨g,cap,h,_⟩<;>exact⟨_,_,_,h⟩
theorem zgf:kU []=[]:=List.eq_nil_iff_forall_not_mem.2 (λx a=>by have:=((QT (#[]:Array Int)).2 x).1 a;simp at this)
theorem CutV.cutsAt {A:Nat->Prop}(h:CutV w m v cs)(i:pb<w.heap.size)(e:∀g,w.heap.size<g->A g):(∃u,m.cell? ⟨pb,3,U⟩=I u)->CutsAt (m.setCell ⟨pb,3,U⟩ v) A pb (kU cs):=by rintro⟨u,f⟩;refine⟨v,zgL _ _ _ f,?_⟩;rcases h with⟨a,b⟩|⟨g,cap,a,b,c⟩;exact Q ⟨a,by rw[b];exact zgf⟩;refine O ⟨g,cap,a,e g b,oa,λt d=>⟨?_,(zk _ _ _ _).trans (c t d).2⟩⟩;exact(zgI _ _ _ _ (by simp<;>omega)).trans (c t d).1
theorem newX (F:Nat)(T:Tree)(v:Value)(w:World)(hp:Yv F w w.heap.size v T)(hif:∃T y,v=.iface T y)(hc:yJ F T<=299):Calls prog 37 #[v] w fun e m=>∃pb W cs,e=.returned (.pointer (some ⟨pb,0,none⟩))/\kr m (fun g=>w.heap.size<=g) pb (prg F T).2 (prg F T).1 W/\(((prg F T).2.any askS)=true->W=zX 119)/\CutsAt m (fun g=>w.heap.size<=g) pb cs/\cs.Pairwise (· < ·)/\(∀x∈cs,0<=x/\x<=1114112)/\(∀c d,grp cs c=grp cs d->W c=W d/\∀s∈(prg F T).2,jC s c=jC s d)/\ziE w m:=by
 obtain⟨iT,iy,rfl⟩:=hif;have hlen:((prg F T).2.length:Int)<=300:=by
  have:=J4 hp.at'.wf oa 0 [j8];simp at this;unfold prg;omega
 have HP:=ze hp;clear hp;have HO1:Hid (ziE w (w.alloc (.cells #[.slice none 0 0] 156))):=(zf.refl _ _).alloc _;have HB1:Hid (je (w.alloc (.cells #[.slice none 0 0] 156)) w.heap.size []):=⟨⟨.slice none 0 0,zm w _ rfl _ _ 0 _ rfl,zgP _ _ _ _,fun z hz=>by cases hz⟩,zu w _ rfl _ _ 0⟩
 go_enter func37,ntmps37;go_upto_region 4 with(first |(go_at_call 66;refine(Zu w.heap.size [] j8 _ (zb HB1) od od).mono ?_;rintro e w2 ⟨Z2,rfl,hZ2,hB2⟩;have HB2:=ze hB2;have HZ2:=ze hZ2;clear hB2 hZ2));have hs2:sts Z2=[j8]:=by have:=zb HZ2;simpa [sts] using this
 have hO2:zf (fun k=>w.heap.size<=k) w w2:=((zb HO1).mono (fun _ _ f=>f.elim)).trans (zb HB2).only;have HBu:Hid (Calls prog 67 #[.pointer (some ⟨w.heap.size,0,none⟩),.iface iT iy,.int .i64 0] w2 (ZO w2 w.heap.size (prg F T))):=by
  have hb:=ze8 w.heap.size F (.iface iT iy) T 0 Z2 w2 ((zb HP).keep hO2) (zb HB2).at' (by rw[<-yd,hs2];decide) (by rw[hs2];unfold prg at hlen;omega);rw[hs2] at hb;exact hb
 clear hs2;refine(zb HBu).mono ?_;rintro e w3 ⟨Z,rfl,hZ,hB3⟩;obtain⟨sv,d1,_⟩:=hB3.at'.ex;have hO3:ziE w w3:=by
  have:=hO2.trans hB3.only;exact⟨this.os,this.tape,this.output,this.size,fun j hj _=>this.block j hj oa⟩
 have hZl:Z.length=(prg F T).2.length:=by rw[<-hZ,yd]
 have hpos:0<Z.length:=by
  have:=xl F T 0 [j8];simp at this;unfold prg at hZl;omega
 obtain⟨g,cap,rfl,hN⟩:=zbE (h:=(prg F T).1) hB3.at' d1 hpos hO3;have HN:=ze hN;have HZ:=ze hZ;have HZl:=ze hZl;clear hZ hZl hN hB3 hO3 hO2;have hZ300:Z.length<=300:=by have:=zb HZl;omega
 have HFit:Hid (∀(k:Nat) s,(prg F T).2[k]?=some s->s.next<(prg F T).2.length/\s.other<(prg F T).2.length):=by
  intro k s hk;exact zb9 F T 0 [j8] ov (fun s hs=>by obtain rfl:=zgT.1 hs;decide) s (zgS hk)
 have HStl:Hid ((prg F T).1<(prg F T).2.length):=jr F T 0 [j8] ov;go_upto_region 5 with fail;generalize w3.alloc (.cells #[.slice (some ⟨g,0,none⟩) Z.length cap,.int .i64 ((prg F T).1:Nat),.slice none 0 0,.slice none 0 0] 168)=w4 at *;generalize w3.heap.size=pb at *;have hc0:=(zb HN).at'.c0;obtain⟨zs,hzs⟩:=slcs Z (zb HN).sets;have Hzs:=ze hzs;clear hzs;have HCo:=ze (KO Z g cap w4 (fun z hz=>zac ((zb HN).sets z hz)) (zb HN).at'.row (zb HN).at'.gl oa);have hany:Z.any (fun z=>askS z.1)=(prg F T).2.any askS:=by rw[<-zb HZ];unfold sts;rw[List.any_map];rfl
 rw[hany] at HCo;clear hany hpos d1;cases hcb:(prg F T).2.any askS
 ·rw[hcb] at HCo;have Hcb:=ze hcb;clear hcb;go_upto_region 7 with(go_at_call 68;refine(zb HCo).mono ?_;rintro e w5 ⟨rfl,hO5⟩;have HN6:=ze ((zb HN).keep hO5);clear hO5);go_wp2_with(first |(go_at_call 72;refine(zbD pb _).mono ?_;rintro e w8 ⟨v,rfl,kb,rfl,hkb1,hkb2,hO8⟩;have HN8:=ze ((zb HN6).keep hO8);have HK8:=ze hkb2;have hkl:=zgF w8 _ hkb2;clear hO8 hkb2) |(go_at_call 71;(obtain⟨sp,hsp1,hsp2,hsp3⟩:=(zb HN8).spansF (zb Hzs));have HSp:=ze (And.intro hsp2 hsp3);have HBd:=ze (zeM hsp1);have hpl8:=(zb HN8).pl;have ho8:=(zb HN8).only.size;refine(QU sp 126 #[.pointer (some ⟨kb,0,none⟩)] (((none,0,0):Slc) :: zs) (fun k=>k=kb\/k=pb\/k=g) _ (enters_of func126 om rfl) (zbC pb g cap kb Z ((none,0,0):Slc) zs _ (zb HN8).at' (zb HK8) (zb Hzs) oa 8 oa) (fun k hk=>by rcases hk with rfl |rfl |rfl;exact hkl;exact(zb HN8).pl;exact(zb HN8).at'.gl) (by have h9:=congrArg List.length (zb Hzs);simp at h9;simp;omega) hsp1).mono ?_;rintro e w9 ⟨⟨v9,rfl,hV9⟩,hO9⟩;(obtain⟨ra,rk,rc,rfl⟩:=hV9.slice);have HV9:=ze (hV9.cutsAt (pb:=pb) (A:=fun g=>w.heap.size<=g) hpl8 (fun g hg=>oa));clear hsp1 hsp2 hsp3 hpl8 ho8 hV9;have hN9:=(zb HN8).keep hO9;(obtain⟨u9,d3⟩:=hN9.c3);have f3:=hN9.f3;have HN9:=ze hN9;clear hO9 hN9));go_ret;have hE:=(zb HN9).setOther (.slice ra rk rc);refine⟨pb,(fun _=>false),_,rfl,?_,?_,zb HV9 (zb HN9).c3,QV _,zb HBd,fun c d hg=>?_,hE.only⟩
  ·have hPr:=hE.prog oa ?_ ?_
   ·rw[zb HZ] at hPr;exact hPr
   ·rw[zb HZ];exact zb HFit
   ·rw[zb HZ];exact zb HStl
  ·intro a;rw[zb Hcb] at a;cases a
  ·obtain⟨a1,a2⟩:=zcj (zb HSp).1 (zb HSp).2 hg;refine⟨a1,fun s hs=>?_⟩;rw[<-zb HZ] at hs;obtain⟨z,hz1,rfl⟩:=zhF.1 hs;exact a2 z hz1
 ·rw[hcb] at HCo;clear hcb;go_upto_region 7 with(first |(go_at_call 68;refine(zb HCo).mono ?_;rintro e w5 ⟨rfl,hO5⟩;have HN5:=ze ((zb HN).keep hO5);clear hO5) |(go_at_call 70;refine(Yz _).mono ?_;rintro e w6 ⟨v,rfl,hS6,hO6⟩;(obtain⟨sv6,sp6,rfl,_⟩:=id hS6);(obtain⟨⟨pa6,pn6,pc6⟩,rfl⟩:=zac hS6);unfold slV at hS6 ⊢;simp only[] at hS6 ⊢;have hN6:=(zb HN5).keep hO6;have d2:=hN6.at'.c2;have f2:=hN6.f2;have HW:=ze (hN6.setWord (ws':=(pa6,pn6,pc6)) (W':=zX 119) (hS6.mono (fun q _ hq=>⟨by have:=(zb HN5).only.size;omega,by have:=(zb HN5).pl;omega⟩)));clear hN6 hS6 hO6));have HN6:=HW;go_wp2_with(first |(go_at_call 72;refine(zbD pb _).mono ?_;rintro e w8 ⟨v,rfl,kb,rfl,hkb1,hkb2,hO8⟩;have HN8:=ze ((zb HN6).keep hO8);have HK8:=ze hkb2;have hkl:=zgF w8 _ hkb2;clear hO8 hkb2) |(go_at_call 71;(obtain⟨sp,hsp1,hsp2,hsp3⟩:=(zb HN8).spansF (zb Hzs));have HSp:=ze (And.intro hsp2 hsp3);have HBd:=ze (zeM hsp1);have hpl8:=(zb HN8).pl;have ho8:=(zb HN8).only.size;refine(QU sp 126 #[.pointer (some ⟨kb,0,none⟩)] (((pa6,pn6,pc6):Slc) :: zs) (fun k=>k=kb\/k=pb\/k=g) _ (enters_of func126 om rfl) (zbC pb g cap kb Z ((pa6,pn6,pc6):Slc) zs _ (zb HN8).at' (zb HK8) (zb Hzs) oa 8 oa) (fun k hk=>by rcases hk with rfl |rfl |rfl;exact hkl;exact(zb HN8).pl;exact(zb HN8).at'.gl) (by have h9:=congrArg List.length (zb Hzs);simp at h9;simp;omega) hsp1).mono ?_;rintro e w9 ⟨⟨v9,rfl,hV9⟩,hO9⟩;(obtain⟨ra,rk,rc,rfl⟩:=hV9.slice);have HV9:=ze (hV9.cutsAt (pb:=pb) (A:=fun g=>w.heap.size<=g) hpl8 (fun g hg=>oa));clear hsp1 hsp2 hsp3 hpl8 ho8 hV9;have hN9:=(zb HN8).keep hO9;(obtain⟨u9,d3⟩:=hN9.c3);have f3:=hN9.f3;have HN9:=ze hN9;clear hO9 hN9));go_ret;have hE:=(zb HN9).setOther (.slice ra rk rc);refine⟨pb,zX 119,_,rfl,?_,?_,zb HV9 (zb HN9).c3,QV _,zb HBd,fun c d hg=>?_,hE.only⟩
  ·have hPr:=hE.prog oa ?_ ?_
   ·rw[zb HZ] at hPr;exact hPr
   ·rw[zb HZ];exact zb HFit
   ·rw[zb HZ];exact zb HStl
  ·intro _;rfl
  ·obtain⟨a1,a2⟩:=zcj (zb HSp).1 (zb HSp).2 hg;refine⟨a1,fun s hs=>?_⟩;rw[<-zb HZ] at hs;obtain⟨z,hz1,rfl⟩:=zhF.1 hs;exact a2 z hz1
end
