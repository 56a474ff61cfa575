/- The library's sort of a row of characters, to the element: the whole. -/
import Derived.Test.YtcgleficedipkaaGreatDoorYSxGSxI
import Derived.Sort.Walk13a
import Derived.Sort.LotD4
import Derived.Sort.AssemblyPlain
import Derived.Test.YtcgleficedipkaaGreatDoorYFndAFndD
namespace Go.Proofs.YtcgleficedipkaaGreatDoor
section
open Go.RowKit Go.Sort
set_option maxHeartbeats 16000000
set_option maxRecDepth 1000000
theorem zcO {h:Hint}(e:vN h=2):h = .decreasing:=by cases h<;>simp [vN] at e ⊢
theorem Ex.same {a b c:World}{blk off:Nat}{d:Array Int}(h:Ex a blk off d b)(hb:blk<b.heap.size)(k:ze (fun _=>False) b c):Ex a blk off d c:=
 ⟨h.1.trans (k.mono (fun _ _ f=>f.elim)),fun t ht=>⟨(k.cell (p:=⟨blk,off+t,none⟩) hb (fun f=>f)).trans (h.2 t ht).1,(k.frozen (p:=⟨blk,off+t,none⟩) hb (fun f=>f)).trans (h.2 t ht).2⟩⟩
theorem za6 {x y p q:Nat}(h1:q≤p)(h2:y≤x):decide (((x:Int)-(y:Int)) / 8≤(p:Int)-(q:Int))=decide (p-q≥(x-y) / 8):=
 decide_eq_decide.2 ⟨fun h=>by omega,fun h=>by omega⟩
theorem pdqE (blk off n cap:Nat)(hn:n<1099511627776):∀ (N a b limit:Nat) (d:Array Int) (w:World),b-a<N→d.size=n→Holds (Value.int .i32) w blk off d→blk<w.heap.size→a≤b→b≤n→limit<1000→Below ltInt a b d→
  Calls Tryz.prog 168 #[.slice (some ⟨blk,off,none⟩) n cap,.int .i64 a,.int .i64 b,.int .i64 limit] w fun e w'=>e = .returned (.tuple #[])∧Ex w blk off (pdq ltInt d a b limit true true) w':=by
 intro N
 induction N with
 |zero=>intro _ _ _ _ _ h;exact absurd h (Nat.not_lt_zero _)
 |succ N ih=>
  intro a0 b0 limit d w hN hd0 hH hblk hab0 hb0 hlimit hBel0
  have IH:=zc ih
  clear ih
  obtain ⟨tgt,ht⟩:∃ tgt,pdq ltInt d a0 b0 limit true true=tgt:=⟨_,rfl⟩
  rw [ht]
  have HS0:Hid (d.size=n∧Below ltInt a0 b0 d∧Ex w blk off d w∧pdq ltInt d a0 b0 limit true true=tgt):=⟨hd0,hBel0,Ex.refl hH,ht⟩
  clear hd0 hBel0 hH ht
  go_enter Tryz.func168,Tryz.ntmps168
  go_wp2_with fail
  go_loopw [1,2,3,8,9] (fun va vb vl v8 v9 wr=>∃ (a b lim:Nat) (wb wp:Bool) (dk:Array Int),va = .int .i64 a∧vb = .int .i64 b∧vl = .int .i64 lim∧v8 = .bool wb∧v9 = .bool wp∧a0≤a∧a≤b∧b≤b0∧lim<1000∧Hid (dk.size=n∧Below ltInt a b dk∧Ex w blk off dk wr∧pdq ltInt dk a b lim wb wp=tgt)) (fun va vb _ _ _ _=>(intOf vb-intOf va).toNat)
  case atStart=>exact ⟨a0,b0,limit,true,true,d,rfl,rfl,rfl,rfl,rfl,Nat.le_refl _,hab0,Nat.le_refl _,hlimit,HS0⟩
  case round=>
   clear HS0
   obtain ⟨a,b,lim,wb,wp,dk,rfl,rfl,rfl,rfl,rfl,ha0,hab,hbb,hm1,HR⟩:=hrel
   have hb:b≤n:=by omega
   obtain ⟨hds,hBel,hX,heq⟩:=zb HR
   have hbd:b≤dk.size:=by omega
   have hnd:dk.size<1099511627776:=by omega
   have HX:=zc hX
   have A:=zc heq
   have HBel:=zc hBel
   have HDS:=zc hds
   clear HR hX heq hBel
   by_cases h12:b-a≤12
   ·have h12z:(b:Int)-a≤12:=by omega
    have hc:=insertE blk off cap a b dk wr (zb HX).2 hab hbd hnd
    rw [hds] at hc
    have HC:=zc hc
    clear hc hds hbd hnd
    go_wp2_with (go_at_call 199;refine (zb HC).mono ?_;rintro e w1 ⟨rfl,hS1⟩;have HS:=zc ((zb HX).trans hS1);clear hS1)
    (try simp only [Exit.inBlock,Exit.then]);refine bodyPost_ret (results_none rfl _ _ _) rfl ?_
    refine ⟨rfl,?_⟩
    rw [←zb A,pdq_small h12]
    exact zb HS
   ·have h12z:¬(b:Int)-a≤12:=by omega
    have h12d:decide ((b:Int)-a≤12)=false:=by simp;omega
    by_cases hl:lim=0
    ·subst hl
     have hc:=heapE blk off cap a b dk wr (zb HX).2 (by omega) hbd hnd
     rw [hds] at hc
     have HC:=zc hc
     clear hc hds hbd hnd
     go_wp2_with (go_at_call 200;refine (zb HC).mono ?_;rintro e w1 ⟨rfl,hS1⟩;have HS:=zc ((zb HX).trans hS1);clear hS1)
     (try simp only [Exit.inBlock,Exit.then]);refine bodyPost_ret (results_none rfl _ _ _) rfl ?_
     refine ⟨rfl,?_⟩
     rw [←zb A,pdq_heap h12 rfl]
     exact zb HS
    ·have hl2:((lim:Int) == 0)=false:=by simp;omega
     have HF:=zc (rd_facts (limit:=lim) (wb:=wb) (wp:=wp) swo_ltInt partialInsertionSort_holds reverseRange_holds (show a<b by omega) hbd (zb HBel))
     clear hds hbd hnd
     have hll:=rd_lim_le (lt:=ltInt) (d:=dk) (a:=a) (b:=b) (limit:=lim) (wb:=wb) (wp:=wp)
     have HB0:=zc (fun w9 (h9:Ex w blk off dk w9)=>breakE blk off cap a b dk w9 h9.2 (Nat.lt_of_lt_of_le hblk h9.1.size) (by omega) (by rw [zb HDS];omega) (by rw [zb HDS];omega))
     rw [zb HDS] at HB0
     go_upto_if 35 with fail
     go_cut [3] from 19 to 133 (fun s3 wx=>s3 = .int .i64 (rd ltInt dk a b lim wb wp).lim∧Hid (Ex w blk off (rd ltInt dk a b lim wb wp).d1 wx))
     case first=>
      cases wb
      ·go_wp2_with (go_at_call 201;refine (zb HB0 _ (zb HX)).mono ?_;rintro e w1 ⟨rfl,hS1⟩;have HS:=zc ((zb HX).trans hS1);clear hS1)
       go_meet
       refine ⟨?_,zb HS⟩
       show Value.int .i64 ((lim:Int)-1)=Value.int .i64 ((lim-1:Nat):Int)
       congr 1
       omega
      ·go_wp2_with fail
       go_meet
       exact ⟨rfl,zb HX⟩
     case rest=>
      clear HX HB0
      obtain ⟨rfl,HX⟩:=hcut
      obtain ⟨s1,B1,hc1,s2,B2,hpv,s3,B3⟩:=zb HF
      have HS1:=zc (s1.trans (zb HDS))
      have HS2:=zc (s2.trans (zb HDS))
      have HS3:=zc (s3.trans (zb HDS))
      have HB3:=zc B3
      clear HF s1 B1 s2 B2 s3 B3
      have HC1:=zc (pivotE blk off cap a b (rd ltInt dk a b lim wb wp).d1 wc (zb HX).2 (Nat.lt_of_lt_of_le hblk (zb HX).1.size) (by omega) (by rw [zb HS1];omega) (by rw [zb HS1];omega))
      rw [zb HS1] at HC1
      have HC1':Hid (Calls Tryz.prog 202 #[.slice (some ⟨blk,off,none⟩) n cap,.int .i64 a,.int .i64 b] wc fun e w'=>e = .returned (.tuple #[.int .i64 ((rd ltInt dk a b lim wb wp).c.1:Nat),.int .i64 (vN (rd ltInt dk a b lim wb wp).c.2)])∧ze (fun _=>False) wc w'):=zb HC1
      clear HC1
      go_upto_if 50 with (go_at_call 202;refine (zb HC1').mono ?_;rintro e w2 ⟨rfl,hw2⟩)
      have HX2:=zc ((zb HX).same (Nat.lt_of_lt_of_le hblk (zb HX).1.size) hw2)
      clear HX HC1' hw2
      have HX:=HX2
      clear HX2
      go_cut [11,12] from 19 to 133 (fun s11 s12 wx=>s11 = .int .i64 (rd ltInt dk a b lim wb wp).pivot∧s12 = .int .i64 (vN (rd ltInt dk a b lim wb wp).hint)∧Hid (Ex w blk off (rd ltInt dk a b lim wb wp).d2 wx))
      case first=>
       by_cases hh:(rd ltInt dk a b lim wb wp).c.2 = .decreasing
       ·have hcode:vN (rd ltInt dk a b lim wb wp).c.2=2:=by rw [hh];rfl
        have HD:=zc (rd_dec hh)
        clear hh
        have HC2:=zc (reverseE blk off cap a b (rd ltInt dk a b lim wb wp).d1 w2 (zb HX).2 (by omega) (by rw [zb HS1];omega) (by rw [zb HS1];omega))
        rw [zb HS1] at HC2
        go_wp2_with (go_at_call 203;refine (zb HC2).mono ?_;rintro e w3 ⟨rfl,hS1⟩;have HS:=zc ((zb HX).trans hS1);clear hS1)
        go_meet
        obtain ⟨e2,epv,eht⟩:=zb HD
        refine ⟨?_,by rw [eht];rfl,by show Ex _ _ _ _ _;rw [e2];exact zb HS⟩
        rw [epv]
        congr 1
        omega
       ·have hcode:¬(vN (rd ltInt dk a b lim wb wp).c.2=2):=fun h=>hh (zcO h)
        have HD:=zc (rd_not hh)
        clear hh
        go_wp2_with fail
        go_meet
        obtain ⟨e2,epv,eht⟩:=zb HD
        exact ⟨by rw [epv],by rw [eht],by show Ex _ _ _ _ _;rw [e2];exact zb HX⟩
      case rest=>
       clear HX
       obtain ⟨rfl,rfl,HX⟩:=hcut
       go_upto_region 15 with fail
       go_cut [12,68] from 19 to 133 (fun s12 s68 wx=>s12 = .int .i64 (vN (rd ltInt dk a b lim wb wp).hint)∧s68 = .bool (wb && wp && decide ((rd ltInt dk a b lim wb wp).hint = .increasing))∧Hid (Ex w blk off (rd ltInt dk a b lim wb wp).d2 wx))
       case first=>
        cases wb<;>cases wp<;>cases hh3:(rd ltInt dk a b lim _ _).hint <;>
         (have hcode3:=congrArg vN hh3
          simp only [vN] at hcode3
          go_wp2_with fail
          go_meet
          exact ⟨by simp [hh3,vN],by simp [hh3,vN],zb HX⟩)
       case rest=>
        clear HX
        obtain ⟨rfl,rfl,HX⟩:=hcut
        go_upto_if 68 with fail
        go_cut [72] from 19 to 133 (fun s72 wx=>(rd ltInt dk a b lim wb wp).pi.2=false∧Hid (Ex w blk off (rd ltInt dk a b lim wb wp).pi.1 wx))
        case first=>
         cases h68:(wb && wp && decide ((rd ltInt dk a b lim wb wp).hint = .increasing))
         ·have HPI:=zc (rd_pi_no h68)
          go_wp2_with fail
          go_meet
          exact ⟨by rw [zb HPI],by show Ex _ _ _ _ _;rw [zb HPI];exact zb HX⟩
         ·have epi:=rd_pi_yes h68
          have HC3:=zc (partialE blk off cap a b (rd ltInt dk a b lim wb wp).d2 _ (zb HX).2 (by omega) (by rw [zb HS2];omega) (by rw [zb HS2];omega))
          rw [zb HS2,←epi] at HC3
          have HPI:=zc epi
          clear epi
          go_wp2_with (go_at_call 204;refine (zb HC3).mono ?_;rintro e w4 ⟨rfl,hS1⟩;have HS:=zc ((zb HX).trans hS1);clear hS1)
          all_goals first
           |(have hp2:(rd ltInt dk a b lim wb wp).pi.2=false:=by first |assumption |(rw [zb HPI];assumption)
             go_meet
             exact ⟨hp2,zb HS⟩)
           |(have hp2:(rd ltInt dk a b lim wb wp).pi.2=true:=by first |assumption |(rw [zb HPI];assumption)
             (try simp only [Exit.inBlock,Exit.then]);refine bodyPost_ret (results_none rfl _ _ _) rfl ?_
             refine ⟨rfl,?_⟩
             rw [←zb A,pdq_done h12 hl hp2]
             exact zb HS)
        case rest=>
         clear HX
         obtain ⟨hp2,HX⟩:=hcut
         have HP2:=zc hp2
         clear hp2
         obtain ⟨G,HG,hcw,hfw⟩:=(zb HX).fam (zb HS3)
         go_upto_region 17 with fail
         go_cut [87] from 19 to 133 (fun s87 wx=>s87 = .bool (decide (a > 0) && !ltInt (rd ltInt dk a b lim wb wp).pi.1[a-1]! (rd ltInt dk a b lim wb wp).pi.1[(rd ltInt dk a b lim wb wp).pivot]!)∧Hid (Ex w blk off (rd ltInt dk a b lim wb wp).pi.1 wx))
         case first=>
          rcases Nat.eq_zero_or_pos a with ha |ha
          ·have hgz:decide ((0:Int)<(a:Int))=false:=by simp;omega
           go_wp2_with fail
           go_big_quiet (first |(go_at_call 205;refine Calls.quiet_of_same (zz _ _ _)))
           go_wp2_with fail
           go_meet
           exact ⟨by simp [ha],(zb HX).drewN _⟩
          ·have hgz:(0:Int)<(a:Int):=by omega
           go_wp2_with fail
           go_big_quiet (first |(go_at_call 205;refine Calls.quiet_of_same (zz _ _ _)))
           go_wp2_with fail
           go_meet
           exact ⟨by rw [←zb HG,←zb HG];simp [ha],(zb HX).drewN _⟩
         case rest=>
          clear HX hcw hfw HG
          obtain ⟨rfl,HX⟩:=hcut
          cases h87:(decide (a > 0) && !ltInt (rd ltInt dk a b lim wb wp).pi.1[a-1]! (rd ltInt dk a b lim wb wp).pi.1[(rd ltInt dk a b lim wb wp).pivot]!)
          ·obtain ⟨mid,ap,d4,hx⟩:∃ mid ap d4,partition ltInt (rd ltInt dk a b lim wb wp).pi.1 a b (rd ltInt dk a b lim wb wp).pivot=(mid,ap,d4):=⟨(partition ltInt (rd ltInt dk a b lim wb wp).pi.1 a b (rd ltInt dk a b lim wb wp).pivot).1,(partition ltInt (rd ltInt dk a b lim wb wp).pi.1 a b (rd ltInt dk a b lim wb wp).pivot).2.1,(partition ltInt (rd ltInt dk a b lim wb wp).pi.1 a b (rd ltInt dk a b lim wb wp).pivot).2.2,rfl⟩
           obtain ⟨r1,r2,r3,r4,r5,r6,r7⟩:=round_part swo_ltInt (partition_holds _) hpv.1 hpv.2 (show b≤(rd ltInt dk a b lim wb wp).pi.1.size by rw [zb HS3];omega) (zb HB3) hx
           have HC4:=zc (partE blk off cap a b (rd ltInt dk a b lim wb wp).pivot (rd ltInt dk a b lim wb wp).pi.1 _ (zb HX).2 hpv.1 hpv.2 (by rw [zb HS3];omega) (by rw [zb HS3];omega))
           rw [zb HS3,hx] at HC4
           have H87:=zc h87
           have HQ:=zc hx
           have HR3:=zc (r3.trans (zb HS3))
           have HR4:=zc r4
           have HR5:=zc r5
           have HR6:=zc r6
           have HR7:=zc r7
           clear hx h87 r3 r4 r5 r6 r7
           go_upto_if 113 with (go_at_call 207;refine (zb HC4).mono ?_;rintro e w7 ⟨rfl,hS1⟩;have HS:=zc ((zb HX).trans hS1);clear hS1)
           clear HX HC4
           have hsz9:=(zb HS).1.size
           by_cases h4:mid-a<b-mid
           ·have h4z:(mid:Int)-(a:Int)<(b:Int)-(mid:Int):=by omega
            have HI:=zc (zb IH a mid (rd ltInt dk a b lim wb wp).lim d4 w7 (by omega) (zb HR3) (zb HS).2 (by omega) (by omega) (by omega) (by omega) (zb HR4))
            obtain ⟨pL,sL⟩:=pdq_sorts ltInt swo_ltInt d4 a mid (rd ltInt dk a b lim wb wp).lim true true (by omega) (by rw [zb HR3];omega) (zb HR4)
            have HP:=zc pL
            have HQ6:=zc (zb HR6 _ pL sL).1
            clear pL sL
            go_wp2_with (go_at_call 168;refine (zb HI).mono ?_;rintro e w8 ⟨rfl,hS1⟩;have HT:=zc ((zb HS).trans hS1);clear hS1)
            go_roundw
            case rel=>
             refine ⟨mid+1,b,(rd ltInt dk a b lim wb wp).lim,decide (mid-a≥(b-a) / 8),ap,pdq ltInt d4 a mid (rd ltInt dk a b lim wb wp).lim true true,by go_num,rfl,rfl,?_,rfl,by omega,by omega,by omega,by omega,(zb HP).1.trans (zb HR3),zb HQ6,zb HT,?_⟩
             ·exact congrArg Value.bool (za6 (by omega) (by omega))
             ·rw [←zb A,pdq_left h12 hl (zb HP2) (zb H87) (by rw [zb HQ];exact ⟨r1,r2⟩) (by rw [zb HQ];exact h4),zb HQ]
            case measure=>simp [intOf];omega
           ·have h4z:¬((mid:Int)-(a:Int)<(b:Int)-(mid:Int)):=by omega
            have hi:=zb IH (mid+1) b (rd ltInt dk a b lim wb wp).lim d4 w7 (by omega) (zb HR3) (zb HS).2 (by omega) (by omega) (by omega) (by omega) (zb HR5)
            rw [show ((mid+1:Nat):Int)=(mid:Int)+1 by omega] at hi
            have HI:=zc hi
            clear hi
            obtain ⟨pL,sL⟩:=pdq_sorts ltInt swo_ltInt d4 (mid+1) b (rd ltInt dk a b lim wb wp).lim true true (by omega) (by rw [zb HR3];omega) (zb HR5)
            have HP:=zc pL
            have HQ7:=zc (zb HR7 _ pL sL).1
            clear pL sL
            go_wp2_with (go_at_call 168;refine (zb HI).mono ?_;rintro e w8 ⟨rfl,hS1⟩;have HT:=zc ((zb HS).trans hS1);clear hS1)
            go_roundw
            case rel=>
             refine ⟨a,mid,(rd ltInt dk a b lim wb wp).lim,decide (b-mid≥(b-a) / 8),ap,pdq ltInt d4 (mid+1) b (rd ltInt dk a b lim wb wp).lim true true,rfl,rfl,rfl,?_,rfl,by omega,by omega,by omega,by omega,(zb HP).1.trans (zb HR3),zb HQ7,zb HT,?_⟩
             ·exact congrArg Value.bool (za6 (by omega) (by omega))
             ·rw [←zb A,pdq_right h12 hl (zb HP2) (zb H87) (by rw [zb HQ];exact ⟨r1,r2⟩) (by rw [zb HQ];exact h4),zb HQ]
            case measure=>simp [intOf];omega
          ·have h87':=h87
           simp only [Bool.and_eq_true,decide_eq_true_eq,Bool.not_eq_true'] at h87'
           obtain ⟨mid,d4,hx⟩:∃ mid d4,partitionEqual ltInt (rd ltInt dk a b lim wb wp).pi.1 a b (rd ltInt dk a b lim wb wp).pivot=(mid,d4):=⟨(partitionEqual ltInt (rd ltInt dk a b lim wb wp).pi.1 a b (rd ltInt dk a b lim wb wp).pivot).1,(partitionEqual ltInt (rd ltInt dk a b lim wb wp).pi.1 a b (rd ltInt dk a b lim wb wp).pivot).2,rfl⟩
           obtain ⟨r1,r2,r3,r4,_⟩:=round_eq swo_ltInt (partitionEqual_holds _) h87'.1 hpv.1 hpv.2 (show b≤(rd ltInt dk a b lim wb wp).pi.1.size by rw [zb HS3];omega) (zb HB3) h87'.2 hx
           have HC4:=zc (partEqE blk off cap a b (rd ltInt dk a b lim wb wp).pivot (rd ltInt dk a b lim wb wp).pi.1 _ (zb HX).2 hpv.1 hpv.2 (by rw [zb HS3];omega) (by rw [zb HS3];omega))
           rw [zb HS3,hx] at HC4
           have H87:=zc h87
           have HQ:=zc hx
           have HR3:=zc (r3.trans (zb HS3))
           have HR4:=zc r4
           clear hx h87 h87' r3 r4
           go_wp2_with (go_at_call 206;refine (zb HC4).mono ?_;rintro e w7 ⟨rfl,hS1⟩;have HS:=zc ((zb HX).trans hS1);clear hS1)
           go_roundw
           case rel=>exact ⟨mid,b,(rd ltInt dk a b lim wb wp).lim,wb,wp,d4,rfl,rfl,rfl,rfl,rfl,by omega,by omega,by omega,by omega,zb HR3,zb HR4,zb HS,by rw [←zb A,pdq_eq h12 hl (zb HP2) (zb H87) (by rw [zb HQ];exact ⟨r1,r2⟩),zb HQ]⟩
           case measure=>simp [intOf];omega
theorem sortE (blk cap:Nat)(d:Array Int)(w:World)(h:Holds (Value.int .i32) w blk 0 d)(hblk:blk<w.heap.size)(hn:d.size<1099511627776) :
  Calls Tryz.prog 124 #[.slice (some ⟨blk,0,none⟩) d.size cap] w fun e w'=>e = .returned (.tuple #[])∧Ex w blk 0 (sort ltInt d) w':=by
 have hlim:Lib.bitLen d.size≤62:=Lib.bitLen_le d.size 62 (by omega) (by omega)
 have he:Lib.bitLen d.size=bitsLen d.size:=bitLen_eq _ (by omega)
 have HP:=zc (pdqE blk 0 d.size cap hn (d.size+1) 0 d.size (Lib.bitLen d.size) d w (by omega) rfl h hblk (by omega) (by omega) (by omega) (Or.inl rfl))
 have HT:Hid (pdq ltInt d 0 d.size (Lib.bitLen d.size) true true=sort ltInt d):=by show _=_;rw [he];rfl
 have HL:=zc (VV d.size (by omega))
 have wr:IntKind.u64.wrap (d.size:Int)=d.size:=by simp [IntKind.wrap,IntKind.bits,IntKind.signed];omega
 clear h he
 generalize d.size=n at *
 go_enter Tryz.func124,Tryz.ntmps124
 go_wp2_with (first |(go_at_call 169;refine (zb HL _).mono ?_;rintro e w' ⟨rfl,rfl⟩) |(go_at_call 168;refine (zb HP).mono ?_;rintro e w1 ⟨rfl,hS⟩;have HS:=zc hS;clear hS))
 go_end0
 refine ⟨rfl,?_⟩
 rw [←zb HT]
 exact zb HS
theorem JC (d:Array Int):(sort ltInt d).toList.Pairwise (fun x y=>x≤y)∧(sort ltInt d).toList.Perm d.toList:=by
 have h:(sort ltInt d).toList=d.toList.mergeSort (fun x y=>decide (x≤y)):=by have:=sortInt d.toList;rwa [Array.toArray_toList] at this
 rw [h]
 refine ⟨?_,List.mergeSort_perm _ _⟩
 have h2:=List.pairwise_mergeSort (le:=fun x y:Int=>decide (x≤y)) (by intro a b c;simp;omega) (by intro a b;simp;omega) d.toList
 exact h2.imp (by intro a b h;simpa using h)
end
section
open Go.RowKit Go.Shelf Go.Lib Go.Sort
theorem ZJ (d:Array Int):(compactUpTo d d.size).length≤d.size:=by
 unfold compactUpTo
 rw [List.length_map]
 exact Nat.le_trans (List.length_filter_le _ _) (by simp)
theorem compactE (blk cap:Nat)(d:Array Int)(w:World)(h:Holds (Value.int .i32) w blk 0 d)(hn:d.size<1099511627776)(hc:d.size≤cap) :
  Calls Tryz.prog 125 #[.slice (some ⟨blk,0,none⟩) d.size cap] w fun e w'=>e = .returned (.slice (some ⟨blk,0,none⟩) (compactUpTo d d.size).length cap)∧Ex w blk 0 (compactUpTo d d.size++List.replicate (d.size-(compactUpTo d d.size).length) 0).toArray w':=by
 refine (AnyE.slices_Compact Vw (Value.int .i32) (fun _=>rfl) (EqlAt.intD _ _ _) (NeqAt.intD _ _ _) 0 (fun w=>by kernel_rfl) blk 0 cap d w h (by omega) hc).mono ?_
 rintro e w' ⟨rfl,q,rfl⟩
 exact ⟨rfl,Vx,holds_putRow _ _ blk 0 d _ (holds_ahead _ w q blk 0 d h) (by have:=ZJ d;simp;omega)⟩
theorem zcP {d:Array Int}(h:d.toList.Pairwise (fun x y=>x≤y)):∀ i j,i≤j→j<d.size→d[i]!≤d[j]!:=by
 intro i j hij hj
 rcases Nat.lt_or_ge i j with hlt |hge
 ·have:=List.pairwise_iff_getElem.1 h i j (by simp;omega) (by simpa using hj) hlt
  rw [getElem!_pos d i (by omega),getElem!_pos d j hj]
  simpa using this
 ·obtain rfl:i=j:=by omega
  exact Int.le_refl _
theorem KE {d:Array Int}(h:∀ i j,i≤j→j<d.size→d[i]!≤d[j]!):∀ m,m≤d.size→(compactUpTo d m).Pairwise (fun x y=>x<y)∧(∀ x∈compactUpTo d m,∃ j,j<m∧d[j]! = x)∧∀ j,j<m→d[j]!∈compactUpTo d m:=by
 intro m
 induction m with
 |zero=>intro _;exact ⟨by simp [compactUpTo],by simp [compactUpTo],fun j hj=>by omega⟩
 |succ m ih=>
  intro hm
  obtain ⟨i1,i2,i3⟩:=ih (by omega)
  rw [compactUpTo_succ]
  by_cases hk:keeps d m=true
  ·rw [if_pos hk]
   refine ⟨List.pairwise_append.2 ⟨i1,by simp,fun x hx y hy=>?_⟩,fun x hx=>?_,fun j hj=>?_⟩
   ·simp at hy
    subst hy
    obtain ⟨j,hj,rfl⟩:=i2 x hx
    simp [keeps] at hk
    have h1:=h j (m-1) (by omega) (by omega)
    have h2:=h (m-1) m (by omega) (by omega)
    rcases hk with hk |hk
    ·omega
    ·have h3:d[m]!≠d[m-1]!:=by simpa using hk
     omega
   ·rcases List.mem_append.1 hx with hx |hx
    ·obtain ⟨j,hj,e⟩:=i2 x hx;exact ⟨j,by omega,e⟩
    ·simp at hx;exact ⟨m,by omega,by simp [hx]⟩
   ·rcases Nat.lt_or_ge j m with hl |hl
    ·exact List.mem_append_left _ (i3 j hl)
    ·obtain rfl:j=m:=by omega
     exact List.mem_append_right _ (by simp)
  ·rw [if_neg hk,List.append_nil]
   have hk2:m≠0∧d[m]! = d[m-1]!:=by unfold keeps at hk;simp only [decide_eq_true_eq] at hk;exact ⟨fun e=>hk (.inl e),Classical.byContradiction fun e=>hk (.inr e)⟩
   refine ⟨i1,fun x hx=>?_,fun j hj=>?_⟩
   ·obtain ⟨j,hj,e⟩:=i2 x hx;exact ⟨j,by omega,e⟩
   ·rcases Nat.lt_or_ge j m with hl |hl
    ·exact i3 j hl
    ·obtain rfl:j=m:=by omega
     rw [hk2.2]
     exact i3 (j-1) (by omega)
theorem Yq (d:Array Int):(compactUpTo (sort ltInt d) (sort ltInt d).size).Pairwise (fun x y=>x<y)∧∀ x,x∈compactUpTo (sort ltInt d) (sort ltInt d).size↔x∈d.toList:=by
 obtain ⟨h1,h2⟩:=JC d
 obtain ⟨i1,i2,i3⟩:=KE (zcP h1) _ (Nat.le_refl _)
 refine ⟨i1,fun x=>⟨fun hx=>?_,fun hx=>?_⟩⟩
 ·obtain ⟨j,hj,rfl⟩:=i2 x hx
  refine h2.mem_iff.1 ?_
  rw [getElem!_pos _ j hj]
  simp
 ·obtain ⟨j,hj,e⟩:=List.getElem_of_mem (h2.mem_iff.2 hx)
  have:=i3 j (by simpa using hj)
  rw [getElem!_pos _ j (by simpa using hj)] at this
  simpa [←e] using this
set_option maxHeartbeats 4000000
set_option maxRecDepth 1000000
attribute [local go_sem] Oper.semAt_some
theorem zcQ (w:World):Calls Tryz.prog 125 #[.slice none 0 0] w fun e w'=>e = .returned (.slice none 0 0)∧ze (fun _=>False) w w':=by
 have HO:Hid (ze (fun _=>False) w w):=ze.refl _ _
 go_enter Tryz.func125,Tryz.ntmps125
 go_wp2_with fail
 go_ret
 exact ⟨rfl,zb HO⟩
theorem Xy {w w':World}{a:Addr}(h:w'.heap[a.block]?=w.heap[a.block]?):w'.frozen? a=w.frozen? a:=by unfold World.frozen?;rw [h]
structure vR (w:World)(O:Nat→Prop)(X:World)(B:Nat)(cs:List Int):Prop where
 ex:∃ sv,X.cell? ⟨w.heap.size,0,none⟩=some sv∧X.ownsRow (w.heap.size+1) 21 1 sv cs.length (xw cs)∧cs.length≤B∧∀ k,O k↔k=w.heap.size∨sv.ownBlock=some k
 fr:X.frozen? ⟨w.heap.size,0,none⟩=false
 only:ze (fun _=>False) w X
 size:w.heap.size+1≤X.heap.size
theorem vR.keep {w X X':World}{O:Nat→Prop}{B B2:Nat}{cs:List Int}(h:vR w O X B cs)(hB:w.heap.size+1≤B2)(k:ze (fun k=>B2≤k∧¬O k) X X'):vR w O X' B cs:=by
 obtain ⟨sv,h1,h2,h3,h4⟩:=h.ex
 have hn:¬(B2≤w.heap.size∧¬O w.heap.size):=fun h=>by omega
 have hs:=h.size
 exact ⟨⟨sv,(k.cell (p:=⟨w.heap.size,0,none⟩) (by show _<_;simp only;omega) hn).trans h1,zn h2 k (fun g hg hp=>hp.2 ((h4 g).2 (.inr hg))),h3,h4⟩,(k.frozen (p:=⟨w.heap.size,0,none⟩) (by show _<_;simp only;omega) hn).trans h.fr,
  ⟨k.os.trans h.only.os,k.tape.trans h.only.tape,k.output.trans h.only.output,Nat.le_trans h.only.size k.size,fun j hj _=>(k.block j (by omega) (fun hp=>by omega)).trans (h.only.block j hj (fun f=>f))⟩,Nat.le_trans h.size k.size⟩
theorem vR.lt {w X:World}{O:Nat→Prop}{B:Nat}{cs:List Int}(h:vR w O X B cs):∀ k,O k→k<X.heap.size:=fun k hk=>by
 obtain ⟨sv,h1,h2,h3,h4⟩:=h.ex
 rcases (h4 k).1 hk with e |e
 ·have:=h.size;omega
 ·exact (zh h2 k e).2
theorem vR.up {w X:World}{O:Nat→Prop}{B C:Nat}{cs:List Int}(h:vR w O X B cs)(hBC:B≤C):vR w O X C cs:=by
 obtain ⟨sv,h1,h2,h3,h4⟩:=h.ex
 exact ⟨⟨sv,h1,h2,by omega,h4⟩,h.fr,h.only,h.size⟩
theorem vR.push {w X V:World}{O:Nat→Prop}{B B':Nat}{sv v':Value}{cs:List Int}{a b:Int}(h:vR w O X B cs)(q1:X.cell? ⟨w.heap.size,0,none⟩=some sv)(q2:X.ownsRow (w.heap.size+1) 21 1 sv cs.length (xw cs))(q3:cs.length+2≤B')(q4:∀ k,O k↔k=w.heap.size∨sv.ownBlock=some k)
  (hk:ze (fun k=>sv.ownBlock=some k) X V) (hown:V.ownsRow (w.heap.size+1) 21 1 v' (cs.length+2) (xw cs++[.int .i32 a,.int .i32 b])) (hsep:∀ k,v'.ownBlock=some k→sv.ownBlock=some k∨X.heap.size≤k) :
  vR w (fun k=>k=w.heap.size∨v'.ownBlock=some k) (V.setCell ⟨w.heap.size,0,none⟩ v') B' (cs++[a,b])∧(∀ k,(k=w.heap.size∨v'.ownBlock=some k)→O k∨X.heap.size≤k)∧ze O X (V.setCell ⟨w.heap.size,0,none⟩ v'):=by
 have hs:=h.size
 have hn:¬sv.ownBlock=some w.heap.size:=fun e=>by have:=(zh q2 _ e).1;omega
 have hn':¬v'.ownBlock=some w.heap.size:=fun e=>by have:=(zh hown _ e).1;omega
 have c1:=(hk.cell (p:=⟨w.heap.size,0,none⟩) (World.block_lt_of_cell? _ _ q1) hn).trans q1
 have c2:=(hk.frozen (p:=⟨w.heap.size,0,none⟩) (World.block_lt_of_cell? _ _ q1) hn).trans h.fr
 have hst:ze (fun k=>k=w.heap.size) V (V.setCell ⟨w.heap.size,0,none⟩ v'):=(ze.refl (fun k=>k=w.heap.size) V).setCell (p:=⟨w.heap.size,0,none⟩) (.inl rfl) _
 have hO:ze O X (V.setCell ⟨w.heap.size,0,none⟩ v'):=(hk.mono (fun k _ e=>(q4 k).2 (.inr e))).setCell (p:=⟨w.heap.size,0,none⟩) (.inl ((q4 _).2 (.inl rfl))) _
 have hl:(cs++[a,b]).length=cs.length+2:=by simp
 refine ⟨⟨⟨v',World.cell?_setCell_same _ _ _ c1,?_,by omega,fun k=>Iff.rfl⟩,(zk _ _ _ _).trans c2,?_,Nat.le_trans hs hO.size⟩,fun k hk2=>?_,hO⟩
 ·rw [hl,YN]
  exact zn hown hst (fun g hg e=>hn' (e ▸ hg))
 ·exact ⟨hO.os.trans h.only.os,hO.tape.trans h.only.tape,hO.output.trans h.only.output,Nat.le_trans h.only.size hO.size,fun j hj _=>(hO.block j (by have:=h.only.size;omega) (fun e=>by
   rcases (q4 j).1 e with e |e
   ·omega
   ·have:=(zh q2 _ e).1;omega)).trans (h.only.block j hj (fun f=>f))⟩
 ·rcases hk2 with e |e
  ·exact .inl ((q4 k).2 (.inl e))
  ·exact (hsep k e).imp_left (fun e=>(q4 k).2 (.inr e))
theorem vR.row {w X:World}{blk n cap:Nat}{cs:List Int}(q2:X.ownsRow (w.heap.size+1) 21 1 (.slice (some ⟨blk,0,none⟩) n cap) n (xw cs)):Holds (Value.int .i32) X blk 0 cs.toArray∧n=cs.length∧n≤cap:=by
 rcases q2.2 with ⟨h1,_⟩ |⟨g',cap',cur,h1,h2,h3,h4,h5,h6,h7⟩
 ·cases h1
 ·cases h1
  have hl:cs.length=n:=by have:=q2.1;simpa [xw] using this
  have hc:∀ t,t<n→cur[t]?=some (.int .i32 (cs.toArray[t]!)):=fun t ht=>by
   have e1:(cur.toList.take (n*1))[t]?=(xw cs)[t]?:=by rw [h7]
   rw [List.getElem?_take_of_lt (by omega)] at e1
   rw [←Array.getElem?_toList,e1]
   rw [getElem!_pos _ t (by simp;omega)]
   simp [xw,List.getElem?_map,List.getElem?_eq_getElem (show t<cs.length by omega)]
  refine ⟨fun t ht=>⟨?_,?_⟩,hl.symm,by omega⟩
  ·unfold World.cell?
   rw [h3]
   simpa using hc t (by simpa [hl] using ht)
  ·unfold World.frozen?
   rw [h3]
   simp
def rawP (l:List (Int×Int)):List Int:=l.flatMap (fun y=>[y.1,y.2+1])
def rawS (sp:Slc→List (Int×Int))(xs:List Slc):List Int:=xs.flatMap (fun p=>rawP (sp p))
theorem zcR (l:List (Int×Int))(y:Int×Int):rawP (l++[y])=rawP l++[y.1,y.2+1]:=by simp [rawP]
theorem zcS (sp:Slc→List (Int×Int))(xs:List Slc)(p:Slc):rawS sp (xs++[p])=rawS sp xs++rawP (sp p):=by simp [rawS]
def jl (cs:List Int):List Int:=compactUpTo (sort ltInt cs.toArray) (sort ltInt cs.toArray).size
def CutV (w w':World)(v:Value)(cs:List Int):Prop:=(v = .slice none 0 0∧cs=[])∨∃ g cap,v = .slice (some ⟨g,0,none⟩) (jl cs).length cap∧w.heap.size<g∧Holds (Value.int .i32) w' g 0 (jl cs).toArray
theorem qZ (d:Array Int):(sort ltInt d).size=d.size:=by have:=(JC d).2.length_eq;simpa using this
theorem Holds.front {w:World}{g:Nat}{zs:List Int}{k:Nat}(h:Holds (Value.int .i32) w g 0 (zs++List.replicate k 0).toArray):Holds (Value.int .i32) w g 0 zs.toArray:=by
 intro j hj
 have hj2:j<zs.length:=by simpa using hj
 obtain ⟨h1,h2⟩:=h j (by simp;omega)
 refine ⟨?_,h2⟩
 rw [h1,getElem!_pos _ j (by simp;omega),getElem!_pos _ j hj]
 simp [List.getElem_append_left hj2]
theorem Yr (sp:Slc→List (Int×Int))(gf:Nat)(lb:Array Value)(xs:List Slc)(D:Nat→Prop)(w:World)(eg:∀ args w,(callFunc gf args).run Tryz.prog w = .ok (.enter gf args) w)(hseq:SeqO Fence.wide 8 Tryz.prog gf lb Qn xs D w)(hD:∀ k,D k→k<w.heap.size)(hl:xs.length≤1001)(hset:∀ p∈xs,∃ A,yu w A (slV p) (sp p)∧Cs.zK (sp p)) :
  Calls Tryz.prog 71 #[.func (.func gf) #[] lb] w fun e w'=>(∃ v,e = .returned v∧CutV w w' v (rawS sp xs))∧ze (fun _=>False) w w':=by
 obtain ⟨i0,hi,hz0,hz1,hz2⟩:=info_parts Tryz.infoRune
 have HSeq:=zc hseq
 have HD:=zc hD
 have HSt:=zc hset
 have HInfo:=zc (And.intro hi (And.intro hz0 (And.intro hz1 hz2)))
 clear hseq hD hset hi hz0 hz1 hz2
 refine (callsIn_wide (n:=9)).1 ?_
 refine callsIn_of_wp_marks Tryz.func71 rfl trivial ?_ rfl
 simp only [Tryz.ntmps71,List.size_toArray,List.length_cons,List.length_nil,Nat.reduceAdd,Nat.reduceSub,Array.replicate_succ,Array.replicate_zero,List.push_toArray,List.append_toArray,List.nil_append,List.cons_append]
 gi_wp2
 have HO1:Hid (ze (fun _=>False) w (w.alloc (.cells #[.slice none 0 0] 166))):=(ze.refl _ _).alloc _
 have hsz:(w.alloc (.cells #[.slice none 0 0] 166)).heap.size=w.heap.size+1:=by simp
 have HI0:Hid (vR w (fun k=>k=w.heap.size) (w.alloc (.cells #[.slice none 0 0] 166)) 0 []):=⟨⟨.slice none 0 0,zm w _ rfl _ _ 0 _ rfl,World.ownsRow_nil _ _ _ _,Nat.le_refl _,(fun k=>by simp [Value.ownBlock])⟩,zG w _ rfl _ _ 0,zb HO1,by omega⟩
 generalize w.alloc (.cells #[.slice none 0 0] 166)=w1 at *
 refine KT (F:=Fence.wide) rfl (by omega) (gf:=gf) (lb:=lb) rfl trivial eg
  ((zb HSeq).later (zb HO1)) (fun _=>rfl) (fun pre O X=>vR w O X (2300000*pre.length) (rawS sp pre)) (fun k=>k=w.heap.size) (fun k hk=>by omega) (fun k hk=>by have:=zb HD k hk;exact ⟨by omega,by omega⟩) (fun pre O X X' h k=>h.keep (by omega) k) (zb HI0)
  (fun x a V=>∃ k,a = { tmps:=#[.func (.func gf) #[] lb,undef,.slice none 0 0,.pointer (some ⟨w.heap.size,0,none⟩),.pointer (some ⟨k,0,none⟩),undef,undef,.func (.func gf) #[] lb,.agg #[slV x],undef,undef,undef,undef,undef,undef,undef,undef,undef,undef,undef,undef,undef,undef],defers:=[] }∧V.cell? ⟨k,0,none⟩=some (slV x)) ?ax ?assign ?body ?done
 case ax=>
  rintro x a V l o o' ⟨k,h1,h2⟩ hl' ho
  have hkl:k≠l:=by
   rintro rfl
   unfold World.cell? at h2
   rw [hl'] at h2
   cases o with
   |cells c T f=>simp [Obj.isCells] at ho
   |_=>simp at h2
  exact ⟨k,h1,(World.cell?_of_block (w:=V) (World.putObj_heap_other hkl)).trans h2⟩
 case assign=>
  intro l x W K hK
  obtain ⟨xa,xn,xc⟩:=x
  unfold Qn
  simp only [slV] at hK ⊢
  have hA:ze (fun _=>False) W (W.alloc (.cells #[.slice xa xn xc] 161)):=(ze.refl _ _).alloc _
  have hC:(W.alloc (.cells #[.slice xa xn xc] 161)).cell? ⟨W.heap.size,0,none⟩=some (.slice xa xn xc):=zm W _ rfl _ _ 0 _ rfl
  gi_wp2
  exact hK _ _ hA ⟨W.heap.size,rfl,hC⟩
 case body=>
  rintro l pre O x a V hl2 hOl ⟨r,hr⟩ hI hpre ⟨k,rfl,hk⟩
  obtain ⟨A,hrow,hri⟩:=zb HSt x (hpre.subset (by simp))
  obtain ⟨ls,hls⟩:∃ ls,sp x=ls:=⟨_,rfl⟩
  rw [hls] at hrow hri
  have HRS:Hid (rawS sp (pre++[x])=rawS sp pre++rawP ls):=by show _=_;rw [zcS,hls]
  clear hls
  obtain ⟨xa,xn,xc⟩:=x
  simp only [slV] at hk hrow ⊢
  have HIv:=zc hI
  have hlen:=hri.len
  have hprel:=hpre.length_le
  simp only [List.length_append,List.length_singleton] at hprel
  have HRi:=zc hri
  have HRow:=zc (hrow.mono (B:=fun g=>g<w.heap.size) (fun g hg _=>hg))
  clear hI hrow hri
  gi_wp2
  refine ⟨trivial,(CallsIn.inRound l (callsIn_wide.2 (Zw _ _ ⟨_,_,_,rfl⟩))).mono ?_⟩
  rintro e V1 ⟨v,rfl,kb2,rfl,hk21,hk22,hO2⟩
  have HO2:=zc hO2
  have HK2:=zc hk22
  have hr2:=(hO2.block l (Array.getElem?_eq_some_iff.1 hr).1 (fun f=>f)).trans hr
  have hsV:=(zb HIv).size
  have hs2:=hO2.size
  have HIv2:Hid (vR w O V1 (2300000*pre.length) (rawS sp pre)):=(zb HIv).keep (B2:=w.heap.size+1) (Nat.le_refl _) (hO2.mono (fun _ _ f=>f.elim))
  have HRow2:=zc ((zb HRow).keep ((zb HIv).only.trans hO2) (fun _ _ f=>f))
  clear hO2 hk22
  gi_wp2
  refine KU (F:=Fence.wide.inRound l) rfl hr2 (by omega) (gf:=198) (lb:=#[.pointer (some ⟨kb2,0,none⟩)]) rfl trivial (enters_of Tryz.func198 (by kernel_rfl) rfl)
   (vt _ ls _ kb2 V1 (zb HRow2) (zb HK2) (by omega) (9-1-1-1) (by omega)) (fun _=>rfl) (fun pre2 O2 X=>vR w O2 X (2300000*pre.length+2*pre2.length) (rawS sp pre++rawP pre2)∧ze O V1 X∧∀ k,O2 k→O k∨V1.heap.size≤k) O (zb HIv2).lt ?d (fun pre2 O2 X X' h k=>⟨h.1.keep (by omega) k,⟨k.os.trans h.2.1.os,k.tape.trans h.2.1.tape,k.output.trans h.2.1.output,Nat.le_trans h.2.1.size k.size,fun j hj hn=>(k.block j (Nat.lt_of_lt_of_le hj h.2.1.size) (fun hp=>by omega)).trans (h.2.1.block j hj hn)⟩,h.2.2⟩) ⟨by simpa [rawP] using zb HIv2,ze.refl _ _,fun k hk=>.inl hk⟩
   (fun y=>{ tmps:=#[.func (.func gf) #[] lb,undef,.slice none 0 0,.pointer (some ⟨w.heap.size,0,none⟩),.pointer (some ⟨k,0,none⟩),.int .i32 y.1,.int .i32 y.2,.func (.func gf) #[] lb,.agg #[.slice xa xn xc],.agg #[.slice xa xn xc],.func (.func 198) #[] #[.pointer (some ⟨kb2,0,none⟩)],.int .i32 y.1,.int .i32 y.2,undef,undef,undef,undef,undef,undef,undef,undef,undef,undef],defers:=[] }) ?assign2 ?body2 ?done2
  case d=>
   obtain ⟨sv,q1,q2,q3,q4⟩:=(zb HIv).ex
   rintro j (rfl |⟨h1,h2⟩)
   ·refine ⟨World.block_lt_of_cell? V1 _ (zb HK2),fun hj=>?_⟩
    rcases (q4 j).1 hj with e |e
    ·omega
    ·have:=(zh q2 j e).2;omega
   ·refine ⟨h2,fun hj=>?_⟩
    rcases (q4 j).1 hj with e |e
    ·omega
    ·have:=(zh q2 j e).1;omega
  case assign2=>
   intro l' y W K hK
   unfold kZ
   gi_wp2
   exact hK
  case body2=>
   rintro l' pre2 O2 y X hl' hOl' ⟨r',hr'⟩ ⟨hX,hOX,hsub⟩ hpre2
   have hy:=(zb HRi).2 y (hpre2.subset (by simp))
   have hp2l:=hpre2.length_le
   simp only [List.length_append,List.length_singleton] at hp2l
   obtain ⟨cs,hcs⟩:∃ cs,rawS sp pre++rawP pre2=cs:=⟨_,rfl⟩
   rw [hcs] at hX
   have HCS:Hid (∀ y,rawS sp pre++rawP (pre2++[y])=cs++[y.1,y.2+1]):=by intro y;rw [zcR,←hcs,List.append_assoc]
   clear hcs
   obtain ⟨sv,q1,q2,q3,q4⟩:=hX.ex
   have q5:=hX.fr
   obtain ⟨pa,pn,pc,rfl⟩:=zy q2
   obtain ⟨hi,hz0,hz1,hz2⟩:=zb HInfo
   obtain ⟨ya,yb⟩:=y
   unfold Cs.okS at hy
   simp only [] at hy ⊢
   have hyw:wrap32 (yb+1)=yb+1:=by unfold wrap32;omega
   have HXX:=zc hX
   have Hq2:=zc q2
   have HOX:=zc (And.intro hOX hsub)
   have hXs:=hX.size
   clear hX q2 hOX hsub
   gi_wp2_with (gi_at_builtin;refine zb ?_)
   refine zc ?_
   refine Ko _ rfl _ _ 166 rfl (w.heap.size+1) 21 i0 (.int .i32 0) 1 4 Tryz.underlying166 hi hz0 hz1 hz2 rfl (by decide) (.slice pa pn pc) cs.length (xw cs) rfl (World.ownsRow.alloc (zb Hq2) _) ⟨X.heap.size,0,none⟩ 2 2 [.int .i32 ya,.int .i32 (yb+1)] rfl rfl (cell_two_new _ _ _ _) (fun u hu=>by simp at hu;rcases hu with rfl |rfl<;>rfl) (by omega) (by unfold maxLen;omega) (by omega) (by simp;omega) ?_
   intro v' V3 hown' hgrow hsep
   obtain ⟨pa2,pn2,pc2,rfl⟩:=zy hown'
   have hO3:=((ze.refl (fun k=>(Value.slice pa pn pc).ownBlock=some k) X).alloc (.cells #[.int .i32 ya,.int .i32 (yb+1)] 21)).grown hgrow (fun k hk=>.inl hk)
   have hnb:¬(Value.slice pa pn pc).ownBlock=some w.heap.size:=fun e=>by have:=(zh (zb Hq2) _ e).1;omega
   have c1:=(hO3.cell (p:=⟨w.heap.size,0,none⟩) (World.block_lt_of_cell? _ _ q1) hnb).trans q1
   have c2:=(hO3.frozen (p:=⟨w.heap.size,0,none⟩) (World.block_lt_of_cell? _ _ q1) hnb).trans q5
   have HPu:=zc ((zb HXX).push q1 (zb Hq2) (B':=2300000*pre.length+2*(pre2.length+1)) (by omega) q4 hO3 hown' (fun k hk=>(hsep k hk).imp_right (fun h=>by simp at h;omega)))
   clear hown' hgrow hsep hO3
   gi_wp2
   obtain ⟨g1,g2,g3⟩:=zb HPu
   have hOX:=(zb HOX).1
   refine ⟨_,⟨by rw [zb HCS (ya,yb)];simpa using g1,⟨g3.os.trans hOX.os,g3.tape.trans hOX.tape,g3.output.trans hOX.output,Nat.le_trans hOX.size g3.size,fun j hj hn=>(g3.block j (Nat.lt_of_lt_of_le hj hOX.size) (fun ho=>((zb HOX).2 j ho).elim hn (fun h=>by omega))).trans (hOX.block j hj hn)⟩,fun k hk=>?_⟩,g2,g3,g1.lt⟩
   rcases g2 k hk with h |h
   ·exact (zb HOX).2 k h
   ·exact .inr (Nat.le_trans hOX.size h)
  case done2=>
   rintro O2 X ⟨hX,hOX,hsub⟩
   have hO2:=zb HO2
   refine ⟨O2,by show vR _ _ _ _ _;rw [zb HRS];exact hX.up (by simp;omega),fun k hk=>(hsub k hk).imp_right (fun h=>by omega),⟨hOX.os.trans hO2.os,hOX.tape.trans hO2.tape,hOX.output.trans hO2.output,Nat.le_trans hO2.size hOX.size,fun j hj hn=>(hOX.block j (by omega) hn).trans (hO2.block j hj (fun f=>f))⟩,hX.lt⟩
 case done=>
  rintro Dm O V hDw hOD hX hK
  obtain ⟨cs,hcs⟩:∃ cs,rawS sp xs=cs:=⟨_,rfl⟩
  rw [hcs] at hX
  have HCS9:=zc hcs
  clear hcs
  obtain ⟨sv,q1,q2,q3,q4⟩:=hX.ex
  have hOw:=hX.only
  have hXs:=hX.size
  have hKV:Dm<V.heap.size:=(Array.getElem?_eq_some_iff.1 hK).1
  have hOD2:¬sv.ownBlock=some Dm:=fun e=>hOD ((q4 Dm).2 (.inr e))
  have hnb:¬sv.ownBlock=some w.heap.size:=fun e=>by have:=(zh q2 _ e).1;omega
  have hnw:∀ k,sv.ownBlock=some k→w.heap.size+1≤k:=fun k e=>(zh q2 k e).1
  clear hX
  have HFin:Hid (∀ V2,ze (fun k=>sv.ownBlock=some k) V V2→V2.heap[Dm]?=some (.deferred (some []))∧ze (fun _=>False) w (V2.putObj Dm (.deferred none))):=fun V2 h=>⟨(h.block Dm hKV hOD2).trans hK,⟨h.os.trans hOw.os,h.tape.trans hOw.tape,h.output.trans hOw.output,by rw [yP];exact Nat.le_trans hOw.size h.size,fun j hj _=>(World.putObj_heap_other (by omega)).trans ((h.block j (by have:=hOw.size;omega) (fun e=>by have:=hnw j e;omega)).trans (hOw.block j hj (fun f=>f)))⟩⟩
  rcases q2.2 with ⟨rfl,hz9⟩ |⟨g,cap,cur,rfl,hbg,hg,hnc,hcm,hcs,htake⟩
  ·have hcs0:cs=[]:=by simpa using hz9
   subst hcs0
   clear q2 hOD2 hnb hnw hOw
   gi_wp2_with (refine ⟨trivial,?_⟩;gi_at_call 124;refine (callsIn_wide.2 (sortN _)).mono ?_;rintro e V1 ⟨rfl,hO1⟩;have m1:=(hO1.cell (p:=⟨w.heap.size,0,none⟩) (World.block_lt_of_cell? _ _ q1) (fun f=>f)).trans q1;have HO1:=zc hO1;clear hO1)
   refine ⟨trivial,(callsIn_wide.2 (zcQ _)).mono ?_⟩
   rintro e V2 ⟨rfl,hO2⟩
   have HO2:=zc ((zb HO1).trans hO2)
   clear hO2
   gi_wp2
   obtain ⟨g1,g2⟩:=zb HFin _ ((zb HO2).mono (fun _ _ f=>f.elim))
   refine ⟨by simp,.inl ⟨_,_,rfl,run_takeDeferred g1,?_⟩⟩
   exact ⟨_,results_tmp rfl _ _ _,⟨_,rfl,.inl ⟨rfl,zb HCS9⟩⟩,g2⟩
  ·have hRow:=vR.row q2
   have hgl:=(zh q2 g rfl).2
   have HSo:=zc (sortE g cap cs.toArray V hRow.1 hgl (by simp;omega))
   have hcc:=hRow.2.2
   have hwg:w.heap.size<g:=by omega
   have hgD:g≠Dm:=fun e=>hOD2 (by simp only [Value.ownBlock];exact congrArg some e)
   rw [List.size_toArray] at HSo
   clear q2 hOD2 hnw hOw hRow hcs htake
   have hgne:¬zt g w.heap.size:=fun e=>hnb (by simp only [Value.ownBlock];exact congrArg some e.symm)
   gi_wp2_with (refine ⟨trivial,?_⟩;gi_at_call 124;refine (callsIn_wide.2 (zb HSo)).mono ?_;rintro e V1 ⟨rfl,hO1,hR1⟩;have m1:=(hO1.cell (p:=⟨w.heap.size,0,none⟩) (World.block_lt_of_cell? _ _ q1) hgne).trans q1;have HO1:=zc hO1;have HR1:=zc hR1;clear hO1 hR1)
   have HCo:=zc (compactE g cap (sort ltInt cs.toArray) V1 (zb HR1) (by rw [qZ];simp;omega) (by rw [qZ];simpa using hcc))
   rw [qZ,List.size_toArray] at HCo
   refine ⟨trivial,(callsIn_wide.2 (zb HCo)).mono ?_⟩
   rintro e V2 ⟨rfl,hO2,hH2⟩
   have HO2:=zc ((zb HO1).trans hO2)
   have HH2:=zc hH2
   clear hO2 hH2
   gi_wp2
   have h9:Holds (Value.int .i32) V2 g 0 (jl cs).toArray:=by unfold jl;rw [qZ,List.size_toArray];exact Holds.front (zb HH2)
   have HH9:Hid (Holds (Value.int .i32) (V2.putObj Dm (.deferred none)) g 0 (jl cs).toArray):=fun t ht=>⟨(World.cell?_of_block (w:=V2) (World.putObj_heap_other (by first |exact hgD |exact hgD.symm))).trans (h9 t ht).1,(Xy (World.putObj_heap_other (by first |exact hgD |exact hgD.symm))).trans (h9 t ht).2⟩
   obtain ⟨g1,g2⟩:=zb HFin _ ((zb HO2).mono (fun k _ f=>by simp only [Value.ownBlock];exact congrArg some (Eq.symm f)))
   refine ⟨by simp,.inl ⟨_,_,rfl,run_takeDeferred g1,?_⟩⟩
   refine ⟨_,results_tmp rfl _ _ _,⟨_,rfl,by rw [zb HCS9];exact .inr ⟨g,cap,by first |(unfold jl;rw [qZ,List.size_toArray];done) |(unfold jl;rw [qZ,List.size_toArray];rfl) |(unfold jl;simp [qZ,Act.put,Act.eval]),hwg,zb HH9⟩⟩,g2⟩
open Sm (Stp Tree capT)
theorem yu.one {w:World}{A B:Nat→Prop}{v:Value}{l l':List (Int×Int)}(h:yu w A v l)(k:yu w B v l'):l=l':=by
 rcases h with ⟨h1,h2⟩ |⟨g,cap,h1,_,_,_,h4⟩<;>rcases k with ⟨k1,k2⟩ |⟨g',cap',k1,_,_,_,k4⟩
 ·rw [h2,k2]
 ·rw [h1] at k1;simp at k1
 ·rw [h1] at k1;simp at k1
 ·rw [h1] at k1
  simp at k1
  obtain ⟨rfl,hl,rfl⟩:=k1
  refine List.ext_getElem hl (fun i hi hi'=>?_)
  obtain ⟨a1,a2⟩:=h4 i _ (List.getElem?_eq_getElem hi)
  obtain ⟨b1,b2⟩:=k4 i _ (List.getElem?_eq_getElem hi')
  rw [a1] at b1
  rw [a2] at b2
  simp at b1 b2
  exact Prod.ext b1 b2
open Classical in
theorem jk.spansF {w V:World}{pb g cap st:Nat}{Z:List (Stp×Value)}{ws:Slc}{W:Int→Bool}{zs:List Slc}(h:jk w V pb g cap st Z ws W)(hz:Z.map Prod.snd=zs.map slV) :
  ∃ sp:Slc→List (Int×Int),(∀ p∈ws :: zs,∃ A,yu V A (slV p) (sp p)∧Cs.zK (sp p))∧(∀ c,Eqv.inSp (sp ws) c=W c)∧∀ z∈Z,∃ p∈zs,∀ c,Eqv.inSp (sp p) c=Prg.setP z.1 c:=by
 have hs:=h.spans hz
 refine ⟨fun p=>if hp:∃ l A,yu V A (slV p) l∧Cs.zK l then Classical.choose hp else [],fun p hp=>?_,fun c=>?_,fun z hzm=>?_⟩
 ·have hp:=hs p hp
  simp only [dif_pos hp]
  exact Classical.choose_spec hp
 ·have hp:=hs ws List.mem_cons_self
  simp only [dif_pos hp]
  obtain ⟨A,h1,_⟩:=Classical.choose_spec hp
  obtain ⟨sv,l,e1,e2,_,e4⟩:=h.word
  simp at e1
  subst e1
  rw [h1.one e2]
  exact e4 c
 ·have:z.2∈zs.map slV:=by rw [←hz];exact List.mem_map_of_mem hzm
  obtain ⟨p,hpm,hpe⟩:=List.mem_map.1 this
  refine ⟨p,hpm,fun c=>?_⟩
  have hp:=hs p (List.mem_cons_of_mem _ hpm)
  simp only [dif_pos hp]
  obtain ⟨A,h1,_⟩:=Classical.choose_spec hp
  obtain ⟨sv,l,e1,e2,_,e4⟩:=h.sets z hzm
  simp at e1
  subst e1
  rw [←hpe] at e2
  rw [h1.one e2]
  exact e4 c
theorem za7 {sp:Slc→List (Int×Int)}{xs:List Slc}{p:Slc}(hp:p∈xs):∀ x∈sp p,x.1∈jl (rawS sp xs)∧x.2+1∈jl (rawS sp xs):=by
 intro x hx
 have h:=(Yq (rawS sp xs).toArray).2
 have hr:∀ y,y∈rawP (sp p)→y∈jl (rawS sp xs):=fun y hy=>by
  unfold jl
  rw [h]
  simp only [rawS]
  exact List.mem_flatMap.2 ⟨p,hp,hy⟩
 exact ⟨hr _ (List.mem_flatMap.2 ⟨x,hx,by simp⟩),hr _ (List.mem_flatMap.2 ⟨x,hx,by simp⟩)⟩
theorem za8 {sp:Slc→List (Int×Int)}{xs:List Slc}{V:World}(h:∀ p∈xs,∃ A,yu V A (slV p) (sp p)∧Cs.zK (sp p)):∀ x∈jl (rawS sp xs),0≤x∧x≤1114112:=by
 intro x hx
 have hx2:=((Yq (rawS sp xs).toArray).2 x).1 hx
 simp only [rawS,List.mem_flatMap] at hx2
 obtain ⟨p,hp,hx3⟩:=hx2
 obtain ⟨A,_,_,h2⟩:=h p hp
 obtain ⟨y,hy,hx4⟩:=List.mem_flatMap.1 hx3
 have:=h2 y hy
 simp [Cs.okS] at this hx4
 omega
theorem Ys (cs:List Int):(jl cs).Pairwise (· < ·):=(Yq cs.toArray).1
theorem VX {Z:List (Stp×Value)}{sp:Slc→List (Int×Int)}{ws:Slc}{zs:List Slc}{W:Int→Bool}(h1:∀ c,Eqv.inSp (sp ws) c=W c)(h2:∀ z∈Z,∃ p∈zs,∀ c,Eqv.inSp (sp p) c=Prg.setP z.1 c){c d:Int}(h :  Fnd.grp (jl (rawS sp (ws :: zs))) c =  Fnd.grp (jl (rawS sp (ws :: zs))) d) :
  W c=W d∧∀ z∈Z,Prg.setP z.1 c=Prg.setP z.1 d:=by
 refine ⟨?_,fun z hz=>?_⟩
 ·rw [←h1,←h1]
  exact  Fnd.alike (za7 List.mem_cons_self) h
 ·obtain ⟨p,hp,e⟩:=h2 z hz
  rw [←e,←e]
  exact  Fnd.alike (za7 (List.mem_cons_of_mem _ hp)) h
end
section
open Go.RowKit Go.Shelf Go.Lib
open Sm (Stp Tree capT)
set_option maxHeartbeats 4000000
set_option maxRecDepth 1000000
def CutsAt (w:World)(A:Nat→Prop)(pb:Nat)(cs:List Int):Prop:=∃ v,w.cell? ⟨pb,3,none⟩=some v∧((v = .slice none 0 0∧cs=[])∨∃ g cap,v = .slice (some ⟨g,0,none⟩) cs.length cap∧A g∧g≠pb∧Sort.Holds (Value.int .i32) w g 0 cs.toArray)
theorem CutV.slice {w w':World}{v:Value}{cs:List Int}(h:CutV w w' v cs):∃ a k c,v = .slice a k c:=by rcases h with ⟨h,_⟩ |⟨g,cap,h,_⟩<;>exact ⟨_,_,_,h⟩
theorem zcT:jl []=[]:=List.eq_nil_iff_forall_not_mem.2 (fun x hx=>by have:=((Yq (#[]:Array Int)).2 x).1 hx;simp at this)
theorem CutV.cutsAt {w w':World}{v:Value}{cs:List Int}{pb:Nat}{A:Nat→Prop}(h:CutV w w' v cs)(hp:pb<w.heap.size)(hA:∀ g,w.heap.size<g→A g):(∃ u,w'.cell? ⟨pb,3,none⟩=some u)→CutsAt (w'.setCell ⟨pb,3,none⟩ v) A pb (jl cs):=by
 rintro ⟨u,hu⟩
 refine ⟨v,World.cell?_setCell_same _ _ _ hu,?_⟩
 rcases h with ⟨h1,h2⟩ |⟨g,cap,h1,h2,h3⟩
 ·exact .inl ⟨h1,by rw [h2];exact zcT⟩
 ·refine .inr ⟨g,cap,h1,hA g h2,by omega,fun t ht=>⟨?_,(zk _ _ _ _).trans (h3 t ht).2⟩⟩
  exact (World.cell?_setCell_other _ _ _ _ (by simp<;>omega)).trans (h3 t ht).1
theorem newX (F:Nat)(T:Tree)(v:Value)(w:World)(hp:vJ F w w.heap.size v T)(hif:∃ T y,v = .iface T y)(hc:capT F T≤299) :
  Calls Tryz.prog 37 #[v] w fun e w'=>∃ pb W cs,e = .returned (.pointer (some ⟨pb,0,none⟩))∧xi w' (fun g=>w.heap.size≤g) pb (Sm.prg F T).2 (Sm.prg F T).1 W∧(((Sm.prg F T).2.any askS)=true→W=Cs.zT 119)∧CutsAt w' (fun g=>w.heap.size≤g) pb cs∧cs.Pairwise (· < ·)∧(∀ x∈cs,0≤x∧x≤1114112)∧(∀ c d,Fnd.grp cs c=Fnd.grp cs d→W c=W d∧∀ s∈(Sm.prg F T).2,Prg.setP s c=Prg.setP s d)∧ze (fun _=>False) w w':=by
 obtain ⟨iT,iy,rfl⟩:=hif
 have hlen:((Sm.prg F T).2.length:Int)≤300:=by
  have:=Sm.XI hp.at'.wf (by omega) 0 [Sm.q8]
  simp at this
  unfold Sm.prg
  omega
 have HP:=zc hp
 clear hp
 have HO1:Hid (ze (fun _=>False) w (w.alloc (.cells #[.slice none 0 0] 156))):=(ze.refl _ _).alloc _
 have HB1:Hid (qi (w.alloc (.cells #[.slice none 0 0] 156)) w.heap.size []):=⟨⟨.slice none 0 0,zm w _ rfl _ _ 0 _ rfl,World.ownsRow_nil _ _ _ _,fun z hz=>by cases hz⟩,zG w _ rfl _ _ 0⟩
 go_enter Tryz.func37,Tryz.ntmps37
 go_upto_region 4 with (first |(go_at_call 66;refine (kV w.heap.size [] Sm.q8 _ (zb HB1) (by decide) (by decide)).mono ?_;rintro e w2 ⟨Z2,rfl,hZ2,hB2⟩;have HB2:=zc hB2;have HZ2:=zc hZ2;clear hB2 hZ2))
 have hs2:sts Z2=[Sm.q8]:=by have:=zb HZ2;simpa [sts] using this
 have hO2:ze (fun k=>w.heap.size≤k) w w2:=((zb HO1).mono (fun _ _ f=>f.elim)).trans (zb HB2).only
 have HBu:Hid (Calls Tryz.prog 67 #[.pointer (some ⟨w.heap.size,0,none⟩),.iface iT iy,.int .i64 0] w2 (vo w2 w.heap.size (Sm.prg F T))):=by
  have hb:=zbB w.heap.size F (.iface iT iy) T 0 Z2 w2 ((zb HP).keep hO2) (zb HB2).at' (by rw [←zU,hs2];decide) (by rw [hs2];unfold Sm.prg at hlen;omega)
  rw [hs2] at hb
  exact hb
 clear hs2
 refine (zb HBu).mono ?_
 rintro e w3 ⟨Z,rfl,hZ,hB3⟩
 obtain ⟨sv,d1,_⟩:=hB3.at'.ex
 have hO3:ze (fun _=>False) w w3:=by
  have:=hO2.trans hB3.only
  exact ⟨this.os,this.tape,this.output,this.size,fun j hj _=>this.block j hj (by omega)⟩
 have hZl:Z.length=(Sm.prg F T).2.length:=by rw [←hZ,zU]
 have hpos:0<Z.length:=by
  have:=Sm.yU F T 0 [Sm.q8]
  simp at this
  unfold Sm.prg at hZl
  omega
 obtain ⟨g,cap,rfl,hN⟩:=VA (st:=(Sm.prg F T).1) hB3.at' d1 hpos hO3
 have HN:=zc hN
 have HZ:=zc hZ
 have HZl:=zc hZl
 clear hZ hZl hN hB3 hO3 hO2
 have hZ300:Z.length≤300:=by have:=zb HZl;omega
 have HFit:Hid (∀ (k:Nat) s,(Sm.prg F T).2[k]?=some s→s.next<(Sm.prg F T).2.length∧s.other<(Sm.prg F T).2.length):=by
  intro k s hk
  exact Sm.VN F T 0 [Sm.q8] (by simp) (fun s hs=>by obtain rfl:=List.mem_singleton.1 hs;decide) s (List.mem_of_getElem? hk)
 have HStl:Hid ((Sm.prg F T).1<(Sm.prg F T).2.length):=Sm.qt F T 0 [Sm.q8] (by simp)
 go_upto_region 5 with fail
 generalize w3.alloc (.cells #[.slice (some ⟨g,0,none⟩) Z.length cap,.int .i64 ((Sm.prg F T).1:Nat),.slice none 0 0,.slice none 0 0] 168)=w4 at *
 generalize w3.heap.size=pb at *
 have hc0:=(zb HN).at'.c0
 obtain ⟨zs,hzs⟩:=slcs Z (zb HN).sets
 have Hzs:=zc hzs
 clear hzs
 have HCo:=zc (Qp Z g cap w4 (fun z hz=>Kp ((zb HN).sets z hz)) (zb HN).at'.row (zb HN).at'.gl (by omega))
 have hany:Z.any (fun z=>askS z.1)=(Sm.prg F T).2.any askS:=by rw [←zb HZ];unfold sts;rw [List.any_map];rfl
 rw [hany] at HCo
 clear hany hpos d1
 cases hcb:(Sm.prg F T).2.any askS
 ·rw [hcb] at HCo
  have Hcb:=zc hcb
  clear hcb
  go_upto_region 7 with (go_at_call 68;refine (zb HCo).mono ?_;rintro e w5 ⟨rfl,hO5⟩;have HN6:=zc ((zb HN).keep hO5);clear hO5)
  go_wp2_with (first |(go_at_call 72;refine (Vz pb _).mono ?_;rintro e w8 ⟨v,rfl,kb,rfl,hkb1,hkb2,hO8⟩;have HN8:=zc ((zb HN6).keep hO8);have HK8:=zc hkb2;have hkl:=World.block_lt_of_cell? w8 _ hkb2;clear hO8 hkb2) |(go_at_call 71;(obtain ⟨sp,hsp1,hsp2,hsp3⟩:=(zb HN8).spansF (zb Hzs));have HSp:=zc (And.intro hsp2 hsp3);have HBd:=zc (za8 hsp1);have hpl8:=(zb HN8).pl;have ho8:=(zb HN8).only.size;refine (Yr sp 126 #[.pointer (some ⟨kb,0,none⟩)] (((none,0,0):Slc) :: zs) (fun k=>k=kb∨k=pb∨k=g) _ (enters_of Tryz.func126 (by kernel_rfl) rfl) (Vy pb g cap kb Z ((none,0,0):Slc) zs _ (zb HN8).at' (zb HK8) (zb Hzs) (by omega) 8 (by omega)) (fun k hk=>by rcases hk with rfl |rfl |rfl;exact hkl;exact (zb HN8).pl;exact (zb HN8).at'.gl) (by have h9:=congrArg List.length (zb Hzs);simp at h9;simp;omega) hsp1).mono ?_;rintro e w9 ⟨⟨v9,rfl,hV9⟩,hO9⟩;(obtain ⟨ra,rk,rc,rfl⟩:=hV9.slice);have HV9:=zc (hV9.cutsAt (pb:=pb) (A:=fun g=>w.heap.size≤g) hpl8 (fun g hg=>by omega));clear hsp1 hsp2 hsp3 hpl8 ho8 hV9;have hN9:=(zb HN8).keep hO9;(obtain ⟨u9,d3⟩:=hN9.c3);have f3:=hN9.f3;have HN9:=zc hN9;clear hO9 hN9))
  go_ret
  have hE:=(zb HN9).setOther (.slice ra rk rc)
  refine ⟨pb,(fun _=>false),_,rfl,?_,?_,zb HV9 (zb HN9).c3,Ys _,zb HBd,fun c d hg=>?_,hE.only⟩
  ·have hPr:=hE.prog (by omega) ?_ ?_
   ·rw [zb HZ] at hPr;exact hPr
   ·rw [zb HZ];exact zb HFit
   ·rw [zb HZ];exact zb HStl
  ·intro h;rw [zb Hcb] at h;cases h
  ·obtain ⟨a1,a2⟩:=VX (zb HSp).1 (zb HSp).2 hg
   refine ⟨a1,fun s hs=>?_⟩
   rw [←zb HZ] at hs
   obtain ⟨z,hz1,rfl⟩:=List.mem_map.1 hs
   exact a2 z hz1
 ·rw [hcb] at HCo
  clear hcb
  go_upto_region 7 with (first |(go_at_call 68;refine (zb HCo).mono ?_;rintro e w5 ⟨rfl,hO5⟩;have HN5:=zc ((zb HN).keep hO5);clear hO5) |(go_at_call 70;refine (vW _).mono ?_;rintro e w6 ⟨v,rfl,hS6,hO6⟩;(obtain ⟨sv6,sp6,rfl,_⟩:=id hS6);(obtain ⟨⟨pa6,pn6,pc6⟩,rfl⟩:=Kp hS6);unfold slV at hS6 ⊢;simp only [] at hS6 ⊢;have hN6:=(zb HN5).keep hO6;have d2:=hN6.at'.c2;have f2:=hN6.f2;have HW:=zc (hN6.setWord (ws':=(pa6,pn6,pc6)) (W':=Cs.zT 119) (hS6.mono (fun q _ hq=>⟨by have:=(zb HN5).only.size;omega,by have:=(zb HN5).pl;omega⟩)));clear hN6 hS6 hO6))
  have HN6:=HW
  go_wp2_with (first |(go_at_call 72;refine (Vz pb _).mono ?_;rintro e w8 ⟨v,rfl,kb,rfl,hkb1,hkb2,hO8⟩;have HN8:=zc ((zb HN6).keep hO8);have HK8:=zc hkb2;have hkl:=World.block_lt_of_cell? w8 _ hkb2;clear hO8 hkb2) |(go_at_call 71;(obtain ⟨sp,hsp1,hsp2,hsp3⟩:=(zb HN8).spansF (zb Hzs));have HSp:=zc (And.intro hsp2 hsp3);have HBd:=zc (za8 hsp1);have hpl8:=(zb HN8).pl;have ho8:=(zb HN8).only.size;refine (Yr sp 126 #[.pointer (some ⟨kb,0,none⟩)] (((pa6,pn6,pc6):Slc) :: zs) (fun k=>k=kb∨k=pb∨k=g) _ (enters_of Tryz.func126 (by kernel_rfl) rfl) (Vy pb g cap kb Z ((pa6,pn6,pc6):Slc) zs _ (zb HN8).at' (zb HK8) (zb Hzs) (by omega) 8 (by omega)) (fun k hk=>by rcases hk with rfl |rfl |rfl;exact hkl;exact (zb HN8).pl;exact (zb HN8).at'.gl) (by have h9:=congrArg List.length (zb Hzs);simp at h9;simp;omega) hsp1).mono ?_;rintro e w9 ⟨⟨v9,rfl,hV9⟩,hO9⟩;(obtain ⟨ra,rk,rc,rfl⟩:=hV9.slice);have HV9:=zc (hV9.cutsAt (pb:=pb) (A:=fun g=>w.heap.size≤g) hpl8 (fun g hg=>by omega));clear hsp1 hsp2 hsp3 hpl8 ho8 hV9;have hN9:=(zb HN8).keep hO9;(obtain ⟨u9,d3⟩:=hN9.c3);have f3:=hN9.f3;have HN9:=zc hN9;clear hO9 hN9))
  go_ret
  have hE:=(zb HN9).setOther (.slice ra rk rc)
  refine ⟨pb,Cs.zT 119,_,rfl,?_,?_,zb HV9 (zb HN9).c3,Ys _,zb HBd,fun c d hg=>?_,hE.only⟩
  ·have hPr:=hE.prog (by omega) ?_ ?_
   ·rw [zb HZ] at hPr;exact hPr
   ·rw [zb HZ];exact zb HFit
   ·rw [zb HZ];exact zb HStl
  ·intro _;rfl
  ·obtain ⟨a1,a2⟩:=VX (zb HSp).1 (zb HSp).2 hg
   refine ⟨a1,fun s hs=>?_⟩
   rw [←zb HZ] at hs
   obtain ⟨z,hz1,rfl⟩:=List.mem_map.1 hs
   exact a2 z hz1
end
end Go.Proofs.YtcgleficedipkaaGreatDoor
