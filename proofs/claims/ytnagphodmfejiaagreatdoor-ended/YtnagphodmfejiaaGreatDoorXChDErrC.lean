/- The program's iterator made, and the length of a character. -/
import Derived.Test.YtnagphodmfejiaaGreatDoorXRefXChC
import Derived.RangeFuncBox
import Derived.LaidEql
import Derived.Stop.Asserts
import Derived.RowKitTokens
namespace Go.Proofs.YtnagphodmfejiaaGreatDoor
section
open Go.RowKit Go.Shelf
set_option maxHeartbeats 800000
theorem each_any (s:ByteArray)(w:World) :
  Calls Tryz.prog 84 #[.string s] w fun x w'=>x = .returned (.func (.func 136) #[] #[.pointer (some ⟨w.heap.size,0,none⟩)])∧w'=w.alloc (.cells #[.string s] 9):=by
 go_enter Tryz.func84,Tryz.ntmps84
 go_wp2_with fail
 go_ret
 exact ⟨rfl,rfl⟩
namespace Pro
def xW (c:Int):Int:=if c≤127 then 1 else if c≤2047 then 2 else if c≤65535 then 3 else 4
end Pro
theorem Ke (c:Int)(w:World)(h0:0≤c)(h1:c≤1114111)(h2:¬(55296≤c∧c≤57343)) :
  Calls Tryz.prog 85 #[.int .i32 c] w fun x w'=>x = .returned (.int .i64 (Pro.xW c))∧w'=w:=by
 by_cases a1:c≤127
 ·have HR:Hid (Pro.xW c=1):=by unfold Pro.xW;rw [if_pos a1];rfl
  go_enter Tryz.func85,Tryz.ntmps85
  go_wp2_with fail
  go_ret
  rw [zb HR];exact ⟨rfl,rfl⟩
 ·by_cases a2:c≤2047
  ·have HR:Hid (Pro.xW c=2):=by unfold Pro.xW;rw [if_neg a1,if_pos a2];rfl
   go_enter Tryz.func85,Tryz.ntmps85
   go_wp2_with fail
   go_ret
   rw [zb HR];exact ⟨rfl,rfl⟩
  ·by_cases a3:c≤65535
   ·have HR:Hid (Pro.xW c=3):=by unfold Pro.xW;rw [if_neg a1,if_neg a2,if_pos a3];rfl
    by_cases a4:55296≤c
    ·have a5:¬c≤57343:=fun h=>h2 ⟨a4,h⟩
     clear h2
     go_enter Tryz.func85,Tryz.ntmps85
     go_wp2_with fail
     go_ret
     rw [zb HR];exact ⟨rfl,rfl⟩
    ·clear h2
     go_enter Tryz.func85,Tryz.ntmps85
     go_wp2_with fail
     go_ret
     rw [zb HR];exact ⟨rfl,rfl⟩
   ·have HR:Hid (Pro.xW c=4):=by unfold Pro.xW;rw [if_neg a1,if_neg a2,if_neg a3];rfl
    clear h2
    go_enter Tryz.func85,Tryz.ntmps85
    go_wp2_with fail
    go_ret
    rw [zb HR];exact ⟨rfl,rfl⟩
theorem one_len {s:ByteArray}{p n:Nat}{c:Int}(h:Ref.oneF s p=some (n,c)):Pro.xW c=(n:Int):=by
 obtain ⟨h1,h2,h3,h4,_⟩:=Ref.xu h
 have hb0:=(zw s p).2 (by omega)
 have hb1:=ye s p
 have cases4:n=1∨n=2∨n=3∨n=4:=by omega
 have hk:Ref.headN (zd s p)=(n:Int):=by rw [Ref.XZ,←h4]
 unfold Ref.headN at hk
 by_cases b1:zd s p<128
 ·rw [Ref.X7 hb0 b1] at h
  obtain ⟨rfl,rfl⟩:=Prod.mk.inj (Option.some.inj h)
  unfold Pro.xW;rw [if_pos (by omega)];rfl
 ·rw [if_neg (by omega)] at hk
  by_cases b2:192≤zd s p∧zd s p<224
  ·obtain ⟨y,nn⟩:=Eqv.zae b2
   by_cases hc:Eqv.cont (zd s (p+1))
   ·rw [y hc] at h
    split at h
    ·cases h
    ·rename_i hb
     rw [Eqv.qW] at hb
     obtain ⟨rfl,rfl⟩:=Prod.mk.inj (Option.some.inj h)
     have l2:Ref.qb ((2:Nat):Int)=128:=rfl
     rw [l2] at hb
     unfold Eqv.cont at hc
     unfold Pro.xW;rw [if_neg (by omega),if_pos (by omega)];rfl
   ·rw [nn hc] at h;cases h
  ·by_cases b3:224≤zd s p∧zd s p<240
   ·obtain ⟨y,nn⟩:=Eqv.QR b3
    by_cases hc:Eqv.cont (zd s (p+1))∧Eqv.cont (zd s (p+2))
    ·rw [y hc] at h
     split at h
     ·cases h
     ·rename_i hb
      rw [Eqv.qW] at hb
      obtain ⟨rfl,rfl⟩:=Prod.mk.inj (Option.some.inj h)
      have l2:Ref.qb ((3:Nat):Int)=2048:=rfl
      rw [l2] at hb
      unfold Eqv.cont at hc
      unfold Pro.xW;rw [if_neg (by omega),if_neg (by omega),if_pos (by omega)];rfl
    ·rw [nn hc] at h;cases h
   ·by_cases b4:240≤zd s p∧zd s p<248
    ·obtain ⟨y,nn⟩:=Eqv.KH b4
     by_cases hc:Eqv.cont (zd s (p+1))∧Eqv.cont (zd s (p+2))∧Eqv.cont (zd s (p+3))
     ·rw [y hc] at h
      split at h
      ·cases h
      ·rename_i hb
       rw [Eqv.qW] at hb
       obtain ⟨rfl,rfl⟩:=Prod.mk.inj (Option.some.inj h)
       have l2:Ref.qb ((4:Nat):Int)=65536:=rfl
       rw [l2] at hb
       unfold Eqv.cont at hc
       unfold Pro.xW;rw [if_neg (by omega),if_neg (by omega),if_neg (by omega)];rfl
     ·rw [nn hc] at h;cases h
    ·rw [if_neg b2,if_neg b3,if_neg b4] at hk;omega
set_option maxHeartbeats 4000000
set_option maxRecDepth 1000000
attribute [local go_sem] Oper.semAt_some
namespace Pro
def xg:List (Int×Int)→List Value
 | []=>[]
 |(a,b) :: r=>.int .i64 a :: .int .i32 b :: xg r
theorem YU (l m:List (Int×Int)):xg (l++m)=xg l++xg m:=by
 induction l with
 |nil=>rfl
 |cons x l ih=>obtain ⟨a,b⟩:=x;simp [xg,ih]
def jT (l:List (Int×Int)):Int:=l.foldl (fun _ x=>x.1+xW x.2) 0
theorem Xp (l:List (Int×Int))(x:Int×Int):jT (l++[x])=x.1+xW x.2:=by unfold jT;simp
theorem YZ (s:ByteArray):∀ (f p:Nat) (x:Int×Int),x∈letM s f p→0≤x.1∧x.1≤s.size∧0≤x.2∧x.2≤1114111∧¬(55296≤x.2∧x.2≤57343)
 |0,_,x,h=>by simp [letM] at h
 |f+1,p,x,h=>by
  simp only [letM] at h
  by_cases hp:p<s.size
  ·rw [Eqv.kC hp] at h
   cases h1:Ref.oneF s p with
   |none=>rw [h1] at h;simp [Eqv.ahead] at h
   |some nc=>
    obtain ⟨m,d⟩:=nc
    rw [h1] at h
    simp only [Eqv.ahead,List.mem_cons] at h
    have hb:=Ref.xu h1
    rcases h with rfl |h
    ·exact ⟨(by show (0:Int)≤(p:Int);omega),(by show (p:Int)≤s.size;omega),hb.2.2.2.2.1,hb.2.2.2.2.2.1,hb.2.2.2.2.2.2⟩
    ·exact YZ s f _ x h
  ·rw [show yw s p=none by unfold yw;rw [if_neg hp]] at h
   simp at h
theorem jU (s:ByteArray):∀ (f p:Nat),(letM s f p).length≤f
 |0,_=>by simp [letM]
 |f+1,p=>by
  simp only [letM]
  split
  ·simp
  ·simp;exact jU s f _
theorem Kf (c:Int):1≤xW c∧xW c≤4:=by unfold xW;(repeat' split)<;>omega
end Pro
theorem Only.later {P Q:Nat→Prop}{a w w':World}(h:Only P a w)(k:Only Q w w')(hq:∀ i,Q i→a.heap.size≤i):Only P a w':=
 ⟨k.os.trans h.os,k.tape.trans h.tape,k.output.trans h.output,Nat.le_trans h.size k.size,fun i hi hp=>(k.block i (Nat.lt_of_lt_of_le hi h.size) (fun q=>by have:=hq i q;omega)).trans (h.block i hi hp)⟩
theorem Tryz.infoLetter:(Tryz.prog.info? 207).map (fun i=>(i.zero,i.size,i.bytes))=some (some (.agg #[.int .i64 0,.int .i32 0]),2,16):=by kernel_rfl
def LetI (w:World)(pre:List (Int×Int))(W:World):Prop:=∃ v,Boxed W w.heap.size 120 v∧W.ownsRow (w.heap.size+3) 207 2 v pre.length (Pro.xg pre)∧(pre=[]→v = .slice none 0 0)∧
 Boxed W (w.heap.size+1) 3 (.int .i64 (Pro.jT pre))∧Only (fun _=>False) w W∧w.heap.size+3≤W.heap.size
theorem LetI.keep {w:World}{pre:List (Int×Int)}{A A':World}(h:LetI w pre A)(hA:Only (fun k=>w.heap.size+3≤k∧(strB A k∨∃ o,A.heap[k]?=some o∧o.isCells=false)) A A'):LetI w pre A':=by
 obtain ⟨v,h1,h2,h3,h4,h5,h6⟩:=h
 refine ⟨v,(hA.block _ h1.lt (fun hp=>by omega)).trans h1,?_,h3,(hA.block _ h4.lt (fun hp=>by omega)).trans h4,h5.later hA (fun i hi=>by omega),Nat.le_trans h6 hA.size⟩
 refine ⟨h2.1,?_⟩
 rcases h2.2 with ⟨rfl,e⟩ |⟨g,cap,cur,rfl,hb,hg,hc,hm,hs,ht⟩
 ·exact .inl ⟨rfl,e⟩
 ·refine .inr ⟨g,cap,cur,rfl,hb,(hA.block g (Array.getElem?_eq_some_iff.1 hg).1 ?_).trans hg,hc,hm,hs,ht⟩
  rintro ⟨_,hq⟩
  rcases hq with ⟨t,hq⟩ |⟨o,ho,hq⟩
  ·cases pre with
   |nil=>have:=h3 rfl;cases this
   |cons x r=>
    have e0:=h2.cellAt 0 (by simp)
    rw [e0] at hq
    simp [Pro.xg] at hq
  ·rw [hg] at ho;cases ho;cases hq
theorem LetI.keepT {w W W':World}{pre:List (Int×Int)}{v:Value}{e:Int}(h1:Boxed W w.heap.size 120 v)(hv:∃ a b c,v = .slice a b c)(h2:W.ownsRow (w.heap.size+3) 207 2 v pre.length (Pro.xg pre))(h3:pre=[]→v = .slice none 0 0)
  (h4:Boxed W (w.heap.size+1) 3 (.int .i64 e)) (hA:Only (fun k=>k=w.heap.size∨k=w.heap.size+1∨v.ownBlock=some k) W W'):KeepT W W':=by
 refine ⟨hA.size,?_⟩
 rintro k ⟨t,ht⟩
 refine hA.block k (World.block_lt_of_cell? W _ ht) ?_
 rintro (rfl |rfl |hk)
 ·obtain ⟨a,b,c,rfl⟩:=hv
  rw [h1.cell] at ht;cases ht
 ·rw [h4.cell] at ht;cases ht
 ·rcases h2.2 with ⟨rfl,e⟩ |⟨g,cap,cur,rfl,_⟩
  ·simp [Value.ownBlock] at hk
  ·simp [Value.ownBlock] at hk
   subst hk
   cases pre with
   |nil=>have:=h3 rfl;cases this
   |cons x r=>
    have e0:=h2.cellAt 0 (by simp)
    rw [e0] at ht
    simp [Pro.xg] at ht
theorem YA (s:ByteArray)(most:Int)(hm:(s.size:Int)≤most)(hs:s.size≤400)(w:World)(T:TypeId)(y:Value)(hsent:w.cell? ⟨1,0,none⟩=some (.iface T y))(_hw:10≤w.heap.size) :
  Calls Tryz.prog 47 #[.string s,.int .i64 most] w fun x w'=>Only (fun _=>False) w w'∧
   ((¬Pro.jT (Pro.letM s (s.size+1) 0)<s.size∧∃ v,x = .returned (.tuple #[v,.nilIface])∧w'.ownsRow (w.heap.size+3) 207 2 v (Pro.letM s (s.size+1) 0).length (Pro.xg (Pro.letM s (s.size+1) 0)))∨
    (Pro.jT (Pro.letM s (s.size+1) 0)<s.size∧∃ v,x = .returned (.tuple #[.slice none 0 0,v])∧FaultAt w' w.heap.size v (.iface T y) (Pro.jT (Pro.letM s (s.size+1) 0)))):=by
 obtain ⟨i0,hi,hz0,hz1,hz2⟩:=info_parts Tryz.infoLetter
 refine (callsIn_wide (n:=5)).1 ?_
 refine callsIn_of_wp_marks Tryz.func47 rfl trivial ?_ rfl
 simp only [Tryz.ntmps47,List.size_toArray,List.length_cons,List.length_nil,Nat.reduceAdd,Nat.reduceSub,Array.replicate_succ,Array.replicate_zero,List.push_toArray,List.append_toArray,List.nil_append,List.cons_append]
 gi_wp2_with (refine ⟨trivial,?_⟩;gi_at_call 84;refine (callsIn_wide.2 (each_any s _)).mono ?_;rintro e w1 ⟨rfl,rfl⟩)
 have b1:=((Boxed.new w 120 (.slice none 0 0)).alloc (.cells #[.int .i64 0] 3)).alloc (.cells #[.string s] 9)
 have b2:=(Boxed.new (w.alloc (.cells #[.slice none 0 0] 120)) 3 (.int .i64 0)).alloc (.cells #[.string s] 9)
 have b3:=(Boxed.new ((w.alloc (.cells #[.slice none 0 0] 120)).alloc (.cells #[.int .i64 0] 3)) 9 (.string s)).cell
 have hO0:Only (fun _=>False) w (((w.alloc (.cells #[.slice none 0 0] 120)).alloc (.cells #[.int .i64 0] 3)).alloc (.cells #[.string s] 9)):=(((Only.refl _ w).alloc _).alloc _).alloc _
 have hz:(((w.alloc (.cells #[.slice none 0 0] 120)).alloc (.cells #[.int .i64 0] 3)).alloc (.cells #[.string s] 9)).heap.size=w.heap.size+3:=by simp
 simp only [World.size_alloc] at b2 b3
 generalize (((w.alloc (.cells #[.slice none 0 0] 120)).alloc (.cells #[.int .i64 0] 3)).alloc (.cells #[.string s] 9))=W0 at *
 have HS:=ze (And.intro hi (And.intro hz0 (And.intro hz1 hz2)))
 clear hi hz0 hz1 hz2
 refine Vq (F:=Fence.wide) rfl (by omega) (gf:=136) (lb:=#[.pointer (some ⟨w.heap.size+1+1,0,none⟩)]) rfl trivial (enters_of Tryz.func136 (by kernel_rfl) rfl)
  (each_seq s hs (w.heap.size+1+1) W0 b3 4 (by omega)) (fun _=>rfl) (LetI w) (fun pre A A' h hA=>h.keep (hA.mono (fun k _ hp=>⟨by have:=hp.1;omega,hp.2⟩)))
  ⟨.slice none 0 0,b1,World.ownsRow_nil _ _ _ _,fun _=>rfl,b2,hO0,by omega⟩
  (fun x=>{ tmps:=#[.string s,.int .i64 most,undef,undef,.slice none 0 0,.nilIface,.pointer (some ⟨w.heap.size,0,none⟩),.pointer (some ⟨w.heap.size+1,0,none⟩),.int .i64 x.1,.int .i32 x.2,.string s,.int .i64 (s.size:Nat),.int .i64 most,.bool (decide (most<(s.size:Int))),undef,undef,undef,.string s,.func (.func 136) #[] #[.pointer (some ⟨w.heap.size+1+1,0,none⟩)],.int .i64 x.1,.int .i32 x.2,undef,undef,undef,undef,undef,undef,undef,undef,undef,undef,undef,undef,undef,undef,undef,undef,undef,undef],defers:=[] }) ?assign ?body ?done
 case assign=>
  intro l x W K hK
  gi_wp2
  exact hK
 case body=>
  rintro l pre x W ⟨v,bv,hrow,hnil,bE,hO,hsz⟩ hpre
  obtain ⟨hi,hz0,hz1,hz2⟩:=zb HS
  have hmem:=Pro.YZ s (s.size+1) 0 x (hpre.subset (by simp))
  have hlen:pre.length+1≤401:=by have:=hpre.length_le;have h2:=Pro.jU s (s.size+1) 0;simp at this;omega
  obtain ⟨hx0,hx1,hc0,hc1,hc2⟩:=hmem
  have hrn:=Pro.Kf x.2
  obtain ⟨pa,pn,pc,rfl⟩:=zq hrow
  have k1:=bv.cell
  have Hrow:=ze hrow
  obtain ⟨xa,xc⟩:=x
  simp only [] at hx0 hx1 hc0 hc1 hc2 hrn ⊢
  gi_wp2_with (gi_at_builtin;refine zb ?_)
  refine ze ?_
  refine wpListIn_append_own _ rfl _ _ 120 rfl (w.heap.size+3) 207 i0 (.agg #[.int .i64 0,.int .i32 0]) 2 16 Tryz.underlying120 hi hz0 hz1 hz2 rfl (by decide) (.slice pa pn pc) _ _ rfl (World.ownsRow.alloc hrow _) ⟨W.heap.size,0,none⟩ 1 1 [.int .i64 xa,.int .i32 xc] rfl rfl (cell_two_new _ _ _ _) (fun u hu=>by simp at hu;rcases hu with rfl |rfl<;>rfl) (by unfold maxLen;omega) (by omega) (by simp;omega) ?_
  intro v' w1 hown' hgrow _
  obtain ⟨g',cap',rfl⟩:=ownsRow_succ hown'
  have bv1:Boxed w1 w.heap.size 120 (.slice pa pn pc):=(bv.alloc _).kept hgrow (bv.not_row (by decide) hrow)
  have bE1:Boxed w1 (w.heap.size+1) 3 (.int .i64 (Pro.jT pre)):=(bE.alloc _).kept hgrow (bE.not_row (by decide) hrow)
  have bE2:=bE1.other (B':=w.heap.size) (by omega) (.slice (some ⟨g',0,none⟩) (pre.length+1) cap')
  have HOW:Hid (Only (fun k=>k=w.heap.size∨k=w.heap.size+1∨(Value.slice pa pn pc).ownBlock=some k) W w1):=((Only.refl _ W).alloc _).grown hgrow (fun k e=>.inl (.inr (.inr e)))
  have HKO:Hid (KeepsOthers W w1):=(KeepsOthers.alloc W _).trans (KeepsOthers.of_grownBy hgrow fun q o ej hj=>by
   rcases (World.ownsRow.alloc hrow (.cells #[.int .i64 xa,.int .i32 xc] 207)).2 with ⟨e,_⟩ |⟨g,cap,cur,e,_,hgb,_⟩
   ·cases e;simp [Value.ownBlock] at ej
   ·cases e
    obtain rfl:g=q:=by simpa [Value.ownBlock] using ej
    rw [hgb] at hj;cases hj;rfl)
  have r1:=bv1.cell
  have r2:=bv1.frozen
  have r3:=bE2.cell
  have r4:=bE2.frozen
  have HOWN:=ze hown'
  have HB1:=ze bv1
  have HB2:=ze bE2
  have HB0:=ze bE
  have HBV:=ze bv
  clear hrow hown' hgrow bv1 bE2 bE1 bE bv
  gi_wp2_with (refine ⟨trivial,?_⟩;gi_at_call 85;refine (CallsIn.inRound l (callsIn_wide.2 (Ke xc _ hc0 hc1 hc2))).mono ?_;rintro e wq ⟨rfl,hwq⟩;obtain rfl:=hwq.symm;clear hwq)
  have HO2:=((zb HOW).setCell (p:=⟨w.heap.size,0,none⟩) (.inl (.inl rfl)) (.slice (some ⟨g',0,none⟩) (pre.length+1) cap')).setCell (p:=⟨w.heap.size+1,0,none⟩) (.inl (.inr (.inl rfl))) (.int .i64 (xa+Pro.xW xc))
  have own1:=(zb HOWN).kept (grownBy_setCell' w1 w.heap.size (.slice (some ⟨g',0,none⟩) (pre.length+1) cap')) (.inr (Boxed.not_row (zb HB1) (by decide) (zb HOWN)).symm)
  have own2:=own1.kept (grownBy_setCell' _ (w.heap.size+1) (.int .i64 (xa+Pro.xW xc))) (.inr (Boxed.not_row (zb HB2) (by decide) own1).symm)
  refine ⟨(((zb HKO).trans (KeepsOthers.setCell _ _ _)).trans (KeepsOthers.setCell _ _ _)).from _,LetI.keepT (zb HBV) ⟨pa,pn,pc,rfl⟩ (zb Hrow) hnil (zb HB0) HO2,?_⟩
  refine ⟨.slice (some ⟨g',0,none⟩) (pre.length+1) cap',Boxed.other (Boxed.set _ (zb HB1)) (by omega) _,?_,fun h=>by simp at h,?_,hO.later HO2 ?_,Nat.le_trans hsz HO2.size⟩
  ·rw [Pro.YU,List.length_append];exact own2
  ·rw [Pro.Xp];exact Boxed.set _ (zb HB2)
  ·rintro i (rfl |rfl |hi)
   ·omega
   ·omega
   ·have:=(zb Hrow).lt i hi;omega
 case done=>
  rintro D W hD ⟨v,bv,hrow,hnil,bE,hO,hsz⟩ hK
  have hen:0≤Pro.jT (Pro.letM s (s.size+1) 0)∧Pro.jT (Pro.letM s (s.size+1) 0)≤500:=by
   rcases List.eq_nil_or_concat (Pro.letM s (s.size+1) 0) with e |⟨pre,x,e⟩
   ·rw [e];simp [Pro.jT]
   ·have hm:=Pro.YZ s (s.size+1) 0 x (by rw [e];simp)
    have hr:=Pro.Kf x.2
    rw [e,List.concat_eq_append,Pro.Xp]
    omega
  have hs1:=(hO.cell (p:=⟨1,0,none⟩) (World.block_lt_of_cell? w _ hsent) (fun f=>f)).trans hsent
  obtain ⟨pa,pn,pc,rfl⟩:=zq hrow
  have k1:=bv.cell
  have k2:=bE.cell
  generalize hEn:Pro.jT (Pro.letM s (s.size+1) 0)=en at *
  by_cases hE:en<s.size
  ·gi_wp2_with (refine ⟨trivial,?_⟩;gi_at_call 56;refine (callsIn_wide.2 (wM T y en _)).mono ?_;rintro e w1 ⟨v,rfl,hv,hO1⟩)
   subst hEn
   have hDl:D<W.heap.size:=(Array.getElem?_eq_some_iff.1 hK).1
   have hK1:=(hO1.block D hDl (fun f=>f)).trans hK
   refine ⟨by simp,.inl ⟨_,_,rfl,run_takeDeferred hK1,?_⟩⟩
   refine ⟨_,results_tmp2 rfl _ _ _,((hO.trans hO1).putObj _ _ (.inr (by omega))),.inr ⟨v,rfl,?_⟩⟩
   exact (hv.keep ((Only.refl (fun k=>k=D) w1).putObj D _ (.inl rfl)) (fun g hg=>by omega)).base (base':=w.heap.size) (by omega)
  ·gi_wp2
   subst hEn
   refine ⟨by simp,.inl ⟨_,_,rfl,run_takeDeferred hK,?_⟩⟩
   refine ⟨_,results_tmp2 rfl _ _ _,(hO.putObj _ _ (.inr (by omega))),.inl ⟨_,rfl,ownsRow_putObj hrow _ hK rfl⟩⟩
end
section
open Go.RowKit
namespace Eqv
theorem QD (s:ByteArray):∀ (f p:Nat) (acc:List (Int×Int)),s.size<p+f→p≤s.size→
  ((Ref.xk s f p acc).2 = -1∧(Pro.letM s f p).foldl (fun _ x=>x.1+Pro.xW x.2) (p:Int)=s.size)∨
  (∃ q:Nat,(Ref.xk s f p acc).2=q∧q<s.size∧(Pro.letM s f p).foldl (fun _ x=>x.1+Pro.xW x.2) (p:Int)=q)
 |0,p,acc,h,hp=>by omega
 |f+1,p,acc,h,hp=>by
  by_cases hlt:p<s.size
  ·have hr:=kC hlt
   cases h1:Ref.oneF s p with
   |none=>
    rw [h1] at hr
    right
    refine ⟨p,by rw [Ref.xO hlt h1],hlt,?_⟩
    simp only [Pro.letM]
    rw [hr]
    rfl
   |some nc=>
    obtain ⟨m,d⟩:=nc
    rw [h1] at hr
    have hb:=Ref.xu h1
    have e:Pro.letM s (f+1) p=((p:Int),d) :: Pro.letM s f (p+m):=by
     simp only [Pro.letM];rw [hr];rfl
    rw [e,Ref.xt hlt h1,List.foldl_cons]
    have:=QD s f (p+m) (acc++[(d,(p:Int))]) (by omega) (by omega)
    rw [show (p:Int)+Pro.xW d=((p+m:Nat):Int) by rw [one_len h1];omega]
    exact this
  ·left
   rw [Ref.qJ hlt]
   refine ⟨rfl,?_⟩
   simp only [Pro.letM]
   rw [show Pro.yw s p=none by unfold Pro.yw;rw [if_neg hlt]]
   show (p:Int)=s.size
   omega
theorem Xq (s:ByteArray):((Ref.zE s).2 = -1∧Pro.jT (Pro.letM s (s.size+1) 0)=s.size)∨(0≤(Ref.zE s).2∧Pro.jT (Pro.letM s (s.size+1) 0)=(Ref.zE s).2∧Pro.jT (Pro.letM s (s.size+1) 0)<s.size):=by
 rcases QD s (s.size+1) 0 [] (by omega) (by omega) with ⟨h1,h2⟩ |⟨q,h1,h2,h3⟩
 ·exact .inl ⟨h1,h2⟩
 ·right
  have e:Pro.jT (Pro.letM s (s.size+1) 0)=q:=h3
  have e2:(Ref.zE s).2=q:=h1
  rw [e,e2]
  exact ⟨by omega,rfl,by omega⟩
end Eqv
set_option maxHeartbeats 800000
theorem QE:∀ (L:List (Int×Int))(j:Nat)(p:Int×Int),L[j]?=some p→(Pro.xg L)[j*2]?=some (.int .i64 p.1)∧(Pro.xg L)[j*2+1]?=some (.int .i32 p.2)
 | [],j,p,h=>by simp at h
 |(x,y) :: r,0,p,h=>by
  simp only [List.getElem?_cons_zero,Option.some.injEq] at h
  subst h
  exact ⟨rfl,rfl⟩
 |(x,y) :: r,j+1,p,h=>by
  have:=QE r j p (by simpa using h)
  rw [show (j+1)*2=j*2+2 by omega]
  exact this
theorem Y0 {w:World}{base:Nat}{v:Value}{L:List (Int×Int)}(h:w.ownsRow base 207 2 v L.length (Pro.xg L)) :
  (v = .slice none 0 0∧L=[])∨∃ g cap,v = .slice (some ⟨g,0,none⟩) L.length cap∧L.length≤cap∧g<w.heap.size∧LetRow w g L:=by
 have how:=h
 obtain ⟨h1,h2⟩:=h
 rcases h2 with ⟨rfl,h0⟩ |⟨g,cap,cur,rfl,hb,hg,hc,hm,hs,ht⟩
 ·exact .inl ⟨rfl,List.eq_nil_of_length_eq_zero h0⟩
 ·refine .inr ⟨g,cap,rfl,hc,(Array.getElem?_eq_some_iff.1 hg).1,?_⟩
  intro j p hj
  have hjl:j<L.length:=by
   by_cases hlt:j<L.length
   ·exact hlt
   ·rw [List.getElem?_eq_none (by omega)] at hj;cases hj
  obtain ⟨e0,e1⟩:=QE L j p hj
  exact ⟨(how.cellAt _ (by omega)).trans e0,(how.cellAt _ (by omega)).trans e1⟩
theorem vz (s:ByteArray)(f p:Nat):Pro.Fit (Pro.letM s f p):=by
 intro k
 unfold Pro.zh
 cases h:(Pro.letM s f p)[k]? with
 |none=>simp
 |some x=>
  have:=Pro.YZ s f p x (List.mem_of_getElem? h)
  simp only []
  omega
theorem Jt {w:World}{base:Nat}{v:Value}{L:List (Int×Int)}{len:Int}(h:w.ownsRow base 207 2 v L.length (Pro.xg L)) :
  RdAt (w.alloc (.cells #[v,.int .i64 0,.int .i64 len,.int .i64 0] 135)) w.heap.size L 0 len 0:=by
 refine ⟨?_,zm w _ rfl _ _ 1 _ rfl,zm w _ rfl _ _ 2 _ rfl,zm w _ rfl _ _ 3 _ rfl,zu w _ rfl _ _ 1,zu w _ rfl _ _ 3⟩
 rcases Y0 h with ⟨rfl,rfl⟩ |⟨g,cap,rfl,hc,hg,hr⟩
 ·exact .inr ⟨rfl,zm w _ rfl _ _ 0 _ rfl⟩
 ·exact .inl ⟨g,cap,zm w _ rfl _ _ 0 _ rfl,hc,hg,hr.keep ((Only.refl (fun _=>False) w).alloc _) (fun f=>f)⟩
theorem je (s:ByteArray)(most:Int)(hm:(s.size:Int)≤most)(hs:s.size≤400)(w:World)(a:Nat→Addr)(hS:Sents w a)(hw:10≤w.heap.size)(hc:(Ref.zE s).2<0) :
  Calls Tryz.prog 47 #[.string s,.int .i64 most] w fun x w'=>∃ v,x = .returned (.tuple #[v,.nilIface])∧w'.ownsRow (w.heap.size+3) 207 2 v (Pro.letM s (s.size+1) 0).length (Pro.xg (Pro.letM s (s.size+1) 0))∧Only (fun _=>False) w w':=by
 refine (YA s most hm hs w _ _ hS.s1 hw).mono ?_
 rintro e w' ⟨hO,⟨_,v,h1,h2⟩ |⟨hE,_⟩⟩
 ·exact ⟨v,h1,h2,hO⟩
 ·rcases Eqv.Xq s with ⟨_,h2⟩ |⟨h1,_,_⟩
  ·omega
  ·omega
theorem Xr (s:ByteArray)(most:Int)(hm:(s.size:Int)≤most)(hs:s.size≤400)(w:World)(a:Nat→Addr)(hS:Sents w a)(hw:10≤w.heap.size)(hc:0≤(Ref.zE s).2) :
  Calls Tryz.prog 47 #[.string s,.int .i64 most] w fun x w'=>∃ v,x = .returned (.tuple #[.slice none 0 0,v])∧FaultAt w' w.heap.size v (zS a 1) (Ref.zE s).2∧Only (fun _=>False) w w':=by
 refine (YA s most hm hs w _ _ hS.s1 hw).mono ?_
 rintro e w' ⟨hO,⟨hE,_⟩ |⟨_,v,h1,h2⟩⟩
 ·rcases Eqv.Xq s with ⟨h2,_⟩ |⟨_,h2,h3⟩
  ·omega
  ·omega
 ·rcases Eqv.Xq s with ⟨h3,_⟩ |⟨_,h3,_⟩
  ·omega
  ·rw [h3] at h2;exact ⟨v,h1,h2,hO⟩
theorem Zx (s:ByteArray)(most:Int)(hm:most<(s.size:Int))(w:World)(a:Nat→Addr)(hS:Sents w a) :
  Calls Tryz.prog 47 #[.string s,.int .i64 most] w fun x w'=>∃ v,x = .returned (.tuple #[.slice none 0 0,v])∧FaultAt w' w.heap.size v (zS a 2) most∧Only (fun _=>False) w w':=by
 have s2:=hS.s2
 unfold zS at s2 ⊢
 go_enter Tryz.func47,Tryz.ntmps47
 go_wp2_with (go_at_call 56;refine (wM _ _ _ _).mono ?_;rintro e w1 ⟨v,rfl,hv,hO1⟩)
 go_ret2
 exact ⟨v,rfl,hv,hO1⟩
theorem Ju (s:ByteArray)(w:World)(a:Nat→Addr)(hS:Sents w a)(hs:200<s.size) :
  Calls Tryz.prog 30 #[.string s] w fun x w'=>∃ v,x = .returned (.tuple #[.nilIface,v])∧FaultAt w' w.heap.size v (zS a 2) 200∧Only (fun _=>False) w w':=by
 have HS:=ze hS
 clear hS
 go_enter Tryz.func30,Tryz.ntmps30
 go_wp2_with (go_at_call 47;refine (Zx s 200 (by omega) _ a (zb HS)).mono ?_;rintro e w1 ⟨v,rfl,hv,hO1⟩;have HV:=ze hv;obtain ⟨g,hg,rfl,f0,f1⟩:=hv;clear f0 f1)
 go_ret2
 exact ⟨_,rfl,zb HV,hO1⟩
theorem Jv (s:ByteArray)(w:World)(a:Nat→Addr)(hS:Sents w a)(hw:10≤w.heap.size)(hs:s.size≤200)(hc:0≤(Ref.zE s).2) :
  Calls Tryz.prog 30 #[.string s] w fun x w'=>∃ v,x = .returned (.tuple #[.nilIface,v])∧FaultAt w' w.heap.size v (zS a 1) (Ref.zE s).2∧Only (fun _=>False) w w':=by
 have HS:=ze hS
 have HC:=ze hc
 clear hS hc
 go_enter Tryz.func30,Tryz.ntmps30
 go_wp2_with (go_at_call 47;refine (Xr s 200 (by omega) (by omega) _ a (zb HS) hw (zb HC)).mono ?_;rintro e w1 ⟨v,rfl,hv,hO1⟩;have HV:=ze hv;obtain ⟨g,hg,rfl,f0,f1⟩:=hv;clear f0 f1)
 go_ret2
 exact ⟨_,rfl,zb HV,hO1⟩
end
section
open Go.RowKit
open Sm (Tree capT)
set_option maxHeartbeats 2000000
set_option maxRecDepth 1000000
theorem alt_bad {b:Nat}{L:List (Int×Int)}{len:Int}{a:Nat→Addr}{w:World}(h:RdAt w b L 0 len 0)(hS:Sents w a)(hb:10≤b)(hL:L.length≤400)(hF:Pro.Fit L)(h0:0≤L.length)(hk:(Pro.altP L len (Pro.zC L len 10) 0).k≠0) :
  Calls Tryz.prog 53 #[.pointer (some ⟨b,0,none⟩)] w fun x w'=>∃ v,x = .returned (.tuple #[.nilIface,v])∧FaultAt w' w.heap.size v (zS a (Pro.altP L len (Pro.zC L len 10) 0).k) (Pro.altP L len (Pro.zC L len 10) 0).p∧Only (zl b) w w':=by
 refine (qZ b L 0 len a w h hS hb hL (by omega) hF).mono ?_
 rintro e w' ⟨hO,hR,⟨h1,_⟩ |⟨_,v,rfl,hv⟩⟩
 ·exact absurd h1 hk
 ·exact ⟨v,rfl,hv,hO⟩
theorem alt_ok {b:Nat}{L:List (Int×Int)}{len:Int}{a:Nat→Addr}{w:World}(h:RdAt w b L 0 len 0)(hS:Sents w a)(hb:10≤b)(hL:L.length≤400)(hF:Pro.Fit L)(h0:0≤L.length)(hk:(Pro.altP L len (Pro.zC L len 10) 0).k=0) :
  Calls Tryz.prog 53 #[.pointer (some ⟨b,0,none⟩)] w fun x w'=>∃ T y F,x = .returned (.tuple #[.iface T y,.nilIface])∧SizeAt F w' (fun g=>w.heap.size≤g) (.iface T y) (Pro.altP L len (Pro.zC L len 10) 0).v∧RdAt w' b L (Pro.altP L len (Pro.zC L len 10) 0).n len 0∧Only (zl b) w w':=by
 refine (qZ b L 0 len a w h hS hb hL h0 hF).mono ?_
 intro e w' hg
 obtain ⟨T,y,F,rfl,hp,hO,hR⟩:=qh hg hk
 exact ⟨T,y,F,rfl,by rw [←(Pro.VK 10 0 h0 hk).at hp.wf];exact hp.size,hR,hO⟩
theorem Kg (s:ByteArray)(w:World)(a:Nat→Addr)(hS:Sents w a)(hw:10≤w.heap.size)(hs:s.size≤200)(hc:(Ref.zE s).2<0)(L:List (Int×Int))(hLe:Pro.letM s (s.size+1) 0=L)(o:Pro.Out)(ho:Pro.altP L (s.size:Nat) (Pro.zC L (s.size:Nat) 10) 0=o)(hk:o.k≠0) :
  Calls Tryz.prog 30 #[.string s] w fun x w'=>∃ v,x = .returned (.tuple #[.nilIface,v])∧FaultAt w' w.heap.size v (zS a o.k) o.p∧Only (fun _=>False) w w':=by
 have HL:Hid (L.length≤400):=by
  have:=Pro.jU s (s.size+1) 0
  rw [hLe] at this;show _≤_;omega
 have HF:Hid (Pro.Fit L):=by rw [←hLe];exact vz s _ _
 have HS:=ze hS
 have HO:=ze ho
 have HE:=ze hLe
 subst ho
 subst hLe
 clear hS
 go_enter Tryz.func30,Tryz.ntmps30
 go_wp2_with (first |(go_at_call 47;refine (je s 200 (by omega) (by omega) _ a (zb HS) hw hc).mono ?_;rintro e w1 ⟨v,rfl,hv,hO1⟩;have HV:=ze hv;obtain ⟨pa,pn,pc,rfl⟩:=zq hv;clear hv;have hz1:=hO1.size) |(go_at_call 53;refine (alt_bad (Jt (zb HV)) ((zb HS).keep (hO1.alloc _) (fun _ _ f=>f)) (by omega) (zb HL) (zb HF) (by omega) hk).mono ?_;rintro e w2 ⟨v,rfl,hv,hO2⟩;have HV2:=ze hv;obtain ⟨g,hg,rfl,f0,f1⟩:=hv;clear f0 f1))
 go_ret2
 exact ⟨_,rfl,(zb HV2).base (by simp;omega),(hO1.alloc _).later hO2 (fun i hi=>by unfold zl at hi;omega)⟩
theorem Jw (s:ByteArray)(w:World)(a:Nat→Addr)(hS:Sents w a)(hw:10≤w.heap.size)(hs:s.size≤200)(hc:(Ref.zE s).2<0)(L:List (Int×Int))(hLe:Pro.letM s (s.size+1) 0=L)(o:Pro.Out)(ho:Pro.altP L (s.size:Nat) (Pro.zC L (s.size:Nat) 10) 0=o)(hk:o.k=0)(hn:o.n≠L.length) :
  Calls Tryz.prog 30 #[.string s] w fun x w'=>∃ v,x = .returned (.tuple #[.nilIface,v])∧FaultAt w' w.heap.size v (zS a 3) (Pro.zB L (s.size:Nat) o.n)∧Only (fun _=>False) w w':=by
 have HL:Hid (L.length≤400):=by
  have:=Pro.jU s (s.size+1) 0
  rw [hLe] at this;show _≤_;omega
 have HF:Hid (Pro.Fit L):=by rw [←hLe];exact vz s _ _
 have HS:=ze hS
 have HO:=ze ho
 have HE:=ze hLe
 subst ho
 subst hLe
 clear hS
 have hin:=Pro.ve (L:=Pro.letM s (s.size+1) 0) (len:=((s.size:Nat):Int)) (D:=Pro.zC (Pro.letM s (s.size+1) 0) ((s.size:Nat):Int) 10) (Pro.xJ 10) 0 (by omega)
 have hn':(((Pro.altP (Pro.letM s (s.size+1) 0) ((s.size:Nat):Int) (Pro.zC (Pro.letM s (s.size+1) 0) ((s.size:Nat):Int) 10) 0).n:Int) == ((Pro.letM s (s.size+1) 0).length:Int))=false:=by simp;omega
 go_enter Tryz.func30,Tryz.ntmps30
 go_wp2_with (first |(go_at_call 47;refine (je s 200 (by omega) (by omega) _ a (zb HS) hw hc).mono ?_;rintro e w1 ⟨v,rfl,hv,hO1⟩;have HV:=ze hv;obtain ⟨pa,pn,pc,rfl⟩:=zq hv;clear hv;have hz1:=hO1.size) |(go_at_call 53;refine (alt_ok (Jt (zb HV)) ((zb HS).keep (hO1.alloc _) (fun _ _ f=>f)) (by omega) (zb HL) (zb HF) (by omega) hk).mono ?_;rintro e w2 ⟨T,y,F,rfl,hv,hR,hO2⟩;have HV2:=ze hv;have HR:=ze hR;clear hv hR;have hz2:=hO2.size;simp only [World.size_alloc] at hz2) |(go_at_call 54;refine (jp w1.heap.size _ _ _ _ _ (zb HR)).mono ?_;rintro e wq ⟨rfl,q1,rfl⟩) |(go_at_call 55;refine (jx w1.heap.size _ _ _ _ a _ ((zb HR).drewN _) (Sents.drewN ((zb HS).keep ((hO1.alloc _).later hO2 (fun i hi=>by unfold zl at hi;omega)) (fun _ _ f=>f)) _) (zb HL) hin.2.1).mono ?_;rintro e w3 ⟨v3,rfl,hv3,hO3⟩))
 go_ret2
 exact ⟨v3,rfl,hv3.base (by simp;omega),((hO1.alloc _).later hO2 (fun i hi=>by unfold zl at hi;omega)).trans (Only.undrewN hO3)⟩
theorem Kh (s:ByteArray)(w:World)(a:Nat→Addr)(hS:Sents w a)(hw:10≤w.heap.size)(hs:s.size≤200)(hc:(Ref.zE s).2<0)(L:List (Int×Int))(hLe:Pro.letM s (s.size+1) 0=L)(o:Pro.Out)(ho:Pro.altP L (s.size:Nat) (Pro.zC L (s.size:Nat) 10) 0=o)(hk:o.k=0)(hn:o.n=L.length)(hv:300≤o.v) :
  Calls Tryz.prog 30 #[.string s] w fun x w'=>∃ v,x = .returned (.tuple #[.nilIface,v])∧FaultAt w' w.heap.size v (zS a 8) 0∧Only (fun _=>False) w w':=by
 have HL:Hid (L.length≤400):=by
  have:=Pro.jU s (s.size+1) 0
  rw [hLe] at this;show _≤_;omega
 have HF:Hid (Pro.Fit L):=by rw [←hLe];exact vz s _ _
 have HS:=ze hS
 have HO:=ze ho
 have HE:=ze hLe
 subst ho
 subst hLe
 clear hS
 have hin:=Pro.ve (L:=Pro.letM s (s.size+1) 0) (len:=((s.size:Nat):Int)) (D:=Pro.zC (Pro.letM s (s.size+1) 0) ((s.size:Nat):Int) 10) (Pro.xJ 10) 0 (by omega)
 have hn':(((Pro.altP (Pro.letM s (s.size+1) 0) ((s.size:Nat):Int) (Pro.zC (Pro.letM s (s.size+1) 0) ((s.size:Nat):Int) 10) 0).n:Int) == ((Pro.letM s (s.size+1) 0).length:Int))=true:=by simp;omega
 have hin3:=hin.2.2 hk
 have hS8:∀ w',Only (fun _=>False) w w'→w'.cell? ⟨0,0,none⟩=some (zS a 8):=fun w' ho=>((zb HS).keep ho (fun _ _ f=>f)).s8
 unfold zS at hS8 ⊢
 go_enter Tryz.func30,Tryz.ntmps30
 go_wp2_with (first |(go_at_call 47;refine (je s 200 (by omega) (by omega) _ a (zb HS) hw hc).mono ?_;rintro e w1 ⟨v,rfl,hv,hO1⟩;have HV:=ze hv;obtain ⟨pa,pn,pc,rfl⟩:=zq hv;clear hv;have hz1:=hO1.size) |(go_at_call 53;refine (alt_ok (Jt (zb HV)) ((zb HS).keep (hO1.alloc _) (fun _ _ f=>f)) (by omega) (zb HL) (zb HF) (by omega) hk).mono ?_;rintro e w2 ⟨T,y,F,rfl,hv,hR,hO2⟩;have HV2:=ze hv;have HR:=ze hR;clear hv hR;have hz2:=hO2.size;simp only [World.size_alloc] at hz2) |(go_at_call 54;refine (jp w1.heap.size _ _ _ _ _ (zb HR)).mono ?_;rintro e wq ⟨rfl,q1,rfl⟩) |(go_at_call 33;refine (jD F _ _ _ _ (SizeAt.drewN (zb HV2) _)).mono ?_;rintro e w3 ⟨rfl,hO3⟩);have s8:=hS8 w3 (((hO1.alloc _).later hO2 (fun i hi=>by unfold zl at hi;omega)).trans (Only.undrewN hO3));have hz3:=hO3.size |(go_at_call 56;refine (wM _ _ _ _).mono ?_;rintro e w4 ⟨v4,rfl,hv4,hO4⟩))
 go_ret2
 exact ⟨v4,rfl,hv4.base (by simp at hz3;omega),(((hO1.alloc _).later hO2 (fun i hi=>by unfold zl at hi;omega)).trans (Only.undrewN hO3)).trans hO4⟩
theorem alt_okT {b:Nat}{L:List (Int×Int)}{len:Int}{a:Nat→Addr}{w:World}(h:RdAt w b L 0 len 0)(hS:Sents w a)(hb:10≤b)(hL:L.length≤400)(hF:Pro.Fit L)(h0:0≤L.length)(hk:(Pro.altP L len (Pro.zC L len 10) 0).k=0) :
  Calls Tryz.prog 53 #[.pointer (some ⟨b,0,none⟩)] w fun x w'=>∃ T y F,x = .returned (.tuple #[.iface T y,.nilIface])∧PartAt F w' (fun g=>w.heap.size≤g) (.iface T y) (Pro.altQ L len (Pro.zC L len 10) (Pro.xF L len 10) 0)∧capT F (Pro.altQ L len (Pro.zC L len 10) (Pro.xF L len 10) 0)=(Pro.altP L len (Pro.zC L len 10) 0).v∧RdAt w' b L (Pro.altP L len (Pro.zC L len 10) 0).n len 0∧Only (zl b) w w':=by
 refine (qZ b L 0 len a w h hS hb hL h0 hF).mono ?_
 intro e w' hg
 obtain ⟨T,y,F,rfl,hp,hO,hR⟩:=qh hg hk
 exact ⟨T,y,F,rfl,hp,(Pro.VK 10 0 h0 hk).at hp.wf,hR,hO⟩
theorem Ki (s:ByteArray)(w:World)(a:Nat→Addr)(hS:Sents w a)(hw:10≤w.heap.size)(hs:s.size≤200)(hc:(Ref.zE s).2<0)(L:List (Int×Int))(hLe:Pro.letM s (s.size+1) 0=L)(o:Pro.Out)(ho:Pro.altP L (s.size:Nat) (Pro.zC L (s.size:Nat) 10) 0=o)(hk:o.k=0)(hn:o.n=L.length)(hv:o.v<300) :
  Calls Tryz.prog 30 #[.string s] w fun x w'=>(∃ T y F,x = .returned (.tuple #[.iface T y,.nilIface])∧PartAt F w' (fun g=>w.heap.size≤g) (.iface T y) (Pro.altQ L (s.size:Nat) (Pro.zC L (s.size:Nat) 10) (Pro.xF L (s.size:Nat) 10) 0)∧capT F (Pro.altQ L (s.size:Nat) (Pro.zC L (s.size:Nat) 10) (Pro.xF L (s.size:Nat) 10) 0)=o.v)∧Only (fun _=>False) w w':=by
 have HL:Hid (L.length≤400):=by
  have:=Pro.jU s (s.size+1) 0
  rw [hLe] at this;show _≤_;omega
 have HF:Hid (Pro.Fit L):=by rw [←hLe];exact vz s _ _
 have HS:=ze hS
 have HO:=ze ho
 have HE:=ze hLe
 subst ho
 subst hLe
 clear hS
 have hin:=Pro.ve (L:=Pro.letM s (s.size+1) 0) (len:=((s.size:Nat):Int)) (D:=Pro.zC (Pro.letM s (s.size+1) 0) ((s.size:Nat):Int) 10) (Pro.xJ 10) 0 (by omega)
 have hn':(((Pro.altP (Pro.letM s (s.size+1) 0) ((s.size:Nat):Int) (Pro.zC (Pro.letM s (s.size+1) 0) ((s.size:Nat):Int) 10) 0).n:Int) == ((Pro.letM s (s.size+1) 0).length:Int))=true:=by simp;omega
 have hin3:=hin.2.2 hk
 go_enter Tryz.func30,Tryz.ntmps30
 go_wp2_with (first |(go_at_call 47;refine (je s 200 (by omega) (by omega) _ a (zb HS) hw hc).mono ?_;rintro e w1 ⟨v,rfl,hv,hO1⟩;have HV:=ze hv;obtain ⟨pa,pn,pc,rfl⟩:=zq hv;clear hv;have hz1:=hO1.size) |(go_at_call 53;refine (alt_okT (Jt (zb HV)) ((zb HS).keep (hO1.alloc _) (fun _ _ f=>f)) (by omega) (zb HL) (zb HF) (by omega) hk).mono ?_;rintro e w2 ⟨T,y,F,rfl,hv,hc0,hR,hO2⟩;have HVT:=ze hv;have HC0:=ze hc0;have HV2:=ze hv.size;rw [hc0] at HV2;clear hc0;have HR:=ze hR;clear hv hR;have hz2:=hO2.size;simp only [World.size_alloc] at hz2) |(go_at_call 54;refine (jp w1.heap.size _ _ _ _ _ (zb HR)).mono ?_;rintro e wq ⟨rfl,q1,rfl⟩) |(go_at_call 33;refine (jD F _ _ _ _ (SizeAt.drewN (zb HV2) _)).mono ?_;rintro e w3 ⟨rfl,hO3⟩))
 go_ret2
 exact ⟨⟨T,y,F,rfl,PartAt.keep hO3 (fun _ _ f=>f) F _ _ (PartAt.keep ((Only.refl (fun _=>False) _).drewN _) (fun _ _ f=>f) F _ _ (PartAt.mono (fun g _ hg=>by simp at hg;omega) F _ _ (zb HVT))),zb HC0⟩,((hO1.alloc _).later hO2 (fun i hi=>by unfold zl at hi;omega)).trans (Only.undrewN hO3)⟩
end
section
open Go.RowKit Go.Extern.Stop Go.Stop Go.Extern
set_option maxHeartbeats 4000000
set_option maxRecDepth 1000000
theorem Tryz.eTypeOf (v:Value)(w:World):(Extern.ReflectliteType.typeOf #[.iface 421 v]).run Tryz.prog w = .ok (.iface 303 (.agg #[.pointer (some ⟨15,421,none⟩)])) w:=by kernel_rfl
theorem Tryz.eComparable (w : World) : ((Extern.ReflectliteType.method fun t => do Rtype.noPackHeld "Comparable" t; (fun a => Value.bool a.comparable) <$> typeInfo t) #[.agg #[.pointer (some ⟨15, 421, none⟩)]]).run Tryz.prog w = .ok (.bool true) w := by kernel_rfl
theorem Tryz.eMethod (v : Value) (w : World) : (Go.method 552 303 v "Comparable").run Tryz.prog w = .ok (326, v) w := by kernel_rfl
theorem Tryz.eComp:(Tryz.prog.info? 421).map (·.comparable)=some true:=by kernel_rfl
theorem Tryz.eSize:(Tryz.prog.info? 440).map (·.size)=some 1:=by kernel_rfl
theorem Tryz.eNoIs (v:Value)(xT:TypeId)(w:World):(Instr.typeAssert (.iface 421 v) xT 305 true).run Tryz.prog w = .ok (.tuple #[.nilIface,.bool false]) w:=run_typeAssert_lacksB Tryz.underlying305 (by kernel_rfl) (by kernel_rfl) v xT w
theorem Tryz.eNoUn (v:Value)(xT:TypeId)(w:World):(Instr.typeAssert (.iface 421 v) xT 308 true).run Tryz.prog w = .ok (.tuple #[.nilIface,.bool false]) w:=run_typeAssert_lacksB Tryz.underlying308 (by kernel_rfl) (by kernel_rfl) v xT w
theorem Tryz.eNoUns (v:Value)(xT:TypeId)(w:World):(Instr.typeAssert (.iface 421 v) xT 309 true).run Tryz.prog w = .ok (.tuple #[.nilIface,.bool false]) w:=run_typeAssert_lacksB Tryz.underlying309 (by kernel_rfl) (by kernel_rfl) v xT w
theorem Tryz.fNoIs (v:Value)(xT:TypeId)(w:World):(Instr.typeAssert (.iface 140 v) xT 305 true).run Tryz.prog w = .ok (.tuple #[.nilIface,.bool false]) w:=run_typeAssert_lacksB Tryz.underlying305 (by kernel_rfl) (by kernel_rfl) v xT w
theorem Tryz.fUn (v:Value)(xT:TypeId)(w:World):(Instr.typeAssert (.iface 140 v) xT 308 true).run Tryz.prog w = .ok (.tuple #[.iface 140 v,.bool true]) w:=run_typeAssert_hasB Tryz.underlying308 (by kernel_rfl) v xT w
theorem Tryz.fMethod (v : Value) (w : World) : (Go.method 552 140 v "Unwrap").run Tryz.prog w = .ok (312, v) w := by kernel_rfl
theorem Zf (g:Nat)(b:Addr)(w:World)(h0:w.cell? ⟨g,0,none⟩=some (.iface 421 (.pointer (some b)))) :
  Calls Tryz.prog 57 #[.iface 140 (.pointer (some ⟨g,0,none⟩)),.iface 421 (.pointer (some b))] w fun e w'=>e = .returned (.bool true)∧w'=w:=by
 obtain ⟨i,hi,hcmp⟩:=Option.map_eq_some_iff.1 Tryz.eComp
 obtain ⟨j,hj,hjs⟩:=Option.map_eq_some_iff.1 Tryz.eSize
 have x1:=@run_callFunc_extern Tryz.prog 104 _ Extern.ReflectliteType.typeOf Tryz.func104 (by kernel_rfl) (by kernel_rfl) (by kernel_rfl) (by kernel_rfl)
 have x2 := @run_callFunc_extern Tryz.prog 326 _ (Extern.ReflectliteType.method fun t => do Rtype.noPackHeld "Comparable" t; pure (.bool (← typeInfo t).comparable)) Tryz.func326 (by kernel_rfl) (by kernel_rfl) (by kernel_rfl) (by kernel_rfl)
 have t1:=Tryz.eTypeOf
 have t2:=Tryz.eComparable
 have t3:=Tryz.eMethod
 have t4:=Tryz.eNoIs
 have t5:=Tryz.eNoUn
 have t6:=Tryz.eNoUns
 have t7:=Tryz.fNoIs
 have t8:=Tryz.fUn
 have t9:=Tryz.fMethod
 have heq:=run_eql_iface_ptr_same (P:=Tryz.prog) w b Tryz.underlying92 Tryz.underlying421 hi hcmp hj
 have hty:=run_eql_iface_types (P:=Tryz.prog) 140 421 (.pointer (some ⟨g,0,none⟩)) (.pointer (some b)) Tryz.underlying92 (by decide) w
 go_enter Tryz.func57,Tryz.ntmps57
 go_wp2
 refine wp_loop_rounds 2 ?_
 rw [rounds_succ]
 go_wp2
 rw [rounds_succ]
 go_wp2
 go_ret
 exact ⟨rfl,rfl⟩
theorem is_no (g:Nat)(b c:Addr)(cb cc:Array Value)(tb tc:TypeId)(w:World)(h0:w.cell? ⟨g,0,none⟩=some (.iface 421 (.pointer (some c))))(hne:c≠b)(hc:w.heap[c.block]?=some (.cells cc tc (0,0)))(hb:w.heap[b.block]?=some (.cells cb tb (0,0))) :
  Calls Tryz.prog 57 #[.iface 140 (.pointer (some ⟨g,0,none⟩)),.iface 421 (.pointer (some b))] w fun e w'=>e = .returned (.bool false)∧w'=w:=by
 obtain ⟨i,hi,hcmp⟩:=Option.map_eq_some_iff.1 Tryz.eComp
 obtain ⟨j,hj,hjs⟩:=Option.map_eq_some_iff.1 Tryz.eSize
 have x1:=@run_callFunc_extern Tryz.prog 104 _ Extern.ReflectliteType.typeOf Tryz.func104 (by kernel_rfl) (by kernel_rfl) (by kernel_rfl) (by kernel_rfl)
 have x2 := @run_callFunc_extern Tryz.prog 326 _ (Extern.ReflectliteType.method fun t => do Rtype.noPackHeld "Comparable" t; pure (.bool (← typeInfo t).comparable)) Tryz.func326 (by kernel_rfl) (by kernel_rfl) (by kernel_rfl) (by kernel_rfl)
 have t1:=Tryz.eTypeOf
 have t2:=Tryz.eComparable
 have t3:=Tryz.eMethod
 have t4:=Tryz.eNoIs
 have t5:=Tryz.eNoUn
 have t6:=Tryz.eNoUns
 have t7:=Tryz.fNoIs
 have t8:=Tryz.fUn
 have t9:=Tryz.fMethod
 have heq:=run_eql_iface_ptr_other (P:=Tryz.prog) w Tryz.underlying92 Tryz.underlying421 hi hcmp hj (by rw [hjs];decide) hne hc hb
 have hty:=run_eql_iface_types (P:=Tryz.prog) 140 421 (.pointer (some ⟨g,0,none⟩)) (.pointer (some b)) Tryz.underlying92 (by decide) w
 go_enter Tryz.func57,Tryz.ntmps57
 go_wp2
 refine wp_loop_rounds 2 ?_
 rw [rounds_succ]
 go_wp2
 rw [rounds_succ]
 go_wp2
 go_ret
 exact ⟨rfl,rfl⟩
end
section
open Go.RowKit
set_option maxHeartbeats 2000000
set_option maxRecDepth 1000000
structure SentRows (w:World)(a:Nat→Addr):Prop where
 row:∀ k,1≤k→k≤10→∃ c t,w.heap[(a k).block]?=some (.cells c t (0,0))
 ne:∀ j k,1≤j→j≤10→1≤k→k≤10→j≠k→a j≠a k
 s9:w.cell? ⟨7,0,none⟩=some (zS a 9)
 s10:w.cell? ⟨8,0,none⟩=some (zS a 10)
theorem SentRows.keep {w w':World}{a:Nat→Addr}(h:SentRows w a)(k:Only (fun _=>False) w w'):SentRows w' a:=
 ⟨fun j h1 h2=>by
  obtain ⟨c,t,hc⟩:=h.row j h1 h2
  exact ⟨c,t,(k.block _ (Array.getElem?_eq_some_iff.1 hc).1 (fun f=>f)).trans hc⟩,h.ne,(k.cell (World.block_lt_of_cell? w _ h.s9) (fun f=>f)).trans h.s9,(k.cell (World.block_lt_of_cell? w _ h.s10) (fun f=>f)).trans h.s10⟩
theorem SentRows.is_no {w:World}{a:Nat→Addr}(h:SentRows w a)(g j k:Nat)(h0:w.cell? ⟨g,0,none⟩=some (zS a k))(j1:1≤j)(j2:j≤10)(k1:1≤k)(k2:k≤10)(hne:k≠j) :
  Calls Tryz.prog 57 #[.iface 140 (.pointer (some ⟨g,0,none⟩)),.iface 421 (.pointer (some (a j)))] w fun e w'=>e = .returned (.bool false)∧w'=w:=by
 obtain ⟨cb,tb,hb⟩:=h.row j j1 j2
 obtain ⟨cc,tc,hc⟩:=h.row k k1 k2
 exact _root_.Go.Proofs.YtnagphodmfejiaaGreatDoor.is_no g (a j) (a k) cb cc tb tc w h0 (fun e=>h.ne k j k1 k2 j1 j2 hne e) hc hb
theorem number_1 (g:Nat)(a:Nat→Addr)(w:World)(hS:Sents w a)(h0:w.cell? ⟨g,0,none⟩=some (zS a 1)) :
  Calls Tryz.prog 31 #[.iface 140 (.pointer (some ⟨g,0,none⟩))] w fun e w'=>e = .returned (.int .i64 1)∧w'=w:=by
 have C1:=ze (Zf g (a 1) w h0)
 obtain ⟨s1,s2,s3,s4,s5,s6,s7,s8⟩:=hS
 clear h0 s3
 unfold zS at s1 s2 s4 s5 s6 s7 s8
 go_enter Tryz.func31,Tryz.ntmps31
 go_wp2_with (first |(go_at_call 57;with_reducible refine (zb C1).mono ?_;rintro e wq ⟨rfl,hwq⟩;obtain rfl:=hwq.symm;clear hwq C1))
 go_ret
 exact ⟨rfl,rfl⟩
theorem number_2 (g:Nat)(a:Nat→Addr)(w:World)(hS:Sents w a)(hR:SentRows w a)(h0:w.cell? ⟨g,0,none⟩=some (zS a 2)) :
  Calls Tryz.prog 31 #[.iface 140 (.pointer (some ⟨g,0,none⟩))] w fun e w'=>e = .returned (.int .i64 2)∧w'=w:=by
 have C1:=ze (SentRows.is_no hR g 1 2 h0 (by decide) (by decide) (by decide) (by decide) (by decide))
 have C2:=ze (Zf g (a 2) w h0)
 obtain ⟨s1,s2,s3,s4,s5,s6,s7,s8⟩:=hS
 clear hR h0 s3
 unfold zS at s1 s2 s4 s5 s6 s7 s8
 go_enter Tryz.func31,Tryz.ntmps31
 go_wp2_with (first |(go_at_call 57;with_reducible refine (zb C1).mono ?_;rintro e wq ⟨rfl,hwq⟩;obtain rfl:=hwq.symm;clear hwq C1) |(go_at_call 57;with_reducible refine (zb C2).mono ?_;rintro e wq ⟨rfl,hwq⟩;obtain rfl:=hwq.symm;clear hwq C2))
 go_ret
 exact ⟨rfl,rfl⟩
theorem number_3 (g:Nat)(a:Nat→Addr)(w:World)(hS:Sents w a)(hR:SentRows w a)(h0:w.cell? ⟨g,0,none⟩=some (zS a 3)) :
  Calls Tryz.prog 31 #[.iface 140 (.pointer (some ⟨g,0,none⟩))] w fun e w'=>e = .returned (.int .i64 3)∧w'=w:=by
 have C1:=ze (SentRows.is_no hR g 1 3 h0 (by decide) (by decide) (by decide) (by decide) (by decide))
 have C2:=ze (SentRows.is_no hR g 2 3 h0 (by decide) (by decide) (by decide) (by decide) (by decide))
 have C4:=ze (SentRows.is_no hR g 4 3 h0 (by decide) (by decide) (by decide) (by decide) (by decide))
 have C5:=ze (SentRows.is_no hR g 5 3 h0 (by decide) (by decide) (by decide) (by decide) (by decide))
 have C6:=ze (SentRows.is_no hR g 6 3 h0 (by decide) (by decide) (by decide) (by decide) (by decide))
 have C7:=ze (SentRows.is_no hR g 7 3 h0 (by decide) (by decide) (by decide) (by decide) (by decide))
 have C8:=ze (SentRows.is_no hR g 8 3 h0 (by decide) (by decide) (by decide) (by decide) (by decide))
 have C9:=ze (SentRows.is_no hR g 9 3 h0 (by decide) (by decide) (by decide) (by decide) (by decide))
 have C10:=ze (SentRows.is_no hR g 10 3 h0 (by decide) (by decide) (by decide) (by decide) (by decide))
 obtain ⟨_,_,s9,s10⟩:=hR
 obtain ⟨s1,s2,s3,s4,s5,s6,s7,s8⟩:=hS
 clear h0 s3
 unfold zS at s1 s2 s4 s5 s6 s7 s8 s9 s10
 go_enter Tryz.func31,Tryz.ntmps31
 go_wp2_with (first |(go_at_call 57;with_reducible refine (zb C1).mono ?_;rintro e wq ⟨rfl,hwq⟩;obtain rfl:=hwq.symm;clear hwq C1) |(go_at_call 57;with_reducible refine (zb C2).mono ?_;rintro e wq ⟨rfl,hwq⟩;obtain rfl:=hwq.symm;clear hwq C2) |(go_at_call 57;with_reducible refine (zb C4).mono ?_;rintro e wq ⟨rfl,hwq⟩;obtain rfl:=hwq.symm;clear hwq C4) |(go_at_call 57;with_reducible refine (zb C5).mono ?_;rintro e wq ⟨rfl,hwq⟩;obtain rfl:=hwq.symm;clear hwq C5) |(go_at_call 57;with_reducible refine (zb C6).mono ?_;rintro e wq ⟨rfl,hwq⟩;obtain rfl:=hwq.symm;clear hwq C6) |(go_at_call 57;with_reducible refine (zb C7).mono ?_;rintro e wq ⟨rfl,hwq⟩;obtain rfl:=hwq.symm;clear hwq C7) |(go_at_call 57;with_reducible refine (zb C8).mono ?_;rintro e wq ⟨rfl,hwq⟩;obtain rfl:=hwq.symm;clear hwq C8) |(go_at_call 57;with_reducible refine (zb C9).mono ?_;rintro e wq ⟨rfl,hwq⟩;obtain rfl:=hwq.symm;clear hwq C9) |(go_at_call 57;with_reducible refine (zb C10).mono ?_;rintro e wq ⟨rfl,hwq⟩;obtain rfl:=hwq.symm;clear hwq C10))
 go_ret
 exact ⟨rfl,rfl⟩
theorem number_4 (g:Nat)(a:Nat→Addr)(w:World)(hS:Sents w a)(hR:SentRows w a)(h0:w.cell? ⟨g,0,none⟩=some (zS a 4)) :
  Calls Tryz.prog 31 #[.iface 140 (.pointer (some ⟨g,0,none⟩))] w fun e w'=>e = .returned (.int .i64 4)∧w'=w:=by
 have C1:=ze (SentRows.is_no hR g 1 4 h0 (by decide) (by decide) (by decide) (by decide) (by decide))
 have C2:=ze (SentRows.is_no hR g 2 4 h0 (by decide) (by decide) (by decide) (by decide) (by decide))
 have C4:=ze (Zf g (a 4) w h0)
 obtain ⟨s1,s2,s3,s4,s5,s6,s7,s8⟩:=hS
 clear hR h0 s3
 unfold zS at s1 s2 s4 s5 s6 s7 s8
 go_enter Tryz.func31,Tryz.ntmps31
 go_wp2_with (first |(go_at_call 57;with_reducible refine (zb C1).mono ?_;rintro e wq ⟨rfl,hwq⟩;obtain rfl:=hwq.symm;clear hwq C1) |(go_at_call 57;with_reducible refine (zb C2).mono ?_;rintro e wq ⟨rfl,hwq⟩;obtain rfl:=hwq.symm;clear hwq C2) |(go_at_call 57;with_reducible refine (zb C4).mono ?_;rintro e wq ⟨rfl,hwq⟩;obtain rfl:=hwq.symm;clear hwq C4))
 go_ret
 exact ⟨rfl,rfl⟩
theorem number_5 (g:Nat)(a:Nat→Addr)(w:World)(hS:Sents w a)(hR:SentRows w a)(h0:w.cell? ⟨g,0,none⟩=some (zS a 5)) :
  Calls Tryz.prog 31 #[.iface 140 (.pointer (some ⟨g,0,none⟩))] w fun e w'=>e = .returned (.int .i64 5)∧w'=w:=by
 have C1:=ze (SentRows.is_no hR g 1 5 h0 (by decide) (by decide) (by decide) (by decide) (by decide))
 have C2:=ze (SentRows.is_no hR g 2 5 h0 (by decide) (by decide) (by decide) (by decide) (by decide))
 have C4:=ze (SentRows.is_no hR g 4 5 h0 (by decide) (by decide) (by decide) (by decide) (by decide))
 have C5:=ze (Zf g (a 5) w h0)
 obtain ⟨s1,s2,s3,s4,s5,s6,s7,s8⟩:=hS
 clear hR h0 s3
 unfold zS at s1 s2 s4 s5 s6 s7 s8
 go_enter Tryz.func31,Tryz.ntmps31
 go_wp2_with (first |(go_at_call 57;with_reducible refine (zb C1).mono ?_;rintro e wq ⟨rfl,hwq⟩;obtain rfl:=hwq.symm;clear hwq C1) |(go_at_call 57;with_reducible refine (zb C2).mono ?_;rintro e wq ⟨rfl,hwq⟩;obtain rfl:=hwq.symm;clear hwq C2) |(go_at_call 57;with_reducible refine (zb C4).mono ?_;rintro e wq ⟨rfl,hwq⟩;obtain rfl:=hwq.symm;clear hwq C4) |(go_at_call 57;with_reducible refine (zb C5).mono ?_;rintro e wq ⟨rfl,hwq⟩;obtain rfl:=hwq.symm;clear hwq C5))
 go_ret
 exact ⟨rfl,rfl⟩
theorem number_6 (g:Nat)(a:Nat→Addr)(w:World)(hS:Sents w a)(hR:SentRows w a)(h0:w.cell? ⟨g,0,none⟩=some (zS a 6)) :
  Calls Tryz.prog 31 #[.iface 140 (.pointer (some ⟨g,0,none⟩))] w fun e w'=>e = .returned (.int .i64 6)∧w'=w:=by
 have C1:=ze (SentRows.is_no hR g 1 6 h0 (by decide) (by decide) (by decide) (by decide) (by decide))
 have C2:=ze (SentRows.is_no hR g 2 6 h0 (by decide) (by decide) (by decide) (by decide) (by decide))
 have C4:=ze (SentRows.is_no hR g 4 6 h0 (by decide) (by decide) (by decide) (by decide) (by decide))
 have C5:=ze (SentRows.is_no hR g 5 6 h0 (by decide) (by decide) (by decide) (by decide) (by decide))
 have C6:=ze (Zf g (a 6) w h0)
 obtain ⟨s1,s2,s3,s4,s5,s6,s7,s8⟩:=hS
 clear hR h0 s3
 unfold zS at s1 s2 s4 s5 s6 s7 s8
 go_enter Tryz.func31,Tryz.ntmps31
 go_wp2_with (first |(go_at_call 57;with_reducible refine (zb C1).mono ?_;rintro e wq ⟨rfl,hwq⟩;obtain rfl:=hwq.symm;clear hwq C1) |(go_at_call 57;with_reducible refine (zb C2).mono ?_;rintro e wq ⟨rfl,hwq⟩;obtain rfl:=hwq.symm;clear hwq C2) |(go_at_call 57;with_reducible refine (zb C4).mono ?_;rintro e wq ⟨rfl,hwq⟩;obtain rfl:=hwq.symm;clear hwq C4) |(go_at_call 57;with_reducible refine (zb C5).mono ?_;rintro e wq ⟨rfl,hwq⟩;obtain rfl:=hwq.symm;clear hwq C5) |(go_at_call 57;with_reducible refine (zb C6).mono ?_;rintro e wq ⟨rfl,hwq⟩;obtain rfl:=hwq.symm;clear hwq C6))
 go_ret
 exact ⟨rfl,rfl⟩
theorem number_7 (g:Nat)(a:Nat→Addr)(w:World)(hS:Sents w a)(hR:SentRows w a)(h0:w.cell? ⟨g,0,none⟩=some (zS a 7)) :
  Calls Tryz.prog 31 #[.iface 140 (.pointer (some ⟨g,0,none⟩))] w fun e w'=>e = .returned (.int .i64 7)∧w'=w:=by
 have C1:=ze (SentRows.is_no hR g 1 7 h0 (by decide) (by decide) (by decide) (by decide) (by decide))
 have C2:=ze (SentRows.is_no hR g 2 7 h0 (by decide) (by decide) (by decide) (by decide) (by decide))
 have C4:=ze (SentRows.is_no hR g 4 7 h0 (by decide) (by decide) (by decide) (by decide) (by decide))
 have C5:=ze (SentRows.is_no hR g 5 7 h0 (by decide) (by decide) (by decide) (by decide) (by decide))
 have C6:=ze (SentRows.is_no hR g 6 7 h0 (by decide) (by decide) (by decide) (by decide) (by decide))
 have C7:=ze (Zf g (a 7) w h0)
 obtain ⟨s1,s2,s3,s4,s5,s6,s7,s8⟩:=hS
 clear hR h0 s3
 unfold zS at s1 s2 s4 s5 s6 s7 s8
 go_enter Tryz.func31,Tryz.ntmps31
 go_wp2_with (first |(go_at_call 57;with_reducible refine (zb C1).mono ?_;rintro e wq ⟨rfl,hwq⟩;obtain rfl:=hwq.symm;clear hwq C1) |(go_at_call 57;with_reducible refine (zb C2).mono ?_;rintro e wq ⟨rfl,hwq⟩;obtain rfl:=hwq.symm;clear hwq C2) |(go_at_call 57;with_reducible refine (zb C4).mono ?_;rintro e wq ⟨rfl,hwq⟩;obtain rfl:=hwq.symm;clear hwq C4) |(go_at_call 57;with_reducible refine (zb C5).mono ?_;rintro e wq ⟨rfl,hwq⟩;obtain rfl:=hwq.symm;clear hwq C5) |(go_at_call 57;with_reducible refine (zb C6).mono ?_;rintro e wq ⟨rfl,hwq⟩;obtain rfl:=hwq.symm;clear hwq C6) |(go_at_call 57;with_reducible refine (zb C7).mono ?_;rintro e wq ⟨rfl,hwq⟩;obtain rfl:=hwq.symm;clear hwq C7))
 go_ret
 exact ⟨rfl,rfl⟩
theorem number_8 (g:Nat)(a:Nat→Addr)(w:World)(hS:Sents w a)(hR:SentRows w a)(h0:w.cell? ⟨g,0,none⟩=some (zS a 8)) :
  Calls Tryz.prog 31 #[.iface 140 (.pointer (some ⟨g,0,none⟩))] w fun e w'=>e = .returned (.int .i64 8)∧w'=w:=by
 have C1:=ze (SentRows.is_no hR g 1 8 h0 (by decide) (by decide) (by decide) (by decide) (by decide))
 have C2:=ze (SentRows.is_no hR g 2 8 h0 (by decide) (by decide) (by decide) (by decide) (by decide))
 have C4:=ze (SentRows.is_no hR g 4 8 h0 (by decide) (by decide) (by decide) (by decide) (by decide))
 have C5:=ze (SentRows.is_no hR g 5 8 h0 (by decide) (by decide) (by decide) (by decide) (by decide))
 have C6:=ze (SentRows.is_no hR g 6 8 h0 (by decide) (by decide) (by decide) (by decide) (by decide))
 have C7:=ze (SentRows.is_no hR g 7 8 h0 (by decide) (by decide) (by decide) (by decide) (by decide))
 have C8:=ze (Zf g (a 8) w h0)
 obtain ⟨s1,s2,s3,s4,s5,s6,s7,s8⟩:=hS
 clear hR h0 s3
 unfold zS at s1 s2 s4 s5 s6 s7 s8
 go_enter Tryz.func31,Tryz.ntmps31
 go_wp2_with (first |(go_at_call 57;with_reducible refine (zb C1).mono ?_;rintro e wq ⟨rfl,hwq⟩;obtain rfl:=hwq.symm;clear hwq C1) |(go_at_call 57;with_reducible refine (zb C2).mono ?_;rintro e wq ⟨rfl,hwq⟩;obtain rfl:=hwq.symm;clear hwq C2) |(go_at_call 57;with_reducible refine (zb C4).mono ?_;rintro e wq ⟨rfl,hwq⟩;obtain rfl:=hwq.symm;clear hwq C4) |(go_at_call 57;with_reducible refine (zb C5).mono ?_;rintro e wq ⟨rfl,hwq⟩;obtain rfl:=hwq.symm;clear hwq C5) |(go_at_call 57;with_reducible refine (zb C6).mono ?_;rintro e wq ⟨rfl,hwq⟩;obtain rfl:=hwq.symm;clear hwq C6) |(go_at_call 57;with_reducible refine (zb C7).mono ?_;rintro e wq ⟨rfl,hwq⟩;obtain rfl:=hwq.symm;clear hwq C7) |(go_at_call 57;with_reducible refine (zb C8).mono ?_;rintro e wq ⟨rfl,hwq⟩;obtain rfl:=hwq.symm;clear hwq C8))
 go_ret
 exact ⟨rfl,rfl⟩
theorem YB (g k:Nat)(a:Nat→Addr)(w:World)(hS:Sents w a)(hR:SentRows w a)(k1:1≤k)(k2:k≤8)(h0:w.cell? ⟨g,0,none⟩=some (zS a k)) :
  Calls Tryz.prog 31 #[.iface 140 (.pointer (some ⟨g,0,none⟩))] w fun e w'=>e = .returned (.int .i64 k)∧w'=w:=by
 match k,k1,k2,h0 with
 |1,_,_,h0=>exact number_1 g a w hS h0
 |2,_,_,h0=>exact number_2 g a w hS hR h0
 |3,_,_,h0=>exact number_3 g a w hS hR h0
 |4,_,_,h0=>exact number_4 g a w hS hR h0
 |5,_,_,h0=>exact number_5 g a w hS hR h0
 |6,_,_,h0=>exact number_6 g a w hS hR h0
 |7,_,_,h0=>exact number_7 g a w hS hR h0
 |8,_,_,h0=>exact number_8 g a w hS hR h0
 |0,k1,_,_=>exact absurd k1 (by decide)
 |k+9,_,k2,_=>exact absurd k2 (by omega)
end
end Go.Proofs.YtnagphodmfejiaaGreatDoor
