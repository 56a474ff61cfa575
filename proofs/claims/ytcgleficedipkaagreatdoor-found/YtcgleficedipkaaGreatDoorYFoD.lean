/- The statement's own functions over scripts with finders: Compile. -/
import Derived.Test.YtcgleficedipkaaGreatDoorYFoC
namespace Go.Proofs.YtcgleficedipkaaGreatDoor
section
open Go.RowKit
open Sm (Stp Tree)
set_option maxHeartbeats 4000000
set_option maxRecDepth 1000000
section
variable {wi w:World} {ow:Nat->Nat} {ps:List (Nat×Nat)} {fs:List FinQ} {vs:List Value} {us:Nat->Bool} {R:Nat->Value}
theorem zf6 {n0:Nat}(kd p f n:Int)(s:ByteArray)(lv nv sv:Value)(t:Tree)(v:Int)(ts:List Tok)(a:Nat->Addr)(h:FoR wi w ow ps fs vs us R)(hu:∀ k q,fs[k]?=some q->us k=q.used)(hS:Start wi a)(_v0:0<=v)(hv:v<300)(ht:Zu t)(hr:RefGoodT s v ts)(hp:∀ (w:World) (a:Nat->Addr),Start w a->wQ s t v w)(hT:Eqv.TokC (Eqv.zer 22) ts t.kids)(hB:∀ x∈ts,Ref.TokB x)(hl:ts.length<=1000)(h5:t.kind=5)(hn:n0<1172812402961)(l1:ps.length<=n0)(l2:fs.length<=n0)(l3:vs.length<=n0) :
  Calls Tryz.prog 29 #[.pointer (some ⟨wi.heap.size,0,none⟩),opV kd p f n s lv nv sv] w fun e w'=>e = .returned (.bool true)/\FoS wi w' (n0+1):=by
 obtain ⟨i0,hi0,hz0,hz1,hz2⟩:=info_parts Tryz.infoPat
 have HC:Hid (∀ w1,Q8 w w1->Calls Tryz.prog 19 #[.string s] w1 fun x w'=>∃ g,x = .returned (.tuple #[.pointer (some ⟨g,0,none⟩),.int .i64 0,.int .i64 0])/\(∃ pb F W cs,we w' (fun k=>w1.heap.size<=k/\k<w'.heap.size) g pb (Sm.prg F t).2 (Sm.prg F t).1 W cs (v+1)/\Sm.WF F t/\Prg.Asks (Sm.prg F t).2 W)/\Q8 w1 w'):=fun w1 h1=>(zgp s w1 t v hv ht (hp w1 a (hS.keep (h.old.trans h1)))).mono (by
  rintro x w' ⟨g,pb,F,W,cs,rfl,q1,q2,q3,q4⟩;exact ⟨g,rfl,⟨pb,F,W,cs,q1,q2,q3⟩,q4⟩)
 have HF:Hid (∀ (wa w1 w2:World) (gx gy:Nat) (tv:Value),Q8 w wa->Q8 wa w1->Q8 w1 w2->(∃ pb F W cs,we w1 (fun k=>wa.heap.size<=k/\k<w1.heap.size) gx pb (Sm.prg F t).2 (Sm.prg F t).1 W cs (v+1)/\Sm.WF F t/\Prg.Asks (Sm.prg F t).2 W)->w1.heap.size<=gy->w2.cell? ⟨gy,1,none⟩=some (.int .i64 (v+1))->w2.cell? ⟨gy,0,none⟩=some tv->ToksAt w2 w1.heap.size tv ts->
   FoR wi w2 (lab ow w.heap.size w2.heap.size 1) ps fs vs us R/\∃ pb F t W cs ts v A,PatF w2 (lab ow w.heap.size w2.heap.size 1) gx gy pb F t W cs ts v A):=fun wa w1 w2 gx gy tv k0 k1 k2 ⟨pb,F,W,cs,q1,q2,q3⟩ q4 q5 q6 q7=>by
  have s0:=k0.size;have s1:=k1.size;have s2:=k2.size;exact ⟨h.lab 1 (ze.refl _ _) ((k0.trans k1).trans k2),pb,F,t,W,cs,ts,v,_,q1.keep k2 (fun _ _ f=>f),fun g hg=>lab_new (by omega) (by omega),q2,q3,⟨w2,w1.heap.size,tv,fun k b1 b2=>lab_new (by omega) b2,ze.refl _ _,q4,q5,q6,q7⟩,hT,hB,hl,h5⟩
 have HR:=zc hr;clear hp hr hS ht hv hT hB hl h5 h;unfold opV;go_enter Tryz.func29,Tryz.ntmps29;go_wp2_with (first
  |(go_at_call 19;refine (zb HC _ ((ze.refl _ _).alloc _)).mono ?_;rintro e w1 ⟨gx,rfl,hx,hO1⟩;have q4:=zg hO1 ⟨w.heap.size,4,none⟩ _ (zm w _ rfl _ _ 4 _ rfl) (fun f=>f);have X3:=zc hx;clear hx)
  |(go_at_call 53;refine (zb HR w1).mono ?_;rintro e w2 ⟨gy,rfl,hO2,hy1,hy2,tv,hy3,hy4⟩;obtain ⟨hq,hpat⟩:=zb HF _ w1 w2 gx gy tv ((ze.refl _ _).alloc _) hO1 hO2 (zb X3) hy1 hy2 hy3 hy4;have HQ:=zc hq;have HP:=zc hpat;have d0:=hq.c 0 _ rfl;obtain ⟨pa,pn,pc,e0⟩:=zy (hq.row 0 (by decide));rw [e0] at d0;clear hq hpat hy1 hy2 hy3 hy4 X3 hO1 hO2)
  |(at_builtin;refine zb ?_))
 refine zc ?_;have hlt:=(zb HQ).lt;have hrow:w2.ownsRow (wi.heap.size+1) 64 2 (.slice pa pn pc) ps.length (patCells ps):=by rw [<-e0];exact (zb HQ).row 0 (by decide)
 refine xH _ rfl _ _ 52 rfl (wi.heap.size+1) 64 i0 (.agg #[.pointer none,.pointer none]) 2 16 Tryz.underlying52 hi0 hz0 hz1 hz2 rfl (by decide) _ ps.length (patCells ps) rfl (xR hrow _) _ 1 1 [.pointer (some ⟨gx,0,none⟩),.pointer (some ⟨gy,0,none⟩)] rfl rfl (zar _ w2.heap.size rfl _ _ _) (fun x hx=>by simp at hx;rcases hx with rfl |rfl<;>rfl) (by unfold maxLen;omega) (by omega) (by simp;omega) ?_;intro v2 wb hown2 hgr2 hsep2;have k2:ze (fun i=>(R 0).ownBlock=some i) w2 wb:=by rw [e0];exact ((ze.refl _ _).alloc _).grown hgr2 (fun k e=>.inl e)
 have HX:=zc ((zb HQ).put (i:=0) (by decide) k2 (ps':=ps++[(gx,gy)]) (fs':=fs) (vs':=vs) (by show World.ownsRow _ _ _ _ _ (ps++[_]).length (patCells _);rw [yS,zf7];exact hown2) (fun x hx=>by rw [e0];exact (hsep2 x hx).imp_right (fun q=>by simp at q;omega)) (by rintro (_ |_ |_ |j) h1 h2<;>first |exact ⟨rfl,rfl⟩ |omega) (fun q hq=>by
  rcases qe.1 hq with hq |hq
  ·exact (zb HQ).pats q hq
  ·simp only [xf] at hq;subst hq;exact zb HP) (zb HQ).fins (zb HQ).lst)
 have hnb:¬(R 0).ownBlock=some wi.heap.size:=fun e=>by have:=(zh ((zb HQ).row 0 (by decide)) _ e).1;omega
 have d0':=zg k2 _ _ d0 hnb;have f0:=zP k2 _ hlt ((zb HQ).fz 0) hnb;obtain ⟨va,vn,vc,rfl⟩:=zy hown2;clear hown2 hgr2 k2 hsep2 hnb d0 hrow;go_wp2_with fail;go_ret;exact ⟨rfl,_,_,_,_,_,_,zb HX,hu,by simp;omega,by omega,by omega⟩
theorem zhs {n0:Nat}(kd p f n:Int)(s:ByteArray)(lv nv sv:Value)(a:Nat->Addr)(h:FoR wi w ow ps fs vs us R)(hu:∀ k q,fs[k]?=some q->us k=q.used)(hS:Start wi a)(hn:n0<1172812402961)(l1:ps.length<=n0)(l2:fs.length<=n0)(l3:vs.length<=n0) :
  Calls Tryz.prog 29 #[.pointer (some ⟨wi.heap.size,0,none⟩),opV kd p f n s lv nv sv] w fun e w'=>e = .returned (.bool true)/\FoS wi w' (n0+1):=by
 rcases zg3 s with ⟨k,at',k1,k2,hr,hp⟩ |⟨v,t,ts,v0,hv,ht,hr,hp,hT,hB,hl,h5⟩
 ·refine (zgr wi.heap.size kd p f n s lv nv sv k at' w a (hS.keep h.old) k1 k2 hr hp).mono ?_;rintro e w' ⟨rfl,hO⟩;exact ⟨rfl,_,_,_,_,_,_,h.keep0 hO,hu,by omega,by omega,by omega⟩
 ·exact zf6 kd p f n s lv nv sv t v ts a h hu hS v0 hv ht hr hp hT hB hl h5 hn l1 l2 l3
end
end
end Go.Proofs.YtcgleficedipkaaGreatDoor
