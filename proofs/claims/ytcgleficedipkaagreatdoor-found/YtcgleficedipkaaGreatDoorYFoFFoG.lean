/- The statement's own functions over scripts with finders: one step. -/
import Derived.Test.YtcgleficedipkaaGreatDoorYFoD
import Derived.Test.YtcgleficedipkaaGreatDoorYFoE
namespace Go.Proofs.YtcgleficedipkaaGreatDoor
open _root_.Go.Proofs.Tryz
section
open Go.RowKit
open Sm (Stp Tree)
set_option maxHeartbeats 4000000
set_option maxRecDepth 1000000
structure OpQ where
 k:Int
 p:Int
 f:Int
 n:Int
 s:ByteArray
 la:Option Addr
 lc:Nat
 ks:List Int
 na:Option Addr
 nl:Nat
 nc:Nat
 sa:Option Addr
 sl:Nat
 sc:Nat
def OpQ.cells (o:OpQ):List Value:=[.int .i64 o.k,.int .i64 o.p,.int .i64 o.f,.int .i64 o.n,.string o.s,.slice o.la o.ks.length o.lc,.slice o.na o.nl o.nc,.slice o.sa o.sl o.sc]
structure OpK (w:World)(o:OpQ):Prop where
 p0:-9223372036854775808<=o.p
 p1:o.p<9223372036854775808
 f0:-9223372036854775808<=o.f
 f1:o.f<9223372036854775808
 l:wk w (fun _=>True) (.slice o.la o.ks.length o.lc) o.ks
 ll:o.ks.length<=17592186044416
section
variable {wi w:World} {ow:Nat->Nat} {ps:List (Nat×Nat)} {fs:List FinQ} {vs:List Value} {us:Nat->Bool} {R:Nat->Value}
theorem zht {n0:Nat}(p f n:Int)(s:ByteArray)(lv nv sv:Value)(a:Nat->Addr)(h:FoR wi w ow ps fs vs us R)(hu:∀ k q,fs[k]?=some q->us k=q.used)(hS:Start wi a)(hn:n0<1172812402961)(l1:ps.length<=n0)(l2:fs.length<=n0)(l3:vs.length<=n0) :
  Calls prog 15 #[.pointer (some ⟨wi.heap.size,0,none⟩),opV 1 p f n s lv nv sv] w fun e w'=>e = .returned (.bool true)/\FoS wi w' (n0+1):=by
 have HC:=zc (fun w1 (k:Q8 w w1)=>zhs 1 p f n s lv nv sv a (h.keep0 k) hu hS hn l1 l2 l3);clear hS h hu;unfold opV at *;go_enter func15,ntmps15;go_wp2_with (go_at_call 29;refine (zb HC _ ((ze.refl _ _).alloc _)).mono ?_;rintro e w1 ⟨rfl,h1⟩;have H1:=zc h1;clear h1);go_ret;exact ⟨rfl,zb H1⟩
theorem zhu {n0:Nat}(p f n:Int)(s:ByteArray)(lv nv sv:Value)(h:FoR wi w ow ps fs vs us R)(hu:∀ k q,fs[k]?=some q->us k=q.used)(hT:TabAt w)(p0:-9223372036854775808<=p)(p1:p<9223372036854775808)(hn:n0<1172812402961)(l1:ps.length<=n0)(l2:fs.length<=n0)(l3:vs.length<=n0) :
  Calls prog 15 #[.pointer (some ⟨wi.heap.size,0,none⟩),opV 4 p f n s lv nv sv] w fun e w'=>e = .returned (.bool true)/\FoS wi w' (n0+1):=by
 have c0:=h.c 0 _ rfl;have hlt:=h.lt;by_cases h0:ps.length=0
 ·have e0:∃ a c,R 0 = .slice a 0 c:=by
   rcases (h.row 0 (by decide)).2 with ⟨e,_⟩ |⟨g,cap,cur,e,_⟩
   ·exact ⟨_,_,e⟩
   ·exact ⟨_,_,e.trans (by rw [show rN ps fs vs 0=0 from h0])⟩
  obtain ⟨pa,pc,e0⟩:=e0;rw [e0] at c0;have HF:Hid (∀ w',Q8 w w'->FoS wi w' (n0+1)):=fun w' k=>⟨_,_,_,_,_,_,h.keep0 k,hu,by omega,by omega,by omega⟩
  clear h hu hT;unfold opV;go_enter func15,ntmps15;go_wp2_with fail;go_ret;exact ⟨rfl,zb HF _ ((ze.refl _ _).alloc _)⟩
 ·obtain ⟨g,pc,e0,hc,_⟩:=own_row (n:=ps.length) (xs:=patCells ps) (h.row 0 (by decide)) (by omega);have hjl:=pickN_lt p (n:=ps.length) (by omega);have HK:=zc (pick_any p ps.length · p0 p1 (by omega) (by omega));generalize pickN p ps.length=j at *;obtain ⟨q1,q2⟩:=zeW ps j ps[j] (zD hjl);replace q1:=hc _ _ q1;replace q2:=hc _ _ q2;have hpat:=h.pats _ (jG hjl);generalize ps[j]=gg at *;obtain ⟨gx,gy⟩:=gg;simp only [] at q1 q2 hpat
  rw [e0] at c0;have hgb:=zh (h.row 0 (by decide)) g (by rw [e0];rfl);have HA:Hid (∀ W,Q8 (w.alloc (.cells #[.int .i64 4,.int .i64 p,.int .i64 f,.int .i64 n,.string s,lv,nv,sv] 29)) W->Calls prog 33 #[.pointer (some ⟨wi.heap.size,0,none⟩),.agg #[.pointer (some ⟨gx,0,none⟩),.pointer (some ⟨gy,0,none⟩)],.agg #[.int .i64 4,.int .i64 p,.int .i64 f,.int .i64 n,.string s,lv,nv,sv]] W fun e w'=>e = .returned (.bool true)/\Hid (FoS wi w' (n0+1))/\w'.cell? ⟨wi.heap.size,0,none⟩=some (.slice (some ⟨g,0,none⟩) ps.length pc)/\w'.cell? ⟨g,j*2,none⟩=some (.pointer (some ⟨gx,0,none⟩))/\w'.cell? ⟨g,j*2+1,none⟩=some (.pointer (some ⟨gy,0,none⟩))/\w'.cell? ⟨w.heap.size,0,none⟩=some (.int .i64 4)/\w'.cell? ⟨w.heap.size,1,none⟩=some (.int .i64 p)/\w'.cell? ⟨w.heap.size,2,none⟩=some (.int .i64 f)/\w'.cell? ⟨w.heap.size,3,none⟩=some (.int .i64 n)/\w'.cell? ⟨w.heap.size,4,none⟩=some (.string s)/\w'.cell? ⟨w.heap.size,5,none⟩=some lv/\w'.cell? ⟨w.heap.size,6,none⟩=some nv/\w'.cell? ⟨w.heap.size,7,none⟩=some sv):=fun W hW=>by
   have hA:=((ze.refl (fun _=>False) w).alloc (.cells #[.int .i64 4,.int .i64 p,.int .i64 f,.int .i64 n,.string s,lv,nv,sv] 29)).trans hW;refine (asksF p f n s lv nv sv (h.keep0 hA) hu (by obtain ⟨pb,F,t,X,cs,ts,v,A,hp⟩:=hpat;exact ⟨pb,F,t,X,cs,ts,v,A,hp.keep hA (fun _ f=>f.elim)⟩) (hT.keep hA (fun f=>f)) hn l1 l2 l3).mono ?_;rintro e w' ⟨rfl,r1,r2,r3⟩;have o:∀ (t:Nat) (u:Value),(w.alloc (.cells #[.int .i64 4,.int .i64 p,.int .i64 f,.int .i64 n,.string s,lv,nv,sv] 29)).cell? ⟨w.heap.size,t,none⟩=some u->w'.cell? ⟨w.heap.size,t,none⟩=some u:=fun t u hh=>zg r3 _ _ (zg hW _ _ hh (fun f=>f)) (fun c=>c.elim (fun c=>by simp at c;omega) (fun c=>by have:=(zh (h.row 1 (by decide)) _ c).2;simp at this));have hg:¬(g=wi.heap.size\/(R 1).ownBlock=some g):=fun c=>c.elim (fun c=>by omega) (fun c=>own_ne (h.row 1 (by decide)) (h.row 0 (by decide)) (by decide) g c (by rw [e0];rfl));exact ⟨rfl,r1,by rw [<-e0];exact r2,zg r3 _ _ (zg hA _ _ q1 (fun f=>f)) hg,zg r3 _ _ (zg hA _ _ q2 (fun f=>f)) hg,o 0 _ (zm w _ rfl _ _ 0 _ rfl),o 1 _ (zm w _ rfl _ _ 1 _ rfl),o 2 _ (zm w _ rfl _ _ 2 _ rfl),o 3 _ (zm w _ rfl _ _ 3 _ rfl),o 4 _ (zm w _ rfl _ _ 4 _ rfl),o 5 _ (zm w _ rfl _ _ 5 _ rfl),o 6 _ (zm w _ rfl _ _ 6 _ rfl),o 7 _ (zm w _ rfl _ _ 7 _ rfl)⟩
  clear h hu hT hc hpat
  unfold opV;go_enter func15,ntmps15;go_wp2_with fail;go_region_held3 (fun w'=>w'.cell? ⟨wi.heap.size,0,none⟩=some (.slice (some ⟨g,0,none⟩) ps.length pc)/\w'.cell? ⟨g,j*2,none⟩=some (.pointer (some ⟨gx,0,none⟩))/\w'.cell? ⟨g,j*2+1,none⟩=some (.pointer (some ⟨gy,0,none⟩))/\w'.cell? ⟨w.heap.size,0,none⟩=some (.int .i64 4)/\w'.cell? ⟨w.heap.size,1,none⟩=some (.int .i64 p)/\w'.cell? ⟨w.heap.size,2,none⟩=some (.int .i64 f)/\w'.cell? ⟨w.heap.size,3,none⟩=some (.int .i64 n)/\w'.cell? ⟨w.heap.size,4,none⟩=some (.string s)/\w'.cell? ⟨w.heap.size,5,none⟩=some lv/\w'.cell? ⟨w.heap.size,6,none⟩=some nv/\w'.cell? ⟨w.heap.size,7,none⟩=some sv) (go_keep)
   (first |(go_at_call 31;refine (zb HK _).mono ?_;rintro e w1 ⟨rfl,rfl⟩) |(go_at_call 33;refine (zb HA _ ((ze.refl _ _).drewN _)).mono ?_;rintro e w2 ⟨rfl,HST,x0,x1,x2,x3,x4,x5,x6,x7,x8,x9,x10⟩))
  go_wp2_with fail;go_ret;exact ⟨rfl,zb HST⟩
theorem zhv {n0:Nat}(kd p f n:Int)(s:ByteArray)(la:Option Addr)(lc:Nat)(ks:List Int)(nv sv:Value)(a:Nat->Addr)(h:FoR wi w ow ps fs vs us R)(hu:∀ k q,fs[k]?=some q->us k=q.used)(hS:Start wi a)(hk:kd=5\/kd=6)(f0:-9223372036854775808<=f)(f1:f<9223372036854775808)(hE:wk wi (fun _=>True) (.slice la ks.length lc) ks)(hks:ks.length<=17592186044416)(hn:n0<1172812402961)(l1:ps.length<=n0)(l2:fs.length<=n0)(l3:vs.length<=n0) :
  Calls prog 15 #[.pointer (some ⟨wi.heap.size,0,none⟩),opV kd p f n s (.slice la ks.length lc) nv sv] w fun e w'=>e = .returned (.bool true)/\FoS wi w' (n0+1):=by
 have c1:=h.c 1 _ rfl;have hlt:=h.lt;have HF:Hid (∀ w',Q8 w w'->FoS wi w' (n0+1)):=fun w' k=>⟨_,_,_,_,_,_,h.keep0 k,hu,by omega,by omega,by omega⟩
 by_cases h0:fs.length=0
 ·have e0:∃ a c,R 1 = .slice a 0 c:=by
   rcases (h.row 1 (by decide)).2 with ⟨e,_⟩ |⟨g,cap,cur,e,_⟩
   ·exact ⟨_,_,e⟩
   ·exact ⟨_,_,e.trans (by rw [show rN ps fs vs 1=0 from h0])⟩
  obtain ⟨pa,pc,e0⟩:=e0;rw [e0] at c1;clear h hu hS hE;unfold opV;rcases hk with rfl |rfl
  all_goals
   go_enter func15,ntmps15;go_wp2_with fail;go_ret;exact ⟨rfl,zb HF _ ((ze.refl _ _).alloc _)⟩
 ·obtain ⟨g,pc,e0,hc,_⟩:=own_row (n:=fs.length) (xs:=finCells fs) (h.row 1 (by decide)) (by omega);have hjl:=pickN_lt f (n:=fs.length) (by omega);have HK:=zc (pick_any f fs.length · f0 f1 (by omega) (by omega));generalize pickN f fs.length=j at *;have hq:=zD hjl;generalize fs[j]=q at hq;obtain ⟨q0,q1,q2,q3⟩:=zeC fs j q hq;replace q0:=hc _ _ q0;replace q1:=hc _ _ q1;replace q2:=hc _ _ q2;replace q3:=hc _ _ q3;rw [e0] at c1;have hgb:=zh (h.row 1 (by decide)) g (by rw [e0];rfl);have HA:=zc (fun w1 (k:Q8 w w1)=>findsF kd p f n s la lc ks nv sv a (h.keep0 k) hu hq hS hE hks hn l1 l2 l3);have HV:=zc (fun w1 (k:Q8 w w1)=>livesF (k:=j) (q:=q) (by have:=(h.keep0 k).fins j q hq;rw [hu j q hq] at this;exact this));clear h hu hS hE hc hq;unfold opV at *;rcases hk with rfl |rfl
  all_goals
   go_enter func15,ntmps15;go_wp2_with fail;go_region_held3 (fun w'=>w'.cell? ⟨w.heap.size,2,none⟩=some (.int .i64 f)/\w'.cell? ⟨wi.heap.size,1,none⟩=some (.slice (some ⟨g,0,none⟩) fs.length pc)) (go_keep)
    (first |(go_at_call 31;refine (zb HK _).mono ?_;rintro e w1 ⟨rfl,rfl⟩))
   go_wp2_with (first |(go_at_call 32;refine (zb HA _ (((ze.refl _ _).alloc _).drewN _)).mono ?_;rintro e w2 ⟨rfl,h1⟩;have H1:=zc h1;clear h1) |(go_at_call 18;refine (zb HV _ (((ze.refl _ _).alloc _).drewN _)).mono ?_;rintro e w2 ⟨rfl,h1⟩;have H1:=zc (zb HF _ ((((ze.refl _ _).alloc _).drewN _).trans h1));clear h1));go_ret;exact ⟨rfl,zb H1⟩
theorem stepF {n:Nat}(o:OpQ)(a:Nat->Addr)(h:FoS wi w n)(hS:Start wi a)(hT:TabAt wi)(hk:o.k=1\/o.k=4\/o.k=5\/o.k=6)(ho:OpK wi o)(hn:n<1172812402961) :
  Calls prog 15 #[.pointer (some ⟨wi.heap.size,0,none⟩),opV o.k o.p o.f o.n o.s (.slice o.la o.ks.length o.lc) (.slice o.na o.nl o.nc) (.slice o.sa o.sl o.sc)] w fun e w'=>e = .returned (.bool true)/\FoS wi w' (n+1):=by
 obtain ⟨ow,ps,fs,vs,us,R,h1,h2,h3,h4,h5⟩:=h;rcases hk with hk |hk |hk
 ·rw [hk];exact zht _ _ _ _ _ _ _ a h1 h2 hS hn h3 h4 h5
 ·rw [hk];exact zhu _ _ _ _ _ _ _ h1 h2 (hT.keep h1.old (fun f=>f)) ho.p0 ho.p1 hn h3 h4 h5
 ·exact zhv _ _ _ _ _ _ _ _ _ _ a h1 h2 hS hk ho.f0 ho.f1 ho.l ho.ll hn h3 h4 h5
end
set_option maxHeartbeats 8000000
def ScrF (w:World)(v:Value)(os:List OpQ):Prop:=∃ a cap,v = .slice a os.length cap/\∀ (i:Nat) o,os[i]?=some o->OpK w o/\∃ blk off,a=some ⟨blk,off,none⟩/\∀ (j:Nat) u,o.cells[j]?=some u->w.cell? ⟨blk,off+i*8+j,none⟩=some u
def storeF:Obj:=.cells #[.slice none 0 0,.slice none 0 0,.slice none 0 0,.slice none 0 0,.slice none 0 0,.slice none 0 0,.slice none 0 0,.slice none 0 0,.slice none 0 0,.slice none 0 0,.int .i64 0] 60
theorem FoS.new (w:World)(hT:TabAt w):FoS w (w.alloc storeF) 0:=by
 refine ⟨fun _=>0,[],[],[],fun _=>false,fun _=>.slice none 0 0,⟨(ze.refl _ _).alloc _,hT.lt,by simp,fun j u hu=>?_,fun j=>zG w _ rfl _ _ j,fun i hi=>?_,fun _ _ _ _=>rfl,fun _ h=>absurd rfl h,fun q hq=>absurd hq List.not_mem_nil,fun k q hq=>(by simp at hq),fun v hv=>absurd hv List.not_mem_nil⟩,fun k q hq=>(by simp at hq),z8 _,z8 _,z8 _⟩
 ·rcases j with _ |_ |_ |_ |_ |_ |_ |_ |_ |_ |j
  all_goals first |exact zm w _ rfl _ _ _ _ hu |simp [cols] at hu
 ·match i,hi with
  |0,_=>exact qD _ _ _ _
  |1,_=>exact qD _ _ _ _
  |2,_=>exact qD _ _ _ _
  |i+3,hi=>exact absurd hi (by omega)
section
variable {wi w w':World} {n:Nat}
theorem FoS.keep0 (h:FoS wi w n)(k:Q8 w w'):FoS wi w' n:=by
 obtain ⟨ow,ps,fs,vs,us,R,h1,h2⟩:=h;exact ⟨ow,ps,fs,vs,us,R,h1.keep0 k,h2⟩
theorem FoS.up (h:FoS wi w n):FoS wi w (n+1):=by
 obtain ⟨ow,ps,fs,vs,us,R,h1,h2,h3,h4,h5⟩:=h;exact ⟨ow,ps,fs,vs,us,R,h1,h2,by omega,by omega,by omega⟩
theorem FoS.kept (h:FoS wi w n)(hn:n<=1172812402961):Calls prog 16 #[.pointer (some ⟨wi.heap.size,0,none⟩)] w fun e w'=>e = .returned (.bool true)/\Q8 w w':=by
 obtain ⟨ow,ps,fs,vs,us,R,h1,h2,h3,h4,h5⟩:=h;exact keptF h1 (by omega)
theorem FoS.old (h:FoS wi w n):Q8 wi w:=by
 obtain ⟨ow,ps,fs,vs,us,R,h1,h2⟩:=h;exact h1.old
end
theorem playF (os:List OpQ)(v:Value)(w:World)(a:Nat->Addr)(hS:Start w a)(hT:TabAt w)(hN:ScrF w v os)(hn:os.length<=1172812402961) :
  Calls prog 7 #[v,.int .i64 4,.int .i64 6] w fun e w'=>e = .returned (.bool true)/\Q8 w w':=by
 obtain ⟨sa,sc,rfl,hN⟩:=hN;have HN:=zc hN;have HS:=zc hS;have HW:=zc (FoS.new w hT);have HT:=zc hT;clear hN hS hT;unfold storeF at HW;go_enter func7,ntmps7;go_wp2_with fail;generalize World.alloc w _=W0 at HW ⊢;go_loopw [8] (fun k wr=>∃ i:Nat,k = .int .i64 i/\i<=os.length/\Hid (FoS w wr i)) (fun k _=>os.length-(intOf k).toNat)
 case atStart=>exact ⟨0,rfl,by omega,HW⟩
 case round=>
  clear HW;obtain ⟨i,rfl,hi,HP⟩:=hrel;by_cases hlt:i<os.length
  ·obtain ⟨hop,blk,off,rfl,hc⟩:=zb HN i os[i] (zD hlt);generalize os[i]=o at hop hc;have HST:Hid (∀ w1,Q8 wr w1->(o.k=1\/o.k=4\/o.k=5\/o.k=6)->Calls prog 15 #[.pointer (some ⟨w.heap.size,0,none⟩),opV o.k o.p o.f o.n o.s (.slice o.la o.ks.length o.lc) (.slice o.na o.nl o.nc) (.slice o.sa o.sl o.sc)] w1 fun e w'=>e = .returned (.bool true)/\FoS w w' (i+1)):=fun w1 h1 hk=>stepF o a ((zb HP).keep0 h1) (zb HS) (zb HT) hk hop (by omega);have c:∀ (j:Nat) u,o.cells[j]?=some u->wr.cell? ⟨blk,off+i*8+j,none⟩=some u:=fun j u hj=>zg (zb HP).old _ _ (hc j u hj) (fun f=>f);have c0:wr.cell? ⟨blk,off+i*8,none⟩=some (.int .i64 o.k):=c 0 _ rfl;have c1:=c 1 _ rfl;have c2:=c 2 _ rfl;have c3:=c 3 _ rfl;have c4:=c 4 _ rfl;have c5:=c 5 _ rfl;have c6:=c 6 _ rfl;have c7:=c 7 _ rfl;obtain ⟨kd,p,f,n,s,la,lc,ks,na,nl,nc,sa,sl,sc'⟩:=o;simp only [] at c0 c1 c2 c3 c4 c5 c6 c7 HST;clear hop hc c HN HS HT;by_cases hk:kd=1\/kd=4\/kd=5\/kd=6
   ·have HST2:Hid (∀ w1,Q8 wr w1->Calls prog 15 #[.pointer (some ⟨w.heap.size,0,none⟩),.agg #[.int .i64 kd,.int .i64 p,.int .i64 f,.int .i64 n,.string s,.slice la ks.length lc,.slice na nl nc,.slice sa sl sc']] w1 fun e w'=>e = .returned (.bool true)/\FoS w w' (i+1)):=fun w1 h1=>zb HST w1 h1 hk;clear HST;rcases hk with rfl |rfl |rfl |rfl
    all_goals go_wp2_with (first |(go_at_call 15;refine (zb HST2 _ ((ze.refl _ _).alloc _)).mono ?_;rintro e w1 ⟨rfl,hP1⟩;have HP1:=zc hP1;clear hP1) |(go_at_call 16;refine ((zb HP1).kept (by omega)).mono ?_;rintro e w2 ⟨rfl,hO2⟩))
    all_goals exact ⟨⟨i+1,by go_num,by omega,(zb HP1).keep0 hO2⟩,by simp [intOf];omega⟩
   ·clear HST;have hk1:(kd != 1)=true:=(by simp;omega);have hd:decide (kd<4)=true\/(decide (kd<4)=false/\6<kd):=(by simp;omega);clear hk;rcases hd with hd |⟨hd,hd6⟩
    all_goals
     go_wp2_with fail;exact ⟨⟨i+1,by go_num,by omega,((zb HP).keep0 ((ze.refl _ _).alloc _)).up⟩,by simp [intOf];omega⟩
  ·clear HN HS HT;generalize wr=wo at *;obtain ⟨ow,ps,fs,vs,us,R,hR,hu,hpl,hfl,_⟩:=zb HP;have c0:=hR.c 0 _ rfl;have c1:=hR.c 1 _ rfl;obtain ⟨pa,pn,pc,e0⟩:=zy (hR.row 0 (by decide));obtain ⟨fa,fn,fc,e1⟩:=zy (hR.row 1 (by decide));have hn0:pn=ps.length:=by
    rcases (hR.row 0 (by decide)).2 with ⟨e,h0⟩ |⟨g,cap,cur,e,_⟩<;>cases e0.symm.trans e
    ·exact h0.symm
    ·rfl
   have hn1:fn=fs.length:=by
    rcases (hR.row 1 (by decide)).2 with ⟨e,h0⟩ |⟨g,cap,cur,e,_⟩<;>cases e1.symm.trans e
    ·exact h0.symm
    ·rfl
   subst hn0 hn1;rw [e0] at c0;rw [e1] at c1;have HPC:Hid (∀ j,j<ps.length->∃ g gx gy z,pa=some ⟨g,0,none⟩/\wo.cell? ⟨g,j*2,none⟩=some (.pointer (some ⟨gx,0,none⟩))/\wo.cell? ⟨g,j*2+1,none⟩=some (.pointer (some ⟨gy,0,none⟩))/\wo.cell? ⟨gx,0,none⟩=some (.int .i64 z)/\wo.cell? ⟨gy,1,none⟩=some (.int .i64 z)):=fun j hj=>by
    obtain ⟨g,cap,e,hc,_⟩:=own_row (n:=ps.length) (xs:=patCells ps) (hR.row 0 (by decide)) (by omega);cases e0.symm.trans e;obtain ⟨q1,q2⟩:=zeW ps j ps[j] (zD hj);obtain ⟨pb,F,t,W,cs,ts,v,A,hp⟩:=hR.pats _ (jG hj);exact ⟨g,_,_,_,rfl,hc _ _ q1,hc _ _ q2,hp.c.size,hp.use.2⟩
   have HFC:Hid (∀ j,j<fs.length->∃ g q,fa=some ⟨g,0,none⟩/\wo.cell? ⟨g,j*4,none⟩=some (.pointer (some ⟨q.x,0,none⟩))/\wo.cell? ⟨g,j*4+1,none⟩=some (.pointer (some ⟨q.y,0,none⟩))/\wo.cell? ⟨g,j*4+2,none⟩=some (.int .i64 (q.most:Nat))/\wo.cell? ⟨g,j*4+3,none⟩=some (.bool q.used)/\FinL wo ow j q q.used):=fun j hj=>by
    obtain ⟨g,cap,e,hc,_⟩:=own_row (n:=fs.length) (xs:=finCells fs) (hR.row 1 (by decide)) (by omega);cases e1.symm.trans e;have hq:=zD hj;obtain ⟨q0,q1,q2,q3⟩:=zeC fs j fs[j] hq;exact ⟨g,fs[j],rfl,hc _ _ q0,hc _ _ q1,hc _ _ q2,hc _ _ q3,by have:=hR.fins j _ hq;rw [hu j _ hq] at this;exact this⟩
   clear hR hu e0 e1;go_wp2_with fail;go_loopw [12] (fun k wq=>∃ j:Nat,k = .int .i64 j/\j<=ps.length/\Hid (Q8 wo wq)) (fun k _=>ps.length-(intOf k).toNat)
   case atStart=>exact ⟨0,rfl,by omega,ze.refl _ _⟩
   case round=>
    obtain ⟨j,rfl,hj,HQ⟩:=hrel;by_cases hjl:j<ps.length
    ·obtain ⟨g,gx,gy,z,rfl,q1,q2,q3,hz⟩:=zb HPC j hjl;have HZ:Hid (∀ W,Q8 wo W->Calls prog 17 #[.pointer (some ⟨gx,0,none⟩)] W fun x w'=>x = .returned (.int .i64 z)/\Q8 wo w'/\w'.cell? ⟨w.heap.size,0,none⟩=some (.slice (some ⟨g,0,none⟩) ps.length pc)/\w'.cell? ⟨g,j*2,none⟩=some (.pointer (some ⟨gx,0,none⟩))/\w'.cell? ⟨g,j*2+1,none⟩=some (.pointer (some ⟨gy,0,none⟩))/\w'.cell? ⟨gy,1,none⟩=some (.int .i64 z)):=fun W hW=>
      (kX gx _ W (zg hW _ _ q3 (fun f=>f))).mono (by
       rintro e w' ⟨rfl,hO⟩;have hO':=hW.trans hO;exact ⟨rfl,hO',zg hO' _ _ c0 (fun f=>f),zg hO' _ _ q1 (fun f=>f),zg hO' _ _ q2 (fun f=>f),zg hO' _ _ hz (fun f=>f)⟩)
     have y0:=zg (zb HQ) _ _ c0 (fun f=>f);have y1:=zg (zb HQ) _ _ q1 (fun f=>f);have y2:=zg (zb HQ) _ _ q2 (fun f=>f);have y3:=zg (zb HQ) _ _ hz (fun f=>f);clear q3 HPC HFC c0 c1 q1 q2 hz;go_wp2_with fail;go_region_held3 (fun w'=>w'.cell? ⟨w.heap.size,0,none⟩=some (.slice (some ⟨g,0,none⟩) ps.length pc)/\w'.cell? ⟨g,j*2,none⟩=some (.pointer (some ⟨gx,0,none⟩))/\w'.cell? ⟨g,j*2+1,none⟩=some (.pointer (some ⟨gy,0,none⟩))/\w'.cell? ⟨gy,1,none⟩=some (.int .i64 z)) (go_keep)
      (first |(go_at_call 17;refine (zb HZ _ ((zb HQ).drewN _)).mono ?_;rintro e w2 ⟨rfl,hO2,x0,x1,x2,x3⟩))
     go_wp2_with fail;exact ⟨⟨j+1,by go_num,by omega,hO2⟩,by simp [intOf];omega⟩
    ·have y0:=zg (zb HQ) _ _ c0 (fun f=>f);clear HPC;go_wp2_with fail;go_loopw [13] (fun k wq=>∃ j:Nat,k = .int .i64 j/\j<=fs.length/\Hid (Q8 wo wq)) (fun k _=>fs.length-(intOf k).toNat)
     case atStart=>exact ⟨0,rfl,by omega,HQ⟩
     case round=>
      clear HQ;obtain ⟨m,rfl,hm,HQ⟩:=hrel;have y1:=zg (zb HQ) _ _ c1 (fun f=>f);clear c0 c1 y0;by_cases hml:m<fs.length
      ·obtain ⟨g,q,rfl,q0,q1,q2,q3,q4⟩:=zb HFC m hml;replace q0:=zg (zb HQ) _ _ q0 (fun f=>f);replace q1:=zg (zb HQ) _ _ q1 (fun f=>f);replace q2:=zg (zb HQ) _ _ q2 (fun f=>f);replace q3:=zg (zb HQ) _ _ q3 (fun f=>f);have HV:=zc (livesF (q4.keep (zb HQ) (fun _ f=>f.elim)));clear q4 HFC;go_wp2_with (go_at_call 18;refine (zb HV).mono ?_;rintro e w2 ⟨rfl,hO2⟩);exact ⟨⟨m+1,by go_num,by omega,(zb HQ).trans hO2⟩,by simp [intOf];omega⟩
      ·have HP2:=zc ((zb HP).keep0 (zb HQ));clear HFC;go_wp2_with (go_at_call 16;refine ((zb HP2).kept (by omega)).mono ?_;rintro e w2 ⟨rfl,hO2⟩);go_ret;exact ⟨rfl,(zb HP2).old.trans hO2⟩
theorem zhw (os:List OpQ)(v:Value)(w:World)(a:Nat->Addr)(hS:Start w a)(hT:TabAt w)(hN:ScrF w v os)(hn:os.length<=1172812402961) :
  Calls prog 3 #[v] w fun e w'=>e = .returned (.bool true)/\Q8 w w':=by
 have HP:=zc (playF os v w a hS hT hN hn);obtain ⟨sa,sc,rfl,_⟩:=hN;clear hS hT;go_enter func3,ntmps3;go_wp2_with (go_at_call 7;refine (zb HP).mono ?_;rintro e w1 ⟨rfl,hO1⟩);go_ret;exact ⟨rfl,hO1⟩
end
end Go.Proofs.YtcgleficedipkaaGreatDoor
