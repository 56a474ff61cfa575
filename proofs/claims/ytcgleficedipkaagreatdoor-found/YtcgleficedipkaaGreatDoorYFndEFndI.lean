/- Program.Group: a character's group. -/
import Derived.Test.YtcgleficedipkaaGreatDoorYSxO
import Derived.Shelf.Sort.Plain
import Derived.Shelf.Strconv.AppendIntPublic10
import Derived.Laws.IdiomStrings
namespace Go.Proofs.YtcgleficedipkaaGreatDoor
open _root_.Go.Proofs.Tryz
variable (blk cap:Nat){w:World}{B base b:Nat}{v x y z:Value}(n pb st:Nat){ps rs:List Nat}(cs:List Int)(d:Array Int)
section
open Go.RowKit
def vZ (w:World)(A:Nat->Prop)(pb:Nat)(cs:List Int):Prop:=∃ v,w.cell? ⟨pb,3,none⟩=some v/\((v = .slice none 0 0/\cs=[])\/∃ g cap,v = .slice (some ⟨g,0,none⟩) cs.length cap/\(0<cs.length->A g)/\Sort.Holds (Value.int .i32) w g 0 cs.toArray)
theorem CutsAt.cutsB {A:Nat->Prop}{pb:Nat}{cs:List Int}(h:CutsAt w A pb cs):vZ w (fun g=>A g/\g<w.heap.size) pb cs:=by
 obtain ⟨v,h1,h2 |⟨g,cap,rfl,h3,_,h4⟩⟩:=h
 ·exact ⟨v,h1,.inl h2⟩
 ·exact ⟨_,h1,.inr ⟨g,cap,rfl,fun hp=>⟨h3,zE w _ (h4 0 (by simpa using hp)).1⟩,h4⟩⟩
theorem vZ.sl {A:Nat->Prop}{pb:Nat}{cs:List Int}(h:vZ w A pb cs):∃ a n c,w.cell? ⟨pb,3,none⟩=some (.slice a n c)/\CutSl w (.slice a n c) cs:=by
 obtain ⟨v,h1,⟨rfl,h2⟩ |⟨g,cap,rfl,h3,h4⟩⟩:=h
 ·exact ⟨_,_,_,h1,.inl ⟨rfl,h2⟩⟩
 ·refine ⟨_,_,_,h1,.inr ⟨g,cap,rfl,fun j x hj=>?_⟩⟩;obtain ⟨hl,rfl⟩:=yd.1 hj;have:=(h4 j (by simpa using hl)).1;rw [jY] at this;rw [this,getElem!_pos _ j (by simpa using hl)];simp
theorem vZ.keep {P A:Nat->Prop}{w w':World}{pb:Nat}{cs:List Int}(h:vZ w A pb cs)(k:ze P w w')(hn:∀ g,A g->¬P g)(hp:A pb):vZ w' A pb cs:=by
 obtain ⟨v,h1,h2 |⟨g,cap,rfl,h3,h4⟩⟩:=h
 ·exact ⟨v,zg k _ _ h1 (hn _ hp),.inl h2⟩
 ·refine ⟨_,zg k _ _ h1 (hn _ hp),.inr ⟨g,cap,rfl,h3,fun t ht=>?_⟩⟩;have hb:g<w.heap.size:=zE w _ (h4 t ht).1;have hA:A g:=h3 (by have:t<cs.length:=(by simpa using ht);omega);exact ⟨zg k _ _ (h4 t ht).1 (hn _ hA),zP k _ hb (h4 t ht).2 (hn _ hA)⟩
theorem vZ.mono {A B:Nat->Prop}{w:World}{pb:Nat}{cs:List Int}(h:vZ w A pb cs)(hAB:∀ g,A g->B g):vZ w B pb cs:=by
 obtain ⟨v,h1,h2 |⟨g,cap,rfl,h3,h4⟩⟩:=h
 ·exact ⟨v,h1,.inl h2⟩
 ·exact ⟨_,h1,.inr ⟨g,cap,rfl,fun hp=>hAB _ (h3 hp),h4⟩⟩
theorem zbO (c:Int)(A:Nat->Prop)(w:World)(h:vZ w A pb cs)(hs:cs.Pairwise (· < ·))(hb:∀ x∈cs,0<=x/\x<=1114112) :
  Calls prog 130 #[.pointer (some ⟨pb,0,none⟩),.int .i32 c] w fun e w'=>e = .returned (.int .i64 (Fnd.grp cs c:Nat))/\w'=w:=by
 have hl:cs.length<=1114113:=by have:=Vb cs 0 hs hb (by omega);omega
 obtain ⟨a,n,k,h3,hsl⟩:=h.sl;have HB:=zc (bs_any _ cs c w hsl hs hl);have HG:Hid (∀ (i:Nat),(∀ (j:Nat) x,cs[j]?=some x->(j<i↔x<c))->i<=cs.length->Fnd.grp cs c=if cs[i]?=some c then i+1 else i):=fun i h1 h2=>Fnd.grp_at hs h1 h2;clear h hs hb hsl;generalize htgt:Fnd.grp cs c=tgt at HG ⊢;clear htgt;go_enter func130,ntmps130;go_wp2_with (go_at_call 173;refine zb ?_);refine zc ?_;refine (zb HB).mono ?_;rintro e w1 ⟨i,rfl,hi,hj,rfl⟩;have hG:=zb HG i hj hi;by_cases hc:cs[i]?=some c
 ·rw [if_pos hc] at hG;rw [decide_eq_true hc];have HT:=zc hG;clear hG hj hc;go_wp2_with fail;go_ret;exact ⟨by rw [zb HT];rfl,rfl⟩
 ·rw [if_neg hc] at hG;rw [decide_eq_false hc];have HT:=zc hG;clear hG hj hc;go_wp2_with fail;go_ret;exact ⟨by rw [zb HT];rfl,rfl⟩
open Sm (Stp Tree)
def jf (w:World)(A:Nat->Prop)(v:Value)(ps:List Nat):Prop:=∃ g cap,v = .slice (some ⟨g,0,none⟩) ps.length cap/\ps.length<=cap/\A g/\∀ (j:Nat) a,ps[j]?=some a->w.cell? ⟨g,j,none⟩=some (.int .i64 (a:Nat))
theorem jf.keep {P A:Nat->Prop}{w w':World}{v:Value}{ps:List Nat}(h:jf w A v ps)(k:ze P w w')(hn:∀ g,A g->¬P g):jf w' A v ps:=by
 obtain ⟨g,cap,h1,h2,h3,h4⟩:=h;exact ⟨g,cap,h1,h2,h3,fun j a hj=>zg k _ _ (h4 j a hj) (hn g h3)⟩
theorem jf.mono {A B:Nat->Prop}{w:World}{v:Value}{ps:List Nat}(h:jf w A v ps)(hAB:∀ g,A g->B g):jf w B v ps:=by
 obtain ⟨g,cap,h1,h2,h3,h4⟩:=h;exact ⟨g,cap,h1,h2,hAB g h3,h4⟩
theorem jf.int {A:Nat->Prop}{w:World}{v:Value}{ps:List Nat}(h:jf w A v ps):xI w v ps:=by
 obtain ⟨g,cap,h1,h2,h3,h4⟩:=h;exact .inr ⟨g,cap,h1,h2,h4⟩
theorem jf.slice {A:Nat->Prop}{w:World}{v:Value}{ps:List Nat}(h:jf w A v ps):∃ a c,v = .slice a ps.length c:=h.int.slice
variable (w)
theorem jf.one (hn:w.heap.size=n)(p:Nat)(T:TypeId){A:Nat->Prop}(hA:A n):jf (w.alloc (.cells #[.int .i64 (p:Nat)] T)) A (.slice (some ⟨n,0,none⟩) 1 1) [p]:=
 ⟨n,1,rfl,by simp,hA,fun j a hj=>by
  have hj0:j=0:=by have:=(yd.1 hj).1;simp at this;omega
  subst hj0;simp at hj;subst hj;exact zm _ _ hn _ _ 0 _ rfl⟩
theorem yX (o:Obj):(w.alloc o).heap.size=w.heap.size+1:=by unfold World.alloc;exact Array.size_push _
def stV (sv:Value)(b wb:Bool):Value:=.agg #[sv,.bool b,.bool wb]
theorem zbP (N:List Stp)(W:Int->Bool)(A:Nat->Prop)(w:World)(hP:xi w A pb N st W) :
  Calls prog 79 #[.pointer (some ⟨pb,0,none⟩)] w fun x w'=>∃ sv,x = .returned (stV sv true false)/\jf w' (fun g=>w.heap.size<=g) sv [st]/\Q8 w w':=by
 have h1:=hP.c1;have e1:(w.alloc (.cells #[.slice none 0 0,.bool false,.bool false] 190)).cell? ⟨pb,1,none⟩=some (.int .i64 (st:Nat)):=zg ((ze.refl (fun _=>False) w).alloc _) _ _ h1 (fun f=>f);unfold stV;clear hP h1;go_enter func79,ntmps79;go_wp2_with fail;refine bodyPost_ret (v:=.agg #[.slice (some ⟨w.heap.size+1,0,none⟩) 1 1,.bool true,.bool false]) (by simp [results,results79,go_sem]) rfl ?_;refine ⟨_,rfl,jf.one _ _ (yX _ _) st _ (by omega),((ze.refl _ _).alloc _).alloc _⟩
theorem v7 (N:List Stp)(W:Int->Bool)(sv:Value)(s:Fnd.St)(A:Nat->Prop)(w:World)(hP:xi w A pb N st W)(hS:xI w sv s.ps)(hok:s.OK N) :
  Calls prog 82 #[.pointer (some ⟨pb,0,none⟩),stV sv s.b s.w] w fun x w'=>∃ r,x = .returned (.bool r)/\(r=true↔Fnd.hit N s)/\Q8 w w':=by
 obtain ⟨b,wb,ps⟩:=s;obtain ⟨va,vc,rfl⟩:=hS.slice;have hlen:=hok.len;have hNl:=hP.len;have HO:Hid (Q8 w (w.alloc (.cells #[.slice va ps.length vc,.bool b,.bool wb] 190))):=(ze.refl _ _).alloc _;have HR:=zc (YQ pb st N W _ ps b true wb false A _ (hP.keep (zb HO) (fun _ _ f=>f)) (hS.keep (zb HO)) hok.lt (by simp at hlen;omega));unfold stV;clear hP hS hok;go_enter func82,ntmps82;go_wp2_with (first
  |(go_at_call 83;refine (zb HR).mono ?_;rintro e w1 ⟨rv,rs,rfl,ho1,hO1,hr1,hr2,hr3,hr4,hr5⟩;obtain ⟨ra,rn,rc,rfl⟩:=zy ho1;have HR1:=zc (xI.of ho1);have HO1:=zc ((zb HO).trans hO1);have HQ:=zc (Fnd.rch_of hr3 hr4 hr5);clear ho1 hO1 hr2 hr3 hr4 hr5)
  |(go_at_call 85;refine (YR _ rs 0 _ (zb HR1) (by omega)).mono ?_;rintro e w2 ⟨rfl,hO2⟩;have HO2:=zc ((zb HO1).trans hO2);clear hO2))
 go_ret;exact ⟨_,rfl,by rw [decide_eq_true_iff];exact zb HQ 0,zb HO2⟩
end
section
open Go.RowKit Go.Shelf Go.Lib Go.Sort
def YB:Go.Shelf.Ren:=⟨fun |43=>175 |n=>n,fun |22=>27 |23=>3 |3=>3 |4=>4 |0=>0 |n=>n,fun |n=>n⟩
theorem J6:Go.Proofs.SlLaysE.n43 prog YB:={
 mixed:=by kernel_rfl
 f43:=⟨Tryz.f175.name,by decide,func175.trans (congrArg some (by kernel_rfl))⟩
 t0:=underlying0
 a0:=Tryz.isAgg0
 z0:=Tryz.sizeOf0
 v0:=Tryz.zeroValue0
 t3:=underlying3
 a3:=Tryz.isAgg3
 z3:=Tryz.sizeOf3
 v3:=Tryz.zeroValue3
 t4:=underlying4
 a4:=Tryz.isAgg4
 z4:=Tryz.sizeOf4
 v4:=Tryz.zeroValue4
 t22:=underlying27
 a22:=Tryz.isAgg27
 z22:=Tryz.sizeOf27
 v22:=Tryz.zeroValue27
 a23:=Tryz.isAgg3
 z23:=Tryz.sizeOf3 }
def QP:Go.Shelf.Ren:=⟨fun |189=>174 |125=>169 |257=>212 |128=>208 |129=>209 |294=>235 |295=>236 |296=>237 |297=>238 |298=>239 |299=>240 |216=>241 |300=>242 |301=>243 |328=>269 |329=>230 |330=>231 |331=>270 |332=>271 |215=>272 |343=>294 |n=>n,fun |28=>27 |3=>3 |46=>324 |0=>0 |51=>361 |53=>363 |4=>4 |183=>355 |182=>354 |131=>32 |5=>5 |9=>9 |218=>375 |222=>379 |228=>402 |229=>299 |n=>n,fun |n=>n⟩
theorem zbQ:Go.Proofs.Lays.n189 prog QP:={
 mixed:=by kernel_rfl
 f125:=func169.trans (congrArg some (by kernel_rfl))
 f128:=func208.trans (congrArg some (by kernel_rfl))
 f129:=func209.trans (congrArg some (by kernel_rfl))
 f189:=func174.trans (congrArg some (by kernel_rfl))
 f215:=func272.trans (congrArg some (by kernel_rfl))
 f216:=func241.trans (congrArg some (by kernel_rfl))
 f257:=func212.trans (congrArg some (by kernel_rfl))
 f294:=func235.trans (congrArg some (by kernel_rfl))
 f295:=func236.trans (congrArg some (by kernel_rfl))
 f296:=func237.trans (congrArg some (by kernel_rfl))
 f297:=func238.trans (congrArg some (by kernel_rfl))
 f298:=func239.trans (congrArg some (by kernel_rfl))
 f299:=func240.trans (congrArg some (by kernel_rfl))
 f300:=func242.trans (congrArg some (by kernel_rfl))
 f301:=func243.trans (congrArg some (by kernel_rfl))
 f328:=func269.trans (congrArg some (by kernel_rfl))
 f329:=func230.trans (congrArg some (by kernel_rfl))
 f330:=func231.trans (congrArg some (by kernel_rfl))
 f331:=func270.trans (congrArg some (by kernel_rfl))
 f332:=func271.trans (congrArg some (by kernel_rfl))
 f343:=func294.trans (congrArg some (by kernel_rfl))
 t0:=underlying0
 a0:=Tryz.isAgg0
 z0:=Tryz.sizeOf0
 v0:=Tryz.zeroValue0
 t3:=underlying3
 a3:=Tryz.isAgg3
 z3:=Tryz.sizeOf3
 v3:=Tryz.zeroValue3
 t4:=underlying4
 a4:=Tryz.isAgg4
 z4:=Tryz.sizeOf4
 v4:=Tryz.zeroValue4
 t5:=underlying5
 a5:=Tryz.isAgg5
 z5:=Tryz.sizeOf5
 v5:=Tryz.zeroValue5
 t9:=underlying9
 a9:=Tryz.isAgg9
 z9:=Tryz.sizeOf9
 v9:=Tryz.zeroValue9
 t28:=underlying27
 a28:=Tryz.isAgg27
 z28:=Tryz.sizeOf27
 v28:=Tryz.zeroValue27
 t46:=underlying324
 a46:=Tryz.isAgg324
 z46:=Tryz.sizeOf324
 v46:=Tryz.zeroValue324
 t51:=underlying361
 a51:=Tryz.isAgg361
 z51:=Tryz.sizeOf361
 v51:=Tryz.zeroValue361
 t53:=underlying363
 a53:=Tryz.isAgg363
 z53:=Tryz.sizeOf363
 v53:=Tryz.zeroValue363
 t131:=underlying32
 a131:=Tryz.isAgg32
 z131:=Tryz.sizeOf32
 v131:=Tryz.zeroValue32
 t182:=underlying354
 a182:=Tryz.isAgg354
 z182:=Tryz.sizeOf354
 v182:=Tryz.zeroValue354
 t183:=underlying355
 a183:=Tryz.isAgg355
 z183:=Tryz.sizeOf355
 v183:=Tryz.zeroValue355
 t218:=underlying375
 a218:=Tryz.isAgg375
 z218:=Tryz.sizeOf375
 v218:=Tryz.zeroValue375
 t222:=underlying379
 a222:=Tryz.isAgg379
 z222:=Tryz.sizeOf379
 v222:=Tryz.zeroValue379
 t228:=underlying402
 a228:=Tryz.isAgg402
 z228:=Tryz.sizeOf402
 v228:=Tryz.zeroValue402
 t229:=underlying299
 a229:=Tryz.isAgg299
 z229:=Tryz.sizeOf299
 v229:=Tryz.zeroValue299 }
theorem ZW {blk q:Nat}{d:Array Int}:ze (zt blk) w (putRow (Value.int .i64) (Sort.ahead w q) blk 0 d):=by
 refine ⟨rfl,rfl,rfl,by simp,fun k hk hn=>?_⟩;have hne:k≠blk:=hn;unfold putRow mapBlock Sort.ahead;simp only [XN,Ne.symm hne,if_false]
theorem ze.grow {P:Nat->Prop}{w v:World}(h:ze P w v)(os:Array Obj):ze P w (Sort.grow v os):=
 ⟨h.os,h.tape,h.output,by rw [Sort.size_grow];have:=h.size;omega,fun j hj hn=>(Sort.heap_grow_old v os (yh hj h.size)).trans (h.block j hj hn)⟩
theorem sortI (zs:List Int)(w:World)(h:Holds (Value.int .i64) w blk 0 zs.toArray)(hblk:blk<w.heap.size)(hn:zs.length<1099511627776) :
  Calls prog 174 #[.slice (some ⟨blk,0,none⟩) zs.length cap] w fun e w'=>e = .returned (.tuple #[])/\ze (zt blk) w w'/\Holds (Value.int .i64) w' blk 0 (sort ltInt zs.toArray):=by
 refine (Any.slices_Sort_int zbQ blk 0 cap zs w h hblk (by omega)).mono ?_;rintro e w' ⟨rfl,n,os,rfl⟩;have hs:=sortInt zs;have e1:sort ltInt zs.toArray=(zs.mergeSort fun x y=>decide (x<=y)).toArray:=by rw [<-hs]
 refine ⟨rfl,ZW.grow os,?_⟩;rw [e1];refine holds_grow _ _ _ _ _ _ (by simpa using hblk) ?_;exact holds_putRow _ _ blk 0 zs.toArray _ (holds_ahead _ w n blk 0 _ h) (by simp)
theorem compactI (w:World)(h:Holds (Value.int .i64) w blk 0 d)(hn:d.size<1099511627776)(hc:d.size<=cap) :
  Calls prog 175 #[.slice (some ⟨blk,0,none⟩) d.size cap] w fun e w'=>e = .returned (.slice (some ⟨blk,0,none⟩) (compactUpTo d d.size).length cap)/\ze (zt blk) w w'/\Holds (Value.int .i64) w' blk 0 (compactUpTo d d.size++List.replicate (d.size-(compactUpTo d d.size).length) 0).toArray:=by
 refine (AnyE.slices_Compact J6 (Value.int .i64) (fun _=>rfl) (EqlAt.intD _ _ _) (NeqAt.intD _ _ _) 0 (fun w=>by kernel_rfl) blk 0 cap d w h (by omega) hc).mono ?_;rintro e w' ⟨rfl,q,rfl⟩;exact ⟨rfl,ZW,holds_putRow _ _ blk 0 d _ (holds_ahead _ w q blk 0 d h) (by have:=ZJ d;simp;omega)⟩
def toInts (rs:List Nat):List Int:=rs.map (fun a:Nat=>(a:Int))
theorem zbR (rs:List Nat):∃ ps:List Nat,compactUpTo (sort ltInt (toInts rs).toArray) (sort ltInt (toInts rs).toArray).size=toInts ps/\ps.Pairwise (· < ·)/\(∀ q,q∈ps↔q∈rs):=by
 obtain ⟨h1,h2⟩:=Yq (toInts rs).toArray;generalize compactUpTo (sort ltInt (toInts rs).toArray) (sort ltInt (toInts rs).toArray).size=cs at h1 h2;have hc:∀ x∈cs,∃ a:Nat,a∈rs/\x=a:=fun x hx=>by
  have:=(h2 x).1 hx;simp [toInts] at this;obtain ⟨a,ha,e⟩:=this;exact ⟨a,ha,e.symm⟩
 have he:toInts (cs.map Int.toNat)=cs:=by
  unfold toInts;rw [List.map_map]
  conv=>rhs;rw [<-List.map_id cs]
  exact List.map_congr_left (fun x hx=>by obtain ⟨a,_,rfl⟩:=hc x hx;simp)
 refine ⟨cs.map Int.toNat,he.symm,?_,fun q=>?_⟩
 ·rw [List.pairwise_map];refine List.Pairwise.imp_of_mem (fun {a b} ha hb hab=>?_) h1;obtain ⟨x,_,rfl⟩:=hc a ha;obtain ⟨y,_,rfl⟩:=hc b hb;simp;omega
 ·rw [Zz];constructor
  ·rintro ⟨x,hx,rfl⟩;obtain ⟨a,ha,rfl⟩:=hc x hx;simpa using ha
  ·intro hq;exact ⟨(q:Int),(h2 _).2 (by simp [toInts];exact ⟨q,hq,rfl⟩),by simp⟩
variable {n}
theorem zbS (h:w.ownsRow base 3 1 v n (zM rs))(hne:rs≠[]):∃ g cap,v = .slice (some ⟨g,0,none⟩) (toInts rs).length cap/\(toInts rs).length<=cap/\base<=g/\g<w.heap.size/\Holds (Value.int .i64) w g 0 (toInts rs).toArray:=by
 have hl:rs.length=n:=by have:=h.1;simpa [zM] using this
 have hpos:0<rs.length:=List.length_pos_iff.2 hne;rcases h.2 with ⟨_,h2⟩ |⟨g,cap,cur,h1,h2,h3,h4,h5,h6,h7⟩
 ·omega
 ·have hc:∀ t,t<n->cur[t]?=some (.int .i64 ((toInts rs).toArray[t]!)):=fun t ht=>by
   have e1:(cur.toList.take (n*1))[t]?=(zM rs)[t]?:=(by rw [h7]);rw [Qd (by omega)] at e1;rw [<-Qj,e1];rw [getElem!_pos _ t (by simp [toInts];omega)];simp [zM,toInts,List.getElem?_map,List.getElem?_eq_getElem (show t<rs.length by omega)]
  refine ⟨g,cap,by rw [h1];simp [toInts,hl],by simp [toInts];omega,h2,(yK.1 h3).1,fun t ht=>⟨?_,?_⟩⟩
  ·unfold World.cell?;rw [h3];simpa using hc t (by simpa [toInts,hl] using ht)
  ·unfold World.frozen?;rw [h3];simp
theorem zbT (h:w.ownsRow base 3 1 v n (zM rs))(hne:rs≠[]):∃ (g cap:Nat) (zs:List Int) (ps':List Nat),v = .slice (some ⟨g,0,none⟩) zs.length cap/\zs.length=rs.length/\zs.length<=cap/\base<=g/\g<w.heap.size/\Holds (Value.int .i64) w g 0 zs.toArray/\(sort ltInt zs.toArray).size=zs.length/\compactUpTo (sort ltInt zs.toArray) zs.length=toInts ps'/\ps'.Pairwise (· < ·)/\∀ q,q∈ps'↔q∈rs:=by
 obtain ⟨g,cap,h1,h2,h3,h4,h5⟩:=zbS h hne;obtain ⟨ps',e1,e2,e3⟩:=zbR rs;have hz:(sort ltInt (toInts rs).toArray).size=(toInts rs).length:=by rw [qZ,jZ]
 rw [hz] at e1;exact ⟨g,cap,_,ps',h1,by simp [toInts],h2,h3,h4,h5,hz,e1,e2,e3⟩
theorem J7 {g:Nat}{cs z:List Int}{ps:List Nat}(h:Holds (Value.int .i64) w g 0 (cs++z).toArray)(e:cs=toInts ps):∀ (j:Nat) a,ps[j]?=some a->w.cell? ⟨g,j,none⟩=some (.int .i64 (a:Nat)):=fun j a hj=>by
 obtain ⟨hl,rfl⟩:=yd.1 hj;have hl2:j<cs.length:=by rw [e];simpa [toInts] using hl
 have:=(h j (by simp;omega)).1;rw [jY] at this;rw [this,getElem!_pos _ j (by simp;omega)];subst e;have e3:(toInts ps++z)[j]'(by simp [toInts];omega)=((ps[j]:Nat):Int):=by rw [List.getElem_append_left hl2];simp [toInts]
 simp only [List.getElem_toArray];rw [e3]
end
section
open Go.RowKit Go.Sort Go.Lib
open Sm (Stp Tree)
set_option maxHeartbeats 4000000
set_option maxRecDepth 100000
structure St3 (w:World)(b:Nat)(x y z:Value):Prop where
 k0:w.cell? ⟨b,0,none⟩=some x
 k1:w.cell? ⟨b,1,none⟩=some y
 k2:w.cell? ⟨b,2,none⟩=some z
 f0:w.frozen? ⟨b,0,none⟩=false
 f1:w.frozen? ⟨b,1,none⟩=false
 f2:w.frozen? ⟨b,2,none⟩=false
variable (w)
theorem St3.new (hn:w.heap.size=n)(x y z:Value)(T:TypeId):St3 (w.alloc (.cells #[x,y,z] T)) n x y z:=
 ⟨zm w n hn _ T 0 _ rfl,zm w n hn _ T 1 _ rfl,zm w n hn _ T 2 _ rfl,zG w n hn _ T 0,zG w n hn _ T 1,zG w n hn _ T 2⟩
variable {w}
theorem St3.lt (h:St3 w b x y z):b<w.heap.size:=zE w _ h.k0
theorem St3.keep {P:Nat->Prop}{w w':World}{b:Nat}{x y z:Value}(h:St3 w b x y z)(k:ze P w w')(hn:¬P b):St3 w' b x y z:=
 ⟨zg k _ _ h.k0 hn,zg k _ _ h.k1 hn,zg k _ _ h.k2 hn,zP k _ h.lt h.f0 hn,zP k _ h.lt h.f1 hn,zP k _ h.lt h.f2 hn⟩
theorem St3.set0 (h:St3 w b x y z)(x':Value):St3 (w.setCell ⟨b,0,none⟩ x') b x' y z:=
 ⟨yY _ _ _ h.k0,(zF _ _ _ _ (by simp)).trans h.k1,(zF _ _ _ _ (by simp)).trans h.k2,(zk _ _ _ _).trans h.f0,(zk _ _ _ _).trans h.f1,(zk _ _ _ _).trans h.f2⟩
theorem St3.set1 (h:St3 w b x y z)(y':Value):St3 (w.setCell ⟨b,1,none⟩ y') b x y' z:=
 ⟨(zF _ _ _ _ (by simp)).trans h.k0,yY _ _ _ h.k1,(zF _ _ _ _ (by simp)).trans h.k2,(zk _ _ _ _).trans h.f0,(zk _ _ _ _).trans h.f1,(zk _ _ _ _).trans h.f2⟩
theorem St3.set2 (h:St3 w b x y z)(z':Value):St3 (w.setCell ⟨b,2,none⟩ z') b x y z':=
 ⟨(zF _ _ _ _ (by simp)).trans h.k0,(zF _ _ _ _ (by simp)).trans h.k1,yY _ _ _ h.k2,(zk _ _ _ _).trans h.f0,(zk _ _ _ _).trans h.f1,(zk _ _ _ _).trans h.f2⟩
theorem St3.young (h:St3 w b x y z)(o:Obj):St3 (w.alloc o) b x y z:=h.keep ((ze.refl (fun _=>False) w).alloc o) (fun f=>f)
theorem zbU (N:List Stp)(W:Int->Bool)(sv:Value)(s:Fnd.St)(c:Int)(A:Nat->Prop)(w:World)(hP:xi w A pb N st W)(hS:xI w sv s.ps)(hok:s.OK N) :
  Calls prog 131 #[.pointer (some ⟨pb,0,none⟩),stV sv s.b s.w,.int .i32 c] w fun x w'=>∃ sv',x = .returned (stV sv' (Fnd.aft N st W s c).b (Fnd.aft N st W s c).w)/\jf w' (fun g=>w.heap.size<=g) sv' (Fnd.aft N st W s c).ps/\Q8 w w':=by
 obtain ⟨i0,hi0,hz0,hz1,hz2⟩:=info_parts Tryz.infoInt;have HA:Hid (∀ rs,(∀ q,q∈rs↔Fnd.rch N s false (W c) q)->(0∈rs->Fnd.aft N st W s c=⟨false,false,[0]⟩)/\(0∉rs->∀ ps':List Nat,ps'.Pairwise (· < ·)->(∀ q,q∈ps'↔q∈Prg.xo N c rs++[st])->Fnd.aft N st W s c=⟨false,W c,ps'⟩)):=fun rs hr=>
  ⟨fun h0=>Fnd.aft_yes ((hr 0).1 h0),fun h0 ps' hu hp=>Fnd.aft_is hP.stl hP.fit hr h0 hu (fun q=>by rw [hp q];simp)⟩
 obtain ⟨b,wb,ps⟩:=s;obtain ⟨va,vc,rfl⟩:=hS.slice;have hlen:=hok.len;have hNl:=hP.len;have hlt:=zc hok.lt;simp only [] at hlen;have hst:=hP.c1;obtain ⟨sw,hsw,hset⟩:=hP.c2;obtain ⟨wa,wn,wc,rfl⟩:∃ a n c,sw = .slice a n c:=by
  obtain ⟨sv',sp,e,h1,_⟩:=hset;simp at e;subst e;rcases h1 with ⟨h1,_⟩ |⟨g,cap,h1,_⟩<;>exact ⟨_,_,_,h1⟩
 have HO0:Hid (Q8 w ((w.alloc (.cells #[.slice va ps.length vc,.bool b,.bool wb] 190)).alloc (.cells #[.slice none 0 0,.bool false,.bool false] 190))):=((ze.refl _ _).alloc _).alloc _;have HH:=zc (JY _ W c A _ (hset.keep (zb HO0) (fun _ _ f=>f)));have HPa:Hid (St3 ((w.alloc (.cells #[.slice va ps.length vc,.bool b,.bool wb] 190)).alloc (.cells #[.slice none 0 0,.bool false,.bool false] 190)) w.heap.size (.slice va ps.length vc) (.bool b) (.bool wb)):=(St3.new w _ rfl _ _ _ _).keep ((ze.refl (fun _=>False) _).alloc _) (fun f=>f);have HRe:Hid (St3 ((w.alloc (.cells #[.slice va ps.length vc,.bool b,.bool wb] 190)).alloc (.cells #[.slice none 0 0,.bool false,.bool false] 190)) (w.heap.size+1) (.slice none 0 0) (.bool false) (.bool false)):=St3.new _ _ (yX _ _) _ _ _ _;have hsw0:=zg (zb HO0) _ _ hsw (fun f=>f);have HP:=zc hP;have HS:=zc hS;unfold stV;generalize Fnd.aft N st W ⟨b,wb,ps⟩ c=T at HA ⊢;clear hP hS hok hset;generalize W c=wc' at HA HH;go_enter func131,ntmps131;go_wp2_with (go_at_call 134;refine (zb HH).mono ?_;rintro e w1 ⟨rfl,hO1⟩;refine zb ?_);refine zc ?_;have HO1:=zc ((zb HO0).trans hO1);obtain ⟨p0,p1,p2,_,_,_⟩:=(zb HPa).keep hO1 (fun f=>f);have HR1:=zc ((zb HRe).keep hO1 (fun f=>f));clear hO1 HPa HRe HH HO0 hsw0;go_wp2_with (first
  |(go_at_call 83;refine (YQ pb st N W _ ps b false wb wc' A _ ((zb HP).keep (zb HO1) (fun _ _ f=>f)) ((zb HS).keep (zb HO1)) (zb hlt) (by omega)).mono ?_;rintro e w2 ⟨rv,rs,rfl,ho2,hO2,hr1,hr2,hr3,hr4,hr5⟩;obtain ⟨ra,rn,rc,rfl⟩:=zy ho2;have HR2:=zc (xI.of ho2);have HO2:=zc ((zb HO1).trans hO2);have HRr:=zc ((zb HR1).keep hO2 (fun f=>f));have HQ:=zc (zb HA rs (Fnd.rch_of hr3 hr4 hr5));have HRL:=zc hr2;clear ho2 hO2 hr2 hr3 hr4 hr5 p0 p1 p2)
  |(go_at_call 85;refine zb ?_))
 refine zc ?_;have hH:Calls prog 85 #[.slice ra rn rc,.int .i64 0] w2 fun x w'=>x = .returned (.bool (decide (0∈rs)))/\Q8 w2 w':=YR _ rs 0 w2 (zb HR2) (by omega);by_cases h00:0∈rs
 ·rw [decide_eq_true h00] at hH;have hT:=(zb HQ).1 h00;subst hT;clear HQ h00 HA;refine hH.mono ?_;rintro e w3 ⟨rfl,hO3⟩;have HO3:=zc ((zb HO2).trans hO3);have hR3:=(zb HRr).keep hO3 (fun f=>f);have hl3:=hR3.lt;have s0:=hR3.set0 (.slice (some ⟨w3.heap.size,0,none⟩) 1 1);have s1:=s0.set1 (.bool false);have s2:=s1.set2 (.bool false);obtain ⟨q0,q1,q2,g0,g1,g2⟩:=hR3.young (.cells #[.int .i64 0] 3);obtain ⟨_,a1,_,_,b1,_⟩:=s0.young (.cells #[.int .i64 0] 3);obtain ⟨_,_,a2,_,_,b2⟩:=s1.young (.cells #[.int .i64 0] 3);obtain ⟨e0,e1,e2,_,_,_⟩:=s2.young (.cells #[.int .i64 0] 3);have HE:=zc (And.intro e0 (And.intro e1 e2));clear hO3 hH hR3 s0 s1 s2 e0 e1 e2;go_wp2_with fail;obtain ⟨e0,e1,e2⟩:=zb HE;refine bodyPost_ret (v:=.agg #[.slice (some ⟨w3.heap.size,0,none⟩) 1 1,.bool false,.bool false]) (by simp [results,results131,go_sem,e0,e1,e2]) rfl ?_;have hO9:Q8 w ((((w3.setCell ⟨w.heap.size+1,0,none⟩ (.slice (some ⟨w3.heap.size,0,none⟩) 1 1)).setCell ⟨w.heap.size+1,1,none⟩ (.bool false)).setCell ⟨w.heap.size+1,2,none⟩ (.bool false))):=by
   refine ze.setCell ?_ (Or.inr (by simp)) _;refine ze.setCell ?_ (Or.inr (by simp)) _;refine ze.setCell ?_ (Or.inr (by simp)) _;exact zb HO3
  exact ⟨_,rfl,jf.one _ _ (by simp) 0 _ (zb HO3).size,hO9.alloc _⟩
 ·rw [decide_eq_false h00] at hH;have HT:=zc ((zb HQ).2 h00);clear HQ h00 HA;refine hH.mono ?_;rintro e w3 ⟨rfl,hO3⟩;have HO3:=zc ((zb HO2).trans hO3);have HR3:=zc ((zb HR2).keep hO3);have HRr3:=zc ((zb HRr).keep hO3 (fun f=>f));have hst3:=zg (zb HO3) _ _ hst (fun f=>f);have HKall:Hid (∀ V,Q8 w3 V->Calls prog 86 #[.pointer (some ⟨pb,0,none⟩),.slice ra rn rc,.int .i32 c] V fun x w'=>∃ sv,x = .returned sv/\w'.ownsRow V.heap.size 3 1 sv (Prg.xo N c rs).length (zM (Prg.xo N c rs))/\Q8 V w'):=fun V hV=>YP pb st N W _ rs c A V ((zb HP).keep ((zb HO3).trans hV) (fun _ _ f=>f)) ((zb HR3).keep hV) (zb HRL) (by omega);have htl:=Prg.wV N c rs;clear hO3 hH HR2 hst hsw;generalize hts:Prg.xo N c rs=ts at HKall HT htl;clear hts;go_wp2_with fail;go_region_law (first
   |(refine jL rfl (.tmp 33) (.tmp 38) 27 rfl w3.heap.size 3 i0 (.int .i64 0) 1 8 underlying27 hi0 hz0 hz1 hz2 rfl (by decide) (.slice ta tn tc) _ (zM ts) (by simp [Act.eval]) (zn (zb HT4) (P:=fun _=>False) (by repeat (first |exact ze.refl _ _ |refine ze.alloc ?_ _ |refine ze.drew ?_ |refine ze.drewN ?_ _)) (fun _ _ f=>f)) _ 1 1 [.int .i64 (st:Nat)] (by simp [Act.eval];rfl) rfl (by first |exact cell_one_new _ _ _ |(intro j u9 hj;match j,hj with |0,hj=>simp at hj;subst hj;simp [Addr.add];exact hone)) (fun x hx=>by simp at hx;subst hx;rfl) (by decide) (by unfold maxLen;omega) (by omega) (by have:=(zb HO4).size;first |omega |(simp;omega)) ?_;intro v' w5 hown' hgrow hsep;have hK35:Q8 w3 w5:=ze.grown (by repeat (first |exact ze.refl _ _ |exact zb HO4 |refine ze.alloc ?_ _ |refine ze.drew ?_ |refine ze.drewN ?_ _)) hgrow (fun j hj=>Or.inr (zh (zb HT4) j hj).1);have HN5:Hid (w5.ownsRow w3.heap.size 3 1 v' (ts.length+1) (zM (ts++[st]))):=(by show World.ownsRow _ _ _ _ _ _ _;unfold zM;rw [X7];exact hown');have HK35:=zc hK35;obtain ⟨ya,yn,yc,rfl⟩:=zy hown';clear hown' hgrow hsep hK35)
   |(go_simp;go_wp2_with (go_at_call 86;refine (zb HKall _ (by repeat (first |exact ze.refl _ _ |refine ze.alloc ?_ _ |refine ze.drew ?_ |refine ze.drewN ?_ _))).mono ?_;rintro e w4 ⟨tv,rfl,ho4,hO4⟩;obtain ⟨ta,tn,tc,rfl⟩:=zy ho4;have HO4:Hid (Q8 w3 w4):=ze.trans (by repeat (first |exact ze.refl _ _ |refine ze.alloc ?_ _ |refine ze.drew ?_ |refine ze.drewN ?_ _)) hO4;have hst4:=zg (zb HO4) _ _ hst3 (fun f=>f);have HT4:=zc (xd ho4 (base':=w3.heap.size) (by simp));try (have hone:w4.cell? ⟨w3.heap.size,0,none⟩=some (.int .i64 (st:Nat)):=zg hO4 _ _ (zm _ _ rfl _ _ 0 _ rfl) (fun f=>f));clear ho4 hO4)))
  all_goals
   obtain ⟨g,cap,zs,ps',hge,hzr,hcap,hg1,hg2,hH5,hz,he,hu,hm⟩:=zbT (zb HN5) (by simp);injection hge with x1 x2 x3
   subst x1;subst x2;subst x3;have hT:=zb HT ps' hu hm;subst hT;have hR5:=(zb HRr3).keep (zb HK35) (fun f=>f);have hrg:w.heap.size+1≠g:=(by have:=(zb HRr3).lt;omega);have hzl:zs.length<=400:=(by rw [hzr];simp;omega);have HSo:=zc (sortI g yc _ w5 hH5 hg2 (by omega));have HZ:=zc hz;have HHe:=zc he;have HK5:=zc ((zb HO3).trans (zb HK35));have HR5:=zc hR5;have hwg:w.heap.size<=g:=(by have:=(zb HO3).size;omega);clear hH5 hu hm HT he HN5 hR5 HK35 HT4 HO4 HKall hz hzr;go_wp2_with (go_at_call 174;refine (zb HSo).mono ?_;rintro e w6 ⟨rfl,hO6,hH6⟩;refine zb ?_);refine zc ?_;have HO6:Hid (Q8 w w6):=(zb HK5).laterB hO6 (fun i hi=>by have h1:i=g:=hi;omega);have HR6:=zc ((zb HR5).keep hO6 (fun e=>hrg e));have hCo:=compactI g yc _ w6 hH6 (by rw [zb HZ];omega) (by rw [zb HZ];exact hcap);rw [zb HZ] at hCo;have HCo:=zc hCo;clear hCo hO6 hH6;go_wp2_with (go_at_call 175;refine (zb HCo).mono ?_;rintro e w7 ⟨rfl,hO7,hH7⟩;refine zb ?_);refine zc ?_;have HO7:Hid (Q8 w w7):=(zb HO6).laterB hO7 (fun i hi=>by have h1:i=g:=hi;omega);have hR7:=(zb HR6).keep hO7 (fun e=>hrg e);have he:=zb HHe;have hpl:(compactUpTo (sort ltInt zs.toArray) zs.length).length=ps'.length:=(by rw [he];simp [toInts]);have hkc:(compactUpTo (sort ltInt zs.toArray) zs.length).length<=zs.length:=(by have h9:=ZJ (sort ltInt zs.toArray);rw [zb HZ] at h9;exact h9);have HCells:=zc (J7 hH7 he);rw [hpl] at hkc ⊢;clear hO7 hH7 he hpl HHe;obtain ⟨q0,q1,q2,g0,g1,g2⟩:=id hR7;have s0:=hR7.set0 (.slice (some ⟨g,0,none⟩) ps'.length yc);have s1:=s0.set1 (.bool false);have s2:=s1.set2 (.bool wc');have HS2:=zc s2;obtain ⟨_,a1,_,_,b1,_⟩:=s0;obtain ⟨_,_,a2,_,_,b2⟩:=s1;clear s2 hR7;go_wp2_with fail;obtain ⟨e0,e1,e2,_,_,_⟩:=zb HS2;refine bodyPost_ret (v:=.agg #[.slice (some ⟨g,0,none⟩) ps'.length yc,.bool false,.bool wc']) (by simp [results,results131,go_sem,e0,e1,e2]) rfl ?_;refine ⟨_,rfl,⟨g,yc,rfl,by omega,hwg,fun j a hj=>?_⟩,?_⟩
   ·exact (zF _ _ _ _ (by first |(simp;done) |(simp;omega))).trans ((zF _ _ _ _ (by first |(simp;done) |(simp;omega))).trans ((zF _ _ _ _ (by first |(simp;done) |(simp;omega))).trans (zb HCells j a hj)))
   ·refine ze.setCell ?_ (Or.inr (by simp)) _;refine ze.setCell ?_ (Or.inr (by simp)) _;refine ze.setCell ?_ (Or.inr (by simp)) _;exact zb HO7
end
section
open Go.RowKit Go.Shelf Go.Lib
set_option maxHeartbeats 8000000
set_option maxRecDepth 100000
def kw:Go.Shelf.Ren:=⟨fun |176=>172 |249=>210 |288=>234 |283=>265 |284=>266 |285=>267 |286=>268 |129=>209 |317=>290 |318=>291 |319=>292 |320=>293 |337=>302 |338=>303 |n=>n,fun |37=>204 |2=>2 |3=>3 |53=>363 |4=>4 |9=>9 |171=>404 |0=>0 |173=>406 |212=>418 |51=>361 |5=>5 |20=>20 |213=>419 |46=>324 |232=>426 |233=>427 |n=>n,fun |17=>11 |18=>13 |19=>14 |n=>n⟩
theorem QQ:Go.Proofs.LaysM.n176 prog kw:={
 mixed:=by kernel_rfl
 f129:=func209.trans (congrArg some (by kernel_rfl))
 f176:=func172.trans (congrArg some (by kernel_rfl))
 f249:=func210.trans (congrArg some (by kernel_rfl))
 f283:=func265.trans (congrArg some (by kernel_rfl))
 f284:=func266.trans (congrArg some (by kernel_rfl))
 f285:=func267.trans (congrArg some (by kernel_rfl))
 f286:=func268.trans (congrArg some (by kernel_rfl))
 f288:=func234.trans (congrArg some (by kernel_rfl))
 f317:=func290.trans (congrArg some (by kernel_rfl))
 f318:=func291.trans (congrArg some (by kernel_rfl))
 f319:=func292.trans (congrArg some (by kernel_rfl))
 f320:=func293.trans (congrArg some (by kernel_rfl))
 f337:=func302.trans (congrArg some (by kernel_rfl))
 f338:=func303.trans (congrArg some (by kernel_rfl))
 t0:=underlying0
 a0:=Tryz.isAgg0
 z0:=Tryz.sizeOf0
 v0:=Tryz.zeroValue0
 t2:=underlying2
 a2:=Tryz.isAgg2
 z2:=Tryz.sizeOf2
 v2:=Tryz.zeroValue2
 t3:=underlying3
 a3:=Tryz.isAgg3
 z3:=Tryz.sizeOf3
 v3:=Tryz.zeroValue3
 t4:=underlying4
 a4:=Tryz.isAgg4
 z4:=Tryz.sizeOf4
 v4:=Tryz.zeroValue4
 t5:=underlying5
 a5:=Tryz.isAgg5
 z5:=Tryz.sizeOf5
 v5:=Tryz.zeroValue5
 t9:=underlying9
 a9:=Tryz.isAgg9
 z9:=Tryz.sizeOf9
 v9:=Tryz.zeroValue9
 t20:=underlying20
 a20:=Tryz.isAgg20
 z20:=Tryz.sizeOf20
 v20:=Tryz.zeroValue20
 t37:=underlying204
 a37:=Tryz.isAgg204
 z37:=Tryz.sizeOf204
 v37:=Tryz.zeroValue204
 t46:=underlying324
 a46:=Tryz.isAgg324
 z46:=Tryz.sizeOf324
 v46:=Tryz.zeroValue324
 t51:=underlying361
 a51:=Tryz.isAgg361
 z51:=Tryz.sizeOf361
 v51:=Tryz.zeroValue361
 t53:=underlying363
 a53:=Tryz.isAgg363
 z53:=Tryz.sizeOf363
 v53:=Tryz.zeroValue363
 t171:=underlying404
 a171:=Tryz.isAgg404
 z171:=Tryz.sizeOf404
 v171:=Tryz.zeroValue404
 t173:=underlying406
 a173:=Tryz.isAgg406
 z173:=Tryz.sizeOf406
 v173:=Tryz.zeroValue406
 t212:=underlying418
 a212:=Tryz.isAgg418
 z212:=Tryz.sizeOf418
 v212:=Tryz.zeroValue418
 t213:=underlying419
 a213:=Tryz.isAgg419
 z213:=Tryz.sizeOf419
 t232:=underlying426
 a232:=Tryz.isAgg426
 z232:=Tryz.sizeOf426
 v232:=Tryz.zeroValue426
 t233:=underlying427
 a233:=Tryz.isAgg427
 z233:=Tryz.sizeOf427
 v233:=Tryz.zeroValue427
 g17:=by kernel_rfl
 g18:=by kernel_rfl
 g19:=by kernel_rfl
 i0:=by kernel_rfl
 i2:=by kernel_rfl
 i3:=by kernel_rfl
 i4:=by kernel_rfl
 i5:=by kernel_rfl
 i9:=by kernel_rfl
 i20:=by kernel_rfl
 i37:=by kernel_rfl
 i46:=by kernel_rfl
 i51:=by kernel_rfl
 i53:=by kernel_rfl
 i171:=by kernel_rfl
 i173:=by kernel_rfl
 i212:=by kernel_rfl
 i232:=by kernel_rfl
 i233:=by kernel_rfl
 m17:=by kernel_rfl
 m18:=by kernel_rfl
 m19:=by kernel_rfl }
theorem Tryz.infoByte:(prog.info? 5).map (fun i=>(i.zero,i.size,i.bytes))=some (some (.int .u8 0),1,1):=by kernel_rfl
namespace Fnd
theorem Q5:∀ (ps:List Nat) (p:Nat),keyP (ps++[p])=keyP ps++([32]++decDigits p)
 | [],p=>by simp [keyP]
 |q :: r,p=>by simp [keyP,Q5 r p]
theorem keyP_take {n:Nat}(h:n<ps.length):keyP (ps.take (n+1))=keyP (ps.take n)++([32]++decDigits ps[n]):=by
 rw [vG,zD h];exact Q5 _ _
def keyH (b w:Bool):List UInt8:=(if b then [94] else [])++(if w then [119] else [])
theorem keyS_eq (b w:Bool)(ps:List Nat):keyS b w ps=keyH b w++keyP ps:=rfl
theorem dec_len {p:Nat}(h:p<1000):(decDigits p).length<=3:=by
 by_cases h1:p<10
 ·rw [qx h1];simp
 ·rw [ku h1];by_cases h2:p / 10<10
  ·rw [qx h2];simp
  ·rw [ku h2,qx (by omega)];simp
theorem keyP_pos (h:0<ps.length):0<(keyP ps).length:=by
 cases ps with
 |nil=>simp at h
 |cons p r=>simp [keyP]
end Fnd
theorem YC (a b:List UInt8):byteCells (a++b)=byteCells a++byteCells b:=by simp [byteCells]
def Buf (w:World)(B:Nat)(v:Value)(l:List UInt8):Prop:=w.ownsRow B 5 1 v l.length (byteCells l)
theorem Buf.slice {l:List UInt8}(h:Buf w B v l):∃ a n c,v = .slice a n c:=by
 rcases h.2 with ⟨rfl,_⟩ |⟨g,cap,cur,rfl,_⟩<;>exact ⟨_,_,_,rfl⟩
theorem Buf.appended {l m:List UInt8}(h:w.ownsRow B 5 1 v (l.length+m.length) (byteCells l++byteCells m)):Buf w B v (l++m):=by
 unfold Buf;rw [YC,yS];exact h
theorem ze.below2 {v v':World}(h:Q8 w v)(k:Below w.heap.size v v'):Q8 w v':=
 ⟨k.os.trans h.os,k.tape.trans h.tape,k.output.trans h.output,yZ h.size k.size,fun j hj hn=>(k.block j hj).trans (h.block j hj hn)⟩
theorem ze.belowB {v:World}(h:Q8 w v):Below w.heap.size w v:=⟨h.os,h.tape,h.output,h.size,fun k hk=>h.block k hk (fun f=>f)⟩
theorem jB (B n p : Nat) (hp : p ≤ 1000) (sv : Value) (xs : List Value) (w : World) (hown : w.ownsRow B 5 1 sv n xs) (hB : B ≤ w.heap.size) (hn : n + 21 ≤ 140737488355328) (htab : TabBelow prog B w "internal/strconv.uint64pow10" .u64 pow10Tab) :
  Calls prog 172 #[sv,.int .i64 (p:Nat),.int .i64 10] w fun e w'=>∃ v',e = .returned v'/\w'.ownsRow B 5 1 v' (n+(decDigits p).length) (xs++byteCells (decDigits p))/\Below B w w':=by
 have ht:kw.t 5=5:=rfl;have h:=Any.strconv_AppendInt_10 QQ B n (p:Nat) (by omega) (by omega) sv xs w (by rw [ht];exact hown) hB hn htab;rw [ht] at h;refine h.mono ?_;rintro e w' ⟨v',rfl,h1,h2,-⟩;rw [itoa_nonneg] at h1;exact ⟨v',rfl,h1,h2⟩
theorem key_any (sv : Value) (b wb : Bool) (ps : List Nat) (w : World) (hS : xI w sv ps) (h0 : 0 < ps.length) (hl : ps.length ≤ 301) (hb : ∀ p ∈ ps, p ≤ 301) (htab : TabIs prog w "internal/strconv.uint64pow10" .u64 pow10Tab) :
  Calls prog 129 #[.agg #[sv,.bool b,.bool wb]] w fun e w'=>e = .returned (.string ⟨(Fnd.keyS b wb ps).toArray⟩)/\Q8 w w':=by
 obtain ⟨i0,hi0,hz0,hz1,hz2⟩:=info_parts Tryz.infoByte;have HT0:=zc (tabBelow_of_tabIs htab);obtain ⟨va,vc,rfl⟩:=hS.slice;have HS:=zc hS;have HB:=zc hb;clear hS hb htab;rw [Fnd.keyS_eq];have hpp:=Fnd.keyP_pos h0;obtain ⟨W0,hW⟩:∃ V,V=w.alloc (.cells #[.slice va ps.length vc,.bool b,.bool wb] 190):=⟨_,rfl⟩
 obtain ⟨Kh,hKh⟩:∃ K,K=Fnd.keyH b wb:=⟨_,rfl⟩
 have HO0:Hid (Q8 w W0):=by rw [hW];exact (ze.refl _ _).alloc _
 have hW0:W0.heap.size=w.heap.size+1:=by rw [hW];exact yX _ _
 have HT : Hid (TabBelow prog (w.heap.size + 1) W0 "internal/strconv.uint64pow10" .u64 pow10Tab) := (by rw [← hW0]; exact zc (tabBelow_of_tabIs (zb HT0 _ (zb HO0).belowB)))
 have HC0:Hid (W0.cell? ⟨w.heap.size,0,none⟩=some (.slice va ps.length vc)/\W0.cell? ⟨w.heap.size,2,none⟩=some (.bool wb)):=by rw [hW];exact ⟨zm w _ rfl _ _ 0 _ rfl,zm w _ rfl _ _ 2 _ rfl⟩
 have hKl:Kh.length<=2:=by rw [hKh];cases b<;>cases wb<;>simp [Fnd.keyH]
 have HW:=zc hW;have HKh:=zc hKh;rw [<-hKh];clear hW hKh;cases b<;>cases wb
 all_goals
  go_enter func129,ntmps129
  first
   |(
     go_wp2_with (at_builtin;refine wpList_append_own _ rfl _ _ 204 rfl (w.heap.size+1) 5 i0 (.int .u8 0) 1 1 underlying204 hi0 hz0 hz1 hz2 rfl (by decide) _ _ _ rfl (qD _ _ _ _) _ 1 1 [.int .u8 94] rfl rfl (by first |exact cell_one_new _ _ _ |(intro j u9 hj;match j,hj with |0,hj=>simp at hj;subst hj;simp [Addr.add])) (fun x hx=>by simp at hx;subst hx;rfl) (by unfold maxLen;first |omega |(simp;done) |(simp;omega)) (by first |omega |(simp;done) |(simp;omega)) (by have:=hW0;have:=hW0;first |(simp;done) |(simp;omega)) ?_;intro v' w1 hown' hgrow hnil;refine zb ?_)
     refine zc ?_;have HO2:Hid (Q8 W0 w1):=(by rw [zb HW];exact ((ze.refl _ _).alloc _).grown hgrow (fun j hj=>by cases hj))
     have HB2:Hid (Buf w1 (w.heap.size+1) v' [94]):=hown';obtain ⟨xa,xn,xc,rfl⟩:=(zb HB2).slice;have d0:=zg (zb HO2) _ _ (zb HC0).1 (fun f=>f);have d2:=zg (zb HO2) _ _ (zb HC0).2 (fun f=>f);clear hown' hgrow hnil
     first
      |(
       go_wp2_with (at_builtin;refine wpList_append_own _ rfl _ _ 204 rfl (w.heap.size+1) 5 i0 (.int .u8 0) 1 1 underlying204 hi0 hz0 hz1 hz2 rfl (by decide) _ _ _ rfl (xR (zb HB2) _) _ 1 1 [.int .u8 119] rfl rfl (by first |exact cell_one_new _ _ _ |(intro j u9 hj;match j,hj with |0,hj=>simp at hj;subst hj;simp [Addr.add])) (fun x hx=>by simp at hx;subst hx;rfl) (by unfold maxLen;first |omega |(simp;done) |(simp;omega)) (by first |omega |(simp;done) |(simp;omega)) (by have:=hW0;have:=(zb HO2).size;first |(simp;done) |(simp;omega)) ?_;intro v' w2 hown' hgrow hnil;refine zb ?_)
       refine zc ?_;have HO1:Hid (Q8 W0 w2):=((zb HO2).alloc _).grown hgrow (fun j hj=>Or.inr (by rw [hW0];exact (zh (zb HB2) j hj).1));have HB1:Hid (Buf w2 (w.heap.size+1) v' Kh):=(by rw [zb HKh];exact Buf.appended (l:=[94]) (m:=[119]) hown')
       obtain ⟨xa2,xn2,xc2,rfl⟩:=(zb HB1).slice;have e0:=zg (zb HO1) _ _ (zb HC0).1 (fun f=>f);clear hown' hgrow hnil HO2 HB2 d0 d2;go_wp2_with fail)
      |(
       have HO1:=HO2
       have HB1:Hid (Buf w1 (w.heap.size+1) (.slice xa xn xc) Kh):=(by rw [zb HKh];exact HB2)
       clear HO2 HB2;go_wp2_with fail))
   |(
     go_wp2_with (at_builtin;refine wpList_append_own _ rfl _ _ 204 rfl (w.heap.size+1) 5 i0 (.int .u8 0) 1 1 underlying204 hi0 hz0 hz1 hz2 rfl (by decide) _ _ _ rfl (qD _ _ _ _) _ 1 1 [.int .u8 119] rfl rfl (by first |exact cell_one_new _ _ _ |(intro j u9 hj;match j,hj with |0,hj=>simp at hj;subst hj;simp [Addr.add])) (fun x hx=>by simp at hx;subst hx;rfl) (by unfold maxLen;first |omega |(simp;done) |(simp;omega)) (by first |omega |(simp;done) |(simp;omega)) (by have:=hW0;have:=hW0;first |(simp;done) |(simp;omega)) ?_;intro v' w1 hown' hgrow hnil;refine zb ?_)
     refine zc ?_;have HO2:Hid (Q8 W0 w1):=(by rw [zb HW];exact ((ze.refl _ _).alloc _).grown hgrow (fun j hj=>by cases hj))
     have HB2:Hid (Buf w1 (w.heap.size+1) v' [119]):=hown';obtain ⟨xa,xn,xc,rfl⟩:=(zb HB2).slice;have d0:=zg (zb HO2) _ _ (zb HC0).1 (fun f=>f);have d2:=zg (zb HO2) _ _ (zb HC0).2 (fun f=>f);clear hown' hgrow hnil;have HO1:=HO2;have HB1:Hid (Buf w1 (w.heap.size+1) (.slice xa xn xc) Kh):=(by rw [zb HKh];exact HB2)
     clear HO2 HB2;go_wp2_with fail)
   |(
     have HB1:Hid (Buf (w.alloc (.cells #[.slice va ps.length vc,.bool false,.bool false] 190)) (w.heap.size+1) (.slice none 0 0) Kh):=(by rw [zb HKh];exact qD _ _ _ _)
     have HO1:Hid (Q8 W0 (w.alloc (.cells #[.slice va ps.length vc,.bool false,.bool false] 190))):=(by rw [<-zb HW];exact ze.refl _ _)
     go_wp2_with fail)
  go_loopw [3,19] (fun kv k wr=>∃ (n:Nat) (l:List UInt8),k = .int .i64 n/\n<=ps.length/\l.length<=2+22*n/\Hid (l=Kh++Fnd.keyP (ps.take n))/\Hid (Q8 W0 wr)/\Hid (Buf wr (w.heap.size+1) kv l)) (fun _ k _=>ps.length-(RowKit.intOf k).toNat)
  case atStart=>exact ⟨0,Kh,rfl,by omega,by have:=hKl;omega,by show _=_;simp [Fnd.keyP],HO1,HB1⟩
  case round=>
   clear HO1 HB1;obtain ⟨n,l,rfl,hn,hll,HE,HK,HF⟩:=hrel;obtain ⟨ka,kn,kc,rfl⟩:=(zb HF).slice;by_cases hlt:n<ps.length
   ·obtain ⟨g,rfl,hcap,hc1⟩:=(zb HS).get hlt;have hc2:=zg (zb HK) _ _ (zg (zb HO0) _ _ hc1 (fun f=>f)) (fun f=>f);clear hc1;have hp:=zb HB ps[n] (jG hlt);have HE1:Hid ((l++[32])++decDigits ps[n]=Kh++Fnd.keyP (ps.take (n+1))):=(by show _=_;rw [zb HE,Fnd.keyP_take hlt];simp);have b1:(0:Int)<=(n:Int):=(by omega);have b2:(n:Int)<(ps.length:Int):=(by omega);have hdl:=Fnd.dec_len (show ps[n]<1000 by omega);generalize ps[n]=p at *;go_wp2_with (at_builtin;refine wpList_append_own _ rfl _ _ 204 rfl (w.heap.size+1) 5 i0 (.int .u8 0) 1 1 underlying204 hi0 hz0 hz1 hz2 rfl (by decide) _ _ _ rfl (xR (zb HF) _) _ 1 1 [.int .u8 32] rfl rfl (by first |exact cell_one_new _ _ _ |(intro j u9 hj;match j,hj with |0,hj=>simp at hj;subst hj;simp [Addr.add])) (fun x hx=>by simp at hx;subst hx;rfl) (by unfold maxLen;first |omega |(simp;done) |(simp;omega)) (by first |omega |(simp;done) |(simp;omega)) (by have:=(zb HK).size;first |(simp;done) |(simp;omega)) ?_;intro v' w1 hown' hgrow hnil;refine zb ?_);refine zc ?_;have hK1:Q8 _ w1:=((zb HK).alloc _).grown hgrow (fun j hj=>Or.inr (by rw [hW0];exact (zh (zb HF) j hj).1));have hB1:Buf w1 (w.heap.size+1) v' (l++[32]):=Buf.appended hown';obtain ⟨xa,xn,xc,rfl⟩:=hB1.slice;have hB2:w1.ownsRow (w.heap.size+1) 5 1 (.slice xa xn xc) (l++[32]).length (byteCells (l++[32])):=hB1;have HAp:=zc (jB (w.heap.size+1) _ p (by omega) (.slice xa xn xc) _ w1 hB2 (by rw [<-hW0];exact hK1.size) (by simp;omega) ((zb HT).on (by rw [<-hW0];exact hK1.belowB)));have HK1:=zc hK1;clear hown' hgrow hnil hB1 hB2 hK1;go_wp2_with (go_at_call 172;refine (zb HAp).mono ?_;rintro e w2 ⟨v2,rfl,hown2,hbl2⟩;refine zb ?_);refine zc ?_;have HF2:=zc (Buf.appended hown2);have HK2:=zc ((zb HK1).below2 (by rw [hW0];exact hbl2));clear hown2 hbl2;obtain ⟨ya,yn,yc,rfl⟩:=(zb HF2).slice;go_wp2_with fail;exact ⟨⟨n+1,_,by go_num,by omega,by simp;omega,HE1,HK2,HF2⟩,by simp [RowKit.intOf];omega⟩
   ·obtain rfl:n=ps.length:=(by omega);rw [ZA] at HE;have hpos:0<l.length:=(by have:=zb HE;rw [this];simp;omega);rcases (zb HF).2 with ⟨-,h9⟩ |⟨g,cap,cur,e9,-,-,-,-,-,-⟩
    ·omega
    ·cases e9;have hcv:=run_convert_bytes_back (P:=prog) _ 204 9 5 ⟨g,0,none⟩ kc l underlying204 underlying5 underlying9 (fun j hj=>Zp (zb HF) (g:=g) rfl j _ (by simp [byteCells,hj]));go_wp2_with fail;go_ret;exact ⟨by rw [<-zb HE];rfl,(zb HO0).trans (zb HK)⟩
end
end Go.Proofs.YtcgleficedipkaaGreatDoor
