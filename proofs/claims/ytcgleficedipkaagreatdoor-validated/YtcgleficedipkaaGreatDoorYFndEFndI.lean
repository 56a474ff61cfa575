/- Program.Group: a character's group. -/
import Derived.Test.YtcgleficedipkaaGreatDoorYSxISxO
import Derived.Shelf.Sort.Plain
import Derived.Shelf.Strconv.AppendIntPublic10
import Derived.Laws.IdiomStrings
namespace Go.Proofs.YtcgleficedipkaaGreatDoor
open Option renaming none->U,some->I
open Value renaming int->M,slice->K,bool->C,pointer->Ua,string->Uc,tuple->Ue,agg->Uf
open IntKind renaming i64->J,i32->Ug
open Bool renaming false->Z,true->G
open _root_.Go.Proofs.Tryz renaming prog->V
open Go renaming World->E,Value->Y,Calls->Uh
open Go.RowKit renaming Hid->H
open Or renaming inr->O,inl->Q
open Ending renaming returned->R
open Obj renaming cells->Ub
open And renaming intro->Ur
open Go.Sort renaming Holds->Ut
open Prg Fnd
open _root_.Go.Proofs.Tryz
variable (a cap:Nat){w:World}{B base b:Nat}{v x y z:Value}(n pb h:Nat){ps rs:List Nat}(f:List Int)(d:Array Int)
section
open Go.RowKit
def CutsB (w:E)(A:Nat->Prop)(pb:Nat)(f:List Int):Prop:=∃v,w.cell? ⟨pb,3,U⟩=I v/\((v=K U 0 0/\f=[])\/∃g cap,v=K (I ⟨g,0,U⟩) f.length cap/\(0<f.length->A g)/\Ut (M Ug) w g 0 f.toArray)
theorem CutsAt.cutsB {A:Nat->Prop}{pb:Nat}{f:List Int}(h:CutsAt w A pb f):CutsB w (λg=>A g/\g<w.heap.size) pb f:=by obtain⟨v,a,c|⟨g,cap,rfl,d,_,b⟩⟩:=h;exact⟨v,a,Q c⟩;exact⟨_,a,O ⟨g,cap,rfl,λe=>⟨d,zgF w _ (b 0 (by simpa using e)).1⟩,b⟩⟩
theorem CutsB.sl {A:Nat->Prop}{pb:Nat}{f:List Int}(h:CutsB w A pb f):∃a n c,w.cell? ⟨pb,3,U⟩=I (K a n c)/\CutSl w (K a n c) f:=by obtain⟨v,b,⟨rfl,e⟩|⟨g,cap,rfl,l,i⟩⟩:=h;exact⟨_,_,_,b,Q ⟨rfl,e⟩⟩;refine⟨_,_,_,b,O ⟨g,cap,rfl,λj x k=>?_⟩⟩;obtain⟨d,rfl⟩:=zgG.1 k;have:=(i j (by simpa using d)).1;rw[zg6] at this;rw[this,getElem!_pos _ j (by simpa using d)];simp
theorem CutsB.keep {P A:Nat->Prop}{w l:E}{pb:Nat}{f:List Int}(h:CutsB w A pb f)(k:zf P w l)(a:∀g,A g->¬P g)(j:A pb):CutsB l A pb f:=by obtain⟨v,d,m|⟨g,cap,rfl,e,c⟩⟩:=h;exact⟨v,zg k _ _ d (a _ j),Q m⟩;refine⟨_,zg k _ _ d (a _ j),O ⟨g,cap,rfl,e,λt b=>?_⟩⟩;have n:g<w.heap.size:=zgF w _ (c t b).1;have i:A g:=e (by have:t<f.length:=(by simpa using b);omega);exact⟨zg k _ _ (c t b).1 (a _ i),zo k _ n (c t b).2 (a _ i)⟩
theorem zfl (c:Int)(A:Nat->Prop)(w:E)(h:CutsB w A pb f)(g:f.Pairwise (· < ·))(o:∀x∈f,0<=x/\x<=1114112):Uh V 130 #[Ua (I ⟨pb,0,U⟩),M Ug c] w λe y=>e=R (M J (grp f c:Nat))/\y=w:=by
 have u:f.length<=1114113:=by have:=zbb f 0 g o oa;omega
 obtain⟨a,n,k,z,p⟩:=h.sl;have q:=ze (bs_any _ f c w p g u);have HG:H (∀(i:Nat),(∀(j:Nat) x,f[j]?=I x->(j<i↔x<c))->i<=f.length->grp f c=if f[i]?=I c then i+1 else i):=λi r s=>grp_at g r s;clear h g o p;generalize v:grp f c=B at HG ⊢;clear v;go_enter func130,ntmps130;go_wp2_with(go_at_call 173;refine zb ?_);refine ze ?_;refine q.mono ?_;rintro e F ⟨i,rfl,t,m,rfl⟩;have b:=zb HG i m t;by_cases d:f[i]?=I c
 .rw[IN d] at b;rw[decide_eq_true d];have l:=ze b;clear b m d;go_wp2_with fail;go_ret;exact⟨by rw[zb l];rfl,rfl⟩
 rw[iN d] at b;rw[decide_eq_false d];have l:=ze b;clear b m d;go_wp2_with fail;go_ret;exact⟨by rw[zb l];rfl,rfl⟩
open Sm (Stp Tree)
def kK (w:E)(A:Nat->Prop)(v:Y)(ps:List Nat):Prop:=∃g cap,v=K (I ⟨g,0,U⟩) ps.length cap/\ps.length<=cap/\A g/\∀(j:Nat) a,ps[j]?=I a->w.cell? ⟨g,j,U⟩=I (M J (a:Nat))
theorem kK.keep {P A:Nat->Prop}{w c:E}{v:Y}{ps:List Nat}(h:kK w A v ps)(k:zf P w c)(l:∀g,A g->¬P g):kK c A v ps:=by obtain⟨g,cap,d,e,b,f⟩:=h;exact⟨g,cap,d,e,b,λj a i=>zg k _ _ (f j a i) (l g b)⟩
theorem kK.mono {A B:Nat->Prop}{w:E}{v:Y}{ps:List Nat}(h:kK w A v ps)(e:∀g,A g->B g):kK w B v ps:=by obtain⟨g,cap,a,b,c,d⟩:=h;exact⟨g,cap,a,b,e g c,d⟩
theorem kK.int {A:Nat->Prop}{w:E}{v:Y}{ps:List Nat}(h:kK w A v ps):kt w v ps:=by obtain⟨g,cap,a,b,d,c⟩:=h;exact O ⟨g,cap,a,b,c⟩
theorem kK.slice {A:Nat->Prop}{w:E}{v:Y}{ps:List Nat}(h:kK w A v ps):∃a c,v=K a ps.length c:=h.int.slice
variable (w)
theorem kK.one (e:w.heap.size=n)(p:Nat)(T:TypeId){A:Nat->Prop}(c:A n):kK (w.alloc (Ub #[M J (p:Nat)] T)) A (K (I ⟨n,0,U⟩) 1 1) [p]:=
 ⟨n,1,rfl,ov,c,λj a b=>by
  have d:j=0:=by have:=(zgG.1 b).1;simp at this;omega
  subst d;simp at b;subst b;exact zm _ _ e _ _ 0 _ rfl⟩
theorem qN (o:Obj):(w.alloc o).heap.size=w.heap.size+1:=by unfold World.alloc;exact Array.size_push _
def stV (a:Y)(b wb:Bool):Y:=Uf #[a,C b,C wb]
theorem zfm (N:List Stp)(W:Int->Bool)(A:Nat->Prop)(w:E)(b:kr w A pb N h W):Uh V 79 #[Ua (I ⟨pb,0,U⟩)] w λx d=>∃c,x=R (stV c G Z)/\kK d (λg=>w.heap.size<=g) c [h]/\ziE w d:=by have a:=b.c1;have e:(w.alloc (Ub #[K U 0 0,C Z,C Z] 190)).cell? ⟨pb,1,U⟩=I (M J (h:Nat)):=zg ((zf.refl (λ_=>False) w).alloc _) _ _ a id;unfold stV;clear b a;go_enter func79,ntmps79;go_wp2_with fail;refine bodyPost_ret (v:=Uf #[K (I ⟨w.heap.size+1,0,U⟩) 1 1,C G,C Z]) (by simp[results,results79,go_sem]) rfl ?_;refine⟨_,rfl,kK.one _ _ (qN _ _) h _ oa,((zf.refl _ _).alloc _).alloc _⟩
theorem Kx (N:List Stp)(W:Int->Bool)(o:Y)(s:Fnd.St)(A:Nat->Prop)(w:E)(c:kr w A pb N h W)(d:kt w o s.ps)(i:s.OK N):Uh V 82 #[Ua (I ⟨pb,0,U⟩),stV o s.b s.w] w λx P=>∃r,x=R (C r)/\(r=G↔Fnd.hit N s)/\ziE w P:=by
 obtain⟨b,p,ps⟩:=s;obtain⟨F,L,rfl⟩:=d.slice;have z:=i.len;have S:=c.len;have a:H (ziE w (w.alloc (Ub #[K F ps.length L,C b,C p] 190))):=(zf.refl _ _).alloc _;have v:=ze (V5 pb h N W _ ps b G p Z A _ (c.keep a (λ_ _ f=>f)) (d.keep a) i.lt (by simp at z;omega));unfold stV;clear c d i;go_enter func82,ntmps82;go_wp2_with(first
  |(go_at_call 83;refine v.mono ?_;rintro e w1 ⟨rv,rs,rfl,g,j,T,B,l,m,n⟩;obtain⟨X,rn,rc,rfl⟩:=zr g;have y:=ze (kt.of g);have q:=ze (a.trans j);have u:=ze (rch_of l m n);clear g j B l m n)
  |(go_at_call 85;refine(V6 _ rs 0 _ y oa).mono ?_;rintro e w2 ⟨rfl,k⟩;have t:=ze (q.trans k);clear k))
 go_ret;exact⟨_,rfl,by rw[decide_eq_true_iff];exact zb u 0,t⟩
end
section
open Go.RowKit Go.Shelf Go.Lib Go.Sort
def Q5:Go.Shelf.Ren:=⟨fun|43=>175|n=>n,fun|22=>27|23=>3|3=>3|4=>4|0=>0|n=>n,fun|n=>n⟩
theorem WX:Go.Proofs.SlLaysE.n43 V Q5:={
 mixed:=om
 f43:=⟨Tryz.f175.name,od,func175.trans (congrArg I om)⟩
 t0:=underlying0
 a0:=Tryz.isAgg0
 z0:=Tryz.sizeOf0
 v0:=Tryz.zeroValue0
 t3:=underlying3
 a3:=Tryz.isAgg3
 z3:=Tryz.sizeOf3
 v3:=Tryz.zeroValue3
 t4:=underlying4
 a4:=Tryz.isAgg4
 z4:=Tryz.sizeOf4
 v4:=Tryz.zeroValue4
 t22:=underlying27
 a22:=Tryz.isAgg27
 z22:=Tryz.sizeOf27
 v22:=Tryz.zeroValue27
 a23:=Tryz.isAgg3
 z23:=Tryz.sizeOf3 }
def Vx:Go.Shelf.Ren:=⟨fun|189=>174|125=>169|257=>212|128=>208|129=>209|294=>235|295=>236|296=>237|297=>238|298=>239|299=>240|216=>241|300=>242|301=>243|328=>269|329=>230|330=>231|331=>270|332=>271|215=>272|343=>294|n=>n,fun|28=>27|3=>3|46=>324|0=>0|51=>361|53=>363|4=>4|183=>355|182=>354|131=>32|5=>5|9=>9|218=>375|222=>379|228=>402|229=>299|n=>n,fun|n=>n⟩
theorem zfn:Go.Proofs.Lays.n189 V Vx:={
 mixed:=om
 f125:=func169.trans (congrArg I om)
 f128:=func208.trans (congrArg I om)
 f129:=func209.trans (congrArg I om)
 f189:=func174.trans (congrArg I om)
 f215:=func272.trans (congrArg I om)
 f216:=func241.trans (congrArg I om)
 f257:=func212.trans (congrArg I om)
 f294:=func235.trans (congrArg I om)
 f295:=func236.trans (congrArg I om)
 f296:=func237.trans (congrArg I om)
 f297:=func238.trans (congrArg I om)
 f298:=func239.trans (congrArg I om)
 f299:=func240.trans (congrArg I om)
 f300:=func242.trans (congrArg I om)
 f301:=func243.trans (congrArg I om)
 f328:=func269.trans (congrArg I om)
 f329:=func230.trans (congrArg I om)
 f330:=func231.trans (congrArg I om)
 f331:=func270.trans (congrArg I om)
 f332:=func271.trans (congrArg I om)
 f343:=func294.trans (congrArg I om)
 t0:=underlying0
 a0:=Tryz.isAgg0
 z0:=Tryz.sizeOf0
 v0:=Tryz.zeroValue0
 t3:=underlying3
 a3:=Tryz.isAgg3
 z3:=Tryz.sizeOf3
 v3:=Tryz.zeroValue3
 t4:=underlying4
 a4:=Tryz.isAgg4
 z4:=Tryz.sizeOf4
 v4:=Tryz.zeroValue4
 t5:=underlying5
 a5:=Tryz.isAgg5
 z5:=Tryz.sizeOf5
 v5:=Tryz.zeroValue5
 t9:=underlying9
 a9:=Tryz.isAgg9
 z9:=Tryz.sizeOf9
 v9:=Tryz.zeroValue9
 t28:=underlying27
 a28:=Tryz.isAgg27
 z28:=Tryz.sizeOf27
 v28:=Tryz.zeroValue27
 t46:=underlying324
 a46:=Tryz.isAgg324
 z46:=Tryz.sizeOf324
 v46:=Tryz.zeroValue324
 t51:=underlying361
 a51:=Tryz.isAgg361
 z51:=Tryz.sizeOf361
 v51:=Tryz.zeroValue361
 t53:=underlying363
 a53:=Tryz.isAgg363
 z53:=Tryz.sizeOf363
 v53:=Tryz.zeroValue363
 t131:=underlying32
 a131:=Tryz.isAgg32
 z131:=Tryz.sizeOf32
 v131:=Tryz.zeroValue32
 t182:=underlying354
 a182:=Tryz.isAgg354
 z182:=Tryz.sizeOf354
 v182:=Tryz.zeroValue354
 t183:=underlying355
 a183:=Tryz.isAgg355
 z183:=Tryz.sizeOf355
 v183:=Tryz.zeroValue355
 t218:=underlying375
 a218:=Tryz.isAgg375
 z218:=Tryz.sizeOf375
 v218:=Tryz.zeroValue375
 t222:=underlying379
 a222:=Tryz.isAgg379
 z222:=Tryz.sizeOf379
 v222:=Tryz.zeroValue379
 t228:=underlying402
 a228:=Tryz.isAgg402
 z228:=Tryz.sizeOf402
 v228:=Tryz.zeroValue402
 t229:=underlying299
 a229:=Tryz.isAgg299
 z229:=Tryz.sizeOf299
 v229:=Tryz.zeroValue299 }
theorem Qn {a q:Nat}{d:Array Int}:zf (zt a) w (putRow (M J) (Sort.ahead w q) a 0 d):=by refine⟨rfl,rfl,rfl,ov,λk e b=>?_⟩;have c:k≠a:=b;unfold putRow mapBlock Sort.ahead;simp only[zic,Ne.symm c,if_false]
theorem zf.grow {P:Nat->Prop}{w v:E}(h:zf P w v)(os:Array Obj):zf P w (Sort.grow v os):=
 ⟨h.os,h.tape,h.output,by rw[Sort.size_grow];have:=h.size;omega,λj a b=>(Sort.heap_grow_old v os (zgJ a h.size)).trans (h.block j a b)⟩
theorem sortI (zs:List Int)(w:E)(h:Holds (M J) w a 0 zs.toArray)(c:a<w.heap.size)(i:zs.length<1099511627776):Uh V 174 #[K (I ⟨a,0,U⟩) zs.length cap] w λe b=>e=R (Ue #[])/\zf (zt a) w b/\Holds (M J) b a 0 (sort ltInt zs.toArray):=by
 refine(Any.slices_Sort_int zfn a 0 cap zs w h c oa).mono ?_;rintro e b ⟨rfl,n,g,rfl⟩;have f:=sortInt zs;have d:sort ltInt zs.toArray=(zs.mergeSort λx y=>decide (x<=y)).toArray:=by rw[<-f]
 refine⟨rfl,Qn.grow g,?_⟩;rw[d];refine holds_grow _ _ _ _ _ _ (by simpa using c) ?_;exact holds_putRow _ _ a 0 zs.toArray _ (holds_ahead _ w n a 0 _ h) ov
theorem compactI (w:E)(h:Holds (M J) w a 0 d)(f:d.size<1099511627776)(c:d.size<=cap):Uh V 175 #[K (I ⟨a,0,U⟩) d.size cap] w λe b=>e=R (K (I ⟨a,0,U⟩) (compactUpTo d d.size).length cap)/\zf (zt a) w b/\Holds (M J) b a 0 (compactUpTo d d.size++List.replicate (d.size-(compactUpTo d d.size).length) 0).toArray:=by refine(AnyE.slices_Compact WX (M J) (λ_=>rfl) (EqlAt.intD _ _ _) (NeqAt.intD _ _ _) 0 (λw=>om) a 0 cap d w h oa c).mono ?_;rintro e b ⟨rfl,q,rfl⟩;exact⟨rfl,Qn,holds_putRow _ _ a 0 d _ (holds_ahead _ w q a 0 d h) (by have:=X7 d;simp;omega)⟩
def toInts (rs:List Nat):List Int:=rs.map (λa:Nat=>(a:Int))
theorem zfo (rs:List Nat):∃ps:List Nat,compactUpTo (sort ltInt (toInts rs).toArray) (sort ltInt (toInts rs).toArray).size=toInts ps/\ps.Pairwise (· < ·)/\(∀q,q∈ps↔q∈rs):=by
 obtain⟨i,c⟩:=QT (toInts rs).toArray;generalize compactUpTo (sort ltInt (toInts rs).toArray) (sort ltInt (toInts rs).toArray).size=f at i c;have g:∀x∈f,∃a:Nat,a∈rs/\x=a:=λx h=>by have:=(c x).1 h;simp[toInts] at this;obtain⟨a,d,e⟩:=this;exact⟨a,d,e.symm⟩
 have k:toInts (f.map Int.toNat)=f:=by
  unfold toInts;rw[List.map_map]
  conv=>rhs;rw[<-List.map_id f]
  exact List.map_congr_left (λx h=>by obtain⟨a,_,rfl⟩:=g x h;simp)
 refine⟨f.map Int.toNat,k.symm,?_,λq=>?_⟩;rw[List.pairwise_map];refine List.Pairwise.imp_of_mem (λ{a b} d j m=>?_) i;obtain⟨x,_,rfl⟩:=g a d;obtain⟨y,_,rfl⟩:=g b j;simp;omega;rw[zhF];constructor
 grind
 intro l;exact⟨(q:Int),(c _).2 (by simp[toInts];exact⟨q,l,rfl⟩),ov⟩
variable {n}
theorem zfp (h:w.ownsRow base 3 1 v n (yI rs))(l:rs≠[]):∃g cap,v=K (I ⟨g,0,U⟩) (toInts rs).length cap/\(toInts rs).length<=cap/\base<=g/\g<w.heap.size/\Holds (M J) w g 0 (toInts rs).toArray:=by
 have e:rs.length=n:=by have:=h.1;simpa [yI] using this
 have q:0<rs.length:=List.length_pos_iff.2 l;rcases h.2 with⟨_,d⟩|⟨g,cap,b,i,d,a,m,o,p,j⟩;omega;have k:∀t,t<n->b[t]?=I (M J ((toInts rs).toArray[t]!)):=λt f=>by have c:(b.toList.take (n*1))[t]?=(yI rs)[t]?:=(by rw[j]);rw[zhQ oa] at c;rw[<-Array.getElem?_toList,c];rw[getElem!_pos _ t (by simp[toInts];omega)];simp[yI,toInts,List.getElem?_map,List.getElem?_eq_getElem (show t<rs.length by omega)]
 refine⟨g,cap,by rw[i];simp[toInts,e],by simp[toInts];omega,d,(zgM.1 a).1,λt f=>⟨?_,?_⟩⟩;unfold World.cell?;rw[a];simpa using k t (by simpa [toInts,e] using f);unfold World.frozen?;rw[a];simp
theorem zfq (h:w.ownsRow base 3 1 v n (yI rs))(m:rs≠[]):∃(g cap:Nat) (zs:List Int) (a:List Nat),v=K (I ⟨g,0,U⟩) zs.length cap/\zs.length=rs.length/\zs.length<=cap/\base<=g/\g<w.heap.size/\Holds (M J) w g 0 zs.toArray/\(sort ltInt zs.toArray).size=zs.length/\compactUpTo (sort ltInt zs.toArray) zs.length=toInts a/\a.Pairwise (· < ·)/\∀q,q∈a↔q∈rs:=by
 obtain⟨g,cap,f,i,j,k,l⟩:=zfp h m;obtain⟨a,b,d,e⟩:=zfo rs;have c:(sort ltInt (toInts rs).toArray).size=(toInts rs).length:=by rw[jY,zhg]
 rw[c] at b;exact⟨g,cap,_,a,f,by simp[toInts],i,j,k,l,c,b,d,e⟩
theorem WY {g:Nat}{f z:List Int}{ps:List Nat}(h:Holds (M J) w g 0 (f++z).toArray)(e:f=toInts ps):∀(j:Nat) a,ps[j]?=I a->w.cell? ⟨g,j,U⟩=I (M J (a:Nat)):=λj a c=>by
 obtain⟨d,rfl⟩:=zgG.1 c;have i:j<f.length:=by rw[e];simpa [toInts] using d
 have:=(h j ou).1;rw[zg6] at this;rw[this,getElem!_pos _ j ou];subst e;have b:(toInts ps++z)[j]'(by simp[toInts];omega)=((ps[j]:Nat):Int):=by rw[List.getElem_append_left i];simp[toInts]
 simp only[zha];rw[b]
end
section
open Go.RowKit Go.Sort Go.Lib
open Sm (Stp Tree)
set_option maxHeartbeats 4000000
set_option maxRecDepth 100000
structure St3 (w:E)(b:Nat)(x y z:Y):Prop where
 k0:w.cell? ⟨b,0,U⟩=I x
 k1:w.cell? ⟨b,1,U⟩=I y
 k2:w.cell? ⟨b,2,U⟩=I z
 f0:w.frozen? ⟨b,0,U⟩=Z
 f1:w.frozen? ⟨b,1,U⟩=Z
 f2:w.frozen? ⟨b,2,U⟩=Z
variable (w)
theorem St3.new (a:w.heap.size=n)(x y z:Y)(T:TypeId):St3 (w.alloc (Ub #[x,y,z] T)) n x y z:=
 ⟨zm w n a _ T 0 _ rfl,zm w n a _ T 1 _ rfl,zm w n a _ T 2 _ rfl,zu w n a _ T 0,zu w n a _ T 1,zu w n a _ T 2⟩
variable {w}
theorem St3.lt (h:St3 w b x y z):b<w.heap.size:=zgF w _ h.k0
theorem St3.keep {P:Nat->Prop}{w c:E}{b:Nat}{x y z:Y}(h:St3 w b x y z)(k:zf P w c)(a:¬P b):St3 c b x y z:=
 ⟨zg k _ _ h.k0 a,zg k _ _ h.k1 a,zg k _ _ h.k2 a,zo k _ h.lt h.f0 a,zo k _ h.lt h.f1 a,zo k _ h.lt h.f2 a⟩
theorem St3.set0 (h:St3 w b x y z)(a:Y):St3 (w.setCell ⟨b,0,U⟩ a) b a y z:=
 ⟨zgL _ _ _ h.k0,(zgI _ _ _ _ ov).trans h.k1,(zgI _ _ _ _ ov).trans h.k2,(zk _ _ _ _).trans h.f0,(zk _ _ _ _).trans h.f1,(zk _ _ _ _).trans h.f2⟩
theorem St3.set1 (h:St3 w b x y z)(a:Y):St3 (w.setCell ⟨b,1,U⟩ a) b x a z:=
 ⟨(zgI _ _ _ _ ov).trans h.k0,zgL _ _ _ h.k1,(zgI _ _ _ _ ov).trans h.k2,(zk _ _ _ _).trans h.f0,(zk _ _ _ _).trans h.f1,(zk _ _ _ _).trans h.f2⟩
theorem St3.set2 (h:St3 w b x y z)(a:Y):St3 (w.setCell ⟨b,2,U⟩ a) b x y a:=
 ⟨(zgI _ _ _ _ ov).trans h.k0,(zgI _ _ _ _ ov).trans h.k1,zgL _ _ _ h.k2,(zk _ _ _ _).trans h.f0,(zk _ _ _ _).trans h.f1,(zk _ _ _ _).trans h.f2⟩
theorem St3.young (h:St3 w b x y z)(o:Obj):St3 (w.alloc o) b x y z:=h.keep ((zf.refl (λ_=>False) w).alloc o) id
theorem zfr (N:List Stp)(W:Int->Bool)(sv:Y)(s:Fnd.St)(c:Int)(A:Nat->Prop)(w:E)(p:kr w A pb N h W)(hS:kt w sv s.ps)(aL:s.OK N):Uh V 131 #[Ua (I ⟨pb,0,U⟩),stV sv s.b s.w,M Ug c] w λx r=>∃sv',x=R (stV sv' (Fnd.aft N h W s c).b (Fnd.aft N h W s c).w)/\kK r (λg=>w.heap.size<=g) sv' (Fnd.aft N h W s c).ps/\ziE w r:=by
 obtain⟨i0,bS,b4,b5,b6⟩:=info_parts Tryz.infoInt;have HA:H (∀rs,(∀q,q∈rs↔Fnd.rch N s Z (W c) q)->(0∈rs->Fnd.aft N h W s c=⟨Z,Z,[0]⟩)/\(0∉rs->∀k:List Nat,k.Pairwise (· < ·)->(∀q,q∈k↔q∈qg N c rs++[h])->Fnd.aft N h W s c=⟨Z,W c,k⟩)):=λrs hr=>
  ⟨λh0=>aft_yes ((hr 0).1 h0),λh0 k hu hp=>aft_is p.stl p.fit hr h0 hu (λq=>by rw[hp q];simp)⟩
 obtain⟨b,wb,ps⟩:=s;obtain⟨va,vc,rfl⟩:=hS.slice;have bU:=aL.len;have cn:=p.len;have bV:=ze aL.lt;simp only[] at bU;have bh:=p.c1;obtain⟨sw,bi,aN⟩:=p.c2;obtain⟨wa,wn,wc,rfl⟩:∃a n c,sw=K a n c:=by obtain⟨sv',sp,e,L,_⟩:=aN;simp at e;subst e;rcases L with⟨L,_⟩|⟨g,cap,L,_⟩<;>exact⟨_,_,_,L⟩
 have ah:H (ziE w ((w.alloc (Ub #[K va ps.length vc,C b,C wb] 190)).alloc (Ub #[K U 0 0,C Z,C Z] 190))):=((zf.refl _ _).alloc _).alloc _;have HH:=ze (zd5 _ W c A _ (aN.keep ah (λ_ _ f=>f)));have aW:H (St3 ((w.alloc (Ub #[K va ps.length vc,C b,C wb] 190)).alloc (Ub #[K U 0 0,C Z,C Z] 190)) w.heap.size (K va ps.length vc) (C b) (C wb)):=(St3.new w _ rfl _ _ _ _).keep ((zf.refl (λ_=>False) _).alloc _) id;have aX:H (St3 ((w.alloc (Ub #[K va ps.length vc,C b,C wb] 190)).alloc (Ub #[K U 0 0,C Z,C Z] 190)) (w.heap.size+1) (K U 0 0) (C Z) (C Z)):=St3.new _ _ (qN _ _) _ _ _ _;have b0:=zg ah _ _ bi id;have HP:=ze p;have HS:=ze hS;unfold stV;generalize Fnd.aft N h W ⟨b,wb,ps⟩ c=T at HA ⊢;clear p hS aL aN;generalize W c=aR at HA HH;go_enter func131,ntmps131;go_wp2_with(go_at_call 134;refine HH.mono ?_;rintro e w1 ⟨rfl,al⟩;refine zb ?_);refine ze ?_;have av:=ze (ah.trans al);obtain⟨p0,p1,p2,_,_,_⟩:=aW.keep al id;have bz:=ze (aX.keep al id);clear al aW aX HH ah b0;go_wp2_with(first
  |(go_at_call 83;refine(V5 pb h N W _ ps b Z wb aR A _ (HP.keep av (λ_ _ f=>f)) (HS.keep av) bV oa).mono ?_;rintro e w2 ⟨rv,rs,rfl,aJ,aB,cq,bb,bc,be,bf⟩;obtain⟨ra,rn,rc,rfl⟩:=zr aJ;have aw:=ze (kt.of aJ);have aU:=ze (av.trans aB);have aY:=ze (bz.keep aB id);have HQ:=ze (zb HA rs (rch_of bc be bf));have bD:=ze bb;clear aJ aB bb bc be bf p0 p1 p2)
  |(go_at_call 85;refine zb ?_))
 refine ze ?_;have S:Uh V 85 #[K ra rn rc,M J 0] w2 λx r=>x=R (C (decide (0∈rs)))/\ziE w2 r:=V6 _ rs 0 w2 aw oa;by_cases F:0∈rs
 .rw[decide_eq_true F] at S;have hT:=HQ.1 F;subst hT;clear HQ F HA;refine S.mono ?_;rintro e d ⟨rfl,l⟩;have o:=ze (aU.trans l);have am:=aY.keep l id;have cp:=am.lt;have s0:=am.set0 (K (I ⟨d.heap.size,0,U⟩) 1 1);have s1:=s0.set1 (C Z);have s2:=s1.set2 (C Z);obtain⟨q0,q1,q2,g0,g1,g2⟩:=am.young (Ub #[M J 0] 3);obtain⟨_,ab,_,_,ad,_⟩:=s0.young (Ub #[M J 0] 3);obtain⟨_,_,ac,_,_,aa⟩:=s1.young (Ub #[M J 0] 3);obtain⟨y,z,B,_,_,_⟩:=s2.young (Ub #[M J 0] 3);have HE:=ze (Ur y (Ur z B));clear l S am s0 s1 s2 y z B;go_wp2_with fail;obtain⟨y,z,B⟩:=zb HE;refine bodyPost_ret (v:=Uf #[K (I ⟨d.heap.size,0,U⟩) 1 1,C Z,C Z]) (by simp[results,results131,go_sem,y,z,B]) rfl ?_;have bO:ziE w ((((d.setCell ⟨w.heap.size+1,0,U⟩ (K (I ⟨d.heap.size,0,U⟩) 1 1)).setCell ⟨w.heap.size+1,1,U⟩ (C Z)).setCell ⟨w.heap.size+1,2,U⟩ (C Z))):=by refine zf.setCell ?_ (Or.inr ov) _;refine zf.setCell ?_ (Or.inr ov) _;refine zf.setCell ?_ (Or.inr ov) _;exact o
  exact⟨_,rfl,kK.one _ _ ov 0 _ o.size,bO.alloc _⟩
 rw[decide_eq_false F] at S;have HT:=ze (HQ.2 F);clear HQ F HA;refine S.mono ?_;rintro e d ⟨rfl,l⟩;have o:=ze (aU.trans l);have bA:=ze (aw.keep l);have aZ:=ze (aY.keep l id);have bZ:=zg o _ _ bh id;have au:H (∀u,ziE d u->Uh V 86 #[Ua (I ⟨pb,0,U⟩),K ra rn rc,M Ug c] u λx r=>∃sv,x=R sv/\r.ownsRow u.heap.size 3 1 sv (qg N c rs).length (yI (qg N c rs))/\ziE u r):=λu hV=>zfI pb h N W _ rs c A u (HP.keep (o.trans hV) (λ_ _ f=>f)) (bA.keep hV) bD oa;have b1:=V8 N c rs;clear l S aw bh bi;generalize b2:qg N c rs=ts at au HT b1;clear b2;go_wp2_with fail;go_region_law(first
  |(refine qX rfl (.tmp 33) (.tmp 38) 27 rfl d.heap.size 3 i0 (M J 0) 1 8 underlying27 bS b4 b5 b6 rfl od (K ta tn tc) _ (yI ts) (by simp[Act.eval]) (zl ay (P:=λ_=>False) (by repeat (first|exact zf.refl _ _|refine zf.alloc ?_ _|refine zf.drew ?_|refine zf.drewN ?_ _)) (λ_ _ f=>f)) _ 1 1 [M J (h:Nat)] (by simp[Act.eval];rfl) rfl (by first|exact cell_one_new _ _ _|(intro j u9 m;match j,m with|0,m=>simp at m;subst m;simp[Addr.add];exact bW)) (λx hx=>by simp at hx;subst hx;rfl) od (by unfold maxLen;omega) oa (by have:=ai.size;first|omega|(simp;omega)) ?_;intro v' w5 aM a7 bY;have a4:ziE d w5:=zf.grown (by repeat (first|exact zf.refl _ _|exact ai|refine zf.alloc ?_ _|refine zf.drew ?_|refine zf.drewN ?_ _)) a7 (λj m=>Or.inr (zh ay j m).1);have aT:H (w5.ownsRow d.heap.size 3 1 v' (ts.length+1) (yI (ts++[h]))):=(by show World.ownsRow _ _ _ _ _ _ _;unfold yI;rw[zhO];exact aM);have ar:=ze a4;obtain⟨ya,yn,yc,rfl⟩:=zr aM;clear aM a7 bY a4)
  |(go_simp;go_wp2_with(go_at_call 86;refine(zb au _ (by repeat (first|exact zf.refl _ _|refine zf.alloc ?_ _|refine zf.drew ?_|refine zf.drewN ?_ _))).mono ?_;rintro e w4 ⟨tv,rfl,aK,aC⟩;obtain⟨ta,tn,tc,rfl⟩:=zr aK;have ai:H (ziE d w4):=zf.trans (by repeat (first|exact zf.refl _ _|refine zf.alloc ?_ _|refine zf.drew ?_|refine zf.drewN ?_ _)) aC;have cr:=zg ai _ _ bZ id;have ay:=ze (zZ aK (base':=d.heap.size) ov);try (have bW:w4.cell? ⟨d.heap.size,0,U⟩=I (M J (h:Nat)):=zg aC _ _ (zm _ _ rfl _ _ 0 _ rfl) id);clear aK aC)))
 all_goals
  (obtain⟨g,cap,t,k,bR,bl,bP,co,bQ,a1,hz,X,hu,hm⟩:=zfq aT ov;injection bR with x1 x2 x3);subst x1;subst x2;subst x3;have hT:=zb HT k hu hm;subst hT;have a5:=aZ.keep ar id;have bg:w.heap.size+1≠g:=(by have:=aZ.lt;omega);have cs:t.length<=400:=(by rw[bl];simp;omega);have bG:=ze (sortI g yc _ w5 a1 bQ oa);have HZ:=ze hz;have aS:=ze X;have bv:=ze (o.trans ar);have bB:=ze a5;have b3:w.heap.size<=g:=(by have:=o.size;omega);clear a1 hu hm HT X aT a5 ar ay ai au hz bl;go_wp2_with(go_at_call 174;refine bG.mono ?_;rintro e w6 ⟨rfl,aD,a2⟩;refine zb ?_);refine ze ?_;have bw:H (ziE w w6):=bv.laterB aD (λi hi=>by have L:i=g:=hi;omega);have bC:=ze (bB.keep aD (λe=>bg e));have aA:=compactI g yc _ w6 a2 (by rw[zb HZ];omega) (by rw[zb HZ];exact bP);rw[zb HZ] at aA;have bt:=ze aA;clear aA aD a2;go_wp2_with(go_at_call 175;refine bt.mono ?_;rintro e w7 ⟨rfl,aE,a3⟩;refine zb ?_);refine ze ?_;have bx:H (ziE w w7):=bw.laterB aE (λi hi=>by have L:i=g:=hi;omega);have aF:=bC.keep aE (λe=>bg e);have X:=zb aS;have a9:(compactUpTo (sort ltInt t.toArray) t.length).length=k.length:=(by rw[X];simp[toInts]);have bT:(compactUpTo (sort ltInt t.toArray) t.length).length<=t.length:=(by have h9:=X7 (sort ltInt t.toArray);rw[zb HZ] at h9;exact h9);have bs:=ze (WY a3 X);rw[a9] at bT ⊢;clear aE a3 X a9 aS;obtain⟨q0,q1,q2,g0,g1,g2⟩:=id aF;have s0:=aF.set0 (K (I ⟨g,0,U⟩) k.length yc);have s1:=s0.set1 (C Z);have s2:=s1.set2 (C aR);have bF:=ze s2;obtain⟨_,ab,_,_,ad,_⟩:=s0;obtain⟨_,_,ac,_,_,aa⟩:=s1;clear s2 aF;go_wp2_with fail;obtain⟨y,z,B,_,_,_⟩:=zb bF;refine bodyPost_ret (v:=Uf #[K (I ⟨g,0,U⟩) k.length yc,C Z,C aR]) (by simp[results,results131,go_sem,y,z,B]) rfl ?_;refine⟨_,rfl,⟨g,yc,rfl,oa,b3,λj a m=>?_⟩,?_⟩
  .exact(zgI _ _ _ _ (by first|(simp;done)|(simp;omega))).trans ((zgI _ _ _ _ (by first|(simp;done)|(simp;omega))).trans ((zgI _ _ _ _ (by first|(simp;done)|(simp;omega))).trans (zb bs j a m)))
  refine zf.setCell ?_ (Or.inr ov) _;refine zf.setCell ?_ (Or.inr ov) _;refine zf.setCell ?_ (Or.inr ov) _;exact bx
end
section
open Go.RowKit Go.Shelf Go.Lib
set_option maxHeartbeats 8000000
set_option maxRecDepth 100000
def wT:Go.Shelf.Ren:=⟨fun|176=>172|249=>210|288=>234|283=>265|284=>266|285=>267|286=>268|129=>209|317=>290|318=>291|319=>292|320=>293|337=>302|338=>303|n=>n,fun|37=>204|2=>2|3=>3|53=>363|4=>4|9=>9|171=>404|0=>0|173=>406|212=>418|51=>361|5=>5|20=>20|213=>419|46=>324|232=>426|233=>427|n=>n,fun|17=>11|18=>13|19=>14|n=>n⟩
theorem Vy:Go.Proofs.LaysM.n176 V wT:={
 mixed:=om
 f129:=func209.trans (congrArg I om)
 f176:=func172.trans (congrArg I om)
 f249:=func210.trans (congrArg I om)
 f283:=func265.trans (congrArg I om)
 f284:=func266.trans (congrArg I om)
 f285:=func267.trans (congrArg I om)
 f286:=func268.trans (congrArg I om)
 f288:=func234.trans (congrArg I om)
 f317:=func290.trans (congrArg I om)
 f318:=func291.trans (congrArg I om)
 f319:=func292.trans (congrArg I om)
 f320:=func293.trans (congrArg I om)
 f337:=func302.trans (congrArg I om)
 f338:=func303.trans (congrArg I om)
 t0:=underlying0
 a0:=Tryz.isAgg0
 z0:=Tryz.sizeOf0
 v0:=Tryz.zeroValue0
 t2:=underlying2
 a2:=Tryz.isAgg2
 z2:=Tryz.sizeOf2
 v2:=Tryz.zeroValue2
 t3:=underlying3
 a3:=Tryz.isAgg3
 z3:=Tryz.sizeOf3
 v3:=Tryz.zeroValue3
 t4:=underlying4
 a4:=Tryz.isAgg4
 z4:=Tryz.sizeOf4
 v4:=Tryz.zeroValue4
 t5:=underlying5
 a5:=Tryz.isAgg5
 z5:=Tryz.sizeOf5
 v5:=Tryz.zeroValue5
 t9:=underlying9
 a9:=Tryz.isAgg9
 z9:=Tryz.sizeOf9
 v9:=Tryz.zeroValue9
 t20:=underlying20
 a20:=Tryz.isAgg20
 z20:=Tryz.sizeOf20
 v20:=Tryz.zeroValue20
 t37:=underlying204
 a37:=Tryz.isAgg204
 z37:=Tryz.sizeOf204
 v37:=Tryz.zeroValue204
 t46:=underlying324
 a46:=Tryz.isAgg324
 z46:=Tryz.sizeOf324
 v46:=Tryz.zeroValue324
 t51:=underlying361
 a51:=Tryz.isAgg361
 z51:=Tryz.sizeOf361
 v51:=Tryz.zeroValue361
 t53:=underlying363
 a53:=Tryz.isAgg363
 z53:=Tryz.sizeOf363
 v53:=Tryz.zeroValue363
 t171:=underlying404
 a171:=Tryz.isAgg404
 z171:=Tryz.sizeOf404
 v171:=Tryz.zeroValue404
 t173:=underlying406
 a173:=Tryz.isAgg406
 z173:=Tryz.sizeOf406
 v173:=Tryz.zeroValue406
 t212:=underlying418
 a212:=Tryz.isAgg418
 z212:=Tryz.sizeOf418
 v212:=Tryz.zeroValue418
 t213:=underlying419
 a213:=Tryz.isAgg419
 z213:=Tryz.sizeOf419
 t232:=underlying426
 a232:=Tryz.isAgg426
 z232:=Tryz.sizeOf426
 v232:=Tryz.zeroValue426
 t233:=underlying427
 a233:=Tryz.isAgg427
 z233:=Tryz.sizeOf427
 v233:=Tryz.zeroValue427
 g17:=om
 g18:=om
 g19:=om
 i0:=om
 i2:=om
 i3:=om
 i4:=om
 i5:=om
 i9:=om
 i20:=om
 i37:=om
 i46:=om
 i51:=om
 i53:=om
 i171:=om
 i173:=om
 i212:=om
 i232:=om
 i233:=om
 m17:=om
 m18:=om
 m19:=by kernel_rfl }
theorem Tryz.infoByte:(prog.info? 5).map (λi=>(i.zero,i.size,i.bytes))=I (I (M .u8 0),1,1):=om
namespace Fnd
theorem VW:∀(ps:List Nat) (p:Nat),keyP (ps++[p])=keyP ps++([32]++decDigits p)
 | [],p=>by simp[keyP]
 |q :: r,p=>by simp[keyP,VW r p]
theorem keyP_take {n:Nat}(h:n<ps.length):keyP (ps.take (n+1))=keyP (ps.take n)++([32]++decDigits ps[n]):=by rw[zht,zgE h];exact VW _ _
def keyH (b w:Bool):List UInt8:=(if b then [94] else [])++(if w then [119] else [])
theorem keyS_eq (b w:Bool)(ps:List Nat):keyS b w ps=keyH b w++keyP ps:=rfl
theorem dec_len {p:Nat}(h:p<1000):(decDigits p).length<=3:=by by_cases a:p<10;rw[jA a];simp;rw[wS a];by_cases b:p / 10<10;rw[jA b];simp;rw[wS b,jA oa];simp
theorem keyP_pos (h:0<ps.length):0<(keyP ps).length:=by
 cases ps with
 |nil=>simp at h
 |cons p r=>simp[keyP]
end Fnd
theorem Q6 (a b:List UInt8):byteCells (a++b)=byteCells a++byteCells b:=by simp[byteCells]
def Buf (w:E)(B:Nat)(v:Y)(l:List UInt8):Prop:=w.ownsRow B 5 1 v l.length (byteCells l)
theorem Buf.slice {l:List UInt8}(h:Buf w B v l):∃a n c,v=K a n c:=by rcases h.2 with⟨rfl,_⟩|⟨g,cap,b,rfl,_⟩<;>exact⟨_,_,_,rfl⟩
theorem Buf.appended {l m:List UInt8}(h:w.ownsRow B 5 1 v (l.length+m.length) (byteCells l++byteCells m)):Buf w B v (l++m):=by unfold Buf;rw[Q6,zgK];exact h
theorem zf.below2 {v b:E}(h:ziE w v)(k:Below w.heap.size v b):ziE w b:=
 ⟨k.os.trans h.os,k.tape.trans h.tape,k.output.trans h.output,zgN h.size k.size,λj a c=>(k.block j a).trans (h.block j a c)⟩
theorem zf.belowB {v:E}(h:ziE w v):Below w.heap.size w v:=⟨h.os,h.tape,h.output,h.size,λk a=>h.block k a id⟩
theorem Vz (B n p : Nat) (m : p ≤ 1000) (b : Y) (xs : List Y) (w : E) (k : w.ownsRow B 5 1 b n xs) (i : B ≤ w.heap.size) (j : n + 21 ≤ 140737488355328) (l : TabBelow V B w "internal/strconv.uint64pow10" .u64 pow10Tab) :
  Uh V 172 #[b,M J (p:Nat),M J 10] w λe c=>∃a,e=R a/\c.ownsRow B 5 1 a (n+(decDigits p).length) (xs++byteCells (decDigits p))/\Below B w c:=by
 have f:wT.t 5=5:=rfl;have h:=Any.strconv_AppendInt_10 Vy B n (p:Nat) oa oa b xs w (by rw[f];exact k) i j l;rw[f] at h;refine h.mono ?_;rintro e c ⟨a,rfl,d,g,-⟩;rw[itoa_nonneg] at d;exact⟨a,rfl,d,g⟩
theorem key_any (sv : Y) (b wb : Bool) (ps : List Nat) (w : E) (hS : kt w sv ps) (h0 : 0 < ps.length) (hl : ps.length ≤ 301) (hb : ∀ p ∈ ps, p ≤ 301) (aA : TabIs V w "internal/strconv.uint64pow10" .u64 pow10Tab) :
  Uh V 129 #[Uf #[sv,C b,C wb]] w λe w'=>e=R (Uc ⟨(keyS b wb ps).toArray⟩)/\ziE w w':=by
 obtain⟨i0,ad,ae,af,ag⟩:=info_parts Tryz.infoByte;have aJ:=ze (tabBelow_of_tabIs aA);obtain⟨va,vc,rfl⟩:=hS.slice;have HS:=ze hS;have HB:=ze hb;clear hS hb aA;rw[keyS_eq];have a6:=keyP_pos h0;obtain⟨s,T⟩:∃aL,aL=w.alloc (Ub #[K va ps.length vc,C b,C wb] 190):=⟨_,rfl⟩
 obtain⟨t,ac⟩:∃aK,aK=keyH b wb:=⟨_,rfl⟩
 have ak:H (ziE w s):=by rw[T];exact(zf.refl _ _).alloc _
 have h:s.heap.size=w.heap.size+1:=by rw[T];exact qN _ _
 have HT : H (TabBelow V (w.heap.size + 1) s "internal/strconv.uint64pow10" .u64 pow10Tab) := (by rw [← h]; exact ze (tabBelow_of_tabIs (zb aJ _ ak.belowB)))
 have N:H (s.cell? ⟨w.heap.size,0,U⟩=I (K va ps.length vc)/\s.cell? ⟨w.heap.size,2,U⟩=I (C wb)):=by rw[T];exact⟨zm w _ rfl _ _ 0 _ rfl,zm w _ rfl _ _ 2 _ rfl⟩
 have aO:t.length<=2:=by rw[ac];cases b<;>cases wb<;>simp[keyH]
 have HW:=ze T;have aa:=ze ac;rw[<-ac];clear T ac;cases b<;>cases wb
 all_goals
  go_enter func129,ntmps129
  first
   |(
     go_wp2_with(at_builtin;refine wpList_append_own _ rfl _ _ 204 rfl (w.heap.size+1) 5 i0 (M .u8 0) 1 1 underlying204 ad ae af ag rfl od _ _ _ rfl (zgP _ _ _ _) _ 1 1 [M .u8 94] rfl rfl (by first|exact cell_one_new _ _ _|(intro j u9 a;match j,a with|0,a=>simp at a;subst a;simp[Addr.add])) (λx q=>by simp at q;subst q;rfl) (by unfold maxLen;first|omega|(simp;done)|(simp;omega)) (by first|omega|(simp;done)|(simp;omega)) (by have:=h;have:=h;first|(simp;done)|(simp;omega)) ?_;intro v d o i u;refine zb ?_);refine ze ?_;have c:H (ziE s d):=(by rw[zb HW];exact((zf.refl _ _).alloc _).grown i (λj a=>by cases a))
     have r:H (Buf d (w.heap.size+1) v [94]):=o;obtain⟨B,L,F,rfl⟩:=r.slice;have d0:=zg c _ _ N.1 id;have d2:=zg c _ _ N.2 id;clear o i u
     first
      |(
       go_wp2_with(at_builtin;refine wpList_append_own _ rfl _ _ 204 rfl (w.heap.size+1) 5 i0 (M .u8 0) 1 1 underlying204 ad ae af ag rfl od _ _ _ rfl (zgO r _) _ 1 1 [M .u8 119] rfl rfl (by first|exact cell_one_new _ _ _|(intro j u9 a;match j,a with|0,a=>simp at a;subst a;simp[Addr.add])) (λx q=>by simp at q;subst q;rfl) (by unfold maxLen;first|omega|(simp;done)|(simp;omega)) (by first|omega|(simp;done)|(simp;omega)) (by have:=h;have:=c.size;first|(simp;done)|(simp;omega)) ?_;intro v w2 o i u;refine zb ?_);refine ze ?_;have z:H (ziE s w2):=(c.alloc _).grown i (λj a=>Or.inr (by rw[h];exact(zh r j a).1));have y:H (Buf w2 (w.heap.size+1) v t):=(by rw[zb aa];exact Buf.appended (l:=[94]) (m:=[119]) o)
       obtain⟨ba,bc,bb,rfl⟩:=y.slice;have e0:=zg z _ _ N.1 id;clear o i u c r d0 d2;go_wp2_with fail)
      |(
       have z:=c;have y:H (Buf d (w.heap.size+1) (K B L F) t):=(by rw[zb aa];exact r)
       clear c r;go_wp2_with fail))
   |(
     go_wp2_with(at_builtin;refine wpList_append_own _ rfl _ _ 204 rfl (w.heap.size+1) 5 i0 (M .u8 0) 1 1 underlying204 ad ae af ag rfl od _ _ _ rfl (zgP _ _ _ _) _ 1 1 [M .u8 119] rfl rfl (by first|exact cell_one_new _ _ _|(intro j u9 a;match j,a with|0,a=>simp at a;subst a;simp[Addr.add])) (λx q=>by simp at q;subst q;rfl) (by unfold maxLen;first|omega|(simp;done)|(simp;omega)) (by first|omega|(simp;done)|(simp;omega)) (by have:=h;have:=h;first|(simp;done)|(simp;omega)) ?_;intro v d o i u;refine zb ?_);refine ze ?_;have c:H (ziE s d):=(by rw[zb HW];exact((zf.refl _ _).alloc _).grown i (λj a=>by cases a))
     have r:H (Buf d (w.heap.size+1) v [119]):=o;obtain⟨B,L,F,rfl⟩:=r.slice;have d0:=zg c _ _ N.1 id;have d2:=zg c _ _ N.2 id;clear o i u;have z:=c;have y:H (Buf d (w.heap.size+1) (K B L F) t):=(by rw[zb aa];exact r)
     clear c r;go_wp2_with fail)
   |(
     have y:H (Buf (w.alloc (Ub #[K va ps.length vc,C Z,C Z] 190)) (w.heap.size+1) (K U 0 0) t):=(by rw[zb aa];exact zgP _ _ _ _)
     have z:H (ziE s (w.alloc (Ub #[K va ps.length vc,C Z,C Z] 190))):=(by rw[<-zb HW];exact zf.refl _ _)
     go_wp2_with fail)
  go_loopw[3,19] (λkv k wr=>∃(n:Nat) (l:List UInt8),k=M J n/\n<=ps.length/\l.length<=2+22*n/\H (l=t++keyP (ps.take n))/\H (ziE s wr)/\H (Buf wr (w.heap.size+1) kv l)) (λ_ k _=>ps.length-(RowKit.intOf k).toNat)
  case atStart=>exact⟨0,t,rfl,oa,by have:=aO;omega,by show _=_;simp[keyP],z,y⟩
  case round=>
   clear z y;obtain⟨n,l,rfl,hn,a2,W,X,S⟩:=hrel;obtain⟨ka,kn,kc,rfl⟩:=S.slice;by_cases ao:n<ps.length
   .obtain⟨g,rfl,aY,ay⟩:=HS.get ao;have aX:=zg X _ _ (zg ak _ _ ay id) id;clear ay;have hp:=zb HB ps[n] (zg5 ao);have aE:H ((l++[32])++decDigits ps[n]=t++keyP (ps.take (n+1))):=(by show _=_;rw[zb W,keyP_take ao];simp);have b1:(0:Int)<=(n:Int):=oa;have b2:(n:Int)<(ps.length:Int):=oa;have a0:=dec_len (show ps[n]<1000 by omega);generalize ps[n]=p at *;go_wp2_with(at_builtin;refine wpList_append_own _ rfl _ _ 204 rfl (w.heap.size+1) 5 i0 (M .u8 0) 1 1 underlying204 ad ae af ag rfl od _ _ _ rfl (zgO S _) _ 1 1 [M .u8 32] rfl rfl (by first|exact cell_one_new _ _ _|(intro j u9 a;match j,a with|0,a=>simp at a;subst a;simp[Addr.add])) (λx q=>by simp at q;subst q;rfl) (by unfold maxLen;first|omega|(simp;done)|(simp;omega)) (by first|omega|(simp;done)|(simp;omega)) (by have:=X.size;first|(simp;done)|(simp;omega)) ?_;intro v d o i u;refine zb ?_);refine ze ?_;have ab:ziE _ d:=(X.alloc _).grown i (λj a=>Or.inr (by rw[h];exact(zh S j a).1));have am:Buf d (w.heap.size+1) v (l++[32]):=Buf.appended o;obtain⟨B,L,F,rfl⟩:=am.slice;have av:d.ownsRow (w.heap.size+1) 5 1 (K B L F) (l++[32]).length (byteCells (l++[32])):=am;have aC:=ze (Vz (w.heap.size+1) _ p oa (K B L F) _ d av (by rw[<-h];exact ab.size) ou (HT.on (by rw[<-h];exact ab.belowB)));have aF:=ze ab;clear o i u am av ab;go_wp2_with(go_at_call 172;refine aC.mono ?_;rintro e w2 ⟨v2,rfl,az,ax⟩;refine zb ?_);refine ze ?_;have aq:=ze (Buf.appended az);have aG:=ze (aF.below2 (by rw[h];exact ax));clear az ax;obtain⟨ya,yn,yc,rfl⟩:=aq.slice;go_wp2_with fail;exact⟨⟨n+1,_,by go_num,oa,by simp;omega,aE,aG,aq⟩,by simp[RowKit.intOf];omega⟩
   .obtain rfl:n=ps.length:=oa;rw[zhG] at W;have a5:0<l.length:=(by have:=zb W;rw[this];simp;omega);rcases(zb S).2 with⟨-,h9⟩|⟨g,cap,aU,e9,-,-,-,-,-,-⟩
    .omega
    .cases e9;have aZ:=run_convert_bytes_back (P:=V) _ 204 9 5 ⟨g,0,U⟩ kc l underlying204 underlying5 underlying9 (λj a=>zhB S (g:=g) rfl j _ (by simp[byteCells,a]));go_wp2_with fail;go_ret;exact⟨by rw[<-zb W];rfl,ak.trans X⟩
end
