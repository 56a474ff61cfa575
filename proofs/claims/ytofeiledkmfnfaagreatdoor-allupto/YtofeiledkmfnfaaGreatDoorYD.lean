/- The library's sort of a row of characters: it returns, and turns the row's cells alone. -/
import Derived.Test.YtofeiledkmfnfaaGreatDoorYBaseSemD
import Derived.BigGuard
import Derived.BigCall
import Derived.CellFam
import Derived.Deep.Draws
import Derived.BigRegion
import Derived.Sort.Defs
import Derived.Shelf.Abstract
import Derived.Shelf.SlSortCmp.WholeK
import Derived.Ground.SlsfProg
import Derived.Laws.Bits64b
import Derived.Sort.Row
import Derived.Deep.CutBlock
namespace Go.Proofs.YtofeiledkmfnfaaGreatDoor
open Option renaming none->U,some->I
open Value renaming int->M,slice->K,bool->C,pointer->Ua,tuple->Ue
open IntKind renaming i64->J,i32->Ug
open Bool renaming false->Z,true->G
open _root_.Go.Proofs.Tryz renaming prog->V
open Go renaming World->E,Value->Y,Calls->Uh
open Go.RowKit renaming Hid->H
open Or renaming inr->O,inl->Q
open Ending renaming returned->R
open Obj renaming cells->Ub
open Go.Sort renaming ltInt->Uj,medianAdjacent->Ul,order2->Um,siftDown->Un,median->Uo,scanDown->Up,swp->Us,Holds->Ut,partialIns->Uu,scanUp->Uv
open Go.Calls renaming quiet_of_same->Uq
open _root_.Go.Proofs.Tryz
set_option maxHeartbeats 8000000
set_option maxRecDepth 1000000
variable {p:Am}(n g off cap a b f s:Nat){i c first:Nat}{d:Array Int}(x y:Int)(w:World){j:Nat}
section
open Go.RowKit
theorem XN:Uh V 222 #[M Ug x] w λe a=>e=R (C Z)/\a=w:=by go_enter func222,ntmps222;go_wp2;go_ret;exact⟨ov,rfl⟩
theorem zV:Uh V 200 #[M Ug x,M Ug y] w λe a=>e=R (C (Uj x y))/\a=w:=by go_enter func200,ntmps200;go_wp2_with(go_at_call 222;refine(XN _ _).mono ?_;rintro e a ⟨rfl,rfl⟩);go_ret;exact⟨rfl,rfl⟩

def CO (w:E)(f:Nat)(s:Int):Prop:=w.cell? ⟨f,0,U⟩=I (M J s)/\w.frozen? ⟨f,0,U⟩=Z
theorem zei {w A B:E}{d:Nat}(a:zke w A)(b:zg (zr d) A B)(g:w.heap.size<=d:=by omega):zke w B:=
 ⟨b.os.trans a.os,b.tape.trans a.tape,b.output.trans a.output,AP a.size b.size,λk c _=>(b.block k (AM c a.size) (λe=>by unfold zr at e;omega)).trans (a.block k c id)⟩



end
section
open Go.RowKit Go.Shelf Go.Lib Go.Sort
def za0:Go.Shelf.Ren:=⟨fun|6=>189|15=>160|14=>221|28=>203|29=>204|20=>246|21=>247|22=>248|23=>249|24=>250|25=>251|26=>252|27=>253|46=>274|47=>224|48=>225|49=>275|50=>276|57=>288|n=>n,fun|22=>150|24=>263|25=>348|3=>3|39=>324|0=>0|53=>359|55=>361|4=>4|46=>353|45=>352|50=>292|5=>5|9=>9|66=>370|70=>374|76=>396|77=>167|n=>n,fun|n=>n⟩
theorem Xa:Go.Proofs.SlLaysF0.n6 V za0:={
 mixed:=om
 f6:=⟨Tryz.f189.name,od,func189.trans (congrArg I om)⟩
 f14:=⟨Tryz.f221.name,od,func221.trans (congrArg I om)⟩
 f15:=func160.trans (congrArg I om)
 f20:=⟨Tryz.f246.name,od,func246.trans (congrArg I om)⟩
 f21:=⟨Tryz.f247.name,od,func247.trans (congrArg I om)⟩
 f22:=⟨Tryz.f248.name,od,func248.trans (congrArg I om)⟩
 f23:=⟨Tryz.f249.name,od,func249.trans (congrArg I om)⟩
 f24:=⟨Tryz.f250.name,od,func250.trans (congrArg I om)⟩
 f25:=⟨Tryz.f251.name,od,func251.trans (congrArg I om)⟩
 f26:=⟨Tryz.f252.name,od,func252.trans (congrArg I om)⟩
 f27:=⟨Tryz.f253.name,od,func253.trans (congrArg I om)⟩
 f28:=func203.trans (congrArg I om)
 f29:=func204.trans (congrArg I om)
 f46:=⟨Tryz.f274.name,od,func274.trans (congrArg I om)⟩
 f47:=func224.trans (congrArg I om)
 f48:=func225.trans (congrArg I om)
 f49:=⟨Tryz.f275.name,od,func275.trans (congrArg I om)⟩
 f50:=⟨Tryz.f276.name,od,func276.trans (congrArg I om)⟩
 f57:=⟨Tryz.f288.name,od,func288.trans (congrArg I om)⟩
 t0:=underlying0
 a0:=Tryz.isAgg0
 z0:=Tryz.sizeOf0
 v0:=Tryz.zeroValue0
 t3:=underlying3
 a3:=Tryz.isAgg3
 z3:=Tryz.sizeOf3
 v3:=Tryz.zeroValue3
 t4:=underlying4
 a4:=Tryz.isAgg4
 z4:=Tryz.sizeOf4
 v4:=Tryz.zeroValue4
 t5:=underlying5
 a5:=Tryz.isAgg5
 z5:=Tryz.sizeOf5
 v5:=Tryz.zeroValue5
 t9:=underlying9
 a9:=Tryz.isAgg9
 z9:=Tryz.sizeOf9
 v9:=Tryz.zeroValue9
 t22:=underlying150
 a22:=Tryz.isAgg150
 z22:=Tryz.sizeOf150
 v22:=Tryz.zeroValue150
 t25:=underlying348
 a25:=Tryz.isAgg348
 z25:=Tryz.sizeOf348
 v25:=Tryz.zeroValue348
 t39:=underlying324
 a39:=Tryz.isAgg324
 z39:=Tryz.sizeOf324
 v39:=Tryz.zeroValue324
 t45:=underlying352
 a45:=Tryz.isAgg352
 z45:=Tryz.sizeOf352
 v45:=Tryz.zeroValue352
 t46:=underlying353
 a46:=Tryz.isAgg353
 z46:=Tryz.sizeOf353
 v46:=Tryz.zeroValue353
 t50:=underlying292
 a50:=Tryz.isAgg292
 z50:=Tryz.sizeOf292
 v50:=Tryz.zeroValue292
 t53:=underlying359
 a53:=Tryz.isAgg359
 z53:=Tryz.sizeOf359
 v53:=Tryz.zeroValue359
 t55:=underlying361
 a55:=Tryz.isAgg361
 z55:=Tryz.sizeOf361
 v55:=Tryz.zeroValue361
 t66:=underlying370
 a66:=Tryz.isAgg370
 z66:=Tryz.sizeOf370
 v66:=Tryz.zeroValue370
 t70:=underlying374
 a70:=Tryz.isAgg374
 z70:=Tryz.sizeOf374
 v70:=Tryz.zeroValue374
 t76:=underlying396
 a76:=Tryz.isAgg396
 z76:=Tryz.sizeOf396
 v76:=Tryz.zeroValue396
 t77:=underlying167
 a77:=Tryz.isAgg167
 z77:=Tryz.sizeOf167
 v77:=Tryz.zeroValue167 }
theorem zb7 (b:n<4611686018427387904)(w:E):Uh V 160 #[M .u64 (n:Int)] w λe a=>e=R (M J (Lib.bitLen n:Nat))/\a=w:=by have h:=Any.bits_Len (SlLaysF0.n15.bits { Xa with }) (n:Int) w oa oa;rw[CH] at h;exact h
theorem L9 (a:n<4611686018427387904)(w:E):Uh V 224 #[M J n] w λe b=>e=R (M .u64 ((1 <<< Sort.bitsLen n:Nat):Int))/\b=w:=AnyF.nextPowerOfTwo { Xa with } n a w
theorem pow_le (d:1<=n):1 <<< Sort.bitsLen n<=2*n:=by
 have b:¬n<2 ^ (Sort.bitsLen n-1):=λh=>by
  have:=(bitsLen_le_iff n (Sort.bitsLen n-1)).2 h;have a:Sort.bitsLen n≠0:=by unfold Sort.bitsLen;rw[iN oa];omega
  omega
 have a:Sort.bitsLen n≠0:=by unfold Sort.bitsLen;rw[iN oa];omega
 rw[Nat.one_shiftLeft];have c:2 ^ Sort.bitsLen n=2*2 ^ (Sort.bitsLen n-1):=by rw[<-Nat.pow_succ'];congr 1;omega
 omega
end
section
open Go.RowKit
def YS (w:E)(f:Nat)(X:Nat):Prop:=w.cell? ⟨f,0,U⟩=I (M .u64 (X:Int))/\w.frozen? ⟨f,0,U⟩=Z
theorem YS.two {w:E}{f X g i j q:Nat}{u v:Y}(h:YS w f X)(a:g≠f):YS (((w.drewN q).setCell ⟨g,i,U⟩ u).setCell ⟨g,j,U⟩ v) f X:=
 ⟨(AN _ _ _ _ ov).trans ((AN _ _ _ _ ov).trans h.1),(zl _ _ _ _).trans ((zl _ _ _ _).trans h.2)⟩
theorem YS.PL {w:E}{f X g i j:Nat}{u v:Y}(h:YS w f X)(a:g≠f):YS (((w.setCell ⟨g,i,U⟩ u).setCell ⟨g,j,U⟩ v).drew) f X:=YS.two (q:=0) h a
def Ex (w:E)(g off:Nat)(d:Array Int)(a:E):Prop:=zg (zr g) w a/\Ut (M Ug) a g off d
theorem Ex.refl {w:E}{g off:Nat}{d:Array Int}(h:Ut (M Ug) w g off d):Ex w g off d w:=⟨zg.refl _ _,h⟩
theorem Ex.trans {a b c:E}{g off:Nat}{d e:Array Int}(h:Ex a g off d b)(k:Ex b g off e c):Ex a g off e c:=⟨h.1.trans k.1,k.2⟩
theorem Ex.drewN {a b:E}{g off:Nat}{d:Array Int}(h:Ex a g off d b)(q:Nat):Ex a g off d (b.drewN q):=⟨h.1.drewN q,h.2⟩
theorem Ex.set {a b:E}{g off:Nat}{d:Array Int}(h:Ex a g off d b)(i:Nat)(z:Int):Ex a g off (d.setIfInBounds i z) (b.setCell ⟨g,off+i,U⟩ (M Ug z)):=by refine⟨h.1.NS _ _,λj c=>?_⟩;simp only[Array.size_setIfInBounds] at c;have⟨f,k⟩:=h.2 j c;refine⟨?_,by rw[CI];exact k⟩;by_cases e:i=j;subst e;rw[AX _ _ _ f];simp[c];rw[AN _ _ _ _ (by intro q;have l:=congrArg Addr.off q;simp only[] at l;omega),f];simp[Array.getElem!_eq_getD,Array.getD_eq_getD_getElem?,Array.getElem?_setIfInBounds_ne e]
theorem QX (d:Array Int)(i j:Nat):(Us d i j).size=d.size:=by unfold Us;simp
variable (d)
theorem Gz (h:Ut (M Ug) w g off d)(ab:a<=b)(hb:b<=d.size)(hn:d.size<1099511627776):Uh V 194 #[K (I ⟨g,off,U⟩) d.size cap,M J a,M J b] w λe X=>e=R (Ue #[])/\Ex w g off (Sort.insertionSort Uj d a b) X:=by
 have B:=zd (Ex.refl h);generalize P:d.size=N at *;have l:H (Sort.insertionSort Uj d a b=Sort.insOuter Uj a b (a+1) d):=rfl;have F:=zd P;generalize Sort.insertionSort Uj d a b=p at *;go_enter func194,ntmps194;go_wp2;go_loopw[6] (λy wr=>∃(i:Nat) (o:Array Int),y=M J i/\a<i/\i<=b+1/\H (o.size=N)/\H (Ex w g off o wr)/\H (p=Sort.insOuter Uj a b i o)) (λy _=>b+1-(intOf y).toNat)
 .exact⟨a+1,d,Ae,oa,oa,F,B,l⟩
 obtain⟨i,o,rfl,ac,ah,m,v,l⟩:=hrel;by_cases T:i<b
 .have n:H (p=Sort.insOuter Uj a b (i+1) (Sort.insInner Uj a i o)):=by
   show _=_;rw[zb l]
   (conv=>lhs;unfold Sort.insOuter);rw[IN T]
  go_wp2;go_loopw[7] (λz aa=>∃(j:Nat) (c:Array Int),z=M J j/\a<=j/\j<=i/\H (c.size=N)/\H (Ex w g off c aa)/\H (p=Sort.insOuter Uj a b (i+1) (Sort.insInner Uj a j c))) (λz _=>(intOf z).toNat);exact⟨i,o,rfl,oa,AD _,m,v,n⟩;obtain⟨j,c,rfl,ad,aj,m,q,l⟩:=hrel;go_wp2;by_cases ai:a<j
  .obtain⟨f,HG,af,ag⟩:∃f:Nat->Int,H (∀t,f t=c[t]!)/\(∀t,t<N->wr.cell? ⟨g,off+t,U⟩=I (M Ug (f t)))/\∀t,t<N->wr.frozen? ⟨g,off+t,U⟩=Z:=⟨λt=>c[t]!,λ_=>rfl,λt x=>(q.2 t (by rw[zb m];exact x)).1,λt x=>(q.2 t (by rw[zb m];exact x)).2⟩
   have L:H (((c.setIfInBounds j (f (j-1))).setIfInBounds (j-1) (f j)).size=N):=(by show _=_;simp;exact m);have u:H ((c.setIfInBounds j (f (j-1))).setIfInBounds (j-1) (f j)=Us c j (j-1)):=(by show _=_;rw[zb HG,zb HG];rfl);have r:j-1+1=j:=oa;by_cases s:Uj (f j) (f (j-1))=G
   .have n:H (p=Sort.insOuter Uj a b (i+1) (Sort.insInner Uj a (j-1) ((c.setIfInBounds j (f (j-1))).setIfInBounds (j-1) (f j)))):=by
     show _=_;rw[zb l,zb u];rw[zb HG,zb HG] at s;generalize W:j-1=k at *;subst r
     (conv=>lhs;unfold Sort.insInner);rw[IN (by rw[s];simp;omega)]
    (go_quiet(first|(go_at_call 200;refine Uq (zV _ _ _)));go_wp2;go_region;all_goals go_wp2);go_roundw;exact⟨j-1,_,by congr 1;omega,oa,oa,L,((q.drewN _).set j _).set (j-1) _,n⟩;simp[intOf];omega
   have S:Uj (f j) (f (j-1))=Z:=(by simpa using s);have n:H (p=Sort.insOuter Uj a b (i+1) c):=by
    show _=_;rw[zb l];rw[zb HG,zb HG] at S;generalize W:j-1=k at *;subst r
    (conv=>lhs;unfold Sort.insInner);rw[iN (by rw[S];simp)]
   go_quiet(first|(go_at_call 200;refine Uq (zV _ _ _)));go_wp2;go_roundw
   .exact⟨i+1,c,Ae,oa,oa,m,q.drewN _,n⟩
   simp[intOf];omega
  have n:H (p=Sort.insOuter Uj a b (i+1) c):=by
   show _=_;rw[zb l];cases j with
   |zero=>rfl
   |succ k=>
    (conv=>lhs;unfold Sort.insInner);rw[iN ou]
  go_quiet(first|(go_at_call 200;refine Uq (zV _ _ _)));go_wp2;go_roundw
  .exact⟨i+1,c,Ae,oa,oa,m,q.drewN _,n⟩
  simp[intOf];omega
 go_wp2
 go_end0
 refine⟨rfl,?_⟩;rw[zb l];unfold Sort.insOuter;rw[iN T];exact v
theorem Ex.OI {w wr:E}{g off N:Nat}{d:Array Int}(h:Ex w g off d wr)(c:d.size=N):∃b:Nat->Int,H (∀t,b t=d[t]!)/\(∀t,t<N->wr.cell? ⟨g,off+t,U⟩=I (M Ug (b t)))/\∀t,t<N->wr.frozen? ⟨g,off+t,U⟩=Z:=
 ⟨λt=>d[t]!,λ_=>rfl,λt a=>(h.2 t (by rw[c];exact a)).1,λt a=>(h.2 t (by rw[c];exact a)).2⟩
theorem jb {d:Array Int}{a:Nat->Int}(h:∀t,a t=d[t]!)(i j:Nat):(d.setIfInBounds i (a j)).setIfInBounds j (a i)=Us d i j:=by rw[h,h];rfl
theorem DG (h:Ut (M Ug) w g off d)(z:a<=b)(B:b<=d.size)(W:d.size<1099511627776):Uh V 198 #[K (I ⟨g,off,U⟩) d.size cap,M J a,M J b] w λe y=>e=R (Ue #[])/\Ex w g off (Sort.reverseRange d a b) y:=by
 have r:=zd (Ex.refl h);generalize t:d.size=N at *;have f:H (Sort.reverseRange d a b=Sort.reverseLoop a ((b:Int)-1).toNat d):=by show _=_;unfold Sort.reverseRange;congr 1;omega
 have s:=zd t;generalize Sort.reverseRange d a b=u at *;go_enter func198,ntmps198;go_wp2;go_loopw[6,7] (λo p wr=>∃(i:Nat) (j:Int) (k:Array Int),o=M J i/\p=M J j/\i<=N/\-1<=j/\j<N/\H (k.size=N)/\H (Ex w g off k wr)/\H (u=Sort.reverseLoop i j.toNat k)) (λo p _=>(intOf p+1-intOf o).toNat);exact⟨a,(b:Int)-1,d,rfl,rfl,oa,oa,oa,s,r,f⟩;obtain⟨i,j,k,rfl,rfl,c,S,T,m,n,f⟩:=hrel;by_cases P:(i:Int)<j
 .obtain⟨j,rfl⟩:∃q:Nat,j=q:=⟨j.toNat,oa⟩
  have⟨l,HG,F,L⟩:=n.OI m;have v:H (((k.setIfInBounds i (l j)).setIfInBounds j (l i)).size=N):=(by show _=_;simp;exact m);have x:H (u=Sort.reverseLoop (i+1) ((j:Int)-1).toNat ((k.setIfInBounds i (l j)).setIfInBounds j (l i))):=by
   show _=_;rw[zb f,jb HG]
   (conv=>lhs;unfold Sort.reverseLoop);rw[show((j:Int)).toNat=j by omega,IN oa,show((j:Int)-1).toNat=j-1 by omega]
  (go_wp2;go_region;all_goals go_wp2);go_roundw
  .exact⟨i+1,(j:Int)-1,_,Ae,Ae,oa,oa,oa,v,((n.drewN _).set i _).set j _,x⟩
  simp[intOf];omega
 go_wp2
 go_end0
 refine⟨rfl,?_⟩;rw[zb f];unfold Sort.reverseLoop;rw[iN oa];exact n
theorem WY {r:Nat}{d:Array Int}(a:¬c<=2*r+1)(b:2*r+2<c)(e:Uj d[first+2*r+1]! d[first+2*r+2]! = G):Un Uj c first r d=if Uj d[first+r]! d[first+2*r+2]! = G then Un Uj c first (2*r+2) (Us d (first+r) (first+2*r+2)) else d:=by
 conv=>lhs;unfold Un
 rw[dif_neg a,show first+(2*r+1)+1=first+2*r+2 by omega,show first+(2*r+1)=first+2*r+1 by omega,show first+(2*r+2)=first+2*r+2 by omega,e,IN ou,dif_pos b];cases Uj d[first+r]! d[first+2*r+2]!<;>simp
theorem Vt {r:Nat}{d:Array Int}(b:¬c<=2*r+1)(a:¬2*r+2<c\/Uj d[first+2*r+1]! d[first+2*r+2]! = Z):Un Uj c first r d=if Uj d[first+r]! d[first+2*r+1]! = G then Un Uj c first (2*r+1) (Us d (first+r) (first+2*r+1)) else d:=by
 conv=>lhs;unfold Un
 rw[dif_neg b,show first+(2*r+1)+1=first+2*r+2 by omega,show first+(2*r+1)=first+2*r+1 by omega];rw[iN (by obtain a|a:=a;simp;omega;rw[a];simp)];cases Uj d[first+r]! d[first+2*r+1]!<;>simp
theorem LY (p c first:Nat)(d:Array Int)(w:E)(h:Ut (M Ug) w g off d)(ae:p<=c)(hb:first+c<=d.size)(hn:d.size<1099511627776):Uh V 223 #[K (I ⟨g,off,U⟩) d.size cap,M J p,M J c,M J first] w λe w'=>e=R (Ue #[])/\Ex w g off (Un Uj c first p d) w':=by
 have F:=zd (Ex.refl h);clear h;generalize T:d.size=N at *;have j:H (Un Uj c first p d=Un Uj c first p d):=rfl;have L:=zd T;clear T;generalize aa:Un Uj c first p d=l at j ⊢
 have P:H (l=Un Uj c first p d):=aa.symm;clear j aa;go_enter func223,ntmps223;go_wp2;go_loopw[8] (λB wr=>∃(r:Nat) (b:Array Int),B=M J r/\r<=c/\H (b.size=N)/\H (Ex w g off b wr)/\H (l=Un Uj c first r b)) (λB _=>c-(intOf B).toNat);exact⟨p,d,rfl,ae,L,F,P⟩;clear L F P;obtain⟨r,b,rfl,hr,s,n,j⟩:=hrel;by_cases z:c<=2*r+1
 .have ac:(c:Int)<=2*(r:Int)+1:=oa;have i:H (l=b):=by
   show _=_;rw[zb j];unfold Un;rw[dif_pos z]
  clear j;go_wp2_with fail
  go_end0
  exact⟨rfl,by rw[zb i];exact zb n⟩
 have ac:¬((c:Int)<=2*(r:Int)+1):=oa;have⟨a,HG,u,v⟩:=n.OI s;by_cases S:2*r+2<c
 .have ad:2*(r:Int)+1+1<(c:Int):=oa;go_wp2;go_big_quiet(first|(go_at_call 200;refine Uq (zV _ _ _)));go_wp2_with fail
  .have m:H (Uj b[first+2*r+1]! b[first+2*r+2]! = G):=by show _=_;rw[<-zb HG,<-zb HG];assumption
   revert nq;intro f
   (have o:=zd (n.drewN f);have W:∀t,t<N->(wr.drewN f).cell? ⟨g,off+t,U⟩=I (M Ug (a t)):=u;have X:∀t,t<N->(wr.drewN f).frozen? ⟨g,off+t,U⟩=Z:=v;clear n u v;generalize wr.drewN f=ab at *;have x:H (((b.setIfInBounds (first+r) (a (first+2*r+2))).setIfInBounds (first+2*r+2) (a (first+r))).size=N):=(by show _=_;simp;exact s);have i:H (l=if Uj (a (first+r)) (a (first+2*r+2))=G then Un Uj c first (2*r+2) ((b.setIfInBounds (first+r) (a (first+2*r+2))).setIfInBounds (first+2*r+2) (a (first+r))) else b):=by show _=_;rw[zb j,WY z S m,jb HG,zb HG,zb HG]);clear j HG m s;go_big_quiet(first|(go_at_call 200;refine Uq (zV _ _ _)));go_wp2_with fail
   .have k:Uj (a (first+r)) (a (first+2*r+2))=Z:=by have q:(!Uj (a (first+r)) (a (first+2*r+2)))=G:=ox;simpa using q
    (try simp only[Exit.inBlock,Exit.then]);refine bodyPost_ret (results_none rfl _ _ _) rfl ?_;refine⟨rfl,?_⟩;rw[zb i,iN (by rw[k];decide)];exact o.drewN _
   (have k:Uj (a (first+r)) (a (first+2*r+2))=G:=(by have q:(!Uj (a (first+r)) (a (first+2*r+2)))=Z:=ox;simpa using q);have y:H (l=Un Uj c first (2*r+2) ((b.setIfInBounds (first+r) (a (first+2*r+2))).setIfInBounds (first+2*r+2) (a (first+r)))):=(by show _=_;rw[zb i,IN k]);clear i;go_region;all_goals go_wp2);go_roundw
   .exact⟨2*r+2,_,Ae,oa,x,((o.drewN _).set (first+r) _).set (first+2*r+2) _,y⟩
   simp[intOf];omega
  have m:H (Uj b[first+2*r+1]! b[first+2*r+2]! = Z):=by show _=_;rw[<-zb HG,<-zb HG];assumption
  revert nq;intro f
  (have o:=zd (n.drewN f);have W:∀t,t<N->(wr.drewN f).cell? ⟨g,off+t,U⟩=I (M Ug (a t)):=u;have X:∀t,t<N->(wr.drewN f).frozen? ⟨g,off+t,U⟩=Z:=v;clear n u v;generalize wr.drewN f=ab at *;have x:H (((b.setIfInBounds (first+r) (a (first+2*r+1))).setIfInBounds (first+2*r+1) (a (first+r))).size=N):=(by show _=_;simp;exact s);have i:H (l=if Uj (a (first+r)) (a (first+2*r+1))=G then Un Uj c first (2*r+1) ((b.setIfInBounds (first+r) (a (first+2*r+1))).setIfInBounds (first+2*r+1) (a (first+r))) else b):=by show _=_;rw[zb j,Vt z (O m),jb HG,zb HG,zb HG]);clear j HG m s;go_big_quiet(first|(go_at_call 200;refine Uq (zV _ _ _)));go_wp2_with fail
  .have k:Uj (a (first+r)) (a (first+2*r+1))=Z:=by have q:(!Uj (a (first+r)) (a (first+2*r+1)))=G:=ox;simpa using q
   (try simp only[Exit.inBlock,Exit.then]);refine bodyPost_ret (results_none rfl _ _ _) rfl ?_;refine⟨rfl,?_⟩;rw[zb i,iN (by rw[k];decide)];exact o.drewN _
  (have k:Uj (a (first+r)) (a (first+2*r+1))=G:=(by have q:(!Uj (a (first+r)) (a (first+2*r+1)))=Z:=ox;simpa using q);have y:H (l=Un Uj c first (2*r+1) ((b.setIfInBounds (first+r) (a (first+2*r+1))).setIfInBounds (first+2*r+1) (a (first+r)))):=(by show _=_;rw[zb i,IN k]);clear i;go_region;all_goals go_wp2);go_roundw
  .exact⟨2*r+1,_,Ae,oa,x,((o.drewN _).set (first+r) _).set (first+2*r+1) _,y⟩
  simp[intOf];omega
 have ad:¬(2*(r:Int)+1+1<(c:Int)):=oa;have ag:decide (2*(r:Int)+1+1<(c:Int))=Z:=ou;have ah:(c:Int)<=2*(r:Int)+1+1:=oa;have m:H (¬2*r+2<c):=S;go_wp2;go_big_quiet(first|(go_at_call 200;refine Uq (zV _ _ _)));go_wp2_with fail
 revert nq;intro f
 (have o:=zd (n.drewN f);have W:∀t,t<N->(wr.drewN f).cell? ⟨g,off+t,U⟩=I (M Ug (a t)):=u;have X:∀t,t<N->(wr.drewN f).frozen? ⟨g,off+t,U⟩=Z:=v;clear n u v;generalize wr.drewN f=ab at *;have x:H (((b.setIfInBounds (first+r) (a (first+2*r+1))).setIfInBounds (first+2*r+1) (a (first+r))).size=N):=(by show _=_;simp;exact s);have i:H (l=if Uj (a (first+r)) (a (first+2*r+1))=G then Un Uj c first (2*r+1) ((b.setIfInBounds (first+r) (a (first+2*r+1))).setIfInBounds (first+2*r+1) (a (first+r))) else b):=by show _=_;rw[zb j,Vt z (Q m),jb HG,zb HG,zb HG]);clear j HG m s;go_big_quiet(first|(go_at_call 200;refine Uq (zV _ _ _)));go_wp2_with fail
 .have k:Uj (a (first+r)) (a (first+2*r+1))=Z:=by have q:(!Uj (a (first+r)) (a (first+2*r+1)))=G:=ox;simpa using q
  (try simp only[Exit.inBlock,Exit.then]);refine bodyPost_ret (results_none rfl _ _ _) rfl ?_;refine⟨rfl,?_⟩;rw[zb i,iN (by rw[k];decide)];exact o.drewN _
 (have k:Uj (a (first+r)) (a (first+2*r+1))=G:=(by have q:(!Uj (a (first+r)) (a (first+2*r+1)))=Z:=ox;simpa using q);have y:H (l=Un Uj c first (2*r+1) ((b.setIfInBounds (first+r) (a (first+2*r+1))).setIfInBounds (first+2*r+1) (a (first+r)))):=(by show _=_;rw[zb i,IN k]);clear i;go_region;all_goals go_wp2);go_roundw
 .exact⟨2*r+1,_,Ae,oa,x,((o.drewN _).set (first+r) _).set (first+2*r+1) _,y⟩
 simp[intOf];omega
theorem vE (c first:Nat):∀(n r:Nat) (d:Array Int),c-r<=n->(Un Uj c first r d).size=d.size
 |0,r,d,h=>by
  unfold Un;rw[dif_pos oa]
 |n+1,r,d,h=>by
  by_cases a:c<=2*r+1;unfold Un;rw[dif_pos a];by_cases b:2*r+2<c/\Uj d[first+2*r+1]! d[first+2*r+2]! = G
  .rw[WY a b.1 b.2];split
   .rw[vE c first n _ _ oa,QX]
   rfl
  rw[Vt a (by by_cases e:2*r+2<c;exact O (by simpa using λq=>b ⟨e,q⟩);exact Q e)];split
  .rw[vE c first n _ _ oa,QX]
  rfl
theorem Ex.two {a b:E}{g off i j p q n:Nat}{d:Array Int}{y z:Int}(h:Ex a g off d b)(c:p=off+i)(e:q=off+j):Ex a g off ((d.setIfInBounds i y).setIfInBounds j z) (((b.drewN n).setCell ⟨g,p,U⟩ (M Ug y)).setCell ⟨g,q,U⟩ (M Ug z)):=by subst c e;exact((h.drewN n).set i y).set j z
theorem Mh (h:Ut (M Ug) w g off d)(an:a<b)(hb:b<=d.size)(hn:d.size<1099511627776):Uh V 195 #[K (I ⟨g,off,U⟩) d.size cap,M J a,M J b] w λe L=>e=R (Ue #[])/\Ex w g off (Sort.heapSort Uj d a b) L:=by
 have P:=zd (Ex.refl h);clear h;generalize T:d.size=N at *;have S:=zd T;clear T;have l:H (Sort.heapSort Uj d a b=Sort.heapPop Uj a (b-a) (Sort.heapBuild Uj (b-a) a ((((b-a-1) / 2:Nat):Int)+1).toNat d)):=by show _=_;rw[show((((b-a-1) / 2:Nat):Int)+1).toNat=(b-a-1) / 2+1 by omega];rfl
 generalize Sort.heapSort Uj d a b=s at *;have x:H (∀(i c:Nat) (f:Array Int) (W:E),f.size=N->Ut (M Ug) W g off f->i<=c->a+c<=N->Uh V 223 #[K (I ⟨g,off,U⟩) N cap,M J i,M J c,M J a] W λe L=>e=R (Ue #[])/\Ex W g off (Un Uj c a i f) L):=λi c f W B h2 h3 h4=>by subst B;exact LY g off cap i c a f W h2 h3 h4 hn
 have ap:((b:Int)-a-1).tdiv 2=(((b-a-1) / 2:Nat):Int):=by grind
 go_enter func195,ntmps195;go_wp2_with fail;have e1:((b-a:Nat):Int)=(b:Int)-a:=oa;go_loopw[9] (λr wr=>∃(i:Int) (f:Array Int),r=M J i/\-1<=i/\i<=((b-a-1:Nat):Int) / 2/\H (f.size=N)/\H (Ex w g off f wr)/\H (s=Sort.heapPop Uj a (b-a) (Sort.heapBuild Uj (b-a) a (i+1).toNat f))) (λr _=>(intOf r+1).toNat);exact⟨_,d,rfl,oa,oa,S,P,l⟩;clear S P l;obtain⟨i,f,rfl,h0,B,p,m,l⟩:=hrel;by_cases c:0<=i
 .obtain⟨i,rfl⟩:∃q:Nat,i=q:=⟨i.toNat,oa⟩
  (have n:H (s=Sort.heapPop Uj a (b-a) (Sort.heapBuild Uj (b-a) a ((i:Int)-1+1).toNat (Un Uj (b-a) a i f))):=by show _=_;rw[zb l,show((i:Int)+1).toNat=i+1 by omega,show((i:Int)-1+1).toNat=i by omega];rfl);have u:H ((Un Uj (b-a) a i f).size=N):=(by show _=_;rw[vE _ _ (b-a-i) _ _ (AD _)];exact p);clear l;go_wp2_with(go_at_call 223;have F:=zb x i (b-a) f _ p m.2 oa oa;rw[e1] at F;refine F.mono ?_;rintro e w1 ⟨rfl,o⟩;have t:=zd (m.trans o);clear o F);exact⟨⟨(i:Int)-1,_,Ae,oa,oa,u,t,n⟩,by simp[intOf]⟩
 (have n:H (s=Sort.heapPop Uj a ((b:Int)-a-1+1).toNat f):=by show _=_;rw[zb l,show(i+1).toNat=0 by omega,show((b:Int)-a-1+1).toNat=b-a by omega];rfl);clear l;go_wp2;go_loopw[10] (λr wr=>∃(i:Int) (f:Array Int),r=M J i/\-1<=i/\i<=(b:Int)-a-1/\H (f.size=N)/\H (Ex w g off f wr)/\H (s=Sort.heapPop Uj a (i+1).toNat f)) (λr _=>(intOf r+1).toNat);exact⟨_,f,rfl,oa,Iv _,p,m,n⟩;clear m p n;obtain⟨i,f,rfl,h0,B,p,m,l⟩:=hrel;by_cases c:0<=i
 .obtain⟨i,rfl⟩:∃q:Nat,i=q:=⟨i.toNat,oa⟩
  (have⟨k,HG,X,aa⟩:=m.OI p;have d1:=X a oa;have d2:=X (a+i) oa;have g1:=aa a oa;have g2:=aa (a+i) oa;have v:H (((f.setIfInBounds a (k (a+i))).setIfInBounds (a+i) (k a)).size=N):=(by show _=_;simp;exact p);have u:H ((Un Uj i a 0 ((f.setIfInBounds a (k (a+i))).setIfInBounds (a+i) (k a))).size=N):=(by show _=_;rw[vE _ _ i _ _ oa];exact v);have n:H (s=Sort.heapPop Uj a ((i:Int)-1+1).toNat (Un Uj i a 0 ((f.setIfInBounds a (k (a+i))).setIfInBounds (a+i) (k a)))):=by show _=_;rw[zb l,show((i:Int)+1).toNat=i+1 by omega,show((i:Int)-1+1).toNat=i by omega,jb HG];rfl);clear l HG;by_cases ah:i=0
  .subst ah;go_wp2;go_region;go_wp2_with(go_at_call 223;refine(zb x 0 0 ((f.setIfInBounds a (k (a+0))).setIfInBounds (a+0) (k a)) _ v ?_ oa oa).mono ?_;exact(m.two oa oa).2;rintro e w1 ⟨rfl,o⟩;have t:=zd (Ex.trans (m.two (i:=a) (j:=a+0) (y:=k (a+0)) (z:=k a) oa oa) o);clear o);exact⟨⟨((0:Nat):Int)-1,_,Ae,oa,oa,u,t,n⟩,by simp[intOf]⟩
  go_wp2;go_region;go_wp2_with(go_at_call 223;refine(zb x 0 i ((f.setIfInBounds a (k (a+i))).setIfInBounds (a+i) (k a)) _ v ?_ oa oa).mono ?_;exact(m.two oa oa).2;rintro e w1 ⟨rfl,o⟩;have t:=zd (Ex.trans (m.two (i:=a) (j:=a+i) (y:=k (a+i)) (z:=k a) oa oa) o);clear o);exact⟨⟨(i:Int)-1,_,Ae,oa,oa,u,t,n⟩,by simp[intOf]⟩
 (have n:H (s=f):=by show _=_;rw[zb l,show(i+1).toNat=0 by omega];rfl);clear l;go_wp2_with fail
 go_end0
 exact⟨rfl,by rw[zb n];exact zb m⟩
theorem JL {d:Array Int}{a b s n:Nat}(c:a<n)(e:b<n):(Um Uj d a b s).1<n/\(Um Uj d a b s).2.1<n/\(Um Uj d a b s).2.2<=s+1:=by unfold Um;split;exact⟨e,c,AD _⟩;exact⟨c,e,Is _⟩
theorem Ex.holds {w c:E}{P:Aj}{g off:Nat}{d:Array Int}(h:Ut (M Ug) w g off d)(k:zg P w c)(b:¬P g):Ut (M Ug) c g off d:=λj f=>by have⟨a,e⟩:=h j f;exact⟨(k.cell (p:=⟨g,off+j,U⟩) (zic w _ a) b).trans a,(k.frozen (p:=⟨g,off+j,U⟩) (zic w _ a) b).trans e⟩
theorem Gl (h:Ut (M Ug) w g off d)(q:a<d.size)(r:b<d.size)(_p:f≠g)(i:CO w f (s:Nat))(v:s<1000000)(_o:d.size<1099511627776):Uh V 254 #[K (I ⟨g,off,U⟩) d.size cap,M J a,M J b,Ua (I ⟨f,0,U⟩)] w λe n=>e=R (Ue #[M J ((Um Uj d a b s).1:Nat),M J ((Um Uj d a b s).2.1:Nat)])/\zg (zr f) w n/\CO n f ((Um Uj d a b s).2.2:Nat):=by
 have⟨c,HG,t,u⟩:=(Ex.refl h).OI (N:=d.size) rfl;have⟨i,m⟩:=i;have k:H (zg (zr f) w w):=zg.refl _ _;have l:H (Um Uj d a b s=if Uj (c b) (c a)=G then(b,a,s+1) else(a,b,s)):=by show _=_;unfold Um;rw[zb HG,zb HG]
 generalize Um Uj d a b s=x at *;go_enter func254,ntmps254;go_wp2;go_big_quiet(first|(go_at_call 200;refine Uq (zV _ _ _)));go_wp2_with fail
 .have j:Uj (c b) (c a)=G:=by assumption
  go_ret2;rw[zb l,IN j];exact⟨rfl,(k.drewN _).NS _ _,AX _ _ _ i,(zl _ _ _ _).trans m⟩
 have j:Uj (c b) (c a)=Z:=by assumption
 go_ret2;rw[zb l,iN (by rw[j];decide)];exact⟨rfl,k.drewN _,i,m⟩
theorem zfn (c f s:Nat)(d:Array Int)(w:E)(h:Ut (M Ug) w g off d)(F:a<d.size)(L:b<d.size)(N:c<d.size)(S:f≠g)(r:CO w f (s:Nat))(hs:s<1000)(hn:d.size<1099511627776):Uh V 227 #[K (I ⟨g,off,U⟩) d.size cap,M J a,M J b,M J c,Ua (I ⟨f,0,U⟩)] w λe k=>e=R (M J ((Uo Uj d a b c s).1:Nat))/\zg (zr f) w k/\CO k f ((Uo Uj d a b c s).2:Nat):=by have p:=zd h;have X:=zd r;have P:¬zr f g:=λe=>S e.symm;have m:H (∀(x y t:Nat) (W:E),Ut (M Ug) W g off d->x<d.size->y<d.size->CO W f (t:Nat)->t<1000000->Uh V 254 #[K (I ⟨g,off,U⟩) d.size cap,M J x,M J y,Ua (I ⟨f,0,U⟩)] W λe k=>e=R (Ue #[M J ((Um Uj d x y t).1:Nat),M J ((Um Uj d x y t).2.1:Nat)])/\zg (zr f) W k/\CO k f ((Um Uj d x y t).2.2:Nat)):=λx y t W h1 h2 h3 h4 h5=>Gl g off cap x y f t d W h1 h2 h3 S h4 h5 hn;have HT:H (Uo Uj d a b c s=((Um Uj d (Um Uj d a b s).1 (Um Uj d (Um Uj d a b s).2.1 c (Um Uj d a b s).2.2).1 (Um Uj d (Um Uj d a b s).2.1 c (Um Uj d a b s).2.2).2.2).2.1,(Um Uj d (Um Uj d a b s).1 (Um Uj d (Um Uj d a b s).2.1 c (Um Uj d a b s).2.2).1 (Um Uj d (Um Uj d a b s).2.1 c (Um Uj d a b s).2.2).2.2).2.2)):=rfl;generalize Uo Uj d a b c s=aw at *;have l:=JL (d:=d) (s:=s) F L;have X1:=zd (zb m a b s w p F L X oa);generalize Um Uj d a b s=i at *;have T:=JL (d:=d) (s:=i.2.2) l.2.1 N;go_enter func227,ntmps227;go_wp2_with fail;refine X1.mono ?_;rintro e w1 ⟨rfl,n,u⟩;have q:=zd (Ex.holds p n P);have X2:=zd (zb m i.2.1 c i.2.2 w1 q l.2.1 N u oa);generalize Um Uj d i.2.1 c i.2.2=j at *;have i3:=JL (d:=d) (s:=j.2.2) l.1 T.1;have ac:=zd n;go_wp2_with fail;refine X2.mono ?_;rintro e w2 ⟨rfl,o,v⟩;have ab:=zd (Ex.holds q o P);have X3:=zd (zb m i.1 j.1 j.2.2 w2 ab l.1 T.1 v oa);generalize Um Uj d i.1 j.1 j.2.2=r3 at *;have ad:=zd (ac.trans o);go_wp2_with fail;refine X3.mono ?_;rintro e w3 ⟨rfl,B,z⟩;have ae:=zd (ad.trans B);have aa:=zd z;go_wp2;go_ret;rw[zb HT];exact⟨rfl,ae,aa⟩
theorem zej (h:Ut (M Ug) w g off d)(t:1<=a)(q:a+1<d.size)(p:f≠g)(b:CO w f (s:Nat))(o:s<1000)(n:d.size<1099511627776):Uh V 226 #[K (I ⟨g,off,U⟩) d.size cap,M J a,Ua (I ⟨f,0,U⟩)] w λe j=>e=R (M J ((Ul Uj d a s).1:Nat))/\zg (zr f) w j/\CO j f ((Ul Uj d a s).2:Nat):=by have c:=zd (zfn g off cap (a-1) a (a+1) f s d w h oa oa oa p b o n);rw[show((a-1:Nat):Int)=(a:Int)-1 by omega,show((a+1:Nat):Int)=(a:Int)+1 by omega] at c;have m:H (Ul Uj d a s=Uo Uj d (a-1) a (a+1) s):=rfl;generalize Ul Uj d a s=u at *;generalize Uo Uj d (a-1) a (a+1) s=r at *;go_enter func226,ntmps226;go_wp2_with(go_at_call 227;refine c.mono ?_;rintro e v ⟨rfl,i,b⟩;have l:=zd i;have k:=zd b);go_ret;rw[zb m];exact⟨rfl,l,k⟩
theorem Vu {P:Aj}{d:Array Int}{a b s:Nat}(c:P a)(e:P b):P (Um Uj d a b s).1/\P (Um Uj d a b s).2.1/\(Um Uj d a b s).2.2<=s+1:=by unfold Um;split;exact⟨e,c,AD _⟩;exact⟨c,e,Is _⟩
theorem QY {P:Aj}{d:Array Int}{a b c s:Nat}(h:P a)(i:P b)(j:P c):P (Uo Uj d a b c s).1/\(Uo Uj d a b c s).2<=s+3:=by have e:=Vu (d:=d) (s:=s) h i;have g:=Vu (d:=d) (s:=(Um Uj d a b s).2.2) e.2.1 j;have f:=Vu (d:=d) (s:=(Um Uj d (Um Uj d a b s).2.1 c (Um Uj d a b s).2.2).2.2) e.1 g.1;refine⟨f.2.1,?_⟩;have:=f.2.2;show(Um Uj d (Um Uj d a b s).1 _ _).2.2<=_;omega
def YM:Sort.Hint->Int
 | .unknown=>0
 | .increasing=>1
 | .decreasing=>2
theorem zgB {d:Array Int}{a L q:Nat}(c:50<=L)(b:q=L / 4):Sort.choosePivot Uj d a (a+L)=((Uo Uj d (Ul Uj d (a+q) 0).1 (Ul Uj d (a+q*2) (Ul Uj d (a+q) 0).2).1 (Ul Uj d (a+q*3) (Ul Uj d (a+q*2) (Ul Uj d (a+q) 0).2).2).1 (Ul Uj d (a+q*3) (Ul Uj d (a+q*2) (Ul Uj d (a+q) 0).2).2).2).1,if(Uo Uj d (Ul Uj d (a+q) 0).1 (Ul Uj d (a+q*2) (Ul Uj d (a+q) 0).2).1 (Ul Uj d (a+q*3) (Ul Uj d (a+q*2) (Ul Uj d (a+q) 0).2).2).1 (Ul Uj d (a+q*3) (Ul Uj d (a+q*2) (Ul Uj d (a+q) 0).2).2).2).2=0 then .increasing else if(Uo Uj d (Ul Uj d (a+q) 0).1 (Ul Uj d (a+q*2) (Ul Uj d (a+q) 0).2).1 (Ul Uj d (a+q*3) (Ul Uj d (a+q*2) (Ul Uj d (a+q) 0).2).2).1 (Ul Uj d (a+q*3) (Ul Uj d (a+q*2) (Ul Uj d (a+q) 0).2).2).2).2=12 then .decreasing else .unknown):=by unfold Sort.choosePivot;simp only[Nat.add_sub_cancel_left,<-b,FJ];rw[IN oa,IN oa]
theorem zb8 {d:Array Int}{a L q:Nat}(c:¬50<=L)(e:8<=L)(b:q=L / 4):Sort.choosePivot Uj d a (a+L)=((Uo Uj d (a+q) (a+q*2) (a+q*3) 0).1,if(Uo Uj d (a+q) (a+q*2) (a+q*3) 0).2=0 then .increasing else if(Uo Uj d (a+q) (a+q*2) (a+q*3) 0).2=12 then .decreasing else .unknown):=by unfold Sort.choosePivot;simp only[Nat.add_sub_cancel_left,<-b,FJ];rw[IN oa,iN oa]
theorem II (h:Ut (M Ug) w g off d)(a6:g<w.heap.size)(a4:a+12<b)(hb:b<=d.size)(hn:d.size<1099511627776):Uh V 197 #[K (I ⟨g,off,U⟩) d.size cap,M J a,M J b] w λe n=>e=R (Ue #[M J ((Sort.choosePivot Uj d a b).1:Nat),M J (YM (Sort.choosePivot Uj d a b).2)])/\zke w n:=by
 have HH:=zd h;clear h;obtain⟨L,rfl⟩:∃L,b=a+L:=⟨b-a,oa⟩
 obtain⟨q,p⟩:∃q,q=L / 4:=⟨_,rfl⟩
 have aH:(L:Int).tdiv 4=q:=by rw[p];rfl
 have aI:(L:Int) / 4=q:=by rw[p];rfl
 have a7:4*q<=L/\L<4*q+4:=oa;have e0:(a:Int)+L-a=L:=oa;have e1:((a+q:Nat):Int)=(a:Int)+q:=oa;have e2:((a+q*2:Nat):Int)=(a:Int)+q*2:=oa;have e3:((a+q*3:Nat):Int)=(a:Int)+q*3:=oa;have T:H (zke w (w.alloc (Ub #[M J 0] 3))):=Ag;have HR:=zd (Ex.holds HH T id);have ao:H (CO (w.alloc (Ub #[M J 0] 3)) w.heap.size ((0:Nat):Int)):=⟨zj w _ rfl _ _ 0 _ rfl,zt w _ rfl _ _ 0⟩
 have al:w.heap.size≠g:=oa;have hm:¬zr w.heap.size g:=λe=>al e.symm;have r:H (∀S B:E,zke w S->zg (zr w.heap.size) S B->zke w B):=λS B hA hB=>zei hA hB;have X:H (∀(x s:Nat) (W:E),Ut (M Ug) W g off d->1<=x->x+1<d.size->CO W w.heap.size (s:Nat)->s<1000->Uh V 226 #[K (I ⟨g,off,U⟩) d.size cap,M J x,Ua (I ⟨w.heap.size,0,U⟩)] W λe n=>e=R (M J ((Ul Uj d x s).1:Nat))/\zg (zr w.heap.size) W n/\CO n w.heap.size ((Ul Uj d x s).2:Nat)):=λx s W h1 h2 h3 h4 h5=>zej g off cap x w.heap.size s d W h1 h2 h3 al h4 h5 hn;have au:H (∀(x y z s:Nat) (W:E),Ut (M Ug) W g off d->x<d.size->y<d.size->z<d.size->CO W w.heap.size (s:Nat)->s<1000->Uh V 227 #[K (I ⟨g,off,U⟩) d.size cap,M J x,M J y,M J z,Ua (I ⟨w.heap.size,0,U⟩)] W λe n=>e=R (M J ((Uo Uj d x y z s).1:Nat))/\zg (zr w.heap.size) W n/\CO n w.heap.size ((Uo Uj d x y z s).2:Nat)):=λx y z s W h1 h2 h3 h4 h5 h6=>zfn g off cap x y z w.heap.size s d W h1 h2 h3 h4 al h5 h6 hn;go_enter func197,ntmps197;by_cases aB:50<=L
 .have k:=zd (zgB (d:=d) (a:=a) aB p);generalize Sort.choosePivot Uj d a (a+L)=aW at *;clear p aH;go_wp2_with fail;try simp only[e0,aI]
  generalize w.alloc (Ub #[M J 0] 3)=w0 at *;have p1:=QY (P:=λx=>a<=x/\x<a+L) (d:=d) (a:=a+q-1) (b:=a+q) (c:=a+q+1) (s:=0) oa oa oa;have i:=zb X (a+q) 0 w0 HR oa oa ao oa;rw[show Uo Uj d (a+q-1) (a+q) (a+q+1) 0=Ul Uj d (a+q) 0 from rfl] at p1;generalize Ul Uj d (a+q) 0=l at *;rw[e1] at i;refine i.mono ?_;clear i;rintro e w1 ⟨rfl,ah,aC⟩;have aJ:=zd (zb r _ _ T ah);have av:=zd (Ex.holds HR ah hm);have p2:=QY (P:=λx=>a<=x/\x<a+L) (d:=d) (a:=a+q*2-1) (b:=a+q*2) (c:=a+q*2+1) (s:=l.2) oa oa oa;have ap:=zd (zb X (a+q*2) l.2 w1 av oa oa aC oa);rw[show Uo Uj d (a+q*2-1) (a+q*2) (a+q*2+1) l.2=Ul Uj d (a+q*2) l.2 from rfl] at p2;generalize Ul Uj d (a+q*2) l.2=m at *;clear ah aC;go_wp2_with fail;have i:=zb ap;rw[e2] at i;refine i.mono ?_;clear i ap;rintro e w2 ⟨rfl,ai,aD⟩;have aK:=zd (zb r _ _ aJ ai);have aw:=zd (Ex.holds av ai hm);have p3:=QY (P:=λx=>a<=x/\x<a+L) (d:=d) (a:=a+q*3-1) (b:=a+q*3) (c:=a+q*3+1) (s:=m.2) oa oa oa;have aq:=zd (zb X (a+q*3) m.2 w2 aw oa oa aD oa);rw[show Uo Uj d (a+q*3-1) (a+q*3) (a+q*3+1) m.2=Ul Uj d (a+q*3) m.2 from rfl] at p3;generalize Ul Uj d (a+q*3) m.2=F at *;clear ai aD;go_wp2_with fail;have i:=zb aq;rw[e3] at i;refine i.mono ?_;clear i aq;rintro e w3 ⟨rfl,aj,aE⟩;have aL:=zd (zb r _ _ aK aj);have aO:=zd (Ex.holds aw aj hm);have ar:=zd (zb au l.1 m.1 F.1 F.2 w3 aO oa oa oa aE oa);generalize Uo Uj d l.1 m.1 F.1 F.2=r4 at *;clear aj aE;go_wp2_with fail;refine ar.mono ?_;clear ar;rintro e w4 ⟨rfl,u,t⟩;have o:=zd (zb r _ _ aL u);have c4:=t.1;clear u t;have⟨x4,j⟩:=r4;simp only[] at k c4 ⊢;by_cases v:j=0
  .subst v;go_wp2_with fail;go_ret2;rw[zb k];exact⟨rfl,o⟩
  by_cases N:j=12
  .subst N;go_wp2_with fail;go_ret2;rw[zb k];exact⟨rfl,o⟩
  have y0:((j:Int) == 0)=Z:=ou;have y1:((j:Int) == 12)=Z:=ou;go_wp2_with fail;go_ret2;rw[zb k,iN v,iN N];exact⟨rfl,o⟩
 have k:=zd (zb8 (d:=d) (a:=a) aB oa p);generalize Sort.choosePivot Uj d a (a+L)=aW at *;clear p aH;go_wp2_with fail;try simp only[e0,aI]
 generalize w.alloc (Ub #[M J 0] 3)=w0 at *;have p4:=QY (P:=λx=>a<=x/\x<a+L) (d:=d) (a:=a+q) (b:=a+q*2) (c:=a+q*3) (s:=0) oa oa oa;have i:=zb au (a+q) (a+q*2) (a+q*3) 0 w0 HR oa oa oa ao oa;generalize Uo Uj d (a+q) (a+q*2) (a+q*3) 0=r4 at *;rw[e1,e2,e3] at i;refine i.mono ?_;clear i;rintro e w4 ⟨rfl,u,t⟩;have o:=zd (zb r _ _ T u);have c4:=t.1;clear u t;have⟨x4,j⟩:=r4;simp only[] at k c4 p4 ⊢;by_cases v:j=0
 .subst v;go_wp2_with fail;go_ret2;rw[zb k];exact⟨rfl,o⟩
 have N:j≠12:=oa;have y0:((j:Int) == 0)=Z:=ou;have y1:((j:Int) == 12)=Z:=ou;go_wp2_with fail;go_ret2;rw[zb k,iN v,iN N];exact⟨rfl,o⟩
def Iy (b i:Nat)(d:Array Int):Array Int:=if b-i≥2 then Sort.shiftUp Uj b (i+1) d else d
variable {b d}
theorem F1 (h:b-i≥2):Iy b i d=Sort.shiftUp Uj b (i+1) d:=IN h
theorem Ix (h:¬b-i≥2):Iy b i d=d:=iN h
def Kl (a b k i:Nat)(d:Array Int):Array Int×Bool:=if i=b then(d,G) else if b-a<50 then(d,Z) else Uu Uj a b k i (Iy b i (if i-a≥2 then Sort.shiftDown Uj (i-1) (Us d i (i-1)) else Us d i (i-1)))
theorem za1 (b k i:Nat)(d:Array Int):Uu Uj a b (k+1) i d=Kl a b k (Sort.scanSorted Uj d b i) d:=rfl
theorem zfo {b i:Nat}(h:i<b)(a:Uj d[i]! d[i-1]! = Z):Sort.scanSorted Uj d b i=Sort.scanSorted Uj d b (i+1):=by
 conv=>lhs;unfold Sort.scanSorted
 rw[IN (by rw[a];simp[h])]
theorem JM {b i:Nat}(h:¬i<b\/Uj d[i]! d[i-1]! = G):Sort.scanSorted Uj d b i=i:=by unfold Sort.scanSorted;rw[iN (by obtain h|h:=h;simp[h];rw[h];simp)]
theorem Gd (h:1<=j)(a:Uj d[j]! d[j-1]! = Z):Sort.shiftDown Uj j d=d:=by
 obtain⟨k,rfl⟩:∃k,j=k+1:=⟨j-1,oa⟩
 unfold Sort.shiftDown;rw[IN (by simp at a;rw[a];rfl)]
theorem L1 (h:1<=j)(a:Uj d[j]! d[j-1]! = G):Sort.shiftDown Uj j d=Sort.shiftDown Uj (j-1) (Us d j (j-1)):=by
 obtain⟨k,rfl⟩:∃k,j=k+1:=⟨j-1,oa⟩
 conv=>lhs;unfold Sort.shiftDown
 rw[iN (by simp at a;rw[a];decide)];rfl
theorem Ga {b j:Nat}(h:j<b)(a:Uj d[j]! d[j-1]! = Z):Sort.shiftUp Uj b j d=d:=by unfold Sort.shiftUp;rw[IN h,IN (by rw[a];rfl)]
theorem LP {b j:Nat}(h:j<b)(a:Uj d[j]! d[j-1]! = G):Sort.shiftUp Uj b j d=Sort.shiftUp Uj b (j+1) (Us d j (j-1)):=by
 conv=>lhs;unfold Sort.shiftUp
 rw[IN h,iN (by rw[a];decide)]
theorem ID {b j:Nat}(h:¬j<b):Sort.shiftUp Uj b j d=d:=by unfold Sort.shiftUp;rw[iN h]
variable (b d)
theorem DX (h:Ut (M Ug) w g off d)(az:a<b)(hb:b<=d.size)(hn:d.size<1099511627776):Uh V 199 #[K (I ⟨g,off,U⟩) d.size cap,M J a,M J b] w λe w'=>e=R (C (Sort.partialInsertionSort Uj d a b).2)/\Ex w g off (Sort.partialInsertionSort Uj d a b).1 w':=by
 have HH:=zd (Ex.refl h);clear h;generalize hN:d.size=N at *;have HN:=zd hN;clear hN;have HT:H (Sort.partialInsertionSort Uj d a b=Uu Uj a b (5-0) (a+1) d):=rfl;generalize Sort.partialInsertionSort Uj d a b=v at *;go_enter func199,ntmps199;go_wp2;go_loopw[7,8] (λS vs wr=>∃(i s:Nat) (o:Array Int),S=M J i/\vs=M J s/\a<i/\i<=b/\s<=5/\H (o.size=N)/\H (Ex w g off o wr)/\H (v=Uu Uj a b (5-s) i o)) (λS vs _=>5-(intOf vs).toNat)
 .exact⟨a+1,0,d,Ae,rfl,oa,oa,oa,HN,HH,HT⟩
 clear HN HH HT;obtain⟨i0,s,o,rfl,rfl,ao,ap,hs,m,f,k⟩:=hrel;by_cases h5:s<5
 .have ax:(s:Int)<5:=oa;have ad:H (v=Kl a b (4-s) (Sort.scanSorted Uj o b i0) o):=(by show _=_;rw[zb k,show 5-s=(4-s)+1 by omega,za1]);clear k;go_wp2;go_loopw[7] (λS wr=>∃i:Nat,S=M J i/\a<i/\i<=b/\H (Ex w g off o wr)/\H (v=Kl a b (4-s) (Sort.scanSorted Uj o b i) o)) (λS _=>b-(intOf S).toNat);exact⟨i0,rfl,ao,ap,f,ad⟩;clear f ad;obtain⟨i,rfl,aA,aG,f,k⟩:=hrel;by_cases am:i<b
  .have aN:((i:Int) == (b:Int))=Z:=ou;have⟨c,HG,B,F⟩:=f.OI m;by_cases av:(b:Int)-a<50
   .go_wp2;go_big_quiet(first|(go_at_call 200;refine Uq (zV _ _ _)));go_wp2_with fail
    .have u:Uj (c i) (c (i-1))=Z:=(by have q:(!Uj (c i) (c (i-1)))=G:=ox;simpa using q);have r:H (v=Kl a b (4-s) (Sort.scanSorted Uj o b (i+1)) o):=(by show _=_;rw[zb k,zfo am (by rw[<-zb HG,<-zb HG];exact u)]);go_roundw
     .exact⟨i+1,Ae,oa,oa,f.drewN _,r⟩
     simp[intOf];omega
    have u:Uj (c i) (c (i-1))=G:=(by have q:(!Uj (c i) (c (i-1)))=Z:=ox;simpa using q);have r:H (v=(o,Z)):=(by show _=_;rw[zb k,JM (O (by rw[<-zb HG,<-zb HG];exact u))];unfold Kl;rw[iN oa,IN oa]);go_ret;rw[zb r];exact⟨rfl,f.drewN _⟩
   have aw:decide ((b:Int)-a<50)=Z:=ou;go_wp2;go_big_quiet(first|(go_at_call 200;refine Uq (zV _ _ _)));go_wp2_with fail
   .have u:Uj (c i) (c (i-1))=Z:=(by have q:(!Uj (c i) (c (i-1)))=G:=ox;simpa using q);have r:H (v=Kl a b (4-s) (Sort.scanSorted Uj o b (i+1)) o):=(by show _=_;rw[zb k,zfo am (by rw[<-zb HG,<-zb HG];exact u)]);go_roundw
    .exact⟨i+1,Ae,oa,oa,f.drewN _,r⟩
    simp[intOf];omega
   have u:Uj (c i) (c (i-1))=G:=(by have q:(!Uj (c i) (c (i-1)))=Z:=ox;simpa using q);have ae:H (v=Uu Uj a b (4-s) i (Iy b i (if i-a≥2 then Sort.shiftDown Uj (i-1) ((o.setIfInBounds i (c (i-1))).setIfInBounds (i-1) (c i)) else(o.setIfInBounds i (c (i-1))).setIfInBounds (i-1) (c i)))):=(by show _=_;rw[zb k,JM (O (by rw[<-zb HG,<-zb HG];exact u)),jb HG];unfold Kl;rw[iN oa,iN oa]);have ac:H (((o.setIfInBounds i (c (i-1))).setIfInBounds (i-1) (c i)).size=N):=by show _=_;simp;exact m
   revert nq;intro x
   have P:=zd (f.drewN x);have ak:∀t,t<N->(wr.drewN x).cell? ⟨g,off+t,U⟩=I (M Ug (c t)):=B;have al:∀t,t<N->(wr.drewN x).frozen? ⟨g,off+t,U⟩=Z:=F;clear f k HG B F u m;generalize wr.drewN x=T at *;go_region;have ai:=zd (P.two (p:=off+i) (q:=off+(i-1)) (n:=1) (y:=c (i-1)) (z:=c i) rfl rfl);generalize (o.setIfInBounds i (c (i-1))).setIfInBounds (i-1) (c i)=l at *;have f:=ai;have m:=ac;have k:=ae;clear ai ac ae P;go_upto_if 61 with fail;go_cut[9] from 13 to 132 (λ_ wx=>∃l:Array Int,H (l.size=N)/\H (Ex w g off l wx)/\H (v=Uu Uj a b (4-s) i (Iy b i l)))
   case first=>
    by_cases ay:2<=(i:Int)-a
    .go_wp2;go_loopw[9] (λL T=>∃(j:Nat) (l:Array Int),L=M J j/\j<i/\H (l.size=N)/\H (Ex w g off l T)/\H (v=Uu Uj a b (4-s) i (Iy b i (Sort.shiftDown Uj j l)))) (λL _=>(intOf L).toNat);exact⟨i-1,_,by congr 1;omega,oa,m,f,k.trans (by rw[IN oa])⟩;clear f m k;obtain⟨j,l,rfl,aK,m,f,k⟩:=hrel;by_cases aI:1<=(j:Int)
     .have⟨c,HG,B,F⟩:=f.OI m;go_wp2;go_big_quiet(first|(go_at_call 200;refine Uq (zV _ _ _)));go_wp2_with fail
      .have u:Uj (c j) (c (j-1))=Z:=(by have q:(!Uj (c j) (c (j-1)))=G:=ox;simpa using q);go_meet
       case rel=>exact⟨l,m,f.drewN _,by show _=_;rw[zb k,Gd oa (by rw[<-zb HG,<-zb HG];exact u)]⟩
      have u:Uj (c j) (c (j-1))=G:=(by have q:(!Uj (c j) (c (j-1)))=Z:=ox;simpa using q);have r:H (v=Uu Uj a b (4-s) i (Iy b i (Sort.shiftDown Uj (j-1) ((l.setIfInBounds j (c (j-1))).setIfInBounds (j-1) (c j))))):=(by show _=_;rw[zb k,L1 oa (by rw[<-zb HG,<-zb HG];exact u),jb HG]);have W:H (((l.setIfInBounds j (c (j-1))).setIfInBounds (j-1) (c j)).size=N):=by show _=_;simp;exact m
      revert nq;intro x
      have P:=zd (f.drewN x);have ak:∀t,t<N->(wr.drewN x).cell? ⟨g,off+t,U⟩=I (M Ug (c t)):=B;have al:∀t,t<N->(wr.drewN x).frozen? ⟨g,off+t,U⟩=Z:=F;clear f m k HG B F u;generalize wr.drewN x=T at *;go_region;go_wp2;go_roundw
      case rel=>exact⟨j-1,_,by congr 1;omega,oa,W,P.two oa oa,r⟩
      case measure=>simp[intOf];omega
     obtain rfl:j=0:=oa;go_wp2;go_meet
     case rel=>exact⟨l,m,f,k⟩
    go_wp2;go_meet
    case rel=>exact⟨l,m,f,k.trans (by rw[iN oa])⟩
   case rest=>
    clear f m k;have⟨l,m,f,X⟩:=hcut;by_cases aC:2<=(b:Int)-i
    .have k:=zd (X.trans (by rw[F1 (show b-i≥2 by omega)]));clear X;go_wp2;go_loopw[10] (λL T=>∃(j:Nat) (l:Array Int),L=M J j/\i<j/\j<=b/\H (l.size=N)/\H (Ex w g off l T)/\H (v=Uu Uj a b (4-s) i (Sort.shiftUp Uj b j l))) (λL _=>b-(intOf L).toNat)
     .exact⟨i+1,_,Ae,oa,oa,m,f,k⟩
     clear f m k;obtain⟨j,l,rfl,aH,aJ,m,f,k⟩:=hrel;by_cases aa:j<b
     .have⟨c,HG,B,F⟩:=f.OI m;go_wp2;go_big_quiet(first|(go_at_call 200;refine Uq (zV _ _ _)));go_wp2_with fail
      .have u:Uj (c j) (c (j-1))=Z:=(by have q:(!Uj (c j) (c (j-1)))=G:=ox;simpa using q);have r:H (v=Uu Uj a b (4-s) i l):=(by show _=_;rw[zb k,Ga aa (by rw[<-zb HG,<-zb HG];exact u)]);go_roundw
       .exact⟨i,s+1,_,rfl,Ae,oa,oa,oa,m,f.drewN _,by rw[show 5-(s+1)=4-s by omega];exact r⟩
       simp[intOf];omega
      have u:Uj (c j) (c (j-1))=G:=(by have q:(!Uj (c j) (c (j-1)))=Z:=ox;simpa using q);have r:H (v=Uu Uj a b (4-s) i (Sort.shiftUp Uj b (j+1) ((l.setIfInBounds j (c (j-1))).setIfInBounds (j-1) (c j)))):=(by show _=_;rw[zb k,LP aa (by rw[<-zb HG,<-zb HG];exact u),jb HG]);have W:H (((l.setIfInBounds j (c (j-1))).setIfInBounds (j-1) (c j)).size=N):=by show _=_;simp;exact m
      revert nq;intro x
      have P:=zd (f.drewN x);have ak:∀t,t<N->(wr.drewN x).cell? ⟨g,off+t,U⟩=I (M Ug (c t)):=B;have al:∀t,t<N->(wr.drewN x).frozen? ⟨g,off+t,U⟩=Z:=F;clear f m k HG B F u;generalize wr.drewN x=T at *;go_region;go_wp2;go_roundw
      case rel=>exact⟨j+1,_,Ae,oa,oa,W,P.two oa oa,r⟩
      case measure=>simp[intOf];omega
     have r:H (v=Uu Uj a b (4-s) i l):=(by show _=_;rw[zb k,ID aa]);go_wp2;go_roundw
     .exact⟨i,s+1,_,rfl,Ae,oa,oa,oa,m,f,by rw[show 5-(s+1)=4-s by omega];exact r⟩
     simp[intOf];omega
    have r:H (v=Uu Uj a b (4-s) i l):=X.trans (by rw[Ix (show ¬b-i≥2 by omega)]);have aD:decide (2<=(b:Int)-i)=Z:=ou;go_wp2;go_roundw
    .exact⟨i,s+1,_,rfl,Ae,oa,oa,oa,m,f,by rw[show 5-(s+1)=4-s by omega];exact r⟩
    simp[intOf];omega
  obtain rfl:i=b:=oa;have hg:decide ((i:Int)<(i:Int))=Z:=ov;have r:H (v=(o,G)):=(by show _=_;rw[zb k,JM (Q oa)];unfold Kl;rw[IN rfl]);go_wp2;go_big_quiet(first|(go_at_call 200;refine Uq (zV _ _ _)));go_wp2;go_ret;rw[zb r];exact⟨rfl,f.drewN _⟩
 have r:H (v=(o,Z)):=(by show _=_;rw[zb k,show 5-s=0 by omega];rfl);go_wp2;go_ret;rw[zb r];exact⟨rfl,f⟩
def BU (w:E)(g off N:Nat)(a:Nat->Int):Prop:=(∀t,t<N->w.cell? ⟨g,off+t,U⟩=I (M Ug (a t)))/\∀t,t<N->w.frozen? ⟨g,off+t,U⟩=Z
def FN (a i j b c:Nat)(d:Array Int):Nat×Array Int:=if b > c then(b,d) else if(c-1)+1-(b+1)<j+1-i then Sort.partEqLoop Uj a (b+1) (c-1) (Us d b c) else(b,d)
def Mj (a i j b:Nat)(d:Array Int):Nat×Array Int:=FN a i j b (Up (λx=>Uj d[a]! x) d b j) d
theorem zgC (i j:Nat)(d:Array Int):Sort.partEqLoop Uj a i j d=Mj a i j (Uv (λx=>!Uj d[a]! x) d j i) d:=by
 conv=>lhs;unfold Sort.partEqLoop
 unfold Mj FN;simp only[];split;rfl;split<;>rfl
variable {d}
theorem C8 {i:Nat}(h:i<=j)(a:p d[i]! = G):Uv p d j i=Uv p d j (i+1):=by
 conv=>lhs;unfold Uv
 rw[IN (by rw[a];simp[h])]
theorem XO {i:Nat}(h:¬i<=j\/p d[i]! = Z):Uv p d j i=i:=by unfold Uv;rw[iN (by obtain h|h:=h;simp[h];rw[h];simp)]
theorem E6 {i:Nat}(b:1<=j)(h:i<=j)(a:p d[j]! = G):Up p d i j=Up p d i (j-1):=by
 obtain⟨k,rfl⟩:∃k,j=k+1:=⟨j-1,oa⟩
 conv=>lhs;unfold Up
 rw[IN (by rw[a];simp[h])];rfl
theorem NG {i:Nat}(a:p d[j]! = Z):Up p d i j=j:=by
 cases j with
 |zero=>rfl
 |succ k=>
  unfold Up;rw[iN (by rw[a];simp)]
theorem MV {i:Nat}(h:¬i<=j):Up p d i j=j:=by
 cases j with
 |zero=>rfl
 |succ k=>
  unfold Up;rw[iN (by simp[h])]
theorem Ex.drew {a b:E}{g off:Nat}{d:Array Int}(h:Ex a g off d b):Ex a g off d b.drew:=⟨h.1.drew,h.2⟩
theorem Gk (p:Nat)(d:Array Int)(w:E)(h:Ut (M Ug) w g off d)(au:a<=p)(aJ:p<b)(hb:b<=d.size)(hn:d.size<1099511627776):Uh V 201 #[K (I ⟨g,off,U⟩) d.size cap,M J a,M J b,M J p] w λe w'=>e=R (M J ((Sort.partitionEqual Uj d a b p).1:Nat))/\Ex w g off (Sort.partitionEqual Uj d a b p).2 w':=by
 have P:=zd (Ex.refl h);clear h;generalize S:d.size=N at *;have⟨n,ab,r,s⟩:=P.OI S;have ad:H (Sort.partitionEqual Uj d a b p=Sort.partEqLoop Uj a (a+1) (b-1) (Us d a p)):=rfl;have F:H ((Us d a p).size=N):=by show _=_;rw[QX];exact S
 clear S;generalize Sort.partitionEqual Uj d a b p=y at *;have HT:H (y=Sort.partEqLoop Uj a (a+1) (b-1) (Us d a p)):=ad;clear ad;go_enter func201,ntmps201;have ak:p<N:=oa;have d2:=r p ak;have g2:=s p ak;have d1:=r a oa;have g1:=s a oa;obtain aI|rfl:=FS au
 all_goals
  go_wp2;go_region;go_wp2;clear d1 d2 g1 g2 r s;go_loopw[9,10] (λB z wr=>∃(i j:Nat) (f:Array Int),B=M J i/\z=M J j/\a<i/\i<=j+1/\j<b/\H (f.size=N)/\H (Ex w g off f wr)/\H (y=Sort.partEqLoop Uj a i j f)) (λB z _=>(intOf z+1-intOf B).toNat)
  case atStart=>exact⟨a+1,b-1,_,Ae,by congr 1;omega,oa,oa,oa,F,(by show Ex _ _ _ _ _;rw[<-jb ab];first|exact((P.set a _).set _ _).drew|exact P.two rfl rfl),HT⟩
  case round=>
   clear P F HT ab;obtain⟨i,j,f,rfl,rfl,aA,aw,aE,F,m,o⟩:=hrel;have⟨n,HG,r,s⟩:=m.OI F;have k:H (BU wr g off N n):=⟨r,s⟩
   have aa:H (y=Mj a i j (Uv (λx=>!Uj f[a]! x) f j i) f):=(by show _=_;rw[zb o,zgC]);clear o;go_wp2;go_loopw[9] (λB al=>∃c:Nat,B=M J c/\i<=c/\c<=j+1/\H (Ex w g off f al)/\H (BU al g off N n)/\H (y=Mj a i j (Uv (λx=>!Uj f[a]! x) f j c) f)) (λB _=>j+1-(intOf B).toNat);exact⟨i,rfl,AD _,aw,m,k,aa⟩;clear m k aa r s;obtain⟨c,rfl,aB,ah,m,k,o⟩:=hrel;have⟨r,s⟩:=zb k;by_cases aj:c<=j
   .go_wp2;go_big_quiet(first|(go_at_call 200;refine Uq (zV _ _ _)));go_wp2_with fail
    .have T:Uj (n a) (n c)=Z:=(by have q:(!Uj (n a) (n c))=G:=ox;simpa using q);have t:H (y=Mj a i j (Uv (λx=>!Uj f[a]! x) f j (c+1)) f):=(by show _=_;rw[zb o,C8 aj (by show(!Uj f[a]! f[c]!)=G;rw[<-zb HG,<-zb HG,T];rfl)]);go_roundw
     .exact⟨c+1,Ae,oa,oa,m.drewN _,k,t⟩
     simp[intOf];omega
    have ae:Uj (n a) (n c)=G:=(by simpa using(by assumption:(!Uj (n a) (n c))=Z));have t:H (y=FN a i j c (Up (λx=>Uj f[a]! x) f c j) f):=(by show _=_;rw[zb o,XO (O (by show(!Uj f[a]! f[c]!)=Z;rw[<-zb HG,<-zb HG,ae];rfl))];rfl);clear o;have o:=t;clear t
    revert nq;intro W
    have v:=zd (m.drewN W);have u:H (BU (wr.drewN W) g off N n):=zb k;clear r s m k;generalize wr.drewN W=az at *;have m:=v;have k:=u;clear v u;have⟨r,s⟩:=zb k;go_loopw[10] (λz L=>∃l:Nat,z=M J l/\c<=l+1/\l<=j/\H (Ex w g off f L)/\H (BU L g off N n)/\H (y=FN a i j c (Up (λx=>Uj f[a]! x) f c l) f)) (λz _=>(intOf z).toNat)
    case atStart=>exact⟨j,rfl,oa,AD _,m,k,o⟩
    case round=>
     clear m k o r s;obtain⟨l,rfl,ah,ax,m,k,o⟩:=hrel;by_cases ai:c<=l
     .have ag:decide ((l:Int)<(c:Int))=Z:=ou;have⟨r,s⟩:=zb k;go_wp2;go_big_quiet(first|(go_at_call 200;refine Uq (zV _ _ _)));go_wp2_with fail
      .have T:Uj (n a) (n l)=G:=ox;have t:H (y=FN a i j c (Up (λx=>Uj f[a]! x) f c (l-1)) f):=(by show _=_;rw[zb o,E6 oa ai (by show Uj f[a]! f[l]! = G;rw[<-zb HG,<-zb HG];exact T)]);go_roundw;exact⟨l-1,by congr 1;omega,oa,oa,m.drewN _,k,t⟩;simp[intOf];omega
      (have af:Uj (n a) (n l)=Z:=ox;have aG:c<l:=by obtain h|h:=FU c l;exact h;obtain rfl:c=l:=oa;exact absurd af (by rw[ae];simp));have t:H (y=Sort.partEqLoop Uj a (c+1) (l-1) ((f.setIfInBounds c (n l)).setIfInBounds l (n c))):=(by show _=_;rw[zb o,NG (by show Uj f[a]! f[l]! = Z;rw[<-zb HG,<-zb HG];exact af),jb HG];unfold FN;rw[iN oa,IN oa]);have an:H (((f.setIfInBounds c (n l)).setIfInBounds l (n c)).size=N):=by show _=_;simp;exact F
      revert nq;intro X
      have v:=zd (m.drewN X);have u:H (BU (wr.drewN X) g off N n):=zb k;clear r s m k;generalize wr.drewN X=am at *;have m:=v;have k:=u;clear v u;have⟨r,s⟩:=zb k;clear o HG;go_region;go_wp2;go_roundw
      case rel=>exact⟨c+1,l-1,_,Ae,by congr 1;omega,oa,oa,oa,an,m.two oa oa,t⟩
      case measure=>simp[intOf];omega
     skip
     have ag:(l:Int)<(c:Int):=oa;have av:decide ((c:Int)<=(l:Int))=Z:=ou;have t:H (y=(c,f)):=(by show _=_;rw[zb o,MV oa];unfold FN;rw[IN oa]);have⟨r,s⟩:=zb k;go_wp2;go_big_quiet(first|(go_at_call 200;refine Uq (zV _ _ _)));go_wp2_with fail;have v:=zd (m.drewN nq);have u:H (BU (wr.drewN nq) g off N n):=zb k;clear r s m k;generalize wr.drewN nq=am at *;have m:=v;have k:=u;clear v u;go_ret;rw[zb t];exact⟨rfl,m⟩
   have aD:decide ((c:Int)<=(j:Int))=Z:=ou;have t:H (y=FN a i j c (Up (λx=>Uj f[a]! x) f c j) f):=(by show _=_;rw[zb o,XO (Q aj)];rfl);clear o;have o:=t;clear t;go_wp2;go_big_quiet(first|(go_at_call 200;refine Uq (zV _ _ _)));go_wp2_with fail;have v:=zd (m.drewN nq);have u:H (BU (wr.drewN nq) g off N n):=zb k;clear r s m k;generalize wr.drewN nq=az at *;have m:=v;have k:=u;clear v u;have⟨r,s⟩:=zb k;go_loopw[10] (λz L=>∃l:Nat,z=M J l/\c<=l+1/\l<=j/\H (Ex w g off f L)/\H (BU L g off N n)/\H (y=FN a i j c (Up (λx=>Uj f[a]! x) f c l) f)) (λz _=>(intOf z).toNat);exact⟨j,rfl,oa,AD _,m,k,o⟩;clear m k o r s;obtain⟨l,rfl,ah,ax,m,k,o⟩:=hrel;have ai:¬c<=l:=oa;have ag:(l:Int)<(c:Int):=oa;have av:decide ((c:Int)<=(l:Int))=Z:=ou;have t:H (y=(c,f)):=(by show _=_;rw[zb o,MV oa];unfold FN;rw[IN oa]);have⟨r,s⟩:=zb k;go_wp2;go_big_quiet(first|(go_at_call 200;refine Uq (zV _ _ _)));go_wp2_with fail;have v:=zd (m.drewN nq);have u:H (BU (wr.drewN nq) g off N n):=zb k;clear r s m k;generalize wr.drewN nq=am at *;have m:=v;have k:=u;clear v u;go_ret;rw[zb t];exact⟨rfl,m⟩
def IG (a i j c b:Nat)(d:Array Int):Nat×Array Int:=if c > b then(b,d) else if(b-1)+1-(c+1)<j+1-i then Sort.partLoop Uj a (c+1) (b-1) (Us d c b) else(b,d)
def L5 (a i j b:Nat)(d:Array Int):Nat×Array Int:=IG a i j b (Up (λx=>!Uj x d[a]!) d b j) d
def fin (a:Nat)(r:Nat×Array Int):Nat×Bool×Array Int:=(r.1,Z,Us r.2 r.1 a)
def Lw (a c b:Nat)(d:Array Int):Nat×Bool×Array Int:=if c > b then(b,G,Us d b a) else fin a (Sort.partLoop Uj a (c+1) (b-1) (Us d c b))
def MW (a j b:Nat)(d:Array Int):Nat×Bool×Array Int:=Lw a b (Up (λx=>!Uj x d[a]!) d b j) d
theorem Gj (i j:Nat)(d:Array Int):Sort.partLoop Uj a i j d=L5 a i j (Uv (λx=>Uj x d[a]!) d j i) d:=by
 conv=>lhs;unfold Sort.partLoop
 unfold L5 IG;simp only[];split;rfl;split<;>rfl
theorem L8 (p:Nat)(d:Array Int)(w:E)(h:Ut (M Ug) w g off d)(aG:a<=p)(aR:p<b)(hb:b<=d.size)(hn:d.size<1099511627776):Uh V 202 #[K (I ⟨g,off,U⟩) d.size cap,M J a,M J b,M J p] w λe w'=>e=R (Ue #[M J ((Sort.partition Uj d a b p).1:Nat),C (Sort.partition Uj d a b p).2.1])/\Ex w g off (Sort.partition Uj d a b p).2.2 w':=by
 have HH:=zd (Ex.refl h);clear h;generalize hN:d.size=N at *;have⟨m,ay,r,s⟩:=HH.OI hN;have az:H (Sort.partition Uj d a b p=MW a (b-1) (Uv (λx=>Uj x (Us d a p)[a]!) (Us d a p) (b-1) (a+1)) (Us d a p)):=rfl;have S:H ((Us d a p).size=N):=by show _=_;rw[QX];exact hN
 clear hN;generalize Sort.partition Uj d a b p=v at *;have HT:H (v=MW a (b-1) (Uv (λx=>Uj x (Us d a p)[a]!) (Us d a p) (b-1) (a+1)) (Us d a p)):=az;clear az;go_enter func202,ntmps202;have aD:p<N:=oa;have d2:=r p aD;have g2:=s p aD;have d1:=r a oa;have g1:=s a oa;obtain aQ|rfl:=FS aG
 all_goals
  go_wp2;go_region;go_upto_block 0 with fail;clear d1 d2 g1 g2 r s
  first
   |(obtain⟨k,ap⟩:∃k,k=Us d a p:=⟨_,rfl⟩;have ad:=zd (((HH.set a (m p)).set p (m a)).drew))
   |(obtain⟨k,ap⟩:∃k,k=Us d a a:=⟨_,rfl⟩;have ad:=zd (((HH.set a (m a)).set a (m a)).drew))
  rw[jb ay] at ad;rw[<-ap] at S HT ad;obtain⟨i,c⟩:∃i,i=a+1:=⟨_,rfl⟩
  obtain⟨j,hj⟩:∃j,j=b-1:=⟨_,rfl⟩
  have e1:(a:Int)+1=(i:Nat):=oa
  have e2:(b:Int)-1=(j:Nat):=oa
  have aE:a<i:=oa
  have ar:i<=j+1:=oa
  have aK:j<b:=oa
  rw[<-c,<-hj] at HT;simp only[e1,e2];clear e1 e2 c hj ap HH ay;have n:=ad;have T:=HT;clear ad HT;have⟨m,HG,r,s⟩:=n.OI S;have o:H (BU _ g off N m):=⟨r,s⟩
  go_cut[10] from 12 to 167 (λaw wx=>∃f:Nat,aw=M J f/\i<=f/\f<=j+1/\(f<=j->Uj (m f) (m a)=Z)/\H (Ex w g off k wx)/\H (BU wx g off N m)/\H (v=Lw a f (Up (λx=>!Uj x k[a]!) k f j) k))
  case first=>
   go_wp2;go_loopw[10] (λB ae=>∃f:Nat,B=M J f/\i<=f/\f<=j+1/\H (Ex w g off k ae)/\H (BU ae g off N m)/\H (v=MW a j (Uv (λx=>Uj x k[a]!) k j f) k)) (λB _=>j+1-(intOf B).toNat);exact⟨i,rfl,AD _,ar,n,o,T⟩;clear n o T r s;obtain⟨f,rfl,W,P,n,o,t⟩:=hrel;have⟨r,s⟩:=zb o;by_cases aa:f<=j
   .go_wp2;go_big_quiet(first|(go_at_call 200;refine Uq (zV _ _ _)));go_wp2_with fail
    .have X:Uj (m f) (m a)=G:=ox;have u:H (v=MW a j (Uv (λx=>Uj x k[a]!) k j (f+1)) k):=(by show _=_;rw[zb t,C8 aa (by show Uj k[f]! k[a]! = G;rw[<-zb HG,<-zb HG];exact X)]);go_roundw
     .exact⟨f+1,Ae,oa,oa,n.drewN _,o,u⟩
     simp[intOf];omega
    have L:Uj (m f) (m a)=Z:=ox;go_meet
    case rel=>exact⟨f,rfl,W,P,λ_=>L,n.drewN _,o,by show _=_;rw[zb t,XO (O (by show Uj k[f]! k[a]! = Z;rw[<-zb HG,<-zb HG];exact L))];rfl⟩
   have aI:decide ((f:Int)<=(j:Int))=Z:=ou;go_wp2;go_big_quiet(first|(go_at_call 200;refine Uq (zV _ _ _)));go_wp2;go_meet
   case rel=>exact⟨f,rfl,W,P,λh=>absurd h aa,n.drewN _,o,by show _=_;rw[zb t,XO (Q aa)];rfl⟩
  case rest=>
   clear n o T r s;obtain⟨f,rfl,W,P,L,n,o,t⟩:=hcut;have⟨r,s⟩:=zb o;go_wp2;go_loopw[11] (λF af=>∃l:Nat,F=M J l/\f<=l+1/\l<=j/\H (Ex w g off k af)/\H (BU af g off N m)/\H (v=Lw a f (Up (λx=>!Uj x k[a]!) k f l) k)) (λF _=>(intOf F).toNat);exact⟨j,rfl,oa,AD _,n,o,t⟩;clear n o t r s;obtain⟨l,rfl,P,aJ,n,o,t⟩:=hrel;by_cases au:f<=l
   .have aq:decide ((l:Int)<(f:Int))=Z:=ou;have⟨r,s⟩:=zb o;go_wp2;go_big_quiet(first|(go_at_call 200;refine Uq (zV _ _ _)));go_wp2_with fail
    .have X:Uj (m l) (m a)=Z:=(by have q:(!Uj (m l) (m a))=G:=ox;simpa using q);have u:H (v=Lw a f (Up (λx=>!Uj x k[a]!) k f (l-1)) k):=(by show _=_;rw[zb t,E6 oa au (by show(!Uj k[l]! k[a]!)=G;rw[<-zb HG,<-zb HG,X];rfl)]);go_roundw;exact⟨l-1,by congr 1;omega,oa,oa,n.drewN _,o,u⟩;simp[intOf];omega
    (have ac:Uj (m l) (m a)=G:=(by simpa using(by assumption:(!Uj (m l) (m a))=Z));have aL:f<l:=by obtain h|h:=FU f l;exact h;obtain rfl:f=l:=oa;exact absurd ac (by rw[L oa];simp));have u:H (v=fin a (Sort.partLoop Uj a (f+1) (l-1) ((k.setIfInBounds f (m l)).setIfInBounds l (m f)))):=(by show _=_;rw[zb t,NG (by show(!Uj k[l]! k[a]!)=Z;rw[<-zb HG,<-zb HG,ac];rfl),jb HG];unfold Lw;rw[iN oa]);have ah:H (((k.setIfInBounds f (m l)).setIfInBounds l (m f)).size=N):=by show _=_;simp;exact S
    revert nq;intro ab
    have z:=zd (n.drewN ab);have y:H (BU (wr.drewN ab) g off N m):=zb o;clear r s n o;generalize wr.drewN ab=ax at *;have n:=z;have o:=y;clear z y;have⟨r,s⟩:=zb o;clear t HG;go_region;go_wp2;go_loopw[10,11] (λB F wr=>∃(i j:Nat) (k:Array Int),B=M J i/\F=M J j/\a<i/\i<=j+1/\j<b/\H (k.size=N)/\H (Ex w g off k wr)/\H (v=fin a (Sort.partLoop Uj a i j k))) (λB F _=>(intOf F+1-intOf B).toNat)
    case atStart=>exact⟨f+1,l-1,_,Ae,by congr 1;omega,oa,oa,oa,ah,n.two oa oa,u⟩
    case round=>
     clear n o S ah u r s L ac;obtain⟨i,j,k,rfl,rfl,aE,ar,aK,S,n,t⟩:=hrel;have⟨m,HG,r,s⟩:=n.OI S;have o:H (BU wr g off N m):=⟨r,s⟩
     have T:H (v=fin a (L5 a i j (Uv (λx=>Uj x k[a]!) k j i) k)):=(by show _=_;rw[zb t,Gj]);clear t;go_upto_block 6 with fail;go_cut[10] from 99 to 152 (λaw wx=>∃f:Nat,aw=M J f/\i<=f/\f<=j+1/\(f<=j->Uj (m f) (m a)=Z)/\H (Ex w g off k wx)/\H (BU wx g off N m)/\H (v=fin a (IG a i j f (Up (λx=>!Uj x k[a]!) k f j) k)))
     case first=>
      go_wp2;go_loopw[10] (λB ae=>∃f:Nat,B=M J f/\i<=f/\f<=j+1/\H (Ex w g off k ae)/\H (BU ae g off N m)/\H (v=fin a (L5 a i j (Uv (λx=>Uj x k[a]!) k j f) k))) (λB _=>j+1-(intOf B).toNat);exact⟨i,rfl,AD _,ar,n,o,T⟩;clear n o T r s;obtain⟨f,rfl,W,P,n,o,t⟩:=hrel;have⟨r,s⟩:=zb o;by_cases aa:f<=j
      .go_wp2;go_big_quiet(first|(go_at_call 200;refine Uq (zV _ _ _)));go_wp2_with fail
       .have X:Uj (m f) (m a)=G:=ox;have u:H (v=fin a (L5 a i j (Uv (λx=>Uj x k[a]!) k j (f+1)) k)):=(by show _=_;rw[zb t,C8 aa (by show Uj k[f]! k[a]! = G;rw[<-zb HG,<-zb HG];exact X)]);go_roundw
        .exact⟨f+1,Ae,oa,oa,n.drewN _,o,u⟩
        simp[intOf];omega
       have L:Uj (m f) (m a)=Z:=ox;go_meet
       case rel=>exact⟨f,rfl,W,P,λ_=>L,n.drewN _,o,by show _=_;rw[zb t,XO (O (by show Uj k[f]! k[a]! = Z;rw[<-zb HG,<-zb HG];exact L))];rfl⟩
      have aI:decide ((f:Int)<=(j:Int))=Z:=ou;go_wp2;go_big_quiet(first|(go_at_call 200;refine Uq (zV _ _ _)));go_wp2;go_meet
      case rel=>exact⟨f,rfl,W,P,λh=>absurd h aa,n.drewN _,o,by show _=_;rw[zb t,XO (Q aa)];rfl⟩
     case rest=>
      clear n o T r s;obtain⟨f,rfl,W,P,L,n,o,t⟩:=hcut;have⟨r,s⟩:=zb o;go_wp2;go_loopw[11] (λF af=>∃l:Nat,F=M J l/\f<=l+1/\l<=j/\H (Ex w g off k af)/\H (BU af g off N m)/\H (v=fin a (IG a i j f (Up (λx=>!Uj x k[a]!) k f l) k))) (λF _=>(intOf F).toNat);exact⟨j,rfl,oa,AD _,n,o,t⟩;clear n o t r s;obtain⟨l,rfl,P,aJ,n,o,t⟩:=hrel;by_cases au:f<=l
      .have aq:decide ((l:Int)<(f:Int))=Z:=ou;have⟨r,s⟩:=zb o;go_wp2;go_big_quiet(first|(go_at_call 200;refine Uq (zV _ _ _)));go_wp2_with fail
       .have X:Uj (m l) (m a)=Z:=(by have q:(!Uj (m l) (m a))=G:=ox;simpa using q);have u:H (v=fin a (IG a i j f (Up (λx=>!Uj x k[a]!) k f (l-1)) k)):=(by show _=_;rw[zb t,E6 oa au (by show(!Uj k[l]! k[a]!)=G;rw[<-zb HG,<-zb HG,X];rfl)]);go_roundw;exact⟨l-1,by congr 1;omega,oa,oa,n.drewN _,o,u⟩;simp[intOf];omega
       (have ac:Uj (m l) (m a)=G:=(by simpa using(by assumption:(!Uj (m l) (m a))=Z));have aL:f<l:=by obtain h|h:=FU f l;exact h;obtain rfl:f=l:=oa;exact absurd ac (by rw[L oa];simp));have u:H (v=fin a (Sort.partLoop Uj a (f+1) (l-1) ((k.setIfInBounds f (m l)).setIfInBounds l (m f)))):=(by show _=_;rw[zb t,NG (by show(!Uj k[l]! k[a]!)=Z;rw[<-zb HG,<-zb HG,ac];rfl),jb HG];unfold IG;rw[iN oa,IN oa]);have ah:H (((k.setIfInBounds f (m l)).setIfInBounds l (m f)).size=N):=by show _=_;simp;exact S
       revert nq;intro ab
       have z:=zd (n.drewN ab);have y:H (BU (wr.drewN ab) g off N m):=zb o;clear r s n o;generalize wr.drewN ab=ax at *;have n:=z;have o:=y;clear z y;have⟨r,s⟩:=zb o;clear t HG;go_region;go_wp2;go_roundw
       case rel=>exact⟨f+1,l-1,_,Ae,by congr 1;omega,oa,oa,oa,ah,n.two oa oa,u⟩
       case measure=>simp[intOf];omega
      skip
      have aq:(l:Int)<(f:Int):=oa;have aH:decide ((f:Int)<=(l:Int))=Z:=ou;have u:H (v=(l,Z,Us k l a)):=(by show _=_;rw[zb t,MV oa];unfold IG;rw[IN oa];rfl);clear t;have⟨r,s⟩:=zb o;go_wp2;go_big_quiet(first|(go_at_call 200;refine Uq (zV _ _ _)));go_wp2_with fail;have z:=zd (n.drewN nq);have y:H (BU (wr.drewN nq) g off N m):=zb o;clear r s n o;generalize wr.drewN nq=ax at *;have n:=z;have o:=y;clear z y;have⟨r,s⟩:=zb o;have d1:=r a oa;have g1:=s a oa;have d2:=r l oa;have g2:=s l oa;clear r s;obtain hq|hq:=FU a l
      .go_region;go_wp2;go_ret2;rw[zb u];exact⟨rfl,(by rw[<-jb HG];first|exact n.two rfl rfl|exact((n.set l _).set a _).drew)⟩
      obtain rfl:a=l:=oa;go_region;go_wp2;go_ret2;rw[zb u];exact⟨rfl,(by rw[<-jb HG];first|exact n.two rfl rfl|exact((n.set a _).set a _).drew|exact((n.set a _).set a _).drewN _)⟩
   skip
   have aq:(l:Int)<(f:Int):=oa;have aH:decide ((f:Int)<=(l:Int))=Z:=ou;have u:H (v=(l,G,Us k l a)):=(by show _=_;rw[zb t,MV oa];unfold Lw;rw[IN oa]);clear t;have⟨r,s⟩:=zb o;go_wp2;go_big_quiet(first|(go_at_call 200;refine Uq (zV _ _ _)));go_wp2_with fail;have z:=zd (n.drewN nq);have y:H (BU (wr.drewN nq) g off N m):=zb o;clear r s n o;generalize wr.drewN nq=ax at *;have n:=z;have o:=y;clear z y;have⟨r,s⟩:=zb o;have d1:=r a oa;have g1:=s a oa;have d2:=r l oa;have g2:=s l oa;clear r s;obtain hq|hq:=FU a l
   .go_region;go_wp2;go_ret2;rw[zb u];exact⟨rfl,(by rw[<-jb HG];first|exact n.two rfl rfl|exact((n.set l _).set a _).drew)⟩
   obtain rfl:a=l:=oa;go_region;go_wp2;go_ret2;rw[zb u];exact⟨rfl,(by rw[<-jb HG];first|exact n.two rfl rfl|exact((n.set a _).set a _).drew|exact((n.set a _).set a _).drewN _)⟩
end
