/- The reference's smallest functions: what each answers, for every argument. -/
import Derived.Test.YtcgleficedipkaaGreatDoorProg
import Derived.Test.YtcgleficedipkaaGreatDoorYBaseSemD
import Derived.Lib.Strings
import Derived.Lib.IndexBytes
namespace Go.Proofs.YtcgleficedipkaaGreatDoor
open Option renaming none->U,some->I
open Value renaming int->M,slice->K,bool->C,pointer->Ua,string->Uc,tuple->Ue,agg->Uf
open IntKind renaming i64->J
open Bool renaming false->Z,true->G
open _root_.Go.Proofs.Tryz renaming prog->V
open Go renaming World->E,Value->Y,Calls->Uh
open Go.RowKit renaming Hid->H
open Or renaming inr->O,inl->Q
open Ending renaming returned->R
open Obj renaming cells->Ub
open And renaming intro->Ur
open _root_.Go.Proofs.Tryz
variable (b:Nat){s:ByteArray}(i:Nat)(e a:Int)(W w:World){f p n:Nat}(k:Nat){c:Int}{acc:List (Int×Int)}(cls:Bool)
section
open Go.RowKit
set_option maxHeartbeats 400000
namespace Ref
def hexV (b:Int):Int:=if 48<=b/\b<=57 then b-48 else if 97<=b/\b<=102 then b-87 else if 65<=b/\b<=70 then b-55 else -1
def jq (n:Int):Int:=if n=2 then 128 else if n=3 then 2048 else if n=4 then 65536 else 0
def headN (b:Int):Int:=if b<128 then 1 else if 192<=b/\b<224 then 2 else if 224<=b/\b<240 then 3 else if 240<=b/\b<248 then 4 else 0
def jH (b:Int):Int:=if b<128 then b else if 192<=b/\b<224 then b-192 else if 224<=b/\b<240 then b-224 else if 240<=b/\b<248 then b-240 else 0
def yT (b:Int):Int:=if b=116 then 9 else if b=110 then 10 else if b=118 then 11 else if b=102 then 12 else if b=114 then 13 else -1
end Ref
theorem Z3 {k l:IntKind}{a b c d:Int}(h:a=b)(g:c=d):Ending.returned (Ue #[M k a,M l c])=R (Ue #[M k b,M l d]):=by rw[h,g]
theorem ret_bool {a b:Bool}(h:a=b):Ending.returned (C a)=R (C b):=by rw[h]
theorem qE {k:IntKind}{a b:Int}(h:a=b):Ending.returned (M k a)=R (M k b):=by rw[h]
theorem Jd (b:Int)(w:E)(c:-1<=b)(d:b<=255):Uh V 273 #[M J b] w λe a=>e=R (M J (Ref.hexV b))/\a=w:=by go_enter func273,ntmps273;go_wp2;all_goals (go_ret;refine⟨qE ?_,rfl⟩;unfold Ref.hexV;(repeat' split)<;>omega)
theorem zbJ (b:Int)(w:E):Uh V 244 #[M J b] w λe a=>e=R (M J (Ref.yT b))/\a=w:=by go_enter func244,ntmps244;go_wp2;all_goals (go_ret;refine⟨qE ?_,rfl⟩;unfold Ref.yT;simp_all)
theorem zfQ (n:Int)(w:E):Uh V 143 #[M J n] w λe a=>e=R (M J (Ref.jq n))/\a=w:=by go_enter func143,ntmps143;go_wp2;all_goals (go_ret;refine⟨qE ?_,rfl⟩;unfold Ref.jq;simp_all)
theorem head_any (b:Int)(w:E)(c:0<=b)(d:b<=255):Uh V 142 #[M J b] w λe a=>e=R (Ue #[M J (Ref.headN b),M J (Ref.jH b)])/\a=w:=by
 go_enter func142,ntmps142;go_wp2;all_goals go_ret2
 all_goals (refine⟨Z3 ?_ ?_,rfl⟩<;>(first|unfold Ref.headN|unfold Ref.jH)<;>(repeat' split)<;>omega)
variable (s)
theorem now_any (h:qW w b s i e a)(_c:s.size<=maxLen):Uh V 144 #[Ua (I ⟨b,0,U⟩)] w λx f=>x=R (M J (zd s i))/\∃n,f=w.drewN n:=by
 obtain⟨g,c1,j,k,f1,l,m⟩:=h;unfold maxLen at _c;by_cases d:i<s.size
 .go_enter func144,ntmps144;go_wp2;go_quiet(fail);go_wp2;go_quiet(fail);go_wp2;go_ret;exact⟨qE (by rw[yZ s i d,Zs]),_,by rw[zh8]⟩
 go_enter func144,ntmps144;go_wp2;go_quiet(fail);go_wp2;go_ret;exact⟨qE (by rw[qw s i oa]),_,rfl⟩
theorem fail_any (i e a f d:Int)(w:E)(h:qW w b s i e a):Uh V 147 #[Ua (I ⟨b,0,U⟩),M J f,M J d] w λx j=> x=R (Ue #[])/\qW j b s i (if e=0 then f else e) (if e=0 then d else a)/\zf (zt b) w j:=by
 have g:=ze h;obtain⟨m,c1,n,o,f1,p,q⟩:=h;by_cases c:e=0
 .have l:(e == 0)=G:=by simp[c]
  have k:H (e=0):=c;clear c;go_enter func147,ntmps147;go_wp2
  go_end0
  exact⟨rfl,(g.setE f).setA d,((zf.refl _ _).mine _ _).mine _ _⟩
 have l:(e == 0)=Z:=by simp[c]
 have k:H (¬e=0):=c;clear c;go_enter func147,ntmps147;go_wp2
 go_end0
 exact⟨rfl,g,zf.refl _ _⟩
def Ref.signB (b:Int):Bool:=[94,36,92,46,42,43,63,40,41,91,93,123,125,124,47].any λc=>decide (c=b)
theorem zdB (b:Int)(w:E)(_s:-1<=b)(_t:b<=255):Uh V 245 #[M J b] w λe r=>e=R (C (Ref.signB b))/\r=w:=by
 have a:wrap64 ((({ data:=#[94,36,92,46,42,43,63,40,41,91,93,123,125,124,47] }:ByteArray)[0]' od).toNat:Int)=94:=by decide +kernel
 have c:wrap64 ((({ data:=#[94,36,92,46,42,43,63,40,41,91,93,123,125,124,47] }:ByteArray)[1]' od).toNat:Int)=36:=by decide +kernel
 have j:wrap64 ((({ data:=#[94,36,92,46,42,43,63,40,41,91,93,123,125,124,47] }:ByteArray)[2]' od).toNat:Int)=92:=by decide +kernel
 have k:wrap64 ((({ data:=#[94,36,92,46,42,43,63,40,41,91,93,123,125,124,47] }:ByteArray)[3]' od).toNat:Int)=46:=by decide +kernel
 have l:wrap64 ((({ data:=#[94,36,92,46,42,43,63,40,41,91,93,123,125,124,47] }:ByteArray)[4]' od).toNat:Int)=42:=by decide +kernel
 have m:wrap64 ((({ data:=#[94,36,92,46,42,43,63,40,41,91,93,123,125,124,47] }:ByteArray)[5]' od).toNat:Int)=43:=by decide +kernel
 have n:wrap64 ((({ data:=#[94,36,92,46,42,43,63,40,41,91,93,123,125,124,47] }:ByteArray)[6]' od).toNat:Int)=63:=by decide +kernel
 have o:wrap64 ((({ data:=#[94,36,92,46,42,43,63,40,41,91,93,123,125,124,47] }:ByteArray)[7]' od).toNat:Int)=40:=by decide +kernel
 have p:wrap64 ((({ data:=#[94,36,92,46,42,43,63,40,41,91,93,123,125,124,47] }:ByteArray)[8]' od).toNat:Int)=41:=by decide +kernel
 have q:wrap64 ((({ data:=#[94,36,92,46,42,43,63,40,41,91,93,123,125,124,47] }:ByteArray)[9]' od).toNat:Int)=91:=by decide +kernel
 have d:wrap64 ((({ data:=#[94,36,92,46,42,43,63,40,41,91,93,123,125,124,47] }:ByteArray)[10]' od).toNat:Int)=93:=by decide +kernel
 have f:wrap64 ((({ data:=#[94,36,92,46,42,43,63,40,41,91,93,123,125,124,47] }:ByteArray)[11]' od).toNat:Int)=123:=by decide +kernel
 have g:wrap64 ((({ data:=#[94,36,92,46,42,43,63,40,41,91,93,123,125,124,47] }:ByteArray)[12]' od).toNat:Int)=125:=by decide +kernel
 have h:wrap64 ((({ data:=#[94,36,92,46,42,43,63,40,41,91,93,123,125,124,47] }:ByteArray)[13]' od).toNat:Int)=124:=by decide +kernel
 have i:wrap64 ((({ data:=#[94,36,92,46,42,43,63,40,41,91,93,123,125,124,47] }:ByteArray)[14]' od).toNat:Int)=47:=by decide +kernel
 go_enter func245,ntmps245;go_wp2;refine wp_loop_rounds 16 ?_;iterate 16 (all_goals (try rw[rounds_succ]);all_goals (try go_wp2))
 all_goals (go_ret;refine⟨ret_bool ?_,rfl⟩)
 all_goals (clear a c j k l m n o p q d f g h i)
 all_goals (simp_all [Ref.signB])
 all_goals omega
theorem Z4 (b:Int)(w:E):Uh V 150 #[M J a,M J b] w λe c=>e=R (M J (if a<b then a else b))/\c=w:=by go_enter func150,ntmps150;go_wp2;all_goals (go_ret;refine⟨qE ?_,rfl⟩;first|rfl|(split<;>omega))
namespace Ref
def wL (s:ByteArray):Nat->Int->St->Int×St
 |0,c,h=>(c,h)
 |n+1,c,h=>if hexV (zd s h.i)<0 then(0,h.fail 3 h.i) else wL s n (16*c+hexV (zd s h.i)) (h.go 1)
theorem hexV_hi (b:Int):hexV b<=15:=by unfold hexV;(repeat' split)<;>omega
variable {s}
theorem KW {h:St}(a:hexV (zd s h.i)<0):wL s (n+1) c h=(0,h.fail 3 h.i):=by simp[wL,a]
theorem Je {h:St}(a:0<=hexV (zd s h.i)):wL s (n+1) c h=wL s n (16*c+hexV (zd s h.i)) (h.go 1):=by simp[wL,show ¬hexV (zd s h.i)<0 by omega]
end Ref
theorem zbK (h:k<=4):(16:Int) ^ k<=65536:=by have a:k=0\/k=1\/k=2\/k=3\/k=4:=oa;rcases a with rfl|rfl|rfl|rfl|rfl<;>decide
theorem ye (h:St)(w:E)(a:Lex w b s h)(d:s.size<=400):Uh V 144 #[Ua (I ⟨b,0,U⟩)] w λx c=>x=R (M J (zd s h.i))/\∃n,c=w.drewN n:=
 now_any b s h.i h.e h.a w a (by unfold maxLen;omega)
theorem yU (h:St)(d c:Int)(w:E)(a:Lex w b s h):Uh V 147 #[Ua (I ⟨b,0,U⟩),M J d,M J c] w λx f=> x=R (Ue #[])/\Lex f b s (h.fail d c)/\zf (zt b) w f:=
 (fail_any b s h.i h.e h.a d c w a).mono λx f ⟨i,g,j⟩=>⟨i,by
  unfold Lex St.fail;split;rename_i e;simpa [e] using g;rename_i e;simpa [e] using g,j⟩
theorem zeu (n:Nat)(h:St)(w:E)(hn:n<=4)(a:Lex w b s h)(B:s.size<=400)(hi:h.i<=1000):Uh V 246 #[Ua (I ⟨b,0,U⟩),M J n] w λx r=> x=R (M J (Ref.wL s n 0 h).1)/\Lex r b s (Ref.wL s n 0 h).2/\zf (zt b) w r:=by
 go_enter func246,ntmps246;go_wp2_with fail;go_loopw[5,6] (λc i wr=>∃(k:Nat) (q:Int) (d:St),k<=n/\i=M J k/\c=M J q/\0<=q/\q<(16:Int) ^ k/\d.i<=1000+k/\Lex wr b s d/\zf (zt b) w wr/\H (Ref.wL s n 0 h=Ref.wL s (n-k) q d))
  (λ_ i _=>n-(intOf i).toNat)
 exact⟨0,0,h,Nat.zero_le _,rfl,rfl,oa,ov,oa,a,zf.refl _ _,rfl⟩;obtain⟨k,q,d,hk,rfl,rfl,ah,ai,ac,g,l,j⟩:=hrel;have hp:(16:Int) ^ k<=65536:=zbK k oa;have aa:=Ref.hexV_hi (zd s d.i);by_cases ae:k<n
 .go_wp2_with fail;refine(ye b s d _ g B).mono ?_;rintro e F ⟨rfl,nq,rfl⟩;go_wp2_with fail;refine(Jd _ _ (jw _ _) (xj _ _)).mono ?_;rintro e F ⟨rfl,rfl⟩;have o:=ze g;obtain⟨P,c1,S,T,f1,W,X⟩:=g;by_cases y:Ref.hexV (zd s d.i)<0
  ·(have f:H (Ref.wL s n 0 h=(0,d.fail 3 d.i)):=by rw[zb j,show n-k=(n-k-1)+1 by omega];exact Ref.KW y);go_wp2_with fail;refine(yU b s d 3 d.i _ (o.drewN nq)).mono ?_;rintro e w2 ⟨rfl,u,v⟩;go_wp2_with fail;go_ret;rw[zb f];exact⟨rfl,u,(l.drewN nq).trans v⟩
  (have f:H (Ref.wL s n 0 h=Ref.wL s (n-(k+1)) (16*q+Ref.hexV (zd s d.i)) (d.go 1)):=by rw[zb j,show n-k=(n-(k+1))+1 by omega];exact Ref.Je oa);have z:(16:Int) ^ (k+1)=16*(16:Int) ^ k:=(by rw[ziy];omega);have p:16*q+Ref.hexV (zd s d.i)<(16:Int) ^ (k+1):=oa;have t:=ze p;clear z p;generalize m:Ref.hexV (zd s d.i)=L at *;have N:=ze m;clear m;go_wp2_with fail;go_roundw
  .exact⟨k+1,_,d.go 1,oa,by go_num,rfl,oa,t,by simp[St.go];omega,(o.drewN nq).setI _,((l.drewN nq).mine _ _),f⟩
  simp[intOf];omega
 (have f:H (Ref.wL s n 0 h=(q,d)):=by rw[zb j,show n-k=0 by omega];rfl);go_wp2_with fail;go_ret;rw[zb f];exact⟨rfl,g,l⟩
namespace Ref
def qT (s:ByteArray):Nat->Int->Nat->St->Int×St
 |0,_,_,h=>(0,h)
 |f+1,c,n,h=>
  if 0<n/\zd s h.i=125 then(c,h.go 1)
  else if hexV (zd s h.i)<0\/1114111<16*c+hexV (zd s h.i) then(0,h.fail 3 h.i)
  else qT s f (16*c+hexV (zd s h.i)) (n+1) (h.go 1)
variable {s}
theorem Zn {h:St}(a:0<n)(b:zd s h.i=125):qT s (f+1) c n h=(c,h.go 1):=by simp[qT,a,b]
theorem YR {h:St}(a:¬(0<n/\zd s h.i=125))(b:hexV (zd s h.i)<0\/1114111<16*c+hexV (zd s h.i)):qT s (f+1) c n h=(0,h.fail 3 h.i):=by simp only[qT];rw[iN a,IN b]
theorem Z5 {h:St}(a:¬(0<n/\zd s h.i=125))(b:¬(hexV (zd s h.i)<0\/1114111<16*c+hexV (zd s h.i))):qT s (f+1) c n h=qT s f (16*c+hexV (zd s h.i)) (n+1) (h.go 1):=by simp only[qT];rw[iN a,iN b]
def vo (s:ByteArray)(h:St):Int×St:=qT s (s.size+1-h.i) 0 0 h
theorem hexV_neg:hexV (-1) = -1:=od
end Ref
theorem zdC (h:St)(w:E)(a:Lex w b s h)(v:s.size<=400)(hi:h.i<=s.size):Uh V 275 #[Ua (I ⟨b,0,U⟩)] w λx S=> x=R (M J (Ref.vo s h).1)/\Lex S b s (Ref.vo s h).2/\zf (zt b) w S:=by
 go_enter func275,ntmps275;go_wp2_with fail;go_loopw[3,4] (λc n wr=>∃(k:Nat) (q:Int) (d:St),n=M J k/\c=M J q/\0<=q/\q<=1114111/\d.i<=s.size/\k<=d.i/\Lex wr b s d/\zf (zt b) w wr/\H (d.i=h.i+k)/\H (Ref.vo s h=Ref.qT s (s.size+1-d.i) q k d))
  (λ_ n _=>s.size-h.i-(intOf n).toNat)
 exact⟨0,0,h,rfl,rfl,oa,oa,hi,oa,a,zf.refl _ _,rfl,rfl⟩;obtain⟨k,q,d,rfl,rfl,au,av,an,hk,j,t,z,p⟩:=hrel;have am:=Ref.hexV_hi (zd s d.i);have r:=ze j;have u:H (s.size+1-d.i=(s.size-d.i)+1):=by show _=_;omega
 by_cases f:0<k/\zd s d.i=125
 ·(have m:H (Ref.vo s h=(q,d.go 1)):=by rw[zb p,zb u];exact Ref.Zn f.1 f.2);have N:0<k:=f.1;have hb:(zd s d.i == 125)=G:=(by simp[f.2]);clear f;go_wp2_with fail;refine(ye b s d _ j v).mono ?_;rintro e y ⟨rfl,nq,rfl⟩;obtain⟨W,c1,X,c3,f1,f2,f3⟩:=j;go_wp2_with fail;go_ret;rw[zb m];exact⟨rfl,(r.drewN nq).setI _,((t.drewN nq).mine _ _)⟩
 have F:=ze f;by_cases L:k=0
 case' pos=>
  have ap:decide (0<k)=Z:=(by simp[L]);clear f L
 case' neg=>
  have N:0<k:=oa;have hb:(zd s d.i == 125)=Z:=(by simp only[beq_eq_false_iff_ne];intro ag;exact f ⟨N,ag⟩);clear f;go_wp2_with fail;refine(ye b s d _ j v).mono ?_;rintro e y ⟨rfl,aw,rfl⟩
 all_goals
  go_wp2_with fail;refine(ye b s d _ (by first|exact j|exact j.drewN _) v).mono ?_;rintro e y ⟨rfl,nq,rfl⟩;go_wp2_with fail;refine(Jd _ _ (jw _ _) (xj _ _)).mono ?_;rintro e y ⟨rfl,rfl⟩;obtain⟨W,c1,X,c3,f1,f2,f3⟩:=j;generalize B:Ref.hexV (zd s d.i)=g at *;have l:=ze B;clear B;by_cases o:g<0\/1114111<16*q+g
  ·(have m:H (Ref.vo s h=(0,d.fail 3 d.i)):=by rw[zb p,zb u];exact Ref.YR F (by rw[zb l];exact o));by_cases ak:g<0
   (case' neg=>have al:1114111<16*q+g:=oa);all_goals clear o
   all_goals
    go_wp2_with fail;refine(yU b s d 3 d.i _ (r.drewN _)).mono ?_;rintro e w2 ⟨rfl,ad,ae⟩;go_wp2_with fail;go_ret;rw[zb m];exact⟨rfl,ad,(t.drewN _).trans ae⟩
  ((have aq:d.i<s.size:=by apply Classical.byContradiction;intro hn;have:=qw s d.i oa;rw[this,Ref.hexV_neg] at l;have:=zb l;omega);have m:H (Ref.vo s h=Ref.qT s (s.size+1-(d.go 1).i) (16*q+g) (k+1) (d.go 1)):=by rw[zb p,zb u,show s.size+1-(d.go 1).i=s.size-d.i by simp only[St.go];omega,<-zb l];exact Ref.Z5 F (by rw[zb l];exact o));have h1:0<=g:=oa;have h2:16*q+g<=1114111:=oa;have P:=zb z;have T:H ((d.go 1).i=h.i+(k+1)):=(by show _=_;simp only[St.go];rw[P];try omega);clear o P;go_wp2_with fail;go_roundw
  .exact⟨k+1,_,d.go 1,by go_num,rfl,oa,oa,by simp[St.go];omega,by simp[St.go];omega,(r.drewN _).setI _,(t.drewN _).mine _ _,T,m⟩
  have:=zb z;simp[intOf];omega
namespace Ref
def vK (s:ByteArray):Nat->Nat->Int->Int
 |0,_,c=>c
 |n+1,k,c=>if hexV (zd s k)<0 then -1 else vK s n (k+1) (16*c+hexV (zd s k))
def xx (s:ByteArray)(i:Nat):Int:=if s.size<i+6\/zd s i≠92\/zd s (i+1)≠117 then -1 else vK s 4 (i+2) 0
variable {s k}
theorem Xm (h:hexV (zd s k)<0):vK s (n+1) k c = -1:=by simp[vK,h]
theorem Z6 (h:0<=hexV (zd s k)):vK s (n+1) k c=vK s n (k+1) (16*c+hexV (zd s k)):=by simp[vK,show ¬hexV (zd s k)<0 by omega]
theorem wu {i:Nat}(h:s.size<i+6\/zd s i≠92\/zd s (i+1)≠117):xx s i = -1:=by simp only[xx];rw[IN h]
theorem Jf {i:Nat}(h:¬(s.size<i+6\/zd s i≠92\/zd s (i+1)≠117)):xx s i=vK s 4 (i+2) 0:=by simp only[xx];rw[iN h]
end Ref
theorem half_any (W:s.size<=400)(F:i<=1000):Uh V 274 #[Uc s,M J i] w λx v=>x=R (M J (Ref.xx s i))/\v=w:=by
 by_cases o:s.size<i+6
 .have a:=ze (Ref.wu (s:=s) (i:=i) (Or.inl o));go_enter func274,ntmps274;go_wp2;go_ret;exact⟨qE a.symm,rfl⟩
 have h:i<s.size:=by omega
 have j:i+1<s.size:=oa;by_cases b:zd s i=92
 .have p:((s[i].toNat:Int) != 92)=Z:=(by rw[<-yZ s i h];simp[b]);by_cases d:zd s (i+1)=117
  .have r:((s[i+1].toNat:Int) != 117)=Z:=(by rw[<-yZ s (i+1) j];simp[d]);have a:=ze (Ref.Jf (s:=s) (i:=i) (by simp[b,d];omega));clear b d;go_enter func274,ntmps274;go_wp2_with fail
   go_loop [5,6] (λc k=>∃(n:Nat) (q:Int),n<=4/\k=M J ((i+2+n:Nat):Int)/\c=M J q/\0<=q/\q<(16:Int) ^ n/\H (Ref.xx s i=Ref.vK s (4-n) (i+2+n) q))
    (λ_ k=>i+6-(intOf k).toNat)
   case atStart=>exact⟨0,0,oa,by go_num,rfl,oa,ov,a⟩
   case round=>
    obtain⟨n,q,N,rfl,rfl,S,T,HG⟩:=hrel;have P:(16:Int) ^ n<=65536:=zbK n oa;have B:=Ref.hexV_hi (zd s (i+2+n));by_cases L:n<4
    .go_wp2_with fail;rw[Zs,<-yZ s (i+2+n) oa];refine(Jd _ _ (jw _ _) (xj _ _)).mono ?_;rintro e X ⟨rfl,rfl⟩;by_cases t:Ref.hexV (zd s (i+2+n))<0
     ·(have f:H (Ref.xx s i = -1):=by rw[zb HG,show 4-n=(3-n)+1 by omega];exact Ref.Xm t);go_wp2_with fail;go_ret;exact⟨qE f.symm,rfl⟩
     (have f:H (Ref.xx s i=Ref.vK s (4-(n+1)) (i+2+(n+1)) (16*q+Ref.hexV (zd s (i+2+n)))):=by rw[zb HG,show 4-n=(4-(n+1))+1 by omega];exact Ref.Z6 oa);have u:(16:Int) ^ (n+1)=16*(16:Int) ^ n:=(by rw[ziy];omega);have l:16*q+Ref.hexV (zd s (i+2+n))<(16:Int) ^ (n+1):=oa;have m:=ze l;clear u l;generalize g:Ref.hexV (zd s (i+2+n))=y at *;have z:=ze g;clear g;go_wp2_with fail;go_round
     case rel=>exact⟨n+1,_,oa,by go_num,rfl,oa,m,f⟩
     case measure=>simp[intOf];omega
    go_wp2_with fail;go_ret;have:n=4:=oa;subst this;exact⟨qE HG.symm,rfl⟩
  have a:=ze (Ref.wu (s:=s) (i:=i) (Or.inr (Or.inr d)));have r:((s[i+1].toNat:Int) != 117)=G:=(by rw[<-yZ s (i+1) j];simp[d]);clear b d;go_enter func274,ntmps274;go_wp2;go_ret;exact⟨qE a.symm,rfl⟩
 have a:=ze (Ref.wu (s:=s) (i:=i) (Or.inr (Or.inl b)));have p:((s[i].toNat:Int) != 92)=G:=(by rw[<-yZ s i h];simp[b]);clear b;go_enter func274,ntmps274;go_wp2;go_ret;exact⟨qE a.symm,rfl⟩
set_option maxHeartbeats 800000
namespace Ref
def ZD (s:ByteArray)(h:St):Bool:=decide (55296<=xx s (h.i-1)) && decide (xx s (h.i-1)<=56319) && decide (56320<=xx s (h.i+5)) && decide (xx s (h.i+5)<=57343)
def xy (s:ByteArray)(h:St):Int×St:=
 if zd s (h.i+1)=123 then vo s (h.go 2)
 else if ZD s h=G then(65536+(xx s (h.i-1)-55296)*1024+xx s (h.i+5)-56320,h.go 11)
 else wL s 4 0 (h.go 1)
def zL (s:ByteArray)(cls:Bool)(h:St):Int×St:=
 if 0<=yT (zd s h.i) then(yT (zd s h.i),h.go 1)
 else if zd s h.i=48 then(0,if 48<=zd s (h.i+1)/\zd s (h.i+1)<=57 then(h.go 1).fail 3 (h.i+1:Nat) else h.go 1)
 else if zd s h.i=99 then
  (if(97<=zd s (h.i+1)/\zd s (h.i+1)<=122)\/(65<=zd s (h.i+1)/\zd s (h.i+1)<=90) then(zd s (h.i+1) % 32,h.go 2) else(0,(h.go 1).fail 3 (h.i+1:Nat)))
 else if zd s h.i=120 then wL s 2 0 (h.go 1)
 else if zd s h.i=117 then xy s h
 else if signB (zd s h.i)=G\/cls=G/\zd s h.i=45 then(zd s h.i,h.go 1)
 else if cls=G/\zd s h.i=98 then(8,h.go 1)
 else(0,h.fail 3 h.i)
theorem zbL (s:ByteArray):∀(n k:Nat) (c:Int),0<=c->c<(16:Int) ^ (4-n)->n<=4->-1<=vK s n k c/\vK s n k c<=65535
 |0,k,c,b,a,_=>by simp only[vK];simp at a;omega
 |n+1,k,c,b,a,e=>by
  have g:(16:Int) ^ (4-n)=16*(16:Int) ^ (4-(n+1)):=by rw[show 4-n=(4-(n+1))+1 by omega,ziy];omega
  have f:=hexV_hi (zd s k);by_cases d:hexV (zd s k)<0;rw[Xm d];omega;rw[Z6 oa];exact zbL s n (k+1) _ oa oa oa
theorem zbM:-1<=xx s i/\xx s i<=65535:=by unfold xx;split;omega;exact zbL s 4 _ 0 oa od oa
end Ref
theorem zbN (i:Int)(w:E)(b:s.size<=400)(a:0<=i)(d:i<=1000):Uh V 274 #[Uc s,M J i] w λx c=>x=R (M J (Ref.xx s i.toNat))/\c=w:=by obtain⟨n,rfl⟩:=Int.eq_ofNat_of_zero_le a;rw[zhm];exact half_any s n w b oa
theorem Lex.setI {w:E}{b:Nat}{s:ByteArray}{h:St}(a:Lex w b s h)(j:Int)(n:Nat)(c:j=((h.i+n:Nat):Int)):Lex (w.setCell ⟨b,1,U⟩ (M J j)) b s (h.go n):=by subst c;exact qW.setI a _
theorem Lex.drewN {w:E}{b:Nat}{s:ByteArray}{h:St}(a:Lex w b s h)(n:Nat):Lex (w.drewN n) b s h:=qW.drewN a n
theorem zbO (h:St)(w:E)(a:Lex w b s h)(g:s.size<=400)(P:1<=h.i)(N:h.i<s.size):Uh V 247 #[Ua (I ⟨b,0,U⟩)] w λx n=> x=R (M J (Ref.xy s h).1)/\Lex n b s (Ref.xy s h).2/\zf (zt b) w n:=by
 have i:=ze a;obtain⟨y,c1,z,B,f1,F,L⟩:=a;have l:((h.i:Int)-1).toNat=h.i-1:=oa;have m:((h.i:Int)+5).toNat=h.i+5:=oa;have u:=Ref.zbM s (h.i-1);have v:=Ref.zbM s (h.i+5);go_enter func247,ntmps247;go_wp2_with fail;go_quiet((go_at_call 274;exact(zbN _ _ _ g oa oa).mono (by rintro e r ⟨rfl,rfl⟩;exact⟨rfl,_,rfl⟩)));go_wp2_with fail;go_quiet((go_at_call 274;exact(zbN _ _ _ g oa oa).mono (by rintro e r ⟨rfl,rfl⟩;exact⟨rfl,_,rfl⟩)));go_wp2_with fail;refine(ye b s (h.go 1) _ ((i.drewN _).setI _ 1 oa) g).mono ?_;rintro e w1 ⟨rfl,nq,rfl⟩;simp only[St.go];by_cases c:zd s (h.i+1)=123
 .have p:(zd s (h.i+1) == 123)=G:=by simp[c]
  have f:H (Ref.xy s h=Ref.vo s (h.go 2)):=by show _=_;unfold Ref.xy;rw[IN c]
  have S:h.i+1<s.size:=by rw[<-zw];omega
  clear c;go_wp2_with fail;refine(zdC b s (h.go 2) _ ((((i.drewN _).setI _ 1 oa).drewN _).setI _ 1 (by simp only[St.go];omega)) g (by simp only[St.go];omega)).mono ?_;rintro e t ⟨rfl,j,k⟩;go_wp2_with fail;go_ret;rw[zb f];exact⟨rfl,j,(((((zf.refl _ _).drewN _).mine _ _).drewN _).mine _ _).trans k⟩
 have p:(zd s (h.i+1) == 123)=Z:=by simp[c]
 by_cases d:Ref.ZD s h=G
 .have f:H (Ref.xy s h=(65536+(Ref.xx s (h.i-1)-55296)*1024+Ref.xx s (h.i+5)-56320,h.go 11)):=(by show _=_;unfold Ref.xy;rw[iN c,IN d]);simp only[Ref.ZD,zhb,decide_eq_true_eq] at d;obtain⟨⟨⟨T,W⟩,X⟩,p4⟩:=d;clear c l m;go_wp2_with fail;go_ret;rw[zb f];exact⟨rfl,((((i.drewN _).setI _ 1 oa).drewN _).setI _ 10 (by simp only[St.go];omega)),((((zf.refl _ _).drewN _).mine _ _).drewN _).mine _ _⟩
 have f:H (Ref.xy s h=Ref.wL s 4 0 (h.go 1)):=(by show _=_;unfold Ref.xy;rw[iN c,iN d]);simp only[Ref.ZD,zhb,decide_eq_true_eq] at d;have o:=ze d;clear c l m d;go_wp2_with fail
 all_goals first
  |exact absurd (zb o) (by intro q;exact q ⟨⟨⟨‹_›,‹_›⟩,‹_›⟩,‹_›⟩)
  |skip
 all_goals
  refine(zeu b s 4 (h.go 1) _ oa (((i.drewN _).setI _ 1 oa).drewN _) g (by simp only[St.go];omega)).mono ?_;rintro e t ⟨rfl,j,k⟩;go_wp2_with fail;go_ret;rw[zb f];exact⟨rfl,j,((((zf.refl _ _).drewN _).mine _ _).drewN _).trans k⟩
namespace Ref
end Ref
theorem zdD (h:St)(w:E)(a:Lex w b s h)(l:s.size<=400)(ah:1<=h.i)(hi:h.i<=s.size):Uh V 218 #[Ua (I ⟨b,0,U⟩),C cls] w λx w'=> x=R (M J (Ref.zL s cls h).1)/\Lex w' b s (Ref.zL s cls h).2/\zf (zt b) w w':=by
 have f:=ze a;have ai:=jw s h.i;have ag:=xj s h.i;have ax:=jw s (h.i+1);have av:=xj s (h.i+1);have y:0<=zd s h.i->h.i<s.size:=(zw s h.i).1;have ab:=ze y;clear y;go_enter func218,ntmps218;go_wp2_with fail;refine(ye b s h _ a l).mono ?_;rintro e r ⟨rfl,nq,rfl⟩;go_wp2_with fail;refine(zbJ _ _).mono ?_;rintro e r ⟨rfl,rfl⟩;obtain⟨c0,c1,c2,c3,f1,f2,f3⟩:=a;generalize v:zd s h.i=B at *;by_cases T:0<=Ref.yT B
 .have c:H (Ref.zL s cls h=(Ref.yT B,h.go 1)):=by show _=_;unfold Ref.zL;rw[v,IN T]
  clear v;go_wp2_with fail;go_ret;rw[zb c];exact⟨rfl,(f.drewN _).setI _ 1 oa,((zf.refl _ _).drewN _).mine _ _⟩
 have n:=ze v;have q:=ze T;clear v;go_wp2_with fail;refine(zdB _ _ ai ag).mono ?_;rintro e r ⟨rfl,rfl⟩;clear T;by_cases d:B=48
 .have hb:(B == 48)=G:=(by simp[d]);by_cases i:48<=zd s (h.i+1)/\zd s (h.i+1)<=57
  .have c:H (Ref.zL s cls h=(0,(h.go 1).fail 3 (h.i+1:Nat))):=(by show _=_;unfold Ref.zL;rw[zb n,iN (show ¬0<=Ref.yT B by have:=zb q;omega),IN d,IN i]);clear d;obtain⟨P,S⟩:=i;go_wp2_with fail;refine(ye b s (h.go 1) _ ((f.drewN _).setI _ 1 oa) l).mono ?_;rintro e r ⟨rfl,z,rfl⟩;simp only[St.go];go_wp2_with fail;refine(ye b s (h.go 1) _ (((f.drewN _).setI _ 1 oa).drewN _) l).mono ?_;rintro e r ⟨rfl,aj,rfl⟩;simp only[St.go];go_wp2_with fail;refine(yU b s (h.go 1) 3 _ _ ((((f.drewN _).setI _ 1 oa).drewN _))).mono ?_;rintro e F ⟨rfl,o,p⟩;go_wp2_with fail;go_ret;rw[zb c];exact⟨rfl,o,((((zf.refl _ _).drewN _).mine _ _).drewN _).trans p⟩
  have c:H (Ref.zL s cls h=(0,h.go 1)):=(by show _=_;unfold Ref.zL;rw[zb n,iN (show ¬0<=Ref.yT B by have:=zb q;omega),IN d,iN i]);have u:=ze i;clear d;by_cases P:48<=zd s (h.i+1)
  .have S:57<zd s (h.i+1):=oa;clear i;go_wp2_with fail;refine(ye b s (h.go 1) _ ((f.drewN _).setI _ 1 oa) l).mono ?_;rintro e r ⟨rfl,z,rfl⟩;simp only[St.go];go_wp2_with fail;refine(ye b s (h.go 1) _ (((f.drewN _).setI _ 1 oa).drewN _) l).mono ?_;rintro e r ⟨rfl,aj,rfl⟩;simp only[St.go];go_wp2_with fail;go_ret;rw[zb c];exact⟨rfl,((f.drewN _).setI _ 1 oa).drewN _,(((zf.refl _ _).drewN _).mine _ _).drewN _⟩
  clear i;go_wp2_with fail;refine(ye b s (h.go 1) _ ((f.drewN _).setI _ 1 oa) l).mono ?_;rintro e r ⟨rfl,z,rfl⟩;simp only[St.go];go_wp2_with fail;go_ret;rw[zb c];exact⟨rfl,((f.drewN _).setI _ 1 oa).drewN _,(((zf.refl _ _).drewN _).mine _ _).drewN _⟩
 have hb:(B == 48)=Z:=(by simp[d]);by_cases g:B=99
 .have ad:(B == 99)=G:=(by simp[g]);by_cases i:(97<=zd s (h.i+1)/\zd s (h.i+1)<=122)\/(65<=zd s (h.i+1)/\zd s (h.i+1)<=90)
  .have c:H (Ref.zL s cls h=(zd s (h.i+1) % 32,h.go 2)):=(by show _=_;unfold Ref.zL;rw[zb n,iN (show ¬0<=Ref.yT B by have:=zb q;omega),iN d,IN g,IN i]);have u:=ze i;clear d g i;go_wp2_with fail;refine(ye b s (h.go 1) _ ((f.drewN _).setI _ 1 oa) l).mono ?_;rintro e r ⟨rfl,z,rfl⟩;simp only[St.go];rcases zb u with⟨P,S⟩|⟨P,S⟩
   case' inr=>have d3:¬97<=zd s (h.i+1):=oa
   all_goals
    go_wp2_with fail;go_ret;rw[zb c];refine⟨qE ?_,(((f.drewN _).setI _ 1 oa).drewN _).setI _ 1 (by simp only[St.go];omega),((((zf.refl _ _).drewN _).mine _ _).drewN _).mine _ _⟩
    first|rfl|omega
  have c:H (Ref.zL s cls h=(0,(h.go 1).fail 3 (h.i+1:Nat))):=(by show _=_;unfold Ref.zL;rw[zb n,iN (show ¬0<=Ref.yT B by have:=zb q;omega),iN d,IN g,iN i]);have u:=ze i;clear d g i;go_wp2_with fail;refine(ye b s (h.go 1) _ ((f.drewN _).setI _ 1 oa) l).mono ?_;rintro e r ⟨rfl,z,rfl⟩;simp only[St.go];go_wp2_with fail
  all_goals first
   |(exfalso;have:=zb u;omega)
   |skip
  all_goals
   refine(yU b s (h.go 1) 3 _ _ ((((f.drewN _).setI _ 1 oa).drewN _))).mono ?_;rintro e F ⟨rfl,o,p⟩;go_wp2_with fail;go_ret;rw[zb c];exact⟨rfl,o,((((zf.refl _ _).drewN _).mine _ _).drewN _).trans p⟩
 have ad:(B == 99)=Z:=(by simp[g]);by_cases j:B=120
 .have ae:(B == 120)=G:=(by simp[j]);have c:H (Ref.zL s cls h=Ref.wL s 2 0 (h.go 1)):=(by show _=_;unfold Ref.zL;rw[zb n,iN (show ¬0<=Ref.yT B by have:=zb q;omega),iN d,iN g,IN j]);clear d g j;go_wp2_with fail;refine(zeu b s 2 (h.go 1) _ oa ((f.drewN _).setI _ 1 oa) l (by simp only[St.go];omega)).mono ?_;rintro e F ⟨rfl,o,p⟩;go_wp2_with fail;go_ret;rw[zb c];exact⟨rfl,o,(((zf.refl _ _).drewN _).mine _ _).trans p⟩
 have ae:(B == 120)=Z:=(by simp[j]);by_cases m:B=117
 .have af:(B == 117)=G:=(by simp[m]);have c:H (Ref.zL s cls h=Ref.xy s h):=(by show _=_;unfold Ref.zL;rw[zb n,iN (show ¬0<=Ref.yT B by have:=zb q;omega),iN d,iN g,iN j,IN m]);have y:=zb ab oa;clear d g j m;go_wp2_with fail;refine(zbO b s h _ (f.drewN _) l ah y).mono ?_;rintro e F ⟨rfl,o,p⟩;go_wp2_with fail;go_ret;rw[zb c];exact⟨rfl,o,((zf.refl _ _).drewN _).trans p⟩
 have af:(B == 117)=Z:=(by simp[m]);by_cases k:Ref.signB B=G\/cls=G/\B=45
 .have c:H (Ref.zL s cls h=(B,h.go 1)):=(by show _=_;unfold Ref.zL;rw[zb n,iN (show ¬0<=Ref.yT B by have:=zb q;omega),iN d,iN g,iN j,iN m,IN k]);have X:=ze k;clear d g j m k;by_cases L:Ref.signB B=G
  case' neg=>
   have W:cls=G:=(by rcases zb X with a|a;exact absurd a L;exact a.1);have N:(B == 45)=G:=(by rcases zb X with a|a;exact absurd a L;simp[a.2]);have y4:Ref.signB B=Z:=(by simpa using L);clear L;subst W
  all_goals
   go_wp2_with fail;go_ret;rw[zb c];exact⟨rfl,(f.drewN _).setI _ 1 oa,((zf.refl _ _).drewN _).mine _ _⟩
 have y4:Ref.signB B=Z:=(by simp at k;exact k.1);by_cases t:cls=G/\B=98
 .have c:H (Ref.zL s cls h=(8,h.go 1)):=(by show _=_;unfold Ref.zL;rw[zb n,iN (show ¬0<=Ref.yT B by have:=zb q;omega),iN d,iN g,iN j,iN m,iN k,IN t]);obtain⟨W,N⟩:=t;have y5:(B == 98)=G:=(by simp[N]);have y6:(B == 45)=Z:=(by simp[N]);clear d g j m k N;subst W;go_wp2_with fail;go_ret;rw[zb c];exact⟨rfl,(f.drewN _).setI _ 1 oa,((zf.refl _ _).drewN _).mine _ _⟩
 have c:H (Ref.zL s cls h=(0,h.fail 3 h.i)):=(by show _=_;unfold Ref.zL;rw[zb n,iN (show ¬0<=Ref.yT B by have:=zb q;omega),iN d,iN g,iN j,iN m,iN k,iN t]);cases cls
 case' true=>
  have y5:(B == 98)=Z:=(by simp at t;simpa using t);have y6:(B == 45)=Z:=by simp at k;simpa using k.2
 all_goals
  clear d g j m k t;go_wp2_with fail;refine(yU b s h 3 _ _ (f.drewN _)).mono ?_;rintro e F ⟨rfl,o,p⟩;go_wp2_with fail;go_ret;rw[zb c];exact⟨rfl,o,((zf.refl _ _).drewN _).trans p⟩
def spanCells:List (Int×Int)->List Y
 | []=>[]
 |(a,b) :: r=>M J a :: M J b :: spanCells r
def yB (w:E)(base:Nat)(v:Y)(l:List (Int×Int)):Prop:=w.ownsRow base 333 2 v l.length (spanCells l)
theorem Xn (c:Array Y)(l:List (Int×Int))(a:c.toList=spanCells l)(d:spanCells l=spanCells l->(spanCells l).length=l.length*2)(e:l.length<=maxLen):yB (w.alloc (Ub c 333)) w.heap.size (K (I ⟨w.heap.size,0,U⟩) l.length l.length) l:=by have b:=d rfl;refine⟨b,O ⟨w.heap.size,l.length,c,rfl,zgH _,heap_alloc_new w _,zgH _,e,?_,?_⟩⟩;rw[<-b,<-a];simp;rw[a,zhs oa]
theorem jO:∀l:List (Int×Int),(spanCells l).length=l.length*2
 | []=>rfl
 |(a,b) :: r=>by simp only[spanCells,zg4,jO r];omega
theorem Z7 (n base:Nat)(o:W.heap.size=n)(q:base<=n)(c:Array Y)(l:List (Int×Int))(h:c.toList=spanCells l)(m:l.length<=maxLen)(k:Nat)(j:k=l.length):yB (W.alloc (Ub c 333)) base (K (I ⟨n,0,U⟩) k k) l:=by subst o;subst j;obtain⟨e,a⟩:=Xn W c l h (λ_=>jO l) m;refine⟨e,?_⟩;rcases a with a|⟨g,b,d,p,r,i,f⟩;exact Q a;refine O ⟨g,b,d,p,?_,i,f⟩;omega
theorem zdE:Uh V 215 #[] w λx a=>x=R (K (I ⟨w.heap.size,0,U⟩) 1 1)/\yB a w.heap.size (K (I ⟨w.heap.size,0,U⟩) 1 1) [(48,57)]/\ziE w a:=by go_enter func215,ntmps215;go_wp2;go_ret;exact⟨rfl,Xn w _ [(48,57)] rfl (λ_=>jO _) od,(zf.refl _ _).alloc _⟩
theorem Wc:Uh V 216 #[] w λx a=>x=R (K (I ⟨w.heap.size,0,U⟩) 4 4)/\yB a w.heap.size (K (I ⟨w.heap.size,0,U⟩) 4 4) [(48,57),(65,90),(95,95),(97,122)]/\ziE w a:=by go_enter func216,ntmps216;go_wp2;go_ret;exact⟨rfl,Xn w _ [(48,57),(65,90),(95,95),(97,122)] rfl (λ_=>jO _) od,(zf.refl _ _).alloc _⟩
theorem zdF:Uh V 217 #[] w λx a=>x=R (K (I ⟨w.heap.size,0,U⟩) 10 10)/\yB a w.heap.size (K (I ⟨w.heap.size,0,U⟩) 10 10) [(9,13),(32,32),(160,160),(5760,5760),(8192,8202),(8232,8233),(8239,8239),(8287,8287),(12288,12288),(65279,65279)]/\ziE w a:=by go_enter func217,ntmps217;go_wp2;go_ret;exact⟨rfl,Xn w _ [(9,13),(32,32),(160,160),(5760,5760),(8192,8202),(8232,8233),(8239,8239),(8287,8287),(12288,12288),(65279,65279)] rfl (λ_=>jO _) od,(zf.refl _ _).alloc _⟩
theorem zl {P:Nat->Prop}{w c:E}{base:Nat}{e:TypeId}{size:Nat}{v:Y}{n:Nat}{xs:List Y}(h:w.ownsRow base e size v n xs)(k:zf P w c)(o:∀g,v.ownBlock=I g->¬P g):c.ownsRow base e size v n xs:=by obtain⟨i,a⟩:=h;refine⟨i,?_⟩;rcases a with a|⟨g,d,f,rfl,l,b,j⟩;exact Q a;refine O ⟨g,d,f,rfl,l,?_,j⟩;have m:g<w.heap.size:=(zgM.1 b).1;rw[k.block g m (o g rfl)];exact b
theorem zZ {w:E}{base base':Nat}{e:TypeId}{size:Nat}{v:Y}{n:Nat}{xs:List Y}(h:w.ownsRow base e size v n xs)(j:base'<=base):w.ownsRow base' e size v n xs:=by obtain⟨d,a⟩:=h;refine⟨d,?_⟩;rcases a with a|⟨g,b,c,rfl,k,i,f⟩;exact Q a;exact O ⟨g,b,c,rfl,oa,i,f⟩
theorem zh {w:E}{base:Nat}{e:TypeId}{size:Nat}{v:Y}{n:Nat}{xs:List Y}(h:w.ownsRow base e size v n xs)(g:Nat)(a:v.ownBlock=I g):base<=g/\g<w.heap.size:=h.lt g a
theorem yB.keep {P:Nat->Prop}{w b:E}{base:Nat}{v:Y}{l:List (Int×Int)}(h:yB w base v l)(k:zf P w b)(c:∀g,base<=g->g<w.heap.size->¬P g):yB b base v l:=
 zl h k λg a=>c g (zh h g a).1 (zh h g a).2
theorem yB.base {w:E}{base base':Nat}{v:Y}{l:List (Int×Int)}(h:yB w base v l)(a:base'<=base):yB w base' v l:=zZ h a
theorem zfR (n:Nat)(b:w.heap.size=n):Uh V 215 #[] w λx a=>x=R (K (I ⟨n,0,U⟩) 1 1)/\yB a n (K (I ⟨n,0,U⟩) 1 1) [(48,57)]/\ziE w a:=by subst b;exact zdE w
theorem words_at (n:Nat)(b:w.heap.size=n):Uh V 216 #[] w λx a=>x=R (K (I ⟨n,0,U⟩) 4 4)/\yB a n (K (I ⟨n,0,U⟩) 4 4) [(48,57),(65,90),(95,95),(97,122)]/\ziE w a:=by subst b;exact Wc w
theorem zfS (n:Nat)(b:w.heap.size=n):Uh V 217 #[] w λx a=>x=R (K (I ⟨n,0,U⟩) 10 10)/\yB a n (K (I ⟨n,0,U⟩) 10 10) [(9,13),(32,32),(160,160),(5760,5760),(8192,8202),(8232,8233),(8239,8239),(8287,8287),(12288,12288),(65279,65279)]/\ziE w a:=by subst b;exact zdF w
structure Pt where
 neg:Bool
 spans:List (Int×Int)
namespace Ref
def KY:List (Int×Int):=[(48,57)]
def kD:List (Int×Int):=[(48,57),(65,90),(95,95),(97,122)]
def XU:List (Int×Int):=[(9,13),(32,32),(160,160),(5760,5760),(8192,8202),(8232,8233),(8239,8239),(8287,8287),(12288,12288),(65279,65279)]
def backB (b:Int):Bool:=(decide (49<=b) && decide (b<=57)) ||(b == 107) ||(b == 112) ||(b == 80)
def setL (b:Int):List (Int×Int):=if b=100\/b=68 then KY else if b=119\/b=87 then kD else if b=115\/b=83 then XU else []
def zI (s:ByteArray)(cls:Bool)(h:St):Pt×Bool×St:=
 if backB (zd s (h.i+1))=G then(⟨Z,[]⟩,G,(h.go 1).fail 6 h.i)
 else if setL (zd s (h.i+1))≠[] then(⟨decide (zd s (h.i+1)<97),setL (zd s (h.i+1))⟩,Z,h.go 2)
 else(⟨Z,[((zL s cls (h.go 1)).1,(zL s cls (h.go 1)).1)]⟩,G,(zL s cls (h.go 1)).2)
end Ref
theorem Ref.backB_cases {b:Int}(h:Ref.backB b=G):(49<=b/\b<=57)\/b=107\/b=112\/b=80:=by simp[Ref.backB] at h;omega
theorem Ref.backB_not {b:Int}(h:¬Ref.backB b=G):¬(49<=b/\b<=57)/\b≠107/\b≠112/\b≠80:=by simp[Ref.backB] at h;omega
theorem Ref.setL_nil {b:Int}(h:Ref.setL b=[]):(b == 100)=Z/\(b == 68)=Z/\(b == 119)=Z/\(b == 87)=Z/\(b == 115)=Z/\(b == 83)=Z:=by
 unfold Ref.setL at h
 (repeat' split at h)<;>simp_all [Ref.KY,Ref.kD,Ref.XU]
theorem Ref.setL_cases {b:Int}(h:¬Ref.setL b=[]):((b == 100)=G/\Ref.setL b=Ref.KY)\/((b == 100)=Z/\(b == 68)=G/\Ref.setL b=Ref.KY)\/ ((b == 100)=Z/\(b == 68)=Z/\(b == 119)=G/\Ref.setL b=Ref.kD)\/((b == 100)=Z/\(b == 68)=Z/\(b == 119)=Z/\(b == 87)=G/\Ref.setL b=Ref.kD)\/ ((b == 100)=Z/\(b == 68)=Z/\(b == 119)=Z/\(b == 87)=Z/\(b == 115)=G/\Ref.setL b=Ref.XU)\/ ((b == 100)=Z/\(b == 68)=Z/\(b == 119)=Z/\(b == 87)=Z/\(b == 115)=Z/\(b == 83)=G/\Ref.setL b=Ref.XU):=by unfold Ref.setL at *;by_cases a:b=100;subst a;simp;by_cases c:b=68;subst c;simp;by_cases d:b=119;subst d;simp;by_cases e:b=87;subst e;simp;by_cases f:b=115;subst f;simp;by_cases g:b=83;subst g;simp;simp[a,c,d,e,f,g] at h
theorem zg {P:Nat->Prop}{w b:E}(h:zf P w b)(p:Addr)(v:Y)(a:w.cell? p=I v)(c:¬P p.block):b.cell? p=I v:=
 (h.cell (zgF w p a) c).trans a
theorem zo {P:Nat->Prop}{w a:E}(h:zf P w a)(p:Addr)(b:p.block<w.heap.size)(d:w.frozen? p=Z)(c:¬P p.block):a.frozen? p=Z:=
 (h.frozen b c).trans d
theorem Lex.keep {P:Nat->Prop}{w c:E}{b:Nat}{s:ByteArray}{h:St}(a:Lex w b s h)(k:zf P w c)(d:¬P b):Lex c b s h:=qW.keep a k d
theorem Lex.alloc {w:E}{b:Nat}{s:ByteArray}{h:St}(a:Lex w b s h)(o:Obj):Lex (w.alloc o) b s h:=a.keep ((zf.refl (λ_=>False) w).alloc o) id
theorem Lex.lt {w:E}{b:Nat}{s:ByteArray}{h:St}(a:Lex w b s h):b<w.heap.size:=qW.lt a
theorem zm (n:Nat)(a:W.heap.size=n)(c:Array Y)(T:TypeId)(off:Nat)(v:Y)(h:c[off]?=I v):(W.alloc (Ub c T)).cell? ⟨n,off,U⟩=I v:=by subst a;rw[zie _ _ _ _ rfl];exact h
theorem zu (n:Nat)(a:W.heap.size=n)(c:Array Y)(T:TypeId)(off:Nat):(W.alloc (Ub c T)).frozen? ⟨n,off,U⟩=Z:=by subst a;exact World.frozen?_alloc_at _ _ _ _ rfl
theorem zf.fresh {P:Nat->Prop}{a w:E}(h:zf P a w)(p:Addr)(b:a.heap.size<=p.block)(u:Y):zf P a (w.setCell p u):=h.setCell (Or.inr b) u
theorem zfT (base:Nat):yB w base (K U 0 0) []:=zgP w base _ _
theorem KZ (h:St)(w:E)(d:Lex w b s h)(hs:s.size<=400)(hi:h.i<s.size):Uh V 180 #[Ua (I ⟨b,0,U⟩),C cls] w λx w'=> ∃sv,x=R (Ue #[Uf #[C (Ref.zI s cls h).1.neg,sv],C (Ref.zI s cls h).2.1])/\yB w' w.heap.size sv (Ref.zI s cls h).1.spans/\Lex w' b s (Ref.zI s cls h).2.2/\zf (zt b) w w':=by
 have aq:=ze d;have aP:=d.lt;have aO:=jw s (h.i+1);have aM:=xj s (h.i+1);have aQ:∀w a n c n' c',(binOp .neq 334 (K a n c) (K U n' c')).run V w=.ok (C (!a.isNone)) w:=λw a n c n' c'=>run_neq_slice_nil_any (P:=V) w 334 333 a n c n' c' underlying334;obtain⟨c0,c1,c2,c3,f1,f2,f3⟩:=d;go_enter func180,ntmps180;go_wp2_with fail;have S:=ze ((aq.setI ((h.i:Int)+1) 1 oa).alloc (Ub #[C Z,K U 0 0] 336));refine(ye b s (h.go 1) _ S hs).mono ?_;rintro e w1 ⟨rfl,nq,rfl⟩;simp only[St.go];generalize q:zd s (h.i+1)=B at *;by_cases o:Ref.backB B=G
 .have z:H (Ref.zI s cls h=(⟨Z,[]⟩,G,(h.go 1).fail 6 h.i)):=by show _=_;unfold Ref.zI;rw[q,IN o]
  have T:=Ref.backB_cases o;clear q o;have ab:(49<=B/\B<=57)\/(¬49<=B\/57<B)/\((B == 107)=G\/(B == 107)=Z/\((B == 112)=G\/(B == 112)=Z/\(B == 80)=G)):=by simp;omega
  clear T;rcases ab with⟨m,q2⟩|⟨m|m,q2|⟨q2,q3|⟨q3,q4⟩⟩⟩
  all_goals
   go_wp2_with fail;refine(yU b s (h.go 1) 6 _ _ (S.drewN _)).mono ?_;rintro e l ⟨rfl,r,j⟩;have u:l.cell? ⟨w.heap.size,0,U⟩=I (C Z):=zg (j) _ _ (zm _ _ ov _ _ 0 _ rfl) (by unfold zt;simp;omega);have F:l.cell? ⟨w.heap.size,1,U⟩=I (K U 0 0):=zg j _ _ (zm _ _ ov _ _ 1 _ rfl) (by unfold zt;simp;omega);have r2:l.frozen? ⟨w.heap.size,0,U⟩=Z:=zo j _ ov (zu _ _ ov _ _ 0) (by unfold zt;simp;omega);have r3:l.frozen? ⟨w.heap.size,1,U⟩=Z:=zo j _ ov (zu _ _ ov _ _ 1) (by unfold zt;simp;omega);go_wp2_with fail;refine bodyPost_ret (v:=Ue #[Uf #[C Z,K U 0 0],C G]) (by simp[results,results180,go_sem,u,F]) rfl ?_;rw[zb z];exact⟨_,rfl,zfT _ _,r.keep (((zf.refl (zt w.heap.size) _).mine _ _).mine _ _) (by unfold zt;omega),
    (((((((zf.refl _ _).mine _ _).alloc _).drewN _).trans j).fresh ⟨w.heap.size,0,U⟩ (zgH _) _).fresh ⟨w.heap.size,1,U⟩ (zgH _) _)⟩
 have T:=Ref.backB_not o;have ab:(¬49<=B\/57<B)/\(B == 107)=Z/\(B == 112)=Z/\(B == 80)=Z:=by simp;omega
 obtain⟨m,q2,q3,q4⟩:=ab;by_cases t:Ref.setL B=[]
 ·(have z:H (Ref.zI s cls h=(⟨Z,[((Ref.zL s cls (h.go 1)).1,(Ref.zL s cls (h.go 1)).1)]⟩,G,(Ref.zL s cls (h.go 1)).2)):=by show _=_;unfold Ref.zI;rw[q,iN o,iN (by simp[t])]);have ac:=Ref.setL_nil t;obtain⟨y,L,X,x4,x5,x6⟩:=ac;clear q o t T;rcases m with m|m
  all_goals
   go_wp2_with fail;refine(zdD b s cls (h.go 1) _ (S.drewN _) hs (by simp only[St.go];omega) (by simp only[St.go];omega)).mono ?_;rintro e l ⟨rfl,r,j⟩;have u:l.cell? ⟨w.heap.size,0,U⟩=I (C Z):=zg (j) _ _ (zm _ _ ov _ _ 0 _ rfl) (by unfold zt;simp;omega);have F:l.cell? ⟨w.heap.size,1,U⟩=I (K U 0 0):=zg j _ _ (zm _ _ ov _ _ 1 _ rfl) (by unfold zt;simp;omega);have r2:l.frozen? ⟨w.heap.size,0,U⟩=Z:=zo j _ ov (zu _ _ ov _ _ 0) (by unfold zt;simp;omega);have r3:l.frozen? ⟨w.heap.size,1,U⟩=Z:=zo j _ ov (zu _ _ ov _ _ 1) (by unfold zt;simp;omega);have au:w.heap.size<l.heap.size:=zgF l ⟨w.heap.size,0,U⟩ u;go_wp2_with fail;refine bodyPost_ret (v:=Ue #[Uf #[C Z,K (I ⟨l.heap.size,0,U⟩) 1 1],C G]) (by simp[results,results180,go_sem,u,F,au]) rfl ?_;rw[zb z];generalize (Ref.zL s cls (h.go 1)).1=N at *;refine⟨_,rfl,?_,?_,?_⟩;exact Z7 _ _ _ ov oa _ [(N,N)] rfl (by simp[maxLen]) 1 rfl;exact(r.keep (((zf.refl (zt w.heap.size) _).mine _ _).mine _ _) (by unfold zt;omega)).alloc _;exact(((((((zf.refl _ _).mine _ _).alloc _).drewN _).trans j).fresh ⟨w.heap.size,0,U⟩ (zgH _) _).fresh ⟨w.heap.size,1,U⟩ (zgH _) _).alloc _
 (have z:H (Ref.zI s cls h=(⟨decide (B<97),Ref.setL B⟩,Z,h.go 2)):=by show _=_;unfold Ref.zI;rw[q,iN o,IN t]);have ac:=Ref.setL_cases t;clear q o t T;rcases m with m|m
 case' inl=>have aR:¬49<=B:=m
 all_goals
  rcases ac with⟨y,p⟩|⟨y,L,p⟩|⟨y,L,X,p⟩|⟨y,L,X,x4,p⟩|⟨y,L,X,x4,x5,p⟩|⟨y,L,X,x4,x5,x6,p⟩
 all_goals
  have Hq:=ze p;clear p;go_wp2_with fail
  first
   |(refine(zfR _ (w.heap.size+1) ov).mono ?_;rintro e l ⟨rfl,W,j⟩)
   |(refine(words_at _ (w.heap.size+1) ov).mono ?_;rintro e l ⟨rfl,W,j⟩)
   |(refine(zfS _ (w.heap.size+1) ov).mono ?_;rintro e l ⟨rfl,W,j⟩)
 all_goals
  have r:=(S.drewN nq).keep j id;have ar:=ze r;obtain⟨d0,d1,d2,d3,g1,g2,g3⟩:=r;have u:l.cell? ⟨w.heap.size,0,U⟩=I (C Z):=zg (j) _ _ (zm _ _ ov _ _ 0 _ rfl) id;have F:l.cell? ⟨w.heap.size,1,U⟩=I (K U 0 0):=zg j _ _ (zm _ _ ov _ _ 1 _ rfl) id;have r2:l.frozen? ⟨w.heap.size,0,U⟩=Z:=zo j _ ov (zu _ _ ov _ _ 0) id;have r3:l.frozen? ⟨w.heap.size,1,U⟩=Z:=zo j _ ov (zu _ _ ov _ _ 1) id;have aK:(h.go 1).i<=1000:=(by simp only[St.go];omega);have ap:=ze W;have an:=ze j;clear W j;go_wp2_with fail
 all_goals
  refine bodyPost_ret (v:=Ue #[Uf #[C (decide (B<97)),_],C Z]) (by simp[results,results180,go_sem,u,F];rfl) rfl ?_;rw[zb z];refine⟨_,rfl,?_,?_,?_⟩;rw[zb Hq];exact(ap.keep ((((zf.refl (λk=>k=b\/k=w.heap.size) _).setCell (Or.inl (Or.inl rfl)) _).setCell (Or.inl (Or.inr rfl)) _).setCell (Or.inl (Or.inr rfl)) _) (by intro g hg _ hh;omega)).base oa;exact(ar.setI _ 1 (by simp only[St.go];omega)).keep (((zf.refl (zt w.heap.size) _).mine _ _).mine _ _) (by unfold zt;omega);exact((((((((zf.refl _ _).mine _ _).alloc _).drewN _).trans (an.mono (λ_ _ f=>f.elim))).mine _ _).fresh ⟨w.heap.size,0,U⟩ (zgH _) _).fresh ⟨w.heap.size,1,U⟩ (zgH _) _)
set_option maxHeartbeats 1000000
set_option maxRecDepth 100000
namespace Ref
def q9 (s:ByteArray)(p:Nat):Nat->Nat->Int->Option Int
 |0,_,c=>I c
 |k+1,i,c=>if zd s (p+i)<128\/191<zd s (p+i) then U else q9 s p k (i+1) (c*64+zd s (p+i)-128)
def headK (b:Int):Nat:=(headN b).toNat
theorem K0 (b:Int):headN b=(headK b:Int):=by unfold headK headN;(repeat' split)<;>rfl
theorem zbP (b:Int):headK b<=4:=by unfold headK headN;(repeat' split)<;>decide
theorem headC_bd (b:Int)(a:0<=b):0<=jH b/\jH b<128:=by unfold jH;(repeat' split)<;>omega
def Z8 (n:Nat)(c:Int):Bool:=decide (c<jq n) ||decide (1114111<c) ||(decide (55296<=c) && decide (c<=57343))
def xo (s:ByteArray)(p:Nat):Option (Nat×Int):=
 if headK (zd s p)=0\/s.size<p+headK (zd s p) then U
 else match q9 s p (headK (zd s p)-1) 1 (jH (zd s p)) with
  |none=>U
  |some c=>if Z8 (headK (zd s p)) c=G then U else I (headK (zd s p),c)
def xV (s:ByteArray):Nat->Nat->List (Int×Int)->List (Int×Int)×Int
 |0,_,acc=>(acc,-1)
 |f+1,p,acc=>if p<s.size then(match xo s p with
   |none=>(acc,(p:Int))
   |some (n,c)=>xV s f (p+n) (acc++[(c,(p:Int))])) else(acc,-1)
def zF (s:ByteArray):List (Int×Int)×Int:=xV s (s.size+1) 0 []
variable {s}
theorem ve {k i:Nat}{c:Int}(h:zd s (p+i)<128\/191<zd s (p+i)):q9 s p (k+1) i c=U:=by simp only[q9];rw[IN h]
theorem qz {k i:Nat}{c:Int}(h:¬(zd s (p+i)<128\/191<zd s (p+i))):q9 s p (k+1) i c=q9 s p k (i+1) (c*64+zd s (p+i)-128):=by simp only[q9];rw[iN h]
theorem jR (h:¬p<s.size):xV s (f+1) p acc=(acc,-1):=by simp only[xV];rw[iN h]
theorem qU (h:p<s.size)(a:xo s p=U):xV s (f+1) p acc=(acc,(p:Int)):=by simp only[xV];rw[IN h,a]
theorem qo (h:p<s.size)(a:xo s p=I (n,c)):xV s (f+1) p acc=xV s f (p+n) (acc++[(c,(p:Int))]):=by simp only[xV];rw[IN h,a]
theorem vf (h:headK (zd s p)=0\/s.size<p+headK (zd s p)):xo s p=U:=by unfold xo;rw[IN h]
theorem Z9 (h:¬(headK (zd s p)=0\/s.size<p+headK (zd s p)))(a:q9 s p (headK (zd s p)-1) 1 (jH (zd s p))=U):xo s p=U:=by unfold xo;rw[iN h,a]
theorem zdG (h:¬(headK (zd s p)=0\/s.size<p+headK (zd s p)))(a:q9 s p (headK (zd s p)-1) 1 (jH (zd s p))=I c)(b:Z8 (headK (zd s p)) c=G):xo s p=U:=by unfold xo;rw[iN h,a];simp[b]
theorem Wd (h:¬(headK (zd s p)=0\/s.size<p+headK (zd s p)))(a:q9 s p (headK (zd s p)-1) 1 (jH (zd s p))=I c)(b:Z8 (headK (zd s p)) c=Z):xo s p=I (headK (zd s p),c):=by unfold xo;rw[iN h,a];simp[b]
end Ref
theorem Tryz.infoChar:(prog.info? 302).map (λi=>(i.zero,i.size,i.bytes))=I (I (Uf #[M J 0,M J 0]),2,16):=om
def J1 (w:E)(base:Nat)(v:Y)(l:List (Int×Int)):Prop:=w.ownsRow base 302 2 v l.length (spanCells l)
theorem Jg (l m:List (Int×Int)):spanCells (l++m)=spanCells l++spanCells m:=by
 induction l with
 |nil=>rfl
 |cons x r c=>obtain⟨a,b⟩:=x;simp only[zhf,spanCells,c]
def capC:Nat->Int
 |0=>128
 |1=>8192
 |2=>524288
 |3=>33554432
 |_=>2147483648
theorem capC_le:capC k<=2147483648:=by unfold capC;split<;>omega
theorem zfU (h:k<=3)(d b:Int)(c:d<capC k)(e:b<=191):d*64+b-128<capC (k+1):=by have a:k=0\/k=1\/k=2\/k=3:=oa;rcases a with rfl|rfl|rfl|rfl<;>simp only[capC] at *<;>omega
theorem vg (hs:s.size<=400):Uh V 101 #[Uc s] w λx w'=> ∃v,x=R (Ue #[v,M J (Ref.zF s).2])/\J1 w' w.heap.size v (Ref.zF s).1/\ziE w w':=by
 obtain⟨i0,B,F,L,P⟩:=info_parts Tryz.infoChar;go_enter func101,ntmps101;go_wp2_with fail;go_loopw[4,5] (λv p wr=>∃(q f:Nat) (acc:List (Int×Int)),p=M J q/\q<=s.size/\acc.length<=q/\J1 wr w.heap.size v acc/\ziE w wr/\H (s.size<q+f)/\H (Ref.zF s=Ref.xV s f q acc))
  (λ_ p _=>s.size-(intOf p).toNat)
 exact⟨0,s.size+1,[],rfl,oa,ov,zgP _ _ _ _,zf.refl _ _,(by show _<_;omega),rfl⟩;obtain⟨q,f,acc,rfl,hq,aI,b,o,hf,l⟩:=hrel;obtain⟨f,rfl⟩:∃f',f=f'+1:=⟨f-1,by have:=zb hf;omega⟩
 by_cases g:q<s.size
 .go_wp2_with fail;rw[Zs,<-yZ s q g];have X:=(zw s q).2 g;have ag:=xj s q;refine(head_any _ _ X ag).mono ?_;rintro e w1 ⟨rfl,u⟩;have ab:=u.symm;subst ab;clear u;rw[Ref.K0];have hc:=Ref.headC_bd (zd s q) X;have hK:=Ref.zbP (zd s q);generalize hN:Ref.headK (zd s q)=N at *;generalize hC:Ref.jH (zd s q)=h at *;have a:=ze hN;have W:=ze hC;clear hN hC X ag;by_cases n:N=0\/s.size<q+N
  ·(have HG:H (Ref.zF s=(acc,(q:Int))):=by rw[zb l];exact Ref.qU g (Ref.vf (by rw[zb a];exact n)));by_cases h0:N=0
   .subst h0;clear n;go_wp2_with fail;go_ret2;rw[zb HG];exact⟨_,rfl,b,o⟩
   have h2:s.size<q+N:=oa;have h3:((N:Int) == 0)=Z:=ou;clear n;go_wp2_with fail;go_ret2;rw[zb HG];exact⟨_,rfl,b,o⟩
  have h0:((N:Int) == 0)=Z:=ou;have h2:q+N<=s.size:=oa;have h3:1<=N:=oa;have T:H (¬(Ref.headK (zd s q)=0\/s.size<q+Ref.headK (zd s q))):=(by rw[zb a];exact n);clear n;have aM:decide ((s.size:Int)<(q:Int)+N)=Z:=ou;have z:=ze b;have m:=ze o;have HI:=ze (Ur B (Ur F (Ur L P)));clear b o B F L P;go_wp2_with fail
  go_loop [7,8] (λc i=>∃(k:Nat) (d:Int),i=M J k/\c=M J d/\1<=k/\k<=N/\0<=d/\d<=2147483648/\H (d<capC k)/\H (Ref.q9 s q (N-1) 1 h=Ref.q9 s q (N-k) k d))
   (λ_ i=>N-(intOf i).toNat)
  case atStart=>exact⟨1,h,rfl,rfl,oa,oa,oa,oa,(by show h<8192;omega),rfl⟩
  case round=>
   obtain⟨k,d,rfl,rfl,aN,aO,aK,aL,ak,y⟩:=hrel;have ax:=jw s (q+k);have ay:=xj s (q+k);by_cases aP:k<N
   .have hw:wrap64 ((s[q+k]' oa).toNat:Int)=zd s (q+k):=(by rw[Zs,yZ]);by_cases r:zd s (q+k)<128\/191<zd s (q+k)
    ·(have HG:H (Ref.zF s=(acc,(q:Int))):=by rw[zb l];exact Ref.qU g (Ref.Z9 T (by rw[zb a,zb W,zb y,show N-k=(N-k-1)+1 by omega];exact Ref.ve r)));by_cases az:zd s (q+k)<128
     .clear r;go_wp2_with fail;go_ret2;rw[zb HG];exact⟨_,rfl,z,m⟩
     have aj:191<zd s (q+k):=oa;clear r;go_wp2_with fail;go_ret2;rw[zb HG];exact⟨_,rfl,z,m⟩
    (have ar:H (Ref.q9 s q (N-1) 1 h=Ref.q9 s q (N-(k+1)) (k+1) (d*64+zd s (q+k)-128)):=by rw[zb y,show N-k=(N-(k+1))+1 by omega];exact Ref.qz r);have az:128<=zd s (q+k):=oa;have aj:zd s (q+k)<=191:=oa;have ad:=ze (zfU k oa d _ ak aj);have aA:=capC_le (k+1);have aR:d*64+zd s (q+k)-128<=2147483648:=(by have:=zb ad;omega);clear r aA;go_wp2_with fail;go_round
    case rel=>exact⟨k+1,_,by go_num,rfl,oa,oa,oa,oa,ad,ar⟩
    case measure=>simp[intOf];omega
   have Hd:H (Ref.q9 s q (N-1) 1 h=I d):=(by rw[zb y,show N-k=0 by omega];rfl);clear ax ay y ak;go_wp2_with fail;refine(zfQ _ _).mono ?_;rintro e w1 ⟨rfl,u⟩;have ab:=u.symm;subst ab;clear u;by_cases t:Ref.Z8 N d=G
   ·(have HG:H (Ref.zF s=(acc,(q:Int))):=by rw[zb l];exact Ref.qU g (Ref.zdG T (by rw[zb a,zb W];exact Hd) (by rw[zb a];exact t)));simp only[Ref.Z8,zhD,zhb,decide_eq_true_eq] at t;have aB:d<Ref.jq N\/¬d<Ref.jq N/\(1114111<d\/¬1114111<d/\55296<=d/\d<=57343):=oa;clear t;rcases aB with y1|⟨y1,y2|⟨y2,y3,S⟩⟩
    all_goals
     go_wp2_with fail;go_ret2;rw[zb HG];exact⟨_,rfl,z,m⟩
   (have aa:Ref.Z8 N d=Z:=(by simpa using t);have HG:H (Ref.zF s=Ref.xV s f (q+N) (acc++[(d,(q:Int))])):=by rw[zb l];have:=Ref.qo (f:=f) (acc:=acc) g (Ref.Wd T (by rw[zb a,zb W];exact Hd) (by rw[zb a];exact aa));rw[zb a] at this;exact this);simp only[Ref.Z8,Bool.or_eq_false_iff,Bool.and_eq_false_iff,decide_eq_false_iff_not] at aa;obtain⟨⟨y1,y2⟩,y3⟩:=aa;clear t;obtain⟨B,F,L,P⟩:=zb HI;have b:wr.ownsRow w.heap.size 302 2 _ acc.length (spanCells acc):=zb z;have S:¬55296<=d\/55296<=d/\57343<d:=oa;clear y3;rcases S with S|⟨S,y5⟩
   all_goals
    go_wp2_with(at_builtin;refine wpList_append_own _ rfl _ _ 227 rfl w.heap.size 302 i0 (Uf #[M J 0,M J 0]) 2 16 underlying227 B F L P rfl od _ _ _ rfl (zgO b _) ⟨wr.heap.size,0,U⟩ 1 1 [M J d,M J (q:Int)] rfl rfl (cell_two_new _ _ _ _) (λx hx=>by simp at hx;rcases hx with rfl|rfl<;>rfl) (by unfold maxLen;omega) oa (by have:=m.size;simp;omega) ?_;intro v' w3 aE aC aQ);go_roundw
    case rel=>
     exact⟨q+N,f,acc++[(d,(q:Int))],by go_num,h2,by simp;omega,(by
      show World.ownsRow _ _ _ _ _ _ _;rw[Jg,zgK];exact aE),(m.alloc _).grown aC (λj hj=>Or.inr (b.lt j hj).1),(by have:=zb hf;show _<_;omega),HG⟩
    case measure=>simp[intOf];omega
 (have HG:H (Ref.zF s=(acc,-1)):=by rw[zb l];exact Ref.jR g);go_wp2_with fail;go_ret2;rw[zb HG];exact⟨_,rfl,b,o⟩
namespace Ref
def JD (s:ByteArray):Nat->Nat->Bool
 |0,p=>p == s.size
 |f+1,p=>if p<s.size then(match xo s p with
   |none=>Z
   |some (n,_)=>JD s f (p+n)) else p == s.size
def Good (s:ByteArray)(p:Nat):Prop:=∃f,JD s f p=G
variable {s}
theorem qr (h:xo s p=I (n,c)):1<=n/\p+n<=s.size/\n<=4/\n=headK (zd s p)/\0<=c/\c<=1114111/\¬(55296<=c/\c<=57343):=by unfold xo at h;split at h;cases h;rename_i d;split at h;cases h;rename_i b e;split at h;cases h;rename_i a;simp only[Option.some.injEq,Prod.mk.injEq] at h;obtain⟨rfl,rfl⟩:=h;have:=zbP (zd s p);simp only[Z8,zhD,zhb,decide_eq_true_eq] at a;have f:0<=jq (headK (zd s p)):=(by unfold jq;(repeat' split)<;>omega);omega
theorem Good.le (h:Good s p):p<=s.size:=by
 obtain⟨f,h⟩:=h;cases f with
 |zero=>simp[JD] at h;omega
 |succ f=>
  simp only[JD] at h;split at h;omega;simp at h;omega
theorem Good.next (h:Good s p)(b:p<s.size):∃n c,xo s p=I (n,c)/\Good s (p+n):=by
 obtain⟨f,h⟩:=h;cases f with
 |zero=>simp[JD] at h;omega
 |succ f=>
  simp only[JD] at h;rw[IN b] at h;split at h;cases h;rename_i n c a;exact⟨n,c,a,f,h⟩
theorem Yo (s:ByteArray):∀(f p:Nat) (acc:List (Int×Int)),s.size<p+f->((xV s f p acc).2 = -1->p<=s.size->Good s p)
 |0,p,acc,h,_,e=>oa
 |f+1,p,acc,h,a,e=>by
  by_cases b:p<s.size
  .cases ho:xo s p with
   |none=>rw[qU b ho] at a;simp at a
   |some r=>
    obtain⟨n,c⟩:=r;have i:=qr ho;rw[qo b ho] at a;obtain⟨g,d⟩:=Yo s f (p+n) _ oa a oa;exact⟨g+1,by simp only[JD];rw[IN b,ho];exact d⟩
  exact⟨0,by simp[JD];omega⟩
theorem K1 (s:ByteArray):∀(f p:Nat) (acc:List (Int×Int)),∃t,(xV s f p acc).1=acc++t
 |0,p,acc=>⟨[],by simp[xV]⟩
 |f+1,p,acc=>by
  by_cases a:p<s.size
  .cases ho:xo s p with
   |none=>exact⟨[],by rw[qU a ho];simp⟩
   |some r=>
    obtain⟨n,c⟩:=r;rw[qo a ho];obtain⟨t,b⟩:=K1 s f (p+n) (acc++[(c,(p:Int))]);exact⟨[(c,(p:Int))]++t,by rw[b,zgX]⟩
  exact⟨[],by rw[jR a];simp⟩
variable (s)
theorem QE (_a:i<=s.size):(s.extract i s.size).size=s.size-i:=ov
theorem K2 (a:i<=s.size):zd (s.extract i s.size) k=zd s (i+k):=by by_cases b:i+k<s.size;rw[yZ s (i+k) b,yZ _ k (by rw[QE s i a];omega)];simp[ByteArray.getElem_extract];rw[qw s (i+k) oa,qw _ k (by rw[QE s i a];omega)]
theorem We (s:ByteArray)(i p:Nat)(a:i<=s.size):∀(k j:Nat) (c:Int),q9 (s.extract i s.size) p k j c=q9 s (i+p) k j c
 |0,_,_=>rfl
 |k+1,j,c=>by
  simp only[q9];rw[K2 s i (p+j) a,<-zih,We s i p a k (j+1)]
theorem zbQ (p:Nat)(a:i<=s.size):xo (s.extract i s.size) p=xo s (i+p):=by unfold xo;rw[K2 s i p a,QE s i a];have e:(headK (zd s (i+p))=0\/s.size-i<p+headK (zd s (i+p)))↔(headK (zd s (i+p))=0\/s.size<i+p+headK (zd s (i+p))):=oa;simp only[e,We s i p a]
variable {s i}
theorem zfV (m:i<s.size)(h:xo s i=I (n,c))(g:Good s (i+n)):(i+n=s.size/\(zF (s.extract i s.size)).1=[(c,0)])\/(i+n<s.size/\∃a t,(zF (s.extract i s.size)).1=(c,0):: (a,(n:Int)):: t):=by
 have l:=qr h;have d:xo (s.extract i s.size) 0=I (n,c):=by rw[zbQ s i 0 oa];exact h
 have o:=QE s i oa;unfold zF;rw[qo oa d];by_cases f:i+n=s.size;left;refine⟨f,?_⟩;rw[show(s.extract i s.size).size=(s.size-i-1)+1 by omega,jR oa];rfl;right;refine⟨oa,?_⟩;obtain⟨b,a,j,_⟩:=g.next oa;have e:xo (s.extract i s.size) (0+n)=I (b,a):=by rw[zbQ s i _ oa];simpa using j
 rw[show(s.extract i s.size).size=(s.size-i-1)+1 by omega,qo oa e];obtain⟨t,k⟩:=K1 (s.extract i s.size) (s.size-i-1) (0+n+b) ([]++[(c,((0:Nat):Int))]++[(a,((0+n:Nat):Int))]);exact⟨a,t,by rw[k];simp⟩
theorem K3 (b:0<=zd s p)(a:zd s p<128):xo s p=I (1,zd s p):=by
 have f:=(zw s p).1 b;have e:headK (zd s p)=1:=by simp[headK,headN,a]
 have d:jH (zd s p)=zd s p:=by simp[jH,a]
 have c:Z8 1 (zd s p)=Z:=by simp[Z8,jq];omega
 unfold xo;rw[e,iN oa,d];simp[q9,c]
theorem Good.ascii (h:Good s p)(b:0<=zd s p)(e:zd s p<128):Good s (p+1):=by have f:=(zw s p).1 b;obtain⟨n,c,a,d⟩:=h.next f;rw[K3 b e] at a;simp at a;rw[<-a.1] at d;exact d
end Ref
theorem ZE {w:E}{base:Nat}{T:TypeId}{size:Nat}{v:Y}{n:Nat}{xs:List Y}(h:w.ownsRow base T size v n xs)(i:0<n):∃g cap,v=K (I ⟨g,0,U⟩) n cap/\base<=g/\g<w.heap.size/\n<=cap:=by
 obtain⟨c,a⟩:=h;rcases a with⟨_,a⟩|⟨g,cap,b,rfl,e,f,d,_⟩;omega
 grind
theorem zbR (h:St)(n:Nat)(c:Int)(w:E)(a:Lex w b s h)(hs:s.size<=400)(hi:h.i<s.size)(m:Ref.xo s h.i=I (n,c))(p:Ref.Good s (h.i+n)):Uh V 182 #[Ua (I ⟨b,0,U⟩)] w λx r=> ∃T,x=R (Uf #[C Z,T])/\yB r w.heap.size T [(c,c)]/\Lex r b s (h.go n)/\zf (zt b) w r:=by
 have ab:=ze a;have ay:=a.lt;have F:=Ref.qr m;have L:=Ref.zfV hi m p;have W:=ze L;have Ho:=ze m;have Hg:=ze p;have az:n<=4:=F.2.2.1;clear L m p F;obtain⟨c0,c1,c2,c3,f1,f2,f3⟩:=a;have y:=ze (ab.alloc (Ub #[C Z,K U 0 0] 336));go_enter func182,ntmps182;go_wp2_with fail;go_region_with(go_at_call 101;refine(vg _ _ ou).mono ?_;rintro e i ⟨v,rfl,d,j⟩)
 all_goals
  have z:Lex i b s h:=Lex.keep (P:=λ_=>False) (by first|exact y|exact y.drewN _) j id;have o:(w.alloc (Obj.cells #[C Z,K U 0 0] 336)).drew.heap.size=w.heap.size+1:=ov;have q:i.cell? ⟨w.heap.size,0,U⟩=I (C Z):=zg j _ _ (by first|exact zm _ _ ov _ _ 0 _ rfl) id;have S:i.cell? ⟨w.heap.size,1,U⟩=I (K U 0 0):=zg j _ _ (by first|exact zm _ _ ov _ _ 1 _ rfl) id;have r2:i.frozen? ⟨w.heap.size,0,U⟩=Z:=zo j _ (by rw[o];simp) (by first|exact zu _ _ ov _ _ 0) id;have r3:i.frozen? ⟨w.heap.size,1,U⟩=Z:=zo j _ (by rw[o];simp) (by first|exact zu _ _ ov _ _ 1) id;have B:=ze z;have N:w.heap.size<i.heap.size:=zgF i ⟨w.heap.size,0,U⟩ q;obtain⟨d0,d1,d2,d3,g1,g2,g3⟩:=z;rw[o] at d;have u:=ze j;clear o j;rcases zb W with⟨l,k⟩|⟨l,c',t,k⟩
  .unfold J1 at d;rw[k] at d;obtain⟨g,aa,rfl,ac,ad,ae⟩:=ZE d ov;have k0:i.cell? ⟨g,0,U⟩=I (M J c):=d.cells rfl 0 _ rfl;clear k d;have X:=ze l;clear l;go_wp2_with fail;have l:=zb X;refine bodyPost_ret (v:=Uf #[C Z,K (I ⟨i.heap.size,0,U⟩) 1 1]) (by simp[results,results182,go_sem,q,S,N]) rfl ?_;refine⟨_,rfl,Z7 _ _ _ ov oa _ [(c,c)] rfl (by simp[maxLen]) 1 rfl,?_,?_⟩;exact((B.setI _ n oa).keep (((zf.refl (zt w.heap.size) _).mine _ _).mine _ _) (by unfold zt;omega)).alloc _;exact(((((((((zf.refl (zt b) w).alloc _).drewN 1).trans (u.mono (λ_ _ f=>f.elim)))).mine _ _).fresh ⟨w.heap.size,0,U⟩ (zgH _) _).fresh ⟨w.heap.size,1,U⟩ (zgH _) _)).alloc _
  unfold J1 at d;rw[k] at d;obtain⟨g,aa,rfl,ac,ad,ae⟩:=ZE d ov;have k0:i.cell? ⟨g,0,U⟩=I (M J c):=d.cells rfl 0 _ rfl;have k3:i.cell? ⟨g,3,U⟩=I (M J n):=d.cells rfl 3 _ rfl;clear k d;go_wp2_with fail;go_region;all_goals (try go_wp2_with fail)
  all_goals
   refine bodyPost_ret (v:=Uf #[C Z,K (I ⟨i.heap.size,0,U⟩) 1 1]) (by simp[results,results182,go_sem,q,S,N]) rfl ?_;refine⟨_,rfl,Z7 _ _ _ ov oa _ [(c,c)] rfl (by simp[maxLen]) 1 rfl,?_,?_⟩;exact(((B.drewN _).setI _ n oa).keep (((zf.refl (zt w.heap.size) _).mine _ _).mine _ _) (by unfold zt;omega)).alloc _;exact((((((((((zf.refl (zt b) w).alloc _).drewN 1).trans (u.mono (λ_ _ f=>f.elim)))).drewN _).mine _ _).fresh ⟨w.heap.size,0,U⟩ (zgH _) _).fresh ⟨w.heap.size,1,U⟩ (zgH _) _)).alloc _
end
