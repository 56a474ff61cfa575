/- The reference's smallest functions: what each answers, for every argument. -/
import Derived.Test.YtcgleficedipkaaGreatDoorProg
import Derived.Test.YtcgleficedipkaaGreatDoorYBaseSemD
import Derived.Lib.Strings
import Derived.Lib.IndexBytes
namespace Go.Proofs.YtcgleficedipkaaGreatDoor
open _root_.Go.Proofs.Tryz
variable (b:Nat){s:ByteArray}(i:Nat)(e a:Int)(W w:World){f p n:Nat}(k:Nat){c:Int}{acc:List (Int×Int)}(cls:Bool)
section
open Go.RowKit
set_option maxHeartbeats 400000
namespace Ref
def hexV (b:Int):Int:=if 48<=b/\b<=57 then b-48 else if 97<=b/\b<=102 then b-87 else if 65<=b/\b<=70 then b-55 else -1
def xK (n:Int):Int:=if n=2 then 128 else if n=3 then 2048 else if n=4 then 65536 else 0
def headN (b:Int):Int:=if b<128 then 1 else if 192<=b/\b<224 then 2 else if 224<=b/\b<240 then 3 else if 240<=b/\b<248 then 4 else 0
def y7 (b:Int):Int:=if b<128 then b else if 192<=b/\b<224 then b-192 else if 224<=b/\b<240 then b-224 else if 240<=b/\b<248 then b-240 else 0
def controlV (b:Int):Int:=if b=116 then 9 else if b=110 then 10 else if b=118 then 11 else if b=102 then 12 else if b=114 then 13 else -1
end Ref
theorem ret_two {k l:IntKind}{a b c d:Int}(h:a=b)(g:c=d):Ending.returned (.tuple #[.int k a,.int l c]) = .returned (.tuple #[.int k b,.int l d]):=by rw [h,g]
theorem ret_bool {a b:Bool}(h:a=b):Ending.returned (.bool a) = .returned (.bool b):=by rw [h]
theorem ret_int {k:IntKind}{a b:Int}(h:a=b):Ending.returned (.int k a) = .returned (.int k b):=by rw [h]
theorem zfv (b:Int)(w:World)(h1:-1<=b)(h2:b<=255) :
  Calls prog 273 #[.int .i64 b] w fun e w'=>e = .returned (.int .i64 (Ref.hexV b))/\w'=w:=by
 go_enter func273,ntmps273;go_wp2
 all_goals (go_ret;refine ⟨ret_int ?_,rfl⟩;unfold Ref.hexV;(repeat' split)<;>omega)
theorem zgH (b:Int)(w:World) :
  Calls prog 244 #[.int .i64 b] w fun e w'=>e = .returned (.int .i64 (Ref.controlV b))/\w'=w:=by
 go_enter func244,ntmps244;go_wp2
 all_goals (go_ret;refine ⟨ret_int ?_,rfl⟩;unfold Ref.controlV;simp_all)
theorem zhG (n:Int)(w:World) :
  Calls prog 143 #[.int .i64 n] w fun e w'=>e = .returned (.int .i64 (Ref.xK n))/\w'=w:=by
 go_enter func143,ntmps143;go_wp2
 all_goals (go_ret;refine ⟨ret_int ?_,rfl⟩;unfold Ref.xK;simp_all)
theorem head_any (b:Int)(w:World)(h1:0<=b)(h2:b<=255) :
  Calls prog 142 #[.int .i64 b] w fun e w'=>e = .returned (.tuple #[.int .i64 (Ref.headN b),.int .i64 (Ref.y7 b)])/\w'=w:=by
 go_enter func142,ntmps142;go_wp2
 all_goals go_ret2
 all_goals (refine ⟨ret_two ?_ ?_,rfl⟩<;>(first |unfold Ref.headN |unfold Ref.y7)<;>(repeat' split)<;>omega)
variable (s)
theorem now_any (h:LexAt w b s i e a)(_hs:s.size<=maxLen) :
  Calls prog 144 #[.pointer (some ⟨b,0,none⟩)] w fun x w'=>x = .returned (.int .i64 (zd s i))/\∃ n,w'=w.drewN n:=by
 obtain ⟨c0,c1,c2,c3,f1,f2,f3⟩:=h;unfold maxLen at _hs;by_cases hlt:i<s.size
 ·go_enter func144,ntmps144;go_wp2;go_quiet (fail);go_wp2;go_quiet (fail);go_wp2;go_ret;exact ⟨ret_int (by rw [xZ s i hlt,zeM]),_,by rw [Xf]⟩
 ·go_enter func144,ntmps144;go_wp2;go_quiet (fail);go_wp2;go_ret;exact ⟨ret_int (by rw [Zq s i (by omega)]),_,rfl⟩
theorem fail_any (i e a e' a':Int)(w:World)(h:LexAt w b s i e a) :
  Calls prog 147 #[.pointer (some ⟨b,0,none⟩),.int .i64 e',.int .i64 a'] w fun x w'=>
   x = .returned (.tuple #[])/\LexAt w' b s i (if e=0 then e' else e) (if e=0 then a' else a)/\ze (zt b) w w':=by
 have h':=zc h;obtain ⟨c0,c1,c2,c3,f1,f2,f3⟩:=h;by_cases he:e=0
 ·have hb:(e == 0)=true:=by simp [he]
  have He:Hid (e=0):=he;clear he;go_enter func147,ntmps147;go_wp2
  go_end0
  exact ⟨rfl,((zb h').setE e').setA a',((ze.refl _ _).mine _ _).mine _ _⟩
 ·have hb:(e == 0)=false:=by simp [he]
  have He:Hid (¬e=0):=he;clear he;go_enter func147,ntmps147;go_wp2
  go_end0
  exact ⟨rfl,zb h',ze.refl _ _⟩
def Ref.signB (b:Int):Bool:=[94,36,92,46,42,43,63,40,41,91,93,123,125,124,47].any fun c=>decide (c=b)
theorem zg7 (b:Int)(w:World)(_h1:-1<=b)(_h2:b<=255) :
  Calls prog 245 #[.int .i64 b] w fun e w'=>e = .returned (.bool (Ref.signB b))/\w'=w:=by
 have k0:wrap64 ((({ data:=#[94,36,92,46,42,43,63,40,41,91,93,123,125,124,47] }:ByteArray)[0]'(by decide)).toNat:Int)=94:=by decide +kernel
 have k1:wrap64 ((({ data:=#[94,36,92,46,42,43,63,40,41,91,93,123,125,124,47] }:ByteArray)[1]'(by decide)).toNat:Int)=36:=by decide +kernel
 have k2:wrap64 ((({ data:=#[94,36,92,46,42,43,63,40,41,91,93,123,125,124,47] }:ByteArray)[2]'(by decide)).toNat:Int)=92:=by decide +kernel
 have k3:wrap64 ((({ data:=#[94,36,92,46,42,43,63,40,41,91,93,123,125,124,47] }:ByteArray)[3]'(by decide)).toNat:Int)=46:=by decide +kernel
 have k4:wrap64 ((({ data:=#[94,36,92,46,42,43,63,40,41,91,93,123,125,124,47] }:ByteArray)[4]'(by decide)).toNat:Int)=42:=by decide +kernel
 have k5:wrap64 ((({ data:=#[94,36,92,46,42,43,63,40,41,91,93,123,125,124,47] }:ByteArray)[5]'(by decide)).toNat:Int)=43:=by decide +kernel
 have k6:wrap64 ((({ data:=#[94,36,92,46,42,43,63,40,41,91,93,123,125,124,47] }:ByteArray)[6]'(by decide)).toNat:Int)=63:=by decide +kernel
 have k7:wrap64 ((({ data:=#[94,36,92,46,42,43,63,40,41,91,93,123,125,124,47] }:ByteArray)[7]'(by decide)).toNat:Int)=40:=by decide +kernel
 have k8:wrap64 ((({ data:=#[94,36,92,46,42,43,63,40,41,91,93,123,125,124,47] }:ByteArray)[8]'(by decide)).toNat:Int)=41:=by decide +kernel
 have k9:wrap64 ((({ data:=#[94,36,92,46,42,43,63,40,41,91,93,123,125,124,47] }:ByteArray)[9]'(by decide)).toNat:Int)=91:=by decide +kernel
 have k10:wrap64 ((({ data:=#[94,36,92,46,42,43,63,40,41,91,93,123,125,124,47] }:ByteArray)[10]'(by decide)).toNat:Int)=93:=by decide +kernel
 have k11:wrap64 ((({ data:=#[94,36,92,46,42,43,63,40,41,91,93,123,125,124,47] }:ByteArray)[11]'(by decide)).toNat:Int)=123:=by decide +kernel
 have k12:wrap64 ((({ data:=#[94,36,92,46,42,43,63,40,41,91,93,123,125,124,47] }:ByteArray)[12]'(by decide)).toNat:Int)=125:=by decide +kernel
 have k13:wrap64 ((({ data:=#[94,36,92,46,42,43,63,40,41,91,93,123,125,124,47] }:ByteArray)[13]'(by decide)).toNat:Int)=124:=by decide +kernel
 have k14:wrap64 ((({ data:=#[94,36,92,46,42,43,63,40,41,91,93,123,125,124,47] }:ByteArray)[14]'(by decide)).toNat:Int)=47:=by decide +kernel
 go_enter func245,ntmps245;go_wp2;refine wp_loop_rounds 16 ?_
 iterate 16 (all_goals (try rw [rounds_succ]);all_goals (try go_wp2))
 all_goals (go_ret;refine ⟨ret_bool ?_,rfl⟩)
 all_goals (clear k0 k1 k2 k3 k4 k5 k6 k7 k8 k9 k10 k11 k12 k13 k14)
 all_goals (simp_all [Ref.signB])
 all_goals omega
theorem zeP (b:Int)(w:World) :
  Calls prog 150 #[.int .i64 a,.int .i64 b] w fun e w'=>e = .returned (.int .i64 (if a<b then a else b))/\w'=w:=by
 go_enter func150,ntmps150;go_wp2
 all_goals (go_ret;refine ⟨ret_int ?_,rfl⟩;first |rfl |(split<;>omega))
namespace Ref
def hexF (s:ByteArray):Nat->Int->St->Int×St
 |0,c,st=>(c,st)
 |n+1,c,st=>if hexV (zd s st.i)<0 then (0,st.fail 3 st.i) else hexF s n (16*c+hexV (zd s st.i)) (st.go 1)
theorem hexV_hi (b:Int):hexV b<=15:=by unfold hexV;(repeat' split)<;>omega
variable {s}
theorem hexF_bad {st:St}(h:hexV (zd s st.i)<0):hexF s (n+1) c st=(0,st.fail 3 st.i):=by simp [hexF,h]
theorem zfw {st:St}(h:0<=hexV (zd s st.i)):hexF s (n+1) c st=hexF s n (16*c+hexV (zd s st.i)) (st.go 1):=by
 simp [hexF,show ¬hexV (zd s st.i)<0 by omega]
end Ref
theorem pow16_le (h:k<=4):(16:Int) ^ k<=65536:=by
 have h5:k=0\/k=1\/k=2\/k=3\/k=4:=by omega
 rcases h5 with rfl |rfl |rfl |rfl |rfl<;>decide
theorem now_lex (st:St)(w:World)(h:Lex w b s st)(hs:s.size<=400) :
  Calls prog 144 #[.pointer (some ⟨b,0,none⟩)] w fun x w'=>x = .returned (.int .i64 (zd s st.i))/\∃ n,w'=w.drewN n:=
 now_any b s st.i st.e st.a w h (by unfold maxLen;omega)
theorem fail_lex (st:St)(e' a':Int)(w:World)(h:Lex w b s st) :
  Calls prog 147 #[.pointer (some ⟨b,0,none⟩),.int .i64 e',.int .i64 a'] w fun x w'=>
   x = .returned (.tuple #[])/\Lex w' b s (st.fail e' a')/\ze (zt b) w w':=
 (fail_any b s st.i st.e st.a e' a' w h).mono fun x w' ⟨h1,h2,h3⟩=>⟨h1,by
  unfold Lex St.fail;split
  ·rename_i he;simpa [he] using h2
  ·rename_i he;simpa [he] using h2,h3⟩
theorem hex_any (n:Nat)(st:St)(w:World)(hn:n<=4)(h:Lex w b s st)(hs:s.size<=400)(hi:st.i<=1000) :
  Calls prog 246 #[.pointer (some ⟨b,0,none⟩),.int .i64 n] w fun x w'=>
   x = .returned (.int .i64 (Ref.hexF s n 0 st).1)/\Lex w' b s (Ref.hexF s n 0 st).2/\ze (zt b) w w':=by
 go_enter func246,ntmps246;go_wp2_with fail;go_loopw [5,6] (fun c i wr=>∃ (k:Nat) (q:Int) (st':St),k<=n/\i = .int .i64 k/\c = .int .i64 q/\0<=q/\q<(16:Int) ^ k/\st'.i<=1000+k/\Lex wr b s st'/\ze (zt b) w wr/\Hid (Ref.hexF s n 0 st=Ref.hexF s (n-k) q st'))
  (fun _ i _=>n-(intOf i).toNat)
 case atStart=>exact ⟨0,0,st,Nat.zero_le _,rfl,rfl,by omega,by simp,by omega,h,ze.refl _ _,rfl⟩
 case round=>
  obtain ⟨k,q,st',hk,rfl,rfl,hq0,hq1,hi',hL,hO,HF⟩:=hrel;have hp:(16:Int) ^ k<=65536:=pow16_le k (by omega);have hd1:=Ref.hexV_hi (zd s st'.i);by_cases hlt:k<n
  ·go_wp2_with fail;refine (now_lex b s st' _ hL hs).mono ?_;rintro e w1 ⟨rfl,nq,rfl⟩;go_wp2_with fail;refine (zfv _ _ (zbt _ _) (yD _ _)).mono ?_;rintro e w1 ⟨rfl,rfl⟩;have hL1:=zc hL;obtain ⟨c0,c1,c2,c3,f1,f2,f3⟩:=hL;by_cases hd:Ref.hexV (zd s st'.i)<0
   ·have HF1:Hid (Ref.hexF s n 0 st=(0,st'.fail 3 st'.i)):=by
     rw [zb HF,show n-k=(n-k-1)+1 by omega];exact Ref.hexF_bad hd
    go_wp2_with fail;refine (fail_lex b s st' 3 st'.i _ ((zb hL1).drewN nq)).mono ?_;rintro e w2 ⟨rfl,hL2,hO2⟩;go_wp2_with fail;go_ret;rw [zb HF1];exact ⟨rfl,hL2,(hO.drewN nq).trans hO2⟩
   ·have HF1:Hid (Ref.hexF s n 0 st=Ref.hexF s (n-(k+1)) (16*q+Ref.hexV (zd s st'.i)) (st'.go 1)):=by
     rw [zb HF,show n-k=(n-(k+1))+1 by omega];exact Ref.zfw (by omega)
    have hp':(16:Int) ^ (k+1)=16*(16:Int) ^ k:=(by rw [QD];omega);have hpn:16*q+Ref.hexV (zd s st'.i)<(16:Int) ^ (k+1):=(by omega);have Hpn:=zc hpn;clear hp' hpn;generalize hD:Ref.hexV (zd s st'.i)=D at *;have HD:=zc hD;clear hD;go_wp2_with fail;go_roundw
    case rel=>exact ⟨k+1,_,st'.go 1,by omega,by go_num,rfl,by omega,zb Hpn,by simp [St.go];omega,((zb hL1).drewN nq).setI _,((hO.drewN nq).mine _ _),HF1⟩
    case measure=>simp [intOf];omega
  ·have HF1:Hid (Ref.hexF s n 0 st=(q,st')):=by
    rw [zb HF,show n-k=0 by omega];rfl
   go_wp2_with fail;go_ret;rw [zb HF1];exact ⟨rfl,hL,hO⟩
namespace Ref
def bracedF (s:ByteArray):Nat->Int->Nat->St->Int×St
 |0,_,_,st=>(0,st)
 |f+1,c,n,st=>
  if 0<n/\zd s st.i=125 then (c,st.go 1)
  else if hexV (zd s st.i)<0\/1114111<16*c+hexV (zd s st.i) then (0,st.fail 3 st.i)
  else bracedF s f (16*c+hexV (zd s st.i)) (n+1) (st.go 1)
variable {s}
theorem zeL {st:St}(h:0<n)(h2:zd s st.i=125):bracedF s (f+1) c n st=(c,st.go 1):=by simp [bracedF,h,h2]
theorem zeX {st:St}(h:¬(0<n/\zd s st.i=125))(h2:hexV (zd s st.i)<0\/1114111<16*c+hexV (zd s st.i)) :
  bracedF s (f+1) c n st=(0,st.fail 3 st.i):=by simp only [bracedF];rw [if_neg h,if_pos h2]
theorem zeQ {st:St}(h:¬(0<n/\zd s st.i=125))(h2:¬(hexV (zd s st.i)<0\/1114111<16*c+hexV (zd s st.i))) :
  bracedF s (f+1) c n st=bracedF s f (16*c+hexV (zd s st.i)) (n+1) (st.go 1):=by simp only [bracedF];rw [if_neg h,if_neg h2]
def bracedR (s:ByteArray)(st:St):Int×St:=bracedF s (s.size+1-st.i) 0 0 st
theorem hexV_neg:hexV (-1) = -1:=by decide
end Ref
theorem zg8 (st:St)(w:World)(h:Lex w b s st)(hs:s.size<=400)(hi:st.i<=s.size) :
  Calls prog 275 #[.pointer (some ⟨b,0,none⟩)] w fun x w'=>
   x = .returned (.int .i64 (Ref.bracedR s st).1)/\Lex w' b s (Ref.bracedR s st).2/\ze (zt b) w w':=by
 go_enter func275,ntmps275;go_wp2_with fail;go_loopw [3,4] (fun c n wr=>∃ (k:Nat) (q:Int) (st':St),n = .int .i64 k/\c = .int .i64 q/\0<=q/\q<=1114111/\st'.i<=s.size/\k<=st'.i/\Lex wr b s st'/\ze (zt b) w wr/\Hid (st'.i=st.i+k)/\Hid (Ref.bracedR s st=Ref.bracedF s (s.size+1-st'.i) q k st'))
  (fun _ n _=>s.size-st.i-(intOf n).toNat)
 case atStart=>exact ⟨0,0,st,rfl,rfl,by omega,by omega,hi,by omega,h,ze.refl _ _,rfl,rfl⟩
 case round=>
  obtain ⟨k,q,st',rfl,rfl,hq0,hq1,hi',hk,hL,hO,Hi,HF⟩:=hrel;have hd1:=Ref.hexV_hi (zd s st'.i);have hL1:=zc hL;have hfu:Hid (s.size+1-st'.i=(s.size-st'.i)+1):=by show _=_;omega
  by_cases hcl:0<k/\zd s st'.i=125
  ·have HF1:Hid (Ref.bracedR s st=(q,st'.go 1)):=by
    rw [zb HF,zb hfu];exact Ref.zeL hcl.1 hcl.2
   have hk1:0<k:=hcl.1;have hb:(zd s st'.i == 125)=true:=(by simp [hcl.2]);clear hcl;go_wp2_with fail;refine (now_lex b s st' _ hL hs).mono ?_;rintro e w1 ⟨rfl,nq,rfl⟩;obtain ⟨c0,c1,c2,c3,f1,f2,f3⟩:=hL;go_wp2_with fail;go_ret;rw [zb HF1];exact ⟨rfl,((zb hL1).drewN nq).setI _,((hO.drewN nq).mine _ _)⟩
  ·have hcl':=zc hcl;by_cases hk0:k=0
   case' pos=>
    have hkd:decide (0<k)=false:=(by simp [hk0]);clear hcl hk0
   case' neg=>
    have hk1:0<k:=(by omega);have hb:(zd s st'.i == 125)=false:=(by simp only [beq_eq_false_iff_ne];intro hbb;exact hcl ⟨hk1,hbb⟩);clear hcl;go_wp2_with fail;refine (now_lex b s st' _ hL hs).mono ?_;rintro e w1 ⟨rfl,nq1,rfl⟩
   all_goals
    go_wp2_with fail;refine (now_lex b s st' _ (by first |exact hL |exact hL.drewN _) hs).mono ?_;rintro e w1 ⟨rfl,nq,rfl⟩;go_wp2_with fail;refine (zfv _ _ (zbt _ _) (yD _ _)).mono ?_;rintro e w1 ⟨rfl,rfl⟩;obtain ⟨c0,c1,c2,c3,f1,f2,f3⟩:=hL;generalize hD:Ref.hexV (zd s st'.i)=D at *;have HD:=zc hD;clear hD;by_cases hbad:D<0\/1114111<16*q+D
    ·have HF1:Hid (Ref.bracedR s st=(0,st'.fail 3 st'.i)):=by
      rw [zb HF,zb hfu];exact Ref.zeX (zb hcl') (by rw [zb HD];exact hbad)
     by_cases hD0:D<0
     case' neg=>have hbad2:1114111<16*q+D:=by omega
     all_goals clear hbad
     all_goals
      go_wp2_with fail;refine (fail_lex b s st' 3 st'.i _ ((zb hL1).drewN _)).mono ?_;rintro e w2 ⟨rfl,hL2,hO2⟩;go_wp2_with fail;go_ret;rw [zb HF1];exact ⟨rfl,hL2,(hO.drewN _).trans hO2⟩
    ·have hlt:st'.i<s.size:=by
      apply Classical.byContradiction;intro hn;have:=Zq s st'.i (by omega);rw [this,Ref.hexV_neg] at HD;have:=zb HD;omega
     have HF1:Hid (Ref.bracedR s st=Ref.bracedF s (s.size+1-(st'.go 1).i) (16*q+D) (k+1) (st'.go 1)):=by
      rw [zb HF,zb hfu,show s.size+1-(st'.go 1).i=s.size-st'.i by simp only [St.go];omega,<-zb HD];exact Ref.zeQ (zb hcl') (by rw [zb HD];exact hbad)
     have h1:0<=D:=(by omega);have h2:16*q+D<=1114111:=(by omega);have hki:=zb Hi;have Hki:Hid ((st'.go 1).i=st.i+(k+1)):=(by show _=_;simp only [St.go];rw [hki];try omega);clear hbad hki;go_wp2_with fail;go_roundw
     case rel=>exact ⟨k+1,_,st'.go 1,by go_num,rfl,by omega,by omega,by simp [St.go];omega,by simp [St.go];omega,((zb hL1).drewN _).setI _,(hO.drewN _).mine _ _,Hki,HF1⟩
     case measure=>have:=zb Hi;simp [intOf];omega
namespace Ref
def halfD (s:ByteArray):Nat->Nat->Int->Int
 |0,_,c=>c
 |n+1,k,c=>if hexV (zd s k)<0 then -1 else halfD s n (k+1) (16*c+hexV (zd s k))
def halfF (s:ByteArray)(i:Nat):Int:=if s.size<i+6\/zd s i≠92\/zd s (i+1)≠117 then -1 else halfD s 4 (i+2) 0
variable {s k}
theorem ze6 (h:hexV (zd s k)<0):halfD s (n+1) k c = -1:=by simp [halfD,h]
theorem zeR (h:0<=hexV (zd s k)):halfD s (n+1) k c=halfD s n (k+1) (16*c+hexV (zd s k)):=by
 simp [halfD,show ¬hexV (zd s k)<0 by omega]
theorem halfF_no {i:Nat}(h:s.size<i+6\/zd s i≠92\/zd s (i+1)≠117):halfF s i = -1:=by simp only [halfF];rw [if_pos h]
theorem zfx {i:Nat}(h:¬(s.size<i+6\/zd s i≠92\/zd s (i+1)≠117)):halfF s i=halfD s 4 (i+2) 0:=by simp only [halfF];rw [if_neg h]
end Ref
theorem half_any (hs:s.size<=400)(hi:i<=1000) :
  Calls prog 274 #[.string s,.int .i64 i] w fun x w'=>x = .returned (.int .i64 (Ref.halfF s i))/\w'=w:=by
 by_cases h1:s.size<i+6
 ·have HF:=zc (Ref.halfF_no (s:=s) (i:=i) (Or.inl h1));go_enter func274,ntmps274;go_wp2;go_ret;exact ⟨ret_int (zb HF).symm,rfl⟩
 ·have hl0:i<s.size:=by omega
  have hl1:i+1<s.size:=by omega
  by_cases h2:zd s i=92
  ·have hb2:((s[i].toNat:Int) != 92)=false:=(by rw [<-xZ s i hl0];simp [h2]);by_cases h3:zd s (i+1)=117
   ·have hb3:((s[i+1].toNat:Int) != 117)=false:=(by rw [<-xZ s (i+1) hl1];simp [h3]);have HF:=zc (Ref.zfx (s:=s) (i:=i) (by simp [h2,h3];omega));clear h2 h3;go_enter func274,ntmps274;go_wp2_with fail
    go_loop [5,6] (fun c k=>∃ (n:Nat) (q:Int),n<=4/\k = .int .i64 ((i+2+n:Nat):Int)/\c = .int .i64 q/\0<=q/\q<(16:Int) ^ n/\Hid (Ref.halfF s i=Ref.halfD s (4-n) (i+2+n) q))
     (fun _ k=>i+6-(intOf k).toNat)
    case atStart=>exact ⟨0,0,by omega,by go_num,rfl,by omega,by simp,HF⟩
    case round=>
     obtain ⟨n,q,hn,rfl,rfl,hq0,hq1,HG⟩:=hrel;have hp:(16:Int) ^ n<=65536:=pow16_le n (by omega);have hd1:=Ref.hexV_hi (zd s (i+2+n));by_cases hlt:n<4
     ·go_wp2_with fail;rw [zeM,<-xZ s (i+2+n) (by omega)];refine (zfv _ _ (zbt _ _) (yD _ _)).mono ?_;rintro e w1 ⟨rfl,rfl⟩;by_cases hd:Ref.hexV (zd s (i+2+n))<0
      ·have HF1:Hid (Ref.halfF s i = -1):=by
        rw [zb HG,show 4-n=(3-n)+1 by omega];exact Ref.ze6 hd
       go_wp2_with fail;go_ret;exact ⟨ret_int (zb HF1).symm,rfl⟩
      ·have HF1:Hid (Ref.halfF s i=Ref.halfD s (4-(n+1)) (i+2+(n+1)) (16*q+Ref.hexV (zd s (i+2+n)))):=by
        rw [zb HG,show 4-n=(4-(n+1))+1 by omega];exact Ref.zeR (by omega)
       have hp':(16:Int) ^ (n+1)=16*(16:Int) ^ n:=(by rw [QD];omega);have hpn:16*q+Ref.hexV (zd s (i+2+n))<(16:Int) ^ (n+1):=(by omega);have Hpn:=zc hpn;clear hp' hpn;generalize hD:Ref.hexV (zd s (i+2+n))=D at *;have HD:=zc hD;clear hD;go_wp2_with fail;go_round
       case rel=>exact ⟨n+1,_,by omega,by go_num,rfl,by omega,zb Hpn,HF1⟩
       case measure=>simp [intOf];omega
     ·go_wp2_with fail;go_ret;have:n=4:=(by omega);subst this;exact ⟨ret_int (zb HG).symm,rfl⟩
   ·have HF:=zc (Ref.halfF_no (s:=s) (i:=i) (Or.inr (Or.inr h3)));have hb3:((s[i+1].toNat:Int) != 117)=true:=(by rw [<-xZ s (i+1) hl1];simp [h3]);clear h2 h3;go_enter func274,ntmps274;go_wp2;go_ret;exact ⟨ret_int (zb HF).symm,rfl⟩
  ·have HF:=zc (Ref.halfF_no (s:=s) (i:=i) (Or.inr (Or.inl h2)));have hb2:((s[i].toNat:Int) != 92)=true:=(by rw [<-xZ s i hl0];simp [h2]);clear h2;go_enter func274,ntmps274;go_wp2;go_ret;exact ⟨ret_int (zb HF).symm,rfl⟩
set_option maxHeartbeats 800000
namespace Ref
def pairB (s:ByteArray)(st:St):Bool:=decide (55296<=halfF s (st.i-1)) && decide (halfF s (st.i-1)<=56319) && decide (56320<=halfF s (st.i+5)) && decide (halfF s (st.i+5)<=57343)
def unicodeF (s:ByteArray)(st:St):Int×St:=
 if zd s (st.i+1)=123 then bracedR s (st.go 2)
 else if pairB s st=true then (65536+(halfF s (st.i-1)-55296)*1024+halfF s (st.i+5)-56320,st.go 11)
 else hexF s 4 0 (st.go 1)
def kf (s:ByteArray)(cls:Bool)(st:St):Int×St:=
 if 0<=controlV (zd s st.i) then (controlV (zd s st.i),st.go 1)
 else if zd s st.i=48 then (0,if 48<=zd s (st.i+1)/\zd s (st.i+1)<=57 then (st.go 1).fail 3 (st.i+1:Nat) else st.go 1)
 else if zd s st.i=99 then
  (if (97<=zd s (st.i+1)/\zd s (st.i+1)<=122)\/(65<=zd s (st.i+1)/\zd s (st.i+1)<=90) then (zd s (st.i+1) % 32,st.go 2) else (0,(st.go 1).fail 3 (st.i+1:Nat)))
 else if zd s st.i=120 then hexF s 2 0 (st.go 1)
 else if zd s st.i=117 then unicodeF s st
 else if signB (zd s st.i)=true\/cls=true/\zd s st.i=45 then (zd s st.i,st.go 1)
 else if cls=true/\zd s st.i=98 then (8,st.go 1)
 else (0,st.fail 3 st.i)
theorem halfD_bd (s:ByteArray):∀ (n k:Nat) (c:Int),0<=c->c<(16:Int) ^ (4-n)->n<=4->-1<=halfD s n k c/\halfD s n k c<=65535
 |0,k,c,h1,h2,_=>by simp only [halfD];simp at h2;omega
 |n+1,k,c,h1,h2,h3=>by
  have hp:(16:Int) ^ (4-n)=16*(16:Int) ^ (4-(n+1)):=by rw [show 4-n=(4-(n+1))+1 by omega,QD];omega
  have hd:=hexV_hi (zd s k);by_cases hb:hexV (zd s k)<0
  ·rw [ze6 hb];omega
  ·rw [zeR (by omega)];exact halfD_bd s n (k+1) _ (by omega) (by omega) (by omega)
theorem halfF_bd:-1<=halfF s i/\halfF s i<=65535:=by
 unfold halfF;split
 ·omega
 ·exact halfD_bd s 4 _ 0 (by omega) (by decide) (by omega)
end Ref
theorem half_int (i:Int)(w:World)(hs:s.size<=400)(h0:0<=i)(hi:i<=1000) :
  Calls prog 274 #[.string s,.int .i64 i] w fun x w'=>x = .returned (.int .i64 (Ref.halfF s i.toNat))/\w'=w:=by
 obtain ⟨n,rfl⟩:=Int.eq_ofNat_of_zero_le h0;rw [vK];exact half_any s n w hs (by omega)
theorem Lex.setI {w:World}{b:Nat}{s:ByteArray}{st:St}(h:Lex w b s st)(j:Int)(n:Nat)(hj:j=((st.i+n:Nat):Int)):Lex (w.setCell ⟨b,1,none⟩ (.int .i64 j)) b s (st.go n):=by
 subst hj;exact LexAt.setI h _
theorem Lex.drewN {w:World}{b:Nat}{s:ByteArray}{st:St}(h:Lex w b s st)(n:Nat):Lex (w.drewN n) b s st:=LexAt.drewN h n
theorem zgI (st:St)(w:World)(h:Lex w b s st)(hs:s.size<=400)(hi1:1<=st.i)(hi:st.i<s.size) :
  Calls prog 247 #[.pointer (some ⟨b,0,none⟩)] w fun x w'=>
   x = .returned (.int .i64 (Ref.unicodeF s st).1)/\Lex w' b s (Ref.unicodeF s st).2/\ze (zt b) w w':=by
 have hL1:=zc h;obtain ⟨c0,c1,c2,c3,f1,f2,f3⟩:=h;have e1:((st.i:Int)-1).toNat=st.i-1:=by omega
 have e2:((st.i:Int)+5).toNat=st.i+5:=by omega
 have b1:=Ref.halfF_bd s (st.i-1);have b2:=Ref.halfF_bd s (st.i+5);go_enter func247,ntmps247;go_wp2_with fail;go_quiet ((go_at_call 274;exact (half_int _ _ _ hs (by omega) (by omega)).mono (by rintro e w'' ⟨rfl,rfl⟩;exact ⟨rfl,_,rfl⟩)));go_wp2_with fail;go_quiet ((go_at_call 274;exact (half_int _ _ _ hs (by omega) (by omega)).mono (by rintro e w'' ⟨rfl,rfl⟩;exact ⟨rfl,_,rfl⟩)));go_wp2_with fail;refine (now_lex b s (st.go 1) _ (((zb hL1).drewN _).setI _ 1 (by omega)) hs).mono ?_;rintro e w1 ⟨rfl,nq,rfl⟩;simp only [St.go];by_cases hbr:zd s (st.i+1)=123
 ·have hb:(zd s (st.i+1) == 123)=true:=by simp [hbr]
  have HF:Hid (Ref.unicodeF s st=Ref.bracedR s (st.go 2)):=by show _=_;unfold Ref.unicodeF;rw [if_pos hbr]
  have hlt:st.i+1<s.size:=by rw [<-yL];omega
  clear hbr;go_wp2_with fail;refine (zg8 b s (st.go 2) _ (((((zb hL1).drewN _).setI _ 1 (by omega)).drewN _).setI _ 1 (by simp only [St.go];omega)) hs (by simp only [St.go];omega)).mono ?_;rintro e w2 ⟨rfl,hL2,hO2⟩;go_wp2_with fail;go_ret;rw [zb HF];exact ⟨rfl,hL2,(((((ze.refl _ _).drewN _).mine _ _).drewN _).mine _ _).trans hO2⟩
 ·have hb:(zd s (st.i+1) == 123)=false:=by simp [hbr]
  by_cases hp:Ref.pairB s st=true
  ·have HF:Hid (Ref.unicodeF s st=(65536+(Ref.halfF s (st.i-1)-55296)*1024+Ref.halfF s (st.i+5)-56320,st.go 11)):=(by show _=_;unfold Ref.unicodeF;rw [if_neg hbr,if_pos hp]);simp only [Ref.pairB,kt,decide_eq_true_eq] at hp;obtain ⟨⟨⟨p1,p2⟩,p3⟩,p4⟩:=hp;clear hbr e1 e2;go_wp2_with fail;go_ret;rw [zb HF];exact ⟨rfl,(((((zb hL1).drewN _).setI _ 1 (by omega)).drewN _).setI _ 10 (by simp only [St.go];omega)),((((ze.refl _ _).drewN _).mine _ _).drewN _).mine _ _⟩
  ·have HF:Hid (Ref.unicodeF s st=Ref.hexF s 4 0 (st.go 1)):=(by show _=_;unfold Ref.unicodeF;rw [if_neg hbr,if_neg hp]);simp only [Ref.pairB,kt,decide_eq_true_eq] at hp;have Hp:=zc hp;clear hbr e1 e2 hp;go_wp2_with fail
   all_goals first
    |exact absurd (zb Hp) (by intro hn;exact hn ⟨⟨⟨‹_›,‹_›⟩,‹_›⟩,‹_›⟩)
    |skip
   all_goals
    refine (hex_any b s 4 (st.go 1) _ (by omega) ((((zb hL1).drewN _).setI _ 1 (by omega)).drewN _) hs (by simp only [St.go];omega)).mono ?_;rintro e w2 ⟨rfl,hL2,hO2⟩;go_wp2_with fail;go_ret;rw [zb HF];exact ⟨rfl,hL2,((((ze.refl _ _).drewN _).mine _ _).drewN _).trans hO2⟩
namespace Ref
end Ref
theorem zg9 (st:St)(w:World)(h:Lex w b s st)(hs:s.size<=400)(hi1:1<=st.i)(hi:st.i<=s.size) :
  Calls prog 218 #[.pointer (some ⟨b,0,none⟩),.bool cls] w fun x w'=>
   x = .returned (.int .i64 (Ref.kf s cls st).1)/\Lex w' b s (Ref.kf s cls st).2/\ze (zt b) w w':=by
 have hL1:=zc h;have hlo:=zbt s st.i;have hhi:=yD s st.i;have hlo1:=zbt s (st.i+1);have hhi1:=yD s (st.i+1);have hin:0<=zd s st.i->st.i<s.size:=(yL s st.i).1;have Hin:=zc hin;clear hin;go_enter func218,ntmps218;go_wp2_with fail;refine (now_lex b s st _ h hs).mono ?_;rintro e w1 ⟨rfl,nq,rfl⟩;go_wp2_with fail;refine (zgH _ _).mono ?_;rintro e w1 ⟨rfl,rfl⟩;obtain ⟨c0,c1,c2,c3,f1,f2,f3⟩:=h;generalize hB:zd s st.i=B at *;by_cases hc:0<=Ref.controlV B
 ·have HF:Hid (Ref.kf s cls st=(Ref.controlV B,st.go 1)):=by show _=_;unfold Ref.kf;rw [hB,if_pos hc]
  clear hB;go_wp2_with fail;go_ret;rw [zb HF];exact ⟨rfl,((zb hL1).drewN _).setI _ 1 (by omega),((ze.refl _ _).drewN _).mine _ _⟩
 ·have HB:=zc hB;have hcc:=zc hc;clear hB;go_wp2_with fail;refine (zg7 _ _ hlo hhi).mono ?_;rintro e w1 ⟨rfl,rfl⟩;clear hc;by_cases x1:B=48
  ·have hb:(B == 48)=true:=(by simp [x1]);by_cases hd:48<=zd s (st.i+1)/\zd s (st.i+1)<=57
   ·have HF:Hid (Ref.kf s cls st=(0,(st.go 1).fail 3 (st.i+1:Nat))):=(by show _=_;unfold Ref.kf;rw [zb HB,if_neg (show ¬0<=Ref.controlV B by have:=zb hcc;omega),if_pos x1,if_pos hd]);clear x1;obtain ⟨d1,d2⟩:=hd;go_wp2_with fail;refine (now_lex b s (st.go 1) _ (((zb hL1).drewN _).setI _ 1 (by omega)) hs).mono ?_;rintro e w1 ⟨rfl,nq1,rfl⟩;simp only [St.go];go_wp2_with fail;refine (now_lex b s (st.go 1) _ ((((zb hL1).drewN _).setI _ 1 (by omega)).drewN _) hs).mono ?_;rintro e w1 ⟨rfl,nq2,rfl⟩;simp only [St.go];go_wp2_with fail;refine (fail_lex b s (st.go 1) 3 _ _ (((((zb hL1).drewN _).setI _ 1 (by omega)).drewN _))).mono ?_;rintro e w2 ⟨rfl,hL2,hO2⟩;go_wp2_with fail;go_ret;rw [zb HF];exact ⟨rfl,hL2,((((ze.refl _ _).drewN _).mine _ _).drewN _).trans hO2⟩
   ·have HF:Hid (Ref.kf s cls st=(0,st.go 1)):=(by show _=_;unfold Ref.kf;rw [zb HB,if_neg (show ¬0<=Ref.controlV B by have:=zb hcc;omega),if_pos x1,if_neg hd]);have Hd:=zc hd;clear x1;by_cases d1:48<=zd s (st.i+1)
    ·have d2:57<zd s (st.i+1):=(by omega);clear hd;go_wp2_with fail;refine (now_lex b s (st.go 1) _ (((zb hL1).drewN _).setI _ 1 (by omega)) hs).mono ?_;rintro e w1 ⟨rfl,nq1,rfl⟩;simp only [St.go];go_wp2_with fail;refine (now_lex b s (st.go 1) _ ((((zb hL1).drewN _).setI _ 1 (by omega)).drewN _) hs).mono ?_;rintro e w1 ⟨rfl,nq2,rfl⟩;simp only [St.go];go_wp2_with fail;go_ret;rw [zb HF];exact ⟨rfl,(((zb hL1).drewN _).setI _ 1 (by omega)).drewN _,(((ze.refl _ _).drewN _).mine _ _).drewN _⟩
    ·clear hd;go_wp2_with fail;refine (now_lex b s (st.go 1) _ (((zb hL1).drewN _).setI _ 1 (by omega)) hs).mono ?_;rintro e w1 ⟨rfl,nq1,rfl⟩;simp only [St.go];go_wp2_with fail;go_ret;rw [zb HF];exact ⟨rfl,(((zb hL1).drewN _).setI _ 1 (by omega)).drewN _,(((ze.refl _ _).drewN _).mine _ _).drewN _⟩
  ·have hb:(B == 48)=false:=(by simp [x1]);by_cases x2:B=99
   ·have hb2:(B == 99)=true:=(by simp [x2]);by_cases hd:(97<=zd s (st.i+1)/\zd s (st.i+1)<=122)\/(65<=zd s (st.i+1)/\zd s (st.i+1)<=90)
    ·have HF:Hid (Ref.kf s cls st=(zd s (st.i+1) % 32,st.go 2)):=(by show _=_;unfold Ref.kf;rw [zb HB,if_neg (show ¬0<=Ref.controlV B by have:=zb hcc;omega),if_neg x1,if_pos x2,if_pos hd]);have Hd:=zc hd;clear x1 x2 hd;go_wp2_with fail;refine (now_lex b s (st.go 1) _ (((zb hL1).drewN _).setI _ 1 (by omega)) hs).mono ?_;rintro e w1 ⟨rfl,nq1,rfl⟩;simp only [St.go];rcases zb Hd with ⟨d1,d2⟩ |⟨d1,d2⟩
     case' inr=>have d3:¬97<=zd s (st.i+1):=by omega
     all_goals
      go_wp2_with fail;go_ret;rw [zb HF];refine ⟨ret_int ?_,((((zb hL1).drewN _).setI _ 1 (by omega)).drewN _).setI _ 1 (by simp only [St.go];omega),((((ze.refl _ _).drewN _).mine _ _).drewN _).mine _ _⟩
      first |rfl |omega
    ·have HF:Hid (Ref.kf s cls st=(0,(st.go 1).fail 3 (st.i+1:Nat))):=(by show _=_;unfold Ref.kf;rw [zb HB,if_neg (show ¬0<=Ref.controlV B by have:=zb hcc;omega),if_neg x1,if_pos x2,if_neg hd]);have Hd:=zc hd;clear x1 x2 hd;go_wp2_with fail;refine (now_lex b s (st.go 1) _ (((zb hL1).drewN _).setI _ 1 (by omega)) hs).mono ?_;rintro e w1 ⟨rfl,nq1,rfl⟩;simp only [St.go];go_wp2_with fail
     all_goals first
      |(exfalso;have:=zb Hd;omega)
      |skip
     all_goals
      refine (fail_lex b s (st.go 1) 3 _ _ (((((zb hL1).drewN _).setI _ 1 (by omega)).drewN _))).mono ?_;rintro e w2 ⟨rfl,hL2,hO2⟩;go_wp2_with fail;go_ret;rw [zb HF];exact ⟨rfl,hL2,((((ze.refl _ _).drewN _).mine _ _).drewN _).trans hO2⟩
   ·have hb2:(B == 99)=false:=(by simp [x2]);by_cases x3:B=120
    ·have hb3:(B == 120)=true:=(by simp [x3]);have HF:Hid (Ref.kf s cls st=Ref.hexF s 2 0 (st.go 1)):=(by show _=_;unfold Ref.kf;rw [zb HB,if_neg (show ¬0<=Ref.controlV B by have:=zb hcc;omega),if_neg x1,if_neg x2,if_pos x3]);clear x1 x2 x3;go_wp2_with fail;refine (hex_any b s 2 (st.go 1) _ (by omega) (((zb hL1).drewN _).setI _ 1 (by omega)) hs (by simp only [St.go];omega)).mono ?_;rintro e w2 ⟨rfl,hL2,hO2⟩;go_wp2_with fail;go_ret;rw [zb HF];exact ⟨rfl,hL2,(((ze.refl _ _).drewN _).mine _ _).trans hO2⟩
    ·have hb3:(B == 120)=false:=(by simp [x3]);by_cases x4:B=117
     ·have hb4:(B == 117)=true:=(by simp [x4]);have HF:Hid (Ref.kf s cls st=Ref.unicodeF s st):=(by show _=_;unfold Ref.kf;rw [zb HB,if_neg (show ¬0<=Ref.controlV B by have:=zb hcc;omega),if_neg x1,if_neg x2,if_neg x3,if_pos x4]);have hin:=zb Hin (by omega);clear x1 x2 x3 x4;go_wp2_with fail;refine (zgI b s st _ ((zb hL1).drewN _) hs hi1 hin).mono ?_;rintro e w2 ⟨rfl,hL2,hO2⟩;go_wp2_with fail;go_ret;rw [zb HF];exact ⟨rfl,hL2,((ze.refl _ _).drewN _).trans hO2⟩
     ·have hb4:(B == 117)=false:=(by simp [x4]);by_cases x5:Ref.signB B=true\/cls=true/\B=45
      ·have HF:Hid (Ref.kf s cls st=(B,st.go 1)):=(by show _=_;unfold Ref.kf;rw [zb HB,if_neg (show ¬0<=Ref.controlV B by have:=zb hcc;omega),if_neg x1,if_neg x2,if_neg x3,if_neg x4,if_pos x5]);have X5:=zc x5;clear x1 x2 x3 x4 x5;by_cases y1:Ref.signB B=true
       case' neg=>
        have y2:cls=true:=(by rcases zb X5 with h |h;exact absurd h y1;exact h.1);have y3:(B == 45)=true:=(by rcases zb X5 with h |h;exact absurd h y1;simp [h.2]);have y4:Ref.signB B=false:=(by simpa using y1);clear y1;subst y2
       all_goals
        go_wp2_with fail;go_ret;rw [zb HF];exact ⟨rfl,((zb hL1).drewN _).setI _ 1 (by omega),((ze.refl _ _).drewN _).mine _ _⟩
      ·have y4:Ref.signB B=false:=(by simp at x5;exact x5.1);by_cases x6:cls=true/\B=98
       ·have HF:Hid (Ref.kf s cls st=(8,st.go 1)):=(by show _=_;unfold Ref.kf;rw [zb HB,if_neg (show ¬0<=Ref.controlV B by have:=zb hcc;omega),if_neg x1,if_neg x2,if_neg x3,if_neg x4,if_neg x5,if_pos x6]);obtain ⟨y2,y3⟩:=x6;have y5:(B == 98)=true:=(by simp [y3]);have y6:(B == 45)=false:=(by simp [y3]);clear x1 x2 x3 x4 x5 y3;subst y2;go_wp2_with fail;go_ret;rw [zb HF];exact ⟨rfl,((zb hL1).drewN _).setI _ 1 (by omega),((ze.refl _ _).drewN _).mine _ _⟩
       ·have HF:Hid (Ref.kf s cls st=(0,st.fail 3 st.i)):=(by show _=_;unfold Ref.kf;rw [zb HB,if_neg (show ¬0<=Ref.controlV B by have:=zb hcc;omega),if_neg x1,if_neg x2,if_neg x3,if_neg x4,if_neg x5,if_neg x6]);cases cls
        case' true=>
         have y5:(B == 98)=false:=(by simp at x6;simpa using x6);have y6:(B == 45)=false:=by simp at x5;simpa using x5.2
        all_goals
         clear x1 x2 x3 x4 x5 x6;go_wp2_with fail;refine (fail_lex b s st 3 _ _ ((zb hL1).drewN _)).mono ?_;rintro e w2 ⟨rfl,hL2,hO2⟩;go_wp2_with fail;go_ret;rw [zb HF];exact ⟨rfl,hL2,((ze.refl _ _).drewN _).trans hO2⟩
def spanCells:List (Int×Int)->List Value
 | []=>[]
 |(a,b) :: r=>.int .i64 a :: .int .i64 b :: spanCells r
def SpansAt (w:World)(base:Nat)(v:Value)(l:List (Int×Int)):Prop:=w.ownsRow base 333 2 v l.length (spanCells l)
theorem ze7 (c:Array Value)(l:List (Int×Int))(hc:c.toList=spanCells l)(hl:spanCells l=spanCells l->(spanCells l).length=l.length*2)(hm:l.length<=maxLen) :
  SpansAt (w.alloc (.cells c 333)) w.heap.size (.slice (some ⟨w.heap.size,0,none⟩) l.length l.length) l:=by
 have hl':=hl rfl;refine ⟨hl',.inr ⟨w.heap.size,l.length,c,rfl,z8 _,heap_alloc_new w _,z8 _,hm,?_,?_⟩⟩
 ·rw [<-hl',<-hc];simp
 ·rw [hc,vd (by omega)]
theorem zew:∀ l:List (Int×Int),(spanCells l).length=l.length*2
 | []=>rfl
 |(a,b) :: r=>by simp only [spanCells,qH,zew r];omega
theorem zeS (n base:Nat)(hn:W.heap.size=n)(hb:base<=n)(c:Array Value)(l:List (Int×Int))(hc:c.toList=spanCells l)(hm:l.length<=maxLen)(k:Nat)(hk:k=l.length) :
  SpansAt (W.alloc (.cells c 333)) base (.slice (some ⟨n,0,none⟩) k k) l:=by
 subst hn;subst hk;obtain ⟨h1,h2⟩:=ze7 W c l hc (fun _=>zew l) hm;refine ⟨h1,?_⟩;rcases h2 with h2 |⟨g,cap,cur,hv,hb',hh,h3⟩
 ·exact .inl h2
 ·refine .inr ⟨g,cap,cur,hv,?_,hh,h3⟩;omega
theorem zha:
  Calls prog 215 #[] w fun x w'=>x = .returned (.slice (some ⟨w.heap.size,0,none⟩) 1 1)/\SpansAt w' w.heap.size (.slice (some ⟨w.heap.size,0,none⟩) 1 1) [(48,57)]/\Q8 w w':=by
 go_enter func215,ntmps215;go_wp2;go_ret;exact ⟨rfl,ze7 w _ [(48,57)] rfl (fun _=>zew _) (by decide),(ze.refl _ _).alloc _⟩
theorem zgg:
  Calls prog 216 #[] w fun x w'=>x = .returned (.slice (some ⟨w.heap.size,0,none⟩) 4 4)/\SpansAt w' w.heap.size (.slice (some ⟨w.heap.size,0,none⟩) 4 4) [(48,57),(65,90),(95,95),(97,122)]/\Q8 w w':=by
 go_enter func216,ntmps216;go_wp2;go_ret;exact ⟨rfl,ze7 w _ [(48,57),(65,90),(95,95),(97,122)] rfl (fun _=>zew _) (by decide),(ze.refl _ _).alloc _⟩
theorem zhb:
  Calls prog 217 #[] w fun x w'=>x = .returned (.slice (some ⟨w.heap.size,0,none⟩) 10 10)/\SpansAt w' w.heap.size (.slice (some ⟨w.heap.size,0,none⟩) 10 10) [(9,13),(32,32),(160,160),(5760,5760),(8192,8202),(8232,8233),(8239,8239),(8287,8287),(12288,12288),(65279,65279)]/\Q8 w w':=by
 go_enter func217,ntmps217;go_wp2;go_ret;exact ⟨rfl,ze7 w _ [(9,13),(32,32),(160,160),(5760,5760),(8192,8202),(8232,8233),(8239,8239),(8287,8287),(12288,12288),(65279,65279)] rfl (fun _=>zew _) (by decide),(ze.refl _ _).alloc _⟩
theorem zn {P:Nat->Prop}{w w':World}{base:Nat}{e:TypeId}{size:Nat}{v:Value}{n:Nat}{xs:List Value}(h:w.ownsRow base e size v n xs)(k:ze P w w')(hn:∀ g,v.ownBlock=some g->¬P g) :
  w'.ownsRow base e size v n xs:=by
 obtain ⟨h1,h2⟩:=h;refine ⟨h1,?_⟩;rcases h2 with h2 |⟨g,cap,cur,rfl,hb,hh,h3⟩
 ·exact .inl h2
 ·refine .inr ⟨g,cap,cur,rfl,hb,?_,h3⟩;have hg:g<w.heap.size:=(yK.1 hh).1;rw [k.block g hg (hn g rfl)];exact hh
theorem xd {w:World}{base base':Nat}{e:TypeId}{size:Nat}{v:Value}{n:Nat}{xs:List Value}(h:w.ownsRow base e size v n xs)(hb:base'<=base):w.ownsRow base' e size v n xs:=by
 obtain ⟨h1,h2⟩:=h;refine ⟨h1,?_⟩;rcases h2 with h2 |⟨g,cap,cur,rfl,hb',hh,h3⟩
 ·exact .inl h2
 ·exact .inr ⟨g,cap,cur,rfl,by omega,hh,h3⟩
theorem zh {w:World}{base:Nat}{e:TypeId}{size:Nat}{v:Value}{n:Nat}{xs:List Value}(h:w.ownsRow base e size v n xs)(g:Nat)(hg:v.ownBlock=some g):base<=g/\g<w.heap.size:=h.lt g hg
theorem SpansAt.keep {P:Nat->Prop}{w w':World}{base:Nat}{v:Value}{l:List (Int×Int)}(h:SpansAt w base v l)(k:ze P w w')(hn:∀ g,base<=g->g<w.heap.size->¬P g):SpansAt w' base v l:=
 zn h k fun g hg=>hn g (zh h g hg).1 (zh h g hg).2
theorem SpansAt.base {w:World}{base base':Nat}{v:Value}{l:List (Int×Int)}(h:SpansAt w base v l)(hb:base'<=base):SpansAt w base' v l:=xd h hb
theorem zhH (n:Nat)(hn:w.heap.size=n):Calls prog 215 #[] w fun x w'=>x = .returned (.slice (some ⟨n,0,none⟩) 1 1)/\SpansAt w' n (.slice (some ⟨n,0,none⟩) 1 1) [(48,57)]/\Q8 w w':=by
 subst hn;exact zha w
theorem words_at (n:Nat)(hn:w.heap.size=n):Calls prog 216 #[] w fun x w'=>x = .returned (.slice (some ⟨n,0,none⟩) 4 4)/\SpansAt w' n (.slice (some ⟨n,0,none⟩) 4 4) [(48,57),(65,90),(95,95),(97,122)]/\Q8 w w':=by
 subst hn;exact zgg w
theorem zhI (n:Nat)(hn:w.heap.size=n):Calls prog 217 #[] w fun x w'=>x = .returned (.slice (some ⟨n,0,none⟩) 10 10)/\SpansAt w' n (.slice (some ⟨n,0,none⟩) 10 10) [(9,13),(32,32),(160,160),(5760,5760),(8192,8202),(8232,8233),(8239,8239),(8287,8287),(12288,12288),(65279,65279)]/\Q8 w w':=by
 subst hn;exact zhb w
structure Pt where
 neg:Bool
 spans:List (Int×Int)
namespace Ref
def W4:List (Int×Int):=[(48,57)]
def vL:List (Int×Int):=[(48,57),(65,90),(95,95),(97,122)]
def QA:List (Int×Int):=[(9,13),(32,32),(160,160),(5760,5760),(8192,8202),(8232,8233),(8239,8239),(8287,8287),(12288,12288),(65279,65279)]
def backB (b:Int):Bool:=(decide (49<=b) && decide (b<=57)) ||(b == 107) ||(b == 112) ||(b == 80)
def setL (b:Int):List (Int×Int):=if b=100\/b=68 then W4 else if b=119\/b=87 then vL else if b=115\/b=83 then QA else []
def jv (s:ByteArray)(cls:Bool)(st:St):Pt×Bool×St:=
 if backB (zd s (st.i+1))=true then (⟨false,[]⟩,true,(st.go 1).fail 6 st.i)
 else if setL (zd s (st.i+1))≠[] then (⟨decide (zd s (st.i+1)<97),setL (zd s (st.i+1))⟩,false,st.go 2)
 else (⟨false,[((kf s cls (st.go 1)).1,(kf s cls (st.go 1)).1)]⟩,true,(kf s cls (st.go 1)).2)
end Ref
theorem Ref.backB_cases {b:Int}(h:Ref.backB b=true):(49<=b/\b<=57)\/b=107\/b=112\/b=80:=by
 simp [Ref.backB] at h;omega
theorem Ref.backB_not {b:Int}(h:¬Ref.backB b=true):¬(49<=b/\b<=57)/\b≠107/\b≠112/\b≠80:=by
 simp [Ref.backB] at h;omega
theorem Ref.setL_nil {b:Int}(h:Ref.setL b=[]):(b == 100)=false/\(b == 68)=false/\(b == 119)=false/\(b == 87)=false/\(b == 115)=false/\(b == 83)=false:=by
 unfold Ref.setL at h
 (repeat' split at h)<;>simp_all [Ref.W4,Ref.vL,Ref.QA]
theorem Ref.setL_cases {b:Int}(h:¬Ref.setL b=[]):((b == 100)=true/\Ref.setL b=Ref.W4)\/((b == 100)=false/\(b == 68)=true/\Ref.setL b=Ref.W4)\/
  ((b == 100)=false/\(b == 68)=false/\(b == 119)=true/\Ref.setL b=Ref.vL)\/((b == 100)=false/\(b == 68)=false/\(b == 119)=false/\(b == 87)=true/\Ref.setL b=Ref.vL)\/
  ((b == 100)=false/\(b == 68)=false/\(b == 119)=false/\(b == 87)=false/\(b == 115)=true/\Ref.setL b=Ref.QA)\/
  ((b == 100)=false/\(b == 68)=false/\(b == 119)=false/\(b == 87)=false/\(b == 115)=false/\(b == 83)=true/\Ref.setL b=Ref.QA):=by
 unfold Ref.setL at *;by_cases h1:b=100
 ·subst h1;simp
 by_cases h2:b=68
 ·subst h2;simp
 by_cases h3:b=119
 ·subst h3;simp
 by_cases h4:b=87
 ·subst h4;simp
 by_cases h5:b=115
 ·subst h5;simp
 by_cases h6:b=83
 ·subst h6;simp
 simp [h1,h2,h3,h4,h5,h6] at h
theorem zg {P:Nat->Prop}{w w':World}(h:ze P w w')(p:Addr)(v:Value)(hp:w.cell? p=some v)(hn:¬P p.block):w'.cell? p=some v:=
 (h.cell (zE w p hp) hn).trans hp
theorem zP {P:Nat->Prop}{w w':World}(h:ze P w w')(p:Addr)(hl:p.block<w.heap.size)(hp:w.frozen? p=false)(hn:¬P p.block):w'.frozen? p=false:=
 (h.frozen hl hn).trans hp
theorem Lex.keep {P:Nat->Prop}{w w':World}{b:Nat}{s:ByteArray}{st:St}(h:Lex w b s st)(k:ze P w w')(hn:¬P b):Lex w' b s st:=LexAt.keep h k hn
theorem Lex.alloc {w:World}{b:Nat}{s:ByteArray}{st:St}(h:Lex w b s st)(o:Obj):Lex (w.alloc o) b s st:=h.keep ((ze.refl (fun _=>False) w).alloc o) (fun f=>f)
theorem Lex.lt {w:World}{b:Nat}{s:ByteArray}{st:St}(h:Lex w b s st):b<w.heap.size:=LexAt.lt h
theorem zm (n:Nat)(hn:W.heap.size=n)(c:Array Value)(T:TypeId)(off:Nat)(v:Value)(h:c[off]?=some v):(W.alloc (.cells c T)).cell? ⟨n,off,none⟩=some v:=by
 subst hn;rw [XP _ _ _ _ rfl];exact h
theorem zG (n:Nat)(hn:W.heap.size=n)(c:Array Value)(T:TypeId)(off:Nat):(W.alloc (.cells c T)).frozen? ⟨n,off,none⟩=false:=by
 subst hn;exact World.frozen?_alloc_at _ _ _ _ rfl
theorem ze.fresh {P:Nat->Prop}{a w:World}(h:ze P a w)(p:Addr)(hp:a.heap.size<=p.block)(u:Value):ze P a (w.setCell p u):=h.setCell (Or.inr hp) u
theorem zhJ (base:Nat):SpansAt w base (.slice none 0 0) []:=qD w base _ _
theorem zfS (st:St)(w:World)(h:Lex w b s st)(hs:s.size<=400)(hi:st.i<s.size) :
  Calls prog 180 #[.pointer (some ⟨b,0,none⟩),.bool cls] w fun x w'=>
   ∃ sv,x = .returned (.tuple #[.agg #[.bool (Ref.jv s cls st).1.neg,sv],.bool (Ref.jv s cls st).2.1])/\SpansAt w' w.heap.size sv (Ref.jv s cls st).1.spans/\
    Lex w' b s (Ref.jv s cls st).2.2/\ze (zt b) w w':=by
 have hL1:=zc h;have hlt:=h.lt;have hlo:=zbt s (st.i+1);have hhi:=yD s (st.i+1);have hne:∀ w a n c n' c',(binOp .neq 334 (.slice a n c) (.slice none n' c')).run prog w = .ok (.bool (!a.isNone)) w:=fun w a n c n' c'=>run_neq_slice_nil_any (P:=prog) w 334 333 a n c n' c' underlying334;obtain ⟨c0,c1,c2,c3,f1,f2,f3⟩:=h;go_enter func180,ntmps180;go_wp2_with fail;have hL2:=zc (((zb hL1).setI ((st.i:Int)+1) 1 (by omega)).alloc (.cells #[.bool false,.slice none 0 0] 336));refine (now_lex b s (st.go 1) _ (zb hL2) hs).mono ?_;rintro e w1 ⟨rfl,nq,rfl⟩;simp only [St.go];generalize hB:zd s (st.i+1)=B at *;by_cases hbk:Ref.backB B=true
 ·have HF:Hid (Ref.jv s cls st=(⟨false,[]⟩,true,(st.go 1).fail 6 st.i)):=by show _=_;unfold Ref.jv;rw [hB,if_pos hbk]
  have hcs:=Ref.backB_cases hbk;clear hB hbk;have hcs':(49<=B/\B<=57)\/(¬49<=B\/57<B)/\((B == 107)=true\/(B == 107)=false/\((B == 112)=true\/(B == 112)=false/\(B == 80)=true)):=by simp;omega
  clear hcs;rcases hcs' with ⟨q1,q2⟩ |⟨q1 |q1,q2 |⟨q2,q3 |⟨q3,q4⟩⟩⟩
  all_goals
   go_wp2_with fail;refine (fail_lex b s (st.go 1) 6 _ _ ((zb hL2).drewN _)).mono ?_;rintro e w2 ⟨rfl,hL3,hO3⟩;have r0:w2.cell? ⟨w.heap.size,0,none⟩=some (.bool false):=zg (hO3) _ _ (zm _ _ (by simp) _ _ 0 _ rfl) (by unfold zt;simp;omega);have r1:w2.cell? ⟨w.heap.size,1,none⟩=some (.slice none 0 0):=zg hO3 _ _ (zm _ _ (by simp) _ _ 1 _ rfl) (by unfold zt;simp;omega);have r2:w2.frozen? ⟨w.heap.size,0,none⟩=false:=zP hO3 _ (by simp) (zG _ _ (by simp) _ _ 0) (by unfold zt;simp;omega);have r3:w2.frozen? ⟨w.heap.size,1,none⟩=false:=zP hO3 _ (by simp) (zG _ _ (by simp) _ _ 1) (by unfold zt;simp;omega);go_wp2_with fail;refine bodyPost_ret (v:=.tuple #[.agg #[.bool false,.slice none 0 0],.bool true]) (by simp [results,results180,go_sem,r0,r1]) rfl ?_;rw [zb HF];exact ⟨_,rfl,zhJ _ _,hL3.keep (((ze.refl (zt w.heap.size) _).mine _ _).mine _ _) (by unfold zt;omega),
    (((((((ze.refl _ _).mine _ _).alloc _).drewN _).trans hO3).fresh ⟨w.heap.size,0,none⟩ (z8 _) _).fresh ⟨w.heap.size,1,none⟩ (z8 _) _)⟩
 ·have hcs:=Ref.backB_not hbk;have hcs':(¬49<=B\/57<B)/\(B == 107)=false/\(B == 112)=false/\(B == 80)=false:=by simp;omega
  obtain ⟨q1,q2,q3,q4⟩:=hcs';by_cases hset:Ref.setL B=[]
  ·have HF:Hid (Ref.jv s cls st=(⟨false,[((Ref.kf s cls (st.go 1)).1,(Ref.kf s cls (st.go 1)).1)]⟩,true,(Ref.kf s cls (st.go 1)).2)):=by
    show _=_;unfold Ref.jv;rw [hB,if_neg hbk,if_neg (by simp [hset])]
   have hs6:=Ref.setL_nil hset;obtain ⟨x1,x2,x3,x4,x5,x6⟩:=hs6;clear hB hbk hset hcs;rcases q1 with q1 |q1
   all_goals
    go_wp2_with fail;refine (zg9 b s cls (st.go 1) _ ((zb hL2).drewN _) hs (by simp only [St.go];omega) (by simp only [St.go];omega)).mono ?_;rintro e w2 ⟨rfl,hL3,hO3⟩;have r0:w2.cell? ⟨w.heap.size,0,none⟩=some (.bool false):=zg (hO3) _ _ (zm _ _ (by simp) _ _ 0 _ rfl) (by unfold zt;simp;omega);have r1:w2.cell? ⟨w.heap.size,1,none⟩=some (.slice none 0 0):=zg hO3 _ _ (zm _ _ (by simp) _ _ 1 _ rfl) (by unfold zt;simp;omega);have r2:w2.frozen? ⟨w.heap.size,0,none⟩=false:=zP hO3 _ (by simp) (zG _ _ (by simp) _ _ 0) (by unfold zt;simp;omega);have r3:w2.frozen? ⟨w.heap.size,1,none⟩=false:=zP hO3 _ (by simp) (zG _ _ (by simp) _ _ 1) (by unfold zt;simp;omega);have hsz:w.heap.size<w2.heap.size:=zE w2 ⟨w.heap.size,0,none⟩ r0;go_wp2_with fail;refine bodyPost_ret (v:=.tuple #[.agg #[.bool false,.slice (some ⟨w2.heap.size,0,none⟩) 1 1],.bool true]) (by simp [results,results180,go_sem,r0,r1,hsz]) rfl ?_;rw [zb HF];generalize (Ref.kf s cls (st.go 1)).1=N at *;refine ⟨_,rfl,?_,?_,?_⟩
    ·exact zeS _ _ _ (by simp) (by omega) _ [(N,N)] rfl (by simp [maxLen]) 1 rfl
    ·exact (hL3.keep (((ze.refl (zt w.heap.size) _).mine _ _).mine _ _) (by unfold zt;omega)).alloc _
    ·exact (((((((ze.refl _ _).mine _ _).alloc _).drewN _).trans hO3).fresh ⟨w.heap.size,0,none⟩ (z8 _) _).fresh ⟨w.heap.size,1,none⟩ (z8 _) _).alloc _
  ·have HF:Hid (Ref.jv s cls st=(⟨decide (B<97),Ref.setL B⟩,false,st.go 2)):=by
    show _=_;unfold Ref.jv;rw [hB,if_neg hbk,if_pos hset]
   have hs6:=Ref.setL_cases hset;clear hB hbk hset hcs;rcases q1 with q1 |q1
   case' inl=>have q1':¬49<=B:=q1
   all_goals
    rcases hs6 with ⟨x1,hq⟩ |⟨x1,x2,hq⟩ |⟨x1,x2,x3,hq⟩ |⟨x1,x2,x3,x4,hq⟩ |⟨x1,x2,x3,x4,x5,hq⟩ |⟨x1,x2,x3,x4,x5,x6,hq⟩
   all_goals
    have Hq:=zc hq;clear hq;go_wp2_with fail
    first
     |(refine (zhH _ (w.heap.size+1) (by simp)).mono ?_;rintro e w2 ⟨rfl,hsp,hO3⟩)
     |(refine (words_at _ (w.heap.size+1) (by simp)).mono ?_;rintro e w2 ⟨rfl,hsp,hO3⟩)
     |(refine (zhI _ (w.heap.size+1) (by simp)).mono ?_;rintro e w2 ⟨rfl,hsp,hO3⟩)
   all_goals
    have hL3:=((zb hL2).drewN nq).keep hO3 (fun f=>f);have hL4:=zc hL3;obtain ⟨d0,d1,d2,d3,g1,g2,g3⟩:=hL3;have r0:w2.cell? ⟨w.heap.size,0,none⟩=some (.bool false):=zg (hO3) _ _ (zm _ _ (by simp) _ _ 0 _ rfl) (fun f=>f);have r1:w2.cell? ⟨w.heap.size,1,none⟩=some (.slice none 0 0):=zg hO3 _ _ (zm _ _ (by simp) _ _ 1 _ rfl) (fun f=>f);have r2:w2.frozen? ⟨w.heap.size,0,none⟩=false:=zP hO3 _ (by simp) (zG _ _ (by simp) _ _ 0) (fun f=>f);have r3:w2.frozen? ⟨w.heap.size,1,none⟩=false:=zP hO3 _ (by simp) (zG _ _ (by simp) _ _ 1) (fun f=>f);have hgi:(st.go 1).i<=1000:=(by simp only [St.go];omega);have Hsp:=zc hsp;have HO3:=zc hO3;clear hsp hO3;go_wp2_with fail
   all_goals
    refine bodyPost_ret (v:=.tuple #[.agg #[.bool (decide (B<97)),_],.bool false]) (by simp [results,results180,go_sem,r0,r1];rfl) rfl ?_;rw [zb HF];refine ⟨_,rfl,?_,?_,?_⟩
    ·rw [zb Hq];exact ((zb Hsp).keep ((((ze.refl (fun k=>k=b\/k=w.heap.size) _).setCell (Or.inl (Or.inl rfl)) _).setCell (Or.inl (Or.inr rfl)) _).setCell (Or.inl (Or.inr rfl)) _) (by intro g hg _ hh;omega)).base (by omega)
    ·exact ((zb hL4).setI _ 1 (by simp only [St.go];omega)).keep (((ze.refl (zt w.heap.size) _).mine _ _).mine _ _) (by unfold zt;omega)
    ·exact ((((((((ze.refl _ _).mine _ _).alloc _).drewN _).trans ((zb HO3).mono (fun _ _ f=>f.elim))).mine _ _).fresh ⟨w.heap.size,0,none⟩ (z8 _) _).fresh ⟨w.heap.size,1,none⟩ (z8 _) _)
set_option maxHeartbeats 1000000
set_option maxRecDepth 100000
namespace Ref
def xS (s:ByteArray)(p:Nat):Nat->Nat->Int->Option Int
 |0,_,c=>some c
 |k+1,i,c=>if zd s (p+i)<128\/191<zd s (p+i) then none else xS s p k (i+1) (c*64+zd s (p+i)-128)
def headK (b:Int):Nat:=(headN b).toNat
theorem W5 (b:Int):headN b=(headK b:Int):=by unfold headK headN;(repeat' split)<;>rfl
theorem headK_le (b:Int):headK b<=4:=by unfold headK headN;(repeat' split)<;>decide
theorem headC_bd (b:Int)(h0:0<=b):0<=y7 b/\y7 b<128:=by unfold y7;(repeat' split)<;>omega
def badC (n:Nat)(c:Int):Bool:=decide (c<xK n) ||decide (1114111<c) ||(decide (55296<=c) && decide (c<=57343))
def oneF (s:ByteArray)(p:Nat):Option (Nat×Int):=
 if headK (zd s p)=0\/s.size<p+headK (zd s p) then none
 else match xS s p (headK (zd s p)-1) 1 (y7 (zd s p)) with
  |none=>none
  |some c=>if badC (headK (zd s p)) c=true then none else some (headK (zd s p),c)
def xL (s:ByteArray):Nat->Nat->List (Int×Int)->List (Int×Int)×Int
 |0,_,acc=>(acc,-1)
 |f+1,p,acc=>if p<s.size then (match oneF s p with
   |none=>(acc,(p:Int))
   |some (n,c)=>xL s f (p+n) (acc++[(c,(p:Int))])) else (acc,-1)
def zo (s:ByteArray):List (Int×Int)×Int:=xL s (s.size+1) 0 []
variable {s}
theorem j4 {k i:Nat}{c:Int}(h:zd s (p+i)<128\/191<zd s (p+i)):xS s p (k+1) i c=none:=by simp only [xS];rw [if_pos h]
theorem xU {k i:Nat}{c:Int}(h:¬(zd s (p+i)<128\/191<zd s (p+i))):xS s p (k+1) i c=xS s p k (i+1) (c*64+zd s (p+i)-128):=by simp only [xS];rw [if_neg h]
theorem vE (h:¬p<s.size):xL s (f+1) p acc=(acc,-1):=by simp only [xL];rw [if_neg h]
theorem jx (h:p<s.size)(h1:oneF s p=none):xL s (f+1) p acc=(acc,(p:Int)):=by simp only [xL];rw [if_pos h,h1]
theorem qW (h:p<s.size)(h1:oneF s p=some (n,c)):xL s (f+1) p acc=xL s f (p+n) (acc++[(c,(p:Int))]):=by simp only [xL];rw [if_pos h,h1]
theorem kk (h:headK (zd s p)=0\/s.size<p+headK (zd s p)):oneF s p=none:=by unfold oneF;rw [if_pos h]
theorem ZE (h:¬(headK (zd s p)=0\/s.size<p+headK (zd s p)))(h1:xS s p (headK (zd s p)-1) 1 (y7 (zd s p))=none):oneF s p=none:=by unfold oneF;rw [if_neg h,h1]
theorem zhc (h:¬(headK (zd s p)=0\/s.size<p+headK (zd s p)))(h1:xS s p (headK (zd s p)-1) 1 (y7 (zd s p))=some c)(h2:badC (headK (zd s p)) c=true):oneF s p=none:=by
 unfold oneF;rw [if_neg h,h1];simp [h2]
theorem zcy (h:¬(headK (zd s p)=0\/s.size<p+headK (zd s p)))(h1:xS s p (headK (zd s p)-1) 1 (y7 (zd s p))=some c)(h2:badC (headK (zd s p)) c=false):oneF s p=some (headK (zd s p),c):=by
 unfold oneF;rw [if_neg h,h1];simp [h2]
end Ref
theorem Tryz.infoChar:(prog.info? 302).map (fun i=>(i.zero,i.size,i.bytes))=some (some (.agg #[.int .i64 0,.int .i64 0]),2,16):=by kernel_rfl
def CharsAt (w:World)(base:Nat)(v:Value)(l:List (Int×Int)):Prop:=w.ownsRow base 302 2 v l.length (spanCells l)
theorem zfy (l m:List (Int×Int)):spanCells (l++m)=spanCells l++spanCells m:=by
 induction l with
 |nil=>rfl
 |cons x r ih=>obtain ⟨a,b⟩:=x;simp only [jS,spanCells,ih]
def capC:Nat->Int
 |0=>128
 |1=>8192
 |2=>524288
 |3=>33554432
 |_=>2147483648
theorem capC_le:capC k<=2147483648:=by unfold capC;split<;>omega
theorem zhK (h:k<=3)(d b:Int)(h0:d<capC k)(h1:b<=191):d*64+b-128<capC (k+1):=by
 have h5:k=0\/k=1\/k=2\/k=3:=by omega
 rcases h5 with rfl |rfl |rfl |rfl<;>simp only [capC] at *<;>omega
theorem zey (hs:s.size<=400) :
  Calls prog 101 #[.string s] w fun x w'=>
   ∃ v,x = .returned (.tuple #[v,.int .i64 (Ref.zo s).2])/\CharsAt w' w.heap.size v (Ref.zo s).1/\Q8 w w':=by
 obtain ⟨i0,hi,hz0,hz1,hz2⟩:=info_parts Tryz.infoChar;go_enter func101,ntmps101;go_wp2_with fail;go_loopw [4,5] (fun v p wr=>∃ (q f:Nat) (acc:List (Int×Int)),p = .int .i64 q/\q<=s.size/\acc.length<=q/\CharsAt wr w.heap.size v acc/\Q8 w wr/\Hid (s.size<q+f)/\Hid (Ref.zo s=Ref.xL s f q acc))
  (fun _ p _=>s.size-(intOf p).toNat)
 case atStart=>exact ⟨0,s.size+1,[],rfl,by omega,by simp,qD _ _ _ _,ze.refl _ _,(by show _<_;omega),rfl⟩
 case round=>
  obtain ⟨q,f,acc,rfl,hq,hacc,hown,hO,hf,HF⟩:=hrel;obtain ⟨f,rfl⟩:∃ f',f=f'+1:=⟨f-1,by have:=zb hf;omega⟩
  by_cases hlt:q<s.size
  ·go_wp2_with fail;rw [zeM,<-xZ s q hlt];have hB0:=(yL s q).2 hlt;have hB1:=yD s q;refine (head_any _ _ hB0 hB1).mono ?_;rintro e w1 ⟨rfl,hw1⟩;have hw2:=hw1.symm;subst hw2;clear hw1;rw [Ref.W5];have hc:=Ref.headC_bd (zd s q) hB0;have hK:=Ref.headK_le (zd s q);generalize hN:Ref.headK (zd s q)=N at *;generalize hC:Ref.y7 (zd s q)=C at *;have HN:=zc hN;have HC:=zc hC;clear hN hC hB0 hB1;by_cases h1:N=0\/s.size<q+N
   ·have HG:Hid (Ref.zo s=(acc,(q:Int))):=by
     rw [zb HF];exact Ref.jx hlt (Ref.kk (by rw [zb HN];exact h1))
    by_cases h0:N=0
    ·subst h0;clear h1;go_wp2_with fail;go_ret2;rw [zb HG];exact ⟨_,rfl,hown,hO⟩
    ·have h2:s.size<q+N:=(by omega);have h3:((N:Int) == 0)=false:=(by simp;omega);clear h1;go_wp2_with fail;go_ret2;rw [zb HG];exact ⟨_,rfl,hown,hO⟩
   ·have h0:((N:Int) == 0)=false:=(by simp;omega);have h2:q+N<=s.size:=(by omega);have h3:1<=N:=(by omega);have H1:Hid (¬(Ref.headK (zd s q)=0\/s.size<q+Ref.headK (zd s q))):=(by rw [zb HN];exact h1);clear h1;have hdd:decide ((s.size:Int)<(q:Int)+N)=false:=(by simp;omega);have Hown:=zc hown;have HO:=zc hO;have HI:=zc (And.intro hi (And.intro hz0 (And.intro hz1 hz2)));clear hown hO hi hz0 hz1 hz2;go_wp2_with fail
    go_loop [7,8] (fun c i=>∃ (k:Nat) (d:Int),i = .int .i64 k/\c = .int .i64 d/\1<=k/\k<=N/\0<=d/\d<=2147483648/\Hid (d<capC k)/\Hid (Ref.xS s q (N-1) 1 C=Ref.xS s q (N-k) k d))
     (fun _ i=>N-(intOf i).toNat)
    case atStart=>exact ⟨1,C,rfl,rfl,by omega,by omega,by omega,by omega,(by show C<8192;omega),rfl⟩
    case round=>
     obtain ⟨k,d,rfl,rfl,hk1,hk2,hd0,hd1,hd2,HD⟩:=hrel;have hb0:=zbt s (q+k);have hb1:=yD s (q+k);by_cases hkn:k<N
     ·have hw:wrap64 ((s[q+k]'(by omega)).toNat:Int)=zd s (q+k):=(by rw [zeM,xZ]);by_cases hbad:zd s (q+k)<128\/191<zd s (q+k)
      ·have HG:Hid (Ref.zo s=(acc,(q:Int))):=by
        rw [zb HF];exact Ref.jx hlt (Ref.ZE (zb H1) (by rw [zb HN,zb HC,zb HD,show N-k=(N-k-1)+1 by omega];exact Ref.j4 hbad))
       by_cases hb2:zd s (q+k)<128
       ·clear hbad;go_wp2_with fail;go_ret2;rw [zb HG];exact ⟨_,rfl,zb Hown,zb HO⟩
       ·have hb3:191<zd s (q+k):=(by omega);clear hbad;go_wp2_with fail;go_ret2;rw [zb HG];exact ⟨_,rfl,zb Hown,zb HO⟩
      ·have HD1:Hid (Ref.xS s q (N-1) 1 C=Ref.xS s q (N-(k+1)) (k+1) (d*64+zd s (q+k)-128)):=by
        rw [zb HD,show N-k=(N-(k+1))+1 by omega];exact Ref.xU hbad
       have hb2:128<=zd s (q+k):=(by omega);have hb3:zd s (q+k)<=191:=(by omega);have Hpn:=zc (zhK k (by omega) d _ (zb hd2) hb3);have hcl:=capC_le (k+1);have hpl:d*64+zd s (q+k)-128<=2147483648:=(by have:=zb Hpn;omega);clear hbad hcl;go_wp2_with fail;go_round
       case rel=>exact ⟨k+1,_,by go_num,rfl,by omega,by omega,by omega,by omega,Hpn,HD1⟩
       case measure=>simp [intOf];omega
     ·have Hd:Hid (Ref.xS s q (N-1) 1 C=some d):=(by rw [zb HD,show N-k=0 by omega];rfl);clear hb0 hb1 HD hd2;go_wp2_with fail;refine (zhG _ _).mono ?_;rintro e w1 ⟨rfl,hw1⟩;have hw2:=hw1.symm;subst hw2;clear hw1;by_cases hbc:Ref.badC N d=true
      ·have HG:Hid (Ref.zo s=(acc,(q:Int))):=by
        rw [zb HF];exact Ref.jx hlt (Ref.zhc (zb H1) (by rw [zb HN,zb HC];exact zb Hd) (by rw [zb HN];exact hbc))
       simp only [Ref.badC,Z5,kt,decide_eq_true_eq] at hbc;have hcs:d<Ref.xK N\/¬d<Ref.xK N/\(1114111<d\/¬1114111<d/\55296<=d/\d<=57343):=(by omega);clear hbc;rcases hcs with y1 |⟨y1,y2 |⟨y2,y3,y4⟩⟩
       all_goals
        go_wp2_with fail;go_ret2;rw [zb HG];exact ⟨_,rfl,zb Hown,zb HO⟩
      ·have hbc':Ref.badC N d=false:=(by simpa using hbc);have HG:Hid (Ref.zo s=Ref.xL s f (q+N) (acc++[(d,(q:Int))])):=by
        rw [zb HF];have:=Ref.qW (f:=f) (acc:=acc) hlt (Ref.zcy (zb H1) (by rw [zb HN,zb HC];exact zb Hd) (by rw [zb HN];exact hbc'));rw [zb HN] at this;exact this
       simp only [Ref.badC,Bool.or_eq_false_iff,Bool.and_eq_false_iff,decide_eq_false_iff_not] at hbc';obtain ⟨⟨y1,y2⟩,y3⟩:=hbc';clear hbc;obtain ⟨hi,hz0,hz1,hz2⟩:=zb HI;have hown:wr.ownsRow w.heap.size 302 2 _ acc.length (spanCells acc):=zb Hown;have y4:¬55296<=d\/55296<=d/\57343<d:=(by omega);clear y3;rcases y4 with y4 |⟨y4,y5⟩
       all_goals
        go_wp2_with (at_builtin;refine wpList_append_own _ rfl _ _ 227 rfl w.heap.size 302 i0 (.agg #[.int .i64 0,.int .i64 0]) 2 16 underlying227 hi hz0 hz1 hz2 rfl (by decide) _ _ _ rfl (xR hown _) ⟨wr.heap.size,0,none⟩ 1 1 [.int .i64 d,.int .i64 (q:Int)] rfl rfl (cell_two_new _ _ _ _) (fun x hx=>by simp at hx;rcases hx with rfl |rfl<;>rfl) (by unfold maxLen;omega) (by omega) (by have:=(zb HO).size;simp;omega) ?_;intro v' w3 hown' hgrow3 hnil3);go_roundw
        case rel=>
         exact ⟨q+N,f,acc++[(d,(q:Int))],by go_num,h2,by simp;omega,(by
          show World.ownsRow _ _ _ _ _ _ _;rw [zfy,yS];exact hown'),((zb HO).alloc _).grown hgrow3 (fun j hj=>Or.inr (hown.lt j hj).1),(by have:=zb hf;show _<_;omega),HG⟩
        case measure=>simp [intOf];omega
  ·have HG:Hid (Ref.zo s=(acc,-1)):=by
    rw [zb HF];exact Ref.vE hlt
   go_wp2_with fail;go_ret2;rw [zb HG];exact ⟨_,rfl,hown,hO⟩
namespace Ref
def Zn (s:ByteArray):Nat->Nat->Bool
 |0,p=>p == s.size
 |f+1,p=>if p<s.size then (match oneF s p with
   |none=>false
   |some (n,_)=>Zn s f (p+n)) else p == s.size
def Good (s:ByteArray)(p:Nat):Prop:=∃ f,Zn s f p=true
variable {s}
theorem qC (h:oneF s p=some (n,c)):1<=n/\p+n<=s.size/\n<=4/\n=headK (zd s p)/\0<=c/\c<=1114111/\¬(55296<=c/\c<=57343):=by
 unfold oneF at h;split at h
 ·cases h
 ·rename_i h1;split at h
  ·cases h
  ·rename_i c' hc;split at h
   ·cases h
   ·rename_i hb;simp only [Option.some.injEq,Prod.mk.injEq] at h;obtain ⟨rfl,rfl⟩:=h;have:=headK_le (zd s p);simp only [badC,Z5,kt,decide_eq_true_eq] at hb;have hl:0<=xK (headK (zd s p)):=(by unfold xK;(repeat' split)<;>omega);omega
theorem Good.le (h:Good s p):p<=s.size:=by
 obtain ⟨f,h⟩:=h;cases f with
 |zero=>simp [Zn] at h;omega
 |succ f=>
  simp only [Zn] at h;split at h
  ·omega
  ·simp at h;omega
theorem Good.next (h:Good s p)(hp:p<s.size):∃ n c,oneF s p=some (n,c)/\Good s (p+n):=by
 obtain ⟨f,h⟩:=h;cases f with
 |zero=>simp [Zn] at h;omega
 |succ f=>
  simp only [Zn] at h;rw [if_pos hp] at h;split at h
  ·cases h
  ·rename_i n c hc;exact ⟨n,c,hc,f,h⟩
theorem vM (s:ByteArray):∀ (f p:Nat) (acc:List (Int×Int)),s.size<p+f->((xL s f p acc).2 = -1->p<=s.size->Good s p)
 |0,p,acc,h,_,hp=>by omega
 |f+1,p,acc,h,h1,hp=>by
  by_cases hlt:p<s.size
  ·cases ho:oneF s p with
   |none=>rw [jx hlt ho] at h1;simp at h1
   |some r=>
    obtain ⟨n,c⟩:=r;have hb:=qC ho;rw [qW hlt ho] at h1;obtain ⟨g,hg⟩:=vM s f (p+n) _ (by omega) h1 (by omega);exact ⟨g+1,by simp only [Zn];rw [if_pos hlt,ho];exact hg⟩
  ·exact ⟨0,by simp [Zn];omega⟩
theorem zfT (s:ByteArray):∀ (f p:Nat) (acc:List (Int×Int)),∃ t,(xL s f p acc).1=acc++t
 |0,p,acc=>⟨[],by simp [xL]⟩
 |f+1,p,acc=>by
  by_cases hlt:p<s.size
  ·cases ho:oneF s p with
   |none=>exact ⟨[],by rw [jx hlt ho];simp⟩
   |some r=>
    obtain ⟨n,c⟩:=r;rw [qW hlt ho];obtain ⟨t,ht⟩:=zfT s f (p+n) (acc++[(c,(p:Int))]);exact ⟨[(c,(p:Int))]++t,by rw [ht,ql]⟩
  ·exact ⟨[],by rw [vE hlt];simp⟩
variable (s)
theorem ext_size (_hi:i<=s.size):(s.extract i s.size).size=s.size-i:=by simp
theorem zfU (hi:i<=s.size):zd (s.extract i s.size) k=zd s (i+k):=by
 by_cases hk:i+k<s.size
 ·rw [xZ s (i+k) hk,xZ _ k (by rw [ext_size s i hi];omega)];simp [ByteArray.getElem_extract]
 ·rw [Zq s (i+k) (by omega),Zq _ k (by rw [ext_size s i hi];omega)]
theorem zgh (s:ByteArray)(i p:Nat)(hi:i<=s.size):∀ (k j:Nat) (c:Int),xS (s.extract i s.size) p k j c=xS s (i+p) k j c
 |0,_,_=>rfl
 |k+1,j,c=>by
  simp only [xS];rw [zfU s i (p+j) hi,<-Qh,zgh s i p hi k (j+1)]
theorem oneF_ext (p:Nat)(hi:i<=s.size):oneF (s.extract i s.size) p=oneF s (i+p):=by
 unfold oneF;rw [zfU s i p hi,ext_size s i hi];have e:(headK (zd s (i+p))=0\/s.size-i<p+headK (zd s (i+p)))↔(headK (zd s (i+p))=0\/s.size<i+p+headK (zd s (i+p))):=by omega
 simp only [e,zgh s i p hi]
variable {s i}
theorem zhL (hi:i<s.size)(h:oneF s i=some (n,c))(hg:Good s (i+n)) :
  (i+n=s.size/\(zo (s.extract i s.size)).1=[(c,0)])\/(i+n<s.size/\∃ c' t,(zo (s.extract i s.size)).1=(c,0) :: (c',(n:Int)) :: t):=by
 have hb:=qC h;have h0:oneF (s.extract i s.size) 0=some (n,c):=by rw [oneF_ext s i 0 (by omega)];exact h
 have hsz:=ext_size s i (by omega);unfold zo;rw [qW (by omega) h0];by_cases he:i+n=s.size
 ·left;refine ⟨he,?_⟩;rw [show (s.extract i s.size).size=(s.size-i-1)+1 by omega,vE (by omega)];rfl
 ·right;refine ⟨by omega,?_⟩;obtain ⟨n',c',ho,_⟩:=hg.next (by omega);have h1:oneF (s.extract i s.size) (0+n)=some (n',c'):=by rw [oneF_ext s i _ (by omega)];simpa using ho
  rw [show (s.extract i s.size).size=(s.size-i-1)+1 by omega,qW (by omega) h1];obtain ⟨t,ht⟩:=zfT (s.extract i s.size) (s.size-i-1) (0+n+n') ([]++[(c,((0:Nat):Int))]++[(c',((0+n:Nat):Int))]);exact ⟨c',t,by rw [ht];simp⟩
theorem W6 (h0:0<=zd s p)(h1:zd s p<128):oneF s p=some (1,zd s p):=by
 have hlt:=(yL s p).1 h0;have hn:headK (zd s p)=1:=by simp [headK,headN,h1]
 have hc:y7 (zd s p)=zd s p:=by simp [y7,h1]
 have hbc:badC 1 (zd s p)=false:=by simp [badC,xK];omega
 unfold oneF;rw [hn,if_neg (by omega),hc];simp [xS,hbc]
theorem Good.ascii (h:Good s p)(h0:0<=zd s p)(h1:zd s p<128):Good s (p+1):=by
 have hlt:=(yL s p).1 h0;obtain ⟨n,c,ho,hg⟩:=h.next hlt;rw [W6 h0 h1] at ho;simp at ho;rw [<-ho.1] at hg;exact hg
end Ref
theorem own_form {w:World}{base:Nat}{T:TypeId}{size:Nat}{v:Value}{n:Nat}{xs:List Value}(h:w.ownsRow base T size v n xs)(hn:0<n):∃ g cap,v = .slice (some ⟨g,0,none⟩) n cap/\base<=g/\g<w.heap.size/\n<=cap:=by
 obtain ⟨h1,h2⟩:=h;rcases h2 with ⟨_,h2⟩ |⟨g,cap,cur,rfl,hb,hh,h3,_⟩
 ·omega
 ·exact ⟨g,cap,rfl,hb,(yK.1 hh).1,h3⟩
theorem char_any (st:St)(n:Nat)(c:Int)(w:World)(h:Lex w b s st)(hs:s.size<=400)(hi:st.i<s.size)(ho:Ref.oneF s st.i=some (n,c))(hg:Ref.Good s (st.i+n)) :
  Calls prog 182 #[.pointer (some ⟨b,0,none⟩)] w fun x w'=>
   ∃ sv,x = .returned (.agg #[.bool false,sv])/\SpansAt w' w.heap.size sv [(c,c)]/\Lex w' b s (st.go n)/\ze (zt b) w w':=by
 have hL1:=zc h;have hlt:=h.lt;have hbd:=Ref.qC ho;have hce:=Ref.zhL hi ho hg;have Hce:=zc hce;have Ho:=zc ho;have Hg:=zc hg;have hn4:n<=4:=hbd.2.2.1;clear hce ho hg hbd;obtain ⟨c0,c1,c2,c3,f1,f2,f3⟩:=h;have hL2:=zc ((zb hL1).alloc (.cells #[.bool false,.slice none 0 0] 336));go_enter func182,ntmps182;go_wp2_with fail;go_region_with (go_at_call 101;refine (zey _ _ (by simp;omega)).mono ?_;rintro e w1 ⟨v,rfl,hch,hO⟩)
 all_goals
  have hL3:Lex w1 b s st:=Lex.keep (P:=fun _=>False) (by first |exact zb hL2 |exact (zb hL2).drewN _) hO (fun f=>f);have hsz:(w.alloc (Obj.cells #[Value.bool false,Value.slice none 0 0] 336)).drew.heap.size=w.heap.size+1:=by simp
  have r0:w1.cell? ⟨w.heap.size,0,none⟩=some (.bool false):=zg hO _ _ (by first |exact zm _ _ (by simp) _ _ 0 _ rfl) (fun f=>f);have r1:w1.cell? ⟨w.heap.size,1,none⟩=some (.slice none 0 0):=zg hO _ _ (by first |exact zm _ _ (by simp) _ _ 1 _ rfl) (fun f=>f);have r2:w1.frozen? ⟨w.heap.size,0,none⟩=false:=zP hO _ (by rw [hsz];simp) (by first |exact zG _ _ (by simp) _ _ 0) (fun f=>f);have r3:w1.frozen? ⟨w.heap.size,1,none⟩=false:=zP hO _ (by rw [hsz];simp) (by first |exact zG _ _ (by simp) _ _ 1) (fun f=>f);have hL4:=zc hL3;have hlt1:w.heap.size<w1.heap.size:=zE w1 ⟨w.heap.size,0,none⟩ r0;obtain ⟨d0,d1,d2,d3,g1,g2,g3⟩:=hL3;rw [hsz] at hch;have HO:=zc hO;clear hsz hO;rcases zb Hce with ⟨he,hl⟩ |⟨he,c',t,hl⟩
  ·unfold CharsAt at hch;rw [hl] at hch;obtain ⟨g,cap,rfl,hb1,hb2,hcap⟩:=own_form hch (by simp);have k0:w1.cell? ⟨g,0,none⟩=some (.int .i64 c):=hch.cells rfl 0 _ rfl;clear hl hch;have Hee:=zc he;clear he;go_wp2_with fail;have he:=zb Hee;refine bodyPost_ret (v:=.agg #[.bool false,.slice (some ⟨w1.heap.size,0,none⟩) 1 1]) (by simp [results,results182,go_sem,r0,r1,hlt1]) rfl ?_;refine ⟨_,rfl,zeS _ _ _ (by simp) (by omega) _ [(c,c)] rfl (by simp [maxLen]) 1 rfl,?_,?_⟩
   ·exact (((zb hL4).setI _ n (by omega)).keep (((ze.refl (zt w.heap.size) _).mine _ _).mine _ _) (by unfold zt;omega)).alloc _
   ·exact (((((((((ze.refl (zt b) w).alloc _).drewN 1).trans ((zb HO).mono (fun _ _ f=>f.elim)))).mine _ _).fresh ⟨w.heap.size,0,none⟩ (z8 _) _).fresh ⟨w.heap.size,1,none⟩ (z8 _) _)).alloc _
  ·unfold CharsAt at hch;rw [hl] at hch;obtain ⟨g,cap,rfl,hb1,hb2,hcap⟩:=own_form hch (by simp);have k0:w1.cell? ⟨g,0,none⟩=some (.int .i64 c):=hch.cells rfl 0 _ rfl;have k3:w1.cell? ⟨g,3,none⟩=some (.int .i64 n):=hch.cells rfl 3 _ rfl;clear hl hch;go_wp2_with fail;go_region
   all_goals (try go_wp2_with fail)
   all_goals
    refine bodyPost_ret (v:=.agg #[.bool false,.slice (some ⟨w1.heap.size,0,none⟩) 1 1]) (by simp [results,results182,go_sem,r0,r1,hlt1]) rfl ?_;refine ⟨_,rfl,zeS _ _ _ (by simp) (by omega) _ [(c,c)] rfl (by simp [maxLen]) 1 rfl,?_,?_⟩
    ·exact ((((zb hL4).drewN _).setI _ n (by omega)).keep (((ze.refl (zt w.heap.size) _).mine _ _).mine _ _) (by unfold zt;omega)).alloc _
    ·exact ((((((((((ze.refl (zt b) w).alloc _).drewN 1).trans ((zb HO).mono (fun _ _ f=>f.elim)))).drewN _).mine _ _).fresh ⟨w.heap.size,0,none⟩ (z8 _) _).fresh ⟨w.heap.size,1,none⟩ (z8 _) _)).alloc _
end
end Go.Proofs.YtcgleficedipkaaGreatDoor
