/- The reference's smallest functions: what each answers, for every argument. -/
import Derived.Test.YtnagphodmfejiaaGreatDoorProg
import Derived.Test.YtnagphodmfejiaaGreatDoorX0
namespace Go.Proofs.YtnagphodmfejiaaGreatDoor
section
open Go.RowKit
set_option maxHeartbeats 400000
namespace Ref
def hexV (b:Int):Int:=if 48≤b∧b≤57 then b-48 else if 97≤b∧b≤102 then b-87 else if 65≤b∧b≤70 then b-55 else -1
def qT (n:Int):Int:=if n=2 then 128 else if n=3 then 2048 else if n=4 then 65536 else 0
def headN (b:Int):Int:=if b<128 then 1 else if 192≤b∧b<224 then 2 else if 224≤b∧b<240 then 3 else if 240≤b∧b<248 then 4 else 0
def ji (b:Int):Int:=if b<128 then b else if 192≤b∧b<224 then b-192 else if 224≤b∧b<240 then b-224 else if 240≤b∧b<248 then b-240 else 0
def yL (b:Int):Int:=if b=116 then 9 else if b=110 then 10 else if b=118 then 11 else if b=102 then 12 else if b=114 then 13 else -1
end Ref
theorem wt {k l:IntKind}{a b c d:Int}(h:a=b)(g:c=d):Ending.returned (.tuple #[.int k a,.int l c]) = .returned (.tuple #[.int k b,.int l d]):=by rw [h,g]
theorem ret_bool {a b:Bool}(h:a=b):Ending.returned (.bool a) = .returned (.bool b):=by rw [h]
theorem qt {k:IntKind}{a b:Int}(h:a=b):Ending.returned (.int k a) = .returned (.int k b):=by rw [h]
theorem Xt (b:Int)(w:World)(h1:-1≤b)(h2:b≤255) :
  Calls Tryz.prog 229 #[.int .i64 b] w fun e w'=>e = .returned (.int .i64 (Ref.hexV b))∧w'=w:=by
 go_enter Tryz.func229,Tryz.ntmps229
 go_wp2
 all_goals (go_ret;refine ⟨qt ?_,rfl⟩;unfold Ref.hexV;(repeat' split)<;>omega)
theorem Vp (b:Int)(w:World) :
  Calls Tryz.prog 206 #[.int .i64 b] w fun e w'=>e = .returned (.int .i64 (Ref.yL b))∧w'=w:=by
 go_enter Tryz.func206,Tryz.ntmps206
 go_wp2
 all_goals (go_ret;refine ⟨qt ?_,rfl⟩;unfold Ref.yL;simp_all)
theorem zb6 (n:Int)(w:World) :
  Calls Tryz.prog 68 #[.int .i64 n] w fun e w'=>e = .returned (.int .i64 (Ref.qT n))∧w'=w:=by
 go_enter Tryz.func68,Tryz.ntmps68
 go_wp2
 all_goals (go_ret;refine ⟨qt ?_,rfl⟩;unfold Ref.qT;simp_all)
theorem head_any (b:Int)(w:World)(h1:0≤b)(h2:b≤255) :
  Calls Tryz.prog 67 #[.int .i64 b] w fun e w'=>e = .returned (.tuple #[.int .i64 (Ref.headN b),.int .i64 (Ref.ji b)])∧w'=w:=by
 go_enter Tryz.func67,Tryz.ntmps67
 go_wp2
 all_goals go_ret2
 all_goals (refine ⟨wt ?_ ?_,rfl⟩<;>(first |unfold Ref.headN |unfold Ref.ji)<;>(repeat' split)<;>omega)
theorem now_any (b:Nat)(s:ByteArray)(i:Nat)(e a:Int)(w:World)(h:qI w b s i e a)(_hs:s.size≤maxLen) :
  Calls Tryz.prog 69 #[.pointer (some ⟨b,0,none⟩)] w fun x w'=>x = .returned (.int .i64 (zd s i))∧∃ n,w'=w.drewN n:=by
 obtain ⟨c0,c1,c2,c3,f1,f2,f3⟩:=h
 unfold maxLen at _hs
 by_cases hlt:i<s.size
 ·go_enter Tryz.func69,Tryz.ntmps69
  go_wp2
  go_quiet (fail)
  go_wp2
  go_quiet (fail)
  go_wp2
  go_ret
  exact ⟨qt (by rw [yT s i hlt,vO]),_,by rw [World.drewN_drewN]⟩
 ·go_enter Tryz.func69,Tryz.ntmps69
  go_wp2
  go_quiet (fail)
  go_wp2
  go_ret
  exact ⟨qt (by rw [ql s i (by omega)]),_,rfl⟩
theorem fail_any (b:Nat)(s:ByteArray)(i e a e' a':Int)(w:World)(h:qI w b s i e a) :
  Calls Tryz.prog 72 #[.pointer (some ⟨b,0,none⟩),.int .i64 e',.int .i64 a'] w fun x w'=>
   x = .returned (.tuple #[])∧qI w' b s i (if e=0 then e' else e) (if e=0 then a' else a)∧zf (zm b) w w':=by
 have h':=ze h
 obtain ⟨c0,c1,c2,c3,f1,f2,f3⟩:=h
 by_cases he:e=0
 ·have hb:(e == 0)=true:=by simp [he]
  have He:Hid (e=0):=he
  clear he
  go_enter Tryz.func72,Tryz.ntmps72
  go_wp2
  go_end0
  exact ⟨rfl,((zb h').setE e').setA a',((zf.refl _ _).mine _ _).mine _ _⟩
 ·have hb:(e == 0)=false:=by simp [he]
  have He:Hid (¬e=0):=he
  clear he
  go_enter Tryz.func72,Tryz.ntmps72
  go_wp2
  go_end0
  exact ⟨rfl,zb h',zf.refl _ _⟩
def Ref.signB (b:Int):Bool:=[94,36,92,46,42,43,63,40,41,91,93,123,125,124,47].any fun c=>decide (c=b)
theorem zaf (b:Int)(w:World)(_h1:-1≤b)(_h2:b≤255) :
  Calls Tryz.prog 207 #[.int .i64 b] w fun e w'=>e = .returned (.bool (Ref.signB b))∧w'=w:=by
 have k0:wrap64 ((({ data:=#[94,36,92,46,42,43,63,40,41,91,93,123,125,124,47] }:ByteArray)[0]'(by decide)).toNat:Int)=94:=by decide +kernel
 have k1:wrap64 ((({ data:=#[94,36,92,46,42,43,63,40,41,91,93,123,125,124,47] }:ByteArray)[1]'(by decide)).toNat:Int)=36:=by decide +kernel
 have k2:wrap64 ((({ data:=#[94,36,92,46,42,43,63,40,41,91,93,123,125,124,47] }:ByteArray)[2]'(by decide)).toNat:Int)=92:=by decide +kernel
 have k3:wrap64 ((({ data:=#[94,36,92,46,42,43,63,40,41,91,93,123,125,124,47] }:ByteArray)[3]'(by decide)).toNat:Int)=46:=by decide +kernel
 have k4:wrap64 ((({ data:=#[94,36,92,46,42,43,63,40,41,91,93,123,125,124,47] }:ByteArray)[4]'(by decide)).toNat:Int)=42:=by decide +kernel
 have k5:wrap64 ((({ data:=#[94,36,92,46,42,43,63,40,41,91,93,123,125,124,47] }:ByteArray)[5]'(by decide)).toNat:Int)=43:=by decide +kernel
 have k6:wrap64 ((({ data:=#[94,36,92,46,42,43,63,40,41,91,93,123,125,124,47] }:ByteArray)[6]'(by decide)).toNat:Int)=63:=by decide +kernel
 have k7:wrap64 ((({ data:=#[94,36,92,46,42,43,63,40,41,91,93,123,125,124,47] }:ByteArray)[7]'(by decide)).toNat:Int)=40:=by decide +kernel
 have k8:wrap64 ((({ data:=#[94,36,92,46,42,43,63,40,41,91,93,123,125,124,47] }:ByteArray)[8]'(by decide)).toNat:Int)=41:=by decide +kernel
 have k9:wrap64 ((({ data:=#[94,36,92,46,42,43,63,40,41,91,93,123,125,124,47] }:ByteArray)[9]'(by decide)).toNat:Int)=91:=by decide +kernel
 have k10:wrap64 ((({ data:=#[94,36,92,46,42,43,63,40,41,91,93,123,125,124,47] }:ByteArray)[10]'(by decide)).toNat:Int)=93:=by decide +kernel
 have k11:wrap64 ((({ data:=#[94,36,92,46,42,43,63,40,41,91,93,123,125,124,47] }:ByteArray)[11]'(by decide)).toNat:Int)=123:=by decide +kernel
 have k12:wrap64 ((({ data:=#[94,36,92,46,42,43,63,40,41,91,93,123,125,124,47] }:ByteArray)[12]'(by decide)).toNat:Int)=125:=by decide +kernel
 have k13:wrap64 ((({ data:=#[94,36,92,46,42,43,63,40,41,91,93,123,125,124,47] }:ByteArray)[13]'(by decide)).toNat:Int)=124:=by decide +kernel
 have k14:wrap64 ((({ data:=#[94,36,92,46,42,43,63,40,41,91,93,123,125,124,47] }:ByteArray)[14]'(by decide)).toNat:Int)=47:=by decide +kernel
 go_enter Tryz.func207,Tryz.ntmps207
 go_wp2
 refine wp_loop_rounds 16 ?_
 iterate 16 (all_goals (try rw [rounds_succ]);all_goals (try go_wp2))
 all_goals (go_ret;refine ⟨ret_bool ?_,rfl⟩)
 all_goals (clear k0 k1 k2 k3 k4 k5 k6 k7 k8 k9 k10 k11 k12 k13 k14)
 all_goals (simp_all [Ref.signB])
 all_goals omega
theorem qU (a b:Int)(w:World) :
  Calls Tryz.prog 75 #[.int .i64 a,.int .i64 b] w fun e w'=>e = .returned (.int .i64 (if a<b then a else b))∧w'=w:=by
 go_enter Tryz.func75,Tryz.ntmps75
 go_wp2
 all_goals (go_ret;refine ⟨qt ?_,rfl⟩;first |rfl |(split<;>omega))
namespace Ref
def hexF (s:ByteArray):Nat→Int→St→Int×St
 |0,c,st=>(c,st)
 |n+1,c,st=>if hexV (zd s st.i)<0 then (0,st.fail 3 st.i) else hexF s n (16*c+hexV (zd s st.i)) (st.go 1)
theorem hexV_hi (b:Int):hexV b≤15:=by unfold hexV;(repeat' split)<;>omega
theorem hexV_lo (b:Int):-1≤hexV b:=by unfold hexV;(repeat' split)<;>omega
theorem QC {s:ByteArray}{n:Nat}{c:Int}{st:St}(h:hexV (zd s st.i)<0):hexF s (n+1) c st=(0,st.fail 3 st.i):=by simp [hexF,h]
theorem Xu {s:ByteArray}{n:Nat}{c:Int}{st:St}(h:0≤hexV (zd s st.i)):hexF s (n+1) c st=hexF s n (16*c+hexV (zd s st.i)) (st.go 1):=by
 simp [hexF,show ¬hexV (zd s st.i)<0 by omega]
end Ref
theorem Vq (k:Nat)(h:k≤4):(16:Int) ^ k≤65536:=by
 have h5:k=0∨k=1∨k=2∨k=3∨k=4:=by omega
 rcases h5 with rfl |rfl |rfl |rfl |rfl<;>decide
theorem zP (b:Nat)(s:ByteArray)(st:St)(w:World)(h:Lex w b s st)(hs:s.size≤400) :
  Calls Tryz.prog 69 #[.pointer (some ⟨b,0,none⟩)] w fun x w'=>x = .returned (.int .i64 (zd s st.i))∧∃ n,w'=w.drewN n:=
 now_any b s st.i st.e st.a w h (by unfold maxLen;omega)
theorem yi (b:Nat)(s:ByteArray)(st:St)(e' a':Int)(w:World)(h:Lex w b s st) :
  Calls Tryz.prog 72 #[.pointer (some ⟨b,0,none⟩),.int .i64 e',.int .i64 a'] w fun x w'=>
   x = .returned (.tuple #[])∧Lex w' b s (st.fail e' a')∧zf (zm b) w w':=
 (fail_any b s st.i st.e st.a e' a' w h).mono fun x w' ⟨h1,h2,h3⟩=>⟨h1,by
  unfold Lex St.fail
  split
  ·rename_i he;simpa [he] using h2
  ·rename_i he;simpa [he] using h2,h3⟩
theorem zbg (b:Nat)(s:ByteArray)(n:Nat)(st:St)(w:World)(hn:n≤4)(h:Lex w b s st)(hs:s.size≤400)(hi:st.i≤1000) :
  Calls Tryz.prog 208 #[.pointer (some ⟨b,0,none⟩),.int .i64 n] w fun x w'=>
   x = .returned (.int .i64 (Ref.hexF s n 0 st).1)∧Lex w' b s (Ref.hexF s n 0 st).2∧zf (zm b) w w':=by
 go_enter Tryz.func208,Tryz.ntmps208
 go_wp2_with fail
 go_loopw [5,6] (fun c i wr=>∃ (k:Nat) (q:Int) (st':St),k≤n∧i = .int .i64 k∧c = .int .i64 q∧0≤q∧q<(16:Int) ^ k∧st'.i≤1000+k∧Lex wr b s st'∧zf (zm b) w wr∧Hid (Ref.hexF s n 0 st=Ref.hexF s (n-k) q st'))
  (fun _ i _=>n-(intOf i).toNat)
 case atStart=>exact ⟨0,0,st,Nat.zero_le _,rfl,rfl,by omega,by simp,by omega,h,zf.refl _ _,rfl⟩
 case round=>
  obtain ⟨k,q,st',hk,rfl,rfl,hq0,hq1,hi',hL,hO,HF⟩:=hrel
  have hp:(16:Int) ^ k≤65536:=Vq k (by omega)
  have hd1:=Ref.hexV_hi (zd s st'.i)
  by_cases hlt:k<n
  ·go_wp2_with fail
   refine (zP b s st' _ hL hs).mono ?_
   rintro e w1 ⟨rfl,nq,rfl⟩
   go_wp2_with fail
   refine (Xt _ _ (jb _ _) (yw _ _)).mono ?_
   rintro e w1 ⟨rfl,rfl⟩
   have hL1:=ze hL
   obtain ⟨c0,c1,c2,c3,f1,f2,f3⟩:=hL
   by_cases hd:Ref.hexV (zd s st'.i)<0
   ·have HF1:Hid (Ref.hexF s n 0 st=(0,st'.fail 3 st'.i)):=by
     rw [zb HF,show n-k=(n-k-1)+1 by omega];exact Ref.QC hd
    go_wp2_with fail
    refine (yi b s st' 3 st'.i _ ((zb hL1).drewN nq)).mono ?_
    rintro e w2 ⟨rfl,hL2,hO2⟩
    go_wp2_with fail
    go_ret
    rw [zb HF1]
    exact ⟨rfl,hL2,(hO.drewN nq).trans hO2⟩
   ·have HF1:Hid (Ref.hexF s n 0 st=Ref.hexF s (n-(k+1)) (16*q+Ref.hexV (zd s st'.i)) (st'.go 1)):=by
     rw [zb HF,show n-k=(n-(k+1))+1 by omega];exact Ref.Xu (by omega)
    have hp':(16:Int) ^ (k+1)=16*(16:Int) ^ k:=by rw [Int.pow_succ];omega
    have hpn:16*q+Ref.hexV (zd s st'.i)<(16:Int) ^ (k+1):=by omega
    have Hpn:=ze hpn
    clear hp' hpn
    generalize hD:Ref.hexV (zd s st'.i)=D at *
    have HD:=ze hD
    clear hD
    go_wp2_with fail
    go_roundw
    case rel=>exact ⟨k+1,_,st'.go 1,by omega,by go_num,rfl,by omega,zb Hpn,by simp [St.go];omega,((zb hL1).drewN nq).setI _,((hO.drewN nq).mine _ _),HF1⟩
    case measure=>simp [intOf];omega
  ·have HF1:Hid (Ref.hexF s n 0 st=(q,st')):=by
    rw [zb HF,show n-k=0 by omega];rfl
   go_wp2_with fail
   go_ret
   rw [zb HF1]
   exact ⟨rfl,hL,hO⟩
namespace Ref
def qD (s:ByteArray):Nat→Int→Nat→St→Int×St
 |0,_,_,st=>(0,st)
 |f+1,c,n,st=>
  if 0<n∧zd s st.i=125 then (c,st.go 1)
  else if hexV (zd s st.i)<0∨1114111<16*c+hexV (zd s st.i) then (0,st.fail 3 st.i)
  else qD s f (16*c+hexV (zd s st.i)) (n+1) (st.go 1)
theorem vJ {s:ByteArray}{f n:Nat}{c:Int}{st:St}(h:0<n)(h2:zd s st.i=125):qD s (f+1) c n st=(c,st.go 1):=by simp [qD,h,h2]
theorem Zg {s:ByteArray}{f n:Nat}{c:Int}{st:St}(h:¬(0<n∧zd s st.i=125))(h2:hexV (zd s st.i)<0∨1114111<16*c+hexV (zd s st.i)) :
  qD s (f+1) c n st=(0,st.fail 3 st.i):=by simp only [qD];rw [if_neg h,if_pos h2]
theorem wu {s:ByteArray}{f n:Nat}{c:Int}{st:St}(h:¬(0<n∧zd s st.i=125))(h2:¬(hexV (zd s st.i)<0∨1114111<16*c+hexV (zd s st.i))) :
  qD s (f+1) c n st=qD s f (16*c+hexV (zd s st.i)) (n+1) (st.go 1):=by simp only [qD];rw [if_neg h,if_neg h2]
def kt (s:ByteArray)(st:St):Int×St:=qD s (s.size+1-st.i) 0 0 st
theorem hexV_neg:hexV (-1) = -1:=by decide
end Ref
theorem zag (b:Nat)(s:ByteArray)(st:St)(w:World)(h:Lex w b s st)(hs:s.size≤400)(hi:st.i≤s.size) :
  Calls Tryz.prog 231 #[.pointer (some ⟨b,0,none⟩)] w fun x w'=>
   x = .returned (.int .i64 (Ref.kt s st).1)∧Lex w' b s (Ref.kt s st).2∧zf (zm b) w w':=by
 go_enter Tryz.func231,Tryz.ntmps231
 go_wp2_with fail
 go_loopw [3,4] (fun c n wr=>∃ (k:Nat) (q:Int) (st':St),n = .int .i64 k∧c = .int .i64 q∧0≤q∧q≤1114111∧st'.i≤s.size∧k≤st'.i∧Lex wr b s st'∧zf (zm b) w wr∧Hid (st'.i=st.i+k)∧Hid (Ref.kt s st=Ref.qD s (s.size+1-st'.i) q k st'))
  (fun _ n _=>s.size-st.i-(intOf n).toNat)
 case atStart=>exact ⟨0,0,st,rfl,rfl,by omega,by omega,hi,by omega,h,zf.refl _ _,rfl,rfl⟩
 case round=>
  obtain ⟨k,q,st',rfl,rfl,hq0,hq1,hi',hk,hL,hO,Hi,HF⟩:=hrel
  have hd1:=Ref.hexV_hi (zd s st'.i)
  have hL1:=ze hL
  have hfu:Hid (s.size+1-st'.i=(s.size-st'.i)+1):=by show _=_;omega
  by_cases hcl:0<k∧zd s st'.i=125
  ·have HF1:Hid (Ref.kt s st=(q,st'.go 1)):=by
    rw [zb HF,zb hfu];exact Ref.vJ hcl.1 hcl.2
   have hk1:0<k:=hcl.1
   have hb:(zd s st'.i == 125)=true:=by simp [hcl.2]
   clear hcl
   go_wp2_with fail
   refine (zP b s st' _ hL hs).mono ?_
   rintro e w1 ⟨rfl,nq,rfl⟩
   obtain ⟨c0,c1,c2,c3,f1,f2,f3⟩:=hL
   go_wp2_with fail
   go_ret
   rw [zb HF1]
   exact ⟨rfl,((zb hL1).drewN nq).setI _,((hO.drewN nq).mine _ _)⟩
  ·have hcl':=ze hcl
   by_cases hk0:k=0
   case' pos=>
    have hkd:decide (0<k)=false:=by simp [hk0]
    clear hcl hk0
   case' neg=>
    have hk1:0<k:=by omega
    have hb:(zd s st'.i == 125)=false:=by simp only [beq_eq_false_iff_ne];intro hbb;exact hcl ⟨hk1,hbb⟩
    clear hcl
    go_wp2_with fail
    refine (zP b s st' _ hL hs).mono ?_
    rintro e w1 ⟨rfl,nq1,rfl⟩
   all_goals
    go_wp2_with fail
    refine (zP b s st' _ (by first |exact hL |exact hL.drewN _) hs).mono ?_
    rintro e w1 ⟨rfl,nq,rfl⟩
    go_wp2_with fail
    refine (Xt _ _ (jb _ _) (yw _ _)).mono ?_
    rintro e w1 ⟨rfl,rfl⟩
    obtain ⟨c0,c1,c2,c3,f1,f2,f3⟩:=hL
    generalize hD:Ref.hexV (zd s st'.i)=D at *
    have HD:=ze hD
    clear hD
    by_cases hbad:D<0∨1114111<16*q+D
    ·have HF1:Hid (Ref.kt s st=(0,st'.fail 3 st'.i)):=by
      rw [zb HF,zb hfu];exact Ref.Zg (zb hcl') (by rw [zb HD];exact hbad)
     by_cases hD0:D<0
     case' neg=>have hbad2:1114111<16*q+D:=by omega
     all_goals clear hbad
     all_goals
      go_wp2_with fail
      refine (yi b s st' 3 st'.i _ ((zb hL1).drewN _)).mono ?_
      rintro e w2 ⟨rfl,hL2,hO2⟩
      go_wp2_with fail
      go_ret
      rw [zb HF1]
      exact ⟨rfl,hL2,(hO.drewN _).trans hO2⟩
    ·have hlt:st'.i<s.size:=by
      apply Classical.byContradiction;intro hn
      have:=ql s st'.i (by omega)
      rw [this,Ref.hexV_neg] at HD
      have:=zb HD;omega
     have HF1:Hid (Ref.kt s st=Ref.qD s (s.size+1-(st'.go 1).i) (16*q+D) (k+1) (st'.go 1)):=by
      rw [zb HF,zb hfu,show s.size+1-(st'.go 1).i=s.size-st'.i by simp only [St.go];omega,←zb HD];exact Ref.wu (zb hcl') (by rw [zb HD];exact hbad)
     have h1:0≤D:=by omega
     have h2:16*q+D≤1114111:=by omega
     have hki:=zb Hi
     have Hki:Hid ((st'.go 1).i=st.i+(k+1)):=by show _=_;simp only [St.go];rw [hki];try omega
     clear hbad hki
     go_wp2_with fail
     go_roundw
     case rel=>exact ⟨k+1,_,st'.go 1,by go_num,rfl,by omega,by omega,by simp [St.go];omega,by simp [St.go];omega,((zb hL1).drewN _).setI _,(hO.drewN _).mine _ _,Hki,HF1⟩
     case measure=>have:=zb Hi;simp [intOf];omega
namespace Ref
def kJ (s:ByteArray):Nat→Nat→Int→Int
 |0,_,c=>c
 |n+1,k,c=>if hexV (zd s k)<0 then -1 else kJ s n (k+1) (16*c+hexV (zd s k))
def xw (s:ByteArray)(i:Nat):Int:=if s.size<i+6∨zd s i≠92∨zd s (i+1)≠117 then -1 else kJ s 4 (i+2) 0
theorem ZS {s:ByteArray}{n k:Nat}{c:Int}(h:hexV (zd s k)<0):kJ s (n+1) k c = -1:=by simp [kJ,h]
theorem ww {s:ByteArray}{n k:Nat}{c:Int}(h:0≤hexV (zd s k)):kJ s (n+1) k c=kJ s n (k+1) (16*c+hexV (zd s k)):=by
 simp [kJ,show ¬hexV (zd s k)<0 by omega]
theorem kY {s:ByteArray}{i:Nat}(h:s.size<i+6∨zd s i≠92∨zd s (i+1)≠117):xw s i = -1:=by simp only [xw];rw [if_pos h]
theorem Xv {s:ByteArray}{i:Nat}(h:¬(s.size<i+6∨zd s i≠92∨zd s (i+1)≠117)):xw s i=kJ s 4 (i+2) 0:=by simp only [xw];rw [if_neg h]
end Ref
theorem half_any (s:ByteArray)(i:Nat)(w:World)(hs:s.size≤400)(hi:i≤1000) :
  Calls Tryz.prog 230 #[.string s,.int .i64 i] w fun x w'=>x = .returned (.int .i64 (Ref.xw s i))∧w'=w:=by
 by_cases h1:s.size<i+6
 ·have HF:=ze (Ref.kY (s:=s) (i:=i) (Or.inl h1))
  go_enter Tryz.func230,Tryz.ntmps230
  go_wp2
  go_ret
  exact ⟨qt (zb HF).symm,rfl⟩
 ·have hl0:i<s.size:=by omega
  have hl1:i+1<s.size:=by omega
  by_cases h2:zd s i=92
  ·have hb2:((s[i].toNat:Int) != 92)=false:=by rw [←yT s i hl0];simp [h2]
   by_cases h3:zd s (i+1)=117
   ·have hb3:((s[i+1].toNat:Int) != 117)=false:=by rw [←yT s (i+1) hl1];simp [h3]
    have HF:=ze (Ref.Xv (s:=s) (i:=i) (by simp [h2,h3];omega))
    clear h2 h3
    go_enter Tryz.func230,Tryz.ntmps230
    go_wp2_with fail
    go_loop [5,6] (fun c k=>∃ (n:Nat) (q:Int),n≤4∧k = .int .i64 ((i+2+n:Nat):Int)∧c = .int .i64 q∧0≤q∧q<(16:Int) ^ n∧Hid (Ref.xw s i=Ref.kJ s (4-n) (i+2+n) q))
     (fun _ k=>i+6-(intOf k).toNat)
    case atStart=>exact ⟨0,0,by omega,by go_num,rfl,by omega,by simp,HF⟩
    case round=>
     obtain ⟨n,q,hn,rfl,rfl,hq0,hq1,HG⟩:=hrel
     have hp:(16:Int) ^ n≤65536:=Vq n (by omega)
     have hd1:=Ref.hexV_hi (zd s (i+2+n))
     by_cases hlt:n<4
     ·go_wp2_with fail
      rw [vO,←yT s (i+2+n) (by omega)]
      refine (Xt _ _ (jb _ _) (yw _ _)).mono ?_
      rintro e w1 ⟨rfl,rfl⟩
      by_cases hd:Ref.hexV (zd s (i+2+n))<0
      ·have HF1:Hid (Ref.xw s i = -1):=by
        rw [zb HG,show 4-n=(3-n)+1 by omega];exact Ref.ZS hd
       go_wp2_with fail
       go_ret
       exact ⟨qt (zb HF1).symm,rfl⟩
      ·have HF1:Hid (Ref.xw s i=Ref.kJ s (4-(n+1)) (i+2+(n+1)) (16*q+Ref.hexV (zd s (i+2+n)))):=by
        rw [zb HG,show 4-n=(4-(n+1))+1 by omega];exact Ref.ww (by omega)
       have hp':(16:Int) ^ (n+1)=16*(16:Int) ^ n:=by rw [Int.pow_succ];omega
       have hpn:16*q+Ref.hexV (zd s (i+2+n))<(16:Int) ^ (n+1):=by omega
       have Hpn:=ze hpn
       clear hp' hpn
       generalize hD:Ref.hexV (zd s (i+2+n))=D at *
       have HD:=ze hD
       clear hD
       go_wp2_with fail
       go_round
       case rel=>exact ⟨n+1,_,by omega,by go_num,rfl,by omega,zb Hpn,HF1⟩
       case measure=>simp [intOf];omega
     ·go_wp2_with fail
      go_ret
      have:n=4:=by omega
      subst this
      exact ⟨qt (zb HG).symm,rfl⟩
   ·have HF:=ze (Ref.kY (s:=s) (i:=i) (Or.inr (Or.inr h3)))
    have hb3:((s[i+1].toNat:Int) != 117)=true:=by rw [←yT s (i+1) hl1];simp [h3]
    clear h2 h3
    go_enter Tryz.func230,Tryz.ntmps230
    go_wp2
    go_ret
    exact ⟨qt (zb HF).symm,rfl⟩
  ·have HF:=ze (Ref.kY (s:=s) (i:=i) (Or.inr (Or.inl h2)))
   have hb2:((s[i].toNat:Int) != 92)=true:=by rw [←yT s i hl0];simp [h2]
   clear h2
   go_enter Tryz.func230,Tryz.ntmps230
   go_wp2
   go_ret
   exact ⟨qt (zb HF).symm,rfl⟩
set_option maxHeartbeats 800000
namespace Ref
def vR (s:ByteArray)(st:St):Bool:=decide (55296≤xw s (st.i-1)) && decide (xw s (st.i-1)≤56319) && decide (56320≤xw s (st.i+5)) && decide (xw s (st.i+5)≤57343)
def xx (s:ByteArray)(st:St):Int×St:=
 if zd s (st.i+1)=123 then kt s (st.go 2)
 else if vR s st=true then (65536+(xw s (st.i-1)-55296)*1024+xw s (st.i+5)-56320,st.go 11)
 else hexF s 4 0 (st.go 1)
def zM (s:ByteArray)(cls:Bool)(st:St):Int×St:=
 if 0≤yL (zd s st.i) then (yL (zd s st.i),st.go 1)
 else if zd s st.i=48 then (0,if 48≤zd s (st.i+1)∧zd s (st.i+1)≤57 then (st.go 1).fail 3 (st.i+1:Nat) else st.go 1)
 else if zd s st.i=99 then
  (if (97≤zd s (st.i+1)∧zd s (st.i+1)≤122)∨(65≤zd s (st.i+1)∧zd s (st.i+1)≤90) then (zd s (st.i+1) % 32,st.go 2) else (0,(st.go 1).fail 3 (st.i+1:Nat)))
 else if zd s st.i=120 then hexF s 2 0 (st.go 1)
 else if zd s st.i=117 then xx s st
 else if signB (zd s st.i)=true∨cls=true∧zd s st.i=45 then (zd s st.i,st.go 1)
 else if cls=true∧zd s st.i=98 then (8,st.go 1)
 else (0,st.fail 3 st.i)
theorem Vr (s:ByteArray):∀ (n k:Nat) (c:Int),0≤c→c<(16:Int) ^ (4-n)→n≤4→-1≤kJ s n k c∧kJ s n k c≤65535
 |0,k,c,h1,h2,_=>by simp only [kJ];simp at h2;omega
 |n+1,k,c,h1,h2,h3=>by
  have hp:(16:Int) ^ (4-n)=16*(16:Int) ^ (4-(n+1)):=by rw [show 4-n=(4-(n+1))+1 by omega,Int.pow_succ];omega
  have hd:=hexV_hi (zd s k)
  by_cases hb:hexV (zd s k)<0
  ·rw [ZS hb];omega
  ·rw [ww (by omega)]
   exact Vr s n (k+1) _ (by omega) (by omega) (by omega)
theorem Vs (s:ByteArray)(i:Nat):-1≤xw s i∧xw s i≤65535:=by
 unfold xw;split
 ·omega
 ·exact Vr s 4 _ 0 (by omega) (by decide) (by omega)
end Ref
theorem Vt (s:ByteArray)(i:Int)(w:World)(hs:s.size≤400)(h0:0≤i)(hi:i≤1000) :
  Calls Tryz.prog 230 #[.string s,.int .i64 i] w fun x w'=>x = .returned (.int .i64 (Ref.xw s i.toNat))∧w'=w:=by
 obtain ⟨n,rfl⟩:=Int.eq_ofNat_of_zero_le h0
 rw [Int.toNat_natCast]
 exact half_any s n w hs (by omega)
theorem Lex.setI {w:World}{b:Nat}{s:ByteArray}{st:St}(h:Lex w b s st)(j:Int)(n:Nat)(hj:j=((st.i+n:Nat):Int)):Lex (w.setCell ⟨b,1,none⟩ (.int .i64 j)) b s (st.go n):=by
 subst hj;exact qI.setI h _
theorem Lex.drewN {w:World}{b:Nat}{s:ByteArray}{st:St}(h:Lex w b s st)(n:Nat):Lex (w.drewN n) b s st:=qI.drewN h n
theorem Vu (b:Nat)(s:ByteArray)(st:St)(w:World)(h:Lex w b s st)(hs:s.size≤400)(hi1:1≤st.i)(hi:st.i<s.size) :
  Calls Tryz.prog 209 #[.pointer (some ⟨b,0,none⟩)] w fun x w'=>
   x = .returned (.int .i64 (Ref.xx s st).1)∧Lex w' b s (Ref.xx s st).2∧zf (zm b) w w':=by
 have hL1:=ze h
 obtain ⟨c0,c1,c2,c3,f1,f2,f3⟩:=h
 have e1:((st.i:Int)-1).toNat=st.i-1:=by omega
 have e2:((st.i:Int)+5).toNat=st.i+5:=by omega
 have b1:=Ref.Vs s (st.i-1)
 have b2:=Ref.Vs s (st.i+5)
 go_enter Tryz.func209,Tryz.ntmps209
 go_wp2_with fail
 go_quiet ((go_at_call 230;exact (Vt _ _ _ hs (by omega) (by omega)).mono (by rintro e w'' ⟨rfl,rfl⟩;exact ⟨rfl,_,rfl⟩)))
 go_wp2_with fail
 go_quiet ((go_at_call 230;exact (Vt _ _ _ hs (by omega) (by omega)).mono (by rintro e w'' ⟨rfl,rfl⟩;exact ⟨rfl,_,rfl⟩)))
 go_wp2_with fail
 refine (zP b s (st.go 1) _ (((zb hL1).drewN _).setI _ 1 (by omega)) hs).mono ?_
 rintro e w1 ⟨rfl,nq,rfl⟩
 simp only [St.go]
 by_cases hbr:zd s (st.i+1)=123
 ·have hb:(zd s (st.i+1) == 123)=true:=by simp [hbr]
  have HF:Hid (Ref.xx s st=Ref.kt s (st.go 2)):=by show _=_;unfold Ref.xx;rw [if_pos hbr]
  have hlt:st.i+1<s.size:=by rw [←zx];omega
  clear hbr
  go_wp2_with fail
  refine (zag b s (st.go 2) _ (((((zb hL1).drewN _).setI _ 1 (by omega)).drewN _).setI _ 1 (by simp only [St.go];omega)) hs (by simp only [St.go];omega)).mono ?_
  rintro e w2 ⟨rfl,hL2,hO2⟩
  go_wp2_with fail
  go_ret
  rw [zb HF]
  exact ⟨rfl,hL2,(((((zf.refl _ _).drewN _).mine _ _).drewN _).mine _ _).trans hO2⟩
 ·have hb:(zd s (st.i+1) == 123)=false:=by simp [hbr]
  by_cases hp:Ref.vR s st=true
  ·have HF:Hid (Ref.xx s st=(65536+(Ref.xw s (st.i-1)-55296)*1024+Ref.xw s (st.i+5)-56320,st.go 11)):=by show _=_;unfold Ref.xx;rw [if_neg hbr,if_pos hp]
   simp only [Ref.vR,Bool.and_eq_true,decide_eq_true_eq] at hp
   obtain ⟨⟨⟨p1,p2⟩,p3⟩,p4⟩:=hp
   clear hbr e1 e2
   go_wp2_with fail
   go_ret
   rw [zb HF]
   exact ⟨rfl,(((((zb hL1).drewN _).setI _ 1 (by omega)).drewN _).setI _ 10 (by simp only [St.go];omega)),((((zf.refl _ _).drewN _).mine _ _).drewN _).mine _ _⟩
  ·have HF:Hid (Ref.xx s st=Ref.hexF s 4 0 (st.go 1)):=by show _=_;unfold Ref.xx;rw [if_neg hbr,if_neg hp]
   simp only [Ref.vR,Bool.and_eq_true,decide_eq_true_eq] at hp
   have Hp:=ze hp
   clear hbr e1 e2 hp
   go_wp2_with fail
   all_goals first
    |exact absurd (zb Hp) (by intro hn;exact hn ⟨⟨⟨‹_›,‹_›⟩,‹_›⟩,‹_›⟩)
    |skip
   all_goals
    refine (zbg b s 4 (st.go 1) _ (by omega) ((((zb hL1).drewN _).setI _ 1 (by omega)).drewN _) hs (by simp only [St.go];omega)).mono ?_
    rintro e w2 ⟨rfl,hL2,hO2⟩
    go_wp2_with fail
    go_ret
    rw [zb HF]
    exact ⟨rfl,hL2,((((zf.refl _ _).drewN _).mine _ _).drewN _).trans hO2⟩
namespace Ref
end Ref
theorem zah (b:Nat)(s:ByteArray)(cls:Bool)(st:St)(w:World)(h:Lex w b s st)(hs:s.size≤400)(hi1:1≤st.i)(hi:st.i≤s.size) :
  Calls Tryz.prog 167 #[.pointer (some ⟨b,0,none⟩),.bool cls] w fun x w'=>
   x = .returned (.int .i64 (Ref.zM s cls st).1)∧Lex w' b s (Ref.zM s cls st).2∧zf (zm b) w w':=by
 have hL1:=ze h
 have hlo:=jb s st.i
 have hhi:=yw s st.i
 have hlo1:=jb s (st.i+1)
 have hhi1:=yw s (st.i+1)
 have hin:0≤zd s st.i→st.i<s.size:=(zx s st.i).1
 have Hin:=ze hin
 clear hin
 go_enter Tryz.func167,Tryz.ntmps167
 go_wp2_with fail
 refine (zP b s st _ h hs).mono ?_
 rintro e w1 ⟨rfl,nq,rfl⟩
 go_wp2_with fail
 refine (Vp _ _).mono ?_
 rintro e w1 ⟨rfl,rfl⟩
 obtain ⟨c0,c1,c2,c3,f1,f2,f3⟩:=h
 generalize hB:zd s st.i=B at *
 by_cases hc:0≤Ref.yL B
 ·have HF:Hid (Ref.zM s cls st=(Ref.yL B,st.go 1)):=by show _=_;unfold Ref.zM;rw [hB,if_pos hc]
  clear hB
  go_wp2_with fail
  go_ret
  rw [zb HF]
  exact ⟨rfl,((zb hL1).drewN _).setI _ 1 (by omega),((zf.refl _ _).drewN _).mine _ _⟩
 ·have HB:=ze hB
  have hcc:=ze hc
  clear hB
  go_wp2_with fail
  refine (zaf _ _ hlo hhi).mono ?_
  rintro e w1 ⟨rfl,rfl⟩
  clear hc
  by_cases x1:B=48
  ·have hb:(B == 48)=true:=by simp [x1]
   by_cases hd:48≤zd s (st.i+1)∧zd s (st.i+1)≤57
   ·have HF:Hid (Ref.zM s cls st=(0,(st.go 1).fail 3 (st.i+1:Nat))):=by show _=_;unfold Ref.zM;rw [zb HB,if_neg (show ¬0≤Ref.yL B by have:=zb hcc;omega),if_pos x1,if_pos hd]
    clear x1
    obtain ⟨d1,d2⟩:=hd
    go_wp2_with fail
    refine (zP b s (st.go 1) _ (((zb hL1).drewN _).setI _ 1 (by omega)) hs).mono ?_
    rintro e w1 ⟨rfl,nq1,rfl⟩
    simp only [St.go]
    go_wp2_with fail
    refine (zP b s (st.go 1) _ ((((zb hL1).drewN _).setI _ 1 (by omega)).drewN _) hs).mono ?_
    rintro e w1 ⟨rfl,nq2,rfl⟩
    simp only [St.go]
    go_wp2_with fail
    refine (yi b s (st.go 1) 3 _ _ (((((zb hL1).drewN _).setI _ 1 (by omega)).drewN _))).mono ?_
    rintro e w2 ⟨rfl,hL2,hO2⟩
    go_wp2_with fail
    go_ret
    rw [zb HF]
    exact ⟨rfl,hL2,((((zf.refl _ _).drewN _).mine _ _).drewN _).trans hO2⟩
   ·have HF:Hid (Ref.zM s cls st=(0,st.go 1)):=by show _=_;unfold Ref.zM;rw [zb HB,if_neg (show ¬0≤Ref.yL B by have:=zb hcc;omega),if_pos x1,if_neg hd]
    have Hd:=ze hd
    clear x1
    by_cases d1:48≤zd s (st.i+1)
    ·have d2:57<zd s (st.i+1):=by omega
     clear hd
     go_wp2_with fail
     refine (zP b s (st.go 1) _ (((zb hL1).drewN _).setI _ 1 (by omega)) hs).mono ?_
     rintro e w1 ⟨rfl,nq1,rfl⟩
     simp only [St.go]
     go_wp2_with fail
     refine (zP b s (st.go 1) _ ((((zb hL1).drewN _).setI _ 1 (by omega)).drewN _) hs).mono ?_
     rintro e w1 ⟨rfl,nq2,rfl⟩
     simp only [St.go]
     go_wp2_with fail
     go_ret
     rw [zb HF]
     exact ⟨rfl,(((zb hL1).drewN _).setI _ 1 (by omega)).drewN _,(((zf.refl _ _).drewN _).mine _ _).drewN _⟩
    ·clear hd
     go_wp2_with fail
     refine (zP b s (st.go 1) _ (((zb hL1).drewN _).setI _ 1 (by omega)) hs).mono ?_
     rintro e w1 ⟨rfl,nq1,rfl⟩
     simp only [St.go]
     go_wp2_with fail
     go_ret
     rw [zb HF]
     exact ⟨rfl,(((zb hL1).drewN _).setI _ 1 (by omega)).drewN _,(((zf.refl _ _).drewN _).mine _ _).drewN _⟩
  ·have hb:(B == 48)=false:=by simp [x1]
   by_cases x2:B=99
   ·have hb2:(B == 99)=true:=by simp [x2]
    by_cases hd:(97≤zd s (st.i+1)∧zd s (st.i+1)≤122)∨(65≤zd s (st.i+1)∧zd s (st.i+1)≤90)
    ·have HF:Hid (Ref.zM s cls st=(zd s (st.i+1) % 32,st.go 2)):=by show _=_;unfold Ref.zM;rw [zb HB,if_neg (show ¬0≤Ref.yL B by have:=zb hcc;omega),if_neg x1,if_pos x2,if_pos hd]
     have Hd:=ze hd
     clear x1 x2 hd
     go_wp2_with fail
     refine (zP b s (st.go 1) _ (((zb hL1).drewN _).setI _ 1 (by omega)) hs).mono ?_
     rintro e w1 ⟨rfl,nq1,rfl⟩
     simp only [St.go]
     rcases zb Hd with ⟨d1,d2⟩ |⟨d1,d2⟩
     case' inr=>have d3:¬97≤zd s (st.i+1):=by omega
     all_goals
      go_wp2_with fail
      go_ret
      rw [zb HF]
      refine ⟨qt ?_,((((zb hL1).drewN _).setI _ 1 (by omega)).drewN _).setI _ 1 (by simp only [St.go];omega),((((zf.refl _ _).drewN _).mine _ _).drewN _).mine _ _⟩
      first |rfl |omega
    ·have HF:Hid (Ref.zM s cls st=(0,(st.go 1).fail 3 (st.i+1:Nat))):=by show _=_;unfold Ref.zM;rw [zb HB,if_neg (show ¬0≤Ref.yL B by have:=zb hcc;omega),if_neg x1,if_pos x2,if_neg hd]
     have Hd:=ze hd
     clear x1 x2 hd
     go_wp2_with fail
     refine (zP b s (st.go 1) _ (((zb hL1).drewN _).setI _ 1 (by omega)) hs).mono ?_
     rintro e w1 ⟨rfl,nq1,rfl⟩
     simp only [St.go]
     go_wp2_with fail
     all_goals first
      |(exfalso;have:=zb Hd;omega)
      |skip
     all_goals
      refine (yi b s (st.go 1) 3 _ _ (((((zb hL1).drewN _).setI _ 1 (by omega)).drewN _))).mono ?_
      rintro e w2 ⟨rfl,hL2,hO2⟩
      go_wp2_with fail
      go_ret
      rw [zb HF]
      exact ⟨rfl,hL2,((((zf.refl _ _).drewN _).mine _ _).drewN _).trans hO2⟩
   ·have hb2:(B == 99)=false:=by simp [x2]
    by_cases x3:B=120
    ·have hb3:(B == 120)=true:=by simp [x3]
     have HF:Hid (Ref.zM s cls st=Ref.hexF s 2 0 (st.go 1)):=by show _=_;unfold Ref.zM;rw [zb HB,if_neg (show ¬0≤Ref.yL B by have:=zb hcc;omega),if_neg x1,if_neg x2,if_pos x3]
     clear x1 x2 x3
     go_wp2_with fail
     refine (zbg b s 2 (st.go 1) _ (by omega) (((zb hL1).drewN _).setI _ 1 (by omega)) hs (by simp only [St.go];omega)).mono ?_
     rintro e w2 ⟨rfl,hL2,hO2⟩
     go_wp2_with fail
     go_ret
     rw [zb HF]
     exact ⟨rfl,hL2,(((zf.refl _ _).drewN _).mine _ _).trans hO2⟩
    ·have hb3:(B == 120)=false:=by simp [x3]
     by_cases x4:B=117
     ·have hb4:(B == 117)=true:=by simp [x4]
      have HF:Hid (Ref.zM s cls st=Ref.xx s st):=by show _=_;unfold Ref.zM;rw [zb HB,if_neg (show ¬0≤Ref.yL B by have:=zb hcc;omega),if_neg x1,if_neg x2,if_neg x3,if_pos x4]
      have hin:=zb Hin (by omega)
      clear x1 x2 x3 x4
      go_wp2_with fail
      refine (Vu b s st _ ((zb hL1).drewN _) hs hi1 hin).mono ?_
      rintro e w2 ⟨rfl,hL2,hO2⟩
      go_wp2_with fail
      go_ret
      rw [zb HF]
      exact ⟨rfl,hL2,((zf.refl _ _).drewN _).trans hO2⟩
     ·have hb4:(B == 117)=false:=by simp [x4]
      by_cases x5:Ref.signB B=true∨cls=true∧B=45
      ·have HF:Hid (Ref.zM s cls st=(B,st.go 1)):=by show _=_;unfold Ref.zM;rw [zb HB,if_neg (show ¬0≤Ref.yL B by have:=zb hcc;omega),if_neg x1,if_neg x2,if_neg x3,if_neg x4,if_pos x5]
       have X5:=ze x5
       clear x1 x2 x3 x4 x5
       by_cases y1:Ref.signB B=true
       case' neg=>
        have y2:cls=true:=by rcases zb X5 with h |h;exact absurd h y1;exact h.1
        have y3:(B == 45)=true:=by rcases zb X5 with h |h;exact absurd h y1;simp [h.2]
        have y4:Ref.signB B=false:=by simpa using y1
        clear y1
        subst y2
       all_goals
        go_wp2_with fail
        go_ret
        rw [zb HF]
        exact ⟨rfl,((zb hL1).drewN _).setI _ 1 (by omega),((zf.refl _ _).drewN _).mine _ _⟩
      ·have y4:Ref.signB B=false:=by simp at x5;exact x5.1
       by_cases x6:cls=true∧B=98
       ·have HF:Hid (Ref.zM s cls st=(8,st.go 1)):=by show _=_;unfold Ref.zM;rw [zb HB,if_neg (show ¬0≤Ref.yL B by have:=zb hcc;omega),if_neg x1,if_neg x2,if_neg x3,if_neg x4,if_neg x5,if_pos x6]
        obtain ⟨y2,y3⟩:=x6
        have y5:(B == 98)=true:=by simp [y3]
        have y6:(B == 45)=false:=by simp [y3]
        clear x1 x2 x3 x4 x5 y3
        subst y2
        go_wp2_with fail
        go_ret
        rw [zb HF]
        exact ⟨rfl,((zb hL1).drewN _).setI _ 1 (by omega),((zf.refl _ _).drewN _).mine _ _⟩
       ·have HF:Hid (Ref.zM s cls st=(0,st.fail 3 st.i)):=by show _=_;unfold Ref.zM;rw [zb HB,if_neg (show ¬0≤Ref.yL B by have:=zb hcc;omega),if_neg x1,if_neg x2,if_neg x3,if_neg x4,if_neg x5,if_neg x6]
        cases cls
        case' true=>
         have y5:(B == 98)=false:=by simp at x6;simpa using x6
         have y6:(B == 45)=false:=by simp at x5;simpa using x5.2
        all_goals
         clear x1 x2 x3 x4 x5 x6
         go_wp2_with fail
         refine (yi b s st 3 _ _ ((zb hL1).drewN _)).mono ?_
         rintro e w2 ⟨rfl,hL2,hO2⟩
         go_wp2_with fail
         go_ret
         rw [zb HF]
         exact ⟨rfl,hL2,((zf.refl _ _).drewN _).trans hO2⟩
def spanCells:List (Int×Int)→List Value
 | []=>[]
 |(a,b) :: r=>.int .i64 a :: .int .i64 b :: spanCells r
def yB (w:World)(base:Nat)(v:Value)(l:List (Int×Int)):Prop:=w.ownsRow base 271 2 v l.length (spanCells l)
theorem ZT (w:World)(c:Array Value)(l:List (Int×Int))(hc:c.toList=spanCells l)(hl:spanCells l=spanCells l→(spanCells l).length=l.length*2)(hm:l.length≤maxLen) :
  yB (w.alloc (.cells c 271)) w.heap.size (.slice (some ⟨w.heap.size,0,none⟩) l.length l.length) l:=by
 have hl':=hl rfl
 refine ⟨hl',.inr ⟨w.heap.size,l.length,c,rfl,Nat.le_refl _,heap_alloc_new w _,Nat.le_refl _,hm,?_,?_⟩⟩
 ·rw [←hl',←hc];simp
 ·rw [hc,List.take_of_length_le (by omega)]
theorem jp:∀ l:List (Int×Int),(spanCells l).length=l.length*2
 | []=>rfl
 |(a,b) :: r=>by simp only [spanCells,List.length_cons,jp r];omega
theorem wy (W:World)(n base:Nat)(hn:W.heap.size=n)(hb:base≤n)(c:Array Value)(l:List (Int×Int))(hc:c.toList=spanCells l)(hm:l.length≤maxLen)(k:Nat)(hk:k=l.length) :
  yB (W.alloc (.cells c 271)) base (.slice (some ⟨n,0,none⟩) k k) l:=by
 subst hn;subst hk
 obtain ⟨h1,h2⟩:=ZT W c l hc (fun _=>jp l) hm
 refine ⟨h1,?_⟩
 rcases h2 with h2 |⟨g,cap,cur,hv,hb',hh,h3⟩
 ·exact .inl h2
 ·refine .inr ⟨g,cap,cur,hv,?_,hh,h3⟩
  omega
theorem zai (w:World) :
  Calls Tryz.prog 164 #[] w fun x w'=>x = .returned (.slice (some ⟨w.heap.size,0,none⟩) 1 1)∧yB w' w.heap.size (.slice (some ⟨w.heap.size,0,none⟩) 1 1) [(48,57)]∧zf (fun _=>False) w w':=by
 go_enter Tryz.func164,Tryz.ntmps164
 go_wp2
 go_ret
 exact ⟨rfl,ZT w _ [(48,57)] rfl (fun _=>jp _) (by decide),(zf.refl _ _).alloc _⟩
theorem JT (w:World) :
  Calls Tryz.prog 165 #[] w fun x w'=>x = .returned (.slice (some ⟨w.heap.size,0,none⟩) 4 4)∧yB w' w.heap.size (.slice (some ⟨w.heap.size,0,none⟩) 4 4) [(48,57),(65,90),(95,95),(97,122)]∧zf (fun _=>False) w w':=by
 go_enter Tryz.func165,Tryz.ntmps165
 go_wp2
 go_ret
 exact ⟨rfl,ZT w _ [(48,57),(65,90),(95,95),(97,122)] rfl (fun _=>jp _) (by decide),(zf.refl _ _).alloc _⟩
theorem zaj (w:World) :
  Calls Tryz.prog 166 #[] w fun x w'=>x = .returned (.slice (some ⟨w.heap.size,0,none⟩) 10 10)∧yB w' w.heap.size (.slice (some ⟨w.heap.size,0,none⟩) 10 10) [(9,13),(32,32),(160,160),(5760,5760),(8192,8202),(8232,8233),(8239,8239),(8287,8287),(12288,12288),(65279,65279)]∧zf (fun _=>False) w w':=by
 go_enter Tryz.func166,Tryz.ntmps166
 go_wp2
 go_ret
 exact ⟨rfl,ZT w _ [(9,13),(32,32),(160,160),(5760,5760),(8192,8202),(8232,8233),(8239,8239),(8287,8287),(12288,12288),(65279,65279)] rfl (fun _=>jp _) (by decide),(zf.refl _ _).alloc _⟩
theorem zp {P:Nat→Prop}{w w':World}{base:Nat}{e:TypeId}{size:Nat}{v:Value}{n:Nat}{xs:List Value}(h:w.ownsRow base e size v n xs)(k:zf P w w')(hn:∀ g,v.ownBlock=some g→¬P g) :
  w'.ownsRow base e size v n xs:=by
 obtain ⟨h1,h2⟩:=h
 refine ⟨h1,?_⟩
 rcases h2 with h2 |⟨g,cap,cur,rfl,hb,hh,h3⟩
 ·exact .inl h2
 ·refine .inr ⟨g,cap,cur,rfl,hb,?_,h3⟩
  have hg:g<w.heap.size:=(Array.getElem?_eq_some_iff.1 hh).1
  rw [k.block g hg (hn g rfl)];exact hh
theorem yD {w:World}{base base':Nat}{e:TypeId}{size:Nat}{v:Value}{n:Nat}{xs:List Value}(h:w.ownsRow base e size v n xs)(hb:base'≤base):w.ownsRow base' e size v n xs:=by
 obtain ⟨h1,h2⟩:=h
 refine ⟨h1,?_⟩
 rcases h2 with h2 |⟨g,cap,cur,rfl,hb',hh,h3⟩
 ·exact .inl h2
 ·exact .inr ⟨g,cap,cur,rfl,by omega,hh,h3⟩
theorem zh {w:World}{base:Nat}{e:TypeId}{size:Nat}{v:Value}{n:Nat}{xs:List Value}(h:w.ownsRow base e size v n xs)(g:Nat)(hg:v.ownBlock=some g):base≤g∧g<w.heap.size:=h.lt g hg
theorem yB.keep {P:Nat→Prop}{w w':World}{base:Nat}{v:Value}{l:List (Int×Int)}(h:yB w base v l)(k:zf P w w')(hn:∀ g,base≤g→g<w.heap.size→¬P g):yB w' base v l:=
 zp h k fun g hg=>hn g (zh h g hg).1 (zh h g hg).2
theorem yB.base {w:World}{base base':Nat}{v:Value}{l:List (Int×Int)}(h:yB w base v l)(hb:base'≤base):yB w base' v l:=yD h hb
theorem zb7 (w:World)(n:Nat)(hn:w.heap.size=n):Calls Tryz.prog 164 #[] w fun x w'=>x = .returned (.slice (some ⟨n,0,none⟩) 1 1)∧yB w' n (.slice (some ⟨n,0,none⟩) 1 1) [(48,57)]∧zf (fun _=>False) w w':=by
 subst hn;exact zai w
theorem words_at (w:World)(n:Nat)(hn:w.heap.size=n):Calls Tryz.prog 165 #[] w fun x w'=>x = .returned (.slice (some ⟨n,0,none⟩) 4 4)∧yB w' n (.slice (some ⟨n,0,none⟩) 4 4) [(48,57),(65,90),(95,95),(97,122)]∧zf (fun _=>False) w w':=by
 subst hn;exact JT w
theorem zb8 (w:World)(n:Nat)(hn:w.heap.size=n):Calls Tryz.prog 166 #[] w fun x w'=>x = .returned (.slice (some ⟨n,0,none⟩) 10 10)∧yB w' n (.slice (some ⟨n,0,none⟩) 10 10) [(9,13),(32,32),(160,160),(5760,5760),(8192,8202),(8232,8233),(8239,8239),(8287,8287),(12288,12288),(65279,65279)]∧zf (fun _=>False) w w':=by
 subst hn;exact zaj w
structure Pt where
 neg:Bool
 spans:List (Int×Int)
namespace Ref
def Xw:List (Int×Int):=[(48,57)]
def jC:List (Int×Int):=[(48,57),(65,90),(95,95),(97,122)]
def Zh:List (Int×Int):=[(9,13),(32,32),(160,160),(5760,5760),(8192,8202),(8232,8233),(8239,8239),(8287,8287),(12288,12288),(65279,65279)]
def backB (b:Int):Bool:=(decide (49≤b) && decide (b≤57)) ||(b == 107) ||(b == 112) ||(b == 80)
def setL (b:Int):List (Int×Int):=if b=100∨b=68 then Xw else if b=119∨b=87 then jC else if b=115∨b=83 then Zh else []
def zI (s:ByteArray)(cls:Bool)(st:St):Pt×Bool×St:=
 if backB (zd s (st.i+1))=true then (⟨false,[]⟩,true,(st.go 1).fail 6 st.i)
 else if setL (zd s (st.i+1))≠[] then (⟨decide (zd s (st.i+1)<97),setL (zd s (st.i+1))⟩,false,st.go 2)
 else (⟨false,[((zM s cls (st.go 1)).1,(zM s cls (st.go 1)).1)]⟩,true,(zM s cls (st.go 1)).2)
end Ref
theorem Ref.backB_cases {b:Int}(h:Ref.backB b=true):(49≤b∧b≤57)∨b=107∨b=112∨b=80:=by
 simp [Ref.backB] at h;omega
theorem Ref.backB_not {b:Int}(h:¬Ref.backB b=true):¬(49≤b∧b≤57)∧b≠107∧b≠112∧b≠80:=by
 simp [Ref.backB] at h;omega
theorem Ref.setL_nil {b:Int}(h:Ref.setL b=[]):(b == 100)=false∧(b == 68)=false∧(b == 119)=false∧(b == 87)=false∧(b == 115)=false∧(b == 83)=false:=by
 unfold Ref.setL at h
 (repeat' split at h)<;>simp_all [Ref.Xw,Ref.jC,Ref.Zh]
theorem Ref.setL_cases {b:Int}(h:¬Ref.setL b=[]):((b == 100)=true∧Ref.setL b=Ref.Xw)∨((b == 100)=false∧(b == 68)=true∧Ref.setL b=Ref.Xw)∨
  ((b == 100)=false∧(b == 68)=false∧(b == 119)=true∧Ref.setL b=Ref.jC)∨((b == 100)=false∧(b == 68)=false∧(b == 119)=false∧(b == 87)=true∧Ref.setL b=Ref.jC)∨
  ((b == 100)=false∧(b == 68)=false∧(b == 119)=false∧(b == 87)=false∧(b == 115)=true∧Ref.setL b=Ref.Zh)∨
  ((b == 100)=false∧(b == 68)=false∧(b == 119)=false∧(b == 87)=false∧(b == 115)=false∧(b == 83)=true∧Ref.setL b=Ref.Zh):=by
 unfold Ref.setL at *
 by_cases h1:b=100
 ·subst h1;simp
 by_cases h2:b=68
 ·subst h2;simp
 by_cases h3:b=119
 ·subst h3;simp
 by_cases h4:b=87
 ·subst h4;simp
 by_cases h5:b=115
 ·subst h5;simp
 by_cases h6:b=83
 ·subst h6;simp
 simp [h1,h2,h3,h4,h5,h6] at h
theorem zg {P:Nat→Prop}{w w':World}(h:zf P w w')(p:Addr)(v:Value)(hp:w.cell? p=some v)(hn:¬P p.block):w'.cell? p=some v:=
 (h.cell (World.block_lt_of_cell? w p hp) hn).trans hp
theorem zw {P:Nat→Prop}{w w':World}(h:zf P w w')(p:Addr)(hl:p.block<w.heap.size)(hp:w.frozen? p=false)(hn:¬P p.block):w'.frozen? p=false:=
 (h.frozen hl hn).trans hp
theorem Lex.keep {P:Nat→Prop}{w w':World}{b:Nat}{s:ByteArray}{st:St}(h:Lex w b s st)(k:zf P w w')(hn:¬P b):Lex w' b s st:=qI.keep h k hn
theorem Lex.alloc {w:World}{b:Nat}{s:ByteArray}{st:St}(h:Lex w b s st)(o:Obj):Lex (w.alloc o) b s st:=h.keep ((zf.refl (fun _=>False) w).alloc o) (fun f=>f)
theorem Lex.lt {w:World}{b:Nat}{s:ByteArray}{st:St}(h:Lex w b s st):b<w.heap.size:=qI.lt h
theorem zo (W:World)(n:Nat)(hn:W.heap.size=n)(c:Array Value)(T:TypeId)(off:Nat)(v:Value)(h:c[off]?=some v):(W.alloc (.cells c T)).cell? ⟨n,off,none⟩=some v:=by
 subst hn;rw [World.cell?_alloc_at _ _ _ _ rfl];exact h
theorem zv (W:World)(n:Nat)(hn:W.heap.size=n)(c:Array Value)(T:TypeId)(off:Nat):(W.alloc (.cells c T)).frozen? ⟨n,off,none⟩=false:=by
 subst hn;exact World.frozen?_alloc_at _ _ _ _ rfl
theorem zf.fresh {P:Nat→Prop}{a w:World}(h:zf P a w)(p:Addr)(hp:a.heap.size≤p.block)(u:Value):zf P a (w.setCell p u):=h.setCell (Or.inr hp) u
theorem zb9 (w:World)(base:Nat):yB w base (.slice none 0 0) []:=World.ownsRow_nil w base _ _
theorem QD (b:Nat)(s:ByteArray)(cls:Bool)(st:St)(w:World)(h:Lex w b s st)(hs:s.size≤400)(hi:st.i<s.size) :
  Calls Tryz.prog 124 #[.pointer (some ⟨b,0,none⟩),.bool cls] w fun x w'=>
   ∃ sv,x = .returned (.tuple #[.agg #[.bool (Ref.zI s cls st).1.neg,sv],.bool (Ref.zI s cls st).2.1])∧yB w' w.heap.size sv (Ref.zI s cls st).1.spans∧
    Lex w' b s (Ref.zI s cls st).2.2∧zf (zm b) w w':=by
 have hL1:=ze h
 have hlt:=h.lt
 have hlo:=jb s (st.i+1)
 have hhi:=yw s (st.i+1)
 have hne:∀ w a n c n' c',(binOp .neq 272 (.slice a n c) (.slice none n' c')).run Tryz.prog w = .ok (.bool (!a.isNone)) w:=fun w a n c n' c'=>run_neq_slice_nil_any (P:=Tryz.prog) w 272 271 a n c n' c' Tryz.underlying272
 obtain ⟨c0,c1,c2,c3,f1,f2,f3⟩:=h
 go_enter Tryz.func124,Tryz.ntmps124
 go_wp2_with fail
 have hL2:=ze (((zb hL1).setI ((st.i:Int)+1) 1 (by omega)).alloc (.cells #[.bool false,.slice none 0 0] 274))
 refine (zP b s (st.go 1) _ (zb hL2) hs).mono ?_
 rintro e w1 ⟨rfl,nq,rfl⟩
 simp only [St.go]
 generalize hB:zd s (st.i+1)=B at *
 by_cases hbk:Ref.backB B=true
 ·have HF:Hid (Ref.zI s cls st=(⟨false,[]⟩,true,(st.go 1).fail 6 st.i)):=by show _=_;unfold Ref.zI;rw [hB,if_pos hbk]
  have hcs:=Ref.backB_cases hbk
  clear hB hbk
  have hcs':(49≤B∧B≤57)∨(¬49≤B∨57<B)∧((B == 107)=true∨(B == 107)=false∧((B == 112)=true∨(B == 112)=false∧(B == 80)=true)):=by simp;omega
  clear hcs
  rcases hcs' with ⟨q1,q2⟩ |⟨q1 |q1,q2 |⟨q2,q3 |⟨q3,q4⟩⟩⟩
  all_goals
   go_wp2_with fail
   refine (yi b s (st.go 1) 6 _ _ ((zb hL2).drewN _)).mono ?_
   rintro e w2 ⟨rfl,hL3,hO3⟩
   have r0:w2.cell? ⟨w.heap.size,0,none⟩=some (.bool false):=zg (hO3) _ _ (zo _ _ (by simp) _ _ 0 _ rfl) (by unfold zm;simp;omega)
   have r1:w2.cell? ⟨w.heap.size,1,none⟩=some (.slice none 0 0):=zg hO3 _ _ (zo _ _ (by simp) _ _ 1 _ rfl) (by unfold zm;simp;omega)
   have r2:w2.frozen? ⟨w.heap.size,0,none⟩=false:=zw hO3 _ (by simp) (zv _ _ (by simp) _ _ 0) (by unfold zm;simp;omega)
   have r3:w2.frozen? ⟨w.heap.size,1,none⟩=false:=zw hO3 _ (by simp) (zv _ _ (by simp) _ _ 1) (by unfold zm;simp;omega)
   go_wp2_with fail
   refine bodyPost_ret (v:=.tuple #[.agg #[.bool false,.slice none 0 0],.bool true]) (by simp [results,Tryz.results124,go_sem,r0,r1]) rfl ?_
   rw [zb HF]
   exact ⟨_,rfl,zb9 _ _,hL3.keep (((zf.refl (zm w.heap.size) _).mine _ _).mine _ _) (by unfold zm;omega),
    (((((((zf.refl _ _).mine _ _).alloc _).drewN _).trans hO3).fresh ⟨w.heap.size,0,none⟩ (Nat.le_refl _) _).fresh ⟨w.heap.size,1,none⟩ (Nat.le_refl _) _)⟩
 ·have hcs:=Ref.backB_not hbk
  have hcs':(¬49≤B∨57<B)∧(B == 107)=false∧(B == 112)=false∧(B == 80)=false:=by simp;omega
  obtain ⟨q1,q2,q3,q4⟩:=hcs'
  by_cases hset:Ref.setL B=[]
  ·have HF:Hid (Ref.zI s cls st=(⟨false,[((Ref.zM s cls (st.go 1)).1,(Ref.zM s cls (st.go 1)).1)]⟩,true,(Ref.zM s cls (st.go 1)).2)):=by
    show _=_;unfold Ref.zI;rw [hB,if_neg hbk,if_neg (by simp [hset])]
   have hs6:=Ref.setL_nil hset
   obtain ⟨x1,x2,x3,x4,x5,x6⟩:=hs6
   clear hB hbk hset hcs
   rcases q1 with q1 |q1
   all_goals
    go_wp2_with fail
    refine (zah b s cls (st.go 1) _ ((zb hL2).drewN _) hs (by simp only [St.go];omega) (by simp only [St.go];omega)).mono ?_
    rintro e w2 ⟨rfl,hL3,hO3⟩
    have r0:w2.cell? ⟨w.heap.size,0,none⟩=some (.bool false):=zg (hO3) _ _ (zo _ _ (by simp) _ _ 0 _ rfl) (by unfold zm;simp;omega)
    have r1:w2.cell? ⟨w.heap.size,1,none⟩=some (.slice none 0 0):=zg hO3 _ _ (zo _ _ (by simp) _ _ 1 _ rfl) (by unfold zm;simp;omega)
    have r2:w2.frozen? ⟨w.heap.size,0,none⟩=false:=zw hO3 _ (by simp) (zv _ _ (by simp) _ _ 0) (by unfold zm;simp;omega)
    have r3:w2.frozen? ⟨w.heap.size,1,none⟩=false:=zw hO3 _ (by simp) (zv _ _ (by simp) _ _ 1) (by unfold zm;simp;omega)
    have hsz:w.heap.size<w2.heap.size:=World.block_lt_of_cell? w2 ⟨w.heap.size,0,none⟩ r0
    go_wp2_with fail
    refine bodyPost_ret (v:=.tuple #[.agg #[.bool false,.slice (some ⟨w2.heap.size,0,none⟩) 1 1],.bool true]) (by simp [results,Tryz.results124,go_sem,r0,r1,hsz]) rfl ?_
    rw [zb HF]
    generalize (Ref.zM s cls (st.go 1)).1=N at *
    refine ⟨_,rfl,?_,?_,?_⟩
    ·exact wy _ _ _ (by simp) (by omega) _ [(N,N)] rfl (by simp [maxLen]) 1 rfl
    ·exact (hL3.keep (((zf.refl (zm w.heap.size) _).mine _ _).mine _ _) (by unfold zm;omega)).alloc _
    ·exact (((((((zf.refl _ _).mine _ _).alloc _).drewN _).trans hO3).fresh ⟨w.heap.size,0,none⟩ (Nat.le_refl _) _).fresh ⟨w.heap.size,1,none⟩ (Nat.le_refl _) _).alloc _
  ·have HF:Hid (Ref.zI s cls st=(⟨decide (B<97),Ref.setL B⟩,false,st.go 2)):=by
    show _=_;unfold Ref.zI;rw [hB,if_neg hbk,if_pos hset]
   have hs6:=Ref.setL_cases hset
   clear hB hbk hset hcs
   rcases q1 with q1 |q1
   case' inl=>have q1':¬49≤B:=q1
   all_goals
    rcases hs6 with ⟨x1,hq⟩ |⟨x1,x2,hq⟩ |⟨x1,x2,x3,hq⟩ |⟨x1,x2,x3,x4,hq⟩ |⟨x1,x2,x3,x4,x5,hq⟩ |⟨x1,x2,x3,x4,x5,x6,hq⟩
   all_goals
    have Hq:=ze hq
    clear hq
    go_wp2_with fail
    first
     |(refine (zb7 _ (w.heap.size+1) (by simp)).mono ?_;rintro e w2 ⟨rfl,hsp,hO3⟩)
     |(refine (words_at _ (w.heap.size+1) (by simp)).mono ?_;rintro e w2 ⟨rfl,hsp,hO3⟩)
     |(refine (zb8 _ (w.heap.size+1) (by simp)).mono ?_;rintro e w2 ⟨rfl,hsp,hO3⟩)
   all_goals
    have hL3:=((zb hL2).drewN nq).keep hO3 (fun f=>f)
    have hL4:=ze hL3
    obtain ⟨d0,d1,d2,d3,g1,g2,g3⟩:=hL3
    have r0:w2.cell? ⟨w.heap.size,0,none⟩=some (.bool false):=zg (hO3) _ _ (zo _ _ (by simp) _ _ 0 _ rfl) (fun f=>f)
    have r1:w2.cell? ⟨w.heap.size,1,none⟩=some (.slice none 0 0):=zg hO3 _ _ (zo _ _ (by simp) _ _ 1 _ rfl) (fun f=>f)
    have r2:w2.frozen? ⟨w.heap.size,0,none⟩=false:=zw hO3 _ (by simp) (zv _ _ (by simp) _ _ 0) (fun f=>f)
    have r3:w2.frozen? ⟨w.heap.size,1,none⟩=false:=zw hO3 _ (by simp) (zv _ _ (by simp) _ _ 1) (fun f=>f)
    have hgi:(st.go 1).i≤1000:=by simp only [St.go];omega
    have Hsp:=ze hsp
    have HO3:=ze hO3
    clear hsp hO3
    go_wp2_with fail
   all_goals
    refine bodyPost_ret (v:=.tuple #[.agg #[.bool (decide (B<97)),_],.bool false]) (by simp [results,Tryz.results124,go_sem,r0,r1];rfl) rfl ?_
    rw [zb HF]
    refine ⟨_,rfl,?_,?_,?_⟩
    ·rw [zb Hq]
     exact ((zb Hsp).keep ((((zf.refl (fun k=>k=b∨k=w.heap.size) _).setCell (Or.inl (Or.inl rfl)) _).setCell (Or.inl (Or.inr rfl)) _).setCell (Or.inl (Or.inr rfl)) _) (by intro g hg _ hh;omega)).base (by omega)
    ·exact ((zb hL4).setI _ 1 (by simp only [St.go];omega)).keep (((zf.refl (zm w.heap.size) _).mine _ _).mine _ _) (by unfold zm;omega)
    ·exact ((((((((zf.refl _ _).mine _ _).alloc _).drewN _).trans ((zb HO3).mono (fun _ _ f=>f.elim))).mine _ _).fresh ⟨w.heap.size,0,none⟩ (Nat.le_refl _) _).fresh ⟨w.heap.size,1,none⟩ (Nat.le_refl _) _)
end
end Go.Proofs.YtnagphodmfejiaaGreatDoor
