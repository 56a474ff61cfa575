/- The sizes that the reader tells are the sizes of its trees: plain. -/
import Derived.Test.YtfnkbmglodopkaaGreatDoorZSemGSemI
namespace Go.Proofs.YtfnkbmglodopkaaGreatDoor
section
open Sm (Tree capT)
namespace Pro
def j6 (T:Tree)(v:Int):Prop:=∃ F0,∀ F,F0≤F→capT F T=v
def kr (ts:List Tree)(zs:List Int):Prop:=∃ F0,∀ F,F0≤F→ts.map (capT F)=zs
theorem ZW {T:Tree}(h:T.kind≤4):j6 T 1:=⟨1,fun F hF=>by
 obtain ⟨g,rfl⟩:∃ g,F=g+1:=⟨F-1,by omega⟩
 unfold capT
 rw [if_neg (by omega),if_neg (by omega),if_neg (by omega)]⟩
theorem sz_nil:kr [] []:=⟨0,fun _ _=>rfl⟩
theorem kr.snoc {ts:List Tree}{zs:List Int}{t:Tree}{z:Int}:kr ts zs→j6 t z→kr (ts++[t]) (zs++[z])
 |⟨F0,h⟩,⟨F1,g⟩=>⟨max F0 F1,fun F hF=>by rw [List.map_append,h F (by omega)];simp [g F (by omega)]⟩
theorem sz_seq {ts:List Tree}{zs:List Int}:kr ts zs→j6 (tSeq ts) (sumS 0 zs)
 |⟨F0,h⟩=>⟨F0+1,fun F hF=>by
  obtain ⟨g,rfl⟩:∃ g,F=g+1:=⟨F-1,by omega⟩
  conv=>lhs;unfold capT
  rw [if_neg (by simp [tSeq]),if_pos (by rfl)]
  show sumS 0 (ts.map (capT g))=_
  rw [h g (by omega)]⟩
theorem kr.len {ts:List Tree}{zs:List Int}:kr ts zs→ts.length=zs.length
 |⟨F0,h⟩=>by rw [←h F0 (Nat.le_refl _)];simp
theorem sz_alt {ts:List Tree}{zs:List Int}(hz:kr ts zs):j6 (tAlt ts) (min (sumS 0 zs+zs.length-1) 301):=by
 have hl:=hz.len
 obtain ⟨F0,h⟩:=hz
 refine ⟨F0+1,fun F hF=>?_⟩
 obtain ⟨g,rfl⟩:∃ g,F=g+1:=⟨F-1,by omega⟩
 conv=>lhs;unfold capT
 rw [if_pos (by rfl)]
 show min (sumS 0 (ts.map (capT g))+(ts.length:Int)-1) 301=_
 rw [h g (by omega),hl]
theorem sz_rep {t:Tree}{z:Int}(l m:Int):j6 t z→j6 (tRep t l m) (min (repS z l m) 301)
 |⟨F0,h⟩=>⟨F0+1,fun F hF=>by
  obtain ⟨g,rfl⟩:∃ g,F=g+1:=⟨F-1,by omega⟩
  conv=>lhs;unfold capT
  rw [if_neg (by simp [tRep]),if_neg (by simp [tRep]),if_pos (by rfl)]
  show min (repS (capT g t) l m) 301=_
  rw [h g (by omega)]⟩
section
variable {L:List (Int×Int)} {len:Int}
theorem let_lt {n:Nat}{c:Int}(h:ze L n=c)(hc:0≤c):n<L.length:=by
 by_cases hl:n<L.length
 ·exact hl
 ·rw [xE (by omega)] at h;omega
theorem atomT_sz {D:Nat→Out}{DT:Nat→Tree}(hD:∀ n,n<L.length→(D n).k=0→j6 (DT n) (D n).v)(n:Nat)(hk:(zT L len D n).k=0):j6 (xr L len DT n) (zT L len D n).v:=by
 unfold zT at hk ⊢
 unfold xr
 by_cases hw:Yg (ze L n)=true
 ·rw [if_pos hw] at hk;simp [bad] at hk
 ·rw [if_neg hw] at hk ⊢
  by_cases h1:ze L n=40
  ·rw [if_pos h1] at hk ⊢;rw [if_pos h1];exact hD n (let_lt (c:=40) h1 (by omega)) hk
  ·rw [if_neg h1] at hk ⊢;rw [if_neg h1]
   by_cases h2:ze L n=91
   ·rw [if_pos h2] at hk ⊢;rw [if_pos h2]
    unfold one at hk ⊢
    split at hk
    ·rename_i h3;rw [if_pos h3];exact ZW (by simp [xA,tCls])
    ·rename_i h3;exact absurd hk h3
   ·rw [if_neg h2] at hk ⊢;rw [if_neg h2]
    by_cases h3:ze L n=92
    ·rw [if_pos h3] at hk ⊢;rw [if_pos h3]
     unfold one at hk ⊢
     split at hk
     ·rename_i h4;rw [if_pos h4];unfold oneT;split<;>exact ZW (by simp [xi,xL])
     ·rename_i h4;exact absurd hk h4
    ·rw [if_neg h3] at hk ⊢;rw [if_neg h3]
     split<;>exact ZW (by simp [tAny,xL])
theorem termT_sz {D:Nat→Out}{DT:Nat→Tree}(hD:∀ n,n<L.length→(D n).k=0→j6 (DT n) (D n).v)(n:Nat)(hk:(yB L len D n).k=0):j6 (qO L len D DT n) (yB L len D n).v:=by
 unfold yB at hk ⊢
 unfold qO
 by_cases h0:asN L n≠0
 ·rw [if_pos h0,if_pos h0];exact ZW (by simp [tAsr])
 ·rw [if_neg h0] at hk ⊢;rw [if_neg h0]
  by_cases h1:(zT L len D n).k≠0
  ·rw [if_pos h1] at hk;exact absurd hk h1
  ·rw [if_neg h1] at hk ⊢
   have ha:=atomT_sz (L:=L) (len:=len) hD n (by simpa using h1)
   by_cases h2:(zC L len (zT L len D n).n).1=false
   ·rw [if_pos h2,if_pos h2];exact ha
   ·rw [if_neg h2] at hk ⊢;rw [if_neg h2]
    by_cases h3:(zC L len (zT L len D n).n).2.1.k≠0
    ·rw [if_pos h3] at hk;exact absurd hk h3
    ·rw [if_neg h3];exact sz_rep _ _ ha
theorem Xu {D:Nat→Out}{DT:Nat→Tree}(hD:∀ n,n<L.length→(D n).k=0→j6 (DT n) (D n).v):∀ (f:Nat) (ts:List Tree) (zs:List Int) (n:Nat),kr ts zs→(xg L len D f (sumS 0 zs) n).k=0→∃ zs',kr (qi L len D DT f ts n) zs'∧(xg L len D f (sumS 0 zs) n).v=sumS 0 zs'
 |0,_,zs,_,h,_=>⟨zs,h,rfl⟩
 |f+1,ts,zs,n,h,hk=>by
  unfold xg at hk ⊢
  unfold qi
  by_cases h0:wl L n=true
  ·rw [if_pos h0,if_pos h0];exact ⟨zs,h,rfl⟩
  ·rw [if_neg h0] at hk ⊢;rw [if_neg h0]
   by_cases h1:(yB L len D n).k≠0
   ·rw [if_pos h1] at hk;exact absurd hk h1
   ·rw [if_neg h1] at hk ⊢
    have ht:=termT_sz (L:=L) (len:=len) hD n (by simpa using h1)
    rw [←sumS_append] at hk ⊢
    exact Xu hD f _ _ _ (h.snoc ht) hk
theorem Wc {D:Nat→Out}{DT:Nat→Tree}(hD:∀ n,n<L.length→(D n).k=0→j6 (DT n) (D n).v)(n:Nat)(hk:(zH L len D n).k=0):j6 (xe L len D DT n) (zH L len D n).v:=by
 obtain ⟨zs,h1,h2⟩:=Xu hD (L.length+1-n) [] [] n sz_nil hk
 have e:(zH L len D n).v=sumS 0 zs:=h2
 rw [e]
 exact sz_seq h1
theorem KV {D:Nat→Out}{DT:Nat→Tree}(hO:DOK L D)(hD:∀ n,n<L.length→(D n).k=0→j6 (DT n) (D n).v):∀ (f:Nat) (ts:List Tree) (zs:List Int) (n:Nat),n≤L.length→L.length+1-n≤f→kr ts zs→(altO L len D f zs n).k=0→∃ zs',kr (altT L len D DT f ts n) zs'∧(altO L len D f zs n).v=min (sumS 0 zs'+zs'.length-1) 301
 |0,_,_,n,h,hf,_,_=>by omega
 |f+1,ts,zs,n,h,hf,hz,hk=>by
  unfold altO at hk ⊢
  unfold altT
  have hin:=wU (len:=len) hO n h
  by_cases h0:(zH L len D n).k≠0
  ·rw [if_pos h0] at hk;exact absurd hk h0
  ·rw [if_neg h0] at hk ⊢
   have ht:=Wc (L:=L) (len:=len) hD n (by simpa using h0)
   by_cases h1:ze L (zH L len D n).n=124
   ·rw [if_pos h1] at hk ⊢;rw [if_pos h1]
    have hl:=let_lt h1 (by omega)
    exact KV hO hD f _ _ _ (by omega) (by omega) (hz.snoc ht) hk
   ·rw [if_neg h1,if_neg h1]
    refine ⟨zs++[(zH L len D n).v],hz.snoc ht,?_⟩
    rw [List.length_append]
    rfl
theorem KW {D:Nat→Out}{DT:Nat→Tree}(hO:DOK L D)(hD:∀ n,n<L.length→(D n).k=0→j6 (DT n) (D n).v)(n:Nat)(hn:n≤L.length)(hk:(altP L len D n).k=0):j6 (altQ L len D DT n) (altP L len D n).v:=by
 obtain ⟨zs,h1,h2⟩:=KV hO hD (L.length+1-n) [] [] n hn (Nat.le_refl _) sz_nil hk
 have e:(altP L len D n).v=min (sumS 0 zs+zs.length-1) 301:=h2
 rw [e]
 exact sz_alt h1
theorem Js:∀ (r n:Nat),n<L.length→(zy L len r n).k=0→j6 (xI L len r n) (zy L len r n).v
 |0,_,_,hk=>by simp [zy,bad] at hk
 |r+1,n,hn,hk=>by
  have ho:=Yh (L:=L) (len:=len) n hn
  have e:zy L len (r+1) n=jN L len (altP L len (zy L len r)) n:=rfl
  rw [e] at hk ⊢
  unfold jN at hk ⊢
  by_cases h1:(zU L len n).k≠0
  ·rw [if_pos h1] at hk;exact absurd hk h1
  ·rw [if_neg h1] at hk ⊢
   by_cases h2:(altP L len (zy L len r) (zU L len n).n).k≠0
   ·rw [if_pos h2] at hk;exact absurd hk h2
   ·rw [if_neg h2] at hk ⊢
    by_cases h3:ze L (altP L len (zy L len r) (zU L len n).n).n=41
    ·rw [if_pos h3]
     exact KW (qe r) (fun n hn hk=>Js r n hn hk) _ (by omega) (by simpa using h2)
    ·rw [if_neg h3] at hk;simp [bad] at hk
theorem Jt (r n:Nat)(hn:n≤L.length)(hk:(altP L len (zy L len r) n).k=0):j6 (altQ L len (zy L len r) (xI L len r) n) (altP L len (zy L len r) n).v:=KW (qe r) (fun n hn hk=>Js r n hn hk) n hn hk
end
theorem j6.at {T:Tree}{v:Int}{F:Nat}(h:j6 T v)(hw:Sm.WF F T):capT F T=v:=by
 obtain ⟨F0,h0⟩:=h
 rw [←Sm.X7 hw (show F≤max F F0 by omega)]
 exact h0 _ (by omega)
end Pro
open Sm (Tree)
namespace Pro
def qp:Nat→Tree→Prop
 |0,_=>True
 |f+1,T=>(T.kind=4→T.rs.length≤1000∧T.ss.length≤1000)∧∀ t∈T.kids,qp f t
section
variable {L:List (Int×Int)} {len:Int}
theorem addR_ln (n:Nat)(R:List (Int×Int)):(addR L len n R).length≤R.length+1:=by
 unfold addR
 split
 ·simp
 ·split<;>simp
theorem addS_ln (n:Nat)(S:List Int):(addS L len n S).length≤S.length+1:=by
 unfold addS
 split
 ·simp
 ·split<;>simp
theorem Xv:∀ (f n:Nat) (R:List (Int×Int)) (S:List Int),(xz L len f n R S).1.length≤R.length+f∧(xz L len f n R S).2.length≤S.length+f
 |0,_,R,S=>⟨Nat.le_refl _,Nat.le_refl _⟩
 |f+1,n,R,S=>by
  unfold xz
  split
  ·exact ⟨Nat.le_add_right _ _,Nat.le_add_right _ _⟩
  ·have h1:=addR_ln (L:=L) (len:=len) n R
   have h2:=addS_ln (L:=L) (len:=len) n S
   have h3:=Xv f (addO L len n).n (addR L len n R) (addS L len n S)
   omega
theorem KX (c:Int):∀ f,qp f (xL c)
 |0=>trivial
 |f+1=>⟨fun e=>by simp [xL] at e,fun t ht=>by simp [xL] at ht⟩
theorem ln_short (c:Int):∀ f,qp f (xi c)
 |0=>trivial
 |f+1=>⟨fun e=>by simp [xi] at e,fun t ht=>by simp [xi] at ht⟩
theorem ln_any:∀ f,qp f tAny
 |0=>trivial
 |f+1=>⟨fun e=>by simp [tAny] at e,fun t ht=>by simp [tAny] at ht⟩
theorem ln_asr (a:Int):∀ f,qp f (tAsr a)
 |0=>trivial
 |f+1=>⟨fun e=>by simp [tAsr] at e,fun t ht=>by simp [tAsr] at ht⟩
theorem Qg {T:Tree}(hk:5≤T.kind)(h:∀ t∈T.kids,∀ f,qp f t):∀ f,qp f T
 |0=>trivial
 |f+1=>⟨fun e=>by omega,fun t ht=>h t ht f⟩
theorem Wd (hL:L.length≤400)(n:Nat):∀ f,qp f (xA L len n)
 |0=>trivial
 |f+1=>⟨fun _=>by
   have:=Xv (L:=L) (len:=len) (L.length+1-n) (if ze L (n+1)=94 then n+2 else n+1) [] []
   simp only [List.length_nil] at this
   simp only [xA,tCls]
   omega,fun t ht=>by simp [xA,tCls] at ht⟩
theorem Ju (hL:L.length≤400){DT:Nat→Tree}(hD:∀ n f,qp f (DT n))(n f:Nat):qp f (xr L len DT n):=by
 unfold xr
 split
 ·exact hD n f
 ·split
  ·exact Wd hL n f
  ·split
   ·unfold oneT
    split
    ·exact ln_short _ f
    ·exact KX _ f
   ·split
    ·exact ln_any f
    ·exact KX _ f
theorem termT_ln (hL:L.length≤400){D:Nat→Out}{DT:Nat→Tree}(hD:∀ n f,qp f (DT n))(n f:Nat):qp f (qO L len D DT n):=by
 unfold qO
 split
 ·exact ln_asr _ f
 ·split
  ·exact Ju hL hD n f
  ·refine Qg (by simp [tRep]) (fun t ht f=>?_) f
   obtain rfl:t=xr L len DT n:=by simpa [tRep] using ht
   exact Ju hL hD n f
theorem Xw (hL:L.length≤400){D:Nat→Out}{DT:Nat→Tree}(hD:∀ n f,qp f (DT n)):∀ (g:Nat) (ts:List Tree) (n:Nat),(∀ t∈ts,∀ f,qp f t)→∀ t∈qi L len D DT g ts n,∀ f,qp f t
 |0,_,_,h=>h
 |g+1,ts,n,h=>by
  unfold qi
  split
  ·exact h
  ·refine Xw hL hD g _ _ (fun t ht=>?_)
   rcases List.mem_append.1 ht with ht |ht
   ·exact h t ht
   ·obtain rfl:=List.mem_singleton.1 ht
    exact fun f=>termT_ln hL hD n f
theorem We (hL:L.length≤400){D:Nat→Out}{DT:Nat→Tree}(hD:∀ n f,qp f (DT n))(n f:Nat):qp f (xe L len D DT n):=
 Qg (by simp [xe,tSeq]) (Xw hL hD _ [] n (by simp)) f
theorem KY (hL:L.length≤400){D:Nat→Out}{DT:Nat→Tree}(hD:∀ n f,qp f (DT n)):∀ (g:Nat) (ts:List Tree) (n:Nat),(∀ t∈ts,∀ f,qp f t)→∀ t∈altT L len D DT g ts n,∀ f,qp f t
 |0,_,_,h=>h
 |g+1,ts,n,h=>by
  have h2:∀ t∈ts++[xe L len D DT n],∀ f,qp f t:=fun t ht=>by
   rcases List.mem_append.1 ht with ht |ht
   ·exact h t ht
   ·obtain rfl:=List.mem_singleton.1 ht
    exact fun f=>We hL hD n f
  unfold altT
  split
  ·exact KY hL hD g _ _ h2
  ·exact h2
theorem KZ (hL:L.length≤400){D:Nat→Out}{DT:Nat→Tree}(hD:∀ n f,qp f (DT n))(n f:Nat):qp f (altQ L len D DT n):=
 Qg (by simp [altQ,tAlt]) (KY hL hD _ [] n (by simp)) f
theorem Jv (hL:L.length≤400):∀ (r n f:Nat),qp f (xI L len r n)
 |0,_,f=>ln_any f
 |r+1,_,f=>KZ hL (fun n f=>Jv hL r n f) _ f
theorem Jw (hL:L.length≤400)(r n f:Nat):qp f (altQ L len (zy L len r) (xI L len r) n):=KZ hL (fun n f=>Jv hL r n f) n f
end
end Pro
end
end Go.Proofs.YtfnkbmglodopkaaGreatDoor
