/- Plain: groups of characters between cuts. -/
import Derived.Lib.ItoaNum
import Derived.Test.YtcgleficedipkaaGreatDoorYPrgEPrgH
namespace Go.Proofs.YtcgleficedipkaaGreatDoor
variable {cs:List Int}{c d:Int}{u:Nat}{W:Int->Bool}{L:List (Int×Int)}
section
open Eqv (inSp)
namespace Fnd
def grp (cs:List Int)(c:Int):Nat:=cs.countP (fun x=>decide (x<=c))
theorem grp_le (h:c<=d):∀ cs:List Int,grp cs c<=grp cs d:=fun cs=>by
 unfold grp;exact List.countP_mono_left (fun x _ hx=>by simp at hx ⊢;omega)
theorem WG {c d:Int}(h:c<=d):∀ cs:List Int,grp cs c=grp cs d->∀ x∈cs,x<=d->x<=c
 | [],_,x,hx,_=>by simp at hx
 |y :: r,e,x,hx,hd=>by
  have hle:=grp_le h r;have e1:grp (y :: r) c=grp r c+if y<=c then 1 else 0:=by unfold grp;rw [List.countP_cons];simp
  have e2:grp (y :: r) d=grp r d+if y<=d then 1 else 0:=by unfold grp;rw [List.countP_cons];simp
  rw [e1,e2] at e;have hy:y<=d->y<=c:=fun hd=>by
   rw [if_pos hd] at e;split at e
   ·assumption
   ·omega
  rcases qP.1 hx with rfl |hx
  ·exact hy hd
  ·refine WG h r ?_ x hx hd;by_cases hc:y<=c
   ·rw [if_pos hc,if_pos (by omega)] at e;omega
   ·have hnd:¬y<=d:=fun q=>hc (hy q);rw [if_neg hc,if_neg hnd] at e;omega
theorem ZV (h:grp cs c=grp cs d):∀ x∈cs,(x<=c↔x<=d):=fun x hx=>by
 rcases Int.le_total c d with hcd |hcd
 ·exact ⟨fun q=>by omega,WG hcd cs h x hx⟩
 ·exact ⟨WG hcd cs h.symm x hx,fun q=>by omega⟩
theorem alike {sp:List (Int×Int)}{cs:List Int}{c d:Int}(hb:∀ x∈sp,x.1∈cs/\x.2+1∈cs)(h:grp cs c=grp cs d):inSp sp c=inSp sp d:=by
 rw [YH,Cs.qv,Cs.qv];constructor
 ·rintro ⟨x,hx,h1,h2⟩;have a:=(ZV h x.1 (hb x hx).1).1 h1;have b:=ZV h (x.2+1) (hb x hx).2;exact ⟨x,hx,a,by omega⟩
 ·rintro ⟨x,hx,h1,h2⟩;have a:=(ZV h x.1 (hb x hx).1).2 h1;have b:=ZV h (x.2+1) (hb x hx).2;exact ⟨x,hx,a,by omega⟩
theorem grp_at (hs:cs.Pairwise (· < ·)){c:Int}{i:Nat}(hi:∀ (j:Nat) x,cs[j]?=some x->(j<i↔x<c))(hl:i<=cs.length):grp cs c=if cs[i]?=some c then i+1 else i:=by
 have key:∀ (cs:List Int) (i:Nat),cs.Pairwise (· < ·)->(∀ (j:Nat) x,cs[j]?=some x->(j<i↔x<c))->i<=cs.length->grp cs c=if cs[i]?=some c then i+1 else i:=by
  intro cs
  induction cs with
  |nil=>intro i _ _ hl;simp at hl;subst hl;rfl
  |cons y r ih=>
   intro i hp hi hl;have e1:grp (y :: r) c=grp r c+if y<=c then 1 else 0:=by unfold grp;rw [List.countP_cons];simp
   obtain ⟨hp1,hp2⟩:=kg.1 hp;have h0:=hi 0 y rfl;cases i with
   |zero=>
    have hyc:¬y<c:=fun q=>(by have:=h0.2 q;omega);have hr:grp r c=0:=by
     unfold grp;rw [List.countP_eq_zero];intro x hx;have:=hp1 x hx;simp;omega
    rw [e1,hr];by_cases e:y=c
    ·subst e;simp
    ·rw [if_neg (by omega),if_neg (by simp;exact e)]
   |succ i=>
    have hyc:y<c:=h0.1 (by omega);have h2:=ih i hp2 (fun j x hj=>by have:=hi (j+1) x (by simpa using hj);rw [<-this];omega) (by simp at hl;omega);rw [e1,h2,if_pos (by omega:y<=c),List.getElem?_cons_succ];split<;>omega
 exact key cs i hs hi hl
end Fnd
namespace Fnd
open Go.Lib (decDigits)
theorem qx (h:u<10):decDigits u=[UInt8.ofNat (48+u)]:=by rw [decDigits,dif_pos h]
theorem ku (h:¬u<10):decDigits u=decDigits (u / 10)++[UInt8.ofNat (48+u % 10)]:=by rw [decDigits,dif_neg h]
theorem Q4 {a b:Nat}(ha:a<10)(hb:b<10)(h:UInt8.ofNat (48+a)=UInt8.ofNat (48+b)):a=b:=by
 have:=congrArg UInt8.toNat h;simp only [UInt8.toNat_ofNat'] at this;omega
theorem vY:∀ (n u:Nat),u<n->(32:UInt8)∉decDigits u
 |0,_,h=>by omega
 |n+1,u,h=>by
  by_cases hu:u<10
  ·rw [qx hu];intro q;have q:=xf.1 q;have:=congrArg UInt8.toNat q;simp only [UInt8.toNat_ofNat'] at this;have e:(32:UInt8).toNat=32:=rfl;omega
  ·rw [ku hu];intro q;rcases qe.1 q with q |q
   ·exact vY n (u / 10) (by omega) q
   ·have q:=xf.1 q;have:=congrArg UInt8.toNat q;simp only [UInt8.toNat_ofNat'] at this;have e:(32:UInt8).toNat=32:=rfl;omega
theorem WH (u:Nat):decDigits u≠[]:=by
 by_cases hu:u<10
 ·rw [qx hu];simp
 ·rw [ku hu];simp
theorem zax:∀ (n u v:Nat),u<n->decDigits u=decDigits v->u=v
 |0,_,_,h,_=>by omega
 |n+1,u,v,h,e=>by
  by_cases hu:u<10
  ·by_cases hv:v<10
   ·rw [qx hu,qx hv] at e;exact Q4 hu hv (List.cons.inj e).1
   ·rw [qx hu,ku hv] at e;have hl:=congrArg List.length e;have:=List.length_pos_iff.2 (WH (v / 10));simp at hl;exact absurd hl (WH _)
  ·by_cases hv:v<10
   ·rw [ku hu,qx hv] at e;have hl:=congrArg List.length e;simp at hl;exact absurd hl (WH _)
   ·rw [ku hu,ku hv] at e;have:=List.append_inj' e rfl;have h1:=zax n (u / 10) (v / 10) (by omega) this.1;have h2:=Q4 (Nat.mod_lt _ (by decide)) (Nat.mod_lt _ (by decide)) (List.cons.inj this.2).1;omega
def keyP:List Nat->List UInt8
 | []=>[]
 |p :: r=>32 :: (decDigits p++keyP r)
theorem YA:∀ ps:List Nat,keyP ps=[]\/∃ t,keyP ps=32 :: t
 | []=>.inl rfl
 |_ :: _=>.inr ⟨_,rfl⟩
theorem cut_inj {a b s t:List UInt8}(ha:(32:UInt8)∉a)(hb:(32:UInt8)∉b)(hs:s=[]\/∃ x,s=32 :: x)(ht:t=[]\/∃ x,t=32 :: x)(h:a++s=b++t):a=b/\s=t:=by
 induction a generalizing b with
 |nil=>
  cases b with
  |nil=>exact ⟨rfl,h⟩
  |cons y b=>
   rcases hs with rfl |⟨x,rfl⟩
   ·simp at h
   ·simp at h;exact absurd (by rw [h.1];simp) hb
 |cons x a ih=>
  cases b with
  |nil=>
   rcases ht with rfl |⟨y,rfl⟩
   ·simp at h
   ·simp at h;exact absurd (by rw [<-h.1];simp) ha
  |cons y b=>
   simp only [jS,List.cons.injEq] at h;obtain ⟨e1,e2⟩:=ih (b:=b) (fun q=>ha (xp _ q)) (fun q=>hb (xp _ q)) h.2;exact ⟨by rw [h.1,e1],e2⟩
theorem K8:∀ (ps qs:List Nat),keyP ps=keyP qs->ps=qs
 | [],[],_=>rfl
 | [],_ :: _,h=>by simp [keyP] at h
 |_ :: _,[],h=>by simp [keyP] at h
 |p :: ps,q :: qs,h=>by
  simp only [keyP,List.cons.injEq,true_and] at h;obtain ⟨h1,h2⟩:=cut_inj (vY (p+1) p (by omega)) (vY (q+1) q (by omega)) (YA ps) (YA qs) h;rw [zax (p+1) p q (by omega) h1,K8 ps qs h2]
def keyS (b w:Bool)(ps:List Nat):List UInt8:=(if b then [94] else [])++(if w then [119] else [])++keyP ps
theorem keyS_inj {b w b' w':Bool}{ps ps':List Nat}(h:keyS b w ps=keyS b' w' ps'):b=b'/\w=w'/\ps=ps':=by
 unfold keyS at h;have hh:∀ (c:UInt8) (ps:List Nat) t,c≠32->keyP ps≠c :: t:=fun c ps t hc e=>by
  rcases YA ps with q |⟨x,q⟩
  ·rw [q] at e;cases e
  ·rw [q] at e;exact hc (List.cons.inj e).1.symm
 cases b<;>cases b'<;>cases w<;>cases w'<;>simp at h
 all_goals first
  |exact ⟨rfl,rfl,K8 _ _ h⟩
  |exact absurd h (hh _ _ _ (by decide))
  |exact absurd h.symm (hh _ _ _ (by decide))
end Fnd
open Sm (Stp Tree)
namespace Fnd
theorem rising_eq:∀ (js ks:List Nat),js.Pairwise (· < ·)->ks.Pairwise (· < ·)->(∀ j,j∈js↔j∈ks)->js=ks
 | [],[],_,_,_=>rfl
 | [],k :: ks,_,_,h=>absurd ((h k).2 (by simp)) (by simp)
 |j :: js,[],_,_,h=>absurd ((h j).1 (by simp)) (by simp)
 |j :: js,k :: ks,h1,h2,h=>by
  have a1:=kg.1 h1;have a2:=kg.1 h2;have e:j=k:=by
   rcases qP.1 ((h j).1 (by simp)) with e |m
   ·exact e
   ·rcases qP.1 ((h k).2 (by simp)) with e |m'
    ·exact e.symm
    ·have:=a1.1 k m';have:=a2.1 j m;omega
  subst e;rw [rising_eq js ks a1.2 a2.2 (fun x=>⟨fun hx=>?_,fun hx=>?_⟩)]
  ·rcases qP.1 ((h x).1 (xp _ hx)) with e |m
   ·have:=a1.1 x hx;omega
   ·exact m
  ·rcases qP.1 ((h x).2 (xp _ hx)) with e |m
   ·have:=a2.1 x hx;omega
   ·exact m
structure St where
 b:Bool
 w:Bool
 ps:List Nat
def rch (N:List Stp)(s:St)(e n:Bool)(q:Nat):Prop:=∃ p∈s.ps,Prg.GE N (Prg.qJ s.b e s.w n) p q
def fst (st:Nat):St:=⟨true,false,[st]⟩
open Classical in
noncomputable def aft (N:List Stp)(st:Nat)(W:Int->Bool)(s:St)(c:Int):St:=
 if rch N s false (W c) 0 then ⟨false,false,[0]⟩ else ⟨false,W c,(List.range N.length).filter (fun q=>decide (q=st\/∃ a,rch N s false (W c) a/\Prg.xG N c a=some q))⟩
def hit (N:List Stp)(s:St):Prop:=rch N s true false 0
structure St.OK (N:List Stp)(s:St):Prop where
 ne:0<s.ps.length
 up:s.ps.Pairwise (· < ·)
 lt:∀ p∈s.ps,p<N.length
theorem St.OK.len {N:List Stp}{s:St}(h:s.OK N):s.ps.length<=N.length:=by
 have h1:=h.up;have h2:=h.lt;generalize s.ps=ps at h1 h2;have key:∀ (ps:List Nat) (a n:Nat),ps.Pairwise (· < ·)->(∀ p∈ps,a<=p/\p<n)->a<=n->ps.length<=n-a:=by
  intro ps
  induction ps with
  |nil=>intro a n _ _ _;simp
  |cons y r ih=>
   intro a n hp hb _;obtain ⟨p1,p2⟩:=kg.1 hp;have hy:=hb y (by simp);have:=ih (y+1) n p2 (fun x hx=>⟨by have:=p1 x hx;omega,(hb x (by simp [hx])).2⟩) (by omega);simp only [qH];omega
 have:=key ps 0 N.length h1 (fun p hp=>⟨by omega,h2 p hp⟩) (by omega);omega
theorem fst_ok {N:List Stp}{st:Nat}(h:st<N.length):(fst st).OK N:=⟨by simp [fst],by simp [fst],fun p hp=>by simp [fst] at hp;omega⟩
theorem rch_of {N:List Stp}{H:Int->Bool}{bs rs:List Nat}(h1:∀ p∈bs,p∈rs)(h2:∀ q∈rs,∃ p∈bs,Prg.GE N H p q)(h3:∀ a∈rs,∀ t,Prg.epsB N H a t->t∈rs)(q:Nat):q∈rs↔∃ p∈bs,Prg.GE N H p q:=
 Sm.Y6 h1 h2 (fun a ha b hb=>h3 a ha b hb) q
theorem aft_yes {N:List Stp}{st:Nat}{W:Int->Bool}{s:St}{c:Int}(h:rch N s false (W c) 0):aft N st W s c=⟨false,false,[0]⟩:=by unfold aft;rw [if_pos h]
theorem wU {N:List Stp}{st:Nat}{W:Int->Bool}{s:St}{c:Int}(h:¬rch N s false (W c) 0)(q:Nat):q∈(aft N st W s c).ps↔q<N.length/\(q=st\/∃ a,rch N s false (W c) a/\Prg.xG N c a=some q):=by
 unfold aft;rw [if_neg h];simp [List.mem_filter,List.mem_range]
theorem aft_b (N:List Stp)(st:Nat)(W:Int->Bool)(s:St)(c:Int):(aft N st W s c).b=false:=by
 unfold aft;split<;>rfl
theorem aft_w {N:List Stp}{st:Nat}{W:Int->Bool}{s:St}{c:Int}(h:¬rch N s false (W c) 0):(aft N st W s c).w=W c:=by unfold aft;rw [if_neg h]
theorem aft_ok {N:List Stp}{st:Nat}(W:Int->Bool)(s:St)(c:Int)(h:st<N.length):(aft N st W s c).OK N:=by
 by_cases h0:rch N s false (W c) 0
 ·rw [aft_yes h0];exact ⟨by simp,by simp,fun p hp=>by simp at hp;omega⟩
 ·refine ⟨List.length_pos_of_mem ((wU h0 st).2 ⟨h,.inl rfl⟩),?_,fun p hp=>((wU h0 p).1 hp).1⟩;unfold aft;rw [if_neg h0];exact (List.pairwise_lt_range (n:=N.length)).filter _
theorem aft_is {N:List Stp}{st:Nat}{W:Int->Bool}{s:St}{c:Int}{rs ps':List Nat}(hst:st<N.length)(hf:∀ (k:Nat) s,N[k]?=some s->s.next<N.length/\s.other<N.length)(hr:∀ q,q∈rs↔rch N s false (W c) q)(h0:0∉rs)(hu:ps'.Pairwise (· < ·))(hp:∀ q,q∈ps'↔q∈Prg.xo N c rs\/q=st):aft N st W s c=⟨false,W c,ps'⟩:=by
 have hn:¬rch N s false (W c) 0:=fun h=>h0 ((hr 0).2 h);have e1:=aft_b N st W s c;have e2:=aft_w (st:=st) hn;have e3:(aft N st W s c).ps=ps':=by
  refine rising_eq _ _ (aft_ok W s c hst).up hu (fun q=>?_);rw [wU hn,hp,Prg.YO];constructor
  ·rintro ⟨h1,rfl |⟨a,ha,hx⟩⟩
   ·exact .inr rfl
   ·refine .inl ⟨a,(hr a).2 ha,?_⟩;unfold Prg.xG at hx;split at hx
    ·rename_i x hs;split at hx
     ·rename_i hpx;exact ⟨x,hs,hpx,(qu hx).symm⟩
     ·cases hx
    ·cases hx
  ·rintro (⟨a,ha,x,hs,hpx,rfl⟩ |rfl)
   ·exact ⟨(hf a x hs).1,.inr ⟨a,(hr a).1 ha,by simp [Prg.xG,hs,hpx]⟩⟩
   ·exact ⟨hst,.inl rfl⟩
 revert e1 e2 e3
 cases aft N st W s c;rintro rfl rfl rfl;rfl
theorem K9 (N:List Stp)(st:Nat)(W:Int->Bool)(s:St)(c d:Int)(h:¬rch N s false (W c) 0)(h':¬rch N s false (W d) 0)(e:∀ q,(∃ a,rch N s false (W c) a/\Prg.xG N c a=some q)=(∃ a,rch N s false (W d) a/\Prg.xG N d a=some q)):(aft N st W s c).ps=(aft N st W s d).ps:=by
 unfold aft;rw [if_neg h,if_neg h'];exact List.filter_congr (fun q _=>decide_eq_decide.2 (by rw [e q]))
theorem aft_alike {N:List Stp}{st:Nat}{W:Int->Bool}{s:St}{c d:Int}(hW:W c=W d)(hs:∀ x∈N,Prg.setP x c=Prg.setP x d):aft N st W s c=aft N st W s d:=by
 have e:∀ a,Prg.xG N c a=Prg.xG N d a:=fun a=>by
  unfold Prg.xG;split
  ·rename_i x hx;rw [hs x (xP hx)]
  ·rfl
 have e2:(fun q=>∃ a,rch N s false (W c) a/\Prg.xG N c a=some q)=(fun q=>∃ a,rch N s false (W d) a/\Prg.xG N d a=some q):=by
  funext q;rw [hW];simp only [e]
 have e3:=congrFun e2;by_cases h0:rch N s false (W c) 0
 ·rw [aft_yes h0,aft_yes (hW ▸ h0)]
 ·have h0':¬rch N s false (W d) 0:=hW ▸ h0;have e4:(aft N st W s c).ps=(aft N st W s d).ps:=K9 N st W s c d h0 h0' e3;have e5:=aft_b N st W s c;have e6:=aft_b N st W s d;have e7:=aft_w (st:=st) h0;have e8:=aft_w (st:=st) h0'
  revert e4 e5 e6 e7 e8
  cases aft N st W s c;cases aft N st W s d;rintro rfl rfl rfl rfl h8;simp only at h8 ⊢;rw [hW,h8]
noncomputable def run (N:List Stp)(st:Nat)(W:Int->Bool)(L:List (Int×Int)):Nat->St
 |0=>fst st
 |k+1=>aft N st W (run N st W L k) (Pro.zf L k)
theorem ge_iff {N:List Stp}{m a b:Nat}:Prg.GE N (Prg.jb W L m) a b↔Prg.GoP W L N a m b m:=by
 refine ⟨Prg.GE_at,?_⟩;rintro ⟨k,h⟩
 induction k generalizing a with
 |zero=>obtain ⟨rfl,_⟩:=h;exact Prg.GE.refl _ _ _
 |succ k ih=>
  obtain ⟨p',i',⟨s,hs,h1⟩,h2⟩:=h;rcases h1 with ⟨_,_,_,e⟩ |⟨k1,k2,k3,e⟩ |⟨k1,k2,e⟩
  ·have:=Sm.Run.le h2;omega
  ·subst e;exact Sm.Goes.head ⟨s,hs,.inr (.inl ⟨k1,k2,k3,rfl⟩)⟩ (ih h2)
  ·subst e;exact Sm.Goes.head ⟨s,hs,.inr (.inr ⟨k1,k2,rfl⟩)⟩ (ih h2)
theorem Va {N:List Stp}{m a b:Nat}(hm:m<L.length):Prg.xG N (Pro.zf L m) a=some b↔Sm.tkr (Prg.lfP L) N a m b:=by
 have h:=Prg.take_all (N:=N) (rs:=[a]) hm b;unfold Prg.xo at h;simp only [List.mem_filterMap,xf,exists_eq_left] at h;exact h
def Sees (W:Int->Bool)(L:List (Int×Int))(N:List Stp)(st k:Nat)(s:St):Prop:=(Sm.VO (Prg.lfP L) (Prg.ahP W L) N st k/\s.ps=[0])\/(¬Sm.VO (Prg.lfP L) (Prg.ahP W L) N st k/\Sm.Stands (Prg.lfP L) (Prg.ahP W L) N st k s.ps/\s.b=decide (k=0)/\s.w=Prg.befB W L k)
theorem sees {W:Int->Bool}{L:List (Int×Int)}{N:List Stp}{st:Nat}(hst:st<N.length)(hf:∀ (k:Nat) s,N[k]?=some s->s.next<N.length/\s.other<N.length):∀ k,k<=L.length->Sees W L N st k (run N st W L k)
 |0,_=>.inr ⟨fun ⟨_,h,_⟩=>absurd h (Nat.not_lt_zero _),Sm.Ky N st,rfl,rfl⟩
 |k+1,hk=>by
  have hkl:k<L.length:=by omega
  have ih:=sees (W:=W) (L:=L) hst hf k (by omega);show Sees W L N st (k+1) (aft N st W (run N st W L k) (Pro.zf L k));generalize run N st W L k=s at ih;rcases ih with ⟨hE,hp⟩ |⟨hE,hS,hb,hw⟩
  ·have h0:rch N s false (W (Pro.zf L k)) 0:=⟨0,by rw [hp];simp,Prg.GE.refl _ _ _⟩
   rw [aft_yes h0];exact .inl ⟨Sm.km.2 (.inl hE),rfl⟩
  ·have hh:Prg.qJ s.b false s.w (W (Pro.zf L k))=Prg.jb W L k:=by
    funext a;unfold Prg.jb Prg.aftB;rw [hb,hw,decide_eq_false (by omega:¬k=L.length),decide_eq_true (by omega:k≠L.length)];simp
   have hr:∀ q,rch N s false (W (Pro.zf L k)) q↔Sm.Come (Prg.lfP L) (Prg.ahP W L) N st k q:=fun q=>by
    unfold rch;rw [hh,<-hS q];exact exists_congr (fun p=>and_congr_right (fun _=>ge_iff))
   by_cases h0:rch N s false (W (Pro.zf L k)) 0
   ·rw [aft_yes h0];exact .inl ⟨Sm.km.2 (.inr ((hr 0).1 h0)),rfl⟩
   ·refine .inr ⟨fun f=>?_,fun q=>?_,aft_b ..,?_⟩
    ·rcases Sm.km.1 f with f |f
     ·exact hE f
     ·exact h0 ((hr 0).2 f)
    ·constructor
     ·rintro ⟨p,hp,g⟩;obtain ⟨_,rfl |⟨a,ha,hx⟩⟩:=(wU h0 p).1 hp
      ·exact ⟨k+1,z8 _,g⟩
      ·obtain ⟨i0,hi0,g0⟩:=(hr a).1 ha;exact ⟨i0,by omega,(Sm.wP hi0).2 ⟨a,p,g0,(Va hkl).1 hx,g⟩⟩
     ·rintro ⟨i0,hi0,g⟩;by_cases e:i0=k+1
      ·subst e;exact ⟨st,(wU h0 st).2 ⟨hst,.inl rfl⟩,g⟩
      ·obtain ⟨a,b,g1,ht,g2⟩:=(Sm.wP (at':=k) (by omega)).1 g;refine ⟨b,(wU h0 b).2 ⟨?_,.inr ⟨a,(hr a).2 ⟨i0,by omega,g1⟩,(Va hkl).2 ht⟩⟩,g2⟩;obtain ⟨x,hx,_,_,rfl⟩:=ht;exact (hf a x hx).1
    ·rw [aft_w h0];unfold Prg.befB;simp
theorem found_iff {N:List Stp}{st:Nat}(hst:st<N.length)(hf:∀ (k:Nat) s,N[k]?=some s->s.next<N.length/\s.other<N.length):hit N (run N st W L L.length)↔∃ i j,i<=L.length/\j<=L.length/\Prg.GoP W L N st i 0 j:=by
 have h:=sees (W:=W) (L:=L) hst hf L.length (z8 _);generalize run N st W L L.length=s at h;rw [<-Sm.zcB];rcases h with ⟨hE,hp⟩ |⟨hE,hS,hb,hw⟩
 ·exact ⟨fun _=>Sm.km.2 (.inl hE),fun _=>⟨0,by rw [hp];simp,Prg.GE.refl _ _ _⟩⟩
 ·have hh:Prg.qJ s.b true s.w false=Prg.jb W L L.length:=by
   funext a;unfold Prg.jb Prg.aftB;rw [hb,hw];simp
  rw [Sm.km];have e:hit N s↔Sm.Come (Prg.lfP L) (Prg.ahP W L) N st L.length 0:=by
   unfold hit rch;rw [hh,<-hS 0];exact exists_congr (fun p=>and_congr_right (fun _=>ge_iff))
  rw [e];exact ⟨.inr,fun f=>f.elim (fun g=>absurd g hE) id⟩
end Fnd
end
section
open Go.RowKit
set_option maxHeartbeats 1600000
theorem Vb {M:Int}:∀ (cs:List Int) (a:Int),cs.Pairwise (· < ·)->(∀ x∈cs,a<=x/\x<=M)->a<=M+1->(cs.length:Int)<=M+1-a
 | [],a,_,_,h=>by simp;omega
 |y :: r,a,hp,hb,_=>by
  obtain ⟨h1,h2⟩:=kg.1 hp;have hy:=hb y (by simp);have:=Vb r (y+1) h2 (fun x hx=>⟨by have:=h1 x hx;omega,(hb x (by simp [hx])).2⟩) (by omega);simp only [qH];omega
def CutSl (w:World)(v:Value)(cs:List Int):Prop:=(v = .slice none 0 0/\cs=[])\/∃ g cap,v = .slice (some ⟨g,0,none⟩) cs.length cap/\∀ (j:Nat) x,cs[j]?=some x->w.cell? ⟨g,j,none⟩=some (.int .i32 x)
theorem rise_at (hs:cs.Pairwise (· < ·)){i j:Nat}{x y:Int}(hi:cs[i]?=some x)(hj:cs[j]?=some y)(h:i<j):x<y:=by
 obtain ⟨h1,rfl⟩:=yd.1 hi;obtain ⟨h2,rfl⟩:=yd.1 hj;exact Zs.1 hs i j h1 h2 h
theorem zay (hs:cs.Pairwise (· < ·)){i j:Nat}{x y:Int}(hi:cs[i]?=some x)(hj:cs[j]?=some y)(h:i<=j):x<=y:=by
 by_cases e:i=j
 ·subst e;cases hi.symm.trans hj;omega
 ·have:=rise_at hs hi hj (by omega);omega
theorem X8 (x:Int)(w:World):Calls Tryz.prog 211 #[.int .i32 x] w fun e w'=>e = .returned (.bool false)/\w'=w:=by
 go_enter Tryz.func211,Tryz.ntmps211;go_wp2_with fail;go_ret;exact ⟨by simp,rfl⟩
theorem bs_any (v:Value)(cs:List Int)(c:Int)(w:World)(h:CutSl w v cs)(hs:cs.Pairwise (· < ·))(hl:cs.length<=1114113) :
  Calls Tryz.prog 173 #[v,.int .i32 c] w fun e w'=>∃ i:Nat,e = .returned (.tuple #[.int .i64 i,.bool (decide (cs[i]?=some c))])/\i<=cs.length/\(∀ (j:Nat) x,cs[j]?=some x->(j<i↔x<c))/\w'=w:=by
 obtain ⟨pa,pc,rfl,HC⟩:∃ pa pc,v = .slice pa cs.length pc/\Hid (cs.length≠0->∃ g,pa=some ⟨g,0,none⟩/\∀ (j:Nat) x,cs[j]?=some x->w.cell? ⟨g,j,none⟩=some (.int .i32 x)):=by
  rcases h with ⟨rfl,rfl⟩ |⟨g,cap,rfl,h3⟩
  ·exact ⟨none,0,rfl,fun h=>absurd rfl h⟩
  ·exact ⟨_,_,rfl,fun _=>⟨g,rfl,h3⟩⟩
 have HR:=zc hs;clear h hs;go_enter Tryz.func173,Tryz.ntmps173;go_wp2_with fail;go_loopw [7,8] (fun ki kj wr=>wr=w/\∃ i j:Nat,ki = .int .i64 i/\kj = .int .i64 j/\i<=j/\j<=cs.length/\Hid ((∀ (t:Nat) x,t<i->cs[t]?=some x->x<c)/\∀ (t:Nat) x,j<=t->cs[t]?=some x->c<=x)) (fun ki kj _=>(intOf kj-intOf ki).toNat)
 case atStart=>exact ⟨rfl,0,cs.length,rfl,rfl,by omega,by omega,fun t x ht=>by omega,fun t x ht hx=>by have:=(yd.1 hx).1;omega⟩
 case round=>
  obtain ⟨rfl,i,j,rfl,rfl,hij,hjl,HN⟩:=hrel;by_cases hlt:i<j
  ·obtain ⟨g,rfl,hcells⟩:=zb HC (by omega);have hm:(i+j) / 2<cs.length:=(by omega);have hget:cs[(i+j) / 2]?=some cs[(i+j) / 2]:=zD hm;have c1:=hcells _ _ hget;clear hcells;have HG:=zc hget;clear hget;generalize cs[(i+j) / 2]=y at *;by_cases hy:y<c
   ·have HN1:Hid ((∀ (t:Nat) x,t<(i+j) / 2+1->cs[t]?=some x->x<c)/\∀ (t:Nat) x,j<=t->cs[t]?=some x->c<=x):=⟨fun t x ht hx=>by have:=zay (zb HR) hx (zb HG) (by omega);omega,(zb HN).2⟩
    have hb:Sort.ltInt y c=true:=(by simp [Sort.ltInt,hy]);clear hy;go_wp2_with (go_at_call 205;refine (zz _ _ _).mono ?_;rw [hb];rintro e wq ⟨rfl,hwq⟩;obtain rfl:=hwq.symm;clear hwq);exact ⟨⟨trivial,(i+j) / 2+1,j,by rw [show ((i:Int)+(j:Int)) / 2+1=(((i+j) / 2+1:Nat):Int) by omega],rfl,by omega,hjl,HN1⟩,by simp [intOf];omega⟩
   ·have HN1:Hid ((∀ (t:Nat) x,t<i->cs[t]?=some x->x<c)/\∀ (t:Nat) x,(i+j) / 2<=t->cs[t]?=some x->c<=x):=⟨(zb HN).1,fun t x ht hx=>by have:=zay (zb HR) (zb HG) hx ht;omega⟩
    have hb:Sort.ltInt y c=false:=(by simp [Sort.ltInt];omega);clear hy;go_wp2_with (go_at_call 205;refine (zz _ _ _).mono ?_;rw [hb];rintro e wq ⟨rfl,hwq⟩;obtain rfl:=hwq.symm;clear hwq);exact ⟨⟨trivial,i,(i+j) / 2,rfl,by rw [show ((i:Int)+(j:Int)) / 2=(((i+j) / 2:Nat):Int) by omega],by omega,by omega,HN1⟩,by simp [intOf];omega⟩
  ·obtain rfl:i=j:=(by omega);have HJ:Hid (∀ (j:Nat) x,cs[j]?=some x->(j<i↔x<c)):=fun j x hx=>⟨fun h=>(zb HN).1 j x h hx,fun h=>by
    by_cases hji:j<i
    ·exact hji
    ·have:=(zb HN).2 j x (by omega) hx;omega⟩
   by_cases hn:i<cs.length
   ·obtain ⟨g,rfl,hcells⟩:=zb HC (by omega);have hget:cs[i]?=some cs[i]:=zD hn;have c1:=hcells _ _ hget;clear hcells;have HG:=zc hget;clear hget;generalize cs[i]=y at *;by_cases hy:y=c
    ·have hb:(y == c)=true:=(by simp [hy]);have HE:Hid (decide (cs[i]?=some c)=true):=(by show _=_;rw [zb HG,hy];simp);clear hy;go_wp2_with (go_at_call 211;refine Q7 (X8 _ _) ?_);go_ret2;exact ⟨i,by rw [zb HE];rfl,by omega,zb HJ,rfl⟩
    ·have hb:(y == c)=false:=(by simp [hy]);have HE:Hid (decide (cs[i]?=some c)=false):=(by show _=_;rw [zb HG];simp [hy]);clear hy;go_wp2_with (go_at_call 211;refine Q7 (X8 _ _) ?_);go_ret2;exact ⟨i,by rw [zb HE];rfl,by omega,zb HJ,rfl⟩
   ·have HE:Hid (decide (cs[i]?=some c)=false):=(by show _=_;rw [jF (by omega)];simp);go_wp2_with fail;go_ret2;exact ⟨i,by rw [zb HE];rfl,by omega,zb HJ,rfl⟩
end
end Go.Proofs.YtcgleficedipkaaGreatDoor
