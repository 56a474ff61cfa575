/- The program's machine that reads characters: its first byte, and its further ones. -/
import Derived.Test.YtcgleficedipkaaGreatDoorYProAProL
import Derived.Laws.BitsLemmas
import Derived.ScopeJumps
import Derived.RangeFuncWrites
import Derived.RangeFuncCalls
import Derived.RangeFuncNested
namespace Go.Proofs.YtcgleficedipkaaGreatDoor
open Option renaming none->U,some->I
open Value renaming int->M,bool->C,pointer->Ua,string->Uc
open IntKind renaming i64->J,i32->Ug
open Bool renaming false->Z,true->G
open _root_.Go.Proofs.Tryz renaming prog->V
open Go renaming World->E,Value->Y,Calls->Uh
open Go.RowKit renaming Hid->H
open Or renaming inr->O,inl->Q
open Ending renaming returned->R
open Pro
open _root_.Go.Proofs.Tryz
section
open Go.RowKit
set_option maxHeartbeats 2000000
structure xC (w:E)(b:Nat)(s:ByteArray)(nx p:Nat)(ch:Int):Prop where
 c0:w.cell? ⟨b,0,U⟩=I (Uc s)
 c1:w.cell? ⟨b,1,U⟩=I (M J nx)
 c2:w.cell? ⟨b,2,U⟩=I (M J p)
 c3:w.cell? ⟨b,3,U⟩=I (M Ug ch)
 f1:w.frozen? ⟨b,1,U⟩=Z
 f2:w.frozen? ⟨b,2,U⟩=Z
 f3:w.frozen? ⟨b,3,U⟩=Z
section
variable {w f:World} {b:Nat} {s:ByteArray} {r p:Nat} {ch:Int}
theorem xC.lt (h:xC w b s r p ch):b<w.heap.size:=zgF w ⟨b,0,U⟩ h.c0
theorem xC.keep {P:Nat->Prop}(h:xC w b s r p ch)(k:zf P w f)(a:¬P b):xC f b s r p ch:=
 ⟨(k.cell (p:=⟨b,0,U⟩) h.lt a).trans h.c0,(k.cell (p:=⟨b,1,U⟩) h.lt a).trans h.c1,(k.cell (p:=⟨b,2,U⟩) h.lt a).trans h.c2,(k.cell (p:=⟨b,3,U⟩) h.lt a).trans h.c3,
  (k.frozen (p:=⟨b,1,U⟩) h.lt a).trans h.f1,(k.frozen (p:=⟨b,2,U⟩) h.lt a).trans h.f2,(k.frozen (p:=⟨b,3,U⟩) h.lt a).trans h.f3⟩
theorem xC.drewN (h:xC w b s r p ch)(q:Nat):xC (w.drewN q) b s r p ch:=h.keep ((zf.refl (λ_=>False) w).drewN q) id
theorem xC.set1 (h:xC w b s r p ch)(n:Nat)(j:Int)(a:j=(n:Int)):xC (w.setCell ⟨b,1,U⟩ (M J j)) b s n p ch:=by subst a;exact⟨(zgI _ _ _ _ ov).trans h.c0,zgL _ _ _ h.c1,(zgI _ _ _ _ ov).trans h.c2,(zgI _ _ _ _ ov).trans h.c3,(zk _ _ _ _).trans h.f1,(zk _ _ _ _).trans h.f2,(zk _ _ _ _).trans h.f3⟩
theorem xC.set2 (h:xC w b s r p ch)(n:Nat)(j:Int)(a:j=(n:Int)):xC (w.setCell ⟨b,2,U⟩ (M J j)) b s r n ch:=by subst a;exact⟨(zgI _ _ _ _ ov).trans h.c0,(zgI _ _ _ _ ov).trans h.c1,zgL _ _ _ h.c2,(zgI _ _ _ _ ov).trans h.c3,(zk _ _ _ _).trans h.f1,(zk _ _ _ _).trans h.f2,(zk _ _ _ _).trans h.f3⟩
theorem xC.set3 (h:xC w b s r p ch)(j k:Int)(a:k=j):xC (w.setCell ⟨b,3,U⟩ (M Ug k)) b s r p j:=by subst a;exact⟨(zgI _ _ _ _ ov).trans h.c0,(zgI _ _ _ _ ov).trans h.c1,(zgI _ _ _ _ ov).trans h.c2,zgL _ _ _ h.c3,(zk _ _ _ _).trans h.f1,(zk _ _ _ _).trans h.f2,(zk _ _ _ _).trans h.f3⟩
end
namespace Pro
def qM (b:Int):Int:=if b<128 then b else if b<224 then b % 32 else if b<240 then b % 16 else b % 8
def jk (s:ByteArray)(r:Nat)(b a:Int):Bool:=decide (r<s.size) && decide (b<=zd s r) && decide (zd s r<=a)
theorem VJ {s:ByteArray}{r:Nat}{b a:Int}(h:r<s.size)(c:¬zd s r<b)(d:¬a<zd s r):jk s r b a=G:=by unfold jk;simp;omega
theorem Kf {s:ByteArray}{r:Nat}{b a:Int}(h:¬(r<s.size/\b<=zd s r/\zd s r<=a)):jk s r b a=Z:=by
 cases hb:jk s r b a with
 |false=>rfl
 |true=>unfold jk at hb;simp at hb;exact absurd ⟨hb.1.1,hb.1.2,hb.2⟩ h
end Pro
theorem lead_any (b:Nat)(s:ByteArray)(r p:Nat)(ch:Int)(w:E)(h:xC w b s r p ch)(S:s.size<=400)(k:r<s.size):Uh V 170 #[Ua (I ⟨b,0,U⟩)] w λx f=>x=R (M .u8 (zd s r))/\xC f b s (r+1) p (qM (zd s r))/\zf (zt b) w f:=by
 have m:=ze h;obtain⟨q,c1,t,u,f1,B,F⟩:=h;have c:=(zw s r).2 k;have L:=xj s r;have P:∀d,(Instr.index 9 (Uc s) (M J (r:Int))).run V d=.ok (M .u8 (zd s r)) d:=λd=>ZA s r k _ rfl d;have n:(zd s r<128/\H (qM (zd s r)=zd s r))\/(128<=zd s r/\zd s r<224/\H (qM (zd s r)=zd s r % 32))\/(128<=zd s r/\224<=zd s r/\zd s r<240/\H (qM (zd s r)=zd s r % 16))\/(128<=zd s r/\224<=zd s r/\240<=zd s r/\H (qM (zd s r)=zd s r % 8)):=by unfold qM;by_cases e:zd s r<128;left;rw[IN e];exact⟨e,rfl⟩;right;rw[iN e];by_cases g:zd s r<224;left;rw[IN g];exact⟨oa,g,rfl⟩;right;rw[iN g];by_cases i:zd s r<240;left;rw[IN i];exact⟨oa,oa,i,rfl⟩;right;rw[iN i];exact⟨oa,oa,oa,rfl⟩
 have y:=u8_and31 (zd s r) c oa;have v:=u8_and15 (zd s r) c oa;have z:=u8_and7 (zd s r) c oa;have N:IntKind.i32.wrap (zd s r)=zd s r:=wraps_i32 _ c oa;rcases n with⟨j,a⟩|⟨j,l,a⟩|⟨j,l,o,a⟩|⟨j,l,o,a⟩
 all_goals
  go_enter func170,ntmps170;go_wp2_with fail;go_quiet(fail);go_wp2_with fail;go_ret;refine⟨rfl,((m.drewN _).set1 (r+1) _ oa).set3 _ _ ?_,(((zf.refl _ _).drewN _).mine _ _).mine _ _⟩;rw[zb a]
  try rw[wraps_i32 _ oa oa]
theorem tail_any (b:Nat)(s:ByteArray)(r p:Nat)(ch c a:Int)(w:E)(h:xC w b s r p ch)(T:s.size<=400)(P:r<=s.size)(z:0<=ch)(B:ch<33554432)(N:128<=c)(F:a<=191):Uh V 171 #[Ua (I ⟨b,0,U⟩),M .u8 c,M .u8 a] w λx f=>zf (zt b) w f/\((jk s r c a=G/\x=R (C G)/\xC f b s (r+1) p (ch*64+zd s r-128))\/(jk s r c a=Z/\x=R (C Z)/\xC f b s r p ch)):=by
 have e:=ze h;obtain⟨n,c1,o,q,f1,u,v⟩:=h;by_cases i:r<s.size
 .have m:((r:Int) == (s.size:Int))=Z:=by simp;omega
  have l:=(zw s r).2 i;have y:=xj s r;have L:∀g,(Instr.index 9 (Uc s) (M J (r:Int))).run V g=.ok (M .u8 (zd s r)) g:=λg=>ZA s r i _ rfl g;by_cases j:zd s r<c
  .have d:H (jk s r c a=Z):=Kf oa;go_enter func171,ntmps171;go_wp2_with fail;go_quiet(fail);go_wp2_with fail;go_quiet(fail);go_wp2_with fail;go_ret;exact⟨by first|exact(zf.refl _ _).drewN _|exact((zf.refl _ _).drewN _).drewN _,O ⟨d,rfl,by first|exact e.drewN _|exact(e.drewN _).drewN _⟩⟩
  by_cases k:a<zd s r
  .have d:H (jk s r c a=Z):=Kf oa;go_enter func171,ntmps171;go_wp2_with fail;go_quiet(fail);go_wp2_with fail;go_quiet(fail);go_wp2_with fail;go_ret;exact⟨by first|exact(zf.refl _ _).drewN _|exact((zf.refl _ _).drewN _).drewN _,O ⟨d,rfl,by first|exact e.drewN _|exact(e.drewN _).drewN _⟩⟩
  (have d:H (jk s r c a=G):=VJ i j k;have t:=u8_and63 (zd s r) l oa;have S:bits BinOp.or IntKind.i32 (ch*64) (zd s r % 64)=ch*64+zd s r-128:=by rw[i32_or6 (ch*64) (zd s r % 64) oa oa oa oa oa];omega);go_enter func171,ntmps171;go_wp2_with fail;go_quiet(fail);go_wp2_with fail;go_quiet(fail);go_wp2_with fail;go_ret;exact⟨(((zf.refl _ _).drewN _).mine _ _).mine _ _,Q ⟨d,rfl,((e.drewN _).set1 (r+1) _ oa).set3 _ _ rfl⟩⟩
 have m:((r:Int) == (s.size:Int))=G:=by simp;omega
 have d:H (jk s r c a=Z):=Kf oa;go_enter func171,ntmps171;go_wp2_with fail;go_quiet(fail);go_wp2_with fail;go_ret;exact⟨(zf.refl _ _).drewN _,O ⟨d,rfl,e.drewN _⟩⟩
set_option maxHeartbeats 4000000
set_option maxRecDepth 1000000
def Exit.jumps (b:Nat->Act->E->Prop)(Q:Exit->Act->E->Prop):Exit->Act->E->Prop
 | .goto l,a,w=>b l a w
 |e,a,w=>Q e a w
theorem Vw {P:Program}{a:Act}{w:World}{Q:Exit->Act->World->Prop}{c:Code}(J:Nat->Act->World->Prop)(μ:Nat->Nat)(rest:Nat->Code)(hf:∀l a w,J l a w->findLabel c l=some (rest l))(first:c.wp P (Exit.jumps J Q) a w)(pass:∀l a w,J l a w->(rest l).wp P (Exit.jumps (fun l' a' f=>J l' a' f/\μ l'<μ l) Q) a w):(Code.scope c).wp P Q a w:=by
 intro b k cs;have hg:∀l a w,J l a w->gotoIn l (.inScope c :: k)=some (.code (rest l) :: .inScope c :: k):=fun l a w h=>by simp[gotoIn,hf l a w h]
 have key:∀n l a w,μ l=n->J l a w->∃e a' f,Q e a' f/\Arrives P (lone (b.at a (.code (rest l) :: .inScope c :: k)) cs w) b k cs e a' f:=by
  intro n
  induction n using Nat.strongRecOn with
  |_ n ih=>
   intro l a w hn hJ;obtain⟨e,a₁,w₁,hq,harr⟩:=pass l a w hJ b (.inScope c :: k) cs;cases e with
   |normal=>exact⟨.normal,a₁,w₁,hq,Steps.trans harr (.one step_inScope)⟩
   |exit id=>exact⟨.exit id,a₁,w₁,hq,fun k' hk=>harr k' (by simp[exitTo,hk])⟩
   |goto l'=>
    obtain⟨hJ',hlt⟩:=hq;obtain⟨e₂,a₂,w₂,hq₂,harr₂⟩:=ih _ oa l' a₁ w₁ rfl hJ';exact⟨e₂,a₂,w₂,hq₂,.of_steps (harr _ (hg l' a₁ w₁ hJ')) harr₂⟩
   |ret=>exact⟨_,a₁,w₁,hq,harr⟩
   |panic ch=>exact⟨_,a₁,w₁,hq,harr⟩
   |outgrown=>exact⟨_,a₁,w₁,hq,harr⟩
 obtain⟨e,a₁,w₁,hq,harr⟩:=first b (.inScope c :: k) cs
 cases e with
 |normal=>exact⟨.normal,a₁,w₁,hq,.head step_scope (Steps.trans harr (.one step_inScope))⟩
 |exit id=>exact⟨.exit id,a₁,w₁,hq,fun k' hk=>.head step_scope (harr k' (by simp[exitTo,hk]))⟩
 |goto l'=>
  obtain⟨e₂,a₂,w₂,hq₂,harr₂⟩:=key _ l' a₁ w₁ rfl hq;exact⟨e₂,a₂,w₂,hq₂,.of_steps (.head step_scope (harr _ (hg l' a₁ w₁ hq))) harr₂⟩
 |ret=>exact⟨_,a₁,w₁,hq,.of_steps (.one step_scope) harr⟩
 |panic ch=>exact⟨_,a₁,w₁,hq,.of_steps (.one step_scope) harr⟩
 |outgrown=>exact⟨_,a₁,w₁,hq,.of_steps (.one step_scope) harr⟩
theorem Kg {P:Program}{a:Act}{w:E}{Q:Exit->Act->E->Prop}{c r0 g i j k m n:Code}(d:Nat->Act->E->Prop)(μ:Nat->Nat)(y:findLabel c 0=I r0) (z:findLabel c 1=I g) (B:findLabel c 2=I i) (F:findLabel c 3=I j) (L:findLabel c 4=I k) (N:findLabel c 5=I m) (S:findLabel c 6=I n)(o:∀l a w,d l a w->l<=6) (first:c.wp P (Exit.jumps d Q) a w)(q:∀a w,d 0 a w->r0.wp P (Exit.jumps (λb e f=>d b e f/\μ b<μ 0) Q) a w) (r:∀a w,d 1 a w->g.wp P (Exit.jumps (λb e f=>d b e f/\μ b<μ 1) Q) a w)(s:∀a w,d 2 a w->i.wp P (Exit.jumps (λb e f=>d b e f/\μ b<μ 2) Q) a w) (t:∀a w,d 3 a w->j.wp P (Exit.jumps (λb e f=>d b e f/\μ b<μ 3) Q) a w)(u:∀a w,d 4 a w->k.wp P (Exit.jumps (λb e f=>d b e f/\μ b<μ 4) Q) a w) (v:∀a w,d 5 a w->m.wp P (Exit.jumps (λb e f=>d b e f/\μ b<μ 5) Q) a w)(x:∀a w,d 6 a w->n.wp P (Exit.jumps (λb e f=>d b e f/\μ b<μ 6) Q) a w):(Code.scope c).wp P Q a w:=by
 have p:∀l,l<=6->l=0\/l=1\/l=2\/l=3\/l=4\/l=5\/l=6:=λl h=>oa;refine Vw d μ (λl=>match l with
  |0=>r0
  |1=>g
  |2=>i
  |3=>j
  |4=>k
  |5=>m
  |_=>n) ?_ first ?_
 grind
 intro l a w h;rcases p l (o l a w h) with rfl|rfl|rfl|rfl|rfl|rfl|rfl;exact q a w h;exact r a w h;exact s a w h;exact t a w h;exact u a w h;exact v a w h;exact x a w h
namespace Pro
section
variable (s:ByteArray)
def oneM (r:Nat)(ch:Int):Option (Nat×Int):=if jk s r 128 191=G then I (r+1,ch*64+zd s r-128) else U
def twoM (r:Nat)(ch:Int):Option (Nat×Int):=if jk s r 128 191=G then oneM s (r+1) (ch*64+zd s r-128) else U
def viaOne (b a:Int)(r:Nat)(ch:Int):Option (Nat×Int):=if jk s r b a=G then oneM s (r+1) (ch*64+zd s r-128) else U
def zcQ (b a:Int)(r:Nat)(ch:Int):Option (Nat×Int):=if jk s r b a=G then twoM s (r+1) (ch*64+zd s r-128) else U
def atLab (l:Nat)(r:Nat)(ch:Int):Option (Nat×Int):=match l with
 |0=>oneM s r ch
 |1=>viaOne s 160 191 r ch
 |2=>viaOne s 128 159 r ch
 |3=>twoM s r ch
 |4=>zcQ s 144 191 r ch
 |5=>zcQ s 128 191 r ch
 |_=>zcQ s 128 143 r ch
def jG (b:Int):Nat:=if b<128 then 7 else if b<194 then 8 else if b<224 then 0 else if b=224 then 1 else if b=237 then 2 else if b<240 then 3 else if b=240 then 4 else if b<244 then 5 else if b=244 then 6 else 8
def qd (p:Nat):Option (Nat×Int):=
 if p<s.size then(if jG (zd s p)=7 then I (p+1,zd s p) else if jG (zd s p)=8 then U else atLab s (jG (zd s p)) (p+1) (qM (zd s p))) else U
end
end Pro
def LabAt (b:Nat)(s:ByteArray)(p:Nat)(w:E)(l:Nat)(a:Act)(f:E):Prop:=l<=6/\(∃(r:Nat) (ch:Int),xC f b s r p ch/\0<=ch/\ch<(if l=0 then 33554432 else if l<=3 then 524288 else 8192)/\r<=s.size/\qd s p=atLab s l r ch)/\zf (zt b) w f/\
 ∃u1 u2 u3 u4 u5 u6 u7 u8 u9 u10 u11 u12 u13 u14 u15 u16 u17 u18 u19 u20 u21 u22 u23 u24 u25 u26 u27 u28 u29 u30 u31 u32 u33 u34 u35 u36 u37 u38 u39 u40 u41 u42 u43 u44 u45 u46 u47 u48 u49 u50 u51 u52 u53 u54 u55 u56 u57 u58 u59 u60 u61 u62 u63:Y,a = { tmps:=#[Ua (I ⟨b,0,U⟩),u1,u2,u3,u4,u5,u6,u7,u8,u9,u10,u11,u12,u13,u14,u15,u16,u17,u18,u19,u20,u21,u22,u23,u24,u25,u26,u27,u28,u29,u30,u31,u32,u33,u34,u35,u36,u37,u38,u39,u40,u41,u42,u43,u44,u45,u46,u47,u48,u49,u50,u51,u52,u53,u54,u55,u56,u57,u58,u59,u60,u61,u62,u63],defers:=[] }
theorem Y9 {b:Nat->Act->E->Prop}{Q:Exit->Act->E->Prop}{a:Act}{w:E}:Exit.jumps b Q .ret a w=Q .ret a w:=rfl
namespace Pro
theorem Js {s:ByteArray}{p:Nat}(h:p<s.size)(a:zd s p<128):qd s p=I (p+1,qM (zd s p)):=by
 have e:jG (zd s p)=7:=by unfold jG;rw[IN a]
 have b:qM (zd s p)=zd s p:=by unfold qM;rw[IN a]
 unfold qd;rw[IN h,IN e,b]
theorem vV {s:ByteArray}{p:Nat}(a:jG (zd s p)=8):qd s p=U:=by unfold qd;rw[a];simp
theorem jy {s:ByteArray}{p l:Nat}(h:p<s.size)(a:jG (zd s p)=l)(b:l<=6):qd s p=atLab s l (p+1) (qM (zd s p)):=by subst a;unfold qd;rw[IN h,iN oa,iN oa]
theorem tailB_in {s:ByteArray}{r:Nat}{b a:Int}(h:jk s r b a=G):r<s.size:=by unfold jk at h;simp at h;exact h.1.1
theorem zaK {s:ByteArray}{r:Nat}{b a:Int}(h:jk s r b a=G):b<=zd s r/\zd s r<=a:=by unfold jk at h;simp at h;exact⟨h.1.2,h.2⟩
theorem ze9 {b:Int}(a:128<=b)(c:b<256):0<=qM b/\qM b<32:=by unfold qM;(repeat' split)<;>omega
end Pro
def labM (l:Nat):Nat:=if l=0 then 0 else if l<=3 then 1 else 2
theorem zaL (b:Nat)(s:ByteArray)(r p:Nat)(ch:Int)(w:E)(h:xC w b s r p ch)(B:s.size<=400)(hn:r<=s.size):Uh V 128 #[Ua (I ⟨b,0,U⟩)] w λx f=>zf (zt b) w f/\((∃n c,qd s r=I (n,c)/\x=R (C G)/\xC f b s n r c)\/(qd s r=U/\x=R (C Z))):=by
 have q:=ze h;have T:=h.c0;have c1:=h.c1;have W:=h.c2;have X:=h.f2;clear h;go_enter func128,ntmps128;go_wp2_with fail;refine Kg (LabAt b s r w) labM rfl rfl rfl rfl rfl rfl rfl (λl a w h=>h.1) ?_ ?_ ?_ ?_ ?_ ?_ ?_ ?_
 case refine_1=>
  by_cases k:r<s.size
  ·((have he:((r:Int) == (s.size:Int))=Z:=ou;have af:=(zw s r).2 k;have ag:=xj s r;go_wp2_with fail;go_quiet(fail);go_wp2_with(go_at_call 170;refine(lead_any b s r r ch _ (by first|exact(q.set2 r _ rfl).drewN _|exact q.set2 r _ rfl) B k).mono ?_;rintro e F ⟨rfl,m,d⟩;have j:=ze m;have g:H (zf (zt b) w F):=by first|exact(((zf.refl (zt b) w).mine 2 _).drewN _).trans d|exact(((zf.refl (zt b) w).drewN _).mine 2 _).trans d|exact((zf.refl (zt b) w).mine 2 _).trans d;clear m d));all_goals have y:=ze9 (b:=zd s r));all_goals try simp only[beq_iff_eq,beq_eq_false_iff_ne,ne_eq] at *
   all_goals first
    |(rw[Y9];go_ret;first|exact⟨g,O ⟨vV (by unfold jG;(repeat' split)<;>omega),rfl⟩⟩|exact⟨g,Q ⟨r+1,qM (zd s r),Js k oa,rfl,j⟩⟩)
    |(go_step3;exact⟨od,⟨r+1,qM (zd s r),j,(y oa oa).1,(by have:=(y oa oa).2;simp;omega),oa,jy k (by unfold jG;(repeat' split)<;>omega) od⟩,g,_,_,_,_,_,_,_,_,_,_,_,_,_,_,_,_,_,_,_,_,_,_,_,_,_,_,_,_,_,_,_,_,_,_,_,_,_,_,_,_,_,_,_,_,_,_,_,_,_,_,_,_,_,_,_,_,_,_,_,_,_,_,_,rfl⟩)
  have he:((r:Int) == (s.size:Int))=G:=ou;have P:H (qd s r=U):=(by unfold qd;rw[iN k];rfl);go_wp2_with fail;go_quiet(fail);go_wp2_with fail;rw[Y9];go_ret;exact⟨((zf.refl _ _).mine _ _).drewN _,O ⟨P,rfl⟩⟩
 all_goals
  rintro a' f ⟨_,⟨n1,t,z,aa,ab,ad,v⟩,u,u1,u2,u3,u4,u5,u6,u7,u8,u9,u10,u11,u12,u13,u14,u15,u16,u17,u18,u19,u20,u21,u22,u23,u24,u25,u26,u27,u28,u29,u30,u31,u32,u33,u34,u35,u36,u37,u38,u39,u40,u41,u42,u43,u44,u45,u46,u47,u48,u49,u50,u51,u52,u53,u54,u55,u56,u57,u58,u59,u60,u61,u62,u63,rfl⟩;simp at ab;have L:=ze z;have N:=ze u;have o:=ze v;clear z u v T c1 W X;have ah:=xj s n1;go_wp2_with(go_at_call 171;refine zb ?_);refine ze ?_;refine(tail_any b s n1 r t _ _ _ L B ad aa oa od od).mono ?_;rintro e F ⟨d,⟨i,rfl,m⟩|⟨i,rfl,_⟩⟩
  all_goals have g:=ze (N.trans d)
  .have aj:=tailB_in i;have ai:=zaK i;have j:=ze m;clear d m;go_wp2_with fail
   first
    |(rw[Y9];go_ret;exact⟨g,Q ⟨_,_,o.trans (IN i),rfl,j⟩⟩)
    |(go_step3;exact⟨⟨od,⟨n1+1,t*64+zd s n1-128,j,oa,ou,oa,o.trans (IN i)⟩,g,_,_,_,_,_,_,_,_,_,_,_,_,_,_,_,_,_,_,_,_,_,_,_,_,_,_,_,_,_,_,_,_,_,_,_,_,_,_,_,_,_,_,_,_,_,_,_,_,_,_,_,_,_,_,_,_,_,_,_,_,_,_,_,rfl⟩,od⟩)
  have S:H (¬jk s n1 _ _=G):=λh=>(by rw[i] at h;cases h);clear d i;go_wp2_with fail;rw[Y9];go_ret;exact⟨g,O ⟨o.trans (iN (zb S)),rfl⟩⟩
theorem zf.putObj {P:Nat->Prop}{a w:E}(h:zf P a w)(l:Nat)(o:Obj)(b:P l\/a.heap.size<=l):zf P a (w.putObj l o):=
 ⟨h.os,h.tape,h.output,zgN h.size (by simp[World.putObj]),λk d c=>(World.putObj_heap_other (by
  rintro rfl;rcases b with b|b;exact c b;omega)).trans (h.block k d c)⟩
def strB (A:E)(k:Nat):Prop:=∃s,A.cell? ⟨k,0,U⟩=I (Uc s)
theorem zcR {A:E}{k:Nat}{o:Obj}(h:A.heap[k]?=I o)(b:o.isCells=Z):¬strB A k:=by
 rintro⟨s,a⟩;unfold World.cell? at a;rw[h] at a;cases o with
 |cells c T f=>simp[Obj.isCells] at b
 |_=>simp at a
structure Zv (W W':E):Prop where
 size:W.heap.size<=W'.heap.size
 same:∀(k:Nat),strB W k->W'.heap[k]?=W.heap[k]?
theorem Zv.trans {A B C:E}(h:Zv A B)(k:Zv B C):Zv A C:=⟨zgN h.size k.size,λi a=>(k.same i (by
 obtain⟨s,b⟩:=a;exact⟨s,(zhq (w:=A) (h.same i ⟨s,b⟩)).trans b⟩)).trans (h.same i a)⟩
theorem Zv.putObj (W:E)(l:Nat)(o d:Obj)(c:W.heap[l]?=I o)(a:o.isCells=Z):Zv W (W.putObj l d):=
 ⟨by simp[World.putObj],λk b=>World.putObj_heap_other (by
  rintro rfl;exact zcR c a b)⟩
def SeqT {α:Type}(F:Fence)(n:Nat)(P:Program)(gf:Nat)(lb:Array Y)(g:α->Array Y)(xs:List α)(h:E):Prop:=
 ∀(l:Nat) (b:List α->E->Prop) (W:E),ziE h W->
  (∀c a d,b c a->zf (λk=>W.heap.size<=k/\strB a k) a d->b c d)->
  (∀c x a,b c a->(c++[x]) <+: xs->YieldAt F (n-1) P l (g x) a λe d=>e=R (C G)/\b (c++[x]) d/\Zv a d)->
  b [] W->CallsIn F n P gf (#[.func (.yield l) #[] #[]]++lb) W λe f=>(∃v,e=R v)/\b xs f
def goesPost {α:Type}(B:Nat)(a:List α->E->Prop)(xs:List α)(W:E):Exit->Act->E->Prop
 | .normal,_,W'=>KeepsFrom B W W'/\Zv W W'/\a xs W'
 |_,_,_=>False
variable {F:Fence} {n:Nat} {P:Program}
theorem zaM {α:Type}{g:Operand}{ps:Array Tmp}{assign body:Code}{Q:Exit->Act->World->Prop}{a:Act}{w:World}(hro:F.round=none) (h1:1<=n) {gf:Nat} {lb:Array Value} (hg:a.eval g=.func (.func gf) #[] lb) (hFg:F.fn gf) (eg:∀args w,(callFunc gf args).run P w=.ok (.enter gf args) w){encs:α->Array Value} {xs:List α} (hseq:SeqT F (n-1) P gf lb encs xs w) (hps:∀x,(encs x).size=ps.size)(I:List α->World->Prop)(hI:∀pre A A',I pre A->zf (fun k=>w.heap.size<=k/\(strB A k\/∃o,A.heap[k]?=some o/\o.isCells=false)) A A'->I pre A')(h0:I [] w) (a₁:α->Act)(hassign:∀(l:Nat) (x:α) (W:World) (K:Act->World->Prop),K (a₁ x) W->assign.wpIn (F.inRound l) (n-1-1) P (Exit.then K (fun _ _ _=>False)) { tmps:=(ps.zip (encs x)).foldl (fun t (p,v)=>t.setIfInBounds p v) a.tmps,defers:=[] } W)(hbody:∀(l:Nat) (pre:List α) (x:α) (W:World),I pre W->(pre++[x]) <+: xs->body.wpIn (F.inRound l) (n-1-1) P (goesPost w.heap.size I (pre++[x]) W) (a₁ x) W)(hdone:∀(D:Nat) (W:World),w.heap.size<=D->I xs W->W.heap[D]?=some (.deferred (some []))->Q .normal { a with defers:={ target:=.collected D,args:=#[] }:: a.defers } W):(Code.rangeFunc g ps assign body).wpIn F n P Q a w:=by
 refine wpIn_rangeFunc ?_;intro fn hfn;rw[hro];obtain⟨rec,hrec⟩:∃rec:LoopState->Loop,rec=fun h=>{ state:=h,pending:=none,fn,tmps:=a.tmps,params:=ps,assign,body,defers:=w.heap.size }:=⟨_,rfl⟩
 obtain⟨V,hV⟩:∃V,(w.alloc (.deferred (some []))).alloc (.loop (rec .ready))=V:=⟨_,rfl⟩
 have hO:ziE w V:=by rw[<-hV];exact((zf.refl _ w).alloc _).alloc _
 have hsz:V.heap.size=w.heap.size+1+1:=by rw[<-hV];simp
 have hL1:V.heap[w.heap.size+1]?=some (.loop (rec .ready)):=by
  rw[<-hV];have:=World.alloc_heap_new (w.alloc (.deferred (some []))) (.loop (rec .ready));rwa [zhU] at this
 have hD1:V.heap[w.heap.size]?=some (.deferred (some [])):=by
  rw[<-hV];exact(Below.heap_alloc _ _ _ ov).trans (World.alloc_heap_new w _)
 refine⟨w.heap.size+1,[{ target:=.collected w.heap.size,args:=#[] }],V,{ target:=.fn (.func gf) lb,args:=#[.func (.yield (w.heap.size+1)) #[] #[]] },V,gf,
  #[.func (.yield (w.heap.size+1)) #[] #[]]++lb,V,?_,?_,?_,?_,fun _=>h1,?_⟩
 ·rw[<-hV,hrec];exact run_enterLoop_outer _ _ _ _ _
 ·simp only[resolve,hg];simp[go_sem]
 ·intro f' hf';simp[Target.leads] at hf';subst hf';exact hFg
 ·simp[invoke,go_sem,eg]
 ·have put:∀pre A o o',I pre A->A.heap[w.heap.size+1]?=some o->o.isCells=false->I pre (A.putObj (w.heap.size+1) o'):=fun pre A o o' hi ho hc=>
   hI pre A _ hi ((zf.refl _ A).putObj _ _ (.inl ⟨oa,.inr ⟨o,ho,hc⟩⟩))
  refine(hseq (w.heap.size+1) (fun pre W=>I pre W/\W.heap[w.heap.size+1]?=some (.loop (rec .ready))/\W.heap[w.heap.size]?=some (.deferred (some []))) V hO ?_ ?_ ⟨hI _ _ _ h0 (hO.mono (fun _ _ f=>f.elim)),hL1,hD1⟩).mono ?_
  ·rintro pre A A' ⟨hi,hl,hd⟩ hA;have lt:∀k o,A.heap[k]?=some o->k<V.heap.size->A'.heap[k]?=some o:=fun k o hk hlt=>(hA.block k (zgM.1 hk).1 (fun hp=>oa)).trans hk;exact⟨hI pre A A' hi (hA.mono (fun k hk hp=>⟨oa,.inl hp.2⟩)),lt _ _ hl oa,lt _ _ hd oa⟩
  ·rintro pre x W ⟨hi,hl,hd⟩ hpre;have hlt:w.heap.size+1<W.heap.size:=(zgM.1 hl).1;have hy:=run_yield (P:=P) (args:=encs x) hl (by rw[hrec];exact hps x);rw[hrec] at hy;refine⟨fn,_,assign,body,hy,roundIn_of_wpIn hfn (hassign _ x W _ ⟨_,run_beginRound hl (by rw[hrec]),?_⟩)⟩;have hl2:(W.putObj (w.heap.size+1) (.loop { rec .ready with state:=.busy })).heap[w.heap.size+1]?=some (.loop { rec .ready with state:=.busy }):=World.putObj_heap_same hlt;have hd2:(W.putObj (w.heap.size+1) (.loop { rec .ready with state:=.busy })).heap[w.heap.size]?=some (.deferred (some [])):=(World.putObj_heap_other oa).trans hd;have hk2:Zv W (W.putObj (w.heap.size+1) (.loop { rec .ready with state:=.busy })):=Zv.putObj _ _ _ _ hl rfl;refine wpIn_mono (hbody _ pre x _ (put _ _ _ _ hi hl rfl) hpre) ?_;rintro e a3 W3 hp;cases e with
   |normal=>
    obtain⟨hk3,hkt3,hi3⟩:=hp;have hl3:=hk3.same _ _ oa hl2 rfl;have hd3:=hk3.same _ _ (zgH _) hd2 rfl;have hr:=run_endRound (P:=P) none hl3;refine⟨_,_,hr,rfl,⟨put _ _ _ _ hi3 hl3 rfl,?_,(World.putObj_heap_other oa).trans hd3⟩,(hk2.trans hkt3).trans (Zv.putObj _ _ _ _ hl3 rfl)⟩;rw[World.putObj_heap_same (zgM.1 hl3).1,hrec];rfl
   |ret=>exact hp.elim
   |exit id=>exact hp.elim
   |goto t=>exact hp.elim
   |panic ch=>exact hp.elim
   |outgrown=>exact hp.elim
  ·rintro e W2 ⟨⟨v,rfl⟩,hi,hl,hd⟩;have he:=run_endLoop (P:=P) hl (by rw[hrec];simp);refine⟨none,_,he.trans (by rw[hrec]),?_⟩;exact hdone _ _ (zgH _) (put _ _ _ _ hi hl rfl) ((World.putObj_heap_other oa).trans hd)
end
section
open Go.RowKit
def SeqO {α:Type}(F:Fence)(n:Nat)(P:Program)(gf:Nat)(lb:Array Y)(j:α->Array Y)(xs:List α)(D:Nat->Prop)(m:E):Prop:=
 ∀(l:Nat) (d:List α->(Nat->Prop)->E->Prop) (h:Nat->Prop) (W:E),ziE m W->(∀k,D k->¬h k)->(∀k,h k->k<W.heap.size)->
  (∀f b a c,d f b a->zf (λk=>W.heap.size<=k/\¬b k) a c->d f b c)->
  (∀f b x a,d f b a->(f++[x]) <+: xs->YieldAt F (n-1) P l (j x) a λe c=>e=R (C G)/\∃g,d (f++[x]) g c/\(∀k,g k->b k\/a.heap.size<=k)/\zf b a c/\∀k,g k->k<c.heap.size)->
  d [] h W->CallsIn F n P gf (#[.func (.yield l) #[] #[]]++lb) W λe i=>(∃v,e=R v)/\∃g,d xs g i
def goesO {α:Type}(a:List α->(Nat->Prop)->E->Prop)(xs:List α)(O:Nat->Prop)(W:E):Exit->Act->E->Prop
 | .normal,_,W'=>∃O',a xs O' W'/\(∀k,O' k->O k\/W.heap.size<=k)/\zf O W W'/\∀k,O' k->k<W'.heap.size
 |_,_,_=>False
variable {F:Fence} {n:Nat} {P:Program}
theorem xK (W:E)(l:Nat)(o:Obj):(W.putObj l o).heap.size=W.heap.size:=by simp[World.putObj]
theorem Yw {α:Type}{g:Operand}{ps:Array Tmp}{assign body:Code}{Q:Exit->Act->World->Prop}{a:Act}{w:World}(hro:F.round=none) (h1:1<=n) {gf:Nat} {lb:Array Value} (hg:a.eval g=.func (.func gf) #[] lb) (hFg:F.fn gf) (eg:∀args w,(callFunc gf args).run P w=.ok (.enter gf args) w){encs:α->Array Value} {xs:List α} {D:Nat->Prop} (hseq:SeqO F (n-1) P gf lb encs xs D w) (hps:∀x,(encs x).size=ps.size)(I:List α->(Nat->Prop)->World->Prop) (O0:Nat->Prop) (hO0:∀k,O0 k->k<w.heap.size) (hD:∀k,D k->k<w.heap.size/\¬O0 k)(hI:∀pre O A A',I pre O A->zf (fun k=>w.heap.size<=k/\¬O k) A A'->I pre O A')(h0:I [] O0 w) (a₁:α->Act)(hassign:∀(l:Nat) (x:α) (W:World) (K:Act->World->Prop),K (a₁ x) W->assign.wpIn (F.inRound l) (n-1-1) P (Exit.then K (fun _ _ _=>False)) { tmps:=(ps.zip (encs x)).foldl (fun t (p,v)=>t.setIfInBounds p v) a.tmps,defers:=[] } W)(hbody:∀(l:Nat) (pre:List α) (O:Nat->Prop) (x:α) (W:World),w.heap.size<=l->¬O l->(∃r,W.heap[l]?=some (.loop r))->I pre O W->(pre++[x]) <+: xs->body.wpIn (F.inRound l) (n-1-1) P (goesO I (pre++[x]) O W) (a₁ x) W)(hdone:∀(D:Nat) (O:Nat->Prop) (W:World),w.heap.size<=D->¬O D->I xs O W->W.heap[D]?=some (.deferred (some []))->Q .normal { a with defers:={ target:=.collected D,args:=#[] }:: a.defers } W):(Code.rangeFunc g ps assign body).wpIn F n P Q a w:=by
 refine wpIn_rangeFunc ?_;intro fn hfn;rw[hro];obtain⟨rec,hrec⟩:∃rec:LoopState->Loop,rec=fun h=>{ state:=h,pending:=none,fn,tmps:=a.tmps,params:=ps,assign,body,defers:=w.heap.size }:=⟨_,rfl⟩
 obtain⟨V,hV⟩:∃V,(w.alloc (.deferred (some []))).alloc (.loop (rec .ready))=V:=⟨_,rfl⟩
 have hO:ziE w V:=by rw[<-hV];exact((zf.refl _ w).alloc _).alloc _
 have hsz:V.heap.size=w.heap.size+1+1:=by rw[<-hV];simp
 have hL1:V.heap[w.heap.size+1]?=some (.loop (rec .ready)):=by
  rw[<-hV];have:=World.alloc_heap_new (w.alloc (.deferred (some []))) (.loop (rec .ready));rwa [zhU] at this
 have hD1:V.heap[w.heap.size]?=some (.deferred (some [])):=by
  rw[<-hV];exact(Below.heap_alloc _ _ _ ov).trans (World.alloc_heap_new w _)
 refine⟨w.heap.size+1,[{ target:=.collected w.heap.size,args:=#[] }],V,{ target:=.fn (.func gf) lb,args:=#[.func (.yield (w.heap.size+1)) #[] #[]] },V,gf,
  #[.func (.yield (w.heap.size+1)) #[] #[]]++lb,V,?_,?_,?_,?_,fun _=>h1,?_⟩
 ·rw[<-hV,hrec];exact run_enterLoop_outer _ _ _ _ _
 ·simp only[resolve,hg];simp[go_sem]
 ·intro f' hf';simp[Target.leads] at hf';subst hf';exact hFg
 ·simp[invoke,go_sem,eg]
 ·have put:∀pre Ob A o',I pre Ob A->¬Ob (w.heap.size+1)->I pre Ob (A.putObj (w.heap.size+1) o'):=fun pre Ob A o' hi hn=>
   hI pre Ob A _ hi ((zf.refl _ A).putObj _ _ (.inl ⟨oa,hn⟩))
  refine(hseq (w.heap.size+1) (fun pre O W=>∃Ob:Nat->Prop,(∀k,O k↔Ob k\/k=w.heap.size+1)/\¬Ob (w.heap.size+1)/\¬Ob w.heap.size/\I pre Ob W/\W.heap[w.heap.size+1]?=some (.loop (rec .ready))/\W.heap[w.heap.size]?=some (.deferred (some []))) (fun k=>O0 k\/k=w.heap.size+1) V hO ?_ ?_ ?_ ?_
   ⟨O0,fun _=>Iff.rfl,fun b=>by have:=hO0 _ b;omega,fun b=>by have:=hO0 _ b;omega,hI _ _ _ _ h0 (hO.mono (fun _ _ f=>f.elim)),hL1,hD1⟩).mono ?_
  ·grind
  ·grind
  ·rintro pre O A A' ⟨Ob,hOb,hnL,hnD,hi,hl,hd⟩ hA;have lt:∀k o,A.heap[k]?=some o->k<V.heap.size->A'.heap[k]?=some o:=fun k o hk hlt=>(hA.block k (zgM.1 hk).1 (fun hp=>oa)).trans hk;exact⟨Ob,hOb,hnL,hnD,hI pre Ob A A' hi (hA.mono (fun k hk hp=>⟨oa,fun b=>hp.2 ((hOb k).2 (.inl b))⟩)),lt _ _ hl oa,lt _ _ hd oa⟩
  ·rintro pre O x W ⟨Ob,hOb,hnL,hnD,hi,hl,hd⟩ hpre;have hlt:w.heap.size+1<W.heap.size:=(zgM.1 hl).1;have hy:=run_yield (P:=P) (args:=encs x) hl (by rw[hrec];exact hps x);rw[hrec] at hy;refine⟨fn,_,assign,body,hy,roundIn_of_wpIn hfn (hassign _ x W _ ⟨_,run_beginRound hl (by rw[hrec]),?_⟩)⟩;have hl2:(W.putObj (w.heap.size+1) (.loop { rec .ready with state:=.busy })).heap[w.heap.size+1]?=some (.loop { rec .ready with state:=.busy }):=World.putObj_heap_same hlt;have hd2:(W.putObj (w.heap.size+1) (.loop { rec .ready with state:=.busy })).heap[w.heap.size]?=some (.deferred (some [])):=(World.putObj_heap_other oa).trans hd;have hs2:(W.putObj (w.heap.size+1) (.loop { rec .ready with state:=.busy })).heap.size=W.heap.size:=(by simp[World.putObj]);have hk2:zf O W (W.putObj (w.heap.size+1) (.loop { rec .ready with state:=.busy })):=(zf.refl _ W).putObj _ _ (.inl ((hOb _).2 (.inr rfl)));refine wpIn_mono (hbody _ pre Ob x _ oa hnL ⟨_,hl2⟩ (put _ _ _ _ hi hnL) hpre) ?_;rintro e a3 W3 hp;cases e with
   |normal=>
    obtain⟨O2,hi3,hsub,hO3,hlt3⟩:=hp;have keep:∀k o,(W.putObj (w.heap.size+1) (.loop { rec .ready with state:=.busy })).heap[k]?=some o->¬Ob k->W3.heap[k]?=some o:=fun k o hk hn=>(hO3.block k (zgM.1 hk).1 hn).trans hk;have hl3:=keep _ _ hl2 hnL;have hd3:=keep _ _ hd2 hnD;have hr:=run_endRound (P:=P) none hl3;have hn2:¬O2 (w.heap.size+1):=fun b=>by
     rcases hsub _ b with b |b
     ·exact hnL b
     ·rw[xK] at b;omega
    have hn3:¬O2 w.heap.size:=fun b=>by
     rcases hsub _ b with b |b
     ·exact hnD b
     ·rw[xK] at b;omega
    refine⟨_,_,hr,rfl,fun k=>O2 k\/k=w.heap.size+1,⟨O2,fun _=>Iff.rfl,hn2,hn3,put _ _ _ _ hi3 hn2,?_,(World.putObj_heap_other oa).trans hd3⟩,?_,(hk2.trans (hO3.mono (fun k _ b=>(hOb k).2 (.inl b)))).putObj _ _ (.inl ((hOb _).2 (.inr rfl))),fun k hk=>by
     rw[xK];rcases hk with b |b
     ·exact hlt3 k b
     ·rw[b];exact(zgM.1 hl3).1⟩
    ·rw[World.putObj_heap_same (zgM.1 hl3).1,hrec];rfl
    ·grind
   |ret=>exact hp.elim
   |exit id=>exact hp.elim
   |goto t=>exact hp.elim
   |panic ch=>exact hp.elim
   |outgrown=>exact hp.elim
  ·rintro e W2 ⟨⟨v,rfl⟩,O',Ob,hOb,hnL,hnD,hi,hl,hd⟩;have he:=run_endLoop (P:=P) hl (by rw[hrec];simp);refine⟨none,_,he.trans (by rw[hrec]),?_⟩;exact hdone _ Ob _ (zgH _) hnD (put _ _ _ _ hi hnL) ((World.putObj_heap_other oa).trans hd)
theorem zaN {α:Type}{g:Operand}{ps:Array Tmp}{assign body:Code}{Q:Exit->Act->World->Prop}{a:Act}{w:World}(hro:F.round=none) (h1:1<=n) {gf:Nat} {lb:Array Value} (hg:a.eval g=.func (.func gf) #[] lb) (hFg:F.fn gf) (eg:∀args w,(callFunc gf args).run P w=.ok (.enter gf args) w){encs:α->Array Value} {xs:List α} {D:Nat->Prop} (hseq:SeqO F (n-1) P gf lb encs xs D w) (hps:∀x,(encs x).size=ps.size)(I:List α->(Nat->Prop)->World->Prop) (O0:Nat->Prop) (hO0:∀k,O0 k->k<w.heap.size) (hD:∀k,D k->k<w.heap.size/\¬O0 k)(hI:∀pre O A A',I pre O A->zf (fun k=>w.heap.size<=k/\¬O k) A A'->I pre O A')(h0:I [] O0 w) (Ax:α->Act->World->Prop) (hAx:∀x a V l o o',Ax x a V->V.heap[l]?=some o->o.isCells=false->Ax x a (V.putObj l o'))(hassign:∀(l:Nat) (x:α) (W:World) (K:Act->World->Prop),(∀a' V,ziE W V->Ax x a' V->K a' V)->assign.wpIn (F.inRound l) (n-1-1) P (Exit.then K (fun _ _ _=>False)) { tmps:=(ps.zip (encs x)).foldl (fun t (p,v)=>t.setIfInBounds p v) a.tmps,defers:=[] } W)(hbody:∀(l:Nat) (pre:List α) (O:Nat->Prop) (x:α) (a':Act) (W:World),w.heap.size<=l->¬O l->(∃r,W.heap[l]?=some (.loop r))->I pre O W->(pre++[x]) <+: xs->Ax x a' W->body.wpIn (F.inRound l) (n-1-1) P (goesO I (pre++[x]) O W) a' W)(hdone:∀(D:Nat) (O:Nat->Prop) (W:World),w.heap.size<=D->¬O D->I xs O W->W.heap[D]?=some (.deferred (some []))->Q .normal { a with defers:={ target:=.collected D,args:=#[] }:: a.defers } W):(Code.rangeFunc g ps assign body).wpIn F n P Q a w:=by
 refine wpIn_rangeFunc ?_;intro fn hfn;rw[hro];obtain⟨rec,hrec⟩:∃rec:LoopState->Loop,rec=fun h=>{ state:=h,pending:=none,fn,tmps:=a.tmps,params:=ps,assign,body,defers:=w.heap.size }:=⟨_,rfl⟩
 obtain⟨V,hV⟩:∃V,(w.alloc (.deferred (some []))).alloc (.loop (rec .ready))=V:=⟨_,rfl⟩
 have hO:ziE w V:=by rw[<-hV];exact((zf.refl _ w).alloc _).alloc _
 have hsz:V.heap.size=w.heap.size+1+1:=by rw[<-hV];simp
 have hL1:V.heap[w.heap.size+1]?=some (.loop (rec .ready)):=by
  rw[<-hV];have:=World.alloc_heap_new (w.alloc (.deferred (some []))) (.loop (rec .ready));rwa [zhU] at this
 have hD1:V.heap[w.heap.size]?=some (.deferred (some [])):=by
  rw[<-hV];exact(Below.heap_alloc _ _ _ ov).trans (World.alloc_heap_new w _)
 refine⟨w.heap.size+1,[{ target:=.collected w.heap.size,args:=#[] }],V,{ target:=.fn (.func gf) lb,args:=#[.func (.yield (w.heap.size+1)) #[] #[]] },V,gf,
  #[.func (.yield (w.heap.size+1)) #[] #[]]++lb,V,?_,?_,?_,?_,fun _=>h1,?_⟩
 ·rw[<-hV,hrec];exact run_enterLoop_outer _ _ _ _ _
 ·simp only[resolve,hg];simp[go_sem]
 ·intro f' hf';simp[Target.leads] at hf';subst hf';exact hFg
 ·simp[invoke,go_sem,eg]
 ·have put:∀pre Ob A o',I pre Ob A->¬Ob (w.heap.size+1)->I pre Ob (A.putObj (w.heap.size+1) o'):=fun pre Ob A o' hi hn=>
   hI pre Ob A _ hi ((zf.refl _ A).putObj _ _ (.inl ⟨oa,hn⟩))
  refine(hseq (w.heap.size+1) (fun pre O W=>∃Ob:Nat->Prop,(∀k,O k↔Ob k\/k=w.heap.size+1)/\¬Ob (w.heap.size+1)/\¬Ob w.heap.size/\I pre Ob W/\W.heap[w.heap.size+1]?=some (.loop (rec .ready))/\W.heap[w.heap.size]?=some (.deferred (some []))) (fun k=>O0 k\/k=w.heap.size+1) V hO ?_ ?_ ?_ ?_
   ⟨O0,fun _=>Iff.rfl,fun b=>by have:=hO0 _ b;omega,fun b=>by have:=hO0 _ b;omega,hI _ _ _ _ h0 (hO.mono (fun _ _ f=>f.elim)),hL1,hD1⟩).mono ?_
  ·grind
  ·grind
  ·rintro pre O A A' ⟨Ob,hOb,hnL,hnD,hi,hl,hd⟩ hA;have lt:∀k o,A.heap[k]?=some o->k<V.heap.size->A'.heap[k]?=some o:=fun k o hk hlt=>(hA.block k (zgM.1 hk).1 (fun hp=>oa)).trans hk;exact⟨Ob,hOb,hnL,hnD,hI pre Ob A A' hi (hA.mono (fun k hk hp=>⟨oa,fun b=>hp.2 ((hOb k).2 (.inl b))⟩)),lt _ _ hl oa,lt _ _ hd oa⟩
  ·rintro pre O x W0 ⟨Ob,hOb,hnL,hnD,hi0,hl0,hd0⟩ hpre;have hlt0:w.heap.size+1<W0.heap.size:=(zgM.1 hl0).1;have hy:=run_yield (P:=P) (args:=encs x) hl0 (by rw[hrec];exact hps x);rw[hrec] at hy;refine⟨fn,_,assign,body,hy,roundIn_of_wpIn hfn (hassign _ x W0 _ (fun a' W hoW hax=>?_))⟩;have hl:=(hoW.block _ hlt0 (fun f=>f)).trans hl0;have hd:=(hoW.block _ (zgM.1 hd0).1 (fun f=>f)).trans hd0;have hi:=hI _ _ _ _ hi0 (hoW.mono (fun _ _ f=>f.elim));have hlt:w.heap.size+1<W.heap.size:=(zgM.1 hl).1;refine⟨_,run_beginRound hl (by rw[hrec]),?_⟩;have hl2:(W.putObj (w.heap.size+1) (.loop { rec .ready with state:=.busy })).heap[w.heap.size+1]?=some (.loop { rec .ready with state:=.busy }):=World.putObj_heap_same hlt;have hd2:(W.putObj (w.heap.size+1) (.loop { rec .ready with state:=.busy })).heap[w.heap.size]?=some (.deferred (some [])):=(World.putObj_heap_other oa).trans hd;have hk2:zf O W0 (W.putObj (w.heap.size+1) (.loop { rec .ready with state:=.busy })):=(hoW.mono (fun _ _ f=>f.elim)).putObj _ _ (.inl ((hOb _).2 (.inr rfl)));refine wpIn_mono (hbody _ pre Ob x a' _ oa hnL ⟨_,hl2⟩ (put _ _ _ _ hi hnL) hpre (hAx _ _ _ _ _ _ hax hl rfl)) ?_;rintro e a3 W3 hp;cases e with
   |normal=>
    obtain⟨O2,hi3,hsub,hO3,hlt3⟩:=hp;have keep:∀k o,(W.putObj (w.heap.size+1) (.loop { rec .ready with state:=.busy })).heap[k]?=some o->¬Ob k->W3.heap[k]?=some o:=fun k o hk hn=>(hO3.block k (zgM.1 hk).1 hn).trans hk;have hl3:=keep _ _ hl2 hnL;have hd3:=keep _ _ hd2 hnD;have hr:=run_endRound (P:=P) none hl3;have hn2:¬O2 (w.heap.size+1):=fun b=>by
     rcases hsub _ b with b |b
     ·exact hnL b
     ·rw[xK] at b;omega
    have hn3:¬O2 w.heap.size:=fun b=>by
     rcases hsub _ b with b |b
     ·exact hnD b
     ·rw[xK] at b;omega
    refine⟨_,_,hr,rfl,fun k=>O2 k\/k=w.heap.size+1,⟨O2,fun _=>Iff.rfl,hn2,hn3,put _ _ _ _ hi3 hn2,?_,(World.putObj_heap_other oa).trans hd3⟩,?_,(hk2.trans (hO3.mono (fun k _ b=>(hOb k).2 (.inl b)))).putObj _ _ (.inl ((hOb _).2 (.inr rfl))),fun k hk=>by
     rw[xK];rcases hk with b |b
     ·exact hlt3 k b
     ·rw[b];exact(zgM.1 hl3).1⟩
    ·rw[World.putObj_heap_same (zgM.1 hl3).1,hrec];rfl
    ·rintro k (b |b)
     ·rcases hsub k b with b |b
      ·exact .inl ((hOb k).2 (.inl b))
      ·rw[xK] at b;exact .inr (zgN hoW.size b)
     ·exact .inl ((hOb k).2 (.inr b))
   |ret=>exact hp.elim
   |exit id=>exact hp.elim
   |goto t=>exact hp.elim
   |panic ch=>exact hp.elim
   |outgrown=>exact hp.elim
  ·rintro e W2 ⟨⟨v,rfl⟩,O',Ob,hOb,hnL,hnD,hi,hl,hd⟩;have he:=run_endLoop (P:=P) hl (by rw[hrec];simp);refine⟨none,_,he.trans (by rw[hrec]),?_⟩;exact hdone _ Ob _ (zgH _) hnD (put _ _ _ _ hi hnL) ((World.putObj_heap_other oa).trans hd)
theorem zaO {α:Type}{g:Operand}{ps:Array Tmp}{assign body:Code}{Q:Exit->Act->World->Prop}{a:Act}{w:World}{l₀:Nat} {r₀:Loop} (hro:F.round=some l₀) (hl₀:w.heap[l₀]?=some (.loop r₀)) (h1:1<=n) {gf:Nat} {lb:Array Value} (hg:a.eval g=.func (.func gf) #[] lb) (hFg:F.fn gf) (eg:∀args w,(callFunc gf args).run P w=.ok (.enter gf args) w){encs:α->Array Value} {xs:List α} {D:Nat->Prop} (hseq:SeqO F (n-1) P gf lb encs xs D w) (hps:∀x,(encs x).size=ps.size)(I:List α->(Nat->Prop)->World->Prop) (O0:Nat->Prop) (hO0:∀k,O0 k->k<w.heap.size) (hD:∀k,D k->k<w.heap.size/\¬O0 k)(hI:∀pre O A A',I pre O A->zf (fun k=>w.heap.size<=k/\¬O k) A A'->I pre O A')(h0:I [] O0 w) (a₁:α->Act)(hassign:∀(l:Nat) (x:α) (W:World) (K:Act->World->Prop),K (a₁ x) W->assign.wpIn (F.inRound l) (n-1-1) P (Exit.then K (fun _ _ _=>False)) { tmps:=(ps.zip (encs x)).foldl (fun t (p,v)=>t.setIfInBounds p v) a.tmps,defers:=[] } W)(hbody:∀(l:Nat) (pre:List α) (O:Nat->Prop) (x:α) (W:World),w.heap.size<=l->¬O l->(∃r,W.heap[l]?=some (.loop r))->I pre O W->(pre++[x]) <+: xs->body.wpIn (F.inRound l) (n-1-1) P (goesO I (pre++[x]) O W) (a₁ x) W)(hdone:∀(O:Nat->Prop) (W:World),I xs O W->Q .normal a W):(Code.rangeFunc g ps assign body).wpIn F n P Q a w:=by
 refine wpIn_rangeFunc ?_;intro fn hfn;rw[hro];obtain⟨rec,hrec⟩:∃rec:LoopState->Loop,rec=fun h=>{ state:=h,pending:=none,fn,tmps:=a.tmps,params:=ps,assign,body,defers:=r₀.defers }:=⟨_,rfl⟩
 obtain⟨V,hV⟩:∃V,w.alloc (.loop (rec .ready))=V:=⟨_,rfl⟩
 have hO:ziE w V:=by rw[<-hV];exact(zf.refl _ w).alloc _
 have hsz:V.heap.size=w.heap.size+1:=by rw[<-hV];simp
 have hL1:V.heap[w.heap.size]?=some (.loop (rec .ready)):=by rw[<-hV];exact World.alloc_heap_new w _
 refine⟨w.heap.size,[],V,{ target:=.fn (.func gf) lb,args:=#[.func (.yield w.heap.size) #[] #[]] },V,gf,
  #[.func (.yield w.heap.size) #[] #[]]++lb,V,?_,?_,?_,?_,fun _=>h1,?_⟩
 ·rw[<-hV,hrec];exact run_enterLoop_inner hl₀ _ _ _ _ _
 ·simp only[resolve,hg];simp[go_sem]
 ·intro f' hf';simp[Target.leads] at hf';subst hf';exact hFg
 ·simp[invoke,go_sem,eg]
 ·have put:∀pre Ob A o',I pre Ob A->¬Ob w.heap.size->I pre Ob (A.putObj w.heap.size o'):=fun pre Ob A o' hi hn=>
   hI pre Ob A _ hi ((zf.refl _ A).putObj _ _ (.inl ⟨oa,hn⟩))
  refine(hseq w.heap.size (fun pre O W=>∃Ob:Nat->Prop,(∀k,O k↔Ob k\/k=w.heap.size)/\¬Ob w.heap.size/\I pre Ob W/\W.heap[w.heap.size]?=some (.loop (rec .ready))) (fun k=>O0 k\/k=w.heap.size) V hO ?_ ?_ ?_ ?_
   ⟨O0,fun _=>Iff.rfl,fun b=>by have:=hO0 _ b;omega,hI _ _ _ _ h0 (hO.mono (fun _ _ f=>f.elim)),hL1⟩).mono ?_
  ·grind
  ·grind
  ·rintro pre O A A' ⟨Ob,hOb,hnL,hi,hl⟩ hA;have lt:∀k o,A.heap[k]?=some o->k<V.heap.size->A'.heap[k]?=some o:=fun k o hk hlt=>(hA.block k (zgM.1 hk).1 (fun hp=>oa)).trans hk;exact⟨Ob,hOb,hnL,hI pre Ob A A' hi (hA.mono (fun k hk hp=>⟨oa,fun b=>hp.2 ((hOb k).2 (.inl b))⟩)),lt _ _ hl oa⟩
  ·rintro pre O x W ⟨Ob,hOb,hnL,hi,hl⟩ hpre;have hlt:w.heap.size<W.heap.size:=(zgM.1 hl).1;have hy:=run_yield (P:=P) (args:=encs x) hl (by rw[hrec];exact hps x);rw[hrec] at hy;refine⟨fn,_,assign,body,hy,roundIn_of_wpIn hfn (hassign _ x W _ ⟨_,run_beginRound hl (by rw[hrec]),?_⟩)⟩;have hl2:(W.putObj w.heap.size (.loop { rec .ready with state:=.busy })).heap[w.heap.size]?=some (.loop { rec .ready with state:=.busy }):=World.putObj_heap_same hlt;have hs2:(W.putObj w.heap.size (.loop { rec .ready with state:=.busy })).heap.size=W.heap.size:=(by simp[World.putObj]);have hk2:zf O W (W.putObj w.heap.size (.loop { rec .ready with state:=.busy })):=(zf.refl _ W).putObj _ _ (.inl ((hOb _).2 (.inr rfl)));refine wpIn_mono (hbody _ pre Ob x _ oa hnL ⟨_,hl2⟩ (put _ _ _ _ hi hnL) hpre) ?_;rintro e a3 W3 hp;cases e with
   |normal=>
    obtain⟨O2,hi3,hsub,hO3,hlt3⟩:=hp;have hl3:W3.heap[w.heap.size]?=some (.loop { rec .ready with state:=.busy }):=(hO3.block _ (zgM.1 hl2).1 hnL).trans hl2;have hr:=run_endRound (P:=P) none hl3;have hn2:¬O2 w.heap.size:=fun b=>by
     rcases hsub _ b with b |b
     ·exact hnL b
     ·rw[xK] at b;omega
    refine⟨_,_,hr,rfl,fun k=>O2 k\/k=w.heap.size,⟨O2,fun _=>Iff.rfl,hn2,put _ _ _ _ hi3 hn2,?_⟩,?_,(hk2.trans (hO3.mono (fun k _ b=>(hOb k).2 (.inl b)))).putObj _ _ (.inl ((hOb _).2 (.inr rfl))),fun k hk=>by
     rw[xK];rcases hk with b |b
     ·exact hlt3 k b
     ·rw[b];exact(zgM.1 hl3).1⟩
    ·rw[World.putObj_heap_same (zgM.1 hl3).1,hrec];rfl
    ·grind
   |ret=>exact hp.elim
   |exit id=>exact hp.elim
   |goto t=>exact hp.elim
   |panic ch=>exact hp.elim
   |outgrown=>exact hp.elim
  ·rintro e W2 ⟨⟨v,rfl⟩,O',Ob,hOb,hnL,hi,hl⟩;have he:=run_endLoop (P:=P) hl (by rw[hrec];simp);exact⟨none,_,he.trans (by rw[hrec]),hdone Ob _ (put _ _ _ _ hi hnL)⟩
end
