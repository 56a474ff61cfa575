/- The store of a statement over scripts: patterns, and lists that came out with their marks. -/
import Derived.Test.YtcgleficedipkaaGreatDoorYEqNEndB
namespace Go.Proofs.YtcgleficedipkaaGreatDoor
open Option renaming none->U,some->I
open Value renaming int->M,slice->K,pointer->Ua,string->Uc,tuple->Ue,agg->Uf
open IntKind renaming i64->J
open Bool renaming false->Z,true->G
open Go renaming World->E,Value->Y,Calls->Uh
open Or renaming inr->O,inl->Q
open Ending renaming returned->R
open Pro Ref Eqv
variable {w:World}{base:Nat}{e:TypeId}
section
open Go.RowKit
open Sm (Tree)
theorem zcZ {P:Program}(w:World){ops:Array Oper}{rest:List Oper}{o:Oper}{a:Act}{Q:Exit->Act->World->Prop}(hgd:o.guard=none)(s x:Operand)(t:TypeId)(ho:o.op=.call { callee:=.builtin .append,args:=#[s,x],argTypes:=#[t,t] })(base:Nat) (e:TypeId) (i:TypeInfo) (z:Value) (size bytes:Nat) (ht:P.underlying t=some (.slice e)) (hi:P.info? e=some i) (hz:i.zero=some z)(hsize:i.size=size) (hby:i.bytes=bytes) (hzs:z.cells.size=size) (hsz:0<size)(v:Value) (n:Nat) (xs:List Value) (hs:a.eval s=v) (hown:w.ownsRow base e size v n xs)(ad:Addr) (m c:Nat) (news:List Value) (hx:a.eval x=.slice (some ad) m c) (hl:news.length=m*size) (hnews:∀j u,news[j]?=some u->w.cell? (ad.add j)=some u) (h1:∀u∈news,u.oneCell'=true)(h63:n+m<=maxLen) (hbytes:(n+m)*bytes<=140737488355328) (hbase:base<=w.heap.size) (hm:0<m)(h:∀v' w',w'.ownsRow base e size v' (n+m) (xs++news)->((∃g,v.ownBlock=some g/\v'.ownBlock=some g/\w.grownBy w' (some g))\/(w.grownBy w' none/\∀k,v'.ownBlock=some k->w.heap.size<=k))->wpList P ops Q rest (a.put o.dst v') w'):wpList P ops Q (o :: rest) a w:=by
 rcases hown.2 with⟨rfl,rfl⟩ |⟨g,cap,cur,rfl,hbg,hg,hnc,hcm,hcs,htake⟩
 ·have hxs:xs=[]:=zgY (by simpa using hown.1);subst hxs;exact wpList_append_grows w hgd s x t ho e i z size bytes ht hi hz hsize hby hzs hsz none 0 0 [] hs (fun _=>⟨rfl,rfl⟩) ov (fun b hb=>by cases hb) ad m c news hx hl hnews h1 oa h63 hbytes (fun v' w' h2 h3=>h v' w' (zZ h2 hbase) (.inr ⟨h3,fun k hk=>(h2.lt k hk).1⟩))
 ·by_cases hroom:n+m<=cap
  ·exact wpList_append_fits w hgd s x t ho base e i size ht hi hsize g n cap xs hs hown ad m c news hx hl hnews h1 hroom (fun w' h2 h3=>h _ w' h2 (.inl ⟨g,rfl,rfl,h3⟩))
  ·exact wpList_append_grows w hgd s x t ho e i z size bytes ht hi hz hsize hby hzs hsz (some ⟨g,0,none⟩) n cap xs hs (fun hh=>by cases hh) hown.1 (fun b hb=>by cases hb;exact hown.cells (g:=g) rfl) ad m c news hx hl hnews h1 oa h63 hbytes (fun v' w' h2 h3=>h v' w' (zZ h2 hbase) (.inr ⟨h3,fun k hk=>(h2.lt k hk).1⟩))
theorem jI {v:Y}{n:Nat}{xs:List Y}(h:w.ownsRow base e 1 v n xs):∃a c,v=K a n c/\∀(j:Nat) u,xs[j]?=I u->∃g,a=I ⟨g,0,U⟩/\w.cell? ⟨g,j,U⟩=I u:=by
 have q:=h.1;rcases h.2 with⟨rfl,rfl⟩|⟨g,d,f,rfl,i,m,o,k,l,p⟩
 grind
 exact⟨_,d,rfl,λj u b=>⟨g,rfl,(h.cellAt _ (by have:=(zgG.1 b).1;omega)).trans b⟩⟩
theorem own_fz {g n cap size:Nat}{e:TypeId}{xs:List Y}(h:w.ownsRow base e size (K (I ⟨g,0,U⟩) n cap) n xs)(t:Nat):w.frozen? ⟨g,t,U⟩=Z:=by rcases h.2 with⟨a,_⟩|⟨f,c,d,a,i,b,_⟩;cases a;cases a;simp[World.frozen?,b]
theorem Tryz.infoIntSl:(Tryz.prog.info? 27).map (λi=>(i.zero,i.size,i.bytes))=I (I (K U 0 0),1,24):=om
def zaW (s:ByteArray)(z:Int)(b:List Tok):Prop:=∀w:E,Uh Tryz.prog 53 #[Uc s] w λx a=>∃g,x=R (Ue #[Ua (I ⟨g,0,U⟩),M J 0,M J 0])/\ziE w a/\w.heap.size<=g/\a.cell? ⟨g,1,U⟩=I (M J (z+1))/\∃v,a.cell? ⟨g,0,U⟩=I v/\xW a w.heap.size v b
def zc0 (s:ByteArray):Bool:=
 let L:=zV s (s.size+1) 0
 let o:=yR L s.size (zD L s.size 10) 0
 decide (s.size<=200/\(zF s).2<0/\o.k=0/\o.n=L.length/\o.v<300)
theorem zc1 (s:ByteArray):(∃(k:Nat) (p:Int),1<=k/\k<=8/\RefBad s k p/\(∀(w:E) (a:Nat->Addr),Start w a->PatBad s a k p w)/\zc0 s=Z)\/ (∃(v:Int) (t:Tree) (i:List Tok),0<=v/\v<300/\TreeOK t/\zaW s v i/\(∀(w:E) (a:Nat->Addr),Start w a->zee s t v w)/\wK (qL 22) i t.kids/\(∀x∈i,kJ x)/\i.length<=1000/\t.kind=5):=by
 by_cases b:s.size<=200
 .by_cases B:0<=(zF s).2;exact Q ⟨1,(zF s).2,od,od,λw=>VF s w b B,λw a h=>WU s w a h.sents h.size b B,decide_eq_false (λh=>by have:=h.2.1;omega)⟩;have c:(zF s).2<0:=oa;have ac:Br s (zV s (s.size+1) 0) 0 0:=(by rw[zd4];exact Br.start (vq c));obtain⟨P,S⟩:=zdc oa ac;generalize d:yR (zV s (s.size+1) 0) s.size (zD (zV s (s.size+1) 0) s.size 10) 0=o at P S;have ae:o.k<=8:=(by rw[<-d];exact altP_k 0);by_cases g:o.k=0
  .obtain⟨w3,w4⟩:=S g;by_cases l:o.n=(zV s (s.size+1) 0).length
   ·(obtain⟨i,N,q,hA,ab⟩:=w3 l;obtain⟨z,af,an,u⟩:=hA.whole;have j:(yG s).1=i:=(by rw[N]);have y:(yG s).2.1=0:=(by rw[N]);have X:=YX s;rw[j] at X;have ag:z<=10000000:=by obtain⟨W,ad⟩:=u;have h1:=(zb0 W i 0 z 0 ad q.2 oa oa oa).2;omega);have F:=Yf (L:=zV s (s.size+1) 0) (T:=( s.size:Int)) (D:=zD (zV s (s.size+1) 0) ( s.size:Int) 10) (qI 10) 0 oa;rw[d] at F;have am:=F.2.2 g;by_cases r:o.v<300
    .have ah:z=o.v:=oa;refine O ⟨o.v,_,i,oa,r,?_,λw=>?_,λw a h=>za4 s w a h.sents h.size b c _ rfl o d g l r,ab,q.2,oa,rfl⟩
     .exact λf=>⟨whole_sh (YD s _ _) 10 0 f,whole_ln (by have:=we s (s.size+1) 0;omega) 10 0 f,zeV (λn f=>zcv 10 n f) 0 f⟩
     rw[<-ah,<-j];exact W8 s w z b c y (by rw[j];exact q.2) (by rw[j];exact u) oa af
    refine Q ⟨8,0,od,od,λw=>?_,λw a h=>za3 s w a h.sents h.size b c _ rfl o d g l oa,decide_eq_false (λh=>r (d ▸ h.2.2.2.2))⟩;exact zar s w z b c y (by rw[j];exact q.2) (by rw[j];exact u) oa ag
   obtain⟨l',m⟩:=w4 l;refine Q ⟨3,zC (zV s (s.size+1) 0) s.size o.n,od,od,λw=>?_,λw a h=>WV s w a h.sents h.size b c _ rfl o d g l,decide_eq_false (λh=>l (d ▸ h.2.2.2.1))⟩;have:=QN s w b c (by rw[m];show(3:Int)≠0;decide);rw[m] at this;exact this
  obtain⟨l',m⟩:=P g;refine Q ⟨o.k,o.p,oa,ae,λw=>?_,λw a h=>za2 s w a h.sents h.size b c _ rfl o d g,decide_eq_false (λh=>g (d ▸ h.2.2.1))⟩;have:=QN s w b c (by rw[m];show((o.k:Nat):Int)≠0;omega);rw[m] at this;exact this
 exact Q ⟨2,200,od,od,λw=>(VE s w oa).mono (by rintro e w' ⟨rfl,rfl⟩;exact⟨rfl,zf.refl _ _⟩),λw a h=>WT s w a h.sents oa,decide_eq_false (λh=>b h.1)⟩
def opV (k p f n:Int)(s:ByteArray)(a b c:Y):Y:=Uf #[M J k,M J p,M J f,M J n,Uc s,a,b,c]
end
