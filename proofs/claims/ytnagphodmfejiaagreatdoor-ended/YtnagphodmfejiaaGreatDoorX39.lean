/- What the program's runs ask of a program that was made. -/
import Derived.Test.YtnagphodmfejiaaGreatDoorX38
import Derived.Test.YtnagphodmfejiaaGreatDoorX34
namespace Go.Proofs.YtnagphodmfejiaaGreatDoor
section
open Sm (Tree)
theorem asks_of {F:Nat}{t:Tree}{W:Int→Bool}(h:Pro.jj F t)(hW:((Sm.prg F t).2.any askS)=true→W=Cs.zZ 119):Prg.Asks (Sm.prg F t).2 W:=fun p s hs hk=>by
 have h1:=Sm.prg_asks h s (List.mem_of_getElem? hs) hk
 refine ⟨h1,fun h2=>hW (List.any_eq_true.2 ⟨s,List.mem_of_getElem? hs,?_⟩)⟩
 unfold askS
 simp [hk]
 omega
end
section
open Go.RowKit
open Sm (Tree)
set_option maxHeartbeats 2000000
set_option maxRecDepth 1000000
theorem KB:∀ (js ks:List Nat),js.Pairwise (· < ·)→ks.Pairwise (· < ·)→(∀ j,j∈js↔j∈ks)→js=ks
 | [],[],_,_,_=>rfl
 | [],k :: ks,_,_,h=>absurd ((h k).2 (by simp)) (by simp)
 |j :: js,[],_,_,h=>absurd ((h j).1 (by simp)) (by simp)
 |j :: js,k :: ks,h1,h2,h=>by
  have a1:=List.pairwise_cons.1 h1
  have a2:=List.pairwise_cons.1 h2
  have e:j=k:=by
   rcases List.mem_cons.1 ((h j).1 (by simp)) with e |m
   ·exact e
   ·rcases List.mem_cons.1 ((h k).2 (by simp)) with e |m'
    ·exact e.symm
    ·have:=a1.1 k m';have:=a2.1 j m;omega
  subst e
  rw [KB js ks a1.2 a2.2 (fun x=>⟨fun hx=>?_,fun hx=>?_⟩)]
  ·rcases List.mem_cons.1 ((h x).1 (List.mem_cons_of_mem _ hx)) with e |m
   ·have:=a1.1 x hx;omega
   ·exact m
  ·rcases List.mem_cons.1 ((h x).2 (List.mem_cons_of_mem _ hx)) with e |m
   ·have:=a2.1 x hx;omega
   ·exact m
theorem qG.same {n:Nat}{X:Nat→Prop}{js ks:List Nat}(h:qG n X js)(g:qG n X ks):js=ks:=
 KB js ks h.1 g.1 (fun j=>by rw [h.2 j,g.2 j])
theorem qG.congr {n:Nat}{X Y:Nat→Prop}{js:List Nat}(h:qG n X js)(e:∀ j,X j↔Y j):qG n Y js:=⟨h.1,fun j=>by rw [h.2 j,e j]⟩
theorem qG.ex (n:Nat)(X:Nat→Prop):∃ js,qG n X js:=by
 classical
 refine ⟨(List.range (n+1)).filter (fun j=>decide (X j)),?_,fun j=>?_⟩
 ·exact (List.pairwise_lt_range (n:=n+1)).filter _
 ·simp [List.mem_filter,List.mem_range,Nat.lt_succ_iff]
def AnsE (k a:Int)(js:List Nat)(w:World)(x:Ending)(w':World):Prop:=
 ∃ sv,x = .returned (.tuple #[sv,.int .i64 k,.int .i64 a])∧w'.ownsRow w.heap.size 3 1 sv js.length (z8 js)∧zf (fun _=>False) w w'
def wU (s:ByteArray)(i:Int)(X:List (Int×Int)→Nat→Nat→Prop)(k a:Int)(js:List Nat):Prop:=
 (400<s.size∧k=2∧a=400∧js=[])∨(s.size≤400∧0≤(Ref.zG s).2∧k=1∧a=(Ref.zG s).2∧js=[])∨
 (s.size≤400∧(Ref.zG s).2<0∧(i<0∨((Ref.zG s).1.length:Int)<i)∧k=9∧a=0∧js=[])∨
 (∃ n:Nat,i=n∧s.size≤400∧(Ref.zG s).2<0∧n≤(Ref.zG s).1.length∧k=0∧a=0∧qG (Ref.zG s).1.length (X (Ref.zG s).1 n) js)
theorem wU.ex (s:ByteArray)(i:Int)(X:List (Int×Int)→Nat→Nat→Prop):∃ k a js,wU s i X k a js:=by
 by_cases hs:s.size≤400
 ·by_cases hc:0≤(Ref.zG s).2
  ·exact ⟨_,_,_,.inr (.inl ⟨hs,hc,rfl,rfl,rfl⟩)⟩
  ·by_cases hi:i<0∨((Ref.zG s).1.length:Int)<i
   ·exact ⟨_,_,_,.inr (.inr (.inl ⟨hs,by omega,hi,rfl,rfl,rfl⟩))⟩
   ·obtain ⟨js,h⟩:=qG.ex (Ref.zG s).1.length (X (Ref.zG s).1 i.toNat)
    exact ⟨0,0,js,.inr (.inr (.inr ⟨i.toNat,by omega,hs,by omega,by omega,rfl,rfl,h⟩))⟩
 ·exact ⟨_,_,_,.inl ⟨by omega,rfl,rfl,rfl⟩⟩
theorem AnsE.nil {k a:Int}{w w':World}{x:Ending}(h:x = .returned (.tuple #[.slice none 0 0,.int .i64 k,.int .i64 a])∧zf (fun _=>False) w w'):AnsE k a [] w x w':=
 ⟨_,h.1,World.ownsRow_nil _ _ _ _,h.2⟩
theorem zcX {s:ByteArray}{i k a:Int}{js:List Nat}{ts:List Tok}{kids:List Tree}{p:Nat}{w:World}(h:wU s i (fun tx n=>Ref.altR tx 67 kids n) k a js)(hP:PatR w p ts kids) :
  Calls Tryz.prog 25 #[.pointer (some ⟨p,0,none⟩),.string s,.int .i64 i] w (AnsE k a js w):=by
 rcases h with ⟨h1,rfl,rfl,rfl⟩ |⟨h1,h2,rfl,rfl,rfl⟩ |⟨h1,h2,h3,rfl,rfl,rfl⟩ |⟨n,rfl,h1,h2,h3,rfl,rfl,h4⟩
 ·exact (Js p s i 2 400 w (by decide) (zcN s w h1)).mono (fun _ _ h=>AnsE.nil h)
 ·exact (Js p s i 1 _ w (by decide) (text_bad s w h1 h2)).mono (fun _ _ h=>AnsE.nil h)
 ·exact (zcP p s i w h1 h2 h3).mono (fun _ _ h=>AnsE.nil h)
 ·refine (rends_ok p s n ts kids w hP h1 h2 h3).mono ?_
  rintro e w' ⟨sv,ks,h5,h6,h7,h8⟩
  rw [h7.same h4] at h6
  exact ⟨sv,h5,h6,h8⟩
theorem WY (g:Nat)(s:ByteArray)(i:Int)(w:World)(a:Nat→Addr)(k:Nat)(p:Int)(hS:Start w a)(k1:1≤k)(k2:k≤8)(hp:Calls Tryz.prog 47 #[.string s,.int .i64 400] w fun x w'=>∃ v,x = .returned (.tuple #[.slice none 0 0,v])∧zR w' w.heap.size v (zY a k) p∧zf (fun _=>False) w w') :
  Calls Tryz.prog 24 #[.pointer (some ⟨g,0,none⟩),.string s,.int .i64 i] w fun x w'=>x = .returned (.tuple #[.slice none 0 0,.int .i64 k,.int .i64 p])∧zf (fun _=>False) w w':=by
 have HS:=ze hS
 have HP:=ze hp
 clear hS hp
 go_enter Tryz.func24,Tryz.ntmps24
 go_wp2_with (first |(go_at_call 47;refine (zb HP).mono ?_;rintro e w1 ⟨v,rfl,hv,hO1⟩;have HV:=ze hv;obtain ⟨gq,hg,rfl,f0,f1⟩:=hv;have H0:=ze f0;have H1:=ze f1;clear f0 f1 HV) |(go_at_call 31;refine (X7 gq k a _ ((zb HS).keep hO1).sents ((zb HS).keep hO1).rows k1 k2 (zb H0)).mono ?_;rintro e wq ⟨rfl,hwq⟩;obtain rfl:=hwq.symm;clear hwq) |(go_at_call 32;refine (Jo gq p _ ((zb HS).keep hO1).et (zb H1)).mono ?_;rintro e w2 ⟨rfl,hO2⟩))
 go_ret3
 exact ⟨rfl,hO1.trans hO2⟩
theorem zcY (g:Nat)(s:ByteArray)(i:Int)(w:World)(a:Nat→Addr)(hS:Start w a)(hs:s.size≤400)(hc:(Ref.zG s).2<0)(hi:i<0∨((Pro.letM s (s.size+1) 0).length:Int)<i) :
  Calls Tryz.prog 24 #[.pointer (some ⟨g,0,none⟩),.string s,.int .i64 i] w fun x w'=>x = .returned (.tuple #[.slice none 0 0,.int .i64 9,.int .i64 0])∧zf (fun _=>False) w w':=by
 have HL:=ze (kl s 400 (by omega) hs w a hS.sents hS.size hc)
 generalize Pro.letM s (s.size+1) 0=L at *
 clear hS
 by_cases h0:i<0
 ·have hd:decide (i<0)=true:=by simp [h0]
  clear hi hc
  go_enter Tryz.func24,Tryz.ntmps24
  go_wp2_with (go_at_call 47;refine (zb HL).mono ?_;rintro e w1 ⟨v,rfl,hv,hO1⟩;rcases Qy hv with ⟨rfl,hnil⟩ |⟨gl,cap,rfl,_⟩<;>clear hv)
  all_goals go_ret3
  all_goals exact ⟨rfl,hO1⟩
 ·have h1:(L.length:Int)<i:=by omega
  have hd:decide (i<0)=false:=by simp;omega
  clear hi hc
  go_enter Tryz.func24,Tryz.ntmps24
  go_wp2_with (go_at_call 47;refine (zb HL).mono ?_;rintro e w1 ⟨v,rfl,hv,hO1⟩;obtain ⟨va,vc,rfl⟩:∃ va vc,v = .slice va L.length vc:=(by rcases Qy hv with ⟨e1,e2⟩ |⟨gl,cap,e1,_⟩;exact ⟨none,0,by rw [e1,e2];rfl⟩;exact ⟨_,_,e1⟩);clear hv)
  go_ret3
  exact ⟨rfl,hO1⟩
theorem lends_ok (g pb st n:Nat)(s:ByteArray)(N:List Sm.Stp)(W:Int→Bool)(A:Nat→Prop)(w:World)(a:Nat→Addr)(hS:Start w a)(hs:s.size≤400)(hc:(Ref.zG s).2<0)(hg:w.cell? ⟨g,1,none⟩=some (.pointer (some ⟨pb,0,none⟩)))(hP:jV w A pb N st W)(hn:n≤(Pro.letM s (s.size+1) 0).length) :
  Calls Tryz.prog 24 #[.pointer (some ⟨g,0,none⟩),.string s,.int .i64 (n:Nat)] w fun x w'=>∃ sv js,x = .returned (.tuple #[sv,.int .i64 0,.int .i64 0])∧w'.ownsRow w.heap.size 3 1 sv js.length (z8 js)∧qG (Pro.letM s (s.size+1) 0).length (Prg.GoP W (Pro.letM s (s.size+1) 0) N st n 0) js∧zf (fun _=>False) w w':=by
 have HL:=ze (kl s 400 (by omega) hs w a hS.sents hS.size hc)
 have hl:(Pro.letM s (s.size+1) 0).length≤s.size:=by rw [←(Prg.qB.of s).len];exact Ref.YF s
 generalize Pro.letM s (s.size+1) 0=L at *
 have HP:=ze hP
 have HG:=ze hg
 clear hS hP hg hc
 have hd:decide ((n:Int)<0)=false:=by simp
 go_enter Tryz.func24,Tryz.ntmps24
 go_wp2_with (first |(go_at_call 47;refine (zb HL).mono ?_;rintro e w1 ⟨v,rfl,hv,hO1⟩;have HV:Hid (ZD w1 v L):=(by show ZD w1 v L;rcases Qy hv with ⟨h1,h2⟩ |⟨gl,cap,h1,h2,_,h3⟩;exact .inl ⟨h1,h2⟩;exact .inr ⟨gl,cap,h1,h2,h3⟩);obtain ⟨va,vc,rfl⟩:=(zb HV).slice;clear hv;have hg1:=zg hO1 _ _ (zb HG) (fun f=>f)) |(go_at_call 51;refine (zcW pb st n N W L _ A _ ((zb HP).keep hO1 (fun _ _ f=>f)) (zb HV) hn (by omega)).mono ?_;rintro e w2 ⟨sv,js,rfl,hr,he,hO2⟩;have HR:=ze hr;have HE:=ze he;clear hr he))
 go_ret3
 exact ⟨sv,js,rfl,yD (zb HR) hO1.size,zb HE,hO1.trans hO2⟩
theorem zcZ {s:ByteArray}{i k a:Int}{js:List Nat}{ts:List Tok}{t:Tree}{v:Int}{B g:Nat}{w:World}{ad:Nat→Addr}(h:wU s i (fun tx n=>Ref.altR tx 67 t.kids n) k a js)(hS:Start w ad)(hC:kn w B g t v)(hT:Eqv.kw (Eqv.xZ 22) ts t.kids)(h5:t.kind=5) :
  Calls Tryz.prog 24 #[.pointer (some ⟨g,0,none⟩),.string s,.int .i64 i] w (AnsE k a js w):=by
 have hsame:=Prg.qB.of s
 have hlen:=hsame.len
 rcases h with ⟨h1,rfl,rfl,rfl⟩ |⟨h1,h2,rfl,rfl,rfl⟩ |⟨h1,h2,h3,rfl,rfl,rfl⟩ |⟨n,rfl,h1,h2,h3,rfl,rfl,h4⟩
 ·exact (WY g s i w ad 2 400 hS (by decide) (by decide) (YY s 400 (by omega) w ad hS.sents)).mono (fun _ _ h=>AnsE.nil h)
 ·exact (WY g s i w ad 1 _ hS (by decide) (by decide) (Jd s 400 (by omega) h1 w ad hS.sents hS.size h2)).mono (fun _ _ h=>AnsE.nil h)
 ·exact (zcY g s i w ad hS h1 h2 (by rw [←hlen];exact h3)).mono (fun _ _ h=>AnsE.nil h)
 ·obtain ⟨pb,F,W,hc1,hP,hW,hA,hF⟩:=hC.prog
  rw [hlen] at h3
  refine (lends_ok g pb _ n s _ W _ w ad hS h1 h2 hc1 hP h3).mono ?_
  rintro e w' ⟨sv,ks,h5',h6,h7,h8⟩
  have h9:qG (Ref.zG s).1.length (Ref.altR (Ref.zG s).1 67 t.kids n) ks:=by
   rw [hlen]
   exact h7.congr (fun j=>(Prg.goP_same hsame (asks_of hA hW) h3).trans (prg_altR hT h5 hF _ _ _))
  rw [h9.same h4] at h6
  exact ⟨sv,h5',h6,h8⟩
theorem zf.laterP {P Q:Nat→Prop}{a w w':World}(h:zf P a w)(k:zf Q w w')(hq:∀ i,i<a.heap.size→Q i→P i):zf P a w':=
 ⟨k.os.trans h.os,k.tape.trans h.tape,k.output.trans h.output,Nat.le_trans h.size k.size,fun i hi hp=>(k.block i (Nat.lt_of_lt_of_le hi h.size) (fun q=>hp (hq i hi q))).trans (h.block i hi hp)⟩
theorem wV {P:Program}(w:World){ops:Array Oper}{rest:List Oper}{o:Oper}{a:Act}{Q:Exit→Act→World→Prop}(hgd:o.guard=none)(s x:Operand)(t:TypeId)
  (ho:o.op = .call { callee:=.builtin .append,args:=#[s,x],argTypes:=#[t,t] })
  (base:Nat) (e:TypeId) (i:TypeInfo) (z:Value) (size bytes:Nat) (ht:P.underlying t=some (.slice e)) (hi:P.info? e=some i) (hz:i.zero=some z)
  (hsize:i.size=size) (hby:i.bytes=bytes) (hzs:z.cells.size=size) (hsz:0<size)
  (v:Value) (n:Nat) (xs:List Value) (hs:a.eval s=v) (hown:w.ownsRow base e size v n xs)
  (ad:Addr) (m c:Nat) (news:List Value) (hx:a.eval x = .slice (some ad) m c) (hl:news.length=m*size) (hnews:∀ j u,news[j]?=some u→w.cell? (ad.add j)=some u) (h1:∀ u∈news,u.oneCell'=true)
  (h63:n+m≤maxLen) (hbytes:(n+m)*bytes≤140737488355328) (hbase:base≤w.heap.size) (hm:0<m)
  (h:∀ v' w',w'.ownsRow base e size v' (n+m) (xs++news)→((∃ g,v.ownBlock=some g∧v'.ownBlock=some g∧w.grownBy w' (some g))∨(w.grownBy w' none∧∀ k,v'.ownBlock=some k→w.heap.size≤k))→wpList P ops Q rest (a.put o.dst v') w'):wpList P ops Q (o :: rest) a w:=by
 rcases hown.2 with ⟨rfl,rfl⟩ |⟨g,cap,cur,rfl,hbg,hg,hnc,hcm,hcs,htake⟩
 ·have hxs:xs=[]:=List.eq_nil_of_length_eq_zero (by simpa using hown.1)
  subst hxs
  exact wpList_append_grows w hgd s x t ho e i z size bytes ht hi hz hsize hby hzs hsz none 0 0 [] hs (fun _=>⟨rfl,rfl⟩) (by simp) (fun b hb=>by cases hb) ad m c news hx hl hnews h1 (by omega) h63 hbytes (fun v' w' h2 h3=>h v' w' (yD h2 hbase) (.inr ⟨h3,fun k hk=>(h2.lt k hk).1⟩))
 ·by_cases hroom:n+m≤cap
  ·exact wpList_append_fits w hgd s x t ho base e i size ht hi hsize g n cap xs hs hown ad m c news hx hl hnews h1 hroom (fun w' h2 h3=>h _ w' h2 (.inl ⟨g,rfl,rfl,h3⟩))
  ·exact wpList_append_grows w hgd s x t ho e i z size bytes ht hi hz hsize hby hzs hsz (some ⟨g,0,none⟩) n cap xs hs (fun hh=>by cases hh) hown.1 (fun b hb=>by cases hb;exact hown.cells (g:=g) rfl) ad m c news hx hl hnews h1 (by omega) h63 hbytes (fun v' w' h2 h3=>h v' w' (yD h2 hbase) (.inr ⟨h3,fun k hk=>(h2.lt k hk).1⟩))
def qu (w:World)(S:Nat→Prop)(gx gy:Nat):Prop:=
 ∃ (w0:World) (base:Nat) (t:Tree) (ts:List Tok) (v:Int) (tv:Value),(∀ k,base≤k→k<w0.heap.size→S k)∧zf (fun k=>k<base) w0 w∧base≤gx∧base≤gy∧kn w0 base gx t v∧
  w0.cell? ⟨gy,1,none⟩=some (.int .i64 (v+1))∧w0.cell? ⟨gy,0,none⟩=some tv∧xH w0 base tv ts∧Eqv.kw (Eqv.xZ 22) ts t.kids∧(∀ x∈ts,Ref.jz x)∧ts.length≤1000∧t.kind=5∧0≤v∧v<300
theorem qu.keep {P S:Nat→Prop}{w w':World}{gx gy:Nat}(h:qu w S gx gy)(k:zf P w w')(hn:∀ i,P i→¬S i):qu w' S gx gy:=by
 obtain ⟨w0,base,t,ts,v,tv,h1,h2,r⟩:=h
 refine ⟨w0,base,t,ts,v,tv,h1,h2.laterP k (fun i hi hp=>?_),r⟩
 by_cases hb:i<base
 ·exact hb
 ·exact absurd (h1 i (by omega) hi) (hn i hp)
theorem qu.wide {S S':Nat→Prop}{w:World}{gx gy:Nat}(h:qu w S gx gy)(hS:∀ i,S i→S' i):qu w S' gx gy:=by
 obtain ⟨w0,base,t,ts,v,tv,h1,r⟩:=h
 exact ⟨w0,base,t,ts,v,tv,fun k a b=>hS k (h1 k a b),r⟩
theorem qu.use {S:Nat→Prop}{w:World}{gx gy:Nat}(h:qu w S gx gy):∃ base t ts v,kn w base gx t v∧PatR w gy ts t.kids∧w.cell? ⟨gy,1,none⟩=some (.int .i64 (v+1))∧Eqv.kw (Eqv.xZ 22) ts t.kids∧t.kind=5∧0≤v∧v<300∧base≤gx:=by
 obtain ⟨w0,base,t,ts,v,tv,h1,h2,h3,h4,h5,h6,h7,h8,h9,h10,h11,h12,h13,h14⟩:=h
 have hT:=TokSl.of (h8.keep h2 (fun g hg _=>by omega))
 have hc:=zg h2 _ _ h7 (show ¬gy<base by omega)
 refine ⟨base,t,ts,v,h5.keep h2 (fun k hk=>by omega) h3,⟨?_,h9,h10,h11⟩,zg h2 _ _ h6 (show ¬gy<base by omega),h9,h12,h13,h14,h3⟩
 rcases hT with ⟨rfl,rfl⟩ |⟨g,cap,rfl,e1,e2⟩
 ·exact ⟨none,0,hc,.inl ⟨rfl,rfl⟩⟩
 ·exact ⟨_,_,hc,.inr ⟨g,cap,rfl,e1,e2⟩⟩
def ListM (w:World)(S:Nat→Prop)(v:Value)(m:Int):Prop:=v = .slice none 0 0∨∃ g n cap,v = .slice (some ⟨g,0,none⟩) n cap∧n≤1000∧S g∧∀ j,j<n→w.cell? ⟨g,j,none⟩=some (.int .i64 m)
theorem ListM.keep {P S:Nat→Prop}{w w':World}{v:Value}{m:Int}(h:ListM w S v m)(k:zf P w w')(hn:∀ i,P i→¬S i):ListM w' S v m:=by
 rcases h with h |⟨g,n,cap,h1,h2,h3,h4⟩
 ·exact .inl h
 ·exact .inr ⟨g,n,cap,h1,h2,h3,fun j hj=>zg k _ _ (h4 j hj) (fun p=>hn g p h3)⟩
theorem ListM.wide {S S':Nat→Prop}{w:World}{v:Value}{m:Int}(h:ListM w S v m)(hS:∀ i,S i→S' i):ListM w S' v m:=by
 rcases h with h |⟨g,n,cap,h1,h2,h3,h4⟩
 ·exact .inl h
 ·exact .inr ⟨g,n,cap,h1,h2,hS g h3,h4⟩
def jr:List (Nat×Nat)→List Value
 | []=>[]
 |q :: r=>.pointer (some ⟨q.1,0,none⟩) :: .pointer (some ⟨q.2,0,none⟩) :: jr r
theorem JL (ps:List (Nat×Nat))(q:Nat×Nat):jr (ps++[q])=jr ps++[.pointer (some ⟨q.1,0,none⟩),.pointer (some ⟨q.2,0,none⟩)]:=by
 induction ps with
 |nil=>rfl
 |cons x r ih=>simp [jr,ih]
theorem ZI:∀ (ps:List (Nat×Nat))(j:Nat)(q:Nat×Nat),ps[j]?=some q→(jr ps)[j*2]?=some (.pointer (some ⟨q.1,0,none⟩))∧(jr ps)[j*2+1]?=some (.pointer (some ⟨q.2,0,none⟩))
 | [],j,q,h=>by simp at h
 |x :: r,0,q,h=>by
  simp only [List.getElem?_cons_zero,Option.some.injEq] at h
  subst h
  exact ⟨rfl,rfl⟩
 |x :: r,j+1,q,h=>by
  have:=ZI r j q (by simpa using h)
  rw [show (j+1)*2=j*2+2 by omega]
  exact this
def wg (ms:List Int):List Value:=ms.map fun m=>Value.int .i64 m
structure jK (wi w:World)(S:Nat→Prop)(ps:List (Nat×Nat))(pv iv mv:Value)(vs:List Value)(ms:List Int):Prop where
 old:zf (fun _=>False) wi w
 lt:wi.heap.size<w.heap.size
 c0:w.cell? ⟨wi.heap.size,0,none⟩=some pv
 c1:w.cell? ⟨wi.heap.size,1,none⟩=some (.slice none 0 0)
 c2:w.cell? ⟨wi.heap.size,2,none⟩=some iv
 c3:w.cell? ⟨wi.heap.size,3,none⟩=some mv
 c4:w.cell? ⟨wi.heap.size,4,none⟩=some (.slice none 0 0)
 c6:w.cell? ⟨wi.heap.size,6,none⟩=some (.slice none 0 0)
 c7:w.cell? ⟨wi.heap.size,7,none⟩=some (.slice none 0 0)
 c8:w.cell? ⟨wi.heap.size,8,none⟩=some (.slice none 0 0)
 c9:w.cell? ⟨wi.heap.size,9,none⟩=some (.slice none 0 0)
 c10:∃ m,w.cell? ⟨wi.heap.size,10,none⟩=some (.int .i64 m)
 fz:∀ j,w.frozen? ⟨wi.heap.size,j,none⟩=false
 rp:w.ownsRow (wi.heap.size+1) 46 2 pv ps.length (jr ps)
 ri:w.ownsRow (wi.heap.size+1) 23 1 iv vs.length vs
 rm:w.ownsRow (wi.heap.size+1) 3 1 mv ms.length (wg ms)
 sp:∀ g,pv.ownBlock=some g→¬S g
 si:∀ g,iv.ownBlock=some g→¬S g
 sm:∀ g,mv.ownBlock=some g→¬S g
 nb:¬S wi.heap.size
 pats:∀ q∈ps,qu w S q.1 q.2
 sl:∀ k,S k→k<w.heap.size
theorem jK.keep {P S:Nat→Prop}{wi w w':World}{ps:List (Nat×Nat)}{pv iv mv:Value}{vs:List Value}{ms:List Int}(h:jK wi w S ps pv iv mv vs ms)(k:zf P w w')(hP:∀ i,P i→¬S i∧wi.heap.size<i∧pv.ownBlock≠some i∧iv.ownBlock≠some i∧mv.ownBlock≠some i):jK wi w' S ps pv iv mv vs ms:=by
 have hb:¬P wi.heap.size:=fun p=>by have:=(hP _ p).2.1;omega
 obtain ⟨m,hm⟩:=h.c10
 exact ⟨h.old.under k (fun j hj p=>by have:=(hP _ p).2.1;omega),Nat.lt_of_lt_of_le h.lt k.size,zg k _ _ h.c0 hb,zg k _ _ h.c1 hb,zg k _ _ h.c2 hb,zg k _ _ h.c3 hb,zg k _ _ h.c4 hb,zg k _ _ h.c6 hb,zg k _ _ h.c7 hb,zg k _ _ h.c8 hb,zg k _ _ h.c9 hb,⟨m,zg k _ _ hm hb⟩,fun j=>zw k _ h.lt (h.fz j) hb,
  zp h.rp k (fun g hg p=>(hP g p).2.2.1 hg),zp h.ri k (fun g hg p=>(hP g p).2.2.2.1 hg),zp h.rm k (fun g hg p=>(hP g p).2.2.2.2 hg),h.sp,h.si,h.sm,h.nb,fun q hq=>(h.pats q hq).keep k (fun i p=>(hP i p).1),fun j hj=>Nat.lt_of_lt_of_le (h.sl j hj) k.size⟩
theorem jK.keep0 {S:Nat→Prop}{wi w w':World}{ps:List (Nat×Nat)}{pv iv mv:Value}{vs:List Value}{ms:List Int}(h:jK wi w S ps pv iv mv vs ms)(k:zf (fun _=>False) w w'):jK wi w' S ps pv iv mv vs ms:=h.keep k (fun _ p=>p.elim)
theorem zt {w:World}{b i j:Nat}{v u:Value}(hij:i≠j)(h:w.cell? ⟨b,j,none⟩=some v):(w.setCell ⟨b,i,none⟩ u).cell? ⟨b,j,none⟩=some v:=
 (World.cell?_setCell_other _ _ _ _ (by intro e;exact hij (by have h2:=congrArg Addr.off e;simp only [] at h2;omega))).trans h
theorem jK.setP {S:Nat→Prop}{wi w w1:World}{ps:List (Nat×Nat)}{pv iv mv v':Value}{vs:List Value}{ms:List Int}{ps':List (Nat×Nat)}(h:jK wi w S ps pv iv mv vs ms)(k:zf (fun i=>pv.ownBlock=some i) w w1)(hr:w1.ownsRow (wi.heap.size+1) 46 2 v' ps'.length (jr ps'))(hb:∀ i,v'.ownBlock=some i→pv.ownBlock=some i∨w.heap.size≤i)(hp:∀ q∈ps',qu w S q.1 q.2):jK wi (w1.setCell ⟨wi.heap.size,0,none⟩ v') S ps' v' iv mv vs ms:=by
 have hbl:∀ i,pv.ownBlock=some i→wi.heap.size<i:=fun i hi=>by have:=(zh h.rp i hi).1;omega
 have hn:¬pv.ownBlock=some wi.heap.size:=fun e=>by have:=hbl _ e;omega
 obtain ⟨m,hm⟩:=h.c10
 have k2:zf (zm wi.heap.size) w1 (w1.setCell ⟨wi.heap.size,0,none⟩ v'):=(zf.refl _ _).mine _ _
 have hM:∀ i,wi.heap.size+1≤i→¬zm wi.heap.size i:=fun i hi e=>by have:i=wi.heap.size:=e;omega
 exact ⟨(h.old.under k (fun j hj e=>by have:=hbl _ e;omega)).under k2 (fun j hj e=>by have:j=wi.heap.size:=e;omega),by have:=k.size;have:=h.lt;simp;omega,
  World.cell?_setCell_same _ _ _ (zg k _ _ h.c0 hn),zt (by decide) (zg k _ _ h.c1 hn),zt (by decide) (zg k _ _ h.c2 hn),zt (by decide) (zg k _ _ h.c3 hn),zt (by decide) (zg k _ _ h.c4 hn),zt (by decide) (zg k _ _ h.c6 hn),zt (by decide) (zg k _ _ h.c7 hn),zt (by decide) (zg k _ _ h.c8 hn),zt (by decide) (zg k _ _ h.c9 hn),⟨m,zt (by decide) (zg k _ _ hm hn)⟩,
  fun j=>by rw [World.frozen?_setCell];exact zw k _ h.lt (h.fz j) hn,
  zp hr k2 (fun g hg=>hM g (zh hr g hg).1),
  zp (zp h.ri k (fun g hg=>jl h.ri h.rp (by decide) g hg)) k2 (fun g hg=>hM g (zh h.ri g hg).1),
  zp (zp h.rm k (fun g hg=>jl h.rm h.rp (by decide) g hg)) k2 (fun g hg=>hM g (zh h.rm g hg).1),
  fun g hg=>(hb g hg).elim (h.sp g) (fun e s=>by have:=h.sl g s;omega),h.si,h.sm,h.nb,
  fun q hq=>((hp q hq).keep k (fun i e=>h.sp i e)).keep k2 (fun i e=>by have:i=wi.heap.size:=e;subst this;exact h.nb),fun j hj=>by have:=h.sl j hj;have:=k.size;simp;omega⟩
theorem jK.setI {S:Nat→Prop}{wi w w1:World}{ps:List (Nat×Nat)}{pv iv mv v':Value}{vs:List Value}{ms:List Int}{vs':List Value}(h:jK wi w S ps pv iv mv vs ms)(k:zf (fun i=>iv.ownBlock=some i) w w1)(hr:w1.ownsRow (wi.heap.size+1) 23 1 v' vs'.length vs')(hb:∀ i,v'.ownBlock=some i→iv.ownBlock=some i∨w.heap.size≤i):jK wi (w1.setCell ⟨wi.heap.size,2,none⟩ v') S ps pv v' mv vs' ms:=by
 have hbl:∀ i,iv.ownBlock=some i→wi.heap.size<i:=fun i hi=>by have:=(zh h.ri i hi).1;omega
 have hn:¬iv.ownBlock=some wi.heap.size:=fun e=>by have:=hbl _ e;omega
 obtain ⟨m,hm⟩:=h.c10
 have k2:zf (zm wi.heap.size) w1 (w1.setCell ⟨wi.heap.size,2,none⟩ v'):=(zf.refl _ _).mine _ _
 have hM:∀ i,wi.heap.size+1≤i→¬zm wi.heap.size i:=fun i hi e=>by have:i=wi.heap.size:=e;omega
 exact ⟨(h.old.under k (fun j hj e=>by have:=hbl _ e;omega)).under k2 (fun j hj e=>by have:j=wi.heap.size:=e;omega),by have:=k.size;have:=h.lt;simp;omega,
  zt (by decide) (zg k _ _ h.c0 hn),zt (by decide) (zg k _ _ h.c1 hn),World.cell?_setCell_same _ _ _ (zg k _ _ h.c2 hn),zt (by decide) (zg k _ _ h.c3 hn),zt (by decide) (zg k _ _ h.c4 hn),zt (by decide) (zg k _ _ h.c6 hn),zt (by decide) (zg k _ _ h.c7 hn),zt (by decide) (zg k _ _ h.c8 hn),zt (by decide) (zg k _ _ h.c9 hn),⟨m,zt (by decide) (zg k _ _ hm hn)⟩,
  fun j=>by rw [World.frozen?_setCell];exact zw k _ h.lt (h.fz j) hn,
  zp (zp h.rp k (fun g hg=>jl h.rp h.ri (by decide) g hg)) k2 (fun g hg=>hM g (zh h.rp g hg).1),
  zp hr k2 (fun g hg=>hM g (zh hr g hg).1),
  zp (zp h.rm k (fun g hg=>jl h.rm h.ri (by decide) g hg)) k2 (fun g hg=>hM g (zh h.rm g hg).1),
  h.sp,fun g hg=>(hb g hg).elim (h.si g) (fun e s=>by have:=h.sl g s;omega),h.sm,h.nb,
  fun q hq=>((h.pats q hq).keep k (fun i e=>h.si i e)).keep k2 (fun i e=>by have:i=wi.heap.size:=e;subst this;exact h.nb),fun j hj=>by have:=h.sl j hj;have:=k.size;simp;omega⟩
theorem jK.setM {S:Nat→Prop}{wi w w1:World}{ps:List (Nat×Nat)}{pv iv mv v':Value}{vs:List Value}{ms:List Int}{ms':List Int}(h:jK wi w S ps pv iv mv vs ms)(k:zf (fun i=>mv.ownBlock=some i) w w1)(hr:w1.ownsRow (wi.heap.size+1) 3 1 v' ms'.length (wg ms'))(hb:∀ i,v'.ownBlock=some i→mv.ownBlock=some i∨w.heap.size≤i):jK wi (w1.setCell ⟨wi.heap.size,3,none⟩ v') S ps pv iv v' vs ms':=by
 have hbl:∀ i,mv.ownBlock=some i→wi.heap.size<i:=fun i hi=>by have:=(zh h.rm i hi).1;omega
 have hn:¬mv.ownBlock=some wi.heap.size:=fun e=>by have:=hbl _ e;omega
 obtain ⟨m,hm⟩:=h.c10
 have k2:zf (zm wi.heap.size) w1 (w1.setCell ⟨wi.heap.size,3,none⟩ v'):=(zf.refl _ _).mine _ _
 have hM:∀ i,wi.heap.size+1≤i→¬zm wi.heap.size i:=fun i hi e=>by have:i=wi.heap.size:=e;omega
 exact ⟨(h.old.under k (fun j hj e=>by have:=hbl _ e;omega)).under k2 (fun j hj e=>by have:j=wi.heap.size:=e;omega),by have:=k.size;have:=h.lt;simp;omega,
  zt (by decide) (zg k _ _ h.c0 hn),zt (by decide) (zg k _ _ h.c1 hn),zt (by decide) (zg k _ _ h.c2 hn),World.cell?_setCell_same _ _ _ (zg k _ _ h.c3 hn),zt (by decide) (zg k _ _ h.c4 hn),zt (by decide) (zg k _ _ h.c6 hn),zt (by decide) (zg k _ _ h.c7 hn),zt (by decide) (zg k _ _ h.c8 hn),zt (by decide) (zg k _ _ h.c9 hn),⟨m,zt (by decide) (zg k _ _ hm hn)⟩,
  fun j=>by rw [World.frozen?_setCell];exact zw k _ h.lt (h.fz j) hn,
  zp (zp h.rp k (fun g hg=>jl h.rp h.rm (by decide) g hg)) k2 (fun g hg=>hM g (zh h.rp g hg).1),
  zp (zp h.ri k (fun g hg=>jl h.ri h.rm (by decide) g hg)) k2 (fun g hg=>hM g (zh h.ri g hg).1),
  zp hr k2 (fun g hg=>hM g (zh hr g hg).1),
  h.sp,h.si,fun g hg=>(hb g hg).elim (h.sm g) (fun e s=>by have:=h.sl g s;omega),h.nb,
  fun q hq=>((h.pats q hq).keep k (fun i e=>h.sm i e)).keep k2 (fun i e=>by have:i=wi.heap.size:=e;subst this;exact h.nb),fun j hj=>by have:=h.sl j hj;have:=k.size;simp;omega⟩
theorem jK.setL {S:Nat→Prop}{wi w:World}{ps:List (Nat×Nat)}{pv iv mv:Value}{vs:List Value}{ms:List Int}(h:jK wi w S ps pv iv mv vs ms)(m:Int):jK wi (w.setCell ⟨wi.heap.size,10,none⟩ (.int .i64 m)) S ps pv iv mv vs ms:=by
 have k2:zf (zm wi.heap.size) w (w.setCell ⟨wi.heap.size,10,none⟩ (.int .i64 m)):=(zf.refl _ _).mine _ _
 have hM:∀ i,wi.heap.size+1≤i→¬zm wi.heap.size i:=fun i hi e=>by have:i=wi.heap.size:=e;omega
 obtain ⟨m0,hm⟩:=h.c10
 exact ⟨h.old.under k2 (fun j hj e=>by have:j=wi.heap.size:=e;omega),by have:=h.lt;simp;omega,
  zt (by decide) h.c0,zt (by decide) h.c1,zt (by decide) h.c2,zt (by decide) h.c3,zt (by decide) h.c4,zt (by decide) h.c6,zt (by decide) h.c7,zt (by decide) h.c8,zt (by decide) h.c9,⟨m,World.cell?_setCell_same _ _ _ hm⟩,
  fun j=>by rw [World.frozen?_setCell];exact h.fz j,
  zp h.rp k2 (fun g hg=>hM g (zh h.rp g hg).1),zp h.ri k2 (fun g hg=>hM g (zh h.ri g hg).1),zp h.rm k2 (fun g hg=>hM g (zh h.rm g hg).1),
  h.sp,h.si,h.sm,h.nb,fun q hq=>(h.pats q hq).keep k2 (fun i e=>by have:i=wi.heap.size:=e;subst this;exact h.nb),fun j hj=>by have:=h.sl j hj;simp;omega⟩
def kz (wi w:World)(S:Nat→Prop)(ps:List (Nat×Nat))(ls:List (Value×Int)):Prop:=
 (∃ pv iv mv,jK wi w S ps pv iv mv (ls.map (·.1)) (ls.map (·.2)))∧∀ l∈ls,ListM w S l.1 l.2
theorem kz.keep0 {S:Nat→Prop}{wi w w':World}{ps:List (Nat×Nat)}{ls:List (Value×Int)}(h:kz wi w S ps ls)(k:zf (fun _=>False) w w'):kz wi w' S ps ls:=by
 obtain ⟨⟨pv,iv,mv,h1⟩,h2⟩:=h
 exact ⟨⟨pv,iv,mv,h1.keep0 k⟩,fun l hl=>(h2 l hl).keep k (fun _ p=>p.elim)⟩
set_option maxHeartbeats 4000000
theorem YH {w:World}{base:Nat}{e:TypeId}{v:Value}{n:Nat}{xs:List Value}(h:w.ownsRow base e 1 v n xs):∃ a c,v = .slice a n c∧∀ (j:Nat) u,xs[j]?=some u→∃ g,a=some ⟨g,0,none⟩∧w.cell? ⟨g,j,none⟩=some u:=by
 have hx:=h.1
 rcases h.2 with ⟨rfl,rfl⟩ |⟨g,cap,cur,rfl,hbg,hg,hnc,hcm,hcs,htake⟩
 ·exact ⟨none,0,rfl,fun j u hj=>by have:=(List.getElem?_eq_some_iff.1 hj).1;omega⟩
 ·exact ⟨_,cap,rfl,fun j u hj=>⟨g,rfl,(h.cellAt _ (by have:=(List.getElem?_eq_some_iff.1 hj).1;omega)).trans hj⟩⟩
theorem KC {S:Nat→Prop}{wi w:World}{ps:List (Nat×Nat)}{ls:List (Value×Int)}(h:kz wi w S ps ls)(hl:ls.length≤1000000000000000) :
  Calls Tryz.prog 7 #[.pointer (some ⟨wi.heap.size,0,none⟩)] w fun e w'=>e = .returned (.bool true)∧zf (fun _=>False) w w':=by
 obtain ⟨⟨pv,iv,mv,hR⟩,hL⟩:=h
 have c2:=hR.c2
 have c3:=hR.c3
 have c4:=hR.c4
 have c6:=hR.c6
 have c7:=hR.c7
 have c8:=hR.c8
 have c9:=hR.c9
 obtain ⟨ia,ic,rfl,hi⟩:=YH hR.ri
 obtain ⟨ma,mc,rfl,hm⟩:=YH hR.rm
 simp only [List.length_map] at c2 c3
 have HI:=ze hi
 have HM:=ze hm
 have HL:=ze hL
 clear hR hi hm hL
 go_enter Tryz.func7,Tryz.ntmps7
 go_wp2_with fail
 go_loopw [3] (fun k wr=>∃ n:Nat,k = .int .i64 n∧n≤ls.length∧Hid (zf (fun _=>False) w wr)) (fun k _=>ls.length-(intOf k).toNat)
 case atStart=>exact ⟨0,rfl,by omega,zf.refl _ _⟩
 case round=>
  obtain ⟨n,rfl,hn,HK⟩:=hrel
  have kk:=zb HK
  replace c2:=zg kk _ _ c2 (fun f=>f)
  replace c3:=zg kk _ _ c3 (fun f=>f)
  replace c4:=zg kk _ _ c4 (fun f=>f)
  replace c6:=zg kk _ _ c6 (fun f=>f)
  replace c7:=zg kk _ _ c7 (fun f=>f)
  replace c8:=zg kk _ _ c8 (fun f=>f)
  replace c9:=zg kk _ _ c9 (fun f=>f)
  clear kk
  by_cases hlt:n<ls.length
  ·obtain ⟨gi,rfl,hci⟩:=zb HI n ls[n].1 (by simp [hlt])
   obtain ⟨gm,rfl,hcm⟩:=zb HM n (.int .i64 ls[n].2) (by unfold wg;simp [hlt])
   have hq:=zb HL ls[n] (List.getElem_mem hlt)
   generalize ls[n]=l at *
   obtain ⟨lv,m⟩:=l
   simp only [] at hci hcm hq
   replace hci:=zg (zb HK) _ _ hci (fun f=>f)
   replace hcm:=zg (zb HK) _ _ hcm (fun f=>f)
   have HI0:=HI
   clear HI HM HL HI0
   rcases hq with rfl |⟨g,q,cap,rfl,hq,_,hqc⟩
   ·go_wp2_with fail
    refine wp_loop_rounds 1 ?_
    rw [rounds_succ]
    go_wp2_with fail
    exact ⟨⟨n+1,by go_num,by omega,HK⟩,by simp [intOf];omega⟩
   ·go_wp2_with fail
    go_loopw [4] (fun k wr'=>∃ j:Nat,k = .int .i64 j∧j≤q∧Hid (zf (fun _=>False) wr wr')) (fun k _=>q-(intOf k).toNat)
    case atStart=>exact ⟨0,rfl,by omega,zf.refl _ _⟩
    case round=>
     obtain ⟨j,rfl,hj,HJ⟩:=hrel
     have kk:=zb HJ
     replace c2:=zg kk _ _ c2 (fun f=>f)
     replace c3:=zg kk _ _ c3 (fun f=>f)
     replace hci:=zg kk _ _ hci (fun f=>f)
     replace hcm:=zg kk _ _ hcm (fun f=>f)
     clear kk
     by_cases hjq:j<q
     ·have hcj:=zg (zb HJ) _ _ (zg (zb HK) _ _ (hqc j hjq) (fun f=>f)) (fun f=>f)
      go_wp2_with fail
      go_region
      go_wp2_with fail
      exact ⟨⟨j+1,by go_num,by omega,(zb HJ).drew⟩,by simp [intOf];omega⟩
     ·go_wp2_with fail
      exact ⟨⟨n+1,by go_num,by omega,(zb HK).trans (zb HJ)⟩,by simp [intOf];omega⟩
  ·clear HI HM HL
   go_wp2_with fail
   refine wp_loop_rounds 1 ?_
   rw [rounds_succ]
   go_wp2_with fail
   refine wp_loop_rounds 1 ?_
   rw [rounds_succ]
   go_wp2_with fail
   refine wp_loop_rounds 1 ?_
   rw [rounds_succ]
   go_wp2_with fail
   refine wp_loop_rounds 1 ?_
   rw [rounds_succ]
   go_wp2_with fail
   refine wp_loop_rounds 1 ?_
   rw [rounds_succ]
   go_wp2_with fail
   go_ret
   exact ⟨rfl,zb HK⟩
theorem Vc {w:World}{va vb:Value}{js:List Nat}(ha:q9 w va js)(hb:q9 w vb js)(hl:js.length≤1000000) :
  Calls Tryz.prog 26 #[va,vb] w fun e w'=>e = .returned (.bool true)∧zf (fun _=>False) w w':=by
 obtain ⟨aa,ac,rfl⟩:=ha.slice
 obtain ⟨ba,bc,rfl⟩:=hb.slice
 have HA:=ze ha
 have HB:=ze hb
 clear ha hb
 go_enter Tryz.func26,Tryz.ntmps26
 go_wp2_with fail
 go_loopw [5] (fun k wr=>∃ n:Nat,k = .int .i64 n∧n≤js.length∧Hid (zf (fun _=>False) w wr)) (fun k _=>js.length-(intOf k).toNat)
 case atStart=>exact ⟨0,rfl,by omega,zf.refl _ _⟩
 case round=>
  obtain ⟨n,rfl,hn,HK⟩:=hrel
  by_cases hlt:n<js.length
  ·rcases zb HA with ⟨_,e⟩ |⟨g1,k1,e1,_,q1⟩
   ·rw [e] at hlt;simp at hlt
   ·rcases zb HB with ⟨_,e⟩ |⟨g2,k2,e2,_,q2⟩
    ·rw [e] at hlt;simp at hlt
    ·cases e1
     cases e2
     have z1:=zg (zb HK) _ _ (q1 n js[n] (List.getElem?_eq_getElem hlt)) (fun f=>f)
     have z2:=zg (zb HK) _ _ (q2 n js[n] (List.getElem?_eq_getElem hlt)) (fun f=>f)
     generalize js[n]=x at *
     clear HA HB q1 q2
     go_wp2_with fail
     go_region
     go_wp2_with fail
     exact ⟨⟨n+1,by go_num,by omega,(zb HK).drew⟩,by simp [intOf];omega⟩
  ·go_wp2_with fail
   go_ret
   exact ⟨rfl,zb HK⟩
theorem own_fz {w:World}{base g n cap size:Nat}{e:TypeId}{xs:List Value}(h:w.ownsRow base e size (.slice (some ⟨g,0,none⟩) n cap) n xs)(t:Nat):w.frozen? ⟨g,t,none⟩=false:=by
 rcases h.2 with ⟨h1,_⟩ |⟨g',cap',cur,h1,h2,h3,_⟩
 ·cases h1
 ·cases h1;simp [World.frozen?,h3]
theorem mark_any {S:Nat→Prop}{wi w:World}{ps:List (Nat×Nat)}{pv iv mv:Value}{vs:List Value}{ms:List Int}(h:jK wi w S ps pv iv mv vs ms) :
  Calls Tryz.prog 46 #[.pointer (some ⟨wi.heap.size,0,none⟩)] w fun e w'=>∃ m,e = .returned (.int .i64 m)∧jK wi w' S ps pv iv mv vs ms∧zf (zm wi.heap.size) w w':=by
 obtain ⟨m0,c10⟩:=h.c10
 have f10:=h.fz 10
 have H:=ze h
 clear h
 go_enter Tryz.func46,Tryz.ntmps46
 go_wp2_with fail
 go_ret
 exact ⟨_,rfl,(zb H).setL _,(zf.refl _ _).mine _ _⟩
def YI (w:World)(z n:Nat)(m:Int)(ns:List Value)(iv mv:Value):Prop:=∀ x∈ns,x = .slice none 0 0∨∃ g q cap,x = .slice (some ⟨g,0,none⟩) q cap∧q≤n∧z≤g∧g<w.heap.size∧iv.ownBlock≠some g∧mv.ownBlock≠some g∧∀ j,j<q→w.cell? ⟨g,j,none⟩=some (.int .i64 m)
theorem YI.rows {P:Nat→Prop}{w w':World}{z n:Nat}{m:Int}{ns:List Value}{iv mv iv' mv':Value}(h:YI w z n m ns iv mv)(k:zf P w w')(hP:∀ g,P g→iv.ownBlock=some g∨mv.ownBlock=some g∨g<z)(h1:∀ g,iv'.ownBlock=some g→iv.ownBlock=some g∨w.heap.size≤g)(h2:∀ g,mv'.ownBlock=some g→mv.ownBlock=some g∨w.heap.size≤g):YI w' z n m ns iv' mv':=fun x hx=>by
 rcases h x hx with h |⟨g,q,cap,e1,e2,e3,e4,e5,e6,e7⟩
 ·exact .inl h
 ·refine .inr ⟨g,q,cap,e1,e2,e3,Nat.lt_of_lt_of_le e4 k.size,fun e=>(h1 g e).elim e5 (fun _=>by omega),fun e=>(h2 g e).elim e6 (fun _=>by omega),fun j hj=>zg k _ _ (e7 j hj) (fun p=>?_)⟩
  rcases hP g p with e |e |e
  ·exact e5 e
  ·exact e6 e
  ·omega
theorem YI.add {w:World}{z n:Nat}{m:Int}{ns:List Value}{iv mv lv:Value}(h:YI w z n m ns iv mv)(hr:w.ownsRow z 3 1 lv n (List.replicate n (.int .i64 m)))(h1:∀ g,lv.ownBlock=some g→iv.ownBlock≠some g)(h2:∀ g,lv.ownBlock=some g→mv.ownBlock≠some g):YI w z n m (ns++[lv]) iv mv:=fun x hx=>by
 rcases List.mem_append.1 hx with hx |hx
 ·exact h x hx
 ·simp only [List.mem_singleton] at hx
  subst hx
  have hb:=zh hr
  rcases hr.2 with ⟨rfl,rfl⟩ |⟨g,cap,cur,rfl,hbg,hg,hnc,hcm,hcs,htake⟩
  ·exact .inl rfl
  ·exact .inr ⟨g,n,cap,rfl,Nat.le_refl _,(hb g rfl).1,(hb g rfl).2,h1 g rfl,h2 g rfl,fun j hj=>(hr.cellAt _ (by omega)).trans (by rw [List.getElem?_replicate,if_pos hj])⟩
theorem YI.grow {w w':World}{z n:Nat}{m:Int}{ns:List Value}{iv mv lv lv':Value}(h:YI w z n m ns iv mv)(hr:w'.ownsRow z 3 1 lv' (n+1) (List.replicate (n+1) (.int .i64 m)))(hg:(∃ g,lv.ownBlock=some g∧lv'.ownBlock=some g∧w.grownBy w' (some g))∨(w.grownBy w' none∧∀ k,lv'.ownBlock=some k→w.heap.size≤k)):YI w' z (n+1) m ns iv mv:=fun x hx=>by
 rcases h x hx with h |⟨g,q,cap,e1,e2,e3,e4,e5,e6,e7⟩
 ·exact .inl h
 ·rcases hg with ⟨g0,a1,a2,a3⟩ |⟨a1,_⟩
  ·have k:=zf.ofGrown a3
   refine .inr ⟨g,q,cap,e1,by omega,e3,Nat.lt_of_lt_of_le e4 k.size,e5,e6,fun j hj=>?_⟩
   by_cases e:g0=g
   ·subst e
    rcases hr.2 with ⟨rfl,_⟩ |⟨g',cap',cur,rfl,_⟩
    ·simp [Value.ownBlock] at a2
    ·obtain rfl:g'=g0:=by simpa [Value.ownBlock] using a2
     exact (hr.cellAt _ (by omega)).trans (by rw [List.getElem?_replicate,if_pos (by omega)])
   ·exact zg k _ _ (e7 j hj) (fun p=>e (Option.some.inj p))
  ·have k:=zf.ofGrown a1
   exact .inr ⟨g,q,cap,e1,by omega,e3,Nat.lt_of_lt_of_le e4 k.size,e5,e6,fun j hj=>zg k _ _ (e7 j hj) (fun p=>by cases p)⟩
theorem jK.close {S:Nat→Prop}{wi w w':World}{ps:List (Nat×Nat)}{pv iv mv iv0 mv0:Value}{ls:List (Value×Int)}{vs0:List Value}{ms0:List Int}{ns:List Value}{m:Int}{n:Nat}(h0:jK wi w S ps pv iv0 mv0 vs0 ms0)(hL:∀ l∈ls,ListM w S l.1 l.2)(k:zf (fun i=>¬S i) w w')(h:jK wi w' S ps pv iv mv (ls.map (·.1)++ns) (ls.map (·.2)++List.replicate ns.length m))(hN:YI w' w.heap.size n m ns iv mv)(hn:n≤1000) :
  ∃ S' ls',kz wi w' S' ps ls'∧ls'.length=ls.length+ns.length∧∀ k,S k→S' k:=by
 refine ⟨fun i=>S i∨(w.heap.size≤i∧i<w'.heap.size∧iv.ownBlock≠some i∧mv.ownBlock≠some i),ls++ns.map (fun x=>(x,m)),⟨⟨pv,iv,mv,?_⟩,fun l hl=>?_⟩,by simp,fun _=>.inl⟩
 ·rw [show (ls++ns.map (fun x=>(x,m))).map (·.1)=ls.map (·.1)++ns by simp [Function.comp_def],show (ls++ns.map (fun x=>(x,m))).map (·.2)=ls.map (·.2)++List.replicate ns.length m by simp [Function.comp_def,List.map_const']]
  exact ⟨h.old,h.lt,h.c0,h.c1,h.c2,h.c3,h.c4,h.c6,h.c7,h.c8,h.c9,h.c10,h.fz,h.rp,h.ri,h.rm,fun g hg=>fun e=>e.elim (h.sp g hg) (fun e=>by have:=(zh h0.rp g hg).2;omega),fun g hg=>fun e=>e.elim (h.si g hg) (fun e=>e.2.2.1 hg),fun g hg=>fun e=>e.elim (h.sm g hg) (fun e=>e.2.2.2 hg),fun e=>e.elim h.nb (fun e=>by have:=h0.lt;omega),fun q hq=>(h.pats q hq).wide (fun _=>.inl),fun j hj=>hj.elim (h.sl j) (fun e=>e.2.1)⟩
 ·rcases List.mem_append.1 hl with hl |hl
  ·exact ((hL l hl).keep k (fun _ p=>p)).wide (fun _=>.inl)
  ·obtain ⟨x,hx,rfl⟩:=List.mem_map.1 hl
   rcases hN x hx with e |⟨g,q,cap,e1,e2,e3,e4,e5,e6,e7⟩
   ·exact .inl e
   ·exact .inr ⟨g,q,cap,e1,by omega,.inr ⟨e3,e4,e5,e6⟩,e7⟩
def vC (js:List Nat)(m:Int)(n:Nat):List Value:=List.replicate n (.int .i64 m)++(z8 js).drop n
theorem za4 {js:List Nat}{m:Int}{n:Nat}(h:n<js.length):(vC js m n)[n]?=some (.int .i64 (js[n]:Nat)):=by
 unfold vC z8
 rw [List.getElem?_append_right (by simp),List.length_replicate,Nat.sub_self,List.getElem?_drop,Nat.add_zero]
 simp [h]
theorem WZ {js:List Nat}{m:Int}{n:Nat}(h:n<js.length):(vC js m n).set n (.int .i64 m)=vC js m (n+1):=by
 unfold vC
 rw [List.set_append_right _ _ (by simp),List.length_replicate,Nat.sub_self,List.replicate_succ',List.append_assoc]
 congr 1
 rw [List.drop_eq_getElem_cons (by simpa [z8] using h)]
 rfl
theorem W4 (js:List Nat)(m:Int):vC js m js.length=List.replicate js.length (.int .i64 m):=by
 unfold vC
 rw [List.drop_eq_nil_of_le (by simp [z8])]
 simp
def wW (wi w w':World):Prop:=w'.cell? ⟨wi.heap.size,0,none⟩=w.cell? ⟨wi.heap.size,0,none⟩∧∃ iv mv,w.cell? ⟨wi.heap.size,2,none⟩=some iv∧w.cell? ⟨wi.heap.size,3,none⟩=some mv∧zf (fun i=>i=wi.heap.size∨iv.ownBlock=some i∨mv.ownBlock=some i) w w'
theorem Tryz.infoIntSl:(Tryz.prog.info? 23).map (fun i=>(i.zero,i.size,i.bytes))=some (some (.slice none 0 0),1,24):=by kernel_rfl
theorem Vd {S:Nat→Prop}{wi w w1:World}{ps:List (Nat×Nat)}{ls:List (Value×Int)}{lv:Value}{js:List Nat}(h:kz wi w S ps ls)(k1:zf (fun _=>False) w w1)(hl:w1.ownsRow w.heap.size 3 1 lv js.length (z8 js))(hj:js.length≤900)(hn:ls.length+4≤5864062014805) :
  Calls Tryz.prog 27 #[.pointer (some ⟨wi.heap.size,0,none⟩),lv] w1 fun e w'=>e = .returned (.tuple #[])∧(∃ S' ls',kz wi w' S' ps ls'∧ls'.length=ls.length+4∧∀ k,S k→S' k)∧wW wi w w':=by
 obtain ⟨i0,hi0,hz0,hz1,hz2⟩:=info_parts Tryz.infoInt
 obtain ⟨i1,hj0,hy0,hy1,hy2⟩:=info_parts Tryz.infoIntSl
 obtain ⟨⟨pv,iv,mv,hR⟩,hL⟩:=h
 have HCL:Hid (∀ (w':World) (iv' mv':Value) (ns:List Value) (m:Int) (n:Nat),zf (fun i=>¬S i) w w'→jK wi w' S ps pv iv' mv' (ls.map (·.1)++ns) (ls.map (·.2)++List.replicate ns.length m)→YI w' w.heap.size n m ns iv' mv'→n≤1000→∃ S' ls',kz wi w' S' ps ls'∧ls'.length=ls.length+ns.length∧∀ k,S k→S' k):=fun w' iv' mv' ns m n k h hN hn=>hR.close hL k h hN hn
 have HLOW:Hid (∀ i,w.heap.size≤i→¬S i∧wi.heap.size<i∧pv.ownBlock≠some i∧iv.ownBlock≠some i∧mv.ownBlock≠some i):=fun i hi=>⟨fun s=>by have:=hR.sl i s;omega,by have:=hR.lt;omega,fun e=>by have:=(zh hR.rp i e).2;omega,fun e=>by have:=(zh hR.ri i e).2;omega,fun e=>by have:=(zh hR.rm i e).2;omega⟩
 have hbw:wi.heap.size<w.heap.size:=hR.lt
 have HCC:Hid (w.cell? ⟨wi.heap.size,0,none⟩=some pv∧w.cell? ⟨wi.heap.size,2,none⟩=some iv∧w.cell? ⟨wi.heap.size,3,none⟩=some mv):=⟨hR.c0,hR.c2,hR.c3⟩
 have HR:=ze (hR.keep0 k1)
 have HK0:Hid (zf (fun i=>¬S i∧(i=wi.heap.size∨iv.ownBlock=some i∨mv.ownBlock=some i)) w w1):=k1.mono (fun _ _ f=>f.elim)
 obtain ⟨la,lc,rfl,hlc⟩:=YH hl
 have HW:=ze hl
 clear hR hL hl hlc k1
 go_enter Tryz.func27,Tryz.ntmps27
 go_wp2_with (go_at_call 46;refine (mark_any (zb HR)).mono ?_;rintro e w2 ⟨m,rfl,h2,hO2⟩;have HR2:=ze h2;have HK2:Hid (zf (fun i=>¬S i∧(i=wi.heap.size∨iv.ownBlock=some i∨mv.ownBlock=some i)) w w2):=(zb HK0).laterP hO2 (fun i _ e=>by have h9:i=wi.heap.size:=e;subst h9;exact ⟨(zb HR).nb,.inl rfl⟩);have HW2:=ze (zp (zb HW) hO2 (fun g hg e=>by have h9:g=wi.heap.size:=e;have:=(zh (zb HW) g hg).1;omega));clear h2 hO2 HR HK0 HW)
 go_loopw [5] (fun k wr=>∃ n:Nat,k = .int .i64 n∧n≤js.length∧Hid (jK wi wr S ps pv iv mv (ls.map (·.1)) (ls.map (·.2)))∧Hid (wr.ownsRow w.heap.size 3 1 (.slice la js.length lc) js.length (vC js m n))∧Hid (zf (fun i=>¬S i∧(i=wi.heap.size∨iv.ownBlock=some i∨mv.ownBlock=some i)) w wr)) (fun k _=>js.length-(intOf k).toNat)
 case atStart=>exact ⟨0,rfl,by omega,HR2,HW2,HK2⟩
 case round=>
  clear HR2 HW2 HK2
  obtain ⟨n,rfl,hnl,HR,HW,HK⟩:=hrel
  by_cases hlt:n<js.length
  ·obtain ⟨a',c',e',hcell⟩:=YH (zb HW)
   obtain ⟨g,e2,hc1⟩:=hcell n _ (za4 hlt)
   cases e'
   subst e2
   have hf1:=own_fz (zb HW) n
   have hgb:=(zh (zb HW) g rfl).1
   clear hcell
   have HSET:Hid (∀ u,zf (fun i=>i=g) wr (wr.setCell ⟨g,n,none⟩ u)):=fun u=>(zf.refl (fun i=>i=g) wr).setCell (p:=⟨g,n,none⟩) (Or.inl rfl) u
   go_wp2_with fail
   refine ⟨⟨n+1,by go_num,by omega,?_,?_,?_⟩,by simp [intOf];omega⟩
   ·exact (zb HR).keep (zb HSET _) (fun i e=>by subst e;exact zb HLOW _ hgb)
   ·rw [←WZ hlt]
    exact Zz (zb HW) _
   ·exact (zb HK).laterP (zb HSET _) (fun i hi e=>by omega)
  ·obtain rfl:n=js.length:=by omega
   rw [W4] at HW
   go_wp2_with fail
   go_loopw [1,6] (fun lw k wr=>∃ (r:Nat) (iv' mv':Value) (ns:List Value),k = .int .i64 r∧r≤4∧ns.length=r∧Hid (jK wi wr S ps pv iv' mv' (ls.map (·.1)++ns) (ls.map (·.2)++List.replicate r m))∧Hid (wr.ownsRow w.heap.size 3 1 lw (js.length+r) (List.replicate (js.length+r) (.int .i64 m)))∧Hid (zf (fun i=>¬S i∧(i=wi.heap.size∨iv.ownBlock=some i∨mv.ownBlock=some i)) w wr)∧Hid (YI wr w.heap.size (js.length+r) m ns iv' mv')∧Hid (∀ g,lw.ownBlock=some g→mv'.ownBlock≠some g)∧Hid ((∀ i,iv'.ownBlock=some i→iv.ownBlock=some i∨w.heap.size≤i)∧∀ i,mv'.ownBlock=some i→mv.ownBlock=some i∨w.heap.size≤i)) (fun _ k _=>4-(intOf k).toNat)
   case atStart=>
    exact ⟨0,iv,mv,[],rfl,by omega,rfl,by simpa using HR,HW,HK,fun x hx=>by simp at hx,fun g hg=>(zb HLOW g (zh (zb HW) g hg).1).2.2.2.2,fun i e=>.inl e,fun i e=>.inl e⟩
   case round=>
    clear HR HW HK
    obtain ⟨r,iv',mv',ns,rfl,hr4,hnr,HR,HW,HK,HN,HM,HIM⟩:=hrel
    by_cases hrl:r<4
    ·have hvl:(ls.map (·.1)++ns).length≤ls.length+r:=by simp [hnr]
     have hml:(ls.map (·.2)++List.replicate r m).length≤ls.length+r:=by simp
     generalize hvs:ls.map (·.1)++ns=vs at HR hvl
     generalize hms:ls.map (·.2)++List.replicate r m=ms at HR hml
     have HVS:=ze hvs
     have HMS:=ze hms
     clear hvs hms
     obtain ⟨xa,xc,rfl,_⟩:=YH (zb HW)
     obtain ⟨ia,ic,rfl,_⟩:=YH (zb HR).ri
     obtain ⟨ma,mc,rfl,_⟩:=YH (zb HR).rm
     have d2:=(zb HR).c2
     have hwr:w.heap.size≤wr.heap.size:=(zb HK).size
     go_wp2_with (at_builtin;refine zb ?_)
     refine ze ?_
     refine wV _ rfl _ _ 34 rfl (wi.heap.size+1) 23 i1 (.slice none 0 0) 1 24 Tryz.underlying34 hj0 hy0 hy1 hy2 rfl (by decide) _ vs.length vs rfl (World.ownsRow.alloc (zb HR).ri _) _ 1 1 [.slice xa (js.length+r) xc] rfl rfl (cell_one_new _ _ _) (fun x hx=>by simp at hx;subst hx;rfl) (by unfold maxLen;omega) (by omega) (by simp;omega) (by decide) ?_
     intro v2 wa hown2 hgr2
     have k2:zf (fun i=>(Value.slice ia vs.length ic).ownBlock=some i) wr wa:=by
      rcases hgr2 with ⟨g,h1,_,h2⟩ |⟨h2,_⟩
      ·exact ((zf.refl _ _).alloc _).grown h2 (fun k e=>.inl (by cases e;exact h1))
      ·exact ((zf.refl _ _).alloc _).grown h2 (fun k e=>by cases e)
     have hb2:∀ i,v2.ownBlock=some i→(Value.slice ia vs.length ic).ownBlock=some i∨wr.heap.size≤i:=by
      rcases hgr2 with ⟨g,h1,h2,_⟩ |⟨_,h2⟩
      ·intro i e;rw [h2] at e;cases e;exact .inl h1
      ·intro i e;have:=h2 i e;simp at this;exact .inr (by omega)
     have HRb:Hid (jK wi (wa.setCell ⟨wi.heap.size,2,none⟩ v2) S ps pv v2 (.slice ma ms.length mc) (vs++[.slice xa (js.length+r) xc]) ms):=(zb HR).setI k2 (by rw [List.length_append (bs:=[_])];exact hown2) hb2
     have hnb:¬(Value.slice ia vs.length ic).ownBlock=some wi.heap.size:=fun e=>by have:=(zh (zb HR).ri _ e).1;omega
     have d3:=zg k2 _ _ (zb HR).c3 hnb
     have d2':=zg k2 _ _ d2 hnb
     have f2:=zw k2 _ (zb HR).lt ((zb HR).fz 2) hnb
     have kb:zf (fun i=>(Value.slice ia vs.length ic).ownBlock=some i∨i=wi.heap.size) wr (wa.setCell ⟨wi.heap.size,2,none⟩ v2):=(k2.mono (fun _ _ e=>.inl e)).setCell (p:=⟨wi.heap.size,2,none⟩) (.inl (.inr rfl)) _
     have hS2:∀ i,((Value.slice ia vs.length ic).ownBlock=some i∨i=wi.heap.size)→¬S i:=fun i e=>e.elim (fun e=>(zb HR).si i e) (fun e=>by subst e;exact (zb HR).nb)
     have HKb:Hid (zf (fun i=>¬S i∧(i=wi.heap.size∨iv.ownBlock=some i∨mv.ownBlock=some i)) w (wa.setCell ⟨wi.heap.size,2,none⟩ v2)):=(zb HK).laterP kb (fun i hi e=>⟨hS2 i e,e.elim (fun e=>((zb HIM).1 i e).elim (fun e=>.inr (.inl e)) (fun _=>by omega)) .inl⟩)
     have HWb:Hid ((wa.setCell ⟨wi.heap.size,2,none⟩ v2).ownsRow w.heap.size 3 1 (.slice xa (js.length+r) xc) (js.length+r) (List.replicate (js.length+r) (.int .i64 m))):=zp (zb HW) kb (fun g hg e=>e.elim (fun e=>jl (zb HW) (zb HR).ri (by decide) g hg e) (fun e=>by have:=(zh (zb HW) g hg).1;omega))
     have HNb:Hid (YI (wa.setCell ⟨wi.heap.size,2,none⟩ v2) w.heap.size (js.length+r) m (ns++[.slice xa (js.length+r) xc]) v2 (.slice ma ms.length mc)):=by
      refine YI.add ((zb HN).rows kb (fun g e=>e.elim .inl (fun e=>.inr (.inr (by omega)))) hb2 (fun g e=>.inl e)) (zb HWb) (fun g hg e=>?_) (zb HM)
      rcases hb2 g e with e |e
      ·exact jl (zb HW) (zb HR).ri (by decide) g hg e
      ·have:=(zh (zb HW) g hg).2;omega
     obtain ⟨va,vn,vc,rfl⟩:=zr hown2
     have HIM2:Hid ((∀ i,(Value.slice va vn vc).ownBlock=some i→iv.ownBlock=some i∨w.heap.size≤i)):=fun i e=>(hb2 i e).elim (fun e=>(zb HIM).1 i e) (fun _=>.inr (by omega))
     have HIM3:=ze (zb HIM).2
     clear HIM
     clear hown2 hgr2 k2 hb2 kb hS2 hnb d2
     go_wp2_with (at_builtin;refine zb ?_)
     refine ze ?_
     clear d3 d2' f2 HR HW HK HN
     have hsz:(wa.setCell ⟨wi.heap.size,2,none⟩ (.slice va vn vc)).heap.size=wa.heap.size:=by simp
     generalize wa.setCell ⟨wi.heap.size,2,none⟩ (.slice va vn vc)=wb at *
     have hnew:=cell_one_new wb (.int .i64 m) 3
     rw [hsz] at hnew
     have hlb:=(zb HRb).lt
     have hwb:w.heap.size≤wb.heap.size:=(zb HKb).size
     refine wV _ rfl _ _ 23 rfl (wi.heap.size+1) 3 i0 (.int .i64 0) 1 8 Tryz.underlying23 hi0 hz0 hz1 hz2 rfl (by decide) _ ms.length (wg ms) rfl (World.ownsRow.alloc (zb HRb).rm _) _ 1 1 [.int .i64 m] rfl rfl hnew (fun x hx=>by simp at hx;subst hx;rfl) (by unfold maxLen;omega) (by omega) (by simp;omega) (by decide) ?_
     intro v3 wc hown3 hgr3
     have k3:zf (fun i=>(Value.slice ma ms.length mc).ownBlock=some i) wb wc:=by
      rcases hgr3 with ⟨g,h1,_,h2⟩ |⟨h2,_⟩
      ·exact ((zf.refl _ _).alloc _).grown h2 (fun k e=>.inl (by cases e;exact h1))
      ·exact ((zf.refl _ _).alloc _).grown h2 (fun k e=>by cases e)
     have hb3:∀ i,v3.ownBlock=some i→(Value.slice ma ms.length mc).ownBlock=some i∨wb.heap.size≤i:=by
      rcases hgr3 with ⟨g,h1,h2,_⟩ |⟨_,h2⟩
      ·intro i e;rw [h2] at e;cases e;exact .inl h1
      ·intro i e;have:=h2 i e;simp at this;exact .inr (by omega)
     have HRc:Hid (jK wi (wc.setCell ⟨wi.heap.size,3,none⟩ v3) S ps pv (.slice va vn vc) v3 (vs++[.slice xa (js.length+r) xc]) (ms++[m])):=(zb HRb).setM k3 (by unfold wg at *;rw [List.length_append,List.map_append];exact hown3) hb3
     have hnb:¬(Value.slice ma ms.length mc).ownBlock=some wi.heap.size:=fun e=>by have:=(zh (zb HRb).rm _ e).1;omega
     have d3':=zg k3 _ _ (zb HRb).c3 hnb
     have f3:=zw k3 _ (zb HRb).lt ((zb HRb).fz 3) hnb
     have kc:zf (fun i=>(Value.slice ma ms.length mc).ownBlock=some i∨i=wi.heap.size) wb (wc.setCell ⟨wi.heap.size,3,none⟩ v3):=(k3.mono (fun _ _ e=>.inl e)).setCell (p:=⟨wi.heap.size,3,none⟩) (.inl (.inr rfl)) _
     have HKc:Hid (zf (fun i=>¬S i∧(i=wi.heap.size∨iv.ownBlock=some i∨mv.ownBlock=some i)) w (wc.setCell ⟨wi.heap.size,3,none⟩ v3)):=(zb HKb).laterP kc (fun i hi e=>e.elim (fun e=>⟨(zb HRb).sm i e,(zb HIM3 i e).elim (fun e=>.inr (.inr e)) (fun _=>by omega)⟩) (fun e=>by subst e;exact ⟨(zb HRb).nb,.inl rfl⟩))
     have HWc:Hid ((wc.setCell ⟨wi.heap.size,3,none⟩ v3).ownsRow w.heap.size 3 1 (.slice xa (js.length+r) xc) (js.length+r) (List.replicate (js.length+r) (.int .i64 m))):=zp (zb HWb) kc (fun g hg e=>e.elim (fun e=>zb HM g hg e) (fun e=>by have:=(zh (zb HWb) g hg).1;omega))
     have HNc:Hid (YI (wc.setCell ⟨wi.heap.size,3,none⟩ v3) w.heap.size (js.length+r) m (ns++[.slice xa (js.length+r) xc]) (.slice va vn vc) v3):=(zb HNb).rows kc (fun g e=>e.elim (fun e=>.inr (.inl e)) (fun e=>.inr (.inr (by omega)))) (fun g e=>.inl e) hb3
     have HMc:Hid (∀ g,(Value.slice xa (js.length+r) xc).ownBlock=some g→v3.ownBlock≠some g):=fun g hg e=>(hb3 g e).elim (zb HM g hg) (fun e=>by have:=(zh (zb HWb) g hg).2;omega)
     obtain ⟨ya,yn,yc,rfl⟩:=zr hown3
     have HIM4:Hid (∀ i,(Value.slice ya yn yc).ownBlock=some i→mv.ownBlock=some i∨w.heap.size≤i):=fun i e=>(hb3 i e).elim (fun e=>zb HIM3 i e) (fun _=>.inr (by omega))
     clear hown3 hgr3 k3 hb3 kc hnb HM HIM3
     go_wp2_with (at_builtin;refine zb ?_)
     refine ze ?_
     clear d3' f3 HRb HWb HKb HNb
     clear hsz hnew
     have hsz:(wc.setCell ⟨wi.heap.size,3,none⟩ (.slice ya yn yc)).heap.size=wc.heap.size:=by simp
     generalize wc.setCell ⟨wi.heap.size,3,none⟩ (.slice ya yn yc)=wd at *
     have hnew:=cell_one_new wd (.int .i64 m) 3
     rw [hsz] at hnew
     have hwd:w.heap.size≤wd.heap.size:=(zb HKc).size
     refine wV _ rfl _ _ 23 rfl w.heap.size 3 i0 (.int .i64 0) 1 8 Tryz.underlying23 hi0 hz0 hz1 hz2 rfl (by decide) _ (js.length+r) (List.replicate (js.length+r) (.int .i64 m)) rfl (World.ownsRow.alloc (zb HWc) _) _ 1 1 [.int .i64 m] rfl rfl hnew (fun x hx=>by simp at hx;subst hx;rfl) (by unfold maxLen;omega) (by omega) (by simp;omega) (by decide) ?_
     intro v4 we hown4 hgr4
     have k4:zf (fun i=>(Value.slice xa (js.length+r) xc).ownBlock=some i) wd we:=by
      rcases hgr4 with ⟨g,h1,_,h2⟩ |⟨h2,_⟩
      ·exact ((zf.refl _ _).alloc _).grown h2 (fun k e=>.inl (by cases e;exact h1))
      ·exact ((zf.refl _ _).alloc _).grown h2 (fun k e=>by cases e)
     have hP4:∀ i,(Value.slice xa (js.length+r) xc).ownBlock=some i→¬S i∧wi.heap.size<i∧pv.ownBlock≠some i∧(Value.slice va vn vc).ownBlock≠some i∧(Value.slice ya yn yc).ownBlock≠some i:=fun i e=>by
      have h9:=zb HLOW i (zh (zb HWc) i e).1
      exact ⟨h9.1,h9.2.1,h9.2.2.1,fun e'=>jl (zb HWc) (zb HRc).ri (by decide) i e e',zb HMc i e⟩
     have HRd:=ze ((zb HRc).keep k4 hP4)
     have HKd:Hid (zf (fun i=>¬S i∧(i=wi.heap.size∨iv.ownBlock=some i∨mv.ownBlock=some i)) w we):=(zb HKc).laterP k4 (fun i hi e=>by have:=(zh (zb HWc) i e).1;omega)
     rw [←List.replicate_succ'] at hown4
     have HNd:=ze (((zb HNc).rows ((zf.refl (fun _=>False) wd).alloc _) (fun g e=>e.elim) (fun g e=>.inl e) (fun g e=>.inl e)).grow hown4 hgr4)
     have HMd:Hid (∀ g,v4.ownBlock=some g→(Value.slice ya yn yc).ownBlock≠some g):=by
      rcases hgr4 with ⟨g,h1,h2,_⟩ |⟨_,h2⟩
      ·intro i e;rw [h2] at e;cases e;exact zb HMc g h1
      ·intro i e e';have h8:=h2 i e;have:=(zh (zb HRc).rm i e').2;simp at h8;omega
     obtain ⟨za,zn,zc,rfl⟩:=zr hown4
     have HWd:=ze hown4
     clear hown4 hgr4 k4 hP4 HRc HKc HWc HNc HMc
     go_wp2_with fail
     refine ⟨⟨r+1,.slice va vn vc,.slice ya yn yc,ns++[.slice xa (js.length+r) xc],by go_num,by omega,by simp [hnr],?_,HWd,HKd,HNd,HMd,zb HIM2,zb HIM4⟩,by simp [intOf];omega⟩
     rw [←List.append_assoc,zb HVS,List.replicate_succ',←List.append_assoc,zb HMS]
     exact HRd
    ·obtain rfl:r=4:=by omega
     go_wp2_with fail
     go_end0
     obtain ⟨S',ls',h1,h2,h3⟩:=zb HCL wr iv' mv' ns m (js.length+4) ((zb HK).mono (fun _ _ e=>e.1)) (by rw [hnr];exact zb HR) (zb HN) (by omega)
     exact ⟨rfl,⟨S',ls',h1,by rw [h2,hnr],h3⟩,by rw [(zb HR).c0,(zb HCC).1],iv,mv,(zb HCC).2.1,(zb HCC).2.2,(zb HK).mono (fun _ _ e=>e.2)⟩
def W5 (s:ByteArray)(z:Int)(ts:List Tok):Prop:=∀ w:World,Calls Tryz.prog 17 #[.string s] w fun x w'=>∃ g,x = .returned (.tuple #[.pointer (some ⟨g,0,none⟩),.int .i64 0,.int .i64 0])∧zf (fun _=>False) w w'∧w.heap.size≤g∧w'.cell? ⟨g,1,none⟩=some (.int .i64 (z+1))∧∃ v,w'.cell? ⟨g,0,none⟩=some v∧xH w' w.heap.size v ts
theorem za5 (s:ByteArray) :
  (∃ (k:Nat) (p:Int),1≤k∧k≤8∧RefBad s k p∧∀ (w:World) (a:Nat→Addr),Start w a→zaU s a k p w)∨
  (∃ (v:Int) (t:Tree) (ts:List Tok),0≤v∧v<300∧zaV t∧W5 s v ts∧(∀ (w:World) (a:Nat→Addr),Start w a→K8 s t v w)∧Eqv.kw (Eqv.xZ 22) ts t.kids∧(∀ x∈ts,Ref.jz x)∧ts.length≤1000∧t.kind=5):=by
 by_cases hs:s.size≤200
 ·by_cases hc:0≤(Ref.zG s).2
  ·exact .inl ⟨1,(Ref.zG s).2,by decide,by decide,fun w=>JI s w hs hc,fun w a h=>KU s w a h.sents h.size hs hc⟩
  ·have hc':(Ref.zG s).2<0:=by omega
   have hbr:Eqv.Br s (Pro.letM s (s.size+1) 0) 0 0:=by rw [zbK];exact Eqv.Br.start (Ref.ku hc')
   obtain ⟨w1,w2⟩:=Eqv.zaz (by omega) hbr
   generalize ho:Pro.altP (Pro.letM s (s.size+1) 0) (s.size:Nat) (Pro.zD (Pro.letM s (s.size+1) 0) (s.size:Nat) 10) 0=o at w1 w2
   have hk8:o.k≤8:=by rw [←ho];exact Pro.altP_k 0
   by_cases hk:o.k=0
   ·obtain ⟨w3,w4⟩:=w2 hk
    by_cases hn:o.n=(Pro.letM s (s.size+1) 0).length
    ·obtain ⟨ts,ht,hB,hA,hTok⟩:=w3 hn
     obtain ⟨z,hz0,hz1,hz⟩:=hA.whole
     have e1:(Ref.yF s).1=ts:=by rw [ht]
     have e2:(Ref.yF s).2.1=0:=by rw [ht]
     have h2:=Ref.Zt s
     rw [e1] at h2
     have hzb:z≤10000000:=by
      obtain ⟨fz,hfz⟩:=hz
      have h1:=(Ref.Wd fz ts 0 z 0 hfz hB.2 (by omega) (by omega) (by omega)).2
      omega
     have hin:=Pro.wD (L:=Pro.letM s (s.size+1) 0) (len:=((s.size:Nat):Int)) (D:=Pro.zD (Pro.letM s (s.size+1) 0) ((s.size:Nat):Int) 10) (Pro.qx 10) 0 (by omega)
     rw [ho] at hin
     have hin3:=hin.2.2 hk
     by_cases hv:o.v<300
     ·have hzv:z=o.v:=by omega
      refine .inr ⟨o.v,_,ts,by omega,hv,?_,fun w=>?_,fun w a h=>Wq s w a h.sents h.size hs hc' _ rfl o ho hk hn hv,hTok,hB.2,by omega,rfl⟩
      ·exact fun f=>⟨Pro.whole_sh (Zv s _ _) 10 0 f,Pro.whole_ln (by have:=Pro.vo s (s.size+1) 0;omega) 10 0 f,Pro.zbt (fun n f=>Pro.VM 10 n f) 0 f⟩
      rw [←hzv,←e1]
      exact Va s w z hs hc' e2 (by rw [e1];exact hB.2) (by rw [e1];exact hz) (by omega) hz0
     ·refine .inl ⟨8,0,by decide,by decide,fun w=>?_,fun w a h=>Wp s w a h.sents h.size hs hc' _ rfl o ho hk hn (by omega)⟩
      exact KQ s w z hs hc' e2 (by rw [e1];exact hB.2) (by rw [e1];exact hz) (by omega) hzb
    ·obtain ⟨l',hl⟩:=w4 hn
     refine .inl ⟨3,Pro.zC (Pro.letM s (s.size+1) 0) (s.size:Nat) o.n,by decide,by decide,fun w=>?_,fun w a h=>KV s w a h.sents h.size hs hc' _ rfl o ho hk hn⟩
     have:=YX s w hs hc' (by rw [hl];show (3:Int)≠0;decide)
     rw [hl] at this
     exact this
   ·obtain ⟨l',hl⟩:=w1 hk
    refine .inl ⟨o.k,o.p,by omega,hk8,fun w=>?_,fun w a h=>Wo s w a h.sents h.size hs hc' _ rfl o ho hk⟩
    have:=YX s w hs hc' (by rw [hl];show ((o.k:Nat):Int)≠0;omega)
    rw [hl] at this
    exact this
 ·exact .inl ⟨2,200,by decide,by decide,fun w=>(JH s w (by omega)).mono (by rintro e w' ⟨rfl,rfl⟩;exact ⟨rfl,zf.refl _ _⟩),fun w a h=>KT s w a h.sents (by omega)⟩
def opV (k p f n:Int)(s:ByteArray)(lv nv sv:Value):Value:=.agg #[.int .i64 k,.int .i64 p,.int .i64 f,.int .i64 n,.string s,lv,nv,sv]
theorem Ve (b:Nat)(kd p f n:Int)(s:ByteArray)(lv nv sv:Value)(k:Nat)(at':Int)(w:World)(a:Nat→Addr)(hS:Start w a)(k1:1≤k)(k2:k≤8)(hr:RefBad s k at')(hp:∀ (w:World) (a:Nat→Addr),Start w a→zaU s a k at' w) :
  Calls Tryz.prog 10 #[.pointer (some ⟨b,0,none⟩),opV kd p f n s lv nv sv] w fun e w'=>e = .returned (.bool true)∧zf (fun _=>False) w w':=by
 have HC:Hid (∀ w1,zf (fun _=>False) w w1→Calls Tryz.prog 16 #[.string s] w1 fun x w'=>x = .returned (.tuple #[.pointer none,.int .i64 k,.int .i64 at'])∧zf (fun _=>False) w1 w'):=fun w1 h1=>zaW s w1 a k at' (hS.keep h1) k1 k2 (hp w1 a (hS.keep h1))
 have HR:=ze hr
 clear hS hp hr
 unfold opV
 go_enter Tryz.func10,Tryz.ntmps10
 go_wp2_with (first |(go_at_call 16;refine (zb HC _ ((zf.refl _ _).alloc _)).mono ?_;rintro e w1 ⟨rfl,hO1⟩;have q4:=zg hO1 ⟨w.heap.size,4,none⟩ _ (zo w _ rfl _ _ 4 _ rfl) (fun f=>f)) |(go_at_call 17;refine (zb HR w1).mono ?_;rintro e w2 ⟨rfl,hO2⟩))
 go_ret
 exact ⟨rfl,(((zf.refl _ _).alloc _).trans hO1).trans hO2⟩
theorem Tryz.infoPat:(Tryz.prog.info? 46).map (fun i=>(i.zero,i.size,i.bytes))=some (some (.agg #[.pointer none,.pointer none]),2,16):=by kernel_rfl
structure Fresh2 (w:World)(z gx gy:Nat):Prop where
 le:z≤w.heap.size
 ok:∃ (t:Tree) (ts:List Tok) (v:Int) (tv:Value),z≤gx∧z≤gy∧kn w z gx t v∧w.cell? ⟨gy,1,none⟩=some (.int .i64 (v+1))∧w.cell? ⟨gy,0,none⟩=some tv∧xH w z tv ts∧Eqv.kw (Eqv.xZ 22) ts t.kids∧(∀ x∈ts,Ref.jz x)∧ts.length≤1000∧t.kind=5∧0≤v∧v<300
theorem Fresh2.both {w:World}{z gx gy:Nat}{S:Nat→Prop}(h:Fresh2 w z gx gy)(hS:∀ k,z≤k→k<w.heap.size→S k):qu w S gx gy:=by
 obtain ⟨t,ts,v,tv,r⟩:=h.ok
 exact ⟨w,z,t,ts,v,tv,hS,zf.refl _ _,r⟩
theorem kz.guard {S:Nat→Prop}{wi w w':World}{ps:List (Nat×Nat)}{ls:List (Value×Int)}(h:kz wi w S ps ls)(k:zf (fun _=>False) w w'):kz wi w' (fun i=>S i∨(w.heap.size≤i∧i<w'.heap.size)) ps ls:=by
 obtain ⟨⟨pv,iv,mv,h0⟩,hL⟩:=h.keep0 k
 obtain ⟨⟨pv0,iv0,mv0,h1⟩,_⟩:=h
 have e0:pv=pv0:=by have:=zg k _ _ h1.c0 (fun f=>f);rw [h0.c0] at this;exact Option.some.inj this
 have e1:iv=iv0:=by have:=zg k _ _ h1.c2 (fun f=>f);rw [h0.c2] at this;exact Option.some.inj this
 have e2:mv=mv0:=by have:=zg k _ _ h1.c3 (fun f=>f);rw [h0.c3] at this;exact Option.some.inj this
 subst e0 e1 e2
 refine ⟨⟨pv,iv,mv,⟨h0.old,h0.lt,h0.c0,h0.c1,h0.c2,h0.c3,h0.c4,h0.c6,h0.c7,h0.c8,h0.c9,h0.c10,h0.fz,h0.rp,h0.ri,h0.rm,fun g hg e=>e.elim (h0.sp g hg) (fun e=>by have:=(zh h1.rp g hg).2;omega),fun g hg e=>e.elim (h0.si g hg) (fun e=>by have:=(zh h1.ri g hg).2;omega),fun g hg e=>e.elim (h0.sm g hg) (fun e=>by have:=(zh h1.rm g hg).2;omega),fun e=>e.elim h0.nb (fun e=>by have:=h1.lt;omega),fun q hq=>(h0.pats q hq).wide (fun _=>.inl),fun j hj=>hj.elim (h0.sl j) (fun e=>e.2)⟩⟩,fun l hl=>(hL l hl).wide (fun _=>.inl)⟩
end
end Go.Proofs.YtnagphodmfejiaaGreatDoor
