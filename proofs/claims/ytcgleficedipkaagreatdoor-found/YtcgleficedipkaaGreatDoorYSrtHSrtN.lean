/- The library's sort of a row of characters: patterns broken. -/
import Derived.Test.YtcgleficedipkaaGreatDoorYSrtASrtL
import Derived.Laws.Bits64b
import Derived.Deep.Cut
import Derived.Deep.CutRange
import Derived.Deep.CutBlock
namespace Go.Proofs.YtcgleficedipkaaGreatDoor
section
open Go.RowKit
def vQ (w:World)(sb:Nat)(X:Nat):Prop:=w.cell? ⟨sb,0,none⟩=some (.int .u64 (X:Int))/\w.frozen? ⟨sb,0,none⟩=false
theorem vQ.two {w:World}{sb X blk i j q:Nat}{u v:Value}(h:vQ w sb X)(hb:blk≠sb):vQ (((w.drewN q).setCell ⟨blk,i,none⟩ u).setCell ⟨blk,j,none⟩ v) sb X:=
 ⟨(zF _ _ _ _ (by simp)).trans ((zF _ _ _ _ (by simp)).trans h.1),(zk _ _ _ _).trans ((zk _ _ _ _).trans h.2)⟩
theorem vQ.two' {w:World}{sb X blk i j:Nat}{u v:Value}(h:vQ w sb X)(hb:blk≠sb):vQ (((w.setCell ⟨blk,i,none⟩ u).setCell ⟨blk,j,none⟩ v).drew) sb X:=vQ.two (q:=0) h hb

theorem insertN (w:World) :
  Calls Tryz.prog 199 #[.slice none 0 0,.int .i64 0,.int .i64 0] w fun e w'=>e = .returned (.tuple #[])/\Q8 w w':=by
 go_enter Tryz.func199,Tryz.ntmps199;go_wp2_with fail;go_loopw [6] (fun vi wr=>vi = .int .i64 1/\Hid (Q8 w wr)) (fun _ _=>0)
 case atStart=>exact ⟨by go_num,ze.refl _ _⟩
 case round=>
  obtain ⟨rfl,HS⟩:=hrel;go_wp2
  go_end0
  exact ⟨rfl,zb HS⟩
theorem pdqN (lim:Int)(w:World) :
  Calls Tryz.prog 168 #[.slice none 0 0,.int .i64 0,.int .i64 0,.int .i64 lim] w fun e w'=>e = .returned (.tuple #[])/\Q8 w w':=by
 go_enter Tryz.func168,Tryz.ntmps168;go_wp2_with fail;go_loopw [1,2,3,8,9] (fun va vb vl v8 v9 wr=>va = .int .i64 0/\vb = .int .i64 0/\vl = .int .i64 lim/\v8 = .bool true/\v9 = .bool true/\Hid (Q8 w wr)) (fun _ _ _ _ _ _=>0)
 case atStart=>exact ⟨rfl,rfl,rfl,rfl,rfl,ze.refl _ _⟩
 case round=>
  obtain ⟨rfl,rfl,rfl,rfl,rfl,HS⟩:=hrel;go_wp2_with (go_at_call 199;refine (insertN _).mono ?_;rintro e w1 ⟨rfl,hS1⟩;have HS:=zc ((zb HS).trans hS1);clear hS1)
  (try simp only [Exit.inBlock,Exit.then]);refine bodyPost_ret (results_none rfl _ _ _) rfl ?_
  exact ⟨rfl,zb HS⟩
theorem sortN (w:World) :
  Calls Tryz.prog 124 #[.slice none 0 0] w fun e w'=>e = .returned (.tuple #[])/\Q8 w w':=by
 have HL:=zc (VV 0 (by omega));have HP:=zc (pdqN);have wr:IntKind.u64.wrap 0=0:=by simp [IntKind.wrap,IntKind.bits,IntKind.signed]
 have wr2:IntKind.u64.wrap ((0:Nat):Int)=((0:Nat):Int):=by simp [IntKind.wrap,IntKind.bits,IntKind.signed]
 go_enter Tryz.func124,Tryz.ntmps124;go_wp2_with (first |(go_at_call 169;refine (zb HL _).mono ?_;rintro e w' ⟨rfl,rfl⟩) |(go_at_call 168;refine (zb HP _ _).mono ?_;rintro e w1 ⟨rfl,hS⟩;have HS:=zc hS;clear hS))
 go_end0
 exact ⟨rfl,zb HS⟩
end
end Go.Proofs.YtcgleficedipkaaGreatDoor
