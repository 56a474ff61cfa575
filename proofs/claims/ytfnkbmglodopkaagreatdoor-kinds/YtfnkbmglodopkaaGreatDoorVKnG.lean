/- The law's own kinds of characters. -/
import Derived.Test.YtfnkbmglodopkaaGreatDoorVKnAKnF
namespace Go.Proofs.YtfnkbmglodopkaaGreatDoor
section
open Go.RowKit
set_option maxHeartbeats 4000000
namespace Kn
theorem dg_iff (c:Int):dgB c=true↔48≤c∧c≤57:=by unfold dgB Eqv.inSp Ref.W4;simp
theorem wd_iff (c:Int):wdB c=true↔(48≤c∧c≤57)∨(97≤c∧c≤122)∨(65≤c∧c≤90)∨c=95:=by unfold wdB Eqv.inSp Ref.vL;simp;omega
theorem bl_iff (c:Int):blB c=true↔(9≤c∧c≤13)∨c=32∨c=160∨c=5760∨(8192≤c∧c≤8202)∨c=8232∨c=8233∨c=8239∨c=8287∨c=12288∨c=65279:=by unfold blB Eqv.inSp Ref.QA;simp;omega
theorem ln_iff (c:Int):lnB c=true↔c=10∨c=13∨c=8232∨c=8233:=by unfold lnB Eqv.inSp;simp;omega
end Kn
theorem zdB (c:Int)(w:World):Calls Tryz.prog 29 #[.int .i64 c] w fun x w'=>x = .returned (.bool (Kn.dgB c))∧w'=w:=by
 have h:=Kn.dg_iff c
 generalize Kn.dgB c=b at h ⊢
 have HT:=zc h
 clear h
 by_cases h1:48≤c
 ·by_cases h2:c≤57
  ·obtain rfl:b=true:=(zb HT).2 ⟨h1,h2⟩
   go_enter Tryz.func29,Tryz.ntmps29
   go_wp2_with fail
   go_ret
   exact ⟨by first |rfl |simp [h2],rfl⟩
  ·obtain rfl:b=false:=by
    cases b
    ·rfl
    ·exact absurd ((zb HT).1 rfl).2 h2
   go_enter Tryz.func29,Tryz.ntmps29
   go_wp2_with fail
   go_ret
   exact ⟨by first |rfl |simp [h2],rfl⟩
 ·obtain rfl:b=false:=by
   cases b
   ·rfl
   ·exact absurd ((zb HT).1 rfl).1 h1
  go_enter Tryz.func29,Tryz.ntmps29
  go_wp2_with fail
  go_ret
  exact ⟨by first |rfl |simp [h1],rfl⟩
theorem zdM (c:Int)(w:World):Calls Tryz.prog 32 #[.int .i64 c] w fun x w'=>x = .returned (.bool (Kn.lnB c))∧w'=w:=by
 have h:=Kn.ln_iff c
 generalize Kn.lnB c=b at h ⊢
 have HT:=zc h
 clear h
 by_cases h1:c=10
 ·have gh1:(c == 10)=true:=by simpa using h1
  obtain rfl:b=true:=(zb HT).2 (by omega)
  clear HT
  go_enter Tryz.func32,Tryz.ntmps32
  go_wp2_with fail
  go_ret
  exact ⟨by first |rfl |simp_all,rfl⟩
 ·have gh1:(c == 10)=false:=by simpa using h1
  by_cases h2:c=13
  ·have gh2:(c == 13)=true:=by simpa using h2
   obtain rfl:b=true:=(zb HT).2 (by omega)
   clear HT
   go_enter Tryz.func32,Tryz.ntmps32
   go_wp2_with fail
   go_ret
   exact ⟨by first |rfl |simp_all,rfl⟩
  ·have gh2:(c == 13)=false:=by simpa using h2
   by_cases h3:c=8232
   ·have gh3:(c == 8232)=true:=by simpa using h3
    obtain rfl:b=true:=(zb HT).2 (by omega)
    clear HT
    go_enter Tryz.func32,Tryz.ntmps32
    go_wp2_with fail
    go_ret
    exact ⟨by first |rfl |simp_all,rfl⟩
   ·have gh3:(c == 8232)=false:=by simpa using h3
    by_cases h4:c=8233
    ·have gh4:(c == 8233)=true:=by simpa using h4
     obtain rfl:b=true:=(zb HT).2 (by omega)
     clear HT
     go_enter Tryz.func32,Tryz.ntmps32
     go_wp2_with fail
     go_ret
     exact ⟨by first |rfl |simp_all,rfl⟩
    ·have gh4:(c == 8233)=false:=by simpa using h4
     obtain rfl:b=false:=by
      cases b
      ·rfl
      ·exact absurd ((zb HT).1 rfl) (by omega)
     clear HT
     go_enter Tryz.func32,Tryz.ntmps32
     go_wp2_with fail
     go_ret
     exact ⟨by first |rfl |simp_all,rfl⟩
theorem zdN (c:Int)(w:World):Calls Tryz.prog 31 #[.int .i64 c] w fun x w'=>x = .returned (.bool (Kn.blB c))∧w'=w:=by
 have h:=Kn.bl_iff c
 generalize Kn.blB c=b at h ⊢
 have HT:=zc h
 clear h
 by_cases h5:9≤c
 ·by_cases h5b:c≤13
  ·obtain rfl:b=true:=(zb HT).2 (by omega)
   clear HT
   go_enter Tryz.func31,Tryz.ntmps31
   go_wp2_with fail
   go_ret
   exact ⟨by first |rfl |simp_all,rfl⟩
  ·by_cases h6:c=32
   ·have gh6:(c == 32)=true:=by simpa using h6
    obtain rfl:b=true:=(zb HT).2 (by omega)
    clear HT
    go_enter Tryz.func31,Tryz.ntmps31
    go_wp2_with fail
    go_ret
    exact ⟨by first |rfl |simp_all,rfl⟩
   ·have gh6:(c == 32)=false:=by simpa using h6
    by_cases h7:c=160
    ·have gh7:(c == 160)=true:=by simpa using h7
     obtain rfl:b=true:=(zb HT).2 (by omega)
     clear HT
     go_enter Tryz.func31,Tryz.ntmps31
     go_wp2_with fail
     go_ret
     exact ⟨by first |rfl |simp_all,rfl⟩
    ·have gh7:(c == 160)=false:=by simpa using h7
     by_cases h8:c=5760
     ·have gh8:(c == 5760)=true:=by simpa using h8
      obtain rfl:b=true:=(zb HT).2 (by omega)
      clear HT
      go_enter Tryz.func31,Tryz.ntmps31
      go_wp2_with fail
      go_ret
      exact ⟨by first |rfl |simp_all,rfl⟩
     ·have gh8:(c == 5760)=false:=by simpa using h8
      by_cases h9:8192≤c
      ·by_cases h9b:c≤8202
       ·obtain rfl:b=true:=(zb HT).2 (by omega)
        clear HT
        go_enter Tryz.func31,Tryz.ntmps31
        go_wp2_with fail
        go_ret
        exact ⟨by first |rfl |simp_all,rfl⟩
       ·by_cases h10:c=8232
        ·have gh10:(c == 8232)=true:=by simpa using h10
         obtain rfl:b=true:=(zb HT).2 (by omega)
         clear HT
         go_enter Tryz.func31,Tryz.ntmps31
         go_wp2_with fail
         go_ret
         exact ⟨by first |rfl |simp_all,rfl⟩
        ·have gh10:(c == 8232)=false:=by simpa using h10
         by_cases h11:c=8233
         ·have gh11:(c == 8233)=true:=by simpa using h11
          obtain rfl:b=true:=(zb HT).2 (by omega)
          clear HT
          go_enter Tryz.func31,Tryz.ntmps31
          go_wp2_with fail
          go_ret
          exact ⟨by first |rfl |simp_all,rfl⟩
         ·have gh11:(c == 8233)=false:=by simpa using h11
          by_cases h12:c=8239
          ·have gh12:(c == 8239)=true:=by simpa using h12
           obtain rfl:b=true:=(zb HT).2 (by omega)
           clear HT
           go_enter Tryz.func31,Tryz.ntmps31
           go_wp2_with fail
           go_ret
           exact ⟨by first |rfl |simp_all,rfl⟩
          ·have gh12:(c == 8239)=false:=by simpa using h12
           by_cases h13:c=8287
           ·have gh13:(c == 8287)=true:=by simpa using h13
            obtain rfl:b=true:=(zb HT).2 (by omega)
            clear HT
            go_enter Tryz.func31,Tryz.ntmps31
            go_wp2_with fail
            go_ret
            exact ⟨by first |rfl |simp_all,rfl⟩
           ·have gh13:(c == 8287)=false:=by simpa using h13
            by_cases h14:c=12288
            ·have gh14:(c == 12288)=true:=by simpa using h14
             obtain rfl:b=true:=(zb HT).2 (by omega)
             clear HT
             go_enter Tryz.func31,Tryz.ntmps31
             go_wp2_with fail
             go_ret
             exact ⟨by first |rfl |simp_all,rfl⟩
            ·have gh14:(c == 12288)=false:=by simpa using h14
             by_cases h15:c=65279
             ·have gh15:(c == 65279)=true:=by simpa using h15
              obtain rfl:b=true:=(zb HT).2 (by omega)
              clear HT
              go_enter Tryz.func31,Tryz.ntmps31
              go_wp2_with fail
              go_ret
              exact ⟨by first |rfl |simp_all,rfl⟩
             ·have gh15:(c == 65279)=false:=by simpa using h15
              obtain rfl:b=false:=by
               cases b
               ·rfl
               ·exact absurd ((zb HT).1 rfl) (by omega)
              clear HT
              go_enter Tryz.func31,Tryz.ntmps31
              go_wp2_with fail
              go_ret
              exact ⟨by first |rfl |simp_all,rfl⟩
      ·by_cases h16:c=8232
       ·have gh16:(c == 8232)=true:=by simpa using h16
        obtain rfl:b=true:=(zb HT).2 (by omega)
        clear HT
        go_enter Tryz.func31,Tryz.ntmps31
        go_wp2_with fail
        go_ret
        exact ⟨by first |rfl |simp_all,rfl⟩
       ·have gh16:(c == 8232)=false:=by simpa using h16
        by_cases h17:c=8233
        ·have gh17:(c == 8233)=true:=by simpa using h17
         obtain rfl:b=true:=(zb HT).2 (by omega)
         clear HT
         go_enter Tryz.func31,Tryz.ntmps31
         go_wp2_with fail
         go_ret
         exact ⟨by first |rfl |simp_all,rfl⟩
        ·have gh17:(c == 8233)=false:=by simpa using h17
         by_cases h18:c=8239
         ·have gh18:(c == 8239)=true:=by simpa using h18
          obtain rfl:b=true:=(zb HT).2 (by omega)
          clear HT
          go_enter Tryz.func31,Tryz.ntmps31
          go_wp2_with fail
          go_ret
          exact ⟨by first |rfl |simp_all,rfl⟩
         ·have gh18:(c == 8239)=false:=by simpa using h18
          by_cases h19:c=8287
          ·have gh19:(c == 8287)=true:=by simpa using h19
           obtain rfl:b=true:=(zb HT).2 (by omega)
           clear HT
           go_enter Tryz.func31,Tryz.ntmps31
           go_wp2_with fail
           go_ret
           exact ⟨by first |rfl |simp_all,rfl⟩
          ·have gh19:(c == 8287)=false:=by simpa using h19
           by_cases h20:c=12288
           ·have gh20:(c == 12288)=true:=by simpa using h20
            obtain rfl:b=true:=(zb HT).2 (by omega)
            clear HT
            go_enter Tryz.func31,Tryz.ntmps31
            go_wp2_with fail
            go_ret
            exact ⟨by first |rfl |simp_all,rfl⟩
           ·have gh20:(c == 12288)=false:=by simpa using h20
            by_cases h21:c=65279
            ·have gh21:(c == 65279)=true:=by simpa using h21
             obtain rfl:b=true:=(zb HT).2 (by omega)
             clear HT
             go_enter Tryz.func31,Tryz.ntmps31
             go_wp2_with fail
             go_ret
             exact ⟨by first |rfl |simp_all,rfl⟩
            ·have gh21:(c == 65279)=false:=by simpa using h21
             obtain rfl:b=false:=by
              cases b
              ·rfl
              ·exact absurd ((zb HT).1 rfl) (by omega)
             clear HT
             go_enter Tryz.func31,Tryz.ntmps31
             go_wp2_with fail
             go_ret
             exact ⟨by first |rfl |simp_all,rfl⟩
 ·by_cases h22:c=32
  ·have gh22:(c == 32)=true:=by simpa using h22
   obtain rfl:b=true:=(zb HT).2 (by omega)
   clear HT
   go_enter Tryz.func31,Tryz.ntmps31
   go_wp2_with fail
   go_ret
   exact ⟨by first |rfl |simp_all,rfl⟩
  ·have gh22:(c == 32)=false:=by simpa using h22
   by_cases h23:c=160
   ·have gh23:(c == 160)=true:=by simpa using h23
    obtain rfl:b=true:=(zb HT).2 (by omega)
    clear HT
    go_enter Tryz.func31,Tryz.ntmps31
    go_wp2_with fail
    go_ret
    exact ⟨by first |rfl |simp_all,rfl⟩
   ·have gh23:(c == 160)=false:=by simpa using h23
    by_cases h24:c=5760
    ·have gh24:(c == 5760)=true:=by simpa using h24
     obtain rfl:b=true:=(zb HT).2 (by omega)
     clear HT
     go_enter Tryz.func31,Tryz.ntmps31
     go_wp2_with fail
     go_ret
     exact ⟨by first |rfl |simp_all,rfl⟩
    ·have gh24:(c == 5760)=false:=by simpa using h24
     by_cases h25:8192≤c
     ·by_cases h25b:c≤8202
      ·obtain rfl:b=true:=(zb HT).2 (by omega)
       clear HT
       go_enter Tryz.func31,Tryz.ntmps31
       go_wp2_with fail
       go_ret
       exact ⟨by first |rfl |simp_all,rfl⟩
      ·by_cases h26:c=8232
       ·have gh26:(c == 8232)=true:=by simpa using h26
        obtain rfl:b=true:=(zb HT).2 (by omega)
        clear HT
        go_enter Tryz.func31,Tryz.ntmps31
        go_wp2_with fail
        go_ret
        exact ⟨by first |rfl |simp_all,rfl⟩
       ·have gh26:(c == 8232)=false:=by simpa using h26
        by_cases h27:c=8233
        ·have gh27:(c == 8233)=true:=by simpa using h27
         obtain rfl:b=true:=(zb HT).2 (by omega)
         clear HT
         go_enter Tryz.func31,Tryz.ntmps31
         go_wp2_with fail
         go_ret
         exact ⟨by first |rfl |simp_all,rfl⟩
        ·have gh27:(c == 8233)=false:=by simpa using h27
         by_cases h28:c=8239
         ·have gh28:(c == 8239)=true:=by simpa using h28
          obtain rfl:b=true:=(zb HT).2 (by omega)
          clear HT
          go_enter Tryz.func31,Tryz.ntmps31
          go_wp2_with fail
          go_ret
          exact ⟨by first |rfl |simp_all,rfl⟩
         ·have gh28:(c == 8239)=false:=by simpa using h28
          by_cases h29:c=8287
          ·have gh29:(c == 8287)=true:=by simpa using h29
           obtain rfl:b=true:=(zb HT).2 (by omega)
           clear HT
           go_enter Tryz.func31,Tryz.ntmps31
           go_wp2_with fail
           go_ret
           exact ⟨by first |rfl |simp_all,rfl⟩
          ·have gh29:(c == 8287)=false:=by simpa using h29
           by_cases h30:c=12288
           ·have gh30:(c == 12288)=true:=by simpa using h30
            obtain rfl:b=true:=(zb HT).2 (by omega)
            clear HT
            go_enter Tryz.func31,Tryz.ntmps31
            go_wp2_with fail
            go_ret
            exact ⟨by first |rfl |simp_all,rfl⟩
           ·have gh30:(c == 12288)=false:=by simpa using h30
            by_cases h31:c=65279
            ·have gh31:(c == 65279)=true:=by simpa using h31
             obtain rfl:b=true:=(zb HT).2 (by omega)
             clear HT
             go_enter Tryz.func31,Tryz.ntmps31
             go_wp2_with fail
             go_ret
             exact ⟨by first |rfl |simp_all,rfl⟩
            ·have gh31:(c == 65279)=false:=by simpa using h31
             obtain rfl:b=false:=by
              cases b
              ·rfl
              ·exact absurd ((zb HT).1 rfl) (by omega)
             clear HT
             go_enter Tryz.func31,Tryz.ntmps31
             go_wp2_with fail
             go_ret
             exact ⟨by first |rfl |simp_all,rfl⟩
     ·by_cases h32:c=8232
      ·have gh32:(c == 8232)=true:=by simpa using h32
       obtain rfl:b=true:=(zb HT).2 (by omega)
       clear HT
       go_enter Tryz.func31,Tryz.ntmps31
       go_wp2_with fail
       go_ret
       exact ⟨by first |rfl |simp_all,rfl⟩
      ·have gh32:(c == 8232)=false:=by simpa using h32
       by_cases h33:c=8233
       ·have gh33:(c == 8233)=true:=by simpa using h33
        obtain rfl:b=true:=(zb HT).2 (by omega)
        clear HT
        go_enter Tryz.func31,Tryz.ntmps31
        go_wp2_with fail
        go_ret
        exact ⟨by first |rfl |simp_all,rfl⟩
       ·have gh33:(c == 8233)=false:=by simpa using h33
        by_cases h34:c=8239
        ·have gh34:(c == 8239)=true:=by simpa using h34
         obtain rfl:b=true:=(zb HT).2 (by omega)
         clear HT
         go_enter Tryz.func31,Tryz.ntmps31
         go_wp2_with fail
         go_ret
         exact ⟨by first |rfl |simp_all,rfl⟩
        ·have gh34:(c == 8239)=false:=by simpa using h34
         by_cases h35:c=8287
         ·have gh35:(c == 8287)=true:=by simpa using h35
          obtain rfl:b=true:=(zb HT).2 (by omega)
          clear HT
          go_enter Tryz.func31,Tryz.ntmps31
          go_wp2_with fail
          go_ret
          exact ⟨by first |rfl |simp_all,rfl⟩
         ·have gh35:(c == 8287)=false:=by simpa using h35
          by_cases h36:c=12288
          ·have gh36:(c == 12288)=true:=by simpa using h36
           obtain rfl:b=true:=(zb HT).2 (by omega)
           clear HT
           go_enter Tryz.func31,Tryz.ntmps31
           go_wp2_with fail
           go_ret
           exact ⟨by first |rfl |simp_all,rfl⟩
          ·have gh36:(c == 12288)=false:=by simpa using h36
           by_cases h37:c=65279
           ·have gh37:(c == 65279)=true:=by simpa using h37
            obtain rfl:b=true:=(zb HT).2 (by omega)
            clear HT
            go_enter Tryz.func31,Tryz.ntmps31
            go_wp2_with fail
            go_ret
            exact ⟨by first |rfl |simp_all,rfl⟩
           ·have gh37:(c == 65279)=false:=by simpa using h37
            obtain rfl:b=false:=by
             cases b
             ·rfl
             ·exact absurd ((zb HT).1 rfl) (by omega)
            clear HT
            go_enter Tryz.func31,Tryz.ntmps31
            go_wp2_with fail
            go_ret
            exact ⟨by first |rfl |simp_all,rfl⟩
theorem zdT (c:Int)(w:World):Calls Tryz.prog 30 #[.int .i64 c] w fun x w'=>x = .returned (.bool (Kn.wdB c))∧w'=w:=by
 have h:=Kn.wd_iff c
 have hdg:=Kn.dg_iff c
 have HD:=zc (zdB c)
 by_cases h95:c=95
 ·subst h95
  have e1:Kn.dgB 95=false:=by decide
  have e2:Kn.wdB 95=true:=by decide
  rw [e1] at HD
  rw [e2]
  clear h hdg e1 e2
  go_enter Tryz.func30,Tryz.ntmps30
  go_wp2_with (go_at_call 29;refine (zb HD _).mono ?_;rintro e wq ⟨rfl,hwq⟩;obtain rfl:=hwq.symm;clear hwq)
  go_ret
  exact ⟨rfl,rfl⟩
 have g95:(c == 95)=false:=by simpa using h95
 generalize Kn.dgB c=q at HD hdg
 generalize Kn.wdB c=b at h ⊢
 have HT:=zc h
 have HG:=zc hdg
 clear h hdg
 cases q
 ·have h0:¬(48≤c∧c≤57):=fun f=>by have:=(zb HG).2 f;cases this
  clear HG
  by_cases k1:97≤c
  ·have z1:¬c≤57:=by omega
   clear h0
   by_cases k2:c≤122
   ·obtain rfl:b=true:=(zb HT).2 (by omega)
    clear HT
    go_enter Tryz.func30,Tryz.ntmps30
    go_wp2_with (go_at_call 29;refine (zb HD _).mono ?_;rintro e wq ⟨rfl,hwq⟩;obtain rfl:=hwq.symm;clear hwq)
    all_goals go_ret
    all_goals exact ⟨by first |rfl |(simp;done) |(simp;omega),rfl⟩
   ·have z2:¬c≤90:=by omega
    obtain rfl:b=false:=by
     cases b
     ·rfl
     ·exact absurd ((zb HT).1 rfl) (by omega)
    clear HT
    go_enter Tryz.func30,Tryz.ntmps30
    go_wp2_with (go_at_call 29;refine (zb HD _).mono ?_;rintro e wq ⟨rfl,hwq⟩;obtain rfl:=hwq.symm;clear hwq)
    all_goals go_ret
    all_goals exact ⟨by first |rfl |(simp;done) |(simp;omega),rfl⟩
  ·by_cases k3:65≤c
   ·by_cases k4:c≤90
    ·obtain rfl:b=true:=(zb HT).2 (by omega)
     clear HT
     go_enter Tryz.func30,Tryz.ntmps30
     go_wp2_with (go_at_call 29;refine (zb HD _).mono ?_;rintro e wq ⟨rfl,hwq⟩;obtain rfl:=hwq.symm;clear hwq)
     all_goals go_ret
     all_goals exact ⟨by first |rfl |(simp;done) |(simp;omega),rfl⟩
    ·obtain rfl:b=false:=by
      cases b
      ·rfl
      ·exact absurd ((zb HT).1 rfl) (by omega)
     clear HT
     go_enter Tryz.func30,Tryz.ntmps30
     go_wp2_with (go_at_call 29;refine (zb HD _).mono ?_;rintro e wq ⟨rfl,hwq⟩;obtain rfl:=hwq.symm;clear hwq)
     all_goals go_ret
     all_goals exact ⟨by first |rfl |(simp;done) |(simp;omega),rfl⟩
   ·obtain rfl:b=false:=by
     cases b
     ·rfl
     ·exact absurd ((zb HT).1 rfl) (by omega)
    clear HT
    go_enter Tryz.func30,Tryz.ntmps30
    go_wp2_with (go_at_call 29;refine (zb HD _).mono ?_;rintro e wq ⟨rfl,hwq⟩;obtain rfl:=hwq.symm;clear hwq)
    all_goals go_ret
    all_goals exact ⟨by first |rfl |(simp;done) |(simp;omega),rfl⟩
 ·have h0:48≤c∧c≤57:=(zb HG).1 rfl
  clear HG
  obtain rfl:b=true:=(zb HT).2 (by omega)
  clear HT
  go_enter Tryz.func30,Tryz.ntmps30
  go_wp2_with (go_at_call 29;refine (zb HD _).mono ?_;rintro e wq ⟨rfl,hwq⟩;obtain rfl:=hwq.symm;clear hwq)
  all_goals go_ret
  all_goals exact ⟨by first |rfl |(simp;done) |(simp;omega),rfl⟩
end
end Go.Proofs.YtfnkbmglodopkaaGreatDoor
