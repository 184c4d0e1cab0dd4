/-
  R2Right
  R2Box
  R2Boxes
  J9Src
-/
import Derived.Test.YtmdhljoicnommaaGreatMS0
import Derived.Test.YtmdhljoicnommaaGreatMS4
import Derived.WalkSpells
import Derived.OpenShut
namespace Go.Proofs.YtmdhljoicnommaaGreat
set_option maxHeartbeats 12800000
open Go.RowKit
set_option linter.unusedVariables false
theorem qCp (n:Int)(w:World):Cl 95 #[I4 n] w fun e a=>e=.returned (.bool (regB n))/\w=a:=by
 unfold regB
 by_cases h:0<=n
 ·go_enter Tryz.func95,Tryz.ntmps95;go_wp2;go_ret;exact ⟨r2b (by simp [h]),rfl⟩
 ·go_enter Tryz.func95,Tryz.ntmps95;go_wp2;go_ret;exact ⟨r2b (by simp;omega),rfl⟩
theorem qBe (n:Int)(w:World):Cl 67 #[I4 n] w fun e a=>e=.returned (.bool (threeB n))/\w=a:=by
 unfold threeB
 by_cases h:1<=n
 ·go_enter Tryz.func67,Tryz.ntmps67;go_wp2;go_ret;exact ⟨r2b (by simp [h]),rfl⟩
 ·go_enter Tryz.func67,Tryz.ntmps67;go_wp2;go_ret;exact ⟨r2b (by simp;omega),rfl⟩
theorem qBf (n:Int)(w:World):Cl 64 #[I4 n] w fun e a=>e=.returned (.bool (jumpB n))/\w=a:=by
 unfold jumpB
 by_cases h:16<=n
 ·go_enter Tryz.func64,Tryz.ntmps64;go_wp2;go_ret;exact ⟨r2b (by simp [h]),rfl⟩
 ·go_enter Tryz.func64,Tryz.ntmps64;go_wp2;go_ret;exact ⟨r2b (by simp;omega),rfl⟩

abbrev instV (op d a b imm:Int):Value:=.agg #[.int .i64 op,.int .i64 d,.int .i64 a,.int .i64 b,.int .i64 imm]

theorem qCc (op d a b c:Int)(w:World):Cl 96 #[instV op d a b c] w fun e i=>e=.returned (.bool (sourcedB b c))/\w.alloc (.cells #[I4 op,I4 d,I4 a,I4 b,I4 c] 43)=i:=by
 by_cases f:regB b=true
 ·by_cases hi:c=0
  ·have g:(c==0)=true:=by simp [hi]
   clear hi;go_enter Tryz.func96,Tryz.ntmps96
   go_wp2_with (go_at_call 95;go_must (refine (qCp b _).mono ?_);rintro e i ⟨rfl,rfl⟩)
   go_ret;exact ⟨r2b (by simp [sourcedB,f,g]),rfl⟩
  ·have g:(c==0)=false:=by simp [hi]
   clear hi;go_enter Tryz.func96,Tryz.ntmps96
   go_wp2_with (go_at_call 95;go_must (refine (qCp b _).mono ?_);rintro e i ⟨rfl,rfl⟩)
   go_ret;exact ⟨r2b (by simp [sourcedB,f,g]),rfl⟩
 ·have f:regB b=false:=by simpa using f
  go_enter Tryz.func96,Tryz.ntmps96
  go_wp2_with (go_at_call 95;go_must (refine (qCp b _).mono ?_);rintro e i ⟨rfl,rfl⟩)
  go_ret;exact ⟨r2b (by simp [sourcedB,f]),rfl⟩

set_option maxRecDepth 100000 in
set_option maxHeartbeats 800000 in
theorem right_0 (d a b imm:Int) (w:World):Calls Tryz.prog 63 #[instV 0 d a b imm] w fun e w'=>e=.returned (.bool (rightB 0 d a b imm))/\Below w.heap.size w w':=by
 have hth:threeB 0=false:=rfl
 have hju:jumpB 0=false:=rfl
 by_cases h2:(regB d)=true
 by_cases h1:(a==0)=true
 all_goals ((try have h1:=eq_false_of_ne_true h1);(try have h2:=eq_false_of_ne_true h2))
 all_goals go_enter Tryz.func63,Tryz.ntmps63
 all_goals go_wp2_with (first
  | (go_at_call 95;refine (qCp _ _).mono ?_;rintro e w' ⟨rfl,rfl⟩)
  | (go_at_call 96;refine (qCc _ _ _ _ _ _).mono ?_;rintro e w' ⟨rfl,rfl⟩)
  | (go_at_call 67;refine (qBe _ _).mono ?_;rintro e w' ⟨rfl,rfl⟩)
  | (go_at_call 64;refine (qBf _ _).mono ?_;rintro e w' ⟨rfl,rfl⟩))
 all_goals go_ret
 all_goals exact ⟨r2b (by rw [rightB_0];first|(simp [*];done)|(simp [*];intros;omega)),by repeat (first|exact Below.refl _ _|(refine Below.alloc ?_ (by simp) _))⟩
set_option maxRecDepth 100000 in
set_option maxHeartbeats 800000 in
theorem right_11 (d a b imm:Int) (w:World):Calls Tryz.prog 63 #[instV 11 d a b imm] w fun e w'=>e=.returned (.bool (rightB 11 d a b imm))/\Below w.heap.size w w':=by
 have hth:threeB 11=false:=rfl
 have hju:jumpB 11=false:=rfl
 by_cases h2:(regB d)=true
 by_cases h1:(a==0)=true
 all_goals ((try have h1:=eq_false_of_ne_true h1);(try have h2:=eq_false_of_ne_true h2))
 all_goals go_enter Tryz.func63,Tryz.ntmps63
 all_goals go_wp2_with (first
  | (go_at_call 95;refine (qCp _ _).mono ?_;rintro e w' ⟨rfl,rfl⟩)
  | (go_at_call 96;refine (qCc _ _ _ _ _ _).mono ?_;rintro e w' ⟨rfl,rfl⟩)
  | (go_at_call 67;refine (qBe _ _).mono ?_;rintro e w' ⟨rfl,rfl⟩)
  | (go_at_call 64;refine (qBf _ _).mono ?_;rintro e w' ⟨rfl,rfl⟩))
 all_goals go_ret
 all_goals exact ⟨r2b (by rw [rightB_11];first|(simp [*];done)|(simp [*];intros;omega)),by repeat (first|exact Below.refl _ _|(refine Below.alloc ?_ (by simp) _))⟩
set_option maxRecDepth 100000 in
set_option maxHeartbeats 800000 in
theorem right_12 (d a b imm:Int) (w:World):Calls Tryz.prog 63 #[instV 12 d a b imm] w fun e w'=>e=.returned (.bool (rightB 12 d a b imm))/\Below w.heap.size w w':=by
 have hth:threeB 12=false:=rfl
 have hju:jumpB 12=false:=rfl
 by_cases h2:(d==0)=true
 by_cases h1:(regB a)=true
 all_goals ((try have h1:=eq_false_of_ne_true h1);(try have h2:=eq_false_of_ne_true h2))
 all_goals go_enter Tryz.func63,Tryz.ntmps63
 all_goals go_wp2_with (first
  | (go_at_call 95;refine (qCp _ _).mono ?_;rintro e w' ⟨rfl,rfl⟩)
  | (go_at_call 96;refine (qCc _ _ _ _ _ _).mono ?_;rintro e w' ⟨rfl,rfl⟩)
  | (go_at_call 67;refine (qBe _ _).mono ?_;rintro e w' ⟨rfl,rfl⟩)
  | (go_at_call 64;refine (qBf _ _).mono ?_;rintro e w' ⟨rfl,rfl⟩))
 all_goals go_ret
 all_goals exact ⟨r2b (by rw [rightB_12];first|(simp [*];done)|(simp [*];intros;omega)),by repeat (first|exact Below.refl _ _|(refine Below.alloc ?_ (by simp) _))⟩
set_option maxRecDepth 100000 in
set_option maxHeartbeats 800000 in
theorem right_13 (d a b imm:Int) (w:World):Calls Tryz.prog 63 #[instV 13 d a b imm] w fun e w'=>e=.returned (.bool (rightB 13 d a b imm))/\Below w.heap.size w w':=by
 have hth:threeB 13=false:=rfl
 have hju:jumpB 13=false:=rfl
 by_cases h4:(regB d)=true
 by_cases h3:(a==0)=true
 by_cases h2:(b==0)=true
 by_cases h1:(imm==0)=true
 all_goals ((try have h1:=eq_false_of_ne_true h1);(try have h2:=eq_false_of_ne_true h2);(try have h3:=eq_false_of_ne_true h3);(try have h4:=eq_false_of_ne_true h4))
 all_goals go_enter Tryz.func63,Tryz.ntmps63
 all_goals go_wp2_with (first
  | (go_at_call 95;refine (qCp _ _).mono ?_;rintro e w' ⟨rfl,rfl⟩)
  | (go_at_call 96;refine (qCc _ _ _ _ _ _).mono ?_;rintro e w' ⟨rfl,rfl⟩)
  | (go_at_call 67;refine (qBe _ _).mono ?_;rintro e w' ⟨rfl,rfl⟩)
  | (go_at_call 64;refine (qBf _ _).mono ?_;rintro e w' ⟨rfl,rfl⟩))
 all_goals go_ret
 all_goals exact ⟨r2b (by rw [rightB_13];first|(simp [*];done)|(simp [*];intros;omega)),by repeat (first|exact Below.refl _ _|(refine Below.alloc ?_ (by simp) _))⟩
set_option maxRecDepth 100000 in
set_option maxHeartbeats 800000 in
theorem right_14 (d a b imm:Int) (w:World):Calls Tryz.prog 63 #[instV 14 d a b imm] w fun e w'=>e=.returned (.bool (rightB 14 d a b imm))/\Below w.heap.size w w':=by
 have hth:threeB 14=false:=rfl
 have hju:jumpB 14=false:=rfl
 by_cases h4:(regB d)=true
 by_cases h3:(a==0)=true
 by_cases h2:(b==0)=true
 by_cases h1:0<=imm
 all_goals ((try have h2:=eq_false_of_ne_true h2);(try have h3:=eq_false_of_ne_true h3);(try have h4:=eq_false_of_ne_true h4))
 all_goals go_enter Tryz.func63,Tryz.ntmps63
 all_goals go_wp2_with (first
  | (go_at_call 95;refine (qCp _ _).mono ?_;rintro e w' ⟨rfl,rfl⟩)
  | (go_at_call 96;refine (qCc _ _ _ _ _ _).mono ?_;rintro e w' ⟨rfl,rfl⟩)
  | (go_at_call 67;refine (qBe _ _).mono ?_;rintro e w' ⟨rfl,rfl⟩)
  | (go_at_call 64;refine (qBf _ _).mono ?_;rintro e w' ⟨rfl,rfl⟩))
 all_goals go_ret
 all_goals exact ⟨r2b (by rw [rightB_14];first|(simp [*];done)|(simp [*];intros;omega)),by repeat (first|exact Below.refl _ _|(refine Below.alloc ?_ (by simp) _))⟩
set_option maxRecDepth 100000 in
set_option maxHeartbeats 800000 in
theorem right_15 (d a b imm:Int) (w:World):Calls Tryz.prog 63 #[instV 15 d a b imm] w fun e w'=>e=.returned (.bool (rightB 15 d a b imm))/\Below w.heap.size w w':=by
 have hth:threeB 15=false:=rfl
 have hju:jumpB 15=false:=rfl
 by_cases h4:0<=d
 by_cases h3:d<=63
 by_cases h2:(a==0)=true
 by_cases h1:(b==0)=true
 all_goals ((try have h1:=eq_false_of_ne_true h1);(try have h2:=eq_false_of_ne_true h2))
 all_goals go_enter Tryz.func63,Tryz.ntmps63
 all_goals go_wp2_with (first
  | (go_at_call 95;refine (qCp _ _).mono ?_;rintro e w' ⟨rfl,rfl⟩)
  | (go_at_call 96;refine (qCc _ _ _ _ _ _).mono ?_;rintro e w' ⟨rfl,rfl⟩)
  | (go_at_call 67;refine (qBe _ _).mono ?_;rintro e w' ⟨rfl,rfl⟩)
  | (go_at_call 64;refine (qBf _ _).mono ?_;rintro e w' ⟨rfl,rfl⟩))
 all_goals go_ret
 all_goals exact ⟨r2b (by rw [rightB_15];first|(simp [*];done)|(simp [*];intros;omega)),by repeat (first|exact Below.refl _ _|(refine Below.alloc ?_ (by simp) _))⟩
set_option maxRecDepth 100000 in
set_option maxHeartbeats 800000 in
theorem right_20 (d a b imm:Int) (w:World):Calls Tryz.prog 63 #[instV 20 d a b imm] w fun e w'=>e=.returned (.bool (rightB 20 d a b imm))/\Below w.heap.size w w':=by
 have hth:threeB 20=false:=rfl
 have hju:jumpB 20=false:=rfl
 by_cases h5:1<=d
 by_cases h4:d<=63
 by_cases h3:(regB a)=true
 by_cases h2:(b==0)=true
 by_cases h1:1<=imm
 all_goals ((try have h2:=eq_false_of_ne_true h2);(try have h3:=eq_false_of_ne_true h3))
 all_goals go_enter Tryz.func63,Tryz.ntmps63
 all_goals go_wp2_with (first
  | (go_at_call 95;refine (qCp _ _).mono ?_;rintro e w' ⟨rfl,rfl⟩)
  | (go_at_call 96;refine (qCc _ _ _ _ _ _).mono ?_;rintro e w' ⟨rfl,rfl⟩)
  | (go_at_call 67;refine (qBe _ _).mono ?_;rintro e w' ⟨rfl,rfl⟩)
  | (go_at_call 64;refine (qBf _ _).mono ?_;rintro e w' ⟨rfl,rfl⟩))
 all_goals go_ret
 all_goals exact ⟨r2b (by rw [rightB_20];first|(simp [*];done)|(simp [*];intros;omega)),by repeat (first|exact Below.refl _ _|(refine Below.alloc ?_ (by simp) _))⟩
set_option maxRecDepth 100000 in
set_option maxHeartbeats 800000 in
theorem right_21 (d a b imm:Int) (w:World):Calls Tryz.prog 63 #[instV 21 d a b imm] w fun e w'=>e=.returned (.bool (rightB 21 d a b imm))/\Below w.heap.size w w':=by
 have hth:threeB 21=false:=rfl
 have hju:jumpB 21=false:=rfl
 by_cases h4:(d==0)=true
 by_cases h3:(a==0)=true
 by_cases h2:(b==0)=true
 by_cases h1:0<=imm
 all_goals ((try have h2:=eq_false_of_ne_true h2);(try have h3:=eq_false_of_ne_true h3);(try have h4:=eq_false_of_ne_true h4))
 all_goals go_enter Tryz.func63,Tryz.ntmps63
 all_goals go_wp2_with (first
  | (go_at_call 95;refine (qCp _ _).mono ?_;rintro e w' ⟨rfl,rfl⟩)
  | (go_at_call 96;refine (qCc _ _ _ _ _ _).mono ?_;rintro e w' ⟨rfl,rfl⟩)
  | (go_at_call 67;refine (qBe _ _).mono ?_;rintro e w' ⟨rfl,rfl⟩)
  | (go_at_call 64;refine (qBf _ _).mono ?_;rintro e w' ⟨rfl,rfl⟩))
 all_goals go_ret
 all_goals exact ⟨r2b (by rw [rightB_21];first|(simp [*];done)|(simp [*];intros;omega)),by repeat (first|exact Below.refl _ _|(refine Below.alloc ?_ (by simp) _))⟩
set_option maxRecDepth 100000 in
set_option maxHeartbeats 800000 in
theorem right_22 (d a b imm:Int) (w:World):Calls Tryz.prog 63 #[instV 22 d a b imm] w fun e w'=>e=.returned (.bool (rightB 22 d a b imm))/\Below w.heap.size w w':=by
 have hth:threeB 22=false:=rfl
 have hju:jumpB 22=false:=rfl
 by_cases h3:(d==0)=true
 by_cases h2:(regB a)=true
 by_cases h1:(b==0)=true
 all_goals ((try have h1:=eq_false_of_ne_true h1);(try have h2:=eq_false_of_ne_true h2);(try have h3:=eq_false_of_ne_true h3))
 all_goals go_enter Tryz.func63,Tryz.ntmps63
 all_goals go_wp2_with (first
  | (go_at_call 95;refine (qCp _ _).mono ?_;rintro e w' ⟨rfl,rfl⟩)
  | (go_at_call 96;refine (qCc _ _ _ _ _ _).mono ?_;rintro e w' ⟨rfl,rfl⟩)
  | (go_at_call 67;refine (qBe _ _).mono ?_;rintro e w' ⟨rfl,rfl⟩)
  | (go_at_call 64;refine (qBf _ _).mono ?_;rintro e w' ⟨rfl,rfl⟩))
 all_goals go_ret
 all_goals exact ⟨r2b (by rw [rightB_22];first|(simp [*];done)|(simp [*];intros;omega)),by repeat (first|exact Below.refl _ _|(refine Below.alloc ?_ (by simp) _))⟩
set_option maxRecDepth 100000 in
set_option maxHeartbeats 800000 in
theorem right_three (op d a b imm:Int) (w:World) (hr:1<=op/\op<=10):Calls Tryz.prog 63 #[instV op d a b imm] w fun e w'=>e=.returned (.bool (rightB op d a b imm))/\Below w.heap.size w w':=by
 have ho0:(op==0)=false:=by simp;omega
 have ho11:(op==11)=false:=by simp;omega
 have ho12:(op==12)=false:=by simp;omega
 have ho13:(op==13)=false:=by simp;omega
 have ho14:(op==14)=false:=by simp;omega
 have ho15:(op==15)=false:=by simp;omega
 have ho20:(op==20)=false:=by simp;omega
 have ho21:(op==21)=false:=by simp;omega
 have ho22:(op==22)=false:=by simp;omega
 have hth:threeB op=true:=by simp [threeB];omega
 by_cases h2:(regB d)=true
 by_cases h1:(regB a)=true
 all_goals ((try have h1:=eq_false_of_ne_true h1);(try have h2:=eq_false_of_ne_true h2))
 all_goals go_enter Tryz.func63,Tryz.ntmps63
 all_goals go_wp2_with (first
  | (go_at_call 95;refine (qCp _ _).mono ?_;rintro e w' ⟨rfl,rfl⟩)
  | (go_at_call 96;refine (qCc _ _ _ _ _ _).mono ?_;rintro e w' ⟨rfl,rfl⟩)
  | (go_at_call 67;refine (qBe _ _).mono ?_;rintro e w' ⟨rfl,rfl⟩)
  | (go_at_call 64;refine (qBf _ _).mono ?_;rintro e w' ⟨rfl,rfl⟩))
 all_goals go_ret
 all_goals exact ⟨r2b (by rw [qDg hr];first|(simp [*];done)|(simp [*];intros;omega)),by repeat (first|exact Below.refl _ _|(refine Below.alloc ?_ (by simp) _))⟩
set_option maxRecDepth 100000 in
set_option maxHeartbeats 800000 in
theorem right_jump (op d a b imm:Int) (w:World) (hr:16<=op/\op<=19):Calls Tryz.prog 63 #[instV op d a b imm] w fun e w'=>e=.returned (.bool (rightB op d a b imm))/\Below w.heap.size w w':=by
 have ho0:(op==0)=false:=by simp;omega
 have ho11:(op==11)=false:=by simp;omega
 have ho12:(op==12)=false:=by simp;omega
 have ho13:(op==13)=false:=by simp;omega
 have ho14:(op==14)=false:=by simp;omega
 have ho15:(op==15)=false:=by simp;omega
 have ho20:(op==20)=false:=by simp;omega
 have ho21:(op==21)=false:=by simp;omega
 have ho22:(op==22)=false:=by simp;omega
 have hth:threeB op=false:=by simp [threeB];omega
 have hju:jumpB op=true:=by simp [jumpB];omega
 by_cases h3:0<=d
 by_cases h2:d<=63
 by_cases h1:(regB a)=true
 all_goals ((try have h1:=eq_false_of_ne_true h1))
 all_goals go_enter Tryz.func63,Tryz.ntmps63
 all_goals go_wp2_with (first
  | (go_at_call 95;refine (qCp _ _).mono ?_;rintro e w' ⟨rfl,rfl⟩)
  | (go_at_call 96;refine (qCc _ _ _ _ _ _).mono ?_;rintro e w' ⟨rfl,rfl⟩)
  | (go_at_call 67;refine (qBe _ _).mono ?_;rintro e w' ⟨rfl,rfl⟩)
  | (go_at_call 64;refine (qBf _ _).mono ?_;rintro e w' ⟨rfl,rfl⟩))
 all_goals go_ret
 all_goals exact ⟨r2b (by rw [rightB_jump hr];first|(simp [*];done)|(simp [*];intros;omega)),by repeat (first|exact Below.refl _ _|(refine Below.alloc ?_ (by simp) _))⟩
set_option maxRecDepth 100000 in
set_option maxHeartbeats 800000 in
theorem right_none (op d a b imm:Int) (w:World) (hr:op<0∨22<op):Calls Tryz.prog 63 #[instV op d a b imm] w fun e w'=>e=.returned (.bool (rightB op d a b imm))/\Below w.heap.size w w':=by
 have ho0:(op==0)=false:=by simp;omega
 have ho11:(op==11)=false:=by simp;omega
 have ho12:(op==12)=false:=by simp;omega
 have ho13:(op==13)=false:=by simp;omega
 have ho14:(op==14)=false:=by simp;omega
 have ho15:(op==15)=false:=by simp;omega
 have ho20:(op==20)=false:=by simp;omega
 have ho21:(op==21)=false:=by simp;omega
 have ho22:(op==22)=false:=by simp;omega
 have hth:threeB op=false:=by simp [threeB];omega
 have hju:jumpB op=false:=by simp [jumpB];omega
 go_enter Tryz.func63,Tryz.ntmps63
 go_wp2_with (first
  | (go_at_call 95;refine (qCp _ _).mono ?_;rintro e w' ⟨rfl,rfl⟩)
  | (go_at_call 96;refine (qCc _ _ _ _ _ _).mono ?_;rintro e w' ⟨rfl,rfl⟩)
  | (go_at_call 67;refine (qBe _ _).mono ?_;rintro e w' ⟨rfl,rfl⟩)
  | (go_at_call 64;refine (qBf _ _).mono ?_;rintro e w' ⟨rfl,rfl⟩))
 go_ret
 exact ⟨r2b (by rw [rightB_none hr]),by repeat (first|exact Below.refl _ _|(refine Below.alloc ?_ (by simp) _))⟩

theorem qCk (op d a b c:Int)(w:World):Cl 63 #[instV op d a b c] w fun e f=>e=.returned (.bool (rightB op d a b c))/\Bw w f:=by
 by_cases h1:1<=op/\op<=10
 ·exact right_three op d a b c w h1
 by_cases h2:16<=op/\op<=19
 ·exact right_jump op d a b c w h2
 by_cases h3:op<0∨22<op
 ·exact right_none op d a b c w h3
 obtain rfl|rfl|rfl|rfl|rfl|rfl|rfl|rfl|rfl:op=0∨op=11∨op=12∨op=13∨op=14∨op=15∨op=20∨op=21∨op=22:=by omega
 ·exact right_0 d a b c w
 ·exact right_11 d a b c w
 ·exact right_12 d a b c w
 ·exact right_13 d a b c w
 ·exact right_14 d a b c w
 ·exact right_15 d a b c w
 ·exact right_20 d a b c w
 ·exact right_21 d a b c w
 ·exact right_22 d a b c w
abbrev instO (op d a b imm:Int):Obj:=.cells #[.int .i64 op,.int .i64 d,.int .i64 a,.int .i64 b,.int .i64 imm] 43
theorem qAl {w a:World}{o:Obj}(h:Below (w.alloc o).heap.size (w.alloc o) a):Bw w a:=((Below.refl _ _).alloc (Nat.le_refl _) o).trans (h.mono (by simp))
theorem qBq {w c:World}{op d a b f:Int}(h:Below (w.alloc (instO op d a b f)).heap.size (w.alloc (instO op d a b f)) c) :
  c.cell? ⟨w.heap.size,0,none⟩=some (I4 op)/\c.cell? ⟨w.heap.size,1,none⟩=some (I4 d)/\c.cell? ⟨w.heap.size,2,none⟩=some (I4 a)/\c.cell? ⟨w.heap.size,3,none⟩=some (I4 b)/\c.cell? ⟨w.heap.size,4,none⟩=some (I4 f):=by
 refine ⟨?_,?_,?_,?_,?_⟩<;>(rw [h.cell (by simp)];simp)

abbrev Box (w:World) (n:Nat) (op d a b imm:Int):Prop:=w.cell? ⟨n,0,none⟩=some (.int .i64 op)/\w.cell? ⟨n,1,none⟩=some (.int .i64 d)/\w.cell? ⟨n,2,none⟩=some (.int .i64 a)/\w.cell? ⟨n,3,none⟩=some (.int .i64 b)/\w.cell? ⟨n,4,none⟩=some (.int .i64 imm)
theorem Box.below {w i:World}{n B:Nat}{op d a b g:Int}(h:Box w n op d a b g)(f:Below B w i)(c:n<B):Box i n op d a b g:=by
 unfold Box;rw [f.cell (p:=⟨n,0,none⟩) c,f.cell (p:=⟨n,1,none⟩) c,f.cell (p:=⟨n,2,none⟩) c,f.cell (p:=⟨n,3,none⟩) c,f.cell (p:=⟨n,4,none⟩) c];exact h
theorem qBd (op d a b f:Int)(w:World):Cl 86 #[instV op d a b f] w fun e k=>e=.returned (.bool (sourceB op d a b f))/\Bw w k:=by
 by_cases g:rightB op d a b f=true
 ·by_cases h12:op<=12
  ·go_enter Tryz.func86,Tryz.ntmps86
   go_wp2_with (first
    | (go_at_call 63;refine (qCk op d a b f _).mono ?_;rintro e l ⟨rfl,c⟩;have i:=qAl c;clear c)
    | (go_at_call 64;refine (qBf _ _).mono ?_;rintro e k ⟨rfl,rfl⟩))
   go_ret;exact ⟨r2b (by simp [sourceB,g,h12]),i⟩
  ·go_enter Tryz.func86,Tryz.ntmps86
   go_wp2_with (first
    | (go_at_call 63;refine (qCk op d a b f _).mono ?_;rintro e l ⟨rfl,c⟩;have i:=qAl c;clear c)
    | (go_at_call 64;refine (qBf _ _).mono ?_;rintro e k ⟨rfl,rfl⟩))
   go_ret;exact ⟨r2b (by simp [sourceB,g]),i⟩
 ·have g:=eq_false_of_ne_true g;go_enter Tryz.func86,Tryz.ntmps86
  go_wp2_with (first
   | (go_at_call 63;refine (qCk op d a b f _).mono ?_;rintro e l ⟨rfl,c⟩;have i:=qAl c;clear c)
   | (go_at_call 64;refine (qBf _ _).mono ?_;rintro e k ⟨rfl,rfl⟩))
  go_ret;exact ⟨r2b (by simp [sourceB,g]),i⟩

theorem ret2ib {a c:Int}{b b':Bool}(f:a=c)(d:b=b'):Ending.returned (.tuple #[I4 a,.bool b])=.returned (.tuple #[I4 c,.bool b']):=by rw [f,d]

theorem writes_any (op d a b f:Int)(w:World):Cl 84 #[instV op d a b f] w fun e z=>e=.returned (.tuple #[I4 (writesL op d a b f).1,.bool (writesL op d a b f).2])/\Bw w z:=by
 by_cases k:rightB op d a b f=true
 ·by_cases h11:op<=11
  ·have g:Hid (writesL op d a b f=(d,true)):=by show _=_;unfold writesL;rw [if_neg (by simp [k]),if_pos (.inl h11)]
   go_enter Tryz.func84,Tryz.ntmps84
   go_wp2_with (go_at_call 63;refine (qCk op d a b f _).mono ?_;rintro e l ⟨rfl,c⟩;have i:=qAl c;obtain ⟨o,u,s,n,r⟩:=qBq c;clear c)
   go_ret2;exact ⟨ret2ib (by rw [g.out]) (by rw [g.out]),i⟩
  ·by_cases h13:op=13∨op=14
   ·have g:Hid (writesL op d a b f=(d,true)):=by show _=_;unfold writesL;rw [if_neg (by simp [k]),if_pos (.inr h13)]
    rcases h13 with rfl|rfl
    all_goals
     go_enter Tryz.func84,Tryz.ntmps84
     go_wp2_with (go_at_call 63;refine (qCk _ d a b f _).mono ?_;rintro e l ⟨rfl,c⟩;have i:=qAl c;obtain ⟨o,u,s,n,r⟩:=qBq c;clear c)
     go_ret2;exact ⟨ret2ib (by rw [g.out]) (by rw [g.out]),i⟩
   ·have g:Hid (writesL op d a b f=(0,op==21)):=by show _=_;unfold writesL;rw [if_neg (by simp [k]),if_neg (by omega)]
    have A:(op==13)=false:=by simp;omega
    have y:(op==14)=false:=by simp;omega
    clear h13;go_enter Tryz.func84,Tryz.ntmps84
    go_wp2_with (go_at_call 63;refine (qCk op d a b f _).mono ?_;rintro e l ⟨rfl,c⟩;have i:=qAl c;obtain ⟨o,u,s,n,r⟩:=qBq c;clear c)
    go_ret2;exact ⟨ret2ib (by rw [g.out]) (by rw [g.out]),i⟩
 ·have k:=eq_false_of_ne_true k
  have g:Hid (writesL op d a b f=(0,false)):=by show _=_;unfold writesL;rw [if_pos k]
  go_enter Tryz.func84,Tryz.ntmps84
  go_wp2_with (go_at_call 63;refine (qCk op d a b f _).mono ?_;rintro e l ⟨rfl,c⟩;have i:=qAl c;clear c)
  go_ret2;exact ⟨ret2ib (by rw [g.out]) (by rw [g.out]),i⟩
end Go.Proofs.YtmdhljoicnommaaGreat
