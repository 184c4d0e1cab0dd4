/-
  R2Right
  R2Box
  R2Boxes
  J9Src
-/
import Derived.Test.YtmdhljoicnommaaGreatME0
import Derived.Test.YtmdhljoicnommaaGreatME4
import Derived.WalkSpells
import Derived.OpenShut
namespace Go.Proofs.YtmdhljoicnommaaGreat
set_option maxHeartbeats 12800000
open Go.RowKit
set_option linter.unusedVariables false
theorem qFt (n:Int)(w:World):Cl 95 #[I4 n] w fun e a=>e=.returned (.bool (qAu n))/\w=a:=by
 unfold qAu
 by_cases h:0<=n
 ·go_enter Tryz.func95,Tryz.ntmps95;go_wp2;go_ret;exact ⟨r2b (by simp [h]),rfl⟩
 ·go_enter Tryz.func95,Tryz.ntmps95;go_wp2;go_ret;exact ⟨r2b (by simp;omega),rfl⟩
theorem qCu (n:Int)(w:World):Cl 67 #[I4 n] w fun e a=>e=.returned (.bool (qAv n))/\w=a:=by
 unfold qAv
 by_cases h:1<=n
 ·go_enter Tryz.func67,Tryz.ntmps67;go_wp2;go_ret;exact ⟨r2b (by simp [h]),rfl⟩
 ·go_enter Tryz.func67,Tryz.ntmps67;go_wp2;go_ret;exact ⟨r2b (by simp;omega),rfl⟩
theorem qCx (n:Int)(w:World):Cl 64 #[I4 n] w fun e a=>e=.returned (.bool (qBw n))/\w=a:=by
 unfold qBw
 by_cases h:16<=n
 ·go_enter Tryz.func64,Tryz.ntmps64;go_wp2;go_ret;exact ⟨r2b (by simp [h]),rfl⟩
 ·go_enter Tryz.func64,Tryz.ntmps64;go_wp2;go_ret;exact ⟨r2b (by simp;omega),rfl⟩

abbrev qAl (op d a b imm:Int):Value:=.agg #[.int .i64 op,.int .i64 d,.int .i64 a,.int .i64 b,.int .i64 imm]

theorem qEj (op d a b c:Int)(w:World):Cl 96 #[qAl op d a b c] w fun e i=>e=.returned (.bool (qCr b c))/\w.alloc (.cells #[I4 op,I4 d,I4 a,I4 b,I4 c] 43)=i:=by
 by_cases g:qAu b=true
 ·by_cases hi:c=0
  ·have f:(c==0)=true:=by simp [hi]
   clear hi;go_enter Tryz.func96,Tryz.ntmps96
   go_wp2_with (go_at_call 95;go_must (refine (qFt b _).mono ?_);rintro e i ⟨rfl,rfl⟩)
   go_ret;exact ⟨r2b (by simp [qCr,g,f]),rfl⟩
  ·have f:(c==0)=false:=by simp [hi]
   clear hi;go_enter Tryz.func96,Tryz.ntmps96
   go_wp2_with (go_at_call 95;go_must (refine (qFt b _).mono ?_);rintro e i ⟨rfl,rfl⟩)
   go_ret;exact ⟨r2b (by simp [qCr,g,f]),rfl⟩
 ·have g:qAu b=false:=by simpa using g
  go_enter Tryz.func96,Tryz.ntmps96
  go_wp2_with (go_at_call 95;go_must (refine (qFt b _).mono ?_);rintro e i ⟨rfl,rfl⟩)
  go_ret;exact ⟨r2b (by simp [qCr,g]),rfl⟩

set_option maxRecDepth 100000 in
set_option maxHeartbeats 800000 in
theorem yZv (d a b imm:Int) (w:World):Calls Tryz.prog 63 #[qAl 0 d a b imm] w fun e w'=>e=.returned (.bool (qAq 0 d a b imm))/\Below w.heap.size w w':=by
 have hth:qAv 0=false:=rfl
 have hju:qBw 0=false:=rfl
 by_cases h2:(qAu d)=true
 by_cases h1:(a==0)=true
 all_goals ((try have h1:=eq_false_of_ne_true h1);(try have h2:=eq_false_of_ne_true h2))
 all_goals go_enter Tryz.func63,Tryz.ntmps63
 all_goals go_wp2_with (first
  | (go_at_call 95;refine (qFt _ _).mono ?_;rintro e w' ⟨rfl,rfl⟩)
  | (go_at_call 96;refine (qEj _ _ _ _ _ _).mono ?_;rintro e w' ⟨rfl,rfl⟩)
  | (go_at_call 67;refine (qCu _ _).mono ?_;rintro e w' ⟨rfl,rfl⟩)
  | (go_at_call 64;refine (qCx _ _).mono ?_;rintro e w' ⟨rfl,rfl⟩))
 all_goals go_ret
 all_goals exact ⟨r2b (by rw [yAs];first|(simp [*];done)|(simp [*];intros;omega)),by repeat (first|exact Below.refl _ _|(refine Below.alloc ?_ (by simp) _))⟩
set_option maxRecDepth 100000 in
set_option maxHeartbeats 800000 in
theorem yXd (d a b imm:Int) (w:World):Calls Tryz.prog 63 #[qAl 11 d a b imm] w fun e w'=>e=.returned (.bool (qAq 11 d a b imm))/\Below w.heap.size w w':=by
 have hth:qAv 11=false:=rfl
 have hju:qBw 11=false:=rfl
 by_cases h2:(qAu d)=true
 by_cases h1:(a==0)=true
 all_goals ((try have h1:=eq_false_of_ne_true h1);(try have h2:=eq_false_of_ne_true h2))
 all_goals go_enter Tryz.func63,Tryz.ntmps63
 all_goals go_wp2_with (first
  | (go_at_call 95;refine (qFt _ _).mono ?_;rintro e w' ⟨rfl,rfl⟩)
  | (go_at_call 96;refine (qEj _ _ _ _ _ _).mono ?_;rintro e w' ⟨rfl,rfl⟩)
  | (go_at_call 67;refine (qCu _ _).mono ?_;rintro e w' ⟨rfl,rfl⟩)
  | (go_at_call 64;refine (qCx _ _).mono ?_;rintro e w' ⟨rfl,rfl⟩))
 all_goals go_ret
 all_goals exact ⟨r2b (by rw [qXv];first|(simp [*];done)|(simp [*];intros;omega)),by repeat (first|exact Below.refl _ _|(refine Below.alloc ?_ (by simp) _))⟩
set_option maxRecDepth 100000 in
set_option maxHeartbeats 800000 in
theorem ySi (d a b imm:Int) (w:World):Calls Tryz.prog 63 #[qAl 12 d a b imm] w fun e w'=>e=.returned (.bool (qAq 12 d a b imm))/\Below w.heap.size w w':=by
 have hth:qAv 12=false:=rfl
 have hju:qBw 12=false:=rfl
 by_cases h2:(d==0)=true
 by_cases h1:(qAu a)=true
 all_goals ((try have h1:=eq_false_of_ne_true h1);(try have h2:=eq_false_of_ne_true h2))
 all_goals go_enter Tryz.func63,Tryz.ntmps63
 all_goals go_wp2_with (first
  | (go_at_call 95;refine (qFt _ _).mono ?_;rintro e w' ⟨rfl,rfl⟩)
  | (go_at_call 96;refine (qEj _ _ _ _ _ _).mono ?_;rintro e w' ⟨rfl,rfl⟩)
  | (go_at_call 67;refine (qCu _ _).mono ?_;rintro e w' ⟨rfl,rfl⟩)
  | (go_at_call 64;refine (qCx _ _).mono ?_;rintro e w' ⟨rfl,rfl⟩))
 all_goals go_ret
 all_goals exact ⟨r2b (by rw [qMt];first|(simp [*];done)|(simp [*];intros;omega)),by repeat (first|exact Below.refl _ _|(refine Below.alloc ?_ (by simp) _))⟩
set_option maxRecDepth 100000 in
set_option maxHeartbeats 800000 in
theorem yVj (d a b imm:Int) (w:World):Calls Tryz.prog 63 #[qAl 13 d a b imm] w fun e w'=>e=.returned (.bool (qAq 13 d a b imm))/\Below w.heap.size w w':=by
 have hth:qAv 13=false:=rfl
 have hju:qBw 13=false:=rfl
 by_cases h4:(qAu d)=true
 by_cases h3:(a==0)=true
 by_cases h2:(b==0)=true
 by_cases h1:(imm==0)=true
 all_goals ((try have h1:=eq_false_of_ne_true h1);(try have h2:=eq_false_of_ne_true h2);(try have h3:=eq_false_of_ne_true h3);(try have h4:=eq_false_of_ne_true h4))
 all_goals go_enter Tryz.func63,Tryz.ntmps63
 all_goals go_wp2_with (first
  | (go_at_call 95;refine (qFt _ _).mono ?_;rintro e w' ⟨rfl,rfl⟩)
  | (go_at_call 96;refine (qEj _ _ _ _ _ _).mono ?_;rintro e w' ⟨rfl,rfl⟩)
  | (go_at_call 67;refine (qCu _ _).mono ?_;rintro e w' ⟨rfl,rfl⟩)
  | (go_at_call 64;refine (qCx _ _).mono ?_;rintro e w' ⟨rfl,rfl⟩))
 all_goals go_ret
 all_goals exact ⟨r2b (by rw [qOl];first|(simp [*];done)|(simp [*];intros;omega)),by repeat (first|exact Below.refl _ _|(refine Below.alloc ?_ (by simp) _))⟩
set_option maxRecDepth 100000 in
set_option maxHeartbeats 800000 in
theorem yWv (d a b imm:Int) (w:World):Calls Tryz.prog 63 #[qAl 14 d a b imm] w fun e w'=>e=.returned (.bool (qAq 14 d a b imm))/\Below w.heap.size w w':=by
 have hth:qAv 14=false:=rfl
 have hju:qBw 14=false:=rfl
 by_cases h4:(qAu d)=true
 by_cases h3:(a==0)=true
 by_cases h2:(b==0)=true
 by_cases h1:0<=imm
 all_goals ((try have h2:=eq_false_of_ne_true h2);(try have h3:=eq_false_of_ne_true h3);(try have h4:=eq_false_of_ne_true h4))
 all_goals go_enter Tryz.func63,Tryz.ntmps63
 all_goals go_wp2_with (first
  | (go_at_call 95;refine (qFt _ _).mono ?_;rintro e w' ⟨rfl,rfl⟩)
  | (go_at_call 96;refine (qEj _ _ _ _ _ _).mono ?_;rintro e w' ⟨rfl,rfl⟩)
  | (go_at_call 67;refine (qCu _ _).mono ?_;rintro e w' ⟨rfl,rfl⟩)
  | (go_at_call 64;refine (qCx _ _).mono ?_;rintro e w' ⟨rfl,rfl⟩))
 all_goals go_ret
 all_goals exact ⟨r2b (by rw [qJo];first|(simp [*];done)|(simp [*];intros;omega)),by repeat (first|exact Below.refl _ _|(refine Below.alloc ?_ (by simp) _))⟩
set_option maxRecDepth 100000 in
set_option maxHeartbeats 800000 in
theorem yUf (d a b imm:Int) (w:World):Calls Tryz.prog 63 #[qAl 15 d a b imm] w fun e w'=>e=.returned (.bool (qAq 15 d a b imm))/\Below w.heap.size w w':=by
 have hth:qAv 15=false:=rfl
 have hju:qBw 15=false:=rfl
 by_cases h4:0<=d
 by_cases h3:d<=63
 by_cases h2:(a==0)=true
 by_cases h1:(b==0)=true
 all_goals ((try have h1:=eq_false_of_ne_true h1);(try have h2:=eq_false_of_ne_true h2))
 all_goals go_enter Tryz.func63,Tryz.ntmps63
 all_goals go_wp2_with (first
  | (go_at_call 95;refine (qFt _ _).mono ?_;rintro e w' ⟨rfl,rfl⟩)
  | (go_at_call 96;refine (qEj _ _ _ _ _ _).mono ?_;rintro e w' ⟨rfl,rfl⟩)
  | (go_at_call 67;refine (qCu _ _).mono ?_;rintro e w' ⟨rfl,rfl⟩)
  | (go_at_call 64;refine (qCx _ _).mono ?_;rintro e w' ⟨rfl,rfl⟩))
 all_goals go_ret
 all_goals exact ⟨r2b (by rw [qOr];first|(simp [*];done)|(simp [*];intros;omega)),by repeat (first|exact Below.refl _ _|(refine Below.alloc ?_ (by simp) _))⟩
set_option maxRecDepth 100000 in
set_option maxHeartbeats 800000 in
theorem yTy (d a b imm:Int) (w:World):Calls Tryz.prog 63 #[qAl 20 d a b imm] w fun e w'=>e=.returned (.bool (qAq 20 d a b imm))/\Below w.heap.size w w':=by
 have hth:qAv 20=false:=rfl
 have hju:qBw 20=false:=rfl
 by_cases h5:1<=d
 by_cases h4:d<=63
 by_cases h3:(qAu a)=true
 by_cases h2:(b==0)=true
 by_cases h1:1<=imm
 all_goals ((try have h2:=eq_false_of_ne_true h2);(try have h3:=eq_false_of_ne_true h3))
 all_goals go_enter Tryz.func63,Tryz.ntmps63
 all_goals go_wp2_with (first
  | (go_at_call 95;refine (qFt _ _).mono ?_;rintro e w' ⟨rfl,rfl⟩)
  | (go_at_call 96;refine (qEj _ _ _ _ _ _).mono ?_;rintro e w' ⟨rfl,rfl⟩)
  | (go_at_call 67;refine (qCu _ _).mono ?_;rintro e w' ⟨rfl,rfl⟩)
  | (go_at_call 64;refine (qCx _ _).mono ?_;rintro e w' ⟨rfl,rfl⟩))
 all_goals go_ret
 all_goals exact ⟨r2b (by rw [qKv];first|(simp [*];done)|(simp [*];intros;omega)),by repeat (first|exact Below.refl _ _|(refine Below.alloc ?_ (by simp) _))⟩
set_option maxRecDepth 100000 in
set_option maxHeartbeats 800000 in
theorem yUi (d a b imm:Int) (w:World):Calls Tryz.prog 63 #[qAl 21 d a b imm] w fun e w'=>e=.returned (.bool (qAq 21 d a b imm))/\Below w.heap.size w w':=by
 have hth:qAv 21=false:=rfl
 have hju:qBw 21=false:=rfl
 by_cases h4:(d==0)=true
 by_cases h3:(a==0)=true
 by_cases h2:(b==0)=true
 by_cases h1:0<=imm
 all_goals ((try have h2:=eq_false_of_ne_true h2);(try have h3:=eq_false_of_ne_true h3);(try have h4:=eq_false_of_ne_true h4))
 all_goals go_enter Tryz.func63,Tryz.ntmps63
 all_goals go_wp2_with (first
  | (go_at_call 95;refine (qFt _ _).mono ?_;rintro e w' ⟨rfl,rfl⟩)
  | (go_at_call 96;refine (qEj _ _ _ _ _ _).mono ?_;rintro e w' ⟨rfl,rfl⟩)
  | (go_at_call 67;refine (qCu _ _).mono ?_;rintro e w' ⟨rfl,rfl⟩)
  | (go_at_call 64;refine (qCx _ _).mono ?_;rintro e w' ⟨rfl,rfl⟩))
 all_goals go_ret
 all_goals exact ⟨r2b (by rw [qSk];first|(simp [*];done)|(simp [*];intros;omega)),by repeat (first|exact Below.refl _ _|(refine Below.alloc ?_ (by simp) _))⟩
set_option maxRecDepth 100000 in
set_option maxHeartbeats 800000 in
theorem yTn (d a b imm:Int) (w:World):Calls Tryz.prog 63 #[qAl 22 d a b imm] w fun e w'=>e=.returned (.bool (qAq 22 d a b imm))/\Below w.heap.size w w':=by
 have hth:qAv 22=false:=rfl
 have hju:qBw 22=false:=rfl
 by_cases h3:(d==0)=true
 by_cases h2:(qAu a)=true
 by_cases h1:(b==0)=true
 all_goals ((try have h1:=eq_false_of_ne_true h1);(try have h2:=eq_false_of_ne_true h2);(try have h3:=eq_false_of_ne_true h3))
 all_goals go_enter Tryz.func63,Tryz.ntmps63
 all_goals go_wp2_with (first
  | (go_at_call 95;refine (qFt _ _).mono ?_;rintro e w' ⟨rfl,rfl⟩)
  | (go_at_call 96;refine (qEj _ _ _ _ _ _).mono ?_;rintro e w' ⟨rfl,rfl⟩)
  | (go_at_call 67;refine (qCu _ _).mono ?_;rintro e w' ⟨rfl,rfl⟩)
  | (go_at_call 64;refine (qCx _ _).mono ?_;rintro e w' ⟨rfl,rfl⟩))
 all_goals go_ret
 all_goals exact ⟨r2b (by rw [qRv];first|(simp [*];done)|(simp [*];intros;omega)),by repeat (first|exact Below.refl _ _|(refine Below.alloc ?_ (by simp) _))⟩
set_option maxRecDepth 100000 in
set_option maxHeartbeats 800000 in
theorem yEy (op d a b imm:Int) (w:World) (hr:1<=op/\op<=10):Calls Tryz.prog 63 #[qAl op d a b imm] w fun e w'=>e=.returned (.bool (qAq op d a b imm))/\Below w.heap.size w w':=by
 have ho0:(op==0)=false:=by simp;omega
 have ho11:(op==11)=false:=by simp;omega
 have ho12:(op==12)=false:=by simp;omega
 have ho13:(op==13)=false:=by simp;omega
 have ho14:(op==14)=false:=by simp;omega
 have ho15:(op==15)=false:=by simp;omega
 have ho20:(op==20)=false:=by simp;omega
 have ho21:(op==21)=false:=by simp;omega
 have ho22:(op==22)=false:=by simp;omega
 have hth:qAv op=true:=by simp [qAv];omega
 by_cases h2:(qAu d)=true
 by_cases h1:(qAu a)=true
 all_goals ((try have h1:=eq_false_of_ne_true h1);(try have h2:=eq_false_of_ne_true h2))
 all_goals go_enter Tryz.func63,Tryz.ntmps63
 all_goals go_wp2_with (first
  | (go_at_call 95;refine (qFt _ _).mono ?_;rintro e w' ⟨rfl,rfl⟩)
  | (go_at_call 96;refine (qEj _ _ _ _ _ _).mono ?_;rintro e w' ⟨rfl,rfl⟩)
  | (go_at_call 67;refine (qCu _ _).mono ?_;rintro e w' ⟨rfl,rfl⟩)
  | (go_at_call 64;refine (qCx _ _).mono ?_;rintro e w' ⟨rfl,rfl⟩))
 all_goals go_ret
 all_goals exact ⟨r2b (by rw [qIc hr];first|(simp [*];done)|(simp [*];intros;omega)),by repeat (first|exact Below.refl _ _|(refine Below.alloc ?_ (by simp) _))⟩
set_option maxRecDepth 100000 in
set_option maxHeartbeats 800000 in
theorem yJv (op d a b imm:Int) (w:World) (hr:16<=op/\op<=19):Calls Tryz.prog 63 #[qAl op d a b imm] w fun e w'=>e=.returned (.bool (qAq op d a b imm))/\Below w.heap.size w w':=by
 have ho0:(op==0)=false:=by simp;omega
 have ho11:(op==11)=false:=by simp;omega
 have ho12:(op==12)=false:=by simp;omega
 have ho13:(op==13)=false:=by simp;omega
 have ho14:(op==14)=false:=by simp;omega
 have ho15:(op==15)=false:=by simp;omega
 have ho20:(op==20)=false:=by simp;omega
 have ho21:(op==21)=false:=by simp;omega
 have ho22:(op==22)=false:=by simp;omega
 have hth:qAv op=false:=by simp [qAv];omega
 have hju:qBw op=true:=by simp [qBw];omega
 by_cases h3:0<=d
 by_cases h2:d<=63
 by_cases h1:(qAu a)=true
 all_goals ((try have h1:=eq_false_of_ne_true h1))
 all_goals go_enter Tryz.func63,Tryz.ntmps63
 all_goals go_wp2_with (first
  | (go_at_call 95;refine (qFt _ _).mono ?_;rintro e w' ⟨rfl,rfl⟩)
  | (go_at_call 96;refine (qEj _ _ _ _ _ _).mono ?_;rintro e w' ⟨rfl,rfl⟩)
  | (go_at_call 67;refine (qCu _ _).mono ?_;rintro e w' ⟨rfl,rfl⟩)
  | (go_at_call 64;refine (qCx _ _).mono ?_;rintro e w' ⟨rfl,rfl⟩))
 all_goals go_ret
 all_goals exact ⟨r2b (by rw [qIy hr];first|(simp [*];done)|(simp [*];intros;omega)),by repeat (first|exact Below.refl _ _|(refine Below.alloc ?_ (by simp) _))⟩
set_option maxRecDepth 100000 in
set_option maxHeartbeats 800000 in
theorem yKr (op d a b imm:Int) (w:World) (hr:op<0∨22<op):Calls Tryz.prog 63 #[qAl op d a b imm] w fun e w'=>e=.returned (.bool (qAq op d a b imm))/\Below w.heap.size w w':=by
 have ho0:(op==0)=false:=by simp;omega
 have ho11:(op==11)=false:=by simp;omega
 have ho12:(op==12)=false:=by simp;omega
 have ho13:(op==13)=false:=by simp;omega
 have ho14:(op==14)=false:=by simp;omega
 have ho15:(op==15)=false:=by simp;omega
 have ho20:(op==20)=false:=by simp;omega
 have ho21:(op==21)=false:=by simp;omega
 have ho22:(op==22)=false:=by simp;omega
 have hth:qAv op=false:=by simp [qAv];omega
 have hju:qBw op=false:=by simp [qBw];omega
 go_enter Tryz.func63,Tryz.ntmps63
 go_wp2_with (first
  | (go_at_call 95;refine (qFt _ _).mono ?_;rintro e w' ⟨rfl,rfl⟩)
  | (go_at_call 96;refine (qEj _ _ _ _ _ _).mono ?_;rintro e w' ⟨rfl,rfl⟩)
  | (go_at_call 67;refine (qCu _ _).mono ?_;rintro e w' ⟨rfl,rfl⟩)
  | (go_at_call 64;refine (qCx _ _).mono ?_;rintro e w' ⟨rfl,rfl⟩))
 go_ret
 exact ⟨r2b (by rw [qOx hr]),by repeat (first|exact Below.refl _ _|(refine Below.alloc ?_ (by simp) _))⟩

theorem qEz (op d a b c:Int)(w:World):Cl 63 #[qAl op d a b c] w fun e f=>e=.returned (.bool (qAq op d a b c))/\Bw w f:=by
 by_cases h1:1<=op/\op<=10
 ·exact yEy op d a b c w h1
 by_cases h2:16<=op/\op<=19
 ·exact yJv op d a b c w h2
 by_cases h3:op<0∨22<op
 ·exact yKr op d a b c w h3
 obtain rfl|rfl|rfl|rfl|rfl|rfl|rfl|rfl|rfl:op=0∨op=11∨op=12∨op=13∨op=14∨op=15∨op=20∨op=21∨op=22:=by omega
 ·exact yZv d a b c w
 ·exact yXd d a b c w
 ·exact ySi d a b c w
 ·exact yVj d a b c w
 ·exact yWv d a b c w
 ·exact yUf d a b c w
 ·exact yTy d a b c w
 ·exact yUi d a b c w
 ·exact yTn d a b c w
abbrev qBr (op d a b imm:Int):Obj:=.cells #[.int .i64 op,.int .i64 d,.int .i64 a,.int .i64 b,.int .i64 imm] 43
theorem qAt {w a:World}{o:Obj}(h:Below (w.alloc o).heap.size (w.alloc o) a):Bw w a:=((Below.refl _ _).alloc (Nat.le_refl _) o).trans (h.mono (by simp))
theorem qDn {w c:World}{op d a b f:Int}(h:Below (w.alloc (qBr op d a b f)).heap.size (w.alloc (qBr op d a b f)) c) :
  c.cell? ⟨w.heap.size,0,none⟩=some (I4 op)/\c.cell? ⟨w.heap.size,1,none⟩=some (I4 d)/\c.cell? ⟨w.heap.size,2,none⟩=some (I4 a)/\c.cell? ⟨w.heap.size,3,none⟩=some (I4 b)/\c.cell? ⟨w.heap.size,4,none⟩=some (I4 f):=by
 refine ⟨?_,?_,?_,?_,?_⟩<;>(rw [h.cell (by simp)];simp)

abbrev Box (w:World) (n:Nat) (op d a b imm:Int):Prop:=w.cell? ⟨n,0,none⟩=some (.int .i64 op)/\w.cell? ⟨n,1,none⟩=some (.int .i64 d)/\w.cell? ⟨n,2,none⟩=some (.int .i64 a)/\w.cell? ⟨n,3,none⟩=some (.int .i64 b)/\w.cell? ⟨n,4,none⟩=some (.int .i64 imm)
theorem Box.below {w i:World}{n B:Nat}{op d a b g:Int}(h:Box w n op d a b g)(c:Below B w i)(f:n<B):Box i n op d a b g:=by
 unfold Box;rw [c.cell (p:=⟨n,0,none⟩) f,c.cell (p:=⟨n,1,none⟩) f,c.cell (p:=⟨n,2,none⟩) f,c.cell (p:=⟨n,3,none⟩) f,c.cell (p:=⟨n,4,none⟩) f];exact h
theorem qCt (op d a b f:Int)(w:World):Cl 86 #[qAl op d a b f] w fun e k=>e=.returned (.bool (qCv op d a b f))/\Bw w k:=by
 by_cases g:qAq op d a b f=true
 ·by_cases h12:op<=12
  ·go_enter Tryz.func86,Tryz.ntmps86
   go_wp2_with (first
    | (go_at_call 63;refine (qEz op d a b f _).mono ?_;rintro e l ⟨rfl,c⟩;have i:=qAt c;clear c)
    | (go_at_call 64;refine (qCx _ _).mono ?_;rintro e k ⟨rfl,rfl⟩))
   go_ret;exact ⟨r2b (by simp [qCv,g,h12]),i⟩
  ·go_enter Tryz.func86,Tryz.ntmps86
   go_wp2_with (first
    | (go_at_call 63;refine (qEz op d a b f _).mono ?_;rintro e l ⟨rfl,c⟩;have i:=qAt c;clear c)
    | (go_at_call 64;refine (qCx _ _).mono ?_;rintro e k ⟨rfl,rfl⟩))
   go_ret;exact ⟨r2b (by simp [qCv,g]),i⟩
 ·have g:=eq_false_of_ne_true g;go_enter Tryz.func86,Tryz.ntmps86
  go_wp2_with (first
   | (go_at_call 63;refine (qEz op d a b f _).mono ?_;rintro e l ⟨rfl,c⟩;have i:=qAt c;clear c)
   | (go_at_call 64;refine (qCx _ _).mono ?_;rintro e k ⟨rfl,rfl⟩))
  go_ret;exact ⟨r2b (by simp [qCv,g]),i⟩

theorem qOe {a c:Int}{b b':Bool}(f:a=c)(d:b=b'):Ending.returned (.tuple #[I4 a,.bool b])=.returned (.tuple #[I4 c,.bool b']):=by rw [f,d]

theorem yHz (op d a b f:Int)(w:World):Cl 84 #[qAl op d a b f] w fun e z=>e=.returned (.tuple #[I4 (qDa op d a b f).1,.bool (qDa op d a b f).2])/\Bw w z:=by
 by_cases k:qAq op d a b f=true
 ·by_cases h11:op<=11
  ·have g:Hid (qDa op d a b f=(d,true)):=by show _=_;unfold qDa;rw [if_neg (by simp [k]),if_pos (.inl h11)]
   go_enter Tryz.func84,Tryz.ntmps84
   go_wp2_with (go_at_call 63;refine (qEz op d a b f _).mono ?_;rintro e l ⟨rfl,c⟩;have i:=qAt c;obtain ⟨r,u,n,o,s⟩:=qDn c;clear c)
   go_ret2;exact ⟨qOe (by rw [g.out]) (by rw [g.out]),i⟩
  ·by_cases h13:op=13∨op=14
   ·have g:Hid (qDa op d a b f=(d,true)):=by show _=_;unfold qDa;rw [if_neg (by simp [k]),if_pos (.inr h13)]
    rcases h13 with rfl|rfl
    all_goals
     go_enter Tryz.func84,Tryz.ntmps84
     go_wp2_with (go_at_call 63;refine (qEz _ d a b f _).mono ?_;rintro e l ⟨rfl,c⟩;have i:=qAt c;obtain ⟨r,u,n,o,s⟩:=qDn c;clear c)
     go_ret2;exact ⟨qOe (by rw [g.out]) (by rw [g.out]),i⟩
   ·have g:Hid (qDa op d a b f=(0,op==21)):=by show _=_;unfold qDa;rw [if_neg (by simp [k]),if_neg (by omega)]
    have A:(op==13)=false:=by simp;omega
    have y:(op==14)=false:=by simp;omega
    clear h13;go_enter Tryz.func84,Tryz.ntmps84
    go_wp2_with (go_at_call 63;refine (qEz op d a b f _).mono ?_;rintro e l ⟨rfl,c⟩;have i:=qAt c;obtain ⟨r,u,n,o,s⟩:=qDn c;clear c)
    go_ret2;exact ⟨qOe (by rw [g.out]) (by rw [g.out]),i⟩
 ·have k:=eq_false_of_ne_true k
  have g:Hid (qDa op d a b f=(0,false)):=by show _=_;unfold qDa;rw [if_pos k]
  go_enter Tryz.func84,Tryz.ntmps84
  go_wp2_with (go_at_call 63;refine (qEz op d a b f _).mono ?_;rintro e l ⟨rfl,c⟩;have i:=qAt c;clear c)
  go_ret2;exact ⟨qOe (by rw [g.out]) (by rw [g.out]),i⟩
end Go.Proofs.YtmdhljoicnommaaGreat
