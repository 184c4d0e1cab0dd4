
/-
 Layer 2's plain functions: what an instruction's fields must be,by the document. No Go text in sight.
-/
import Derived.WalkKit
namespace Go.Proofs.YtmdhljoicnommaaGreat
set_option maxHeartbeats 12800000
open Go.RowKit
set_option linter.unusedVariables false

def qAu (n:Int):Bool:=decide (0<=n)&&decide (n<=7)
def qCr (b imm:Int):Bool:=(qAu b&&imm==0)||b==8
def qAv (op:Int):Bool:=decide (1<=op)&&decide (op<=10)
def qBw (op:Int):Bool:=decide (16<=op)&&decide (op<=19)
def qAq (op d a b imm:Int):Bool :=
 if op=0∨op=11 then qAu d&&a==0&&qCr b imm
 else if 1<=op/\op<=10 then qAu d&&qAu a&&qCr b imm
 else if op=12 then d==0&&qAu a&&qCr b imm
 else if op=13 then qAu d&&a==0&&b==0&&(imm==0||imm==1)
 else if op=14 then qAu d&&a==0&&b==0&&decide (0<=imm)&&decide (imm<=3)
 else if op=15 then decide (0<=d)&&decide (d<=63)&&a==0&&b==0&&imm==0
 else if 16<=op/\op<=19 then decide (0<=d)&&decide (d<=63)&&qAu a&&qCr b imm
 else if op=20 then decide (1<=d)&&decide (d<=63)&&qAu a&&b==0&&decide (1<=imm)&&decide (imm<=255)
 else if op=21 then d==0&&a==0&&b==0&&decide (0<=imm)&&decide (imm<=6)
 else if op=22 then d==0&&qAu a&&b==0&&imm==0
 else false
theorem qIc {op d a b c:Int}(h:1<=op/\op<=10):qAq op d a b c=(qAu d&&qAu a&&qCr b c):=by
 unfold qAq;rw [if_neg (by omega),if_pos h]
theorem qIy {op d a b c:Int}(h:16<=op/\op<=19):qAq op d a b c=(decide (0<=d)&&decide (d<=63)&&qAu a&&qCr b c):=by
 unfold qAq;rw [if_neg (by omega),if_neg (by omega),if_neg (by omega),if_neg (by omega),if_neg (by omega),if_neg (by omega),if_pos h]
theorem qOx {op d a b c:Int}(h:op<0∨22<op):qAq op d a b c=false:=by
 unfold qAq;rw [if_neg (by omega),if_neg (by omega),if_neg (by omega),if_neg (by omega),if_neg (by omega),if_neg (by omega),if_neg (by omega),if_neg (by omega),if_neg (by omega),if_neg (by omega)]
theorem yAs {d a b c:Int}:qAq 0 d a b c=(qAu d&&a==0&&qCr b c):=by unfold qAq;simp
theorem qXv {d a b c:Int}:qAq 11 d a b c=(qAu d&&a==0&&qCr b c):=by unfold qAq;simp
theorem qMt {d a b c:Int}:qAq 12 d a b c=(d==0&&qAu a&&qCr b c):=by unfold qAq;simp
theorem qOl {d a b c:Int}:qAq 13 d a b c=(qAu d&&a==0&&b==0&&(c==0||c==1)):=by unfold qAq;simp
theorem qJo {d a b c:Int}:qAq 14 d a b c=(qAu d&&a==0&&b==0&&decide (0<=c)&&decide (c<=3)):=by unfold qAq;simp
theorem qOr {d a b c:Int}:qAq 15 d a b c=(decide (0<=d)&&decide (d<=63)&&a==0&&b==0&&c==0):=by unfold qAq;simp
theorem qKv {d a b c:Int}:qAq 20 d a b c=(decide (1<=d)&&decide (d<=63)&&qAu a&&b==0&&decide (1<=c)&&decide (c<=255)):=by unfold qAq;simp
theorem qSk {d a b c:Int}:qAq 21 d a b c=(d==0&&a==0&&b==0&&decide (0<=c)&&decide (c<=6)):=by unfold qAq;simp
theorem qRv {d a b c:Int}:qAq 22 d a b c=(d==0&&qAu a&&b==0&&c==0):=by unfold qAq;simp
def qCv (op d a b imm:Int):Bool:=qAq op d a b imm&&(decide (op<=12)||qBw op)
def qDa (op d a b imm:Int):Int×Bool :=
 if qAq op d a b imm=false then (0,false) else if op<=11∨op=13∨op=14 then (d,true) else (0,op==21)
def qCp (op d a b imm:Int):Int×Bool×Bool :=
 if qAq op d a b imm=false then (0,false,false) else if op=15 then (d+1,true,false) else if 16<=op/\op<=19 then (d+1,true,true) else if op=20 then (-d,true,true) else (0,false,op != 22)
theorem qDm {op d a b c:Int}(h:qAq op d a b c=true):0<=op/\op<=22:=by
 by_cases hx:op<0∨22<op
 ·rw [qOx hx] at h;cases h
 ·omega
theorem qKu {op d a b c:Int}(h:qAq op d a b c=true)(f:15<=op/\op<=20):0<=d/\d<=63:=by
 by_cases h1:16<=op/\op<=19
 ·rw [qIy h1] at h;simp at h;omega
 ·have:op=15∨op=20:=by omega
  rcases this with rfl|rfl
  ·rw [qOr] at h;simp at h;omega
  ·rw [qKv] at h;simp at h;omega
theorem r2b {a b:Bool}(h:a=b):Ending.returned (.bool a)=.returned (.bool b):=by rw [h]
end Go.Proofs.YtmdhljoicnommaaGreat
