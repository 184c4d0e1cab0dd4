/-
  O2Small
  O2Fits
  O2Plain
  F7Plain
  F7RPlain
  O2Named
  O2Like
  F7Way
-/
import Derived.Test.YtmdhljoicnommaaGreatME7
import Derived.Handy
namespace Go.Proofs.YtmdhljoicnommaaGreat
set_option maxHeartbeats 12800000
open Go.RowKit
set_option linter.unusedVariables false
set_option maxHeartbeats 800000
set_option linter.unusedSimpArgs false
theorem qDi (n:Int)(w:World):Cl 162 #[I4 n] w fun e a=>e=.returned (.bool (qAu n))/\w=a:=by
 unfold qAu
 by_cases h:0<=n
 ·go_enter Tryz.func162,Tryz.ntmps162;go_wp2;go_ret;exact ⟨r2b (by simp [h];omega),rfl⟩
 ·go_enter Tryz.func162,Tryz.ntmps162;go_wp2;go_ret;exact ⟨r2b (by simp;omega),rfl⟩

abbrev xAg (l m:Int):Value:=.agg #[.int .i64 l,.int .i64 m]
abbrev yXo (l m:Int):Obj:=.cells #[.int .i64 l,.int .i64 m] 212
def qHi (l m n:Int):Bool:=decide (l<=n)&&decide (n<=m)
theorem qGm (l m n:Int)(w:World):Cl 163 #[xAg l m,I4 n] w fun e a=>e=.returned (.bool (qHi l m n))/\w.alloc (yXo l m)=a:=by
 unfold qHi
 by_cases h:l<=n
 ·go_enter Tryz.func163,Tryz.ntmps163;go_wp2;go_ret;exact ⟨r2b (by simp [h]),rfl⟩
 ·go_enter Tryz.func163,Tryz.ntmps163;go_wp2;go_ret;exact ⟨r2b (by simp;omega),rfl⟩

structure Shape where
 dest:Bool
 first:Bool
 source:Bool
 farL:Int
 farM:Int
 immL:Int
 immM:Int
abbrev Shape.v (s:Shape):Value:=.agg #[.bool s.dest,.bool s.first,.bool s.source,.int .i64 s.farL,.int .i64 s.farM,.int .i64 s.immL,.int .i64 s.immM]
def qAx (op:Int):Shape :=
 if op=0∨op=11 then ⟨true,false,true,0,0,0,0⟩
 else if 1<=op/\op<=10 then ⟨true,true,true,0,0,0,0⟩
 else if op=12 then ⟨false,true,true,0,0,0,0⟩
 else if op=13 then ⟨true,false,false,0,0,0,1⟩
 else if op=14 then ⟨true,false,false,0,0,0,3⟩
 else if op=15 then ⟨false,false,false,0,63,0,0⟩
 else if 16<=op/\op<=19 then ⟨false,true,true,0,63,0,0⟩
 else if op=20 then ⟨false,true,false,1,63,1,255⟩
 else if op=21 then ⟨false,false,false,0,0,0,6⟩
 else if op=22 then ⟨false,true,false,0,0,0,0⟩
 else ⟨false,false,false,0,0,0,0⟩

theorem yNd (w:World):Cl 132 #[I4 0] w fun e a=>e=.returned (qAx 0).v/\Bw w a:=by
 go_enter Tryz.func132,Tryz.ntmps132;go_wp2
 go_returns
 exact ⟨rfl,by go_grown⟩
theorem yQw (w:World):Cl 132 #[I4 1] w fun e a=>e=.returned (qAx 1).v/\Bw w a:=by
 go_enter Tryz.func132,Tryz.ntmps132;go_wp2
 go_returns
 exact ⟨rfl,by go_grown⟩
theorem yNl (w:World):Cl 132 #[I4 2] w fun e a=>e=.returned (qAx 2).v/\Bw w a:=by
 go_enter Tryz.func132,Tryz.ntmps132;go_wp2
 go_returns
 exact ⟨rfl,by go_grown⟩
theorem yOo (w:World):Cl 132 #[I4 3] w fun e a=>e=.returned (qAx 3).v/\Bw w a:=by
 go_enter Tryz.func132,Tryz.ntmps132;go_wp2
 go_returns
 exact ⟨rfl,by go_grown⟩
theorem yNa (w:World):Cl 132 #[I4 4] w fun e a=>e=.returned (qAx 4).v/\Bw w a:=by
 go_enter Tryz.func132,Tryz.ntmps132;go_wp2
 go_returns
 exact ⟨rfl,by go_grown⟩
theorem yRq (w:World):Cl 132 #[I4 5] w fun e a=>e=.returned (qAx 5).v/\Bw w a:=by
 go_enter Tryz.func132,Tryz.ntmps132;go_wp2
 go_returns
 exact ⟨rfl,by go_grown⟩
theorem yPe (w:World):Cl 132 #[I4 6] w fun e a=>e=.returned (qAx 6).v/\Bw w a:=by
 go_enter Tryz.func132,Tryz.ntmps132;go_wp2
 go_returns
 exact ⟨rfl,by go_grown⟩
theorem yPp (w:World):Cl 132 #[I4 7] w fun e a=>e=.returned (qAx 7).v/\Bw w a:=by
 go_enter Tryz.func132,Tryz.ntmps132;go_wp2
 go_returns
 exact ⟨rfl,by go_grown⟩
theorem yOl (w:World):Cl 132 #[I4 8] w fun e a=>e=.returned (qAx 8).v/\Bw w a:=by
 go_enter Tryz.func132,Tryz.ntmps132;go_wp2
 go_returns
 exact ⟨rfl,by go_grown⟩
theorem yOd (w:World):Cl 132 #[I4 9] w fun e a=>e=.returned (qAx 9).v/\Bw w a:=by
 go_enter Tryz.func132,Tryz.ntmps132;go_wp2
 go_returns
 exact ⟨rfl,by go_grown⟩
theorem yLp (w:World):Cl 132 #[I4 10] w fun e a=>e=.returned (qAx 10).v/\Bw w a:=by
 go_enter Tryz.func132,Tryz.ntmps132;go_wp2
 go_returns
 exact ⟨rfl,by go_grown⟩
theorem yLs (w:World):Cl 132 #[I4 11] w fun e a=>e=.returned (qAx 11).v/\Bw w a:=by
 go_enter Tryz.func132,Tryz.ntmps132;go_wp2
 go_returns
 exact ⟨rfl,by go_grown⟩
theorem yHg (w:World):Cl 132 #[I4 12] w fun e a=>e=.returned (qAx 12).v/\Bw w a:=by
 go_enter Tryz.func132,Tryz.ntmps132;go_wp2
 go_returns
 exact ⟨rfl,by go_grown⟩
theorem yHj (w:World):Cl 132 #[I4 13] w fun e a=>e=.returned (qAx 13).v/\Bw w a:=by
 go_enter Tryz.func132,Tryz.ntmps132;go_wp2
 go_returns
 exact ⟨rfl,by go_grown⟩
theorem yKp (w:World):Cl 132 #[I4 14] w fun e a=>e=.returned (qAx 14).v/\Bw w a:=by
 go_enter Tryz.func132,Tryz.ntmps132;go_wp2
 go_returns
 exact ⟨rfl,by go_grown⟩
theorem yJt (w:World):Cl 132 #[I4 15] w fun e a=>e=.returned (qAx 15).v/\Bw w a:=by
 go_enter Tryz.func132,Tryz.ntmps132;go_wp2
 go_returns
 exact ⟨rfl,by go_grown⟩
theorem yKo (w:World):Cl 132 #[I4 16] w fun e a=>e=.returned (qAx 16).v/\Bw w a:=by
 go_enter Tryz.func132,Tryz.ntmps132;go_wp2
 go_returns
 exact ⟨rfl,by go_grown⟩
theorem yIz (w:World):Cl 132 #[I4 17] w fun e a=>e=.returned (qAx 17).v/\Bw w a:=by
 go_enter Tryz.func132,Tryz.ntmps132;go_wp2
 go_returns
 exact ⟨rfl,by go_grown⟩
theorem yHn (w:World):Cl 132 #[I4 18] w fun e a=>e=.returned (qAx 18).v/\Bw w a:=by
 go_enter Tryz.func132,Tryz.ntmps132;go_wp2
 go_returns
 exact ⟨rfl,by go_grown⟩
theorem yLo (w:World):Cl 132 #[I4 19] w fun e a=>e=.returned (qAx 19).v/\Bw w a:=by
 go_enter Tryz.func132,Tryz.ntmps132;go_wp2
 go_returns
 exact ⟨rfl,by go_grown⟩
theorem yHi (w:World):Cl 132 #[I4 20] w fun e a=>e=.returned (qAx 20).v/\Bw w a:=by
 go_enter Tryz.func132,Tryz.ntmps132;go_wp2
 go_returns
 exact ⟨rfl,by go_grown⟩
theorem yIi (w:World):Cl 132 #[I4 21] w fun e a=>e=.returned (qAx 21).v/\Bw w a:=by
 go_enter Tryz.func132,Tryz.ntmps132;go_wp2
 go_returns
 exact ⟨rfl,by go_grown⟩
theorem yIw (w:World):Cl 132 #[I4 22] w fun e a=>e=.returned (qAx 22).v/\Bw w a:=by
 go_enter Tryz.func132,Tryz.ntmps132;go_wp2
 go_returns
 exact ⟨rfl,by go_grown⟩
theorem yBq (op:Int)(w:World)(h0:(op==0)=false)(F:(op==1)=false)(D:(op==2)=false)(I:(op==3)=false)(G:(op==4)=false)(B:(op==5)=false)(A:(op==6)=false)(z:(op==7)=false)(y:(op==8)=false)(E:(op==9)=false)(g:(op==10)=false)(u:(op==11)=false)(b:(op==12)=false)(r:(op==13)=false)(o:(op==14)=false)(k:(op==15)=false)(f:(op==16)=false)(d:(op==17)=false)(l:(op==18)=false)(n:(op==19)=false)(c:(op==20)=false)(s:(op==21)=false)(i:(op==22)=false):Cl 132 #[I4 op] w fun e a=>e=.returned (Shape.v ⟨false,false,false,0,0,0,0⟩)/\Bw w a:=by
 go_enter Tryz.func132,Tryz.ntmps132;go_wp2
 go_returns
 exact ⟨rfl,by go_grown⟩
theorem qTf {op:Int}(h:op<0∨22<op):qAx op=⟨false,false,false,0,0,0,0⟩:=by
 unfold qAx;rw [if_neg (by omega),if_neg (by omega),if_neg (by omega),if_neg (by omega),if_neg (by omega),if_neg (by omega),if_neg (by omega),if_neg (by omega),if_neg (by omega),if_neg (by omega)]
theorem qTn (op:Int)(w:World):Cl 132 #[I4 op] w fun e a=>e=.returned (qAx op).v/\Bw w a:=by
 by_cases hx:op<0∨22<op
 ·rw [qTf hx];exact yBq op w (by simp;omega) (by simp;omega) (by simp;omega) (by simp;omega) (by simp;omega) (by simp;omega) (by simp;omega) (by simp;omega) (by simp;omega) (by simp;omega) (by simp;omega) (by simp;omega) (by simp;omega) (by simp;omega) (by simp;omega) (by simp;omega) (by simp;omega) (by simp;omega) (by simp;omega) (by simp;omega) (by simp;omega) (by simp;omega) (by simp;omega)
 have:op=0∨op=1∨op=2∨op=3∨op=4∨op=5∨op=6∨op=7∨op=8∨op=9∨op=10∨op=11∨op=12∨op=13∨op=14∨op=15∨op=16∨op=17∨op=18∨op=19∨op=20∨op=21∨op=22:=by omega
 rcases this with rfl|rfl|rfl|rfl|rfl|rfl|rfl|rfl|rfl|rfl|rfl|rfl|rfl|rfl|rfl|rfl|rfl|rfl|rfl|rfl|rfl|rfl|rfl
 ·exact yNd w
 ·exact yQw w
 ·exact yNl w
 ·exact yOo w
 ·exact yNa w
 ·exact yRq w
 ·exact yPe w
 ·exact yPp w
 ·exact yOl w
 ·exact yOd w
 ·exact yLp w
 ·exact yLs w
 ·exact yHg w
 ·exact yHj w
 ·exact yKp w
 ·exact yJt w
 ·exact yKo w
 ·exact yIz w
 ·exact yHn w
 ·exact yLo w
 ·exact yHi w
 ·exact yIi w
 ·exact yIw w
def qBs (dest source:Bool) (fl fm il im d a b imm:Int):Bool:=(if dest then qAu d else qHi fl fm d)&&(qAu a&&(qAu b||b==8))&&(source||qHi il im imm)

theorem xAi (o k:Bool)(g i n l op d a b c:Int)(w:World)(r:(qAu d)=false):Cl 149 #[Shape.v ⟨true,o,k,g,i,n,l⟩,qAl op d a b c] w fun e f=>e=.returned (.bool (qBs true k g i n l d a b c))/\Bw w f:=by
  go_enter Tryz.func149,Tryz.ntmps149
  go_wp2_with (first
   | (go_at_call 162;refine (qDi _ _).mono ?_;rintro e f ⟨rfl,rfl⟩)
   | (go_at_call 163;refine (qGm _ _ _ _).mono ?_;rintro e f ⟨rfl,rfl⟩))
  go_returns
  exact ⟨r2b (by simp [*,qBs]),by go_grown⟩
theorem yZr (o k:Bool)(g i n l op d a b c:Int)(w:World)(s:(qAu d)=true)(r:qAu a=false):Cl 149 #[Shape.v ⟨true,o,k,g,i,n,l⟩,qAl op d a b c] w fun e f=>e=.returned (.bool (qBs true k g i n l d a b c))/\Bw w f:=by
  go_enter Tryz.func149,Tryz.ntmps149
  go_wp2_with (first
   | (go_at_call 162;refine (qDi _ _).mono ?_;rintro e f ⟨rfl,rfl⟩)
   | (go_at_call 163;refine (qGm _ _ _ _).mono ?_;rintro e f ⟨rfl,rfl⟩))
  go_returns
  exact ⟨r2b (by simp [*,qBs]),by go_grown⟩
theorem yXe (n r:Bool)(g i l k op d a b c:Int)(w:World)(u:(qAu d)=true)(s:qAu a=true)(o:qAu b=true):Cl 149 #[Shape.v ⟨true,n,true,g,i,l,k⟩,qAl op d a b c] w fun e f=>e=.returned (.bool (qBs true true g i l k d a b c))/\Bw w f:=by
  go_enter Tryz.func149,Tryz.ntmps149
  go_wp2_with (first
   | (go_at_call 162;refine (qDi _ _).mono ?_;rintro e f ⟨rfl,rfl⟩)
   | (go_at_call 163;refine (qGm _ _ _ _).mono ?_;rintro e f ⟨rfl,rfl⟩))
  go_returns
  exact ⟨r2b (by simp [*,qBs]),by go_grown⟩
theorem yXb (n s:Bool)(g i l k op d a b c:Int)(w:World)(y:(qAu d)=true)(u:qAu a=true)(o:qAu b=false)(r:(b==8)=true):Cl 149 #[Shape.v ⟨true,n,true,g,i,l,k⟩,qAl op d a b c] w fun e f=>e=.returned (.bool (qBs true true g i l k d a b c))/\Bw w f:=by
  go_enter Tryz.func149,Tryz.ntmps149
  go_wp2_with (first
   | (go_at_call 162;refine (qDi _ _).mono ?_;rintro e f ⟨rfl,rfl⟩)
   | (go_at_call 163;refine (qGm _ _ _ _).mono ?_;rintro e f ⟨rfl,rfl⟩))
  go_returns
  exact ⟨r2b (by simp [*,qBs]),by go_grown⟩
theorem yTl (n r:Bool)(g i l k op d a b c:Int)(w:World)(u:(qAu d)=true)(s:qAu a=true)(o:qAu b=true):Cl 149 #[Shape.v ⟨true,n,false,g,i,l,k⟩,qAl op d a b c] w fun e f=>e=.returned (.bool (qBs true false g i l k d a b c))/\Bw w f:=by
  go_enter Tryz.func149,Tryz.ntmps149
  go_wp2_with (first
   | (go_at_call 162;refine (qDi _ _).mono ?_;rintro e f ⟨rfl,rfl⟩)
   | (go_at_call 163;refine (qGm _ _ _ _).mono ?_;rintro e f ⟨rfl,rfl⟩))
  go_returns
  exact ⟨r2b (by simp [*,qBs]),by go_grown⟩
theorem yWf (n s:Bool)(g i l k op d a b c:Int)(w:World)(y:(qAu d)=true)(u:qAu a=true)(o:qAu b=false)(r:(b==8)=true):Cl 149 #[Shape.v ⟨true,n,false,g,i,l,k⟩,qAl op d a b c] w fun e f=>e=.returned (.bool (qBs true false g i l k d a b c))/\Bw w f:=by
  go_enter Tryz.func149,Tryz.ntmps149
  go_wp2_with (first
   | (go_at_call 162;refine (qDi _ _).mono ?_;rintro e f ⟨rfl,rfl⟩)
   | (go_at_call 163;refine (qGm _ _ _ _).mono ?_;rintro e f ⟨rfl,rfl⟩))
  go_returns
  exact ⟨r2b (by simp [*,qBs]),by go_grown⟩
theorem yXl (o k:Bool)(g i n l op d a b c:Int)(w:World)(y:(qAu d)=true)(u:qAu a=true)(r:qAu b=false)(s:(b==8)=false):Cl 149 #[Shape.v ⟨true,o,k,g,i,n,l⟩,qAl op d a b c] w fun e f=>e=.returned (.bool (qBs true k g i n l d a b c))/\Bw w f:=by
  go_enter Tryz.func149,Tryz.ntmps149
  go_wp2_with (first
   | (go_at_call 162;refine (qDi _ _).mono ?_;rintro e f ⟨rfl,rfl⟩)
   | (go_at_call 163;refine (qGm _ _ _ _).mono ?_;rintro e f ⟨rfl,rfl⟩))
  go_returns
  exact ⟨r2b (by simp [*,qBs]),by go_grown⟩
theorem yZm (o k:Bool)(f g n l op d a b c:Int)(w:World)(r:(qHi f g d)=false):Cl 149 #[Shape.v ⟨false,o,k,f,g,n,l⟩,qAl op d a b c] w fun e i=>e=.returned (.bool (qBs false k f g n l d a b c))/\Bw w i:=by
  go_enter Tryz.func149,Tryz.ntmps149
  go_wp2_with (first
   | (go_at_call 162;refine (qDi _ _).mono ?_;rintro e i ⟨rfl,rfl⟩)
   | (go_at_call 163;refine (qGm _ _ _ _).mono ?_;rintro e i ⟨rfl,rfl⟩))
  go_returns
  exact ⟨r2b (by simp [*,qBs]),by go_grown⟩
theorem yZg (o k:Bool)(f g n l op d a b c:Int)(w:World)(s:(qHi f g d)=true)(r:qAu a=false):Cl 149 #[Shape.v ⟨false,o,k,f,g,n,l⟩,qAl op d a b c] w fun e i=>e=.returned (.bool (qBs false k f g n l d a b c))/\Bw w i:=by
  go_enter Tryz.func149,Tryz.ntmps149
  go_wp2_with (first
   | (go_at_call 162;refine (qDi _ _).mono ?_;rintro e i ⟨rfl,rfl⟩)
   | (go_at_call 163;refine (qGm _ _ _ _).mono ?_;rintro e i ⟨rfl,rfl⟩))
  go_returns
  exact ⟨r2b (by simp [*,qBs]),by go_grown⟩
theorem yWp (n r:Bool)(f g l k op d a b c:Int)(w:World)(u:(qHi f g d)=true)(s:qAu a=true)(o:qAu b=true):Cl 149 #[Shape.v ⟨false,n,true,f,g,l,k⟩,qAl op d a b c] w fun e i=>e=.returned (.bool (qBs false true f g l k d a b c))/\Bw w i:=by
  go_enter Tryz.func149,Tryz.ntmps149
  go_wp2_with (first
   | (go_at_call 162;refine (qDi _ _).mono ?_;rintro e i ⟨rfl,rfl⟩)
   | (go_at_call 163;refine (qGm _ _ _ _).mono ?_;rintro e i ⟨rfl,rfl⟩))
  go_returns
  exact ⟨r2b (by simp [*,qBs]),by go_grown⟩
theorem ySr (n s:Bool)(f g l k op d a b c:Int)(w:World)(y:(qHi f g d)=true)(u:qAu a=true)(o:qAu b=false)(r:(b==8)=true):Cl 149 #[Shape.v ⟨false,n,true,f,g,l,k⟩,qAl op d a b c] w fun e i=>e=.returned (.bool (qBs false true f g l k d a b c))/\Bw w i:=by
  go_enter Tryz.func149,Tryz.ntmps149
  go_wp2_with (first
   | (go_at_call 162;refine (qDi _ _).mono ?_;rintro e i ⟨rfl,rfl⟩)
   | (go_at_call 163;refine (qGm _ _ _ _).mono ?_;rintro e i ⟨rfl,rfl⟩))
  go_returns
  exact ⟨r2b (by simp [*,qBs]),by go_grown⟩
theorem yUt (n r:Bool)(f g l k op d a b c:Int)(w:World)(u:(qHi f g d)=true)(s:qAu a=true)(o:qAu b=true):Cl 149 #[Shape.v ⟨false,n,false,f,g,l,k⟩,qAl op d a b c] w fun e i=>e=.returned (.bool (qBs false false f g l k d a b c))/\Bw w i:=by
  go_enter Tryz.func149,Tryz.ntmps149
  go_wp2_with (first
   | (go_at_call 162;refine (qDi _ _).mono ?_;rintro e i ⟨rfl,rfl⟩)
   | (go_at_call 163;refine (qGm _ _ _ _).mono ?_;rintro e i ⟨rfl,rfl⟩))
  go_returns
  exact ⟨r2b (by simp [*,qBs]),by go_grown⟩
theorem yXa (n s:Bool)(f g l k op d a b c:Int)(w:World)(y:(qHi f g d)=true)(u:qAu a=true)(o:qAu b=false)(r:(b==8)=true):Cl 149 #[Shape.v ⟨false,n,false,f,g,l,k⟩,qAl op d a b c] w fun e i=>e=.returned (.bool (qBs false false f g l k d a b c))/\Bw w i:=by
  go_enter Tryz.func149,Tryz.ntmps149
  go_wp2_with (first
   | (go_at_call 162;refine (qDi _ _).mono ?_;rintro e i ⟨rfl,rfl⟩)
   | (go_at_call 163;refine (qGm _ _ _ _).mono ?_;rintro e i ⟨rfl,rfl⟩))
  go_returns
  exact ⟨r2b (by simp [*,qBs]),by go_grown⟩
theorem yYf (o k:Bool)(f g n l op d a b c:Int)(w:World)(y:(qHi f g d)=true)(u:qAu a=true)(r:qAu b=false)(s:(b==8)=false):Cl 149 #[Shape.v ⟨false,o,k,f,g,n,l⟩,qAl op d a b c] w fun e i=>e=.returned (.bool (qBs false k f g n l d a b c))/\Bw w i:=by
  go_enter Tryz.func149,Tryz.ntmps149
  go_wp2_with (first
   | (go_at_call 162;refine (qDi _ _).mono ?_;rintro e i ⟨rfl,rfl⟩)
   | (go_at_call 163;refine (qGm _ _ _ _).mono ?_;rintro e i ⟨rfl,rfl⟩))
  go_returns
  exact ⟨r2b (by simp [*,qBs]),by go_grown⟩
theorem yTo (s:Shape)(op d a b c:Int)(w:World):Cl 149 #[s.v,qAl op d a b c] w fun e r=>e=.returned (.bool (qBs s.dest s.source s.farL s.farM s.immL s.immM d a b c))/\Bw w r:=by
 obtain ⟨o,i,n,f,g,l,k⟩:=s
 cases o
 ·cases hX:qHi f g d
  ·exact yZm i n f g l k op d a b c w hX
  ·cases ha:qAu a
   ·exact yZg i n f g l k op d a b c w hX ha
   ·cases hb:qAu b
    ·cases h8:(b==8)
     ·exact yYf i n f g l k op d a b c w hX ha hb h8
     ·cases n
      ·exact yXa i false f g l k op d a b c w hX ha hb h8
      ·exact ySr i true f g l k op d a b c w hX ha hb h8
    ·cases n
     ·exact yUt i false f g l k op d a b c w hX ha hb
     ·exact yWp i true f g l k op d a b c w hX ha hb
 ·cases hX:qAu d
  ·exact xAi i n f g l k op d a b c w hX
  ·cases ha:qAu a
   ·exact yZr i n f g l k op d a b c w hX ha
   ·cases hb:qAu b
    ·cases h8:(b==8)
     ·exact yXl i n f g l k op d a b c w hX ha hb h8
     ·cases n
      ·exact yWf i false f g l k op d a b c w hX ha hb h8
      ·exact yXb i true f g l k op d a b c w hX ha hb h8
    ·cases n
     ·exact yTl i false f g l k op d a b c w hX ha hb
     ·exact yXe i true f g l k op d a b c w hX ha hb
theorem qWs {op:Int}(h:op=0∨op=11):qAx op=⟨true,false,true,0,0,0,0⟩:=by unfold qAx;rw [if_pos h]
theorem qWo {op:Int}(h:1<=op/\op<=10):qAx op=⟨true,true,true,0,0,0,0⟩:=by unfold qAx;rw [if_neg (by omega),if_pos h]
theorem qWw {op:Int}(h:16<=op/\op<=19):qAx op=⟨false,true,true,0,63,0,0⟩:=by unfold qAx;rw [if_neg (by omega),if_neg (by omega),if_neg (by omega),if_neg (by omega),if_neg (by omega),if_neg (by omega),if_pos h]
theorem yGh {op d a b c:Int}(h:op=0∨op=11):qAq op d a b c=((a==0&&(b==8||c==0))&&qBs true true 0 0 0 0 d a b c):=by
 rcases h with rfl|rfl
 all_goals
  simp only [yAs,qXv,qAu,qCr,qBs,qHi];rw [Bool.eq_iff_iff];simp;omega
theorem yFy {op d a b c:Int}(h:1<=op/\op<=10):qAq op d a b c=((b==8||c==0)&&qBs true true 0 0 0 0 d a b c):=by
 rw [qIc h];simp only [qAu,qCr,qBs,qHi];rw [Bool.eq_iff_iff];simp;omega
theorem yGc {d a b c:Int}:qAq 12 d a b c=((d==0&&(b==8||c==0))&&qBs false true 0 0 0 0 d a b c):=by
 simp only [qMt,qAu,qCr,qBs,qHi];rw [Bool.eq_iff_iff];simp;omega
theorem yYo {d a b c:Int}:qAq 13 d a b c=((a==0&&b==0)&&qBs true false 0 0 0 1 d a b c):=by
 simp only [qOl,qAu,qBs,qHi];rw [Bool.eq_iff_iff];simp;omega
theorem xAt {d a b c:Int}:qAq 14 d a b c=((a==0&&b==0)&&qBs true false 0 0 0 3 d a b c):=by
 simp only [qJo,qAu,qBs,qHi];rw [Bool.eq_iff_iff];simp;omega
theorem yZp {d a b c:Int}:qAq 15 d a b c=((a==0&&(b==0&&c==0))&&qBs false false 0 63 0 0 d a b c):=by
 simp only [qOr,qAu,qBs,qHi];rw [Bool.eq_iff_iff];simp;omega
theorem yGk {op d a b c:Int}(h:16<=op/\op<=19):qAq op d a b c=((b==8||c==0)&&qBs false true 0 63 0 0 d a b c):=by
 rw [qIy h];simp only [qAu,qCr,qBs,qHi];rw [Bool.eq_iff_iff];simp;omega
theorem xAb {d a b c:Int}:qAq 20 d a b c=((b==0)&&qBs false false 1 63 1 255 d a b c):=by
 simp only [qKv,qAu,qBs,qHi];rw [Bool.eq_iff_iff];simp;omega
theorem yYn {d a b c:Int}:qAq 21 d a b c=((d==0&&(a==0&&b==0))&&qBs false false 0 0 0 6 d a b c):=by
 simp only [qSk,qAu,qBs,qHi];rw [Bool.eq_iff_iff];simp;omega
theorem xAr {d a b c:Int}:qAq 22 d a b c=((d==0&&(b==0&&c==0))&&qBs false false 0 0 0 0 d a b c):=by
 simp only [qRv,qAu,qBs,qHi];rw [Bool.eq_iff_iff];simp;omega

def Shape.zero (s:Shape):Bool:=s.dest==false&&(s.first==false&&(s.source==false&&(decide (s.farL=0)&&(decide (s.farM=0)&&(decide (s.immL=0)&&decide (s.immM=0))))))
structure In where
 op:Int
 d:Int
 a:Int
 b:Int
 imm:Int
def In.nil:In:=⟨0,0,0,0,0⟩
abbrev In.v (i:In):Value:=qAl i.op i.d i.a i.b i.imm
def In.right (i:In):Bool:=qAq i.op i.d i.a i.b i.imm
def In.wf (i:In):Prop:=(Lit.int .i64 i.op).wf=true/\(Lit.int .i64 i.d).wf=true/\(Lit.int .i64 i.a).wf=true/\(Lit.int .i64 i.b).wf=true/\(Lit.int .i64 i.imm).wf=true
def At (w:World) (b off:Nat) (i:In):Prop:=w.cell? ⟨b,off,none⟩=some (.int .i64 i.op)/\w.cell? ⟨b,off+1,none⟩=some (.int .i64 i.d)/\w.cell? ⟨b,off+2,none⟩=some (.int .i64 i.a)/\w.cell? ⟨b,off+3,none⟩=some (.int .i64 i.b)/\w.cell? ⟨b,off+4,none⟩=some (.int .i64 i.imm)
theorem At.below {w d:World}{b off B:Nat}{i:In}(h:At w b off i)(a:Below B w d)(c:b<B):At d b off i:=by
 unfold At;rw [a.cell (p:=⟨b,off,none⟩) c,a.cell (p:=⟨b,off+1,none⟩) c,a.cell (p:=⟨b,off+2,none⟩) c,a.cell (p:=⟨b,off+3,none⟩) c,a.cell (p:=⟨b,off+4,none⟩) c];exact h
def SeesI (w:World) (v:Value) (xs:List In):Prop :=
 ∃ a cap,v=.slice a xs.length cap/\xs.length<=cap/\cap<=maxLen/\(a=none->cap=0) /\
  (xs≠[]->∃ b off,a=some ⟨b,off,none⟩/\b<w.heap.size/\∀ k,k<xs.length->At w b (off+k*5) (xs.getD k In.nil))
theorem SeesI.below {w i:World}{v:Value}{xs:List In}(h:SeesI w v xs)(f:Bw w i):SeesI i v xs:=by
 obtain ⟨a,cap,rfl,n,s,l,r⟩:=h;refine ⟨a,cap,rfl,n,s,l,fun d=>?_⟩;obtain ⟨b,off,rfl,c,g⟩:=r d;exact ⟨b,off,rfl,Nat.lt_of_lt_of_le c f.size,fun k o=>(g k o).below f c⟩
theorem ySs {α:Type}(s:Shape)(f:Bool->α):(if s.dest=true then f false else if s.first=true then f false else if s.source=true then f false else if s.farL=0 then (if s.farM=0 then (if s.immL=0 then (if s.immM=0 then f true else f false) else f false) else f false) else f false)=f s.zero:=by
 obtain ⟨d,c,g,a,b,k,i⟩:=s
 by_cases h1:a=0<;>by_cases h2:b=0<;>by_cases h3:k=0<;>by_cases h4:i=0<;>cases d<;>cases c<;>cases g<;>simp [Shape.zero,h1,h2,h3,h4]
def neI (i j:In):Bool := !(i.op==j.op&&(i.d==j.d&&(i.a==j.a&&(i.b==j.b&&i.imm==j.imm))))
theorem xBl {α : Type}(i j : In)(f : Bool -> α) : (if i.op = j.op then (if i.d = j.d then (if i.a = j.a then (if i.b = j.b then (if i.imm = j.imm then f false else f true) else f true) else f true) else f true) else f true) = f (neI i j) := by
  by_cases h0 : i.op = j.op
  case neg => rw [if_neg h0]; have e : (i.op == j.op) = false := by simp [h0]
              simp [neI, e]
  rw [if_pos h0]
  have e0 : (i.op == j.op) = true := by simp [h0]
  by_cases h1 : i.d = j.d
  case neg => rw [if_neg h1]; have e : (i.d == j.d) = false := by simp [h1]
              simp [neI, e]
  rw [if_pos h1]
  have c : (i.d == j.d) = true := by simp [h1]
  by_cases h2 : i.a = j.a
  case neg => rw [if_neg h2]; have e : (i.a == j.a) = false := by simp [h2]
              simp [neI, e]
  rw [if_pos h2]
  have l : (i.a == j.a) = true := by simp [h2]
  by_cases h3 : i.b = j.b
  case neg => rw [if_neg h3]; have e : (i.b == j.b) = false := by simp [h3]
              simp [neI, e]
  rw [if_pos h3]
  have g : (i.b == j.b) = true := by simp [h3]
  by_cases h4 : i.imm = j.imm
  case neg => rw [if_neg h4]; have e : (i.imm == j.imm) = false := by simp [h4]
              simp [neI, e]
  rw [if_pos h4]
  have k : (i.imm == j.imm) = true := by simp [h4]
  simp [neI, e0, c, l, g, k]
abbrev Held (n4 n5:Nat) (op d a b imm:Int) (s:Shape) (w:World):Prop:=(w.cell? ⟨n4,0,none⟩=some (.int .i64 op)/\w.cell? ⟨n4,1,none⟩=some (.int .i64 d)/\w.cell? ⟨n4,2,none⟩=some (.int .i64 a)/\w.cell? ⟨n4,3,none⟩=some (.int .i64 b)/\w.cell? ⟨n4,4,none⟩=some (.int .i64 imm)) /\
 w.cell? ⟨n5,0,none⟩=some (.bool s.dest)/\w.cell? ⟨n5,1,none⟩=some (.bool s.first)/\w.cell? ⟨n5,2,none⟩=some (.bool s.source)/\w.cell? ⟨n5,3,none⟩=some (.int .i64 s.farL)/\w.cell? ⟨n5,4,none⟩=some (.int .i64 s.farM)/\w.cell? ⟨n5,5,none⟩=some (.int .i64 s.immL)/\w.cell? ⟨n5,6,none⟩=some (.int .i64 s.immM)
theorem Held.below {g f B:Nat}{op d a b l:Int}{s:Shape}{w n:World}(h:Held g f op d a b l s w)(c:Below B w n)(k:g<B)(i:f<B):Held g f op d a b l s n:=by
 unfold Held;rw [c.cell (p:=⟨g,0,none⟩) k,c.cell (p:=⟨g,1,none⟩) k,c.cell (p:=⟨g,2,none⟩) k,c.cell (p:=⟨g,3,none⟩) k,c.cell (p:=⟨g,4,none⟩) k,c.cell (p:=⟨f,0,none⟩) i,c.cell (p:=⟨f,1,none⟩) i,c.cell (p:=⟨f,2,none⟩) i,c.cell (p:=⟨f,3,none⟩) i,c.cell (p:=⟨f,4,none⟩) i,c.cell (p:=⟨f,5,none⟩) i,c.cell (p:=⟨f,6,none⟩) i];exact h
theorem yTa {xs:List In}{k:Nat}(a:k<xs.length):(xs.take (k+1)).all In.right=((xs.take k).all In.right&&(xs.getD k In.nil).right):=by
 have e:xs.getD k In.nil=xs[k]:=by simp [a]
 rw [e,List.take_succ_eq_append_getElem a,List.all_append];simp only [List.all_cons,List.all_nil,Bool.and_true]
theorem yOa {xs:List In}{k:Nat}(b:k<xs.length)(h:(xs.getD k In.nil).right=false):xs.all In.right=false:=by
 have e:xs.getD k In.nil=xs[k]:=by simp [b]
 rw [e] at h;rw [Bool.eq_false_iff];intro a;rw [List.all_eq_true.1 a _ (List.getElem_mem b)] at h
 cases h
def In.far (i:In):Int:=(qCp i.op i.d i.a i.b i.imm).1
def In.leads (i:In):Bool:=(qCp i.op i.d i.a i.b i.imm).2.1
def In.on (i:In):Bool:=(qCp i.op i.d i.a i.b i.imm).2.2
theorem qBf (i:In):(i.right=false/\i.far=0/\i.leads=false/\i.on=false)∨(i.right=true/\15<=i.op/\i.op<=19/\i.far=i.d+1/\i.leads=true/\i.on=decide (i.op≠15)/\0<=i.d/\i.d<=63) ∨
  (i.right=true/\i.op=20/\i.far = -i.d/\i.leads=true/\i.on=true/\1<=i.d/\i.d<=63/\1<=i.imm/\i.imm<=255)∨(i.right=true/\(i.op<15∨20<i.op)/\i.far=0/\i.leads=false/\i.on=decide (i.op≠22)):=by
 obtain ⟨op,d,a,b,c⟩:=i;unfold In.far In.leads In.on In.right
 cases hr:qAq op d a b c
 ·left;simp [qCp,hr]
 right
 by_cases h1:op=15
 ·subst h1;left;have:=qKu hr (by omega)
  simp [qCp,hr];omega
 by_cases h2:16<=op/\op<=19
 ·left
  have:=qKu hr (by omega)
  simp [qCp,hr,h1,h2];omega
 by_cases h3:op=20
 ·subst h3;right;left;have h:=hr;rw [qKv] at h
  simp at h
  simp [qCp,hr];omega
 ·right;right
  unfold qCp;rw [if_neg (by simp [hr]),if_neg h1,if_neg h2,if_neg h3];refine ⟨rfl,by show op<15∨20<op;omega,rfl,rfl,?_⟩
  by_cases h4:op=22<;>simp [h4]
theorem qRe (i:In) : -63<=i.far/\i.far<=64:=by
 rcases qBf i with h|h|h|h<;>omega
def first (p:Nat->Bool) (n:Nat):Option Nat:=(List.range n).find? p
theorem qHn {p:Nat->Bool}{n k:Nat}(h:∀ j,j<k->p j=false)(d:k<n)(c:p k=true):first p n=some k:=by
 unfold first
 have e:List.range n=List.range k++(List.range' k (n-k)):=by
  have e:=@List.range'_append_1 0 k (n-k);rw [List.range_eq_range',List.range_eq_range',Nat.zero_add] at *;rw [e];congr 1;omega
 rw [e,List.find?_append]
 have b:(List.range k).find? p=none:=by
  rw [List.find?_eq_none];intro x a;rw [List.mem_range] at a;simp [h x a]
 rw [b];obtain ⟨m,hm⟩:∃ m,n-k=m+1:=⟨n-k-1,by omega⟩;rw [hm,List.range'_succ]
 simp [c]
theorem qEw {p:Nat->Bool}{n:Nat}(h:∀ j,j<n->p j=false):first p n=none:=by
 unfold first
 rw [List.find?_eq_none];intro x a;rw [List.mem_range] at a;simp [h x a]
theorem qJa (p:Nat->Bool)(n:Nat):(first p n=none/\∀ j,j<n->p j=false)∨∃ k,first p n=some k/\k<n/\p k=true/\∀ j,j<k->p j=false:=by
 by_cases h:∃ k,k<n/\p k=true
 ·have i:∃ k,k<n/\p k=true/\∀ j,j<k->p j=false:=by
   obtain ⟨k,d,c⟩:=h
   induction k using Nat.strongRecOn with
   | _ k ih =>
    by_cases b:∃ j,j<k/\p j=true
    ·obtain ⟨j,b,a⟩:=b;exact ih j b (by omega) a
    ·refine ⟨k,d,c,fun j f=>?_⟩
     cases a:p j
     ·rfl
     ·exact absurd ⟨j,f,a⟩ b
  obtain ⟨k,d,c,g⟩:=i;exact .inr ⟨k,qHn g d c,d,c,g⟩
 ·refine .inl ⟨qEw fun j b=>?_,fun j b=>?_⟩ <;>
  ·cases a:p j
   ·rfl
   ·exact absurd ⟨j,b,a⟩ h
theorem qTo {p q:Nat->Bool}{n:Nat}(h:∀ j,j<n->p j=q j):first p n=first q n:=by
 rcases qJa q n with ⟨c,a⟩|⟨k,c,a,d,f⟩
 ·rw [c];exact qEw fun j b=>(h j b).trans (a j b)
 ·rw [c];exact qHn (fun j b=>(h j (by omega)).trans (f j b)) a ((h k a).trans d)

structure Lp where
 h:Int
 t:Int
 b:Int
def Lp.nil:Lp:=⟨0,0,0⟩
def qBk (l:Lp) (p:Int):Bool:=decide (l.h<=p)&&decide (p<=l.t)
def qEy (l:Lp) (p q:Int):Bool := !qBk l p&&(qBk l q&&decide (q≠l.h))
theorem within_iff {l:Lp}{p:Int}:qBk l p=true↔l.h<=p/\p<=l.t:=by simp [qBk]
theorem within_no {l:Lp}{p:Int}:qBk l p=false↔¬ (l.h<=p/\p<=l.t):=by rw [<- within_iff];simp
theorem enters_iff {l:Lp}{p q:Int}:qEy l p q=true↔¬ (l.h<=p/\p<=l.t)/\l.h<q/\q<=l.t:=by
 unfold qEy;rw [Bool.and_eq_true,Bool.and_eq_true,Bool.not_eq_true',within_no,within_iff,decide_eq_true_eq]
 omega
abbrev nth (xs:List In) (k:Nat):In:=xs.getD k In.nil
def qBm (xs:List In) (k:Nat):Lp:=⟨k+(nth xs k).far,k,(nth xs k).imm⟩
def lps (xs:List In) (k:Nat):List Lp:=if (nth xs k).op=20 then [qBm xs k] else []
def qBt (xs:List In):Nat->List Lp
 | 0=>[]
 | n+1=>qBt xs n++lps xs n
def qAk (xs:List In):List Lp:=qBt xs xs.length
theorem loopsU_mem {xs:List In}{n:Nat}{l:Lp}:l∈qBt xs n↔∃ k,k<n/\(nth xs k).op=20/\l=qBm xs k:=by
 induction n with
 | zero=>simp [qBt]
 | succ n ih =>
  rw [qBt,List.mem_append,ih]
  constructor
  ·rintro (⟨k,c,b,a⟩|h)
   ·exact ⟨k,by omega,b,a⟩
   ·unfold lps at h
    split at h
    ·rename_i h20
     simp at h
     exact ⟨n,by omega,h20,h⟩
    ·simp at h
  ·rintro ⟨k,c,b,a⟩
   by_cases hk:k<n
   ·exact .inl ⟨k,hk,b,a⟩
   ·obtain rfl:k=n:=by omega
    right;unfold lps;rw [if_pos b,a];simp
theorem qQt (xs:List In)(n:Nat):(qBt xs n).length<=n:=by
 induction n with
 | zero=>simp [qBt]
 | succ n ih=>rw [qBt,List.length_append];unfold lps;split<;>simp<;>omega
theorem qRb (xs:List In)(n:Nat):(qBt xs n).Pairwise (fun a b=>a.t<b.t):=by
 induction n with
 | zero=>exact List.Pairwise.nil
 | succ n ih =>
  rw [qBt,List.pairwise_append];refine ⟨ih,?_,?_⟩
  ·unfold lps;split<;>simp
  ·intro a d b c;obtain ⟨k,f,_,rfl⟩:=loopsU_mem.1 d;unfold lps at c
   split at c<;>simp at c
   subst c
   simp [qBm];omega
def qEd:List Lp->List Lp->Option Int
 | _,[]=>none
 | prev,l :: r=>if prev.any (fun e=>qEy e l.t l.h) then some l.t else qEd (prev++[l]) r
theorem qMb:∀ (r d:List Lp),qEd d r=none->∀ (a b c:List Lp) (l:Lp),r=a++l :: b->∀ e∈d++a,qEy e l.t l.h=false
 | [],d,h,a,b,c,l,e=>by simp at e
 | x :: r,d,h,a,b,c,l,e=>by
  rw [qEd] at h
  split at h
  ·cases h
  ·rename_i hx
   cases a with
   | nil =>
    simp at e
    obtain ⟨rfl,rfl⟩:=e;intro e he
    simp at he hx
    exact hx e he
   | cons y a =>
    simp at e
    obtain ⟨rfl,rfl⟩:=e;intro e he;refine qMb (a++l :: b) (d++[x]) h a b c l rfl e (by simpa using he)
def qIa (xs:List In) (ls:List Lp) (k:Nat):Bool:=(nth xs k).leads&&ls.any (fun l=>qEy l k (k+(nth xs k).far))
def qIs (xs:List In) (k:Nat):Int :=
 if (nth xs k).right=false then 12 else if (k:Int)+(nth xs k).far<0∨(xs.length:Int)<=k+(nth xs k).far then 30 else if (nth xs k).on=true/\k+1=xs.length then 36 else 0
def qEb (xs:List In) (k:Nat):Bool:=decide (qIs xs k≠0)
def qIe (p:Int):List Lp->Int->Int
 | [],t=>t
 | l :: r,t=>qIe p r (if qBk l p then t*(l.b+1) else t)
def qGf (p:Int):List Lp->Int->Int
 | [],t=>t
 | l :: r,t=>qGf p r (if qBk l p then min (t*(l.b+1)) 257 else t)
def qMe (ls:List Lp):Nat->Int
 | 0=>0
 | n+1=>qMe ls n+qIe n ls 1
def qFy (ls:List Lp):Nat->Int
 | 0=>0
 | n+1=>qFy ls n+qGf n ls 1
def qCh (xs:List In):Int×Int :=
 if xs.length=0 then (0,10) else if 64<xs.length then (0,11) else
 match first (qEb xs) xs.length with
 | some k=>(k,qIs xs k)
 | none=>match qEd [] (qAk xs) with
  | some t=>(t,31)
  | none=>match first (qIa xs (qAk xs)) xs.length with
   | some p=>(p,31)
   | none=>if 256<qFy (qAk xs) xs.length then (0,32) else (0,0)
def Bnd (ls:List Lp):Prop:=∀ l∈ls,1<=l.b/\l.b<=255
theorem qJi {t b:Int}(c:1<=t)(a:0<=b):t<=t*(b+1):=by
 have:0<=t*b:=Int.mul_nonneg (by omega) a;rw [Int.mul_add];omega
theorem qMi {p:Int}:∀ {ls:List Lp} {t:Int},Bnd ls->1<=t->t<=qIe p ls t
 | [],t,_,_=>Int.le_refl _
 | l :: r,t,hb,ht=>by
  have b:=hb l (by simp);rw [qIe]
  split
  ·exact Int.le_trans (qJi ht (by omega)) (qMi (fun x a=>hb x (by simp [a])) (Int.le_trans ht (qJi ht (by omega))))
  ·exact qMi (fun x a=>hb x (by simp [a])) ht
theorem qQf {p:Int}:∀ {ls:List Lp} {t:Int},Bnd ls->1<=t->qGf p ls (min t 257)=min (qIe p ls t) 257
 | [],t,_,_=>rfl
 | l :: r,t,hb,ht=>by
  have d:=hb l (by simp);rw [qGf,qIe]
  have a:Bnd r:=fun x c=>hb x (by simp [c])
  split
  ·have f:=qJi ht (show 0<=l.b by omega)
   have e:min (min t 257*(l.b+1)) 257=min (t*(l.b+1)) 257:=by
    by_cases h:t<=257
    ·rw [Int.min_eq_left h]
    ·have:min t 257=257:=by omega
     rw [this];omega
   rw [e];exact qQf a (by omega)
  ·exact qQf a ht
theorem qRj {p:Int}{ls:List Lp}(a:Bnd ls):qGf p ls 1=min (qIe p ls 1) 257:=qQf (t:=1) a (by omega)
theorem yAx {ls:List Lp}(a:Bnd ls)(n:Nat):qFy ls n<=qMe ls n/\(n:Int)<=qFy ls n/\(qFy ls n<=256->qMe ls n=qFy ls n):=by
 induction n with
 | zero=>simp [qFy,qMe]
 | succ n ih =>
  have b:=qMi (p:=n) a (show (1:Int)<=1 by omega);rw [qFy,qMe,qRj a]
  omega
def qCl (ls:List Lp) (p:Int):List Int:=(ls.filter (fun l=>qBk l p)).map Lp.t
structure Taken (xs:List In):Prop where
 pos:0<xs.length
 top:xs.length<=64
 place:∀ k,k<xs.length->qEb xs k=false
 cross:qEd [] (qAk xs)=none
 intr:∀ k,k<xs.length->qIa xs (qAk xs) k=false
 cost:qFy (qAk xs) xs.length<=256
theorem check_ok {xs:List In}:(qCh xs).2=0↔Taken xs:=by
 unfold qCh
 constructor
 ·intro h
  split at h
  ·cases h
  split at h
  ·cases h
  split at h
  ·rename_i k hk
   rcases qJa (qEb xs) xs.length with ⟨b,_⟩|⟨j,b,_,a,_⟩
   ·rw [b] at hk;cases hk
   ·rw [b] at hk;injection hk with hk;subst hk;unfold qEb at a;simp only [decide_eq_true_eq] at a;exact absurd h a
  rename_i hp
  split at h
  ·cases h
  rename_i hc
  split at h
  ·cases h
  rename_i hi
  split at h
  ·cases h
  refine ⟨by omega,by omega,?_,hc,?_,by omega⟩
  ·rcases qJa (qEb xs) xs.length with ⟨_,a⟩|⟨k,b,_⟩
   ·exact a
   ·rw [b] at hp;cases hp
  ·rcases qJa (qIa xs (qAk xs)) xs.length with ⟨_,a⟩|⟨k,b,_⟩
   ·exact a
   ·rw [b] at hi;cases hi
 ·intro h;have:=h.pos;have:=h.top;have:=h.cost;rw [if_neg (by omega),if_neg (by omega),qEw h.place,h.cross,qEw h.intr]
  dsimp only
  rw [if_neg (by omega)]
theorem yKe {xs:List In}(h:(qCh xs).2=0):qCh xs=(0,0):=by
 have h:=check_ok.1 h;unfold qCh;have:=h.pos;have:=h.top;have:=h.cost;rw [if_neg (by omega),if_neg (by omega),qEw h.place,h.cross,qEw h.intr]
 dsimp only
 rw [if_neg (by omega)]
theorem qEl {xs:List In}{k:Nat}(b:k<xs.length)(h:qEb xs k=false):(nth xs k).right=true/\0<=(k:Int)+(nth xs k).far/\(k:Int)+(nth xs k).far<xs.length/\((nth xs k).on=true->k+1<xs.length):=by
 unfold qEb qIs at h;simp only [decide_eq_false_iff_not,ne_eq,Decidable.not_not] at h
 split at h
 ·omega
 split at h
 ·omega
 split at h
 ·omega
 rename_i h1 h2 h3
 refine ⟨by simpa using h1,by omega,by omega,fun a=>?_⟩
 have:¬ k+1=xs.length:=fun e=>h3 ⟨a,e⟩
 omega
def qFr (xs:List In):Prop:=∀ k,k<xs.length->qEb xs k=false
theorem qKr {xs:List In}(h:qFr xs){l:Lp}(i:l∈qAk xs):∃ k:Nat,k<xs.length/\(nth xs k).op=20/\l=⟨k-(nth xs k).d,k,(nth xs k).imm⟩/\0<=l.h/\l.h<l.t/\l.t<xs.length/\1<=l.b/\l.b<=255:=by
 obtain ⟨k,c,f,rfl⟩:=loopsU_mem.1 i;obtain ⟨a,h0,n,_⟩:=qEl c (h k c);have g:=qBf (nth xs k);refine ⟨k,c,f,?_,?_,?_,?_,?_,?_⟩
 ·unfold qBm
  rcases g with h|h|h|h
  ·rw [h.1] at a;cases a
  ·omega
  ·rw [h.2.2.1];rfl
  ·omega
 all_goals
  show _
  simp only [qBm]
  rcases g with h|h|h|h
  ·rw [h.1] at a;cases a
  ·omega
  ·omega
  ·omega
theorem qJl {xs:List In}(h:qFr xs):Bnd (qAk xs):=fun l c=>by
 obtain ⟨k,_,_,_,_,_,_,b,a⟩:=qKr h c;exact ⟨b,a⟩
def qGs (l:List Int) (n:Int):Bool:=decide (n∈l)
theorem has_iff {l:List Int}{n:Int}:qGs l n=true↔n∈l:=by simp [qGs]
abbrev row (rows:List (List Int)) (p:Nat):List Int:=rows.getD p []
def yJp (xs:List In) (n:Nat):List (List Int):=(List.range xs.length).map fun (p:Nat)=>qCl (qBt xs n) (p:Int)
def qBc (xs:List In):List (List Int):=yJp xs xs.length
theorem qJj {xs:List In}{n p:Nat}(h:p<xs.length):row (yJp xs n) p=qCl (qBt xs n) p:=by
 simp [row,yJp,List.getD,h]
theorem around_mem {ls:List Lp}{p n:Int}:n∈qCl ls p↔∃ l∈ls,qBk l p=true/\l.t=n:=by
 unfold qCl
 simp [and_assoc]
theorem qHt {xs:List In}{p m:Nat}(d:p<xs.length)(hm:m<xs.length)(a:(nth xs m).op=20):qGs (row (qBc xs) p) m=qBk (qBm xs m) p:=by
 rw [Bool.eq_iff_iff,has_iff,qBc,qJj d,around_mem]
 constructor
 ·rintro ⟨l,f,c,b⟩;obtain ⟨k,g,_,rfl⟩:=loopsU_mem.1 f;simp only [qBm] at b
  obtain rfl:k=m:=by omega
  exact c
 ·intro h;exact ⟨qBm xs m,loopsU_mem.2 ⟨m,hm,a,rfl⟩,h,rfl⟩
def qNx (rows:List (List Int)) (m l:Nat):Nat->Int
 | 0=>0
 | p+1=>qNx rows m l p+if qGs (row rows p) m&&qGs (row rows p) l then 1 else 0
def qQy (rows:List (List Int)) (m l:Nat):Nat->Bool
 | 0=>true
 | p+1=>qQy rows m l p && !(qGs (row rows p) m && !qGs (row rows p) l)
theorem cnt_iff {a:List (List Int)}{m l n:Nat}:0<=qNx a m l n/\qNx a m l n<=n/\(0<qNx a m l n↔∃ p,p<n/\qGs (row a p) m=true/\qGs (row a p) l=true):=by
 induction n with
 | zero=>simp [qNx]
 | succ n ih =>
  obtain ⟨f,i,d⟩:=ih;rw [qNx]
  cases h:(qGs (row a n) m&&qGs (row a n) l)
  ·refine ⟨by simp;exact f,by simp;omega,?_⟩;simp only [Bool.false_eq_true,if_false,Int.add_zero,d]
   constructor
   ·rintro ⟨p,g,b⟩;exact ⟨p,by omega,b⟩
   ·rintro ⟨p,g,b,c⟩;refine ⟨p,?_,b,c⟩
    by_cases e:p=n
    ·subst e;rw [b,c] at h;cases h
    ·omega
  ·refine ⟨by simp;omega,by simp;omega,?_⟩;rw [Bool.and_eq_true] at h;simp only [if_true];exact ⟨fun _=>⟨n,by omega,h⟩,fun _=>by omega⟩
theorem all_iff {a:List (List Int)}{m l n:Nat}:qQy a m l n=false↔∃ p,p<n/\qGs (row a p) m=true/\qGs (row a p) l=false:=by
 induction n with
 | zero=>simp [qQy]
 | succ n ih =>
  rw [qQy]
  cases h:(qGs (row a n) m && !qGs (row a n) l)
  ·simp only [Bool.not_false,Bool.and_true,ih]
   constructor
   ·rintro ⟨p,d,b⟩;exact ⟨p,by omega,b⟩
   ·rintro ⟨p,d,b,c⟩;refine ⟨p,?_,b,c⟩
    by_cases e:p=n
    ·subst e;rw [b,c] at h;cases h
    ·omega
  ·rw [Bool.and_eq_true,Bool.not_eq_true'] at h;simp only [Bool.not_true,Bool.and_false,true_iff];exact ⟨n,by omega,h⟩
def qMd (xs:List In) (rows:List (List Int)) (l m:Nat):Bool:=decide ((nth xs m).op=20)&&(decide (0<qNx rows m l xs.length) && !qQy rows m l xs.length)
def qFu (xs:List In) (rows:List (List Int)) (l:Nat):Bool:=decide ((nth xs l).op=20)&&(List.range l).any (qMd xs rows l)
def qKw (xs:List In) (l:Nat):Bool:=decide ((nth xs l).op=20)&&(qBt xs l).any fun e=>qEy e (qBm xs l).t (qBm xs l).h
def qLh (xs:List In):Nat->Nat->List Lp
 | _,0=>[]
 | k,m+1=>lps xs k++qLh xs (k+1) m
theorem qUz (xs:List In):∀ (m k:Nat),qBt xs (k+m)=qBt xs k++qLh xs k m
 | 0,k=>by simp [qLh]
 | m+1,k=>by
  rw [qLh,<- List.append_assoc,<- qBt,<- qUz xs m (k+1)]
  congr 1;omega
theorem yEk (xs:List In)(m k:Nat):qEd (qBt xs k) (qLh xs k (m+1))=if qKw xs k then some (k:Int) else qEd (qBt xs (k+1)) (qLh xs (k+1) m):=by
 rw [qLh,qBt];unfold lps qKw
 by_cases h:(nth xs k).op=20
 ·rw [if_pos h];simp only [List.singleton_append,qEd,h,decide_true,Bool.true_and]
  rfl
 ·rw [if_neg h,decide_eq_false h,Bool.false_and,if_neg (by simp),List.nil_append,List.append_nil]
theorem qSp (xs:List In):∀ (m k:Nat),(∀ j,j<k->qKw xs j=false)->qEd (qBt xs k) (qLh xs k m)=(first (qKw xs) (k+m)).map fun (j:Nat)=>(j:Int)
 | 0,k,h=>by rw [Nat.add_zero,qEw h];rfl
 | m+1,k,h=>by
  rw [yEk]
  cases hk:qKw xs k
  ·rw [if_neg (by simp),qSp xs m (k+1) (fun j a=>?_),show k+1+m=k+(m+1) by omega]
   by_cases e:j=k
   ·rw [e];exact hk
   ·exact h j (by omega)
  ·rw [if_pos rfl,qHn h (by omega) hk];rfl
theorem yIm {xs:List In}(h:qFr xs){l:Nat}(c:l<xs.length):qFu xs (qBc xs) l=qKw xs l:=by
 unfold qFu qKw
 by_cases h20:(nth xs l).op=20
 ·rw [Bool.eq_iff_iff];simp only [h20,decide_true,Bool.true_and];obtain ⟨_,_,_,_,A,z,y,_⟩:=qKr h (l:=qBm xs l) (loopsU_mem.2 ⟨l,c,h20,rfl⟩);rw [List.any_eq_true,List.any_eq_true]
  constructor
  ·rintro ⟨m,hm,b⟩;rw [List.mem_range] at hm;unfold qMd at b;simp only [Bool.and_eq_true,decide_eq_true_eq,Bool.not_eq_true'] at b;obtain ⟨a,r,o⟩:=b;obtain ⟨p,b,f,g⟩:=cnt_iff.2.2.1 r;obtain ⟨q,k,hq1,d⟩:=all_iff.1 o;rw [qHt b (by omega) a] at f;rw [qHt b c h20] at g;rw [qHt k (by omega) a] at hq1;rw [qHt k c h20] at d;rw [within_iff] at f g hq1;rw [within_no] at d;refine ⟨qBm xs m,loopsU_mem.2 ⟨m,hm,a,rfl⟩,enters_iff.2 ?_⟩;have n:(qBm xs m).t=m:=rfl;have s:(qBm xs l).t=l:=rfl
   omega
  ·rintro ⟨e,he,i⟩;obtain ⟨m,hm,a,rfl⟩:=loopsU_mem.1 he;obtain ⟨_,_,_,_,m0,u,w,_⟩:=qKr h (l:=qBm xs m) (loopsU_mem.2 ⟨m,by omega,a,rfl⟩);rw [enters_iff] at i;refine ⟨m,List.mem_range.2 hm,?_⟩;unfold qMd;simp only [Bool.and_eq_true,decide_eq_true_eq,Bool.not_eq_true'];have n:(qBm xs m).t=m:=rfl;have s:(qBm xs l).t=l:=rfl;refine ⟨a,cnt_iff.2.2.2 ⟨(qBm xs l).h.toNat,by omega,?_,?_⟩,all_iff.2 ⟨(qBm xs m).h.toNat,by omega,?_,?_⟩⟩
   ·rw [qHt (by omega) (by omega) a,within_iff];omega
   ·rw [qHt (by omega) c h20,within_iff];omega
   ·rw [qHt (by omega) (by omega) a,within_iff];omega
   ·rw [qHt (by omega) c h20,within_no];omega
 ·rw [decide_eq_false h20,Bool.false_and,Bool.false_and]
theorem yCr {xs:List In}(h:qFr xs):qEd [] (qAk xs)=(first (qFu xs (qBc xs)) xs.length).map fun (j:Nat)=>(j:Int):=by
 have a:=qSp xs xs.length 0 (fun j c=>by omega);have b:=qUz xs xs.length 0;rw [Nat.zero_add] at a b
 have e:qLh xs 0 xs.length=qAk xs:=by unfold qAk;rw [b];rfl
 rw [e] at a;rw [qTo (q:=qKw xs) (fun j c=>yIm h c)];exact a
def qRx (xs:List In) (rows:List (List Int)) (p:Nat) (to:Int) (l:Int):Bool := !qGs (row rows p) l&&decide (to≠l-(nth xs l.toNat).d)
def qId (xs:List In) (rows:List (List Int)) (p:Nat):Bool :=
 (nth xs p).leads&&(decide (0<=(nth xs p).far)&&(row rows ((p:Int)+(nth xs p).far).toNat).any (qRx xs rows p (p+(nth xs p).far)))
theorem yVk {xs : List In}(h : qFr xs)(Q : qEd [] (qAk xs) = none){p : Nat}(s : p < xs.length) : qId xs (qBc xs) p = qIa xs (qAk xs) p := by
  obtain ⟨hr, g0, g1, Z⟩ := qEl s (h p s);unfold qId qIa
  rcases qBf (nth xs p) with b | b | b | b
  · rw [b.2.2.1]; rfl
  · obtain ⟨_, n, J, f, D, _, d0, S⟩ := b
    rw [D, Bool.true_and, Bool.true_and, decide_eq_true (by omega), Bool.true_and]
    have G : ((p : Int) + (nth xs p).far).toNat < xs.length := by omega
    have I : ((((p : Int) + (nth xs p).far).toNat : Nat) : Int) = (p : Int) + (nth xs p).far := by omega
    rw [Bool.eq_iff_iff, List.any_eq_true, List.any_eq_true]
    constructor
    · rintro ⟨t, L, z⟩
      rw [qBc, qJj G, around_mem, I] at L;obtain ⟨l, a, R, rfl⟩ := L;obtain ⟨k, F, g, e, T, X, V, _⟩ := qKr h a;refine ⟨l, a, enters_iff.2 ?_⟩;unfold qRx at z;rw [Bool.and_eq_true, Bool.not_eq_true', decide_eq_true_eq] at z;obtain ⟨n, J⟩ := z
      have u : l.t = (k : Nat) := by rw [e]
      have N : l.h = k - (nth xs k).d := by rw [e]
      rw [u, qHt s F g, within_no] at n;rw [u, show ((k : Int)).toNat = k by omega] at J
      have E : qBm xs k = l := by
        obtain ⟨k', M, _, i⟩ := loopsU_mem.1 a
        have : k' = k := by have : l.t = (k' : Int) := by rw [i]; rfl
                            omega
        rw [i, this]
      rw [E] at n;rw [within_iff] at R
      omega
    · rintro ⟨l, a, r⟩
      obtain ⟨k, F, g, e, T, X, V, _⟩ := qKr h a;rw [enters_iff] at r;refine ⟨l.t, ?_, ?_⟩
      · rw [qBc, qJj G, around_mem, I]
        exact ⟨l, a, within_iff.2 (by omega), rfl⟩
      · unfold qRx
        rw [Bool.and_eq_true, Bool.not_eq_true', decide_eq_true_eq]
        have u : l.t = (k : Nat) := by rw [e]
        have N : l.h = k - (nth xs k).d := by rw [e]
        have E : qBm xs k = l := by
          obtain ⟨k', M, _, i⟩ := loopsU_mem.1 a
          have : k' = k := by have : l.t = (k' : Int) := by rw [i]; rfl
                              omega
          rw [i, this]
        rw [u, qHt s F g, within_no, E, show ((k : Int)).toNat = k by omega]
        omega
  · obtain ⟨_, n, f, D, _, d0, S, _⟩ := b
    rw [decide_eq_false (by omega), Bool.false_and, Bool.and_false, D, Bool.true_and, eq_comm, List.any_eq_false];intro l a r;rw [enters_iff] at r;obtain ⟨A, B, o⟩ := List.append_of_mem (show qBm xs p ∈ qAk xs from loopsU_mem.2 ⟨p, s, n, rfl⟩);have c := qRb xs xs.length;rw [show qBt xs xs.length = qAk xs from rfl, o, List.pairwise_append] at c;obtain ⟨s1, O, P⟩ := c;have e1 : (qBm xs p).t = p := rfl;have Y : (qBm xs p).h = p + (nth xs p).far := rfl
    have y : l ∈ A ∨ l = qBm xs p ∨ l ∈ B := by rw [o] at a; simpa using a
    rcases y with w | rfl | w
    · have K := qMb _ _ Q A B [] (qBm xs p) o l (by simpa using w)
      have U := P l w (qBm xs p) (by simp);rw [(enters_iff (l := l)).2 (by omega)] at K
      cases K
    · omega
    · have U := (List.pairwise_cons.1 O).1 l w
      omega
  · rw [b.2.2.2.1]; rfl
def qFb (xs:List In):List Int->Int->Int
 | [],t=>t
 | l :: r,t=>if t<=256 then qFb xs r (t*((nth xs l.toNat).imm+1)) else t
def qIk (xs:List In) (rows:List (List Int)):Nat->Int
 | 0=>0
 | n+1=>qIk xs rows n+qFb xs (row rows n) 1
def yIp (xs:List In) (ls:List Lp):Prop:=∀ l∈ls,(nth xs l.t.toNat).imm=l.b
theorem qRg {xs:List In}{p:Int}:∀ {ls:List Lp} {t:Int},Bnd ls->yIp xs ls->1<=t->t<=65536->1<=qFb xs (qCl ls p) t/\qFb xs (qCl ls p) t<=65536/\min (qFb xs (qCl ls p) t) 257=min (qIe p ls t) 257
 | [],t,_,_,h1,h2=>⟨h1,h2,rfl⟩
 | l :: r,t,hb,hn,h1,h2=>by
  have i:=hb l (by simp)
  have a:Bnd r:=fun x d=>hb x (by simp [d])
  have c:yIp xs r:=fun x d=>hn x (by simp [d])
  cases hw:qBk l p
  ·have e:qCl (l :: r) p=qCl r p:=by simp [qCl,hw]
   rw [e,qIe,hw];exact qRg a c h1 h2
  ·have e:qCl (l :: r) p=l.t :: qCl r p:=by simp [qCl,hw]
   rw [e,qFb,qIe,hw,hn l (by simp),if_pos rfl];have g:=qJi h1 (show 0<=l.b by omega)
   by_cases h:t<=256
   ·rw [if_pos h];have f:t*(l.b+1)<=256*256:=Int.mul_le_mul h (by omega) (by omega) (by omega);exact qRg a c (by omega) (by omega)
   ·rw [if_neg h];have f:=qMi (p:=p) a (show 1<=t*(l.b+1) by omega);exact ⟨h1,h2,by omega⟩
theorem ySf {xs:List In}{n:Nat}:yIp xs (qBt xs n):=fun l a=>by
 obtain ⟨k,b,_,rfl⟩:=loopsU_mem.1 a
 simp [qBm]
theorem yCs {xs:List In}(h:qFr xs){p:Nat}(a:p<xs.length):1<=qFb xs (row (qBc xs) p) 1/\qFb xs (row (qBc xs) p) 1<=65536/\min (qFb xs (row (qBc xs) p) 1) 257=qGf p (qAk xs) 1:=by
 rw [qBc,qJj a,qRj (qJl h)];exact qRg (qJl h) ySf (by omega) (by omega)
theorem ySy {xs:List In}(h:qFr xs){n:Nat}(d:n<=xs.length):qFy (qAk xs) n<=qIk xs (qBc xs) n/\0<=qIk xs (qBc xs) n/\qIk xs (qBc xs) n<=65536*n/\(qFy (qAk xs) n<=256->qIk xs (qBc xs) n=qFy (qAk xs) n):=by
 induction n with
 | zero=>simp [qFy,qIk]
 | succ n ih =>
  have c:=yCs h (show n<xs.length by omega);have b:=ih (by omega);have a:=(yAx (qJl h) n).2.1;rw [qFy,qIk]
  omega
def qPa (xs:List In):Int×Int :=
 if xs.length=0 then (0,10) else if 64<xs.length then (0,11) else
 match first (qEb xs) xs.length with
 | some k=>(k,qIs xs k)
 | none=>match first (qFu xs (qBc xs)) xs.length with
  | some t=>(t,31)
  | none=>match first (qId xs (qBc xs)) xs.length with
   | some p=>(p,31)
   | none=>if 256<qIk xs (qBc xs) xs.length then (0,32) else (0,0)
theorem yRo (xs:List In):qPa xs=qCh xs:=by
 unfold qPa qCh
 split
 ·rfl
 split
 ·rfl
 rcases qJa (qEb xs) xs.length with ⟨c,f⟩|⟨k,c,_⟩
 ·rw [c];have a:qFr xs:=f
  dsimp only
  rw [yCr a]
  rcases qJa (qFu xs (qBc xs)) xs.length with ⟨b,i⟩|⟨k,b,_⟩
  ·have d:qEd [] (qAk xs)=none:=by rw [yCr a,b];rfl
   rw [b,qTo (q:=qIa xs (qAk xs)) (fun j g=>yVk a d g)]
   dsimp only [Option.map]
   cases first (qIa xs (qAk xs)) xs.length with
   | some p=>rfl
   | none =>
    dsimp only
    have:=ySy a (Nat.le_refl _)
    by_cases hx:qFy (qAk xs) xs.length<=256
    ·rw [if_neg (by omega),if_neg (by omega)]
    ·rw [if_pos (by omega),if_pos (by omega)]
  ·rw [b];rfl
 ·rw [c]
theorem yXf (op d a b c:Int)(w:World)(g:(b==8)=true):Cl 148 #[Shape.v ⟨true,false,true,0,0,0,0⟩,qAl op d a b c] w fun e f=>e=.returned (qAl op d 0 b c)/\Bw w f:=by
 go_enter Tryz.func148,Tryz.ntmps148;go_wp2
 go_returns
 exact ⟨rfl,by go_grown⟩
theorem yUm (op d a b c:Int)(w:World)(g:(b==8)=false):Cl 148 #[Shape.v ⟨true,false,true,0,0,0,0⟩,qAl op d a b c] w fun e f=>e=.returned (qAl op d 0 b 0)/\Bw w f:=by
 go_enter Tryz.func148,Tryz.ntmps148;go_wp2
 go_returns
 exact ⟨rfl,by go_grown⟩
theorem yWy (op d a b c:Int)(w:World)(g:(b==8)=true):Cl 148 #[Shape.v ⟨true,true,true,0,0,0,0⟩,qAl op d a b c] w fun e f=>e=.returned (qAl op d a b c)/\Bw w f:=by
 go_enter Tryz.func148,Tryz.ntmps148;go_wp2
 go_returns
 exact ⟨rfl,by go_grown⟩
theorem yUs (op d a b c:Int)(w:World)(g:(b==8)=false):Cl 148 #[Shape.v ⟨true,true,true,0,0,0,0⟩,qAl op d a b c] w fun e f=>e=.returned (qAl op d a b 0)/\Bw w f:=by
 go_enter Tryz.func148,Tryz.ntmps148;go_wp2
 go_returns
 exact ⟨rfl,by go_grown⟩
theorem yRz (op d a b c:Int)(w:World)(g:(b==8)=true):Cl 148 #[Shape.v ⟨false,true,true,0,0,0,0⟩,qAl op d a b c] w fun e f=>e=.returned (qAl op 0 a b c)/\Bw w f:=by
 go_enter Tryz.func148,Tryz.ntmps148;go_wp2
 go_returns
 exact ⟨rfl,by go_grown⟩
theorem yVo (op d a b c:Int)(w:World)(g:(b==8)=false):Cl 148 #[Shape.v ⟨false,true,true,0,0,0,0⟩,qAl op d a b c] w fun e f=>e=.returned (qAl op 0 a b 0)/\Bw w f:=by
 go_enter Tryz.func148,Tryz.ntmps148;go_wp2
 go_returns
 exact ⟨rfl,by go_grown⟩
theorem yZx (op d a b c:Int)(w:World):Cl 148 #[Shape.v ⟨true,false,false,0,0,0,1⟩,qAl op d a b c] w fun e f=>e=.returned (qAl op d 0 0 c)/\Bw w f:=by
 go_enter Tryz.func148,Tryz.ntmps148;go_wp2
 go_returns
 exact ⟨rfl,by go_grown⟩
theorem xAj (op d a b c:Int)(w:World):Cl 148 #[Shape.v ⟨true,false,false,0,0,0,3⟩,qAl op d a b c] w fun e f=>e=.returned (qAl op d 0 0 c)/\Bw w f:=by
 go_enter Tryz.func148,Tryz.ntmps148;go_wp2
 go_returns
 exact ⟨rfl,by go_grown⟩
theorem yZc (op d a b c:Int)(w:World):Cl 148 #[Shape.v ⟨false,false,false,0,63,0,0⟩,qAl op d a b c] w fun e f=>e=.returned (qAl op d 0 0 0)/\Bw w f:=by
 go_enter Tryz.func148,Tryz.ntmps148;go_wp2
 go_returns
 exact ⟨rfl,by go_grown⟩
theorem yRw (op d a b c:Int)(w:World)(g:(b==8)=true):Cl 148 #[Shape.v ⟨false,true,true,0,63,0,0⟩,qAl op d a b c] w fun e f=>e=.returned (qAl op d a b c)/\Bw w f:=by
 go_enter Tryz.func148,Tryz.ntmps148;go_wp2
 go_returns
 exact ⟨rfl,by go_grown⟩
theorem yVf (op d a b c:Int)(w:World)(g:(b==8)=false):Cl 148 #[Shape.v ⟨false,true,true,0,63,0,0⟩,qAl op d a b c] w fun e f=>e=.returned (qAl op d a b 0)/\Bw w f:=by
 go_enter Tryz.func148,Tryz.ntmps148;go_wp2
 go_returns
 exact ⟨rfl,by go_grown⟩
theorem xAv (op d a b c:Int)(w:World):Cl 148 #[Shape.v ⟨false,true,false,1,63,1,255⟩,qAl op d a b c] w fun e f=>e=.returned (qAl op d a 0 c)/\Bw w f:=by
 go_enter Tryz.func148,Tryz.ntmps148;go_wp2
 go_returns
 exact ⟨rfl,by go_grown⟩
theorem xAk (op d a b c:Int)(w:World):Cl 148 #[Shape.v ⟨false,false,false,0,0,0,6⟩,qAl op d a b c] w fun e f=>e=.returned (qAl op 0 0 0 c)/\Bw w f:=by
 go_enter Tryz.func148,Tryz.ntmps148;go_wp2
 go_returns
 exact ⟨rfl,by go_grown⟩
theorem xAq (op d a b c:Int)(w:World):Cl 148 #[Shape.v ⟨false,true,false,0,0,0,0⟩,qAl op d a b c] w fun e f=>e=.returned (qAl op 0 a 0 0)/\Bw w f:=by
 go_enter Tryz.func148,Tryz.ntmps148;go_wp2
 go_returns
 exact ⟨rfl,by go_grown⟩
theorem xAp {op:Int}(h:(qAx op).zero=false):0<=op/\op<=22:=by
 by_cases hx:op<0∨22<op
 ·rw [qTf hx] at h;cases h
 ·omega
theorem qUb {op:Int}(h:0<=op/\op<=22):(op=0∨op=11)∨(1<=op/\op<=10)∨op=12∨op=13∨op=14∨op=15∨(16<=op/\op<=19)∨op=20∨op=21∨op=22:=by omega
theorem yKu {op d a b f:Int}(h:(qAx op).zero=true):qAq op d a b f=false:=by
 by_cases hx:op<0∨22<op
 ·exact qOx hx
 ·exfalso
  rcases qUb (op:=op) (by omega) with c|c|rfl|rfl|rfl|rfl|c|rfl|rfl|rfl
  ·rw [qWs c] at h;cases h
  ·rw [qWo c] at h;cases h
  ·cases h
  ·cases h
  ·cases h
  ·cases h
  ·rw [qWw c] at h;cases h
  ·cases h
  ·cases h
  ·cases h
theorem yOu (op d a b c:Int)(w:World)(k:0<=op/\op<=22):Cl 148 #[(qAx op).v,qAl op d a b c] w fun e l =>
  ∃ j:In,e=.returned j.v/\Bw w l/\qAq op d a b c=(!neI ⟨op,d,a,b,c⟩ j&&qBs (qAx op).dest (qAx op).source (qAx op).farL (qAx op).farM (qAx op).immL (qAx op).immM d a b c):=by
 rcases qUb k with g|g|rfl|rfl|rfl|rfl|g|rfl|rfl|rfl
 ·rw [qWs g]
  cases h8:(b==8)
  ·exact ((yUm op d a b c w h8).mono fun e i ⟨he,f⟩=>⟨⟨op,d,0,b,0⟩,he,f,by rw [yGh g];simp [neI,h8]⟩)
  ·exact ((yXf op d a b c w h8).mono fun e i ⟨he,f⟩=>⟨⟨op,d,0,b,c⟩,he,f,by rw [yGh g];simp [neI,h8]⟩)
 ·rw [qWo g]
  cases h8:(b==8)
  ·exact ((yUs op d a b c w h8).mono fun e i ⟨he,f⟩=>⟨⟨op,d,a,b,0⟩,he,f,by rw [yFy g];simp [neI,h8]⟩)
  ·exact ((yWy op d a b c w h8).mono fun e i ⟨he,f⟩=>⟨⟨op,d,a,b,c⟩,he,f,by rw [yFy g];simp [neI,h8]⟩)
 ·skip
  cases h8:(b==8)
  ·exact ((yVo 12 d a b c w h8).mono fun e i ⟨he,f⟩=>⟨⟨12,0,a,b,0⟩,he,f,by refine (yGc).trans ?_;simp [neI,h8];rfl⟩)
  ·exact ((yRz 12 d a b c w h8).mono fun e i ⟨he,f⟩=>⟨⟨12,0,a,b,c⟩,he,f,by refine (yGc).trans ?_;simp [neI,h8];rfl⟩)
 ·exact ((yZx 13 d a b c w).mono fun e i ⟨he,f⟩=>⟨⟨13,d,0,0,c⟩,he,f,by refine (yYo).trans ?_;simp [neI];rfl⟩)
 ·exact ((xAj 14 d a b c w).mono fun e i ⟨he,f⟩=>⟨⟨14,d,0,0,c⟩,he,f,by refine (xAt).trans ?_;simp [neI];rfl⟩)
 ·exact ((yZc 15 d a b c w).mono fun e i ⟨he,f⟩=>⟨⟨15,d,0,0,0⟩,he,f,by refine (yZp).trans ?_;simp [neI];rfl⟩)
 ·rw [qWw g]
  cases h8:(b==8)
  ·exact ((yVf op d a b c w h8).mono fun e i ⟨he,f⟩=>⟨⟨op,d,a,b,0⟩,he,f,by rw [yGk g];simp [neI,h8]⟩)
  ·exact ((yRw op d a b c w h8).mono fun e i ⟨he,f⟩=>⟨⟨op,d,a,b,c⟩,he,f,by rw [yGk g];simp [neI,h8]⟩)
 ·exact ((xAv 20 d a b c w).mono fun e i ⟨he,f⟩=>⟨⟨20,d,a,0,c⟩,he,f,by refine (xAb).trans ?_;simp [neI];rfl⟩)
 ·exact ((xAk 21 d a b c w).mono fun e i ⟨he,f⟩=>⟨⟨21,0,0,0,c⟩,he,f,by refine (yYn).trans ?_;simp [neI];rfl⟩)
 ·exact ((xAq 22 d a b c w).mono fun e i ⟨he,f⟩=>⟨⟨22,0,a,0,0⟩,he,f,by refine (xAr).trans ?_;simp [neI];rfl⟩)
def qDl (p q:Int) (c:Int->Int) (s:Int×Int) (l:Lp):Int×Int :=
 if qBk l q then (s.1*(l.b+1),if qBk l p then (l.b-c l.t)*s.1+s.2 else if p<=q then s.1*(l.b+1) else 0) else s
def qEf (p q:Int) (c:Int->Int) (ls:List Lp) (s:Int×Int):Int×Int:=ls.foldl (qDl p q c) s
def qKi (p q:Int) (c:Int->Int) (ls:List Lp):Int:=(qEf p q c ls (1,if p<=q then 1 else 0)).2
def Cnt (ls:List Lp) (c:Int->Int):Prop:=∀ l∈ls,0<=c l.t/\c l.t<=l.b
theorem qTa (p q:Int)(c:Int->Int):∀ (ls:List Lp) (s:Int×Int),(qEf p q c ls s).1=qIe q ls s.1
 | [],s=>rfl
 | l :: r,s=>by
  show (qEf p q c r (qDl p q c s l)).1=_
  rw [qTa p q c r,qIe];unfold qDl
  split<;>rfl
theorem qVp {b c P:Int}(h0:0<=c)(g:c<=b)(a:1<=P):0<=(b-c)*P/\(b-c)*P+P<=P*(b+1):=by
 have d:0<=(b-c)*P:=Int.mul_nonneg (by omega) (by omega);have k:0<=c*P:=Int.mul_nonneg h0 (by omega);have f:(b-c)*P=b*P-c*P:=Int.sub_mul ..
 have i:P*(b+1)=b*P+P:=by rw [Int.mul_add,Int.mul_comm];omega
 omega
theorem qVc {p q:Int}{c:Int->Int}:∀ {ls:List Lp} {s:Int×Int},Cnt ls c->Bnd ls->1<=s.1->0<=s.2->s.2<=s.1->1<=(qEf p q c ls s).1/\0<=(qEf p q c ls s).2/\(qEf p q c ls s).2<=(qEf p q c ls s).1
 | [],s,_,_,h1,h2,h3=>⟨h1,h2,h3⟩
 | l :: r,s,hc,hb,h1,h2,h3=>by
  have g:Cnt r c:=fun x a=>hc x (by simp [a])
  have d:Bnd r:=fun x a=>hb x (by simp [a])
  have f:=hc l (by simp);have i:=hb l (by simp)
  show 1<=(qEf p q c r (qDl p q c s l)).1/\_
  have hm:=qVp f.1 f.2 h1;have k:=qJi h1 (show 0<=l.b by omega)
  refine qVc g d ?_ ?_ ?_<;>unfold qDl<;>split<;>first|assumption|skip
  ·show 1<=s.1*(l.b+1);omega
  ·show 0<=(if qBk l p then (l.b-c l.t)*s.1+s.2 else if p<=q then s.1*(l.b+1) else 0)
   split
   ·omega
   ·split<;>omega
  ·show (if qBk l p then (l.b-c l.t)*s.1+s.2 else if p<=q then s.1*(l.b+1) else 0)<=s.1*(l.b+1)
   split
   ·omega
   ·split<;>omega
def Fwd (ls:List Lp) (p p':Int) (c c':Int->Int):Prop:=p<p'/\∀ l∈ls,(qBk l p=true->qBk l p'=true->c' l.t=c l.t)/\(qBk l p=true->qBk l p'=false->l.t<p')/\(qBk l p=false->qBk l p'=true->p'=l.h)
theorem qLx {p p' q:Int}{c c':Int->Int}{d:Int}(n:d=0∨(d=1/\q=p)):∀ {ls:List Lp} {s s':Int×Int},Fwd ls p p' c c'->Cnt ls c->Cnt ls c'->Bnd ls->s'.1=s.1->1<=s.1->0<=s.2->s.2<=s.1->0<=s'.2->s'.2<=s.1->s'.2+d<=s.2 ->
  (qEf p' q c' ls s').2+d<=(qEf p q c ls s).2
 | [],s,s',_,_,_,_,_,_,_,_,_,_,h=>h
 | l :: r,s,s',hf,hc,hc',hb,he,h1,h2,h3,h4,h5,h6=>by
  have i:Fwd r p p' c c':=⟨hf.1,fun x k=>hf.2 x (by simp [k])⟩
  have g:Cnt r c:=fun x k=>hc x (by simp [k])
  have a:Cnt r c':=fun x k=>hc' x (by simp [k])
  have f:Bnd r:=fun x k=>hb x (by simp [k])
  have B:=hc l (by simp);have u:=hc' l (by simp);have I:=hb l (by simp);obtain ⟨E,G,D⟩:=hf.2 l (by simp);have J:=hf.1;have hm:=qVp B.1 B.2 h1;have L:=qVp u.1 u.2 h1;have M:=qJi h1 (show 0<=l.b by omega)
  show (qEf p' q c' r (qDl p' q c' s' l)).2+d<=(qEf p q c r (qDl p q c s l)).2
  cases hq:qBk l q
  ·have y:qDl p' q c' s' l=s':=by unfold qDl;rw [hq];rfl
   have w:qDl p q c s l=s:=by unfold qDl;rw [hq];rfl
   rw [y,w];exact qLx n i g a f he h1 h2 h3 h4 h5 h6
  ·have y:qDl p' q c' s' l=(s.1*(l.b+1),if qBk l p' then (l.b-c' l.t)*s.1+s'.2 else if p'<=q then s.1*(l.b+1) else 0):=by unfold qDl;rw [hq,he];rfl
   have w:qDl p q c s l=(s.1*(l.b+1),if qBk l p then (l.b-c l.t)*s.1+s.2 else if p<=q then s.1*(l.b+1) else 0):=by unfold qDl;rw [hq];rfl
   rw [y,w];have K:=within_iff.1 hq
   cases hp:qBk l p<;>cases hp':qBk l p'
   ·have z:d=0:=by
     rcases n with h|⟨_,h⟩
     ·exact h
     ·subst h;rw [hq] at hp;cases hp
    refine qLx n i g a f rfl ?_ ?_ ?_ ?_ ?_ ?_<;>simp<;>(try split)<;>(try split)<;>omega
   ·have F:=D hp hp'
    have z:d=0:=by
     rcases n with h|⟨_,h⟩
     ·exact h
     ·subst h;rw [hq] at hp;cases hp
    have o:p<=q:=by omega
    refine qLx n i g a f rfl ?_ ?_ ?_ ?_ ?_ ?_<;>simp [o]<;>omega
   ·have F:=G hp hp'
    have o:¬ p'<=q:=by omega
    refine qLx n i g a f rfl ?_ ?_ ?_ ?_ ?_ ?_<;>simp [o]<;>omega
   ·have A:=E hp hp';rw [A]
    refine qLx n i g a f rfl ?_ ?_ ?_ ?_ ?_ ?_<;>simp<;>omega
theorem yWb {p p' q:Int}{c c':Int->Int}{ls:List Lp}(b:Fwd ls p p' c c')(f:Cnt ls c)(a:Cnt ls c')(d:Bnd ls):qKi p' q c' ls+(if q=p then 1 else 0)<=qKi p q c ls:=by
 have g:=b.1;unfold qKi
 by_cases hqp:q=p
 ·rw [if_pos hqp]
  refine qLx (.inr ⟨rfl,hqp⟩) b f a d rfl (by simp) ?_ ?_ ?_ ?_ ?_<;>simp<;>(try split)<;>(try split)<;>omega
 ·rw [if_neg hqp]
  refine qLx (.inl rfl) b f a d rfl (by simp) ?_ ?_ ?_ ?_ ?_<;>simp<;>(try split)<;>(try split)<;>omega
theorem yDy {p p' q:Int}{c c':Int->Int}(b:p<=q↔p'<=q):∀ {ls:List Lp} {s:Int×Int},(∀ l∈ls,qBk l q=true->qBk l p'=qBk l p/\c' l.t=c l.t)->qEf p' q c' ls s=qEf p q c ls s
 | [],s,_=>rfl
 | l :: r,s,h=>by
  have d:∀ l∈r,qBk l q=true->qBk l p'=qBk l p/\c' l.t=c l.t:=fun x a=>h x (by simp [a])
  show qEf p' q c' r (qDl p' q c' s l)=qEf p q c r (qDl p q c s l)
  have e:qDl p' q c' s l=qDl p q c s l:=by
   unfold qDl
   cases hq:qBk l q
   ·rfl
   ·obtain ⟨f,g⟩:=h l (by simp) hq;rw [f,g]
    by_cases a:p<=q
    ·rw [if_pos a,if_pos (b.1 a)]
    ·rw [if_neg a,if_neg (fun y=>a (b.2 y))]
  rw [e];exact yDy b d
theorem qUh {p p' q:Int}{c c':Int->Int}{d:Int}:∀ {ls:List Lp} {s s':Int×Int},(∀ l∈ls,qBk l q=true->qBk l p'=true/\qBk l p=true/\c' l.t=c l.t)->s'.1=s.1->s'.2+d<=s.2->(qEf p' q c' ls s').2+d<=(qEf p q c ls s).2
 | [],s,s',_,_,h=>h
 | l :: r,s,s',h,he,h6=>by
  have g:∀ l∈r,qBk l q=true->qBk l p'=true/\qBk l p=true/\c' l.t=c l.t:=fun x k=>h x (by simp [k])
  show (qEf p' q c' r (qDl p' q c' s' l)).2+d<=(qEf p q c r (qDl p q c s l)).2
  cases hq:qBk l q
  ·have a:qDl p' q c' s' l=s':=by unfold qDl;rw [hq];rfl
   have f:qDl p q c s l=s:=by unfold qDl;rw [hq];rfl
   rw [a,f];exact qUh g he h6
  ·obtain ⟨n,o,i⟩:=h l (by simp) hq
   have a:qDl p' q c' s' l=(s.1*(l.b+1),(l.b-c l.t)*s.1+s'.2):=by unfold qDl;rw [hq,n,i,he];rfl
   have f:qDl p q c s l=(s.1*(l.b+1),(l.b-c l.t)*s.1+s.2):=by unfold qDl;rw [hq,o];rfl
   rw [a,f];exact qUh g rfl (by show _+_+d<=_;omega)
theorem yFw {p q:Int}{c:Int->Int}:∀ {ls:List Lp} {s:Int×Int},(∀ l∈ls,qBk l p=false)->s.2=(if p<=q then s.1 else 0)->(qEf p q c ls s).2=(if p<=q then (qEf p q c ls s).1 else 0)
 | [],s,_,h=>h
 | l :: r,s,h,hs=>by
  have b:∀ l∈r,qBk l p=false:=fun x a=>h x (by simp [a])
  show (qEf p q c r (qDl p q c s l)).2=(if p<=q then (qEf p q c r (qDl p q c s l)).1 else 0)
  refine yFw b ?_;unfold qDl;rw [h l (by simp)]
  cases hq:qBk l q
  ·exact hs
  ·rfl
theorem yDe (p q:Int)(c:Int->Int)(A B:List Lp)(s:Int×Int):qEf p q c (A++B) s=qEf p q c B (qEf p q c A s):=List.foldl_append
theorem yRt {q:Int}{c c':Int->Int}{A B:List Lp}{L:Lp}(D:Cnt (A++L :: B) c)(n:Cnt (A++L :: B) c')(N:Bnd (A++L :: B))(hh:L.h<L.t)(hA:∀ l∈A,l.t<L.t)(E:∀ l∈B,L.t<l.t)(M:∀ l∈A,¬ (l.h<L.h/\L.h<=l.t))(G:∀ l∈B,¬ (L.h<l.h/\l.h<=L.t))(o:∀ t,t≠L.t->c' t=c t)(S:c' L.t=c L.t+1):qKi L.h q c' (A++L :: B)+(if q=L.t then 1 else 0)<=qKi L.t q c (A++L :: B):=by
 cases hq:qBk L q
 ·have K:=within_no.1 hq
  have w:q≠L.t:=by omega
  rw [if_neg w]
  have i:L.t<=q↔L.h<=q:=by omega
  unfold qKi
  have e:(if L.h<=q then (1:Int) else 0)=if L.t<=q then 1 else 0:=by
   by_cases hx:L.t<=q
   ·rw [if_pos hx,if_pos (i.1 hx)]
   ·rw [if_neg hx,if_neg (fun y=>hx (i.2 y))]
  rw [e,yDy (p:=L.t) (p':=L.h) (c:=c) (c':=c') i]
  ·omega
  intro l f g;have u:=within_iff.1 g
  have r:l∈A∨l=L∨l∈B:=by simpa using f
  rcases r with h|rfl|h
  ·have I:=hA l h;have F:=M l h;have Q:qBk l L.t=false:=within_no.2 (by omega);have V:qBk l L.h=false:=within_no.2 (by omega);exact ⟨by rw [Q,V],o _ (by omega)⟩
  ·rw [hq] at g;cases g
  ·have I:=E l h;have F:=G l h;refine ⟨?_,o _ (by omega)⟩
   by_cases hx:l.h<=L.h
   ·rw [within_iff.2 (by omega),within_iff.2 (by omega)]
   ·rw [within_no.2 (by omega),within_no.2 (by omega)]
 ·have K:=within_iff.1 hq
  have T:Cnt A c':=fun l f=>n l (by simp [f])
  have z:Cnt A c:=fun l f=>D l (by simp [f])
  have J:Bnd A:=fun l f=>N l (by simp [f])
  have Z:=D L (by simp);have Y:=n L (by simp);unfold qKi;rw [yDe,yDe];have hb1:=qVc (p:=L.h) (q:=q) (s:=(1,if L.h<=q then 1 else 0)) T J (by simp) (by simp;split<;>omega) (by simp;split<;>omega);have hb0:=qVc (p:=L.t) (q:=q) (s:=(1,if L.t<=q then 1 else 0)) z J (by simp) (by simp;split<;>omega) (by simp;split<;>omega);have ho:=yFw (p:=L.t) (q:=q) (c:=c) (ls:=A) (s:=(1,if L.t<=q then 1 else 0)) (fun l f=>within_no.2 (by have:=hA l f;omega)) rfl
  have hP:(qEf L.h q c' A (1,if L.h<=q then 1 else 0)).1=(qEf L.t q c A (1,if L.t<=q then 1 else 0)).1:=by rw [qTa,qTa]
  generalize qEf L.h q c' A (1,if L.h<=q then 1 else 0)=s' at hb1 hP ⊢
  generalize qEf L.t q c A (1,if L.t<=q then 1 else 0)=s at hb0 ho hP ⊢
  obtain ⟨a,k⟩:=s';obtain ⟨P,R⟩:=s;simp only at hb1 hb0 ho hP;subst hP
  have X:qDl L.h q c' (a,k) L=(a*(L.b+1),(L.b-c' L.t)*a+k):=by unfold qDl;rw [hq,within_iff.2 (show L.h<=L.h/\L.h<=L.t by omega)];rfl
  have O:qDl L.t q c (a,R) L=(a*(L.b+1),(L.b-c L.t)*a+R):=by unfold qDl;rw [hq,within_iff.2 (show L.h<=L.t/\L.t<=L.t by omega)];rfl
  show (qEf L.h q c' B (qDl L.h q c' (a,k) L)).2+_<=(qEf L.t q c B (qDl L.t q c (a,R) L)).2
  rw [X,O]
  have U:(L.b-c' L.t)*a=(L.b-c L.t)*a-a:=by rw [S,show L.b-(c L.t+1)=(L.b-c L.t)-1 by omega,Int.sub_mul,Int.one_mul]
  refine qUh (d:=if q=L.t then 1 else 0) ?_ rfl ?_
  ·intro l f g;have u:=within_iff.1 g;have I:=E l f;have F:=G l f;exact ⟨within_iff.2 (by omega),within_iff.2 (by omega),o _ (by omega)⟩
  ·show (L.b-c' L.t)*a+k+_<=(L.b-c L.t)*a+R
   rw [U]
   by_cases hx:q=L.t
   ·rw [if_pos hx];rw [if_pos (by omega)] at ho
    omega
   ·rw [if_neg hx]
    omega
def left (ls:List Lp) (p:Int) (c:Int->Int):Nat->Int
 | 0=>0
 | n+1=>left ls p c n+qKi p n c ls
theorem yMl {ls:List Lp}{p p':Int}{c c':Int->Int}(h:∀ q:Nat,qKi p' q c' ls+(if (q:Int)=p then 1 else 0)<=qKi p q c ls)(n:Nat):left ls p' c' n+(if 0<=p/\p<n then 1 else 0)<=left ls p c n:=by
 induction n with
 | zero=>simp [left];omega
 | succ n ih =>
  rw [left,left];have a:=h n
  by_cases h2:(n:Int)=p
  ·rw [if_pos h2] at a;rw [if_pos (by omega)]
   split at ih<;>omega
  ·rw [if_neg h2] at a
   by_cases h3:0<=p/\p<n
   ·rw [if_pos h3] at ih;rw [if_pos (by omega)];omega
   ·rw [if_neg h3] at ih;rw [if_neg (by omega)];omega
theorem qWr {ls:List Lp}{p q:Int}{c:Int->Int}(b:Cnt ls c)(a:Bnd ls):0<=qKi p q c ls/\qKi p q c ls<=qIe q ls 1:=by
 have h:=qVc (p:=p) (q:=q) (s:=(1,if p<=q then 1 else 0)) b a (by simp) (by simp;split<;>omega) (by simp;split<;>omega);rw [qTa] at h;exact h.2
theorem yNy {ls:List Lp}{p:Int}{c:Int->Int}(b:Cnt ls c)(a:Bnd ls)(n:Nat):left ls p c n<=qMe ls n:=by
 induction n with
 | zero=>simp [left,qMe]
 | succ n ih=>rw [left,qMe];have:=qWr (p:=p) (q:=n) b a;omega
theorem yFx {p:Int}{c:Int->Int}:∀ {ls:List Lp} {s:Int×Int},Cnt ls c->Bnd ls->1<=s.1->1<=s.2->1<=(qEf p p c ls s).2
 | [],s,_,_,_,h=>h
 | l :: r,s,hc,hb,h1,h2=>by
  have d:=hc l (by simp);have f:=hb l (by simp)
  show 1<=(qEf p p c r (qDl p p c s l)).2
  have hm:=qVp d.1 d.2 h1;have g:=qJi h1 (show 0<=l.b by omega)
  refine yFx (fun x a=>hc x (by simp [a])) (fun x a=>hb x (by simp [a])) ?_ ?_<;>unfold qDl<;>cases hq:qBk l p<;>simp<;>omega
theorem yVc {ls:List Lp}{c:Int->Int}(b:Cnt ls c)(a:Bnd ls)(p n:Nat)(i:p<n):1<=left ls p c n:=by
 have d:∀ m,0<=left ls p c m:=by
  intro m
  induction m with
  | zero=>simp [left]
  | succ m ih=>rw [left];have:=qWr (p:=p) (q:=m) b a;omega
 induction n with
 | zero=>omega
 | succ n ih =>
  rw [left]
  by_cases h:p=n
  ·subst h;have f:=d p;have g:1<=qKi p p c ls:=yFx b a (by simp) (by simp)
   omega
  ·have f:=ih (by omega);have g:=qWr (p:=p) (q:=n) b a
   omega
theorem qQh {xs:List In}(T:Taken xs){k:Nat}{k':Int}{c c':Int->Int}(D:k<xs.length)(u:Cnt (qAk xs) c)(L:∀ t:Int,t≠k->c' t=c t)(h:(k'=k+1/\((nth xs k).op=20->c' k=0)/\(nth xs k).on=true)∨(k'=k+(nth xs k).far/\(nth xs k).leads=true/\(nth xs k).op≠20)∨(k'=k+(nth xs k).far/\(nth xs k).op=20/\c k<(nth xs k).imm/\c' k=c k+1)) :
  Cnt (qAk xs) c'/\0<=k'/\k'<xs.length/\left (qAk xs) k' c' xs.length+1<=left (qAk xs) k c xs.length:=by
 have F:qFr xs:=T.place;have y:=qJl F;obtain ⟨hr,g0,g1,U⟩:=qEl D (T.place k D);have Y:=qBf (nth xs k)
 have E:∀ l∈qAk xs,l.t=k->(nth xs k).op=20/\l=qBm xs k:=by
  intro l a w;obtain ⟨j,hj,f,rfl⟩:=loopsU_mem.1 a;simp only [qBm] at w
  obtain rfl:j=k:=by omega
  exact ⟨f,rfl⟩
 have i:Cnt (qAk xs) c':=by
  intro l a
  by_cases w:l.t=k
  ·obtain ⟨f,rfl⟩:=E l a w;have d:=u _ a;have b:=y _ a;simp only [qBm] at d b ⊢
   rcases h with ⟨_,h,_⟩|⟨_,_,h⟩|⟨_,_,n,z⟩
   ·have:=h f;omega
   ·exact absurd f h
   ·omega
  ·rw [L _ w];exact u l a
 refine ⟨i,?_⟩
 have g:(0<=k'/\k'<xs.length)/\∀ q:Nat,qKi k' q c' (qAk xs)+(if (q:Int)=k then 1 else 0)<=qKi k q c (qAk xs):=by
  by_cases hback:k'=k+(nth xs k).far/\(nth xs k).op=20/\c k<(nth xs k).imm/\c' k=c k+1
  ·obtain ⟨N,f,n,z⟩:=hback;refine ⟨by omega,fun q=>?_⟩;have s:qBm xs k∈qAk xs:=loopsU_mem.2 ⟨k,D,f,rfl⟩;obtain ⟨A,B,r⟩:=List.append_of_mem s;have o:=qRb xs xs.length;rw [show qBt xs xs.length=qAk xs from rfl,r,List.pairwise_append] at o;obtain ⟨s1,R,V⟩:=o
   have G:∀ l∈A,l.t<(qBm xs k).t:=fun l a=>V l a _ (by simp)
   have J:∀ l∈B,(qBm xs k).t<l.t:=fun l a=>(List.pairwise_cons.1 R).1 l a
   have I:=T.cross
   have P:∀ l∈A,¬ (l.h<(qBm xs k).h/\(qBm xs k).h<=l.t):=fun l a hx=>by
    have h:=qMb _ _ I A B [] (qBm xs k) r l (by simpa using a);have h':=G l a;rw [(enters_iff (l:=l)).2 (by omega)] at h
    cases h
   have Z:∀ l∈B,¬ ((qBm xs k).h<l.h/\l.h<=(qBm xs k).t):=fun l a hx=>by
    obtain ⟨Q,B2,rfl⟩:=List.append_of_mem a;have h:=qMb _ _ I (A++qBm xs k :: Q) B2 [] l (by rw [r];simp) (qBm xs k) (by simp);have h':=J l a;rw [(enters_iff (l:=qBm xs k)).2 (by omega)] at h
    cases h
   have e1:k'=(qBm xs k).h:=N;have S:(k:Int)=(qBm xs k).t:=rfl
   have O:(qBm xs k).h<(qBm xs k).t:=by obtain ⟨_,_,_,_,_,h,_⟩:=qKr F s;exact h
   rw [r] at u i y ⊢;rw [e1,S];exact yRt u i y O G J P Z L z
  ·have K:k<k'/\k'<xs.length/\((k'=k+1)∨((nth xs k).leads=true/\k'=k+(nth xs k).far/\(nth xs k).op≠20)):=by
    rcases h with ⟨d,b,n⟩|⟨d,b,n⟩|h
    ·have:=U n;omega
    ·refine ⟨?_,by omega,.inr ⟨b,d,n⟩⟩
     rcases Y with h|h|h|h
     ·rw [h.2.2.1] at b;cases b
     ·omega
     ·exact absurd h.2.1 n
     ·rw [h.2.2.2.1] at b;cases b
    ·exact absurd h hback
   refine ⟨by omega,fun q=>yWb ⟨K.1,fun l a=>⟨fun d b=>?_,fun d b=>?_,fun d b=>?_⟩⟩ u i y⟩
   ·rw [within_iff] at d b
    refine L _ fun w=>?_
    omega
   ·rw [within_iff] at d;rw [within_no] at b
    omega
   ·rw [within_no] at d;rw [within_iff] at b
    rcases K.2.2 with n|⟨n,z,_⟩
    ·omega
    ·have M:=T.intr k D;unfold qIa at M;rw [n,Bool.true_and,List.any_eq_false] at M;have X:=M l a;rw [enters_iff,<- z] at X
     omega
 refine ⟨g.1.1,g.1.2,?_⟩;have:=yMl g.2 xs.length;rw [if_pos (by omega)] at this;exact this
end Go.Proofs.YtmdhljoicnommaaGreat
