/-
  O2Small
  O2Fits
  O2Plain
  F7Plain
  F7RPlain
  O2Named
  O2Like
  F7Way
-/
import Derived.Test.YtmdhljoicnommaaGreatMS7
import Derived.Handy
namespace Go.Proofs.YtmdhljoicnommaaGreat
set_option maxHeartbeats 12800000
open Go.RowKit
set_option linter.unusedVariables false
set_option maxHeartbeats 800000
set_option linter.unusedSimpArgs false
theorem qBk (n:Int)(w:World):Cl 162 #[I4 n] w fun e a=>e=.returned (.bool (regB n))/\w=a:=by
 unfold regB
 by_cases h:0<=n
 ·go_enter Tryz.func162,Tryz.ntmps162;go_wp2;go_ret;exact ⟨r2b (by simp [h];omega),rfl⟩
 ·go_enter Tryz.func162,Tryz.ntmps162;go_wp2;go_ret;exact ⟨r2b (by simp;omega),rfl⟩

abbrev boundsV (l m:Int):Value:=.agg #[.int .i64 l,.int .i64 m]
abbrev boundsO (l m:Int):Obj:=.cells #[.int .i64 l,.int .i64 m] 212
def hasB (l m n:Int):Bool:=decide (l<=n)&&decide (n<=m)
theorem has_any (l m n:Int)(w:World):Cl 163 #[boundsV l m,I4 n] w fun e a=>e=.returned (.bool (hasB l m n))/\w.alloc (boundsO l m)=a:=by
 unfold hasB
 by_cases h:l<=n
 ·go_enter Tryz.func163,Tryz.ntmps163;go_wp2;go_ret;exact ⟨r2b (by simp [h]),rfl⟩
 ·go_enter Tryz.func163,Tryz.ntmps163;go_wp2;go_ret;exact ⟨r2b (by simp;omega),rfl⟩

structure Shape where
 dest:Bool
 first:Bool
 source:Bool
 farL:Int
 farM:Int
 immL:Int
 immM:Int
abbrev Shape.v (s:Shape):Value:=.agg #[.bool s.dest,.bool s.first,.bool s.source,.int .i64 s.farL,.int .i64 s.farM,.int .i64 s.immL,.int .i64 s.immM]
def shapeL (op:Int):Shape :=
 if op=0∨op=11 then ⟨true,false,true,0,0,0,0⟩
 else if 1<=op/\op<=10 then ⟨true,true,true,0,0,0,0⟩
 else if op=12 then ⟨false,true,true,0,0,0,0⟩
 else if op=13 then ⟨true,false,false,0,0,0,1⟩
 else if op=14 then ⟨true,false,false,0,0,0,3⟩
 else if op=15 then ⟨false,false,false,0,63,0,0⟩
 else if 16<=op/\op<=19 then ⟨false,true,true,0,63,0,0⟩
 else if op=20 then ⟨false,true,false,1,63,1,255⟩
 else if op=21 then ⟨false,false,false,0,0,0,6⟩
 else if op=22 then ⟨false,true,false,0,0,0,0⟩
 else ⟨false,false,false,0,0,0,0⟩

theorem shapeOf_0 (w:World):Cl 132 #[I4 0] w fun e a=>e=.returned (shapeL 0).v/\Bw w a:=by
 go_enter Tryz.func132,Tryz.ntmps132;go_wp2
 go_returns
 exact ⟨rfl,by go_grown⟩
theorem shapeOf_1 (w:World):Cl 132 #[I4 1] w fun e a=>e=.returned (shapeL 1).v/\Bw w a:=by
 go_enter Tryz.func132,Tryz.ntmps132;go_wp2
 go_returns
 exact ⟨rfl,by go_grown⟩
theorem shapeOf_2 (w:World):Cl 132 #[I4 2] w fun e a=>e=.returned (shapeL 2).v/\Bw w a:=by
 go_enter Tryz.func132,Tryz.ntmps132;go_wp2
 go_returns
 exact ⟨rfl,by go_grown⟩
theorem shapeOf_3 (w:World):Cl 132 #[I4 3] w fun e a=>e=.returned (shapeL 3).v/\Bw w a:=by
 go_enter Tryz.func132,Tryz.ntmps132;go_wp2
 go_returns
 exact ⟨rfl,by go_grown⟩
theorem shapeOf_4 (w:World):Cl 132 #[I4 4] w fun e a=>e=.returned (shapeL 4).v/\Bw w a:=by
 go_enter Tryz.func132,Tryz.ntmps132;go_wp2
 go_returns
 exact ⟨rfl,by go_grown⟩
theorem shapeOf_5 (w:World):Cl 132 #[I4 5] w fun e a=>e=.returned (shapeL 5).v/\Bw w a:=by
 go_enter Tryz.func132,Tryz.ntmps132;go_wp2
 go_returns
 exact ⟨rfl,by go_grown⟩
theorem shapeOf_6 (w:World):Cl 132 #[I4 6] w fun e a=>e=.returned (shapeL 6).v/\Bw w a:=by
 go_enter Tryz.func132,Tryz.ntmps132;go_wp2
 go_returns
 exact ⟨rfl,by go_grown⟩
theorem shapeOf_7 (w:World):Cl 132 #[I4 7] w fun e a=>e=.returned (shapeL 7).v/\Bw w a:=by
 go_enter Tryz.func132,Tryz.ntmps132;go_wp2
 go_returns
 exact ⟨rfl,by go_grown⟩
theorem shapeOf_8 (w:World):Cl 132 #[I4 8] w fun e a=>e=.returned (shapeL 8).v/\Bw w a:=by
 go_enter Tryz.func132,Tryz.ntmps132;go_wp2
 go_returns
 exact ⟨rfl,by go_grown⟩
theorem shapeOf_9 (w:World):Cl 132 #[I4 9] w fun e a=>e=.returned (shapeL 9).v/\Bw w a:=by
 go_enter Tryz.func132,Tryz.ntmps132;go_wp2
 go_returns
 exact ⟨rfl,by go_grown⟩
theorem shapeOf_10 (w:World):Cl 132 #[I4 10] w fun e a=>e=.returned (shapeL 10).v/\Bw w a:=by
 go_enter Tryz.func132,Tryz.ntmps132;go_wp2
 go_returns
 exact ⟨rfl,by go_grown⟩
theorem shapeOf_11 (w:World):Cl 132 #[I4 11] w fun e a=>e=.returned (shapeL 11).v/\Bw w a:=by
 go_enter Tryz.func132,Tryz.ntmps132;go_wp2
 go_returns
 exact ⟨rfl,by go_grown⟩
theorem shapeOf_12 (w:World):Cl 132 #[I4 12] w fun e a=>e=.returned (shapeL 12).v/\Bw w a:=by
 go_enter Tryz.func132,Tryz.ntmps132;go_wp2
 go_returns
 exact ⟨rfl,by go_grown⟩
theorem shapeOf_13 (w:World):Cl 132 #[I4 13] w fun e a=>e=.returned (shapeL 13).v/\Bw w a:=by
 go_enter Tryz.func132,Tryz.ntmps132;go_wp2
 go_returns
 exact ⟨rfl,by go_grown⟩
theorem shapeOf_14 (w:World):Cl 132 #[I4 14] w fun e a=>e=.returned (shapeL 14).v/\Bw w a:=by
 go_enter Tryz.func132,Tryz.ntmps132;go_wp2
 go_returns
 exact ⟨rfl,by go_grown⟩
theorem shapeOf_15 (w:World):Cl 132 #[I4 15] w fun e a=>e=.returned (shapeL 15).v/\Bw w a:=by
 go_enter Tryz.func132,Tryz.ntmps132;go_wp2
 go_returns
 exact ⟨rfl,by go_grown⟩
theorem shapeOf_16 (w:World):Cl 132 #[I4 16] w fun e a=>e=.returned (shapeL 16).v/\Bw w a:=by
 go_enter Tryz.func132,Tryz.ntmps132;go_wp2
 go_returns
 exact ⟨rfl,by go_grown⟩
theorem shapeOf_17 (w:World):Cl 132 #[I4 17] w fun e a=>e=.returned (shapeL 17).v/\Bw w a:=by
 go_enter Tryz.func132,Tryz.ntmps132;go_wp2
 go_returns
 exact ⟨rfl,by go_grown⟩
theorem shapeOf_18 (w:World):Cl 132 #[I4 18] w fun e a=>e=.returned (shapeL 18).v/\Bw w a:=by
 go_enter Tryz.func132,Tryz.ntmps132;go_wp2
 go_returns
 exact ⟨rfl,by go_grown⟩
theorem shapeOf_19 (w:World):Cl 132 #[I4 19] w fun e a=>e=.returned (shapeL 19).v/\Bw w a:=by
 go_enter Tryz.func132,Tryz.ntmps132;go_wp2
 go_returns
 exact ⟨rfl,by go_grown⟩
theorem shapeOf_20 (w:World):Cl 132 #[I4 20] w fun e a=>e=.returned (shapeL 20).v/\Bw w a:=by
 go_enter Tryz.func132,Tryz.ntmps132;go_wp2
 go_returns
 exact ⟨rfl,by go_grown⟩
theorem shapeOf_21 (w:World):Cl 132 #[I4 21] w fun e a=>e=.returned (shapeL 21).v/\Bw w a:=by
 go_enter Tryz.func132,Tryz.ntmps132;go_wp2
 go_returns
 exact ⟨rfl,by go_grown⟩
theorem shapeOf_22 (w:World):Cl 132 #[I4 22] w fun e a=>e=.returned (shapeL 22).v/\Bw w a:=by
 go_enter Tryz.func132,Tryz.ntmps132;go_wp2
 go_returns
 exact ⟨rfl,by go_grown⟩
theorem shapeOf_none (op:Int)(w:World)(h0:(op==0)=false)(D:(op==1)=false)(z:(op==2)=false)(G:(op==3)=false)(A:(op==4)=false)(E:(op==5)=false)(y:(op==6)=false)(F:(op==7)=false)(I:(op==8)=false)(B:(op==9)=false)(i:(op==10)=false)(r:(op==11)=false)(d:(op==12)=false)(c:(op==13)=false)(f:(op==14)=false)(o:(op==15)=false)(k:(op==16)=false)(u:(op==17)=false)(n:(op==18)=false)(l:(op==19)=false)(g:(op==20)=false)(b:(op==21)=false)(s:(op==22)=false):Cl 132 #[I4 op] w fun e a=>e=.returned (Shape.v ⟨false,false,false,0,0,0,0⟩)/\Bw w a:=by
 go_enter Tryz.func132,Tryz.ntmps132;go_wp2
 go_returns
 exact ⟨rfl,by go_grown⟩
theorem shapeL_none {op:Int}(h:op<0∨22<op):shapeL op=⟨false,false,false,0,0,0,0⟩:=by
 unfold shapeL;rw [if_neg (by omega),if_neg (by omega),if_neg (by omega),if_neg (by omega),if_neg (by omega),if_neg (by omega),if_neg (by omega),if_neg (by omega),if_neg (by omega),if_neg (by omega)]
theorem shapeOf_any (op:Int)(w:World):Cl 132 #[I4 op] w fun e a=>e=.returned (shapeL op).v/\Bw w a:=by
 by_cases hx:op<0∨22<op
 ·rw [shapeL_none hx];exact shapeOf_none op w (by simp;omega) (by simp;omega) (by simp;omega) (by simp;omega) (by simp;omega) (by simp;omega) (by simp;omega) (by simp;omega) (by simp;omega) (by simp;omega) (by simp;omega) (by simp;omega) (by simp;omega) (by simp;omega) (by simp;omega) (by simp;omega) (by simp;omega) (by simp;omega) (by simp;omega) (by simp;omega) (by simp;omega) (by simp;omega) (by simp;omega)
 have:op=0∨op=1∨op=2∨op=3∨op=4∨op=5∨op=6∨op=7∨op=8∨op=9∨op=10∨op=11∨op=12∨op=13∨op=14∨op=15∨op=16∨op=17∨op=18∨op=19∨op=20∨op=21∨op=22:=by omega
 rcases this with rfl|rfl|rfl|rfl|rfl|rfl|rfl|rfl|rfl|rfl|rfl|rfl|rfl|rfl|rfl|rfl|rfl|rfl|rfl|rfl|rfl|rfl|rfl
 ·exact shapeOf_0 w
 ·exact shapeOf_1 w
 ·exact shapeOf_2 w
 ·exact shapeOf_3 w
 ·exact shapeOf_4 w
 ·exact shapeOf_5 w
 ·exact shapeOf_6 w
 ·exact shapeOf_7 w
 ·exact shapeOf_8 w
 ·exact shapeOf_9 w
 ·exact shapeOf_10 w
 ·exact shapeOf_11 w
 ·exact shapeOf_12 w
 ·exact shapeOf_13 w
 ·exact shapeOf_14 w
 ·exact shapeOf_15 w
 ·exact shapeOf_16 w
 ·exact shapeOf_17 w
 ·exact shapeOf_18 w
 ·exact shapeOf_19 w
 ·exact shapeOf_20 w
 ·exact shapeOf_21 w
 ·exact shapeOf_22 w
def fitsB (dest source:Bool) (fl fm il im d a b imm:Int):Bool:=(if dest then regB d else hasB fl fm d)&&(regB a&&(regB b||b==8))&&(source||hasB il im imm)

theorem fits_t0 (o i:Bool)(k n g l op d a b c:Int)(w:World)(r:(regB d)=false):Cl 149 #[Shape.v ⟨true,o,i,k,n,g,l⟩,instV op d a b c] w fun e f=>e=.returned (.bool (fitsB true i k n g l d a b c))/\Bw w f:=by
  go_enter Tryz.func149,Tryz.ntmps149
  go_wp2_with (first
   | (go_at_call 162;refine (qBk _ _).mono ?_;rintro e f ⟨rfl,rfl⟩)
   | (go_at_call 163;refine (has_any _ _ _ _).mono ?_;rintro e f ⟨rfl,rfl⟩))
  go_returns
  exact ⟨r2b (by simp [*,fitsB]),by go_grown⟩
theorem fits_t1 (o i:Bool)(l n g k op d a b c:Int)(w:World)(r:(regB d)=true)(s:regB a=false):Cl 149 #[Shape.v ⟨true,o,i,l,n,g,k⟩,instV op d a b c] w fun e f=>e=.returned (.bool (fitsB true i l n g k d a b c))/\Bw w f:=by
  go_enter Tryz.func149,Tryz.ntmps149
  go_wp2_with (first
   | (go_at_call 162;refine (qBk _ _).mono ?_;rintro e f ⟨rfl,rfl⟩)
   | (go_at_call 163;refine (has_any _ _ _ _).mono ?_;rintro e f ⟨rfl,rfl⟩))
  go_returns
  exact ⟨r2b (by simp [*,fitsB]),by go_grown⟩
theorem fits_t2t (n o:Bool)(k l g i op d a b c:Int)(w:World)(s:(regB d)=true)(u:regB a=true)(r:regB b=true):Cl 149 #[Shape.v ⟨true,n,true,k,l,g,i⟩,instV op d a b c] w fun e f=>e=.returned (.bool (fitsB true true k l g i d a b c))/\Bw w f:=by
  go_enter Tryz.func149,Tryz.ntmps149
  go_wp2_with (first
   | (go_at_call 162;refine (qBk _ _).mono ?_;rintro e f ⟨rfl,rfl⟩)
   | (go_at_call 163;refine (has_any _ _ _ _).mono ?_;rintro e f ⟨rfl,rfl⟩))
  go_returns
  exact ⟨r2b (by simp [*,fitsB]),by go_grown⟩
theorem fits_t3t (n o:Bool)(k l g i op d a b c:Int)(w:World)(s:(regB d)=true)(u:regB a=true)(r:regB b=false)(y:(b==8)=true):Cl 149 #[Shape.v ⟨true,n,true,k,l,g,i⟩,instV op d a b c] w fun e f=>e=.returned (.bool (fitsB true true k l g i d a b c))/\Bw w f:=by
  go_enter Tryz.func149,Tryz.ntmps149
  go_wp2_with (first
   | (go_at_call 162;refine (qBk _ _).mono ?_;rintro e f ⟨rfl,rfl⟩)
   | (go_at_call 163;refine (has_any _ _ _ _).mono ?_;rintro e f ⟨rfl,rfl⟩))
  go_returns
  exact ⟨r2b (by simp [*,fitsB]),by go_grown⟩
theorem fits_t2f (n o:Bool)(k l g i op d a b c:Int)(w:World)(s:(regB d)=true)(u:regB a=true)(r:regB b=true):Cl 149 #[Shape.v ⟨true,n,false,k,l,g,i⟩,instV op d a b c] w fun e f=>e=.returned (.bool (fitsB true false k l g i d a b c))/\Bw w f:=by
  go_enter Tryz.func149,Tryz.ntmps149
  go_wp2_with (first
   | (go_at_call 162;refine (qBk _ _).mono ?_;rintro e f ⟨rfl,rfl⟩)
   | (go_at_call 163;refine (has_any _ _ _ _).mono ?_;rintro e f ⟨rfl,rfl⟩))
  go_returns
  exact ⟨r2b (by simp [*,fitsB]),by go_grown⟩
theorem fits_t3f (n o:Bool)(k l g i op d a b c:Int)(w:World)(s:(regB d)=true)(u:regB a=true)(r:regB b=false)(y:(b==8)=true):Cl 149 #[Shape.v ⟨true,n,false,k,l,g,i⟩,instV op d a b c] w fun e f=>e=.returned (.bool (fitsB true false k l g i d a b c))/\Bw w f:=by
  go_enter Tryz.func149,Tryz.ntmps149
  go_wp2_with (first
   | (go_at_call 162;refine (qBk _ _).mono ?_;rintro e f ⟨rfl,rfl⟩)
   | (go_at_call 163;refine (has_any _ _ _ _).mono ?_;rintro e f ⟨rfl,rfl⟩))
  go_returns
  exact ⟨r2b (by simp [*,fitsB]),by go_grown⟩
theorem fits_t4 (o i:Bool)(l n g k op d a b c:Int)(w:World)(s:(regB d)=true)(u:regB a=true)(r:regB b=false)(y:(b==8)=false):Cl 149 #[Shape.v ⟨true,o,i,l,n,g,k⟩,instV op d a b c] w fun e f=>e=.returned (.bool (fitsB true i l n g k d a b c))/\Bw w f:=by
  go_enter Tryz.func149,Tryz.ntmps149
  go_wp2_with (first
   | (go_at_call 162;refine (qBk _ _).mono ?_;rintro e f ⟨rfl,rfl⟩)
   | (go_at_call 163;refine (has_any _ _ _ _).mono ?_;rintro e f ⟨rfl,rfl⟩))
  go_returns
  exact ⟨r2b (by simp [*,fitsB]),by go_grown⟩
theorem fits_f0 (o l:Bool)(f g k n op d a b c:Int)(w:World)(r:(hasB f g d)=false):Cl 149 #[Shape.v ⟨false,o,l,f,g,k,n⟩,instV op d a b c] w fun e i=>e=.returned (.bool (fitsB false l f g k n d a b c))/\Bw w i:=by
  go_enter Tryz.func149,Tryz.ntmps149
  go_wp2_with (first
   | (go_at_call 162;refine (qBk _ _).mono ?_;rintro e i ⟨rfl,rfl⟩)
   | (go_at_call 163;refine (has_any _ _ _ _).mono ?_;rintro e i ⟨rfl,rfl⟩))
  go_returns
  exact ⟨r2b (by simp [*,fitsB]),by go_grown⟩
theorem fits_f1 (o l:Bool)(f g k n op d a b c:Int)(w:World)(r:(hasB f g d)=true)(s:regB a=false):Cl 149 #[Shape.v ⟨false,o,l,f,g,k,n⟩,instV op d a b c] w fun e i=>e=.returned (.bool (fitsB false l f g k n d a b c))/\Bw w i:=by
  go_enter Tryz.func149,Tryz.ntmps149
  go_wp2_with (first
   | (go_at_call 162;refine (qBk _ _).mono ?_;rintro e i ⟨rfl,rfl⟩)
   | (go_at_call 163;refine (has_any _ _ _ _).mono ?_;rintro e i ⟨rfl,rfl⟩))
  go_returns
  exact ⟨r2b (by simp [*,fitsB]),by go_grown⟩
theorem fits_f2t (n o:Bool)(f g k l op d a b c:Int)(w:World)(s:(hasB f g d)=true)(u:regB a=true)(r:regB b=true):Cl 149 #[Shape.v ⟨false,n,true,f,g,k,l⟩,instV op d a b c] w fun e i=>e=.returned (.bool (fitsB false true f g k l d a b c))/\Bw w i:=by
  go_enter Tryz.func149,Tryz.ntmps149
  go_wp2_with (first
   | (go_at_call 162;refine (qBk _ _).mono ?_;rintro e i ⟨rfl,rfl⟩)
   | (go_at_call 163;refine (has_any _ _ _ _).mono ?_;rintro e i ⟨rfl,rfl⟩))
  go_returns
  exact ⟨r2b (by simp [*,fitsB]),by go_grown⟩
theorem fits_f3t (n o:Bool)(f g k l op d a b c:Int)(w:World)(s:(hasB f g d)=true)(u:regB a=true)(r:regB b=false)(y:(b==8)=true):Cl 149 #[Shape.v ⟨false,n,true,f,g,k,l⟩,instV op d a b c] w fun e i=>e=.returned (.bool (fitsB false true f g k l d a b c))/\Bw w i:=by
  go_enter Tryz.func149,Tryz.ntmps149
  go_wp2_with (first
   | (go_at_call 162;refine (qBk _ _).mono ?_;rintro e i ⟨rfl,rfl⟩)
   | (go_at_call 163;refine (has_any _ _ _ _).mono ?_;rintro e i ⟨rfl,rfl⟩))
  go_returns
  exact ⟨r2b (by simp [*,fitsB]),by go_grown⟩
theorem fits_f2f (n o:Bool)(f g k l op d a b c:Int)(w:World)(s:(hasB f g d)=true)(u:regB a=true)(r:regB b=true):Cl 149 #[Shape.v ⟨false,n,false,f,g,k,l⟩,instV op d a b c] w fun e i=>e=.returned (.bool (fitsB false false f g k l d a b c))/\Bw w i:=by
  go_enter Tryz.func149,Tryz.ntmps149
  go_wp2_with (first
   | (go_at_call 162;refine (qBk _ _).mono ?_;rintro e i ⟨rfl,rfl⟩)
   | (go_at_call 163;refine (has_any _ _ _ _).mono ?_;rintro e i ⟨rfl,rfl⟩))
  go_returns
  exact ⟨r2b (by simp [*,fitsB]),by go_grown⟩
theorem fits_f3f (n o:Bool)(f g k l op d a b c:Int)(w:World)(s:(hasB f g d)=true)(u:regB a=true)(r:regB b=false)(y:(b==8)=true):Cl 149 #[Shape.v ⟨false,n,false,f,g,k,l⟩,instV op d a b c] w fun e i=>e=.returned (.bool (fitsB false false f g k l d a b c))/\Bw w i:=by
  go_enter Tryz.func149,Tryz.ntmps149
  go_wp2_with (first
   | (go_at_call 162;refine (qBk _ _).mono ?_;rintro e i ⟨rfl,rfl⟩)
   | (go_at_call 163;refine (has_any _ _ _ _).mono ?_;rintro e i ⟨rfl,rfl⟩))
  go_returns
  exact ⟨r2b (by simp [*,fitsB]),by go_grown⟩
theorem fits_f4 (o l:Bool)(f g k n op d a b c:Int)(w:World)(s:(hasB f g d)=true)(u:regB a=true)(r:regB b=false)(y:(b==8)=false):Cl 149 #[Shape.v ⟨false,o,l,f,g,k,n⟩,instV op d a b c] w fun e i=>e=.returned (.bool (fitsB false l f g k n d a b c))/\Bw w i:=by
  go_enter Tryz.func149,Tryz.ntmps149
  go_wp2_with (first
   | (go_at_call 162;refine (qBk _ _).mono ?_;rintro e i ⟨rfl,rfl⟩)
   | (go_at_call 163;refine (has_any _ _ _ _).mono ?_;rintro e i ⟨rfl,rfl⟩))
  go_returns
  exact ⟨r2b (by simp [*,fitsB]),by go_grown⟩
theorem fits_any (s:Shape)(op d a b c:Int)(w:World):Cl 149 #[s.v,instV op d a b c] w fun e r=>e=.returned (.bool (fitsB s.dest s.source s.farL s.farM s.immL s.immM d a b c))/\Bw w r:=by
 obtain ⟨o,l,n,f,g,i,k⟩:=s
 cases o
 ·cases hX:hasB f g d
  ·exact fits_f0 l n f g i k op d a b c w hX
  ·cases ha:regB a
   ·exact fits_f1 l n f g i k op d a b c w hX ha
   ·cases hb:regB b
    ·cases h8:(b==8)
     ·exact fits_f4 l n f g i k op d a b c w hX ha hb h8
     ·cases n
      ·exact fits_f3f l false f g i k op d a b c w hX ha hb h8
      ·exact fits_f3t l true f g i k op d a b c w hX ha hb h8
    ·cases n
     ·exact fits_f2f l false f g i k op d a b c w hX ha hb
     ·exact fits_f2t l true f g i k op d a b c w hX ha hb
 ·cases hX:regB d
  ·exact fits_t0 l n f g i k op d a b c w hX
  ·cases ha:regB a
   ·exact fits_t1 l n f g i k op d a b c w hX ha
   ·cases hb:regB b
    ·cases h8:(b==8)
     ·exact fits_t4 l n f g i k op d a b c w hX ha hb h8
     ·cases n
      ·exact fits_t3f l false f g i k op d a b c w hX ha hb h8
      ·exact fits_t3t l true f g i k op d a b c w hX ha hb h8
    ·cases n
     ·exact fits_t2f l false f g i k op d a b c w hX ha hb
     ·exact fits_t2t l true f g i k op d a b c w hX ha hb
theorem shape_A {op:Int}(h:op=0∨op=11):shapeL op=⟨true,false,true,0,0,0,0⟩:=by unfold shapeL;rw [if_pos h]
theorem shape_B {op:Int}(h:1<=op/\op<=10):shapeL op=⟨true,true,true,0,0,0,0⟩:=by unfold shapeL;rw [if_neg (by omega),if_pos h]
theorem shape_G {op:Int}(h:16<=op/\op<=19):shapeL op=⟨false,true,true,0,63,0,0⟩:=by unfold shapeL;rw [if_neg (by omega),if_neg (by omega),if_neg (by omega),if_neg (by omega),if_neg (by omega),if_neg (by omega),if_pos h]
theorem right_A {op d a b c:Int}(h:op=0∨op=11):rightB op d a b c=((a==0&&(b==8||c==0))&&fitsB true true 0 0 0 0 d a b c):=by
 rcases h with rfl|rfl
 all_goals
  simp only [rightB_0,rightB_11,regB,sourcedB,fitsB,hasB];rw [Bool.eq_iff_iff];simp;omega
theorem right_B {op d a b c:Int}(h:1<=op/\op<=10):rightB op d a b c=((b==8||c==0)&&fitsB true true 0 0 0 0 d a b c):=by
 rw [qDg h];simp only [regB,sourcedB,fitsB,hasB];rw [Bool.eq_iff_iff];simp;omega
theorem right_C {d a b c:Int}:rightB 12 d a b c=((d==0&&(b==8||c==0))&&fitsB false true 0 0 0 0 d a b c):=by
 simp only [rightB_12,regB,sourcedB,fitsB,hasB];rw [Bool.eq_iff_iff];simp;omega
theorem right_D {d a b c:Int}:rightB 13 d a b c=((a==0&&b==0)&&fitsB true false 0 0 0 1 d a b c):=by
 simp only [rightB_13,regB,fitsB,hasB];rw [Bool.eq_iff_iff];simp;omega
theorem right_E {d a b c:Int}:rightB 14 d a b c=((a==0&&b==0)&&fitsB true false 0 0 0 3 d a b c):=by
 simp only [rightB_14,regB,fitsB,hasB];rw [Bool.eq_iff_iff];simp;omega
theorem right_F {d a b c:Int}:rightB 15 d a b c=((a==0&&(b==0&&c==0))&&fitsB false false 0 63 0 0 d a b c):=by
 simp only [rightB_15,regB,fitsB,hasB];rw [Bool.eq_iff_iff];simp;omega
theorem right_G {op d a b c:Int}(h:16<=op/\op<=19):rightB op d a b c=((b==8||c==0)&&fitsB false true 0 63 0 0 d a b c):=by
 rw [rightB_jump h];simp only [regB,sourcedB,fitsB,hasB];rw [Bool.eq_iff_iff];simp;omega
theorem right_H {d a b c:Int}:rightB 20 d a b c=((b==0)&&fitsB false false 1 63 1 255 d a b c):=by
 simp only [rightB_20,regB,fitsB,hasB];rw [Bool.eq_iff_iff];simp;omega
theorem right_I {d a b c:Int}:rightB 21 d a b c=((d==0&&(a==0&&b==0))&&fitsB false false 0 0 0 6 d a b c):=by
 simp only [rightB_21,regB,fitsB,hasB];rw [Bool.eq_iff_iff];simp;omega
theorem right_J {d a b c:Int}:rightB 22 d a b c=((d==0&&(b==0&&c==0))&&fitsB false false 0 0 0 0 d a b c):=by
 simp only [rightB_22,regB,fitsB,hasB];rw [Bool.eq_iff_iff];simp;omega

def Shape.zero (s:Shape):Bool:=s.dest==false&&(s.first==false&&(s.source==false&&(decide (s.farL=0)&&(decide (s.farM=0)&&(decide (s.immL=0)&&decide (s.immM=0))))))
structure In where
 op:Int
 d:Int
 a:Int
 b:Int
 imm:Int
def In.nil:In:=⟨0,0,0,0,0⟩
abbrev In.v (i:In):Value:=instV i.op i.d i.a i.b i.imm
def In.right (i:In):Bool:=rightB i.op i.d i.a i.b i.imm
def In.wf (i:In):Prop:=(Lit.int .i64 i.op).wf=true/\(Lit.int .i64 i.d).wf=true/\(Lit.int .i64 i.a).wf=true/\(Lit.int .i64 i.b).wf=true/\(Lit.int .i64 i.imm).wf=true
def At (w:World) (b off:Nat) (i:In):Prop:=w.cell? ⟨b,off,none⟩=some (.int .i64 i.op)/\w.cell? ⟨b,off+1,none⟩=some (.int .i64 i.d)/\w.cell? ⟨b,off+2,none⟩=some (.int .i64 i.a)/\w.cell? ⟨b,off+3,none⟩=some (.int .i64 i.b)/\w.cell? ⟨b,off+4,none⟩=some (.int .i64 i.imm)
theorem At.below {w d:World}{b off B:Nat}{i:In}(h:At w b off i)(c:Below B w d)(a:b<B):At d b off i:=by
 unfold At;rw [c.cell (p:=⟨b,off,none⟩) a,c.cell (p:=⟨b,off+1,none⟩) a,c.cell (p:=⟨b,off+2,none⟩) a,c.cell (p:=⟨b,off+3,none⟩) a,c.cell (p:=⟨b,off+4,none⟩) a];exact h
def SeesI (w:World) (v:Value) (xs:List In):Prop :=
 ∃ a cap,v=.slice a xs.length cap/\xs.length<=cap/\cap<=maxLen/\(a=none->cap=0) /\
  (xs≠[]->∃ b off,a=some ⟨b,off,none⟩/\b<w.heap.size/\∀ k,k<xs.length->At w b (off+k*5) (xs.getD k In.nil))
theorem SeesI.below {w g:World}{v:Value}{xs:List In}(h:SeesI w v xs)(d:Bw w g):SeesI g v xs:=by
 obtain ⟨a,cap,rfl,r,o,n,l⟩:=h;refine ⟨a,cap,rfl,r,o,n,fun i=>?_⟩;obtain ⟨b,off,rfl,c,f⟩:=l i;exact ⟨b,off,rfl,Nat.lt_of_lt_of_le c d.size,fun k s=>(f k s).below d c⟩
theorem zero_run {α:Type}(s:Shape)(f:Bool->α):(if s.dest=true then f false else if s.first=true then f false else if s.source=true then f false else if s.farL=0 then (if s.farM=0 then (if s.immL=0 then (if s.immM=0 then f true else f false) else f false) else f false) else f false)=f s.zero:=by
 obtain ⟨g,k,b,d,i,a,c⟩:=s
 by_cases h1:d=0<;>by_cases h2:i=0<;>by_cases h3:a=0<;>by_cases h4:c=0<;>cases g<;>cases k<;>cases b<;>simp [Shape.zero,h1,h2,h3,h4]
def neI (i j:In):Bool := !(i.op==j.op&&(i.d==j.d&&(i.a==j.a&&(i.b==j.b&&i.imm==j.imm))))
theorem ne_run {α : Type}(i j : In)(f : Bool -> α) : (if i.op = j.op then (if i.d = j.d then (if i.a = j.a then (if i.b = j.b then (if i.imm = j.imm then f false else f true) else f true) else f true) else f true) else f true) = f (neI i j) := by
  by_cases h0 : i.op = j.op
  case neg => rw [if_neg h0]; have e : (i.op == j.op) = false := by simp [h0]
              simp [neI, e]
  rw [if_pos h0]
  have e0 : (i.op == j.op) = true := by simp [h0]
  by_cases h1 : i.d = j.d
  case neg => rw [if_neg h1]; have e : (i.d == j.d) = false := by simp [h1]
              simp [neI, e]
  rw [if_pos h1]
  have c : (i.d == j.d) = true := by simp [h1]
  by_cases h2 : i.a = j.a
  case neg => rw [if_neg h2]; have e : (i.a == j.a) = false := by simp [h2]
              simp [neI, e]
  rw [if_pos h2]
  have k : (i.a == j.a) = true := by simp [h2]
  by_cases h3 : i.b = j.b
  case neg => rw [if_neg h3]; have e : (i.b == j.b) = false := by simp [h3]
              simp [neI, e]
  rw [if_pos h3]
  have g : (i.b == j.b) = true := by simp [h3]
  by_cases h4 : i.imm = j.imm
  case neg => rw [if_neg h4]; have e : (i.imm == j.imm) = false := by simp [h4]
              simp [neI, e]
  rw [if_pos h4]
  have l : (i.imm == j.imm) = true := by simp [h4]
  simp [neI, e0, c, k, g, l]
abbrev Held (n4 n5:Nat) (op d a b imm:Int) (s:Shape) (w:World):Prop:=(w.cell? ⟨n4,0,none⟩=some (.int .i64 op)/\w.cell? ⟨n4,1,none⟩=some (.int .i64 d)/\w.cell? ⟨n4,2,none⟩=some (.int .i64 a)/\w.cell? ⟨n4,3,none⟩=some (.int .i64 b)/\w.cell? ⟨n4,4,none⟩=some (.int .i64 imm)) /\
 w.cell? ⟨n5,0,none⟩=some (.bool s.dest)/\w.cell? ⟨n5,1,none⟩=some (.bool s.first)/\w.cell? ⟨n5,2,none⟩=some (.bool s.source)/\w.cell? ⟨n5,3,none⟩=some (.int .i64 s.farL)/\w.cell? ⟨n5,4,none⟩=some (.int .i64 s.farM)/\w.cell? ⟨n5,5,none⟩=some (.int .i64 s.immL)/\w.cell? ⟨n5,6,none⟩=some (.int .i64 s.immM)
theorem Held.below {g f B:Nat}{op d a b l:Int}{s:Shape}{w n:World}(h:Held g f op d a b l s w)(c:Below B w n)(k:g<B)(i:f<B):Held g f op d a b l s n:=by
 unfold Held;rw [c.cell (p:=⟨g,0,none⟩) k,c.cell (p:=⟨g,1,none⟩) k,c.cell (p:=⟨g,2,none⟩) k,c.cell (p:=⟨g,3,none⟩) k,c.cell (p:=⟨g,4,none⟩) k,c.cell (p:=⟨f,0,none⟩) i,c.cell (p:=⟨f,1,none⟩) i,c.cell (p:=⟨f,2,none⟩) i,c.cell (p:=⟨f,3,none⟩) i,c.cell (p:=⟨f,4,none⟩) i,c.cell (p:=⟨f,5,none⟩) i,c.cell (p:=⟨f,6,none⟩) i];exact h
theorem all_take {xs:List In}{k:Nat}(a:k<xs.length):(xs.take (k+1)).all In.right=((xs.take k).all In.right&&(xs.getD k In.nil).right):=by
 have e:xs.getD k In.nil=xs[k]:=by simp [a]
 rw [e,List.take_succ_eq_append_getElem a,List.all_append];simp only [List.all_cons,List.all_nil,Bool.and_true]
theorem all_false {xs:List In}{k:Nat}(b:k<xs.length)(h:(xs.getD k In.nil).right=false):xs.all In.right=false:=by
 have e:xs.getD k In.nil=xs[k]:=by simp [b]
 rw [e] at h;rw [Bool.eq_false_iff];intro a;rw [List.all_eq_true.1 a _ (List.getElem_mem b)] at h
 cases h
def In.far (i:In):Int:=(goesL i.op i.d i.a i.b i.imm).1
def In.leads (i:In):Bool:=(goesL i.op i.d i.a i.b i.imm).2.1
def In.on (i:In):Bool:=(goesL i.op i.d i.a i.b i.imm).2.2
theorem qAp (i:In):(i.right=false/\i.far=0/\i.leads=false/\i.on=false)∨(i.right=true/\15<=i.op/\i.op<=19/\i.far=i.d+1/\i.leads=true/\i.on=decide (i.op≠15)/\0<=i.d/\i.d<=63) ∨
  (i.right=true/\i.op=20/\i.far = -i.d/\i.leads=true/\i.on=true/\1<=i.d/\i.d<=63/\1<=i.imm/\i.imm<=255)∨(i.right=true/\(i.op<15∨20<i.op)/\i.far=0/\i.leads=false/\i.on=decide (i.op≠22)):=by
 obtain ⟨op,d,a,b,c⟩:=i;unfold In.far In.leads In.on In.right
 cases hr:rightB op d a b c
 ·left;simp [goesL,hr]
 right
 by_cases h1:op=15
 ·subst h1;left;have:=right_far hr (by omega)
  simp [goesL,hr];omega
 by_cases h2:16<=op/\op<=19
 ·left
  have:=right_far hr (by omega)
  simp [goesL,hr,h1,h2];omega
 by_cases h3:op=20
 ·subst h3;right;left;have h:=hr;rw [rightB_20] at h
  simp at h
  simp [goesL,hr];omega
 ·right;right
  unfold goesL;rw [if_neg (by simp [hr]),if_neg h1,if_neg h2,if_neg h3];refine ⟨rfl,by show op<15∨20<op;omega,rfl,rfl,?_⟩
  by_cases h4:op=22<;>simp [h4]
theorem far_bd (i:In) : -63<=i.far/\i.far<=64:=by
 rcases qAp i with h|h|h|h<;>omega
def first (p:Nat->Bool) (n:Nat):Option Nat:=(List.range n).find? p
theorem qDb {p:Nat->Bool}{n k:Nat}(h:∀ j,j<k->p j=false)(d:k<n)(b:p k=true):first p n=some k:=by
 unfold first
 have e:List.range n=List.range k++(List.range' k (n-k)):=by
  have e:=@List.range'_append_1 0 k (n-k);rw [List.range_eq_range',List.range_eq_range',Nat.zero_add] at *;rw [e];congr 1;omega
 rw [e,List.find?_append]
 have c:(List.range k).find? p=none:=by
  rw [List.find?_eq_none];intro x a;rw [List.mem_range] at a;simp [h x a]
 rw [c];obtain ⟨m,hm⟩:∃ m,n-k=m+1:=⟨n-k-1,by omega⟩;rw [hm,List.range'_succ]
 simp [b]
theorem qCi {p:Nat->Bool}{n:Nat}(h:∀ j,j<n->p j=false):first p n=none:=by
 unfold first
 rw [List.find?_eq_none];intro x a;rw [List.mem_range] at a;simp [h x a]
theorem first_cases (p:Nat->Bool)(n:Nat):(first p n=none/\∀ j,j<n->p j=false)∨∃ k,first p n=some k/\k<n/\p k=true/\∀ j,j<k->p j=false:=by
 by_cases h:∃ k,k<n/\p k=true
 ·have i:∃ k,k<n/\p k=true/\∀ j,j<k->p j=false:=by
   obtain ⟨k,d,c⟩:=h
   induction k using Nat.strongRecOn with
   | _ k ih =>
    by_cases b:∃ j,j<k/\p j=true
    ·obtain ⟨j,b,a⟩:=b;exact ih j b (by omega) a
    ·refine ⟨k,d,c,fun j g=>?_⟩
     cases a:p j
     ·rfl
     ·exact absurd ⟨j,g,a⟩ b
  obtain ⟨k,d,c,f⟩:=i;exact .inr ⟨k,qDb f d c,d,c,f⟩
 ·refine .inl ⟨qCi fun j b=>?_,fun j b=>?_⟩ <;>
  ·cases a:p j
   ·rfl
   ·exact absurd ⟨j,b,a⟩ h
theorem first_congr {p q:Nat->Bool}{n:Nat}(h:∀ j,j<n->p j=q j):first p n=first q n:=by
 rcases first_cases q n with ⟨c,a⟩|⟨k,c,a,f,d⟩
 ·rw [c];exact qCi fun j b=>(h j b).trans (a j b)
 ·rw [c];exact qDb (fun j b=>(h j (by omega)).trans (d j b)) a ((h k a).trans f)

structure Lp where
 h:Int
 t:Int
 b:Int
def Lp.nil:Lp:=⟨0,0,0⟩
def inLpB (l:Lp) (p:Int):Bool:=decide (l.h<=p)&&decide (p<=l.t)
def entersB (l:Lp) (p q:Int):Bool := !inLpB l p&&(inLpB l q&&decide (q≠l.h))
theorem within_iff {l:Lp}{p:Int}:inLpB l p=true↔l.h<=p/\p<=l.t:=by simp [inLpB]
theorem within_no {l:Lp}{p:Int}:inLpB l p=false↔¬ (l.h<=p/\p<=l.t):=by rw [<- within_iff];simp
theorem enters_iff {l:Lp}{p q:Int}:entersB l p q=true↔¬ (l.h<=p/\p<=l.t)/\l.h<q/\q<=l.t:=by
 unfold entersB;rw [Bool.and_eq_true,Bool.and_eq_true,Bool.not_eq_true',within_no,within_iff,decide_eq_true_eq]
 omega
abbrev nth (xs:List In) (k:Nat):In:=xs.getD k In.nil
def lpAt (xs:List In) (k:Nat):Lp:=⟨k+(nth xs k).far,k,(nth xs k).imm⟩
def lps (xs:List In) (k:Nat):List Lp:=if (nth xs k).op=20 then [lpAt xs k] else []
def loopsU (xs:List In):Nat->List Lp
 | 0=>[]
 | n+1=>loopsU xs n++lps xs n
def loopsL (xs:List In):List Lp:=loopsU xs xs.length
theorem loopsU_mem {xs:List In}{n:Nat}{l:Lp}:l∈loopsU xs n↔∃ k,k<n/\(nth xs k).op=20/\l=lpAt xs k:=by
 induction n with
 | zero=>simp [loopsU]
 | succ n ih =>
  rw [loopsU,List.mem_append,ih]
  constructor
  ·rintro (⟨k,c,a,b⟩|h)
   ·exact ⟨k,by omega,a,b⟩
   ·unfold lps at h
    split at h
    ·rename_i h20
     simp at h
     exact ⟨n,by omega,h20,h⟩
    ·simp at h
  ·rintro ⟨k,c,a,b⟩
   by_cases hk:k<n
   ·exact .inl ⟨k,hk,a,b⟩
   ·obtain rfl:k=n:=by omega
    right;unfold lps;rw [if_pos a,b];simp
theorem loopsU_len (xs:List In)(n:Nat):(loopsU xs n).length<=n:=by
 induction n with
 | zero=>simp [loopsU]
 | succ n ih=>rw [loopsU,List.length_append];unfold lps;split<;>simp<;>omega
theorem loopsU_sorted (xs:List In)(n:Nat):(loopsU xs n).Pairwise (fun a b=>a.t<b.t):=by
 induction n with
 | zero=>exact List.Pairwise.nil
 | succ n ih =>
  rw [loopsU,List.pairwise_append];refine ⟨ih,?_,?_⟩
  ·unfold lps;split<;>simp
  ·intro a d b c;obtain ⟨k,f,_,rfl⟩:=loopsU_mem.1 d;unfold lps at c
   split at c<;>simp at c
   subst c
   simp [lpAt];omega
def crossF:List Lp->List Lp->Option Int
 | _,[]=>none
 | prev,l :: r=>if prev.any (fun e=>entersB e l.t l.h) then some l.t else crossF (prev++[l]) r
theorem crossF_none:∀ (r d:List Lp),crossF d r=none->∀ (a b c:List Lp) (l:Lp),r=a++l :: b->∀ e∈d++a,entersB e l.t l.h=false
 | [],d,h,a,b,c,l,e=>by simp at e
 | x :: r,d,h,a,b,c,l,e=>by
  rw [crossF] at h
  split at h
  ·cases h
  ·rename_i hx
   cases a with
   | nil =>
    simp at e
    obtain ⟨rfl,rfl⟩:=e;intro e he
    simp at he hx
    exact hx e he
   | cons y a =>
    simp at e
    obtain ⟨rfl,rfl⟩:=e;intro e he;refine crossF_none (a++l :: b) (d++[x]) h a b c l rfl e (by simpa using he)
def intrB (xs:List In) (ls:List Lp) (k:Nat):Bool:=(nth xs k).leads&&ls.any (fun l=>entersB l k (k+(nth xs k).far))
def placeE (xs:List In) (k:Nat):Int :=
 if (nth xs k).right=false then 12 else if (k:Int)+(nth xs k).far<0∨(xs.length:Int)<=k+(nth xs k).far then 30 else if (nth xs k).on=true/\k+1=xs.length then 36 else 0
def placeB (xs:List In) (k:Nat):Bool:=decide (placeE xs k≠0)
def timesT (p:Int):List Lp->Int->Int
 | [],t=>t
 | l :: r,t=>timesT p r (if inLpB l p then t*(l.b+1) else t)
def timesC (p:Int):List Lp->Int->Int
 | [],t=>t
 | l :: r,t=>timesC p r (if inLpB l p then min (t*(l.b+1)) 257 else t)
def costT (ls:List Lp):Nat->Int
 | 0=>0
 | n+1=>costT ls n+timesT n ls 1
def costC (ls:List Lp):Nat->Int
 | 0=>0
 | n+1=>costC ls n+timesC n ls 1
def checkL (xs:List In):Int×Int :=
 if xs.length=0 then (0,10) else if 64<xs.length then (0,11) else
 match first (placeB xs) xs.length with
 | some k=>(k,placeE xs k)
 | none=>match crossF [] (loopsL xs) with
  | some t=>(t,31)
  | none=>match first (intrB xs (loopsL xs)) xs.length with
   | some p=>(p,31)
   | none=>if 256<costC (loopsL xs) xs.length then (0,32) else (0,0)
def Bnd (ls:List Lp):Prop:=∀ l∈ls,1<=l.b/\l.b<=255
theorem mul_grow {t b:Int}(c:1<=t)(a:0<=b):t<=t*(b+1):=by
 have:0<=t*b:=Int.mul_nonneg (by omega) a;rw [Int.mul_add];omega
theorem timesT_ge {p:Int}:∀ {ls:List Lp} {t:Int},Bnd ls->1<=t->t<=timesT p ls t
 | [],t,_,_=>Int.le_refl _
 | l :: r,t,hb,ht=>by
  have b:=hb l (by simp);rw [timesT]
  split
  ·exact Int.le_trans (mul_grow ht (by omega)) (timesT_ge (fun x a=>hb x (by simp [a])) (Int.le_trans ht (mul_grow ht (by omega))))
  ·exact timesT_ge (fun x a=>hb x (by simp [a])) ht
theorem timesC_min {p:Int}:∀ {ls:List Lp} {t:Int},Bnd ls->1<=t->timesC p ls (min t 257)=min (timesT p ls t) 257
 | [],t,_,_=>rfl
 | l :: r,t,hb,ht=>by
  have f:=hb l (by simp);rw [timesC,timesT]
  have a:Bnd r:=fun x c=>hb x (by simp [c])
  split
  ·have d:=mul_grow ht (show 0<=l.b by omega)
   have e:min (min t 257*(l.b+1)) 257=min (t*(l.b+1)) 257:=by
    by_cases h:t<=257
    ·rw [Int.min_eq_left h]
    ·have:min t 257=257:=by omega
     rw [this];omega
   rw [e];exact timesC_min a (by omega)
  ·exact timesC_min a ht
theorem timesC_eq {p:Int}{ls:List Lp}(a:Bnd ls):timesC p ls 1=min (timesT p ls 1) 257:=timesC_min (t:=1) a (by omega)
theorem costC_le {ls:List Lp}(a:Bnd ls)(n:Nat):costC ls n<=costT ls n/\(n:Int)<=costC ls n/\(costC ls n<=256->costT ls n=costC ls n):=by
 induction n with
 | zero=>simp [costC,costT]
 | succ n ih =>
  have b:=timesT_ge (p:=n) a (show (1:Int)<=1 by omega);rw [costC,costT,timesC_eq a]
  omega
def aroundL (ls:List Lp) (p:Int):List Int:=(ls.filter (fun l=>inLpB l p)).map Lp.t
structure Taken (xs:List In):Prop where
 pos:0<xs.length
 top:xs.length<=64
 place:∀ k,k<xs.length->placeB xs k=false
 cross:crossF [] (loopsL xs)=none
 intr:∀ k,k<xs.length->intrB xs (loopsL xs) k=false
 cost:costC (loopsL xs) xs.length<=256
theorem check_ok {xs:List In}:(checkL xs).2=0↔Taken xs:=by
 unfold checkL
 constructor
 ·intro h
  split at h
  ·cases h
  split at h
  ·cases h
  split at h
  ·rename_i k hk
   rcases first_cases (placeB xs) xs.length with ⟨b,_⟩|⟨j,b,_,a,_⟩
   ·rw [b] at hk;cases hk
   ·rw [b] at hk;injection hk with hk;subst hk;unfold placeB at a;simp only [decide_eq_true_eq] at a;exact absurd h a
  rename_i hp
  split at h
  ·cases h
  rename_i hc
  split at h
  ·cases h
  rename_i hi
  split at h
  ·cases h
  refine ⟨by omega,by omega,?_,hc,?_,by omega⟩
  ·rcases first_cases (placeB xs) xs.length with ⟨_,a⟩|⟨k,b,_⟩
   ·exact a
   ·rw [b] at hp;cases hp
  ·rcases first_cases (intrB xs (loopsL xs)) xs.length with ⟨_,a⟩|⟨k,b,_⟩
   ·exact a
   ·rw [b] at hi;cases hi
 ·intro h;have:=h.pos;have:=h.top;have:=h.cost;rw [if_neg (by omega),if_neg (by omega),qCi h.place,h.cross,qCi h.intr]
  dsimp only
  rw [if_neg (by omega)]
theorem check_pair {xs:List In}(h:(checkL xs).2=0):checkL xs=(0,0):=by
 have h:=check_ok.1 h;unfold checkL;have:=h.pos;have:=h.top;have:=h.cost;rw [if_neg (by omega),if_neg (by omega),qCi h.place,h.cross,qCi h.intr]
 dsimp only
 rw [if_neg (by omega)]
theorem qCd {xs:List In}{k:Nat}(b:k<xs.length)(h:placeB xs k=false):(nth xs k).right=true/\0<=(k:Int)+(nth xs k).far/\(k:Int)+(nth xs k).far<xs.length/\((nth xs k).on=true->k+1<xs.length):=by
 unfold placeB placeE at h;simp only [decide_eq_false_iff_not,ne_eq,Decidable.not_not] at h
 split at h
 ·omega
 split at h
 ·omega
 split at h
 ·omega
 rename_i h1 h2 h3
 refine ⟨by simpa using h1,by omega,by omega,fun a=>?_⟩
 have:¬ k+1=xs.length:=fun e=>h3 ⟨a,e⟩
 omega
def Placed (xs:List In):Prop:=∀ k,k<xs.length->placeB xs k=false
theorem loop_ok {xs:List In}(h:Placed xs){l:Lp}(i:l∈loopsL xs):∃ k:Nat,k<xs.length/\(nth xs k).op=20/\l=⟨k-(nth xs k).d,k,(nth xs k).imm⟩/\0<=l.h/\l.h<l.t/\l.t<xs.length/\1<=l.b/\l.b<=255:=by
 obtain ⟨k,c,g,rfl⟩:=loopsU_mem.1 i;obtain ⟨a,h0,n,_⟩:=qCd c (h k c);have f:=qAp (nth xs k);refine ⟨k,c,g,?_,?_,?_,?_,?_,?_⟩
 ·unfold lpAt
  rcases f with h|h|h|h
  ·rw [h.1] at a;cases a
  ·omega
  ·rw [h.2.2.1];rfl
  ·omega
 all_goals
  show _
  simp only [lpAt]
  rcases f with h|h|h|h
  ·rw [h.1] at a;cases a
  ·omega
  ·omega
  ·omega
theorem bnd_ok {xs:List In}(h:Placed xs):Bnd (loopsL xs):=fun l a=>by
 obtain ⟨k,_,_,_,_,_,_,c,b⟩:=loop_ok h a;exact ⟨c,b⟩
def memB (l:List Int) (n:Int):Bool:=decide (n∈l)
theorem has_iff {l:List Int}{n:Int}:memB l n=true↔n∈l:=by simp [memB]
abbrev row (rows:List (List Int)) (p:Nat):List Int:=rows.getD p []
def bodyU (xs:List In) (n:Nat):List (List Int):=(List.range xs.length).map fun (p:Nat)=>aroundL (loopsU xs n) (p:Int)
def bodyL (xs:List In):List (List Int):=bodyU xs xs.length
theorem bodyU_row {xs:List In}{n p:Nat}(h:p<xs.length):row (bodyU xs n) p=aroundL (loopsU xs n) p:=by
 simp [row,bodyU,List.getD,h]
theorem around_mem {ls:List Lp}{p n:Int}:n∈aroundL ls p↔∃ l∈ls,inLpB l p=true/\l.t=n:=by
 unfold aroundL
 simp [and_assoc]
theorem body_mem {xs:List In}{p m:Nat}(c:p<xs.length)(hm:m<xs.length)(a:(nth xs m).op=20):memB (row (bodyL xs) p) m=inLpB (lpAt xs m) p:=by
 rw [Bool.eq_iff_iff,has_iff,bodyL,bodyU_row c,around_mem]
 constructor
 ·rintro ⟨l,b,f,d⟩;obtain ⟨k,g,_,rfl⟩:=loopsU_mem.1 b;simp only [lpAt] at d
  obtain rfl:k=m:=by omega
  exact f
 ·intro h;exact ⟨lpAt xs m,loopsU_mem.2 ⟨m,hm,a,rfl⟩,h,rfl⟩
def cntU (rows:List (List Int)) (m l:Nat):Nat->Int
 | 0=>0
 | p+1=>cntU rows m l p+if memB (row rows p) m&&memB (row rows p) l then 1 else 0
def allU (rows:List (List Int)) (m l:Nat):Nat->Bool
 | 0=>true
 | p+1=>allU rows m l p && !(memB (row rows p) m && !memB (row rows p) l)
theorem cnt_iff {a:List (List Int)}{m l n:Nat}:0<=cntU a m l n/\cntU a m l n<=n/\(0<cntU a m l n↔∃ p,p<n/\memB (row a p) m=true/\memB (row a p) l=true):=by
 induction n with
 | zero=>simp [cntU]
 | succ n ih =>
  obtain ⟨g,i,f⟩:=ih;rw [cntU]
  cases h:(memB (row a n) m&&memB (row a n) l)
  ·refine ⟨by simp;exact g,by simp;omega,?_⟩;simp only [Bool.false_eq_true,if_false,Int.add_zero,f]
   constructor
   ·rintro ⟨p,d,b⟩;exact ⟨p,by omega,b⟩
   ·rintro ⟨p,d,b,c⟩;refine ⟨p,?_,b,c⟩
    by_cases e:p=n
    ·subst e;rw [b,c] at h;cases h
    ·omega
  ·refine ⟨by simp;omega,by simp;omega,?_⟩;rw [Bool.and_eq_true] at h;simp only [if_true];exact ⟨fun _=>⟨n,by omega,h⟩,fun _=>by omega⟩
theorem all_iff {a:List (List Int)}{m l n:Nat}:allU a m l n=false↔∃ p,p<n/\memB (row a p) m=true/\memB (row a p) l=false:=by
 induction n with
 | zero=>simp [allU]
 | succ n ih =>
  rw [allU]
  cases h:(memB (row a n) m && !memB (row a n) l)
  ·simp only [Bool.not_false,Bool.and_true,ih]
   constructor
   ·rintro ⟨p,d,b⟩;exact ⟨p,by omega,b⟩
   ·rintro ⟨p,d,b,c⟩;refine ⟨p,?_,b,c⟩
    by_cases e:p=n
    ·subst e;rw [b,c] at h;cases h
    ·omega
  ·rw [Bool.and_eq_true,Bool.not_eq_true'] at h;simp only [Bool.not_true,Bool.and_false,true_iff];exact ⟨n,by omega,h⟩
def pairB (xs:List In) (rows:List (List Int)) (l m:Nat):Bool:=decide ((nth xs m).op=20)&&(decide (0<cntU rows m l xs.length) && !allU rows m l xs.length)
def crossRB (xs:List In) (rows:List (List Int)) (l:Nat):Bool:=decide ((nth xs l).op=20)&&(List.range l).any (pairB xs rows l)
def crossPB (xs:List In) (l:Nat):Bool:=decide ((nth xs l).op=20)&&(loopsU xs l).any fun e=>entersB e (lpAt xs l).t (lpAt xs l).h
def loopsF (xs:List In):Nat->Nat->List Lp
 | _,0=>[]
 | k,m+1=>lps xs k++loopsF xs (k+1) m
theorem loopsF_all (xs:List In):∀ (m k:Nat),loopsU xs (k+m)=loopsU xs k++loopsF xs k m
 | 0,k=>by simp [loopsF]
 | m+1,k=>by
  rw [loopsF,<- List.append_assoc,<- loopsU,<- loopsF_all xs m (k+1)]
  congr 1;omega
theorem crossF_step (xs:List In)(m k:Nat):crossF (loopsU xs k) (loopsF xs k (m+1))=if crossPB xs k then some (k:Int) else crossF (loopsU xs (k+1)) (loopsF xs (k+1) m):=by
 rw [loopsF,loopsU];unfold lps crossPB
 by_cases h:(nth xs k).op=20
 ·rw [if_pos h];simp only [List.singleton_append,crossF,h,decide_true,Bool.true_and]
  rfl
 ·rw [if_neg h,decide_eq_false h,Bool.false_and,if_neg (by simp),List.nil_append,List.append_nil]
theorem crossF_first (xs:List In):∀ (m k:Nat),(∀ j,j<k->crossPB xs j=false)->crossF (loopsU xs k) (loopsF xs k m)=(first (crossPB xs) (k+m)).map fun (j:Nat)=>(j:Int)
 | 0,k,h=>by rw [Nat.add_zero,qCi h];rfl
 | m+1,k,h=>by
  rw [crossF_step]
  cases hk:crossPB xs k
  ·rw [if_neg (by simp),crossF_first xs m (k+1) (fun j a=>?_),show k+1+m=k+(m+1) by omega]
   by_cases e:j=k
   ·rw [e];exact hk
   ·exact h j (by omega)
  ·rw [if_pos rfl,qDb h (by omega) hk];rfl
theorem crossRB_eq {xs:List In}(h:Placed xs){l:Nat}(c:l<xs.length):crossRB xs (bodyL xs) l=crossPB xs l:=by
 unfold crossRB crossPB
 by_cases h20:(nth xs l).op=20
 ·rw [Bool.eq_iff_iff];simp only [h20,decide_true,Bool.true_and];obtain ⟨_,_,_,_,w,u,z,_⟩:=loop_ok h (l:=lpAt xs l) (loopsU_mem.2 ⟨l,c,h20,rfl⟩);rw [List.any_eq_true,List.any_eq_true]
  constructor
  ·rintro ⟨m,hm,b⟩;rw [List.mem_range] at hm;unfold pairB at b;simp only [Bool.and_eq_true,decide_eq_true_eq,Bool.not_eq_true'] at b;obtain ⟨a,n,o⟩:=b;obtain ⟨p,b,g,f⟩:=cnt_iff.2.2.1 n;obtain ⟨q,k,hq1,d⟩:=all_iff.1 o;rw [body_mem b (by omega) a] at g;rw [body_mem b c h20] at f;rw [body_mem k (by omega) a] at hq1;rw [body_mem k c h20] at d;rw [within_iff] at g f hq1;rw [within_no] at d;refine ⟨lpAt xs m,loopsU_mem.2 ⟨m,hm,a,rfl⟩,enters_iff.2 ?_⟩;have r:(lpAt xs m).t=m:=rfl;have s:(lpAt xs l).t=l:=rfl
   omega
  ·rintro ⟨e,he,i⟩;obtain ⟨m,hm,a,rfl⟩:=loopsU_mem.1 he;obtain ⟨_,_,_,_,m0,y,A,_⟩:=loop_ok h (l:=lpAt xs m) (loopsU_mem.2 ⟨m,by omega,a,rfl⟩);rw [enters_iff] at i;refine ⟨m,List.mem_range.2 hm,?_⟩;unfold pairB;simp only [Bool.and_eq_true,decide_eq_true_eq,Bool.not_eq_true'];have r:(lpAt xs m).t=m:=rfl;have s:(lpAt xs l).t=l:=rfl;refine ⟨a,cnt_iff.2.2.2 ⟨(lpAt xs l).h.toNat,by omega,?_,?_⟩,all_iff.2 ⟨(lpAt xs m).h.toNat,by omega,?_,?_⟩⟩
   ·rw [body_mem (by omega) (by omega) a,within_iff];omega
   ·rw [body_mem (by omega) c h20,within_iff];omega
   ·rw [body_mem (by omega) (by omega) a,within_iff];omega
   ·rw [body_mem (by omega) c h20,within_no];omega
 ·rw [decide_eq_false h20,Bool.false_and,Bool.false_and]
theorem cross_eq {xs:List In}(h:Placed xs):crossF [] (loopsL xs)=(first (crossRB xs (bodyL xs)) xs.length).map fun (j:Nat)=>(j:Int):=by
 have a:=crossF_first xs xs.length 0 (fun j c=>by omega);have b:=loopsF_all xs xs.length 0;rw [Nat.zero_add] at a b
 have e:loopsF xs 0 xs.length=loopsL xs:=by unfold loopsL;rw [b];rfl
 rw [e] at a;rw [first_congr (q:=crossPB xs) (fun j c=>crossRB_eq h c)];exact a
def outB (xs:List In) (rows:List (List Int)) (p:Nat) (to:Int) (l:Int):Bool := !memB (row rows p) l&&decide (to≠l-(nth xs l.toNat).d)
def enterRB (xs:List In) (rows:List (List Int)) (p:Nat):Bool :=
 (nth xs p).leads&&(decide (0<=(nth xs p).far)&&(row rows ((p:Int)+(nth xs p).far).toNat).any (outB xs rows p (p+(nth xs p).far)))
theorem enter_eq {xs : List In}(h : Placed xs)(P : crossF [] (loopsL xs) = none){p : Nat}(s : p < xs.length) : enterRB xs (bodyL xs) p = intrB xs (loopsL xs) p := by
  obtain ⟨hr, g0, Z, g2⟩ := qCd s (h p s);unfold enterRB intrB
  rcases qAp (nth xs p) with b | b | b | b
  · rw [b.2.2.1]; rfl
  · obtain ⟨_, g, L, f, z, _, d0, S⟩ := b
    rw [z, Bool.true_and, Bool.true_and, decide_eq_true (by omega), Bool.true_and]
    have G : ((p : Int) + (nth xs p).far).toNat < xs.length := by omega
    have I : ((((p : Int) + (nth xs p).far).toNat : Nat) : Int) = (p : Int) + (nth xs p).far := by omega
    rw [Bool.eq_iff_iff, List.any_eq_true, List.any_eq_true]
    constructor
    · rintro ⟨t, J, D⟩
      rw [bodyL, bodyU_row G, around_mem, I] at J;obtain ⟨l, a, V, rfl⟩ := J;obtain ⟨k, E, o, e, N, T, X, _⟩ := loop_ok h a;refine ⟨l, a, enters_iff.2 ?_⟩;unfold outB at D;rw [Bool.and_eq_true, Bool.not_eq_true', decide_eq_true_eq] at D;obtain ⟨g, L⟩ := D
      have u : l.t = (k : Nat) := by rw [e]
      have R : l.h = k - (nth xs k).d := by rw [e]
      rw [u, body_mem s E o, within_no] at g;rw [u, show ((k : Int)).toNat = k by omega] at L
      have y : lpAt xs k = l := by
        obtain ⟨k', M, _, r⟩ := loopsU_mem.1 a
        have : k' = k := by have : l.t = (k' : Int) := by rw [r]; rfl
                            omega
        rw [r, this]
      rw [y] at g;rw [within_iff] at V
      omega
    · rintro ⟨l, a, n⟩
      obtain ⟨k, E, o, e, N, T, X, _⟩ := loop_ok h a;rw [enters_iff] at n;refine ⟨l.t, ?_, ?_⟩
      · rw [bodyL, bodyU_row G, around_mem, I]
        exact ⟨l, a, within_iff.2 (by omega), rfl⟩
      · unfold outB
        rw [Bool.and_eq_true, Bool.not_eq_true', decide_eq_true_eq]
        have u : l.t = (k : Nat) := by rw [e]
        have R : l.h = k - (nth xs k).d := by rw [e]
        have y : lpAt xs k = l := by
          obtain ⟨k', M, _, r⟩ := loopsU_mem.1 a
          have : k' = k := by have : l.t = (k' : Int) := by rw [r]; rfl
                              omega
          rw [r, this]
        rw [u, body_mem s E o, within_no, y, show ((k : Int)).toNat = k by omega]
        omega
  · obtain ⟨_, g, f, z, _, d0, S, _⟩ := b
    rw [decide_eq_false (by omega), Bool.false_and, Bool.and_false, z, Bool.true_and, eq_comm, List.any_eq_false];intro l a n;rw [enters_iff] at n;obtain ⟨A, B, i⟩ := List.append_of_mem (show lpAt xs p ∈ loopsL xs from loopsU_mem.2 ⟨p, s, g, rfl⟩);have c := loopsU_sorted xs xs.length;rw [show loopsU xs xs.length = loopsL xs from rfl, i, List.pairwise_append] at c;obtain ⟨Y, O, Q⟩ := c;have e1 : (lpAt xs p).t = p := rfl;have e2 : (lpAt xs p).h = p + (nth xs p).far := rfl
    have F : l ∈ A ∨ l = lpAt xs p ∨ l ∈ B := by rw [i] at a; simpa using a
    rcases F with w | rfl | w
    · have K := crossF_none _ _ P A B [] (lpAt xs p) i l (by simpa using w)
      have U := Q l w (lpAt xs p) (by simp);rw [(enters_iff (l := l)).2 (by omega)] at K
      cases K
    · omega
    · have U := (List.pairwise_cons.1 O).1 l w
      omega
  · rw [b.2.2.2.1]; rfl
def earlyR (xs:List In):List Int->Int->Int
 | [],t=>t
 | l :: r,t=>if t<=256 then earlyR xs r (t*((nth xs l.toNat).imm+1)) else t
def costR (xs:List In) (rows:List (List Int)):Nat->Int
 | 0=>0
 | n+1=>costR xs rows n+earlyR xs (row rows n) 1
def Named (xs:List In) (ls:List Lp):Prop:=∀ l∈ls,(nth xs l.t.toNat).imm=l.b
theorem early_min {xs:List In}{p:Int}:∀ {ls:List Lp} {t:Int},Bnd ls->Named xs ls->1<=t->t<=65536->1<=earlyR xs (aroundL ls p) t/\earlyR xs (aroundL ls p) t<=65536/\min (earlyR xs (aroundL ls p) t) 257=min (timesT p ls t) 257
 | [],t,_,_,h1,h2=>⟨h1,h2,rfl⟩
 | l :: r,t,hb,hn,h1,h2=>by
  have i:=hb l (by simp)
  have a:Bnd r:=fun x d=>hb x (by simp [d])
  have c:Named xs r:=fun x d=>hn x (by simp [d])
  cases hw:inLpB l p
  ·have e:aroundL (l :: r) p=aroundL r p:=by simp [aroundL,hw]
   rw [e,timesT,hw];exact early_min a c h1 h2
  ·have e:aroundL (l :: r) p=l.t :: aroundL r p:=by simp [aroundL,hw]
   rw [e,earlyR,timesT,hw,hn l (by simp),if_pos rfl];have g:=mul_grow h1 (show 0<=l.b by omega)
   by_cases h:t<=256
   ·rw [if_pos h];have f:t*(l.b+1)<=256*256:=Int.mul_le_mul h (by omega) (by omega) (by omega);exact early_min a c (by omega) (by omega)
   ·rw [if_neg h];have f:=timesT_ge (p:=p) a (show 1<=t*(l.b+1) by omega);exact ⟨h1,h2,by omega⟩
theorem named_ok {xs:List In}{n:Nat}:Named xs (loopsU xs n):=fun l a=>by
 obtain ⟨k,b,_,rfl⟩:=loopsU_mem.1 a
 simp [lpAt]
theorem early_ok {xs:List In}(h:Placed xs){p:Nat}(a:p<xs.length):1<=earlyR xs (row (bodyL xs) p) 1/\earlyR xs (row (bodyL xs) p) 1<=65536/\min (earlyR xs (row (bodyL xs) p) 1) 257=timesC p (loopsL xs) 1:=by
 rw [bodyL,bodyU_row a,timesC_eq (bnd_ok h)];exact early_min (bnd_ok h) named_ok (by omega) (by omega)
theorem costR_ok {xs:List In}(h:Placed xs){n:Nat}(b:n<=xs.length):costC (loopsL xs) n<=costR xs (bodyL xs) n/\0<=costR xs (bodyL xs) n/\costR xs (bodyL xs) n<=65536*n/\(costC (loopsL xs) n<=256->costR xs (bodyL xs) n=costC (loopsL xs) n):=by
 induction n with
 | zero=>simp [costC,costR]
 | succ n ih =>
  have d:=early_ok h (show n<xs.length by omega);have c:=ih (by omega);have a:=(costC_le (bnd_ok h) n).2.1;rw [costC,costR]
  omega
def checkR (xs:List In):Int×Int :=
 if xs.length=0 then (0,10) else if 64<xs.length then (0,11) else
 match first (placeB xs) xs.length with
 | some k=>(k,placeE xs k)
 | none=>match first (crossRB xs (bodyL xs)) xs.length with
  | some t=>(t,31)
  | none=>match first (enterRB xs (bodyL xs)) xs.length with
   | some p=>(p,31)
   | none=>if 256<costR xs (bodyL xs) xs.length then (0,32) else (0,0)
theorem checkR_eq (xs:List In):checkR xs=checkL xs:=by
 unfold checkR checkL
 split
 ·rfl
 split
 ·rfl
 rcases first_cases (placeB xs) xs.length with ⟨c,f⟩|⟨k,c,_⟩
 ·rw [c];have a:Placed xs:=f
  dsimp only
  rw [cross_eq a]
  rcases first_cases (crossRB xs (bodyL xs)) xs.length with ⟨b,i⟩|⟨k,b,_⟩
  ·have d:crossF [] (loopsL xs)=none:=by rw [cross_eq a,b];rfl
   rw [b,first_congr (q:=intrB xs (loopsL xs)) (fun j g=>enter_eq a d g)]
   dsimp only [Option.map]
   cases first (intrB xs (loopsL xs)) xs.length with
   | some p=>rfl
   | none =>
    dsimp only
    have:=costR_ok a (Nat.le_refl _)
    by_cases hx:costC (loopsL xs) xs.length<=256
    ·rw [if_neg (by omega),if_neg (by omega)]
    ·rw [if_pos (by omega),if_pos (by omega)]
  ·rw [b];rfl
 ·rw [c]
theorem named_A8 (op d a b c:Int)(w:World)(g:(b==8)=true):Cl 148 #[Shape.v ⟨true,false,true,0,0,0,0⟩,instV op d a b c] w fun e f=>e=.returned (instV op d 0 b c)/\Bw w f:=by
 go_enter Tryz.func148,Tryz.ntmps148;go_wp2
 go_returns
 exact ⟨rfl,by go_grown⟩
theorem named_Ar (op d a b c:Int)(w:World)(g:(b==8)=false):Cl 148 #[Shape.v ⟨true,false,true,0,0,0,0⟩,instV op d a b c] w fun e f=>e=.returned (instV op d 0 b 0)/\Bw w f:=by
 go_enter Tryz.func148,Tryz.ntmps148;go_wp2
 go_returns
 exact ⟨rfl,by go_grown⟩
theorem named_B8 (op d a b c:Int)(w:World)(g:(b==8)=true):Cl 148 #[Shape.v ⟨true,true,true,0,0,0,0⟩,instV op d a b c] w fun e f=>e=.returned (instV op d a b c)/\Bw w f:=by
 go_enter Tryz.func148,Tryz.ntmps148;go_wp2
 go_returns
 exact ⟨rfl,by go_grown⟩
theorem named_Br (op d a b c:Int)(w:World)(g:(b==8)=false):Cl 148 #[Shape.v ⟨true,true,true,0,0,0,0⟩,instV op d a b c] w fun e f=>e=.returned (instV op d a b 0)/\Bw w f:=by
 go_enter Tryz.func148,Tryz.ntmps148;go_wp2
 go_returns
 exact ⟨rfl,by go_grown⟩
theorem named_C8 (op d a b c:Int)(w:World)(g:(b==8)=true):Cl 148 #[Shape.v ⟨false,true,true,0,0,0,0⟩,instV op d a b c] w fun e f=>e=.returned (instV op 0 a b c)/\Bw w f:=by
 go_enter Tryz.func148,Tryz.ntmps148;go_wp2
 go_returns
 exact ⟨rfl,by go_grown⟩
theorem named_Cr (op d a b c:Int)(w:World)(g:(b==8)=false):Cl 148 #[Shape.v ⟨false,true,true,0,0,0,0⟩,instV op d a b c] w fun e f=>e=.returned (instV op 0 a b 0)/\Bw w f:=by
 go_enter Tryz.func148,Tryz.ntmps148;go_wp2
 go_returns
 exact ⟨rfl,by go_grown⟩
theorem named_D (op d a b c:Int)(w:World):Cl 148 #[Shape.v ⟨true,false,false,0,0,0,1⟩,instV op d a b c] w fun e f=>e=.returned (instV op d 0 0 c)/\Bw w f:=by
 go_enter Tryz.func148,Tryz.ntmps148;go_wp2
 go_returns
 exact ⟨rfl,by go_grown⟩
theorem named_E (op d a b c:Int)(w:World):Cl 148 #[Shape.v ⟨true,false,false,0,0,0,3⟩,instV op d a b c] w fun e f=>e=.returned (instV op d 0 0 c)/\Bw w f:=by
 go_enter Tryz.func148,Tryz.ntmps148;go_wp2
 go_returns
 exact ⟨rfl,by go_grown⟩
theorem named_F (op d a b c:Int)(w:World):Cl 148 #[Shape.v ⟨false,false,false,0,63,0,0⟩,instV op d a b c] w fun e f=>e=.returned (instV op d 0 0 0)/\Bw w f:=by
 go_enter Tryz.func148,Tryz.ntmps148;go_wp2
 go_returns
 exact ⟨rfl,by go_grown⟩
theorem named_G8 (op d a b c:Int)(w:World)(g:(b==8)=true):Cl 148 #[Shape.v ⟨false,true,true,0,63,0,0⟩,instV op d a b c] w fun e f=>e=.returned (instV op d a b c)/\Bw w f:=by
 go_enter Tryz.func148,Tryz.ntmps148;go_wp2
 go_returns
 exact ⟨rfl,by go_grown⟩
theorem named_Gr (op d a b c:Int)(w:World)(g:(b==8)=false):Cl 148 #[Shape.v ⟨false,true,true,0,63,0,0⟩,instV op d a b c] w fun e f=>e=.returned (instV op d a b 0)/\Bw w f:=by
 go_enter Tryz.func148,Tryz.ntmps148;go_wp2
 go_returns
 exact ⟨rfl,by go_grown⟩
theorem named_H (op d a b c:Int)(w:World):Cl 148 #[Shape.v ⟨false,true,false,1,63,1,255⟩,instV op d a b c] w fun e f=>e=.returned (instV op d a 0 c)/\Bw w f:=by
 go_enter Tryz.func148,Tryz.ntmps148;go_wp2
 go_returns
 exact ⟨rfl,by go_grown⟩
theorem named_I (op d a b c:Int)(w:World):Cl 148 #[Shape.v ⟨false,false,false,0,0,0,6⟩,instV op d a b c] w fun e f=>e=.returned (instV op 0 0 0 c)/\Bw w f:=by
 go_enter Tryz.func148,Tryz.ntmps148;go_wp2
 go_returns
 exact ⟨rfl,by go_grown⟩
theorem named_J (op d a b c:Int)(w:World):Cl 148 #[Shape.v ⟨false,true,false,0,0,0,0⟩,instV op d a b c] w fun e f=>e=.returned (instV op 0 a 0 0)/\Bw w f:=by
 go_enter Tryz.func148,Tryz.ntmps148;go_wp2
 go_returns
 exact ⟨rfl,by go_grown⟩
theorem zero_op {op:Int}(h:(shapeL op).zero=false):0<=op/\op<=22:=by
 by_cases hx:op<0∨22<op
 ·rw [shapeL_none hx] at h;cases h
 ·omega
theorem cases_op {op:Int}(h:0<=op/\op<=22):(op=0∨op=11)∨(1<=op/\op<=10)∨op=12∨op=13∨op=14∨op=15∨(16<=op/\op<=19)∨op=20∨op=21∨op=22:=by omega
theorem zero_right {op d a b f:Int}(h:(shapeL op).zero=true):rightB op d a b f=false:=by
 by_cases hx:op<0∨22<op
 ·exact rightB_none hx
 ·exfalso
  rcases cases_op (op:=op) (by omega) with c|c|rfl|rfl|rfl|rfl|c|rfl|rfl|rfl
  ·rw [shape_A c] at h;cases h
  ·rw [shape_B c] at h;cases h
  ·cases h
  ·cases h
  ·cases h
  ·cases h
  ·rw [shape_G c] at h;cases h
  ·cases h
  ·cases h
  ·cases h
theorem named_any (op d a b c:Int)(w:World)(k:0<=op/\op<=22):Cl 148 #[(shapeL op).v,instV op d a b c] w fun e l =>
  ∃ j:In,e=.returned j.v/\Bw w l/\rightB op d a b c=(!neI ⟨op,d,a,b,c⟩ j&&fitsB (shapeL op).dest (shapeL op).source (shapeL op).farL (shapeL op).farM (shapeL op).immL (shapeL op).immM d a b c):=by
 rcases cases_op k with g|g|rfl|rfl|rfl|rfl|g|rfl|rfl|rfl
 ·rw [shape_A g]
  cases h8:(b==8)
  ·exact ((named_Ar op d a b c w h8).mono fun e i ⟨he,f⟩=>⟨⟨op,d,0,b,0⟩,he,f,by rw [right_A g];simp [neI,h8]⟩)
  ·exact ((named_A8 op d a b c w h8).mono fun e i ⟨he,f⟩=>⟨⟨op,d,0,b,c⟩,he,f,by rw [right_A g];simp [neI,h8]⟩)
 ·rw [shape_B g]
  cases h8:(b==8)
  ·exact ((named_Br op d a b c w h8).mono fun e i ⟨he,f⟩=>⟨⟨op,d,a,b,0⟩,he,f,by rw [right_B g];simp [neI,h8]⟩)
  ·exact ((named_B8 op d a b c w h8).mono fun e i ⟨he,f⟩=>⟨⟨op,d,a,b,c⟩,he,f,by rw [right_B g];simp [neI,h8]⟩)
 ·skip
  cases h8:(b==8)
  ·exact ((named_Cr 12 d a b c w h8).mono fun e i ⟨he,f⟩=>⟨⟨12,0,a,b,0⟩,he,f,by refine (right_C).trans ?_;simp [neI,h8];rfl⟩)
  ·exact ((named_C8 12 d a b c w h8).mono fun e i ⟨he,f⟩=>⟨⟨12,0,a,b,c⟩,he,f,by refine (right_C).trans ?_;simp [neI,h8];rfl⟩)
 ·exact ((named_D 13 d a b c w).mono fun e i ⟨he,f⟩=>⟨⟨13,d,0,0,c⟩,he,f,by refine (right_D).trans ?_;simp [neI];rfl⟩)
 ·exact ((named_E 14 d a b c w).mono fun e i ⟨he,f⟩=>⟨⟨14,d,0,0,c⟩,he,f,by refine (right_E).trans ?_;simp [neI];rfl⟩)
 ·exact ((named_F 15 d a b c w).mono fun e i ⟨he,f⟩=>⟨⟨15,d,0,0,0⟩,he,f,by refine (right_F).trans ?_;simp [neI];rfl⟩)
 ·rw [shape_G g]
  cases h8:(b==8)
  ·exact ((named_Gr op d a b c w h8).mono fun e i ⟨he,f⟩=>⟨⟨op,d,a,b,0⟩,he,f,by rw [right_G g];simp [neI,h8]⟩)
  ·exact ((named_G8 op d a b c w h8).mono fun e i ⟨he,f⟩=>⟨⟨op,d,a,b,c⟩,he,f,by rw [right_G g];simp [neI,h8]⟩)
 ·exact ((named_H 20 d a b c w).mono fun e i ⟨he,f⟩=>⟨⟨20,d,a,0,c⟩,he,f,by refine (right_H).trans ?_;simp [neI];rfl⟩)
 ·exact ((named_I 21 d a b c w).mono fun e i ⟨he,f⟩=>⟨⟨21,0,0,0,c⟩,he,f,by refine (right_I).trans ?_;simp [neI];rfl⟩)
 ·exact ((named_J 22 d a b c w).mono fun e i ⟨he,f⟩=>⟨⟨22,0,a,0,0⟩,he,f,by refine (right_J).trans ?_;simp [neI];rfl⟩)
def wayS (p q:Int) (c:Int->Int) (s:Int×Int) (l:Lp):Int×Int :=
 if inLpB l q then (s.1*(l.b+1),if inLpB l p then (l.b-c l.t)*s.1+s.2 else if p<=q then s.1*(l.b+1) else 0) else s
def wayF (p q:Int) (c:Int->Int) (ls:List Lp) (s:Int×Int):Int×Int:=ls.foldl (wayS p q c) s
def wayP (p q:Int) (c:Int->Int) (ls:List Lp):Int:=(wayF p q c ls (1,if p<=q then 1 else 0)).2
def Cnt (ls:List Lp) (c:Int->Int):Prop:=∀ l∈ls,0<=c l.t/\c l.t<=l.b
theorem way_fst (p q:Int)(c:Int->Int):∀ (ls:List Lp) (s:Int×Int),(wayF p q c ls s).1=timesT q ls s.1
 | [],s=>rfl
 | l :: r,s=>by
  show (wayF p q c r (wayS p q c s l)).1=_
  rw [way_fst p q c r,timesT];unfold wayS
  split<;>rfl
theorem mul_bd {b c P:Int}(h0:0<=c)(k:c<=b)(a:1<=P):0<=(b-c)*P/\(b-c)*P+P<=P*(b+1):=by
 have d:0<=(b-c)*P:=Int.mul_nonneg (by omega) (by omega);have g:0<=c*P:=Int.mul_nonneg h0 (by omega);have f:(b-c)*P=b*P-c*P:=Int.sub_mul ..
 have i:P*(b+1)=b*P+P:=by rw [Int.mul_add,Int.mul_comm];omega
 omega
theorem way_bd {p q:Int}{c:Int->Int}:∀ {ls:List Lp} {s:Int×Int},Cnt ls c->Bnd ls->1<=s.1->0<=s.2->s.2<=s.1->1<=(wayF p q c ls s).1/\0<=(wayF p q c ls s).2/\(wayF p q c ls s).2<=(wayF p q c ls s).1
 | [],s,_,_,h1,h2,h3=>⟨h1,h2,h3⟩
 | l :: r,s,hc,hb,h1,h2,h3=>by
  have g:Cnt r c:=fun x a=>hc x (by simp [a])
  have f:Bnd r:=fun x a=>hb x (by simp [a])
  have d:=hc l (by simp);have i:=hb l (by simp)
  show 1<=(wayF p q c r (wayS p q c s l)).1/\_
  have hm:=mul_bd d.1 d.2 h1;have k:=mul_grow h1 (show 0<=l.b by omega)
  refine way_bd g f ?_ ?_ ?_<;>unfold wayS<;>split<;>first|assumption|skip
  ·show 1<=s.1*(l.b+1);omega
  ·show 0<=(if inLpB l p then (l.b-c l.t)*s.1+s.2 else if p<=q then s.1*(l.b+1) else 0)
   split
   ·omega
   ·split<;>omega
  ·show (if inLpB l p then (l.b-c l.t)*s.1+s.2 else if p<=q then s.1*(l.b+1) else 0)<=s.1*(l.b+1)
   split
   ·omega
   ·split<;>omega
def Fwd (ls:List Lp) (p p':Int) (c c':Int->Int):Prop:=p<p'/\∀ l∈ls,(inLpB l p=true->inLpB l p'=true->c' l.t=c l.t)/\(inLpB l p=true->inLpB l p'=false->l.t<p')/\(inLpB l p=false->inLpB l p'=true->p'=l.h)
theorem way_fwd {p p' q:Int}{c c':Int->Int}{d:Int}(k:d=0∨(d=1/\q=p)):∀ {ls:List Lp} {s s':Int×Int},Fwd ls p p' c c'->Cnt ls c->Cnt ls c'->Bnd ls->s'.1=s.1->1<=s.1->0<=s.2->s.2<=s.1->0<=s'.2->s'.2<=s.1->s'.2+d<=s.2 ->
  (wayF p' q c' ls s').2+d<=(wayF p q c ls s).2
 | [],s,s',_,_,_,_,_,_,_,_,_,_,h=>h
 | l :: r,s,s',hf,hc,hc',hb,he,h1,h2,h3,h4,h5,h6=>by
  have f:Fwd r p p' c c':=⟨hf.1,fun x n=>hf.2 x (by simp [n])⟩
  have i:Cnt r c:=fun x n=>hc x (by simp [n])
  have a:Cnt r c':=fun x n=>hc' x (by simp [n])
  have g:Bnd r:=fun x n=>hb x (by simp [n])
  have z:=hc l (by simp);have u:=hc' l (by simp);have G:=hb l (by simp);obtain ⟨E,D,f3⟩:=hf.2 l (by simp);have J:=hf.1;have hm:=mul_bd z.1 z.2 h1;have I:=mul_bd u.1 u.2 h1;have L:=mul_grow h1 (show 0<=l.b by omega)
  show (wayF p' q c' r (wayS p' q c' s' l)).2+d<=(wayF p q c r (wayS p q c s l)).2
  cases hq:inLpB l q
  ·have w:wayS p' q c' s' l=s':=by unfold wayS;rw [hq];rfl
   have y:wayS p q c s l=s:=by unfold wayS;rw [hq];rfl
   rw [w,y];exact way_fwd k f i a g he h1 h2 h3 h4 h5 h6
  ·have w:wayS p' q c' s' l=(s.1*(l.b+1),if inLpB l p' then (l.b-c' l.t)*s.1+s'.2 else if p'<=q then s.1*(l.b+1) else 0):=by unfold wayS;rw [hq,he];rfl
   have y:wayS p q c s l=(s.1*(l.b+1),if inLpB l p then (l.b-c l.t)*s.1+s.2 else if p<=q then s.1*(l.b+1) else 0):=by unfold wayS;rw [hq];rfl
   rw [w,y];have K:=within_iff.1 hq
   cases hp:inLpB l p<;>cases hp':inLpB l p'
   ·have A:d=0:=by
     rcases k with h|⟨_,h⟩
     ·exact h
     ·subst h;rw [hq] at hp;cases hp
    refine way_fwd k f i a g rfl ?_ ?_ ?_ ?_ ?_ ?_<;>simp<;>(try split)<;>(try split)<;>omega
   ·have F:=f3 hp hp'
    have A:d=0:=by
     rcases k with h|⟨_,h⟩
     ·exact h
     ·subst h;rw [hq] at hp;cases hp
    have o:p<=q:=by omega
    refine way_fwd k f i a g rfl ?_ ?_ ?_ ?_ ?_ ?_<;>simp [o]<;>omega
   ·have F:=D hp hp'
    have o:¬ p'<=q:=by omega
    refine way_fwd k f i a g rfl ?_ ?_ ?_ ?_ ?_ ?_<;>simp [o]<;>omega
   ·have B:=E hp hp';rw [B]
    refine way_fwd k f i a g rfl ?_ ?_ ?_ ?_ ?_ ?_<;>simp<;>omega
theorem wayP_fwd {p p' q:Int}{c c':Int->Int}{ls:List Lp}(b:Fwd ls p p' c c')(f:Cnt ls c)(a:Cnt ls c')(d:Bnd ls):wayP p' q c' ls+(if q=p then 1 else 0)<=wayP p q c ls:=by
 have g:=b.1;unfold wayP
 by_cases hqp:q=p
 ·rw [if_pos hqp]
  refine way_fwd (.inr ⟨rfl,hqp⟩) b f a d rfl (by simp) ?_ ?_ ?_ ?_ ?_<;>simp<;>(try split)<;>(try split)<;>omega
 ·rw [if_neg hqp]
  refine way_fwd (.inl rfl) b f a d rfl (by simp) ?_ ?_ ?_ ?_ ?_<;>simp<;>(try split)<;>(try split)<;>omega
theorem way_like {p p' q:Int}{c c':Int->Int}(b:p<=q↔p'<=q):∀ {ls:List Lp} {s:Int×Int},(∀ l∈ls,inLpB l q=true->inLpB l p'=inLpB l p/\c' l.t=c l.t)->wayF p' q c' ls s=wayF p q c ls s
 | [],s,_=>rfl
 | l :: r,s,h=>by
  have d:∀ l∈r,inLpB l q=true->inLpB l p'=inLpB l p/\c' l.t=c l.t:=fun x a=>h x (by simp [a])
  show wayF p' q c' r (wayS p' q c' s l)=wayF p q c r (wayS p q c s l)
  have e:wayS p' q c' s l=wayS p q c s l:=by
   unfold wayS
   cases hq:inLpB l q
   ·rfl
   ·obtain ⟨f,g⟩:=h l (by simp) hq;rw [f,g]
    by_cases a:p<=q
    ·rw [if_pos a,if_pos (b.1 a)]
    ·rw [if_neg a,if_neg (fun y=>a (b.2 y))]
  rw [e];exact way_like b d
theorem way_both {p p' q:Int}{c c':Int->Int}{d:Int}:∀ {ls:List Lp} {s s':Int×Int},(∀ l∈ls,inLpB l q=true->inLpB l p'=true/\inLpB l p=true/\c' l.t=c l.t)->s'.1=s.1->s'.2+d<=s.2->(wayF p' q c' ls s').2+d<=(wayF p q c ls s).2
 | [],s,s',_,_,h=>h
 | l :: r,s,s',h,he,h6=>by
  have g:∀ l∈r,inLpB l q=true->inLpB l p'=true/\inLpB l p=true/\c' l.t=c l.t:=fun x n=>h x (by simp [n])
  show (wayF p' q c' r (wayS p' q c' s' l)).2+d<=(wayF p q c r (wayS p q c s l)).2
  cases hq:inLpB l q
  ·have a:wayS p' q c' s' l=s':=by unfold wayS;rw [hq];rfl
   have f:wayS p q c s l=s:=by unfold wayS;rw [hq];rfl
   rw [a,f];exact way_both g he h6
  ·obtain ⟨k,o,i⟩:=h l (by simp) hq
   have a:wayS p' q c' s' l=(s.1*(l.b+1),(l.b-c l.t)*s.1+s'.2):=by unfold wayS;rw [hq,k,i,he];rfl
   have f:wayS p q c s l=(s.1*(l.b+1),(l.b-c l.t)*s.1+s.2):=by unfold wayS;rw [hq,o];rfl
   rw [a,f];exact way_both g rfl (by show _+_+d<=_;omega)
theorem way_out {p q:Int}{c:Int->Int}:∀ {ls:List Lp} {s:Int×Int},(∀ l∈ls,inLpB l p=false)->s.2=(if p<=q then s.1 else 0)->(wayF p q c ls s).2=(if p<=q then (wayF p q c ls s).1 else 0)
 | [],s,_,h=>h
 | l :: r,s,h,hs=>by
  have b:∀ l∈r,inLpB l p=false:=fun x a=>h x (by simp [a])
  show (wayF p q c r (wayS p q c s l)).2=(if p<=q then (wayF p q c r (wayS p q c s l)).1 else 0)
  refine way_out b ?_;unfold wayS;rw [h l (by simp)]
  cases hq:inLpB l q
  ·exact hs
  ·rfl
theorem wayF_app (p q:Int)(c:Int->Int)(A B:List Lp)(s:Int×Int):wayF p q c (A++B) s=wayF p q c B (wayF p q c A s):=List.foldl_append
theorem wayP_back {q:Int}{c c':Int->Int}{A B:List Lp}{L:Lp}(F:Cnt (A++L :: B) c)(n:Cnt (A++L :: B) c')(U:Bnd (A++L :: B))(hh:L.h<L.t)(hA:∀ l∈A,l.t<L.t)(z:∀ l∈B,L.t<l.t)(M:∀ l∈A,¬ (l.h<L.h/\L.h<=l.t))(K:∀ l∈B,¬ (L.h<l.h/\l.h<=L.t))(u:∀ t,t≠L.t->c' t=c t)(X:c' L.t=c L.t+1):wayP L.h q c' (A++L :: B)+(if q=L.t then 1 else 0)<=wayP L.t q c (A++L :: B):=by
 cases hq:inLpB L q
 ·have I:=within_no.1 hq
  have D:q≠L.t:=by omega
  rw [if_neg D]
  have i:L.t<=q↔L.h<=q:=by omega
  unfold wayP
  have e:(if L.h<=q then (1:Int) else 0)=if L.t<=q then 1 else 0:=by
   by_cases hx:L.t<=q
   ·rw [if_pos hx,if_pos (i.1 hx)]
   ·rw [if_neg hx,if_neg (fun y=>hx (i.2 y))]
  rw [e,way_like (p:=L.t) (p':=L.h) (c:=c) (c':=c') i]
  ·omega
  intro l f g;have o:=within_iff.1 g
  have r:l∈A∨l=L∨l∈B:=by simpa using f
  rcases r with h|rfl|h
  ·have G:=hA l h;have E:=M l h;have V:inLpB l L.t=false:=within_no.2 (by omega);have Q:inLpB l L.h=false:=within_no.2 (by omega);exact ⟨by rw [V,Q],u _ (by omega)⟩
  ·rw [hq] at g;cases g
  ·have G:=z l h;have E:=K l h;refine ⟨?_,u _ (by omega)⟩
   by_cases hx:l.h<=L.h
   ·rw [within_iff.2 (by omega),within_iff.2 (by omega)]
   ·rw [within_no.2 (by omega),within_no.2 (by omega)]
 ·have I:=within_iff.1 hq
  have O:Cnt A c':=fun l f=>n l (by simp [f])
  have J:Cnt A c:=fun l f=>F l (by simp [f])
  have w:Bnd A:=fun l f=>U l (by simp [f])
  have Z:=F L (by simp);have Y:=n L (by simp);unfold wayP;rw [wayF_app,wayF_app];have hb1:=way_bd (p:=L.h) (q:=q) (s:=(1,if L.h<=q then 1 else 0)) O w (by simp) (by simp;split<;>omega) (by simp;split<;>omega);have hb0:=way_bd (p:=L.t) (q:=q) (s:=(1,if L.t<=q then 1 else 0)) J w (by simp) (by simp;split<;>omega) (by simp;split<;>omega);have ho:=way_out (p:=L.t) (q:=q) (c:=c) (ls:=A) (s:=(1,if L.t<=q then 1 else 0)) (fun l f=>within_no.2 (by have:=hA l f;omega)) rfl
  have hP:(wayF L.h q c' A (1,if L.h<=q then 1 else 0)).1=(wayF L.t q c A (1,if L.t<=q then 1 else 0)).1:=by rw [way_fst,way_fst]
  generalize wayF L.h q c' A (1,if L.h<=q then 1 else 0)=s' at hb1 hP ⊢
  generalize wayF L.t q c A (1,if L.t<=q then 1 else 0)=s at hb0 ho hP ⊢
  obtain ⟨a,k⟩:=s';obtain ⟨P,R⟩:=s;simp only at hb1 hb0 ho hP;subst hP
  have S:wayS L.h q c' (a,k) L=(a*(L.b+1),(L.b-c' L.t)*a+k):=by unfold wayS;rw [hq,within_iff.2 (show L.h<=L.h/\L.h<=L.t by omega)];rfl
  have T:wayS L.t q c (a,R) L=(a*(L.b+1),(L.b-c L.t)*a+R):=by unfold wayS;rw [hq,within_iff.2 (show L.h<=L.t/\L.t<=L.t by omega)];rfl
  show (wayF L.h q c' B (wayS L.h q c' (a,k) L)).2+_<=(wayF L.t q c B (wayS L.t q c (a,R) L)).2
  rw [S,T]
  have N:(L.b-c' L.t)*a=(L.b-c L.t)*a-a:=by rw [X,show L.b-(c L.t+1)=(L.b-c L.t)-1 by omega,Int.sub_mul,Int.one_mul]
  refine way_both (d:=if q=L.t then 1 else 0) ?_ rfl ?_
  ·intro l f g;have o:=within_iff.1 g;have G:=z l f;have E:=K l f;exact ⟨within_iff.2 (by omega),within_iff.2 (by omega),u _ (by omega)⟩
  ·show (L.b-c' L.t)*a+k+_<=(L.b-c L.t)*a+R
   rw [N]
   by_cases hx:q=L.t
   ·rw [if_pos hx];rw [if_pos (by omega)] at ho
    omega
   ·rw [if_neg hx]
    omega
def left (ls:List Lp) (p:Int) (c:Int->Int):Nat->Int
 | 0=>0
 | n+1=>left ls p c n+wayP p n c ls
theorem left_step {ls:List Lp}{p p':Int}{c c':Int->Int}(h:∀ q:Nat,wayP p' q c' ls+(if (q:Int)=p then 1 else 0)<=wayP p q c ls)(n:Nat):left ls p' c' n+(if 0<=p/\p<n then 1 else 0)<=left ls p c n:=by
 induction n with
 | zero=>simp [left];omega
 | succ n ih =>
  rw [left,left];have a:=h n
  by_cases h2:(n:Int)=p
  ·rw [if_pos h2] at a;rw [if_pos (by omega)]
   split at ih<;>omega
  ·rw [if_neg h2] at a
   by_cases h3:0<=p/\p<n
   ·rw [if_pos h3] at ih;rw [if_pos (by omega)];omega
   ·rw [if_neg h3] at ih;rw [if_neg (by omega)];omega
theorem wayP_bd {ls:List Lp}{p q:Int}{c:Int->Int}(a:Cnt ls c)(b:Bnd ls):0<=wayP p q c ls/\wayP p q c ls<=timesT q ls 1:=by
 have h:=way_bd (p:=p) (q:=q) (s:=(1,if p<=q then 1 else 0)) a b (by simp) (by simp;split<;>omega) (by simp;split<;>omega);rw [way_fst] at h;exact h.2
theorem left_cost {ls:List Lp}{p:Int}{c:Int->Int}(a:Cnt ls c)(b:Bnd ls)(n:Nat):left ls p c n<=costT ls n:=by
 induction n with
 | zero=>simp [left,costT]
 | succ n ih=>rw [left,costT];have:=wayP_bd (p:=p) (q:=n) a b;omega
theorem way_pos {p:Int}{c:Int->Int}:∀ {ls:List Lp} {s:Int×Int},Cnt ls c->Bnd ls->1<=s.1->1<=s.2->1<=(wayF p p c ls s).2
 | [],s,_,_,_,h=>h
 | l :: r,s,hc,hb,h1,h2=>by
  have d:=hc l (by simp);have f:=hb l (by simp)
  show 1<=(wayF p p c r (wayS p p c s l)).2
  have hm:=mul_bd d.1 d.2 h1;have g:=mul_grow h1 (show 0<=l.b by omega)
  refine way_pos (fun x a=>hc x (by simp [a])) (fun x a=>hb x (by simp [a])) ?_ ?_<;>unfold wayS<;>cases hq:inLpB l p<;>simp<;>omega
theorem left_pos {ls:List Lp}{c:Int->Int}(b:Cnt ls c)(a:Bnd ls)(p n:Nat)(i:p<n):1<=left ls p c n:=by
 have d:∀ m,0<=left ls p c m:=by
  intro m
  induction m with
  | zero=>simp [left]
  | succ m ih=>rw [left];have:=wayP_bd (p:=p) (q:=m) b a;omega
 induction n with
 | zero=>omega
 | succ n ih =>
  rw [left]
  by_cases h:p=n
  ·subst h;have f:=d p;have g:1<=wayP p p c ls:=way_pos b a (by simp) (by simp)
   omega
  ·have f:=ih (by omega);have g:=wayP_bd (p:=p) (q:=n) b a
   omega
theorem way_step {xs:List In}(T:Taken xs){k:Nat}{k':Int}{c c':Int->Int}(y:k<xs.length)(u:Cnt (loopsL xs) c)(M:∀ t:Int,t≠k->c' t=c t)(h:(k'=k+1/\((nth xs k).op=20->c' k=0)/\(nth xs k).on=true)∨(k'=k+(nth xs k).far/\(nth xs k).leads=true/\(nth xs k).op≠20)∨(k'=k+(nth xs k).far/\(nth xs k).op=20/\c k<(nth xs k).imm/\c' k=c k+1)) :
  Cnt (loopsL xs) c'/\0<=k'/\k'<xs.length/\left (loopsL xs) k' c' xs.length+1<=left (loopsL xs) k c xs.length:=by
 have K:Placed xs:=T.place;have E:=bnd_ok K;obtain ⟨hr,g0,g1,V⟩:=qCd y (T.place k y);have Y:=qAp (nth xs k)
 have D:∀ l∈loopsL xs,l.t=k->(nth xs k).op=20/\l=lpAt xs k:=by
  intro l a s;obtain ⟨j,hj,f,rfl⟩:=loopsU_mem.1 a;simp only [lpAt] at s
  obtain rfl:j=k:=by omega
  exact ⟨f,rfl⟩
 have i:Cnt (loopsL xs) c':=by
  intro l a
  by_cases s:l.t=k
  ·obtain ⟨f,rfl⟩:=D l a s;have d:=u _ a;have b:=E _ a;simp only [lpAt] at d b ⊢
   rcases h with ⟨_,h,_⟩|⟨_,_,h⟩|⟨_,_,n,z⟩
   ·have:=h f;omega
   ·exact absurd f h
   ·omega
  ·rw [M _ s];exact u l a
 refine ⟨i,?_⟩
 have g:(0<=k'/\k'<xs.length)/\∀ q:Nat,wayP k' q c' (loopsL xs)+(if (q:Int)=k then 1 else 0)<=wayP k q c (loopsL xs):=by
  by_cases hback:k'=k+(nth xs k).far/\(nth xs k).op=20/\c k<(nth xs k).imm/\c' k=c k+1
  ·obtain ⟨O,f,n,z⟩:=hback;refine ⟨by omega,fun q=>?_⟩;have w:lpAt xs k∈loopsL xs:=loopsU_mem.2 ⟨k,y,f,rfl⟩;obtain ⟨A,B,o⟩:=List.append_of_mem w;have r:=loopsU_sorted xs xs.length;rw [show loopsU xs xs.length=loopsL xs from rfl,o,List.pairwise_append] at r;obtain ⟨s1,U,Z⟩:=r
   have I:∀ l∈A,l.t<(lpAt xs k).t:=fun l a=>Z l a _ (by simp)
   have F:∀ l∈B,(lpAt xs k).t<l.t:=fun l a=>(List.pairwise_cons.1 U).1 l a
   have G:=T.cross
   have P:∀ l∈A,¬ (l.h<(lpAt xs k).h/\(lpAt xs k).h<=l.t):=fun l a hx=>by
    have h:=crossF_none _ _ G A B [] (lpAt xs k) o l (by simpa using a);have S:=I l a;rw [(enters_iff (l:=l)).2 (by omega)] at h
    cases h
   have nB:∀ l∈B,¬ ((lpAt xs k).h<l.h/\l.h<=(lpAt xs k).t):=fun l a hx=>by
    obtain ⟨R,Q,rfl⟩:=List.append_of_mem a;have h:=crossF_none _ _ G (A++lpAt xs k :: R) Q [] l (by rw [o];simp) (lpAt xs k) (by simp);have S:=F l a;rw [(enters_iff (l:=lpAt xs k)).2 (by omega)] at h
    cases h
   have e1:k'=(lpAt xs k).h:=O;have e2:(k:Int)=(lpAt xs k).t:=rfl
   have N:(lpAt xs k).h<(lpAt xs k).t:=by obtain ⟨_,_,_,_,_,h,_⟩:=loop_ok K w;exact h
   rw [o] at u i E ⊢;rw [e1,e2];exact wayP_back u i E N I F P nB M z
  ·have J:k<k'/\k'<xs.length/\((k'=k+1)∨((nth xs k).leads=true/\k'=k+(nth xs k).far/\(nth xs k).op≠20)):=by
    rcases h with ⟨d,b,n⟩|⟨d,b,n⟩|h
    ·have:=V n;omega
    ·refine ⟨?_,by omega,.inr ⟨b,d,n⟩⟩
     rcases Y with h|h|h|h
     ·rw [h.2.2.1] at b;cases b
     ·omega
     ·exact absurd h.2.1 n
     ·rw [h.2.2.2.1] at b;cases b
    ·exact absurd h hback
   refine ⟨by omega,fun q=>wayP_fwd ⟨J.1,fun l a=>⟨fun d b=>?_,fun d b=>?_,fun d b=>?_⟩⟩ u i E⟩
   ·rw [within_iff] at d b
    refine M _ fun s=>?_
    omega
   ·rw [within_iff] at d;rw [within_no] at b
    omega
   ·rw [within_no] at d;rw [within_iff] at b
    rcases J.2.2 with n|⟨n,z,_⟩
    ·omega
    ·have L:=T.intr k y;unfold intrB at L;rw [n,Bool.true_and,List.any_eq_false] at L;have X:=L l a;rw [enters_iff,<- z] at X
     omega
 refine ⟨g.1.1,g.1.2,?_⟩;have:=left_step g.2 xs.length;rw [if_pos (by omega)] at this;exact this
end Go.Proofs.YtmdhljoicnommaaGreat
