/-
  S6RDoA
  S6RDoB
-/
import Derived.Test.YtmdhljoicnommaaGreatMS10
import Derived.Deep.RegionWith
namespace Go.Proofs.YtmdhljoicnommaaGreat
set_option maxHeartbeats 12800000
open Go.RowKit
set_option linter.unusedVariables false
set_option maxRecDepth 20000
theorem sdo_add1 (a A b B:Int)(w:World)(f:0<=a/\a<=A/\A<=18446744073709551615)(d:0<=b/\b<=B/\B<=18446744073709551615)(g:(a==A)=false)(h:A<=18446744073709551615-B) :
  Cl 143 #[I4 1,.agg #[U8 a,U8 A],.agg #[U8 b,U8 B]] w fun e c=>e=.returned (.tuple #[.agg #[U8 (a+b),U8 (A+B)],.bool true])/\Bw w c:=by
 have i:decide (a<=A)=true:=decide_eq_true f.2.1;have k:decide (b<=B)=true:=decide_eq_true d.2.1;go_enter Tryz.func143,Tryz.ntmps143
 go_wp2_with (first
  | (go_at_call 146;go_must (refine (qAe _ _ _).mono ?_);rintro e c ⟨rfl,rfl⟩)
  | (go_at_call 158;go_must (refine (qAo _ _ _ (by omega) (by omega)).mono ?_);rintro e c ⟨rfl,rfl⟩)
  | (go_at_call 159;go_must (refine (qAq _ _ (by omega)).mono ?_);rintro e c ⟨rfl,rfl⟩))
 all_goals refine bodyPost_ret (v:=.tuple #[.agg #[U8 (a+b),U8 (A+B)],.bool true]) ?_ rfl ⟨rfl,by go_grown⟩
 all_goals rw [results_cell_tmp rfl]
 all_goals simp [asAddr,Result.andThen]
 all_goals rw [qAc (a:=a+b) (A:=A+B)]
 all_goals go_cell
theorem sdo_add1s (a b B:Int)(w:World)(f:0<=a/\a<=a/\a<=18446744073709551615)(d:0<=b/\b<=B/\B<=18446744073709551615)(g:(b==B)=false)(h:a<=18446744073709551615-B) :
  Cl 143 #[I4 1,.agg #[U8 a,U8 a],.agg #[U8 b,U8 B]] w fun e c=>e=.returned (.tuple #[.agg #[U8 (a+b),U8 (a+B)],.bool true])/\Bw w c:=by
 have i:decide (a<=a)=true:=decide_eq_true f.2.1;have k:decide (b<=B)=true:=decide_eq_true d.2.1;go_enter Tryz.func143,Tryz.ntmps143
 go_wp2_with (first
  | (go_at_call 146;go_must (refine (qAe _ _ _).mono ?_);rintro e c ⟨rfl,rfl⟩)
  | (go_at_call 158;go_must (refine (qAo _ _ _ (by omega) (by omega)).mono ?_);rintro e c ⟨rfl,rfl⟩)
  | (go_at_call 159;go_must (refine (qAq _ _ (by omega)).mono ?_);rintro e c ⟨rfl,rfl⟩))
 all_goals refine bodyPost_ret (v:=.tuple #[.agg #[U8 (a+b),U8 (a+B)],.bool true]) ?_ rfl ⟨rfl,by go_grown⟩
 all_goals rw [results_cell_tmp rfl]
 all_goals simp [asAddr,Result.andThen]
 all_goals rw [qAc (a:=a+b) (A:=a+B)]
 all_goals go_cell
theorem sdo_add2 (a A b B:Int)(w:World)(f:0<=a/\a<=A/\A<=18446744073709551615)(d:0<=b/\b<=B/\B<=18446744073709551615)(g:(a==A)=false)(h:18446744073709551615-B<A) :
  Cl 143 #[I4 1,.agg #[U8 a,U8 A],.agg #[U8 b,U8 B]] w fun e c=>e=.returned (.tuple #[.agg #[U8 (0),U8 (18446744073709551615)],.bool true])/\Bw w c:=by
 have i:decide (a<=A)=true:=decide_eq_true f.2.1;have k:decide (b<=B)=true:=decide_eq_true d.2.1;go_enter Tryz.func143,Tryz.ntmps143
 go_wp2_with (first
  | (go_at_call 146;go_must (refine (qAe _ _ _).mono ?_);rintro e c ⟨rfl,rfl⟩)
  | (go_at_call 158;go_must (refine (qAo _ _ _ (by omega) (by omega)).mono ?_);rintro e c ⟨rfl,rfl⟩)
  | (go_at_call 159;go_must (refine (qAq _ _ (by omega)).mono ?_);rintro e c ⟨rfl,rfl⟩))
 all_goals refine bodyPost_ret (v:=.tuple #[.agg #[U8 (0),U8 (18446744073709551615)],.bool true]) ?_ rfl ⟨rfl,by go_grown⟩
 all_goals rw [results_cell_tmp rfl]
 all_goals simp [asAddr,Result.andThen]
 all_goals rw [qAc (a:=0) (A:=18446744073709551615)]
 all_goals go_cell
theorem sdo_add2s (a b B:Int)(w:World)(f:0<=a/\a<=a/\a<=18446744073709551615)(d:0<=b/\b<=B/\B<=18446744073709551615)(g:(b==B)=false)(h:18446744073709551615-B<a) :
  Cl 143 #[I4 1,.agg #[U8 a,U8 a],.agg #[U8 b,U8 B]] w fun e c=>e=.returned (.tuple #[.agg #[U8 (0),U8 (18446744073709551615)],.bool true])/\Bw w c:=by
 have i:decide (a<=a)=true:=decide_eq_true f.2.1;have k:decide (b<=B)=true:=decide_eq_true d.2.1;go_enter Tryz.func143,Tryz.ntmps143
 go_wp2_with (first
  | (go_at_call 146;go_must (refine (qAe _ _ _).mono ?_);rintro e c ⟨rfl,rfl⟩)
  | (go_at_call 158;go_must (refine (qAo _ _ _ (by omega) (by omega)).mono ?_);rintro e c ⟨rfl,rfl⟩)
  | (go_at_call 159;go_must (refine (qAq _ _ (by omega)).mono ?_);rintro e c ⟨rfl,rfl⟩))
 all_goals refine bodyPost_ret (v:=.tuple #[.agg #[U8 (0),U8 (18446744073709551615)],.bool true]) ?_ rfl ⟨rfl,by go_grown⟩
 all_goals rw [results_cell_tmp rfl]
 all_goals simp [asAddr,Result.andThen]
 all_goals rw [qAc (a:=0) (A:=18446744073709551615)]
 all_goals go_cell
theorem sdo_sub1 (a A b B:Int)(w:World)(f:0<=a/\a<=A/\A<=18446744073709551615)(d:0<=b/\b<=B/\B<=18446744073709551615)(g:(a==A)=false)(h:B<=a) :
  Cl 143 #[I4 2,.agg #[U8 a,U8 A],.agg #[U8 b,U8 B]] w fun e c=>e=.returned (.tuple #[.agg #[U8 (a-B),U8 (A-b)],.bool true])/\Bw w c:=by
 have i:decide (a<=A)=true:=decide_eq_true f.2.1;have k:decide (b<=B)=true:=decide_eq_true d.2.1;go_enter Tryz.func143,Tryz.ntmps143
 go_wp2_with (first
  | (go_at_call 146;go_must (refine (qAe _ _ _).mono ?_);rintro e c ⟨rfl,rfl⟩)
  | (go_at_call 158;go_must (refine (qAo _ _ _ (by omega) (by omega)).mono ?_);rintro e c ⟨rfl,rfl⟩)
  | (go_at_call 159;go_must (refine (qAq _ _ (by omega)).mono ?_);rintro e c ⟨rfl,rfl⟩))
 all_goals refine bodyPost_ret (v:=.tuple #[.agg #[U8 (a-B),U8 (A-b)],.bool true]) ?_ rfl ⟨rfl,by go_grown⟩
 all_goals rw [results_cell_tmp rfl]
 all_goals simp [asAddr,Result.andThen]
 all_goals rw [qAc (a:=a-B) (A:=A-b)]
 all_goals go_cell
theorem sdo_sub1s (a b B:Int)(w:World)(f:0<=a/\a<=a/\a<=18446744073709551615)(d:0<=b/\b<=B/\B<=18446744073709551615)(g:(b==B)=false)(h:B<=a) :
  Cl 143 #[I4 2,.agg #[U8 a,U8 a],.agg #[U8 b,U8 B]] w fun e c=>e=.returned (.tuple #[.agg #[U8 (a-B),U8 (a-b)],.bool true])/\Bw w c:=by
 have i:decide (a<=a)=true:=decide_eq_true f.2.1;have k:decide (b<=B)=true:=decide_eq_true d.2.1;go_enter Tryz.func143,Tryz.ntmps143
 go_wp2_with (first
  | (go_at_call 146;go_must (refine (qAe _ _ _).mono ?_);rintro e c ⟨rfl,rfl⟩)
  | (go_at_call 158;go_must (refine (qAo _ _ _ (by omega) (by omega)).mono ?_);rintro e c ⟨rfl,rfl⟩)
  | (go_at_call 159;go_must (refine (qAq _ _ (by omega)).mono ?_);rintro e c ⟨rfl,rfl⟩))
 all_goals refine bodyPost_ret (v:=.tuple #[.agg #[U8 (a-B),U8 (a-b)],.bool true]) ?_ rfl ⟨rfl,by go_grown⟩
 all_goals rw [results_cell_tmp rfl]
 all_goals simp [asAddr,Result.andThen]
 all_goals rw [qAc (a:=a-B) (A:=a-b)]
 all_goals go_cell
theorem sdo_sub2 (a A b B:Int)(w:World)(f:0<=a/\a<=A/\A<=18446744073709551615)(d:0<=b/\b<=B/\B<=18446744073709551615)(g:(a==A)=false)(h:a<B) :
  Cl 143 #[I4 2,.agg #[U8 a,U8 A],.agg #[U8 b,U8 B]] w fun e c=>e=.returned (.tuple #[.agg #[U8 (0),U8 (18446744073709551615)],.bool true])/\Bw w c:=by
 have i:decide (a<=A)=true:=decide_eq_true f.2.1;have k:decide (b<=B)=true:=decide_eq_true d.2.1;go_enter Tryz.func143,Tryz.ntmps143
 go_wp2_with (first
  | (go_at_call 146;go_must (refine (qAe _ _ _).mono ?_);rintro e c ⟨rfl,rfl⟩)
  | (go_at_call 158;go_must (refine (qAo _ _ _ (by omega) (by omega)).mono ?_);rintro e c ⟨rfl,rfl⟩)
  | (go_at_call 159;go_must (refine (qAq _ _ (by omega)).mono ?_);rintro e c ⟨rfl,rfl⟩))
 all_goals refine bodyPost_ret (v:=.tuple #[.agg #[U8 (0),U8 (18446744073709551615)],.bool true]) ?_ rfl ⟨rfl,by go_grown⟩
 all_goals rw [results_cell_tmp rfl]
 all_goals simp [asAddr,Result.andThen]
 all_goals rw [qAc (a:=0) (A:=18446744073709551615)]
 all_goals go_cell
theorem sdo_sub2s (a b B:Int)(w:World)(f:0<=a/\a<=a/\a<=18446744073709551615)(d:0<=b/\b<=B/\B<=18446744073709551615)(g:(b==B)=false)(h:a<B) :
  Cl 143 #[I4 2,.agg #[U8 a,U8 a],.agg #[U8 b,U8 B]] w fun e c=>e=.returned (.tuple #[.agg #[U8 (0),U8 (18446744073709551615)],.bool true])/\Bw w c:=by
 have i:decide (a<=a)=true:=decide_eq_true f.2.1;have k:decide (b<=B)=true:=decide_eq_true d.2.1;go_enter Tryz.func143,Tryz.ntmps143
 go_wp2_with (first
  | (go_at_call 146;go_must (refine (qAe _ _ _).mono ?_);rintro e c ⟨rfl,rfl⟩)
  | (go_at_call 158;go_must (refine (qAo _ _ _ (by omega) (by omega)).mono ?_);rintro e c ⟨rfl,rfl⟩)
  | (go_at_call 159;go_must (refine (qAq _ _ (by omega)).mono ?_);rintro e c ⟨rfl,rfl⟩))
 all_goals refine bodyPost_ret (v:=.tuple #[.agg #[U8 (0),U8 (18446744073709551615)],.bool true]) ?_ rfl ⟨rfl,by go_grown⟩
 all_goals rw [results_cell_tmp rfl]
 all_goals simp [asAddr,Result.andThen]
 all_goals rw [qAc (a:=0) (A:=18446744073709551615)]
 all_goals go_cell
theorem sdo_mul1 (a A b B:Int)(w:World)(f:0<=a/\a<=A/\A<=18446744073709551615)(d:0<=b/\b<=B/\B<=18446744073709551615)(k:(a==A)=false)(h:decide (18446744073709551615<A*B)=false)(i:IntKind.u64.wrap (a*b)=a*b)(g:IntKind.u64.wrap (A*B)=A*B) :
  Cl 143 #[I4 3,.agg #[U8 a,U8 A],.agg #[U8 b,U8 B]] w fun e c=>e=.returned (.tuple #[.agg #[U8 (a*b),U8 (A*B)],.bool true])/\Bw w c:=by
 have l:decide (a<=A)=true:=decide_eq_true f.2.1;have n:decide (b<=B)=true:=decide_eq_true d.2.1;go_enter Tryz.func143,Tryz.ntmps143
 go_wp2_with (first
  | (go_at_call 146;go_must (refine (qAe _ _ _).mono ?_);rintro e c ⟨rfl,rfl⟩)
  | (go_at_call 158;go_must (refine (qAo _ _ _ (by omega) (by omega)).mono ?_);rintro e c ⟨rfl,rfl⟩)
  | (go_at_call 159;go_must (refine (qAq _ _ (by omega)).mono ?_);rintro e c ⟨rfl,rfl⟩))
 all_goals refine bodyPost_ret (v:=.tuple #[.agg #[U8 (a*b),U8 (A*B)],.bool true]) ?_ rfl ⟨rfl,by go_grown⟩
 all_goals rw [results_cell_tmp rfl]
 all_goals simp [asAddr,Result.andThen]
 all_goals rw [qAc (a:=a*b) (A:=A*B)]
 all_goals go_cell
theorem sdo_mul1s (a b B:Int)(w:World)(f:0<=a/\a<=a/\a<=18446744073709551615)(d:0<=b/\b<=B/\B<=18446744073709551615)(k:(b==B)=false)(h:decide (18446744073709551615<a*B)=false)(i:IntKind.u64.wrap (a*b)=a*b)(g:IntKind.u64.wrap (a*B)=a*B) :
  Cl 143 #[I4 3,.agg #[U8 a,U8 a],.agg #[U8 b,U8 B]] w fun e c=>e=.returned (.tuple #[.agg #[U8 (a*b),U8 (a*B)],.bool true])/\Bw w c:=by
 have l:decide (a<=a)=true:=decide_eq_true f.2.1;have n:decide (b<=B)=true:=decide_eq_true d.2.1;go_enter Tryz.func143,Tryz.ntmps143
 go_wp2_with (first
  | (go_at_call 146;go_must (refine (qAe _ _ _).mono ?_);rintro e c ⟨rfl,rfl⟩)
  | (go_at_call 158;go_must (refine (qAo _ _ _ (by omega) (by omega)).mono ?_);rintro e c ⟨rfl,rfl⟩)
  | (go_at_call 159;go_must (refine (qAq _ _ (by omega)).mono ?_);rintro e c ⟨rfl,rfl⟩))
 all_goals refine bodyPost_ret (v:=.tuple #[.agg #[U8 (a*b),U8 (a*B)],.bool true]) ?_ rfl ⟨rfl,by go_grown⟩
 all_goals rw [results_cell_tmp rfl]
 all_goals simp [asAddr,Result.andThen]
 all_goals rw [qAc (a:=a*b) (A:=a*B)]
 all_goals go_cell
theorem sdo_mul2 (a A b B:Int)(w:World)(f:0<=a/\a<=A/\A<=18446744073709551615)(d:0<=b/\b<=B/\B<=18446744073709551615)(g:(a==A)=false)(h:decide (18446744073709551615<A*B)=true) :
  Cl 143 #[I4 3,.agg #[U8 a,U8 A],.agg #[U8 b,U8 B]] w fun e c=>e=.returned (.tuple #[.agg #[U8 (0),U8 (18446744073709551615)],.bool true])/\Bw w c:=by
 have i:decide (a<=A)=true:=decide_eq_true f.2.1;have k:decide (b<=B)=true:=decide_eq_true d.2.1;go_enter Tryz.func143,Tryz.ntmps143
 go_wp2_with (first
  | (go_at_call 146;go_must (refine (qAe _ _ _).mono ?_);rintro e c ⟨rfl,rfl⟩)
  | (go_at_call 158;go_must (refine (qAo _ _ _ (by omega) (by omega)).mono ?_);rintro e c ⟨rfl,rfl⟩)
  | (go_at_call 159;go_must (refine (qAq _ _ (by omega)).mono ?_);rintro e c ⟨rfl,rfl⟩))
 all_goals refine bodyPost_ret (v:=.tuple #[.agg #[U8 (0),U8 (18446744073709551615)],.bool true]) ?_ rfl ⟨rfl,by go_grown⟩
 all_goals rw [results_cell_tmp rfl]
 all_goals simp [asAddr,Result.andThen]
 all_goals rw [qAc (a:=0) (A:=18446744073709551615)]
 all_goals go_cell
theorem sdo_mul2s (a b B:Int)(w:World)(f:0<=a/\a<=a/\a<=18446744073709551615)(d:0<=b/\b<=B/\B<=18446744073709551615)(g:(b==B)=false)(h:decide (18446744073709551615<a*B)=true) :
  Cl 143 #[I4 3,.agg #[U8 a,U8 a],.agg #[U8 b,U8 B]] w fun e c=>e=.returned (.tuple #[.agg #[U8 (0),U8 (18446744073709551615)],.bool true])/\Bw w c:=by
 have i:decide (a<=a)=true:=decide_eq_true f.2.1;have k:decide (b<=B)=true:=decide_eq_true d.2.1;go_enter Tryz.func143,Tryz.ntmps143
 go_wp2_with (first
  | (go_at_call 146;go_must (refine (qAe _ _ _).mono ?_);rintro e c ⟨rfl,rfl⟩)
  | (go_at_call 158;go_must (refine (qAo _ _ _ (by omega) (by omega)).mono ?_);rintro e c ⟨rfl,rfl⟩)
  | (go_at_call 159;go_must (refine (qAq _ _ (by omega)).mono ?_);rintro e c ⟨rfl,rfl⟩))
 all_goals refine bodyPost_ret (v:=.tuple #[.agg #[U8 (0),U8 (18446744073709551615)],.bool true]) ?_ rfl ⟨rfl,by go_grown⟩
 all_goals rw [results_cell_tmp rfl]
 all_goals simp [asAddr,Result.andThen]
 all_goals rw [qAc (a:=0) (A:=18446744073709551615)]
 all_goals go_cell
theorem sdo_div1 (a A B:Int)(w:World)(d:0<=a/\a<=A/\A<=18446744073709551615)(c:0<=0/\0<=B/\B<=18446744073709551615)(f:(a==A)=false)  :
  Cl 143 #[I4 4,.agg #[U8 a,U8 A],.agg #[U8 0,U8 B]] w fun e b=>e=.returned (.tuple #[.agg #[U8 (0),U8 (A)],.bool true])/\Bw w b:=by
 have g:decide (a<=A)=true:=decide_eq_true d.2.1;have i:decide (0<=B)=true:=decide_eq_true c.2.1;go_enter Tryz.func143,Tryz.ntmps143
 go_wp2_with (first
  | (go_at_call 146;go_must (refine (qAe _ _ _).mono ?_);rintro e b ⟨rfl,rfl⟩)
  | (go_at_call 158;go_must (refine (qAo _ _ _ (by omega) (by omega)).mono ?_);rintro e b ⟨rfl,rfl⟩)
  | (go_at_call 159;go_must (refine (qAq _ _ (by omega)).mono ?_);rintro e b ⟨rfl,rfl⟩))
 all_goals refine bodyPost_ret (v:=.tuple #[.agg #[U8 (0),U8 (A)],.bool true]) ?_ rfl ⟨rfl,by go_grown⟩
 all_goals rw [results_cell_tmp rfl]
 all_goals simp [asAddr,Result.andThen]
 all_goals rw [qAc (a:=0) (A:=A)]
 all_goals go_cell
theorem sdo_div1s (a B:Int)(w:World)(d:0<=a/\a<=a/\a<=18446744073709551615)(c:0<=0/\0<=B/\B<=18446744073709551615)(f:(0==B)=false)  :
  Cl 143 #[I4 4,.agg #[U8 a,U8 a],.agg #[U8 0,U8 B]] w fun e b=>e=.returned (.tuple #[.agg #[U8 (0),U8 (a)],.bool true])/\Bw w b:=by
 have g:decide (a<=a)=true:=decide_eq_true d.2.1;have i:decide (0<=B)=true:=decide_eq_true c.2.1;go_enter Tryz.func143,Tryz.ntmps143
 go_wp2_with (first
  | (go_at_call 146;go_must (refine (qAe _ _ _).mono ?_);rintro e b ⟨rfl,rfl⟩)
  | (go_at_call 158;go_must (refine (qAo _ _ _ (by omega) (by omega)).mono ?_);rintro e b ⟨rfl,rfl⟩)
  | (go_at_call 159;go_must (refine (qAq _ _ (by omega)).mono ?_);rintro e b ⟨rfl,rfl⟩))
 all_goals refine bodyPost_ret (v:=.tuple #[.agg #[U8 (0),U8 (a)],.bool true]) ?_ rfl ⟨rfl,by go_grown⟩
 all_goals rw [results_cell_tmp rfl]
 all_goals simp [asAddr,Result.andThen]
 all_goals rw [qAc (a:=0) (A:=a)]
 all_goals go_cell
theorem sdo_div2 (a A b B:Int)(w:World)(f:0<=a/\a<=A/\A<=18446744073709551615)(d:0<=b/\b<=B/\B<=18446744073709551615)(i:(a==A)=false)(h:(b==0)=false) :
  Cl 143 #[I4 4,.agg #[U8 a,U8 A],.agg #[U8 b,U8 B]] w fun e c=>e=.returned (.tuple #[.agg #[U8 (a / B),U8 (A / b)],.bool true])/\Bw w c:=by
 have l:decide (a<=A)=true:=decide_eq_true f.2.1;have n:decide (b<=B)=true:=decide_eq_true d.2.1
 have k:¬ b=0:=by simpa using h
 have g:¬ B=0:=by omega
 go_enter Tryz.func143,Tryz.ntmps143
 go_wp2_with (first
  | (go_at_call 146;go_must (refine (qAe _ _ _).mono ?_);rintro e c ⟨rfl,rfl⟩)
  | (go_at_call 158;go_must (refine (qAo _ _ _ (by omega) (by omega)).mono ?_);rintro e c ⟨rfl,rfl⟩)
  | (go_at_call 159;go_must (refine (qAq _ _ (by omega)).mono ?_);rintro e c ⟨rfl,rfl⟩))
 go_region
 all_goals go_wp2
 all_goals refine bodyPost_ret (v:=.tuple #[.agg #[U8 (a / B),U8 (A / b)],.bool true]) ?_ rfl ⟨rfl,by go_grown⟩
 all_goals rw [results_cell_tmp rfl]
 all_goals simp [asAddr,Result.andThen]
 all_goals rw [qAc (a:=a / B) (A:=A / b)]
 all_goals go_cell
theorem sdo_div2s (a b B:Int)(w:World)(f:0<=a/\a<=a/\a<=18446744073709551615)(d:0<=b/\b<=B/\B<=18446744073709551615)(i:(b==B)=false)(h:(b==0)=false) :
  Cl 143 #[I4 4,.agg #[U8 a,U8 a],.agg #[U8 b,U8 B]] w fun e c=>e=.returned (.tuple #[.agg #[U8 (a / B),U8 (a / b)],.bool true])/\Bw w c:=by
 have l:decide (a<=a)=true:=decide_eq_true f.2.1;have n:decide (b<=B)=true:=decide_eq_true d.2.1
 have k:¬ b=0:=by simpa using h
 have g:¬ B=0:=by omega
 go_enter Tryz.func143,Tryz.ntmps143
 go_wp2_with (first
  | (go_at_call 146;go_must (refine (qAe _ _ _).mono ?_);rintro e c ⟨rfl,rfl⟩)
  | (go_at_call 158;go_must (refine (qAo _ _ _ (by omega) (by omega)).mono ?_);rintro e c ⟨rfl,rfl⟩)
  | (go_at_call 159;go_must (refine (qAq _ _ (by omega)).mono ?_);rintro e c ⟨rfl,rfl⟩))
 go_region
 all_goals go_wp2
 all_goals refine bodyPost_ret (v:=.tuple #[.agg #[U8 (a / B),U8 (a / b)],.bool true]) ?_ rfl ⟨rfl,by go_grown⟩
 all_goals rw [results_cell_tmp rfl]
 all_goals simp [asAddr,Result.andThen]
 all_goals rw [qAc (a:=a / B) (A:=a / b)]
 all_goals go_cell
theorem sdo_rem1 (a A B:Int)(w:World)(d:0<=a/\a<=A/\A<=18446744073709551615)(c:0<=0/\0<=B/\B<=18446744073709551615)(f:(a==A)=false)  :
  Cl 143 #[I4 5,.agg #[U8 a,U8 A],.agg #[U8 0,U8 B]] w fun e b=>e=.returned (.tuple #[.agg #[U8 (0),U8 (A)],.bool true])/\Bw w b:=by
 have g:decide (a<=A)=true:=decide_eq_true d.2.1;have i:decide (0<=B)=true:=decide_eq_true c.2.1;go_enter Tryz.func143,Tryz.ntmps143
 go_wp2_with (first
  | (go_at_call 146;go_must (refine (qAe _ _ _).mono ?_);rintro e b ⟨rfl,rfl⟩)
  | (go_at_call 158;go_must (refine (qAo _ _ _ (by omega) (by omega)).mono ?_);rintro e b ⟨rfl,rfl⟩)
  | (go_at_call 159;go_must (refine (qAq _ _ (by omega)).mono ?_);rintro e b ⟨rfl,rfl⟩))
 all_goals refine bodyPost_ret (v:=.tuple #[.agg #[U8 (0),U8 (A)],.bool true]) ?_ rfl ⟨rfl,by go_grown⟩
 all_goals rw [results_cell_tmp rfl]
 all_goals simp [asAddr,Result.andThen]
 all_goals rw [qAc (a:=0) (A:=A)]
 all_goals go_cell
theorem sdo_rem1s (a B:Int)(w:World)(d:0<=a/\a<=a/\a<=18446744073709551615)(c:0<=0/\0<=B/\B<=18446744073709551615)(f:(0==B)=false)  :
  Cl 143 #[I4 5,.agg #[U8 a,U8 a],.agg #[U8 0,U8 B]] w fun e b=>e=.returned (.tuple #[.agg #[U8 (0),U8 (a)],.bool true])/\Bw w b:=by
 have g:decide (a<=a)=true:=decide_eq_true d.2.1;have i:decide (0<=B)=true:=decide_eq_true c.2.1;go_enter Tryz.func143,Tryz.ntmps143
 go_wp2_with (first
  | (go_at_call 146;go_must (refine (qAe _ _ _).mono ?_);rintro e b ⟨rfl,rfl⟩)
  | (go_at_call 158;go_must (refine (qAo _ _ _ (by omega) (by omega)).mono ?_);rintro e b ⟨rfl,rfl⟩)
  | (go_at_call 159;go_must (refine (qAq _ _ (by omega)).mono ?_);rintro e b ⟨rfl,rfl⟩))
 all_goals refine bodyPost_ret (v:=.tuple #[.agg #[U8 (0),U8 (a)],.bool true]) ?_ rfl ⟨rfl,by go_grown⟩
 all_goals rw [results_cell_tmp rfl]
 all_goals simp [asAddr,Result.andThen]
 all_goals rw [qAc (a:=0) (A:=a)]
 all_goals go_cell
theorem sdo_rem2 (a A b B:Int)(w:World)(f:0<=a/\a<=A/\A<=18446744073709551615)(d:0<=b/\b<=B/\B<=18446744073709551615)(i:(a==A)=false)(h:(b==0)=false)(g:A<b) :
  Cl 143 #[I4 5,.agg #[U8 a,U8 A],.agg #[U8 b,U8 B]] w fun e c=>e=.returned (.tuple #[.agg #[U8 (a),U8 (A)],.bool true])/\Bw w c:=by
 have k:decide (a<=A)=true:=decide_eq_true f.2.1;have l:decide (b<=B)=true:=decide_eq_true d.2.1;go_enter Tryz.func143,Tryz.ntmps143
 go_wp2_with (first
  | (go_at_call 146;go_must (refine (qAe _ _ _).mono ?_);rintro e c ⟨rfl,rfl⟩)
  | (go_at_call 158;go_must (refine (qAo _ _ _ (by omega) (by omega)).mono ?_);rintro e c ⟨rfl,rfl⟩)
  | (go_at_call 159;go_must (refine (qAq _ _ (by omega)).mono ?_);rintro e c ⟨rfl,rfl⟩))
 all_goals refine bodyPost_ret (v:=.tuple #[.agg #[U8 (a),U8 (A)],.bool true]) ?_ rfl ⟨rfl,by go_grown⟩
 all_goals rw [results_cell_tmp rfl]
 all_goals simp [asAddr,Result.andThen]
 all_goals rw [qAc (a:=a) (A:=A)]
 all_goals go_cell
theorem sdo_rem2s (a b B:Int)(w:World)(f:0<=a/\a<=a/\a<=18446744073709551615)(d:0<=b/\b<=B/\B<=18446744073709551615)(i:(b==B)=false)(h:(b==0)=false)(g:a<b) :
  Cl 143 #[I4 5,.agg #[U8 a,U8 a],.agg #[U8 b,U8 B]] w fun e c=>e=.returned (.tuple #[.agg #[U8 (a),U8 (a)],.bool true])/\Bw w c:=by
 have k:decide (a<=a)=true:=decide_eq_true f.2.1;have l:decide (b<=B)=true:=decide_eq_true d.2.1;go_enter Tryz.func143,Tryz.ntmps143
 go_wp2_with (first
  | (go_at_call 146;go_must (refine (qAe _ _ _).mono ?_);rintro e c ⟨rfl,rfl⟩)
  | (go_at_call 158;go_must (refine (qAo _ _ _ (by omega) (by omega)).mono ?_);rintro e c ⟨rfl,rfl⟩)
  | (go_at_call 159;go_must (refine (qAq _ _ (by omega)).mono ?_);rintro e c ⟨rfl,rfl⟩))
 all_goals refine bodyPost_ret (v:=.tuple #[.agg #[U8 (a),U8 (a)],.bool true]) ?_ rfl ⟨rfl,by go_grown⟩
 all_goals rw [results_cell_tmp rfl]
 all_goals simp [asAddr,Result.andThen]
 all_goals rw [qAc (a:=a) (A:=a)]
 all_goals go_cell
theorem sdo_rem3 (a A b B:Int)(w:World)(f:0<=a/\a<=A/\A<=18446744073709551615)(d:0<=b/\b<=B/\B<=18446744073709551615)(k:(a==A)=false)(h:(b==0)=false)(g:¬ A<b)(i:IntKind.u64.wrap (B-1)=B-1)(hm:B-1<A) :
  Cl 143 #[I4 5,.agg #[U8 a,U8 A],.agg #[U8 b,U8 B]] w fun e c=>e=.returned (.tuple #[.agg #[U8 (0),U8 (B-1)],.bool true])/\Bw w c:=by
 have l:decide (a<=A)=true:=decide_eq_true f.2.1;have n:decide (b<=B)=true:=decide_eq_true d.2.1;go_enter Tryz.func143,Tryz.ntmps143
 go_wp2_with (first
  | (go_at_call 146;go_must (refine (qAe _ _ _).mono ?_);rintro e c ⟨rfl,rfl⟩)
  | (go_at_call 158;go_must (refine (qAo _ _ _ (by omega) (by omega)).mono ?_);rintro e c ⟨rfl,rfl⟩)
  | (go_at_call 159;go_must (refine (qAq _ _ (by omega)).mono ?_);rintro e c ⟨rfl,rfl⟩))
 all_goals refine bodyPost_ret (v:=.tuple #[.agg #[U8 (0),U8 (B-1)],.bool true]) ?_ rfl ⟨rfl,by go_grown⟩
 all_goals rw [results_cell_tmp rfl]
 all_goals simp [asAddr,Result.andThen]
 all_goals rw [qAc (a:=0) (A:=B-1)]
 all_goals go_cell
theorem sdo_rem3s (a b B:Int)(w:World)(f:0<=a/\a<=a/\a<=18446744073709551615)(d:0<=b/\b<=B/\B<=18446744073709551615)(k:(b==B)=false)(h:(b==0)=false)(g:¬ a<b)(i:IntKind.u64.wrap (B-1)=B-1)(hm:B-1<a) :
  Cl 143 #[I4 5,.agg #[U8 a,U8 a],.agg #[U8 b,U8 B]] w fun e c=>e=.returned (.tuple #[.agg #[U8 (0),U8 (B-1)],.bool true])/\Bw w c:=by
 have l:decide (a<=a)=true:=decide_eq_true f.2.1;have n:decide (b<=B)=true:=decide_eq_true d.2.1;go_enter Tryz.func143,Tryz.ntmps143
 go_wp2_with (first
  | (go_at_call 146;go_must (refine (qAe _ _ _).mono ?_);rintro e c ⟨rfl,rfl⟩)
  | (go_at_call 158;go_must (refine (qAo _ _ _ (by omega) (by omega)).mono ?_);rintro e c ⟨rfl,rfl⟩)
  | (go_at_call 159;go_must (refine (qAq _ _ (by omega)).mono ?_);rintro e c ⟨rfl,rfl⟩))
 all_goals refine bodyPost_ret (v:=.tuple #[.agg #[U8 (0),U8 (B-1)],.bool true]) ?_ rfl ⟨rfl,by go_grown⟩
 all_goals rw [results_cell_tmp rfl]
 all_goals simp [asAddr,Result.andThen]
 all_goals rw [qAc (a:=0) (A:=B-1)]
 all_goals go_cell
theorem sdo_rem4 (a A b B:Int)(w:World)(f:0<=a/\a<=A/\A<=18446744073709551615)(d:0<=b/\b<=B/\B<=18446744073709551615)(k:(a==A)=false)(h:(b==0)=false)(g:¬ A<b)(i:IntKind.u64.wrap (B-1)=B-1)(hm:A<=B-1) :
  Cl 143 #[I4 5,.agg #[U8 a,U8 A],.agg #[U8 b,U8 B]] w fun e c=>e=.returned (.tuple #[.agg #[U8 (0),U8 (A)],.bool true])/\Bw w c:=by
 have l:decide (a<=A)=true:=decide_eq_true f.2.1;have n:decide (b<=B)=true:=decide_eq_true d.2.1;go_enter Tryz.func143,Tryz.ntmps143
 go_wp2_with (first
  | (go_at_call 146;go_must (refine (qAe _ _ _).mono ?_);rintro e c ⟨rfl,rfl⟩)
  | (go_at_call 158;go_must (refine (qAo _ _ _ (by omega) (by omega)).mono ?_);rintro e c ⟨rfl,rfl⟩)
  | (go_at_call 159;go_must (refine (qAq _ _ (by omega)).mono ?_);rintro e c ⟨rfl,rfl⟩))
 all_goals refine bodyPost_ret (v:=.tuple #[.agg #[U8 (0),U8 (A)],.bool true]) ?_ rfl ⟨rfl,by go_grown⟩
 all_goals rw [results_cell_tmp rfl]
 all_goals simp [asAddr,Result.andThen]
 all_goals rw [qAc (a:=0) (A:=A)]
 all_goals go_cell
theorem sdo_rem4s (a b B:Int)(w:World)(f:0<=a/\a<=a/\a<=18446744073709551615)(d:0<=b/\b<=B/\B<=18446744073709551615)(k:(b==B)=false)(h:(b==0)=false)(g:¬ a<b)(i:IntKind.u64.wrap (B-1)=B-1)(hm:a<=B-1) :
  Cl 143 #[I4 5,.agg #[U8 a,U8 a],.agg #[U8 b,U8 B]] w fun e c=>e=.returned (.tuple #[.agg #[U8 (0),U8 (a)],.bool true])/\Bw w c:=by
 have l:decide (a<=a)=true:=decide_eq_true f.2.1;have n:decide (b<=B)=true:=decide_eq_true d.2.1;go_enter Tryz.func143,Tryz.ntmps143
 go_wp2_with (first
  | (go_at_call 146;go_must (refine (qAe _ _ _).mono ?_);rintro e c ⟨rfl,rfl⟩)
  | (go_at_call 158;go_must (refine (qAo _ _ _ (by omega) (by omega)).mono ?_);rintro e c ⟨rfl,rfl⟩)
  | (go_at_call 159;go_must (refine (qAq _ _ (by omega)).mono ?_);rintro e c ⟨rfl,rfl⟩))
 all_goals refine bodyPost_ret (v:=.tuple #[.agg #[U8 (0),U8 (a)],.bool true]) ?_ rfl ⟨rfl,by go_grown⟩
 all_goals rw [results_cell_tmp rfl]
 all_goals simp [asAddr,Result.andThen]
 all_goals rw [qAc (a:=0) (A:=a)]
 all_goals go_cell
theorem sdo_and1 (a A b B:Int)(w:World)(f:0<=a/\a<=A/\A<=18446744073709551615)(d:0<=b/\b<=B/\B<=18446744073709551615)(g:(a==A)=false)(hm:A<=B) :
  Cl 143 #[I4 6,.agg #[U8 a,U8 A],.agg #[U8 b,U8 B]] w fun e c=>e=.returned (.tuple #[.agg #[U8 (0),U8 (A)],.bool true])/\Bw w c:=by
 have i:decide (a<=A)=true:=decide_eq_true f.2.1;have k:decide (b<=B)=true:=decide_eq_true d.2.1;go_enter Tryz.func143,Tryz.ntmps143
 go_wp2_with (first
  | (go_at_call 146;go_must (refine (qAe _ _ _).mono ?_);rintro e c ⟨rfl,rfl⟩)
  | (go_at_call 158;go_must (refine (qAo _ _ _ (by omega) (by omega)).mono ?_);rintro e c ⟨rfl,rfl⟩)
  | (go_at_call 159;go_must (refine (qAq _ _ (by omega)).mono ?_);rintro e c ⟨rfl,rfl⟩))
 all_goals refine bodyPost_ret (v:=.tuple #[.agg #[U8 (0),U8 (A)],.bool true]) ?_ rfl ⟨rfl,by go_grown⟩
 all_goals rw [results_cell_tmp rfl]
 all_goals simp [asAddr,Result.andThen]
 all_goals rw [qAc (a:=0) (A:=A)]
 all_goals go_cell
theorem sdo_and1s (a b B:Int)(w:World)(f:0<=a/\a<=a/\a<=18446744073709551615)(d:0<=b/\b<=B/\B<=18446744073709551615)(g:(b==B)=false)(hm:a<=B) :
  Cl 143 #[I4 6,.agg #[U8 a,U8 a],.agg #[U8 b,U8 B]] w fun e c=>e=.returned (.tuple #[.agg #[U8 (0),U8 (a)],.bool true])/\Bw w c:=by
 have i:decide (a<=a)=true:=decide_eq_true f.2.1;have k:decide (b<=B)=true:=decide_eq_true d.2.1;go_enter Tryz.func143,Tryz.ntmps143
 go_wp2_with (first
  | (go_at_call 146;go_must (refine (qAe _ _ _).mono ?_);rintro e c ⟨rfl,rfl⟩)
  | (go_at_call 158;go_must (refine (qAo _ _ _ (by omega) (by omega)).mono ?_);rintro e c ⟨rfl,rfl⟩)
  | (go_at_call 159;go_must (refine (qAq _ _ (by omega)).mono ?_);rintro e c ⟨rfl,rfl⟩))
 all_goals refine bodyPost_ret (v:=.tuple #[.agg #[U8 (0),U8 (a)],.bool true]) ?_ rfl ⟨rfl,by go_grown⟩
 all_goals rw [results_cell_tmp rfl]
 all_goals simp [asAddr,Result.andThen]
 all_goals rw [qAc (a:=0) (A:=a)]
 all_goals go_cell
theorem sdo_and2 (a A b B:Int)(w:World)(f:0<=a/\a<=A/\A<=18446744073709551615)(d:0<=b/\b<=B/\B<=18446744073709551615)(g:(a==A)=false)(hm:B<A) :
  Cl 143 #[I4 6,.agg #[U8 a,U8 A],.agg #[U8 b,U8 B]] w fun e c=>e=.returned (.tuple #[.agg #[U8 (0),U8 (B)],.bool true])/\Bw w c:=by
 have i:decide (a<=A)=true:=decide_eq_true f.2.1;have k:decide (b<=B)=true:=decide_eq_true d.2.1;go_enter Tryz.func143,Tryz.ntmps143
 go_wp2_with (first
  | (go_at_call 146;go_must (refine (qAe _ _ _).mono ?_);rintro e c ⟨rfl,rfl⟩)
  | (go_at_call 158;go_must (refine (qAo _ _ _ (by omega) (by omega)).mono ?_);rintro e c ⟨rfl,rfl⟩)
  | (go_at_call 159;go_must (refine (qAq _ _ (by omega)).mono ?_);rintro e c ⟨rfl,rfl⟩))
 all_goals refine bodyPost_ret (v:=.tuple #[.agg #[U8 (0),U8 (B)],.bool true]) ?_ rfl ⟨rfl,by go_grown⟩
 all_goals rw [results_cell_tmp rfl]
 all_goals simp [asAddr,Result.andThen]
 all_goals rw [qAc (a:=0) (A:=B)]
 all_goals go_cell
theorem sdo_and2s (a b B:Int)(w:World)(f:0<=a/\a<=a/\a<=18446744073709551615)(d:0<=b/\b<=B/\B<=18446744073709551615)(g:(b==B)=false)(hm:B<a) :
  Cl 143 #[I4 6,.agg #[U8 a,U8 a],.agg #[U8 b,U8 B]] w fun e c=>e=.returned (.tuple #[.agg #[U8 (0),U8 (B)],.bool true])/\Bw w c:=by
 have i:decide (a<=a)=true:=decide_eq_true f.2.1;have k:decide (b<=B)=true:=decide_eq_true d.2.1;go_enter Tryz.func143,Tryz.ntmps143
 go_wp2_with (first
  | (go_at_call 146;go_must (refine (qAe _ _ _).mono ?_);rintro e c ⟨rfl,rfl⟩)
  | (go_at_call 158;go_must (refine (qAo _ _ _ (by omega) (by omega)).mono ?_);rintro e c ⟨rfl,rfl⟩)
  | (go_at_call 159;go_must (refine (qAq _ _ (by omega)).mono ?_);rintro e c ⟨rfl,rfl⟩))
 all_goals refine bodyPost_ret (v:=.tuple #[.agg #[U8 (0),U8 (B)],.bool true]) ?_ rfl ⟨rfl,by go_grown⟩
 all_goals rw [results_cell_tmp rfl]
 all_goals simp [asAddr,Result.andThen]
 all_goals rw [qAc (a:=0) (A:=B)]
 all_goals go_cell
theorem sdo_xor1 (a A b B:Int)(w:World)(f:0<=a/\a<=A/\A<=18446744073709551615)(d:0<=b/\b<=B/\B<=18446744073709551615)(g:(a==A)=false)(hm:A<B) :
  Cl 143 #[I4 8,.agg #[U8 a,U8 A],.agg #[U8 b,U8 B]] w fun e c=>e=.returned (.tuple #[.agg #[U8 (0),U8 (formL B)],.bool true])/\Bw w c:=by
 have i:decide (a<=A)=true:=decide_eq_true f.2.1;have k:decide (b<=B)=true:=decide_eq_true d.2.1;go_enter Tryz.func143,Tryz.ntmps143
 go_wp2_with (first
  | (go_at_call 146;go_must (refine (qAe _ _ _).mono ?_);rintro e c ⟨rfl,rfl⟩)
  | (go_at_call 158;go_must (refine (qAo _ _ _ (by omega) (by omega)).mono ?_);rintro e c ⟨rfl,rfl⟩)
  | (go_at_call 159;go_must (refine (qAq _ _ (by omega)).mono ?_);rintro e c ⟨rfl,rfl⟩))
 all_goals refine bodyPost_ret (v:=.tuple #[.agg #[U8 (0),U8 (formL B)],.bool true]) ?_ rfl ⟨rfl,by go_grown⟩
 all_goals rw [results_cell_tmp rfl]
 all_goals simp [asAddr,Result.andThen]
 all_goals rw [qAc (a:=0) (A:=formL B)]
 all_goals go_cell
theorem sdo_xor1s (a b B:Int)(w:World)(f:0<=a/\a<=a/\a<=18446744073709551615)(d:0<=b/\b<=B/\B<=18446744073709551615)(g:(b==B)=false)(hm:a<B) :
  Cl 143 #[I4 8,.agg #[U8 a,U8 a],.agg #[U8 b,U8 B]] w fun e c=>e=.returned (.tuple #[.agg #[U8 (0),U8 (formL B)],.bool true])/\Bw w c:=by
 have i:decide (a<=a)=true:=decide_eq_true f.2.1;have k:decide (b<=B)=true:=decide_eq_true d.2.1;go_enter Tryz.func143,Tryz.ntmps143
 go_wp2_with (first
  | (go_at_call 146;go_must (refine (qAe _ _ _).mono ?_);rintro e c ⟨rfl,rfl⟩)
  | (go_at_call 158;go_must (refine (qAo _ _ _ (by omega) (by omega)).mono ?_);rintro e c ⟨rfl,rfl⟩)
  | (go_at_call 159;go_must (refine (qAq _ _ (by omega)).mono ?_);rintro e c ⟨rfl,rfl⟩))
 all_goals refine bodyPost_ret (v:=.tuple #[.agg #[U8 (0),U8 (formL B)],.bool true]) ?_ rfl ⟨rfl,by go_grown⟩
 all_goals rw [results_cell_tmp rfl]
 all_goals simp [asAddr,Result.andThen]
 all_goals rw [qAc (a:=0) (A:=formL B)]
 all_goals go_cell
theorem sdo_xor2 (a A b B:Int)(w:World)(f:0<=a/\a<=A/\A<=18446744073709551615)(d:0<=b/\b<=B/\B<=18446744073709551615)(g:(a==A)=false)(hm:B<=A) :
  Cl 143 #[I4 8,.agg #[U8 a,U8 A],.agg #[U8 b,U8 B]] w fun e c=>e=.returned (.tuple #[.agg #[U8 (0),U8 (formL A)],.bool true])/\Bw w c:=by
 have i:decide (a<=A)=true:=decide_eq_true f.2.1;have k:decide (b<=B)=true:=decide_eq_true d.2.1;go_enter Tryz.func143,Tryz.ntmps143
 go_wp2_with (first
  | (go_at_call 146;go_must (refine (qAe _ _ _).mono ?_);rintro e c ⟨rfl,rfl⟩)
  | (go_at_call 158;go_must (refine (qAo _ _ _ (by omega) (by omega)).mono ?_);rintro e c ⟨rfl,rfl⟩)
  | (go_at_call 159;go_must (refine (qAq _ _ (by omega)).mono ?_);rintro e c ⟨rfl,rfl⟩))
 all_goals refine bodyPost_ret (v:=.tuple #[.agg #[U8 (0),U8 (formL A)],.bool true]) ?_ rfl ⟨rfl,by go_grown⟩
 all_goals rw [results_cell_tmp rfl]
 all_goals simp [asAddr,Result.andThen]
 all_goals rw [qAc (a:=0) (A:=formL A)]
 all_goals go_cell
theorem sdo_xor2s (a b B:Int)(w:World)(f:0<=a/\a<=a/\a<=18446744073709551615)(d:0<=b/\b<=B/\B<=18446744073709551615)(g:(b==B)=false)(hm:B<=a) :
  Cl 143 #[I4 8,.agg #[U8 a,U8 a],.agg #[U8 b,U8 B]] w fun e c=>e=.returned (.tuple #[.agg #[U8 (0),U8 (formL a)],.bool true])/\Bw w c:=by
 have i:decide (a<=a)=true:=decide_eq_true f.2.1;have k:decide (b<=B)=true:=decide_eq_true d.2.1;go_enter Tryz.func143,Tryz.ntmps143
 go_wp2_with (first
  | (go_at_call 146;go_must (refine (qAe _ _ _).mono ?_);rintro e c ⟨rfl,rfl⟩)
  | (go_at_call 158;go_must (refine (qAo _ _ _ (by omega) (by omega)).mono ?_);rintro e c ⟨rfl,rfl⟩)
  | (go_at_call 159;go_must (refine (qAq _ _ (by omega)).mono ?_);rintro e c ⟨rfl,rfl⟩))
 all_goals refine bodyPost_ret (v:=.tuple #[.agg #[U8 (0),U8 (formL a)],.bool true]) ?_ rfl ⟨rfl,by go_grown⟩
 all_goals rw [results_cell_tmp rfl]
 all_goals simp [asAddr,Result.andThen]
 all_goals rw [qAc (a:=0) (A:=formL a)]
 all_goals go_cell
theorem sdo_shl1 (a A b B:Int)(w:World)(f:0<=a/\a<=A/\A<=18446744073709551615)(d:0<=b/\b<=B/\B<=18446744073709551615)(g:(a==A)=false)(h:(b==B)=false) :
  Cl 143 #[I4 9,.agg #[U8 a,U8 A],.agg #[U8 b,U8 B]] w fun e c=>e=.returned (.tuple #[.agg #[U8 (0),U8 (18446744073709551615)],.bool true])/\Bw w c:=by
 have i:decide (a<=A)=true:=decide_eq_true f.2.1;have k:decide (b<=B)=true:=decide_eq_true d.2.1;go_enter Tryz.func143,Tryz.ntmps143
 go_wp2_with (first
  | (go_at_call 146;go_must (refine (qAe _ _ _).mono ?_);rintro e c ⟨rfl,rfl⟩)
  | (go_at_call 158;go_must (refine (qAo _ _ _ (by omega) (by omega)).mono ?_);rintro e c ⟨rfl,rfl⟩)
  | (go_at_call 159;go_must (refine (qAq _ _ (by omega)).mono ?_);rintro e c ⟨rfl,rfl⟩))
 all_goals refine bodyPost_ret (v:=.tuple #[.agg #[U8 (0),U8 (18446744073709551615)],.bool true]) ?_ rfl ⟨rfl,by go_grown⟩
 all_goals rw [results_cell_tmp rfl]
 all_goals simp [asAddr,Result.andThen]
 all_goals rw [qAc (a:=0) (A:=18446744073709551615)]
 all_goals go_cell
theorem sdo_shl1s (a b B:Int)(w:World)(f:0<=a/\a<=a/\a<=18446744073709551615)(d:0<=b/\b<=B/\B<=18446744073709551615)(g:(b==B)=false)(h:(b==B)=false) :
  Cl 143 #[I4 9,.agg #[U8 a,U8 a],.agg #[U8 b,U8 B]] w fun e c=>e=.returned (.tuple #[.agg #[U8 (0),U8 (18446744073709551615)],.bool true])/\Bw w c:=by
 have i:decide (a<=a)=true:=decide_eq_true f.2.1;have k:decide (b<=B)=true:=decide_eq_true d.2.1;go_enter Tryz.func143,Tryz.ntmps143
 go_wp2_with (first
  | (go_at_call 146;go_must (refine (qAe _ _ _).mono ?_);rintro e c ⟨rfl,rfl⟩)
  | (go_at_call 158;go_must (refine (qAo _ _ _ (by omega) (by omega)).mono ?_);rintro e c ⟨rfl,rfl⟩)
  | (go_at_call 159;go_must (refine (qAq _ _ (by omega)).mono ?_);rintro e c ⟨rfl,rfl⟩))
 all_goals refine bodyPost_ret (v:=.tuple #[.agg #[U8 (0),U8 (18446744073709551615)],.bool true]) ?_ rfl ⟨rfl,by go_grown⟩
 all_goals rw [results_cell_tmp rfl]
 all_goals simp [asAddr,Result.andThen]
 all_goals rw [qAc (a:=0) (A:=18446744073709551615)]
 all_goals go_cell
end Go.Proofs.YtmdhljoicnommaaGreat
