/-
  S6RDoA
  S6RDoB
-/
import Derived.Test.YtmdhljoicnommaaGreatME10
import Derived.Deep.RegionWith
namespace Go.Proofs.YtmdhljoicnommaaGreat
set_option maxHeartbeats 12800000
open Go.RowKit
set_option linter.unusedVariables false
set_option maxRecDepth 20000
theorem yUw (a A b B:Int)(w:World)(f:0<=a/\a<=A/\A<=18446744073709551615)(d:0<=b/\b<=B/\B<=18446744073709551615)(g:(a==A)=false)(h:A<=18446744073709551615-B) :
  Cl 143 #[I4 1,.agg #[U8 a,U8 A],.agg #[U8 b,U8 B]] w fun e c=>e=.returned (.tuple #[.agg #[U8 (a+b),U8 (A+B)],.bool true])/\Bw w c:=by
 have i:decide (a<=A)=true:=decide_eq_true f.2.1;have k:decide (b<=B)=true:=decide_eq_true d.2.1;go_enter Tryz.func143,Tryz.ntmps143
 go_wp2_with (first
  | (go_at_call 146;go_must (refine (qAf _ _ _).mono ?_);rintro e c ⟨rfl,rfl⟩)
  | (go_at_call 158;go_must (refine (qBd _ _ _ (by omega) (by omega)).mono ?_);rintro e c ⟨rfl,rfl⟩)
  | (go_at_call 159;go_must (refine (qBi _ _ (by omega)).mono ?_);rintro e c ⟨rfl,rfl⟩))
 all_goals refine bodyPost_ret (v:=.tuple #[.agg #[U8 (a+b),U8 (A+B)],.bool true]) ?_ rfl ⟨rfl,by go_grown⟩
 all_goals rw [results_cell_tmp rfl]
 all_goals simp [asAddr,Result.andThen]
 all_goals rw [qAe (a:=a+b) (A:=A+B)]
 all_goals go_cell
theorem yRp (a b B:Int)(w:World)(f:0<=a/\a<=a/\a<=18446744073709551615)(d:0<=b/\b<=B/\B<=18446744073709551615)(g:(b==B)=false)(h:a<=18446744073709551615-B) :
  Cl 143 #[I4 1,.agg #[U8 a,U8 a],.agg #[U8 b,U8 B]] w fun e c=>e=.returned (.tuple #[.agg #[U8 (a+b),U8 (a+B)],.bool true])/\Bw w c:=by
 have i:decide (a<=a)=true:=decide_eq_true f.2.1;have k:decide (b<=B)=true:=decide_eq_true d.2.1;go_enter Tryz.func143,Tryz.ntmps143
 go_wp2_with (first
  | (go_at_call 146;go_must (refine (qAf _ _ _).mono ?_);rintro e c ⟨rfl,rfl⟩)
  | (go_at_call 158;go_must (refine (qBd _ _ _ (by omega) (by omega)).mono ?_);rintro e c ⟨rfl,rfl⟩)
  | (go_at_call 159;go_must (refine (qBi _ _ (by omega)).mono ?_);rintro e c ⟨rfl,rfl⟩))
 all_goals refine bodyPost_ret (v:=.tuple #[.agg #[U8 (a+b),U8 (a+B)],.bool true]) ?_ rfl ⟨rfl,by go_grown⟩
 all_goals rw [results_cell_tmp rfl]
 all_goals simp [asAddr,Result.andThen]
 all_goals rw [qAe (a:=a+b) (A:=a+B)]
 all_goals go_cell
theorem yVi (a A b B:Int)(w:World)(f:0<=a/\a<=A/\A<=18446744073709551615)(d:0<=b/\b<=B/\B<=18446744073709551615)(g:(a==A)=false)(h:18446744073709551615-B<A) :
  Cl 143 #[I4 1,.agg #[U8 a,U8 A],.agg #[U8 b,U8 B]] w fun e c=>e=.returned (.tuple #[.agg #[U8 (0),U8 (18446744073709551615)],.bool true])/\Bw w c:=by
 have i:decide (a<=A)=true:=decide_eq_true f.2.1;have k:decide (b<=B)=true:=decide_eq_true d.2.1;go_enter Tryz.func143,Tryz.ntmps143
 go_wp2_with (first
  | (go_at_call 146;go_must (refine (qAf _ _ _).mono ?_);rintro e c ⟨rfl,rfl⟩)
  | (go_at_call 158;go_must (refine (qBd _ _ _ (by omega) (by omega)).mono ?_);rintro e c ⟨rfl,rfl⟩)
  | (go_at_call 159;go_must (refine (qBi _ _ (by omega)).mono ?_);rintro e c ⟨rfl,rfl⟩))
 all_goals refine bodyPost_ret (v:=.tuple #[.agg #[U8 (0),U8 (18446744073709551615)],.bool true]) ?_ rfl ⟨rfl,by go_grown⟩
 all_goals rw [results_cell_tmp rfl]
 all_goals simp [asAddr,Result.andThen]
 all_goals rw [qAe (a:=0) (A:=18446744073709551615)]
 all_goals go_cell
theorem yLv (a b B:Int)(w:World)(f:0<=a/\a<=a/\a<=18446744073709551615)(d:0<=b/\b<=B/\B<=18446744073709551615)(g:(b==B)=false)(h:18446744073709551615-B<a) :
  Cl 143 #[I4 1,.agg #[U8 a,U8 a],.agg #[U8 b,U8 B]] w fun e c=>e=.returned (.tuple #[.agg #[U8 (0),U8 (18446744073709551615)],.bool true])/\Bw w c:=by
 have i:decide (a<=a)=true:=decide_eq_true f.2.1;have k:decide (b<=B)=true:=decide_eq_true d.2.1;go_enter Tryz.func143,Tryz.ntmps143
 go_wp2_with (first
  | (go_at_call 146;go_must (refine (qAf _ _ _).mono ?_);rintro e c ⟨rfl,rfl⟩)
  | (go_at_call 158;go_must (refine (qBd _ _ _ (by omega) (by omega)).mono ?_);rintro e c ⟨rfl,rfl⟩)
  | (go_at_call 159;go_must (refine (qBi _ _ (by omega)).mono ?_);rintro e c ⟨rfl,rfl⟩))
 all_goals refine bodyPost_ret (v:=.tuple #[.agg #[U8 (0),U8 (18446744073709551615)],.bool true]) ?_ rfl ⟨rfl,by go_grown⟩
 all_goals rw [results_cell_tmp rfl]
 all_goals simp [asAddr,Result.andThen]
 all_goals rw [qAe (a:=0) (A:=18446744073709551615)]
 all_goals go_cell
theorem ySj (a A b B:Int)(w:World)(f:0<=a/\a<=A/\A<=18446744073709551615)(d:0<=b/\b<=B/\B<=18446744073709551615)(g:(a==A)=false)(h:B<=a) :
  Cl 143 #[I4 2,.agg #[U8 a,U8 A],.agg #[U8 b,U8 B]] w fun e c=>e=.returned (.tuple #[.agg #[U8 (a-B),U8 (A-b)],.bool true])/\Bw w c:=by
 have i:decide (a<=A)=true:=decide_eq_true f.2.1;have k:decide (b<=B)=true:=decide_eq_true d.2.1;go_enter Tryz.func143,Tryz.ntmps143
 go_wp2_with (first
  | (go_at_call 146;go_must (refine (qAf _ _ _).mono ?_);rintro e c ⟨rfl,rfl⟩)
  | (go_at_call 158;go_must (refine (qBd _ _ _ (by omega) (by omega)).mono ?_);rintro e c ⟨rfl,rfl⟩)
  | (go_at_call 159;go_must (refine (qBi _ _ (by omega)).mono ?_);rintro e c ⟨rfl,rfl⟩))
 all_goals refine bodyPost_ret (v:=.tuple #[.agg #[U8 (a-B),U8 (A-b)],.bool true]) ?_ rfl ⟨rfl,by go_grown⟩
 all_goals rw [results_cell_tmp rfl]
 all_goals simp [asAddr,Result.andThen]
 all_goals rw [qAe (a:=a-B) (A:=A-b)]
 all_goals go_cell
theorem yOs (a b B:Int)(w:World)(f:0<=a/\a<=a/\a<=18446744073709551615)(d:0<=b/\b<=B/\B<=18446744073709551615)(g:(b==B)=false)(h:B<=a) :
  Cl 143 #[I4 2,.agg #[U8 a,U8 a],.agg #[U8 b,U8 B]] w fun e c=>e=.returned (.tuple #[.agg #[U8 (a-B),U8 (a-b)],.bool true])/\Bw w c:=by
 have i:decide (a<=a)=true:=decide_eq_true f.2.1;have k:decide (b<=B)=true:=decide_eq_true d.2.1;go_enter Tryz.func143,Tryz.ntmps143
 go_wp2_with (first
  | (go_at_call 146;go_must (refine (qAf _ _ _).mono ?_);rintro e c ⟨rfl,rfl⟩)
  | (go_at_call 158;go_must (refine (qBd _ _ _ (by omega) (by omega)).mono ?_);rintro e c ⟨rfl,rfl⟩)
  | (go_at_call 159;go_must (refine (qBi _ _ (by omega)).mono ?_);rintro e c ⟨rfl,rfl⟩))
 all_goals refine bodyPost_ret (v:=.tuple #[.agg #[U8 (a-B),U8 (a-b)],.bool true]) ?_ rfl ⟨rfl,by go_grown⟩
 all_goals rw [results_cell_tmp rfl]
 all_goals simp [asAddr,Result.andThen]
 all_goals rw [qAe (a:=a-B) (A:=a-b)]
 all_goals go_cell
theorem yUd (a A b B:Int)(w:World)(f:0<=a/\a<=A/\A<=18446744073709551615)(d:0<=b/\b<=B/\B<=18446744073709551615)(g:(a==A)=false)(h:a<B) :
  Cl 143 #[I4 2,.agg #[U8 a,U8 A],.agg #[U8 b,U8 B]] w fun e c=>e=.returned (.tuple #[.agg #[U8 (0),U8 (18446744073709551615)],.bool true])/\Bw w c:=by
 have i:decide (a<=A)=true:=decide_eq_true f.2.1;have k:decide (b<=B)=true:=decide_eq_true d.2.1;go_enter Tryz.func143,Tryz.ntmps143
 go_wp2_with (first
  | (go_at_call 146;go_must (refine (qAf _ _ _).mono ?_);rintro e c ⟨rfl,rfl⟩)
  | (go_at_call 158;go_must (refine (qBd _ _ _ (by omega) (by omega)).mono ?_);rintro e c ⟨rfl,rfl⟩)
  | (go_at_call 159;go_must (refine (qBi _ _ (by omega)).mono ?_);rintro e c ⟨rfl,rfl⟩))
 all_goals refine bodyPost_ret (v:=.tuple #[.agg #[U8 (0),U8 (18446744073709551615)],.bool true]) ?_ rfl ⟨rfl,by go_grown⟩
 all_goals rw [results_cell_tmp rfl]
 all_goals simp [asAddr,Result.andThen]
 all_goals rw [qAe (a:=0) (A:=18446744073709551615)]
 all_goals go_cell
theorem yPh (a b B:Int)(w:World)(f:0<=a/\a<=a/\a<=18446744073709551615)(d:0<=b/\b<=B/\B<=18446744073709551615)(g:(b==B)=false)(h:a<B) :
  Cl 143 #[I4 2,.agg #[U8 a,U8 a],.agg #[U8 b,U8 B]] w fun e c=>e=.returned (.tuple #[.agg #[U8 (0),U8 (18446744073709551615)],.bool true])/\Bw w c:=by
 have i:decide (a<=a)=true:=decide_eq_true f.2.1;have k:decide (b<=B)=true:=decide_eq_true d.2.1;go_enter Tryz.func143,Tryz.ntmps143
 go_wp2_with (first
  | (go_at_call 146;go_must (refine (qAf _ _ _).mono ?_);rintro e c ⟨rfl,rfl⟩)
  | (go_at_call 158;go_must (refine (qBd _ _ _ (by omega) (by omega)).mono ?_);rintro e c ⟨rfl,rfl⟩)
  | (go_at_call 159;go_must (refine (qBi _ _ (by omega)).mono ?_);rintro e c ⟨rfl,rfl⟩))
 all_goals refine bodyPost_ret (v:=.tuple #[.agg #[U8 (0),U8 (18446744073709551615)],.bool true]) ?_ rfl ⟨rfl,by go_grown⟩
 all_goals rw [results_cell_tmp rfl]
 all_goals simp [asAddr,Result.andThen]
 all_goals rw [qAe (a:=0) (A:=18446744073709551615)]
 all_goals go_cell
theorem yTc (a A b B:Int)(w:World)(f:0<=a/\a<=A/\A<=18446744073709551615)(d:0<=b/\b<=B/\B<=18446744073709551615)(g:(a==A)=false)(h:decide (18446744073709551615<A*B)=false)(k:IntKind.u64.wrap (a*b)=a*b)(l:IntKind.u64.wrap (A*B)=A*B) :
  Cl 143 #[I4 3,.agg #[U8 a,U8 A],.agg #[U8 b,U8 B]] w fun e c=>e=.returned (.tuple #[.agg #[U8 (a*b),U8 (A*B)],.bool true])/\Bw w c:=by
 have i:decide (a<=A)=true:=decide_eq_true f.2.1;have n:decide (b<=B)=true:=decide_eq_true d.2.1;go_enter Tryz.func143,Tryz.ntmps143
 go_wp2_with (first
  | (go_at_call 146;go_must (refine (qAf _ _ _).mono ?_);rintro e c ⟨rfl,rfl⟩)
  | (go_at_call 158;go_must (refine (qBd _ _ _ (by omega) (by omega)).mono ?_);rintro e c ⟨rfl,rfl⟩)
  | (go_at_call 159;go_must (refine (qBi _ _ (by omega)).mono ?_);rintro e c ⟨rfl,rfl⟩))
 all_goals refine bodyPost_ret (v:=.tuple #[.agg #[U8 (a*b),U8 (A*B)],.bool true]) ?_ rfl ⟨rfl,by go_grown⟩
 all_goals rw [results_cell_tmp rfl]
 all_goals simp [asAddr,Result.andThen]
 all_goals rw [qAe (a:=a*b) (A:=A*B)]
 all_goals go_cell
theorem yQq (a b B:Int)(w:World)(f:0<=a/\a<=a/\a<=18446744073709551615)(d:0<=b/\b<=B/\B<=18446744073709551615)(g:(b==B)=false)(h:decide (18446744073709551615<a*B)=false)(k:IntKind.u64.wrap (a*b)=a*b)(l:IntKind.u64.wrap (a*B)=a*B) :
  Cl 143 #[I4 3,.agg #[U8 a,U8 a],.agg #[U8 b,U8 B]] w fun e c=>e=.returned (.tuple #[.agg #[U8 (a*b),U8 (a*B)],.bool true])/\Bw w c:=by
 have i:decide (a<=a)=true:=decide_eq_true f.2.1;have n:decide (b<=B)=true:=decide_eq_true d.2.1;go_enter Tryz.func143,Tryz.ntmps143
 go_wp2_with (first
  | (go_at_call 146;go_must (refine (qAf _ _ _).mono ?_);rintro e c ⟨rfl,rfl⟩)
  | (go_at_call 158;go_must (refine (qBd _ _ _ (by omega) (by omega)).mono ?_);rintro e c ⟨rfl,rfl⟩)
  | (go_at_call 159;go_must (refine (qBi _ _ (by omega)).mono ?_);rintro e c ⟨rfl,rfl⟩))
 all_goals refine bodyPost_ret (v:=.tuple #[.agg #[U8 (a*b),U8 (a*B)],.bool true]) ?_ rfl ⟨rfl,by go_grown⟩
 all_goals rw [results_cell_tmp rfl]
 all_goals simp [asAddr,Result.andThen]
 all_goals rw [qAe (a:=a*b) (A:=a*B)]
 all_goals go_cell
theorem ySv (a A b B:Int)(w:World)(f:0<=a/\a<=A/\A<=18446744073709551615)(d:0<=b/\b<=B/\B<=18446744073709551615)(g:(a==A)=false)(h:decide (18446744073709551615<A*B)=true) :
  Cl 143 #[I4 3,.agg #[U8 a,U8 A],.agg #[U8 b,U8 B]] w fun e c=>e=.returned (.tuple #[.agg #[U8 (0),U8 (18446744073709551615)],.bool true])/\Bw w c:=by
 have i:decide (a<=A)=true:=decide_eq_true f.2.1;have k:decide (b<=B)=true:=decide_eq_true d.2.1;go_enter Tryz.func143,Tryz.ntmps143
 go_wp2_with (first
  | (go_at_call 146;go_must (refine (qAf _ _ _).mono ?_);rintro e c ⟨rfl,rfl⟩)
  | (go_at_call 158;go_must (refine (qBd _ _ _ (by omega) (by omega)).mono ?_);rintro e c ⟨rfl,rfl⟩)
  | (go_at_call 159;go_must (refine (qBi _ _ (by omega)).mono ?_);rintro e c ⟨rfl,rfl⟩))
 all_goals refine bodyPost_ret (v:=.tuple #[.agg #[U8 (0),U8 (18446744073709551615)],.bool true]) ?_ rfl ⟨rfl,by go_grown⟩
 all_goals rw [results_cell_tmp rfl]
 all_goals simp [asAddr,Result.andThen]
 all_goals rw [qAe (a:=0) (A:=18446744073709551615)]
 all_goals go_cell
theorem yPa (a b B:Int)(w:World)(f:0<=a/\a<=a/\a<=18446744073709551615)(d:0<=b/\b<=B/\B<=18446744073709551615)(g:(b==B)=false)(h:decide (18446744073709551615<a*B)=true) :
  Cl 143 #[I4 3,.agg #[U8 a,U8 a],.agg #[U8 b,U8 B]] w fun e c=>e=.returned (.tuple #[.agg #[U8 (0),U8 (18446744073709551615)],.bool true])/\Bw w c:=by
 have i:decide (a<=a)=true:=decide_eq_true f.2.1;have k:decide (b<=B)=true:=decide_eq_true d.2.1;go_enter Tryz.func143,Tryz.ntmps143
 go_wp2_with (first
  | (go_at_call 146;go_must (refine (qAf _ _ _).mono ?_);rintro e c ⟨rfl,rfl⟩)
  | (go_at_call 158;go_must (refine (qBd _ _ _ (by omega) (by omega)).mono ?_);rintro e c ⟨rfl,rfl⟩)
  | (go_at_call 159;go_must (refine (qBi _ _ (by omega)).mono ?_);rintro e c ⟨rfl,rfl⟩))
 all_goals refine bodyPost_ret (v:=.tuple #[.agg #[U8 (0),U8 (18446744073709551615)],.bool true]) ?_ rfl ⟨rfl,by go_grown⟩
 all_goals rw [results_cell_tmp rfl]
 all_goals simp [asAddr,Result.andThen]
 all_goals rw [qAe (a:=0) (A:=18446744073709551615)]
 all_goals go_cell
theorem yUq (a A B:Int)(w:World)(d:0<=a/\a<=A/\A<=18446744073709551615)(c:0<=0/\0<=B/\B<=18446744073709551615)(f:(a==A)=false)  :
  Cl 143 #[I4 4,.agg #[U8 a,U8 A],.agg #[U8 0,U8 B]] w fun e b=>e=.returned (.tuple #[.agg #[U8 (0),U8 (A)],.bool true])/\Bw w b:=by
 have g:decide (a<=A)=true:=decide_eq_true d.2.1;have i:decide (0<=B)=true:=decide_eq_true c.2.1;go_enter Tryz.func143,Tryz.ntmps143
 go_wp2_with (first
  | (go_at_call 146;go_must (refine (qAf _ _ _).mono ?_);rintro e b ⟨rfl,rfl⟩)
  | (go_at_call 158;go_must (refine (qBd _ _ _ (by omega) (by omega)).mono ?_);rintro e b ⟨rfl,rfl⟩)
  | (go_at_call 159;go_must (refine (qBi _ _ (by omega)).mono ?_);rintro e b ⟨rfl,rfl⟩))
 all_goals refine bodyPost_ret (v:=.tuple #[.agg #[U8 (0),U8 (A)],.bool true]) ?_ rfl ⟨rfl,by go_grown⟩
 all_goals rw [results_cell_tmp rfl]
 all_goals simp [asAddr,Result.andThen]
 all_goals rw [qAe (a:=0) (A:=A)]
 all_goals go_cell
theorem yNe (a B:Int)(w:World)(d:0<=a/\a<=a/\a<=18446744073709551615)(c:0<=0/\0<=B/\B<=18446744073709551615)(f:(0==B)=false)  :
  Cl 143 #[I4 4,.agg #[U8 a,U8 a],.agg #[U8 0,U8 B]] w fun e b=>e=.returned (.tuple #[.agg #[U8 (0),U8 (a)],.bool true])/\Bw w b:=by
 have g:decide (a<=a)=true:=decide_eq_true d.2.1;have i:decide (0<=B)=true:=decide_eq_true c.2.1;go_enter Tryz.func143,Tryz.ntmps143
 go_wp2_with (first
  | (go_at_call 146;go_must (refine (qAf _ _ _).mono ?_);rintro e b ⟨rfl,rfl⟩)
  | (go_at_call 158;go_must (refine (qBd _ _ _ (by omega) (by omega)).mono ?_);rintro e b ⟨rfl,rfl⟩)
  | (go_at_call 159;go_must (refine (qBi _ _ (by omega)).mono ?_);rintro e b ⟨rfl,rfl⟩))
 all_goals refine bodyPost_ret (v:=.tuple #[.agg #[U8 (0),U8 (a)],.bool true]) ?_ rfl ⟨rfl,by go_grown⟩
 all_goals rw [results_cell_tmp rfl]
 all_goals simp [asAddr,Result.andThen]
 all_goals rw [qAe (a:=0) (A:=a)]
 all_goals go_cell
theorem yTi (a A b B:Int)(w:World)(f:0<=a/\a<=A/\A<=18446744073709551615)(d:0<=b/\b<=B/\B<=18446744073709551615)(g:(a==A)=false)(h:(b==0)=false) :
  Cl 143 #[I4 4,.agg #[U8 a,U8 A],.agg #[U8 b,U8 B]] w fun e c=>e=.returned (.tuple #[.agg #[U8 (a / B),U8 (A / b)],.bool true])/\Bw w c:=by
 have k:decide (a<=A)=true:=decide_eq_true f.2.1;have n:decide (b<=B)=true:=decide_eq_true d.2.1
 have i:¬ b=0:=by simpa using h
 have l:¬ B=0:=by omega
 go_enter Tryz.func143,Tryz.ntmps143
 go_wp2_with (first
  | (go_at_call 146;go_must (refine (qAf _ _ _).mono ?_);rintro e c ⟨rfl,rfl⟩)
  | (go_at_call 158;go_must (refine (qBd _ _ _ (by omega) (by omega)).mono ?_);rintro e c ⟨rfl,rfl⟩)
  | (go_at_call 159;go_must (refine (qBi _ _ (by omega)).mono ?_);rintro e c ⟨rfl,rfl⟩))
 go_region
 all_goals go_wp2
 all_goals refine bodyPost_ret (v:=.tuple #[.agg #[U8 (a / B),U8 (A / b)],.bool true]) ?_ rfl ⟨rfl,by go_grown⟩
 all_goals rw [results_cell_tmp rfl]
 all_goals simp [asAddr,Result.andThen]
 all_goals rw [qAe (a:=a / B) (A:=A / b)]
 all_goals go_cell
theorem yPf (a b B:Int)(w:World)(f:0<=a/\a<=a/\a<=18446744073709551615)(d:0<=b/\b<=B/\B<=18446744073709551615)(g:(b==B)=false)(h:(b==0)=false) :
  Cl 143 #[I4 4,.agg #[U8 a,U8 a],.agg #[U8 b,U8 B]] w fun e c=>e=.returned (.tuple #[.agg #[U8 (a / B),U8 (a / b)],.bool true])/\Bw w c:=by
 have k:decide (a<=a)=true:=decide_eq_true f.2.1;have n:decide (b<=B)=true:=decide_eq_true d.2.1
 have i:¬ b=0:=by simpa using h
 have l:¬ B=0:=by omega
 go_enter Tryz.func143,Tryz.ntmps143
 go_wp2_with (first
  | (go_at_call 146;go_must (refine (qAf _ _ _).mono ?_);rintro e c ⟨rfl,rfl⟩)
  | (go_at_call 158;go_must (refine (qBd _ _ _ (by omega) (by omega)).mono ?_);rintro e c ⟨rfl,rfl⟩)
  | (go_at_call 159;go_must (refine (qBi _ _ (by omega)).mono ?_);rintro e c ⟨rfl,rfl⟩))
 go_region
 all_goals go_wp2
 all_goals refine bodyPost_ret (v:=.tuple #[.agg #[U8 (a / B),U8 (a / b)],.bool true]) ?_ rfl ⟨rfl,by go_grown⟩
 all_goals rw [results_cell_tmp rfl]
 all_goals simp [asAddr,Result.andThen]
 all_goals rw [qAe (a:=a / B) (A:=a / b)]
 all_goals go_cell
theorem yVm (a A B:Int)(w:World)(d:0<=a/\a<=A/\A<=18446744073709551615)(c:0<=0/\0<=B/\B<=18446744073709551615)(f:(a==A)=false)  :
  Cl 143 #[I4 5,.agg #[U8 a,U8 A],.agg #[U8 0,U8 B]] w fun e b=>e=.returned (.tuple #[.agg #[U8 (0),U8 (A)],.bool true])/\Bw w b:=by
 have g:decide (a<=A)=true:=decide_eq_true d.2.1;have i:decide (0<=B)=true:=decide_eq_true c.2.1;go_enter Tryz.func143,Tryz.ntmps143
 go_wp2_with (first
  | (go_at_call 146;go_must (refine (qAf _ _ _).mono ?_);rintro e b ⟨rfl,rfl⟩)
  | (go_at_call 158;go_must (refine (qBd _ _ _ (by omega) (by omega)).mono ?_);rintro e b ⟨rfl,rfl⟩)
  | (go_at_call 159;go_must (refine (qBi _ _ (by omega)).mono ?_);rintro e b ⟨rfl,rfl⟩))
 all_goals refine bodyPost_ret (v:=.tuple #[.agg #[U8 (0),U8 (A)],.bool true]) ?_ rfl ⟨rfl,by go_grown⟩
 all_goals rw [results_cell_tmp rfl]
 all_goals simp [asAddr,Result.andThen]
 all_goals rw [qAe (a:=0) (A:=A)]
 all_goals go_cell
theorem yQd (a B:Int)(w:World)(d:0<=a/\a<=a/\a<=18446744073709551615)(c:0<=0/\0<=B/\B<=18446744073709551615)(f:(0==B)=false)  :
  Cl 143 #[I4 5,.agg #[U8 a,U8 a],.agg #[U8 0,U8 B]] w fun e b=>e=.returned (.tuple #[.agg #[U8 (0),U8 (a)],.bool true])/\Bw w b:=by
 have g:decide (a<=a)=true:=decide_eq_true d.2.1;have i:decide (0<=B)=true:=decide_eq_true c.2.1;go_enter Tryz.func143,Tryz.ntmps143
 go_wp2_with (first
  | (go_at_call 146;go_must (refine (qAf _ _ _).mono ?_);rintro e b ⟨rfl,rfl⟩)
  | (go_at_call 158;go_must (refine (qBd _ _ _ (by omega) (by omega)).mono ?_);rintro e b ⟨rfl,rfl⟩)
  | (go_at_call 159;go_must (refine (qBi _ _ (by omega)).mono ?_);rintro e b ⟨rfl,rfl⟩))
 all_goals refine bodyPost_ret (v:=.tuple #[.agg #[U8 (0),U8 (a)],.bool true]) ?_ rfl ⟨rfl,by go_grown⟩
 all_goals rw [results_cell_tmp rfl]
 all_goals simp [asAddr,Result.andThen]
 all_goals rw [qAe (a:=0) (A:=a)]
 all_goals go_cell
theorem yVp (a A b B:Int)(w:World)(f:0<=a/\a<=A/\A<=18446744073709551615)(d:0<=b/\b<=B/\B<=18446744073709551615)(i:(a==A)=false)(h:(b==0)=false)(g:A<b) :
  Cl 143 #[I4 5,.agg #[U8 a,U8 A],.agg #[U8 b,U8 B]] w fun e c=>e=.returned (.tuple #[.agg #[U8 (a),U8 (A)],.bool true])/\Bw w c:=by
 have k:decide (a<=A)=true:=decide_eq_true f.2.1;have l:decide (b<=B)=true:=decide_eq_true d.2.1;go_enter Tryz.func143,Tryz.ntmps143
 go_wp2_with (first
  | (go_at_call 146;go_must (refine (qAf _ _ _).mono ?_);rintro e c ⟨rfl,rfl⟩)
  | (go_at_call 158;go_must (refine (qBd _ _ _ (by omega) (by omega)).mono ?_);rintro e c ⟨rfl,rfl⟩)
  | (go_at_call 159;go_must (refine (qBi _ _ (by omega)).mono ?_);rintro e c ⟨rfl,rfl⟩))
 all_goals refine bodyPost_ret (v:=.tuple #[.agg #[U8 (a),U8 (A)],.bool true]) ?_ rfl ⟨rfl,by go_grown⟩
 all_goals rw [results_cell_tmp rfl]
 all_goals simp [asAddr,Result.andThen]
 all_goals rw [qAe (a:=a) (A:=A)]
 all_goals go_cell
theorem yRs (a b B:Int)(w:World)(f:0<=a/\a<=a/\a<=18446744073709551615)(d:0<=b/\b<=B/\B<=18446744073709551615)(i:(b==B)=false)(h:(b==0)=false)(g:a<b) :
  Cl 143 #[I4 5,.agg #[U8 a,U8 a],.agg #[U8 b,U8 B]] w fun e c=>e=.returned (.tuple #[.agg #[U8 (a),U8 (a)],.bool true])/\Bw w c:=by
 have k:decide (a<=a)=true:=decide_eq_true f.2.1;have l:decide (b<=B)=true:=decide_eq_true d.2.1;go_enter Tryz.func143,Tryz.ntmps143
 go_wp2_with (first
  | (go_at_call 146;go_must (refine (qAf _ _ _).mono ?_);rintro e c ⟨rfl,rfl⟩)
  | (go_at_call 158;go_must (refine (qBd _ _ _ (by omega) (by omega)).mono ?_);rintro e c ⟨rfl,rfl⟩)
  | (go_at_call 159;go_must (refine (qBi _ _ (by omega)).mono ?_);rintro e c ⟨rfl,rfl⟩))
 all_goals refine bodyPost_ret (v:=.tuple #[.agg #[U8 (a),U8 (a)],.bool true]) ?_ rfl ⟨rfl,by go_grown⟩
 all_goals rw [results_cell_tmp rfl]
 all_goals simp [asAddr,Result.andThen]
 all_goals rw [qAe (a:=a) (A:=a)]
 all_goals go_cell
theorem yTj (a A b B:Int)(w:World)(f:0<=a/\a<=A/\A<=18446744073709551615)(d:0<=b/\b<=B/\B<=18446744073709551615)(i:(a==A)=false)(h:(b==0)=false)(g:¬ A<b)(l:IntKind.u64.wrap (B-1)=B-1)(hm:B-1<A) :
  Cl 143 #[I4 5,.agg #[U8 a,U8 A],.agg #[U8 b,U8 B]] w fun e c=>e=.returned (.tuple #[.agg #[U8 (0),U8 (B-1)],.bool true])/\Bw w c:=by
 have k:decide (a<=A)=true:=decide_eq_true f.2.1;have n:decide (b<=B)=true:=decide_eq_true d.2.1;go_enter Tryz.func143,Tryz.ntmps143
 go_wp2_with (first
  | (go_at_call 146;go_must (refine (qAf _ _ _).mono ?_);rintro e c ⟨rfl,rfl⟩)
  | (go_at_call 158;go_must (refine (qBd _ _ _ (by omega) (by omega)).mono ?_);rintro e c ⟨rfl,rfl⟩)
  | (go_at_call 159;go_must (refine (qBi _ _ (by omega)).mono ?_);rintro e c ⟨rfl,rfl⟩))
 all_goals refine bodyPost_ret (v:=.tuple #[.agg #[U8 (0),U8 (B-1)],.bool true]) ?_ rfl ⟨rfl,by go_grown⟩
 all_goals rw [results_cell_tmp rfl]
 all_goals simp [asAddr,Result.andThen]
 all_goals rw [qAe (a:=0) (A:=B-1)]
 all_goals go_cell
theorem yOf (a b B:Int)(w:World)(f:0<=a/\a<=a/\a<=18446744073709551615)(d:0<=b/\b<=B/\B<=18446744073709551615)(i:(b==B)=false)(h:(b==0)=false)(g:¬ a<b)(l:IntKind.u64.wrap (B-1)=B-1)(hm:B-1<a) :
  Cl 143 #[I4 5,.agg #[U8 a,U8 a],.agg #[U8 b,U8 B]] w fun e c=>e=.returned (.tuple #[.agg #[U8 (0),U8 (B-1)],.bool true])/\Bw w c:=by
 have k:decide (a<=a)=true:=decide_eq_true f.2.1;have n:decide (b<=B)=true:=decide_eq_true d.2.1;go_enter Tryz.func143,Tryz.ntmps143
 go_wp2_with (first
  | (go_at_call 146;go_must (refine (qAf _ _ _).mono ?_);rintro e c ⟨rfl,rfl⟩)
  | (go_at_call 158;go_must (refine (qBd _ _ _ (by omega) (by omega)).mono ?_);rintro e c ⟨rfl,rfl⟩)
  | (go_at_call 159;go_must (refine (qBi _ _ (by omega)).mono ?_);rintro e c ⟨rfl,rfl⟩))
 all_goals refine bodyPost_ret (v:=.tuple #[.agg #[U8 (0),U8 (B-1)],.bool true]) ?_ rfl ⟨rfl,by go_grown⟩
 all_goals rw [results_cell_tmp rfl]
 all_goals simp [asAddr,Result.andThen]
 all_goals rw [qAe (a:=0) (A:=B-1)]
 all_goals go_cell
theorem yVd (a A b B:Int)(w:World)(f:0<=a/\a<=A/\A<=18446744073709551615)(d:0<=b/\b<=B/\B<=18446744073709551615)(i:(a==A)=false)(h:(b==0)=false)(g:¬ A<b)(l:IntKind.u64.wrap (B-1)=B-1)(hm:A<=B-1) :
  Cl 143 #[I4 5,.agg #[U8 a,U8 A],.agg #[U8 b,U8 B]] w fun e c=>e=.returned (.tuple #[.agg #[U8 (0),U8 (A)],.bool true])/\Bw w c:=by
 have k:decide (a<=A)=true:=decide_eq_true f.2.1;have n:decide (b<=B)=true:=decide_eq_true d.2.1;go_enter Tryz.func143,Tryz.ntmps143
 go_wp2_with (first
  | (go_at_call 146;go_must (refine (qAf _ _ _).mono ?_);rintro e c ⟨rfl,rfl⟩)
  | (go_at_call 158;go_must (refine (qBd _ _ _ (by omega) (by omega)).mono ?_);rintro e c ⟨rfl,rfl⟩)
  | (go_at_call 159;go_must (refine (qBi _ _ (by omega)).mono ?_);rintro e c ⟨rfl,rfl⟩))
 all_goals refine bodyPost_ret (v:=.tuple #[.agg #[U8 (0),U8 (A)],.bool true]) ?_ rfl ⟨rfl,by go_grown⟩
 all_goals rw [results_cell_tmp rfl]
 all_goals simp [asAddr,Result.andThen]
 all_goals rw [qAe (a:=0) (A:=A)]
 all_goals go_cell
theorem yQo (a b B:Int)(w:World)(f:0<=a/\a<=a/\a<=18446744073709551615)(d:0<=b/\b<=B/\B<=18446744073709551615)(i:(b==B)=false)(h:(b==0)=false)(g:¬ a<b)(l:IntKind.u64.wrap (B-1)=B-1)(hm:a<=B-1) :
  Cl 143 #[I4 5,.agg #[U8 a,U8 a],.agg #[U8 b,U8 B]] w fun e c=>e=.returned (.tuple #[.agg #[U8 (0),U8 (a)],.bool true])/\Bw w c:=by
 have k:decide (a<=a)=true:=decide_eq_true f.2.1;have n:decide (b<=B)=true:=decide_eq_true d.2.1;go_enter Tryz.func143,Tryz.ntmps143
 go_wp2_with (first
  | (go_at_call 146;go_must (refine (qAf _ _ _).mono ?_);rintro e c ⟨rfl,rfl⟩)
  | (go_at_call 158;go_must (refine (qBd _ _ _ (by omega) (by omega)).mono ?_);rintro e c ⟨rfl,rfl⟩)
  | (go_at_call 159;go_must (refine (qBi _ _ (by omega)).mono ?_);rintro e c ⟨rfl,rfl⟩))
 all_goals refine bodyPost_ret (v:=.tuple #[.agg #[U8 (0),U8 (a)],.bool true]) ?_ rfl ⟨rfl,by go_grown⟩
 all_goals rw [results_cell_tmp rfl]
 all_goals simp [asAddr,Result.andThen]
 all_goals rw [qAe (a:=0) (A:=a)]
 all_goals go_cell
theorem ySh (a A b B:Int)(w:World)(f:0<=a/\a<=A/\A<=18446744073709551615)(d:0<=b/\b<=B/\B<=18446744073709551615)(g:(a==A)=false)(hm:A<=B) :
  Cl 143 #[I4 6,.agg #[U8 a,U8 A],.agg #[U8 b,U8 B]] w fun e c=>e=.returned (.tuple #[.agg #[U8 (0),U8 (A)],.bool true])/\Bw w c:=by
 have i:decide (a<=A)=true:=decide_eq_true f.2.1;have k:decide (b<=B)=true:=decide_eq_true d.2.1;go_enter Tryz.func143,Tryz.ntmps143
 go_wp2_with (first
  | (go_at_call 146;go_must (refine (qAf _ _ _).mono ?_);rintro e c ⟨rfl,rfl⟩)
  | (go_at_call 158;go_must (refine (qBd _ _ _ (by omega) (by omega)).mono ?_);rintro e c ⟨rfl,rfl⟩)
  | (go_at_call 159;go_must (refine (qBi _ _ (by omega)).mono ?_);rintro e c ⟨rfl,rfl⟩))
 all_goals refine bodyPost_ret (v:=.tuple #[.agg #[U8 (0),U8 (A)],.bool true]) ?_ rfl ⟨rfl,by go_grown⟩
 all_goals rw [results_cell_tmp rfl]
 all_goals simp [asAddr,Result.andThen]
 all_goals rw [qAe (a:=0) (A:=A)]
 all_goals go_cell
theorem yPw (a b B:Int)(w:World)(f:0<=a/\a<=a/\a<=18446744073709551615)(d:0<=b/\b<=B/\B<=18446744073709551615)(g:(b==B)=false)(hm:a<=B) :
  Cl 143 #[I4 6,.agg #[U8 a,U8 a],.agg #[U8 b,U8 B]] w fun e c=>e=.returned (.tuple #[.agg #[U8 (0),U8 (a)],.bool true])/\Bw w c:=by
 have i:decide (a<=a)=true:=decide_eq_true f.2.1;have k:decide (b<=B)=true:=decide_eq_true d.2.1;go_enter Tryz.func143,Tryz.ntmps143
 go_wp2_with (first
  | (go_at_call 146;go_must (refine (qAf _ _ _).mono ?_);rintro e c ⟨rfl,rfl⟩)
  | (go_at_call 158;go_must (refine (qBd _ _ _ (by omega) (by omega)).mono ?_);rintro e c ⟨rfl,rfl⟩)
  | (go_at_call 159;go_must (refine (qBi _ _ (by omega)).mono ?_);rintro e c ⟨rfl,rfl⟩))
 all_goals refine bodyPost_ret (v:=.tuple #[.agg #[U8 (0),U8 (a)],.bool true]) ?_ rfl ⟨rfl,by go_grown⟩
 all_goals rw [results_cell_tmp rfl]
 all_goals simp [asAddr,Result.andThen]
 all_goals rw [qAe (a:=0) (A:=a)]
 all_goals go_cell
theorem yWn (a A b B:Int)(w:World)(f:0<=a/\a<=A/\A<=18446744073709551615)(d:0<=b/\b<=B/\B<=18446744073709551615)(g:(a==A)=false)(hm:B<A) :
  Cl 143 #[I4 6,.agg #[U8 a,U8 A],.agg #[U8 b,U8 B]] w fun e c=>e=.returned (.tuple #[.agg #[U8 (0),U8 (B)],.bool true])/\Bw w c:=by
 have i:decide (a<=A)=true:=decide_eq_true f.2.1;have k:decide (b<=B)=true:=decide_eq_true d.2.1;go_enter Tryz.func143,Tryz.ntmps143
 go_wp2_with (first
  | (go_at_call 146;go_must (refine (qAf _ _ _).mono ?_);rintro e c ⟨rfl,rfl⟩)
  | (go_at_call 158;go_must (refine (qBd _ _ _ (by omega) (by omega)).mono ?_);rintro e c ⟨rfl,rfl⟩)
  | (go_at_call 159;go_must (refine (qBi _ _ (by omega)).mono ?_);rintro e c ⟨rfl,rfl⟩))
 all_goals refine bodyPost_ret (v:=.tuple #[.agg #[U8 (0),U8 (B)],.bool true]) ?_ rfl ⟨rfl,by go_grown⟩
 all_goals rw [results_cell_tmp rfl]
 all_goals simp [asAddr,Result.andThen]
 all_goals rw [qAe (a:=0) (A:=B)]
 all_goals go_cell
theorem yOe (a b B:Int)(w:World)(f:0<=a/\a<=a/\a<=18446744073709551615)(d:0<=b/\b<=B/\B<=18446744073709551615)(g:(b==B)=false)(hm:B<a) :
  Cl 143 #[I4 6,.agg #[U8 a,U8 a],.agg #[U8 b,U8 B]] w fun e c=>e=.returned (.tuple #[.agg #[U8 (0),U8 (B)],.bool true])/\Bw w c:=by
 have i:decide (a<=a)=true:=decide_eq_true f.2.1;have k:decide (b<=B)=true:=decide_eq_true d.2.1;go_enter Tryz.func143,Tryz.ntmps143
 go_wp2_with (first
  | (go_at_call 146;go_must (refine (qAf _ _ _).mono ?_);rintro e c ⟨rfl,rfl⟩)
  | (go_at_call 158;go_must (refine (qBd _ _ _ (by omega) (by omega)).mono ?_);rintro e c ⟨rfl,rfl⟩)
  | (go_at_call 159;go_must (refine (qBi _ _ (by omega)).mono ?_);rintro e c ⟨rfl,rfl⟩))
 all_goals refine bodyPost_ret (v:=.tuple #[.agg #[U8 (0),U8 (B)],.bool true]) ?_ rfl ⟨rfl,by go_grown⟩
 all_goals rw [results_cell_tmp rfl]
 all_goals simp [asAddr,Result.andThen]
 all_goals rw [qAe (a:=0) (A:=B)]
 all_goals go_cell
theorem yUy (a A b B:Int)(w:World)(f:0<=a/\a<=A/\A<=18446744073709551615)(d:0<=b/\b<=B/\B<=18446744073709551615)(g:(a==A)=false)(hm:A<B) :
  Cl 143 #[I4 8,.agg #[U8 a,U8 A],.agg #[U8 b,U8 B]] w fun e c=>e=.returned (.tuple #[.agg #[U8 (0),U8 (qCq B)],.bool true])/\Bw w c:=by
 have i:decide (a<=A)=true:=decide_eq_true f.2.1;have k:decide (b<=B)=true:=decide_eq_true d.2.1;go_enter Tryz.func143,Tryz.ntmps143
 go_wp2_with (first
  | (go_at_call 146;go_must (refine (qAf _ _ _).mono ?_);rintro e c ⟨rfl,rfl⟩)
  | (go_at_call 158;go_must (refine (qBd _ _ _ (by omega) (by omega)).mono ?_);rintro e c ⟨rfl,rfl⟩)
  | (go_at_call 159;go_must (refine (qBi _ _ (by omega)).mono ?_);rintro e c ⟨rfl,rfl⟩))
 all_goals refine bodyPost_ret (v:=.tuple #[.agg #[U8 (0),U8 (qCq B)],.bool true]) ?_ rfl ⟨rfl,by go_grown⟩
 all_goals rw [results_cell_tmp rfl]
 all_goals simp [asAddr,Result.andThen]
 all_goals rw [qAe (a:=0) (A:=qCq B)]
 all_goals go_cell
theorem yNm (a b B:Int)(w:World)(f:0<=a/\a<=a/\a<=18446744073709551615)(d:0<=b/\b<=B/\B<=18446744073709551615)(g:(b==B)=false)(hm:a<B) :
  Cl 143 #[I4 8,.agg #[U8 a,U8 a],.agg #[U8 b,U8 B]] w fun e c=>e=.returned (.tuple #[.agg #[U8 (0),U8 (qCq B)],.bool true])/\Bw w c:=by
 have i:decide (a<=a)=true:=decide_eq_true f.2.1;have k:decide (b<=B)=true:=decide_eq_true d.2.1;go_enter Tryz.func143,Tryz.ntmps143
 go_wp2_with (first
  | (go_at_call 146;go_must (refine (qAf _ _ _).mono ?_);rintro e c ⟨rfl,rfl⟩)
  | (go_at_call 158;go_must (refine (qBd _ _ _ (by omega) (by omega)).mono ?_);rintro e c ⟨rfl,rfl⟩)
  | (go_at_call 159;go_must (refine (qBi _ _ (by omega)).mono ?_);rintro e c ⟨rfl,rfl⟩))
 all_goals refine bodyPost_ret (v:=.tuple #[.agg #[U8 (0),U8 (qCq B)],.bool true]) ?_ rfl ⟨rfl,by go_grown⟩
 all_goals rw [results_cell_tmp rfl]
 all_goals simp [asAddr,Result.andThen]
 all_goals rw [qAe (a:=0) (A:=qCq B)]
 all_goals go_cell
theorem yVb (a A b B:Int)(w:World)(f:0<=a/\a<=A/\A<=18446744073709551615)(d:0<=b/\b<=B/\B<=18446744073709551615)(g:(a==A)=false)(hm:B<=A) :
  Cl 143 #[I4 8,.agg #[U8 a,U8 A],.agg #[U8 b,U8 B]] w fun e c=>e=.returned (.tuple #[.agg #[U8 (0),U8 (qCq A)],.bool true])/\Bw w c:=by
 have i:decide (a<=A)=true:=decide_eq_true f.2.1;have k:decide (b<=B)=true:=decide_eq_true d.2.1;go_enter Tryz.func143,Tryz.ntmps143
 go_wp2_with (first
  | (go_at_call 146;go_must (refine (qAf _ _ _).mono ?_);rintro e c ⟨rfl,rfl⟩)
  | (go_at_call 158;go_must (refine (qBd _ _ _ (by omega) (by omega)).mono ?_);rintro e c ⟨rfl,rfl⟩)
  | (go_at_call 159;go_must (refine (qBi _ _ (by omega)).mono ?_);rintro e c ⟨rfl,rfl⟩))
 all_goals refine bodyPost_ret (v:=.tuple #[.agg #[U8 (0),U8 (qCq A)],.bool true]) ?_ rfl ⟨rfl,by go_grown⟩
 all_goals rw [results_cell_tmp rfl]
 all_goals simp [asAddr,Result.andThen]
 all_goals rw [qAe (a:=0) (A:=qCq A)]
 all_goals go_cell
theorem yPq (a b B:Int)(w:World)(f:0<=a/\a<=a/\a<=18446744073709551615)(d:0<=b/\b<=B/\B<=18446744073709551615)(g:(b==B)=false)(hm:B<=a) :
  Cl 143 #[I4 8,.agg #[U8 a,U8 a],.agg #[U8 b,U8 B]] w fun e c=>e=.returned (.tuple #[.agg #[U8 (0),U8 (qCq a)],.bool true])/\Bw w c:=by
 have i:decide (a<=a)=true:=decide_eq_true f.2.1;have k:decide (b<=B)=true:=decide_eq_true d.2.1;go_enter Tryz.func143,Tryz.ntmps143
 go_wp2_with (first
  | (go_at_call 146;go_must (refine (qAf _ _ _).mono ?_);rintro e c ⟨rfl,rfl⟩)
  | (go_at_call 158;go_must (refine (qBd _ _ _ (by omega) (by omega)).mono ?_);rintro e c ⟨rfl,rfl⟩)
  | (go_at_call 159;go_must (refine (qBi _ _ (by omega)).mono ?_);rintro e c ⟨rfl,rfl⟩))
 all_goals refine bodyPost_ret (v:=.tuple #[.agg #[U8 (0),U8 (qCq a)],.bool true]) ?_ rfl ⟨rfl,by go_grown⟩
 all_goals rw [results_cell_tmp rfl]
 all_goals simp [asAddr,Result.andThen]
 all_goals rw [qAe (a:=0) (A:=qCq a)]
 all_goals go_cell
theorem yWq (a A b B:Int)(w:World)(f:0<=a/\a<=A/\A<=18446744073709551615)(d:0<=b/\b<=B/\B<=18446744073709551615)(g:(a==A)=false)(h:(b==B)=false) :
  Cl 143 #[I4 9,.agg #[U8 a,U8 A],.agg #[U8 b,U8 B]] w fun e c=>e=.returned (.tuple #[.agg #[U8 (0),U8 (18446744073709551615)],.bool true])/\Bw w c:=by
 have i:decide (a<=A)=true:=decide_eq_true f.2.1;have k:decide (b<=B)=true:=decide_eq_true d.2.1;go_enter Tryz.func143,Tryz.ntmps143
 go_wp2_with (first
  | (go_at_call 146;go_must (refine (qAf _ _ _).mono ?_);rintro e c ⟨rfl,rfl⟩)
  | (go_at_call 158;go_must (refine (qBd _ _ _ (by omega) (by omega)).mono ?_);rintro e c ⟨rfl,rfl⟩)
  | (go_at_call 159;go_must (refine (qBi _ _ (by omega)).mono ?_);rintro e c ⟨rfl,rfl⟩))
 all_goals refine bodyPost_ret (v:=.tuple #[.agg #[U8 (0),U8 (18446744073709551615)],.bool true]) ?_ rfl ⟨rfl,by go_grown⟩
 all_goals rw [results_cell_tmp rfl]
 all_goals simp [asAddr,Result.andThen]
 all_goals rw [qAe (a:=0) (A:=18446744073709551615)]
 all_goals go_cell
theorem yMi (a b B:Int)(w:World)(f:0<=a/\a<=a/\a<=18446744073709551615)(d:0<=b/\b<=B/\B<=18446744073709551615)(g:(b==B)=false)(h:(b==B)=false) :
  Cl 143 #[I4 9,.agg #[U8 a,U8 a],.agg #[U8 b,U8 B]] w fun e c=>e=.returned (.tuple #[.agg #[U8 (0),U8 (18446744073709551615)],.bool true])/\Bw w c:=by
 have i:decide (a<=a)=true:=decide_eq_true f.2.1;have k:decide (b<=B)=true:=decide_eq_true d.2.1;go_enter Tryz.func143,Tryz.ntmps143
 go_wp2_with (first
  | (go_at_call 146;go_must (refine (qAf _ _ _).mono ?_);rintro e c ⟨rfl,rfl⟩)
  | (go_at_call 158;go_must (refine (qBd _ _ _ (by omega) (by omega)).mono ?_);rintro e c ⟨rfl,rfl⟩)
  | (go_at_call 159;go_must (refine (qBi _ _ (by omega)).mono ?_);rintro e c ⟨rfl,rfl⟩))
 all_goals refine bodyPost_ret (v:=.tuple #[.agg #[U8 (0),U8 (18446744073709551615)],.bool true]) ?_ rfl ⟨rfl,by go_grown⟩
 all_goals rw [results_cell_tmp rfl]
 all_goals simp [asAddr,Result.andThen]
 all_goals rw [qAe (a:=0) (A:=18446744073709551615)]
 all_goals go_cell
end Go.Proofs.YtmdhljoicnommaaGreat
