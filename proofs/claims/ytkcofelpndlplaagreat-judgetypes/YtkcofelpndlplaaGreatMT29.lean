
/-
 What the document's Do of two spans answers: the plain function spanL where the operation is one and both spans are right, else no. Conditions: numbers of 64 bits; what it answers for or is a premise (OrWay).
-/
import Derived.Test.YtkcofelpndlplaaGreatMT28
import Derived.Test.YtkcofelpndlplaaGreatMT20
import Derived.Test.YtkcofelpndlplaaGreatMT16
namespace Go.Proofs.YtkcofelpndlplaaGreat
open Go.RowKit
set_option linter.unusedVariables false

def OrWay : Prop := ∀ (a A b B : Int) (w : World), (0 <= a /\ a <= A /\ A <= 18446744073709551615) -> (0 <= b /\ b <= B /\ B <= 18446744073709551615) -> ¬ (a = A /\ b = B) ->
 Calls Tryz.prog 87 #[.int .i64 7, .agg #[.int .u64 a, .int .u64 A], .agg #[.int .u64 b, .int .u64 B]] w fun e w' => e = .returned (.tuple #[.agg #[.int .u64 (max a b), .int .u64 (formL (max A B))], .bool true]) /\ Below w.heap.size w w'

theorem qBk {a A b B : Int} (h : ¬ (a = A /\ b = B)) {p : Prop} (h1 : (a == A) = false -> p) (h2 : a = A -> (b == B) = false -> p) : p := by
 by_cases e : a = A
 ·exact h2 e (by simp; exact fun e' => h ⟨e, e'⟩)
 ·exact h1 (by simpa using e)

section
variable {a A b B : Int} {w : World} (ha : 0 <= a /\ a <= A /\ A <= 18446744073709551615) (hb : 0 <= b /\ b <= B /\ B <= 18446744073709551615) (hs : ¬ (a = A /\ b = B))
include ha hb hs
theorem way_add : Calls Tryz.prog 87 #[.int .i64 1, .agg #[.int .u64 a, .int .u64 A], .agg #[.int .u64 b, .int .u64 B]] w fun e w' => e = .returned (optV (some (spanL 1 a A b B))) /\ Below w.heap.size w w' := by
 unfold spanL; rw [if_neg hs, if_pos rfl]
 by_cases h : 18446744073709551615 < A + B
 ·rw [if_pos h]
  exact qBk hs (fun c => sdo_add2 a A b B w ha hb c (by omega)) (fun e c => by subst e; exact sdo_add2s a b B w ha hb c (by omega))
 ·rw [if_neg h]
  exact qBk hs (fun c => sdo_add1 a A b B w ha hb c (by omega)) (fun e c => by subst e; exact sdo_add1s a b B w ha hb c (by omega))
theorem way_sub : Calls Tryz.prog 87 #[.int .i64 2, .agg #[.int .u64 a, .int .u64 A], .agg #[.int .u64 b, .int .u64 B]] w fun e w' => e = .returned (optV (some (spanL 2 a A b B))) /\ Below w.heap.size w w' := by
 unfold spanL; rw [if_neg hs, if_neg (by decide), if_pos rfl]
 by_cases h : a < B
 ·rw [if_pos h]
  exact qBk hs (fun c => sdo_sub2 a A b B w ha hb c h) (fun e c => by subst e; exact sdo_sub2s a b B w ha hb c h)
 ·rw [if_neg h]
  exact qBk hs (fun c => sdo_sub1 a A b B w ha hb c (by omega)) (fun e c => by subst e; exact sdo_sub1s a b B w ha hb c (by omega))
theorem way_mul : Calls Tryz.prog 87 #[.int .i64 3, .agg #[.int .u64 a, .int .u64 A], .agg #[.int .u64 b, .int .u64 B]] w fun e w' => e = .returned (optV (some (spanL 3 a A b B))) /\ Below w.heap.size w w' := by
 unfold spanL; rw [if_neg hs, if_neg (by decide), if_neg (by decide), if_pos rfl]
 by_cases h : 18446744073709551615 < A * B
 ·rw [if_pos h]
  exact qBk hs (fun c => sdo_mul2 a A b B w ha hb c (decide_eq_true h)) (fun e c => by subst e; exact sdo_mul2s a b B w ha hb c (decide_eq_true h))
 ·rw [if_neg h]
  have g0 : 0 <= a * b := Int.mul_nonneg ha.1 hb.1
  have g1 : a * b <= A * B := Int.mul_le_mul ha.2.1 hb.2.1 hb.1 (by omega)
  exact qBk hs (fun c => sdo_mul1 a A b B w ha hb c (decide_eq_false h) (wrap_in g0 (by omega)) (wrap_in (by omega) (by omega))) (fun e c => by subst e; exact sdo_mul1s a b B w ha hb c (decide_eq_false h) (wrap_in g0 (by omega)) (wrap_in (by omega) (by omega)))
theorem way_div : Calls Tryz.prog 87 #[.int .i64 4, .agg #[.int .u64 a, .int .u64 A], .agg #[.int .u64 b, .int .u64 B]] w fun e w' => e = .returned (optV (some (spanL 4 a A b B))) /\ Below w.heap.size w w' := by
 unfold spanL; rw [if_neg hs, if_neg (by decide), if_neg (by decide), if_neg (by decide), if_pos rfl]
 by_cases h : b = 0
 ·rw [if_pos h]
  subst h
  exact qBk hs (fun c => sdo_div1 a A B w ha ⟨Nat.le_refl 0, hb.2⟩ c) (fun e c => by subst e; exact sdo_div1s a B w ha ⟨Nat.le_refl 0, hb.2⟩ c)
 ·rw [if_neg h]
  have h' : (b == 0) = false := by simpa using h
  exact qBk hs (fun c => sdo_div2 a A b B w ha hb c h') (fun e c => by subst e; exact sdo_div2s a b B w ha hb c h')
theorem way_rem : Calls Tryz.prog 87 #[.int .i64 5, .agg #[.int .u64 a, .int .u64 A], .agg #[.int .u64 b, .int .u64 B]] w fun e w' => e = .returned (optV (some (spanL 5 a A b B))) /\ Below w.heap.size w w' := by
 unfold spanL; rw [if_neg hs, if_neg (by decide), if_neg (by decide), if_neg (by decide), if_neg (by decide), if_pos rfl]
 by_cases h : b = 0
 ·rw [if_pos h]
  subst h
  exact qBk hs (fun c => sdo_rem1 a A B w ha ⟨Nat.le_refl 0, hb.2⟩ c) (fun e c => by subst e; exact sdo_rem1s a B w ha ⟨Nat.le_refl 0, hb.2⟩ c)
 ·rw [if_neg h]
  have h' : (b == 0) = false := by simpa using h
  by_cases h2 : A < b
  ·rw [if_pos h2]
   exact qBk hs (fun c => sdo_rem2 a A b B w ha hb c h' h2) (fun e c => by subst e; exact sdo_rem2s a b B w ha hb c h' h2)
  ·rw [if_neg h2]
   have hX := wrap_in (x := B - 1) (by omega) (by omega)
   by_cases h3 : A <= B - 1
   ·rw [Int.min_eq_left h3]
    exact qBk hs (fun c => sdo_rem4 a A b B w ha hb c h' h2 hX h3) (fun e c => by subst e; exact sdo_rem4s a b B w ha hb c h' h2 hX h3)
   ·rw [Int.min_eq_right (by omega)]
    exact qBk hs (fun c => sdo_rem3 a A b B w ha hb c h' h2 hX (by omega)) (fun e c => by subst e; exact sdo_rem3s a b B w ha hb c h' h2 hX (by omega))
theorem way_and : Calls Tryz.prog 87 #[.int .i64 6, .agg #[.int .u64 a, .int .u64 A], .agg #[.int .u64 b, .int .u64 B]] w fun e w' => e = .returned (optV (some (spanL 6 a A b B))) /\ Below w.heap.size w w' := by
 unfold spanL; rw [if_neg hs, if_neg (by decide), if_neg (by decide), if_neg (by decide), if_neg (by decide), if_neg (by decide), if_pos rfl]
 by_cases h3 : A <= B
 ·rw [Int.min_eq_left h3]
  exact qBk hs (fun c => sdo_and1 a A b B w ha hb c h3) (fun e c => by subst e; exact sdo_and1s a b B w ha hb c h3)
 ·rw [Int.min_eq_right (by omega)]
  exact qBk hs (fun c => sdo_and2 a A b B w ha hb c (by omega)) (fun e c => by subst e; exact sdo_and2s a b B w ha hb c (by omega))
theorem way_or (ho : OrWay) : Calls Tryz.prog 87 #[.int .i64 7, .agg #[.int .u64 a, .int .u64 A], .agg #[.int .u64 b, .int .u64 B]] w fun e w' => e = .returned (optV (some (spanL 7 a A b B))) /\ Below w.heap.size w w' := by
 unfold spanL; rw [if_neg hs, if_neg (by decide), if_neg (by decide), if_neg (by decide), if_neg (by decide), if_neg (by decide), if_neg (by decide), if_pos rfl]
 exact ho a A b B w ha hb hs
theorem way_xor : Calls Tryz.prog 87 #[.int .i64 8, .agg #[.int .u64 a, .int .u64 A], .agg #[.int .u64 b, .int .u64 B]] w fun e w' => e = .returned (optV (some (spanL 8 a A b B))) /\ Below w.heap.size w w' := by
 unfold spanL; rw [if_neg hs, if_neg (by decide), if_neg (by decide), if_neg (by decide), if_neg (by decide), if_neg (by decide), if_neg (by decide), if_neg (by decide), if_pos rfl]
 by_cases h3 : A < B
 ·rw [Int.max_eq_right (by omega)]
  exact qBk hs (fun c => sdo_xor1 a A b B w ha hb c h3) (fun e c => by subst e; exact sdo_xor1s a b B w ha hb c h3)
 ·rw [Int.max_eq_left (by omega)]
  exact qBk hs (fun c => sdo_xor2 a A b B w ha hb c (by omega)) (fun e c => by subst e; exact sdo_xor2s a b B w ha hb c (by omega))
theorem way_shl : Calls Tryz.prog 87 #[.int .i64 9, .agg #[.int .u64 a, .int .u64 A], .agg #[.int .u64 b, .int .u64 B]] w fun e w' => e = .returned (optV (some (spanL 9 a A b B))) /\ Below w.heap.size w w' := by
 unfold spanL; rw [if_neg hs, if_neg (by decide), if_neg (by decide), if_neg (by decide), if_neg (by decide), if_neg (by decide), if_neg (by decide), if_neg (by decide), if_neg (by decide), if_pos rfl]
 by_cases h : b = B
 ·subst h
  have hA : (a == A) = false := by simp; exact fun e => hs ⟨e, rfl⟩
  by_cases h2 : A * 2 ^ min b.toNat 64 <= 18446744073709551615
  ·rw [if_pos ⟨rfl, h2⟩]
   exact sdo_shl3 a A b _ _ w ha ⟨hb.1, hb.2.2⟩ hA (show _ = shiftR a A b.toNat by unfold shiftR; rw [if_pos h2])
  ·rw [if_neg (fun c => h2 c.2)]
   exact sdo_shl2 a A b w ha ⟨hb.1, hb.2.2⟩ hA (show _ = shiftR a A b.toNat by unfold shiftR; rw [if_neg h2])
 ·rw [if_neg (fun c => h c.1)]
  have h' : (b == B) = false := by simpa using h
  exact qBk hs (fun c => sdo_shl1 a A b B w ha hb c h') (fun e c => by subst e; exact sdo_shl1s a b B w ha hb c h')
theorem way_shr : Calls Tryz.prog 87 #[.int .i64 10, .agg #[.int .u64 a, .int .u64 A], .agg #[.int .u64 b, .int .u64 B]] w fun e w' => e = .returned (optV (some (spanL 10 a A b B))) /\ Below w.heap.size w w' := by
 unfold spanL; rw [if_neg hs, if_neg (by decide), if_neg (by decide), if_neg (by decide), if_neg (by decide), if_neg (by decide), if_neg (by decide), if_neg (by decide), if_neg (by decide), if_neg (by decide)]
 exact qBk hs (fun c => sdo_shr a A b B w ha hb c) (fun e c => by subst e; exact sdo_shrs a b B w ha hb c)
end
theorem sdo_any (ho : OrWay) (op a A b B : Int) (w : World) (ha : W64 a) (hA : W64 A) (hb : W64 b) (hB : W64 B) :
  Calls Tryz.prog 87 #[.int .i64 op, .agg #[.int .u64 a, .int .u64 A], .agg #[.int .u64 b, .int .u64 B]] w fun e w' => e = .returned (optV (doR op a A b B)) /\ Below w.heap.size w w' := by
 unfold W64 at ha hA hb hB
 unfold doR
 by_cases c1 : op < 1
 ·rw [if_neg (by omega)]; exact sdo_lo op a A b B w c1
 by_cases c2 : 10 < op
 ·rw [if_neg (by omega)]; exact sdo_hi op a A b B w c1 c2
 have hop : 1 <= op /\ op <= 10 := by omega
 by_cases c3 : a <= A
 case neg => rw [if_neg (by omega)]; exact sdo_na op a A b B w hop (decide_eq_false c3)
 by_cases c4 : b <= B
 case neg => rw [if_neg (by omega)]; exact sdo_nb op a A b B w hop (decide_eq_true c3) (decide_eq_false c4)
 rw [if_pos ⟨hop, c3, c4⟩]
 have ha' : 0 <= a /\ a <= A /\ A <= 18446744073709551615 := ⟨ha.1, c3, hA.2⟩
 have hb' : 0 <= b /\ b <= B /\ B <= 18446744073709551615 := ⟨hb.1, c4, hB.2⟩
 by_cases hs : a = A /\ b = B
 ·obtain ⟨rfl, rfl⟩ := hs
  have e : spanL op a a b b = (doL op a b, doL op a b) := by unfold spanL; rw [if_pos ⟨rfl, rfl⟩]
  rw [e]
  exact sdo_one op a b w hop ha hb
 have hc : op = 1 ∨ op = 2 ∨ op = 3 ∨ op = 4 ∨ op = 5 ∨ op = 6 ∨ op = 7 ∨ op = 8 ∨ op = 9 ∨ op = 10 := by omega
 rcases hc with rfl | rfl | rfl | rfl | rfl | rfl | rfl | rfl | rfl | rfl
 ·exact way_add ha' hb' hs
 ·exact way_sub ha' hb' hs
 ·exact way_mul ha' hb' hs
 ·exact way_div ha' hb' hs
 ·exact way_rem ha' hb' hs
 ·exact way_and ha' hb' hs
 ·exact way_or ha' hb' hs ho
 ·exact way_xor ha' hb' hs
 ·exact way_shl ha' hb' hs
 ·exact way_shr ha' hb' hs
end Go.Proofs.YtkcofelpndlplaaGreat
