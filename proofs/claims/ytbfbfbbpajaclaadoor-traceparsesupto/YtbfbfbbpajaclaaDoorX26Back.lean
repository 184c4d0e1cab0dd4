
/-
  Layer 26's lines, plain: what is read has its line and is plain, and a plain entry's line is read back. No Go text in sight.
-/
import Derived.Test.YtbfbfbbpajaclaaDoorR26I
namespace Go.Proofs.YtbfbfbbpajaclaaDoor
open Go.RowKit
set_option linter.unusedVariables false
set_option linter.unusedSimpArgs false
theorem accL_app : ∀ (a b : List UInt8) (U : Int), (∀ c ∈ a, 48 ≤ c.toNat ∧ c.toNat ≤ 57) → accL U (a ++ b) = (accL U a).bind fun x => accL x b
  | [], b, U, _ => rfl
  | c :: a, b, U, h => by
    have hc := h c (by simp)
    simp only [List.cons_append, accL]
    rw [if_neg (by omega), if_neg (by omega)]
    exact accL_app a b _ (fun x hx => h x (by simp [hx]))
theorem accL_dig : ∀ (f u : Nat), u < 10 ^ (f + 1) → u < 18446744073709551616 → accL 0 (digF (f + 1) u) = some (u : Int)
  | 0, u, h, _ => by
    have h10 : u / 10 = 0 := by omega
    rw [digF_last h10]
    have := dig_nat (k := u % 10) (by omega)
    simp only [accL]
    rw [if_neg (by omega), this]
    congr 1
    go_arith
  | f + 1, u, h, h64 => by
    by_cases h10 : u / 10 = 0
    · rw [digF_last h10]
      have := dig_nat (k := u % 10) (by omega)
      simp only [accL]
      rw [if_neg (by omega), this]
      congr 1
      go_arith
    · have hN := accL_dig f (u / 10) (by rw [Nat.pow_succ] at h; omega) (by omega)
      rw [digF_more h10, accL_app _ _ _ (fun c hc => digF_dig _ _ c hc), hN]
      have := dig_nat (k := u % 10) (by omega)
      simp only [Option.bind_some, accL]
      rw [if_neg (by omega), this]
      congr 1
      go_arith
/-- A field's word, without the blank. -/
def wd1 (e : En) (c : UInt8) : List UInt8 := c :: (if (unE e c.toNat).2 = true then digF 20 (unE e c.toNat).1.toNat else numL (sgE e c.toNat))
theorem wdE_wd1 (e : En) (c : UInt8) : wdE e c = 32 :: wd1 e c := rfl
theorem digF_sp (f u : Nat) : ∀ c ∈ digF f u, c ≠ 32 := by
  intro c hc he
  subst he
  have := digF_dig _ _ _ hc
  revert this; decide
theorem wd1_sp (e : En) {c : UInt8} (h : c ≠ 32) : ∀ d ∈ wd1 e c, d ≠ 32 := by
  intro d hd
  unfold wd1 at hd
  rcases List.mem_cons.1 hd with g | g
  · rw [g]; exact h
  · split at g
    · exact digF_sp _ _ d g
    · exact numL_sp _ d g
theorem words_flat (e : En) : ∀ (f a : List UInt8), (∀ c ∈ f, c ≠ 32) → (∀ c ∈ a, c ≠ 32) → wordsL (a ++ f.flatMap (wdE e)) = a :: f.map (wd1 e)
  | [], a, _, ha => by simp [wordsL_one ha]
  | c :: f, a, hf, ha => by
    have h1 : a ++ (c :: f).flatMap (wdE e) = a ++ 32 :: (wd1 e c ++ f.flatMap (wdE e)) := by rw [List.flatMap_cons, wdE_wd1]; rfl
    rw [h1, wordsL_cons ha, words_flat e f (wd1 e c) (fun x hx => hf x (by simp [hx])) (wd1_sp e (hf c (by simp)))]
    rfl
/-- A letter's number is read back. -/
theorem numL_neg {v : Int} (h : v < 0) : numL v = 45 :: digF 20 (-v).toNat := by unfold numL; rw [if_pos h]
theorem numL_pos {v : Int} (h : ¬ v < 0) : numL v = digF 20 v.toNat := by unfold numL; rw [if_neg h]
theorem digF_head {u : Nat} : ∃ c r, digF 20 u = c :: r ∧ 48 ≤ c.toNat ∧ c.toNat ≤ 57 := by
  cases h : digF 20 u with
  | nil => exact absurd h (digF_ne 19 u)
  | cons c r => exact ⟨c, r, rfl, digF_dig 20 u c (by rw [h]; simp)⟩
theorem setE_num (e : En) (c : UInt8) {v : Int} (hv : -9223372036854775808 ≤ v ∧ v ≤ 9223372036854775807) : ∃ n, setE e c (c :: numL v) = (putE e c.toNat v n, true) := by
  by_cases h0 : v < 0
  · rw [numL_neg h0]
    obtain ⟨d, r, hd, hd1, hd2⟩ := digF_head (u := (-v).toNat)
    have hN := accL_dig 19 (-v).toNat (by omega) (by omega)
    refine ⟨((-v).toNat : Int), ?_⟩
    unfold setE
    rw [if_neg (by simp), if_neg (by simp)]
    have hn : negL (c :: 45 :: digF 20 (-v).toNat) = true := rfl
    rw [if_pos hn]
    show setN e c.toNat _ (accL 0 (digF 20 (-v).toNat)) = _
    rw [hN]
    show (putE e c.toNat (kE _ _) _, true) = _
    unfold kE
    rw [if_pos hn]
    congr 2
    unfold wrap64
    rw [IntKind.wrap_u64]
    omega
  · rw [numL_pos h0]
    obtain ⟨d, r, hd, hd1, hd2⟩ := digF_head (u := v.toNat)
    have hN := accL_dig 19 v.toNat (by omega) (by omega)
    refine ⟨(v.toNat : Int), ?_⟩
    unfold setE
    have hlen : ¬ (c :: digF 20 v.toNat).length < 2 := by rw [hd]; simp
    have hn : ¬ negL (c :: digF 20 v.toNat) = true := by
      unfold negL; rw [hd]; show ¬ (d.toNat == 45) = true; simp; omega
    rw [if_neg hlen, if_neg (by simp), if_neg hn]
    show setN e c.toNat _ (accL 0 (digF 20 v.toNat)) = _
    rw [hN]
    show (putE e c.toNat (kE _ _) _, true) = _
    unfold kE
    rw [if_neg hn]
    congr 2
    unfold wrap64
    omega
theorem setE_dig (e : En) (c : UInt8) {u : Nat} (hu : u < 18446744073709551616) : ∃ k, setE e c (c :: digF 20 u) = (putE e c.toNat k u, true) := by
  obtain ⟨d, r, hd, hd1, hd2⟩ := digF_head (u := u)
  have hN := accL_dig 19 u (by omega) hu
  unfold setE
  have hlen : ¬ (c :: digF 20 u).length < 2 := by rw [hd]; simp
  have hn : ¬ negL (c :: digF 20 u) = true := by
    unfold negL; rw [hd]; show ¬ (d.toNat == 45) = true; simp; omega
  rw [if_neg hlen, if_neg (by simp), if_neg hn]
  refine ⟨kE (c :: digF 20 u) u, ?_⟩
  show setN e c.toNat _ (accL 0 (digF 20 u)) = _
  rw [hN]
  rfl
end Go.Proofs.YtbfbfbbpajaclaaDoor
