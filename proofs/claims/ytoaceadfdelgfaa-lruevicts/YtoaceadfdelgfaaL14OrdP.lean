
/-
  The landed LRU's order, plain: its lists. No Go text in sight.
-/
import Derived.Test.YtoaceadfdelgfaaB13Alg
namespace Go.Proofs.Ytoaceadfdelgfaa
set_option linter.unusedVariables false
set_option linter.unusedSimpArgs false

/-- Keys that were not there stand last. -/
def restO : List Int → List Int → List Int
  | o, [] => o
  | o, k :: ks => restO (if k ∈ o then o else o ++ [k]) ks
def heldO (S : List Pp) (R : List Int) : List Int := R.filter (fun k => hitS k S)
def ordO (S : List Pp) (R : List Int) : List Int := restO (heldO S R) (S.map Pp.k)
theorem restO_app (o ks : List Int) (k : Int) : restO o (ks ++ [k]) = if k ∈ restO o ks then restO o ks else restO o ks ++ [k] := by
  induction ks generalizing o with
  | nil => rfl
  | cons x l ih => exact ih _
theorem restO_eq (ks : List Int) : ∀ (o : List Int), ks.Nodup → restO o ks = o ++ ks.filter (fun k => decide (k ∉ o)) := by
  induction ks with
  | nil => intro o _; simp [restO]
  | cons k l ih =>
    intro o hn
    obtain ⟨h1, h2⟩ := List.nodup_cons.1 hn
    unfold restO
    rw [ih _ h2]
    by_cases hk : k ∈ o
    · rw [if_pos hk, List.filter_cons_of_neg (by simpa using hk)]
    · rw [if_neg hk, List.filter_cons_of_pos (by simpa using hk), List.append_assoc]
      congr 1
      show k :: _ = k :: _
      congr 1
      apply List.filter_congr
      intro x hx
      have : x ≠ k := fun e => h1 (by rw [← e]; exact hx)
      simp [this]
theorem restO_len (ks : List Int) : ∀ (o : List Int), (restO o ks).length ≤ o.length + ks.length := by
  induction ks with
  | nil => intro o; simp [restO]
  | cons k l ih =>
    intro o
    unfold restO
    by_cases hk : k ∈ o
    · rw [if_pos hk]
      have := ih o
      rw [List.length_cons]
      omega
    · rw [if_neg hk]
      have := ih (o ++ [k])
      rw [List.length_append] at this
      simp only [List.length_cons, List.length_nil] at this ⊢
      omega
section
variable {cap : Nat} {S : List Pp} {R : List Int}
theorem heldO_len : (heldO S R).length ≤ R.length := List.length_filter_le _ _
theorem ordO_len : (ordO S R).length ≤ R.length + S.length := by
  have h1 := restO_len (S.map Pp.k) (heldO S R)
  have h2 := heldO_len (S := S) (R := R)
  rw [List.length_map] at h1
  unfold ordO
  omega
theorem heldO_more {j : Nat} (hj : j < R.length) : heldO S (R.take (j + 1)) = heldO S (R.take j) ++ (if hitS (R.getD j 0) S = true then [R.getD j 0] else []) := by
  unfold heldO
  have h1 : R.take (j + 1) = R.take j ++ [R.getD j 0] := by
    rw [List.take_add_one, List.getD_eq_getElem?_getD, List.getElem?_eq_getElem hj]
    rfl
  rw [h1, List.filter_append]
  congr 1
  by_cases e : hitS (R.getD j 0) S = true
  · rw [if_pos e, List.filter_cons_of_pos (p := fun k => hitS k S) e]; rfl
  · rw [if_neg e, List.filter_cons_of_neg (p := fun k => hitS k S) e]; rfl
theorem restO_more (o : List Int) {j : Nat} (hj : j < S.length) : restO o ((S.map Pp.k).take (j + 1)) = if (S.getD j Pp.nil).k ∈ restO o ((S.map Pp.k).take j) then restO o ((S.map Pp.k).take j) else restO o ((S.map Pp.k).take j) ++ [(S.getD j Pp.nil).k] := by
  have h1 : (S.map Pp.k).take (j + 1) = (S.map Pp.k).take j ++ [(S.getD j Pp.nil).k] := by
    rw [List.take_add_one, List.getElem?_map, List.getD_eq_getElem?_getD, List.getElem?_eq_getElem hj]
    rfl
  rw [h1, restO_app]
end
end Go.Proofs.Ytoaceadfdelgfaa
