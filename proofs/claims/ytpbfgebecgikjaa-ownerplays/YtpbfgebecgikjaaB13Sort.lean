
/-
  A book by rising keys, plain. No Go text in sight.
-/
import Derived.Test.YtpbfgebecgikjaaB13Plain
namespace Go.Proofs.Ytpbfgebecgikjaa
set_option linter.unusedVariables false
set_option linter.unusedSimpArgs false

def insL (i : Nat) (p : Pp) (L : List Pp) : List Pp := L.take i ++ [p] ++ L.drop i
theorem insL_len (i : Nat) (p : Pp) (L : List Pp) (h : i ≤ L.length) : (insL i p L).length = L.length + 1 := by
  simp [insL]
  omega
/-- The place of a key by rising keys. -/
def findS (key : Int) : List Pp → Nat
  | [] => 0
  | p :: l => if key ≤ p.k then 0 else findS key l + 1
theorem findS_le (key : Int) (L : List Pp) : findS key L ≤ L.length := by
  induction L with
  | nil => simp [findS]
  | cons p l ih => unfold findS; split <;> simp <;> omega
theorem findS_before {key : Int} {L : List Pp} {j : Nat} (h : j < findS key L) : (L.getD j Pp.nil).k < key := by
  induction L generalizing j with
  | nil => simp [findS] at h
  | cons p l ih =>
    unfold findS at h
    by_cases e : key ≤ p.k
    · rw [if_pos e] at h; omega
    · rw [if_neg e] at h
      cases j with
      | zero => simp; omega
      | succ j => simpa using ih (j := j) (by omega)
theorem findS_at {key : Int} {L : List Pp} (h : findS key L < L.length) : key ≤ (L.getD (findS key L) Pp.nil).k := by
  induction L with
  | nil => simp at h
  | cons p l ih =>
    unfold findS at h ⊢
    by_cases e : key ≤ p.k
    · rw [if_pos e]; exact e
    · rw [if_neg e] at h ⊢
      simp only [List.length_cons] at h
      simpa using ih (by omega)
theorem findS_is {key : Int} {L : List Pp} {j : Nat} (hj : j < L.length) (h : key ≤ (L.getD j Pp.nil).k) (hn : ∀ i, i < j → (L.getD i Pp.nil).k < key) : findS key L = j := by
  rcases Nat.lt_trichotomy (findS key L) j with g | g | g
  · have := hn _ g
    have := findS_at (key := key) (L := L) (by omega)
    omega
  · exact g
  · have := findS_before g
    omega
theorem findS_none {key : Int} {L : List Pp} (hn : ∀ i, i < L.length → (L.getD i Pp.nil).k < key) : findS key L = L.length := by
  have := findS_le key L
  rcases Nat.lt_or_ge (findS key L) L.length with g | g
  · have := hn _ g
    have := findS_at g
    omega
  · omega
/-- Is the key there. -/
def hitS (key : Int) (L : List Pp) : Bool := decide (findS key L < L.length) && decide ((L.getD (findS key L) Pp.nil).k = key)
def hadS (key : Int) (L : List Pp) : Int := if hitS key L = true then (L.getD (findS key L) Pp.nil).v else 0
theorem hitS_lt {key : Int} {L : List Pp} (h : hitS key L = true) : findS key L < L.length := by
  unfold hitS at h
  simp only [Bool.and_eq_true, decide_eq_true_eq] at h
  exact h.1
/-- A pair is written. -/
def setS (cap : Nat) (L : List Pp) (p : Pp) (val : Int) : Rp × List Pp :=
  if hitS p.k L = true then (⟨0, true, val⟩, L.set (findS p.k L) p)
  else if cap ≤ L.length then (⟨40, false, 0⟩, L)
  else (⟨0, false, val⟩, insL (findS p.k L) p L)
def dropS (L : List Pp) (key : Int) : List Pp := if hitS key L = true then L.eraseIdx (findS key L) else L
def doS (cap : Nat) (L : List Pp) (op key val : Int) : Rp × List Pp :=
  if op = 0 then (⟨0, hitS key L, hadS key L⟩, L)
  else if op = 1 then (⟨0, hitS key L, 0⟩, L)
  else if op = 2 then setS cap L ⟨key, val⟩ (hadS key L)
  else if op = 3 then (⟨0, hitS key L, hadS key L⟩, dropS L key)
  else if op = 4 then setS cap L ⟨key, (hadS key L + val) % 18446744073709551616⟩ ((hadS key L + val) % 18446744073709551616)
  else (⟨2, false, 0⟩, L)
theorem setS_len {cap : Nat} {L : List Pp} {p : Pp} {val : Int} (h : L.length ≤ cap) : (setS cap L p val).2.length ≤ cap := by
  unfold setS
  split
  · simpa using h
  · split
    · exact h
    · simp only
      rw [insL_len _ _ _ (findS_le _ _)]
      omega
theorem doS_len {cap : Nat} {L : List Pp} {op key val : Int} (h : L.length ≤ cap) : (doS cap L op key val).2.length ≤ cap := by
  unfold doS
  repeat' split
  all_goals first | exact h | exact setS_len h | skip
  unfold dropS
  split
  · simp only
    have := List.length_eraseIdx_le L (findS key L)
    omega
  · exact h
end Go.Proofs.Ytpbfgebecgikjaa
