
/-
  A book of pairs, plain: in the order in which keys came, and by rising keys. No Go text in sight.
-/
import Derived.Test.YtpbfgebecgikjaaG
namespace Go.Proofs.Ytpbfgebecgikjaa
set_option linter.unusedVariables false
set_option linter.unusedSimpArgs false

/-- A key and its value. -/
structure Pp where
  k : Int
  v : Int
def Pp.nil : Pp := ⟨0, 0⟩
/-- An answer: its error, whether the key was there, its value. -/
structure Rp where
  E : Int
  f : Bool
  v : Int
/-- The place of a key: the list's length where it isn't. -/
def posP (key : Int) : List Pp → Nat
  | [] => 0
  | p :: l => if p.k = key then 0 else posP key l + 1
theorem posP_le (key : Int) (L : List Pp) : posP key L ≤ L.length := by
  induction L with
  | nil => simp [posP]
  | cons p l ih => unfold posP; split <;> simp <;> omega
/-- A number of 64 bits. -/
def W64p (n : Int) : Prop := 0 ≤ n ∧ n ≤ 18446744073709551615
def Pp.wf (p : Pp) : Prop := W64p p.k ∧ W64p p.v
def hasP (key : Int) (L : List Pp) : Bool := decide (posP key L < L.length)
def valP (key : Int) (L : List Pp) : Int := (L.getD (posP key L) Pp.nil).v
theorem posP_at {key : Int} {L : List Pp} (h : posP key L < L.length) : (L.getD (posP key L) Pp.nil).k = key := by
  induction L with
  | nil => simp at h
  | cons p l ih =>
    unfold posP at h ⊢
    by_cases e : p.k = key
    · rw [if_pos e]; exact e
    · rw [if_neg e] at h ⊢
      simp only [List.length_cons] at h
      have := ih (by omega)
      simpa using this
theorem posP_no {key : Int} {L : List Pp} (h : ¬ posP key L < L.length) : ∀ p ∈ L, p.k ≠ key := by
  induction L with
  | nil => simp
  | cons p l ih =>
    intro q hq
    unfold posP at h
    by_cases e : p.k = key
    · rw [if_pos e] at h; simp at h
    · rw [if_neg e] at h
      simp only [List.length_cons] at h
      rcases List.mem_cons.1 hq with g | g
      · rw [g]; exact e
      · exact ih (by omega) q g
theorem posP_first {key : Int} {L : List Pp} {j : Nat} (h : j < posP key L) : (L.getD j Pp.nil).k ≠ key := by
  induction L generalizing j with
  | nil => simp [posP] at h
  | cons p l ih =>
    unfold posP at h
    by_cases e : p.k = key
    · rw [if_pos e] at h; omega
    · rw [if_neg e] at h
      cases j with
      | zero => simpa using e
      | succ j => simpa using ih (j := j) (by omega)
/-- The first place with the key is its place. -/
theorem posP_is {key : Int} {L : List Pp} {j : Nat} (hj : j < L.length) (h : (L.getD j Pp.nil).k = key) (hn : ∀ i, i < j → (L.getD i Pp.nil).k ≠ key) : posP key L = j := by
  rcases Nat.lt_trichotomy (posP key L) j with g | g | g
  · exact absurd (posP_at (by omega)) (hn _ g)
  · exact g
  · exact absurd h (posP_first g)
theorem posP_none {key : Int} {L : List Pp} (hn : ∀ i, i < L.length → (L.getD i Pp.nil).k ≠ key) : posP key L = L.length := by
  have := posP_le key L
  rcases Nat.lt_or_ge (posP key L) L.length with g | g
  · exact absurd (posP_at g) (hn _ g)
  · omega
/-- One operation of the document's book: the answer, and the list behind it. -/
def doP (cap : Nat) (L : List Pp) (op key val : Int) : Rp × List Pp :=
  if op = 0 then (⟨0, hasP key L, valP key L⟩, L)
  else if op = 1 then (⟨0, hasP key L, 0⟩, L)
  else if op = 2 ∨ op = 4 then
    if hasP key L = false ∧ cap ≤ L.length then (⟨40, false, 0⟩, L)
    else if op = 4 then (⟨0, hasP key L, (valP key L + val) % 18446744073709551616⟩, if hasP key L = true then L.set (posP key L) ⟨key, (valP key L + val) % 18446744073709551616⟩ else L ++ [⟨key, (valP key L + val) % 18446744073709551616⟩])
    else (⟨0, hasP key L, valP key L⟩, if hasP key L = true then L.set (posP key L) ⟨key, val⟩ else L ++ [⟨key, val⟩])
  else if op = 3 then (⟨0, hasP key L, valP key L⟩, L.eraseIdx (posP key L))
  else (⟨2, false, 0⟩, L)
end Go.Proofs.Ytpbfgebecgikjaa
