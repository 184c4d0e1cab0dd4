
/-
  A ring, plain: all that was accepted, how many were taken, whether it is shut. No Go text in sight.
-/
import Derived.Test.YthcdfknadcdfkaaGx
namespace Go.Proofs.Ythcdfknadcdfkaa
set_option linter.unusedVariables false
set_option linter.unusedSimpArgs false

/-- An event that waits: its number, and what it tells. -/
structure Qe where
  n : Int
  a : Int
  b : Int
def Qe.nil : Qe := ⟨0, 0, 0⟩
/-- The document's ring. -/
structure Rg where
  room : Nat
  taken : Nat
  refused : Nat
  closed : Bool
  all : List Qe
def Rg.new (room : Nat) : Rg := ⟨room, 0, 0, false, []⟩
/-- What waits. -/
def Rg.waits (r : Rg) : List Qe := if r.closed = true then [] else r.all.drop r.taken
/-- Accept: number, error, and what is left. -/
def Rg.accept (r : Rg) (a b next : Int) : Int × Int × Rg :=
  if r.closed = true then (0, 43, r)
  else if r.room ≤ r.all.length - r.taken then (0, 40, { r with refused := r.refused + 1 })
  else (next, 0, { r with all := r.all ++ [⟨next, a, b⟩] })
def Rg.take (r : Rg) : Qe × Bool × Rg :=
  if r.waits = [] then (Qe.nil, false, r) else (r.all.getD r.taken Qe.nil, true, { r with taken := r.taken + 1 })
def Rg.shut (r : Rg) : List Qe × Rg := (r.waits, { r with closed := true })
/-- Accepted, Refused, Taken, Dropped, Queued. -/
def Rg.counts (r : Rg) : Int × Int × Int × Int × Int := (r.all.length, r.refused, r.taken, if r.closed = true then (r.all.length : Int) - r.taken else 0, if r.closed = true then 0 else (r.all.length : Int) - r.taken)
/-- What holds of every ring. -/
structure Rg.Ok (r : Rg) : Prop where
  room : 1 ≤ r.room ∧ r.room ≤ 16
  taken : r.taken ≤ r.all.length
  full : r.all.length ≤ r.taken + r.room
theorem Rg.Ok.new {n : Nat} (h1 : 1 ≤ n) (h2 : n ≤ 16) : (Rg.new n).Ok := ⟨⟨h1, h2⟩, Nat.le_refl _, by show 0 ≤ 0 + n; omega⟩
theorem Rg.Ok.accept {r : Rg} (h : r.Ok) (a b next : Int) : (r.accept a b next).2.2.Ok := by
  unfold Rg.accept
  split
  · exact h
  · split
    · exact ⟨h.room, h.taken, h.full⟩
    · rename_i hc hf
      have := h.taken
      have := h.full
      exact ⟨h.room, by show r.taken ≤ (r.all ++ [_]).length; simp; omega, by show (r.all ++ [_]).length ≤ r.taken + r.room; simp; omega⟩
theorem Rg.waits_len {r : Rg} : r.waits.length = if r.closed = true then 0 else r.all.length - r.taken := by
  unfold Rg.waits
  split <;> simp
theorem Rg.Ok.take {r : Rg} (h : r.Ok) : (r.take).2.2.Ok := by
  unfold Rg.take
  split
  · exact h
  · rename_i hw
    have h1 := h.taken
    have h2 := h.full
    have : r.taken < r.all.length := by
      refine Nat.lt_of_not_le fun e => hw ?_
      unfold Rg.waits
      split
      · rfl
      · exact List.drop_eq_nil_of_le e
    exact ⟨h.room, by show r.taken + 1 ≤ r.all.length; omega, by show r.all.length ≤ r.taken + 1 + r.room; omega⟩
theorem Rg.Ok.shut {r : Rg} (h : r.Ok) : (r.shut).2.Ok := ⟨h.room, h.taken, h.full⟩
end Go.Proofs.Ythcdfknadcdfkaa
