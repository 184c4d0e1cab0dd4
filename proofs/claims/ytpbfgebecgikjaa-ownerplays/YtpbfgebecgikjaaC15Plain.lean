
/-
  A map of shards, plain: each a book by rising keys or an LRU. No Go text in sight.
-/
import Derived.Test.YtpbfgebecgikjaaL14Ord
import Derived.Test.YtpbfgebecgikjaaP12Of
namespace Go.Proofs.Ytpbfgebecgikjaa
set_option linter.unusedVariables false
set_option linter.unusedSimpArgs false

/-- A shard: its pairs by rising keys, its keys by recency (those of a book: none). -/
abbrev Sr := List Pp × List Int
def Sr.nil : Sr := ([], [])
def doSh (κ : Bool) (cap : Nat) (s : Sr) (op key val : Int) : Rq × Sr :=
  if κ = true then doA cap s.1 s.2 op key val
  else (⟨(doS cap s.1 op key val).1.E, (doS cap s.1 op key val).1.f, (doS cap s.1 op key val).1.v, false, 0, 0⟩, ((doS cap s.1 op key val).2, s.2))
/-- What a shard keeps. -/
structure InvSh (κ : Bool) (cap : Nat) (s : Sr) : Prop where
  srt : Srt s.1
  len : s.1.length ≤ cap
  cap1 : 1 ≤ cap
  lru : κ = true → InvA cap s.1 s.2
theorem InvSh.new {κ : Bool} {cap : Nat} (h : 1 ≤ cap) : InvSh κ cap Sr.nil := ⟨List.Pairwise.nil, by simp [Sr.nil], h, fun _ => ⟨List.Pairwise.nil, List.Perm.refl _, by simp [Sr.nil], h⟩⟩
theorem InvSh.do {κ : Bool} {cap : Nat} {s : Sr} (h : InvSh κ cap s) (op key val : Int) : InvSh κ cap (doSh κ cap s op key val).2 := by
  unfold doSh
  cases κ with
  | true =>
    rw [if_pos rfl]
    have := (h.lru rfl).do op key val
    exact ⟨this.srt, this.len, h.cap1, fun _ => this⟩
  | false =>
    rw [if_neg (by decide)]
    exact ⟨srt_do h.srt _ _ _, doS_len h.len, h.cap1, fun e => by cases e⟩
/-- The shard of a key. -/
def atM (key : Int) (n : Nat) : Nat := (ofL key n).toNat
theorem atM_lt {key : Int} {n : Nat} (hn : 1 ≤ n) (hk : 0 ≤ key) : atM key n < n := by
  unfold atM ofL
  rw [if_neg (by omega)]
  have h1 := Int.emod_nonneg (key * 11400714819323198485 % 18446744073709551616 / 4294967296) (show (n : Int) ≠ 0 by omega)
  have h2 := Int.emod_lt_of_pos (key * 11400714819323198485 % 18446744073709551616 / 4294967296) (show (0 : Int) < n by omega)
  omega
theorem atM_of {key : Int} {n : Nat} (hn : 1 ≤ n) : ofL key n = (atM key n : Int) := by
  unfold atM ofL
  rw [if_neg (by omega)]
  have h1 := Int.emod_nonneg (key * 11400714819323198485 % 18446744073709551616 / 4294967296) (show (n : Int) ≠ 0 by omega)
  omega
/-- An operation on a map. -/
def doM (κ : Bool) (cap : Nat) (st : List Sr) (op key val : Int) : Rq × List Sr :=
  ((doSh κ cap (st.getD (atM key st.length) Sr.nil) op key val).1, st.set (atM key st.length) (doSh κ cap (st.getD (atM key st.length) Sr.nil) op key val).2)
/-- What a map keeps. -/
def InvM (κ : Bool) (cap : Nat) (st : List Sr) : Prop := ∀ i, i < st.length → InvSh κ cap (st.getD i Sr.nil)
theorem getD_set_same {α : Type} {st : List α} {i : Nat} (hi : i < st.length) (s d : α) : (st.set i s).getD i d = s := by simp [hi]
theorem getD_set_other {α : Type} {st : List α} {i j : Nat} (hij : i ≠ j) (s d : α) : (st.set i s).getD j d = st.getD j d := by simp [List.getElem?_set, hij]
theorem InvM.set {κ : Bool} {cap : Nat} {st : List Sr} (h : InvM κ cap st) {i : Nat} {s : Sr} (hs : InvSh κ cap s) : InvM κ cap (st.set i s) := by
  intro j hj
  rw [List.length_set] at hj
  by_cases e : i = j
  · subst e; rw [getD_set_same hj]; exact hs
  · rw [getD_set_other e]; exact h j hj
theorem InvM.do {κ : Bool} {cap : Nat} {st : List Sr} (h : InvM κ cap st) (op key val : Int) (hi : atM key st.length < st.length) : InvM κ cap (doM κ cap st op key val).2 := h.set ((h _ hi).do op key val)
theorem doM_len (κ : Bool) (cap : Nat) (st : List Sr) (op key val : Int) : (doM κ cap st op key val).2.length = st.length := by unfold doM; simp
def walkM (st : List Sr) : List Pp := st.flatMap (fun s => s.1)
def newM (n : Nat) : List Sr := List.replicate n Sr.nil
theorem InvM.new {κ : Bool} {cap n : Nat} (h : 1 ≤ cap) : InvM κ cap (newM n) := by
  intro i hi
  unfold newM at hi ⊢
  rw [List.length_replicate] at hi
  rw [List.getD_eq_getElem?_getD, List.getElem?_replicate, if_pos hi]
  exact InvSh.new h
end Go.Proofs.Ytpbfgebecgikjaa
