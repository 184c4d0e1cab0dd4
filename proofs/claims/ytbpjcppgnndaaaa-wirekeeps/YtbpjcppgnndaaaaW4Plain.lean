/-
  Layer 4's plain functions: which modules are well formed, their bytes, what bytes tell, field by field. No Go text in sight.
-/
import Derived.Test.YtbpjcppgnndaaaaBBack
import Derived.Test.YtbpjcppgnndaaaaBFold
import Derived.Test.YtbpjcppgnndaaaaO2Plain
namespace Go.Proofs.Ytbpjcppgnndaaaa
open Go.RowKit
set_option linter.unusedVariables false

/-- What is read from a place on: a thing and the place behind it; or the place of the field that is wrong, and the error. -/
abbrev Rd (α : Type) := Except (Int × Int) (α × Nat)
/-- Where a reader stands; or the place of the first wrong field, and the error. -/
abbrev St := Except (Int × Int) Nat
def Rd.then' {α β : Type} (r : Rd α) (g : α → Nat → Rd β) : Rd β := match r with | .ok (a, p) => g a p | .error x => .error x
def Rd.Tells {α : Type} (r : Rd α) (s : St) (a : α) : Prop := match s with | .ok p => r = .ok (a, p) | .error x => r = .error x
/-- What a reader that stood at s has read: it stands at s' then; a, if it met no error. -/
def After {α : Type} (s : St) (f : Nat → Rd α) (s' : St) (a : α) : Prop := match s with | .ok p => (f p).Tells s' a | .error x => s' = .error x
theorem After.then' {α β : Type} {s s1 s2 : St} {f : Nat → Rd α} {g : α → Nat → Rd β} {a : α} {b : β} (h : After s f s1 a) (k : After s1 (g a) s2 b) : After s (fun p => (f p).then' g) s2 b := by
  cases s with
  | error x =>
    have h : s1 = .error x := h
    subst h
    exact k
  | ok p =>
    cases s1 with
    | error x =>
      have h : f p = .error x := h
      have k : s2 = .error x := k
      subst k
      show (f p).then' g = .error x
      rw [h]; rfl
    | ok p1 =>
      have h : f p = .ok (a, p1) := h
      show Rd.Tells ((f p).then' g) s2 b
      rw [h]; exact k
theorem After.ok {α : Type} {p : Nat} {f : Nat → Rd α} {s' : St} {a : α} (h : After (.ok p) f s' a) : (f p).Tells s' a := h
theorem After.bad {α : Type} {x : Int × Int} {f : Nat → Rd α} {s' : St} {a : α} (h : After (.error x) f s' a) : s' = .error x := h
theorem After.cast {α : Type} {s s' : St} {f g : Nat → Rd α} {a : α} (h : After s f s' a) (e : ∀ p, s = .ok p → f p = g p) : After s g s' a := by
  cases s with
  | error x => exact h
  | ok p => show (g p).Tells s' a; rw [← e p rfl]; exact h

/-- A field that is a number: above most it is the error above. -/
def numR (xs : List Int) (most above : Int) (p : Nat) : Rd Int :=
  if (getL 0 0 (xs.drop p)).2.2 ≠ 0 then .error ((p : Int), (getL 0 0 (xs.drop p)).2.2)
  else if most < (getL 0 0 (xs.drop p)).1 then .error ((p : Int), above) else .ok ((getL 0 0 (xs.drop p)).1, p + (getL 0 0 (xs.drop p)).2.1.toNat)
/-- A field that is a signed number. -/
def sgnR (xs : List Int) (p : Nat) : Rd Int :=
  if (getL 0 0 (xs.drop p)).2.2 ≠ 0 then .error ((p : Int), (getL 0 0 (xs.drop p)).2.2) else .ok (unfoldI (getL 0 0 (xs.drop p)).1, p + (getL 0 0 (xs.drop p)).2.1.toNat)
/-- The five fields of an instruction that begins at place p0. -/
def instR (xs : List Int) (p0 : Nat) : Rd In :=
  (numR xs 22 12 p0).then' fun op p => (numR xs 63 12 p).then' fun d p => (numR xs 63 12 p).then' fun a p => (numR xs 63 12 p).then' fun b p => (sgnR xs p).then' fun imm p =>
    if rightB op d a b imm = true then .ok (⟨op, d, a, b, imm⟩, p) else .error ((p0 : Int), 12)
/-- So many maps more. -/
def mapsR (xs : List Int) : Nat → List Int → Nat → Rd (List Int)
  | 0, acc, p => .ok (acc, p)
  | k + 1, acc, p => (numR xs 3 12 p).then' fun n p' => if n ∈ acc then .error ((p : Int), 12) else mapsR xs k (acc ++ [n]) p'
/-- So many instructions more. -/
def codeR (xs : List Int) : Nat → List In → Nat → Rd (List In)
  | 0, acc, p => .ok (acc, p)
  | k + 1, acc, p => (instR xs p).then' fun i p' => codeR xs k (acc ++ [i]) p'
def headB (k : Nat) : Int := if k = 0 then 84 else if k = 1 then 80 else 1
/-- The first bytes: so many are left. -/
def headR (xs : List Int) : Nat → Nat → Rd Unit
  | 0, p => .ok ((), p)
  | k + 1, p => if xs.length ≤ p then .error ((p : Int), 10) else if xs.getD p 0 ≠ headB p then .error ((p : Int), 12) else headR xs k (p + 1)
def mapsA (xs : List Int) (p : Nat) : Rd (List Int) := (numR xs 4 11 p).then' fun n p' => mapsR xs n.toNat [] p'
def codeA (xs : List Int) (p : Nat) : Rd (List In) := (numR xs 64 11 p).then' fun n p' => if n = 0 then .error ((p : Int), 12) else codeR xs n.toNat [] p'
def endR (xs : List Int) (p : Nat) : Rd Unit := if p < xs.length then .error ((p : Int), 13) else .ok ((), p)
/-- What bytes tell. -/
def decR (xs : List Int) : Rd (List Int × List In) :=
  (headR xs 3 0).then' fun _ p => (mapsA xs p).then' fun ms p => (codeA xs p).then' fun is p => (endR xs p).then' fun _ p => .ok ((ms, is), p)
/-- The same as three answers and the error: maps, code, the place, the error. -/
def decL (xs : List Int) : (List Int × List In) × Int × Int := match decR xs with | .ok (m, _) => (m, 0, 0) | .error (q, e) => (([], []), q, e)

theorem getL_err (xs : List Int) (hb : ∀ x ∈ xs, 0 ≤ x ∧ x ≤ 255) : (getL 0 0 xs).2.2 = 0 ∨ (getL 0 0 xs).2.2 = 10 ∨ (getL 0 0 xs).2.2 = 12 := by
  rcases getL_tells xs 0 0 (by omega) (by omega) (by simp) hb with (h | h) | ⟨n, j, h, _⟩ <;> rw [h] <;> simp
/-- A place as the reader has it: within the bytes. -/
theorem drop_byte {xs : List Int} (hb : ∀ x ∈ xs, 0 ≤ x ∧ x ≤ 255) (p : Nat) : ∀ x ∈ xs.drop p, 0 ≤ x ∧ x ≤ 255 := fun x hx => hb x (List.mem_of_mem_drop hx)

/-! ### Which modules are well formed, and their bytes -/
/-- Are these maps' numbers, unlike one another and those ahead of them? -/
def fitF (acc : List Int) : List Int → Bool
  | [] => true
  | n :: r => decide (0 ≤ n) && (decide (n ≤ 3) && (!decide (n ∈ acc) && fitF (acc ++ [n]) r))
def formedB (ms : List Int) (is : List In) : Bool := decide (ms.length ≤ 4) && (decide (1 ≤ is.length) && (decide (is.length ≤ 64) && (fitF [] ms && is.all In.right)))
/-- The bytes of an instruction. -/
def instE (i : In) : List Int := encs [i.op, i.d, i.a, i.b] ++ enc (foldI i.imm)
def codeE (is : List In) : List Int := is.flatMap instE
/-- The bytes of a module. -/
def modE (ms : List Int) (is : List In) : List Int := [84, 80, 1] ++ (enc ms.length ++ (encs ms ++ (enc is.length ++ codeE is)))
/-- What Encode answers. -/
def encL (ms : List Int) (is : List In) : List Int × Int := if formedB ms is = true then (modE ms is, 0) else ([], 2)

theorem fitF_app : ∀ (a b acc : List Int), fitF acc (a ++ b) = (fitF acc a && fitF (acc ++ a) b)
  | [], b, acc => by simp [fitF]
  | n :: a, b, acc => by
    rw [List.cons_append, fitF, fitF, fitF_app a b (acc ++ [n])]
    simp [Bool.and_assoc]
theorem fitF_take {ms : List Int} {k : Nat} (hk : k < ms.length) : fitF [] (ms.take (k + 1)) = (fitF [] (ms.take k) && (decide (0 ≤ ms.getD k 0) && (decide (ms.getD k 0 ≤ 3) && !decide (ms.getD k 0 ∈ ms.take k)))) := by
  rw [take_at ms k hk, fitF_app]
  simp [fitF]
theorem fitF_bad {ms : List Int} {k : Nat} (hk : k < ms.length) (h : ms.getD k 0 < 0 ∨ 3 < ms.getD k 0 ∨ ms.getD k 0 ∈ ms.take k) : fitF [] ms = false := by
  have e : ms = ms.take (k + 1) ++ ms.drop (k + 1) := (List.take_append_drop _ _).symm
  rw [e, fitF_app, fitF_take hk]
  rcases h with h | h | h
  · have : decide (0 ≤ ms.getD k 0) = false := decide_eq_false (by omega)
    rw [this]; simp
  · have : decide (ms.getD k 0 ≤ 3) = false := decide_eq_false (by omega)
    rw [this]; simp
  · have : decide (ms.getD k 0 ∈ ms.take k) = true := decide_eq_true h
    rw [this]; simp
theorem fitF_bd : ∀ (ms acc : List Int), fitF acc ms = true → ∀ n ∈ ms, 0 ≤ n ∧ n ≤ 3
  | [], _, _ => by simp
  | m :: ms, acc, h => by
    rw [fitF] at h
    simp only [Bool.and_eq_true, decide_eq_true_eq] at h
    intro n hn
    rcases List.mem_cons.1 hn with rfl | hn
    · exact ⟨h.1, h.2.1⟩
    · exact fitF_bd ms _ h.2.2.2 n hn
theorem formed_parts {ms : List Int} {is : List In} (h : formedB ms is = true) : ms.length ≤ 4 ∧ 1 ≤ is.length ∧ is.length ≤ 64 ∧ fitF [] ms = true ∧ ∀ i ∈ is, i.right = true := by
  simp only [formedB, Bool.and_eq_true, decide_eq_true_eq, List.all_eq_true] at h
  exact ⟨h.1, h.2.1, h.2.2.1, h.2.2.2.1, h.2.2.2.2⟩
theorem formed_mk {ms : List Int} {is : List In} (h1 : ms.length ≤ 4) (h2 : 1 ≤ is.length) (h3 : is.length ≤ 64) (h4 : fitF [] ms = true) (h5 : is.all In.right = true) : formedB ms is = true := by
  simp only [formedB, Bool.and_eq_true, decide_eq_true_eq]
  exact ⟨h1, h2, h3, h4, h5⟩
/-- No field of a right instruction is far out. -/
theorem right_bd {op d a b imm : Int} (h : rightB op d a b imm = true) : (0 ≤ op ∧ op ≤ 22) ∧ (0 ≤ d ∧ d ≤ 63) ∧ (0 ≤ a ∧ a ≤ 63) ∧ (0 ≤ b ∧ b ≤ 63) := by
  have ho := right_op h
  refine ⟨ho, ?_⟩
  have hr : ∀ n, regB n = true → 0 ≤ n ∧ n ≤ 63 := fun n hn => by have := regB_bd hn; omega
  have hs : ∀ b imm, sourcedB b imm = true → 0 ≤ b ∧ b ≤ 63 := fun b imm hb => by have := sourced_b hb; omega
  by_cases h1 : 1 ≤ op ∧ op ≤ 10
  · rw [rightB_three h1] at h; simp only [Bool.and_eq_true] at h; exact ⟨hr _ h.1.1, hr _ h.1.2, hs _ _ h.2⟩
  by_cases h2 : 16 ≤ op ∧ op ≤ 19
  · rw [rightB_jump h2] at h; simp only [Bool.and_eq_true, decide_eq_true_eq] at h; exact ⟨by omega, hr _ h.1.2, hs _ _ h.2⟩
  have h3 : op = 0 ∨ op = 11 ∨ op = 12 ∨ op = 13 ∨ op = 14 ∨ op = 15 ∨ op = 20 ∨ op = 21 ∨ op = 22 := by omega
  rcases h3 with rfl | rfl | rfl | rfl | rfl | rfl | rfl | rfl | rfl
  · rw [rightB_0] at h; simp only [Bool.and_eq_true, beq_iff_eq] at h; exact ⟨hr _ h.1.1, by omega, hs _ _ h.2⟩
  · rw [rightB_11] at h; simp only [Bool.and_eq_true, beq_iff_eq] at h; exact ⟨hr _ h.1.1, by omega, hs _ _ h.2⟩
  · rw [rightB_12] at h; simp only [Bool.and_eq_true, beq_iff_eq] at h; exact ⟨by omega, hr _ h.1.2, hs _ _ h.2⟩
  · rw [rightB_13] at h; simp only [Bool.and_eq_true, beq_iff_eq] at h; exact ⟨hr _ h.1.1.1, by omega, by omega⟩
  · rw [rightB_14] at h; simp only [Bool.and_eq_true, beq_iff_eq] at h; exact ⟨hr _ h.1.1.1.1, by omega, by omega⟩
  · rw [rightB_15] at h; simp only [Bool.and_eq_true, beq_iff_eq, decide_eq_true_eq] at h; exact ⟨by omega, by omega, by omega⟩
  · rw [rightB_20] at h; simp only [Bool.and_eq_true, beq_iff_eq, decide_eq_true_eq] at h; exact ⟨by omega, hr _ h.1.1.1.2, by omega⟩
  · rw [rightB_21] at h; simp only [Bool.and_eq_true, beq_iff_eq, decide_eq_true_eq] at h; exact ⟨by omega, by omega, by omega⟩
  · rw [rightB_22] at h; simp only [Bool.and_eq_true, beq_iff_eq] at h; exact ⟨by omega, hr _ h.1.1.2, by omega⟩
theorem instE_len (i : In) : 5 ≤ (instE i).length ∧ (instE i).length ≤ 50 := by
  have h1 := enc_len i.op
  have h2 := enc_len i.d
  have h3 := enc_len i.a
  have h4 := enc_len i.b
  have h5 := enc_len (foldI i.imm)
  simp only [instE, encs_cons, encs_nil, List.append_nil, List.length_append]
  omega
theorem codeE_len (is : List In) : (codeE is).length ≤ 50 * is.length := by
  induction is with
  | nil => simp [codeE]
  | cons i is ih =>
    have e : codeE (i :: is) = instE i ++ codeE is := rfl
    have := instE_len i
    rw [e, List.length_append, List.length_cons]
    omega
theorem codeE_app (a b : List In) : codeE (a ++ b) = codeE a ++ codeE b := by simp [codeE]
theorem codeE_take (is : List In) (k : Nat) (h : k < is.length) : codeE (is.take (k + 1)) = codeE (is.take k) ++ instE (is.getD k In.nil) := by
  rw [List.take_succ_eq_append_getElem h, codeE_app]
  simp [codeE, List.getD, h]
theorem instE_byte {i : In} (hr : i.right = true) (hw : i.wf) : ∀ x ∈ instE i, 0 ≤ x ∧ x ≤ 255 := by
  obtain ⟨h1, h2, h3, h4⟩ := right_bd hr
  have h5 := fold_bd (bounds_i64 hw.2.2.2.2).1 (bounds_i64 hw.2.2.2.2).2
  intro x hx
  simp only [instE, List.mem_append] at hx
  rcases hx with hx | hx
  · refine encs_byte ?_ x hx
    intro n hn
    simp only [List.mem_cons, List.not_mem_nil, or_false] at hn
    rcases hn with rfl | rfl | rfl | rfl <;> omega
  · exact enc_byte h5.1 h5.2 x hx
theorem codeE_byte {is : List In} (hr : ∀ i ∈ is, i.right = true) (hw : ∀ i ∈ is, i.wf) : ∀ x ∈ codeE is, 0 ≤ x ∧ x ≤ 255 := by
  intro x hx
  simp only [codeE, List.mem_flatMap] at hx
  obtain ⟨i, hi, hx⟩ := hx
  exact instE_byte (hr i hi) (hw i hi) x hx
theorem modE_byte {ms : List Int} {is : List In} (h : formedB ms is = true) (hw : ∀ i ∈ is, i.wf) : ∀ x ∈ modE ms is, 0 ≤ x ∧ x ≤ 255 := by
  obtain ⟨h1, h2, h3, h4, h5⟩ := formed_parts h
  intro x hx
  simp only [modE, List.mem_append] at hx
  rcases hx with hx | hx | hx | hx | hx
  · simp at hx; omega
  · exact enc_byte (by omega) (by omega) x hx
  · exact encs_byte (fun n hn => by have := fitF_bd ms [] h4 n hn; omega) x hx
  · exact enc_byte (by omega) (by omega) x hx
  · exact codeE_byte h5 hw x hx
theorem modE_len {ms : List Int} {is : List In} (h : formedB ms is = true) : (modE ms is).length ≤ 4096 := by
  obtain ⟨h1, h2, h3, h4, h5⟩ := formed_parts h
  have a := enc_len (ms.length : Int)
  have b := encs_len ms
  have c := enc_len (is.length : Int)
  have d := codeE_len is
  simp only [modE, List.length_append, List.length_cons, List.length_nil]
  omega
end Go.Proofs.Ytbpjcppgnndaaaa
