/-
  The document's Decode as a machine: what is left to be read in each of its states. No Go text in sight.
-/
import Derived.Test.YtbpjcppgnndaaaaW4Reader
namespace Go.Proofs.Ytbpjcppgnndaaaa
open Go.RowKit
set_option linter.unusedVariables false

abbrev Md2 := List Int × List In
def endT (xs : List Int) (ms : List Int) (is : List In) (p : Nat) : Rd Md2 := (endR xs p).then' fun _ p => .ok ((ms, is), p)
def codeT (xs : List Int) (ms : List Int) (p : Nat) : Rd Md2 := (codeA xs p).then' fun is p => endT xs ms is p
/-- So many instructions more, and the end. -/
def moreT (xs : List Int) (ms : List Int) (k : Nat) (is : List In) (p : Nat) : Rd Md2 := (codeR xs k is p).then' fun is p => endT xs ms is p
def mapsT (xs : List Int) (k : Nat) (ms : List Int) (p : Nat) : Rd Md2 := (mapsR xs k ms p).then' fun ms p => codeT xs ms p
def headT (xs : List Int) (p : Nat) : Rd Md2 := (mapsA xs p).then' fun ms p => codeT xs ms p
def inst10 (xs : List Int) (p0 : Nat) (op d a b : Int) (p : Nat) : Rd In := (sgnR xs p).then' fun imm p => if rightB op d a b imm = true then .ok (⟨op, d, a, b, imm⟩, p) else .error ((p0 : Int), 12)
def inst9 (xs : List Int) (p0 : Nat) (op d a : Int) (p : Nat) : Rd In := (numR xs 63 12 p).then' fun b p => inst10 xs p0 op d a b p
def inst8 (xs : List Int) (p0 : Nat) (op d : Int) (p : Nat) : Rd In := (numR xs 63 12 p).then' fun a p => inst9 xs p0 op d a p
def inst7 (xs : List Int) (p0 : Nat) (op : Int) (p : Nat) : Rd In := (numR xs 63 12 p).then' fun d p => inst8 xs p0 op d p
theorem instR_7 (xs : List Int) (p : Nat) : instR xs p = (numR xs 22 12 p).then' fun op p' => inst7 xs p op p' := rfl
def onT (xs : List Int) (ms : List Int) (k : Nat) (is : List In) (r : Rd In) : Rd Md2 := r.then' fun i p => moreT xs ms k (is ++ [i]) p
theorem then_assoc {α β γ : Type} (r : Rd α) (g : α → Nat → Rd β) (k : β → Nat → Rd γ) : (r.then' g).then' k = r.then' fun a p => (g a p).then' k := by
  cases r with
  | error x => rfl
  | ok y => rfl
/-- What is wrong with a field's number by itself. -/
def boundI (st n : Int) (ms : List Int) : Int :=
  if (st = 3 ∧ 4 < n) ∨ (st = 5 ∧ 64 < n) then 11
  else if (st = 4 ∧ 3 < n) ∨ (st = 5 ∧ n = 0) ∨ (st = 6 ∧ 22 < n) ∨ (7 ≤ st ∧ st ≤ 9 ∧ 63 < n) then 12
  else if st = 4 ∧ n ∈ ms then 12 else 0
def nextI (st m c : Int) : Int := if st ≤ 4 ∧ 0 < m then 4 else if st ≤ 4 then 5 else if st = 10 ∧ 0 < c then 6 else st + 1

/-- What the machine's state means. -/
structure Stt (xs : List Int) (st : Nat) (p : Nat) (mc cc : Nat) (p0 : Nat) (ms : List Int) (is : List In) (op d a b imm : Int) : Prop where
  lo : 3 ≤ st
  hi : st ≤ 11
  ple : p ≤ xs.length
  ml : ms.length ≤ 4
  il : is.length ≤ 64
  mb : ∀ n ∈ ms, 0 ≤ n ∧ n ≤ 3
  iw : ∀ i ∈ is, i.wf
  fb : (0 ≤ op ∧ op ≤ 22) ∧ (0 ≤ d ∧ d ≤ 63) ∧ (0 ≤ a ∧ a ≤ 63) ∧ (0 ≤ b ∧ b ≤ 63)
  mcb : mc ≤ 4
  ccb : cc ≤ 64
  s3 : st = 3 → ms = [] ∧ is = [] ∧ decR xs = headT xs p
  s4 : st = 4 → is = [] ∧ ms.length < mc ∧ decR xs = mapsT xs (mc - ms.length) ms p
  s5 : st = 5 → is = [] ∧ decR xs = codeT xs ms p
  s6 : st = 6 → is.length < cc ∧ decR xs = moreT xs ms (cc - is.length) is p
  s7 : st = 7 → is.length < cc ∧ d = 0 ∧ a = 0 ∧ b = 0 ∧ imm = 0 ∧ decR xs = onT xs ms (cc - is.length - 1) is (inst7 xs p0 op p)
  s8 : st = 8 → is.length < cc ∧ a = 0 ∧ b = 0 ∧ imm = 0 ∧ decR xs = onT xs ms (cc - is.length - 1) is (inst8 xs p0 op d p)
  s9 : st = 9 → is.length < cc ∧ b = 0 ∧ imm = 0 ∧ decR xs = onT xs ms (cc - is.length - 1) is (inst9 xs p0 op d a p)
  s10 : st = 10 → is.length < cc ∧ imm = 0 ∧ decR xs = onT xs ms (cc - is.length - 1) is (inst10 xs p0 op d a b p)
  s11 : st = 11 → decR xs = endT xs ms is p

theorem num_bad {α : Type} {xs : List Int} {most above : Int} {p : Nat} {e : Int} (g : Int → Nat → Rd α) (h : numR xs most above p = .error ((p : Int), e)) : (numR xs most above p).then' g = .error ((p : Int), e) := by rw [h]; rfl
theorem on_num {xs ms : List Int} {k : Nat} {is : List In} {most above : Int} {p : Nat} {e : Int} (g : Int → Nat → Rd In) (h : numR xs most above p = .error ((p : Int), e)) : onT xs ms k is ((numR xs most above p).then' g) = .error ((p : Int), e) := by rw [h]; rfl
theorem maps_succ {xs ms : List Int} {k p : Nat} (h : 0 < k) : mapsR xs k ms p = (numR xs 3 12 p).then' fun n p' => if n ∈ ms then .error ((p : Int), 12) else mapsR xs (k - 1) (ms ++ [n]) p' := by
  obtain ⟨j, rfl⟩ : ∃ j, k = j + 1 := ⟨k - 1, by omega⟩
  rfl
theorem code_succ {xs : List Int} {is : List In} {k p : Nat} (h : 0 < k) : codeR xs k is p = (instR xs p).then' fun i p' => codeR xs (k - 1) (is ++ [i]) p' := by
  obtain ⟨j, rfl⟩ : ∃ j, k = j + 1 := ⟨k - 1, by omega⟩
  rfl
theorem more_on {xs ms : List Int} {k p : Nat} {is : List In} (h : 0 < k) : moreT xs ms k is p = onT xs ms (k - 1) is (instR xs p) := by
  rw [moreT, code_succ h, then_assoc]; rfl
/-- Layer 1 tells an error: so does the whole. -/
theorem Stt.short {xs : List Int} {st p mc cc p0 : Nat} {ms : List Int} {is : List In} {op d a b imm e : Int} (h : Stt xs st p mc cc p0 ms is op d a b imm) (hst : st < 11) (hg : getL 0 0 (xs.drop p) = (0, 0, e)) (he : e ≠ 0) : decR xs = .error ((p : Int), e) := by
  have hn : ∀ most above, numR xs most above p = .error ((p : Int), e) := fun most above => numR_err hg he
  have hs : sgnR xs p = .error ((p : Int), e) := sgnR_err hg he
  have hlo := h.lo
  have hc : st = 3 ∨ st = 4 ∨ st = 5 ∨ st = 6 ∨ st = 7 ∨ st = 8 ∨ st = 9 ∨ st = 10 := by omega
  rcases hc with hc | hc | hc | hc | hc | hc | hc | hc
  · rw [(h.s3 hc).2.2, headT, mapsA, hn]; rfl
  · obtain ⟨_, h1, h2⟩ := h.s4 hc
    rw [h2, mapsT, maps_succ (by omega), hn]; rfl
  · rw [(h.s5 hc).2, codeT, codeA, hn]; rfl
  · obtain ⟨h1, h2⟩ := h.s6 hc
    rw [h2, more_on (by omega), instR_7]; exact on_num _ (hn _ _)
  · rw [(h.s7 hc).2.2.2.2.2, inst7]; exact on_num _ (hn _ _)
  · rw [(h.s8 hc).2.2.2.2, inst8]; exact on_num _ (hn _ _)
  · rw [(h.s9 hc).2.2.2, inst9]; exact on_num _ (hn _ _)
  · rw [(h.s10 hc).2.2, inst10, hs]; rfl
/-- The number is wrong by itself: so is the whole. -/
theorem Stt.bound {xs : List Int} {st p mc cc p0 : Nat} {ms : List Int} {is : List In} {op d a b imm n : Int} {j : Nat} (h : Stt xs st p mc cc p0 ms is op d a b imm) (hst : st < 11) (hg : getL 0 0 (xs.drop p) = (n, (j : Int), 0)) (he : boundI st n ms ≠ 0) : decR xs = .error ((p : Int), boundI st n ms) := by
  have ha : ∀ most above, most < n → numR xs most above p = .error ((p : Int), above) := fun most above hm => numR_above hg hm
  have ho : ∀ most above, n ≤ most → numR xs most above p = .ok (n, p + j) := fun most above hm => numR_ok hg hm
  have hlo := h.lo
  have hc : st = 3 ∨ st = 4 ∨ st = 5 ∨ st = 6 ∨ st = 7 ∨ st = 8 ∨ st = 9 ∨ st = 10 := by omega
  rcases hc with hc | hc | hc | hc | hc | hc | hc | hc
  · have e : boundI st n ms = if 4 < n then 11 else 0 := by subst hc; simp [boundI]
    rw [e] at he ⊢
    split at he
    · rename_i hm
      rw [(h.s3 hc).2.2, headT, mapsA, ha _ _ hm, if_pos hm]; rfl
    · exact absurd rfl he
  · obtain ⟨_, h1, h2⟩ := h.s4 hc
    have e : boundI st n ms = if 3 < n then 12 else if n ∈ ms then 12 else 0 := by subst hc; simp [boundI]
    rw [e] at he ⊢
    by_cases hm : 3 < n
    · rw [h2, mapsT, maps_succ (by omega), ha _ _ hm, if_pos hm]; rfl
    · rw [if_neg hm] at he ⊢
      by_cases hmem : n ∈ ms
      · rw [h2, mapsT, maps_succ (by omega), ho _ _ (by omega), if_pos hmem]
        simp only [Rd.then', if_pos hmem]
      · rw [if_neg hmem] at he; exact absurd rfl he
  · have e : boundI st n ms = if 64 < n then 11 else if n = 0 then 12 else 0 := by subst hc; simp [boundI]
    rw [e] at he ⊢
    by_cases hm : 64 < n
    · rw [(h.s5 hc).2, codeT, codeA, ha _ _ hm, if_pos hm]; rfl
    · rw [if_neg hm] at he ⊢
      by_cases h0 : n = 0
      · rw [(h.s5 hc).2, codeT, codeA, ho _ _ (by omega), if_pos h0]
        simp only [Rd.then', if_pos h0]
      · rw [if_neg h0] at he; exact absurd rfl he
  · obtain ⟨h1, h2⟩ := h.s6 hc
    have e : boundI st n ms = if 22 < n then 12 else 0 := by subst hc; simp [boundI]
    rw [e] at he ⊢
    split at he
    · rename_i hm
      rw [h2, more_on (by omega), instR_7, if_pos hm]; exact on_num _ (ha _ _ hm)
    · exact absurd rfl he
  · have e : boundI st n ms = if 63 < n then 12 else 0 := by subst hc; simp [boundI]
    rw [e] at he ⊢
    split at he
    · rename_i hm
      rw [(h.s7 hc).2.2.2.2.2, inst7, if_pos hm]; exact on_num _ (ha _ _ hm)
    · exact absurd rfl he
  · have e : boundI st n ms = if 63 < n then 12 else 0 := by subst hc; simp [boundI]
    rw [e] at he ⊢
    split at he
    · rename_i hm
      rw [(h.s8 hc).2.2.2.2, inst8, if_pos hm]; exact on_num _ (ha _ _ hm)
    · exact absurd rfl he
  · have e : boundI st n ms = if 63 < n then 12 else 0 := by subst hc; simp [boundI]
    rw [e] at he ⊢
    split at he
    · rename_i hm
      rw [(h.s9 hc).2.2.2, inst9, if_pos hm]; exact on_num _ (ha _ _ hm)
    · exact absurd rfl he
  · have e : boundI st n ms = 0 := by subst hc; simp [boundI]
    exact absurd e he
theorem on_ok {xs ms : List Int} {k : Nat} {is : List In} {most above n : Int} {p q : Nat} (g : Int → Nat → Rd In) (h : numR xs most above p = .ok (n, q)) : onT xs ms k is ((numR xs most above p).then' g) = onT xs ms k is (g n q) := by rw [h]; rfl
/-- The machine goes on. -/
theorem Stt.go3 {xs : List Int} {p mc cc p0 : Nat} {ms : List Int} {is : List In} {op d a b imm n : Int} {j : Nat} (h : Stt xs 3 p mc cc p0 ms is op d a b imm) (hg : getL 0 0 (xs.drop p) = (n, (j : Int), 0)) (h0 : 0 ≤ n) (hn : n ≤ 4) (hp : p + j ≤ xs.length) :
    Stt xs (if 0 < n then 4 else 5) (p + j) n.toNat cc p0 ms is op d a b imm := by
  obtain ⟨e1, e2, e3⟩ := h.s3 rfl
  subst e1 e2
  have e3 : decR xs = mapsT xs n.toNat [] (p + j) := by rw [e3, headT, mapsA, numR_ok hg hn]; rfl
  by_cases hz : 0 < n
  · rw [if_pos hz]
    exact ⟨by omega, by omega, hp, h.ml, h.il, h.mb, h.iw, h.fb, by omega, h.ccb, by omega, fun _ => ⟨rfl, by simp; omega, by simpa using e3⟩, by omega, by omega, by omega, by omega, by omega, by omega, by omega⟩
  · rw [if_neg hz]
    obtain rfl : n = 0 := by omega
    exact ⟨by omega, by omega, hp, h.ml, h.il, h.mb, h.iw, h.fb, by omega, h.ccb, by omega, by omega, fun _ => ⟨rfl, e3⟩, by omega, by omega, by omega, by omega, by omega, by omega⟩
theorem Stt.go4 {xs : List Int} {p mc cc p0 : Nat} {ms : List Int} {is : List In} {op d a b imm n : Int} {j : Nat} (h : Stt xs 4 p mc cc p0 ms is op d a b imm) (hg : getL 0 0 (xs.drop p) = (n, (j : Int), 0)) (h0 : 0 ≤ n) (hn : n ≤ 3) (hm : ¬ n ∈ ms) (hp : p + j ≤ xs.length) :
    Stt xs (if ms.length + 1 < mc then 4 else 5) (p + j) mc cc p0 (ms ++ [n]) is op d a b imm := by
  obtain ⟨e1, e2, e3⟩ := h.s4 rfl
  have hmc := h.mcb
  have hmb : ∀ x ∈ ms ++ [n], 0 ≤ x ∧ x ≤ 3 := fun x hx => by
    rcases List.mem_append.1 hx with hx | hx
    · exact h.mb x hx
    · simp at hx; subst hx; exact ⟨h0, hn⟩
  have e4 : decR xs = mapsT xs (mc - ms.length - 1) (ms ++ [n]) (p + j) := by
    rw [e3, mapsT, maps_succ (by omega), numR_ok hg hn]
    simp only [Rd.then', if_neg hm]
    rfl
  by_cases hz : ms.length + 1 < mc
  · rw [if_pos hz]
    exact ⟨by omega, by omega, hp, by simp; omega, h.il, hmb, h.iw, h.fb, hmc, h.ccb, by omega, fun _ => ⟨e1, by simp; omega, by rw [e4, List.length_append, List.length_singleton, Nat.sub_sub]⟩, by omega, by omega, by omega, by omega, by omega, by omega, by omega⟩
  · rw [if_neg hz]
    have e5 : mc - ms.length - 1 = 0 := by omega
    rw [e5] at e4
    exact ⟨by omega, by omega, hp, by simp; omega, h.il, hmb, h.iw, h.fb, hmc, h.ccb, by omega, by omega, fun _ => ⟨e1, e4⟩, by omega, by omega, by omega, by omega, by omega, by omega⟩
theorem Stt.go5 {xs : List Int} {p mc cc p0 : Nat} {ms : List Int} {is : List In} {op d a b imm n : Int} {j : Nat} (h : Stt xs 5 p mc cc p0 ms is op d a b imm) (hg : getL 0 0 (xs.drop p) = (n, (j : Int), 0)) (h0 : 0 < n) (hn : n ≤ 64) (hp : p + j ≤ xs.length) :
    Stt xs 6 (p + j) mc n.toNat p0 ms is op d a b imm := by
  obtain ⟨e1, e2⟩ := h.s5 rfl
  subst e1
  exact ⟨by omega, by omega, hp, h.ml, h.il, h.mb, h.iw, h.fb, h.mcb, by omega, by omega, by omega, by omega, fun _ => ⟨by simp; omega, by
    rw [e2, codeT, codeA, numR_ok hg hn]
    simp only [Rd.then']
    rw [if_neg (by omega)]; rfl⟩, by omega, by omega, by omega, by omega, by omega⟩
theorem Stt.go6 {xs : List Int} {p mc cc p0 : Nat} {ms : List Int} {is : List In} {op d a b imm n : Int} {j : Nat} (h : Stt xs 6 p mc cc p0 ms is op d a b imm) (hg : getL 0 0 (xs.drop p) = (n, (j : Int), 0)) (h0 : 0 ≤ n) (hn : n ≤ 22) (hp : p + j ≤ xs.length) :
    Stt xs 7 (p + j) mc cc p ms is n 0 0 0 0 := by
  obtain ⟨e1, e2⟩ := h.s6 rfl
  exact ⟨by omega, by omega, hp, h.ml, h.il, h.mb, h.iw, ⟨⟨h0, hn⟩, by omega, by omega, by omega⟩, h.mcb, h.ccb, by omega, by omega, by omega, by omega, fun _ => ⟨e1, rfl, rfl, rfl, rfl, by
    rw [e2, more_on (by omega), instR_7]; exact on_ok _ (numR_ok hg hn)⟩, by omega, by omega, by omega, by omega⟩
theorem Stt.go7 {xs : List Int} {p mc cc p0 : Nat} {ms : List Int} {is : List In} {op d a b imm n : Int} {j : Nat} (h : Stt xs 7 p mc cc p0 ms is op d a b imm) (hg : getL 0 0 (xs.drop p) = (n, (j : Int), 0)) (h0 : 0 ≤ n) (hn : n ≤ 63) (hp : p + j ≤ xs.length) :
    Stt xs 8 (p + j) mc cc p0 ms is op n a b imm := by
  obtain ⟨e1, e2, e3, e4, e5, e6⟩ := h.s7 rfl
  exact ⟨by omega, by omega, hp, h.ml, h.il, h.mb, h.iw, ⟨h.fb.1, ⟨h0, hn⟩, h.fb.2.2.1, h.fb.2.2.2⟩, h.mcb, h.ccb, by omega, by omega, by omega, by omega, by omega, fun _ => ⟨e1, e3, e4, e5, by
    rw [e6, inst7]; exact on_ok _ (numR_ok hg hn)⟩, by omega, by omega, by omega⟩
theorem Stt.go8 {xs : List Int} {p mc cc p0 : Nat} {ms : List Int} {is : List In} {op d a b imm n : Int} {j : Nat} (h : Stt xs 8 p mc cc p0 ms is op d a b imm) (hg : getL 0 0 (xs.drop p) = (n, (j : Int), 0)) (h0 : 0 ≤ n) (hn : n ≤ 63) (hp : p + j ≤ xs.length) :
    Stt xs 9 (p + j) mc cc p0 ms is op d n b imm := by
  obtain ⟨e1, e3, e4, e5, e6⟩ := h.s8 rfl
  exact ⟨by omega, by omega, hp, h.ml, h.il, h.mb, h.iw, ⟨h.fb.1, h.fb.2.1, ⟨h0, hn⟩, h.fb.2.2.2⟩, h.mcb, h.ccb, by omega, by omega, by omega, by omega, by omega, by omega, fun _ => ⟨e1, e4, e5, by
    rw [e6, inst8]; exact on_ok _ (numR_ok hg hn)⟩, by omega, by omega⟩
theorem Stt.go9 {xs : List Int} {p mc cc p0 : Nat} {ms : List Int} {is : List In} {op d a b imm n : Int} {j : Nat} (h : Stt xs 9 p mc cc p0 ms is op d a b imm) (hg : getL 0 0 (xs.drop p) = (n, (j : Int), 0)) (h0 : 0 ≤ n) (hn : n ≤ 63) (hp : p + j ≤ xs.length) :
    Stt xs 10 (p + j) mc cc p0 ms is op d a n imm := by
  obtain ⟨e1, e4, e5, e6⟩ := h.s9 rfl
  exact ⟨by omega, by omega, hp, h.ml, h.il, h.mb, h.iw, ⟨h.fb.1, h.fb.2.1, h.fb.2.2.1, ⟨h0, hn⟩⟩, h.mcb, h.ccb, by omega, by omega, by omega, by omega, by omega, by omega, by omega, fun _ => ⟨e1, e5, by
    rw [e6, inst9]; exact on_ok _ (numR_ok hg hn)⟩, by omega⟩
theorem Stt.wrong {xs : List Int} {p mc cc p0 : Nat} {ms : List Int} {is : List In} {op d a b imm n : Int} {j : Nat} (h : Stt xs 10 p mc cc p0 ms is op d a b imm) (hg : getL 0 0 (xs.drop p) = (n, (j : Int), 0)) (hr : rightB op d a b (unfoldI n) = false) : decR xs = .error ((p0 : Int), 12) := by
  obtain ⟨e1, e5, e6⟩ := h.s10 rfl
  rw [e6, inst10, sgnR_ok hg]
  simp only [Rd.then']
  rw [if_neg (by rw [hr]; simp)]; rfl
theorem Stt.go10 {xs : List Int} {p mc cc p0 : Nat} {ms : List Int} {is : List In} {op d a b imm n : Int} {j : Nat} (h : Stt xs 10 p mc cc p0 ms is op d a b imm) (hg : getL 0 0 (xs.drop p) = (n, (j : Int), 0)) (h0 : 0 ≤ n) (h1 : n < 18446744073709551616) (hr : rightB op d a b (unfoldI n) = true) (hp : p + j ≤ xs.length) :
    Stt xs (if is.length + 1 < cc then 6 else 11) (p + j) mc cc p0 ms (is ++ [⟨op, d, a, b, unfoldI n⟩]) op d a b (unfoldI n) := by
  obtain ⟨e1, e5, e6⟩ := h.s10 rfl
  have hcc := h.ccb
  have hu : -9223372036854775808 ≤ unfoldI n ∧ unfoldI n ≤ 9223372036854775807 := by unfold unfoldI; split <;> omega
  have hiw : ∀ i ∈ is ++ [(⟨op, d, a, b, unfoldI n⟩ : In)], i.wf := fun i hi => by
    rcases List.mem_append.1 hi with hi | hi
    · exact h.iw i hi
    · simp at hi
      subst hi
      have fb := h.fb
      have a' : ∀ n : Int, -9223372036854775808 ≤ n → n ≤ 9223372036854775807 → (Lit.int .i64 n).wf = true := fun n _ _ => WalkArith.wf_i64 (by omega)
      exact ⟨a' op (by omega) (by omega), a' d (by omega) (by omega), a' a (by omega) (by omega), a' b (by omega) (by omega), a' _ hu.1 hu.2⟩
  have e7 : decR xs = moreT xs ms (cc - is.length - 1) (is ++ [⟨op, d, a, b, unfoldI n⟩]) (p + j) := by
    rw [e6, inst10, sgnR_ok hg]
    simp only [Rd.then']
    rw [if_pos hr]; rfl
  by_cases hz : is.length + 1 < cc
  · rw [if_pos hz]
    exact ⟨by omega, by omega, hp, h.ml, by simp; omega, h.mb, hiw, h.fb, h.mcb, hcc, by omega, by omega, by omega, fun _ => ⟨by simp; omega, by rw [e7, List.length_append, List.length_singleton, Nat.sub_sub]⟩, by omega, by omega, by omega, by omega, by omega⟩
  · rw [if_neg hz]
    have e8 : cc - is.length - 1 = 0 := by omega
    rw [e8] at e7
    exact ⟨by omega, by omega, hp, h.ml, by simp; omega, h.mb, hiw, h.fb, h.mcb, hcc, by omega, by omega, by omega, by omega, by omega, by omega, by omega, by omega, fun _ => e7⟩
theorem Stt.start {xs : List Int} (h : headR xs 3 0 = .ok ((), 3)) (hl : 3 ≤ xs.length) : Stt xs 3 3 0 0 0 [] [] 0 0 0 0 0 :=
  ⟨by omega, by omega, hl, by simp, by simp, by simp, by simp, by omega, by omega, by omega, fun _ => ⟨rfl, rfl, by rw [decR, h]; rfl⟩, by omega, by omega, by omega, by omega, by omega, by omega, by omega, by omega⟩
theorem Stt.trail {xs : List Int} {p mc cc p0 : Nat} {ms : List Int} {is : List In} {op d a b imm : Int} (h : Stt xs 11 p mc cc p0 ms is op d a b imm) (hp : p < xs.length) : decL xs = (([], []), (p : Int), 13) := by
  have e := h.s11 rfl
  unfold decL
  rw [e, endT, endR, if_pos hp]; rfl
theorem Stt.all {xs : List Int} {p mc cc p0 : Nat} {ms : List Int} {is : List In} {op d a b imm : Int} (h : Stt xs 11 p mc cc p0 ms is op d a b imm) (hp : ¬ p < xs.length) : decL xs = ((ms, is), 0, 0) := by
  have e := h.s11 rfl
  unfold decL
  rw [e, endT, endR, if_neg hp]; rfl
theorem decL_err {xs : List Int} {q e : Int} (h : decR xs = .error (q, e)) : decL xs = (([], []), q, e) := by unfold decL; rw [h]
end Go.Proofs.Ytbpjcppgnndaaaa
