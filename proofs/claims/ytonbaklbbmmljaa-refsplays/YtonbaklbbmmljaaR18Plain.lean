
/-
  Who holds what, plain: holds with their programs rising. No Go text in sight.
-/
import Derived.Test.YtonbaklbbmmljaaGx
namespace Go.Proofs.Ytonbaklbbmmljaa
set_option linter.unusedVariables false
set_option linter.unusedSimpArgs false

/-- A program and the maps that it holds. -/
structure Hm where
  p : Int
  ms : List Int
def Hm.nil : Hm := ⟨0, []⟩
abbrev Rs := List Hm
def Rs.has (P : Rs) (p : Int) : Bool := P.any (fun h => h.p == p)
def Rs.held (P : Rs) (p : Int) : Option (List Int) := (P.find? (fun h => h.p == p)).map (·.ms)
def inM (n : Nat) (x : Int) : Bool := decide (0 ≤ x) && decide (x < n)
def okM (n : Nat) (ms : List Int) : Bool := decide ms.Nodup && ms.all (inM n)
def insH (h : Hm) : List Hm → List Hm
  | [] => [h]
  | x :: l => if h.p ≤ x.p then h :: x :: l else x :: insH h l
def Rs.hold (n : Nat) (P : Rs) (p : Int) (ms : List Int) : Int × Rs := if okM n ms = false then (2, P) else if P.has p = true then (42, P) else (0, insH ⟨p, ms⟩ P)
def outP (ps : List Int) (h : Hm) : Bool := !decide (h.p ∈ ps)
def Rs.drop (P : Rs) (ps : List Int) : Int × Rs := if decide ps.Nodup = false then (2, P) else if ps.all (Rs.has P) = false then (41, P) else (0, P.filter (outP ps))
def Rs.holders (P : Rs) (m : Int) : List Int := (P.filter (fun h => decide (m ∈ h.ms))).map (·.p)
/-- What holds of all refs. -/
structure Rs.Ok (n : Nat) (P : Rs) : Prop where
  up : P.Pairwise (fun a b => a.p < b.p)
  ms : ∀ h ∈ P, okM n h.ms = true
theorem Rs.Ok.nil (n : Nat) : Rs.Ok n [] := ⟨List.Pairwise.nil, fun h hh => by cases hh⟩
theorem Rs.has_iff {P : Rs} {p : Int} : P.has p = true ↔ ∃ h ∈ P, h.p = p := by simp [Rs.has]
theorem insH_perm (h : Hm) (P : Rs) : (insH h P).Perm (h :: P) := by
  induction P with
  | nil => exact List.Perm.refl _
  | cons x l ih =>
    unfold insH
    split
    · exact List.Perm.refl _
    · exact (ih.cons x).trans (List.Perm.swap _ _ _)
theorem insH_mem {h x : Hm} {P : Rs} : x ∈ insH h P ↔ x = h ∨ x ∈ P := by
  rw [(insH_perm h P).mem_iff]; simp
theorem insH_up {h : Hm} {P : Rs} (hu : P.Pairwise (fun a b => a.p < b.p)) (hn : ∀ x ∈ P, x.p ≠ h.p) : (insH h P).Pairwise (fun a b => a.p < b.p) := by
  induction P with
  | nil => exact List.pairwise_singleton _ _
  | cons x l ih =>
    unfold insH
    rw [List.pairwise_cons] at hu
    have hx := hn x (by simp)
    split
    · rename_i hle
      refine List.pairwise_cons.2 ⟨fun y hy => ?_, List.pairwise_cons.2 hu⟩
      rcases List.mem_cons.1 hy with e | e
      · rw [e]; omega
      · have := hu.1 y e; omega
    · rename_i hle
      refine List.pairwise_cons.2 ⟨fun y hy => ?_, ih hu.2 (fun y hy => hn y (by simp [hy]))⟩
      rcases insH_mem.1 hy with e | e
      · rw [e]; omega
      · exact hu.1 y e
theorem Rs.Ok.hold {n : Nat} {P P' : Rs} {p E : Int} {ms : List Int} (h : Rs.Ok n P) (hq : Rs.hold n P p ms = (E, P')) : Rs.Ok n P' := by
  unfold Rs.hold at hq
  split at hq
  · injection hq with _ e; rw [← e]; exact h
  · rename_i hm
    split at hq
    · injection hq with _ e; rw [← e]; exact h
    · rename_i hh
      injection hq with _ e
      rw [← e]
      refine ⟨insH_up h.up (fun x hx e => hh (Rs.has_iff.2 ⟨x, hx, e⟩)), fun x hx => ?_⟩
      rcases insH_mem.1 hx with e | e
      · rw [e]; simpa using hm
      · exact h.ms x e
theorem Rs.Ok.filter {n : Nat} {P : Rs} (h : Rs.Ok n P) (f : Hm → Bool) : Rs.Ok n (P.filter f) := ⟨h.up.filter f, fun x hx => h.ms x (List.mem_filter.1 hx).1⟩
theorem Rs.Ok.drop {n : Nat} {P P' : Rs} {E : Int} {ps : List Int} (h : Rs.Ok n P) (hq : Rs.drop P ps = (E, P')) : Rs.Ok n P' := by
  unfold Rs.drop at hq
  split at hq
  · injection hq with _ e; rw [← e]; exact h
  · split at hq
    · injection hq with _ e; rw [← e]; exact h
    · injection hq with _ e; rw [← e]; exact h.filter _
/-- A program holds once. -/
theorem Rs.Ok.one {n : Nat} {P : Rs} (h : Rs.Ok n P) {x y : Hm} (hx : x ∈ P) (hy : y ∈ P) (he : x.p = y.p) : x = y := by
  have key : ∀ (P : Rs), P.Pairwise (fun a b => a.p < b.p) → x ∈ P → y ∈ P → x = y := by
    intro P
    induction P with
    | nil => intro _ hx; cases hx
    | cons z l ih =>
      intro hu hx hy
      rw [List.pairwise_cons] at hu
      rcases List.mem_cons.1 hx with e1 | e1 <;> rcases List.mem_cons.1 hy with e2 | e2
      · rw [e1, e2]
      · have := hu.1 y e2; rw [e1] at he; omega
      · have := hu.1 x e1; rw [e2] at he; omega
      · exact ih hu.2 e1 e2
  exact key P h.up hx hy
theorem Rs.Ok.held_some {n : Nat} {P : Rs} (h : Rs.Ok n P) {x : Hm} (hx : x ∈ P) : P.held x.p = some x.ms := by
  unfold Rs.held
  cases hf : P.find? (fun h => h.p == x.p) with
  | none => exact absurd (List.find?_eq_none.1 hf x hx) (by simp)
  | some y =>
    have h1 := List.mem_of_find?_eq_some hf
    have h2 : y.p = x.p := by simpa using List.find?_some hf
    rw [h.one h1 hx h2]; rfl
theorem Rs.held_none {P : Rs} {p : Int} (h : P.has p = false) : P.held p = none := by
  unfold Rs.held
  rw [List.find?_eq_none.2 ?_]
  · rfl
  · intro x hx e
    have : P.has p = true := Rs.has_iff.2 ⟨x, hx, by simpa using e⟩
    rw [h] at this
    cases this
theorem Rs.held_has {P : Rs} {p : Int} {ms : List Int} (h : P.held p = some ms) : P.has p = true := by
  cases hh : P.has p with
  | true => rfl
  | false => rw [Rs.held_none hh] at h; cases h
/-- Rising numbers, alike but for their order, are alike. -/
theorem up_perm : ∀ (a b : List Int), a.Pairwise (· < ·) → b.Pairwise (· < ·) → a.Perm b → a = b := by
  intro a
  induction a with
  | nil => intro b _ _ h; exact h.symm.eq_nil.symm
  | cons x a ih =>
    intro b ha hb h
    cases b with
    | nil => exact absurd h.eq_nil (by simp)
    | cons y b =>
      rw [List.pairwise_cons] at ha hb
      have hxy : x = y := by
        have h1 : x ∈ y :: b := h.mem_iff.1 (by simp)
        have h2 : y ∈ x :: a := h.mem_iff.2 (by simp)
        rcases List.mem_cons.1 h1 with e | e
        · exact e
        · rcases List.mem_cons.1 h2 with e2 | e2
          · exact e2.symm
          · have := hb.1 x e; have := ha.1 y e2; omega
      subst hxy
      rw [ih b ha.2 hb.2 (List.Perm.cons_inv h)]
theorem Rs.Ok.holders_up {n : Nat} {P : Rs} (h : Rs.Ok n P) (m : Int) : (P.holders m).Pairwise (· < ·) := by
  unfold Rs.holders
  rw [List.pairwise_map]
  exact h.up.filter _
theorem holders_perm {P Q : Rs} (h : P.Perm Q) (m : Int) : (P.holders m).Perm (Q.holders m) := (h.filter _).map _
/-- One program more goes. -/
theorem filter_out (P : Rs) (ps : List Int) (p : Int) : (P.filter (outP ps)).filter (fun h => !decide (h.p = p)) = P.filter (outP (ps ++ [p])) := by
  rw [List.filter_filter]
  congr 1
  funext h
  unfold outP
  rw [Bool.eq_iff_iff]
  simp
  constructor
  · rintro ⟨h1, h2⟩; exact ⟨h2, h1⟩
  · rintro ⟨h1, h2⟩; exact ⟨h2, h1⟩
/-- Count: how many, and the error. -/
def cntH (n : Nat) (P : Rs) (x : Int) : Int × Int := if inM n x = true then ((P.holders x).length, 0) else (0, 2)
/-- Held: the maps, and whether it holds. -/
def heldL (P : Rs) (p : Int) : List Int × Bool := match P.held p with
  | some ms => (ms, true)
  | none => ([], false)
theorem holders_ins (h : Hm) (P : Rs) (x : Int) : (Rs.holders (insH h P) x).length = (P.holders x).length + if x ∈ h.ms then 1 else 0 := by
  have := (holders_perm (insH_perm h P) x).length_eq
  rw [this]
  unfold Rs.holders
  rw [List.filter_cons]
  by_cases hm : x ∈ h.ms
  · rw [if_pos (decide_eq_true hm), if_pos hm]; simp
  · rw [if_neg (fun e => hm (of_decide_eq_true e)), if_neg hm]; simp
theorem insH_has (h : Hm) (P : Rs) : Rs.has (insH h P) h.p = true := Rs.has_iff.2 ⟨h, insH_mem.2 (.inl rfl), rfl⟩
/-- What was put in is taken out. -/
theorem insH_out {h : Hm} {P : Rs} (hn : P.has h.p = false) : (insH h P).filter (outP [h.p]) = P := by
  have key : ∀ P : Rs, (∀ x ∈ P, x.p ≠ h.p) → (insH h P).filter (outP [h.p]) = P := by
    intro P
    induction P with
    | nil => intro _; simp [insH, outP]
    | cons x l ih =>
      intro hx
      have h1 : outP [h.p] x = true := by
        unfold outP
        have := hx x (by simp)
        simp [this]
      have h2 : outP [h.p] h = false := by unfold outP; simp
      have h3 : ∀ y ∈ l, outP [h.p] y = true := by
        intro y hy
        unfold outP
        have := hx y (by simp [hy])
        simp [this]
      unfold insH
      split
      · rw [List.filter_cons_of_neg (by rw [h2]; decide), List.filter_eq_self.2]
        intro y hy
        rcases List.mem_cons.1 hy with e | e
        · rw [e]; exact h1
        · exact h3 y e
      · rw [List.filter_cons_of_pos h1, ih (fun y hy => hx y (by simp [hy]))]
  refine key P (fun x hx e => ?_)
  have : P.has h.p = true := Rs.has_iff.2 ⟨x, hx, e⟩
  rw [hn] at this
  cases this
theorem filter_has (P : Rs) (p : Int) : Rs.has (P.filter (outP [p])) p = false := by
  cases hh : Rs.has (P.filter (outP [p])) p with
  | false => rfl
  | true =>
    obtain ⟨x, hx, e⟩ := Rs.has_iff.1 hh
    have h2 := (List.mem_filter.1 hx).2
    unfold outP at h2
    rw [e] at h2
    simp at h2
theorem Rs.drop_len {P P' : Rs} {ps : List Int} {E : Int} (h : Rs.drop P ps = (E, P')) : P'.length ≤ P.length := by
  unfold Rs.drop at h
  split at h
  · injection h with _ e; rw [← e]; exact Nat.le_refl _
  · split at h
    · injection h with _ e; rw [← e]; exact Nat.le_refl _
    · injection h with _ e; rw [← e]; exact List.length_filter_le _ _
theorem Rs.hold_len {n : Nat} {P P' : Rs} {p E : Int} {ms : List Int} (h : Rs.hold n P p ms = (E, P')) : P'.length ≤ P.length + 1 := by
  unfold Rs.hold at h
  split at h
  · injection h with _ e; rw [← e]; omega
  · split at h
    · injection h with _ e; rw [← e]; omega
    · injection h with _ e; rw [← e, (insH_perm _ _).length_eq]; simp
end Go.Proofs.Ytonbaklbbmmljaa
