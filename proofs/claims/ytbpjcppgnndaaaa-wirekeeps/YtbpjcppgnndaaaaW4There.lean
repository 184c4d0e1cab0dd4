/-
  There and back, for the parts of a module and the whole. No Go text in sight.
-/
import Derived.Test.YtbpjcppgnndaaaaW4Round
namespace Go.Proofs.Ytbpjcppgnndaaaa
open Go.RowKit
set_option linter.unusedVariables false

theorem good_local {α : Type} {F : List Int → Nat → Rd α} {F' : Nat → List Int → Nat → Rd α} {E : α → List Int} {P : α → Prop} (h : ∀ p0, Good (F' p0) E P) (he : ∀ ys p, p ≤ ys.length → F ys p = F' p ys p) : Good F E P := by
  refine ⟨?_, ?_, ?_⟩
  · intro ys p p' a hy hp hf
    rw [he ys p hp] at hf
    exact (h p).back ys p p' a hy hp hf
  · intro ys k p p' a hy hp hk hf
    rw [he ys p (by omega)] at hf
    rw [he (ys.take k) p (by rw [List.length_take]; omega)]
    exact (h p).short ys k p p' a hy hp hk hf
  · intro ys p q e hy hp hf
    rw [he ys p hp] at hf
    exact (h p).bad ys p q e hy hp hf
theorem good_never {α : Type} (p0 : Nat) (E : α → List Int) (P : α → Prop) : Good (fun ys p => (.error (((min p0 ys.length : Nat) : Int), 12) : Rd α)) E P := by
  refine ⟨?_, ?_, ?_⟩
  · intro ys p p' c hy hp hf
    cases hf
  · intro ys k p p' c hy hp hk hf
    cases hf
  · intro ys p q e hy hp hf
    injection hf with hf
    injection hf with h2 h3
    subst h2 h3
    exact ⟨by omega, by omega, by omega⟩
theorem good_here {α : Type} (a : α) (E : α → List Int) (P : α → Prop) (he : E a = []) (hp : P a) : Good (fun ys p => (.ok (a, p) : Rd α)) E P := by
  refine ⟨?_, ?_, ?_⟩
  · intro ys p p' c hy hp' hf
    injection hf with hf
    injection hf with h2 h3
    subst h2 h3
    exact ⟨Nat.le_refl _, hp', by rw [he]; rfl, hp⟩
  · intro ys k p p' c hy hp' hk hf
    injection hf with hf
    injection hf with h2 h3
    subst h2 h3
    exact ⟨fun _ => rfl, fun hh => absurd hh (by omega)⟩
  · intro ys p q e hy hp' hf
    cases hf
/-- Forth: what E lays is read. -/
def Forth {α : Type} (F : List Int → Nat → Rd α) (E : α → List Int) (P : α → Prop) : Prop := ∀ (ys : List Int) (p : Nat) (a : α) (rest : List Int), P a → ys.drop p = E a ++ rest → F ys p = .ok (a, p + (E a).length)
theorem drop_on {ys a rest : List Int} {p : Nat} (h : ys.drop p = a ++ rest) : ys.drop (p + a.length) = rest := by
  rw [← List.drop_drop, h, List.drop_left]
theorem Forth.then' {α β : Type} {F : List Int → Nat → Rd α} {G : α → List Int → Nat → Rd β} {E : α → List Int} {E' : α → β → List Int} {P : α → Prop} {Q : α → β → Prop} {E2 : β → List Int} {Q2 : β → Prop} (h : Forth F E P) (k : ∀ a, P a → Forth (G a) (E' a) (Q a)) (hE : ∀ b, Q2 b → ∃ a, P a ∧ Q a b ∧ E2 b = E a ++ E' a b) : Forth (fun ys p => (F ys p).then' fun a p => G a ys p) E2 Q2 := by
  intro ys p b rest hq hd
  obtain ⟨a, ha, hab, he⟩ := hE b hq
  rw [he, List.append_assoc] at hd
  have h1 := h ys p a _ ha hd
  have h2 := k a ha ys (p + (E a).length) b rest hab (drop_on hd)
  show (F ys p).then' _ = _
  rw [h1, he, List.length_append, ← Nat.add_assoc]
  exact h2
theorem numR_forth (most above : Int) : Forth (fun ys p => numR ys most above p) enc (fun n => 0 ≤ n ∧ n ≤ most ∧ n < 18446744073709551616) := by
  intro ys p n rest ⟨h0, h1, h2⟩ hd
  simp only [numR]
  rw [hd, getL_enc h0 h2, if_neg (by simp), if_neg (by simp; omega)]
  simp
theorem num_fwd (most above : Int) (ys : List Int) (p : Nat) (n : Int) (rest : List Int) (h : 0 ≤ n ∧ n ≤ most ∧ n < 18446744073709551616) (hd : ys.drop p = enc n ++ rest) : numR ys most above p = .ok (n, p + (enc n).length) := numR_forth most above ys p n rest h hd
theorem sgnR_forth : Forth sgnR (fun n => enc (foldI n)) (fun n => -9223372036854775808 ≤ n ∧ n ≤ 9223372036854775807) := by
  intro ys p n rest ⟨h0, h1⟩ hd
  have hb := fold_bd h0 h1
  rw [sgnR, hd, getL_enc hb.1 hb.2, if_neg (by simp)]
  simp [unfold_fold]

/-! ### An instruction -/
abbrev WfR (i : In) : Prop := i.right = true ∧ i.wf
/-- What is read behind four fields. -/
def instG (p0 : Nat) (op d a b : Int) (ys : List Int) (p : Nat) : Rd In := (sgnR ys p).then' fun imm p => if rightB op d a b imm = true then .ok (⟨op, d, a, b, imm⟩, p) else .error (((min p0 ys.length : Nat) : Int), 12)
theorem inst_wf' {op d a b imm : Int} (h : rightB op d a b imm = true) (h5 : -9223372036854775808 ≤ imm ∧ imm ≤ 9223372036854775807) : (⟨op, d, a, b, imm⟩ : In).wf := by
  obtain ⟨h1, h2, h3, h4⟩ := right_bd h
  have a' : ∀ n : Int, -9223372036854775808 ≤ n → n ≤ 9223372036854775807 → (Lit.int .i64 n).wf = true := fun n _ _ => WalkArith.wf_i64 (by omega)
  exact ⟨a' op (by omega) (by omega), a' d (by omega) (by omega), a' a (by omega) (by omega), a' b (by omega) (by omega), a' imm (by omega) (by omega)⟩
theorem instG_good (p0 : Nat) (op d a b : Int) : Good (instG p0 op d a b) (fun i => enc (foldI i.imm)) (fun i => WfR i ∧ i.op = op ∧ i.d = d ∧ i.a = a ∧ i.b = b) := by
  refine Good.then' (E' := fun _ _ => []) (Q := fun imm (i : In) => i = ⟨op, d, a, b, imm⟩ ∧ rightB op d a b imm = true) sgnR_good (fun imm hi => good_pure (rightB op d a b imm) _ p0 _ (fun h => ⟨rfl, h⟩)) ?_
  rintro imm i hi ⟨rfl, h⟩
  exact ⟨by simp, ⟨h, inst_wf' h hi⟩, rfl, rfl, rfl, rfl⟩
abbrev inn (most : Int) (n : Int) : Prop := 0 ≤ n ∧ n ≤ most ∧ n < 18446744073709551616
def instF (p0 : Nat) (ys : List Int) (p : Nat) : Rd In := (numR ys 22 12 p).then' fun op p => (numR ys 63 12 p).then' fun d p => (numR ys 63 12 p).then' fun a p => (numR ys 63 12 p).then' fun b p => instG p0 op d a b ys p
theorem instF_good (p0 : Nat) : Good (instF p0) instE WfR := by
  refine Good.then' (E' := fun _ i => encs [i.d, i.a, i.b] ++ enc (foldI i.imm)) (Q := fun op i => WfR i ∧ i.op = op) (numR_good 22 12 (by omega)) (fun op hop => ?_) ?_
  · refine Good.then' (E' := fun _ i => encs [i.a, i.b] ++ enc (foldI i.imm)) (Q := fun d i => WfR i ∧ i.op = op ∧ i.d = d) (numR_good 63 12 (by omega)) (fun d hd => ?_) ?_
    · refine Good.then' (E' := fun _ i => encs [i.b] ++ enc (foldI i.imm)) (Q := fun a i => WfR i ∧ i.op = op ∧ i.d = d ∧ i.a = a) (numR_good 63 12 (by omega)) (fun a ha => ?_) ?_
      · refine Good.then' (E' := fun _ i => enc (foldI i.imm)) (Q := fun b i => WfR i ∧ i.op = op ∧ i.d = d ∧ i.a = a ∧ i.b = b) (numR_good 63 12 (by omega)) (fun b hb => instG_good p0 op d a b) ?_
        rintro b i _ ⟨h, h1, h2, h3, rfl⟩
        exact ⟨by simp [encs], h, h1, h2, h3⟩
      · rintro a i _ ⟨h, h1, h2, rfl⟩
        exact ⟨by simp [encs], h, h1, h2⟩
    · rintro d i _ ⟨h, h1, rfl⟩
      exact ⟨by simp [encs], h, h1⟩
  · rintro op i _ ⟨h, rfl⟩
    exact ⟨by simp [instE, encs], h⟩
theorem inst_local (ys : List Int) (p : Nat) (hp : p ≤ ys.length) : instR ys p = instF p ys p := by
  unfold instR instF instG
  rw [Nat.min_eq_left hp]
theorem instR_good : Good instR instE WfR := good_local instF_good inst_local
theorem instR_forth : Forth instR instE WfR := by
  intro ys p i rest ⟨hr, hw⟩ hd
  have hbd := right_bd hr
  have him := bounds_i64 hw.2.2.2.2
  have e : instE i = enc i.op ++ (enc i.d ++ (enc i.a ++ (enc i.b ++ enc (foldI i.imm)))) := by simp [instE, encs]
  rw [e] at hd ⊢
  simp only [List.append_assoc] at hd
  have h1 := num_fwd 22 12 ys p i.op _ ⟨hbd.1.1, hbd.1.2, by omega⟩ hd
  have d1 := drop_on hd
  have h2 := num_fwd 63 12 ys _ i.d _ ⟨hbd.2.1.1, hbd.2.1.2, by omega⟩ d1
  have d2 := drop_on d1
  have h3 := num_fwd 63 12 ys _ i.a _ ⟨hbd.2.2.1.1, hbd.2.2.1.2, by omega⟩ d2
  have d3 := drop_on d2
  have h4 := num_fwd 63 12 ys _ i.b _ ⟨hbd.2.2.2.1, hbd.2.2.2.2, by omega⟩ d3
  have d4 := drop_on d3
  have h5 := sgnR_forth ys _ i.imm _ him d4
  unfold instR
  rw [h1]
  simp only [Rd.then']
  rw [h2]
  simp only
  rw [h3]
  simp only
  rw [h4]
  simp only
  rw [h5]
  simp only
  rw [if_pos (show rightB i.op i.d i.a i.b i.imm = true from hr)]
  simp only [List.length_append, Nat.add_assoc]

/-! ### Maps -/
theorem mapsR_good (k : Nat) : ∀ acc : List Int, Good (fun ys p => mapsR ys k acc p) (fun r => encs (r.drop acc.length)) (fun r => ∃ ms, r = acc ++ ms ∧ ms.length = k ∧ fitF acc ms = true) := by
  induction k with
  | zero =>
    intro acc
    exact good_here acc _ _ (by simp [encs]) ⟨[], by simp, rfl, rfl⟩
  | succ k ih =>
    intro acc
    refine good_local (F' := fun p0 ys p => (numR ys 3 12 p).then' fun n p' => if n ∈ acc then .error (((min p0 ys.length : Nat) : Int), 12) else mapsR ys k (acc ++ [n]) p') (fun p0 => ?_) (fun ys p hp => by rw [mapsR, Nat.min_eq_left hp])
    refine Good.then' (E' := fun n r => encs (r.drop (acc ++ [n]).length)) (Q := fun n r => ¬ n ∈ acc ∧ ∃ ms, r = (acc ++ [n]) ++ ms ∧ ms.length = k ∧ fitF (acc ++ [n]) ms = true) (numR_good 3 12 (by omega)) (fun n hn => ?_) ?_
    · by_cases hm : n ∈ acc
      · simp only [if_pos hm]
        exact good_never p0 _ _
      · simp only [if_neg hm]
        have h := ih (acc ++ [n])
        exact ⟨fun ys p p' a hy hp hf => by
          obtain ⟨a1, a2, a3, a4⟩ := h.back ys p p' a hy hp hf
          exact ⟨a1, a2, a3, hm, a4⟩, h.short, h.bad⟩
    · rintro n r ⟨h0, h3, _⟩ ⟨hm, ms, rfl, hl, hf⟩
      refine ⟨by simp [encs], n :: ms, by simp, by simp [hl], ?_⟩
      rw [fitF]
      simp [h0, h3, hm, hf]
theorem mapsR_forth : ∀ (ms acc : List Int), fitF acc ms = true → ∀ (ys : List Int) (p : Nat) (rest : List Int), ys.drop p = encs ms ++ rest → mapsR ys ms.length acc p = .ok (acc ++ ms, p + (encs ms).length)
  | [], acc, _, ys, p, rest, _ => by simp [mapsR, encs]
  | n :: ms, acc, hf, ys, p, rest, hd => by
    rw [fitF] at hf
    simp only [Bool.and_eq_true, decide_eq_true_eq, Bool.not_eq_true', decide_eq_false_iff_not] at hf
    rw [encs_cons, List.append_assoc] at hd
    have h1 := num_fwd 3 12 ys p n _ ⟨hf.1, hf.2.1, by omega⟩ hd
    have h2 := mapsR_forth ms (acc ++ [n]) hf.2.2.2 ys _ rest (drop_on hd)
    rw [List.length_cons, mapsR, h1]
    simp only [Rd.then']
    rw [if_neg hf.2.2.1, h2, encs_cons, List.length_append, Nat.add_assoc, List.append_assoc]
    rfl
theorem mapsA_good : Good mapsA (fun ms => enc ms.length ++ encs ms) (fun ms => ms.length ≤ 4 ∧ fitF [] ms = true) := by
  refine Good.then' (E' := fun n r => encs (r.drop ([] : List Int).length)) (Q := fun n r => ∃ ms, r = [] ++ ms ∧ ms.length = n.toNat ∧ fitF [] ms = true) (numR_good 4 11 (by omega)) (fun n hn => mapsR_good n.toNat []) ?_
  rintro n r ⟨h0, h4, _⟩ ⟨ms, rfl, hl, hf⟩
  have e : (r.length : Int) = n := by omega
  exact ⟨by rw [e]; simp, by omega, hf⟩
theorem mapsA_forth : Forth mapsA (fun ms => enc ms.length ++ encs ms) (fun ms => ms.length ≤ 4 ∧ fitF [] ms = true) := by
  intro ys p ms rest ⟨hl, hf⟩ hd
  rw [List.append_assoc] at hd
  have h1 := num_fwd 4 11 ys p ms.length _ ⟨by omega, by omega, by omega⟩ hd
  have h2 := mapsR_forth ms [] hf ys _ rest (drop_on hd)
  rw [mapsA, h1]
  simp only [Rd.then', Int.toNat_natCast]
  rw [h2, List.length_append, Nat.add_assoc]
  rfl

/-! ### Code -/
theorem codeR_good (k : Nat) : ∀ acc : List In, Good (fun ys p => codeR ys k acc p) (fun r => codeE (r.drop acc.length)) (fun r => ∃ is, r = acc ++ is ∧ is.length = k ∧ ∀ i ∈ is, WfR i) := by
  induction k with
  | zero =>
    intro acc
    exact good_here acc _ _ (by simp [codeE]) ⟨[], by simp, rfl, by simp⟩
  | succ k ih =>
    intro acc
    refine Good.then' (F := instR) (G := fun i ys p => codeR ys k (acc ++ [i]) p) (E' := fun i r => codeE (r.drop (acc ++ [i]).length)) (Q := fun i r => ∃ is, r = (acc ++ [i]) ++ is ∧ is.length = k ∧ ∀ i ∈ is, WfR i) instR_good (fun i hi => ih (acc ++ [i])) ?_
    rintro i r hi ⟨is, rfl, hl, hf⟩
    refine ⟨by simp [codeE], i :: is, by simp, by simp [hl], ?_⟩
    intro j hj
    rcases List.mem_cons.1 hj with rfl | hj
    · exact hi
    · exact hf j hj
theorem codeR_forth : ∀ (is acc : List In), (∀ i ∈ is, WfR i) → ∀ (ys : List Int) (p : Nat) (rest : List Int), ys.drop p = codeE is ++ rest → codeR ys is.length acc p = .ok (acc ++ is, p + (codeE is).length)
  | [], acc, _, ys, p, rest, _ => by simp [codeR, codeE]
  | i :: is, acc, hf, ys, p, rest, hd => by
    have e : codeE (i :: is) = instE i ++ codeE is := rfl
    rw [e, List.append_assoc] at hd
    have h1 := instR_forth ys p i _ (hf i (by simp)) hd
    have h2 := codeR_forth is (acc ++ [i]) (fun j hj => hf j (by simp [hj])) ys _ rest (drop_on hd)
    rw [List.length_cons, codeR, h1]
    simp only [Rd.then']
    rw [h2, e, List.length_append, Nat.add_assoc, List.append_assoc]
    rfl
abbrev CodeP (is : List In) : Prop := 1 ≤ is.length ∧ is.length ≤ 64 ∧ ∀ i ∈ is, WfR i
theorem codeA_good : Good codeA (fun is => enc is.length ++ codeE is) CodeP := by
  refine good_local (F' := fun p0 ys p => (numR ys 64 11 p).then' fun n p' => if n = 0 then .error (((min p0 ys.length : Nat) : Int), 12) else codeR ys n.toNat [] p') (fun p0 => ?_) (fun ys p hp => by rw [codeA, Nat.min_eq_left hp])
  refine Good.then' (E' := fun n r => codeE (r.drop ([] : List In).length)) (Q := fun n r => n ≠ 0 ∧ ∃ is, r = [] ++ is ∧ is.length = n.toNat ∧ ∀ i ∈ is, WfR i) (numR_good 64 11 (by omega)) (fun n hn => ?_) ?_
  · by_cases hm : n = 0
    · simp only [if_pos hm]
      exact good_never p0 _ _
    · simp only [if_neg hm]
      have h := codeR_good n.toNat []
      exact ⟨fun ys p p' a hy hp hf => by
        obtain ⟨a1, a2, a3, a4⟩ := h.back ys p p' a hy hp hf
        exact ⟨a1, a2, a3, hm, a4⟩, h.short, h.bad⟩
  · rintro n r ⟨h0, h4, _⟩ ⟨hm, is, rfl, hl, hf⟩
    have e : (r.length : Int) = n := by omega
    exact ⟨by rw [e]; simp, by omega, by omega, hf⟩
theorem codeA_forth : Forth codeA (fun is => enc is.length ++ codeE is) CodeP := by
  intro ys p is rest ⟨h1, hl, hf⟩ hd
  rw [List.append_assoc] at hd
  have h1 := num_fwd 64 11 ys p is.length _ ⟨by omega, by omega, by omega⟩ hd
  have h2 := codeR_forth is [] hf ys _ rest (drop_on hd)
  rw [codeA, h1]
  simp only [Rd.then', Int.toNat_natCast]
  rw [if_neg (by omega), h2, List.length_append, Nat.add_assoc]
  rfl

/-! ### The whole -/
/-- Maps and code, behind the head. -/
def bodyR (ys : List Int) (p : Nat) : Rd (List Int × List In) := (mapsA ys p).then' fun ms p => (codeA ys p).then' fun is p => .ok ((ms, is), p)
abbrev bodyE (m : List Int × List In) : List Int := (enc m.1.length ++ encs m.1) ++ (enc m.2.length ++ codeE m.2)
abbrev BodyP (m : List Int × List In) : Prop := formedB m.1 m.2 = true ∧ ∀ i ∈ m.2, i.wf
theorem body_formed {ms : List Int} {is : List In} (h1 : ms.length ≤ 4 ∧ fitF [] ms = true) (h2 : CodeP is) : BodyP (ms, is) :=
  ⟨formed_mk h1.1 h2.1 h2.2.1 h1.2 (List.all_eq_true.2 fun i hi => (h2.2.2 i hi).1), fun i hi => (h2.2.2 i hi).2⟩
theorem bodyR_good : Good bodyR bodyE BodyP := by
  refine Good.then' (E' := fun ms m => enc m.2.length ++ codeE m.2) (Q := fun ms (m : List Int × List In) => m.1 = ms ∧ CodeP m.2) mapsA_good (fun ms hms => ?_) ?_
  · refine Good.then' (E' := fun _ _ => []) (Q := fun is (m : List Int × List In) => m = (ms, is)) codeA_good (fun is his => good_here (ms, is) _ _ rfl rfl) ?_
    rintro is m his rfl
    exact ⟨by simp, rfl, his⟩
  · rintro ms ⟨ms', is⟩ hms ⟨rfl, his⟩
    exact ⟨rfl, body_formed hms his⟩
theorem bodyR_forth : Forth bodyR bodyE BodyP := by
  rintro ys p ⟨ms, is⟩ rest ⟨hf, hw⟩ hd
  obtain ⟨f1, f2, f3, f4, f5⟩ := formed_parts hf
  rw [List.append_assoc] at hd
  have h1 := mapsA_forth ys p ms _ ⟨f1, f4⟩ hd
  have h2 := codeA_forth ys _ is _ ⟨f2, f3, fun i hi => ⟨f5 i hi, hw i hi⟩⟩ (drop_on hd)
  rw [bodyR, h1]
  simp only [Rd.then']
  rw [h2]
  simp only [List.length_append, Nat.add_assoc]
theorem modE_body (ms : List Int) (is : List In) : modE ms is = 84 :: 80 :: 1 :: bodyE (ms, is) := by simp [modE, bodyE]
theorem decR_body (ys : List Int) : decR ys = (headR ys 3 0).then' fun _ p => (bodyR ys p).then' fun m p => (endR ys p).then' fun _ p => .ok (m, p) := by
  unfold decR bodyR
  cases headR ys 3 0 with
  | error x => rfl
  | ok y =>
    obtain ⟨u, p⟩ := y
    simp only [Rd.then']
    cases mapsA ys p with
    | error x => rfl
    | ok z =>
      obtain ⟨ms, p2⟩ := z
      simp only
      cases codeA ys p2 with
      | error x => rfl
      | ok t => rfl
theorem head_ok (r : List Int) : headR (84 :: 80 :: 1 :: r) 3 0 = .ok ((), 3) := by simp [headR, headB]
theorem head_is : ∀ (ys : List Int) (u : Unit) (p : Nat), headR ys 3 0 = .ok (u, p) → p = 3 ∧ ∃ r, ys = 84 :: 80 :: 1 :: r
  | [], u, p, h => by simp [headR] at h
  | [a], u, p, h => by
    by_cases ha : a = 84
    · subst ha; simp [headR, headB] at h
    · simp [headR, headB, ha] at h
  | [a, b], u, p, h => by
    by_cases ha : a = 84
    · subst ha
      by_cases hb : b = 80
      · subst hb; simp [headR, headB] at h
      · simp [headR, headB, hb] at h
    · simp [headR, headB, ha] at h
  | a :: b :: c :: r, u, p, h => by
    by_cases ha : a = 84
    · subst ha
      by_cases hb : b = 80
      · subst hb
        by_cases hc : c = 1
        · subst hc
          simp [headR, headB] at h
          exact ⟨h.symm, r, rfl⟩
        · simp [headR, headB, hc] at h
      · simp [headR, headB, hb] at h
    · simp [headR, headB, ha] at h
theorem head_bad : ∀ (ys : List Int) (q e : Int), headR ys 3 0 = .error (q, e) → 0 ≤ q ∧ q ≤ ys.length ∧ e ≠ 0
  | [], q, e, h => by simp [headR] at h; obtain ⟨rfl, rfl⟩ := h; simp
  | [a], q, e, h => by
    by_cases ha : a = 84
    · subst ha; simp [headR, headB] at h; obtain ⟨rfl, rfl⟩ := h; simp
    · simp [headR, headB, ha] at h; obtain ⟨rfl, rfl⟩ := h; simp
  | [a, b], q, e, h => by
    by_cases ha : a = 84
    · subst ha
      by_cases hb : b = 80
      · subst hb; simp [headR, headB] at h; obtain ⟨rfl, rfl⟩ := h; simp
      · simp [headR, headB, hb] at h; obtain ⟨rfl, rfl⟩ := h; simp
    · simp [headR, headB, ha] at h; obtain ⟨rfl, rfl⟩ := h; simp
  | a :: b :: c :: r, q, e, h => by
    by_cases ha : a = 84
    · subst ha
      by_cases hb : b = 80
      · subst hb
        by_cases hc : c = 1
        · subst hc
          simp [headR, headB] at h
        · simp [headR, headB, hc] at h; obtain ⟨rfl, rfl⟩ := h; simp; omega
      · simp [headR, headB, hb] at h; obtain ⟨rfl, rfl⟩ := h; simp; omega
    · simp [headR, headB, ha] at h; obtain ⟨rfl, rfl⟩ := h; simp; omega
theorem drop3 (r : List Int) : (84 :: 80 :: 1 :: r).drop 3 = r := rfl
theorem end_here {ys : List Int} {p : Nat} (h : p = ys.length) : endR ys p = .ok ((), p) := by rw [endR, if_neg (by omega)]
/-- The bytes of a module, with more behind them. -/
theorem dec_more {ms : List Int} {is : List In} (hf : formedB ms is = true) (hw : ∀ i ∈ is, i.wf) (more : List Int) : decR (modE ms is ++ more) = if more = [] then .ok ((ms, is), (modE ms is).length) else .error (((modE ms is).length : Int), 13) := by
  have hd : (modE ms is ++ more).drop 3 = bodyE (ms, is) ++ more := by rw [modE_body]; rfl
  have hh : headR (modE ms is ++ more) 3 0 = .ok ((), 3) := by rw [modE_body]; exact head_ok _
  have hb := bodyR_forth (modE ms is ++ more) 3 (ms, is) more ⟨hf, hw⟩ hd
  have hl : 3 + (bodyE (ms, is)).length = (modE ms is).length := by rw [modE_body]; simp; omega
  rw [hl] at hb
  rw [decR_body, hh]
  simp only [Rd.then']
  rw [hb]
  simp only
  by_cases hm : more = []
  · subst hm
    rw [if_pos rfl, end_here (by simp)]
  · rw [if_neg hm, endR, if_pos (by
      have : 0 < more.length := List.length_pos_iff.2 hm
      rw [List.length_append]; omega)]
theorem dec_there {ms : List Int} {is : List In} (hf : formedB ms is = true) (hw : ∀ i ∈ is, i.wf) : decL (modE ms is) = ((ms, is), 0, 0) := by
  have h := dec_more hf hw []
  rw [List.append_nil, if_pos rfl] at h
  unfold decL; rw [h]
theorem dec_trail {ms : List Int} {is : List In} (hf : formedB ms is = true) (hw : ∀ i ∈ is, i.wf) (x : Int) : decL (modE ms is ++ [x]) = (([], []), ((modE ms is).length : Int), 13) := by
  have h := dec_more hf hw [x]
  rw [if_neg (by simp)] at h
  unfold decL; rw [h]
/-- What is taken: a well-formed module, and just its bytes. -/
theorem dec_back {ys : List Int} (hy : Bytes ys) {m : List Int × List In} {p : Nat} (h : decR ys = .ok (m, p)) : BodyP m ∧ modE m.1 m.2 = ys := by
  rw [decR_body] at h
  cases hh : headR ys 3 0 with
  | error x => rw [hh] at h; cases h
  | ok y =>
    obtain ⟨u, p0⟩ := y
    obtain ⟨rfl, r, rfl⟩ := head_is ys u p0 hh
    rw [hh] at h
    simp only [Rd.then'] at h
    cases hb : bodyR (84 :: 80 :: 1 :: r) 3 with
    | error x => rw [hb] at h; cases h
    | ok z =>
      obtain ⟨m', p1⟩ := z
      rw [hb] at h
      simp only at h
      obtain ⟨b1, b2, b3, b4⟩ := bodyR_good.back _ 3 p1 m' hy (by simp) hb
      by_cases hp : p1 < (84 :: 80 :: 1 :: r).length
      · rw [endR, if_pos hp] at h; cases h
      · rw [endR, if_neg hp] at h
        simp only at h
        injection h with h
        injection h with h1 h2
        subst h1
        refine ⟨b4, ?_⟩
        have e : (84 :: 80 :: 1 :: r).drop p1 = [] := List.drop_eq_nil_of_le (by omega)
        rw [e, List.append_nil, drop3] at b3
        rw [b3, modE_body]
theorem dec_err {ys : List Int} (hy : Bytes ys) {q e : Int} (h : decR ys = .error (q, e)) : 0 ≤ q ∧ q ≤ ys.length ∧ e ≠ 0 := by
  rw [decR_body] at h
  cases hh : headR ys 3 0 with
  | error x =>
    rw [hh] at h
    have h : (.error x : Rd (List Int × List In)) = .error (q, e) := h
    injection h with h
    subst h
    exact head_bad ys q e hh
  | ok y =>
    obtain ⟨u, p0⟩ := y
    obtain ⟨rfl, r, rfl⟩ := head_is ys u p0 hh
    rw [hh] at h
    simp only [Rd.then'] at h
    cases hb : bodyR (84 :: 80 :: 1 :: r) 3 with
    | error x =>
      rw [hb] at h
      have h : (.error x : Rd (List Int × List In)) = .error (q, e) := h
      injection h with h
      subst h
      exact bodyR_good.bad _ 3 q e hy (by simp) hb
    | ok z =>
      obtain ⟨m', p1⟩ := z
      rw [hb] at h
      simp only at h
      obtain ⟨b1, b2, b3, b4⟩ := bodyR_good.back _ 3 p1 m' hy (by simp) hb
      by_cases hp : p1 < (84 :: 80 :: 1 :: r).length
      · rw [endR, if_pos hp] at h
        injection h with h
        injection h with h1 h2
        subst h1 h2
        exact ⟨by omega, by omega, by omega⟩
      · rw [endR, if_neg hp] at h; cases h
/-- No beginning of a module's bytes is taken. -/
theorem dec_short {ms : List Int} {is : List In} (hf : formedB ms is = true) (hw : ∀ i ∈ is, i.wf) (k : Nat) (hk : k < (modE ms is).length) : ∃ q : Nat, decL ((modE ms is).take k) = (([], []), (q : Int), 10) ∧ q ≤ k := by
  have hy : Bytes (modE ms is) := modE_byte hf hw
  have key : ∃ q : Nat, decR ((modE ms is).take k) = .error ((q : Int), 10) ∧ q ≤ k := by
    have hd : (modE ms is).drop 3 = bodyE (ms, is) ++ [] := by rw [modE_body, List.append_nil]; rfl
    have hb := bodyR_forth (modE ms is) 3 (ms, is) [] ⟨hf, hw⟩ hd
    have hl : 3 + (bodyE (ms, is)).length = (modE ms is).length := by rw [modE_body]; simp; omega
    rw [hl] at hb
    by_cases h3 : 3 ≤ k
    · have hh : headR ((modE ms is).take k) 3 0 = .ok ((), 3) := by
        obtain ⟨j, rfl⟩ : ∃ j, k = j + 3 := ⟨k - 3, by omega⟩
        rw [modE_body]
        simp only [List.take_succ_cons]
        exact head_ok _
      obtain ⟨q, hq, hqk⟩ := (bodyR_good.short _ k 3 _ _ hy h3 (by omega) hb).2 hk
      refine ⟨q, ?_, hqk⟩
      rw [decR_body, hh]
      simp only [Rd.then']
      rw [hq]
    · refine ⟨k, ?_, Nat.le_refl _⟩
      rw [decR_body, modE_body]
      have hc : k = 0 ∨ k = 1 ∨ k = 2 := by omega
      rcases hc with rfl | rfl | rfl
      · simp [headR, Rd.then']
      · simp [headR, headB, Rd.then']
      · simp [headR, headB, Rd.then']
  obtain ⟨q, hq, hqk⟩ := key
  exact ⟨q, by unfold decL; rw [hq], hqk⟩
/-- Of any bytes: an error, no module, a place within them; or a module whose bytes they are. -/
theorem dec_two {ys : List Int} (hy : Bytes ys) : (∃ q e : Int, decL ys = (([], []), q, e) ∧ 0 ≤ q ∧ q ≤ ys.length ∧ e ≠ 0) ∨ ∃ ms is, decL ys = ((ms, is), 0, 0) ∧ formedB ms is = true ∧ (∀ i ∈ is, i.wf) ∧ modE ms is = ys := by
  cases h : decR ys with
  | error x =>
    obtain ⟨q, e⟩ := x
    have hb := dec_err hy h
    exact .inl ⟨q, e, by unfold decL; rw [h], hb⟩
  | ok y =>
    obtain ⟨⟨ms, is⟩, p⟩ := y
    obtain ⟨⟨h1, h2⟩, h3⟩ := dec_back hy h
    exact .inr ⟨ms, is, by unfold decL; rw [h], h1, h2, h3⟩
end Go.Proofs.Ytbpjcppgnndaaaa
