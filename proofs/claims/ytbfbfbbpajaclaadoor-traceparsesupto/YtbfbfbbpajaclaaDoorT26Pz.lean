
/-
  Layer 26, landed, plain: an entry whose line's fields are emptied bears nothing but its mark just where it is plain. No Go text in sight.
-/
import Derived.Test.YtbfbfbbpajaclaaDoorT26Lo
import Derived.Test.YtbfbfbbpajaclaaDoorT26Eq
namespace Go.Proofs.YtbfbfbbpajaclaaDoor
open Go.RowKit
set_option linter.unusedVariables false
set_option linter.unusedSimpArgs false
set_option maxRecDepth 100000
/-- Fields emptied. -/
def zE (e : En) (f : List UInt8) : En := f.foldl (fun e c => putE e c.toNat 0 0) e
theorem zE_snoc (e : En) (f : List UInt8) (c : UInt8) : zE e (f ++ [c]) = putE (zE e f) c.toNat 0 0 := by unfold zE; rw [List.foldl_append]; rfl
theorem zE_wh (e : En) (f : List UInt8) : (zE e f).wh = e.wh := by
  induction f generalizing e with
  | nil => rfl
  | cons c f ih => show (zE (putE e c.toNat 0 0) f).wh = _; rw [ih, put_wh]
theorem zE_ou (e : En) (f : List UInt8) : (zE e f).ou = e.ou := by
  induction f generalizing e with
  | nil => rfl
  | cons c f ih => show (zE (putE e c.toNat 0 0) f).ou = _; rw [ih, put_ou]
theorem zero_put (e : En) (m : Int) (o : Bool) {c : UInt8} (hc : c ∈ allL) : Eq26 (putE e c.toNat 0 0) (startM m o) c := by
  cases hu : (unE e c.toNat).2 with
  | true =>
    refine ⟨?_, fun h => by rw [un_snd (startM m o) e] at h; rw [hu] at h; cases h⟩
    rw [put_un e 0 0 hc hu]
    exact Prod.ext (start_un m o c.toNat).symm (by rw [un_snd (startM m o) e, hu])
  | false =>
    obtain ⟨p1, p2⟩ := put_sg e 0 0 hc hu (fun _ => .inl rfl)
    refine ⟨?_, fun _ => by rw [p2, start_sg]⟩
    rw [p1]
    exact (un_no (by rw [un_snd (startM m o) e, hu])).symm
theorem zE_field : ∀ (f : List UInt8) (e : En) (m : Int) (o : Bool), (∀ c ∈ f, c ∈ allL) → ∀ c ∈ allL, (c ∈ f → Eq26 (zE e f) (startM m o) c) ∧ (c ∉ f → Eq26 (zE e f) e c)
  | [], e, m, o, _, c, _ => ⟨(fun h => by cases h), fun _ => Eq26.rfl' e c⟩
  | d :: f, e, m, o, hf, c, hc => by
    have hd := hf d (by simp)
    obtain ⟨a1, a2⟩ := zE_field f (putE e d.toNat 0 0) m o (fun x hx => hf x (by simp [hx])) c hc
    by_cases hcf : c ∈ f
    · exact ⟨fun _ => a1 hcf, fun h => absurd (List.mem_cons_of_mem _ hcf) h⟩
    · by_cases hcd : c = d
      · subst hcd
        exact ⟨fun _ => (a2 hcf).trans (zero_put e m o hd), fun h => absurd (by simp) h⟩
      · refine ⟨fun h => ?_, fun _ => (a2 hcf).trans (put_other e 0 0 hc hd hcd)⟩
        rcases List.mem_cons.1 h with g | g
        · exact absurd g hcd
        · exact absurd g hcf
theorem ltr_ne {e : En} (h : ltrE e ≠ []) : 1 ≤ e.wh ∧ e.wh ≤ 17 := by
  unfold ltrE at h
  split at h
  · assumption
  · exact absurd rfl h
theorem fld_ne : ∀ (k : Fin 17) (o : Bool), fldL ((k.val : Int) + 1) o ≠ [] := by decide +kernel
theorem ltr_mark {e : En} (hm : 1 ≤ e.wh ∧ e.wh ≤ 17) : ltrE e ≠ [] := by
  unfold ltrE
  rw [if_pos hm]
  have := fld_ne ⟨(e.wh - 1).toNat, by omega⟩ e.ou
  rwa [show (((e.wh - 1).toNat : Nat) : Int) + 1 = e.wh by omega] at this
/-- Is the entry with its line's fields emptied, and without Out where the line tells it, one of nothing but its mark? -/
def dryE (e : En) : En := if Lib.hasSuffix (ltrE e) [79, 86] = true then { zE e (ltrE e) with ou := false } else zE e (ltrE e)
theorem eq_zero {a : En} {m : Int} {o : Bool} {c : UInt8} (h : Eq26 a (startM m o) c) : (if (unE a c.toNat).2 = true then (unE a c.toNat).1 == 0 else sgE a c.toNat == 0) = true := by
  cases hu : (unE a c.toNat).2 with
  | true => rw [if_pos rfl, h.1, start_un]; rfl
  | false => rw [if_neg (by decide), h.2 (by rw [un_snd (startM m o) a, hu]), start_sg]; rfl
theorem zero_eq {a : En} (m : Int) (o : Bool) {c : UInt8} (h : (if (unE a c.toNat).2 = true then (unE a c.toNat).1 == 0 else sgE a c.toNat == 0) = true) : Eq26 a (startM m o) c := by
  cases hu : (unE a c.toNat).2 with
  | true =>
    rw [if_pos hu] at h
    refine ⟨Prod.ext ?_ (un_snd _ _ _), fun h' => by rw [un_snd (startM m o) a, hu] at h'; cases h'⟩
    rw [start_un]; simpa using h
  | false =>
    rw [if_neg (by rw [hu]; decide)] at h
    refine ⟨?_, fun _ => by rw [start_sg]; simpa using h⟩
    rw [un_no hu]
    exact (un_no (by rw [un_snd (startM m o) a, hu])).symm
theorem ou_apart (a : En) (o : Bool) (c : UInt8) : Eq26 { a with ou := o } a c := ⟨rfl, fun _ => rfl⟩
theorem plain_iff (e : En) : plainE e = (!(ltrE e).isEmpty && eqZ (dryE e)) := by
  by_cases hm : 1 ≤ e.wh ∧ e.wh ≤ 17
  · have hL : ltrE e = fldL e.wh e.ou := by unfold ltrE; rw [if_pos hm]
    have hne := ltr_mark hm
    have hie : (ltrE e).isEmpty = false := by simpa using hne
    rw [hie, Bool.not_false, Bool.true_and]
    have hmem : ∀ c ∈ ltrE e, c ∈ allL := fun c hc => (ltrE_mem hc).1
    have hsuf := suf_ltr e
    have hwh : (dryE e).wh = e.wh := by unfold dryE; split <;> exact zE_wh _ _
    have hou : (dryE e).ou = (e.ou && !(e.ou && inL26 (ltrE e) 121)) := by
      unfold dryE
      rw [hsuf]
      cases h : (e.ou && inL26 (ltrE e) 121) with
      | true => simp
      | false => simp [zE_ou]
    have hdr : ∀ c, Eq26 (dryE e) (zE e (ltrE e)) c := fun c => by
      unfold dryE
      split
      · exact ou_apart _ _ _
      · exact Eq26.rfl' _ _
    have hsym : ∀ {a b : En} {c : UInt8}, Eq26 a b c → Eq26 b a c := fun {a b c} h => ⟨h.1.symm, fun g => (h.2 (by rw [un_snd b a]; exact g)).symm⟩
    rw [Bool.eq_iff_iff, eqZ_iff, hwh]
    unfold plainE
    rw [Bool.and_eq_true, Bool.and_eq_true]
    constructor
    · rintro ⟨⟨_, hz⟩, ho⟩
      refine en_ext hwh ?_ (fun c hc => (hdr c).trans ?_)
      · show (dryE e).ou = false
        rw [hou, hL]
        cases h1 : e.ou with
        | false => rfl
        | true => rw [h1] at ho; simp at ho; simp [ho]
      · obtain ⟨a1, a2⟩ := zE_field (ltrE e) e e.wh false hmem c hc
        by_cases hcf : c ∈ ltrE e
        · exact a1 hcf
        · refine (a2 hcf).trans (zero_eq e.wh false ?_)
          have := List.all_eq_true.1 hz c hc
          unfold zeroE at this
          rw [← hL] at this
          rw [Bool.or_eq_true] at this
          rcases this with g | g
          · exact absurd (inL_iff.1 g) hcf
          · exact g
    · intro h
      refine ⟨⟨decide_eq_true hm, List.all_eq_true.2 (fun c hc => ?_)⟩, ?_⟩
      · unfold zeroE
        rw [← hL]
        by_cases hcf : c ∈ ltrE e
        · rw [inL_iff.2 hcf]; rfl
        · obtain ⟨a1, a2⟩ := zE_field (ltrE e) e e.wh false hmem c hc
          have h3 : Eq26 e (startM e.wh false) c := (hsym (a2 hcf)).trans ((hsym (hdr c)).trans (by rw [h]; exact Eq26.rfl' _ _))
          rw [eq_zero h3, Bool.or_true]
      · have h4 : (dryE e).ou = false := by rw [h]; rfl
        rw [hou, hL] at h4
        cases h1 : e.ou with
        | false => rfl
        | true => rw [h1] at h4; simp at h4; simp [h4]
  · have hL : ltrE e = [] := by unfold ltrE; rw [if_neg hm]
    rw [hL]
    unfold plainE
    rw [decide_eq_false hm]
    rfl
end Go.Proofs.YtbfbfbbpajaclaaDoor
