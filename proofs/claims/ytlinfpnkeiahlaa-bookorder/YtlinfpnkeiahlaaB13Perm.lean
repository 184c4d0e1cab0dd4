
/-
  Puts of unlike keys, in whatever order. No Go text in sight.
-/
import Derived.Test.YtlinfpnkeiahlaaB13LTail
import Derived.Test.YtlinfpnkeiahlaaB13Alg
namespace Go.Proofs.Ytlinfpnkeiahlaa
set_option linter.unusedVariables false
set_option linter.unusedSimpArgs false

/-- Unlike keys. -/
def Dis (F : List Pp) : Prop := F.Pairwise (fun p q => p.k ≠ q.k)
theorem srt_perm : ∀ {A B : List Pp}, Srt A → Srt B → A.Perm B → A = B := by
  intro A
  induction A with
  | nil => intro B _ _ h; exact (List.Perm.nil_eq h)
  | cons p l ih =>
    intro B hA hB h
    cases B with
    | nil => exact absurd h.length_eq (by simp)
    | cons q m =>
      obtain ⟨p1, p2⟩ := List.pairwise_cons.1 hA
      obtain ⟨q1, q2⟩ := List.pairwise_cons.1 hB
      have hp : p ∈ q :: m := h.mem_iff.1 (by simp)
      have hq : q ∈ p :: l := h.mem_iff.2 (by simp)
      have e : p = q := by
        rcases List.mem_cons.1 hp with g | g
        · exact g
        · rcases List.mem_cons.1 hq with g' | g'
          · exact g'.symm
          · have a1 := q1 p g
            have a2 := p1 q g'
            omega
      subst e
      rw [ih p2 q2 h.cons_inv]
/-- A new key is put, and put again. -/
theorem put_new {cap : Nat} {L : List Pp} {k : Int} (h : Srt L) (hk : ∀ q ∈ L, q.k ≠ k) (hl : L.length < cap) (v : Int) : ∃ M, doS cap L 2 k v = (⟨0, false, 0⟩, M) ∧ Srt M ∧ M.Perm (⟨k, v⟩ :: L) ∧ ∀ v', ∃ M', (doS cap M 2 k v').2 = M' ∧ Srt M' ∧ M'.Perm (⟨k, v'⟩ :: L) := by
  obtain ⟨A, D, hA, hD, hs, hL⟩ := srt_part h k
  rcases hL with rfl | ⟨x, rfl⟩
  · refine ⟨A ++ ⟨k, v⟩ :: D, ?_, srt_mid hA hD hs v, List.perm_middle, fun v' => ⟨A ++ ⟨k, v'⟩ :: D, ?_, srt_mid hA hD hs v', List.perm_middle⟩⟩
    · rw [do_put, had_no hA hD, set_new hA hD _ _ hl]
    · rw [do_put, had_yes hA hD, set_yes hA hD]
  · exact absurd rfl (hk ⟨k, x⟩ (by simp))
theorem fill_new {cap : Nat} (F : List Pp) : ∀ {L : List Pp}, Srt L → Dis F → (∀ p ∈ F, ∀ q ∈ L, q.k ≠ p.k) → L.length + F.length ≤ cap → (fillS cap L F).1 = F.length ∧ Srt (fillS cap L F).2 ∧ (fillS cap L F).2.Perm (L ++ F) := by
  induction F with
  | nil => intro L h _ _ _; exact ⟨rfl, h, by rw [List.append_nil]; exact List.Perm.refl _⟩
  | cons p ps ih =>
    intro L h hd hk hl
    obtain ⟨d1, d2⟩ := List.pairwise_cons.1 hd
    simp only [List.length_cons] at hl
    obtain ⟨M, e1, e2, e3, _⟩ := put_new (cap := cap) h (hk p (by simp)) (by omega) p.v
    have hM := e3.length_eq
    simp only [List.length_cons] at hM
    obtain ⟨g1, g2, g3⟩ := ih e2 d2 (fun r hr q hq => by
      rcases List.mem_cons.1 (e3.mem_iff.1 hq) with g | g
      · rw [g]; exact d1 r hr
      · exact hk r (by simp [hr]) q g) (by omega)
    unfold fillS
    rw [e1]
    simp only
    refine ⟨by rw [g1]; simp, g2, g3.trans ?_⟩
    refine (List.Perm.append_right ps e3).trans ?_
    have : (⟨p.k, p.v⟩ : Pp) :: L ++ ps = p :: (L ++ ps) := rfl
    rw [this]
    exact List.perm_middle.symm
theorem dis_more {F : List Pp} {p : Pp} (h : Dis F) (hp : ∀ q ∈ F, q.k ≠ p.k) : Dis (F ++ [p]) :=
  List.pairwise_append.2 ⟨h, List.pairwise_cons.2 ⟨by simp, List.Pairwise.nil⟩, fun a ha b hb => by
    rw [List.mem_singleton] at hb
    rw [hb]
    exact hp a ha⟩
theorem drop_at {F : List Pp} {j : Nat} (hj : j < F.length) : F.drop j = F.getD j Pp.nil :: F.drop (j + 1) := by
  rw [List.drop_eq_getElem_cons hj, List.getD_eq_getElem?_getD, List.getElem?_eq_getElem hj]
  rfl
theorem dis_at {F : List Pp} (h : Dis F) {j : Nat} (hj : j < F.length) : ∀ q ∈ F.drop (j + 1), q.k ≠ (F.getD j Pp.nil).k := by
  intro q hq
  have h1 : Dis (F.drop j) := List.Pairwise.sublist (List.drop_sublist j F) h
  rw [drop_at hj] at h1
  exact (((List.pairwise_cons.1 h1).1 q hq).symm)
/-- A round of the other book. -/
theorem put_round {cap : Nat} {F A : List Pp} {j : Nat} (hF : Dis F) (hj : j < F.length) (hc : F.length ≤ cap) (hA : Srt A) (hp : A.Perm (F.drop (j + 1))) (y : Int) : Srt (doS cap (doS cap A 2 (F.getD j Pp.nil).k y).2 2 (F.getD j Pp.nil).k (F.getD j Pp.nil).v).2 ∧ ((doS cap (doS cap A 2 (F.getD j Pp.nil).k y).2 2 (F.getD j Pp.nil).k (F.getD j Pp.nil).v).2).Perm (F.drop j) := by
  have hl := hp.length_eq
  rw [List.length_drop] at hl
  obtain ⟨M, e1, e2, e3, e4⟩ := put_new (cap := cap) hA (fun q hq => dis_at hF hj q (hp.mem_iff.1 hq)) (by omega) y
  obtain ⟨M', f1, f2, f3⟩ := e4 (F.getD j Pp.nil).v
  rw [e1]
  simp only
  rw [f1]
  refine ⟨f2, f3.trans ?_⟩
  rw [drop_at hj]
  exact List.Perm.cons _ hp
end Go.Proofs.Ytlinfpnkeiahlaa
