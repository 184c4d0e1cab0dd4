
/-
  The document's ring of layer 16 as an object by its blocks: what each call answers and leaves. Condition: it lies where the pointer says.
-/
import Derived.Test.YthcdfknadcdfkaaR16RefE
import Derived.Test.YthcdfknadcdfkaaGObj
namespace Go.Proofs.Ythcdfknadcdfkaa
open Go.RowKit
set_option linter.unusedVariables false
set_option linter.unusedSimpArgs false
set_option maxRecDepth 100000
/-- The document's ring, and its blocks. -/
def Ko (w : World) (B b : Nat) (r : Rg) (F : Ft) : Prop := ∃ v, Rk w B b v r ∧ F = bkS b v
section
variable {w w' : World} {B b : Nat} {r : Rg} {F G : Ft}
theorem Ko.lies (h : Ko w B b r F) : Lies w F := by
  obtain ⟨v, h, rfl⟩ := h
  intro k hk
  rcases hk with e | e
  · rw [e]; exact h.hp.lt
  · exact (h.row.lt k e).2
theorem Ko.keeps (h : Ko w B b r F) (hc : Chg w w' G) (ha : Apt G F) : Ko w' B b r F := by
  obtain ⟨v, h, rfl⟩ := h
  exact ⟨v, h.chg hc (fun e => ha b e (.inl rfl)) (fun k hk e => ha k e (.inr hk)), rfl⟩
theorem Ko.below (h : Ko w B b r F) (hb : Below w.heap.size w w') : Ko w' B b r F := h.keeps (Chg.of_below (S := fun _ => False) hb) (fun _ e => e.elim)
theorem konew_ok (n : Nat) (h1 : 1 ≤ n) (h2 : n ≤ 16) (w : World) : Calls Try.prog 9 #[.int .i64 n] w fun e w' => ∃ b F, e = .returned (.tuple #[.pointer (some ⟨b, 0, none⟩), .int .i64 0]) ∧ Ko w' w.heap.size b (Rg.new n) F ∧ Since w F ∧ Below w.heap.size w w' := by
  refine (kNew_ok n h1 h2 w).mono ?_
  rintro e w' ⟨rfl, hr, hb, hz⟩
  refine ⟨_, _, rfl, ⟨_, hr, rfl⟩, fun k hk => ?_, hb⟩
  rcases hk with e | e
  · rw [e]; exact Nat.le_refl _
  · cases e
theorem Ko.accept (ea eb nx : Int) (h : Ko w B b r F) (hk : r.Ok) (hB : B ≤ w.heap.size) (hz : (r.all.length + 1) * 24 ≤ 140737488355328) (hr : r.refused ≤ 1000000000000000000) {q E : Int} {r' : Rg} (HQ : Hid (r.accept ea eb nx = (q, E, r'))) :
    Calls Try.prog 11 #[.pointer (some ⟨b, 0, none⟩), .agg #[.int .u64 ea, .int .u64 eb], .int .i64 nx] w fun e w' => e = .returned (.tuple #[.int .i64 q, .int .i64 E]) ∧ ∃ F', Ko w' B b r' F' ∧ Nx w w' F F' := by
  obtain ⟨v, hR, rfl⟩ := h
  obtain ⟨rm, tk, rf, cl, al⟩ := r
  have hq := HQ.out
  unfold Rg.accept at hq
  simp only at hq hz hr
  have ht := hk.taken
  have hrm := hk.room.2
  simp only at ht hrm
  cases cl with
  | true =>
    rw [if_pos rfl] at hq
    injection hq with e1 e2
    injection e2 with e2 e3
    subst e1 e2 e3
    refine (kAccept_shut ea eb nx hR).mono ?_
    rintro e w' ⟨rfl, hb⟩
    exact ⟨rfl, _, ⟨v, hR.below hb, rfl⟩, Nx.below hb⟩
  | false =>
    rw [if_neg (by decide)] at hq
    by_cases hf : rm ≤ al.length - tk
    · rw [if_pos hf] at hq
      injection hq with e1 e2
      injection e2 with e2 e3
      subst e1 e2 e3
      refine (kAccept_full ea eb nx hR ht hf hr hrm).mono ?_
      rintro e w' ⟨rfl, hR', hc⟩
      exact ⟨rfl, _, ⟨v, hR', rfl⟩, ⟨hc.mono (fun k e => .inl e), fun k hk => .inl hk⟩⟩
    · rw [if_neg hf] at hq
      injection hq with e1 e2
      injection e2 with e2 e3
      subst e1 e2 e3
      refine (kAccept_yes ea eb nx hR ht hf hrm hB hz).mono ?_
      rintro e w' ⟨rfl, v', hR', hc, hn⟩
      refine ⟨rfl, _, ⟨v', hR', rfl⟩, ⟨hc, fun k hk => ?_⟩⟩
      rcases hk with e | e
      · exact .inl (.inl e)
      · rcases hn with g | ⟨j, g1, g2⟩
        · exact .inl (.inr (by rw [← g]; exact e))
        · rw [g1] at e
          exact .inr (by have := Option.some.inj e; omega)
theorem Ko.take (h : Ko w B b r F) (hk : r.Ok) (hm : r.all.length ≤ 1000000000000000) {q : Qe} {o : Bool} {r' : Rg} (HQ : Hid (r.take = (q, o, r'))) :
    Calls Try.prog 13 #[.pointer (some ⟨b, 0, none⟩)] w fun e w' => e = .returned (.tuple #[qeV q, .bool o]) ∧ Ko w' B b r' F ∧ Nx w w' F F := by
  obtain ⟨v, hR, rfl⟩ := h
  have hq := HQ.out
  unfold Rg.take at hq
  by_cases hw : r.waits = []
  · rw [if_pos hw] at hq
    injection hq with e1 e2
    injection e2 with e2 e3
    subst e1 e2 e3
    refine (kTake_no hR hk.taken hw).mono ?_
    rintro e w' ⟨rfl, hb⟩
    exact ⟨rfl, ⟨v, hR.below hb, rfl⟩, Nx.below hb⟩
  · rw [if_neg hw] at hq
    injection hq with e1 e2
    injection e2 with e2 e3
    subst e1 e2 e3
    obtain ⟨rm, tk, rf, cl, al⟩ := r
    have hcl : cl = false := by
      cases cl with
      | true => exact absurd (by unfold Rg.waits; rw [if_pos rfl]) hw
      | false => rfl
    subst hcl
    have ht : tk < al.length := by
      refine Nat.lt_of_not_le fun e => hw ?_
      unfold Rg.waits
      rw [if_neg (by simp)]
      exact List.drop_eq_nil_of_le e
    refine (kTake_yes hR ht hm).mono ?_
    rintro e w' ⟨rfl, hR', hc⟩
    exact ⟨rfl, ⟨v, hR', rfl⟩, ⟨hc.mono (fun k e => .inl e), fun k hk => .inl hk⟩⟩
theorem Ko.waits (h : Ko w B b r F) (hk : r.Ok) : Calls Try.prog 18 #[.pointer (some ⟨b, 0, none⟩)] w fun e w' => ∃ u k, e = .returned u ∧ SeesG qeC 3 Qe.nil w u r.waits ∧ w' = w.drewN k := by
  obtain ⟨v, hR, rfl⟩ := h
  exact kWaits_any hR hk.taken
theorem Ko.shut (h : Ko w B b r F) (hk : r.Ok) : Calls Try.prog 16 #[.pointer (some ⟨b, 0, none⟩)] w fun e w' => ∃ u, e = .returned u ∧ SeesG qeC 3 Qe.nil w u r.waits ∧ Ko w' B b r.shut.2 F ∧ Chg w w' (fun k => k = b) := by
  obtain ⟨v, hR, rfl⟩ := h
  refine (kShut_any hR hk.taken).mono ?_
  rintro e w' ⟨u, rfl, hs, hR', hc⟩
  exact ⟨u, rfl, hs, ⟨v, hR', rfl⟩, hc⟩
theorem Ko.counts (h : Ko w B b r F) (hk : r.Ok) {a rf t d q : Int} (HQ : Hid (r.counts = (a, rf, t, d, q))) : Calls Try.prog 20 #[.pointer (some ⟨b, 0, none⟩)] w fun e w' => e = .returned (cntV a rf t d q) ∧ Below w.heap.size w w' := by
  obtain ⟨v, hR, rfl⟩ := h
  obtain ⟨rm, tk, rf', cl, al⟩ := r
  have hq := HQ.out
  unfold Rg.counts at hq
  simp only at hq
  injection hq with e1 hq
  injection hq with e2 hq
  injection hq with e3 hq
  injection hq with e4 e5
  subst e1 e2 e3 e4 e5
  exact kCounts_any hR hk.taken
end
end Go.Proofs.Ythcdfknadcdfkaa
