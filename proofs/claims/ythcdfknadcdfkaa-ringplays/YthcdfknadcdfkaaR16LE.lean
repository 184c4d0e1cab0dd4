
/-
  The landed ring of layer 16 as an object by its blocks: what each call answers and leaves, told by the plain ring. Condition: it lies where the pointer says, its Numbers beside it.
-/
import Derived.Test.YthcdfknadcdfkaaR16LC
import Derived.Test.YthcdfknadcdfkaaR16LD
namespace Go.Proofs.Ythcdfknadcdfkaa
open Go.RowKit
set_option linter.unusedVariables false
set_option linter.unusedSimpArgs false
set_option maxRecDepth 100000
def Rg.dropped (r : Rg) : Nat := if r.closed = true then r.all.length - r.taken else 0
/-- The landed ring, and its blocks. -/
def Lo (w : World) (B b nb : Nat) (r : Rg) (F : Ft) : Prop := ∃ v, Lk w B b nb v r.room r.waits r.closed r.refused r.taken r.dropped ∧ F = bkS b v
/-- With its Numbers. -/
def FN (F : Ft) (nb : Nat) : Ft := fun k => F k ∨ k = nb
section
variable {w w' : World} {B b nb : Nat} {r : Rg} {F G : Ft} {last : Int}
theorem Lo.lies (h : Lo w B b nb r F) : Lies w F := by
  obtain ⟨v, h, rfl⟩ := h
  intro k hk
  rcases hk with e | e
  · rw [e]; exact h.hp.lt
  · exact (h.row.lt k e).2
theorem Lo.keeps (h : Lo w B b nb r F) (hc : Chg w w' G) (ha : Apt G F) : Lo w' B b nb r F := by
  obtain ⟨v, h, rfl⟩ := h
  exact ⟨v, h.chg hc (fun e => ha b e (.inl rfl)) (fun k hk e => ha k e (.inr hk)), rfl⟩
theorem Lo.below (h : Lo w B b nb r F) (hb : Below w.heap.size w w') : Lo w' B b nb r F := h.keeps (Chg.of_below (S := fun _ => False) hb) (fun _ e => e.elim)
theorem Lo.other (h : Lo w B b nb r F) {m : Nat} {t : TypeId} {cs : List Value} (hp : Hp w m t cs) (h1 : t ≠ 62) (h2 : t ≠ 46) : ¬ F m := by
  obtain ⟨v, h, rfl⟩ := h
  rintro (e | e)
  · exact hp_type hp h.hp h1 e
  · exact own_type10 h.row hp (fun e => h2 e.symm) e
theorem Lo.since {w0 : World} (h : Lo w B b nb r F) (hb : w0.heap.size ≤ b) (hB : w0.heap.size ≤ B) : Since w0 F := by
  obtain ⟨v, h, rfl⟩ := h
  intro k hk
  rcases hk with e | e
  · omega
  · exact Nat.le_trans hB (h.row.lt k e).1
theorem lonew_ok (n : Nat) (h1 : 1 ≤ n) (h2 : n ≤ 16) (w : World) : Calls Try.prog 8 #[.int .i64 n, .pointer (some ⟨nb, 0, none⟩)] w fun e w' => ∃ b F, e = .returned (.tuple #[.pointer (some ⟨b, 0, none⟩), .int .i64 0]) ∧ Lo w' w.heap.size b nb (Rg.new n) F ∧ Since w F ∧ Below w.heap.size w w' := by
  refine (lrnew_ok n h1 h2 w).mono ?_
  rintro e w' ⟨rfl, hr, hb, hz⟩
  refine ⟨_, _, rfl, ⟨_, hr, rfl⟩, fun k hk => ?_, hb⟩
  rcases hk with e | e
  · rw [e]; exact Nat.le_refl _
  · cases e
theorem Nx.fn {F F' : Ft} (h : Nx w w' F F') (nb : Nat) : Nx w w' (FN F nb) (FN F' nb) := ⟨h.chg.mono (fun k e => .inl e), fun k hk => by
  rcases hk with e | e
  · rcases h.new k e with g | g
    · exact .inl (.inl g)
    · exact .inr g
  · exact .inl (.inr e)⟩
theorem Lo.accept (ea eb : Int) (h : Lo w B b nb r F) (hk : r.Ok) (hN : Nm w nb last) (hB : B ≤ w.heap.size) (h0 : 0 ≤ last) (hla : last ≤ 1000000000000000000) (hr : r.refused ≤ 1000000000000000000) {q E last' : Int} {r' : Rg} (HQ : Hid (r.accept ea eb (last + 1) = (q, E, r'))) (HL : Hid ((if E = 0 then last + 1 else last) = last')) :
    Calls Try.prog 10 #[.pointer (some ⟨b, 0, none⟩), .agg #[.int .u64 ea, .int .u64 eb]] w fun e w' => e = .returned (.tuple #[.int .i64 q, .int .i64 E]) ∧ ∃ F', Lo w' B b nb r' F' ∧ Nm w' nb last' ∧ Nx w w' (FN F nb) (FN F' nb) := by
  have hwl := hk.waits_le
  have hrm := hk.room.2
  have hnl := Hp.lt hN
  have hFn : ¬ F nb := h.other hN (by decide) (by decide)
  obtain ⟨v, hR, rfl⟩ := h
  have hq := HQ.out
  have hl := HL.out
  cases hcl : r.closed with
  | true =>
    rw [Rg.accept_shut hcl] at hq
    injection hq with e1 e2
    injection e2 with e2 e3
    subst e1 e2 e3
    rw [if_neg (by decide)] at hl
    subst hl
    have hR2 := hR
    rw [hcl] at hR2
    refine (laccept_shut ea eb hR2).mono ?_
    rintro e w' ⟨rfl, hb⟩
    exact ⟨rfl, _, ⟨v, hR.below hb, rfl⟩, Hp.below hN hb hnl, Nx.below hb⟩
  | false =>
    by_cases hf : r.waits.length = r.room
    · rw [hk.accept_full hcl hf] at hq
      injection hq with e1 e2
      injection e2 with e2 e3
      subst e1 e2 e3
      rw [if_neg (by decide)] at hl
      subst hl
      have hR2 := hR
      rw [hcl] at hR2
      refine (laccept_full ea eb hR2 (by omega) hr).mono ?_
      rintro e w' ⟨rfl, hR', hc⟩
      refine ⟨rfl, bkS b v, ⟨v, ?_, rfl⟩, Hp.chg hN hc (fun e => hFn (.inl e)), ⟨hc.mono (fun k e => .inl (.inl e)), fun k hk => .inl hk⟩⟩
      rw [← hcl] at hR'
      exact hR'
    · rw [hk.accept_yes hcl hf] at hq
      injection hq with e1 e2
      injection e2 with e2 e3
      subst e1 e2 e3
      rw [if_pos rfl] at hl
      subst hl
      have hR2 := hR
      rw [hcl] at hR2
      refine (laccept_yes ea eb hR2 hN (by omega) (by omega) h0 hla hB).mono ?_
      rintro e w' ⟨rfl, v', hR', hN', hc, hn⟩
      refine ⟨rfl, bkS b v', ⟨v', ?_, rfl⟩, hN', ⟨hc, fun k hk => ?_⟩⟩
      · rw [hk.waits_more hcl]
        have hd : ({ r with all := r.all ++ [⟨last + 1, ea, eb⟩] } : Rg).dropped = r.dropped := by unfold Rg.dropped; simp [hcl]
        rw [hd]
        rw [← hcl] at hR'
        exact hR'
      · rcases hk with hk | hk
        · rcases hk with e | e
          · exact .inl (.inl (.inl e))
          · rcases hn with g | ⟨j, g1, g2⟩
            · exact .inl (.inl (.inr (by rw [← g]; exact e)))
            · rw [g1] at e
              exact .inr (by have := Option.some.inj e; omega)
        · exact .inl (.inr hk)
theorem Lo.take (h : Lo w B b nb r F) (hk : r.Ok) (hm : r.all.length ≤ 1000000000000000) {q : Qe} {o : Bool} {r' : Rg} (HQ : Hid (r.take = (q, o, r'))) :
    Calls Try.prog 12 #[.pointer (some ⟨b, 0, none⟩)] w fun e w' => e = .returned (.tuple #[qeV q, .bool o]) ∧ Lo w' B b nb r' F ∧ Nx w w' F F := by
  have hwl := hk.waits_le
  have hrm := hk.room.2
  have hq := HQ.out
  obtain ⟨v, hR, rfl⟩ := h
  cases hw : r.waits with
  | nil =>
    rw [Rg.take_none hw] at hq
    injection hq with e1 e2
    injection e2 with e2 e3
    subst e1 e2 e3
    have hR2 := hR
    rw [hw] at hR2
    refine (ltake_no hR2).mono ?_
    rintro e w' ⟨rfl, hb⟩
    exact ⟨rfl, ⟨v, hR.below hb, rfl⟩, Nx.below hb⟩
  | cons p l =>
    obtain ⟨hcl, hlt, htk, hwl2⟩ := Rg.take_some hw
    rw [htk] at hq
    injection hq with e1 e2
    injection e2 with e2 e3
    subst e1 e2 e3
    have hR2 := hR
    rw [hw] at hR2
    rw [hw] at hwl
    simp only [List.length_cons] at hwl
    refine (ltake_yes hR2 (by omega) (by omega)).mono ?_
    rintro e w' ⟨rfl, v', hR', hc, hbk⟩
    refine ⟨rfl, ⟨v', ?_, ?_⟩, ⟨hc, fun k e => .inl e⟩⟩
    · rw [hwl2]
      have hd : ({ r with taken := r.taken + 1 } : Rg).dropped = r.dropped := by unfold Rg.dropped; simp [hcl]
      rw [hd]
      exact hR'
    · funext k
      unfold bkS
      rw [hbk]
theorem Lo.waits (h : Lo w B b nb r F) (hk : r.Ok) : Calls Try.prog 17 #[.pointer (some ⟨b, 0, none⟩)] w fun e w' => ∃ u, e = .returned u ∧ w'.ownsRow w.heap.size 46 3 u r.waits.length (flatG qeC r.waits) ∧ Below w.heap.size w w' := by
  have hwl := hk.waits_le
  have hrm := hk.room.2
  obtain ⟨v, hR, rfl⟩ := h
  exact lwait hR (by omega)
theorem Lo.shut (h : Lo w B b nb r F) (hk : r.Ok) (hm : r.all.length ≤ 1000000000000000) (hB : B ≤ w.heap.size) : Calls Try.prog 15 #[.pointer (some ⟨b, 0, none⟩)] w fun e w' => ∃ u F', e = .returned u ∧ w'.ownsRow w.heap.size 46 3 u r.waits.length (flatG qeC r.waits) ∧ Lo w' B b nb r.shut.2 F' ∧ Nx w w' F F' ∧ Lies w F' := by
  have hwl := hk.waits_le
  have hrm := hk.room.2
  have hd : r.dropped ≤ 1000000000000000 := by unfold Rg.dropped; split <;> omega
  have hds : r.shut.2.dropped = r.dropped + r.waits.length := by
    rw [Rg.waits_len]
    unfold Rg.shut Rg.dropped
    cases hc : r.closed <;> simp
  obtain ⟨v, hR, rfl⟩ := h
  have hlt := hR.hp.lt
  refine (lshut hR (by omega) (by omega) hB).mono ?_
  rintro e w' ⟨u, rfl, hu, hR', hc⟩
  refine ⟨u, bkS b (.slice none 0 0), rfl, hu, ⟨_, ?_, rfl⟩, ⟨hc.mono (fun k e => .inl e), fun k hk => ?_⟩, fun k hk => ?_⟩
  · rw [hds, Rg.waits_shut]
    exact hR'
  · rcases hk with e | e
    · exact .inl (.inl e)
    · cases e
  · rcases hk with e | e
    · rw [e]; exact hlt
    · cases e
theorem Lo.counts (h : Lo w B b nb r F) (hk : r.Ok) (hm : r.all.length ≤ 1000000000000000) {a rf t d q : Int} (HQ : Hid (r.counts = (a, rf, t, d, q))) : Calls Try.prog 19 #[.pointer (some ⟨b, 0, none⟩)] w fun e w' => e = .returned (cntV a rf t d q) ∧ Below w.heap.size w w' := by
  have hwl := hk.waits_le
  have hrm := hk.room.2
  have ht := hk.taken
  have hd : r.taken + r.dropped ≤ 1000000000000000 := by unfold Rg.dropped; split <;> omega
  obtain ⟨hsum, hqu⟩ := hk.sum
  have hq := HQ.out
  rw [hq] at hsum hqu
  have hdr : (r.dropped : Int) = d ∧ (r.taken : Int) = t ∧ (r.refused : Int) = rf := by
    unfold Rg.counts at hq
    injection hq with e1 hq
    injection hq with e2 hq
    injection hq with e3 hq
    injection hq with e4 e5
    refine ⟨?_, e3, e2⟩
    rw [← e4]
    unfold Rg.dropped
    cases hc : r.closed
    · simp
    · simp; omega
  simp only at hsum hqu
  obtain ⟨v, hR, rfl⟩ := h
  refine (lcounts hR (by omega) (by omega)).mono ?_
  rintro e w' ⟨rfl, hb⟩
  refine ⟨?_, hb⟩
  rw [hdr.1, hdr.2.1, hdr.2.2, ← hqu, ← hsum]
end
end Go.Proofs.Ythcdfknadcdfkaa
