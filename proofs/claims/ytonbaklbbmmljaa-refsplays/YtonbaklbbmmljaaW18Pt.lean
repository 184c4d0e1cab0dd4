
/-
  The landed refs of layer 18 and the document's, apart, with a call's box and a row of numbers. No condition.
-/
import Derived.Test.YtonbaklbbmmljaaW18M2
namespace Go.Proofs.Ytonbaklbbmmljaa
open Go.RowKit
set_option linter.unusedVariables false
set_option linter.unusedSimpArgs false
set_option maxRecDepth 100000
/-- Both refs, a box, a row. -/
structure Pt (w0 w : World) (b d k : Nat) (F G : Ft) (n : Nat) (P Q : Rs) (m : Nat) (bx : Ow) (vi : Value) (I : List Int) : Prop where
  la : Lz w0 w b F n P m
  dq : ∃ B, B ≤ w.heap.size ∧ Dq w B d G n Q m
  okq : Rs.Ok n Q
  sg : Since w0 G
  fg : Apt F G
  box : Hp w k 34 (owC bx)
  ro : RoI w w0.heap.size vi I
  fk : ¬ F k
  gk : ¬ G k
  fi : Apt F (ftV vi)
  gi : Apt G (ftV vi)
section
variable {w0 w w' : World} {b d k n m : Nat} {F F' G G' : Ft} {P P' Q Q' : Rs} {bx : Ow} {vi : Value} {I : List Int}
theorem Pt.below (h : Pt w0 w b d k F G n P Q m bx vi I) (hb : Below w.heap.size w w') : Pt w0 w' b d k F G n P Q m bx vi I := by
  obtain ⟨B, h1, h2⟩ := h.dq
  exact ⟨h.la.below hb, ⟨B, Nat.le_trans h1 hb.size, h2.below hb⟩, h.okq, h.sg, h.fg, h.box.below hb h.box.lt, h.ro.below hb, h.fk, h.gk, h.fi, h.gi⟩
theorem Pt.drewN (h : Pt w0 w b d k F G n P Q m bx vi I) (j : Nat) : Pt w0 (w.drewN j) b d k F G n P Q m bx vi I := h.below ⟨rfl, rfl, rfl, Nat.le_refl _, fun _ _ => rfl⟩
theorem Pt.stepL {m' : Nat} (h : Pt w0 w b d k F G n P Q m bx vi I) (hl : Lz w0 w' b F' n P' m') (hn : Nx w w' F F') (hm : m ≤ m') : Pt w0 w' b d k F' G n P' Q m' bx vi I := by
  obtain ⟨B, h1, h2⟩ := h.dq
  refine ⟨hl, ⟨B, Nat.le_trans h1 hn.chg.size, (h2.keeps hn.chg h.fg).mono hm⟩, h.okq, h.sg, h.fg.next h2.lies hn, h.box.chg hn.chg h.fk, own_keeps h.ro hn.chg h.fi, fun e => ?_, h.gk, h.fi.next (own_lies h.ro) hn, h.gi⟩
  rcases hn.new k e with g | g
  · exact h.fk g
  · have := h.box.lt; omega
theorem Pt.stepD {B m' : Nat} (h : Pt w0 w b d k F G n P Q m bx vi I) (h1 : B ≤ w.heap.size) (h2 : Dq w B d G n Q m) (hd : Dq w' B d G' n Q' m') (hk : Rs.Ok n Q') (hn : Nx w w' G G') (hm : m ≤ m') : Pt w0 w' b d k F G' n P Q' m' bx vi I := by
  refine ⟨(h.la.keeps hn.chg h.fg.symm h.sg).mono hm, ⟨B, Nat.le_trans h1 hn.chg.size, hd⟩, hk, h.sg.next h.la.be.size hn, (h.fg.symm.next h.la.lies hn).symm, h.box.chg hn.chg h.gk, own_keeps h.ro hn.chg h.gi, h.fk, fun e => ?_, h.fi, h.gi.next (own_lies h.ro) hn⟩
  rcases hn.new k e with g | g
  · exact h.gk g
  · have := h.box.lt; omega
/-- A number of the row written over. -/
theorem Pt.store (h : Pt w0 w b d k F G n P Q m bx vi I) (hn : 0 < I.length) : ∃ p cap, vi = .slice (some ⟨p, 0, none⟩) I.length cap ∧ I.length ≤ cap ∧ cap ≤ 9223372036854775807 ∧ (∀ j, j < I.length → w.cell? ⟨p, j, none⟩ = some (.int .i64 (I.getD j 0)) ∧ w.frozen? ⟨p, j, none⟩ = false) ∧ ∀ (j : Nat) (y : Int), Pt w0 (w.setCell ⟨p, j, none⟩ (.int .i64 y)) b d k F G n P Q m bx vi (I.set j y) := by
  obtain ⟨p, cap, rfl, h1, h2, h3, h4, h5, h6⟩ := h.ro.cells hn
  obtain ⟨B, g1, g2⟩ := h.dq
  refine ⟨p, cap, rfl, h3, h4, h5, fun j y => ?_⟩
  have hc := Chg.set w p j (.int .i64 y)
  have hpF : Apt (fun q => q = p) F := fun q e1 e2 => h.fi q e2 (by rw [e1]; rfl)
  have hpG : Apt (fun q => q = p) G := fun q e1 e2 => h.gi q e2 (by rw [e1]; rfl)
  have hS : Since w0 (fun q => q = p) := fun q e => by rw [e]; exact h1
  have hkp : k ≠ p := fun e => own_type10 h.ro h.box (by decide) (by rw [e]; rfl)
  have hr := h6 j y
  refine ⟨h.la.keeps hc hpF hS, ⟨B, by simpa [World.setCell] using g1, g2.keeps hc hpG⟩, h.okq, h.sg, h.fg, h.box.chg hc hkp, ?_, h.fk, h.gk, h.fi, h.gi⟩
  unfold RoI at hr ⊢
  rw [List.length_set] at hr ⊢
  exact hr
theorem Pt.holdL (h : Pt w0 w b d k F G n P Q m bx vi I) (hm : m ≤ 8000) (p : Int) {u : Value} {ws : List Int} (hs : Sees .i64 w u ws) (hap : ws ≠ [] → Apt F (ftV u)) {E : Int} (HQ : Hid (Rs.hold n P p ws = (E, P'))) (hp : Hid ((Lit.int .i64 p).wf = true) := by first | assumption | exact (show (Lit.int .i64 _).wf = true from rfl)) (hz : Hid (ws.length * 8 ≤ 140737488355328) := by first | assumption | (show _ ≤ _; simp)) : Calls Try.prog 8 #[.pointer (some ⟨b, 0, none⟩), .int .i64 p, u] w fun e w' => e = .returned (.int .i64 E) ∧ ∃ F', Pt w0 w' b d k F' G n P' Q (m + 1) bx vi I := by
  refine (h.la.hold (by omega) p hs hap HQ hp hz).mono ?_
  rintro e w' ⟨rfl, F', g1, g2⟩
  exact ⟨rfl, F', h.stepL g1 g2 (by omega)⟩
theorem Pt.holdD (h : Pt w0 w b d k F G n P Q m bx vi I) (hm : m ≤ 8000) (p : Int) {u : Value} {ws : List Int} (hs : Sees .i64 w u ws) {E : Int} (HQ : Hid (Rs.hold n Q p ws = (E, Q'))) : Calls Try.prog 9 #[.pointer (some ⟨d, 0, none⟩), .int .i64 p, u] w fun e w' => e = .returned (.int .i64 E) ∧ ∃ G', Pt w0 w' b d k F G' n P Q' (m + 1) bx vi I := by
  obtain ⟨B, h1, h2⟩ := h.dq
  refine (dhold h2 h.la.n4 h1 (by omega) p hs HQ).mono ?_
  rintro e w' ⟨rfl, G', g1, g2⟩
  exact ⟨rfl, G', h.stepD h1 h2 g1 (h.okq.hold HQ.out) g2 (by omega)⟩
theorem Pt.dropL (h : Pt w0 w b d k F G n P Q m bx vi I) (hm : m ≤ 8000) {u : Value} {ps : List Int} (hs : Sees .i64 w u ps) (hap : ps ≠ [] → Apt F (ftV u)) {E : Int} (HQ : Hid (Rs.drop P ps = (E, P'))) (hz : Hid (ps.length * 8 ≤ 140737488355328) := by first | assumption | (show _ ≤ _; simp)) : Calls Try.prog 10 #[.pointer (some ⟨b, 0, none⟩), u] w fun e w' => e = .returned (.int .i64 E) ∧ ∃ F', Pt w0 w' b d k F' G n P' Q m bx vi I ∧ Nx w w' F F' := by
  refine (h.la.drop (by omega) hs hap HQ hz).mono ?_
  rintro e w' ⟨rfl, F', g1, g2⟩
  exact ⟨rfl, F', h.stepL g1 g2 (Nat.le_refl _), g2⟩
theorem Pt.dropD (h : Pt w0 w b d k F G n P Q m bx vi I) (hm : m ≤ 8000) {u : Value} {ps : List Int} (hs : Sees .i64 w u ps) (hap : ps ≠ [] → Apt G (ftV u)) {E : Int} (HQ : Hid (Rs.drop Q ps = (E, Q'))) : Calls Try.prog 11 #[.pointer (some ⟨d, 0, none⟩), u] w fun e w' => e = .returned (.int .i64 E) ∧ ∃ G', Pt w0 w' b d k F G' n P Q' m bx vi I := by
  obtain ⟨B, h1, h2⟩ := h.dq
  refine (ddrop h2 h.okq h1 (by omega) hs hap HQ).mono ?_
  rintro e w' ⟨rfl, G', g1, g2⟩
  exact ⟨rfl, G', h.stepD h1 h2 g1 (h.okq.drop HQ.out) g2 (Nat.le_refl _)⟩
theorem Pt.holdersD (h : Pt w0 w b d k F G n P Q m bx vi I) (hm : m ≤ 8000) (x : Int) {A : List Int} (HA : Hid (Q.holders x = A)) : Calls Try.prog 17 #[.pointer (some ⟨d, 0, none⟩), .int .i64 x] w fun e w' => ∃ u, e = .returned u ∧ RoI w' w.heap.size u A ∧ Below w.heap.size w w' := by
  obtain ⟨B, h1, h2⟩ := h.dq
  exact dholders h2 h.okq h.la.n4 (by omega) x HA
/-- What stands where the document's At says. -/
def AtCell (w : World) (d : Nat) (Q : Rs) (p at' : Int) : Prop := (at' = -1 ∧ heldL Q p = ([], false)) ∨ ∃ (j gg go len cap : Nat) (ua : Option Addr) (uc : Nat) (ms : List Int), at' = j ∧ j < len ∧ len ≤ cap ∧ cap ≤ 9223372036854775807 ∧ heldL Q p = (ms, true) ∧ ∀ wx, Below w.heap.size w wx → wx.cell? ⟨d, 1, none⟩ = some (.slice (some ⟨gg, go, none⟩) len cap) ∧ wx.cell? ⟨gg, go + j * 2 + 1, none⟩ = some (.slice ua ms.length uc) ∧ Rdn wx (.slice ua ms.length uc) ms
theorem Pt.atD (h : Pt w0 w b d k F G n P Q m bx vi I) (hm : m ≤ 8000) (p : Int) : Calls Try.prog 13 #[.pointer (some ⟨d, 0, none⟩), .int .i64 p] w fun e w' => ∃ at', e = .returned (.int .i64 at') ∧ AtCell w d Q p at' ∧ w = w' := by
  obtain ⟨B, h1, h2⟩ := h.dq
  obtain ⟨v, L, hD, hP, hL, _⟩ := h2.ex
  refine (dat hD (by omega) p).mono ?_
  rintro e w' ⟨at', rfl, hA, rfl⟩
  refine ⟨at', rfl, ?_, rfl⟩
  rcases hA with ⟨e1, hno⟩ | ⟨j, rfl, hj, hjp⟩
  · refine .inl ⟨e1, ?_⟩
    have : Q.has p = false := by
      cases hh : Q.has p with
      | false => rfl
      | true =>
        obtain ⟨x, hx, e⟩ := (hm_has hP).1 hh
        exact absurd e (hno x hx)
    unfold heldL
    rw [Rs.held_none this]
  · obtain ⟨a, cap, rfl, hc, hm2, _, hat⟩ := own_seesG hrC_len Hr.nil hD.row
    obtain ⟨gg, go, rfl, _, _⟩ := hat (fun e => by rw [e] at hj; simp at hj)
    have hmem := getD_memH L j hj
    obtain ⟨ua, uc, hu⟩ := (hD.ins _ hmem).shape
    unfold maxLen at hm2
    refine .inr ⟨j, gg, go, L.length, cap, ua, uc, (L.getD j Hr.nil).ms, rfl, hj, hc, by omega, ?_, fun wx hb => ?_⟩
    · unfold heldL
      have h5 := h.okq.held_some (hP.mem_iff.1 (List.mem_map.2 ⟨_, hmem, rfl⟩))
      rw [show (Hr.hm (L.getD j Hr.nil)).p = p from hjp] at h5
      rw [h5]
      rfl
    · have hDx := hD.below hb
      obtain ⟨a', cap', ev, _, _, _, hat'⟩ := own_seesG hrC_len Hr.nil hDx.row
      simp only [Value.slice.injEq, true_and] at ev
      obtain ⟨rfl, rfl⟩ := ev
      obtain ⟨gg', go', ev', _, hc'⟩ := hat' (fun e => by rw [e] at hj; simp at hj)
      simp only [Option.some.injEq, Addr.mk.injEq, and_true] at ev'
      obtain ⟨rfl, rfl⟩ := ev'
      have h6 := hc' j hj 1 (by omega)
      have h7 := (hDx.ins _ hmem).rdn
      rw [hu] at h7
      refine ⟨hDx.hp.cell (j := 1) rfl, ?_, h7⟩
      rw [h6]
      simp only [List.getElem?_cons_succ, List.getElem?_cons_zero]
      rw [hu]
theorem holders_out {n : Nat} {P : Rs} (h : Rs.Ok n P) {x : Int} (hx : inM n x = false) : P.holders x = [] := by
  unfold Rs.holders
  rw [List.map_eq_nil_iff, List.filter_eq_nil_iff]
  intro y hy e
  have h1 := h.ms y hy
  simp only [okM, Bool.and_eq_true, List.all_eq_true] at h1
  rw [h1.2 x (of_decide_eq_true e)] at hx
  cases hx
end
end Go.Proofs.Ytonbaklbbmmljaa
