
/-
  OwnerOrders: what stands ahead of its walk: shards made, one called; how a reply is made of them. No condition.
-/
import Derived.Test.YtpbfgebecgikjaaW22Or
import Derived.Test.YtpbfgebecgikjaaP12Of
namespace Go.Proofs.Ytpbfgebecgikjaa
open Go.RowKit
set_option linter.unusedVariables false
set_option linter.unusedSimpArgs false
set_option maxRecDepth 100000
theorem Sh.ifc {w : World} {B : Nat} {v : Value} {κ : Bool} {cap : Nat} {s : Sr} {F : Ft} (h : Sh w B v κ cap s F) : ∃ t u, v = .iface t u ∧ ∀ fuel wx, (nilAhead (fuel + 1) t u "Do").run Try.prog wx = .ok (some false) wx := by
  rcases h with ⟨_, b, ev, _⟩ | ⟨_, l, ev, _⟩
  · exact ⟨_, _, ev, fun fuel wx => ahead_book fuel _ wx⟩
  · exact ⟨_, _, ev, fun fuel wx => ahead_lru fuel _ wx⟩
theorem infoIf22 : (Try.prog.info? 69).map (fun i => (i.zero, i.size, i.bytes)) = some (some .nilIface, 1, 16) := by kernel_rfl
theorem infoRp : (Try.prog.info? 50).map (fun i => (i.zero, i.size, i.bytes)) = some (some (.agg (rpC Ry.nil (.slice none 0 0)).toArray), 14, 128) := by kernel_rfl
theorem if_one (t : TypeId) (u : Value) : ∀ x ∈ ifC (.iface t u), x.oneCell' = true := by
  intro x hx
  rw [List.mem_singleton.1 hx]
  rfl
theorem rp_one (p : Ry) (a : Option Addr) (n c : Nat) : ∀ x ∈ rpC p (.slice a n c), x.oneCell' = true := by
  intro x hx
  simp only [rpC, List.mem_cons, List.not_mem_nil, or_false] at hx
  rcases hx with rfl | rfl | rfl | rfl | rfl | rfl | rfl | rfl | rfl | rfl | rfl | rfl | rfl | rfl <;> rfl
theorem dfAt {w : World} {a : Option Addr} {n cap : Nat} {l : List (Int × Int)} (h : SeesG dfC 2 (0, 0) w (.slice a n cap) l) {j : Nat} (hj : j < l.length) : ∃ p off, a = some ⟨p, off, none⟩ ∧ w.cell? ⟨p, off + j * 2, none⟩ = some (.int .i64 (l.getD j (0, 0)).1) ∧ w.cell? ⟨p, off + j * 2 + 1, none⟩ = some (.int .i64 (l.getD j (0, 0)).2) := by
  obtain ⟨a', cap', ev, _, _, _, hat⟩ := h
  simp only [Value.slice.injEq] at ev
  obtain ⟨rfl, _, rfl⟩ := ev
  obtain ⟨p, off, rfl, _, hc⟩ := hat (fun e => by rw [e] at hj; simp at hj)
  exact ⟨p, off, rfl, hc j hj 0 (by omega), hc j hj 1 (by omega)⟩
def slN : Value → Nat
  | .slice _ n _ => n
  | _ => 0
/-- What New of an owner was asked for. -/
theorem newO_parts {s n : Int} {es : List (Int × Int)} {o : On} (h : newO s n es = some o) : (1 ≤ n ∧ n ≤ 4) ∧ (0 ≤ s ∧ s < n) ∧ es.length ≤ 4 ∧ o.Ok ∧ o.n = n.toNat ∧ o.sh = s.toNat ∧ o.st.length = es.length ∧ o.ds.length = es.length ∧ (∀ i, o.st.getD i Sr.nil = Sr.nil) ∧ ∀ i, i < es.length → (es.getD i (0, 0)).1 = (if (o.ds.getD i (false, 0)).1 = true then 1 else 0) ∧ (es.getD i (0, 0)).2 = (o.ds.getD i (false, 0)).2 ∧ 1 ≤ (o.ds.getD i (false, 0)).2 ∧ (o.ds.getD i (false, 0)).2 ≤ 16 := by
  obtain ⟨h1, h2, h3, ds, h4, rfl, h6⟩ := newO_some h
  obtain ⟨g1, g2⟩ := allDf_some h4
  refine ⟨h1, h2, h3, h6, rfl, rfl, ?_, g1, fun i => ?_, fun i hi => mkDf_some (g2 i hi)⟩
  · show (List.replicate ds.length Sr.nil).length = _
    rw [List.length_replicate, g1]
  · show (List.replicate ds.length Sr.nil).getD i Sr.nil = _
    by_cases hi : i < ds.length
    · simp [List.getD, List.getElem?_replicate, hi]
    · simp [List.getD, List.getElem?_replicate, hi]
section
variable {w0 w w' : World} {a : Nat} {o o' : On} {mv : Value} {vs : List Value} {ds : List Df} {st : List Sr} {tv : Value} {L : List Rt} {gv : Value} {ws us : List (Ry × Value)} {F G : Ft} {Fs : Nat → Ft}
theorem Fm.shape (h : Fm w0 w mv vs ds st F) : ∃ ma mc, mv = .slice ma vs.length mc := by
  obtain ⟨fs, h1, _⟩ := h
  exact own_shape h1
theorem Fm.row (h : Fm w0 w mv vs ds st F) : w.ownsRow w0.heap.size 69 1 mv vs.length (flatG ifC vs) := by
  obtain ⟨fs, h1, _⟩ := h
  exact h1
/-- The value of a shard in the row. -/
theorem Fm.cell {p q n c : Nat} (h : Fm w0 w (.slice (some ⟨p, q, none⟩) n c) vs ds st F) {i : Nat} (hi : i < vs.length) : w.cell? ⟨p, q + i, none⟩ = some (vs.getD i .nilIface) := by
  obtain ⟨a', cap', ev, _, _, _, hat⟩ := own_seesG ifC_len .nilIface h.row
  simp only [Value.slice.injEq] at ev
  obtain ⟨rfl, _, rfl⟩ := ev
  obtain ⟨p', off, ev, _, hc⟩ := hat (fun e => by rw [e] at hi; simp at hi)
  simp only [Option.some.injEq, Addr.mk.injEq, and_true] at ev
  obtain ⟨rfl, rfl⟩ := ev
  have := hc i hi 0 (by omega)
  rw [Nat.mul_one, Nat.add_zero] at this
  exact this
theorem Oz.goFm' (h : Oz w0 w a o mv vs ds st tv L gv ws us Fs) {mv2 : Value} {vs2 : List Value} {st2 : List Sr} (hx : ∃ F', Fm w0 w' mv2 vs2 ds st2 F' ∧ Nx w w' (Fs 1) F') : ∃ Gs, Oz w0 w' a o mv2 vs2 ds st2 tv L gv ws us Gs := by
  obtain ⟨F', h1, h2⟩ := hx
  exact ⟨_, h.goFm h1 h2⟩
theorem Fm.addr {xa : Option Addr} {n c : Nat} (h : Fm w0 w (.slice xa n c) vs ds st F) {i : Nat} (hi : i < vs.length) : ∃ p q, xa = some ⟨p, q, none⟩ := by
  obtain ⟨a', cap', ev, _, _, _, hat⟩ := own_seesG ifC_len .nilIface h.row
  simp only [Value.slice.injEq] at ev
  obtain ⟨rfl, _, rfl⟩ := ev
  obtain ⟨p', off, ev, _, _⟩ := hat (fun e => by rw [e] at hi; simp at hi)
  exact ⟨p', off, ev⟩
/-- A reply in the row. -/
theorem got_addr {B : Nat} {ga : Option Addr} {n gc : Nat} {R : List (Ry × Value)} (h : w.ownsRow B 50 14 (.slice ga n gc) R.length (flatG rpG R)) {j : Nat} {x : Ry × Value} (hx : R[j]? = some x) : ∃ p q, ga = some ⟨p, q, none⟩ := by
  have hj := (List.getElem?_eq_some_iff.1 hx).1
  obtain ⟨a', cap', ev, _, _, _, hat⟩ := own_seesG rpG_len (Ry.nil, .slice none 0 0) h
  simp only [Value.slice.injEq] at ev
  obtain ⟨rfl, _, rfl⟩ := ev
  obtain ⟨p', off, ev, _, _⟩ := hat (fun e => by rw [e] at hj; simp at hj)
  exact ⟨p', off, ev⟩
theorem got_at {B : Nat} {p q : Nat} {n gc : Nat} {R : List (Ry × Value)} (h : w.ownsRow B 50 14 (.slice (some ⟨p, q, none⟩) n gc) R.length (flatG rpG R)) {j : Nat} {x : Ry × Value} (hx : R[j]? = some x) : w.rangeAt p (q + j * 14) (rpC x.1 x.2) := by
  have hj := (List.getElem?_eq_some_iff.1 hx).1
  obtain ⟨a', cap', ev, _, _, _, hat⟩ := own_seesG rpG_len (Ry.nil, .slice none 0 0) h
  simp only [Value.slice.injEq] at ev
  obtain ⟨rfl, _, rfl⟩ := ev
  obtain ⟨p', off, ev, _, hc⟩ := hat (fun e => by rw [e] at hj; simp at hj)
  simp only [Option.some.injEq, Addr.mk.injEq, and_true] at ev
  obtain ⟨rfl, rfl⟩ := ev
  have hg : R.getD j (Ry.nil, .slice none 0 0) = x := by rw [List.getD_eq_getElem?_getD, hx]; rfl
  intro i v hv
  have hi : i < 14 := (List.getElem?_eq_some_iff.1 hv).1
  have := hc j hj i hi
  rw [hg] at this
  exact this.trans hv
/-- A block apart from the five is written. -/
theorem Oz.set (h : Oz w0 w a o mv vs ds st tv L gv ws us Fs) {n : Nat} (hn : ∀ i, i < 5 → ¬ Fs i n) (h0 : w0.heap.size ≤ n) (hc : Chg w w' (fun k => k = n)) : Oz w0 w' a o mv vs ds st tv L gv ws us Fs :=
  Fam.keeps h hc (fun j hj g => g.keeps hc (fun k e1 e2 => hn j hj (by rw [← (show k = n from e1)]; exact e2)) (fun k e => by rw [show k = n from e]; exact h0))
theorem Oz.goDo (h : Oz w0 w a o mv vs ds st tv L gv ws us Fs) {st2 : List Sr} (hx : ∃ F', Fm w0 w' mv vs ds st2 F' ∧ Nx w w' (Fs 1) F') : ∃ Gs, Oz w0 w' a o mv vs ds st2 tv L gv ws us Gs ∧ ∀ n, n < w.heap.size → (∀ i, i < 5 → ¬ Fs i n) → ∀ i, i < 5 → ¬ Gs i n := by
  obtain ⟨F', h1, h2⟩ := hx
  refine ⟨_, h.goFm h1 h2, fun n hn hno i hi e => ?_⟩
  by_cases e1 : i = 1
  · subst e1
    rw [upd_same] at e
    rcases h2.new n e with g | g
    · exact hno 1 (by omega) g
    · omega
  · rw [upd_other Fs F' e1] at e
    exact hno i hi e
theorem Oz.new (h : Oz w0 w a o mv vs ds st tv L gv ws us Fs) {n : Nat} (hn : w.heap.size ≤ n) : ∀ i, i < 5 → ¬ Fs i n := fun i hi e => by
  have := h.li i hi n e
  omega
/-- A request that was taken may be served: its map is there, its key belongs here. -/
theorem On.takes_at {q : Rt} (h : o.takes q = true) : ∃ k : Nat, q.m = k ∧ k < o.st.length ∧ (q.wk = false → ofL q.k o.n = o.sh) := by
  obtain ⟨k, e, hk⟩ := On.hasM_nat (On.takes_m h)
  refine ⟨k, e, hk, fun hw => ?_⟩
  simp only [On.takes, Bool.and_eq_true, hw, Bool.false_or, On.here, decide_eq_true_eq] at h
  exact h.2.2
end
end Go.Proofs.Ytpbfgebecgikjaa
