
/-
  A ring, events that it accepted, and events that it gave, apart from it. No condition.
-/
import Derived.Test.YthcdfknadcdfkaaW16Rc
namespace Go.Proofs.Ythcdfknadcdfkaa
open Go.RowKit
set_option linter.unusedVariables false
set_option linter.unusedSimpArgs false
set_option maxRecDepth 100000
theorem infoEv : (Try.prog.info? 38).map (fun i => (i.zero, i.size, i.bytes)) = some (some (.agg #[.int .u64 0, .int .u64 0]), 2, 16) := by kernel_rfl
theorem ev_one (q : Ev) : ∀ u ∈ evC q, u.oneCell' = true := by
  intro u hu
  simp only [evC, List.mem_cons, List.not_mem_nil, or_false] at hu
  rcases hu with rfl | rfl <;> rfl
theorem evflat_one (L : List Ev) : ∀ u ∈ flatG evC L, u.oneCell' = true := by
  intro u hu
  simp only [flatG, List.mem_flatMap] at hu
  obtain ⟨p, _, hp⟩ := hu
  exact ev_one p u hp
/-- A row's block is a block of that type. -/
theorem own_hpC16 {w : World} {B : Nat} {e : TypeId} {z : Nat} {v : Value} {n : Nat} {xs : List Value} (h : w.ownsRow B e z v n xs) {k : Nat} (hk : v.ownBlock = some k) : ∃ cs, Hp w k e cs := by
  rcases h with ⟨_, ⟨rfl, _⟩ | ⟨g, cap, cur, rfl, _, hh, _⟩⟩
  · cases hk
  · have := Option.some.inj (show some g = some k from hk)
    subst this
    exact ⟨cur.toList, by unfold Hp; simpa using hh⟩
/-- A ring, a row of events, and a line of events that were given. -/
structure Wh (w0 w : World) (b : Nat) (r : Rg) (last : Int) (v : Value) (L : List Qe) (ve : Value) (E : List Ev) : Prop where
  rc : Rc w0 w b r last v L
  re : w.ownsRow w0.heap.size 38 2 ve E.length (flatG evC E)
section
variable {w0 w w' : World} {b : Nat} {r : Rg} {last : Int} {v ve : Value} {L : List Qe} {E : List Ev}
theorem Wh.below (h : Wh w0 w b r last v L ve E) (hb : Below w.heap.size w w') : Wh w0 w' b r last v L ve E := ⟨h.rc.below hb, own_below h.re hb (Nat.le_refl _)⟩
theorem own_oth (h : w.ownsRow w0.heap.size 38 2 ve E.length (flatG evC E)) (ho : Oth w w') : w'.ownsRow w0.heap.size 38 2 ve E.length (flatG evC E) := by
  rcases h with ⟨h1, h2 | ⟨g, cap, cur, rfl, q1, q2, q3⟩⟩
  · exact ⟨h1, .inl h2⟩
  · have := ho g 38 cur.toList (by decide) (by decide) (by decide) (by unfold Hp; simpa using q2)
    exact ⟨h1, .inr ⟨g, cap, cur, rfl, q1, by unfold Hp at this; simpa using this, q3⟩⟩
theorem Wh.accept (ea eb : Int) (h : Wh w0 w b r last v L ve E) (hk : r.Ok) (h0 : 0 ≤ last) (hla : last ≤ 1000000000000000000) (hr : r.refused ≤ 1000000000000000000) {q Er last' : Int} {r' : Rg} (HQ : Hid (r.accept ea eb (last + 1) = (q, Er, r'))) (HL : Hid ((if Er = 0 then last + 1 else last) = last')) :
    Calls Try.prog 10 #[.pointer (some ⟨b, 0, none⟩), .agg #[.int .u64 ea, .int .u64 eb]] w fun e w' => e = .returned (.tuple #[.int .i64 q, .int .i64 Er]) ∧ Wh w0 w' b r' last' v L ve E := by
  refine (h.rc.accept ea eb hk h0 hla hr HQ HL).mono ?_
  rintro e w' ⟨rfl, g1, g2⟩
  exact ⟨rfl, g1, own_oth h.re g2⟩
theorem Wh.take (h : Wh w0 w b r last v L ve E) (hk : r.Ok) (hm : r.all.length ≤ 1000000000000000) {q : Qe} {o : Bool} {r' : Rg} (HQ : Hid (r.take = (q, o, r'))) :
    Calls Try.prog 12 #[.pointer (some ⟨b, 0, none⟩)] w fun e w' => e = .returned (.tuple #[qeV q, .bool o]) ∧ Wh w0 w' b r' last v L ve E := by
  obtain ⟨B, F, h1, h2, h3, h4⟩ := h.rc.ex
  refine (h2.take hk hm HQ).mono ?_
  rintro e w' ⟨rfl, g1, g2⟩
  exact ⟨rfl, h.rc.step h1 h.rc.ln.lies h3 h4 g1 g2, own_oth h.re (fun m t cs a1 a2 a3 hp => hp.chg g2.chg (h2.other hp a1 a2 a3))⟩
theorem Wh.shut (h : Wh w0 w b r last v L ve E) (hk : r.Ok) (hm : r.all.length ≤ 1000000000000000) {A : List Qe} (HA : Hid (r.waits = A)) : Calls Try.prog 15 #[.pointer (some ⟨b, 0, none⟩)] w fun e w' => ∃ u, e = .returned u ∧ SeesG qeC 3 Qe.nil w' u A ∧ Wh w0 w' b r.shut.2 last v L ve E := by
  obtain ⟨B, F, h1, h2, h3, h4⟩ := h.rc.ex
  refine (h2.shut hk hm h1 HA).mono ?_
  rintro e w' ⟨u, F', rfl, g1, g2, g3, g4⟩
  exact ⟨u, rfl, own_seesG qeC_len Qe.nil g1, h.rc.step h1 h.rc.ln.lies h3 h4 g2 g3, own_oth h.re (fun m t cs a1 a2 a3 hp => hp.chg g3.chg (h2.other hp a1 a2 a3))⟩
/-- An event more. -/
theorem Wh.evs {ve' : Value} {E' : List Ev} (h : Wh w0 w b r last v L ve E) (hc : Chg w w' (ftV ve)) (hl : w'.ownsRow w0.heap.size 38 2 ve' E'.length (flatG evC E')) : Wh w0 w' b r last v L ve' E' := by
  obtain ⟨B, F, h1, h2, h3, h4⟩ := h.rc.ex
  have hap : Apt (ftV ve) F := fun k e f => by
    obtain ⟨cs, hq⟩ := own_hpC16 h.re e
    exact h2.other hq (by decide) (by decide) (by decide) f
  have hav : Apt (ftV ve) (ftV v) := fun k e f => by
    obtain ⟨cs, hq⟩ := own_hpC16 h.re e
    rcases h.rc.ln.ex with ⟨rfl, _⟩ | ⟨g, off, cap, cur, rfl, _, hh, _⟩
    · cases f
    · have := Option.some.inj (show some g = some k from f)
      subst this
      exact hp_type (show Hp w g 46 cur from hh) hq (by decide) rfl
  exact ⟨⟨⟨B, F, Nat.le_trans h1 hc.size, h2.keeps hc hap, h3, h4⟩, (own_since h.re (Nat.le_refl _)).be h.rc.be ⟨hc, fun k hk => .inl hk⟩, h.rc.ln.keeps hc hav⟩, hl⟩
/-- The line changed. -/
theorem Wh.line {v' : Value} {L' : List Qe} (h : Wh w0 w b r last v L ve E) (hc : Chg w w' (ftV v)) (hn : v'.ownBlock = v.ownBlock ∨ ∃ k, v'.ownBlock = some k ∧ w.heap.size ≤ k) (hl : Ct w' w0.heap.size 46 3 v' L'.length (flatG qeC L')) : Wh w0 w' b r last v' L' ve E := by
  refine ⟨h.rc.line hc hn hl, own_chg h.re hc (fun k hk f => ?_)⟩
  obtain ⟨cs, hq⟩ := own_hpC16 h.re hk
  rcases h.rc.ln.ex with ⟨rfl, _⟩ | ⟨g, off, cap, cur, rfl, _, hh, _⟩
  · cases f
  · have := Option.some.inj (show some g = some k from f)
    subst this
    exact hp_type (show Hp w g 46 cur from hh) hq (by decide) rfl
end
/-- What was taken, with one more. -/
theorem Rg.take_more {r : Rg} {p : Qe} {l : List Qe} (h : r.waits = p :: l) : r.all.take (r.taken + 1) = r.all.take r.taken ++ [p] := by
  obtain ⟨hc, hlt, _, _⟩ := Rg.take_some h
  have hd : r.all.drop r.taken = p :: l := by
    unfold Rg.waits at h
    rw [hc, if_neg (by decide)] at h
    exact h
  rw [List.drop_eq_getElem_cons hlt] at hd
  injection hd with e1 _
  rw [List.take_add_one, List.getElem?_eq_getElem hlt, e1]
  rfl
/-- Numbered from 1. -/
def Rg.Nums (r : Rg) : Prop := ∀ k, k < r.all.length → (r.all.getD k Qe.nil).n = (k : Int) + 1
theorem Rg.Nums.more {r : Rg} (h : r.Nums) (a b : Int) : ({ r with all := r.all ++ [⟨(r.all.length : Int) + 1, a, b⟩] } : Rg).Nums := by
  intro k hk
  simp only [List.length_append, List.length_cons, List.length_nil] at hk
  show ((r.all ++ [_]).getD k Qe.nil).n = _
  rw [List.getD_eq_getElem?_getD]
  by_cases e : k < r.all.length
  · rw [List.getElem?_append_left e, ← List.getD_eq_getElem?_getD]
    exact h k e
  · have : k = r.all.length := by omega
    subst this
    rw [List.getElem?_append_right (Nat.le_refl _)]
    simp
def Qe.ev (q : Qe) : Ev := ⟨q.a, q.b⟩
/-- Append of a slice that is read, to a row that was cut. -/
theorem run_append_cut_sees {α : Type} {f : α → List Value} {P : Program} (w : World) (base : Nat) (t ty e : TypeId) (i : TypeInfo) (zv : Value) (size bytes : Nat) (ht : P.underlying t = some (.slice e)) (hi : P.info? e = some i) (hz : i.zero = some zv)
    (hsize : i.size = size) (hby : i.bytes = bytes) (hzs : zv.cells.size = size) (hsz : 0 < size) {a0 : Option Addr} {c0 : Nat} (xs : List Value) {n : Nat} (hown : Ct w base e size (.slice a0 n c0) n xs)
    {d : α} {src : Value} {ys : List α} (hf : ∀ x, (f x).length = size) (hsee : SeesG f size d w src ys) (h1 : ∀ u ∈ flatG f ys, u.oneCell' = true) (h63 : n + ys.length ≤ maxLen) (hbytes : (n + ys.length) * bytes ≤ 140737488355328) (hbase : base ≤ w.heap.size) :
    ∃ v' w', (Builtin.append_ #[t, t] ty #[.slice a0 n c0, src]).run P w = .ok v' w' ∧ Ct w' base e size v' (n + ys.length) (xs ++ flatG f ys) ∧ Chg w w' (ftV (.slice a0 n c0)) ∧ (v'.ownBlock = (Value.slice a0 n c0).ownBlock ∨ v'.ownBlock = some w.heap.size) := by
  have hsee' := hsee
  obtain ⟨a, c, rfl, hc, hm, hn0, hat⟩ := hsee
  cases hy : ys with
  | nil =>
    subst hy
    have e0 : xs ++ flatG f [] = xs := by simp [flatG]
    have hnc : n ≤ c0 := by
      obtain ⟨a1, c1, ev, q, _⟩ := hown.shape
      injection ev with e1 e2 e3
      omega
    refine ⟨.slice a0 n c0, w, ?_, by rw [e0]; exact hown, Chg.refl _ _, .inl rfl⟩
    have hfc : ∀ wx, (Builtin.firstCells i.size 0 (.slice a 0 c)).run P wx = .ok #[] wx := fun wx => by
      cases a with
      | none => exact run_firstCells_none wx i.size 0 0 c
      | some ad => exact run_firstCells_some wx i.size 0 ad 0 c [] (by simp) (fun j u hj => by simp at hj)
    simp [Builtin.append_, run_underlying ht, sizeOf, typeInfo, hi, Builtin.lenOf, hnc, hfc, storeCells]
    cases a0 <;> simp
  | cons y l =>
    obtain ⟨b, off, rfl, hb, hcell⟩ := hat (by rw [hy]; simp)
    rw [← hy]
    obtain ⟨v', w', r1, r2, r3, r5⟩ := run_append_cut (P := P) w base t ty e i zv size bytes ht hi hz hsize hby hzs hsz (.slice a0 n c0) n xs hown ⟨b, off, none⟩ ys.length c (flatG f ys) (flatG_len hf ys) (hsee'.flat hf hsz) h1 h63 hbytes hbase (by rw [hy]; simp)
    exact ⟨v', w', r1, r2, r3, r5⟩
end Go.Proofs.Ythcdfknadcdfkaa
