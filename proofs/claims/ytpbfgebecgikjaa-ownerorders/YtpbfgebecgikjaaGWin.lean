
/-
  A slice that is a window of a block of one's own: what stands ahead of it was cut off. General. No condition but the row's.
-/
import Derived.Test.YtpbfgebecgikjaaGSees
import Derived.Test.YtpbfgebecgikjaaGRow
import Derived.Test.YtpbfgebecgikjaaGObj
import Derived.Deep.AppendSrc
namespace Go.Proofs.Ytpbfgebecgikjaa
open Go.RowKit
set_option linter.unusedVariables false
set_option linter.unusedSimpArgs false
set_option maxRecDepth 100000

def Win (w : World) (B : Nat) (e : TypeId) (z : Nat) (v : Value) (n : Nat) (xs : List Value) : Prop :=
  xs.length = n * z ∧ ((v = .slice none 0 0 ∧ n = 0) ∨ ∃ g cap A R, v = .slice (some ⟨g, A.length, none⟩) n cap ∧ B ≤ g ∧ Hp w g e (A ++ (xs ++ R)) ∧ n ≤ cap ∧ cap ≤ maxLen ∧ (cap - n) * z ≤ R.length)
section
variable {w w' : World} {B : Nat} {e : TypeId} {z : Nat} {v : Value} {n : Nat} {xs : List Value}
theorem own_win (h : w.ownsRow B e z v n xs) : Win w B e z v n xs := by
  rcases h with ⟨h1, h2 | ⟨g, cap, cur, rfl, hb, hh, h3, h4, h5, h6⟩⟩
  · exact ⟨h1, .inl h2⟩
  · have hl : cur.toList.length = cap * z := by rw [Array.length_toList]; exact h5
    refine ⟨h1, .inr ⟨g, cap, [], cur.toList.drop (n * z), rfl, hb, ?_, h3, h4, ?_⟩⟩
    · unfold Hp
      rw [hh, ← h6, List.nil_append, List.take_append_drop]
    · rw [List.length_drop, hl, Nat.sub_mul]
      omega
theorem Win.lt (h : Win w B e z v n xs) : ∀ k, v.ownBlock = some k → B ≤ k ∧ k < w.heap.size := by
  intro k hk
  rcases h with ⟨_, ⟨rfl, _⟩ | ⟨g, cap, A, R, rfl, hb, hp, _⟩⟩
  · cases hk
  · have e1 : g = k := Option.some.inj hk
    subst e1
    exact ⟨hb, hp.lt⟩
theorem Win.hp (h : Win w B e z v n xs) {k : Nat} (hk : v.ownBlock = some k) : ∃ cs, Hp w k e cs := by
  rcases h with ⟨_, ⟨rfl, _⟩ | ⟨g, cap, A, R, rfl, hb, hp, _⟩⟩
  · cases hk
  · have e1 : g = k := Option.some.inj hk
    subst e1
    exact ⟨_, hp⟩
theorem Win.shape (h : Win w B e z v n xs) : ∃ a cap, v = .slice a n cap ∧ n ≤ cap ∧ cap ≤ maxLen := by
  rcases h with ⟨_, ⟨rfl, rfl⟩ | ⟨g, cap, A, R, rfl, hb, hp, h1, h2, _⟩⟩
  · exact ⟨_, _, rfl, Nat.le_refl _, by unfold maxLen; omega⟩
  · exact ⟨_, _, rfl, h1, h2⟩
theorem Win.chg {S : Nat → Prop} (h : Win w B e z v n xs) (hc : Chg w w' S) (hS : ∀ k, v.ownBlock = some k → ¬ S k) : Win w' B e z v n xs := by
  rcases h with ⟨h1, h2 | ⟨g, cap, A, R, rfl, hb, hp, h3⟩⟩
  · exact ⟨h1, .inl h2⟩
  · exact ⟨h1, .inr ⟨g, cap, A, R, rfl, hb, hp.chg hc (hS g rfl), h3⟩⟩
theorem Win.below (h : Win w B e z v n xs) (hb : Below w.heap.size w w') : Win w' B e z v n xs := h.chg (Chg.of_below (S := fun _ => False) hb) (fun _ _ e => e)
theorem Win.low {B' : Nat} (h : Win w B e z v n xs) (hB : B' ≤ B) : Win w B' e z v n xs := by
  rcases h with ⟨h1, h2 | ⟨g, cap, A, R, rfl, hb, hp, h3⟩⟩
  · exact ⟨h1, .inl h2⟩
  · exact ⟨h1, .inr ⟨g, cap, A, R, rfl, Nat.le_trans hB hb, hp, h3⟩⟩
theorem Win.sees {α : Type} {f : α → List Value} {l : List α} (hf : ∀ x, (f x).length = z) (d : α) (h : Win w B e z v l.length (flatG f l)) : SeesG f z d w v l := by
  rcases h with ⟨h1, ⟨rfl, h2⟩ | ⟨g, cap, A, R, rfl, hb, hp, h3, h4, h5⟩⟩
  · have : l = [] := List.eq_nil_of_length_eq_zero h2
    subst this
    exact SeesG.nil d w
  · refine ⟨_, cap, rfl, h3, h4, fun h => (by cases h), fun hne => ⟨g, A.length, rfl, hp.lt, fun k hk j hj => ?_⟩⟩
    have hlt : k * z + j < (flatG f l).length := by
      rw [h1]
      exact Nat.lt_of_lt_of_le (Nat.add_lt_add_left hj _) (by rw [← Nat.succ_mul]; exact Nat.mul_le_mul_right _ hk)
    have e1 := flatG_at hf d l hk hj
    have hj' : j < (f (l.getD k d)).length := by rw [hf]; exact hj
    rw [List.getElem?_eq_getElem hj'] at e1 ⊢
    refine hp.cell ?_
    rw [Nat.add_assoc, List.getElem?_append_right (by omega), show A.length + (k * z + j) - A.length = k * z + j by omega, List.getElem?_append_left hlt]
    exact e1
/-- The first is cut off. -/
theorem Win.tail {P : Program} {t : TypeId} {x : List Value} (ht : P.underlying t = some (.slice e)) (hs : ∀ w, (Go.sizeOf e).run P w = .ok z w) (h : Win w B e z v (n + 1) (x ++ xs)) (hx : x.length = z) : ∃ v', (∀ u, (Instr.slice t v (some (.int .i64 1)) none none).run P u = .ok v' u) ∧ Win w B e z v' n xs ∧ v'.ownBlock = v.ownBlock := by
  rcases h with ⟨h1, ⟨_, h2⟩ | ⟨g, cap, A, R, rfl, hb, hp, h3, h4, h5⟩⟩
  · omega
  · have hl : xs.length = n * z := by
      rw [List.length_append, hx, Nat.add_mul] at h1
      omega
    by_cases hc : 1 < cap
    · refine ⟨.slice (some ⟨g, (A ++ x).length, none⟩) n (cap - 1), fun u => ?_, ⟨hl, .inr ⟨g, cap - 1, A ++ x, R, rfl, hb, ?_, by omega, by omega, ?_⟩⟩, rfl⟩
      · have := run_fromZ ht hs g A.length (n + 1) cap 1 (by omega) hc u
        rw [show ((1 : Nat) : Int) = 1 from rfl] at this
        rw [this, List.length_append, hx, Nat.one_mul, Nat.add_sub_cancel]
      · rw [List.append_assoc]
        simpa using hp
      · rw [show cap - 1 - n = cap - (n + 1) by omega]
        exact h5
    · have e1 : cap = 1 := by omega
      have e2 : n = 0 := by omega
      subst e1 e2
      have e3 : xs = [] := List.eq_nil_of_length_eq_zero (by simpa using hl)
      subst e3
      refine ⟨.slice (some ⟨g, A.length, none⟩) 0 0, fun u => ?_, ⟨hl, .inr ⟨g, 0, A, x ++ R, rfl, hb, by simpa using hp, by omega, by omega, by simp⟩⟩, rfl⟩
      simp [Instr.slice, run_underlying ht, Instr.sliceBounds, run_sliceBound, hs, Addr.add]
theorem splice_in {α : Type} (A X R1 R2 vs : List α) (h : vs.length = R1.length) : splice (A ++ (X ++ (R1 ++ R2))) (A.length + X.length) vs = A ++ (X ++ (vs ++ R2)) := by
  rw [splice_behind, show X.length = X.length + 0 from rfl, splice_behind, splice_ahead _ _ _ _ (by omega), splice_all _ _ h]
/-- What a slice reads as is appended to a window. -/
theorem run_append_win {α : Type} {f : α → List Value} {P : Program} (w : World) (base : Nat) (t ty e : TypeId) (i : TypeInfo) (zv : Value) (size bytes : Nat) (ht : P.underlying t = some (.slice e)) (hi : P.info? e = some i) (hz : i.zero = some zv)
    (hsize : i.size = size) (hby : i.bytes = bytes) (hzs : zv.cells.size = size) (hsz : 0 < size) (v : Value) (n : Nat) (xs : List Value) (hown : Win w base e size v n xs)
    {d : α} {src : Value} {ys : List α} (hf : ∀ x, (f x).length = size) (hsee : SeesG f size d w src ys) (h1 : ∀ u ∈ flatG f ys, u.oneCell' = true) (h63 : n + ys.length ≤ maxLen) (hbytes : (n + ys.length) * bytes ≤ 140737488355328) (hbase : base ≤ w.heap.size) :
    ∃ v' w', (Builtin.append_ #[t, t] ty #[v, src]).run P w = .ok v' w' ∧ Win w' base e size v' (n + ys.length) (xs ++ flatG f ys) ∧ w.grownBy w' v.ownBlock ∧ (v'.ownBlock = v.ownBlock ∨ v'.ownBlock = some w.heap.size) := by
  have hl2 : (flatG f ys).length = ys.length * size := flatG_len hf ys
  have hlen : (xs ++ flatG f ys).length = (n + ys.length) * size := by rw [List.length_append, hown.1, hl2, Nat.add_mul]
  have hint : n + ys.length ≤ 9223372036854775807 := by unfold maxLen at h63; omega
  rcases hown with ⟨hx, ⟨rfl, rfl⟩ | ⟨g, cap, A, R, rfl, hb, hp, h3, h4, h5⟩⟩
  · obtain rfl : xs = [] := List.eq_nil_of_length_eq_zero (by simpa using hx)
    obtain ⟨v', w', r1, r2, r3, r4⟩ := run_append_seesG (P := P) w base t ty e i zv size bytes ht hi hz hsize hby hzs hsz _ 0 [] (World.ownsRow_nil _ _ _ _) hf hsee h1 h63 hbytes hbase
    exact ⟨v', w', r1, own_win r2, r3, r4⟩
  · have hsrc : Src P i.size t src ys.length (flatG f ys) w := by
      have hsee' := hsee
      obtain ⟨a, c, rfl, hc, hm, hn0, _⟩ := hsee
      rw [hsize]
      cases a with
      | none =>
        obtain rfl := hn0 rfl
        obtain rfl : ys = [] := List.eq_nil_of_length_eq_zero (by omega)
        exact Src.ofNil w ht 0
      | some ad => exact Src.ofSlice w ht ad ys.length c _ hl2 (hsee'.flat hf hsz) h1
    by_cases hroom : n + ys.length ≤ cap
    · have hR : (flatG f ys).length ≤ R.length := by
        rw [hl2]
        exact Nat.le_trans (Nat.mul_le_mul_right size (by omega)) h5
      have hin : ∀ j, j < (flatG f ys).length → A.length + n * i.size + j < (A ++ (xs ++ R)).length := by
        intro j hj
        rw [hsize, ← hx, List.length_append, List.length_append]
        omega
      have hr := run_append_room_src (P := P) w t t ty e i ht hi g A.length n cap src ys.length (flatG f ys) hsrc hroom (fun j hj => by rw [hp.cell (List.getElem?_eq_getElem (hin j hj))]; rfl) (fun j hj => hp.frozen _)
      refine ⟨_, _, hr, ⟨hlen, .inr ⟨g, cap, A, R.drop (flatG f ys).length, rfl, hb, ?_, hroom, h4, ?_⟩⟩, grown_sets g _ w _, .inl rfl⟩
      · have := hp.sets (flatG f ys) (A.length + n * i.size)
        have e1 : R = R.take (flatG f ys).length ++ R.drop (flatG f ys).length := (List.take_append_drop _ _).symm
        have e2 : splice (A ++ (xs ++ R)) (A.length + n * i.size) (flatG f ys) = A ++ (xs ++ (flatG f ys ++ R.drop (flatG f ys).length)) := by
          rw [hsize, ← hx]
          have := splice_in A xs (R.take (flatG f ys).length) (R.drop (flatG f ys).length) (flatG f ys) (by rw [List.length_take]; omega)
          rw [← e1] at this
          exact this
        rw [e2] at this
        rw [List.append_assoc]
        exact this
      · rw [List.length_drop, hl2]
        have : (cap - n) * size = (cap - (n + ys.length)) * size + ys.length * size := by
          rw [← Nat.add_mul]
          congr 1
          omega
        omega
    · have hr := run_append_grow_src (P := P) w t t ty e i zv ht hi hz (some ⟨g, A.length, none⟩) n cap xs (run_firstCells_some (P := P) w.drew i.size n ⟨g, A.length, none⟩ n cap xs (by rw [hsize]; exact hx) (fun j u hj => by
          rw [add_none]
          refine Hp.cell (w := w.drew) (t := e) (cs := A ++ (xs ++ R)) hp ?_
          have hj' := (List.getElem?_eq_some_iff.1 hj).1
          rw [List.getElem?_append_right (by omega), show A.length + j - A.length = j by omega, List.getElem?_append_left hj']
          exact hj)) src ys.length (flatG f ys) hsrc (by omega) (by omega) (by
          have g1 := nextslicecap_le (need := n + ys.length) (old := cap) (by omega)
          have g2 : Builtin.nextslicecap (n + ys.length) cap * i.bytes ≤ 2 * (n + ys.length) * i.bytes := Nat.mul_le_mul_right _ g1
          rw [hby, Nat.mul_assoc] at g2
          rw [hby]
          omega)
      refine ⟨_, _, hr, own_win (own_new (z := zv.cells) hlen (grownCap_ge w (n + ys.length) cap e) (grownCap_le_maxLen w (n + ys.length) cap e h63) hzs hbase), grown_new _ _ _, .inr rfl⟩
end
end Go.Proofs.Ytpbfgebecgikjaa
