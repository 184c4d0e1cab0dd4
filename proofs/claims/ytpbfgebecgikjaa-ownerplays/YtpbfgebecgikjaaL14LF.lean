
/-
  The landed LRU of layer 14: Do is the plain LRU's. Condition: it lies where the pointer says, its rows are the call's own; it keeps what an LRU keeps.
-/
import Derived.Test.YtpbfgebecgikjaaL14LE
import Derived.Test.YtpbfgebecgikjaaL14Ord
namespace Go.Proofs.Ytpbfgebecgikjaa
open Go.RowKit
set_option linter.unusedVariables false
set_option linter.unusedSimpArgs false
set_option maxRecDepth 100000

section
variable {w : World} {B l b cap : Nat} {v vr : Value} {S : List Pp} {R : List Int}
theorem lldo_any (op key val : Int) (h : Ll w B l b cap v vr S R) (hi : InvA cap S R) (hc16 : cap ≤ 16) (hB : B ≤ w.heap.size) :
    Calls Try.prog 72 #[.pointer (some ⟨l, 0, none⟩), .int .i64 op, .int .u64 key, .int .u64 val] w fun e w' => e = .returned (resG (doA cap S R op key val).1.E (doA cap S R op key val).1.f (doA cap S R op key val).1.v (doA cap S R op key val).1.o (doA cap S R op key val).1.k (doA cap S R op key val).1.u) ∧ LlNext w B l b cap v vr (doA cap S R op key val).2.1 (doA cap S R op key val).2.2 w' := by
  have hord := hi.order_do op key val
  have htch := hi.tch op key val
  have hnx := hi.do op key val
  have hRl := hi.length
  have hl := hi.len
  have hl' := hnx.len
  have hOl := ordO_len (S := (doA cap S R op key val).2.1) (R := R)
  cases he : evA cap S op key with
  | false =>
    obtain ⟨g1, g2⟩ := doA_book (R := R) he val
    have hE : (doS cap S op key val).1.E ≠ 40 := fun e => by
      have := (e40 hi op key val).1 e
      rw [he] at this
      cases this
    rw [g1]
    rw [g1] at htch
    cases ht : tchA S op key with
    | false =>
      rw [ht] at hord htch
      simp only [Bool.false_eq_true, if_false] at hord
      have := lldo_keep (w := w) (B := B) (l := l) (b := b) (v := v) (vr := vr) (O := ordO (doA cap S R op key val).2.1 R) (S' := (doA cap S R op key val).2.1) (op := op) (key := key) (val := val) (by rw [g2]; exact (show Hid _ from rfl)) (by simpa using hE) (show Hid _ from htch) (show Hid _ from rfl) h hl hl' hc16 (by omega) (by omega) hB
      rw [hord] at this
      exact this
    | true =>
      rw [ht] at hord htch
      simp only [if_true] at hord
      have := lldo_touch (w := w) (B := B) (l := l) (b := b) (v := v) (vr := vr) (O := ordO (doA cap S R op key val).2.1 R) (F := frontO key (ordO (doA cap S R op key val).2.1 R)) (S' := (doA cap S R op key val).2.1) (op := op) (key := key) (val := val) (by rw [g2]; exact (show Hid _ from rfl)) (by simpa using hE) (show Hid _ from htch) (show Hid _ from rfl) (show Hid _ from rfl) h hl hl' hc16 (by omega) (by omega) hB
      rw [hord] at this
      exact this
  | true =>
    have he' := he
    unfold evA at he'
    simp only [Bool.and_eq_true, decide_eq_true_eq, Bool.not_eq_true'] at he'
    obtain ⟨⟨h24, hh⟩, hlen⟩ := he'
    have hc1 := hi.cap1
    have hRne : R ≠ [] := fun e => by rw [e] at hRl; simp at hRl; omega
    obtain ⟨_, hlast⟩ := fgt_last hi.nodup hRne
    have ht : tchA S op key = true := by unfold tchA; rw [decide_eq_true h24]; rfl
    rw [ht] at hord htch
    simp only [if_true] at hord
    have hfull : doS cap S op key val = (⟨40, false, 0⟩, S) := by
      have hs : ∀ y z, setS cap S ⟨key, y⟩ z = (⟨40, false, 0⟩, S) := fun y z => by
        unfold setS
        rw [if_neg (by rw [hh]; decide), if_pos (by omega)]
      rcases h24 with rfl | rfl
      · rw [do_put, hs]
      · rw [do_add, hs]
    have hout : outA cap S R op key = (dropS S (lastR R), fgt (lastR R) R) := by unfold outA; rw [he]; rfl
    have hd : doA cap S R op key val = (⟨(doS cap (dropS S (lastR R)) op key val).1.E, (doS cap (dropS S (lastR R)) op key val).1.f, (doS cap (dropS S (lastR R)) op key val).1.v, true, lastR R, hadS (lastR R) S⟩, (doS cap (dropS S (lastR R)) op key val).2, ordA cap S R op key) := by
      unfold doA
      rw [hout, he]
      rfl
    have hdl : (dropS S (lastR R)).length ≤ cap := by
      have := (hi.out op key).1.len
      rw [hout] at this
      exact this
    have := lldo_evict (w := w) (B := B) (l := l) (b := b) (v := v) (vr := vr) (okey := lastR R) (had := hadS (lastR R) S) (O := ordO (doA cap S R op key val).2.1 R) (F := frontO key (ordO (doA cap S R op key val).2.1 R)) (S' := (doA cap S R op key val).2.1) (op := op) (key := key) (val := val) (E := (doA cap S R op key val).1.E) (f := (doA cap S R op key val).1.f) (x := (doA cap S R op key val).1.v) (show Hid _ from hfull) (show Hid _ from hi.order) (by omega) (show Hid _ from hlast.symm) (show Hid _ from rfl) (by rw [hd]; exact (show Hid _ from rfl)) (show Hid _ from htch) (show Hid _ from rfl) (show Hid _ from rfl) h hl hdl hl' hc16 (by omega) (by omega) hB
    rw [hord] at this
    refine this.mono ?_
    rintro e w' ⟨rfl, hn⟩
    refine ⟨?_, hn⟩
    rw [hd]
end
/-- The landed LRU, as an object. -/
def Lu (w : World) (B l cap : Nat) (S : List Pp) (R : List Int) (F : Ft) : Prop := ∃ b v vr, Ll w B l b cap v vr S R ∧ F = footL l b v vr
section
variable {w w' : World} {B l cap : Nat} {S : List Pp} {R : List Int} {F G : Ft}
theorem Lu.lies (h : Lu w B l cap S R F) : Lies w F := by
  obtain ⟨b, v, vr, h1, rfl⟩ := h
  exact fun k hk => h1.foot hk
theorem Lu.keeps (h : Lu w B l cap S R F) (hc : Chg w w' G) (ha : Apt G F) : Lu w' B l cap S R F := by
  obtain ⟨b, v, vr, h1, rfl⟩ := h
  exact ⟨b, v, vr, h1.chg hc (fun k hk e => ha k e hk), rfl⟩
theorem Lu.below (h : Lu w B l cap S R F) (hb : Below w.heap.size w w') : Lu w' B l cap S R F := by
  obtain ⟨b, v, vr, h1, rfl⟩ := h
  exact ⟨b, v, vr, h1.below hb, rfl⟩
theorem Lu.drewN (h : Lu w B l cap S R F) (n : Nat) : Lu (w.drewN n) B l cap S R F := h.below ⟨rfl, rfl, rfl, Nat.le_refl _, fun _ _ => rfl⟩
theorem Lu.do_any (op key val : Int) (h : Lu w B l cap S R F) (hi : InvA cap S R) (hc16 : cap ≤ 16) (hB : B ≤ w.heap.size) :
    Calls Try.prog 72 #[.pointer (some ⟨l, 0, none⟩), .int .i64 op, .int .u64 key, .int .u64 val] w fun e w' => e = .returned (resG (doA cap S R op key val).1.E (doA cap S R op key val).1.f (doA cap S R op key val).1.v (doA cap S R op key val).1.o (doA cap S R op key val).1.k (doA cap S R op key val).1.u) ∧ ∃ F', Lu w' B l cap (doA cap S R op key val).2.1 (doA cap S R op key val).2.2 F' ∧ Nx w w' F F' := by
  obtain ⟨b, v, vr, h1, rfl⟩ := h
  refine (lldo_any op key val h1 hi hc16 hB).mono ?_
  rintro e w' ⟨rfl, v', vr', g1, g2⟩
  exact ⟨rfl, _, ⟨b, v', vr', g1, rfl⟩, g2⟩
/-- With the answer's parts as letters. -/
theorem Lu.do_as {op key val : Int} {q : Rq} {S' : List Pp} {R' : List Int} (HQ : Hid (doA cap S R op key val = (q, S', R'))) (h : Lu w B l cap S R F) (hi : InvA cap S R) (hc16 : cap ≤ 16) (hB : B ≤ w.heap.size) :
    Calls Try.prog 72 #[.pointer (some ⟨l, 0, none⟩), .int .i64 op, .int .u64 key, .int .u64 val] w fun e w' => e = .returned (resG q.E q.f q.v q.o q.k q.u) ∧ ∃ F', Lu w' B l cap S' R' F' ∧ Nx w w' F F' := by
  have := h.do_any op key val hi hc16 hB
  rw [HQ.out] at this
  exact this
theorem Lu.order (h : Lu w B l cap S R F) (hi : InvA cap S R) (hc16 : cap ≤ 16) :
    Calls Try.prog 74 #[.pointer (some ⟨l, 0, none⟩)] w fun e w' => ∃ u, e = .returned u ∧ w'.ownsRow w.heap.size 41 1 u R.length (flatG uC R) ∧ Below w.heap.size w w' := by
  obtain ⟨b, v, vr, h1, rfl⟩ := h
  have hl := hi.len
  have hR := hi.length
  exact llorder_any h1 (by omega) (by omega) (show Hid _ from hi.order)
/-- Its book. -/
theorem Lu.book (h : Lu w B l cap S R F) : ∃ b v, w.cell? ⟨l, 0, none⟩ = some (.pointer (some ⟨b, 0, none⟩)) ∧ Lb w B b cap v S := by
  obtain ⟨b, v, vr, h1, rfl⟩ := h
  exact ⟨b, v, h1.hp.cell (j := 0) rfl, h1.bk⟩
end
theorem lunew_ok (n : Nat) (h1 : 1 ≤ n) (h2 : n ≤ 16) (w : World) : Calls Try.prog 39 #[.int .i64 n] w fun e w' => ∃ l F, e = .returned (.tuple #[.pointer (some ⟨l, 0, none⟩), .int .i64 0]) ∧ Lu w' w.heap.size l n [] [] F ∧ Since w F ∧ Below w.heap.size w w' := by
  refine (llnew_ok n h1 h2 w).mono ?_
  rintro e w' ⟨l, b, rfl, g1, g2, g3, g4⟩
  refine ⟨l, _, rfl, ⟨b, _, _, g3, rfl⟩, fun k hk => ?_, g4⟩
  rcases hk with e | (e | e) | e
  · rw [e]; exact g1
  · rw [e]; exact g2
  · cases e
  · cases e
theorem InvA.new {cap : Nat} (h : 1 ≤ cap) : InvA cap [] [] := ⟨List.Pairwise.nil, List.Perm.refl _, by simp, h⟩
end Go.Proofs.Ytpbfgebecgikjaa
