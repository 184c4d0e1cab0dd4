
/-
  The document's clock of layer 17: what happened, in its order; Now, In. Condition: it lies where the pointer says, its row is the call's own.
-/
import Derived.Test.YtkcbiiiakkpegaaE17Plain
import Derived.Test.YtkcbiiiakkpegaaGObj
import Derived.Test.YtkcbiiiakkpegaaGSees
import Derived.Deep.RegionHeld3
import Derived.Deep.RegionHeldLaw
namespace Go.Proofs.Ytkcbiiiakkpegaa
open Go.RowKit
set_option linter.unusedVariables false
set_option linter.unusedSimpArgs false
set_option maxRecDepth 100000

/-- A step: what happened, and to whom. -/
structure St where
  k : Int
  x : Int
def St.nil : St := ⟨0, 0⟩
abbrev stC (s : St) : List Value := [.int .i64 s.k, .int .i64 s.x]
theorem stC_len (s : St) : (stC s).length = 2 := rfl
theorem st_one (s : St) : ∀ u ∈ stC s, u.oneCell' = true := by
  intro u hu
  simp only [stC, List.mem_cons, List.not_mem_nil, or_false] at hu
  rcases hu with rfl | rfl <;> rfl
def nwF (n : Int) (s : St) : Int := if s.k = 3 then n + 1 else n
def nowS (ss : List St) : Int := ss.foldl nwF 1
def stF (x : Int) (p : Int × Int) (s : St) : Int × Int := if s.k = 3 then (p.1 + 1, p.2) else if s.x = x then (if s.k = 1 then (p.1, p.1) else (p.1, 0)) else p
def inS (x : Int) (ss : List St) : Int × Int := ss.foldl (stF x) (1, 0)
theorem nowS_more (ss : List St) (s : St) : nowS (ss ++ [s]) = nwF (nowS ss) s := by simp [nowS]
theorem inS_more (x : Int) (ss : List St) (s : St) : inS x (ss ++ [s]) = stF x (inS x ss) s := by simp [inS]
theorem snoc_ind {α : Type} {p : List α → Prop} (h0 : p []) (h1 : ∀ l a, p l → p (l ++ [a])) : ∀ l, p l := by
  intro l
  have : ∀ m : List α, p m.reverse := by
    intro m
    induction m with
    | nil => exact h0
    | cons a m ih => rw [List.reverse_cons]; exact h1 _ _ ih
  have h := this l.reverse
  rwa [List.reverse_reverse] at h
theorem inS_now (x : Int) (ss : List St) : (inS x ss).1 = nowS ss := by
  refine snoc_ind (p := fun ss => (inS x ss).1 = nowS ss) rfl (fun l a ih => ?_) ss
  rw [inS_more, nowS_more, ← ih]
  unfold stF nwF
  split
  · rfl
  · split
    · split <;> rfl
    · rfl
theorem nowS_le (ss : List St) : 1 ≤ nowS ss ∧ nowS ss ≤ ss.length + 1 := by
  refine snoc_ind (p := fun ss => 1 ≤ nowS ss ∧ nowS ss ≤ ss.length + 1) ⟨by decide, by decide⟩ (fun l a ih => ?_) ss
  rw [nowS_more, List.length_append]
  unfold nwF
  simp only [List.length_cons, List.length_nil]
  split <;> omega
/-- What happened belongs to a clock. -/
structure Rel (c : Ck) (ss : List St) : Prop where
  now : nowS ss = c.now
  each : ∀ x, c.has x = true → (inS x ss).2 = c.at x
theorem Rel.new (n : Nat) : Rel (Ck.new n) [] := ⟨rfl, fun x h => by
  obtain ⟨k, rfl, hk⟩ := Ck.has_nat h
  rw [Ck.at_nat]
  have hk' : k < n := by simpa [Ck.new] using hk
  simp [inS, Ck.new, List.getD, hk']⟩
theorem at_set {c : Ck} {k : Nat} (hk : k < c.ins.length) (y x : Int) (nw : Int) : (⟨nw, c.ins.set k y⟩ : Ck).at x = if x = k then y else c.at x := by
  unfold Ck.at
  by_cases h0 : 0 ≤ x
  · rw [if_pos h0, if_pos h0]
    by_cases e : x = k
    · subst e
      simp [List.getD, hk]
    · rw [if_neg e]
      have : k ≠ x.toNat := by omega
      simp [List.getD, List.getElem?_set_ne this]
  · rw [if_neg h0, if_neg (by omega), if_neg h0]
theorem has_set (c : Ck) (k : Nat) (y nw x : Int) : (⟨nw, c.ins.set k y⟩ : Ck).has x = c.has x := by simp [Ck.has]
theorem Rel.enter {c : Ck} {ss : List St} (h : Rel c ss) {k : Nat} (hk : k < c.ins.length) : Rel ⟨c.now, c.ins.set k c.now⟩ (ss ++ [⟨1, k⟩]) := by
  refine ⟨by rw [nowS_more]; unfold nwF; rw [if_neg (show ¬ (1 : Int) = 3 by decide)]; exact h.now, fun x hx => ?_⟩
  rw [has_set] at hx
  rw [inS_more, at_set hk]
  unfold stF
  rw [if_neg (show ¬ (1 : Int) = 3 by decide)]
  by_cases e : x = k
  · subst e
    rw [if_pos rfl, if_pos rfl, if_pos rfl]
    show (inS k ss).1 = _
    rw [inS_now]; exact h.now
  · rw [if_neg (fun e' => e e'.symm), if_neg e]
    exact h.each x hx
theorem Rel.leave {c : Ck} {ss : List St} (h : Rel c ss) {k : Nat} (hk : k < c.ins.length) : Rel ⟨c.now, c.ins.set k 0⟩ (ss ++ [⟨2, k⟩]) := by
  refine ⟨by rw [nowS_more]; unfold nwF; rw [if_neg (show ¬ (2 : Int) = 3 by decide)]; exact h.now, fun x hx => ?_⟩
  rw [has_set] at hx
  rw [inS_more, at_set hk]
  unfold stF
  rw [if_neg (show ¬ (2 : Int) = 3 by decide)]
  by_cases e : x = k
  · subst e
    rw [if_pos rfl, if_pos rfl, if_neg (show ¬ (2 : Int) = 1 by decide)]
  · rw [if_neg (fun e' => e e'.symm), if_neg e]
    exact h.each x hx
theorem Rel.go {c : Ck} {ss : List St} (h : Rel c ss) : Rel c.go (ss ++ [⟨3, 0⟩]) :=
  ⟨by rw [nowS_more]; unfold nwF; rw [if_pos rfl, h.now]; rfl, fun x hx => by rw [inS_more]; unfold stF; rw [if_pos rfl]; exact h.each x hx⟩
/-- The document's clock, at a block. -/
structure Dk (w : World) (B b : Nat) (v : Value) (c : Ck) (ss : List St) : Prop where
  hp : Hp w b 31 [.int .i64 c.ins.length, v]
  row : w.ownsRow B 52 2 v ss.length (flatG stC ss)
  rel : Rel c ss
section
variable {w w' : World} {B b : Nat} {v : Value} {c : Ck} {ss : List St}
theorem Dk.below (h : Dk w B b v c ss) (hb : Below w.heap.size w w') : Dk w' B b v c ss := ⟨h.hp.below hb h.hp.lt, own_below h.row hb (Nat.le_refl _), h.rel⟩
theorem Dk.chg {S : Nat → Prop} (h : Dk w B b v c ss) (hc : Chg w w' S) (h1 : ¬ S b) (h2 : ∀ k, v.ownBlock = some k → ¬ S k) : Dk w' B b v c ss := ⟨h.hp.chg hc h1, own_chg h.row hc h2, h.rel⟩
theorem Dk.apart (h : Dk w B b v c ss) : v.ownBlock ≠ some b := own_type10 h.row h.hp (by decide)
theorem take_atS (xs : List St) (k : Nat) (h : k < xs.length) : xs.take (k + 1) = xs.take k ++ [xs.getD k St.nil] := by
  rw [List.take_succ_eq_append_getElem h]; simp [List.getD, h]
set_option maxHeartbeats 1600000 in
theorem dnow (h : Dk w B b v c ss) (hl : ss.length ≤ 1000000) : Calls Try.prog 23 #[.pointer (some ⟨b, 0, none⟩)] w fun e w' => e = .returned (.int .i64 c.now) ∧ w = w' := by
  have c1 := h.hp.cell (j := 1) rfl
  have hs := own_seesG stC_len St.nil h.row
  have hrel := h.rel.now
  clear h
  obtain ⟨a, cap, rfl, hc, hm, _, hat⟩ := hs
  unfold maxLen at hm
  have HAT := keepG hat
  clear hat
  go_enter Try.func23, Try.ntmps23
  go_wp2
  go_loopw [3, 4] (fun vn i wr => ∃ (j : Nat) (n : Int), j ≤ ss.length ∧ vn = .int .i64 n ∧ i = .int .i64 j ∧ Hid (nowS (ss.take j) = n) ∧ w = wr) (fun _ i _ => ss.length - (intOf i).toNat)
  case atStart => exact ⟨0, 1, by omega, rfl, rfl, rfl, rfl⟩
  case round =>
    obtain ⟨j, n, hj, rfl, rfl, HN, rfl⟩ := hrel
    by_cases hlt : j < ss.length
    · have hltI : (j : Int) < ss.length := by omega
      obtain ⟨p, off, rfl, hp, hat⟩ := HAT.out (fun e => by rw [e] at hlt; simp at hlt)
      have d0 := hat j hlt 0 (by omega)
      have hT := take_atS ss j hlt
      obtain ⟨s, HS⟩ : ∃ s, Hid (ss.getD j St.nil = s) := ⟨_, rfl⟩
      rw [HS.out] at d0 hT
      simp only [List.getElem?_cons_zero, Nat.add_zero] at d0
      have hnl := (nowS_le (ss.take j)).2
      have hnl1 := (nowS_le (ss.take j)).1
      have htl := List.length_take_le j ss
      rw [HN.out] at hnl hnl1
      have HT : Hid (nowS (ss.take (j + 1)) = nwF n s) := by show _ = _; rw [hT, nowS_more, HN.out]
      have hnb : n ≤ 1000001 := by omega
      have hw1 : IntKind.i64.wrap (n + 1) = n + 1 := by rw [IntKind.wrap_i64]; omega
      clear hT hat htl hnl
      obtain ⟨sk, sx⟩ := s
      simp only at d0
      by_cases hk : sk = 3
      · subst hk
        go_wp2
        go_roundw
        case rel => exact ⟨j + 1, n + 1, by omega, rfl, by go_num, by show _ = _; rw [HT.out]; rfl, by first | rfl | trivial⟩
        case measure => simp [intOf]; omega
      · have hkb : (sk == 3) = false := by simpa using hk
        go_wp2
        go_roundw
        case rel => exact ⟨j + 1, n, by omega, rfl, by go_num, by show _ = _; rw [HT.out]; exact if_neg hk, by first | rfl | trivial⟩
        case measure => simp [intOf]; omega
    · have hltI : ¬ (j : Int) < ss.length := by omega
      have hn : n = c.now := by rw [← HN.out, List.take_of_length_le (by omega)]; assumption
      subst hn
      go_wp2
      go_ret
      exact ⟨rfl, rfl⟩
set_option maxHeartbeats 3200000 in
theorem din (h : Dk w B b v c ss) (hk : c.Ok) (hl : ss.length ≤ 1000000) (x : Int) (hx : c.has x = true) {y : Int} {r : Bool} (HY : Hid (c.at x = y)) (HR : Hid ((y != 0) = r)) : Calls Try.prog 22 #[.pointer (some ⟨b, 0, none⟩), .int .i64 x] w fun e w' => e = .returned (.tuple #[.int .i64 y, .bool r]) ∧ Below w.heap.size w w' := by
  have HH := keepG (fun (wr : World) (hb : Below w.heap.size w wr) => h.below hb)
  have hrel2 := h.rel.each x hx
  rw [HY.out] at hrel2
  have hy0 := (hk.at_le x).1
  rw [HY.out] at hy0
  obtain ⟨a, cap, ev, hc, hm⟩ := (own_seesG stC_len St.nil h.row).shape
  subst ev
  have HREL := keepG hrel2
  clear h hrel2
  go_enter Try.func22, Try.ntmps22
  go_wp2
  go_loopw [6, 7, 8] (fun vn va i wr => ∃ (j : Nat) (n t : Int), j ≤ ss.length ∧ vn = .int .i64 n ∧ va = .int .i64 t ∧ i = .int .i64 j ∧ Hid (inS x (ss.take j) = (n, t)) ∧ Hid (Below w.heap.size w wr)) (fun _ _ i _ => ss.length - (intOf i).toNat)
  case atStart => exact ⟨0, 1, 0, by omega, rfl, rfl, rfl, rfl, Below.refl _ _⟩
  case round =>
    obtain ⟨j, n, t, hj, rfl, rfl, rfl, HN, HB⟩ := hrel
    rename World => wr
    have HD := HH.out wr HB.out
    have c1 := HD.hp.cell (j := 1) rfl
    by_cases hlt : j < ss.length
    · have hltI : (j : Int) < ss.length := by omega
      obtain ⟨a', cap', ev, _, _, _, hat⟩ := own_seesG stC_len St.nil HD.row
      simp only [Value.slice.injEq, true_and] at ev
      obtain ⟨rfl, rfl⟩ := ev
      obtain ⟨p, off, rfl, hp, hat⟩ := hat (fun e => by rw [e] at hlt; simp at hlt)
      have d0 := hat j hlt 0 (by omega)
      have d1 := hat j hlt 1 (by omega)
      have hT := take_atS ss j hlt
      obtain ⟨s, HS⟩ : ∃ s, Hid (ss.getD j St.nil = s) := ⟨_, rfl⟩
      rw [HS.out] at d0 d1 hT
      simp only [List.getElem?_cons_zero, List.getElem?_cons_succ, Nat.add_zero] at d0 d1
      have hnl := nowS_le (ss.take j)
      have htl := List.length_take_le j ss
      rw [← inS_now x, HN.out] at hnl
      simp only at hnl
      have HT : Hid (inS x (ss.take (j + 1)) = stF x (n, t) s) := by show _ = _; rw [hT, inS_more, HN.out]
      have hnb : n ≤ 1000001 := by omega
      have hnb1 := hnl.1
      have hw1 : IntKind.i64.wrap (n + 1) = n + 1 := by rw [IntKind.wrap_i64]; omega
      clear hT hat htl hnl HD
      obtain ⟨sk, sx⟩ := s
      simp only at d0 d1
      obtain ⟨X, HX, hbX, HPX⟩ : ∃ X, Hid (wr.alloc (.cells #[.int .i64 sk, .int .i64 sx] 52) = X) ∧ Below wr.heap.size wr X ∧ Hid (Hp X wr.heap.size 52 (stC ⟨sk, sx⟩)) := ⟨_, rfl, below_allocG _ _, Hp.new wr (stC ⟨sk, sx⟩) _⟩
      have q0 := HPX.out.cell (j := 0) rfl
      have q1 := HPX.out.cell (j := 1) rfl
      have HBX := keepG (HB.out.trans (hbX.mono HB.out.size))
      by_cases hk3 : sk = 3
      · subst hk3
        go_wp2_with (rw [HX.out])
        go_roundw
        case rel => exact ⟨j + 1, n + 1, t, by omega, rfl, rfl, by go_num, by show _ = _; rw [HT.out]; rfl, HBX.out⟩
        case measure => simp [intOf]; omega
      · have hkb : (sk == 3) = false := by simpa using hk3
        by_cases hsx : sx = x
        · subst hsx
          by_cases hk1 : sk = 1
          · subst hk1
            go_wp2_with (rw [HX.out])
            go_roundw
            case rel => exact ⟨j + 1, n, n, by omega, rfl, rfl, by go_num, by show _ = _; rw [HT.out]; simp [stF], HBX.out⟩
            case measure => simp [intOf]; omega
          · have hk1b : (sk == 1) = false := by simpa using hk1
            go_wp2_with (rw [HX.out])
            go_roundw
            case rel => exact ⟨j + 1, n, 0, by omega, rfl, rfl, by go_num, by show _ = _; rw [HT.out]; simp [stF, hk3, hk1], HBX.out⟩
            case measure => simp [intOf]; omega
        · have hsb : (sx == x) = false := by simpa using hsx
          go_wp2_with (rw [HX.out])
          go_roundw
          case rel => exact ⟨j + 1, n, t, by omega, rfl, rfl, by go_num, by show _ = _; rw [HT.out]; simp [stF, hk3, hsx], HBX.out⟩
          case measure => simp [intOf]; omega
    · have hltI : ¬ (j : Int) < ss.length := by omega
      have ht : t = y := by
        have := HN.out
        rw [List.take_of_length_le (by omega)] at this
        have h5 := HREL.out
        rw [this] at h5
        exact h5
      subst ht
      have hr : r = decide (t > 0) := by
        rw [← HR.out]
        by_cases h0 : t = 0
        · subst h0; rfl
        · have : 0 < t := by omega
          simp [h0, this]
      subst hr
      clear HR HY
      go_wp2
      go_ret2
      exact ⟨rfl, HB.out⟩
end
end Go.Proofs.Ytkcbiiiakkpegaa
