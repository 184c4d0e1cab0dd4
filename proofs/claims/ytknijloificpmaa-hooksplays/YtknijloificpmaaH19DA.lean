
/-
  The document's table of layer 19: what happened, in its order; Current. Condition: it lies where the pointer says, its row is the call's own.
-/
import Derived.Test.YtknijloificpmaaTk
import Derived.Test.YtknijloificpmaaH19Plain
import Derived.Test.YtknijloificpmaaGObj
import Derived.Test.YtknijloificpmaaGSees
import Derived.Deep.RegionHeld3
import Derived.Deep.RegionHeldLaw
namespace Go.Proofs.Ytknijloificpmaa
open Go.RowKit
set_option linter.unusedVariables false
set_option linter.unusedSimpArgs false
set_option maxRecDepth 100000

/-- A step: the hook, the program, the version. -/
structure S3 where
  h : Int
  p : Int
  v : Int
def S3.nil : S3 := ⟨0, 0, 0⟩
abbrev s3C (s : S3) : List Value := [.int .i64 s.h, .int .i64 s.p, .int .i64 s.v]
theorem s3C_len (s : S3) : (s3C s).length = 3 := rfl
theorem s3_one (s : S3) : ∀ u ∈ s3C s, u.oneCell' = true := by
  intro u hu
  simp only [s3C, List.mem_cons, List.not_mem_nil, or_false] at hu
  rcases hu with rfl | rfl | rfl <;> rfl
def slF (x : Int) (a : Sl) (s : S3) : Sl := if s.h = x then ⟨s.v, s.p⟩ else a
/-- What stands at a hook behind all that. -/
def slotS (x : Int) (ss : List S3) : Sl := ss.foldl (slF x) Sl.nil
theorem slotS_more (x : Int) (ss : List S3) (s : S3) : slotS x (ss ++ [s]) = slF x (slotS x ss) s := by simp [slotS]
/-- What happened belongs to a table. -/
def RelT (t : Tb) (ss : List S3) : Prop := ∀ x, slotS x ss = t.slot x
theorem RelT.new (n : Nat) : RelT (Tb.new n) [] := fun x => by
  cases hh : (Tb.new n).has x with
  | false => rw [Tb.slot_no hh]; rfl
  | true =>
    obtain ⟨k, rfl, hk⟩ := Tb.has_nat hh
    rw [Tb.slot_nat]
    have hk' : k < n := by simpa [Tb.new] using hk
    simp [slotS, Tb.new, List.getD, hk']
theorem RelT.put {t : Tb} {ss : List S3} (h : RelT t ss) {k : Nat} (hk : k < t.at'.length) (p v la : Int) : RelT ⟨la, t.at'.set k ⟨v, p⟩⟩ (ss ++ [⟨k, p, v⟩]) := fun x => by
  rw [slotS_more, slot_set hk, h x]
  unfold slF
  by_cases e : x = k
  · rw [if_pos e.symm, if_pos e]
  · rw [if_neg (fun e' => e e'.symm), if_neg e]
theorem RelT.last {t : Tb} {ss : List S3} (h : RelT t ss) (la : Int) : RelT ⟨la, t.at'⟩ ss := fun x => h x
/-- The document's table, at a block. -/
structure Dt (w : World) (B b : Nat) (v : Value) (t : Tb) (ss : List S3) : Prop where
  hp : Hp w b 31 [.int .i64 t.at'.length, .int .i64 t.last, v]
  row : w.ownsRow B 61 3 v ss.length (flatG s3C ss)
  rel : RelT t ss
section
variable {w w' : World} {B b : Nat} {v : Value} {t : Tb} {ss : List S3}
theorem Dt.below (h : Dt w B b v t ss) (hb : Below w.heap.size w w') : Dt w' B b v t ss := ⟨h.hp.below hb h.hp.lt, own_below h.row hb (Nat.le_refl _), h.rel⟩
theorem Dt.chg {S : Nat → Prop} (h : Dt w B b v t ss) (hc : Chg w w' S) (h1 : ¬ S b) (h2 : ∀ k, v.ownBlock = some k → ¬ S k) : Dt w' B b v t ss := ⟨h.hp.chg hc h1, own_chg h.row hc h2, h.rel⟩
theorem Dt.apart (h : Dt w B b v t ss) : v.ownBlock ≠ some b := own_type10 h.row h.hp (by decide)
theorem take_atS3 (xs : List S3) (k : Nat) (h : k < xs.length) : xs.take (k + 1) = xs.take k ++ [xs.getD k S3.nil] := by
  rw [List.take_succ_eq_append_getElem h]; simp [List.getD, h]
set_option maxHeartbeats 3200000 in
theorem dcurrent (h : Dt w B b v t ss) (hk : t.Ok) (hl : ss.length ≤ 1000000) (x : Int) {cv cp : Int} {r : Bool} (HC : Hid (t.cur x = (cv, cp, r))) : Calls Try.prog 12 #[.pointer (some ⟨b, 0, none⟩), .int .i64 x] w fun e w' => e = .returned (.tuple #[.int .i64 cv, .int .i64 cp, .bool r]) ∧ Below w.heap.size w w' := by
  have c2 := h.hp.cell (j := 2) rfl
  have hs := own_seesG s3C_len S3.nil h.row
  have hc := HC.out
  unfold Tb.cur Tb.taken at hc
  rw [← h.rel x] at hc
  have hv0 := (hk.slot x).1
  rw [← h.rel x] at hv0
  obtain ⟨sl, HSL⟩ : ∃ sl, Hid (slotS x ss = sl) := ⟨_, rfl⟩
  rw [HSL.out] at hc hv0
  injection hc with e1 hc
  injection hc with e2 e3
  have HR : Hid (decide (sl.v > 0) = r) := by
    show _ = _
    rw [← e3]
    by_cases h0 : sl.v = 0
    · rw [h0]; rfl
    · have : 0 < sl.v := by omega
      simp [h0, this]
  clear h HC e3 hv0
  obtain ⟨a, cap, rfl, hcp, hm, _, hat⟩ := hs
  unfold maxLen at hm
  have HAT := keepG hat
  have hw0 : IntKind.i64.wrap ((ss.length : Int) - 1) = (ss.length : Int) - 1 := by rw [IntKind.wrap_i64]; omega
  clear hat
  go_enter Try.func12, Try.ntmps12
  go_wp2
  go_loopw [7] (fun i wr => ∃ (j : Nat) (z : Int), j ≤ ss.length ∧ i = .int .i64 z ∧ Hid (z = (j : Int) - 1) ∧ Hid (slotS x (ss.take j) = sl) ∧ w = wr) (fun i _ => (intOf i + 1).toNat)
  case atStart => exact ⟨ss.length, _, Nat.le_refl _, rfl, rfl, by show _ = _; rw [List.take_length]; exact HSL.out, rfl⟩
  case round =>
    obtain ⟨j, z, hj, rfl, HZ, HS, rfl⟩ := hrel
    cases j with
    | zero =>
      obtain rfl : z = -1 := HZ.out
      have h5 : Sl.nil = sl := HS.out
      have hr := HR.out
      subst h5
      have e1' : (0 : Int) = cv := e1
      have e2' : (0 : Int) = cp := e2
      subst e1' e2'
      have hr' : r = false := by rw [← hr]; rfl
      subst hr'
      clear HS HR hr HSL e1 e2
      go_wp2
      go_ret3
      exact ⟨rfl, Below.refl _ _⟩
    | succ k =>
      obtain rfl : z = (k : Int) := by have := HZ.out; omega
      have hlt : k < ss.length := by omega
      have hltI : (k : Int) < ss.length := by omega
      obtain ⟨p, off, rfl, hp, hat⟩ := HAT.out (fun e => by rw [e] at hlt; simp at hlt)
      have d0 := hat k hlt 0 (by omega)
      have d1 := hat k hlt 1 (by omega)
      have d2 := hat k hlt 2 (by omega)
      have hT := take_atS3 ss k hlt
      obtain ⟨s, HX⟩ : ∃ s, Hid (ss.getD k S3.nil = s) := ⟨_, rfl⟩
      rw [HX.out] at d0 d1 d2 hT
      simp only [List.getElem?_cons_zero, List.getElem?_cons_succ, Nat.add_zero] at d0 d1 d2
      have hS := HS.out
      rw [hT, slotS_more] at hS
      clear hT hat HS HZ
      obtain ⟨sh, sp, sv⟩ := s
      simp only at d0 d1 d2
      by_cases hx : sh = x
      · subst hx
        unfold slF at hS
        rw [if_pos rfl] at hS
        subst hS
        have e1' : sv = cv := e1
        have e2' : sp = cp := e2
        subst e1' e2'
        have hr : decide (sv > 0) = r := HR.out
        clear HR HSL e1 e2
        go_wp2
        refine wp_region_held_drew (S := fun w' => w'.cell? ⟨b, 2, none⟩ = some (.slice (some ⟨p, off, none⟩) ss.length cap) ∧ w'.cell? ⟨p, off + k * 3 + 1, none⟩ = some (.int .i64 sp) ∧ w'.cell? ⟨p, off + k * 3 + 2, none⟩ = some (.int .i64 sv)) (by kernel_rfl) ⟨c2, d1, d2⟩ (fun hHeld => ?_)
        refine tkGo [0, 1, 2, 3, 4, 5, 6, 7, 8, 9, 10, 11, 12, 13, 14, 15, 16, 17, 18, 19, 20, 21, 22, 23, 24, 25, 26, 27] ?_
        repeat (refine tkOne (v := ?_) rfl (by kernel_rfl) (by kernel_rfl) (by kernel_rfl) (fun _ _ _ h => h) (by assumption) (by rfl) ?_ ?_; rotate_left; (intro wy hSw; (try dsimp only at hSw); go_simp; (first | done | with_reducible rfl)); try simp only [Act.put, List.getElem_toArray, List.getElem_cons_zero, List.getElem_cons_succ, List.setIfInBounds_toArray, List.set_cons_zero, List.set_cons_succ])
        refine tkEnd ?_
        refine wpAnyH_done (by kernel_rfl) ?_ _
        clear hHeld
        go_wp2
        go_ret3
        exact ⟨by rw [← hr]; rfl, below_drG (Below.refl _ _)⟩
      · have hxb : (sh == x) = false := by simpa using hx
        unfold slF at hS
        rw [if_neg hx] at hS
        have HS2 := keepG hS
        have hw1 : IntKind.i64.wrap ((k : Int) - 1) = (k : Int) - 1 := by rw [IntKind.wrap_i64]; omega
        clear hS
        go_wp2
        go_roundw
        case rel => exact ⟨k, (k : Int) - 1, by omega, by first | rfl | go_num, rfl, HS2.out, by first | rfl | trivial⟩
        case measure => first | (simp [intOf]; done) | (simp [intOf]; omega)
end
end Go.Proofs.Ytknijloificpmaa
