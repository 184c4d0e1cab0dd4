
/-
  A list for each shard: the landed Split and the document's. Condition: at most 17592186044416 keys.
-/
import Derived.Test.YtndnhmgfapcgfaaP12Mine
import Derived.Test.YtndnhmgfapcgfaaP12Nums
import Derived.Deep.OwnRows
namespace Go.Proofs.Ytndnhmgfapcgfaa
open Go.RowKit Go.Deep
set_option linter.unusedVariables false
set_option maxRecDepth 20000

theorem grown_setp (w : World) (a : Addr) (u : Value) : w.grownBy (w.setCell a u) (some a.block) :=
  ⟨rfl, rfl, rfl, by rw [nblk_setCell]; exact Nat.le_refl _, fun k _ hk => blk_setCell_other _ _ _ _ (fun e => hk (by rw [e]))⟩
theorem below_setp {B : Nat} {w Z : World} {n j : Nat} {v : Value} (h : Below B w Z) (hn : B ≤ n) : Below B w (Z.setCell ⟨n, j, none⟩ v) :=
  ⟨h.os, h.tape, h.output, by rw [nblk_setCell]; exact h.size, fun k hk => (blk_setCell_other _ _ _ _ (by show k ≠ n; omega)).trans (h.block k hk)⟩
theorem own_weak {w : World} {b b' : Nat} {e : TypeId} {z : Nat} {v : Value} {n : Nat} {xs : List Value} (h : w.ownsRow b e z v n xs) (hb : b' ≤ b) : w.ownsRow b' e z v n xs := by
  rcases h with ⟨h1, h2 | ⟨g, cap, cur, hv, hg, r⟩⟩
  · exact ⟨h1, .inl h2⟩
  · exact ⟨h1, .inr ⟨g, cap, cur, hv, Nat.le_trans hb hg, r⟩⟩
theorem own_twop {w : World} {B B' : Nat} {e e' : TypeId} {z z' : Nat} {v v' : Value} {n n' : Nat} {xs xs' : List Value} (h : w.ownsRow B e z v n xs) (h' : w.ownsRow B' e' z' v' n' xs') (hne : e ≠ e') : v.ownBlock = none ∨ v.ownBlock ≠ v'.ownBlock := by
  rcases h with ⟨_, ⟨rfl, _⟩ | ⟨g, cap, cur, rfl, _, hh, _⟩⟩
  · exact .inl rfl
  rcases h' with ⟨_, ⟨rfl, _⟩ | ⟨g', cap', cur', rfl, _, hh', _⟩⟩
  · exact .inr (by simp [Value.ownBlock])
  · refine .inr fun e3 => ?_
    have e4 : g = g' := by simpa [Value.ownBlock] using e3
    subst e4
    rw [hh] at hh'
    injection hh' with h1
    injection h1 with _ h2
    exact hne h2
/-- Lists, one for each shard, as the landed Split makes them: a row of slices, each with memory of its own. -/
structure Rw (w : World) (N : Nat) (V : Nat → Value) (R : Nat → List Int) (wr : World) : Prop where
  g : Below w.heap.size w wr
  out : wr.rowIs w.heap.size 26 N V
  own : ∀ p, p < N → wr.ownsRow (w.heap.size + 1) 22 1 (V p) (R p).length ((R p).map (Value.int .u64))
  two : ∀ p q, p < N → q < N → p ≠ q → (V p).ownBlock = none ∨ (V p).ownBlock ≠ (V q).ownBlock
theorem Rw.congr {w wr : World} {N : Nat} {V : Nat → Value} {R R' : Nat → List Int} (h : Rw w N V R wr) (e : ∀ p, p < N → R p = R' p) : Rw w N V R' wr :=
  ⟨h.g, h.out, fun p hp => by rw [← e p hp]; exact h.own p hp, h.two⟩
theorem Rw.start (w : World) (N : Nat) : Rw w N (fun _ => .slice none 0 0) (fun _ => []) (w.alloc (.cells (madeCells #[.slice none 0 0] N) 26)) :=
  ⟨(Below.refl _ _).alloc (Nat.le_refl _) _, World.rowIs_made _ _ _ _, fun _ _ => World.ownsRow_nil _ _ _ _, fun _ _ _ _ _ => .inl rfl⟩
theorem Rw.next {w wr w1 : World} {N : Nat} {V : Nat → Value} {R : Nat → List Int} (h : Rw w N V R wr) (hb : Below wr.heap.size wr w1) : Rw w N V R w1 :=
  ⟨h.g.trans (hb.mono h.g.size), h.out.of_block (hb.block _ h.out.lt), fun p hp => own_below (h.own p hp) hb (Nat.le_refl _), h.two⟩
/-- A list is laid in. -/
theorem Rw.put {w wr w1 : World} {N : Nat} {V : Nat → Value} {R : Nat → List Int} (h : Rw w N V R wr) {p : Nat} (hp : p < N) {v' : Value} {ys : List Int} (hb : Below wr.heap.size wr w1)
    (hown : w1.ownsRow wr.heap.size 22 1 v' ys.length (ys.map (Value.int .u64))) :
    Rw w N (fun j => if j = p then v' else V j) (fun j => if j = p then ys else R j) (w1.setCell ⟨w.heap.size, p, none⟩ v') := by
  have hs := h.g.size
  have hlt := h.out.lt
  have hn := h.next hb
  have hl : ∀ q, q < N → ∀ k, (V q).ownBlock = some k → w.heap.size + 1 ≤ k ∧ k < wr.heap.size := fun q hq k hk => (h.own q hq).lt k hk
  have hkeep : ∀ {v : Value} {n : Nat} {xs : List Value}, w1.ownsRow (w.heap.size + 1) 22 1 v n xs → (w1.setCell ⟨w.heap.size, p, none⟩ v').ownsRow (w.heap.size + 1) 22 1 v n xs := fun {v n xs} hv => by
    refine hv.kept (grown_setp w1 _ _) ?_
    cases hb : v.ownBlock with
    | none => exact .inl rfl
    | some k =>
      right
      intro e
      have e : k = w.heap.size := by injection e
      have := (hv.lt k hb).1
      omega
  refine ⟨below_setp hn.g (Nat.le_refl _), hn.out.set p v', fun q hqN => ?_, fun a b ha hb' hab => ?_⟩
  · by_cases e : q = p
    · subst e
      rw [if_pos rfl, if_pos rfl]
      exact hkeep (own_weak hown (by omega))
    · rw [if_neg e, if_neg e]
      exact hkeep (hn.own q hqN)
  · have hnew : ∀ q, q < N → ∀ k, v'.ownBlock = some k → (V q).ownBlock ≠ some k := fun q hq k hk e => by
      have h1 := (hown.lt k hk).1
      have h2 := (hl q hq k e).2
      omega
    by_cases e1 : a = p
    · have e2 : b ≠ p := fun e2 => hab (e1.trans e2.symm)
      rw [if_pos e1, if_neg e2]
      cases hv : v'.ownBlock with
      | none => exact .inl rfl
      | some k => exact .inr fun e => hnew b hb' k hv e.symm
    · rw [if_neg e1]
      by_cases e2 : b = p
      · rw [if_pos e2]
        cases hv : (V a).ownBlock with
        | none => exact .inl rfl
        | some k => exact .inr fun e => hnew a ha k e.symm hv
      · rw [if_neg e2]; exact h.two a b ha hb' hab
theorem Try.infoRowp : (Try.prog.info? 26).map (fun i => (i.zero, i.size, i.bytes)) = some (some (.slice none 0 0), 1, 24) := by kernel_rfl
theorem own_shapep {w : World} {base : Nat} {e : TypeId} {z : Nat} {v : Value} {n : Nat} {xs : List Value} (h : w.ownsRow base e z v n xs) : ∃ a cap, v = .slice a n cap ∧ n ≤ cap ∧ cap ≤ maxLen := by
  rcases h with ⟨h1, ⟨rfl, h2⟩ | ⟨g, cap, cur, hv, hg, hh, h3, h4, _⟩⟩
  · exact ⟨none, 0, by rw [h2], by omega, by simp [maxLen]⟩
  · exact ⟨_, cap, hv, h3, h4⟩
set_option maxHeartbeats 800000 in
theorem lsplit_ok (N : Nat) (v : Value) (xs : List Int) (w : World) (hN1 : 1 ≤ N) (hN4 : N ≤ 4) (hs : Sees .u64 w v xs) (hlen : xs.length ≤ 17592186044416) :
    Calls Try.prog 10 #[.int .i64 N, v] w fun e w' => ∃ V, e = .returned (.slice (some ⟨w.heap.size, 0, none⟩) N N) ∧ Rw w N V (fun p => mineL p N xs) w' := by
  have HS : Hid (Sees .u64 w v xs) := hs
  obtain ⟨a, cap, rfl⟩ := hs.shape
  clear hs
  have hmk := run_make_row' (P := Try.prog) 27 26 (.slice none 0 0) 24 Try.underlying27 Try.infoRowp rfl .i64 .i64 N (by omega) (by omega)
  go_enter Try.func10, Try.ntmps10
  go_wp2
  clear hmk
  go_loopw [17] (fun i wr => ∃ (k : Nat) (V : Nat → Value), k ≤ N ∧ i = .int .i64 k ∧ Hid (Rw w N V (fun p => if p < k then mineL p N xs else []) wr)) (fun i _ => N - (intOf i).toNat)
  case atStart => exact ⟨0, fun _ => .slice none 0 0, by omega, rfl, (Rw.start w N).congr fun p _ => by rw [if_neg (by omega)]⟩
  case round =>
    rename World => w0
    obtain ⟨k, V, hk, rfl, HB⟩ := hrel
    have hsz := HB.out.g.size
    by_cases hlt : k < N
    · have HS0 := HS.out.below HB.out.g (Nat.le_refl _)
      go_wp2_with (go_at_call 13; go_must (refine (lmine_any k N _ xs _ HS0 hlen (by omega)).mono ?_); rintro e w1 ⟨v1, rfl, hown, hbe⟩; have hn := HB.out.next hbe; have hcv := hn.out.cell (i := k) (by omega); have hfz := hn.out.frozen k; have hlt1 := hn.out.lt; have HP : Hid _ := HB.out.put (p := k) (by omega) hbe hown; obtain ⟨a1, c1, rfl, _⟩ := own_shapep hown; clear hn hown hbe)
      go_roundw
      case rel =>
        refine ⟨k + 1, _, by omega, by go_num, HP.out.congr fun p hp => ?_⟩
        by_cases e : p = k
        · subst e; rw [if_pos rfl, if_pos (by omega)]
        · rw [if_neg e]
          by_cases h1 : p < k
          · rw [if_pos h1, if_pos (by omega)]
          · rw [if_neg h1, if_neg (by omega)]
      case measure => simp [intOf]; omega
    · obtain rfl : k = N := by omega
      go_wp2
      go_ret
      exact ⟨V, rfl, HB.out.congr fun p hp => by rw [if_pos hp]⟩
theorem lsplit_no (s : Int) (v : Value) (w : World) (hs : s < 1 ∨ 4 < s) (hsb : -9223372036854775808 ≤ s ∧ s ≤ 9223372036854775807) :
    Calls Try.prog 10 #[.int .i64 s, v] w fun e w' => e = .returned (.slice none 0 0) ∧ w = w' := by
  rcases hs with h | h
  · go_enter Try.func10, Try.ntmps10
    go_wp2
    go_ret
    exact ⟨rfl, rfl⟩
  · go_enter Try.func10, Try.ntmps10
    go_wp2
    go_ret
    exact ⟨rfl, rfl⟩
theorem rsplit_no (s : Int) (v : Value) (w : World) (hs : s < 1 ∨ 4 < s) (hsb : -9223372036854775808 ≤ s ∧ s ≤ 9223372036854775807) :
    Calls Try.prog 11 #[.int .i64 s, v] w fun e w' => e = .returned (.slice none 0 0) ∧ w = w' := by
  rcases hs with h | h
  · go_enter Try.func11, Try.ntmps11
    go_wp2
    go_ret
    exact ⟨rfl, rfl⟩
  · go_enter Try.func11, Try.ntmps11
    go_wp2
    go_ret
    exact ⟨rfl, rfl⟩
/-- Lists as the document's Split makes them: a row of the call's own, each list the call's own. -/
structure Rl (w : World) (k : Nat) (v : Value) (R : Nat → List Int) (vs : List Value) (wr : World) : Prop where
  g : Below w.heap.size w wr
  row : wr.ownsRow w.heap.size 26 1 v k vs
  own : ∀ p, p < k → wr.ownsRow w.heap.size 22 1 (vs.getD p (.slice none 0 0)) (R p).length ((R p).map (Value.int .u64))
theorem Rl.next {w wr w1 : World} {k : Nat} {v : Value} {R : Nat → List Int} {vs : List Value} (h : Rl w k v R vs wr) (hb : Below wr.heap.size wr w1) : Rl w k v R vs w1 :=
  ⟨h.g.trans (hb.mono h.g.size), own_below h.row hb (Nat.le_refl _), fun p hp => own_below (h.own p hp) hb (Nat.le_refl _)⟩
theorem Rl.push {w wr w1 w2 : World} {k : Nat} {v v' : Value} {R : Nat → List Int} {vs : List Value} {u : Value} {o : Obj} (h : Rl w k v R vs wr) (hb : Below wr.heap.size wr w1) (hu : w1.ownsRow wr.heap.size 22 1 u (R k).length ((R k).map (Value.int .u64)))
    (hown : w2.ownsRow w.heap.size 26 1 v' (k + 1) (vs ++ [u])) (hg : (w1.alloc o).grownBy w2 v.ownBlock) : Rl w (k + 1) v' R (vs ++ [u]) w2 := by
  have hs := h.g.size
  have hn := h.next hb
  have hs1 := hb.size
  have hl : vs.length = k := by have := h.row.1; omega
  refine ⟨(hn.g.alloc (by omega) o).grown hg (by simp; omega) (fun j hj => (h.row.lt j hj).1), hown, fun p hp => ?_⟩
  have hkeep : ∀ {v : Value} {n : Nat} {xs : List Value}, w1.ownsRow w.heap.size 22 1 v n xs → w2.ownsRow w.heap.size 22 1 v n xs := fun {v n xs} hv => (hv.alloc o).kept hg (own_twop hv hn.row (by decide))
  by_cases e : p = k
  · subst e
    rw [show (vs ++ [u]).getD p (.slice none 0 0) = u by simp [List.getD, ← hl]]
    exact hkeep (own_weak hu (by omega))
  · rw [show (vs ++ [u]).getD p (.slice none 0 0) = vs.getD p (.slice none 0 0) by simp [List.getD, List.getElem?_append_left (show p < vs.length by omega)]]
    exact hkeep (hn.own p (by omega))
set_option maxHeartbeats 800000 in
theorem rsplit_ok (N : Nat) (v : Value) (xs : List Int) (w : World) (hN1 : 1 ≤ N) (hN4 : N ≤ 4) (hs : Sees .u64 w v xs) (hlen : xs.length ≤ 17592186044416) :
    Calls Try.prog 11 #[.int .i64 N, v] w fun e w' => ∃ v' vs, e = .returned v' ∧ Rl w N v' (fun p => mineL p N xs) vs w' := by
  obtain ⟨i0, hi, hz0, hz1, hz2⟩ := info_parts Try.infoRowp
  have HS : Hid (Sees .u64 w v xs) := hs
  obtain ⟨a, cap, rfl⟩ := hs.shape
  clear hs
  go_enter Try.func11, Try.ntmps11
  go_wp2
  go_loopw [5, 6] (fun u i wr => ∃ (k : Nat) (vs : List Value), k ≤ N ∧ i = .int .i64 k ∧ Hid (Rl w k u (fun p => mineL p N xs) vs wr)) (fun _ i _ => N - (intOf i).toNat)
  case atStart => exact ⟨0, [], by omega, rfl, ⟨Below.refl _ _, World.ownsRow_nil _ _ _ _, fun p hp => by omega⟩⟩
  case round =>
    rename World => w0
    rename_i u
    obtain ⟨k, vs, hk, rfl, HB⟩ := hrel
    have hsz := HB.out.g.size
    by_cases hlt : k < N
    · have HS0 := HS.out.below HB.out.g (Nat.le_refl _)
      go_wp2_with (first
        | (go_at_call 14; go_must (refine (rmine_any k N _ xs _ HS0 hlen (by omega)).mono ?_); rintro e w1 ⟨v1, rfl, hown, hbe⟩; have hn := HB.out.next hbe; obtain ⟨a1, c1, rfl, _⟩ := own_shapep hown; have hsz1 := hn.g.size)
        | (at_builtin; go_must (refine wpList_append_own_at _ rfl _ _ 27 rfl w.heap.size 26 i0 (.slice none 0 0) 1 24 Try.underlying27 hi hz0 hz1 hz2 rfl (by decide) _ _ _ rfl (hn.row.alloc _) ⟨_, 0, none⟩ 1 1 [_] rfl rfl (cell_one_new _ _ _) (by intro u hu; simp at hu; subst hu; rfl) (by unfold maxLen; omega) (by omega) (by simp; omega) ?_); intro v' w2 hown' hgrow _ _; have HP : Hid _ := HB.out.push hbe hown hown' hgrow; clear hown' hgrow hn))
      go_roundw
      case rel => exact ⟨k + 1, _, by omega, by go_num, HP.out⟩
      case measure => simp [intOf]; omega
    · obtain rfl : k = N := by omega
      go_wp2
      go_ret
      exact ⟨_, vs, rfl, HB.out⟩
end Go.Proofs.Ytndnhmgfapcgfaa
