/-
  SpanOrder, walked: it answers true. Condition: the slice reads as spans of numbers of 64 bits, at most 1048576 of them.
-/
import Derived.Test.YtammakfpmimljaaS6WAsks
import Derived.Test.YtammakfpmimljaaS6WJoins
import Derived.Deep.RegionHeldLaw
import Derived.Deep.RegionWith
namespace Go.Proofs.Ytammakfpmimljaa
open Go.RowKit
set_option linter.unusedVariables false
set_option linter.unusedSimpArgs false
set_option maxRecDepth 20000

/-- Appending to a row of the call's own, as one step of a region that draws its order. -/
theorem step_append_seesS {P : Program} {w : World} {ops : Array Oper} {o : Oper} {a : Act} {K : Act → World → Prop} {Q : Exit → Act → World → Prop} {E : Prop} (hgd : o.guard = none) (s x : Operand) (t : TypeId)
    (ho : o.op = .call { callee := .builtin .append, args := #[s, x], argTypes := #[t, t] })
    (base : Nat) (e : TypeId) (i : TypeInfo) (z : Value) (ht : P.underlying t = some (.slice e)) (hi : P.info? e = some i) (hz : i.zero = some z)
    (hsize : i.size = 2) (hby : i.bytes = 16) (hzs : z.cells.size = 2)
    (v : Value) (xs : List Sp) (hs : a.eval s = v) (hown : w.ownsRow base e 2 v xs.length (flatS xs))
    (src : Value) (ys : List Sp) (hx : a.eval x = src) (hsee : SeesS w src ys) (hne : ys ≠ [])
    (h63 : xs.length + ys.length ≤ maxLen) (hbytes : (xs.length + ys.length) * 16 ≤ 140737488355328) (hbase : base ≤ w.heap.size)
    (h : ∀ v' w', w'.ownsRow base e 2 v' (xs ++ ys).length (flatS (xs ++ ys)) → w.grownBy w' v.ownBlock → K (a.put o.dst v') w') : if Region.wanted o (yielded ops a.tmps) = true then Oper.wp P o a w K Q else E := by
  have hw : Region.wanted o (yielded ops a.tmps) = true := by simp [Region.wanted, hgd]
  rw [if_pos hw]
  obtain ⟨ad, cap, rfl, hl, hm, hn0, hc⟩ := hsee
  obtain ⟨b, off, rfl, hlt, hat⟩ := hc hne
  refine wp_append_own w s x t ho base e i z 2 16 ht hi hz hsize hby hzs (by decide) v _ _ hs hown ⟨b, off, none⟩ ys.length cap (flatS ys) hx (flatS_len ys) (flatS_cells hat) (flatS_one ys) h63 hbytes hbase ?_
  intro v' w' h1 h2 _
  exact h v' w' (by rw [flatS_app, ← List.length_append] at h1; exact h1) h2
/-- What the first loop has behind it: a list of its own, twice as long, of just the spans from k on. -/
def Bk (w1 wr : World) (e : TypeId) (v : Value) (ss : List Sp) (k : Nat) (r : Bool) : Prop :=
  ∃ ts : List Sp, wr.ownsRow w1.heap.size e 2 v ts.length (flatS ts) ∧ ts.length = 2 * (ss.length - k) ∧ (∀ s, s ∈ ts ↔ s ∈ ss.drop k) ∧ r = (decide (0 < ss.length) && (ss.drop k).all okS) ∧ Below w1.heap.size w1 wr
theorem bk_new (w1 : World) (e : TypeId) (ss : List Sp) (r : Bool) (h : r = decide (0 < ss.length)) : Bk w1 w1 e (.slice none 0 0) ss ss.length r := by
  refine ⟨[], ⟨rfl, .inl ⟨rfl, rfl⟩⟩, by simp, by simp, by simp [h], Below.refl _ _⟩
theorem drop_at (ss : List Sp) (j : Nat) (hj : j < ss.length) : ss.drop j = ss.getD j (0, 0) :: ss.drop (j + 1) := by
  rw [List.drop_eq_getElem_cons hj]
  simp [List.getD, hj]
theorem bk_step {w1 W w2 w3 : World} {e : TypeId} {v v2 : Value} {ss ts : List Sp} {j : Nat} {b : Bool} {y Y : Int} (hj : j < ss.length) (hY : ss.getD j (0, 0) = (y, Y))
    (HT : ts.length = 2 * (ss.length - (j + 1)) ∧ (∀ s, s ∈ ts ↔ s ∈ ss.drop (j + 1)) ∧ b = (decide (0 < ss.length) && (ss.drop (j + 1)).all okS) ∧ Below w1.heap.size w1 w3) (hbW : Below w1.heap.size w1 W)
    (hown : W.ownsRow w1.heap.size e 2 v ts.length (flatS ts)) (hown2 : w2.ownsRow w1.heap.size e 2 v2 (ts ++ [(y, Y), (y, Y)]).length (flatS (ts ++ [(y, Y), (y, Y)]))) (hg : W.grownBy w2 v.ownBlock) : Bk w1 w2 e v2 ss j (b && decide (y ≤ Y)) := by
  obtain ⟨h1, h2, h3, -⟩ := HT
  refine ⟨ts ++ [(y, Y), (y, Y)], hown2, by simp; omega, fun s => ?_, ?_, hbW.grown hg hbW.size (fun k hk => (hown.lt k hk).1)⟩
  · rw [drop_at ss j hj, hY, List.mem_append, h2 s]
    simp [or_comm]
  · rw [drop_at ss j hj, hY, h3, List.all_cons]
    show _ = (decide (0 < ss.length) && (decide (y ≤ Y) && (List.drop (j + 1) ss).all okS))
    cases decide (0 < ss.length) <;> cases decide (y ≤ Y) <;> cases (List.drop (j + 1) ss).all okS <;> rfl
theorem Bk.next {w1 w2 w3 : World} {e : TypeId} {v : Value} {ss : List Sp} {k : Nat} {b : Bool} (h : Bk w1 w2 e v ss k b) (hb : Below w2.heap.size w2 w3) : Bk w1 w3 e v ss k b := by
  obtain ⟨ts, h1, h2, h3, h4, h5⟩ := h
  exact ⟨ts, own_below h1 hb (Nat.le_refl _), h2, h3, h4, h5.trans (hb.mono h5.size)⟩
theorem opt_c {P c : Bool} {s : Int × Int} {x y : Int} (h : Hid (optV (if P = true then some s else none) = .tuple #[.agg #[.int .u64 x, .int .u64 y], .bool c])) : c = P ∧ (P = true → x = s.1 ∧ y = s.2) := by
  have h := h.out
  cases P
  · simp [optV] at h
    exact ⟨h.2, fun h => by simp at h⟩
  · simp [optV] at h
    exact ⟨h.2, fun _ => ⟨h.1.1.symm, h.1.2.symm⟩⟩
theorem within_ok {a A l L : Int} (h : a ≤ A) (h1 : l ≤ a) (h2 : A ≤ L) : true = withinB a A l L := by
  unfold withinB hasB
  rw [decide_eq_true h, decide_eq_true (show l ≤ L by omega), decide_eq_true h1, decide_eq_true (show a ≤ L by omega), decide_eq_true (show l ≤ A by omega), decide_eq_true h2]
  rfl
theorem cells_next {w0 w1 : World} {p : Addr} {v : Value} (h : w0.cell? p = some v) (hb : Below w0.heap.size w0 w1) : w1.cell? p = some v := by
  rw [hb.cell (World.block_lt_of_cell? w0 p h)]; exact h
/-- Two boxes, and a list that stays. -/
theorem keepO {wb w0 w1 : World} {b1 o p q : Nat} {y Y x X x' X' : Int} (h : w0.cell? ⟨b1, o, none⟩ = some (.int .u64 y) ∧ w0.cell? ⟨b1, o + 1, none⟩ = some (.int .u64 Y) ∧ w0.cell? ⟨p, 0, none⟩ = some (.int .u64 x) ∧ w0.cell? ⟨p, 1, none⟩ = some (.int .u64 X) ∧ w0.cell? ⟨q, 0, none⟩ = some (.int .u64 x') ∧ w0.cell? ⟨q, 1, none⟩ = some (.int .u64 X') ∧ Hid (Below wb.heap.size wb w0)) (hb : Below w0.heap.size w0 w1) :
    w1.cell? ⟨b1, o, none⟩ = some (.int .u64 y) ∧ w1.cell? ⟨b1, o + 1, none⟩ = some (.int .u64 Y) ∧ w1.cell? ⟨p, 0, none⟩ = some (.int .u64 x) ∧ w1.cell? ⟨p, 1, none⟩ = some (.int .u64 X) ∧ w1.cell? ⟨q, 0, none⟩ = some (.int .u64 x') ∧ w1.cell? ⟨q, 1, none⟩ = some (.int .u64 X') ∧ Hid (Below wb.heap.size wb w1) :=
  ⟨cells_next h.1 hb, cells_next h.2.1 hb, cells_next h.2.2.1 hb, cells_next h.2.2.2.1 hb, cells_next h.2.2.2.2.1 hb, cells_next h.2.2.2.2.2.1 hb, h.2.2.2.2.2.2.out.trans (hb.mono h.2.2.2.2.2.2.out.size)⟩
def OSt (wb wq : World) (p q : Nat) (x X x' X' : Int) : Prop := (wq.cell? ⟨p, 0, none⟩ = some (.int .u64 x) ∧ wq.cell? ⟨p, 1, none⟩ = some (.int .u64 X)) ∧ (wq.cell? ⟨q, 0, none⟩ = some (.int .u64 x') ∧ wq.cell? ⟨q, 1, none⟩ = some (.int .u64 X')) ∧ Below wb.heap.size wb wq
theorem OSt.next {wb wq w1 : World} {p q : Nat} {x X x' X' : Int} (h : OSt wb wq p q x X x' X') (hb : Below wq.heap.size wq w1) : OSt wb w1 p q x X x' X' :=
  ⟨⟨cells_next h.1.1 hb, cells_next h.1.2 hb⟩, ⟨cells_next h.2.1.1 hb, cells_next h.2.1.2 hb⟩, h.2.2.trans (hb.mono h.2.2.size)⟩
set_option maxHeartbeats 3200000 in
theorem order_walk (v : Value) (ss : List (Int × Int)) (w : World) (hs : SeesS w v ss) (hwf : ∀ s ∈ ss, wfS s) (hlen : ss.length ≤ 1048576) :
    Calls Try.prog 8 #[v] w fun e w' => e = .returned (.bool true) ∧ Below w.heap.size w w' := by
  obtain ⟨i0, hi, hz0, hz1, hz2⟩ := info_parts Try.infoSpan
  obtain ⟨av, capv, rfl, hcv, hmv, hnv, hatv⟩ := id hs
  clear hatv hnv
  unfold maxLen at hmv
  have HW : Hid (∀ s ∈ ss, wfS s) := hwf
  clear hwf
  obtain ⟨n, HN⟩ : ∃ n, Hid (n = ss.length) := ⟨_, rfl⟩
  rw [← HN.out] at hcv hlen ⊢
  have HS : Hid (SeesS w (.slice av n capv) ss) := by show SeesS _ _ _; rw [HN.out]; exact hs
  clear hs
  go_enter Try.func8, Try.ntmps8
  go_wp2_with (go_at_call 9; go_must (refine (awake6 _).mono ?_); rintro e w1 ⟨rfl, hb1⟩)
  have HSV : Hid (∀ wx, Below w1.heap.size w1 wx → SeesS wx (.slice av n capv) ss) := fun wx hx => (HS.out.below hb1).below hx
  have HB1 : Hid (Below w.heap.size w w1) := hb1
  clear HS hb1
  go_loopw [3, 4, 5] (fun bk r i wr => ∃ (k : Nat) (b : Bool), k ≤ n ∧ r = .bool b ∧ i = .int .i64 ((k : Int) - 1) ∧ Hid (Bk w1 wr 24 bk ss k b)) (fun _ _ i _ => (intOf i + 1).toNat)
  case atStart => exact ⟨n, decide (0 < n), by omega, by first | rfl | simp, by first | rfl | go_num, by rw [HN.out]; exact bk_new w1 24 ss _ rfl⟩
  case round =>
    obtain ⟨k, b, hk, rfl, rfl, hB⟩ := hrel
    rcases k with _ | j
    · obtain ⟨ts, hown, hT⟩ := hB.out
      have hSB : SeesS wr u3 ts := own_seesS hown
      have hbe : Below w1.heap.size w1 wr := hT.2.2.2
      have HM : Hid (∀ s, s ∈ ss ↔ s ∈ ts) := fun s => by rw [hT.2.1 s]; simp
      obtain ⟨x, y, c, HJ⟩ := optV_as (if joinB ss = true then some (joinL ss) else none)
      obtain ⟨x', y', c', HE⟩ := optV_as (if meetB ss = true then some (meetL ss) else none)
      have HBC : Hid (b = c) := by
        show _ = _
        rw [hT.2.2.1, (opt_c HJ).1, List.drop_zero]
        unfold joinB
        cases ss <;> simp
      have HCC : Hid (c' = true → c = true) := fun h => by
        rw [(opt_c HE).1] at h
        rw [(opt_c HJ).1]
        unfold meetB at h
        rw [Bool.and_eq_true] at h
        exact h.1
      have HQ1 : Hid (c = true → ∀ s ∈ ss, true = withinB s.1 s.2 x y) := fun h s hs => by
        rw [(opt_c HJ).1] at h
        have h2 := (opt_c HJ).2 h
        have h3 := join_holds h hs
        rw [h2.1, h2.2]
        exact within_ok ((joinB_ne h).2 s hs) h3.1 h3.2.1
      have HQ2 : Hid (c' = true → ∀ s ∈ ss, true = withinB x' y' s.1 s.2) := fun h s hs => by
        rw [(opt_c HE).1] at h
        have h2 := (opt_c HE).2 h
        have h3 := meet_holds h hs
        rw [h2.1, h2.2]
        exact within_ok h3.2.2 h3.1 h3.2.1
      have KJ : Hid (∀ wx, Below wr.heap.size wr wx → Calls Try.prog 18 #[.slice av n capv] wx fun e w' => e = .returned (.tuple #[.agg #[.int .u64 x, .int .u64 y], .bool c]) ∧ Below wx.heap.size wx w') := fun wx hx => by rw [← HJ.out]; exact ljoin_any _ ss wx (HSV.out wx (hbe.trans (hx.mono hbe.size))) HW.out
      have KM : Hid (∀ wx, Below wr.heap.size wr wx → Calls Try.prog 20 #[.slice av n capv] wx fun e w' => e = .returned (.tuple #[.agg #[.int .u64 x', .int .u64 y'], .bool c']) ∧ Below wx.heap.size wx w') := fun wx hx => by rw [← HE.out]; exact lmeet_any _ ss wx (HSV.out wx (hbe.trans (hx.mono hbe.size))) HW.out
      have HW2 : Hid (∀ s ∈ ts, wfS s) := fun s hs => HW.out s ((HM.out s).2 hs)
      have KJ2 : Hid (∀ wx, Below wr.heap.size wr wx → Calls Try.prog 18 #[u3] wx fun e w' => e = .returned (.tuple #[.agg #[.int .u64 x, .int .u64 y], .bool c]) ∧ Below wx.heap.size wx w') := fun wx hx => by rw [← HJ.out, joinB_same HM.out, join_same HM.out]; exact ljoin_any _ ts wx (hSB.below hx) HW2.out
      have KM2 : Hid (∀ wx, Below wr.heap.size wr wx → Calls Try.prog 20 #[u3] wx fun e w' => e = .returned (.tuple #[.agg #[.int .u64 x', .int .u64 y'], .bool c']) ∧ Below wx.heap.size wx w') := fun wx hx => by rw [← HE.out, meetB_same HM.out, meet_same HM.out]; exact lmeet_any _ ts wx (hSB.below hx) HW2.out
      obtain ⟨wb, rfl⟩ : ∃ wb : World, wb = wr := ⟨_, rfl⟩
      have HBE : Hid (Below w1.heap.size w1 wb) := hbe
      obtain rfl := HBC.out
      have RC : Hid ((b = false ∧ c' = false) ∨ (b = true ∧ c' = false) ∨ (b = true ∧ c' = true)) := by
        have h := HCC.out
        show _ ∨ _
        cases b <;> cases c' <;> simp at h ⊢
      clear HJ HE hT hSB hbe HM HW2 hown hB HBC HCC
      have P1 : Hid True := trivial
      have P2 : Hid True := trivial
      rcases RC.out with ⟨rfl, rfl⟩ | ⟨rfl, rfl⟩ | ⟨rfl, rfl⟩
      · as_aux_lemma =>
          go_wp2_with (first
            | (go_at_call 18; have hq := P1; clear hq P1; go_must (refine (KJ.out _ (Below.refl _ _)).mono ?_); rintro e w3 ⟨rfl, hB3⟩)
            | (go_at_call 18; go_must (refine (KJ2.out _ (hB3.alloc hB3.size _)).mono ?_); rintro e w4 ⟨rfl, hb4⟩; go_must (have hB4 : Below wb.heap.size wb w4 := grow1 hB3 hB3.size hb4; have q := box_next hb4; obtain ⟨qa, z3⟩ := q; have HA1 : Hid (Bx w4 w3.heap.size x y) := qa; clear hb4 hB3 qa))
            | (go_at_call 20; have hq := P2; clear hq P2; go_must (refine (KM.out _ (hB4.alloc hB4.size _)).mono ?_); rintro e w5 ⟨rfl, hb5⟩; go_must (have hB5 : Below wb.heap.size wb w5 := grow1 hB4 hB4.size hb5; have q := box_next hb5; obtain ⟨qb, z4⟩ := q; have q := HA1.out.next z3 hb5; obtain ⟨qa, z3'⟩ := q; have HA2 : Hid (Bx w5 w3.heap.size x y) := qa; have HB2' : Hid (Bx w5 w4.heap.size x y) := qb; clear hb5 hB4 qa qb z3 HA1))
            | (go_at_call 20; go_must (refine (KM2.out _ (hB5.alloc hB5.size _)).mono ?_); rintro e w6 ⟨rfl, hb6⟩; go_must (have hB6 : Below wb.heap.size wb w6 := grow1 hB5 hB5.size hb6; have q := box_next hb6; obtain ⟨⟨⟨m0, m1⟩, _, _⟩, z5⟩ := q; have q := HA2.out.next z3' hb6; obtain ⟨⟨⟨a0, a1⟩, _, _⟩, z3⟩ := q; have q := HB2'.out.next z4 hb6; obtain ⟨⟨⟨b0, b1⟩, _, _⟩, z4'⟩ := q; clear hb6 hB5 z4 z3' HA2 HB2')))
          have HO : Hid (OSt wb (w6.alloc (spO x' y')) w3.heap.size w5.heap.size x y x' y') := OSt.next ⟨⟨a0, a1⟩, ⟨m0, m1⟩, hB6⟩ ((Below.refl _ _).alloc (Nat.le_refl _) _)
          clear a0 a1 b0 b1 m0 m1 hB6 KJ KJ2 KM KM2
          generalize w3.heap.size = p at HO z3 ⊢
          generalize w5.heap.size = q at HO z5 ⊢
          go_loopw [14] (fun i wq => ∃ k : Nat, k ≤ n ∧ i = .int .i64 k ∧ Hid (OSt wb wq p q x y x' y')) (fun i _ => n - (intOf i).toNat)
          case atStart => exact ⟨0, by omega, rfl, HO⟩
          case round =>
            clear HO
            obtain ⟨k, hk, rfl, HO⟩ := hrel
            by_cases hlt : k < n
            · go_wp2
              go_ret
              exact ⟨rfl, HB1.out.trans ((HBE.out.trans (HO.out.2.2.mono HBE.out.size)).mono HB1.out.size)⟩
            · go_wp2
              go_ret
              exact ⟨rfl, HB1.out.trans ((HBE.out.trans (HO.out.2.2.mono HBE.out.size)).mono HB1.out.size)⟩
      · as_aux_lemma =>
          go_wp2_with (first
            | (go_at_call 18; have hq := P1; clear hq P1; go_must (refine (KJ.out _ (Below.refl _ _)).mono ?_); rintro e w3 ⟨rfl, hB3⟩)
            | (go_at_call 18; go_must (refine (KJ2.out _ (hB3.alloc hB3.size _)).mono ?_); rintro e w4 ⟨rfl, hb4⟩; go_must (have hB4 : Below wb.heap.size wb w4 := grow1 hB3 hB3.size hb4; have q := box_next hb4; obtain ⟨qa, z3⟩ := q; have HA1 : Hid (Bx w4 w3.heap.size x y) := qa; clear hb4 hB3 qa))
            | (go_at_call 20; have hq := P2; clear hq P2; go_must (refine (KM.out _ (hB4.alloc hB4.size _)).mono ?_); rintro e w5 ⟨rfl, hb5⟩; go_must (have hB5 : Below wb.heap.size wb w5 := grow1 hB4 hB4.size hb5; have q := box_next hb5; obtain ⟨qb, z4⟩ := q; have q := HA1.out.next z3 hb5; obtain ⟨qa, z3'⟩ := q; have HA2 : Hid (Bx w5 w3.heap.size x y) := qa; have HB2' : Hid (Bx w5 w4.heap.size x y) := qb; clear hb5 hB4 qa qb z3 HA1))
            | (go_at_call 20; go_must (refine (KM2.out _ (hB5.alloc hB5.size _)).mono ?_); rintro e w6 ⟨rfl, hb6⟩; go_must (have hB6 : Below wb.heap.size wb w6 := grow1 hB5 hB5.size hb6; have q := box_next hb6; obtain ⟨⟨⟨m0, m1⟩, _, _⟩, z5⟩ := q; have q := HA2.out.next z3' hb6; obtain ⟨⟨⟨a0, a1⟩, _, _⟩, z3⟩ := q; have q := HB2'.out.next z4 hb6; obtain ⟨⟨⟨b0, b1⟩, _, _⟩, z4'⟩ := q; clear hb6 hB5 z4 z3' HA2 HB2')))
          have HO : Hid (OSt wb (w6.alloc (spO x' y')) w3.heap.size w5.heap.size x y x' y') := OSt.next ⟨⟨a0, a1⟩, ⟨m0, m1⟩, hB6⟩ ((Below.refl _ _).alloc (Nat.le_refl _) _)
          clear a0 a1 b0 b1 m0 m1 hB6 KJ KJ2 KM KM2
          generalize w3.heap.size = p at HO z3 ⊢
          generalize w5.heap.size = q at HO z5 ⊢
          go_loopw [14] (fun i wq => ∃ k : Nat, k ≤ n ∧ i = .int .i64 k ∧ Hid (OSt wb wq p q x y x' y')) (fun i _ => n - (intOf i).toNat)
          case atStart => exact ⟨0, by omega, rfl, HO⟩
          case round =>
            clear HO
            obtain ⟨k, hk, rfl, HO⟩ := hrel
            by_cases hlt : k < n
            · obtain ⟨yk, Yk, HY⟩ : ∃ y Y, Hid (ss.getD k (0, 0) = (y, Y)) := ⟨_, _, rfl⟩
              have hkl : k < ss.length := by have := HN.out; omega
              have hne : ss ≠ [] := fun h => by rw [h] at hkl; simp at hkl
              have hmem : (yk, Yk) ∈ ss := by rw [← HY.out]; simp [List.getD, hkl]
              have W1 : Hid (true = withinB yk Yk x y) := HQ1.out (by simp) (yk, Yk) hmem
              obtain ⟨a1, cap1, e1, _, _, _, f1⟩ := HSV.out wr (HBE.out.trans (HO.out.2.2.mono HBE.out.size))
              injection e1 with e11 e12 e13
              subst e11 e13
              obtain ⟨b1, o1, rfl, l1, t1⟩ := f1 hne
              have u1 := t1 k hkl
              rw [HY.out] at u1
              have hS : wr.drew.cell? ⟨b1, o1 + k * 2, none⟩ = some (.int .u64 yk) ∧ wr.drew.cell? ⟨b1, o1 + k * 2 + 1, none⟩ = some (.int .u64 Yk) ∧ wr.drew.cell? ⟨p, 0, none⟩ = some (.int .u64 x) ∧ wr.drew.cell? ⟨p, 1, none⟩ = some (.int .u64 y) ∧ wr.drew.cell? ⟨q, 0, none⟩ = some (.int .u64 x') ∧ wr.drew.cell? ⟨q, 1, none⟩ = some (.int .u64 y') ∧ Hid (Below wb.heap.size wb wr.drew) := keepO (w0 := wr) ⟨u1.1, u1.2, HO.out.1.1, HO.out.1.2, HO.out.2.1.1, HO.out.2.1.2, HO.out.2.2⟩ (below_dr (Below.refl _ _))
              clear t1 f1 u1 HSV HW e12 hmem HO
              have P1 : Hid True := trivial
              go_wp2
              refine wp_region_held_drew (S := (fun w' => w'.cell? ⟨b1, o1 + k * 2, none⟩ = some (.int .u64 yk) ∧ w'.cell? ⟨b1, o1 + k * 2 + 1, none⟩ = some (.int .u64 Yk) ∧ w'.cell? ⟨p, 0, none⟩ = some (.int .u64 x) ∧ w'.cell? ⟨p, 1, none⟩ = some (.int .u64 y) ∧ w'.cell? ⟨q, 0, none⟩ = some (.int .u64 x') ∧ w'.cell? ⟨q, 1, none⟩ = some (.int .u64 y') ∧ Hid (Below wb.heap.size wb w'))) (by kernel_rfl) hS (fun hHeld => ?_)
              refine wpAnyH_take (i := 0) (v := .slice (some ⟨b1, o1, none⟩) n capv) rfl (by kernel_rfl) (by kernel_rfl) (by kernel_rfl) (fun _ _ _ h => h) (Or.inl ⟨by rfl, fun wy hSw => ?_⟩) (by assumption) ?_
              · obtain ⟨g0, g1, g2, g3, g4, g5, -⟩ := hSw
                go_simp
              simp only [Act.put, List.getElem_toArray, List.getElem_cons_zero, List.getElem_cons_succ, List.setIfInBounds_toArray, List.set_cons_zero, List.set_cons_succ]
              refine wpAnyH_take (i := 1) (v := .int .i64 k) rfl (by kernel_rfl) (by kernel_rfl) (by kernel_rfl) (fun _ _ _ h => h) (Or.inl ⟨by rfl, fun wy hSw => ?_⟩) (by assumption) ?_
              · obtain ⟨g0, g1, g2, g3, g4, g5, -⟩ := hSw
                go_simp
              simp only [Act.put, List.getElem_toArray, List.getElem_cons_zero, List.getElem_cons_succ, List.setIfInBounds_toArray, List.set_cons_zero, List.set_cons_succ]
              refine wpAnyH_take (i := 2) (v := .pointer (some ⟨b1, o1 + k * 2, none⟩)) rfl (by kernel_rfl) (by kernel_rfl) (by kernel_rfl) (fun _ _ _ h => h) (Or.inl ⟨by rfl, fun wy hSw => ?_⟩) (by assumption) ?_
              · obtain ⟨g0, g1, g2, g3, g4, g5, -⟩ := hSw
                go_simp
              simp only [Act.put, List.getElem_toArray, List.getElem_cons_zero, List.getElem_cons_succ, List.setIfInBounds_toArray, List.set_cons_zero, List.set_cons_succ]
              refine wpAnyH_take (i := 3) (v := .agg #[.int .u64 yk, .int .u64 Yk]) rfl (by kernel_rfl) (by kernel_rfl) (by kernel_rfl) (fun _ _ _ h => h) (Or.inl ⟨by rfl, fun wy hSw => ?_⟩) (by assumption) ?_
              · obtain ⟨g0, g1, g2, g3, g4, g5, -⟩ := hSw
                go_simp
              simp only [Act.put, List.getElem_toArray, List.getElem_cons_zero, List.getElem_cons_succ, List.setIfInBounds_toArray, List.set_cons_zero, List.set_cons_succ]
              refine wpAnyH_take (i := 4) (v := .agg #[.int .u64 x, .int .u64 y]) rfl (by kernel_rfl) (by kernel_rfl) (by kernel_rfl) (fun _ _ _ h => h) (Or.inl ⟨by rfl, fun wy hSw => ?_⟩) (by assumption) ?_
              · obtain ⟨g0, g1, g2, g3, g4, g5, -⟩ := hSw
                go_simp
              simp only [Act.put, List.getElem_toArray, List.getElem_cons_zero, List.getElem_cons_succ, List.setIfInBounds_toArray, List.set_cons_zero, List.set_cons_succ]
              refine wpAnyH_ready (rs := [5]) (by kernel_rfl) (by simp) ?_
              refine AllReadyH.cons rfl (fun K hK => ?_) AllReadyH.nil
              rw [if_pos (by rfl)]
              go_simp
              go_at_call 16
              refine (lwithin_as W1 _).mono ?_
              rintro e w7 ⟨rfl, hb7⟩
              replace hS := keepO hS hb7
              clear hb7 hHeld
              refine hK.out _ _ hS (fun hHeld => ?_)
              clear hK
              try simp only [Act.put, List.getElem_toArray, List.getElem_cons_zero, List.getElem_cons_succ, List.setIfInBounds_toArray, List.set_cons_zero, List.set_cons_succ]
              refine wpAnyH_take (i := 6) (v := .bool false) rfl (by kernel_rfl) (by kernel_rfl) (by kernel_rfl) (fun _ _ _ h => h) (Or.inl ⟨by rfl, fun wy hSw => ?_⟩) (by assumption) ?_
              · obtain ⟨g0, g1, g2, g3, g4, g5, -⟩ := hSw
                go_simp
              simp only [Act.put, List.getElem_toArray, List.getElem_cons_zero, List.getElem_cons_succ, List.setIfInBounds_toArray, List.set_cons_zero, List.set_cons_succ]
              refine wpAnyH_take (i := 7) (v := .bool false) rfl (by kernel_rfl) (by kernel_rfl) (by kernel_rfl) (fun _ _ _ h => h) (Or.inl ⟨by rfl, fun wy hSw => ?_⟩) (by assumption) ?_
              · obtain ⟨g0, g1, g2, g3, g4, g5, -⟩ := hSw
                go_simp
              simp only [Act.put, List.getElem_toArray, List.getElem_cons_zero, List.getElem_cons_succ, List.setIfInBounds_toArray, List.set_cons_zero, List.set_cons_succ]
              refine wpAnyH_take (i := 8) (v := .bool false) rfl (by kernel_rfl) (by kernel_rfl) (by kernel_rfl) (fun _ _ _ h => h) (Or.inl ⟨by rfl, fun wy hSw => ?_⟩) (by assumption) ?_
              · obtain ⟨g0, g1, g2, g3, g4, g5, -⟩ := hSw
                go_simp
              simp only [Act.put, List.getElem_toArray, List.getElem_cons_zero, List.getElem_cons_succ, List.setIfInBounds_toArray, List.set_cons_zero, List.set_cons_succ]
              refine wpAnyH_take (i := 9) (v := .bool false) rfl (by kernel_rfl) (by kernel_rfl) (by kernel_rfl) (fun _ _ _ h => h) (Or.inl ⟨by rfl, fun wy hSw => ?_⟩) (by assumption) ?_
              · obtain ⟨g0, g1, g2, g3, g4, g5, -⟩ := hSw
                go_simp
              simp only [Act.put, List.getElem_toArray, List.getElem_cons_zero, List.getElem_cons_succ, List.setIfInBounds_toArray, List.set_cons_zero, List.set_cons_succ]
              refine wpAnyH_take (i := 10) (v := undef) rfl (by kernel_rfl) (by kernel_rfl) (by kernel_rfl) (fun _ _ _ h => h) (Or.inr ⟨by rfl, rfl⟩) (by assumption) ?_
              simp only [Act.put, List.getElem_toArray, List.getElem_cons_zero, List.getElem_cons_succ, List.setIfInBounds_toArray, List.set_cons_zero, List.set_cons_succ]
              refine wpAnyH_take (i := 11) (v := undef) rfl (by kernel_rfl) (by kernel_rfl) (by kernel_rfl) (fun _ _ _ h => h) (Or.inr ⟨by rfl, rfl⟩) (by assumption) ?_
              simp only [Act.put, List.getElem_toArray, List.getElem_cons_zero, List.getElem_cons_succ, List.setIfInBounds_toArray, List.set_cons_zero, List.set_cons_succ]
              refine wpAnyH_take (i := 12) (v := undef) rfl (by kernel_rfl) (by kernel_rfl) (by kernel_rfl) (fun _ _ _ h => h) (Or.inr ⟨by rfl, rfl⟩) (by assumption) ?_
              simp only [Act.put, List.getElem_toArray, List.getElem_cons_zero, List.getElem_cons_succ, List.setIfInBounds_toArray, List.set_cons_zero, List.set_cons_succ]
              refine wpAnyH_take (i := 13) (v := undef) rfl (by kernel_rfl) (by kernel_rfl) (by kernel_rfl) (fun _ _ _ h => h) (Or.inr ⟨by rfl, rfl⟩) (by assumption) ?_
              simp only [Act.put, List.getElem_toArray, List.getElem_cons_zero, List.getElem_cons_succ, List.setIfInBounds_toArray, List.set_cons_zero, List.set_cons_succ]
              refine wpAnyH_take (i := 14) (v := undef) rfl (by kernel_rfl) (by kernel_rfl) (by kernel_rfl) (fun _ _ _ h => h) (Or.inr ⟨by rfl, rfl⟩) (by assumption) ?_
              simp only [Act.put, List.getElem_toArray, List.getElem_cons_zero, List.getElem_cons_succ, List.setIfInBounds_toArray, List.set_cons_zero, List.set_cons_succ]
              refine wpAnyH_take (i := 15) (v := undef) rfl (by kernel_rfl) (by kernel_rfl) (by kernel_rfl) (fun _ _ _ h => h) (Or.inr ⟨by rfl, rfl⟩) (by assumption) ?_
              simp only [Act.put, List.getElem_toArray, List.getElem_cons_zero, List.getElem_cons_succ, List.setIfInBounds_toArray, List.set_cons_zero, List.set_cons_succ]
              refine wpAnyH_take (i := 16) (v := undef) rfl (by kernel_rfl) (by kernel_rfl) (by kernel_rfl) (fun _ _ _ h => h) (Or.inr ⟨by rfl, rfl⟩) (by assumption) ?_
              simp only [Act.put, List.getElem_toArray, List.getElem_cons_zero, List.getElem_cons_succ, List.setIfInBounds_toArray, List.set_cons_zero, List.set_cons_succ]
              refine wpAnyH_take (i := 17) (v := .bool false) rfl (by kernel_rfl) (by kernel_rfl) (by kernel_rfl) (fun _ _ _ h => h) (Or.inl ⟨by rfl, fun wy hSw => ?_⟩) (by assumption) ?_
              · obtain ⟨g0, g1, g2, g3, g4, g5, -⟩ := hSw
                go_simp
              simp only [Act.put, List.getElem_toArray, List.getElem_cons_zero, List.getElem_cons_succ, List.setIfInBounds_toArray, List.set_cons_zero, List.set_cons_succ]
              refine wpAnyH_take (i := 18) (v := .bool false) rfl (by kernel_rfl) (by kernel_rfl) (by kernel_rfl) (fun _ _ _ h => h) (Or.inl ⟨by rfl, fun wy hSw => ?_⟩) (by assumption) ?_
              · obtain ⟨g0, g1, g2, g3, g4, g5, -⟩ := hSw
                go_simp
              simp only [Act.put, List.getElem_toArray, List.getElem_cons_zero, List.getElem_cons_succ, List.setIfInBounds_toArray, List.set_cons_zero, List.set_cons_succ]
              refine wpAnyH_done (by kernel_rfl) ?_ _
              all_goals go_wp2
              all_goals go_roundw
              all_goals first
                | exact ⟨k + 1, by omega, by go_num, ⟨⟨hS.2.2.1, hS.2.2.2.1⟩, ⟨hS.2.2.2.2.1, hS.2.2.2.2.2.1⟩, hS.2.2.2.2.2.2.out⟩⟩
                | (simp [intOf]; omega)
            · go_wp2
              go_ret
              exact ⟨rfl, HB1.out.trans ((HBE.out.trans (HO.out.2.2.mono HBE.out.size)).mono HB1.out.size)⟩
      · as_aux_lemma =>
          go_wp2_with (first
            | (go_at_call 18; have hq := P1; clear hq P1; go_must (refine (KJ.out _ (Below.refl _ _)).mono ?_); rintro e w3 ⟨rfl, hB3⟩)
            | (go_at_call 18; go_must (refine (KJ2.out _ (hB3.alloc hB3.size _)).mono ?_); rintro e w4 ⟨rfl, hb4⟩; go_must (have hB4 : Below wb.heap.size wb w4 := grow1 hB3 hB3.size hb4; have q := box_next hb4; obtain ⟨qa, z3⟩ := q; have HA1 : Hid (Bx w4 w3.heap.size x y) := qa; clear hb4 hB3 qa))
            | (go_at_call 20; have hq := P2; clear hq P2; go_must (refine (KM.out _ (hB4.alloc hB4.size _)).mono ?_); rintro e w5 ⟨rfl, hb5⟩; go_must (have hB5 : Below wb.heap.size wb w5 := grow1 hB4 hB4.size hb5; have q := box_next hb5; obtain ⟨qb, z4⟩ := q; have q := HA1.out.next z3 hb5; obtain ⟨qa, z3'⟩ := q; have HA2 : Hid (Bx w5 w3.heap.size x y) := qa; have HB2' : Hid (Bx w5 w4.heap.size x y) := qb; clear hb5 hB4 qa qb z3 HA1))
            | (go_at_call 20; go_must (refine (KM2.out _ (hB5.alloc hB5.size _)).mono ?_); rintro e w6 ⟨rfl, hb6⟩; go_must (have hB6 : Below wb.heap.size wb w6 := grow1 hB5 hB5.size hb6; have q := box_next hb6; obtain ⟨⟨⟨m0, m1⟩, _, _⟩, z5⟩ := q; have q := HA2.out.next z3' hb6; obtain ⟨⟨⟨a0, a1⟩, _, _⟩, z3⟩ := q; have q := HB2'.out.next z4 hb6; obtain ⟨⟨⟨b0, b1⟩, _, _⟩, z4'⟩ := q; clear hb6 hB5 z4 z3' HA2 HB2')))
          have HO : Hid (OSt wb (w6.alloc (spO x' y')) w3.heap.size w5.heap.size x y x' y') := OSt.next ⟨⟨a0, a1⟩, ⟨m0, m1⟩, hB6⟩ ((Below.refl _ _).alloc (Nat.le_refl _) _)
          clear a0 a1 b0 b1 m0 m1 hB6 KJ KJ2 KM KM2
          generalize w3.heap.size = p at HO z3 ⊢
          generalize w5.heap.size = q at HO z5 ⊢
          go_loopw [14] (fun i wq => ∃ k : Nat, k ≤ n ∧ i = .int .i64 k ∧ Hid (OSt wb wq p q x y x' y')) (fun i _ => n - (intOf i).toNat)
          case atStart => exact ⟨0, by omega, rfl, HO⟩
          case round =>
            clear HO
            obtain ⟨k, hk, rfl, HO⟩ := hrel
            by_cases hlt : k < n
            · obtain ⟨yk, Yk, HY⟩ : ∃ y Y, Hid (ss.getD k (0, 0) = (y, Y)) := ⟨_, _, rfl⟩
              have hkl : k < ss.length := by have := HN.out; omega
              have hne : ss ≠ [] := fun h => by rw [h] at hkl; simp at hkl
              have hmem : (yk, Yk) ∈ ss := by rw [← HY.out]; simp [List.getD, hkl]
              have W1 : Hid (true = withinB yk Yk x y) := HQ1.out (by simp) (yk, Yk) hmem
              have W2 : Hid (true = withinB x' y' yk Yk) := HQ2.out (by simp) (yk, Yk) hmem
              obtain ⟨a1, cap1, e1, _, _, _, f1⟩ := HSV.out wr (HBE.out.trans (HO.out.2.2.mono HBE.out.size))
              injection e1 with e11 e12 e13
              subst e11 e13
              obtain ⟨b1, o1, rfl, l1, t1⟩ := f1 hne
              have u1 := t1 k hkl
              rw [HY.out] at u1
              have hS : wr.drew.cell? ⟨b1, o1 + k * 2, none⟩ = some (.int .u64 yk) ∧ wr.drew.cell? ⟨b1, o1 + k * 2 + 1, none⟩ = some (.int .u64 Yk) ∧ wr.drew.cell? ⟨p, 0, none⟩ = some (.int .u64 x) ∧ wr.drew.cell? ⟨p, 1, none⟩ = some (.int .u64 y) ∧ wr.drew.cell? ⟨q, 0, none⟩ = some (.int .u64 x') ∧ wr.drew.cell? ⟨q, 1, none⟩ = some (.int .u64 y') ∧ Hid (Below wb.heap.size wb wr.drew) := keepO (w0 := wr) ⟨u1.1, u1.2, HO.out.1.1, HO.out.1.2, HO.out.2.1.1, HO.out.2.1.2, HO.out.2.2⟩ (below_dr (Below.refl _ _))
              clear t1 f1 u1 HSV HW e12 hmem HO
              have P1 : Hid True := trivial
              go_wp2
              go_region_held_law (fun w' => w'.cell? ⟨b1, o1 + k * 2, none⟩ = some (.int .u64 yk) ∧ w'.cell? ⟨b1, o1 + k * 2 + 1, none⟩ = some (.int .u64 Yk) ∧ w'.cell? ⟨p, 0, none⟩ = some (.int .u64 x) ∧ w'.cell? ⟨p, 1, none⟩ = some (.int .u64 y) ∧ w'.cell? ⟨q, 0, none⟩ = some (.int .u64 x') ∧ w'.cell? ⟨q, 1, none⟩ = some (.int .u64 y') ∧ Hid (Below wb.heap.size wb w'))
                (first | assumption | fail)
                ((first
                  | (go_at_call 16; have hq := P1; clear hq P1; refine (lwithin_as W1 _).mono ?_; rintro e w7 ⟨rfl, hb7⟩; replace hS := keepO hS hb7; clear hb7)
                  | (go_at_call 16; refine (lwithin_as W2 _).mono ?_; rintro e w8 ⟨rfl, hb8⟩; replace hS := keepO hS hb8; clear hb8)))
              all_goals go_wp2
              all_goals go_roundw
              all_goals first
                | exact ⟨k + 1, by omega, by go_num, ⟨⟨hS.2.2.1, hS.2.2.2.1⟩, ⟨hS.2.2.2.2.1, hS.2.2.2.2.2.1⟩, hS.2.2.2.2.2.2.out⟩⟩
                | (simp [intOf]; omega)
            · go_wp2
              go_ret
              exact ⟨rfl, HB1.out.trans ((HBE.out.trans (HO.out.2.2.mono HBE.out.size)).mono HB1.out.size)⟩
    · have e1 : (((j + 1 : Nat) : Int) - 1) = (j : Int) := by omega
      rw [e1]
      obtain ⟨ts, hown, hT⟩ := hB.out
      have HT : Hid _ := hT
      clear hT
      have hbe : Below w1.heap.size w1 wr := HT.out.2.2.2
      obtain ⟨y, Y, HY⟩ : ∃ y Y, Hid (ss.getD j (0, 0) = (y, Y)) := ⟨_, _, rfl⟩
      have hne : ss ≠ [] := fun h => by have := HN.out; rw [h] at this; simp at this; omega
      have hjl : j < ss.length := by have := HN.out; omega
      obtain ⟨a1, cap1, e1, _, _, _, f1⟩ := HSV.out w1 (Below.refl _ _)
      injection e1 with e11 e12 e13
      subst e11 e13
      obtain ⟨b1, o1, rfl, l1, t1⟩ := f1 hne
      have u1 := t1 j hjl
      rw [HY.out] at u1
      have HC : Hid (∀ wx, Below w1.heap.size w1 wx → (wx.cell? ⟨b1, o1 + j * 2, none⟩ = some (.int .u64 y) ∧ wx.cell? ⟨b1, o1 + j * 2 + 1, none⟩ = some (.int .u64 Y) ∧ Hid (Below w1.heap.size w1 wx))) := fun wx hx => ⟨(u1.below hx l1).1, (u1.below hx l1).2, hx⟩
      clear t1 f1 u1 HSV HW e12
      have hS := HC.out wr.drew (below_dr hbe)
      go_wp2
      go_region_held_law (fun w' => w'.cell? ⟨b1, o1 + j * 2, none⟩ = some (.int .u64 y) ∧ w'.cell? ⟨b1, o1 + j * 2 + 1, none⟩ = some (.int .u64 Y) ∧ Hid (Below w1.heap.size w1 w'))
        (first | assumption | exact HC.out _ (hS.2.2.out.alloc hS.2.2.out.size _) | fail)
        ((refine step_append_seesS rfl (.tmp 27) (.tmp 36) 32 rfl w1.heap.size 24 i0 (.agg #[.int .u64 0, .int .u64 0]) Try.underlying32 hi hz0 hz1 hz2 rfl _ ts (by simp [Act.eval]) (hown.drew.alloc _) _ [(y, Y), (y, Y)] (by simp [Act.eval]) (sees_two wr.drew _ y Y y Y _ rfl) (by simp) (by have h1 := HT.out.1; have h2 := HN.out; unfold maxLen; simp; omega) (by have h1 := HT.out.1; have h2 := HN.out; simp; omega) (by have h1 := hbe.size; simp; omega) ?_; intro v2 w2 hown2 hg2; have hB2 : Hid (Bk w1 w2 24 v2 ss j (b && decide (y ≤ Y))) := bk_step hjl HY.out HT.out ((below_dr hbe).alloc hbe.size _) (hown.drew.alloc _) hown2 hg2; replace hS := HC.out w2 (by obtain ⟨_, _, _, _, _, h5⟩ := hB2.out; exact h5); clear hown2 hg2))
      all_goals as_aux_lemma =>
        obtain ⟨c0, c1, hbe2⟩ := hS
        clear hown HT hbe hB HC
        obtain ⟨r, HR⟩ : ∃ r, Hid (r = decide (y ≤ Y)) := ⟨_, rfl⟩
        rw [← HR.out] at hB2
        cases b
        · go_wp2
          go_roundw
          case rel => exact ⟨j, false, by omega, rfl, rfl, hB2⟩
          case measure => first | (simp [intOf]; done) | (simp [intOf]; omega)
        · go_wp2_with (go_at_call 10; go_must (refine (lright_as HR _).mono ?_); rintro e w3 ⟨rfl, hb3⟩; go_must (have hB3 : Hid (Bk w1 w3 24 v2 ss j (true && r)) := hB2.out.next hb3; clear hb3))
          go_roundw
          case rel => exact ⟨j, r, by omega, rfl, rfl, by rw [Bool.true_and] at hB3; exact hB3⟩
          case measure => first | (simp [intOf]; done) | (simp [intOf]; omega)
end Go.Proofs.Ytammakfpmimljaa
