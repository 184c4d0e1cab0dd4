/-
  SpanJoins, walked: it answers true. Condition: the slice reads as spans of numbers of 64 bits, of at most 140737488351232 bytes.
-/
import Derived.Test.YtammakfpmimljaaS6LRefine
import Derived.Test.YtammakfpmimljaaS6RMeet
namespace Go.Proofs.Ytammakfpmimljaa
open Go.RowKit
set_option linter.unusedVariables false
set_option maxRecDepth 20000

theorem Try.infoSpan : (Try.prog.info? 24).map (fun i => (i.zero, i.size, i.bytes)) = some (some (.agg #[.int .u64 0, .int .u64 0]), 2, 16) := by kernel_rfl
theorem SeesS.upto {w : World} {a : Option Addr} {cap : Nat} {ss : List Sp} (h : SeesS w (.slice a ss.length cap) ss) (k : Nat) (hk : k ≤ ss.length) : SeesS w (cutS a 0 k cap) (ss.take k) := by
  obtain ⟨a', cap', e, h1, h2, h3, h4⟩ := h
  injection e with e1 e2 e3
  subst e1 e3
  have hl : (ss.take k).length = k := by rw [List.length_take]; omega
  refine ⟨if cap = 0 then a else a.map (·.add (0 * 2)), cap, by rw [hl]; rfl, by omega, h2, fun h0 => ?_, fun hne => ?_⟩
  · by_cases hc : cap = 0
    · exact hc
    · rw [if_neg hc] at h0
      exact h3 (by simpa using h0)
  · have hk0 : 0 < k := by
      rcases Nat.eq_zero_or_pos k with h0 | h0
      · subst h0; exact absurd rfl hne
      · exact h0
    have hss : ss ≠ [] := fun h0 => by rw [h0] at hk; simp at hk; omega
    obtain ⟨b, off, rfl, hb, hat⟩ := h4 hss
    refine ⟨b, off, by rw [if_neg (by omega)]; simp [Addr.add], hb, fun j hj => ?_⟩
    rw [hl] at hj
    have e : (ss.take k).getD j (0, 0) = ss.getD j (0, 0) := by simp [List.getD, hj]
    rw [e]
    exact hat j (by omega)
/-- An answer that is boxed, and a call behind it. -/
theorem box_next {w w' : World} {x y : Int} (hb : Below (w.alloc (spO x y)).heap.size (w.alloc (spO x y)) w') : Bx w' w.heap.size x y ∧ w.heap.size < w'.heap.size := ⟨(bx_new w x y).below hb (by simp), Nat.lt_of_lt_of_le (by simp) hb.size⟩
theorem Bx.next {w w' : World} {o : Obj} {n : Nat} {x y : Int} (h : Bx w n x y) (hn : n < w.heap.size) (hb : Below (w.alloc o).heap.size (w.alloc o) w') : Bx w' n x y ∧ n < w'.heap.size := ⟨(h.al hn).below hb (by simp; omega), Nat.lt_of_lt_of_le (by simp; omega) hb.size⟩
set_option maxHeartbeats 1600000 in
theorem joins_walk (v : Value) (ss : List (Int × Int)) (w : World) (hs : SeesS w v ss) (hwf : ∀ s ∈ ss, wfS s) (hlen : ss.length * 16 ≤ 140737488351232) :
    Calls Try.prog 4 #[v] w fun e w' => e = .returned (.bool true) ∧ Below w.heap.size w w' := by
  obtain ⟨i0, hi, hz0, hz1, hz2⟩ := info_parts Try.infoSpan
  obtain ⟨av, capv, rfl, hcv, hmv, hnv, hatv⟩ := id hs
  clear hatv hnv
  unfold maxLen at hmv
  have HS : Hid (SeesS w (.slice av ss.length capv) ss) := hs
  have HW : Hid (∀ s ∈ ss, wfS s) := hwf
  clear hs hwf
  obtain ⟨n, HN⟩ : ∃ n, Hid (n = ss.length) := ⟨_, rfl⟩
  rw [← HN.out] at hcv hlen ⊢
  have HS : Hid (SeesS w (.slice av n capv) ss) := by rw [HN.out]; exact HS.out
  go_enter Try.func4, Try.ntmps4
  go_wp2_with (first
    | (go_at_call 9; go_must (refine (awake6 _).mono ?_); rintro e w1 ⟨rfl, hb1⟩)
    | (at_builtin; have hq := hb1; clear hq; go_must (refine wpList_append_seesS rfl (.tmp 16) (.tmp 17) 32 rfl w1.heap.size 24 i0 (.agg #[.int .u64 0, .int .u64 0]) Try.underlying32 hi hz0 hz1 hz2 rfl _ [] rfl (ownS_empty w1 24) _ ss rfl (HS.out.below (hb1.alloc hb1.size _)) (by have := HN.out; unfold maxLen; simp; omega) (by have := HN.out; simp; omega) (by simp) ?_); intro v2 w2 hown2 hg2; go_must (have hB2 : Below w.heap.size w w2 := (hb1.alloc hb1.size _).grown hg2 (by have := hb1.size; simp; omega) (fun j hj => by (have hj' : w1.heap.size = j := Option.some.inj hj); have := hb1.size; omega); have hS2 : SeesS w2 v2 ss := own_seesS (by rw [List.nil_append] at hown2; exact hown2); clear hg2 hown2 hb1; obtain ⟨ai, capi, rfl, hci, hmi, hni, hati⟩ := id hS2; have HS2 : Hid (SeesS w2 (.slice ai ss.length capi) ss) := hS2; clear hS2 hni hati; rw [← HN.out] at hci; rw [← HN.out])))
  unfold maxLen at hmi
  have HSV : Hid (∀ wx, Below w2.heap.size w2 wx → SeesS wx (.slice av ss.length capv) ss) := fun wx hx => by
    have h := (HS.out.below hB2).below hx
    rw [HN.out] at h
    exact h
  have HSI : Hid (∀ wx, Below w2.heap.size w2 wx → SeesS wx (.slice ai ss.length capi) ss) := fun wx hx => HS2.out.below hx
  clear HS2 HS
  have HB2 : Hid (Below w.heap.size w w2) := hB2
  clear hB2
  go_loopw [4] (fun i wr => ∃ k : Nat, k ≤ n + n / 8 + 1 ∧ i = .int .i64 k ∧ Below w2.heap.size w2 wr) (fun i _ => n + n / 8 + 2 - (intOf i).toNat)
  case atStart => exact ⟨0, by omega, rfl, Below.refl _ _⟩
  case round =>
    obtain ⟨k, hk, rfl, hbe⟩ := hrel
    have hsz := hbe.size
    by_cases hlt : k ≤ n
    · obtain ⟨x, y, c, HJ⟩ := optV_as (if joinB (ss.take k) = true then some (joinL (ss.take k)) else none)
      obtain ⟨x', y', c', HM⟩ := optV_as (if meetB (ss.take k) = true then some (meetL (ss.take k)) else none)
      have HWk : Hid (∀ s ∈ ss.take k, wfS s) := fun s hs => HW.out s (List.mem_of_mem_take hs)
      have hkl : k ≤ ss.length := by have := HN.out; omega
      obtain ⟨V1, hc1, K1, K2⟩ : ∃ V1, (∀ wx, (Instr.slice 32 (.slice ai n capi) none (some (.int .i64 k)) none).run Try.prog wx = .ok V1 wx) ∧ Hid (∀ wx, Below w2.heap.size w2 wx → Calls Try.prog 18 #[V1] wx fun e w' => e = .returned (.tuple #[.agg #[.int .u64 x, .int .u64 y], .bool c]) ∧ Below wx.heap.size wx w') ∧ Hid (∀ wx, Below w2.heap.size w2 wx → Calls Try.prog 20 #[V1] wx fun e w' => e = .returned (.tuple #[.agg #[.int .u64 x', .int .u64 y'], .bool c']) ∧ Below wx.heap.size wx w') :=
        ⟨cutS ai 0 k capi, fun wx => run_uptoI ai n capi k (by omega) wx, fun wx hx => by rw [← HJ.out]; exact ljoin_any _ _ wx ((HSI.out wx hx).upto k hkl) HWk.out, fun wx hx => by rw [← HM.out]; exact lmeet_any _ _ wx ((HSI.out wx hx).upto k hkl) HWk.out⟩
      obtain ⟨V2, hc2, R1, R2⟩ : ∃ V1, (∀ wx, (Instr.slice 32 (.slice av n capv) none (some (.int .i64 k)) none).run Try.prog wx = .ok V1 wx) ∧ Hid (∀ wx, Below w2.heap.size w2 wx → Calls Try.prog 19 #[V1] wx fun e w' => e = .returned (.tuple #[.agg #[.int .u64 x, .int .u64 y], .bool c]) ∧ Below wx.heap.size wx w') ∧ Hid (∀ wx, Below w2.heap.size w2 wx → Calls Try.prog 21 #[V1] wx fun e w' => e = .returned (.tuple #[.agg #[.int .u64 x', .int .u64 y'], .bool c']) ∧ Below wx.heap.size wx w') :=
        ⟨cutS av 0 k capv, fun wx => run_uptoI av n capv k (by omega) wx, fun wx hx => by rw [← HJ.out]; exact rjoin_any _ _ wx ((HSV.out wx hx).upto k hkl) HWk.out, fun wx hx => by rw [← HM.out]; exact rmeet_any _ _ wx ((HSV.out wx hx).upto k hkl) HWk.out⟩
      clear HJ HM HWk hkl
      go_wp2_with (first
        | (go_at_call 18; go_must (refine (K1.out _ hbe).mono ?_); rintro e w3 ⟨rfl, hb3⟩; go_must (have hB3 : Below w2.heap.size w2 w3 := hbe.trans (hb3.mono hsz); clear hb3 hbe hsz))
        | (go_at_call 19; go_must (refine (R1.out _ (hB3.alloc hB3.size _)).mono ?_); rintro e w4 ⟨rfl, hb4⟩; go_must (have hB4 : Below w2.heap.size w2 w4 := grow1 hB3 hB3.size hb4; have q := box_next hb4; obtain ⟨qa, z3⟩ := q; have HA1 : Hid (Bx w4 w3.heap.size x y) := qa; clear hb4 hB3 qa))
        | (go_at_call 20; go_must (refine (K2.out _ (hB4.alloc hB4.size _)).mono ?_); rintro e w5 ⟨rfl, hb5⟩; go_must (have hB5 : Below w2.heap.size w2 w5 := grow1 hB4 hB4.size hb5; have q := box_next hb5; obtain ⟨qb, z4⟩ := q; have q := HA1.out.next z3 hb5; obtain ⟨qa, z3'⟩ := q; have HA2 : Hid (Bx w5 w3.heap.size x y) := qa; have HB2' : Hid (Bx w5 w4.heap.size x y) := qb; clear hb5 hB4 qa qb z3 HA1))
        | (go_at_call 21; go_must (refine (R2.out _ (hB5.alloc hB5.size _)).mono ?_); rintro e w6 ⟨rfl, hb6⟩; go_must (have hB6 : Below w2.heap.size w2 w6 := grow1 hB5 hB5.size hb6; have q := box_next hb6; obtain ⟨⟨⟨m0, m1⟩, _, _⟩, z5⟩ := q; have q := HA2.out.next z3' hb6; obtain ⟨⟨⟨a0, a1⟩, _, _⟩, z3⟩ := q; have q := HB2'.out.next z4 hb6; obtain ⟨⟨⟨b0, b1⟩, _, _⟩, z4'⟩ := q; clear hb6 hB5 z4 z3' HA2 HB2')))
      go_roundw
      case rel => exact ⟨k + (1 + n / 8), by omega, congrArg (Value.int .i64) (by omega), hB6.alloc hB6.size _⟩
      case measure => simp only [intOf]; omega
    · go_wp2
      go_loopw [13] (fun i wr => ∃ k : Nat, k ≤ n ∧ i = .int .i64 k ∧ Below w2.heap.size w2 wr) (fun i _ => n - (intOf i).toNat)
      case atStart => exact ⟨0, by omega, rfl, hbe⟩
      case round =>
        clear hbe hsz
        rename_i wr'
        clear hlt hk
        obtain ⟨j, hj, rfl, hbe⟩ := hrel
        have hsz := hbe.size
        by_cases hlt : j < n
        · obtain ⟨y, Y, HY⟩ : ∃ y Y, Hid (ss.getD j (0, 0) = (y, Y)) := ⟨_, _, rfl⟩
          have hne : ss ≠ [] := fun h => by have := HN.out; rw [h] at this; simp at this; omega
          have hjl : j < ss.length := by have := HN.out; omega
          obtain ⟨a1, cap1, e1, _, _, _, f1⟩ := HSV.out _ hbe
          obtain ⟨a2, cap2, e2, _, _, _, f2⟩ := HSI.out _ hbe
          injection e1 with e11 e12 e13
          injection e2 with e21 e22 e23
          subst e11 e13 e21 e23
          obtain ⟨b1, o1, rfl, l1, t1⟩ := f1 hne
          obtain ⟨b2, o2, rfl, l2, t2⟩ := f2 hne
          have u1 := t1 j hjl
          have u2 := t2 j hjl
          rw [HY.out] at u1 u2
          obtain ⟨c0, c1⟩ := u1
          obtain ⟨d0, d1⟩ := u2
          simp only at c0 c1 d0 d1
          clear t1 t2 f1 f2 e12 e22 HSV HSI
          go_wp2
          go_region
          all_goals go_wp2
          all_goals go_roundw
          case rel => exact ⟨j + 1, by omega, by go_num, below_dr hbe⟩
          case measure => simp [intOf]; omega
        · go_wp2
          go_ret
          exact ⟨rfl, HB2.out.trans (hbe.mono HB2.out.size)⟩
end Go.Proofs.Ytammakfpmimljaa
