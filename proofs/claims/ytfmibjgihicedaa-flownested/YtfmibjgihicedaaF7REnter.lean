/-
  What the document's entering and cost answer over bodies. Condition: at most 64 instructions, each right and leading to a place.
-/
import Derived.Test.YtfmibjgihicedaaF7RCross
namespace Go.Proofs.Ytfmibjgihicedaa
open Go.RowKit Go.Deep
set_option linter.unusedVariables false
set_option maxRecDepth 20000

theorem rgoes_one {i : In} {op d a b imm f : Int} {l o : Bool} (hi : Hid (i = ⟨op, d, a, b, imm⟩)) (hf : Hid (f = i.far)) (hl : Hid (l = i.leads)) (ho : Hid (o = i.on)) (w : World) : Calls Try.prog 28 #[instV op d a b imm] w fun e w' => e = .returned (.tuple #[.int .i64 f, .bool l, .bool o]) ∧ Below w.heap.size w w' := by
  have h := goes_any op d a b imm w
  rw [hf.out, hl.out, ho.out, hi.out]
  exact h
theorem body_at {xs : List In} {q : Nat} (hq : q < xs.length) {x : Int} (hx : x ∈ row (bodyL xs) q) : ∃ k : Nat, x = k ∧ k < xs.length ∧ (nth xs k).op = 20 := by
  rw [bodyL, bodyU_row hq, around_mem] at hx
  obtain ⟨l, hl, _, rfl⟩ := hx
  obtain ⟨k, hk, h20, rfl⟩ := loopsU_mem.1 hl
  exact ⟨k, rfl, hk, h20⟩
theorem loop_d {xs : List In} (h : Placed xs) {k : Nat} (hk : k < xs.length) (h20 : (nth xs k).op = 20) : 1 ≤ (nth xs k).d ∧ (nth xs k).d ≤ 63 ∧ 1 ≤ (nth xs k).imm ∧ (nth xs k).imm ≤ 255 := by
  have hr := (place_ok hk (h k hk)).1
  rcases goes_parts (nth xs k) with h | h | h | h
  · rw [h.1] at hr; cases hr
  · omega
  · omega
  · omega
theorem any_take {ys : List Int} {f : Int → Bool} {j : Nat} (h : j < ys.length) : (ys.take (j + 1)).any f = ((ys.take j).any f || f (ys.getD j 0)) := by
  rw [take_at ys j h, List.any_append]
  simp
theorem any_yes {ys : List Int} {f : Int → Bool} {j : Nat} (h : j < ys.length) (hf : f (ys.getD j 0) = true) : ys.any f = true := by
  rw [List.any_eq_true]
  exact ⟨_, getD_mem ys j h, hf⟩
set_option maxHeartbeats 3200000 in
theorem renter_any (v : Value) (xs : List In) (w : World) (hs : SeesI w v xs) (hn : xs.length ≤ 64) (hpl : Placed xs) (B : Nat) (V : Nat → Value) (hb : SeesB w B xs.length V (bodyL xs)) {R : Option Int} (hR : Hid (R = optN (first (enterRB xs (bodyL xs)) xs.length))) :
    Calls Try.prog 31 #[v, .slice (some ⟨B, 0, none⟩) xs.length xs.length] w fun e w' => e = .returned (optI R) ∧ Below w.heap.size w w' := by
  have HB : Hid (SeesB w B xs.length V (bodyL xs)) := hb
  have HPl : Hid (Placed xs) := hpl
  have hBlt := hb.out.lt
  obtain ⟨a, cap, rfl, hc, hm, hn0, hcell⟩ := hs
  have HC : Hid (xs ≠ [] → ∃ b off, a = some ⟨b, off, none⟩ ∧ b < w.heap.size ∧ ∀ k, k < xs.length → At w b (off + k * 5) (xs.getD k In.nil)) := hcell
  clear hcell hn0 hb hpl
  go_enter Try.func31, Try.ntmps31
  go_wp2
  go_loopw [7] (fun i wr => ∃ p : Nat, p ≤ xs.length ∧ i = .int .i64 p ∧ Hid (∀ j, j < p → enterRB xs (bodyL xs) j = false) ∧ Below w.heap.size w wr) (fun i _ => xs.length - (intOf i).toNat)
  case atStart => exact ⟨0, by omega, rfl, fun j hj => by omega, Below.refl _ _⟩
  case round =>
    obtain ⟨p, hp, rfl, HP, hbe⟩ := hrel
    have hsz := hbe.size
    by_cases hlt : p < xs.length
    · obtain ⟨b, off, rfl, hb, hat⟩ := HC.out (fun h => by rw [h] at hlt; simp at hlt)
      have HA : Hid (∀ w1, Below w.heap.size w w1 → ∀ k, k < xs.length → At w1 b (off + k * 5) (xs.getD k In.nil)) := fun w1 h1 k hk => (hat k hk).below h1 hb
      clear hat HC
      obtain ⟨c0, c1, c2, c3, c4⟩ := HA.out _ hbe p hlt
      obtain ⟨⟨op, d, a, bb, imm⟩, HI⟩ : ∃ i, Hid (nth xs p = i) := ⟨_, rfl⟩
      have HI2 : xs.getD p In.nil = ⟨op, d, a, bb, imm⟩ := HI.out
      rw [HI2] at c0 c1 c2 c3 c4
      clear HI2
      simp only at c0 c1 c2 c3 c4
      have hbr : b < wr.heap.size := by omega
      obtain ⟨f, HF⟩ : ∃ f, Hid (f = (nth xs p).far) := ⟨_, rfl⟩
      obtain ⟨l, HL⟩ : ∃ l, Hid (l = (nth xs p).leads) := ⟨_, rfl⟩
      obtain ⟨o, HO⟩ : ∃ o, Hid (o = (nth xs p).on) := ⟨_, rfl⟩
      have hfb := far_bd (nth xs p)
      rw [← HF.out] at hfb
      have HX : Hid (enterRB xs (bodyL xs) p = (l && (decide (0 ≤ f) && (row (bodyL xs) ((p : Int) + f).toNat).any (outB xs (bodyL xs) p (p + f))))) := by show _ = _; rw [HF.out, HL.out]; rfl
      cases l
      · go_wp2_with (go_at_call 28; go_must (refine (rgoes_one HI HF HL HO _).mono ?_); rintro e w1 ⟨rfl, hb1⟩; go_must (have hbe1 := hbe.trans (hb1.mono hsz); clear hb1))
        go_roundw
        case rel => exact ⟨p + 1, by omega, by go_num, fun j hj => by
          by_cases e : j = p
          · rw [e, HX.out]; rfl
          · exact HP.out j (by omega), hbe1⟩
        case measure => simp [intOf]; omega
      · by_cases hf0 : f < 0
        · go_wp2_with (go_at_call 28; go_must (refine (rgoes_one HI HF HL HO _).mono ?_); rintro e w1 ⟨rfl, hb1⟩; go_must (have hbe1 := hbe.trans (hb1.mono hsz); clear hb1))
          go_roundw
          case rel => exact ⟨p + 1, by omega, by go_num, fun j hj => by
            by_cases e : j = p
            · rw [e, HX.out, decide_eq_false (by omega)]; rfl
            · exact HP.out j (by omega), hbe1⟩
          case measure => simp [intOf]; omega
        · have hto : (p : Int) + f < xs.length := by
            have := (place_ok hlt (HPl.out p hlt)).2.2.1
            rw [← HF.out] at this
            exact this
          obtain ⟨q, hq⟩ : ∃ q : Nat, (p : Int) + f = q := ⟨((p : Int) + f).toNat, by omega⟩
          have hqlt : q < xs.length := by omega
          obtain ⟨ys, HY⟩ : ∃ ys, Hid (row (bodyL xs) q = ys) := ⟨_, rfl⟩
          obtain ⟨zs, HZ⟩ : ∃ zs, Hid (row (bodyL xs) p = zs) := ⟨_, rfl⟩
          have HX2 : Hid (enterRB xs (bodyL xs) p = ys.any (outB xs (bodyL xs) p q)) := by
            show _ = _
            rw [HX.out, decide_eq_true (by omega), hq, ← HY.out]
            rfl
          have HSq : Hid (∀ w1, Below w.heap.size w w1 → Sees .i64 w1 (V q) ys) := fun w1 h1 => by rw [← HY.out]; exact (HB.out.row q hqlt).below h1 (Nat.le_refl _)
          have HSp : Hid (∀ w1, Below w.heap.size w w1 → Sees .i64 w1 (V p) zs) := fun w1 h1 => by rw [← HZ.out]; exact (HB.out.row p hlt).below h1 (Nat.le_refl _)
          have HLq : Hid (ys.length ≤ 64) := by rw [← HY.out]; exact HB.out.len q hqlt
          have HLp : Hid (zs.length ≤ 64) := by rw [← HZ.out]; exact HB.out.len p hlt
          have HVq : Hid (∀ w1, Below w.heap.size w w1 → w1.cell? ⟨B, q, none⟩ = some (V q) ∧ w1.cell? ⟨B, p, none⟩ = some (V p)) := fun w1 h1 => by
            rw [h1.cell (p := ⟨B, q, none⟩) hBlt, h1.cell (p := ⟨B, p, none⟩) hBlt]
            exact ⟨HB.out.out.cell hqlt, HB.out.out.cell hlt⟩
          obtain ⟨aq, cq, hVq⟩ := (HSq.out w (Below.refl _ _)).shape
          have hys := HLq.out
          have HYm : Hid (∀ x ∈ ys, ∃ k : Nat, x = k ∧ k < xs.length ∧ (nth xs k).op = 20) := fun x hx => by
            rw [← HY.out] at hx
            exact body_at hqlt hx
          have hf0' : 0 ≤ f := by omega
          clear hf0 HX
          go_wp2_with (go_at_call 28; go_must (refine (rgoes_one HI HF HL HO _).mono ?_); rintro e w1 ⟨rfl, hb1⟩; go_must (have hbe1 := hbe.trans (hb1.mono hsz); clear hb1))
          go_loopw [11] (fun i wr => ∃ j : Nat, j ≤ ys.length ∧ i = .int .i64 j ∧ Hid ((ys.take j).any (outB xs (bodyL xs) p q) = false) ∧ Below w.heap.size w wr) (fun i _ => ys.length - (intOf i).toNat)
          case atStart => exact ⟨0, by omega, rfl, rfl, hbe1⟩
          case round =>
            clear c0 c1 c2 c3 c4 hbe1
            obtain ⟨j, hj, rfl, HJ, hbq⟩ := hrel
            have hsq := hbq.size
            obtain ⟨e0, e1⟩ := HVq.out _ hbq
            have hBr : B < wr.heap.size := by omega
            rw [hVq] at e0
            by_cases hjn : j < ys.length
            · obtain ⟨aq', cq', ev, _, _, _, _, hcl⟩ := HSq.out _ hbq
              obtain ⟨bq, offq, ea, hbq1, hcq⟩ := hcl (fun h => by rw [h] at hjn; simp at hjn)
              obtain rfl : aq = some ⟨bq, offq, none⟩ := by rw [hVq] at ev; injection ev with e1 _ _; rw [e1, ea]
              have g0 := hcq j hjn
              clear ev ea hcq hcl
              obtain ⟨k, hk1, hk2, hk3⟩ := HYm.out _ (getD_mem ys j hjn)
              rw [hk1] at g0
              have HK : Hid (ys.getD j 0 = (k : Int)) := hk1
              clear hk1
              obtain ⟨_, k1, _, _, _⟩ := HA.out _ hbq k hk2
              obtain ⟨dk, HD⟩ : ∃ dk, Hid ((nth xs k).d = dk) := ⟨_, rfl⟩
              replace k1 : wr.cell? ⟨b, off + k * 5 + 1, none⟩ = some (.int .i64 dk) := by rw [← HD.out]; exact k1
              have hdk : 1 ≤ dk ∧ dk ≤ 63 := by have := loop_d HPl.out hk2 hk3; rw [HD.out] at this; omega
              clear hk3
              obtain ⟨r, Hr⟩ : ∃ r, Hid (r = memB zs k) := ⟨_, rfl⟩
              have HT : Hid ((ys.take (j + 1)).any (outB xs (bodyL xs) p q) = (!r && decide ((q : Int) ≠ k - dk))) := by
                show _ = _
                rw [any_take hjn, HJ.out, HK.out]
                unfold outB
                rw [HZ.out, Hr.out, show ((k : Int)).toNat = k by omega, HD.out]
                rfl
              cases r
              · by_cases hne : (q : Int) = k - dk
                · have hneb : ((q : Int) != (k : Int) - dk) = false := by simpa using hne
                  have HNE : Hid ((q : Int) = k - dk) := hne
                  clear hne
                  go_wp2_with (go_at_call 42; go_must (refine (has_as (HSp.out _ hbq) HLp.out Hr).mono ?_); rintro e w1 ⟨rfl, rfl⟩)
                  go_roundw
                  case rel => exact ⟨j + 1, by omega, by go_num, by show _ = _; rw [HT.out, decide_eq_false (by have := HNE.out; omega)]; rfl, hbq⟩
                  case measure => simp [intOf]; omega
                · have hneb : ((q : Int) != (k : Int) - dk) = true := by simpa using hne
                  have HF2 : Hid (R = some (p : Int)) := by
                    show _ = _
                    rw [hR.out, first_some HP.out hlt, optN]
                    rw [HX2.out]
                    refine any_yes hjn ?_
                    have h1 := HT.out
                    rw [any_take hjn, HJ.out, Bool.false_or] at h1
                    rw [h1, decide_eq_true hne]; rfl
                  go_wp2_with (go_at_call 42; go_must (refine (has_as (HSp.out _ hbq) HLp.out Hr).mono ?_); rintro e w1 ⟨rfl, rfl⟩)
                  go_ret2
                  exact ⟨by rw [HF2.out]; rfl, hbq⟩
              · go_wp2_with (go_at_call 42; go_must (refine (has_as (HSp.out _ hbq) HLp.out Hr).mono ?_); rintro e w1 ⟨rfl, rfl⟩)
                go_roundw
                case rel => exact ⟨j + 1, by omega, by go_num, by show _ = _; rw [HT.out]; rfl, hbq⟩
                case measure => simp [intOf]; omega
            · obtain rfl : j = ys.length := by omega
              go_wp2
              go_roundw
              case rel => exact ⟨p + 1, by omega, by go_num, fun i hi => by
                by_cases e : i = p
                · rw [e, HX2.out]; have := HJ.out; rwa [List.take_length] at this
                · exact HP.out i (by omega), hbq⟩
              case measure => simp [intOf]; omega
    · obtain rfl : p = xs.length := by omega
      have HF : Hid (R = none) := by show _ = _; rw [hR.out, first_none HP.out]; rfl
      go_wp2
      go_ret2
      exact ⟨by rw [HF.out]; rfl, hbe⟩
theorem drop_int {ys : List Int} {j : Nat} (h : j < ys.length) : ys.drop j = ys.getD j 0 :: ys.drop (j + 1) := by
  rw [List.drop_eq_getElem_cons h]; simp [List.getD, h]
set_option maxHeartbeats 3200000 in
theorem rcost_any (v : Value) (xs : List In) (w : World) (hs : SeesI w v xs) (hn : xs.length ≤ 64) (hpl : Placed xs) (B : Nat) (V : Nat → Value) (hb : SeesB w B xs.length V (bodyL xs)) {R : Int} (hR : Hid (R = costR xs (bodyL xs) xs.length)) :
    Calls Try.prog 32 #[v, .slice (some ⟨B, 0, none⟩) xs.length xs.length] w fun e w' => e = .returned (.int .i64 R) ∧ w = w' := by
  have HB : Hid (SeesB w B xs.length V (bodyL xs)) := hb
  have HPl : Hid (Placed xs) := hpl
  have hBlt := hb.out.lt
  obtain ⟨a, cap, rfl, hc, hm, hn0, hcell⟩ := hs
  have HC : Hid (xs ≠ [] → ∃ b off, a = some ⟨b, off, none⟩ ∧ b < w.heap.size ∧ ∀ k, k < xs.length → At w b (off + k * 5) (xs.getD k In.nil)) := hcell
  clear hcell hn0 hb hpl
  go_enter Try.func32, Try.ntmps32
  go_wp2
  go_loopw [6, 5] (fun i s wr => ∃ (p : Nat) (S : Int), p ≤ xs.length ∧ i = .int .i64 p ∧ s = .int .i64 S ∧ Hid (S = costR xs (bodyL xs) p) ∧ 0 ≤ S ∧ S ≤ 65536 * p ∧ w = wr) (fun i _ _ => xs.length - (intOf i).toNat)
  case atStart => exact ⟨0, 0, by omega, rfl, rfl, rfl, by omega, by omega, rfl⟩
  case round =>
    obtain ⟨p, S, hp, rfl, rfl, HS, hS0, hS1, rfl⟩ := hrel
    by_cases hlt : p < xs.length
    · obtain ⟨b, off, rfl, hb, hat⟩ := HC.out (fun h => by rw [h] at hlt; simp at hlt)
      have HA : Hid (∀ k, k < xs.length → At w b (off + k * 5) (xs.getD k In.nil)) := hat
      clear hat HC
      obtain ⟨ys, HY⟩ : ∃ ys, Hid (row (bodyL xs) p = ys) := ⟨_, rfl⟩
      have HSq : Hid (Sees .i64 w (V p) ys) := by rw [← HY.out]; exact HB.out.row p hlt
      have HLq : Hid (ys.length ≤ 64) := by rw [← HY.out]; exact HB.out.len p hlt
      have hys := HLq.out
      have hcv := HB.out.out.cell (i := p) hlt
      obtain ⟨aq, cq, hVq⟩ := HSq.out.shape
      rw [hVq] at hcv
      have HYm : Hid (∀ x ∈ ys, ∃ k : Nat, x = k ∧ k < xs.length ∧ (nth xs k).op = 20) := fun x hx => by
        rw [← HY.out] at hx
        exact body_at hlt hx
      have HEr : Hid (1 ≤ earlyR xs ys 1 ∧ earlyR xs ys 1 ≤ 65536) := by rw [← HY.out]; have := early_ok HPl.out hlt; exact ⟨this.1, this.2.1⟩
      have HN : Hid (costR xs (bodyL xs) (p + 1) = S + earlyR xs ys 1) := by show _ = _; rw [costR, HS.out, HY.out]
      go_wp2
      go_loopw [8, 7] (fun i s wr => ∃ (j : Nat) (t : Int), j ≤ ys.length ∧ i = .int .i64 j ∧ s = .int .i64 t ∧ Hid (earlyR xs ys 1 = earlyR xs (ys.drop j) t) ∧ 1 ≤ t ∧ t ≤ 65536 ∧ w = wr) (fun i _ _ => ys.length - (intOf i).toNat)
      case atStart => exact ⟨0, 1, by omega, rfl, rfl, rfl, by omega, by omega, rfl⟩
      case round =>
        obtain ⟨j, t, hj, rfl, rfl, HT, ht0, ht1, rfl⟩ := hrel
        by_cases hjn : j < ys.length
        · by_cases ht : t ≤ 256
          · obtain ⟨aq', cq', ev, _, _, _, _, hcl⟩ := HSq.out
            obtain ⟨bq, offq, ea, hbq1, hcq⟩ := hcl (fun h => by rw [h] at hjn; simp at hjn)
            obtain rfl : aq = some ⟨bq, offq, none⟩ := by rw [hVq] at ev; injection ev with e1 _ _; rw [e1, ea]
            have g0 := hcq j hjn
            clear ev ea hcq hcl
            obtain ⟨k, hk1, hk2, hk3⟩ := HYm.out _ (getD_mem ys j hjn)
            rw [hk1] at g0
            have HK : Hid (ys.getD j 0 = (k : Int)) := hk1
            clear hk1
            obtain ⟨_, _, _, _, k1⟩ := HA.out k hk2
            obtain ⟨ik, HD⟩ : ∃ ik, Hid ((nth xs k).imm = ik) := ⟨_, rfl⟩
            replace k1 : w.cell? ⟨b, off + k * 5 + 4, none⟩ = some (.int .i64 ik) := by rw [← HD.out]; exact k1
            have hik : 1 ≤ ik ∧ ik ≤ 255 := by have := loop_d HPl.out hk2 hk3; rw [HD.out] at this; omega
            clear hk3
            have hmul : 0 ≤ t * (ik + 1) ∧ t * (ik + 1) ≤ 256 * 256 := ⟨Int.mul_nonneg (by omega) (by omega), Int.mul_le_mul ht (by omega) (by omega) (by omega)⟩
            have hmg := mul_grow ht0 (show 0 ≤ ik by omega)
            have HT2 : Hid (earlyR xs ys 1 = earlyR xs (ys.drop (j + 1)) (t * (ik + 1))) := by
              show _ = _
              rw [HT.out, drop_int hjn, earlyR, if_pos ht, HK.out, show ((k : Int)).toNat = k by omega, HD.out]
            go_wp2
            go_roundw
            case rel => exact ⟨j + 1, t * (ik + 1), by omega, by go_num, by go_num, HT2, by omega, by omega, by trivial⟩
            case measure => simp [intOf]; omega
          · have HE : Hid (earlyR xs ys 1 = t) := by show _ = _; rw [HT.out, drop_int hjn, earlyR, if_neg ht]
            go_wp2
            go_roundw
            case rel => exact ⟨p + 1, S + t, by omega, by go_num, by go_num, by show _ = _; rw [HN.out, HE.out], by omega, by omega, by trivial⟩
            case measure => simp [intOf]; omega
        · obtain rfl : j = ys.length := by omega
          have HE : Hid (earlyR xs ys 1 = t) := by show _ = _; rw [HT.out, List.drop_length]; rfl
          go_wp2
          go_roundw
          case rel => exact ⟨p + 1, S + t, by omega, by go_num, by go_num, by show _ = _; rw [HN.out, HE.out], by omega, by omega, by trivial⟩
          case measure => simp [intOf]; omega
    · obtain rfl : p = xs.length := by omega
      go_wp2
      go_ret
      exact ⟨ri (by rw [hR.out, HS.out]), by trivial⟩
end Go.Proofs.Ytfmibjgihicedaa
