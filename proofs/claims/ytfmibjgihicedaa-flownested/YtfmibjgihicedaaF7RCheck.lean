/-
  What the document's Check and Cost answer. No condition.
-/
import Derived.Test.YtfmibjgihicedaaF7REnter
namespace Go.Proofs.Ytfmibjgihicedaa
open Go.RowKit Go.Deep
set_option linter.unusedVariables false
set_option maxRecDepth 20000

theorem rright_one {i : In} {op d a b imm : Int} {r : Bool} (hi : Hid (i = ⟨op, d, a, b, imm⟩)) (hr : Hid (r = i.right)) (w : World) : Calls Try.prog 27 #[instV op d a b imm] w fun e w' => e = .returned (.bool r) ∧ Below w.heap.size w w' := by
  have h := right_any op d a b imm w
  rw [hr.out, hi.out]
  exact h
set_option maxHeartbeats 3200000 in
theorem rcheck_any (v : Value) (xs : List In) (w : World) (hs : SeesI w v xs) {P E : Int} (hP : Hid (checkL xs = (P, E))) :
    Calls Try.prog 11 #[v] w fun e w' => e = .returned (.tuple #[.int .i64 P, .int .i64 E]) ∧ Below w.heap.size w w' := by
  have hP : Hid (checkR xs = (P, E)) := by show _ = _; rw [checkR_eq]; exact hP.out
  have HS := keepH hs
  obtain ⟨a, cap, rfl, hc, hm, hn0, hcell⟩ := hs
  have HC : Hid (xs ≠ [] → ∃ b off, a = some ⟨b, off, none⟩ ∧ b < w.heap.size ∧ ∀ k, k < xs.length → At w b (off + k * 5) (xs.getD k In.nil)) := hcell
  clear hcell hn0
  by_cases h0 : xs.length = 0
  · have HE : Hid (P = 0 ∧ E = 10) := by have := hP.out; unfold checkR at this; rw [if_pos h0] at this; injection this with a b; exact ⟨a.symm, b.symm⟩
    rw [h0]
    go_enter Try.func11, Try.ntmps11
    go_wp2
    go_ret2
    exact ⟨r2i HE.out.1.symm HE.out.2.symm, Below.refl _ _⟩
  have h0b : ((xs.length : Int) == 0) = false := by simp; exact fun h => h0 (by rw [h]; rfl)
  by_cases h64 : 64 < xs.length
  · have HE : Hid (P = 0 ∧ E = 11) := by have := hP.out; unfold checkR at this; rw [if_neg h0, if_pos h64] at this; injection this with a b; exact ⟨a.symm, b.symm⟩
    go_enter Try.func11, Try.ntmps11
    go_wp2
    go_ret2
    exact ⟨r2i HE.out.1.symm HE.out.2.symm, Below.refl _ _⟩
  have HP : Hid ((P, E) = match first (placeB xs) xs.length with
      | some k => ((k : Int), placeE xs k)
      | none => match first (crossRB xs (bodyL xs)) xs.length with
        | some t => ((t : Int), 31)
        | none => match first (enterRB xs (bodyL xs)) xs.length with
          | some p => ((p : Int), 31)
          | none => if 256 < costR xs (bodyL xs) xs.length then (0, 32) else (0, 0)) := by
    have h := hP.out
    unfold checkR at h
    rw [if_neg h0, if_neg h64] at h
    exact h.symm
  clear hP
  obtain ⟨b, off, rfl, hb, hat⟩ := HC.out (fun h => by rw [h] at h0; simp at h0)
  have HA : Hid (∀ w1, Below w.heap.size w w1 → ∀ k, k < xs.length → At w1 b (off + k * 5) (xs.getD k In.nil)) := fun w1 h1 k hk => (hat k hk).below h1 hb
  clear hat HC
  go_enter Try.func11, Try.ntmps11
  go_wp2
  go_loopw [5] (fun i wr => ∃ k : Nat, k ≤ xs.length ∧ i = .int .i64 k ∧ Hid (∀ j, j < k → placeB xs j = false) ∧ Below w.heap.size w wr) (fun i _ => xs.length - (intOf i).toNat)
  case atStart => exact ⟨0, by omega, rfl, fun j hj => by omega, Below.refl _ _⟩
  case round =>
    obtain ⟨k, hk, rfl, HK, hbe⟩ := hrel
    have hsz := hbe.size
    by_cases hlt : k < xs.length
    · obtain ⟨c0, c1, c2, c3, c4⟩ := HA.out _ hbe k hlt
      obtain ⟨⟨op, d, a, bb, imm⟩, HI⟩ : ∃ i, Hid (nth xs k = i) := ⟨_, rfl⟩
      have HI2 : xs.getD k In.nil = ⟨op, d, a, bb, imm⟩ := HI.out
      rw [HI2] at c0 c1 c2 c3 c4
      have HA2 : Hid (∀ w1, Below w.heap.size w w1 → At w1 b (off + k * 5) ⟨op, d, a, bb, imm⟩) := fun w1 h1 => by rw [← HI2]; exact HA.out w1 h1 k hlt
      clear HI2
      simp only at c0 c1 c2 c3 c4
      have hbr : b < wr.heap.size := by omega
      obtain ⟨r, HR⟩ : ∃ r, Hid (r = (nth xs k).right) := ⟨_, rfl⟩
      obtain ⟨f, HF⟩ : ∃ f, Hid (f = (nth xs k).far) := ⟨_, rfl⟩
      obtain ⟨l, HL⟩ : ∃ l, Hid (l = (nth xs k).leads) := ⟨_, rfl⟩
      obtain ⟨o, HO⟩ : ∃ o, Hid (o = (nth xs k).on) := ⟨_, rfl⟩
      have hfb := far_bd (nth xs k)
      rw [← HF.out] at hfb
      have hfl : l = false → f = 0 := by
        intro h
        rcases goes_parts (nth xs k) with g | g | g | g
        · rw [HF.out, g.2.1]
        · rw [HL.out, g.2.2.2.2.1] at h; cases h
        · rw [HL.out, g.2.2.2.1] at h; cases h
        · rw [HF.out, g.2.2.1]
      have HFL : Hid (l = false → f = 0) := hfl
      clear hfl
      have HX : Hid (placeE xs k = if r = false then 12 else if (k : Int) + f < 0 ∨ (xs.length : Int) ≤ k + f then 30 else if o = true ∧ k + 1 = xs.length then 36 else 0) := by show _ = _; rw [HR.out, HF.out, HO.out]; rfl
      have HY : Hid (∀ q, placeE xs k = q → q ≠ 0 → (k : Int) = P ∧ q = E) := fun q hq hq0 => by
        have h := HP.out
        rw [first_some HK.out hlt (by unfold placeB; rw [hq]; simpa using hq0)] at h
        dsimp only at h
        injection h with h1 h2
        exact ⟨h1.symm, by rw [h2, hq]⟩
      have HZ : Hid (placeE xs k = 0 → ∀ j, j < k + 1 → placeB xs j = false) := fun hq j hj => by
        by_cases e : j = k
        · rw [e]; unfold placeB; rw [hq]; rfl
        · exact HK.out j (by omega)
      cases r
      · have HE : Hid ((k : Int) = P ∧ 12 = E) := HY.out 12 (by rw [HX.out]; rfl) (by decide)
        go_wp2_with (first
          | (go_at_call 27; go_must (refine (rright_one HI HR _).mono ?_); rintro e w1 ⟨rfl, hb1⟩; go_must (have hbe1 := hbe.trans (hb1.mono hsz); clear hb1; obtain ⟨d0, d1, d2, d3, d4⟩ := HA2.out w1 hbe1; clear c0 c1 c2 c3 c4; have hsz1 := hbe1.size; have hbr1 : b < w1.heap.size := by omega))
          | (go_at_call 28; go_must (refine (rgoes_one HI HF HL HO _).mono ?_); rintro e w2 ⟨rfl, hb2⟩; go_must (have hbe2 := hbe1.trans (hb2.mono hbe1.size); clear hb2 d0 d1 d2 d3 d4)))
        go_ret2
        exact ⟨r2i HE.out.1 HE.out.2, hbe1⟩
      · cases l
        · obtain rfl : f = 0 := HFL.out rfl
          cases o
          · have HE : Hid (∀ j, j < k + 1 → placeB xs j = false) := HZ.out (by rw [HX.out]; rw [if_neg (by simp), if_neg (by omega), if_neg (by simp)])
            go_wp2_with (first
              | (go_at_call 27; go_must (refine (rright_one HI HR _).mono ?_); rintro e w1 ⟨rfl, hb1⟩; go_must (have hbe1 := hbe.trans (hb1.mono hsz); clear hb1; obtain ⟨d0, d1, d2, d3, d4⟩ := HA2.out w1 hbe1; clear c0 c1 c2 c3 c4; have hsz1 := hbe1.size; have hbr1 : b < w1.heap.size := by omega))
              | (go_at_call 28; go_must (refine (rgoes_one HI HF HL HO _).mono ?_); rintro e w2 ⟨rfl, hb2⟩; go_must (have hbe2 := hbe1.trans (hb2.mono hbe1.size); clear hb2 d0 d1 d2 d3 d4)))
            go_roundw
            case rel => exact ⟨k + 1, by omega, by go_num, HE, hbe2⟩
            case measure => simp [intOf]; omega
          · by_cases he : k + 1 = xs.length
            · have heb : ((k : Int) + 1 == (xs.length : Int)) = true := by simp; omega
              have HE : Hid ((k : Int) = P ∧ 36 = E) := HY.out 36 (by rw [HX.out]; rw [if_neg (by simp), if_neg (by omega), if_pos ⟨rfl, he⟩]) (by decide)
              go_wp2_with (first
                | (go_at_call 27; go_must (refine (rright_one HI HR _).mono ?_); rintro e w1 ⟨rfl, hb1⟩; go_must (have hbe1 := hbe.trans (hb1.mono hsz); clear hb1; obtain ⟨d0, d1, d2, d3, d4⟩ := HA2.out w1 hbe1; clear c0 c1 c2 c3 c4; have hsz1 := hbe1.size; have hbr1 : b < w1.heap.size := by omega))
                | (go_at_call 28; go_must (refine (rgoes_one HI HF HL HO _).mono ?_); rintro e w2 ⟨rfl, hb2⟩; go_must (have hbe2 := hbe1.trans (hb2.mono hbe1.size); clear hb2 d0 d1 d2 d3 d4)))
              go_ret2
              exact ⟨r2i HE.out.1 HE.out.2, hbe2⟩
            · have heb : ((k : Int) + 1 == (xs.length : Int)) = false := by simp; omega
              have HE : Hid (∀ j, j < k + 1 → placeB xs j = false) := HZ.out (by rw [HX.out]; rw [if_neg (by simp), if_neg (by omega), if_neg (by simp; omega)])
              go_wp2_with (first
                | (go_at_call 27; go_must (refine (rright_one HI HR _).mono ?_); rintro e w1 ⟨rfl, hb1⟩; go_must (have hbe1 := hbe.trans (hb1.mono hsz); clear hb1; obtain ⟨d0, d1, d2, d3, d4⟩ := HA2.out w1 hbe1; clear c0 c1 c2 c3 c4; have hsz1 := hbe1.size; have hbr1 : b < w1.heap.size := by omega))
                | (go_at_call 28; go_must (refine (rgoes_one HI HF HL HO _).mono ?_); rintro e w2 ⟨rfl, hb2⟩; go_must (have hbe2 := hbe1.trans (hb2.mono hbe1.size); clear hb2 d0 d1 d2 d3 d4)))
              go_roundw
              case rel => exact ⟨k + 1, by omega, by go_num, HE, hbe2⟩
              case measure => simp [intOf]; omega
        · by_cases h1 : (k : Int) + f < 0
          · have HE : Hid ((k : Int) = P ∧ 30 = E) := HY.out 30 (by rw [HX.out]; rw [if_neg (by simp), if_pos (.inl h1)]) (by decide)
            go_wp2_with (first
              | (go_at_call 27; go_must (refine (rright_one HI HR _).mono ?_); rintro e w1 ⟨rfl, hb1⟩; go_must (have hbe1 := hbe.trans (hb1.mono hsz); clear hb1; obtain ⟨d0, d1, d2, d3, d4⟩ := HA2.out w1 hbe1; clear c0 c1 c2 c3 c4; have hsz1 := hbe1.size; have hbr1 : b < w1.heap.size := by omega))
              | (go_at_call 28; go_must (refine (rgoes_one HI HF HL HO _).mono ?_); rintro e w2 ⟨rfl, hb2⟩; go_must (have hbe2 := hbe1.trans (hb2.mono hbe1.size); clear hb2 d0 d1 d2 d3 d4)))
            go_ret2
            exact ⟨r2i HE.out.1 HE.out.2, hbe2⟩
          · by_cases h2 : (xs.length : Int) ≤ k + f
            · have h3 : (xs.length : Int) - 1 < k + f := by omega
              have HE : Hid ((k : Int) = P ∧ 30 = E) := HY.out 30 (by rw [HX.out]; rw [if_neg (by simp), if_pos (.inr h2)]) (by decide)
              go_wp2_with (first
                | (go_at_call 27; go_must (refine (rright_one HI HR _).mono ?_); rintro e w1 ⟨rfl, hb1⟩; go_must (have hbe1 := hbe.trans (hb1.mono hsz); clear hb1; obtain ⟨d0, d1, d2, d3, d4⟩ := HA2.out w1 hbe1; clear c0 c1 c2 c3 c4; have hsz1 := hbe1.size; have hbr1 : b < w1.heap.size := by omega))
                | (go_at_call 28; go_must (refine (rgoes_one HI HF HL HO _).mono ?_); rintro e w2 ⟨rfl, hb2⟩; go_must (have hbe2 := hbe1.trans (hb2.mono hbe1.size); clear hb2 d0 d1 d2 d3 d4)))
              go_ret2
              exact ⟨r2i HE.out.1 HE.out.2, hbe2⟩
            · have h3 : ¬ (xs.length : Int) - 1 < k + f := by omega
              cases o
              · have HE : Hid (∀ j, j < k + 1 → placeB xs j = false) := HZ.out (by rw [HX.out]; rw [if_neg (by simp), if_neg (by omega), if_neg (by simp)])
                go_wp2_with (first
                  | (go_at_call 27; go_must (refine (rright_one HI HR _).mono ?_); rintro e w1 ⟨rfl, hb1⟩; go_must (have hbe1 := hbe.trans (hb1.mono hsz); clear hb1; obtain ⟨d0, d1, d2, d3, d4⟩ := HA2.out w1 hbe1; clear c0 c1 c2 c3 c4; have hsz1 := hbe1.size; have hbr1 : b < w1.heap.size := by omega))
                  | (go_at_call 28; go_must (refine (rgoes_one HI HF HL HO _).mono ?_); rintro e w2 ⟨rfl, hb2⟩; go_must (have hbe2 := hbe1.trans (hb2.mono hbe1.size); clear hb2 d0 d1 d2 d3 d4)))
                go_roundw
                case rel => exact ⟨k + 1, by omega, by go_num, HE, hbe2⟩
                case measure => simp [intOf]; omega
              · by_cases he : k + 1 = xs.length
                · have heb : ((k : Int) + 1 == (xs.length : Int)) = true := by simp; omega
                  have HE : Hid ((k : Int) = P ∧ 36 = E) := HY.out 36 (by rw [HX.out]; rw [if_neg (by simp), if_neg (by omega), if_pos ⟨rfl, he⟩]) (by decide)
                  go_wp2_with (first
                    | (go_at_call 27; go_must (refine (rright_one HI HR _).mono ?_); rintro e w1 ⟨rfl, hb1⟩; go_must (have hbe1 := hbe.trans (hb1.mono hsz); clear hb1; obtain ⟨d0, d1, d2, d3, d4⟩ := HA2.out w1 hbe1; clear c0 c1 c2 c3 c4; have hsz1 := hbe1.size; have hbr1 : b < w1.heap.size := by omega))
                    | (go_at_call 28; go_must (refine (rgoes_one HI HF HL HO _).mono ?_); rintro e w2 ⟨rfl, hb2⟩; go_must (have hbe2 := hbe1.trans (hb2.mono hbe1.size); clear hb2 d0 d1 d2 d3 d4)))
                  go_ret2
                  exact ⟨r2i HE.out.1 HE.out.2, hbe2⟩
                · have heb : ((k : Int) + 1 == (xs.length : Int)) = false := by simp; omega
                  have HE : Hid (∀ j, j < k + 1 → placeB xs j = false) := HZ.out (by rw [HX.out]; rw [if_neg (by simp), if_neg (by omega), if_neg (by simp; omega)])
                  go_wp2_with (first
                    | (go_at_call 27; go_must (refine (rright_one HI HR _).mono ?_); rintro e w1 ⟨rfl, hb1⟩; go_must (have hbe1 := hbe.trans (hb1.mono hsz); clear hb1; obtain ⟨d0, d1, d2, d3, d4⟩ := HA2.out w1 hbe1; clear c0 c1 c2 c3 c4; have hsz1 := hbe1.size; have hbr1 : b < w1.heap.size := by omega))
                    | (go_at_call 28; go_must (refine (rgoes_one HI HF HL HO _).mono ?_); rintro e w2 ⟨rfl, hb2⟩; go_must (have hbe2 := hbe1.trans (hb2.mono hbe1.size); clear hb2 d0 d1 d2 d3 d4)))
                  go_roundw
                  case rel => exact ⟨k + 1, by omega, by go_num, HE, hbe2⟩
                  case measure => simp [intOf]; omega
    · obtain rfl : k = xs.length := by omega
      have HPl : Hid (Placed xs) := HK.out
      have HP2 : Hid ((P, E) = match first (crossRB xs (bodyL xs)) xs.length with
        | some t => ((t : Int), 31)
        | none => match first (enterRB xs (bodyL xs)) xs.length with
          | some p => ((p : Int), 31)
          | none => if 256 < costR xs (bodyL xs) xs.length then (0, 32) else (0, 0)) := by
        have h := HP.out
        rw [first_none HK.out] at h
        exact h
      clear HP
      have HSr : Hid (SeesI wr (.slice (some ⟨b, off, none⟩) xs.length cap) xs) := HS.out.below hbe
      obtain ⟨R, HR⟩ : ∃ R, Hid (R = first (crossRB xs (bodyL xs)) xs.length) := ⟨_, rfl⟩
      rw [← HR.out] at HP2
      have HR2 : Hid (optN R = optN (first (crossRB xs (bodyL xs)) xs.length)) := by show _ = _; rw [HR.out]
      obtain ⟨I, HI⟩ : ∃ I, Hid (I = first (enterRB xs (bodyL xs)) xs.length) := ⟨_, rfl⟩
      rw [← HI.out] at HP2
      have HI2 : Hid (optN I = optN (first (enterRB xs (bodyL xs)) xs.length)) := by show _ = _; rw [HI.out]
      obtain ⟨C, HCo⟩ : ∃ C, Hid (C = costR xs (bodyL xs) xs.length) := ⟨_, rfl⟩
      rw [← HCo.out] at HP2
      have hx64 : xs.length ≤ 64 := by omega
      cases R with
      | some t =>
        have HB : Hid (P = (t : Int) ∧ E = 31) := by have h := HP2.out; dsimp only at h; injection h with h1 h2; exact ⟨h1, h2⟩
        go_wp2_with (first
          | (go_at_call 29; go_must (refine (bodies_any _ xs _ HSr.out HPl.out hx64).mono ?_); rintro e w1 ⟨V, rfl, hBd⟩; go_must (have hL : Hid (SeesB w1 wr.heap.size xs.length V (bodyL xs)) := Bd.sees hx64 hBd; have hbe1 := hbe.trans (hBd.g.mono hsz); clear hBd))
          | (go_at_call 30; go_must (refine (rcross_any _ xs _ (HS.out.below hbe1) hx64 _ V (bodyL xs) hL.out HR2).mono ?_); rintro e w2 ⟨he, hb2⟩; go_must (simp only [optI, optN] at he; subst he hb2)))
        go_ret2
        exact ⟨r2i HB.out.1.symm HB.out.2.symm, hbe1⟩
      | none =>
        cases I with
        | some p =>
          have HB : Hid (P = (p : Int) ∧ E = 31) := by have h := HP2.out; dsimp only at h; injection h with h1 h2; exact ⟨h1, h2⟩
          go_wp2_with (first
            | (go_at_call 29; go_must (refine (bodies_any _ xs _ HSr.out HPl.out hx64).mono ?_); rintro e w1 ⟨V, rfl, hBd⟩; go_must (have hL : Hid (SeesB w1 wr.heap.size xs.length V (bodyL xs)) := Bd.sees hx64 hBd; have hbe1 := hbe.trans (hBd.g.mono hsz); clear hBd))
            | (go_at_call 30; go_must (refine (rcross_any _ xs _ (HS.out.below hbe1) hx64 _ V (bodyL xs) hL.out HR2).mono ?_); rintro e w2 ⟨he, hb2⟩; go_must (simp only [optI, optN] at he; subst he hb2))
            | (go_at_call 31; go_must (refine (renter_any _ xs _ (HS.out.below hbe1) hx64 HPl.out _ V hL.out HI2).mono ?_); rintro e w3 ⟨he, hb3⟩; go_must (simp only [optI, optN] at he; subst he; have hbe3 := hbe1.trans (hb3.mono hbe1.size); have hL3 : Hid (SeesB w3 wr.heap.size xs.length V (bodyL xs)) := SeesB.below hL.out hb3; clear hb3)))
          go_ret2
          exact ⟨r2i HB.out.1.symm HB.out.2.symm, hbe3⟩
        | none =>
          by_cases hC : 256 < C
          · have HB : Hid (P = 0 ∧ E = 32) := by have h := HP2.out; dsimp only at h; rw [if_pos hC] at h; injection h with h1 h2; exact ⟨h1, h2⟩
            go_wp2_with (first
              | (go_at_call 29; go_must (refine (bodies_any _ xs _ HSr.out HPl.out hx64).mono ?_); rintro e w1 ⟨V, rfl, hBd⟩; go_must (have hL : Hid (SeesB w1 wr.heap.size xs.length V (bodyL xs)) := Bd.sees hx64 hBd; have hbe1 := hbe.trans (hBd.g.mono hsz); clear hBd))
              | (go_at_call 30; go_must (refine (rcross_any _ xs _ (HS.out.below hbe1) hx64 _ V (bodyL xs) hL.out HR2).mono ?_); rintro e w2 ⟨he, hb2⟩; go_must (simp only [optI, optN] at he; subst he hb2))
              | (go_at_call 31; go_must (refine (renter_any _ xs _ (HS.out.below hbe1) hx64 HPl.out _ V hL.out HI2).mono ?_); rintro e w3 ⟨he, hb3⟩; go_must (simp only [optI, optN] at he; subst he; have hbe3 := hbe1.trans (hb3.mono hbe1.size); have hL3 : Hid (SeesB w3 wr.heap.size xs.length V (bodyL xs)) := SeesB.below hL.out hb3; clear hb3))
              | (go_at_call 32; go_must (refine (rcost_any _ xs _ (HS.out.below hbe3) hx64 HPl.out _ V hL3.out HCo).mono ?_); rintro e w4 ⟨he, hb4⟩; go_must (subst he hb4)))
            go_ret2
            exact ⟨r2i HB.out.1.symm HB.out.2.symm, hbe3⟩
          · have HB : Hid (P = 0 ∧ E = 0) := by have h := HP2.out; dsimp only at h; rw [if_neg hC] at h; injection h with h1 h2; exact ⟨h1, h2⟩
            go_wp2_with (first
              | (go_at_call 29; go_must (refine (bodies_any _ xs _ HSr.out HPl.out hx64).mono ?_); rintro e w1 ⟨V, rfl, hBd⟩; go_must (have hL : Hid (SeesB w1 wr.heap.size xs.length V (bodyL xs)) := Bd.sees hx64 hBd; have hbe1 := hbe.trans (hBd.g.mono hsz); clear hBd))
              | (go_at_call 30; go_must (refine (rcross_any _ xs _ (HS.out.below hbe1) hx64 _ V (bodyL xs) hL.out HR2).mono ?_); rintro e w2 ⟨he, hb2⟩; go_must (simp only [optI, optN] at he; subst he hb2))
              | (go_at_call 31; go_must (refine (renter_any _ xs _ (HS.out.below hbe1) hx64 HPl.out _ V hL.out HI2).mono ?_); rintro e w3 ⟨he, hb3⟩; go_must (simp only [optI, optN] at he; subst he; have hbe3 := hbe1.trans (hb3.mono hbe1.size); have hL3 : Hid (SeesB w3 wr.heap.size xs.length V (bodyL xs)) := SeesB.below hL.out hb3; clear hb3))
              | (go_at_call 32; go_must (refine (rcost_any _ xs _ (HS.out.below hbe3) hx64 HPl.out _ V hL3.out HCo).mono ?_); rintro e w4 ⟨he, hb4⟩; go_must (subst he hb4)))
            go_ret2
            exact ⟨r2i HB.out.1.symm HB.out.2.symm, hbe3⟩
end Go.Proofs.Ytfmibjgihicedaa
