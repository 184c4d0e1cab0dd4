/-
  R26A
  R26B
  R26C
-/
import Derived.Test.YtbfbfbbpajaclaaDoorMB19
import Derived.Test.YtbfbfbbpajaclaaDoorMB11
import Derived.Test.YtbfbfbbpajaclaaDoorMB18
/-
  What the document's small functions of layer 26 do: a mark's name, its letters, an entry's fields, digits. Condition: bytes and numbers are of their kinds.
-/
namespace Go.Proofs.YtbfbfbbpajaclaaDoor
open Go.RowKit
set_option linter.unusedVariables false
set_option linter.unusedSimpArgs false
set_option maxRecDepth 100000
theorem enC_len (e : En) : (enC e).length = 22 := rfl
/-- The box of an entry. -/
theorem box_en (w : World) (e : En) : ∃ X, Hid (w.alloc (.cells (enC e).toArray 36) = X) ∧ Hid (Hp X w.heap.size 36 (enC e)) ∧ Hid (Below w.heap.size w X) := ⟨_, rfl, Hp.new w _ _, below_allocG _ _⟩
theorem digF_fuel : ∀ (f n : Nat), n < 10 ^ (f + 1) → digF (f + 2) n = digF (f + 1) n
  | 0, n, h => by
    have h0 : n / 10 = 0 := by omega
    rw [digF_last h0, digF_last h0]
  | f + 1, n, h => by
    by_cases h0 : n / 10 = 0
    · rw [digF_last h0, digF_last h0]
    · rw [digF_more h0, digF_more h0, digF_fuel f (n / 10) (by rw [Nat.pow_succ] at h; omega)]
set_option maxHeartbeats 1600000 in
theorem digits26 : ∀ (n : Nat) (w : World), n < 18446744073709551616 → Calls Tryd.prog 42 #[.int .u64 n] w fun e w' => e = .returned (.string (str (digF 20 n))) ∧ w = w' := by
  intro n
  induction n using Nat.strongRecOn with
  | _ n ih =>
    intro w hn
    by_cases h10 : n < 10
    · have h10I : (n : Int) < 10 := by omega
      have hd := digit_at n h10
      have HE : Hid (digF 20 n = [dig n]) := by show _ = _; rw [digF_last (by omega), Nat.mod_eq_of_lt h10]
      clear ih
      go_enter Tryd.func42, Tryd.ntmps42
      go_wp2_with fail
      go_ret
      exact ⟨rets (by rw [HE.out]), rfl⟩
    · have h10I : ¬ (n : Int) < 10 := by omega
      have H1 : Hid (Calls Tryd.prog 42 #[.int .u64 ((n : Int) / 10)] w fun e w' => e = .returned (.string (str (digF 20 (n / 10)))) ∧ w = w') := by
        have h := ih (n / 10) (by omega) w (by omega)
        rw [show ((n / 10 : Nat) : Int) = (n : Int) / 10 by omega] at h
        exact h
      have H2 : Hid (Calls Tryd.prog 42 #[.int .u64 ((n : Int) % 10)] w fun e w' => e = .returned (.string (str (digF 20 (n % 10)))) ∧ w = w') := by
        have h := ih (n % 10) (by omega) w (by omega)
        rw [show ((n % 10 : Nat) : Int) = (n : Int) % 10 by omega] at h
        exact h
      have HE : Hid (digF 20 n = digF 20 (n / 10) ++ digF 20 (n % 10)) := by
        show _ = _
        rw [digF_more (by omega), digF_last (u := n % 10) (by omega), Nat.mod_mod, digF_fuel 18 (n / 10) (by omega)]
      have hl1 := digF_len 20 (n / 10)
      have hl2 := digF_len 20 (n % 10)
      clear ih
      go_enter Tryd.func42, Tryd.ntmps42
      go_wp2_with (first
        | (go_at_call 42; (have hq := H1; clear hq); go_must (refine H1.out.mono ?_); rintro e1 w1 ⟨rfl, rfl⟩; go_must (clear H1))
        | (go_at_call 42; go_must (refine H2.out.mono ?_); rintro e1 w1 ⟨rfl, rfl⟩))
      go_ret
      exact ⟨rets (by rw [HE.out, str_app]), rfl⟩
theorem retb26 {a b : Bool} (h : a = b) : Ending.returned (.bool a) = .returned (.bool b) := by rw [h]
set_option maxHeartbeats 1600000 in
theorem has26 (f : List UInt8) (c : UInt8) (w : World) (hf : f.length ≤ 1000) : Calls Tryd.prog 22 #[.string (str f), .int .u8 c.toNat] w fun e w' => e = .returned (.bool (inL26 f c)) ∧ w = w' := by
  have hb : c.toNat < 256 := UInt8.toNat_lt c
  go_enter Tryd.func22, Tryd.ntmps22
  go_wp2_with fail
  go_loop [5] (fun i => ∃ k : Nat, k ≤ f.length ∧ i = .int .i64 k ∧ Hid (inL26 f c = inL26 (f.drop k) c)) (fun i => f.length - (intOf i).toNat)
  case atStart => exact ⟨0, by omega, rfl, rfl⟩
  case round =>
    obtain ⟨k, hk, rfl, HG⟩ := hrel
    by_cases hlt : k < f.length
    · obtain ⟨d, hd, HD⟩ : ∃ d, (str f)[k]'(hlt) = d ∧ Hid (f.drop k = d :: f.drop (k + 1)) := ⟨_, rfl, by show _ = _; rw [List.drop_eq_getElem_cons hlt]; rfl⟩
      have hdb : d.toNat < 256 := UInt8.toNat_lt d
      by_cases he : d = c
      · have t : ((d.toNat : Int) == (c.toNat : Int)) = true := by rw [he]; simp
        have HE : Hid (inL26 f c = true) := by show _ = _; rw [HG.out, HD.out, he]; unfold inL26; rw [List.contains_cons]; simp
        go_wp2_with fail
        go_ret
        exact ⟨retb26 HE.out.symm, rfl⟩
      · have t : ((d.toNat : Int) == (c.toNat : Int)) = false := by
          simp
          intro e
          exact he (UInt8.toNat_inj.1 (by omega))
        have HE : Hid (inL26 f c = inL26 (f.drop (k + 1)) c) := by
          show _ = _
          rw [HG.out, HD.out]; unfold inL26; rw [List.contains_cons, beq_eq_false_iff_ne.2 (fun e => he e.symm), Bool.false_or]
        go_wp2_with fail
        go_round
        case rel => exact ⟨k + 1, by omega, by go_num, HE.out⟩
        case measure => simp [intOf]; omega
    · obtain rfl : k = f.length := by omega
      have HE : Hid (inL26 f c = false) := by show _ = _; rw [HG.out, List.drop_length]; rfl
      go_wp2_with fail
      go_ret
      exact ⟨retb26 HE.out.symm, rfl⟩
theorem nm_at {k : Nat} (h : k < 18) : (nmT.map (fun l => Value.string (str l)))[k]? = some (.string (str (nmT.getD k []))) := by
  have hl : k < nmT.length := h
  rw [List.getElem?_map, List.getD_eq_getElem?_getD, List.getElem?_eq_getElem hl]
  rfl
set_option maxHeartbeats 1600000 in
theorem rname26 (m : Int) (w : World) : Calls Tryd.prog 10 #[.int .i64 m] w fun e w' => e = .returned (.string (str (nmE m))) ∧ Below w.heap.size w w' := by
  obtain ⟨X, HX, HP, HB⟩ : ∃ X, Hid (w.alloc (.cells (nmT.map (fun l => Value.string (str l))).toArray 9) = X) ∧ Hid (Hp X w.heap.size 9 (nmT.map (fun l => Value.string (str l)))) ∧ Hid (Below w.heap.size w X) := ⟨_, rfl, Hp.new w _ _, below_allocG _ _⟩
  have HX2 := keepG (show w.alloc (.cells #[.string ⟨#[]⟩, .string ⟨#[99, 97, 108, 108]⟩, .string ⟨#[114, 101, 116, 117, 114, 110]⟩, .string ⟨#[97, 112, 112, 108, 121]⟩, .string ⟨#[97, 99, 99, 101, 112, 116]⟩, .string ⟨#[116, 97, 107, 101]⟩, .string ⟨#[101, 110, 116, 101, 114]⟩, .string ⟨#[114, 97, 110]⟩, .string ⟨#[110, 111, 116, 101]⟩, .string ⟨#[100, 111, 110, 101]⟩, .string ⟨#[100, 114, 111, 112]⟩, .string ⟨#[112, 117, 98, 108, 105, 115, 104]⟩, .string ⟨#[108, 111, 97, 100, 101, 100]⟩, .string ⟨#[114, 101, 116, 105, 114, 101, 100]⟩, .string ⟨#[99, 108, 111, 115, 101, 100]⟩, .string ⟨#[101, 110, 100]⟩, .string ⟨#[97, 115, 107]⟩, .string ⟨#[98, 97, 99, 107]⟩] 9) = X from HX.out)
  by_cases h1 : m < 1
  · have HE : Hid (nmE m = []) := by show _ = _; unfold nmE; rw [if_neg (by omega)]
    go_enter Tryd.func10, Tryd.ntmps10
    go_wp2_with (rw [HX2.out])
    go_ret
    exact ⟨rets (by rw [HE.out]), HB.out⟩
  · by_cases h2 : m > 17
    · have HE : Hid (nmE m = []) := by show _ = _; unfold nmE; rw [if_neg (by omega)]
      go_enter Tryd.func10, Tryd.ntmps10
      go_wp2_with (rw [HX2.out])
      go_ret
      exact ⟨rets (by rw [HE.out]), HB.out⟩
    · obtain ⟨k, rfl⟩ : ∃ k : Nat, m = k := ⟨m.toNat, by omega⟩
      have hk : k < 18 := by omega
      have hc := HP.out.cell (j := k) (nm_at hk)
      have HE : Hid (nmE k = nmT.getD k []) := by show _ = _; unfold nmE; rw [if_pos (by omega)]; rfl
      rw [← HE.out] at hc
      have hk0 : (0 : Int) ≤ k := by omega
      have hkI : (k : Int) < 18 := by omega
      go_enter Tryd.func10, Tryd.ntmps10
      go_wp2_with (rw [HX2.out])
      go_ret
      exact ⟨rfl, HB.out⟩
end Go.Proofs.YtbfbfbbpajaclaaDoor
/-
  What the document's functions of an entry's fields do. Condition: bytes are bytes.
-/
namespace Go.Proofs.YtbfbfbbpajaclaaDoor
open Go.RowKit
set_option linter.unusedVariables false
set_option linter.unusedSimpArgs false
set_option maxRecDepth 100000
set_option maxHeartbeats 6400000 in
theorem signed26 (e : En) (c : Nat) (w : World) (hc : c < 256) : Calls Tryd.prog 23 #[enV e, .int .u8 c] w fun r w' => r = .returned (.int .i64 (sgE e c)) ∧ Below w.heap.size w w' := by
  obtain ⟨X, HX, HP, HB⟩ := box_en w e
  obtain ⟨wh, ta, fr, cm, tg, ev, hk, pg, ve, pc, mp, op, ky, vl, er, fo, rv, ou, ok, ov, va, xe⟩ := e
  unfold enV
  have HX := HX.out
  dsimp only [enC] at HX
  have HX := keepG HX
  by_cases k0 : c = 116
  · subst k0
    have p := HP.out.cell (j := 1) rfl
    go_enter Tryd.func23, Tryd.ntmps23
    go_wp2_with (rw [HX.out])
    go_ret
    exact ⟨rfl, HB.out⟩
  have d0 : ((c : Int) == 116) = false := by simp; omega
  by_cases k1 : c = 102
  · subst k1
    have p := HP.out.cell (j := 2) rfl
    go_enter Tryd.func23, Tryd.ntmps23
    go_wp2_with (rw [HX.out])
    go_ret
    exact ⟨rfl, HB.out⟩
  have d1 : ((c : Int) == 102) = false := by simp; omega
  by_cases k2 : c = 99
  · subst k2
    have p := HP.out.cell (j := 3) rfl
    go_enter Tryd.func23, Tryd.ntmps23
    go_wp2_with (rw [HX.out])
    go_ret
    exact ⟨rfl, HB.out⟩
  have d2 : ((c : Int) == 99) = false := by simp; omega
  by_cases k3 : c = 103
  · subst k3
    have p := HP.out.cell (j := 4) rfl
    go_enter Tryd.func23, Tryd.ntmps23
    go_wp2_with (rw [HX.out])
    go_ret
    exact ⟨rfl, HB.out⟩
  have d3 : ((c : Int) == 103) = false := by simp; omega
  by_cases k4 : c = 101
  · subst k4
    have p := HP.out.cell (j := 5) rfl
    go_enter Tryd.func23, Tryd.ntmps23
    go_wp2_with (rw [HX.out])
    go_ret
    exact ⟨rfl, HB.out⟩
  have d4 : ((c : Int) == 101) = false := by simp; omega
  by_cases k5 : c = 104
  · subst k5
    have p := HP.out.cell (j := 6) rfl
    go_enter Tryd.func23, Tryd.ntmps23
    go_wp2_with (rw [HX.out])
    go_ret
    exact ⟨rfl, HB.out⟩
  have d5 : ((c : Int) == 104) = false := by simp; omega
  by_cases k6 : c = 112
  · subst k6
    have p := HP.out.cell (j := 7) rfl
    go_enter Tryd.func23, Tryd.ntmps23
    go_wp2_with (rw [HX.out])
    go_ret
    exact ⟨rfl, HB.out⟩
  have d6 : ((c : Int) == 112) = false := by simp; omega
  by_cases k7 : c = 118
  · subst k7
    have p := HP.out.cell (j := 8) rfl
    go_enter Tryd.func23, Tryd.ntmps23
    go_wp2_with (rw [HX.out])
    go_ret
    exact ⟨rfl, HB.out⟩
  have d7 : ((c : Int) == 118) = false := by simp; omega
  by_cases k8 : c = 97
  · subst k8
    have p := HP.out.cell (j := 9) rfl
    go_enter Tryd.func23, Tryd.ntmps23
    go_wp2_with (rw [HX.out])
    go_ret
    exact ⟨rfl, HB.out⟩
  have d8 : ((c : Int) == 97) = false := by simp; omega
  by_cases k9 : c = 120
  · subst k9
    have p := HP.out.cell (j := 21) rfl
    go_enter Tryd.func23, Tryd.ntmps23
    go_wp2_with (rw [HX.out])
    go_ret
    exact ⟨rfl, HB.out⟩
  have d9 : ((c : Int) == 120) = false := by simp; omega
  by_cases k10 : c = 109
  · subst k10
    have p := HP.out.cell (j := 10) rfl
    go_enter Tryd.func23, Tryd.ntmps23
    go_wp2_with (rw [HX.out])
    go_ret
    exact ⟨rfl, HB.out⟩
  have d10 : ((c : Int) == 109) = false := by simp; omega
  by_cases k11 : c = 111
  · subst k11
    have p := HP.out.cell (j := 11) rfl
    go_enter Tryd.func23, Tryd.ntmps23
    go_wp2_with (rw [HX.out])
    go_ret
    exact ⟨rfl, HB.out⟩
  have d11 : ((c : Int) == 111) = false := by simp; omega
  by_cases k12 : c = 121
  · subst k12
    have p := HP.out.cell (j := 14) rfl
    go_enter Tryd.func23, Tryd.ntmps23
    go_wp2_with (rw [HX.out])
    go_ret
    exact ⟨rfl, HB.out⟩
  have d12 : ((c : Int) == 121) = false := by simp; omega
  have HE : Hid (sgE ⟨wh, ta, fr, cm, tg, ev, hk, pg, ve, pc, mp, op, ky, vl, er, fo, rv, ou, ok, ov, va, xe⟩ c = if fo = true then 1 else 0) := by
    show _ = _
    unfold sgE
    rw [if_neg k0, if_neg k1, if_neg k2, if_neg k3, if_neg k4, if_neg k5, if_neg k6, if_neg k7, if_neg k8, if_neg k9, if_neg k10, if_neg k11, if_neg k12]
  have p := HP.out.cell (j := 15) rfl
  clear k0 k1 k2 k3 k4 k5 k6 k7 k8 k9 k10 k11 k12
  cases fo
  · go_enter Tryd.func23, Tryd.ntmps23
    go_wp2_with (rw [HX.out])
    go_ret
    exact ⟨by rw [HE.out]; rfl, HB.out⟩
  · go_enter Tryd.func23, Tryd.ntmps23
    go_wp2_with (rw [HX.out])
    go_ret
    exact ⟨by rw [HE.out]; rfl, HB.out⟩
end Go.Proofs.YtbfbfbbpajaclaaDoor
/-
  What the document's functions of an entry's fields do. Condition: bytes are bytes.
-/
namespace Go.Proofs.YtbfbfbbpajaclaaDoor
open Go.RowKit
set_option linter.unusedVariables false
set_option linter.unusedSimpArgs false
set_option maxRecDepth 100000
set_option maxHeartbeats 6400000 in
theorem unsigned26 (e : En) (c : Nat) (w : World) (hc : c < 256) : Calls Tryd.prog 21 #[enV e, .int .u8 c] w fun r w' => r = .returned (.tuple #[.int .u64 (unE e c).1, .bool (unE e c).2]) ∧ Below w.heap.size w w' := by
  obtain ⟨X, HX, HP, HB⟩ := box_en w e
  obtain ⟨wh, ta, fr, cm, tg, ev, hk, pg, ve, pc, mp, op, ky, vl, er, fo, rv, ou, ok, ov, va, xe⟩ := e
  unfold enV
  have HX := HX.out
  dsimp only [enC] at HX
  have HX := keepG HX
  by_cases k0 : c = 110
  · subst k0
    have p := HP.out.cell (j := 20) rfl
    go_enter Tryd.func21, Tryd.ntmps21
    go_wp2_with (rw [HX.out])
    go_ret2
    exact ⟨rfl, HB.out⟩
  have d0 : ((c : Int) == 110) = false := by simp; omega
  by_cases k1 : c = 107
  · subst k1
    have p := HP.out.cell (j := 12) rfl
    go_enter Tryd.func21, Tryd.ntmps21
    go_wp2_with (rw [HX.out])
    go_ret2
    exact ⟨rfl, HB.out⟩
  have d1 : ((c : Int) == 107) = false := by simp; omega
  by_cases k2 : c = 119
  · subst k2
    have p := HP.out.cell (j := 13) rfl
    go_enter Tryd.func21, Tryd.ntmps21
    go_wp2_with (rw [HX.out])
    go_ret2
    exact ⟨rfl, HB.out⟩
  have d2 : ((c : Int) == 119) = false := by simp; omega
  by_cases k3 : c = 114
  · subst k3
    have p := HP.out.cell (j := 16) rfl
    go_enter Tryd.func21, Tryd.ntmps21
    go_wp2_with (rw [HX.out])
    go_ret2
    exact ⟨rfl, HB.out⟩
  have d3 : ((c : Int) == 114) = false := by simp; omega
  by_cases k4 : c = 79
  · subst k4
    have p := HP.out.cell (j := 18) rfl
    go_enter Tryd.func21, Tryd.ntmps21
    go_wp2_with (rw [HX.out])
    go_ret2
    exact ⟨rfl, HB.out⟩
  have d4 : ((c : Int) == 79) = false := by simp; omega
  by_cases k5 : c = 86
  · subst k5
    have p := HP.out.cell (j := 19) rfl
    go_enter Tryd.func21, Tryd.ntmps21
    go_wp2_with (rw [HX.out])
    go_ret2
    exact ⟨rfl, HB.out⟩
  have d5 : ((c : Int) == 86) = false := by simp; omega
  have HE : Hid (unE ⟨wh, ta, fr, cm, tg, ev, hk, pg, ve, pc, mp, op, ky, vl, er, fo, rv, ou, ok, ov, va, xe⟩ c = (0, false)) := by
    show _ = _
    unfold unE
    rw [if_neg k0, if_neg k1, if_neg k2, if_neg k3, if_neg k4, if_neg k5]
  clear k0 k1 k2 k3 k4 k5
  go_enter Tryd.func21, Tryd.ntmps21
  go_wp2_with (rw [HX.out])
  go_ret2
  exact ⟨by rw [HE.out]; rfl, HB.out⟩
set_option maxHeartbeats 6400000 in
theorem fields26 (m : Int) (o : Bool) (w : World) : Calls Tryd.prog 20 #[.int .i64 m, .bool o] w fun r w' => r = .returned (.string (str (fldL m o))) ∧ w = w' := by
  by_cases k0 : m = 1
  · subst k0
    cases o <;> (go_enter Tryd.func20, Tryd.ntmps20; go_wp2_with fail; go_ret; exact ⟨rfl, rfl⟩)
  have d0 : (m == 1) = false := by simp; omega
  by_cases k1 : m = 2
  · subst k1
    cases o <;> (go_enter Tryd.func20, Tryd.ntmps20; go_wp2_with fail; go_ret; exact ⟨rfl, rfl⟩)
  have d1 : (m == 2) = false := by simp; omega
  by_cases k2 : m = 3
  · subst k2
    cases o <;> (go_enter Tryd.func20, Tryd.ntmps20; go_wp2_with fail; go_ret; exact ⟨rfl, rfl⟩)
  have d2 : (m == 3) = false := by simp; omega
  by_cases k3 : m = 4
  · subst k3
    cases o <;> (go_enter Tryd.func20, Tryd.ntmps20; go_wp2_with fail; go_ret; exact ⟨rfl, rfl⟩)
  have d3 : (m == 4) = false := by simp; omega
  by_cases k4 : m = 5
  · subst k4
    cases o <;> (go_enter Tryd.func20, Tryd.ntmps20; go_wp2_with fail; go_ret; exact ⟨rfl, rfl⟩)
  have d4 : (m == 5) = false := by simp; omega
  by_cases k5 : m = 10
  · subst k5
    cases o <;> (go_enter Tryd.func20, Tryd.ntmps20; go_wp2_with fail; go_ret; exact ⟨rfl, rfl⟩)
  have d5 : (m == 10) = false := by simp; omega
  by_cases k6 : m = 6
  · subst k6
    cases o <;> (go_enter Tryd.func20, Tryd.ntmps20; go_wp2_with fail; go_ret; exact ⟨rfl, rfl⟩)
  have d6 : (m == 6) = false := by simp; omega
  by_cases k7 : m = 7
  · subst k7
    cases o <;> (go_enter Tryd.func20, Tryd.ntmps20; go_wp2_with fail; go_ret; exact ⟨rfl, rfl⟩)
  have d7 : (m == 7) = false := by simp; omega
  by_cases k8 : m = 8
  · subst k8
    cases o <;> (go_enter Tryd.func20, Tryd.ntmps20; go_wp2_with fail; go_ret; exact ⟨rfl, rfl⟩)
  have d8 : (m == 8) = false := by simp; omega
  by_cases k9 : m = 9
  · subst k9
    cases o <;> (go_enter Tryd.func20, Tryd.ntmps20; go_wp2_with fail; go_ret; exact ⟨rfl, rfl⟩)
  have d9 : (m == 9) = false := by simp; omega
  by_cases k10 : m = 11
  · subst k10
    cases o <;> (go_enter Tryd.func20, Tryd.ntmps20; go_wp2_with fail; go_ret; exact ⟨rfl, rfl⟩)
  have d10 : (m == 11) = false := by simp; omega
  by_cases k11 : m = 12
  · subst k11
    cases o <;> (go_enter Tryd.func20, Tryd.ntmps20; go_wp2_with fail; go_ret; exact ⟨rfl, rfl⟩)
  have d11 : (m == 12) = false := by simp; omega
  by_cases k12 : m = 13
  · subst k12
    cases o <;> (go_enter Tryd.func20, Tryd.ntmps20; go_wp2_with fail; go_ret; exact ⟨rfl, rfl⟩)
  have d12 : (m == 13) = false := by simp; omega
  by_cases k13 : m = 16
  · subst k13
    cases o <;> (go_enter Tryd.func20, Tryd.ntmps20; go_wp2_with fail; go_ret; exact ⟨rfl, rfl⟩)
  have d13 : (m == 16) = false := by simp; omega
  by_cases k14 : m = 17
  · subst k14
    cases o <;> (go_enter Tryd.func20, Tryd.ntmps20; go_wp2_with fail; go_ret; exact ⟨rfl, rfl⟩)
  have d14 : (m == 17) = false := by simp; omega
  have HE : Hid (fldL m o = [116]) := by
    show _ = _
    unfold fldL
    rw [if_neg (by omega), if_neg (by omega), if_neg (by omega), if_neg (by omega), if_neg (by omega), if_neg (by omega), if_neg (by omega), if_neg (by omega), if_neg (by omega), if_neg (by omega), if_neg (by omega), if_neg (by omega)]
  clear k0 k1 k2 k3 k4 k5 k6 k7 k8 k9 k10 k11 k12 k13 k14
  cases o <;> (go_enter Tryd.func20, Tryd.ntmps20; go_wp2_with fail; go_ret; exact ⟨by rw [HE.out]; rfl, rfl⟩)
end Go.Proofs.YtbfbfbbpajaclaaDoor
