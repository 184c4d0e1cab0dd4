/-
  What the law's comparison of instructions does: it says whether two slices are the same, and only draws. Condition: the slices read as instructions.
-/
import Derived.Test.YteccmagbebghaaaDoorO2Slices
import Derived.Deep.RegionHeld3
namespace Go.Proofs.YteccmagbebghaaaDoor
open Go.RowKit
set_option linter.unusedVariables false
set_option maxRecDepth 100000
set_option linter.unusedSimpArgs false

/-- Are two lists of instructions the same? -/
def sameI : List In → List In → Bool
  | [], [] => true
  | x :: xs, y :: ys => !neI x y && sameI xs ys
  | _, _ => false
theorem neI_iff (i j : In) : neI i j = false ↔ i = j := by
  obtain ⟨o, d, a, b, m⟩ := i
  obtain ⟨o', d', a', b', m'⟩ := j
  simp [neI]
theorem sameI_iff : ∀ xs ys : List In, sameI xs ys = true ↔ xs = ys
  | [], [] => by simp [sameI]
  | [], y :: ys => by simp [sameI]
  | x :: xs, [] => by simp [sameI]
  | x :: xs, y :: ys => by
    simp only [sameI, Bool.and_eq_true, Bool.not_eq_true', neI_iff, sameI_iff xs ys, List.cons.injEq]
theorem sameI_true {xs ys : List In} (h : xs = ys) : sameI xs ys = true := (sameI_iff xs ys).2 h
theorem sameI_false {xs ys : List In} (h : xs ≠ ys) : sameI xs ys = false := by
  cases hh : sameI xs ys
  · rfl
  · exact absurd ((sameI_iff xs ys).1 hh) h
theorem take_in (xs : List In) (k : Nat) (h : k < xs.length) : xs.take (k + 1) = xs.take k ++ [xs.getD k In.nil] := by
  rw [List.take_succ_eq_append_getElem h]; simp [List.getD, h]

set_option maxHeartbeats 3200000 in
theorem alike_some (b off cap b' off' cap' : Nat) (xs ys : List In) (w : World) (hlen : xs.length = ys.length) (hmax : xs.length ≤ 9223372036854775807)
    (hc : ∀ k, k < xs.length → At w b (off + k * 5) (xs.getD k In.nil))
    (hc' : ∀ k, k < ys.length → At w b' (off' + k * 5) (ys.getD k In.nil)) :
    Calls Tryd.prog 12 #[.slice (some ⟨b, off, none⟩) xs.length cap, .slice (some ⟨b', off', none⟩) ys.length cap'] w fun e w' => e = .returned (.bool (sameI xs ys)) ∧ ∃ n, w' = w.drewN n := by
  obtain ⟨L, HL⟩ : ∃ L, Hid (L = xs.length) := ⟨_, rfl⟩
  rw [← hlen] at hc' ⊢
  rw [← HL.out] at hc hc' hmax ⊢
  have HA : Hid (∀ k, k < L → At w b (off + k * 5) (xs.getD k In.nil)) := hc
  have HA' : Hid (∀ k, k < L → At w b' (off' + k * 5) (ys.getD k In.nil)) := hc'
  clear hc hc'
  go_enter Tryd.func12, Tryd.ntmps12
  go_wp2
  go_loopw [5] (fun i wr => ∃ k n : Nat, k ≤ L ∧ i = .int .i64 k ∧ wr = w.drewN n ∧ xs.take k = ys.take k) (fun i _ => L - (intOf i).toNat)
  case atStart => exact ⟨0, 0, by omega, rfl, rfl, rfl⟩
  case round =>
    obtain ⟨k, n, hk, rfl, rfl, ht⟩ := hrel
    have HT : Hid (xs.take k = ys.take k) := ht
    clear ht
    by_cases hlt : k < L
    · obtain ⟨op, d, a, bb, imm, HI⟩ : ∃ op d a bb imm, Hid (xs.getD k In.nil = ⟨op, d, a, bb, imm⟩) := ⟨_, _, _, _, _, rfl⟩
      obtain ⟨op', d', a', bb', imm', HI'⟩ : ∃ op' d' a' bb' imm', Hid (ys.getD k In.nil = ⟨op', d', a', bb', imm'⟩) := ⟨_, _, _, _, _, rfl⟩
      have h1 := HA.out k hlt
      have h2 := HA'.out k hlt
      rw [HI.out] at h1
      rw [HI'.out] at h2
      obtain ⟨h0, h1, h2', h3, h4⟩ := h1
      obtain ⟨g0, g1, g2, g3, g4⟩ := h2
      simp only at h0 h1 h2' h3 h4 g0 g1 g2 g3 g4
      have HNE : Hid ((⟨op, d, a, bb, imm⟩ : In) ≠ ⟨op', d', a', bb', imm'⟩ → sameI xs ys = false) := fun hne => sameI_false fun h => hne (by rw [← HI.out, ← HI'.out, h])
      have HEQ : Hid ((⟨op, d, a, bb, imm⟩ : In) = ⟨op', d', a', bb', imm'⟩ → xs.take (k + 1) = ys.take (k + 1)) := fun he => by
        rw [take_in xs k (by rw [← HL.out]; omega), take_in ys k (by rw [← hlen, ← HL.out]; omega), HT.out, HI.out, HI'.out, he]
      clear HI HI' HT
      by_cases e0 : op = op'
      · subst e0
        by_cases e1 : d = d'
        · subst e1
          by_cases e2 : a = a'
          · subst e2
            by_cases e3 : bb = bb'
            · subst e3
              by_cases e4 : imm = imm'
              · subst e4
                have HE := HEQ.out rfl
                have HE : Hid (xs.take (k + 1) = ys.take (k + 1)) := HE
                clear HEQ HNE
                go_wp2
                go_region_held3 (fun w' => (w'.cell? ⟨b, off + k * 5, none⟩ = some (.int .i64 op) ∧ w'.cell? ⟨b, off + k * 5 + 1, none⟩ = some (.int .i64 d) ∧ w'.cell? ⟨b, off + k * 5 + 2, none⟩ = some (.int .i64 a) ∧ w'.cell? ⟨b, off + k * 5 + 3, none⟩ = some (.int .i64 bb) ∧ w'.cell? ⟨b, off + k * 5 + 4, none⟩ = some (.int .i64 imm)) ∧ w'.cell? ⟨b', off' + k * 5, none⟩ = some (.int .i64 op) ∧ w'.cell? ⟨b', off' + k * 5 + 1, none⟩ = some (.int .i64 d) ∧ w'.cell? ⟨b', off' + k * 5 + 2, none⟩ = some (.int .i64 a) ∧ w'.cell? ⟨b', off' + k * 5 + 3, none⟩ = some (.int .i64 bb) ∧ w'.cell? ⟨b', off' + k * 5 + 4, none⟩ = some (.int .i64 imm)) (exact ⟨⟨h0, h1, h2', h3, h4⟩, g0, g1, g2, g3, g4⟩) (fail)
                go_wp2
                go_roundw
                case rel => exact ⟨k + 1, _, by omega, by go_num, rfl, HE.out⟩
                case measure => simp [intOf]; omega
              · have HE : Hid (sameI xs ys = false) := HNE.out (by simp [e4])
                clear HEQ HNE
                go_wp2
                go_region_held3 (fun w' => (w'.cell? ⟨b, off + k * 5, none⟩ = some (.int .i64 op) ∧ w'.cell? ⟨b, off + k * 5 + 1, none⟩ = some (.int .i64 d) ∧ w'.cell? ⟨b, off + k * 5 + 2, none⟩ = some (.int .i64 a) ∧ w'.cell? ⟨b, off + k * 5 + 3, none⟩ = some (.int .i64 bb) ∧ w'.cell? ⟨b, off + k * 5 + 4, none⟩ = some (.int .i64 imm)) ∧ w'.cell? ⟨b', off' + k * 5, none⟩ = some (.int .i64 op) ∧ w'.cell? ⟨b', off' + k * 5 + 1, none⟩ = some (.int .i64 d) ∧ w'.cell? ⟨b', off' + k * 5 + 2, none⟩ = some (.int .i64 a) ∧ w'.cell? ⟨b', off' + k * 5 + 3, none⟩ = some (.int .i64 bb) ∧ w'.cell? ⟨b', off' + k * 5 + 4, none⟩ = some (.int .i64 imm')) (exact ⟨⟨h0, h1, h2', h3, h4⟩, g0, g1, g2, g3, g4⟩) (fail)
                go_wp2
                go_ret
                exact ⟨retb HE.out.symm, n + 1, rfl⟩
            · have HE : Hid (sameI xs ys = false) := HNE.out (by simp [e3])
              clear HEQ HNE
              go_wp2
              go_region_held3 (fun w' => (w'.cell? ⟨b, off + k * 5, none⟩ = some (.int .i64 op) ∧ w'.cell? ⟨b, off + k * 5 + 1, none⟩ = some (.int .i64 d) ∧ w'.cell? ⟨b, off + k * 5 + 2, none⟩ = some (.int .i64 a) ∧ w'.cell? ⟨b, off + k * 5 + 3, none⟩ = some (.int .i64 bb) ∧ w'.cell? ⟨b, off + k * 5 + 4, none⟩ = some (.int .i64 imm)) ∧ w'.cell? ⟨b', off' + k * 5, none⟩ = some (.int .i64 op) ∧ w'.cell? ⟨b', off' + k * 5 + 1, none⟩ = some (.int .i64 d) ∧ w'.cell? ⟨b', off' + k * 5 + 2, none⟩ = some (.int .i64 a) ∧ w'.cell? ⟨b', off' + k * 5 + 3, none⟩ = some (.int .i64 bb') ∧ w'.cell? ⟨b', off' + k * 5 + 4, none⟩ = some (.int .i64 imm')) (exact ⟨⟨h0, h1, h2', h3, h4⟩, g0, g1, g2, g3, g4⟩) (fail)
              go_wp2
              go_ret
              exact ⟨retb HE.out.symm, n + 1, rfl⟩
          · have HE : Hid (sameI xs ys = false) := HNE.out (by simp [e2])
            clear HEQ HNE
            go_wp2
            go_region_held3 (fun w' => (w'.cell? ⟨b, off + k * 5, none⟩ = some (.int .i64 op) ∧ w'.cell? ⟨b, off + k * 5 + 1, none⟩ = some (.int .i64 d) ∧ w'.cell? ⟨b, off + k * 5 + 2, none⟩ = some (.int .i64 a) ∧ w'.cell? ⟨b, off + k * 5 + 3, none⟩ = some (.int .i64 bb) ∧ w'.cell? ⟨b, off + k * 5 + 4, none⟩ = some (.int .i64 imm)) ∧ w'.cell? ⟨b', off' + k * 5, none⟩ = some (.int .i64 op) ∧ w'.cell? ⟨b', off' + k * 5 + 1, none⟩ = some (.int .i64 d) ∧ w'.cell? ⟨b', off' + k * 5 + 2, none⟩ = some (.int .i64 a') ∧ w'.cell? ⟨b', off' + k * 5 + 3, none⟩ = some (.int .i64 bb') ∧ w'.cell? ⟨b', off' + k * 5 + 4, none⟩ = some (.int .i64 imm')) (exact ⟨⟨h0, h1, h2', h3, h4⟩, g0, g1, g2, g3, g4⟩) (fail)
            go_wp2
            go_ret
            exact ⟨retb HE.out.symm, n + 1, rfl⟩
        · have HE : Hid (sameI xs ys = false) := HNE.out (by simp [e1])
          clear HEQ HNE
          go_wp2
          go_region_held3 (fun w' => (w'.cell? ⟨b, off + k * 5, none⟩ = some (.int .i64 op) ∧ w'.cell? ⟨b, off + k * 5 + 1, none⟩ = some (.int .i64 d) ∧ w'.cell? ⟨b, off + k * 5 + 2, none⟩ = some (.int .i64 a) ∧ w'.cell? ⟨b, off + k * 5 + 3, none⟩ = some (.int .i64 bb) ∧ w'.cell? ⟨b, off + k * 5 + 4, none⟩ = some (.int .i64 imm)) ∧ w'.cell? ⟨b', off' + k * 5, none⟩ = some (.int .i64 op) ∧ w'.cell? ⟨b', off' + k * 5 + 1, none⟩ = some (.int .i64 d') ∧ w'.cell? ⟨b', off' + k * 5 + 2, none⟩ = some (.int .i64 a') ∧ w'.cell? ⟨b', off' + k * 5 + 3, none⟩ = some (.int .i64 bb') ∧ w'.cell? ⟨b', off' + k * 5 + 4, none⟩ = some (.int .i64 imm')) (exact ⟨⟨h0, h1, h2', h3, h4⟩, g0, g1, g2, g3, g4⟩) (fail)
          go_wp2
          go_ret
          exact ⟨retb HE.out.symm, n + 1, rfl⟩
      · have HE : Hid (sameI xs ys = false) := HNE.out (by simp [e0])
        clear HEQ HNE
        go_wp2
        go_region_held3 (fun w' => (w'.cell? ⟨b, off + k * 5, none⟩ = some (.int .i64 op) ∧ w'.cell? ⟨b, off + k * 5 + 1, none⟩ = some (.int .i64 d) ∧ w'.cell? ⟨b, off + k * 5 + 2, none⟩ = some (.int .i64 a) ∧ w'.cell? ⟨b, off + k * 5 + 3, none⟩ = some (.int .i64 bb) ∧ w'.cell? ⟨b, off + k * 5 + 4, none⟩ = some (.int .i64 imm)) ∧ w'.cell? ⟨b', off' + k * 5, none⟩ = some (.int .i64 op') ∧ w'.cell? ⟨b', off' + k * 5 + 1, none⟩ = some (.int .i64 d') ∧ w'.cell? ⟨b', off' + k * 5 + 2, none⟩ = some (.int .i64 a') ∧ w'.cell? ⟨b', off' + k * 5 + 3, none⟩ = some (.int .i64 bb') ∧ w'.cell? ⟨b', off' + k * 5 + 4, none⟩ = some (.int .i64 imm')) (exact ⟨⟨h0, h1, h2', h3, h4⟩, g0, g1, g2, g3, g4⟩) (fail)
        go_wp2
        go_ret
        exact ⟨retb HE.out.symm, n + 1, rfl⟩
    · have HE : Hid (sameI xs ys = true) := sameI_true (by
        have h1 : xs.take k = xs := List.take_of_length_le (by rw [← HL.out]; omega)
        have h2 : ys.take k = ys := List.take_of_length_le (by rw [← hlen, ← HL.out]; omega)
        rw [← h1, HT.out, h2])
      go_wp2
      go_ret
      exact ⟨retb HE.out.symm, _, rfl⟩
theorem alike_any (va vb : Value) (xs ys : List In) (w : World) (h : SeesI w va xs) (h' : SeesI w vb ys) :
    Calls Tryd.prog 12 #[va, vb] w fun e w' => e = .returned (.bool (sameI xs ys)) ∧ ∃ n, w' = w.drewN n := by
  obtain ⟨a, cap, rfl, hl, hm, hn0, hs⟩ := h
  obtain ⟨a', cap', rfl, hl', hm', hn0', hs'⟩ := h'
  unfold maxLen at hm hm'
  by_cases hlen : xs.length = ys.length
  · by_cases hne : xs = []
    · subst hne
      obtain rfl : ys = [] := List.eq_nil_of_length_eq_zero (by simpa using hlen.symm)
      go_enter Tryd.func12, Tryd.ntmps12
      go_wp2
      refine wp_loop_rounds 1 ?_
      rw [rounds_succ]
      go_wp2
      go_ret
      exact ⟨rfl, 0, rfl⟩
    · obtain ⟨b, off, rfl, _, hc⟩ := hs hne
      obtain ⟨b', off', rfl, _, hc'⟩ := hs' (fun e => hne (List.eq_nil_of_length_eq_zero (by rw [hlen, e]; rfl)))
      exact alike_some b off cap b' off' cap' xs ys w hlen (by omega) hc hc'
  · have hb : ((xs.length : Int) != (ys.length : Int)) = true := by simp; omega
    have HE : Hid (sameI xs ys = false) := sameI_false fun h => hlen (by rw [h])
    clear hs hs'
    go_enter Tryd.func12, Tryd.ntmps12
    go_wp2
    go_ret
    exact ⟨retb HE.out.symm, 0, rfl⟩
end Go.Proofs.YteccmagbebghaaaDoor
