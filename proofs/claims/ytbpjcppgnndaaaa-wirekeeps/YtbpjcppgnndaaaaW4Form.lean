/-
  What the project's mapsFit and wellFormed do: is a module well formed, as the plain rule has it. Condition: the slices read as numbers and as instructions.
-/
import Derived.Test.YtbpjcppgnndaaaaW4Decode
namespace Go.Proofs.Ytbpjcppgnndaaaa
open Go.RowKit
set_option linter.unusedVariables false
set_option maxRecDepth 100000

theorem size_int (w : World) : (Go.sizeOf 3).run Try.prog w = .ok 1 w := by
  obtain ⟨i0, hi, hz0, hz1, hz2⟩ := info_parts Try.infoInt
  simp [Go.sizeOf, typeInfo, hi, hz1]
def fitB (ms : List Int) : Bool := decide (ms.length ≤ 4) && fitF [] ms
theorem fitB_long {ms : List Int} (h : 4 < ms.length) : fitB ms = false := by
  have : decide (ms.length ≤ 4) = false := decide_eq_false (by omega)
  rw [fitB, this]; rfl
theorem fitB_short {ms : List Int} (h : ms.length ≤ 4) : fitB ms = fitF [] ms := by
  have : decide (ms.length ≤ 4) = true := decide_eq_true h
  rw [fitB, this]; rfl

set_option maxHeartbeats 1600000 in
theorem mapsFit_any (v : Value) (ms : List Int) (w : World) (h : Sees .i64 w v ms) : Calls Try.prog 36 #[v] w fun e w' => e = .returned (.bool (fitB ms)) ∧ w = w' := by
  have h0 := h
  obtain ⟨a, cap, rfl, hl, hm, hn0, hw, hs⟩ := h
  obtain ⟨L, HL⟩ : ∃ L, Hid (L = ms.length) := ⟨_, rfl⟩
  have hm : cap ≤ 9223372036854775807 := hm
  have HC : Hid (∀ k, k < L → ∃ b off, a = some ⟨b, off, none⟩ ∧ w.cell? ⟨b, off + k, none⟩ = some (.int .i64 (ms.getD k 0))) := fun k hk => by
    have hk : k < ms.length := by rw [← HL.out]; exact hk
    obtain ⟨b, off, rfl, _, hc⟩ := hs (fun e => by subst e; simp at hk)
    exact ⟨b, off, rfl, hc k hk⟩
  have HX : Hid (∀ k n, k ≤ L → ∃ cv, (∀ w, (Instr.slice 22 (.slice a ms.length cap) none (some (.int .i64 (k : Nat))) none).run Try.prog w = .ok cv w) ∧ Calls Try.prog 42 #[cv, .int .i64 n] w fun e w' => e = .returned (.bool (memB (ms.take k) n)) ∧ w = w') := fun k n hk => by
    have hk : k ≤ ms.length := by rw [← HL.out]; exact hk
    refine ⟨_, fun w => run_upto Try.underlying22 size_int a ms.length cap k (by omega) w, ?_⟩
    have h2 := h0.cut 0 k cap (by omega) hk (by omega) (Nat.le_refl _)
    rw [List.drop_zero] at h2
    exact contains_any _ _ n w h2
  rw [← HL.out] at hl HX ⊢
  clear hs h0 hn0 hw
  by_cases h4 : 4 < L
  · have HE : Hid (fitB ms = false) := fitB_long (by rw [← HL.out]; exact h4)
    go_enter Try.func36, Try.ntmps36
    go_wp2_with fail
    go_ret
    exact ⟨retb HE.out.symm, rfl⟩
  · have HE : Hid (fitB ms = fitF [] ms) := fitB_short (by rw [← HL.out]; omega)
    go_enter Try.func36, Try.ntmps36
    go_wp2_with fail
    go_loop [10] (fun i => ∃ k : Nat, k ≤ L ∧ i = .int .i64 k ∧ fitF [] (ms.take k) = true) (fun i => L - (intOf i).toNat)
    case atStart => exact ⟨0, by omega, rfl, rfl⟩
    case round =>
      obtain ⟨k, hk, rfl, hf⟩ := hrel
      have HF : Hid (fitF [] (ms.take k) = true) := hf
      clear hf
      by_cases hlt : k < L
      · obtain ⟨b, off, rfl, hcell⟩ := HC.out k hlt
        obtain ⟨n, HNN⟩ : ∃ n, Hid (ms.getD k 0 = n) := ⟨_, rfl⟩
        rw [HNN.out] at hcell
        have HBAD : Hid (n < 0 ∨ 3 < n ∨ n ∈ ms.take k → fitF [] ms = false) := fun h => fitF_bad (k := k) (by rw [← HL.out]; exact hlt) (by rw [HNN.out]; exact h)
        by_cases hn0 : n < 0
        · have HB : Hid (fitF [] ms = false) := HBAD.out (.inl hn0)
          go_wp2_with fail
          go_ret
          exact ⟨retb (by rw [HE.out, HB.out]), rfl⟩
        · by_cases hn4 : 4 ≤ n
          · have HB : Hid (fitF [] ms = false) := HBAD.out (.inr (.inl (by omega)))
            go_wp2_with fail
            go_ret
            exact ⟨retb (by rw [HE.out, HB.out]), rfl⟩
          · obtain ⟨cv, hs, hcon⟩ := HX.out k n hk
            have HCON := keepH hcon
            clear hcon
            cases hmb : memB (ms.take k) n with
            | true =>
              have HB : Hid (fitF [] ms = false) := HBAD.out (.inr (.inr (of_decide_eq_true hmb)))
              go_wp2_with (go_at_call 42; go_must (refine HCON.out.mono ?_); rintro e w' ⟨rfl, rfl⟩; rw [hmb])
              go_ret
              exact ⟨retb (by rw [HE.out, HB.out]), rfl⟩
            | false =>
              have HN : Hid (fitF [] (ms.take (k + 1)) = true) := by
                show _ = _
                rw [fitF_take (by rw [← HL.out]; exact hlt), HF.out, HNN.out]
                have h1 : decide (0 ≤ n) = true := decide_eq_true (by omega)
                have h2 : decide (n ≤ 3) = true := decide_eq_true (by omega)
                have h3 : decide (n ∈ ms.take k) = false := hmb
                rw [h1, h2, h3]; rfl
              go_wp2_with (go_at_call 42; go_must (refine HCON.out.mono ?_); rintro e w' ⟨rfl, rfl⟩; rw [hmb])
              go_round
              case rel => exact ⟨k + 1, by omega, by go_num, HN.out⟩
              case measure => simp [intOf]; omega
      · have HB : Hid (fitF [] ms = true) := by
          have h1 := HF.out
          rw [List.take_of_length_le (by rw [← HL.out]; omega)] at h1
          exact h1
        go_wp2_with fail
        go_ret
        exact ⟨retb (by rw [HE.out, HB.out]), rfl⟩

theorem formed_false {ms : List Int} {is : List In} (h : is.length < 1 ∨ 64 < is.length) : formedB ms is = false := by
  unfold formedB
  rcases h with h | h
  · have : decide (1 ≤ is.length) = false := decide_eq_false (by omega)
    rw [this]; simp
  · have : decide (is.length ≤ 64) = false := decide_eq_false (by omega)
    rw [this]; simp
theorem formed_fit {ms : List Int} {is : List In} (h1 : 1 ≤ is.length) (h2 : is.length ≤ 64) : formedB ms is = (fitB ms && is.all In.right) := by
  have a : decide (1 ≤ is.length) = true := decide_eq_true h1
  have b : decide (is.length ≤ 64) = true := decide_eq_true h2
  unfold formedB fitB
  rw [a, b]
  simp [Bool.and_assoc]
/-- A module's two slices. -/
structure SeesM (w : World) (vm vc : Value) (ms : List Int) (is : List In) : Prop where
  maps : Sees .i64 w vm ms
  code : SeesI w vc is
  wf : ∀ i ∈ is, i.wf
theorem SeesM.below {w w' : World} {vm vc : Value} {ms : List Int} {is : List In} (h : SeesM w vm vc ms is) (hb : Below w.heap.size w w') : SeesM w' vm vc ms is := ⟨h.maps.below hb (Nat.le_refl _), h.code.below hb, h.wf⟩
theorem below_alloc (w : World) (o : Obj) : Below w.heap.size w (w.alloc o) := (Below.refl _ _).alloc (Nat.le_refl _) o
theorem below_of_alloc {w w' : World} {o : Obj} (h : Below (w.alloc o).heap.size (w.alloc o) w') : Below w.heap.size w w' := (below_alloc w o).trans (h.mono (by simp))
theorem SeesI.shape {w : World} {v : Value} {is : List In} (h : SeesI w v is) : ∃ a cap, v = .slice a is.length cap := by
  obtain ⟨a, cap, rfl, _⟩ := h
  exact ⟨a, cap, rfl⟩

set_option maxHeartbeats 1600000 in
theorem wellFormed_any (vm vc : Value) (ms : List Int) (is : List In) (w : World) (h : SeesM w vm vc ms is) : Calls Try.prog 20 #[modV vm vc] w fun e w' => e = .returned (.bool (formedB ms is)) ∧ Below w.heap.size w w' := by
  obtain ⟨am, km, hvm⟩ := h.maps.shape
  obtain ⟨ac, kc, hvc⟩ := h.code.shape
  have HM := keepH (h.below (below_alloc w (.cells #[vm, vc] 25)))
  obtain ⟨L, HL⟩ : ∃ L, Hid (L = is.length) := ⟨_, rfl⟩
  have hlen : is.length ≤ 9223372036854775807 := by obtain ⟨_, cap, _, a, b, _⟩ := h.code; unfold maxLen at b; omega
  rw [← HL.out] at hvc hlen
  subst hvm hvc
  clear h
  by_cases h1 : L < 1
  · have HE : Hid (formedB ms is = false) := formed_false (.inl (by rw [← HL.out]; exact h1))
    go_enter Try.func20, Try.ntmps20
    go_wp2_with fail
    go_ret
    exact ⟨retb HE.out.symm, below_alloc _ _⟩
  · by_cases h2 : 64 < L
    · have HE : Hid (formedB ms is = false) := formed_false (.inr (by rw [← HL.out]; exact h2))
      go_enter Try.func20, Try.ntmps20
      go_wp2_with fail
      go_ret
      exact ⟨retb HE.out.symm, below_alloc _ _⟩
    · have HE : Hid (formedB ms is = (fitB ms && is.all In.right)) := formed_fit (by rw [← HL.out]; omega) (by rw [← HL.out]; omega)
      cases hf : fitB ms with
      | false =>
        go_enter Try.func20, Try.ntmps20
        go_wp2_with (go_at_call 36; go_must (refine (mapsFit_any _ ms _ HM.out.maps).mono ?_); rintro e w' ⟨rfl, rfl⟩; rw [hf])
        go_ret
        exact ⟨retb (by rw [HE.out, hf]; rfl), below_alloc _ _⟩
      | true =>
        go_enter Try.func20, Try.ntmps20
        go_wp2_with (first
          | (go_at_call 36; go_must (refine (mapsFit_any _ ms _ HM.out.maps).mono ?_); rintro e w' ⟨rfl, rfl⟩; rw [hf])
          | (go_at_call 37; go_must (refine (rights_any _ is _ HM.out.code).mono ?_); rintro e w' ⟨rfl, hb⟩))
        go_ret
        exact ⟨retb (by rw [HE.out, hf]; rfl), below_of_alloc hb⟩
end Go.Proofs.Ytbpjcppgnndaaaa
