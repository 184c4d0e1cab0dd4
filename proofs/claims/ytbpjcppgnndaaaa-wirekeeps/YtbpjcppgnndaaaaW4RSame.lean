/-
  What the document's Same does: have two modules the same maps and the same code. Condition: the modules' slices read as numbers and as instructions.
-/
import Derived.Test.YtbpjcppgnndaaaaW4Form
import Derived.Test.YtbpjcppgnndaaaaW4Alike
namespace Go.Proofs.Ytbpjcppgnndaaaa
open Go.RowKit
set_option linter.unusedVariables false
set_option maxRecDepth 100000

def sameM (ms : List Int) (is : List In) (ns : List Int) (js : List In) : Bool := eqB ms ns && sameI is js
theorem sameM_true (ms : List Int) (is : List In) : sameM ms is ms is = true := by rw [sameM, eqB_true rfl, sameI_true rfl]; rfl
theorem Sees.cellAt {k : IntKind} {w : World} {a : Option Addr} {n cap : Nat} {xs : List Int} (h : Sees k w (.slice a n cap) xs) (i : Nat) (hi : i < xs.length) : ∃ b off, a = some ⟨b, off, none⟩ ∧ w.cell? ⟨b, off + i, none⟩ = some (.int k (xs.getD i 0)) := by
  obtain ⟨a', cap', hv, _, _, _, _, hs⟩ := h
  injection hv with e1
  subst e1
  obtain ⟨b, off, rfl, _, hc⟩ := hs (fun e => by subst e; simp at hi)
  exact ⟨b, off, rfl, hc i hi⟩
theorem SeesI.cellAt {w : World} {a : Option Addr} {n cap : Nat} {xs : List In} (h : SeesI w (.slice a n cap) xs) (i : Nat) (hi : i < xs.length) : ∃ b off, a = some ⟨b, off, none⟩ ∧ At w b (off + i * 5) (xs.getD i In.nil) := by
  obtain ⟨a', cap', hv, _, _, _, hs⟩ := h
  injection hv with e1
  subst e1
  obtain ⟨b, off, rfl, _, hc⟩ := hs (fun e => by subst e; simp at hi)
  exact ⟨b, off, rfl, hc i hi⟩
theorem Sees.lenMax {k : IntKind} {w : World} {v : Value} {xs : List Int} (h : Sees k w v xs) : xs.length ≤ 9223372036854775807 := by
  obtain ⟨a, cap, _, h1, h2, _⟩ := h
  unfold maxLen at h2
  omega
theorem SeesI.lenMax {w : World} {v : Value} {xs : List In} (h : SeesI w v xs) : xs.length ≤ 9223372036854775807 := by
  obtain ⟨a, cap, _, h1, h2, _⟩ := h
  unfold maxLen at h2
  omega

set_option maxHeartbeats 6400000 in
theorem rsame_any (vm vc um uc : Value) (ms : List Int) (is : List In) (ns : List Int) (js : List In) (w : World) (h : SeesM w vm vc ms is) (h' : SeesM w um uc ns js) :
    Calls Try.prog 13 #[modV vm vc, modV um uc] w fun e w' => e = .returned (.bool (sameM ms is ns js)) ∧ Below w.heap.size w w' := by
  obtain ⟨am, km, hvm⟩ := h.maps.shape
  obtain ⟨ac, kc, hvc⟩ := h.code.shape
  obtain ⟨bm, lm, hum⟩ := h'.maps.shape
  obtain ⟨bc, lc, huc⟩ := h'.code.shape
  have m1 := h.maps.lenMax
  have m2 := h.code.lenMax
  have m3 := h'.maps.lenMax
  have m4 := h'.code.lenMax
  obtain ⟨W, HW⟩ : ∃ W, Hid (W = (w.alloc (.cells #[vm, vc] 25)).alloc (.cells #[um, uc] 25)) := ⟨_, keepH rfl⟩
  have HB : Hid (Below w.heap.size w W) := by rw [HW.out]; exact (below_alloc w _).alloc (by simp) _
  have HM1 := keepH (h.below HB.out)
  have HM2 := keepH (h'.below HB.out)
  have HD1 : Hid (MdC W w.heap.size vm vc) := by rw [HW.out]; exact (MdC.new w vm vc).kept (grown_alloc _ _ none) (by simp)
  have HD2 : Hid (MdC W (w.heap.size + 1) um uc) := by
    rw [HW.out]
    have := MdC.new (w.alloc (.cells #[vm, vc] 25)) um uc
    rwa [World.size_alloc] at this
  obtain ⟨L, HL⟩ : ∃ L, Hid (L = ms.length) := ⟨_, rfl⟩
  obtain ⟨N, HN⟩ : ∃ N, Hid (N = is.length) := ⟨_, rfl⟩
  obtain ⟨L', HL'⟩ : ∃ L', Hid (L' = ns.length) := ⟨_, rfl⟩
  obtain ⟨N', HN'⟩ : ∃ N', Hid (N' = js.length) := ⟨_, rfl⟩
  rw [← HL.out] at hvm m1
  rw [← HN.out] at hvc m2
  rw [← HL'.out] at hum m3
  rw [← HN'.out] at huc m4
  subst hvm hvc hum huc
  clear h h'
  obtain ⟨c0, c1⟩ := HD1.out.cells
  obtain ⟨d0, d1⟩ := HD2.out.cells
  clear HD1 HD2
  by_cases hl : L = L'
  case neg =>
    have hb : ((L : Int) != (L' : Int)) = true := by simp; omega
    have HE : Hid (sameM ms is ns js = false) := by
      show _ = _
      rw [sameM, eqB_false (fun e => hl (by rw [HL.out, HL'.out, e]))]; rfl
    rw [HW.out] at HB
    clear hl
    go_enter Try.func13, Try.ntmps13
    go_wp2_with fail
    go_ret
    exact ⟨retb HE.out.symm, HB.out⟩
  by_cases hn : N = N'
  case neg =>
    have hb : ((N : Int) != (N' : Int)) = true := by simp; omega
    have HE : Hid (sameM ms is ns js = false) := by
      show _ = _
      rw [sameM, sameI_false (fun e => hn (by rw [HN.out, HN'.out, e]))]; simp
    rw [HW.out] at HB
    clear hn
    subst hl
    go_enter Try.func13, Try.ntmps13
    go_wp2_with fail
    go_ret
    exact ⟨retb HE.out.symm, HB.out⟩
  subst hl hn
  go_enter Try.func13, Try.ntmps13
  go_wp2_with fail
  rw [← HW.out]
  go_loopw [5] (fun i wr => ∃ k n : Nat, k ≤ L ∧ i = .int .i64 k ∧ wr = W.drewN n ∧ ms.take k = ns.take k) (fun i _ => L - (intOf i).toNat)
  case atStart => exact ⟨0, 0, by omega, rfl, rfl, rfl⟩
  case round =>
    obtain ⟨k, n, hk, rfl, rfl, ht⟩ := hrel
    have HT : Hid (ms.take k = ns.take k) := ht
    clear ht
    by_cases hlt : k < L
    · obtain ⟨b1, o1, e1, hx⟩ := HM1.out.maps.cellAt k (by rw [← HL.out]; exact hlt)
      obtain ⟨b2, o2, e2, hy⟩ := HM2.out.maps.cellAt k (by rw [← HL'.out]; exact hlt)
      obtain ⟨x, HX⟩ : ∃ x, Hid (ms.getD k 0 = x) := ⟨_, rfl⟩
      obtain ⟨y, HY⟩ : ∃ y, Hid (ns.getD k 0 = y) := ⟨_, rfl⟩
      rw [HX.out] at hx
      rw [HY.out] at hy
      subst e1 e2
      by_cases hxy : x = y
      · subst hxy
        have HT' : Hid (ms.take (k + 1) = ns.take (k + 1)) := by
          show _ = _
          rw [take_at ms k (by rw [← HL.out]; omega), take_at ns k (by rw [← HL'.out]; omega), HT.out, HX.out, HY.out]
        go_wp2_with fail
        go_quiet (fail)
        go_wp2_with fail
        go_roundw
        case rel => exact ⟨k + 1, _, by omega, by go_num, rfl, HT'.out⟩
        case measure => simp [intOf]; omega
      · have hb : (x != y) = true := by simpa using hxy
        have HE : Hid (sameM ms is ns js = false) := by
          show _ = _
          rw [sameM, eqB_false (fun e => hxy (by rw [← HX.out, ← HY.out, e]))]; rfl
        clear hxy
        go_wp2_with fail
        go_quiet (fail)
        go_wp2_with fail
        go_ret
        exact ⟨retb HE.out.symm, below_drewN (below_drewN HB.out _) _⟩
    · have HE1 : Hid (ms = ns) := by
        have h1 : ms.take k = ms := List.take_of_length_le (by rw [← HL.out]; omega)
        have h2 : ns.take k = ns := List.take_of_length_le (by rw [← HL'.out]; omega)
        show _ = _
        rw [← h1, HT.out, h2]
      go_wp2_with fail
      go_loopw [6] (fun i wr => ∃ k n : Nat, k ≤ N ∧ i = .int .i64 k ∧ wr = W.drewN n ∧ is.take k = js.take k) (fun i _ => N - (intOf i).toNat)
      case atStart => exact ⟨0, _, by omega, rfl, rfl, rfl⟩
      case round =>
        clear hlt hk HT
        obtain ⟨k, n, hk, rfl, rfl, ht⟩ := hrel
        have HT : Hid (is.take k = js.take k) := ht
        clear ht
        by_cases hlt : k < N
        · obtain ⟨b1, o1, e1, hx⟩ := HM1.out.code.cellAt k (by rw [← HN.out]; exact hlt)
          obtain ⟨b2, o2, e2, hy⟩ := HM2.out.code.cellAt k (by rw [← HN'.out]; exact hlt)
          obtain ⟨op, d, a, bb, imm, HI⟩ : ∃ op d a bb imm, Hid (is.getD k In.nil = ⟨op, d, a, bb, imm⟩) := ⟨_, _, _, _, _, rfl⟩
          obtain ⟨op', d', a', bb', imm', HI'⟩ : ∃ op' d' a' bb' imm', Hid (js.getD k In.nil = ⟨op', d', a', bb', imm'⟩) := ⟨_, _, _, _, _, rfl⟩
          rw [HI.out] at hx
          rw [HI'.out] at hy
          subst e1 e2
          obtain ⟨h0, h1, h2', h3, h4⟩ := hx
          obtain ⟨g0, g1, g2, g3, g4⟩ := hy
          simp only at h0 h1 h2' h3 h4 g0 g1 g2 g3 g4
          have HNE : Hid ((⟨op, d, a, bb, imm⟩ : In) ≠ ⟨op', d', a', bb', imm'⟩ → sameM ms is ns js = false) := fun hne => by
            rw [sameM, sameI_false (fun h => hne (by rw [← HI.out, ← HI'.out, h]))]; simp
          have HEQ : Hid ((⟨op, d, a, bb, imm⟩ : In) = ⟨op', d', a', bb', imm'⟩ → is.take (k + 1) = js.take (k + 1)) := fun he => by
            rw [take_in is k (by rw [← HN.out]; omega), take_in js k (by rw [← HN'.out]; omega), HT.out, HI.out, HI'.out, he]
          clear HI HI' HT
          by_cases e0 : op = op'
          · subst e0
            by_cases e1 : d = d'
            · subst e1
              by_cases e2 : a = a'
              · subst e2
                by_cases e3 : bb = bb'
                · subst e3
                  by_cases e4 : imm = imm'
                  · subst e4
                    have HE : Hid (is.take (k + 1) = js.take (k + 1)) := HEQ.out rfl
                    clear HEQ HNE
                    go_wp2_with fail
                    go_quiet (fail)
                    go_wp2_with fail
                    go_roundw
                    case rel => exact ⟨k + 1, _, by omega, by go_num, rfl, HE.out⟩
                    case measure => simp [intOf]; omega
                  · have HE : Hid (sameM ms is ns js = false) := HNE.out (by simp [e4])
                    clear HEQ HNE
                    go_wp2_with fail
                    go_quiet (fail)
                    go_wp2_with fail
                    go_ret
                    exact ⟨retb HE.out.symm, below_drewN (below_drewN HB.out _) _⟩
                · have HE : Hid (sameM ms is ns js = false) := HNE.out (by simp [e3])
                  clear HEQ HNE
                  go_wp2_with fail
                  go_quiet (fail)
                  go_wp2_with fail
                  go_ret
                  exact ⟨retb HE.out.symm, below_drewN (below_drewN HB.out _) _⟩
              · have HE : Hid (sameM ms is ns js = false) := HNE.out (by simp [e2])
                clear HEQ HNE
                go_wp2_with fail
                go_quiet (fail)
                go_wp2_with fail
                go_ret
                exact ⟨retb HE.out.symm, below_drewN (below_drewN HB.out _) _⟩
            · have HE : Hid (sameM ms is ns js = false) := HNE.out (by simp [e1])
              clear HEQ HNE
              go_wp2_with fail
              go_quiet (fail)
              go_wp2_with fail
              go_ret
              exact ⟨retb HE.out.symm, below_drewN (below_drewN HB.out _) _⟩
          · have HE : Hid (sameM ms is ns js = false) := HNE.out (by simp [e0])
            clear HEQ HNE
            go_wp2_with fail
            go_quiet (fail)
            go_wp2_with fail
            go_ret
            exact ⟨retb HE.out.symm, below_drewN (below_drewN HB.out _) _⟩
        · have HE : Hid (sameM ms is ns js = true) := by
            have h1 : is.take k = is := List.take_of_length_le (by rw [← HN.out]; omega)
            have h2 : js.take k = js := List.take_of_length_le (by rw [← HN'.out]; omega)
            have h3 : is = js := by rw [← h1, HT.out, h2]
            show _ = _
            rw [HE1.out, h3]; exact sameM_true _ _
          go_wp2_with fail
          go_ret
          exact ⟨retb HE.out.symm, below_drewN HB.out _⟩
end Go.Proofs.Ytbpjcppgnndaaaa
