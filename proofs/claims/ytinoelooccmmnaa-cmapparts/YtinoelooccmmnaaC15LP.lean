
/-
  The landed map of layer 15: Part, Len, Def. Condition: it lies where the pointer says.
-/
import Derived.Test.YtinoelooccmmnaaC15LW
namespace Go.Proofs.Ytinoelooccmmnaa
open Go.RowKit
set_option linter.unusedVariables false
set_option linter.unusedSimpArgs false
set_option maxRecDepth 100000

section
variable {w : World} {B m n cap : Nat} {κ : Bool} {k : Int} {st : List Sr} {G : Ft}
theorem Lmo.part (h : Lmo w B m n cap κ k st G) (hv : InvM κ cap st) (hn4 : n ≤ 4) (hc16 : cap ≤ 16) {i : Nat} (hi : i < n) {T : List Pp} (HT : Hid ((st.getD i Sr.nil).1 = T)) :
    Calls Try.prog 17 #[.pointer (some ⟨m, 0, none⟩), .int .i64 i] w fun e w' => ∃ u, e = .returned (.tuple #[u, .int .i64 0]) ∧ w'.ownsRow w.heap.size 64 2 u T.length (flatG ppC T) ∧ Below w.heap.size w w' := by
  obtain ⟨rv, vs, F, h1, hpn, rfl⟩ := h
  have hil : i < vs.length := by omega
  have his : i < st.length := by rw [h1.len]; exact hil
  have c0 := h1.hp.cell (j := 2) rfl
  obtain ⟨g, cc, rfl, _, hg, _, _, hat⟩ := own_atG ifC_len .nilIface h1.row (by omega)
  have d0 := (hat i hil 0 (by omega)).1
  simp only [List.getElem?_cons_zero, Nat.add_zero, Nat.mul_one] at d0
  clear hat
  obtain ⟨ff, fx, hvia, hcall⟩ := (h1.fam.ob i hil).pairs (hv i his) hc16
  obtain ⟨t, u, ev, hmeth, hcf⟩ := hvia
  rw [ev] at d0
  rw [HT.out] at hcall
  have HPR := keepG hcall
  have hi0 : ¬ (i : Int) < 0 := by omega
  have hi1 : ¬ (vs.length : Int) ≤ i := by omega
  have hi2 : (i : Int) < vs.length := by omega
  clear ev hcall h1 hpn
  go_enter Try.func17, Try.ntmps17
  go_wp2_with (show Calls Try.prog ff _ _ _; go_must (refine HPR.out.mono ?_); rintro e w1 ⟨u1, rfl, ho1, hb1⟩)
  go_ret2
  exact ⟨_, rfl, ho1, hb1⟩
theorem Lmo.part_no (h : Lmo w B m n cap κ k st G) (i : Int) (hi : i < 0 ∨ (n : Int) ≤ i) :
    Calls Try.prog 17 #[.pointer (some ⟨m, 0, none⟩), .int .i64 i] w fun e w' => e = .returned (.tuple #[.slice none 0 0, .int .i64 2]) ∧ w = w' := by
  obtain ⟨rv, vs, F, h1, hpn, rfl⟩ := h
  have c0 := h1.hp.cell (j := 2) rfl
  obtain ⟨xa, xc, rfl⟩ := own_shape h1.row
  by_cases h0 : i < 0
  · clear h1
    go_enter Try.func17, Try.ntmps17
    go_wp2
    go_ret2
    exact ⟨rfl, rfl⟩
  · have hi1 : (vs.length : Int) ≤ i := by omega
    clear h1 hpn
    go_enter Try.func17, Try.ntmps17
    go_wp2
    go_ret2
    exact ⟨rfl, rfl⟩
theorem Lmo.lenM (h : Lmo w B m n cap κ k st G) (hv : InvM κ cap st) (hn4 : n ≤ 4) (hc16 : cap ≤ 16) {l : Nat} (HL : Hid ((walkM st).length = l)) :
    Calls Try.prog 16 #[.pointer (some ⟨m, 0, none⟩)] w fun e w' => e = .returned (.int .i64 l) ∧ w = w' := by
  obtain ⟨rv, vs, F, h1, hpn, rfl⟩ := h
  have hwl := walkL_len (ts := st) (c := 16) (fun i hi => Nat.le_trans (hv i hi).len hc16)
  have HWL := keepG hwl
  have HTL := keepG h1.len
  have HH := keepG h1
  have c0 := h1.hp.cell (j := 2) rfl
  obtain ⟨xa, xc, rfl⟩ := own_shape h1.row
  have hv4 : vs.length ≤ 4 := by omega
  clear h1 hpn hwl
  go_enter Try.func16, Try.ntmps16
  go_wp2
  go_loopw [3, 11] (fun t i wr => ∃ j q : Nat, j ≤ vs.length ∧ i = .int .i64 j ∧ t = .int .i64 q ∧ Hid ((walkM (st.take j)).length = q) ∧ q ≤ 64 ∧ w = wr) (fun _ i _ => vs.length - (intOf i).toNat)
  case atStart => exact ⟨0, 0, by omega, rfl, rfl, rfl, by omega, rfl⟩
  case round =>
    obtain ⟨j, q, hj, rfl, rfl, HQ, hq64, rfl⟩ := hrel
    by_cases hlt : j < vs.length
    · have hltI : (j : Int) < vs.length := by omega
      have hltS : j < st.length := by have := HTL.out; omega
      obtain ⟨g, cc, ev, _, hg, _, _, hat⟩ := own_atG ifC_len .nilIface HH.out.row (by omega)
      simp only [Value.slice.injEq, true_and] at ev
      obtain ⟨rfl, rfl⟩ := ev
      have d0 := (hat j hlt 0 (by omega)).1
      simp only [List.getElem?_cons_zero, Nat.add_zero, Nat.mul_one] at d0
      clear hat
      obtain ⟨ff, fx, hvia, hcall⟩ := (HH.out.fam.ob j hlt).len
      obtain ⟨t, u, ev, hmeth, hcf⟩ := hvia
      rw [ev] at d0
      have HPR := keepG hcall
      clear ev hcall
      obtain ⟨a, HA⟩ : ∃ a, Hid ((st.getD j Sr.nil).1.length = a) := ⟨_, rfl⟩
      rw [HA.out] at HPR
      have HQ2 : Hid ((walkM (st.take (j + 1))).length = q + a) := by
        show _ = _
        rw [walkL_more hltS, List.length_append, HQ.out, HA.out]
      have hqa : q + a ≤ 64 := by have h9 := HWL.out (j + 1) (by omega); rw [HQ2.out] at h9; omega
      have hwr : IntKind.i64.wrap ((q : Int) + a) = (q : Int) + a := by rw [IntKind.wrap_i64]; omega
      go_wp2_with (show Calls Try.prog ff _ _ _; go_must (refine HPR.out.mono ?_); rintro e w1 ⟨rfl, rfl⟩)
      first
        | (go_roundw
           case rel => exact ⟨j + 1, q + a, by omega, by go_num, by go_num, HQ2.out, hqa, trivial⟩
           case measure => simp [intOf]; omega)
        | exact ⟨⟨j + 1, q + a, by omega, by go_num, by go_num, HQ2.out, hqa, rfl⟩, by simp [intOf]; omega⟩
        | exact ⟨⟨j + 1, q + a, by omega, by go_num, by go_num, HQ2.out, hqa, trivial⟩, by simp [intOf]; omega⟩
    · have hltI : ¬ (j : Int) < vs.length := by omega
      have hT : st.take j = st := List.take_of_length_le (by have := HTL.out; omega)
      rw [hT, HL.out] at HQ
      obtain rfl : l = q := HQ.out
      clear hT
      go_wp2
      go_ret
      exact ⟨rfl, rfl⟩
theorem run_boxDef {w : World} {n : Nat} {a b : Int} (h : Hp w n 24 [.int .i64 a, .int .i64 b]) : (loadVar 24 ⟨n, 0, none⟩).run Try.prog w = .ok (.agg #[.int .i64 a, .int .i64 b]) w := by
  refine run_loadVar_mid w n 0 24 [.int .i64 a, .int .i64 b] _ ?_ Try.underlying24 rfl (by kernel_rfl)
  intro j x hx
  rw [Nat.zero_add]
  exact h.cell hx
theorem def_ret {fn : Func} {pt : Tmp} {w2 : World} {n : Nat} {tmps : Array Value} {a b : Int} {Q : Ending → World → Prop} (hr : fn.results = #[.cell pt 24]) (hp : tmps.getD pt undef = .pointer (some ⟨n, 0, none⟩)) (hx : Hp w2 n 24 [.int .i64 a, .int .i64 b]) (hQ : Q (.returned (defW a b)) w2) : bodyPost Try.prog fn Q .ret ⟨tmps, []⟩ w2 := by
  refine bodyPost_ret (v := defW a b) ?_ rfl hQ
  rw [results_cellG hr, hp]
  simp only [asAddr, Sem.run_pure, Result.andThen]
  rw [run_boxDef hx]
theorem Lmo.defM (h : Lmo w B m n cap κ k st G) :
    Calls Try.prog 10 #[.pointer (some ⟨m, 0, none⟩)] w fun e w' => e = .returned (defW k cap) ∧ Below w.heap.size w w' := by
  obtain ⟨rv, vs, F, h1, hpn, rfl⟩ := h
  have c0 := h1.hp.cell (j := 0) rfl
  have c1 := h1.hp.cell (j := 1) rfl
  have hlt := h1.hp.lt
  have hp := Hp.new w [.int .i64 0, .int .i64 0] 24
  have x0 := hp.cell (j := 0) rfl
  have f0 := hp.frozen 0
  have x1 := hp.cell (j := 1) rfl
  have f1 := hp.frozen 1
  clear h1
  go_enter Try.func10, Try.ntmps10
  go_wp2
  exact def_ret rfl rfl (Hp.new w [.int .i64 k, .int .i64 cap] _) ⟨rfl, below_allocG _ _⟩
end
end Go.Proofs.Ytinoelooccmmnaa
