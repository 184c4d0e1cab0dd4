
/-
  The landed map of layer 15: Walk, Part, Len, Def. Condition: it lies where the pointer says.
-/
import Derived.Test.YtinoelooccmmnaaC15LN
import Derived.Test.YtinoelooccmmnaaGSees
namespace Go.Proofs.Ytinoelooccmmnaa
open Go.RowKit
set_option linter.unusedVariables false
set_option linter.unusedSimpArgs false
set_option maxRecDepth 100000

theorem walkL_more {ts : List Sr} {j : Nat} (hj : j < ts.length) : walkM (ts.take (j + 1)) = walkM (ts.take j) ++ (ts.getD j Sr.nil).1 := by
  unfold walkM
  have h1 : ts.take (j + 1) = ts.take j ++ [ts.getD j Sr.nil] := by
    rw [List.take_add_one, List.getD_eq_getElem?_getD, List.getElem?_eq_getElem hj]
    rfl
  rw [h1, List.flatMap_append]
  simp
theorem walkL_len {ts : List Sr} {c : Nat} (h : ∀ i, i < ts.length → (ts.getD i Sr.nil).1.length ≤ c) : ∀ j, j ≤ ts.length → (walkM (ts.take j)).length ≤ j * c := by
  intro j
  induction j with
  | zero => intro _; simp [walkM]
  | succ j ih =>
    intro hj
    rw [walkL_more (by omega), List.length_append, Nat.add_mul, Nat.one_mul]
    have := ih (by omega)
    have := h j (by omega)
    omega
section
variable {w : World} {B m n cap : Nat} {κ : Bool} {k : Int} {st : List Sr} {G : Ft}
set_option maxHeartbeats 8000000 in
theorem Lmo.walk (h : Lmo w B m n cap κ k st G) (hv : InvM κ cap st) (hn4 : n ≤ 4) (hc16 : cap ≤ 16) {W : List Pp} (HW : Hid (walkM st = W)) :
    Calls Try.prog 15 #[.pointer (some ⟨m, 0, none⟩)] w fun e w' => ∃ u, e = .returned u ∧ w'.ownsRow w.heap.size 64 2 u W.length (flatG ppC W) ∧ Below w.heap.size w w' := by
  obtain ⟨rv, vs, F, h1, hpn, rfl⟩ := h
  obtain ⟨i0, hi0, hz0, hzs, hzb⟩ := info_parts infoPr
  have htl := h1.len
  have hwl := walkL_len (ts := st) (c := 16) (fun i hi => Nat.le_trans (hv i hi).len hc16)
  have HWL := keepG hwl
  clear hwl
  have HH := keepG h1
  have c0 := h1.hp.cell (j := 2) rfl
  obtain ⟨xa, xc, rfl⟩ := own_shape h1.row
  have hv4 : vs.length ≤ 4 := by omega
  have HTL := keepG htl
  clear h1 htl hpn
  go_enter Try.func15, Try.ntmps15
  go_wp2
  go_loopw [3, 11] (fun ov i wr => ∃ j : Nat, j ≤ vs.length ∧ i = .int .i64 j ∧ Hid (wr.ownsRow w.heap.size 64 2 ov (walkM (st.take j)).length (flatG ppC (walkM (st.take j)))) ∧ Below w.heap.size w wr) (fun _ i _ => vs.length - (intOf i).toNat)
  case atStart => exact ⟨0, by omega, rfl, World.ownsRow_nil _ _ _ _, Below.refl _ _⟩
  case round =>
    obtain ⟨j, hj, rfl, HO, hbw⟩ := hrel
    rename World => wr
    have hzw := hbw.size
    have HR := keepG (HH.out.below hbw)
    obtain ⟨oa, oc, ev⟩ := own_shape HO.out
    subst ev
    by_cases hlt : j < vs.length
    · have hltI : (j : Int) < vs.length := by omega
      have hltS : j < st.length := by have := HTL.out; omega
      obtain ⟨g, cc, ev, _, hg, _, _, hat⟩ := own_atG ifC_len .nilIface HR.out.row (by omega)
      simp only [Value.slice.injEq, true_and] at ev
      obtain ⟨rfl, rfl⟩ := ev
      have d0 := (hat j hlt 0 (by omega)).1
      simp only [List.getElem?_cons_zero, Nat.add_zero, Nat.mul_one] at d0
      clear hat
      obtain ⟨ff, fx, hvia, hcall⟩ := (HR.out.fam.ob j hlt).pairs (hv j hltS) hc16
      obtain ⟨t, u, ev, hmeth, hcf⟩ := hvia
      rw [ev] at d0
      have HPR := keepG hcall
      clear ev hcall
      have HM := keepG (walkL_more (ts := st) (j := j) hltS)
      have hMl : (walkM (st.take j)).length ≤ 64 := by have := HWL.out j (by omega); omega
      have hsl : (st.getD j Sr.nil).1.length ≤ 16 := Nat.le_trans (hv j hltS).len hc16
      obtain ⟨M, HMM⟩ : ∃ M, Hid (walkM (st.take j) = M) := ⟨_, rfl⟩
      obtain ⟨T, HTT⟩ : ∃ T, Hid ((st.getD j Sr.nil).1 = T) := ⟨_, rfl⟩
      rw [HMM.out, HTT.out] at HM
      rw [HMM.out] at HO hMl ⊢
      rw [HTT.out] at hsl HPR
      have P1 : True := trivial
      go_wp2_with (first
        | (show Calls Try.prog ff _ _ _; go_must (refine HPR.out.mono ?_); rintro e w1 ⟨u1, rfl, ho1, hb1⟩; go_must (obtain ⟨v2, w2, hr2, ho2, hg2, _⟩ := run_append_seesG (f := ppC) (d := Pp.nil) (P := Try.prog) w1 w.heap.size 43 43 64 i0 _ 2 16 Try.underlying43 hi0 hz0 hzs hzb rfl (by decide) (.slice oa M.length oc) M.length (flatG ppC M) (own_below HO.out hb1 (Nat.le_refl _)) ppC_len (own_seesG ppC_len Pp.nil ho1) (flat_one T) (by unfold maxLen; omega) (by omega) (by have := hb1.size; omega); have HR2 := keepG hr2; have HO2 := keepG ho2; have hb2 : Below w.heap.size w w2 := (hbw.trans (hb1.mono hzw)).trans ((Chg.of_grown' hg2 (S := fun k => (Value.slice oa M.length oc).ownBlock = some k) (fun b hb => hb)).below (fun k e => (HO.out.lt k e).1) (by have := hb1.size; omega)); obtain ⟨ua, uc, rfl⟩ := own_shape ho1; clear hr2 ho2 hg2 ho1 P1))
        | (at_builtin; go_must (refine wpList_appG _ rfl (.tmp 15) (.tmp 17) 43 43 rfl _ _ rfl rfl HR2.out ?_; obtain ⟨va, vc, rfl⟩ := own_shape HO2.out)))
      have eM : (M ++ T).length = M.length + T.length := List.length_append
      first
        | (go_roundw
           case rel => exact ⟨j + 1, by omega, by go_num, by have hh := HO2.out; rw [HM.out, flatG_app]; show World.ownsRow _ _ _ _ _ _ _; rw [eM]; exact hh, hb2⟩
           case measure => simp [intOf]; omega)
        | exact ⟨⟨j + 1, by omega, by go_num, by have hh := HO2.out; rw [HM.out, flatG_app]; show World.ownsRow _ _ _ _ _ _ _; rw [eM]; exact hh, hb2⟩, by simp [intOf]; omega⟩
    · have hltI : ¬ (j : Int) < vs.length := by omega
      have hT : st.take j = st := List.take_of_length_le (by have := HTL.out; omega)
      obtain ⟨M, HMM⟩ : ∃ M, Hid (walkM (st.take j) = M) := ⟨_, rfl⟩
      rw [HMM.out] at HO ⊢
      rw [hT, HW.out] at HMM
      obtain rfl : W = M := HMM.out
      clear hT
      go_wp2
      go_ret
      exact ⟨_, rfl, HO.out, hbw⟩
end
end Go.Proofs.Ytinoelooccmmnaa
