
/-
  Entries whose fields are of their kinds. No Go text in sight.
-/
import Derived.Test.YtbfbfbbpajaclaaDoorX26Rd
namespace Go.Proofs.YtbfbfbbpajaclaaDoor
open Go.RowKit
set_option linter.unusedVariables false
set_option linter.unusedSimpArgs false
theorem wf_en {wh ta fr cm tg ev hk pg ve pc mp op ky vl er : Int} {fo : Bool} {rv : Int} {ou : Bool} {ok ov va xe : Int} (g_wh : -9223372036854775808 ≤ wh ∧ wh ≤ 9223372036854775807) (g_ta : -9223372036854775808 ≤ ta ∧ ta ≤ 9223372036854775807) (g_fr : -9223372036854775808 ≤ fr ∧ fr ≤ 9223372036854775807) (g_cm : -9223372036854775808 ≤ cm ∧ cm ≤ 9223372036854775807) (g_tg : -9223372036854775808 ≤ tg ∧ tg ≤ 9223372036854775807) (g_ev : -9223372036854775808 ≤ ev ∧ ev ≤ 9223372036854775807) (g_hk : -9223372036854775808 ≤ hk ∧ hk ≤ 9223372036854775807) (g_pg : -9223372036854775808 ≤ pg ∧ pg ≤ 9223372036854775807) (g_ve : -9223372036854775808 ≤ ve ∧ ve ≤ 9223372036854775807) (g_pc : -9223372036854775808 ≤ pc ∧ pc ≤ 9223372036854775807) (g_mp : -9223372036854775808 ≤ mp ∧ mp ≤ 9223372036854775807) (g_op : -9223372036854775808 ≤ op ∧ op ≤ 9223372036854775807) (g_er : -9223372036854775808 ≤ er ∧ er ≤ 9223372036854775807) (g_xe : -9223372036854775808 ≤ xe ∧ xe ≤ 9223372036854775807) (g_ky : 0 ≤ ky ∧ ky ≤ 18446744073709551615) (g_vl : 0 ≤ vl ∧ vl ≤ 18446744073709551615) (g_rv : 0 ≤ rv ∧ rv ≤ 18446744073709551615) (g_ok : 0 ≤ ok ∧ ok ≤ 18446744073709551615) (g_ov : 0 ≤ ov ∧ ov ≤ 18446744073709551615) (g_va : 0 ≤ va ∧ va ≤ 18446744073709551615) : (⟨wh, ta, fr, cm, tg, ev, hk, pg, ve, pc, mp, op, ky, vl, er, fo, rv, ou, ok, ov, va, xe⟩ : En).wf := by
  refine ⟨fun c => ?_, fun c => ?_, g_wh⟩
  · unfold sgE
    simp only
    by_cases h : c = 116
    · rw [if_pos h]; exact g_ta
    rw [if_neg h]; clear h
    by_cases h : c = 102
    · rw [if_pos h]; exact g_fr
    rw [if_neg h]; clear h
    by_cases h : c = 99
    · rw [if_pos h]; exact g_cm
    rw [if_neg h]; clear h
    by_cases h : c = 103
    · rw [if_pos h]; exact g_tg
    rw [if_neg h]; clear h
    by_cases h : c = 101
    · rw [if_pos h]; exact g_ev
    rw [if_neg h]; clear h
    by_cases h : c = 104
    · rw [if_pos h]; exact g_hk
    rw [if_neg h]; clear h
    by_cases h : c = 112
    · rw [if_pos h]; exact g_pg
    rw [if_neg h]; clear h
    by_cases h : c = 118
    · rw [if_pos h]; exact g_ve
    rw [if_neg h]; clear h
    by_cases h : c = 97
    · rw [if_pos h]; exact g_pc
    rw [if_neg h]; clear h
    by_cases h : c = 120
    · rw [if_pos h]; exact g_xe
    rw [if_neg h]; clear h
    by_cases h : c = 109
    · rw [if_pos h]; exact g_mp
    rw [if_neg h]; clear h
    by_cases h : c = 111
    · rw [if_pos h]; exact g_op
    rw [if_neg h]; clear h
    by_cases h : c = 121
    · rw [if_pos h]; exact g_er
    rw [if_neg h]; clear h
    cases fo <;> simp
  · unfold unE
    simp only
    by_cases h : c = 110
    · rw [if_pos h]; show 0 ≤ va ∧ va < _; omega
    rw [if_neg h]; clear h
    by_cases h : c = 107
    · rw [if_pos h]; show 0 ≤ ky ∧ ky < _; omega
    rw [if_neg h]; clear h
    by_cases h : c = 119
    · rw [if_pos h]; show 0 ≤ vl ∧ vl < _; omega
    rw [if_neg h]; clear h
    by_cases h : c = 114
    · rw [if_pos h]; show 0 ≤ rv ∧ rv < _; omega
    rw [if_neg h]; clear h
    by_cases h : c = 79
    · rw [if_pos h]; show 0 ≤ ok ∧ ok < _; omega
    rw [if_neg h]; clear h
    by_cases h : c = 86
    · rw [if_pos h]; show 0 ≤ ov ∧ ov < _; omega
    rw [if_neg h]; clear h
    decide
theorem brE_wf {e : En} (h : e.wf) (c : Nat) {n : Int} (hn : 0 ≤ n ∧ n ≤ 18446744073709551615) : (brE e c n).wf := by
  obtain ⟨wh, ta, fr, cm, tg, ev, hk, pg, ve, pc, mp, op, ky, vl, er, fo, rv, ou, ok, ov, va, xe⟩ := e
  have g_wh := h.wh
  have g_ta : -9223372036854775808 ≤ ta ∧ ta ≤ 9223372036854775807 := h.si 116
  have g_fr : -9223372036854775808 ≤ fr ∧ fr ≤ 9223372036854775807 := h.si 102
  have g_cm : -9223372036854775808 ≤ cm ∧ cm ≤ 9223372036854775807 := h.si 99
  have g_tg : -9223372036854775808 ≤ tg ∧ tg ≤ 9223372036854775807 := h.si 103
  have g_ev : -9223372036854775808 ≤ ev ∧ ev ≤ 9223372036854775807 := h.si 101
  have g_hk : -9223372036854775808 ≤ hk ∧ hk ≤ 9223372036854775807 := h.si 104
  have g_pg : -9223372036854775808 ≤ pg ∧ pg ≤ 9223372036854775807 := h.si 112
  have g_ve : -9223372036854775808 ≤ ve ∧ ve ≤ 9223372036854775807 := h.si 118
  have g_pc : -9223372036854775808 ≤ pc ∧ pc ≤ 9223372036854775807 := h.si 97
  have g_mp : -9223372036854775808 ≤ mp ∧ mp ≤ 9223372036854775807 := h.si 109
  have g_op : -9223372036854775808 ≤ op ∧ op ≤ 9223372036854775807 := h.si 111
  have g_er : -9223372036854775808 ≤ er ∧ er ≤ 9223372036854775807 := h.si 121
  have g_xe : -9223372036854775808 ≤ xe ∧ xe ≤ 9223372036854775807 := h.si 120
  have g_ky : 0 ≤ ky ∧ ky ≤ 18446744073709551615 := by have g : 0 ≤ ky ∧ ky < 18446744073709551616 := h.un 107; omega
  have g_vl : 0 ≤ vl ∧ vl ≤ 18446744073709551615 := by have g : 0 ≤ vl ∧ vl < 18446744073709551616 := h.un 119; omega
  have g_rv : 0 ≤ rv ∧ rv ≤ 18446744073709551615 := by have g : 0 ≤ rv ∧ rv < 18446744073709551616 := h.un 114; omega
  have g_ok : 0 ≤ ok ∧ ok ≤ 18446744073709551615 := by have g : 0 ≤ ok ∧ ok < 18446744073709551616 := h.un 79; omega
  have g_ov : 0 ≤ ov ∧ ov ≤ 18446744073709551615 := by have g : 0 ≤ ov ∧ ov < 18446744073709551616 := h.un 86; omega
  have g_va : 0 ≤ va ∧ va ≤ 18446744073709551615 := by have g : 0 ≤ va ∧ va < 18446744073709551616 := h.un 110; omega
  unfold brE
  by_cases k : c = 110
  · rw [if_pos k]; exact wf_en g_wh g_ta g_fr g_cm g_tg g_ev g_hk g_pg g_ve g_pc g_mp g_op g_er g_xe g_ky g_vl g_rv g_ok g_ov hn
  rw [if_neg k]; clear k
  by_cases k : c = 107
  · rw [if_pos k]; exact wf_en g_wh g_ta g_fr g_cm g_tg g_ev g_hk g_pg g_ve g_pc g_mp g_op g_er g_xe hn g_vl g_rv g_ok g_ov g_va
  rw [if_neg k]; clear k
  by_cases k : c = 119
  · rw [if_pos k]; exact wf_en g_wh g_ta g_fr g_cm g_tg g_ev g_hk g_pg g_ve g_pc g_mp g_op g_er g_xe g_ky hn g_rv g_ok g_ov g_va
  rw [if_neg k]; clear k
  by_cases k : c = 114
  · rw [if_pos k]; exact wf_en g_wh g_ta g_fr g_cm g_tg g_ev g_hk g_pg g_ve g_pc g_mp g_op g_er g_xe g_ky g_vl hn g_ok g_ov g_va
  rw [if_neg k]; clear k
  by_cases k : c = 79
  · rw [if_pos k]; exact wf_en g_wh g_ta g_fr g_cm g_tg g_ev g_hk g_pg g_ve g_pc g_mp g_op g_er g_xe g_ky g_vl g_rv hn g_ov g_va
  rw [if_neg k]; clear k
  by_cases k : c = 86
  · rw [if_pos k]; exact wf_en g_wh g_ta g_fr g_cm g_tg g_ev g_hk g_pg g_ve g_pc g_mp g_op g_er g_xe g_ky g_vl g_rv g_ok hn g_va
  rw [if_neg k]; clear k
  exact h
theorem putE_wf {e : En} (h : e.wf) (c : Nat) {k n : Int} (hkk : -9223372036854775808 ≤ k ∧ k ≤ 9223372036854775807) (hn : 0 ≤ n ∧ n ≤ 18446744073709551615) : (putE e c k n).wf := by
  have hb := brE_wf h c hn
  obtain ⟨wh, ta, fr, cm, tg, ev, hk, pg, ve, pc, mp, op, ky, vl, er, fo, rv, ou, ok, ov, va, xe⟩ := e
  have g_wh := h.wh
  have g_ta : -9223372036854775808 ≤ ta ∧ ta ≤ 9223372036854775807 := h.si 116
  have g_fr : -9223372036854775808 ≤ fr ∧ fr ≤ 9223372036854775807 := h.si 102
  have g_cm : -9223372036854775808 ≤ cm ∧ cm ≤ 9223372036854775807 := h.si 99
  have g_tg : -9223372036854775808 ≤ tg ∧ tg ≤ 9223372036854775807 := h.si 103
  have g_ev : -9223372036854775808 ≤ ev ∧ ev ≤ 9223372036854775807 := h.si 101
  have g_hk : -9223372036854775808 ≤ hk ∧ hk ≤ 9223372036854775807 := h.si 104
  have g_pg : -9223372036854775808 ≤ pg ∧ pg ≤ 9223372036854775807 := h.si 112
  have g_ve : -9223372036854775808 ≤ ve ∧ ve ≤ 9223372036854775807 := h.si 118
  have g_pc : -9223372036854775808 ≤ pc ∧ pc ≤ 9223372036854775807 := h.si 97
  have g_mp : -9223372036854775808 ≤ mp ∧ mp ≤ 9223372036854775807 := h.si 109
  have g_op : -9223372036854775808 ≤ op ∧ op ≤ 9223372036854775807 := h.si 111
  have g_er : -9223372036854775808 ≤ er ∧ er ≤ 9223372036854775807 := h.si 121
  have g_xe : -9223372036854775808 ≤ xe ∧ xe ≤ 9223372036854775807 := h.si 120
  have g_ky : 0 ≤ ky ∧ ky ≤ 18446744073709551615 := by have g : 0 ≤ ky ∧ ky < 18446744073709551616 := h.un 107; omega
  have g_vl : 0 ≤ vl ∧ vl ≤ 18446744073709551615 := by have g : 0 ≤ vl ∧ vl < 18446744073709551616 := h.un 119; omega
  have g_rv : 0 ≤ rv ∧ rv ≤ 18446744073709551615 := by have g : 0 ≤ rv ∧ rv < 18446744073709551616 := h.un 114; omega
  have g_ok : 0 ≤ ok ∧ ok ≤ 18446744073709551615 := by have g : 0 ≤ ok ∧ ok < 18446744073709551616 := h.un 79; omega
  have g_ov : 0 ≤ ov ∧ ov ≤ 18446744073709551615 := by have g : 0 ≤ ov ∧ ov < 18446744073709551616 := h.un 86; omega
  have g_va : 0 ≤ va ∧ va ≤ 18446744073709551615 := by have g : 0 ≤ va ∧ va < 18446744073709551616 := h.un 110; omega
  unfold putE
  by_cases q : c = 116
  · rw [if_pos q]; exact wf_en g_wh hkk g_fr g_cm g_tg g_ev g_hk g_pg g_ve g_pc g_mp g_op g_er g_xe g_ky g_vl g_rv g_ok g_ov g_va
  rw [if_neg q]; clear q
  by_cases q : c = 102
  · rw [if_pos q]; exact wf_en g_wh g_ta hkk g_cm g_tg g_ev g_hk g_pg g_ve g_pc g_mp g_op g_er g_xe g_ky g_vl g_rv g_ok g_ov g_va
  rw [if_neg q]; clear q
  by_cases q : c = 99
  · rw [if_pos q]; exact wf_en g_wh g_ta g_fr hkk g_tg g_ev g_hk g_pg g_ve g_pc g_mp g_op g_er g_xe g_ky g_vl g_rv g_ok g_ov g_va
  rw [if_neg q]; clear q
  by_cases q : c = 103
  · rw [if_pos q]; exact wf_en g_wh g_ta g_fr g_cm hkk g_ev g_hk g_pg g_ve g_pc g_mp g_op g_er g_xe g_ky g_vl g_rv g_ok g_ov g_va
  rw [if_neg q]; clear q
  by_cases q : c = 101
  · rw [if_pos q]; exact wf_en g_wh g_ta g_fr g_cm g_tg hkk g_hk g_pg g_ve g_pc g_mp g_op g_er g_xe g_ky g_vl g_rv g_ok g_ov g_va
  rw [if_neg q]; clear q
  by_cases q : c = 104
  · rw [if_pos q]; exact wf_en g_wh g_ta g_fr g_cm g_tg g_ev hkk g_pg g_ve g_pc g_mp g_op g_er g_xe g_ky g_vl g_rv g_ok g_ov g_va
  rw [if_neg q]; clear q
  by_cases q : c = 112
  · rw [if_pos q]; exact wf_en g_wh g_ta g_fr g_cm g_tg g_ev g_hk hkk g_ve g_pc g_mp g_op g_er g_xe g_ky g_vl g_rv g_ok g_ov g_va
  rw [if_neg q]; clear q
  by_cases q : c = 118
  · rw [if_pos q]; exact wf_en g_wh g_ta g_fr g_cm g_tg g_ev g_hk g_pg hkk g_pc g_mp g_op g_er g_xe g_ky g_vl g_rv g_ok g_ov g_va
  rw [if_neg q]; clear q
  by_cases q : c = 97
  · rw [if_pos q]; exact wf_en g_wh g_ta g_fr g_cm g_tg g_ev g_hk g_pg g_ve hkk g_mp g_op g_er g_xe g_ky g_vl g_rv g_ok g_ov g_va
  rw [if_neg q]; clear q
  by_cases q : c = 120
  · rw [if_pos q]; exact wf_en g_wh g_ta g_fr g_cm g_tg g_ev g_hk g_pg g_ve g_pc g_mp g_op g_er hkk g_ky g_vl g_rv g_ok g_ov g_va
  rw [if_neg q]; clear q
  by_cases q : c = 109
  · rw [if_pos q]; exact wf_en g_wh g_ta g_fr g_cm g_tg g_ev g_hk g_pg g_ve g_pc hkk g_op g_er g_xe g_ky g_vl g_rv g_ok g_ov g_va
  rw [if_neg q]; clear q
  by_cases q : c = 111
  · rw [if_pos q]; exact wf_en g_wh g_ta g_fr g_cm g_tg g_ev g_hk g_pg g_ve g_pc g_mp hkk g_er g_xe g_ky g_vl g_rv g_ok g_ov g_va
  rw [if_neg q]; clear q
  by_cases q : c = 121
  · rw [if_pos q]; exact wf_en g_wh g_ta g_fr g_cm g_tg g_ev g_hk g_pg g_ve g_pc g_mp g_op hkk g_xe g_ky g_vl g_rv g_ok g_ov g_va
  rw [if_neg q]; clear q
  by_cases q : c = 98
  · rw [if_pos q]; exact wf_en g_wh g_ta g_fr g_cm g_tg g_ev g_hk g_pg g_ve g_pc g_mp g_op g_er g_xe g_ky g_vl g_rv g_ok g_ov g_va
  rw [if_neg q]; clear q
  exact hb
end Go.Proofs.YtbfbfbbpajaclaaDoor
