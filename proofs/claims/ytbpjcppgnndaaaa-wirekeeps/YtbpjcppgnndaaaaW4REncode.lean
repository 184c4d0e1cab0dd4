/-
  What the document's Encode does: the bytes of a module in new memory, or ErrArg. Condition: the module's slices read as numbers and as instructions.
-/
import Derived.Test.YtbpjcppgnndaaaaW4RLay
import Derived.Test.YtbpjcppgnndaaaaW4RForm
namespace Go.Proofs.Ytbpjcppgnndaaaa
open Go.RowKit
set_option linter.unusedVariables false
set_option maxRecDepth 100000

theorem flat_take (fs : List (List Int)) (k : Nat) (h : k < fs.length) : (fs.take (k + 1)).flatten = (fs.take k).flatten ++ fs.getD k [] := by
  rw [List.take_succ_eq_append_getElem h, List.flatten_append]
  simp [List.getD, h]
theorem flat_len_le (fs : List (List Int)) (k : Nat) : (fs.take k).flatten.length ≤ fs.flatten.length := by
  conv => rhs; rw [← List.take_append_drop k fs, List.flatten_append, List.length_append]
  omega
theorem flat_mem {fs : List (List Int)} {k : Nat} (h : k < fs.length) {x : Int} (hx : x ∈ fs.getD k []) : x ∈ fs.flatten := by
  have e : fs.getD k [] = fs[k] := by simp [List.getD, h]
  rw [e] at hx
  exact List.mem_flatten.2 ⟨fs[k], List.getElem_mem h, hx⟩
theorem flat_one_le {fs : List (List Int)} {k : Nat} (h : k < fs.length) : (fs.take k).flatten.length + (fs.getD k []).length ≤ fs.flatten.length := by
  have h1 := flat_len_le fs (k + 1)
  rw [flat_take fs k h, List.length_append] at h1
  exact h1

set_option maxHeartbeats 3200000 in
theorem rencode_bad (vm vc : Value) (ms : List Int) (is : List In) (w : World) (h : SeesM w vm vc ms is) (hf : formedB ms is = false) :
    Calls Try.prog 12 #[modV vm vc] w fun e w' => e = .returned (.tuple #[.slice none 0 0, .int .i64 2]) ∧ Below w.heap.size w w' := by
  obtain ⟨am, km, hvm⟩ := h.maps.shape
  obtain ⟨ac, kc, hvc⟩ := h.code.shape
  have HM := keepH (h.below (below_alloc w (.cells #[vm, vc] 25)))
  subst hvm hvc
  clear h
  go_enter Try.func12, Try.ntmps12
  go_wp2_with (go_at_call 22; go_must (refine (rformed_any _ _ ms is _ HM.out).mono ?_); rintro e w1 ⟨rfl, hb⟩; rw [hf])
  go_ret2
  exact ⟨rfl, below_of_alloc hb⟩

set_option maxHeartbeats 3200000 in
theorem rencode_ok (vm vc : Value) (ms : List Int) (is : List In) (w : World) (h : SeesM w vm vc ms is) (hf : formedB ms is = true) :
    Calls Try.prog 12 #[modV vm vc] w fun e w' => ∃ v, e = .returned (.tuple #[v, .int .i64 0]) ∧ w'.ownsRow w.heap.size 5 1 v (modE ms is).length ((modE ms is).map (Value.int .u8)) ∧ Below w.heap.size w w' := by
  obtain ⟨i5, hi5, hz50, hz51, hz52⟩ := info_parts Try.info5
  have HBY := keepH (modE_byte hf h.wf)
  have HLN := keepH (modE_len hf)
  obtain ⟨am, km, hvm⟩ := h.maps.shape
  obtain ⟨ac, kc, hvc⟩ := h.code.shape
  obtain ⟨W0, HW0⟩ : ∃ W0, Hid (W0 = w.alloc (.cells #[vm, vc] 25)) := ⟨_, keepH rfl⟩
  have HB0 : Hid (W0.heap.size = w.heap.size + 1) := by rw [HW0.out]; exact World.size_alloc _ _
  have HM : Hid (∀ wk, Below W0.heap.size W0 wk → SeesM wk vm vc ms is) := fun wk hb => by
    rw [HW0.out] at hb
    exact (h.below (below_alloc w _)).below hb
  have HD : Hid (∀ wk, Below W0.heap.size W0 wk → wk.cell? ⟨w.heap.size, 0, none⟩ = some vm ∧ wk.cell? ⟨w.heap.size, 1, none⟩ = some vc) := fun wk hb => by
    rw [HW0.out] at hb
    exact ((MdC.new w vm vc).below hb (by simp)).cells
  have HEND : Hid (∀ wk, Below W0.heap.size W0 wk → Below w.heap.size w wk) := fun wk hb => by
    rw [HW0.out] at hb
    exact below_of_alloc hb
  have HM0 := keepH (h.below (below_alloc w (.cells #[vm, vc] 25)))
  subst hvm hvc
  clear h
  go_enter Try.func12, Try.ntmps12
  go_wp2_with (first
    | (go_at_call 22; go_must (refine (rformed_any _ _ ms is _ HM0.out).mono ?_); rintro e w1 ⟨rfl, hb1⟩; rw [hf]; go_must (rw [← HW0.out] at hb1; obtain ⟨d0, d1⟩ := HD.out _ hb1))
    | (go_at_call 23; go_must (refine (rfields_ok _ _ ms is _ (HM.out _ hb1) hf).mono ?_); rintro e w2 ⟨v2, vs, rfl, hF, hb2⟩; go_must (have hB2 := hb1.trans (hb2.mono hb1.size); have HF := keepH hF; obtain ⟨a2, k2, hv2⟩ := own_shape4 hF.own; subst hv2; clear hb1 hb2 d0 d1 hF)))
  obtain ⟨fs, HFS⟩ : ∃ fs, Hid (fieldsL ms is = fs) := ⟨_, rfl⟩
  have HFL : Hid (fs.flatten = modE ms is) := by rw [← HFS.out]; exact fields_flat ms is
  rw [HFS.out] at HF
  have hln : fs.flatten.length ≤ 4096 := by rw [HFL.out]; exact HLN.out
  have hvl := HF.out.len
  obtain ⟨C, HC⟩ : ∃ C, Hid (C = vs.length) := ⟨_, rfl⟩
  have HVL : Hid (C = fs.length) := by rw [HC.out]; exact hvl
  rw [← HC.out]
  have hCm : C ≤ 9223372036854775807 := by
    rcases HF.out.own with ⟨_, ⟨_, h2⟩ | ⟨g, cap, cur, _, _, _, h3, h4, _⟩⟩
    · rw [HC.out, h2]; omega
    · unfold maxLen at h4; rw [HC.out]; omega
  clear hvl
  go_loopw [4, 6] (fun v i wr => ∃ k : Nat, k ≤ C ∧ i = .int .i64 k ∧ wr.ownsRow w2.heap.size 5 1 v ((fs.take k).flatten).length (((fs.take k).flatten).map (Value.int .u8)) ∧ Below w2.heap.size w2 wr) (fun _ i _ => C - (intOf i).toNat)
  case atStart => exact ⟨0, by omega, rfl, World.ownsRow_nil _ _ _ _, Below.refl _ _⟩
  case round =>
    obtain ⟨k, hk, rfl, hown, hbe⟩ := hrel
    have hsz := hbe.size
    by_cases hlt : k < C
    · have hkf : k < fs.length := by rw [← HVL.out]; exact hlt
      have HFr := keepH (HF.out.below hbe)
      obtain ⟨g, cap, hg, hcell⟩ : ∃ g cap, a2 = some ⟨g, 0, none⟩ ∧ wr.cell? ⟨g, k, none⟩ = some (vs.getD k nilV) := by
        obtain ⟨g, cap, hv, _, _, _, _, hc⟩ := own_open HFr.out.own (by rw [← HC.out]; omega)
        injection hv with e1
        refine ⟨g, cap, e1, hc k _ ?_⟩
        have hkv : k < vs.length := by rw [← HC.out]; exact hlt
        simp [List.getD, hkv]
      subst hg
      obtain ⟨f, HFK⟩ : ∃ f, Hid (fs.getD k [] = f) := ⟨_, rfl⟩
      have hrow := HFr.out.rows k hkf
      rw [HFK.out] at hrow
      have HSEE : Hid (Sees .u8 wr (vs.getD k nilV) f) := Sees.own hrow (wf_bytes fun x hx => HBY.out x (by rw [← HFL.out]; exact flat_mem hkf (by rw [HFK.out]; exact hx)))
      have hle := flat_one_le hkf
      rw [HFK.out] at hle
      have HTK : Hid ((fs.take (k + 1)).flatten = (fs.take k).flatten ++ f) := by rw [← HFK.out]; exact flat_take fs k hkf
      obtain ⟨ar, kr, hvr⟩ := own_shape4 hrow
      rw [hvr] at hcell HSEE
      obtain ⟨bs, HBS, hL, hown⟩ : ∃ bs, Hid ((fs.take k).flatten = bs) ∧ bs.length + f.length ≤ 4096 ∧ wr.ownsRow w2.heap.size 5 1 u4 bs.length (bs.map (Value.int .u8)) := ⟨_, rfl, by omega, hown⟩
      rw [HBS.out] at HTK
      clear hrow hkf hvr hle
      go_wp2_with (at_builtin; go_must (refine wpList_append_sees rfl (.tmp 18) (.tmp 22) 28 rfl _ 5 i5 (.int .u8 0) 1 Try.underlying28 hi5 hz50 hz51 hz52 rfl .u8 _ _ rfl hown _ _ rfl HSEE.out (by unfold maxLen; omega) (by omega) (by omega) ?_); intro v3 w3 ho3 hg3; go_must (have hb3 := below_grown hown hg3 (by omega); have hB3 := hbe.trans hb3; clear hown hg3 hb3 hbe))
      rw [← HTK.out] at ho3
      go_roundw
      case rel => exact ⟨k + 1, by omega, by go_num, ho3, hB3⟩
      case measure => simp [intOf]; omega
    · have HE : Hid ((fs.take k).flatten = modE ms is) := by rw [List.take_of_length_le (by rw [← HVL.out]; omega)]; exact HFL.out
      rw [HE.out] at hown
      obtain ⟨av, cv, hvs⟩ := own_shape4 hown
      subst hvs
      go_wp2_with fail
      go_ret2
      exact ⟨_, rfl, own_base hown (by have := hB2.size; rw [HB0.out] at this; omega), HEND.out _ (hB2.trans (hbe.mono hB2.size))⟩
/-- The document's Encode. -/
theorem rencode_any (vm vc : Value) (ms : List Int) (is : List In) (w : World) (h : SeesM w vm vc ms is) :
    Calls Try.prog 12 #[modV vm vc] w fun e w' => ∃ v, e = .returned (.tuple #[v, .int .i64 (encL ms is).2]) ∧ w'.ownsRow w.heap.size 5 1 v (encL ms is).1.length ((encL ms is).1.map (Value.int .u8)) ∧ Below w.heap.size w w' := by
  cases hf : formedB ms is with
  | true =>
    have e : encL ms is = (modE ms is, 0) := by unfold encL; rw [if_pos hf]
    rw [e]
    exact rencode_ok vm vc ms is w h hf
  | false =>
    have e : encL ms is = ([], 2) := by unfold encL; rw [if_neg (by rw [hf]; simp)]
    rw [e]
    exact (rencode_bad vm vc ms is w h hf).mono fun x w' ⟨h1, h2⟩ => ⟨_, h1, World.ownsRow_nil _ _ _ _, h2⟩
end Go.Proofs.Ytbpjcppgnndaaaa
