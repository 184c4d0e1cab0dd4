/-
  X26Text
  W26Ex
  W26Logs
  W26Open
-/
import Derived.Test.YtbfbfbbpajaclaaDoorMB31
import Derived.Test.YtbfbfbbpajaclaaDoorMB0
import Derived.Test.YtbfbfbbpajaclaaDoorMB26
import Derived.Test.YtbfbfbbpajaclaaDoorMB18
import Derived.Test.YtbfbfbbpajaclaaDoorMB19
/-
  Layer 26's texts, plain: printed, parsed, and back; texts one behind the other. No Go text in sight.
-/
namespace Go.Proofs.YtbfbfbbpajaclaaDoor
open Go.RowKit
set_option linter.unusedVariables false
set_option linter.unusedSimpArgs false
set_option maxRecDepth 100000
theorem nm_nl : ∀ (k : Fin 18), (nmE (k.val : Int)).all (fun c => c != 10) = true := by decide +kernel
theorem all_nl : allL.all (fun c => c != 10) = true := by decide
theorem digF_nl (f u : Nat) : ∀ c ∈ digF f u, c ≠ 10 := by
  intro c hc he
  subst he
  have := digF_dig _ _ _ hc
  revert this; decide
theorem numL_nl26 (n : Int) : ∀ c ∈ numL n, c ≠ 10 := by
  intro c hc
  by_cases h0 : n < 0
  · rw [numL_neg h0] at hc
    rcases List.mem_cons.1 hc with g | g
    · rw [g]; decide
    · exact digF_nl _ _ c g
  · rw [numL_pos h0] at hc
    exact digF_nl _ _ c hc
theorem lineE_nl {e : En} (h : plainE e = true) : ∀ c ∈ lineE e, c ≠ 10 := by
  unfold plainE at h
  rw [Bool.and_eq_true, Bool.and_eq_true] at h
  have hm := of_decide_eq_true h.1.1
  obtain ⟨m, hmm⟩ : ∃ m : Nat, e.wh = m := ⟨e.wh.toNat, by omega⟩
  have hm2 : (1 : Int) ≤ m ∧ (m : Int) ≤ 17 := by omega
  intro c hc
  unfold lineE at hc
  rw [hmm] at hc
  rcases List.mem_append.1 hc with g | g
  · have := List.all_eq_true.1 (nm_nl ⟨m, by omega⟩) c g
    simpa using this
  · obtain ⟨d, hd, hcd⟩ := List.mem_flatMap.1 g
    have hda := List.all_eq_true.1 all_nl d (fld_mem hm2 hd).1
    unfold wdE at hcd
    rcases List.mem_cons.1 hcd with g | g
    · rw [g]; decide
    rcases List.mem_cons.1 g with g | g
    · rw [g]; simpa using hda
    · split at g
      · exact digF_nl _ _ c g
      · exact numL_nl26 _ c g
theorem parF26_line : ∀ (l acc : List UInt8) (is : List En) (r : List UInt8), (∀ c ∈ l, c ≠ 10) → parF26 acc is (l ++ 10 :: r) = (match readE (acc ++ l) with | none => ([], (is.length : Int) + 1, 20) | some i => parF26 [] (is ++ [i]) r)
  | [], acc, is, r, _ => by simp [parF26]; rfl
  | c :: l, acc, is, r, h => by
    have hc : c ≠ 10 := h c (by simp)
    simp only [List.cons_append, parF26, if_neg hc]
    rw [parF26_line l (acc ++ [c]) is r (fun x hx => h x (by simp [hx]))]
    simp
theorem parF26_printed : ∀ (xs is : List En) (r : List UInt8), (∀ i ∈ xs, plainE i = true ∧ i.wf) → parF26 [] is (textE xs ++ r) = parF26 [] (is ++ xs) r
  | [], is, r, _ => by simp [textE]
  | x :: xs, is, r, h => by
    have hx := h x (by simp)
    have e : textE (x :: xs) ++ r = lineE x ++ 10 :: (textE xs ++ r) := by simp [textE]
    rw [e, parF26_line _ _ _ _ (lineE_nl hx.1)]
    have hrd : readE ([] ++ lineE x) = some x := readE_line hx.2 hx.1
    rw [hrd]
    show parF26 [] (is ++ [x]) (textE xs ++ r) = _
    rw [parF26_printed xs (is ++ [x]) r (fun i hi => h i (by simp [hi]))]
    simp
/-- What is printed is read back. -/
theorem par26_print {xs : List En} (h : ∀ i ∈ xs, plainE i = true ∧ i.wf) : parE (textE xs) = (xs, 0, 0) := by
  have := parF26_printed xs [] [] h
  simp only [List.append_nil, List.nil_append] at this
  unfold parE
  rw [this]
  simp [parF26]
/-- What is read is printed so. -/
theorem parF26_ok : ∀ (r acc : List UInt8) (is js : List En) (n : Int), parF26 acc is r = (js, n, 0) → n = 0 ∧ ∃ ys, js = is ++ ys ∧ acc ++ r = textE ys ∧ ∀ i ∈ ys, plainE i = true ∧ i.wf
  | [], acc, is, js, n, h => by
    unfold parF26 at h
    split at h
    · rename_i ha
      simp only [Prod.mk.injEq] at h
      exact ⟨h.2.1.symm, [], by simp [h.1], by simp [ha, textE], by simp⟩
    · simp at h
  | c :: r, acc, is, js, n, h => by
    unfold parF26 at h
    split at h
    · rename_i hc
      subst hc
      split at h
      · simp at h
      · rename_i i hi
        obtain ⟨h0, ys, h1, h2, h3⟩ := parF26_ok r [] (is ++ [i]) js n h
        have hs := readE_some hi
        refine ⟨h0, i :: ys, by simp [h1], ?_, ?_⟩
        · rw [List.nil_append] at h2
          have e : textE (i :: ys) = lineE i ++ 10 :: textE ys := by simp [textE]
          rw [e, hs.2.2, h2]
        · intro x hx
          rcases List.mem_cons.1 hx with rfl | hx
          · exact ⟨hs.2.1, hs.1⟩
          · exact h3 x hx
    · obtain ⟨h0, ys, h1, h2, h3⟩ := parF26_ok r (acc ++ [c]) is js n h
      exact ⟨h0, ys, h1, by rw [← h2]; simp, h3⟩
theorem par26_ok {s : List UInt8} {js : List En} {n : Int} (h : parE s = (js, n, 0)) : n = 0 ∧ s = textE js ∧ ∀ i ∈ js, plainE i = true ∧ i.wf := by
  obtain ⟨h0, ys, h1, h2, h3⟩ := parF26_ok s [] [] js n h
  simp only [List.nil_append] at h1 h2
  subst h1
  exact ⟨h0, h2, h3⟩
/-- An answer is no error, or tells a line from 1 on and no instruction. -/
theorem parF26_err : ∀ (r acc : List UInt8) (is : List En), (parF26 acc is r).2.2 = 0 ∨ ((parF26 acc is r).2.2 = 20 ∧ 1 ≤ (parF26 acc is r).2.1 ∧ (parF26 acc is r).1 = [])
  | [], acc, is => by
    unfold parF26
    split
    · exact .inl rfl
    · exact .inr ⟨rfl, by simp; omega, rfl⟩
  | c :: r, acc, is => by
    unfold parF26
    split
    · split
      · exact .inr ⟨rfl, by simp; omega, rfl⟩
      · exact parF26_err r [] _
    · exact parF26_err r _ is
theorem par26_err (s : List UInt8) : (parE s).2.2 = 0 ∨ ((parE s).2.2 = 20 ∧ 1 ≤ (parE s).2.1 ∧ (parE s).1 = []) := parF26_err s [] []
/-- Texts one behind the other. -/
theorem parF26_shift : ∀ (r acc : List UInt8) (is js : List En), parF26 acc (is ++ js) r = (if (parF26 acc js r).2.2 = 0 then (is ++ (parF26 acc js r).1, 0, 0) else ([], (is.length : Int) + (parF26 acc js r).2.1, 20))
  | [], acc, is, js => by
    unfold parF26
    split
    · simp
    · simp; omega
  | c :: r, acc, is, js => by
    unfold parF26
    split
    · split
      · simp; omega
      · rename_i i hi
        rw [List.append_assoc]
        exact parF26_shift r [] is (js ++ [i])
    · exact parF26_shift r _ is js
theorem par26_join {s t : List UInt8} {xs : List En} {n : Int} (h : parE s = (xs, n, 0)) : parE (s ++ t) = (if (parE t).2.2 = 0 then (xs ++ (parE t).1, 0, 0) else ([], (xs.length : Int) + (parE t).2.1, 20)) := by
  obtain ⟨_, rfl, h3⟩ := par26_ok h
  unfold parE
  rw [parF26_printed xs [] t h3, List.nil_append]
  have := parF26_shift t [] xs []
  rw [List.append_nil] at this
  exact this
end Go.Proofs.YtbfbfbbpajaclaaDoor
/-
  Layer 26: the laws' own example, plain. No Go text in sight.
-/
namespace Go.Proofs.YtbfbfbbpajaclaaDoor
open Go.RowKit
set_option linter.unusedVariables false
set_option linter.unusedSimpArgs false
set_option maxRecDepth 100000
def ex1 : En := ⟨1, 0, 0, 2, 0, 0, 0, 0, 0, 0, 0, 0, 0, 0, 0, false, 0, false, 0, 0, 0, 0⟩
def ex2 : En := ⟨2, 1, 0, 0, 0, 0, 0, 0, 0, 0, 0, 0, 0, 0, 0, false, 0, false, 0, 0, 0, 40⟩
def ex3 : En := ⟨17, 2, 0, 0, 0, 7, 0, 1, 3, 4, 0, 0, 0, 0, 0, false, 0, true, 8, 2, 0, 0⟩
theorem ex1_wf : ex1.wf := wf_en (by omega) (by omega) (by omega) (by omega) (by omega) (by omega) (by omega) (by omega) (by omega) (by omega) (by omega) (by omega) (by omega) (by omega) (by omega) (by omega) (by omega) (by omega) (by omega) (by omega)
theorem ex2_wf : ex2.wf := wf_en (by omega) (by omega) (by omega) (by omega) (by omega) (by omega) (by omega) (by omega) (by omega) (by omega) (by omega) (by omega) (by omega) (by omega) (by omega) (by omega) (by omega) (by omega) (by omega) (by omega)
theorem ex3_wf : ex3.wf := wf_en (by omega) (by omega) (by omega) (by omega) (by omega) (by omega) (by omega) (by omega) (by omega) (by omega) (by omega) (by omega) (by omega) (by omega) (by omega) (by omega) (by omega) (by omega) (by omega) (by omega)
theorem ex12_print : printE [ex1, ex2] = ([99, 97, 108, 108, 32, 116, 48, 32, 99, 50, 10, 114, 101, 116, 117, 114, 110, 32, 116, 49, 32, 99, 48, 32, 120, 52, 48, 32, 110, 48, 10], 0) := by decide +kernel
theorem ex3_text : textE [ex3] = [98, 97, 99, 107, 32, 116, 50, 32, 101, 55, 32, 112, 49, 32, 118, 51, 32, 97, 52, 32, 121, 48, 32, 98, 48, 32, 114, 48, 32, 79, 56, 32, 86, 50, 10] := by decide +kernel
theorem ex3_plain : plainE ex3 = true := by decide +kernel
theorem ex3_parse : parE [98, 97, 99, 107, 32, 116, 50, 32, 101, 55, 32, 112, 49, 32, 118, 51, 32, 97, 52, 32, 121, 48, 32, 98, 48, 32, 114, 48, 32, 79, 56, 32, 86, 50, 10] = ([ex3], 0, 0) := by
  rw [← ex3_text]
  exact par26_print (fun i hi => by
    have e : i = ex3 := by simpa using hi
    subst e
    exact ⟨ex3_plain, ex3_wf⟩)
end Go.Proofs.YtbfbfbbpajaclaaDoor
/-
  What the law's comparison of entries does where both are the same. Condition: the slices read as entries.
-/
namespace Go.Proofs.YtbfbfbbpajaclaaDoor
open Go.RowKit
set_option linter.unusedVariables false
set_option linter.unusedSimpArgs false
set_option maxRecDepth 100000
set_option maxHeartbeats 6400000 in
theorem logs26 (u v : Value) (xs : List En) (w : World) (hu : SeesG enC 22 En.nil w u xs) (hv : SeesG enC 22 En.nil w v xs) : Calls Tryd.prog 15 #[u, v] w fun r w' => r = .returned (.bool true) ∧ Below w.heap.size w w' := by
  have HU := keepG hu
  have HV := keepG hv
  obtain ⟨a, cap, rfl, hlc, hmx⟩ := hu.shape
  obtain ⟨a', cap', rfl, hlc', hmx'⟩ := hv.shape
  clear hu hv
  go_enter Tryd.func15, Tryd.ntmps15
  go_wp2_with fail
  go_loopw [5] (fun i wr => ∃ k : Nat, k ≤ xs.length ∧ i = .int .i64 k ∧ Hid (Below w.heap.size w wr)) (fun i _ => xs.length - (intOf i).toNat)
  case atStart => exact ⟨0, by omega, rfl, Below.refl _ _⟩
  case round =>
    rename World => wr
    obtain ⟨k, hk, rfl, HB⟩ := hrel
    by_cases hlt : k < xs.length
    · have hltI : (k : Int) < xs.length := by omega
      obtain ⟨p, off, ea, hat⟩ := enAt26 HU.out hlt
      subst ea
      obtain ⟨p', off', ea, hat'⟩ := enAt26 HV.out hlt
      subst ea
      obtain ⟨e, HE⟩ : ∃ e, Hid (xs.getD k En.nil = e) := ⟨_, rfl⟩
      have h1 := hat wr e HB.out HE.out
      have h2 := hat' wr e HB.out HE.out
      clear hat hat'
      go_wp2
      refine wp_region_held_drew (S := fun w' => w'.rangeAt p (off + k * 22) (enC e) ∧ w'.rangeAt p' (off' + k * 22) (enC e)) (by kernel_rfl) ⟨h1, h2⟩ (fun hHeld => ?_)
      refine tkGo [0, 1, 2] ?_
      repeat (refine tkO (v := ?_) rfl ?_ ?_; rotate_left; (intro wy hSw; (try dsimp only at hSw); go_simp; (first | done | with_reducible rfl)); try simp only [Act.put, p1q, p2q, p3q, p4q, p5q, p6q])
      refine tkEnd ?_
      refine wpAnyH_take (i := 3) rfl (by kernel_rfl) (by kernel_rfl) (by kernel_rfl) (fun _ _ _ h => h) (yieldsIf_load_mid (by rfl) _ _ rfl _ _ rfl (enC e) _ (fun w h => h.1) Tryd.underlying36 rfl (sizeEn e)) (by assumption) ?_
      try simp only [Act.put, p1q, p2q, p3q, p4q, p5q, p6q]
      refine tkGo [4, 5, 6] ?_
      repeat (refine tkO (v := ?_) rfl ?_ ?_; rotate_left; (intro wy hSw; (try dsimp only at hSw); go_simp; (first | done | with_reducible rfl)); try simp only [Act.put, p1q, p2q, p3q, p4q, p5q, p6q])
      refine tkEnd ?_
      refine wpAnyH_take (i := 7) rfl (by kernel_rfl) (by kernel_rfl) (by kernel_rfl) (fun _ _ _ h => h) (yieldsIf_load_mid (by rfl) _ _ rfl _ _ rfl (enC e) _ (fun w h => h.2) Tryd.underlying36 rfl (sizeEn e)) (by assumption) ?_
      try simp only [Act.put, p1q, p2q, p3q, p4q, p5q, p6q]
      refine wpAnyH_take (i := 8) (v := .bool false) rfl (by kernel_rfl) (by kernel_rfl) (by kernel_rfl) (fun _ _ _ h => h) (Or.inl ⟨by rfl, fun wy hSw => ?_⟩) (by assumption) ?_
      · go_simp
      try simp only [Act.put, p1q, p2q, p3q, p4q, p5q, p6q]
      refine wpAnyH_done (by kernel_rfl) ?_ _
      go_wp2
      go_roundw
      case rel => exact ⟨k + 1, by omega, by go_num, HB.out.trans ((below_drG (Below.refl _ _)).mono HB.out.size)⟩
      case measure => simp [intOf]; omega
    · obtain rfl : k = xs.length := by omega
      go_wp2
      go_ret
      exact ⟨rfl, HB.out⟩
end Go.Proofs.YtbfbfbbpajaclaaDoor
/-
  Arguments that are entries, opened. No condition.
-/
namespace Go.Proofs.YtbfbfbbpajaclaaDoor
open Go.ChangeShapes Go.WideShapes Go.ChangeAt Go.RowKit
set_option linter.unusedVariables false
set_option linter.unusedSimpArgs false
set_option maxRecDepth 100000
set_option maxHeartbeats 3200000 in
theorem en_cells {H : Type} {enc : TypeId × Value → H} {W : World} {fuel : Nat} {cs : List Value} {x : DataW H × List MemPlace}
    (h : DataW.trod enc Tryd.prog W 0 (fun _ => true) true fuel 36 cs = some x) : ∃ e : En, cs = enC e ∧ e.wf := by
  obtain ⟨xs, n, rfl, hx, hl, hlen, hf⟩ := DataW.trod_struct Tryd.underlying36 h
  have l22 : cs.length = 22 := by rw [hl]; kernel_rfl
  have u0 : Tryd.prog.cellsOf 25 = 1 := by kernel_rfl
  have u1 : Tryd.prog.cellsOf 3 = 1 := by kernel_rfl
  have u2 : Tryd.prog.cellsOf 31 = 4 := by kernel_rfl
  have u3 : Tryd.prog.cellsOf 34 = 6 := by kernel_rfl
  have u4 : Tryd.prog.cellsOf 29 = 1 := by kernel_rfl
  have u5 : Tryd.prog.cellsOf 32 = 1 := by kernel_rfl
  have u6 : Tryd.prog.cellsOf 28 = 1 := by kernel_rfl
  have u7 : Tryd.prog.cellsOf 4 = 1 := by kernel_rfl
  match cs, l22, xs, hlen, hf with
  | [c0, c1, c2, c3, c4, c5, c6, c7, c8, c9, c10, c11, c12, c13, c14, c15, c16, c17, c18, c19, c20, c21], _, [x0, x1, x2, x3, x4, x5, x6, x7, x8, x9, x10, x11, x12, x13], _, hf =>
    have h0 : DataW.trod enc Tryd.prog W 0 (fun _ => true) true n 25 (([c0, c1, c2, c3, c4, c5, c6, c7, c8, c9, c10, c11, c12, c13, c14, c15, c16, c17, c18, c19, c20, c21].drop 0).take (Tryd.prog.cellsOf 25)) = some x0 := hf 0 _ rfl
    rw [u0] at h0
    have h0 : DataW.trod enc Tryd.prog W 0 (fun _ => true) true n 25 [c0] = some x0 := h0
    have h1 : DataW.trod enc Tryd.prog W 0 (fun _ => true) true n 3 (([c0, c1, c2, c3, c4, c5, c6, c7, c8, c9, c10, c11, c12, c13, c14, c15, c16, c17, c18, c19, c20, c21].drop 1).take (Tryd.prog.cellsOf 3)) = some x1 := hf 1 _ rfl
    rw [u1] at h1
    have h1 : DataW.trod enc Tryd.prog W 0 (fun _ => true) true n 3 [c1] = some x1 := h1
    have h2 : DataW.trod enc Tryd.prog W 0 (fun _ => true) true n 3 (([c0, c1, c2, c3, c4, c5, c6, c7, c8, c9, c10, c11, c12, c13, c14, c15, c16, c17, c18, c19, c20, c21].drop 2).take (Tryd.prog.cellsOf 3)) = some x2 := hf 2 _ rfl
    rw [u1] at h2
    have h2 : DataW.trod enc Tryd.prog W 0 (fun _ => true) true n 3 [c2] = some x2 := h2
    have h3 : DataW.trod enc Tryd.prog W 0 (fun _ => true) true n 3 (([c0, c1, c2, c3, c4, c5, c6, c7, c8, c9, c10, c11, c12, c13, c14, c15, c16, c17, c18, c19, c20, c21].drop 3).take (Tryd.prog.cellsOf 3)) = some x3 := hf 3 _ rfl
    rw [u1] at h3
    have h3 : DataW.trod enc Tryd.prog W 0 (fun _ => true) true n 3 [c3] = some x3 := h3
    have h4 : DataW.trod enc Tryd.prog W 0 (fun _ => true) true n 3 (([c0, c1, c2, c3, c4, c5, c6, c7, c8, c9, c10, c11, c12, c13, c14, c15, c16, c17, c18, c19, c20, c21].drop 4).take (Tryd.prog.cellsOf 3)) = some x4 := hf 4 _ rfl
    rw [u1] at h4
    have h4 : DataW.trod enc Tryd.prog W 0 (fun _ => true) true n 3 [c4] = some x4 := h4
    have h5 : DataW.trod enc Tryd.prog W 0 (fun _ => true) true n 3 (([c0, c1, c2, c3, c4, c5, c6, c7, c8, c9, c10, c11, c12, c13, c14, c15, c16, c17, c18, c19, c20, c21].drop 5).take (Tryd.prog.cellsOf 3)) = some x5 := hf 5 _ rfl
    rw [u1] at h5
    have h5 : DataW.trod enc Tryd.prog W 0 (fun _ => true) true n 3 [c5] = some x5 := h5
    have h6 : DataW.trod enc Tryd.prog W 0 (fun _ => true) true n 3 (([c0, c1, c2, c3, c4, c5, c6, c7, c8, c9, c10, c11, c12, c13, c14, c15, c16, c17, c18, c19, c20, c21].drop 6).take (Tryd.prog.cellsOf 3)) = some x6 := hf 6 _ rfl
    rw [u1] at h6
    have h6 : DataW.trod enc Tryd.prog W 0 (fun _ => true) true n 3 [c6] = some x6 := h6
    have h7 : DataW.trod enc Tryd.prog W 0 (fun _ => true) true n 3 (([c0, c1, c2, c3, c4, c5, c6, c7, c8, c9, c10, c11, c12, c13, c14, c15, c16, c17, c18, c19, c20, c21].drop 7).take (Tryd.prog.cellsOf 3)) = some x7 := hf 7 _ rfl
    rw [u1] at h7
    have h7 : DataW.trod enc Tryd.prog W 0 (fun _ => true) true n 3 [c7] = some x7 := h7
    have h8 : DataW.trod enc Tryd.prog W 0 (fun _ => true) true n 3 (([c0, c1, c2, c3, c4, c5, c6, c7, c8, c9, c10, c11, c12, c13, c14, c15, c16, c17, c18, c19, c20, c21].drop 8).take (Tryd.prog.cellsOf 3)) = some x8 := hf 8 _ rfl
    rw [u1] at h8
    have h8 : DataW.trod enc Tryd.prog W 0 (fun _ => true) true n 3 [c8] = some x8 := h8
    have h9 : DataW.trod enc Tryd.prog W 0 (fun _ => true) true n 3 (([c0, c1, c2, c3, c4, c5, c6, c7, c8, c9, c10, c11, c12, c13, c14, c15, c16, c17, c18, c19, c20, c21].drop 9).take (Tryd.prog.cellsOf 3)) = some x9 := hf 9 _ rfl
    rw [u1] at h9
    have h9 : DataW.trod enc Tryd.prog W 0 (fun _ => true) true n 3 [c9] = some x9 := h9
    have h10 : DataW.trod enc Tryd.prog W 0 (fun _ => true) true n 31 (([c0, c1, c2, c3, c4, c5, c6, c7, c8, c9, c10, c11, c12, c13, c14, c15, c16, c17, c18, c19, c20, c21].drop 10).take (Tryd.prog.cellsOf 31)) = some x10 := hf 10 _ rfl
    rw [u2] at h10
    have h10 : DataW.trod enc Tryd.prog W 0 (fun _ => true) true n 31 [c10, c11, c12, c13] = some x10 := h10
    have h11 : DataW.trod enc Tryd.prog W 0 (fun _ => true) true n 34 (([c0, c1, c2, c3, c4, c5, c6, c7, c8, c9, c10, c11, c12, c13, c14, c15, c16, c17, c18, c19, c20, c21].drop 14).take (Tryd.prog.cellsOf 34)) = some x11 := hf 11 _ rfl
    rw [u3] at h11
    have h11 : DataW.trod enc Tryd.prog W 0 (fun _ => true) true n 34 [c14, c15, c16, c17, c18, c19] = some x11 := h11
    have h12 : DataW.trod enc Tryd.prog W 0 (fun _ => true) true n 29 (([c0, c1, c2, c3, c4, c5, c6, c7, c8, c9, c10, c11, c12, c13, c14, c15, c16, c17, c18, c19, c20, c21].drop 20).take (Tryd.prog.cellsOf 29)) = some x12 := hf 12 _ rfl
    rw [u4] at h12
    have h12 : DataW.trod enc Tryd.prog W 0 (fun _ => true) true n 29 [c20] = some x12 := h12
    have h13 : DataW.trod enc Tryd.prog W 0 (fun _ => true) true n 32 (([c0, c1, c2, c3, c4, c5, c6, c7, c8, c9, c10, c11, c12, c13, c14, c15, c16, c17, c18, c19, c20, c21].drop 21).take (Tryd.prog.cellsOf 32)) = some x13 := hf 13 _ rfl
    rw [u5] at h13
    have h13 : DataW.trod enc Tryd.prog W 0 (fun _ => true) true n 32 [c21] = some x13 := h13
    obtain ⟨ys, m, _, _, _, hylen, hg⟩ := DataW.trod_struct Tryd.underlying31 h10
    obtain ⟨zs, m', _, _, _, hzlen, hg'⟩ := DataW.trod_struct Tryd.underlying34 h11
    match ys, hylen, hg, zs, hzlen, hg' with
    | [y0, y1, y2, y3], _, hg, [z0, z1, z2, z3, z4, z5], _, hg' =>
      have p0 : DataW.trod enc Tryd.prog W 0 (fun _ => true) true m 3 (([c10, c11, c12, c13].drop 0).take (Tryd.prog.cellsOf 3)) = some y0 := hg 0 _ rfl
      rw [u1] at p0
      have p1 : DataW.trod enc Tryd.prog W 0 (fun _ => true) true m 28 (([c10, c11, c12, c13].drop 1).take (Tryd.prog.cellsOf 28)) = some y1 := hg 1 _ rfl
      rw [u6] at p1
      have p2 : DataW.trod enc Tryd.prog W 0 (fun _ => true) true m 29 (([c10, c11, c12, c13].drop 2).take (Tryd.prog.cellsOf 29)) = some y2 := hg 2 _ rfl
      rw [u4] at p2
      have p3 : DataW.trod enc Tryd.prog W 0 (fun _ => true) true m 29 (([c10, c11, c12, c13].drop 3).take (Tryd.prog.cellsOf 29)) = some y3 := hg 3 _ rfl
      rw [u4] at p3
      have q0 : DataW.trod enc Tryd.prog W 0 (fun _ => true) true m' 32 (([c14, c15, c16, c17, c18, c19].drop 0).take (Tryd.prog.cellsOf 32)) = some z0 := hg' 0 _ rfl
      rw [u5] at q0
      have q1 : DataW.trod enc Tryd.prog W 0 (fun _ => true) true m' 4 (([c14, c15, c16, c17, c18, c19].drop 1).take (Tryd.prog.cellsOf 4)) = some z1 := hg' 1 _ rfl
      rw [u7] at q1
      have q2 : DataW.trod enc Tryd.prog W 0 (fun _ => true) true m' 29 (([c14, c15, c16, c17, c18, c19].drop 2).take (Tryd.prog.cellsOf 29)) = some z2 := hg' 2 _ rfl
      rw [u4] at q2
      have q3 : DataW.trod enc Tryd.prog W 0 (fun _ => true) true m' 4 (([c14, c15, c16, c17, c18, c19].drop 3).take (Tryd.prog.cellsOf 4)) = some z3 := hg' 3 _ rfl
      rw [u7] at q3
      have q4 : DataW.trod enc Tryd.prog W 0 (fun _ => true) true m' 29 (([c14, c15, c16, c17, c18, c19].drop 4).take (Tryd.prog.cellsOf 29)) = some z4 := hg' 4 _ rfl
      rw [u4] at q4
      have q5 : DataW.trod enc Tryd.prog W 0 (fun _ => true) true m' 29 (([c14, c15, c16, c17, c18, c19].drop 5).take (Tryd.prog.cellsOf 29)) = some z5 := hg' 5 _ rfl
      rw [u4] at q5
      obtain ⟨wh, e_wh, _, g_wh⟩ := DataW.trod_int Tryd.underlying25 h0
      simp at e_wh
      subst e_wh
      obtain ⟨ta, e_ta, _, g_ta⟩ := DataW.trod_int Tryd.underlying3 h1
      simp at e_ta
      subst e_ta
      obtain ⟨fr, e_fr, _, g_fr⟩ := DataW.trod_int Tryd.underlying3 h2
      simp at e_fr
      subst e_fr
      obtain ⟨cm, e_cm, _, g_cm⟩ := DataW.trod_int Tryd.underlying3 h3
      simp at e_cm
      subst e_cm
      obtain ⟨tg, e_tg, _, g_tg⟩ := DataW.trod_int Tryd.underlying3 h4
      simp at e_tg
      subst e_tg
      obtain ⟨ev, e_ev, _, g_ev⟩ := DataW.trod_int Tryd.underlying3 h5
      simp at e_ev
      subst e_ev
      obtain ⟨hk, e_hk, _, g_hk⟩ := DataW.trod_int Tryd.underlying3 h6
      simp at e_hk
      subst e_hk
      obtain ⟨pg, e_pg, _, g_pg⟩ := DataW.trod_int Tryd.underlying3 h7
      simp at e_pg
      subst e_pg
      obtain ⟨ve, e_ve, _, g_ve⟩ := DataW.trod_int Tryd.underlying3 h8
      simp at e_ve
      subst e_ve
      obtain ⟨pc, e_pc, _, g_pc⟩ := DataW.trod_int Tryd.underlying3 h9
      simp at e_pc
      subst e_pc
      obtain ⟨mp, e_mp, _, g_mp⟩ := DataW.trod_int Tryd.underlying3 p0
      simp at e_mp
      subst e_mp
      obtain ⟨op, e_op, _, g_op⟩ := DataW.trod_int Tryd.underlying28 p1
      simp at e_op
      subst e_op
      obtain ⟨ky, e_ky, _, g_ky⟩ := DataW.trod_int Tryd.underlying29 p2
      simp at e_ky
      subst e_ky
      obtain ⟨vl, e_vl, _, g_vl⟩ := DataW.trod_int Tryd.underlying29 p3
      simp at e_vl
      subst e_vl
      obtain ⟨er, e_er, _, g_er⟩ := DataW.trod_int Tryd.underlying32 q0
      simp at e_er
      subst e_er
      obtain ⟨fo, e_fo, _⟩ := DataW.trod_bool Tryd.underlying4 q1
      simp at e_fo
      subst e_fo
      obtain ⟨rv, e_rv, _, g_rv⟩ := DataW.trod_int Tryd.underlying29 q2
      simp at e_rv
      subst e_rv
      obtain ⟨ou, e_ou, _⟩ := DataW.trod_bool Tryd.underlying4 q3
      simp at e_ou
      subst e_ou
      obtain ⟨ok, e_ok, _, g_ok⟩ := DataW.trod_int Tryd.underlying29 q4
      simp at e_ok
      subst e_ok
      obtain ⟨ov, e_ov, _, g_ov⟩ := DataW.trod_int Tryd.underlying29 q5
      simp at e_ov
      subst e_ov
      obtain ⟨va, e_va, _, g_va⟩ := DataW.trod_int Tryd.underlying29 h12
      simp at e_va
      subst e_va
      obtain ⟨xe, e_xe, _, g_xe⟩ := DataW.trod_int Tryd.underlying32 h13
      simp at e_xe
      subst e_xe
      refine ⟨⟨wh, ta, fr, cm, tg, ev, hk, pg, ve, pc, mp, op, ky, vl, er, fo, rv, ou, ok, ov, va, xe⟩, rfl, ?_⟩
      refine wf_en (bounds_i64 g_wh) (bounds_i64 g_ta) (bounds_i64 g_fr) (bounds_i64 g_cm) (bounds_i64 g_tg) (bounds_i64 g_ev) (bounds_i64 g_hk) (bounds_i64 g_pg) (bounds_i64 g_ve) (bounds_i64 g_pc) (bounds_i64 g_mp) (bounds_i64 g_op) (bounds_i64 g_er) (bounds_i64 g_xe) (bounds_u64 g_ky) (bounds_u64 g_vl) (bounds_u64 g_rv) (bounds_u64 g_ok) (bounds_u64 g_ov) (bounds_u64 g_va)
theorem opens_En {H : Type} {enc : TypeId × Value → H} {W : World} {base : Nat} {v : Value} {d : DataW H} {p : List MemPlace}
    (hok : Value.okWide Tryd.prog W .any base 22 v) (h : DataW.Trod enc Tryd.prog W 0 (fun _ => true) true 22 v d p) :
    ∃ xs, SeesG enC 22 En.nil W v xs ∧ (∀ x ∈ xs, x.wf) ∧ ((d.weights Tryd.prog 22).all (· ≤ reachBytes) = true → xs.length * 176 ≤ 140737488351232 ∧ ∀ x ∈ xs, True) :=
  opensGW En.nil (R := fun e => e.wf) (Q := fun _ => True) Tryd.underlying22 (by kernel_rfl) (by decide) enC_len (by kernel_rfl) (fun h => by obtain ⟨e, h1, h2⟩ := en_cells h; exact ⟨e, h1, h2, fun _ => trivial⟩) hok h
end Go.Proofs.YtbfbfbbpajaclaaDoor
