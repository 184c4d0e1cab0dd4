/-
  The law LebKeeps' walk. Condition: at most 1048576 bytes and numbers together.
-/
import Derived.Test.YtkfeomgfpokeeaaRefAll
import Derived.Test.YtkfeomgfpokeeaaRefPut
import Derived.Test.YtkfeomgfpokeeaaUnfold
namespace Go.Proofs.Ytkfeomgfpokeeaa
open Go.RowKit
set_option linter.unusedVariables false

theorem grown_trans {a b c : World} {r : Option Nat} (h : a.grownBy b r) (k : b.grownBy c r) : a.grownBy c r :=
  ⟨k.os.trans h.os, k.tape.trans h.tape, k.output.trans h.output, Nat.le_trans h.size k.size, fun i hi hr => (k.block i (Nat.lt_of_lt_of_le hi h.size) hr).trans (h.block i hi hr)⟩
theorem grown_refl (a : World) (r : Option Nat) : a.grownBy a r := ⟨rfl, rfl, rfl, Nat.le_refl _, fun _ _ _ => rfl⟩

/-- Bytes with marked room behind them. -/
theorem roomy_any (v : Value) (xs : List Int) (w : World) (h : Sees .u8 w v xs) (hmax : xs.length ≤ 4194304) :
    Calls Try.prog 24 #[v] w fun e w' => ∃ g cap, e = .returned (.tuple #[.slice (some ⟨g, 0, none⟩) (xs.length + 3) cap, .slice (some ⟨g, 0, none⟩) xs.length cap]) ∧
      w'.ownsRow w.heap.size 5 1 (.slice (some ⟨g, 0, none⟩) (xs.length + 3) cap) (xs.length + 3) ((xs ++ [71, 72, 73]).map (Value.int .u8)) ∧ Below w.heap.size w w' := by
  obtain ⟨i5, hi5, hz50, hz51, hz52⟩ := info_parts Try.info5
  have HS : Hid (Sees .u8 w v xs) := h
  obtain ⟨av, cv, rfl⟩ := h.shape
  clear h
  go_enter Try.func24, Try.ntmps24
  have hwf : ∀ x ∈ xs ++ [71, 72, 73], (Lit.int .u8 x).wf = true := by
    intro x hx
    rcases List.mem_append.1 hx with hx | hx
    · exact HS.out.wf x hx
    · simp at hx; rcases hx with rfl | rfl | rfl <;> rfl
  have HL3 : Hid ((xs ++ [71, 72, 73]).length = xs.length + 3) := by show _ = _; simp
  go_wp2_with (first
    | (at_builtin; have hq := HS; clear hq; refine wpList_append_sees rfl (.tmp 5) (.tmp 6) 25 rfl w.heap.size 5 i5 (.int .u8 0) 1 Try.underlying25 hi5 hz50 hz51 hz52 rfl .u8 _ [] rfl (World.ownsRow_lit w #[] 0 (Nat.le_refl _) (by simp [maxLen]) rfl) _ _ rfl (HS.out.alloc _) (by simp [maxLen]; omega) (by simp; omega) (by simp) ?_; intro v3 w3 hown3 hg3; go_must (have hb3 := below_grown (World.ownsRow_lit w #[] 0 (Nat.le_refl w.heap.size) (by simp [maxLen]) rfl) hg3 (by simp); have hb3 : Below w.heap.size w w3 := ((Below.refl _ _).alloc (Nat.le_refl _) _).trans hb3; have hz3 := hb3.size; clear hg3 HS; simp only [List.nil_append] at hown3))
    | (at_builtin; have hq := hown3; clear hq; go_must (refine wpList_append_sees rfl (.tmp 7) (.tmp 8) 25 rfl w.heap.size 5 i5 (.int .u8 0) 1 Try.underlying25 hi5 hz50 hz51 hz52 rfl .u8 _ xs rfl (hown3.alloc _) _ [71, 72, 73] rfl (Sees.lit w3 .u8 5 [71, 72, 73] _ 3 rfl rfl (by decide) (by decide)) (by simp [maxLen]; omega) (by simp; omega) (by simp; omega) ?_); intro v4 w4 hown4 hg4; go_must (have hb4 := below_grown (hown3.alloc _) hg4 (by simp; omega); have hb4 : Below w.heap.size w w4 := (hb3.alloc hz3 _).trans hb4; rw [HL3.out] at hown4; obtain ⟨g, cap, rfl, hg0, hg1, hgc, hgm, _⟩ := own_open hown4 (by omega); clear hg4 hown3 hb3)))
  unfold maxLen at hgm
  have hle : xs.length ≤ cap := by omega
  go_region
  all_goals go_wp2
  all_goals go_ret2
  all_goals exact ⟨g, cap, by first | rfl | (simp; done) | (simp; omega), hown4, below_drewN hb4 _⟩

/-- Is it as it was, with its marks? -/
theorem still_any (g cap : Nat) (v : Value) (xs : List Int) (w : World) (ho : w.ownsRow 0 5 1 (.slice (some ⟨g, 0, none⟩) (xs.length + 3) cap) (xs.length + 3) ((xs ++ [71, 72, 73]).map (Value.int .u8))) (h : Sees .u8 w v xs) (hmax : xs.length ≤ 4194304) :
    Calls Try.prog 25 #[.slice (some ⟨g, 0, none⟩) (xs.length + 3) cap, v] w fun e w' => e = .returned (.bool true) ∧ ∃ n, w' = w.drewN n := by
  have HS : Hid (Sees .u8 w v xs) := h
  obtain ⟨av, cv, rfl⟩ := h.shape
  have hw : ∀ x ∈ xs ++ [71, 72, 73], (Lit.int .u8 x).wf = true := by
    intro x hx
    rcases List.mem_append.1 hx with hx | hx
    · exact h.wf x hx
    · simp at hx; rcases hx with rfl | rfl | rfl <;> rfl
  have e3 : (xs ++ [71, 72, 73]).length = xs.length + 3 := by simp
  have HO : Hid (Sees .u8 w (.slice (some ⟨g, 0, none⟩) (xs ++ [71, 72, 73]).length cap) (xs ++ [71, 72, 73])) := Sees.own (base := 0) (e := 5) (by rw [e3]; exact ho) hw
  have hcap : xs.length + 3 ≤ cap ∧ cap ≤ maxLen := by
    obtain ⟨a', c', ev, h1, h2, _⟩ := HO.out
    injection ev with e1 e2 e3'
    rw [e3] at h1; omega
  obtain ⟨hc1, hc2⟩ := hcap
  unfold maxLen at hc2
  have c0 : w.cell? ⟨g, xs.length, none⟩ = some (.int .u8 71) := by
    rw [ho.cellAt xs.length (by omega)]; simp
  have c1 : w.cell? ⟨g, xs.length + 1, none⟩ = some (.int .u8 72) := by
    rw [ho.cellAt (xs.length + 1) (by omega)]; simp
  have c2 : w.cell? ⟨g, xs.length + 2, none⟩ = some (.int .u8 73) := by
    rw [ho.cellAt (xs.length + 2) (by omega)]; simp
  obtain ⟨V, hV, HV⟩ : ∃ V, (∀ wx, (Instr.slice 25 (.slice (some ⟨g, 0, none⟩) (xs.length + 3) cap) none (some (.int .i64 xs.length)) none).run Try.prog wx = .ok V wx) ∧ Hid (Sees .u8 w V xs) :=
    ⟨_, run_upto Try.underlying25 size_u8 (some ⟨g, 0, none⟩) (xs.length + 3) cap xs.length (by omega), by
      have h := Sees.cut HO.out 0 xs.length cap (by omega) (by simp) (by omega) (Nat.le_refl _)
      rw [List.drop_zero, List.take_left] at h
      exact h⟩
  clear h hw ho e3
  go_enter Try.func25, Try.ntmps25
  go_wp2_with (go_at_call 12; go_must (refine (same_any V _ xs xs _ HV.out HS.out).mono ?_); rintro e w4 ⟨rfl, n4, rfl⟩; rw [eqB_true (rfl : xs = xs)])
  go_ret
  exact ⟨rfl, _, rfl⟩

theorem mine_sees {w : World} {base g cap n : Nat} {xs ys : List Int} (h : w.ownsRow base 5 1 (.slice (some ⟨g, 0, none⟩) n cap) n ((xs ++ ys).map (Value.int .u8))) (hn : n = xs.length + ys.length) (hw : ∀ x ∈ xs, (Lit.int .u8 x).wf = true) (hpos : 0 < n) : Sees .u8 w (.slice (some ⟨g, 0, none⟩) xs.length cap) xs := by
  obtain ⟨g', cap', ev, _, hlt, hc, hm, hcell⟩ := own_open h hpos
  obtain ⟨rfl, rfl⟩ : g = g' ∧ cap = cap' := by injection ev with e1 e2 e3; injection e1 with e1; injection e1 with e1; exact ⟨e1, e3⟩
  refine ⟨_, cap, rfl, by omega, hm, fun h => by simp at h, hw, fun _ => ⟨g, 0, rfl, hlt, fun i hi => ?_⟩⟩
  rw [Nat.zero_add]
  refine hcell i _ ?_
  rw [List.getElem?_map, List.getElem?_append_left hi]
  simp [List.getD, List.getElem?_eq_getElem hi]
theorem three_new (w : World) (x y z : Value) (t : TypeId) : ∀ j u, [x, y, z][j]? = some u → (w.alloc (.cells #[x, y, z] t)).cell? ((⟨w.heap.size, 0, none⟩ : Addr).add j) = some u := by
  intro j u hj
  rw [add_none, Nat.zero_add, World.cell?_alloc_at _ _ _ _ rfl]
  exact (List.getElem?_toArray (xs := [x, y, z])).trans hj
theorem three_one (a b c : Int) : ∀ u ∈ [Value.int .u8 a, .int .u8 b, .int .u8 c], u.oneCell' = true := by
  intro u hu
  simp at hu
  rcases hu with rfl | rfl | rfl <;> rfl
/-- An own row that another own row's writing leaves alone. -/
theorem own_apart {w w' : World} {base : Nat} {e : TypeId} {v v' : Value} {n : Nat} {xs : List Value} (h : w.ownsRow base e 1 v n xs) (hg : w.grownBy w' v'.ownBlock) (hlo : ∀ k j, v.ownBlock = some k → v'.ownBlock = some j → k ≠ j) : w'.ownsRow base e 1 v n xs := by
  refine h.kept hg ?_
  cases hv : v.ownBlock with
  | none => exact .inl rfl
  | some k =>
    refine .inr fun e => ?_
    exact hlo k k hv e.symm rfl
theorem own_block_lt {w : World} {base : Nat} {e : TypeId} {v : Value} {n : Nat} {xs : List Value} (h : w.ownsRow base e 1 v n xs) (k : Nat) (hk : v.ownBlock = some k) : base ≤ k ∧ k < w.heap.size := h.lt k hk

set_option maxRecDepth 100000 in
set_option maxHeartbeats 2000000 in
theorem keeps_walk (v : Value) (xs : List Int) (u : Value) (ns : List Int) (w : World) (hs : Sees .u8 w v xs) (hn : xs.length ≤ 1048576) (hu : Sees .u64 w u ns) (hm : ns.length ≤ 1048576) :
    Calls Try.prog 8 #[v, u] w fun e w' => e = .returned (.bool true) ∧ Below w.heap.size w w' := by
  obtain ⟨i5, hi5, hz50, hz51, hz52⟩ := info_parts Try.info5
  have HS : Hid (Sees .u8 w v xs) := hs
  have HU : Hid (Sees .u64 w u ns) := hu
  have hby := encs_byte hu.words
  have ln := (encs_len ns).1
  have HW : Hid (∀ n ∈ (allL xs).1, (Lit.int .u64 n).wf = true) := wf_words (allL_nums xs hs.bytes)
  obtain ⟨av, cv, rfl⟩ := hs.shape
  obtain ⟨au, cu, rfl⟩ := hu.shape
  clear hs hu
  go_enter Try.func8, Try.ntmps8
  go_wp2_with (first
    | (go_at_call 9; go_must (refine (awake_any _).mono ?_); rintro e w1 ⟨rfl, hB1⟩; have hz1 := hB1.size)
    | (go_at_call 24; go_must (refine (roomy_any _ xs _ (HS.out.below hB1 (Nat.le_refl _)) (by omega)).mono ?_); rintro e w2 ⟨g, cap, rfl, hownA, hbe2⟩; go_must (have hz2 := hbe2.size; have hB2 := hB1.trans (hbe2.mono hz1); have hmine := mine_sees hownA (by simp) HS.out.wf (by omega); clear hbe2 hB1))
    | (go_at_call 18; go_must (refine (get_any _ xs _ hmine).mono ?_); rintro e w' ⟨rfl, rfl⟩)
    | (go_at_call 20; go_must (refine (getint_any _ xs _ hmine).mono ?_); rintro e w' ⟨rfl, rfl⟩)
    | (go_at_call 22; have hq := hmine; clear hq; go_must (refine (all_any _ xs _ hmine (by omega)).mono ?_); rintro e w3 ⟨lst, rfl, hownL, hbe3⟩; go_must (have hz3 := hbe3.size; have hB3 := hB2.trans (hbe3.mono (by omega)); have hmine3 := hmine.below hbe3 (Nat.le_refl _); have hownA3 := own_below hownA hbe3 (Nat.le_refl _); clear hbe3 hB2 hmine))
    | (go_at_call 22; have hq := hmine3; clear hq; go_must (refine (all_any _ xs _ hmine3 (by omega)).mono ?_); rintro e w4 ⟨agn, rfl, hownG, hbe4⟩; go_must (have hz4 := hbe4.size; have hB4 := hB3.trans (hbe4.mono (by omega)); have hownA4 := own_below hownA3 hbe4 (Nat.le_refl _); have hownL4 := own_below hownL hbe4 (Nat.le_refl _); have hltL := own_block_lt hownL; have hltA := own_block_lt hownA; clear hbe4 hB3 hmine3 hownA3)))
  obtain ⟨L, HL⟩ : ∃ L, Hid (L = (allL xs).1.length) := ⟨_, rfl⟩
  obtain ⟨aL, cL, eL, hL1, hL2, _⟩ := Sees.own hownL HW.out
  rw [← HL.out] at eL hL1
  rw [← HL.out] at hownL4
  subst eL
  unfold maxLen at hL2
  have HLT : Hid (∀ k, (Value.slice aL L cL).ownBlock = some k → w2.heap.size ≤ k ∧ k < w3.heap.size) := hltL
  have HAT : Hid (w1.heap.size ≤ g ∧ g < w2.heap.size) := hltA g rfl
  have HG : Hid (w4.ownsRow w3.heap.size 31 1 agn (allL xs).1.length ((allL xs).1.map (Value.int .u64))) := hownG
  have HA4 : Hid (w4.ownsRow w1.heap.size 5 1 (.slice (some ⟨g, 0, none⟩) (xs.length + 3) cap) (xs.length + 3) ((xs ++ [71, 72, 73]).map (Value.int .u8))) := hownA4
  clear hownL hltL hltA hownA hownG hownA4
  go_loopw [11] (fun i wr => ∃ k : Nat, k ≤ L ∧ i = .int .i64 k ∧ (∃ zs, wr.ownsRow w2.heap.size 31 1 (.slice aL L cL) L zs) ∧ w4.grownBy wr (Value.slice aL L cL).ownBlock) (fun i _ => L - (intOf i).toNat)
  case atStart => exact ⟨0, by omega, rfl, ⟨_, hownL4⟩, grown_refl _ _⟩
  case round =>
    clear hownL4
    obtain ⟨k, hk, rfl, ⟨zs, hown⟩, hgr⟩ := hrel
    by_cases hlt : k < L
    · obtain ⟨g', cap', ev, hg0, hg1, _, _, hcl⟩ := own_open hown (by omega)
      obtain ⟨rfl, rfl⟩ : aL = some ⟨g', 0, none⟩ ∧ cL = cap' := by injection ev with e1 e2 e3; exact ⟨e1, e3⟩
      have hzl : zs.length = L := by have := hown.1; omega
      obtain ⟨z, hcell⟩ : ∃ z, wr.cell? ⟨g', k, none⟩ = some z := ⟨zs[k]'(by omega), hcl k _ (List.getElem?_eq_getElem (by omega))⟩
      have hfz := hown.frozenAt k
      have R := hown.stored k (.int .u64 11259375)
      have hgr' := grown_trans hgr (show wr.grownBy _ (Value.slice (some ⟨g', 0, none⟩) L cL).ownBlock from R.2)
      have R1 := R.1
      clear hown R hgr hcl ev
      go_wp2
      go_roundw
      case rel => exact ⟨k + 1, by omega, by go_num, ⟨_, R1⟩, hgr'⟩
      case measure => simp [intOf]; omega
    · have hBr : Below w.heap.size w wr := hB4.grown hgr (by omega) (fun k hk => by have := HLT.out k hk; omega)
      have hzr := hgr.size
      have hownG := own_apart HG.out hgr (fun k j hk hj => by have h1 := HG.out.lt k hk; have h2 := HLT.out j hj; omega)
      have hownA := own_apart HA4.out hgr (fun k j hk hj => by have h0 : g = k := Option.some.inj hk; have h1 := HAT.out; have h2 := HLT.out j hj; omega)
      have hseeG := Sees.own hownG HW.out
      clear hgr hown HG HA4 hB4 hownG
      go_wp2_with (first
        | (go_at_call 23; go_must (refine (refall_any _ xs _ (HS.out.below hBr (Nat.le_refl _)) (by omega)).mono ?_); rintro e w6 ⟨wnt, rfl, hownW, hbe6⟩; go_must (have hz6 := hbe6.size; have hB6 := hBr.trans (hbe6.mono (by omega)); have hseeW := Sees.own hownW HW.out; have hownA6 := own_below hownA hbe6 (Nat.le_refl _); have hseeG6 := hseeG.below hbe6 (Nat.le_refl _); clear hownW hbe6 hBr hownA hseeG))
        | (go_at_call 25; go_must (refine (still_any g cap _ xs _ (own_base hownA6 (Nat.zero_le _)) (HS.out.below hB6 (Nat.le_refl _)) (by omega)).mono ?_); rintro e w7 ⟨rfl, n7, rfl⟩)
        | (go_at_call 11; go_must (refine (numbers_any _ wnt _ _ _ (hseeG6.drewN n7) (hseeW.drewN n7)).mono ?_); rintro e w8 ⟨rfl, n8, rfl⟩; rw [eqB_true (rfl : (allL xs).1 = (allL xs).1)])
        | (go_at_call 10; have hq := hB6; clear hq; go_must (refine (put_any _ ns _ (HU.out.below (below_drewN hB6 (n7 + n8)) (Nat.le_refl _)) (by omega)).mono ?_); rintro e w9 ⟨vx, rfl, hownX, hbe9⟩; go_must (have hz9 := hbe9.size; have hB9 := (below_drewN hB6 (n7 + n8)).trans (hbe9.mono (by simp; omega)); clear hbe9 hB6 hseeG6 hseeW hownA6))
        | (go_at_call 10; have hq := hB9; clear hq; go_must (refine (put_any _ ns _ (HU.out.below hB9 (Nat.le_refl _)) (by omega)).mono ?_); rintro e wA ⟨vy, rfl, hownY, hbeA⟩; go_must (have hzA := hbeA.size; have hBA := hB9.trans (hbeA.mono (by simp at hz9; omega)); have hownX' := own_below hownX hbeA (Nat.le_refl _); have hltX := own_block_lt hownX; clear hbeA hB9)))
      obtain ⟨M, HM⟩ : ∃ M, Hid (M = (encs ns).length) := ⟨_, rfl⟩
      obtain ⟨aX, cX, eX, hX1, hX2, _⟩ := Sees.own hownX (wf_bytes hby)
      obtain ⟨aY, cY, eY, hY1, hY2, _⟩ := Sees.own hownY (wf_bytes hby)
      rw [← HM.out] at eX hX1 eY hY1 ln
      rw [← HM.out] at hownX'
      subst eX
      subst eY
      unfold maxLen at hX2 hY2
      obtain ⟨B0, HB0, hB0a, hB0b, HXT⟩ : ∃ B0, Hid (B0 = wA.heap.size) ∧ w.heap.size ≤ B0 ∧ B0 ≤ wA.heap.size ∧ Hid (∀ k, (Value.slice aX M cX).ownBlock = some k → w.heap.size ≤ k ∧ k < w9.heap.size) :=
        ⟨_, rfl, by simp at hz9; omega, Nat.le_refl _, fun k hk => by have := hltX k hk; simp at this; omega⟩
      have HY : Hid (wA.ownsRow w9.heap.size 5 1 (.slice aY M cY) (encs ns).length ((encs ns).map (Value.int .u8))) := hownY
      have HBA : Hid (Below w.heap.size w wA) := hBA
      clear hownX hownY hltX hBA
      go_loopw [16] (fun i wr => ∃ k : Nat, k ≤ M ∧ i = .int .i64 k ∧ (∃ zs, wr.ownsRow w.heap.size 5 1 (.slice aX M cX) M zs) ∧ wA.grownBy wr (Value.slice aX M cX).ownBlock) (fun i _ => M - (intOf i).toNat)
      case atStart => exact ⟨0, by omega, rfl, ⟨_, own_base hownX' (by simp at hz9 ⊢; omega)⟩, grown_refl _ _⟩
      case round =>
        clear hownX'
        obtain ⟨k, hk, rfl, ⟨zs, hown⟩, hgr⟩ := hrel
        by_cases hlt : k < M
        · obtain ⟨g', cap', ev, hg0, hg1, _, _, hcl⟩ := own_open hown (by omega)
          obtain ⟨rfl, rfl⟩ : aX = some ⟨g', 0, none⟩ ∧ cX = cap' := by injection ev with e1 e2 e3; exact ⟨e1, e3⟩
          have hzl : zs.length = M := by have := hown.1; omega
          obtain ⟨z, hcell⟩ : ∃ z, wr.cell? ⟨g', k, none⟩ = some z := ⟨zs[k]'(by omega), hcl k _ (List.getElem?_eq_getElem (by omega))⟩
          have hfz := hown.frozenAt k
          have R := hown.stored k (.int .u8 9)
          have hgr' := grown_trans hgr (show wr.grownBy _ (Value.slice (some ⟨g', 0, none⟩) M cX).ownBlock from R.2)
          have R1 := R.1
          clear hown R hgr hcl ev
          go_wp2
          go_roundw
          case rel => exact ⟨k + 1, by omega, by go_num, ⟨_, R1⟩, hgr'⟩
          case measure => simp [intOf]; omega
        · have hBr : Below w.heap.size w wr := HBA.out.grown hgr (by omega) (fun k hk => by have := HXT.out k hk; omega)
          have hzr := hgr.size
          have hownY := own_apart HY.out hgr (fun k j hk hj => by have h1 := HY.out.lt k hk; have h2 := HXT.out j hj; omega)
          clear HBA
          go_wp2_with (first
            | (at_builtin; have hq := hgr; clear hq; go_must (refine wpList_append_own _ rfl (.tmp 75) (.tmp 76) 25 rfl w.heap.size 5 i5 (.int .u8 0) 1 1 Try.underlying25 hi5 hz50 hz51 hz52 rfl (by decide) _ _ _ rfl (hown.alloc _) ⟨_, 0, none⟩ 3 3 [.int .u8 1, .int .u8 2, .int .u8 3] rfl rfl (three_new _ _ _ _ _) (three_one _ _ _) (by unfold maxLen; omega) (by omega) (by simp; omega) ?_); intro vz wB hownZ hgZ _; go_must (have hBB : Below w.heap.size w wB := (hBr.alloc (by omega) _).grown hgZ (by simp; omega) (fun k hk => by have := HXT.out k hk; omega); have hownYB := own_apart (hownY.alloc _) hgZ (fun k j hk hj => by have h1 := HY.out.lt k hk; have h2 := HXT.out j hj; omega); have hzB := hgZ.size; obtain ⟨gz, cz, rfl, _⟩ := own_open hownZ (by omega); clear hgr hgZ hown hownY hBr hownZ))
            | (go_at_call 13; go_must (refine (refput_any _ ns _ (HU.out.below hBB (Nat.le_refl _)) (by omega)).mono ?_); rintro e wC ⟨vC, rfl, hownC, hbeC⟩; go_must (have hBC := hBB.trans (hbeC.mono (by simp at hzB; omega)); have hseeY := Sees.own (own_below hownYB hbeC (Nat.le_refl _)) (wf_bytes hby); have hseeC := Sees.own hownC (wf_bytes hby); clear hownC hbeC hBB hownYB))
            | (go_at_call 12; go_must (refine (same_any _ vC (encs ns) (encs ns) _ hseeY hseeC).mono ?_); rintro e wD ⟨rfl, nD, rfl⟩; rw [eqB_true (rfl : encs ns = encs ns)]; have hBD := below_drewN hBC nD))
          go_ret
          exact ⟨by first | rfl | (simp; done), hBD⟩
end Go.Proofs.Ytkfeomgfpokeeaa
