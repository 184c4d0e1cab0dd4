/-
  The law LinesJoined, walked: it answers true. Conditions: the listed variables read as they are laid; texts of a million bytes at most.
-/
import Derived.Test.YtmfcilgocffggaaDoorW3Back
namespace Go.Proofs.YtmfcilgocffggaaDoor
open Go.RowKit
set_option linter.unusedVariables false
set_option linter.unusedSimpArgs false
set_option maxRecDepth 100000

/-- 'append(out, src...)' behind a guard that says yes. -/
theorem wpList_append_seesI_if {P : Program} {w : World} {ops : Array Oper} {rest : List Oper} {o : Oper} {a : Act} {Q : Exit → Act → World → Prop} (hgd : Region.wanted o (yielded ops a.tmps) = true) (s x : Operand) (t : TypeId)
    (ho : o.op = .call { callee := .builtin .append, args := #[s, x], argTypes := #[t, t] })
    (base : Nat) (e : TypeId) (i : TypeInfo) (z : Value) (ht : P.underlying t = some (.slice e)) (hi : P.info? e = some i) (hz : i.zero = some z)
    (hsize : i.size = 5) (hby : i.bytes = 40) (hzs : z.cells.size = 5)
    (v : Value) (xs : List In) (hs : a.eval s = v) (hown : w.ownsRow base e 5 v xs.length (flat xs))
    (src : Value) (ys : List In) (hx : a.eval x = src) (hsee : SeesI w src ys)
    (h63 : xs.length + ys.length ≤ maxLen) (hbytes : (xs.length + ys.length) * 40 ≤ 140737488355328) (hbase : base ≤ w.heap.size)
    (h : ∀ v' w', w'.ownsRow base e 5 v' (xs ++ ys).length (flat (xs ++ ys)) → w.grownBy w' v.ownBlock → wpList P ops Q rest (a.put o.dst v') w') : wpList P ops Q (o :: rest) a w := by
  have hf : ∀ l m : List In, flat l ++ flat m = flat (l ++ m) := fun l m => by simp [flat]
  refine wpList_step fun K hK => ?_
  rw [if_pos hgd]
  obtain ⟨ad, cap, rfl, hl, hm, hn0, hc⟩ := hsee
  by_cases hne : ys = []
  · subst hne
    cases ad with
    | none =>
      obtain rfl : cap = 0 := hn0 rfl
      have hrun := run_append_owned_none (P := P) (w := w) base t o.type e i 5 ht hi v _ _ hown
      have hx' : a.eval x = .slice none 0 0 := hx
      unfold Oper.wp
      simp [execOp, ho, resolve, invoke, builtin, hs, hx', hrun, Result.andThen]
      exact hK _ _ (h v w (by simpa using hown) ⟨rfl, rfl, rfl, Nat.le_refl _, fun _ _ _ => rfl⟩)
    | some ad =>
      refine wp_append_own w s x t ho base e i z 5 40 ht hi hz hsize hby hzs (by decide) v _ _ hs hown ad 0 cap [] hx rfl (by simp) (by simp) (by simpa using h63) (by simpa using hbytes) hbase ?_
      intro v' w' h1 h2 _
      exact hK _ _ (h v' w' (by simpa using h1) h2)
  · obtain ⟨b, off, rfl, hlt, hat⟩ := hc hne
    refine wp_append_own w s x t ho base e i z 5 40 ht hi hz hsize hby hzs (by decide) v _ _ hs hown ⟨b, off, none⟩ ys.length cap (flat ys) hx (flat_len ys) (flat_cells hat) (flat_one ys) h63 hbytes hbase ?_
    intro v' w' h1 h2 _
    exact hK _ _ (h v' w' (by rw [hf, ← List.length_append] at h1; exact h1) h2)
theorem parseF_bd : ∀ (r acc : List UInt8) (is : List In), (parseF acc is r).2.1 ≤ (is.length : Int) + r.length + 1
  | [], acc, is => by unfold parseF; split <;> simp <;> omega
  | c :: r, acc, is => by
    unfold parseF
    split
    · split
      · simp; omega
      · rename_i i _
        have := parseF_bd r [] (is ++ [i])
        refine Int.le_trans this ?_
        simp; omega
    · have := parseF_bd r (acc ++ [c]) is
      simp at this ⊢; omega
theorem parse_bd (s : List UInt8) : (parseL s).2.1 ≤ (s.length : Int) + 1 := by have := parseF_bd s [] []; simpa [parseL] using this

set_option maxHeartbeats 3200000 in
theorem joined_e (a b : List UInt8) (w : World) (h : Laid w) (ha : a.length ≤ 1048576) (hb : b.length ≤ 1048576) (n : Int) (hs : parseL a = ([], n, 20)) :
    Calls Tryd.prog 6 #[.string (str a), .string (str b)] w fun e w' => e = .returned (.bool true) ∧ Below w.heap.size w w' := by
  have HLd : Hid (Laid w) := h
  have HJ : Hid (parseL a = ([], n, 20)) := hs
  have HA : Hid (a.length ≤ 1048576) := ha
  have HB : Hid (b.length ≤ 1048576) := hb
  clear hs h
  go_enter Tryd.func6, Tryd.ntmps6
  go_wp2_with (first
    | (go_at_call 9; go_must (refine (lawake _ HLd.out).mono ?_); rintro e w1 ⟨rfl, hB1⟩)
    | (go_at_call 13; have hq := hB1; clear hq; go_must (refine (lparse_any a _ (laid_keeps _ _ HLd.out hB1) (Nat.le_trans HA.out (by decide))).mono ?_); rintro e w2 ⟨v2, rfl, hown2, hb2⟩; go_must (rw [HJ.out]; have hB2 : Below w.heap.size w w2 := hB1.trans (hb2.mono hB1.size); clear hb2 hB1 hown2))
    | (go_at_call 13; have hq := hB2; clear hq; go_must (refine (lparse_any b _ (laid_keeps _ _ HLd.out hB2) (Nat.le_trans HB.out (by decide))).mono ?_); rintro e w3 ⟨v3, rfl, hown3, hb3⟩; go_must (have hB3 : Below w.heap.size w w3 := hB2.trans (hb3.mono hB2.size); clear hb3 hB2 hown3)))
  go_ret
  exact ⟨rfl, hB3⟩

set_option maxHeartbeats 3200000 in
theorem joined_oe (a b : List UInt8) (w : World) (h : Laid w) (ha : a.length ≤ 1048576) (hb : b.length ≤ 1048576) (xs : List In) (hx : parseL a = (xs, 0, 0)) (hxl : xs.length ≤ 1048576) (n : Int) (hs : parseL b = ([], n, 20)) (hn : 1 ≤ n) :
    Calls Tryd.prog 6 #[.string (str a), .string (str b)] w fun e w' => e = .returned (.bool true) ∧ Below w.heap.size w w' := by
  have HLd : Hid (Laid w) := h
  have HX : Hid (parseL a = (xs, 0, 0)) := hx
  have HJ : Hid (parseL b = ([], n, 20)) := hs
  have hnb : n ≤ 1048577 := by have := parse_bd b; rw [hs] at this; simp only at this; omega
  have HAB : Hid (parseL (a ++ b) = ([], (xs.length : Int) + n, 20)) := by show _ = _; rw [parse_join hx, hs]; simp
  have HA : Hid (a.length ≤ 1048576) := ha
  have HB : Hid (b.length ≤ 1048576) := hb
  have HABL : Hid ((a ++ b).length ≤ 1073741824) := by show _ ≤ _; rw [List.length_append]; omega
  have hadd : ¬ 9223372036854775807 < a.length + b.length := by omega
  have happ : str a ++ str b = str (a ++ b) := str_app a b
  clear hs hx h
  go_enter Tryd.func6, Tryd.ntmps6
  go_wp2_with (first
    | (go_at_call 9; go_must (refine (lawake _ HLd.out).mono ?_); rintro e w1 ⟨rfl, hB1⟩)
    | (go_at_call 13; have hq := hB1; clear hq; go_must (refine (lparse_any a _ (laid_keeps _ _ HLd.out hB1) (Nat.le_trans HA.out (by decide))).mono ?_); rintro e w2 ⟨v2, rfl, hown2, hb2⟩; go_must (rw [HX.out] at hown2 ⊢; have hB2 : Below w.heap.size w w2 := hB1.trans (hb2.mono hB1.size); obtain ⟨a2, c2, rfl⟩ := own_shape hown2; clear hb2 hB1 hown2))
    | (go_at_call 13; have hq := hB2; clear hq; go_must (refine (lparse_any b _ (laid_keeps _ _ HLd.out hB2) (Nat.le_trans HB.out (by decide))).mono ?_); rintro e w3 ⟨v3, rfl, hown3, hb3⟩; go_must (rw [HJ.out] at hown3 ⊢; have hB3 : Below w.heap.size w w3 := hB2.trans (hb3.mono hB2.size); clear hb3 hB2 hown3))
    | (go_at_call 13; have hq := hB3; clear hq; go_must (refine (lparse_any (a ++ b) _ (laid_keeps _ _ HLd.out hB3) HABL.out).mono ?_); rintro e w4 ⟨v4, rfl, hown4, hb4⟩; go_must (rw [HAB.out] at hown4 ⊢; have hB4 : Below w.heap.size w w4 := hB3.trans (hb4.mono hB3.size); obtain ⟨a4, c4, rfl⟩ := own_shape hown4; clear hb4 hB3 hown4)))
  go_ret
  exact ⟨retb (by simp; try omega), hB4⟩

set_option maxHeartbeats 3200000 in
theorem joined_oo (a b : List UInt8) (w : World) (h : Laid w) (ha : a.length ≤ 1048576) (hb : b.length ≤ 1048576) (xs ys : List In) (hx : parseL a = (xs, 0, 0)) (hxl : xs.length ≤ 1048576) (hy : parseL b = (ys, 0, 0)) (hyl : ys.length ≤ 1048576) :
    Calls Tryd.prog 6 #[.string (str a), .string (str b)] w fun e w' => e = .returned (.bool true) ∧ Below w.heap.size w w' := by
  obtain ⟨i0, hi, hz0, hz1, hz2⟩ := info_parts Tryd.infoInst3
  have HLd : Hid (Laid w) := h
  have HX : Hid (parseL a = (xs, 0, 0)) := hx
  have HJ : Hid (parseL b = (ys, 0, 0)) := hy
  have HAB : Hid (parseL (a ++ b) = (xs ++ ys, 0, 0)) := by show _ = _; rw [parse_join hx, hy]; simp
  have HA : Hid (a.length ≤ 1048576) := ha
  have HB : Hid (b.length ≤ 1048576) := hb
  have HABL : Hid ((a ++ b).length ≤ 1073741824) := by show _ ≤ _; rw [List.length_append]; omega
  have hadd : ¬ 9223372036854775807 < a.length + b.length := by omega
  have happ : str a ++ str b = str (a ++ b) := str_app a b
  clear hy hx h
  go_enter Tryd.func6, Tryd.ntmps6
  go_wp2_with (first
    | (go_at_call 9; go_must (refine (lawake _ HLd.out).mono ?_); rintro e w1 ⟨rfl, hB1⟩)
    | (go_at_call 13; have hq := hB1; clear hq; go_must (refine (lparse_any a _ (laid_keeps _ _ HLd.out hB1) (Nat.le_trans HA.out (by decide))).mono ?_); rintro e w2 ⟨v2, rfl, hown2, hb2⟩; go_must (rw [HX.out] at hown2 ⊢; have hB2 : Below w.heap.size w w2 := hB1.trans (hb2.mono hB1.size); have HS2 : Hid (SeesI w2 v2 xs) := own_seesI hown2; clear hb2 hB1 hown2))
    | (go_at_call 13; have hq := hB2; clear hq; go_must (refine (lparse_any b _ (laid_keeps _ _ HLd.out hB2) (Nat.le_trans HB.out (by decide))).mono ?_); rintro e w3 ⟨v3, rfl, hown3, hb3⟩; go_must (rw [HJ.out] at hown3 ⊢; have hB3 : Below w.heap.size w w3 := hB2.trans (hb3.mono hB2.size); have HS2' : Hid (SeesI w3 v2 xs) := HS2.out.below hb3; have HS3 : Hid (SeesI w3 v3 ys) := own_seesI hown3; clear hb3 hB2 hown3 HS2))
    | (go_at_call 13; have hq := hB3; clear hq; go_must (refine (lparse_any (a ++ b) _ (laid_keeps _ _ HLd.out hB3) HABL.out).mono ?_); rintro e w4 ⟨v4, rfl, hown4, hb4⟩; go_must (rw [HAB.out] at hown4 ⊢; have hB4 : Below w.heap.size w w4 := hB3.trans (hb4.mono hB3.size); have HS24 : Hid (SeesI w4 v2 xs) := HS2'.out.below hb4; have HS34 : Hid (SeesI w4 v3 ys) := HS3.out.below hb4; have HS4 : Hid (SeesI w4 v4 (xs ++ ys)) := own_seesI hown4; have hB4z := hB4.size; clear hb4 hB3 hown4 HS2' HS3))
    | (at_builtin; have hq := HS24; clear hq; go_must (refine wpList_append_seesI_if rfl (.tmp 64) (.tmp 65) 22 rfl w4.heap.size 32 i0 (instV 0 0 0 0 0) Tryd.underlying22 hi hz0 hz1 hz2 rfl _ [] rfl (own_empty w4 32) _ xs rfl (HS24.out.below ((Below.refl _ _).alloc (Nat.le_refl _) _)) (by unfold maxLen; simp; omega) (by simp; omega) (by simp) ?_); intro v6 w6 hown6 hg6; go_must (have hb6 : Below w4.heap.size w4 w6 := ((Below.refl w4.heap.size w4).alloc (Nat.le_refl _) _).grown hg6 (by simp) (fun j hj => by (have hj' : w4.heap.size = j := Option.some.inj hj); omega); have hB6 := hB4.trans (hb6.mono hB4.size); have HS36 : Hid (SeesI w6 v3 ys) := HS34.out.below hb6; have hz6 := hb6.size; rw [List.nil_append] at hown6; clear hg6 hB4 HS24 HS34))
    | (at_builtin; have hq := hown6; clear hq; go_must (refine wpList_append_seesI_if rfl (.tmp 66) (.tmp 67) 22 rfl w4.heap.size 32 i0 (instV 0 0 0 0 0) Tryd.underlying22 hi hz0 hz1 hz2 rfl _ xs rfl hown6 _ ys rfl HS36.out (by unfold maxLen; omega) (by omega) hz6 ?_); intro v7 w7 hown7 hg7; go_must (have hb7 : Below w4.heap.size w6 w7 := (Below.refl _ _).grown hg7 hz6 (fun j hj => (hown6.lt j hj).1); have HS47 : Hid (SeesI w7 v4 (xs ++ ys)) := HS4.out.below (hb6.trans hb7); have hB7 : Below w.heap.size w w7 := hB6.trans (hb7.mono hB4z); have HS7 : Hid (SeesI w7 v7 (xs ++ ys)) := own_seesI hown7; clear hg7 hb7 hb6 hB6 hown6 hown7 HS36 HS4))
    | (go_at_call 12; have hq := HS7; clear hq; go_must (refine (alike_any v4 v7 (xs ++ ys) (xs ++ ys) _ HS47.out HS7.out).mono ?_); rintro e w8 ⟨rfl, n8, rfl⟩; rw [sameI_true rfl]))
  go_ret
  exact ⟨rfl, below_drewN hB7 n8⟩
theorem joined_walk (s t : ByteArray) (w : World) (hs : s.size ≤ 1048576) (ht : t.size ≤ 1048576) (h : Laid w) :
    Calls Tryd.prog 6 #[.string s, .string t] w fun e w' => e = .returned (.bool true) ∧ Below w.heap.size w w' := by
  obtain ⟨a, rfl⟩ : ∃ l, s = str l := ⟨s.data.toList, rfl⟩
  obtain ⟨b, rfl⟩ : ∃ l, t = str l := ⟨t.data.toList, rfl⟩
  have ha : a.length ≤ 1048576 := hs
  have hb : b.length ≤ 1048576 := ht
  rcases parse_cases a with ⟨xs, h1, h2, _, _⟩ | ⟨n, h1, _⟩
  · have hxl : xs.length ≤ 1048576 := Nat.le_trans (printB_ge xs) (h2 ▸ ha)
    rcases parse_cases b with ⟨ys, g1, g2, _, _⟩ | ⟨n, g1, g2⟩
    · exact joined_oo a b w h ha hb xs ys h1 hxl g1 (Nat.le_trans (printB_ge ys) (g2 ▸ hb))
    · exact joined_oe a b w h ha hb xs h1 hxl n g1 g2
  · exact joined_e a b w h ha hb n h1
end Go.Proofs.YtmfcilgocffggaaDoor
