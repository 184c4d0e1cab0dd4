
/-
  The landed LRU of layer 14: New, Order. Condition: it lies where the pointer says, its rows are the call's own.
-/
import Derived.Test.YtpbfgebecgikjaaB13Alg
import Derived.Test.YtpbfgebecgikjaaL14LA
namespace Go.Proofs.Ytpbfgebecgikjaa
open Go.RowKit
set_option linter.unusedVariables false
set_option linter.unusedSimpArgs false
set_option maxRecDepth 100000

/-- Keys that were not there stand last. -/
def restO : List Int → List Int → List Int
  | o, [] => o
  | o, k :: ks => restO (if k ∈ o then o else o ++ [k]) ks
def heldO (S : List Pp) (R : List Int) : List Int := R.filter (fun k => hitS k S)
def ordO (S : List Pp) (R : List Int) : List Int := restO (heldO S R) (S.map Pp.k)
theorem restO_app (o ks : List Int) (k : Int) : restO o (ks ++ [k]) = if k ∈ restO o ks then restO o ks else restO o ks ++ [k] := by
  induction ks generalizing o with
  | nil => rfl
  | cons x l ih => exact ih _
theorem restO_eq (ks : List Int) : ∀ (o : List Int), ks.Nodup → restO o ks = o ++ ks.filter (fun k => decide (k ∉ o)) := by
  induction ks with
  | nil => intro o _; simp [restO]
  | cons k l ih =>
    intro o hn
    obtain ⟨h1, h2⟩ := List.nodup_cons.1 hn
    unfold restO
    rw [ih _ h2]
    by_cases hk : k ∈ o
    · rw [if_pos hk, List.filter_cons_of_neg (by simpa using hk)]
    · rw [if_neg hk, List.filter_cons_of_pos (by simpa using hk), List.append_assoc]
      congr 1
      show k :: _ = k :: _
      congr 1
      apply List.filter_congr
      intro x hx
      have : x ≠ k := fun e => h1 (by rw [← e]; exact hx)
      simp [this]
theorem restO_len (ks : List Int) : ∀ (o : List Int), (restO o ks).length ≤ o.length + ks.length := by
  induction ks with
  | nil => intro o; simp [restO]
  | cons k l ih =>
    intro o
    unfold restO
    by_cases hk : k ∈ o
    · rw [if_pos hk]
      have := ih o
      rw [List.length_cons]
      omega
    · rw [if_neg hk]
      have := ih (o ++ [k])
      rw [List.length_append] at this
      simp only [List.length_cons, List.length_nil] at this ⊢
      omega
section
variable {cap : Nat} {S : List Pp} {R : List Int}
theorem heldO_len : (heldO S R).length ≤ R.length := List.length_filter_le _ _
theorem ordO_len : (ordO S R).length ≤ R.length + S.length := by
  have h1 := restO_len (S.map Pp.k) (heldO S R)
  have h2 := heldO_len (S := S) (R := R)
  rw [List.length_map] at h1
  unfold ordO
  omega
theorem heldO_more {j : Nat} (hj : j < R.length) : heldO S (R.take (j + 1)) = heldO S (R.take j) ++ (if hitS (R.getD j 0) S = true then [R.getD j 0] else []) := by
  unfold heldO
  have h1 : R.take (j + 1) = R.take j ++ [R.getD j 0] := by
    rw [List.take_add_one, List.getD_eq_getElem?_getD, List.getElem?_eq_getElem hj]
    rfl
  rw [h1, List.filter_append]
  congr 1
  by_cases e : hitS (R.getD j 0) S = true
  · rw [if_pos e, List.filter_cons_of_pos (p := fun k => hitS k S) e]; rfl
  · rw [if_neg e, List.filter_cons_of_neg (p := fun k => hitS k S) e]; rfl
theorem restO_more (o : List Int) {j : Nat} (hj : j < S.length) : restO o ((S.map Pp.k).take (j + 1)) = if (S.getD j Pp.nil).k ∈ restO o ((S.map Pp.k).take j) then restO o ((S.map Pp.k).take j) else restO o ((S.map Pp.k).take j) ++ [(S.getD j Pp.nil).k] := by
  have h1 : (S.map Pp.k).take (j + 1) = (S.map Pp.k).take j ++ [(S.getD j Pp.nil).k] := by
    rw [List.take_add_one, List.getElem?_map, List.getD_eq_getElem?_getD, List.getElem?_eq_getElem hj]
    rfl
  rw [h1, restO_app]
end
/-- The landed LRU, at a block. -/
structure Ll (w : World) (B l b cap : Nat) (v vr : Value) (S : List Pp) (R : List Int) : Prop where
  hp : Hp w l 116 [.pointer (some ⟨b, 0, none⟩), vr]
  bk : Lb w B b cap v S
  rc : w.ownsRow B 41 1 vr R.length (flatG uC R)
def footL (l b : Nat) (v vr : Value) (k : Nat) : Prop := k = l ∨ bkS b v k ∨ vr.ownBlock = some k
section
variable {w : World} {B l b cap : Nat} {v vr : Value} {S : List Pp} {R : List Int}
theorem Ll.below {w' : World} (h : Ll w B l b cap v vr S R) (hb : Below w.heap.size w w') : Ll w' B l b cap v vr S R := ⟨h.hp.below hb h.hp.lt, h.bk.below hb, own_below h.rc hb (Nat.le_refl _)⟩
theorem Ll.chg {w' : World} {G : Nat → Prop} (h : Ll w B l b cap v vr S R) (hc : Chg w w' G) (hn : ∀ k, footL l b v vr k → ¬ G k) : Ll w' B l b cap v vr S R :=
  ⟨h.hp.chg hc (hn l (.inl rfl)), h.bk.chg hc (hn b (.inr (.inl (.inl rfl)))) (fun k hk => hn k (.inr (.inl (.inr hk)))), own_chg h.rc hc (fun k hk => hn k (.inr (.inr hk)))⟩
theorem Ll.foot (h : Ll w B l b cap v vr S R) {k : Nat} (hk : footL l b v vr k) : k < w.heap.size := by
  rcases hk with e | (e | e) | e
  · rw [e]; exact h.hp.lt
  · rw [e]; exact h.bk.hp.lt
  · exact (h.bk.row.lt k e).2
  · exact (h.rc.lt k e).2
/-- Behind its book's operation. -/
theorem Ll.book {w' : World} {S' : List Pp} (h : Ll w B l b cap v vr S R) (hn : LbNext w B b cap v S' w') : ∃ v', Ll w' B l b cap v' vr S' R ∧ Chg w w' (bkS b v) ∧ RowNew w v v' := by
  obtain ⟨v', q1, q2, q3⟩ := hn
  refine ⟨v', ⟨h.hp.chg q2 (fun e => ?_), q1, own_chg h.rc q2 (fun k hk e => ?_)⟩, q2, q3⟩
  · rcases e with e | e
    · exact hp_type h.hp h.bk.hp (by decide) e
    · exact own_type10 h.bk.row h.hp (by decide) e
  · rcases e with e | e
    · subst e; exact own_type10 h.rc h.bk.hp (by decide) hk
    · exact own_twoG h.bk.row h.rc (by decide) k e hk
theorem llnew_ok (n : Nat) (h1 : 1 ≤ n) (h2 : n ≤ 16) (w : World) : Calls Try.prog 39 #[.int .i64 n] w fun e w' => ∃ l b, e = .returned (.tuple #[.pointer (some ⟨l, 0, none⟩), .int .i64 0]) ∧ w.heap.size ≤ l ∧ w.heap.size ≤ b ∧ Ll w' w.heap.size l b n (.slice none 0 0) (.slice none 0 0) [] [] ∧ Below w.heap.size w w' := by
  go_enter Try.func39, Try.ntmps39
  go_wp2_with (go_at_call 38; go_must (refine (lnew_ok n h1 h2 w).mono ?_); rintro e w1 ⟨rfl, hp1, hb1, hz1⟩; go_must (have HP1 := keepG hp1; have HZ1 := keepG hz1; clear hp1 hz1))
  go_ret2
  have hz := HZ1.out
  refine ⟨w1.heap.size, w.heap.size, rfl, by omega, Nat.le_refl _, ⟨Hp.new w1 _ _, ⟨HP1.out.alloc _, World.ownsRow_nil _ _ _ _⟩, World.ownsRow_nil _ _ _ _⟩, hb1.alloc (by omega) _⟩
theorem llnew_no (n : Int) (h : n < 1 ∨ 16 < n) (w : World) : Calls Try.prog 39 #[.int .i64 n] w fun e w' => e = .returned (.tuple #[.pointer none, .int .i64 2]) ∧ w = w' := by
  go_enter Try.func39, Try.ntmps39
  go_wp2_with (go_at_call 38; go_must (refine (lnew_no n h w).mono ?_); rintro e w1 ⟨rfl, rfl⟩)
  go_ret2
  exact ⟨rfl, rfl⟩
set_option maxHeartbeats 8000000 in
theorem llorder_any (h : Ll w B l b cap v vr S R) (hl : S.length ≤ 1000) (hR : R.length ≤ 1000) {O : List Int} (HO : Hid (ordO S R = O)) :
    Calls Try.prog 74 #[.pointer (some ⟨l, 0, none⟩)] w fun e w' => ∃ u, e = .returned u ∧ w'.ownsRow w.heap.size 41 1 u O.length (flatG uC O) ∧ Below w.heap.size w w' := by
  obtain ⟨i0, hi0, hz0, hzs, hzb⟩ := info_parts infoU14
  have HH := keepG h
  have HSS : Hid (∀ wr, Below w.heap.size w wr → SeesG uC 1 0 wr vr R) := fun wr hb => (own_seesG uC_len 0 h.rc).below hb (Nat.le_refl _)
  have c1 := h.hp.cell (j := 1) rfl
  obtain ⟨a1, k1, rfl⟩ := own_shape h.rc
  clear h
  go_enter Try.func74, Try.ntmps74
  go_wp2
  go_loopw [3, 13] (fun av i wr => ∃ j : Nat, j ≤ R.length ∧ i = .int .i64 j ∧ Hid (wr.ownsRow w.heap.size 41 1 av (heldO S (R.take j)).length (flatG uC (heldO S (R.take j)))) ∧ Below w.heap.size w wr) (fun _ i _ => R.length - (intOf i).toNat)
  case atStart => exact ⟨0, by omega, rfl, World.ownsRow_nil _ _ _ _, Below.refl _ _⟩
  case round =>
    obtain ⟨j, hj, rfl, HA, hbw⟩ := hrel
    have hzw := hbw.size
    have HR := keepG (HH.out.below hbw)
    have l0 := HR.out.hp.cell (j := 0) rfl
    obtain ⟨xa, xc, ev⟩ := own_shape HA.out
    subst ev
    by_cases hlt : j < R.length
    · have hltI : (j : Int) < R.length := by omega
      obtain ⟨a', c', ev, _, _, _, hcell⟩ := HSS.out _ hbw
      simp only [Value.slice.injEq, true_and] at ev
      obtain ⟨rfl, rfl⟩ := ev
      obtain ⟨g, off, rfl, hg, hat⟩ := hcell (fun e => by rw [e] at hlt; simp at hlt)
      have d0 := hat j hlt 0 (by omega)
      simp only [List.getElem?_cons_zero, Nat.add_zero, Nat.mul_one] at d0
      have HM := keepG (heldO_more (S := S) hlt)
      clear hat hcell
      obtain ⟨x, HX⟩ : ∃ x, Hid (R.getD j 0 = x) := ⟨_, rfl⟩
      rw [HX.out] at d0 HM
      obtain ⟨M, HMM⟩ : ∃ M, Hid (heldO S (R.take j) = M) := ⟨_, rfl⟩
      have hMl : M.length ≤ 1000 := by
        rw [← HMM.out]
        have h1 := heldO_len (S := S) (R := R.take j)
        have h2 := List.length_take_le j R
        omega
      rw [HMM.out] at HA HM ⊢
      obtain ⟨fo, HF⟩ : ∃ fo, Hid (hitS x S = fo) := ⟨_, rfl⟩
      rw [HF.out] at HM
      cases fo with
      | false =>
        rw [if_neg (by decide), List.append_nil] at HM
        go_wp2_with (first | (go_at_call 59; go_must (refine (lhas_any x 0 HR.out.bk hl HF).mono ?_); rintro e w1 ⟨rfl, hb1⟩; go_must (have hbw1 : Below w.heap.size w w1 := hbw.trans (hb1.mono hzw); have HA1 := keepG (own_below HA.out hb1 (Nat.le_refl _)))) | (rw [run_fieldR1]))
        first
          | (go_roundw
             case rel => exact ⟨j + 1, by omega, by go_num, by rw [HM.out]; exact HA1.out, hbw1⟩
             case measure => simp [intOf]; omega)
          | exact ⟨⟨j + 1, by omega, by go_num, by rw [HM.out]; exact HA1.out, hbw1⟩, by simp [intOf]; omega⟩
      | true =>
        rw [if_pos rfl] at HM
        go_wp2_with (first | (go_at_call 59; go_must (refine (lhas_any x 0 HR.out.bk hl HF).mono ?_); rintro e w1 ⟨rfl, hb1⟩; go_must (have hbw1 : Below w.heap.size w w1 := hbw.trans (hb1.mono hzw); have hzw1 := hbw1.size; have HA1 := keepG (own_below HA.out hb1 (Nat.le_refl _)))) | (rw [run_fieldR1]) | (at_builtin; go_must (refine wpList_append_own_at _ rfl (.tmp 24) (.tmp 26) 94 rfl w.heap.size 41 i0 _ 1 8 Try.underlying94 hi0 hz0 hzs hzb rfl (by decide) (.slice xa M.length xc) M.length (flatG uC M) rfl (HA1.out.alloc _) ⟨_, 0, none⟩ 1 1 (uC x) rfl rfl (cells_new _ (uC x) _ _ rfl) (uC_one x) (by unfold maxLen; omega) (by omega) (by simp; omega) ?_); intro v2 w2 hown hgr _ hnew; go_must (have HOW : Hid _ := own_moreG hown; have hbw2 : Below w.heap.size w w2 := hbw1.trans ((chg_append hgr).below (fun k e => (HA1.out.lt k e).1) hzw1); clear hown hgr hnew; obtain ⟨va1, vc1, rfl⟩ := own_shape HOW.out)))
        have eM : (M ++ [x]).length = M.length + 1 := by simp
        first
          | (go_roundw
             case rel => exact ⟨j + 1, by omega, by go_num, by have hh := HOW.out; rw [HM.out]; show World.ownsRow _ _ _ _ _ _ _; rw [eM] at hh ⊢; exact hh, hbw2⟩
             case measure => simp [intOf]; omega)
          | exact ⟨⟨j + 1, by omega, by go_num, by have hh := HOW.out; rw [HM.out]; show World.ownsRow _ _ _ _ _ _ _; rw [eM] at hh ⊢; exact hh, hbw2⟩, by simp [intOf]; omega⟩
    · have hltI : ¬ (j : Int) < R.length := by omega
      have hT : R.take j = R := List.take_of_length_le (by omega)
      obtain ⟨M, HMM⟩ : ∃ M, Hid (heldO S (R.take j) = M) := ⟨_, rfl⟩
      rw [HMM.out] at HA ⊢
      rw [hT] at HMM
      have hMl : M.length ≤ 1000 := by
        rw [← HMM.out]
        have h1 := heldO_len (S := S) (R := R)
        omega
      have HO2 : Hid (restO M (S.map Pp.k) = O) := by
        show _ = _
        rw [← HO.out, ← HMM.out]
        rfl
      clear hT
      rename_i wr _
      go_wp2_with (go_at_call 61; go_must (refine (lpairs_any HR.out.bk hl).mono ?_); rintro e w1 ⟨up, rfl, ho1, hb1⟩; go_must (have hbw1 : Below w.heap.size w w1 := hbw.trans (hb1.mono hzw); have HP1 := keepG (own_lowG ho1 hzw); have HA1 := keepG (own_below HA.out hb1 (Nat.le_refl _)); obtain ⟨pa, pc, rfl⟩ := own_shape ho1; clear ho1))
      go_loopw [3, 35] (fun av i wr => ∃ j : Nat, j ≤ S.length ∧ i = .int .i64 j ∧ Hid (wr.ownsRow w.heap.size 41 1 av (restO M ((S.map Pp.k).take j)).length (flatG uC (restO M ((S.map Pp.k).take j)))) ∧ Hid (wr.ownsRow w.heap.size 80 2 (.slice pa S.length pc) S.length (flatG ppC S)) ∧ Below w.heap.size w wr) (fun _ i _ => S.length - (intOf i).toNat)
      case atStart => exact ⟨0, by omega, rfl, HA1.out, HP1.out, hbw1⟩
      case round =>
        obtain ⟨j2, hj2, rfl, HA2, HP2, hbw2⟩ := hrel
        have hzw2 := hbw2.size
        obtain ⟨ya, yc, ev⟩ := own_shape HA2.out
        subst ev
        by_cases hlt2 : j2 < S.length
        · have hlt2I : (j2 : Int) < S.length := by omega
          obtain ⟨g2, c2, ev, _, hg2, _, _, hat2⟩ := own_atG ppC_len Pp.nil HP2.out (by omega)
          simp only [Value.slice.injEq, true_and] at ev
          obtain ⟨rfl, rfl⟩ := ev
          have e0 := (hat2 j2 hlt2 0 (by omega)).1
          have e1 := (hat2 j2 hlt2 1 (by omega)).1
          simp only [List.getElem?_cons_zero, List.getElem?_cons_succ, Nat.add_zero] at e0 e1
          have HM2 := keepG (restO_more (S := S) M hlt2)
          clear hat2
          obtain ⟨p, HP⟩ : ∃ p, Hid (S.getD j2 Pp.nil = p) := ⟨_, rfl⟩
          rw [HP.out] at e0 e1 HM2
          obtain ⟨N, HNN⟩ : ∃ N, Hid (restO M ((S.map Pp.k).take j2) = N) := ⟨_, rfl⟩
          have hNl : N.length ≤ 2000 := by
            rw [← HNN.out]
            have h1 := restO_len ((S.map Pp.k).take j2) M
            have h2 := List.length_take_le j2 (S.map Pp.k)
            omega
          rw [HNN.out] at HA2 HM2 ⊢
          rename World => wr2
          obtain ⟨X, HX, hbX, hpX⟩ : ∃ X, Hid (wr2.alloc (.cells #[.int .u64 p.k, .int .u64 p.v] 80) = X) ∧ Below wr2.heap.size wr2 X ∧ Hp X wr2.heap.size 80 (ppC p) := ⟨_, rfl, below_allocG _ _, Hp.new wr2 (ppC p) _⟩
          have q0 := hpX.cell (j := 0) rfl
          have hzX := hbX.size
          have hbwX : Below w.heap.size w X := hbw2.trans (hbX.mono hzw2)
          have HAX := keepG (own_below HA2.out hbX (Nat.le_refl _))
          have HPX := keepG (own_below HP2.out hbX (Nat.le_refl _))
          obtain ⟨c, HC⟩ : ∃ c, Hid (decide (p.k ∈ N) = c) := ⟨_, rfl⟩
          cases c with
          | true =>
            rw [if_pos (of_decide_eq_true HC.out)] at HM2
            go_wp2_with (go_at_call 77; rw [HX.out]; go_must (refine (ucont_any p.k (own_seesG uC_len 0 HAX.out) HC).mono ?_); rintro e w3 ⟨rfl, rfl⟩)
            first
              | (go_roundw
                 case rel => exact ⟨j2 + 1, by omega, by go_num, by rw [HM2.out]; exact HAX.out, HPX.out, hbwX⟩
                 case measure => simp [intOf]; omega)
              | exact ⟨⟨j2 + 1, by omega, by go_num, by rw [HM2.out]; exact HAX.out, HPX.out, hbwX⟩, by simp [intOf]; omega⟩
          | false =>
            rw [if_neg (of_decide_eq_false HC.out)] at HM2
            go_wp2_with (first | (go_at_call 77; rw [HX.out]; go_must (refine (ucont_any p.k (own_seesG uC_len 0 HAX.out) HC).mono ?_); rintro e w3 ⟨rfl, rfl⟩) | (at_builtin; go_must (refine wpList_append_own_at _ rfl (.tmp 44) (.tmp 47) 94 rfl w.heap.size 41 i0 _ 1 8 Try.underlying94 hi0 hz0 hzs hzb rfl (by decide) (.slice ya N.length yc) N.length (flatG uC N) rfl (HAX.out.alloc _) ⟨_, 0, none⟩ 1 1 (uC p.k) rfl rfl (cells_new _ (uC p.k) _ _ rfl) (uC_one p.k) (by unfold maxLen; omega) (by omega) (by simp; omega) ?_); intro v4 w4 hown hgr _ hnew; go_must (have HOW : Hid _ := own_moreG hown; have hbw4 : Below w.heap.size w w4 := hbwX.trans ((chg_append hgr).below (fun k e => (HAX.out.lt k e).1) (by omega)); have HP4 := keepG (own_chg HPX.out (chg_append hgr) (fun k hk e => own_twoG HPX.out HAX.out (by decide) k hk e)); clear hown hgr hnew; obtain ⟨va1, vc1, rfl⟩ := own_shape HOW.out)))
            have eN : (N ++ [p.k]).length = N.length + 1 := by simp
            first
              | (go_roundw
                 case rel => exact ⟨j2 + 1, by omega, by go_num, by have hh := HOW.out; rw [HM2.out]; show World.ownsRow _ _ _ _ _ _ _; rw [eN] at hh ⊢; exact hh, HP4.out, hbw4⟩
                 case measure => simp [intOf]; omega)
              | exact ⟨⟨j2 + 1, by omega, by go_num, by have hh := HOW.out; rw [HM2.out]; show World.ownsRow _ _ _ _ _ _ _; rw [eN] at hh ⊢; exact hh, HP4.out, hbw4⟩, by simp [intOf]; omega⟩
        · have hlt2I : ¬ (j2 : Int) < S.length := by omega
          have hT2 : (S.map Pp.k).take j2 = S.map Pp.k := List.take_of_length_le (by rw [List.length_map]; omega)
          obtain ⟨N, HNN⟩ : ∃ N, Hid (restO M ((S.map Pp.k).take j2) = N) := ⟨_, rfl⟩
          rw [HNN.out] at HA2 ⊢
          rw [hT2, HO2.out] at HNN
          obtain rfl : O = N := HNN.out
          clear hT2
          go_wp2
          go_ret
          exact ⟨_, rfl, HA2.out, hbw2⟩
end
end Go.Proofs.Ytpbfgebecgikjaa
