
/-
  The document's Pairs: the least key first. Condition: the book lies where the pointer says, its row is the call's own.
-/
import Derived.Test.YtpbfgebecgikjaaB13RDel
import Derived.Test.YtpbfgebecgikjaaB13Alg
namespace Go.Proofs.Ytpbfgebecgikjaa
open Go.RowKit
set_option linter.unusedVariables false
set_option linter.unusedSimpArgs false
set_option maxRecDepth 100000

/-- Keys that are not told yet. -/
def okS (j : Nat) (S : List Pp) (k : Int) : Prop := j = 0 ∨ (S.getD (j - 1) Pp.nil).k < k
/-- The best place so far. -/
def BestI (j : Nat) (S D : List Pp) (i : Nat) (best : Int) : Prop := (best = -1 ∧ ∀ t, t < i → ¬ okS j S (D.getD t Pp.nil).k) ∨ (∃ m : Nat, best = m ∧ m < i ∧ okS j S (D.getD m Pp.nil).k ∧ ∀ t, t < i → okS j S (D.getD t Pp.nil).k → (D.getD m Pp.nil).k ≤ (D.getD t Pp.nil).k)
section
variable {j : Nat} {S D : List Pp} {i : Nat} {best : Int}
theorem best_none : BestI j S D 0 (-1) := .inl ⟨rfl, fun t ht => by omega⟩
theorem best_skip (h : BestI j S D i best) (hk : ¬ okS j S (D.getD i Pp.nil).k) : BestI j S D (i + 1) best := by
  rcases h with ⟨h1, h2⟩ | ⟨m, h1, h2, h3, h4⟩
  · refine .inl ⟨h1, fun t ht => ?_⟩
    rcases Nat.lt_succ_iff_lt_or_eq.1 ht with g | g
    · exact h2 t g
    · rw [g]; exact hk
  · refine .inr ⟨m, h1, by omega, h3, fun t ht ho => ?_⟩
    rcases Nat.lt_succ_iff_lt_or_eq.1 ht with g | g
    · exact h4 t g ho
    · rw [g] at ho; exact absurd ho hk
theorem best_first (h : ∀ t, t < i → ¬ okS j S (D.getD t Pp.nil).k) (hk : okS j S (D.getD i Pp.nil).k) : BestI j S D (i + 1) i := by
  refine .inr ⟨i, rfl, by omega, hk, fun t ht ho => ?_⟩
  rcases Nat.lt_succ_iff_lt_or_eq.1 ht with g | g
  · exact absurd ho (h t g)
  · rw [g]; exact Int.le_refl _
theorem best_less {m : Nat} (h4 : ∀ t, t < i → okS j S (D.getD t Pp.nil).k → (D.getD m Pp.nil).k ≤ (D.getD t Pp.nil).k) (hk : okS j S (D.getD i Pp.nil).k) (hl : (D.getD i Pp.nil).k < (D.getD m Pp.nil).k) : BestI j S D (i + 1) i := by
  refine .inr ⟨i, rfl, by omega, hk, fun t ht ho => ?_⟩
  rcases Nat.lt_succ_iff_lt_or_eq.1 ht with g | g
  · have := h4 t g ho; omega
  · rw [g]; exact Int.le_refl _
theorem best_keep {m : Nat} (h2 : m < i) (h3 : okS j S (D.getD m Pp.nil).k) (h4 : ∀ t, t < i → okS j S (D.getD t Pp.nil).k → (D.getD m Pp.nil).k ≤ (D.getD t Pp.nil).k) (hl : ¬ (D.getD i Pp.nil).k < (D.getD m Pp.nil).k) : BestI j S D (i + 1) m := by
  refine .inr ⟨m, rfl, by omega, h3, fun t ht ho => ?_⟩
  rcases Nat.lt_succ_iff_lt_or_eq.1 ht with g | g
  · exact h4 t g ho
  · rw [g]; omega
theorem getD_memR {L : List Pp} {t : Nat} (ht : t < L.length) : L.getD t Pp.nil ∈ L := by
  rw [List.getD_eq_getElem?_getD, List.getElem?_eq_getElem ht]
  exact List.getElem_mem ht
theorem mem_getDR {L : List Pp} {p : Pp} (h : p ∈ L) : ∃ t, t < L.length ∧ L.getD t Pp.nil = p := by
  obtain ⟨t, ht, e⟩ := List.mem_iff_getElem.1 h
  exact ⟨t, ht, by rw [List.getD_eq_getElem?_getD, List.getElem?_eq_getElem ht]; exact e⟩
theorem srt_lt (hs : Srt S) {a b : Nat} (hab : a < b) (hb : b < S.length) : (S.getD a Pp.nil).k < (S.getD b Pp.nil).k := by
  have := List.pairwise_iff_getElem.1 hs a b (by omega) hb hab
  rw [List.getD_eq_getElem?_getD, List.getD_eq_getElem?_getD, List.getElem?_eq_getElem (by omega), List.getElem?_eq_getElem hb]
  exact this
theorem best_done (hs : Srt S) (hp : S.Perm D) (hj : j < S.length) (h : BestI j S D D.length best) : ∃ m : Nat, best = m ∧ m < D.length ∧ D.getD m Pp.nil = S.getD j Pp.nil := by
  have hjo : okS j S (S.getD j Pp.nil).k := by
    rcases Nat.eq_zero_or_pos j with g | g
    · exact .inl g
    · exact .inr (srt_lt hs (by omega) hj)
  obtain ⟨t, ht, et⟩ := mem_getDR (hp.mem_iff.1 (getD_memR hj))
  rcases h with ⟨_, h2⟩ | ⟨m, h1, h2, h3, h4⟩
  · exact absurd (by rw [et]; exact hjo) (h2 t ht)
  · refine ⟨m, h1, h2, ?_⟩
    have h5 := h4 t ht (by rw [et]; exact hjo)
    rw [et] at h5
    obtain ⟨r, hr, er⟩ := mem_getDR (hp.mem_iff.2 (getD_memR h2))
    rw [← er] at h3 h5 ⊢
    rcases Nat.lt_trichotomy r j with g | g | g
    · rcases h3 with h3 | h3
      · omega
      · rcases Nat.lt_or_ge r (j - 1) with g2 | g2
        · have := srt_lt hs g2 (by omega); omega
        · have : r = j - 1 := by omega
          rw [this] at h3; omega
    · rw [g]
    · have := srt_lt hs g hr; omega
end
def lenV : Value → Nat
  | .slice _ n _ => n
  | _ => 0
section
variable {w : World} {B b cap : Nat} {v : Value} {D S : List Pp}
set_option maxHeartbeats 8000000 in
theorem rpairs_any (h : Rb w B b cap v D) (hl : D.length ≤ 1000) (hp : S.Perm D) (hs : Srt S) :
    Calls Try.prog 31 #[.pointer (some ⟨b, 0, none⟩)] w fun e w' => ∃ u, e = .returned u ∧ w'.ownsRow w.heap.size 80 2 u S.length (flatG ppC S) ∧ Below w.heap.size w w' := by
  have hSD := hp.length_eq
  have HP := keepG hp
  have HS := keepG hs
  have HBB : Hid (∀ wx, Below w.heap.size w wx → Rb wx B b cap v D) := fun wx hb => h.below hb
  obtain ⟨va, vc, rfl⟩ := own_shape h.row
  obtain ⟨i0, hi0, hz0, hzs, hzb⟩ := info_parts infoPr
  clear hp hs h
  go_enter Try.func31, Try.ntmps31
  go_wp2
  go_loopw [3] (fun ov wr => ∃ j : Nat, j ≤ D.length ∧ (∃ oa oc, ov = .slice oa j oc) ∧ Hid (wr.ownsRow w.heap.size 80 2 ov (S.take j).length (flatG ppC (S.take j))) ∧ Below w.heap.size w wr) (fun ov _ => D.length - lenV ov)
  case atStart => exact ⟨0, by omega, ⟨none, 0, rfl⟩, World.ownsRow_nil _ _ _ _, Below.refl _ _⟩
  case round =>
    obtain ⟨j, hj, ⟨oa, oc, rfl⟩, HO, hbw⟩ := hrel
    have HB := keepG (HBB.out wr hbw)
    have cb := HB.out.hp.cell (j := 1) rfl
    have hzw := hbw.size
    have hTl : (S.take j).length = j := by rw [List.length_take]; omega
    by_cases hlt : j < D.length
    · have hltI : (j : Int) < D.length := by omega
      obtain ⟨g, c, ev, hgB, hgw, hgc, hcm, hat⟩ := own_atG ppC_len Pp.nil HB.out.row (by omega)
      simp only [Value.slice.injEq, true_and] at ev
      obtain ⟨rfl, rfl⟩ := ev
      have HAT := keepG hat
      clear hat
      have HOK : Hid ((j = 0 ∧ ∀ k, okS j S k) ∨ (∃ q go, j = q + 1 ∧ oa = some ⟨go, 0, none⟩ ∧ wr.cell? ⟨go, q * 2, none⟩ = some (.int .u64 (S.getD q Pp.nil).k) ∧ ∀ k, okS j S k ↔ (S.getD q Pp.nil).k < k)) := by
        rcases Nat.eq_zero_or_pos j with g0 | g0
        · exact .inl ⟨g0, fun k => .inl g0⟩
        · obtain ⟨q, rfl⟩ : ∃ q, j = q + 1 := ⟨j - 1, by omega⟩
          obtain ⟨go, c2, ev, _, _, _, _, hat⟩ := own_atG ppC_len Pp.nil HO.out (by omega)
          simp only [Value.slice.injEq] at ev
          obtain ⟨rfl, _, rfl⟩ := ev
          have e0 := (hat q (by omega) 0 (by omega)).1
          have eq : (S.take (q + 1)).getD q Pp.nil = S.getD q Pp.nil := by
            rw [List.getD_eq_getElem?_getD, List.getD_eq_getElem?_getD, List.getElem?_take, if_pos (by omega)]
          rw [eq] at e0
          refine .inr ⟨q, go, rfl, rfl, e0, fun k => ⟨fun e => ?_, fun e => .inr e⟩⟩
          rcases e with e | e
          · omega
          · exact e
      go_wp2
      go_loopw [4, 5] (fun bv i wr2 => ∃ k : Nat, ∃ best : Int, k ≤ D.length ∧ i = .int .i64 k ∧ bv = .int .i64 best ∧ Hid (BestI j S D k best) ∧ wr2 = wr) (fun _ i _ => D.length - (intOf i).toNat)
      case atStart => exact ⟨0, -1, by omega, rfl, rfl, best_none, rfl⟩
      case round =>
        obtain ⟨k, best, hk, rfl, rfl, HBI, rfl⟩ := hrel
        by_cases hkl : k < D.length
        · have hklI : (k : Int) < D.length := by omega
          have dk := (HAT.out k hkl 0 (by omega)).1
          simp only [List.getElem?_cons_zero, Nat.add_zero] at dk
          obtain ⟨x, HX⟩ : ∃ x, Hid ((D.getD k Pp.nil).k = x) := ⟨_, rfl⟩
          rw [HX.out] at dk
          rcases HOK.out with ⟨hj0, hall⟩ | ⟨q, go, hjq, hoa, eo, hiff⟩
          · have HOKx := keepG (hall (D.getD k Pp.nil).k)
            clear hall
            subst hj0
            rcases HBI.out with ⟨hb1, hb2⟩ | ⟨m, hb1, hb2, hb3, hb4⟩
            · subst hb1
              go_wp2
              go_roundw
              case rel => first | exact ⟨k + 1, k, by omega, by go_num, rfl, best_first hb2 HOKx.out, trivial⟩ | exact ⟨k + 1, k, by omega, by go_num, rfl, best_first hb2 HOKx.out, rfl⟩ | exact ⟨k + 1, by omega, by go_num, best_first hb2 HOKx.out, trivial⟩ | exact ⟨k + 1, by omega, by go_num, best_first hb2 HOKx.out⟩ | exact ⟨k + 1, by omega, by go_num, best_first hb2 HOKx.out, rfl⟩
              case measure => simp [intOf]; omega
            · subst hb1
              have dm := (HAT.out m (by omega) 0 (by omega)).1
              simp only [List.getElem?_cons_zero, Nat.add_zero] at dm
              obtain ⟨y, HY⟩ : ∃ y, Hid ((D.getD m Pp.nil).k = y) := ⟨_, rfl⟩
              rw [HY.out] at dm
              have hmI : (m : Int) < D.length := by omega
              have HB4 := keepG hb4
              clear hb4
              by_cases hxy : x < y
              · go_wp2
                go_roundw
                case rel => first | exact ⟨k + 1, k, by omega, by go_num, rfl, best_less HB4.out HOKx.out (by rw [HX.out, HY.out]; omega), trivial⟩ | exact ⟨k + 1, k, by omega, by go_num, rfl, best_less HB4.out HOKx.out (by rw [HX.out, HY.out]; omega), rfl⟩ | exact ⟨k + 1, by omega, by go_num, best_less HB4.out HOKx.out (by rw [HX.out, HY.out]; omega), trivial⟩ | exact ⟨k + 1, by omega, by go_num, best_less HB4.out HOKx.out (by rw [HX.out, HY.out]; omega)⟩ | exact ⟨k + 1, by omega, by go_num, best_less HB4.out HOKx.out (by rw [HX.out, HY.out]; omega), rfl⟩
                case measure => simp [intOf]; omega
              · go_wp2
                go_roundw
                case rel => first | exact ⟨k + 1, m, by omega, by go_num, rfl, best_keep hb2 hb3 HB4.out (by rw [HX.out, HY.out]; omega), trivial⟩ | exact ⟨k + 1, m, by omega, by go_num, rfl, best_keep hb2 hb3 HB4.out (by rw [HX.out, HY.out]; omega), rfl⟩ | exact ⟨k + 1, by omega, by go_num, best_keep hb2 hb3 HB4.out (by rw [HX.out, HY.out]; omega), trivial⟩ | exact ⟨k + 1, by omega, by go_num, best_keep hb2 hb3 HB4.out (by rw [HX.out, HY.out]; omega)⟩ | exact ⟨k + 1, by omega, by go_num, best_keep hb2 hb3 HB4.out (by rw [HX.out, HY.out]; omega), rfl⟩
                case measure => simp [intOf]; omega
          · subst hjq
            subst hoa
            obtain ⟨z, HZ⟩ : ∃ z, Hid ((S.getD q Pp.nil).k = z) := ⟨_, rfl⟩
            have HIF : Hid (okS (q + 1) S (D.getD k Pp.nil).k ↔ z < x) := by rw [← HZ.out, ← HX.out]; exact hiff _
            rw [HZ.out] at eo
            clear hiff
            have hqs : IntKind.i64.wrap ((q : Int) + 1 - 1) = (q : Int) := by rw [IntKind.wrap_i64]; omega
            have hqq : IntKind.i64.wrap (q : Int) = (q : Int) := by rw [IntKind.wrap_i64]; omega
            have hqI : (q : Int) < (q : Int) + 1 := by omega
            have hqp : (0 : Int) < (q : Int) + 1 := by omega
            by_cases hxz : x ≤ z
            · have HNO : Hid (¬ okS (q + 1) S (D.getD k Pp.nil).k) := fun e => by have := HIF.out.1 e; omega
              go_wp2
              go_roundw
              case rel => first | exact ⟨k + 1, best, by omega, by go_num, rfl, best_skip HBI.out HNO.out, trivial⟩ | exact ⟨k + 1, best, by omega, by go_num, rfl, best_skip HBI.out HNO.out, rfl⟩ | exact ⟨k + 1, by omega, by go_num, best_skip HBI.out HNO.out, trivial⟩ | exact ⟨k + 1, by omega, by go_num, best_skip HBI.out HNO.out⟩ | exact ⟨k + 1, by omega, by go_num, best_skip HBI.out HNO.out, rfl⟩
              case measure => simp [intOf]; omega
            · have HOKx : Hid (okS (q + 1) S (D.getD k Pp.nil).k) := HIF.out.2 (by omega)
              rcases HBI.out with ⟨hb1, hb2⟩ | ⟨m, hb1, hb2, hb3, hb4⟩
              · subst hb1
                go_wp2
                go_roundw
                case rel => first | exact ⟨k + 1, k, by omega, by go_num, rfl, best_first hb2 HOKx.out, trivial⟩ | exact ⟨k + 1, k, by omega, by go_num, rfl, best_first hb2 HOKx.out, rfl⟩ | exact ⟨k + 1, by omega, by go_num, best_first hb2 HOKx.out, trivial⟩ | exact ⟨k + 1, by omega, by go_num, best_first hb2 HOKx.out⟩ | exact ⟨k + 1, by omega, by go_num, best_first hb2 HOKx.out, rfl⟩
                case measure => simp [intOf]; omega
              · subst hb1
                have dm := (HAT.out m (by omega) 0 (by omega)).1
                simp only [List.getElem?_cons_zero, Nat.add_zero] at dm
                obtain ⟨y, HY⟩ : ∃ y, Hid ((D.getD m Pp.nil).k = y) := ⟨_, rfl⟩
                rw [HY.out] at dm
                have hmI : (m : Int) < D.length := by omega
                have HB4 := keepG hb4
                clear hb4
                by_cases hxy : x < y
                · go_wp2
                  go_roundw
                  case rel => first | exact ⟨k + 1, k, by omega, by go_num, rfl, best_less HB4.out HOKx.out (by rw [HX.out, HY.out]; omega), trivial⟩ | exact ⟨k + 1, k, by omega, by go_num, rfl, best_less HB4.out HOKx.out (by rw [HX.out, HY.out]; omega), rfl⟩ | exact ⟨k + 1, by omega, by go_num, best_less HB4.out HOKx.out (by rw [HX.out, HY.out]; omega), trivial⟩ | exact ⟨k + 1, by omega, by go_num, best_less HB4.out HOKx.out (by rw [HX.out, HY.out]; omega)⟩ | exact ⟨k + 1, by omega, by go_num, best_less HB4.out HOKx.out (by rw [HX.out, HY.out]; omega), rfl⟩
                  case measure => simp [intOf]; omega
                · go_wp2
                  go_roundw
                  case rel => first | exact ⟨k + 1, m, by omega, by go_num, rfl, best_keep hb2 hb3 HB4.out (by rw [HX.out, HY.out]; omega), trivial⟩ | exact ⟨k + 1, m, by omega, by go_num, rfl, best_keep hb2 hb3 HB4.out (by rw [HX.out, HY.out]; omega), rfl⟩ | exact ⟨k + 1, by omega, by go_num, best_keep hb2 hb3 HB4.out (by rw [HX.out, HY.out]; omega), trivial⟩ | exact ⟨k + 1, by omega, by go_num, best_keep hb2 hb3 HB4.out (by rw [HX.out, HY.out]; omega)⟩ | exact ⟨k + 1, by omega, by go_num, best_keep hb2 hb3 HB4.out (by rw [HX.out, HY.out]; omega), rfl⟩
                  case measure => simp [intOf]; omega
        · have hklI : ¬ (k : Int) < D.length := by omega
          obtain rfl : k = D.length := by omega
          obtain ⟨m, rfl, hm, HE⟩ := best_done HS.out HP.out (by omega) HBI.out
          have hmI : (m : Int) < D.length := by omega
          have d0 := (HAT.out m hm 0 (by omega)).1
          have d1 := (HAT.out m hm 1 (by omega)).1
          simp only [List.getElem?_cons_zero, List.getElem?_cons_succ, Nat.add_zero] at d0 d1
          obtain ⟨p, HPP⟩ : ∃ p, Hid (D.getD m Pp.nil = p) := ⟨_, rfl⟩
          rw [HPP.out] at d0 d1
          have HT1 : Hid (S.take (j + 1) = S.take j ++ [p]) := by
            show _ = _
            rw [take_moreR (by omega), ← HE, HPP.out]
          clear HE
          go_wp2_with (at_builtin; go_must (refine wpList_append_own_at _ rfl (.tmp 61) (.tmp 69) 48 rfl w.heap.size 80 i0 _ 2 16 Try.underlying48 hi0 hz0 hzs hzb rfl (by decide) (.slice oa j oc) (S.take j).length (flatG ppC (S.take j)) rfl (HO.out.alloc _) ⟨_, 0, none⟩ 1 1 (ppC p) rfl rfl (cells_new wr (ppC p) _ _ rfl) (pp_one p) (by unfold maxLen; omega) (by omega) (by simp; omega) ?_); intro v' w' hown hgr _ hnew; go_must (have HOW : Hid _ := own_moreG hown; have hbw2 : Below w.heap.size w w' := hbw.trans ((chg_append hgr).below (fun k e => (HO.out.lt k e).1) hzw); clear hown hgr hnew; obtain ⟨ra, rc, rfl⟩ := own_shape HOW.out))
          have eM : (S.take j ++ [p]).length = j + 1 := by rw [List.length_append, hTl]; rfl
          go_roundw
          case rel => exact ⟨j + 1, by omega, ⟨ra, rc, by first | rfl | rw [hTl]⟩, by have hh := HOW.out; rw [HT1.out]; show World.ownsRow _ _ _ _ _ _ _; rw [eM] at hh ⊢; (try rw [hTl]); exact hh, hbw2⟩
          case measure => (simp [lenV]; omega)
    · have hltI : ¬ (j : Int) < D.length := by omega
      have hT : S.take j = S := List.take_of_length_le (by omega)
      rw [hT] at HO
      go_wp2
      go_ret
      refine ⟨_, rfl, ?_, hbw⟩
      first | exact HO.out | (rw [← hSD]; exact HO.out)
end
end Go.Proofs.Ytpbfgebecgikjaa
