/-
  JLit
  JLit2
-/
import Derived.Test.YtkcofelpndlplaaML28
import Derived.Test.YtkcofelpndlplaaML27
import Derived.Test.YtkcofelpndlplaaML21
import Derived.Test.YtkcofelpndlplaaML19
/-
  What the landed judge's little functions answer: number, source, typeFits, joined, blurred, unless, askNumbers, askWord. Conditions: a state of eight types; types well made where two are compared.
-/
namespace Go.Proofs.Ytkcofelpndlplaa
open Go.RowKit
set_option linter.unusedVariables false
set_option maxRecDepth 100000

theorem lnumber_any (lo hi : Int) (w : World) : Calls Try.prog 47 #[.agg #[.int .u64 lo, .int .u64 hi]] w fun e w' => e = .returned (tyV ⟨1, lo, hi, 0⟩) ∧ Below w.heap.size w w' := by
  go_enter Try.func47, Try.ntmps47
  go_wp2
  refine bodyPost_ret (v := tyV ⟨1, lo, hi, 0⟩) ?_ rfl ⟨rfl, by go_grown⟩
  rw [results_cell rfl]
  simp [asAddr, Result.andThen]
  rw [run_boxT (k := 1) (lo := lo) (hi := hi) (m := 0)]
  refine ⟨?_, ?_, ?_, ?_⟩ <;> go_cell
/-- The four cells of a register's type within a state's cells. -/
theorem stC_typ {r : Bool} {s : St} {n : Nat} {k lo hi m : Int} (h8 : s.length = 8) (hn : n < 8) (h : s.getD n Ty.nil = ⟨k, lo, hi, m⟩) :
    (stC r s)[1 + n * 4]? = some (.int .i64 k) ∧ (stC r s)[1 + n * 4 + 1]? = some (.int .u64 lo) ∧ (stC r s)[1 + n * 4 + 2]? = some (.int .u64 hi) ∧ (stC r s)[1 + n * 4 + 3]? = some (.int .i64 m) := by
  have hc := fun j hj => stC_at r s n j (by omega) hj
  rw [h] at hc
  exact ⟨hc 0 (by omega), hc 1 (by omega), hc 2 (by omega), hc 3 (by omega)⟩
theorem two_alloc {w w2 : World} {a b : Obj} {n : Nat} (hn : n = ((w.alloc a).alloc b).heap.size) (h : Below n ((w.alloc a).alloc b) w2) : Below w.heap.size w w2 := by
  subst hn; exact grow2b h
set_option maxHeartbeats 800000 in
/-- The source's type. -/
theorem lsource_any (i : In) (r : Bool) (s : St) (w : World) (h8 : s.length = 8) (hb : i.b = 8 ∨ (0 ≤ i.b ∧ i.b ≤ 7)) :
    Calls Try.prog 32 #[stV r s, i.v] w fun e w' => e = .returned (tyV (srcT i s)) ∧ Below w.heap.size w w' := by
  obtain ⟨op, d, a, b, imm⟩ := i
  simp only at hb
  by_cases hb8 : b = 8
  · subst hb8
    have hw : IntKind.u64.wrap imm = u64 imm := by rw [IntKind.wrap_u64]; rfl
    have HE : Hid (srcT ⟨op, d, a, 8, imm⟩ s = num2 (u64 imm) (u64 imm)) := by show _ = _; unfold srcT; rw [if_pos rfl]
    go_enter Try.func32, Try.ntmps32
    go_wp2_with (first
      | (go_at_call 50; go_must (refine (lsingle_any _ _).mono ?_); rintro e w1 ⟨rfl, hb1⟩)
      | (go_at_call 47; go_must (refine (lnumber_any _ _ _).mono ?_); rintro e w2 ⟨rfl, hb2⟩; go_must (obtain ⟨hB2, hz, HX, c0, c1, c2, c3, f0, f1, f2, f3⟩ := box_keptN (w.heap.size + 1 + 1) (by simp) (hb1.trans (hb2.mono hb1.size)); clear hb1 hb2)))
    rw [HE.out]
    exact box_ret1 rfl rfl (t := num2 (u64 imm) (u64 imm)) HX.out (two_alloc (by simp) hB2) (by omega)
  · obtain ⟨n, rfl⟩ := Int.eq_ofNat_of_zero_le (show 0 ≤ b by omega)
    have hn : n < 8 := by omega
    obtain ⟨tk, tl, th, tm, HT⟩ : ∃ k lo hi m, Hid (s.getD n Ty.nil = ⟨k, lo, hi, m⟩) := ⟨_, _, _, _, rfl⟩
    obtain ⟨q0, q1, q2, q3⟩ := stC_typ (r := r) h8 hn HT.out
    have HE : Hid (srcT ⟨op, d, a, n, imm⟩ s = ⟨tk, tl, th, tm⟩) := by show _ = _; unfold srcT regT; rw [if_neg hb8]; exact HT.out
    go_enter Try.func32, Try.ntmps32
    go_wp2
    rw [HE.out]
    refine bodyPost_ret (v := tyV ⟨tk, tl, th, tm⟩) ?_ rfl ⟨rfl, by go_grown⟩
    rw [results_cell rfl]
    simp [asAddr, Result.andThen]
    rw [run_boxT (k := tk) (lo := tl) (hi := th) (m := tm)]
    refine ⟨?_, ?_, ?_, ?_⟩ <;> go_cell
/-- The error where it isn't so. -/
def unlE (b : Bool) (x : Int) : Int := if b = true then 0 else x
theorem lunless_any (b : Bool) (x : Int) (w : World) : Calls Try.prog 33 #[.bool b, .int .i64 x] w fun e w' => e = .returned (.int .i64 (unlE b x)) ∧ Below w.heap.size w w' := by
  cases b
  all_goals go_enter Try.func33, Try.ntmps33
  all_goals go_wp2
  all_goals go_ret
  · exact ⟨rfl, by go_grown⟩
  · exact ⟨rfl, by go_grown⟩
end Go.Proofs.Ytkcofelpndlplaa
/-
  What the landed judge's typeFits, joined, blurred, askNumbers, askWord answer. Conditions: types well made where two are compared.
-/
namespace Go.Proofs.Ytkcofelpndlplaa
open Go.RowKit
set_option linter.unusedVariables false
set_option maxRecDepth 100000

/-- Behind a contract that makes memory: what was there reads as before. -/
theorem bcell9 {B : Nat} {W w1 : World} (hb : Below B W w1) : (∀ b o, b < B → w1.cell? ⟨b, o, none⟩ = W.cell? ⟨b, o, none⟩) ∧ (∀ b o, b < B → w1.frozen? ⟨b, o, none⟩ = W.frozen? ⟨b, o, none⟩) :=
  ⟨fun b o h => hb.cell (p := ⟨b, o, none⟩) h, fun b o h => hb.frozen (p := ⟨b, o, none⟩) h⟩
/-- Does a fit b, as the landed code asks it? -/
def fitsS (a b : Ty) : Bool := if b.k = 0 then true else if b.k = 1 then decide (a.k = 1) && withinB a.lo a.hi b.lo b.hi else eqT a b
theorem fits_eq {nm : Nat} {a b : Ty} (ha : Made nm a) (hb : Made nm b) : fitsS a b = fitsJ a b := by
  unfold fitsS fitsJ
  by_cases h0 : b.k = 0
  · rw [if_pos h0, if_pos h0]
  rw [if_neg h0, if_neg h0]
  by_cases h1 : b.k = 1
  · rw [if_pos h1]
    by_cases hk : a.k = 1
    · rw [if_neg (by omega), if_pos h1, decide_eq_true hk, Bool.true_and]
    · rw [if_pos (by omega), decide_eq_false hk, Bool.false_and]
  · rw [if_neg h1]
    by_cases hk : a.k = b.k
    · rw [if_neg (by omega), if_neg h1, Bool.eq_iff_iff, eqT_iff, ty_eq, decide_eq_true_eq]
      rcases ha with h | h | h <;> rcases hb with h' | h' | h' <;> omega
    · rw [if_pos hk, Bool.eq_false_iff, Ne, eqT_iff, ty_eq]
      omega
set_option maxHeartbeats 800000 in
theorem ltypeFits_any (a b : Ty) (w : World) : Calls Try.prog 51 #[tyV a, tyV b] w fun e w' => e = .returned (.bool (fitsS a b)) ∧ Below w.heap.size w w' := by
  obtain ⟨ak, al, ah, am⟩ := a
  obtain ⟨bk, bl, bh, bm⟩ := b
  by_cases h0 : bk = 0
  · subst h0
    have HE : Hid (fitsS ⟨ak, al, ah, am⟩ ⟨0, bl, bh, bm⟩ = true) := by show _ = _; unfold fitsS; simp
    go_enter Try.func51, Try.ntmps51
    go_wp2
    go_ret
    exact ⟨rb HE.out.symm, by go_grown⟩
  by_cases h1 : bk = 1
  · subst h1
    by_cases hk : ak = 1
    · subst hk
      obtain ⟨r, HR⟩ : ∃ r, Hid (r = withinB al ah bl bh) := ⟨_, rfl⟩
      have HE : Hid (fitsS ⟨1, al, ah, am⟩ ⟨1, bl, bh, bm⟩ = r) := by show _ = _; unfold fitsS; simp [← HR.out]
      go_enter Try.func51, Try.ntmps51
      go_wp2_with (go_at_call 14; go_must (refine (lwithin_as HR _).mono ?_); rintro e w1 ⟨rfl, hb1⟩)
      go_ret
      exact ⟨rb HE.out.symm, grow2b hb1⟩
    · have HE : Hid (fitsS ⟨ak, al, ah, am⟩ ⟨1, bl, bh, bm⟩ = false) := by show _ = _; unfold fitsS; simp [hk]
      go_enter Try.func51, Try.ntmps51
      go_wp2
      go_ret
      exact ⟨rb HE.out.symm, by go_grown⟩
  · obtain ⟨r, HR⟩ : ∃ r, Hid (r = eqT ⟨ak, al, ah, am⟩ ⟨bk, bl, bh, bm⟩) := ⟨_, rfl⟩
    have HE : Hid (fitsS ⟨ak, al, ah, am⟩ ⟨bk, bl, bh, bm⟩ = r) := by show _ = _; unfold fitsS; simp [h0, h1, HR.out]
    go_enter Try.func51, Try.ntmps51
    go_wp2
    all_goals go_ret
    all_goals refine ⟨rb ?_, by go_grown⟩
    all_goals rw [HE.out, HR.out]
    all_goals (simp [eqT]; try omega)
def blurT (t : Ty) : Ty := if t.k = 1 then fullT else Ty.nil
set_option maxHeartbeats 800000 in
theorem lblurred_any (t : Ty) (w : World) : Calls Try.prog 31 #[tyV t] w fun e w' => e = .returned (tyV (blurT t)) ∧ Below w.heap.size w w' := by
  obtain ⟨k, lo, hi, m⟩ := t
  by_cases h1 : k = 1
  · subst h1
    have HE : Hid (blurT ⟨1, lo, hi, m⟩ = fullT) := by show _ = _; unfold blurT; rw [if_pos rfl]
    go_enter Try.func31, Try.ntmps31
    go_wp2_with (first
      | (go_at_call 49; go_must (refine (lfull_any _).mono ?_); rintro e w1 ⟨rfl, hb1⟩)
      | (go_at_call 47; go_must (refine (lnumber_any _ _ _).mono ?_); rintro e w2 ⟨rfl, hb2⟩; go_must (obtain ⟨hB2, hz, HX, c0, c1, c2, c3, f0, f1, f2, f3⟩ := box_keptN (w.heap.size + 1) (by simp) (hb1.trans (hb2.mono hb1.size)); clear hb1 hb2)))
    rw [HE.out]
    exact box_ret1 rfl rfl (t := fullT) HX.out (box_one (by simp) hB2) (by omega)
  · have HE : Hid (blurT ⟨k, lo, hi, m⟩ = Ty.nil) := by show _ = _; unfold blurT; rw [if_neg h1]
    go_enter Try.func31, Try.ntmps31
    go_wp2
    rw [HE.out]
    refine bodyPost_ret (v := tyV Ty.nil) ?_ rfl ⟨rfl, by go_grown⟩
    rw [results_cell rfl]
    simp [asAddr, Result.andThen]
    rw [run_boxT (k := 0) (lo := 0) (hi := 0) (m := 0)]
    · rfl
    · refine ⟨?_, ?_, ?_, ?_⟩ <;> go_cell
/-- Are all numbers? -/
def numsE (l : List Ty) : Int := if l.all (fun t => decide (t.k = 1)) = true then 0 else 33
set_option maxHeartbeats 800000 in
theorem lnums_any (v : Value) (l : List Ty) (w : World) (hs : SeesT w v l) : Calls Try.prog 35 #[v] w fun e w' => e = .returned (.int .i64 (numsE l)) ∧ Below w.heap.size w w' := by
  obtain ⟨ad, cap, rfl, hcap, hmax, _, hcell⟩ := hs
  obtain ⟨R, HR⟩ : ∃ R, Hid (R = numsE l) := ⟨_, rfl⟩
  rw [← HR.out]
  obtain ⟨n, HN⟩ : ∃ n, Hid (n = l.length) := ⟨_, rfl⟩
  unfold maxLen at hmax
  rw [← HN.out] at hcap ⊢
  have HC : Hid (l ≠ [] → ∃ b off, ad = some ⟨b, off, none⟩ ∧ b < w.heap.size ∧ ∀ k, k < l.length → AtT w b (off + k * 4) (l.getD k Ty.nil)) := hcell
  clear hcell
  go_enter Try.func35, Try.ntmps35
  go_wp2
  go_loopw [7] (fun i wr => ∃ k : Nat, k ≤ n ∧ i = .int .i64 k ∧ Hid ((l.take k).all (fun t => decide (t.k = 1)) = true) ∧ Below w.heap.size w wr) (fun i _ => n - (intOf i).toNat)
  case atStart => exact ⟨0, by omega, rfl, rfl, by go_grown⟩
  case round =>
    obtain ⟨k, hk, rfl, HI, hbe⟩ := hrel
    have hsz := hbe.size
    by_cases hlt : k < n
    · obtain ⟨b, off, rfl, hbk, hat⟩ := HC.out (fun e => by have := HN.out; rw [e] at this; simp at this; omega)
      obtain ⟨tk, tl, th, tm, HS⟩ : ∃ k' lo hi m, Hid (l.getD k Ty.nil = ⟨k', lo, hi, m⟩) := ⟨_, _, _, _, rfl⟩
      have hA := (hat k (by have := HN.out; omega)).below hbe hbk
      rw [HS.out] at hA
      obtain ⟨e0, e1, e2, e3⟩ := hA
      simp only at e0 e1 e2 e3
      clear hat
      have HT : Hid ((l.take (k + 1)).all (fun t => decide (t.k = 1)) = decide (tk = 1)) := by
        show _ = _
        have hk' : k < l.length := by have := HN.out; omega
        have e : l.getD k Ty.nil = l[k] := by simp [hk']
        rw [List.take_succ_eq_append_getElem hk', List.all_append, HI.out, ← e, HS.out]
        simp
      by_cases h1 : tk = 1
      · subst h1
        go_wp2
        go_roundw
        case rel => exact ⟨k + 1, by omega, by go_num, HT.out, hbe.alloc hsz _⟩
        case measure => simp [intOf]; omega
      · have HF : Hid (R = 33) := by
          show _ = _
          rw [HR.out]
          unfold numsE
          rw [if_neg]
          intro hc
          have h2 : (l.take (k + 1)).all (fun t => decide (t.k = 1)) = true := by
            rw [List.all_eq_true] at hc ⊢
            exact fun x hx => hc x (List.mem_of_mem_take hx)
          rw [HT.out] at h2
          exact h1 (of_decide_eq_true h2)
        go_wp2
        go_ret
        exact ⟨reti HF.out.symm, hbe.alloc hsz _⟩
    · obtain rfl : k = n := by omega
      have HF : Hid (R = 0) := by
        show _ = _
        rw [HR.out]
        have := HI.out
        rw [HN.out, List.take_length] at this
        unfold numsE
        rw [if_pos this]
      go_wp2
      go_ret
      exact ⟨reti HF.out.symm, hbe⟩
theorem seesT_one (w : World) (t : TypeId) (x : Ty) (k : Nat) (hk : k = w.heap.size) : SeesT (w.alloc (.cells #[.int .i64 x.k, .int .u64 x.lo, .int .u64 x.hi, .int .i64 x.m] t)) (.slice (some ⟨k, 0, none⟩) 1 1) [x] := by
  subst hk
  exact SeesT.lit w t [x] _ 1 rfl rfl (by simp)
theorem seesT_two (w : World) (t : TypeId) (x y : Ty) (k : Nat) (hk : k = w.heap.size) : SeesT (w.alloc (.cells #[.int .i64 x.k, .int .u64 x.lo, .int .u64 x.hi, .int .i64 x.m, .int .i64 y.k, .int .u64 y.lo, .int .u64 y.hi, .int .i64 y.m] t)) (.slice (some ⟨k, 0, none⟩) 2 2) [x, y] := by
  subst hk
  exact SeesT.lit w t [x, y] _ 2 rfl rfl (by simp)
/-- A boxed type stays. -/
theorem kept1 {w w1 : World} {k lo hi m : Int} {o : Obj} {T : TypeId} (h : Below ((w.alloc (.cells #[.int .i64 k, .int .u64 lo, .int .u64 hi, .int .i64 m] T)).alloc o).heap.size ((w.alloc (.cells #[.int .i64 k, .int .u64 lo, .int .u64 hi, .int .i64 m] T)).alloc o) w1) :
    w1.cell? ⟨w.heap.size, 0, none⟩ = some (.int .i64 k) ∧ w1.cell? ⟨w.heap.size, 1, none⟩ = some (.int .u64 lo) ∧ w1.cell? ⟨w.heap.size, 2, none⟩ = some (.int .u64 hi) ∧ w1.cell? ⟨w.heap.size, 3, none⟩ = some (.int .i64 m) := by
  obtain ⟨hc, _⟩ := bcell9 h
  refine ⟨?_, ?_, ?_, ?_⟩ <;> (rw [hc _ _ (by simp; omega)]; go_cell)
def wordE (t : Ty) : Int := if t.k ≠ 1 then 33 else if withinB t.lo t.hi 0 15 = true then 0 else 35
set_option maxHeartbeats 800000 in
theorem lword_any (t : Ty) (w : World) : Calls Try.prog 34 #[tyV t] w fun e w' => e = .returned (.int .i64 (wordE t)) ∧ Below w.heap.size w w' := by
  obtain ⟨k, lo, hi, m⟩ := t
  by_cases h1 : k = 1
  · subst h1
    obtain ⟨r, HR⟩ : ∃ r, Hid (r = withinB lo hi 0 15) := ⟨_, rfl⟩
    have HN : Hid (numsE [⟨1, lo, hi, m⟩] = 0) := by show _ = _; simp [numsE]
    have HE : Hid (wordE ⟨1, lo, hi, m⟩ = unlE r 35) := by show _ = _; unfold wordE unlE; rw [HR.out]; simp
    go_enter Try.func34, Try.ntmps34
    go_wp2_with (first
      | (go_at_call 35; go_must (refine (lnums_any _ [⟨1, lo, hi, m⟩] _ (seesT_one _ _ ⟨1, lo, hi, m⟩ _ (by simp))).mono ?_); rintro e w1 ⟨rfl, hb1⟩; go_must (rw [HN.out]; obtain ⟨c0, c1, c2, c3⟩ := kept1 hb1; have hB := grow2b hb1; clear hb1))
      | (go_at_call 14; go_must (refine (lwithin_as HR _).mono ?_); rintro e w2 ⟨rfl, hb2⟩; go_must (have hB2 := hB.trans (hb2.mono hB.size); clear hb2))
      | (go_at_call 33; go_must (refine (lunless_any r 35 _).mono ?_); rintro e w3 ⟨rfl, hb3⟩; go_must (have hB3 := hB2.trans (hb3.mono hB2.size); clear hb3)))
    go_ret
    exact ⟨reti HE.out.symm, hB3⟩
  · have HN : Hid (numsE [⟨k, lo, hi, m⟩] = 33) := by show _ = _; simp [numsE, h1]
    have HE : Hid (wordE ⟨k, lo, hi, m⟩ = 33) := by show _ = _; unfold wordE; rw [if_pos h1]
    go_enter Try.func34, Try.ntmps34
    go_wp2_with (first
      | (go_at_call 35; go_must (refine (lnums_any _ [⟨k, lo, hi, m⟩] _ (seesT_one _ _ ⟨k, lo, hi, m⟩ _ (by simp))).mono ?_); rintro e w1 ⟨rfl, hb1⟩; go_must (rw [HN.out]; have hB := grow2b hb1; clear hb1)))
    go_ret
    exact ⟨reti HE.out.symm, hB⟩
end Go.Proofs.Ytkcofelpndlplaa
