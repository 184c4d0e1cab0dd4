/-
  JLit
  JLit2
  JFits
  JLit3
  JMaps
-/
import Derived.Test.YtkondcjmhlppiaaGreatMW29
import Derived.Test.YtkondcjmhlppiaaGreatMW27
import Derived.Test.YtkondcjmhlppiaaGreatMW17
import Derived.Test.YtkondcjmhlppiaaGreatMW15
import Derived.Test.YtkondcjmhlppiaaGreatMW6
import Derived.Deep.RegionHeld3
namespace Go.Proofs.YtkondcjmhlppiaaGreat
open Go.RowKit
set_option linter.unusedVariables false
set_option maxRecDepth 100000
set_option linter.unusedSimpArgs false
theorem lnumber_any (lo hi : Int) (w : World) : Calls Tryz.prog 80 #[.agg #[.int .u64 lo, .int .u64 hi]] w fun e w' => e = .returned (tyV ⟨1, lo, hi, 0⟩) /\ Below w.heap.size w w' := by
 go_enter Tryz.func80, Tryz.ntmps80
 go_wp2
 refine bodyPost_ret (v := tyV ⟨1, lo, hi, 0⟩) ?_ rfl ⟨rfl, by go_grown⟩
 rw [results_cell rfl]
 simp [asAddr, Result.andThen]
 rw [run_boxT (k := 1) (lo := lo) (hi := hi) (m := 0)]
 refine ⟨?_, ?_, ?_, ?_⟩ <;> go_cell
theorem stC_typ {r : Bool} {s : St} {n : Nat} {k lo hi m : Int} (h8 : s.length = 8) (hn : n < 8) (h : s.getD n Ty.nil = ⟨k, lo, hi, m⟩) :
  (stC r s)[1 + n * 4]? = some (.int .i64 k) /\ (stC r s)[1 + n * 4 + 1]? = some (.int .u64 lo) /\ (stC r s)[1 + n * 4 + 2]? = some (.int .u64 hi) /\ (stC r s)[1 + n * 4 + 3]? = some (.int .i64 m) := by
 have hc := fun j hj => stC_at r s n j (by omega) hj
 rw [h] at hc
 exact ⟨hc 0 (by omega), hc 1 (by omega), hc 2 (by omega), hc 3 (by omega)⟩
theorem two_alloc {w w2 : World} {a b : Obj} {n : Nat} (hn : n = ((w.alloc a).alloc b).heap.size) (h : Below n ((w.alloc a).alloc b) w2) : Below w.heap.size w w2 := by
 subst hn; exact grow2b h
set_option maxHeartbeats 800000 in
theorem lsource_any (i : In) (r : Bool) (s : St) (w : World) (h8 : s.length = 8) (hb : i.b = 8 ∨ (0 <= i.b /\ i.b <= 7)) :
  Calls Tryz.prog 54 #[stV r s, i.v] w fun e w' => e = .returned (tyV (srcT i s)) /\ Below w.heap.size w w' := by
 obtain ⟨op, d, a, b, imm⟩ := i
 simp only at hb
 by_cases hb8 : b = 8
 ·subst hb8
  have hw : IntKind.u64.wrap imm = u64 imm := by rw [IntKind.wrap_u64]; rfl
  have HE : Hid (srcT ⟨op, d, a, 8, imm⟩ s = num2 (u64 imm) (u64 imm)) := by show _ = _; unfold srcT; rw [if_pos rfl]
  go_enter Tryz.func54, Tryz.ntmps54
  go_wp2_with (first
   | (go_at_call 83; go_must (refine (lsingle_any _ _).mono ?_); rintro e w1 ⟨rfl, hb1⟩)
   | (go_at_call 80; go_must (refine (lnumber_any _ _ _).mono ?_); rintro e w2 ⟨rfl, hb2⟩; go_must (obtain ⟨hB2, hz, HX, c0, c1, c2, c3, f0, f1, f2, f3⟩ := box_keptN (w.heap.size + 1 + 1) (by simp) (hb1.trans (hb2.mono hb1.size)); clear hb1 hb2)))
  rw [HE.out]
  exact box_ret1 rfl rfl (t := num2 (u64 imm) (u64 imm)) HX.out (two_alloc (by simp) hB2) (by omega)
 ·obtain ⟨n, rfl⟩ := Int.eq_ofNat_of_zero_le (show 0 <= b by omega)
  have hn : n < 8 := by omega
  obtain ⟨tk, tl, th, tm, HT⟩ : ∃ k lo hi m, Hid (s.getD n Ty.nil = ⟨k, lo, hi, m⟩) := ⟨_, _, _, _, rfl⟩
  obtain ⟨q0, q1, q2, q3⟩ := stC_typ (r := r) h8 hn HT.out
  have HE : Hid (srcT ⟨op, d, a, n, imm⟩ s = ⟨tk, tl, th, tm⟩) := by show _ = _; unfold srcT regT; rw [if_neg hb8]; exact HT.out
  go_enter Tryz.func54, Tryz.ntmps54
  go_wp2
  rw [HE.out]
  refine bodyPost_ret (v := tyV ⟨tk, tl, th, tm⟩) ?_ rfl ⟨rfl, by go_grown⟩
  rw [results_cell rfl]
  simp [asAddr, Result.andThen]
  rw [run_boxT (k := tk) (lo := tl) (hi := th) (m := tm)]
  refine ⟨?_, ?_, ?_, ?_⟩ <;> go_cell
def unlE (b : Bool) (x : Int) : Int := if b = true then 0 else x
theorem lunless_any (b : Bool) (x : Int) (w : World) : Calls Tryz.prog 55 #[.bool b, .int .i64 x] w fun e w' => e = .returned (.int .i64 (unlE b x)) /\ Below w.heap.size w w' := by
 cases b
 all_goals go_enter Tryz.func55, Tryz.ntmps55
 all_goals go_wp2
 all_goals go_ret
 ·exact ⟨rfl, by go_grown⟩
 ·exact ⟨rfl, by go_grown⟩
theorem bcell9 {B : Nat} {W w1 : World} (hb : Below B W w1) : (∀ b o, b < B -> w1.cell? ⟨b, o, none⟩ = W.cell? ⟨b, o, none⟩) /\ (∀ b o, b < B -> w1.frozen? ⟨b, o, none⟩ = W.frozen? ⟨b, o, none⟩) :=
 ⟨fun b o h => hb.cell (p := ⟨b, o, none⟩) h, fun b o h => hb.frozen (p := ⟨b, o, none⟩) h⟩
def fitsS (a b : Ty) : Bool := if b.k = 0 then true else if b.k = 1 then decide (a.k = 1) && withinB a.lo a.hi b.lo b.hi else eqT a b
theorem fits_eq {nm : Nat} {a b : Ty} (ha : Made nm a) (hb : Made nm b) : fitsS a b = fitsJ a b := by
 unfold fitsS fitsJ
 by_cases h0 : b.k = 0
 ·rw [if_pos h0, if_pos h0]
 rw [if_neg h0, if_neg h0]
 by_cases h1 : b.k = 1
 ·rw [if_pos h1]
  by_cases hk : a.k = 1
  ·rw [if_neg (by omega), if_pos h1, decide_eq_true hk, Bool.true_and]
  ·rw [if_pos (by omega), decide_eq_false hk, Bool.false_and]
 ·rw [if_neg h1]
  by_cases hk : a.k = b.k
  ·rw [if_neg (by omega), if_neg h1, Bool.eq_iff_iff, eqT_iff, ty_eq, decide_eq_true_eq]
   rcases ha with h | h | h <;> rcases hb with h' | h' | h' <;> omega
  ·rw [if_pos hk, Bool.eq_false_iff, Ne, eqT_iff, ty_eq]
   omega
set_option maxHeartbeats 800000 in
theorem ltypeFits_any (a b : Ty) (w : World) : Calls Tryz.prog 85 #[tyV a, tyV b] w fun e w' => e = .returned (.bool (fitsS a b)) /\ Below w.heap.size w w' := by
 obtain ⟨ak, al, ah, am⟩ := a
 obtain ⟨bk, bl, bh, bm⟩ := b
 by_cases h0 : bk = 0
 ·subst h0
  have HE : Hid (fitsS ⟨ak, al, ah, am⟩ ⟨0, bl, bh, bm⟩ = true) := by show _ = _; unfold fitsS; simp
  go_enter Tryz.func85, Tryz.ntmps85
  go_wp2
  go_ret
  exact ⟨rb HE.out.symm, by go_grown⟩
 by_cases h1 : bk = 1
 ·subst h1
  by_cases hk : ak = 1
  ·subst hk
   obtain ⟨r, HR⟩ : ∃ r, Hid (r = withinB al ah bl bh) := ⟨_, rfl⟩
   have HE : Hid (fitsS ⟨1, al, ah, am⟩ ⟨1, bl, bh, bm⟩ = r) := by show _ = _; unfold fitsS; simp [<- HR.out]
   go_enter Tryz.func85, Tryz.ntmps85
   go_wp2_with (go_at_call 84; go_must (refine (lwithin_as HR _).mono ?_); rintro e w1 ⟨rfl, hb1⟩)
   go_ret
   exact ⟨rb HE.out.symm, grow2b hb1⟩
  ·have HE : Hid (fitsS ⟨ak, al, ah, am⟩ ⟨1, bl, bh, bm⟩ = false) := by show _ = _; unfold fitsS; simp [hk]
   go_enter Tryz.func85, Tryz.ntmps85
   go_wp2
   go_ret
   exact ⟨rb HE.out.symm, by go_grown⟩
 ·obtain ⟨r, HR⟩ : ∃ r, Hid (r = eqT ⟨ak, al, ah, am⟩ ⟨bk, bl, bh, bm⟩) := ⟨_, rfl⟩
  have HE : Hid (fitsS ⟨ak, al, ah, am⟩ ⟨bk, bl, bh, bm⟩ = r) := by show _ = _; unfold fitsS; simp [h0, h1, HR.out]
  go_enter Tryz.func85, Tryz.ntmps85
  go_wp2
  all_goals go_ret
  all_goals refine ⟨rb ?_, by go_grown⟩
  all_goals rw [HE.out, HR.out]
  all_goals (simp [eqT]; try omega)
def blurT (t : Ty) : Ty := if t.k = 1 then fullT else Ty.nil
set_option maxHeartbeats 800000 in
theorem lblurred_any (t : Ty) (w : World) : Calls Tryz.prog 53 #[tyV t] w fun e w' => e = .returned (tyV (blurT t)) /\ Below w.heap.size w w' := by
 obtain ⟨k, lo, hi, m⟩ := t
 by_cases h1 : k = 1
 ·subst h1
  have HE : Hid (blurT ⟨1, lo, hi, m⟩ = fullT) := by show _ = _; unfold blurT; rw [if_pos rfl]
  go_enter Tryz.func53, Tryz.ntmps53
  go_wp2_with (first
   | (go_at_call 82; go_must (refine (lfull_any _).mono ?_); rintro e w1 ⟨rfl, hb1⟩)
   | (go_at_call 80; go_must (refine (lnumber_any _ _ _).mono ?_); rintro e w2 ⟨rfl, hb2⟩; go_must (obtain ⟨hB2, hz, HX, c0, c1, c2, c3, f0, f1, f2, f3⟩ := box_keptN (w.heap.size + 1) (by simp) (hb1.trans (hb2.mono hb1.size)); clear hb1 hb2)))
  rw [HE.out]
  exact box_ret1 rfl rfl (t := fullT) HX.out (box_one (by simp) hB2) (by omega)
 ·have HE : Hid (blurT ⟨k, lo, hi, m⟩ = Ty.nil) := by show _ = _; unfold blurT; rw [if_neg h1]
  go_enter Tryz.func53, Tryz.ntmps53
  go_wp2
  rw [HE.out]
  refine bodyPost_ret (v := tyV Ty.nil) ?_ rfl ⟨rfl, by go_grown⟩
  rw [results_cell rfl]
  simp [asAddr, Result.andThen]
  rw [run_boxT (k := 0) (lo := 0) (hi := 0) (m := 0)]
  ·rfl
  ·refine ⟨?_, ?_, ?_, ?_⟩ <;> go_cell
def numsE (l : List Ty) : Int := if l.all (fun t => decide (t.k = 1)) = true then 0 else 33
set_option maxHeartbeats 800000 in
theorem lnums_any (v : Value) (l : List Ty) (w : World) (hs : SeesT w v l) : Calls Tryz.prog 57 #[v] w fun e w' => e = .returned (.int .i64 (numsE l)) /\ Below w.heap.size w w' := by
 obtain ⟨ad, cap, rfl, hcap, hmax, _, hcell⟩ := hs
 obtain ⟨R, HR⟩ : ∃ R, Hid (R = numsE l) := ⟨_, rfl⟩
 rw [<- HR.out]
 obtain ⟨n, HN⟩ : ∃ n, Hid (n = l.length) := ⟨_, rfl⟩
 unfold maxLen at hmax
 rw [<- HN.out] at hcap ⊢
 have HC : Hid (l ≠ [] -> ∃ b off, ad = some ⟨b, off, none⟩ /\ b < w.heap.size /\ ∀ k, k < l.length -> AtT w b (off + k * 4) (l.getD k Ty.nil)) := hcell
 clear hcell
 go_enter Tryz.func57, Tryz.ntmps57
 go_wp2
 go_loopw [7] (fun i wr => ∃ k : Nat, k <= n /\ i = .int .i64 k /\ Hid ((l.take k).all (fun t => decide (t.k = 1)) = true) /\ Below w.heap.size w wr) (fun i _ => n - (intOf i).toNat)
 case atStart => exact ⟨0, by omega, rfl, rfl, by go_grown⟩
 case round =>
  obtain ⟨k, hk, rfl, HI, hbe⟩ := hrel
  have hsz := hbe.size
  by_cases hlt : k < n
  ·obtain ⟨b, off, rfl, hbk, hat⟩ := HC.out (fun e => by have := HN.out; rw [e] at this; simp at this; omega)
   obtain ⟨tk, tl, th, tm, HS⟩ : ∃ k' lo hi m, Hid (l.getD k Ty.nil = ⟨k', lo, hi, m⟩) := ⟨_, _, _, _, rfl⟩
   have hA := (hat k (by have := HN.out; omega)).below hbe hbk
   rw [HS.out] at hA
   obtain ⟨e0, e1, e2, e3⟩ := hA
   simp only at e0 e1 e2 e3
   clear hat
   have HT : Hid ((l.take (k + 1)).all (fun t => decide (t.k = 1)) = decide (tk = 1)) := by
    show _ = _
    have hk' : k < l.length := by have := HN.out; omega
    have e : l.getD k Ty.nil = l[k] := by simp [hk']
    rw [List.take_succ_eq_append_getElem hk', List.all_append, HI.out, <- e, HS.out]
    simp
   by_cases h1 : tk = 1
   ·subst h1
    go_wp2
    go_roundw
    case rel => exact ⟨k + 1, by omega, by go_num, HT.out, hbe.alloc hsz _⟩
    case measure => simp [intOf]; omega
   ·have HF : Hid (R = 33) := by
     show _ = _
     rw [HR.out]
     unfold numsE
     rw [if_neg]
     intro hc
     have h2 : (l.take (k + 1)).all (fun t => decide (t.k = 1)) = true := by
      rw [List.all_eq_true] at hc ⊢
      exact fun x hx => hc x (List.mem_of_mem_take hx)
     rw [HT.out] at h2
     exact h1 (of_decide_eq_true h2)
    go_wp2
    go_ret
    exact ⟨reti HF.out.symm, hbe.alloc hsz _⟩
  ·obtain rfl : k = n := by omega
   have HF : Hid (R = 0) := by
    show _ = _
    rw [HR.out]
    have := HI.out
    rw [HN.out, List.take_length] at this
    unfold numsE
    rw [if_pos this]
   go_wp2
   go_ret
   exact ⟨reti HF.out.symm, hbe⟩
theorem seesT_one (w : World) (t : TypeId) (x : Ty) (k : Nat) (hk : k = w.heap.size) : SeesT (w.alloc (.cells #[.int .i64 x.k, .int .u64 x.lo, .int .u64 x.hi, .int .i64 x.m] t)) (.slice (some ⟨k, 0, none⟩) 1 1) [x] := by
 subst hk
 exact SeesT.lit w t [x] _ 1 rfl rfl (by simp)
theorem seesT_two (w : World) (t : TypeId) (x y : Ty) (k : Nat) (hk : k = w.heap.size) : SeesT (w.alloc (.cells #[.int .i64 x.k, .int .u64 x.lo, .int .u64 x.hi, .int .i64 x.m, .int .i64 y.k, .int .u64 y.lo, .int .u64 y.hi, .int .i64 y.m] t)) (.slice (some ⟨k, 0, none⟩) 2 2) [x, y] := by
 subst hk
 exact SeesT.lit w t [x, y] _ 2 rfl rfl (by simp)
theorem kept1 {w w1 : World} {k lo hi m : Int} {o : Obj} {T : TypeId} (h : Below ((w.alloc (.cells #[.int .i64 k, .int .u64 lo, .int .u64 hi, .int .i64 m] T)).alloc o).heap.size ((w.alloc (.cells #[.int .i64 k, .int .u64 lo, .int .u64 hi, .int .i64 m] T)).alloc o) w1) :
  w1.cell? ⟨w.heap.size, 0, none⟩ = some (.int .i64 k) /\ w1.cell? ⟨w.heap.size, 1, none⟩ = some (.int .u64 lo) /\ w1.cell? ⟨w.heap.size, 2, none⟩ = some (.int .u64 hi) /\ w1.cell? ⟨w.heap.size, 3, none⟩ = some (.int .i64 m) := by
 obtain ⟨hc, _⟩ := bcell9 h
 refine ⟨?_, ?_, ?_, ?_⟩ <;> (rw [hc _ _ (by simp; omega)]; go_cell)
def wordE (t : Ty) : Int := if t.k ≠ 1 then 33 else if withinB t.lo t.hi 0 15 = true then 0 else 35
set_option maxHeartbeats 800000 in
theorem lword_any (t : Ty) (w : World) : Calls Tryz.prog 56 #[tyV t] w fun e w' => e = .returned (.int .i64 (wordE t)) /\ Below w.heap.size w w' := by
 obtain ⟨k, lo, hi, m⟩ := t
 by_cases h1 : k = 1
 ·subst h1
  obtain ⟨r, HR⟩ : ∃ r, Hid (r = withinB lo hi 0 15) := ⟨_, rfl⟩
  have HN : Hid (numsE [⟨1, lo, hi, m⟩] = 0) := by show _ = _; simp [numsE]
  have HE : Hid (wordE ⟨1, lo, hi, m⟩ = unlE r 35) := by show _ = _; unfold wordE unlE; rw [HR.out]; simp
  go_enter Tryz.func56, Tryz.ntmps56
  go_wp2_with (first
   | (go_at_call 57; go_must (refine (lnums_any _ [⟨1, lo, hi, m⟩] _ (seesT_one _ _ ⟨1, lo, hi, m⟩ _ (by simp))).mono ?_); rintro e w1 ⟨rfl, hb1⟩; go_must (rw [HN.out]; obtain ⟨c0, c1, c2, c3⟩ := kept1 hb1; have hB := grow2b hb1; clear hb1))
   | (go_at_call 84; go_must (refine (lwithin_as HR _).mono ?_); rintro e w2 ⟨rfl, hb2⟩; go_must (have hB2 := hB.trans (hb2.mono hB.size); clear hb2))
   | (go_at_call 55; go_must (refine (lunless_any r 35 _).mono ?_); rintro e w3 ⟨rfl, hb3⟩; go_must (have hB3 := hB2.trans (hb3.mono hB2.size); clear hb3)))
  go_ret
  exact ⟨reti HE.out.symm, hB3⟩
 ·have HN : Hid (numsE [⟨k, lo, hi, m⟩] = 33) := by show _ = _; simp [numsE, h1]
  have HE : Hid (wordE ⟨k, lo, hi, m⟩ = 33) := by show _ = _; unfold wordE; rw [if_pos h1]
  go_enter Tryz.func56, Tryz.ntmps56
  go_wp2_with (first
   | (go_at_call 57; go_must (refine (lnums_any _ [⟨k, lo, hi, m⟩] _ (seesT_one _ _ ⟨k, lo, hi, m⟩ _ (by simp))).mono ?_); rintro e w1 ⟨rfl, hb1⟩; go_must (rw [HN.out]; have hB := grow2b hb1; clear hb1)))
  go_ret
  exact ⟨reti HE.out.symm, hB⟩
theorem keepJ {p : Prop} (h : p) : Hid p := h
theorem flatT_part {h : St} {k : Nat} {tk tl th tm : Int} (hk : k < h.length) (ht : h.getD k Ty.nil = ⟨tk, tl, th, tm⟩) : (flatT h).toArray.extract (k * 4) (k * 4 + 4) = #[.int .i64 tk, .int .u64 tl, .int .u64 th, .int .i64 tm] := by
 apply Array.ext_getElem?
 intro j
 rw [Array.getElem?_extract]
 by_cases hj : j < 4
 ·have := flatT_at h k j hk hj
  rw [ht] at this
  have hl : (flatT h).length = h.length * 4 := flatT_len h
  rw [if_pos (by simp [hl]; omega)]
  simp only [List.getElem?_toArray]
  rw [this]
 ·rw [if_neg (by simp; omega)]
  rw [Array.getElem?_eq_none (by simp; omega)]
theorem run_index9 {h : St} {k : Nat} {tk tl th tm : Int} (h8 : h.length = 8) (hk : k < 8) (ht : h.getD k Ty.nil = ⟨tk, tl, th, tm⟩) (w : World) :
  (Instr.index 113 (.agg (flatT h).toArray) (.int .i64 k)).run Tryz.prog w = .ok (.agg #[.int .i64 tk, .int .u64 tl, .int .u64 th, .int .i64 tm]) w := by
 have e := flatT_part (h := h) (k := k) (by omega) ht
 have h1 : (k : Int) < 8 := by omega
 have e' : (List.take 4 (List.drop (k * 4) (flatT h))).toArray = #[.int .i64 tk, .int .u64 tl, .int .u64 th, .int .i64 tm] := by
  rw [<- e]; simp
 have hs : (Go.sizeOf 112).run Tryz.prog w = .ok 4 w := by simp [Go.sizeOf]; rfl
 have ha : (isAgg 112).run Tryz.prog w = .ok true w := by kernel_rfl
 simp [Instr.index, asIntOf, run_underlying Tryz.underlying113, part, hs, ha, h1, hk, e']
theorem StAt.types {w : World} {b o : Nat} {r : Bool} {s : St} (h : StAt w b o r s) : w.rangeAt b (o + 1) (flatT s) := fun j v hv => by
 have := h (j + 1) v (by unfold stC; rw [List.getElem?_cons_succ]; exact hv)
 rw [show o + 1 + j = o + (j + 1) by omega]
 exact this
theorem sizeA8 {s : St} (h : s.length = 8) : (Tryz.prog.info? 113).map (·.size) = some (flatT s).length := by rw [flatT_len, h]; kernel_rfl
def fitsAllS (s h : St) : Bool := (List.range 8).all fun k => fitsS (s.getD k Ty.nil) (h.getD k Ty.nil)
theorem ltypeFits_as {a b : Ty} {r : Bool} (h : Hid (r = fitsS a b)) (w : World) : Calls Tryz.prog 85 #[tyV a, tyV b] w fun e w' => e = .returned (.bool r) /\ Below w.heap.size w w' := by
 rw [h.out]; exact ltypeFits_any a b w
theorem range_all {p : Nat -> Bool} (k : Nat) : (List.range (k + 1)).all p = ((List.range k).all p && p k) := by rw [List.range_succ, List.all_append]; simp
theorem range_no {p : Nat -> Bool} {k n : Nat} (hk : k < n) (h : p k = false) : (List.range n).all p = false := by
 rw [List.all_eq_false]
 exact ⟨k, List.mem_range.2 hk, by simp [h]⟩
set_option maxHeartbeats 1600000 in
theorem lfits_any (r r' : Bool) (s h : St) (w : World) (h8 : s.length = 8) (hh : h.length = 8) : Calls Tryz.prog 59 #[stV r s, stV r' h] w fun e w' => e = .returned (.bool (fitsAllS s h)) /\ Below w.heap.size w w' := by
 obtain ⟨R, HR⟩ : ∃ R, Hid (R = fitsAllS s h) := ⟨_, rfl⟩
 rw [<- HR.out]
 have HL : Hid (((w.alloc (stO r s)).alloc (stO r' h)).rangeAt (w.heap.size + 1) 1 (flatT h)) := by
  have := (stAt_new (w.alloc (stO r s)) r' h).types
  show World.rangeAt _ _ _ _
  simpa using this
 have hsz := sizeA8 hh
 have HZ : Hid ((Tryz.prog.info? 113).map (·.size) = some (flatT h).length) := hsz
 clear hsz
 have HA : Hid (∀ wr, Below ((w.alloc (stO r s)).alloc (stO r' h)).heap.size ((w.alloc (stO r s)).alloc (stO r' h)) wr -> ∀ k, k < 8 -> AtT wr w.heap.size (0 + 1 + k * 4) (s.getD k Ty.nil)) := fun wr hb k hk =>
  ((stAt_new w r s).below ((Below.refl _ _).alloc (Nat.le_refl _) _) (by simp) |>.typ h8 hk).below hb (by simp; omega)
 go_enter Tryz.func59, Tryz.ntmps59
 go_wp2_with ((with_reducible refine wpList_load_mid ?qa 113 (.tmp 7) ?qb (w.heap.size + 1) 1 ?qc (flatT h) _ HL.out Tryz.underlying113 ?qd HZ.out ?qe); (case qa => rfl); (case qb => rfl); (case qc => rfl); (case qd => rfl))
 obtain ⟨W2, HW2, HB2, hW2⟩ : ∃ W2, Hid (W2 = (w.alloc (stO r s)).alloc (stO r' h)) /\ Hid (Below w.heap.size w W2) /\ W2.heap.size <= w.heap.size + 2 /\ w.heap.size + 2 <= W2.heap.size := ⟨_, rfl, keepJ (by go_grown), by simp, by simp⟩
 rw [<- HW2.out] at HA ⊢
 clear HL HZ HW2
 go_loopw [9] (fun i wr => ∃ k : Nat, k <= 8 /\ i = .int .i64 k /\ Hid ((List.range k).all (fun k => fitsS (s.getD k Ty.nil) (h.getD k Ty.nil)) = true) /\ Below W2.heap.size W2 wr) (fun i _ => 8 - (intOf i).toNat)
 case atStart => exact ⟨0, by omega, rfl, rfl, Below.refl _ _⟩
 case round =>
  obtain ⟨k, hk, rfl, HI, hbe⟩ := hrel
  have hwz := hbe.size
  by_cases hlt : k < 8
  ·obtain ⟨tk, tl, th, tm, HT⟩ : ∃ k' lo hi m, Hid (h.getD k Ty.nil = ⟨k', lo, hi, m⟩) := ⟨_, _, _, _, rfl⟩
   obtain ⟨sk, sl, sh, sm, HS⟩ : ∃ k' lo hi m, Hid (s.getD k Ty.nil = ⟨k', lo, hi, m⟩) := ⟨_, _, _, _, rfl⟩
   have hidx := run_index9 hh hlt HT.out
   obtain ⟨q, HQ⟩ : ∃ q, Hid (q = fitsS ⟨sk, sl, sh, sm⟩ ⟨tk, tl, th, tm⟩) := ⟨_, rfl⟩
   have HQ' : Hid (fitsS (s.getD k Ty.nil) (h.getD k Ty.nil) = q) := by show _ = _; rw [HS.out, HT.out]; exact HQ.out.symm
   have hA := HA.out wr hbe k hlt
   rw [HS.out] at hA
   obtain ⟨a0, a1, a2, a3⟩ := hA
   simp only [Nat.zero_add] at a0 a1 a2 a3
   have hkI : (k : Int) < 8 := by omega
   have hn1 : ¬ w.heap.size = wr.heap.size := by omega
   have hn2 : ¬ wr.heap.size = w.heap.size := by omega
   have hn3 : w.heap.size < wr.heap.size := by omega
   go_wp2
   obtain ⟨Y, HY, HBY, hYz, b0, b1, b2, b3, g0, g1, g2, g3⟩ : ∃ Y, Hid (Y = wr.alloc (Obj.cells #[.int .i64 tk, .int .u64 tl, .int .u64 th, .int .i64 tm] 112)) /\ Hid (Below wr.heap.size wr Y) /\ wr.heap.size < Y.heap.size /\
    Y.cell? ⟨wr.heap.size, 0, none⟩ = some (.int .i64 tk) /\ Y.cell? ⟨wr.heap.size, 1, none⟩ = some (.int .u64 tl) /\ Y.cell? ⟨wr.heap.size, 2, none⟩ = some (.int .u64 th) /\ Y.cell? ⟨wr.heap.size, 3, none⟩ = some (.int .i64 tm) /\
    Y.cell? ⟨w.heap.size, 1 + k * 4, none⟩ = some (.int .i64 sk) /\ Y.cell? ⟨w.heap.size, 1 + k * 4 + 1, none⟩ = some (.int .u64 sl) /\ Y.cell? ⟨w.heap.size, 1 + k * 4 + 2, none⟩ = some (.int .u64 sh) /\ Y.cell? ⟨w.heap.size, 1 + k * 4 + 3, none⟩ = some (.int .i64 sm) :=
    ⟨_, rfl, keepJ (by go_grown), by simp, by go_cell, by go_cell, by go_cell, by go_cell, by go_cell, by go_cell, by go_cell, by go_cell⟩
   rw [<- HY.out]
   clear a0 a1 a2 a3
   cases q with
   | true =>
    go_region_held3 (fun w' => (w'.cell? ⟨w.heap.size, 1 + k * 4, none⟩ = some (.int .i64 sk) /\ w'.cell? ⟨w.heap.size, 1 + k * 4 + 1, none⟩ = some (.int .u64 sl) /\ w'.cell? ⟨w.heap.size, 1 + k * 4 + 2, none⟩ = some (.int .u64 sh) /\ w'.cell? ⟨w.heap.size, 1 + k * 4 + 3, none⟩ = some (.int .i64 sm)) /\ w'.cell? ⟨wr.heap.size, 0, none⟩ = some (.int .i64 tk) /\ w'.cell? ⟨wr.heap.size, 1, none⟩ = some (.int .u64 tl) /\ w'.cell? ⟨wr.heap.size, 2, none⟩ = some (.int .u64 th) /\ w'.cell? ⟨wr.heap.size, 3, none⟩ = some (.int .i64 tm))
     (first | exact hAt3 | exact ⟨⟨g0, g1, g2, g3⟩, b0, b1, b2, b3⟩)
     (first | (go_at_call 85; go_must (refine (ltypeFits_as HQ _).mono ?_); rintro e w3 ⟨rfl, hb3'⟩; go_must (have hb3 : Below Y.heap.size Y w3 := below_undrew hb3'; have hAt3 := At2.below (⟨⟨g0, g1, g2, g3⟩, b0, b1, b2, b3⟩ : At2 Y w.heap.size (1 + k * 4) ⟨sk, sl, sh, sm⟩ wr.heap.size 0 ⟨tk, tl, th, tm⟩) hb3 (by omega) (by omega); have hB3 : Below W2.heap.size W2 w3 := (hbe.trans (HBY.out.mono hwz)).trans (hb3.mono (by omega)); clear hb3')))
    go_wp2
    go_roundw
    case rel => exact ⟨k + 1, by omega, by go_num, by show _ = _; rw [range_all, HI.out, HQ'.out]; rfl, hB3⟩
    case measure => simp [intOf]; omega
   | false =>
    have HRf : Hid (R = false) := by show _ = _; rw [HR.out]; exact range_no hlt HQ'.out
    go_region_held3 (fun w' => (w'.cell? ⟨w.heap.size, 1 + k * 4, none⟩ = some (.int .i64 sk) /\ w'.cell? ⟨w.heap.size, 1 + k * 4 + 1, none⟩ = some (.int .u64 sl) /\ w'.cell? ⟨w.heap.size, 1 + k * 4 + 2, none⟩ = some (.int .u64 sh) /\ w'.cell? ⟨w.heap.size, 1 + k * 4 + 3, none⟩ = some (.int .i64 sm)) /\ w'.cell? ⟨wr.heap.size, 0, none⟩ = some (.int .i64 tk) /\ w'.cell? ⟨wr.heap.size, 1, none⟩ = some (.int .u64 tl) /\ w'.cell? ⟨wr.heap.size, 2, none⟩ = some (.int .u64 th) /\ w'.cell? ⟨wr.heap.size, 3, none⟩ = some (.int .i64 tm))
     (first | exact hAt3 | exact ⟨⟨g0, g1, g2, g3⟩, b0, b1, b2, b3⟩)
     (first | (go_at_call 85; go_must (refine (ltypeFits_as HQ _).mono ?_); rintro e w3 ⟨rfl, hb3'⟩; go_must (have hb3 : Below Y.heap.size Y w3 := below_undrew hb3'; have hAt3 := At2.below (⟨⟨g0, g1, g2, g3⟩, b0, b1, b2, b3⟩ : At2 Y w.heap.size (1 + k * 4) ⟨sk, sl, sh, sm⟩ wr.heap.size 0 ⟨tk, tl, th, tm⟩) hb3 (by omega) (by omega); have hB3 : Below W2.heap.size W2 w3 := (hbe.trans (HBY.out.mono hwz)).trans (hb3.mono (by omega)); clear hb3')))
    go_wp2
    go_ret
    exact ⟨by rw [HRf.out]; rfl, HB2.out.trans (hB3.mono (by omega))⟩
  ·obtain rfl : k = 8 := by omega
   have HRt : Hid (R = true) := by show _ = _; rw [HR.out]; exact HI.out
   go_wp2
   go_ret
   exact ⟨by rw [HRt.out]; rfl, HB2.out.trans (hbe.mono (by omega))⟩
theorem sizeJ {r : Bool} {s : St} (h : s.length = 8) : (Tryz.prog.info? 115).map (·.size) = some (stC r s).length := by rw [stC_len r h]; kernel_rfl
theorem sizeJA {r : Bool} {s : St} (h : s.length = 8) : (Tryz.prog.info? 115).map (·.size) = some (stC r s).toArray.size := by rw [stC_size r h]; kernel_rfl
theorem Made8.ends {nm : Nat} {s : St} (h : Made8 nm s) {k : Nat} (hk : k < 8) : wfS ((s.getD k Ty.nil).lo, (s.getD k Ty.nil).hi) := (h.get hk).ends
theorem seesS_two (w : World) (t : TypeId) (x X y Y : Int) (k : Nat) (hk : k = w.heap.size) : SeesS (w.alloc (.cells #[.int .u64 x, .int .u64 X, .int .u64 y, .int .u64 Y] t)) (.slice (some ⟨k, 0, none⟩) 2 2) [(x, X), (y, Y)] := by
 subst hk
 exact SeesS.lit w t [(x, X), (y, Y)] _ 2 rfl rfl (by simp)
theorem ljoin2_as {a A b B lo hi : Int} {ok : Bool} (ha : wfS (a, A)) (hb : wfS (b, B)) (h : Hid (optV (if joinB [(a, A), (b, B)] = true then some (joinL [(a, A), (b, B)]) else none) = .tuple #[.agg #[.int .u64 lo, .int .u64 hi], .bool ok]))
  (v : Value) (w : World) (hs : SeesS w v [(a, A), (b, B)]) : Calls Tryz.prog 79 #[v] w fun e w' => e = .returned (.tuple #[.agg #[.int .u64 lo, .int .u64 hi], .bool ok]) /\ Below w.heap.size w w' := by
 have := ljoin_any v [(a, A), (b, B)] w hs (by intro s hs; simp at hs; rcases hs with rfl | rfl <;> assumption)
 rw [h.out] at this
 exact this
theorem join_letters (a A b B : Int) : ∃ lo hi ok, Hid (optV (if joinB [(a, A), (b, B)] = true then some (joinL [(a, A), (b, B)]) else none) = .tuple #[.agg #[.int .u64 lo, .int .u64 hi], .bool ok]) /\ Hid (joinL [(a, A), (b, B)] = (lo, hi)) := by
 by_cases h : joinB [(a, A), (b, B)] = true
 ·exact ⟨_, _, true, by show _ = _; rw [if_pos h]; rfl, rfl⟩
 ·exact ⟨0, 0, false, by show _ = _; rw [if_neg h]; rfl, by show _ = _; unfold joinL; rw [if_neg h]⟩
theorem box_ret4 {fn : Func} {p : Tmp} {w w2 : World} {n B : Nat} {tmps : Array Value} {k lo hi m : Int} (hr : fn.results = #[.cell p 112]) (hp : tmps.getD p undef = .pointer (some ⟨n, 0, none⟩))
  (hx : AtT w2 n 0 ⟨k, lo, hi, m⟩) (hB : Below B w w2) : bodyPost Tryz.prog fn (fun e w' => e = .returned (tyV ⟨k, lo, hi, m⟩) /\ Below B w w') .ret ⟨tmps, []⟩ w2 := by
 refine bodyPost_ret (v := tyV ⟨k, lo, hi, m⟩) ?_ rfl ⟨rfl, hB⟩
 rw [results_cell hr, hp]
 simp only [asAddr, Sem.run_pure, Result.andThen]
 rw [run_boxT hx]
theorem kept_box3 {w w1 : World} {a b o : Obj} (h : Below ((((w.alloc a).alloc b).alloc (tyO Ty.nil)).alloc o).heap.size ((((w.alloc a).alloc b).alloc (tyO Ty.nil)).alloc o) w1) :
  Below w.heap.size w w1 /\ w.heap.size + 1 + 1 + 1 < w1.heap.size /\ Hid (BxT w1 (w.heap.size + 1 + 1) 0 Ty.nil) /\ True /\ True := by
 have h' : Below (((w.alloc a).alloc b).alloc (tyO Ty.nil)).heap.size (((w.alloc a).alloc b).alloc (tyO Ty.nil)) w1 := ((Below.refl _ _).alloc (Nat.le_refl _) o).trans (h.mono (by simp))
 obtain ⟨hB, hz, HX, _⟩ := box_kept h'
 have hs := h.size
 simp at hs HX
 exact ⟨((Below.refl _ _).alloc (Nat.le_refl _) a |>.alloc (by simp) b).trans (hB.mono (by simp only [World.size_alloc]; omega)), by omega, HX, trivial, trivial⟩
theorem kept_box4 {w w1 w2 : World} {n : Nat} {o : Obj} (hB : Below w.heap.size w w1) (hz : n + 1 < w1.heap.size) (hx : Hid (BxT w1 n 0 Ty.nil)) (h : Below (w1.alloc o).heap.size (w1.alloc o) w2) :
  Below w.heap.size w w2 /\ Hid (BxT w2 n 0 Ty.nil) /\ w2.cell? ⟨n, 0, none⟩ = some (.int .i64 0) /\ w2.cell? ⟨n, 1, none⟩ = some (.int .u64 0) /\ w2.cell? ⟨n, 2, none⟩ = some (.int .u64 0) /\ w2.cell? ⟨n, 3, none⟩ = some (.int .i64 0) /\
  w2.frozen? ⟨n, 0, none⟩ = false /\ w2.frozen? ⟨n, 1, none⟩ = false /\ w2.frozen? ⟨n, 2, none⟩ = false /\ w2.frozen? ⟨n, 3, none⟩ = false := by
 have hs := hB.size
 have hb1 : Below w1.heap.size w1 w2 := ((Below.refl _ _).alloc (Nat.le_refl _) o).trans (h.mono (by simp))
 have hX := hx.out.below hb1 (by omega)
 obtain ⟨⟨c0, c1, c2, c3⟩, f0, f1, f2, f3⟩ := hX
 exact ⟨hB.trans (hb1.mono hs), hx.out.below hb1 (by omega), c0, c1, c2, c3, f0, f1, f2, f3⟩
theorem join2_same (a : Ty) : join2 a a = a := by unfold join2; rw [if_pos ((eqT_iff a a).2 rfl)]
set_option maxHeartbeats 1600000 in
theorem ljoined_same (a : Ty) (w : World) : Calls Tryz.prog 51 #[tyV a, tyV a] w fun e w' => e = .returned (tyV a) /\ Below w.heap.size w w' := by
 obtain ⟨k, lo, hi, m⟩ := a
 go_enter Tryz.func51, Tryz.ntmps51
 go_wp2
 exact box_ret4 rfl rfl ⟨by go_cell, by go_cell, by go_cell, by go_cell⟩ (by go_grown)
set_option maxHeartbeats 1600000 in
theorem ljoined_k_nil (ak al ah am bk bl bh bm : Int) (h : ¬ ak = bk) (w : World) : Calls Tryz.prog 51 #[tyV ⟨ak, al, ah, am⟩, tyV ⟨bk, bl, bh, bm⟩] w fun e w' => e = .returned (tyV ⟨0, 0, 0, 0⟩) /\ Below w.heap.size w w' := by
 by_cases h1 : ak = 1
 ·subst h1
  have h2 : ¬ bk = 1 := fun e => h e.symm
  go_enter Tryz.func51, Tryz.ntmps51
  go_wp2
  exact box_ret4 rfl rfl ⟨by go_cell, by go_cell, by go_cell, by go_cell⟩ (by go_grown)
 ·go_enter Tryz.func51, Tryz.ntmps51
  go_wp2
  exact box_ret4 rfl rfl ⟨by go_cell, by go_cell, by go_cell, by go_cell⟩ (by go_grown)
set_option maxHeartbeats 1600000 in
theorem ljoined_l_num (al ah am bl bh bm : Int) (h : ¬ al = bl) (lo hi : Int) (ok : Bool) (ha : wfS (al, ah)) (hb : wfS (bl, bh))
  (HJ : Hid (optV (if joinB [(al, ah), (bl, bh)] = true then some (joinL [(al, ah), (bl, bh)]) else none) = .tuple #[.agg #[.int .u64 lo, .int .u64 hi], .bool ok])) (w : World) :
  Calls Tryz.prog 51 #[tyV ⟨1, al, ah, am⟩, tyV ⟨1, bl, bh, bm⟩] w fun e w' => e = .returned (tyV ⟨1, lo, hi, 0⟩) /\ Below w.heap.size w w' := by
 go_enter Tryz.func51, Tryz.ntmps51
 go_wp2_with (first
  | (go_at_call 79; go_must (refine (ljoin2_as ha hb HJ _ _ (seesS_two _ _ _ _ _ _ _ (by simp))).mono ?_); rintro e w1 ⟨rfl, hb1⟩; go_must (obtain ⟨hB1, hz1, HX1, hc, hf⟩ := kept_box3 hb1; clear hb1))
  | (go_at_call 80; go_must (refine (lnumber_any _ _ _).mono ?_); rintro e w2 ⟨rfl, hb2⟩; go_must (obtain ⟨hB2, HX, c0, c1, c2, c3, f0, f1, f2, f3⟩ := kept_box4 hB1 hz1 HX1 hb2; clear hb2 hB1)))
 exact box_ret1 rfl rfl (t := ⟨1, lo, hi, 0⟩) HX.out hB2 (by omega)
set_option maxHeartbeats 1600000 in
theorem ljoined_l_nil (ak al ah am bl bh bm : Int) (h : ¬ al = bl) (h1 : ¬ ak = 1) (w : World) : Calls Tryz.prog 51 #[tyV ⟨ak, al, ah, am⟩, tyV ⟨ak, bl, bh, bm⟩] w fun e w' => e = .returned (tyV ⟨0, 0, 0, 0⟩) /\ Below w.heap.size w w' := by
 go_enter Tryz.func51, Tryz.ntmps51
 go_wp2
 exact box_ret4 rfl rfl ⟨by go_cell, by go_cell, by go_cell, by go_cell⟩ (by go_grown)
set_option maxHeartbeats 1600000 in
theorem ljoined_h_num (al ah am bh bm : Int) (h : ¬ ah = bh) (lo hi : Int) (ok : Bool) (ha : wfS (al, ah)) (hb : wfS (al, bh))
  (HJ : Hid (optV (if joinB [(al, ah), (al, bh)] = true then some (joinL [(al, ah), (al, bh)]) else none) = .tuple #[.agg #[.int .u64 lo, .int .u64 hi], .bool ok])) (w : World) :
  Calls Tryz.prog 51 #[tyV ⟨1, al, ah, am⟩, tyV ⟨1, al, bh, bm⟩] w fun e w' => e = .returned (tyV ⟨1, lo, hi, 0⟩) /\ Below w.heap.size w w' := by
 go_enter Tryz.func51, Tryz.ntmps51
 go_wp2_with (first
  | (go_at_call 79; go_must (refine (ljoin2_as ha hb HJ _ _ (seesS_two _ _ _ _ _ _ _ (by simp))).mono ?_); rintro e w1 ⟨rfl, hb1⟩; go_must (obtain ⟨hB1, hz1, HX1, hc, hf⟩ := kept_box3 hb1; clear hb1))
  | (go_at_call 80; go_must (refine (lnumber_any _ _ _).mono ?_); rintro e w2 ⟨rfl, hb2⟩; go_must (obtain ⟨hB2, HX, c0, c1, c2, c3, f0, f1, f2, f3⟩ := kept_box4 hB1 hz1 HX1 hb2; clear hb2 hB1)))
 exact box_ret1 rfl rfl (t := ⟨1, lo, hi, 0⟩) HX.out hB2 (by omega)
set_option maxHeartbeats 1600000 in
theorem ljoined_h_nil (ak al ah am bh bm : Int) (h : ¬ ah = bh) (h1 : ¬ ak = 1) (w : World) : Calls Tryz.prog 51 #[tyV ⟨ak, al, ah, am⟩, tyV ⟨ak, al, bh, bm⟩] w fun e w' => e = .returned (tyV ⟨0, 0, 0, 0⟩) /\ Below w.heap.size w w' := by
 go_enter Tryz.func51, Tryz.ntmps51
 go_wp2
 exact box_ret4 rfl rfl ⟨by go_cell, by go_cell, by go_cell, by go_cell⟩ (by go_grown)
set_option maxHeartbeats 1600000 in
theorem ljoined_m_num (al ah am bm : Int) (h : ¬ am = bm) (lo hi : Int) (ok : Bool) (ha : wfS (al, ah)) (hb : wfS (al, ah))
  (HJ : Hid (optV (if joinB [(al, ah), (al, ah)] = true then some (joinL [(al, ah), (al, ah)]) else none) = .tuple #[.agg #[.int .u64 lo, .int .u64 hi], .bool ok])) (w : World) :
  Calls Tryz.prog 51 #[tyV ⟨1, al, ah, am⟩, tyV ⟨1, al, ah, bm⟩] w fun e w' => e = .returned (tyV ⟨1, lo, hi, 0⟩) /\ Below w.heap.size w w' := by
 go_enter Tryz.func51, Tryz.ntmps51
 go_wp2_with (first
  | (go_at_call 79; go_must (refine (ljoin2_as ha hb HJ _ _ (seesS_two _ _ _ _ _ _ _ (by simp))).mono ?_); rintro e w1 ⟨rfl, hb1⟩; go_must (obtain ⟨hB1, hz1, HX1, hc, hf⟩ := kept_box3 hb1; clear hb1))
  | (go_at_call 80; go_must (refine (lnumber_any _ _ _).mono ?_); rintro e w2 ⟨rfl, hb2⟩; go_must (obtain ⟨hB2, HX, c0, c1, c2, c3, f0, f1, f2, f3⟩ := kept_box4 hB1 hz1 HX1 hb2; clear hb2 hB1)))
 exact box_ret1 rfl rfl (t := ⟨1, lo, hi, 0⟩) HX.out hB2 (by omega)
set_option maxHeartbeats 1600000 in
theorem ljoined_m_nil (ak al ah am bm : Int) (h : ¬ am = bm) (h1 : ¬ ak = 1) (w : World) : Calls Tryz.prog 51 #[tyV ⟨ak, al, ah, am⟩, tyV ⟨ak, al, ah, bm⟩] w fun e w' => e = .returned (tyV ⟨0, 0, 0, 0⟩) /\ Below w.heap.size w w' := by
 go_enter Tryz.func51, Tryz.ntmps51
 go_wp2
 exact box_ret4 rfl rfl ⟨by go_cell, by go_cell, by go_cell, by go_cell⟩ (by go_grown)
theorem ljoined_any (a b : Ty) (w : World) (ha : wfS (a.lo, a.hi)) (hb : wfS (b.lo, b.hi)) : Calls Tryz.prog 51 #[tyV a, tyV b] w fun e w' => e = .returned (tyV (join2 a b)) /\ Below w.heap.size w w' := by
 by_cases he : eqT a b = true
 ·have e := (eqT_iff a b).1 he
  subst e
  rw [join2_same]
  exact ljoined_same a w
 obtain ⟨lo, hi, ok, HJ, HL⟩ := join_letters a.lo a.hi b.lo b.hi
 have HE : join2 a b = if a.k = 1 /\ b.k = 1 then num2 lo hi else Ty.nil := by unfold join2; rw [if_neg he]; simp only [HL.out]
 rw [HE]
 clear HE HL
 obtain ⟨ak, al, ah, am⟩ := a
 obtain ⟨bk, bl, bh, bm⟩ := b
 simp only at ha hb HJ ⊢
 by_cases e0 : ak = bk
 case neg =>
  rw [if_neg (by omega)]
  exact ljoined_k_nil _ _ _ _ _ _ _ _ e0 w
 subst e0
 by_cases h1 : ak = 1
 ·subst h1
  rw [if_pos ⟨rfl, rfl⟩]
  by_cases e1 : al = bl
  case neg => exact ljoined_l_num _ _ _ _ _ _ e1 lo hi ok ha hb HJ w
  subst e1
  by_cases e2 : ah = bh
  case neg => exact ljoined_h_num _ _ _ _ _ e2 lo hi ok ha hb HJ w
  subst e2
  refine ljoined_m_num _ _ _ _ (fun e3 => ?_) lo hi ok ha hb HJ w
  subst e3
  exact he ((eqT_iff _ _).2 rfl)
 ·rw [if_neg (fun h => h1 h.1)]
  by_cases e1 : al = bl
  case neg => exact ljoined_l_nil _ _ _ _ _ _ _ e1 h1 w
  subst e1
  by_cases e2 : ah = bh
  case neg => exact ljoined_h_nil _ _ _ _ _ _ e2 h1 w
  subst e2
  refine ljoined_m_nil _ _ _ _ _ (fun e3 => ?_) h1 w
  subst e3
  exact he ((eqT_iff _ _).2 rfl)
def hasI (xs : List Int) (x : Int) : Bool := (List.range xs.length).any fun k => decide (xs.getD k 0 = x)
theorem hasI_no {xs : List Int} {x : Int} : hasI xs x = false ↔ ∀ k, k < xs.length -> xs.getD k 0 ≠ x := by
 unfold hasI
 rw [List.any_eq_false]
 constructor
 ·intro h k hk; simpa using h k (List.mem_range.2 hk)
 ·intro h k hk; simpa using h k (List.mem_range.1 hk)
theorem hasI_yes {xs : List Int} {x : Int} {k : Nat} (hk : k < xs.length) (h : xs.getD k 0 = x) : hasI xs x = true := by
 unfold hasI
 rw [List.any_eq_true]
 exact ⟨k, List.mem_range.2 hk, by simpa using h⟩
set_option maxHeartbeats 800000 in
theorem lindex_any (v : Value) (xs : List Int) (x : Int) (w : World) (hs : Sees .i64 w v xs) : Calls Tryz.prog 75 #[v, .int .i64 x] w fun e w' => ∃ q : Int, e = .returned (.int .i64 q) /\ Hid (decide (0 <= q) = hasI xs x) /\ w = w' := by
 have HS := keepJ hs
 obtain ⟨a, cap, rfl, h1, h2, h3, h4, h5⟩ := hs
 have hm : xs.length <= 9223372036854775807 := by unfold maxLen at h2; omega
 obtain ⟨N, HN⟩ : ∃ N, Hid (xs.length = N) := ⟨_, rfl⟩
 rw [HN.out] at hm h1
 rw [HN.out]
 go_enter Tryz.func75, Tryz.ntmps75
 go_wp2
 go_loopw [8] (fun i wr => ∃ k : Nat, k <= N /\ i = .int .i64 k /\ Hid (∀ j, j < k -> xs.getD j 0 ≠ x) /\ w = wr) (fun i _ => N - (intOf i).toNat)
 case atStart => exact ⟨0, by omega, rfl, fun j hj => by omega, rfl⟩
 case round =>
  obtain ⟨k, hk, rfl, HI, rfl⟩ := hrel
  by_cases hlt : k < N
  ·obtain ⟨b, off, rfl, hb, hat⟩ := h5 (fun e => by have := HN.out; rw [e] at this; simp at this; omega)
   obtain ⟨y, HY⟩ : ∃ y, Hid (xs.getD k 0 = y) := ⟨_, rfl⟩
   have c0 := hat k (by have := HN.out; omega)
   rw [HY.out] at c0
   have hkI : (k : Int) < N := by omega
   clear h5 hat
   by_cases hxy : x = y
   ·subst hxy
    have HQ : Hid (decide (0 <= (k : Int)) = hasI xs x) := by
     show _ = _
     rw [hasI_yes (k := k) (by have := HN.out; omega) HY.out]
     simp
    go_wp2
    go_ret
    exact ⟨_, rfl, HQ.out, rfl⟩
   ·go_wp2
    go_roundw
    case rel => exact ⟨k + 1, by omega, by go_num, fun j hj => by
     by_cases h : j = k
     ·subst h; rw [HY.out]; exact fun e => hxy e.symm
     ·exact HI.out j (by omega), by first | rfl | trivial⟩
    case measure => simp [intOf]; omega
  ·obtain rfl : k = N := by omega
   have HQ : Hid (decide (0 <= (-1 : Int)) = hasI xs x) := by
    show _ = _
    rw [hasI_no.2 (by rw [HN.out]; exact HI.out)]
    rfl
   go_wp2
   go_ret
   exact ⟨_, rfl, HQ.out, rfl⟩
theorem lcontains_any (v : Value) (xs : List Int) (x : Int) (w : World) (hs : Sees .i64 w v xs) {r : Bool} (hr : Hid (hasI xs x = r)) : Calls Tryz.prog 45 #[v, .int .i64 x] w fun e w' => e = .returned (.bool r) /\ w = w' := by
 have HS := keepJ hs
 obtain ⟨a, cap, rfl, _⟩ := hs
 go_enter Tryz.func45, Tryz.ntmps45
 go_wp2_with (go_at_call 75; go_must (refine (lindex_any _ xs x _ HS.out).mono ?_); rintro e w' ⟨q, rfl, HQ, rfl⟩)
 go_ret
 refine ⟨?_, rfl⟩
 rw [<- hr.out, <- HQ.out]
 rfl
def okM (ms : List Int) (i : Nat) : Bool := decide (0 <= ms.getD i 0) && decide (ms.getD i 0 <= 3) && ((List.range i).all fun k => decide (ms.getD k 0 ≠ ms.getD i 0))
theorem has_take {ms : List Int} {i : Nat} (hi : i <= ms.length) (x : Int) : hasI (ms.take i) x = !((List.range i).all fun k => decide (ms.getD k 0 ≠ x)) := by
 unfold hasI
 rw [List.length_take, Nat.min_eq_left hi, Bool.eq_iff_iff]
 simp only [List.any_eq_true, Bool.not_eq_true', List.all_eq_false, List.mem_range, decide_eq_true_eq]
 constructor
 ·rintro ⟨k, hk, h⟩
  exact ⟨k, hk, by simpa [List.getD, List.getElem?_take, hk] using h⟩
 ·rintro ⟨k, hk, h⟩
  exact ⟨k, hk, by simpa [List.getD, List.getElem?_take, hk] using h⟩
set_option maxHeartbeats 1600000 in
theorem lmapsFit_any (v : Value) (ms : List Int) (w : World) (hs : Sees .i64 w v ms) {r : Bool} (hr : Hid (mapsJ ms = r)) : Calls Tryz.prog 27 #[v] w fun e w' => e = .returned (.bool r) /\ w = w' := by
 have HS := keepJ hs
 obtain ⟨a, cap, rfl, h1, h2, h3, h4, h5⟩ := hs
 obtain ⟨N, HN⟩ : ∃ N, Hid (ms.length = N) := ⟨_, rfl⟩
 have hcap : cap <= 9223372036854775807 := by unfold maxLen at h2; omega
 rw [HN.out] at h1 HS ⊢
 by_cases hN : N <= 4
 ·have HE : Hid (r = (List.range N).all (okM ms)) := by
   show _ = _
   rw [<- hr.out]
   unfold mapsJ okM
   rw [HN.out, decide_eq_true hN, Bool.true_and]
  have hNI : (N : Int) <= 4 := by omega
  clear hr
  go_enter Tryz.func27, Tryz.ntmps27
  go_wp2
  go_loopw [10] (fun i wr => ∃ k : Nat, k <= N /\ i = .int .i64 k /\ Hid ((List.range k).all (okM ms) = true) /\ w = wr) (fun i _ => N - (intOf i).toNat)
  case atStart => exact ⟨0, by omega, rfl, rfl, rfl⟩
  case round =>
   obtain ⟨k, hk, rfl, HI, rfl⟩ := hrel
   by_cases hlt : k < N
   ·obtain ⟨b, off, rfl, hb, hat⟩ := h5 (fun e => by have := HN.out; rw [e] at this; simp at this; omega)
    obtain ⟨y, HY⟩ : ∃ y, Hid (ms.getD k 0 = y) := ⟨_, rfl⟩
    have c0 := hat k (by have := HN.out; omega)
    rw [HY.out] at c0
    have hkI : (k : Int) < N := by omega
    clear h5 hat
    by_cases hy0 : y < 0
    ·have HF : Hid (r = false) := by show _ = _; rw [HE.out]; exact range_no hlt (by unfold okM; rw [HY.out, decide_eq_false (by omega)]; rfl)
     go_wp2
     go_ret
     exact ⟨by rw [HF.out]; rfl, rfl⟩
    by_cases hy4 : 4 <= y
    ·have HF : Hid (r = false) := by show _ = _; rw [HE.out]; exact range_no hlt (by unfold okM; rw [HY.out, decide_eq_false (show ¬ y <= 3 by omega), Bool.and_false]; rfl)
     go_wp2
     go_ret
     exact ⟨by rw [HF.out]; rfl, rfl⟩
    obtain ⟨q, HQ⟩ : ∃ q, Hid (hasI (ms.take k) y = q) := ⟨_, rfl⟩
    have HOK : Hid (okM ms k = !q) := by
     show _ = _
     unfold okM
     rw [HY.out, decide_eq_true (show 0 <= y by omega), decide_eq_true (show y <= 3 by omega), <- HQ.out, has_take (by have := HN.out; omega)]
     simp
    have HC : Hid (Sees .i64 w (cutV (some ⟨b, off, none⟩) 0 k cap) (ms.take k)) := by
     have := Sees.cut (xs := ms) (a := some ⟨b, off, none⟩) (cap := cap) (by rw [HN.out]; exact HS.out) 0 k cap (by omega) (by have := HN.out; omega) (by omega) (Nat.le_refl _)
     rw [List.drop_zero] at this
     exact this
    have hsl := run_upto (e := 3) Tryz.underlying29 (fun w => by simp [Go.sizeOf]; rfl) (some ⟨b, off, none⟩) N cap k (by omega)
    cases q with
    | true =>
     have HF : Hid (r = false) := by show _ = _; rw [HE.out]; exact range_no hlt (by rw [HOK.out]; rfl)
     go_wp2_with (go_at_call 45; go_must (refine (lcontains_any _ (ms.take k) y _ HC.out HQ).mono ?_); rintro e w' ⟨rfl, rfl⟩)
     go_ret
     exact ⟨by rw [HF.out]; rfl, rfl⟩
    | false =>
     go_wp2_with (go_at_call 45; go_must (refine (lcontains_any _ (ms.take k) y _ HC.out HQ).mono ?_); rintro e w' ⟨rfl, rfl⟩)
     go_roundw
     case rel => exact ⟨k + 1, by omega, by go_num, by show _ = _; rw [range_all, HI.out, HOK.out]; rfl, by first | rfl | trivial⟩
     case measure => simp [intOf]; omega
   ·obtain rfl : k = N := by omega
    have HF : Hid (r = true) := by show _ = _; rw [HE.out]; exact HI.out
    go_wp2
    go_ret
    exact ⟨by rw [HF.out]; rfl, rfl⟩
 ·have HF : Hid (r = false) := by
   show _ = _
   rw [<- hr.out]
   unfold mapsJ
   rw [HN.out, decide_eq_false hN, Bool.false_and]
  have hNI : 4 < (N : Int) := by omega
  go_enter Tryz.func27, Tryz.ntmps27
  go_wp2
  go_ret
  exact ⟨by rw [HF.out]; rfl, rfl⟩
end Go.Proofs.YtkondcjmhlppiaaGreat
