/-
  JLit
  JLit2
  JLit3
  JFits
  JArr
  JMaps
-/
import Derived.Test.YtbaeakbnoijkcaaGreatMT23
import Derived.Test.YtbaeakbnoijkcaaGreatMT20
import Derived.Test.YtbaeakbnoijkcaaGreatMT13
import Derived.Test.YtbaeakbnoijkcaaGreatMT11
import Derived.Test.YtbaeakbnoijkcaaGreatMT6
import Derived.Deep.RegionHeld3
import Derived.Deep.RegionHeldLaw
namespace Go.Proofs.YtbaeakbnoijkcaaGreat
open Go.RowKit
set_option linter.unusedVariables false
set_option maxRecDepth 100000
set_option linter.unusedSimpArgs false
theorem qBe (lo hi : Int) (w : World) : Calls Tryz.prog 77 #[.agg #[.int .u64 lo, .int .u64 hi]] w fun e w' => e = .returned (tyV ⟨1, lo, hi, 0⟩) /\ Below w.heap.size w w' := by
 go_enter Tryz.func77, Tryz.ntmps77
 go_wp2
 refine bodyPost_ret (v := tyV ⟨1, lo, hi, 0⟩) ?_ rfl ⟨rfl, by go_grown⟩
 rw [qAk rfl]
 simp [asAddr, Result.andThen]
 rw [run_boxT (k := 1) (lo := lo) (hi := hi) (m := 0)]
 refine ⟨?_, ?_, ?_, ?_⟩ <;> go_cell
theorem stC_typ {r : Bool} {s : St} {n : Nat} {k lo hi m : Int} (h8 : s.length = 8) (hn : n < 8) (h : s.getD n Ty.nil = ⟨k, lo, hi, m⟩) :
  (stC r s)[1 + n * 4]? = some (.int .i64 k) /\ (stC r s)[1 + n * 4 + 1]? = some (.int .u64 lo) /\ (stC r s)[1 + n * 4 + 2]? = some (.int .u64 hi) /\ (stC r s)[1 + n * 4 + 3]? = some (.int .i64 m) := by
 have hc := fun j hj => stC_at r s n j (by omega) hj
 rw [h] at hc
 exact ⟨hc 0 (by omega), hc 1 (by omega), hc 2 (by omega), hc 3 (by omega)⟩
theorem two_alloc {w w2 : World} {a b : Obj} {n : Nat} (hn : n = ((w.alloc a).alloc b).heap.size) (h : Below n ((w.alloc a).alloc b) w2) : Below w.heap.size w w2 := by
 subst hn; exact grow2b h
set_option maxHeartbeats 800000 in
theorem lsource_any (i : In) (r : Bool) (s : St) (w : World) (h8 : s.length = 8) (hb : i.b = 8 ∨ (0 <= i.b /\ i.b <= 7)) :
  Calls Tryz.prog 60 #[stV r s, i.v] w fun e w' => e = .returned (tyV (srcT i s)) /\ Below w.heap.size w w' := by
 obtain ⟨op, d, a, b, imm⟩ := i
 simp only at hb
 by_cases hb8 : b = 8
 ·subst hb8
  have hw : IntKind.u64.wrap imm = u64 imm := by rw [IntKind.wrap_u64]; rfl
  have HE : Hid (srcT ⟨op, d, a, 8, imm⟩ s = num2 (u64 imm) (u64 imm)) := by show _ = _; unfold srcT; rw [if_pos rfl]
  go_enter Tryz.func60, Tryz.ntmps60
  go_wp2_with (first
   | (go_at_call 80; go_must (refine (qBr _ _).mono ?_); rintro e w1 ⟨rfl, hb1⟩)
   | (go_at_call 77; go_must (refine (qBe _ _ _).mono ?_); rintro e w2 ⟨rfl, hb2⟩; go_must (obtain ⟨hB2, hz, HX, c0, c1, c2, c3, f0, f1, f2, f3⟩ := box_keptN (w.heap.size + 1 + 1) (by simp) (hb1.trans (hb2.mono hb1.size)); clear hb1 hb2)))
  rw [HE.out]
  exact box_ret1 rfl rfl (t := num2 (u64 imm) (u64 imm)) HX.out (two_alloc (by simp) hB2) (by omega)
 ·obtain ⟨n, rfl⟩ := Int.eq_ofNat_of_zero_le (show 0 <= b by omega)
  have hn : n < 8 := by omega
  obtain ⟨tk, tl, th, tm, HT⟩ : ∃ k lo hi m, Hid (s.getD n Ty.nil = ⟨k, lo, hi, m⟩) := ⟨_, _, _, _, rfl⟩
  obtain ⟨q0, q1, q2, q3⟩ := stC_typ (r := r) h8 hn HT.out
  have HE : Hid (srcT ⟨op, d, a, n, imm⟩ s = ⟨tk, tl, th, tm⟩) := by show _ = _; unfold srcT regT; rw [if_neg hb8]; exact HT.out
  go_enter Tryz.func60, Tryz.ntmps60
  go_wp2
  rw [HE.out]
  refine bodyPost_ret (v := tyV ⟨tk, tl, th, tm⟩) ?_ rfl ⟨rfl, by go_grown⟩
  rw [qAk rfl]
  simp [asAddr, Result.andThen]
  rw [run_boxT (k := tk) (lo := tl) (hi := th) (m := tm)]
  refine ⟨?_, ?_, ?_, ?_⟩ <;> go_cell
def unlE (b : Bool) (x : Int) : Int := if b = true then 0 else x
theorem lunless_any (b : Bool) (x : Int) (w : World) : Calls Tryz.prog 61 #[.bool b, .int .i64 x] w fun e w' => e = .returned (.int .i64 (unlE b x)) /\ Below w.heap.size w w' := by
 cases b
 all_goals go_enter Tryz.func61, Tryz.ntmps61
 all_goals go_wp2
 all_goals go_ret
 ·exact ⟨rfl, by go_grown⟩
 ·exact ⟨rfl, by go_grown⟩
theorem bcell9 {B : Nat} {W w1 : World} (hb : Below B W w1) : (∀ b o, b < B -> w1.cell? ⟨b, o, none⟩ = W.cell? ⟨b, o, none⟩) /\ (∀ b o, b < B -> w1.frozen? ⟨b, o, none⟩ = W.frozen? ⟨b, o, none⟩) :=
 ⟨fun b o h => hb.cell (p := ⟨b, o, none⟩) h, fun b o h => hb.frozen (p := ⟨b, o, none⟩) h⟩
def fitsS (a b : Ty) : Bool := if b.k = 0 then true else if b.k = 1 then decide (a.k = 1) && withinB a.lo a.hi b.lo b.hi else eqT a b
theorem fits_eq {nm : Nat} {a b : Ty} (ha : Made nm a) (hb : Made nm b) : fitsS a b = fitsJ a b := by
 unfold fitsS fitsJ
 by_cases h0 : b.k = 0
 ·rw [if_pos h0, if_pos h0]
 rw [if_neg h0, if_neg h0]
 by_cases h1 : b.k = 1
 ·rw [if_pos h1]
  by_cases hk : a.k = 1
  ·rw [if_neg (by omega), if_pos h1, decide_eq_true hk, Bool.true_and]
  ·rw [if_pos (by omega), decide_eq_false hk, Bool.false_and]
 ·rw [if_neg h1]
  by_cases hk : a.k = b.k
  ·rw [if_neg (by omega), if_neg h1, Bool.eq_iff_iff, eqT_iff, ty_eq, decide_eq_true_eq]
   rcases ha with h | h | h <;> rcases hb with h' | h' | h' <;> omega
  ·rw [if_pos hk, Bool.eq_false_iff, Ne, eqT_iff, ty_eq]
   omega
set_option maxHeartbeats 800000 in
theorem ltypeFits_any (a b : Ty) (w : World) : Calls Tryz.prog 82 #[tyV a, tyV b] w fun e w' => e = .returned (.bool (fitsS a b)) /\ Below w.heap.size w w' := by
 obtain ⟨ak, al, ah, am⟩ := a
 obtain ⟨bk, bl, bh, bm⟩ := b
 by_cases h0 : bk = 0
 ·subst h0
  have HE : Hid (fitsS ⟨ak, al, ah, am⟩ ⟨0, bl, bh, bm⟩ = true) := by show _ = _; unfold fitsS; simp
  go_enter Tryz.func82, Tryz.ntmps82
  go_wp2
  go_ret
  exact ⟨rb HE.out.symm, by go_grown⟩
 by_cases h1 : bk = 1
 ·subst h1
  by_cases hk : ak = 1
  ·subst hk
   obtain ⟨r, HR⟩ : ∃ r, Hid (r = withinB al ah bl bh) := ⟨_, rfl⟩
   have HE : Hid (fitsS ⟨1, al, ah, am⟩ ⟨1, bl, bh, bm⟩ = r) := by show _ = _; unfold fitsS; simp [<- HR.out]
   go_enter Tryz.func82, Tryz.ntmps82
   go_wp2_with (go_at_call 81; go_must (refine (lwithin_as HR _).mono ?_); rintro e w1 ⟨rfl, hb1⟩)
   go_ret
   exact ⟨rb HE.out.symm, grow2b hb1⟩
  ·have HE : Hid (fitsS ⟨ak, al, ah, am⟩ ⟨1, bl, bh, bm⟩ = false) := by show _ = _; unfold fitsS; simp [hk]
   go_enter Tryz.func82, Tryz.ntmps82
   go_wp2
   go_ret
   exact ⟨rb HE.out.symm, by go_grown⟩
 ·obtain ⟨r, HR⟩ : ∃ r, Hid (r = eqT ⟨ak, al, ah, am⟩ ⟨bk, bl, bh, bm⟩) := ⟨_, rfl⟩
  have HE : Hid (fitsS ⟨ak, al, ah, am⟩ ⟨bk, bl, bh, bm⟩ = r) := by show _ = _; unfold fitsS; simp [h0, h1, HR.out]
  go_enter Tryz.func82, Tryz.ntmps82
  go_wp2
  all_goals go_ret
  all_goals refine ⟨rb ?_, by go_grown⟩
  all_goals rw [HE.out, HR.out]
  all_goals (simp [eqT]; try omega)
def blurT (t : Ty) : Ty := if t.k = 1 then fullT else Ty.nil
set_option maxHeartbeats 800000 in
theorem lblurred_any (t : Ty) (w : World) : Calls Tryz.prog 59 #[tyV t] w fun e w' => e = .returned (tyV (blurT t)) /\ Below w.heap.size w w' := by
 obtain ⟨k, lo, hi, m⟩ := t
 by_cases h1 : k = 1
 ·subst h1
  have HE : Hid (blurT ⟨1, lo, hi, m⟩ = fullT) := by show _ = _; unfold blurT; rw [if_pos rfl]
  go_enter Tryz.func59, Tryz.ntmps59
  go_wp2_with (first
   | (go_at_call 79; go_must (refine (qBa _).mono ?_); rintro e w1 ⟨rfl, hb1⟩)
   | (go_at_call 77; go_must (refine (qBe _ _ _).mono ?_); rintro e w2 ⟨rfl, hb2⟩; go_must (obtain ⟨hB2, hz, HX, c0, c1, c2, c3, f0, f1, f2, f3⟩ := box_keptN (w.heap.size + 1) (by simp) (hb1.trans (hb2.mono hb1.size)); clear hb1 hb2)))
  rw [HE.out]
  exact box_ret1 rfl rfl (t := fullT) HX.out (box_one (by simp) hB2) (by omega)
 ·have HE : Hid (blurT ⟨k, lo, hi, m⟩ = Ty.nil) := by show _ = _; unfold blurT; rw [if_neg h1]
  go_enter Tryz.func59, Tryz.ntmps59
  go_wp2
  rw [HE.out]
  refine bodyPost_ret (v := tyV Ty.nil) ?_ rfl ⟨rfl, by go_grown⟩
  rw [qAk rfl]
  simp [asAddr, Result.andThen]
  rw [run_boxT (k := 0) (lo := 0) (hi := 0) (m := 0)]
  ·rfl
  ·refine ⟨?_, ?_, ?_, ?_⟩ <;> go_cell
def numsE (l : List Ty) : Int := if l.all (fun t => decide (t.k = 1)) = true then 0 else 33
set_option maxHeartbeats 800000 in
theorem lnums_any (v : Value) (l : List Ty) (w : World) (hs : SeesT w v l) : Calls Tryz.prog 63 #[v] w fun e w' => e = .returned (.int .i64 (numsE l)) /\ Below w.heap.size w w' := by
 obtain ⟨ad, cap, rfl, hcap, hmax, _, hcell⟩ := hs
 obtain ⟨R, HR⟩ : ∃ R, Hid (R = numsE l) := ⟨_, rfl⟩
 rw [<- HR.out]
 obtain ⟨n, HN⟩ : ∃ n, Hid (n = l.length) := ⟨_, rfl⟩
 unfold maxLen at hmax
 rw [<- HN.out] at hcap ⊢
 have HC : Hid (l ≠ [] -> ∃ b off, ad = some ⟨b, off, none⟩ /\ b < w.heap.size /\ ∀ k, k < l.length -> AtT w b (off + k * 4) (l.getD k Ty.nil)) := hcell
 clear hcell
 go_enter Tryz.func63, Tryz.ntmps63
 go_wp2
 go_loopw [7] (fun i wr => ∃ k : Nat, k <= n /\ i = .int .i64 k /\ Hid ((l.take k).all (fun t => decide (t.k = 1)) = true) /\ Below w.heap.size w wr) (fun i _ => n - (intOf i).toNat)
 case atStart => exact ⟨0, by omega, rfl, rfl, by go_grown⟩
 case round =>
  obtain ⟨k, hk, rfl, HI, hbe⟩ := hrel
  have hsz := hbe.size
  by_cases hlt : k < n
  ·obtain ⟨b, off, rfl, hbk, hat⟩ := HC.out (fun e => by have := HN.out; rw [e] at this; simp at this; omega)
   obtain ⟨tk, tl, th, tm, HS⟩ : ∃ k' lo hi m, Hid (l.getD k Ty.nil = ⟨k', lo, hi, m⟩) := ⟨_, _, _, _, rfl⟩
   have hA := (hat k (by have := HN.out; omega)).below hbe hbk
   rw [HS.out] at hA
   obtain ⟨e0, e1, e2, e3⟩ := hA
   simp only at e0 e1 e2 e3
   clear hat
   have HT : Hid ((l.take (k + 1)).all (fun t => decide (t.k = 1)) = decide (tk = 1)) := by
    show _ = _
    have hk' : k < l.length := by have := HN.out; omega
    have e : l.getD k Ty.nil = l[k] := by simp [hk']
    rw [List.take_succ_eq_append_getElem hk', List.all_append, HI.out, <- e, HS.out]
    simp
   by_cases h1 : tk = 1
   ·subst h1
    go_wp2
    go_roundw
    case rel => exact ⟨k + 1, by omega, by go_num, HT.out, hbe.alloc hsz _⟩
    case measure => simp [intOf]; omega
   ·have HF : Hid (R = 33) := by
     show _ = _
     rw [HR.out]
     unfold numsE
     rw [if_neg]
     intro hc
     have h2 : (l.take (k + 1)).all (fun t => decide (t.k = 1)) = true := by
      rw [List.all_eq_true] at hc ⊢
      exact fun x hx => hc x (List.mem_of_mem_take hx)
     rw [HT.out] at h2
     exact h1 (of_decide_eq_true h2)
    go_wp2
    go_ret
    exact ⟨reti HF.out.symm, hbe.alloc hsz _⟩
  ·obtain rfl : k = n := by omega
   have HF : Hid (R = 0) := by
    show _ = _
    rw [HR.out]
    have := HI.out
    rw [HN.out, List.take_length] at this
    unfold numsE
    rw [if_pos this]
   go_wp2
   go_ret
   exact ⟨reti HF.out.symm, hbe⟩
theorem seesT_one (w : World) (t : TypeId) (x : Ty) (k : Nat) (hk : k = w.heap.size) : SeesT (w.alloc (.cells #[.int .i64 x.k, .int .u64 x.lo, .int .u64 x.hi, .int .i64 x.m] t)) (.slice (some ⟨k, 0, none⟩) 1 1) [x] := by
 subst hk
 exact SeesT.lit w t [x] _ 1 rfl rfl (by simp)
theorem seesT_two (w : World) (t : TypeId) (x y : Ty) (k : Nat) (hk : k = w.heap.size) : SeesT (w.alloc (.cells #[.int .i64 x.k, .int .u64 x.lo, .int .u64 x.hi, .int .i64 x.m, .int .i64 y.k, .int .u64 y.lo, .int .u64 y.hi, .int .i64 y.m] t)) (.slice (some ⟨k, 0, none⟩) 2 2) [x, y] := by
 subst hk
 exact SeesT.lit w t [x, y] _ 2 rfl rfl (by simp)
theorem kept1 {w w1 : World} {k lo hi m : Int} {o : Obj} {T : TypeId} (h : Below ((w.alloc (.cells #[.int .i64 k, .int .u64 lo, .int .u64 hi, .int .i64 m] T)).alloc o).heap.size ((w.alloc (.cells #[.int .i64 k, .int .u64 lo, .int .u64 hi, .int .i64 m] T)).alloc o) w1) :
  w1.cell? ⟨w.heap.size, 0, none⟩ = some (.int .i64 k) /\ w1.cell? ⟨w.heap.size, 1, none⟩ = some (.int .u64 lo) /\ w1.cell? ⟨w.heap.size, 2, none⟩ = some (.int .u64 hi) /\ w1.cell? ⟨w.heap.size, 3, none⟩ = some (.int .i64 m) := by
 obtain ⟨hc, _⟩ := bcell9 h
 refine ⟨?_, ?_, ?_, ?_⟩ <;> (rw [hc _ _ (by simp; omega)]; go_cell)
def wordE (t : Ty) : Int := if t.k ≠ 1 then 33 else if withinB t.lo t.hi 0 15 = true then 0 else 35
set_option maxHeartbeats 800000 in
theorem lword_any (t : Ty) (w : World) : Calls Tryz.prog 62 #[tyV t] w fun e w' => e = .returned (.int .i64 (wordE t)) /\ Below w.heap.size w w' := by
 obtain ⟨k, lo, hi, m⟩ := t
 by_cases h1 : k = 1
 ·subst h1
  obtain ⟨r, HR⟩ : ∃ r, Hid (r = withinB lo hi 0 15) := ⟨_, rfl⟩
  have HN : Hid (numsE [⟨1, lo, hi, m⟩] = 0) := by show _ = _; simp [numsE]
  have HE : Hid (wordE ⟨1, lo, hi, m⟩ = unlE r 35) := by show _ = _; unfold wordE unlE; rw [HR.out]; simp
  go_enter Tryz.func62, Tryz.ntmps62
  go_wp2_with (first
   | (go_at_call 63; go_must (refine (lnums_any _ [⟨1, lo, hi, m⟩] _ (seesT_one _ _ ⟨1, lo, hi, m⟩ _ (by simp))).mono ?_); rintro e w1 ⟨rfl, hb1⟩; go_must (rw [HN.out]; obtain ⟨c0, c1, c2, c3⟩ := kept1 hb1; have hB := grow2b hb1; clear hb1))
   | (go_at_call 81; go_must (refine (lwithin_as HR _).mono ?_); rintro e w2 ⟨rfl, hb2⟩; go_must (have hB2 := hB.trans (hb2.mono hB.size); clear hb2))
   | (go_at_call 61; go_must (refine (lunless_any r 35 _).mono ?_); rintro e w3 ⟨rfl, hb3⟩; go_must (have hB3 := hB2.trans (hb3.mono hB2.size); clear hb3)))
  go_ret
  exact ⟨reti HE.out.symm, hB3⟩
 ·have HN : Hid (numsE [⟨k, lo, hi, m⟩] = 33) := by show _ = _; simp [numsE, h1]
  have HE : Hid (wordE ⟨k, lo, hi, m⟩ = 33) := by show _ = _; unfold wordE; rw [if_pos h1]
  go_enter Tryz.func62, Tryz.ntmps62
  go_wp2_with (first
   | (go_at_call 63; go_must (refine (lnums_any _ [⟨k, lo, hi, m⟩] _ (seesT_one _ _ ⟨k, lo, hi, m⟩ _ (by simp))).mono ?_); rintro e w1 ⟨rfl, hb1⟩; go_must (rw [HN.out]; have hB := grow2b hb1; clear hb1)))
  go_ret
  exact ⟨reti HE.out.symm, hB⟩
theorem seesS_two (w : World) (t : TypeId) (x X y Y : Int) (k : Nat) (hk : k = w.heap.size) : SeesS (w.alloc (.cells #[.int .u64 x, .int .u64 X, .int .u64 y, .int .u64 Y] t)) (.slice (some ⟨k, 0, none⟩) 2 2) [(x, X), (y, Y)] := by
 subst hk
 exact SeesS.lit w t [(x, X), (y, Y)] _ 2 rfl rfl (by simp)
theorem ljoin2_as {a A b B lo hi : Int} {ok : Bool} (ha : wfS (a, A)) (hb : wfS (b, B)) (h : Hid (optV (if joinB [(a, A), (b, B)] = true then some (joinL [(a, A), (b, B)]) else none) = .tuple #[.agg #[.int .u64 lo, .int .u64 hi], .bool ok]))
  (v : Value) (w : World) (hs : SeesS w v [(a, A), (b, B)]) : Calls Tryz.prog 76 #[v] w fun e w' => e = .returned (.tuple #[.agg #[.int .u64 lo, .int .u64 hi], .bool ok]) /\ Below w.heap.size w w' := by
 have := ljoin_any v [(a, A), (b, B)] w hs (by intro s hs; simp at hs; rcases hs with rfl | rfl <;> assumption)
 rw [h.out] at this
 exact this
theorem join_letters (a A b B : Int) : ∃ lo hi ok, Hid (optV (if joinB [(a, A), (b, B)] = true then some (joinL [(a, A), (b, B)]) else none) = .tuple #[.agg #[.int .u64 lo, .int .u64 hi], .bool ok]) /\ Hid (joinL [(a, A), (b, B)] = (lo, hi)) := by
 by_cases h : joinB [(a, A), (b, B)] = true
 ·exact ⟨_, _, true, by show _ = _; rw [if_pos h]; rfl, rfl⟩
 ·exact ⟨0, 0, false, by show _ = _; rw [if_neg h]; rfl, by show _ = _; unfold joinL; rw [if_neg h]⟩
theorem box_ret4 {fn : Func} {p : Tmp} {w w2 : World} {n B : Nat} {tmps : Array Value} {k lo hi m : Int} (hr : fn.results = #[.cell p 108]) (hp : tmps.getD p undef = .pointer (some ⟨n, 0, none⟩))
  (hx : AtT w2 n 0 ⟨k, lo, hi, m⟩) (hB : Below B w w2) : bodyPost Tryz.prog fn (fun e w' => e = .returned (tyV ⟨k, lo, hi, m⟩) /\ Below B w w') .ret ⟨tmps, []⟩ w2 := by
 refine bodyPost_ret (v := tyV ⟨k, lo, hi, m⟩) ?_ rfl ⟨rfl, hB⟩
 rw [qAk hr, hp]
 simp only [asAddr, Sem.run_pure, Result.andThen]
 rw [run_boxT hx]
theorem kept_box3 {w w1 : World} {a b o : Obj} (h : Below ((((w.alloc a).alloc b).alloc (tyO Ty.nil)).alloc o).heap.size ((((w.alloc a).alloc b).alloc (tyO Ty.nil)).alloc o) w1) :
  Below w.heap.size w w1 /\ w.heap.size + 1 + 1 + 1 < w1.heap.size /\ Hid (BxT w1 (w.heap.size + 1 + 1) 0 Ty.nil) /\ True /\ True := by
 have h' : Below (((w.alloc a).alloc b).alloc (tyO Ty.nil)).heap.size (((w.alloc a).alloc b).alloc (tyO Ty.nil)) w1 := ((Below.refl _ _).alloc (Nat.le_refl _) o).trans (h.mono (by simp))
 obtain ⟨hB, hz, HX, _⟩ := box_kept h'
 have hs := h.size
 simp at hs hB HX
 exact ⟨((Below.refl _ _).alloc (Nat.le_refl _) a |>.alloc (by simp) b).trans (hB.mono (by omega)), by omega, HX, trivial, trivial⟩
theorem kept_box4 {w w1 w2 : World} {n : Nat} {o : Obj} (hB : Below w.heap.size w w1) (hz : n + 1 < w1.heap.size) (hx : Hid (BxT w1 n 0 Ty.nil)) (h : Below (w1.alloc o).heap.size (w1.alloc o) w2) :
  Below w.heap.size w w2 /\ Hid (BxT w2 n 0 Ty.nil) /\ w2.cell? ⟨n, 0, none⟩ = some (.int .i64 0) /\ w2.cell? ⟨n, 1, none⟩ = some (.int .u64 0) /\ w2.cell? ⟨n, 2, none⟩ = some (.int .u64 0) /\ w2.cell? ⟨n, 3, none⟩ = some (.int .i64 0) /\
  w2.frozen? ⟨n, 0, none⟩ = false /\ w2.frozen? ⟨n, 1, none⟩ = false /\ w2.frozen? ⟨n, 2, none⟩ = false /\ w2.frozen? ⟨n, 3, none⟩ = false := by
 have hs := hB.size
 have hb1 : Below w1.heap.size w1 w2 := ((Below.refl _ _).alloc (Nat.le_refl _) o).trans (h.mono (by simp))
 have hX := hx.out.below hb1 (by omega)
 obtain ⟨⟨c0, c1, c2, c3⟩, f0, f1, f2, f3⟩ := hX
 exact ⟨hB.trans (hb1.mono hs), hx.out.below hb1 (by omega), c0, c1, c2, c3, f0, f1, f2, f3⟩
theorem join2_same (a : Ty) : join2 a a = a := by unfold join2; rw [if_pos ((eqT_iff a a).2 rfl)]
set_option maxHeartbeats 1600000 in
theorem ljoined_same (a : Ty) (w : World) : Calls Tryz.prog 57 #[tyV a, tyV a] w fun e w' => e = .returned (tyV a) /\ Below w.heap.size w w' := by
 obtain ⟨k, lo, hi, m⟩ := a
 go_enter Tryz.func57, Tryz.ntmps57
 go_wp2
 exact box_ret4 rfl rfl ⟨by go_cell, by go_cell, by go_cell, by go_cell⟩ (by go_grown)
set_option maxHeartbeats 1600000 in
theorem ljoined_k_nil (ak al ah am bk bl bh bm : Int) (h : ¬ ak = bk) (w : World) : Calls Tryz.prog 57 #[tyV ⟨ak, al, ah, am⟩, tyV ⟨bk, bl, bh, bm⟩] w fun e w' => e = .returned (tyV ⟨0, 0, 0, 0⟩) /\ Below w.heap.size w w' := by
 by_cases h1 : ak = 1
 ·subst h1
  have h2 : ¬ bk = 1 := fun e => h e.symm
  go_enter Tryz.func57, Tryz.ntmps57
  go_wp2
  exact box_ret4 rfl rfl ⟨by go_cell, by go_cell, by go_cell, by go_cell⟩ (by go_grown)
 ·go_enter Tryz.func57, Tryz.ntmps57
  go_wp2
  exact box_ret4 rfl rfl ⟨by go_cell, by go_cell, by go_cell, by go_cell⟩ (by go_grown)
set_option maxHeartbeats 1600000 in
theorem ljoined_l_num (al ah am bl bh bm : Int) (h : ¬ al = bl) (lo hi : Int) (ok : Bool) (ha : wfS (al, ah)) (hb : wfS (bl, bh))
  (HJ : Hid (optV (if joinB [(al, ah), (bl, bh)] = true then some (joinL [(al, ah), (bl, bh)]) else none) = .tuple #[.agg #[.int .u64 lo, .int .u64 hi], .bool ok])) (w : World) :
  Calls Tryz.prog 57 #[tyV ⟨1, al, ah, am⟩, tyV ⟨1, bl, bh, bm⟩] w fun e w' => e = .returned (tyV ⟨1, lo, hi, 0⟩) /\ Below w.heap.size w w' := by
 go_enter Tryz.func57, Tryz.ntmps57
 go_wp2_with (first
  | (go_at_call 76; go_must (refine (ljoin2_as ha hb HJ _ _ (seesS_two _ _ _ _ _ _ _ (by simp))).mono ?_); rintro e w1 ⟨rfl, hb1⟩; go_must (obtain ⟨hB1, hz1, HX1, hc, hf⟩ := kept_box3 hb1; clear hb1))
  | (go_at_call 77; go_must (refine (qBe _ _ _).mono ?_); rintro e w2 ⟨rfl, hb2⟩; go_must (obtain ⟨hB2, HX, c0, c1, c2, c3, f0, f1, f2, f3⟩ := kept_box4 hB1 hz1 HX1 hb2; clear hb2 hB1)))
 exact box_ret1 rfl rfl (t := ⟨1, lo, hi, 0⟩) HX.out hB2 (by omega)
set_option maxHeartbeats 1600000 in
theorem ljoined_l_nil (ak al ah am bl bh bm : Int) (h : ¬ al = bl) (h1 : ¬ ak = 1) (w : World) : Calls Tryz.prog 57 #[tyV ⟨ak, al, ah, am⟩, tyV ⟨ak, bl, bh, bm⟩] w fun e w' => e = .returned (tyV ⟨0, 0, 0, 0⟩) /\ Below w.heap.size w w' := by
 go_enter Tryz.func57, Tryz.ntmps57
 go_wp2
 exact box_ret4 rfl rfl ⟨by go_cell, by go_cell, by go_cell, by go_cell⟩ (by go_grown)
set_option maxHeartbeats 1600000 in
theorem ljoined_h_num (al ah am bh bm : Int) (h : ¬ ah = bh) (lo hi : Int) (ok : Bool) (ha : wfS (al, ah)) (hb : wfS (al, bh))
  (HJ : Hid (optV (if joinB [(al, ah), (al, bh)] = true then some (joinL [(al, ah), (al, bh)]) else none) = .tuple #[.agg #[.int .u64 lo, .int .u64 hi], .bool ok])) (w : World) :
  Calls Tryz.prog 57 #[tyV ⟨1, al, ah, am⟩, tyV ⟨1, al, bh, bm⟩] w fun e w' => e = .returned (tyV ⟨1, lo, hi, 0⟩) /\ Below w.heap.size w w' := by
 go_enter Tryz.func57, Tryz.ntmps57
 go_wp2_with (first
  | (go_at_call 76; go_must (refine (ljoin2_as ha hb HJ _ _ (seesS_two _ _ _ _ _ _ _ (by simp))).mono ?_); rintro e w1 ⟨rfl, hb1⟩; go_must (obtain ⟨hB1, hz1, HX1, hc, hf⟩ := kept_box3 hb1; clear hb1))
  | (go_at_call 77; go_must (refine (qBe _ _ _).mono ?_); rintro e w2 ⟨rfl, hb2⟩; go_must (obtain ⟨hB2, HX, c0, c1, c2, c3, f0, f1, f2, f3⟩ := kept_box4 hB1 hz1 HX1 hb2; clear hb2 hB1)))
 exact box_ret1 rfl rfl (t := ⟨1, lo, hi, 0⟩) HX.out hB2 (by omega)
set_option maxHeartbeats 1600000 in
theorem ljoined_h_nil (ak al ah am bh bm : Int) (h : ¬ ah = bh) (h1 : ¬ ak = 1) (w : World) : Calls Tryz.prog 57 #[tyV ⟨ak, al, ah, am⟩, tyV ⟨ak, al, bh, bm⟩] w fun e w' => e = .returned (tyV ⟨0, 0, 0, 0⟩) /\ Below w.heap.size w w' := by
 go_enter Tryz.func57, Tryz.ntmps57
 go_wp2
 exact box_ret4 rfl rfl ⟨by go_cell, by go_cell, by go_cell, by go_cell⟩ (by go_grown)
set_option maxHeartbeats 1600000 in
theorem ljoined_m_num (al ah am bm : Int) (h : ¬ am = bm) (lo hi : Int) (ok : Bool) (ha : wfS (al, ah)) (hb : wfS (al, ah))
  (HJ : Hid (optV (if joinB [(al, ah), (al, ah)] = true then some (joinL [(al, ah), (al, ah)]) else none) = .tuple #[.agg #[.int .u64 lo, .int .u64 hi], .bool ok])) (w : World) :
  Calls Tryz.prog 57 #[tyV ⟨1, al, ah, am⟩, tyV ⟨1, al, ah, bm⟩] w fun e w' => e = .returned (tyV ⟨1, lo, hi, 0⟩) /\ Below w.heap.size w w' := by
 go_enter Tryz.func57, Tryz.ntmps57
 go_wp2_with (first
  | (go_at_call 76; go_must (refine (ljoin2_as ha hb HJ _ _ (seesS_two _ _ _ _ _ _ _ (by simp))).mono ?_); rintro e w1 ⟨rfl, hb1⟩; go_must (obtain ⟨hB1, hz1, HX1, hc, hf⟩ := kept_box3 hb1; clear hb1))
  | (go_at_call 77; go_must (refine (qBe _ _ _).mono ?_); rintro e w2 ⟨rfl, hb2⟩; go_must (obtain ⟨hB2, HX, c0, c1, c2, c3, f0, f1, f2, f3⟩ := kept_box4 hB1 hz1 HX1 hb2; clear hb2 hB1)))
 exact box_ret1 rfl rfl (t := ⟨1, lo, hi, 0⟩) HX.out hB2 (by omega)
set_option maxHeartbeats 1600000 in
theorem ljoined_m_nil (ak al ah am bm : Int) (h : ¬ am = bm) (h1 : ¬ ak = 1) (w : World) : Calls Tryz.prog 57 #[tyV ⟨ak, al, ah, am⟩, tyV ⟨ak, al, ah, bm⟩] w fun e w' => e = .returned (tyV ⟨0, 0, 0, 0⟩) /\ Below w.heap.size w w' := by
 go_enter Tryz.func57, Tryz.ntmps57
 go_wp2
 exact box_ret4 rfl rfl ⟨by go_cell, by go_cell, by go_cell, by go_cell⟩ (by go_grown)
theorem ljoined_any (a b : Ty) (w : World) (ha : wfS (a.lo, a.hi)) (hb : wfS (b.lo, b.hi)) : Calls Tryz.prog 57 #[tyV a, tyV b] w fun e w' => e = .returned (tyV (join2 a b)) /\ Below w.heap.size w w' := by
 by_cases he : eqT a b = true
 ·have e := (eqT_iff a b).1 he
  subst e
  rw [join2_same]
  exact ljoined_same a w
 obtain ⟨lo, hi, ok, HJ, HL⟩ := join_letters a.lo a.hi b.lo b.hi
 have HE : join2 a b = if a.k = 1 /\ b.k = 1 then num2 lo hi else Ty.nil := by unfold join2; rw [if_neg he]; simp only [HL.out]
 rw [HE]
 clear HE HL
 obtain ⟨ak, al, ah, am⟩ := a
 obtain ⟨bk, bl, bh, bm⟩ := b
 simp only at ha hb HJ ⊢
 by_cases e0 : ak = bk
 case neg =>
  rw [if_neg (by omega)]
  exact ljoined_k_nil _ _ _ _ _ _ _ _ e0 w
 subst e0
 by_cases h1 : ak = 1
 ·subst h1
  rw [if_pos ⟨rfl, rfl⟩]
  by_cases e1 : al = bl
  case neg => exact ljoined_l_num _ _ _ _ _ _ e1 lo hi ok ha hb HJ w
  subst e1
  by_cases e2 : ah = bh
  case neg => exact ljoined_h_num _ _ _ _ _ e2 lo hi ok ha hb HJ w
  subst e2
  refine ljoined_m_num _ _ _ _ (fun e3 => ?_) lo hi ok ha hb HJ w
  subst e3
  exact he ((eqT_iff _ _).2 rfl)
 ·rw [if_neg (fun h => h1 h.1)]
  by_cases e1 : al = bl
  case neg => exact ljoined_l_nil _ _ _ _ _ _ _ e1 h1 w
  subst e1
  by_cases e2 : ah = bh
  case neg => exact ljoined_h_nil _ _ _ _ _ _ e2 h1 w
  subst e2
  refine ljoined_m_nil _ _ _ _ _ (fun e3 => ?_) h1 w
  subst e3
  exact he ((eqT_iff _ _).2 rfl)
theorem keepJ {p : Prop} (h : p) : Hid p := h
theorem flatT_part {h : St} {k : Nat} {tk tl th tm : Int} (hk : k < h.length) (ht : h.getD k Ty.nil = ⟨tk, tl, th, tm⟩) : (flatT h).toArray.extract (k * 4) (k * 4 + 4) = #[.int .i64 tk, .int .u64 tl, .int .u64 th, .int .i64 tm] := by
 apply Array.ext_getElem?
 intro j
 rw [Array.getElem?_extract]
 by_cases hj : j < 4
 ·have := flatT_at h k j hk hj
  rw [ht] at this
  have hl : (flatT h).length = h.length * 4 := flatT_len h
  rw [if_pos (by simp [hl]; omega)]
  simp only [List.getElem?_toArray]
  rw [this]
 ·rw [if_neg (by simp; omega)]
  rw [Array.getElem?_eq_none (by simp; omega)]
theorem run_index9 {h : St} {k : Nat} {tk tl th tm : Int} (h8 : h.length = 8) (hk : k < 8) (ht : h.getD k Ty.nil = ⟨tk, tl, th, tm⟩) (w : World) :
  (Instr.index 109 (.agg (flatT h).toArray) (.int .i64 k)).run Tryz.prog w = .ok (.agg #[.int .i64 tk, .int .u64 tl, .int .u64 th, .int .i64 tm]) w := by
 have e := flatT_part (h := h) (k := k) (by omega) ht
 have h1 : (k : Int) < 8 := by omega
 have e' : (List.take 4 (List.drop (k * 4) (flatT h))).toArray = #[.int .i64 tk, .int .u64 tl, .int .u64 th, .int .i64 tm] := by
  rw [<- e]; simp
 have hs : (Go.sizeOf 108).run Tryz.prog w = .ok 4 w := by simp [Go.sizeOf]; rfl
 have ha : (isAgg 108).run Tryz.prog w = .ok true w := by kernel_rfl
 simp [Instr.index, asIntOf, run_underlying Tryz.underlying109, part, hs, ha, h1, hk, e']
theorem StAt.types {w : World} {b o : Nat} {r : Bool} {s : St} (h : StAt w b o r s) : w.rangeAt b (o + 1) (flatT s) := fun j v hv => by
 have := h (j + 1) v (by unfold stC; rw [List.getElem?_cons_succ]; exact hv)
 rw [show o + 1 + j = o + (j + 1) by omega]
 exact this
theorem sizeA8 {s : St} (h : s.length = 8) : (Tryz.prog.info? 109).map (·.size) = some (flatT s).length := by rw [flatT_len, h]; kernel_rfl
def fitsAllS (s h : St) : Bool := (List.range 8).all fun k => fitsS (s.getD k Ty.nil) (h.getD k Ty.nil)
theorem ltypeFits_as {a b : Ty} {r : Bool} (h : Hid (r = fitsS a b)) (w : World) : Calls Tryz.prog 82 #[tyV a, tyV b] w fun e w' => e = .returned (.bool r) /\ Below w.heap.size w w' := by
 rw [h.out]; exact ltypeFits_any a b w
theorem range_all {p : Nat -> Bool} (k : Nat) : (List.range (k + 1)).all p = ((List.range k).all p && p k) := by rw [List.range_succ, List.all_append]; simp
theorem range_no {p : Nat -> Bool} {k n : Nat} (hk : k < n) (h : p k = false) : (List.range n).all p = false := by
 rw [List.all_eq_false]
 exact ⟨k, List.mem_range.2 hk, by simp [h]⟩
set_option maxHeartbeats 1600000 in
theorem lfits_any (r r' : Bool) (s h : St) (w : World) (h8 : s.length = 8) (hh : h.length = 8) : Calls Tryz.prog 64 #[stV r s, stV r' h] w fun e w' => e = .returned (.bool (fitsAllS s h)) /\ Below w.heap.size w w' := by
 obtain ⟨R, HR⟩ : ∃ R, Hid (R = fitsAllS s h) := ⟨_, rfl⟩
 rw [<- HR.out]
 have HL : Hid (((w.alloc (stO r s)).alloc (stO r' h)).rangeAt (w.heap.size + 1) 1 (flatT h)) := by
  have := (stAt_new (w.alloc (stO r s)) r' h).types
  show World.rangeAt _ _ _ _
  simpa using this
 have hsz := sizeA8 hh
 have HZ : Hid ((Tryz.prog.info? 109).map (·.size) = some (flatT h).length) := hsz
 clear hsz
 have HA : Hid (∀ wr, Below ((w.alloc (stO r s)).alloc (stO r' h)).heap.size ((w.alloc (stO r s)).alloc (stO r' h)) wr -> ∀ k, k < 8 -> AtT wr w.heap.size (0 + 1 + k * 4) (s.getD k Ty.nil)) := fun wr hb k hk =>
  ((stAt_new w r s).below ((Below.refl _ _).alloc (Nat.le_refl _) _) (by simp) |>.typ h8 hk).below hb (by simp; omega)
 go_enter Tryz.func64, Tryz.ntmps64
 go_wp2_with ((with_reducible refine wpList_load_mid ?qa 109 (.tmp 7) ?qb (w.heap.size + 1) 1 ?qc (flatT h) _ HL.out Tryz.underlying109 ?qd HZ.out ?qe); (case qa => rfl); (case qb => rfl); (case qc => rfl); (case qd => rfl))
 obtain ⟨W2, HW2, HB2, hW2⟩ : ∃ W2, Hid (W2 = (w.alloc (stO r s)).alloc (stO r' h)) /\ Hid (Below w.heap.size w W2) /\ W2.heap.size <= w.heap.size + 2 /\ w.heap.size + 2 <= W2.heap.size := ⟨_, rfl, keepJ (by go_grown), by simp, by simp⟩
 rw [<- HW2.out] at HA ⊢
 clear HL HZ HW2
 go_loopw [9] (fun i wr => ∃ k : Nat, k <= 8 /\ i = .int .i64 k /\ Hid ((List.range k).all (fun k => fitsS (s.getD k Ty.nil) (h.getD k Ty.nil)) = true) /\ Below W2.heap.size W2 wr) (fun i _ => 8 - (intOf i).toNat)
 case atStart => exact ⟨0, by omega, rfl, rfl, Below.refl _ _⟩
 case round =>
  obtain ⟨k, hk, rfl, HI, hbe⟩ := hrel
  have hwz := hbe.size
  by_cases hlt : k < 8
  ·obtain ⟨tk, tl, th, tm, HT⟩ : ∃ k' lo hi m, Hid (h.getD k Ty.nil = ⟨k', lo, hi, m⟩) := ⟨_, _, _, _, rfl⟩
   obtain ⟨sk, sl, sh, sm, HS⟩ : ∃ k' lo hi m, Hid (s.getD k Ty.nil = ⟨k', lo, hi, m⟩) := ⟨_, _, _, _, rfl⟩
   have hidx := run_index9 hh hlt HT.out
   obtain ⟨q, HQ⟩ : ∃ q, Hid (q = fitsS ⟨sk, sl, sh, sm⟩ ⟨tk, tl, th, tm⟩) := ⟨_, rfl⟩
   have HQ' : Hid (fitsS (s.getD k Ty.nil) (h.getD k Ty.nil) = q) := by show _ = _; rw [HS.out, HT.out]; exact HQ.out.symm
   have hA := HA.out wr hbe k hlt
   rw [HS.out] at hA
   obtain ⟨a0, a1, a2, a3⟩ := hA
   simp only [Nat.zero_add] at a0 a1 a2 a3
   have hkI : (k : Int) < 8 := by omega
   have hn1 : ¬ w.heap.size = wr.heap.size := by omega
   have hn2 : ¬ wr.heap.size = w.heap.size := by omega
   have hn3 : w.heap.size < wr.heap.size := by omega
   go_wp2
   obtain ⟨Y, HY, HBY, hYz, b0, b1, b2, b3, g0, g1, g2, g3⟩ : ∃ Y, Hid (Y = wr.alloc (Obj.cells #[.int .i64 tk, .int .u64 tl, .int .u64 th, .int .i64 tm] 108)) /\ Hid (Below wr.heap.size wr Y) /\ wr.heap.size < Y.heap.size /\
    Y.cell? ⟨wr.heap.size, 0, none⟩ = some (.int .i64 tk) /\ Y.cell? ⟨wr.heap.size, 1, none⟩ = some (.int .u64 tl) /\ Y.cell? ⟨wr.heap.size, 2, none⟩ = some (.int .u64 th) /\ Y.cell? ⟨wr.heap.size, 3, none⟩ = some (.int .i64 tm) /\
    Y.cell? ⟨w.heap.size, 1 + k * 4, none⟩ = some (.int .i64 sk) /\ Y.cell? ⟨w.heap.size, 1 + k * 4 + 1, none⟩ = some (.int .u64 sl) /\ Y.cell? ⟨w.heap.size, 1 + k * 4 + 2, none⟩ = some (.int .u64 sh) /\ Y.cell? ⟨w.heap.size, 1 + k * 4 + 3, none⟩ = some (.int .i64 sm) :=
    ⟨_, rfl, keepJ (by go_grown), by simp, by go_cell, by go_cell, by go_cell, by go_cell, by go_cell, by go_cell, by go_cell, by go_cell⟩
   rw [<- HY.out]
   clear a0 a1 a2 a3
   cases q with
   | true =>
    go_region_held3 (fun w' => (w'.cell? ⟨w.heap.size, 1 + k * 4, none⟩ = some (.int .i64 sk) /\ w'.cell? ⟨w.heap.size, 1 + k * 4 + 1, none⟩ = some (.int .u64 sl) /\ w'.cell? ⟨w.heap.size, 1 + k * 4 + 2, none⟩ = some (.int .u64 sh) /\ w'.cell? ⟨w.heap.size, 1 + k * 4 + 3, none⟩ = some (.int .i64 sm)) /\ w'.cell? ⟨wr.heap.size, 0, none⟩ = some (.int .i64 tk) /\ w'.cell? ⟨wr.heap.size, 1, none⟩ = some (.int .u64 tl) /\ w'.cell? ⟨wr.heap.size, 2, none⟩ = some (.int .u64 th) /\ w'.cell? ⟨wr.heap.size, 3, none⟩ = some (.int .i64 tm))
     (first | exact hAt3 | exact ⟨⟨g0, g1, g2, g3⟩, b0, b1, b2, b3⟩)
     (first | (go_at_call 82; go_must (refine (ltypeFits_as HQ _).mono ?_); rintro e w3 ⟨rfl, hb3'⟩; go_must (have hb3 : Below Y.heap.size Y w3 := qAi hb3'; have hAt3 := At2.below (⟨⟨g0, g1, g2, g3⟩, b0, b1, b2, b3⟩ : At2 Y w.heap.size (1 + k * 4) ⟨sk, sl, sh, sm⟩ wr.heap.size 0 ⟨tk, tl, th, tm⟩) hb3 (by omega) (by omega); have hB3 : Below W2.heap.size W2 w3 := (hbe.trans (HBY.out.mono hwz)).trans (hb3.mono (by omega)); clear hb3')))
    go_wp2
    go_roundw
    case rel => exact ⟨k + 1, by omega, by go_num, by show _ = _; rw [range_all, HI.out, HQ'.out]; rfl, hB3⟩
    case measure => simp [intOf]; omega
   | false =>
    have HRf : Hid (R = false) := by show _ = _; rw [HR.out]; exact range_no hlt HQ'.out
    go_region_held3 (fun w' => (w'.cell? ⟨w.heap.size, 1 + k * 4, none⟩ = some (.int .i64 sk) /\ w'.cell? ⟨w.heap.size, 1 + k * 4 + 1, none⟩ = some (.int .u64 sl) /\ w'.cell? ⟨w.heap.size, 1 + k * 4 + 2, none⟩ = some (.int .u64 sh) /\ w'.cell? ⟨w.heap.size, 1 + k * 4 + 3, none⟩ = some (.int .i64 sm)) /\ w'.cell? ⟨wr.heap.size, 0, none⟩ = some (.int .i64 tk) /\ w'.cell? ⟨wr.heap.size, 1, none⟩ = some (.int .u64 tl) /\ w'.cell? ⟨wr.heap.size, 2, none⟩ = some (.int .u64 th) /\ w'.cell? ⟨wr.heap.size, 3, none⟩ = some (.int .i64 tm))
     (first | exact hAt3 | exact ⟨⟨g0, g1, g2, g3⟩, b0, b1, b2, b3⟩)
     (first | (go_at_call 82; go_must (refine (ltypeFits_as HQ _).mono ?_); rintro e w3 ⟨rfl, hb3'⟩; go_must (have hb3 : Below Y.heap.size Y w3 := qAi hb3'; have hAt3 := At2.below (⟨⟨g0, g1, g2, g3⟩, b0, b1, b2, b3⟩ : At2 Y w.heap.size (1 + k * 4) ⟨sk, sl, sh, sm⟩ wr.heap.size 0 ⟨tk, tl, th, tm⟩) hb3 (by omega) (by omega); have hB3 : Below W2.heap.size W2 w3 := (hbe.trans (HBY.out.mono hwz)).trans (hb3.mono (by omega)); clear hb3')))
    go_wp2
    go_ret
    exact ⟨by rw [HRf.out]; rfl, HB2.out.trans (hB3.mono (by omega))⟩
  ·obtain rfl : k = 8 := by omega
   have HRt : Hid (R = true) := by show _ = _; rw [HR.out]; exact HI.out
   go_wp2
   go_ret
   exact ⟨by rw [HRt.out]; rfl, HB2.out.trans (hbe.mono (by omega))⟩
theorem sizeJ {r : Bool} {s : St} (h : s.length = 8) : (Tryz.prog.info? 111).map (·.size) = some (stC r s).length := by rw [stC_len r h]; kernel_rfl
theorem sizeJA {r : Bool} {s : St} (h : s.length = 8) : (Tryz.prog.info? 111).map (·.size) = some (stC r s).toArray.size := by rw [qAu r h]; kernel_rfl
theorem Made8.ends {nm : Nat} {s : St} (h : Made8 nm s) {k : Nat} (hk : k < 8) : wfS ((s.getD k Ty.nil).lo, (s.getD k Ty.nil).hi) := (h.get hk).ends
def joinU (h s : St) (n : Nat) : St := (List.range 8).map fun i => if i < n then join2 (h.getD i Ty.nil) (s.getD i Ty.nil) else h.getD i Ty.nil
def arrK (K : Kn) (p : Nat) (r : Bool) (s : St) : Kn := if r = false then K else if (K.getD p kn0).1 = false then K.set p (r, s) else K.set p ((K.getD p kn0).1, joinU (K.getD p kn0).2 s 8)
theorem qBk (h s : St) (n : Nat) : (joinU h s n).length = 8 := by simp [joinU]
theorem joinU_at (h s : St) {n k : Nat} (hk : k < 8) : (joinU h s n).getD k Ty.nil = if k < n then join2 (h.getD k Ty.nil) (s.getD k Ty.nil) else h.getD k Ty.nil := by
 unfold joinU
 simp [List.getD, List.getElem?_map, List.getElem?_range hk]
theorem joinU_zero {h : St} (s : St) (h8 : h.length = 8) : joinU h s 0 = h := by
 apply List.ext_getElem?
 intro i
 by_cases hi : i < 8
 ·simp [joinU, List.getElem?_range hi, List.getElem?_eq_getElem (show i < h.length by omega)]
 ·rw [List.getElem?_eq_none (by rw [qBk]; omega), List.getElem?_eq_none (by omega)]
theorem joinU_step (h s : St) {k : Nat} (hk : k < 8) : joinU h s (k + 1) = (joinU h s k).set k (join2 (h.getD k Ty.nil) (s.getD k Ty.nil)) := by
 apply List.ext_getElem?
 intro i
 rw [List.getElem?_set]
 by_cases hi : i < 8
 ·by_cases hik : k = i
  ·subst hik
   simp [joinU, List.getElem?_range hi, hi]
  ·rw [if_neg hik]
   simp only [joinU, List.getElem?_map, List.getElem?_range hi, Option.map_some]
   by_cases hl : i < k
   ·rw [if_pos hl, if_pos (by omega)]
   ·rw [if_neg hl, if_neg (by omega)]
 ·rw [List.getElem?_eq_none (by rw [qBk]; omega), if_neg (by omega), List.getElem?_eq_none (by rw [qBk]; omega)]
theorem kn_set {K : Kn} {p : Nat} {x : Bool × St} (hp : p < K.length) : (K.set p x).getD p kn0 = x := by simp [List.getD, List.getElem?_set, hp]
theorem kn_self {K : Kn} (p : Nat) : K.set p (K.getD p kn0) = K := by
 apply List.ext_getElem?
 intro i
 rw [List.getElem?_set]
 by_cases h : p = i
 ·subst h
  by_cases hl : p < K.length
  ·simp [hl, List.getD, List.getElem?_eq_getElem hl]
  ·simp [hl, List.getElem?_eq_none (show K.length <= p by omega)]
 ·rw [if_neg h]
def qC (nm : Nat) (vc vl : Value) (kb n : Nat) : List Value := [.int .i64 nm, vc, vl, .slice (some ⟨kb, 0, none⟩) n n]

theorem keepA {w : World} {qb kb sb o : Nat} {v : Value} {r : Bool} {s : St} {n : Nat} (h : w.cell? ⟨qb, 3, none⟩ = some v /\ StAt w sb 0 r s /\ w.there kb o n) (h1 : qb ≠ kb) (h2 : sb ≠ kb) (o' : Nat) (vs : List Value) :
  (w.setCells kb o' vs).cell? ⟨qb, 3, none⟩ = some v /\ StAt (w.setCells kb o' vs) sb 0 r s /\ (w.setCells kb o' vs).there kb o n :=
 ⟨(World.cell?_of_block ((qAa kb vs w o').block qb (World.block_lt_of_cell? w _ h.1) (fun e => h1 (by injection e)))).trans h.1, World.rangeAt_setCells_apart h.2.1 _ _ _ (.inl h2), World.there_setCells h.2.2 _ _ _⟩
theorem ljoined_as {a b t : Ty} (ha : Hid (wfS (a.lo, a.hi))) (hb : Hid (wfS (b.lo, b.hi))) (h : Hid (join2 a b = t)) (w : World) : Calls Tryz.prog 57 #[tyV a, tyV b] w fun e w' => e = .returned (tyV t) /\ Below w.heap.size w w' := by
 rw [<- h.out]; exact ljoined_any a b w ha hb
theorem keep5 {w w' : World} {qb nb : Nat} {v x0 x1 x2 x3 : Value} (h : w.cell? ⟨qb, 3, none⟩ = some v /\ w.cell? ⟨nb, 0, none⟩ = some x0 /\ w.cell? ⟨nb, 1, none⟩ = some x1 /\ w.cell? ⟨nb, 2, none⟩ = some x2 /\ w.cell? ⟨nb, 3, none⟩ = some x3) (hb : Below w.heap.size w w') (hq : qb < w.heap.size) (hn : nb < w.heap.size) :
  w'.cell? ⟨qb, 3, none⟩ = some v /\ w'.cell? ⟨nb, 0, none⟩ = some x0 /\ w'.cell? ⟨nb, 1, none⟩ = some x1 /\ w'.cell? ⟨nb, 2, none⟩ = some x2 /\ w'.cell? ⟨nb, 3, none⟩ = some x3 := by
 rw [hb.cell (p := ⟨qb, 3, none⟩) hq, hb.cell (p := ⟨nb, 0, none⟩) hn, hb.cell (p := ⟨nb, 1, none⟩) hn, hb.cell (p := ⟨nb, 2, none⟩) hn, hb.cell (p := ⟨nb, 3, none⟩) hn]
 exact h
theorem keep5s {w : World} {qb nb kb o : Nat} {t : Ty} {v x0 x1 x2 x3 : Value} (h : w.cell? ⟨qb, 3, none⟩ = some v /\ w.cell? ⟨nb, 0, none⟩ = some x0 /\ w.cell? ⟨nb, 1, none⟩ = some x1 /\ w.cell? ⟨nb, 2, none⟩ = some x2 /\ w.cell? ⟨nb, 3, none⟩ = some x3) (hq : qb ≠ kb) (hn : nb ≠ kb) :
  (setT w kb o t).cell? ⟨qb, 3, none⟩ = some v /\ (setT w kb o t).cell? ⟨nb, 0, none⟩ = some x0 /\ (setT w kb o t).cell? ⟨nb, 1, none⟩ = some x1 /\ (setT w kb o t).cell? ⟨nb, 2, none⟩ = some x2 /\ (setT w kb o t).cell? ⟨nb, 3, none⟩ = some x3 := by
 have key : ∀ b j u, b ≠ kb -> w.cell? ⟨b, j, none⟩ = some u -> (setT w kb o t).cell? ⟨b, j, none⟩ = some u := fun b j u hb hc =>
  (qAa kb (tyC t) w o).cell hc (fun e => hb (by injection e))
 exact ⟨key _ _ _ hq h.1, key _ _ _ hn h.2.1, key _ _ _ hn h.2.2.1, key _ _ _ hn h.2.2.2.1, key _ _ _ hn h.2.2.2.2⟩
set_option maxHeartbeats 1600000 in
theorem larrive_any (qb kb p nm : Nat) (vc vl : Value) (K : Kn) (r : Bool) (s : St) (w : World) (hq : Hp w qb 102 (qC nm vc vl kb K.length)) (hk : Hp w kb 111 (flatK K)) (hne : qb ≠ kb) (h8 : Eight K) (hp : p < K.length) (hs : Made8 nm s) (hK : Made8 nm (K.getD p kn0).2) :
  Calls Tryz.prog 37 #[.pointer (some ⟨qb, 0, none⟩), .int .i64 p, stV r s] w fun e w' => e = .returned (.tuple #[]) /\ w.grownBy w' (some kb) /\ Hp w' kb 111 (flatK (arrK K p r s)) := by
 obtain ⟨r0, s0, HK⟩ : ∃ r0 s0, Hid (K.getD p kn0 = (r0, s0)) := ⟨_, _, rfl⟩
 have hz : (stC r s)[0]? = some (.bool r) := rfl
 have c3 : w.cell? ⟨qb, 3, none⟩ = some (.slice (some ⟨kb, 0, none⟩) K.length K.length) := hq.cell rfl
 have k0 : w.cell? ⟨kb, p * 33, none⟩ = some (.bool r0) := (hk.state h8 hp HK.out).cell
 have hq1 := hq.lt
 have hk1 := hk.lt
 have hn1 : ¬ qb = w.heap.size := by omega
 have hn2 : ¬ w.heap.size = qb := by omega
 have hn3 : ¬ kb = w.heap.size := by omega
 have hn4 : ¬ w.heap.size = kb := by omega
 have hpI : (p : Int) < K.length := by omega
 cases r with
 | false =>
  go_enter Tryz.func37, Tryz.ntmps37
  go_wp2
  exact bodyPost_end (results_none rfl _ _ _) rfl ⟨rfl, World.grownBy_alloc _ _ _, by unfold arrK; rw [if_pos rfl]; exact hk.alloc _⟩
 | true =>
  cases r0 with
  | false =>
   go_enter Tryz.func37, Tryz.ntmps37
   go_wp2
   obtain ⟨W, HW, hSt, hc3, hth, HkW, HgW⟩ : ∃ W, Hid (W = w.alloc (Obj.cells (stC true s).toArray 111)) /\ StAt W w.heap.size 0 true s /\ W.cell? ⟨qb, 3, none⟩ = some (.slice (some ⟨kb, 0, none⟩) K.length K.length) /\ W.there kb (p * 33) 33 /\ Hid (Hp W kb 111 (flatK K)) /\ Hid (w.grownBy W (some kb)) :=
    ⟨_, rfl, stAt_new w true s, (hq.alloc _).cell rfl, (hk.alloc _).there (by rw [flatK_len h8]; omega), hk.alloc _, World.grownBy_alloc _ _ _⟩
   rw [<- HW.out]
   have hld : ∀ w', StAt w' w.heap.size 0 true s -> (Instr.loadAt 111 (.pointer (some ⟨w.heap.size, 0, none⟩))).run Tryz.prog w' = .ok (stV true s) w' := fun w' h => run_loadAt_mid w' _ _ _ _ _ h Tryz.underlying111 rfl (sizeJ hs.1)
   have hst : ∀ w', w'.there kb (p * 33) 33 -> (Instr.storeAt 111 (.pointer (some ⟨kb, p * 33, none⟩)) (stV true s)).run Tryz.prog w' = .ok () (w'.setCells kb (p * 33) (stC true s)) := fun w' h => run_storeAt_mid w' _ _ _ _ (by rw [qAu true hs.1]; exact h) (sizeJA hs.1) (qAz true s)
   have hne2 : w.heap.size ≠ kb := by omega
   have Hhp := keepJ h8
   have HqK := keepJ hp
   have HMs := keepJ hs
   clear hz c3 k0 hq hk hK h8 hs
   refine wp_region_held_drew (S := fun w' => w'.cell? ⟨qb, 3, none⟩ = some (.slice (some ⟨kb, 0, none⟩) K.length K.length) /\ StAt w' w.heap.size 0 true s /\ w'.there kb (p * 33) 33) (by kernel_rfl) ⟨hc3, hSt, hth⟩ (fun hHeld => ?_)
   refine wpAnyH_take (i := 0) (v := ?v1) rfl (by kernel_rfl) (by kernel_rfl) (by kernel_rfl) (fun _ _ _ h => h) (Or.inl ⟨by rfl, ?hy1⟩) (by assumption) ?rest1
   case hy1 => (intro wy hSw; (try dsimp only at hSw); go_simp; (first | done | with_reducible rfl))
   try simp only [Act.put, p1q, p2q, p3q, p4q, p5q, p6q]
   refine wpAnyH_take (i := 1) (v := ?v2) rfl (by kernel_rfl) (by kernel_rfl) (by kernel_rfl) (fun _ _ _ h => h) (Or.inl ⟨by rfl, ?hy2⟩) (by assumption) ?rest2
   case hy2 => (intro wy hSw; (try dsimp only at hSw); go_simp; (first | done | with_reducible rfl))
   try simp only [Act.put, p1q, p2q, p3q, p4q, p5q, p6q]
   refine wpAnyH_take (i := 2) (v := ?v3) rfl (by kernel_rfl) (by kernel_rfl) (by kernel_rfl) (fun _ _ _ h => h) (Or.inl ⟨by rfl, ?hy3⟩) (by assumption) ?rest3
   case hy3 => (intro wy hSw; (try dsimp only at hSw); go_simp; (first | done | with_reducible rfl))
   try simp only [Act.put, p1q, p2q, p3q, p4q, p5q, p6q]
   refine wpAnyH_take (i := 3) (v := ?v4) rfl (by kernel_rfl) (by kernel_rfl) (by kernel_rfl) (fun _ _ _ h => h) (Or.inl ⟨by rfl, ?hy4⟩) (by assumption) ?rest4
   case hy4 => (intro wy hSw; (try dsimp only at hSw); go_simp; (first | done | with_reducible rfl))
   try simp only [Act.put, p1q, p2q, p3q, p4q, p5q, p6q]
   refine wpAnyH_take (i := 4) (v := ?v5) rfl (by kernel_rfl) (by kernel_rfl) (by kernel_rfl) (fun _ _ _ h => h) (Or.inl ⟨by rfl, ?hy5⟩) (by assumption) ?rest5
   case hy5 => (intro wy hSw; (try dsimp only at hSw); go_simp; (first | done | with_reducible rfl))
   try simp only [Act.put, p1q, p2q, p3q, p4q, p5q, p6q]
   refine wpAnyH_take (i := 5) rfl (by kernel_rfl) (by kernel_rfl) (by kernel_rfl) (fun _ _ _ h => h) (yieldsIf_load_mid (by rfl) _ _ rfl _ _ rfl (stC true s) _ (fun w h => h.2.1) Tryz.underlying111 rfl (sizeJ HMs.out.1)) (by assumption) ?_
   try simp only [Act.put, p1q, p2q, p3q, p4q, p5q, p6q]
   refine wpAnyH_take (i := 6) (v := ?v6) rfl (by kernel_rfl) (by kernel_rfl) (by kernel_rfl) (fun _ _ _ h => h) (Or.inl ⟨by rfl, ?hy6⟩) (by assumption) ?rest6
   case hy6 => (intro wy hSw; (try dsimp only at hSw); go_simp; (first | done | with_reducible rfl))
   try simp only [Act.put, p1q, p2q, p3q, p4q, p5q, p6q]
   refine wpAnyH_ready (rs := [7]) (by kernel_rfl) (by simp) ?_
   refine AllReadyH.cons rfl (fun KK hK => ?_) AllReadyH.nil
   rw [if_pos (by rfl)]
   refine wp_store_mid _ _ _ rfl _ _ (List.toArray _) rfl rfl (by rw [qAu true HMs.out.1]; exact hth) (sizeJA HMs.out.1) (qAz true s) ?_
   refine hK.out _ _ (keepA (w := W.drew) ⟨hc3, hSt, hth⟩ hne hne2 _ _) (fun hHeld => ?_)
   clear hK KK
   try simp only [Act.put, p1q, p2q, p3q, p4q, p5q, p6q]
   refine wpAnyH_done (by kernel_rfl) ?_ _
   go_wp2
   refine bodyPost_end (results_none rfl _ _ _) rfl ⟨rfl, qAl HgW.out (grown_undrew (qAa kb _ W.drew _)), ?_⟩
   unfold arrK
   rw [if_neg (by decide), HK.out, if_pos rfl]
   exact HkW.out.drew.put Hhp.out HqK.out true HMs.out.1
  | true =>
   go_enter Tryz.func37, Tryz.ntmps37
   have HL : Hid ((w.alloc (stO true s)).rangeAt w.heap.size 1 (flatT s)) := by
    have := (stAt_new w true s).types
    show World.rangeAt _ _ _ _
    simpa using this
   have HZ : Hid ((Tryz.prog.info? 109).map (·.size) = some (flatT s).length) := sizeA8 hs.1
   go_wp2_with ((with_reducible refine wpList_load_mid ?qa 109 (.tmp 8) ?qb w.heap.size 1 ?qc (flatT s) _ HL.out Tryz.underlying109 ?qd HZ.out ?qe); (case qa => rfl); (case qb => rfl); (case qc => rfl); (case qd => rfl))
   obtain ⟨W, HW, HqW, HkW, HgW, hWz⟩ : ∃ W, Hid (W = w.alloc (Obj.cells (stC true s).toArray 111)) /\ Hid (Hp W qb 102 (qC nm vc vl kb K.length)) /\ Hid (Hp W kb 111 (flatK K)) /\ Hid (w.grownBy W (some kb)) /\ w.heap.size < W.heap.size :=
    ⟨_, rfl, hq.alloc _, hk.alloc _, World.grownBy_alloc _ _ _, by simp⟩
   rw [<- HW.out]
   have Hhp := keepJ h8
   have HqK := keepJ hp
   have HMs := keepJ hs
   have HMK := keepJ hK
   rw [HK.out] at HMK
   clear hz c3 k0 hq hk hK h8 hs HL HZ HW
   go_loopw [10] (fun i wr => ∃ k : Nat, k <= 8 /\ i = .int .i64 k /\ Hid (Hp wr kb 111 (flatK (K.set p (true, joinU s0 s k)))) /\ Hid (W.grownBy wr (some kb))) (fun i _ => 8 - (intOf i).toNat)
   case atStart => exact ⟨0, by omega, rfl, by rw [joinU_zero s HMK.out.1, show K.set p (true, s0) = K from by rw [<- HK.out]; exact kn_self p]; exact HkW.out, grownJ_refl _ _⟩
   case round =>
    obtain ⟨k, hk8, rfl, HKr, HGr⟩ := hrel
    by_cases hlt : k < 8
    ·obtain ⟨tk, tl, th, tm, HT⟩ : ∃ k' lo hi m, Hid (s.getD k Ty.nil = ⟨k', lo, hi, m⟩) := ⟨_, _, _, _, rfl⟩
     obtain ⟨sk, sl, sh, sm, HS⟩ : ∃ k' lo hi m, Hid (s0.getD k Ty.nil = ⟨k', lo, hi, m⟩) := ⟨_, _, _, _, rfl⟩
     obtain ⟨jk, jl, jh, jm, HJ⟩ : ∃ k' lo hi m, Hid (join2 ⟨sk, sl, sh, sm⟩ ⟨tk, tl, th, tm⟩ = ⟨k', lo, hi, m⟩) := ⟨_, _, _, _, rfl⟩
     have hidx := run_index9 HMs.out.1 hlt HT.out
     have hkI : (k : Int) < 8 := by omega
     go_wp2
     have h8K : Eight (K.set p (true, joinU s0 s k)) := Hhp.out.set p (qBk _ _ _)
     have hpK : p < (K.set p (true, joinU s0 s k)).length := by rw [List.length_set]; exact HqK.out
     have hgK : (K.set p (true, joinU s0 s k)).getD p kn0 = (true, joinU s0 s k) := kn_set HqK.out
     obtain ⟨Y, HY, HqY, HkY, HGY, hYz, b0, b1, b2, b3, hYk⟩ : ∃ Y, Hid (Y = wr.alloc (Obj.cells #[.int .i64 tk, .int .u64 tl, .int .u64 th, .int .i64 tm] 108)) /\ Hid (Hp Y qb 102 (qC nm vc vl kb K.length)) /\ Hid (Hp Y kb 111 (flatK (K.set p (true, joinU s0 s k)))) /\ Hid (W.grownBy Y (some kb)) /\ wr.heap.size < Y.heap.size /\
      Y.cell? ⟨wr.heap.size, 0, none⟩ = some (.int .i64 tk) /\ Y.cell? ⟨wr.heap.size, 1, none⟩ = some (.int .u64 tl) /\ Y.cell? ⟨wr.heap.size, 2, none⟩ = some (.int .u64 th) /\ Y.cell? ⟨wr.heap.size, 3, none⟩ = some (.int .i64 tm) /\ wr.heap.size ≠ kb :=
      ⟨_, rfl, (HqW.out.grown HGr.out (fun e => hne (by injection e))).alloc _, HKr.out.alloc _, qAl HGr.out (World.grownBy_alloc _ _ _), by simp, by go_cell, by go_cell, by go_cell, by go_cell, by have := HKr.out.lt; omega⟩
     rw [<- HY.out]
     have c3 : Y.cell? ⟨qb, 3, none⟩ = some (.slice (some ⟨kb, 0, none⟩) K.length K.length) := HqY.out.cell rfl
     have hAT := (HkY.out.state h8K hpK hgK).typ (qBk _ _ _) hlt
     rw [joinU_at _ _ hlt, if_neg (by omega), HS.out] at hAT
     obtain ⟨e0, e1, e2, e3⟩ := hAT
     simp only at e0 e1 e2 e3
     have hqY := HqY.out.lt
     have hkY := HkY.out.lt
     have HM1 : Hid (wfS (sl, sh)) := by have := HMK.out.ends hlt; rw [HS.out] at this; exact this
     have HM2 : Hid (wfS (tl, th)) := by have := HMs.out.ends hlt; rw [HT.out] at this; exact this
     refine wp_region_held_drew (S := fun w' => w'.cell? ⟨qb, 3, none⟩ = some (.slice (some ⟨kb, 0, none⟩) K.length K.length) /\ w'.cell? ⟨wr.heap.size, 0, none⟩ = some (.int .i64 tk) /\ w'.cell? ⟨wr.heap.size, 1, none⟩ = some (.int .u64 tl) /\ w'.cell? ⟨wr.heap.size, 2, none⟩ = some (.int .u64 th) /\ w'.cell? ⟨wr.heap.size, 3, none⟩ = some (.int .i64 tm)) (by kernel_rfl) ⟨c3, b0, b1, b2, b3⟩ (fun hHeld => ?_)
     refine wpAnyH_take (i := 0) (v := ?v7) rfl (by kernel_rfl) (by kernel_rfl) (by kernel_rfl) (fun _ _ _ h => h) (Or.inl ⟨by rfl, ?hy7⟩) (by assumption) ?rest7
     case hy7 => (intro wy hSw; (try dsimp only at hSw); go_simp; (first | done | with_reducible rfl))
     try simp only [Act.put, p1q, p2q, p3q, p4q, p5q, p6q]
     refine wpAnyH_take (i := 1) (v := ?v8) rfl (by kernel_rfl) (by kernel_rfl) (by kernel_rfl) (fun _ _ _ h => h) (Or.inl ⟨by rfl, ?hy8⟩) (by assumption) ?rest8
     case hy8 => (intro wy hSw; (try dsimp only at hSw); go_simp; (first | done | with_reducible rfl))
     try simp only [Act.put, p1q, p2q, p3q, p4q, p5q, p6q]
     refine wpAnyH_take (i := 2) (v := ?v9) rfl (by kernel_rfl) (by kernel_rfl) (by kernel_rfl) (fun _ _ _ h => h) (Or.inl ⟨by rfl, ?hy9⟩) (by assumption) ?rest9
     case hy9 => (intro wy hSw; (try dsimp only at hSw); go_simp; (first | done | with_reducible rfl))
     try simp only [Act.put, p1q, p2q, p3q, p4q, p5q, p6q]
     refine wpAnyH_take (i := 3) (v := ?v10) rfl (by kernel_rfl) (by kernel_rfl) (by kernel_rfl) (fun _ _ _ h => h) (Or.inl ⟨by rfl, ?hy10⟩) (by assumption) ?rest10
     case hy10 => (intro wy hSw; (try dsimp only at hSw); go_simp; (first | done | with_reducible rfl))
     try simp only [Act.put, p1q, p2q, p3q, p4q, p5q, p6q]
     refine wpAnyH_take (i := 4) (v := ?v11) rfl (by kernel_rfl) (by kernel_rfl) (by kernel_rfl) (fun _ _ _ h => h) (Or.inl ⟨by rfl, ?hy11⟩) (by assumption) ?rest11
     case hy11 => (intro wy hSw; (try dsimp only at hSw); go_simp; (first | done | with_reducible rfl))
     try simp only [Act.put, p1q, p2q, p3q, p4q, p5q, p6q]
     refine wpAnyH_take (i := 5) (v := ?v12) rfl (by kernel_rfl) (by kernel_rfl) (by kernel_rfl) (fun _ _ _ h => h) (Or.inl ⟨by rfl, ?hy12⟩) (by assumption) ?rest12
     case hy12 => (intro wy hSw; (try dsimp only at hSw); go_simp; (first | done | with_reducible rfl))
     try simp only [Act.put, p1q, p2q, p3q, p4q, p5q, p6q]
     refine wpAnyH_take (i := 6) (v := ?v13) rfl (by kernel_rfl) (by kernel_rfl) (by kernel_rfl) (fun _ _ _ h => h) (Or.inl ⟨by rfl, ?hy13⟩) (by assumption) ?rest13
     case hy13 => (intro wy hSw; (try dsimp only at hSw); go_simp; (first | done | with_reducible rfl))
     try simp only [Act.put, p1q, p2q, p3q, p4q, p5q, p6q]
     refine wpAnyH_take (i := 7) (v := ?v14) rfl (by kernel_rfl) (by kernel_rfl) (by kernel_rfl) (fun _ _ _ h => h) (Or.inl ⟨by rfl, ?hy14⟩) (by assumption) ?rest14
     case hy14 => (intro wy hSw; (try dsimp only at hSw); go_simp; (first | done | with_reducible rfl))
     try simp only [Act.put, p1q, p2q, p3q, p4q, p5q, p6q]
     refine wpAnyH_take (i := 8) (v := ?v15) rfl (by kernel_rfl) (by kernel_rfl) (by kernel_rfl) (fun _ _ _ h => h) (Or.inl ⟨by rfl, ?hy15⟩) (by assumption) ?rest15
     case hy15 => (intro wy hSw; (try dsimp only at hSw); go_simp; (first | done | with_reducible rfl))
     try simp only [Act.put, p1q, p2q, p3q, p4q, p5q, p6q]
     refine wpAnyH_take (i := 9) (v := ?v16) rfl (by kernel_rfl) (by kernel_rfl) (by kernel_rfl) (fun _ _ _ h => h) (Or.inl ⟨by rfl, ?hy16⟩) (by assumption) ?rest16
     case hy16 => (intro wy hSw; (try dsimp only at hSw); go_simp; (first | done | with_reducible rfl))
     try simp only [Act.put, p1q, p2q, p3q, p4q, p5q, p6q]
     refine wpAnyH_take (i := 10) (v := ?v17) rfl (by kernel_rfl) (by kernel_rfl) (by kernel_rfl) (fun _ _ _ h => h) (Or.inl ⟨by rfl, ?hy17⟩) (by assumption) ?rest17
     case hy17 => (intro wy hSw; (try dsimp only at hSw); go_simp; (first | done | with_reducible rfl))
     try simp only [Act.put, p1q, p2q, p3q, p4q, p5q, p6q]
     refine wpAnyH_take (i := 11) (v := ?v18) rfl (by kernel_rfl) (by kernel_rfl) (by kernel_rfl) (fun _ _ _ h => h) (Or.inl ⟨by rfl, ?hy18⟩) (by assumption) ?rest18
     case hy18 => (intro wy hSw; (try dsimp only at hSw); go_simp; (first | done | with_reducible rfl))
     try simp only [Act.put, p1q, p2q, p3q, p4q, p5q, p6q]
     refine wpAnyH_take (i := 12) (v := ?v19) rfl (by kernel_rfl) (by kernel_rfl) (by kernel_rfl) (fun _ _ _ h => h) (Or.inl ⟨by rfl, ?hy19⟩) (by assumption) ?rest19
     case hy19 => (intro wy hSw; (try dsimp only at hSw); go_simp; (first | done | with_reducible rfl))
     try simp only [Act.put, p1q, p2q, p3q, p4q, p5q, p6q]
     refine wpAnyH_take (i := 13) (v := ?v20) rfl (by kernel_rfl) (by kernel_rfl) (by kernel_rfl) (fun _ _ _ h => h) (Or.inl ⟨by rfl, ?hy20⟩) (by assumption) ?rest20
     case hy20 => (intro wy hSw; (try dsimp only at hSw); go_simp; (first | done | with_reducible rfl))
     try simp only [Act.put, p1q, p2q, p3q, p4q, p5q, p6q]
     refine wpAnyH_take (i := 14) (v := ?v21) rfl (by kernel_rfl) (by kernel_rfl) (by kernel_rfl) (fun _ _ _ h => h) (Or.inl ⟨by rfl, ?hy21⟩) (by assumption) ?rest21
     case hy21 => (intro wy hSw; (try dsimp only at hSw); go_simp; (first | done | with_reducible rfl))
     try simp only [Act.put, p1q, p2q, p3q, p4q, p5q, p6q]
     refine wpAnyH_take (i := 16) (v := ?v22) rfl (by kernel_rfl) (by kernel_rfl) (by kernel_rfl) (fun _ _ _ h => h) (Or.inl ⟨by rfl, ?hy22⟩) (by assumption) ?rest22
     case hy22 => (intro wy hSw; (try dsimp only at hSw); go_simp; (first | done | with_reducible rfl))
     try simp only [Act.put, p1q, p2q, p3q, p4q, p5q, p6q]
     refine wpAnyH_take (i := 18) (v := ?v23) rfl (by kernel_rfl) (by kernel_rfl) (by kernel_rfl) (fun _ _ _ h => h) (Or.inl ⟨by rfl, ?hy23⟩) (by assumption) ?rest23
     case hy23 => (intro wy hSw; (try dsimp only at hSw); go_simp; (first | done | with_reducible rfl))
     try simp only [Act.put, p1q, p2q, p3q, p4q, p5q, p6q]
     refine wpAnyH_take (i := 19) (v := ?v24) rfl (by kernel_rfl) (by kernel_rfl) (by kernel_rfl) (fun _ _ _ h => h) (Or.inl ⟨by rfl, ?hy24⟩) (by assumption) ?rest24
     case hy24 => (intro wy hSw; (try dsimp only at hSw); go_simp; (first | done | with_reducible rfl))
     try simp only [Act.put, p1q, p2q, p3q, p4q, p5q, p6q]
     refine wpAnyH_ready (rs := [15]) (by kernel_rfl) (by simp) ?_
     refine AllReadyH.cons rfl (fun KK hK => ?_) AllReadyH.nil
     rw [if_pos (by rfl)]
     go_simp
     refine hK.out _ _ ⟨c3, b0, b1, b2, b3⟩ (fun hHeld => ?_)
     clear hK KK
     try simp only [Act.put, p1q, p2q, p3q, p4q, p5q, p6q]
     refine wpAnyH_ready (rs := [17]) (by kernel_rfl) (by simp) ?_
     refine AllReadyH.cons rfl (fun KK hK => ?_) AllReadyH.nil
     rw [if_pos (by rfl)]
     go_simp
     go_at_call 57
     refine (ljoined_as HM1 HM2 HJ _).mono ?_
     rintro e w3 ⟨rfl, hb3'⟩
     have hb3 : Below Y.heap.size Y w3 := qAi hb3'
     have hS3 := keep5 ⟨c3, b0, b1, b2, b3⟩ hb3 hqY hYz
     have HqW3 : Hid (Hp w3 qb 102 (qC nm vc vl kb K.length)) := HqY.out.below hb3 hqY
     have HkW3 : Hid (Hp w3 kb 111 (flatK (K.set p (true, joinU s0 s k)))) := HkY.out.below hb3 hkY
     refine hK.out _ _ hS3 (fun hHeld => ?_)
     clear hK KK
     try simp only [Act.put, p1q, p2q, p3q, p4q, p5q, p6q]
     refine wpAnyH_take (i := 20) (v := ?v25) rfl (by kernel_rfl) (by kernel_rfl) (by kernel_rfl) (fun _ _ _ h => h) (Or.inl ⟨by rfl, ?hy25⟩) (by assumption) ?rest25
     case hy25 => (intro wy hSw; (try dsimp only at hSw); go_simp; (first | done | with_reducible rfl))
     try simp only [Act.put, p1q, p2q, p3q, p4q, p5q, p6q]
     have hAT3 := (HkW3.out.state h8K hpK hgK).typ (qBk _ _ _) hlt
     rw [joinU_at _ _ hlt, if_neg (by omega), HS.out] at hAT3
     obtain ⟨m0, m1, m2, m3⟩ := hAT3
     simp only at m0 m1 m2 m3
     have f0 := HkW3.out.frozen (p * 33 + 1 + k * 4)
     have f1 := HkW3.out.frozen (p * 33 + 1 + k * 4 + 1)
     have f2 := HkW3.out.frozen (p * 33 + 1 + k * 4 + 2)
     have f3 := HkW3.out.frozen (p * 33 + 1 + k * 4 + 3)
     have HP := keepJ (HkW3.out.putT h8K hpK hgK hlt ⟨jk, jl, jh, jm⟩)
     have HS5 := keepJ (keep5s (kb := kb) (o := p * 33 + 1 + k * 4) (t := ⟨jk, jl, jh, jm⟩) hS3 hne hYk)
     refine wpAnyH_ready (rs := [21]) (by kernel_rfl) (by simp) ?_
     refine AllReadyH.cons rfl (fun KK hK => ?_) AllReadyH.nil
     rw [if_pos (by rfl)]
     go_simp
     refine hK.out _ _ HS5.out (fun hHeld => ?_)
     clear hK KK
     try simp only [Act.put, p1q, p2q, p3q, p4q, p5q, p6q]
     refine wpAnyH_done (by kernel_rfl) ?_ _
     go_wp2
     go_roundw
     case rel => exact ⟨k + 1, by omega, by go_num, by rw [joinU_step _ _ hlt, HS.out, HT.out, HJ.out]; have := HP.out; rw [List.set_set] at this; exact this, qAl (qAl HGY.out (qAv hb3 _)) (qAa kb (tyC ⟨jk, jl, jh, jm⟩) w3 _)⟩
     case measure => simp [intOf]; omega
    ·obtain rfl : k = 8 := by omega
     go_wp2
     refine bodyPost_end (results_none rfl _ _ _) rfl ⟨rfl, qAl HgW.out HGr.out, ?_⟩
     unfold arrK
     rw [if_neg (by decide), HK.out, if_neg (fun h => by cases h)]
     exact HKr.out
def hasI (xs : List Int) (x : Int) : Bool := (List.range xs.length).any fun k => decide (xs.getD k 0 = x)
theorem hasI_no {xs : List Int} {x : Int} : hasI xs x = false ↔ ∀ k, k < xs.length -> xs.getD k 0 ≠ x := by
 unfold hasI
 rw [List.any_eq_false]
 constructor
 ·intro h k hk; simpa using h k (List.mem_range.2 hk)
 ·intro h k hk; simpa using h k (List.mem_range.1 hk)
theorem hasI_yes {xs : List Int} {x : Int} {k : Nat} (hk : k < xs.length) (h : xs.getD k 0 = x) : hasI xs x = true := by
 unfold hasI
 rw [List.any_eq_true]
 exact ⟨k, List.mem_range.2 hk, by simpa using h⟩
set_option maxHeartbeats 800000 in
theorem lindex_any (v : Value) (xs : List Int) (x : Int) (w : World) (hs : Sees .i64 w v xs) : Calls Tryz.prog 75 #[v, .int .i64 x] w fun e w' => ∃ q : Int, e = .returned (.int .i64 q) /\ Hid (decide (0 <= q) = hasI xs x) /\ w = w' := by
 have HS := keepJ hs
 obtain ⟨a, cap, rfl, h1, h2, h3, h4, h5⟩ := hs
 have hm : xs.length <= 9223372036854775807 := by unfold maxLen at h2; omega
 obtain ⟨N, HN⟩ : ∃ N, Hid (xs.length = N) := ⟨_, rfl⟩
 rw [HN.out] at hm h1
 rw [HN.out]
 go_enter Tryz.func75, Tryz.ntmps75
 go_wp2
 go_loopw [8] (fun i wr => ∃ k : Nat, k <= N /\ i = .int .i64 k /\ Hid (∀ j, j < k -> xs.getD j 0 ≠ x) /\ w = wr) (fun i _ => N - (intOf i).toNat)
 case atStart => exact ⟨0, by omega, rfl, fun j hj => by omega, rfl⟩
 case round =>
  obtain ⟨k, hk, rfl, HI, rfl⟩ := hrel
  by_cases hlt : k < N
  ·obtain ⟨b, off, rfl, hb, hat⟩ := h5 (fun e => by have := HN.out; rw [e] at this; simp at this; omega)
   obtain ⟨y, HY⟩ : ∃ y, Hid (xs.getD k 0 = y) := ⟨_, rfl⟩
   have c0 := hat k (by have := HN.out; omega)
   rw [HY.out] at c0
   have hkI : (k : Int) < N := by omega
   clear h5 hat
   by_cases hxy : x = y
   ·subst hxy
    have HQ : Hid (decide (0 <= (k : Int)) = hasI xs x) := by
     show _ = _
     rw [hasI_yes (k := k) (by have := HN.out; omega) HY.out]
     simp
    go_wp2
    go_ret
    exact ⟨_, rfl, HQ.out, rfl⟩
   ·go_wp2
    go_roundw
    case rel => exact ⟨k + 1, by omega, by go_num, fun j hj => by
     by_cases h : j = k
     ·subst h; rw [HY.out]; exact fun e => hxy e.symm
     ·exact HI.out j (by omega), by first | rfl | trivial⟩
    case measure => simp [intOf]; omega
  ·obtain rfl : k = N := by omega
   have HQ : Hid (decide (0 <= (-1 : Int)) = hasI xs x) := by
    show _ = _
    rw [hasI_no.2 (by rw [HN.out]; exact HI.out)]
    rfl
   go_wp2
   go_ret
   exact ⟨_, rfl, HQ.out, rfl⟩
theorem lcontains_any (v : Value) (xs : List Int) (x : Int) (w : World) (hs : Sees .i64 w v xs) {r : Bool} (hr : Hid (hasI xs x = r)) : Calls Tryz.prog 56 #[v, .int .i64 x] w fun e w' => e = .returned (.bool r) /\ w = w' := by
 have HS := keepJ hs
 obtain ⟨a, cap, rfl, _⟩ := hs
 go_enter Tryz.func56, Tryz.ntmps56
 go_wp2_with (go_at_call 75; go_must (refine (lindex_any _ xs x _ HS.out).mono ?_); rintro e w' ⟨q, rfl, HQ, rfl⟩)
 go_ret
 refine ⟨?_, rfl⟩
 rw [<- hr.out, <- HQ.out]
 rfl
def okM (ms : List Int) (i : Nat) : Bool := decide (0 <= ms.getD i 0) && decide (ms.getD i 0 <= 3) && ((List.range i).all fun k => decide (ms.getD k 0 ≠ ms.getD i 0))
theorem has_take {ms : List Int} {i : Nat} (hi : i <= ms.length) (x : Int) : hasI (ms.take i) x = !((List.range i).all fun k => decide (ms.getD k 0 ≠ x)) := by
 unfold hasI
 rw [List.length_take, Nat.min_eq_left hi, Bool.eq_iff_iff]
 simp only [List.any_eq_true, Bool.not_eq_true', List.all_eq_false, List.mem_range, decide_eq_true_eq]
 constructor
 ·rintro ⟨k, hk, h⟩
  exact ⟨k, hk, by simpa [List.getD, List.getElem?_take, hk] using h⟩
 ·rintro ⟨k, hk, h⟩
  exact ⟨k, hk, by simpa [List.getD, List.getElem?_take, hk] using h⟩
set_option maxHeartbeats 1600000 in
theorem lmapsFit_any (v : Value) (ms : List Int) (w : World) (hs : Sees .i64 w v ms) {r : Bool} (hr : Hid (mapsJ ms = r)) : Calls Tryz.prog 35 #[v] w fun e w' => e = .returned (.bool r) /\ w = w' := by
 have HS := keepJ hs
 obtain ⟨a, cap, rfl, h1, h2, h3, h4, h5⟩ := hs
 obtain ⟨N, HN⟩ : ∃ N, Hid (ms.length = N) := ⟨_, rfl⟩
 have hcap : cap <= 9223372036854775807 := by unfold maxLen at h2; omega
 rw [HN.out] at h1 HS ⊢
 by_cases hN : N <= 4
 ·have HE : Hid (r = (List.range N).all (okM ms)) := by
   show _ = _
   rw [<- hr.out]
   unfold mapsJ okM
   rw [HN.out, decide_eq_true hN, Bool.true_and]
  have hNI : (N : Int) <= 4 := by omega
  clear hr
  go_enter Tryz.func35, Tryz.ntmps35
  go_wp2
  go_loopw [10] (fun i wr => ∃ k : Nat, k <= N /\ i = .int .i64 k /\ Hid ((List.range k).all (okM ms) = true) /\ w = wr) (fun i _ => N - (intOf i).toNat)
  case atStart => exact ⟨0, by omega, rfl, rfl, rfl⟩
  case round =>
   obtain ⟨k, hk, rfl, HI, rfl⟩ := hrel
   by_cases hlt : k < N
   ·obtain ⟨b, off, rfl, hb, hat⟩ := h5 (fun e => by have := HN.out; rw [e] at this; simp at this; omega)
    obtain ⟨y, HY⟩ : ∃ y, Hid (ms.getD k 0 = y) := ⟨_, rfl⟩
    have c0 := hat k (by have := HN.out; omega)
    rw [HY.out] at c0
    have hkI : (k : Int) < N := by omega
    clear h5 hat
    by_cases hy0 : y < 0
    ·have HF : Hid (r = false) := by show _ = _; rw [HE.out]; exact range_no hlt (by unfold okM; rw [HY.out, decide_eq_false (by omega)]; rfl)
     go_wp2
     go_ret
     exact ⟨by rw [HF.out]; rfl, rfl⟩
    by_cases hy4 : 4 <= y
    ·have HF : Hid (r = false) := by show _ = _; rw [HE.out]; exact range_no hlt (by unfold okM; rw [HY.out, decide_eq_false (show ¬ y <= 3 by omega), Bool.and_false]; rfl)
     go_wp2
     go_ret
     exact ⟨by rw [HF.out]; rfl, rfl⟩
    obtain ⟨q, HQ⟩ : ∃ q, Hid (hasI (ms.take k) y = q) := ⟨_, rfl⟩
    have HOK : Hid (okM ms k = !q) := by
     show _ = _
     unfold okM
     rw [HY.out, decide_eq_true (show 0 <= y by omega), decide_eq_true (show y <= 3 by omega), <- HQ.out, has_take (by have := HN.out; omega)]
     simp
    have HC : Hid (Sees .i64 w (cutV (some ⟨b, off, none⟩) 0 k cap) (ms.take k)) := by
     have := Sees.cut (xs := ms) (a := some ⟨b, off, none⟩) (cap := cap) (by rw [HN.out]; exact HS.out) 0 k cap (by omega) (by have := HN.out; omega) (by omega) (Nat.le_refl _)
     rw [List.drop_zero] at this
     exact this
    have hsl := run_upto (e := 3) Tryz.underlying22 (fun w => by simp [Go.sizeOf]; rfl) (some ⟨b, off, none⟩) N cap k (by omega)
    cases q with
    | true =>
     have HF : Hid (r = false) := by show _ = _; rw [HE.out]; exact range_no hlt (by rw [HOK.out]; rfl)
     go_wp2_with (go_at_call 56; go_must (refine (lcontains_any _ (ms.take k) y _ HC.out HQ).mono ?_); rintro e w' ⟨rfl, rfl⟩)
     go_ret
     exact ⟨by rw [HF.out]; rfl, rfl⟩
    | false =>
     go_wp2_with (go_at_call 56; go_must (refine (lcontains_any _ (ms.take k) y _ HC.out HQ).mono ?_); rintro e w' ⟨rfl, rfl⟩)
     go_roundw
     case rel => exact ⟨k + 1, by omega, by go_num, by show _ = _; rw [range_all, HI.out, HOK.out]; rfl, by first | rfl | trivial⟩
     case measure => simp [intOf]; omega
   ·obtain rfl : k = N := by omega
    have HF : Hid (r = true) := by show _ = _; rw [HE.out]; exact HI.out
    go_wp2
    go_ret
    exact ⟨by rw [HF.out]; rfl, rfl⟩
 ·have HF : Hid (r = false) := by
   show _ = _
   rw [<- hr.out]
   unfold mapsJ
   rw [HN.out, decide_eq_false hN, Bool.false_and]
  have hNI : 4 < (N : Int) := by omega
  go_enter Tryz.func35, Tryz.ntmps35
  go_wp2
  go_ret
  exact ⟨by rw [HF.out]; rfl, rfl⟩
end Go.Proofs.YtbaeakbnoijkcaaGreat
