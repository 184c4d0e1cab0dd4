/-
  S6LAsk
  J8Small
  S6LAll
  J8Value
-/
import Derived.Test.YtkondcjmhlppiaaGreatMW12
import Derived.Laws.Externs
namespace Go.Proofs.YtkondcjmhlppiaaGreat
open Go.RowKit
set_option linter.unusedVariables false
set_option maxRecDepth 100000
set_option maxRecDepth 20000
theorem results_cell {fn : Func} {p : Tmp} {ty : TypeId} (h : fn.results = #[.cell p ty]) (tmps : Array Value) (P : Program) (w : World) :
  (results fn tmps).run P w = ((asAddr (tmps.getD p undef)).run P w).andThen fun a w₁ => (loadVar ty a).run P w₁ := by
 simp only [results, h]
 simp [Sem.run_bind, Result.andThen]
theorem add64_any (x y : Int) (hx : 0 <= x) (hy : 0 <= y) (w : World) : (callFunc 116 #[.int .u64 x, .int .u64 y, .int .u64 0]).run Tryz.prog w =
  .ok (.value (.tuple #[.int .u64 ((x + y) % 18446744073709551616), .int .u64 ((x + y) / 18446744073709551616)])) w := by
 rw [run_callFunc_extern Tryz.func116 (by kernel_rfl) (by kernel_rfl) (by kernel_rfl) (e := add64Entry) (by kernel_rfl), run_add64 x y 0 hx hy (Int.le_refl 0) (by decide), Int.add_zero]
 rfl
theorem lright_any (a A : Int) (w : World) : Calls Tryz.prog 99 #[.agg #[.int .u64 a, .int .u64 A]] w fun e w' => e = .returned (.bool (decide (a <= A))) /\ w.alloc (spO a A) = w' := by
 go_enter Tryz.func99, Tryz.ntmps99
 go_wp2
 go_ret
 exact ⟨rfl, rfl⟩
theorem lsingle_any (n : Int) (w : World) : Calls Tryz.prog 83 #[.int .u64 n] w fun e w' => e = .returned (.agg #[.int .u64 n, .int .u64 n]) /\ Below w.heap.size w w' := by
 go_enter Tryz.func83, Tryz.ntmps83
 go_wp2
 refine bodyPost_ret (v := .agg #[.int .u64 n, .int .u64 n]) ?_ rfl ⟨rfl, by go_grown⟩
 rw [results_cell rfl]
 simp [asAddr, Result.andThen]
 rw [run_boxS (a := n) (A := n)]
 all_goals go_cell
theorem lfull_any (w : World) : Calls Tryz.prog 82 #[] w fun e w' => e = .returned (.agg #[.int .u64 0, .int .u64 18446744073709551615]) /\ Below w.heap.size w w' := by
 go_enter Tryz.func82, Tryz.ntmps82
 go_wp2
 refine bodyPost_ret (v := .agg #[.int .u64 0, .int .u64 18446744073709551615]) ?_ rfl ⟨rfl, by go_grown⟩
 rw [results_cell rfl]
 simp [asAddr, Result.andThen]
 rw [run_boxS (a := 0) (A := 18446744073709551615)]
 all_goals go_cell
theorem lhas_any (a A n : Int) (w : World) : Calls Tryz.prog 100 #[.agg #[.int .u64 a, .int .u64 A], .int .u64 n] w fun e w' => e = .returned (.bool (hasN a A n)) /\ w.alloc (spO a A) = w' := by
 by_cases h : a <= n
 ·go_enter Tryz.func100, Tryz.ntmps100
  go_wp2
  go_ret
  exact ⟨rb (by rw [Bool.eq_iff_iff]; simp [hasN]; omega), rfl⟩
 ·go_enter Tryz.func100, Tryz.ntmps100
  go_wp2
  go_ret
  exact ⟨rb (by rw [Bool.eq_iff_iff]; simp [hasN]; omega), rfl⟩
theorem lwithin_any (a A b B : Int) (w : World) : Calls Tryz.prog 84 #[.agg #[.int .u64 a, .int .u64 A], .agg #[.int .u64 b, .int .u64 B]] w fun e w' => e = .returned (.bool (withinB a A b B)) /\ Below w.heap.size w w' := by
 obtain ⟨r1, H1⟩ : ∃ r, Hid (r = decide (a <= A)) := ⟨_, rfl⟩
 obtain ⟨r3, H3⟩ : ∃ r, Hid (r = hasN b B a) := ⟨_, rfl⟩
 obtain ⟨r4, H4⟩ : ∃ r, Hid (r = hasN b B A) := ⟨_, rfl⟩
 have HE : Hid (withinB a A b B = (r1 && r3 && r4)) := by
  show _ = _
  rw [H1.out, H3.out, H4.out, Bool.eq_iff_iff]
  simp [withinB, hasN]
  omega
 have q1 := H1
 have q3 := H3
 have q4 := H4
 cases r1 <;> cases r3 <;> cases r4
 all_goals go_enter Tryz.func84, Tryz.ntmps84
 all_goals go_wp2_with (first
  | (go_at_call 99; have hq := q1; clear hq; go_must (refine (lright_any a A _).mono ?_); rintro e w' ⟨rfl, rfl⟩; rw [<- H1.out]; clear q1)
  | (go_at_call 100; have hq := q3; clear hq; go_must (refine (lhas_any b B a _).mono ?_); rintro e w' ⟨rfl, rfl⟩; rw [<- H3.out]; clear q3)
  | (go_at_call 100; have hq := q4; clear hq; go_must (refine (lhas_any b B A _).mono ?_); rintro e w' ⟨rfl, rfl⟩; rw [<- H4.out]; clear q4))
 all_goals go_ret
 all_goals exact ⟨rb (by rw [HE.out]; rfl), by go_grown⟩
abbrev topN : Int := 18446744073709551615
abbrev numT (hi : Int) : Ty := ⟨1, 0, hi, 0⟩
abbrev handleT : Ty := ⟨2, 0, 0, 0⟩
def argsL (h : Int) : List Ty :=
 if h = 0 ∨ h = 1 ∨ h = 3 then [handleT, numT topN] else if h = 2 ∨ h = 4 then [handleT, numT topN, numT topN] else if h = 5 then [numT 15] else if h = 6 then [numT topN] else []
def resL (h : Int) : Ty × Bool :=
 if h = 0 ∨ h = 4 ∨ h = 5 then (numT topN, true) else if h = 1 ∨ h = 2 ∨ h = 3 then (numT 1, true) else if h = 6 then (numT 0, true) else (Ty.nil, false)
theorem helper_cases (h : Int) : h = 0 ∨ h = 1 ∨ h = 2 ∨ h = 3 ∨ h = 4 ∨ h = 5 ∨ h = 6 ∨ (¬ h = 0 /\ ¬ h = 1 /\ ¬ h = 2 /\ ¬ h = 3 /\ ¬ h = 4 /\ ¬ h = 5 /\ ¬ h = 6) := by omega
theorem args_none {h : Int} (c : ¬ h = 0 /\ ¬ h = 1 /\ ¬ h = 2 /\ ¬ h = 3 /\ ¬ h = 4 /\ ¬ h = 5 /\ ¬ h = 6) : argsL h = [] := by
 unfold argsL; rw [if_neg (by omega), if_neg (by omega), if_neg (by omega), if_neg (by omega)]
theorem res_none {h : Int} (c : ¬ h = 0 /\ ¬ h = 1 /\ ¬ h = 2 /\ ¬ h = 3 /\ ¬ h = 4 /\ ¬ h = 5 /\ ¬ h = 6) : resL h = (Ty.nil, false) := by
 unfold resL; rw [if_neg (by omega), if_neg (by omega), if_neg (by omega)]
theorem number_any (a A : Int) (w : World) : Calls Tryz.prog 89 #[.agg #[.int .u64 a, .int .u64 A]] w fun e w' => e = .returned (tyV ⟨1, a, A, 0⟩) /\ Below w.heap.size w w' := by
 go_enter Tryz.func89, Tryz.ntmps89
 go_wp2
 refine bodyPost_ret (v := tyV ⟨1, a, A, 0⟩) ?_ rfl ⟨rfl, by go_grown⟩
 rw [results_cell rfl]
 simp [asAddr, Result.andThen]
 rw [run_boxT (k := 1) (lo := a) (hi := A) (m := 0)]
 refine ⟨?_, ?_, ?_, ?_⟩ <;> go_cell
theorem own_nilT (w : World) (base : Nat) (e : TypeId) : w.ownsRow base e 4 (.slice none 0 0) ([] : List Ty).length (flatT []) := ⟨rfl, .inl ⟨rfl, rfl⟩⟩
theorem Tryz.infoType8 : (Tryz.prog.info? 112).map (fun i => (i.zero, i.size, i.bytes)) = some (some (tyV Ty.nil), 4, 32) := by kernel_rfl
theorem infoT_parts : ∃ i, Tryz.prog.info? 112 = some i /\ i.zero = some (tyV Ty.nil) /\ i.size = 4 /\ i.bytes = 32 := by
 have h := Tryz.infoType8
 simp only [Option.map_eq_some_iff, Prod.mk.injEq] at h
 obtain ⟨i, h1, h2, h3, h4⟩ := h
 exact ⟨i, h1, h2, h3, h4⟩
theorem keyed_any (v : Value) (xs : List Ty) (w : World) (hs : SeesT w v xs) (hl : xs.length <= 1048576) : Calls Tryz.prog 88 #[v] w fun e w' => ∃ u, e = .returned u /\ w'.ownsRow w.heap.size 112 4 u (handleT :: numT topN :: xs).length (flatT (handleT :: numT topN :: xs)) /\ Below w.heap.size w w' := by
 obtain ⟨i0, hi, hz0, hz1, hz2⟩ := infoT_parts
 have HS : Hid (SeesT w v xs) := hs
 obtain ⟨a, cap, rfl⟩ := hs.shape
 obtain ⟨n, HN⟩ : ∃ n, Hid (xs.length = n) := ⟨_, rfl⟩
 clear hs
 go_enter Tryz.func88, Tryz.ntmps88
 go_wp2_with (first
  | (go_at_call 82; go_must (refine (lfull_any _).mono ?_); rintro e w1 ⟨rfl, hb1⟩)
  | (go_at_call 89; go_must (refine (number_any _ _ _).mono ?_); rintro e w2 ⟨rfl, hb2⟩; go_must (have hB2 := hb1.trans (hb2.mono hb1.size); have hz := hB2.size; clear hb1 hb2))
  | (at_builtin; go_must (refine wpList_append_seesT rfl (.tmp 6) (.tmp 7) 154 rfl w.heap.size 112 i0 (tyV Ty.nil) Tryz.underlying154 hi hz0 hz1 hz2 rfl _ [handleT, numT topN] rfl (ownT_lit _ _ _ _ _ _ _ rfl hz rfl rfl (by simp)) _ xs rfl ((HS.out.below hB2).below ((Below.refl _ _).alloc (Nat.le_refl _) _)) (by unfold maxLen; simp; omega) (by simp; omega) (by simp; omega) ?_); intro v3 w3 hown3 hg3; go_must (have hB3 : Below w.heap.size w w3 := (hB2.alloc hz _).grown hg3 (by simp; omega) (fun j hj => by (have hj' : w2.heap.size = j := Option.some.inj hj); omega); clear hg3)))
 go_ret
 exact ⟨_, rfl, hown3, hB3⟩
theorem own_baseT {w : World} {b base : Nat} {e : TypeId} {size : Nat} {v : Value} {n : Nat} {xs : List Value} (h : w.ownsRow base e size v n xs) (hb : b <= base) : w.ownsRow b e size v n xs := by
 obtain ⟨h1, h2 | ⟨g, cap, cur, rfl, hg, hr⟩⟩ := h
 ·exact ⟨h1, .inl h2⟩
 ·exact ⟨h1, .inr ⟨g, cap, cur, rfl, Nat.le_trans hb hg, hr⟩⟩
theorem args_any (h : Int) (w : World) : Calls Tryz.prog 61 #[.int .i64 h] w fun e w' => ∃ u, e = .returned u /\ w'.ownsRow w.heap.size 112 4 u (argsL h).length (flatT (argsL h)) /\ Below w.heap.size w w' := by
 rcases helper_cases h with rfl | rfl | rfl | rfl | rfl | rfl | rfl | c
 ·go_enter Tryz.func61, Tryz.ntmps61
  go_wp2_with (first
  | (go_at_call 88; go_must (refine (keyed_any _ [] _ (SeesT.nil _) (by simp)).mono ?_); rintro e w1 ⟨u1, rfl, hown1, hb1⟩))
  go_ret
  exact ⟨_, rfl, hown1, hb1⟩
 ·go_enter Tryz.func61, Tryz.ntmps61
  go_wp2_with (first
  | (go_at_call 88; go_must (refine (keyed_any _ [] _ (SeesT.nil _) (by simp)).mono ?_); rintro e w1 ⟨u1, rfl, hown1, hb1⟩))
  go_ret
  exact ⟨_, rfl, hown1, hb1⟩
 ·go_enter Tryz.func61, Tryz.ntmps61
  go_wp2_with (first
  | (go_at_call 82; go_must (refine (lfull_any _).mono ?_); rintro e w1 ⟨rfl, hb1⟩)
  | (go_at_call 89; go_must (refine (number_any _ _ _).mono ?_); rintro e w2 ⟨rfl, hb2⟩; go_must (have hB2 := hb1.trans (hb2.mono hb1.size); have hz := hB2.size; clear hb1 hb2))
  | (go_at_call 88; go_must (refine (keyed_any _ [numT topN] _ (SeesT.lit _ _ _ _ _ rfl rfl (by simp)) (by simp)).mono ?_); rintro e w3 ⟨u3, rfl, hown3, hb3⟩))
  go_ret
  exact ⟨_, rfl, own_baseT hown3 (by simp; omega), (hB2.alloc hz _).trans (hb3.mono (by simp; omega))⟩
 ·go_enter Tryz.func61, Tryz.ntmps61
  go_wp2_with (first
  | (go_at_call 88; go_must (refine (keyed_any _ [] _ (SeesT.nil _) (by simp)).mono ?_); rintro e w1 ⟨u1, rfl, hown1, hb1⟩))
  go_ret
  exact ⟨_, rfl, hown1, hb1⟩
 ·go_enter Tryz.func61, Tryz.ntmps61
  go_wp2_with (first
  | (go_at_call 82; go_must (refine (lfull_any _).mono ?_); rintro e w1 ⟨rfl, hb1⟩)
  | (go_at_call 89; go_must (refine (number_any _ _ _).mono ?_); rintro e w2 ⟨rfl, hb2⟩; go_must (have hB2 := hb1.trans (hb2.mono hb1.size); have hz := hB2.size; clear hb1 hb2))
  | (go_at_call 88; go_must (refine (keyed_any _ [numT topN] _ (SeesT.lit _ _ _ _ _ rfl rfl (by simp)) (by simp)).mono ?_); rintro e w3 ⟨u3, rfl, hown3, hb3⟩))
  go_ret
  exact ⟨_, rfl, own_baseT hown3 (by simp; omega), (hB2.alloc hz _).trans (hb3.mono (by simp; omega))⟩
 ·go_enter Tryz.func61, Tryz.ntmps61
  go_wp2_with (first
  | (go_at_call 89; go_must (refine (number_any _ _ _).mono ?_); rintro e w2 ⟨rfl, hb2⟩; go_must (have hz := hb2.size)))
  go_ret
  exact ⟨_, rfl, ownT_lit _ _ _ [numT 15] _ _ _ rfl hz rfl rfl (by simp), hb2.alloc hz _⟩
 ·go_enter Tryz.func61, Tryz.ntmps61
  go_wp2_with (first
  | (go_at_call 82; go_must (refine (lfull_any _).mono ?_); rintro e w1 ⟨rfl, hb1⟩)
  | (go_at_call 89; go_must (refine (number_any _ _ _).mono ?_); rintro e w2 ⟨rfl, hb2⟩; go_must (have hB2 := hb1.trans (hb2.mono hb1.size); have hz := hB2.size; clear hb1 hb2)))
  go_ret
  exact ⟨_, rfl, ownT_lit _ _ _ [numT topN] _ _ _ rfl hz rfl rfl (by simp), hB2.alloc hz _⟩
 ·have HE : Hid (argsL h = []) := args_none c
  obtain ⟨c0, c1, c2, c3, c4, c5, c6⟩ := c
  go_enter Tryz.func61, Tryz.ntmps61
  go_wp2
  go_ret
  rw [HE.out]
  exact ⟨_, rfl, own_nilT _ _ _, Below.refl _ _⟩
def oneS (s : Int × Int) : Bool := s.1 == s.2
theorem all_takeS {p : Int × Int -> Bool} {ss : List (Int × Int)} {k : Nat} (hk : k < ss.length) : (ss.take (k + 1)).all p = ((ss.take k).all p && p (ss.getD k (0, 0))) := by
 have e : ss.getD k (0, 0) = ss[k] := by simp [hk]
 rw [e, List.take_succ_eq_append_getElem hk, List.all_append]
 simp
theorem all_fails {p : Int × Int -> Bool} {ss : List (Int × Int)} {k : Nat} (hk : k < ss.length) (h : p (ss.getD k (0, 0)) = false) : ss.all p = false := by
 have e : ss.getD k (0, 0) = ss[k] := by simp [hk]
 rw [e] at h
 rw [List.all_eq_false]
 exact ⟨ss[k], List.getElem_mem hk, by simp [h]⟩
theorem lallRight_some (bk off cap : Nat) (ss : List (Int × Int)) (w : World) (hpos : 0 < ss.length) (hc : ss.length <= cap) (hm : cap <= 9223372036854775807) (hbk : bk < w.heap.size)
  (hat : ∀ k, k < ss.length -> AtS w bk (off + k * 2) (ss.getD k (0, 0))) :
  Calls Tryz.prog 98 #[.slice (some ⟨bk, off, none⟩) ss.length cap] w fun e w' => e = .returned (.bool (ss.all okS)) /\ Below w.heap.size w w' := by
 have HA : Hid (∀ k, k < ss.length -> AtS w bk (off + k * 2) (ss.getD k (0, 0))) := hat
 clear hat
 obtain ⟨n, HN⟩ : ∃ n, Hid (n = ss.length) := ⟨_, rfl⟩
 rw [<- HN.out] at hc hpos ⊢
 obtain ⟨R, HR⟩ : ∃ R, Hid (R = ss.all okS) := ⟨_, rfl⟩
 rw [<- HR.out]
 go_enter Tryz.func98, Tryz.ntmps98
 go_wp2
 go_loopw [7] (fun i wr => ∃ k : Nat, k <= n /\ i = .int .i64 k /\ Hid ((ss.take k).all okS = true) /\ Below w.heap.size w wr) (fun i _ => n - (intOf i).toNat)
 case atStart => exact ⟨0, by omega, rfl, rfl, by go_grown⟩
 case round =>
  obtain ⟨k, hk, rfl, HI, hbe⟩ := hrel
  have hsz := hbe.size
  by_cases hlt : k < n
  ·obtain ⟨y, Y, HS⟩ : ∃ y Y, Hid (ss.getD k (0, 0) = (y, Y)) := ⟨_, _, rfl⟩
   have hcell := (HA.out k (by have := HN.out; omega)).below hbe hbk
   rw [HS.out] at hcell
   obtain ⟨e0, e1⟩ := hcell
   simp only at e0 e1
   cases hr : decide (y <= Y)
   ·have HF : Hid (R = false) := by rw [HR.out]; exact all_fails (k := k) (by have := HN.out; omega) (by rw [HS.out]; exact hr)
    go_wp2_with (go_at_call 99; go_must (refine (lright_any y Y _).mono ?_); rintro e w' ⟨rfl, rfl⟩)
    go_ret
    exact ⟨rb HF.out.symm, (hbe.alloc hsz _).alloc (by simp; omega) _⟩
   ·have HOK : Hid ((ss.take (k + 1)).all okS = true) := by
     show _ = _
     rw [all_takeS (by have := HN.out; omega), HI.out, HS.out]; exact hr
    go_wp2_with (go_at_call 99; go_must (refine (lright_any y Y _).mono ?_); rintro e w' ⟨rfl, rfl⟩)
    go_roundw
    case rel => exact ⟨k + 1, by omega, by go_num, HOK, (hbe.alloc hsz _).alloc (by simp; omega) _⟩
    case measure => simp [intOf]; omega
  ·obtain rfl : k = n := by omega
   have HF : Hid (R = true) := by show _ = _; rw [HR.out, <- HI.out, HN.out, List.take_length]
   go_wp2
   go_ret
   exact ⟨rb HF.out.symm, hbe⟩
theorem lallSingle_some (bk off cap : Nat) (ss : List (Int × Int)) (w : World) (hpos : 0 < ss.length) (hc : ss.length <= cap) (hm : cap <= 9223372036854775807) (hbk : bk < w.heap.size)
  (hat : ∀ k, k < ss.length -> AtS w bk (off + k * 2) (ss.getD k (0, 0))) :
  Calls Tryz.prog 101 #[.slice (some ⟨bk, off, none⟩) ss.length cap] w fun e w' => e = .returned (.bool (ss.all oneS)) /\ Below w.heap.size w w' := by
 have HA : Hid (∀ k, k < ss.length -> AtS w bk (off + k * 2) (ss.getD k (0, 0))) := hat
 clear hat
 obtain ⟨n, HN⟩ : ∃ n, Hid (n = ss.length) := ⟨_, rfl⟩
 rw [<- HN.out] at hc hpos ⊢
 obtain ⟨R, HR⟩ : ∃ R, Hid (R = ss.all oneS) := ⟨_, rfl⟩
 rw [<- HR.out]
 go_enter Tryz.func101, Tryz.ntmps101
 go_wp2
 go_loopw [7] (fun i wr => ∃ k : Nat, k <= n /\ i = .int .i64 k /\ Hid ((ss.take k).all oneS = true) /\ Below w.heap.size w wr) (fun i _ => n - (intOf i).toNat)
 case atStart => exact ⟨0, by omega, rfl, rfl, by go_grown⟩
 case round =>
  obtain ⟨k, hk, rfl, HI, hbe⟩ := hrel
  have hsz := hbe.size
  by_cases hlt : k < n
  ·obtain ⟨y, Y, HS⟩ : ∃ y Y, Hid (ss.getD k (0, 0) = (y, Y)) := ⟨_, _, rfl⟩
   have hcell := (HA.out k (by have := HN.out; omega)).below hbe hbk
   rw [HS.out] at hcell
   obtain ⟨e0, e1⟩ := hcell
   simp only at e0 e1
   cases hr : (y == Y)
   ·have HF : Hid (R = false) := by rw [HR.out]; exact all_fails (k := k) (by have := HN.out; omega) (by rw [HS.out]; exact hr)
    go_wp2
    go_ret
    exact ⟨rb HF.out.symm, hbe.alloc hsz _⟩
   ·have HOK : Hid ((ss.take (k + 1)).all oneS = true) := by
     show _ = _
     rw [all_takeS (by have := HN.out; omega), HI.out, HS.out]; exact hr
    go_wp2
    go_roundw
    case rel => exact ⟨k + 1, by omega, by go_num, HOK, hbe.alloc hsz _⟩
    case measure => simp [intOf]; omega
  ·obtain rfl : k = n := by omega
   have HF : Hid (R = true) := by show _ = _; rw [HR.out, <- HI.out, HN.out, List.take_length]
   go_wp2
   go_ret
   exact ⟨rb HF.out.symm, hbe⟩
theorem lallRight_any (v : Value) (ss : List (Int × Int)) (w : World) (hs : SeesS w v ss) (hne : ss ≠ []) :
  Calls Tryz.prog 98 #[v] w fun e w' => e = .returned (.bool (ss.all okS)) /\ Below w.heap.size w w' := by
 obtain ⟨a, cap, rfl, hl, hm, hn, hc⟩ := hs
 obtain ⟨b, off, rfl, hb, hat⟩ := hc hne
 exact lallRight_some b off cap ss w (List.length_pos_iff.2 hne) hl (by unfold maxLen at hm; omega) hb hat
theorem lallSingle_any (v : Value) (ss : List (Int × Int)) (w : World) (hs : SeesS w v ss) (hne : ss ≠ []) :
  Calls Tryz.prog 101 #[v] w fun e w' => e = .returned (.bool (ss.all oneS)) /\ Below w.heap.size w w' := by
 obtain ⟨a, cap, rfl, hl, hm, hn, hc⟩ := hs
 obtain ⟨b, off, rfl, hb, hat⟩ := hc hne
 exact lallSingle_some b off cap ss w (List.length_pos_iff.2 hne) hl (by unfold maxLen at hm; omega) hb hat
abbrev resV (E : Int) (f : Bool) (v : Int) (o : Bool) (k u : Int) : Value := .agg #[.int .i64 E, .bool f, .int .u64 v, .bool o, .int .u64 k, .int .u64 u]
def valL (h E : Int) (f : Bool) (v : Int) : Int :=
 if h = 0 ∨ h = 4 then v else if ((h = 1 ∨ h = 3) /\ f = true) ∨ (h = 2 /\ E = 0) then 1 else 0

theorem truth_any (b : Bool) (w : World) : Calls Tryz.prog 74 #[.bool b] w fun e w' => e = .returned (.int .u64 (if b then 1 else 0)) /\ w = w' := by
 cases b
 all_goals go_enter Tryz.func74, Tryz.ntmps74
 all_goals go_wp2
 all_goals go_ret
 all_goals exact ⟨rfl, rfl⟩
theorem val_other {h E : Int} {f : Bool} {v : Int} (c : ¬ h = 0 /\ ¬ h = 1 /\ ¬ h = 2 /\ ¬ h = 3 /\ ¬ h = 4) : valL h E f v = 0 := by
 unfold valL; rw [if_neg (by omega), if_neg (by omega)]
theorem retu {a b : Int} (h : a = b) : Ending.returned (.int .u64 a) = .returned (.int .u64 b) := by rw [h]
set_option maxHeartbeats 1600000 in
theorem value_any (h E : Int) (f : Bool) (v : Int) (o : Bool) (k u : Int) (w : World) : Calls Tryz.prog 44 #[.int .i64 h, resV E f v o k u] w fun e w' => e = .returned (.int .u64 (valL h E f v)) /\ Below w.heap.size w w' := by
 rcases helper_cases h with rfl | rfl | rfl | rfl | rfl | rfl | rfl | c
 rotate_right
 ·have HE : Hid (valL h E f v = 0) := val_other (by omega)
  obtain ⟨c0, c1, c2, c3, c4, c5, c6⟩ := c
  go_enter Tryz.func44, Tryz.ntmps44
  go_wp2
  go_ret
  exact ⟨retu HE.out.symm, by go_grown⟩
 all_goals by_cases hE : E = 0
 all_goals try subst hE
 all_goals cases f
 all_goals go_enter Tryz.func44, Tryz.ntmps44
 all_goals go_wp2_with (go_at_call 74; go_must (refine (truth_any _ _).mono ?_); rintro e w1 ⟨rfl, rfl⟩)
 all_goals go_ret
 all_goals exact ⟨retu (by simp [valL, *]), by go_grown⟩
end Go.Proofs.YtkondcjmhlppiaaGreat
