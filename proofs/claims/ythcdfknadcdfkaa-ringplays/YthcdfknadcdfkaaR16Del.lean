
/-
  slices.Delete of one waiting event, the row being the call's own. Condition: the row is the call's own; at most 1000 events; the place is within it.
-/
import Derived.Test.YthcdfknadcdfkaaTk
import Derived.Test.YthcdfknadcdfkaaR16RefE
import Derived.OwnWalk
namespace Go.Proofs.Ythcdfknadcdfkaa
open Go.RowKit
set_option linter.unusedVariables false
set_option linter.unusedSimpArgs false
set_option maxRecDepth 100000

theorem qflat_one (L : List Qe) : ∀ u ∈ flatG qeC L, u.oneCell' = true := by
  intro u hu
  simp only [flatG, List.mem_flatMap] at hu
  obtain ⟨p, _, hp⟩ := hu
  exact qe_one p u hp
theorem qflat_take (L : List Qe) (i : Nat) : (flatG qeC L).take (i * 3) = flatG qeC (L.take i) := by
  induction L generalizing i with
  | nil => simp [flatG]
  | cons p l ih =>
    cases i with
    | zero => simp [flatG]
    | succ i =>
      have e : flatG qeC (p :: l) = qeC p ++ flatG qeC l := by simp [flatG]
      have e2 : flatG qeC ((p :: l).take (i + 1)) = qeC p ++ flatG qeC (l.take i) := by simp [flatG]
      rw [e, e2, ← ih i, show (i + 1) * 3 = i * 3 + 1 + 1 + 1 by omega]
      rfl
theorem qflat_drop (L : List Qe) (i : Nat) : (flatG qeC L).drop (i * 3) = flatG qeC (L.drop i) := by
  induction L generalizing i with
  | nil => simp [flatG]
  | cons p l ih =>
    cases i with
    | zero => simp [flatG]
    | succ i =>
      have e : flatG qeC (p :: l) = qeC p ++ flatG qeC l := by simp [flatG]
      have e2 : flatG qeC ((p :: l).drop (i + 1)) = flatG qeC (l.drop i) := by simp [flatG]
      rw [e, e2, ← ih i, show (i + 1) * 3 = i * 3 + 1 + 1 + 1 by omega]
      rfl
def qdelIn (cur : List Value) (a : Nat) (B Z : List Value) : List Value :=
  let c1 := cur.take a ++ B ++ cur.drop (a + B.length)
  c1.take (a + B.length) ++ Z ++ c1.drop (a + B.length + Z.length)
theorem qdelIn_len (cur : List Value) (a : Nat) (B Z : List Value) (h : a + B.length + Z.length ≤ cur.length) : (qdelIn cur a B Z).length = cur.length := putIn'_len cur a B Z h
theorem qdelIn_take (cur : List Value) (a : Nat) (B Z : List Value) (h : a + B.length + Z.length ≤ cur.length) : (qdelIn cur a B Z).take (a + B.length) = cur.take a ++ B := by
  have := putIn'_take cur a B Z h
  rw [show qdelIn cur a B Z = putIn' cur a B Z from rfl, ← List.take_left' (l₁ := cur.take a ++ B) (l₂ := Z) rfl, ← this, List.take_take]
  congr 1
  simp
  omega
theorem qflat_erase (i : Nat) (L : List Qe) : flatG qeC (L.eraseIdx i) = (flatG qeC L).take (i * 3) ++ (flatG qeC L).drop ((i + 1) * 3) := by
  rw [List.eraseIdx_eq_take_drop_succ, flatG_app, qflat_take, qflat_drop]
/-- clear of one record at a row's place. -/
theorem q_clear1 {P : Program} (w : World) (t e ty : TypeId) (zv : Value) (ht : P.underlying t = some (.slice e)) (hv : ∀ w, (zeroValue e).run P w = .ok zv w) (zs : List Value) (hz : (Builtin.zeroCells zv.cells 1).toList = zs) (h1 : ∀ u ∈ zs, u.oneCell' = true) (g o c : Nat) (cur : List Value) (tt : TypeId) (hg : w.heap[g]? = some (.cells cur.toArray tt (0, 0))) (hfit : o + zs.length ≤ cur.length) :
    ∃ w', (Builtin.clear_ #[t] ty #[.slice (some ⟨g, o, none⟩) 1 c]).run P w = .ok (.tuple #[]) w' ∧ w'.heap[g]? = some (.cells (cur.take o ++ zs ++ cur.drop (o + zs.length)).toArray tt (0, 0)) ∧ Chg w w' (fun k => k = g) := by
  have hst := run_storeCells_at P g o tt zs 0 cur.toArray w hg (by simpa using hfit) h1
  simp only [Nat.add_zero] at hst
  refine ⟨_, ?_, setRow_heap w g _ _ tt _ hg, ⟨rfl, rfl, rfl, by simp [World.setRow], fun k hk hne => setRow_other w g k _ hne⟩⟩
  simp [Builtin.clear_, run_underlying ht, hv, hz, hst]
/-- append within the row. -/
theorem q_appRow {P : Program} (w : World) (t ty e : TypeId) (i : TypeInfo) (z : Nat) (ht : P.underlying t = some (.slice e)) (hi : P.info? e = some i) (hz : i.size = z) (g n cap : Nat) (a : Addr) (m c : Nat) (cur news : List Value) (tt : TypeId) (hg : w.heap[g]? = some (.cells cur.toArray tt (0, 0)))
    (hl : news.length = m * z) (hnews : ∀ j u, news[j]? = some u → w.cell? (a.add j) = some u) (h1 : ∀ u ∈ news, u.oneCell' = true) (hroom : n + m ≤ cap) (hfit : n * z + news.length ≤ cur.length) :
    ∃ w', (Builtin.append_ #[t, t] ty #[.slice (some ⟨g, 0, none⟩) n cap, .slice (some a) m c]).run P w = .ok (.slice (some ⟨g, 0, none⟩) (n + m) cap) w' ∧ w'.heap[g]? = some (.cells (cur.take (n * z) ++ news ++ cur.drop (n * z + news.length)).toArray tt (0, 0)) ∧ Chg w w' (fun k => k = g) := by
  have hst := run_storeCells_at P g (n * z) tt news 0 cur.toArray w hg (by simpa using hfit) h1
  have hfc := run_firstCells_some (P := P) w i.size m a m c news (by rw [hz]; exact hl) hnews
  subst hz
  simp only [Nat.add_zero] at hst
  refine ⟨_, ?_, setRow_heap w g _ _ tt _ hg, ⟨rfl, rfl, rfl, by simp [World.setRow], fun k hk hne => setRow_other w g k _ hne⟩⟩
  simp [Builtin.append_, run_underlying ht, sizeOf, typeInfo, hi, Builtin.lenOf, hroom, hfc, Addr.add_lit, hst]
set_option maxHeartbeats 4000000 in
theorem qdel_at {w : World} {B g cap i n : Nat} {L : List Qe} (h : w.ownsRow B 46 3 (.slice (some ⟨g, 0, none⟩) L.length cap) L.length (flatG qeC L)) (hl : L.length ≤ 1000) (hi : i < L.length) (hn : L.length = n + 1) :
    Calls Try.prog 23 #[.slice (some ⟨g, 0, none⟩) ((n + 1 : Nat)) cap, .int .i64 i, .int .i64 ((i : Int) + 1)] w fun e w' => ∃ v', e = .returned v' ∧ w'.ownsRow B 46 3 v' (L.eraseIdx i).length (flatG qeC (L.eraseIdx i)) ∧ Chg w w' (fun k => k = g) ∧ v'.ownBlock = some g := by
  obtain ⟨g', cap', cur, e1, hb, hh, hnc, hcm, hcs, ht⟩ := own_row h (by omega)
  simp only [Value.slice.injEq, Option.some.injEq, Addr.mk.injEq, true_and, and_true] at e1
  obtain ⟨rfl, rfl⟩ := e1
  obtain ⟨cu, rfl⟩ : ∃ cu : List Value, cur = cu.toArray := ⟨cur.toList, by simp⟩
  simp only [List.size_toArray] at hcs ht
  have hL2 := flatG_len (f := qeC) qeC_len L
  have hcm' : cap ≤ 9223372036854775807 := by unfold maxLen at hcm; omega
  have hdl : ((flatG qeC L).drop ((i + 1) * 3)).length = (n - i) * 3 := by rw [List.length_drop, hL2]; omega
  obtain ⟨i0, hi0, hz0, hzs, hzb⟩ := info_parts infoQe
  have hcell := h.cells (g := g) rfl
  have hel : (L.eraseIdx i).length = n := by rw [List.length_eraseIdx_of_lt hi]; omega
  have hK : ∃ A : Addr, (if cap = i + 1 then some (⟨g, 0, none⟩ : Addr) else some ⟨g, (i + 1) * 3, none⟩) = some A ∧ ∀ j u, ((flatG qeC L).drop ((i + 1) * 3))[j]? = some u → w.drew.cell? (A.add j) = some u := by
    by_cases hc : cap = i + 1
    · refine ⟨⟨g, 0, none⟩, by rw [if_pos hc], fun j u hu => ?_⟩
      have h0 : ((flatG qeC L).drop ((i + 1) * 3)).length = 0 := by rw [hdl]; omega
      rw [List.length_eq_zero_iff.1 h0] at hu
      simp at hu
    · refine ⟨⟨g, (i + 1) * 3, none⟩, by rw [if_neg hc], fun j u hu => ?_⟩
      rw [List.getElem?_drop] at hu
      have := hcell _ _ hu
      rw [Addr.add_lit, Nat.zero_add] at this
      rw [Addr.add_lit]
      exact this
  obtain ⟨A, hA, hsrc⟩ := hK
  obtain ⟨w1, hr1, hh1, hc1⟩ := q_appRow (P := Try.prog) w.drew 50 50 46 i0 3 Try.underlying50 hi0 hzs g i cap A (n - i) (cap - (i + 1)) cu ((flatG qeC L).drop ((i + 1) * 3)) 46 hh hdl hsrc (fun u hu => qflat_one L u (List.mem_of_mem_drop hu)) (by omega) (by rw [hdl, hcs]; omega)
  rw [show i + (n - i) = n by omega] at hr1
  have hl1 : (cu.take (i * 3) ++ (flatG qeC L).drop ((i + 1) * 3) ++ cu.drop (i * 3 + ((flatG qeC L).drop ((i + 1) * 3)).length)).length = cap * 3 := by
    rw [List.length_append, List.length_append, hdl, List.length_take, List.length_drop, hcs]
    omega
  obtain ⟨w2, hr2, hh2, hc2⟩ := q_clear1 (P := Try.prog) w1 50 46 0 _ Try.underlying50 Try.zeroValue46 [.int .i64 0, .int .u64 0, .int .u64 0] (by kernel_rfl) (by intro u hu; simp at hu; rcases hu with rfl | rfl | rfl <;> rfl) g (n * 3) (cap - n) _ 46 hh1 (by rw [hl1]; simp; omega)
  have HV : Hid (w2.ownsRow B 46 3 (.slice (some ⟨g, 0, none⟩) n cap) (L.eraseIdx i).length (flatG qeC (L.eraseIdx i))) := by
    show _
    rw [hel]
    have hfit : i * 3 + ((flatG qeC L).drop ((i + 1) * 3)).length + [Value.int .i64 0, .int .u64 0, .int .u64 0].length ≤ cu.length := by rw [hdl, hcs]; simp; omega
    have ht' : cu.take (i * 3) = (flatG qeC L).take (i * 3) := by
      rw [← ht, List.take_take]
      congr 1
      omega
    refine own_of (cs := qdelIn cu (i * 3) ((flatG qeC L).drop ((i + 1) * 3)) [.int .i64 0, .int .u64 0, .int .u64 0]) hb (by rw [hh2, show n * 3 = i * 3 + ((flatG qeC L).drop ((i + 1) * 3)).length by rw [hdl]; omega]; rfl) (by omega) hcm (by rw [qdelIn_len _ _ _ _ hfit, hcs]) ?_
    rw [qflat_erase, ← ht', ← qdelIn_take _ _ _ _ hfit, hdl]
    congr 1
    omega
  have HC : Hid (Chg w w2 (fun k => k = g)) := show Chg w w2 _ from ((Chg.refl w _).drewN 1).trans (hc1.trans hc2 (fun _ _ e => e)) (fun _ _ e => e)
  have hnI : (i : Int) ≤ n := by omega
  have hw1 : IntKind.i64.wrap ((i : Int) + 1) = (i : Int) + 1 := by rw [IntKind.wrap_i64]; omega
  have htn : ((i : Int) + 1).toNat = i + 1 := by omega
  have hb1 : (0 : Int) ≤ (i : Int) + 1 := by omega
  have hb3 : (i : Int) ≤ (n : Int) + 1 := by omega
  have hb4 : (i : Int) + 1 ≤ (n : Int) + 1 := by omega
  have hb5 : ¬ (i : Int) = (i : Int) + 1 := by omega
  have hb6 : (i : Int) ≤ (i : Int) + 1 := by omega
  have hb7 : (i : Int) ≤ (cap : Int) := by omega
  have hb8 : ¬ cap = n := by omega
  have hb9 : (n : Int) + 1 ≤ (cap : Int) := by omega
  have hb10 : i ≤ cap := by omega
  have hb11 : i + 1 ≤ n + 1 := by omega
  have hb12 : n + 1 ≤ cap := by omega
  clear hh1 hl1 hh2 hc1 hc2 h hh hcs ht hdl hL2 hi0 hz0 hzs hzb hcell hel hsrc
  go_enter Try.func23, Try.ntmps23
  go_wp2
  refine wp_region_held_drew (S := fun _ => True) (by kernel_rfl) trivial (fun hHeld => ?_)
  refine tkGo [0, 1, 2, 3, 4, 5] ?_
  repeat (refine tkOne (v := ?_) rfl (by kernel_rfl) (by kernel_rfl) (by kernel_rfl) (fun _ _ _ h => h) (by assumption) (by rfl) ?_ ?_; rotate_left; (intro wy hSw; (try dsimp only at hSw); go_simp; (first | done | with_reducible rfl)); try simp only [Act.put, List.getElem_toArray, List.getElem_cons_zero, List.getElem_cons_succ, List.setIfInBounds_toArray, List.set_cons_zero, List.set_cons_succ])
  refine tkEnd ?_
  refine wpAnyH_ready (rs := [6]) (by kernel_rfl) (by simp) ?_
  refine AllReadyH.cons rfl (fun KK hK => ?_) AllReadyH.nil
  rw [if_pos (by rfl)]
  refine wp_appG _ (.tmp 22) (.tmp 25) 50 50 rfl _ _ rfl (by rw [← hA]; rfl) hr1 ?_
  refine hK.out _ _ trivial (fun hHeld => ?_)
  clear hK KK
  try simp only [Act.put, List.getElem_toArray, List.getElem_cons_zero, List.getElem_cons_succ, List.setIfInBounds_toArray, List.set_cons_zero, List.set_cons_succ]
  refine tkGo [7] ?_
  repeat (refine tkOne (v := ?_) rfl (by kernel_rfl) (by kernel_rfl) (by kernel_rfl) (fun _ _ _ h => h) (by assumption) (by rfl) ?_ ?_; rotate_left; (intro wy hSw; (try dsimp only at hSw); go_simp; (first | done | with_reducible rfl)); try simp only [Act.put, List.getElem_toArray, List.getElem_cons_zero, List.getElem_cons_succ, List.setIfInBounds_toArray, List.set_cons_zero, List.set_cons_succ])
  refine tkEnd ?_
  refine wpAnyH_done (by kernel_rfl) ?_ _
  go_wp2
  go_ret
  exact ⟨_, rfl, HV.out, HC.out, rfl⟩
end Go.Proofs.Ythcdfknadcdfkaa
