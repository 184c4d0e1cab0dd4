/-
  What the document's Loops answers. No condition.
-/
import Derived.Test.YtfmibjgihicedaaF7RRest
namespace Go.Proofs.Ytfmibjgihicedaa
open Go.RowKit Go.Deep
set_option linter.unusedVariables false
set_option maxRecDepth 20000

/-- Appending to a row of the call's own, as one step of a region that draws its order. -/
theorem step_append_own {P : Program} (w : World) {ops : Array Oper} {o : Oper} {a : Act} {K : Act → World → Prop} {Q : Exit → Act → World → Prop} {E : Prop} (hgd : o.guard = none) (s x : Operand) (t : TypeId)
    (ho : o.op = .call { callee := .builtin .append, args := #[s, x], argTypes := #[t, t] })
    (base : Nat) (e : TypeId) (i : TypeInfo) (z : Value) (size bytes : Nat) (ht : P.underlying t = some (.slice e)) (hi : P.info? e = some i) (hz : i.zero = some z)
    (hsize : i.size = size) (hby : i.bytes = bytes) (hzs : z.cells.size = size) (hsz : 0 < size)
    (v : Value) (n : Nat) (xs : List Value) (hs : a.eval s = v) (hown : w.ownsRow base e size v n xs)
    (ad : Addr) (m c : Nat) (news : List Value) (hx : a.eval x = .slice (some ad) m c) (hl : news.length = m * size) (hnews : ∀ j u, news[j]? = some u → w.cell? (ad.add j) = some u) (h1 : ∀ u ∈ news, u.oneCell' = true)
    (h63 : n + m ≤ maxLen) (hbytes : (n + m) * bytes ≤ 140737488355328) (hbase : base ≤ w.heap.size)
    (h : ∀ v' w', w'.ownsRow base e size v' (n + m) (xs ++ news) → w.grownBy w' v.ownBlock → K (a.put o.dst v') w') : if Region.wanted o (yielded ops a.tmps) = true then Oper.wp P o a w K Q else E := by
  have hw : Region.wanted o (yielded ops a.tmps) = true := by simp [Region.wanted, hgd]
  rw [if_pos hw]
  exact wp_append_own w s x t ho base e i z size bytes ht hi hz hsize hby hzs hsz v n xs hs hown ad m c news hx hl hnews h1 h63 hbytes hbase fun v' w' a b _ => h v' w' a b
theorem grown_undrew {w w1 : World} {r : Option Nat} (h : w.drew.grownBy w1 r) : w.grownBy w1 r := ⟨h.os, h.tape, h.output, h.size, h.block⟩
theorem below_dr {B : Nat} {w Z : World} (h : Below B w Z) : Below B w Z.drew := ⟨h.os, h.tape, h.output, h.size, h.block⟩
set_option maxHeartbeats 3200000 in
theorem rloops_any (v : Value) (xs : List In) (w : World) (hs : SeesI w v xs) {E : Int} (hE : Hid (E = errL xs)) : Calls Try.prog 18 #[v] w fun e w' => ∃ u, e = .returned (.tuple #[u, .int .i64 E]) ∧ w'.ownsRow w.heap.size 47 3 u (loopsA xs).length (flatL (loopsA xs)) ∧ Below w.heap.size w w' := by
  obtain ⟨i0, hi, hz0, hz1, hz2⟩ := info_parts Try.infoLoop
  have HS : Hid (SeesI w v xs) := hs
  obtain ⟨P, HP⟩ : ∃ P, Hid (P = (checkL xs).1) := ⟨_, rfl⟩
  by_cases hE0 : E = 0
  · subst hE0
    have HT : Hid (Taken xs) := check_ok.1 (show errL xs = 0 from hE.out.symm)
    have HX : Hid (loopsA xs = loopsL xs) := by show _ = _; unfold loopsA; rw [if_pos hE.out.symm]
    rw [HX.out]
    have htop := HT.out.top
    have hpos := HT.out.pos
    obtain ⟨a, cap, rfl, hc, hm, hn0, hcell⟩ := hs
    obtain ⟨b, off, rfl, hb, hat⟩ := hcell (fun h => by rw [h] at hpos; simp at hpos)
    have HA : Hid (∀ w1, Below w.heap.size w w1 → ∀ k, k < xs.length → At w1 b (off + k * 5) (xs.getD k In.nil)) := fun w1 h1 k hk => (hat k hk).below h1 hb
    clear hat hcell
    go_enter Try.func18, Try.ntmps18
    go_wp2_with (go_at_call 11; go_must (refine (rcheck_as HS.out HP hE).mono ?_); rintro e w1 ⟨rfl, hb1⟩)
    have hsz1 := hb1.size
    go_loopw [7, 6] (fun i u wr => ∃ (k : Nat) (ys : List Lp), k ≤ xs.length ∧ i = .int .i64 k ∧ Hid (ys = loopsU xs k) ∧ ys.length ≤ k ∧ wr.ownsRow w1.heap.size 47 3 u ys.length (flatL ys) ∧ Below w1.heap.size w1 wr) (fun i _ _ => xs.length - (intOf i).toNat)
    case atStart => exact ⟨0, [], by omega, rfl, rfl, by simp, World.ownsRow_nil _ _ _ _, Below.refl _ _⟩
    case round =>
      obtain ⟨k, ys, hk, rfl, HY, hyl, hown, hbe⟩ := hrel
      have hsz := hbe.size
      have hbw : Below w.heap.size w wr := hb1.trans (hbe.mono hsz1)
      by_cases hlt : k < xs.length
      · obtain ⟨⟨op, d, a, bb, imm⟩, HI⟩ : ∃ i, Hid (nth xs k = i) := ⟨_, rfl⟩
        have HI2 : xs.getD k In.nil = ⟨op, d, a, bb, imm⟩ := HI.out
        have HC : Hid (∀ wx, Below w.heap.size w wx → wx.cell? ⟨b, off + k * 5 + 1, none⟩ = some (.int .i64 d) ∧ wx.cell? ⟨b, off + k * 5 + 4, none⟩ = some (.int .i64 imm) ∧ Hid (Below w.heap.size w wx)) := fun wx hx => by
          have h := HA.out wx hx k hlt
          rw [HI2] at h
          exact ⟨h.2.1, h.2.2.2.2, hx⟩
        have c0 : wr.cell? ⟨b, off + k * 5, none⟩ = some (.int .i64 op) := by
          have h := HA.out wr hbw k hlt
          rw [HI2] at h
          exact h.1
        clear HI2
        have hbr : b < wr.heap.size := by omega
        by_cases h20 : op = 20
        · subst h20
          have H20 : Hid ((nth xs k).op = 20) := by show _ = _; rw [HI.out]
          have hd := loop_d HT.out.place hlt H20.out
          rw [HI.out] at hd
          simp only at hd
          have HL : Hid (loopsU xs (k + 1) = ys ++ [⟨(k : Int) - d, k, imm⟩]) := by
            show _ = _
            obtain ⟨k', _, _, e, _⟩ := loop_ok HT.out.place (l := lpAt xs k) (loopsU_mem.2 ⟨k, hlt, H20.out, rfl⟩)
            have ek : k' = k := by have := congrArg Lp.t e; simp [lpAt] at this; omega
            rw [ek, HI.out] at e
            rw [loopsU, HY.out]
            unfold lps
            rw [if_pos H20.out, e]
          have hS := HC.out wr.drew (below_dr hbw)
          have hwrap : IntKind.i64.wrap ((k : Int) - d) = (k : Int) - d := by rw [IntKind.wrap_i64]; omega
          go_wp2
          go_region_held_law (fun w' => w'.cell? ⟨b, off + k * 5 + 1, none⟩ = some (.int .i64 d) ∧ w'.cell? ⟨b, off + k * 5 + 4, none⟩ = some (.int .i64 imm) ∧ Hid (Below w.heap.size w w'))
            (first | assumption | exact HC.out _ (hS.2.2.out.alloc hS.2.2.out.size _) | fail)
            ((first | (refine step_append_own _ ?g1 (.tmp 28) (.tmp 43) 41 ?g2 w1.heap.size 47 i0 (.agg #[.int .i64 0, .int .i64 0, .int .i64 0]) 3 24 Try.underlying41 hi hz0 hz1 hz2 ?g3 ?g4 u6 ys.length (flatL ys) ?g5 ?g6 ⟨wr.heap.size, 0, none⟩ 1 1 (lpC ⟨(k : Int) - d, k, imm⟩) ?g7 ?g8 ?g9 (three_one _ _ _) ?g10 ?g11 ?g12 ?g13; (case g1 => rfl); (case g2 => rfl); (case g3 => rfl); (case g4 => decide); (case g6 => exact (hown.alloc _).drew); (case g5 => simp [Act.eval]); (case g7 => simp [Act.eval]); (case g8 => rfl); (case g9 => exact three_new wr _ _ _ _ _ rfl); (case g10 => unfold maxLen; omega); (case g11 => omega); (case g12 => simp; omega); intro v2 w2 hown2 hg2; have R := step_loop (l := ⟨(k : Int) - d, k, imm⟩) hown hbe (Nat.le_refl _) hown2 (grown_undrew hg2); replace hS := HC.out w2 (hb1.trans (R.2.mono hsz1)); clear hown2 hg2)))
          all_goals
            go_wp2
            go_roundw
            case rel => exact ⟨k + 1, ys ++ [⟨(k : Int) - d, k, imm⟩], by omega, by go_num, by show _ = _; exact HL.out.symm, by simp; omega, R.1, R.2⟩
            case measure => simp [intOf]; omega
        · have h20b : (op == 20) = false := by simpa using h20
          have HL : Hid (loopsU xs (k + 1) = ys) := by
            show _ = _
            rw [loopsU, HY.out]
            unfold lps
            rw [if_neg (by rw [HI.out]; exact h20), List.append_nil]
          go_wp2
          go_roundw
          case rel => exact ⟨k + 1, ys, by omega, by go_num, HL.out.symm, by omega, hown, hbe⟩
          case measure => simp [intOf]; omega
      · obtain rfl : k = xs.length := by omega
        go_wp2
        go_ret2
        refine ⟨_, rfl, ?_, hbw⟩
        rw [show loopsL xs = ys from HY.out.symm]
        exact own_base hown hsz1
  · have hb : (E != 0) = true := by simpa using hE0
    have HX : Hid (loopsA xs = []) := by show _ = _; unfold loopsA; rw [if_neg (by rw [← hE.out]; exact hE0)]
    rw [HX.out]
    obtain ⟨a, cap, rfl⟩ := hs.shape
    clear hs
    go_enter Try.func18, Try.ntmps18
    go_wp2_with (go_at_call 11; go_must (refine (rcheck_as HS.out HP hE).mono ?_); rintro e w1 ⟨rfl, hb1⟩)
    go_ret2
    exact ⟨_, rfl, World.ownsRow_nil _ _ _ _, hb1⟩
end Go.Proofs.Ytfmibjgihicedaa
