
/-
  StatsPlays: what stands ahead of its walk: two Stats made, merged; rows of tallies. No condition.
-/
import Derived.Test.YtjhjfojmojjomaaW20P
import Derived.Test.YtjhjfojmojjomaaW20M
namespace Go.Proofs.Ytjhjfojmojjomaa
open Go.RowKit
set_option linter.unusedVariables false
set_option linter.unusedSimpArgs false
set_option maxRecDepth 100000
theorem Ps.new {w0 w : World} {p : Nat → Nat} {Fa Fb : Ft} (ha : Lz w0 w (p 0) Fa []) (hb : Lz w0 w (p 1) Fb []) (hab : Apt Fa Fb) {Y Z : World} (hY : w.alloc (.cells #[.pointer (some ⟨p 0, 0, none⟩), .pointer (some ⟨p 1, 0, none⟩)] 24) = Y) (hZ : Y.alloc (.cells #[.slice none 0 0, .slice none 0 0] 32) = Z) :
    Ps w0 Z w.heap.size Y.heap.size p (fun k => if k = 0 then Fa else Fb) (fun _ => .slice none 0 0) (fun _ => []) (fun _ => []) := by
  have hb1 : Below w.heap.size w Y := by rw [← hY]; exact below_allocG _ _
  have hb2 : Below Y.heap.size Y Z := by rw [← hZ]; exact below_allocG _ _
  have h1 : Hp Y w.heap.size 24 [.pointer (some ⟨p 0, 0, none⟩), .pointer (some ⟨p 1, 0, none⟩)] := by rw [← hY]; exact Hp.new w _ _
  have h2 : Hp Z Y.heap.size 32 [.slice none 0 0, .slice none 0 0] := by rw [← hZ]; exact Hp.new Y _ _
  have hlt := h1.lt
  have hsz := ha.be.size
  have hla := ha.lies
  have hlb := hb.lies
  refine ⟨fun k hk => ?_, fun k hk => World.ownsRow_nil _ _ _ _, h1.below hb2 h1.lt, h2, fun j k hj hk hne => ?_, fun j k hj hk hne x e => (by cases e), fun j k hj hk x e1 e2 => (by cases e2), fun k hk => ?_, fun k hk => ⟨fun e => (by cases e), fun e => (by cases e)⟩, by omega, by omega, by omega⟩
  · have h5 : k = 0 ∨ k = 1 := by omega
    rcases h5 with rfl | rfl
    · exact (ha.below hb1).below hb2
    · exact (hb.below hb1).below hb2
  · have h5 : (j = 0 ∧ k = 1) ∨ (j = 1 ∧ k = 0) := by omega
    rcases h5 with ⟨rfl, rfl⟩ | ⟨rfl, rfl⟩
    · exact hab
    · exact hab.symm
  · have h5 : k = 0 ∨ k = 1 := by omega
    rcases h5 with rfl | rfl
    · exact ⟨fun e => by have := hla _ e; omega, fun e => by have := hla _ e; omega⟩
    · exact ⟨fun e => by have := hlb _ e; omega, fun e => by have := hlb _ e; omega⟩
theorem infoTos : (Try.prog.info? 32).map (fun i => (i.zero, i.size, i.bytes)) = some (some (.slice none 0 0), 1, 24) := by kernel_rfl
theorem run_makeTo (w : World) : (Instr.makeSlice 27 (.int .i64 2) (.int .i64 2)).run Try.prog w = .ok (.slice (some ⟨w.heap.size, 0, none⟩) 2 2) (w.alloc (.cells #[.slice none 0 0, .slice none 0 0] 32)) := by
  obtain ⟨i, h1, h2, h3, h4⟩ := info_parts infoTos
  have := run_make (P := Try.prog) w 27 32 i _ Try.underlying27 h1 h2 .i64 .i64 2 2 (by omega) (Int.le_refl _) (by rw [h4]; omega) (by omega)
  have e : madeCells (Value.slice none 0 0).cells (Int.toNat 2 * 1) = #[.slice none 0 0, .slice none 0 0] := by kernel_rfl
  rw [h3, e] at this
  exact this
/-- What a call adds is no longer than what it was handed. -/
theorem toldO_len (o : Ow) : (toldO o).length ≤ o.ws.length + 1 := by
  unfold toldO
  split
  · split <;> simp
  · split <;> simp
theorem len_step {a b j n : Nat} (h5 : a ≤ j * 1048577) (h6 : b ≤ n + 1) (h7 : n ≤ 1048576) : a + b ≤ (j + 1) * 1048577 := by omega
theorem four_take (l : List To) {k : Nat} (hk : k < 4) : (four l).take (k + 1) = (four l).take k ++ [ofL k l] := by
  have h5 : k = 0 ∨ k = 1 ∨ k = 2 ∨ k = 3 := by omega
  rcases h5 with rfl | rfl | rfl | rfl <;> rfl
theorem four_all (l : List To) {k : Nat} (hk : 4 ≤ k) : (four l).take k = four l := List.take_of_length_le (by rw [four_len]; exact hk)
theorem to_flat (l : List To) : ∀ u ∈ flatG toC l, u.oneCell' = true := by
  intro u hu
  obtain ⟨x, _, h2⟩ := List.mem_flatMap.1 hu
  exact to_one x u h2
theorem ta_one (t : Ta) : ∀ u ∈ taC t, u.oneCell' = true := by
  intro u hu
  simp only [taC, List.mem_cons, List.not_mem_nil, or_false] at hu
  rcases hu with rfl | rfl | rfl | rfl | rfl <;> rfl
section
variable {w0 w w' : World} {sb lb : Nat} {p : Nat → Nat} {F : Nat → Ft} {V : Nat → Value} {L D : Nat → List To}
theorem Ps.unlike (h : Ps w0 w sb lb p F V L D) : p 0 ≠ p 1 := by
  intro e
  obtain ⟨_, _, h0⟩ := (h.obj 0 (by decide)).ex
  obtain ⟨_, _, h1⟩ := (h.obj 1 (by decide)).ex
  have g0 := h0.here
  have g1 := h1.here
  rw [← e] at g1
  exact h.aF 0 1 (by decide) (by decide) (by decide) _ g0 g1
/-- Merge of the first, none, the second, the first. -/
theorem Ps.merge (h : Ps w0 w sb lb p F V L D) {A : List Ta} (HA : Hid (four (L 0 ++ L 1 ++ L 0) = A)) : Calls Try.prog 14 #[.slice (some ⟨w.heap.size, 0, none⟩) 4 4] (w.alloc (.cells #[.pointer (some ⟨p 0, 0, none⟩), .pointer none, .pointer (some ⟨p 1, 0, none⟩), .pointer (some ⟨p 0, 0, none⟩)] 24)) fun e w' => ∃ u, e = .returned u ∧ RoTa w' w.heap.size u A ∧ Below w.heap.size w w' := by
  have hb := below_allocG w (.cells #[.pointer (some ⟨p 0, 0, none⟩), .pointer none, .pointer (some ⟨p 1, 0, none⟩), .pointer (some ⟨p 0, 0, none⟩)] 24)
  have h2 := h.below hb
  have hne := h.unlike
  refine (lmerge (ls := fun b => if b = p 0 then L 0 else L 1) (lit_pt w [some (p 0), none, some (p 1), some (p 0)] (by simp) (by simp)) (by simp) (fun b hb' => ?_) (A := A) ?_).mono ?_
  · have h5 : b = p 0 ∨ b = p 1 := by simp at hb'; omega
    rcases h5 with rfl | rfl
    · obtain ⟨B, _, g⟩ := (h2.obj 0 (by decide)).ex
      exact ⟨B, _, by rw [if_pos rfl]; exact g⟩
    · obtain ⟨B, _, g⟩ := (h2.obj 1 (by decide)).ex
      exact ⟨B, _, by rw [if_neg (fun e => hne e.symm)]; exact g⟩
  · show _ = _
    rw [← HA.out]
    simp only [toldAll, List.flatMap_cons, List.flatMap_nil, List.append_nil, List.nil_append, if_true]
    rw [if_neg (fun e => hne e.symm), List.append_assoc]
  · rintro e w' ⟨u, rfl, g1, g2⟩
    exact ⟨u, rfl, own_lowG g1 hb.size, hb.trans (g2.mono hb.size)⟩
end
theorem merge_none (w : World) : Calls Try.prog 14 #[.slice none 0 0] w fun e w' => ∃ u, e = .returned u ∧ RoTa w' w.heap.size u zeroF ∧ Below w.heap.size w w' :=
  lmerge (ls := fun _ => []) (SeesG.nil none w) (by simp) (fun b hb => by simp at hb) (A := zeroF) (by show _ = _; rfl)
theorem make_own (w : World) : RoTa (w.alloc (.cells (flatG taC zeroF).toArray 40)) w.heap.size (.slice (some ⟨w.heap.size, 0, none⟩) 4 4) zeroF :=
  own_of (cs := flatG taC zeroF) (Nat.le_refl _) (heap_alloc_new w _) (Nat.le_refl _) (by simp [maxLen]) rfl rfl
/-- A row of what was told, behind another. -/
theorem told_more {w : World} {B : Nat} {v v2 : Value} {l m : List To} (hv : RoTo w B v l) (hs : SeesG toC 5 To.nil w v2 m) (hB : B ≤ w.heap.size) (hl : l.length + m.length ≤ 3000000000) : ∃ a c w', (Builtin.append_ #[32, 32] 32 #[v, v2]).run Try.prog w = .ok (.slice a (l ++ m).length c) w' ∧ RoTo w' B (.slice a (l ++ m).length c) (l ++ m) ∧ Below B w w' := by
  obtain ⟨i0, hi0, hz0, hzs, hzb⟩ := info_parts infoTo
  obtain ⟨v', w', r1, r2, r3, _⟩ := run_append_seesG (f := toC) (d := To.nil) (P := Try.prog) w B 32 32 56 i0 _ 5 40 Try.underlying32 hi0 hz0 hzs hzb rfl (by decide) v l.length (flatG toC l) hv toC_len hs (to_flat m) (by unfold maxLen; omega) (by omega) hB
  have r2' : RoTo w' B v' (l ++ m) := by
    unfold RoTo
    rw [List.length_append, flatG_app]
    exact r2
  obtain ⟨a, c, e⟩ := own_shape r2'
  subst e
  exact ⟨a, c, w', r1, r2', (Chg.of_grown' r3 (S := fun k => v.ownBlock = some k) (fun b hb => hb)).below (fun k e => (hv.lt k e).1) hB⟩
end Go.Proofs.Ytjhjfojmojjomaa
