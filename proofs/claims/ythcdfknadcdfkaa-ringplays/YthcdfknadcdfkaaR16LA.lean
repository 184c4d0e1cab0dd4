
/-
  The landed ring of layer 16: Numbers, New, Waiting, Shut. Condition: it lies where the pointer says, its row is the call's own.
-/
import Derived.Test.YthcdfknadcdfkaaR16Del
import Derived.Test.YthcdfknadcdfkaaR16Facts
import Derived.Test.YthcdfknadcdfkaaGObj
namespace Go.Proofs.Ythcdfknadcdfkaa
open Go.RowKit
set_option linter.unusedVariables false
set_option linter.unusedSimpArgs false
set_option maxRecDepth 100000

/-- The landed ring, at a block. -/
structure Lk (w : World) (B b nb : Nat) (v : Value) (rm : Nat) (W : List Qe) (cl : Bool) (rf tk dr : Nat) : Prop where
  hp : Hp w b 62 [.int .i64 rm, .pointer (some ⟨nb, 0, none⟩), v, .bool cl, .int .i64 rf, .int .i64 tk, .int .i64 dr]
  row : w.ownsRow B 46 3 v W.length (flatG qeC W)
/-- Numbers, at a block. -/
def Nm (w : World) (nb : Nat) (last : Int) : Prop := Hp w nb 26 [.int .i64 last]
section
variable {w w' : World} {B b nb : Nat} {v : Value} {rm : Nat} {W : List Qe} {cl : Bool} {rf tk dr : Nat} {last : Int}
theorem Lk.below (h : Lk w B b nb v rm W cl rf tk dr) (hb : Below w.heap.size w w') : Lk w' B b nb v rm W cl rf tk dr := ⟨h.hp.below hb h.hp.lt, own_below h.row hb (Nat.le_refl _)⟩
theorem Lk.chg {S : Nat → Prop} (h : Lk w B b nb v rm W cl rf tk dr) (hc : Chg w w' S) (h1 : ¬ S b) (h2 : ∀ k, v.ownBlock = some k → ¬ S k) : Lk w' B b nb v rm W cl rf tk dr := ⟨h.hp.chg hc h1, own_chg h.row hc h2⟩
theorem Lk.drewN (h : Lk w B b nb v rm W cl rf tk dr) (n : Nat) : Lk (w.drewN n) B b nb v rm W cl rf tk dr := ⟨h.hp, h.row⟩
theorem Lk.apart (h : Lk w B b nb v rm W cl rf tk dr) : v.ownBlock ≠ some b := own_type10 h.row h.hp (by decide)
theorem Lk.apartN (h : Lk w B b nb v rm W cl rf tk dr) (hn : Nm w nb last) : v.ownBlock ≠ some nb ∧ b ≠ nb := ⟨own_type10 h.row hn (by decide), hp_type h.hp hn (by decide)⟩
theorem Lk.low (h : Lk w B b nb v rm W cl rf tk dr) : w.cell? ⟨b, 0, none⟩ = some (.int .i64 rm) ∧ w.cell? ⟨b, 1, none⟩ = some (.pointer (some ⟨nb, 0, none⟩)) ∧ w.cell? ⟨b, 2, none⟩ = some v ∧ w.cell? ⟨b, 3, none⟩ = some (.bool cl) ∧ w.cell? ⟨b, 4, none⟩ = some (.int .i64 rf) ∧ w.cell? ⟨b, 5, none⟩ = some (.int .i64 tk) ∧ w.cell? ⟨b, 6, none⟩ = some (.int .i64 dr) := ⟨h.hp.cell rfl, h.hp.cell rfl, h.hp.cell rfl, h.hp.cell rfl, h.hp.cell rfl, h.hp.cell rfl, h.hp.cell rfl⟩
/-- A store into the ring's own block; the row stays. -/
theorem Lk.set (h : Lk w B b nb v rm W cl rf tk dr) (i : Nat) (u : Value) {rm' : Nat} {cl' : Bool} {rf' tk' dr' : Nat} (hc : [Value.int .i64 rm, .pointer (some ⟨nb, 0, none⟩), v, .bool cl, .int .i64 rf, .int .i64 tk, .int .i64 dr].set i u = [Value.int .i64 rm', .pointer (some ⟨nb, 0, none⟩), v, .bool cl', .int .i64 rf', .int .i64 tk', .int .i64 dr']) : Lk (w.setCell ⟨b, i, none⟩ u) B b nb v rm' W cl' rf' tk' dr' := by
  refine ⟨?_, own_chg h.row (Chg.set w b i u) (fun k hk e => h.apart (by rw [hk, e]))⟩
  have := h.hp.set i u
  rw [hc] at this
  exact this
theorem lnext (hn : Nm w nb last) (h0 : 0 ≤ last) (hl : last ≤ 1000000000000000000) : Calls Try.prog 22 #[.pointer (some ⟨nb, 0, none⟩)] w fun e w' => e = .returned (.int .i64 (last + 1)) ∧ w' = w.setCell ⟨nb, 0, none⟩ (.int .i64 (last + 1)) := by
  have c0 := Hp.cell (j := 0) hn rfl
  have f0 := Hp.frozen hn 0
  have hw1 : IntKind.i64.wrap (last + 1) = last + 1 := by rw [IntKind.wrap_i64]; omega
  go_enter Try.func22, Try.ntmps22
  go_wp2
  go_ret
  exact ⟨rfl, rfl⟩
theorem Nm.next (hn : Nm w nb last) : Nm (w.setCell ⟨nb, 0, none⟩ (.int .i64 (last + 1))) nb (last + 1) := Hp.set hn 0 _
theorem lrnew_ok (n : Nat) (h1 : 1 ≤ n) (h2 : n ≤ 16) (w : World) : Calls Try.prog 8 #[.int .i64 n, .pointer (some ⟨nb, 0, none⟩)] w fun e w' => e = .returned (.tuple #[.pointer (some ⟨w.heap.size, 0, none⟩), .int .i64 0]) ∧ Lk w' w.heap.size w.heap.size nb (.slice none 0 0) n [] false 0 0 0 ∧ Below w.heap.size w w' ∧ w'.heap.size = w.heap.size + 1 := by
  have h1I : ¬ (n : Int) < 1 := by omega
  have h2I : ¬ (16 : Int) < n := by omega
  go_enter Try.func8, Try.ntmps8
  go_wp2
  go_ret2
  exact ⟨rfl, ⟨Hp.new w _ _, World.ownsRow_nil _ _ _ _⟩, by go_grown, by simp⟩
theorem lrnew_no (n : Int) (h : n < 1 ∨ 16 < n) (u : Value) (w : World) : Calls Try.prog 8 #[.int .i64 n, u] w fun e w' => e = .returned (.tuple #[.pointer none, .int .i64 2]) ∧ w = w' := by
  rcases h with h | h
  · go_enter Try.func8, Try.ntmps8
    go_wp2
    go_ret2
    exact ⟨rfl, rfl⟩
  · have h1 : ¬ n < 1 := by omega
    go_enter Try.func8, Try.ntmps8
    go_wp2
    go_ret2
    exact ⟨rfl, rfl⟩
theorem lrnew_nil (w : World) : Calls Try.prog 8 #[.int .i64 1, .pointer none] w fun e w' => e = .returned (.tuple #[.pointer none, .int .i64 2]) ∧ w = w' := by
  go_enter Try.func8, Try.ntmps8
  go_wp2
  go_ret2
  exact ⟨rfl, rfl⟩
theorem lwait (h : Lk w B b nb v rm W cl rf tk dr) (hl : W.length ≤ 16) : Calls Try.prog 17 #[.pointer (some ⟨b, 0, none⟩)] w fun e w' => ∃ u, e = .returned u ∧ w'.ownsRow w.heap.size 46 3 u W.length (flatG qeC W) ∧ Below w.heap.size w w' := by
  obtain ⟨i0, hi0, hz0, hzs, hzb⟩ := info_parts infoQe
  obtain ⟨c0, c1, c2, c3, c4, c5, c6⟩ := h.low
  have hsee := own_seesG qeC_len Qe.nil h.row
  obtain ⟨v', w', hr, ho, hg, hn⟩ := run_append_seesG (P := Try.prog) w w.heap.size 50 50 46 i0 _ 3 24 Try.underlying50 hi0 hz0 hzs hzb rfl (by decide) (.slice none 0 0) 0 [] (World.ownsRow_nil _ _ _ _) qeC_len hsee (qflat_one W) (by unfold maxLen; omega) (by omega) (Nat.le_refl _)
  obtain ⟨a, cap, rfl, _, _⟩ := hsee.shape
  have HO := keepG ho
  have HG := keepG hg
  clear h hsee ho hg hn
  go_enter Try.func17, Try.ntmps17
  go_wp2_with (at_builtin; go_must (refine wpList_appG _ rfl _ (.tmp 6) 50 50 rfl _ _ rfl rfl hr ?_))
  go_ret
  refine ⟨_, rfl, ?_, ⟨HG.out.os, HG.out.tape, HG.out.output, HG.out.size, fun k hk => HG.out.block k hk (fun e => by cases e)⟩⟩
  have := HO.out
  rw [Nat.zero_add, List.nil_append] at this
  exact this
theorem lshut (h : Lk w B b nb v rm W cl rf tk dr) (hl : W.length ≤ 16) (hd : dr ≤ 1000000000000000000) (hB : B ≤ w.heap.size) : Calls Try.prog 15 #[.pointer (some ⟨b, 0, none⟩)] w fun e w' => ∃ u, e = .returned u ∧ w'.ownsRow w.heap.size 46 3 u W.length (flatG qeC W) ∧ Lk w' B b nb (.slice none 0 0) rm [] true rf tk (dr + W.length) ∧ Chg w w' (fun k => k = b) := by
  have HL := keepG h
  have hlt := h.hp.lt
  have hwr : IntKind.i64.wrap ((dr : Int) + W.length) = (dr : Int) + W.length := by rw [IntKind.wrap_i64]; omega
  have hd2 : ((dr + W.length : Nat) : Int) = (dr : Int) + W.length := by omega
  clear h
  go_enter Try.func15, Try.ntmps15
  go_wp2_with (go_at_call 17; go_must (refine (lwait HL.out hl).mono ?_); rintro e w1 ⟨u, rfl, hu, hb1⟩; go_must (have HU := keepG hu; have HL1 := keepG (HL.out.below hb1); obtain ⟨ua, uc, rfl⟩ := own_shape hu; obtain ⟨c0, c1, c2, c3, c4, c5, c6⟩ := HL1.out.low; have f2 := HL1.out.hp.frozen 2; have f3 := HL1.out.hp.frozen 3; have f6 := HL1.out.hp.frozen 6; clear hu))
  go_ret
  have hp1 : Hp (((w1.setCell ⟨b, 2, none⟩ (.slice none 0 0)).setCell ⟨b, 6, none⟩ (.int .i64 ((dr : Int) + W.length))).setCell ⟨b, 3, none⟩ (.bool true)) b 62 [.int .i64 rm, .pointer (some ⟨nb, 0, none⟩), .slice none 0 0, .bool true, .int .i64 rf, .int .i64 tk, .int .i64 ((dr : Int) + W.length)] := ((HL1.out.hp.set 2 _).set 6 _).set 3 _
  have hch : Chg w1 (((w1.setCell ⟨b, 2, none⟩ (.slice none 0 0)).setCell ⟨b, 6, none⟩ (.int .i64 ((dr : Int) + W.length))).setCell ⟨b, 3, none⟩ (.bool true)) (fun k => k = b) := ((Chg.set w1 b 2 _).trans (Chg.set _ b 6 _) (fun _ _ e => e)).trans (Chg.set _ b 3 _) (fun _ _ e => e)
  refine ⟨_, rfl, own_chg HU.out hch (fun k hk e => ?_), ⟨by rw [hd2]; exact hp1, World.ownsRow_nil _ _ _ _⟩, (Chg.of_below hb1).trans hch (fun _ _ e => e)⟩
  have := (HU.out.lt k hk).1
  omega
end
end Go.Proofs.Ythcdfknadcdfkaa
