
/-
  The landed owner of layer 22: its shape; has, takes, Waiting, End, Ended, Pairs. Condition: it lies where the pointer says.
-/
import Derived.Test.YtpbfgebecgikjaaO22Kit
import Derived.Test.YtpbfgebecgikjaaO22New
import Derived.Test.YtpbfgebecgikjaaC15LN
import Derived.Test.YtpbfgebecgikjaaGWin
import Derived.Test.YtpbfgebecgikjaaP12Of
namespace Go.Proofs.Ytpbfgebecgikjaa
open Go.RowKit
set_option linter.unusedVariables false
set_option linter.unusedSimpArgs false
set_option maxRecDepth 100000
abbrev dfC (e : Int × Int) : List Value := [.int .i64 e.1, .int .i64 e.2]
def On.dl (o : On) (i : Nat) : Df := o.ds.getD i (false, 0)
def On.sl (o : On) (i : Nat) : Sr := o.st.getD i Sr.nil
/-- The landed owner, at a block: its shards, its line. -/
structure Lwo (w : World) (B b : Nat) (rv lv : Value) (vs : List Value) (F : Nat → Ft) (o : On) : Prop where
  hp : Hp w b 83 [.int .i64 o.sh, .int .i64 o.n, rv, lv, .bool o.over]
  row : w.ownsRow B 69 1 rv vs.length (flatG ifC vs)
  ln : Win w B 45 7 lv o.ln.length (flatG rtC o.ln)
  len : vs.length = o.st.length
  fam : Fam (fun w i G => Sh w B (vs.getD i .nilIface) (o.dl i).1 (o.dl i).2 (o.sl i) G) w vs.length F
def footO (b : Nat) (rv lv : Value) (n : Nat) (F : Nat → Ft) : Ft := fun k => (k = b ∨ rv.ownBlock = some k) ∨ lv.ownBlock = some k ∨ unF n F k
theorem win_two {w : World} {B B' : Nat} {e e' : TypeId} {z z' : Nat} {v v' : Value} {n n' : Nat} {xs xs' : List Value} (h : Win w B e z v n xs) (h' : w.ownsRow B' e' z' v' n' xs') (hne : e ≠ e') : ∀ k, v.ownBlock = some k → v'.ownBlock ≠ some k := by
  intro k h1 h2
  obtain ⟨cs, hq⟩ := h.hp h1
  exact own_type10 h' hq (fun e => hne e.symm) h2
theorem win_type {w : World} {B : Nat} {e e' : TypeId} {z : Nat} {v : Value} {n : Nat} {xs : List Value} (h : Win w B e z v n xs) {b : Nat} {cs : List Value} (hb : Hp w b e' cs) (hne : e ≠ e') : v.ownBlock ≠ some b := fun h1 => by
  obtain ⟨cs', hq⟩ := h.hp h1
  exact hp_type hq hb hne rfl
section
variable {w w' w2 : World} {B b : Nat} {rv lv lv2 : Value} {vs : List Value} {F : Nat → Ft} {o o' : On} {l : List Rt}
theorem Lwo.chg {G : Ft} (h : Lwo w B b rv lv vs F o) (hc : Chg w w' G) (ha : Apt G (footO b rv lv vs.length F)) : Lwo w' B b rv lv vs F o :=
  ⟨h.hp.chg hc (fun e => ha b e (.inl (.inl rfl))), own_chg h.row hc (fun k hk e => ha k e (.inl (.inr hk))), h.ln.chg hc (fun k hk e => ha k e (.inr (.inl hk))), h.len, h.fam.keeps hc (fun j hj g => g.keeps hc (fun k e1 e2 => ha k e1 (.inr (.inr ⟨j, hj, e2⟩))))⟩
theorem Lwo.below (h : Lwo w B b rv lv vs F o) (hb : Below w.heap.size w w') : Lwo w' B b rv lv vs F o := h.chg (Chg.of_below (S := fun _ => False) hb) (fun _ e => e.elim)
theorem Lwo.lies (h : Lwo w B b rv lv vs F o) : Lies w (footO b rv lv vs.length F) := by
  intro k hk
  rcases hk with (e | e) | e | ⟨i, hi, e⟩
  · rw [e]; exact h.hp.lt
  · exact (h.row.lt k e).2
  · exact (h.ln.lt k e).2
  · exact h.fam.li i hi k e
theorem Lwo.low (h : Lwo w B b rv lv vs F o) : w.cell? ⟨b, 0, none⟩ = some (.int .i64 o.sh) ∧ w.cell? ⟨b, 1, none⟩ = some (.int .i64 o.n) ∧ w.cell? ⟨b, 2, none⟩ = some rv ∧ w.cell? ⟨b, 3, none⟩ = some lv ∧ w.cell? ⟨b, 4, none⟩ = some (.bool o.over) :=
  ⟨h.hp.cell (j := 0) rfl, h.hp.cell (j := 1) rfl, h.hp.cell (j := 2) rfl, h.hp.cell (j := 3) rfl, h.hp.cell (j := 4) rfl⟩
theorem Lwo.nb (h : Lwo w B b rv lv vs F o) : ¬ unF vs.length F b := by
  rintro ⟨i, hi, e⟩
  exact (h.fam.ob i hi).other h.hp (by decide) (by decide) (by decide) (by decide) e
theorem Lwo.nrow (h : Lwo w B b rv lv vs F o) : ∀ k, rv.ownBlock = some k → ¬ unF vs.length F k := by
  rintro k hk ⟨i, hi, e⟩
  obtain ⟨cs, hq⟩ := own_hpC h.row hk
  exact (h.fam.ob i hi).other hq (by decide) (by decide) (by decide) (by decide) e
theorem Lwo.nln (h : Lwo w B b rv lv vs F o) : ∀ k, lv.ownBlock = some k → ¬ unF vs.length F k := by
  rintro k hk ⟨i, hi, e⟩
  obtain ⟨cs, hq⟩ := h.ln.hp hk
  exact (h.fam.ob i hi).other hq (by decide) (by decide) (by decide) (by decide) e
theorem Lwo.famO {w : World} (hd : o'.ds = o.ds) (hs : o'.st = o.st) (h : Fam (fun w i G => Sh w B (vs.getD i .nilIface) (o.dl i).1 (o.dl i).2 (o.sl i) G) w vs.length F) : Fam (fun w i G => Sh w B (vs.getD i .nilIface) (o'.dl i).1 (o'.dl i).2 (o'.sl i) G) w vs.length F := by
  have : (fun (w : World) i G => Sh w B (vs.getD i .nilIface) (o'.dl i).1 (o'.dl i).2 (o'.sl i) G) = (fun (w : World) i G => Sh w B (vs.getD i .nilIface) (o.dl i).1 (o.dl i).2 (o.sl i) G) := by
    funext w i G
    unfold On.dl On.sl
    rw [hd, hs]
  rw [this]
  exact h
/-- The line was changed in its own block or made anew, and is put into its place. -/
theorem Lwo.put (h : Lwo w B b rv lv vs F o) (hc : Chg w w2 (fun k => lv.ownBlock = some k)) (hall : Win w2 B 45 7 lv2 l.length (flatG rtC l)) (hnew : lv2.ownBlock = lv.ownBlock ∨ ∃ k, lv2.ownBlock = some k ∧ w.heap.size ≤ k) : Lwo (w2.setCell ⟨b, 3, none⟩ lv2) B b rv lv2 vs F (o.line l) ∧ Nx w (w2.setCell ⟨b, 3, none⟩ lv2) (footO b rv lv vs.length F) (footO b rv lv2 vs.length F) := by
  have n0 : ¬ lv.ownBlock = some b := win_type h.ln h.hp (by decide)
  have hb2 : Hp w2 b 83 [.int .i64 o.sh, .int .i64 o.n, rv, lv, .bool o.over] := h.hp.chg hc n0
  have hm2 : w2.ownsRow B 69 1 rv vs.length (flatG ifC vs) := own_chg h.row hc (fun k hk e => win_two h.ln h.row (by decide) k e hk)
  have hcs := Chg.set w2 b 3 lv2
  have hf2 := h.fam.keeps (P' := fun w i G => Sh w B (vs.getD i .nilIface) (o.dl i).1 (o.dl i).2 (o.sl i) G) hc (fun j hj g => g.keeps hc (fun k e1 e2 => h.nln k e1 ⟨j, hj, e2⟩))
  refine ⟨⟨hb2.set 3 lv2, own_chg hm2 hcs (fun k hk e => ?_), hall.chg hcs (fun k hk e => ?_), h.len, Lwo.famO (o := o) (o' := o.line l) rfl rfl (hf2.keeps hcs (fun j hj g => g.keeps hcs (fun k e1 e2 => by subst e1; exact h.nb ⟨j, hj, e2⟩)))⟩, ?_, ?_⟩
  · subst e; exact own_type10 hm2 hb2 (by decide) hk
  · subst e; exact win_type hall hb2 (by decide) hk
  · exact (hc.mono (T := footO b rv lv vs.length F) (fun k e => .inr (.inl e))).trans hcs (fun k _ e => .inl (.inl e))
  · rintro k (e | e | e)
    · exact .inl (.inl e)
    · rcases hnew with g | ⟨j, g1, g2⟩
      · exact .inl (.inr (.inl (by rw [← g]; exact e)))
      · rw [g1] at e
        exact .inr (by have := Option.some.inj e; omega)
    · exact .inl (.inr (.inr e))
/-- One shard goes a step. -/
theorem Lwo.go (h : Lwo w B b rv lv vs F o) {k : Nat} (hk : k < vs.length) {t' : Sr} {G : Ft} (hs : Sh w' B (vs.getD k .nilIface) (o.dl k).1 (o.dl k).2 t' G) (hn : Nx w w' (F k) G) : Lwo w' B b rv lv vs (upd F k G) ⟨o.sh, o.n, o.ds, o.st.set k t', o.ln, o.over⟩ ∧ Nx w w' (footO b rv lv vs.length F) (footO b rv lv vs.length (upd F k G)) := by
  have n1 : ¬ F k b := fun e => h.nb ⟨k, hk, e⟩
  have n2 : ∀ j, rv.ownBlock = some j → ¬ F k j := fun j hj e => h.nrow j hj ⟨k, hk, e⟩
  have n3 : ∀ j, lv.ownBlock = some j → ¬ F k j := fun j hj e => h.nln j hj ⟨k, hk, e⟩
  have hf := Nx.fam (n := vs.length) hk hn
  have hkt : k < o.st.length := by rw [← h.len]; exact hk
  refine ⟨⟨h.hp.chg hn.chg n1, own_chg h.row hn.chg n2, h.ln.chg hn.chg n3, by simp [h.len], h.fam.step hk hn hs.lies ?_ (fun j hj hne g ha => ?_)⟩, hn.chg.mono (fun j e => .inr (.inr ⟨k, hk, e⟩)), fun j hj => ?_⟩
  · show Sh w' B (vs.getD k .nilIface) (o.dl k).1 (o.dl k).2 ((o.st.set k t').getD k Sr.nil) G
    rw [getD_set_same hkt]
    exact hs
  · show Sh w' B (vs.getD j .nilIface) (o.dl j).1 (o.dl j).2 ((o.st.set k t').getD j Sr.nil) (F j)
    rw [getD_set_other (fun e => hne e.symm)]
    exact g.keeps hn.chg ha
  · rcases hj with e | e | e
    · exact .inl (.inl e)
    · exact .inl (.inr (.inl e))
    · rcases hf.new j e with g | g
      · exact .inl (.inr (.inr g))
      · exact .inr g
theorem lhas (h : Lwo w B b rv lv vs F o) (m : Int) : Calls Try.prog 30 #[.pointer (some ⟨b, 0, none⟩), .int .i64 m] w fun e w' => e = .returned (.bool (o.hasM m)) ∧ w = w' := by
  have c2 := h.low.2.2.1
  obtain ⟨a, cap, ev⟩ := own_shape h.row
  subst ev
  have hln := h.len
  by_cases h0 : m < 0
  · have e1 : o.hasM m = false := by simp [On.hasM]; omega
    have g0 : ¬ 0 ≤ m := by omega
    rw [e1]
    clear h
    go_enter Try.func30, Try.ntmps30
    go_wp2
    go_ret
    first | done | exact ⟨rfl, rfl⟩
  · have g0 : 0 ≤ m := by omega
    have e1 : o.hasM m = decide (m < (vs.length : Int)) := by simp [On.hasM, g0, hln]
    rw [e1]
    clear h hln e1 h0
    go_enter Try.func30, Try.ntmps30
    by_cases h1 : m < (vs.length : Int)
    · have e2 : decide (m < (vs.length : Int)) = true := by simpa using h1
      rw [e2]
      clear e2
      go_wp2
      go_ret
      first | done | exact ⟨rfl, rfl⟩
    · have e2 : decide (m < (vs.length : Int)) = false := by simpa using h1
      rw [e2]
      clear e2
      go_wp2
      go_ret
      first | done | exact ⟨rfl, rfl⟩
theorem lended (h : Lwo w B b rv lv vs F o) : Calls Try.prog 22 #[.pointer (some ⟨b, 0, none⟩)] w fun e w' => e = .returned (.bool o.over) ∧ w = w' := by
  have c4 := h.low.2.2.2.2
  clear h
  go_enter Try.func22, Try.ntmps22
  go_wp2
  go_ret
  first | done | exact ⟨rfl, rfl⟩
theorem lend (h : Lwo w B b rv lv vs F o) {E : Int} (HQ : Hid (o.end = (E, o'))) : Calls Try.prog 16 #[.pointer (some ⟨b, 0, none⟩)] w fun e w' => e = .returned (.int .i64 E) ∧ Lwo w' B b rv lv vs F o' ∧ Chg w w' (fun k => k = b) := by
  obtain ⟨-, -, -, c3, c4⟩ := h.low
  have f4 := h.hp.frozen 4
  obtain ⟨a, cap, ev, hle, hmx⟩ := h.ln.shape
  subst ev
  have HL := keepG h
  have hq := HQ.out
  unfold On.end at hq
  by_cases hl : o.ln = []
  · rw [if_pos hl] at hq
    injection hq with q1 q2
    subst q1 q2
    have hl0 : o.ln.length = 0 := by rw [hl]; rfl
    have hlI : ¬ (0 : Int) < o.ln.length := by omega
    clear h HQ hl hl0
    go_enter Try.func16, Try.ntmps16
    go_wp2
    go_ret
    have hcs := Chg.set w b 4 (.bool true)
    have hh := HL.out
    refine ⟨rfl, ⟨hh.hp.set 4 (.bool true), own_chg hh.row hcs (fun k hk e => ?_), hh.ln.chg hcs (fun k hk e => ?_), hh.len, Lwo.famO (o := o) rfl rfl (hh.fam.keeps hcs (fun j hj g => g.keeps hcs (fun k e1 e2 => by subst e1; exact hh.nb ⟨j, hj, e2⟩)))⟩, hcs⟩
    · subst e; exact own_type10 hh.row hh.hp (by decide) hk
    · subst e; exact win_type hh.ln hh.hp (by decide) hk
  · rw [if_neg hl] at hq
    injection hq with q1 q2
    subst q1 q2
    have hlI : (0 : Int) < o.ln.length := by have := List.length_pos_iff.2 hl; omega
    clear h HQ hl
    go_enter Try.func16, Try.ntmps16
    go_wp2
    go_ret
    exact ⟨rfl, HL.out, Chg.refl _ _⟩
theorem lwaiting (h : Lwo w B b rv lv vs F o) (hz : Hid (o.ln.length * 56 ≤ 140737488355328)) : Calls Try.prog 21 #[.pointer (some ⟨b, 0, none⟩)] w fun e w' => ∃ u, e = .returned u ∧ RoRt w' w.heap.size u o.ln ∧ Below w.heap.size w w' := by
  obtain ⟨-, -, -, c3, -⟩ := h.low
  obtain ⟨i0, hi0, hz0, hzs, hzb⟩ := info_parts infoRt
  have hsee := h.ln.sees rtC_len Rt.nil
  obtain ⟨a, cap, ev, hle, hmx⟩ := h.ln.shape
  obtain ⟨v2, w2, hr2, ho2, hg2, _⟩ := run_append_seesG (f := rtC) (d := Rt.nil) (P := Try.prog) w w.heap.size 34 34 45 i0 _ 7 56 Try.underlying34 hi0 hz0 hzs hzb rfl (by decide) (.slice none 0 0) 0 [] (World.ownsRow_nil _ _ _ _) rtC_len hsee (rt_flat o.ln) (by have := hz.out; unfold maxLen; omega) (by have := hz.out; omega) (Nat.le_refl _)
  rw [Nat.zero_add, List.nil_append] at ho2
  subst ev
  have HR2 := keepG hr2
  have HO2 := keepG ho2
  have HB2 : Hid (Below w.heap.size w w2) := (Chg.of_grown' hg2 (S := fun _ => False) (fun b hb => by cases hb)).below (fun k e => e.elim) (Nat.le_refl _)
  clear h hsee hr2 ho2 hg2
  go_enter Try.func21, Try.ntmps21
  go_wp2_with (at_builtin; go_must (refine wpList_appG _ rfl (.const (.slice none 0 0)) (.tmp 6) 34 34 rfl _ _ rfl rfl HR2.out ?_; obtain ⟨va, vc, ev⟩ := own_shape HO2.out; subst ev))
  go_ret
  exact ⟨_, rfl, HO2.out, HB2.out⟩
/-- Where a shard stands in the row, and what a call of it comes to. -/
theorem Lwo.at (h : Lwo w B b rv lv vs F o) {k : Nat} (hk : k < vs.length) : ∃ g cap, rv = .slice (some ⟨g, 0, none⟩) vs.length cap ∧ g < w.heap.size ∧ w.cell? ⟨g, k, none⟩ = some (vs.getD k .nilIface) := by
  obtain ⟨g, cc, ev, _, hg, _, _, hat⟩ := own_atG ifC_len .nilIface h.row (by omega)
  have d0 := (hat k hk 0 (by omega)).1
  simp only [List.getElem?_cons_zero, Nat.add_zero, Nat.mul_one] at d0
  exact ⟨g, cc, ev, hg, d0⟩
theorem lpairs (h : Lwo w B b rv lv vs F o) (hk : o.Ok) (m : Int) {E : Int} {ps : List Pp} (HQ : Hid ((if o.hasM m = true then (0, (o.sr m).1) else (2, [])) = (E, ps))) : Calls Try.prog 18 #[.pointer (some ⟨b, 0, none⟩), .int .i64 m] w fun e w' => ∃ u, e = .returned (.tuple #[u, .int .i64 E]) ∧ RoPp w' w.heap.size u ps ∧ Below w.heap.size w w' := by
  have hq := HQ.out
  have HH := keepG (lhas h m)
  cases hm : o.hasM m with
  | false =>
    rw [hm] at hq HH
    simp at hq
    obtain ⟨rfl, rfl⟩ := hq
    clear h HQ
    go_enter Try.func18, Try.ntmps18
    go_wp2_with (go_at_call 30; go_must (refine HH.out.mono ?_); rintro e w1 ⟨rfl, rfl⟩)
    go_ret2
    exact ⟨_, rfl, World.ownsRow_nil _ _ _ _, Below.refl _ _⟩
  | true =>
    rw [hm] at hq HH
    simp at hq
    obtain ⟨rfl, hq⟩ := hq
    obtain ⟨k, rfl, hks⟩ := On.hasM_nat hm
    have hkv : k < vs.length := by rw [h.len]; exact hks
    have hkd : k < o.ds.length := by rw [← hk.len]; exact hks
    have hinv := hk.inv k hkd
    obtain ⟨g, cap, ev, hg, d0⟩ := h.at hkv
    obtain ⟨-, -, c2, -, -⟩ := h.low
    subst ev
    obtain ⟨ff, fx, hvia, hcall⟩ := (h.fam.ob k hkv).pairs hinv.1 hinv.2
    obtain ⟨t, u, ev, hmeth, hcf⟩ := hvia
    rw [ev] at d0
    have hq' : (o.sl k).1 = ps := hq
    rw [hq'] at hcall
    have HPR := keepG hcall
    have hkI : (k : Int) < vs.length := by omega
    clear h HQ hm hks hkv hkd hinv ev hcall hq hq' hk
    go_enter Try.func18, Try.ntmps18
    go_wp2_with (first
      | (go_at_call 30; go_must (refine HH.out.mono ?_); rintro e w1 ⟨rfl, rfl⟩)
      | (show Calls Try.prog ff _ _ _; go_must (refine HPR.out.mono ?_); rintro e w1 ⟨u1, rfl, ho1, hb1⟩))
    go_ret2
    exact ⟨_, rfl, ho1, hb1⟩
end
end Go.Proofs.Ytpbfgebecgikjaa
