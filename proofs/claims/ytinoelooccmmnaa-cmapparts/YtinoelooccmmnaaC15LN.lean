
/-
  The landed map of layer 15: New. Condition: none.
-/
import Derived.Test.YtinoelooccmmnaaC15LM
namespace Go.Proofs.Ytinoelooccmmnaa
open Go.RowKit
set_option linter.unusedVariables false
set_option linter.unusedSimpArgs false
set_option maxRecDepth 100000

abbrev defW (k c : Int) : Value := .agg #[.int .i64 k, .int .i64 c]
def kindJ (κ : Bool) : Int := if κ = true then 1 else 0
def defNoL (k c : Int) : Prop := (k ≠ 0 ∧ k ≠ 1) ∨ c < 1 ∨ 16 < c
theorem Sh.shape {w : World} {B : Nat} {v : Value} {κ : Bool} {cap : Nat} {s : Sr} {F : Ft} (h : Sh w B v κ cap s F) : ∃ t u, v = .iface t u := by
  rcases h with ⟨_, b, rfl, _⟩ | ⟨_, l, rfl, _⟩
  · exact ⟨_, _, rfl⟩
  · exact ⟨_, _, rfl⟩
theorem Sh.one {w : World} {B : Nat} {v : Value} {κ : Bool} {cap : Nat} {s : Sr} {F : Ft} (h : Sh w B v κ cap s F) : ∀ u ∈ ifC v, u.oneCell' = true := by
  rcases h with ⟨_, b, rfl, _⟩ | ⟨_, l, rfl, _⟩
  · intro u hu; simp at hu; subst hu; rfl
  · intro u hu; simp at hu; subst hu; rfl
section
variable {w0 w w2 : World} {B r cap : Nat} {κ : Bool} {k : Int} {rv v2 : Value} {ps : List Value} {st : List Sr} {F : Nat → Ft}
/-- One shard more. -/
theorem Lm.more (h : Lm w B r cap κ k rv ps st F) {w1 : World} {p : Value} {s : Sr} {G : Ft} (hb1 : Below w.heap.size w w1) (hs : Sh w1 B p κ cap s G) (hG : Since w G) {o : Obj} (hB : B ≤ w.heap.size) (hown : w2.ownsRow B 55 1 v2 (ps.length + 1) (flatG ifC ps ++ ifC p)) (hgr : (w1.alloc o).grownBy w2 rv.ownBlock) :
    Lm (w2.setCell ⟨r, 2, none⟩ v2) B r cap κ k v2 (ps ++ [p]) (st ++ [s]) (upd F ps.length G) := by
  have h1 := h.below hb1
  have hc2 := chg_append hgr
  have hc3 : Chg w2 (w2.setCell ⟨r, 2, none⟩ v2) (fun k => k = r) := Chg.set _ _ _ _
  have hrow1 : ∀ k, rv.ownBlock = some k → ∃ cs, Hp w1 k 55 cs := fun k hk => own_hpC h1.row hk
  have hr1 : rv.ownBlock ≠ some r := own_type10 h1.row h1.hp (by decide)
  have hp2 : Hp w2 r 69 [.int .i64 k, .int .i64 cap, rv] := h1.hp.chg hc2 (fun e => hr1 e)
  have hv2 : v2.ownBlock ≠ some r := own_type10 hown hp2 (by decide)
  have key : ∀ {q : Value} {t : Sr} {H : Ft}, Sh w1 B q κ cap t H → Sh (w2.setCell ⟨r, 2, none⟩ v2) B q κ cap t H := fun {q t H} hd => by
    have hd2 : Sh w2 B q κ cap t H := hd.keeps hc2 (fun k e1 e2 => by
      obtain ⟨cs, hq⟩ := hrow1 k e1
      exact hd.other hq (by decide) (by decide) (by decide) (by decide) e2)
    exact hd2.keeps hc3 (fun k e1 e2 => by subst e1; exact hd2.other hp2 (by decide) (by decide) (by decide) (by decide) e2)
  have hl : (ps ++ [p]).length = ps.length + 1 := by simp
  refine ⟨hp2.set 2 v2, ?_, by simp [h.len], ?_⟩
  · rw [hl, flatG_more]
    exact own_chg hown hc3 (fun k hk e => by subst e; exact hv2 hk)
  · rw [hl]
    refine Fam.more (P := fun w i G => Sh w B (ps.getD i .nilIface) κ cap (st.getD i Sr.nil) G) h.fam ?_ hG (key hs).lies ?_ (fun j hj hd => ?_)
    · exact Nat.le_trans (Nat.le_trans hb1.size hc2.size) hc3.size
    · have e1 : (ps ++ [p]).getD ps.length .nilIface = p := by simp
      have e2 : (st ++ [s]).getD ps.length Sr.nil = s := by rw [← h.len]; simp
      show Sh _ B ((ps ++ [p]).getD ps.length .nilIface) κ cap ((st ++ [s]).getD ps.length Sr.nil) G
      rw [e1, e2]
      exact key hs
    · have e1 : (ps ++ [p]).getD j .nilIface = ps.getD j .nilIface := by simp [List.getElem?_append_left hj]
      have e2 : (st ++ [s]).getD j Sr.nil = st.getD j Sr.nil := by simp [List.getElem?_append_left (show j < st.length by rw [h.len]; exact hj)]
      show Sh _ B ((ps ++ [p]).getD j .nilIface) κ cap ((st ++ [s]).getD j Sr.nil) (F j)
      rw [e1, e2]
      exact key (hd.below hb1)
end
/-- The landed map as it is being made. -/
structure Ln (w wr : World) (cap : Nat) (κ : Bool) (kk : Int) (rv : Value) (ps : List Value) (F : Nat → Ft) (j : Nat) : Prop where
  m : Lm wr w.heap.size (w.heap.size + 1) cap κ kk rv ps (List.replicate j Sr.nil) F
  l : ps.length = j
  s : Since w (footN (w.heap.size + 1) rv ps.length F)
  d : Hp wr w.heap.size 24 [.int .i64 kk, .int .i64 cap]
  b : Below w.heap.size w wr
theorem Ln.next {w wr w1 w2 : World} {cap : Nat} {κ : Bool} {kk : Int} {rv v2 : Value} {ps : List Value} {F : Nat → Ft} {j : Nat} {p : Value} {G : Ft} {o : Obj} (h : Ln w wr cap κ kk rv ps F j) (hb1 : Below wr.heap.size wr w1) (hs : Sh w1 wr.heap.size p κ cap Sr.nil G) (hG : Since wr G) (hown : w2.ownsRow w.heap.size 55 1 v2 (ps.length + 1) (flatG ifC ps ++ ifC p)) (hgr : (w1.alloc o).grownBy w2 rv.ownBlock) :
    Ln w (w2.setCell ⟨w.heap.size + 1, 2, none⟩ v2) cap κ kk v2 (ps ++ [p]) (upd F ps.length G) (j + 1) ∧ w2.cell? ⟨w.heap.size + 1, 2, none⟩ = some rv ∧ w2.frozen? ⟨w.heap.size + 1, 2, none⟩ = false := by
  have hzw := h.b.size
  have hm1 := h.m.below hb1
  have hc2 := chg_append hgr
  have hb1w : Below w.heap.size w w1 := h.b.trans (hb1.mono hzw)
  have hp2 := hm1.hp.chg hc2 (own_type10 hm1.row hm1.hp (by decide))
  have hd1 := h.d.below hb1 h.d.lt
  have hd2 := hd1.chg hc2 (own_type10 hm1.row hd1 (by decide))
  have hb2 : Below w.heap.size w w2 := hb1w.trans (hc2.below (fun k e => (hm1.row.lt k e).1) hb1w.size)
  have hmr := h.m.more hb1 (hs.low hzw) hG hzw hown hgr
  rw [show List.replicate j Sr.nil ++ [Sr.nil] = List.replicate (j + 1) Sr.nil from List.replicate_succ'.symm] at hmr
  refine ⟨⟨hmr, by rw [List.length_append, h.l]; rfl, fun k hk => ?_, hd2.far (by omega), ?_⟩, hp2.cell (j := 2) rfl, hp2.frozen 2⟩
  · rcases hk with e | e | ⟨i, hi, e⟩
    · omega
    · exact (hown.lt k e).1
    · by_cases e2 : i = ps.length
      · subst e2
        rw [upd_same] at e
        exact Nat.le_trans hzw (hG k e)
      · rw [upd_other F G e2] at e
        exact h.s k (.inr (.inr ⟨i, by rw [List.length_append] at hi; simp at hi; omega, e⟩))
  · refine hb2.trans ((Chg.set w2 (w.heap.size + 1) 2 v2).below (fun k e => ?_) hb2.size)
    omega
set_option maxHeartbeats 8000000 in
theorem lnewM_ok (κ : Bool) (cap n : Nat) (h1 : 1 ≤ cap) (h2 : cap ≤ 16) (hn : 1 ≤ n) (hn4 : n ≤ 4) (w : World) : Calls Try.prog 8 #[defW (kindJ κ) cap, .int .i64 n] w fun e w' => ∃ r G, e = .returned (.tuple #[.pointer (some ⟨r, 0, none⟩), .int .i64 0]) ∧ Lmo w' w.heap.size r n cap κ (kindJ κ) (List.replicate n Sr.nil) G ∧ Since w G ∧ Below w.heap.size w w' := by
  obtain ⟨kk, HKK⟩ : ∃ kk, Hid (kindJ κ = kk) := ⟨_, rfl⟩
  rw [HKK.out]
  obtain ⟨i0, hi0, hz0, hzs, hzb⟩ := info_parts infoIf
  obtain ⟨X, HX, hbX, hpX⟩ : ∃ X, Hid (w.alloc (.cells #[.int .i64 kk, .int .i64 cap] 24) = X) ∧ Below w.heap.size w X ∧ Hp X w.heap.size 24 [.int .i64 kk, .int .i64 cap] := ⟨_, rfl, below_allocG _ _, Hp.new w [.int .i64 kk, .int .i64 cap] _⟩
  have hzX : X.heap.size = w.heap.size + 1 := by rw [← HX.out]; simp
  obtain ⟨Z, HZ, hbZ, hpZ⟩ : ∃ Z, Hid (X.alloc (.cells #[.int .i64 kk, .int .i64 cap, .slice none 0 0] 69) = Z) ∧ Below X.heap.size X Z ∧ Hp Z X.heap.size 69 [.int .i64 kk, .int .i64 cap, .slice none 0 0] := ⟨_, rfl, below_allocG _ _, Hp.new X [.int .i64 kk, .int .i64 cap, .slice none 0 0] _⟩
  have hn1I : ¬ (n : Int) < 1 := by omega
  have hn4I : ¬ (4 : Int) < n := by omega
  have HD0 : Hid (Ln w Z cap κ kk (.slice none 0 0) [] (fun _ _ => False) 0) := ⟨⟨by rw [← hzX]; exact hpZ, World.ownsRow_nil _ _ _ _, rfl, Fam.nil⟩, rfl, fun k hk => by
    rcases hk with e | e | ⟨i, hi, _⟩
    · omega
    · cases e
    · exact absurd hi (by simp), hpX.below hbZ hpX.lt, hbX.trans (hbZ.mono (by omega))⟩
  have HZZ : Hid ((w.alloc (.cells #[.int .i64 kk, .int .i64 cap] 24)).alloc (.cells #[.int .i64 kk, .int .i64 cap, .slice none 0 0] 69) = Z) := by show _ = _; rw [HX.out]; exact HZ.out
  clear hpX hpZ hbX hbZ hzX
  go_enter Try.func8, Try.ntmps8
  go_wp2
  rw [HZZ.out]
  go_loopw [19] (fun i wr => ∃ j : Nat, j ≤ n ∧ i = .int .i64 j ∧ ∃ rv ps F, Hid (Ln w wr cap κ kk rv ps F j)) (fun i _ => n - (intOf i).toNat)
  case atStart => exact ⟨0, by omega, rfl, _, [], _, HD0.out⟩
  case round =>
    obtain ⟨j, hj, rfl, rv, ps, F, HM⟩ := hrel
    rename World => wr
    have hzw := HM.out.b.size
    by_cases hlt : j < n
    · have hltI : (j : Int) < n := by omega
      have hps : ps.length ≤ 4 := by have := HM.out.l; omega
      have c0 := HM.out.d.cell (j := 0) rfl
      have c1 := HM.out.d.cell (j := 1) rfl
      obtain ⟨xa, xc, rfl⟩ := own_shape HM.out.m.row
      have hmk := lmake_ok κ cap h1 h2 wr
      rw [show (if κ = true then (1 : Int) else 0) = kk from HKK.out] at hmk
      have HMK := keepG hmk
      clear hmk
      go_wp2_with (first
        | (go_at_call 19; go_must (refine HMK.out.mono ?_); rintro e w1 ⟨p, G, rfl, hds, hsG, hb1⟩; go_must (obtain ⟨tt, uu, rfl⟩ := hds.shape; have hone : ∀ u ∈ ifC (.iface tt uu), u.oneCell' = true := hds.one; have HD1 := keepG hds; have HG1 := keepG hsG; have HM1 := keepG (HM.out.m.below hb1); have r0 := HM1.out.hp.cell (j := 2) rfl; have hz1 := hb1.size; have hlr := HM1.out.hp.lt; clear hds hsG))
        | (at_builtin; go_must (refine wpList_append_own_at _ rfl (.tmp 33) (.tmp 35) 67 rfl w.heap.size 55 i0 _ 1 16 Try.underlying67 hi0 hz0 hzs hzb rfl (by decide) (.slice xa ps.length xc) ps.length (flatG ifC ps) rfl (HM1.out.row.alloc _) ⟨_, 0, none⟩ 1 1 (ifC (.iface tt uu)) rfl rfl (cells_new _ (ifC (.iface tt uu)) _ _ rfl) hone (by unfold maxLen; omega) (by omega) (by simp; omega) ?_); intro v2 w2 hown hgr _ hnew; go_must (obtain ⟨hmr, z0, zf0⟩ := HM.out.next hb1 HD1.out HG1.out hown hgr; have HMR := keepG hmr; obtain ⟨va, vc, rfl⟩ := own_shape hown; clear hown hgr hnew hmr)))
      first
        | (go_roundw
           case rel => exact ⟨j + 1, by omega, by go_num, _, _, _, HMR⟩
           case measure => simp [intOf]; omega)
        | exact ⟨⟨j + 1, by omega, by go_num, _, _, _, HMR⟩, by simp [intOf]; omega⟩
    · have hltI : ¬ (j : Int) < n := by omega
      have HE : Hid (j = n) := by show _ = _; omega
      go_wp2
      go_ret2
      refine ⟨w.heap.size + 1, rfl, footN (w.heap.size + 1) rv ps.length F, ?_, HM.out.s, HM.out.b⟩
      have := HM.out
      rw [HE.out] at this
      exact ⟨rv, ps, F, this.m, this.l, rfl⟩
theorem lnewM_no (k c n : Int) (h : (n < 1 ∨ 4 < n) ∨ defNoL k c) (w : World) : Calls Try.prog 8 #[defW k c, .int .i64 n] w fun e w' => e = .returned (.tuple #[.pointer none, .int .i64 2]) ∧ Below w.heap.size w w' := by
  by_cases h1 : n < 1
  · go_enter Try.func8, Try.ntmps8
    go_wp2
    go_ret2
    exact ⟨rfl, below_allocG _ _⟩
  by_cases h4 : 4 < n
  · go_enter Try.func8, Try.ntmps8
    go_wp2
    go_ret2
    exact ⟨rfl, below_allocG _ _⟩
  have hd : defNoL k c := by rcases h with (g | g) | g; exact absurd g h1; exact absurd g h4; exact g
  have h0 : (0 : Int) < n := by omega
  obtain ⟨X, HX, hbX, hpX⟩ : ∃ X, Hid ((w.alloc (.cells #[.int .i64 k, .int .i64 c] 24)).alloc (.cells #[.int .i64 k, .int .i64 c, .slice none 0 0] 69) = X) ∧ Below w.heap.size w X ∧ Hp X w.heap.size 24 [.int .i64 k, .int .i64 c] := ⟨_, rfl, (below_allocG _ _).alloc (by simp) _, (Hp.new w [.int .i64 k, .int .i64 c] _).alloc _⟩
  have hzX := hbX.size
  have c0 := hpX.cell (j := 0) rfl
  have c1 := hpX.cell (j := 1) rfl
  go_enter Try.func8, Try.ntmps8
  go_wp2
  rw [HX.out]
  go_loopw [19] (fun i wr => i = .int .i64 0 ∧ X = wr) (fun i _ => 1)
  case atStart => exact ⟨rfl, rfl⟩
  case round =>
    obtain ⟨rfl, rfl⟩ := hrel
    go_wp2_with (go_at_call 19; go_must (refine (lmake_no k c hd X).mono ?_); rintro e w1 ⟨rfl, hb1⟩)
    go_ret2
    exact ⟨rfl, hbX.trans (hb1.mono hzX)⟩
end Go.Proofs.Ytinoelooccmmnaa
