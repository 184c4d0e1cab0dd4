
/-
  The landed map of layer 15: Batch. Condition: it lies where the pointer says; what is handed in lies apart from it.
-/
import Derived.Test.YtinoelooccmmnaaC15LP
namespace Go.Proofs.Ytinoelooccmmnaa
open Go.RowKit
set_option linter.unusedVariables false
set_option linter.unusedSimpArgs false
set_option maxRecDepth 100000

/-- An item. -/
structure It where
  m : Int
  op : Int
  k : Int
  v : Int
def It.nil : It := ⟨0, 0, 0, 0⟩
def It.wf (i : It) : Prop := 0 ≤ i.k ∧ i.k < 18446744073709551616
abbrev itC (i : It) : List Value := [.int .i64 i.m, .int .i64 i.op, .int .u64 i.k, .int .u64 i.v]
theorem itC_len (i : It) : (itC i).length = 4 := rfl
def Rq.nil : Rq := ⟨0, false, 0, false, 0, 0⟩
abbrev rqC (q : Rq) : List Value := [.int .i64 q.E, .bool q.f, .int .u64 q.v, .bool q.o, .int .u64 q.k, .int .u64 q.u]
theorem rqC_len (q : Rq) : (rqC q).length = 6 := rfl
theorem rqC_one (q : Rq) : ∀ u ∈ rqC q, u.oneCell' = true := by
  intro u hu
  simp at hu
  rcases hu with rfl | rfl | rfl | rfl | rfl | rfl <;> rfl
theorem infoRq : (Try.prog.info? 37).map (fun i => (i.zero, i.size, i.bytes)) = some (some (.agg #[.int .i64 0, .bool false, .int .u64 0, .bool false, .int .u64 0, .int .u64 0]), 6, 48) := by kernel_rfl
/-- Items, one behind the other: what they are answered, and the map behind them. -/
def runM (κ : Bool) (cap : Nat) : List Sr → List It → List Rq × List Sr
  | st, [] => ([], st)
  | st, i :: is => ((doM κ cap st i.op i.k i.v).1 :: (runM κ cap (doM κ cap st i.op i.k i.v).2 is).1, (runM κ cap (doM κ cap st i.op i.k i.v).2 is).2)
theorem runM_app (κ : Bool) (cap : Nat) (is : List It) (i : It) : ∀ st, runM κ cap st (is ++ [i]) = ((runM κ cap st is).1 ++ [(doM κ cap (runM κ cap st is).2 i.op i.k i.v).1], (doM κ cap (runM κ cap st is).2 i.op i.k i.v).2) := by
  induction is with
  | nil => intro st; rfl
  | cons q qs ih =>
    intro st
    rw [List.cons_append, runM, ih, runM]
    rfl
theorem runM_len (κ : Bool) (cap : Nat) (is : List It) : ∀ st, (runM κ cap st is).1.length = is.length ∧ (runM κ cap st is).2.length = st.length := by
  induction is with
  | nil => intro st; exact ⟨rfl, rfl⟩
  | cons q qs ih =>
    intro st
    obtain ⟨h1, h2⟩ := ih (doM κ cap st q.op q.k q.v).2
    refine ⟨?_, ?_⟩
    · show ((doM κ cap st q.op q.k q.v).1 :: (runM κ cap (doM κ cap st q.op q.k q.v).2 qs).1).length = _
      rw [List.length_cons, h1, List.length_cons]
    · show (runM κ cap (doM κ cap st q.op q.k q.v).2 qs).2.length = _
      rw [h2, doM_len]
theorem runM_inv {κ : Bool} {cap n : Nat} (hn : 1 ≤ n) (is : List It) : ∀ {st : List Sr}, (∀ x ∈ is, It.wf x) → st.length = n → InvM κ cap st → InvM κ cap (runM κ cap st is).2 := by
  induction is with
  | nil => intro st _ _ h; exact h
  | cons q qs ih =>
    intro st hw hl h
    exact ih (fun x hx => hw x (List.mem_cons_of_mem _ hx)) (by rw [doM_len]; exact hl) (h.do _ _ _ (by rw [hl]; exact atM_lt hn (hw q List.mem_cons_self).1))
theorem take_moreT {ps : List It} {j : Nat} (hj : j < ps.length) : ps.take (j + 1) = ps.take j ++ [ps.getD j It.nil] := by
  rw [List.take_add_one, List.getD_eq_getElem?_getD, List.getElem?_eq_getElem hj]
  rfl
theorem getD_memT {ps : List It} {j : Nat} (hj : j < ps.length) : ps.getD j It.nil ∈ ps := by
  rw [List.getD_eq_getElem?_getD, List.getElem?_eq_getElem hj]
  exact List.getElem_mem hj
theorem Lmo.other {w : World} {B m n cap : Nat} {κ : Bool} {k : Int} {st : List Sr} {G : Ft} (h : Lmo w B m n cap κ k st G) {b : Nat} {t : TypeId} {cs : List Value} (hp : Hp w b t cs) (h1 : t ≠ 97) (h2 : t ≠ 95) (h3 : t ≠ 64) (h4 : t ≠ 35) (h5 : t ≠ 69) (h6 : t ≠ 55) : ¬ G b := by
  obtain ⟨rv, vs, F, g, _, rfl⟩ := h
  rintro (e | e | ⟨i, hi, e⟩)
  · exact hp_type hp g.hp h5 e
  · exact own_type10 g.row hp (fun e => h6 e.symm) e
  · exact (g.fam.ob i hi).other hp h1 h2 h3 h4 e
section
variable {w : World} {B m n cap : Nat} {κ : Bool} {k : Int} {st : List Sr} {G : Ft}
theorem Lmo.low {B' : Nat} (h : Lmo w B m n cap κ k st G) (hB : B' ≤ B) : Lmo w B' m n cap κ k st G := by
  obtain ⟨rv, vs, F, g, hl, hG⟩ := h
  exact ⟨rv, vs, F, ⟨g.hp, own_lowG g.row hB, g.len, ⟨fun i hi => (g.fam.ob i hi).low hB, g.fam.li, g.fam.ap⟩⟩, hl, hG⟩
set_option maxHeartbeats 8000000 in
theorem Lmo.batch {pv : Value} {is : List It} (h : Lmo w B m n cap κ k st G) (hv : InvM κ cap st) (hn : 1 ≤ n) (hn4 : n ≤ 4) (hc16 : cap ≤ 16) (hB : B ≤ w.heap.size) (hs : SeesG itC 4 It.nil w pv is) (hwf : ∀ x ∈ is, It.wf x) (hlen : is.length ≤ 100000) (hap : Apt G (ftV pv)) {rs : List Rq} {st' : List Sr} (HR : Hid (runM κ cap st is = (rs, st'))) :
    Calls Try.prog 22 #[.pointer (some ⟨m, 0, none⟩), pv] w fun e w' => ∃ u, e = .returned u ∧ ∃ G', w'.ownsRow w.heap.size 37 6 u rs.length (flatG rqC rs) ∧ Lmo w' B m n cap κ k st' G' ∧ Nx w w' G G' := by
  obtain ⟨i0, hi0, hz0, hzs, hzb⟩ := info_parts infoRq
  have HSS : Hid (∀ wr, Chg w wr G → SeesG itC 4 It.nil wr pv is) := fun wr hc => hs.keeps hc hap
  have HLN : Hid (st.length = n) := h.len
  obtain ⟨a, c, rfl, hc, hm, _, _⟩ := hs
  have hm' : c ≤ 9223372036854775807 := by unfold maxLen at hm; omega
  go_enter Try.func22, Try.ntmps22
  go_wp2
  go_loopw [5, 10] (fun rv i wr => ∃ j : Nat, j ≤ is.length ∧ i = .int .i64 j ∧ Hid (wr.ownsRow w.heap.size 37 6 rv (runM κ cap st (is.take j)).1.length (flatG rqC (runM κ cap st (is.take j)).1)) ∧ ∃ G1, Hid (Lmo wr B m n cap κ k (runM κ cap st (is.take j)).2 G1 ∧ Nx w wr G G1)) (fun _ i _ => is.length - (intOf i).toNat)
  case atStart => exact ⟨0, by omega, rfl, World.ownsRow_nil _ _ _ _, G, h, Nx.refl _ _⟩
  case round =>
    obtain ⟨j, hj, rfl, HO, G1, HL⟩ := hrel
    rename World => wr
    have hz1 := HL.out.2.chg.size
    obtain ⟨oa, oc, ev⟩ := own_shape HO.out
    subst ev
    by_cases hlt : j < is.length
    · have hltI : (j : Int) < is.length := by omega
      obtain ⟨a', c', ev, _, _, _, hcell⟩ := HSS.out _ HL.out.2.chg
      simp only [Value.slice.injEq, true_and] at ev
      obtain ⟨rfl, rfl⟩ := ev
      obtain ⟨g, off, rfl, hg, hat⟩ := hcell (fun e => by rw [e] at hlt; simp at hlt)
      have d0 := hat j hlt 0 (by omega)
      have d1 := hat j hlt 1 (by omega)
      have d2 := hat j hlt 2 (by omega)
      have d3 := hat j hlt 3 (by omega)
      simp only [List.getElem?_cons_zero, List.getElem?_cons_succ, Nat.add_zero] at d0 d1 d2 d3
      clear hat hcell
      have hwk := hwf _ (getD_memT hlt)
      obtain ⟨x, HX0⟩ : ∃ x, Hid (is.getD j It.nil = x) := ⟨_, rfl⟩
      rw [HX0.out] at d0 d1 d2 d3 hwk
      have HT : Hid (runM κ cap st (is.take (j + 1)) = ((runM κ cap st (is.take j)).1 ++ [(doM κ cap (runM κ cap st (is.take j)).2 x.op x.k x.v).1], (doM κ cap (runM κ cap st (is.take j)).2 x.op x.k x.v).2)) := by
        show _ = _
        rw [take_moreT hlt, HX0.out, runM_app]
      have HI := keepG (runM_inv hn (is.take j) (fun y hy => hwf y (List.mem_of_mem_take hy)) HLN.out hv)
      have hrl := (runM_len κ cap (is.take j) st).1
      have htl := List.length_take_le j is
      obtain ⟨M, HMM⟩ : ∃ M, Hid ((runM κ cap st (is.take j)).1 = M) := ⟨_, rfl⟩
      obtain ⟨s1, HS1⟩ : ∃ s1, Hid ((runM κ cap st (is.take j)).2 = s1) := ⟨_, rfl⟩
      rw [HMM.out] at hrl
      rw [HMM.out, HS1.out] at HT
      rw [HS1.out] at HL HI
      rw [HMM.out] at HO ⊢
      have hMl : M.length ≤ 100000 := by omega
      clear hrl htl
      obtain ⟨q, s2, HQ⟩ : ∃ q s2, Hid (doM κ cap s1 x.op x.k x.v = (q, s2)) := ⟨_, _, rfl⟩
      rw [HQ.out] at HT
      obtain ⟨X, HX, hbX, hpX⟩ : ∃ X, Hid (wr.alloc (.cells #[.int .i64 x.m, .int .i64 x.op, .int .u64 x.k, .int .u64 x.v] 41) = X) ∧ Below wr.heap.size wr X ∧ Hp X wr.heap.size 41 (itC x) := ⟨_, rfl, below_allocG _ _, Hp.new wr (itC x) _⟩
      have HLX := keepG (HL.out.1.below hbX)
      have HOX := keepG (own_below HO.out hbX (Nat.le_refl _))
      have q1 := hpX.cell (j := 1) rfl
      have q2 := hpX.cell (j := 2) rfl
      have q3 := hpX.cell (j := 3) rfl
      have hzX := hbX.size
      clear h hpX
      go_wp2_with (first
        | (go_at_call 11; rw [HX.out]; go_must (refine (HLX.out.do_any x.op x.k x.v HI.out hn hn4 hwk hc16 (by omega) HQ).mono ?_); rintro e w2 ⟨rfl, G2, hn2, hx2⟩; go_must (have HN2 := keepG hn2; have HX2 := keepG ((HL.out.2.trans (Nx.below hbX)).trans hx2); have HO2 := keepG (own_chg HOX.out hx2.chg (fun k hk e => by { obtain ⟨cs, hq⟩ := own_hpC HOX.out hk; exact HLX.out.other hq (by decide) (by decide) (by decide) (by decide) (by decide) (by decide) e })); have hz2 := hx2.chg.size; clear hn2 hx2))
        | (at_builtin; go_must (refine wpList_append_own_at _ rfl (.tmp 14) (.tmp 23) 61 rfl w.heap.size 37 i0 _ 6 48 Try.underlying61 hi0 hz0 hzs hzb rfl (by decide) (.slice oa M.length oc) M.length (flatG rqC M) rfl (HO2.out.alloc _) ⟨_, 0, none⟩ 1 1 (rqC q) rfl rfl (cells_new _ (rqC q) _ _ rfl) (rqC_one q) (by unfold maxLen; omega) (by omega) (by simp; omega) ?_); intro v3 w3 hown hgr _ hnew; go_must (have HOW : Hid _ := own_moreG hown; have hc3 := chg_append hgr; have HN3 := keepG (HN2.out.keeps hc3 (fun k e1 e2 => by { obtain ⟨cs, hq⟩ := own_hpC HO2.out e1; exact HN2.out.other hq (by decide) (by decide) (by decide) (by decide) (by decide) (by decide) e2 })); have HX3 : Hid (Nx w w3 G G2) := ⟨HX2.out.chg.trans hc3 (fun k hk e => by { have := (HO2.out.lt k e).1; omega }), HX2.out.new⟩; clear hown hgr hnew hc3; obtain ⟨va1, vc1, rfl⟩ := own_shape HOW.out)))
      have eM : (M ++ [q]).length = M.length + 1 := by simp
      first
        | (go_roundw
           case rel => exact ⟨j + 1, by omega, by go_num, by have hh := HOW.out; rw [HT.out]; show World.ownsRow _ _ _ _ _ _ _; rw [eM] at hh ⊢; exact hh, G2, by rw [HT.out]; exact ⟨HN3.out, HX3.out⟩⟩
           case measure => simp [intOf]; omega)
        | exact ⟨⟨j + 1, by omega, by go_num, by have hh := HOW.out; rw [HT.out]; show World.ownsRow _ _ _ _ _ _ _; rw [eM] at hh ⊢; exact hh, G2, by rw [HT.out]; exact ⟨HN3.out, HX3.out⟩⟩, by simp [intOf]; omega⟩
    · have hltI : ¬ (j : Int) < is.length := by omega
      have hT : is.take j = is := List.take_of_length_le (by omega)
      have HR1 : Hid ((runM κ cap st (is.take j)).1 = rs) := by show _ = _; rw [hT, HR.out]
      have HR2 : Hid ((runM κ cap st (is.take j)).2 = st') := by show _ = _; rw [hT, HR.out]
      rw [HR1.out] at HO ⊢
      rw [HR2.out] at HL
      clear hT
      go_wp2
      go_ret
      exact ⟨_, rfl, HO.out, G1, HL.out⟩
end
end Go.Proofs.Ytinoelooccmmnaa
