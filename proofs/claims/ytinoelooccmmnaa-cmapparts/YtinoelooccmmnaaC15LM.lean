
/-
  The landed map of layer 15: its shape, Do. Condition: it lies where the pointer says.
-/
import Derived.Test.YtinoelooccmmnaaC15Sh
namespace Go.Proofs.Ytinoelooccmmnaa
open Go.RowKit
set_option linter.unusedVariables false
set_option linter.unusedSimpArgs false
set_option maxRecDepth 100000

abbrev ifC (v : Value) : List Value := [v]
theorem ifC_len (v : Value) : (ifC v).length = 1 := rfl
theorem infoIf : (Try.prog.info? 55).map (fun i => (i.zero, i.size, i.bytes)) = some (some .nilIface, 1, 16) := by kernel_rfl
/-- The landed map, at a block. -/
structure Lm (w : World) (B m cap : Nat) (κ : Bool) (k : Int) (rv : Value) (vs : List Value) (st : List Sr) (F : Nat → Ft) : Prop where
  hp : Hp w m 69 [.int .i64 k, .int .i64 cap, rv]
  row : w.ownsRow B 55 1 rv vs.length (flatG ifC vs)
  len : st.length = vs.length
  fam : Fam (fun w i G => Sh w B (vs.getD i .nilIface) κ cap (st.getD i Sr.nil) G) w vs.length F
def footN (m : Nat) (rv : Value) (n : Nat) (F : Nat → Ft) : Ft := fun k => k = m ∨ rv.ownBlock = some k ∨ unF n F k
section
variable {w w' : World} {B m cap : Nat} {κ : Bool} {k : Int} {rv : Value} {vs : List Value} {st : List Sr} {F : Nat → Ft}
theorem Lm.below (h : Lm w B m cap κ k rv vs st F) (hb : Below w.heap.size w w') : Lm w' B m cap κ k rv vs st F :=
  ⟨h.hp.below hb h.hp.lt, own_below h.row hb (Nat.le_refl _), h.len, h.fam.keeps (Chg.of_below (S := fun _ => False) hb) (fun j hj g => g.below hb)⟩
theorem Lm.lies (h : Lm w B m cap κ k rv vs st F) : Lies w (footN m rv vs.length F) := by
  intro k hk
  rcases hk with e | e | ⟨i, hi, e⟩
  · rw [e]; exact h.hp.lt
  · exact (h.row.lt k e).2
  · exact h.fam.li i hi k e
theorem Lm.chg {G : Ft} (h : Lm w B m cap κ k rv vs st F) (hc : Chg w w' G) (ha : Apt G (footN m rv vs.length F)) : Lm w' B m cap κ k rv vs st F :=
  ⟨h.hp.chg hc (fun e => ha m e (.inl rfl)), own_chg h.row hc (fun k hk e => ha k e (.inr (.inl hk))), h.len, h.fam.keeps hc (fun j hj g => g.keeps hc (fun k e1 e2 => ha k e1 (.inr (.inr ⟨j, hj, e2⟩))))⟩
/-- A step of one shard. -/
theorem Lm.step (h : Lm w B m cap κ k rv vs st F) {i : Nat} (hi : i < vs.length) {s' : Sr} {G : Ft} (hs : Sh w' B (vs.getD i .nilIface) κ cap s' G) (hn : Nx w w' (F i) G) : Lm w' B m cap κ k rv vs (st.set i s') (upd F i G) ∧ Nx w w' (footN m rv vs.length F) (footN m rv vs.length (upd F i G)) := by
  have hob := h.fam.ob i hi
  have n1 : ¬ F i m := hob.other h.hp (by decide) (by decide) (by decide) (by decide)
  have n2 : ∀ k, rv.ownBlock = some k → ¬ F i k := fun k hk => by
    obtain ⟨cs, hq⟩ := own_hpC h.row hk
    exact hob.other hq (by decide) (by decide) (by decide) (by decide)
  have hf := Nx.fam (n := vs.length) hi hn
  refine ⟨⟨h.hp.chg hn.chg n1, own_chg h.row hn.chg n2, by rw [List.length_set]; exact h.len, h.fam.step hi hn hs.lies ?_ (fun j hj hne g ha => ?_)⟩, hn.chg.mono (fun k e => .inr (.inr ⟨i, hi, e⟩)), fun k hk => ?_⟩
  · show Sh w' B (vs.getD i .nilIface) κ cap ((st.set i s').getD i Sr.nil) G
    rw [getD_set_same (by rw [h.len]; exact hi)]
    exact hs
  · show Sh w' B (vs.getD j .nilIface) κ cap ((st.set i s').getD j Sr.nil) (F j)
    rw [getD_set_other (fun e => hne e.symm)]
    exact g.keeps hn.chg ha
  · rcases hk with e | e | e
    · exact .inl (.inl e)
    · exact .inl (.inr (.inl e))
    · rcases hf.new k e with g | g
      · exact .inl (.inr (.inr g))
      · exact .inr g
end
theorem res_endL (P : World → Ft → Prop) (hk : ∀ {w w' : World} {F G : Ft}, P w F → Chg w w' G → Apt G F → P w' F) {w X w1 W7 : World} {F F' : Ft} {cs : List Value} (hbX : Below w.heap.size w X) (hzX : X.heap.size = w.heap.size + 1) (hF : Lies w F) (Hr : Hp w1 w.heap.size 37 cs) (hl : cs.length = 6) (hP : P w1 F') (hn : Nx X w1 F F') {E x k u : Int} {f o : Bool} {fn : Func} {tmps : Array Value} {pt : Tmp} (hW : W7 = ((((((w1.setCell ⟨w.heap.size, 0, none⟩ (.int .i64 E)).setCell ⟨w.heap.size, 1, none⟩ (.bool f)).setCell ⟨w.heap.size, 2, none⟩ (.int .u64 x)).setCell ⟨w.heap.size, 3, none⟩ (.bool o)).setCell ⟨w.heap.size, 4, none⟩ (.int .u64 k)).setCell ⟨w.heap.size, 5, none⟩ (.int .u64 u))) (hr : fn.results = #[.cell pt 37] := by rfl) (hp : tmps.getD pt undef = .pointer (some ⟨w.heap.size, 0, none⟩) := by rfl) :
    bodyPost Try.prog fn (fun e w' => e = .returned (resG E f x o k u) ∧ ∃ F', P w' F' ∧ Nx w w' F F') .ret ⟨tmps, []⟩ W7 := by
  obtain ⟨hs, hg⟩ := six_sets (E := E) (f := f) (v := x) (o := o) (k := k) (u := u) Hr hl
  have hc := Chg.of_grown (S := fun k => k = w.heap.size) hg rfl
  have hn0 := (Nx.below (F := F) hbX).trans hn
  have hnot : ¬ F' w.heap.size := fun e => by
    rcases hn.new _ e with g | g
    · have := hF _ g; omega
    · omega
  rw [hW]
  exact res_ret hr hp hs ⟨rfl, F', hk hP hc (fun k e hf => by subst e; exact hnot hf), ⟨hn0.chg.trans hc (fun k hk e => by omega), hn0.new⟩⟩
/-- The landed map as an object. -/
def Lmo (w : World) (B m n cap : Nat) (κ : Bool) (k : Int) (st : List Sr) (G : Ft) : Prop := ∃ rv vs F, Lm w B m cap κ k rv vs st F ∧ vs.length = n ∧ G = footN m rv vs.length F
section
variable {w w' : World} {B m n cap : Nat} {κ : Bool} {k : Int} {st : List Sr} {G H : Ft}
theorem Lmo.lies (h : Lmo w B m n cap κ k st G) : Lies w G := by
  obtain ⟨rv, vs, F, h1, _, rfl⟩ := h
  exact h1.lies
theorem Lmo.keeps (h : Lmo w B m n cap κ k st G) (hc : Chg w w' H) (ha : Apt H G) : Lmo w' B m n cap κ k st G := by
  obtain ⟨rv, vs, F, h1, h2, rfl⟩ := h
  exact ⟨rv, vs, F, h1.chg hc ha, h2, rfl⟩
theorem Lmo.below (h : Lmo w B m n cap κ k st G) (hb : Below w.heap.size w w') : Lmo w' B m n cap κ k st G := by
  obtain ⟨rv, vs, F, h1, h2, rfl⟩ := h
  exact ⟨rv, vs, F, h1.below hb, h2, rfl⟩
theorem Lmo.len (h : Lmo w B m n cap κ k st G) : st.length = n := by
  obtain ⟨rv, vs, F, h1, h2, rfl⟩ := h
  exact h1.len.trans h2
set_option maxHeartbeats 8000000 in
theorem Lmo.do_any (op key val : Int) (h : Lmo w B m n cap κ k st G) (hv : InvM κ cap st) (hn : 1 ≤ n) (hn4 : n ≤ 4) (hk : 0 ≤ key ∧ key < 18446744073709551616) (hc16 : cap ≤ 16) (hB : B ≤ w.heap.size) {q : Rq} {st' : List Sr} (HQ : Hid (doM κ cap st op key val = (q, st'))) :
    Calls Try.prog 11 #[.pointer (some ⟨m, 0, none⟩), .int .i64 op, .int .u64 key, .int .u64 val] w fun e w' => e = .returned (resG q.E q.f q.v q.o q.k q.u) ∧ ∃ G', Lmo w' B m n cap κ k st' G' ∧ Nx w w' G G' := by
  have hlies := h.lies
  obtain ⟨rv, vs, F, h1, hpn, rfl⟩ := h
  have hsl := h1.len
  obtain ⟨i, HI⟩ : ∃ i, Hid (atM key n = i) := ⟨_, rfl⟩
  have hil : i < vs.length := by rw [← HI.out, hpn]; exact atM_lt hn hk.1
  have hin : i < n := by omega
  obtain ⟨s', HS'⟩ : ∃ s', Hid (doSh κ cap (st.getD i Sr.nil) op key val = (q, s')) ∧ Hid (st' = st.set i s') := by
    have hq := HQ.out
    unfold doM at hq
    rw [hsl, hpn, HI.out] at hq
    injection hq with q1 q2
    exact ⟨(doSh κ cap (st.getD i Sr.nil) op key val).2, Prod.ext q1 rfl, q2.symm⟩
  obtain ⟨HSQ, HSS⟩ := HS'
  rw [HSS.out]
  obtain ⟨g, cc, rfl, _, hg, hgc, hcm, hat⟩ := own_atG ifC_len .nilIface h1.row (by omega)
  have d0 := (hat i hil 0 (by omega)).1
  simp only [List.getElem?_cons_zero, Nat.add_zero, Nat.mul_one] at d0
  have c0 := h1.hp.cell (j := 2) rfl
  have hrl := h1.hp.lt
  clear hat
  have hof : ofL key (vs.length : Int) = (i : Int) := by rw [hpn, atM_of hn, HI.out]
  have HOF := keepG hof
  clear hof
  obtain ⟨X, HX, HrX, hbX, hzX⟩ := boxRG w
  obtain ⟨Y, HY, hbY, HrY, hzY⟩ : ∃ Y, Hid (X.drew = Y) ∧ Below w.heap.size w Y ∧ Hid (Hp Y w.heap.size 37 (resCG 0 false 0 false 0 0)) ∧ Y.heap.size = w.heap.size + 1 := ⟨_, rfl, below_drG hbX, HrX.out.drew, hzX⟩
  have HDY := keepG (h1.below hbY)
  obtain ⟨ff, fx, hvia, hcall⟩ := (HDY.out.fam.ob i hil).do_any op key val (hv i (by omega)) hc16 (by omega) HSQ
  obtain ⟨t, u, ev, hmeth, hcf⟩ := hvia
  rw [ev] at d0
  have HEV := keepG ev
  clear ev
  have HCALL := keepG hcall
  clear hcall
  have HLen := keepG hpn
  have hlI : (i : Int) < vs.length := by omega
  have hlI0 : ¬ (i : Int) < 0 := by omega
  have hps4 : vs.length ≤ 4 := by omega
  have HS : Hid (∀ wx, Below w.heap.size w wx → wx.cell? ⟨m, 2, none⟩ = some (.slice (some ⟨g, 0, none⟩) vs.length cc) ∧ wx.cell? ⟨g, i, none⟩ = some (.iface t u)) := fun wx hb => ⟨(hb.cell (p := ⟨m, 2, none⟩) hrl).trans c0, (hb.cell (p := ⟨g, i, none⟩) hg).trans d0⟩
  have n1 : ¬ w.heap.size = m := by omega
  have n2 : ¬ w.heap.size = g := by omega
  clear h1 c0 d0 hpn hsl
  go_enter Try.func11, Try.ntmps11
  go_wp2
  rw [HX.out]
  refine wp_region_held_drew (S := fun w' => w'.cell? ⟨m, 2, none⟩ = some (.slice (some ⟨g, 0, none⟩) vs.length cc) ∧ w'.cell? ⟨g, i, none⟩ = some (.iface t u)) (by kernel_rfl) (HS.out _ (below_drG hbX)) (fun hHeld => ?_)
  rw [HY.out] at hHeld ⊢
  refine wpAnyH_take (i := 0) (v := ?v1) rfl (by kernel_rfl) (by kernel_rfl) (by kernel_rfl) (fun _ _ _ h => h) (Or.inl ⟨by rfl, ?hy1⟩) (by assumption) ?rest1
  case hy1 => (intro wy hSw; (try dsimp only at hSw); go_simp; (first | done | with_reducible rfl))
  try simp only [Act.put, List.getElem_toArray, List.getElem_cons_zero, List.getElem_cons_succ, List.setIfInBounds_toArray, List.set_cons_zero, List.set_cons_succ]
  refine wpAnyH_take (i := 1) (v := ?v2) rfl (by kernel_rfl) (by kernel_rfl) (by kernel_rfl) (fun _ _ _ h => h) (Or.inl ⟨by rfl, ?hy2⟩) (by assumption) ?rest2
  case hy2 => (intro wy hSw; (try dsimp only at hSw); go_simp; (first | done | with_reducible rfl))
  try simp only [Act.put, List.getElem_toArray, List.getElem_cons_zero, List.getElem_cons_succ, List.setIfInBounds_toArray, List.set_cons_zero, List.set_cons_succ]
  refine wpAnyH_take (i := 2) (v := ?v3) rfl (by kernel_rfl) (by kernel_rfl) (by kernel_rfl) (fun _ _ _ h => h) (Or.inl ⟨by rfl, ?hy3⟩) (by assumption) ?rest3
  case hy3 => (intro wy hSw; (try dsimp only at hSw); go_simp; (first | done | with_reducible rfl))
  try simp only [Act.put, List.getElem_toArray, List.getElem_cons_zero, List.getElem_cons_succ, List.setIfInBounds_toArray, List.set_cons_zero, List.set_cons_succ]
  refine wpAnyH_take (i := 3) (v := ?v4) rfl (by kernel_rfl) (by kernel_rfl) (by kernel_rfl) (fun _ _ _ h => h) (Or.inl ⟨by rfl, ?hy4⟩) (by assumption) ?rest4
  case hy4 => (intro wy hSw; (try dsimp only at hSw); go_simp; (first | done | with_reducible rfl))
  try simp only [Act.put, List.getElem_toArray, List.getElem_cons_zero, List.getElem_cons_succ, List.setIfInBounds_toArray, List.set_cons_zero, List.set_cons_succ]
  refine wpAnyH_take (i := 4) (v := ?v5) rfl (by kernel_rfl) (by kernel_rfl) (by kernel_rfl) (fun _ _ _ h => h) (Or.inl ⟨by rfl, ?hy5⟩) (by assumption) ?rest5
  case hy5 => (intro wy hSw; (try dsimp only at hSw); go_simp; (first | done | with_reducible rfl))
  try simp only [Act.put, List.getElem_toArray, List.getElem_cons_zero, List.getElem_cons_succ, List.setIfInBounds_toArray, List.set_cons_zero, List.set_cons_succ]
  refine wpAnyH_take (i := 5) (v := ?v6) rfl (by kernel_rfl) (by kernel_rfl) (by kernel_rfl) (fun _ _ _ h => h) (Or.inl ⟨by rfl, ?hy6⟩) (by assumption) ?rest6
  case hy6 => (intro wy hSw; (try dsimp only at hSw); go_simp; (first | done | with_reducible rfl))
  try simp only [Act.put, List.getElem_toArray, List.getElem_cons_zero, List.getElem_cons_succ, List.setIfInBounds_toArray, List.set_cons_zero, List.set_cons_succ]
  refine wpAnyH_take (i := 6) (v := ?v7) rfl (by kernel_rfl) (by kernel_rfl) (by kernel_rfl) (fun _ _ _ h => h) (Or.inl ⟨by rfl, ?hy7⟩) (by assumption) ?rest7
  case hy7 => (intro wy hSw; (try dsimp only at hSw); go_simp; (first | done | with_reducible rfl))
  try simp only [Act.put, List.getElem_toArray, List.getElem_cons_zero, List.getElem_cons_succ, List.setIfInBounds_toArray, List.set_cons_zero, List.set_cons_succ]
  refine wpAnyH_take (i := 7) (v := ?v8) rfl (by kernel_rfl) (by kernel_rfl) (by kernel_rfl) (fun _ _ _ h => h) (Or.inl ⟨by rfl, ?hy8⟩) (by assumption) ?rest8
  case hy8 => (intro wy hSw; (try dsimp only at hSw); go_simp; (first | done | with_reducible rfl))
  try simp only [Act.put, List.getElem_toArray, List.getElem_cons_zero, List.getElem_cons_succ, List.setIfInBounds_toArray, List.set_cons_zero, List.set_cons_succ]
  refine wpAnyH_take (i := 8) (v := ?v9) rfl (by kernel_rfl) (by kernel_rfl) (by kernel_rfl) (fun _ _ _ h => h) (Or.inl ⟨by rfl, ?hy9⟩) (by assumption) ?rest9
  case hy9 => (intro wy hSw; (try dsimp only at hSw); go_simp; (first | done | with_reducible rfl))
  try simp only [Act.put, List.getElem_toArray, List.getElem_cons_zero, List.getElem_cons_succ, List.setIfInBounds_toArray, List.set_cons_zero, List.set_cons_succ]
  refine wpAnyH_take (i := 9) (v := ?v10) rfl (by kernel_rfl) (by kernel_rfl) (by kernel_rfl) (fun _ _ _ h => h) (Or.inl ⟨by rfl, ?hy10⟩) (by assumption) ?rest10
  case hy10 => (intro wy hSw; (try dsimp only at hSw); go_simp; (first | done | with_reducible rfl))
  try simp only [Act.put, List.getElem_toArray, List.getElem_cons_zero, List.getElem_cons_succ, List.setIfInBounds_toArray, List.set_cons_zero, List.set_cons_succ]
  refine wpAnyH_take (i := 13) (v := ?v11) rfl (by kernel_rfl) (by kernel_rfl) (by kernel_rfl) (fun _ _ _ h => h) (Or.inl ⟨by rfl, ?hy11⟩) (by assumption) ?rest11
  case hy11 => (intro wy hSw; (try dsimp only at hSw); go_simp; (first | done | with_reducible rfl))
  try simp only [Act.put, List.getElem_toArray, List.getElem_cons_zero, List.getElem_cons_succ, List.setIfInBounds_toArray, List.set_cons_zero, List.set_cons_succ]
  refine wpAnyH_take (i := 14) (v := ?v12) rfl (by kernel_rfl) (by kernel_rfl) (by kernel_rfl) (fun _ _ _ h => h) (Or.inl ⟨by rfl, ?hy12⟩) (by assumption) ?rest12
  case hy12 => (intro wy hSw; (try dsimp only at hSw); go_simp; (first | done | with_reducible rfl))
  try simp only [Act.put, List.getElem_toArray, List.getElem_cons_zero, List.getElem_cons_succ, List.setIfInBounds_toArray, List.set_cons_zero, List.set_cons_succ]
  refine wpAnyH_take (i := 15) (v := ?v13) rfl (by kernel_rfl) (by kernel_rfl) (by kernel_rfl) (fun _ _ _ h => h) (Or.inl ⟨by rfl, ?hy13⟩) (by assumption) ?rest13
  case hy13 => (intro wy hSw; (try dsimp only at hSw); go_simp; (first | done | with_reducible rfl))
  try simp only [Act.put, List.getElem_toArray, List.getElem_cons_zero, List.getElem_cons_succ, List.setIfInBounds_toArray, List.set_cons_zero, List.set_cons_succ]
  refine wpAnyH_ready (rs := [10]) (by kernel_rfl) (by simp) ?_
  refine AllReadyH.cons rfl (fun KK hK => ?_) AllReadyH.nil
  rw [if_pos (by rfl)]
  go_simp
  go_at_call 24
  have hlo := lof_any key vs.length Y hk (by omega)
  rw [HOF.out] at hlo
  refine hlo.mono ?_
  clear hlo
  rintro e w2 ⟨rfl, rfl⟩
  go_simp
  refine hK.out _ _ (HS.out _ hbY) (fun hHeld => ?_)
  clear hK KK
  try simp only [Act.put, List.getElem_toArray, List.getElem_cons_zero, List.getElem_cons_succ, List.setIfInBounds_toArray, List.set_cons_zero, List.set_cons_succ]
  refine wpAnyH_take (i := 11) (v := ?v14) rfl (by kernel_rfl) (by kernel_rfl) (by kernel_rfl) (fun _ _ _ h => h) (Or.inl ⟨by rfl, ?hy14⟩) (by assumption) ?rest14
  case hy14 => (intro wy hSw; (try dsimp only at hSw); go_simp; (first | done | with_reducible rfl))
  try simp only [Act.put, List.getElem_toArray, List.getElem_cons_zero, List.getElem_cons_succ, List.setIfInBounds_toArray, List.set_cons_zero, List.set_cons_succ]
  refine wpAnyH_take (i := 12) (v := ?v15) rfl (by kernel_rfl) (by kernel_rfl) (by kernel_rfl) (fun _ _ _ h => h) (Or.inl ⟨by rfl, ?hy15⟩) (by assumption) ?rest15
  case hy15 => (intro wy hSw; (try dsimp only at hSw); go_simp; (first | done | with_reducible rfl))
  try simp only [Act.put, List.getElem_toArray, List.getElem_cons_zero, List.getElem_cons_succ, List.setIfInBounds_toArray, List.set_cons_zero, List.set_cons_succ]
  refine wpAnyH_ready (rs := [16]) (by kernel_rfl) (by simp) ?_
  refine AllReadyH.cons rfl (fun KK hK => ?_) AllReadyH.nil
  rw [if_pos (by rfl)]
  go_simp
  refine HCALL.out.mono ?_
  rintro e w1 ⟨rfl, G1, hd1, hn1⟩
  have hob := HDY.out.fam.ob i hil
  have HST := keepG (HDY.out.step hil (s' := s') (G := G1) hd1 hn1)
  have Hr1 := keepG (HrY.out.chg hn1.chg (hob.other HrY.out (by decide) (by decide) (by decide) (by decide)))
  have y0 : w1.cell? ⟨m, 2, none⟩ = some (.slice (some ⟨g, 0, none⟩) vs.length cc) := HST.out.1.hp.cell (j := 2) rfl
  have y1 : w1.cell? ⟨g, i, none⟩ = some (.iface t u) := by
    obtain ⟨g', c', ev, _, _, _, _, hat'⟩ := own_atG ifC_len .nilIface HST.out.1.row (by omega)
    simp only [Value.slice.injEq, Option.some.injEq, Addr.mk.injEq, true_and, and_true] at ev
    obtain ⟨rfl, rfl⟩ := ev
    have := (hat' i hil 0 (by omega)).1
    simp only [List.getElem?_cons_zero, Nat.add_zero, Nat.mul_one] at this
    rw [HEV.out] at this
    exact this
  have x0 := Hr1.out.cell (j := 0) rfl
  have f0 := Hr1.out.frozen 0
  have x1 := Hr1.out.cell (j := 1) rfl
  have f1 := Hr1.out.frozen 1
  have x2 := Hr1.out.cell (j := 2) rfl
  have f2 := Hr1.out.frozen 2
  have x3 := Hr1.out.cell (j := 3) rfl
  have f3 := Hr1.out.frozen 3
  have x4 := Hr1.out.cell (j := 4) rfl
  have f4 := Hr1.out.frozen 4
  have x5 := Hr1.out.cell (j := 5) rfl
  have f5 := Hr1.out.frozen 5
  clear hd1 hn1 hob
  go_simp
  refine hK.out _ _ ⟨y0, y1⟩ (fun hHeld => ?_)
  clear hK KK
  try simp only [Act.put, List.getElem_toArray, List.getElem_cons_zero, List.getElem_cons_succ, List.setIfInBounds_toArray, List.set_cons_zero, List.set_cons_succ]
  refine wpAnyH_ready (rs := [17]) (by kernel_rfl) (by simp) ?_
  refine AllReadyH.cons rfl (fun KK hK => ?_) AllReadyH.nil
  rw [if_pos (by rfl)]
  go_simp
  refine hK.out _ _ (by go_keep) (fun hHeld => ?_)
  clear hK KK
  try simp only [Act.put, List.getElem_toArray, List.getElem_cons_zero, List.getElem_cons_succ, List.setIfInBounds_toArray, List.set_cons_zero, List.set_cons_succ]
  refine wpAnyH_done (by kernel_rfl) ?_ _
  go_wp2
  exact res_endL (fun w' F' => Lmo w' B m n cap κ k (st.set i s') F') (fun h hc ha => h.keeps hc ha) hbY hzY hlies Hr1.out rfl ⟨_, vs, _, HST.out.1, HLen.out, rfl⟩ HST.out.2 rfl
end
end Go.Proofs.Ytinoelooccmmnaa
