
/-
  The landed LRU of layer 14: Do, where nothing is driven out. Condition: it lies where the pointer says, its rows are the call's own; at most 16 keys.
-/
import Derived.Test.YtpbfgebecgikjaaL14LC
import Derived.Test.YtpbfgebecgikjaaGObj
namespace Go.Proofs.Ytpbfgebecgikjaa
open Go.RowKit
set_option linter.unusedVariables false
set_option linter.unusedSimpArgs false
set_option maxRecDepth 100000

section
variable {w : World} {B l b cap : Nat} {v vr : Value} {S : List Pp} {R : List Int}
theorem ldo_as {v : Value} {L L' : List Pp} {op key val E x : Int} {f : Bool} (HQ : Hid (doS cap L op key val = (⟨E, f, x⟩, L'))) (h : Lb w B b cap v L) (hl : L.length ≤ cap) (hc16 : cap ≤ 16) (hB : B ≤ w.heap.size) :
    Calls Try.prog 59 #[.pointer (some ⟨b, 0, none⟩), .int .i64 op, .int .u64 key, .int .u64 val] w fun e w' => e = .returned (resG E f x false 0 0) ∧ LbNext w B b cap v L' w' := by
  have := ldo_any op key val h hl hc16 hB
  rw [HQ.out] at this
  exact this
/-- The LRU in the midst of an operation: two boxes besides. -/
structure Mid (w : World) (B l b cap : Nat) (v vr : Value) (wi : World) (n9 : Nat) (cs : List Value) (v' vr' : Value) (S' : List Pp) (R' : List Int) : Prop where
  ll : Ll wi B l b cap v' vr' S' R'
  nx : Nx w wi (footL l b v vr) (footL l b v' vr')
  b8 : Hp wi w.heap.size 47 (resCG 0 false 0 false 0 0)
  b9 : Hp wi n9 47 cs
  gt : w.heap.size < n9
section
variable {wi wj : World} {n9 : Nat} {cs : List Value} {v' vr' : Value} {S' S'' : List Pp} {R' : List Int}
theorem Mid.below (h : Mid w B l b cap v vr wi n9 cs v' vr' S' R') (hb : Below wi.heap.size wi wj) : Mid w B l b cap v vr wj n9 cs v' vr' S' R' :=
  ⟨h.ll.below hb, h.nx.trans (Nx.below hb), h.b8.below hb h.b8.lt, h.b9.below hb h.b9.lt, h.gt⟩
theorem Mid.book (h : Mid w B l b cap v vr wi n9 cs v' vr' S' R') (hn : LbNext wi B b cap v' S'' wj) : ∃ v'', Mid w B l b cap v vr wj n9 cs v'' vr' S'' R' := by
  obtain ⟨v'', q1, q2, q3⟩ := h.ll.book hn
  have far : ∀ n cs, Hp wi n 47 cs → Hp wj n 47 cs := fun n cs hp => hp.chg q2 (fun e => by
    rcases e with e | e
    · exact hp_type hp h.ll.bk.hp (by decide) e
    · exact own_type10 h.ll.bk.row hp (by decide) e)
  refine ⟨v'', q1, h.nx.trans ⟨q2.mono (fun k e => .inr (.inl e)), fun k hk => ?_⟩, far _ _ h.b8, far _ _ h.b9, h.gt⟩
  rcases hk with e | (e | e) | e
  · exact .inl (.inl e)
  · exact .inl (.inr (.inl (.inl e)))
  · rcases q3 with g | ⟨j, g1, g2⟩
    · exact .inl (.inr (.inl (.inr (by rw [← g]; exact e))))
    · rw [g1] at e
      have := Option.some.inj e
      exact .inr (by omega)
  · exact .inl (.inr (.inr e))
/-- The order laid anew. -/
theorem Mid.recent (h : Mid w B l b cap v vr wi n9 cs v' vr' S' R') {C : Nat} {u : Value} {O : List Int} (ho : wi.ownsRow C 41 1 u O.length (flatG uC O)) (hC : w.heap.size ≤ C) (hB : B ≤ C) : Mid w B l b cap v vr (wi.setCell ⟨l, 1, none⟩ u) n9 cs v' u S' O := by
  have hc : Chg wi (wi.setCell ⟨l, 1, none⟩ u) (fun k => k = l) := Chg.set _ _ _ _
  have hll := h.ll
  refine ⟨⟨hll.hp.set 1 u, hll.bk.chg hc (fun e => hp_type hll.bk.hp hll.hp (by decide) e) (fun k hk e => by subst e; exact own_type10 hll.bk.row hll.hp (by decide) hk), own_lowG (own_chg ho hc (fun k hk e => by subst e; exact own_type10 ho hll.hp (by decide) hk)) hB⟩, ⟨h.nx.chg.trans hc (fun k hk e => .inl e), fun k hk => ?_⟩, h.b8.chg hc (fun e => hp_type h.b8 hll.hp (by decide) e), h.b9.chg hc (fun e => hp_type h.b9 hll.hp (by decide) e), h.gt⟩
  rcases hk with e | e | e
  · exact h.nx.new k (.inl e)
  · exact h.nx.new k (.inr (.inl e))
  · exact .inr (Nat.le_trans hC (ho.lt k e).1)
/-- The second box written. -/
theorem Mid.box (h : Mid w B l b cap v vr wi n9 cs v' vr' S' R') {cs' : List Value} (hc : wi.grownBy wj (some n9)) (hp : Hp wj n9 47 cs') (hn : w.heap.size ≤ n9) : Mid w B l b cap v vr wj n9 cs' v' vr' S' R' := by
  have hcc : Chg wi wj (fun k => k = n9) := Chg.of_grown hc rfl
  have hll := h.ll
  have hgt := h.gt
  refine ⟨hll.chg hcc (fun k hk e => ?_), ⟨h.nx.chg.trans hcc (fun k hk e => by omega), h.nx.new⟩, h.b8.chg hcc (fun e => by omega), hp, h.gt⟩
  subst e
  rcases hk with e | (e | e) | e
  · exact hp_type h.b9 hll.hp (by decide) e
  · exact hp_type h.b9 hll.bk.hp (by decide) e
  · exact own_type10 hll.bk.row h.b9 (by decide) e
  · exact own_type10 hll.rc h.b9 (by decide) e
/-- Behind the book's first answer. -/
theorem Mid.start (h : Ll w B l b cap v vr S R) {X w1 : World} (hbX : Below w.heap.size w X) (h8 : Hp X w.heap.size 47 (resCG 0 false 0 false 0 0)) (hn : LbNext X B b cap v S' w1) (cs : List Value) : ∃ v', Mid w B l b cap v vr (w1.alloc (.cells cs.toArray 47)) w1.heap.size cs v' vr S' R := by
  have hX := h.below hbX
  have h8l := h8.lt
  obtain ⟨v', q1, q2, q3⟩ := hX.book hn
  have h81 : Hp w1 w.heap.size 47 (resCG 0 false 0 false 0 0) := h8.chg q2 (fun e => by
    rcases e with e | e
    · exact hp_type h8 hX.bk.hp (by decide) e
    · exact own_type10 hX.bk.row h8 (by decide) e)
  have hb := below_allocG w1 (.cells cs.toArray 47)
  have hnx : Nx X w1 (footL l b v vr) (footL l b v' vr) := ⟨q2.mono (fun k e => .inr (.inl e)), fun k hk => by
    rcases hk with e | (e | e) | e
    · exact .inl (.inl e)
    · exact .inl (.inr (.inl (.inl e)))
    · rcases q3 with g | ⟨j, g1, g2⟩
      · exact .inl (.inr (.inl (.inr (by rw [← g]; exact e))))
      · rw [g1] at e
        have := Option.some.inj e
        exact .inr (by omega)
    · exact .inl (.inr (.inr e))⟩
  exact ⟨v', q1.below hb, ((Nx.below hbX).trans hnx).trans (Nx.below hb), h81.below hb h81.lt, Hp.new w1 cs _, Nat.lt_of_lt_of_le h8l q2.size⟩
/-- What an operation leaves. -/
def LlNext (w : World) (B l b cap : Nat) (v vr : Value) (S' : List Pp) (R' : List Int) (w' : World) : Prop := ∃ v' vr', Ll w' B l b cap v' vr' S' R' ∧ Nx w w' (footL l b v vr) (footL l b v' vr')
/-- The end of Do. -/
theorem Mid.fin (h : Mid w B l b cap v vr wi n9 cs v' vr' S' R') {E x k u : Int} {f o : Bool} {fn : Func} {tmps : Array Value} {pt : Tmp} (hr : fn.results = #[.cell pt 47] := by rfl) (hp : tmps.getD pt undef = .pointer (some ⟨w.heap.size, 0, none⟩) := by rfl) :
    bodyPost Try.prog fn (fun e w' => e = .returned (resG E f x o k u) ∧ LlNext w B l b cap v vr S' R' w') .ret ⟨tmps, []⟩ ((((((wi.setCell ⟨w.heap.size, 0, none⟩ (.int .i64 E)).setCell ⟨w.heap.size, 1, none⟩ (.bool f)).setCell ⟨w.heap.size, 2, none⟩ (.int .u64 x)).setCell ⟨w.heap.size, 3, none⟩ (.bool o)).setCell ⟨w.heap.size, 4, none⟩ (.int .u64 k)).setCell ⟨w.heap.size, 5, none⟩ (.int .u64 u)) := by
  obtain ⟨hs, hg⟩ := six_sets (E := E) (f := f) (v := x) (o := o) (k := k) (u := u) h.b8 rfl
  have hc := Chg.of_grown (S := fun k => k = w.heap.size) hg rfl
  have hll := h.ll
  refine res_ret hr hp hs ⟨rfl, v', vr', hll.chg hc (fun k hk e => ?_), h.nx.chg.trans hc (fun k hk e => by omega), h.nx.new⟩
  subst e
  rcases hk with e | (e | e) | e
  · exact hp_type h.b8 hll.hp (by decide) e
  · exact hp_type h.b8 hll.bk.hp (by decide) e
  · exact own_type10 hll.bk.row h.b8 (by decide) e
  · exact own_type10 hll.rc h.b8 (by decide) e
end
set_option maxHeartbeats 8000000 in
theorem lldo_keep {op key val E x : Int} {f : Bool} {S' : List Pp} {O : List Int} (HQ : Hid (doS cap S op key val = (⟨E, f, x⟩, S'))) (hE : (E == 40) = false) (HT : Hid ((if op = 0 then f else if op = 2 ∨ op = 4 then decide (E = 0) else false) = false)) (HO : Hid (ordO S' R = O)) (h : Ll w B l b cap v vr S R) (hl : S.length ≤ cap) (hl' : S'.length ≤ cap) (hc16 : cap ≤ 16) (hR : R.length ≤ 1000) (hOl : O.length ≤ 5000) (hB : B ≤ w.heap.size) :
    Calls Try.prog 72 #[.pointer (some ⟨l, 0, none⟩), .int .i64 op, .int .u64 key, .int .u64 val] w fun e w' => e = .returned (resG E f x false 0 0) ∧ LlNext w B l b cap v vr S' O w' := by
  obtain ⟨X, HX, HrX, hbX, hzX⟩ := boxRG w
  have HHX := keepG (h.below hbX)
  have HH := keepG h
  have l0 := h.hp.cell (j := 0) rfl
  have hblt := h.bk.hp.lt
  have hllt := h.hp.lt
  have hgw0 := h.bk.row.lt
  clear h
  go_enter Try.func72, Try.ntmps72
  go_wp2_with (first
    | (go_at_call 59; rw [HX.out]; go_must (refine (ldo_as HQ HHX.out.bk hl hc16 (by omega)).mono ?_); rintro e w1 ⟨rfl, hn1⟩; go_must (obtain ⟨v1, hD1⟩ := Mid.start HH.out hbX HrX.out hn1 (resCG E f x false 0 0); obtain ⟨Y, HY⟩ : ∃ Y, Hid (w1.alloc (.cells #[.int .i64 E, .bool f, .int .u64 x, .bool false, .int .u64 0, .int .u64 0] 47) = Y) := ⟨_, rfl⟩; have HD1 : Hid (Mid w B l b cap v vr Y w1.heap.size (resCG E f x false 0 0) v1 vr S' R) := by { rw [← HY.out]; exact hD1 }; clear hD1 hn1))
    | (go_at_call 74; rw [HY.out]; go_must (refine (llorder_any (O := O) HD1.out.ll (by omega) hR HO).mono ?_); rintro e w2 ⟨u2, rfl, ho2, hb2⟩; go_must (have HD2 := keepG (HD1.out.below hb2); have HD3 := keepG (HD2.out.recent ho2 (Nat.le_trans (Nat.le_refl _) HD1.out.nx.chg.size) (Nat.le_trans hB HD1.out.nx.chg.size)); obtain ⟨ua, uc, rfl⟩ := own_shape ho2; have HO3 := keepG HD3.out.ll.rc; have m1 := HD2.out.ll.hp.cell (j := 1) rfl; have mf1 := HD2.out.ll.hp.frozen 1; have x0 := HD2.out.b9.cell (j := 0) rfl; have xf0 := HD2.out.b9.frozen 0; have x1 := HD2.out.b9.cell (j := 1) rfl; have xf1 := HD2.out.b9.frozen 1; have x2 := HD2.out.b9.cell (j := 2) rfl; have xf2 := HD2.out.b9.frozen 2; have x3 := HD2.out.b9.cell (j := 3) rfl; have xf3 := HD2.out.b9.frozen 3; have x4 := HD2.out.b9.cell (j := 4) rfl; have xf4 := HD2.out.b9.frozen 4; have x5 := HD2.out.b9.cell (j := 5) rfl; have xf5 := HD2.out.b9.frozen 5; have ne1 : ¬ l = w1.heap.size := (by have := HD2.out.gt; omega); have ne2 : ¬ w1.heap.size = l := (by have := HD2.out.gt; omega); clear ho2 hb2))
    | (go_at_call 75; go_must (refine (ltouches_any op E f x false 0 0 HT).mono ?_); rintro e w4 ⟨rfl, hb4⟩; go_must (have HD4 := keepG (HD3.out.below hb4); have HO4 := keepG (own_below HO3.out hb4 (Nat.le_refl _)); clear hb4; clear x0 xf0 x1 xf1 x2 xf2 x3 xf3 x4 xf4 x5 xf5 m1 mf1; have m1 := HD4.out.ll.hp.cell (j := 1) rfl; have x0 := HD4.out.b9.cell (j := 0) rfl; have xf0 := HD4.out.b9.frozen 0; have x1 := HD4.out.b9.cell (j := 1) rfl; have xf1 := HD4.out.b9.frozen 1; have x2 := HD4.out.b9.cell (j := 2) rfl; have xf2 := HD4.out.b9.frozen 2; have x3 := HD4.out.b9.cell (j := 3) rfl; have xf3 := HD4.out.b9.frozen 3; have x4 := HD4.out.b9.cell (j := 4) rfl; have xf4 := HD4.out.b9.frozen 4; have x5 := HD4.out.b9.cell (j := 5) rfl; have xf5 := HD4.out.b9.frozen 5; have y0 := HD4.out.b8.cell (j := 0) rfl; have yf0 := HD4.out.b8.frozen 0; have y1 := HD4.out.b8.cell (j := 1) rfl; have yf1 := HD4.out.b8.frozen 1; have y2 := HD4.out.b8.cell (j := 2) rfl; have yf2 := HD4.out.b8.frozen 2; have y3 := HD4.out.b8.cell (j := 3) rfl; have yf3 := HD4.out.b8.frozen 3; have y4 := HD4.out.b8.cell (j := 4) rfl; have yf4 := HD4.out.b8.frozen 4; have y5 := HD4.out.b8.cell (j := 5) rfl; have yf5 := HD4.out.b8.frozen 5)))
  exact HD4.out.fin
set_option maxHeartbeats 8000000 in
theorem lldo_touch {op key val E x : Int} {f : Bool} {S' : List Pp} {O : List Int} {F : List Int} (HQ : Hid (doS cap S op key val = (⟨E, f, x⟩, S'))) (hE : (E == 40) = false) (HT : Hid ((if op = 0 then f else if op = 2 ∨ op = 4 then decide (E = 0) else false) = true)) (HO : Hid (ordO S' R = O)) (HF : Hid (key :: O.filter (fun k => decide (k ≠ key)) = F)) (h : Ll w B l b cap v vr S R) (hl : S.length ≤ cap) (hl' : S'.length ≤ cap) (hc16 : cap ≤ 16) (hR : R.length ≤ 1000) (hOl : O.length ≤ 5000) (hB : B ≤ w.heap.size) :
    Calls Try.prog 72 #[.pointer (some ⟨l, 0, none⟩), .int .i64 op, .int .u64 key, .int .u64 val] w fun e w' => e = .returned (resG E f x false 0 0) ∧ LlNext w B l b cap v vr S' F w' := by
  obtain ⟨X, HX, HrX, hbX, hzX⟩ := boxRG w
  have HHX := keepG (h.below hbX)
  have HH := keepG h
  have l0 := h.hp.cell (j := 0) rfl
  have hblt := h.bk.hp.lt
  have hllt := h.hp.lt
  have hgw0 := h.bk.row.lt
  clear h
  go_enter Try.func72, Try.ntmps72
  go_wp2_with (first
    | (go_at_call 59; rw [HX.out]; go_must (refine (ldo_as HQ HHX.out.bk hl hc16 (by omega)).mono ?_); rintro e w1 ⟨rfl, hn1⟩; go_must (obtain ⟨v1, hD1⟩ := Mid.start HH.out hbX HrX.out hn1 (resCG E f x false 0 0); obtain ⟨Y, HY⟩ : ∃ Y, Hid (w1.alloc (.cells #[.int .i64 E, .bool f, .int .u64 x, .bool false, .int .u64 0, .int .u64 0] 47) = Y) := ⟨_, rfl⟩; have HD1 : Hid (Mid w B l b cap v vr Y w1.heap.size (resCG E f x false 0 0) v1 vr S' R) := by { rw [← HY.out]; exact hD1 }; clear hD1 hn1))
    | (go_at_call 74; rw [HY.out]; go_must (refine (llorder_any (O := O) HD1.out.ll (by omega) hR HO).mono ?_); rintro e w2 ⟨u2, rfl, ho2, hb2⟩; go_must (have HD2 := keepG (HD1.out.below hb2); have HD3 := keepG (HD2.out.recent ho2 (Nat.le_trans (Nat.le_refl _) HD1.out.nx.chg.size) (Nat.le_trans hB HD1.out.nx.chg.size)); obtain ⟨ua, uc, rfl⟩ := own_shape ho2; have HO3 := keepG HD3.out.ll.rc; have m1 := HD2.out.ll.hp.cell (j := 1) rfl; have mf1 := HD2.out.ll.hp.frozen 1; have x0 := HD2.out.b9.cell (j := 0) rfl; have xf0 := HD2.out.b9.frozen 0; have x1 := HD2.out.b9.cell (j := 1) rfl; have xf1 := HD2.out.b9.frozen 1; have x2 := HD2.out.b9.cell (j := 2) rfl; have xf2 := HD2.out.b9.frozen 2; have x3 := HD2.out.b9.cell (j := 3) rfl; have xf3 := HD2.out.b9.frozen 3; have x4 := HD2.out.b9.cell (j := 4) rfl; have xf4 := HD2.out.b9.frozen 4; have x5 := HD2.out.b9.cell (j := 5) rfl; have xf5 := HD2.out.b9.frozen 5; have ne1 : ¬ l = w1.heap.size := (by have := HD2.out.gt; omega); have ne2 : ¬ w1.heap.size = l := (by have := HD2.out.gt; omega); clear ho2 hb2))
    | (go_at_call 75; go_must (refine (ltouches_any op E f x false 0 0 HT).mono ?_); rintro e w4 ⟨rfl, hb4⟩; go_must (have HD4 := keepG (HD3.out.below hb4); have HO4 := keepG (own_below HO3.out hb4 (Nat.le_refl _)); clear hb4; clear x0 xf0 x1 xf1 x2 xf2 x3 xf3 x4 xf4 x5 xf5 m1 mf1; have m1 := HD4.out.ll.hp.cell (j := 1) rfl; have x0 := HD4.out.b9.cell (j := 0) rfl; have xf0 := HD4.out.b9.frozen 0; have x1 := HD4.out.b9.cell (j := 1) rfl; have xf1 := HD4.out.b9.frozen 1; have x2 := HD4.out.b9.cell (j := 2) rfl; have xf2 := HD4.out.b9.frozen 2; have x3 := HD4.out.b9.cell (j := 3) rfl; have xf3 := HD4.out.b9.frozen 3; have x4 := HD4.out.b9.cell (j := 4) rfl; have xf4 := HD4.out.b9.frozen 4; have x5 := HD4.out.b9.cell (j := 5) rfl; have xf5 := HD4.out.b9.frozen 5; have y0 := HD4.out.b8.cell (j := 0) rfl; have yf0 := HD4.out.b8.frozen 0; have y1 := HD4.out.b8.cell (j := 1) rfl; have yf1 := HD4.out.b8.frozen 1; have y2 := HD4.out.b8.cell (j := 2) rfl; have yf2 := HD4.out.b8.frozen 2; have y3 := HD4.out.b8.cell (j := 3) rfl; have yf3 := HD4.out.b8.frozen 3; have y4 := HD4.out.b8.cell (j := 4) rfl; have yf4 := HD4.out.b8.frozen 4; have y5 := HD4.out.b8.cell (j := 5) rfl; have yf5 := HD4.out.b8.frozen 5))
    | (go_at_call 76; go_must (refine (lfront_any key (own_seesG uC_len 0 HO4.out) (by omega) HF).mono ?_); rintro e w5 ⟨u5, rfl, ho5, hb5⟩; go_must (have HD5 := keepG (HD4.out.below hb5); have HD6 := keepG (HD5.out.recent ho5 (Nat.le_trans (Nat.le_refl _) HD4.out.nx.chg.size) (Nat.le_trans hB HD4.out.nx.chg.size)); obtain ⟨ta, tc, rfl⟩ := own_shape ho5; clear x0 xf0 y0 yf0 x1 xf1 y1 yf1 x2 xf2 y2 yf2 x3 xf3 y3 yf3 x4 xf4 y4 yf4 x5 xf5 y5 yf5 m1; have m1 := HD5.out.ll.hp.cell (j := 1) rfl; have mf1 := HD5.out.ll.hp.frozen 1; have x0 := HD5.out.b9.cell (j := 0) rfl; have xf0 := HD5.out.b9.frozen 0; have x1 := HD5.out.b9.cell (j := 1) rfl; have xf1 := HD5.out.b9.frozen 1; have x2 := HD5.out.b9.cell (j := 2) rfl; have xf2 := HD5.out.b9.frozen 2; have x3 := HD5.out.b9.cell (j := 3) rfl; have xf3 := HD5.out.b9.frozen 3; have x4 := HD5.out.b9.cell (j := 4) rfl; have xf4 := HD5.out.b9.frozen 4; have x5 := HD5.out.b9.cell (j := 5) rfl; have xf5 := HD5.out.b9.frozen 5; have y0 := HD5.out.b8.cell (j := 0) rfl; have yf0 := HD5.out.b8.frozen 0; have y1 := HD5.out.b8.cell (j := 1) rfl; have yf1 := HD5.out.b8.frozen 1; have y2 := HD5.out.b8.cell (j := 2) rfl; have yf2 := HD5.out.b8.frozen 2; have y3 := HD5.out.b8.cell (j := 3) rfl; have yf3 := HD5.out.b8.frozen 3; have y4 := HD5.out.b8.cell (j := 4) rfl; have yf4 := HD5.out.b8.frozen 4; have y5 := HD5.out.b8.cell (j := 5) rfl; have yf5 := HD5.out.b8.frozen 5; have ne3 : ¬ l = w.heap.size := (by omega); have ne4 : ¬ w.heap.size = l := (by omega); clear ho5 hb5)))
  exact HD6.out.fin
end
end Go.Proofs.Ytpbfgebecgikjaa
