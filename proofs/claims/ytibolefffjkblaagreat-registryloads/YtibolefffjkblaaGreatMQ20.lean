/-
  KH19DA
  KH19DB
  KH19DC
  KH19DD
  KH19LA
  KH19LB
  KH19LC
  KH19LE
-/
import Derived.Test.YtibolefffjkblaaGreatMQ0
import Derived.Test.YtibolefffjkblaaGreatMQ16
import Derived.Test.YtibolefffjkblaaGreatMQ18
import Derived.Deep.RegionHeld3
import Derived.Deep.RegionHeldLaw
namespace Go.Proofs.YtibolefffjkblaaGreat
open Go.RowKit
set_option linter.unusedVariables false
set_option linter.unusedSimpArgs false
set_option maxRecDepth 100000
structure S3 where
 h : Int
 p : Int
 v : Int
section
variable {w w' : World} {B b : Nat} {v : Value} {t : Tb} {ss : List S3}
end
theorem wp_append_at19 {P : Program} (w : World) {o : Oper} {a : Act} {K : Act -> World -> Prop} {Q : Exit -> Act -> World -> Prop} (s x : Operand) (t : TypeId)
  (ho : o.op = .call { callee := .builtin .append, args := #[s, x], argTypes := #[t, t] })
  (base : Nat) (e : TypeId) (i : TypeInfo) (z : Value) (size bytes : Nat) (ht : P.underlying t = some (.slice e)) (hi : P.info? e = some i) (hz : i.zero = some z)
  (hsize : i.size = size) (hby : i.bytes = bytes) (hzs : z.cells.size = size) (hsz : 0 < size)
  (v : Value) (n : Nat) (xs : List Value) (hs : a.eval s = v) (hown : w.ownsRow base e size v n xs)
  (ad : Addr) (m c : Nat) (news : List Value) (hx : a.eval x = .slice (some ad) m c) (hl : news.length = m * size) (hnews : ∀ j u, news[j]? = some u -> w.cell? (ad.add j) = some u) (h1 : ∀ u ∈ news, u.oneCell' = true)
  (h63 : n + m <= maxLen) (hbytes : (n + m) * bytes <= 140737488355328) (hbase : base <= w.heap.size)
  (h : ∀ v' w', w'.ownsRow base e size v' (n + m) (xs ++ news) -> w.grownBy w' v.ownBlock -> (v'.ownBlock = v.ownBlock ∨ v'.ownBlock = some w.heap.size) -> K (a.put o.dst v') w') : Oper.wp P o a w K Q := by
 obtain ⟨v', w', hr, h2, h3, h4, h5⟩ := run_append_own_at (P := P) w base t o.type e i z size bytes ht hi hz hsize hby hzs hsz v n xs hown ad m c news hl hnews h1 h63 hbytes hbase
 unfold Oper.wp execOp
 simp only [ho, resolve, invoke, builtin, Sem.run_bind, Sem.run_pure, Result.andThen_ok, List.map_toArray, List.map_cons, List.map_nil, hs, hx, hr]
 exact h v' w' h2 h3 h5
section
variable {w w' : World} {B b m : Nat} {F G : Ft} {t : Tb}
end
section
variable {w w' : World} {B b m : Nat} {F G : Ft} {c : Tb}
end
section
variable {w w' : World} {B b m : Nat} {F G : Ft} {t : Tb}
end
abbrev psC (s : Sl) : List Value := [.int .i64 s.v, .int .i64 s.p]
theorem psC_len (s : Sl) : (psC s).length = 2 := rfl
structure Lp_g (w : World) (b g : Nat) (t : Tb) : Prop where
 hp : Hp w b 76 [.int .i64 t.last, .slice (some ⟨g, 0, none⟩) t.at'.length t.at'.length]
 row : Hp w g 139 (flatG psC t.at')
def ftH (b g : Nat) : Ft := fun k => k = b ∨ k = g
section
variable {w w' : World} {b g : Nat} {t : Tb}
theorem Lp_g.chg {S : Nat -> Prop} (h : Lp_g w b g t) (hc : Chg w w' S) (ha : Apt S (ftH b g)) : Lp_g w' b g t := ⟨h.hp.chg hc (fun e => ha b e (.inl rfl)), h.row.chg hc (fun e => ha g e (.inr rfl))⟩
theorem Lp_g.apart (h : Lp_g w b g t) : b ≠ g := hp_type h.hp h.row (by decide)
theorem Lp_g.lies (h : Lp_g w b g t) : Lies w (ftH b g) := fun k hk => by rcases hk with e | e <;> rw [e]; exact h.hp.lt; exact h.row.lt
theorem Lp_g.low (h : Lp_g w b g t) : w.cell? ⟨b, 0, none⟩ = some (.int .i64 t.last) /\ w.cell? ⟨b, 1, none⟩ = some (.slice (some ⟨g, 0, none⟩) t.at'.length t.at'.length) := ⟨h.hp.cell rfl, h.hp.cell rfl⟩
theorem Lp_g.at (h : Lp_g w b g t) {k : Nat} (hk : k < t.at'.length) : w.cell? ⟨g, k * 2, none⟩ = some (.int .i64 (t.slot k).v) /\ w.cell? ⟨g, k * 2 + 1, none⟩ = some (.int .i64 (t.slot k).p) := by
 rw [Tb.slot_nat]
 exact ⟨h.row.cell (flatG_at psC_len Sl.nil t.at' (j := 0) hk (by decide)), h.row.cell (flatG_at psC_len Sl.nil t.at' (j := 1) hk (by decide))⟩
theorem Lp_g.put (h : Lp_g w b g t) {k : Nat} (hk : k < t.at'.length) (y : Sl) : Lp_g ((w.setCell ⟨g, k * 2, none⟩ (.int .i64 y.v)).setCell ⟨g, k * 2 + 1, none⟩ (.int .i64 y.p)) b g ⟨t.last, t.at'.set k y⟩ := by
 refine ⟨?_, ?_⟩
 ·have := (h.hp.far (i := k * 2) (v := .int .i64 y.v) h.apart).far (i := k * 2 + 1) (v := .int .i64 y.p) h.apart
  simp only [List.length_set]
  exact this
 ·have h1 := (h.row.set (k * 2) (.int .i64 y.v)).set (k * 2 + 1) (.int .i64 y.p)
  have e1 := flatG_set psC_len Sl.nil t.at' (k := k) (j := 0) (x := ⟨y.v, (t.at'.getD k Sl.nil).p⟩) (v := .int .i64 y.v) hk (by decide) rfl
  have e2 := flatG_set psC_len Sl.nil (t.at'.set k ⟨y.v, (t.at'.getD k Sl.nil).p⟩) (k := k) (j := 1) (x := y) (v := .int .i64 y.p) (by simpa using hk) (by decide) (by simp [List.getD, hk])
  rw [Nat.add_zero] at e1
  rw [e1, e2, List.set_set] at h1
  exact h1
theorem Lp_g.number (h : Lp_g w b g t) (la : Int) : Lp_g (w.setCell ⟨b, 0, none⟩ (.int .i64 la)) b g ⟨la, t.at'⟩ := ⟨h.hp.set 0 _, h.row.far (fun e => h.apart e.symm)⟩
theorem infoPost : (Tryz.prog.info? 139).map (fun i => (i.zero, i.size, i.bytes)) = some (some (.agg #[.int .i64 0, .int .i64 0]), 2, 16) := by kernel_rfl
theorem run_makeH (n : Nat) (hn : n <= 4) (w : World) : (Instr.makeSlice 74 (.int .i64 n) (.int .i64 n)).run Tryz.prog w = .ok (.slice (some ⟨w.heap.size, 0, none⟩) n n) (w.alloc (.cells (flatG psC (List.replicate n Sl.nil)).toArray 139)) := by
 obtain ⟨i, h1, h2, h3, h4⟩ := info_parts infoPost
 have := run_make (P := Tryz.prog) w 74 139 i _ Tryz.underlying74 h1 h2 .i64 .i64 n n (by omega) (Int.le_refl _) (by rw [h4]; omega) (by omega)
 rw [h3] at this
 have e0 : madeCells (Value.agg #[.int .i64 0, .int .i64 0]).cells (Int.toNat 0 * 2) = (flatG psC (List.replicate 0 Sl.nil)).toArray := by kernel_rfl
 have e1 : madeCells (Value.agg #[.int .i64 0, .int .i64 0]).cells (Int.toNat 1 * 2) = (flatG psC (List.replicate 1 Sl.nil)).toArray := by kernel_rfl
 have e2 : madeCells (Value.agg #[.int .i64 0, .int .i64 0]).cells (Int.toNat 2 * 2) = (flatG psC (List.replicate 2 Sl.nil)).toArray := by kernel_rfl
 have e3 : madeCells (Value.agg #[.int .i64 0, .int .i64 0]).cells (Int.toNat 3 * 2) = (flatG psC (List.replicate 3 Sl.nil)).toArray := by kernel_rfl
 have e4 : madeCells (Value.agg #[.int .i64 0, .int .i64 0]).cells (Int.toNat 4 * 2) = (flatG psC (List.replicate 4 Sl.nil)).toArray := by kernel_rfl
 have h5 : n = 0 ∨ n = 1 ∨ n = 2 ∨ n = 3 ∨ n = 4 := by omega
 have e : madeCells (Value.agg #[.int .i64 0, .int .i64 0]).cells (Int.toNat n * 2) = (flatG psC (List.replicate n Sl.nil)).toArray := by
  rcases h5 with rfl | rfl | rfl | rfl | rfl
  ·exact e0
  ·exact e1
  ·exact e2
  ·exact e3
  ·exact e4
 rw [e] at this
 exact this
theorem lhnew_ok (n : Nat) (h1 : 1 <= n) (h2 : n <= 4) (w : World) : Calls Tryz.prog 30 #[.int .i64 n] w fun e w' => e = .returned (.tuple #[.pointer (some ⟨w.heap.size + 1, 0, none⟩), .int .i64 0]) /\ Lp_g w' (w.heap.size + 1) w.heap.size (Tb.new n) /\ Since w (ftH (w.heap.size + 1) w.heap.size) /\ Below w.heap.size w w' := by
 have h1I : ¬ (n : Int) < 1 := by omega
 have h2I : ¬ (4 : Int) < n := by omega
 have hmk := run_makeH n h2 w
 obtain ⟨W1, HW1, HP1, HB1, HZ1⟩ : ∃ W1, Hid (w.alloc (.cells (flatG psC (List.replicate n Sl.nil)).toArray 139) = W1) /\ Hid (Hp W1 w.heap.size 139 (flatG psC (List.replicate n Sl.nil))) /\ Below w.heap.size w W1 /\ Hid (W1.heap.size = w.heap.size + 1) := ⟨_, rfl, Hp.new w _ _, below_allocG _ _, by show _ = _; simp⟩
 rw [HW1.out] at hmk
 go_enter Tryz.func30, Tryz.ntmps30
 go_wp2
 go_ret2
 refine ⟨by simp only [HZ1.out]; rfl, ⟨by have := Hp.new W1 [.int .i64 0, .slice (some ⟨w.heap.size, 0, none⟩) n n] 76; rw [HZ1.out] at this; simp only [Tb.new, List.length_replicate]; exact this, HP1.out.alloc _⟩, fun k hk => ?_, HB1.alloc HB1.size _⟩
 rcases hk with e | e <;> omega
theorem lhnew_no (n : Int) (h : n < 1 ∨ 4 < n) (w : World) : Calls Tryz.prog 30 #[.int .i64 n] w fun e w' => e = .returned (.tuple #[.pointer none, .int .i64 2]) /\ w = w' := by
 rcases h with h | h
 ·go_enter Tryz.func30, Tryz.ntmps30
  go_wp2
  go_ret2
  exact ⟨rfl, rfl⟩
 ·have h1 : ¬ n < 1 := by omega
  go_enter Tryz.func30, Tryz.ntmps30
  go_wp2
  go_ret2
  exact ⟨rfl, rfl⟩
theorem lhhas (h : Lp_g w b g t) (x : Int) {r : Bool} (HR : Hid (t.has x = r)) : Calls Tryz.prog 82 #[.pointer (some ⟨b, 0, none⟩), .int .i64 x] w fun e w' => e = .returned (.bool r) /\ w = w' := by
 obtain ⟨c0, c1⟩ := h.low
 have hr := HR.out
 clear h
 by_cases h0 : 0 <= x
 ·have h0d : decide (0 <= x) = true := by simpa using h0
  have : r = decide (x < t.at'.length) := by rw [<- hr]; simp [Tb.has, h0]
  subst this
  clear HR hr
  go_enter Tryz.func82, Tryz.ntmps82
  go_wp2
  go_ret
  exact ⟨rfl, rfl⟩
 ·have h0d : decide (0 <= x) = false := by simpa using h0
  have : r = false := by rw [<- hr]; simp [Tb.has, h0]
  subst this
  clear HR hr
  go_enter Tryz.func82, Tryz.ntmps82
  go_wp2
  go_ret
  exact ⟨rfl, rfl⟩
theorem lhtaken (h : Lp_g w b g t) {k : Nat} (hk : k < t.at'.length) {r : Bool} (HR : Hid (t.taken k = r)) : Calls Tryz.prog 78 #[.pointer (some ⟨b, 0, none⟩), .int .i64 k] w fun e w' => e = .returned (.bool r) /\ w = w' := by
 obtain ⟨c0, c1⟩ := h.low
 obtain ⟨d0, d1⟩ := h.at hk
 have hkI : (k : Int) < t.at'.length := by omega
 have hr := HR.out
 unfold Tb.taken at hr
 generalize (t.slot k).v = y at *
 clear h HR d1
 subst hr
 go_enter Tryz.func78, Tryz.ntmps78
 go_wp2
 go_ret
 exact ⟨rfl, rfl⟩
theorem lhfresh (h : Lp_g w b g t) (h0 : 0 <= t.last) (hl : t.last <= 1000000000000000) : Calls Tryz.prog 112 #[.pointer (some ⟨b, 0, none⟩)] w fun e w' => e = .returned (.int .i64 (t.last + 1)) /\ Lp_g w' b g t.fresh /\ Chg w w' (ftH b g) := by
 obtain ⟨c0, c1⟩ := h.low
 have f0 := h.hp.frozen 0
 have hw1 : IntKind.i64.wrap (t.last + 1) = t.last + 1 := by rw [IntKind.wrap_i64]; omega
 have HE := keepG (h.number (t.last + 1))
 clear h
 obtain ⟨nw, ins⟩ := t
 simp only at *
 go_enter Tryz.func112, Tryz.ntmps112
 go_wp2
 go_ret
 exact ⟨rfl, HE.out, (Chg.set w b 0 _).mono (fun k e => .inl e)⟩
set_option maxHeartbeats 1600000 in
theorem lhpublish (h : Lp_g w b g t) (h0 : 0 <= t.last) (hl : t.last <= 1000000000000000) {k : Nat} (hk : k < t.at'.length) (p : Int) : Calls Tryz.prog 89 #[.pointer (some ⟨b, 0, none⟩), .int .i64 k, .int .i64 p] w fun e w' => e = .returned (.int .i64 (t.last + 1)) /\ Lp_g w' b g (t.pub k p) /\ Chg w w' (ftH b g) := by
 have HE := keepG h
 have HF := keepG (lhfresh h h0 hl)
 have hkI : (k : Int) < t.at'.length := by omega
 clear h
 go_enter Tryz.func89, Tryz.ntmps89
 go_wp2_with (go_at_call 112; go_must (refine HF.out.mono ?_); rintro e w1 ⟨rfl, g1, g2⟩; go_must (have HE1 := keepG g1; have HC1 := keepG g2; obtain ⟨c0, c1⟩ := g1.low; obtain ⟨d0, d1⟩ := g1.at (k := k) hk; have f0 := g1.row.frozen (k * 2); have f1 := g1.row.frozen (k * 2 + 1); simp only [Tb.fresh] at c0 c1; generalize ((t.fresh).slot k).v = y0 at d0; generalize ((t.fresh).slot k).p = y1 at d1; clear g1 g2))
 go_ret
 refine ⟨rfl, ?_, ?_⟩
 ·exact HE1.out.put hk ⟨t.last + 1, p⟩
 ·exact (HC1.out.trans (Chg.set _ g (k * 2) _) (fun _ _ e => .inr e)).trans (Chg.set _ g (k * 2 + 1) _) (fun _ _ e => .inr e)
end
section
variable {w w' : World} {b g : Nat} {t : Tb}
set_option maxHeartbeats 3200000 in
theorem lhattach (h : Lp_g w b g t) (hk : t.Ok) (hl : t.last <= 1000000000000000) (x p : Int) {v E : Int} {t' : Tb} (HQ : Hid (t.put false x p = (v, E, t'))) : Calls Tryz.prog 60 #[.pointer (some ⟨b, 0, none⟩), .int .i64 x, .int .i64 p] w fun e w' => e = .returned (.tuple #[.int .i64 v, .int .i64 E]) /\ Lp_g w' b g t' /\ Chg w w' (ftH b g) := by
 have HE := keepG h
 have hq := HQ.out
 unfold Tb.put at hq
 cases hh : t.has x with
 | false =>
  rw [if_pos hh] at hq
  injection hq with e1 hq
  injection hq with e2 e3
  subst e1 e2 e3
  have HH := keepG hh
  clear h hh HQ
  go_enter Tryz.func60, Tryz.ntmps60
  go_wp2_with (go_at_call 82; go_must (refine (lhhas HE.out x HH).mono ?_); rintro e w1 ⟨rfl, rfl⟩)
  go_ret2
  exact ⟨rfl, HE.out, Chg.refl _ _⟩
 | true =>
  rw [if_neg (by rw [hh]; decide)] at hq
  obtain ⟨k, rfl, hk2⟩ := Tb.has_nat hh
  have HH := keepG hh
  have HP := keepG (lhpublish h hk.last hl hk2 p)
  cases hn : t.taken k with
  | false =>
   rw [if_pos hn] at hq
   injection hq with e1 hq
   injection hq with e2 e3
   subst e1 e2 e3
   have HN := keepG hn
   clear h hh HQ hn
   go_enter Tryz.func60, Tryz.ntmps60
   go_wp2_with (first | (go_at_call 82; go_must (refine (lhhas HE.out _ HH).mono ?_); rintro e w1 ⟨rfl, rfl⟩) | (go_at_call 78; go_must (refine (lhtaken HE.out hk2 HN).mono ?_); rintro e w1 ⟨rfl, rfl⟩) | (go_at_call 89; go_must (refine HP.out.mono ?_); rintro e w1 ⟨rfl, g1, g2⟩; go_must (have HE1 := keepG g1; have HC1 := keepG g2; clear g1 g2)))
   go_ret2
   exact ⟨rfl, HE1.out, HC1.out⟩
  | true =>
   rw [if_neg (by rw [hn]; decide)] at hq
   injection hq with e1 hq
   injection hq with e2 e3
   subst e1 e2 e3
   have HN := keepG hn
   clear h hh HQ hn HP
   go_enter Tryz.func60, Tryz.ntmps60
   go_wp2_with (first | (go_at_call 82; go_must (refine (lhhas HE.out _ HH).mono ?_); rintro e w1 ⟨rfl, rfl⟩) | (go_at_call 78; go_must (refine (lhtaken HE.out hk2 HN).mono ?_); rintro e w1 ⟨rfl, rfl⟩))
   go_ret2
   exact ⟨rfl, HE.out, Chg.refl _ _⟩
end
section
variable {w w' : World} {b g : Nat} {t : Tb}
end
def Lt (w : World) (B b : Nat) (F : Ft) (t : Tb) : Prop := ∃ g, F = ftH b g /\ Lp_g w b g t
theorem Lt.lies {w : World} {B b : Nat} {F : Ft} {t : Tb} (h : Lt w B b F t) : Lies w F := by
 obtain ⟨g, rfl, h1⟩ := h
 exact h1.lies
theorem Lt.keeps {w w' : World} {B b : Nat} {F G : Ft} {t : Tb} (h : Lt w B b F t) (hc : Chg w w' G) (ha : Apt G F) : Lt w' B b F t := by
 obtain ⟨g, rfl, h1⟩ := h
 exact ⟨g, rfl, h1.chg hc ha⟩
theorem ltnew_ok (n : Nat) (h1 : 1 <= n) (h : n <= 4) (w : World) : Calls Tryz.prog 30 #[.int .i64 n] w fun e w' => ∃ b F, e = .returned (.tuple #[.pointer (some ⟨b, 0, none⟩), .int .i64 0]) /\ Lt w' w.heap.size b F (Tb.new n) /\ Since w F /\ Below w.heap.size w w' := by
 refine (lhnew_ok n h1 h w).mono ?_
 rintro e w' ⟨rfl, g1, g2, g3⟩
 exact ⟨_, _, rfl, ⟨_, rfl, g1⟩, g2, g3⟩
theorem ltnew_no (n : Int) (h : n < 1 ∨ 4 < n) (w : World) : Calls Tryz.prog 30 #[.int .i64 n] w fun e w' => e = .returned (.tuple #[.pointer none, .int .i64 2]) /\ w = w' := lhnew_no n h w
theorem Lt.attach {w : World} {B b : Nat} {F : Ft} {t t' : Tb} (h : Lt w B b F t) (hk : t.Ok) (hB : B <= w.heap.size) (hla : t.last <= 1000000000000000) (x p : Int) {v E : Int} (HQ : Hid (t.put false x p = (v, E, t'))) : Calls Tryz.prog 60 #[.pointer (some ⟨b, 0, none⟩), .int .i64 x, .int .i64 p] w fun e w' => e = .returned (.tuple #[.int .i64 v, .int .i64 E]) /\ ∃ F', Lt w' B b F' t' /\ Nx w w' F F' := by
 obtain ⟨g, rfl, h1⟩ := h
 refine (lhattach h1 hk hla x p HQ).mono ?_
 rintro e w' ⟨rfl, g1, g2⟩
 exact ⟨rfl, _, ⟨g, rfl, g1⟩, g2, fun k e => .inl e⟩
end Go.Proofs.YtibolefffjkblaaGreat
