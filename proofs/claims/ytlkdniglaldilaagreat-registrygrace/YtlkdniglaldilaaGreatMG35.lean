/-
  KH19LA
  KH19LB
  KH19LC
  KH19LE
-/
import Derived.Test.YtlkdniglaldilaaGreatMG33
import Derived.Test.YtlkdniglaldilaaGreatMG0
namespace Go.Proofs.YtlkdniglaldilaaGreat
open Go.RowKit
set_option linter.unusedVariables false
set_option linter.unusedSimpArgs false
set_option maxRecDepth 100000
abbrev psC (s : Sl) : List Value := [.int .i64 s.v, .int .i64 s.p]
theorem psC_len (s : Sl) : (psC s).length = 2 := rfl
structure Lp_g (w : World) (b g : Nat) (t : Tb) : Prop where
 hp : Hp w b 89 [.int .i64 t.last, .slice (some ⟨g, 0, none⟩) t.at'.length t.at'.length]
 row : Hp w g 94 (flatG psC t.at')
def ftH (b g : Nat) : Ft := fun k => k = b ∨ k = g
section
variable {w w' : World} {b g : Nat} {t : Tb}
theorem Lp_g.below (h : Lp_g w b g t) (hb : Below w.heap.size w w') : Lp_g w' b g t := ⟨h.hp.below hb h.hp.lt, h.row.below hb h.row.lt⟩
theorem Lp_g.chg {S : Nat -> Prop} (h : Lp_g w b g t) (hc : Chg w w' S) (ha : Apt S (ftH b g)) : Lp_g w' b g t := ⟨h.hp.chg hc (fun e => ha b e (.inl rfl)), h.row.chg hc (fun e => ha g e (.inr rfl))⟩
theorem Lp_g.apart (h : Lp_g w b g t) : b ≠ g := hp_type h.hp h.row (by decide)
theorem Lp_g.lies (h : Lp_g w b g t) : Lies w (ftH b g) := fun k hk => by rcases hk with e | e <;> rw [e]; exact h.hp.lt; exact h.row.lt
theorem Lp_g.low (h : Lp_g w b g t) : w.cell? ⟨b, 0, none⟩ = some (.int .i64 t.last) /\ w.cell? ⟨b, 1, none⟩ = some (.slice (some ⟨g, 0, none⟩) t.at'.length t.at'.length) := ⟨h.hp.cell rfl, h.hp.cell rfl⟩
theorem Lp_g.at (h : Lp_g w b g t) {k : Nat} (hk : k < t.at'.length) : w.cell? ⟨g, k * 2, none⟩ = some (.int .i64 (t.slot k).v) /\ w.cell? ⟨g, k * 2 + 1, none⟩ = some (.int .i64 (t.slot k).p) := by
 rw [Tb.slot_nat]
 exact ⟨h.row.cell (flatG_at psC_len Sl.nil t.at' (j := 0) hk (by decide)), h.row.cell (flatG_at psC_len Sl.nil t.at' (j := 1) hk (by decide))⟩
theorem Lp_g.put (h : Lp_g w b g t) {k : Nat} (hk : k < t.at'.length) (y : Sl) : Lp_g ((w.setCell ⟨g, k * 2, none⟩ (.int .i64 y.v)).setCell ⟨g, k * 2 + 1, none⟩ (.int .i64 y.p)) b g ⟨t.last, t.at'.set k y⟩ := by
 refine ⟨?_, ?_⟩
 ·have := (h.hp.far (i := k * 2) (v := .int .i64 y.v) h.apart).far (i := k * 2 + 1) (v := .int .i64 y.p) h.apart
  simp only [List.length_set]
  exact this
 ·have h1 := (h.row.set (k * 2) (.int .i64 y.v)).set (k * 2 + 1) (.int .i64 y.p)
  have e1 := flatG_set psC_len Sl.nil t.at' (k := k) (j := 0) (x := ⟨y.v, (t.at'.getD k Sl.nil).p⟩) (v := .int .i64 y.v) hk (by decide) rfl
  have e2 := flatG_set psC_len Sl.nil (t.at'.set k ⟨y.v, (t.at'.getD k Sl.nil).p⟩) (k := k) (j := 1) (x := y) (v := .int .i64 y.p) (by simpa using hk) (by decide) (by simp [List.getD, hk])
  rw [Nat.add_zero] at e1
  rw [e1, e2, List.set_set] at h1
  exact h1
theorem Lp_g.number (h : Lp_g w b g t) (la : Int) : Lp_g (w.setCell ⟨b, 0, none⟩ (.int .i64 la)) b g ⟨la, t.at'⟩ := ⟨h.hp.set 0 _, h.row.far (fun e => h.apart e.symm)⟩
theorem infoPost : (Tryz.prog.info? 94).map (fun i => (i.zero, i.size, i.bytes)) = some (some (.agg #[.int .i64 0, .int .i64 0]), 2, 16) := by kernel_rfl
theorem run_makeH (n : Nat) (hn : n <= 4) (w : World) : (Instr.makeSlice 85 (.int .i64 n) (.int .i64 n)).run Tryz.prog w = .ok (.slice (some ⟨w.heap.size, 0, none⟩) n n) (w.alloc (.cells (flatG psC (List.replicate n Sl.nil)).toArray 94)) := by
 obtain ⟨i, h1, h2, h3, h4⟩ := info_parts infoPost
 have := run_make (P := Tryz.prog) w 85 94 i _ Tryz.underlying85 h1 h2 .i64 .i64 n n (by omega) (Int.le_refl _) (by rw [h4]; omega) (by omega)
 rw [h3] at this
 have e0 : madeCells (Value.agg #[.int .i64 0, .int .i64 0]).cells (Int.toNat 0 * 2) = (flatG psC (List.replicate 0 Sl.nil)).toArray := by kernel_rfl
 have e1 : madeCells (Value.agg #[.int .i64 0, .int .i64 0]).cells (Int.toNat 1 * 2) = (flatG psC (List.replicate 1 Sl.nil)).toArray := by kernel_rfl
 have e2 : madeCells (Value.agg #[.int .i64 0, .int .i64 0]).cells (Int.toNat 2 * 2) = (flatG psC (List.replicate 2 Sl.nil)).toArray := by kernel_rfl
 have e3 : madeCells (Value.agg #[.int .i64 0, .int .i64 0]).cells (Int.toNat 3 * 2) = (flatG psC (List.replicate 3 Sl.nil)).toArray := by kernel_rfl
 have e4 : madeCells (Value.agg #[.int .i64 0, .int .i64 0]).cells (Int.toNat 4 * 2) = (flatG psC (List.replicate 4 Sl.nil)).toArray := by kernel_rfl
 have h5 : n = 0 ∨ n = 1 ∨ n = 2 ∨ n = 3 ∨ n = 4 := by omega
 have e : madeCells (Value.agg #[.int .i64 0, .int .i64 0]).cells (Int.toNat n * 2) = (flatG psC (List.replicate n Sl.nil)).toArray := by
  rcases h5 with rfl | rfl | rfl | rfl | rfl
  ·exact e0
  ·exact e1
  ·exact e2
  ·exact e3
  ·exact e4
 rw [e] at this
 exact this
theorem lhnew_ok (n : Nat) (h1 : 1 <= n) (h2 : n <= 4) (w : World) : Calls Tryz.prog 19 #[.int .i64 n] w fun e w' => e = .returned (.tuple #[.pointer (some ⟨w.heap.size + 1, 0, none⟩), .int .i64 0]) /\ Lp_g w' (w.heap.size + 1) w.heap.size (Tb.new n) /\ Since w (ftH (w.heap.size + 1) w.heap.size) /\ Below w.heap.size w w' := by
 have h1I : ¬ (n : Int) < 1 := by omega
 have h2I : ¬ (4 : Int) < n := by omega
 have hmk := run_makeH n h2 w
 obtain ⟨W1, HW1, HP1, HB1, HZ1⟩ : ∃ W1, Hid (w.alloc (.cells (flatG psC (List.replicate n Sl.nil)).toArray 94) = W1) /\ Hid (Hp W1 w.heap.size 94 (flatG psC (List.replicate n Sl.nil))) /\ Below w.heap.size w W1 /\ Hid (W1.heap.size = w.heap.size + 1) := ⟨_, rfl, Hp.new w _ _, below_allocG _ _, by show _ = _; simp⟩
 rw [HW1.out] at hmk
 go_enter Tryz.func19, Tryz.ntmps19
 go_wp2
 go_ret2
 refine ⟨by simp only [HZ1.out]; rfl, ⟨by have := Hp.new W1 [.int .i64 0, .slice (some ⟨w.heap.size, 0, none⟩) n n] 89; rw [HZ1.out] at this; simp only [Tb.new, List.length_replicate]; exact this, HP1.out.alloc _⟩, fun k hk => ?_, HB1.alloc HB1.size _⟩
 rcases hk with e | e <;> omega
theorem lhhas (h : Lp_g w b g t) (x : Int) {r : Bool} (HR : Hid (t.has x = r)) : Calls Tryz.prog 51 #[.pointer (some ⟨b, 0, none⟩), .int .i64 x] w fun e w' => e = .returned (.bool r) /\ w = w' := by
 obtain ⟨c0, c1⟩ := h.low
 have hr := HR.out
 clear h
 by_cases h0 : 0 <= x
 ·have h0d : decide (0 <= x) = true := by simpa using h0
  have : r = decide (x < t.at'.length) := by rw [<- hr]; simp [Tb.has, h0]
  subst this
  clear HR hr
  go_enter Tryz.func51, Tryz.ntmps51
  go_wp2
  go_ret
  exact ⟨rfl, rfl⟩
 ·have h0d : decide (0 <= x) = false := by simpa using h0
  have : r = false := by rw [<- hr]; simp [Tb.has, h0]
  subst this
  clear HR hr
  go_enter Tryz.func51, Tryz.ntmps51
  go_wp2
  go_ret
  exact ⟨rfl, rfl⟩
theorem lhtaken (h : Lp_g w b g t) {k : Nat} (hk : k < t.at'.length) {r : Bool} (HR : Hid (t.taken k = r)) : Calls Tryz.prog 46 #[.pointer (some ⟨b, 0, none⟩), .int .i64 k] w fun e w' => e = .returned (.bool r) /\ w = w' := by
 obtain ⟨c0, c1⟩ := h.low
 obtain ⟨d0, d1⟩ := h.at hk
 have hkI : (k : Int) < t.at'.length := by omega
 have hr := HR.out
 unfold Tb.taken at hr
 generalize (t.slot k).v = y at *
 clear h HR d1
 subst hr
 go_enter Tryz.func46, Tryz.ntmps46
 go_wp2
 go_ret
 exact ⟨rfl, rfl⟩
theorem lhfresh (h : Lp_g w b g t) (h0 : 0 <= t.last) (hl : t.last <= 1000000000000000) : Calls Tryz.prog 58 #[.pointer (some ⟨b, 0, none⟩)] w fun e w' => e = .returned (.int .i64 (t.last + 1)) /\ Lp_g w' b g t.fresh /\ Chg w w' (ftH b g) := by
 obtain ⟨c0, c1⟩ := h.low
 have f0 := h.hp.frozen 0
 have hw1 : IntKind.i64.wrap (t.last + 1) = t.last + 1 := by rw [IntKind.wrap_i64]; omega
 have HE := keepG (h.number (t.last + 1))
 clear h
 obtain ⟨nw, ins⟩ := t
 simp only at *
 go_enter Tryz.func58, Tryz.ntmps58
 go_wp2
 go_ret
 exact ⟨rfl, HE.out, (Chg.set w b 0 _).mono (fun k e => .inl e)⟩
set_option maxHeartbeats 1600000 in
theorem lhpublish (h : Lp_g w b g t) (h0 : 0 <= t.last) (hl : t.last <= 1000000000000000) {k : Nat} (hk : k < t.at'.length) (p : Int) : Calls Tryz.prog 52 #[.pointer (some ⟨b, 0, none⟩), .int .i64 k, .int .i64 p] w fun e w' => e = .returned (.int .i64 (t.last + 1)) /\ Lp_g w' b g (t.pub k p) /\ Chg w w' (ftH b g) := by
 have HE := keepG h
 have HF := keepG (lhfresh h h0 hl)
 have hkI : (k : Int) < t.at'.length := by omega
 clear h
 go_enter Tryz.func52, Tryz.ntmps52
 go_wp2_with (go_at_call 58; go_must (refine HF.out.mono ?_); rintro e w1 ⟨rfl, g1, g2⟩; go_must (have HE1 := keepG g1; have HC1 := keepG g2; obtain ⟨c0, c1⟩ := g1.low; obtain ⟨d0, d1⟩ := g1.at (k := k) hk; have f0 := g1.row.frozen (k * 2); have f1 := g1.row.frozen (k * 2 + 1); simp only [Tb.fresh] at c0 c1; generalize ((t.fresh).slot k).v = y0 at d0; generalize ((t.fresh).slot k).p = y1 at d1; clear g1 g2))
 go_ret
 refine ⟨rfl, ?_, ?_⟩
 ·exact HE1.out.put hk ⟨t.last + 1, p⟩
 ·exact (HC1.out.trans (Chg.set _ g (k * 2) _) (fun _ _ e => .inr e)).trans (Chg.set _ g (k * 2 + 1) _) (fun _ _ e => .inr e)
end
def seenH (ws : List Int) : List Bool := [decide ((0 : Int) ∈ ws), decide ((1 : Int) ∈ ws), decide ((2 : Int) ∈ ws), decide ((3 : Int) ∈ ws)]
abbrev bCH (xs : List Bool) : List Value := xs.map Value.bool
theorem seenH_at (ws : List Int) {k : Nat} (hk : k < 4) : (bCH (seenH ws))[k]? = some (.bool (decide ((k : Int) ∈ ws))) := by
 have : k = 0 ∨ k = 1 ∨ k = 2 ∨ k = 3 := by omega
 rcases this with rfl | rfl | rfl | rfl <;> rfl
theorem seenH_more (ws : List Int) {k : Nat} (hk : k < 4) : (bCH (seenH ws)).set k (.bool true) = bCH (seenH (ws ++ [(k : Int)])) := by
 have : k = 0 ∨ k = 1 ∨ k = 2 ∨ k = 3 := by omega
 rcases this with rfl | rfl | rfl | rfl <;> simp [seenH, bCH]
section
variable {w w' : World} {b g : Nat} {t : Tb}
set_option maxHeartbeats 3200000 in
theorem lhonce (h : Lp_g w b g t) (hk : t.Ok) {v : Value} {ws : List Int} (hs : Sees .i64 w v ws) {r : Bool} (HR : Hid (t.once ws = r)) : Calls Tryz.prog 45 #[.pointer (some ⟨b, 0, none⟩), v] w fun e w' => e = .returned (.bool r) /\ Below w.heap.size w w' := by
 have HE := keepG h
 have hl4 := hk.len.2
 have HS := keepG hs
 obtain ⟨a, cap, rfl, hlc, hmx, _⟩ := hs
 unfold maxLen at hmx
 obtain ⟨W1, HW1, HP1, HB1⟩ : ∃ W1, Hid (w.alloc (.cells #[.bool false, .bool false, .bool false, .bool false] 100) = W1) /\ Hid (Hp W1 w.heap.size 100 (bCH (seenH []))) /\ Hid (Below w.heap.size w W1) := ⟨_, rfl, Hp.new w _ _, below_allocG _ _⟩
 clear h
 go_enter Tryz.func45, Tryz.ntmps45
 go_wp2_with (rw [HW1.out])
 go_loopw [10] (fun i wr => ∃ j : Nat, j <= ws.length /\ i = .int .i64 j /\ Hid (t.once (ws.take j) = true) /\ Hid (Hp wr w.heap.size 100 (bCH (seenH (ws.take j)))) /\ Hid (Below w.heap.size w wr)) (fun i _ => ws.length - (intOf i).toNat)
 case atStart => exact ⟨0, by omega, rfl, rfl, HP1.out, HB1.out⟩
 case round =>
  obtain ⟨j, hj, rfl, HA, HP, HB⟩ := hrel
  rename World => wr
  by_cases hlt : j < ws.length
  ·have hltI : (j : Int) < ws.length := by omega
   obtain ⟨a', c', ev, _, _, _, _, hcell⟩ := HS.out
   simp only [Value.slice.injEq, true_and] at ev
   obtain ⟨rfl, rfl⟩ := ev
   obtain ⟨p, off, rfl, hp, hat⟩ := hcell (fun e => by rw [e] at hlt; simp at hlt)
   have d0 := (HB.out.cell (p := ⟨p, off + j, none⟩) hp).trans (hat j hlt)
   clear hat hcell
   have ht := t.once_take hlt
   have hT := take_at ws j hlt
   obtain ⟨x, HX⟩ : ∃ x, Hid (ws.getD j 0 = x) := ⟨_, rfl⟩
   rw [HX.out] at d0 ht hT
   rw [HA.out, Bool.true_and] at ht
   have HT := keepG ht
   have HTT := keepG hT
   clear ht hT
   have HEr := keepG (HE.out.below HB.out)
   have hzr := HB.out.size
   cases hh : t.has x with
   | false =>
    have hrf : r = false := by
     rw [<- HR.out]
     refine Tb.once_no (j := j + 1) ?_
     rw [HT.out, hh]
     rfl
    subst hrf
    have HH := keepG hh
    clear hh HR
    go_wp2_with (go_at_call 51; go_must (refine (lhhas HEr.out x HH).mono ?_); rintro e w1 ⟨rfl, rfl⟩)
    go_ret
    exact ⟨rfl, HB.out⟩
   | true =>
    have HH := keepG hh
    obtain ⟨k, rfl, hk2⟩ := Tb.has_nat hh
    have hk4 : k < 4 := by omega
    have hk4I : (k : Int) < 4 := by omega
    have e0 := HP.out.cell (seenH_at (ws.take j) hk4)
    have fk := HP.out.frozen k
    cases hm : decide ((k : Int) ∈ ws.take j) with
    | true =>
     rw [hm] at e0
     have hrf : r = false := by
      rw [<- HR.out]
      refine Tb.once_no (j := j + 1) ?_
      rw [HT.out, hm]
      simp
     subst hrf
     clear hh HR hm
     go_wp2_with (go_at_call 51; go_must (refine (lhhas HEr.out _ HH).mono ?_); rintro e w1 ⟨rfl, rfl⟩)
     go_ret
     exact ⟨rfl, HB.out⟩
    | false =>
     rw [hm] at e0
     have HT2 : Hid (t.once (ws.take (j + 1)) = true) := by
      show _ = _
      rw [HT.out, hm, hh]
      rfl
     have HP2 := keepG (HP.out.set k (.bool true))
     rw [seenH_more _ hk4, <- HTT.out] at HP2
     have HB2 := keepG (HB.out.trans ((grown_to_below (grown_set wr w.heap.size k (.bool true)) (Nat.le_refl _) hzr)))
     clear hh HR hm
     go_wp2_with (go_at_call 51; go_must (refine (lhhas HEr.out _ HH).mono ?_); rintro e w1 ⟨rfl, rfl⟩)
     go_roundw
     case rel => exact ⟨j + 1, by omega, by go_num, HT2.out, HP2.out, HB2.out⟩
     case measure => simp [intOf]; omega
  ·have hltI : ¬ (j : Int) < ws.length := by omega
   have hrt : r = true := by
    rw [<- HR.out]
    have := HA.out
    rw [List.take_of_length_le (by omega)] at this
    exact this
   subst hrt
   clear HR
   go_wp2
   go_ret
   exact ⟨rfl, HB.out⟩
set_option maxHeartbeats 6400000 in
theorem lhdetach (h : Lp_g w b g t) (hk : t.Ok) {v : Value} {ws : List Int} (hs : Sees .i64 w v ws) (hap : ws ≠ [] -> Apt (ftH b g) (ftV v)) {E : Int} {t' : Tb} (HQ : Hid (t.det ws = (E, t'))) : Calls Tryz.prog 25 #[.pointer (some ⟨b, 0, none⟩), v] w fun e w' => e = .returned (.int .i64 E) /\ Lp_g w' b g t' /\ Chg w w' (ftH b g) := by
 have HE := keepG h
 have hl4 := hk.len.2
 have HS := keepG hs
 have hlies := h.lies
 obtain ⟨a, cap, rfl, hlc, hmx, _⟩ := hs
 unfold maxLen at hmx
 have hq := HQ.out
 unfold Tb.det at hq
 clear h HQ
 cases ho : t.once ws with
 | false =>
  rw [if_pos ho] at hq
  injection hq with e1 e2
  subst e1 e2
  have HO := keepG ho
  clear ho
  go_enter Tryz.func25, Tryz.ntmps25
  go_wp2_with (go_at_call 45; go_must (refine (lhonce HE.out hk HS.out HO).mono ?_); rintro e w1 ⟨rfl, hb1⟩; go_must (have HB1 := keepG hb1; clear hb1))
  go_ret
  exact ⟨rfl, HE.out.below HB1.out, Chg.of_below HB1.out⟩
 | true =>
  rw [if_neg (by rw [ho]; decide)] at hq
  have HON := keepG (Tb.once_parts ho).2
  have HO := keepG ho
  have HQ := keepG hq
  clear ho hq
  go_enter Tryz.func25, Tryz.ntmps25
  go_wp2_with (go_at_call 45; go_must (refine (lhonce HE.out hk HS.out HO).mono ?_); rintro e w1 ⟨rfl, hb1⟩; go_must (have HB1 := keepG hb1; have HE1 := keepG (HE.out.below hb1); have HS1 := keepG (HS.out.below hb1 (Nat.le_refl _)); clear hb1))
  obtain ⟨p0, p1⟩ := HE1.out.low
  go_loopw [15] (fun i wr => ∃ j : Nat, j <= ws.length /\ i = .int .i64 j /\ Hid ((ws.take j).all t.taken = true) /\ w1 = wr) (fun i _ => ws.length - (intOf i).toNat)
  case atStart => exact ⟨0, by omega, rfl, rfl, rfl⟩
  case round =>
   obtain ⟨j, hj, rfl, HA, rfl⟩ := hrel
   by_cases hlt : j < ws.length
   ·have hltI : (j : Int) < ws.length := by omega
    obtain ⟨a', c', ev, _, _, _, _, hcell⟩ := HS1.out
    simp only [Value.slice.injEq, true_and] at ev
    obtain ⟨rfl, rfl⟩ := ev
    obtain ⟨p, off, rfl, hp, hat⟩ := hcell (fun e => by rw [e] at hlt; simp at hlt)
    have d0 := hat j hlt
    clear hat hcell
    have ht := all_take19 (p := t.taken) hlt
    have hmem := getD_mem ws j hlt
    obtain ⟨x, HX⟩ : ∃ x, Hid (ws.getD j 0 = x) := ⟨_, rfl⟩
    rw [HX.out] at d0 ht hmem
    rw [HA.out, Bool.true_and] at ht
    have HT := keepG ht
    obtain ⟨k, rfl, hk2⟩ := Tb.has_nat (HON.out _ hmem)
    have hk2I : (k : Int) < t.at'.length := by omega
    obtain ⟨y, HY⟩ : ∃ y, Hid (t.taken k = y) := ⟨_, rfl⟩
    rw [HY.out] at HT
    clear ht hmem
    cases y with
    | false =>
     have hf : ws.all t.taken = false := all_no19 (j := j + 1) HT.out
     have hq := HQ.out
     rw [if_pos hf] at hq
     injection hq with e1 e2
     subst e1 e2
     clear HQ hf
     go_wp2_with (go_at_call 46; go_must (refine (lhtaken HE1.out hk2 HY).mono ?_); rintro e w2 ⟨rfl, rfl⟩)
     go_ret
     exact ⟨rfl, HE1.out, Chg.of_below HB1.out⟩
    | true =>
     go_wp2_with (go_at_call 46; go_must (refine (lhtaken HE1.out hk2 HY).mono ?_); rintro e w2 ⟨rfl, rfl⟩)
     go_roundw
     case rel => exact ⟨j + 1, by omega, by go_num, HT.out, by first | rfl | trivial⟩
     case measure => simp [intOf]; omega
   ·have hltI : ¬ (j : Int) < ws.length := by omega
    have hf : ws.all t.taken = true := by
     have := HA.out
     rw [List.take_of_length_le (by omega)] at this
     exact this
    have hq := HQ.out
    rw [if_neg (by rw [hf]; decide)] at hq
    injection hq with e1 e2
    subst e1 e2
    clear HQ hf HA
    go_wp2
    go_loopw [26] (fun i wr => ∃ q : Nat, q <= ws.length /\ i = .int .i64 q /\ Hid (Lp_g wr b g ⟨t.last, clrT t.at' (ws.take q)⟩) /\ Hid (Chg w wr (ftH b g))) (fun i _ => ws.length - (intOf i).toNat)
    case atStart => exact ⟨0, by omega, rfl, HE1.out, Chg.of_below HB1.out⟩
    case round =>
     obtain ⟨q, hq, rfl, HEq, HCq⟩ := hrel
     rename World => wr
     by_cases hqt : q < ws.length
     ·have hqtI : (q : Int) < ws.length := by omega
      obtain ⟨a', c', ev, _, _, _, _, hcell⟩ := HS.out.chg19 HCq.out (fun hne j hj e => hap hne j e hj)
      simp only [Value.slice.injEq, true_and] at ev
      obtain ⟨rfl, rfl⟩ := ev
      obtain ⟨p, off, rfl, hp, hat⟩ := hcell (fun e => by rw [e] at hqt; simp at hqt)
      have d0 := hat q hqt
      clear hat hcell
      have hT := take_at ws q hqt
      have hmem := getD_mem ws q hqt
      obtain ⟨x, HX⟩ : ∃ x, Hid (ws.getD q 0 = x) := ⟨_, rfl⟩
      rw [HX.out] at d0 hmem hT
      obtain ⟨k, rfl, hk2⟩ := Tb.has_nat (HON.out _ hmem)
      have hlen := clrT_len (ws.take q) t.at'
      obtain ⟨q0, q1⟩ := HEq.out.low
      simp only [hlen] at q1
      have hkq : k < (clrT t.at' (ws.take q)).length := by rw [hlen]; exact hk2
      obtain ⟨ck, cl⟩ := HEq.out.at (k := k) hkq
      have fk := HEq.out.row.frozen (k * 2)
      have fl := HEq.out.row.frozen (k * 2 + 1)
      have hk2I : (k : Int) < t.at'.length := by omega
      have HE2 := keepG (HEq.out.put hkq Sl.nil)
      have HC2 := keepG ((HCq.out.trans (Chg.set wr g (k * 2) (.int .i64 0)) (fun _ _ e => .inr e)).trans (Chg.set _ g (k * 2 + 1) (.int .i64 0)) (fun _ _ e => .inr e))
      have HT : Hid (clrT t.at' (ws.take (q + 1)) = (clrT t.at' (ws.take q)).set k Sl.nil) := by
       show _ = _
       rw [hT, clrT_app]
       rfl
      clear hmem hT hlen hkq
      generalize (Tb.slot ⟨t.last, clrT t.at' (ws.take q)⟩ (k : Int)).v = y0 at ck
      generalize (Tb.slot ⟨t.last, clrT t.at' (ws.take q)⟩ (k : Int)).p = y1 at cl
      go_wp2
      go_roundw
      case rel => exact ⟨q + 1, by omega, by go_num, by rw [HT.out]; exact HE2.out, HC2.out⟩
      case measure => simp [intOf]; omega
     ·have hqtI : ¬ (q : Int) < ws.length := by omega
      have HE2 := HEq.out
      rw [List.take_of_length_le (by omega)] at HE2
      have HE3 := keepG HE2
      clear HE2 HEq
      go_wp2
      go_ret
      exact ⟨rfl, HE3.out, HCq.out⟩
set_option maxHeartbeats 3200000 in
theorem lhattach (h : Lp_g w b g t) (hk : t.Ok) (hl : t.last <= 1000000000000000) (x p : Int) {v E : Int} {t' : Tb} (HQ : Hid (t.put false x p = (v, E, t'))) : Calls Tryz.prog 35 #[.pointer (some ⟨b, 0, none⟩), .int .i64 x, .int .i64 p] w fun e w' => e = .returned (.tuple #[.int .i64 v, .int .i64 E]) /\ Lp_g w' b g t' /\ Chg w w' (ftH b g) := by
 have HE := keepG h
 have hq := HQ.out
 unfold Tb.put at hq
 cases hh : t.has x with
 | false =>
  rw [if_pos hh] at hq
  injection hq with e1 hq
  injection hq with e2 e3
  subst e1 e2 e3
  have HH := keepG hh
  clear h hh HQ
  go_enter Tryz.func35, Tryz.ntmps35
  go_wp2_with (go_at_call 51; go_must (refine (lhhas HE.out x HH).mono ?_); rintro e w1 ⟨rfl, rfl⟩)
  go_ret2
  exact ⟨rfl, HE.out, Chg.refl _ _⟩
 | true =>
  rw [if_neg (by rw [hh]; decide)] at hq
  obtain ⟨k, rfl, hk2⟩ := Tb.has_nat hh
  have HH := keepG hh
  have HP := keepG (lhpublish h hk.last hl hk2 p)
  cases hn : t.taken k with
  | false =>
   rw [if_pos hn] at hq
   injection hq with e1 hq
   injection hq with e2 e3
   subst e1 e2 e3
   have HN := keepG hn
   clear h hh HQ hn
   go_enter Tryz.func35, Tryz.ntmps35
   go_wp2_with (first | (go_at_call 51; go_must (refine (lhhas HE.out _ HH).mono ?_); rintro e w1 ⟨rfl, rfl⟩) | (go_at_call 46; go_must (refine (lhtaken HE.out hk2 HN).mono ?_); rintro e w1 ⟨rfl, rfl⟩) | (go_at_call 52; go_must (refine HP.out.mono ?_); rintro e w1 ⟨rfl, g1, g2⟩; go_must (have HE1 := keepG g1; have HC1 := keepG g2; clear g1 g2)))
   go_ret2
   exact ⟨rfl, HE1.out, HC1.out⟩
  | true =>
   rw [if_neg (by rw [hn]; decide)] at hq
   injection hq with e1 hq
   injection hq with e2 e3
   subst e1 e2 e3
   have HN := keepG hn
   clear h hh HQ hn HP
   go_enter Tryz.func35, Tryz.ntmps35
   go_wp2_with (first | (go_at_call 51; go_must (refine (lhhas HE.out _ HH).mono ?_); rintro e w1 ⟨rfl, rfl⟩) | (go_at_call 46; go_must (refine (lhtaken HE.out hk2 HN).mono ?_); rintro e w1 ⟨rfl, rfl⟩))
   go_ret2
   exact ⟨rfl, HE.out, Chg.refl _ _⟩
set_option maxHeartbeats 3200000 in
theorem lhswap (h : Lp_g w b g t) (hk : t.Ok) (hl : t.last <= 1000000000000000) (x p : Int) {v E : Int} {t' : Tb} (HQ : Hid (t.put true x p = (v, E, t'))) : Calls Tryz.prog 44 #[.pointer (some ⟨b, 0, none⟩), .int .i64 x, .int .i64 p] w fun e w' => e = .returned (.tuple #[.int .i64 v, .int .i64 E]) /\ Lp_g w' b g t' /\ Chg w w' (ftH b g) := by
 have HE := keepG h
 have hq := HQ.out
 unfold Tb.put at hq
 cases hh : t.has x with
 | false =>
  rw [if_pos hh] at hq
  injection hq with e1 hq
  injection hq with e2 e3
  subst e1 e2 e3
  have HH := keepG hh
  clear h hh HQ
  go_enter Tryz.func44, Tryz.ntmps44
  go_wp2_with (go_at_call 51; go_must (refine (lhhas HE.out x HH).mono ?_); rintro e w1 ⟨rfl, rfl⟩)
  go_ret2
  exact ⟨rfl, HE.out, Chg.refl _ _⟩
 | true =>
  rw [if_neg (by rw [hh]; decide)] at hq
  obtain ⟨k, rfl, hk2⟩ := Tb.has_nat hh
  have HH := keepG hh
  have HP := keepG (lhpublish h hk.last hl hk2 p)
  cases hn : t.taken k with
  | true =>
   rw [if_pos hn] at hq
   injection hq with e1 hq
   injection hq with e2 e3
   subst e1 e2 e3
   have HN := keepG hn
   clear h hh HQ hn
   go_enter Tryz.func44, Tryz.ntmps44
   go_wp2_with (first | (go_at_call 51; go_must (refine (lhhas HE.out _ HH).mono ?_); rintro e w1 ⟨rfl, rfl⟩) | (go_at_call 46; go_must (refine (lhtaken HE.out hk2 HN).mono ?_); rintro e w1 ⟨rfl, rfl⟩) | (go_at_call 52; go_must (refine HP.out.mono ?_); rintro e w1 ⟨rfl, g1, g2⟩; go_must (have HE1 := keepG g1; have HC1 := keepG g2; clear g1 g2)))
   go_ret2
   exact ⟨rfl, HE1.out, HC1.out⟩
  | false =>
   rw [if_neg (by rw [hn]; decide)] at hq
   injection hq with e1 hq
   injection hq with e2 e3
   subst e1 e2 e3
   have HN := keepG hn
   clear h hh HQ hn HP
   go_enter Tryz.func44, Tryz.ntmps44
   go_wp2_with (first | (go_at_call 51; go_must (refine (lhhas HE.out _ HH).mono ?_); rintro e w1 ⟨rfl, rfl⟩) | (go_at_call 46; go_must (refine (lhtaken HE.out hk2 HN).mono ?_); rintro e w1 ⟨rfl, rfl⟩))
   go_ret2
   exact ⟨rfl, HE.out, Chg.refl _ _⟩
end
theorem not_in_takeH {ws : List Int} {j : Nat} {x : Int} (hj : j < ws.length) (h : ¬ x ∈ ws.take j) (hx : ws.getD j 0 ≠ x) : ¬ x ∈ ws.take (j + 1) := by
 rw [take_at ws j hj]
 simp only [List.mem_append, List.mem_singleton]
 rintro (e | e)
 ·exact h e
 ·exact hx e.symm
section
variable {w w' : World} {b g : Nat} {t : Tb}
set_option maxHeartbeats 3200000 in
theorem lindexH {u : Value} {ws : List Int} (hs : Sees .i64 w u ws) (x : Int) {r : Bool} (HR : Hid (decide (x ∈ ws) = r)) : Calls Tryz.prog 55 #[u, .int .i64 x] w fun e w' => ∃ k : Int, e = .returned (.int .i64 k) /\ Hid (decide (k ≥ 0) = r) /\ w = w' := by
  have HS := keepG hs
  obtain ⟨a, cap, rfl, hlc, hmx, _⟩ := hs
  unfold maxLen at hmx
  go_enter Tryz.func55, Tryz.ntmps55
  go_wp2
  go_loopw [8] (fun i wr => ∃ j : Nat, j <= ws.length /\ i = .int .i64 j /\ Hid (¬ x ∈ ws.take j) /\ w = wr) (fun i _ => ws.length - (intOf i).toNat)
  case atStart => exact ⟨0, by omega, rfl, by show ¬ _; simp, rfl⟩
  case round =>
    obtain ⟨j, hj, rfl, HA, rfl⟩ := hrel
    by_cases hlt : j < ws.length
    · have hltI : (j : Int) < ws.length := by omega
      obtain ⟨p, off, ev, hat⟩ := HS.out.at19 hlt
      subst ev
      have d0 := hat j hlt
      clear hat
      have HM := keepG (getD_mem ws j hlt)
      obtain ⟨y, HX⟩ : ∃ y, Hid (ws.getD j 0 = y) := ⟨_, rfl⟩
      rw [HX.out] at d0 HM
      by_cases hx : y = x
      · have hxb : (x == y) = true := by simpa using hx.symm
        have HR2 : Hid (r = true) := by
          show _ = _
          rw [<- HR.out]
          exact decide_eq_true (by rw [<- hx]; exact HM.out)
        clear hx
        go_wp2
        go_ret
        exact ⟨_, rfl, (show decide _ = r by rw [HR2.out]; simp), rfl⟩
      · have hxb : (x == y) = false := by simpa using (fun e => hx e.symm)
        have HA2 := keepG (not_in_takeH hlt HA.out (by rw [HX.out]; exact hx))
        clear hx
        go_wp2
        first
          | (go_roundw
             case rel => exact ⟨j + 1, by omega, by go_num, HA2.out, by first | rfl | trivial⟩
             case measure => simp [intOf]; omega)
          | exact ⟨⟨j + 1, by omega, by go_num, HA2.out, trivial⟩, by simp [intOf]; omega⟩
          | exact ⟨⟨j + 1, by omega, by go_num, HA2.out, rfl⟩, by simp [intOf]; omega⟩
    · have hltI : ¬ (j : Int) < ws.length := by omega
      have HR2 : Hid (r = false) := by
        show _ = _
        rw [<- HR.out]
        have := HA.out
        rw [List.take_of_length_le (by omega)] at this
        exact decide_eq_false this
      go_wp2
      go_ret
      exact ⟨_, rfl, (show decide _ = r by rw [HR2.out]; simp), rfl⟩
theorem lcontH {u : Value} {ws : List Int} (hs : Sees .i64 w u ws) (x : Int) {r : Bool} (HR : Hid (decide (x ∈ ws) = r)) : Calls Tryz.prog 49 #[u, .int .i64 x] w fun e w' => e = .returned (.bool r) /\ w = w' := by
 have HS := keepG hs
 obtain ⟨a, cap, rfl, hlc, hmx, _⟩ := hs
 go_enter Tryz.func49, Tryz.ntmps49
 go_wp2_with (go_at_call 55; go_must (refine (lindexH HS.out x HR).mono ?_); rintro e w1 ⟨k, rfl, hk, rfl⟩)
 go_ret
 exact ⟨by rw [hk.out]; rfl, rfl⟩
set_option maxHeartbeats 6400000 in
theorem lhwhere (h : Lp_g w b g t) (hk : t.Ok) {u : Value} {ps : List Int} (hs : Sees .i64 w u ps) {A : List Int} (HA : Hid (t.wh ps = A)) : Calls Tryz.prog 36 #[.pointer (some ⟨b, 0, none⟩), u] w fun e w' => ∃ v, e = .returned v /\ RoN w' w.heap.size v A /\ Below w.heap.size w w' := by
 obtain ⟨i0, hi0, hz0, hzs, hzb⟩ := info_parts infoIntN
 have HH := keepG (fun (wr : World) (hb : Below w.heap.size w wr) => h.below hb)
 have HS := keepG (fun (wr : World) (hb : Below w.heap.size w wr) => hs.below hb (Nat.le_refl _))
 obtain ⟨a, cap, rfl, hlc, hmx, _⟩ := hs
 unfold maxLen at hmx
 have hl4 := hk.len.2
 obtain ⟨c0, c1⟩ := h.low
 clear h
 go_enter Tryz.func36, Tryz.ntmps36
 go_wp2
 go_loopw [5, 13] (fun v i wr => ∃ j : Nat, j <= t.at'.length /\ i = .int .i64 j /\ Hid (RoN wr w.heap.size v (t.whN ps j)) /\ Hid (Below w.heap.size w wr)) (fun _ i _ => t.at'.length - (intOf i).toNat)
 case atStart => exact ⟨0, by omega, rfl, RoN.nil _ _, Below.refl _ _⟩
 case round =>
  rename_i v wr
  obtain ⟨j, hj, rfl, HO, HB⟩ := hrel
  have HD := keepG (HH.out wr HB.out)
  obtain ⟨va, vc, ev⟩ := own_shape HO.out
  subst ev
  by_cases hlt : j < t.at'.length
  ·have hltI : (j : Int) < t.at'.length := by omega
   obtain ⟨d0, d1⟩ := HD.out.at hlt
   have HHIT : Hid (t.hit ps j = (t.taken j && decide ((t.slot j).p ∈ ps))) := rfl
   have HM := keepG (t.whN_more ps j)
   have hYl := t.whN_len ps j
   rw [HHIT.out] at HM
   obtain ⟨Y, HY⟩ : ∃ Y, Hid (t.whN ps j = Y) := ⟨_, rfl⟩
   rw [HY.out] at HM HO hYl ⊢
   obtain ⟨r, HR⟩ : ∃ r, Hid (t.taken j = r) := ⟨_, rfl⟩
   rw [HR.out] at HM
   generalize (t.slot j).v = cv at d0
   generalize (t.slot j).p = cp at d1 HM
   obtain ⟨f, HF⟩ : ∃ f, Hid (decide (cp ∈ ps) = f) := ⟨_, rfl⟩
   rw [HF.out] at HM
   obtain ⟨W1, HW1, HP1, HB1, HO1⟩ : ∃ W1, Hid ((wr.alloc (.cells #[.int .i64 0, .int .i64 0] 94)) = W1) /\ True /\ True /\ True := ⟨_, rfl, trivial, trivial, trivial⟩
   clear HP1 HB1 HO1
   obtain ⟨W2, HW2, e0, e1, HB2, HO2⟩ : ∃ W2, Hid ((W1.setCell ⟨wr.heap.size, 0, none⟩ (.int .i64 cv)).setCell ⟨wr.heap.size, 1, none⟩ (.int .i64 cp) = W2) /\ W2.cell? ⟨wr.heap.size, 0, none⟩ = some (.int .i64 cv) /\ W2.cell? ⟨wr.heap.size, 1, none⟩ = some (.int .i64 cp) /\ Hid (Below w.heap.size w W2) /\ Hid (RoN W2 w.heap.size (.slice va Y.length vc) Y) := by
    have hp := ((Hp.new wr [.int .i64 0, .int .i64 0] 94).set 0 (.int .i64 cv)).set 1 (.int .i64 cp)
    have hb : Below wr.heap.size wr (((wr.alloc (.cells #[.int .i64 0, .int .i64 0] 94)).setCell ⟨wr.heap.size, 0, none⟩ (.int .i64 cv)).setCell ⟨wr.heap.size, 1, none⟩ (.int .i64 cp)) := ((below_allocG wr _).trans (grown_to_below (grown_set _ wr.heap.size 0 _) (Nat.le_refl _) (by simp))).trans (grown_to_below (grown_set _ wr.heap.size 1 _) (Nat.le_refl _) (by simp))
    refine ⟨_, rfl, ?_, ?_, ?_, ?_⟩
    ·rw [<- HW1.out]; exact hp.cell rfl
    ·rw [<- HW1.out]; exact hp.cell rfl
    ·rw [<- HW1.out]; exact HB.out.trans (hb.mono HB.out.size)
    ·rw [<- HW1.out]; exact HO.out.below hb
   have HD2 := keepG (HH.out W2 HB2.out)
   have HS2 := keepG (HS.out W2 HB2.out)
   have hz2 := HB2.out.size
   have n0 : W1.cell? ⟨wr.heap.size, 0, none⟩ = some (.int .i64 0) := by rw [<- HW1.out]; exact (Hp.new wr [.int .i64 0, .int .i64 0] 94).cell rfl
   have n1 : W1.cell? ⟨wr.heap.size, 1, none⟩ = some (.int .i64 0) := by rw [<- HW1.out]; exact (Hp.new wr [.int .i64 0, .int .i64 0] 94).cell rfl
   have nf0 : W1.frozen? ⟨wr.heap.size, 0, none⟩ = false := by rw [<- HW1.out]; exact (Hp.new wr [.int .i64 0, .int .i64 0] 94).frozen 0
   have nf1 : W1.frozen? ⟨wr.heap.size, 1, none⟩ = false := by rw [<- HW1.out]; exact (Hp.new wr [.int .i64 0, .int .i64 0] 94).frozen 1
   cases r with
   | false =>
    have HM2 : Hid (t.whN ps (j + 1) = Y) := by show _ = _; rw [HM.out, if_neg (by simp)]
    go_wp2_with (first | (rw [HW1.out]) | (rw [HW2.out]) | (go_at_call 46; go_must (refine (lhtaken HD2.out hlt HR).mono ?_); rintro e w3 ⟨rfl, rfl⟩))
    go_roundw
    case rel => exact ⟨j + 1, by omega, by go_num, by rw [HM2.out]; exact HO2.out, HB2.out⟩
    case measure => simp [intOf]; omega
   | true =>
    cases f with
    | false =>
     have HM2 : Hid (t.whN ps (j + 1) = Y) := by show _ = _; rw [HM.out, if_neg (by simp)]
     go_wp2_with (first | (rw [HW1.out]) | (rw [HW2.out]) | (go_at_call 46; go_must (refine (lhtaken HD2.out hlt HR).mono ?_); rintro e w3 ⟨rfl, rfl⟩) | (go_at_call 49; go_must (refine (lcontH HS2.out cp HF).mono ?_); rintro e w3 ⟨rfl, rfl⟩))
     go_roundw
     case rel => exact ⟨j + 1, by omega, by go_num, by rw [HM2.out]; exact HO2.out, HB2.out⟩
     case measure => simp [intOf]; omega
    | true =>
     have HM2 : Hid (t.whN ps (j + 1) = Y ++ [(j : Int)]) := by show _ = _; rw [HM.out, if_pos (by simp)]
     go_wp2_with (first | (rw [HW1.out]) | (rw [HW2.out]) | (go_at_call 46; go_must (refine (lhtaken HD2.out hlt HR).mono ?_); rintro e w3 ⟨rfl, rfl⟩) | (go_at_call 49; go_must (refine (lcontH HS2.out cp HF).mono ?_); rintro e w3 ⟨rfl, rfl⟩) | (at_builtin; go_must (refine wpList_append_wide _ rfl _ _ 32 rfl w.heap.size 3 i0 (.int .i64 0) 1 8 Tryz.underlying32 hi0 hz0 hzs hzb rfl (by decide) _ _ _ rfl (HO2.out.alloc _) ⟨_, 0, none⟩ 1 1 [.int .i64 j] rfl rfl (cell_one_new _ _ _) (one_cell _ _) (by unfold maxLen; omega) (by omega) (by simp; omega) ?_); intro v' w5 hown' hgrow _; go_must (have HR5 := keepG (HO2.out.more HB2.out (Nat.le_refl _) hown' hgrow); clear hown' hgrow)))
     go_roundw
     case rel => exact ⟨j + 1, by omega, by go_num, by rw [HM2.out]; exact HR5.out.1, HR5.out.2⟩
     case measure => simp [intOf]; omega
  ·have hltI : ¬ (j : Int) < t.at'.length := by omega
   have HE : Hid (t.whN ps j = A) := by
    show _ = _
    rw [<- HA.out]
    unfold Tb.wh
    rw [show j = t.at'.length by omega]
   rw [HE.out] at HO ⊢
   go_wp2
   go_ret
   exact ⟨_, rfl, HO.out, HB.out⟩
end
def Lt (w : World) (B b : Nat) (F : Ft) (t : Tb) : Prop := ∃ g, F = ftH b g /\ Lp_g w b g t
theorem Lt.lies {w : World} {B b : Nat} {F : Ft} {t : Tb} (h : Lt w B b F t) : Lies w F := by
 obtain ⟨g, rfl, h1⟩ := h
 exact h1.lies
theorem Lt.keeps {w w' : World} {B b : Nat} {F G : Ft} {t : Tb} (h : Lt w B b F t) (hc : Chg w w' G) (ha : Apt G F) : Lt w' B b F t := by
 obtain ⟨g, rfl, h1⟩ := h
 exact ⟨g, rfl, h1.chg hc ha⟩
theorem ltnew_ok (n : Nat) (h1 : 1 <= n) (h : n <= 4) (w : World) : Calls Tryz.prog 19 #[.int .i64 n] w fun e w' => ∃ b F, e = .returned (.tuple #[.pointer (some ⟨b, 0, none⟩), .int .i64 0]) /\ Lt w' w.heap.size b F (Tb.new n) /\ Since w F /\ Below w.heap.size w w' := by
 refine (lhnew_ok n h1 h w).mono ?_
 rintro e w' ⟨rfl, g1, g2, g3⟩
 exact ⟨_, _, rfl, ⟨_, rfl, g1⟩, g2, g3⟩
theorem Lt.attach {w : World} {B b : Nat} {F : Ft} {t t' : Tb} (h : Lt w B b F t) (hk : t.Ok) (hB : B <= w.heap.size) (hla : t.last <= 1000000000000000) (x p : Int) {v E : Int} (HQ : Hid (t.put false x p = (v, E, t'))) : Calls Tryz.prog 35 #[.pointer (some ⟨b, 0, none⟩), .int .i64 x, .int .i64 p] w fun e w' => e = .returned (.tuple #[.int .i64 v, .int .i64 E]) /\ ∃ F', Lt w' B b F' t' /\ Nx w w' F F' := by
 obtain ⟨g, rfl, h1⟩ := h
 refine (lhattach h1 hk hla x p HQ).mono ?_
 rintro e w' ⟨rfl, g1, g2⟩
 exact ⟨rfl, _, ⟨g, rfl, g1⟩, g2, fun k e => .inl e⟩
theorem Lt.swap {w : World} {B b : Nat} {F : Ft} {t t' : Tb} (h : Lt w B b F t) (hk : t.Ok) (hB : B <= w.heap.size) (hla : t.last <= 1000000000000000) (x p : Int) {v E : Int} (HQ : Hid (t.put true x p = (v, E, t'))) : Calls Tryz.prog 44 #[.pointer (some ⟨b, 0, none⟩), .int .i64 x, .int .i64 p] w fun e w' => e = .returned (.tuple #[.int .i64 v, .int .i64 E]) /\ ∃ F', Lt w' B b F' t' /\ Nx w w' F F' := by
 obtain ⟨g, rfl, h1⟩ := h
 refine (lhswap h1 hk hla x p HQ).mono ?_
 rintro e w' ⟨rfl, g1, g2⟩
 exact ⟨rfl, _, ⟨g, rfl, g1⟩, g2, fun k e => .inl e⟩
theorem Lt.detach {w : World} {B b : Nat} {F : Ft} {t t' : Tb} (h : Lt w B b F t) (hk : t.Ok) (hB : B <= w.heap.size) {u : Value} {xs : List Int} (hz : Hid (xs.length * 8 <= 140737488355328)) (hs : Sees .i64 w u xs) (hap : xs ≠ [] -> Apt F (ftV u)) {E : Int} (HQ : Hid (t.det xs = (E, t'))) : Calls Tryz.prog 25 #[.pointer (some ⟨b, 0, none⟩), u] w fun e w' => e = .returned (.int .i64 E) /\ ∃ F', Lt w' B b F' t' /\ Nx w w' F F' := by
 obtain ⟨g, rfl, h1⟩ := h
 refine (lhdetach h1 hk hs hap HQ).mono ?_
 rintro e w' ⟨rfl, g1, g2⟩
 exact ⟨rfl, _, ⟨g, rfl, g1⟩, g2, fun k e => .inl e⟩
theorem Lt.wher {w : World} {B b : Nat} {F : Ft} {t : Tb} (h : Lt w B b F t) (hk : t.Ok) {u : Value} {ps : List Int} (hz : Hid (ps.length * 8 <= 140737488355328)) (hs : Sees .i64 w u ps) {A : List Int} (HA : Hid (t.wh ps = A)) : Calls Tryz.prog 36 #[.pointer (some ⟨b, 0, none⟩), u] w fun e w' => ∃ v, e = .returned v /\ RoN w' w.heap.size v A /\ Below w.heap.size w w' := by
 obtain ⟨g, rfl, h1⟩ := h
 exact lhwhere h1 hk hs HA
end Go.Proofs.YtlkdniglaldilaaGreat
