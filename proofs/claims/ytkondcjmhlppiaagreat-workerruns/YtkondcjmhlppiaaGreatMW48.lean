/-
  Y23LA
  Y23LB
  Y23LC
  Y23LD
  Y23LE
-/
import Derived.Test.YtkondcjmhlppiaaGreatMW47
import Derived.Test.YtkondcjmhlppiaaGreatMW21
import Derived.Test.YtkondcjmhlppiaaGreatMW33
import Derived.Test.YtkondcjmhlppiaaGreatMW0
namespace Go.Proofs.YtkondcjmhlppiaaGreat
open Go.RowKit
set_option linter.unusedVariables false
set_option linter.unusedSimpArgs false
set_option maxRecDepth 100000
abbrev qdV (n : Int) (e : Int × Int) : Value := .agg #[.int .i64 n, .int .u64 e.1, .int .u64 e.2]
abbrev jobC (m h n a b v p : Int) (mp : Option Addr) (c : Int) : List Value := [.int .i64 m, .int .i64 h, .int .i64 n, .int .u64 a, .int .u64 b, .int .i64 v, .int .i64 p, .pointer mp, .int .u64 c]
abbrev wkC (sb tb : Nat) (m h n a b v p : Int) (mp : Option Addr) (c : Int) : List Value := [.pointer (some ⟨sb, 0, none⟩), .pointer (some ⟨tb, 0, none⟩)] ++ jobC m h n a b v p mp c
def Lm (w : World) (sb : Nat) (k : Wk) (mp : Option Addr) (FM : Ft) : Prop :=
 (k.md <= 1 /\ k.cl = 0 /\ mp = none /\ FM = fun _ => False) ∨ (2 <= k.md /\ ∃ mb vm cb co ccap, mp = some ⟨mb, 0, none⟩ /\ Mh w mb sb vm cb co ccap k.ms k.xs k.ev k.M /\ FM = fun j => j = mb ∨ j = cb ∨ (k.ms ≠ [] /\ vm.ownBlock = some j))
structure Lw (w : World) (b sb tb : Nat) (mp : Option Addr) (FM : Ft) (k : Wk) : Prop where
 hp : Hp w b 50 (wkC sb tb k.md k.hk k.qn k.ev.1 k.ev.2 k.ve k.pg mp k.cl)
 sc : Sc w sb k.M.ws k.M.cs
 st : Lq w tb k.td
 ne : b ≠ sb /\ b ≠ tb /\ sb ≠ tb
 ap : ¬ FM b /\ ¬ FM sb /\ ¬ FM tb
 li : ∀ j, FM j -> j < w.heap.size
 ma : Lm w sb k mp FM
def ftW (b sb tb : Nat) (FM : Ft) : Ft := fun j => j = b ∨ j = sb ∨ j = tb ∨ FM j
def Dw (w w' : World) (b sb tb : Nat) (FM : Ft) (k' : Wk) : Prop := ∃ mp' FM', Lw w' b sb tb mp' FM' k' /\ Chg w w' (ftW b sb tb FM) /\ ∀ j, FM' j -> FM j ∨ w.heap.size <= j
theorem run_boxAc {w : World} {n : Nat} {a : Ac} (h : Hp w n 71 (acC a)) : (loadVar 71 ⟨n, 0, none⟩).run Tryz.prog w = .ok (acV a) w := by
 refine run_loadVar_mid w n 0 71 (acC a) _ ?_ Tryz.underlying71 rfl (by kernel_rfl)
 intro j x hx
 rw [Nat.zero_add]
 exact h.cell hx
theorem acb_ret {fn : Func} {p u : Tmp} {w2 : World} {n : Nat} {tmps : Array Value} {a : Ac} {r : Bool} {Q : Ending -> World -> Prop} (hr : fn.results = #[.cell p 71, .tmp u]) (hp : tmps.getD p undef = .pointer (some ⟨n, 0, none⟩)) (hu : tmps.getD u undef = .bool r) (hx : Hp w2 n 71 (acC a)) (hQ : Q (.returned (.tuple #[acV a, .bool r])) w2) : bodyPost Tryz.prog fn Q .ret ⟨tmps, []⟩ w2 := by
 refine bodyPost_ret (v := .tuple #[acV a, .bool r]) ?_ rfl hQ
 rw [results_cell_tmpS hr, hp]
 simp only [asAddr, Sem.run_pure, Result.andThen]
 rw [run_boxAc hx, hu]
section
variable {w w' : World} {b sb tb : Nat} {mp mp' : Option Addr} {F FM FM' G : Ft} {k k' : Wk}
theorem Lm.keep (h : Lm w sb k mp FM) (hc : Chg w w' G) (hs : ¬ G sb) (ha : ∀ j, FM j -> ¬ G j) : Lm w' sb k mp FM := by
 rcases h with h | ⟨h1, mb, vm, cb, co, ccap, h2, h3, h4⟩
 ·exact .inl h
 ·subst h4
  refine .inr ⟨h1, mb, vm, cb, co, ccap, h2, h3.apart hc (ha mb (.inl rfl)) hs (ha cb (.inr (.inl rfl))) ?_, rfl⟩
  by_cases hm : k.ms = []
  ·exact .inl hm
  ·exact .inr fun j hj => ha j (.inr (.inr ⟨hm, hj⟩))
theorem Lw.lies (h : Lw w b sb tb mp FM k) : Lies w (ftW b sb tb FM) := fun j hj => by
 rcases hj with rfl | rfl | rfl | hj
 ·exact h.hp.lt
 ·exact h.sc.lt
 ·exact Hp.lt h.st
 ·exact h.li j hj
theorem Lw.keep (h : Lw w b sb tb mp FM k) (hc : Chg w w' G) (ha : Apt G (ftW b sb tb FM)) : Lw w' b sb tb mp FM k :=
 ⟨h.hp.chg hc (fun e => ha _ e (.inl rfl)), h.sc.chg hc (fun e => ha _ e (.inr (.inl rfl))), Hp.chg h.st hc (fun e => ha _ e (.inr (.inr (.inl rfl)))), h.ne, h.ap, fun j hj => Nat.lt_of_lt_of_le (h.li j hj) hc.size, h.ma.keep hc (fun e => ha _ e (.inr (.inl rfl))) (fun j hj e => ha _ e (.inr (.inr (.inr hj))))⟩
theorem Lw.below (h : Lw w b sb tb mp FM k) (hb : Below w.heap.size w w') : Lw w' b sb tb mp FM k := h.keep (Chg.of_below (S := fun _ => False) hb) (fun _ e => e.elim)
theorem Dw.same (h : Lw w b sb tb mp FM k) (hb : Below w.heap.size w w') : Dw w w' b sb tb FM k := ⟨mp, FM, h.below hb, Chg.of_below hb, fun j hj => .inl hj⟩
theorem Lw.put (h : Lw w b sb tb mp FM k) (hc : Chg w w' (fun j => j = b)) (hp : Hp w' b 50 (wkC sb tb k'.md k'.hk k'.qn k'.ev.1 k'.ev.2 k'.ve k'.pg mp' k'.cl)) (hM : k'.M = k.M) (ht : k'.td = k.td) (hF : ∀ j, FM' j -> FM j) (hma : Lm w' sb k' mp' FM') : Dw w w' b sb tb FM k' := by
 have hn := h.ne
 have ha := h.ap
 exact ⟨mp', FM', ⟨hp, by rw [hM]; exact h.sc.chg hc (fun e => hn.1 e.symm), by rw [ht]; exact Hp.chg h.st hc (fun e => hn.2.1 e.symm), hn, ⟨fun e => ha.1 (hF _ e), fun e => ha.2.1 (hF _ e), fun e => ha.2.2 (hF _ e)⟩, fun j hj => Nat.lt_of_lt_of_le (h.li j (hF j hj)) hc.size, hma⟩, hc.mono (fun _ e => .inl e), fun j hj => .inl (hF j hj)⟩
theorem wk_cells {m hh n a c v p q : Int} (h : Hp w b 50 (wkC sb tb m hh n a c v p mp q)) : (w.cell? ⟨b, 0, none⟩ = some (.pointer (some ⟨sb, 0, none⟩)) /\ w.cell? ⟨b, 1, none⟩ = some (.pointer (some ⟨tb, 0, none⟩)) /\ w.cell? ⟨b, 2, none⟩ = some (.int .i64 m) /\ w.cell? ⟨b, 3, none⟩ = some (.int .i64 hh) /\ w.cell? ⟨b, 4, none⟩ = some (.int .i64 n) /\ w.cell? ⟨b, 5, none⟩ = some (.int .u64 a) /\ w.cell? ⟨b, 6, none⟩ = some (.int .u64 c) /\ w.cell? ⟨b, 7, none⟩ = some (.int .i64 v) /\ w.cell? ⟨b, 8, none⟩ = some (.int .i64 p) /\ w.cell? ⟨b, 9, none⟩ = some (.pointer mp) /\ w.cell? ⟨b, 10, none⟩ = some (.int .u64 q)) /\ (w.frozen? ⟨b, 2, none⟩ = false /\ w.frozen? ⟨b, 3, none⟩ = false /\ w.frozen? ⟨b, 4, none⟩ = false /\ w.frozen? ⟨b, 5, none⟩ = false /\ w.frozen? ⟨b, 6, none⟩ = false /\ w.frozen? ⟨b, 7, none⟩ = false /\ w.frozen? ⟨b, 8, none⟩ = false /\ w.frozen? ⟨b, 9, none⟩ = false /\ w.frozen? ⟨b, 10, none⟩ = false) :=
 ⟨⟨h.cell rfl, h.cell rfl, h.cell rfl, h.cell rfl, h.cell rfl, h.cell rfl, h.cell rfl, h.cell rfl, h.cell rfl, h.cell rfl, h.cell rfl⟩, h.frozen _, h.frozen _, h.frozen _, h.frozen _, h.frozen _, h.frozen _, h.frozen _, h.frozen _, h.frozen _⟩
theorem lwnew (w : World) : Calls Tryz.prog 5 #[] w fun e w' => ∃ b sb tb, e = .returned (.pointer (some ⟨b, 0, none⟩)) /\ Lw w' b sb tb none (fun _ => False) Wk.new /\ (w.heap.size <= b /\ w.heap.size <= sb /\ w.heap.size <= tb) /\ Below w.heap.size w w' := by
 go_enter Tryz.func5, Tryz.ntmps5
 go_wp2_with (first
  | (go_at_call 17; go_must (refine (new_any w).mono ?_); rintro e w1 ⟨rfl, hs1, hz1, hb1⟩; go_must (have HS1 := keepG hs1; clear hs1))
  | (go_at_call 18; go_must (refine (lxnew w1).mono ?_); rintro e w2 ⟨tb, F2, rfl, hx2, hn2, hb2⟩; go_must (have HX2 := keepG hx2; have HT2 := keepG (hn2 tb hx2.here); clear hx2 hn2)))
 go_ret
 have hl := Hp.lt HX2.out.1
 have hs := HS1.out.below hb2 HS1.out.lt
 have hB := hb1.trans (hb2.mono hb1.size)
 have hT := HT2.out
 have hz2 := hb2.size
 exact ⟨_, w.heap.size, tb, rfl, ⟨Hp.new w2 (wkC w.heap.size tb 0 0 0 0 0 0 0 none 0) _, hs.alloc _, Hp.alloc HX2.out.1 _, ⟨by omega, by omega, by omega⟩, ⟨id, id, id⟩, fun _ e => e.elim, .inl ⟨Nat.zero_le _, rfl, rfl, rfl⟩⟩, ⟨by omega, by omega, by omega⟩, hB.trans ((below_allocG w2 _).mono (by omega))⟩
theorem Lw.mode (h : Lw w b sb tb mp FM k) : Calls Tryz.prog 11 #[.pointer (some ⟨b, 0, none⟩)] w fun e w' => e = .returned (.int .i64 k.md) /\ Below w.heap.size w w' := by
 obtain ⟨⟨-, -, c2, -⟩, -⟩ := wk_cells h.hp
 go_enter Tryz.func11, Tryz.ntmps11
 go_wp2
 go_ret
 exact ⟨rfl, Below.refl _ _⟩
theorem Lw.runs (h : Lw w b sb tb mp FM k) : Calls Tryz.prog 14 #[.pointer (some ⟨b, 0, none⟩)] w fun e w' => e = .returned (.tuple #[.int .i64 k.ve, .int .i64 k.pg]) /\ Below w.heap.size w w' := by
 obtain ⟨⟨-, -, -, -, -, -, -, c7, c8, -⟩, -⟩ := wk_cells h.hp
 go_enter Tryz.func14, Tryz.ntmps14
 go_wp2
 go_region_held3 (fun w' => w'.cell? ⟨b, 7, none⟩ = some (.int .i64 k.ve) /\ w'.cell? ⟨b, 8, none⟩ = some (.int .i64 k.pg)) (exact ⟨c7, c8⟩) (fail)
 go_wp2
 go_ret2
 exact ⟨rfl, below_drG (Below.refl _ _)⟩
end
section
variable {w w' : World} {b sb tb : Nat} {mp mp' : Option Addr} {F FM FM' G : Ft} {k k' : Wk}
theorem Dw.pre {w0 : World} (hb : Below w0.heap.size w0 w) (h : Dw w w' b sb tb FM k') : Dw w0 w' b sb tb FM k' := by
 obtain ⟨mp', FM', h1, h2, h3⟩ := h
 have hz := hb.size
 exact ⟨mp', FM', h1, (Chg.of_below (S := ftW b sb tb FM) hb).trans h2 (fun _ _ e => e), fun j hj => (h3 j hj).imp id fun g => by omega⟩
theorem Dw.chg {w0 : World} (hb : Chg w0 w (ftW b sb tb FM)) (h : Dw w w' b sb tb FM k') : Dw w0 w' b sb tb FM k' := by
 obtain ⟨mp', FM', h1, h2, h3⟩ := h
 have hz := hb.size
 exact ⟨mp', FM', h1, hb.trans h2 (fun _ _ e => e), fun j hj => (h3 j hj).imp id fun g => by omega⟩
theorem Lm.as (h : Lm w sb k mp FM) (h2 : 2 <= k.md) (g : 2 <= k'.md) (e1 : k'.ms = k.ms) (e2 : k'.xs = k.xs) (e3 : k'.ev = k.ev) (e4 : k'.M = k.M) : Lm w sb k' mp FM := by
 obtain ⟨g1, -⟩ | ⟨-, mb, vm, cb, co, ccap, h1, h2, h3⟩ := h
 ·omega
 ·exact .inr ⟨g, mb, vm, cb, co, ccap, h1, by rw [e1, e2, e3, e4]; exact h2, by rw [e1]; exact h3⟩
theorem Lw.told (h : Lw w b sb tb mp FM k) {l : List To} (hs : Lq w' tb l) (hc : Chg w w' (fun j => j = tb)) : Lw w' b sb tb mp FM ⟨k.md, k.hk, k.qn, k.ev, k.ve, k.pg, k.cl, k.ms, k.xs, k.M, l⟩ := by
 have hn := h.ne
 have ha := h.ap
 have hm := h.ma.keep hc hn.2.2 (fun j hj e => ha.2.2 (by rw [<- e]; exact hj))
 exact ⟨h.hp.chg hc hn.2.1, h.sc.chg hc hn.2.2, hs, hn, ha, fun j hj => Nat.lt_of_lt_of_le (h.li j hj) hc.size, hm⟩
theorem Lw.moved {mb : Nat} {vm : Value} {cb co ccap : Nat} {M' : Mc} (h : Lw w b sb tb (some ⟨mb, 0, none⟩) FM k) (h2 : 2 <= k.md) (hF : FM = fun j => j = mb ∨ j = cb ∨ (k.ms ≠ [] /\ vm.ownBlock = some j)) (hc : Chg w w' (fun j => j = mb ∨ j = sb)) (hm : Mh w' mb sb vm cb co ccap k.ms k.xs k.ev M') : Lw w' b sb tb (some ⟨mb, 0, none⟩) FM ⟨k.md, k.hk, k.qn, k.ev, k.ve, k.pg, k.cl, k.ms, k.xs, M', k.td⟩ := by
 have hn := h.ne
 have ha := h.ap
 have hmb : FM mb := by rw [hF]; exact .inl rfl
 have hbm : b ≠ mb := fun e => ha.1 (by rw [e]; exact hmb)
 have htm : tb ≠ mb := fun e => ha.2.2 (by rw [e]; exact hmb)
 exact ⟨h.hp.chg hc (fun e => e.elim hbm hn.1), hm.sc, Hp.chg h.st hc (fun e => e.elim htm (fun e => hn.2.2 e.symm)), hn, ha, fun j hj => Nat.lt_of_lt_of_le (h.li j hj) hc.size, .inr ⟨h2, mb, vm, cb, co, ccap, rfl, hm, hF⟩⟩
theorem chg_own {FM : Ft} {mb : Nat} (h : Chg w w' (fun j => j = mb ∨ j = sb)) (hm : FM mb) : Chg w w' (ftW b sb tb FM) := h.mono fun j e => e.elim (fun e => .inr (.inr (.inr (by rw [e]; exact hm)))) (fun e => .inr (.inl e))
theorem one_hk {x : Int} (hx : 0 <= x /\ x <= 3) (w : World) : Sees .i64 (w.alloc (.cells #[.int .i64 x] 3)) (.slice (some ⟨w.heap.size, 0, none⟩) 1 1) [x] := by
 refine Sees.lit w .i64 3 [x] _ 1 rfl rfl (by simp) (fun y hy => ?_)
 have e : y = x := by simpa using hy
 subst e
 have : y = 0 ∨ y = 1 ∨ y = 2 ∨ y = 3 := by omega
 rcases this with rfl | rfl | rfl | rfl <;> rfl
set_option maxHeartbeats 3200000 in
theorem Lw.take (h : Lw w b sb tb mp FM k) (x n : Int) (ev : Int × Int) {E : Int} (HQ : Hid (k.take x n ev = (E, k'))) : Calls Tryz.prog 7 #[.pointer (some ⟨b, 0, none⟩), .int .i64 x, qdV n ev] w fun e w' => e = .returned (.int .i64 E) /\ Dw w w' b sb tb FM k' := by
 obtain ⟨ea, eb⟩ := ev
 obtain ⟨W, HW, HP, hB⟩ : ∃ W, Hid (w.alloc (.cells #[.int .i64 n, .int .u64 ea, .int .u64 eb] 45) = W) /\ Hid (Hp W w.heap.size 45 [.int .i64 n, .int .u64 ea, .int .u64 eb]) /\ Below w.heap.size w W := ⟨_, rfl, Hp.new w _ _, below_allocG _ _⟩
 have HL := keepG (h.below hB)
 have HH := keepG h
 have q0 := HP.out.cell (j := 0) rfl
 have q1 := HP.out.cell (j := 1) rfl
 have q2 := HP.out.cell (j := 2) rfl
 obtain ⟨⟨-, -, c2, c3, c4, c5, c6, c7, c8, c9, c10⟩, f2, f3, f4, f5, f6, f7, f8, f9, f10⟩ := wk_cells HL.out.hp
 clear h
 have hq := HQ.out
 unfold Wk.take at hq
 by_cases h1 : x < 0
 ·rw [if_pos (.inl h1)] at hq
  obtain ⟨rfl, rfl⟩ := Prod.mk.inj hq
  clear hq HQ
  go_enter Tryz.func7, Tryz.ntmps7
  go_wp2_with (rw [HW.out])
  go_ret
  exact ⟨rfl, Dw.same HH.out hB⟩
 by_cases h2 : 3 < x
 ·rw [if_pos (.inr h2)] at hq
  obtain ⟨rfl, rfl⟩ := Prod.mk.inj hq
  have h3 : 4 <= x := by omega
  have h3' : ¬ x < 4 := by omega
  clear hq HQ
  go_enter Tryz.func7, Tryz.ntmps7
  go_wp2_with (rw [HW.out])
  go_ret
  exact ⟨rfl, Dw.same HH.out hB⟩
 rw [if_neg (by omega)] at hq
 have h3 : ¬ 4 <= x := by omega
 have h3' : x < 4 := by omega
 by_cases h0 : k.md = 0
 ·rw [if_neg (by omega)] at hq
  obtain ⟨rfl, rfl⟩ := Prod.mk.inj hq
  rw [h0] at c2
  clear hq HQ
  go_enter Tryz.func7, Tryz.ntmps7
  go_wp2_with (rw [HW.out])
  go_ret
  exact ⟨rfl, Dw.pre hB (HL.out.put (Chg.sets W b 2 (jobC 1 x n ea eb 0 0 none 0)) (HL.out.hp.sets (jobC 1 x n ea eb 0 0 none 0) 2) rfl rfl (fun _ e => e.elim) (.inl ⟨Nat.le_refl _, rfl, rfl, rfl⟩))⟩
 ·rw [if_pos h0] at hq
  obtain ⟨rfl, rfl⟩ := Prod.mk.inj hq
  have h0I : ¬ (k.md : Int) = 0 := by omega
  have h0b : ((k.md : Int) == 0) = false := by simpa using h0I
  clear hq HQ
  go_enter Tryz.func7, Tryz.ntmps7
  go_wp2_with (rw [HW.out])
  go_ret
  exact ⟨rfl, Dw.same HH.out hB⟩
set_option maxHeartbeats 3200000 in
theorem Lw.skip (h : Lw w b sb tb mp FM k) (hk : k.Ok) {E : Int} (HQ : Hid (k.skip = (E, k'))) : Calls Tryz.prog 12 #[.pointer (some ⟨b, 0, none⟩)] w fun e w' => e = .returned (.int .i64 E) /\ Dw w w' b sb tb FM k' := by
 have HH := keepG h
 have HKO := keepG hk
 obtain ⟨⟨-, c1, c2, c3, -⟩, -⟩ := wk_cells h.hp
 have hq := HQ.out
 unfold Wk.skip at hq
 clear h hk HQ
 by_cases h1 : k.md = 1
 ·rw [if_neg (by omega)] at hq
  obtain ⟨rfl, rfl⟩ := Prod.mk.inj hq
  rw [h1] at c2
  have HQ : Hid (missedL k.td [k.hk] = (0, k.td ++ [⟨k.hk, true, 0, 0, 0⟩])) := by
   have hh := HKO.out.hk
   have : isH k.hk = true := by simp [isH]; omega
   show _ = _
   unfold missedL
   rw [if_pos (by simp [this])]
   rfl
  have H1 := keepG h1
  clear hq h1
  go_enter Tryz.func12, Tryz.ntmps12
  go_wp2
  refine wp_region_held_drew (S := fun w' => w'.cell? ⟨b, 1, none⟩ = some (.pointer (some ⟨tb, 0, none⟩)) /\ w'.cell? ⟨b, 3, none⟩ = some (.int .i64 k.hk)) (by kernel_rfl) ⟨c1, c3⟩ (fun hHeld => ?_)
  refine tkGo [0, 1, 2, 3, 4, 5, 6, 7, 8] ?_
  repeat (refine tkO (v := ?_) rfl ?_ ?_; rotate_left; (intro wy hSw; (try dsimp only at hSw); go_simp; (first | done | with_reducible rfl)); try simp only [Act.put, p1q, p2q, p3q, p4q, p5q, p6q])
  refine tkEnd ?_
  refine runO 9 (by kernel_rfl) rfl (by rfl) (fun KK hK => ?_)
  go_simp
  obtain ⟨X, HX, HSX, HBX⟩ : ∃ X, Hid ((w.alloc (.cells #[.int .i64 k.hk] 3)).drew = X) /\ Hid (Sees .i64 X (.slice (some ⟨w.heap.size, 0, none⟩) 1 1) [k.hk]) /\ Hid (Below w.heap.size w X) := ⟨_, rfl, one_hk HKO.out.hk w, below_drG (below_allocG _ _)⟩
  have HLX := keepG (HH.out.below HBX.out)
  rw [HX.out]
  refine hK.out _ _ (let g := (wk_cells HLX.out.hp).1; ⟨g.2.1, g.2.2.2.1⟩) (fun hHeld => ?_)
  clear hK KK
  try simp only [Act.put, p1q, p2q, p3q, p4q, p5q, p6q]
  refine runO 10 (by kernel_rfl) rfl (by rfl) (fun KK hK => ?_)
  go_simp
  go_at_call 22
  refine (HLX.out.st.missed HSX.out (fun _ j e1 e2 => by
   have h2 : w.heap.size = j := Option.some.inj e2
   have h3 := Hp.lt HH.out.st
   omega) HQ).mono ?_
  rintro e w3 ⟨rfl, hs3, hc3⟩
  have HL3 := keepG (HLX.out.told hs3 hc3)
  have HC3 : Hid (Chg w w3 (ftW b sb tb FM)) := (Chg.of_below (S := ftW b sb tb FM) HBX.out).trans hc3 (fun j _ e => .inr (.inr (.inl e)))
  clear hs3 hc3
  go_simp
  refine hK.out _ _ (let g := (wk_cells HL3.out.hp).1; ⟨g.2.1, g.2.2.2.1⟩) (fun hHeld => ?_)
  clear hK KK
  try simp only [Act.put, p1q, p2q, p3q, p4q, p5q, p6q]
  refine wpAnyH_done (by kernel_rfl) ?_ _
  obtain ⟨⟨-, -, c2, c3, c4, c5, c6, c7, c8, c9, c10⟩, f2, f3, f4, f5, f6, f7, f8, f9, f10⟩ := wk_cells HL3.out.hp
  go_wp2
  go_ret
  exact ⟨rfl, Dw.chg HC3.out (HL3.out.put (Chg.sets w3 b 2 (jobC 0 0 0 0 0 0 0 none 0)) (HL3.out.hp.sets (jobC 0 0 0 0 0 0 0 none 0) 2) rfl rfl (fun _ e => e.elim) (.inl ⟨Nat.zero_le _, rfl, rfl, rfl⟩))⟩
 ·rw [if_pos h1] at hq
  obtain ⟨rfl, rfl⟩ := Prod.mk.inj hq
  have h1I : ¬ (k.md : Int) = 1 := by omega
  have h1b : ((k.md : Int) == 1) = false := by simpa using h1I
  clear hq
  go_enter Tryz.func12, Tryz.ntmps12
  go_wp2
  go_ret
  exact ⟨rfl, Dw.same HH.out (Below.refl _ _)⟩
set_option maxHeartbeats 3200000 in
theorem Lw.answer (h : Lw w b sb tb mp FM k) (hk : k.Ok) (r : Rs) (hr : r.wf) {E : Int} (HQ : Hid (k.answer r.E r.f r.v = (E, k'))) : Calls Tryz.prog 16 #[.pointer (some ⟨b, 0, none⟩), resV r.E r.f r.v r.o r.k r.u] w fun e w' => e = .returned (.int .i64 E) /\ Dw w w' b sb tb FM k' := by
 obtain ⟨rE, rf, rv, ro, rk, ru⟩ := r
 obtain ⟨W, HW, HP, hB⟩ : ∃ W, Hid (w.alloc (.cells #[.int .i64 rE, .bool rf, .int .u64 rv, .bool ro, .int .u64 rk, .int .u64 ru] 62) = W) /\ Hid (Hp W w.heap.size 62 [.int .i64 rE, .bool rf, .int .u64 rv, .bool ro, .int .u64 rk, .int .u64 ru]) /\ Below w.heap.size w W := ⟨_, rfl, Hp.new w _ _, below_allocG _ _⟩
 have HL := keepG (h.below hB)
 have HH := keepG h
 have HKO := keepG hk
 have q0 := HP.out.cell (j := 0) rfl
 have q1 := HP.out.cell (j := 1) rfl
 have q2 := HP.out.cell (j := 2) rfl
 have q3 := HP.out.cell (j := 3) rfl
 have q4 := HP.out.cell (j := 4) rfl
 have q5 := HP.out.cell (j := 5) rfl
 obtain ⟨⟨-, -, c2, -, -, -, -, -, -, c9, -⟩, -⟩ := wk_cells HL.out.hp
 have hq := HQ.out
 unfold Wk.answer at hq
 clear h hk HQ
 by_cases h3 : k.md = 3
 ·rw [if_neg (by omega)] at hq
  obtain ⟨rfl, rfl⟩ := Prod.mk.inj hq
  rw [h3] at c2
  obtain ⟨g, -⟩ | ⟨-, mb, vm, cb, co, ccap, rfl, HM, hF⟩ := HL.out.ma
  ·omega
  have HM := keepG HM
  have HF := keepG hF
  have H3 := keepG h3
  clear hq h3 hF
  go_enter Tryz.func16, Tryz.ntmps16
  go_wp2_with (rw [HW.out])
  refine wp_region_held_drew (S := fun w' => w'.cell? ⟨b, 9, none⟩ = some (.pointer (some ⟨mb, 0, none⟩)) /\ w'.cell? ⟨w.heap.size, 0, none⟩ = some (.int .i64 rE) /\ w'.cell? ⟨w.heap.size, 1, none⟩ = some (.bool rf) /\ w'.cell? ⟨w.heap.size, 2, none⟩ = some (.int .u64 rv) /\ w'.cell? ⟨w.heap.size, 3, none⟩ = some (.bool ro) /\ w'.cell? ⟨w.heap.size, 4, none⟩ = some (.int .u64 rk) /\ w'.cell? ⟨w.heap.size, 5, none⟩ = some (.int .u64 ru)) (by kernel_rfl) ⟨c9, q0, q1, q2, q3, q4, q5⟩ (fun hHeld => ?_)
  refine tkGo [0, 1, 2, 3, 4, 5] ?_
  repeat (refine tkO (v := ?_) rfl ?_ ?_; rotate_left; (intro wy hSw; (try dsimp only at hSw); go_simp; (first | done | with_reducible rfl)); try simp only [Act.put, p1q, p2q, p3q, p4q, p5q, p6q])
  refine tkEnd ?_
  refine runO 6 (by kernel_rfl) rfl (by rfl) (fun KK hK => ?_)
  go_simp
  go_at_call 24
  have HLD := keepG (HL.out.below (below_drG (Below.refl _ _)))
  have HMD := keepG (HM.out.below (below_drG (Below.refl _ _)))
  refine (show Calls _ _ _ _ _ from (by
   obtain ⟨known, hK, hS, -, -⟩ := HKO.out.run (by have := H3.out; omega)
   exact manswer_all hK hS HMD.out (HKO.out.three H3.out) rE rf rv ro rk ru hr)).mono ?_
  rintro e w3 ⟨rfl, hc3, hm3⟩
  have HL3 := keepG (HLD.out.moved (by have := H3.out; omega) HF.out hc3 hm3)
  have HC3 : Hid (Chg w w3 (ftW b sb tb FM)) := ((Chg.of_below (S := ftW b sb tb FM) hB).trans (Chg.of_below (S := ftW b sb tb FM) (below_drG (Below.refl _ _))) (fun _ _ e => e)).trans (chg_own hc3 (by rw [HF.out]; exact .inl rfl)) (fun _ _ e => e)
  have HP3 := keepG ((HP.out.below (below_drG (Below.refl _ _)) HP.out.lt).chg hc3 (fun e => by
   have h1 := HH.out.sc.lt
   rcases e with e | e
   ·have h2 := HH.out.li mb (by rw [HF.out]; exact .inl rfl)
    omega
   ·omega))
  clear hc3 hm3
  go_simp
  refine hK.out _ _ ⟨(wk_cells HL3.out.hp).1.2.2.2.2.2.2.2.2.2.1, HP3.out.cell rfl, HP3.out.cell rfl, HP3.out.cell rfl, HP3.out.cell rfl, HP3.out.cell rfl, HP3.out.cell rfl⟩ (fun hHeld => ?_)
  clear hK KK
  try simp only [Act.put, p1q, p2q, p3q, p4q, p5q, p6q]
  refine wpAnyH_done (by kernel_rfl) ?_ _
  obtain ⟨⟨-, -, c2, -⟩, f2, -⟩ := wk_cells HL3.out.hp
  go_wp2
  go_ret
  refine ⟨rfl, Dw.chg HC3.out (HL3.out.put (FM' := FM) (mp' := some ⟨mb, 0, none⟩) (Chg.set w3 b 2 (.int .i64 2)) (HL3.out.hp.set 2 (.int .i64 2)) rfl rfl (fun _ e => e) ?_)⟩
  exact (HL3.out.ma.keep (Chg.set w3 b 2 (.int .i64 2)) (fun e => HH.out.ne.1 e.symm) (fun j hj e => HH.out.ap.1 (by rw [<- e]; exact hj))).as (by show 2 <= k.md; have := H3.out; omega) (Nat.le_refl 2) rfl rfl rfl rfl
 ·rw [if_pos h3] at hq
  obtain ⟨rfl, rfl⟩ := Prod.mk.inj hq
  have h3I : ¬ (k.md : Int) = 3 := by omega
  have h3b : ((k.md : Int) == 3) = false := by simpa using h3I
  clear hq
  go_enter Tryz.func16, Tryz.ntmps16
  go_wp2_with (rw [HW.out])
  go_ret
  exact ⟨rfl, Dw.same HH.out hB⟩
end
section
variable {w w' : World} {b sb tb : Nat} {mp mp' : Option Addr} {F FM FM' G : Ft} {k k' : Wk}
set_option maxHeartbeats 6400000 in
theorem Lw.enter (h : Lw w b sb tb mp FM k) (hk : k.Ok) (v p : Int) {vm vc : Value} {ms : List Int} {xs : List In} (hm : SeesM w vm vc ms xs) (ha1 : ms ≠ [] -> Apt (ftW b sb tb FM) (ftV vm)) (ha2 : xs ≠ [] -> Apt (ftW b sb tb FM) (ftV vc)) {E : Int} (HQ : Hid (k.enter v p ms xs = (E, k'))) : Calls Tryz.prog 10 #[.pointer (some ⟨b, 0, none⟩), .int .i64 v, .int .i64 p, modV vm vc] w fun e w' => e = .returned (.int .i64 E) /\ Dw w w' b sb tb FM k' := by
 obtain ⟨W, HW, HP, hB⟩ : ∃ W, Hid (w.alloc (.cells #[vm, vc] 32) = W) /\ Hid (Hp W w.heap.size 32 [vm, vc]) /\ Below w.heap.size w W := ⟨_, rfl, Hp.new w _ _, below_allocG _ _⟩
 have HL := keepG (h.below hB)
 have HH := keepG h
 have HKO := keepG hk
 have HSM := keepG hm
 obtain ⟨ma, mc, e1⟩ : ∃ a c, vm = .slice a ms.length c := by obtain ⟨a, c, e, _⟩ := hm.maps; exact ⟨a, c, e⟩
 obtain ⟨ca, cc, e2⟩ : ∃ a c, vc = .slice a xs.length c := by obtain ⟨a, c, e, _⟩ := hm.code; exact ⟨a, c, e⟩
 subst e1 e2
 have q0 := HP.out.cell (j := 0) rfl
 have q1 := HP.out.cell (j := 1) rfl
 obtain ⟨⟨c0, -, c2, -, -, c5, c6, -⟩, -⟩ := wk_cells HL.out.hp
 have hq := HQ.out
 unfold Wk.enter at hq
 clear h hk hm HQ
 by_cases h1 : k.md = 1
 ·rw [if_neg (by omega)] at hq
  rw [h1] at c2
  have H1 := keepG h1
  obtain ⟨P, E', HJ⟩ : ∃ P E', Hid (judgeR ms xs = (P, E')) := ⟨_, _, rfl⟩
  rw [HJ.out] at hq
  simp only at hq
  have HSMD := keepG ((HSM.out.below hB).below (below_drG (Below.refl _ _)))
  have HLD := keepG (HL.out.below (below_drG (Below.refl _ _)))
  clear h1
  go_enter Tryz.func10, Tryz.ntmps10
  go_wp2_with (rw [HW.out])
  refine wp_region_held_drew (S := fun w' => w'.cell? ⟨w.heap.size, 0, none⟩ = some (.slice ma ms.length mc) /\ w'.cell? ⟨w.heap.size, 1, none⟩ = some (.slice ca xs.length cc) /\ w'.cell? ⟨b, 5, none⟩ = some (.int .u64 k.ev.1) /\ w'.cell? ⟨b, 6, none⟩ = some (.int .u64 k.ev.2) /\ w'.cell? ⟨b, 0, none⟩ = some (.pointer (some ⟨sb, 0, none⟩))) (by kernel_rfl) ⟨q0, q1, c5, c6, c0⟩ (fun hHeld => ?_)
  refine tkGo [0, 1, 2, 3, 4, 5, 6, 7, 8, 9, 10] ?_
  repeat (refine tkO (v := ?_) rfl ?_ ?_; rotate_left; (intro wy hSw; (try dsimp only at hSw); go_simp; (first | done | with_reducible rfl)); try simp only [Act.put, p1q, p2q, p3q, p4q, p5q, p6q])
  refine tkEnd ?_
  refine runO 11 (by kernel_rfl) rfl (by rfl) (fun KK hK => ?_)
  go_simp
  go_at_call 21
  by_cases hE : E' = 0
  ·subst hE
   rw [if_neg (by omega)] at hq
   obtain ⟨rfl, rfl⟩ := Prod.mk.inj hq
   obtain ⟨K, hi⟩ : ∃ K, inqR ms xs = .ok K := by
    cases hi : inqR ms xs with
    | ok K => exact ⟨K, rfl⟩
    | error e =>
     obtain ⟨P, E⟩ := e
     have hE : E ≠ 0 := inq_errorE hi (fun e h => (run_errorE (p := e.1) (E := e.2) h).2)
     have hj := HJ.out
     unfold judgeR at hj
     rw [hi] at hj
     exact absurd (Prod.mk.inj hj).2 hE
   obtain ⟨hmj, ⟨known, hK, -⟩, hj0⟩ := judge_known hi
   have hml := maps_len hmj
   have hx0 := hK.T.pos
   have hx64 := hK.T.top
   obtain ⟨cb, co, ccap, ev, hcl⟩ := code_shape HSM.out.code hx0
   injection ev with ev1 ev2 ev3
   subst ev1 ev3
   refine (mnew_ok k.ev sb W.drew HSMD.out.maps HSMD.out.code HLD.out.sc hj0 (by omega) ?_ ?_ ⟨hx0, hx64⟩).mono ?_
   ·by_cases hms : ms = []
    ·exact .inl hms
    ·exact .inr fun e => ha1 hms sb (.inr (.inl rfl)) e
   ·exact fun e => ha2 (fun e => by rw [e] at hx0; exact absurd hx0 (by simp)) sb (.inr (.inl rfl)) (by rw [<- e]; rfl)
   rintro e w3 ⟨b', cb', ccap', um, rfl, hb', hmh, hc3, hcb', hum⟩
   have hb3 : Chg W w3 (fun j => j = sb) := ⟨hc3.os, hc3.tape, hc3.output, hc3.size, hc3.block⟩
   have hb' : W.heap.size <= b' := hb'
   have hcb' : W.heap.size <= cb' := hcb'
   have hum : ms = [] ∨ ∀ j, um.ownBlock = some j -> W.heap.size <= j := hum
   have hap := HL.out.ap
   have hne := HL.out.ne
   have hltb := HL.out.hp.lt
   have hlts := HL.out.sc.lt
   have hltt := Hp.lt HL.out.st
   have HPW := keepG (HL.out.hp.chg hb3 hne.1)
   have HTW := keepG (Hp.chg HL.out.st hb3 (fun e => hne.2.2 e.symm))
   have HP3 := keepG (HP.out.chg hb3 (fun e => by have := HP.out.lt; have := HH.out.sc.lt; omega))
   have HMH := keepG hmh
   have HC3 := keepG hb3
   clear hc3 hmh hb3
   go_simp
   refine hK.out _ _ (let g := (wk_cells HPW.out).1; ⟨HP3.out.cell rfl, HP3.out.cell rfl, g.2.2.2.2.2.1, g.2.2.2.2.2.2.1, g.1⟩) (fun hHeld => ?_)
   clear hK KK
   try simp only [Act.put, p1q, p2q, p3q, p4q, p5q, p6q]
   refine tkGo [12, 13, 14, 15, 16] ?_
   repeat (refine tkO (v := ?_) rfl ?_ ?_; rotate_left; (intro wy hSw; (try dsimp only at hSw); go_simp; (first | done | with_reducible rfl)); try simp only [Act.put, p1q, p2q, p3q, p4q, p5q, p6q])
   refine tkEnd ?_
   refine wpAnyH_done (by kernel_rfl) ?_ _
   obtain ⟨⟨-, -, c2, c3, c4, c5, c6, c7, c8, c9, c10⟩, f2, f3, f4, f5, f6, f7, f8, f9, f10⟩ := wk_cells HPW.out
   go_wp2
   go_ret
   obtain ⟨X, HX, HCX, HPX⟩ : ∃ X, Hid ((((w3.setCell ⟨b, 2, none⟩ (.int .i64 2)).setCell ⟨b, 9, none⟩ (.pointer (some ⟨b', 0, none⟩))).setCell ⟨b, 7, none⟩ (.int .i64 v)).setCell ⟨b, 8, none⟩ (.int .i64 p) = X) /\ Hid (Chg w3 X (fun j => j = b)) /\ Hid (Hp X b 50 (wkC sb tb 2 k.hk k.qn k.ev.1 k.ev.2 v p (some ⟨b', 0, none⟩) k.cl)) := ⟨_, rfl, (((Chg.set _ _ _ _).trans (Chg.set _ _ _ _) (fun _ _ e => e)).trans (Chg.set _ _ _ _) (fun _ _ e => e)).trans (Chg.set _ _ _ _) (fun _ _ e => e), (((HPW.out.set 2 (.int .i64 2)).set 9 (.pointer (some ⟨b', 0, none⟩))).set 7 (.int .i64 v)).set 8 (.int .i64 p)⟩
   rw [HX.out]
   refine ⟨rfl, Dw.pre hB ⟨some ⟨b', 0, none⟩, fun j => j = b' ∨ j = cb' ∨ (ms ≠ [] /\ um.ownBlock = some j), ⟨?_, ?_, ?_, hne, ?_, ?_, ?_⟩, ?_, ?_⟩⟩
   ·have hcl : k.cl = 0 := by
     obtain ⟨-, g, -⟩ | ⟨g, -⟩ := HH.out.ma
     ·exact g
     ·have := H1.out; omega
    have := HPX.out
    rw [hcl] at this
    exact this
   ·exact HMH.out.sc.chg HCX.out (fun e => hne.1 e.symm)
   ·exact Hp.chg HTW.out HCX.out (fun e => hne.2.1 e.symm)
   ·have key : ∀ j, j < W.heap.size -> ¬ (j = b' ∨ j = cb' ∨ (ms ≠ [] /\ um.ownBlock = some j)) := fun j hj e => by
     rcases e with e | e | ⟨e1, e2⟩
     ·omega
     ·omega
     ·have := hum.resolve_left e1 j e2
      omega
    exact ⟨key b hltb, key sb hlts, key tb hltt⟩
   ·intro j e
    have hz := HCX.out.size
    rcases e with e | e | ⟨e1, e2⟩
    ·have := HMH.out.ma.hp.lt; omega
    ·have := (codeL HMH.out.code hx0).2.1; omega
    ·have := (sees_ltE HMH.out.maps e2).resolve_left e1; omega
   ·exact .inr ⟨Nat.le_refl 2, b', um, cb', 0, ccap', rfl, HMH.out.apart HCX.out (fun e => by omega) (fun e => hne.1 e.symm) (fun e => by omega) (hum.imp id fun g j hj e => by have := g j hj; omega), rfl⟩
   ·exact (HC3.out.mono (fun j e => .inr (.inl e))).trans HCX.out (fun j _ e => .inl e)
   ·intro j e
    refine .inr ?_
    rcases e with e | e | ⟨e1, e2⟩
    ·omega
    ·omega
    ·exact hum.resolve_left e1 j e2
  ·rw [if_pos hE] at hq
   obtain ⟨rfl, rfl⟩ := Prod.mk.inj hq
   have hEb : (E' == 0) = false := by simpa using hE
   refine (mnew_bad k.ev sb W.drew HSMD.out.maps HSMD.out.code HJ hE).mono ?_
   rintro e w3 ⟨rfl, hb3⟩
   have hb3 : Below W.heap.size W w3 := below_undrew hb3
   have HL3 := keepG (HL.out.below hb3)
   have HP3 := keepG (HP.out.below hb3 HP.out.lt)
   have HB3 := keepG hb3
   go_simp
   refine hK.out _ _ (let g := (wk_cells HL3.out.hp).1; ⟨HP3.out.cell rfl, HP3.out.cell rfl, g.2.2.2.2.2.1, g.2.2.2.2.2.2.1, g.1⟩) (fun hHeld => ?_)
   clear hK KK
   try simp only [Act.put, p1q, p2q, p3q, p4q, p5q, p6q]
   refine tkGo [12, 13, 14, 15, 16] ?_
   repeat (refine tkO (v := ?_) rfl ?_ ?_; rotate_left; (intro wy hSw; (try dsimp only at hSw); go_simp; (first | done | with_reducible rfl)); try simp only [Act.put, p1q, p2q, p3q, p4q, p5q, p6q])
   refine tkEnd ?_
   refine wpAnyH_done (by kernel_rfl) ?_ _
   go_wp2
   go_ret
   exact ⟨rfl, Dw.pre hB (Dw.same HL.out HB3.out)⟩
 ·rw [if_pos h1] at hq
  obtain ⟨rfl, rfl⟩ := Prod.mk.inj hq
  have h1I : ¬ (k.md : Int) = 1 := by omega
  have h1b : ((k.md : Int) == 1) = false := by simpa using h1I
  clear hq
  go_enter Tryz.func10, Tryz.ntmps10
  go_wp2_with (rw [HW.out])
  go_ret
  exact ⟨rfl, Dw.same HH.out hB⟩
end
section
variable {w w' : World} {b sb tb : Nat} {mp mp' : Option Addr} {F FM FM' G : Ft} {k k' : Wk}
theorem Dw.box {w0 w1 : World} {n : Nat} (h1 : Lw w1 b sb tb mp' FM' k') (hc : Chg w0 w1 (ftW b sb tb FM)) (hF : ∀ j, FM' j -> FM j) (hL : Lw w0 b sb tb mp FM k) (hn : w0.heap.size <= n) (a : Ac) : Dw w0 (w1.setCells n 0 (acC a)) b sb tb FM k' := by
 have hX := Chg.sets w1 n 0 (acC a)
 have hb := hL.hp.lt
 have hs := hL.sc.lt
 have ht := Hp.lt hL.st
 refine ⟨mp', FM', h1.keep hX (fun j e1 e2 => ?_), hc.trans hX (fun j hj e => by have : j = n := e; omega), fun j hj => .inl (hF j hj)⟩
 have e1 : j = n := e1
 rcases e2 with e2 | e2 | e2 | e2
 ·omega
 ·omega
 ·omega
 ·have := hL.li j (hF j e2); omega
theorem Lw.put1 (h : Lw w b sb tb mp FM k) (hc : Chg w w' (fun j => j = b)) (hp : Hp w' b 50 (wkC sb tb k'.md k'.hk k'.qn k'.ev.1 k'.ev.2 k'.ve k'.pg mp' k'.cl)) (hM : k'.M = k.M) (ht : k'.td = k.td) (hF : ∀ j, FM' j -> FM j) (hma : Lm w' sb k' mp' FM') : Lw w' b sb tb mp' FM' k' := by
 have hn := h.ne
 have ha := h.ap
 exact ⟨hp, by rw [hM]; exact h.sc.chg hc (fun e => hn.1 e.symm), by rw [ht]; exact Hp.chg h.st hc (fun e => hn.2.1 e.symm), hn, ⟨fun e => ha.1 (hF _ e), fun e => ha.2.1 (hF _ e), fun e => ha.2.2 (hF _ e)⟩, fun j hj => Nat.lt_of_lt_of_le (h.li j (hF j hj)) hc.size, hma⟩
theorem Chg.app {a b c : World} {S : Nat -> Prop} (h : Chg a b S) (g : Chg b c S) : Chg a c S := h.trans g (fun _ _ e => e)
set_option maxHeartbeats 6400000 in
theorem Lw.step (h : Lw w b sb tb mp FM k) (hk : k.Ok) {a : Ac} {r : Bool} (HQ : Hid (k.step = (a, r, k'))) : Calls Tryz.prog 15 #[.pointer (some ⟨b, 0, none⟩)] w fun e w' => e = .returned (.tuple #[acV a, .bool r]) /\ Dw w w' b sb tb FM k' := by
 obtain ⟨W, HW, HP, hB⟩ : ∃ W, Hid (w.alloc (.cells #[.int .i64 0, .int .i64 0, .int .i64 0, .int .i64 0, .int .u64 0, .int .u64 0, .int .u64 0] 71) = W) /\ Hid (Hp W w.heap.size 71 (acC Ac.nil)) /\ Below w.heap.size w W := ⟨_, rfl, Hp.new w _ _, below_allocG _ _⟩
 have HL := keepG (h.below hB)
 have HH := keepG h
 have HKO := keepG hk
 have HB := keepG (Chg.of_below (S := ftW b sb tb FM) hB)
 have z0 := HP.out.cell (j := 0) rfl
 have z1 := HP.out.cell (j := 1) rfl
 have z2 := HP.out.cell (j := 2) rfl
 have z3 := HP.out.cell (j := 3) rfl
 have z4 := HP.out.cell (j := 4) rfl
 have z5 := HP.out.cell (j := 5) rfl
 have z6 := HP.out.cell (j := 6) rfl
 have f0 := HP.out.frozen 0
 have f1 := HP.out.frozen 1
 have f2 := HP.out.frozen 2
 have f3 := HP.out.frozen 3
 have f4 := HP.out.frozen 4
 have f5 := HP.out.frozen 5
 have f6 := HP.out.frozen 6
 obtain ⟨⟨-, -, c2, -, -, -, -, -, -, c9, -⟩, -⟩ := wk_cells HL.out.hp
 have hq := HQ.out
 unfold Wk.step at hq
 clear h hk HQ hB
 by_cases h2 : k.md = 2
 ·rw [if_neg (by omega)] at hq
  injection hq with e1 hq
  injection hq with e2 e3
  subst e2
  rw [h2] at c2
  obtain ⟨g, -⟩ | ⟨-, mb, vm, cb, co, ccap, rfl, HM, hF⟩ := HL.out.ma
  ·omega
  have HM := keepG HM
  have HF := keepG hF
  have H2 := keepG h2
  obtain ⟨M', HM'⟩ : ∃ M', Hid ((stepE k.ms k.xs k.ev k.M).2 = M') := ⟨_, rfl⟩
  have HA := keepG e1
  rw [e1, HM'.out] at e3
  have HC : Hid (Calls Tryz.prog 23 #[.pointer (some ⟨mb, 0, none⟩)] W fun e w' => e = .returned (acV a) /\ Chg W w' (fun k => k = mb ∨ k = sb) /\ Mh w' mb sb vm cb co ccap k.ms k.xs k.ev M') := by
   obtain ⟨known, hK, hS, -, -⟩ := HKO.out.run (by omega)
   have hst := HKO.out.steps (by omega)
   have := mstep_all hK hS HKO.out.ev HM.out (by omega)
   rw [HA.out, HM'.out] at this
   exact this
  have HST : Hid (M'.steps <= 1000 /\ k.cl <= 1000) := by
   obtain ⟨known, hK, hS, -, hcl⟩ := HKO.out.run (by omega)
   have hst := HKO.out.steps (by omega)
   have := (safe_run (ms := k.ms) hK hS (HKO.out.two h2) HKO.out.ev).2.2
   rw [HM'.out] at this
   exact ⟨by omega, by omega⟩
  have HD := keepG e3
  clear e1 e3 h2 hF
  obtain ⟨ak, apc, am, ao, aq, av, an⟩ := a
  by_cases a2 : ak = 2
  ·subst a2
   obtain ⟨c1, HC1⟩ : ∃ c1 : Int, Hid (((k.cl + 1 : Nat) : Int) = c1) := ⟨_, rfl⟩
   have hwc : IntKind.u64.wrap ((k.cl : Int) + 1) = c1 := by have h1 := HST.out.2; have h2 := HC1.out; rw [IntKind.wrap_u64]; omega
   have hws : IntKind.u64.wrap (M'.steps : Int) = M'.steps := by have h1 := HST.out.1; rw [IntKind.wrap_u64]; omega
   go_enter Tryz.func15, Tryz.ntmps15
   go_wp2_with (first
    | (rw [HW.out])
    | (go_at_call 23; go_must (refine HC.out.mono ?_); rintro e w2 ⟨rfl, hc2, hm2⟩; go_must (have HL2 := keepG (HL.out.moved (by have := H2.out; omega) HF.out hc2 hm2); have HC2 := keepG (Chg.app HB.out (chg_own hc2 (show FM mb by rw [HF.out]; exact .inl rfl))); have HP2 := keepG (HP.out.chg hc2 (fun e => by (have h1 := HH.out.sc.lt; have h2 := HH.out.li mb (show FM mb by rw [HF.out]; exact .inl rfl); omega))); dsimp only [acV, actV]; obtain ⟨Y, HY, HNY, hbY⟩ : ∃ Y, Hid (w2.alloc (.cells #[.int .i64 2, .int .i64 apc, .int .i64 am, .int .i64 ao, .int .u64 aq, .int .u64 av, .int .u64 an] 71) = Y) /\ Hid (Hp Y w2.heap.size 71 (acC ⟨2, apc, am, ao, aq, av, an⟩)) /\ Below w2.heap.size w2 Y := ⟨_, rfl, Hp.new w2 _ _, below_allocG _ _⟩; obtain ⟨ny, HN⟩ : ∃ ny, Hid (w2.heap.size = ny) := ⟨_, rfl⟩; rw [HN.out] at HNY; have HLY := keepG (HL2.out.below hbY); have HPY := keepG (HP2.out.below hbY HP2.out.lt); have HCY := keepG (Chg.app HC2.out (Chg.of_below (S := ftW b sb tb FM) hbY)); have HNE : Hid (ny ≠ b /\ ny ≠ w.heap.size) := (by have h1 := HL2.out.hp.lt; have h2 := HP2.out.lt; have h3 := HN.out; exact ⟨by omega, by omega⟩); have HBN : Hid (w.heap.size ≠ b) := (by have h1 := HH.out.hp.lt; show _ ≠ _; omega); have y0 := HNY.out.cell (j := 0) rfl; have y1 := HNY.out.cell (j := 1) rfl; have y2 := HNY.out.cell (j := 2) rfl; have y3 := HNY.out.cell (j := 3) rfl; have y4 := HNY.out.cell (j := 4) rfl; have y5 := HNY.out.cell (j := 5) rfl; have y6 := HNY.out.cell (j := 6) rfl; obtain ⟨⟨d0, d1, d2, d3, d4, d5, d6, d7, d8, d9, d10⟩, g2, g3, g4, g5, g6, g7, g8, g9, g10⟩ := wk_cells HLY.out.hp; obtain ⟨X1, HX1, HCX, HPW⟩ : ∃ X1, Hid ((Y.setCell ⟨b, 10, none⟩ (.int .u64 c1)).setCell ⟨b, 2, none⟩ (.int .i64 3) = X1) /\ Hid (Chg Y X1 (fun j => j = b)) /\ Hid (Hp X1 b 50 (wkC sb tb 3 k.hk k.qn k.ev.1 k.ev.2 k.ve k.pg (some ⟨mb, 0, none⟩) c1)) := ⟨_, rfl, (Chg.set _ _ _ _).app (Chg.set _ _ _ _), (HLY.out.hp.set 10 (.int .u64 c1)).set 2 (.int .i64 3)⟩; have HPX := keepG (HPY.out.chg HCX.out HBN.out); have HNX := keepG (HNY.out.chg HCX.out HNE.out.1); clear hbY hm2 hc2 z0 z1 z2 z3 z4 z5 z6 f0 f1 f2 f3 f4 f5 f6 c2 c9))
    | (rw [HY.out, HN.out])
    | (rw [HX1.out]; have z0 := HPX.out.cell (j := 0) rfl; have z1 := HPX.out.cell (j := 1) rfl; have z2 := HPX.out.cell (j := 2) rfl; have z3 := HPX.out.cell (j := 3) rfl; have z4 := HPX.out.cell (j := 4) rfl; have z5 := HPX.out.cell (j := 5) rfl; have z6 := HPX.out.cell (j := 6) rfl; have f0 := HPX.out.frozen 0; have f1 := HPX.out.frozen 1; have f2 := HPX.out.frozen 2; have f3 := HPX.out.frozen 3; have f4 := HPX.out.frozen 4; have f5 := HPX.out.frozen 5; have f6 := HPX.out.frozen 6; have y0 := HNX.out.cell (j := 0) rfl; have y1 := HNX.out.cell (j := 1) rfl; have y2 := HNX.out.cell (j := 2) rfl; have y3 := HNX.out.cell (j := 3) rfl; have y4 := HNX.out.cell (j := 4) rfl; have y5 := HNX.out.cell (j := 5) rfl; have y6 := HNX.out.cell (j := 6) rfl; skip))
   have hd : k' = ⟨3, k.hk, k.qn, k.ev, k.ve, k.pg, k.cl + 1, k.ms, k.xs, M', k.td⟩ := by rw [<- HD.out]; unfold Wk.did; rw [if_pos rfl]
   subst hd
   have HLX := HLY.out.put1 (k' := ⟨3, k.hk, k.qn, k.ev, k.ve, k.pg, k.cl + 1, k.ms, k.xs, M', k.td⟩) (mp' := some ⟨mb, 0, none⟩) (FM' := FM) HCX.out (by have := HPW.out; rw [<- HC1.out] at this; exact this) rfl rfl (fun _ e => e) ((HLY.out.ma.keep HCX.out (fun e => HH.out.ne.1 e.symm) (fun j hj e => HH.out.ap.1 (by rw [<- e]; exact hj))).as (by show 2 <= k.md; have := H2.out; omega) (show 2 <= 3 by omega) rfl rfl rfl rfl)
   exact acb_ret (a := ⟨2, apc, am, ao, aq, av, an⟩) rfl rfl rfl (HPX.out.sets (acC ⟨2, apc, am, ao, aq, av, an⟩) 0) ⟨rfl, Dw.box HLX (HCY.out.trans HCX.out (fun j _ e => .inl e)) (fun _ e => e) HH.out (Nat.le_refl _) ⟨2, apc, am, ao, aq, av, an⟩⟩
  ·have a2b : (ak == 2) = false := by simpa using a2
   by_cases a4 : ak = 4
   ·subst a4
    obtain ⟨c1, HC1⟩ : ∃ c1 : Int, Hid (((k.cl + 1 : Nat) : Int) = c1) := ⟨_, rfl⟩
    have hwc : IntKind.u64.wrap ((k.cl : Int) + 1) = c1 := by have h1 := HST.out.2; have h2 := HC1.out; rw [IntKind.wrap_u64]; omega
    have hws : IntKind.u64.wrap (M'.steps : Int) = M'.steps := by have h1 := HST.out.1; rw [IntKind.wrap_u64]; omega
    go_enter Tryz.func15, Tryz.ntmps15
    go_wp2_with (first
     | (rw [HW.out])
     | (go_at_call 23; go_must (refine HC.out.mono ?_); rintro e w2 ⟨rfl, hc2, hm2⟩; go_must (have HL2 := keepG (HL.out.moved (by have := H2.out; omega) HF.out hc2 hm2); have HC2 := keepG (Chg.app HB.out (chg_own hc2 (show FM mb by rw [HF.out]; exact .inl rfl))); have HP2 := keepG (HP.out.chg hc2 (fun e => by (have h1 := HH.out.sc.lt; have h2 := HH.out.li mb (show FM mb by rw [HF.out]; exact .inl rfl); omega))); dsimp only [acV, actV]; obtain ⟨Y, HY, HNY, hbY⟩ : ∃ Y, Hid (w2.alloc (.cells #[.int .i64 4, .int .i64 apc, .int .i64 am, .int .i64 ao, .int .u64 aq, .int .u64 av, .int .u64 an] 71) = Y) /\ Hid (Hp Y w2.heap.size 71 (acC ⟨4, apc, am, ao, aq, av, an⟩)) /\ Below w2.heap.size w2 Y := ⟨_, rfl, Hp.new w2 _ _, below_allocG _ _⟩; obtain ⟨ny, HN⟩ : ∃ ny, Hid (w2.heap.size = ny) := ⟨_, rfl⟩; rw [HN.out] at HNY; have HLY := keepG (HL2.out.below hbY); have HPY := keepG (HP2.out.below hbY HP2.out.lt); have HCY := keepG (Chg.app HC2.out (Chg.of_below (S := ftW b sb tb FM) hbY)); have HNE : Hid (ny ≠ b /\ ny ≠ w.heap.size) := (by have h1 := HL2.out.hp.lt; have h2 := HP2.out.lt; have h3 := HN.out; exact ⟨by omega, by omega⟩); have HBN : Hid (w.heap.size ≠ b) := (by have h1 := HH.out.hp.lt; show _ ≠ _; omega); have y0 := HNY.out.cell (j := 0) rfl; have y1 := HNY.out.cell (j := 1) rfl; have y2 := HNY.out.cell (j := 2) rfl; have y3 := HNY.out.cell (j := 3) rfl; have y4 := HNY.out.cell (j := 4) rfl; have y5 := HNY.out.cell (j := 5) rfl; have y6 := HNY.out.cell (j := 6) rfl; obtain ⟨⟨d0, d1, d2, d3, d4, d5, d6, d7, d8, d9, d10⟩, g2, g3, g4, g5, g6, g7, g8, g9, g10⟩ := wk_cells HLY.out.hp; clear hbY hm2 hc2 z0 z1 z2 z3 z4 z5 z6 f0 f1 f2 f3 f4 f5 f6 c2 c9))
     | (rw [HY.out, HN.out]))
    have HQR : Hid (ranL k.td k.hk (M'.steps : Int) (k.cl : Int) an = (0, k.td ++ [⟨k.hk, false, M'.steps, k.cl, an⟩])) := by
     have hh := HKO.out.hk
     have : isH k.hk = true := by simp [isH]; omega
     show _ = _
     unfold ranL
     rw [if_pos this]
    refine wp_region_held_drew (S := fun w' => w'.cell? ⟨b, 1, none⟩ = some (.pointer (some ⟨tb, 0, none⟩)) /\ w'.cell? ⟨b, 3, none⟩ = some (.int .i64 k.hk) /\ w'.cell? ⟨b, 9, none⟩ = some (.pointer (some ⟨mb, 0, none⟩)) /\ w'.cell? ⟨b, 10, none⟩ = some (.int .u64 k.cl) /\ w'.cell? ⟨ny, 6, none⟩ = some (.int .u64 an)) (by kernel_rfl) ⟨d1, d3, d9, d10, y6⟩ (fun hHeld => ?_)
    refine tkGo [0, 1, 2, 3, 4, 5, 6, 7, 8, 9, 10, 11, 12, 13, 16, 17, 18, 19, 20, 21, 22] ?_
    repeat (refine tkO (v := ?_) rfl ?_ ?_; rotate_left; (intro wy hSw; (try dsimp only at hSw); go_simp; (first | done | with_reducible rfl)); try simp only [Act.put, p1q, p2q, p3q, p4q, p5q, p6q])
    refine tkEnd ?_
    refine runO 14 (by kernel_rfl) rfl (by rfl) (fun KK hK => ?_)
    go_simp
    go_at_call 26
    have HLD := keepG (HLY.out.below (below_drG (Below.refl _ _)))
    have HND := keepG (HNY.out.below (below_drG (Below.refl _ _)) HNY.out.lt)
    have HPD := keepG (HPY.out.below (below_drG (Below.refl _ _)) HPY.out.lt)
    obtain ⟨gx, -⟩ | ⟨-, mb', vm', cb', co', ccap', em, HMD, -⟩ := HLD.out.ma
    ·exact absurd (show k.md <= 1 from gx) (by have := H2.out; omega)
    obtain rfl : mb = mb' := by injection em with em; injection em
    refine (msteps_any Y.drew HMD.ma).mono ?_
    rintro e w4 ⟨rfl, rfl⟩
    go_simp
    refine hK.out _ _ (let g := (wk_cells HLD.out.hp).1; ⟨g.2.1, g.2.2.2.1, g.2.2.2.2.2.2.2.2.2.1, g.2.2.2.2.2.2.2.2.2.2, HND.out.cell rfl⟩) (fun hHeld => ?_)
    clear hK KK
    try simp only [Act.put, p1q, p2q, p3q, p4q, p5q, p6q]
    refine tkGo [15] ?_
    repeat (refine tkO (v := ?_) rfl ?_ ?_; rotate_left; (intro wy hSw; (try dsimp only at hSw); go_simp; (first | done | with_reducible rfl)); try simp only [Act.put, p1q, p2q, p3q, p4q, p5q, p6q])
    refine tkEnd ?_
    refine runO 23 (by kernel_rfl) rfl (by rfl) (fun KK hK => ?_)
    go_simp
    go_at_call 25
    refine (HLD.out.st.ran k.hk M'.steps k.cl an HQR).mono ?_
    rintro e w5 ⟨rfl, hs5, hc5⟩
    have HL5 := keepG (HLD.out.told hs5 hc5)
    have HP5 := keepG (HPD.out.chg hc5 (fun e => by have h1 := Hp.lt HH.out.st; omega))
    have HN5 := keepG (HND.out.chg hc5 (fun e => by have h1 := Hp.lt HL2.out.st; have h2 := HN.out; omega))
    have HC5 : Hid (Chg w w5 (ftW b sb tb FM)) := (Chg.app HCY.out (Chg.of_below (S := ftW b sb tb FM) (below_drG (Below.refl _ _)))).trans hc5 (fun j _ e => .inr (.inr (.inl e)))
    clear hs5 hc5
    go_simp
    refine hK.out _ _ (let g := (wk_cells HL5.out.hp).1; ⟨g.2.1, g.2.2.2.1, g.2.2.2.2.2.2.2.2.2.1, g.2.2.2.2.2.2.2.2.2.2, HN5.out.cell rfl⟩) (fun hHeld => ?_)
    clear hK KK d0 d1 d2 d3 d4 d5 d6 d7 d8 d9 d10 g2 g3 g4 g5 g6 g7 g8 g9 g10 y0 y1 y2 y3 y4 y5 y6
    try simp only [Act.put, p1q, p2q, p3q, p4q, p5q, p6q]
    refine wpAnyH_done (by kernel_rfl) ?_ _
    obtain ⟨⟨d0, d1, d2, d3, d4, d5, d6, d7, d8, d9, d10⟩, g2, g3, g4, g5, g6, g7, g8, g9, g10⟩ := wk_cells HL5.out.hp
    obtain ⟨X1, HX1, HCX, HPW⟩ : ∃ X1, Hid (((((((((w5.setCell ⟨b, 2, none⟩ (.int .i64 0)).setCell ⟨b, 3, none⟩ (.int .i64 0)).setCell ⟨b, 4, none⟩ (.int .i64 0)).setCell ⟨b, 5, none⟩ (.int .u64 0)).setCell ⟨b, 6, none⟩ (.int .u64 0)).setCell ⟨b, 7, none⟩ (.int .i64 0)).setCell ⟨b, 8, none⟩ (.int .i64 0)).setCell ⟨b, 9, none⟩ (.pointer none)).setCell ⟨b, 10, none⟩ (.int .u64 0) = X1) /\ Hid (Chg w5 X1 (fun j => j = b)) /\ Hid (Hp X1 b 50 (wkC sb tb 0 0 0 0 0 0 0 none 0)) := ⟨_, rfl, Chg.sets w5 b 2 (jobC 0 0 0 0 0 0 0 none 0), HL5.out.hp.sets (jobC 0 0 0 0 0 0 0 none 0) 2⟩
    have HPX := keepG (HP5.out.chg HCX.out HBN.out)
    have HNX := keepG (HN5.out.chg HCX.out HNE.out.1)
    go_wp2_with (rw [HX1.out]; have z0 := HPX.out.cell (j := 0) rfl; have z1 := HPX.out.cell (j := 1) rfl; have z2 := HPX.out.cell (j := 2) rfl; have z3 := HPX.out.cell (j := 3) rfl; have z4 := HPX.out.cell (j := 4) rfl; have z5 := HPX.out.cell (j := 5) rfl; have z6 := HPX.out.cell (j := 6) rfl; have f0 := HPX.out.frozen 0; have f1 := HPX.out.frozen 1; have f2 := HPX.out.frozen 2; have f3 := HPX.out.frozen 3; have f4 := HPX.out.frozen 4; have f5 := HPX.out.frozen 5; have f6 := HPX.out.frozen 6; have y0 := HNX.out.cell (j := 0) rfl; have y1 := HNX.out.cell (j := 1) rfl; have y2 := HNX.out.cell (j := 2) rfl; have y3 := HNX.out.cell (j := 3) rfl; have y4 := HNX.out.cell (j := 4) rfl; have y5 := HNX.out.cell (j := 5) rfl; have y6 := HNX.out.cell (j := 6) rfl; skip)
    have hd : k' = Wk.idle M' (k.td ++ [⟨k.hk, false, M'.steps, k.cl, an⟩]) := by rw [<- HD.out]; unfold Wk.did; rw [if_neg (show ¬ (4 : Int) = 2 by decide), if_pos rfl]
    subst hd
    have HLX := HL5.out.put1 (k' := Wk.idle M' (k.td ++ [⟨k.hk, false, M'.steps, k.cl, an⟩])) (mp' := none) (FM' := fun _ => False) HCX.out HPW.out rfl rfl (fun _ e => e.elim) (.inl ⟨Nat.zero_le _, rfl, rfl, rfl⟩)
    exact acb_ret (a := ⟨4, apc, am, ao, aq, av, an⟩) rfl rfl rfl (HPX.out.sets (acC ⟨4, apc, am, ao, aq, av, an⟩) 0) ⟨rfl, Dw.box HLX (HC5.out.trans HCX.out (fun j _ e => .inl e)) (fun _ e => e.elim) HH.out (Nat.le_refl _) ⟨4, apc, am, ao, aq, av, an⟩⟩
   ·have a4b : (ak == 4) = false := by simpa using a4
    obtain ⟨c1, HC1⟩ : ∃ c1 : Int, Hid (((k.cl + 1 : Nat) : Int) = c1) := ⟨_, rfl⟩
    have hwc : IntKind.u64.wrap ((k.cl : Int) + 1) = c1 := by have h1 := HST.out.2; have h2 := HC1.out; rw [IntKind.wrap_u64]; omega
    have hws : IntKind.u64.wrap (M'.steps : Int) = M'.steps := by have h1 := HST.out.1; rw [IntKind.wrap_u64]; omega
    go_enter Tryz.func15, Tryz.ntmps15
    go_wp2_with (first
     | (rw [HW.out])
     | (go_at_call 23; go_must (refine HC.out.mono ?_); rintro e w2 ⟨rfl, hc2, hm2⟩; go_must (have HL2 := keepG (HL.out.moved (by have := H2.out; omega) HF.out hc2 hm2); have HC2 := keepG (Chg.app HB.out (chg_own hc2 (show FM mb by rw [HF.out]; exact .inl rfl))); have HP2 := keepG (HP.out.chg hc2 (fun e => by (have h1 := HH.out.sc.lt; have h2 := HH.out.li mb (show FM mb by rw [HF.out]; exact .inl rfl); omega))); dsimp only [acV, actV]; obtain ⟨Y, HY, HNY, hbY⟩ : ∃ Y, Hid (w2.alloc (.cells #[.int .i64 ak, .int .i64 apc, .int .i64 am, .int .i64 ao, .int .u64 aq, .int .u64 av, .int .u64 an] 71) = Y) /\ Hid (Hp Y w2.heap.size 71 (acC ⟨ak, apc, am, ao, aq, av, an⟩)) /\ Below w2.heap.size w2 Y := ⟨_, rfl, Hp.new w2 _ _, below_allocG _ _⟩; obtain ⟨ny, HN⟩ : ∃ ny, Hid (w2.heap.size = ny) := ⟨_, rfl⟩; rw [HN.out] at HNY; have HLY := keepG (HL2.out.below hbY); have HPY := keepG (HP2.out.below hbY HP2.out.lt); have HCY := keepG (Chg.app HC2.out (Chg.of_below (S := ftW b sb tb FM) hbY)); have HNE : Hid (ny ≠ b /\ ny ≠ w.heap.size) := (by have h1 := HL2.out.hp.lt; have h2 := HP2.out.lt; have h3 := HN.out; exact ⟨by omega, by omega⟩); have HBN : Hid (w.heap.size ≠ b) := (by have h1 := HH.out.hp.lt; show _ ≠ _; omega); have y0 := HNY.out.cell (j := 0) rfl; have y1 := HNY.out.cell (j := 1) rfl; have y2 := HNY.out.cell (j := 2) rfl; have y3 := HNY.out.cell (j := 3) rfl; have y4 := HNY.out.cell (j := 4) rfl; have y5 := HNY.out.cell (j := 5) rfl; have y6 := HNY.out.cell (j := 6) rfl; obtain ⟨⟨d0, d1, d2, d3, d4, d5, d6, d7, d8, d9, d10⟩, g2, g3, g4, g5, g6, g7, g8, g9, g10⟩ := wk_cells HLY.out.hp; have z0 := HPY.out.cell (j := 0) rfl; have z1 := HPY.out.cell (j := 1) rfl; have z2 := HPY.out.cell (j := 2) rfl; have z3 := HPY.out.cell (j := 3) rfl; have z4 := HPY.out.cell (j := 4) rfl; have z5 := HPY.out.cell (j := 5) rfl; have z6 := HPY.out.cell (j := 6) rfl; have f0 := HPY.out.frozen 0; have f1 := HPY.out.frozen 1; have f2 := HPY.out.frozen 2; have f3 := HPY.out.frozen 3; have f4 := HPY.out.frozen 4; have f5 := HPY.out.frozen 5; have f6 := HPY.out.frozen 6; clear hbY hm2 hc2 c2 c9))
     | (rw [HY.out, HN.out]))
    have hd : k' = ⟨2, k.hk, k.qn, k.ev, k.ve, k.pg, k.cl, k.ms, k.xs, M', k.td⟩ := by rw [<- HD.out]; unfold Wk.did; rw [if_neg a2, if_neg a4]
    have hm2 := H2.out
    have e2 : k' = ⟨k.md, k.hk, k.qn, k.ev, k.ve, k.pg, k.cl, k.ms, k.xs, M', k.td⟩ := by rw [hd, hm2]
    subst e2
    exact acb_ret (a := ⟨ak, apc, am, ao, aq, av, an⟩) rfl rfl rfl (HPY.out.sets (acC ⟨ak, apc, am, ao, aq, av, an⟩) 0) ⟨rfl, Dw.box HLY.out HCY.out (fun _ e => e) HH.out (Nat.le_refl _) ⟨ak, apc, am, ao, aq, av, an⟩⟩
 ·rw [if_pos h2] at hq
  injection hq with e1 hq
  injection hq with e2 e3
  subst e1 e2 e3
  have h2I : ¬ (k.md : Int) = 2 := by omega
  have h2b : ((k.md : Int) == 2) = false := by simpa using h2I
  go_enter Tryz.func15, Tryz.ntmps15
  go_wp2_with (rw [HW.out])
  exact acb_ret (a := Ac.nil) rfl rfl rfl (HP.out.sets (acC Ac.nil) 0) ⟨rfl, Dw.box HL.out HB.out (fun _ e => e) HH.out (Nat.le_refl _) Ac.nil⟩
end
def Lk (w : World) (B b : Nat) (F : Ft) (k : Wk) : Prop := ∃ sb tb mp FM, Lw w b sb tb mp FM k /\ F = ftW b sb tb FM
section
variable {w w' : World} {B b : Nat} {F F' G : Ft} {k k' : Wk}
theorem Lk.lies (h : Lk w B b F k) : Lies w F := by
 obtain ⟨sb, tb, mp, FM, h, rfl⟩ := h
 exact h.lies
theorem Lk.keeps (h : Lk w B b F k) (hc : Chg w w' G) (ha : Apt G F) : Lk w' B b F k := by
 obtain ⟨sb, tb, mp, FM, h, rfl⟩ := h
 exact ⟨sb, tb, mp, FM, h.keep hc ha, rfl⟩
theorem lknew (w : World) : Calls Tryz.prog 5 #[] w fun e w' => ∃ b F, e = .returned (.pointer (some ⟨b, 0, none⟩)) /\ Lk w' w.heap.size b F Wk.new /\ Since w F /\ Below w.heap.size w w' := by
 refine (lwnew w).mono ?_
 rintro e w' ⟨b, sb, tb, rfl, h, ⟨g1, g2, g3⟩, hb⟩
 refine ⟨b, _, rfl, ⟨sb, tb, _, _, h, rfl⟩, fun j hj => ?_, hb⟩
 rcases hj with rfl | rfl | rfl | hj
 ·exact g1
 ·exact g2
 ·exact g3
 ·exact hj.elim
theorem Dw.obj {sb tb : Nat} {FM : Ft} (h : Dw w w' b sb tb FM k') : ∃ F', Lk w' B b F' k' /\ Nx w w' (ftW b sb tb FM) F' := by
 obtain ⟨mp', FM', h1, h2, h3⟩ := h
 refine ⟨_, ⟨sb, tb, mp', FM', h1, rfl⟩, h2, fun j hj => ?_⟩
 rcases hj with hj | hj | hj | hj
 ·exact .inl (.inl hj)
 ·exact .inl (.inr (.inl hj))
 ·exact .inl (.inr (.inr (.inl hj)))
 ·exact (h3 j hj).imp (fun e => .inr (.inr (.inr e))) id
theorem Lk.take (h : Lk w B b F k) (hk : k.Ok) (hB : B <= w.heap.size) (x n : Int) (ev : Int × Int) {E : Int} (HQ : Hid (k.take x n ev = (E, k'))) : Calls Tryz.prog 7 #[.pointer (some ⟨b, 0, none⟩), .int .i64 x, qdV n ev] w fun e w' => e = .returned (.int .i64 E) /\ ∃ F', Lk w' B b F' k' /\ Nx w w' F F' := by
 obtain ⟨sb, tb, mp, FM, h, rfl⟩ := h
 exact (h.take x n ev HQ).mono fun e w' g => ⟨g.1, g.2.obj⟩
theorem Lk.enter (h : Lk w B b F k) (hk : k.Ok) (hB : B <= w.heap.size) (v p : Int) {vm vc : Value} {ms : List Int} {xs : List In} (hm : SeesM w vm vc ms xs) (ha1 : ms ≠ [] -> Apt F (ftV vm)) (ha2 : xs ≠ [] -> Apt F (ftV vc)) {E : Int} (HQ : Hid (k.enter v p ms xs = (E, k'))) : Calls Tryz.prog 10 #[.pointer (some ⟨b, 0, none⟩), .int .i64 v, .int .i64 p, modV vm vc] w fun e w' => e = .returned (.int .i64 E) /\ ∃ F', Lk w' B b F' k' /\ Nx w w' F F' := by
 obtain ⟨sb, tb, mp, FM, h, rfl⟩ := h
 exact (h.enter hk v p hm ha1 ha2 HQ).mono fun e w' g => ⟨g.1, g.2.obj⟩
theorem Lk.skip (h : Lk w B b F k) (hk : k.Ok) (hB : B <= w.heap.size) {E : Int} (HQ : Hid (k.skip = (E, k'))) : Calls Tryz.prog 12 #[.pointer (some ⟨b, 0, none⟩)] w fun e w' => e = .returned (.int .i64 E) /\ ∃ F', Lk w' B b F' k' /\ Nx w w' F F' := by
 obtain ⟨sb, tb, mp, FM, h, rfl⟩ := h
 exact (h.skip hk HQ).mono fun e w' g => ⟨g.1, g.2.obj⟩
theorem Lk.step (h : Lk w B b F k) (hk : k.Ok) (hB : B <= w.heap.size) {a : Ac} {r : Bool} (HQ : Hid (k.step = (a, r, k'))) : Calls Tryz.prog 15 #[.pointer (some ⟨b, 0, none⟩)] w fun e w' => e = .returned (.tuple #[acV a, .bool r]) /\ ∃ F', Lk w' B b F' k' /\ Nx w w' F F' := by
 obtain ⟨sb, tb, mp, FM, h, rfl⟩ := h
 exact (h.step hk HQ).mono fun e w' g => ⟨g.1, g.2.obj⟩
theorem Lk.answer (h : Lk w B b F k) (hk : k.Ok) (hB : B <= w.heap.size) (r : Rs) (hr : r.wf) {E : Int} (HQ : Hid (k.answer r.E r.f r.v = (E, k'))) : Calls Tryz.prog 16 #[.pointer (some ⟨b, 0, none⟩), resV r.E r.f r.v r.o r.k r.u] w fun e w' => e = .returned (.int .i64 E) /\ ∃ F', Lk w' B b F' k' /\ Nx w w' F F' := by
 obtain ⟨sb, tb, mp, FM, h, rfl⟩ := h
 exact (h.answer hk r hr HQ).mono fun e w' g => ⟨g.1, g.2.obj⟩
theorem Lk.mode (h : Lk w B b F k) : Calls Tryz.prog 11 #[.pointer (some ⟨b, 0, none⟩)] w fun e w' => e = .returned (.int .i64 k.md) /\ Below w.heap.size w w' := by
 obtain ⟨sb, tb, mp, FM, h, rfl⟩ := h
 exact h.mode
theorem Lk.runs (h : Lk w B b F k) : Calls Tryz.prog 14 #[.pointer (some ⟨b, 0, none⟩)] w fun e w' => e = .returned (.tuple #[.int .i64 k.ve, .int .i64 k.pg]) /\ Below w.heap.size w w' := by
 obtain ⟨sb, tb, mp, FM, h, rfl⟩ := h
 exact h.runs
theorem Lk.stat (h : Lk w B b F k) : ∃ tb, w.cell? ⟨b, 1, none⟩ = some (.pointer (some ⟨tb, 0, none⟩)) /\ ∀ (x : Int) (E : Int) (T : Ta), Hid ((if isH x = true then (ofL x k.td, (0 : Int)) else (Ta.nil, 2)) = (T, E)) -> Calls Tryz.prog 6 #[.pointer (some ⟨tb, 0, none⟩), .int .i64 x] w fun e w' => e = .returned (.tuple #[taV T, .int .i64 E]) /\ Below w.heap.size w w' := by
 obtain ⟨sb, tb, mp, FM, h, rfl⟩ := h
 exact ⟨tb, h.hp.cell rfl, fun x E T HQ => h.st.of x HQ⟩
end
end Go.Proofs.YtkondcjmhlppiaaGreat
