/-
  R24Del
  R24LC
  R24LD
-/
import Derived.Test.YtibolefffjkblaaGreatMQ0
import Derived.Test.YtibolefffjkblaaGreatMQ33
import Derived.Test.YtibolefffjkblaaGreatMQ18
import Derived.OwnWalk
namespace Go.Proofs.YtibolefffjkblaaGreat
open Go.RowKit
set_option linter.unusedVariables false
set_option linter.unusedSimpArgs false
set_option maxRecDepth 100000
theorem infoPw : (Tryz.prog.info? 106).map (fun i => (i.zero, i.size, i.bytes)) = some (some (.agg #[.int .i64 0, .slice none 0 0, .slice none 0 0, .int .i64 0]), 4, 64) := by kernel_rfl
theorem pw_one (p : Pw) (h : ShM p.md) : ∀ u ∈ pwC p, u.oneCell' = true := by
 obtain ⟨pn, ⟨um, uc, ms, xs⟩, g⟩ := p
 obtain ⟨⟨a, n, c, e1⟩, ⟨a', n', c', e2⟩⟩ := h
 simp only at e1 e2
 subst e1 e2
 intro u hu
 simp only [pwC, List.mem_cons, List.not_mem_nil, or_false] at hu
 rcases hu with rfl | rfl | rfl | rfl <;> rfl
section
variable {w w' w0 w1 w2 w3 : World} {b bt br bc gc m : Nat} {G H Ft1 Fr : Ft} {r : Rg} {tb : Tb} {P : Rs_g} {ck : Ck}
def fNew (b : Nat) (Ft1 Fr Fc : Ft) : Nat -> Ft
 | 0 => fun k => k = b
 | 1 => Ft1
 | 2 => Fr
 | 3 => Fc
 | 4 => ftV (.slice none 0 0)
 | 5 => ftV (.slice none 0 0)
 | _ + 6 => ftM []
theorem Mr.made (Ht : Lt w1 w0.heap.size bt Ft1 tb) (St : Since w0 Ft1) (B1 : Below w0.heap.size w0 w1) (Hr : Lq_g w2 w1.heap.size br Fr m P) (Sr : Since w1 Fr) (B2 : Below w1.heap.size w1 w2) (Hc : Ec w3 bc gc ck) (Sic : Since w2 (ftE bc gc)) (B3 : Below w2.heap.size w2 w3) (cs : List Value) :
  Mr (w3.alloc (.cells cs.toArray 54)) w3.heap.size (fNew w3.heap.size Ft1 Fr (ftE bc gc)) ⟨cs, bt, br, bc, gc, tb, m, P, ck, .slice none 0 0, [], .slice none 0 0, [], []⟩ /\ Since w0 (unF 7 (fNew w3.heap.size Ft1 Fr (ftE bc gc))) /\ Below w0.heap.size w0 (w3.alloc (.cells cs.toArray 54)) := by
 have z1 := B1.size
 have z2 := B2.size
 have z3 := B3.size
 have hs : (w3.alloc (.cells cs.toArray 54)).heap.size = w3.heap.size + 1 := by simp
 have lt := Ht.lies
 have lr := Hr.lies
 have lc := Hc.lies
 have rng : ∀ i k, fNew w3.heap.size Ft1 Fr (ftE bc gc) i k -> (i = 0 /\ k = w3.heap.size) ∨ (i = 1 /\ w0.heap.size <= k /\ k < w1.heap.size) ∨ (i = 2 /\ w1.heap.size <= k /\ k < w2.heap.size) ∨ (i = 3 /\ w2.heap.size <= k /\ k < w3.heap.size) := fun i k e => by
  match i, e with
  | 0, e => exact .inl ⟨rfl, e⟩
  | 1, e => exact .inr (.inl ⟨rfl, St k e, lt k e⟩)
  | 2, e => exact .inr (.inr (.inl ⟨rfl, Sr k e, lr k e⟩))
  | 3, e => exact .inr (.inr (.inr ⟨rfl, Sic k e, lc k e⟩))
  | 4, e => cases e
  | 5, e => cases e
  | _ + 6, e => obtain ⟨q, hq, _⟩ := e; cases hq
 have b4 := below_allocG w3 (.cells cs.toArray 54)
 have b34 : Below w2.heap.size w2 (w3.alloc (.cells cs.toArray 54)) := B3.trans (b4.mono z3)
 have b24 : Below w1.heap.size w1 (w3.alloc (.cells cs.toArray 54)) := B2.trans (b34.mono z2)
 refine ⟨⟨fun i hi => ?_, fun i hi k e => ?_, fun i j hi hj hne k e e2 => ?_⟩, fun k e => ?_, B1.trans (b24.mono z1)⟩
 ·show ObR _ _ _ i _
  match i with
  | 0 => exact ⟨rfl, Hp.new w3 cs _⟩
  | 1 => exact ⟨w0.heap.size, by omega, Ht.keeps (G := fun _ => False) (Chg.of_below b24) (fun _ e => e.elim)⟩
  | 2 => exact ⟨w1.heap.size, by omega, Hr.keeps (G := fun _ => False) (Chg.of_below b34) (fun _ e => e.elim)⟩
  | 3 => exact ⟨rfl, Hc.below b4⟩
  | 4 => exact ⟨rfl, World.ownsRow_nil _ _ _ _⟩
  | 5 => exact ⟨rfl, World.ownsRow_nil _ _ _ _⟩
  | _ + 6 => exact ⟨rfl, fun q hq => by cases hq⟩
 ·rcases rng i k e with g | g | g | g <;> omega
 ·rcases rng i k e with g | g | g | g <;> rcases rng j k e2 with g2 | g2 | g2 | g2 <;> omega
 ·obtain ⟨i, hi, e⟩ := e
  rcases rng i k e with g | g | g | g <;> omega
theorem lhnew_any (n : Int) (w : World) : Calls Tryz.prog 30 #[.int .i64 n] w fun e w' => ∃ v E, e = .returned (.tuple #[.pointer v, .int .i64 E]) /\ Below w.heap.size w w' := by
 by_cases h : n < 1 ∨ 4 < n
 ·refine (ltnew_no n h w).mono ?_
  rintro e w' ⟨rfl, rfl⟩
  exact ⟨_, _, rfl, Below.refl _ _⟩
 ·obtain ⟨k, rfl⟩ : ∃ k : Nat, n = k := ⟨n.toNat, by omega⟩
  refine (ltnew_ok k (by omega) (by omega) w).mono ?_
  rintro e w' ⟨b, F, rfl, _, _, h3⟩
  exact ⟨_, _, rfl, h3⟩
theorem lqnew_any (n : Int) (w : World) : Calls Tryz.prog 31 #[.int .i64 n] w fun e w' => ∃ v E, e = .returned (.tuple #[.pointer v, .int .i64 E]) /\ Below w.heap.size w w' := by
 by_cases h : n < 0 ∨ 4 < n
 ·refine (lqnew_no n h w).mono ?_
  rintro e w' ⟨rfl, rfl⟩
  exact ⟨_, _, rfl, Below.refl _ _⟩
 ·obtain ⟨k, rfl⟩ : ∃ k : Nat, n = k := ⟨n.toNat, by omega⟩
  refine (lqnew_ok k (by omega) w).mono ?_
  rintro e w' ⟨b, F, rfl, _, _, h3⟩
  exact ⟨_, _, rfl, h3⟩
theorem lenew_any (n : Int) (w : World) : Calls Tryz.prog 32 #[.int .i64 n] w fun e w' => ∃ v E, e = .returned (.tuple #[.pointer v, .int .i64 E]) /\ Below w.heap.size w w' := by
 by_cases h : n < 1 ∨ 4 < n
 ·refine (lnew_no n h w).mono ?_
  rintro e w' ⟨rfl, rfl⟩
  exact ⟨_, _, rfl, Below.refl _ _⟩
 ·obtain ⟨k, rfl⟩ : ∃ k : Nat, n = k := ⟨n.toNat, by omega⟩
  refine (lnew_ok k (by omega) (by omega) w).mono ?_
  rintro e w' ⟨rfl, _, _, h3⟩
  exact ⟨_, _, rfl, h3⟩
set_option maxHeartbeats 1600000 in
theorem lrnew_ok (h m k : Nat) (h1 : 1 <= h) (h2 : h <= 4) (hm : m <= 4) (k1 : 1 <= k) (k2 : k <= 4) (w : World) : Calls Tryz.prog 9 #[.int .i64 h, .int .i64 m, .int .i64 k] w fun e w' => ∃ b bt br bc G, e = .returned (.tuple #[.pointer (some ⟨b, 0, none⟩), .int .i64 0]) /\ Lr w' b bt br bc G (Rg.new h m k) /\ Since w G /\ Below w.heap.size w w' := by
 go_enter Tryz.func9, Tryz.ntmps9
 go_wp2_with (first
  | (go_at_call 30; go_must (refine (ltnew_ok h h1 h2 _).mono ?_); rintro e w1 ⟨bt, Ft1, rfl, t1, t2, t3⟩; go_must (have Ht1n := keepG t1; have Ht2n := keepG t2; have Ht3n := keepG t3; clear t1 t2 t3))
  | (go_at_call 31; go_must (refine (lqnew_ok m hm _).mono ?_); rintro e w2 ⟨br, Fr, rfl, r1, r2, r3⟩; go_must (have Hr1n := keepG r1; have Hr2n := keepG r2; have Hr3n := keepG r3; clear r1 r2 r3))
  | (go_at_call 32; go_must (refine (lnew_ok k k1 k2 _).mono ?_); rintro e w3 ⟨rfl, c1, c2, c3⟩; go_must (have Hc1n := keepG c1; have Hc2n := keepG c2; have Hc3n := keepG c3; clear c1 c2 c3)))
 go_ret2
 obtain ⟨a1, a2, a3⟩ := Mr.made Ht1n.out Ht2n.out Ht3n.out Hr1n.out Hr2n.out Hr3n.out Hc1n.out Hc2n.out Hc3n.out [.pointer (some ⟨bt, 0, none⟩), .pointer (some ⟨br, 0, none⟩), .pointer (some ⟨w2.heap.size + 1, 0, none⟩), .int .i64 h, .int .i64 0, .slice none 0 0, .slice none 0 0]
 refine ⟨w3.heap.size, bt, br, w2.heap.size + 1, unF 7 (fNew w3.heap.size Ft1 Fr (ftE (w2.heap.size + 1) w2.heap.size)), rfl, ⟨fNew w3.heap.size Ft1 Fr (ftE (w2.heap.size + 1) w2.heap.size), w2.heap.size, [], .slice none 0 0, [], .slice none 0 0, [], [], ?_, rfl, Rel.new h m k, fun p hp => (by cases hp)⟩, a2, a3⟩
 have e1 : ((Rg.new h m k).tb.at'.length : Int) = h := by simp [Rg.new, Tb.new]
 rw [e1]
 exact a1
set_option maxHeartbeats 1600000 in
theorem lrnew_no (h m k : Int) (hb : (h < 1 ∨ 4 < h) ∨ (m < 0 ∨ 4 < m) ∨ (k < 1 ∨ 4 < k)) (w : World) : Calls Tryz.prog 9 #[.int .i64 h, .int .i64 m, .int .i64 k] w fun e w' => e = .returned (.tuple #[.pointer none, .int .i64 2]) /\ Below w.heap.size w w' := by
 by_cases h1 : h < 1 ∨ 4 < h
 ·clear hb
  go_enter Tryz.func9, Tryz.ntmps9
  go_wp2_with (first
   | (go_at_call 30; go_must (refine (ltnew_no h h1 _).mono ?_); rintro e w1 ⟨rfl, rfl⟩)
   | (go_at_call 31; go_must (refine (lqnew_any m _).mono ?_); rintro e w2 ⟨v2, E2, rfl, b2⟩; go_must (have B2 := keepG b2; clear b2))
   | (go_at_call 32; go_must (refine (lenew_any k _).mono ?_); rintro e w3 ⟨v3, E3, rfl, b3⟩; go_must (have B3 := keepG b3; clear b3)))
  go_ret2
  exact ⟨rfl, B2.out.trans (B3.out.mono B2.out.size)⟩
 ·obtain ⟨n, rfl⟩ : ∃ n : Nat, h = n := ⟨h.toNat, by omega⟩
  have n1 : 1 <= n := by omega
  have n2 : n <= 4 := by omega
  by_cases h2 : m < 0 ∨ 4 < m
  ·clear hb h1
   go_enter Tryz.func9, Tryz.ntmps9
   go_wp2_with (first
    | (go_at_call 30; go_must (refine (ltnew_ok n n1 n2 _).mono ?_); rintro e w1 ⟨bt, Ft1, rfl, _, _, b1⟩; go_must (have B1 := keepG b1; clear b1))
    | (go_at_call 31; go_must (refine (lqnew_no m h2 _).mono ?_); rintro e w2 ⟨rfl, rfl⟩)
    | (go_at_call 32; go_must (refine (lenew_any k _).mono ?_); rintro e w3 ⟨v3, E3, rfl, b3⟩; go_must (have B3 := keepG b3; clear b3)))
   go_ret2
   exact ⟨rfl, B1.out.trans (B3.out.mono B1.out.size)⟩
  ·obtain ⟨q, rfl⟩ : ∃ q : Nat, m = q := ⟨m.toNat, by omega⟩
   have q2 : q <= 4 := by omega
   have h3 : k < 1 ∨ 4 < k := by omega
   clear hb h1 h2
   go_enter Tryz.func9, Tryz.ntmps9
   go_wp2_with (first
    | (go_at_call 30; go_must (refine (ltnew_ok n n1 n2 _).mono ?_); rintro e w1 ⟨bt, Ft1, rfl, _, _, b1⟩; go_must (have B1 := keepG b1; clear b1))
    | (go_at_call 31; go_must (refine (lqnew_ok q q2 _).mono ?_); rintro e w2 ⟨br, Fr, rfl, _, _, b2⟩; go_must (have B2 := keepG b2; clear b2))
    | (go_at_call 32; go_must (refine (lnew_no k h3 _).mono ?_); rintro e w3 ⟨rfl, rfl⟩))
   go_ret2
   exact ⟨rfl, B1.out.trans (B2.out.mono B1.out.size)⟩
theorem Rg.put_ok {r : Rg} {sw : Bool} {x p v E : Int} {r' : Rg} (hx : r.tb.has x = true) (hs : r.st p = 0) (hq : r.put sw x p = (v, E, r')) : ∃ t', r.tb.put sw x p = (v, E, t') /\ r' = ⟨r.mp, t', r.ck, r.ps, r.ln⟩ := by
 unfold Rg.put at hq
 rw [if_neg (by rw [hx]; decide), if_neg (by rw [hs]; decide)] at hq
 injection hq with e1 hq
 injection hq with e2 e3
 subst e1 e2
 exact ⟨_, rfl, e3.symm⟩
theorem Lr.tattach (h : Lr w b bt br bc G r) (hk : r.Ok) (hla : r.tb.last <= 1000000000000000) {x p v E : Int} {r' : Rg} (hx : r.tb.has x = true) (hs : r.st p = 0) (HQ : Hid (r.put false x p = (v, E, r'))) : Calls Tryz.prog 60 #[.pointer (some ⟨bt, 0, none⟩), .int .i64 x, .int .i64 p] w fun e w' => e = .returned (.tuple #[.int .i64 v, .int .i64 E]) /\ ∃ G', Lr w' b bt br bc G' r' /\ Nx w w' G G' := by
 obtain ⟨F, gc, P, ul, L, ut, T, M, h1, rfl, h2, h3⟩ := h.ex
 obtain ⟨B, hB, ht⟩ := h1.tab
 obtain ⟨t', e1, rfl⟩ := Rg.put_ok hx hs HQ.out
 refine (ht.attach hk.tb hB hla x p (show Hid _ from e1)).mono ?_
 rintro e w' ⟨rfl, F', g1, g2⟩
 obtain ⟨a1, a2⟩ := Mr.tabS h1 g2 hB g1
 refine ⟨rfl, _, ⟨_, gc, P, ul, L, ut, T, M, ?_, rfl, h2.same _ _, h3⟩, a2⟩
 rw [(Tb.put_last e1).2.2]
 exact a1
theorem Rel.idxL {L T : List Pw} (h : Rel r L T P) (n : Int) : (r.st n = 0 -> ∃ i, i < L.length /\ (L.getD i Pw.nil).n = n /\ idxP n L = (i : Int)) /\ (r.st n ≠ 0 -> idxP n L = -1) := by
 refine ⟨fun e => ?_, fun e => idxP_no (fun j hj g => e (by rw [<- g]; exact h.stL (getD_memP _ _ hj)))⟩
 obtain ⟨i, hi, hn⟩ := h.findL e
 exact ⟨i, hi, hn, idxP_at hi hn (fun j hj => by rw [<- hn]; exact first_one h.ndL hi j hj)⟩
theorem Rel.idxT {L T : List Pw} (h : Rel r L T P) (hk : r.Ok) (n : Int) : (r.st n = 1 -> ∃ i, i < T.length /\ (T.getD i Pw.nil).n = n /\ idxP n T = (i : Int)) /\ (r.st n ≠ 1 -> idxP n T = -1) := by
 refine ⟨fun e => ?_, fun e => idxP_no (fun j hj g => e (by rw [<- g]; exact h.stT hk (getD_memP _ _ hj)))⟩
 obtain ⟨i, hi, hn⟩ := h.findT hk e
 exact ⟨i, hi, hn, idxP_at hi hn (fun j hj => by rw [<- hn]; exact first_one (h.ndT hk) hi j hj)⟩
set_option maxHeartbeats 1600000 in
theorem lpublish24 (h : Lr w b bt br bc G r) (hk : r.Ok) (fn : Nat) (eg : ∀ args w, (callFunc fn args).run Tryz.prog w = .ok (.enter fn args) w) {sw : Bool} {x p v E : Int} {r' : Rg} (HQ : Hid (r.put sw x p = (v, E, r')))
  (HCT : r.tb.has x = true -> r.st p = 0 -> ∀ w1, Below w.heap.size w w1 -> Calls Tryz.prog fn #[.pointer (some ⟨bt, 0, none⟩), .int .i64 x, .int .i64 p] w1 fun e w' => e = .returned (.tuple #[.int .i64 v, .int .i64 E]) /\ ∃ G', Lr w' b bt br bc G' r' /\ Nx w1 w' G G') :
  Calls Tryz.prog 59 #[.pointer (some ⟨b, 0, none⟩), .func (.func fn) #[.pointer (some ⟨bt, 0, none⟩)] #[], .int .i64 x, .int .i64 p] w fun e w' => e = .returned (.tuple #[.int .i64 v, .int .i64 E]) /\ ∃ G', Lr w' b bt br bc G' r' /\ Nx w w' G G' := by
 have HL := keepG (fun (wr : World) (hb : Below w.heap.size w wr) => h.below hb)
 have hq := HQ.out
 unfold Rg.put at hq
 obtain ⟨_, _, _, c3, _⟩ := h.low
 cases hx : r.tb.has x with
 | false =>
  rw [if_pos hx] at hq
  injection hq with e1 hq
  injection hq with e2 e3
  subst e1 e2 e3
  have hx2 := Tb.has_no hx
  clear HCT h HQ hx
  generalize r.tb.at'.length = q at *
  rcases hx2 with g | g
  ·go_enter Tryz.func59, Tryz.ntmps59
   go_wp2
   go_ret2
   exact ⟨rfl, _, HL.out _ (Below.refl _ _), Nx.refl _ _⟩
  ·have g0 : ¬ x < 0 := by omega
   go_enter Tryz.func59, Tryz.ntmps59
   go_wp2
   go_ret2
   exact ⟨rfl, _, HL.out _ (Below.refl _ _), Nx.refl _ _⟩
 | true =>
  rw [if_neg (by rw [hx]; decide)] at hq
  obtain ⟨g0, g1⟩ := Tb.has_true hx
  have g0' : ¬ x < 0 := by omega
  have g1' : ¬ x ≥ r.tb.at'.length := by omega
  obtain ⟨F, gc, P, ul, L, ut, T, M, h1, hG, h2, h3⟩ := h.ex
  have HF := keepG (lfind (own_seesG pwC_len Pw.nil h1.liv) (by have := (h2.lens hk).1; show L.length <= _; omega) p rfl)
  obtain ⟨ua, uc, eu⟩ := own_shape h1.liv
  have c5 := h1.cell (i := 5) rfl
  simp only at eu c5 HF
  subst eu
  obtain ⟨i0, i1⟩ := h2.idxL p
  by_cases hs : r.st p = 0
  ·obtain ⟨i, hi, hn, hz⟩ := i0 hs
   have HC := keepG (HCT hx hs)
   rw [hz] at HF
   have hi0 : ¬ (i : Int) < 0 := by omega
   clear HCT h hq HQ hx i0 i1 h1 h2 h3 hs hG hz g0 g1
   generalize r.tb.at'.length = q at *
   go_enter Tryz.func59, Tryz.ntmps59
   go_wp2_with (first
    | (go_at_call 54; go_must (refine HF.out.mono ?_); rintro e w1 ⟨rfl, hb1⟩; go_must (have HB1 := keepG hb1; clear hb1))
    | (go_at_fn fn; go_must (refine (HC.out _ HB1.out).mono ?_); rintro e w2 ⟨rfl, G', hl, hn⟩; go_must (have HL2 := keepG hl; have HN2 := keepG hn; clear hl hn)))
   go_ret2
   exact ⟨rfl, _, HL2.out, (Nx.below (F := G) HB1.out).trans HN2.out⟩
  ·rw [if_pos hs] at hq
   injection hq with e1 hq
   injection hq with e2 e3
   subst e1 e2 e3
   rw [i1 hs] at HF
   clear HCT h HQ hx i0 i1 h1 h2 h3 hs hG g0 g1
   generalize r.tb.at'.length = q at *
   go_enter Tryz.func59, Tryz.ntmps59
   go_wp2_with (go_at_call 54; go_must (refine HF.out.mono ?_); rintro e w1 ⟨rfl, hb1⟩; go_must (have HB1 := keepG hb1; clear hb1))
   go_ret2
   exact ⟨rfl, _, HL.out _ HB1.out, Nx.below HB1.out⟩
theorem Lr.attach (h : Lr w b bt br bc G r) (hk : r.Ok) (hla : r.tb.last <= 1000000000000000) (x p : Int) {v E : Int} {r' : Rg} (HQ : Hid (r.put false x p = (v, E, r'))) : Calls Tryz.prog 19 #[.pointer (some ⟨b, 0, none⟩), .int .i64 x, .int .i64 p] w fun e w' => e = .returned (.tuple #[.int .i64 v, .int .i64 E]) /\ ∃ G', Lr w' b bt br bc G' r' /\ Nx w w' G G' := by
 have hmf : ∀ (fn : Fn) (first cap : Array Value) (w : World), (Instr.makeFunc fn first cap).run Tryz.prog w = .ok (.func fn first cap) w := fun _ _ _ _ => rfl
 have eg : ∀ args w, (callFunc 60 args).run Tryz.prog w = .ok (.enter 60 args) w := enters_of Tryz.func60 (by kernel_rfl) rfl
 have HC := keepG (lpublish24 h hk _ eg HQ (fun hx hs w1 hb => Lr.tattach (h.below hb) hk hla hx hs HQ))
 obtain ⟨c0, _⟩ := h.low
 clear h eg
 go_enter Tryz.func19, Tryz.ntmps19
 go_wp2_with (go_at_call 59; go_must (refine HC.out.mono ?_); rintro e w2 ⟨rfl, G', hl, hn⟩; go_must (have HL2 := keepG hl; have HN2 := keepG hn; clear hl hn))
 go_ret2
 exact ⟨rfl, _, HL2.out, HN2.out⟩
end
theorem lit_oneR (w : World) (x : Int) (hx : (Lit.int .i64 x).wf = true) : ∃ Z, Hid (w.alloc (.cells #[.int .i64 x] 3) = Z) /\ Hid (Below w.heap.size w Z) /\ Hid (Sees .i64 Z (.slice (some ⟨w.heap.size, 0, none⟩) 1 1) [x]) := ⟨_, rfl, below_allocG _ _, Sees.lit w .i64 _ [x] _ 1 rfl rfl (by simp) (by intro y hy; simp at hy; subst hy; exact hx)⟩
theorem wf_smallR {x : Int} (h0 : 0 <= x) (h : x <= 1000000000000001) : (Lit.int .i64 x).wf = true := by
 exact WalkArith.wf_i64 (by omega)
section
variable {w w' : World} {b bt br bc : Nat} {G H : Ft} {r : Rg}
end
end Go.Proofs.YtibolefffjkblaaGreat
