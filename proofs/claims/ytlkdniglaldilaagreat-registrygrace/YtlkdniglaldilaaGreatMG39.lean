/-
  R24Del
  R24LC
  R24LD
-/
import Derived.Test.YtlkdniglaldilaaGreatMG0
import Derived.Test.YtlkdniglaldilaaGreatMG38
import Derived.Test.YtlkdniglaldilaaGreatMG33
import Derived.OwnWalk
namespace Go.Proofs.YtlkdniglaldilaaGreat
open Go.RowKit
set_option linter.unusedVariables false
set_option linter.unusedSimpArgs false
set_option maxRecDepth 100000
theorem infoPw : (Tryz.prog.info? 64).map (fun i => (i.zero, i.size, i.bytes)) = some (some (.agg #[.int .i64 0, .slice none 0 0, .slice none 0 0, .int .i64 0]), 4, 64) := by kernel_rfl
theorem pw_one (p : Pw) (h : ShM p.md) : ∀ u ∈ pwC p, u.oneCell' = true := by
 obtain ⟨pn, ⟨um, uc, ms, xs⟩, g⟩ := p
 obtain ⟨⟨a, n, c, e1⟩, ⟨a', n', c', e2⟩⟩ := h
 simp only at e1 e2
 subst e1 e2
 intro u hu
 simp only [pwC, List.mem_cons, List.not_mem_nil, or_false] at hu
 rcases hu with rfl | rfl | rfl | rfl <;> rfl
theorem qflat_one (L : List Pw) (hsh : ∀ p ∈ L, ShM p.md) : ∀ u ∈ flatG pwC L, u.oneCell' = true := by
 intro u hu
 simp only [flatG, List.mem_flatMap] at hu
 obtain ⟨p, hm, hp⟩ := hu
 exact pw_one p (hsh p hm) u hp
theorem qflat_take (L : List Pw) (i : Nat) : (flatG pwC L).take (i * 4) = flatG pwC (L.take i) := by
 induction L generalizing i with
 | nil => simp [flatG]
 | cons p l ih =>
  cases i with
  | zero => simp [flatG]
  | succ i =>
   have e : flatG pwC (p :: l) = pwC p ++ flatG pwC l := by simp [flatG]
   have e2 : flatG pwC ((p :: l).take (i + 1)) = pwC p ++ flatG pwC (l.take i) := by simp [flatG]
   rw [e, e2, <- ih i, show (i + 1) * 4 = i * 4 + 1 + 1 + 1 + 1 by omega]
   rfl
theorem qflat_drop (L : List Pw) (i : Nat) : (flatG pwC L).drop (i * 4) = flatG pwC (L.drop i) := by
 induction L generalizing i with
 | nil => simp [flatG]
 | cons p l ih =>
  cases i with
  | zero => simp [flatG]
  | succ i =>
   have e : flatG pwC (p :: l) = pwC p ++ flatG pwC l := by simp [flatG]
   have e2 : flatG pwC ((p :: l).drop (i + 1)) = flatG pwC (l.drop i) := by simp [flatG]
   rw [e, e2, <- ih i, show (i + 1) * 4 = i * 4 + 1 + 1 + 1 + 1 by omega]
   rfl
def qdelIn (cur : List Value) (a : Nat) (B Z : List Value) : List Value :=
 let c1 := cur.take a ++ B ++ cur.drop (a + B.length)
 c1.take (a + B.length) ++ Z ++ c1.drop (a + B.length + Z.length)
theorem qdelIn_len (cur : List Value) (a : Nat) (B Z : List Value) (h : a + B.length + Z.length <= cur.length) : (qdelIn cur a B Z).length = cur.length := putIn'_len cur a B Z h
theorem qdelIn_take (cur : List Value) (a : Nat) (B Z : List Value) (h : a + B.length + Z.length <= cur.length) : (qdelIn cur a B Z).take (a + B.length) = cur.take a ++ B := by
 have := putIn'_take cur a B Z h
 rw [show qdelIn cur a B Z = putIn' cur a B Z from rfl, <- List.take_left' (l₁ := cur.take a ++ B) (l₂ := Z) rfl, <- this, List.take_take]
 congr 1
 simp
 omega
theorem qflat_erase (i : Nat) (L : List Pw) : flatG pwC (L.eraseIdx i) = (flatG pwC L).take (i * 4) ++ (flatG pwC L).drop ((i + 1) * 4) := by
 rw [List.eraseIdx_eq_take_drop_succ, flatG_app, qflat_take, qflat_drop]
theorem q_clear1 {P : Program} (w : World) (t e ty : TypeId) (zv : Value) (ht : P.underlying t = some (.slice e)) (hv : ∀ w, (zeroValue e).run P w = .ok zv w) (zs : List Value) (hz : (Builtin.zeroCells zv.cells 1).toList = zs) (h1 : ∀ u ∈ zs, u.oneCell' = true) (g o c : Nat) (cur : List Value) (tt : TypeId) (hg : w.heap[g]? = some (.cells cur.toArray tt (0, 0))) (hfit : o + zs.length <= cur.length) :
  ∃ w', (Builtin.clear_ #[t] ty #[.slice (some ⟨g, o, none⟩) 1 c]).run P w = .ok (.tuple #[]) w' /\ w'.heap[g]? = some (.cells (cur.take o ++ zs ++ cur.drop (o + zs.length)).toArray tt (0, 0)) /\ Chg w w' (fun k => k = g) := by
 have hst := run_storeCells_at P g o tt zs 0 cur.toArray w hg (by simpa using hfit) h1
 simp only [Nat.add_zero] at hst
 refine ⟨_, ?_, setRow_heap w g _ _ tt _ hg, ⟨rfl, rfl, rfl, by simp [World.setRow], fun k hk hne => setRow_other w g k _ hne⟩⟩
 simp [Builtin.clear_, run_underlying ht, hv, hz, hst]
theorem q_appRow {P : Program} (w : World) (t ty e : TypeId) (i : TypeInfo) (z : Nat) (ht : P.underlying t = some (.slice e)) (hi : P.info? e = some i) (hz : i.size = z) (g n cap : Nat) (a : Addr) (m c : Nat) (cur news : List Value) (tt : TypeId) (hg : w.heap[g]? = some (.cells cur.toArray tt (0, 0)))
  (hl : news.length = m * z) (hnews : ∀ j u, news[j]? = some u -> w.cell? (a.add j) = some u) (h1 : ∀ u ∈ news, u.oneCell' = true) (hroom : n + m <= cap) (hfit : n * z + news.length <= cur.length) :
  ∃ w', (Builtin.append_ #[t, t] ty #[.slice (some ⟨g, 0, none⟩) n cap, .slice (some a) m c]).run P w = .ok (.slice (some ⟨g, 0, none⟩) (n + m) cap) w' /\ w'.heap[g]? = some (.cells (cur.take (n * z) ++ news ++ cur.drop (n * z + news.length)).toArray tt (0, 0)) /\ Chg w w' (fun k => k = g) := by
 have hst := run_storeCells_at P g (n * z) tt news 0 cur.toArray w hg (by simpa using hfit) h1
 have hfc := run_firstCells_some (P := P) w i.size m a m c news (by rw [hz]; exact hl) hnews
 subst hz
 simp only [Nat.add_zero] at hst
 refine ⟨_, ?_, setRow_heap w g _ _ tt _ hg, ⟨rfl, rfl, rfl, by simp [World.setRow], fun k hk hne => setRow_other w g k _ hne⟩⟩
 simp [Builtin.append_, run_underlying ht, sizeOf, typeInfo, hi, Builtin.lenOf, hroom, hfc, Addr.add_lit, hst]
set_option maxHeartbeats 4000000 in
theorem pdel_at {w : World} {B g cap i n : Nat} {L : List Pw} (h : w.ownsRow B 64 4 (.slice (some ⟨g, 0, none⟩) L.length cap) L.length (flatG pwC L)) (hsh : ∀ p ∈ L, ShM p.md) (hl : L.length <= 1000) (hi : i < L.length) (hn : L.length = n + 1) :
  Calls Tryz.prog 37 #[.slice (some ⟨g, 0, none⟩) ((n + 1 : Nat)) cap, .int .i64 i, .int .i64 ((i : Int) + 1)] w fun e w' => ∃ v', e = .returned v' /\ w'.ownsRow B 64 4 v' (L.eraseIdx i).length (flatG pwC (L.eraseIdx i)) /\ Chg w w' (fun k => k = g) /\ v'.ownBlock = some g := by
 obtain ⟨g', cap', cur, e1, hb, hh, hnc, hcm, hcs, ht⟩ := own_row h (by omega)
 simp only [Value.slice.injEq, Option.some.injEq, Addr.mk.injEq, true_and, and_true] at e1
 obtain ⟨rfl, rfl⟩ := e1
 obtain ⟨cu, rfl⟩ : ∃ cu : List Value, cur = cu.toArray := ⟨cur.toList, by simp⟩
 simp only [List.size_toArray] at hcs ht
 have hL2 := flatG_len (f := pwC) pwC_len L
 have hcm' : cap <= 9223372036854775807 := by unfold maxLen at hcm; omega
 have hdl : ((flatG pwC L).drop ((i + 1) * 4)).length = (n - i) * 4 := by rw [List.length_drop, hL2]; omega
 obtain ⟨i0, hi0, hz0, hzs, hzb⟩ := info_parts infoPw
 have hcell := h.cells (g := g) rfl
 have hel : (L.eraseIdx i).length = n := by rw [List.length_eraseIdx_of_lt hi]; omega
 have hK : ∃ A : Addr, (if cap = i + 1 then some (⟨g, 0, none⟩ : Addr) else some ⟨g, (i + 1) * 4, none⟩) = some A /\ ∀ j u, ((flatG pwC L).drop ((i + 1) * 4))[j]? = some u -> w.drew.cell? (A.add j) = some u := by
  by_cases hc : cap = i + 1
  ·refine ⟨⟨g, 0, none⟩, by rw [if_pos hc], fun j u hu => ?_⟩
   have h0 : ((flatG pwC L).drop ((i + 1) * 4)).length = 0 := by rw [hdl]; omega
   rw [List.length_eq_zero_iff.1 h0] at hu
   simp at hu
  ·refine ⟨⟨g, (i + 1) * 4, none⟩, by rw [if_neg hc], fun j u hu => ?_⟩
   rw [List.getElem?_drop] at hu
   have := hcell _ _ hu
   rw [Addr.add_lit, Nat.zero_add] at this
   rw [Addr.add_lit]
   exact this
 obtain ⟨A, hA, hsrc⟩ := hK
 obtain ⟨w1, hr1, hh1, hc1⟩ := q_appRow (P := Tryz.prog) w.drew 46 46 64 i0 4 Tryz.underlying46 hi0 hzs g i cap A (n - i) (cap - (i + 1)) cu ((flatG pwC L).drop ((i + 1) * 4)) 64 hh hdl hsrc (fun u hu => qflat_one L hsh u (List.mem_of_mem_drop hu)) (by omega) (by rw [hdl, hcs]; omega)
 rw [show i + (n - i) = n by omega] at hr1
 have hl1 : (cu.take (i * 4) ++ (flatG pwC L).drop ((i + 1) * 4) ++ cu.drop (i * 4 + ((flatG pwC L).drop ((i + 1) * 4)).length)).length = cap * 4 := by
  rw [List.length_append, List.length_append, hdl, List.length_take, List.length_drop, hcs]
  omega
 obtain ⟨w2, hr2, hh2, hc2⟩ := q_clear1 (P := Tryz.prog) w1 46 64 0 _ Tryz.underlying46 Tryz.zeroValue64 [.int .i64 0, .slice none 0 0, .slice none 0 0, .int .i64 0] (by kernel_rfl) (by intro u hu; simp at hu; rcases hu with rfl | rfl | rfl | rfl <;> rfl) g (n * 4) (cap - n) _ 64 hh1 (by rw [hl1]; simp; omega)
 have HV : Hid (w2.ownsRow B 64 4 (.slice (some ⟨g, 0, none⟩) n cap) (L.eraseIdx i).length (flatG pwC (L.eraseIdx i))) := by
  show _
  rw [hel]
  have hfit : i * 4 + ((flatG pwC L).drop ((i + 1) * 4)).length + [Value.int .i64 0, .slice none 0 0, .slice none 0 0, .int .i64 0].length <= cu.length := by rw [hdl, hcs]; simp; omega
  have ht' : cu.take (i * 4) = (flatG pwC L).take (i * 4) := by
   rw [<- ht, List.take_take]
   congr 1
   omega
  refine own_of (cs := qdelIn cu (i * 4) ((flatG pwC L).drop ((i + 1) * 4)) [.int .i64 0, .slice none 0 0, .slice none 0 0, .int .i64 0]) hb (by rw [hh2, show n * 4 = i * 4 + ((flatG pwC L).drop ((i + 1) * 4)).length by rw [hdl]; omega]; rfl) (by omega) hcm (by rw [qdelIn_len _ _ _ _ hfit, hcs]) ?_
  rw [qflat_erase, <- ht', <- qdelIn_take _ _ _ _ hfit, hdl]
  congr 1
  omega
 have HC : Hid (Chg w w2 (fun k => k = g)) := show Chg w w2 _ from ((Chg.refl w _).drewN 1).trans (hc1.trans hc2 (fun _ _ e => e)) (fun _ _ e => e)
 have hnI : (i : Int) <= n := by omega
 have hw1 : IntKind.i64.wrap ((i : Int) + 1) = (i : Int) + 1 := by rw [IntKind.wrap_i64]; omega
 have htn : ((i : Int) + 1).toNat = i + 1 := by omega
 have hb1 : (0 : Int) <= (i : Int) + 1 := by omega
 have hb3 : (i : Int) <= (n : Int) + 1 := by omega
 have hb4 : (i : Int) + 1 <= (n : Int) + 1 := by omega
 have hb5 : ¬ (i : Int) = (i : Int) + 1 := by omega
 have hb6 : (i : Int) <= (i : Int) + 1 := by omega
 have hb7 : (i : Int) <= (cap : Int) := by omega
 have hb8 : ¬ cap = n := by omega
 have hb9 : (n : Int) + 1 <= (cap : Int) := by omega
 have hb10 : i <= cap := by omega
 have hb11 : i + 1 <= n + 1 := by omega
 have hb12 : n + 1 <= cap := by omega
 clear hh1 hl1 hh2 hc1 hc2 h hh hcs ht hdl hL2 hi0 hz0 hzs hzb hcell hel hsrc
 go_enter Tryz.func37, Tryz.ntmps37
 go_wp2
 refine wp_region_held_drew (S := fun _ => True) (by kernel_rfl) trivial (fun hHeld => ?_)
 refine tkGo [0, 1, 2, 3, 4, 5] ?_
 repeat (refine tkO (v := ?_) rfl ?_ ?_; rotate_left; (intro wy hSw; (try dsimp only at hSw); go_simp; (first | done | with_reducible rfl)); try simp only [Act.put, p1q, p2q, p3q, p4q, p5q, p6q])
 refine tkEnd ?_
 refine runO 6 (by kernel_rfl) rfl (by rfl) (fun KK hK => ?_)
 refine wp_appG _ (.tmp 22) (.tmp 25) 46 46 rfl _ _ rfl (by rw [<- hA]; rfl) hr1 ?_
 refine hK.out _ _ trivial (fun hHeld => ?_)
 clear hK KK
 try simp only [Act.put, p1q, p2q, p3q, p4q, p5q, p6q]
 refine tkGo [7] ?_
 repeat (refine tkO (v := ?_) rfl ?_ ?_; rotate_left; (intro wy hSw; (try dsimp only at hSw); go_simp; (first | done | with_reducible rfl)); try simp only [Act.put, p1q, p2q, p3q, p4q, p5q, p6q])
 refine tkEnd ?_
 refine wpAnyH_done (by kernel_rfl) ?_ _
 go_wp2
 go_ret
 exact ⟨_, rfl, HV.out, HC.out, rfl⟩
section
variable {w w' w0 w1 w2 w3 : World} {b bt br bc gc m : Nat} {G H Ft1 Fr : Ft} {r : Rg} {tb : Tb} {P : Rs_g} {ck : Ck}
def fNew (b : Nat) (Ft1 Fr Fc : Ft) : Nat -> Ft
 | 0 => fun k => k = b
 | 1 => Ft1
 | 2 => Fr
 | 3 => Fc
 | 4 => ftV (.slice none 0 0)
 | 5 => ftV (.slice none 0 0)
 | _ + 6 => ftM []
theorem Mr.made (Ht : Lt w1 w0.heap.size bt Ft1 tb) (St : Since w0 Ft1) (B1 : Below w0.heap.size w0 w1) (Hr : Lq_g w2 w1.heap.size br Fr m P) (Sr : Since w1 Fr) (B2 : Below w1.heap.size w1 w2) (Hc : Ec w3 bc gc ck) (Sic : Since w2 (ftE bc gc)) (B3 : Below w2.heap.size w2 w3) (cs : List Value) :
  Mr (w3.alloc (.cells cs.toArray 48)) w3.heap.size (fNew w3.heap.size Ft1 Fr (ftE bc gc)) ⟨cs, bt, br, bc, gc, tb, m, P, ck, .slice none 0 0, [], .slice none 0 0, [], []⟩ /\ Since w0 (unF 7 (fNew w3.heap.size Ft1 Fr (ftE bc gc))) /\ Below w0.heap.size w0 (w3.alloc (.cells cs.toArray 48)) := by
 have z1 := B1.size
 have z2 := B2.size
 have z3 := B3.size
 have hs : (w3.alloc (.cells cs.toArray 48)).heap.size = w3.heap.size + 1 := by simp
 have lt := Ht.lies
 have lr := Hr.lies
 have lc := Hc.lies
 have rng : ∀ i k, fNew w3.heap.size Ft1 Fr (ftE bc gc) i k -> (i = 0 /\ k = w3.heap.size) ∨ (i = 1 /\ w0.heap.size <= k /\ k < w1.heap.size) ∨ (i = 2 /\ w1.heap.size <= k /\ k < w2.heap.size) ∨ (i = 3 /\ w2.heap.size <= k /\ k < w3.heap.size) := fun i k e => by
  match i, e with
  | 0, e => exact .inl ⟨rfl, e⟩
  | 1, e => exact .inr (.inl ⟨rfl, St k e, lt k e⟩)
  | 2, e => exact .inr (.inr (.inl ⟨rfl, Sr k e, lr k e⟩))
  | 3, e => exact .inr (.inr (.inr ⟨rfl, Sic k e, lc k e⟩))
  | 4, e => cases e
  | 5, e => cases e
  | _ + 6, e => obtain ⟨q, hq, _⟩ := e; cases hq
 have b4 := below_allocG w3 (.cells cs.toArray 48)
 have b34 : Below w2.heap.size w2 (w3.alloc (.cells cs.toArray 48)) := B3.trans (b4.mono z3)
 have b24 : Below w1.heap.size w1 (w3.alloc (.cells cs.toArray 48)) := B2.trans (b34.mono z2)
 refine ⟨⟨fun i hi => ?_, fun i hi k e => ?_, fun i j hi hj hne k e e2 => ?_⟩, fun k e => ?_, B1.trans (b24.mono z1)⟩
 ·show ObR _ _ _ i _
  match i with
  | 0 => exact ⟨rfl, Hp.new w3 cs _⟩
  | 1 => exact ⟨w0.heap.size, by omega, Ht.keeps (G := fun _ => False) (Chg.of_below b24) (fun _ e => e.elim)⟩
  | 2 => exact ⟨w1.heap.size, by omega, Hr.keeps (G := fun _ => False) (Chg.of_below b34) (fun _ e => e.elim)⟩
  | 3 => exact ⟨rfl, Hc.below b4⟩
  | 4 => exact ⟨rfl, World.ownsRow_nil _ _ _ _⟩
  | 5 => exact ⟨rfl, World.ownsRow_nil _ _ _ _⟩
  | _ + 6 => exact ⟨rfl, fun q hq => by cases hq⟩
 ·rcases rng i k e with g | g | g | g <;> omega
 ·rcases rng i k e with g | g | g | g <;> rcases rng j k e2 with g2 | g2 | g2 | g2 <;> omega
 ·obtain ⟨i, hi, e⟩ := e
  rcases rng i k e with g | g | g | g <;> omega
set_option maxHeartbeats 1600000 in
theorem lrnew_ok (h m k : Nat) (h1 : 1 <= h) (h2 : h <= 4) (hm : m <= 4) (k1 : 1 <= k) (k2 : k <= 4) (w : World) : Calls Tryz.prog 6 #[.int .i64 h, .int .i64 m, .int .i64 k] w fun e w' => ∃ b bt br bc G, e = .returned (.tuple #[.pointer (some ⟨b, 0, none⟩), .int .i64 0]) /\ Lr w' b bt br bc G (Rg.new h m k) /\ Since w G /\ Below w.heap.size w w' := by
 go_enter Tryz.func6, Tryz.ntmps6
 go_wp2_with (first
  | (go_at_call 19; go_must (refine (ltnew_ok h h1 h2 _).mono ?_); rintro e w1 ⟨bt, Ft1, rfl, t1, t2, t3⟩; go_must (have Ht1n := keepG t1; have Ht2n := keepG t2; have Ht3n := keepG t3; clear t1 t2 t3))
  | (go_at_call 20; go_must (refine (lqnew_ok m hm _).mono ?_); rintro e w2 ⟨br, Fr, rfl, r1, r2, r3⟩; go_must (have Hr1n := keepG r1; have Hr2n := keepG r2; have Hr3n := keepG r3; clear r1 r2 r3))
  | (go_at_call 21; go_must (refine (lnew_ok k k1 k2 _).mono ?_); rintro e w3 ⟨rfl, c1, c2, c3⟩; go_must (have Hc1n := keepG c1; have Hc2n := keepG c2; have Hc3n := keepG c3; clear c1 c2 c3)))
 go_ret2
 obtain ⟨a1, a2, a3⟩ := Mr.made Ht1n.out Ht2n.out Ht3n.out Hr1n.out Hr2n.out Hr3n.out Hc1n.out Hc2n.out Hc3n.out [.pointer (some ⟨bt, 0, none⟩), .pointer (some ⟨br, 0, none⟩), .pointer (some ⟨w2.heap.size + 1, 0, none⟩), .int .i64 h, .int .i64 0, .slice none 0 0, .slice none 0 0]
 refine ⟨w3.heap.size, bt, br, w2.heap.size + 1, unF 7 (fNew w3.heap.size Ft1 Fr (ftE (w2.heap.size + 1) w2.heap.size)), rfl, ⟨fNew w3.heap.size Ft1 Fr (ftE (w2.heap.size + 1) w2.heap.size), w2.heap.size, [], .slice none 0 0, [], .slice none 0 0, [], [], ?_, rfl, Rel.new h m k, fun p hp => (by cases hp)⟩, a2, a3⟩
 have e1 : ((Rg.new h m k).tb.at'.length : Int) = h := by simp [Rg.new, Tb.new]
 rw [e1]
 exact a1
theorem Rg.put_ok {r : Rg} {sw : Bool} {x p v E : Int} {r' : Rg} (hx : r.tb.has x = true) (hs : r.st p = 0) (hq : r.put sw x p = (v, E, r')) : ∃ t', r.tb.put sw x p = (v, E, t') /\ r' = ⟨r.mp, t', r.ck, r.ps, r.ln⟩ := by
 unfold Rg.put at hq
 rw [if_neg (by rw [hx]; decide), if_neg (by rw [hs]; decide)] at hq
 injection hq with e1 hq
 injection hq with e2 e3
 subst e1 e2
 exact ⟨_, rfl, e3.symm⟩
theorem Lr.tattach (h : Lr w b bt br bc G r) (hk : r.Ok) (hla : r.tb.last <= 1000000000000000) {x p v E : Int} {r' : Rg} (hx : r.tb.has x = true) (hs : r.st p = 0) (HQ : Hid (r.put false x p = (v, E, r'))) : Calls Tryz.prog 35 #[.pointer (some ⟨bt, 0, none⟩), .int .i64 x, .int .i64 p] w fun e w' => e = .returned (.tuple #[.int .i64 v, .int .i64 E]) /\ ∃ G', Lr w' b bt br bc G' r' /\ Nx w w' G G' := by
 obtain ⟨F, gc, P, ul, L, ut, T, M, h1, rfl, h2, h3⟩ := h.ex
 obtain ⟨B, hB, ht⟩ := h1.tab
 obtain ⟨t', e1, rfl⟩ := Rg.put_ok hx hs HQ.out
 refine (ht.attach hk.tb hB hla x p (show Hid _ from e1)).mono ?_
 rintro e w' ⟨rfl, F', g1, g2⟩
 obtain ⟨a1, a2⟩ := Mr.tabS h1 g2 hB g1
 refine ⟨rfl, _, ⟨_, gc, P, ul, L, ut, T, M, ?_, rfl, h2.same _ _, h3⟩, a2⟩
 rw [(Tb.put_last e1).2.2]
 exact a1
theorem Lr.tswap (h : Lr w b bt br bc G r) (hk : r.Ok) (hla : r.tb.last <= 1000000000000000) {x p v E : Int} {r' : Rg} (hx : r.tb.has x = true) (hs : r.st p = 0) (HQ : Hid (r.put true x p = (v, E, r'))) : Calls Tryz.prog 44 #[.pointer (some ⟨bt, 0, none⟩), .int .i64 x, .int .i64 p] w fun e w' => e = .returned (.tuple #[.int .i64 v, .int .i64 E]) /\ ∃ G', Lr w' b bt br bc G' r' /\ Nx w w' G G' := by
 obtain ⟨F, gc, P, ul, L, ut, T, M, h1, rfl, h2, h3⟩ := h.ex
 obtain ⟨B, hB, ht⟩ := h1.tab
 obtain ⟨t', e1, rfl⟩ := Rg.put_ok hx hs HQ.out
 refine (ht.swap hk.tb hB hla x p (show Hid _ from e1)).mono ?_
 rintro e w' ⟨rfl, F', g1, g2⟩
 obtain ⟨a1, a2⟩ := Mr.tabS h1 g2 hB g1
 refine ⟨rfl, _, ⟨_, gc, P, ul, L, ut, T, M, ?_, rfl, h2.same _ _, h3⟩, a2⟩
 rw [(Tb.put_last e1).2.2]
 exact a1
theorem Rel.idxL {L T : List Pw} (h : Rel r L T P) (n : Int) : (r.st n = 0 -> ∃ i, i < L.length /\ (L.getD i Pw.nil).n = n /\ idxP n L = (i : Int)) /\ (r.st n ≠ 0 -> idxP n L = -1) := by
 refine ⟨fun e => ?_, fun e => idxP_no (fun j hj g => e (by rw [<- g]; exact h.stL (getD_memP _ _ hj)))⟩
 obtain ⟨i, hi, hn⟩ := h.findL e
 exact ⟨i, hi, hn, idxP_at hi hn (fun j hj => by rw [<- hn]; exact first_one h.ndL hi j hj)⟩
theorem Rel.idxT {L T : List Pw} (h : Rel r L T P) (hk : r.Ok) (n : Int) : (r.st n = 1 -> ∃ i, i < T.length /\ (T.getD i Pw.nil).n = n /\ idxP n T = (i : Int)) /\ (r.st n ≠ 1 -> idxP n T = -1) := by
 refine ⟨fun e => ?_, fun e => idxP_no (fun j hj g => e (by rw [<- g]; exact h.stT hk (getD_memP _ _ hj)))⟩
 obtain ⟨i, hi, hn⟩ := h.findT hk e
 exact ⟨i, hi, hn, idxP_at hi hn (fun j hj => by rw [<- hn]; exact first_one (h.ndT hk) hi j hj)⟩
set_option maxHeartbeats 1600000 in
theorem lpublish24 (h : Lr w b bt br bc G r) (hk : r.Ok) (fn : Nat) (eg : ∀ args w, (callFunc fn args).run Tryz.prog w = .ok (.enter fn args) w) {sw : Bool} {x p v E : Int} {r' : Rg} (HQ : Hid (r.put sw x p = (v, E, r')))
  (HCT : r.tb.has x = true -> r.st p = 0 -> ∀ w1, Below w.heap.size w w1 -> Calls Tryz.prog fn #[.pointer (some ⟨bt, 0, none⟩), .int .i64 x, .int .i64 p] w1 fun e w' => e = .returned (.tuple #[.int .i64 v, .int .i64 E]) /\ ∃ G', Lr w' b bt br bc G' r' /\ Nx w1 w' G G') :
  Calls Tryz.prog 34 #[.pointer (some ⟨b, 0, none⟩), .func (.func fn) #[.pointer (some ⟨bt, 0, none⟩)] #[], .int .i64 x, .int .i64 p] w fun e w' => e = .returned (.tuple #[.int .i64 v, .int .i64 E]) /\ ∃ G', Lr w' b bt br bc G' r' /\ Nx w w' G G' := by
 have HL := keepG (fun (wr : World) (hb : Below w.heap.size w wr) => h.below hb)
 have hq := HQ.out
 unfold Rg.put at hq
 obtain ⟨_, _, _, c3, _⟩ := h.low
 cases hx : r.tb.has x with
 | false =>
  rw [if_pos hx] at hq
  injection hq with e1 hq
  injection hq with e2 e3
  subst e1 e2 e3
  have hx2 := Tb.has_no hx
  clear HCT h HQ hx
  generalize r.tb.at'.length = q at *
  rcases hx2 with g | g
  ·go_enter Tryz.func34, Tryz.ntmps34
   go_wp2
   go_ret2
   exact ⟨rfl, _, HL.out _ (Below.refl _ _), Nx.refl _ _⟩
  ·have g0 : ¬ x < 0 := by omega
   go_enter Tryz.func34, Tryz.ntmps34
   go_wp2
   go_ret2
   exact ⟨rfl, _, HL.out _ (Below.refl _ _), Nx.refl _ _⟩
 | true =>
  rw [if_neg (by rw [hx]; decide)] at hq
  obtain ⟨g0, g1⟩ := Tb.has_true hx
  have g0' : ¬ x < 0 := by omega
  have g1' : ¬ x ≥ r.tb.at'.length := by omega
  obtain ⟨F, gc, P, ul, L, ut, T, M, h1, hG, h2, h3⟩ := h.ex
  have HF := keepG (lfind (own_seesG pwC_len Pw.nil h1.liv) (by have := (h2.lens hk).1; show L.length <= _; omega) p rfl)
  obtain ⟨ua, uc, eu⟩ := own_shape h1.liv
  have c5 := h1.cell (i := 5) rfl
  simp only at eu c5 HF
  subst eu
  obtain ⟨i0, i1⟩ := h2.idxL p
  by_cases hs : r.st p = 0
  ·obtain ⟨i, hi, hn, hz⟩ := i0 hs
   have HC := keepG (HCT hx hs)
   rw [hz] at HF
   have hi0 : ¬ (i : Int) < 0 := by omega
   clear HCT h hq HQ hx i0 i1 h1 h2 h3 hs hG hz g0 g1
   generalize r.tb.at'.length = q at *
   go_enter Tryz.func34, Tryz.ntmps34
   go_wp2_with (first
    | (go_at_call 29; go_must (refine HF.out.mono ?_); rintro e w1 ⟨rfl, hb1⟩; go_must (have HB1 := keepG hb1; clear hb1))
    | (go_at_fn fn; go_must (refine (HC.out _ HB1.out).mono ?_); rintro e w2 ⟨rfl, G', hl, hn⟩; go_must (have HL2 := keepG hl; have HN2 := keepG hn; clear hl hn)))
   go_ret2
   exact ⟨rfl, _, HL2.out, (Nx.below (F := G) HB1.out).trans HN2.out⟩
  ·rw [if_pos hs] at hq
   injection hq with e1 hq
   injection hq with e2 e3
   subst e1 e2 e3
   rw [i1 hs] at HF
   clear HCT h HQ hx i0 i1 h1 h2 h3 hs hG g0 g1
   generalize r.tb.at'.length = q at *
   go_enter Tryz.func34, Tryz.ntmps34
   go_wp2_with (go_at_call 29; go_must (refine HF.out.mono ?_); rintro e w1 ⟨rfl, hb1⟩; go_must (have HB1 := keepG hb1; clear hb1))
   go_ret2
   exact ⟨rfl, _, HL.out _ HB1.out, Nx.below HB1.out⟩
theorem Lr.attach (h : Lr w b bt br bc G r) (hk : r.Ok) (hla : r.tb.last <= 1000000000000000) (x p : Int) {v E : Int} {r' : Rg} (HQ : Hid (r.put false x p = (v, E, r'))) : Calls Tryz.prog 13 #[.pointer (some ⟨b, 0, none⟩), .int .i64 x, .int .i64 p] w fun e w' => e = .returned (.tuple #[.int .i64 v, .int .i64 E]) /\ ∃ G', Lr w' b bt br bc G' r' /\ Nx w w' G G' := by
 have hmf : ∀ (fn : Fn) (first cap : Array Value) (w : World), (Instr.makeFunc fn first cap).run Tryz.prog w = .ok (.func fn first cap) w := fun _ _ _ _ => rfl
 have eg : ∀ args w, (callFunc 35 args).run Tryz.prog w = .ok (.enter 35 args) w := enters_of Tryz.func35 (by kernel_rfl) rfl
 have HC := keepG (lpublish24 h hk _ eg HQ (fun hx hs w1 hb => Lr.tattach (h.below hb) hk hla hx hs HQ))
 obtain ⟨c0, _⟩ := h.low
 clear h eg
 go_enter Tryz.func13, Tryz.ntmps13
 go_wp2_with (go_at_call 34; go_must (refine HC.out.mono ?_); rintro e w2 ⟨rfl, G', hl, hn⟩; go_must (have HL2 := keepG hl; have HN2 := keepG hn; clear hl hn))
 go_ret2
 exact ⟨rfl, _, HL2.out, HN2.out⟩
theorem Lr.swap (h : Lr w b bt br bc G r) (hk : r.Ok) (hla : r.tb.last <= 1000000000000000) (x p : Int) {v E : Int} {r' : Rg} (HQ : Hid (r.put true x p = (v, E, r'))) : Calls Tryz.prog 24 #[.pointer (some ⟨b, 0, none⟩), .int .i64 x, .int .i64 p] w fun e w' => e = .returned (.tuple #[.int .i64 v, .int .i64 E]) /\ ∃ G', Lr w' b bt br bc G' r' /\ Nx w w' G G' := by
 have hmf : ∀ (fn : Fn) (first cap : Array Value) (w : World), (Instr.makeFunc fn first cap).run Tryz.prog w = .ok (.func fn first cap) w := fun _ _ _ _ => rfl
 have eg : ∀ args w, (callFunc 44 args).run Tryz.prog w = .ok (.enter 44 args) w := enters_of Tryz.func44 (by kernel_rfl) rfl
 have HC := keepG (lpublish24 h hk _ eg HQ (fun hx hs w1 hb => Lr.tswap (h.below hb) hk hla hx hs HQ))
 obtain ⟨c0, _⟩ := h.low
 clear h eg
 go_enter Tryz.func24, Tryz.ntmps24
 go_wp2_with (go_at_call 34; go_must (refine HC.out.mono ?_); rintro e w2 ⟨rfl, G', hl, hn⟩; go_must (have HL2 := keepG hl; have HN2 := keepG hn; clear hl hn))
 go_ret2
 exact ⟨rfl, _, HL2.out, HN2.out⟩
end
theorem lit_oneR (w : World) (x : Int) (hx : (Lit.int .i64 x).wf = true) : ∃ Z, Hid (w.alloc (.cells #[.int .i64 x] 3) = Z) /\ Hid (Below w.heap.size w Z) /\ Hid (Sees .i64 Z (.slice (some ⟨w.heap.size, 0, none⟩) 1 1) [x]) := ⟨_, rfl, below_allocG _ _, Sees.lit w .i64 _ [x] _ 1 rfl rfl (by simp) (by intro y hy; simp at hy; subst hy; exact hx)⟩
theorem wf_smallR {x : Int} (h0 : 0 <= x) (h : x <= 1000000000000001) : (Lit.int .i64 x).wf = true := by
 exact WalkArith.wf_i64 (by omega)
theorem Nx.since {w w1 w2 : World} {F F' S : Ft} (h : Nx w w1 F F') (hc : Chg w1 w2 S) (hS : ∀ k, S k -> w.heap.size <= k) : Nx w w2 F F' := ⟨h.chg.trans hc (fun k hk e => by have := hS k e; omega), h.new⟩
theorem pdel {w : World} {B g cap i : Nat} {L : List Pw} (h : w.ownsRow B 64 4 (.slice (some ⟨g, 0, none⟩) L.length cap) L.length (flatG pwC L)) (hsh : ∀ p ∈ L, ShM p.md) (hl : L.length <= 1000) (hi : i < L.length) :
  Calls Tryz.prog 37 #[.slice (some ⟨g, 0, none⟩) L.length cap, .int .i64 i, .int .i64 ((i : Int) + 1)] w fun e w' => ∃ v', e = .returned v' /\ w'.ownsRow B 64 4 v' (L.eraseIdx i).length (flatG pwC (L.eraseIdx i)) /\ Chg w w' (fun k => k = g) /\ v'.ownBlock = some g := by
 have := pdel_at (n := L.length - 1) h hsh hl hi (by omega)
 rw [show L.length - 1 + 1 = L.length by omega] at this
 exact this
section
variable {w w' : World} {b bt br bc : Nat} {G H : Ft} {r : Rg}
theorem Lr.wher (h : Lr w b bt br bc G r) (hk : r.Ok) {u : Value} {ps : List Int} (hz : Hid (ps.length * 8 <= 140737488355328)) (hs : Sees .i64 w u ps) {A : List Int} (HA : Hid (r.tb.wh ps = A)) : Calls Tryz.prog 36 #[.pointer (some ⟨bt, 0, none⟩), u] w fun e w' => ∃ v, e = .returned v /\ RoN w' w.heap.size v A /\ Below w.heap.size w w' := by
 obtain ⟨F, gc, P, ul, L, ut, T, M, h1, rfl, h2⟩ := h.ex
 obtain ⟨B, hB, ht⟩ := h1.tab
 exact ht.wher hk.tb hz hs HA
theorem ret_box {w w3 W2 w4 : World} {F F' : Nat -> Ft} {c' : Cp} {qs : List Value} (hl : Lies w (unF 7 F)) (hb : Below w.heap.size w W2) (hz : w.heap.size <= w3.heap.size) (hlt : w3.heap.size < W2.heap.size) (hn : Nx W2 w4 (unF 7 F) (unF 7 F')) (hm : Mr w4 b F' c') (hp : Hp w4 w3.heap.size 64 qs) {v : Value} : ∃ W5, Hid (w4.setCell ⟨w3.heap.size, 3, none⟩ v = W5) /\ Hid (Mr W5 b F' c') /\ Hid (Nx w W5 (unF 7 F) (unF 7 F')) /\ Hid (Hp W5 w3.heap.size 64 (qs.set 3 v)) := by
 have hc := Chg.set w4 w3.heap.size 3 v
 have hno : ∀ k, k = w3.heap.size -> ¬ unF 7 F' k := fun k e hk => by
  subst e
  rcases hn.new _ hk with g | g
  ·have := hl _ g; omega
  ·omega
 exact ⟨_, rfl, hm.keeps hc hno, Nx.since ((Nx.below (F := unF 7 F) hb).trans hn) hc (fun k e => by omega), hp.set 3 v⟩
theorem ret_w7 {w W7 : World} {F F' : Nat -> Ft} {c' : Cp} {B : Nat} {qs : List Value} (hm : Mr W7 b F' c') (hn : Nx w W7 (unF 7 F) (unF 7 F')) (hp : Hp W7 B 64 qs) : ∃ W, Hid (W7 = W) /\ Hid (Mr W b F' c') /\ Hid (Nx w W (unF 7 F) (unF 7 F')) /\ Hid (Hp W B 64 qs) := ⟨_, rfl, hm, hn, hp⟩
theorem lret_busy (h : Lr w b bt br bc G r) (hk : r.Ok) {p : Int} (hs : r.st p = 1) : Calls Tryz.prog 14 #[.pointer (some ⟨b, 0, none⟩), .int .i64 p] w fun e w' => e = .returned (.tuple #[.int .i64 0, .int .i64 42]) /\ Below w.heap.size w w' := by
 obtain ⟨F, gc, P, ul, L, ut, T, M, h1, hG, h2, h3⟩ := h.ex
 obtain ⟨i, hi, hn, hz⟩ := (h2.idxT hk p).1 hs
 have HF := keepG (lfind (own_seesG pwC_len Pw.nil h1.ret) (by have := (h2.lens hk).1; show T.length <= _; omega) p (show Hid (_ = _) from hz))
 obtain ⟨ua, uc, eu⟩ := own_shape h1.ret
 have c6 := h1.cell (i := 6) rfl
 simp only at eu c6 HF
 subst eu
 have hi0 : (i : Int) ≥ 0 := by omega
 clear h h1 h2 h3 hz
 go_enter Tryz.func14, Tryz.ntmps14
 go_wp2_with (go_at_call 29; go_must (refine HF.out.mono ?_); rintro e w1 ⟨rfl, hb1⟩; go_must (have HB1 := keepG hb1; clear hb1))
 go_ret2
 exact ⟨rfl, HB1.out⟩
theorem lret_none (h : Lr w b bt br bc G r) (hk : r.Ok) {p : Int} (hs : r.st p = 2) : Calls Tryz.prog 14 #[.pointer (some ⟨b, 0, none⟩), .int .i64 p] w fun e w' => e = .returned (.tuple #[.int .i64 0, .int .i64 41]) /\ Below w.heap.size w w' := by
 obtain ⟨F, gc, P, ul, L, ut, T, M, h1, hG, h2, h3⟩ := h.ex
 have z1 := (h2.idxT hk p).2 (by rw [hs]; decide)
 have z2 := (h2.idxL p).2 (by rw [hs]; decide)
 have HF := keepG (lfind (own_seesG pwC_len Pw.nil h1.ret) (by have := (h2.lens hk).1; show T.length <= _; omega) p (show Hid (_ = _) from z1))
 have HK := keepG (fun (wr : World) (hb : Below w.heap.size w wr) => (⟨lfind (own_seesG pwC_len Pw.nil (h1.below hb).liv) (by have := (h2.lens hk).1; show L.length <= _; omega) p (show Hid (_ = _) from z2), (h1.below hb).cell (i := 5) rfl⟩ : _ /\ _))
 obtain ⟨ua, uc, eu⟩ := own_shape h1.ret
 obtain ⟨va, vc, ev⟩ := own_shape h1.liv
 have c6 := h1.cell (i := 6) rfl
 simp only at eu ev c6 HF HK
 subst eu ev
 clear h h1 h2 h3 z1 z2
 go_enter Tryz.func14, Tryz.ntmps14
 go_wp2_with (first
  | (go_at_call 29; have hq := c6; clear hq c6; go_must (refine HF.out.mono ?_); rintro e w1 ⟨rfl, hb1⟩; go_must (have HB1 := keepG hb1; obtain ⟨k1, c5⟩ := HK.out _ hb1; have HK1 := keepG k1; clear hb1 k1))
  | (go_at_call 29; go_must (refine HK1.out.mono ?_); rintro e w2 ⟨rfl, hb2⟩; go_must (have HB2 := keepG (HB1.out.trans (hb2.mono HB1.out.size)); clear hb2)))
 go_ret2
 exact ⟨rfl, HB2.out⟩
set_option maxHeartbeats 1600000 in
theorem lret_hook (h : Lr w b bt br bc G r) (hk : r.Ok) (hps : r.ps.length <= 1000000000000000) {p : Int} (hs : r.st p = 0) {A : List Int} (HA : Hid (r.tb.wh [p] = A)) (hA : 0 < A.length) : Calls Tryz.prog 14 #[.pointer (some ⟨b, 0, none⟩), .int .i64 p] w fun e w' => e = .returned (.tuple #[.int .i64 0, .int .i64 42]) /\ Below w.heap.size w w' := by
 have HLB := keepG (fun (wr : World) (hb : Below w.heap.size w wr) => h.below hb)
 obtain ⟨F, gc, P, ul, L, ut, T, M, h1, hG, h2, h3⟩ := h.ex
 have z1 := (h2.idxT hk p).2 (by rw [hs]; decide)
 obtain ⟨i, hi, hn, hz⟩ := (h2.idxL p).1 hs
 have hpr := Rg.st_in (r := r) (n := p) (by rw [hs]; decide)
 have hwf := wf_smallR (x := p) (by omega) (by omega)
 have HF := keepG (lfind (own_seesG pwC_len Pw.nil h1.ret) (by have := (h2.lens hk).1; show T.length <= _; omega) p (show Hid (_ = _) from z1))
 have HK := keepG (fun (wr : World) (hb : Below w.heap.size w wr) => (⟨lfind (own_seesG pwC_len Pw.nil (h1.below hb).liv) (by have := (h2.lens hk).1; show L.length <= _; omega) p (show Hid (_ = _) from hz), (h1.below hb).cell (i := 5) rfl⟩ : _ /\ _))
 have HKP := keepG (fun (wr : World) (hb : Below w.heap.size w wr) => (h1.below hb).cell (i := 0) rfl)
 have HWF := keepG hwf
 clear hwf
 obtain ⟨ua, uc, eu⟩ := own_shape h1.ret
 obtain ⟨va, vc, ev⟩ := own_shape h1.liv
 have c6 := h1.cell (i := 6) rfl
 simp only at eu ev c6 HF HK HKP
 subst eu ev
 have hi0 : ¬ (i : Int) < 0 := by omega
 have hAI : (A.length : Int) > 0 := by omega
 clear h h1 h2 h3 z1 hz hA
 go_enter Tryz.func14, Tryz.ntmps14
 go_wp2_with (first
  | (go_at_call 29; have hq := c6; clear hq c6; go_must (refine HF.out.mono ?_); rintro e w1 ⟨rfl, hb1⟩; go_must (have HB1 := keepG hb1; obtain ⟨k1, c5⟩ := HK.out _ hb1; have HK1 := keepG k1; clear hb1 k1))
  | (go_at_call 29; go_must (refine HK1.out.mono ?_); rintro e w2 ⟨rfl, hb2⟩; go_must (have HB2 := keepG (HB1.out.trans (hb2.mono HB1.out.size)); have c0 := HKP.out _ HB2.out; obtain ⟨X, HX, HBX, HSX⟩ := lit_oneR w2 p HWF.out; clear hb2 c5 HK1))
  | (rw [HX.out])
  | (go_at_call 36; go_must (refine ((HLB.out X (HB2.out.trans (HBX.out.mono HB2.out.size))).wher hk (show Hid (1 * 8 <= _) by show _ <= _; omega) HSX.out HA).mono ?_); rintro e w3 ⟨u, rfl, hu, hb3⟩; go_must (obtain ⟨xa, xc, ex⟩ := own_shape hu; subst ex; have HB3 := keepG ((HB2.out.trans (HBX.out.mono HB2.out.size)).trans (hb3.mono (HB2.out.trans (HBX.out.mono HB2.out.size)).size)); clear hu hb3 c0)))
 go_ret2
 exact ⟨rfl, HB3.out⟩
set_option maxHeartbeats 6400000 in
theorem lret_ok (h : Lr w b bt br bc G r) (hk : r.Ok) (hps : r.ps.length <= 1000000000000000) (hnow : r.ck.now <= 1000000000000000) {p : Int} (hs : r.st p = 0) (HA : Hid (r.tb.wh [p] = [])) : Calls Tryz.prog 14 #[.pointer (some ⟨b, 0, none⟩), .int .i64 p] w fun e w' => e = .returned (.tuple #[.int .i64 (r.ck.now + 1), .int .i64 0]) /\ ∃ G', Lr w' b bt br bc G' ⟨r.mp, r.tb, r.ck.go, setSt r.ps p 1 (r.ck.now + 1), r.ln ++ [p]⟩ /\ Nx w w' G G' := by
 have HLB := keepG (fun (wr : World) (hb : Below w.heap.size w wr) => h.below hb)
 obtain ⟨F, gc, P, ul, L, ut, T, M, h1, hG, h2, h3⟩ := h.ex
 have z1 := (h2.idxT hk p).2 (by rw [hs]; decide)
 obtain ⟨i, hi, hn, hz⟩ := (h2.idxL p).1 hs
 have hpr := Rg.st_in (r := r) (n := p) (by rw [hs]; decide)
 have hwf := wf_smallR (x := p) (by omega) (by omega)
 have HF := keepG (lfind (own_seesG pwC_len Pw.nil h1.ret) (by have := (h2.lens hk).1; show T.length <= _; omega) p (show Hid (_ = _) from z1))
 have HK := keepG (fun (wr : World) (hb : Below w.heap.size w wr) => (⟨lfind (own_seesG pwC_len Pw.nil (h1.below hb).liv) (by have := (h2.lens hk).1; show L.length <= _; omega) p (show Hid (_ = _) from hz), (h1.below hb).cell (i := 5) rfl⟩ : _ /\ _))
 have HKP := keepG (fun (wr : World) (hb : Below w.heap.size w wr) => (h1.below hb).cell (i := 0) rfl)
 have HWF := keepG hwf
 clear hwf
 obtain ⟨ua, uc, eu⟩ := own_shape h1.ret
 obtain ⟨va, vc, ev⟩ := own_shape h1.liv
 have c6 := h1.cell (i := 6) rfl
 simp only at eu ev c6 HF HK HKP
 subst eu ev
 have hi0 : ¬ (i : Int) < 0 := by omega
 obtain ⟨ip, hip, hipz, hips, hipb⟩ := info_parts infoPw
 have hlt := (h2.lens hk).1
 have hsh : ∀ q ∈ L, ShM q.md := fun q hq => (h1.mod _ (h3 q (List.mem_append_left _ hq))).sh
 have hck0 : 0 <= r.ck.now := by have := hk.ck.now; omega
 have hnw : r.ck.now <= 1000000000000000000 := by omega
 have HLi := keepG (h1.lies)
 have HM0 := keepG (fun (wr : World) (hb : Below w.heap.size w wr) => Mr.below h1 hb)
 have HBL : Hid (b < w.heap.size) := h1.lies b ⟨0, by omega, by rw [h1.f0]⟩
 have HUL : Hid (∀ k, (Value.slice ua T.length uc).ownBlock = some k -> k < w.heap.size) := fun k e => h1.lies k ⟨5, by omega, by rw [h1.f5]; exact e⟩
 -- the row's cells
 obtain ⟨g, ea, hgl, hat⟩ : ∃ g, va = some ⟨g, 0, none⟩ /\ g < w.heap.size /\ ∀ wr, Below w.heap.size w wr -> (wr.cell? ⟨g, i * 4, none⟩ = some (.int .i64 (L.getD i Pw.nil).n) /\ wr.cell? ⟨g, i * 4 + 1, none⟩ = some (L.getD i Pw.nil).md.um /\ wr.cell? ⟨g, i * 4 + 2, none⟩ = some (L.getD i Pw.nil).md.uc /\ wr.cell? ⟨g, i * 4 + 3, none⟩ = some (.int .i64 (L.getD i Pw.nil).g)) := by
  obtain ⟨g, cap, e, _, hgl, _, _, hat⟩ := own_atG pwC_len Pw.nil h1.liv (by show 0 < L.length; omega)
  simp only at e
  injection e with e1 _ e2
  refine ⟨g, e1, hgl, fun wr hb => ?_⟩
  have hc : ∀ j, wr.cell? ⟨g, j, none⟩ = w.cell? ⟨g, j, none⟩ := fun j => hb.cell (p := ⟨g, j, none⟩) hgl
  rw [hc, hc, hc, hc]
  exact ⟨(hat i hi 0 (by omega)).1, (hat i hi 1 (by omega)).1, (hat i hi 2 (by omega)).1, (hat i hi 3 (by omega)).1⟩
 subst ea
 have hm := hsh _ (getD_memP L i hi)
 have hmem := h3 _ (List.mem_append_left T (getD_memP L i hi))
 have HR2 := keepG (h2.retire hk hi (r.ck.now + 1))
 obtain ⟨q, HP⟩ : ∃ q, Hid (L.getD i Pw.nil = q) := ⟨_, rfl⟩
 rw [HP.out] at hat hm hmem hn HR2
 obtain ⟨qn, ⟨um, uc2, qms, qxs⟩, qg⟩ := q
 obtain ⟨⟨q1, q2, q3, e1⟩, ⟨q4, q5, q6, e2⟩⟩ := hm
 simp only at e1 e2 hn
 have hn := hn.symm
 subst e1 e2 hn
 have HAT := keepG hat
 have HMEM := keepG hmem
 have HSH := keepG hsh
 have HH3 := keepG h3
 have hltI : (i : Int) < L.length := by omega
 have hlL : L.length <= 1000 := by omega
 have hlT : T.length <= 16 := by omega
 have hw1 : IntKind.i64.wrap ((i : Int) + 1) = (i : Int) + 1 := by rw [IntKind.wrap_i64]; omega
 have HLT := keepG hlt
 clear h h1 h2 h3 z1 hz hat hmem hsh hlt
 go_enter Tryz.func14, Tryz.ntmps14
 go_wp2_with (first
  | (go_at_call 29; have hq := c6; clear hq c6; go_must (refine HF.out.mono ?_); rintro e w1 ⟨rfl, hb1⟩; go_must (have HB1 := keepG hb1; obtain ⟨k1, c5⟩ := HK.out _ hb1; have HK1 := keepG k1; clear hb1 k1))
  | (go_at_call 29; go_must (refine HK1.out.mono ?_); rintro e w2 ⟨rfl, hb2⟩; go_must (have HB2 := keepG (HB1.out.trans (hb2.mono HB1.out.size)); have c0 := HKP.out _ HB2.out; obtain ⟨X, HX, HBX, HSX⟩ := lit_oneR w2 p HWF.out; clear hb2 c5 HK1))
  | (rw [HX.out])
  | (go_at_call 36; go_must (refine ((HLB.out X (HB2.out.trans (HBX.out.mono HB2.out.size))).wher hk (show Hid (1 * 8 <= _) by show _ <= _; omega) HSX.out HA).mono ?_); rintro e w3 ⟨u, rfl, hu, hb3⟩; go_must (obtain ⟨xa, xc, ex⟩ := own_shape hu; subst ex; have HB3 := keepG ((HB2.out.trans (HBX.out.mono HB2.out.size)).trans (hb3.mono (HB2.out.trans (HBX.out.mono HB2.out.size)).size)); have c5 := (HM0.out _ HB3.out).cell (i := 5) rfl; have c2 := (HM0.out _ HB3.out).cell (i := 2) rfl; obtain ⟨a0, a1, a2, a3⟩ := HAT.out _ HB3.out; obtain ⟨W1, W2, HW1, HW2, ⟨n0, n1, n2, n3⟩, ⟨f0, f1, f2, f3⟩, HP2, HB4⟩ := box24 w3 ⟨p, ⟨.slice q1 q2 q3, .slice q4 q5 q6, qms, qxs⟩, qg⟩; (try simp only at HW2 c5 c2); have HBW := keepG (HB3.out.trans (HB4.out.mono HB3.out.size)); have HM2 := keepG (HM0.out _ HBW.out); have d2 := HM2.out.cell (i := 2) rfl; (try simp only at d2); clear hu hb3 c0))
  | (rw [HW1.out])
  | (rw [HW2.out])
  | (go_at_call 27; go_must (refine (ladvance (c := r.ck) HM2.out.clk hck0 hnw).mono ?_); rintro e w4 ⟨rfl, g1, g2⟩; go_must (obtain ⟨m3, x3⟩ := Mr.clkS HM2.out g2 g1; have HM3 := keepG m3; have HN3 := keepG ((Nx.below (F := unF 7 F) HBW.out).trans x3); have HB5 : Hid (Hp w4 w3.heap.size 64 [.int .i64 p, .slice q1 q2 q3, .slice q4 q5 q6, .int .i64 qg]) := HP2.out.chg g2 (fun e => by have := HM2.out.clk.lies _ e; have e9 := HLi.out w3.heap.size ⟨3, by omega, by rw [(HM0.out _ (Below.refl _ _)).f3]; exact e⟩; have := HB3.out.size; omega); have b3 := HB5.out.cell (j := 3) rfl; have bf := HB5.out.frozen 3; obtain ⟨W5, HW5, HM5, HN5, HB55⟩ := ret_box (v := .int .i64 (r.ck.now + 1)) HLi.out HBW.out HB3.out.size HP2.out.lt x3 m3 HB5.out; clear g1 g2 m3 x3 a0 a1 a2 a3 n0 n1 n2 n3 f0 f1 f2 f3 c5 c2 d2; have c5 := HM5.out.cell (i := 5) rfl; try simp only at c5))
  | (rw [HW5.out])
  | (go_at_call 37; go_must (refine (pdel HM5.out.liv HSH.out hlL hi).mono ?_); rintro e w6 ⟨v6, rfl, ho6, hc6, hb6⟩; go_must (obtain ⟨y1, y2, y3⟩ := own_shape ho6; subst y3; obtain ⟨m6, x6⟩ := Mr.livS HM5.out (hc6.mono (fun k e => by rw [e]; rfl)) (.inl hb6) ho6; have HB6 := keepG (HB55.out.chg hc6 (fun e => by have := HB3.out.size; omega)); have c5 := m6.cell (i := 5) rfl; have c5f := m6.cel.frozen 5; (try simp only at c5); obtain ⟨m7, x7⟩ := Mr.set m6 5 (.slice y1 (L.eraseIdx i).length y2); obtain ⟨W7, HW7, HM7, HN7, HB7⟩ := ret_w7 m7 (HN5.out.trans (x6.trans x7)) (HB6.out.far (i := 5) (v := .slice y1 (L.eraseIdx i).length y2) (fun e => by have := HB3.out.size; have := HLi.out b ⟨0, by omega, by rw [(HM0.out _ (Below.refl _ _)).f0]⟩; omega)); clear ho6 hc6 hb6 m6 x6 m7 x7 b3 bf))
  | (rw [HW7.out]))
 have HKQ : Hid (∀ wx : World, Chg W7 wx (fun k => k = b ∨ (Value.slice ua T.length uc).ownBlock = some k) -> wx.cell? ⟨w3.heap.size, 0, none⟩ = some (.int .i64 p) /\ wx.cell? ⟨w3.heap.size, 1, none⟩ = some (.slice q1 q2 q3) /\ wx.cell? ⟨w3.heap.size, 2, none⟩ = some (.slice q4 q5 q6) /\ wx.cell? ⟨w3.heap.size, 3, none⟩ = some (.int .i64 (r.ck.now + 1))) := fun wx hc => by
  have hz := HB3.out.size
  have hb1 := HBL.out
  have g := HB7.out.chg hc (fun e => by
   rcases e with e | e
   ·omega
   ·have := HUL.out _ e; omega)
  exact ⟨g.cell rfl, g.cell rfl, g.cell rfl, g.cell rfl⟩
 have c6 := HM7.out.cell (i := 6) rfl
 try simp only at c6
 obtain ⟨Z, HZ, HnZ, hbZ⟩ : ∃ Z, Hid (W7.alloc (.cells #[.int .i64 p, .slice q1 q2 q3, .slice q4 q5 q6, .int .i64 (r.ck.now + 1)] 64) = Z) /\ Hid (∀ j u, (pwC ⟨p, ⟨.slice q1 q2 q3, .slice q4 q5 q6, qms, qxs⟩, r.ck.now + 1⟩)[j]? = some u -> Z.cell? ((⟨W7.heap.size, 0, none⟩ : Addr).add j) = some u) /\ Below W7.heap.size W7 Z := ⟨_, rfl, cells_new W7 (pwC ⟨p, ⟨.slice q1 q2 q3, .slice q4 q5 q6, qms, qxs⟩, r.ck.now + 1⟩) _ _ rfl, below_allocG _ _⟩
 have c6Z := (HM7.out.cel.below hbZ HM7.out.cel.lt).cell (j := 6) rfl
 try simp only at c6Z
 refine wp_region_held_drew (S := fun w' => w'.cell? ⟨w3.heap.size, 0, none⟩ = some (.int .i64 p) /\ w'.cell? ⟨w3.heap.size, 1, none⟩ = some (.slice q1 q2 q3) /\ w'.cell? ⟨w3.heap.size, 2, none⟩ = some (.slice q4 q5 q6) /\ w'.cell? ⟨w3.heap.size, 3, none⟩ = some (.int .i64 (r.ck.now + 1))) (by kernel_rfl) (HKQ.out _ ((Chg.refl W7 _).drewN 1)) (fun hHeld => ?_)
 refine tkGo [0, 1, 2, 3, 5] ?_
 repeat (refine tkO (v := ?_) rfl ?_ ?_; rotate_left; (intro wy hSw; (try dsimp only at hSw); go_simp; (first | done | with_reducible rfl)); try simp only [Act.put, p1q, p2q, p3q, p4q, p5q, p6q])
 refine tkEnd ?_
 refine runT 4 6 (by kernel_rfl) rfl rfl (by rfl) (by rfl) (fun KK hK => ?_) (fun KK hK => ?_)
 ·go_simp
  refine hK.out _ _ (HKQ.out _ ((Chg.refl W7 _).drewN 1)) (fun hHeld => ?_)
  clear hK KK
  try simp only [Act.put, p1q, p2q, p3q, p4q, p5q, p6q]
  refine runO 6 (by kernel_rfl) rfl (by rfl) (fun KK hK => ?_)
  go_simp
  rw [HZ.out]
  refine hK.out _ _ (HKQ.out _ ((Chg.of_below hbZ).drewN 1)) (fun hHeld => ?_)
  clear hK KK
  try simp only [Act.put, p1q, p2q, p3q, p4q, p5q, p6q]
  refine runO 7 (by kernel_rfl) rfl (by rfl) (fun KK hK => ?_)
  refine wp_append_at19 _ (.tmp 60) (.tmp 62) 46 rfl 0 64 ip _ 4 64 Tryz.underlying46 hip hipz hips hipb rfl (by decide) (.slice ua T.length uc) T.length (flatG pwC T) rfl (own_below HM7.out.ret (below_drG hbZ) (Nat.le_refl _)) ⟨W7.heap.size, 0, none⟩ 1 1 (pwC ⟨p, ⟨.slice q1 q2 q3, .slice q4 q5 q6, qms, qxs⟩, r.ck.now + 1⟩) rfl rfl HnZ.out (pw_one _ ⟨⟨_, _, _, rfl⟩, ⟨_, _, _, rfl⟩⟩) (by unfold maxLen; omega) (by omega) (Nat.zero_le _) ?_
  intro v8 w8 hown hgr hat
  have hch : Chg W7 w8 (fun k => (Value.slice ua T.length uc).ownBlock = some k) := ((Chg.of_below (S := fun k => (Value.slice ua T.length uc).ownBlock = some k) hbZ).drewN 1).trans (Chg.of_grown' hgr (fun k e => e)) (fun _ _ e => e)
  have how := own_moreG (x := (⟨p, ⟨.slice q1 q2 q3, .slice q4 q5 q6, qms, qxs⟩, r.ck.now + 1⟩ : Pw)) hown
  obtain ⟨za, zc, rfl⟩ := own_shape hown
  obtain ⟨m8, x8⟩ := Mr.retS HM7.out hch (hat.imp id (fun e => ⟨_, e, hbZ.size⟩)) how
  obtain ⟨m9, x9⟩ := Mr.set m8 6 (.slice za (T.length + 1) zc)
  have c6 := m8.cell (i := 6) rfl
  have f6 := m8.cel.frozen 6
  try simp only at c6
  have HM9 := keepG m9
  have HN9 := keepG (HN7.out.trans (x8.trans x9))
  have hc9 : Chg W7 (w8.setCell ⟨b, 6, none⟩ (.slice za (T.length + 1) zc)) (fun k => k = b ∨ (Value.slice ua T.length uc).ownBlock = some k) := (hch.mono (fun k e => .inr e)).trans (Chg.set w8 b 6 _) (fun k _ e => .inl e)
  have HQ9 := HKQ.out _ hc9
  refine hK.out _ _ (HKQ.out w8 (hch.mono (fun k e => .inr e))) (fun hHeld => ?_)
  clear hK KK hown hgr hat hch how m8 x8 m9 x9 hc9
  try simp only [Act.put, p1q, p2q, p3q, p4q, p5q, p6q]
  refine tkGo [8, 9] ?_
  repeat (refine tkO (v := ?_) rfl ?_ ?_; rotate_left; (intro wy hSw; (try dsimp only at hSw); go_simp; (first | done | with_reducible rfl)); try simp only [Act.put, p1q, p2q, p3q, p4q, p5q, p6q])
  refine tkEnd ?_
  refine runO 10 (by kernel_rfl) rfl (by rfl) (fun KK hK => ?_)
  go_simp
  refine hK.out _ _ HQ9 (fun hHeld => ?_)
  clear hK KK
  try simp only [Act.put, p1q, p2q, p3q, p4q, p5q, p6q]
  refine wpAnyH_done (by kernel_rfl) ?_ _
  clear hHeld
  have y3 := HQ9.2.2.2
  clear HQ9
  go_wp2
  go_ret2
  refine ⟨rfl, _, ⟨_, gc, P, .slice y1 (L.eraseIdx i).length y2, L.eraseIdx i, .slice za (T.length + 1) zc, T ++ [⟨p, ⟨.slice q1 q2 q3, .slice q4 q5 q6, qms, qxs⟩, r.ck.now + 1⟩], M, ?_, rfl, HR2.out, fun q hq => ?_⟩, HN9.out⟩
  ·show Mr _ b _ ⟨[_, _, _, _, .int .i64 (setSt r.ps p 1 (r.ck.now + 1)).length, _, _], _, _, _, _, _, _, _, _, _, _, _, _, _⟩
   rw [setSt_len]
   exact HM9.out
  ·rcases List.mem_append.1 hq with g | g
   ·exact HH3.out q (List.mem_append_left _ ((List.eraseIdx_sublist ..).subset g))
   ·rcases List.mem_append.1 g with g | g
    ·exact HH3.out q (List.mem_append_right _ g)
    ·have e : q = ⟨p, ⟨.slice q1 q2 q3, .slice q4 q5 q6, qms, qxs⟩, r.ck.now + 1⟩ := by simpa using g
     rw [e]
     exact HMEM.out
 ·go_simp
  rw [HZ.out]
  refine hK.out _ _ (HKQ.out _ ((Chg.of_below hbZ).drewN 1)) (fun hHeld => ?_)
  clear hK KK
  try simp only [Act.put, p1q, p2q, p3q, p4q, p5q, p6q]
  refine runO 4 (by kernel_rfl) rfl (by rfl) (fun KK hK => ?_)
  go_simp
  refine hK.out _ _ (HKQ.out _ ((Chg.of_below hbZ).drewN 1)) (fun hHeld => ?_)
  clear hK KK
  try simp only [Act.put, p1q, p2q, p3q, p4q, p5q, p6q]
  refine runO 7 (by kernel_rfl) rfl (by rfl) (fun KK hK => ?_)
  refine wp_append_at19 _ (.tmp 60) (.tmp 62) 46 rfl 0 64 ip _ 4 64 Tryz.underlying46 hip hipz hips hipb rfl (by decide) (.slice ua T.length uc) T.length (flatG pwC T) rfl (own_below HM7.out.ret (below_drG hbZ) (Nat.le_refl _)) ⟨W7.heap.size, 0, none⟩ 1 1 (pwC ⟨p, ⟨.slice q1 q2 q3, .slice q4 q5 q6, qms, qxs⟩, r.ck.now + 1⟩) rfl rfl HnZ.out (pw_one _ ⟨⟨_, _, _, rfl⟩, ⟨_, _, _, rfl⟩⟩) (by unfold maxLen; omega) (by omega) (Nat.zero_le _) ?_
  intro v8 w8 hown hgr hat
  have hch : Chg W7 w8 (fun k => (Value.slice ua T.length uc).ownBlock = some k) := ((Chg.of_below (S := fun k => (Value.slice ua T.length uc).ownBlock = some k) hbZ).drewN 1).trans (Chg.of_grown' hgr (fun k e => e)) (fun _ _ e => e)
  have how := own_moreG (x := (⟨p, ⟨.slice q1 q2 q3, .slice q4 q5 q6, qms, qxs⟩, r.ck.now + 1⟩ : Pw)) hown
  obtain ⟨za, zc, rfl⟩ := own_shape hown
  obtain ⟨m8, x8⟩ := Mr.retS HM7.out hch (hat.imp id (fun e => ⟨_, e, hbZ.size⟩)) how
  obtain ⟨m9, x9⟩ := Mr.set m8 6 (.slice za (T.length + 1) zc)
  have c6 := m8.cell (i := 6) rfl
  have f6 := m8.cel.frozen 6
  try simp only at c6
  have HM9 := keepG m9
  have HN9 := keepG (HN7.out.trans (x8.trans x9))
  have hc9 : Chg W7 (w8.setCell ⟨b, 6, none⟩ (.slice za (T.length + 1) zc)) (fun k => k = b ∨ (Value.slice ua T.length uc).ownBlock = some k) := (hch.mono (fun k e => .inr e)).trans (Chg.set w8 b 6 _) (fun k _ e => .inl e)
  have HQ9 := HKQ.out _ hc9
  refine hK.out _ _ (HKQ.out w8 (hch.mono (fun k e => .inr e))) (fun hHeld => ?_)
  clear hK KK hown hgr hat hch how m8 x8 m9 x9 hc9
  try simp only [Act.put, p1q, p2q, p3q, p4q, p5q, p6q]
  refine tkGo [8, 9] ?_
  repeat (refine tkO (v := ?_) rfl ?_ ?_; rotate_left; (intro wy hSw; (try dsimp only at hSw); go_simp; (first | done | with_reducible rfl)); try simp only [Act.put, p1q, p2q, p3q, p4q, p5q, p6q])
  refine tkEnd ?_
  refine runO 10 (by kernel_rfl) rfl (by rfl) (fun KK hK => ?_)
  go_simp
  refine hK.out _ _ HQ9 (fun hHeld => ?_)
  clear hK KK
  try simp only [Act.put, p1q, p2q, p3q, p4q, p5q, p6q]
  refine wpAnyH_done (by kernel_rfl) ?_ _
  clear hHeld
  have y3 := HQ9.2.2.2
  clear HQ9
  go_wp2
  go_ret2
  refine ⟨rfl, _, ⟨_, gc, P, .slice y1 (L.eraseIdx i).length y2, L.eraseIdx i, .slice za (T.length + 1) zc, T ++ [⟨p, ⟨.slice q1 q2 q3, .slice q4 q5 q6, qms, qxs⟩, r.ck.now + 1⟩], M, ?_, rfl, HR2.out, fun q hq => ?_⟩, HN9.out⟩
  ·show Mr _ b _ ⟨[_, _, _, _, .int .i64 (setSt r.ps p 1 (r.ck.now + 1)).length, _, _], _, _, _, _, _, _, _, _, _, _, _, _, _⟩
   rw [setSt_len]
   exact HM9.out
  ·rcases List.mem_append.1 hq with g | g
   ·exact HH3.out q (List.mem_append_left _ ((List.eraseIdx_sublist ..).subset g))
   ·rcases List.mem_append.1 g with g | g
    ·exact HH3.out q (List.mem_append_right _ g)
    ·have e : q = ⟨p, ⟨.slice q1 q2 q3, .slice q4 q5 q6, qms, qxs⟩, r.ck.now + 1⟩ := by simpa using g
     rw [e]
     exact HMEM.out
theorem Lr.retire (h : Lr w b bt br bc G r) (hk : r.Ok) (hps : r.ps.length <= 1000000000000000) (hnow : r.ck.now <= 1000000000000000) (p : Int) {n E : Int} {r' : Rg} (HQ : Hid (r.ret p = (n, E, r'))) : Calls Tryz.prog 14 #[.pointer (some ⟨b, 0, none⟩), .int .i64 p] w fun e w' => e = .returned (.tuple #[.int .i64 n, .int .i64 E]) /\ ∃ G', Lr w' b bt br bc G' r' /\ Nx w w' G G' := by
 have hq := HQ.out
 have hle := stP_le hk.sb p
 rw [<- Rg.st_eq] at hle
 unfold Rg.ret at hq
 by_cases h2 : r.st p = 2
 ·rw [if_pos h2] at hq
  injection hq with e1 hq
  injection hq with e2 e3
  subst e1 e2 e3
  refine (lret_none h hk h2).mono ?_
  rintro e w' ⟨rfl, hb⟩
  exact ⟨rfl, _, h.below hb, Nx.below hb⟩
 rw [if_neg h2] at hq
 by_cases h1 : r.st p = 1
 ·rw [if_pos h1] at hq
  injection hq with e1 hq
  injection hq with e2 e3
  subst e1 e2 e3
  refine (lret_busy h hk h1).mono ?_
  rintro e w' ⟨rfl, hb⟩
  exact ⟨rfl, _, h.below hb, Nx.below hb⟩
 rw [if_neg h1] at hq
 have h0 : r.st p = 0 := by omega
 by_cases hw : r.tb.wh [p] = []
 ·rw [if_neg (fun g => g hw)] at hq
  injection hq with e1 hq
  injection hq with e2 e3
  subst e1 e2 e3
  exact lret_ok h hk hps hnow h0 hw
 ·rw [if_pos hw] at hq
  injection hq with e1 hq
  injection hq with e2 e3
  subst e1 e2 e3
  refine (lret_hook h hk hps h0 (A := r.tb.wh [p]) rfl (List.length_pos_iff.2 hw)).mono ?_
  rintro e w' ⟨rfl, hb⟩
  exact ⟨rfl, _, h.below hb, Nx.below hb⟩
end
end Go.Proofs.YtlkdniglaldilaaGreat
