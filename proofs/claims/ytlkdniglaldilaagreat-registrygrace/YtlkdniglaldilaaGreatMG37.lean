/-
  KR18LB
  KR18LC
  KR18LD
  KR18LE
-/
import Derived.Test.YtlkdniglaldilaaGreatMG0
import Derived.Test.YtlkdniglaldilaaGreatMG34
import Derived.Test.YtlkdniglaldilaaGreatMG1
import Derived.Sort.OwnSortedInts
namespace Go.Proofs.YtlkdniglaldilaaGreat
open Go.RowKit
set_option linter.unusedVariables false
set_option linter.unusedSimpArgs false
set_option maxRecDepth 100000
open Go.Maps (Keyed)
def srtI (l : List Int) : List Int := l.mergeSort fun x y => decide (x <= y)
theorem srtI_perm (l : List Int) : (srtI l).Perm l := List.mergeSort_perm _ _
theorem srtI_len (l : List Int) : (srtI l).length = l.length := (srtI_perm l).length_eq
theorem srtI_up (l : List Int) : (srtI l).Pairwise (fun x y => x <= y) := by
 have h := List.pairwise_mergeSort (le := fun x y : Int => decide (x <= y)) (fun a b c h1 h2 => by simp at *; omega) (fun a b => by simp; omega) l
 exact h.imp (fun h => by simpa using h)
theorem srtI_eq {l A : List Int} (hp : l.Perm A) (hA : A.Pairwise (· < ·)) : srtI l = A := by
 refine up_perm _ A ?_ hA ((srtI_perm l).trans hp)
 have hnd : (srtI l).Nodup := ((srtI_perm l).trans hp).nodup_iff.2 (hA.imp (fun h => by omega))
 exact (srtI_up l).imp₂ (fun h1 h2 => by omega) hnd
theorem nodup_near {l : List Int} (hu : l.Pairwise (fun x y => x <= y)) (h : ∀ j, 1 <= j -> j < l.length -> l.getD j 0 ≠ l.getD (j - 1) 0) : l.Nodup := by
 rw [List.Nodup, List.pairwise_iff_getElem]
 rw [List.pairwise_iff_getElem] at hu
 have key : ∀ j, (hj : j < l.length) -> ∀ i, (hij : i < j) -> l[i] < l[j] := by
  intro j
  induction j with
  | zero => intro _ i hij; omega
  | succ j ih =>
   intro hj i hij
   have h1 := h (j + 1) (by omega) hj
   have hj' : j < l.length := by omega
   have e1 : l.getD (j + 1) 0 = l[j + 1] := by simp [List.getD, hj]
   have e2 : l.getD (j + 1 - 1) 0 = l[j] := by simp [List.getD, hj']
   rw [e1, e2] at h1
   have h2 := hu j (j + 1) hj' hj (by omega)
   by_cases e : i = j
   ·subst e; omega
   ·have := ih hj' i (by omega); omega
 intro i j hi hj hij e
 have := key j hj i hij
 omega
theorem near_twice {l : List Int} {j : Nat} (h1 : 1 <= j) (hj : j < l.length) (he : l.getD j 0 = l.getD (j - 1) 0) : ¬ l.Nodup := by
 intro hn
 rw [List.Nodup, List.pairwise_iff_getElem] at hn
 have hj' : j - 1 < l.length := by omega
 have := hn (j - 1) j hj' hj (by omega)
 have e1 : l.getD j 0 = l[j] := by simp [List.getD, hj]
 have e2 : l.getD (j - 1) 0 = l[j - 1] := by simp [List.getD, hj']
 rw [e1, e2] at he
 exact this he.symm
section
variable {w w' : World} {B : Nat} {v : Value} {ws : List Int}
theorem lsort (ho : RoI w B v ws) (hl : ws.length < 4611686018427387904) : Calls Tryz.prog 50 #[v] w fun e w' => e = .returned (.tuple #[]) /\ RoI w' B v (srtI ws) /\ w.grownBy w' v.ownBlock := by
 have ho' := ho
 unfold RoI at ho'
 rcases ho'.2 with ⟨rfl, h0⟩ | ⟨g, cap, cur, rfl, hB, hb, h1, h2, h3, h4⟩
 ·obtain rfl : ws = [] := List.length_eq_zero_iff.1 h0
  refine (Tryz.slices_Sort_int_none none 0 w).mono ?_
  rintro e w1 ⟨rfl, rfl⟩
  exact ⟨rfl, by simpa [srtI] using ho, ⟨rfl, rfl, rfl, Nat.le_refl _, fun _ _ _ => rfl⟩⟩
 ·refine (Tryz.slices_Sort_int g 0 cap ws w (holds_of_blockI hb (by simpa using h4)) (Array.getElem?_eq_some_iff.1 hb).1 hl).mono ?_
  rintro e w1 ⟨rfl, nn, os, rfl⟩
  refine ⟨rfl, ?_, grownBy_sortedI _⟩
  have := ownsRow_sortedI (n := nn) (os := os) (ss := ws) (ts := srtI ws) (srtI_len ws) hB hb h1 h2 h3
  unfold RoI
  rw [srtI_len]
  exact this
set_option maxHeartbeats 6400000 in
theorem lrepeats {u : Value} (hs : Sees .i64 w u ws) (hz : ws.length * 8 <= 140737488355328) {r : Bool} (HR : Hid (decide ws.Nodup = r)) : Calls Tryz.prog 42 #[u] w fun e w' => e = .returned (.bool (!r)) /\ Below w.heap.size w w' := by
 obtain ⟨i0, hi0, hz0, hzs, hzb⟩ := info_parts infoIntR
 have HS := keepG hs
 obtain ⟨a, cap, rfl, hlc, hmx, _⟩ := hs
 unfold maxLen at hmx
 go_enter Tryz.func42, Tryz.ntmps42
 go_wp2_with (first
  | (at_builtin; go_must (refine wpList_append_sees rfl _ _ 32 rfl w.heap.size 3 i0 _ 8 Tryz.underlying32 hi0 hz0 hzs hzb rfl .i64 (.slice none 0 0) [] rfl (World.ownsRow_nil _ _ _ _) _ ws rfl HS.out (by unfold maxLen; simp; omega) (by simp; omega) (Nat.le_refl _) ?_); intro v1 w1 ho1 hg1; go_must (rw [List.nil_append] at ho1; have HO1 : Hid (RoI w1 w.heap.size v1 ws) := ho1; have HB1 : Hid (Below w.heap.size w w1) := below_grown (World.ownsRow_nil w w.heap.size 3 1) hg1 (Nat.le_refl _); clear ho1 hg1))
  | (go_at_call 50; go_must (refine (lsort HO1.out (by omega)).mono ?_); rintro e w2 ⟨rfl, ho2, hg2⟩; go_must (have HB2 : Hid (Below w.heap.size w w2) := HB1.out.grown hg2 HB1.out.size (fun j hj => (HO1.out.lt j hj).1); have HO2 := keepG ho2; clear ho2 hg2)))
 obtain ⟨Z, HZ⟩ : ∃ Z, Hid (srtI ws = Z) := ⟨_, rfl⟩
 have HU := keepG (srtI_up ws)
 have HP := keepG (srtI_perm ws)
 rw [HZ.out] at HO2 HU HP
 have hZl : Z.length = ws.length := HP.out.length_eq
 have HZL := keepG hZl
 have hzb2 : Z.length <= 17592186044416 := by omega
 clear hZl
 obtain ⟨va, vc, ev⟩ := own_shape HO2.out
 subst ev
 go_loopw [4] (fun i wr => ∃ j : Nat, 1 <= j /\ (j <= Z.length ∨ j = 1) /\ i = .int .i64 j /\ Hid (∀ k, 1 <= k -> k < j -> Z.getD k 0 ≠ Z.getD (k - 1) 0) /\ Hid (Below w2.heap.size w2 wr)) (fun i _ => Z.length - (intOf i).toNat)
 case atStart => exact ⟨1, by omega, by omega, rfl, fun k h1 h2 => by omega, Below.refl _ _⟩
 case round =>
  obtain ⟨j, hj1, hj, rfl, HA, HB⟩ := hrel
  rename World => wr
  have HBw : Hid (Below w.heap.size w wr) := HB2.out.trans (HB.out.mono HB2.out.size)
  by_cases hlt : j < Z.length
  ·have hltI : (j : Int) < Z.length := by omega
   obtain ⟨p, vc2, ev, _, _, _, _, hat, _⟩ := (HO2.out.below HB.out).cells (by omega)
   simp only [Value.slice.injEq] at ev
   obtain ⟨rfl, _, rfl⟩ := ev
   have d0 := (hat j hlt).1
   have d1 := (hat (j - 1) (by omega)).1
   clear hat
   obtain ⟨x, HX⟩ : ∃ x, Hid (Z.getD j 0 = x) := ⟨_, rfl⟩
   obtain ⟨y, HY⟩ : ∃ y, Hid (Z.getD (j - 1) 0 = y) := ⟨_, rfl⟩
   rw [HX.out] at d0
   rw [HY.out] at d1
   obtain ⟨i, HI⟩ : ∃ i : Nat, Hid (j - 1 = i) := ⟨_, rfl⟩
   rw [HI.out] at d1
   have hi1 : i + 1 = j := by have := HI.out; omega
   have HBd := keepG (below_drG HBw.out)
   have HBe := keepG (below_drG HB.out)
   have hw1 : IntKind.i64.wrap ((j : Int) - 1) = (i : Int) := by rw [IntKind.wrap_i64]; omega
   have hiI : (i : Int) < Z.length := by omega
   have hil : i < Z.length := by omega
   clear hi1
   by_cases hxy : x = y
   ·subst hxy
    have HR2 : Hid (r = false) := by
     show _ = _
     rw [<- HR.out]
     refine decide_eq_false (fun e => ?_)
     exact near_twice (by omega) hlt (HX.out.trans HY.out.symm) (HP.out.nodup_iff.2 e)
    clear HR
    go_wp2
    refine wp_region_held_drew (S := fun w' => w'.cell? ⟨p, j, none⟩ = some (.int .i64 x) /\ w'.cell? ⟨p, i, none⟩ = some (.int .i64 x)) (by kernel_rfl) ⟨d0, d1⟩ (fun hHeld => ?_)
    refine tkGo [0, 1, 2, 3, 4, 5, 6, 7, 8, 9] ?_
    repeat (refine tkO (v := ?_) rfl ?_ ?_; rotate_left; (intro wy hSw; (try dsimp only at hSw); go_simp; (first | done | with_reducible rfl)); try simp only [Act.put, p1q, p2q, p3q, p4q, p5q, p6q])
    refine tkEnd ?_
    refine wpAnyH_done (by kernel_rfl) ?_ _
    clear hHeld
    go_wp2
    go_ret
    exact ⟨by rw [HR2.out]; rfl, HBd.out⟩
   ·have hxb : (x == y) = false := by simpa using hxy
    have HA2 : Hid (∀ k, 1 <= k -> k < j + 1 -> Z.getD k 0 ≠ Z.getD (k - 1) 0) := by
     intro k h1 h2
     rcases Nat.lt_succ_iff_lt_or_eq.1 h2 with g | g
     ·exact HA.out k h1 g
     ·rw [g, HX.out, HY.out]; exact hxy
    go_wp2
    refine wp_region_held_drew (S := fun w' => w'.cell? ⟨p, j, none⟩ = some (.int .i64 x) /\ w'.cell? ⟨p, i, none⟩ = some (.int .i64 y)) (by kernel_rfl) ⟨d0, d1⟩ (fun hHeld => ?_)
    refine tkGo [0, 1, 2, 3, 4, 5, 6, 7, 8, 9] ?_
    repeat (refine tkO (v := ?_) rfl ?_ ?_; rotate_left; (intro wy hSw; (try dsimp only at hSw); go_simp; (first | done | with_reducible rfl)); try simp only [Act.put, p1q, p2q, p3q, p4q, p5q, p6q])
    refine tkEnd ?_
    refine wpAnyH_done (by kernel_rfl) ?_ _
    clear hHeld
    go_wp2
    go_roundw
    case rel => exact ⟨j + 1, by omega, by omega, by go_num, HA2.out, HBe.out⟩
    case measure => simp [intOf]; omega
  ·have hltI : ¬ (j : Int) < Z.length := by omega
   have HR2 : Hid (r = true) := by
    show _ = _
    rw [<- HR.out]
    refine decide_eq_true (HP.out.nodup_iff.1 (nodup_near HU.out (fun k h1 h2 => ?_)))
    exact HA.out k h1 (by omega)
   clear HR
   go_wp2
   go_ret
   exact ⟨by rw [HR2.out]; rfl, HBw.out⟩
end
theorem wp_mapUpdate_in {H : Type} {P : Program} (w : World) {o : Oper} {a : Act} {K : Act -> World -> Prop} {Q : Exit -> Act -> World -> Prop} (m x v : Operand) (t : TypeId) (hop : o.op = Op.mapUpdate t m x v)
  (k e : TypeId) (KK : Keyed P k) (ht : P.underlying t = some (.map k e)) (R : Value -> Option (DataW H × List MemPlace)) (b n : Nat) (D : DataW H)
  (hm : a.eval m = .map (some b)) (hown : w.ownsMap P k R b n D) (hn : n < maxLen) (key val : Value) (kl : Lit) (hx : a.eval x = key) (hv : a.eval v = val) (hkey : keyOf P k key = some kl)
  (d : DataW H) (ps : List MemPlace) (hval : R val = some (d, ps))
  (h : ∀ w', w'.ownsMap P k R b (n + 1) (D.put kl d) -> w.grownBy w' (some b) -> K (a.put o.dst undef) w') : Oper.wp P o a w K Q := by
 obtain ⟨w', hrun, r1, r2⟩ := hown.update KK ht hn hkey hval
 unfold Oper.wp
 simp [execOp, hop, hm, hx, hv, hrun, Result.andThen]
 exact h w' r1 r2
structure Lq_g (w : World) (B b : Nat) (F : Ft) (n : Nat) (P : Rs_g) : Prop where
 ex : ∃ bm D L, Lh w b bm n D L /\ (L.map Hr.hm).Perm P /\ F = ftL b bm L
section
variable {w w' : World} {B b n : Nat} {F G : Ft} {P P' : Rs_g}
theorem Lq_g.lies (h : Lq_g w B b F n P) : Lies w F := by
 obtain ⟨bm, D, L, hD, _, rfl⟩ := h.ex
 exact hD.lies
theorem Lq_g.keeps (h : Lq_g w B b F n P) (hc : Chg w w' G) (ha : Apt G F) : Lq_g w' B b F n P := by
 obtain ⟨bm, D, L, hD, h1, rfl⟩ := h.ex
 exact ⟨bm, D, L, hD.chg hc ha, h1, rfl⟩
theorem Lq_g.below (h : Lq_g w B b F n P) (hb : Below w.heap.size w w') : Lq_g w' B b F n P := h.keeps (Chg.of_below (S := fun _ => False) hb) (fun _ e => e.elim)
theorem Lq_g.wf (h : Lq_g w B b F n P) {p : Int} (hp : P.has p = true) : (Lit.int .i64 p).wf = true := by
 obtain ⟨bm, D, L, hD, h1, rfl⟩ := h.ex
 obtain ⟨x, hx, rfl⟩ := (hm_has h1).1 hp
 exact hD.wf x hx
theorem lh_new (w : World) (n : Nat) : Lh ((w.alloc (.map #[] 0)).alloc (.cells #[.int .i64 n, .map (some w.heap.size)] 92)) (w.heap.size + 1) w.heap.size n (.map []) [] := by
 refine ⟨?_, (World.ownsMap_made w _ _ _).alloc _, fun p => by simp [Maps.has], (fun x hx => by cases hx), rfl, (fun x hx => by cases hx), (fun x hx => by cases hx), (fun k _ e => by obtain ⟨x, hx, _⟩ := e; cases hx)⟩
 have := Hp.new (w.alloc (.map #[] 0)) [.int .i64 n, .map (some w.heap.size)] 92
 simpa using this
set_option maxHeartbeats 1600000 in
theorem lqnew_ok (n : Nat) (h : n <= 4) (w : World) : Calls Tryz.prog 20 #[.int .i64 n] w fun e w' => ∃ b F, e = .returned (.tuple #[.pointer (some ⟨b, 0, none⟩), .int .i64 0]) /\ Lq_g w' w.heap.size b F n [] /\ Since w F /\ Below w.heap.size w w' := by
 have hmm := @run_makeMap Tryz.prog
 have h1 : ¬ (n : Int) < 0 := by omega
 have h2 : ¬ (n : Int) > 4 := by omega
 have h3 : ¬ (4 : Int) < n := by omega
 go_enter Tryz.func20, Tryz.ntmps20
 go_wp2
 go_ret2
 refine ⟨_, rfl, _, ⟨_, _, _, lh_new w n, List.Perm.refl _, rfl⟩, fun k hk => ?_, ((below_allocG w _).trans ((below_allocG _ _).mono (by simp)))⟩
 rcases hk with (e | e) | ⟨x, hx, _⟩
 ·omega
 ·omega
 ·cases hx
theorem lmoreH {w1 w2 : World} {bm N : Nat} {D : DataW Value} {L : List Hr} {p : Int} {a : Option Addr} {c : Nat} {ws : List Int} (hD : Lh w b bm n D L) (hp : (Lit.int .i64 p).wf = true) (hno : Maps.has D (.int .i64 p) = false) (hwf : ∀ x ∈ ws, (Lit.int .i64 x).wf = true)
  (h1 : RoI w1 w.heap.size (.slice a ws.length c) ws) (hb1 : Below w.heap.size w w1) (hm2 : w2.ownsMap Tryz.prog 3 elV bm N (D.put (.int .i64 p) (.held (.slice a ws.length c)))) (hg2 : w1.grownBy w2 (some bm)) :
  Lh w2 b bm n (D.put (.int .i64 p) (.held (.slice a ws.length c))) (L ++ [⟨p, .slice a ws.length c, ws⟩]) /\ Nx w w2 (ftL b bm L) (ftL b bm (L ++ [⟨p, .slice a ws.length c, ws⟩])) := by
 have hT := hD.map.tidy lawI
 have hsz : Maps.size (D.put (.int .i64 p) (.held (.slice a ws.length c))) = L.length + 1 := by
  rw [Maps.size_put hT, hno, hD.size]; rfl
 have hch : Chg w w2 (fun k => k = b ∨ k = bm) := (Chg.of_below (S := fun k => k = b ∨ k = bm) hb1).trans (Chg.of_grown hg2 (S := fun k => k = bm) rfl) (fun k _ e => .inr e)
 have hbl := hD.hp.lt
 have hne := hD.apart
 have hin : Lies w (inF L) := hD.ins.lies
 have hml := hD.map.lt
 have hnp : ∀ x ∈ L, x.p ≠ p := fun x hx e => by
  have : Maps.has D (.int .i64 p) = true := (hD.has p).2 ⟨x, hx, e⟩
  rw [hno] at this
  cases this
 refine ⟨⟨(hD.hp.below hb1 hbl).grown hg2 (fun e => hne (Option.some.inj e)), ?_, fun q => ?_, fun x hx z => ?_, by rw [hsz]; simp, fun x hx => ?_, fun x hx => ?_, fun k hk hi => ?_⟩, hch.mono (fun k e => .inl e), fun k hk => ?_⟩
 ·have := map_tight hm2
  rw [hsz] at this
  simpa using this
 ·by_cases e : q = p
  ·subst e
   rw [Maps.has_put_same hT.isMap (litI hp)]
   simp
  ·rw [Maps.has_put_other (litNe e), hD.has q]
   constructor
   ·rintro ⟨x, hx, h⟩; exact ⟨x, by simp [hx], h⟩
   ·rintro ⟨x, hx, h⟩
    rcases List.mem_append.1 hx with g | g
    ·exact ⟨x, g, h⟩
    ·rw [List.mem_singleton.1 g] at h; exact absurd h.symm e
 ·rcases List.mem_append.1 hx with g | g
  ·rw [Maps.atKey_put_other (litNe (hnp x g))]; exact hD.look x g z
  ·rw [List.mem_singleton.1 g]
   exact Maps.atKey_put_same hT.isMap (litI hp) _ _
 ·rcases List.mem_append.1 hx with g | g
  ·exact hD.wf x g
  ·rw [List.mem_singleton.1 g]; exact hp
 ·rcases List.mem_append.1 hx with g | g
  ·exact (hD.ins x g).chgE hch (fun hne j hj e2 => hD.low j e2 ⟨x, g, hne, hj⟩)
  ·rw [List.mem_singleton.1 g]
   refine (Sees.own h1 hwf).chgE (Chg.of_grown hg2 (S := fun k => k = bm) rfl) (fun _ j hj e2 => ?_)
   have := (h1.lt j hj).1
   omega
 ·obtain ⟨x, hx, hxn, hu⟩ := hi
  rcases List.mem_append.1 hx with g | g
  ·exact hD.low k hk ⟨x, g, hxn, hu⟩
  ·rw [List.mem_singleton.1 g] at hu
   have := (h1.lt k hu).1
   rcases hk with e | e <;> omega
 ·rcases hk with g | ⟨x, hx, hxn, hu⟩
  ·exact .inl (.inl g)
  ·rcases List.mem_append.1 hx with e | e
   ·exact .inl (.inr ⟨x, e, hxn, hu⟩)
   ·rw [List.mem_singleton.1 e] at hu
    exact .inr (h1.lt k hu).1
set_option maxHeartbeats 12800000 in
theorem Lq_g.hold (h : Lq_g w B b F n P) (hk : Rs_g.Ok n P) (hn : n <= 4) (hl : P.length <= 10000) (hB : B <= w.heap.size) (p : Int) (hp : Hid ((Lit.int .i64 p).wf = true)) {u : Value} {ws : List Int} (hz : Hid (ws.length * 8 <= 140737488355328)) (hs : Sees .i64 w u ws) (hap : ws ≠ [] -> Apt F (ftV u)) {E : Int} (HQ : Hid (Rs_g.hold n P p ws = (E, P'))) : Calls Tryz.prog 41 #[.pointer (some ⟨b, 0, none⟩), .int .i64 p, u] w fun e w' => e = .returned (.int .i64 E) /\ ∃ F', Lq_g w' B b F' n P' /\ Nx w w' F F' := by
 obtain ⟨i0, hi0, hz0, hzs, hzb⟩ := info_parts infoIntR
 have HH := keepG h
 have HHB := keepG (fun (wr : World) (hb : Below w.heap.size w wr) => h.below hb)
 obtain ⟨bm, D, L, hD, hP, hF⟩ := h.ex
 have HD := keepG hD
 have HP := keepG hP
 have HFE := keepG hF
 have HHS := keepG (hD.hasB hP p)
 have hll : L.length <= 10000 := by have := hP.length_eq; rw [List.length_map] at this; omega
 have c0 := hD.hp.cell (j := 0) rfl
 have HS := keepG hs
 have HWF := keepG hs.wf
 have hq := HQ.out
 unfold Rs_g.hold at hq
 have HQ2 := keepG hq
 obtain ⟨a, cap, ev⟩ := hs.shape
 subst ev
 have HZ2 : ws.length * 8 <= 140737488355328 := hz.out
 clear h hD hP hs HQ hq hz hF
 obtain ⟨r1, HR1⟩ : ∃ r, Hid (ws.all (inM n) = r) := ⟨_, rfl⟩
 obtain ⟨r2, HR2⟩ : ∃ r, Hid (decide ws.Nodup = r) := ⟨_, rfl⟩
 have HOK : Hid (okM_g n ws = (r2 && r1)) := by show _ = _; unfold okM_g; rw [HR1.out, HR2.out]
 go_enter Tryz.func41, Tryz.ntmps41
 cases r1 with
 | false =>
  have hq := HQ2.out
  rw [if_pos (by rw [HOK.out]; cases r2 <;> rfl)] at hq
  injection hq with e1 e2
  subst e1 e2
  go_wp2_with (go_at_call 32; go_must (refine (lhasEach c0 HS.out.weak HR1).mono ?_); rintro e w1 ⟨rfl, rfl⟩)
  go_ret
  exact ⟨rfl, F, HH.out, Nx.refl _ _⟩
 | true =>
  cases r2 with
  | false =>
   have hq := HQ2.out
   rw [if_pos (by rw [HOK.out]; rfl)] at hq
   injection hq with e1 e2
   subst e1 e2
   go_wp2_with (first
    | (go_at_call 32; go_must (refine (lhasEach c0 HS.out.weak HR1).mono ?_); rintro e w1 ⟨rfl, rfl⟩)
    | (go_at_call 42; go_must (refine (lrepeats HS.out HZ2 HR2).mono ?_); rintro e w2 ⟨rfl, hb2⟩; go_must (have HB2 := keepG hb2; clear hb2; simp only [Bool.not_false])))
   go_ret
   exact ⟨rfl, F, HHB.out _ HB2.out, Nx.below HB2.out⟩
  | true =>
   have hq := HQ2.out
   rw [if_neg (by rw [HOK.out]; simp)] at hq
   have HQ3 := keepG hq
   clear hq HQ2
   obtain ⟨r3, HR3⟩ : ∃ r, Hid (P.has p = r) := ⟨_, rfl⟩
   cases r3 with
   | true =>
    have hq := HQ3.out
    rw [if_pos HR3.out] at hq
    injection hq with e1 e2
    subst e1 e2
    go_wp2_with (first
     | (go_at_call 32; go_must (refine (lhasEach c0 HS.out.weak HR1).mono ?_); rintro e w1 ⟨rfl, rfl⟩)
     | (go_at_call 42; go_must (refine (lrepeats HS.out HZ2 HR2).mono ?_); rintro e w2 ⟨rfl, hb2⟩; go_must (have HB2 := keepG hb2; clear hb2; simp only [Bool.not_true]))
     | (go_at_call 43; go_must (refine (lholds (HD.out.below HB2.out) hp.out (r := true) (show _ = _ from HHS.out.trans HR3.out)).mono ?_); rintro e w3 ⟨rfl, rfl⟩))
    go_ret
    exact ⟨rfl, F, HHB.out _ HB2.out, Nx.below HB2.out⟩
   | false =>
    have hq := HQ3.out
    rw [if_neg (by rw [HR3.out]; decide)] at hq
    injection hq with e1 e2
    subst e1
    have HPP : Hid (insH ⟨p, ws⟩ P = P') := e2
    clear e2 HQ3
    go_wp2_with (first
     | (go_at_call 32; go_must (refine (lhasEach c0 HS.out.weak HR1).mono ?_); rintro e w1 ⟨rfl, rfl⟩)
     | (go_at_call 42; go_must (refine (lrepeats HS.out HZ2 HR2).mono ?_); rintro e w2 ⟨rfl, hb2⟩; go_must (have HB2 := keepG hb2; clear hb2; simp only [Bool.not_true]))
     | (go_at_call 43; go_must (refine (lholds (HD.out.below HB2.out) hp.out (r := false) (show _ = _ from HHS.out.trans HR3.out)).mono ?_); rintro e w3 ⟨rfl, rfl⟩))
    have HD2 := keepG (HD.out.below HB2.out)
    have c1 := HD2.out.hp.cell (j := 1) rfl
    have HS2 := keepG (HS.out.below HB2.out (Nat.le_refl _))
    refine wp_region_held_drew (S := fun w' => w'.cell? ⟨b, 1, none⟩ = some (.map (some bm))) (by kernel_rfl) c1 (fun hHeld => ?_)
    refine tkGo [0, 1, 2, 3, 4, 5] ?_
    repeat (refine tkO (v := ?_) rfl ?_ ?_; rotate_left; (intro wy hSw; (try dsimp only at hSw); go_simp; (first | done | with_reducible rfl)); try simp only [Act.put, p1q, p2q, p3q, p4q, p5q, p6q])
    refine tkEnd ?_
    refine runO 6 (by kernel_rfl) rfl (by rfl) (fun KK hK => ?_)
    refine wp_append_sees (.const (.slice none 0 0)) (.tmp 23) 32 rfl w2.heap.size 3 i0 _ 8 Tryz.underlying32 hi0 hz0 hzs hzb rfl .i64 (.slice none 0 0) [] rfl (World.ownsRow_nil _ _ _ _) (.slice a ws.length cap) ws rfl (HS2.out.drewN 1) (by unfold maxLen; simp; omega) (by simp; omega) (Nat.le_refl _) ?_
    intro v8 w8 hown8 hgr8
    rw [List.nil_append] at hown8
    have hb8 : Below w2.heap.size w2 w8 := (below_drG (Below.refl _ _)).trans (below_grown (World.ownsRow_nil w2.drew w2.heap.size 3 1) hgr8 (Nat.le_refl _))
    have HO8 : Hid (RoI w8 w2.heap.size v8 ws) := hown8
    have HB8 := keepG hb8
    obtain ⟨xa, xc, ev8⟩ := own_shape hown8
    subst ev8
    have c18 := (HD2.out.below hb8).hp.cell (j := 1) rfl
    refine hK.out _ _ c18 (fun hHeld => ?_)
    clear hK KK hown8 hgr8 hb8
    try simp only [Act.put, p1q, p2q, p3q, p4q, p5q, p6q]
    refine runO 7 (by kernel_rfl) rfl (by rfl) (fun KK hK => ?_)
    refine wp_mapUpdate_in _ (.tmp 21) (.tmp 22) (.tmp 24) 90 rfl 3 32 lawI Tryz.underlying90 elV bm L.length D rfl (HD2.out.below HB8.out).map (by unfold maxLen; omega) _ _ (.int .i64 p) rfl rfl (keyI hp.out) _ [] (elV_mk xa ws.length xc) ?_
    intro w9 hm9 hg9
    have hno : Maps.has D (.int .i64 p) = false := HHS.out.trans HR3.out
    have HM := keepG (lmoreH HD2.out hp.out hno HWF.out HO8.out HB8.out hm9 hg9)
    refine hK.out _ _ (HM.out.1.hp.cell (j := 1) rfl) (fun hHeld => ?_)
    clear hK KK hm9 hg9
    try simp only [Act.put, p1q, p2q, p3q, p4q, p5q, p6q]
    refine wpAnyH_done (by kernel_rfl) ?_ _
    clear hHeld
    go_wp2
    go_ret
    have hF := HFE.out
    subst hF
    refine ⟨rfl, _, ⟨_, _, _, HM.out.1, ?_, rfl⟩, (Nx.below HB2.out).trans HM.out.2⟩
    rw [<- HPP.out, List.map_append]
    exact ((HP.out.append_right _).trans (List.perm_append_singleton _ _)).trans (insH_perm _ _).symm
end
theorem nodup_p {n : Nat} {P : Rs_g} {L : List Hr} (hk : Rs_g.Ok n P) (hp : (L.map Hr.hm).Perm P) : (L.map Hr.p).Nodup := by
 have h1 : (P.map Hm.p).Nodup := by
  rw [List.Nodup, List.pairwise_map]
  exact hk.up.imp (fun h => by omega)
 have h2 : (L.map Hr.p) = (L.map Hr.hm).map Hm.p := by rw [List.map_map]; rfl
 rw [h2]
 exact (hp.map Hm.p).nodup_iff.2 h1
theorem one_gone {x : Int} : ∀ {L : List Hr}, (L.map Hr.p).Nodup -> (∃ h ∈ L, h.p = x) -> (L.filter (neP x)).length + 1 = L.length := by
 intro L
 induction L with
 | nil => rintro _ ⟨h, hh, _⟩; cases hh
 | cons y l ih =>
  intro hn hx
  rw [List.map_cons, List.nodup_cons] at hn
  by_cases e : y.p = x
  ·have hall : l.filter (neP x) = l := by
    rw [List.filter_eq_self]
    intro z hz
    unfold neP
    have : z.p ≠ x := fun e2 => hn.1 (by rw [e, <- e2]; exact List.mem_map.2 ⟨z, hz, rfl⟩)
    simp [this]
   rw [List.filter_cons_of_neg (by unfold neP; simp [e]), hall]
   simp
  ·obtain ⟨h, hh, he⟩ := hx
   have hl : h ∈ l := by
    rcases List.mem_cons.1 hh with g | g
    ·rw [g] at he; exact absurd he e
    ·exact g
   have := ih hn.2 ⟨h, hl, he⟩
   rw [List.filter_cons_of_pos (by unfold neP; simp [e])]
   simp only [List.length_cons]
   omega
section
variable {w w' : World} {B b n : Nat} {F G : Ft} {P P' : Rs_g}
theorem llessH {w2 : World} {bm N : Nat} {D : DataW Value} {L : List Hr} {x : Int} (hD : Lh w b bm n D L) (hn : (L.map Hr.p).Nodup) (hx : ∃ h ∈ L, h.p = x) (hm2 : w2.ownsMap Tryz.prog 3 elV bm N (D.del (.int .i64 x))) (hg2 : w.grownBy w2 (some bm)) :
  Lh w2 b bm n (D.del (.int .i64 x)) (L.filter (neP x)) /\ Nx w w2 (ftL b bm L) (ftL b bm (L.filter (neP x))) := by
 have hT := hD.map.tidy lawI
 have hsub : ∀ h ∈ L.filter (neP x), h ∈ L /\ h.p ≠ x := fun h hh => by
  have := List.mem_filter.1 hh
  refine ⟨this.1, fun e => ?_⟩
  have h2 := this.2
  unfold neP at h2
  simp [e] at h2
 have hsz : Maps.size (D.del (.int .i64 x)) = (L.filter (neP x)).length := by
  have h1 := Maps.size_del (k := .int .i64 x) hT
  rw [if_pos ((hD.has x).2 hx), hD.size] at h1
  have h2 := one_gone hn hx
  omega
 have hch : Chg w w2 (fun k => k = bm) := Chg.of_grown hg2 rfl
 have hne := hD.apart
 have hsi : ∀ k, inF (L.filter (neP x)) k -> inF L k := fun k ⟨y, hy, hyn, hu⟩ => ⟨y, (hsub y hy).1, hyn, hu⟩
 refine ⟨⟨hD.hp.grown hg2 (fun e => hne (Option.some.inj e)), ?_, fun q => ?_, fun y hy z => ?_, hsz, fun y hy => hD.wf y (hsub y hy).1, fun y hy => (hD.ins y (hsub y hy).1).chgE hch (fun hyn j hj e2 => hD.low j (.inr e2) ⟨y, (hsub y hy).1, hyn, hj⟩), fun k hk hi => hD.low k hk (hsi k hi)⟩, hch.mono (fun k e => .inl (.inr e)), fun k hk => ?_⟩
 ·have := map_tight hm2
  rw [hsz] at this
  exact this
 ·by_cases e : q = x
  ·subst e
   rw [Maps.has_del_same]
   constructor
   ·intro h; cases h
   ·rintro ⟨y, hy, he⟩; exact absurd he (hsub y hy).2
  ·rw [Maps.has_del_other (litNe e), hD.has q]
   constructor
   ·rintro ⟨y, hy, he⟩; exact ⟨y, List.mem_filter.2 ⟨hy, by unfold neP; rw [he]; simp [e]⟩, he⟩
   ·rintro ⟨y, hy, he⟩; exact ⟨y, (hsub y hy).1, he⟩
 ·rw [Maps.atKey_del_other (litNe (hsub y hy).2)]
  exact hD.look y (hsub y hy).1 z
 ·rcases hk with g | g
  ·exact .inl (.inl g)
  ·exact .inl (.inr (hsi k g))
set_option maxHeartbeats 12800000 in
theorem Lq_g.drop (h : Lq_g w B b F n P) (hk : Rs_g.Ok n P) (hn : n <= 4) (hl : P.length <= 10000) (hB : B <= w.heap.size) {u : Value} {ps : List Int} (hz : Hid (ps.length * 8 <= 140737488355328)) (hs : Sees .i64 w u ps) (hap : ps ≠ [] -> Apt F (ftV u)) {E : Int} (HQ : Hid (Rs_g.drop P ps = (E, P'))) : Calls Tryz.prog 23 #[.pointer (some ⟨b, 0, none⟩), u] w fun e w' => e = .returned (.int .i64 E) /\ ∃ F', Lq_g w' B b F' n P' /\ Nx w w' F F' := by
 have HHB := keepG (fun (wr : World) (hb : Below w.heap.size w wr) => h.below hb)
 have HS := keepG (fun (wr : World) (hb : Below w.heap.size w wr) => hs.below hb (Nat.le_refl _))
 have HSC := keepG (fun (wr : World) (hc : Chg w wr F) => hs.chgE hc (fun hne j hj e => hap hne j e hj))
 have HS0 := keepG hs
 have HWF := keepG hs.wf
 have hq := HQ.out
 unfold Rs_g.drop at hq
 have HQ2 := keepG hq
 obtain ⟨a, cap, rfl, hlc, hmx, _⟩ := hs
 unfold maxLen at hmx
 have HZ2 : ps.length * 8 <= 140737488355328 := hz.out
 clear h HQ hq hz hap
 obtain ⟨r2, HR2⟩ : ∃ r, Hid (decide ps.Nodup = r) := ⟨_, rfl⟩
 rw [HR2.out] at HQ2
 go_enter Tryz.func23, Tryz.ntmps23
 cases r2 with
 | false =>
  have hq := HQ2.out
  rw [if_pos rfl] at hq
  injection hq with e1 e2
  subst e1 e2
  go_wp2_with (go_at_call 42; go_must (refine (lrepeats HS0.out HZ2 HR2).mono ?_); rintro e w2 ⟨rfl, hb2⟩; go_must (have HB2 := keepG hb2; clear hb2; simp only [Bool.not_false]))
  go_ret
  exact ⟨rfl, F, HHB.out _ HB2.out, Nx.below HB2.out⟩
 | true =>
  have hq := HQ2.out
  rw [if_neg (by decide)] at hq
  have HQ3 := keepG hq
  clear hq HQ2
  go_wp2_with (go_at_call 42; go_must (refine (lrepeats HS0.out HZ2 HR2).mono ?_); rintro e w2 ⟨rfl, hb2⟩; go_must (have HB2 := keepG hb2; clear hb2; simp only [Bool.not_true]))
  have HD2 := keepG (HHB.out _ HB2.out)
  go_loopw [13] (fun i wr => ∃ j : Nat, j <= ps.length /\ i = .int .i64 j /\ Hid ((ps.take j).all (Rs_g.has P) = true) /\ w2 = wr) (fun i _ => ps.length - (intOf i).toNat)
  case atStart => exact ⟨0, by omega, rfl, rfl, rfl⟩
  case round =>
   obtain ⟨j, hj, rfl, HA, rfl⟩ := hrel
   by_cases hlt : j < ps.length
   ·have hltI : (j : Int) < ps.length := by omega
    obtain ⟨g, off, ev, hat⟩ := (HS.out w2 HB2.out).atE hlt
    subst ev
    have d0 := hat j hlt
    have hT := take_at ps j hlt
    have hmem := getD_mem ps j hlt
    have hwx := HWF.out _ hmem
    obtain ⟨x, HX⟩ : ∃ x, Hid (ps.getD j 0 = x) := ⟨_, rfl⟩
    rw [HX.out] at d0 hT hmem hwx
    have HT : Hid ((ps.take (j + 1)).all (Rs_g.has P) = P.has x) := by show _ = _; rw [hT, List.all_append, HA.out]; simp
    have HWX := keepG hwx
    clear hat hT hwx
    obtain ⟨bm, D, L, hD, hP, _⟩ := HD2.out.ex
    have HHS := keepG (hD.hasB hP x)
    have HDD := keepG hD
    clear hD hP
    obtain ⟨r3, HR3⟩ : ∃ r, Hid (P.has x = r) := ⟨_, rfl⟩
    cases r3 with
    | false =>
     have hf : ps.all (Rs_g.has P) = false := by
      cases he : ps.all (Rs_g.has P) with
      | false => rfl
      | true => have := List.all_eq_true.1 he x hmem; rw [HR3.out] at this; cases this
     have hq2 := HQ3.out
     rw [if_pos hf] at hq2
     injection hq2 with e1 e2
     subst e1 e2
     clear hf hmem
     go_wp2_with (go_at_call 43; go_must (refine (lholds HDD.out HWX.out (r := false) (show _ = _ from HHS.out.trans HR3.out)).mono ?_); rintro e w3 ⟨rfl, rfl⟩)
     go_ret
     exact ⟨rfl, F, HD2.out, Nx.below HB2.out⟩
    | true =>
     have HT2 : Hid ((ps.take (j + 1)).all (Rs_g.has P) = true) := by show _ = _; rw [HT.out]; exact HR3.out
     clear hmem
     go_wp2_with (go_at_call 43; go_must (refine (lholds HDD.out HWX.out (r := true) (show _ = _ from HHS.out.trans HR3.out)).mono ?_); rintro e w3 ⟨rfl, rfl⟩)
     go_roundw
     case rel => exact ⟨j + 1, by omega, by go_num, HT2.out, by first | rfl | trivial⟩
     case measure => simp [intOf]; omega
   ·have hltI : ¬ (j : Int) < ps.length := by omega
    have hf : ps.all (Rs_g.has P) = true := by
     have := HA.out
     rw [List.take_of_length_le (by omega)] at this
     exact this
    have hq2 := HQ3.out
    rw [if_neg (by rw [hf]; decide)] at hq2
    injection hq2 with e1 e2
    subst e1
    have HPP : Hid (P.filter (outP ps) = P') := e2
    have HALL := keepG (List.all_eq_true.1 hf)
    have HND := keepG (show ps.Nodup from of_decide_eq_true HR2.out)
    clear HQ3 hf HA e2
    go_wp2
    go_loopw [24] (fun i wz => ∃ z : Nat, z <= ps.length /\ i = .int .i64 z /\ ∃ F1, Hid (Lq_g wz B b F1 n (P.filter (outP (ps.take z))) /\ Nx w wz F F1)) (fun i _ => ps.length - (intOf i).toNat)
    case atStart => exact ⟨0, by omega, rfl, F, by
     have e : P.filter (outP (ps.take 0)) = P := by
      rw [List.filter_eq_self]
      intro x hx
      simp [outP]
     rw [e]
     exact ⟨HD2.out, Nx.below HB2.out⟩⟩
    case round =>
     obtain ⟨z, hz, rfl, F1, HDz⟩ := hrel
     rename World => wz
     by_cases hzt : z < ps.length
     ·have hztI : (z : Int) < ps.length := by omega
      obtain ⟨g, off, ev, hat⟩ := (HSC.out wz HDz.out.2.chg).atE hzt
      subst ev
      have d0 := hat z hzt
      have hT := take_at ps z hzt
      have hmem := getD_mem ps z hzt
      have hwx := HWF.out _ hmem
      have hnt := (nodup_take ps hzt).1 (HND.out.sublist (List.take_sublist _ _))
      obtain ⟨x, HX⟩ : ∃ x, Hid (ps.getD z 0 = x) := ⟨_, rfl⟩
      rw [HX.out] at d0 hT hmem hnt hwx
      have hokz := hk.filter (outP (ps.take z))
      obtain ⟨bm, D, L, hD, hP, hFz⟩ := HDz.out.1.ex
      have hasx : Rs_g.has (P.filter (outP (ps.take z))) x = true := by
       obtain ⟨y, hy, e⟩ := Rs_g.has_iff.1 (HALL.out x hmem)
       exact Rs_g.has_iff.2 ⟨y, List.mem_filter.2 ⟨hy, by unfold outP; rw [e, decide_eq_false hnt.2]; rfl⟩, e⟩
      have HT : Hid (P.filter (outP (ps.take (z + 1))) = (P.filter (outP (ps.take z))).filter (fun h => !decide (h.p = x))) := by show _ = _; rw [hT, filter_out]
      have HNX := keepG HDz.out.2
      have HNP := keepG (nodup_p hokz hP)
      have HEX := keepG ((hm_has hP).1 hasx)
      have HKX := keepG (keyI hwx)
      have c1 := hD.hp.cell (j := 1) rfl
      have HDD := keepG hD
      have HPM := keepG hP
      have HFz := keepG hFz
      clear hat hT hmem hnt hD hP hwx hokz hasx hFz HDz
      go_wp2_with (at_delete; go_must (refine wpList_delete_own _ rfl _ _ 90 3 rfl 32 lawI Tryz.underlying90 elV bm L.length D rfl HDD.out.map _ _ rfl HKX.out ?_); intro w5 hm5 ht5; go_must (have HM := keepG (llessH HDD.out HNP.out HEX.out hm5 ht5.grown); clear hm5 ht5))
      go_roundw
      case rel => exact ⟨z + 1, by omega, by go_num, _, by
       have hF := HFz.out
       subst hF
       refine ⟨⟨_, _, _, HM.out.1, ?_, rfl⟩, HNX.out.trans HM.out.2⟩
       rw [HT.out, filter_hm]
       exact HPM.out.filter _⟩
      case measure => simp [intOf]; omega
     ·have hztI : ¬ (z : Int) < ps.length := by omega
      have HE : Hid (P.filter (outP (ps.take z)) = P') := by show _ = _; rw [List.take_of_length_le (by omega)]; exact HPP.out
      go_wp2
      go_ret
      have h5 := HDz.out
      rw [HE.out] at h5
      exact ⟨rfl, F1, h5.1, h5.2⟩
end
theorem wpList_next_sl {P : Program} (w : World) {ops : Array Oper} {rest : List Oper} {o : Oper} {a : Act} {Q : Exit -> Act -> World -> Prop} (hg : o.guard = none) (it : Operand) (hop : o.op = Op.next it false) (k : TypeId) (K : Keyed P k) (hk : P.underlying k = some (.int .i64)) (b r n : Nat) (D : DataW Value) (left : Lit -> Bool) (cnt : Nat)
  (hit : a.eval it = .pointer (some ⟨r, 0, none⟩)) (h : w.ranges P k elV b r n D left cnt)
  (hDone : (∀ kl, left kl = false) -> wpList P ops Q rest (a.put o.dst (.tuple #[.bool false])) w)
  (hMore : ∀ (x : Int) (sa : Option Addr) (sl sc : Nat) (w' : World) (cnt' : Nat), left (.int .i64 x) = true -> (∀ zd, D.atKey (.int .i64 x) zd = .held (.slice sa sl sc)) -> w'.ranges P k elV b r n D (fun z => left z && !z.sameKey (.int .i64 x)) cnt' -> cnt' < cnt ->
   w.grownBy w' (some r) -> (Instr.entry (.pointer (some ⟨r, 0, none⟩))).run P w' = .ok (.tuple #[.int .i64 x, .slice sa sl sc]) w' -> wpList P ops Q rest (a.put o.dst (.tuple #[.bool true, .int .i64 x, .slice sa sl sc])) w') :
  wpList P ops Q (o :: rest) a w :=
 wpList_next_ranges w hg it hop k K elV (Value.int .i64) (fun c : Option Addr × Nat × Nat => .slice c.1 c.2.1 c.2.2) (fun key kl hkey => by obtain ⟨x, rfl, _⟩ := Maps.keyOf_int_inv hk hkey; exact ⟨x, rfl⟩) (fun v y hv => elV_shape hv)
  b r n D left cnt hit h (fun _ => hDone) (fun x c kl y w' cnt' hkey hlk hv hat hrg hlt hgr hsz hen => by
   obtain ⟨x', ex, rfl, hwx⟩ := Maps.keyOf_int_inv hk hkey
   cases ex
   have he := (elV_inv hv).2
   exact hMore x c.1 c.2.1 c.2.2 w' cnt' hlk (fun zd => by rw [hat zd, he]) hrg hlt hgr hen)
structure Col (L : List Hr) (x : Int) (left : Lit -> Bool) (cnt : Nat) (Y : List Int) : Prop where
 nd : Y.Nodup
 mem : ∀ p, p ∈ Y ↔ ∃ h ∈ L, h.p = p /\ x ∈ h.ms /\ left (.int .i64 p) = false
 len : Y.length + cnt <= L.length
section
variable {w w' : World} {B b n : Nat} {F G : Ft} {P P' : Rs_g} {L : List Hr} {x : Int} {left : Lit -> Bool} {cnt cnt' : Nat} {Y : List Int} {D : DataW Value}
theorem same_iff {p q : Int} (h : (Lit.int .i64 q).wf = true) : (Lit.int .i64 p).sameKey (.int .i64 q) = decide (p = q) := by
 by_cases e : p = q
 ·subst e; rw [WideAt.sameKey_self (litI h)]; simp
 ·rw [Maps.sameKey_ne (litNe e)]; simp [e]
theorem Col.more (hc : Col L x left cnt Y) (hnd : (L.map Hr.p).Nodup) {y : Hr} (hy : y ∈ L) (hwf : (Lit.int .i64 y.p).wf = true) (hl : left (.int .i64 y.p) = true) (hlt : cnt' < cnt) (hx : x ∈ y.ms) : Col L x (fun z => left z && !z.sameKey (.int .i64 y.p)) cnt' (Y ++ [y.p]) := by
 have hno : ¬ y.p ∈ Y := fun e => by
  obtain ⟨_, _, _, _, h⟩ := (hc.mem y.p).1 e
  rw [hl] at h
  cases h
 refine ⟨?_, fun p => ?_, ?_⟩
 ·rw [List.nodup_append]
  exact ⟨hc.nd, by simp, fun a ha b hb e => hno (by rw [List.mem_singleton.1 hb] at e; rw [<- e]; exact ha)⟩
 ·show p ∈ Y ++ [y.p] ↔ ∃ h ∈ L, h.p = p /\ x ∈ h.ms /\ (left (.int .i64 p) && !(Lit.int .i64 p).sameKey (.int .i64 y.p)) = false
  rw [same_iff hwf, List.mem_append, hc.mem p]
  constructor
  ·rintro (⟨h, hh, e, hm, h0⟩ | e)
   ·exact ⟨h, hh, e, hm, by rw [h0]; rfl⟩
   ·have e' := List.mem_singleton.1 e
    exact ⟨y, hy, e'.symm, hx, by rw [e']; simp⟩
  ·rintro ⟨h, hh, e, hm, h0⟩
   by_cases ep : p = y.p
   ·exact .inr (by rw [ep]; simp)
   ·refine .inl ⟨h, hh, e, hm, ?_⟩
    simpa [ep] using h0
 ·have := hc.len
  simp
  omega
theorem Col.skip (hc : Col L x left cnt Y) (hone : ∀ h ∈ L, ∀ h' ∈ L, h.p = h'.p -> h = h') {y : Hr} (hy : y ∈ L) (hwf : (Lit.int .i64 y.p).wf = true) (hlt : cnt' < cnt) (hx : ¬ x ∈ y.ms) : Col L x (fun z => left z && !z.sameKey (.int .i64 y.p)) cnt' Y := by
 refine ⟨hc.nd, fun p => ?_, by have := hc.len; omega⟩
 show p ∈ Y ↔ ∃ h ∈ L, h.p = p /\ x ∈ h.ms /\ (left (.int .i64 p) && !(Lit.int .i64 p).sameKey (.int .i64 y.p)) = false
 rw [same_iff hwf, hc.mem p]
 constructor
 ·rintro ⟨h, hh, e, hm, h0⟩
  exact ⟨h, hh, e, hm, by rw [h0]; rfl⟩
 ·rintro ⟨h, hh, e, hm, h0⟩
  refine ⟨h, hh, e, hm, ?_⟩
  by_cases ep : p = y.p
  ·exact absurd (by rw [<- hone h hh y hy (e.trans ep)]; exact hm) hx
  ·simpa [ep] using h0
theorem Col.fin (hc : Col L x left cnt Y) (hl : ∀ kl, left kl = false) (hk : Rs_g.Ok n P) (hP : (L.map Hr.hm).Perm P) : Y.Perm (P.holders x) := by
 refine (List.perm_ext_iff_of_nodup hc.nd ((hk.holders_up x).imp (fun h => by omega))).2 (fun p => ?_)
 rw [hc.mem p]
 unfold Rs_g.holders
 simp only [List.mem_map, List.mem_filter, decide_eq_true_eq]
 constructor
 ·rintro ⟨h, hh, e, hm, _⟩
  exact ⟨h.hm, ⟨hP.mem_iff.1 (List.mem_map.2 ⟨h, hh, rfl⟩), hm⟩, e⟩
 ·rintro ⟨g, ⟨hg, hm⟩, e⟩
  obtain ⟨h, hh, rfl⟩ := List.mem_map.1 (hP.mem_iff.2 hg)
  exact ⟨h, hh, e, hm, hl _⟩
theorem Lh.came {bm : Nat} (h : Lh w b bm n D L) {p : Int} {sa : Option Addr} {sl sc : Nat} (hat : ∀ zd, D.atKey (.int .i64 p) zd = .held (.slice sa sl sc)) : ∃ y ∈ L, y.p = p /\ y.u = .slice sa sl sc := by
 obtain ⟨y, hy, e⟩ := (h.has p).1 (Maps.has_true_of_atKey hat)
 refine ⟨y, hy, e, ?_⟩
 have h1 := h.look y hy .nil
 rw [e, hat] at h1
 injection h1 with h1
 exact h1.symm
set_option maxHeartbeats 12800000 in
theorem Lq_g.holders (h : Lq_g w B b F n P) (hk : Rs_g.Ok n P) (hn : n <= 4) (hl : P.length <= 10000) (x : Int) {A : List Int} (HA : Hid (P.holders x = A)) : Calls Tryz.prog 33 #[.pointer (some ⟨b, 0, none⟩), .int .i64 x] w fun e w' => ∃ u, e = .returned u /\ RoI w' w.heap.size u A /\ Below w.heap.size w w' := by
 obtain ⟨i0, hi0, hz0, hzs, hzb⟩ := info_parts infoIntR
 obtain ⟨bm, D, L, hD, hP, _⟩ := h.ex
 have hll : L.length <= 10000 := by have := hP.length_eq; rw [List.length_map] at this; omega
 have c1 := hD.hp.cell (j := 1) rfl
 have HD := keepG hD
 have HDB := keepG (fun (wr : World) (hb : Below w.heap.size w wr) => hD.below hb)
 have HNP := keepG (nodup_p hk hP)
 have HONE : Hid (∀ h ∈ L, ∀ h' ∈ L, h.p = h'.p -> h = h') := by
  intro g hg g' hg' e
  have h1 := hk.one (hP.mem_iff.1 (List.mem_map.2 ⟨g, hg, rfl⟩)) (hP.mem_iff.1 (List.mem_map.2 ⟨g', hg', rfl⟩)) e
  obtain ⟨p1, u1, m1⟩ := g
  obtain ⟨p2, u2, m2⟩ := g'
  have e1 : p1 = p2 := e
  subst e1
  have e2 : m1 = m2 := by injection h1
  subst e2
  have a1 := hD.look _ hg .nil
  have a2 := hD.look _ hg' .nil
  rw [a1] at a2
  injection a2 with a2
  have e3 : u1 = u2 := a2
  rw [e3]
 have HFIN : Hid (∀ left cnt Y, Col L x left cnt Y -> (∀ kl, left kl = false) -> srtI Y = A) := by
  intro left cnt Y hc hl0
  have := hc.fin hl0 hk hP
  rw [HA.out] at this
  refine srtI_eq this ?_
  rw [<- HA.out]
  exact hk.holders_up x
 have HST : Hid (Col L x (Maps.has D) (Maps.size D) []) := by
  refine ⟨List.nodup_nil, fun p => ?_, by rw [hD.size]; simp⟩
  constructor
  ·intro h; cases h
  ·rintro ⟨g, hg, e, _, h0⟩
   have : Maps.has D (.int .i64 p) = true := (hD.has p).2 ⟨g, hg, e⟩
   rw [h0] at this
   cases this
 clear h hD hP HA
 go_enter Tryz.func33, Tryz.ntmps33
 go_wp2_with (at_range; go_must (refine wpList_range_own _ rfl _ 90 rfl 3 32 lawI Tryz.underlying90 elV bm L.length D rfl HD.out.map ?_); intro w0 hrg0 hg0 hs0; go_must (have HR0 := keepG hrg0; have HB0 : Hid (Below w.heap.size w w0) := (Below.refl _ _).grown hg0 (Nat.le_refl _) (fun j hj => by cases hj); have HZ0 := keepG hs0; clear hrg0 hg0 hs0))
 go_frame
 go_loopw [5] (fun u wr => ∃ left cnt Y, Hid (wr.ranges Tryz.prog 3 elV bm w.heap.size L.length D left cnt) /\ Hid (Col L x left cnt Y) /\ Hid (RoI wr (w.heap.size + 1) u Y) /\ Hid (Below w.heap.size w wr)) (fun _ wr => wr.rangeLeft bm w.heap.size)
 case atStart => exact ⟨_, _, [], HR0.out, HST.out, World.ownsRow_nil _ _ _ _, HB0.out⟩
 case round =>
  rename_i u wr
  obtain ⟨left, cnt, Y, HR, HC, HO, HB⟩ := hrel
  obtain ⟨ua, uc, ev⟩ := own_shape HO.out
  subst ev
  have hYl : Y.length <= 10000 := by have := HC.out.len; omega
  have hrl := HR.out.lt
  go_wp2_with (first
   | (at_next; go_must (refine wpList_next_sl _ rfl _ rfl 3 lawI Tryz.underlying3 bm w.heap.size L.length D left cnt rfl HR.out (fun hl0 => ?_) (fun y sa sl sc w1 cnt1 hlk hat hrg1 hlt hg1 hen => ?_)))
   | (go_at_call 50; fail))
  ·have HF := keepG (HFIN.out left cnt Y HC.out hl0)
   clear hl0
   go_at_call 50
   refine (lsort HO.out (by omega)).mono ?_
   rintro e w2 ⟨rfl, ho2, hg2⟩
   have HB2 : Hid (Below w.heap.size w w2) := HB.out.grown hg2 HB.out.size (fun j hj => by have := (HO.out.lt j hj).1; omega)
   rw [HF.out] at ho2
   have HO2 := keepG ho2
   clear ho2 hg2
   go_wp2
   go_ret
   exact ⟨_, rfl, own_lowG HO2.out (by omega), HB2.out⟩
  ·go_at_call 49
   obtain ⟨h, hh, e1, e2⟩ := HD.out.came hat
   subst e1
   have HB1 : Hid (Below w.heap.size w w1) := HB.out.grown hg1 HB.out.size (fun j hj => by have := Option.some.inj hj; omega)
   have hse := (HDB.out w1 HB1.out).ins h hh
   rw [e2] at hse
   have HWY := keepG (HD.out.wf h hh)
   have HO1 : Hid (RoI w1 (w.heap.size + 1) (.slice ua Y.length uc) Y) := HO.out.kept hg1 (by
    rcases hob : (Value.slice ua Y.length uc).ownBlock with _ | k
    ·exact .inl rfl
    ·have := (HO.out.lt k hob).1
     exact .inr (fun e => by have := Option.some.inj e; omega))
   obtain ⟨r, HRR⟩ : ∃ r, Hid (decide (x ∈ h.ms) = r) := ⟨_, rfl⟩
   refine (lcontI hse x HRR).mono ?_
   rintro e w2 ⟨rfl, rfl⟩
   have HL1 := keepG HR.out.left_eq
   have HR1 := keepG hrg1
   have HLT := keepG hlt
   have hz1 := hg1.size
   cases r with
   | false =>
    have HC1 := keepG (HC.out.skip HONE.out hh HWY.out hlt (of_decide_eq_false HRR.out))
    clear hat hrg1 hlt hg1 hse e2 hlk hh
    go_wp2
    go_roundw
    case rel => exact ⟨_, _, Y, HR1.out, HC1.out, HO1.out, HB1.out⟩
    case measure => rw [HR1.out.left_eq, HL1.out]; exact HLT.out
   | true =>
    have HC1 := keepG (HC.out.more HNP.out hh HWY.out hlk hlt (of_decide_eq_true HRR.out))
    have hbml := HD.out.map.lt
    have HNR : Hid (∀ k, k <= w.heap.size -> some k ≠ (Value.slice ua Y.length uc).ownBlock) := fun k hk e => by
     have := (HO1.out.lt k e.symm).1
     omega
    have hr1 := HR1.out.lt
    clear hat hrg1 hlt hg1 hse e2 hlk hh
    go_wp2_with (at_builtin; go_must (refine wpList_append_wide _ rfl _ _ 32 rfl (w.heap.size + 1) 3 i0 (.int .i64 0) 1 8 Tryz.underlying32 hi0 hz0 hzs hzb rfl (by decide) _ _ _ rfl (HO1.out.alloc _) ⟨_, 0, none⟩ 1 1 [.int .i64 h.p] rfl rfl (cell_one_new _ _ _) (one_cell _ _) (by unfold maxLen; omega) (by omega) (by simp; omega) ?_); intro v' w5 hown' hgrow _; go_must (have HO5 : Hid (RoI w5 (w.heap.size + 1) v' (Y ++ [h.p])) := (by show World.ownsRow _ _ _ _ _ _ _; simpa using hown'); have HR5 := keepG ((HR1.out.alloc _).kept hgrow (HNR.out bm (by omega)) (HNR.out _ (Nat.le_refl _))); have HB5 : Hid (Below w.heap.size w w5) := (HB1.out.alloc HB1.out.size _).grown hgrow (by have := HB1.out.size; simp; omega) (fun k hk => by have := (HO1.out.lt k hk).1; omega); clear hown' hgrow))
    go_roundw
    case rel => exact ⟨_, _, _, HR5.out, HC1.out, HO5.out, HB5.out⟩
    case measure => rw [HR5.out.left_eq, HL1.out]; exact HLT.out
theorem Lq_g.count (h : Lq_g w B b F n P) (hk : Rs_g.Ok n P) (hn : n <= 4) (hl : P.length <= 10000) (x : Int) {c E : Int} (HC : Hid (cntH n P x = (c, E))) : Calls Tryz.prog 12 #[.pointer (some ⟨b, 0, none⟩), .int .i64 x] w fun e w' => e = .returned (.tuple #[.int .i64 c, .int .i64 E]) /\ Below w.heap.size w w' := by
 obtain ⟨X, HX, hbX, HSX⟩ : ∃ X, Hid (w.alloc (.cells #[.int .i64 x] 3) = X) /\ Below w.heap.size w X /\ Hid (SeesW X (.slice (some ⟨w.heap.size, 0, none⟩) 1 1) [x]) := ⟨_, rfl, below_allocG _ _, seesW_one w x⟩
 have HL := keepG (h.below hbX)
 have c0 : X.cell? ⟨b, 0, none⟩ = some (.int .i64 n) := by
  obtain ⟨bm, D, L, hD, _⟩ := HL.out.ex
  exact hD.hp.cell (j := 0) rfl
 have hc := HC.out
 unfold cntH at hc
 obtain ⟨A, HA⟩ : ∃ A, Hid (P.holders x = A) := ⟨_, rfl⟩
 rw [HA.out] at hc
 clear h HC
 go_enter Tryz.func12, Tryz.ntmps12
 cases hm : inM n x with
 | false =>
  have HR : Hid ([x].all (inM n) = false) := by show _ = _; simp [hm]
  rw [if_neg (by rw [hm]; decide)] at hc
  injection hc with e1 e2
  subst e1 e2
  go_wp2_with (go_at_call 32; rw [HX.out]; go_must (refine (lhasEach c0 HSX.out HR).mono ?_); rintro e w1 ⟨rfl, rfl⟩)
  go_ret2
  exact ⟨rfl, hbX⟩
 | true =>
  have HR : Hid ([x].all (inM n) = true) := by show _ = _; simp [hm]
  rw [if_pos hm] at hc
  injection hc with e1 e2
  subst e2
  have HE1 := keepG e1
  clear e1
  go_wp2_with (first
   | (go_at_call 32; rw [HX.out]; go_must (refine (lhasEach c0 HSX.out HR).mono ?_); rintro e w1 ⟨rfl, rfl⟩)
   | (go_at_call 33; go_must (refine (HL.out.holders hk hn hl x HA).mono ?_); rintro e w2 ⟨u, rfl, hu, hb2⟩; go_must (obtain ⟨ua, uc, ev⟩ := own_shape hu; subst ev; have HB2 := keepG (hbX.trans (hb2.mono hbX.size)); clear hu hb2)))
  go_ret2
  exact ⟨by rw [HE1.out]; rfl, HB2.out⟩
end
end Go.Proofs.YtlkdniglaldilaaGreat
