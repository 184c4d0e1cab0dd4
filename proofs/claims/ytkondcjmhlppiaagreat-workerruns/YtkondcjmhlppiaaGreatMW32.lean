
/-
 What the landed judge's arrive does to what is known. Condition: states of eight well made types.
-/
import Derived.Test.YtkondcjmhlppiaaGreatMW0
import Derived.Test.YtkondcjmhlppiaaGreatMW29
import Derived.Test.YtkondcjmhlppiaaGreatMW31
import Derived.Deep.RegionHeldLaw
namespace Go.Proofs.YtkondcjmhlppiaaGreat
open Go.RowKit
set_option linter.unusedVariables false
set_option linter.unusedSimpArgs false
set_option maxRecDepth 100000

def joinU (h s : St) (n : Nat) : St := (List.range 8).map fun i => if i < n then join2 (h.getD i Ty.nil) (s.getD i Ty.nil) else h.getD i Ty.nil
def arrK (K : Kn) (p : Nat) (r : Bool) (s : St) : Kn := if r = false then K else if (K.getD p kn0).1 = false then K.set p (r, s) else K.set p ((K.getD p kn0).1, joinU (K.getD p kn0).2 s 8)
theorem joinU_len (h s : St) (n : Nat) : (joinU h s n).length = 8 := by simp [joinU]
theorem joinU_at (h s : St) {n k : Nat} (hk : k < 8) : (joinU h s n).getD k Ty.nil = if k < n then join2 (h.getD k Ty.nil) (s.getD k Ty.nil) else h.getD k Ty.nil := by
 unfold joinU
 simp [List.getD, List.getElem?_map, List.getElem?_range hk]
theorem joinU_zero {h : St} (s : St) (h8 : h.length = 8) : joinU h s 0 = h := by
 apply List.ext_getElem?
 intro i
 by_cases hi : i < 8
 ·simp [joinU, List.getElem?_range hi, List.getElem?_eq_getElem (show i < h.length by omega)]
 ·rw [List.getElem?_eq_none (by rw [joinU_len]; omega), List.getElem?_eq_none (by omega)]
theorem joinU_step (h s : St) {k : Nat} (hk : k < 8) : joinU h s (k + 1) = (joinU h s k).set k (join2 (h.getD k Ty.nil) (s.getD k Ty.nil)) := by
 apply List.ext_getElem?
 intro i
 rw [List.getElem?_set]
 by_cases hi : i < 8
 ·by_cases hik : k = i
  ·subst hik
   simp [joinU, List.getElem?_range hi, hi]
  ·rw [if_neg hik]
   simp only [joinU, List.getElem?_map, List.getElem?_range hi, Option.map_some]
   by_cases hl : i < k
   ·rw [if_pos hl, if_pos (by omega)]
   ·rw [if_neg hl, if_neg (by omega)]
 ·rw [List.getElem?_eq_none (by rw [joinU_len]; omega), if_neg (by omega), List.getElem?_eq_none (by rw [joinU_len]; omega)]
theorem kn_set {K : Kn} {p : Nat} {x : Bool × St} (hp : p < K.length) : (K.set p x).getD p kn0 = x := by simp [List.getD, List.getElem?_set, hp]
theorem kn_self {K : Kn} (p : Nat) : K.set p (K.getD p kn0) = K := by
 apply List.ext_getElem?
 intro i
 rw [List.getElem?_set]
 by_cases h : p = i
 ·subst h
  by_cases hl : p < K.length
  ·simp [hl, List.getD, List.getElem?_eq_getElem hl]
  ·simp [hl, List.getElem?_eq_none (show K.length <= p by omega)]
 ·rw [if_neg h]
def qC (nm : Nat) (vc vl : Value) (kb n : Nat) : List Value := [.int .i64 nm, vc, vl, .slice (some ⟨kb, 0, none⟩) n n]

theorem keepA {w : World} {qb kb sb o : Nat} {v : Value} {r : Bool} {s : St} {n : Nat} (h : w.cell? ⟨qb, 3, none⟩ = some v /\ StAt w sb 0 r s /\ w.there kb o n) (h1 : qb ≠ kb) (h2 : sb ≠ kb) (o' : Nat) (vs : List Value) :
  (w.setCells kb o' vs).cell? ⟨qb, 3, none⟩ = some v /\ StAt (w.setCells kb o' vs) sb 0 r s /\ (w.setCells kb o' vs).there kb o n :=
 ⟨(World.cell?_of_block ((grown_sets kb vs w o').block qb (World.block_lt_of_cell? w _ h.1) (fun e => h1 (by injection e)))).trans h.1, World.rangeAt_setCells_apart h.2.1 _ _ _ (.inl h2), World.there_setCells h.2.2 _ _ _⟩
theorem ljoined_as {a b t : Ty} (ha : Hid (wfS (a.lo, a.hi))) (hb : Hid (wfS (b.lo, b.hi))) (h : Hid (join2 a b = t)) (w : World) : Calls Tryz.prog 51 #[tyV a, tyV b] w fun e w' => e = .returned (tyV t) /\ Below w.heap.size w w' := by
 rw [<- h.out]; exact ljoined_any a b w ha hb
theorem keep5 {w w' : World} {qb nb : Nat} {v x0 x1 x2 x3 : Value} (h : w.cell? ⟨qb, 3, none⟩ = some v /\ w.cell? ⟨nb, 0, none⟩ = some x0 /\ w.cell? ⟨nb, 1, none⟩ = some x1 /\ w.cell? ⟨nb, 2, none⟩ = some x2 /\ w.cell? ⟨nb, 3, none⟩ = some x3) (hb : Below w.heap.size w w') (hq : qb < w.heap.size) (hn : nb < w.heap.size) :
  w'.cell? ⟨qb, 3, none⟩ = some v /\ w'.cell? ⟨nb, 0, none⟩ = some x0 /\ w'.cell? ⟨nb, 1, none⟩ = some x1 /\ w'.cell? ⟨nb, 2, none⟩ = some x2 /\ w'.cell? ⟨nb, 3, none⟩ = some x3 := by
 rw [hb.cell (p := ⟨qb, 3, none⟩) hq, hb.cell (p := ⟨nb, 0, none⟩) hn, hb.cell (p := ⟨nb, 1, none⟩) hn, hb.cell (p := ⟨nb, 2, none⟩) hn, hb.cell (p := ⟨nb, 3, none⟩) hn]
 exact h
theorem keep5s {w : World} {qb nb kb o : Nat} {t : Ty} {v x0 x1 x2 x3 : Value} (h : w.cell? ⟨qb, 3, none⟩ = some v /\ w.cell? ⟨nb, 0, none⟩ = some x0 /\ w.cell? ⟨nb, 1, none⟩ = some x1 /\ w.cell? ⟨nb, 2, none⟩ = some x2 /\ w.cell? ⟨nb, 3, none⟩ = some x3) (hq : qb ≠ kb) (hn : nb ≠ kb) :
  (setT w kb o t).cell? ⟨qb, 3, none⟩ = some v /\ (setT w kb o t).cell? ⟨nb, 0, none⟩ = some x0 /\ (setT w kb o t).cell? ⟨nb, 1, none⟩ = some x1 /\ (setT w kb o t).cell? ⟨nb, 2, none⟩ = some x2 /\ (setT w kb o t).cell? ⟨nb, 3, none⟩ = some x3 := by
 have key : ∀ b j u, b ≠ kb -> w.cell? ⟨b, j, none⟩ = some u -> (setT w kb o t).cell? ⟨b, j, none⟩ = some u := fun b j u hb hc =>
  (grown_sets kb (tyC t) w o).cell hc (fun e => hb (by injection e))
 exact ⟨key _ _ _ hq h.1, key _ _ _ hn h.2.1, key _ _ _ hn h.2.2.1, key _ _ _ hn h.2.2.2.1, key _ _ _ hn h.2.2.2.2⟩
set_option maxHeartbeats 1600000 in
theorem larrive_any (qb kb p nm : Nat) (vc vl : Value) (K : Kn) (r : Bool) (s : St) (w : World) (hq : Hp w qb 106 (qC nm vc vl kb K.length)) (hk : Hp w kb 115 (flatK K)) (hne : qb ≠ kb) (h8 : Eight K) (hp : p < K.length) (hs : Made8 nm s) (hK : Made8 nm (K.getD p kn0).2) :
  Calls Tryz.prog 30 #[.pointer (some ⟨qb, 0, none⟩), .int .i64 p, stV r s] w fun e w' => e = .returned (.tuple #[]) /\ w.grownBy w' (some kb) /\ Hp w' kb 115 (flatK (arrK K p r s)) := by
 obtain ⟨r0, s0, HK⟩ : ∃ r0 s0, Hid (K.getD p kn0 = (r0, s0)) := ⟨_, _, rfl⟩
 have hz : (stC r s)[0]? = some (.bool r) := rfl
 have c3 : w.cell? ⟨qb, 3, none⟩ = some (.slice (some ⟨kb, 0, none⟩) K.length K.length) := hq.cell rfl
 have k0 : w.cell? ⟨kb, p * 33, none⟩ = some (.bool r0) := (hk.state h8 hp HK.out).cell
 have hq1 := hq.lt
 have hk1 := hk.lt
 have hn1 : ¬ qb = w.heap.size := by omega
 have hn2 : ¬ w.heap.size = qb := by omega
 have hn3 : ¬ kb = w.heap.size := by omega
 have hn4 : ¬ w.heap.size = kb := by omega
 have hpI : (p : Int) < K.length := by omega
 cases r with
 | false =>
  go_enter Tryz.func30, Tryz.ntmps30
  go_wp2
  exact bodyPost_end (results_none rfl _ _ _) rfl ⟨rfl, World.grownBy_alloc _ _ _, by unfold arrK; rw [if_pos rfl]; exact hk.alloc _⟩
 | true =>
  cases r0 with
  | false =>
   go_enter Tryz.func30, Tryz.ntmps30
   go_wp2
   obtain ⟨W, HW, hSt, hc3, hth, HkW, HgW⟩ : ∃ W, Hid (W = w.alloc (Obj.cells (stC true s).toArray 115)) /\ StAt W w.heap.size 0 true s /\ W.cell? ⟨qb, 3, none⟩ = some (.slice (some ⟨kb, 0, none⟩) K.length K.length) /\ W.there kb (p * 33) 33 /\ Hid (Hp W kb 115 (flatK K)) /\ Hid (w.grownBy W (some kb)) :=
    ⟨_, rfl, stAt_new w true s, (hq.alloc _).cell rfl, (hk.alloc _).there (by rw [flatK_len h8]; omega), hk.alloc _, World.grownBy_alloc _ _ _⟩
   rw [<- HW.out]
   have hld : ∀ w', StAt w' w.heap.size 0 true s -> (Instr.loadAt 115 (.pointer (some ⟨w.heap.size, 0, none⟩))).run Tryz.prog w' = .ok (stV true s) w' := fun w' h => run_loadAt_mid w' _ _ _ _ _ h Tryz.underlying115 rfl (sizeJ hs.1)
   have hst : ∀ w', w'.there kb (p * 33) 33 -> (Instr.storeAt 115 (.pointer (some ⟨kb, p * 33, none⟩)) (stV true s)).run Tryz.prog w' = .ok () (w'.setCells kb (p * 33) (stC true s)) := fun w' h => run_storeAt_mid w' _ _ _ _ (by rw [stC_size true hs.1]; exact h) (sizeJA hs.1) (stC_all true s)
   have hne2 : w.heap.size ≠ kb := by omega
   have Hhp := keepJ h8
   have HqK := keepJ hp
   have HMs := keepJ hs
   clear hz c3 k0 hq hk hK h8 hs
   refine wp_region_held_drew (S := fun w' => w'.cell? ⟨qb, 3, none⟩ = some (.slice (some ⟨kb, 0, none⟩) K.length K.length) /\ StAt w' w.heap.size 0 true s /\ w'.there kb (p * 33) 33) (by kernel_rfl) ⟨hc3, hSt, hth⟩ (fun hHeld => ?_)
   refine tkGo [0, 1, 2, 3, 4] ?_
   repeat (refine tkO (v := ?_) rfl ?_ ?_; rotate_left; (intro wy hSw; (try dsimp only at hSw); go_simp; (first | done | with_reducible rfl)); try simp only [Act.put, p1q, p2q, p3q, p4q, p5q, p6q])
   refine tkEnd ?_
   refine wpAnyH_take (i := 5) rfl (by kernel_rfl) (by kernel_rfl) (by kernel_rfl) (fun _ _ _ h => h) (yieldsIf_load_mid (by rfl) _ _ rfl _ _ rfl (stC true s) _ (fun w h => h.2.1) Tryz.underlying115 rfl (sizeJ HMs.out.1)) (by assumption) ?_
   try simp only [Act.put, p1q, p2q, p3q, p4q, p5q, p6q]
   refine tkGo [6] ?_
   repeat (refine tkO (v := ?_) rfl ?_ ?_; rotate_left; (intro wy hSw; (try dsimp only at hSw); go_simp; (first | done | with_reducible rfl)); try simp only [Act.put, p1q, p2q, p3q, p4q, p5q, p6q])
   refine tkEnd ?_
   refine runO 7 (by kernel_rfl) rfl (by rfl) (fun KK hK => ?_)
   refine wp_store_mid _ _ _ rfl _ _ (List.toArray _) rfl rfl (by rw [stC_size true HMs.out.1]; exact hth) (sizeJA HMs.out.1) (stC_all true s) ?_
   refine hK.out _ _ (keepA (w := W.drew) ⟨hc3, hSt, hth⟩ hne hne2 _ _) (fun hHeld => ?_)
   clear hK KK
   try simp only [Act.put, p1q, p2q, p3q, p4q, p5q, p6q]
   refine wpAnyH_done (by kernel_rfl) ?_ _
   go_wp2
   refine bodyPost_end (results_none rfl _ _ _) rfl ⟨rfl, grownJ_trans HgW.out (grown_undrew (grown_sets kb _ W.drew _)), ?_⟩
   unfold arrK
   rw [if_neg (by decide), HK.out, if_pos rfl]
   exact HkW.out.drew.put Hhp.out HqK.out true HMs.out.1
  | true =>
   go_enter Tryz.func30, Tryz.ntmps30
   have HL : Hid ((w.alloc (stO true s)).rangeAt w.heap.size 1 (flatT s)) := by
    have := (stAt_new w true s).types
    show World.rangeAt _ _ _ _
    simpa using this
   have HZ : Hid ((Tryz.prog.info? 113).map (·.size) = some (flatT s).length) := sizeA8 hs.1
   go_wp2_with ((with_reducible refine wpList_load_mid ?qa 113 (.tmp 8) ?qb w.heap.size 1 ?qc (flatT s) _ HL.out Tryz.underlying113 ?qd HZ.out ?qe); (case qa => rfl); (case qb => rfl); (case qc => rfl); (case qd => rfl))
   obtain ⟨W, HW, HqW, HkW, HgW, hWz⟩ : ∃ W, Hid (W = w.alloc (Obj.cells (stC true s).toArray 115)) /\ Hid (Hp W qb 106 (qC nm vc vl kb K.length)) /\ Hid (Hp W kb 115 (flatK K)) /\ Hid (w.grownBy W (some kb)) /\ w.heap.size < W.heap.size :=
    ⟨_, rfl, hq.alloc _, hk.alloc _, World.grownBy_alloc _ _ _, by simp⟩
   rw [<- HW.out]
   have Hhp := keepJ h8
   have HqK := keepJ hp
   have HMs := keepJ hs
   have HMK := keepJ hK
   rw [HK.out] at HMK
   clear hz c3 k0 hq hk hK h8 hs HL HZ HW
   go_loopw [10] (fun i wr => ∃ k : Nat, k <= 8 /\ i = .int .i64 k /\ Hid (Hp wr kb 115 (flatK (K.set p (true, joinU s0 s k)))) /\ Hid (W.grownBy wr (some kb))) (fun i _ => 8 - (intOf i).toNat)
   case atStart => exact ⟨0, by omega, rfl, by rw [joinU_zero s HMK.out.1, show K.set p (true, s0) = K from by rw [<- HK.out]; exact kn_self p]; exact HkW.out, grownJ_refl _ _⟩
   case round =>
    obtain ⟨k, hk8, rfl, HKr, HGr⟩ := hrel
    by_cases hlt : k < 8
    ·obtain ⟨tk, tl, th, tm, HT⟩ : ∃ k' lo hi m, Hid (s.getD k Ty.nil = ⟨k', lo, hi, m⟩) := ⟨_, _, _, _, rfl⟩
     obtain ⟨sk, sl, sh, sm, HS⟩ : ∃ k' lo hi m, Hid (s0.getD k Ty.nil = ⟨k', lo, hi, m⟩) := ⟨_, _, _, _, rfl⟩
     obtain ⟨jk, jl, jh, jm, HJ⟩ : ∃ k' lo hi m, Hid (join2 ⟨sk, sl, sh, sm⟩ ⟨tk, tl, th, tm⟩ = ⟨k', lo, hi, m⟩) := ⟨_, _, _, _, rfl⟩
     have hidx := run_index9 HMs.out.1 hlt HT.out
     have hkI : (k : Int) < 8 := by omega
     go_wp2
     have h8K : Eight (K.set p (true, joinU s0 s k)) := Hhp.out.set p (joinU_len _ _ _)
     have hpK : p < (K.set p (true, joinU s0 s k)).length := by rw [List.length_set]; exact HqK.out
     have hgK : (K.set p (true, joinU s0 s k)).getD p kn0 = (true, joinU s0 s k) := kn_set HqK.out
     obtain ⟨Y, HY, HqY, HkY, HGY, hYz, b0, b1, b2, b3, hYk⟩ : ∃ Y, Hid (Y = wr.alloc (Obj.cells #[.int .i64 tk, .int .u64 tl, .int .u64 th, .int .i64 tm] 112)) /\ Hid (Hp Y qb 106 (qC nm vc vl kb K.length)) /\ Hid (Hp Y kb 115 (flatK (K.set p (true, joinU s0 s k)))) /\ Hid (W.grownBy Y (some kb)) /\ wr.heap.size < Y.heap.size /\
      Y.cell? ⟨wr.heap.size, 0, none⟩ = some (.int .i64 tk) /\ Y.cell? ⟨wr.heap.size, 1, none⟩ = some (.int .u64 tl) /\ Y.cell? ⟨wr.heap.size, 2, none⟩ = some (.int .u64 th) /\ Y.cell? ⟨wr.heap.size, 3, none⟩ = some (.int .i64 tm) /\ wr.heap.size ≠ kb :=
      ⟨_, rfl, (HqW.out.grown HGr.out (fun e => hne (by injection e))).alloc _, HKr.out.alloc _, grownJ_trans HGr.out (World.grownBy_alloc _ _ _), by simp, by go_cell, by go_cell, by go_cell, by go_cell, by have := HKr.out.lt; omega⟩
     rw [<- HY.out]
     have c3 : Y.cell? ⟨qb, 3, none⟩ = some (.slice (some ⟨kb, 0, none⟩) K.length K.length) := HqY.out.cell rfl
     have hAT := (HkY.out.state h8K hpK hgK).typ (joinU_len _ _ _) hlt
     rw [joinU_at _ _ hlt, if_neg (by omega), HS.out] at hAT
     obtain ⟨e0, e1, e2, e3⟩ := hAT
     simp only at e0 e1 e2 e3
     have hqY := HqY.out.lt
     have hkY := HkY.out.lt
     have HM1 : Hid (wfS (sl, sh)) := by have := HMK.out.ends hlt; rw [HS.out] at this; exact this
     have HM2 : Hid (wfS (tl, th)) := by have := HMs.out.ends hlt; rw [HT.out] at this; exact this
     refine wp_region_held_drew (S := fun w' => w'.cell? ⟨qb, 3, none⟩ = some (.slice (some ⟨kb, 0, none⟩) K.length K.length) /\ w'.cell? ⟨wr.heap.size, 0, none⟩ = some (.int .i64 tk) /\ w'.cell? ⟨wr.heap.size, 1, none⟩ = some (.int .u64 tl) /\ w'.cell? ⟨wr.heap.size, 2, none⟩ = some (.int .u64 th) /\ w'.cell? ⟨wr.heap.size, 3, none⟩ = some (.int .i64 tm)) (by kernel_rfl) ⟨c3, b0, b1, b2, b3⟩ (fun hHeld => ?_)
     refine tkGo [0, 1, 2, 3, 4, 5, 6, 7, 8, 9, 10, 11, 12, 13, 14, 16, 18, 19] ?_
     repeat (refine tkO (v := ?_) rfl ?_ ?_; rotate_left; (intro wy hSw; (try dsimp only at hSw); go_simp; (first | done | with_reducible rfl)); try simp only [Act.put, p1q, p2q, p3q, p4q, p5q, p6q])
     refine tkEnd ?_
     refine runO 15 (by kernel_rfl) rfl (by rfl) (fun KK hK => ?_)
     go_simp
     refine hK.out _ _ ⟨c3, b0, b1, b2, b3⟩ (fun hHeld => ?_)
     clear hK KK
     try simp only [Act.put, p1q, p2q, p3q, p4q, p5q, p6q]
     refine runO 17 (by kernel_rfl) rfl (by rfl) (fun KK hK => ?_)
     go_simp
     go_at_call 51
     refine (ljoined_as HM1 HM2 HJ _).mono ?_
     rintro e w3 ⟨rfl, hb3'⟩
     have hb3 : Below Y.heap.size Y w3 := below_undrew hb3'
     have hS3 := keep5 ⟨c3, b0, b1, b2, b3⟩ hb3 hqY hYz
     have HqW3 : Hid (Hp w3 qb 106 (qC nm vc vl kb K.length)) := HqY.out.below hb3 hqY
     have HkW3 : Hid (Hp w3 kb 115 (flatK (K.set p (true, joinU s0 s k)))) := HkY.out.below hb3 hkY
     refine hK.out _ _ hS3 (fun hHeld => ?_)
     clear hK KK
     try simp only [Act.put, p1q, p2q, p3q, p4q, p5q, p6q]
     refine tkGo [20] ?_
     repeat (refine tkO (v := ?_) rfl ?_ ?_; rotate_left; (intro wy hSw; (try dsimp only at hSw); go_simp; (first | done | with_reducible rfl)); try simp only [Act.put, p1q, p2q, p3q, p4q, p5q, p6q])
     refine tkEnd ?_
     have hAT3 := (HkW3.out.state h8K hpK hgK).typ (joinU_len _ _ _) hlt
     rw [joinU_at _ _ hlt, if_neg (by omega), HS.out] at hAT3
     obtain ⟨m0, m1, m2, m3⟩ := hAT3
     simp only at m0 m1 m2 m3
     have f0 := HkW3.out.frozen (p * 33 + 1 + k * 4)
     have f1 := HkW3.out.frozen (p * 33 + 1 + k * 4 + 1)
     have f2 := HkW3.out.frozen (p * 33 + 1 + k * 4 + 2)
     have f3 := HkW3.out.frozen (p * 33 + 1 + k * 4 + 3)
     have HP := keepJ (HkW3.out.putT h8K hpK hgK hlt ⟨jk, jl, jh, jm⟩)
     have HS5 := keepJ (keep5s (kb := kb) (o := p * 33 + 1 + k * 4) (t := ⟨jk, jl, jh, jm⟩) hS3 hne hYk)
     refine runO 21 (by kernel_rfl) rfl (by rfl) (fun KK hK => ?_)
     go_simp
     refine hK.out _ _ HS5.out (fun hHeld => ?_)
     clear hK KK
     try simp only [Act.put, p1q, p2q, p3q, p4q, p5q, p6q]
     refine wpAnyH_done (by kernel_rfl) ?_ _
     go_wp2
     go_roundw
     case rel => exact ⟨k + 1, by omega, by go_num, by rw [joinU_step _ _ hlt, HS.out, HT.out, HJ.out]; have := HP.out; rw [List.set_set] at this; exact this, grownJ_trans (grownJ_trans HGY.out (grown_of_below hb3 _)) (grown_sets kb (tyC ⟨jk, jl, jh, jm⟩) w3 _)⟩
     case measure => simp [intOf]; omega
    ·obtain rfl : k = 8 := by omega
     go_wp2
     refine bodyPost_end (results_none rfl _ _ _) rfl ⟨rfl, grownJ_trans HgW.out HGr.out, ?_⟩
     unfold arrK
     rw [if_neg (by decide), HK.out, if_neg (fun h => by cases h)]
     exact HKr.out
end Go.Proofs.YtkondcjmhlppiaaGreat
