
/-
  The landed LRU of layer 14: evict. Condition: it lies where the pointer says, its rows are the call's own; it has a key.
-/
import Derived.Test.YtpbfgebecgikjaaL14LB
namespace Go.Proofs.Ytpbfgebecgikjaa
open Go.RowKit
set_option linter.unusedVariables false
set_option linter.unusedSimpArgs false
set_option maxRecDepth 100000

theorem run_boxPG {w : World} {n : Nat} {p : Pp} (h : Hp w n 80 (ppC p)) : (loadVar 80 ⟨n, 0, none⟩).run Try.prog w = .ok (ppV p) w := by
  refine run_loadVar_mid w n 0 80 (ppC p) _ ?_ Try.underlying80 rfl (by kernel_rfl)
  intro j x hx
  rw [Nat.zero_add]
  exact h.cell hx
theorem pair_ret {fn : Func} {pt : Tmp} {w2 : World} {n : Nat} {tmps : Array Value} {p : Pp} {Q : Ending → World → Prop} (hr : fn.results = #[.cell pt 80]) (hp : tmps.getD pt undef = .pointer (some ⟨n, 0, none⟩)) (hx : Hp w2 n 80 (ppC p)) (hQ : Q (.returned (ppV p)) w2) : bodyPost Try.prog fn Q .ret ⟨tmps, []⟩ w2 := by
  refine bodyPost_ret (v := ppV p) ?_ rfl hQ
  rw [results_cellG hr, hp]
  simp only [asAddr, Sem.run_pure, Result.andThen]
  rw [run_boxPG hx]
section
variable {w : World} {B l b cap : Nat} {v vr : Value} {S : List Pp} {R : List Int}
theorem llevict_end {X w1 w3 : World} {L' : List Pp} {key had : Int} {fn : Func} {tmps : Array Value} {pt : Tmp} (Hr : Hp w3 w.heap.size 80 (ppC Pp.nil)) (hn : LbNext w1 B b cap v L' w3) (hbX : Below w.heap.size w X) (hb1 : Below X.heap.size X w1) (hzX : w.heap.size < X.heap.size) (hblt : b < w.heap.size) (hgw : ∀ k, v.ownBlock = some k → B ≤ k ∧ k < w.heap.size) (hr : fn.results = #[.cell pt 80] := by rfl) (hp : tmps.getD pt undef = .pointer (some ⟨w.heap.size, 0, none⟩) := by rfl) :
    bodyPost Try.prog fn (fun e w' => e = .returned (ppV ⟨key, had⟩) ∧ LbNext w B b cap v L' w') .ret ⟨tmps, []⟩ ((w3.setCell ⟨w.heap.size, 0, none⟩ (.int .u64 key)).setCell ⟨w.heap.size, 1, none⟩ (.int .u64 had)) := by
  have hs : Hp (w3.setCells w.heap.size 0 (ppC ⟨key, had⟩)) w.heap.size 80 (ppC ⟨key, had⟩) := Hr.sets (ppC ⟨key, had⟩) 0
  have hc6 := Chg.of_grown (S := fun k => k = w.heap.size) (grown_sets w.heap.size (ppC ⟨key, had⟩) w3 0) rfl
  have hz1 := hb1.size
  obtain ⟨v', h1, h2, h3⟩ := hn
  refine pair_ret hr hp hs ⟨rfl, v', h1.chg hc6 (fun e => by omega) (fun k hk e => ?_), ?_, ?_⟩
  · rcases h3 with g | ⟨j, g1, g2⟩
    · rw [g] at hk
      have := (hgw k hk).2
      omega
    · rw [g1] at hk
      have := Option.some.inj hk
      omega
  · have hA : Chg w X (bkS b v) := Chg.of_below hbX
    have hB : Chg w w1 (bkS b v) := hA.trans (Chg.of_below (S := fun _ => False) hb1) (fun _ _ e => e.elim)
    exact (hB.trans h2 (fun k _ e => e)).trans hc6 (fun k hk e => by omega)
  · rcases h3 with g | ⟨j, g1, g2⟩
    · exact .inl g
    · exact .inr ⟨j, g1, by omega⟩
set_option maxHeartbeats 8000000 in
theorem llevict_any (h : Ll w B l b cap v vr S R) (hl : S.length ≤ cap) (hc16 : cap ≤ 16) (hB : B ≤ w.heap.size) (hR : R.length ≤ 1000) (hR0 : 0 < R.length) (HO : Hid (ordO S R = R)) {key had : Int} (HK : Hid (R.getD (R.length - 1) 0 = key)) (HD : Hid (hadS key S = had)) :
    Calls Try.prog 73 #[.pointer (some ⟨l, 0, none⟩)] w fun e w' => e = .returned (ppV ⟨key, had⟩) ∧ LbNext w B b cap v (dropS S key) w' := by
  obtain ⟨X, HX, hbX, hpX⟩ : ∃ X, Hid (w.alloc (.cells #[.int .u64 0, .int .u64 0] 80) = X) ∧ Below w.heap.size w X ∧ Hp X w.heap.size 80 (ppC Pp.nil) := ⟨_, rfl, below_allocG _ _, Hp.new w (ppC Pp.nil) _⟩
  have HHX := keepG (h.below hbX)
  have hzX := hpX.lt
  have hblt := h.bk.hp.lt
  have hgw0 := h.bk.row.lt
  have HPX := keepG hpX
  have hlI : ¬ ((R.length : Int) - 1) < 0 := by omega
  have hlI2 : ((R.length : Int) - 1) < R.length := by omega
  have hwr : IntKind.i64.wrap ((R.length : Int) - 1) = ((R.length - 1 : Nat) : Int) := by rw [IntKind.wrap_i64]; omega
  obtain ⟨Q, HQ⟩ : ∃ Q, Hid (doS cap S 3 key 0 = Q) := ⟨_, rfl⟩
  have hQ2 : Q.2 = dropS S key ∧ Q.1.v = had := by rw [← HQ.out, do_del, ← HD.out]; exact ⟨rfl, rfl⟩
  obtain ⟨n, HN⟩ : ∃ n, Hid (R.length - 1 = n) := ⟨_, rfl⟩
  have hn : n < R.length := by rw [← HN.out]; omega
  have hnI : (n : Int) < R.length := by omega
  rw [HN.out] at hwr HK
  clear h hpX hlI hlI2
  go_enter Try.func73, Try.ntmps73
  go_wp2_with (first
    | (go_at_call 74; rw [HX.out]; go_must (refine (llorder_any HHX.out (by omega) hR HO).mono ?_); rintro e w1 ⟨u, rfl, ho1, hb1⟩; go_must (obtain ⟨g1, c1, ev, _, hg1, _, _, hat1⟩ := own_atG uC_len 0 ho1 hR0; subst ev; have d0 := (hat1 n hn 0 (by omega)).1; simp only [List.getElem?_cons_zero, Nat.add_zero, Nat.mul_one] at d0; rw [HK.out] at d0; have HH1 := keepG (HHX.out.below hb1); have HP1 := keepG (HPX.out.below hb1 hzX); have l0 := HH1.out.hp.cell (j := 0) rfl; have hz1 := hb1.size; clear hat1 ho1))
    | (go_at_call 59; go_must (refine (ldo_any 3 key 0 HH1.out.bk hl hc16 (by omega)).mono ?_); rintro e w2 ⟨rfl, hn2⟩; go_must (rw [HQ.out] at hn2 ⊢; have HN2 := keepG hn2; have Hr3 := hn2.box HP1.out (by omega) (fun e => by have := (hgw0 _ e).2; omega); have HR3 := keepG Hr3; have x0 := Hr3.cell (j := 0) rfl; have f0 := Hr3.frozen 0; have x1 := Hr3.cell (j := 1) rfl; have f1 := Hr3.frozen 1; clear hn2 Hr3))
    | (rw [run_fieldR2]))
  rw [← hQ2.1, ← hQ2.2]
  exact llevict_end HR3.out HN2.out hbX hb1 hzX hblt hgw0
end
end Go.Proofs.Ytpbfgebecgikjaa
