
/-
  EpochGrace, walked. Condition: none but the arguments' reading.
-/
import Derived.Test.YtkcbiiiakkpegaaW17Ri
namespace Go.Proofs.Ytkcbiiiakkpegaa
open Go.RowKit
set_option linter.unusedVariables false
set_option linter.unusedSimpArgs false
set_option maxRecDepth 100000
theorem infoBool17 : (Try.prog.info? 4).map (fun i => (i.zero, i.size, i.bytes)) = some (some (.bool false), 1, 1) := by kernel_rfl
/-- In an epoch below this. -/
def ltB (gr x : Int) : Bool := x != 0 && decide (x < gr)
theorem safe_lt (gr : Int) (l : List Int) : l.all (safeB gr) = (l.map (ltB gr)).all (fun x => !x) := by
  induction l with
  | nil => rfl
  | cons x l ih => simp only [List.all_cons, List.map_cons, ih]; rfl
def clrB (l : List Bool) (ws : List Int) : List Bool := ws.foldl (fun l x => l.set x.toNat false) l
theorem clrB_app (l : List Bool) (ws : List Int) (x : Int) : clrB l (ws ++ [x]) = (clrB l ws).set x.toNat false := by simp [clrB]
theorem clrB_len (ws : List Int) : ∀ l, (clrB l ws).length = l.length := by
  induction ws with
  | nil => intro l; rfl
  | cons x ws ih => intro l; show (clrB (l.set x.toNat false) ws).length = _; rw [ih]; simp
theorem clr_map (gr : Int) (ws : List Int) : ∀ l : List Int, (clr l ws).map (ltB gr) = clrB (l.map (ltB gr)) ws := by
  induction ws with
  | nil => intro l; rfl
  | cons x ws ih =>
    intro l
    show (clr (l.set x.toNat 0) ws).map (ltB gr) = clrB ((l.map (ltB gr)).set x.toNat false) ws
    rw [ih, List.map_set]
    rfl
theorem Ck.enter_lt {c c' : Ck} {x n E gr : Int} (h : c.enter x = (n, E, c')) (hg : gr ≤ c.now) : c'.ins.map (ltB gr) = c.ins.map (ltB gr) := by
  by_cases hE : E = 0
  · unfold Ck.enter at h
    split at h
    · injection h with _ h
      injection h with h _
      omega
    · rename_i hh
      split at h
      · rename_i ha
        injection h with _ h
        injection h with _ h
        rw [← h]
        obtain ⟨k, rfl, hk⟩ := Ck.has_nat (by simpa using hh)
        rw [Ck.at_nat] at ha
        simp only [Int.toNat_natCast]
        rw [List.map_set]
        have h1 : ltB gr c.now = (c.ins.map (ltB gr))[k]'(by simpa using hk) := by
          rw [List.getElem_map]
          have : c.ins[k] = 0 := by simpa [List.getD, hk] using ha
          rw [this]
          have : ¬ c.now < gr := by omega
          simp [ltB, this]
        rw [h1]
        exact List.set_getElem_self _
      · injection h with _ h
        injection h with h _
        omega
  · rw [Ck.enter_same h hE]
theorem Ck.leave_ok {c c' : Ck} {ws : List Int} (h : c.leave ws = (0, c')) : c.once ws = true ∧ c' = ⟨c.now, clr c.ins ws⟩ := by
  unfold Ck.leave at h
  split at h
  · injection h with h _
    cases h
  · rename_i ho
    split at h
    · injection h with h _
      cases h
    · injection h with _ h
      exact ⟨by simpa using ho, h.symm⟩
theorem all_clrB (ws : List Int) : ∀ l : List Bool, l.all (fun x => !x) = true → (clrB l ws).all (fun x => !x) = true := by
  induction ws with
  | nil => intro l h; exact h
  | cons x ws ih =>
    intro l h
    refine ih _ ?_
    rw [List.all_eq_true] at h ⊢
    intro y hy
    rcases List.mem_or_eq_of_mem_set hy with e | e
    · exact h y e
    · rw [e]; rfl
theorem Ck.safe_map (c : Ck) (gr : Int) : c.safe gr = (c.ins.map (ltB gr)).all (fun x => !x) := safe_lt _ _
theorem Ck.safe_old (c : Ck) : c.safe c.old = true := by
  have h0 := Ck.old_le.1 (Int.le_refl c.old)
  unfold Ck.safe
  rw [List.all_eq_true]
  intro x hx
  by_cases hx0 : x = 0
  · subst hx0; rfl
  · have := h0.2 x hx hx0
    simp [safeB]
    omega
theorem take_atB (xs : List Bool) (k : Nat) (h : k < xs.length) : xs.take (k + 1) = xs.take k ++ [xs.getD k false] := by
  rw [List.take_succ_eq_append_getElem h]; simp [List.getD, h]
theorem all_takeB {ws : List Bool} {j : Nat} (hj : j < ws.length) : (ws.take (j + 1)).all (fun x => !x) = ((ws.take j).all (fun x => !x) && !(ws.getD j false)) := by
  rw [take_atB ws j hj]; simp
theorem one_cellB (x : Bool) : ∀ u ∈ [Value.bool x], u.oneCell' = true := by intro u hu; simp at hu; subst hu; rfl
/-- The clock and who is waited for. -/
structure Gc (w0 w : World) (b g : Nat) (c : Ck) (v : Value) (W : List Bool) : Prop where
  cl : Cl w0 w b g c
  row : w.ownsRow w0.heap.size 4 1 v W.length (bC W)
section
variable {w0 w w' : World} {b g : Nat} {c c' : Ck} {v : Value} {W : List Bool}
theorem Gc.below (h : Gc w0 w b g c v W) (hb : Below w.heap.size w w') : Gc w0 w' b g c v W := ⟨h.cl.below hb, own_below h.row hb (Nat.le_refl _)⟩
theorem Gc.apart (h : Gc w0 w b g c v W) : Apt (ftE b g) (ftV v) := fun k hk e => by
  rcases hk with e1 | e1
  · rw [e1] at e; exact own_type10 h.row h.cl.ec.hp (by decide) e
  · rw [e1] at e; exact own_type10 h.row h.cl.ec.row (by decide) e
theorem Gc.step (h : Gc w0 w b g c v W) (hc : Cl w0 w' b g c') (hg : Chg w w' (ftE b g)) : Gc w0 w' b g c' v W := ⟨hc, own_chg h.row hg (fun k hk e => h.apart k e hk)⟩
theorem Gc.more {o : Obj} {v' : Value} {x : Bool} (h : Gc w0 w b g c v W) (ho : w'.ownsRow w0.heap.size 4 1 v' (W.length + 1) (bC W ++ [.bool x])) (hg : (w.alloc o).grownBy w' v.ownBlock) : Gc w0 w' b g c v' (W ++ [x]) :=
  ⟨h.cl.keeps (chg_append hg) (fun k e1 e2 => h.apart k e2 e1) (fun k e => (h.row.lt k e).1), by simpa [bC] using ho⟩
theorem Gc.cells (h : Gc w0 w b g c v W) (hn : 0 < W.length) : ∃ p cap, v = .slice (some ⟨p, 0, none⟩) W.length cap ∧ w0.heap.size ≤ p ∧ W.length ≤ cap ∧ cap ≤ 9223372036854775807 ∧ (∀ k, k < W.length → w.cell? ⟨p, k, none⟩ = some (.bool (W.getD k false)) ∧ w.frozen? ⟨p, k, none⟩ = false) ∧ ∀ (k : Nat), Gc w0 (w.setCell ⟨p, k, none⟩ (.bool false)) b g c (.slice (some ⟨p, 0, none⟩) W.length cap) (W.set k false) ∧ Chg w (w.setCell ⟨p, k, none⟩ (.bool false)) (fun k => k = p) := by
  have h0 := h.row
  obtain ⟨p, cap, e, h1, h2, h3, h4, h5⟩ := own_open h.row hn
  subst e
  unfold maxLen at h4
  refine ⟨p, cap, rfl, h1, h3, by omega, fun k hk => ⟨h5 k _ (by simp [bC, List.getD, hk]), h0.frozenAt _⟩, fun k => ⟨⟨?_, ?_⟩, Chg.set w p k _⟩⟩
  · refine h.cl.keeps (Chg.set w p k _) (fun j e1 e2 => h.apart j e2 (by rw [e1]; rfl)) (fun j e => by rw [e]; exact h1)
  · have := (h0.stored k (.bool false)).1
    rw [List.length_set, bC, List.map_set]
    exact this
end
theorem epochGrace_no (n : Int) (sv su : Value) (w : World) (h : n < 1 ∨ 4 < n) :
    Calls Try.prog 4 #[.int .i64 n, sv, su] w fun e w' => e = .returned (.bool true) ∧ Below w.heap.size w w' := by
  go_enter Try.func4, Try.ntmps4
  go_wp2_with (first
    | (go_at_call 7; go_must (refine (awake17_any w).mono ?_); rintro e w1 ⟨rfl, hb1⟩)
    | (go_at_call 8; go_must (refine (lnew_no n h _).mono ?_); rintro e w2 ⟨rfl, rfl⟩))
  go_ret
  exact ⟨rfl, hb1⟩
set_option maxHeartbeats 25600000 in
theorem epochGrace_ok (n : Nat) (h1 : 1 ≤ n) (h2 : n ≤ 4) (sv su : Value) (is us : List Ow) (w : World) (hs : Scr w sv is) (ht : Scr w su us) (hlen : is.length * 40 ≤ 140737488351232) (hlen2 : us.length * 40 ≤ 140737488351232) :
    Calls Try.prog 4 #[.int .i64 n, sv, su] w fun e w' => e = .returned (.bool true) ∧ Below w.heap.size w w' := by
  have HSC := keepG hs
  have HSD := keepG ht
  obtain ⟨a, c, rfl, hc, hm, _, _⟩ := hs.sees
  obtain ⟨a2, c2, rfl, hc2, hm2, _, _⟩ := ht.sees
  have hm' : c ≤ 9223372036854775807 := by unfold maxLen at hm; omega
  have hm2' : c2 ≤ 9223372036854775807 := by unfold maxLen at hm2; omega
  obtain ⟨i0, hi0, hz0, hzs, hzb⟩ := info_parts infoBool17
  have hnI : (1 : Int) ≤ n := by omega
  clear hs ht hm hm2
  go_enter Try.func4, Try.ntmps4
  go_wp2_with (first
    | (go_at_call 7; go_must (refine (awake17_any w).mono ?_); rintro e w1 ⟨rfl, hb1⟩)
    | (go_at_call 8; go_must (refine (lnew_ok n h1 h2 w1).mono ?_); rintro e w2 ⟨rfl, hE, hS, hb⟩; go_must (have HC0 : Hid (Cl w w2 (w1.heap.size + 1) w1.heap.size (Ck.new n)) := ⟨hE, Ck.Ok.new h1 h2, fun k hk => Nat.le_trans hb1.size (hS k hk), hb1.trans (hb.mono hb1.size)⟩; clear hE hS hb)))
  have HCC : Hid (∃ b g, b = w1.heap.size + 1 ∧ g = w1.heap.size) := ⟨_, _, rfl, rfl⟩
  obtain ⟨b, g, hbb, hgg⟩ := HCC.out
  rw [← hbb, ← hgg] at HC0
  rw [← hbb]
  clear hbb hgg hb1
  go_loopw [9] (fun i wr => ∃ j : Nat, j ≤ is.length ∧ i = .int .i64 j ∧ ∃ ck, Hid (Cl w wr b g ck ∧ ck.ins.length = n ∧ ck.now ≤ j + 1)) (fun i _ => is.length - (intOf i).toNat)
  case atStart => exact ⟨0, by omega, rfl, Ck.new n, HC0.out, by simp [Ck.new], by simp [Ck.new]⟩
  case round =>
    obtain ⟨j, hj, rfl, ck, HM⟩ := hrel
    rename World => wr
    by_cases hlt : j < is.length
    · have hltI : (j : Int) < is.length := by omega
      obtain ⟨o, HO⟩ : ∃ o, Hid (is.getD j Ow.nil = o) := ⟨_, rfl⟩
      obtain ⟨p, off, cap, ev, _, _, d0, d1, d2, hsu, hlu, _⟩ := HSC.out.at HM.out.1.be hlt HO.out
      simp only [Value.slice.injEq, true_and] at ev
      obtain ⟨rfl, rfl⟩ := ev
      have HSU := keepG hsu
      have HLU := keepG hlu
      have HCX := keepG HM.out.1
      have HN0 := keepG HM.out.2
      obtain ⟨ok, ox, ou, ow⟩ := o
      simp only at d0 d1 d2 HSU HLU
      obtain ⟨oa, oc, ev⟩ := HSU.out.shape
      subst ev
      clear HM hsu hlu
      by_cases hk0 : ok = 0
      · subst hk0
        obtain ⟨m6, E, c6, HQ⟩ : ∃ m6 E c6, Hid (ck.enter ox = (m6, E, c6)) := ⟨_, _, _, rfl⟩
        go_wp2_with (go_at_call 9; go_must (refine (HCX.out.enter ox HQ).mono ?_); rintro e w6 ⟨rfl, hc6, hg6⟩; go_must (have HC6 := keepG hc6; clear hc6 hg6))
        go_roundw
        case rel => exact ⟨j + 1, by omega, by go_num, c6, HC6.out, by rw [(Ck.enter_now HQ.out).2]; exact HN0.out.1, by rw [(Ck.enter_now HQ.out).1]; have := HN0.out.2; omega⟩
        case measure => simp [intOf]; omega
      · by_cases hk1 : ok = 1
        · subst hk1
          obtain ⟨E, c6, HQ⟩ : ∃ E c6, Hid (ck.leave ow = (E, c6)) := ⟨_, _, rfl⟩
          go_wp2_with (go_at_call 11; go_must (refine (HCX.out.leave HSU.out (HCX.out.apt (fun hne k hk => HLU.out hne k hk)) HQ).mono ?_); rintro e w6 ⟨rfl, hc6, hg6⟩; go_must (have HC6 := keepG hc6; clear hc6 hg6))
          go_roundw
          case rel => exact ⟨j + 1, by omega, by go_num, c6, HC6.out, by rw [(Ck.leave_now HQ.out).2]; exact HN0.out.1, by rw [(Ck.leave_now HQ.out).1]; have := HN0.out.2; omega⟩
          case measure => simp [intOf]; omega
        · by_cases hk2 : ok = 2
          · subst hk2
            obtain ⟨c6, HD⟩ : ∃ c6, Hid (ck.go = c6) := ⟨_, rfl⟩
            go_wp2_with (go_at_call 13; go_must (refine (HCX.out.advance (by have := HN0.out.2; omega) HD).mono ?_); rintro e w6 ⟨rfl, hc6, hg6⟩; go_must (have HC6 := keepG hc6; clear hc6 hg6))
            go_roundw
            case rel => exact ⟨j + 1, by omega, by go_num, c6, HC6.out, by rw [← HD.out]; exact HN0.out.1, by rw [← HD.out]; have := HN0.out.2; show ck.now + 1 ≤ _; omega⟩
            case measure => simp [intOf]; omega
          · have hb0 : (ok == 0) = false := by simpa using hk0
            have hb1 : (ok == 1) = false := by simpa using hk1
            have hb2 : (ok == 2) = false := by simpa using hk2
            go_wp2
            go_roundw
            case rel => exact ⟨j + 1, by omega, by go_num, ck, HCX.out, HN0.out.1, by have := HN0.out.2; omega⟩
            case measure => simp [intOf]; omega
    · have hltI : ¬ (j : Int) < is.length := by omega
      have HC1 := keepG HM.out.1
      have HN1 := keepG HM.out.2
      clear HM
      go_wp2
      go_loopw [10, 11] (fun u i wq => ∃ q : Nat, q ≤ n ∧ i = .int .i64 q ∧ Hid (Gc w wq b g ck u ((ck.ins.map (fun x => x != 0)).take q))) (fun _ i _ => n - (intOf i).toNat)
      case atStart => exact ⟨0, by omega, rfl, HC1.out, World.ownsRow_nil _ _ _ _⟩
      case round =>
        rename_i u wq
        obtain ⟨q, hq, rfl, HG⟩ := hrel
        obtain ⟨ua, uc, ev⟩ := own_shape HG.out.row
        subst ev
        by_cases hqn : q < n
        · have hqnI : (q : Int) < n := by omega
          have HT := keepG (take_atB (ck.ins.map (fun x => x != 0)) q (by simp; rw [HN1.out.1]; exact hqn))
          have hql : ((ck.ins.map (fun x => x != 0)).take q).length ≤ q := List.length_take_le _ _
          obtain ⟨y, HY⟩ : ∃ y, Hid (ck.at q = y) := ⟨_, rfl⟩
          obtain ⟨r, HR⟩ : ∃ r, Hid ((y != 0) = r) := ⟨_, rfl⟩
          have hyd : (ck.ins.map (fun x => x != 0)).getD q false = r := by
            rw [← HR.out, ← HY.out, Ck.at_nat]
            have : q < ck.ins.length := by rw [HN1.out.1]; exact hqn
            simp [List.getD, this]
          rw [hyd] at HT
          obtain ⟨ys, HYS⟩ : ∃ ys, Hid ((ck.ins.map (fun x => x != 0)).take q = ys) := ⟨_, rfl⟩
          rw [HYS.out] at HG HT hql ⊢
          have hzq := HG.out.cl.be.size
          clear hyd
          go_wp2_with (first
            | (go_at_call 18; go_must (refine (lin HG.out.cl.ec q HY HR).mono ?_); rintro e w5 ⟨rfl, rfl⟩)
            | (at_builtin; go_must (refine wpList_append_wide _ rfl _ _ 45 rfl w.heap.size 4 i0 (.bool false) 1 1 Try.underlying45 hi0 hz0 hzs hzb rfl (by decide) _ _ _ rfl (HG.out.row.alloc _) ⟨_, 0, none⟩ 1 1 [.bool r] rfl rfl (cell_one_new _ _ _) (one_cellB _) (by unfold maxLen; omega) (by omega) (by simp; omega) ?_); intro v' w5 hown' hgrow _; have R := keepG (HG.out.more hown' hgrow); clear hown' hgrow))
          go_roundw
          case rel => exact ⟨q + 1, by omega, by go_num, by rw [HT.out]; exact R.out⟩
          case measure => simp [intOf]; omega
        · have hqnI : ¬ (q : Int) < n := by omega
          have hT : (ck.ins.map (fun x => x != 0)).take q = ck.ins.map (fun x => x != 0) := List.take_of_length_le (by simp; rw [HN1.out.1]; omega)
          obtain ⟨gr, HGR⟩ : ∃ gr, Hid (ck.now + 1 = gr) := ⟨_, rfl⟩
          have hmp : ck.ins.map (fun x => x != 0) = ck.go.ins.map (ltB gr) := by
            refine List.map_congr_left fun x hx => ?_
            have := HC1.out.ok.mem x hx
            have h5 := HGR.out
            have h6 : x < gr := by omega
            simp [ltB, h6]
          rw [hT] at HG ⊢
          rw [hmp] at HG ⊢
          obtain ⟨c3, HD⟩ : ∃ c3, Hid (ck.go = c3) := ⟨_, rfl⟩
          have ADC := keepG (HG.out.cl.advance (by have := HN1.out.2; omega) HD)
          rw [HGR.out] at ADC
          rw [HD.out] at HG ⊢
          have HN3 : Hid (c3.ins.length = n ∧ gr = c3.now ∧ gr ≤ is.length + 2 ∧ 1 ≤ gr) := by
            rw [← HD.out]
            have h5 := HGR.out
            have h6 := HN1.out.2
            have h7 := HC1.out.ok.now
            exact ⟨HN1.out.1, h5.symm, by omega, by omega⟩
          clear hmp hT
          obtain ⟨L, HL⟩ : ∃ L, Hid ((c3.ins.map (ltB gr)).length = L) := ⟨_, rfl⟩
          rw [HL.out] at HG ⊢
          have hLn : L = n := by rw [← HL.out]; simp; exact HN3.out.1
          subst hLn
          go_wp2_with (go_at_call 13; go_must (refine ADC.out.mono ?_); rintro e w6 ⟨rfl, hc6, hg6⟩; go_must (have HG6 := keepG (HG.out.step hc6 hg6); clear hc6 hg6))
          go_loopw [15, 16] (fun vs i wz => ∃ (z : Nat) (sf : Bool) (c4 : Ck), z ≤ us.length ∧ vs = .bool sf ∧ i = .int .i64 z ∧ Hid (Gc w wz b g c4 (.slice ua L uc) (c4.ins.map (ltB gr))) ∧ Hid (c4.ins.length = L ∧ gr ≤ c4.now ∧ c4.now ≤ gr + z) ∧ Hid (sf = true → c4.safe gr = true)) (fun _ i _ => us.length + 1 - (intOf i).toNat)
          case atStart => exact ⟨0, false, c3, by omega, rfl, rfl, HG6.out, ⟨HN3.out.1, by have := HN3.out.2.1; omega, by have := HN3.out.2.1; omega⟩, fun e => by cases e⟩
          case round =>
            rename World => wz
            obtain ⟨z, sf, c4, hz, rfl, rfl, HG4, HN4, HSF⟩ := hrel
            have hzle : (z : Int) ≤ us.length := by omega
            have hWl : (c4.ins.map (ltB gr)).length = L := by simp; exact HN4.out.1
            obtain ⟨W, HW⟩ : ∃ W, Hid (c4.ins.map (ltB gr) = W) := ⟨_, rfl⟩
            rw [HW.out] at hWl HG4
            have HWl := keepG hWl
            obtain ⟨p4, cap4, ev4, _, hcp, hcp2, hcl4, hst4⟩ := HG4.out.cells (by omega)
            simp only [Value.slice.injEq] at ev4
            obtain ⟨hua, -, huc⟩ := ev4
            subst hua huc
            have HCL := keepG hcl4
            have HST := keepG hst4
            rw [hWl] at hcp
            clear hcl4 hst4 hWl
            obtain ⟨S, HS⟩ : ∃ S, Hid (c4.safe gr = S) := ⟨_, rfl⟩
            have HSW : Hid (W.all (fun x => !x) = S) := by show _ = _; rw [← HW.out, ← HS.out]; exact (c4.safe_map gr).symm
            have SAFE := keepG (lsafe HG4.out.cl.ec HG4.out.cl.ok.len.2 gr HS)
            go_wp2
            go_loopw [17, 18] (fun vw i wy => ∃ q : Nat, q ≤ L ∧ vw = .bool ((W.take q).all (fun x => !x)) ∧ i = .int .i64 q ∧ wz = wy) (fun _ i _ => L - (intOf i).toNat)
            case atStart => exact ⟨0, by omega, rfl, rfl, rfl⟩
            case round =>
              obtain ⟨q, hq, rfl, rfl, rfl⟩ := hrel
              by_cases hqn : q < L
              · have hqnI : (q : Int) < L := by omega
                have hqW : q < W.length := by rw [HWl.out]; exact hqn
                have q0 := (HCL.out q hqW).1
                have hT := all_takeB hqW
                obtain ⟨x, HX⟩ : ∃ x, Hid (W.getD q false = x) := ⟨_, rfl⟩
                rw [HX.out] at q0 hT
                have HT := keepG hT
                clear hT hqW
                cases hA : (W.take q).all (fun x => !x) with
                | true =>
                  rw [hA, Bool.true_and] at HT
                  go_wp2
                  go_roundw
                  case rel => exact ⟨q + 1, by omega, by rw [HT.out], by go_num, by first | rfl | trivial⟩
                  case measure => simp [intOf]; omega
                | false =>
                  rw [hA, Bool.false_and] at HT
                  go_wp2
                  go_roundw
                  case rel => exact ⟨q + 1, by omega, by rw [HT.out], by go_num, by first | rfl | trivial⟩
                  case measure => simp [intOf]; omega
              · have hqnI : ¬ (q : Int) < L := by omega
                have hA : (W.take q).all (fun x => !x) = S := by rw [List.take_of_length_le (by rw [HWl.out]; omega)]; exact HSW.out
                rw [hA]
                clear hA
                have hSS : (S != S) = false := by simp
                cases hsf : sf with
                | true =>
                  have hSt : S = true := by rw [← HS.out]; exact HSF.out hsf
                  subst hSt
                  by_cases hze : z = us.length
                  · have hzb : ((z : Int) == us.length) = true := by simp; omega
                    obtain ⟨ol, HOL⟩ : ∃ ol, Hid (c4.old = ol) := ⟨_, rfl⟩
                    have OLD := keepG (loldest HG4.out.cl.ec HG4.out.cl.ok.len.2 HOL)
                    have SAFE2 := keepG (lsafe HG4.out.cl.ec HG4.out.cl.ok.len.2 ol (show Hid _ from (by rw [← HOL.out]; exact c4.safe_old : c4.safe ol = true)))
                    have HBE := keepG HG4.out.cl.be
                    go_wp2_with (first
                      | (go_at_call 15; have hq := SAFE; clear hq; go_must (refine SAFE.out.mono ?_); rintro e w7 ⟨rfl, rfl⟩; clear SAFE)
                      | (go_at_call 19; go_must (refine OLD.out.mono ?_); rintro e w7 ⟨rfl, rfl⟩)
                      | (go_at_call 15; go_must (refine SAFE2.out.mono ?_); rintro e w7 ⟨rfl, rfl⟩))
                    go_ret
                    exact ⟨rfl, HBE.out⟩
                  · have hzlt : z < us.length := by omega
                    have hzb : ((z : Int) == us.length) = false := by simp; omega
                    obtain ⟨o, HO⟩ : ∃ o, Hid (us.getD z Ow.nil = o) := ⟨_, rfl⟩
                    have hzI : (z : Int) < us.length := by omega
                    obtain ⟨p, off, cap, ev, _, _, d0, d1, d2, hsu, hlu, _⟩ := HSD.out.at HG4.out.cl.be hzlt HO.out
                    simp only [Value.slice.injEq, true_and] at ev
                    obtain ⟨rfl, rfl⟩ := ev
                    obtain ⟨X, HX, hbX, HPX⟩ := op_box17 wz o
                    have HGX := keepG (HG4.out.below hbX)
                    obtain ⟨ok, ox, ou, ow⟩ := o
                    simp only at d0 d1 d2 HX hsu hlu
                    obtain ⟨oa, oc, ev⟩ := hsu.shape
                    subst ev
                    have HSU := keepG (hsu.below hbX (Nat.le_refl _))
                    have HLU := keepG hlu
                    have o0 := HPX.out.cell (j := 0) rfl
                    have o1 := HPX.out.cell (j := 1) rfl
                    have o2 := HPX.out.cell (j := 2) rfl
                    simp only at o0 o1 o2
                    clear hsu hlu
                    by_cases hk0 : ok = 0
                    · subst hk0
                      obtain ⟨m6, E, c6, HQ⟩ : ∃ m6 E c6, Hid (c4.enter ox = (m6, E, c6)) := ⟨_, _, _, rfl⟩
                      go_wp2_with (first
                        | (rw [HX.out])
                        | (go_at_call 15; have hq := SAFE; clear hq; go_must (refine SAFE.out.mono ?_); rintro e w7 ⟨rfl, rfl⟩; clear SAFE)
                        | (go_at_call 9; go_must (refine (HGX.out.cl.enter ox HQ).mono ?_); rintro e w6 ⟨rfl, hc6, hg6⟩; go_must (have HG6 := keepG (HGX.out.step hc6 hg6); clear hc6 hg6)))
                      have HM6 := keepG (Ck.enter_lt HQ.out HN4.out.2.1)
                      go_roundw
                      case rel => exact ⟨z + 1, true, c6, by omega, rfl, by go_num, by rw [HM6.out, HW.out]; exact HG6.out, ⟨by rw [(Ck.enter_now HQ.out).2]; exact HN4.out.1, by rw [(Ck.enter_now HQ.out).1]; exact HN4.out.2.1, by rw [(Ck.enter_now HQ.out).1]; have := HN4.out.2.2; omega⟩, fun e => by rw [Ck.safe_map, HM6.out, HW.out, HSW.out] <;> exact e⟩
                      case measure => simp [intOf]; omega
                    · by_cases hk1 : ok = 1
                      · subst hk1
                        obtain ⟨E, c6, HQ⟩ : ∃ E c6, Hid (c4.leave ow = (E, c6)) := ⟨_, _, rfl⟩
                        by_cases hE : E = 0
                        · subst hE
                          obtain ⟨honce, hc6e⟩ := Ck.leave_ok HQ.out
                          have HON := keepG (Ck.once_parts honce).2
                          have HM6 : Hid (c6.ins.map (ltB gr) = clrB W ow) := by show _ = _; rw [hc6e, ← HW.out]; exact clr_map gr ow c4.ins
                          clear honce hc6e
                          have hol := HSU.out
                          go_wp2_with (first
                            | (rw [HX.out])
                            | (go_at_call 15; have hq := SAFE; clear hq; go_must (refine SAFE.out.mono ?_); rintro e w7 ⟨rfl, rfl⟩; clear SAFE)
                            | (go_at_call 11; go_must (refine (HGX.out.cl.leave HSU.out (HGX.out.cl.apt (fun hne k hk => HLU.out hne k hk)) HQ).mono ?_); rintro e w6 ⟨rfl, hc6, hg6⟩; go_must (have HG6 := keepG (HGX.out.step hc6 hg6); have HP6 := keepG (HGX.out.cl.box HPX.out (by decide) (by decide) hg6); have b2 := HP6.out.cell (j := 2) rfl; simp only at b2; clear hc6 hg6)))
                          have HSU6 := keepG (HSU.out.below (B := X.heap.size) (w' := X) (Below.refl _ _) (Nat.le_refl _))
                          go_loopw [20] (fun i wy => ∃ q : Nat, q ≤ ow.length ∧ i = .int .i64 q ∧ Hid (Gc w wy b g c6 (.slice (some ⟨p4, 0, none⟩) L uc) (clrB W (ow.take q))) ∧ Hid (Hp wy wz.heap.size 34 (owC ⟨1, ox, .slice oa ow.length oc, ow⟩))) (fun i _ => ow.length - (intOf i).toNat)
                          case atStart => exact ⟨0, by omega, rfl, HG6.out, HP6.out⟩
                          case round =>
                            rename World => wy
                            obtain ⟨q, hq, rfl, HGq, HPq⟩ := hrel
                            have b2 := HPq.out.cell (j := 2) rfl
                            simp only at b2
                            have hos := hol
                            obtain ⟨oa', oc', evo, hoc1, hoc2, _, _, hocell⟩ := hos
                            unfold maxLen at hoc2
                            simp only [Value.slice.injEq, true_and] at evo
                            obtain ⟨rfl, rfl⟩ := evo
                            by_cases hqn : q < ow.length
                            · have hqnI : (q : Int) < ow.length := by omega
                              have hne : ow ≠ [] := fun e => by rw [e] at hqn; simp at hqn
                              obtain ⟨po, fo, rfl, hpo, hat⟩ := hocell hne
                              have hpw : po < w.heap.size := HLU.out hne po rfl
                              have hcX := hat q hqn
                              have hbw : w.heap.size ≤ X.heap.size := HGX.out.cl.be.size
                              have c0 : wy.cell? ⟨po, fo + q, none⟩ = X.cell? ⟨po, fo + q, none⟩ := by rw [HGq.out.cl.be.cell (p := ⟨po, fo + q, none⟩) hpw, HGX.out.cl.be.cell (p := ⟨po, fo + q, none⟩) hpw]
                              rw [hcX] at c0
                              have hmem := getD_mem ow q hqn
                              have hT := take_at ow q hqn
                              obtain ⟨y, HY⟩ : ∃ y, Hid (ow.getD q 0 = y) := ⟨_, rfl⟩
                              rw [HY.out] at c0 hmem hT
                              obtain ⟨k, rfl, hk⟩ := Ck.has_nat (HON.out _ hmem)
                              have hkL : k < L := by rw [← HN4.out.1]; exact hk
                              have hkLI : (k : Int) < L := by omega
                              have hkLn : ¬ (L : Int) ≤ k := by omega
                              have hlen6 : (clrB W (ow.take q)).length = L := by rw [clrB_len]; exact HWl.out
                              obtain ⟨p5, cap5, ev5, _, _, _, hcl5, hst5⟩ := HGq.out.cells (by rw [hlen6]; omega)
                              simp only [Value.slice.injEq, Option.some.injEq, Addr.mk.injEq, and_true, true_and] at ev5
                              obtain ⟨hp5, -, hc5⟩ := ev5
                              subst hp5 hc5
                              obtain ⟨r0, rf⟩ := hcl5 k (by rw [hlen6]; exact hkL)
                              obtain ⟨x, HXx⟩ : ∃ x, Hid ((clrB W (ow.take q)).getD k false = x) := ⟨_, rfl⟩
                              rw [HXx.out] at r0
                              have HST5 := keepG (hst5 k)
                              rw [hlen6] at HST5
                              have HT : Hid (clrB W (ow.take (q + 1)) = (clrB W (ow.take q)).set k false) := by show _ = _; rw [hT, clrB_app]; rfl
                              have HP5 := keepG (HPq.out.chg HST5.out.2 (fun e => own_type10 HGq.out.row HPq.out (by decide) (by rw [e]; rfl)))
                              clear hat hocell hcX hmem hT hst5 hcl5 hlen6
                              go_wp2
                              go_roundw
                              case rel => exact ⟨q + 1, by omega, by go_num, by rw [HT.out]; exact HST5.out.1, HP5.out⟩
                              case measure => simp [intOf]; omega
                            · have hqnI : ¬ (q : Int) < ow.length := by omega
                              have hT : ow.take q = ow := List.take_of_length_le (by omega)
                              rw [hT] at HGq
                              clear hT hocell
                              go_wp2
                              go_roundw
                              case rel => exact ⟨z + 1, true, c6, by omega, rfl, by go_num, by rw [HM6.out]; exact HGq.out, ⟨by rw [(Ck.leave_now HQ.out).2]; exact HN4.out.1, by rw [(Ck.leave_now HQ.out).1]; exact HN4.out.2.1, by rw [(Ck.leave_now HQ.out).1]; have := HN4.out.2.2; omega⟩, fun e => by rw [Ck.safe_map, HM6.out]; exact all_clrB ow W (by rw [HSW.out] <;> exact e)⟩
                              case measure => simp [intOf]; omega
                        · have hEb : (E == 0) = false := by simpa using hE
                          obtain rfl : c6 = c4 := Ck.leave_same HQ.out hE
                          clear hE
                          go_wp2_with (first
                            | (rw [HX.out])
                            | (go_at_call 15; have hq := SAFE; clear hq; go_must (refine SAFE.out.mono ?_); rintro e w7 ⟨rfl, rfl⟩; clear SAFE)
                            | (go_at_call 11; go_must (refine (HGX.out.cl.leave HSU.out (HGX.out.cl.apt (fun hne k hk => HLU.out hne k hk)) HQ).mono ?_); rintro e w6 ⟨rfl, hc6, hg6⟩; go_must (have HG6 := keepG (HGX.out.step hc6 hg6); have HP6 := keepG (HGX.out.cl.box HPX.out (by decide) (by decide) hg6); have b2 := HP6.out.cell (j := 2) rfl; simp only at b2; clear hc6 hg6)))
                          go_roundw
                          case rel => exact ⟨z + 1, true, c6, by omega, rfl, by go_num, by rw [HW.out]; exact HG6.out, ⟨HN4.out.1, HN4.out.2.1, by have := HN4.out.2.2; omega⟩, fun e => by rw [HS.out] <;> exact e⟩
                          case measure => simp [intOf]; omega
                      · by_cases hk2 : ok = 2
                        · subst hk2
                          obtain ⟨c6, HD⟩ : ∃ c6, Hid (c4.go = c6) := ⟨_, rfl⟩
                          go_wp2_with (first
                            | (rw [HX.out])
                            | (go_at_call 15; have hq := SAFE; clear hq; go_must (refine SAFE.out.mono ?_); rintro e w7 ⟨rfl, rfl⟩; clear SAFE)
                            | (go_at_call 13; go_must (refine (HGX.out.cl.advance (by have := HN4.out.2.2; have := HN3.out.2.2.1; omega) HD).mono ?_); rintro e w6 ⟨rfl, hc6, hg6⟩; go_must (have HG6 := keepG (HGX.out.step hc6 hg6); clear hc6 hg6)))
                          have HM6 : Hid (c6.ins.map (ltB gr) = W) := by rw [← HD.out]; exact HW.out
                          go_roundw
                          case rel => exact ⟨z + 1, true, c6, by omega, rfl, by go_num, by rw [HM6.out]; exact HG6.out, ⟨by rw [← HD.out]; exact HN4.out.1, by rw [← HD.out]; have := HN4.out.2.1; show gr ≤ c4.now + 1; omega, by rw [← HD.out]; have := HN4.out.2.2; show c4.now + 1 ≤ _; omega⟩, fun e => by rw [Ck.safe_map, HM6.out, HSW.out] <;> exact e⟩
                          case measure => simp [intOf]; omega
                        · have hb0 : (ok == 0) = false := by simpa using hk0
                          have hb1 : (ok == 1) = false := by simpa using hk1
                          have hb2 : (ok == 2) = false := by simpa using hk2
                          go_wp2_with (first
                            | (rw [HX.out])
                            | (go_at_call 15; have hq := SAFE; clear hq; go_must (refine SAFE.out.mono ?_); rintro e w7 ⟨rfl, rfl⟩; clear SAFE))
                          go_roundw
                          case rel => exact ⟨z + 1, true, c4, by omega, rfl, by go_num, by rw [HW.out]; exact HGX.out, ⟨HN4.out.1, HN4.out.2.1, by have := HN4.out.2.2; omega⟩, fun e => by rw [HS.out] <;> exact e⟩
                          case measure => simp [intOf]; omega
                | false =>
                  by_cases hze : z = us.length
                  · have hzb : ((z : Int) == us.length) = true := by simp; omega
                    obtain ⟨ol, HOL⟩ : ∃ ol, Hid (c4.old = ol) := ⟨_, rfl⟩
                    have OLD := keepG (loldest HG4.out.cl.ec HG4.out.cl.ok.len.2 HOL)
                    have SAFE2 := keepG (lsafe HG4.out.cl.ec HG4.out.cl.ok.len.2 ol (show Hid _ from (by rw [← HOL.out]; exact c4.safe_old : c4.safe ol = true)))
                    have HBE := keepG HG4.out.cl.be
                    go_wp2_with (first
                      | (go_at_call 15; have hq := SAFE; clear hq; go_must (refine SAFE.out.mono ?_); rintro e w7 ⟨rfl, rfl⟩; clear SAFE)
                      | (go_at_call 19; go_must (refine OLD.out.mono ?_); rintro e w7 ⟨rfl, rfl⟩)
                      | (go_at_call 15; go_must (refine SAFE2.out.mono ?_); rintro e w7 ⟨rfl, rfl⟩))
                    go_ret
                    exact ⟨rfl, HBE.out⟩
                  · have hzlt : z < us.length := by omega
                    have hzb : ((z : Int) == us.length) = false := by simp; omega
                    obtain ⟨o, HO⟩ : ∃ o, Hid (us.getD z Ow.nil = o) := ⟨_, rfl⟩
                    have hzI : (z : Int) < us.length := by omega
                    obtain ⟨p, off, cap, ev, _, _, d0, d1, d2, hsu, hlu, _⟩ := HSD.out.at HG4.out.cl.be hzlt HO.out
                    simp only [Value.slice.injEq, true_and] at ev
                    obtain ⟨rfl, rfl⟩ := ev
                    obtain ⟨X, HX, hbX, HPX⟩ := op_box17 wz o
                    have HGX := keepG (HG4.out.below hbX)
                    obtain ⟨ok, ox, ou, ow⟩ := o
                    simp only at d0 d1 d2 HX hsu hlu
                    obtain ⟨oa, oc, ev⟩ := hsu.shape
                    subst ev
                    have HSU := keepG (hsu.below hbX (Nat.le_refl _))
                    have HLU := keepG hlu
                    have o0 := HPX.out.cell (j := 0) rfl
                    have o1 := HPX.out.cell (j := 1) rfl
                    have o2 := HPX.out.cell (j := 2) rfl
                    simp only at o0 o1 o2
                    clear hsu hlu
                    by_cases hk0 : ok = 0
                    · subst hk0
                      obtain ⟨m6, E, c6, HQ⟩ : ∃ m6 E c6, Hid (c4.enter ox = (m6, E, c6)) := ⟨_, _, _, rfl⟩
                      go_wp2_with (first
                        | (rw [HX.out])
                        | (go_at_call 15; have hq := SAFE; clear hq; go_must (refine SAFE.out.mono ?_); rintro e w7 ⟨rfl, rfl⟩; clear SAFE)
                        | (go_at_call 9; go_must (refine (HGX.out.cl.enter ox HQ).mono ?_); rintro e w6 ⟨rfl, hc6, hg6⟩; go_must (have HG6 := keepG (HGX.out.step hc6 hg6); clear hc6 hg6)))
                      have HM6 := keepG (Ck.enter_lt HQ.out HN4.out.2.1)
                      go_roundw
                      case rel => exact ⟨z + 1, S, c6, by omega, rfl, by go_num, by rw [HM6.out, HW.out]; exact HG6.out, ⟨by rw [(Ck.enter_now HQ.out).2]; exact HN4.out.1, by rw [(Ck.enter_now HQ.out).1]; exact HN4.out.2.1, by rw [(Ck.enter_now HQ.out).1]; have := HN4.out.2.2; omega⟩, fun e => by rw [Ck.safe_map, HM6.out, HW.out, HSW.out] <;> exact e⟩
                      case measure => simp [intOf]; omega
                    · by_cases hk1 : ok = 1
                      · subst hk1
                        obtain ⟨E, c6, HQ⟩ : ∃ E c6, Hid (c4.leave ow = (E, c6)) := ⟨_, _, rfl⟩
                        by_cases hE : E = 0
                        · subst hE
                          obtain ⟨honce, hc6e⟩ := Ck.leave_ok HQ.out
                          have HON := keepG (Ck.once_parts honce).2
                          have HM6 : Hid (c6.ins.map (ltB gr) = clrB W ow) := by show _ = _; rw [hc6e, ← HW.out]; exact clr_map gr ow c4.ins
                          clear honce hc6e
                          have hol := HSU.out
                          go_wp2_with (first
                            | (rw [HX.out])
                            | (go_at_call 15; have hq := SAFE; clear hq; go_must (refine SAFE.out.mono ?_); rintro e w7 ⟨rfl, rfl⟩; clear SAFE)
                            | (go_at_call 11; go_must (refine (HGX.out.cl.leave HSU.out (HGX.out.cl.apt (fun hne k hk => HLU.out hne k hk)) HQ).mono ?_); rintro e w6 ⟨rfl, hc6, hg6⟩; go_must (have HG6 := keepG (HGX.out.step hc6 hg6); have HP6 := keepG (HGX.out.cl.box HPX.out (by decide) (by decide) hg6); have b2 := HP6.out.cell (j := 2) rfl; simp only at b2; clear hc6 hg6)))
                          have HSU6 := keepG (HSU.out.below (B := X.heap.size) (w' := X) (Below.refl _ _) (Nat.le_refl _))
                          go_loopw [20] (fun i wy => ∃ q : Nat, q ≤ ow.length ∧ i = .int .i64 q ∧ Hid (Gc w wy b g c6 (.slice (some ⟨p4, 0, none⟩) L uc) (clrB W (ow.take q))) ∧ Hid (Hp wy wz.heap.size 34 (owC ⟨1, ox, .slice oa ow.length oc, ow⟩))) (fun i _ => ow.length - (intOf i).toNat)
                          case atStart => exact ⟨0, by omega, rfl, HG6.out, HP6.out⟩
                          case round =>
                            rename World => wy
                            obtain ⟨q, hq, rfl, HGq, HPq⟩ := hrel
                            have b2 := HPq.out.cell (j := 2) rfl
                            simp only at b2
                            have hos := hol
                            obtain ⟨oa', oc', evo, hoc1, hoc2, _, _, hocell⟩ := hos
                            unfold maxLen at hoc2
                            simp only [Value.slice.injEq, true_and] at evo
                            obtain ⟨rfl, rfl⟩ := evo
                            by_cases hqn : q < ow.length
                            · have hqnI : (q : Int) < ow.length := by omega
                              have hne : ow ≠ [] := fun e => by rw [e] at hqn; simp at hqn
                              obtain ⟨po, fo, rfl, hpo, hat⟩ := hocell hne
                              have hpw : po < w.heap.size := HLU.out hne po rfl
                              have hcX := hat q hqn
                              have hbw : w.heap.size ≤ X.heap.size := HGX.out.cl.be.size
                              have c0 : wy.cell? ⟨po, fo + q, none⟩ = X.cell? ⟨po, fo + q, none⟩ := by rw [HGq.out.cl.be.cell (p := ⟨po, fo + q, none⟩) hpw, HGX.out.cl.be.cell (p := ⟨po, fo + q, none⟩) hpw]
                              rw [hcX] at c0
                              have hmem := getD_mem ow q hqn
                              have hT := take_at ow q hqn
                              obtain ⟨y, HY⟩ : ∃ y, Hid (ow.getD q 0 = y) := ⟨_, rfl⟩
                              rw [HY.out] at c0 hmem hT
                              obtain ⟨k, rfl, hk⟩ := Ck.has_nat (HON.out _ hmem)
                              have hkL : k < L := by rw [← HN4.out.1]; exact hk
                              have hkLI : (k : Int) < L := by omega
                              have hkLn : ¬ (L : Int) ≤ k := by omega
                              have hlen6 : (clrB W (ow.take q)).length = L := by rw [clrB_len]; exact HWl.out
                              obtain ⟨p5, cap5, ev5, _, _, _, hcl5, hst5⟩ := HGq.out.cells (by rw [hlen6]; omega)
                              simp only [Value.slice.injEq, Option.some.injEq, Addr.mk.injEq, and_true, true_and] at ev5
                              obtain ⟨hp5, -, hc5⟩ := ev5
                              subst hp5 hc5
                              obtain ⟨r0, rf⟩ := hcl5 k (by rw [hlen6]; exact hkL)
                              obtain ⟨x, HXx⟩ : ∃ x, Hid ((clrB W (ow.take q)).getD k false = x) := ⟨_, rfl⟩
                              rw [HXx.out] at r0
                              have HST5 := keepG (hst5 k)
                              rw [hlen6] at HST5
                              have HT : Hid (clrB W (ow.take (q + 1)) = (clrB W (ow.take q)).set k false) := by show _ = _; rw [hT, clrB_app]; rfl
                              have HP5 := keepG (HPq.out.chg HST5.out.2 (fun e => own_type10 HGq.out.row HPq.out (by decide) (by rw [e]; rfl)))
                              clear hat hocell hcX hmem hT hst5 hcl5 hlen6
                              go_wp2
                              go_roundw
                              case rel => exact ⟨q + 1, by omega, by go_num, by rw [HT.out]; exact HST5.out.1, HP5.out⟩
                              case measure => simp [intOf]; omega
                            · have hqnI : ¬ (q : Int) < ow.length := by omega
                              have hT : ow.take q = ow := List.take_of_length_le (by omega)
                              rw [hT] at HGq
                              clear hT hocell
                              go_wp2
                              go_roundw
                              case rel => exact ⟨z + 1, S, c6, by omega, rfl, by go_num, by rw [HM6.out]; exact HGq.out, ⟨by rw [(Ck.leave_now HQ.out).2]; exact HN4.out.1, by rw [(Ck.leave_now HQ.out).1]; exact HN4.out.2.1, by rw [(Ck.leave_now HQ.out).1]; have := HN4.out.2.2; omega⟩, fun e => by rw [Ck.safe_map, HM6.out]; exact all_clrB ow W (by rw [HSW.out] <;> exact e)⟩
                              case measure => simp [intOf]; omega
                        · have hEb : (E == 0) = false := by simpa using hE
                          obtain rfl : c6 = c4 := Ck.leave_same HQ.out hE
                          clear hE
                          go_wp2_with (first
                            | (rw [HX.out])
                            | (go_at_call 15; have hq := SAFE; clear hq; go_must (refine SAFE.out.mono ?_); rintro e w7 ⟨rfl, rfl⟩; clear SAFE)
                            | (go_at_call 11; go_must (refine (HGX.out.cl.leave HSU.out (HGX.out.cl.apt (fun hne k hk => HLU.out hne k hk)) HQ).mono ?_); rintro e w6 ⟨rfl, hc6, hg6⟩; go_must (have HG6 := keepG (HGX.out.step hc6 hg6); have HP6 := keepG (HGX.out.cl.box HPX.out (by decide) (by decide) hg6); have b2 := HP6.out.cell (j := 2) rfl; simp only at b2; clear hc6 hg6)))
                          go_roundw
                          case rel => exact ⟨z + 1, S, c6, by omega, rfl, by go_num, by rw [HW.out]; exact HG6.out, ⟨HN4.out.1, HN4.out.2.1, by have := HN4.out.2.2; omega⟩, fun e => by rw [HS.out] <;> exact e⟩
                          case measure => simp [intOf]; omega
                      · by_cases hk2 : ok = 2
                        · subst hk2
                          obtain ⟨c6, HD⟩ : ∃ c6, Hid (c4.go = c6) := ⟨_, rfl⟩
                          go_wp2_with (first
                            | (rw [HX.out])
                            | (go_at_call 15; have hq := SAFE; clear hq; go_must (refine SAFE.out.mono ?_); rintro e w7 ⟨rfl, rfl⟩; clear SAFE)
                            | (go_at_call 13; go_must (refine (HGX.out.cl.advance (by have := HN4.out.2.2; have := HN3.out.2.2.1; omega) HD).mono ?_); rintro e w6 ⟨rfl, hc6, hg6⟩; go_must (have HG6 := keepG (HGX.out.step hc6 hg6); clear hc6 hg6)))
                          have HM6 : Hid (c6.ins.map (ltB gr) = W) := by rw [← HD.out]; exact HW.out
                          go_roundw
                          case rel => exact ⟨z + 1, S, c6, by omega, rfl, by go_num, by rw [HM6.out]; exact HG6.out, ⟨by rw [← HD.out]; exact HN4.out.1, by rw [← HD.out]; have := HN4.out.2.1; show gr ≤ c4.now + 1; omega, by rw [← HD.out]; have := HN4.out.2.2; show c4.now + 1 ≤ _; omega⟩, fun e => by rw [Ck.safe_map, HM6.out, HSW.out] <;> exact e⟩
                          case measure => simp [intOf]; omega
                        · have hb0 : (ok == 0) = false := by simpa using hk0
                          have hb1 : (ok == 1) = false := by simpa using hk1
                          have hb2 : (ok == 2) = false := by simpa using hk2
                          go_wp2_with (first
                            | (rw [HX.out])
                            | (go_at_call 15; have hq := SAFE; clear hq; go_must (refine SAFE.out.mono ?_); rintro e w7 ⟨rfl, rfl⟩; clear SAFE))
                          go_roundw
                          case rel => exact ⟨z + 1, S, c4, by omega, rfl, by go_num, by rw [HW.out]; exact HGX.out, ⟨HN4.out.1, HN4.out.2.1, by have := HN4.out.2.2; omega⟩, fun e => by rw [HS.out] <;> exact e⟩
                          case measure => simp [intOf]; omega
/-- EpochGrace. -/
theorem epochGrace_walk (n : Int) (sv : Value) (is : List Ow) (su : Value) (us : List Ow) (w : World) {P0 : Prop} (_ : P0) (hs : Scr w sv is) (hlen : is.length * 40 ≤ 140737488351232 ∧ ∀ x ∈ is, x.ws.length * 8 ≤ 140737488351232) (ht : Scr w su us) (hlen2 : us.length * 40 ≤ 140737488351232 ∧ ∀ x ∈ us, x.ws.length * 8 ≤ 140737488351232) :
    Calls Try.prog 4 #[.int .i64 n, sv, su] w fun e w' => e = .returned (.bool true) ∧ Below w.heap.size w w' := by
  by_cases h : n < 1 ∨ 4 < n
  · exact epochGrace_no n sv su w h
  · obtain ⟨m, rfl⟩ : ∃ m : Nat, n = m := ⟨n.toNat, by omega⟩
    exact epochGrace_ok m (by omega) (by omega) sv su is us w hs ht hlen.1 hlen2.1
end Go.Proofs.Ytkcbiiiakkpegaa
