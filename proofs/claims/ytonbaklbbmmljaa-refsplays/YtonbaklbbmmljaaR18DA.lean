
/-
  The document's refs of layer 18: their memory; twice, At. Condition: they lie where the pointer says.
-/
import Derived.Test.YtonbaklbbmmljaaTk
import Derived.Test.YtonbaklbbmmljaaR18Plain
import Derived.Test.YtonbaklbbmmljaaGObj
import Derived.Test.YtonbaklbbmmljaaGSees
import Derived.Deep.RegionHeld3
import Derived.Deep.RegionHeldLaw
namespace Go.Proofs.Ytonbaklbbmmljaa
open Go.RowKit
set_option linter.unusedVariables false
set_option linter.unusedSimpArgs false
set_option maxRecDepth 100000
/-- A hold as it lies: its program, its slice, what that reads as. -/
structure Hr where
  p : Int
  u : Value
  ms : List Int
def Hr.nil : Hr := ⟨0, .slice none 0 0, []⟩
def Hr.hm (h : Hr) : Hm := ⟨h.p, h.ms⟩
abbrev hrC (h : Hr) : List Value := [.int .i64 h.p, h.u]
theorem hrC_len (h : Hr) : (hrC h).length = 2 := rfl
/-- The blocks of the lists within. -/
def inF (L : List Hr) : Ft := fun k => ∃ h ∈ L, h.ms ≠ [] ∧ h.u.ownBlock = some k
/-- The lists within are there. -/
def Ins (w : World) (L : List Hr) : Prop := ∀ h ∈ L, Sees .i64 w h.u h.ms
theorem Sees.chgE {k : IntKind} {w w' : World} {v : Value} {xs : List Int} {S : Nat → Prop} (h : Sees k w v xs) (hc : Chg w w' S) (hS : xs ≠ [] → ∀ j, v.ownBlock = some j → ¬ S j) : Sees k w' v xs := by
  obtain ⟨a, cap, rfl, h1, h2, h3, h4, h5⟩ := h
  refine ⟨a, cap, rfl, h1, h2, h3, h4, fun hne => ?_⟩
  obtain ⟨b, off, rfl, hlt, hat⟩ := h5 hne
  refine ⟨b, off, rfl, Nat.lt_of_lt_of_le hlt hc.size, fun i hi => ?_⟩
  rw [← hat i hi]
  exact World.cell?_of_block (hc.block b hlt (hS hne b rfl))
theorem Sees.lieE {k : IntKind} {w : World} {v : Value} {xs : List Int} (h : Sees k w v xs) (hne : xs ≠ []) {j : Nat} (hj : v.ownBlock = some j) : j < w.heap.size := by
  obtain ⟨a, cap, rfl, h1, h2, h3, h4, h5⟩ := h
  obtain ⟨b, off, rfl, hlt, hat⟩ := h5 hne
  have : b = j := Option.some.inj hj
  omega
/-- The cells of a slice of numbers, one by one. -/
theorem Sees.atE {w : World} {k : IntKind} {a : Option Addr} {n cap : Nat} {xs : List Int} (h : Sees k w (.slice a n cap) xs) {j : Nat} (hj : j < xs.length) : ∃ p off, a = some ⟨p, off, none⟩ ∧ ∀ i, i < xs.length → w.cell? ⟨p, off + i, none⟩ = some (.int k (xs.getD i 0)) := by
  obtain ⟨a', cap', ev, _, _, _, _, hc⟩ := h
  simp only [Value.slice.injEq] at ev
  obtain ⟨rfl, _, rfl⟩ := ev
  obtain ⟨p, off, rfl, _, hat⟩ := hc (fun e => by rw [e] at hj; simp at hj)
  exact ⟨p, off, rfl, hat⟩
theorem Ins.chg {w w' : World} {L : List Hr} {S : Nat → Prop} (h : Ins w L) (hc : Chg w w' S) (ha : Apt S (inF L)) : Ins w' L := fun x hx => (h x hx).chgE hc (fun hne j hj e => ha j e ⟨x, hx, hne, hj⟩)
theorem Ins.lies {w : World} {L : List Hr} (h : Ins w L) : Lies w (inF L) := fun k hk => by
  obtain ⟨x, hx, hne, hu⟩ := hk
  exact (h x hx).lieE hne hu
/-- The document's refs, at a block. -/
structure Dh (w : World) (B b : Nat) (v : Value) (n : Nat) (L : List Hr) : Prop where
  hp : Hp w b 31 [.int .i64 n, v]
  row : w.ownsRow B 44 2 v L.length (flatG hrC L)
  ins : Ins w L
  low : Apt (bkS b v) (inF L)
def ftD (b : Nat) (v : Value) (L : List Hr) : Ft := fun k => bkS b v k ∨ inF L k
section
variable {w w' : World} {B b n : Nat} {v : Value} {L : List Hr}
theorem Dh.chg {S : Nat → Prop} (h : Dh w B b v n L) (hc : Chg w w' S) (ha : Apt S (ftD b v L)) : Dh w' B b v n L :=
  ⟨h.hp.chg hc (fun e => ha b e (.inl (.inl rfl))), own_chg h.row hc (fun k hk e => ha k e (.inl (.inr hk))), h.ins.chg hc (fun k e1 e2 => ha k e1 (.inr e2)), h.low⟩
theorem Dh.below (h : Dh w B b v n L) (hb : Below w.heap.size w w') : Dh w' B b v n L := h.chg (Chg.of_below (S := fun _ => False) hb) (fun _ e => e.elim)
theorem Dh.lies (h : Dh w B b v n L) : Lies w (ftD b v L) := fun k hk => by
  rcases hk with (e | e) | e
  · rw [e]; exact h.hp.lt
  · exact (h.row.lt k e).2
  · exact h.ins.lies k e
theorem Dh.apart (h : Dh w B b v n L) : v.ownBlock ≠ some b := own_type10 h.row h.hp (by decide)
theorem nodup_take (ws : List Int) {j : Nat} (hj : j < ws.length) : (ws.take (j + 1)).Nodup ↔ (ws.take j).Nodup ∧ ¬ ws.getD j 0 ∈ ws.take j := by
  rw [take_at ws j hj, List.nodup_append]
  constructor
  · rintro ⟨h1, _, h3⟩
    exact ⟨h1, fun hm => h3 _ hm _ (by simp) rfl⟩
  · rintro ⟨h1, h6⟩
    refine ⟨h1, by simp, fun a ha b hb e => ?_⟩
    have hb2 : b = ws.getD j 0 := List.mem_singleton.1 hb
    subst hb2
    subst e
    exact h6 ha
theorem nodup_no {ws : List Int} {j : Nat} (h : ¬ (ws.take j).Nodup) : ¬ ws.Nodup := fun e => h (e.sublist (List.take_sublist _ _))
theorem not_in_takeE {xs : List Int} {x : Int} {k : Nat} (hk : k < xs.length) (h1 : ¬ x ∈ xs.take k) (h2 : xs.getD k 0 ≠ x) : ¬ x ∈ xs.take (k + 1) := by
  rw [take_at xs k hk, List.mem_append]
  rintro (e | e)
  · exact h1 e
  · exact h2 (List.mem_singleton.1 e).symm
set_option maxHeartbeats 3200000 in
theorem dtwice {u : Value} {ws : List Int} (hs : Sees .i64 w u ws) {r : Bool} (HR : Hid (decide ws.Nodup = r)) : Calls Try.prog 21 #[u] w fun e w' => e = .returned (.bool (!r)) ∧ Below w.heap.size w w' := by
  have HS := keepG (fun (wr : World) (hb : Below w.heap.size w wr) => hs.below hb (Nat.le_refl _))
  obtain ⟨a, cap, rfl, hlc, hmx, _⟩ := hs
  unfold maxLen at hmx
  go_enter Try.func21, Try.ntmps21
  go_wp2
  go_loopw [3] (fun i wr => ∃ j : Nat, j ≤ ws.length ∧ i = .int .i64 j ∧ Hid ((ws.take j).Nodup) ∧ Hid (Below w.heap.size w wr)) (fun i _ => ws.length - (intOf i).toNat)
  case atStart => exact ⟨0, by omega, rfl, by show List.Nodup _; simp, Below.refl _ _⟩
  case round =>
    obtain ⟨j, hj, rfl, HA, HB⟩ := hrel
    rename World => wr
    by_cases hlt : j < ws.length
    · have hltI : (j : Int) < ws.length := by omega
      have HT := keepG (nodup_take ws hlt)
      obtain ⟨x, HX⟩ : ∃ x, Hid (ws.getD j 0 = x) := ⟨_, rfl⟩
      rw [HX.out] at HT
      go_wp2
      go_loopw [4] (fun i wq => ∃ q : Nat, q ≤ j ∧ i = .int .i64 q ∧ Hid (¬ x ∈ ws.take q) ∧ Hid (Below w.heap.size w wq)) (fun i _ => j - (intOf i).toNat)
      case atStart => exact ⟨0, by omega, rfl, by show ¬ _; simp, HB.out⟩
      case round =>
        obtain ⟨q, hq, rfl, HNI, HBq⟩ := hrel
        rename World => wq
        by_cases hqj : q < j
        · have hqjI : (q : Int) < j := by omega
          have hql : q < ws.length := by omega
          have hqlI : (q : Int) < ws.length := by omega
          obtain ⟨p, off, ev, hat⟩ := (HS.out wq HBq.out).atE hlt
          subst ev
          have e0 := hat q hql
          have e1 := hat j hlt
          rw [HX.out] at e1
          obtain ⟨y, HYQ⟩ : ∃ y, Hid (ws.getD q 0 = y) := ⟨_, rfl⟩
          rw [HYQ.out] at e0
          clear hat
          have HBd := keepG (below_drG HBq.out)
          by_cases hyx : y = x
          · subst hyx
            have hmem : y ∈ ws.take j := by
              have h5 : y ∈ ws.take (q + 1) := by rw [take_at ws q hql, HYQ.out]; simp
              have h6 : ws.take (q + 1) = (ws.take j).take (q + 1) := by rw [List.take_take, Nat.min_eq_left (by omega)]
              rw [h6] at h5
              exact List.mem_of_mem_take h5
            have hr : r = false := by
              rw [← HR.out]
              refine decide_eq_false (nodup_no (j := j + 1) (fun e => ?_))
              exact (HT.out.1 e).2 hmem
            subst hr
            clear hmem HR
            go_wp2
            refine wp_region_held_drew (S := fun w' => w'.cell? ⟨p, off + q, none⟩ = some (.int .i64 y) ∧ w'.cell? ⟨p, off + j, none⟩ = some (.int .i64 y)) (by kernel_rfl) ⟨e0, e1⟩ (fun hHeld => ?_)
            refine tkGo [0, 1, 2, 3, 4, 5, 6, 7, 8] ?_
            repeat (refine tkOne (v := ?_) rfl (by kernel_rfl) (by kernel_rfl) (by kernel_rfl) (fun _ _ _ h => h) (by assumption) (by rfl) ?_ ?_; rotate_left; (intro wy hSw; (try dsimp only at hSw); go_simp; (first | done | with_reducible rfl)); try simp only [Act.put, List.getElem_toArray, List.getElem_cons_zero, List.getElem_cons_succ, List.setIfInBounds_toArray, List.set_cons_zero, List.set_cons_succ])
            refine tkEnd ?_
            refine wpAnyH_done (by kernel_rfl) ?_ _
            clear hHeld
            go_wp2
            go_ret
            exact ⟨rfl, HBd.out⟩
          · have hyb : (y == x) = false := by simpa using hyx
            have HNI2 := keepG (not_in_takeE hql HNI.out (by rw [HYQ.out]; exact hyx))
            go_wp2
            refine wp_region_held_drew (S := fun w' => w'.cell? ⟨p, off + q, none⟩ = some (.int .i64 y) ∧ w'.cell? ⟨p, off + j, none⟩ = some (.int .i64 x)) (by kernel_rfl) ⟨e0, e1⟩ (fun hHeld => ?_)
            refine tkGo [0, 1, 2, 3, 4, 5, 6, 7, 8] ?_
            repeat (refine tkOne (v := ?_) rfl (by kernel_rfl) (by kernel_rfl) (by kernel_rfl) (fun _ _ _ h => h) (by assumption) (by rfl) ?_ ?_; rotate_left; (intro wy hSw; (try dsimp only at hSw); go_simp; (first | done | with_reducible rfl)); try simp only [Act.put, List.getElem_toArray, List.getElem_cons_zero, List.getElem_cons_succ, List.setIfInBounds_toArray, List.set_cons_zero, List.set_cons_succ])
            refine tkEnd ?_
            refine wpAnyH_done (by kernel_rfl) ?_ _
            clear hHeld
            go_wp2
            go_roundw
            case rel => exact ⟨q + 1, by omega, by go_num, HNI2.out, HBd.out⟩
            case measure => simp [intOf]; omega
        · have hqjI : ¬ (q : Int) < j := by omega
          have hqe : q = j := by omega
          have hni := HNI.out
          rw [hqe] at hni
          have HT2 : Hid ((ws.take (j + 1)).Nodup) := HT.out.2 ⟨HA.out, hni⟩
          clear hqe hni
          go_wp2
          go_roundw
          case rel => exact ⟨j + 1, by omega, by go_num, HT2.out, HBq.out⟩
          case measure => simp [intOf]; omega
    · have hltI : ¬ (j : Int) < ws.length := by omega
      have hr : r = true := by
        rw [← HR.out]
        have := HA.out
        rw [List.take_of_length_le (by omega)] at this
        exact decide_eq_true this
      subst hr
      clear HR
      go_wp2
      go_ret
      exact ⟨rfl, HB.out⟩
/-- Where a program's hold stands. -/
def AtIs (L : List Hr) (p at' : Int) : Prop := (at' = -1 ∧ ∀ h ∈ L, h.p ≠ p) ∨ ∃ j : Nat, at' = j ∧ j < L.length ∧ (L.getD j Hr.nil).p = p
theorem take_atH (xs : List Hr) (k : Nat) (h : k < xs.length) : xs.take (k + 1) = xs.take k ++ [xs.getD k Hr.nil] := by
  rw [List.take_succ_eq_append_getElem h]; simp [List.getD, h]
theorem getD_memH (xs : List Hr) (k : Nat) (h : k < xs.length) : xs.getD k Hr.nil ∈ xs := by simp [List.getD, h]
set_option maxHeartbeats 1600000 in
theorem dat (h : Dh w B b v n L) (hl : L.length ≤ 1000000) (p : Int) : Calls Try.prog 13 #[.pointer (some ⟨b, 0, none⟩), .int .i64 p] w fun e w' => ∃ at', e = .returned (.int .i64 at') ∧ AtIs L p at' ∧ w = w' := by
  have c1 := h.hp.cell (j := 1) rfl
  have hs := own_seesG hrC_len Hr.nil h.row
  clear h
  obtain ⟨a, cap, rfl, hc, hm, _, hat⟩ := hs
  unfold maxLen at hm
  have HAT := keepG hat
  clear hat
  go_enter Try.func13, Try.ntmps13
  go_wp2
  go_loopw [5] (fun i wr => ∃ j : Nat, j ≤ L.length ∧ i = .int .i64 j ∧ Hid (∀ h ∈ L.take j, h.p ≠ p) ∧ w = wr) (fun i _ => L.length - (intOf i).toNat)
  case atStart => exact ⟨0, by omega, rfl, by intro h hh; simp at hh, rfl⟩
  case round =>
    obtain ⟨j, hj, rfl, HN, rfl⟩ := hrel
    by_cases hlt : j < L.length
    · have hltI : (j : Int) < L.length := by omega
      obtain ⟨g, off, rfl, hg, hat⟩ := HAT.out (fun e => by rw [e] at hlt; simp at hlt)
      have d0 := hat j hlt 0 (by omega)
      have HT := keepG (take_atH L j hlt)
      obtain ⟨s, HS⟩ : ∃ s, Hid (L.getD j Hr.nil = s) := ⟨_, rfl⟩
      rw [HS.out] at d0 HT
      simp only [List.getElem?_cons_zero, Nat.add_zero] at d0
      clear hat
      obtain ⟨sp, su, sm⟩ := s
      simp only at d0
      by_cases hk : sp = p
      · subst hk
        go_wp2
        go_ret
        exact ⟨_, rfl, .inr ⟨j, rfl, hlt, by rw [HS.out]⟩, rfl⟩
      · have hkb : (sp == p) = false := by simpa using hk
        go_wp2
        go_roundw
        case rel => exact ⟨j + 1, by omega, by go_num, by intro h hh; rw [HT.out] at hh; rcases List.mem_append.1 hh with e | e; exact HN.out h e; rw [List.mem_singleton.1 e]; exact hk, by first | rfl | trivial⟩
        case measure => simp [intOf]; omega
    · have hltI : ¬ (j : Int) < L.length := by omega
      have hn := HN.out
      rw [List.take_of_length_le (by omega)] at hn
      have HN2 := keepG hn
      clear hn
      go_wp2
      go_ret
      exact ⟨_, rfl, .inl ⟨rfl, HN2.out⟩, rfl⟩
end
end Go.Proofs.Ytonbaklbbmmljaa
