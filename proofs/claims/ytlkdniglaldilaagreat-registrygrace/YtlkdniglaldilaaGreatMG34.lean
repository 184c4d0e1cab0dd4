
/-
 The landed refs of layer 18: their memory (a map of slices behind a pointer); hasEach, holds, slices.Contains. Condition: they lie where the pointer says.
-/
import Derived.Test.YtlkdniglaldilaaGreatMG33
import Derived.Maps.RangeWalk
namespace Go.Proofs.YtlkdniglaldilaaGreat
open Go.RowKit
open Go.Maps (Keyed)
set_option linter.unusedVariables false
set_option linter.unusedSimpArgs false
set_option maxRecDepth 100000
def elV (v : Value) : Option (DataW Value × List MemPlace) := match v with
 | .slice a l c => some (.held (.slice a l c), [])
 | _ => none
theorem elV_mk (a : Option Addr) (l c : Nat) : elV (.slice a l c) = some (.held (.slice a l c), []) := rfl
theorem elV_inv {v : Value} {z : DataW Value × List MemPlace} (h : elV v = some z) : (∃ a l c, v = .slice a l c) /\ z.1 = .held v := by
 cases v <;> simp [elV] at h
 exact ⟨⟨_, _, _, rfl⟩, by rw [<- h]⟩
theorem elV_shape {v : Value} {z : DataW Value × List MemPlace} (h : elV v = some z) : ∃ c : Option Addr × Nat × Nat, v = .slice c.1 c.2.1 c.2.2 := by
 obtain ⟨⟨a, l, c, e⟩, _⟩ := elV_inv h
 exact ⟨(a, l, c), e⟩
theorem lawI : Keyed Tryz.prog 3 := Maps.int_keyed Tryz.underlying3
theorem keyI {p : Int} (h : (Lit.int .i64 p).wf = true) : keyOf Tryz.prog 3 (.int .i64 p) = some (.int .i64 p) := Maps.keyOf_int_mk Tryz.underlying3 h
theorem zeroE (w : World) : (zeroValue 32).run Tryz.prog w = .ok (.slice none 0 0) w := by kernel_rfl
theorem litI {p : Int} (h : (Lit.int .i64 p).wf = true) : WideAt.IsKeyLit (.int .i64 p) := lawI.key (keyI h)
theorem litNe {p q : Int} (h : p ≠ q) : (Lit.int .i64 p) ≠ .int .i64 q := fun e => h (by injection e)
theorem map_chg {H : Type} {P : Program} {k : TypeId} {R : Value -> Option (DataW H × List MemPlace)} {w w' : World} {b n : Nat} {D : DataW H} {S : Nat -> Prop} (h : w.ownsMap P k R b n D) (hc : Chg w w' S) (hS : ¬ S b) : w'.ownsMap P k R b n D := by
 have hlt := h.lt
 obtain ⟨es, clock, hb, r⟩ := h
 exact ⟨es, clock, (hc.block b hlt hS).trans hb, r⟩
theorem map_tight {H : Type} {P : Program} {k : TypeId} {R : Value -> Option (DataW H × List MemPlace)} {w : World} {b n : Nat} {D : DataW H} (h : w.ownsMap P k R b n D) : w.ownsMap P k R b (Maps.size D) D := by
 obtain ⟨es, clock, hb, F, hs, rfl⟩ := h
 exact ⟨es, clock, hb, F, by simp [Maps.size, length_sorted], rfl⟩
structure Lh (w : World) (b bm n : Nat) (D : DataW Value) (L : List Hr) : Prop where
 hp : Hp w b 92 [.int .i64 n, .map (some bm)]
 map : w.ownsMap Tryz.prog 3 elV bm L.length D
 has : ∀ p, Maps.has D (.int .i64 p) = true ↔ ∃ h ∈ L, h.p = p
 look : ∀ h ∈ L, ∀ z, D.atKey (.int .i64 h.p) z = .held h.u
 size : Maps.size D = L.length
 wf : ∀ h ∈ L, (Lit.int .i64 h.p).wf = true
 ins : Ins w L
 low : Apt (fun k => k = b ∨ k = bm) (inF L)
def ftL (b bm : Nat) (L : List Hr) : Ft := fun k => (k = b ∨ k = bm) ∨ inF L k
section
variable {w w' : World} {b bm n : Nat} {D : DataW Value} {L : List Hr}
theorem Lh.chg {S : Nat -> Prop} (h : Lh w b bm n D L) (hc : Chg w w' S) (ha : Apt S (ftL b bm L)) : Lh w' b bm n D L :=
 ⟨h.hp.chg hc (fun e => ha b e (.inl (.inl rfl))), map_chg h.map hc (fun e => ha bm e (.inl (.inr rfl))), h.has, h.look, h.size, h.wf, h.ins.chg hc (fun k e1 e2 => ha k e1 (.inr e2)), h.low⟩
theorem Lh.below (h : Lh w b bm n D L) (hb : Below w.heap.size w w') : Lh w' b bm n D L := h.chg (Chg.of_below (S := fun _ => False) hb) (fun _ e => e.elim)
theorem Lh.lies (h : Lh w b bm n D L) : Lies w (ftL b bm L) := fun k hk => by
 rcases hk with (e | e) | e
 ·rw [e]; exact h.hp.lt
 ·rw [e]; exact h.map.lt
 ·exact h.ins.lies k e
theorem Lh.apart (h : Lh w b bm n D L) : b ≠ bm := fun e => by
 obtain ⟨es, clock, hb, _⟩ := h.map
 have := h.hp
 unfold Hp at this
 rw [e, hb] at this
 cases this
theorem Lh.hasB (h : Lh w b bm n D L) {P : Rs_g} (hP : (L.map Hr.hm).Perm P) (p : Int) : Maps.has D (.int .i64 p) = P.has p := by
 rw [Bool.eq_iff_iff, h.has p, hm_has hP]
theorem inM_bad {n : Nat} {ws : List Int} {x : Int} (hm : x ∈ ws) (h : inM n x = false) : ws.all (inM n) = false := by
 cases hh : ws.all (inM n) with
 | false => rfl
 | true => rw [List.all_eq_true] at hh; rw [hh x hm] at h; cases h
def SeesW (w : World) (v : Value) (xs : List Int) : Prop := ∃ a cap, v = .slice a xs.length cap /\ xs.length <= cap /\ cap <= 9223372036854775807 /\ ∀ j, j < xs.length -> ∃ p off, a = some ⟨p, off, none⟩ /\ ∀ i, i < xs.length -> w.cell? ⟨p, off + i, none⟩ = some (.int .i64 (xs.getD i 0))
theorem Sees.weak {u : Value} {ws : List Int} (h : Sees .i64 w u ws) : SeesW w u ws := by
 have h0 := h
 obtain ⟨a, cap, rfl, hlc, hmx, _⟩ := h
 unfold maxLen at hmx
 exact ⟨a, cap, rfl, hlc, by omega, fun j hj => h0.atE hj⟩
theorem seesW_one (w : World) (x : Int) : SeesW (w.alloc (.cells #[.int .i64 x] 3)) (.slice (some ⟨w.heap.size, 0, none⟩) 1 1) [x] := by
 refine ⟨_, _, rfl, Nat.le_refl _, by omega, fun j hj => ⟨_, _, rfl, fun i hi => ?_⟩⟩
 obtain rfl : i = 0 := by simp at hi; omega
 exact (Hp.new w [.int .i64 x] 3).cell (j := 0) rfl
set_option maxHeartbeats 3200000 in
theorem lhasEach (c0 : w.cell? ⟨b, 0, none⟩ = some (.int .i64 n)) {u : Value} {ws : List Int} (hs : SeesW w u ws) {r : Bool} (HR : Hid (ws.all (inM n) = r)) : Calls Tryz.prog 32 #[.pointer (some ⟨b, 0, none⟩), u] w fun e w' => e = .returned (.bool r) /\ w = w' := by
 obtain ⟨a, cap, rfl, hlc, hmx, hat0⟩ := hs
 have HS := keepG hat0
 clear hat0
 go_enter Tryz.func32, Tryz.ntmps32
 go_wp2
 go_loopw [9] (fun i wr => ∃ j : Nat, j <= ws.length /\ i = .int .i64 j /\ Hid ((ws.take j).all (inM n) = true) /\ w = wr) (fun i _ => ws.length - (intOf i).toNat)
 case atStart => exact ⟨0, by omega, rfl, rfl, rfl⟩
 case round =>
  obtain ⟨j, hj, rfl, HA, rfl⟩ := hrel
  by_cases hlt : j < ws.length
  ·have hltI : (j : Int) < ws.length := by omega
   obtain ⟨p, off, ev, hat⟩ := HS.out j hlt
   subst ev
   have d0 := hat j hlt
   clear hat
   have HM := keepG (getD_mem ws j hlt)
   have HT := keepG (take_at ws j hlt)
   obtain ⟨x, HX⟩ : ∃ x, Hid (ws.getD j 0 = x) := ⟨_, rfl⟩
   rw [HX.out] at d0 HM HT
   by_cases h0 : x < 0
   ·obtain rfl : r = false := by
     rw [<- HR.out]
     exact inM_bad HM.out (by simp [inM]; omega)
    clear HR
    go_wp2
    go_ret
    exact ⟨rfl, rfl⟩
   ·have h0b : decide (x < 0) = false := by simpa using h0
    by_cases h1 : x < n
    ·have h1b : decide (x ≥ (n : Int)) = false := by simpa using h1
     have HA2 : Hid ((ws.take (j + 1)).all (inM n) = true) := by
      show _ = _
      rw [HT.out, List.all_append, HA.out]
      simp [inM]
      omega
     go_wp2
     go_roundw
     case rel => exact ⟨j + 1, by omega, by go_num, HA2.out, by first | rfl | trivial⟩
     case measure => simp [intOf]; omega
    ·have h1b : decide (x ≥ (n : Int)) = true := by simp; omega
     obtain rfl : r = false := by
      rw [<- HR.out]
      exact inM_bad HM.out (by simp [inM]; omega)
     clear HR
     go_wp2
     go_ret
     exact ⟨rfl, rfl⟩
  ·have hltI : ¬ (j : Int) < ws.length := by omega
   obtain rfl : r = true := by
    rw [<- HR.out, <- HA.out, List.take_of_length_le (by omega)]
   clear HR
   go_wp2
   go_ret
   exact ⟨rfl, rfl⟩
set_option maxHeartbeats 1600000 in
theorem lholds (h : Lh w b bm n D L) {p : Int} (hp : (Lit.int .i64 p).wf = true) {r : Bool} (HR : Hid (Maps.has D (.int .i64 p) = r)) : Calls Tryz.prog 43 #[.pointer (some ⟨b, 0, none⟩), .int .i64 p] w fun e w' => e = .returned (.bool r) /\ w = w' := by
 have c1 := h.hp.cell (j := 1) rfl
 have HM := keepG h.map
 have HK := keepG (keyI hp)
 clear h hp
 go_enter Tryz.func43, Tryz.ntmps43
 go_wp2_with (at_lookup; go_must (refine wpList_lookup_own_ok _ rfl _ _ 90 rfl 3 32 lawI Tryz.underlying90 elV (zeroE _) _ [] (elV_mk none 0 0) bm L.length D rfl HM.out _ _ rfl HK.out ?_); intro v ps hv; rw [HR.out])
 go_ret
 exact ⟨rfl, rfl⟩
set_option maxHeartbeats 3200000 in
theorem lindexI {u : Value} {ws : List Int} (hs : Sees .i64 w u ws) (x : Int) {r : Bool} (HR : Hid (decide (x ∈ ws) = r)) : Calls Tryz.prog 55 #[u, .int .i64 x] w fun e w' => ∃ k : Int, e = .returned (.int .i64 k) /\ Hid (decide (k ≥ 0) = r) /\ w = w' := by
  have HS := keepG hs
  obtain ⟨a, cap, rfl, hlc, hmx, _⟩ := hs
  unfold maxLen at hmx
  go_enter Tryz.func55, Tryz.ntmps55
  go_wp2
  go_loopw [8] (fun i wr => ∃ j : Nat, j <= ws.length /\ i = .int .i64 j /\ Hid (¬ x ∈ ws.take j) /\ w = wr) (fun i _ => ws.length - (intOf i).toNat)
  case atStart => exact ⟨0, by omega, rfl, by show ¬ _; simp, rfl⟩
  case round =>
    obtain ⟨j, hj, rfl, HA, rfl⟩ := hrel
    by_cases hlt : j < ws.length
    · have hltI : (j : Int) < ws.length := by omega
      obtain ⟨p, off, ev, hat⟩ := HS.out.atE hlt
      subst ev
      have d0 := hat j hlt
      clear hat
      have HM := keepG (getD_mem ws j hlt)
      obtain ⟨y, HX⟩ : ∃ y, Hid (ws.getD j 0 = y) := ⟨_, rfl⟩
      rw [HX.out] at d0 HM
      by_cases hx : y = x
      · have hxb : (x == y) = true := by simpa using hx.symm
        have HR2 : Hid (r = true) := by
          show _ = _
          rw [<- HR.out]
          exact decide_eq_true (by rw [<- hx]; exact HM.out)
        clear hx
        go_wp2
        go_ret
        exact ⟨_, rfl, (show decide _ = r by rw [HR2.out]; simp), rfl⟩
      · have hxb : (x == y) = false := by simpa using (fun e => hx e.symm)
        have HA2 := keepG (not_in_takeE hlt HA.out (by rw [HX.out]; exact hx))
        clear hx
        go_wp2
        first
          | (go_roundw
             case rel => exact ⟨j + 1, by omega, by go_num, HA2.out, by first | rfl | trivial⟩
             case measure => simp [intOf]; omega)
          | exact ⟨⟨j + 1, by omega, by go_num, HA2.out, trivial⟩, by simp [intOf]; omega⟩
          | exact ⟨⟨j + 1, by omega, by go_num, HA2.out, rfl⟩, by simp [intOf]; omega⟩
    · have hltI : ¬ (j : Int) < ws.length := by omega
      have HR2 : Hid (r = false) := by
        show _ = _
        rw [<- HR.out]
        have := HA.out
        rw [List.take_of_length_le (by omega)] at this
        exact decide_eq_false this
      go_wp2
      go_ret
      exact ⟨_, rfl, (show decide _ = r by rw [HR2.out]; simp), rfl⟩
theorem lcontI {u : Value} {ws : List Int} (hs : Sees .i64 w u ws) (x : Int) {r : Bool} (HR : Hid (decide (x ∈ ws) = r)) : Calls Tryz.prog 49 #[u, .int .i64 x] w fun e w' => e = .returned (.bool r) /\ w = w' := by
 have HS := keepG hs
 obtain ⟨a, cap, rfl, hlc, hmx, _⟩ := hs
 go_enter Tryz.func49, Tryz.ntmps49
 go_wp2_with (go_at_call 55; go_must (refine (lindexI HS.out x HR).mono ?_); rintro e w1 ⟨k, rfl, hk, rfl⟩)
 go_ret
 exact ⟨by rw [hk.out]; rfl, rfl⟩
end
end Go.Proofs.YtlkdniglaldilaaGreat
