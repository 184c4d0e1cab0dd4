/-
  O2Rights
  O2One
  F7Goes
  J9Wr
-/
import Derived.Test.YtkondcjmhlppiaaGreatMW0
import Derived.Test.YtkondcjmhlppiaaGreatMW22
import Derived.Test.YtkondcjmhlppiaaGreatMW5
import Derived.Deep.RegionHeld3
namespace Go.Proofs.YtkondcjmhlppiaaGreat
open Go.RowKit
set_option linter.unusedVariables false
set_option linter.unusedSimpArgs false
set_option maxRecDepth 100000 in
set_option maxHeartbeats 16000000 in
theorem rights_some (bk off cap : Nat) (xs : List In) (w : World) (hc : xs.length <= cap) (hm : cap <= maxLen) (hbk : bk < w.heap.size)
  (hat : ∀ k, k < xs.length -> At w bk (off + k * 5) (xs.getD k In.nil)) : Calls Tryz.prog 76 #[.slice (some ⟨bk, off, none⟩) xs.length cap] w fun e w' => e = .returned (.bool (xs.all In.right)) /\ Below w.heap.size w w' := by
 have hm : cap <= 9223372036854775807 := hm
 generalize hn : xs.length = n at *
 go_enter Tryz.func76, Tryz.ntmps76
 go_wp2_with fail
 go_loopw [8] (fun i wr => ∃ k : Nat, k <= n /\ i = .int .i64 k /\ (xs.take k).all In.right = true /\ Below w.heap.size w wr) (fun i _ => n - (intOf i).toNat)
 case atStart => exact ⟨0, by omega, rfl, rfl, Below.refl _ _⟩
 case round =>
  obtain ⟨k, hk, rfl, hall, hbe⟩ := hrel
  have hsz := hbe.size
  by_cases hlt : k < n
  ·obtain ⟨op, d, a, b, imm, HI⟩ : ∃ op d a b imm, Hid (xs.getD k In.nil = ⟨op, d, a, b, imm⟩) := ⟨_, _, _, _, _, rfl⟩
   have hcell := (hat k hlt).below hbe hbk
   rw [HI.out] at hcell
   obtain ⟨h0, h1, h2, h3, h4⟩ := hcell
   simp only at h0 h1 h2 h3 h4
   have HF : Hid (rightB op d a b imm = false -> xs.all In.right = false) := fun hr => all_false (xs := xs) (k := k) (by omega) (by rw [HI.out]; exact hr)
   have HT : Hid (rightB op d a b imm = true -> (xs.take (k + 1)).all In.right = true) := fun hr => by rw [all_take (xs := xs) (k := k) (by omega), hall, HI.out]; exact hr
   clear hat hall HI
   go_wp2_with (go_at_call 81; go_must (refine (shapeOf_any op _).mono ?_); rintro e w1 ⟨rfl, hb1⟩)
   have hz1 := hb1.size
   have hN4 : wr.heap.size < w1.heap.size := by simp at hz1; omega
   obtain ⟨c0, c1, c2, c3, c4⟩ := box_cell hb1
   have hB1 : Below w.heap.size w w1 := hbe.trans ((box_below hb1).mono hsz)
   clear h0 h1 h2 h3 h4 hb1 hz1
   generalize hs : shapeL op = s at *
   generalize hn4 : wr.heap.size = n4 at *
   generalize hW0 : w1.alloc _ = W0
   have HH : Held n4 w1.heap.size op d a b imm s W0 := by
    subst hW0
    simp [Held, World.cell?_alloc_past, hN4, c0, c1, c2, c3, c4]
   have hB0 : Below w.heap.size w W0 := by subst hW0; exact hB1.alloc (by omega) _
   have hz0 : W0.heap.size = w1.heap.size + 1 := by subst hW0; simp
   clear hW0 c0 c1 c2 c3 c4
   generalize hn5 : w1.heap.size = n5 at *
   clear hB1 hn4 hn5
   refine wp_region_held_drew (S := Held n4 n5 op d a b imm s) (by kernel_rfl) HH (fun hHeld => ?_)
   clear HH
   refine wpAnyH_take (i := 0) (v := s.v) rfl (by kernel_rfl) (by kernel_rfl) (by kernel_rfl) (fun _ _ _ h => h) (Or.inl ⟨by rfl, fun wy hSw => ?_⟩) (by assumption) ?_
   ·obtain ⟨⟨d0, d1, d2, d3, d4⟩, e0, e1, e2, e3, e4, e5, e6⟩ := hSw
    go_simp
   simp only [Act.put, p1q, p2q, p3q, p4q, p5q, p6q]
   refine wpAnyH_take (i := 1) (v := Shape.v ⟨false, false, false, 0, 0, 0, 0⟩) rfl (by kernel_rfl) (by kernel_rfl) (by kernel_rfl) (fun _ _ _ h => h) (Or.inl ⟨by rfl, fun wy hSw => ?_⟩) (by assumption) ?_
   ·obtain ⟨⟨d0, d1, d2, d3, d4⟩, e0, e1, e2, e3, e4, e5, e6⟩ := hSw
    go_simp
   simp only [Act.put, p1q, p2q, p3q, p4q, p5q, p6q]
   refine wpAnyH_take (i := 2) (v := .bool s.zero) rfl (by kernel_rfl) (by kernel_rfl) (by kernel_rfl) (fun _ _ _ h => h) (Or.inl ⟨by rfl, fun wy hSw => ?_⟩) (by assumption) ?_
   ·obtain ⟨⟨d0, d1, d2, d3, d4⟩, e0, e1, e2, e3, e4, e5, e6⟩ := hSw
    go_simp
    exact zero_run s (fun c => Result.ok (Next.value (Value.bool c)) wy)
   simp only [Act.put, p1q, p2q, p3q, p4q, p5q, p6q]
   refine wpAnyH_take (i := 3) (v := .bool s.zero) rfl (by kernel_rfl) (by kernel_rfl) (by kernel_rfl) (fun _ _ _ h => h) (Or.inl ⟨by rfl, fun wy hSw => ?_⟩) (by assumption) ?_
   ·obtain ⟨⟨d0, d1, d2, d3, d4⟩, e0, e1, e2, e3, e4, e5, e6⟩ := hSw
    go_simp
   simp only [Act.put, p1q, p2q, p3q, p4q, p5q, p6q]
   cases hz : s.zero
   ·have ho := zero_op (hs ▸ hz)
    refine wpAnyH_take (i := 4) (v := instV op d a b imm) rfl (by kernel_rfl) (by kernel_rfl) (by kernel_rfl) (fun _ _ _ h => h) (Or.inl ⟨by rfl, fun wy hSw => ?_⟩) (by assumption) ?_
    ·obtain ⟨⟨d0, d1, d2, d3, d4⟩, e0, e1, e2, e3, e4, e5, e6⟩ := hSw
     go_simp
    simp only [Act.put, p1q, p2q, p3q, p4q, p5q, p6q]
    refine wpAnyH_take (i := 5) (v := s.v) rfl (by kernel_rfl) (by kernel_rfl) (by kernel_rfl) (fun _ _ _ h => h) (Or.inl ⟨by rfl, fun wy hSw => ?_⟩) (by assumption) ?_
    ·obtain ⟨⟨d0, d1, d2, d3, d4⟩, e0, e1, e2, e3, e4, e5, e6⟩ := hSw
     go_simp
    simp only [Act.put, p1q, p2q, p3q, p4q, p5q, p6q]
    refine wpAnyH_take (i := 6) (v := instV op d a b imm) rfl (by kernel_rfl) (by kernel_rfl) (by kernel_rfl) (fun _ _ _ h => h) (Or.inl ⟨by rfl, fun wy hSw => ?_⟩) (by assumption) ?_
    ·obtain ⟨⟨d0, d1, d2, d3, d4⟩, e0, e1, e2, e3, e4, e5, e6⟩ := hSw
     go_simp
    simp only [Act.put, p1q, p2q, p3q, p4q, p5q, p6q]
    refine wpAnyH_ready (rs := [7]) (by kernel_rfl) (by simp) ?_
    refine AllReadyH.cons rfl (fun K hK => ?_) AllReadyH.nil
    rw [if_pos (by rfl)]
    go_simp
    go_at_call 96
    have hcon := named_any op d a b imm W0.drew ho
    rw [hs] at hcon
    refine hcon.mono ?_
    clear hcon
    rintro e wN ⟨⟨jo, jd, ja, jb, ji⟩, rfl, hbN, hrt⟩
    have HR : Hid (rightB op d a b imm = _) := hrt
    clear hrt
    have hbN := (Below.refl W0.heap.size W0).drew.trans hbN
    have hBN := hB0.trans (hbN.mono (by omega))
    have hzN := hbN.size
    have hHeld : Held n4 n5 op d a b imm s W0 := hHeld
    refine hK.out _ _ (Held.below hHeld hbN (by omega) (by omega)) (fun hHeld => ?_)
    clear hK hbN
    try simp only [Act.put, p1q, p2q, p3q, p4q, p5q, p6q]
    refine wpAnyH_take (i := 8) (v := .bool (neI ⟨op, d, a, b, imm⟩ ⟨jo, jd, ja, jb, ji⟩)) rfl (by kernel_rfl) (by kernel_rfl) (by kernel_rfl) (fun _ _ _ h => h) (Or.inl ⟨by rfl, fun wy hSw => ?_⟩) (by assumption) ?_
    ·obtain ⟨⟨d0, d1, d2, d3, d4⟩, e0, e1, e2, e3, e4, e5, e6⟩ := hSw
     go_simp
     exact ne_run ⟨op, d, a, b, imm⟩ ⟨jo, jd, ja, jb, ji⟩ (fun c => Result.ok (Next.value (Value.bool c)) wy)
    simp only [Act.put, p1q, p2q, p3q, p4q, p5q, p6q]
    refine wpAnyH_take (i := 9) (v := .bool (neI ⟨op, d, a, b, imm⟩ ⟨jo, jd, ja, jb, ji⟩)) rfl (by kernel_rfl) (by kernel_rfl) (by kernel_rfl) (fun _ _ _ h => h) (Or.inl ⟨by rfl, fun wy hSw => ?_⟩) (by assumption) ?_
    ·obtain ⟨⟨d0, d1, d2, d3, d4⟩, e0, e1, e2, e3, e4, e5, e6⟩ := hSw
     go_simp
    simp only [Act.put, p1q, p2q, p3q, p4q, p5q, p6q]
    refine wpAnyH_take (i := 10) (v := .bool (neI ⟨op, d, a, b, imm⟩ ⟨jo, jd, ja, jb, ji⟩)) rfl (by kernel_rfl) (by kernel_rfl) (by kernel_rfl) (fun _ _ _ h => h) (Or.inl ⟨by rfl, fun wy hSw => ?_⟩) (by assumption) ?_
    ·obtain ⟨⟨d0, d1, d2, d3, d4⟩, e0, e1, e2, e3, e4, e5, e6⟩ := hSw
     go_simp
    simp only [Act.put, p1q, p2q, p3q, p4q, p5q, p6q]
    cases hne : neI ⟨op, d, a, b, imm⟩ ⟨jo, jd, ja, jb, ji⟩
    ·rw [hne] at HR
     refine wpAnyH_take (i := 11) (v := s.v) rfl (by kernel_rfl) (by kernel_rfl) (by kernel_rfl) (fun _ _ _ h => h) (Or.inl ⟨by rfl, fun wy hSw => ?_⟩) (by assumption) ?_
     ·obtain ⟨⟨d0, d1, d2, d3, d4⟩, e0, e1, e2, e3, e4, e5, e6⟩ := hSw
      go_simp
     simp only [Act.put, p1q, p2q, p3q, p4q, p5q, p6q]
     refine wpAnyH_take (i := 12) (v := instV op d a b imm) rfl (by kernel_rfl) (by kernel_rfl) (by kernel_rfl) (fun _ _ _ h => h) (Or.inl ⟨by rfl, fun wy hSw => ?_⟩) (by assumption) ?_
     ·obtain ⟨⟨d0, d1, d2, d3, d4⟩, e0, e1, e2, e3, e4, e5, e6⟩ := hSw
      go_simp
     simp only [Act.put, p1q, p2q, p3q, p4q, p5q, p6q]
     refine wpAnyH_ready (rs := [13]) (by kernel_rfl) (by simp) ?_
     refine AllReadyH.cons rfl (fun K hK => ?_) AllReadyH.nil
     rw [if_pos (by rfl)]
     go_simp
     go_at_call 97
     refine (fits_any s op d a b imm wN).mono ?_
     rintro e wF ⟨rfl, hbF⟩
     have hBF := hBN.trans (hbF.mono (by omega))
     refine hK.out _ _ (Held.below hHeld hbF (by omega) (by omega)) (fun hHeld => ?_)
     clear hK hbF
     try simp only [Act.put, p1q, p2q, p3q, p4q, p5q, p6q]
     refine wpAnyH_take (i := 14) (v := .bool (!fitsB s.dest s.source s.farL s.farM s.immL s.immM d a b imm)) rfl (by kernel_rfl) (by kernel_rfl) (by kernel_rfl) (fun _ _ _ h => h) (Or.inl ⟨by rfl, fun wy hSw => ?_⟩) (by assumption) ?_
     ·obtain ⟨⟨d0, d1, d2, d3, d4⟩, e0, e1, e2, e3, e4, e5, e6⟩ := hSw
      go_simp
     simp only [Act.put, p1q, p2q, p3q, p4q, p5q, p6q]
     refine wpAnyH_take (i := 15) (v := .bool (!fitsB s.dest s.source s.farL s.farM s.immL s.immM d a b imm)) rfl (by kernel_rfl) (by kernel_rfl) (by kernel_rfl) (fun _ _ _ h => h) (Or.inl ⟨by rfl, fun wy hSw => ?_⟩) (by assumption) ?_
     ·obtain ⟨⟨d0, d1, d2, d3, d4⟩, e0, e1, e2, e3, e4, e5, e6⟩ := hSw
      go_simp
     simp only [Act.put, p1q, p2q, p3q, p4q, p5q, p6q]
     refine wpAnyH_done (by kernel_rfl) ?_ _
     clear hHeld
     cases hfit : fitsB s.dest s.source s.farL s.farM s.immL s.immM d a b imm
     ·rw [hfit] at HR
      go_wp2
      go_ret
      exact ⟨r2b (HF.out HR.out).symm, hBF⟩
     ·rw [hfit] at HR
      go_wp2
      go_roundw
      case rel => exact ⟨k + 1, by omega, by go_num, HT.out HR.out, hBF⟩
      case measure => simp [intOf]; omega
    ·rw [hne] at HR
     refine wpAnyH_take (i := 11) (v := undef) rfl (by kernel_rfl) (by kernel_rfl) (by kernel_rfl) (fun _ _ _ h => h) (Or.inr ⟨by rfl, rfl⟩) (by assumption) ?_
     simp only [Act.put, p1q, p2q, p3q, p4q, p5q, p6q]
     refine wpAnyH_take (i := 12) (v := undef) rfl (by kernel_rfl) (by kernel_rfl) (by kernel_rfl) (fun _ _ _ h => h) (Or.inr ⟨by rfl, rfl⟩) (by assumption) ?_
     simp only [Act.put, p1q, p2q, p3q, p4q, p5q, p6q]
     refine wpAnyH_take (i := 13) (v := undef) rfl (by kernel_rfl) (by kernel_rfl) (by kernel_rfl) (fun _ _ _ h => h) (Or.inr ⟨by rfl, rfl⟩) (by assumption) ?_
     simp only [Act.put, p1q, p2q, p3q, p4q, p5q, p6q]
     refine wpAnyH_take (i := 14) (v := undef) rfl (by kernel_rfl) (by kernel_rfl) (by kernel_rfl) (fun _ _ _ h => h) (Or.inr ⟨by rfl, rfl⟩) (by assumption) ?_
     simp only [Act.put, p1q, p2q, p3q, p4q, p5q, p6q]
     refine wpAnyH_take (i := 15) (v := .bool true) rfl (by kernel_rfl) (by kernel_rfl) (by kernel_rfl) (fun _ _ _ h => h) (Or.inl ⟨by rfl, fun wy hSw => ?_⟩) (by assumption) ?_
     ·obtain ⟨⟨d0, d1, d2, d3, d4⟩, e0, e1, e2, e3, e4, e5, e6⟩ := hSw
      go_simp
     simp only [Act.put, p1q, p2q, p3q, p4q, p5q, p6q]
     refine wpAnyH_done (by kernel_rfl) ?_ _
     clear hHeld
     go_wp2
     go_ret
     exact ⟨r2b (HF.out HR.out).symm, hBN⟩
   ·have HR : Hid (rightB op d a b imm = false) := zero_right (hs ▸ hz)
    refine wpAnyH_take (i := 4) (v := undef) rfl (by kernel_rfl) (by kernel_rfl) (by kernel_rfl) (fun _ _ _ h => h) (Or.inr ⟨by rfl, rfl⟩) (by assumption) ?_
    simp only [Act.put, p1q, p2q, p3q, p4q, p5q, p6q]
    refine wpAnyH_take (i := 5) (v := undef) rfl (by kernel_rfl) (by kernel_rfl) (by kernel_rfl) (fun _ _ _ h => h) (Or.inr ⟨by rfl, rfl⟩) (by assumption) ?_
    simp only [Act.put, p1q, p2q, p3q, p4q, p5q, p6q]
    refine wpAnyH_take (i := 6) (v := undef) rfl (by kernel_rfl) (by kernel_rfl) (by kernel_rfl) (fun _ _ _ h => h) (Or.inr ⟨by rfl, rfl⟩) (by assumption) ?_
    simp only [Act.put, p1q, p2q, p3q, p4q, p5q, p6q]
    refine wpAnyH_take (i := 7) (v := undef) rfl (by kernel_rfl) (by kernel_rfl) (by kernel_rfl) (fun _ _ _ h => h) (Or.inr ⟨by rfl, rfl⟩) (by assumption) ?_
    simp only [Act.put, p1q, p2q, p3q, p4q, p5q, p6q]
    refine wpAnyH_take (i := 8) (v := undef) rfl (by kernel_rfl) (by kernel_rfl) (by kernel_rfl) (fun _ _ _ h => h) (Or.inr ⟨by rfl, rfl⟩) (by assumption) ?_
    simp only [Act.put, p1q, p2q, p3q, p4q, p5q, p6q]
    refine wpAnyH_take (i := 9) (v := .bool true) rfl (by kernel_rfl) (by kernel_rfl) (by kernel_rfl) (fun _ _ _ h => h) (Or.inl ⟨by rfl, fun wy hSw => ?_⟩) (by assumption) ?_
    ·obtain ⟨⟨d0, d1, d2, d3, d4⟩, e0, e1, e2, e3, e4, e5, e6⟩ := hSw
     go_simp
    simp only [Act.put, p1q, p2q, p3q, p4q, p5q, p6q]
    refine wpAnyH_take (i := 10) (v := .bool true) rfl (by kernel_rfl) (by kernel_rfl) (by kernel_rfl) (fun _ _ _ h => h) (Or.inl ⟨by rfl, fun wy hSw => ?_⟩) (by assumption) ?_
    ·obtain ⟨⟨d0, d1, d2, d3, d4⟩, e0, e1, e2, e3, e4, e5, e6⟩ := hSw
     go_simp
    simp only [Act.put, p1q, p2q, p3q, p4q, p5q, p6q]
    refine wpAnyH_take (i := 11) (v := undef) rfl (by kernel_rfl) (by kernel_rfl) (by kernel_rfl) (fun _ _ _ h => h) (Or.inr ⟨by rfl, rfl⟩) (by assumption) ?_
    simp only [Act.put, p1q, p2q, p3q, p4q, p5q, p6q]
    refine wpAnyH_take (i := 12) (v := undef) rfl (by kernel_rfl) (by kernel_rfl) (by kernel_rfl) (fun _ _ _ h => h) (Or.inr ⟨by rfl, rfl⟩) (by assumption) ?_
    simp only [Act.put, p1q, p2q, p3q, p4q, p5q, p6q]
    refine wpAnyH_take (i := 13) (v := undef) rfl (by kernel_rfl) (by kernel_rfl) (by kernel_rfl) (fun _ _ _ h => h) (Or.inr ⟨by rfl, rfl⟩) (by assumption) ?_
    simp only [Act.put, p1q, p2q, p3q, p4q, p5q, p6q]
    refine wpAnyH_take (i := 14) (v := undef) rfl (by kernel_rfl) (by kernel_rfl) (by kernel_rfl) (fun _ _ _ h => h) (Or.inr ⟨by rfl, rfl⟩) (by assumption) ?_
    simp only [Act.put, p1q, p2q, p3q, p4q, p5q, p6q]
    refine wpAnyH_take (i := 15) (v := .bool true) rfl (by kernel_rfl) (by kernel_rfl) (by kernel_rfl) (fun _ _ _ h => h) (Or.inl ⟨by rfl, fun wy hSw => ?_⟩) (by assumption) ?_
    ·obtain ⟨⟨d0, d1, d2, d3, d4⟩, e0, e1, e2, e3, e4, e5, e6⟩ := hSw
     go_simp
    simp only [Act.put, p1q, p2q, p3q, p4q, p5q, p6q]
    refine wpAnyH_done (by kernel_rfl) ?_ _
    clear hHeld
    go_wp2
    go_ret
    exact ⟨r2b (HF.out HR.out).symm, hB0.drew⟩
  ·obtain rfl : k = n := by omega
   have HT : Hid (xs.all In.right = true) := by show _ = _; rw [<- hall, <- hn, List.take_length]
   clear hall hat
   go_wp2
   go_ret
   exact ⟨r2b HT.out.symm, hbe⟩
theorem box_size {w w1 : World} {o : Obj} (h : Below (w.alloc o).heap.size (w.alloc o) w1) : w.heap.size < w1.heap.size := by
 have h1 := h.size
 rw [World.size_alloc] at h1
 omega
theorem right_one (op d a b imm : Int) (w : World) (n : Nat) (hn : n = w.heap.size) : Calls Tryz.prog 76 #[.slice (some ⟨n, 0, none⟩) 1 1] (w.alloc (instO op d a b imm)) fun e w' => e = .returned (.bool (rightB op d a b imm)) /\ Below w.heap.size w w' := by
 subst hn
 refine (rights_some w.heap.size 0 1 [⟨op, d, a, b, imm⟩] (w.alloc (instO op d a b imm)) (by simp) (by unfold maxLen; omega) (by simp) ?_).mono ?_
 ·intro k hk
  obtain rfl : k = 0 := by simp at hk; exact hk
  simp [At]
 ·rintro e w' ⟨rfl, hb⟩
  exact ⟨r2b (by simp [In.right]), box_below hb⟩
theorem ret3ibb {a a' : Int} {b b' c c' : Bool} (h1 : a = a') (h2 : b = b') (h3 : c = c') : Ending.returned (.tuple #[.int .i64 a, .bool b, .bool c]) = .returned (.tuple #[.int .i64 a', .bool b', .bool c']) := by rw [h1, h2, h3]

set_option maxHeartbeats 3200000 in
theorem ogoes_any (op d a b imm : Int) (w : World) : Calls Tryz.prog 58 #[instV op d a b imm] w fun e w' => e = .returned (.tuple #[.int .i64 (goesL op d a b imm).1, .bool (goesL op d a b imm).2.1, .bool (goesL op d a b imm).2.2]) /\ Below w.heap.size w w' := by
 cases hr : rightB op d a b imm
 ·have HE : Hid (goesL op d a b imm = (0, false, false)) := by show _ = _; unfold goesL; rw [if_pos hr]
  go_enter Tryz.func58, Tryz.ntmps58
  go_wp2_with (go_at_call 76; go_must (refine (right_one op d a b imm _ _ (by simp)).mono ?_); rintro e w1 ⟨rfl, hb1⟩; go_must (have hB := box_below hb1; obtain ⟨c0, c1, c2, c3, c4⟩ := box_cell hb1; clear hb1))
  go_ret3
  exact ⟨ret3ibb (by rw [HE.out]) (by rw [HE.out]) (by rw [HE.out]), hB⟩
 by_cases h15 : 15 <= op /\ op <= 20
 ·have hd := right_far hr h15
  have hc : op = 15 ∨ op = 16 ∨ op = 17 ∨ op = 18 ∨ op = 19 ∨ op = 20 := by omega
  clear h15
  rcases hc with rfl | rfl | rfl | rfl | rfl | rfl

  ·have HE : Hid (goesL 15 d a b imm = (d + 1, true, false)) := by show _ = _; unfold goesL; rw [hr]; rfl
   go_enter Tryz.func58, Tryz.ntmps58
   go_wp2_with (go_at_call 76; go_must (refine (right_one 15 d a b imm _ _ (by simp)).mono ?_); rintro e w1 ⟨rfl, hb1⟩; go_must (have hB := box_below hb1; obtain ⟨c0, c1, c2, c3, c4⟩ := box_cell hb1; clear hb1))
   go_ret3
   exact ⟨ret3ibb (by rw [HE.out]) (by rw [HE.out]) (by rw [HE.out]), hB⟩
  ·have HE : Hid (goesL 16 d a b imm = (d + 1, true, true)) := by show _ = _; unfold goesL; rw [hr]; rfl
   go_enter Tryz.func58, Tryz.ntmps58
   go_wp2_with (go_at_call 76; go_must (refine (right_one 16 d a b imm _ _ (by simp)).mono ?_); rintro e w1 ⟨rfl, hb1⟩; go_must (have hB := box_below hb1; obtain ⟨c0, c1, c2, c3, c4⟩ := box_cell hb1; clear hb1))
   go_ret3
   exact ⟨ret3ibb (by rw [HE.out]) (by rw [HE.out]) (by rw [HE.out]), hB⟩
  ·have HE : Hid (goesL 17 d a b imm = (d + 1, true, true)) := by show _ = _; unfold goesL; rw [hr]; rfl
   go_enter Tryz.func58, Tryz.ntmps58
   go_wp2_with (go_at_call 76; go_must (refine (right_one 17 d a b imm _ _ (by simp)).mono ?_); rintro e w1 ⟨rfl, hb1⟩; go_must (have hB := box_below hb1; obtain ⟨c0, c1, c2, c3, c4⟩ := box_cell hb1; clear hb1))
   go_ret3
   exact ⟨ret3ibb (by rw [HE.out]) (by rw [HE.out]) (by rw [HE.out]), hB⟩
  ·have HE : Hid (goesL 18 d a b imm = (d + 1, true, true)) := by show _ = _; unfold goesL; rw [hr]; rfl
   go_enter Tryz.func58, Tryz.ntmps58
   go_wp2_with (go_at_call 76; go_must (refine (right_one 18 d a b imm _ _ (by simp)).mono ?_); rintro e w1 ⟨rfl, hb1⟩; go_must (have hB := box_below hb1; obtain ⟨c0, c1, c2, c3, c4⟩ := box_cell hb1; clear hb1))
   go_ret3
   exact ⟨ret3ibb (by rw [HE.out]) (by rw [HE.out]) (by rw [HE.out]), hB⟩
  ·have HE : Hid (goesL 19 d a b imm = (d + 1, true, true)) := by show _ = _; unfold goesL; rw [hr]; rfl
   go_enter Tryz.func58, Tryz.ntmps58
   go_wp2_with (go_at_call 76; go_must (refine (right_one 19 d a b imm _ _ (by simp)).mono ?_); rintro e w1 ⟨rfl, hb1⟩; go_must (have hB := box_below hb1; obtain ⟨c0, c1, c2, c3, c4⟩ := box_cell hb1; clear hb1))
   go_ret3
   exact ⟨ret3ibb (by rw [HE.out]) (by rw [HE.out]) (by rw [HE.out]), hB⟩
  ·have HE : Hid (goesL 20 d a b imm = (-d, true, true)) := by show _ = _; unfold goesL; rw [hr]; rfl
   go_enter Tryz.func58, Tryz.ntmps58
   go_wp2_with (go_at_call 76; go_must (refine (right_one 20 d a b imm _ _ (by simp)).mono ?_); rintro e w1 ⟨rfl, hb1⟩; go_must (have hB := box_below hb1; obtain ⟨c0, c1, c2, c3, c4⟩ := box_cell hb1; clear hb1))
   go_ret3
   exact ⟨ret3ibb (by rw [HE.out]) (by rw [HE.out]) (by rw [HE.out]), hB⟩
 ·have HE : Hid (goesL op d a b imm = (0, false, op != 22)) := by
   show _ = _; unfold goesL; rw [if_neg (by simp [hr]), if_neg (by omega), if_neg (by omega), if_neg (by omega)]
  have h16 : (op == 16) = false := by simp; omega
  have h17 : (op == 17) = false := by simp; omega
  have h18 : (op == 18) = false := by simp; omega
  have h19 : (op == 19) = false := by simp; omega
  have h20 : (op == 20) = false := by simp; omega
  have h15b : (op == 15) = false := by simp; omega
  clear h15
  go_enter Tryz.func58, Tryz.ntmps58
  go_wp2_with (go_at_call 76; go_must (refine (right_one op d a b imm _ _ (by simp)).mono ?_); rintro e w1 ⟨rfl, hb1⟩; go_must (have hB := box_below hb1; obtain ⟨c0, c1, c2, c3, c4⟩ := box_cell hb1; clear hb1))
  go_region
  go_wp2
  go_ret3
  exact ⟨ret3ibb (by rw [HE.out]) (by rw [HE.out]) (by rw [HE.out]), hB.drew⟩
theorem shapeOf_laid (op : Int) (w : World) : Calls Tryz.prog 81 #[.int .i64 op] w fun e w' => e = .returned (.agg #[.bool (shapeL op).dest, .bool (shapeL op).first, .bool (shapeL op).source, .int .i64 (shapeL op).farL, .int .i64 (shapeL op).farM, .int .i64 (shapeL op).immL, .int .i64 (shapeL op).immM]) /\ Below w.heap.size w w' := shapeOf_any op w
theorem field_dest (op : Int) : ∀ w : World, (Instr.field 182 (.agg #[.bool (shapeL op).dest, .bool (shapeL op).first, .bool (shapeL op).source, .int .i64 (shapeL op).farL, .int .i64 (shapeL op).farM, .int .i64 (shapeL op).immL, .int .i64 (shapeL op).immM]) 0).run Tryz.prog w = .ok (.bool (shapeL op).dest) w := fun _ => by kernel_rfl
theorem dest_shape {op : Int} (ho : 0 <= op /\ op <= 22) : (shapeL op).dest = (decide (op <= 11) || (op == 13 || op == 14)) := by
 rcases cases_op ho with hop | hop | rfl | rfl | rfl | rfl | hop | rfl | rfl | rfl
 ·rw [shape_A hop]; simp; omega
 ·rw [shape_B hop]; simp; omega
 ·rfl
 ·rfl
 ·rfl
 ·rfl
 ·rw [shape_G hop]; simp; omega
 ·rfl
 ·rfl
 ·rfl
set_option maxHeartbeats 800000 in
theorem owrites_any (op d a b imm : Int) (w : World) : Calls Tryz.prog 52 #[instV op d a b imm] w fun e w' => e = .returned (.tuple #[.int .i64 (writesL op d a b imm).1, .bool (writesL op d a b imm).2]) /\ Below w.heap.size w w' := by
 cases hr : rightB op d a b imm
 ·have HE : Hid (writesL op d a b imm = (0, false)) := by show _ = _; unfold writesL; rw [if_pos hr]
  go_enter Tryz.func52, Tryz.ntmps52
  go_wp2_with (go_at_call 76; go_must (refine (right_one op d a b imm _ _ (by simp)).mono ?_); rintro e w1 ⟨rfl, hb1⟩; have hB := box_below hb1; clear hb1)
  go_ret2
  exact ⟨ret2ib (by rw [HE.out]) (by rw [HE.out]), hB⟩
 ·have ho := right_op hr
  have hds := dest_shape ho
  cases hd : (shapeL op).dest
  ·have HE : Hid (writesL op d a b imm = (0, op == 21)) := by
    show _ = _; unfold writesL; rw [hd] at hds; simp at hds; rw [if_neg (by simp [hr]), if_neg (by omega)]
   clear hds
   have hfd := field_dest op
   rw [hd] at hfd
   go_enter Tryz.func52, Tryz.ntmps52
   go_wp2_with (first
    | (go_at_call 76; go_must (refine (right_one op d a b imm _ _ (by simp)).mono ?_); rintro e w1 ⟨rfl, hb1⟩; go_must (have hB := box_below hb1; obtain ⟨c0, c1, c2, c3, c4⟩ := box_cell hb1; have hz1 := box_size hb1; clear hb1))
    | (go_at_call 81; go_must (refine (shapeOf_laid op _).mono ?_); rintro e w2 ⟨rfl, hb2⟩; go_must (have hB2 := hB.trans (hb2.mono hB.size); rw [<- hb2.cell (by exact hz1)] at c0 c1 c2 c3 c4; clear hb2)))
   go_region
   go_wp2
   go_ret2
   exact ⟨ret2ib (by rw [HE.out]) (by rw [HE.out]), hB2.drew⟩
  ·have HE : Hid (writesL op d a b imm = (d, true)) := by
    show _ = _; unfold writesL; rw [hd] at hds; simp at hds; rw [if_neg (by simp [hr]), if_pos (by omega)]
   clear hds
   have hfd := field_dest op
   rw [hd] at hfd
   go_enter Tryz.func52, Tryz.ntmps52
   go_wp2_with (first
    | (go_at_call 76; go_must (refine (right_one op d a b imm _ _ (by simp)).mono ?_); rintro e w1 ⟨rfl, hb1⟩; go_must (have hB := box_below hb1; obtain ⟨c0, c1, c2, c3, c4⟩ := box_cell hb1; have hz1 := box_size hb1; clear hb1))
    | (go_at_call 81; go_must (refine (shapeOf_laid op _).mono ?_); rintro e w2 ⟨rfl, hb2⟩; go_must (have hB2 := hB.trans (hb2.mono hB.size); rw [<- hb2.cell (by exact hz1)] at c0 c1 c2 c3 c4; clear hb2)))
   go_ret2
   exact ⟨ret2ib (by rw [HE.out]) (by rw [HE.out]), hB2⟩
end Go.Proofs.YtkondcjmhlppiaaGreat
