/-
  The law OpsRight, walked: it answers true. Conditions: the package-level variable 'names' reads as it is laid; the slice is no greater than a slice may be.
-/
import Derived.Test.YtheapkigeknjlaaDoorO2Awake
import Derived.Test.YtheapkigeknjlaaDoorO2Slices
import Derived.Deep.RegionHeld3
namespace Go.Proofs.YtheapkigeknjlaaDoor
open Go.RowKit
set_option linter.unusedVariables false
set_option linter.unusedSimpArgs false

theorem Tryd.infoInst : (Tryd.prog.info? 34).map (fun i => (i.zero, i.size, i.bytes)) = some (some (instV 0 0 0 0 0), 5, 40) := by kernel_rfl

theorem right_one_drew (op d a b imm : Int) (w : World) (n : Nat) (hn : n = w.heap.size) : Calls Tryd.prog 14 #[.slice (some ⟨n, 0, none⟩) 1 1] (w.alloc (instO op d a b imm)).drew fun e w' => e = .returned (.bool (rightB op d a b imm)) ∧ Below w.heap.size w w' := by
  subst hn
  refine (rights_some w.heap.size 0 1 [⟨op, d, a, b, imm⟩] (w.alloc (instO op d a b imm)).drew (by simp) (by unfold maxLen; omega) (by simp) ?_).mono ?_
  · intro k hk
    obtain rfl : k = 0 := by simp at hk; exact hk
    simp [At]
  · rintro e w' ⟨rfl, hb⟩
    refine ⟨r2b (by simp [In.right]), ?_⟩
    have h1 : Below w.heap.size w (w.alloc (instO op d a b imm)).drew := ((Below.refl _ _).alloc (Nat.le_refl _) _).drew
    exact h1.trans (hb.mono h1.size)

set_option maxRecDepth 100000 in
set_option maxHeartbeats 4000000 in
theorem right_walk_some (bk off cap : Nat) (xs : List In) (w : World) (h : Named w) (hc : xs.length ≤ cap) (hm : cap ≤ 9223372036854775807) (hbk : bk < w.heap.size) (hbytes : xs.length * 40 ≤ 140737488355328)
    (hat : ∀ k, k < xs.length → At w bk (off + k * 5) (xs.getD k In.nil)) : Calls Tryd.prog 4 #[.slice (some ⟨bk, off, none⟩) xs.length cap] w fun e w' => e = .returned (.bool true) ∧ Below w.heap.size w w' := by
  have HN : Hid (Named w) := h
  have HS : Hid (SeesI w (.slice (some ⟨bk, off, none⟩) xs.length cap) xs) := ⟨_, cap, rfl, hc, by unfold maxLen; omega, fun h => by simp at h, fun _ => ⟨bk, off, rfl, hbk, hat⟩⟩
  have HA : Hid (∀ k, k < xs.length → At w bk (off + k * 5) (xs.getD k In.nil)) := hat
  obtain ⟨i0, hi, hz0, hz1, hz2⟩ := info_parts Tryd.infoInst
  clear h hat
  obtain ⟨n, hn⟩ : ∃ n, n = xs.length := ⟨_, rfl⟩
  rw [← hn] at hc hbytes ⊢
  go_enter Tryd.func4, Tryd.ntmps4
  go_wp2_with (go_at_call 8; go_must (refine (awake_any _ HN.out).mono ?_); rintro e w1 ⟨rfl, hB1⟩)
  go_loopw [3, 4] (fun t i wr => ∃ k : Nat, k ≤ n ∧ i = .int .i64 k ∧ t = .bool ((xs.take k).all In.right) ∧ Below w.heap.size w wr) (fun _ i _ => n - (intOf i).toNat)
  case atStart => exact ⟨0, by omega, rfl, rfl, hB1⟩
  case round =>
    obtain ⟨k, hk, rfl, rfl, hbe⟩ := hrel
    have hsz := hbe.size
    by_cases hlt : k < n
    · obtain ⟨op, d, a, b, imm, HI⟩ : ∃ op d a b imm, Hid (xs.getD k In.nil = ⟨op, d, a, b, imm⟩) := ⟨_, _, _, _, _, rfl⟩
      have hcell := (HA.out k (by omega)).below hbe hbk
      rw [HI.out] at hcell
      obtain ⟨h0, h1, h2, h3, h4⟩ := hcell
      simp only at h0 h1 h2 h3 h4
      have HK : Hid ((xs.take (k + 1)).all In.right = ((xs.take k).all In.right && rightB op d a b imm)) := by show _ = _; rw [all_take (xs := xs) (k := k) (by omega), HI.out]; rfl
      generalize hT : (xs.take k).all In.right = T at *
      generalize hb8 : rightB op d a b imm = R at *
      clear hB1 hT
      generalize hs8 : sourceB op d a b imm = SO at *
      clear HI
      cases T
      all_goals
        go_wp2_with (go_at_call 13; go_must (refine (right_any op d a b imm _).mono ?_); rintro e w2 ⟨rfl, hb2⟩; go_must (rw [hb8]; have hB2 := hbe.trans (hb2.mono hsz); have hz2' := hb2.size; rw [← hb2.cell (by show bk < _; omega)] at h0 h1 h2 h3 h4; clear hb2))
        go_region_held3 (fun w' => w'.cell? ⟨bk, off + k * 5, none⟩ = some (.int .i64 op) ∧ w'.cell? ⟨bk, off + k * 5 + 1, none⟩ = some (.int .i64 d) ∧ w'.cell? ⟨bk, off + k * 5 + 2, none⟩ = some (.int .i64 a) ∧ w'.cell? ⟨bk, off + k * 5 + 3, none⟩ = some (.int .i64 b) ∧ w'.cell? ⟨bk, off + k * 5 + 4, none⟩ = some (.int .i64 imm)) (first | exact ⟨h0, h1, h2, h3, h4⟩ | exact At.below (i := ⟨op, d, a, b, imm⟩) (B := w2.heap.size) ⟨h0, h1, h2, h3, h4⟩ (by go_grown) (by omega))
          (first
            | (go_at_call 14; go_must (refine (right_one_drew op d a b imm w2 _ (by simp)).mono ?_); rintro e w3 ⟨rfl, hb3⟩; go_must (rw [hb8]; have hB3 := hB2.trans (hb3.mono (by omega)); have hz3 := hb3.size; rw [← hb3.cell (by show bk < _; omega)] at h0 h1 h2 h3 h4; clear hb3))
            | (go_at_call 15; go_must (refine (osource_any op d a b imm _).mono ?_); rintro e w4 ⟨rfl, hb4⟩; go_must (rw [hs8]; have hB4 := hB3.trans (hb4.mono (by omega)); have hz4 := hb4.size; rw [← hb4.cell (by show bk < _; omega)] at h0 h1 h2 h3 h4; clear hb4))
            | (go_at_call 16; go_must (refine (source_any op d a b imm _).mono ?_); rintro e w5 ⟨rfl, hb5⟩; go_must (rw [hs8]; have hB5 := hB4.trans (hb5.mono (by omega)); rw [← hb5.cell (by show bk < _; omega)] at h0 h1 h2 h3 h4; clear hb5)))
        clear h0 h1 h2 h3 h4
        go_wp2
        go_roundw
        case rel => exact ⟨k + 1, by omega, by go_num, by rw [HK.out]; first | rfl | simp, hB5⟩
        case measure => simp [intOf]; omega
    · obtain rfl : k = n := by omega
      have hnil : ∀ wx : World, SeesI wx (.slice none 0 0) [] := fun wx => ⟨none, 0, rfl, by simp, by simp [maxLen], fun _ => rfl, fun h => absurd rfl h⟩
      rw [show xs.take k = xs by rw [hn]; exact List.take_length]
      generalize hT : xs.all In.right = T
      clear hB1
      go_wp2_with (first
        | (at_builtin; go_must (refine wpList_append_seesI rfl (.tmp 46) (.tmp 47) 31 rfl wr.heap.size 34 i0 (instV 0 0 0 0 0) Tryd.underlying31 hi hz0 hz1 hz2 rfl _ [] rfl (own_empty wr 34) _ xs rfl (SeesI.below (hn ▸ HS.out) (hbe.alloc hbe.size _)) (by unfold maxLen; simp; omega) (by simp; omega) (by simp) ?_); intro v3 w3 hown3 hg3; go_must (have hB3 : Below w.heap.size w w3 := (hbe.alloc hbe.size _).grown hg3 (by simp; omega) (fun j hj => by (have hj' : wr.heap.size = j := Option.some.inj hj); omega); have hS3 := own_seesI hown3; rw [List.nil_append] at hS3; clear hg3 hown3))
        | (go_at_call 14; have hq := hS3; clear hq; go_must (refine (rights_any _ xs _ hS3).mono ?_); rintro e w4 ⟨rfl, hb4⟩; go_must (rw [hT]; have hB4 := hB3.trans (hb4.mono hB3.size); have HS4 : Hid (SeesI w4 v3 xs) := hS3.below hb4; clear hb4 hS3))
        | (go_at_call 14; go_must (refine (rights_none none 0 _).mono ?_); rintro e w' ⟨rfl, rfl⟩))
      obtain ⟨av, cv, rfl, hcv, hmv, _, hsv⟩ := HS4.out
      have HSV : Hid (xs ≠ [] → ∃ b off, av = some ⟨b, off, none⟩ ∧ b < w4.heap.size ∧ ∀ k, k < xs.length → At w4 b (off + k * 5) (xs.getD k In.nil)) := hsv
      unfold maxLen at hmv
      clear hsv HS4 hB3
      rw [← hn] at hcv
      rw [← hn]
      go_loopw [7] (fun i wq => ∃ j m : Nat, j ≤ k ∧ i = .int .i64 j ∧ wq = w4.drewN m) (fun i _ => k - (intOf i).toNat)
      case atStart => exact ⟨0, 0, by omega, rfl, rfl⟩
      case round =>
        obtain ⟨j, m, hj, rfl, rfl⟩ := hrel
        by_cases hjk : j < k
        · obtain ⟨bv, ofv, rfl, hbv, hav⟩ := HSV.out (fun e => by rw [e] at hn; simp at hn; omega)
          obtain ⟨op, d, a, b, imm, HI⟩ : ∃ op d a b imm, Hid (xs.getD j In.nil = ⟨op, d, a, b, imm⟩) := ⟨_, _, _, _, _, rfl⟩
          have hcell := (HA.out j (by omega)).below hB4 hbk
          have hcell' := hav j (by omega)
          rw [HI.out] at hcell hcell'
          obtain ⟨h0, h1, h2, h3, h4⟩ := hcell
          obtain ⟨g0, g1, g2, g3, g4⟩ := hcell'
          simp only at h0 h1 h2 h3 h4 g0 g1 g2 g3 g4
          clear hav HI
          go_wp2
          go_region_held3 (fun w' => (w'.cell? ⟨bk, off + j * 5, none⟩ = some (.int .i64 op) ∧ w'.cell? ⟨bk, off + j * 5 + 1, none⟩ = some (.int .i64 d) ∧ w'.cell? ⟨bk, off + j * 5 + 2, none⟩ = some (.int .i64 a) ∧ w'.cell? ⟨bk, off + j * 5 + 3, none⟩ = some (.int .i64 b) ∧ w'.cell? ⟨bk, off + j * 5 + 4, none⟩ = some (.int .i64 imm)) ∧ w'.cell? ⟨bv, ofv + j * 5, none⟩ = some (.int .i64 op) ∧ w'.cell? ⟨bv, ofv + j * 5 + 1, none⟩ = some (.int .i64 d) ∧ w'.cell? ⟨bv, ofv + j * 5 + 2, none⟩ = some (.int .i64 a) ∧ w'.cell? ⟨bv, ofv + j * 5 + 3, none⟩ = some (.int .i64 b) ∧ w'.cell? ⟨bv, ofv + j * 5 + 4, none⟩ = some (.int .i64 imm)) (exact ⟨⟨h0, h1, h2, h3, h4⟩, g0, g1, g2, g3, g4⟩) (fail)
          go_wp2
          go_roundw
          case rel => exact ⟨j + 1, _, by omega, by go_num, rfl⟩
          case measure => simp [intOf]; omega
        · go_wp2
          go_ret
          exact ⟨rfl, below_drewN hB4 m⟩

set_option maxRecDepth 100000 in
set_option maxHeartbeats 4000000 in
theorem right_walk_none (a : Option Addr) (cap : Nat) (w : World) (h : Named w) (hs : SeesI w (.slice a 0 cap) []) : Calls Tryd.prog 4 #[.slice a 0 cap] w fun e w' => e = .returned (.bool true) ∧ Below w.heap.size w w' := by
  have HN : Hid (Named w) := h
  have HS : Hid (SeesI w (.slice a 0 cap) []) := hs
  obtain ⟨i0, hi, hz0, hz1, hz2⟩ := info_parts Tryd.infoInst
  clear h hs
  go_enter Tryd.func4, Tryd.ntmps4
  go_wp2_with (go_at_call 8; go_must (refine (awake_any _ HN.out).mono ?_); rintro e w1 ⟨rfl, hB1⟩)
  go_loopw [3, 4] (fun t i wr => i = .int .i64 0 ∧ t = .bool true ∧ Below w.heap.size w wr) (fun _ i _ => 0)
  case atStart => exact ⟨rfl, rfl, hB1⟩
  case round =>
    obtain ⟨rfl, rfl, hbe⟩ := hrel
    clear hB1
    go_wp2_with (first
      | (at_builtin; go_must (refine wpList_append_seesI rfl (.tmp 46) (.tmp 47) 31 rfl wr.heap.size 34 i0 (instV 0 0 0 0 0) Tryd.underlying31 hi hz0 hz1 hz2 rfl _ [] rfl (own_empty wr 34) _ [] rfl (SeesI.below HS.out (hbe.alloc hbe.size _)) (by simp [maxLen]) (by simp) (by simp) ?_); intro v3 w3 hown3 hg3; go_must (have hB3 : Below w.heap.size w w3 := (hbe.alloc hbe.size _).grown hg3 (by have := hbe.size; simp; omega) (fun j hj => by (have hj' : wr.heap.size = j := Option.some.inj hj); have := hbe.size; omega); have hS3 : SeesI w3 v3 [] := own_seesI hown3; clear hg3 hown3))
      | (go_at_call 14; have hq := hS3; clear hq; go_must (refine (rights_any _ [] _ hS3).mono ?_); rintro e w4 ⟨rfl, hb4⟩; go_must (rw [show ([] : List In).all In.right = true from rfl]; have hB4 := hB3.trans (hb4.mono hB3.size); clear hb4 hS3))
      | (go_at_call 14; go_must (refine (rights_none none 0 _).mono ?_); rintro e w' ⟨rfl, rfl⟩))
    go_loopw [7] (fun i wq => i = .int .i64 0 ∧ wq = w4) (fun i _ => 0)
    case atStart => exact ⟨rfl, rfl⟩
    case round =>
      obtain ⟨rfl, rfl⟩ := hrel
      go_wp2
      go_ret
      exact ⟨rfl, hB4⟩
theorem right_walk (v : Value) (xs : List In) (w : World) (hs : SeesI w v xs ∧ ∀ i ∈ xs, i.wf) (hbytes : xs.length * 40 ≤ 140737488355328) (h : Named w) : Calls Tryd.prog 4 #[v] w fun e w' => e = .returned (.bool true) ∧ Below w.heap.size w w' := by
  have hs1 := hs.1
  obtain ⟨a, cap, rfl, hl, hm, hn, hc⟩ := hs.1
  cases xs with
  | nil => exact right_walk_none a cap w h hs1
  | cons x xs =>
    obtain ⟨b, off, rfl, hb, hat⟩ := hc (by simp)
    exact right_walk_some b off cap (x :: xs) w h hl hm hb hbytes hat
end Go.Proofs.YtheapkigeknjlaaDoor
