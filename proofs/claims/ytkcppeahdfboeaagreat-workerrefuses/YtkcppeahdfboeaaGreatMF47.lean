/-
  E11LClone
  E11LNew
  E11LTrace
  Y23Plain
  E11Awake
  W11Safe
  W11Err
  E11Open
  W23Open
-/
import Derived.Test.YtkcppeahdfboeaaGreatMF46
import Derived.Test.YtkcppeahdfboeaaGreatMF33
import Derived.Test.YtkcppeahdfboeaaGreatMF42
import Derived.Test.YtkcppeahdfboeaaGreatMF0
import Derived.Test.YtkcppeahdfboeaaGreatMF43
import Derived.Test.YtkcppeahdfboeaaGreatMF9
import Derived.ProofKit
namespace Go.Proofs.YtkcppeahdfboeaaGreat
open Go.RowKit
set_option linter.unusedVariables false
set_option linter.unusedSimpArgs false
set_option maxRecDepth 100000
open Go.ChangeShapes Go.WideShapes Go.ChangeAt Go.RowKit
theorem own_emptyE (w : World) (e : TypeId) (k : IntKind) : (w.alloc (.cells #[] e)).ownsRow w.heap.size e 1 (.slice (some ⟨w.heap.size, 0, none⟩) 0 0) ([] : List Int).length (([] : List Int).map (Value.int k)) := by
 refine ⟨rfl, .inr ⟨w.heap.size, 0, #[], rfl, Nat.le_refl _, ?_, Nat.le_refl _, by simp [maxLen], rfl, rfl⟩⟩
 show (w.heap.push _)[w.heap.size]? = _
 simp
theorem grown_newE {w w1 : World} {o : Obj} (hg : (w.alloc o).grownBy w1 (some w.heap.size)) : Below w.heap.size w w1 :=
 ((Below.refl w.heap.size w).alloc (Nat.le_refl _) o).grown hg (by simp) (fun k hk => (by have h : w.heap.size = k := Option.some.inj hk; omega))
set_option maxHeartbeats 800000 in
theorem mcloneN (v : Value) (xs : List Int) (w : World) (hs : Sees .i64 w v xs) (hl : xs.length <= 1048576) :
  Calls Tryz.prog 37 #[v] w fun e w' => ∃ u, e = .returned u /\ Sees .i64 w' u xs /\ (xs = [] ∨ ∀ j, u.ownBlock = some j -> w.heap.size <= j) /\ Below w.heap.size w w' := by
 obtain ⟨i0, hi, hz0, hz1, hz2⟩ := info_parts infoInt9
 have HS := keepJ hs
 have hwf := hs.wf
 obtain ⟨a, cap, rfl, h1, h2, h3, h4, h5⟩ := hs
 cases a with
 | none =>
  obtain rfl : xs = [] := by
   by_cases h : xs = []
   ·exact h
   ·obtain ⟨_, _, e, _⟩ := h5 h
    cases e
  obtain rfl := h3 rfl
  clear h5
  have heq : ∀ wx : World, (Go.binOp .eql 29 (.slice none 0 0) (.slice none 0 0)).run Tryz.prog wx = .ok (.bool true) wx := fun _ => by kernel_rfl
  go_enter Tryz.func37, Tryz.ntmps37
  go_wp2
  go_ret
  first
   | exact ⟨_, rfl, HS.out, .inl rfl, Below.refl _ _⟩
   | exact ⟨_, rfl, HS.out, Below.refl _ _⟩
 | some ad =>
  obtain ⟨bb, off, q⟩ := ad
  have heq : ∀ wx : World, (Go.binOp .eql 29 (.slice (some ⟨bb, off, q⟩) xs.length cap) (.slice none 0 0)).run Tryz.prog wx = .ok (.bool false) wx := fun _ => by kernel_rfl
  clear h5
  go_enter Tryz.func37, Tryz.ntmps37
  go_wp2_with (at_builtin; go_must (refine wpList_append_sees rfl (.tmp 5) (.tmp 6) 29 rfl w.heap.size 3 i0 (.int .i64 0) 8 Tryz.underlying29 hi hz0 hz1 hz2 rfl .i64 (.slice (some ⟨w.heap.size, 0, none⟩) 0 0) [] rfl (own_emptyE w _ _) _ xs rfl (HS.out.below ((Below.refl _ _).alloc (Nat.le_refl _) _) (Nat.le_refl _)) (by unfold maxLen; simp; omega) (by simp; omega) (by simp) ?_); intro v' w1 hown1 hg1)
  go_ret
  have ho : w1.ownsRow w.heap.size 3 1 v' xs.length (xs.map (Value.int .i64)) := by simpa using hown1
  refine ⟨_, rfl, Sees.own ho hwf, ?_, grown_newE hg1⟩
  by_cases h : xs = []
  ·exact .inl h
  ·refine .inr fun j hj => ?_
   obtain ⟨g, c, rfl, hb, _⟩ := own_block ho (List.length_pos_iff.2 h)
   have : g = j := Option.some.inj hj
   omega
set_option maxHeartbeats 800000 in
theorem mcloneI (cb co ccap : Nat) (xs : List In) (w : World) (hs : SeesI w (.slice (some ⟨cb, co, none⟩) xs.length ccap) xs) (hl : xs.length <= 1048576) :
  Calls Tryz.prog 38 #[.slice (some ⟨cb, co, none⟩) xs.length ccap] w fun e w' => ∃ u, e = .returned u /\ w'.ownsRow w.heap.size 60 5 u xs.length (flat xs) /\ Below w.heap.size w w' := by
 obtain ⟨i0, hi, hz0, hz1, hz2⟩ := info_parts infoInst9
 have HS := keepJ hs
 have heq : ∀ wx : World, (Go.binOp .eql 30 (.slice (some ⟨cb, co, none⟩) xs.length ccap) (.slice none 0 0)).run Tryz.prog wx = .ok (.bool false) wx := fun _ => by kernel_rfl
 clear hs
 go_enter Tryz.func38, Tryz.ntmps38
 go_wp2_with (at_builtin; go_must (refine wpList_append_seesI rfl (.tmp 5) (.tmp 6) 30 rfl w.heap.size 60 i0 (instV 0 0 0 0 0) Tryz.underlying30 hi hz0 hz1 hz2 rfl (.slice (some ⟨w.heap.size, 0, none⟩) 0 0) [] rfl (own_empty w _) _ xs rfl (HS.out.below ((Below.refl _ _).alloc (Nat.le_refl _) _)) (by unfold maxLen; simp; omega) (by simp; omega) (by simp) ?_); intro v' w1 hown1 hg1)
 go_ret
 exact ⟨_, rfl, by simpa using hown1, grown_newE hg1⟩
section
variable {w : World} {b sb cb co ccap : Nat} {vm vc : Value} {ms : List Int} {xs : List In} {ev : Int × Int} {M : Mc}
theorem manswer_all {known : List St} (hK : Known xs ms.length known) (hS : Safe xs ms.length known M) (h : Mh w b sb vm cb co ccap ms xs ev M) (hm : M.mode = 1) (E : Int) (f : Bool) (v : Int) (o : Bool) (k u : Int) (hv : 0 <= v /\ v <= 18446744073709551615) :
  Calls Tryz.prog 26 #[.pointer (some ⟨b, 0, none⟩), resV E f v o k u] w fun e w' => e = .returned (.int .i64 0) /\ Chg w w' (fun k => k = b ∨ k = sb) /\ Mh w' b sb vm cb co ccap ms xs ev (answerE xs M E f v) := by
 have hsa := (safe_answer (E := E) (f := f) hK hS hm hv).1
 have hpn : M.pc + 1 < 64 := Nat.lt_of_lt_of_le hsa.pc hK.T.top
 refine (manswer_yes E f v o k u w h.ma hm h.code hS.pc hpn h.cn.1 hv rfl).mono ?_
 rintro e w' ⟨rfl, hg, hm'⟩
 have hc : Chg w w' (fun k => k = b ∨ k = sb) := Chg.of_grown hg (.inl rfl)
 exact ⟨rfl, hc, h.step hc hm' (h.sc.grown hg (show some sb ≠ some b from fun e => h.ne (Option.some.inj e).symm))⟩
end
abbrev evV (ev : Int × Int) : Value := .agg #[.int .u64 ev.1, .int .u64 ev.2]
set_option maxHeartbeats 800000 in
theorem mnew_nil (vm vc : Value) (ev : Int × Int) (w : World) :
  Calls Tryz.prog 23 #[.agg #[vm, vc], evV ev, .pointer none] w fun e w' => e = .returned (.tuple #[.pointer none, .int .i64 2]) /\ Below w.heap.size w w' := by
 go_enter Tryz.func23, Tryz.ntmps23
 go_wp2
 go_ret2
 exact ⟨rfl, by go_grown⟩
set_option maxHeartbeats 800000 in
theorem mnew_bad {vm vc : Value} {ms : List Int} {xs : List In} (ev : Int × Int) (sb : Nat) (w : World) (hm : Sees .i64 w vm ms) (hx : SeesI w vc xs) {P E : Int} (hj : Hid (judgeR ms xs = (P, E))) (hE : E ≠ 0) :
  Calls Tryz.prog 23 #[.agg #[vm, vc], evV ev, .pointer (some ⟨sb, 0, none⟩)] w fun e w' => e = .returned (.tuple #[.pointer none, .int .i64 E]) /\ Below w.heap.size w w' := by
 have hE1 : ¬ E = 0 := hE
 have hE2 : (E == 0) = false := by simpa using hE
 obtain ⟨V, HV, hBV⟩ : ∃ V, Hid ((w.alloc (.cells #[vm, vc] 32)).alloc (.cells #[.int .u64 ev.1, .int .u64 ev.2] 28) = V) /\ Below w.heap.size w V := ⟨_, rfl, by go_grown⟩
 have HMV := keepJ (hm.below hBV (Nat.le_refl _))
 have HXV := keepJ (hx.below hBV)
 clear hm hx
 go_enter Tryz.func23, Tryz.ntmps23
 go_wp2_with (go_at_call 9; rw [HV.out]; go_must (refine (ljudge_as HMV.out HXV.out hj).mono ?_); rintro e w4 ⟨rfl, hb4⟩)
 go_ret2
 exact ⟨rfl, hBV.trans (hb4.mono hBV.size)⟩
def NewOk (w w' : World) (sb : Nat) (ms : List Int) (xs : List In) (ev : Int × Int) (cs : List Int) (e : Ending) : Prop := ∃ (b cb' ccap' : Nat) (um : Value), e = .returned (.tuple #[.pointer (some ⟨b, 0, none⟩), .int .i64 0]) /\ w.heap.size <= b /\ Mh w' b sb um cb' 0 ccap' ms xs ev { startE with cs := cs } /\ Chg w w' (fun k => k = sb) /\ w.heap.size <= cb' /\ (ms = [] ∨ ∀ j, um.ownBlock = some j -> w.heap.size <= j)
theorem sees_ltE {k : IntKind} {w : World} {v : Value} {xs : List Int} (h : Sees k w v xs) {j : Nat} (hj : v.ownBlock = some j) : xs = [] ∨ j < w.heap.size := by
 obtain ⟨a, cap, rfl, hl, hm, hn0, hw, hs⟩ := h
 by_cases hne : xs = []
 ·exact .inl hne
 ·obtain ⟨b, off, rfl, hlt, _⟩ := hs hne
  have : b = j := Option.some.inj hj
  exact .inr (by omega)
set_option maxHeartbeats 1600000 in
theorem mnew_ok {vm : Value} {cb co ccap : Nat} {ms : List Int} {xs : List In} (ev : Int × Int) (sb : Nat) {ws cs : List Int} (w : World) (hm : Sees .i64 w vm ms) (hx : SeesI w (.slice (some ⟨cb, co, none⟩) xs.length ccap) xs) (hs : Sc w sb ws cs) (hj : Hid (judgeR ms xs = (0, 0))) (hml : ms.length <= 1048576) (hmsb : ms = [] ∨ vm.ownBlock ≠ some sb) (hcsb : cb ≠ sb) (hxl : 0 < xs.length /\ xs.length <= 64) :
  Calls Tryz.prog 23 #[.agg #[vm, .slice (some ⟨cb, co, none⟩) xs.length ccap], evV ev, .pointer (some ⟨sb, 0, none⟩)] w fun e w' => NewOk w w' sb ms xs ev cs e := by
 obtain ⟨V, HV, hBV, HmV, HeV⟩ : ∃ V, Hid ((w.alloc (.cells #[vm, .slice (some ⟨cb, co, none⟩) xs.length ccap] 32)).alloc (.cells #[.int .u64 ev.1, .int .u64 ev.2] 28) = V) /\ Below w.heap.size w V /\ Hid (Hp V w.heap.size 32 [vm, .slice (some ⟨cb, co, none⟩) xs.length ccap]) /\ Hid (Hp V (w.heap.size + 1) 28 [.int .u64 ev.1, .int .u64 ev.2]) :=
  ⟨_, rfl, by go_grown, (Hp.new w _ _).alloc _, by have := Hp.new (w.alloc (.cells #[vm, .slice (some ⟨cb, co, none⟩) xs.length ccap] 32)) [.int .u64 ev.1, .int .u64 ev.2] 28; rw [World.size_alloc] at this; exact this⟩
 have HMV := keepJ (hm.below hBV (Nat.le_refl _))
 have HXV := keepJ (hx.below hBV)
 have HSV := keepJ (hs.below hBV hs.lt)
 have hsl := hs.lt
 have hzV : w.heap.size + 2 <= V.heap.size := by have := HeV.out.lt; omega
 clear hm hx
 go_enter Tryz.func23, Tryz.ntmps23
 go_wp2_with (first
  | (go_at_call 9; rw [HV.out]; go_must (refine (ljudge_as HMV.out HXV.out hj).mono ?_); rintro e w4 ⟨rfl, hb4⟩; go_must (have HS4 := keepJ (HSV.out.below hb4 HSV.out.lt)))
  | (go_at_call 36; go_must (refine (wipe_any w4 HS4.out).mono ?_); rintro e w5 ⟨rfl, hs5, hg5⟩))
 have hB4 : Below w.heap.size w w4 := hBV.trans (hb4.mono hBV.size)
 have HC5 := keepJ ((Chg.of_below (S := fun k => k = sb) hB4).trans (Chg.of_grown (S := fun k => k = sb) hg5 rfl) (fun _ _ e => e))
 have hz4 := hb4.size
 have hz5 := hg5.size
 have HM5 := keepJ ((HmV.out.below hb4 HmV.out.lt).grown hg5 (show some w.heap.size ≠ some sb from fun e => by have := Option.some.inj e; omega))
 have HE5 := keepJ ((HeV.out.below hb4 HeV.out.lt).grown hg5 (show some (w.heap.size + 1) ≠ some sb from fun e => by have := Option.some.inj e; omega))
 have HMs5 := keepJ ((HMV.out.below hb4 (Nat.le_refl _)).kept hg5 hmsb)
 have HXs5 := keepJ ((HXV.out.below hb4).chg (Chg.of_grown (S := fun k => k = sb) hg5 rfl) hcsb)
 have HP : Hid (∀ wx : World, Below w5.heap.size w5 wx -> wx.cell? ⟨w.heap.size, 0, none⟩ = some vm /\ wx.cell? ⟨w.heap.size, 1, none⟩ = some (.slice (some ⟨cb, co, none⟩) xs.length ccap) /\ wx.cell? ⟨w.heap.size + 1, 0, none⟩ = some (.int .u64 ev.1) /\ wx.cell? ⟨w.heap.size + 1, 1, none⟩ = some (.int .u64 ev.2)) := fun wx hb => ⟨(HM5.out.below hb (by omega)).cell rfl, (HM5.out.below hb (by omega)).cell rfl, (HE5.out.below hb (by omega)).cell rfl, (HE5.out.below hb (by omega)).cell rfl⟩
 refine wp_region_held_drew (S := fun w' => w'.cell? ⟨w.heap.size, 0, none⟩ = some vm /\ w'.cell? ⟨w.heap.size, 1, none⟩ = some (.slice (some ⟨cb, co, none⟩) xs.length ccap) /\ w'.cell? ⟨w.heap.size + 1, 0, none⟩ = some (.int .u64 ev.1) /\ w'.cell? ⟨w.heap.size + 1, 1, none⟩ = some (.int .u64 ev.2)) (by kernel_rfl) (HP.out _ (below_drE (Below.refl _ _))) (fun hHeld => ?_)
 refine tkGo [0, 1, 2, 4, 5, 7] ?_
 repeat (refine tkO (v := ?_) rfl ?_ ?_; rotate_left; (intro wy hSw; (try dsimp only at hSw); go_simp; (first | done | with_reducible rfl)); try simp only [Act.put, p1q, p2q, p3q, p4q, p5q, p6q])
 refine tkEnd ?_
 refine runO 3 (by kernel_rfl) rfl (by rfl) (fun KK hK => ?_)
 go_simp
 go_at_call 37
 refine (mcloneN vm ms w5.drew HMs5.out hml).mono ?_
 rintro e w6 ⟨um, rfl, hum, hub', hb6'⟩
 have hub : ms = [] ∨ ∀ j, um.ownBlock = some j -> w5.heap.size <= j := hub'
 have HUM := keepJ hum
 obtain ⟨ma, mcap, rfl, _, _, _, _, _⟩ := hum
 have hb6 : Below w5.heap.size w5 w6 := below_undrew hb6'
 have hz6 := hb6.size
 go_simp
 refine hK.out _ _ (HP.out w6 hb6) (fun hHeld => ?_)
 clear hK KK
 try simp only [Act.put, p1q, p2q, p3q, p4q, p5q, p6q]
 have HX6 := keepJ (HXs5.out.below hb6)
 refine runO 6 (by kernel_rfl) rfl (by rfl) (fun KK hK => ?_)
 go_simp
 go_at_call 38
 refine (mcloneI cb co ccap xs w6 HX6.out (by omega)).mono ?_
 rintro e w7 ⟨uc, rfl, huc, hb7⟩
 have HUC := keepJ huc
 obtain ⟨g, gcap, rfl, hg1, hg2, _⟩ := own_block huc hxl.1
 clear huc
 go_simp
 have hz7 := hb7.size
 have hB7 : Below w5.heap.size w5 w7 := hb6.trans (hb7.mono hz6)
 refine hK.out _ _ (HP.out w7 hB7) (fun hHeld => ?_)
 clear hK KK
 try simp only [Act.put, p1q, p2q, p3q, p4q, p5q, p6q]
 refine tkGo [8] ?_
 repeat (refine tkO (v := ?_) rfl ?_ ?_; rotate_left; (intro wy hSw; (try dsimp only at hSw); go_simp; (first | done | with_reducible rfl)); try simp only [Act.put, p1q, p2q, p3q, p4q, p5q, p6q])
 refine tkEnd ?_
 refine runO 9 (by kernel_rfl) rfl (by rfl) (fun KK hK => ?_)
 go_simp
 obtain ⟨F, HF, HhF, hBF⟩ : ∃ F, Hid (w7.alloc (.cells (((((Tryz.zeroCells127.setIfInBounds 0 (.int .u64 ev.1)).setIfInBounds 1 (.int .u64 ev.2)).setIfInBounds 2 (.slice ma ms.length mcap)).setIfInBounds 3 (.slice (some ⟨g, 0, none⟩) xs.length gcap)).setIfInBounds 4 (.pointer (some ⟨sb, 0, none⟩))) 127) = F) /\ Hid (Hp F w7.heap.size 127 (mcC (.slice ma ms.length mcap) (.slice (some ⟨g, 0, none⟩) xs.length gcap) ev sb { startE with cs := cs })) /\ Below w7.heap.size w7 F :=
  ⟨_, rfl, Hp.new w7 (mcC (.slice ma ms.length mcap) (.slice (some ⟨g, 0, none⟩) xs.length gcap) ev sb { startE with cs := cs }) _, (Below.refl _ _).alloc (Nat.le_refl _) _⟩
 rw [HF.out]
 have hBF5 : Below w5.heap.size w5 F := hB7.trans (hBF.mono (by omega))
 refine hK.out _ _ (HP.out F hBF5) (fun hHeld => ?_)
 clear hK KK
 try simp only [Act.put, p1q, p2q, p3q, p4q, p5q, p6q]
 refine tkGo [10, 11] ?_
 repeat (refine tkO (v := ?_) rfl ?_ ?_; rotate_left; (intro wy hSw; (try dsimp only at hSw); go_simp; (first | done | with_reducible rfl)); try simp only [Act.put, p1q, p2q, p3q, p4q, p5q, p6q])
 refine tkEnd ?_
 refine wpAnyH_done (by kernel_rfl) ?_ _
 go_wp2
 go_ret2
 have hz : WR (List.replicate 8 (0 : Int)) := ⟨rfl, fun r hr => by rw [show (List.replicate 8 (0 : Int)).getD r 0 = 0 by rw [List.getD_eq_getElem?_getD, List.getElem?_replicate, if_pos hr]; rfl]; decide⟩
 have hsF := (hs5.below hBF5 hs5.lt)
 refine ⟨w7.heap.size, g, gcap, .slice ma ms.length mcap, rfl, by omega, ⟨⟨HhF.out, hz, show 0 < 64 by decide⟩, hsF, (HUM.out.below hb7 (Nat.le_refl _)).below hBF (Nat.le_refl _), (own_seesI HUC.out).below hBF, by omega, ?_, by omega, by omega⟩, HC5.out.trans (Chg.of_below (S := fun _ => False) hBF5) (fun _ _ e => e.elim), by omega, hub.imp id fun h j hj => by have := h j hj; omega⟩
 by_cases hms : ms = []
 ·exact .inl hms
 refine .inr ⟨fun e => ?_, fun e => ?_⟩
 ·rcases sees_ltE HUM.out e with h | h
  ·exact hms h
  ·omega
 ·rcases hub with h | h
  ·exact hms h
  ·have := h _ e; omega
theorem inq_errorE {ms : List Int} {xs : List In} {P E : Int} (h : inqR ms xs = .error (P, E)) (hr : ∀ e : Nat × Int, runK xs ms.length xs.length = .error e -> e.2 ≠ 0) : E ≠ 0 := by
 unfold inqR at h
 split at h
 ·injection h with h; injection h with h1 h2; subst h2; decide
 split at h
 ·rename_i hE
  injection h with h; injection h with h1 h2; subst h2; exact hE
 split at h
 ·rename_i e he
  injection h with h; injection h with h1 h2; subst h2; exact hr e he
 ·cases h
theorem judge_known {ms : List Int} {xs : List In} {K : Kn} (h : inqR ms xs = .ok K) : mapsJ ms = true /\ (∃ known, Known xs ms.length known /\ Pull xs ms.length xs.length K known) /\ judgeR ms xs = (0, 0) := by
 have hj : judgeR ms xs = (0, 0) := by unfold judgeR; rw [h]
 unfold inqR at h
 split at h
 ·cases h
 rename_i hm
 split at h
 ·cases h
 rename_i hE
 have hT : Taken xs := check_ok.1 (show errL xs = 0 from Decidable.of_not_not hE)
 refine ⟨by simpa using hm, ?_, hj⟩
 split at h
 ·cases h
 rename_i K' hr
 injection h with h
 subst h
 rcases pull_run (nm := ms.length) hT xs.length (Nat.le_refl _) with ⟨e, h1, _⟩ | ⟨K2, known, h1, h2, hP⟩
 ·rw [hr] at h1; cases h1
 ·rw [hr] at h1
  injection h1 with h1
  subst h1
  exact ⟨known, ⟨hT, h2⟩, hP⟩
theorem maps_len {ms : List Int} (h : mapsJ ms = true) : ms.length <= 4 := by
 unfold mapsJ at h
 simp at h
 exact h.1
structure Wk where
 md : Nat
 hk : Int
 qn : Int
 ev : Int × Int
 ve : Int
 pg : Int
 cl : Nat
 ms : List Int
 xs : List In
 M : Mc
 td : List To
def Wk.new : Wk := ⟨0, 0, 0, (0, 0), 0, 0, 0, [], [], startE, []⟩
def Wk.idle (M : Mc) (l : List To) : Wk := ⟨0, 0, 0, (0, 0), 0, 0, 0, [], [], M, l⟩
def Wk.take (k : Wk) (h n : Int) (e : Int × Int) : Int × Wk :=
 if h < 0 ∨ 3 < h then (2, k) else if k.md ≠ 0 then (42, k) else (0, ⟨1, h, n, e, 0, 0, 0, [], [], k.M, k.td⟩)
def Wk.enter (k : Wk) (v p : Int) (ms : List Int) (xs : List In) : Int × Wk :=
 if k.md ≠ 1 then (41, k) else if (judgeR ms xs).2 ≠ 0 then ((judgeR ms xs).2, k) else (0, ⟨2, k.hk, k.qn, k.ev, v, p, 0, ms, xs, { startE with cs := k.M.cs }, k.td⟩)
def Wk.skip (k : Wk) : Int × Wk := if k.md ≠ 1 then (41, k) else (0, Wk.idle k.M (k.td ++ [⟨k.hk, true, 0, 0, 0⟩]))
def Wk.did (k : Wk) (a : Ac) (M : Mc) : Wk :=
 if a.k = 2 then ⟨3, k.hk, k.qn, k.ev, k.ve, k.pg, k.cl + 1, k.ms, k.xs, M, k.td⟩
 else if a.k = 4 then Wk.idle M (k.td ++ [⟨k.hk, false, M.steps, k.cl, a.v⟩])
 else ⟨2, k.hk, k.qn, k.ev, k.ve, k.pg, k.cl, k.ms, k.xs, M, k.td⟩
def Wk.step (k : Wk) : Ac × Bool × Wk :=
 if k.md ≠ 2 then (Ac.nil, false, k) else ((stepE k.ms k.xs k.ev k.M).1, true, k.did (stepE k.ms k.xs k.ev k.M).1 (stepE k.ms k.xs k.ev k.M).2)
def Wk.answer (k : Wk) (E : Int) (f : Bool) (v : Int) : Int × Wk :=
 if k.md ≠ 3 then (41, k) else (0, ⟨2, k.hk, k.qn, k.ev, k.ve, k.pg, k.cl, k.ms, k.xs, answerE k.xs k.M E f v, k.td⟩)
def evIn (e : Int × Int) : Prop := (0 <= e.1 /\ e.1 <= 18446744073709551615) /\ 0 <= e.2 /\ e.2 <= 18446744073709551615
structure Wk.Ok (k : Wk) : Prop where
 md : k.md <= 3
 hk : 0 <= k.hk /\ k.hk <= 3
 ev : evIn k.ev
 ws : W16 k.M.ws
 cs : W16 k.M.cs
 run : 2 <= k.md -> ∃ known, Known k.xs k.ms.length known /\ Safe k.xs k.ms.length known k.M /\ pot k.xs k.M <= 256 /\ k.cl <= k.M.steps
 two : k.md = 2 -> k.M.mode = 0
 three : k.md = 3 -> k.M.mode = 1
theorem zero16 : W16 (List.replicate 16 0) := ⟨rfl, fun r hr => by rw [List.getD_eq_getElem?_getD, List.getElem?_replicate, if_pos hr]; decide⟩
theorem ev_zero : evIn (0, 0) := by unfold evIn; decide
theorem Wk.Ok.idle {M : Mc} (hw : W16 M.ws) (hc : W16 M.cs) (l : List To) : (Wk.idle M l).Ok :=
 ⟨by show 0 <= 3; omega, by show (0 : Int) <= 0 /\ (0 : Int) <= 3; omega, ev_zero, hw, hc, fun h => absurd (show 2 <= 0 from h) (by omega), fun h => absurd (show 0 = 2 from h) (by omega), fun h => absurd (show 0 = 3 from h) (by omega)⟩
theorem Wk.Ok.new : Wk.new.Ok := Wk.Ok.idle (M := startE) zero16 zero16 []
theorem Wk.Ok.take {k k' : Wk} {h n E : Int} {e : Int × Int} (hk : k.Ok) (he : evIn e) (hq : k.take h n e = (E, k')) : k'.Ok := by
 unfold Wk.take at hq
 split at hq
 ·injection hq with _ q; rw [<- q]; exact hk
 ·rename_i h1
  split at hq
  ·injection hq with _ q; rw [<- q]; exact hk
  ·injection hq with _ q
   rw [<- q]
   exact ⟨by show 1 <= 3; omega, by show 0 <= h /\ h <= 3; omega, he, hk.ws, hk.cs, fun h => absurd (show 2 <= 1 from h) (by omega), fun h => absurd (show 1 = 2 from h) (by omega), fun h => absurd (show 1 = 3 from h) (by omega)⟩
theorem Wk.Ok.enter {k k' : Wk} {v p E : Int} {ms : List Int} {xs : List In} (hk : k.Ok) (hn : (judgeR ms xs).2 = 0 -> ∃ known, Known xs ms.length known) (hq : k.enter v p ms xs = (E, k')) : k'.Ok := by
 unfold Wk.enter at hq
 split at hq
 ·injection hq with _ q; rw [<- q]; exact hk
 ·split at hq
  ·injection hq with _ q; rw [<- q]; exact hk
  ·rename_i h1
   injection hq with _ q
   rw [<- q]
   obtain ⟨known, hK⟩ := hn (by omega)
   have hs := safe_start hK
   have hs2 : Safe xs ms.length known { startE with cs := k.M.cs } := ⟨hs.pc, hs.kn, hs.wr, hs.hold, hs.cnt, hs.ws, hk.cs, hs.mode⟩
   have hp := pot_start hK.T
   have hc := cost_256 hK.T
   refine ⟨by show 2 <= 3; omega, hk.hk, hk.ev, hs.ws, hk.cs, fun _ => ⟨known, hK, hs2, ?_, Nat.le_refl _⟩, fun _ => rfl, fun h => absurd (show 2 = 3 from h) (by omega)⟩
   show pot xs { startE with cs := k.M.cs } <= 256
   have e : pot xs { startE with cs := k.M.cs } = pot xs startE := rfl
   rw [e]
   omega
theorem Wk.Ok.skip {k k' : Wk} {E : Int} (hk : k.Ok) (hq : k.skip = (E, k')) : k'.Ok := by
 unfold Wk.skip at hq
 split at hq
 ·injection hq with _ q; rw [<- q]; exact hk
 ·injection hq with _ q; rw [<- q]; exact Wk.Ok.idle hk.ws hk.cs _
theorem step_mode {ms : List Int} {xs : List In} {ev : Int × Int} {M : Mc} (h0 : M.mode = 0) : ((stepE ms xs ev M).1.k = 2 -> (stepE ms xs ev M).2.mode = 1) /\ ((stepE ms xs ev M).1.k ≠ 2 -> (stepE ms xs ev M).1.k ≠ 4 -> (stepE ms xs ev M).2.mode = 0) := by
 unfold stepE
 rw [if_neg (by omega), if_neg (by omega)]
 split
 ·unfold callE
  split
  ·exact ⟨fun _ => rfl, fun h => absurd rfl h⟩
  ·split
   ·exact ⟨fun h => absurd h (by simp [plainA]), fun _ _ => h0⟩
   ·exact ⟨fun h => absurd h (by simp [plainA]), fun _ _ => h0⟩
 ·split
  ·exact ⟨fun h => absurd h (by simp [plainA]), fun _ h => absurd rfl h⟩
  ·split
   ·exact ⟨fun h => absurd h (by simp [plainA]), fun _ _ => h0⟩
   ·exact ⟨fun h => absurd h (by simp [plainA]), fun _ _ => h0⟩
theorem Wk.Ok.step {k k' : Wk} {a : Ac} {b : Bool} (hk : k.Ok) (hq : k.step = (a, b, k')) : k'.Ok := by
 unfold Wk.step at hq
 split at hq
 ·injection hq with _ q; injection q with _ q; rw [<- q]; exact hk
 ·rename_i h2
  have hm : k.md = 2 := by omega
  injection hq with _ q
  injection q with _ q
  rw [<- q]
  obtain ⟨known, hK, hS, hp, hc⟩ := hk.run (by omega)
  have h0 := hk.two hm
  obtain ⟨s1, s2, s3⟩ := safe_run (ev := k.ev) hK hS h0 hk.ev
  obtain ⟨m1, m2⟩ := step_mode (ms := k.ms) (xs := k.xs) (ev := k.ev) h0
  unfold Wk.did
  split
  ·rename_i e2
   exact ⟨by show 3 <= 3; omega, hk.hk, hk.ev, s1.ws, s1.cs, fun _ => ⟨known, hK, s1, Int.le_trans s2 hp, (by rw [s3]; omega : k.cl + 1 <= (stepE k.ms k.xs k.ev k.M).2.steps)⟩, fun h => absurd (show 3 = 2 from h) (by omega), fun _ => m1 e2⟩
  ·rename_i e2
   split
   ·exact Wk.Ok.idle s1.ws s1.cs _
   ·rename_i e4
    exact ⟨by show 2 <= 3; omega, hk.hk, hk.ev, s1.ws, s1.cs, fun _ => ⟨known, hK, s1, Int.le_trans s2 hp, (by rw [s3]; omega : k.cl <= (stepE k.ms k.xs k.ev k.M).2.steps)⟩, fun _ => m2 e2 e4, fun h => absurd (show 2 = 3 from h) (by omega)⟩
theorem Wk.Ok.answer {k k' : Wk} {E e v : Int} {f : Bool} (hk : k.Ok) (hv : 0 <= v /\ v <= 18446744073709551615) (hq : k.answer e f v = (E, k')) : k'.Ok := by
 unfold Wk.answer at hq
 split at hq
 ·injection hq with _ q; rw [<- q]; exact hk
 ·rename_i h3
  have hm : k.md = 3 := by omega
  injection hq with _ q
  rw [<- q]
  obtain ⟨known, hK, hS, hp, hc⟩ := hk.run (by omega)
  obtain ⟨s1, s2, s3⟩ := safe_answer (E := e) (f := f) hK hS (hk.three hm) hv
  exact ⟨by show 2 <= 3; omega, hk.hk, hk.ev, s1.ws, s1.cs, fun _ => ⟨known, hK, s1, Int.le_trans s2 hp, (by rw [s3]; exact hc : k.cl <= (answerE k.xs k.M e f v).steps)⟩, fun _ => rfl, fun h => absurd (show 2 = 3 from h) (by omega)⟩
theorem Wk.Ok.steps {k : Wk} (hk : k.Ok) (h : 2 <= k.md) : k.M.steps <= 256 := by
 obtain ⟨known, hK, hS, hp, _⟩ := hk.run h
 have := hS.pot_le hK.T
 split at this <;> omega
theorem code_shape {w : World} {v : Value} {xs : List In} (h : SeesI w v xs) (hx : 0 < xs.length) : ∃ cb co ccap, v = .slice (some ⟨cb, co, none⟩) xs.length ccap /\ cb < w.heap.size := by
 obtain ⟨a, cap, rfl, _, _, _, h4⟩ := h
 obtain ⟨b, off, rfl, hlt, _⟩ := h4 (fun e => by rw [e] at hx; simp at hx)
 exact ⟨b, off, cap, rfl, hlt⟩
theorem run_errorE {xs : List In} {nm : Nat} : ∀ {n : Nat} {p : Nat} {E : Int}, runK xs nm n = .error (p, E) -> p < n /\ E ≠ 0 := by
 intro n
 induction n with
 | zero => intro p E h; rw [runK] at h; cases h
 | succ n ih =>
  intro p E h
  rw [runK] at h
  cases h0 : runK xs nm n with
  | error e =>
   rw [h0] at h
   simp only at h
   injection h with h
   subst h
   have := ih h0
   exact ⟨by omega, this.2⟩
  | ok K =>
   rw [h0] at h
   simp only at h
   cases h1 : stepK xs nm n K with
   | ok K' => rw [h1] at h; cases h
   | error e =>
    rw [h1] at h
    simp only at h
    injection h with h
    injection h with h2 h3
    subst h2 h3
    refine ⟨by omega, ?_⟩
    unfold stepK at h1
    split at h1
    ·cases h1
    split at h1
    ·injection h1 with h1; subst h1; assumption
    ·cases h1
theorem res_cellsE {H : Type} {enc : TypeId × Value -> H} {W : World} {base fuel : Nat} {sp : Nat -> Bool} {held : Bool} {cs : List Value} {x : DataW H × List MemPlace}
  (h : DataW.trod enc Tryz.prog W base sp held fuel 62 cs = some x) : ∃ (E : Int) (f : Bool) (v : Int) (o : Bool) (k u : Int), cs = [.int .i64 E, .bool f, .int .u64 v, .bool o, .int .u64 k, .int .u64 u] /\ 0 <= v /\ v <= 18446744073709551615 := by
 obtain ⟨xs, n, rfl, hx, hl, hlen, hf⟩ := DataW.trod_struct Tryz.underlying62 h
 have l6 : cs.length = 6 := by rw [hl]; kernel_rfl
 have u0 : Tryz.prog.cellsOf 38 = 1 := by kernel_rfl
 have u1 : Tryz.prog.cellsOf 4 = 1 := by kernel_rfl
 have u2 : Tryz.prog.cellsOf 26 = 1 := by kernel_rfl
 match cs, l6, xs, hlen, hf with
 | [c0, c1, c2, c3, c4, c5], _, [x0, x1, x2, x3, x4, x5], _, hf =>
  have h0 : DataW.trod enc Tryz.prog W base sp held n 38 (([c0, c1, c2, c3, c4, c5].drop 0).take (Tryz.prog.cellsOf 38)) = some x0 := hf 0 _ rfl
  rw [u0] at h0
  have h1 : DataW.trod enc Tryz.prog W base sp held n 4 (([c0, c1, c2, c3, c4, c5].drop 1).take (Tryz.prog.cellsOf 4)) = some x1 := hf 1 _ rfl
  rw [u1] at h1
  have h2 : DataW.trod enc Tryz.prog W base sp held n 26 (([c0, c1, c2, c3, c4, c5].drop 2).take (Tryz.prog.cellsOf 26)) = some x2 := hf 2 _ rfl
  rw [u2] at h2
  have h3 : DataW.trod enc Tryz.prog W base sp held n 4 (([c0, c1, c2, c3, c4, c5].drop 3).take (Tryz.prog.cellsOf 4)) = some x3 := hf 3 _ rfl
  rw [u1] at h3
  have h4 : DataW.trod enc Tryz.prog W base sp held n 26 (([c0, c1, c2, c3, c4, c5].drop 4).take (Tryz.prog.cellsOf 26)) = some x4 := hf 4 _ rfl
  rw [u2] at h4
  have h5 : DataW.trod enc Tryz.prog W base sp held n 26 (([c0, c1, c2, c3, c4, c5].drop 5).take (Tryz.prog.cellsOf 26)) = some x5 := hf 5 _ rfl
  rw [u2] at h5
  obtain ⟨E, e0, y0, g0⟩ := DataW.trod_int Tryz.underlying38 h0
  obtain ⟨f, e1, y1⟩ := DataW.trod_bool Tryz.underlying4 h1
  obtain ⟨v, e2, y2, g2⟩ := DataW.trod_int Tryz.underlying26 h2
  obtain ⟨o, e3, y3⟩ := DataW.trod_bool Tryz.underlying4 h3
  obtain ⟨k, e4, y4, g4⟩ := DataW.trod_int Tryz.underlying26 h4
  obtain ⟨u, e5, y5, g5⟩ := DataW.trod_int Tryz.underlying26 h5
  simp at e0 e1 e2 e3 e4 e5
  subst e0 e1 e2 e3 e4 e5
  exact ⟨E, f, v, o, k, u, rfl, bounds_u64 g2⟩
theorem opens_Res_sh {H : Type} {enc : TypeId × Value -> H} {W : World} {v : Value} {d : DataW H} {p : List MemPlace}
  (hsh : ∃ a len cap, v = .slice a len cap) (h : DataW.Trod enc Tryz.prog W 0 (fun _ => true) true 33 v d p) :
  ∃ xs, SeesR W v xs /\ ((d.weights Tryz.prog 33).all (· <= reachBytes) = true -> xs.length * 48 <= 140737488355328) := by
 obtain ⟨a, len, cap, rfl⟩ := hsh
 have c5 : Tryz.prog.cellsOf 62 = 6 := by kernel_rfl
 obtain ⟨fuel, hf⟩ := h
 rcases DataW.trod_slice Tryz.underlying33 hf with ⟨hcs, hx⟩ | ⟨x, l, c, elems, rest, n, rfl, hcs, hx, _, hl, hm, hlen, hel, hsp, _⟩
 ·simp [Value.cells] at hcs hx
  obtain ⟨rfl, rfl, rfl⟩ := hcs
  obtain ⟨rfl, rfl⟩ := hx
  exact ⟨[], ⟨none, 0, rfl, by simp, by simp [maxLen], fun _ => rfl, by simp, fun h => absurd rfl h⟩, fun _ => by simp⟩
 ·simp [Value.cells] at hcs hx
  obtain ⟨rfl, rfl, rfl⟩ := hcs
  obtain ⟨rfl, rfl⟩ := hx
  have hex : ∀ i : Nat, ∃ I : Rs, i < len -> I.wf /\ (∀ j, j < 6 -> W.cell? ((x.add (i * 6)).add j) = (rsC I)[j]?) := by
   intro i
   by_cases hi : i < len
   ·have h1 := hel i hi
    have hie : i < elems.length := by omega
    rw [c5, List.getElem?_eq_getElem hie, Option.bind_eq_some_iff] at h1
    obtain ⟨cs, hc1, hc2⟩ := h1
    obtain ⟨E, f, v, o, k, u, rfl, hw⟩ := res_cellsE hc2
    exact ⟨⟨E, f, v, o, k, u⟩, fun _ => ⟨hw, (World.cells?_some hc1).2.2⟩⟩
   ·exact ⟨Rs.nil, fun h => absurd h hi⟩
  obtain ⟨g, hg⟩ := Classical.axiomOfChoice hex
  have hxl : ((List.range len).map g).length = len := by simp
  have hgd : ∀ k, k < len -> ((List.range len).map g).getD k Rs.nil = g k := fun k hk => by simp [List.getD, hk]
  refine ⟨(List.range len).map g, ⟨some x, cap, by rw [hxl], by omega, hm, fun h => by simp at h, ?_, fun hne => ?_⟩, ?_⟩
  ·intro i hi
   simp only [List.mem_map, List.mem_range] at hi
   obtain ⟨k, hk, rfl⟩ := hi
   exact (hg k hk).1
  ·have hpos : 0 < len := by
    rcases Nat.eq_zero_or_pos len with h0 | h0
    ·subst h0; exact absurd rfl hne
    ·exact h0
   obtain ⟨b, off, spot⟩ := x
   have h00 := (hg 0 hpos).2 0 (by omega)
   have hspot : spot = none := by
    have := World.cell?_spot (show W.cell? _ = some _ from h00)
    simpa [Addr.add] using this
   subst hspot
   refine ⟨b, off, rfl, ?_, fun k hk => ?_⟩
   ·have := World.block_lt_of_cell? W _ (show W.cell? _ = some _ from h00)
    simpa [Addr.add] using this
   ·rw [hxl] at hk
    rw [hgd k hk]
    have h5 := (hg k hk).2
    simp only [Addr.add_mid] at h5
    exact ⟨h5 0 (by omega), h5 1 (by omega), h5 2 (by omega), h5 3 (by omega), h5 4 (by omega), h5 5 (by omega)⟩
  ·intro hall
   have b40 : Tryz.prog.bytesOf 62 = 48 := by kernel_rfl
   rw [DataW.weights, Tryz.underlying33] at hall
   simp only [List.all_cons, Bool.and_eq_true, decide_eq_true_eq, List.length_map, b40] at hall
   have h1 := hall.1
   unfold reachBytes at h1
   rw [hxl]
   omega
theorem open_Ev23 {H : Type} {enc : TypeId × Value -> H} {W : World} {base : Nat} {v : Value} {d : DataW H} {p : List MemPlace}
  (hok : Value.okWide Tryz.prog W .any base 35 v) (h : DataW.Trod enc Tryz.prog W 0 (fun _ => true) true 35 v d p) :
  ∃ hk vm vc ea eb vr ms is rs, v = .agg #[.int .i64 hk, .int .u64 ea, .int .u64 eb, vm, vc, vr] /\ SeesM W vm vc ms is /\ SeesR W vr rs /\ ((0 <= ea /\ ea <= 18446744073709551615) /\ 0 <= eb /\ eb <= 18446744073709551615) /\ ((d.weights Tryz.prog 35).all (· <= reachBytes) = true -> ms.length * 8 <= 140737488351232 /\ is.length * 40 <= 140737488351232 /\ rs.length * 48 <= 140737488355328) := by
 obtain ⟨cs, rfl, _⟩ := okWide_struct Tryz.underlying35 hok
 obtain ⟨fuel, hf⟩ := h
 obtain ⟨xs, n, _, hx, hl, hlen, hf⟩ := DataW.trod_struct Tryz.underlying35 hf
 have e6 : Tryz.prog.cellsOf 35 = 6 := by kernel_rfl
 have l6 : cs.toList.length = 6 := hl.trans e6
 have u0 : Tryz.prog.cellsOf 32 = 2 := by kernel_rfl
 have u1 : Tryz.prog.cellsOf 28 = 2 := by kernel_rfl
 have u2 : Tryz.prog.cellsOf 33 = 1 := by kernel_rfl
 have u3 : Tryz.prog.cellsOf 3 = 1 := by kernel_rfl
 have u4 : Tryz.prog.cellsOf 29 = 1 := by kernel_rfl
 have u5 : Tryz.prog.cellsOf 30 = 1 := by kernel_rfl
 have u6 : Tryz.prog.cellsOf 26 = 1 := by kernel_rfl
 obtain ⟨cl⟩ := cs
 simp only [Value.cells] at hf l6
 match cl, l6, xs, hlen, hf with
 | [b0, c2, c3, c0, c1, c4], _, [xh, x1, x0, x2], _, hf =>
  have h0 : DataW.trod enc Tryz.prog W 0 (fun _ => true) true n 32 (([b0, c2, c3, c0, c1, c4].drop 3).take (Tryz.prog.cellsOf 32)) = some x0 := hf 2 _ rfl
  rw [u0] at h0
  have h1 : DataW.trod enc Tryz.prog W 0 (fun _ => true) true n 28 (([b0, c2, c3, c0, c1, c4].drop 1).take (Tryz.prog.cellsOf 28)) = some x1 := hf 1 _ rfl
  rw [u1] at h1
  have h2 : DataW.trod enc Tryz.prog W 0 (fun _ => true) true n 33 (([b0, c2, c3, c0, c1, c4].drop 5).take (Tryz.prog.cellsOf 33)) = some x2 := hf 3 _ rfl
  rw [u2] at h2
  have hh : DataW.trod enc Tryz.prog W 0 (fun _ => true) true n 3 (([b0, c2, c3, c0, c1, c4].drop 0).take (Tryz.prog.cellsOf 3)) = some xh := hf 0 _ rfl
  rw [u3] at hh
  obtain ⟨hk, eh, _, _⟩ := DataW.trod_int Tryz.underlying3 hh
  simp at eh
  subst eh
  have h0 : DataW.trod enc Tryz.prog W 0 (fun _ => true) true n 32 [c0, c1] = some x0 := h0
  have h1 : DataW.trod enc Tryz.prog W 0 (fun _ => true) true n 28 [c2, c3] = some x1 := h1
  have h2 : DataW.trod enc Tryz.prog W 0 (fun _ => true) true n 33 [c4] = some x2 := h2
  obtain ⟨ys, m, _, hy, _, hylen, hg⟩ := DataW.trod_struct Tryz.underlying32 h0
  obtain ⟨zs, m', _, _, _, hzlen, hg'⟩ := DataW.trod_struct Tryz.underlying28 h1
  match ys, hylen, hg, zs, hzlen, hg' with
  | [y0, y1], _, hg, [z0, z1], _, hg' =>
   have k0 : DataW.trod enc Tryz.prog W 0 (fun _ => true) true m 29 (([c0, c1].drop 0).take (Tryz.prog.cellsOf 29)) = some y0 := hg 0 _ rfl
   rw [u4] at k0
   have k1 : DataW.trod enc Tryz.prog W 0 (fun _ => true) true m 30 (([c0, c1].drop 1).take (Tryz.prog.cellsOf 30)) = some y1 := hg 1 _ rfl
   rw [u5] at k1
   have g0 : DataW.trod enc Tryz.prog W 0 (fun _ => true) true m' 26 (([c2, c3].drop 0).take (Tryz.prog.cellsOf 26)) = some z0 := hg' 0 _ rfl
   rw [u6] at g0
   have g1 : DataW.trod enc Tryz.prog W 0 (fun _ => true) true m' 26 (([c2, c3].drop 1).take (Tryz.prog.cellsOf 26)) = some z1 := hg' 1 _ rfl
   rw [u6] at g1
   have k0 : DataW.trod enc Tryz.prog W 0 (fun _ => true) true m 29 [c0] = some y0 := k0
   have k1 : DataW.trod enc Tryz.prog W 0 (fun _ => true) true m 30 [c1] = some y1 := k1
   obtain ⟨ea, e2, _, w2⟩ := DataW.trod_int Tryz.underlying26 g0
   obtain ⟨eb, e3, _, w3⟩ := DataW.trod_int Tryz.underlying26 g1
   simp at e2 e3
   subst e2 e3
   obtain ⟨a0, l0, q0, rfl⟩ := slice_of_trod Tryz.underlying29 k0
   obtain ⟨a1, l1, q1, rfl⟩ := slice_of_trod Tryz.underlying30 k1
   obtain ⟨a2, l2, q2, rfl⟩ := slice_of_trod Tryz.underlying33 h2
   obtain ⟨ms, s0, b0⟩ := sees_open_sh (k := .i64) (d := y0.1) (p := y0.2) Tryz.underlying29 Tryz.underlying3 (by kernel_rfl) ⟨_, _, _, rfl⟩ ⟨m, k0⟩
   obtain ⟨is, ⟨s1, w1⟩, _, b1⟩ := opens_Inst_sh (d := y1.1) (p := y1.2) ⟨_, _, _, rfl⟩ ⟨m, k1⟩
   obtain ⟨rs, s2, b2⟩ := opens_Res_sh (d := x2.1) (p := x2.2) ⟨_, _, _, rfl⟩ ⟨n, h2⟩
   refine ⟨hk, _, _, ea, eb, _, ms, is, rs, rfl, ⟨s0, s1, w1⟩, s2, ⟨bounds_u64 w2, bounds_u64 w3⟩, fun hall => ?_⟩
   have hd : d = .agg [xh.1, x1.1, x0.1, x2.1] := congrArg (·.1) hx
   have hd0 : x0.1 = .agg [y0.1, y1.1] := congrArg (·.1) hy
   rw [hd, DataW.weights, Tryz.underlying35] at hall
   simp only [DataW.weightsEach, List.map_cons, List.map_nil, List.all_append, Bool.and_eq_true] at hall
   have hall0 := hall.2.2.1
   rw [hd0, DataW.weights, Tryz.underlying32] at hall0
   simp only [DataW.weightsEach, List.map_cons, List.map_nil, List.all_append, Bool.and_eq_true] at hall0
   have b8 : Tryz.prog.bytesOf 3 = 8 := by kernel_rfl
   have r0 := b0 hall0.1
   rw [b8] at r0
   exact ⟨by unfold reachBytes at r0; omega, b1 hall0.2.1, b2 (by first | exact hall.2.2.2 | exact hall.2.2.2.1)⟩
end Go.Proofs.YtkcppeahdfboeaaGreat
