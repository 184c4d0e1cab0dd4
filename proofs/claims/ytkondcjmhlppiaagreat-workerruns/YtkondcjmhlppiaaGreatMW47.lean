/-
  E11LClone
  E11LNew
  E11LTrace
  Y23Plain
  E11Awake
  W11Safe
  W11Err
  E11Open
  W23Opens
  Y23Run
  W23Pr
  W11Ends
  W11EndsB
-/
import Derived.Test.YtkondcjmhlppiaaGreatMW46
import Derived.Test.YtkondcjmhlppiaaGreatMW33
import Derived.Test.YtkondcjmhlppiaaGreatMW44
import Derived.Test.YtkondcjmhlppiaaGreatMW0
import Derived.Test.YtkondcjmhlppiaaGreatMW45
import Derived.Test.YtkondcjmhlppiaaGreatMW9
import Derived.ProofKit
namespace Go.Proofs.YtkondcjmhlppiaaGreat
open Go.RowKit
set_option linter.unusedVariables false
set_option linter.unusedSimpArgs false
set_option maxRecDepth 100000
open Go.ChangeShapes Go.WideShapes Go.ChangeAt Go.RowKit
theorem own_emptyE (w : World) (e : TypeId) (k : IntKind) : (w.alloc (.cells #[] e)).ownsRow w.heap.size e 1 (.slice (some ⟨w.heap.size, 0, none⟩) 0 0) ([] : List Int).length (([] : List Int).map (Value.int k)) := by
 refine ⟨rfl, .inr ⟨w.heap.size, 0, #[], rfl, Nat.le_refl _, ?_, Nat.le_refl _, by simp [maxLen], rfl, rfl⟩⟩
 show (w.heap.push _)[w.heap.size]? = _
 simp
theorem grown_newE {w w1 : World} {o : Obj} (hg : (w.alloc o).grownBy w1 (some w.heap.size)) : Below w.heap.size w w1 :=
 ((Below.refl w.heap.size w).alloc (Nat.le_refl _) o).grown hg (by simp) (fun k hk => (by have h : w.heap.size = k := Option.some.inj hk; omega))
set_option maxHeartbeats 800000 in
theorem mcloneN (v : Value) (xs : List Int) (w : World) (hs : Sees .i64 w v xs) (hl : xs.length <= 1048576) :
  Calls Tryz.prog 35 #[v] w fun e w' => ∃ u, e = .returned u /\ Sees .i64 w' u xs /\ (xs = [] ∨ ∀ j, u.ownBlock = some j -> w.heap.size <= j) /\ Below w.heap.size w w' := by
 obtain ⟨i0, hi, hz0, hz1, hz2⟩ := info_parts infoInt9
 have HS := keepJ hs
 have hwf := hs.wf
 obtain ⟨a, cap, rfl, h1, h2, h3, h4, h5⟩ := hs
 cases a with
 | none =>
  obtain rfl : xs = [] := by
   by_cases h : xs = []
   ·exact h
   ·obtain ⟨_, _, e, _⟩ := h5 h
    cases e
  obtain rfl := h3 rfl
  clear h5
  have heq : ∀ wx : World, (Go.binOp .eql 29 (.slice none 0 0) (.slice none 0 0)).run Tryz.prog wx = .ok (.bool true) wx := fun _ => by kernel_rfl
  go_enter Tryz.func35, Tryz.ntmps35
  go_wp2
  go_ret
  first
   | exact ⟨_, rfl, HS.out, .inl rfl, Below.refl _ _⟩
   | exact ⟨_, rfl, HS.out, Below.refl _ _⟩
 | some ad =>
  obtain ⟨bb, off, q⟩ := ad
  have heq : ∀ wx : World, (Go.binOp .eql 29 (.slice (some ⟨bb, off, q⟩) xs.length cap) (.slice none 0 0)).run Tryz.prog wx = .ok (.bool false) wx := fun _ => by kernel_rfl
  clear h5
  go_enter Tryz.func35, Tryz.ntmps35
  go_wp2_with (at_builtin; go_must (refine wpList_append_sees rfl (.tmp 5) (.tmp 6) 29 rfl w.heap.size 3 i0 (.int .i64 0) 8 Tryz.underlying29 hi hz0 hz1 hz2 rfl .i64 (.slice (some ⟨w.heap.size, 0, none⟩) 0 0) [] rfl (own_emptyE w _ _) _ xs rfl (HS.out.below ((Below.refl _ _).alloc (Nat.le_refl _) _) (Nat.le_refl _)) (by unfold maxLen; simp; omega) (by simp; omega) (by simp) ?_); intro v' w1 hown1 hg1)
  go_ret
  have ho : w1.ownsRow w.heap.size 3 1 v' xs.length (xs.map (Value.int .i64)) := by simpa using hown1
  refine ⟨_, rfl, Sees.own ho hwf, ?_, grown_newE hg1⟩
  by_cases h : xs = []
  ·exact .inl h
  ·refine .inr fun j hj => ?_
   obtain ⟨g, c, rfl, hb, _⟩ := own_block ho (List.length_pos_iff.2 h)
   have : g = j := Option.some.inj hj
   omega
set_option maxHeartbeats 800000 in
theorem mcloneI (cb co ccap : Nat) (xs : List In) (w : World) (hs : SeesI w (.slice (some ⟨cb, co, none⟩) xs.length ccap) xs) (hl : xs.length <= 1048576) :
  Calls Tryz.prog 36 #[.slice (some ⟨cb, co, none⟩) xs.length ccap] w fun e w' => ∃ u, e = .returned u /\ w'.ownsRow w.heap.size 60 5 u xs.length (flat xs) /\ Below w.heap.size w w' := by
 obtain ⟨i0, hi, hz0, hz1, hz2⟩ := info_parts infoInst9
 have HS := keepJ hs
 have heq : ∀ wx : World, (Go.binOp .eql 30 (.slice (some ⟨cb, co, none⟩) xs.length ccap) (.slice none 0 0)).run Tryz.prog wx = .ok (.bool false) wx := fun _ => by kernel_rfl
 clear hs
 go_enter Tryz.func36, Tryz.ntmps36
 go_wp2_with (at_builtin; go_must (refine wpList_append_seesI rfl (.tmp 5) (.tmp 6) 30 rfl w.heap.size 60 i0 (instV 0 0 0 0 0) Tryz.underlying30 hi hz0 hz1 hz2 rfl (.slice (some ⟨w.heap.size, 0, none⟩) 0 0) [] rfl (own_empty w _) _ xs rfl (HS.out.below ((Below.refl _ _).alloc (Nat.le_refl _) _)) (by unfold maxLen; simp; omega) (by simp; omega) (by simp) ?_); intro v' w1 hown1 hg1)
 go_ret
 exact ⟨_, rfl, by simpa using hown1, grown_newE hg1⟩
section
variable {w : World} {b sb cb co ccap : Nat} {vm vc : Value} {ms : List Int} {xs : List In} {ev : Int × Int} {M : Mc}
theorem manswer_all {known : List St} (hK : Known xs ms.length known) (hS : Safe xs ms.length known M) (h : Mh w b sb vm cb co ccap ms xs ev M) (hm : M.mode = 1) (E : Int) (f : Bool) (v : Int) (o : Bool) (k u : Int) (hv : 0 <= v /\ v <= 18446744073709551615) :
  Calls Tryz.prog 24 #[.pointer (some ⟨b, 0, none⟩), resV E f v o k u] w fun e w' => e = .returned (.int .i64 0) /\ Chg w w' (fun k => k = b ∨ k = sb) /\ Mh w' b sb vm cb co ccap ms xs ev (answerE xs M E f v) := by
 have hsa := (safe_answer (E := E) (f := f) hK hS hm hv).1
 have hpn : M.pc + 1 < 64 := Nat.lt_of_lt_of_le hsa.pc hK.T.top
 refine (manswer_yes E f v o k u w h.ma hm h.code hS.pc hpn h.cn.1 hv rfl).mono ?_
 rintro e w' ⟨rfl, hg, hm'⟩
 have hc : Chg w w' (fun k => k = b ∨ k = sb) := Chg.of_grown hg (.inl rfl)
 exact ⟨rfl, hc, h.step hc hm' (h.sc.grown hg (show some sb ≠ some b from fun e => h.ne (Option.some.inj e).symm))⟩
end
abbrev evV (ev : Int × Int) : Value := .agg #[.int .u64 ev.1, .int .u64 ev.2]
set_option maxHeartbeats 800000 in
theorem mnew_nil (vm vc : Value) (ev : Int × Int) (w : World) :
  Calls Tryz.prog 21 #[.agg #[vm, vc], evV ev, .pointer none] w fun e w' => e = .returned (.tuple #[.pointer none, .int .i64 2]) /\ Below w.heap.size w w' := by
 go_enter Tryz.func21, Tryz.ntmps21
 go_wp2
 go_ret2
 exact ⟨rfl, by go_grown⟩
set_option maxHeartbeats 800000 in
theorem mnew_bad {vm vc : Value} {ms : List Int} {xs : List In} (ev : Int × Int) (sb : Nat) (w : World) (hm : Sees .i64 w vm ms) (hx : SeesI w vc xs) {P E : Int} (hj : Hid (judgeR ms xs = (P, E))) (hE : E ≠ 0) :
  Calls Tryz.prog 21 #[.agg #[vm, vc], evV ev, .pointer (some ⟨sb, 0, none⟩)] w fun e w' => e = .returned (.tuple #[.pointer none, .int .i64 E]) /\ Below w.heap.size w w' := by
 have hE1 : ¬ E = 0 := hE
 have hE2 : (E == 0) = false := by simpa using hE
 obtain ⟨V, HV, hBV⟩ : ∃ V, Hid ((w.alloc (.cells #[vm, vc] 32)).alloc (.cells #[.int .u64 ev.1, .int .u64 ev.2] 28) = V) /\ Below w.heap.size w V := ⟨_, rfl, by go_grown⟩
 have HMV := keepJ (hm.below hBV (Nat.le_refl _))
 have HXV := keepJ (hx.below hBV)
 clear hm hx
 go_enter Tryz.func21, Tryz.ntmps21
 go_wp2_with (go_at_call 8; rw [HV.out]; go_must (refine (ljudge_as HMV.out HXV.out hj).mono ?_); rintro e w4 ⟨rfl, hb4⟩)
 go_ret2
 exact ⟨rfl, hBV.trans (hb4.mono hBV.size)⟩
def NewOk (w w' : World) (sb : Nat) (ms : List Int) (xs : List In) (ev : Int × Int) (cs : List Int) (e : Ending) : Prop := ∃ (b cb' ccap' : Nat) (um : Value), e = .returned (.tuple #[.pointer (some ⟨b, 0, none⟩), .int .i64 0]) /\ w.heap.size <= b /\ Mh w' b sb um cb' 0 ccap' ms xs ev { startE with cs := cs } /\ Chg w w' (fun k => k = sb) /\ w.heap.size <= cb' /\ (ms = [] ∨ ∀ j, um.ownBlock = some j -> w.heap.size <= j)
theorem sees_ltE {k : IntKind} {w : World} {v : Value} {xs : List Int} (h : Sees k w v xs) {j : Nat} (hj : v.ownBlock = some j) : xs = [] ∨ j < w.heap.size := by
 obtain ⟨a, cap, rfl, hl, hm, hn0, hw, hs⟩ := h
 by_cases hne : xs = []
 ·exact .inl hne
 ·obtain ⟨b, off, rfl, hlt, _⟩ := hs hne
  have : b = j := Option.some.inj hj
  exact .inr (by omega)
set_option maxHeartbeats 1600000 in
theorem mnew_ok {vm : Value} {cb co ccap : Nat} {ms : List Int} {xs : List In} (ev : Int × Int) (sb : Nat) {ws cs : List Int} (w : World) (hm : Sees .i64 w vm ms) (hx : SeesI w (.slice (some ⟨cb, co, none⟩) xs.length ccap) xs) (hs : Sc w sb ws cs) (hj : Hid (judgeR ms xs = (0, 0))) (hml : ms.length <= 1048576) (hmsb : ms = [] ∨ vm.ownBlock ≠ some sb) (hcsb : cb ≠ sb) (hxl : 0 < xs.length /\ xs.length <= 64) :
  Calls Tryz.prog 21 #[.agg #[vm, .slice (some ⟨cb, co, none⟩) xs.length ccap], evV ev, .pointer (some ⟨sb, 0, none⟩)] w fun e w' => NewOk w w' sb ms xs ev cs e := by
 obtain ⟨V, HV, hBV, HmV, HeV⟩ : ∃ V, Hid ((w.alloc (.cells #[vm, .slice (some ⟨cb, co, none⟩) xs.length ccap] 32)).alloc (.cells #[.int .u64 ev.1, .int .u64 ev.2] 28) = V) /\ Below w.heap.size w V /\ Hid (Hp V w.heap.size 32 [vm, .slice (some ⟨cb, co, none⟩) xs.length ccap]) /\ Hid (Hp V (w.heap.size + 1) 28 [.int .u64 ev.1, .int .u64 ev.2]) :=
  ⟨_, rfl, by go_grown, (Hp.new w _ _).alloc _, by have := Hp.new (w.alloc (.cells #[vm, .slice (some ⟨cb, co, none⟩) xs.length ccap] 32)) [.int .u64 ev.1, .int .u64 ev.2] 28; rw [World.size_alloc] at this; exact this⟩
 have HMV := keepJ (hm.below hBV (Nat.le_refl _))
 have HXV := keepJ (hx.below hBV)
 have HSV := keepJ (hs.below hBV hs.lt)
 have hsl := hs.lt
 have hzV : w.heap.size + 2 <= V.heap.size := by have := HeV.out.lt; omega
 clear hm hx
 go_enter Tryz.func21, Tryz.ntmps21
 go_wp2_with (first
  | (go_at_call 8; rw [HV.out]; go_must (refine (ljudge_as HMV.out HXV.out hj).mono ?_); rintro e w4 ⟨rfl, hb4⟩; go_must (have HS4 := keepJ (HSV.out.below hb4 HSV.out.lt)))
  | (go_at_call 34; go_must (refine (wipe_any w4 HS4.out).mono ?_); rintro e w5 ⟨rfl, hs5, hg5⟩))
 have hB4 : Below w.heap.size w w4 := hBV.trans (hb4.mono hBV.size)
 have HC5 := keepJ ((Chg.of_below (S := fun k => k = sb) hB4).trans (Chg.of_grown (S := fun k => k = sb) hg5 rfl) (fun _ _ e => e))
 have hz4 := hb4.size
 have hz5 := hg5.size
 have HM5 := keepJ ((HmV.out.below hb4 HmV.out.lt).grown hg5 (show some w.heap.size ≠ some sb from fun e => by have := Option.some.inj e; omega))
 have HE5 := keepJ ((HeV.out.below hb4 HeV.out.lt).grown hg5 (show some (w.heap.size + 1) ≠ some sb from fun e => by have := Option.some.inj e; omega))
 have HMs5 := keepJ ((HMV.out.below hb4 (Nat.le_refl _)).kept hg5 hmsb)
 have HXs5 := keepJ ((HXV.out.below hb4).chg (Chg.of_grown (S := fun k => k = sb) hg5 rfl) hcsb)
 have HP : Hid (∀ wx : World, Below w5.heap.size w5 wx -> wx.cell? ⟨w.heap.size, 0, none⟩ = some vm /\ wx.cell? ⟨w.heap.size, 1, none⟩ = some (.slice (some ⟨cb, co, none⟩) xs.length ccap) /\ wx.cell? ⟨w.heap.size + 1, 0, none⟩ = some (.int .u64 ev.1) /\ wx.cell? ⟨w.heap.size + 1, 1, none⟩ = some (.int .u64 ev.2)) := fun wx hb => ⟨(HM5.out.below hb (by omega)).cell rfl, (HM5.out.below hb (by omega)).cell rfl, (HE5.out.below hb (by omega)).cell rfl, (HE5.out.below hb (by omega)).cell rfl⟩
 refine wp_region_held_drew (S := fun w' => w'.cell? ⟨w.heap.size, 0, none⟩ = some vm /\ w'.cell? ⟨w.heap.size, 1, none⟩ = some (.slice (some ⟨cb, co, none⟩) xs.length ccap) /\ w'.cell? ⟨w.heap.size + 1, 0, none⟩ = some (.int .u64 ev.1) /\ w'.cell? ⟨w.heap.size + 1, 1, none⟩ = some (.int .u64 ev.2)) (by kernel_rfl) (HP.out _ (below_drE (Below.refl _ _))) (fun hHeld => ?_)
 refine tkGo [0, 1, 2, 4, 5, 7] ?_
 repeat (refine tkO (v := ?_) rfl ?_ ?_; rotate_left; (intro wy hSw; (try dsimp only at hSw); go_simp; (first | done | with_reducible rfl)); try simp only [Act.put, p1q, p2q, p3q, p4q, p5q, p6q])
 refine tkEnd ?_
 refine runO 3 (by kernel_rfl) rfl (by rfl) (fun KK hK => ?_)
 go_simp
 go_at_call 35
 refine (mcloneN vm ms w5.drew HMs5.out hml).mono ?_
 rintro e w6 ⟨um, rfl, hum, hub', hb6'⟩
 have hub : ms = [] ∨ ∀ j, um.ownBlock = some j -> w5.heap.size <= j := hub'
 have HUM := keepJ hum
 obtain ⟨ma, mcap, rfl, _, _, _, _, _⟩ := hum
 have hb6 : Below w5.heap.size w5 w6 := below_undrew hb6'
 have hz6 := hb6.size
 go_simp
 refine hK.out _ _ (HP.out w6 hb6) (fun hHeld => ?_)
 clear hK KK
 try simp only [Act.put, p1q, p2q, p3q, p4q, p5q, p6q]
 have HX6 := keepJ (HXs5.out.below hb6)
 refine runO 6 (by kernel_rfl) rfl (by rfl) (fun KK hK => ?_)
 go_simp
 go_at_call 36
 refine (mcloneI cb co ccap xs w6 HX6.out (by omega)).mono ?_
 rintro e w7 ⟨uc, rfl, huc, hb7⟩
 have HUC := keepJ huc
 obtain ⟨g, gcap, rfl, hg1, hg2, _⟩ := own_block huc hxl.1
 clear huc
 go_simp
 have hz7 := hb7.size
 have hB7 : Below w5.heap.size w5 w7 := hb6.trans (hb7.mono hz6)
 refine hK.out _ _ (HP.out w7 hB7) (fun hHeld => ?_)
 clear hK KK
 try simp only [Act.put, p1q, p2q, p3q, p4q, p5q, p6q]
 refine tkGo [8] ?_
 repeat (refine tkO (v := ?_) rfl ?_ ?_; rotate_left; (intro wy hSw; (try dsimp only at hSw); go_simp; (first | done | with_reducible rfl)); try simp only [Act.put, p1q, p2q, p3q, p4q, p5q, p6q])
 refine tkEnd ?_
 refine runO 9 (by kernel_rfl) rfl (by rfl) (fun KK hK => ?_)
 go_simp
 obtain ⟨F, HF, HhF, hBF⟩ : ∃ F, Hid (w7.alloc (.cells (((((Tryz.zeroCells124.setIfInBounds 0 (.int .u64 ev.1)).setIfInBounds 1 (.int .u64 ev.2)).setIfInBounds 2 (.slice ma ms.length mcap)).setIfInBounds 3 (.slice (some ⟨g, 0, none⟩) xs.length gcap)).setIfInBounds 4 (.pointer (some ⟨sb, 0, none⟩))) 124) = F) /\ Hid (Hp F w7.heap.size 124 (mcC (.slice ma ms.length mcap) (.slice (some ⟨g, 0, none⟩) xs.length gcap) ev sb { startE with cs := cs })) /\ Below w7.heap.size w7 F :=
  ⟨_, rfl, Hp.new w7 (mcC (.slice ma ms.length mcap) (.slice (some ⟨g, 0, none⟩) xs.length gcap) ev sb { startE with cs := cs }) _, (Below.refl _ _).alloc (Nat.le_refl _) _⟩
 rw [HF.out]
 have hBF5 : Below w5.heap.size w5 F := hB7.trans (hBF.mono (by omega))
 refine hK.out _ _ (HP.out F hBF5) (fun hHeld => ?_)
 clear hK KK
 try simp only [Act.put, p1q, p2q, p3q, p4q, p5q, p6q]
 refine tkGo [10, 11] ?_
 repeat (refine tkO (v := ?_) rfl ?_ ?_; rotate_left; (intro wy hSw; (try dsimp only at hSw); go_simp; (first | done | with_reducible rfl)); try simp only [Act.put, p1q, p2q, p3q, p4q, p5q, p6q])
 refine tkEnd ?_
 refine wpAnyH_done (by kernel_rfl) ?_ _
 go_wp2
 go_ret2
 have hz : WR (List.replicate 8 (0 : Int)) := ⟨rfl, fun r hr => by rw [show (List.replicate 8 (0 : Int)).getD r 0 = 0 by rw [List.getD_eq_getElem?_getD, List.getElem?_replicate, if_pos hr]; rfl]; decide⟩
 have hsF := (hs5.below hBF5 hs5.lt)
 refine ⟨w7.heap.size, g, gcap, .slice ma ms.length mcap, rfl, by omega, ⟨⟨HhF.out, hz, show 0 < 64 by decide⟩, hsF, (HUM.out.below hb7 (Nat.le_refl _)).below hBF (Nat.le_refl _), (own_seesI HUC.out).below hBF, by omega, ?_, by omega, by omega⟩, HC5.out.trans (Chg.of_below (S := fun _ => False) hBF5) (fun _ _ e => e.elim), by omega, hub.imp id fun h j hj => by have := h j hj; omega⟩
 by_cases hms : ms = []
 ·exact .inl hms
 refine .inr ⟨fun e => ?_, fun e => ?_⟩
 ·rcases sees_ltE HUM.out e with h | h
  ·exact hms h
  ·omega
 ·rcases hub with h | h
  ·exact hms h
  ·have := h _ e; omega
theorem inq_errorE {ms : List Int} {xs : List In} {P E : Int} (h : inqR ms xs = .error (P, E)) (hr : ∀ e : Nat × Int, runK xs ms.length xs.length = .error e -> e.2 ≠ 0) : E ≠ 0 := by
 unfold inqR at h
 split at h
 ·injection h with h; injection h with h1 h2; subst h2; decide
 split at h
 ·rename_i hE
  injection h with h; injection h with h1 h2; subst h2; exact hE
 split at h
 ·rename_i e he
  injection h with h; injection h with h1 h2; subst h2; exact hr e he
 ·cases h
theorem judge_known {ms : List Int} {xs : List In} {K : Kn} (h : inqR ms xs = .ok K) : mapsJ ms = true /\ (∃ known, Known xs ms.length known /\ Pull xs ms.length xs.length K known) /\ judgeR ms xs = (0, 0) := by
 have hj : judgeR ms xs = (0, 0) := by unfold judgeR; rw [h]
 unfold inqR at h
 split at h
 ·cases h
 rename_i hm
 split at h
 ·cases h
 rename_i hE
 have hT : Taken xs := check_ok.1 (show errL xs = 0 from Decidable.of_not_not hE)
 refine ⟨by simpa using hm, ?_, hj⟩
 split at h
 ·cases h
 rename_i K' hr
 injection h with h
 subst h
 rcases pull_run (nm := ms.length) hT xs.length (Nat.le_refl _) with ⟨e, h1, _⟩ | ⟨K2, known, h1, h2, hP⟩
 ·rw [hr] at h1; cases h1
 ·rw [hr] at h1
  injection h1 with h1
  subst h1
  exact ⟨known, ⟨hT, h2⟩, hP⟩
theorem maps_len {ms : List Int} (h : mapsJ ms = true) : ms.length <= 4 := by
 unfold mapsJ at h
 simp at h
 exact h.1
def lenV : Value -> Nat
 | .slice _ n _ => n
 | _ => 0
theorem own_lenV {w : World} {base : Nat} {e : TypeId} {z : Nat} {v : Value} {n : Nat} {xs : List Value} (h : w.ownsRow base e z v n xs) : lenV v = n := by
 rcases h with ⟨h1, ⟨rfl, h2⟩ | ⟨g, cap, cur, rfl, _⟩⟩
 ·exact h2.symm
 ·rfl
theorem step_actE {w wr w1 : World} {B : Nat} {e : TypeId} {v v' : Value} {o : Obj} {ys : List Ac} {A : Ac} (hown : wr.ownsRow B e 7 v ys.length (flatX ys)) (hown' : w1.ownsRow B e 7 v' (ys.length + 1) (flatX ys ++ acC A)) : w1.ownsRow B e 7 v' (ys ++ [A]).length (flatX (ys ++ [A])) := by
 rw [<- flatX_app]
 simpa [flatX] using hown'
theorem act_more {w0 w1 Y w2 : World} {B W b sb cb co ccap : Nat} {um : Value} {ms : List Int} {xs : List In} {ev : Int × Int} {M1 : Mc} {e : TypeId} {va v' : Value} {o : Obj} {A : List Ac} {A1 : Ac}
  (hown1 : w1.ownsRow B e 7 va A.length (flatX A)) (hbY : Below w1.heap.size w1 Y) (hzY : Y.heap.size = w1.heap.size + 1) (HaY : Hp Y w1.heap.size 71 (acC A1)) (hM1 : Mh w1 b sb um cb co ccap ms xs ev M1)
  (hlt : b < B /\ sb < B /\ cb < B) (hub : ms = [] ∨ ∀ j, um.ownBlock = some j -> j < B) (hB1 : Below W w0 w1) (hW : W <= B) (hw0 : W <= w0.heap.size)
  (hown' : w2.ownsRow B e 7 v' (A.length + 1) (flatX A ++ acC A1)) (hgrow : (Y.alloc o).grownBy w2 va.ownBlock) :
  w2.ownsRow B e 7 v' (A ++ [A1]).length (flatX (A ++ [A1])) /\ Hp w2 w1.heap.size 71 (acC A1) /\ Below W w0 w2 /\ Mh w2 b sb um cb co ccap ms xs ev M1 /\ w1.heap.size + 2 <= w2.heap.size := by
 have hC : Chg Y w2 (fun k => va.ownBlock = some k) := (Chg.of_below (S := fun k => va.ownBlock = some k) (below_alloc10 Y o)).trans (Chg.of_grown' hgrow (S := fun k => va.ownBlock = some k) (fun b hb => hb)) (fun _ _ e => e)
 have hz : Y.heap.size + 1 <= w2.heap.size := by
  have := hgrow.size
  rw [World.size_alloc] at this
  exact this
 have hs := hB1.size
 have hl := fun k (hk : va.ownBlock = some k) => hown1.lt k hk
 have hY : Below W w1 Y := hbY.mono (by omega)
 refine ⟨step_actE (w := w1) (o := o) hown1 hown', HaY.chg hC (fun e => by have := (hl _ e).2; omega), (hB1.trans hY).trans (hC.below (fun k e => by have := (hl k e).1; omega) (by omega)), (hM1.below hbY).apart hC (fun e => by have := (hl _ e).1; omega) (fun e => by have := (hl _ e).1; omega) (fun e => by have := (hl _ e).1; omega) (hub.imp id fun h j hj e => by have := h j hj; have := (hl _ e).1; omega), by omega⟩
def TraceOk (w w' : World) (T : List Ac) (e : Ending) : Prop := ∃ v, e = .returned (.tuple #[v, .int .i64 0]) /\ w'.ownsRow w.heap.size 71 7 v T.length (flatX T) /\ Below w.heap.size w w'
set_option maxHeartbeats 6400000 in
theorem mtrace_ok {vm : Value} {cb co ccap : Nat} {ms : List Int} {xs : List In} (ev : Int × Int) (hev : (0 <= ev.1 /\ ev.1 <= 18446744073709551615) /\ 0 <= ev.2 /\ ev.2 <= 18446744073709551615) {vr : Value} {rs : List Rs} (w : World) (hm : Sees .i64 w vm ms) (hx : SeesI w (.slice (some ⟨cb, co, none⟩) xs.length ccap) xs) (hrs : SeesR w vr rs) {K : Kn} (hK : inqR ms xs = .ok K) {T : List Ac} (HT : Hid (traceE ms xs ev 257 startE rs = T)) :
  Calls Tryz.prog 13 #[.agg #[vm, .slice (some ⟨cb, co, none⟩) xs.length ccap], evV ev, vr] w fun e w' => TraceOk w w' T e := by
 obtain ⟨hmj, ⟨known, hKn, _⟩, hj0⟩ := judge_known hK
 have hj : Hid (judgeR ms xs = (0, 0)) := hj0
 have hml := maps_len hmj
 have hxl : 0 < xs.length /\ xs.length <= 64 := ⟨hKn.T.pos, hKn.T.top⟩
 obtain ⟨i0, hi, hz0, hz1, hz2⟩ := info_parts Tryz.infoActE
 obtain ⟨V, HV, hBV, HmV, HeV⟩ : ∃ V, Hid ((w.alloc (.cells #[vm, .slice (some ⟨cb, co, none⟩) xs.length ccap] 32)).alloc (.cells #[.int .u64 ev.1, .int .u64 ev.2] 28) = V) /\ Below w.heap.size w V /\ Hid (Hp V w.heap.size 32 [vm, .slice (some ⟨cb, co, none⟩) xs.length ccap]) /\ Hid (Hp V (w.heap.size + 1) 28 [.int .u64 ev.1, .int .u64 ev.2]) :=
  ⟨_, rfl, by go_grown, (Hp.new w _ _).alloc _, by have := Hp.new (w.alloc (.cells #[vm, .slice (some ⟨cb, co, none⟩) xs.length ccap] 32)) [.int .u64 ev.1, .int .u64 ev.2] 28; rw [World.size_alloc] at this; exact this⟩
 have HMV := keepJ (hm.below hBV (Nat.le_refl _))
 have HXV := keepJ (hx.below hBV)
 have HP : Hid (∀ wx : World, Below V.heap.size V wx -> wx.cell? ⟨w.heap.size, 0, none⟩ = some vm /\ wx.cell? ⟨w.heap.size, 1, none⟩ = some (.slice (some ⟨cb, co, none⟩) xs.length ccap) /\ wx.cell? ⟨w.heap.size + 1, 0, none⟩ = some (.int .u64 ev.1) /\ wx.cell? ⟨w.heap.size + 1, 1, none⟩ = some (.int .u64 ev.2)) := fun wx hb => ⟨(HmV.out.below hb HmV.out.lt).cell rfl, (HmV.out.below hb HmV.out.lt).cell rfl, (HeV.out.below hb HeV.out.lt).cell rfl, (HeV.out.below hb HeV.out.lt).cell rfl⟩
 have hcbw : cb < w.heap.size := (codeL hx hxl.1).2.1
 have hmbw : ms = [] ∨ ∀ j, vm.ownBlock = some j -> j < w.heap.size := by
  by_cases h : ms = []
  ·exact .inl h
  ·exact .inr fun j hj => (sees_ltE hm hj).resolve_left h
 have HRS := keepJ hrs
 obtain ⟨ra, rcap, rfl⟩ : ∃ a c, vr = .slice a rs.length c := by obtain ⟨a, c, h, _⟩ := hrs; exact ⟨a, c, h⟩
 clear hm hx hrs
 have hzV : w.heap.size + 2 <= V.heap.size := by have := HeV.out.lt; omega
 go_enter Tryz.func13, Tryz.ntmps13
 go_wp2
 rw [HV.out]
 go_region_held3 (fun w' => w'.cell? ⟨w.heap.size, 0, none⟩ = some vm /\ w'.cell? ⟨w.heap.size, 1, none⟩ = some (.slice (some ⟨cb, co, none⟩) xs.length ccap) /\ w'.cell? ⟨w.heap.size + 1, 0, none⟩ = some (.int .u64 ev.1) /\ w'.cell? ⟨w.heap.size + 1, 1, none⟩ = some (.int .u64 ev.2))
  (first | with_reducible exact hS4 | with_reducible exact hS5 | exact HP.out V (Below.refl _ _))
  (first
   | (go_at_call 17; go_must (refine (new_any V.drew).mono ?_); rintro e w4 ⟨rfl, hs4, hz4, hb4'⟩; go_must (have hb4 : Below V.heap.size V w4 := below_undrew hb4'; have hS4 := HP.out w4 hb4; have HM4 := keepJ (HMV.out.below hb4 (Nat.le_refl _)); have HX4 := keepJ (HXV.out.below hb4); have HS4 := keepJ (show Sc w4 V.heap.size nought nought from hs4); clear hs4))
   | (go_at_call 21; go_must (refine (mnew_ok ev V.heap.size w4 HM4.out HX4.out HS4.out hj (by omega) (hmbw.imp id fun h e => by have := h _ e; omega) (by omega) hxl).mono ?_); rintro e w5 ⟨b, cb', ccap', um, rfl, hbb, hmh, hch, hcc, hub⟩; go_must (have hC5 : Chg V w5 (fun k => k = V.heap.size) := (Chg.of_below (S := fun k => k = V.heap.size) hb4).trans hch (fun _ _ e => e); have hB5 : Below V.heap.size V w5 := hC5.below (fun k e => by omega) (Nat.le_refl _); have hS5 := HP.out w5 hB5; have HMH := keepJ hmh; clear hmh)))
 have hb5 := HMH.out.ma.hp.lt
 have hs5 := HMH.out.sc.lt
 have hc5 : cb' < w5.heap.size := (codeL HMH.out.code hxl.1).2.1
 have hub5 : ms = [] ∨ ∀ j, um.ownBlock = some j -> j < w5.heap.size := by
  by_cases h : ms = []
  ·exact .inl h
  ·exact .inr fun j hj => (sees_ltE HMH.out.maps hj).resolve_left h
 have hBw5 : Below w.heap.size w w5 := hBV.trans (hB5.mono hBV.size)
 have hzw5 := hBw5.size
 have hz1' := hz1
 have hbw0 : w.heap.size + 2 <= b := by have := hb4.size; omega
 clear hS4 hS5 hC5 hch hb4' hz1
 go_wp2
 go_loopw [2, 10] (fun vr va0 wr => ∃ (M : Mc) (l : List Rs) (A : List Ac) (ra' : Option Addr) (rcap' : Nat) (va : Value), vr = .slice ra' l.length rcap' /\ va = va0 /\ Safe xs ms.length known M /\ M.mode = 0 /\ Mh wr b V.heap.size um cb' 0 ccap' ms xs ev M /\ pot xs M <= 256 /\ A.length = M.steps /\ Hid (A ++ traceE ms xs ev (257 - M.steps) M l = T) /\ SeesR w (.slice ra' l.length rcap') l /\ wr.ownsRow w5.heap.size 71 7 va A.length (flatX A) /\ Below w.heap.size w wr /\ w5.heap.size <= wr.heap.size) (fun _ va _ => 300 - lenV va)
 case atStart =>
  have hp0 : pot xs startE <= 256 := Int.le_trans (pot_start hKn.T) (cost_256 hKn.T)
  exact ⟨startE, rs, [], ra, rcap, _, rfl, rfl, safe_start hKn, rfl, HMH.out, hp0, rfl, by show [] ++ _ = _; rw [List.nil_append]; exact HT.out, HRS.out, World.ownsRow_nil _ _ _ _, hBw5, Nat.le_refl _⟩
 case round =>
  obtain ⟨M, l, A, ra', rcap', va, rfl, rfl, hS, m0, hmh, hpot, hA, HTr, hr, ho, hbw, hzr⟩ := hrel
  have hpl := hS.pot_le hKn.T
  rw [if_pos m0] at hpl
  have hst : M.steps <= 255 := by omega
  obtain ⟨hsafe, hpt, hs1⟩ := safe_run (ms := ms) hKn hS m0 hev
  have hkd := step_kinds (ms := ms) (xs := xs) (ev := ev) m0
  rw [show 257 - M.steps = (256 - M.steps) + 1 by omega] at HTr
  have HStep := keepJ (mstep_all hKn hS hev hmh (by omega))
  have HTe := keepJ (fun h => trace_end (ms := ms) (xs := xs) (ev := ev) (M := M) (n := 256 - M.steps) (rs := l) h)
  have HTn := keepJ (fun h => trace_none (ms := ms) (xs := xs) (ev := ev) (M := M) (n := 256 - M.steps) h)
  have HTa := keepJ (fun r l' h => trace_ask (ms := ms) (xs := xs) (ev := ev) (M := M) (n := 256 - M.steps) (r := r) (rs := l') h)
  have HTo := keepJ (fun h => trace_on (ms := ms) (xs := xs) (ev := ev) (M := M) (n := 256 - M.steps) (rs := l) h)
  obtain ⟨⟨⟨ak, apc, am, ao, aq, av, an⟩, M1⟩, HR⟩ : ∃ R, Hid (stepE ms xs ev M = R) := ⟨_, rfl⟩
  rw [HR.out] at hkd hsafe hpt hs1
  simp only at hkd hsafe hpt hs1
  have HStep : Hid (Calls Tryz.prog 23 #[.pointer (some ⟨b, 0, none⟩)] wr fun e w' => e = .returned (actV ak apc am ao aq av an) /\ Chg wr w' (fun k => k = b ∨ k = V.heap.size) /\ Mh w' b V.heap.size um cb' 0 ccap' ms xs ev M1) := by
   have := HStep.out
   rw [HR.out] at this
   exact this
  have HTe : Hid (ak = 4 -> A ++ [⟨ak, apc, am, ao, aq, av, an⟩] = T) := fun h => by rw [<- HTr.out, HTe.out (by rw [HR.out]; exact h), HR.out]
  have HTo : Hid (ak ≠ 4 /\ ak ≠ 2 -> (A ++ [⟨ak, apc, am, ao, aq, av, an⟩]) ++ traceE ms xs ev (257 - M1.steps) M1 l = T) := fun h => by
   rw [<- HTr.out, HTo.out (by rw [HR.out]; exact h), HR.out, show 257 - M1.steps = 256 - M.steps by omega, List.append_assoc]
   rfl
  have HTn : Hid (ak = 2 -> l = [] -> A ++ [⟨ak, apc, am, ao, aq, av, an⟩] = T) := fun h e => by subst e; rw [<- HTr.out, HTn.out (by rw [HR.out]; exact h), HR.out]
  have HTa : Hid (∀ r l', ak = 2 -> l = r :: l' -> (A ++ [⟨ak, apc, am, ao, aq, av, an⟩]) ++ traceE ms xs ev (257 - M1.steps) (answerE xs M1 r.E r.f r.v) l' = T) := fun r l' h e => by
   subst e
   rw [<- HTr.out, HTa.out r l' (by rw [HR.out]; exact h), HR.out, show 257 - M1.steps = 256 - M.steps by omega, List.append_assoc]
   rfl
  clear HTr HR
  have h4 : (ak = 4 /\ M1.mode = 2 /\ (ak == 4) = true /\ (ak == 2) = false) ∨ (ak = 2 /\ M1.mode = 1 /\ (ak == 4) = false /\ (ak == 2) = true /\ l = []) ∨ (ak = 2 /\ M1.mode = 1 /\ (ak == 4) = false /\ (ak == 2) = true /\ ∃ r l', l = r :: l') ∨ ((ak = 1 ∨ ak = 3) /\ M1.mode = 0 /\ (ak == 4) = false /\ (ak == 2) = false) := by
   rcases hkd with ⟨g, g'⟩ | ⟨g, g'⟩ | ⟨g, g'⟩
   ·exact .inl ⟨g, g', by simp [g], by simp [g]⟩
   ·cases l with
    | nil => exact .inr (.inl ⟨g, g', by simp [g], by simp [g], rfl⟩)
    | cons r l' => exact .inr (.inr (.inl ⟨g, g', by simp [g], by simp [g], r, l', rfl⟩))
   ·exact .inr (.inr (.inr ⟨g, g', by simp; omega, by simp; omega⟩))
  clear hkd
  rcases h4 with ⟨hk, hm1, k4, k2⟩ | ⟨hk, hm1, k4, k2, hl1⟩ | ⟨hk, hm1, k4, k2, r, l', hl1⟩ | ⟨hk, hm1, k4, k2⟩
  all_goals (have HK := keepJ hk; clear hk; (try subst hl1))
  rotate_left 2
  have hsa := safe_answer (E := r.E) (f := r.f) hKn hsafe hm1 (v := r.v) (by obtain ⟨_, _, _, _, _, _, hw, _⟩ := hr; exact hw r (by simp))
  have hrw : r.wf := by obtain ⟨_, _, _, _, _, _, hw, _⟩ := hr; exact hw r (by simp)
  have HCut := keepJ hr.cut
  have hrl : l'.length + 1 <= rcap' /\ rcap' <= 9223372036854775807 := by
   obtain ⟨a1, c1, e, g1, g2, _⟩ := hr
   injection e with e1 e2 e3
   subst e3
   unfold maxLen at g2
   exact ⟨g1, by omega⟩
  obtain ⟨rb, ro, hrb, hrlt, hat⟩ : ∃ b off, ra' = some ⟨b, off, none⟩ /\ b < w.heap.size /\ AtR w b off r := by
   obtain ⟨a1, c1, e, _, _, _, _, g⟩ := hr
   injection e with e1 e2 e3
   subst e1
   obtain ⟨b, off, rfl, hlt, hat⟩ := g (by simp)
   exact ⟨b, off, rfl, hlt, by have := hat 0 (by simp); rw [Nat.zero_mul, Nat.add_zero] at this; exact this⟩
  subst hrb
  have HAt := keepJ hat
  have hcut : ∀ wx : World, (Instr.slice 33 (.slice (some ⟨rb, ro, none⟩) (l'.length + 1) rcap') (some (.int .i64 1)) none none).run Tryz.prog wx = .ok (cutR (some ⟨rb, ro, none⟩) (l'.length + 1) rcap') wx := fun wx => run_cutR _ _ _ (by omega) hrl.1 wx
  simp only [List.length_cons]
  rotate_left 2
  all_goals go_wp2_with (first
   | (go_at_call 23; go_must (refine HStep.out.mono ?_); rintro e w1 ⟨rfl, hc1, hmh1⟩; go_must (have hz1 := hc1.size; have hown1 := own_chg ho hc1 (fun k hk e => by have := (ho.lt k hk).1; omega); have HMH1 := keepJ hmh1; have HB1 := keepJ (hbw.trans (hc1.below (B := w.heap.size) (fun k e => by omega) hbw.size)); obtain ⟨Y, HY, HaY, hbY, hzY⟩ : ∃ Y, Hid (w1.alloc (.cells #[.int .i64 ak, .int .i64 apc, .int .i64 am, .int .i64 ao, .int .u64 aq, .int .u64 av, .int .u64 an] 71) = Y) /\ Hid (Hp Y w1.heap.size 71 (actC ak apc am ao aq av an)) /\ Below w1.heap.size w1 Y /\ Y.heap.size = w1.heap.size + 1 := ⟨_, rfl, Hp.new w1 _ _, (Below.refl _ _).alloc (Nat.le_refl _) _, by simp⟩; have hownY := own_below hown1 hbY (Nat.le_refl _); (have y0 := HaY.out.cell (j := 0) rfl); (have y1 := HaY.out.cell (j := 1) rfl); (have y2 := HaY.out.cell (j := 2) rfl); (have y3 := HaY.out.cell (j := 3) rfl); (have y4 := HaY.out.cell (j := 4) rfl); (have y5 := HaY.out.cell (j := 5) rfl); (have y6 := HaY.out.cell (j := 6) rfl); clear hmh1))
   | (at_builtin; rw [HY.out]; go_must (refine wpList_append_own _ rfl _ _ 63 rfl w5.heap.size 71 i0 _ 7 56 Tryz.underlying63 hi hz0 hz1' hz2 rfl (by decide) _ _ _ rfl (hownY.alloc _) ⟨_, 0, none⟩ 1 1 (actC ak apc am ao aq av an) rfl rfl (seven_new _ _ _ _ hzY.symm) (seven_one ⟨ak, apc, am, ao, aq, av, an⟩) (by unfold maxLen; omega) (by omega) (by simp; omega) ?_); intro v' w2 hown' hgrow _; have R := act_more (A1 := ⟨ak, apc, am, ao, aq, av, an⟩) hown1 hbY hzY HaY.out HMH1.out ⟨hb5, hs5, hc5⟩ hub5 HB1.out (W := w.heap.size) hzw5 (Nat.le_refl _) hown' hgrow; clear hown' hgrow; obtain ⟨hOW', hA2', hB2', hM2', hz2'⟩ := R; have HOW := keepJ hOW'; have HA2 := keepJ hA2'; have HB2 := keepJ hB2'; have HM2 := keepJ hM2'; have b0 := HA2.out.cell (j := 0) rfl; clear hOW' hA2' hB2' hM2'; (try (have hat2 := HAt.out.below HB2.out hrlt; obtain ⟨r0, r1, r2, r3, r4, r5⟩ := hat2)))
   | (go_at_call 24; go_must (refine (manswer_all hKn hsafe HM2.out hm1 r.E r.f r.v r.o r.k r.u hrw).mono ?_); rintro e w3 ⟨rfl, hc3, hm3⟩))
  ·go_ret2
   refine ⟨v', rfl, ?_, HB2.out⟩
   rw [<- HTe.out HK.out]
   exact own_low HOW.out hzw5
  ·go_ret2
   refine ⟨v', rfl, ?_, HB2.out⟩
   rw [<- HTn.out HK.out (by first | rfl | trivial)]
   exact own_low HOW.out hzw5
  ·go_roundw
   case rel =>
    have hz3 := hc3.size
    exact ⟨answerE xs M1 r.E r.f r.v, l', A ++ [⟨ak, apc, am, ao, aq, av, an⟩], _, _, v', rfl, rfl, hsa.1, rfl, hm3, by omega, by simp; omega, keepJ (HTa.out r l' HK.out (by first | rfl | trivial)), HCut.out, own_chg HOW.out hc3 (fun k hk e => by have := (HOW.out.lt k hk).1; omega), HB2.out.trans (hc3.below (fun k e => by omega) HB2.out.size), (by omega)⟩
   case measure =>
    rw [own_lenV HOW.out, own_lenV ho]
    simp
    omega
  ·go_roundw
   case rel => exact ⟨M1, l, A ++ [⟨ak, apc, am, ao, aq, av, an⟩], ra', rcap', v', rfl, rfl, hsafe, hm1, HM2.out, by omega, by simp; omega, keepJ (HTo.out (by have := HK.out; omega)), hr, HOW.out, HB2.out, (by omega)⟩
   case measure =>
    rw [own_lenV HOW.out, own_lenV ho]
    simp
    omega
structure Wk where
 md : Nat
 hk : Int
 qn : Int
 ev : Int × Int
 ve : Int
 pg : Int
 cl : Nat
 ms : List Int
 xs : List In
 M : Mc
 td : List To
def Wk.new : Wk := ⟨0, 0, 0, (0, 0), 0, 0, 0, [], [], startE, []⟩
def Wk.idle (M : Mc) (l : List To) : Wk := ⟨0, 0, 0, (0, 0), 0, 0, 0, [], [], M, l⟩
def Wk.take (k : Wk) (h n : Int) (e : Int × Int) : Int × Wk :=
 if h < 0 ∨ 3 < h then (2, k) else if k.md ≠ 0 then (42, k) else (0, ⟨1, h, n, e, 0, 0, 0, [], [], k.M, k.td⟩)
def Wk.enter (k : Wk) (v p : Int) (ms : List Int) (xs : List In) : Int × Wk :=
 if k.md ≠ 1 then (41, k) else if (judgeR ms xs).2 ≠ 0 then ((judgeR ms xs).2, k) else (0, ⟨2, k.hk, k.qn, k.ev, v, p, 0, ms, xs, { startE with cs := k.M.cs }, k.td⟩)
def Wk.skip (k : Wk) : Int × Wk := if k.md ≠ 1 then (41, k) else (0, Wk.idle k.M (k.td ++ [⟨k.hk, true, 0, 0, 0⟩]))
def Wk.did (k : Wk) (a : Ac) (M : Mc) : Wk :=
 if a.k = 2 then ⟨3, k.hk, k.qn, k.ev, k.ve, k.pg, k.cl + 1, k.ms, k.xs, M, k.td⟩
 else if a.k = 4 then Wk.idle M (k.td ++ [⟨k.hk, false, M.steps, k.cl, a.v⟩])
 else ⟨2, k.hk, k.qn, k.ev, k.ve, k.pg, k.cl, k.ms, k.xs, M, k.td⟩
def Wk.step (k : Wk) : Ac × Bool × Wk :=
 if k.md ≠ 2 then (Ac.nil, false, k) else ((stepE k.ms k.xs k.ev k.M).1, true, k.did (stepE k.ms k.xs k.ev k.M).1 (stepE k.ms k.xs k.ev k.M).2)
def Wk.answer (k : Wk) (E : Int) (f : Bool) (v : Int) : Int × Wk :=
 if k.md ≠ 3 then (41, k) else (0, ⟨2, k.hk, k.qn, k.ev, k.ve, k.pg, k.cl, k.ms, k.xs, answerE k.xs k.M E f v, k.td⟩)
def evIn (e : Int × Int) : Prop := (0 <= e.1 /\ e.1 <= 18446744073709551615) /\ 0 <= e.2 /\ e.2 <= 18446744073709551615
structure Wk.Ok (k : Wk) : Prop where
 md : k.md <= 3
 hk : 0 <= k.hk /\ k.hk <= 3
 ev : evIn k.ev
 ws : W16 k.M.ws
 cs : W16 k.M.cs
 run : 2 <= k.md -> ∃ known, Known k.xs k.ms.length known /\ Safe k.xs k.ms.length known k.M /\ pot k.xs k.M <= 256 /\ k.cl <= k.M.steps
 two : k.md = 2 -> k.M.mode = 0
 three : k.md = 3 -> k.M.mode = 1
theorem zero16 : W16 (List.replicate 16 0) := ⟨rfl, fun r hr => by rw [List.getD_eq_getElem?_getD, List.getElem?_replicate, if_pos hr]; decide⟩
theorem ev_zero : evIn (0, 0) := by unfold evIn; decide
theorem Wk.Ok.idle {M : Mc} (hw : W16 M.ws) (hc : W16 M.cs) (l : List To) : (Wk.idle M l).Ok :=
 ⟨by show 0 <= 3; omega, by show (0 : Int) <= 0 /\ (0 : Int) <= 3; omega, ev_zero, hw, hc, fun h => absurd (show 2 <= 0 from h) (by omega), fun h => absurd (show 0 = 2 from h) (by omega), fun h => absurd (show 0 = 3 from h) (by omega)⟩
theorem Wk.Ok.new : Wk.new.Ok := Wk.Ok.idle (M := startE) zero16 zero16 []
theorem Wk.Ok.take {k k' : Wk} {h n E : Int} {e : Int × Int} (hk : k.Ok) (he : evIn e) (hq : k.take h n e = (E, k')) : k'.Ok := by
 unfold Wk.take at hq
 split at hq
 ·injection hq with _ q; rw [<- q]; exact hk
 ·rename_i h1
  split at hq
  ·injection hq with _ q; rw [<- q]; exact hk
  ·injection hq with _ q
   rw [<- q]
   exact ⟨by show 1 <= 3; omega, by show 0 <= h /\ h <= 3; omega, he, hk.ws, hk.cs, fun h => absurd (show 2 <= 1 from h) (by omega), fun h => absurd (show 1 = 2 from h) (by omega), fun h => absurd (show 1 = 3 from h) (by omega)⟩
theorem Wk.Ok.enter {k k' : Wk} {v p E : Int} {ms : List Int} {xs : List In} (hk : k.Ok) (hn : (judgeR ms xs).2 = 0 -> ∃ known, Known xs ms.length known) (hq : k.enter v p ms xs = (E, k')) : k'.Ok := by
 unfold Wk.enter at hq
 split at hq
 ·injection hq with _ q; rw [<- q]; exact hk
 ·split at hq
  ·injection hq with _ q; rw [<- q]; exact hk
  ·rename_i h1
   injection hq with _ q
   rw [<- q]
   obtain ⟨known, hK⟩ := hn (by omega)
   have hs := safe_start hK
   have hs2 : Safe xs ms.length known { startE with cs := k.M.cs } := ⟨hs.pc, hs.kn, hs.wr, hs.hold, hs.cnt, hs.ws, hk.cs, hs.mode⟩
   have hp := pot_start hK.T
   have hc := cost_256 hK.T
   refine ⟨by show 2 <= 3; omega, hk.hk, hk.ev, hs.ws, hk.cs, fun _ => ⟨known, hK, hs2, ?_, Nat.le_refl _⟩, fun _ => rfl, fun h => absurd (show 2 = 3 from h) (by omega)⟩
   show pot xs { startE with cs := k.M.cs } <= 256
   have e : pot xs { startE with cs := k.M.cs } = pot xs startE := rfl
   rw [e]
   omega
theorem Wk.Ok.skip {k k' : Wk} {E : Int} (hk : k.Ok) (hq : k.skip = (E, k')) : k'.Ok := by
 unfold Wk.skip at hq
 split at hq
 ·injection hq with _ q; rw [<- q]; exact hk
 ·injection hq with _ q; rw [<- q]; exact Wk.Ok.idle hk.ws hk.cs _
theorem step_mode {ms : List Int} {xs : List In} {ev : Int × Int} {M : Mc} (h0 : M.mode = 0) : ((stepE ms xs ev M).1.k = 2 -> (stepE ms xs ev M).2.mode = 1) /\ ((stepE ms xs ev M).1.k ≠ 2 -> (stepE ms xs ev M).1.k ≠ 4 -> (stepE ms xs ev M).2.mode = 0) := by
 unfold stepE
 rw [if_neg (by omega), if_neg (by omega)]
 split
 ·unfold callE
  split
  ·exact ⟨fun _ => rfl, fun h => absurd rfl h⟩
  ·split
   ·exact ⟨fun h => absurd h (by simp [plainA]), fun _ _ => h0⟩
   ·exact ⟨fun h => absurd h (by simp [plainA]), fun _ _ => h0⟩
 ·split
  ·exact ⟨fun h => absurd h (by simp [plainA]), fun _ h => absurd rfl h⟩
  ·split
   ·exact ⟨fun h => absurd h (by simp [plainA]), fun _ _ => h0⟩
   ·exact ⟨fun h => absurd h (by simp [plainA]), fun _ _ => h0⟩
theorem Wk.Ok.step {k k' : Wk} {a : Ac} {b : Bool} (hk : k.Ok) (hq : k.step = (a, b, k')) : k'.Ok := by
 unfold Wk.step at hq
 split at hq
 ·injection hq with _ q; injection q with _ q; rw [<- q]; exact hk
 ·rename_i h2
  have hm : k.md = 2 := by omega
  injection hq with _ q
  injection q with _ q
  rw [<- q]
  obtain ⟨known, hK, hS, hp, hc⟩ := hk.run (by omega)
  have h0 := hk.two hm
  obtain ⟨s1, s2, s3⟩ := safe_run (ev := k.ev) hK hS h0 hk.ev
  obtain ⟨m1, m2⟩ := step_mode (ms := k.ms) (xs := k.xs) (ev := k.ev) h0
  unfold Wk.did
  split
  ·rename_i e2
   exact ⟨by show 3 <= 3; omega, hk.hk, hk.ev, s1.ws, s1.cs, fun _ => ⟨known, hK, s1, Int.le_trans s2 hp, (by rw [s3]; omega : k.cl + 1 <= (stepE k.ms k.xs k.ev k.M).2.steps)⟩, fun h => absurd (show 3 = 2 from h) (by omega), fun _ => m1 e2⟩
  ·rename_i e2
   split
   ·exact Wk.Ok.idle s1.ws s1.cs _
   ·rename_i e4
    exact ⟨by show 2 <= 3; omega, hk.hk, hk.ev, s1.ws, s1.cs, fun _ => ⟨known, hK, s1, Int.le_trans s2 hp, (by rw [s3]; omega : k.cl <= (stepE k.ms k.xs k.ev k.M).2.steps)⟩, fun _ => m2 e2 e4, fun h => absurd (show 2 = 3 from h) (by omega)⟩
theorem Wk.Ok.answer {k k' : Wk} {E e v : Int} {f : Bool} (hk : k.Ok) (hv : 0 <= v /\ v <= 18446744073709551615) (hq : k.answer e f v = (E, k')) : k'.Ok := by
 unfold Wk.answer at hq
 split at hq
 ·injection hq with _ q; rw [<- q]; exact hk
 ·rename_i h3
  have hm : k.md = 3 := by omega
  injection hq with _ q
  rw [<- q]
  obtain ⟨known, hK, hS, hp, hc⟩ := hk.run (by omega)
  obtain ⟨s1, s2, s3⟩ := safe_answer (E := e) (f := f) hK hS (hk.three hm) hv
  exact ⟨by show 2 <= 3; omega, hk.hk, hk.ev, s1.ws, s1.cs, fun _ => ⟨known, hK, s1, Int.le_trans s2 hp, (by rw [s3]; exact hc : k.cl <= (answerE k.xs k.M e f v).steps)⟩, fun _ => rfl, fun h => absurd (show 2 = 3 from h) (by omega)⟩
theorem Wk.Ok.steps {k : Wk} (hk : k.Ok) (h : 2 <= k.md) : k.M.steps <= 256 := by
 obtain ⟨known, hK, hS, hp, _⟩ := hk.run h
 have := hS.pot_le hK.T
 split at this <;> omega
theorem code_shape {w : World} {v : Value} {xs : List In} (h : SeesI w v xs) (hx : 0 < xs.length) : ∃ cb co ccap, v = .slice (some ⟨cb, co, none⟩) xs.length ccap /\ cb < w.heap.size := by
 obtain ⟨a, cap, rfl, _, _, _, h4⟩ := h
 obtain ⟨b, off, rfl, hlt, _⟩ := h4 (fun e => by rw [e] at hx; simp at hx)
 exact ⟨b, off, cap, rfl, hlt⟩
theorem run_errorE {xs : List In} {nm : Nat} : ∀ {n : Nat} {p : Nat} {E : Int}, runK xs nm n = .error (p, E) -> p < n /\ E ≠ 0 := by
 intro n
 induction n with
 | zero => intro p E h; rw [runK] at h; cases h
 | succ n ih =>
  intro p E h
  rw [runK] at h
  cases h0 : runK xs nm n with
  | error e =>
   rw [h0] at h
   simp only at h
   injection h with h
   subst h
   have := ih h0
   exact ⟨by omega, this.2⟩
  | ok K =>
   rw [h0] at h
   simp only at h
   cases h1 : stepK xs nm n K with
   | ok K' => rw [h1] at h; cases h
   | error e =>
    rw [h1] at h
    simp only at h
    injection h with h
    injection h with h2 h3
    subst h2 h3
    refine ⟨by omega, ?_⟩
    unfold stepK at h1
    split at h1
    ·cases h1
    split at h1
    ·injection h1 with h1; subst h1; assumption
    ·cases h1
theorem res_cellsE {H : Type} {enc : TypeId × Value -> H} {W : World} {base fuel : Nat} {sp : Nat -> Bool} {held : Bool} {cs : List Value} {x : DataW H × List MemPlace}
  (h : DataW.trod enc Tryz.prog W base sp held fuel 62 cs = some x) : ∃ (E : Int) (f : Bool) (v : Int) (o : Bool) (k u : Int), cs = [.int .i64 E, .bool f, .int .u64 v, .bool o, .int .u64 k, .int .u64 u] /\ 0 <= v /\ v <= 18446744073709551615 := by
 obtain ⟨xs, n, rfl, hx, hl, hlen, hf⟩ := DataW.trod_struct Tryz.underlying62 h
 have l6 : cs.length = 6 := by rw [hl]; kernel_rfl
 have u0 : Tryz.prog.cellsOf 38 = 1 := by kernel_rfl
 have u1 : Tryz.prog.cellsOf 4 = 1 := by kernel_rfl
 have u2 : Tryz.prog.cellsOf 26 = 1 := by kernel_rfl
 match cs, l6, xs, hlen, hf with
 | [c0, c1, c2, c3, c4, c5], _, [x0, x1, x2, x3, x4, x5], _, hf =>
  have h0 : DataW.trod enc Tryz.prog W base sp held n 38 (([c0, c1, c2, c3, c4, c5].drop 0).take (Tryz.prog.cellsOf 38)) = some x0 := hf 0 _ rfl
  rw [u0] at h0
  have h1 : DataW.trod enc Tryz.prog W base sp held n 4 (([c0, c1, c2, c3, c4, c5].drop 1).take (Tryz.prog.cellsOf 4)) = some x1 := hf 1 _ rfl
  rw [u1] at h1
  have h2 : DataW.trod enc Tryz.prog W base sp held n 26 (([c0, c1, c2, c3, c4, c5].drop 2).take (Tryz.prog.cellsOf 26)) = some x2 := hf 2 _ rfl
  rw [u2] at h2
  have h3 : DataW.trod enc Tryz.prog W base sp held n 4 (([c0, c1, c2, c3, c4, c5].drop 3).take (Tryz.prog.cellsOf 4)) = some x3 := hf 3 _ rfl
  rw [u1] at h3
  have h4 : DataW.trod enc Tryz.prog W base sp held n 26 (([c0, c1, c2, c3, c4, c5].drop 4).take (Tryz.prog.cellsOf 26)) = some x4 := hf 4 _ rfl
  rw [u2] at h4
  have h5 : DataW.trod enc Tryz.prog W base sp held n 26 (([c0, c1, c2, c3, c4, c5].drop 5).take (Tryz.prog.cellsOf 26)) = some x5 := hf 5 _ rfl
  rw [u2] at h5
  obtain ⟨E, e0, y0, g0⟩ := DataW.trod_int Tryz.underlying38 h0
  obtain ⟨f, e1, y1⟩ := DataW.trod_bool Tryz.underlying4 h1
  obtain ⟨v, e2, y2, g2⟩ := DataW.trod_int Tryz.underlying26 h2
  obtain ⟨o, e3, y3⟩ := DataW.trod_bool Tryz.underlying4 h3
  obtain ⟨k, e4, y4, g4⟩ := DataW.trod_int Tryz.underlying26 h4
  obtain ⟨u, e5, y5, g5⟩ := DataW.trod_int Tryz.underlying26 h5
  simp at e0 e1 e2 e3 e4 e5
  subst e0 e1 e2 e3 e4 e5
  exact ⟨E, f, v, o, k, u, rfl, bounds_u64 g2⟩
theorem opens_Res_sh {H : Type} {enc : TypeId × Value -> H} {W : World} {v : Value} {d : DataW H} {p : List MemPlace}
  (hsh : ∃ a len cap, v = .slice a len cap) (h : DataW.Trod enc Tryz.prog W 0 (fun _ => true) true 33 v d p) :
  ∃ xs, SeesR W v xs /\ ((d.weights Tryz.prog 33).all (· <= reachBytes) = true -> xs.length * 48 <= 140737488355328) := by
 obtain ⟨a, len, cap, rfl⟩ := hsh
 have c5 : Tryz.prog.cellsOf 62 = 6 := by kernel_rfl
 obtain ⟨fuel, hf⟩ := h
 rcases DataW.trod_slice Tryz.underlying33 hf with ⟨hcs, hx⟩ | ⟨x, l, c, elems, rest, n, rfl, hcs, hx, _, hl, hm, hlen, hel, hsp, _⟩
 ·simp [Value.cells] at hcs hx
  obtain ⟨rfl, rfl, rfl⟩ := hcs
  obtain ⟨rfl, rfl⟩ := hx
  exact ⟨[], ⟨none, 0, rfl, by simp, by simp [maxLen], fun _ => rfl, by simp, fun h => absurd rfl h⟩, fun _ => by simp⟩
 ·simp [Value.cells] at hcs hx
  obtain ⟨rfl, rfl, rfl⟩ := hcs
  obtain ⟨rfl, rfl⟩ := hx
  have hex : ∀ i : Nat, ∃ I : Rs, i < len -> I.wf /\ (∀ j, j < 6 -> W.cell? ((x.add (i * 6)).add j) = (rsC I)[j]?) := by
   intro i
   by_cases hi : i < len
   ·have h1 := hel i hi
    have hie : i < elems.length := by omega
    rw [c5, List.getElem?_eq_getElem hie, Option.bind_eq_some_iff] at h1
    obtain ⟨cs, hc1, hc2⟩ := h1
    obtain ⟨E, f, v, o, k, u, rfl, hw⟩ := res_cellsE hc2
    exact ⟨⟨E, f, v, o, k, u⟩, fun _ => ⟨hw, (World.cells?_some hc1).2.2⟩⟩
   ·exact ⟨Rs.nil, fun h => absurd h hi⟩
  obtain ⟨g, hg⟩ := Classical.axiomOfChoice hex
  have hxl : ((List.range len).map g).length = len := by simp
  have hgd : ∀ k, k < len -> ((List.range len).map g).getD k Rs.nil = g k := fun k hk => by simp [List.getD, hk]
  refine ⟨(List.range len).map g, ⟨some x, cap, by rw [hxl], by omega, hm, fun h => by simp at h, ?_, fun hne => ?_⟩, ?_⟩
  ·intro i hi
   simp only [List.mem_map, List.mem_range] at hi
   obtain ⟨k, hk, rfl⟩ := hi
   exact (hg k hk).1
  ·have hpos : 0 < len := by
    rcases Nat.eq_zero_or_pos len with h0 | h0
    ·subst h0; exact absurd rfl hne
    ·exact h0
   obtain ⟨b, off, spot⟩ := x
   have h00 := (hg 0 hpos).2 0 (by omega)
   have hspot : spot = none := by
    have := World.cell?_spot (show W.cell? _ = some _ from h00)
    simpa [Addr.add] using this
   subst hspot
   refine ⟨b, off, rfl, ?_, fun k hk => ?_⟩
   ·have := World.block_lt_of_cell? W _ (show W.cell? _ = some _ from h00)
    simpa [Addr.add] using this
   ·rw [hxl] at hk
    rw [hgd k hk]
    have h5 := (hg k hk).2
    simp only [Addr.add_mid] at h5
    exact ⟨h5 0 (by omega), h5 1 (by omega), h5 2 (by omega), h5 3 (by omega), h5 4 (by omega), h5 5 (by omega)⟩
  ·intro hall
   have b40 : Tryz.prog.bytesOf 62 = 48 := by kernel_rfl
   rw [DataW.weights, Tryz.underlying33] at hall
   simp only [List.all_cons, Bool.and_eq_true, decide_eq_true_eq, List.length_map, b40] at hall
   have h1 := hall.1
   unfold reachBytes at h1
   rw [hxl]
   omega
structure Ev where
 hk : Int
 ev : Int × Int
 vm : Value
 vc : Value
 vr : Value
 ms : List Int
 xs : List In
 rs : List Rs
def Ev.nil : Ev := ⟨0, (0, 0), .slice none 0 0, .slice none 0 0, .slice none 0 0, [], [], []⟩
abbrev evC (e : Ev) : List Value := [.int .i64 e.hk, .int .u64 e.ev.1, .int .u64 e.ev.2, e.vm, e.vc, e.vr]
theorem evC_len (e : Ev) : (evC e).length = 6 := rfl
structure EvR (W : World) (e : Ev) : Prop where
 md : SeesM W e.vm e.vc e.ms e.xs
 rs : SeesR W e.vr e.rs
 ev : (0 <= e.ev.1 /\ e.ev.1 <= 18446744073709551615) /\ 0 <= e.ev.2 /\ e.ev.2 <= 18446744073709551615
def EvQ (e : Ev) : Prop := e.ms.length * 8 <= 140737488351232 /\ e.xs.length * 40 <= 140737488351232 /\ e.rs.length * 48 <= 140737488355328
theorem ev23_cells {H : Type} {enc : TypeId × Value -> H} {W : World} {fuel : Nat} {cs : List Value} {x : DataW H × List MemPlace}
  (h : DataW.trod enc Tryz.prog W 0 (fun _ => true) true fuel 35 cs = some x) : ∃ e : Ev, cs = evC e /\ EvR W e /\ ((x.1.weights Tryz.prog 35).all (· <= reachBytes) = true -> EvQ e) := by
 obtain ⟨xs, n, rfl, hx, hl, hlen, hf⟩ := DataW.trod_struct Tryz.underlying35 h
 have l6 : cs.length = 6 := by rw [hl]; kernel_rfl
 have u0 : Tryz.prog.cellsOf 32 = 2 := by kernel_rfl
 have u1 : Tryz.prog.cellsOf 28 = 2 := by kernel_rfl
 have u2 : Tryz.prog.cellsOf 33 = 1 := by kernel_rfl
 have u3 : Tryz.prog.cellsOf 3 = 1 := by kernel_rfl
 have u4 : Tryz.prog.cellsOf 29 = 1 := by kernel_rfl
 have u5 : Tryz.prog.cellsOf 30 = 1 := by kernel_rfl
 have u6 : Tryz.prog.cellsOf 26 = 1 := by kernel_rfl
 match cs, l6, xs, hlen, hf with
 | [b0, c2, c3, c0, c1, c4], _, [xh, x1, x0, x2], _, hf =>
  have h0 : DataW.trod enc Tryz.prog W 0 (fun _ => true) true n 32 (([b0, c2, c3, c0, c1, c4].drop 3).take (Tryz.prog.cellsOf 32)) = some x0 := hf 2 _ rfl
  rw [u0] at h0
  have h1 : DataW.trod enc Tryz.prog W 0 (fun _ => true) true n 28 (([b0, c2, c3, c0, c1, c4].drop 1).take (Tryz.prog.cellsOf 28)) = some x1 := hf 1 _ rfl
  rw [u1] at h1
  have h2 : DataW.trod enc Tryz.prog W 0 (fun _ => true) true n 33 (([b0, c2, c3, c0, c1, c4].drop 5).take (Tryz.prog.cellsOf 33)) = some x2 := hf 3 _ rfl
  rw [u2] at h2
  have hh : DataW.trod enc Tryz.prog W 0 (fun _ => true) true n 3 (([b0, c2, c3, c0, c1, c4].drop 0).take (Tryz.prog.cellsOf 3)) = some xh := hf 0 _ rfl
  rw [u3] at hh
  obtain ⟨hk, eh, _, _⟩ := DataW.trod_int Tryz.underlying3 hh
  simp at eh
  subst eh
  have h0 : DataW.trod enc Tryz.prog W 0 (fun _ => true) true n 32 [c0, c1] = some x0 := h0
  have h1 : DataW.trod enc Tryz.prog W 0 (fun _ => true) true n 28 [c2, c3] = some x1 := h1
  have h2 : DataW.trod enc Tryz.prog W 0 (fun _ => true) true n 33 [c4] = some x2 := h2
  obtain ⟨ys, m, _, hy, _, hylen, hg⟩ := DataW.trod_struct Tryz.underlying32 h0
  obtain ⟨zs, m', _, _, _, hzlen, hg'⟩ := DataW.trod_struct Tryz.underlying28 h1
  match ys, hylen, hg, zs, hzlen, hg' with
  | [y0, y1], _, hg, [z0, z1], _, hg' =>
   have k0 : DataW.trod enc Tryz.prog W 0 (fun _ => true) true m 29 (([c0, c1].drop 0).take (Tryz.prog.cellsOf 29)) = some y0 := hg 0 _ rfl
   rw [u4] at k0
   have k1 : DataW.trod enc Tryz.prog W 0 (fun _ => true) true m 30 (([c0, c1].drop 1).take (Tryz.prog.cellsOf 30)) = some y1 := hg 1 _ rfl
   rw [u5] at k1
   have g0 : DataW.trod enc Tryz.prog W 0 (fun _ => true) true m' 26 (([c2, c3].drop 0).take (Tryz.prog.cellsOf 26)) = some z0 := hg' 0 _ rfl
   rw [u6] at g0
   have g1 : DataW.trod enc Tryz.prog W 0 (fun _ => true) true m' 26 (([c2, c3].drop 1).take (Tryz.prog.cellsOf 26)) = some z1 := hg' 1 _ rfl
   rw [u6] at g1
   have k0 : DataW.trod enc Tryz.prog W 0 (fun _ => true) true m 29 [c0] = some y0 := k0
   have k1 : DataW.trod enc Tryz.prog W 0 (fun _ => true) true m 30 [c1] = some y1 := k1
   obtain ⟨ea, e2, _, w2⟩ := DataW.trod_int Tryz.underlying26 g0
   obtain ⟨eb, e3, _, w3⟩ := DataW.trod_int Tryz.underlying26 g1
   simp at e2 e3
   subst e2 e3
   obtain ⟨a0, l0, q0, rfl⟩ := slice_of_trod Tryz.underlying29 k0
   obtain ⟨a1, l1, q1, rfl⟩ := slice_of_trod Tryz.underlying30 k1
   obtain ⟨a2, l2, q2, rfl⟩ := slice_of_trod Tryz.underlying33 h2
   obtain ⟨ms, s0, b0⟩ := sees_open_sh (k := .i64) (d := y0.1) (p := y0.2) Tryz.underlying29 Tryz.underlying3 (by kernel_rfl) ⟨_, _, _, rfl⟩ ⟨m, k0⟩
   obtain ⟨is, ⟨s1, w1⟩, _, b1⟩ := opens_Inst_sh (d := y1.1) (p := y1.2) ⟨_, _, _, rfl⟩ ⟨m, k1⟩
   obtain ⟨rs, s2, b2⟩ := opens_Res_sh (d := x2.1) (p := x2.2) ⟨_, _, _, rfl⟩ ⟨n, h2⟩
   refine ⟨⟨hk, (ea, eb), _, _, _, ms, is, rs⟩, rfl, ⟨⟨s0, s1, w1⟩, s2, bounds_u64 w2, bounds_u64 w3⟩, fun hall => ?_⟩
   have hd : x.1 = .agg [xh.1, x1.1, x0.1, x2.1] := congrArg (·.1) hx
   have hd0 : x0.1 = .agg [y0.1, y1.1] := congrArg (·.1) hy
   rw [hd, DataW.weights, Tryz.underlying35] at hall
   simp only [DataW.weightsEach, List.map_cons, List.map_nil, List.all_append, Bool.and_eq_true] at hall
   have hall0 := hall.2.2.1
   rw [hd0, DataW.weights, Tryz.underlying32] at hall0
   simp only [DataW.weightsEach, List.map_cons, List.map_nil, List.all_append, Bool.and_eq_true] at hall0
   have b8 : Tryz.prog.bytesOf 3 = 8 := by kernel_rfl
   have r0 := b0 hall0.1
   rw [b8] at r0
   exact ⟨by unfold reachBytes at r0; omega, b1 hall0.2.1, b2 (by first | exact hall.2.2.2 | exact hall.2.2.2.1)⟩
theorem opens_Ev23 {H : Type} {enc : TypeId × Value -> H} {W : World} {base : Nat} {v : Value} {d : DataW H} {p : List MemPlace}
  (hok : Value.okWide Tryz.prog W .any base 22 v) (h : DataW.Trod enc Tryz.prog W 0 (fun _ => true) true 22 v d p) :
  ∃ xs, SeesG evC 6 Ev.nil W v xs /\ (∀ x ∈ xs, EvR W x) /\ ((d.weights Tryz.prog 22).all (· <= reachBytes) = true -> xs.length * 96 <= 140737488351232 /\ ∀ x ∈ xs, EvQ x) :=
 opensGW Ev.nil (R := EvR W) (Q := EvQ) Tryz.underlying22 (by kernel_rfl) (by decide) evC_len (by kernel_rfl) ev23_cells hok h
def Mc.cnt (M : Mc) (c : List Int) : Mc := { M with cs := c }
def noMark (xs : List In) : Prop := ∀ p, ¬ ((nth xs p).op = 21 /\ (nth xs p).imm = 5)
theorem step_cnt {ms : List Int} {xs : List In} {ev : Int × Int} {M : Mc} (hn : noMark xs) (c : List Int) : stepE ms xs ev (M.cnt c) = ((stepE ms xs ev M).1, (stepE ms xs ev M).2.cnt c) := by
 have hp := hn M.pc
 unfold stepE
 show (if M.mode = 1 then _ else _) = _
 by_cases h1 : M.mode = 1
 ·rw [if_pos h1, if_pos h1]; rfl
 rw [if_neg h1, if_neg h1]
 show (if M.mode = 2 then _ else _) = _
 by_cases h2 : M.mode = 2
 ·rw [if_pos h2, if_pos h2]; rfl
 rw [if_neg h2, if_neg h2]
 show (if (nth xs M.pc).op = 21 then _ else _) = _
 by_cases h3 : (nth xs M.pc).op = 21
 ·rw [if_pos h3, if_pos h3]
  unfold callE
  by_cases h4 : (nth xs M.pc).imm <= 4
  ·rw [if_pos (show (nth xs (M.cnt c).pc).imm <= 4 from h4), if_pos h4]; rfl
  ·rw [if_neg (show ¬ (nth xs (M.cnt c).pc).imm <= 4 from h4), if_neg h4, if_neg (show ¬ (nth xs (M.cnt c).pc).imm = 5 from fun e => hp ⟨h3, e⟩), if_neg (fun e => hp ⟨h3, e⟩)]; rfl
 rw [if_neg h3, if_neg h3]
 show (if (nth xs M.pc).op = 22 then _ else _) = _
 by_cases h5 : (nth xs M.pc).op = 22
 ·rw [if_pos h5, if_pos h5]; rfl
 rw [if_neg h5, if_neg h5]
 show (if ((nth xs M.pc).leads && goesE (nth xs M.pc) M) = true then _ else _) = _
 by_cases h6 : ((nth xs M.pc).leads && goesE (nth xs M.pc) M) = true
 ·rw [if_pos h6, if_pos h6]; rfl
 ·rw [if_neg h6, if_neg h6]; rfl
def Rn (ms : List Int) (xs : List In) (ev : Int × Int) (want : List Ac) (rs : List Rs) (n c : Nat) (M : Mc) : Prop := ∃ d, want.drop n = traceE ms xs ev (257 - n) (M.cnt d) (rs.drop c)
section
variable {ms : List Int} {xs : List In} {ev : Int × Int} {want : List Ac} {rs : List Rs} {n c : Nat} {M : Mc}
theorem Rn.start (cs : List Int) : Rn ms xs ev (traceE ms xs ev 257 startE rs) rs 0 0 { startE with cs := cs } := by
 refine ⟨startE.cs, ?_⟩
 have e : ({ startE with cs := cs } : Mc).cnt startE.cs = startE := rfl
 rw [e, List.drop_zero, List.drop_zero, Nat.sub_zero]
theorem drop_cons_at {α : Type} {l : List α} {n : Nat} {x : α} {r : List α} (h : l.drop n = x :: r) (d : α) : n < l.length /\ l.getD n d = x /\ l.drop (n + 1) = r := by
 have hl : n < l.length := by
  rcases Nat.lt_or_ge n l.length with g | g
  ·exact g
  ·rw [List.drop_of_length_le g] at h; cases h
 have e := List.drop_eq_getElem_cons hl
 rw [h] at e
 injection e with e1 e2
 exact ⟨hl, by rw [List.getD_eq_getElem?_getD, List.getElem?_eq_getElem hl]; exact e1.symm, e2.symm⟩
theorem Rn.at (h : Rn ms xs ev want rs n c M) (hn : noMark xs) (hlt : n < 257) : n < want.length /\ want.getD n Ac.nil = (stepE ms xs ev M).1 /\ ∃ d, want.drop (n + 1) = (if (stepE ms xs ev M).1.k = 4 then [] else if (stepE ms xs ev M).1.k = 2 then (match rs.drop c with | [] => [] | r :: rest => traceE ms xs ev (256 - n) (answerE xs ((stepE ms xs ev M).2.cnt d) r.E r.f r.v) rest) else traceE ms xs ev (256 - n) ((stepE ms xs ev M).2.cnt d) (rs.drop c)) := by
 obtain ⟨d, hd⟩ := h
 rw [show 257 - n = (256 - n) + 1 by omega] at hd
 unfold traceE at hd
 rw [step_cnt hn] at hd
 obtain ⟨g1, g2, g3⟩ := drop_cons_at hd Ac.nil
 exact ⟨g1, g2, d, g3⟩
theorem Rn.went (h : Rn ms xs ev want rs n c M) (hn : noMark xs) (hlt : n < 257) (h4 : (stepE ms xs ev M).1.k ≠ 4) (h2 : (stepE ms xs ev M).1.k ≠ 2) : Rn ms xs ev want rs (n + 1) c (stepE ms xs ev M).2 := by
 obtain ⟨_, _, d, e⟩ := h.at hn hlt
 rw [if_neg h4, if_neg h2] at e
 exact ⟨_, by rw [show 257 - (n + 1) = 256 - n by omega]; exact e⟩
theorem Rn.called (h : Rn ms xs ev want rs n c M) (hn : noMark xs) (hlt : n < 257) (h2 : (stepE ms xs ev M).1.k = 2) (hc : c < rs.length) : Rn ms xs ev want rs (n + 1) (c + 1) (answerE xs (stepE ms xs ev M).2 (rs.getD c Rs.nil).E (rs.getD c Rs.nil).f (rs.getD c Rs.nil).v) := by
 obtain ⟨_, _, d, e⟩ := h.at hn hlt
 rw [if_neg (by omega), if_pos h2] at e
 have hd := List.drop_eq_getElem_cons hc
 rw [hd] at e
 have hg : rs.getD c Rs.nil = rs[c] := by rw [List.getD_eq_getElem?_getD, List.getElem?_eq_getElem hc]; rfl
 exact ⟨_, by rw [show 257 - (n + 1) = 256 - n by omega, hg]; exact e⟩
end
def marksB (xs : List In) : Bool := xs.any (fun i => i.op == 21 && i.imm == 5)
theorem marks_no {xs : List In} (h : marksB xs = false) : noMark xs := by
 intro p ⟨h1, h2⟩
 rcases Nat.lt_or_ge p xs.length with g | g
 ·have e : nth xs p = xs[p] := by unfold nth; rw [List.getD_eq_getElem?_getD, List.getElem?_eq_getElem g]; rfl
  rw [e] at h1 h2
  have : marksB xs = true := List.any_eq_true.2 ⟨xs[p], List.getElem_mem g, by simp [h1, h2]⟩
  rw [h] at this
  cases this
 ·have e : nth xs p = In.nil := by unfold nth; rw [List.getD_eq_getElem?_getD, List.getElem?_eq_none g]; rfl
  rw [e] at h1
  exact absurd h1 (by decide)
theorem marks_more (xs : List In) {k : Nat} (hk : k < xs.length) : marksB (xs.take (k + 1)) = (marksB (xs.take k) || ((nth xs k).op == 21 && (nth xs k).imm == 5)) := by
 have e : nth xs k = xs[k] := by unfold nth; rw [List.getD_eq_getElem?_getD, List.getElem?_eq_getElem hk]; rfl
 rw [e, List.take_add_one, List.getElem?_eq_getElem hk]
 unfold marksB
 rw [List.any_append]
 simp
structure Rq where
 hk : Int
 qn : Int
 ev : Int × Int
 ve : Int
 pg : Int
 ms : List Int
 xs : List In
 rs : List Rs
 want : List Ac
 td : List To
def Wy (q : Rq) (n c : Nat) (last : Ac) (k : Wk) : Prop := k.Ok /\
 ((∃ M, k = ⟨2, q.hk, q.qn, q.ev, q.ve, q.pg, c, q.ms, q.xs, M, q.td⟩ /\ M.steps = n /\ (noMark q.xs -> Rn q.ms q.xs q.ev q.want q.rs n c M)) ∨
 (∃ M, k = Wk.idle M (q.td ++ [⟨q.hk, false, n, c, last.v⟩]) /\ last.k = 4 /\ c <= n))
section
variable {q : Rq} {n c : Nat} {last : Ac} {k : Wk}
theorem Wy.mode (h : Wy q n c last k) : k.md = 2 ∨ k.md = 0 := by
 rcases h with ⟨-, ⟨M, rfl, -⟩ | ⟨M, rfl, -⟩⟩
 ·exact .inl rfl
 ·exact .inr rfl
structure WyStep (q : Rq) (n c : Nat) (k : Wk) (a : Ac) (k4 : Wk) : Prop where
 st : k.step = (a, true, k4)
 nb : n <= 255
 cb : c <= n
 ve : k.ve = q.ve
 pg : k.pg = q.pg
 wt : noMark q.xs -> n < q.want.length /\ q.want.getD n Ac.nil = a
 on : (a.k ≠ 2 /\ Wy q (n + 1) c a k4) ∨ (a.k = 2 /\ k4.md = 3 /\ k4.Ok /\ k4.step = (Ac.nil, false, k4) /\ (c < q.rs.length -> (q.rs.getD c Rs.nil).wf -> ∃ k5, k4.answer (q.rs.getD c Rs.nil).E (q.rs.getD c Rs.nil).f (q.rs.getD c Rs.nil).v = (0, k5) /\ Wy q (n + 1) (c + 1) a k5))
theorem Wy.step (h : Wy q n c last k) (h2 : k.md = 2) : ∃ a k4, WyStep q n c k a k4 := by
 rcases h with ⟨hO, ⟨M, rfl, hn, hr⟩ | ⟨M, rfl, -⟩⟩
 rotate_left
 ·exact absurd h2 (by show ¬ (0 : Nat) = 2; omega)
 have h0 : M.mode = 0 := hO.two rfl
 obtain ⟨known, hK, hS, hp, hcl⟩ := hO.run (Nat.le_refl 2)
 have hK : Known q.xs q.ms.length known := hK
 have hS : Safe q.xs q.ms.length known M := hS
 have hp : pot q.xs M <= 256 := hp
 have hcl : c <= M.steps := hcl
 have hle := hS.pot_le hK.T
 rw [if_pos h0] at hle
 have hn5 : n <= 255 := by omega
 obtain ⟨s1, s2, s3⟩ := safe_run (ms := q.ms) (ev := q.ev) hK hS h0 hO.ev
 obtain ⟨k4, hq⟩ : ∃ k4, (Wk.mk 2 q.hk q.qn q.ev q.ve q.pg c q.ms q.xs M q.td).step = ((stepE q.ms q.xs q.ev M).1, true, k4) := ⟨_, by unfold Wk.step; rw [if_neg (by omega)]⟩
 have hO4 := hO.step hq
 have hq' := hq
 unfold Wk.step at hq'
 rw [if_neg (by omega)] at hq'
 injection hq' with _ hq'
 injection hq' with _ hq'
 refine ⟨_, k4, hq, hn5, by omega, rfl, rfl, fun hm => ?_, ?_⟩
 ·obtain ⟨g1, g2, -⟩ := (hr hm).at hm (by omega)
  exact ⟨g1, g2⟩
 by_cases e2 : (stepE q.ms q.xs q.ev M).1.k = 2
 ·refine .inr ⟨e2, ?_⟩
  have hd : k4 = ⟨3, q.hk, q.qn, q.ev, q.ve, q.pg, c + 1, q.ms, q.xs, (stepE q.ms q.xs q.ev M).2, q.td⟩ := by
   rw [<- hq']; unfold Wk.did; rw [if_pos e2]
  refine ⟨by rw [hd], hO4, by rw [hd]; unfold Wk.step; rw [if_pos (by show ¬ (3 : Nat) = 2; omega)], fun hc hw => ?_⟩
  obtain ⟨k5, hk5⟩ : ∃ k5, k4.answer (q.rs.getD c Rs.nil).E (q.rs.getD c Rs.nil).f (q.rs.getD c Rs.nil).v = (0, k5) := ⟨_, by rw [hd]; unfold Wk.answer; rw [if_neg (by show ¬ (3 : Nat) ≠ 3; omega)]⟩
  have hO5 := hO4.answer hw hk5
  have hm1 : (stepE q.ms q.xs q.ev M).2.mode = 1 := (step_mode (ms := q.ms) (xs := q.xs) (ev := q.ev) h0).1 e2
  have hk5' := hk5
  rw [hd] at hk5'
  unfold Wk.answer at hk5'
  rw [if_neg (by show ¬ (3 : Nat) ≠ 3; omega)] at hk5'
  injection hk5' with _ hk5'
  obtain ⟨-, -, a3⟩ := safe_answer (E := (q.rs.getD c Rs.nil).E) (f := (q.rs.getD c Rs.nil).f) hK s1 hm1 hw
  refine ⟨k5, hk5, hO5, .inl ⟨_, hk5'.symm, by rw [a3, s3, hn], fun hm => ?_⟩⟩
  exact (hr hm).called hm (by omega) e2 hc
 ·refine .inl ⟨e2, hO4, ?_⟩
  by_cases e4 : (stepE q.ms q.xs q.ev M).1.k = 4
  ·refine .inr ⟨(stepE q.ms q.xs q.ev M).2, ?_, e4, by omega⟩
   rw [<- hq']
   unfold Wk.did
   rw [if_neg e2, if_pos e4]
   show Wk.idle _ (q.td ++ [⟨q.hk, false, ((stepE q.ms q.xs q.ev M).2.steps : Nat), c, _⟩]) = _
   rw [s3, hn]
  ·refine .inl ⟨(stepE q.ms q.xs q.ev M).2, ?_, by rw [s3, hn], fun hm => (hr hm).went hm (by omega) e4 e2⟩
   rw [<- hq']
   unfold Wk.did
   rw [if_neg e2, if_neg e4]
theorem Wy.start {k k' : Wk} {v p : Int} (hk : k.Ok) (h1 : k.md = 1) {ms : List Int} {xs : List In} (hj : (judgeR ms xs).2 = 0) {K : Kn} (hi : inqR ms xs = .ok K) (hq : k.enter v p ms xs = (0, k')) (rs : List Rs) (want : List Ac) (hw : want = traceE ms xs k.ev 257 startE rs) : Wy ⟨k.hk, k.qn, k.ev, v, p, ms, xs, rs, want, k.td⟩ 0 0 Ac.nil k' := by
 obtain ⟨-, ⟨known, hK, -⟩, -⟩ := judge_known hi
 have hO := hk.enter (fun _ => ⟨known, hK⟩) hq
 unfold Wk.enter at hq
 rw [if_neg (by omega), if_neg (by omega)] at hq
 injection hq with _ hq
 refine ⟨hO, .inl ⟨_, hq.symm, rfl, fun _ => ?_⟩⟩
 subst hw
 exact Rn.start _
theorem Wy.ended (h : Wy q n c last k) (h0 : k.md = 0) : last.k = 4 /\ k.td = q.td ++ [⟨q.hk, false, n, c, last.v⟩] /\ k.Ok /\ ofL q.hk k.td = (ofL q.hk q.td).add ⟨1, 0, n, c, last.v⟩ /\ k.skip = (41, k) /\ k.answer 0 false 0 = (41, k) /\ c <= n := by
 rcases h with ⟨hO, ⟨M, rfl, hn, hr⟩ | ⟨M, rfl, h4, hcn⟩⟩
 ·exact absurd h0 (by show ¬ (2 : Nat) = 0; omega)
 refine ⟨h4, rfl, hO, ?_, ?_, ?_, hcn⟩
 ·show ofL q.hk (q.td ++ [⟨q.hk, false, n, c, last.v⟩]) = _
  rw [ofL_more, if_pos rfl]
  rfl
 ·unfold Wk.skip; rw [if_pos (by show ¬ (0 : Nat) = 1; omega)]
 ·unfold Wk.answer; rw [if_pos (by show ¬ (0 : Nat) = 3; omega)]
end
theorem took {k : Wk} (h0 : k.md = 0) {h n : Int} {e : Int × Int} (hh : 0 <= h /\ h <= 3) : ∃ k1, k.take h n e = (0, k1) /\ k1.md = 1 /\ k1.hk = h /\ k1.qn = n /\ k1.ev = e /\ k1.td = k.td := ⟨⟨1, h, n, e, 0, 0, 0, [], [], k.M, k.td⟩, by unfold Wk.take; rw [if_neg (by omega), if_neg (by omega)], rfl, rfl, rfl, rfl, rfl⟩
theorem skipped {k : Wk} (h1 : k.md = 1) : ∃ k2, k.skip = (0, k2) /\ k2.md = 0 /\ ofL k.hk k2.td = (ofL k.hk k.td).add ⟨0, 1, 0, 0, 0⟩ := by
 refine ⟨Wk.idle k.M (k.td ++ [⟨k.hk, true, 0, 0, 0⟩]), by unfold Wk.skip; rw [if_neg (by omega)], rfl, ?_⟩
 show ofL k.hk (k.td ++ [⟨k.hk, true, 0, 0, 0⟩]) = _
 rw [ofL_more, if_pos rfl]
 rfl
theorem res_more {w5 X w9 : World} {B : Nat} {e : TypeId} {va v' : Value} {o : Obj} {ys : List Rs} {r : Rs} (hown : X.ownsRow B e 6 va ys.length (flatR ys)) (hb : Below B w5 X) (hB : B <= w5.heap.size) (hown' : w9.ownsRow B e 6 v' (ys.length + 1) (flatR ys ++ rsC r)) (hgrow : (X.alloc o).grownBy w9 va.ownBlock) :
  w9.ownsRow B e 6 v' (ys ++ [r]).length (flatR (ys ++ [r])) /\ Below B w5 w9 := by
 have hs := hb.size
 exact ⟨step_resE (wr := X) (v := va) hown', (hb.alloc (by omega) o).grown hgrow (by simp; omega) (fun k hk => (hown.lt k hk).1)⟩
theorem mtrace_sees {vm vc : Value} {ms : List Int} {xs : List In} (ev : Int × Int) (hev : (0 <= ev.1 /\ ev.1 <= 18446744073709551615) /\ 0 <= ev.2 /\ ev.2 <= 18446744073709551615) {vr : Value} {rs : List Rs} (w : World) (hm : SeesM w vm vc ms xs) (hrs : SeesR w vr rs) {K : Kn} (hK : inqR ms xs = .ok K) {T : List Ac} (HT : Hid (traceE ms xs ev 257 startE rs = T)) :
  Calls Tryz.prog 13 #[modV vm vc, evV ev, vr] w fun e w' => TraceOk w w' T e := by
 obtain ⟨hmj, ⟨known, hKn, _⟩, hj0⟩ := judge_known hK
 obtain ⟨cb, co, ccap, rfl, hlt⟩ := code_shape hm.code hKn.T.pos
 exact mtrace_ok ev hev w hm.maps hm.code hrs hK HT
theorem own_shapeE {w : World} {base : Nat} {e : TypeId} {z : Nat} {v : Value} {n : Nat} {xs : List Value} (h : w.ownsRow base e z v n xs) : ∃ a c, v = .slice a n c := by
 rcases h with ⟨h1, ⟨rfl, h2⟩ | ⟨g, cap, cur, rfl, _⟩⟩
 ·subst h2; exact ⟨none, 0, rfl⟩
 ·exact ⟨_, cap, rfl⟩
end Go.Proofs.YtkondcjmhlppiaaGreat
