/-
  E11LClone
  JAwake
  E11LNew
  E11LTrace
  W11Err
  E11Awake
  T11Rn
  W11Alike
  E11Open
  T11OpenF
-/
import Derived.Test.YtiheafdphgllkaaGreatDoorMW48
import Derived.Test.YtiheafdphgllkaaGreatDoorMW43
import Derived.Test.YtiheafdphgllkaaGreatDoorMW47
import Derived.Test.YtiheafdphgllkaaGreatDoorMW5
import Derived.ProofKit
namespace Go.Proofs.YtiheafdphgllkaaGreatDoor
open Go.RowKit
set_option linter.unusedVariables false
set_option linter.unusedSimpArgs false
set_option maxRecDepth 100000
open Go.ChangeShapes Go.WideShapes Go.ChangeAt Go.RowKit
theorem own_emptyE (w : World) (e : TypeId) (k : IntKind) : (w.alloc (.cells #[] e)).ownsRow w.heap.size e 1 (.slice (some ⟨w.heap.size, 0, none⟩) 0 0) ([] : List Int).length (([] : List Int).map (Value.int k)) := by
 refine ⟨rfl, .inr ⟨w.heap.size, 0, #[], rfl, Nat.le_refl _, ?_, Nat.le_refl _, by simp [maxLen], rfl, rfl⟩⟩
 show (w.heap.push _)[w.heap.size]? = _
 simp
theorem grown_newE {w w1 : World} {o : Obj} (hg : (w.alloc o).grownBy w1 (some w.heap.size)) : Below w.heap.size w w1 :=
 ((Below.refl w.heap.size w).alloc (Nat.le_refl _) o).grown hg (by simp) (fun k hk => (by have h : w.heap.size = k := Option.some.inj hk; omega))
set_option maxHeartbeats 800000 in
theorem mcloneN (v : Value) (xs : List Int) (w : World) (hs : Sees .i64 w v xs) (hl : xs.length <= 1048576) :
  Calls Tryz.prog 60 #[v] w fun e w' => ∃ u, e = .returned u /\ Sees .i64 w' u xs /\ (xs = [] ∨ ∀ j, u.ownBlock = some j -> w.heap.size <= j) /\ Below w.heap.size w w' := by
 obtain ⟨i0, hi, hz0, hz1, hz2⟩ := info_parts infoInt9
 have HS := keepJ hs
 have hwf := hs.wf
 obtain ⟨a, cap, rfl, h1, h2, h3, h4, h5⟩ := hs
 cases a with
 | none =>
  obtain rfl : xs = [] := by
   by_cases h : xs = []
   ·exact h
   ·obtain ⟨_, _, e, _⟩ := h5 h
    cases e
  obtain rfl := h3 rfl
  clear h5
  have heq : ∀ wx : World, (Go.binOp .eql 22 (.slice none 0 0) (.slice none 0 0)).run Tryz.prog wx = .ok (.bool true) wx := fun _ => by kernel_rfl
  go_enter Tryz.func60, Tryz.ntmps60
  go_wp2
  go_ret
  first
   | exact ⟨_, rfl, HS.out, .inl rfl, Below.refl _ _⟩
   | exact ⟨_, rfl, HS.out, Below.refl _ _⟩
 | some ad =>
  obtain ⟨bb, off, q⟩ := ad
  have heq : ∀ wx : World, (Go.binOp .eql 22 (.slice (some ⟨bb, off, q⟩) xs.length cap) (.slice none 0 0)).run Tryz.prog wx = .ok (.bool false) wx := fun _ => by kernel_rfl
  clear h5
  go_enter Tryz.func60, Tryz.ntmps60
  go_wp2_with (at_builtin; go_must (refine wpList_append_sees rfl (.tmp 5) (.tmp 6) 22 rfl w.heap.size 3 i0 (.int .i64 0) 8 Tryz.underlying22 hi hz0 hz1 hz2 rfl .i64 (.slice (some ⟨w.heap.size, 0, none⟩) 0 0) [] rfl (own_emptyE w _ _) _ xs rfl (HS.out.below ((Below.refl _ _).alloc (Nat.le_refl _) _) (Nat.le_refl _)) (by unfold maxLen; simp; omega) (by simp; omega) (by simp) ?_); intro v' w1 hown1 hg1)
  go_ret
  have ho : w1.ownsRow w.heap.size 3 1 v' xs.length (xs.map (Value.int .i64)) := by simpa using hown1
  refine ⟨_, rfl, Sees.own ho hwf, ?_, grown_newE hg1⟩
  by_cases h : xs = []
  ·exact .inl h
  ·refine .inr fun j hj => ?_
   obtain ⟨g, c, rfl, hb, _⟩ := own_block ho (List.length_pos_iff.2 h)
   have : g = j := Option.some.inj hj
   omega
set_option maxHeartbeats 800000 in
theorem mcloneI (cb co ccap : Nat) (xs : List In) (w : World) (hs : SeesI w (.slice (some ⟨cb, co, none⟩) xs.length ccap) xs) (hl : xs.length <= 1048576) :
  Calls Tryz.prog 61 #[.slice (some ⟨cb, co, none⟩) xs.length ccap] w fun e w' => ∃ u, e = .returned u /\ w'.ownsRow w.heap.size 59 5 u xs.length (flat xs) /\ Below w.heap.size w w' := by
 obtain ⟨i0, hi, hz0, hz1, hz2⟩ := info_parts infoInst9
 have HS := keepJ hs
 have heq : ∀ wx : World, (Go.binOp .eql 23 (.slice (some ⟨cb, co, none⟩) xs.length ccap) (.slice none 0 0)).run Tryz.prog wx = .ok (.bool false) wx := fun _ => by kernel_rfl
 clear hs
 go_enter Tryz.func61, Tryz.ntmps61
 go_wp2_with (at_builtin; go_must (refine wpList_append_seesI rfl (.tmp 5) (.tmp 6) 23 rfl w.heap.size 59 i0 (instV 0 0 0 0 0) Tryz.underlying23 hi hz0 hz1 hz2 rfl (.slice (some ⟨w.heap.size, 0, none⟩) 0 0) [] rfl (own_empty w _) _ xs rfl (HS.out.below ((Below.refl _ _).alloc (Nat.le_refl _) _)) (by unfold maxLen; simp; omega) (by simp; omega) (by simp) ?_); intro v' w1 hown1 hg1)
 go_ret
 exact ⟨_, rfl, by simpa using hown1, grown_newE hg1⟩
section
variable {w : World} {b sb cb co ccap : Nat} {vm vc : Value} {ms : List Int} {xs : List In} {ev : Int × Int} {M : Mc}
theorem manswer_all {known : List St} (hK : Known xs ms.length known) (hS : Safe xs ms.length known M) (h : Mh w b sb vm cb co ccap ms xs ev M) (hm : M.mode = 1) (E : Int) (f : Bool) (v : Int) (o : Bool) (k u : Int) (hv : 0 <= v /\ v <= 18446744073709551615) :
  Calls Tryz.prog 33 #[.pointer (some ⟨b, 0, none⟩), resV E f v o k u] w fun e w' => e = .returned (.int .i64 0) /\ Chg w w' (fun k => k = b ∨ k = sb) /\ Mh w' b sb vm cb co ccap ms xs ev (answerE xs M E f v) := by
 have hsa := (safe_answer (E := E) (f := f) hK hS hm hv).1
 have hpn : M.pc + 1 < 64 := Nat.lt_of_lt_of_le hsa.pc hK.T.top
 refine (manswer_yes E f v o k u w h.ma hm h.code hS.pc hpn h.cn.1 hv rfl).mono ?_
 rintro e w' ⟨rfl, hg, hm'⟩
 have hc : Chg w w' (fun k => k = b ∨ k = sb) := Chg.of_grown hg (.inl rfl)
 exact ⟨rfl, hc, h.step hc hm' (h.sc.grown hg (show some sb ≠ some b from fun e => h.ne (Option.some.inj e).symm))⟩
end
theorem seesI_lit (w : World) (t : TypeId) (xs : List In) (cs : Array Value) (n g : Nat) (hg : g = w.heap.size) (hcs : cs = (flat xs).toArray) (hn : n = xs.length) (hm : xs.length <= 1048576) : SeesI (w.alloc (.cells cs t)) (.slice (some ⟨g, 0, none⟩) n n) xs := by
 subst hn hcs hg
 refine own_seesI (base := w.heap.size) (e := t) ⟨flat_len xs, .inr ⟨w.heap.size, xs.length, (flat xs).toArray, rfl, Nat.le_refl _, heap_alloc_new w _, Nat.le_refl _, by unfold maxLen; omega, by rw [List.size_toArray, flat_len], ?_⟩⟩
 rw [<- flat_len]; simp
theorem ljudge_as {vm vc : Value} {ms : List Int} {xs : List In} {w : World} (hm : Sees .i64 w vm ms) (hx : SeesI w vc xs) {P E : Int} (h : Hid (judgeR ms xs = (P, E))) : Calls Tryz.prog 11 #[.agg #[vm, vc]] w fun e w' => e = .returned (.tuple #[.int .i64 P, .int .i64 E]) /\ Below w.heap.size w w' := by
 refine (ljudge_any vm ms vc xs w hm hx).mono ?_
 rintro e w' ⟨P', E', h1, _, _, rfl, hb⟩
 rw [h.out] at h1
 injection h1 with h2 h3
 subst h2 h3
 exact ⟨rfl, hb⟩
abbrev evV (ev : Int × Int) : Value := .agg #[.int .u64 ev.1, .int .u64 ev.2]
set_option maxHeartbeats 800000 in
theorem mnew_nil (vm vc : Value) (ev : Int × Int) (w : World) :
  Calls Tryz.prog 30 #[.agg #[vm, vc], evV ev, .pointer none] w fun e w' => e = .returned (.tuple #[.pointer none, .int .i64 2]) /\ Below w.heap.size w w' := by
 go_enter Tryz.func30, Tryz.ntmps30
 go_wp2
 go_ret2
 exact ⟨rfl, by go_grown⟩
set_option maxHeartbeats 800000 in
theorem mnew_bad {vm vc : Value} {ms : List Int} {xs : List In} (ev : Int × Int) (sb : Nat) (w : World) (hm : Sees .i64 w vm ms) (hx : SeesI w vc xs) {P E : Int} (hj : Hid (judgeR ms xs = (P, E))) (hE : E ≠ 0) :
  Calls Tryz.prog 30 #[.agg #[vm, vc], evV ev, .pointer (some ⟨sb, 0, none⟩)] w fun e w' => e = .returned (.tuple #[.pointer none, .int .i64 E]) /\ Below w.heap.size w w' := by
 have hE1 : ¬ E = 0 := hE
 have hE2 : (E == 0) = false := by simpa using hE
 obtain ⟨V, HV, hBV⟩ : ∃ V, Hid ((w.alloc (.cells #[vm, vc] 25)).alloc (.cells #[.int .u64 ev.1, .int .u64 ev.2] 28) = V) /\ Below w.heap.size w V := ⟨_, rfl, by go_grown⟩
 have HMV := keepJ (hm.below hBV (Nat.le_refl _))
 have HXV := keepJ (hx.below hBV)
 clear hm hx
 go_enter Tryz.func30, Tryz.ntmps30
 go_wp2_with (go_at_call 11; rw [HV.out]; go_must (refine (ljudge_as HMV.out HXV.out hj).mono ?_); rintro e w4 ⟨rfl, hb4⟩)
 go_ret2
 exact ⟨rfl, hBV.trans (hb4.mono hBV.size)⟩
def NewOk (w w' : World) (sb : Nat) (ms : List Int) (xs : List In) (ev : Int × Int) (cs : List Int) (e : Ending) : Prop := ∃ (b cb' ccap' : Nat) (um : Value), e = .returned (.tuple #[.pointer (some ⟨b, 0, none⟩), .int .i64 0]) /\ w.heap.size <= b /\ Mh w' b sb um cb' 0 ccap' ms xs ev { startE with cs := cs } /\ Chg w w' (fun k => k = sb) /\ w.heap.size <= cb' /\ (ms = [] ∨ ∀ j, um.ownBlock = some j -> w.heap.size <= j)
theorem sees_ltE {k : IntKind} {w : World} {v : Value} {xs : List Int} (h : Sees k w v xs) {j : Nat} (hj : v.ownBlock = some j) : xs = [] ∨ j < w.heap.size := by
 obtain ⟨a, cap, rfl, hl, hm, hn0, hw, hs⟩ := h
 by_cases hne : xs = []
 ·exact .inl hne
 ·obtain ⟨b, off, rfl, hlt, _⟩ := hs hne
  have : b = j := Option.some.inj hj
  exact .inr (by omega)
set_option maxHeartbeats 1600000 in
theorem mnew_ok {vm : Value} {cb co ccap : Nat} {ms : List Int} {xs : List In} (ev : Int × Int) (sb : Nat) {ws cs : List Int} (w : World) (hm : Sees .i64 w vm ms) (hx : SeesI w (.slice (some ⟨cb, co, none⟩) xs.length ccap) xs) (hs : Sc w sb ws cs) (hj : Hid (judgeR ms xs = (0, 0))) (hml : ms.length <= 1048576) (hmsb : ms = [] ∨ vm.ownBlock ≠ some sb) (hcsb : cb ≠ sb) (hxl : 0 < xs.length /\ xs.length <= 64) :
  Calls Tryz.prog 30 #[.agg #[vm, .slice (some ⟨cb, co, none⟩) xs.length ccap], evV ev, .pointer (some ⟨sb, 0, none⟩)] w fun e w' => NewOk w w' sb ms xs ev cs e := by
 obtain ⟨V, HV, hBV, HmV, HeV⟩ : ∃ V, Hid ((w.alloc (.cells #[vm, .slice (some ⟨cb, co, none⟩) xs.length ccap] 25)).alloc (.cells #[.int .u64 ev.1, .int .u64 ev.2] 28) = V) /\ Below w.heap.size w V /\ Hid (Hp V w.heap.size 25 [vm, .slice (some ⟨cb, co, none⟩) xs.length ccap]) /\ Hid (Hp V (w.heap.size + 1) 28 [.int .u64 ev.1, .int .u64 ev.2]) :=
  ⟨_, rfl, by go_grown, (Hp.new w _ _).alloc _, by have := Hp.new (w.alloc (.cells #[vm, .slice (some ⟨cb, co, none⟩) xs.length ccap] 25)) [.int .u64 ev.1, .int .u64 ev.2] 28; rw [World.size_alloc] at this; exact this⟩
 have HMV := keepJ (hm.below hBV (Nat.le_refl _))
 have HXV := keepJ (hx.below hBV)
 have HSV := keepJ (hs.below hBV hs.lt)
 have hsl := hs.lt
 have hzV : w.heap.size + 2 <= V.heap.size := by have := HeV.out.lt; omega
 clear hm hx
 go_enter Tryz.func30, Tryz.ntmps30
 go_wp2_with (first
  | (go_at_call 11; rw [HV.out]; go_must (refine (ljudge_as HMV.out HXV.out hj).mono ?_); rintro e w4 ⟨rfl, hb4⟩; go_must (have HS4 := keepJ (HSV.out.below hb4 HSV.out.lt)))
  | (go_at_call 59; go_must (refine (wipe_any w4 HS4.out).mono ?_); rintro e w5 ⟨rfl, hs5, hg5⟩))
 have hB4 : Below w.heap.size w w4 := hBV.trans (hb4.mono hBV.size)
 have HC5 := keepJ ((Chg.of_below (S := fun k => k = sb) hB4).trans (Chg.of_grown (S := fun k => k = sb) hg5 rfl) (fun _ _ e => e))
 have hz4 := hb4.size
 have hz5 := hg5.size
 have HM5 := keepJ ((HmV.out.below hb4 HmV.out.lt).grown hg5 (show some w.heap.size ≠ some sb from fun e => by have := Option.some.inj e; omega))
 have HE5 := keepJ ((HeV.out.below hb4 HeV.out.lt).grown hg5 (show some (w.heap.size + 1) ≠ some sb from fun e => by have := Option.some.inj e; omega))
 have HMs5 := keepJ ((HMV.out.below hb4 (Nat.le_refl _)).kept hg5 hmsb)
 have HXs5 := keepJ ((HXV.out.below hb4).chg (Chg.of_grown (S := fun k => k = sb) hg5 rfl) hcsb)
 have HP : Hid (∀ wx : World, Below w5.heap.size w5 wx -> wx.cell? ⟨w.heap.size, 0, none⟩ = some vm /\ wx.cell? ⟨w.heap.size, 1, none⟩ = some (.slice (some ⟨cb, co, none⟩) xs.length ccap) /\ wx.cell? ⟨w.heap.size + 1, 0, none⟩ = some (.int .u64 ev.1) /\ wx.cell? ⟨w.heap.size + 1, 1, none⟩ = some (.int .u64 ev.2)) := fun wx hb => ⟨(HM5.out.below hb (by omega)).cell rfl, (HM5.out.below hb (by omega)).cell rfl, (HE5.out.below hb (by omega)).cell rfl, (HE5.out.below hb (by omega)).cell rfl⟩
 refine wp_region_held_drew (S := fun w' => w'.cell? ⟨w.heap.size, 0, none⟩ = some vm /\ w'.cell? ⟨w.heap.size, 1, none⟩ = some (.slice (some ⟨cb, co, none⟩) xs.length ccap) /\ w'.cell? ⟨w.heap.size + 1, 0, none⟩ = some (.int .u64 ev.1) /\ w'.cell? ⟨w.heap.size + 1, 1, none⟩ = some (.int .u64 ev.2)) (by kernel_rfl) (HP.out _ (below_drE (Below.refl _ _))) (fun hHeld => ?_)
 refine tkGo [0, 1, 2, 4, 5, 7] ?_
 repeat (refine tkO (v := ?_) rfl ?_ ?_; rotate_left; (intro wy hSw; (try dsimp only at hSw); go_simp; (first | done | with_reducible rfl)); try simp only [Act.put, p1q, p2q, p3q, p4q, p5q, p6q])
 refine tkEnd ?_
 refine runO 3 (by kernel_rfl) rfl (by rfl) (fun KK hK => ?_)
 go_simp
 go_at_call 60
 refine (mcloneN vm ms w5.drew HMs5.out hml).mono ?_
 rintro e w6 ⟨um, rfl, hum, hub', hb6'⟩
 have hub : ms = [] ∨ ∀ j, um.ownBlock = some j -> w5.heap.size <= j := hub'
 have HUM := keepJ hum
 obtain ⟨ma, mcap, rfl, _, _, _, _, _⟩ := hum
 have hb6 : Below w5.heap.size w5 w6 := below_undrew hb6'
 have hz6 := hb6.size
 go_simp
 refine hK.out _ _ (HP.out w6 hb6) (fun hHeld => ?_)
 clear hK KK
 try simp only [Act.put, p1q, p2q, p3q, p4q, p5q, p6q]
 have HX6 := keepJ (HXs5.out.below hb6)
 refine runO 6 (by kernel_rfl) rfl (by rfl) (fun KK hK => ?_)
 go_simp
 go_at_call 61
 refine (mcloneI cb co ccap xs w6 HX6.out (by omega)).mono ?_
 rintro e w7 ⟨uc, rfl, huc, hb7⟩
 have HUC := keepJ huc
 obtain ⟨g, gcap, rfl, hg1, hg2, _⟩ := own_block huc hxl.1
 clear huc
 go_simp
 have hz7 := hb7.size
 have hB7 : Below w5.heap.size w5 w7 := hb6.trans (hb7.mono hz6)
 refine hK.out _ _ (HP.out w7 hB7) (fun hHeld => ?_)
 clear hK KK
 try simp only [Act.put, p1q, p2q, p3q, p4q, p5q, p6q]
 refine tkGo [8] ?_
 repeat (refine tkO (v := ?_) rfl ?_ ?_; rotate_left; (intro wy hSw; (try dsimp only at hSw); go_simp; (first | done | with_reducible rfl)); try simp only [Act.put, p1q, p2q, p3q, p4q, p5q, p6q])
 refine tkEnd ?_
 refine runO 9 (by kernel_rfl) rfl (by rfl) (fun KK hK => ?_)
 go_simp
 obtain ⟨F, HF, HhF, hBF⟩ : ∃ F, Hid (w7.alloc (.cells (((((Tryz.zeroCells154.setIfInBounds 0 (.int .u64 ev.1)).setIfInBounds 1 (.int .u64 ev.2)).setIfInBounds 2 (.slice ma ms.length mcap)).setIfInBounds 3 (.slice (some ⟨g, 0, none⟩) xs.length gcap)).setIfInBounds 4 (.pointer (some ⟨sb, 0, none⟩))) 154) = F) /\ Hid (Hp F w7.heap.size 154 (mcC (.slice ma ms.length mcap) (.slice (some ⟨g, 0, none⟩) xs.length gcap) ev sb { startE with cs := cs })) /\ Below w7.heap.size w7 F :=
  ⟨_, rfl, Hp.new w7 (mcC (.slice ma ms.length mcap) (.slice (some ⟨g, 0, none⟩) xs.length gcap) ev sb { startE with cs := cs }) _, (Below.refl _ _).alloc (Nat.le_refl _) _⟩
 rw [HF.out]
 have hBF5 : Below w5.heap.size w5 F := hB7.trans (hBF.mono (by omega))
 refine hK.out _ _ (HP.out F hBF5) (fun hHeld => ?_)
 clear hK KK
 try simp only [Act.put, p1q, p2q, p3q, p4q, p5q, p6q]
 refine tkGo [10, 11] ?_
 repeat (refine tkO (v := ?_) rfl ?_ ?_; rotate_left; (intro wy hSw; (try dsimp only at hSw); go_simp; (first | done | with_reducible rfl)); try simp only [Act.put, p1q, p2q, p3q, p4q, p5q, p6q])
 refine tkEnd ?_
 refine wpAnyH_done (by kernel_rfl) ?_ _
 go_wp2
 go_ret2
 have hz : WR (List.replicate 8 (0 : Int)) := ⟨rfl, fun r hr => by rw [show (List.replicate 8 (0 : Int)).getD r 0 = 0 by rw [List.getD_eq_getElem?_getD, List.getElem?_replicate, if_pos hr]; rfl]; decide⟩
 have hsF := (hs5.below hBF5 hs5.lt)
 refine ⟨w7.heap.size, g, gcap, .slice ma ms.length mcap, rfl, by omega, ⟨⟨HhF.out, hz, show 0 < 64 by decide⟩, hsF, (HUM.out.below hb7 (Nat.le_refl _)).below hBF (Nat.le_refl _), (own_seesI HUC.out).below hBF, by omega, ?_, by omega, by omega⟩, HC5.out.trans (Chg.of_below (S := fun _ => False) hBF5) (fun _ _ e => e.elim), by omega, hub.imp id fun h j hj => by have := h j hj; omega⟩
 by_cases hms : ms = []
 ·exact .inl hms
 refine .inr ⟨fun e => ?_, fun e => ?_⟩
 ·rcases sees_ltE HUM.out e with h | h
  ·exact hms h
  ·omega
 ·rcases hub with h | h
  ·exact hms h
  ·have := h _ e; omega
theorem inq_errorE {ms : List Int} {xs : List In} {P E : Int} (h : inqR ms xs = .error (P, E)) (hr : ∀ e : Nat × Int, runK xs ms.length xs.length = .error e -> e.2 ≠ 0) : E ≠ 0 := by
 unfold inqR at h
 split at h
 ·injection h with h; injection h with h1 h2; subst h2; decide
 split at h
 ·rename_i hE
  injection h with h; injection h with h1 h2; subst h2; exact hE
 split at h
 ·rename_i e he
  injection h with h; injection h with h1 h2; subst h2; exact hr e he
 ·cases h
theorem judge_known {ms : List Int} {xs : List In} {K : Kn} (h : inqR ms xs = .ok K) : mapsJ ms = true /\ (∃ known, Known xs ms.length known /\ Pull xs ms.length xs.length K known) /\ judgeR ms xs = (0, 0) := by
 have hj : judgeR ms xs = (0, 0) := by unfold judgeR; rw [h]
 unfold inqR at h
 split at h
 ·cases h
 rename_i hm
 split at h
 ·cases h
 rename_i hE
 have hT : Taken xs := check_ok.1 (show errL xs = 0 from Decidable.of_not_not hE)
 refine ⟨by simpa using hm, ?_, hj⟩
 split at h
 ·cases h
 rename_i K' hr
 injection h with h
 subst h
 rcases pull_run (nm := ms.length) hT xs.length (Nat.le_refl _) with ⟨e, h1, _⟩ | ⟨K2, known, h1, h2, hP⟩
 ·rw [hr] at h1; cases h1
 ·rw [hr] at h1
  injection h1 with h1
  subst h1
  exact ⟨known, ⟨hT, h2⟩, hP⟩
theorem maps_len {ms : List Int} (h : mapsJ ms = true) : ms.length <= 4 := by
 unfold mapsJ at h
 simp at h
 exact h.1
def lenV : Value -> Nat
 | .slice _ n _ => n
 | _ => 0
theorem own_lenV {w : World} {base : Nat} {e : TypeId} {z : Nat} {v : Value} {n : Nat} {xs : List Value} (h : w.ownsRow base e z v n xs) : lenV v = n := by
 rcases h with ⟨h1, ⟨rfl, h2⟩ | ⟨g, cap, cur, rfl, _⟩⟩
 ·exact h2.symm
 ·rfl
theorem step_actE {w wr w1 : World} {B : Nat} {e : TypeId} {v v' : Value} {o : Obj} {ys : List Ac} {A : Ac} (hown : wr.ownsRow B e 7 v ys.length (flatX ys)) (hown' : w1.ownsRow B e 7 v' (ys.length + 1) (flatX ys ++ acC A)) : w1.ownsRow B e 7 v' (ys ++ [A]).length (flatX (ys ++ [A])) := by
 rw [<- flatX_app]
 simpa [flatX] using hown'
theorem act_more {w0 w1 Y w2 : World} {B W b sb cb co ccap : Nat} {um : Value} {ms : List Int} {xs : List In} {ev : Int × Int} {M1 : Mc} {e : TypeId} {va v' : Value} {o : Obj} {A : List Ac} {A1 : Ac}
  (hown1 : w1.ownsRow B e 7 va A.length (flatX A)) (hbY : Below w1.heap.size w1 Y) (hzY : Y.heap.size = w1.heap.size + 1) (HaY : Hp Y w1.heap.size 55 (acC A1)) (hM1 : Mh w1 b sb um cb co ccap ms xs ev M1)
  (hlt : b < B /\ sb < B /\ cb < B) (hub : ms = [] ∨ ∀ j, um.ownBlock = some j -> j < B) (hB1 : Below W w0 w1) (hW : W <= B) (hw0 : W <= w0.heap.size)
  (hown' : w2.ownsRow B e 7 v' (A.length + 1) (flatX A ++ acC A1)) (hgrow : (Y.alloc o).grownBy w2 va.ownBlock) :
  w2.ownsRow B e 7 v' (A ++ [A1]).length (flatX (A ++ [A1])) /\ Hp w2 w1.heap.size 55 (acC A1) /\ Below W w0 w2 /\ Mh w2 b sb um cb co ccap ms xs ev M1 /\ w1.heap.size + 2 <= w2.heap.size := by
 have hC : Chg Y w2 (fun k => va.ownBlock = some k) := (Chg.of_below (S := fun k => va.ownBlock = some k) (below_alloc10 Y o)).trans (Chg.of_grown' hgrow (S := fun k => va.ownBlock = some k) (fun b hb => hb)) (fun _ _ e => e)
 have hz : Y.heap.size + 1 <= w2.heap.size := by
  have := hgrow.size
  rw [World.size_alloc] at this
  exact this
 have hs := hB1.size
 have hl := fun k (hk : va.ownBlock = some k) => hown1.lt k hk
 have hY : Below W w1 Y := hbY.mono (by omega)
 refine ⟨step_actE (w := w1) (o := o) hown1 hown', HaY.chg hC (fun e => by have := (hl _ e).2; omega), (hB1.trans hY).trans (hC.below (fun k e => by have := (hl k e).1; omega) (by omega)), (hM1.below hbY).apart hC (fun e => by have := (hl _ e).1; omega) (fun e => by have := (hl _ e).1; omega) (fun e => by have := (hl _ e).1; omega) (hub.imp id fun h j hj e => by have := h j hj; have := (hl _ e).1; omega), by omega⟩
set_option maxHeartbeats 3200000 in
theorem mtrace_bad {vm vc : Value} {ms : List Int} {xs : List In} (ev : Int × Int) (vr : Value) (w : World) (hm : Sees .i64 w vm ms) (hx : SeesI w vc xs) {P E : Int} (hj : Hid (judgeR ms xs = (P, E))) (hE : E ≠ 0) :
  Calls Tryz.prog 12 #[.agg #[vm, vc], evV ev, vr] w fun e w' => e = .returned (.tuple #[.slice none 0 0, .int .i64 E]) /\ Below w.heap.size w w' := by
 have hE1 : ¬ E = 0 := hE
 have hE2 : (E == 0) = false := by simpa using hE
 obtain ⟨V, HV, hBV, HmV, HeV⟩ : ∃ V, Hid ((w.alloc (.cells #[vm, vc] 25)).alloc (.cells #[.int .u64 ev.1, .int .u64 ev.2] 28) = V) /\ Below w.heap.size w V /\ Hid (Hp V w.heap.size 25 [vm, vc]) /\ Hid (Hp V (w.heap.size + 1) 28 [.int .u64 ev.1, .int .u64 ev.2]) :=
  ⟨_, rfl, by go_grown, (Hp.new w _ _).alloc _, by have := Hp.new (w.alloc (.cells #[vm, vc] 25)) [.int .u64 ev.1, .int .u64 ev.2] 28; rw [World.size_alloc] at this; exact this⟩
 have HMV := keepJ (hm.below hBV (Nat.le_refl _))
 have HXV := keepJ (hx.below hBV)
 have HP : Hid (∀ wx : World, Below V.heap.size V wx -> wx.cell? ⟨w.heap.size, 0, none⟩ = some vm /\ wx.cell? ⟨w.heap.size, 1, none⟩ = some vc /\ wx.cell? ⟨w.heap.size + 1, 0, none⟩ = some (.int .u64 ev.1) /\ wx.cell? ⟨w.heap.size + 1, 1, none⟩ = some (.int .u64 ev.2)) := fun wx hb => ⟨(HmV.out.below hb HmV.out.lt).cell rfl, (HmV.out.below hb HmV.out.lt).cell rfl, (HeV.out.below hb HeV.out.lt).cell rfl, (HeV.out.below hb HeV.out.lt).cell rfl⟩
 clear hm hx
 go_enter Tryz.func12, Tryz.ntmps12
 go_wp2
 rw [HV.out]
 go_region_held3 (fun w' => w'.cell? ⟨w.heap.size, 0, none⟩ = some vm /\ w'.cell? ⟨w.heap.size, 1, none⟩ = some vc /\ w'.cell? ⟨w.heap.size + 1, 0, none⟩ = some (.int .u64 ev.1) /\ w'.cell? ⟨w.heap.size + 1, 1, none⟩ = some (.int .u64 ev.2))
  (first | with_reducible exact hS4 | with_reducible exact hS5 | exact HP.out V (Below.refl _ _))
  (first
   | (go_at_call 31; go_must (refine (new_any V.drew).mono ?_); rintro e w4 ⟨rfl, hs4, hz4, hb4'⟩; go_must (have hb4 : Below V.heap.size V w4 := below_undrew hb4'; have hS4 := HP.out w4 hb4; have HM4 := keepJ (HMV.out.below hb4 (Nat.le_refl _)); have HX4 := keepJ (HXV.out.below hb4)))
   | (go_at_call 30; go_must (refine (mnew_bad ev _ w4 HM4.out HX4.out hj hE).mono ?_); rintro e w5 ⟨rfl, hb5⟩; go_must (have hB5 : Below V.heap.size V w5 := hb4.trans (hb5.mono hb4.size); have hS5 := HP.out w5 hB5)))
 go_wp2
 go_ret2
 exact ⟨rfl, hBV.trans (hB5.mono hBV.size)⟩
def TraceOk (w w' : World) (T : List Ac) (e : Ending) : Prop := ∃ v, e = .returned (.tuple #[v, .int .i64 0]) /\ w'.ownsRow w.heap.size 55 7 v T.length (flatX T) /\ Below w.heap.size w w'
set_option maxHeartbeats 6400000 in
theorem mtrace_ok {vm : Value} {cb co ccap : Nat} {ms : List Int} {xs : List In} (ev : Int × Int) (hev : (0 <= ev.1 /\ ev.1 <= 18446744073709551615) /\ 0 <= ev.2 /\ ev.2 <= 18446744073709551615) {vr : Value} {rs : List Rs} (w : World) (hm : Sees .i64 w vm ms) (hx : SeesI w (.slice (some ⟨cb, co, none⟩) xs.length ccap) xs) (hrs : SeesR w vr rs) {K : Kn} (hK : inqR ms xs = .ok K) {T : List Ac} (HT : Hid (traceE ms xs ev 257 startE rs = T)) :
  Calls Tryz.prog 12 #[.agg #[vm, .slice (some ⟨cb, co, none⟩) xs.length ccap], evV ev, vr] w fun e w' => TraceOk w w' T e := by
 obtain ⟨hmj, ⟨known, hKn, _⟩, hj0⟩ := judge_known hK
 have hj : Hid (judgeR ms xs = (0, 0)) := hj0
 have hml := maps_len hmj
 have hxl : 0 < xs.length /\ xs.length <= 64 := ⟨hKn.T.pos, hKn.T.top⟩
 obtain ⟨i0, hi, hz0, hz1, hz2⟩ := info_parts Tryz.infoActE
 obtain ⟨V, HV, hBV, HmV, HeV⟩ : ∃ V, Hid ((w.alloc (.cells #[vm, .slice (some ⟨cb, co, none⟩) xs.length ccap] 25)).alloc (.cells #[.int .u64 ev.1, .int .u64 ev.2] 28) = V) /\ Below w.heap.size w V /\ Hid (Hp V w.heap.size 25 [vm, .slice (some ⟨cb, co, none⟩) xs.length ccap]) /\ Hid (Hp V (w.heap.size + 1) 28 [.int .u64 ev.1, .int .u64 ev.2]) :=
  ⟨_, rfl, by go_grown, (Hp.new w _ _).alloc _, by have := Hp.new (w.alloc (.cells #[vm, .slice (some ⟨cb, co, none⟩) xs.length ccap] 25)) [.int .u64 ev.1, .int .u64 ev.2] 28; rw [World.size_alloc] at this; exact this⟩
 have HMV := keepJ (hm.below hBV (Nat.le_refl _))
 have HXV := keepJ (hx.below hBV)
 have HP : Hid (∀ wx : World, Below V.heap.size V wx -> wx.cell? ⟨w.heap.size, 0, none⟩ = some vm /\ wx.cell? ⟨w.heap.size, 1, none⟩ = some (.slice (some ⟨cb, co, none⟩) xs.length ccap) /\ wx.cell? ⟨w.heap.size + 1, 0, none⟩ = some (.int .u64 ev.1) /\ wx.cell? ⟨w.heap.size + 1, 1, none⟩ = some (.int .u64 ev.2)) := fun wx hb => ⟨(HmV.out.below hb HmV.out.lt).cell rfl, (HmV.out.below hb HmV.out.lt).cell rfl, (HeV.out.below hb HeV.out.lt).cell rfl, (HeV.out.below hb HeV.out.lt).cell rfl⟩
 have hcbw : cb < w.heap.size := (codeL hx hxl.1).2.1
 have hmbw : ms = [] ∨ ∀ j, vm.ownBlock = some j -> j < w.heap.size := by
  by_cases h : ms = []
  ·exact .inl h
  ·exact .inr fun j hj => (sees_ltE hm hj).resolve_left h
 have HRS := keepJ hrs
 obtain ⟨ra, rcap, rfl⟩ : ∃ a c, vr = .slice a rs.length c := by obtain ⟨a, c, h, _⟩ := hrs; exact ⟨a, c, h⟩
 clear hm hx hrs
 have hzV : w.heap.size + 2 <= V.heap.size := by have := HeV.out.lt; omega
 go_enter Tryz.func12, Tryz.ntmps12
 go_wp2
 rw [HV.out]
 go_region_held3 (fun w' => w'.cell? ⟨w.heap.size, 0, none⟩ = some vm /\ w'.cell? ⟨w.heap.size, 1, none⟩ = some (.slice (some ⟨cb, co, none⟩) xs.length ccap) /\ w'.cell? ⟨w.heap.size + 1, 0, none⟩ = some (.int .u64 ev.1) /\ w'.cell? ⟨w.heap.size + 1, 1, none⟩ = some (.int .u64 ev.2))
  (first | with_reducible exact hS4 | with_reducible exact hS5 | exact HP.out V (Below.refl _ _))
  (first
   | (go_at_call 31; go_must (refine (new_any V.drew).mono ?_); rintro e w4 ⟨rfl, hs4, hz4, hb4'⟩; go_must (have hb4 : Below V.heap.size V w4 := below_undrew hb4'; have hS4 := HP.out w4 hb4; have HM4 := keepJ (HMV.out.below hb4 (Nat.le_refl _)); have HX4 := keepJ (HXV.out.below hb4); have HS4 := keepJ (show Sc w4 V.heap.size nought nought from hs4); clear hs4))
   | (go_at_call 30; go_must (refine (mnew_ok ev V.heap.size w4 HM4.out HX4.out HS4.out hj (by omega) (hmbw.imp id fun h e => by have := h _ e; omega) (by omega) hxl).mono ?_); rintro e w5 ⟨b, cb', ccap', um, rfl, hbb, hmh, hch, hcc, hub⟩; go_must (have hC5 : Chg V w5 (fun k => k = V.heap.size) := (Chg.of_below (S := fun k => k = V.heap.size) hb4).trans hch (fun _ _ e => e); have hB5 : Below V.heap.size V w5 := hC5.below (fun k e => by omega) (Nat.le_refl _); have hS5 := HP.out w5 hB5; have HMH := keepJ hmh; clear hmh)))
 have hb5 := HMH.out.ma.hp.lt
 have hs5 := HMH.out.sc.lt
 have hc5 : cb' < w5.heap.size := (codeL HMH.out.code hxl.1).2.1
 have hub5 : ms = [] ∨ ∀ j, um.ownBlock = some j -> j < w5.heap.size := by
  by_cases h : ms = []
  ·exact .inl h
  ·exact .inr fun j hj => (sees_ltE HMH.out.maps hj).resolve_left h
 have hBw5 : Below w.heap.size w w5 := hBV.trans (hB5.mono hBV.size)
 have hzw5 := hBw5.size
 have hz1' := hz1
 have hbw0 : w.heap.size + 2 <= b := by have := hb4.size; omega
 clear hS4 hS5 hC5 hch hb4' hz1
 go_wp2
 go_loopw [2, 10] (fun vr va0 wr => ∃ (M : Mc) (l : List Rs) (A : List Ac) (ra' : Option Addr) (rcap' : Nat) (va : Value), vr = .slice ra' l.length rcap' /\ va = va0 /\ Safe xs ms.length known M /\ M.mode = 0 /\ Mh wr b V.heap.size um cb' 0 ccap' ms xs ev M /\ pot xs M <= 256 /\ A.length = M.steps /\ Hid (A ++ traceE ms xs ev (257 - M.steps) M l = T) /\ SeesR w (.slice ra' l.length rcap') l /\ wr.ownsRow w5.heap.size 55 7 va A.length (flatX A) /\ Below w.heap.size w wr /\ w5.heap.size <= wr.heap.size) (fun _ va _ => 300 - lenV va)
 case atStart =>
  have hp0 : pot xs startE <= 256 := Int.le_trans (pot_start hKn.T) (cost_256 hKn.T)
  exact ⟨startE, rs, [], ra, rcap, _, rfl, rfl, safe_start hKn, rfl, HMH.out, hp0, rfl, by show [] ++ _ = _; rw [List.nil_append]; exact HT.out, HRS.out, World.ownsRow_nil _ _ _ _, hBw5, Nat.le_refl _⟩
 case round =>
  obtain ⟨M, l, A, ra', rcap', va, rfl, rfl, hS, m0, hmh, hpot, hA, HTr, hr, ho, hbw, hzr⟩ := hrel
  have hpl := hS.pot_le hKn.T
  rw [if_pos m0] at hpl
  have hst : M.steps <= 255 := by omega
  obtain ⟨hsafe, hpt, hs1⟩ := safe_run (ms := ms) hKn hS m0 hev
  have hkd := step_kinds (ms := ms) (xs := xs) (ev := ev) m0
  rw [show 257 - M.steps = (256 - M.steps) + 1 by omega] at HTr
  have HStep := keepJ (mstep_all hKn hS hev hmh (by omega))
  have HTe := keepJ (fun h => trace_end (ms := ms) (xs := xs) (ev := ev) (M := M) (n := 256 - M.steps) (rs := l) h)
  have HTn := keepJ (fun h => trace_none (ms := ms) (xs := xs) (ev := ev) (M := M) (n := 256 - M.steps) h)
  have HTa := keepJ (fun r l' h => trace_ask (ms := ms) (xs := xs) (ev := ev) (M := M) (n := 256 - M.steps) (r := r) (rs := l') h)
  have HTo := keepJ (fun h => trace_on (ms := ms) (xs := xs) (ev := ev) (M := M) (n := 256 - M.steps) (rs := l) h)
  obtain ⟨⟨⟨ak, apc, am, ao, aq, av, an⟩, M1⟩, HR⟩ : ∃ R, Hid (stepE ms xs ev M = R) := ⟨_, rfl⟩
  rw [HR.out] at hkd hsafe hpt hs1
  simp only at hkd hsafe hpt hs1
  have HStep : Hid (Calls Tryz.prog 32 #[.pointer (some ⟨b, 0, none⟩)] wr fun e w' => e = .returned (actV ak apc am ao aq av an) /\ Chg wr w' (fun k => k = b ∨ k = V.heap.size) /\ Mh w' b V.heap.size um cb' 0 ccap' ms xs ev M1) := by
   have := HStep.out
   rw [HR.out] at this
   exact this
  have HTe : Hid (ak = 4 -> A ++ [⟨ak, apc, am, ao, aq, av, an⟩] = T) := fun h => by rw [<- HTr.out, HTe.out (by rw [HR.out]; exact h), HR.out]
  have HTo : Hid (ak ≠ 4 /\ ak ≠ 2 -> (A ++ [⟨ak, apc, am, ao, aq, av, an⟩]) ++ traceE ms xs ev (257 - M1.steps) M1 l = T) := fun h => by
   rw [<- HTr.out, HTo.out (by rw [HR.out]; exact h), HR.out, show 257 - M1.steps = 256 - M.steps by omega, List.append_assoc]
   rfl
  have HTn : Hid (ak = 2 -> l = [] -> A ++ [⟨ak, apc, am, ao, aq, av, an⟩] = T) := fun h e => by subst e; rw [<- HTr.out, HTn.out (by rw [HR.out]; exact h), HR.out]
  have HTa : Hid (∀ r l', ak = 2 -> l = r :: l' -> (A ++ [⟨ak, apc, am, ao, aq, av, an⟩]) ++ traceE ms xs ev (257 - M1.steps) (answerE xs M1 r.E r.f r.v) l' = T) := fun r l' h e => by
   subst e
   rw [<- HTr.out, HTa.out r l' (by rw [HR.out]; exact h), HR.out, show 257 - M1.steps = 256 - M.steps by omega, List.append_assoc]
   rfl
  clear HTr HR
  have h4 : (ak = 4 /\ M1.mode = 2 /\ (ak == 4) = true /\ (ak == 2) = false) ∨ (ak = 2 /\ M1.mode = 1 /\ (ak == 4) = false /\ (ak == 2) = true /\ l = []) ∨ (ak = 2 /\ M1.mode = 1 /\ (ak == 4) = false /\ (ak == 2) = true /\ ∃ r l', l = r :: l') ∨ ((ak = 1 ∨ ak = 3) /\ M1.mode = 0 /\ (ak == 4) = false /\ (ak == 2) = false) := by
   rcases hkd with ⟨g, g'⟩ | ⟨g, g'⟩ | ⟨g, g'⟩
   ·exact .inl ⟨g, g', by simp [g], by simp [g]⟩
   ·cases l with
    | nil => exact .inr (.inl ⟨g, g', by simp [g], by simp [g], rfl⟩)
    | cons r l' => exact .inr (.inr (.inl ⟨g, g', by simp [g], by simp [g], r, l', rfl⟩))
   ·exact .inr (.inr (.inr ⟨g, g', by simp; omega, by simp; omega⟩))
  clear hkd
  rcases h4 with ⟨hk, hm1, k4, k2⟩ | ⟨hk, hm1, k4, k2, hl1⟩ | ⟨hk, hm1, k4, k2, r, l', hl1⟩ | ⟨hk, hm1, k4, k2⟩
  all_goals (have HK := keepJ hk; clear hk; (try subst hl1))
  rotate_left 2
  have hsa := safe_answer (E := r.E) (f := r.f) hKn hsafe hm1 (v := r.v) (by obtain ⟨_, _, _, _, _, _, hw, _⟩ := hr; exact hw r (by simp))
  have hrw : r.wf := by obtain ⟨_, _, _, _, _, _, hw, _⟩ := hr; exact hw r (by simp)
  have HCut := keepJ hr.cut
  have hrl : l'.length + 1 <= rcap' /\ rcap' <= 9223372036854775807 := by
   obtain ⟨a1, c1, e, g1, g2, _⟩ := hr
   injection e with e1 e2 e3
   subst e3
   unfold maxLen at g2
   exact ⟨g1, by omega⟩
  obtain ⟨rb, ro, hrb, hrlt, hat⟩ : ∃ b off, ra' = some ⟨b, off, none⟩ /\ b < w.heap.size /\ AtR w b off r := by
   obtain ⟨a1, c1, e, _, _, _, _, g⟩ := hr
   injection e with e1 e2 e3
   subst e1
   obtain ⟨b, off, rfl, hlt, hat⟩ := g (by simp)
   exact ⟨b, off, rfl, hlt, by have := hat 0 (by simp); rw [Nat.zero_mul, Nat.add_zero] at this; exact this⟩
  subst hrb
  have HAt := keepJ hat
  have hcut : ∀ wx : World, (Instr.slice 29 (.slice (some ⟨rb, ro, none⟩) (l'.length + 1) rcap') (some (.int .i64 1)) none none).run Tryz.prog wx = .ok (cutR (some ⟨rb, ro, none⟩) (l'.length + 1) rcap') wx := fun wx => run_cutR _ _ _ (by omega) hrl.1 wx
  simp only [List.length_cons]
  rotate_left 2
  all_goals go_wp2_with (first
   | (go_at_call 32; go_must (refine HStep.out.mono ?_); rintro e w1 ⟨rfl, hc1, hmh1⟩; go_must (have hz1 := hc1.size; have hown1 := own_chg ho hc1 (fun k hk e => by have := (ho.lt k hk).1; omega); have HMH1 := keepJ hmh1; have HB1 := keepJ (hbw.trans (hc1.below (B := w.heap.size) (fun k e => by omega) hbw.size)); obtain ⟨Y, HY, HaY, hbY, hzY⟩ : ∃ Y, Hid (w1.alloc (.cells #[.int .i64 ak, .int .i64 apc, .int .i64 am, .int .i64 ao, .int .u64 aq, .int .u64 av, .int .u64 an] 55) = Y) /\ Hid (Hp Y w1.heap.size 55 (actC ak apc am ao aq av an)) /\ Below w1.heap.size w1 Y /\ Y.heap.size = w1.heap.size + 1 := ⟨_, rfl, Hp.new w1 _ _, (Below.refl _ _).alloc (Nat.le_refl _) _, by simp⟩; have hownY := own_below hown1 hbY (Nat.le_refl _); (have y0 := HaY.out.cell (j := 0) rfl); (have y1 := HaY.out.cell (j := 1) rfl); (have y2 := HaY.out.cell (j := 2) rfl); (have y3 := HaY.out.cell (j := 3) rfl); (have y4 := HaY.out.cell (j := 4) rfl); (have y5 := HaY.out.cell (j := 5) rfl); (have y6 := HaY.out.cell (j := 6) rfl); clear hmh1))
   | (at_builtin; rw [HY.out]; go_must (refine wpList_append_own _ rfl _ _ 47 rfl w5.heap.size 55 i0 _ 7 56 Tryz.underlying47 hi hz0 hz1' hz2 rfl (by decide) _ _ _ rfl (hownY.alloc _) ⟨_, 0, none⟩ 1 1 (actC ak apc am ao aq av an) rfl rfl (seven_new _ _ _ _ hzY.symm) (seven_one ⟨ak, apc, am, ao, aq, av, an⟩) (by unfold maxLen; omega) (by omega) (by simp; omega) ?_); intro v' w2 hown' hgrow _; have R := act_more (A1 := ⟨ak, apc, am, ao, aq, av, an⟩) hown1 hbY hzY HaY.out HMH1.out ⟨hb5, hs5, hc5⟩ hub5 HB1.out (W := w.heap.size) hzw5 (Nat.le_refl _) hown' hgrow; clear hown' hgrow; obtain ⟨hOW', hA2', hB2', hM2', hz2'⟩ := R; have HOW := keepJ hOW'; have HA2 := keepJ hA2'; have HB2 := keepJ hB2'; have HM2 := keepJ hM2'; have b0 := HA2.out.cell (j := 0) rfl; clear hOW' hA2' hB2' hM2'; (try (have hat2 := HAt.out.below HB2.out hrlt; obtain ⟨r0, r1, r2, r3, r4, r5⟩ := hat2)))
   | (go_at_call 33; go_must (refine (manswer_all hKn hsafe HM2.out hm1 r.E r.f r.v r.o r.k r.u hrw).mono ?_); rintro e w3 ⟨rfl, hc3, hm3⟩))
  ·go_ret2
   refine ⟨v', rfl, ?_, HB2.out⟩
   rw [<- HTe.out HK.out]
   exact own_low HOW.out hzw5
  ·go_ret2
   refine ⟨v', rfl, ?_, HB2.out⟩
   rw [<- HTn.out HK.out (by first | rfl | trivial)]
   exact own_low HOW.out hzw5
  ·go_roundw
   case rel =>
    have hz3 := hc3.size
    exact ⟨answerE xs M1 r.E r.f r.v, l', A ++ [⟨ak, apc, am, ao, aq, av, an⟩], _, _, v', rfl, rfl, hsa.1, rfl, hm3, by omega, by simp; omega, keepJ (HTa.out r l' HK.out (by first | rfl | trivial)), HCut.out, own_chg HOW.out hc3 (fun k hk e => by have := (HOW.out.lt k hk).1; omega), HB2.out.trans (hc3.below (fun k e => by omega) HB2.out.size), (by omega)⟩
   case measure =>
    rw [own_lenV HOW.out, own_lenV ho]
    simp
    omega
  ·go_roundw
   case rel => exact ⟨M1, l, A ++ [⟨ak, apc, am, ao, aq, av, an⟩], ra', rcap', v', rfl, rfl, hsafe, hm1, HM2.out, by omega, by simp; omega, keepJ (HTo.out (by have := HK.out; omega)), hr, HOW.out, HB2.out, (by omega)⟩
   case measure =>
    rw [own_lenV HOW.out, own_lenV ho]
    simp
    omega
theorem run_errorE {xs : List In} {nm : Nat} : ∀ {n : Nat} {p : Nat} {E : Int}, runK xs nm n = .error (p, E) -> p < n /\ E ≠ 0 := by
 intro n
 induction n with
 | zero => intro p E h; rw [runK] at h; cases h
 | succ n ih =>
  intro p E h
  rw [runK] at h
  cases h0 : runK xs nm n with
  | error e =>
   rw [h0] at h
   simp only at h
   injection h with h
   subst h
   have := ih h0
   exact ⟨by omega, this.2⟩
  | ok K =>
   rw [h0] at h
   simp only at h
   cases h1 : stepK xs nm n K with
   | ok K' => rw [h1] at h; cases h
   | error e =>
    rw [h1] at h
    simp only at h
    injection h with h
    injection h with h2 h3
    subst h2 h3
    refine ⟨by omega, ?_⟩
    unfold stepK at h1
    split at h1
    ·cases h1
    split at h1
    ·injection h1 with h1; subst h1; assumption
    ·cases h1
def okE (e : Except (Int × Int) Kn) : Bool := match e with | .ok _ => true | .error _ => false
def runsX : List In := [⟨13, 3, 0, 0, 1⟩, ⟨22, 0, 3, 0, 0⟩]
theorem runs_ok : ∃ K, inqR [] runsX = .ok K := by
 have h : okE (inqR [] runsX) = true := by decide +kernel
 cases hc : inqR [] runsX with
 | ok K => exact ⟨K, rfl⟩
 | error e => rw [hc] at h; cases h
def runsT : List Ac := [⟨1, 0, 0, 0, 0, 0, 0⟩, ⟨4, 1, 0, 0, 0, 0, 7⟩]
theorem runs_trace : traceE [] runsX (6, 7) 257 startE [] = runsT := by kernel_rfl
theorem sees_none (w : World) : Sees .i64 w (.slice none 0 0) [] := ⟨none, 0, rfl, Nat.le_refl _, by unfold maxLen; omega, fun _ => rfl, fun x hx => (by cases hx), fun h => absurd rfl h⟩
theorem seesR_none (w : World) : SeesR w (.slice none 0 0) [] := ⟨none, 0, rfl, Nat.le_refl _, by unfold maxLen; omega, fun _ => rfl, fun x hx => (by cases hx), fun h => absurd rfl h⟩
set_option maxHeartbeats 1600000 in
theorem runsT_any (w : World) : Calls Tryz.prog 4 #[] w fun e w' => e = .returned (.bool true) /\ Below w.heap.size w w' := by
 obtain ⟨K, hK⟩ := runs_ok
 have HK := keepJ hK
 have HT : Hid (traceE [] runsX (6, 7) 257 startE [] = runsT) := runs_trace
 clear hK
 go_enter Tryz.func4, Tryz.ntmps4
 go_wp2_with (first
  | (go_at_call 12; go_must (refine (mtrace_ok (ms := []) (xs := runsX) (6, 7) (by decide) (rs := []) _ (sees_none _) (seesI_lit w _ runsX _ 2 _ rfl rfl rfl (by decide)) (seesR_none _) HK.out HT).mono ?_); rintro e w2 ⟨v, rfl, ho, hb2'⟩; go_must (have hb2 : Below w.heap.size w w2 := (below_alloc10 w _).trans (hb2'.mono (by simp)); obtain ⟨ga, cap, rfl, _, hga, hcap, hcm, h2⟩ := own_acts ho (k := 1) (by decide); obtain ⟨a0, a1, a2, a3, a4, a5, a6⟩ := h2.seven; simp only [runsT, List.getD, List.getElem?_cons_succ, List.getElem?_cons_zero, Option.getD_some, Nat.reduceMul, Nat.reduceAdd, List.length_cons, List.length_nil] at a0 a1 a2 a3 a4 a5 a6 hcap; clear ho h2 hb2')))
 go_ret
 exact ⟨rfl, hb2⟩
def SeesX (w : World) (v : Value) (L : List Ac) : Prop :=
 ∃ a cap, v = .slice a L.length cap /\ L.length <= cap /\ cap <= 9223372036854775807 /\ (L ≠ [] -> ∃ g off, a = some ⟨g, off, none⟩ /\ g < w.heap.size /\ ∀ k, k < L.length -> AtA w g (off + k * 7) (L.getD k Ac.nil))
theorem own_seesX {w : World} {base : Nat} {e : TypeId} {v : Value} {L : List Ac} (h : w.ownsRow base e 7 v L.length (flatX L)) : SeesX w v L := by
 have h0 := h
 rcases h with ⟨h1, ⟨rfl, h2⟩ | ⟨g, cap, cur, rfl, hb, hh, h3, h4, h5, h6⟩⟩
 ·have : L = [] := List.eq_nil_of_length_eq_zero h2
  subst this
  exact ⟨none, 0, rfl, by simp, by omega, fun h => absurd rfl h⟩
 ·refine ⟨_, cap, rfl, h3, by unfold maxLen at h4; omega, fun hne => ⟨g, 0, rfl, (Array.getElem?_eq_some_iff.1 hh).1, fun k hk j hj => ?_⟩⟩
  rw [Nat.zero_add, h0.cellAt (k * 7 + j) (by omega)]
  exact flatX_at L k j hk hj
theorem SeesX.below {w w' : World} {v : Value} {L : List Ac} (h : SeesX w v L) (hb : Below w.heap.size w w') : SeesX w' v L := by
 obtain ⟨a, cap, rfl, h1, h2, h4⟩ := h
 refine ⟨a, cap, rfl, h1, h2, fun hne => ?_⟩
 obtain ⟨g, off, rfl, hlt, hat⟩ := h4 hne
 exact ⟨g, off, rfl, Nat.lt_of_lt_of_le hlt hb.size, fun k hk j hj => (hb.cell (p := ⟨g, off + k * 7 + j, none⟩) hlt).trans (hat k hk j hj)⟩
theorem res_cellsE {H : Type} {enc : TypeId × Value -> H} {W : World} {base fuel : Nat} {sp : Nat -> Bool} {held : Bool} {cs : List Value} {x : DataW H × List MemPlace}
  (h : DataW.trod enc Tryz.prog W base sp held fuel 95 cs = some x) : ∃ (E : Int) (f : Bool) (v : Int) (o : Bool) (k u : Int), cs = [.int .i64 E, .bool f, .int .u64 v, .bool o, .int .u64 k, .int .u64 u] /\ 0 <= v /\ v <= 18446744073709551615 := by
 obtain ⟨xs, n, rfl, hx, hl, hlen, hf⟩ := DataW.trod_struct Tryz.underlying95 h
 have l6 : cs.length = 6 := by rw [hl]; kernel_rfl
 have u0 : Tryz.prog.cellsOf 33 = 1 := by kernel_rfl
 have u1 : Tryz.prog.cellsOf 4 = 1 := by kernel_rfl
 have u2 : Tryz.prog.cellsOf 26 = 1 := by kernel_rfl
 match cs, l6, xs, hlen, hf with
 | [c0, c1, c2, c3, c4, c5], _, [x0, x1, x2, x3, x4, x5], _, hf =>
  have h0 : DataW.trod enc Tryz.prog W base sp held n 33 (([c0, c1, c2, c3, c4, c5].drop 0).take (Tryz.prog.cellsOf 33)) = some x0 := hf 0 _ rfl
  rw [u0] at h0
  have h1 : DataW.trod enc Tryz.prog W base sp held n 4 (([c0, c1, c2, c3, c4, c5].drop 1).take (Tryz.prog.cellsOf 4)) = some x1 := hf 1 _ rfl
  rw [u1] at h1
  have h2 : DataW.trod enc Tryz.prog W base sp held n 26 (([c0, c1, c2, c3, c4, c5].drop 2).take (Tryz.prog.cellsOf 26)) = some x2 := hf 2 _ rfl
  rw [u2] at h2
  have h3 : DataW.trod enc Tryz.prog W base sp held n 4 (([c0, c1, c2, c3, c4, c5].drop 3).take (Tryz.prog.cellsOf 4)) = some x3 := hf 3 _ rfl
  rw [u1] at h3
  have h4 : DataW.trod enc Tryz.prog W base sp held n 26 (([c0, c1, c2, c3, c4, c5].drop 4).take (Tryz.prog.cellsOf 26)) = some x4 := hf 4 _ rfl
  rw [u2] at h4
  have h5 : DataW.trod enc Tryz.prog W base sp held n 26 (([c0, c1, c2, c3, c4, c5].drop 5).take (Tryz.prog.cellsOf 26)) = some x5 := hf 5 _ rfl
  rw [u2] at h5
  obtain ⟨E, e0, y0, g0⟩ := DataW.trod_int Tryz.underlying33 h0
  obtain ⟨f, e1, y1⟩ := DataW.trod_bool Tryz.underlying4 h1
  obtain ⟨v, e2, y2, g2⟩ := DataW.trod_int Tryz.underlying26 h2
  obtain ⟨o, e3, y3⟩ := DataW.trod_bool Tryz.underlying4 h3
  obtain ⟨k, e4, y4, g4⟩ := DataW.trod_int Tryz.underlying26 h4
  obtain ⟨u, e5, y5, g5⟩ := DataW.trod_int Tryz.underlying26 h5
  simp at e0 e1 e2 e3 e4 e5
  subst e0 e1 e2 e3 e4 e5
  exact ⟨E, f, v, o, k, u, rfl, bounds_u64 g2⟩
theorem opens_Res_sh {H : Type} {enc : TypeId × Value -> H} {W : World} {v : Value} {d : DataW H} {p : List MemPlace}
  (hsh : ∃ a len cap, v = .slice a len cap) (h : DataW.Trod enc Tryz.prog W 0 (fun _ => true) true 29 v d p) :
  ∃ xs, SeesR W v xs /\ ((d.weights Tryz.prog 29).all (· <= reachBytes) = true -> xs.length * 48 <= 140737488355328) := by
 obtain ⟨a, len, cap, rfl⟩ := hsh
 have c5 : Tryz.prog.cellsOf 95 = 6 := by kernel_rfl
 obtain ⟨fuel, hf⟩ := h
 rcases DataW.trod_slice Tryz.underlying29 hf with ⟨hcs, hx⟩ | ⟨x, l, c, elems, rest, n, rfl, hcs, hx, _, hl, hm, hlen, hel, hsp, _⟩
 ·simp [Value.cells] at hcs hx
  obtain ⟨rfl, rfl, rfl⟩ := hcs
  obtain ⟨rfl, rfl⟩ := hx
  exact ⟨[], ⟨none, 0, rfl, by simp, by simp [maxLen], fun _ => rfl, by simp, fun h => absurd rfl h⟩, fun _ => by simp⟩
 ·simp [Value.cells] at hcs hx
  obtain ⟨rfl, rfl, rfl⟩ := hcs
  obtain ⟨rfl, rfl⟩ := hx
  have hex : ∀ i : Nat, ∃ I : Rs, i < len -> I.wf /\ (∀ j, j < 6 -> W.cell? ((x.add (i * 6)).add j) = (rsC I)[j]?) := by
   intro i
   by_cases hi : i < len
   ·have h1 := hel i hi
    have hie : i < elems.length := by omega
    rw [c5, List.getElem?_eq_getElem hie, Option.bind_eq_some_iff] at h1
    obtain ⟨cs, hc1, hc2⟩ := h1
    obtain ⟨E, f, v, o, k, u, rfl, hw⟩ := res_cellsE hc2
    exact ⟨⟨E, f, v, o, k, u⟩, fun _ => ⟨hw, (World.cells?_some hc1).2.2⟩⟩
   ·exact ⟨Rs.nil, fun h => absurd h hi⟩
  obtain ⟨g, hg⟩ := Classical.axiomOfChoice hex
  have hxl : ((List.range len).map g).length = len := by simp
  have hgd : ∀ k, k < len -> ((List.range len).map g).getD k Rs.nil = g k := fun k hk => by simp [List.getD, hk]
  refine ⟨(List.range len).map g, ⟨some x, cap, by rw [hxl], by omega, hm, fun h => by simp at h, ?_, fun hne => ?_⟩, ?_⟩
  ·intro i hi
   simp only [List.mem_map, List.mem_range] at hi
   obtain ⟨k, hk, rfl⟩ := hi
   exact (hg k hk).1
  ·have hpos : 0 < len := by
    rcases Nat.eq_zero_or_pos len with h0 | h0
    ·subst h0; exact absurd rfl hne
    ·exact h0
   obtain ⟨b, off, spot⟩ := x
   have h00 := (hg 0 hpos).2 0 (by omega)
   have hspot : spot = none := by
    have := World.cell?_spot (show W.cell? _ = some _ from h00)
    simpa [Addr.add] using this
   subst hspot
   refine ⟨b, off, rfl, ?_, fun k hk => ?_⟩
   ·have := World.block_lt_of_cell? W _ (show W.cell? _ = some _ from h00)
    simpa [Addr.add] using this
   ·rw [hxl] at hk
    rw [hgd k hk]
    have h5 := (hg k hk).2
    simp only [Addr.add_mid] at h5
    exact ⟨h5 0 (by omega), h5 1 (by omega), h5 2 (by omega), h5 3 (by omega), h5 4 (by omega), h5 5 (by omega)⟩
  ·intro hall
   have b40 : Tryz.prog.bytesOf 95 = 48 := by kernel_rfl
   rw [DataW.weights, Tryz.underlying29] at hall
   simp only [List.all_cons, Bool.and_eq_true, decide_eq_true_eq, List.length_map, b40] at hall
   have h1 := hall.1
   unfold reachBytes at h1
   rw [hxl]
   omega
theorem open_RunF {H : Type} {enc : TypeId × Value -> H} {W : World} {base : Nat} {v : Value} {d : DataW H} {p : List MemPlace}
  (hok : Value.okWide Tryz.prog W .any base 31 v) (h : DataW.Trod enc Tryz.prog W 0 (fun _ => true) true 31 v d p) :
  ∃ vm vc ea eb vr ms is rs, v = .agg #[vm, vc, .int .u64 ea, .int .u64 eb, vr] /\ SeesM W vm vc ms is /\ SeesR W vr rs /\ ((0 <= ea /\ ea <= 18446744073709551615) /\ 0 <= eb /\ eb <= 18446744073709551615) /\ ((d.weights Tryz.prog 31).all (· <= reachBytes) = true -> ms.length * 8 <= 140737488351232 /\ is.length * 40 <= 140737488351232 /\ rs.length * 48 <= 140737488355328) := by
 obtain ⟨cs, rfl, _⟩ := okWide_struct Tryz.underlying31 hok
 obtain ⟨fuel, hf⟩ := h
 obtain ⟨xs, n, _, hx, hl, hlen, hf⟩ := DataW.trod_struct Tryz.underlying31 hf
 have e6 : Tryz.prog.cellsOf 31 = 5 := by kernel_rfl
 have l6 : cs.toList.length = 5 := hl.trans e6
 have u0 : Tryz.prog.cellsOf 25 = 2 := by kernel_rfl
 have u1 : Tryz.prog.cellsOf 28 = 2 := by kernel_rfl
 have u2 : Tryz.prog.cellsOf 29 = 1 := by kernel_rfl
 have u3 : Tryz.prog.cellsOf 3 = 1 := by kernel_rfl
 have u4 : Tryz.prog.cellsOf 22 = 1 := by kernel_rfl
 have u5 : Tryz.prog.cellsOf 23 = 1 := by kernel_rfl
 have u6 : Tryz.prog.cellsOf 26 = 1 := by kernel_rfl
 obtain ⟨cl⟩ := cs
 simp only [Value.cells] at hf l6
 match cl, l6, xs, hlen, hf with
 | [c0, c1, c2, c3, c4], _, [x0, x1, x2], _, hf =>
  have h0 : DataW.trod enc Tryz.prog W 0 (fun _ => true) true n 25 (([c0, c1, c2, c3, c4].drop 0).take (Tryz.prog.cellsOf 25)) = some x0 := hf 0 _ rfl
  rw [u0] at h0
  have h1 : DataW.trod enc Tryz.prog W 0 (fun _ => true) true n 28 (([c0, c1, c2, c3, c4].drop 2).take (Tryz.prog.cellsOf 28)) = some x1 := hf 1 _ rfl
  rw [u1] at h1
  have h2 : DataW.trod enc Tryz.prog W 0 (fun _ => true) true n 29 (([c0, c1, c2, c3, c4].drop 4).take (Tryz.prog.cellsOf 29)) = some x2 := hf 2 _ rfl
  rw [u2] at h2
  have h0 : DataW.trod enc Tryz.prog W 0 (fun _ => true) true n 25 [c0, c1] = some x0 := h0
  have h1 : DataW.trod enc Tryz.prog W 0 (fun _ => true) true n 28 [c2, c3] = some x1 := h1
  have h2 : DataW.trod enc Tryz.prog W 0 (fun _ => true) true n 29 [c4] = some x2 := h2
  obtain ⟨ys, m, _, hy, _, hylen, hg⟩ := DataW.trod_struct Tryz.underlying25 h0
  obtain ⟨zs, m', _, _, _, hzlen, hg'⟩ := DataW.trod_struct Tryz.underlying28 h1
  match ys, hylen, hg, zs, hzlen, hg' with
  | [y0, y1], _, hg, [z0, z1], _, hg' =>
   have k0 : DataW.trod enc Tryz.prog W 0 (fun _ => true) true m 22 (([c0, c1].drop 0).take (Tryz.prog.cellsOf 22)) = some y0 := hg 0 _ rfl
   rw [u4] at k0
   have k1 : DataW.trod enc Tryz.prog W 0 (fun _ => true) true m 23 (([c0, c1].drop 1).take (Tryz.prog.cellsOf 23)) = some y1 := hg 1 _ rfl
   rw [u5] at k1
   have g0 : DataW.trod enc Tryz.prog W 0 (fun _ => true) true m' 26 (([c2, c3].drop 0).take (Tryz.prog.cellsOf 26)) = some z0 := hg' 0 _ rfl
   rw [u6] at g0
   have g1 : DataW.trod enc Tryz.prog W 0 (fun _ => true) true m' 26 (([c2, c3].drop 1).take (Tryz.prog.cellsOf 26)) = some z1 := hg' 1 _ rfl
   rw [u6] at g1
   have k0 : DataW.trod enc Tryz.prog W 0 (fun _ => true) true m 22 [c0] = some y0 := k0
   have k1 : DataW.trod enc Tryz.prog W 0 (fun _ => true) true m 23 [c1] = some y1 := k1
   obtain ⟨ea, e2, _, w2⟩ := DataW.trod_int Tryz.underlying26 g0
   obtain ⟨eb, e3, _, w3⟩ := DataW.trod_int Tryz.underlying26 g1
   simp at e2 e3
   subst e2 e3
   obtain ⟨a0, l0, q0, rfl⟩ := slice_of_trod Tryz.underlying22 k0
   obtain ⟨a1, l1, q1, rfl⟩ := slice_of_trod Tryz.underlying23 k1
   obtain ⟨a2, l2, q2, rfl⟩ := slice_of_trod Tryz.underlying29 h2
   obtain ⟨ms, s0, b0⟩ := sees_open_sh (k := .i64) (d := y0.1) (p := y0.2) Tryz.underlying22 Tryz.underlying3 (by kernel_rfl) ⟨_, _, _, rfl⟩ ⟨m, k0⟩
   obtain ⟨is, ⟨s1, w1⟩, _, b1⟩ := opens_Inst_sh (d := y1.1) (p := y1.2) ⟨_, _, _, rfl⟩ ⟨m, k1⟩
   obtain ⟨rs, s2, b2⟩ := opens_Res_sh (d := x2.1) (p := x2.2) ⟨_, _, _, rfl⟩ ⟨n, h2⟩
   refine ⟨_, _, ea, eb, _, ms, is, rs, rfl, ⟨s0, s1, w1⟩, s2, ⟨bounds_u64 w2, bounds_u64 w3⟩, fun hall => ?_⟩
   have hd : d = .agg [x0.1, x1.1, x2.1] := congrArg (·.1) hx
   have hd0 : x0.1 = .agg [y0.1, y1.1] := congrArg (·.1) hy
   rw [hd, DataW.weights, Tryz.underlying31] at hall
   simp only [DataW.weightsEach, List.map_cons, List.map_nil, List.all_append, Bool.and_eq_true] at hall
   have hall0 := hall.1
   rw [hd0, DataW.weights, Tryz.underlying25] at hall0
   simp only [DataW.weightsEach, List.map_cons, List.map_nil, List.all_append, Bool.and_eq_true] at hall0
   have b8 : Tryz.prog.bytesOf 3 = 8 := by kernel_rfl
   have r0 := b0 hall0.1
   rw [b8] at r0
   exact ⟨by unfold reachBytes at r0; omega, b1 hall0.2.1, b2 (by first | exact hall.2.2 | exact hall.2.2.1)⟩
end Go.Proofs.YtiheafdphgllkaaGreatDoor
