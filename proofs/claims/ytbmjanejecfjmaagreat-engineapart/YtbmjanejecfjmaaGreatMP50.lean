/-
  E11LClone
  E11LNew
  E11Open
-/
import Derived.Test.YtbmjanejecfjmaaGreatMP49
import Derived.Test.YtbmjanejecfjmaaGreatMP34
import Derived.Test.YtbmjanejecfjmaaGreatMP47
import Derived.Test.YtbmjanejecfjmaaGreatMP48
import Derived.ProofKit
namespace Go.Proofs.YtbmjanejecfjmaaGreat
open Go.RowKit
set_option linter.unusedVariables false
set_option linter.unusedSimpArgs false
set_option maxRecDepth 100000
open Go.ChangeShapes Go.WideShapes Go.ChangeAt Go.RowKit
theorem own_emptyE (w : World) (e : TypeId) (k : IntKind) : (w.alloc (.cells #[] e)).ownsRow w.heap.size e 1 (.slice (some ⟨w.heap.size, 0, none⟩) 0 0) ([] : List Int).length (([] : List Int).map (Value.int k)) := by
 refine ⟨rfl, .inr ⟨w.heap.size, 0, #[], rfl, Nat.le_refl _, ?_, Nat.le_refl _, by simp [maxLen], rfl, rfl⟩⟩
 show (w.heap.push _)[w.heap.size]? = _
 simp
theorem grown_newE {w w1 : World} {o : Obj} (hg : (w.alloc o).grownBy w1 (some w.heap.size)) : Below w.heap.size w w1 :=
 ((Below.refl w.heap.size w).alloc (Nat.le_refl _) o).grown hg (by simp) (fun k hk => (by have h : w.heap.size = k := Option.some.inj hk; omega))
set_option maxHeartbeats 800000 in
theorem mcloneN (v : Value) (xs : List Int) (w : World) (hs : Sees .i64 w v xs) (hl : xs.length <= 1048576) :
  Calls Tryz.prog 33 #[v] w fun e w' => ∃ u, e = .returned u /\ Sees .i64 w' u xs /\ (xs = [] ∨ ∀ j, u.ownBlock = some j -> w.heap.size <= j) /\ Below w.heap.size w w' := by
 obtain ⟨i0, hi, hz0, hz1, hz2⟩ := info_parts infoInt9
 have HS := keepJ hs
 have hwf := hs.wf
 obtain ⟨a, cap, rfl, h1, h2, h3, h4, h5⟩ := hs
 cases a with
 | none =>
  obtain rfl : xs = [] := by
   by_cases h : xs = []
   ·exact h
   ·obtain ⟨_, _, e, _⟩ := h5 h
    cases e
  obtain rfl := h3 rfl
  clear h5
  have heq : ∀ wx : World, (Go.binOp .eql 22 (.slice none 0 0) (.slice none 0 0)).run Tryz.prog wx = .ok (.bool true) wx := fun _ => by kernel_rfl
  go_enter Tryz.func33, Tryz.ntmps33
  go_wp2
  go_ret
  first
   | exact ⟨_, rfl, HS.out, .inl rfl, Below.refl _ _⟩
   | exact ⟨_, rfl, HS.out, Below.refl _ _⟩
 | some ad =>
  obtain ⟨bb, off, q⟩ := ad
  have heq : ∀ wx : World, (Go.binOp .eql 22 (.slice (some ⟨bb, off, q⟩) xs.length cap) (.slice none 0 0)).run Tryz.prog wx = .ok (.bool false) wx := fun _ => by kernel_rfl
  clear h5
  go_enter Tryz.func33, Tryz.ntmps33
  go_wp2_with (at_builtin; go_must (refine wpList_append_sees rfl (.tmp 5) (.tmp 6) 22 rfl w.heap.size 3 i0 (.int .i64 0) 8 Tryz.underlying22 hi hz0 hz1 hz2 rfl .i64 (.slice (some ⟨w.heap.size, 0, none⟩) 0 0) [] rfl (own_emptyE w _ _) _ xs rfl (HS.out.below ((Below.refl _ _).alloc (Nat.le_refl _) _) (Nat.le_refl _)) (by unfold maxLen; simp; omega) (by simp; omega) (by simp) ?_); intro v' w1 hown1 hg1)
  go_ret
  have ho : w1.ownsRow w.heap.size 3 1 v' xs.length (xs.map (Value.int .i64)) := by simpa using hown1
  refine ⟨_, rfl, Sees.own ho hwf, ?_, grown_newE hg1⟩
  by_cases h : xs = []
  ·exact .inl h
  ·refine .inr fun j hj => ?_
   obtain ⟨g, c, rfl, hb, _⟩ := own_block ho (List.length_pos_iff.2 h)
   have : g = j := Option.some.inj hj
   omega
set_option maxHeartbeats 800000 in
theorem mcloneI (cb co ccap : Nat) (xs : List In) (w : World) (hs : SeesI w (.slice (some ⟨cb, co, none⟩) xs.length ccap) xs) (hl : xs.length <= 1048576) :
  Calls Tryz.prog 34 #[.slice (some ⟨cb, co, none⟩) xs.length ccap] w fun e w' => ∃ u, e = .returned u /\ w'.ownsRow w.heap.size 43 5 u xs.length (flat xs) /\ Below w.heap.size w w' := by
 obtain ⟨i0, hi, hz0, hz1, hz2⟩ := info_parts infoInst9
 have HS := keepJ hs
 have heq : ∀ wx : World, (Go.binOp .eql 23 (.slice (some ⟨cb, co, none⟩) xs.length ccap) (.slice none 0 0)).run Tryz.prog wx = .ok (.bool false) wx := fun _ => by kernel_rfl
 clear hs
 go_enter Tryz.func34, Tryz.ntmps34
 go_wp2_with (at_builtin; go_must (refine wpList_append_seesI rfl (.tmp 5) (.tmp 6) 23 rfl w.heap.size 43 i0 (instV 0 0 0 0 0) Tryz.underlying23 hi hz0 hz1 hz2 rfl (.slice (some ⟨w.heap.size, 0, none⟩) 0 0) [] rfl (own_empty w _) _ xs rfl (HS.out.below ((Below.refl _ _).alloc (Nat.le_refl _) _)) (by unfold maxLen; simp; omega) (by simp; omega) (by simp) ?_); intro v' w1 hown1 hg1)
 go_ret
 exact ⟨_, rfl, by simpa using hown1, grown_newE hg1⟩
section
variable {w : World} {b sb cb co ccap : Nat} {vm vc : Value} {ms : List Int} {xs : List In} {ev : Int × Int} {M : Mc}
theorem manswer_all {known : List St} (hK : Known xs ms.length known) (hS : Safe xs ms.length known M) (h : Mh w b sb vm cb co ccap ms xs ev M) (hm : M.mode = 1) (E : Int) (f : Bool) (v : Int) (o : Bool) (k u : Int) (hv : 0 <= v /\ v <= 18446744073709551615) :
  Calls Tryz.prog 20 #[.pointer (some ⟨b, 0, none⟩), resV E f v o k u] w fun e w' => e = .returned (.int .i64 0) /\ Chg w w' (fun k => k = b ∨ k = sb) /\ Mh w' b sb vm cb co ccap ms xs ev (answerE xs M E f v) := by
 have hsa := (safe_answer (E := E) (f := f) hK hS hm hv).1
 have hpn : M.pc + 1 < 64 := Nat.lt_of_lt_of_le hsa.pc hK.T.top
 refine (manswer_yes E f v o k u w h.ma hm h.code hS.pc hpn h.cn.1 hv rfl).mono ?_
 rintro e w' ⟨rfl, hg, hm'⟩
 have hc : Chg w w' (fun k => k = b ∨ k = sb) := Chg.of_grown hg (.inl rfl)
 exact ⟨rfl, hc, h.step hc hm' (h.sc.grown hg (show some sb ≠ some b from fun e => h.ne (Option.some.inj e).symm))⟩
end
abbrev evV (ev : Int × Int) : Value := .agg #[.int .u64 ev.1, .int .u64 ev.2]
set_option maxHeartbeats 800000 in
theorem mnew_nil (vm vc : Value) (ev : Int × Int) (w : World) :
  Calls Tryz.prog 14 #[.agg #[vm, vc], evV ev, .pointer none] w fun e w' => e = .returned (.tuple #[.pointer none, .int .i64 2]) /\ Below w.heap.size w w' := by
 go_enter Tryz.func14, Tryz.ntmps14
 go_wp2
 go_ret2
 exact ⟨rfl, by go_grown⟩
set_option maxHeartbeats 800000 in
theorem mnew_bad {vm vc : Value} {ms : List Int} {xs : List In} (ev : Int × Int) (sb : Nat) (w : World) (hm : Sees .i64 w vm ms) (hx : SeesI w vc xs) {P E : Int} (hj : Hid (judgeR ms xs = (P, E))) (hE : E ≠ 0) :
  Calls Tryz.prog 14 #[.agg #[vm, vc], evV ev, .pointer (some ⟨sb, 0, none⟩)] w fun e w' => e = .returned (.tuple #[.pointer none, .int .i64 E]) /\ Below w.heap.size w w' := by
 have hE1 : ¬ E = 0 := hE
 have hE2 : (E == 0) = false := by simpa using hE
 obtain ⟨V, HV, hBV⟩ : ∃ V, Hid ((w.alloc (.cells #[vm, vc] 25)).alloc (.cells #[.int .u64 ev.1, .int .u64 ev.2] 28) = V) /\ Below w.heap.size w V := ⟨_, rfl, by go_grown⟩
 have HMV := keepJ (hm.below hBV (Nat.le_refl _))
 have HXV := keepJ (hx.below hBV)
 clear hm hx
 go_enter Tryz.func14, Tryz.ntmps14
 go_wp2_with (go_at_call 25; rw [HV.out]; go_must (refine (ljudge_as HMV.out HXV.out hj).mono ?_); rintro e w4 ⟨rfl, hb4⟩)
 go_ret2
 exact ⟨rfl, hBV.trans (hb4.mono hBV.size)⟩
def NewOk (w w' : World) (sb : Nat) (ms : List Int) (xs : List In) (ev : Int × Int) (cs : List Int) (e : Ending) : Prop := ∃ (b cb' ccap' : Nat) (um : Value), e = .returned (.tuple #[.pointer (some ⟨b, 0, none⟩), .int .i64 0]) /\ w.heap.size <= b /\ Mh w' b sb um cb' 0 ccap' ms xs ev { startE with cs := cs } /\ Chg w w' (fun k => k = sb) /\ w.heap.size <= cb' /\ (ms = [] ∨ ∀ j, um.ownBlock = some j -> w.heap.size <= j)
theorem sees_ltE {k : IntKind} {w : World} {v : Value} {xs : List Int} (h : Sees k w v xs) {j : Nat} (hj : v.ownBlock = some j) : xs = [] ∨ j < w.heap.size := by
 obtain ⟨a, cap, rfl, hl, hm, hn0, hw, hs⟩ := h
 by_cases hne : xs = []
 ·exact .inl hne
 ·obtain ⟨b, off, rfl, hlt, _⟩ := hs hne
  have : b = j := Option.some.inj hj
  exact .inr (by omega)
set_option maxHeartbeats 1600000 in
theorem mnew_ok {vm : Value} {cb co ccap : Nat} {ms : List Int} {xs : List In} (ev : Int × Int) (sb : Nat) {ws cs : List Int} (w : World) (hm : Sees .i64 w vm ms) (hx : SeesI w (.slice (some ⟨cb, co, none⟩) xs.length ccap) xs) (hs : Sc w sb ws cs) (hj : Hid (judgeR ms xs = (0, 0))) (hml : ms.length <= 1048576) (hmsb : ms = [] ∨ vm.ownBlock ≠ some sb) (hcsb : cb ≠ sb) (hxl : 0 < xs.length /\ xs.length <= 64) :
  Calls Tryz.prog 14 #[.agg #[vm, .slice (some ⟨cb, co, none⟩) xs.length ccap], evV ev, .pointer (some ⟨sb, 0, none⟩)] w fun e w' => NewOk w w' sb ms xs ev cs e := by
 obtain ⟨V, HV, hBV, HmV, HeV⟩ : ∃ V, Hid ((w.alloc (.cells #[vm, .slice (some ⟨cb, co, none⟩) xs.length ccap] 25)).alloc (.cells #[.int .u64 ev.1, .int .u64 ev.2] 28) = V) /\ Below w.heap.size w V /\ Hid (Hp V w.heap.size 25 [vm, .slice (some ⟨cb, co, none⟩) xs.length ccap]) /\ Hid (Hp V (w.heap.size + 1) 28 [.int .u64 ev.1, .int .u64 ev.2]) :=
  ⟨_, rfl, by go_grown, (Hp.new w _ _).alloc _, by have := Hp.new (w.alloc (.cells #[vm, .slice (some ⟨cb, co, none⟩) xs.length ccap] 25)) [.int .u64 ev.1, .int .u64 ev.2] 28; rw [World.size_alloc] at this; exact this⟩
 have HMV := keepJ (hm.below hBV (Nat.le_refl _))
 have HXV := keepJ (hx.below hBV)
 have HSV := keepJ (hs.below hBV hs.lt)
 have hsl := hs.lt
 have hzV : w.heap.size + 2 <= V.heap.size := by have := HeV.out.lt; omega
 clear hm hx
 go_enter Tryz.func14, Tryz.ntmps14
 go_wp2_with (first
  | (go_at_call 25; rw [HV.out]; go_must (refine (ljudge_as HMV.out HXV.out hj).mono ?_); rintro e w4 ⟨rfl, hb4⟩; go_must (have HS4 := keepJ (HSV.out.below hb4 HSV.out.lt)))
  | (go_at_call 32; go_must (refine (wipe_any w4 HS4.out).mono ?_); rintro e w5 ⟨rfl, hs5, hg5⟩))
 have hB4 : Below w.heap.size w w4 := hBV.trans (hb4.mono hBV.size)
 have HC5 := keepJ ((Chg.of_below (S := fun k => k = sb) hB4).trans (Chg.of_grown (S := fun k => k = sb) hg5 rfl) (fun _ _ e => e))
 have hz4 := hb4.size
 have hz5 := hg5.size
 have HM5 := keepJ ((HmV.out.below hb4 HmV.out.lt).grown hg5 (show some w.heap.size ≠ some sb from fun e => by have := Option.some.inj e; omega))
 have HE5 := keepJ ((HeV.out.below hb4 HeV.out.lt).grown hg5 (show some (w.heap.size + 1) ≠ some sb from fun e => by have := Option.some.inj e; omega))
 have HMs5 := keepJ ((HMV.out.below hb4 (Nat.le_refl _)).kept hg5 hmsb)
 have HXs5 := keepJ ((HXV.out.below hb4).chg (Chg.of_grown (S := fun k => k = sb) hg5 rfl) hcsb)
 have HP : Hid (∀ wx : World, Below w5.heap.size w5 wx -> wx.cell? ⟨w.heap.size, 0, none⟩ = some vm /\ wx.cell? ⟨w.heap.size, 1, none⟩ = some (.slice (some ⟨cb, co, none⟩) xs.length ccap) /\ wx.cell? ⟨w.heap.size + 1, 0, none⟩ = some (.int .u64 ev.1) /\ wx.cell? ⟨w.heap.size + 1, 1, none⟩ = some (.int .u64 ev.2)) := fun wx hb => ⟨(HM5.out.below hb (by omega)).cell rfl, (HM5.out.below hb (by omega)).cell rfl, (HE5.out.below hb (by omega)).cell rfl, (HE5.out.below hb (by omega)).cell rfl⟩
 refine wp_region_held_drew (S := fun w' => w'.cell? ⟨w.heap.size, 0, none⟩ = some vm /\ w'.cell? ⟨w.heap.size, 1, none⟩ = some (.slice (some ⟨cb, co, none⟩) xs.length ccap) /\ w'.cell? ⟨w.heap.size + 1, 0, none⟩ = some (.int .u64 ev.1) /\ w'.cell? ⟨w.heap.size + 1, 1, none⟩ = some (.int .u64 ev.2)) (by kernel_rfl) (HP.out _ (qAr (Below.refl _ _))) (fun hHeld => ?_)
 refine wpAnyH_take (i := 0) (v := ?v1) rfl (by kernel_rfl) (by kernel_rfl) (by kernel_rfl) (fun _ _ _ h => h) (Or.inl ⟨by rfl, ?hy1⟩) (by assumption) ?rest1
 case hy1 => (intro wy hSw; (try dsimp only at hSw); go_simp; (first | done | with_reducible rfl))
 try simp only [Act.put, p1q, p2q, p3q, p4q, p5q, p6q]
 refine wpAnyH_take (i := 1) (v := ?v2) rfl (by kernel_rfl) (by kernel_rfl) (by kernel_rfl) (fun _ _ _ h => h) (Or.inl ⟨by rfl, ?hy2⟩) (by assumption) ?rest2
 case hy2 => (intro wy hSw; (try dsimp only at hSw); go_simp; (first | done | with_reducible rfl))
 try simp only [Act.put, p1q, p2q, p3q, p4q, p5q, p6q]
 refine wpAnyH_take (i := 2) (v := ?v3) rfl (by kernel_rfl) (by kernel_rfl) (by kernel_rfl) (fun _ _ _ h => h) (Or.inl ⟨by rfl, ?hy3⟩) (by assumption) ?rest3
 case hy3 => (intro wy hSw; (try dsimp only at hSw); go_simp; (first | done | with_reducible rfl))
 try simp only [Act.put, p1q, p2q, p3q, p4q, p5q, p6q]
 refine wpAnyH_take (i := 4) (v := ?v4) rfl (by kernel_rfl) (by kernel_rfl) (by kernel_rfl) (fun _ _ _ h => h) (Or.inl ⟨by rfl, ?hy4⟩) (by assumption) ?rest4
 case hy4 => (intro wy hSw; (try dsimp only at hSw); go_simp; (first | done | with_reducible rfl))
 try simp only [Act.put, p1q, p2q, p3q, p4q, p5q, p6q]
 refine wpAnyH_take (i := 5) (v := ?v5) rfl (by kernel_rfl) (by kernel_rfl) (by kernel_rfl) (fun _ _ _ h => h) (Or.inl ⟨by rfl, ?hy5⟩) (by assumption) ?rest5
 case hy5 => (intro wy hSw; (try dsimp only at hSw); go_simp; (first | done | with_reducible rfl))
 try simp only [Act.put, p1q, p2q, p3q, p4q, p5q, p6q]
 refine wpAnyH_take (i := 7) (v := ?v6) rfl (by kernel_rfl) (by kernel_rfl) (by kernel_rfl) (fun _ _ _ h => h) (Or.inl ⟨by rfl, ?hy6⟩) (by assumption) ?rest6
 case hy6 => (intro wy hSw; (try dsimp only at hSw); go_simp; (first | done | with_reducible rfl))
 try simp only [Act.put, p1q, p2q, p3q, p4q, p5q, p6q]
 refine wpAnyH_ready (rs := [3]) (by kernel_rfl) (by simp) ?_
 refine AllReadyH.cons rfl (fun KK hK => ?_) AllReadyH.nil
 rw [if_pos (by rfl)]
 go_simp
 go_at_call 33
 refine (mcloneN vm ms w5.drew HMs5.out hml).mono ?_
 rintro e w6 ⟨um, rfl, hum, hub', hb6'⟩
 have hub : ms = [] ∨ ∀ j, um.ownBlock = some j -> w5.heap.size <= j := hub'
 have HUM := keepJ hum
 obtain ⟨ma, mcap, rfl, _, _, _, _, _⟩ := hum
 have hb6 : Below w5.heap.size w5 w6 := qAk hb6'
 have hz6 := hb6.size
 go_simp
 refine hK.out _ _ (HP.out w6 hb6) (fun hHeld => ?_)
 clear hK KK
 try simp only [Act.put, p1q, p2q, p3q, p4q, p5q, p6q]
 have HX6 := keepJ (HXs5.out.below hb6)
 refine wpAnyH_ready (rs := [6]) (by kernel_rfl) (by simp) ?_
 refine AllReadyH.cons rfl (fun KK hK => ?_) AllReadyH.nil
 rw [if_pos (by rfl)]
 go_simp
 go_at_call 34
 refine (mcloneI cb co ccap xs w6 HX6.out (by omega)).mono ?_
 rintro e w7 ⟨uc, rfl, huc, hb7⟩
 have HUC := keepJ huc
 obtain ⟨g, gcap, rfl, hg1, hg2, _⟩ := own_block huc hxl.1
 clear huc
 go_simp
 have hz7 := hb7.size
 have hB7 : Below w5.heap.size w5 w7 := hb6.trans (hb7.mono hz6)
 refine hK.out _ _ (HP.out w7 hB7) (fun hHeld => ?_)
 clear hK KK
 try simp only [Act.put, p1q, p2q, p3q, p4q, p5q, p6q]
 refine wpAnyH_take (i := 8) (v := ?v7) rfl (by kernel_rfl) (by kernel_rfl) (by kernel_rfl) (fun _ _ _ h => h) (Or.inl ⟨by rfl, ?hy7⟩) (by assumption) ?rest7
 case hy7 => (intro wy hSw; (try dsimp only at hSw); go_simp; (first | done | with_reducible rfl))
 try simp only [Act.put, p1q, p2q, p3q, p4q, p5q, p6q]
 refine wpAnyH_ready (rs := [9]) (by kernel_rfl) (by simp) ?_
 refine AllReadyH.cons rfl (fun KK hK => ?_) AllReadyH.nil
 rw [if_pos (by rfl)]
 go_simp
 obtain ⟨F, HF, HhF, hBF⟩ : ∃ F, Hid (w7.alloc (.cells (((((Tryz.zeroCells108.setIfInBounds 0 (.int .u64 ev.1)).setIfInBounds 1 (.int .u64 ev.2)).setIfInBounds 2 (.slice ma ms.length mcap)).setIfInBounds 3 (.slice (some ⟨g, 0, none⟩) xs.length gcap)).setIfInBounds 4 (.pointer (some ⟨sb, 0, none⟩))) 108) = F) /\ Hid (Hp F w7.heap.size 108 (mcC (.slice ma ms.length mcap) (.slice (some ⟨g, 0, none⟩) xs.length gcap) ev sb { startE with cs := cs })) /\ Below w7.heap.size w7 F :=
  ⟨_, rfl, Hp.new w7 (mcC (.slice ma ms.length mcap) (.slice (some ⟨g, 0, none⟩) xs.length gcap) ev sb { startE with cs := cs }) _, (Below.refl _ _).alloc (Nat.le_refl _) _⟩
 rw [HF.out]
 have hBF5 : Below w5.heap.size w5 F := hB7.trans (hBF.mono (by omega))
 refine hK.out _ _ (HP.out F hBF5) (fun hHeld => ?_)
 clear hK KK
 try simp only [Act.put, p1q, p2q, p3q, p4q, p5q, p6q]
 refine wpAnyH_take (i := 10) (v := ?v8) rfl (by kernel_rfl) (by kernel_rfl) (by kernel_rfl) (fun _ _ _ h => h) (Or.inl ⟨by rfl, ?hy8⟩) (by assumption) ?rest8
 case hy8 => (intro wy hSw; (try dsimp only at hSw); go_simp; (first | done | with_reducible rfl))
 try simp only [Act.put, p1q, p2q, p3q, p4q, p5q, p6q]
 refine wpAnyH_take (i := 11) (v := ?v9) rfl (by kernel_rfl) (by kernel_rfl) (by kernel_rfl) (fun _ _ _ h => h) (Or.inl ⟨by rfl, ?hy9⟩) (by assumption) ?rest9
 case hy9 => (intro wy hSw; (try dsimp only at hSw); go_simp; (first | done | with_reducible rfl))
 try simp only [Act.put, p1q, p2q, p3q, p4q, p5q, p6q]
 refine wpAnyH_done (by kernel_rfl) ?_ _
 go_wp2
 go_ret2
 have hz : WR (List.replicate 8 (0 : Int)) := ⟨rfl, fun r hr => by rw [show (List.replicate 8 (0 : Int)).getD r 0 = 0 by rw [List.getD_eq_getElem?_getD, List.getElem?_replicate, if_pos hr]; rfl]; decide⟩
 have hsF := (hs5.below hBF5 hs5.lt)
 refine ⟨w7.heap.size, g, gcap, .slice ma ms.length mcap, rfl, by omega, ⟨⟨HhF.out, hz, show 0 < 64 by decide⟩, hsF, (HUM.out.below hb7 (Nat.le_refl _)).below hBF (Nat.le_refl _), (own_seesI HUC.out).below hBF, by omega, ?_, by omega, by omega⟩, HC5.out.trans (Chg.of_below (S := fun _ => False) hBF5) (fun _ _ e => e.elim), by omega, hub.imp id fun h j hj => by have := h j hj; omega⟩
 by_cases hms : ms = []
 ·exact .inl hms
 refine .inr ⟨fun e => ?_, fun e => ?_⟩
 ·rcases sees_ltE HUM.out e with h | h
  ·exact hms h
  ·omega
 ·rcases hub with h | h
  ·exact hms h
  ·have := h _ e; omega
theorem res_cellsE {H : Type} {enc : TypeId × Value -> H} {W : World} {base fuel : Nat} {sp : Nat -> Bool} {held : Bool} {cs : List Value} {x : DataW H × List MemPlace}
  (h : DataW.trod enc Tryz.prog W base sp held fuel 45 cs = some x) : ∃ (E : Int) (f : Bool) (v : Int) (o : Bool) (k u : Int), cs = [.int .i64 E, .bool f, .int .u64 v, .bool o, .int .u64 k, .int .u64 u] /\ 0 <= v /\ v <= 18446744073709551615 := by
 obtain ⟨xs, n, rfl, hx, hl, hlen, hf⟩ := DataW.trod_struct Tryz.underlying45 h
 have l6 : cs.length = 6 := by rw [hl]; kernel_rfl
 have u0 : Tryz.prog.cellsOf 35 = 1 := by kernel_rfl
 have u1 : Tryz.prog.cellsOf 4 = 1 := by kernel_rfl
 have u2 : Tryz.prog.cellsOf 26 = 1 := by kernel_rfl
 match cs, l6, xs, hlen, hf with
 | [c0, c1, c2, c3, c4, c5], _, [x0, x1, x2, x3, x4, x5], _, hf =>
  have h0 : DataW.trod enc Tryz.prog W base sp held n 35 (([c0, c1, c2, c3, c4, c5].drop 0).take (Tryz.prog.cellsOf 35)) = some x0 := hf 0 _ rfl
  rw [u0] at h0
  have h1 : DataW.trod enc Tryz.prog W base sp held n 4 (([c0, c1, c2, c3, c4, c5].drop 1).take (Tryz.prog.cellsOf 4)) = some x1 := hf 1 _ rfl
  rw [u1] at h1
  have h2 : DataW.trod enc Tryz.prog W base sp held n 26 (([c0, c1, c2, c3, c4, c5].drop 2).take (Tryz.prog.cellsOf 26)) = some x2 := hf 2 _ rfl
  rw [u2] at h2
  have h3 : DataW.trod enc Tryz.prog W base sp held n 4 (([c0, c1, c2, c3, c4, c5].drop 3).take (Tryz.prog.cellsOf 4)) = some x3 := hf 3 _ rfl
  rw [u1] at h3
  have h4 : DataW.trod enc Tryz.prog W base sp held n 26 (([c0, c1, c2, c3, c4, c5].drop 4).take (Tryz.prog.cellsOf 26)) = some x4 := hf 4 _ rfl
  rw [u2] at h4
  have h5 : DataW.trod enc Tryz.prog W base sp held n 26 (([c0, c1, c2, c3, c4, c5].drop 5).take (Tryz.prog.cellsOf 26)) = some x5 := hf 5 _ rfl
  rw [u2] at h5
  obtain ⟨E, e0, y0, g0⟩ := DataW.trod_int Tryz.underlying35 h0
  obtain ⟨f, e1, y1⟩ := DataW.trod_bool Tryz.underlying4 h1
  obtain ⟨v, e2, y2, g2⟩ := DataW.trod_int Tryz.underlying26 h2
  obtain ⟨o, e3, y3⟩ := DataW.trod_bool Tryz.underlying4 h3
  obtain ⟨k, e4, y4, g4⟩ := DataW.trod_int Tryz.underlying26 h4
  obtain ⟨u, e5, y5, g5⟩ := DataW.trod_int Tryz.underlying26 h5
  simp at e0 e1 e2 e3 e4 e5
  subst e0 e1 e2 e3 e4 e5
  exact ⟨E, f, v, o, k, u, rfl, bounds_u64 g2⟩
theorem opens_Res_sh {H : Type} {enc : TypeId × Value -> H} {W : World} {v : Value} {d : DataW H} {p : List MemPlace}
  (hsh : ∃ a len cap, v = .slice a len cap) (h : DataW.Trod enc Tryz.prog W 0 (fun _ => true) true 29 v d p) :
  ∃ xs, SeesR W v xs /\ ((d.weights Tryz.prog 29).all (· <= reachBytes) = true -> xs.length * 48 <= 140737488355328) := by
 obtain ⟨a, len, cap, rfl⟩ := hsh
 have c5 : Tryz.prog.cellsOf 45 = 6 := by kernel_rfl
 obtain ⟨fuel, hf⟩ := h
 rcases DataW.trod_slice Tryz.underlying29 hf with ⟨hcs, hx⟩ | ⟨x, l, c, elems, rest, n, rfl, hcs, hx, _, hl, hm, hlen, hel, hsp, _⟩
 ·simp [Value.cells] at hcs hx
  obtain ⟨rfl, rfl, rfl⟩ := hcs
  obtain ⟨rfl, rfl⟩ := hx
  exact ⟨[], ⟨none, 0, rfl, by simp, by simp [maxLen], fun _ => rfl, by simp, fun h => absurd rfl h⟩, fun _ => by simp⟩
 ·simp [Value.cells] at hcs hx
  obtain ⟨rfl, rfl, rfl⟩ := hcs
  obtain ⟨rfl, rfl⟩ := hx
  have hex : ∀ i : Nat, ∃ I : Rs, i < len -> I.wf /\ (∀ j, j < 6 -> W.cell? ((x.add (i * 6)).add j) = (rsC I)[j]?) := by
   intro i
   by_cases hi : i < len
   ·have h1 := hel i hi
    have hie : i < elems.length := by omega
    rw [c5, List.getElem?_eq_getElem hie, Option.bind_eq_some_iff] at h1
    obtain ⟨cs, hc1, hc2⟩ := h1
    obtain ⟨E, f, v, o, k, u, rfl, hw⟩ := res_cellsE hc2
    exact ⟨⟨E, f, v, o, k, u⟩, fun _ => ⟨hw, (World.cells?_some hc1).2.2⟩⟩
   ·exact ⟨Rs.nil, fun h => absurd h hi⟩
  obtain ⟨g, hg⟩ := Classical.axiomOfChoice hex
  have hxl : ((List.range len).map g).length = len := by simp
  have hgd : ∀ k, k < len -> ((List.range len).map g).getD k Rs.nil = g k := fun k hk => by simp [List.getD, hk]
  refine ⟨(List.range len).map g, ⟨some x, cap, by rw [hxl], by omega, hm, fun h => by simp at h, ?_, fun hne => ?_⟩, ?_⟩
  ·intro i hi
   simp only [List.mem_map, List.mem_range] at hi
   obtain ⟨k, hk, rfl⟩ := hi
   exact (hg k hk).1
  ·have hpos : 0 < len := by
    rcases Nat.eq_zero_or_pos len with h0 | h0
    ·subst h0; exact absurd rfl hne
    ·exact h0
   obtain ⟨b, off, spot⟩ := x
   have h00 := (hg 0 hpos).2 0 (by omega)
   have hspot : spot = none := by
    have := World.cell?_spot (show W.cell? _ = some _ from h00)
    simpa [Addr.add] using this
   subst hspot
   refine ⟨b, off, rfl, ?_, fun k hk => ?_⟩
   ·have := World.block_lt_of_cell? W _ (show W.cell? _ = some _ from h00)
    simpa [Addr.add] using this
   ·rw [hxl] at hk
    rw [hgd k hk]
    have h5 := (hg k hk).2
    simp only [Addr.add_mid] at h5
    exact ⟨h5 0 (by omega), h5 1 (by omega), h5 2 (by omega), h5 3 (by omega), h5 4 (by omega), h5 5 (by omega)⟩
  ·intro hall
   have b40 : Tryz.prog.bytesOf 45 = 48 := by kernel_rfl
   rw [DataW.weights, Tryz.underlying29] at hall
   simp only [List.all_cons, Bool.and_eq_true, decide_eq_true_eq, List.length_map, b40] at hall
   have h1 := hall.1
   unfold reachBytes at h1
   rw [hxl]
   omega
theorem open_Run {H : Type} {enc : TypeId × Value -> H} {W : World} {base : Nat} {v : Value} {d : DataW H} {p : List MemPlace}
  (hok : Value.okWide Tryz.prog W .any base 31 v) (h : DataW.Trod enc Tryz.prog W 0 (fun _ => true) true 31 v d p) :
  ∃ vm vc ea eb vr od ms is rs, v = .agg #[vm, vc, .int .u64 ea, .int .u64 eb, vr, .int .i64 od] /\ SeesM W vm vc ms is /\ SeesR W vr rs /\ ((0 <= ea /\ ea <= 18446744073709551615) /\ 0 <= eb /\ eb <= 18446744073709551615) /\ (-9223372036854775808 <= od /\ od <= 9223372036854775807) /\ ((d.weights Tryz.prog 31).all (· <= reachBytes) = true -> ms.length * 8 <= 140737488351232 /\ is.length * 40 <= 140737488355328 /\ rs.length * 48 <= 140737488355328) := by
 obtain ⟨cs, rfl, _⟩ := okWide_struct Tryz.underlying31 hok
 obtain ⟨fuel, hf⟩ := h
 obtain ⟨xs, n, _, hx, hl, hlen, hf⟩ := DataW.trod_struct Tryz.underlying31 hf
 have e6 : Tryz.prog.cellsOf 31 = 6 := by kernel_rfl
 have l6 : cs.toList.length = 6 := hl.trans e6
 have u0 : Tryz.prog.cellsOf 25 = 2 := by kernel_rfl
 have u1 : Tryz.prog.cellsOf 28 = 2 := by kernel_rfl
 have u2 : Tryz.prog.cellsOf 29 = 1 := by kernel_rfl
 have u3 : Tryz.prog.cellsOf 3 = 1 := by kernel_rfl
 have u4 : Tryz.prog.cellsOf 22 = 1 := by kernel_rfl
 have u5 : Tryz.prog.cellsOf 23 = 1 := by kernel_rfl
 have u6 : Tryz.prog.cellsOf 26 = 1 := by kernel_rfl
 obtain ⟨cl⟩ := cs
 simp only [Value.cells] at hf l6
 match cl, l6, xs, hlen, hf with
 | [c0, c1, c2, c3, c4, c5], _, [x0, x1, x2, x3], _, hf =>
  have h0 : DataW.trod enc Tryz.prog W 0 (fun _ => true) true n 25 (([c0, c1, c2, c3, c4, c5].drop 0).take (Tryz.prog.cellsOf 25)) = some x0 := hf 0 _ rfl
  rw [u0] at h0
  have h1 : DataW.trod enc Tryz.prog W 0 (fun _ => true) true n 28 (([c0, c1, c2, c3, c4, c5].drop 2).take (Tryz.prog.cellsOf 28)) = some x1 := hf 1 _ rfl
  rw [u1] at h1
  have h2 : DataW.trod enc Tryz.prog W 0 (fun _ => true) true n 29 (([c0, c1, c2, c3, c4, c5].drop 4).take (Tryz.prog.cellsOf 29)) = some x2 := hf 2 _ rfl
  rw [u2] at h2
  have h3 : DataW.trod enc Tryz.prog W 0 (fun _ => true) true n 3 (([c0, c1, c2, c3, c4, c5].drop 5).take (Tryz.prog.cellsOf 3)) = some x3 := hf 3 _ rfl
  rw [u3] at h3
  have h0 : DataW.trod enc Tryz.prog W 0 (fun _ => true) true n 25 [c0, c1] = some x0 := h0
  have h1 : DataW.trod enc Tryz.prog W 0 (fun _ => true) true n 28 [c2, c3] = some x1 := h1
  have h2 : DataW.trod enc Tryz.prog W 0 (fun _ => true) true n 29 [c4] = some x2 := h2
  have h3 : DataW.trod enc Tryz.prog W 0 (fun _ => true) true n 3 [c5] = some x3 := h3
  obtain ⟨ys, m, _, hy, _, hylen, hg⟩ := DataW.trod_struct Tryz.underlying25 h0
  obtain ⟨zs, m', _, _, _, hzlen, hg'⟩ := DataW.trod_struct Tryz.underlying28 h1
  match ys, hylen, hg, zs, hzlen, hg' with
  | [y0, y1], _, hg, [z0, z1], _, hg' =>
   have k0 : DataW.trod enc Tryz.prog W 0 (fun _ => true) true m 22 (([c0, c1].drop 0).take (Tryz.prog.cellsOf 22)) = some y0 := hg 0 _ rfl
   rw [u4] at k0
   have k1 : DataW.trod enc Tryz.prog W 0 (fun _ => true) true m 23 (([c0, c1].drop 1).take (Tryz.prog.cellsOf 23)) = some y1 := hg 1 _ rfl
   rw [u5] at k1
   have g0 : DataW.trod enc Tryz.prog W 0 (fun _ => true) true m' 26 (([c2, c3].drop 0).take (Tryz.prog.cellsOf 26)) = some z0 := hg' 0 _ rfl
   rw [u6] at g0
   have g1 : DataW.trod enc Tryz.prog W 0 (fun _ => true) true m' 26 (([c2, c3].drop 1).take (Tryz.prog.cellsOf 26)) = some z1 := hg' 1 _ rfl
   rw [u6] at g1
   have k0 : DataW.trod enc Tryz.prog W 0 (fun _ => true) true m 22 [c0] = some y0 := k0
   have k1 : DataW.trod enc Tryz.prog W 0 (fun _ => true) true m 23 [c1] = some y1 := k1
   obtain ⟨ea, e2, _, w2⟩ := DataW.trod_int Tryz.underlying26 g0
   obtain ⟨eb, e3, _, w3⟩ := DataW.trod_int Tryz.underlying26 g1
   obtain ⟨od, e5, _, w5⟩ := DataW.trod_int Tryz.underlying3 h3
   simp at e2 e3 e5
   subst e2 e3 e5
   obtain ⟨a0, l0, q0, rfl⟩ := slice_of_trod Tryz.underlying22 k0
   obtain ⟨a1, l1, q1, rfl⟩ := slice_of_trod Tryz.underlying23 k1
   obtain ⟨a2, l2, q2, rfl⟩ := slice_of_trod Tryz.underlying29 h2
   obtain ⟨ms, s0, b0⟩ := sees_open_sh (k := .i64) (d := y0.1) (p := y0.2) Tryz.underlying22 Tryz.underlying3 (by kernel_rfl) ⟨_, _, _, rfl⟩ ⟨m, k0⟩
   obtain ⟨is, ⟨s1, w1⟩, _, b1⟩ := opens_Inst_sh (d := y1.1) (p := y1.2) ⟨_, _, _, rfl⟩ ⟨m, k1⟩
   obtain ⟨rs, s2, b2⟩ := opens_Res_sh (d := x2.1) (p := x2.2) ⟨_, _, _, rfl⟩ ⟨n, h2⟩
   refine ⟨_, _, ea, eb, _, od, ms, is, rs, rfl, ⟨s0, s1, w1⟩, s2, ⟨bounds_u64 w2, bounds_u64 w3⟩, bounds_i64 w5, fun hall => ?_⟩
   have hd : d = .agg [x0.1, x1.1, x2.1, x3.1] := congrArg (·.1) hx
   have hd0 : x0.1 = .agg [y0.1, y1.1] := congrArg (·.1) hy
   rw [hd, DataW.weights, Tryz.underlying31] at hall
   simp only [DataW.weightsEach, List.map_cons, List.map_nil, List.all_append, Bool.and_eq_true] at hall
   have hall0 := hall.1
   rw [hd0, DataW.weights, Tryz.underlying25] at hall0
   simp only [DataW.weightsEach, List.map_cons, List.map_nil, List.all_append, Bool.and_eq_true] at hall0
   have b8 : Tryz.prog.bytesOf 3 = 8 := by kernel_rfl
   have r0 := b0 hall0.1
   rw [b8] at r0
   exact ⟨by unfold reachBytes at r0; omega, b1 hall0.2.1, b2 hall.2.2.1⟩
end Go.Proofs.YtbmjanejecfjmaaGreat
