/-
  E11LClone
  E11LNew
-/
import Derived.Test.YtmhdhekcogplhaaGreatMS49
import Derived.Test.YtmhdhekcogplhaaGreatMS34
import Derived.Test.YtmhdhekcogplhaaGreatMS46
import Derived.Test.YtmhdhekcogplhaaGreatMS47
namespace Go.Proofs.YtmhdhekcogplhaaGreat
open Go.RowKit
set_option linter.unusedVariables false
set_option linter.unusedSimpArgs false
set_option maxRecDepth 100000
open List (getElem_toArray getElem_cons_zero getElem_cons_succ setIfInBounds_toArray set_cons_zero set_cons_succ)
theorem infoU64E : (Tryz.prog.info? 26).map (fun i => (i.zero, i.size, i.bytes)) = some (some (.int .u64 0), 1, 8) := by kernel_rfl
theorem own_emptyE (w : World) (e : TypeId) (k : IntKind) : (w.alloc (.cells #[] e)).ownsRow w.heap.size e 1 (.slice (some ⟨w.heap.size, 0, none⟩) 0 0) ([] : List Int).length (([] : List Int).map (Value.int k)) := by
 refine ⟨rfl, .inr ⟨w.heap.size, 0, #[], rfl, Nat.le_refl _, ?_, Nat.le_refl _, by simp [maxLen], rfl, rfl⟩⟩
 show (w.heap.push _)[w.heap.size]? = _
 simp
theorem grown_newE {w w1 : World} {o : Obj} (hg : (w.alloc o).grownBy w1 (some w.heap.size)) : Below w.heap.size w w1 :=
 ((Below.refl w.heap.size w).alloc (Nat.le_refl _) o).grown hg (by simp) (fun k hk => (by have h : w.heap.size = k := Option.some.inj hk; omega))
set_option maxHeartbeats 800000 in
theorem mcloneN (v : Value) (xs : List Int) (w : World) (hs : Sees .i64 w v xs) (hl : xs.length <= 1048576) :
  Calls Tryz.prog 33 #[v] w fun e w' => ∃ u, e = .returned u /\ Sees .i64 w' u xs /\ (xs = [] ∨ ∀ j, u.ownBlock = some j -> w.heap.size <= j) /\ Below w.heap.size w w' := by
 obtain ⟨i0, hi, hz0, hz1, hz2⟩ := info_parts infoInt9
 have HS := keepJ hs
 have hwf := hs.wf
 obtain ⟨a, cap, rfl, h1, h2, h3, h4, h5⟩ := hs
 cases a with
 | none =>
  obtain rfl : xs = [] := by
   by_cases h : xs = []
   ·exact h
   ·obtain ⟨_, _, e, _⟩ := h5 h
    cases e
  obtain rfl := h3 rfl
  clear h5
  have heq : ∀ wx : World, (Go.binOp .eql 22 (.slice none 0 0) (.slice none 0 0)).run Tryz.prog wx = .ok (.bool true) wx := fun _ => by kernel_rfl
  go_enter Tryz.func33, Tryz.ntmps33
  go_wp2
  go_ret
  first
   | exact ⟨_, rfl, HS.out, .inl rfl, Below.refl _ _⟩
   | exact ⟨_, rfl, HS.out, Below.refl _ _⟩
 | some ad =>
  obtain ⟨bb, off, q⟩ := ad
  have heq : ∀ wx : World, (Go.binOp .eql 22 (.slice (some ⟨bb, off, q⟩) xs.length cap) (.slice none 0 0)).run Tryz.prog wx = .ok (.bool false) wx := fun _ => by kernel_rfl
  clear h5
  go_enter Tryz.func33, Tryz.ntmps33
  go_wp2_with (at_builtin; go_must (refine wpList_append_sees rfl (.tmp 5) (.tmp 6) 22 rfl w.heap.size 3 i0 (.int .i64 0) 8 Tryz.underlying22 hi hz0 hz1 hz2 rfl .i64 (.slice (some ⟨w.heap.size, 0, none⟩) 0 0) [] rfl (own_emptyE w _ _) _ xs rfl (HS.out.below ((Below.refl _ _).alloc (Nat.le_refl _) _) (Nat.le_refl _)) (by unfold maxLen; simp; omega) (by simp; omega) (by simp) ?_); intro v' w1 hown1 hg1)
  go_ret
  have ho : w1.ownsRow w.heap.size 3 1 v' xs.length (xs.map (Value.int .i64)) := by simpa using hown1
  refine ⟨_, rfl, Sees.own ho hwf, ?_, grown_newE hg1⟩
  by_cases h : xs = []
  ·exact .inl h
  ·refine .inr fun j hj => ?_
   obtain ⟨g, c, rfl, hb, _⟩ := own_block ho (List.length_pos_iff.2 h)
   have : g = j := Option.some.inj hj
   omega
set_option maxHeartbeats 800000 in
theorem mcloneU (bb off : Nat) (xs : List Int) (w : World) (hs : Sees .u64 w (.slice (some ⟨bb, off, none⟩) 8 8) xs) (hl : xs.length = 8) :
  Calls Tryz.prog 61 #[.slice (some ⟨bb, off, none⟩) 8 8] w fun e w' => ∃ u, e = .returned u /\ w'.ownsRow w.heap.size 26 1 u 8 (nums xs) /\ Below w.heap.size w w' := by
 obtain ⟨i0, hi, hz0, hz1, hz2⟩ := info_parts infoU64E
 have HS := keepJ hs
 have heq : ∀ wx : World, (Go.binOp .eql 67 (.slice (some ⟨bb, off, none⟩) 8 8) (.slice none 0 0)).run Tryz.prog wx = .ok (.bool false) wx := fun _ => by kernel_rfl
 clear hs
 go_enter Tryz.func61, Tryz.ntmps61
 go_wp2_with (at_builtin; go_must (refine wpList_append_sees rfl (.tmp 5) (.tmp 6) 67 rfl w.heap.size 26 i0 (.int .u64 0) 8 Tryz.underlying67 hi hz0 hz1 hz2 rfl .u64 (.slice (some ⟨w.heap.size, 0, none⟩) 0 0) [] rfl (own_emptyE w _ _) _ xs rfl (HS.out.below ((Below.refl _ _).alloc (Nat.le_refl _) _) (Nat.le_refl _)) (by unfold maxLen; simp; omega) (by simp; omega) (by simp) ?_); intro v' w1 hown1 hg1)
 go_ret
 have ho : w1.ownsRow w.heap.size 26 1 v' xs.length (xs.map (Value.int .u64)) := by simpa using hown1
 rw [hl] at ho
 exact ⟨_, rfl, ho, grown_newE hg1⟩
set_option maxHeartbeats 800000 in
theorem mcloneI (cb co ccap : Nat) (xs : List In) (w : World) (hs : SeesI w (.slice (some ⟨cb, co, none⟩) xs.length ccap) xs) (hl : xs.length <= 1048576) :
  Calls Tryz.prog 34 #[.slice (some ⟨cb, co, none⟩) xs.length ccap] w fun e w' => ∃ u, e = .returned u /\ w'.ownsRow w.heap.size 43 5 u xs.length (flat xs) /\ Below w.heap.size w w' := by
 obtain ⟨i0, hi, hz0, hz1, hz2⟩ := info_parts infoInst9
 have HS := keepJ hs
 have heq : ∀ wx : World, (Go.binOp .eql 23 (.slice (some ⟨cb, co, none⟩) xs.length ccap) (.slice none 0 0)).run Tryz.prog wx = .ok (.bool false) wx := fun _ => by kernel_rfl
 clear hs
 go_enter Tryz.func34, Tryz.ntmps34
 go_wp2_with (at_builtin; go_must (refine wpList_append_seesI rfl (.tmp 5) (.tmp 6) 23 rfl w.heap.size 43 i0 (instV 0 0 0 0 0) Tryz.underlying23 hi hz0 hz1 hz2 rfl (.slice (some ⟨w.heap.size, 0, none⟩) 0 0) [] rfl (own_empty w _) _ xs rfl (HS.out.below ((Below.refl _ _).alloc (Nat.le_refl _) _)) (by unfold maxLen; simp; omega) (by simp; omega) (by simp) ?_); intro v' w1 hown1 hg1)
 go_ret
 exact ⟨_, rfl, by simpa using hown1, grown_newE hg1⟩
section
variable {w : World} {b sb cb co ccap : Nat} {vm vc : Value} {ms : List Int} {xs : List In} {ev : Int × Int} {M : Mc}
set_option maxHeartbeats 800000 in
theorem mregs_any (h : Ma w b sb vm vc ev M) : Calls Tryz.prog 30 #[.pointer (some ⟨b, 0, none⟩)] w fun e w' => ∃ u, e = .returned u /\ w'.ownsRow w.heap.size 26 1 u 8 (nums M.regs) /\ Below w.heap.size w w' := by
 have hlt := h.hp.lt
 have HS : Hid (Sees .u64 w (.slice (some ⟨b, 5, none⟩) 8 8) M.regs) := by
  have h8 := h.wr.1
  refine ⟨some ⟨b, 5, none⟩, 8, by rw [h8], by omega, by simp [maxLen], fun e => (by cases e), fun x hx => ?_, fun _ => ⟨b, 5, rfl, hlt, fun i hi => h.reg (show i < 8 by omega)⟩⟩
  obtain ⟨i, hi, rfl⟩ := List.getElem_of_mem hx
  have := h.wr.2 i (by omega)
  rw [List.getD_eq_getElem?_getD, List.getElem?_eq_getElem hi] at this
  simp only [Option.getD_some] at this
  exact WalkArith.wf_u64 (by omega)
 have hsl : ∀ wx : World, (Instr.sliceAt 104 (.pointer (some ⟨b, 5, none⟩)) none none none).run Tryz.prog wx = .ok (.slice (some ⟨b, 5, none⟩) 8 8) wx := fun _ => by kernel_rfl
 go_enter Tryz.func30, Tryz.ntmps30
 go_wp2_with (go_at_call 61; go_must (refine (mcloneU b 5 M.regs w HS.out h.wr.1).mono ?_); rintro e w4 ⟨u, rfl, ho4, hb4⟩)
 go_ret
 exact ⟨_, rfl, ho4, hb4⟩
theorem manswer_all {known : List St} (hK : Known xs ms.length known) (hS : Safe xs ms.length known M) (h : Mh w b sb vm cb co ccap ms xs ev M) (hm : M.mode = 1) (E : Int) (f : Bool) (v : Int) (o : Bool) (k u : Int) (hv : 0 <= v /\ v <= 18446744073709551615) :
  Calls Tryz.prog 20 #[.pointer (some ⟨b, 0, none⟩), resV E f v o k u] w fun e w' => e = .returned (.int .i64 0) /\ Chg w w' (fun k => k = b ∨ k = sb) /\ Mh w' b sb vm cb co ccap ms xs ev (answerE xs M E f v) := by
 have hsa := (safe_answer (E := E) (f := f) hK hS hm hv).1
 have hpn : M.pc + 1 < 64 := Nat.lt_of_lt_of_le hsa.pc hK.T.top
 refine (manswer_yes E f v o k u w h.ma hm h.code hS.pc hpn h.cn.1 hv rfl).mono ?_
 rintro e w' ⟨rfl, hg, hm'⟩
 have hc : Chg w w' (fun k => k = b ∨ k = sb) := Chg.of_grown hg (.inl rfl)
 exact ⟨rfl, hc, h.step hc hm' (h.sc.grown hg (show some sb ≠ some b from fun e => h.ne (Option.some.inj e).symm))⟩
end
abbrev evV (ev : Int × Int) : Value := .agg #[.int .u64 ev.1, .int .u64 ev.2]
def NewOk (w w' : World) (sb : Nat) (ms : List Int) (xs : List In) (ev : Int × Int) (cs : List Int) (e : Ending) : Prop := ∃ (b cb' ccap' : Nat) (um : Value), e = .returned (.tuple #[.pointer (some ⟨b, 0, none⟩), .int .i64 0]) /\ w.heap.size <= b /\ Mh w' b sb um cb' 0 ccap' ms xs ev { startE with cs := cs } /\ Chg w w' (fun k => k = sb) /\ w.heap.size <= cb' /\ (ms = [] ∨ ∀ j, um.ownBlock = some j -> w.heap.size <= j)
theorem sees_ltE {k : IntKind} {w : World} {v : Value} {xs : List Int} (h : Sees k w v xs) {j : Nat} (hj : v.ownBlock = some j) : xs = [] ∨ j < w.heap.size := by
 obtain ⟨a, cap, rfl, hl, hm, hn0, hw, hs⟩ := h
 by_cases hne : xs = []
 ·exact .inl hne
 ·obtain ⟨b, off, rfl, hlt, _⟩ := hs hne
  have : b = j := Option.some.inj hj
  exact .inr (by omega)
set_option maxHeartbeats 1600000 in
theorem mnew_ok {vm : Value} {cb co ccap : Nat} {ms : List Int} {xs : List In} (ev : Int × Int) (sb : Nat) {ws cs : List Int} (w : World) (hm : Sees .i64 w vm ms) (hx : SeesI w (.slice (some ⟨cb, co, none⟩) xs.length ccap) xs) (hs : Sc w sb ws cs) (hj : Hid (judgeR ms xs = (0, 0))) (hml : ms.length <= 1048576) (hmsb : ms = [] ∨ vm.ownBlock ≠ some sb) (hcsb : cb ≠ sb) (hxl : 0 < xs.length /\ xs.length <= 64) :
  Calls Tryz.prog 14 #[.agg #[vm, .slice (some ⟨cb, co, none⟩) xs.length ccap], evV ev, .pointer (some ⟨sb, 0, none⟩)] w fun e w' => NewOk w w' sb ms xs ev cs e := by
 obtain ⟨V, HV, hBV, HmV, HeV⟩ : ∃ V, Hid ((w.alloc (.cells #[vm, .slice (some ⟨cb, co, none⟩) xs.length ccap] 25)).alloc (.cells #[.int .u64 ev.1, .int .u64 ev.2] 28) = V) /\ Below w.heap.size w V /\ Hid (Hp V w.heap.size 25 [vm, .slice (some ⟨cb, co, none⟩) xs.length ccap]) /\ Hid (Hp V (w.heap.size + 1) 28 [.int .u64 ev.1, .int .u64 ev.2]) :=
  ⟨_, rfl, by go_grown, (Hp.new w _ _).alloc _, by have := Hp.new (w.alloc (.cells #[vm, .slice (some ⟨cb, co, none⟩) xs.length ccap] 25)) [.int .u64 ev.1, .int .u64 ev.2] 28; rw [World.size_alloc] at this; exact this⟩
 have HMV := keepJ (hm.below hBV (Nat.le_refl _))
 have HXV := keepJ (hx.below hBV)
 have HSV := keepJ (hs.below hBV hs.lt)
 have hsl := hs.lt
 have hzV : w.heap.size + 2 <= V.heap.size := by have := HeV.out.lt; omega
 clear hm hx
 go_enter Tryz.func14, Tryz.ntmps14
 go_wp2_with (first
  | (go_at_call 25; rw [HV.out]; go_must (refine (ljudge_as HMV.out HXV.out hj).mono ?_); rintro e w4 ⟨rfl, hb4⟩; go_must (have HS4 := keepJ (HSV.out.below hb4 HSV.out.lt)))
  | (go_at_call 32; go_must (refine (wipe_any w4 HS4.out).mono ?_); rintro e w5 ⟨rfl, hs5, hg5⟩))
 have hB4 : Below w.heap.size w w4 := hBV.trans (hb4.mono hBV.size)
 have HC5 := keepJ ((Chg.of_below (S := fun k => k = sb) hB4).trans (Chg.of_grown (S := fun k => k = sb) hg5 rfl) (fun _ _ e => e))
 have hz4 := hb4.size
 have hz5 := hg5.size
 have HM5 := keepJ ((HmV.out.below hb4 HmV.out.lt).grown hg5 (show some w.heap.size ≠ some sb from fun e => by have := Option.some.inj e; omega))
 have HE5 := keepJ ((HeV.out.below hb4 HeV.out.lt).grown hg5 (show some (w.heap.size + 1) ≠ some sb from fun e => by have := Option.some.inj e; omega))
 have HMs5 := keepJ ((HMV.out.below hb4 (Nat.le_refl _)).kept hg5 hmsb)
 have HXs5 := keepJ ((HXV.out.below hb4).chg (Chg.of_grown (S := fun k => k = sb) hg5 rfl) hcsb)
 have HP : Hid (∀ wx : World, Below w5.heap.size w5 wx -> wx.cell? ⟨w.heap.size, 0, none⟩ = some vm /\ wx.cell? ⟨w.heap.size, 1, none⟩ = some (.slice (some ⟨cb, co, none⟩) xs.length ccap) /\ wx.cell? ⟨w.heap.size + 1, 0, none⟩ = some (.int .u64 ev.1) /\ wx.cell? ⟨w.heap.size + 1, 1, none⟩ = some (.int .u64 ev.2)) := fun wx hb => ⟨(HM5.out.below hb (by omega)).cell rfl, (HM5.out.below hb (by omega)).cell rfl, (HE5.out.below hb (by omega)).cell rfl, (HE5.out.below hb (by omega)).cell rfl⟩
 refine wp_region_held_drew (S := fun w' => w'.cell? ⟨w.heap.size, 0, none⟩ = some vm /\ w'.cell? ⟨w.heap.size, 1, none⟩ = some (.slice (some ⟨cb, co, none⟩) xs.length ccap) /\ w'.cell? ⟨w.heap.size + 1, 0, none⟩ = some (.int .u64 ev.1) /\ w'.cell? ⟨w.heap.size + 1, 1, none⟩ = some (.int .u64 ev.2)) (by kernel_rfl) (HP.out _ (below_drE (Below.refl _ _))) (fun hHeld => ?_)
 refine wpAnyH_take (i := 0) (v := ?v1) rfl (by kernel_rfl) (by kernel_rfl) (by kernel_rfl) (fun _ _ _ h => h) (Or.inl ⟨by rfl, ?hy1⟩) (by assumption) ?rest1
 case hy1 => (intro wy hSw; (try dsimp only at hSw); go_simp; (first | done | with_reducible rfl))
 try simp only [Act.put, getElem_toArray, getElem_cons_zero, getElem_cons_succ, setIfInBounds_toArray, set_cons_zero, set_cons_succ]
 refine wpAnyH_take (i := 1) (v := ?v2) rfl (by kernel_rfl) (by kernel_rfl) (by kernel_rfl) (fun _ _ _ h => h) (Or.inl ⟨by rfl, ?hy2⟩) (by assumption) ?rest2
 case hy2 => (intro wy hSw; (try dsimp only at hSw); go_simp; (first | done | with_reducible rfl))
 try simp only [Act.put, getElem_toArray, getElem_cons_zero, getElem_cons_succ, setIfInBounds_toArray, set_cons_zero, set_cons_succ]
 refine wpAnyH_take (i := 2) (v := ?v3) rfl (by kernel_rfl) (by kernel_rfl) (by kernel_rfl) (fun _ _ _ h => h) (Or.inl ⟨by rfl, ?hy3⟩) (by assumption) ?rest3
 case hy3 => (intro wy hSw; (try dsimp only at hSw); go_simp; (first | done | with_reducible rfl))
 try simp only [Act.put, getElem_toArray, getElem_cons_zero, getElem_cons_succ, setIfInBounds_toArray, set_cons_zero, set_cons_succ]
 refine wpAnyH_take (i := 4) (v := ?v4) rfl (by kernel_rfl) (by kernel_rfl) (by kernel_rfl) (fun _ _ _ h => h) (Or.inl ⟨by rfl, ?hy4⟩) (by assumption) ?rest4
 case hy4 => (intro wy hSw; (try dsimp only at hSw); go_simp; (first | done | with_reducible rfl))
 try simp only [Act.put, getElem_toArray, getElem_cons_zero, getElem_cons_succ, setIfInBounds_toArray, set_cons_zero, set_cons_succ]
 refine wpAnyH_take (i := 5) (v := ?v5) rfl (by kernel_rfl) (by kernel_rfl) (by kernel_rfl) (fun _ _ _ h => h) (Or.inl ⟨by rfl, ?hy5⟩) (by assumption) ?rest5
 case hy5 => (intro wy hSw; (try dsimp only at hSw); go_simp; (first | done | with_reducible rfl))
 try simp only [Act.put, getElem_toArray, getElem_cons_zero, getElem_cons_succ, setIfInBounds_toArray, set_cons_zero, set_cons_succ]
 refine wpAnyH_take (i := 7) (v := ?v6) rfl (by kernel_rfl) (by kernel_rfl) (by kernel_rfl) (fun _ _ _ h => h) (Or.inl ⟨by rfl, ?hy6⟩) (by assumption) ?rest6
 case hy6 => (intro wy hSw; (try dsimp only at hSw); go_simp; (first | done | with_reducible rfl))
 try simp only [Act.put, getElem_toArray, getElem_cons_zero, getElem_cons_succ, setIfInBounds_toArray, set_cons_zero, set_cons_succ]
 refine wpAnyH_ready (rs := [3]) (by kernel_rfl) (by simp) ?_
 refine AllReadyH.cons rfl (fun KK hK => ?_) AllReadyH.nil
 rw [if_pos (by rfl)]
 go_simp
 go_at_call 33
 refine (mcloneN vm ms w5.drew HMs5.out hml).mono ?_
 rintro e w6 ⟨um, rfl, hum, hub', hb6'⟩
 have hub : ms = [] ∨ ∀ j, um.ownBlock = some j -> w5.heap.size <= j := hub'
 have HUM := keepJ hum
 obtain ⟨ma, mcap, rfl, _, _, _, _, _⟩ := hum
 have hb6 : Below w5.heap.size w5 w6 := below_undrew hb6'
 have hz6 := hb6.size
 go_simp
 refine hK.out _ _ (HP.out w6 hb6) (fun hHeld => ?_)
 clear hK KK
 try simp only [Act.put, getElem_toArray, getElem_cons_zero, getElem_cons_succ, setIfInBounds_toArray, set_cons_zero, set_cons_succ]
 have HX6 := keepJ (HXs5.out.below hb6)
 refine wpAnyH_ready (rs := [6]) (by kernel_rfl) (by simp) ?_
 refine AllReadyH.cons rfl (fun KK hK => ?_) AllReadyH.nil
 rw [if_pos (by rfl)]
 go_simp
 go_at_call 34
 refine (mcloneI cb co ccap xs w6 HX6.out (by omega)).mono ?_
 rintro e w7 ⟨uc, rfl, huc, hb7⟩
 have HUC := keepJ huc
 obtain ⟨g, gcap, rfl, hg1, hg2, _⟩ := own_block huc hxl.1
 clear huc
 go_simp
 have hz7 := hb7.size
 have hB7 : Below w5.heap.size w5 w7 := hb6.trans (hb7.mono hz6)
 refine hK.out _ _ (HP.out w7 hB7) (fun hHeld => ?_)
 clear hK KK
 try simp only [Act.put, getElem_toArray, getElem_cons_zero, getElem_cons_succ, setIfInBounds_toArray, set_cons_zero, set_cons_succ]
 refine wpAnyH_take (i := 8) (v := ?v7) rfl (by kernel_rfl) (by kernel_rfl) (by kernel_rfl) (fun _ _ _ h => h) (Or.inl ⟨by rfl, ?hy7⟩) (by assumption) ?rest7
 case hy7 => (intro wy hSw; (try dsimp only at hSw); go_simp; (first | done | with_reducible rfl))
 try simp only [Act.put, getElem_toArray, getElem_cons_zero, getElem_cons_succ, setIfInBounds_toArray, set_cons_zero, set_cons_succ]
 refine wpAnyH_ready (rs := [9]) (by kernel_rfl) (by simp) ?_
 refine AllReadyH.cons rfl (fun KK hK => ?_) AllReadyH.nil
 rw [if_pos (by rfl)]
 go_simp
 obtain ⟨F, HF, HhF, hBF⟩ : ∃ F, Hid (w7.alloc (.cells (((((Tryz.zeroCells108.setIfInBounds 0 (.int .u64 ev.1)).setIfInBounds 1 (.int .u64 ev.2)).setIfInBounds 2 (.slice ma ms.length mcap)).setIfInBounds 3 (.slice (some ⟨g, 0, none⟩) xs.length gcap)).setIfInBounds 4 (.pointer (some ⟨sb, 0, none⟩))) 108) = F) /\ Hid (Hp F w7.heap.size 108 (mcC (.slice ma ms.length mcap) (.slice (some ⟨g, 0, none⟩) xs.length gcap) ev sb { startE with cs := cs })) /\ Below w7.heap.size w7 F :=
  ⟨_, rfl, Hp.new w7 (mcC (.slice ma ms.length mcap) (.slice (some ⟨g, 0, none⟩) xs.length gcap) ev sb { startE with cs := cs }) _, (Below.refl _ _).alloc (Nat.le_refl _) _⟩
 rw [HF.out]
 have hBF5 : Below w5.heap.size w5 F := hB7.trans (hBF.mono (by omega))
 refine hK.out _ _ (HP.out F hBF5) (fun hHeld => ?_)
 clear hK KK
 try simp only [Act.put, getElem_toArray, getElem_cons_zero, getElem_cons_succ, setIfInBounds_toArray, set_cons_zero, set_cons_succ]
 refine wpAnyH_take (i := 10) (v := ?v8) rfl (by kernel_rfl) (by kernel_rfl) (by kernel_rfl) (fun _ _ _ h => h) (Or.inl ⟨by rfl, ?hy8⟩) (by assumption) ?rest8
 case hy8 => (intro wy hSw; (try dsimp only at hSw); go_simp; (first | done | with_reducible rfl))
 try simp only [Act.put, getElem_toArray, getElem_cons_zero, getElem_cons_succ, setIfInBounds_toArray, set_cons_zero, set_cons_succ]
 refine wpAnyH_take (i := 11) (v := ?v9) rfl (by kernel_rfl) (by kernel_rfl) (by kernel_rfl) (fun _ _ _ h => h) (Or.inl ⟨by rfl, ?hy9⟩) (by assumption) ?rest9
 case hy9 => (intro wy hSw; (try dsimp only at hSw); go_simp; (first | done | with_reducible rfl))
 try simp only [Act.put, getElem_toArray, getElem_cons_zero, getElem_cons_succ, setIfInBounds_toArray, set_cons_zero, set_cons_succ]
 refine wpAnyH_done (by kernel_rfl) ?_ _
 go_wp2
 go_ret2
 have hz : WR (List.replicate 8 (0 : Int)) := ⟨rfl, fun r hr => by rw [show (List.replicate 8 (0 : Int)).getD r 0 = 0 by rw [List.getD_eq_getElem?_getD, List.getElem?_replicate, if_pos hr]; rfl]; decide⟩
 have hsF := (hs5.below hBF5 hs5.lt)
 refine ⟨w7.heap.size, g, gcap, .slice ma ms.length mcap, rfl, by omega, ⟨⟨HhF.out, hz, show 0 < 64 by decide⟩, hsF, (HUM.out.below hb7 (Nat.le_refl _)).below hBF (Nat.le_refl _), (own_seesI HUC.out).below hBF, by omega, ?_, by omega, by omega⟩, HC5.out.trans (Chg.of_below (S := fun _ => False) hBF5) (fun _ _ e => e.elim), by omega, hub.imp id fun h j hj => by have := h j hj; omega⟩
 by_cases hms : ms = []
 ·exact .inl hms
 refine .inr ⟨fun e => ?_, fun e => ?_⟩
 ·rcases sees_ltE HUM.out e with h | h
  ·exact hms h
  ·omega
 ·rcases hub with h | h
  ·exact hms h
  ·have := h _ e; omega
end Go.Proofs.YtmhdhekcogplhaaGreat
