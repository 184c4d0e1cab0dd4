
/-
 The law EngineApart, walked. Condition: the modules' slices read as such, and take up no more bytes than an argument may.
-/
import Derived.Test.YtbmjanejecfjmaaGreatMP51
namespace Go.Proofs.YtbmjanejecfjmaaGreat
open Go.RowKit
set_option linter.unusedVariables false
set_option linter.unusedSimpArgs false
set_option maxRecDepth 100000

theorem copy_maps {w : World} {B sb : Nat} {um : Value} {ms : List Int} (h : OwnOr w B 3 1 um ms.length (ms.map (Value.int .i64))) (hs : w.heap.size <= sb) : ms = [] ∨ um.ownBlock ≠ some sb := by
 rcases h with ⟨h, _⟩ | h
 ·exact .inl (List.eq_nil_of_length_eq_zero h)
 ·exact .inr fun e => by have := (h.lt sb e).2; omega
theorem copy_code {w : World} {B sb : Nat} {uc : Value} {xs : List In} (h : OwnOr w B 43 5 uc xs.length (flat xs)) (hs : w.heap.size <= sb) : ∀ cb co ccap, uc = .slice (some ⟨cb, co, none⟩) xs.length ccap -> 0 < xs.length -> cb ≠ sb := by
 intro cb co ccap e hx
 rcases h with ⟨h, _⟩ | h
 ·omega
 ·subst e
  have := (h.lt cb rfl).2
  omega
theorem two_actsE (w : World) (ak apc am ao aq av an bk bpc bm bo bq bv bn : Int) : ∃ Y, Hid ((w.alloc (.cells #[.int .i64 ak, .int .i64 apc, .int .i64 am, .int .i64 ao, .int .u64 aq, .int .u64 av, .int .u64 an] 80)).alloc (.cells #[.int .i64 bk, .int .i64 bpc, .int .i64 bm, .int .i64 bo, .int .u64 bq, .int .u64 bv, .int .u64 bn] 80) = Y) /\ Hid (Hp Y w.heap.size 80 (actC ak apc am ao aq av an)) /\ Hid (Hp Y (w.heap.size + 1) 80 (actC bk bpc bm bo bq bv bn)) /\ Below w.heap.size w Y /\ Y.heap.size = w.heap.size + 1 + 1 :=
 ⟨_, rfl, (Hp.new w _ _).alloc _, by have := Hp.new (w.alloc (.cells #[.int .i64 ak, .int .i64 apc, .int .i64 am, .int .i64 ao, .int .u64 aq, .int .u64 av, .int .u64 an] 80)) (actC bk bpc bm bo bq bv bn) 80; rw [World.size_alloc] at this; exact this, ((Below.refl _ _).alloc (Nat.le_refl _) _).alloc (by simp) _, by simp⟩
theorem boxQ2 (w : World) (vm vc : Value) (ea eb : Int) (vr : Value) (od : Int) (vm' vc' : Value) (ea' eb' : Int) (vr' : Value) (od' : Int) : ∃ V, Hid ((w.alloc (.cells #[vm, vc, .int .u64 ea, .int .u64 eb, vr, .int .i64 od] 31)).alloc (.cells #[vm', vc', .int .u64 ea', .int .u64 eb', vr', .int .i64 od'] 31) = V) /\ Hid (Hp V w.heap.size 31 (runC vm vc ea eb vr od)) /\ Hid (Hp V (w.heap.size + 1) 31 (runC vm' vc' ea' eb' vr' od')) /\ Below w.heap.size w V /\ V.heap.size = w.heap.size + 2 :=
 ⟨_, rfl, (Hp.new w _ _).alloc _, by have := Hp.new (w.alloc (.cells #[vm, vc, .int .u64 ea, .int .u64 eb, vr, .int .i64 od] 31)) (runC vm' vc' ea' eb' vr' od') 31; rw [World.size_alloc] at this; exact this, ((Below.refl _ _).alloc (Nat.le_refl _) _).alloc (by simp) _, by simp⟩
def NewS (w w' : World) (p : Option Addr) (E : Int) (sb : Nat) (ms : List Int) (xs : List In) (ev : Int × Int) : Prop :=
 (E ≠ 0 /\ p = none) ∨ (E = 0 /\ ∃ S : Sd, ∃ K, p = some ⟨S.b, 0, none⟩ /\ S.ms = ms /\ S.xs = xs /\ S.ev = ev /\ S.mh w' startE /\ S.within w.heap.size w'.heap.size /\ inqR ms xs = .ok K)
theorem newS_of {w w0 w' : World} {p : Option Addr} {E : Int} {sb : Nat} {ms : List Int} {xs : List In} {ev : Int × Int} (hw : w.heap.size <= w0.heap.size) (hsb : w.heap.size <= sb) (h : (E ≠ 0 /\ p = none) ∨ (E = 0 /\ ∃ b cb' ccap' um K, p = some ⟨b, 0, none⟩ /\ w0.heap.size <= b /\ Mh w' b sb um cb' 0 ccap' ms xs ev startE /\ w0.heap.size <= cb' /\ (ms = [] ∨ ∀ j, um.ownBlock = some j -> w0.heap.size <= j) /\ inqR ms xs = .ok K)) : NewS w w' p E sb ms xs ev := by
 rcases h with h | ⟨h, b, cb', ccap', um, K, h1, h2, h3, h4, h5, h6⟩
 ·exact .inl h
 ·obtain ⟨_, ⟨known, hKn, _⟩, _⟩ := judge_known h6
  refine .inr ⟨h, ⟨b, sb, um, cb', ccap', ms, xs, ev⟩, K, h1, rfl, rfl, rfl, h3, ⟨⟨by show _ <= b; omega, h3.ma.hp.lt⟩, ⟨hsb, h3.sc.lt⟩, ⟨by show _ <= cb'; omega, (codeL h3.code hKn.T.pos).2.1⟩, ?_⟩, h6⟩
  by_cases hms : ms = []
  ·exact .inl hms
  ·refine .inr fun j hj => ⟨?_, (sees_ltE h3.maps hj).resolve_left hms⟩
   rcases h5 with h5 | h5
   ·exact absurd h5 hms
   ·have := h5 j hj; omega
theorem newS_next {w w' w2 : World} {p : Option Addr} {E : Int} {sb : Nat} {ms : List Int} {xs : List In} {ev : Int × Int} (h : NewS w w' p E sb ms xs ev) (hb : Below w'.heap.size w' w2) : (E ≠ 0 /\ p = none) ∨ (E = 0 /\ ∃ S : Sd, ∃ K, p = some ⟨S.b, 0, none⟩ /\ S.ms = ms /\ S.xs = xs /\ S.ev = ev /\ S.mh w2 startE /\ S.within w.heap.size w'.heap.size /\ inqR ms xs = .ok K) := by
 rcases h with h | ⟨h, S, K, h1, h2, h3, h4, h5, h6, h7⟩
 ·exact .inl h
 ·exact .inr ⟨h, S, K, h1, h2, h3, h4, Mh.below h5 hb, h6, h7⟩
structure Rr2 (w : World) (k l : Nat) (r1 r2 : Rs) (x y : Value) (wr : World) : Prop where
 ra : wr.ownsRow w.heap.size 45 6 x (List.replicate k r1).length (flatR (List.replicate k r1))
 rb : wr.ownsRow w.heap.size 45 6 y (List.replicate l r2).length (flatR (List.replicate l r2))
 ap : ∀ j, x.ownBlock = some j -> y.ownBlock ≠ some j
 be : Below w.heap.size w wr
theorem rep_more (k : Nat) (r : Rs) : (List.replicate k r).length + 1 = (List.replicate (k + 1) r).length /\ flatR (List.replicate k r) ++ rsC r = flatR (List.replicate (k + 1) r) := by
 refine ⟨by simp, ?_⟩
 rw [List.replicate_succ', <- flatR_app]
 simp [flatR]
theorem SeesR.belowR {w w' : World} {v : Value} {rs : List Rs} (h : SeesR w v rs) (hb : Below w.heap.size w w') : SeesR w' v rs := by
 obtain ⟨a, cap, rfl, h1, h2, h3, h4, h5⟩ := h
 refine ⟨a, cap, rfl, h1, h2, h3, h4, fun hne => ?_⟩
 obtain ⟨b, off, rfl, hlt, hat⟩ := h5 hne
 exact ⟨b, off, rfl, Nat.lt_of_lt_of_le hlt hb.size, fun k hk => (hat k hk).below hb hlt⟩
section
variable {w wr w' : World} {k l : Nat} {r1 r2 : Rs} {x y v' : Value} {o : Obj}
theorem Rr2.appA (h : Rr2 w k l r1 r2 x y wr) (hown : w'.ownsRow w.heap.size 45 6 v' ((List.replicate k r1).length + 1) (flatR (List.replicate k r1) ++ rsC r1)) (hg : (wr.alloc o).grownBy w' x.ownBlock) (hat : v'.ownBlock = x.ownBlock ∨ v'.ownBlock = some (wr.alloc o).heap.size) : Rr2 w (k + 1) l r1 r2 v' y w' := by
 have hC : Chg wr w' (fun k => x.ownBlock = some k) := (Chg.of_below (S := fun k => x.ownBlock = some k) (qBk wr o)).trans (Chg.of_grown' hg (S := fun k => x.ownBlock = some k) (fun b hb => hb)) (fun _ _ e => e)
 refine ⟨by rw [<- (rep_more k r1).1, <- (rep_more k r1).2]; exact hown, own_chg h.rb hC (fun k hk e => h.ap k e hk), fun k hk e => ?_, h.be.trans (hC.below (fun k e => (h.ra.lt k e).1) h.be.size)⟩
 rcases hat with g | g
 ·exact h.ap k (by rw [<- g]; exact hk) e
 ·have h1 := (h.rb.lt k e).2
  rw [g] at hk
  have h2 := Option.some.inj hk
  simp at h2
  omega
theorem Rr2.appB (h : Rr2 w k l r1 r2 x y wr) (hown : w'.ownsRow w.heap.size 45 6 v' ((List.replicate l r2).length + 1) (flatR (List.replicate l r2) ++ rsC r2)) (hg : (wr.alloc o).grownBy w' y.ownBlock) (hat : v'.ownBlock = y.ownBlock ∨ v'.ownBlock = some (wr.alloc o).heap.size) : Rr2 w k (l + 1) r1 r2 x v' w' := by
 have hC : Chg wr w' (fun k => y.ownBlock = some k) := (Chg.of_below (S := fun k => y.ownBlock = some k) (qBk wr o)).trans (Chg.of_grown' hg (S := fun k => y.ownBlock = some k) (fun b hb => hb)) (fun _ _ e => e)
 refine ⟨own_chg h.ra hC (fun k hk e => h.ap k hk e), by rw [<- (rep_more l r2).1, <- (rep_more l r2).2]; exact hown, fun k hk e => ?_, h.be.trans (hC.below (fun k e => (h.rb.lt k e).1) h.be.size)⟩
 rcases hat with g | g
 ·exact h.ap k hk (by rw [<- g]; exact e)
 ·have h1 := (h.ra.lt k hk).2
  rw [g] at e
  have h2 := Option.some.inj e
  simp at h2
  omega
end
set_option maxHeartbeats 6400000 in
theorem apart11_any (vm vc : Value) (ms : List Int) (xs : List In) (ea eb : Int) (vr : Value) (od : Int) (vm' vc' : Value) (ms' : List Int) (xs' : List In) (ea' eb' : Int) (vr' : Value) (od' : Int) (w : World) (h : SeesM w vm vc ms xs) (hev : (0 <= ea /\ ea <= 18446744073709551615) /\ 0 <= eb /\ eb <= 18446744073709551615) (z : ms.length * 8 <= 140737488351232 /\ xs.length * 40 <= 140737488355328)
  (h' : SeesM w vm' vc' ms' xs') (hev' : (0 <= ea' /\ ea' <= 18446744073709551615) /\ 0 <= eb' /\ eb' <= 18446744073709551615) (z' : ms'.length * 8 <= 140737488351232 /\ xs'.length * 40 <= 140737488355328) :
  Calls Tryz.prog 7 #[runV vm vc ea eb vr od, runV vm' vc' ea' eb' vr' od'] w fun e w' => e = .returned (.bool true) /\ Below w.heap.size w w' := by
 obtain ⟨V, HV, HqV, HqV', hBV, hzV⟩ := boxQ2 w vm vc ea eb vr od vm' vc' ea' eb' vr' od'
 have HSM : Hid (∀ wx : World, Below V.heap.size V wx -> SeesM wx vm vc ms xs) := fun wx hb => (h.below hBV).below hb
 have HSM' : Hid (∀ wx : World, Below V.heap.size V wx -> SeesM wx vm' vc' ms' xs') := fun wx hb => (h'.below hBV).below hb
 have HQ : Hid (∀ wx : World, Below V.heap.size V wx -> wx.cell? ⟨w.heap.size, 0, none⟩ = some vm /\ wx.cell? ⟨w.heap.size, 1, none⟩ = some vc /\ wx.cell? ⟨w.heap.size, 2, none⟩ = some (.int .u64 ea) /\ wx.cell? ⟨w.heap.size, 3, none⟩ = some (.int .u64 eb)) := fun wx hb => ⟨(HqV.out.below hb (by omega)).cell rfl, (HqV.out.below hb (by omega)).cell rfl, (HqV.out.below hb (by omega)).cell rfl, (HqV.out.below hb (by omega)).cell rfl⟩
 have HQ' : Hid (∀ wx : World, Below V.heap.size V wx -> wx.cell? ⟨w.heap.size + 1, 0, none⟩ = some vm' /\ wx.cell? ⟨w.heap.size + 1, 1, none⟩ = some vc' /\ wx.cell? ⟨w.heap.size + 1, 2, none⟩ = some (.int .u64 ea') /\ wx.cell? ⟨w.heap.size + 1, 3, none⟩ = some (.int .u64 eb')) := fun wx hb => ⟨(HqV'.out.below hb (by omega)).cell rfl, (HqV'.out.below hb (by omega)).cell rfl, (HqV'.out.below hb (by omega)).cell rfl, (HqV'.out.below hb (by omega)).cell rfl⟩
 have HZ := keepJ z
 have HZ' := keepJ z'
 clear h h' z z' HqV HqV'
 go_enter Tryz.func7, Tryz.ntmps7
 go_wp2_with (go_at_call 8; rw [HV.out]; go_must (refine (awake11_any V).mono ?_); rintro e w1 ⟨rfl, hb1⟩)
 have hz1 := hb1.size
 have hS1 := HQ.out w1 hb1
 go_region_held3 (fun w' => w'.cell? ⟨w.heap.size, 0, none⟩ = some vm /\ w'.cell? ⟨w.heap.size, 1, none⟩ = some vc /\ w'.cell? ⟨w.heap.size, 2, none⟩ = some (.int .u64 ea) /\ w'.cell? ⟨w.heap.size, 3, none⟩ = some (.int .u64 eb))
  (first | with_reducible exact hS4 | with_reducible exact hS3 | with_reducible exact hS2 | exact hS1)
  (first
   | (go_at_call 9; go_must (refine (copied9_own vm vc ms xs w1.drew (HSM.out _ (qAr hb1)) HZ.out).mono ?_); rintro e w2 ⟨um, uc, rfl, hs2, ho2, hoc2, hb2'⟩; go_must (have hb2 : Below w1.heap.size w1 w2 := qAk hb2'; have hB2 : Below V.heap.size V w2 := hb1.trans (hb2.mono hz1); have hS2 := HQ.out w2 hB2))
   | (go_at_call 13; go_must (refine (new_any w2).mono ?_); rintro e w3 ⟨rfl, hs3, hz3, hb3⟩; go_must (have hB3 : Below V.heap.size V w3 := hB2.trans (hb3.mono hB2.size); have hS3 := HQ.out w3 hB3))
   | (go_at_call 14; go_must (refine (mnew_either (ea, eb) w3 (hs2.below hb3) hs3 (copy_maps ho2 (Nat.le_refl _)) (copy_code hoc2 (Nat.le_refl _))).mono ?_); rintro e w4 ⟨p1, E1, rfl, hc4, hn4⟩; go_must (have hB4 : Below V.heap.size V w4 := hB3.trans (hc4.below (fun k e => by have := hB2.size; omega) hB3.size); have hS4 := HQ.out w4 hB4)))
 have hz4 := hB4.size
 have hN1 := newS_of (w := w1) (by have := hb2.size; have := hb3.size; omega) (by have := hb2.size; omega) hn4
 clear hn4 hs2 ho2 hoc2 hs3 hS2 hS3 hS4 hS1 hb2'
 go_wp2_with (fail)
 have hS1 := HQ'.out w4 hB4
 go_region_held3 (fun w' => w'.cell? ⟨w.heap.size + 1, 0, none⟩ = some vm' /\ w'.cell? ⟨w.heap.size + 1, 1, none⟩ = some vc' /\ w'.cell? ⟨w.heap.size + 1, 2, none⟩ = some (.int .u64 ea') /\ w'.cell? ⟨w.heap.size + 1, 3, none⟩ = some (.int .u64 eb'))
  (first | with_reducible exact hS7 | with_reducible exact hS6 | with_reducible exact hS5 | exact hS1)
  (first
   | (go_at_call 9; go_must (refine (copied9_own vm' vc' ms' xs' w4.drew (HSM'.out _ (qAr hB4)) HZ'.out).mono ?_); rintro e w5 ⟨um', uc', rfl, hs5, ho5, hoc5, hb5'⟩; go_must (have hb5 : Below w4.heap.size w4 w5 := qAk hb5'; have hB5 : Below V.heap.size V w5 := hB4.trans (hb5.mono hz4); have hS5 := HQ'.out w5 hB5))
   | (go_at_call 13; go_must (refine (new_any w5).mono ?_); rintro e w6 ⟨rfl, hs6, hz6, hb6⟩; go_must (have hB6 : Below V.heap.size V w6 := hB5.trans (hb6.mono hB5.size); have hS6 := HQ'.out w6 hB6))
   | (go_at_call 14; go_must (refine (mnew_either (ea', eb') w6 (hs5.below hb6) hs6 (copy_maps ho5 (Nat.le_refl _)) (copy_code hoc5 (Nat.le_refl _))).mono ?_); rintro e w7 ⟨p2, E2, rfl, hc7, hn7⟩; go_must (have hB7 : Below V.heap.size V w7 := hB6.trans (hc7.below (fun k e => by have := hB5.size; omega) hB6.size); have hS7 := HQ'.out w7 hB7)))
 have hz7 := hB7.size
 have hN2 := newS_of (w := w4) (by have := hb5.size; have := hb6.size; omega) (by have := hb5.size; omega) hn7
 have hb47 : Below w4.heap.size w4 w7 := (hb5.trans (hb6.mono hb5.size)).trans (hc7.below (fun k e => by have := hb5.size; omega) (by have := hb5.size; have := hb6.size; omega))
 have hN1' := newS_next hN1 hb47
 have hz47 := hb47.size
 have hBw7 : Below w.heap.size w w7 := hBV.trans (hB7.mono hBV.size)
 clear hn7 hs5 ho5 hoc5 hs6 hS5 hS6 hS7 hS1 hb5' hN1
 rcases hN1' with ⟨hE1, rfl⟩ | ⟨rfl, S1, K1, rfl, rfl, rfl, hev1, hM1, hi1, hK1⟩
 ·have hE1b : (E1 != 0) = true := by simpa using hE1
  have hE1c : (E1 == 0) = false := by simpa using hE1
  rcases hN2 with ⟨hE2, rfl⟩ | ⟨rfl, S2, K2, rfl, _⟩
  ·have hE2b : (E2 != 0) = true := by simpa using hE2
   go_wp2_with (fail)
   go_ret
   exact ⟨rfl, hBw7⟩
  ·go_wp2_with (fail)
   go_ret
   exact ⟨rfl, hBw7⟩
 rcases hN2 with ⟨hE2, rfl⟩ | ⟨rfl, S2, K2, rfl, rfl, rfl, hev2, hM2, hi2, hK2⟩
 ·have hE2b : (E2 != 0) = true := by simpa using hE2
  go_wp2_with (fail)
  go_ret
  exact ⟨rfl, hBw7⟩
 obtain ⟨_, ⟨known1, hKn1, _⟩, _⟩ := judge_known hK1
 obtain ⟨_, ⟨known2, hKn2, _⟩, _⟩ := judge_known hK2
 have hr1 : (⟨0, true, 6, false, 0, 0⟩ : Rs).wf := by constructor <;> decide
 have hr2 : (⟨0, false, 7, false, 0, 0⟩ : Rs).wf := by constructor <;> decide
 obtain ⟨r1, HR1⟩ : ∃ r, Hid (r = (⟨0, true, 6, false, 0, 0⟩ : Rs)) := ⟨_, rfl⟩
 obtain ⟨r2, HR2⟩ : ∃ r, Hid (r = (⟨0, false, 7, false, 0, 0⟩ : Rs)) := ⟨_, rfl⟩
 obtain ⟨T1, HT1⟩ : ∃ T, Hid (traceE S1.ms S1.xs S1.ev 257 startE (List.replicate 256 r1) = T) := ⟨_, rfl⟩
 obtain ⟨T2, HT2⟩ : ∃ T, Hid (traceE S2.ms S2.xs S2.ev 257 startE (List.replicate 256 r2) = T) := ⟨_, rfl⟩
 have ht1 : Told S1.ms S1.xs S1.ev r1 known1 T1 [] 0 startE := by rw [<- HT1.out]; exact told_start hKn1
 have ht2 : Told S2.ms S2.xs S2.ev r2 known2 T2 [] 0 startE := by rw [<- HT2.out]; exact told_start hKn2
 have hbe : Below w1.heap.size w1 w7 := by
  have g2 := hb2.size
  have g3 := hb3.size
  have g4 := hc4.size
  exact ((hb2.trans (hb3.mono g2)).trans (hc4.below (fun k e => by omega) (by omega))).trans (hb47.mono (by omega))
 have hle : w1.heap.size <= w4.heap.size := by
  have g2 := hb2.size
  have g3 := hb3.size
  have g4 := hc4.size
  omega
 have hP : Pr2 w1 w4.heap.size w7.heap.size S1 S2 startE startE (.slice none 0 0) (.slice none 0 0) [] [] w7 := ⟨hM1, hM2, hi1, hi2, World.ownsRow_nil _ _ _ _, World.ownsRow_nil _ _ _ _, fun k e => (by cases e), hbe, Nat.le_refl _, ⟨hle, hz47⟩⟩
 have HP := keepJ hP
 have HT := keepJ ht1
 have HU := keepJ ht2
 clear hP ht1 ht2 hM1 hM2 hi1 hi2 hb47 hc7 hb5 hb6 hc4 hb2 hb3
 rw [<- HR1.out] at hr1
 rw [<- HR2.out] at hr2
 obtain ⟨i0, hi, hz0, hzz1, hz2⟩ := info_parts Tryz.infoActE
 have hevA : (0 <= S1.ev.1 /\ S1.ev.1 <= 18446744073709551615) /\ 0 <= S1.ev.2 /\ S1.ev.2 <= 18446744073709551615 := by rw [hev1]; exact hev
 have hevB : (0 <= S2.ev.1 /\ S2.ev.1 <= 18446744073709551615) /\ 0 <= S2.ev.2 /\ S2.ev.2 <= 18446744073709551615 := by rw [hev2]; exact hev'
 go_wp2_with (fail)
 go_loopw [9, 10, 11] (fun va vb i wr => ∃ (n : Nat) (A B : List Ac) (M1 M2 : Mc) (ua ub : Value), n <= 516 /\ i = .int .i64 n /\ ua = va /\ ub = vb /\ Hid (Told S1.ms S1.xs S1.ev r1 known1 T1 A n M1) /\ Hid (Told S2.ms S2.xs S2.ev r2 known2 T2 B n M2) /\ Hid (Pr2 w1 w4.heap.size w7.heap.size S1 S2 M1 M2 ua ub A B wr)) (fun _ _ i _ => 516 - (intOf i).toNat)
 case atStart => exact ⟨0, [], [], startE, startE, _, _, by omega, rfl, rfl, rfl, HT.out, HU.out, HP.out⟩
 case round =>
  clear HP HT HU
  rename World => w8
  obtain ⟨n, A, B, M1, M2, ua, ub, hn, rfl, rfl, rfl, HT, HU, HP⟩ := hrel
  by_cases hlt : n < 516
  ·have hnI : (n : Int) < 516 := by omega
   obtain ⟨⟨ak, apc, am, ao, aq, av, an⟩, N1, HS1, hst1, hcase1⟩ := told_round HT.out hKn1 hevA hr1
   obtain ⟨⟨bk, bpc, bm, bo, bq, bv, bn⟩, N2, HS2, hst2, hcase2⟩ := told_round HU.out hKn2 hevB hr2
   have HStep1 : Hid (∀ wx, S1.mh wx M1 -> Calls Tryz.prog 21 #[.pointer (some ⟨S1.b, 0, none⟩)] wx fun e w' => e = .returned (actV ak apc am ao aq av an) /\ Chg wx w' (fun k => k = S1.b ∨ k = S1.sb) /\ S1.mh w' N1) := fun wx hmx => by
    have := mstep_all hKn1 HT.out.safe hevA hmx hst1
    rw [HS1] at this
    exact this
   have HStep2 : Hid (∀ wx, S2.mh wx M2 -> Calls Tryz.prog 21 #[.pointer (some ⟨S2.b, 0, none⟩)] wx fun e w' => e = .returned (actV bk bpc bm bo bq bv bn) /\ Chg wx w' (fun k => k = S2.b ∨ k = S2.sb) /\ S2.mh w' N2) := fun wx hmx => by
    have := mstep_all hKn2 HU.out.safe hevB hmx hst2
    rw [HS2] at this
    exact this
   have HAns1 : Hid (N1.mode = 1 -> Safe S1.xs S1.ms.length known1 N1 -> ∀ wx, S1.mh wx N1 -> Calls Tryz.prog 20 #[.pointer (some ⟨S1.b, 0, none⟩), resV 0 true 6 false 0 0] wx fun e w' => e = .returned (.int .i64 0) /\ Chg wx w' (fun k => k = S1.b ∨ k = S1.sb) /\ S1.mh w' (answerE S1.xs N1 r1.E r1.f r1.v)) := fun hm hs wx hmx => by
    rw [HR1.out]
    exact manswer_all hKn1 hs hmx hm 0 true 6 false 0 0 (by decide)
   have HAns2 : Hid (N2.mode = 1 -> Safe S2.xs S2.ms.length known2 N2 -> ∀ wx, S2.mh wx N2 -> Calls Tryz.prog 20 #[.pointer (some ⟨S2.b, 0, none⟩), resV 0 false 7 false 0 0] wx fun e w' => e = .returned (.int .i64 0) /\ Chg wx w' (fun k => k = S2.b ∨ k = S2.sb) /\ S2.mh w' (answerE S2.xs N2 r2.E r2.f r2.v)) := fun hm hs wx hmx => by
    rw [HR2.out]
    exact manswer_all hKn2 hs hmx hm 0 false 7 false 0 0 (by decide)
   have Q1 : Hid True := trivial
   have hAl : A.length <= 600 := by have := HT.out.len; omega
   have hBl : B.length <= 600 := by have := HU.out.len; omega
   simp only at hcase1 hcase2
   have HC1 := keepJ hcase1
   have HC2 := keepJ hcase2
   clear HS1 HS2 hcase1 hcase2
   have HN1 : Hid (∀ k, w7.heap.size <= k -> ¬ (k = S1.b ∨ k = S1.sb)) := fun k hk e => by
    have g1 := HP.out.i1.b
    have g2 := HP.out.i1.sb
    have g3 := HP.out.le
    rcases e with e | e <;> omega
   have HN2 : Hid (∀ k, w7.heap.size <= k -> ¬ (k = S2.b ∨ k = S2.sb)) := fun k hk e => by
    have g1 := HP.out.i2.b
    have g2 := HP.out.i2.sb
    rcases e with e | e <;> omega
   rcases HC1.out with ⟨e1, ht1⟩ | ⟨e1, g1, g2, ht1⟩ | ⟨e1, g1, ht1⟩
   all_goals first
    | ((have C1 := keepJ (HAns1.out g1 g2)); (have PA : Hid True := trivial); (have k12 : (ak == 2) = true := (by simp; omega)); (have k16 : (ak != 6) = true := (by simp; omega)); clear g1 g2)
    | ((have hq := g1; clear hq); (have PA : Hid True := trivial); (have k12 : (ak == 2) = false := (by simp; omega)); (have k16 : (ak != 6) = true := (by simp; omega)); clear g1)
    | ((have k12 : (ak == 2) = false := (by simp; omega)); (have k16 : (ak != 6) = false := (by simp; omega)))
   all_goals
    have HTn := keepJ ht1
    clear ht1 HC1 HAns1 e1
    rcases HC2.out with ⟨e1, ht1⟩ | ⟨e1, g1, g2, ht1⟩ | ⟨e1, g1, ht1⟩
   all_goals first
    | ((have C2 := keepJ (HAns2.out g1 g2)); (have k22 : (bk == 2) = true := (by simp; omega)); (have k26 : (bk != 6) = true := (by simp; omega)); clear g1 g2)
    | ((have hq := g1; clear hq); (have k22 : (bk == 2) = false := (by simp; omega)); (have k26 : (bk != 6) = true := (by simp; omega)); clear g1)
    | ((have k22 : (bk == 2) = false := (by simp; omega)); (have k26 : (bk != 6) = false := (by simp; omega)))
   all_goals
    have HUn := keepJ ht1
    clear ht1 HC2 HAns2 e1
    go_wp2_with (first
    | (go_at_call 21; (have hq := Q1; clear hq); go_must (refine (HStep1.out _ HP.out.m1).mono ?_); rintro e w9 ⟨rfl, hc9, hm9⟩; go_must (have HP9 := keepJ (HP.out.one hc9 hm9); clear hc9 hm9 Q1))
    | (go_at_call 21; go_must (refine (HStep2.out _ HP9.out.m2).mono ?_); rintro e w10 ⟨rfl, hc10, hm10⟩; go_must (have HP10 := HP9.out.two hc10 hm10; obtain ⟨Y, HY, Hxc, Hyc, hBY, hzY⟩ : ∃ Y, Hid ((w10.alloc (.cells #[.int .i64 ak, .int .i64 apc, .int .i64 am, .int .i64 ao, .int .u64 aq, .int .u64 av, .int .u64 an] 80)).alloc (.cells #[.int .i64 bk, .int .i64 bpc, .int .i64 bm, .int .i64 bo, .int .u64 bq, .int .u64 bv, .int .u64 bn] 80) = Y) /\ Hid (Hp Y w10.heap.size 80 (actC ak apc am ao aq av an)) /\ Hid (Hp Y (w10.heap.size + 1) 80 (actC bk bpc bm bo bq bv bn)) /\ Below w10.heap.size w10 Y /\ Y.heap.size = w10.heap.size + 1 + 1 := two_actsE w10 ak apc am ao aq av an bk bpc bm bo bq bv bn; have HXB := keepJ (show w7.heap.size <= w10.heap.size /\ (∀ k, ua.ownBlock = some k -> k < w10.heap.size) /\ (∀ k, ub.ownBlock = some k -> k < w10.heap.size) from ⟨HP10.sz, fun k hk => (HP10.ra.lt k hk).2, fun k hk => (HP10.rb.lt k hk).2⟩); have HPc := keepJ (HP10.below hBY); clear HP10 hc10 hm10 HP9 hBY; (have x0 := Hxc.out.cell (j := 0) rfl); (have x1 := Hxc.out.cell (j := 1) rfl); (have x2 := Hxc.out.cell (j := 2) rfl); (have x3 := Hxc.out.cell (j := 3) rfl); (have x4 := Hxc.out.cell (j := 4) rfl); (have x5 := Hxc.out.cell (j := 5) rfl); (have x6 := Hxc.out.cell (j := 6) rfl); (have y0 := Hyc.out.cell (j := 0) rfl); (have y1 := Hyc.out.cell (j := 1) rfl); (have y2 := Hyc.out.cell (j := 2) rfl); (have y3 := Hyc.out.cell (j := 3) rfl); (have y4 := Hyc.out.cell (j := 4) rfl); (have y5 := Hyc.out.cell (j := 5) rfl); (have y6 := Hyc.out.cell (j := 6) rfl)))
    | (go_at_call 20; (have hq := C1; clear hq); (try rw [HY.out]); go_must (refine (C1.out _ HPc.out.m1).mono ?_); rintro e wA ⟨rfl, hcA, hmA⟩; go_must (replace HPc := keepJ (HPc.out.one hcA hmA); replace Hxc := keepJ (Hxc.out.chg hcA (HN1.out _ HXB.out.1)); replace Hyc := keepJ (Hyc.out.chg hcA (HN1.out _ (Nat.le_succ_of_le HXB.out.1))); clear hcA hmA C1; (try clear x0 x1 x2 x3 x4 x5 x6); (try clear y0 y1 y2 y3 y4 y5 y6); (have x0 := Hxc.out.cell (j := 0) rfl); (have x1 := Hxc.out.cell (j := 1) rfl); (have x2 := Hxc.out.cell (j := 2) rfl); (have x3 := Hxc.out.cell (j := 3) rfl); (have x4 := Hxc.out.cell (j := 4) rfl); (have x5 := Hxc.out.cell (j := 5) rfl); (have x6 := Hxc.out.cell (j := 6) rfl); (have y0 := Hyc.out.cell (j := 0) rfl); (have y1 := Hyc.out.cell (j := 1) rfl); (have y2 := Hyc.out.cell (j := 2) rfl); (have y3 := Hyc.out.cell (j := 3) rfl); (have y4 := Hyc.out.cell (j := 4) rfl); (have y5 := Hyc.out.cell (j := 5) rfl); (have y6 := Hyc.out.cell (j := 6) rfl)))
    | (go_at_call 20; (try rw [HY.out]); go_must (refine (C2.out _ HPc.out.m2).mono ?_); rintro e wB ⟨rfl, hcA, hmA⟩; go_must (replace HPc := keepJ (HPc.out.two hcA hmA); replace Hxc := keepJ (Hxc.out.chg hcA (HN2.out _ HXB.out.1)); replace Hyc := keepJ (Hyc.out.chg hcA (HN2.out _ (Nat.le_succ_of_le HXB.out.1))); clear hcA hmA C2; (try clear x0 x1 x2 x3 x4 x5 x6); (try clear y0 y1 y2 y3 y4 y5 y6); (have x0 := Hxc.out.cell (j := 0) rfl); (have x1 := Hxc.out.cell (j := 1) rfl); (have x2 := Hxc.out.cell (j := 2) rfl); (have x3 := Hxc.out.cell (j := 3) rfl); (have x4 := Hxc.out.cell (j := 4) rfl); (have x5 := Hxc.out.cell (j := 5) rfl); (have x6 := Hxc.out.cell (j := 6) rfl); (have y0 := Hyc.out.cell (j := 0) rfl); (have y1 := Hyc.out.cell (j := 1) rfl); (have y2 := Hyc.out.cell (j := 2) rfl); (have y3 := Hyc.out.cell (j := 3) rfl); (have y4 := Hyc.out.cell (j := 4) rfl); (have y5 := Hyc.out.cell (j := 5) rfl); (have y6 := Hyc.out.cell (j := 6) rfl)))
    | (at_builtin; (have hq := PA; clear hq); (try rw [HY.out]); go_must (refine wpList_append_own_at _ rfl _ _ 34 rfl w7.heap.size 80 i0 _ 7 56 Tryz.underlying34 hi hz0 hzz1 hz2 rfl (by decide) _ _ _ rfl (HPc.out.ra.alloc _) ⟨_, 0, none⟩ 1 1 (actC ak apc am ao aq av an) rfl rfl (seven_new _ _ _ _ (by first | rfl | exact hzY.symm)) (seven_one ⟨ak, apc, am, ao, aq, av, an⟩) (by unfold maxLen; omega) (by omega) (by have := HPc.out.sz; simp; omega) ?_); intro v' wC hown' hgrow _ hat; go_must (have HyN := keepJ ((Hyc.out.alloc _).grown hgrow (fun e => by have := (HXB.out.2.1 _ e.symm); omega)); replace HPc := keepJ (HPc.out.appA (X := ⟨ak, apc, am, ao, aq, av, an⟩) hown' hgrow hat); clear hown' hgrow hat PA Hyc; have Hyc := HyN; clear HyN; (try clear x0 x1 x2 x3 x4 x5 x6); (try clear y0 y1 y2 y3 y4 y5 y6); (have y0 := Hyc.out.cell (j := 0) rfl); (have y1 := Hyc.out.cell (j := 1) rfl); (have y2 := Hyc.out.cell (j := 2) rfl); (have y3 := Hyc.out.cell (j := 3) rfl); (have y4 := Hyc.out.cell (j := 4) rfl); (have y5 := Hyc.out.cell (j := 5) rfl); (have y6 := Hyc.out.cell (j := 6) rfl)))
    | (at_builtin; (try rw [HY.out]); go_must (refine wpList_append_own_at _ rfl _ _ 34 rfl w7.heap.size 80 i0 _ 7 56 Tryz.underlying34 hi hz0 hzz1 hz2 rfl (by decide) _ _ _ rfl (HPc.out.rb.alloc _) ⟨_, 0, none⟩ 1 1 (actC bk bpc bm bo bq bv bn) rfl rfl (seven_new _ _ _ _ (by first | rfl | exact hzY.symm)) (seven_one ⟨bk, bpc, bm, bo, bq, bv, bn⟩) (by unfold maxLen; omega) (by omega) (by have := HPc.out.sz; simp; omega) ?_); intro v' wD hown' hgrow _ hat; go_must (replace HPc := keepJ (HPc.out.appB (X := ⟨bk, bpc, bm, bo, bq, bv, bn⟩) hown' hgrow hat); clear hown' hgrow hat; (try clear x0 x1 x2 x3 x4 x5 x6); (try clear y0 y1 y2 y3 y4 y5 y6))))
    (try rw [HY.out])
    go_roundw
    case rel => exact ⟨n + 1, _, _, _, _, _, _, by omega, by go_num, rfl, rfl, HTn.out, HUn.out, HPc.out⟩
    case measure => simp [intOf]; omega
  ·have hnI : ¬ (n : Int) < 516 := by omega
   obtain rfl : A = T1 := HT.out.all hKn1 (by omega)
   obtain rfl : B = T2 := HU.out.all hKn2 (by omega)
   have hB8 : Below V.heap.size V w8 := hb1.trans (HP.out.be.mono hz1)
   have hz8 := hB8.size
   have HXA := keepJ (own_seesX HP.out.ra)
   have HXB := keepJ (own_seesX HP.out.rb)
   have HR0 := keepJ (show Rr2 w8 0 0 r1 r2 (.slice none 0 0) (.slice none 0 0) w8 from ⟨World.ownsRow_nil _ _ _ _, World.ownsRow_nil _ _ _ _, fun k e => (by cases e), Below.refl _ _⟩)
   obtain ⟨j0, hj, hy0, hy1, hy2⟩ := info_parts Tryz.infoResE
   have HTr1 : Hid (traceE S1.ms S1.xs (ea, eb) 257 startE (List.replicate 256 r1) = A) := by show _ = _; rw [<- hev1]; exact HT1.out
   have HTr2 : Hid (traceE S2.ms S2.xs (ea', eb') 257 startE (List.replicate 256 r2) = B) := by show _ = _; rw [<- hev2]; exact HT2.out
   have HKI1 := keepJ hK1
   have HKI2 := keepJ hK2
   have HRW := keepJ (show (∀ r ∈ List.replicate 256 r1, r.wf) /\ ∀ r ∈ List.replicate 256 r2, r.wf from ⟨fun r h => by rw [(List.mem_replicate.1 h).2]; exact hr1, fun r h => by rw [(List.mem_replicate.1 h).2]; exact hr2⟩)
   have hevE : Hid (((0 : Int) <= ea /\ ea <= 18446744073709551615) /\ 0 <= eb /\ eb <= 18446744073709551615) := hev
   have hevE' : Hid (((0 : Int) <= ea' /\ ea' <= 18446744073709551615) /\ 0 <= eb' /\ eb' <= 18446744073709551615) := hev'
   clear HP HT HU hKn1 hKn2 hK1 hK2 hr1 hr2 HT1 HT2 hevA hevB hev hev' hev1 hev2
   go_wp2_with (fail)
   go_loopw [14, 15, 16] (fun u1 u2 i wr => ∃ (k : Nat) (x y : Value), x = u1 /\ y = u2 /\ k <= 256 /\ i = .int .i64 k /\ Hid (Rr2 w8 k k r1 r2 x y wr)) (fun _ _ i _ => 256 - (intOf i).toNat)
   case atStart => exact ⟨0, _, _, rfl, rfl, by omega, rfl, HR0.out⟩
   case round =>
    clear HR0
    rename World => w9
    obtain ⟨k, x, y, rfl, rfl, hk, rfl, HRr⟩ := hrel
    have hz9 := HRr.out.be.size
    by_cases hlt : k < 256
    ·have hkI : (k : Int) < 256 := by omega
     have PA : Hid True := trivial
     have hl1 : (List.replicate k r1).length <= 256 := by simp; omega
     have hl2 : (List.replicate k r2).length <= 256 := by simp; omega
     go_wp2_with (first
      | (at_builtin; (have hq := PA; clear hq); go_must (refine wpList_append_own_at _ rfl _ _ 29 rfl w8.heap.size 45 j0 _ 6 48 Tryz.underlying29 hj hy0 hy1 hy2 rfl (by decide) _ _ _ rfl (HRr.out.ra.alloc _) ⟨_, 0, none⟩ 1 1 [.int .i64 0, .bool true, .int .u64 6, .bool false, .int .u64 0, .int .u64 0] rfl rfl (seven_new _ _ _ _ rfl) (six_one ⟨0, true, 6, false, 0, 0⟩) (by unfold maxLen; omega) (by omega) (by simp; omega) ?_); intro v' wA hown' hgrow _ hat; go_must (have HRa := keepJ (HRr.out.appA (v' := v') (w' := wA) (by rw [HR1.out] at hown' ⊢; exact hown') hgrow hat); have hzA := HRa.out.be.size; clear hown' hgrow hat PA))
      | (at_builtin; go_must (refine wpList_append_own_at _ rfl _ _ 29 rfl w8.heap.size 45 j0 _ 6 48 Tryz.underlying29 hj hy0 hy1 hy2 rfl (by decide) _ _ _ rfl (HRa.out.rb.alloc _) ⟨_, 0, none⟩ 1 1 [.int .i64 0, .bool false, .int .u64 7, .bool false, .int .u64 0, .int .u64 0] rfl rfl (seven_new _ _ _ _ rfl) (six_one ⟨0, false, 7, false, 0, 0⟩) (by unfold maxLen; omega) (by omega) (by simp; omega) ?_); intro v2 wB hown' hgrow _ hat; go_must (have HRb := keepJ (HRa.out.appB (v' := v2) (w' := wB) (by rw [HR2.out] at hown' ⊢; exact hown') hgrow hat); clear hown' hgrow hat)))
     go_roundw
     case rel => exact ⟨k + 1, _, _, rfl, rfl, by omega, by go_num, HRb.out⟩
     case measure => simp [intOf]; omega
    ·have hkI : ¬ (k : Int) < 256 := by omega
     have hB9 : Below V.heap.size V w9 := hB8.trans (HRr.out.be.mono hz8)
     have HSx : Hid (SeesR w9 x (List.replicate 256 r1)) := by
      have := HRr.out.ra
      rw [show k = 256 by omega] at this
      exact own_seesR this HRW.out.1
     have HSy : Hid (SeesR w9 y (List.replicate 256 r2)) := by
      have := HRr.out.rb
      rw [show k = 256 by omega] at this
      exact own_seesR this HRW.out.2
     have HXA9 := keepJ (HXA.out.below HRr.out.be)
     have HXB9 := keepJ (HXB.out.below HRr.out.be)
     obtain ⟨q0, q1, q2, q3⟩ := HQ.out w9 hB9
     clear HRr HXA HXB HR1 HR2
     go_wp2_with (first
      | (go_at_call 10; (have hq := HSx; clear hq); go_must (refine (mtrace_sees (ea, eb) hevE.out w9 (HSM.out w9 hB9) HSx.out HKI1.out HTr1).mono ?_); rintro e w10 ⟨c1, rfl, ho1, hb10⟩; go_must (have hB10 : Below V.heap.size V w10 := hB9.trans (hb10.mono hB9.size); have HC1 := keepJ (own_seesX ho1); have HXA10 := keepJ (HXA9.out.below hb10); have HXB10 := keepJ (HXB9.out.below hb10); have HSy10 := keepJ (HSy.out.belowR hb10); obtain ⟨p0, p1, p2, p3⟩ := HQ'.out w10 hB10; clear HSx HSy HXA9 HXB9 ho1 q0 q1 q2 q3))
      | (go_at_call 10; go_must (refine (mtrace_sees (ea', eb') hevE'.out w10 (HSM'.out w10 hB10) HSy10.out HKI2.out HTr2).mono ?_); rintro e w11 ⟨c2, rfl, ho2, hb11⟩; go_must (have hB11 : Below V.heap.size V w11 := hB10.trans (hb11.mono hB10.size); have HC2 := keepJ (own_seesX ho2); have HXA11 := keepJ (HXA10.out.below hb11); have HXB11 := keepJ (HXB10.out.below hb11); have HC11 := keepJ (HC1.out.below hb11); clear ho2 HXA10 HXB10 HC1))
      | (go_at_call 12; (have hq := HC11; clear hq); go_must (refine (alike11_any w11 HXA11.out HC11.out).mono ?_); rintro e w12 ⟨rfl, hb12⟩; go_must (have hB12 : Below V.heap.size V w12 := hB11.trans (hb12.mono hB11.size); have HXB12 := keepJ (HXB11.out.below hb12); have HC12 := keepJ (HC2.out.below hb12); clear HC11 HXB11 HC2))
      | (go_at_call 12; go_must (refine (alike11_any w12 HXB12.out HC12.out).mono ?_); rintro e w13 ⟨rfl, hb13⟩; go_must (have hB13 : Below V.heap.size V w13 := hB12.trans (hb13.mono hB12.size))))
     go_ret
     exact ⟨rfl, hBV.trans (hB13.mono hBV.size)⟩
theorem apart11_walk (vm vc : Value) (ms : List Int) (xs : List In) (ea eb : Int) (vr : Value) (rs : List Rs) (od : Int) (vm' vc' : Value) (ms' : List Int) (xs' : List In) (ea' eb' : Int) (vr' : Value) (rs' : List Rs) (od' : Int) (w : World)
  (h : SeesM w vm vc ms xs) (hr : SeesR w vr rs) (hev : (0 <= ea /\ ea <= 18446744073709551615) /\ 0 <= eb /\ eb <= 18446744073709551615) (hod : -9223372036854775808 <= od /\ od <= 9223372036854775807) (z : ms.length * 8 <= 140737488351232 /\ xs.length * 40 <= 140737488355328 /\ rs.length * 48 <= 140737488355328)
  (h' : SeesM w vm' vc' ms' xs') (hr' : SeesR w vr' rs') (hev' : (0 <= ea' /\ ea' <= 18446744073709551615) /\ 0 <= eb' /\ eb' <= 18446744073709551615) (hod' : -9223372036854775808 <= od' /\ od' <= 9223372036854775807) (z' : ms'.length * 8 <= 140737488351232 /\ xs'.length * 40 <= 140737488355328 /\ rs'.length * 48 <= 140737488355328) :
  Calls Tryz.prog 7 #[runV vm vc ea eb vr od, runV vm' vc' ea' eb' vr' od'] w fun e w' => e = .returned (.bool true) /\ Below w.heap.size w w' :=
 apart11_any vm vc ms xs ea eb vr od vm' vc' ms' xs' ea' eb' vr' od' w h hev ⟨z.1, z.2.1⟩ h' hev' ⟨z'.1, z'.2.1⟩
end Go.Proofs.YtbmjanejecfjmaaGreat
