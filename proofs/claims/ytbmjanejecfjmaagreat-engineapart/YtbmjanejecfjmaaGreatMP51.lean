/-
  E11LTrace
  W11Alike
  E11Awake
  W11Safe
  W11Ends
  W11Err
  W11ApartA
-/
import Derived.Test.YtbmjanejecfjmaaGreatMP50
import Derived.Test.YtbmjanejecfjmaaGreatMP49
import Derived.Test.YtbmjanejecfjmaaGreatMP34
namespace Go.Proofs.YtbmjanejecfjmaaGreat
open Go.RowKit
set_option linter.unusedVariables false
set_option linter.unusedSimpArgs false
set_option maxRecDepth 100000
theorem judge_known {ms : List Int} {xs : List In} {K : Kn} (h : inqR ms xs = .ok K) : mapsJ ms = true /\ (∃ known, Known xs ms.length known /\ Pull xs ms.length xs.length K known) /\ judgeR ms xs = (0, 0) := by
 have hj : judgeR ms xs = (0, 0) := by unfold judgeR; rw [h]
 unfold inqR at h
 split at h
 ·cases h
 rename_i hm
 split at h
 ·cases h
 rename_i hE
 have hT : Taken xs := check_ok.1 (show errL xs = 0 from Decidable.of_not_not hE)
 refine ⟨by simpa using hm, ?_, hj⟩
 split at h
 ·cases h
 rename_i K' hr
 injection h with h
 subst h
 rcases pull_run (nm := ms.length) hT xs.length (Nat.le_refl _) with ⟨e, h1, _⟩ | ⟨K2, known, h1, h2, hP⟩
 ·rw [hr] at h1; cases h1
 ·rw [hr] at h1
  injection h1 with h1
  subst h1
  exact ⟨known, ⟨hT, h2⟩, hP⟩
theorem maps_len {ms : List Int} (h : mapsJ ms = true) : ms.length <= 4 := by
 unfold mapsJ at h
 simp at h
 exact h.1
def lenV : Value -> Nat
 | .slice _ n _ => n
 | _ => 0
theorem own_lenV {w : World} {base : Nat} {e : TypeId} {z : Nat} {v : Value} {n : Nat} {xs : List Value} (h : w.ownsRow base e z v n xs) : lenV v = n := by
 rcases h with ⟨h1, ⟨rfl, h2⟩ | ⟨g, cap, cur, rfl, _⟩⟩
 ·exact h2.symm
 ·rfl
theorem step_actE {w wr w1 : World} {B : Nat} {e : TypeId} {v v' : Value} {o : Obj} {ys : List Ac} {A : Ac} (hown : wr.ownsRow B e 7 v ys.length (flatX ys)) (hown' : w1.ownsRow B e 7 v' (ys.length + 1) (flatX ys ++ acC A)) : w1.ownsRow B e 7 v' (ys ++ [A]).length (flatX (ys ++ [A])) := by
 rw [<- flatX_app]
 simpa [flatX] using hown'
theorem act_more {w0 w1 Y w2 : World} {B W b sb cb co ccap : Nat} {um : Value} {ms : List Int} {xs : List In} {ev : Int × Int} {M1 : Mc} {e : TypeId} {va v' : Value} {o : Obj} {A : List Ac} {A1 : Ac}
  (hown1 : w1.ownsRow B e 7 va A.length (flatX A)) (hbY : Below w1.heap.size w1 Y) (hzY : Y.heap.size = w1.heap.size + 1) (HaY : Hp Y w1.heap.size 80 (acC A1)) (hM1 : Mh w1 b sb um cb co ccap ms xs ev M1)
  (hlt : b < B /\ sb < B /\ cb < B) (hub : ms = [] ∨ ∀ j, um.ownBlock = some j -> j < B) (hB1 : Below W w0 w1) (hW : W <= B) (hw0 : W <= w0.heap.size)
  (hown' : w2.ownsRow B e 7 v' (A.length + 1) (flatX A ++ acC A1)) (hgrow : (Y.alloc o).grownBy w2 va.ownBlock) :
  w2.ownsRow B e 7 v' (A ++ [A1]).length (flatX (A ++ [A1])) /\ Hp w2 w1.heap.size 80 (acC A1) /\ Below W w0 w2 /\ Mh w2 b sb um cb co ccap ms xs ev M1 /\ w1.heap.size + 2 <= w2.heap.size := by
 have hC : Chg Y w2 (fun k => va.ownBlock = some k) := (Chg.of_below (S := fun k => va.ownBlock = some k) (qBk Y o)).trans (Chg.of_grown' hgrow (S := fun k => va.ownBlock = some k) (fun b hb => hb)) (fun _ _ e => e)
 have hz : Y.heap.size + 1 <= w2.heap.size := by
  have := hgrow.size
  rw [World.size_alloc] at this
  exact this
 have hs := hB1.size
 have hl := fun k (hk : va.ownBlock = some k) => hown1.lt k hk
 have hY : Below W w1 Y := hbY.mono (by omega)
 refine ⟨step_actE (w := w1) (o := o) hown1 hown', HaY.chg hC (fun e => by have := (hl _ e).2; omega), (hB1.trans hY).trans (hC.below (fun k e => by have := (hl k e).1; omega) (by omega)), (hM1.below hbY).apart hC (fun e => by have := (hl _ e).1; omega) (fun e => by have := (hl _ e).1; omega) (fun e => by have := (hl _ e).1; omega) (hub.imp id fun h j hj e => by have := h j hj; have := (hl _ e).1; omega), by omega⟩
def TraceOk (w w' : World) (T : List Ac) (e : Ending) : Prop := ∃ v, e = .returned (.tuple #[v, .int .i64 0]) /\ w'.ownsRow w.heap.size 80 7 v T.length (flatX T) /\ Below w.heap.size w w'
set_option maxHeartbeats 6400000 in
theorem mtrace_ok {vm : Value} {cb co ccap : Nat} {ms : List Int} {xs : List In} (ev : Int × Int) (hev : (0 <= ev.1 /\ ev.1 <= 18446744073709551615) /\ 0 <= ev.2 /\ ev.2 <= 18446744073709551615) {vr : Value} {rs : List Rs} (w : World) (hm : Sees .i64 w vm ms) (hx : SeesI w (.slice (some ⟨cb, co, none⟩) xs.length ccap) xs) (hrs : SeesR w vr rs) {K : Kn} (hK : inqR ms xs = .ok K) {T : List Ac} (HT : Hid (traceE ms xs ev 257 startE rs = T)) :
  Calls Tryz.prog 10 #[.agg #[vm, .slice (some ⟨cb, co, none⟩) xs.length ccap], evV ev, vr] w fun e w' => TraceOk w w' T e := by
 obtain ⟨hmj, ⟨known, hKn, _⟩, hj0⟩ := judge_known hK
 have hj : Hid (judgeR ms xs = (0, 0)) := hj0
 have hml := maps_len hmj
 have hxl : 0 < xs.length /\ xs.length <= 64 := ⟨hKn.T.pos, hKn.T.top⟩
 obtain ⟨i0, hi, hz0, hz1, hz2⟩ := info_parts Tryz.infoActE
 obtain ⟨V, HV, hBV, HmV, HeV⟩ : ∃ V, Hid ((w.alloc (.cells #[vm, .slice (some ⟨cb, co, none⟩) xs.length ccap] 25)).alloc (.cells #[.int .u64 ev.1, .int .u64 ev.2] 28) = V) /\ Below w.heap.size w V /\ Hid (Hp V w.heap.size 25 [vm, .slice (some ⟨cb, co, none⟩) xs.length ccap]) /\ Hid (Hp V (w.heap.size + 1) 28 [.int .u64 ev.1, .int .u64 ev.2]) :=
  ⟨_, rfl, by go_grown, (Hp.new w _ _).alloc _, by have := Hp.new (w.alloc (.cells #[vm, .slice (some ⟨cb, co, none⟩) xs.length ccap] 25)) [.int .u64 ev.1, .int .u64 ev.2] 28; rw [World.size_alloc] at this; exact this⟩
 have HMV := keepJ (hm.below hBV (Nat.le_refl _))
 have HXV := keepJ (hx.below hBV)
 have HP : Hid (∀ wx : World, Below V.heap.size V wx -> wx.cell? ⟨w.heap.size, 0, none⟩ = some vm /\ wx.cell? ⟨w.heap.size, 1, none⟩ = some (.slice (some ⟨cb, co, none⟩) xs.length ccap) /\ wx.cell? ⟨w.heap.size + 1, 0, none⟩ = some (.int .u64 ev.1) /\ wx.cell? ⟨w.heap.size + 1, 1, none⟩ = some (.int .u64 ev.2)) := fun wx hb => ⟨(HmV.out.below hb HmV.out.lt).cell rfl, (HmV.out.below hb HmV.out.lt).cell rfl, (HeV.out.below hb HeV.out.lt).cell rfl, (HeV.out.below hb HeV.out.lt).cell rfl⟩
 have hcbw : cb < w.heap.size := (codeL hx hxl.1).2.1
 have hmbw : ms = [] ∨ ∀ j, vm.ownBlock = some j -> j < w.heap.size := by
  by_cases h : ms = []
  ·exact .inl h
  ·exact .inr fun j hj => (sees_ltE hm hj).resolve_left h
 have HRS := keepJ hrs
 obtain ⟨ra, rcap, rfl⟩ : ∃ a c, vr = .slice a rs.length c := by obtain ⟨a, c, h, _⟩ := hrs; exact ⟨a, c, h⟩
 clear hm hx hrs
 have hzV : w.heap.size + 2 <= V.heap.size := by have := HeV.out.lt; omega
 go_enter Tryz.func10, Tryz.ntmps10
 go_wp2
 rw [HV.out]
 go_region_held3 (fun w' => w'.cell? ⟨w.heap.size, 0, none⟩ = some vm /\ w'.cell? ⟨w.heap.size, 1, none⟩ = some (.slice (some ⟨cb, co, none⟩) xs.length ccap) /\ w'.cell? ⟨w.heap.size + 1, 0, none⟩ = some (.int .u64 ev.1) /\ w'.cell? ⟨w.heap.size + 1, 1, none⟩ = some (.int .u64 ev.2))
  (first | with_reducible exact hS4 | with_reducible exact hS5 | exact HP.out V (Below.refl _ _))
  (first
   | (go_at_call 13; go_must (refine (new_any V.drew).mono ?_); rintro e w4 ⟨rfl, hs4, hz4, hb4'⟩; go_must (have hb4 : Below V.heap.size V w4 := qAk hb4'; have hS4 := HP.out w4 hb4; have HM4 := keepJ (HMV.out.below hb4 (Nat.le_refl _)); have HX4 := keepJ (HXV.out.below hb4); have HS4 := keepJ (show Sc w4 V.heap.size nought nought from hs4); clear hs4))
   | (go_at_call 14; go_must (refine (mnew_ok ev V.heap.size w4 HM4.out HX4.out HS4.out hj (by omega) (hmbw.imp id fun h e => by have := h _ e; omega) (by omega) hxl).mono ?_); rintro e w5 ⟨b, cb', ccap', um, rfl, hbb, hmh, hch, hcc, hub⟩; go_must (have hC5 : Chg V w5 (fun k => k = V.heap.size) := (Chg.of_below (S := fun k => k = V.heap.size) hb4).trans hch (fun _ _ e => e); have hB5 : Below V.heap.size V w5 := hC5.below (fun k e => by omega) (Nat.le_refl _); have hS5 := HP.out w5 hB5; have HMH := keepJ hmh; clear hmh)))
 have hb5 := HMH.out.ma.hp.lt
 have hs5 := HMH.out.sc.lt
 have hc5 : cb' < w5.heap.size := (codeL HMH.out.code hxl.1).2.1
 have hub5 : ms = [] ∨ ∀ j, um.ownBlock = some j -> j < w5.heap.size := by
  by_cases h : ms = []
  ·exact .inl h
  ·exact .inr fun j hj => (sees_ltE HMH.out.maps hj).resolve_left h
 have hBw5 : Below w.heap.size w w5 := hBV.trans (hB5.mono hBV.size)
 have hzw5 := hBw5.size
 have hz1' := hz1
 have hbw0 : w.heap.size + 2 <= b := by have := hb4.size; omega
 clear hS4 hS5 hC5 hch hb4' hz1
 go_wp2
 go_loopw [2, 10] (fun vr va0 wr => ∃ (M : Mc) (l : List Rs) (A : List Ac) (ra' : Option Addr) (rcap' : Nat) (va : Value), vr = .slice ra' l.length rcap' /\ va = va0 /\ Safe xs ms.length known M /\ M.mode = 0 /\ Mh wr b V.heap.size um cb' 0 ccap' ms xs ev M /\ pot xs M <= 256 /\ A.length = M.steps /\ Hid (A ++ traceE ms xs ev (257 - M.steps) M l = T) /\ SeesR w (.slice ra' l.length rcap') l /\ wr.ownsRow w5.heap.size 80 7 va A.length (flatX A) /\ Below w.heap.size w wr /\ w5.heap.size <= wr.heap.size) (fun _ va _ => 300 - lenV va)
 case atStart =>
  have hp0 : pot xs startE <= 256 := Int.le_trans (pot_start hKn.T) (cost_256 hKn.T)
  exact ⟨startE, rs, [], ra, rcap, _, rfl, rfl, safe_start hKn, rfl, HMH.out, hp0, rfl, by show [] ++ _ = _; rw [List.nil_append]; exact HT.out, HRS.out, World.ownsRow_nil _ _ _ _, hBw5, Nat.le_refl _⟩
 case round =>
  obtain ⟨M, l, A, ra', rcap', va, rfl, rfl, hS, m0, hmh, hpot, hA, HTr, hr, ho, hbw, hzr⟩ := hrel
  have hpl := hS.pot_le hKn.T
  rw [if_pos m0] at hpl
  have hst : M.steps <= 255 := by omega
  obtain ⟨hsafe, hpt, hs1⟩ := safe_run (ms := ms) hKn hS m0 hev
  have hkd := step_kinds (ms := ms) (xs := xs) (ev := ev) m0
  rw [show 257 - M.steps = (256 - M.steps) + 1 by omega] at HTr
  have HStep := keepJ (mstep_all hKn hS hev hmh (by omega))
  have HTe := keepJ (fun h => trace_end (ms := ms) (xs := xs) (ev := ev) (M := M) (n := 256 - M.steps) (rs := l) h)
  have HTn := keepJ (fun h => trace_none (ms := ms) (xs := xs) (ev := ev) (M := M) (n := 256 - M.steps) h)
  have HTa := keepJ (fun r l' h => trace_ask (ms := ms) (xs := xs) (ev := ev) (M := M) (n := 256 - M.steps) (r := r) (rs := l') h)
  have HTo := keepJ (fun h => trace_on (ms := ms) (xs := xs) (ev := ev) (M := M) (n := 256 - M.steps) (rs := l) h)
  obtain ⟨⟨⟨ak, apc, am, ao, aq, av, an⟩, M1⟩, HR⟩ : ∃ R, Hid (stepE ms xs ev M = R) := ⟨_, rfl⟩
  rw [HR.out] at hkd hsafe hpt hs1
  simp only at hkd hsafe hpt hs1
  have HStep : Hid (Calls Tryz.prog 21 #[.pointer (some ⟨b, 0, none⟩)] wr fun e w' => e = .returned (actV ak apc am ao aq av an) /\ Chg wr w' (fun k => k = b ∨ k = V.heap.size) /\ Mh w' b V.heap.size um cb' 0 ccap' ms xs ev M1) := by
   have := HStep.out
   rw [HR.out] at this
   exact this
  have HTe : Hid (ak = 4 -> A ++ [⟨ak, apc, am, ao, aq, av, an⟩] = T) := fun h => by rw [<- HTr.out, HTe.out (by rw [HR.out]; exact h), HR.out]
  have HTo : Hid (ak ≠ 4 /\ ak ≠ 2 -> (A ++ [⟨ak, apc, am, ao, aq, av, an⟩]) ++ traceE ms xs ev (257 - M1.steps) M1 l = T) := fun h => by
   rw [<- HTr.out, HTo.out (by rw [HR.out]; exact h), HR.out, show 257 - M1.steps = 256 - M.steps by omega, List.append_assoc]
   rfl
  have HTn : Hid (ak = 2 -> l = [] -> A ++ [⟨ak, apc, am, ao, aq, av, an⟩] = T) := fun h e => by subst e; rw [<- HTr.out, HTn.out (by rw [HR.out]; exact h), HR.out]
  have HTa : Hid (∀ r l', ak = 2 -> l = r :: l' -> (A ++ [⟨ak, apc, am, ao, aq, av, an⟩]) ++ traceE ms xs ev (257 - M1.steps) (answerE xs M1 r.E r.f r.v) l' = T) := fun r l' h e => by
   subst e
   rw [<- HTr.out, HTa.out r l' (by rw [HR.out]; exact h), HR.out, show 257 - M1.steps = 256 - M.steps by omega, List.append_assoc]
   rfl
  clear HTr HR
  rcases hkd with ⟨hk, hm1⟩ | ⟨hk, hm1⟩ | ⟨hk, hm1⟩
  ·have k4 : (ak == 4) = true := by simp [hk]
   have HK := keepJ hk
   clear hk
   go_wp2_with (first
    | (go_at_call 21; go_must (refine HStep.out.mono ?_); rintro e w1 ⟨rfl, hc1, hmh1⟩; go_must (have hz1 := hc1.size; have hown1 := own_chg ho hc1 (fun k hk e => by have := (ho.lt k hk).1; omega); have HMH1 := keepJ hmh1; have HB1 := keepJ (hbw.trans (hc1.below (B := w.heap.size) (fun k e => by omega) hbw.size)); obtain ⟨Y, HY, HaY, hbY, hzY⟩ : ∃ Y, Hid (w1.alloc (.cells #[.int .i64 ak, .int .i64 apc, .int .i64 am, .int .i64 ao, .int .u64 aq, .int .u64 av, .int .u64 an] 80) = Y) /\ Hid (Hp Y w1.heap.size 80 (actC ak apc am ao aq av an)) /\ Below w1.heap.size w1 Y /\ Y.heap.size = w1.heap.size + 1 := ⟨_, rfl, Hp.new w1 _ _, (Below.refl _ _).alloc (Nat.le_refl _) _, by simp⟩; have hownY := own_below hown1 hbY (Nat.le_refl _); (have y0 := HaY.out.cell (j := 0) rfl); (have y1 := HaY.out.cell (j := 1) rfl); (have y2 := HaY.out.cell (j := 2) rfl); (have y3 := HaY.out.cell (j := 3) rfl); (have y4 := HaY.out.cell (j := 4) rfl); (have y5 := HaY.out.cell (j := 5) rfl); (have y6 := HaY.out.cell (j := 6) rfl); clear hmh1))
    | (at_builtin; rw [HY.out]; go_must (refine wpList_append_own _ rfl _ _ 34 rfl w5.heap.size 80 i0 _ 7 56 Tryz.underlying34 hi hz0 hz1' hz2 rfl (by decide) _ _ _ rfl (hownY.alloc _) ⟨_, 0, none⟩ 1 1 (actC ak apc am ao aq av an) rfl rfl (seven_new _ _ _ _ hzY.symm) (seven_one ⟨ak, apc, am, ao, aq, av, an⟩) (by unfold maxLen; omega) (by omega) (by simp; omega) ?_); intro v' w2 hown' hgrow _; have R := act_more (A1 := ⟨ak, apc, am, ao, aq, av, an⟩) hown1 hbY hzY HaY.out HMH1.out ⟨hb5, hs5, hc5⟩ hub5 HB1.out (W := w.heap.size) hzw5 (Nat.le_refl _) hown' hgrow; clear hown' hgrow; obtain ⟨hOW', hA2', hB2', hM2', hz2'⟩ := R; have HOW := keepJ hOW'; have HA2 := keepJ hA2'; have HB2 := keepJ hB2'; have HM2 := keepJ hM2'; have b0 := HA2.out.cell (j := 0) rfl; clear hOW' hA2' hB2' hM2'))
   go_ret2
   refine ⟨v', rfl, ?_, HB2.out⟩
   rw [<- HTe.out HK.out]
   exact own_low HOW.out hzw5
  ·have k4 : (ak == 4) = false := by simp; omega
   have k2 : (ak == 2) = true := by simp [hk]
   have HK := keepJ hk
   clear hk
   cases l with
   | nil =>
    go_wp2_with (first
     | (go_at_call 21; go_must (refine HStep.out.mono ?_); rintro e w1 ⟨rfl, hc1, hmh1⟩; go_must (have hz1 := hc1.size; have hown1 := own_chg ho hc1 (fun k hk e => by have := (ho.lt k hk).1; omega); have HMH1 := keepJ hmh1; have HB1 := keepJ (hbw.trans (hc1.below (B := w.heap.size) (fun k e => by omega) hbw.size)); obtain ⟨Y, HY, HaY, hbY, hzY⟩ : ∃ Y, Hid (w1.alloc (.cells #[.int .i64 ak, .int .i64 apc, .int .i64 am, .int .i64 ao, .int .u64 aq, .int .u64 av, .int .u64 an] 80) = Y) /\ Hid (Hp Y w1.heap.size 80 (actC ak apc am ao aq av an)) /\ Below w1.heap.size w1 Y /\ Y.heap.size = w1.heap.size + 1 := ⟨_, rfl, Hp.new w1 _ _, (Below.refl _ _).alloc (Nat.le_refl _) _, by simp⟩; have hownY := own_below hown1 hbY (Nat.le_refl _); (have y0 := HaY.out.cell (j := 0) rfl); (have y1 := HaY.out.cell (j := 1) rfl); (have y2 := HaY.out.cell (j := 2) rfl); (have y3 := HaY.out.cell (j := 3) rfl); (have y4 := HaY.out.cell (j := 4) rfl); (have y5 := HaY.out.cell (j := 5) rfl); (have y6 := HaY.out.cell (j := 6) rfl); clear hmh1))
     | (at_builtin; rw [HY.out]; go_must (refine wpList_append_own _ rfl _ _ 34 rfl w5.heap.size 80 i0 _ 7 56 Tryz.underlying34 hi hz0 hz1' hz2 rfl (by decide) _ _ _ rfl (hownY.alloc _) ⟨_, 0, none⟩ 1 1 (actC ak apc am ao aq av an) rfl rfl (seven_new _ _ _ _ hzY.symm) (seven_one ⟨ak, apc, am, ao, aq, av, an⟩) (by unfold maxLen; omega) (by omega) (by simp; omega) ?_); intro v' w2 hown' hgrow _; have R := act_more (A1 := ⟨ak, apc, am, ao, aq, av, an⟩) hown1 hbY hzY HaY.out HMH1.out ⟨hb5, hs5, hc5⟩ hub5 HB1.out (W := w.heap.size) hzw5 (Nat.le_refl _) hown' hgrow; clear hown' hgrow; obtain ⟨hOW', hA2', hB2', hM2', hz2'⟩ := R; have HOW := keepJ hOW'; have HA2 := keepJ hA2'; have HB2 := keepJ hB2'; have HM2 := keepJ hM2'; have b0 := HA2.out.cell (j := 0) rfl; clear hOW' hA2' hB2' hM2'))
    go_ret2
    refine ⟨v', rfl, ?_, HB2.out⟩
    rw [<- HTn.out HK.out (by first | rfl | trivial)]
    exact own_low HOW.out hzw5
   | cons r l' =>
    have hsa := safe_answer (E := r.E) (f := r.f) hKn hsafe hm1 (v := r.v) (by obtain ⟨_, _, _, _, _, _, hw, _⟩ := hr; exact hw r (by simp))
    have hrw : r.wf := by obtain ⟨_, _, _, _, _, _, hw, _⟩ := hr; exact hw r (by simp)
    have HCut := keepJ hr.cut
    have hrl : l'.length + 1 <= rcap' /\ rcap' <= 9223372036854775807 := by
     obtain ⟨a1, c1, e, g1, g2, _⟩ := hr
     injection e with e1 e2 e3
     subst e3
     unfold maxLen at g2
     exact ⟨g1, by omega⟩
    obtain ⟨rb, ro, hrb, hrlt, hat⟩ : ∃ b off, ra' = some ⟨b, off, none⟩ /\ b < w.heap.size /\ AtR w b off r := by
     obtain ⟨a1, c1, e, _, _, _, _, g⟩ := hr
     injection e with e1 e2 e3
     subst e1
     obtain ⟨b, off, rfl, hlt, hat⟩ := g (by simp)
     exact ⟨b, off, rfl, hlt, by have := hat 0 (by simp); rw [Nat.zero_mul, Nat.add_zero] at this; exact this⟩
    subst hrb
    have HAt := keepJ hat
    have hcut : ∀ wx : World, (Instr.slice 29 (.slice (some ⟨rb, ro, none⟩) (l'.length + 1) rcap') (some (.int .i64 1)) none none).run Tryz.prog wx = .ok (cutR (some ⟨rb, ro, none⟩) (l'.length + 1) rcap') wx := fun wx => run_cutR _ _ _ (by omega) hrl.1 wx
    simp only [List.length_cons]
    go_wp2_with (first
     | (go_at_call 21; go_must (refine HStep.out.mono ?_); rintro e w1 ⟨rfl, hc1, hmh1⟩; go_must (have hz1 := hc1.size; have hown1 := own_chg ho hc1 (fun k hk e => by have := (ho.lt k hk).1; omega); have HMH1 := keepJ hmh1; have HB1 := keepJ (hbw.trans (hc1.below (B := w.heap.size) (fun k e => by omega) hbw.size)); obtain ⟨Y, HY, HaY, hbY, hzY⟩ : ∃ Y, Hid (w1.alloc (.cells #[.int .i64 ak, .int .i64 apc, .int .i64 am, .int .i64 ao, .int .u64 aq, .int .u64 av, .int .u64 an] 80) = Y) /\ Hid (Hp Y w1.heap.size 80 (actC ak apc am ao aq av an)) /\ Below w1.heap.size w1 Y /\ Y.heap.size = w1.heap.size + 1 := ⟨_, rfl, Hp.new w1 _ _, (Below.refl _ _).alloc (Nat.le_refl _) _, by simp⟩; have hownY := own_below hown1 hbY (Nat.le_refl _); (have y0 := HaY.out.cell (j := 0) rfl); (have y1 := HaY.out.cell (j := 1) rfl); (have y2 := HaY.out.cell (j := 2) rfl); (have y3 := HaY.out.cell (j := 3) rfl); (have y4 := HaY.out.cell (j := 4) rfl); (have y5 := HaY.out.cell (j := 5) rfl); (have y6 := HaY.out.cell (j := 6) rfl); clear hmh1))
     | (at_builtin; rw [HY.out]; go_must (refine wpList_append_own _ rfl _ _ 34 rfl w5.heap.size 80 i0 _ 7 56 Tryz.underlying34 hi hz0 hz1' hz2 rfl (by decide) _ _ _ rfl (hownY.alloc _) ⟨_, 0, none⟩ 1 1 (actC ak apc am ao aq av an) rfl rfl (seven_new _ _ _ _ hzY.symm) (seven_one ⟨ak, apc, am, ao, aq, av, an⟩) (by unfold maxLen; omega) (by omega) (by simp; omega) ?_); intro v' w2 hown' hgrow _; have R := act_more (A1 := ⟨ak, apc, am, ao, aq, av, an⟩) hown1 hbY hzY HaY.out HMH1.out ⟨hb5, hs5, hc5⟩ hub5 HB1.out (W := w.heap.size) hzw5 (Nat.le_refl _) hown' hgrow; clear hown' hgrow; obtain ⟨hOW', hA2', hB2', hM2', hz2'⟩ := R; have HOW := keepJ hOW'; have HA2 := keepJ hA2'; have HB2 := keepJ hB2'; have HM2 := keepJ hM2'; have b0 := HA2.out.cell (j := 0) rfl; clear hOW' hA2' hB2' hM2'; have hat2 := HAt.out.below HB2.out hrlt; obtain ⟨r0, r1, r2, r3, r4, r5⟩ := hat2)
     | (go_at_call 20; go_must (refine (manswer_all hKn hsafe HM2.out hm1 r.E r.f r.v r.o r.k r.u hrw).mono ?_); rintro e w3 ⟨rfl, hc3, hm3⟩))
    go_roundw
    case rel =>
     have hz3 := hc3.size
     exact ⟨answerE xs M1 r.E r.f r.v, l', A ++ [⟨ak, apc, am, ao, aq, av, an⟩], _, _, v', rfl, rfl, hsa.1, rfl, hm3, by omega, by simp; omega, keepJ (HTa.out r l' HK.out (by first | rfl | trivial)), HCut.out, own_chg HOW.out hc3 (fun k hk e => by have := (HOW.out.lt k hk).1; omega), HB2.out.trans (hc3.below (fun k e => by omega) HB2.out.size), (by omega)⟩
    case measure =>
     rw [own_lenV HOW.out, own_lenV ho]
     simp
     omega
  ·have k4 : (ak == 4) = false := by simp; omega
   have k2 : (ak == 2) = false := by simp; omega
   go_wp2_with (first
    | (go_at_call 21; go_must (refine HStep.out.mono ?_); rintro e w1 ⟨rfl, hc1, hmh1⟩; go_must (have hz1 := hc1.size; have hown1 := own_chg ho hc1 (fun k hk e => by have := (ho.lt k hk).1; omega); have HMH1 := keepJ hmh1; have HB1 := keepJ (hbw.trans (hc1.below (B := w.heap.size) (fun k e => by omega) hbw.size)); obtain ⟨Y, HY, HaY, hbY, hzY⟩ : ∃ Y, Hid (w1.alloc (.cells #[.int .i64 ak, .int .i64 apc, .int .i64 am, .int .i64 ao, .int .u64 aq, .int .u64 av, .int .u64 an] 80) = Y) /\ Hid (Hp Y w1.heap.size 80 (actC ak apc am ao aq av an)) /\ Below w1.heap.size w1 Y /\ Y.heap.size = w1.heap.size + 1 := ⟨_, rfl, Hp.new w1 _ _, (Below.refl _ _).alloc (Nat.le_refl _) _, by simp⟩; have hownY := own_below hown1 hbY (Nat.le_refl _); (have y0 := HaY.out.cell (j := 0) rfl); (have y1 := HaY.out.cell (j := 1) rfl); (have y2 := HaY.out.cell (j := 2) rfl); (have y3 := HaY.out.cell (j := 3) rfl); (have y4 := HaY.out.cell (j := 4) rfl); (have y5 := HaY.out.cell (j := 5) rfl); (have y6 := HaY.out.cell (j := 6) rfl); clear hmh1))
    | (at_builtin; rw [HY.out]; go_must (refine wpList_append_own _ rfl _ _ 34 rfl w5.heap.size 80 i0 _ 7 56 Tryz.underlying34 hi hz0 hz1' hz2 rfl (by decide) _ _ _ rfl (hownY.alloc _) ⟨_, 0, none⟩ 1 1 (actC ak apc am ao aq av an) rfl rfl (seven_new _ _ _ _ hzY.symm) (seven_one ⟨ak, apc, am, ao, aq, av, an⟩) (by unfold maxLen; omega) (by omega) (by simp; omega) ?_); intro v' w2 hown' hgrow _; have R := act_more (A1 := ⟨ak, apc, am, ao, aq, av, an⟩) hown1 hbY hzY HaY.out HMH1.out ⟨hb5, hs5, hc5⟩ hub5 HB1.out (W := w.heap.size) hzw5 (Nat.le_refl _) hown' hgrow; clear hown' hgrow; obtain ⟨hOW', hA2', hB2', hM2', hz2'⟩ := R; have HOW := keepJ hOW'; have HA2 := keepJ hA2'; have HB2 := keepJ hB2'; have HM2 := keepJ hM2'; have b0 := HA2.out.cell (j := 0) rfl; clear hOW' hA2' hB2' hM2'))
   go_roundw
   case rel => exact ⟨M1, l, A ++ [⟨ak, apc, am, ao, aq, av, an⟩], ra', rcap', v', rfl, rfl, hsafe, hm1, HM2.out, by omega, by simp; omega, keepJ (HTo.out (by omega)), hr, HOW.out, HB2.out, (by omega)⟩
   case measure =>
    rw [own_lenV HOW.out, own_lenV ho]
    simp
    omega
def SeesX (w : World) (v : Value) (L : List Ac) : Prop :=
 ∃ a cap, v = .slice a L.length cap /\ L.length <= cap /\ cap <= 9223372036854775807 /\ (L ≠ [] -> ∃ g off, a = some ⟨g, off, none⟩ /\ g < w.heap.size /\ ∀ k, k < L.length -> AtA w g (off + k * 7) (L.getD k Ac.nil))
theorem own_seesX {w : World} {base : Nat} {e : TypeId} {v : Value} {L : List Ac} (h : w.ownsRow base e 7 v L.length (flatX L)) : SeesX w v L := by
 have h0 := h
 rcases h with ⟨h1, ⟨rfl, h2⟩ | ⟨g, cap, cur, rfl, hb, hh, h3, h4, h5, h6⟩⟩
 ·have : L = [] := List.eq_nil_of_length_eq_zero h2
  subst this
  exact ⟨none, 0, rfl, by simp, by omega, fun h => absurd rfl h⟩
 ·refine ⟨_, cap, rfl, h3, by unfold maxLen at h4; omega, fun hne => ⟨g, 0, rfl, (Array.getElem?_eq_some_iff.1 hh).1, fun k hk j hj => ?_⟩⟩
  rw [Nat.zero_add, h0.cellAt (k * 7 + j) (by omega)]
  exact flatX_at L k j hk hj
theorem SeesX.below {w w' : World} {v : Value} {L : List Ac} (h : SeesX w v L) (hb : Below w.heap.size w w') : SeesX w' v L := by
 obtain ⟨a, cap, rfl, h1, h2, h4⟩ := h
 refine ⟨a, cap, rfl, h1, h2, fun hne => ?_⟩
 obtain ⟨g, off, rfl, hlt, hat⟩ := h4 hne
 exact ⟨g, off, rfl, Nat.lt_of_lt_of_le hlt hb.size, fun k hk j hj => (hb.cell (p := ⟨g, off + k * 7 + j, none⟩) hlt).trans (hat k hk j hj)⟩
set_option maxHeartbeats 1600000 in
theorem alike11_any {va vb : Value} {L : List Ac} (w : World) (ha : SeesX w va L) (hb : SeesX w vb L) :
  Calls Tryz.prog 12 #[va, vb] w fun e w' => e = .returned (.bool true) /\ Below w.heap.size w w' := by
 obtain ⟨a, acap, rfl, ha1, ha2, ha4⟩ := ha
 obtain ⟨b, bcap, rfl, hb1, hb2, hb4⟩ := hb
 have HA := keepJ ha4
 have HB := keepJ hb4
 clear ha4 hb4
 have hl : L.length <= 9223372036854775807 := by omega
 obtain ⟨n, HN⟩ : ∃ n, Hid (L.length = n) := ⟨_, rfl⟩
 rw [HN.out] at hl ha1 hb1
 rw [HN.out]
 go_enter Tryz.func12, Tryz.ntmps12
 go_wp2
 go_loopw [5] (fun i wr => ∃ k : Nat, k <= n /\ i = .int .i64 k /\ Below w.heap.size w wr) (fun i _ => n - (intOf i).toNat)
 case atStart => exact ⟨0, by omega, rfl, Below.refl _ _⟩
 case round =>
  obtain ⟨k, hk, rfl, hbr⟩ := hrel
  by_cases hkn : k < n
  ·have hkI : (k : Int) < n := by omega
   have hne : L ≠ [] := fun e => by have := HN.out; rw [e] at this; simp at this; omega
   have hkL : k < L.length := by have := HN.out; omega
   obtain ⟨ga, oa, rfl, hga, hata⟩ := HA.out hne
   obtain ⟨gb, ob, rfl, hgb, hatb⟩ := HB.out hne
   have h1 : AtA wr ga (oa + k * 7) (L.getD k Ac.nil) := fun j hj => (hbr.cell (p := ⟨ga, oa + k * 7 + j, none⟩) hga).trans (hata k hkL j hj)
   have h2 : AtA wr gb (ob + k * 7) (L.getD k Ac.nil) := fun j hj => (hbr.cell (p := ⟨gb, ob + k * 7 + j, none⟩) hgb).trans (hatb k hkL j hj)
   obtain ⟨⟨ak, apc, am, ao, aq, av, an⟩, HAk⟩ : ∃ A, Hid (L.getD k Ac.nil = A) := ⟨_, rfl⟩
   rw [HAk.out] at h1 h2
   obtain ⟨a0, a1, a2, a3, a4, a5, a6⟩ := h1.seven
   obtain ⟨b0, b1, b2, b3, b4, b5, b6⟩ := h2.seven
   simp only at a0 a1 a2 a3 a4 a5 a6 b0 b1 b2 b3 b4 b5 b6
   clear hata hatb h1 h2
   go_wp2
   go_region
   go_wp2
   go_roundw
   case rel => exact ⟨k + 1, by omega, by go_num, qAr hbr⟩
   case measure => (simp [intOf]; try omega)
  ·obtain rfl : n = k := by omega
   go_wp2
   go_ret
   exact ⟨rfl, hbr⟩
def asksX : List In := [⟨13, 2, 0, 0, 0⟩, ⟨14, 1, 0, 0, 0⟩, ⟨21, 0, 0, 0, 0⟩, ⟨22, 0, 0, 0, 0⟩]
def okE (e : Except (Int × Int) Kn) : Bool := match e with | .ok _ => true | .error _ => false
theorem asks_ok : ∃ K, inqR [2] asksX = .ok K := by
 have h : okE (inqR [2] asksX) = true := by decide +kernel
 cases hc : inqR [2] asksX with
 | ok K => exact ⟨K, rfl⟩
 | error e => rw [hc] at h; cases h
def asksT : List Ac := [⟨1, 0, 0, 0, 0, 0, 0⟩, ⟨1, 1, 0, 0, 0, 0, 0⟩, ⟨2, 2, 2, 0, 20, 0, 0⟩, ⟨4, 3, 0, 0, 0, 0, 9⟩]
theorem asks_trace : traceE [2] asksX (20, 3) 257 startE [⟨0, true, 9, false, 0, 0⟩] = asksT := by kernel_rfl
theorem seesN_lit (w : World) (t : TypeId) (xs : List Int) (cs : Array Value) (n g : Nat) (hg : g = w.heap.size) (hcs : cs = (xs.map (Value.int .i64)).toArray) (hn : n = xs.length) (hm : xs.length <= 1048576) (hw : ∀ x ∈ xs, (Lit.int .i64 x).wf = true) : Sees .i64 (w.alloc (.cells cs t)) (.slice (some ⟨g, 0, none⟩) n n) xs := by
 subst hg hcs hn
 refine ⟨_, xs.length, rfl, Nat.le_refl _, by unfold maxLen; omega, fun h => (by cases h), hw, fun hne => ⟨_, 0, rfl, by simp, fun i hi => ?_⟩⟩
 rw [World.cell?_alloc_at _ _ _ _ rfl]
 simp [List.getD, List.getElem?_eq_getElem hi]
set_option maxHeartbeats 800000 in
theorem asks11_any (w : World) : Calls Tryz.prog 31 #[] w fun e w' => ∃ m g, e = .returned (modV (.slice (some ⟨m, 0, none⟩) 1 1) (.slice (some ⟨g, 0, none⟩) 4 4)) /\ Sees .i64 w' (.slice (some ⟨m, 0, none⟩) 1 1) [2] /\ SeesI w' (.slice (some ⟨g, 0, none⟩) 4 4) asksX /\ Below w.heap.size w w' := by
 go_enter Tryz.func31, Tryz.ntmps31
 go_wp2_with fail
 have hm := ((MdC.new w (.slice (some ⟨w.heap.size + 1, 0, none⟩) 1 1) (.slice (some ⟨w.heap.size + 1 + 1, 0, none⟩) 4 4)).kept (grownA_alloc _ (.cells #[.int .i64 2] 3) none) (by simp)).kept (grownA_alloc _ (.cells #[.int .i64 13, .int .i64 2, .int .i64 0, .int .i64 0, .int .i64 0, .int .i64 14, .int .i64 1, .int .i64 0, .int .i64 0, .int .i64 0, .int .i64 21, .int .i64 0, .int .i64 0, .int .i64 0, .int .i64 0, .int .i64 22, .int .i64 0, .int .i64 0, .int .i64 0, .int .i64 0] 43) none) (by simp)
 refine bodyPost_ret (results_cell_row rfl _ _ w.heap.size _ _ (0, 0) _ rfl hm Tryz.underlying25 rfl (by kernel_rfl)) rfl ?_
 refine ⟨w.heap.size + 1, w.heap.size + 1 + 1, rfl, (seesN_lit (w.alloc _) 3 [2] _ 1 _ (by simp) rfl rfl (by decide) (by intro x hx; simp at hx; subst hx; decide)).below ((Below.refl _ _).alloc (Nat.le_refl _) _) (Nat.le_refl _), seesI_lit _ _ asksX _ _ _ (by simp) rfl rfl (by decide), (((Below.refl _ _).alloc (Nat.le_refl _) _).alloc (by simp) _).alloc (by simp; omega) _⟩
theorem seesR_lit (w : World) (t : TypeId) (r : Rs) (hr : r.wf) : SeesR (w.alloc (.cells #[.int .i64 r.E, .bool r.f, .int .u64 r.v, .bool r.o, .int .u64 r.k, .int .u64 r.u] t)) (.slice (some ⟨w.heap.size, 0, none⟩) 1 1) [r] := by
 refine ⟨_, 1, rfl, Nat.le_refl _, by unfold maxLen; omega, fun h => (by cases h), by intro x hx; simp at hx; subst hx; exact hr, fun hne => ⟨_, 0, rfl, by simp, fun k hk => ?_⟩⟩
 obtain rfl : k = 0 := by simpa using hk
 have hN := Hp.new w (rsC r) t
 exact ⟨hN.cell rfl, hN.cell rfl, hN.cell rfl, hN.cell rfl, hN.cell rfl, hN.cell rfl⟩
set_option maxHeartbeats 1600000 in
theorem awake11_any (w : World) : Calls Tryz.prog 8 #[] w fun e w' => e = .returned (.bool true) /\ Below w.heap.size w w' := by
 obtain ⟨K, hK⟩ := asks_ok
 have HK := keepJ hK
 have HT : Hid (traceE [2] asksX (20, 3) 257 startE [⟨0, true, 9, false, 0, 0⟩] = asksT) := asks_trace
 clear hK
 go_enter Tryz.func8, Tryz.ntmps8
 go_wp2_with (first
  | (go_at_call 31; go_must (refine (asks11_any w).mono ?_); rintro e w1 ⟨m, g, rfl, hm1, hx1, hb1⟩; go_must (have HM1 := keepJ hm1; have HX1 := keepJ hx1; clear hm1 hx1))
  | (go_at_call 10; go_must (refine (mtrace_ok (20, 3) (by decide) (rs := [⟨0, true, 9, false, 0, 0⟩]) _ (HM1.out.below (qBk _ _) (Nat.le_refl _)) (HX1.out.below (qBk _ _)) (seesR_lit w1 _ ⟨0, true, 9, false, 0, 0⟩ ⟨by decide, by decide⟩) HK.out HT).mono ?_); rintro e w2 ⟨v, rfl, ho, hb2'⟩; go_must (have hb2 : Below w1.heap.size w1 w2 := (qBk w1 _).trans (hb2'.mono (by simp)); have hB2 := hb1.trans (hb2.mono hb1.size); have HO := keepJ ho; obtain ⟨ga, cap, rfl, _, hga, hcap, hcm, h2⟩ := own_acts ho (k := 2) (by decide); obtain ⟨ga', cap', e', _, _, _, _, h3⟩ := own_acts ho (k := 3) (by decide); injection e' with e1 e2 e3; injection e1 with e1; injection e1 with e1 e4; subst e1; obtain ⟨a0, a1, a2, a3, a4, a5, a6⟩ := h2.seven; obtain ⟨b0, b1, b2, b3, b4, b5, b6⟩ := h3.seven; simp only [asksT, List.getD, List.getElem?_cons_succ, List.getElem?_cons_zero, Option.getD_some, Nat.reduceMul, Nat.reduceAdd, List.length_cons, List.length_nil] at a0 a1 a2 a3 a4 a5 a6 b0 b1 b2 b3 b4 b5 b6 hcap; clear ho h2 h3 hb2')))
 go_ret
 exact ⟨rfl, hB2⟩
abbrev runV (vm vc : Value) (ea eb : Int) (vr : Value) (od : Int) : Value := .agg #[vm, vc, .int .u64 ea, .int .u64 eb, vr, .int .i64 od]
abbrev runC (vm vc : Value) (ea eb : Int) (vr : Value) (od : Int) : List Value := [vm, vc, .int .u64 ea, .int .u64 eb, vr, .int .i64 od]
theorem code_shape {w : World} {v : Value} {xs : List In} (h : SeesI w v xs) (hx : 0 < xs.length) : ∃ cb co ccap, v = .slice (some ⟨cb, co, none⟩) xs.length ccap /\ cb < w.heap.size := by
 obtain ⟨a, cap, rfl, _, _, _, h4⟩ := h
 obtain ⟨b, off, rfl, hlt, _⟩ := h4 (fun e => by rw [e] at hx; simp at hx)
 exact ⟨b, off, cap, rfl, hlt⟩
theorem mtrace_sees {vm vc : Value} {ms : List Int} {xs : List In} (ev : Int × Int) (hev : (0 <= ev.1 /\ ev.1 <= 18446744073709551615) /\ 0 <= ev.2 /\ ev.2 <= 18446744073709551615) {vr : Value} {rs : List Rs} (w : World) (hm : SeesM w vm vc ms xs) (hrs : SeesR w vr rs) {K : Kn} (hK : inqR ms xs = .ok K) {T : List Ac} (HT : Hid (traceE ms xs ev 257 startE rs = T)) :
  Calls Tryz.prog 10 #[modV vm vc, evV ev, vr] w fun e w' => TraceOk w w' T e := by
 obtain ⟨hmj, ⟨known, hKn, _⟩, hj0⟩ := judge_known hK
 obtain ⟨cb, co, ccap, rfl, hlt⟩ := code_shape hm.code hKn.T.pos
 exact mtrace_ok ev hev w hm.maps hm.code hrs hK HT
theorem run_errorE {xs : List In} {nm : Nat} : ∀ {n : Nat} {p : Nat} {E : Int}, runK xs nm n = .error (p, E) -> p < n /\ E ≠ 0 := by
 intro n
 induction n with
 | zero => intro p E h; rw [runK] at h; cases h
 | succ n ih =>
  intro p E h
  rw [runK] at h
  cases h0 : runK xs nm n with
  | error e =>
   rw [h0] at h
   simp only at h
   injection h with h
   subst h
   have := ih h0
   exact ⟨by omega, this.2⟩
  | ok K =>
   rw [h0] at h
   simp only at h
   cases h1 : stepK xs nm n K with
   | ok K' => rw [h1] at h; cases h
   | error e =>
    rw [h1] at h
    simp only at h
    injection h with h
    injection h with h2 h3
    subst h2 h3
    refine ⟨by omega, ?_⟩
    unfold stepK at h1
    split at h1
    ·cases h1
    split at h1
    ·injection h1 with h1; subst h1; assumption
    ·cases h1
theorem inq_err2 {ms : List Int} {xs : List In} {P E : Int} (h : inqR ms xs = .error (P, E)) : E ≠ 0 /\ 0 <= P /\ (P = 0 ∨ P < xs.length) := by
 unfold inqR at h
 split at h
 ·injection h with h; injection h with h1 h2; subst h1 h2; exact ⟨by decide, by decide, .inl rfl⟩
 split at h
 ·rename_i hE
  injection h with h; injection h with h1 h2; subst h1 h2
  exact ⟨hE, check_place xs⟩
 ·cases hr : runK xs ms.length xs.length with
  | ok K => rw [hr] at h; cases h
  | error e =>
   rw [hr] at h
   simp only at h
   injection h with h; injection h with h1 h2; subst h1 h2
   have := run_errorE hr
   exact ⟨this.2, by omega, .inr (by omega)⟩
theorem inq_err1 {ms : List Int} {xs : List In} {e : Int × Int} (h : inqR ms xs = .error e) : e.2 ≠ 0 := (inq_err2 (P := e.1) (E := e.2) h).1
structure Sd where
 b : Nat
 sb : Nat
 vm : Value
 cb : Nat
 ccap : Nat
 ms : List Int
 xs : List In
 ev : Int × Int
def Sd.mh (S : Sd) (w : World) (M : Mc) : Prop := Mh w S.b S.sb S.vm S.cb 0 S.ccap S.ms S.xs S.ev M
structure Sd.within (S : Sd) (lo hi : Nat) : Prop where
 b : lo <= S.b /\ S.b < hi
 sb : lo <= S.sb /\ S.sb < hi
 cb : lo <= S.cb /\ S.cb < hi
 vm : S.ms = [] ∨ ∀ j, S.vm.ownBlock = some j -> lo <= j /\ j < hi
theorem Sd.away {S : Sd} {w w' : World} {M : Mc} {lo hi : Nat} {C : Nat -> Prop} (h : S.mh w M) (hi' : S.within lo hi) (hc : Chg w w' C) (hC : ∀ k, C k -> k < lo ∨ hi <= k) : S.mh w' M := by
 have no : ∀ k, lo <= k /\ k < hi -> ¬ C k := fun k hk e => by rcases hC k e with g | g <;> omega
 exact Mh.apart h hc (no _ hi'.b) (no _ hi'.sb) (no _ hi'.cb) (hi'.vm.imp id fun g j hj => no j (g j hj))
structure Pr2 (w0 : World) (W1 W2 : Nat) (S1 S2 : Sd) (M1 M2 : Mc) (va vb : Value) (A B : List Ac) (w : World) : Prop where
 m1 : S1.mh w M1
 m2 : S2.mh w M2
 i1 : S1.within w0.heap.size W1
 i2 : S2.within W1 W2
 ra : w.ownsRow W2 80 7 va A.length (flatX A)
 rb : w.ownsRow W2 80 7 vb B.length (flatX B)
 ap : ∀ k, va.ownBlock = some k -> vb.ownBlock ≠ some k
 be : Below w0.heap.size w0 w
 sz : W2 <= w.heap.size
 le : w0.heap.size <= W1 /\ W1 <= W2
section
variable {w0 w w' : World} {W1 W2 : Nat} {S1 S2 : Sd} {M1 M2 M1' M2' : Mc} {va vb v' : Value} {A B : List Ac} {X : Ac} {o : Obj}
theorem Pr2.below (h : Pr2 w0 W1 W2 S1 S2 M1 M2 va vb A B w) (hb : Below w.heap.size w w') : Pr2 w0 W1 W2 S1 S2 M1 M2 va vb A B w' :=
 ⟨Mh.below h.m1 hb, Mh.below h.m2 hb, h.i1, h.i2, own_below h.ra hb (Nat.le_refl _), own_below h.rb hb (Nat.le_refl _), h.ap, h.be.trans (hb.mono h.be.size), Nat.le_trans h.sz hb.size, h.le⟩
theorem Pr2.one (h : Pr2 w0 W1 W2 S1 S2 M1 M2 va vb A B w) (hc : Chg w w' (fun k => k = S1.b ∨ k = S1.sb)) (hm : S1.mh w' M1') : Pr2 w0 W1 W2 S1 S2 M1' M2 va vb A B w' := by
 have hS : ∀ k, (k = S1.b ∨ k = S1.sb) -> w0.heap.size <= k /\ k < W1 := fun k e => by
  have g1 := h.i1.b
  have g2 := h.i1.sb
  rcases e with e | e <;> omega
 have hle := h.le
 refine ⟨hm, Sd.away h.m2 h.i2 hc (fun k e => .inl (hS k e).2), h.i1, h.i2, own_chg h.ra hc (fun k hk e => ?_), own_chg h.rb hc (fun k hk e => ?_), h.ap, h.be.trans (hc.below (fun k e => (hS k e).1) h.be.size), Nat.le_trans h.sz hc.size, h.le⟩
 ·have := (h.ra.lt k hk).1; have := (hS k e).2; omega
 ·have := (h.rb.lt k hk).1; have := (hS k e).2; omega
theorem Pr2.two (h : Pr2 w0 W1 W2 S1 S2 M1 M2 va vb A B w) (hc : Chg w w' (fun k => k = S2.b ∨ k = S2.sb)) (hm : S2.mh w' M2') : Pr2 w0 W1 W2 S1 S2 M1 M2' va vb A B w' := by
 have hS : ∀ k, (k = S2.b ∨ k = S2.sb) -> W1 <= k /\ k < W2 := fun k e => by
  have g1 := h.i2.b
  have g2 := h.i2.sb
  rcases e with e | e <;> omega
 have hle := h.le
 refine ⟨Sd.away h.m1 h.i1 hc (fun k e => .inr (hS k e).1), hm, h.i1, h.i2, own_chg h.ra hc (fun k hk e => ?_), own_chg h.rb hc (fun k hk e => ?_), h.ap, h.be.trans (hc.below (fun k e => by have := (hS k e).1; omega) h.be.size), Nat.le_trans h.sz hc.size, h.le⟩
 ·have := (h.ra.lt k hk).1; have := (hS k e).2; omega
 ·have := (h.rb.lt k hk).1; have := (hS k e).2; omega
theorem Pr2.appA (h : Pr2 w0 W1 W2 S1 S2 M1 M2 va vb A B w) (hown : w'.ownsRow W2 80 7 v' (A.length + 1) (flatX A ++ acC X)) (hg : (w.alloc o).grownBy w' va.ownBlock) (hat : v'.ownBlock = va.ownBlock ∨ v'.ownBlock = some (w.alloc o).heap.size) : Pr2 w0 W1 W2 S1 S2 M1 M2 v' vb (A ++ [X]) B w' := by
 have hle := h.le
 have hsz := h.sz
 have hC : Chg w w' (fun k => va.ownBlock = some k) := (Chg.of_below (S := fun k => va.ownBlock = some k) (qBk w o)).trans (Chg.of_grown' hg (S := fun k => va.ownBlock = some k) (fun b hb => hb)) (fun _ _ e => e)
 have hl := fun k (hk : va.ownBlock = some k) => h.ra.lt k hk
 refine ⟨Sd.away h.m1 h.i1 hC (fun k e => .inr (by have := (hl k e).1; omega)), Sd.away h.m2 h.i2 hC (fun k e => .inr (hl k e).1), h.i1, h.i2, by rw [<- flatX_app]; simpa [flatX] using hown, own_chg h.rb hC (fun k hk e => h.ap k e hk), fun k hk e => ?_, h.be.trans (hC.below (fun k e => by have := (hl k e).1; omega) h.be.size), Nat.le_trans h.sz hC.size, h.le⟩
 rcases hat with g | g
 ·exact h.ap k (by rw [<- g]; exact hk) e
 ·have h1 := (h.rb.lt k e).2
  rw [g] at hk
  have h2 := Option.some.inj hk
  simp at h2
  omega
theorem Pr2.appB (h : Pr2 w0 W1 W2 S1 S2 M1 M2 va vb A B w) (hown : w'.ownsRow W2 80 7 v' (B.length + 1) (flatX B ++ acC X)) (hg : (w.alloc o).grownBy w' vb.ownBlock) (hat : v'.ownBlock = vb.ownBlock ∨ v'.ownBlock = some (w.alloc o).heap.size) : Pr2 w0 W1 W2 S1 S2 M1 M2 va v' A (B ++ [X]) w' := by
 have hle := h.le
 have hsz := h.sz
 have hC : Chg w w' (fun k => vb.ownBlock = some k) := (Chg.of_below (S := fun k => vb.ownBlock = some k) (qBk w o)).trans (Chg.of_grown' hg (S := fun k => vb.ownBlock = some k) (fun b hb => hb)) (fun _ _ e => e)
 have hl := fun k (hk : vb.ownBlock = some k) => h.rb.lt k hk
 refine ⟨Sd.away h.m1 h.i1 hC (fun k e => .inr (by have := (hl k e).1; omega)), Sd.away h.m2 h.i2 hC (fun k e => .inr (hl k e).1), h.i1, h.i2, own_chg h.ra hC (fun k hk e => h.ap k hk e), by rw [<- flatX_app]; simpa [flatX] using hown, fun k hk e => ?_, h.be.trans (hC.below (fun k e => by have := (hl k e).1; omega) h.be.size), Nat.le_trans h.sz hC.size, h.le⟩
 rcases hat with g | g
 ·exact h.ap k hk (by rw [<- g]; exact e)
 ·have h1 := (h.ra.lt k hk).2
  rw [g] at e
  have h2 := Option.some.inj e
  simp at h2
  omega
end
theorem told_round {ms : List Int} {xs : List In} {ev : Int × Int} {r : Rs} {known : List St} {T A : List Ac} {n : Nat} {M : Mc} (h : Told ms xs ev r known T A n M) (hK : Known xs ms.length known) (hev : (0 <= ev.1 /\ ev.1 <= 18446744073709551615) /\ 0 <= ev.2 /\ ev.2 <= 18446744073709551615) (hr : r.wf) :
  ∃ X M1, stepE ms xs ev M = (X, M1) /\ M.steps <= 1000 /\ ((X.k = 6 /\ Told ms xs ev r known T A (n + 1) M1) ∨ (X.k = 2 /\ M1.mode = 1 /\ Safe xs ms.length known M1 /\ Told ms xs ev r known T (A ++ [X]) (n + 1) (answerE xs M1 r.E r.f r.v)) ∨ (X.k ≠ 2 /\ X.k ≠ 6 /\ Told ms xs ev r known T (A ++ [X]) (n + 1) M1)) := by
 have hpl := h.safe.pot_le hK.T
 have hpt := h.pot
 refine ⟨(stepE ms xs ev M).1, (stepE ms xs ev M).2, rfl, by split at hpl <;> omega, ?_⟩
 rcases h.mode with ⟨h0, _⟩ | ⟨h2, _⟩
 ·obtain ⟨_, h6, ht, hc⟩ := h.runs hK hev hr h0
  by_cases h2 : (stepE ms xs ev M).1.k = 2
  ·obtain ⟨g1, g2⟩ := hc h2
   refine .inr (.inl ⟨h2, g1, g2, ?_⟩)
   have e : roundE ms xs ev r M = answerE xs (stepE ms xs ev M).2 r.E r.f r.v := by unfold roundE; rw [if_pos h2]
   rw [<- e]; exact ht
  ·refine .inr (.inr ⟨h2, h6, ?_⟩)
   have e : roundE ms xs ev r M = (stepE ms xs ev M).2 := by unfold roundE; rw [if_neg h2]
   rw [<- e]; exact ht
 ·obtain ⟨h6, hm, _, ht⟩ := h.over h2
  refine .inl ⟨h6, ?_⟩
  rw [hm]; exact ht
theorem mnew_either {vm vc : Value} {ms : List Int} {xs : List In} (ev : Int × Int) {sb : Nat} (w : World) (hm : SeesM w vm vc ms xs) (hs : Sc w sb nought nought) (hmb : ms = [] ∨ vm.ownBlock ≠ some sb) (hcb : ∀ cb co ccap, vc = .slice (some ⟨cb, co, none⟩) xs.length ccap -> 0 < xs.length -> cb ≠ sb) :
  Calls Tryz.prog 14 #[modV vm vc, evV ev, .pointer (some ⟨sb, 0, none⟩)] w fun e w' => ∃ p E, e = .returned (.tuple #[.pointer p, .int .i64 E]) /\ Chg w w' (fun k => k = sb) /\ ((E ≠ 0 /\ p = none) ∨ (E = 0 /\ ∃ b cb' ccap' um K, p = some ⟨b, 0, none⟩ /\ w.heap.size <= b /\ Mh w' b sb um cb' 0 ccap' ms xs ev startE /\ w.heap.size <= cb' /\ (ms = [] ∨ ∀ j, um.ownBlock = some j -> w.heap.size <= j) /\ inqR ms xs = .ok K)) := by
 cases hI : inqR ms xs with
 | error PE =>
  obtain ⟨P, E⟩ := PE
  have hE : E ≠ 0 := inq_err1 hI
  have hj : Hid (judgeR ms xs = (P, E)) := by show _ = _; unfold judgeR; rw [hI]
  refine (mnew_bad ev sb w hm.maps hm.code hj hE).mono ?_
  rintro e w' ⟨rfl, hb⟩
  exact ⟨none, E, rfl, Chg.of_below hb, .inl ⟨hE, rfl⟩⟩
 | ok K =>
  obtain ⟨hmj, ⟨known, hKn, _⟩, hj0⟩ := judge_known hI
  obtain ⟨cb, co, ccap, rfl, hlt⟩ := code_shape hm.code hKn.T.pos
  have hml := maps_len hmj
  refine (mnew_ok ev sb w hm.maps hm.code hs hj0 (by omega) hmb (hcb cb co ccap rfl hKn.T.pos) ⟨hKn.T.pos, hKn.T.top⟩).mono ?_
  rintro e w' ⟨b, cb', ccap', um, rfl, h1, h2, h3, h4, h5⟩
  exact ⟨_, 0, rfl, h3, .inr ⟨rfl, b, cb', ccap', um, K, rfl, h1, h2, h4, h5, rfl⟩⟩
end Go.Proofs.YtbmjanejecfjmaaGreat
