
/-
 What the document's All answers. No condition beyond the argument's reading.
-/
import Derived.Test.YtkcofelpndlplaaGreatMT49
import Derived.Test.YtkcofelpndlplaaGreatMT31
import Derived.Test.YtkcofelpndlplaaGreatMT46
import Derived.Test.YtkcofelpndlplaaGreatMT50
import Derived.Test.YtkcofelpndlplaaGreatMT47
namespace Go.Proofs.YtkcofelpndlplaaGreat
open Go.RowKit
set_option linter.unusedVariables false
set_option linter.unusedSimpArgs false
set_option maxRecDepth 100000

theorem runU_err {xs : List In} {nm p : Nat} {e : Int × Int} (h : runU xs nm p = .error e) : ∀ n, p <= n -> runU xs nm n = .error e := by
  intro n hn
  induction n with
  | zero => obtain rfl : p = 0 := by omega
            exact h
  | succ n ih =>
    by_cases hp : p = n + 1
    · subst hp; exact h
    · rw [runU, ih (by omega)]
structure RunF (xs : List In) (nm q : Nat) (K : List St) : Prop where
 len : K.length = q
 each : ∀ s ∈ K, s = [] ∨ Made8 nm s
 cm : ∀ c ∈ comesU xs K q q, Made8 nm c
 head : q < xs.length -> comesU xs K q q ≠ [] -> (nth xs q).op = 20 -> 0 <= (q : Int) - (nth xs q).d /\ (q : Int) - (nth xs q).d < q /\ (K.getD ((q : Int) - (nth xs q).d).toNat []).length = 8
theorem run_facts {xs : List In} {nm q : Nat} {K : List St} (hT : Taken xs) (hq : q <= xs.length) (h : runU xs nm q = .ok K) : RunF xs nm q K := by
 rcases pull_run (nm := nm) hT q hq with ⟨e, h1, h2⟩ | ⟨K', known, h1, h2, hP⟩
 ·rw [h] at h2; cases h2
 ·rw [h] at h2
  injection h2 with h2
  subst h2
  refine ⟨hP.len, fun s hs => ?_, hP.cm q, fun hn hne h20 => ?_⟩
  ·obtain ⟨k, hk, rfl⟩ := List.mem_iff_getElem.1 hs
   have hlow := hP.low k (by rw [<- hP.len]; exact hk)
   rw [List.getD_eq_getElem?_getD, List.getElem?_eq_getElem hk] at hlow
   simp only [Option.getD_some] at hlow
   rw [hlow]
   split
   ·exact .inr (hP.made.at k)
   ·exact .inl rfl
  ·have hr := hT.right hn
   have hpl := qCf hn (hT.place q hn)
   have hg : (nth xs q).far = -(nth xs q).d /\ 1 <= (nth xs q).d := by
    rcases qBm (nth xs q) with h | h | h | h
    ·rw [hr] at h; cases h.1
    ·omega
    ·exact ⟨h.2.2.1, h.2.2.2.2.2.1⟩
    ·omega
   have hqd : ((q : Int) - (nth xs q).d).toNat < q := by omega
   have hk := (hP.high q (Nat.le_refl _) hn).1.2 hne
   have hml : lpAt xs q ∈ loopsL xs := loopsU_mem.2 ⟨q, hn, h20, rfl⟩
   have hhd := (run_heads hT hq h1).2 _ hml q (by show (q : Int) + (nth xs q).far < q; omega) (Int.le_refl _) hk
   have e2 : (lpAt xs q).h.toNat = ((q : Int) - (nth xs q).d).toNat := by show ((q : Int) + (nth xs q).far).toNat = _; omega
   rw [e2] at hhd
   refine ⟨by omega, by omega, ?_⟩
   rw [hP.low _ hqd, if_pos hhd]
   exact (hP.made.at _).1
theorem run_next {xs : List In} {nm q : Nat} {K : List St} (h : runU xs nm q = .ok K) (he : errJ xs nm K (atJ xs K q) q = 0) : runU xs nm (q + 1) = .ok (K ++ [atJ xs K q]) := by
 rw [runU, h]
 simp only
 rw [if_pos he]
theorem run_stop {xs : List In} {nm q : Nat} {K : List St} {E : Int} (h : runU xs nm q = .ok K) (he : errJ xs nm K (atJ xs K q) q = E) (h0 : E ≠ 0) (hq : q < xs.length) : runU xs nm xs.length = .error ((q : Int), E) := by
 refine runU_err (p := q + 1) ?_ _ (by omega)
 rw [runU, h]
 simp only
 rw [he, if_neg h0]
theorem at_nil {xs : List In} {K : List St} {p : Nat} (h : comesU xs K p p = []) : atJ xs K p = [] := by unfold atJ; rw [if_pos (by rw [h]; rfl)]
theorem at_yes {xs : List In} {K : List St} {p : Nat} (h : comesU xs K p p ≠ []) : atJ xs K p = widen xs p (joinS (comesU xs K p p) 8) xs.length := by
 unfold atJ; rw [if_neg (by intro h1; exact h (List.length_eq_zero_iff.1 h1))]
theorem asks_as {am : Option Addr} {nm mcap : Nat} {vc vs vh : Value} {xs : List In} {p : Nat} {s head : St} {w : World} {E : Int} (hc : SeesI w vc xs) (hp : p < xs.length) (hs : SeesT w vs s) (h8 : s.length = 8) (hr : (nth xs p).right = true)
  (hh : (nth xs p).op = 20 -> SeesT w vh head /\ head.length = 8) (hE : Hid (asksJ nm (nth xs p) s head = E)) :
  Calls Tryz.prog 17 #[.agg #[.slice am nm mcap, vc], .int .i64 p, vs, vh] w fun e w' => e = .returned (.int .i64 E) /\ Below w.heap.size w w' := by
 rw [<- hE.out]; exact asks_any am nm mcap vc vs vh xs p s head w hc hp hs h8 hr hh
theorem SsW.last {B : Nat} {w : World} {v u : Value} {S : List St} {vs : List Value} {s : St} (h : SsW B w v (S ++ [s]) (vs ++ [u])) : w.ownsRow B 46 4 u s.length (flatT s) := by
 have hl : vs.length = S.length := by have := h.len; simp at this; exact this
 have := h.each S.length (by simp)
 have e1 : (vs ++ [u]).getD S.length stN = u := by rw [<- hl]; simp [List.getD]
 have e2 : (S ++ [s]).getD S.length [] = s := by simp [List.getD]
 rw [e1, e2] at this
 exact this
def Gone (W : World) (xs : List In) (nm q : Nat) (K : List St) (v : Value) (wc : World) : Prop := runU xs nm q = .ok K /\ Ss W.heap.size wc v K /\ Below W.heap.size W wc
set_option maxHeartbeats 12800000 in
theorem all_run (am : Option Addr) (mcap : Nat) (ms : List Int) (cb co ccap : Nat) (xs : List In) (w : World) (hm : Sees .i64 w (.slice am ms.length mcap) ms) (hx : SeesI w (.slice (some ⟨cb, co, none⟩) xs.length ccap) xs) (hmf : Hid (mapsJ ms = true)) (hT : Taken xs) :
  Calls Tryz.prog 8 #[.agg #[.slice am ms.length mcap, .slice (some ⟨cb, co, none⟩) xs.length ccap]] w fun e w' =>
   (∃ q E, runU xs ms.length xs.length = .error (q, E) /\ e = .returned (.tuple #[stN, .int .i64 q, .int .i64 E]) /\ Below w.heap.size w w') ∨
   (∃ K, runU xs ms.length xs.length = .ok K /\ ∃ u, e = .returned (.tuple #[u, .int .i64 0, .int .i64 0]) /\ Ss w.heap.size w' u K /\ Below w.heap.size w w') := by
 obtain ⟨i0, hi, hz0, hz1, hz2i⟩ := info_parts Tryz.infoSt
 have HX := keepJ hx
 have HT := keepJ hT
 have HMS := keepJ hm
 have h64 : xs.length <= 64 := hT.top
 have HP0 : Hid (checkL xs = (0, 0)) := check_pair (check_ok.2 hT)
 obtain ⟨nm, HNM⟩ : ∃ nm, Hid (ms.length = nm) := ⟨_, rfl⟩
 rw [HNM.out] at HMS ⊢
 obtain ⟨W, HW, HBW, hWz⟩ : ∃ W, Hid (W = w.alloc (Obj.cells #[.slice am nm mcap, .slice (some ⟨cb, co, none⟩) xs.length ccap] 25)) /\ Hid (Below w.heap.size w W) /\ W.heap.size = w.heap.size + 1 :=
  ⟨_, rfl, keepJ (by go_grown), by simp⟩
 have HM : Hid (W.cell? ⟨w.heap.size, 0, none⟩ = some (.slice am nm mcap) /\ W.cell? ⟨w.heap.size, 1, none⟩ = some (.slice (some ⟨cb, co, none⟩) xs.length ccap)) := by
  rw [HW.out]; exact ⟨by go_cell, by go_cell⟩
 have HMr : Hid (∀ wx, Below W.heap.size W wx -> wx.cell? ⟨w.heap.size, 0, none⟩ = some (.slice am nm mcap) /\ wx.cell? ⟨w.heap.size, 1, none⟩ = some (.slice (some ⟨cb, co, none⟩) xs.length ccap)) := fun wx hbW =>
  ⟨(hbW.cell (p := ⟨w.heap.size, 0, none⟩) (show w.heap.size < W.heap.size by omega)).trans HM.out.1, (hbW.cell (p := ⟨w.heap.size, 1, none⟩) (show w.heap.size < W.heap.size by omega)).trans HM.out.2⟩
 have HXr : Hid (∀ wx, Below W.heap.size W wx -> SeesI wx (.slice (some ⟨cb, co, none⟩) xs.length ccap) xs) := fun wx hbW => HX.out.below (HBW.out.trans (hbW.mono (by omega)))
 clear hx hm hT
 go_enter Tryz.func8, Tryz.ntmps8
 go_wp2_with (first
  | (go_at_call 14; rw [<- HW.out]; go_must (refine (rmaps_any _ ms _ (HMS.out.below HBW.out (Nat.le_refl _)) hmf).mono ?_); rintro e w1 ⟨rfl, hb1⟩; go_must (obtain ⟨m0, m1⟩ := HMr.out w1 hb1; have hz1' := hb1.size))
  | (go_at_call 15; go_must (refine (rcheck_any _ xs _ (HXr.out w1 hb1) HP0).mono ?_); rintro e w2 ⟨rfl, hb2⟩; go_must (have HB2 : Hid (Below W.heap.size W w2) := hb1.trans (hb2.mono hz1'); clear m0 m1; clear hb1 hb2)))
 go_loopw [7, 8] (fun v7 v8 wr => ∃ (q : Nat) (K : List St), q <= xs.length /\ v8 = .int .i64 q /\ Hid (Gone W xs nm q K v7 wr)) (fun _ v8 _ => xs.length - (intOf v8).toNat)
 case atStart => exact ⟨0, [], by omega, rfl, rfl, Ss.nil _ _, HB2.out⟩
 case round =>
  rename World => w3
  obtain ⟨q, K, hq, rfl, HG⟩ := hrel
  have hb3 := HG.out.2.2
  have hz3 := hb3.size
  obtain ⟨m0, m1⟩ := HMr.out w3 hb3
  by_cases hlt : q < xs.length
  ·have hltI : (q : Int) < xs.length := by omega
   have hxI : (xs.length : Int) <= 64 := by omega
   have HF := keepJ (run_facts HT.out hq HG.out.1)
   have hKl := HF.out.len
   obtain ⟨vs, hSW⟩ := HG.out.2.1
   have HRK := keepJ HG.out.1
   have HX3 := keepJ (HXr.out w3 hb3)
   by_cases hne : comesU xs K q q = []
   ·have HA := keepJ (at_nil hne)
    have HN : Hid (runU xs nm (q + 1) = .ok (K ++ [[]])) := by
     have := run_next HRK.out (by rw [HA.out]; unfold errJ; rw [if_pos (show ([] : St).length = 0 from rfl)])
     rw [HA.out] at this
     exact this
    go_wp2_with (first
     | (go_at_call 16; go_must (refine (at_none _ cb co ccap xs q _ K nm W.heap.size _ HX3.out ⟨vs, hSW⟩ HT.out hlt (by omega) HF.out.each hne).mono ?_); rintro e w4 ⟨rfl, hb4⟩; go_must (have hSW4 := hSW.below hb4 (Nat.le_refl _); have hbW4 : Below W.heap.size W w4 := hb3.trans (hb4.mono hz3); have hz4 := hbW4.size))
     | (at_builtin; go_must (refine wpList_append_own _ rfl (.tmp 37) (.tmp 39) 31 rfl W.heap.size 57 i0 (.slice none 0 0) 1 24 Tryz.underlying31 hi hz0 hz1 hz2i rfl (by decide) _ _ _ rfl (hSW4.row.alloc _) ⟨_, 0, none⟩ 1 1 [stN] rfl rfl (one_lit _ _ (by first | rfl | (simp; done)) _ _) (one_sl _ none 0 0 rfl) (by unfold maxLen; omega) (by omega) (by first | omega | (simp; done) | (simp; omega)) ?_); intro v6 w6 hown6 hg6 _; go_must (have HG6 : Hid (Gone W xs nm (q + 1) (K ++ [[]]) v6 w6) := ⟨HN.out, ⟨_, hSW4.push (World.ownsRow_nil _ _ _ _) hown6 hg6⟩, (hbW4.alloc hz4 _).grown hg6 (by first | omega | (simp; done) | (simp; omega)) (fun j hj => (hSW4.row.lt j hj).1)⟩; clear hown6 hg6)))
    go_roundw
    case rel => exact ⟨q + 1, K ++ [[]], by omega, by go_num, HG6.out⟩
    case measure => simp [intOf]; omega
   ·have HA := keepJ (at_yes hne)
    obtain ⟨st, HST⟩ : ∃ st, Hid (atJ xs K q = st) := ⟨_, rfl⟩
    have HMst : Hid (Made8 nm st) := by rw [<- HST.out, HA.out]; exact made_widen (made_joinS hne HF.out.cm) q _
    have h8 := HMst.out.1
    have HRT := keepJ (HT.out.right hlt)
    obtain ⟨hd, HHD⟩ : ∃ hd, Hid (headJ xs K st q = hd) := ⟨_, rfl⟩
    obtain ⟨E, HEE⟩ : ∃ E, Hid (asksJ nm (nth xs q) st hd = E) := ⟨_, rfl⟩
    have HER : Hid (errJ xs nm K st q = E) := by show _ = _; unfold errJ; rw [if_neg (by omega), HHD.out]; exact HEE.out
    have HHead := keepJ (HF.out.head hlt hne)
    obtain ⟨⟨op, d, a, b, imm⟩, HI⟩ : ∃ i, Hid (nth xs q = i) := ⟨_, rfl⟩
    by_cases h20 : op = 20
    ·subst h20
     have hhd := HHead.out (by rw [HI.out])
     rw [HI.out] at hhd
     simp only at hhd
     obtain ⟨hd1, hd2, hd3⟩ := hhd
     have hdb : 1 <= d /\ d <= 63 := by omega
     obtain ⟨h, hh⟩ : ∃ h : Nat, (q : Int) - d = h := ⟨((q : Int) - d).toNat, by omega⟩
     have hhq : (h : Int) < q + 1 := by omega
     have HL1 : Hid ((K ++ [st]).length = q + 1) := by show _ = _; simp [hKl]
     have HGH : Hid ((K ++ [st]).getD h [] = hd) := by
      show _ = _
      rw [<- HHD.out]
      unfold headJ
      rw [HI.out, if_pos rfl]
      simp only
      rw [hh, Int.toNat_natCast]
     have HH8 : Hid (hd.length = 8) := by
      show _ = _
      rw [<- HGH.out, getD_app_l (by omega)]
      have := hd3
      rw [hh, Int.toNat_natCast] at this
      exact this
     clear hd1 hd2 hd3 HHead
     by_cases hE : E = 0
     ·subst hE
      go_wp2_with (first
       | (go_at_call 16; go_must (refine (at_some _ cb co ccap xs q _ K nm W.heap.size _ HX3.out ⟨vs, hSW⟩ HT.out hlt (by omega) HF.out.each HF.out.cm hne).mono ?_); rintro e w4 ⟨u, rfl, hu4, hb4⟩; go_must (rw [<- HA.out, HST.out] at hu4; have hSW4 := hSW.below hb4 (Nat.le_refl _); have hbW4 : Below W.heap.size W w4 := hb3.trans (hb4.mono hz3); have hz4 := hbW4.size; have hu5 : w4.ownsRow W.heap.size 46 4 u st.length (flatT st) := (by rw [h8]; exact qAu hu4 hz3); obtain ⟨ug, uc, rfl, hug, huc, hum⟩ := qBp hu4; clear hu4 hb4))
       | (at_builtin; go_must (refine wpList_append_own _ rfl (.tmp 37) (.tmp 39) 31 rfl W.heap.size 57 i0 (.slice none 0 0) 1 24 Tryz.underlying31 hi hz0 hz1 hz2i rfl (by decide) _ _ _ rfl (hSW4.row.alloc _) ⟨_, 0, none⟩ 1 1 [.slice (some ⟨ug, 0, none⟩) 8 uc] rfl rfl (one_lit _ _ (by first | rfl | (simp; done)) _ _) (one_sl _ _ _ _ rfl) (by unfold maxLen; omega) (by omega) (by first | omega | (simp; done) | (simp; omega)) ?_); intro v6 w6 hown6 hg6 _; go_must (have hSW6 := hSW4.push hu5 hown6 hg6; have HU6 := keepJ hSW6.last; have HS6 : Hid (Ss W.heap.size w6 v6 (K ++ [st])) := ⟨_, hSW6⟩; have hb6 : Below W.heap.size W w6 := (hbW4.alloc hz4 _).grown hg6 (by first | omega | (simp; done) | (simp; omega)) (fun j hj => (hSW4.row.lt j hj).1); clear m0 m1; obtain ⟨m0, m1⟩ := HMr.out w6 hb6; obtain ⟨hat, hcb, hcc⟩ := codeAt (HXr.out w6 hb6) hlt; rw [HI.out] at hat; obtain ⟨c0, c1, c2, c3, c4⟩ := hat; simp only at c0 c1 c2 c3 c4; have hz6 := hb6.size; clear hown6 hg6 hSW4 hu5 hSW6; obtain ⟨g6, c6, a6, ca6, hv6, hg6l, hc6, hcell6, hsees6, _⟩ := HS6.out.get (i := h) (by rw [HL1.out]; omega); rw [HL1.out] at hv6 hc6; rw [HGH.out, HH8.out] at hcell6; rw [HGH.out, HH8.out] at hsees6; subst hv6))
       | (go_at_call 17; go_must (refine (asks_as (s := st) (head := hd) (HXr.out w6 hb6) hlt (by have := qBx HU6.out; exact this) h8 HRT.out (fun _ => ⟨by have := hsees6; exact this, HH8.out⟩) HEE).mono ?_); rintro e w7 ⟨rfl, hb7⟩; go_must (have HG7 : Hid (Ss W.heap.size w7 (.slice (some ⟨g6, 0, none⟩) (q + 1) c6) (K ++ [st]) /\ Below W.heap.size W w7) := ⟨HS6.out.below hb7 (Nat.le_refl _), hb6.trans (hb7.mono hz6)⟩; clear hb7)))
      go_roundw
      case rel => exact ⟨q + 1, K ++ [st], by omega, by go_num, by have := run_next HRK.out (by rw [HST.out]; exact HER.out); rw [HST.out] at this; exact this, HG7.out.1, HG7.out.2⟩
      case measure => simp [intOf]; omega
     ·have hEI : (E != 0) = true := by simpa using hE
      go_wp2_with (first
       | (go_at_call 16; go_must (refine (at_some _ cb co ccap xs q _ K nm W.heap.size _ HX3.out ⟨vs, hSW⟩ HT.out hlt (by omega) HF.out.each HF.out.cm hne).mono ?_); rintro e w4 ⟨u, rfl, hu4, hb4⟩; go_must (rw [<- HA.out, HST.out] at hu4; have hSW4 := hSW.below hb4 (Nat.le_refl _); have hbW4 : Below W.heap.size W w4 := hb3.trans (hb4.mono hz3); have hz4 := hbW4.size; have hu5 : w4.ownsRow W.heap.size 46 4 u st.length (flatT st) := (by rw [h8]; exact qAu hu4 hz3); obtain ⟨ug, uc, rfl, hug, huc, hum⟩ := qBp hu4; clear hu4 hb4))
       | (at_builtin; go_must (refine wpList_append_own _ rfl (.tmp 37) (.tmp 39) 31 rfl W.heap.size 57 i0 (.slice none 0 0) 1 24 Tryz.underlying31 hi hz0 hz1 hz2i rfl (by decide) _ _ _ rfl (hSW4.row.alloc _) ⟨_, 0, none⟩ 1 1 [.slice (some ⟨ug, 0, none⟩) 8 uc] rfl rfl (one_lit _ _ (by first | rfl | (simp; done)) _ _) (one_sl _ _ _ _ rfl) (by unfold maxLen; omega) (by omega) (by first | omega | (simp; done) | (simp; omega)) ?_); intro v6 w6 hown6 hg6 _; go_must (have hSW6 := hSW4.push hu5 hown6 hg6; have HU6 := keepJ hSW6.last; have HS6 : Hid (Ss W.heap.size w6 v6 (K ++ [st])) := ⟨_, hSW6⟩; have hb6 : Below W.heap.size W w6 := (hbW4.alloc hz4 _).grown hg6 (by first | omega | (simp; done) | (simp; omega)) (fun j hj => (hSW4.row.lt j hj).1); clear m0 m1; obtain ⟨m0, m1⟩ := HMr.out w6 hb6; obtain ⟨hat, hcb, hcc⟩ := codeAt (HXr.out w6 hb6) hlt; rw [HI.out] at hat; obtain ⟨c0, c1, c2, c3, c4⟩ := hat; simp only at c0 c1 c2 c3 c4; have hz6 := hb6.size; clear hown6 hg6 hSW4 hu5 hSW6; obtain ⟨g6, c6, a6, ca6, hv6, hg6l, hc6, hcell6, hsees6, _⟩ := HS6.out.get (i := h) (by rw [HL1.out]; omega); rw [HL1.out] at hv6 hc6; rw [HGH.out, HH8.out] at hcell6; rw [HGH.out, HH8.out] at hsees6; subst hv6))
       | (go_at_call 17; go_must (refine (asks_as (s := st) (head := hd) (HXr.out w6 hb6) hlt (by have := qBx HU6.out; exact this) h8 HRT.out (fun _ => ⟨by have := hsees6; exact this, HH8.out⟩) HEE).mono ?_); rintro e w7 ⟨rfl, hb7⟩; go_must (have HG7 : Hid (Ss W.heap.size w7 (.slice (some ⟨g6, 0, none⟩) (q + 1) c6) (K ++ [st]) /\ Below W.heap.size W w7) := ⟨HS6.out.below hb7 (Nat.le_refl _), hb6.trans (hb7.mono hz6)⟩; clear hb7)))
      go_ret3
      exact .inl ⟨q, E, run_stop HRK.out (by rw [HST.out]; exact HER.out) hE hlt, rfl, HBW.out.trans (HG7.out.2.mono (by omega))⟩
    ·have h20I : (op == 20) = false := by simpa using h20
     clear HHead
     by_cases hE : E = 0
     ·subst hE
      go_wp2_with (first
       | (go_at_call 16; go_must (refine (at_some _ cb co ccap xs q _ K nm W.heap.size _ HX3.out ⟨vs, hSW⟩ HT.out hlt (by omega) HF.out.each HF.out.cm hne).mono ?_); rintro e w4 ⟨u, rfl, hu4, hb4⟩; go_must (rw [<- HA.out, HST.out] at hu4; have hSW4 := hSW.below hb4 (Nat.le_refl _); have hbW4 : Below W.heap.size W w4 := hb3.trans (hb4.mono hz3); have hz4 := hbW4.size; have hu5 : w4.ownsRow W.heap.size 46 4 u st.length (flatT st) := (by rw [h8]; exact qAu hu4 hz3); obtain ⟨ug, uc, rfl, hug, huc, hum⟩ := qBp hu4; clear hu4 hb4))
       | (at_builtin; go_must (refine wpList_append_own _ rfl (.tmp 37) (.tmp 39) 31 rfl W.heap.size 57 i0 (.slice none 0 0) 1 24 Tryz.underlying31 hi hz0 hz1 hz2i rfl (by decide) _ _ _ rfl (hSW4.row.alloc _) ⟨_, 0, none⟩ 1 1 [.slice (some ⟨ug, 0, none⟩) 8 uc] rfl rfl (one_lit _ _ (by first | rfl | (simp; done)) _ _) (one_sl _ _ _ _ rfl) (by unfold maxLen; omega) (by omega) (by first | omega | (simp; done) | (simp; omega)) ?_); intro v6 w6 hown6 hg6 _; go_must (have hSW6 := hSW4.push hu5 hown6 hg6; have HU6 := keepJ hSW6.last; have HS6 : Hid (Ss W.heap.size w6 v6 (K ++ [st])) := ⟨_, hSW6⟩; have hb6 : Below W.heap.size W w6 := (hbW4.alloc hz4 _).grown hg6 (by first | omega | (simp; done) | (simp; omega)) (fun j hj => (hSW4.row.lt j hj).1); clear m0 m1; obtain ⟨m0, m1⟩ := HMr.out w6 hb6; obtain ⟨hat, hcb, hcc⟩ := codeAt (HXr.out w6 hb6) hlt; rw [HI.out] at hat; obtain ⟨c0, c1, c2, c3, c4⟩ := hat; simp only at c0 c1 c2 c3 c4; have hz6 := hb6.size; clear hown6 hg6 hSW4 hu5 hSW6))
       | (go_at_call 17; go_must (refine (asks_as (s := st) (head := hd) (HXr.out w6 hb6) hlt (by have := qBx HU6.out; exact this) h8 HRT.out (fun h => absurd (by rw [HI.out] at h; exact h) h20) HEE).mono ?_); rintro e w7 ⟨rfl, hb7⟩; go_must (have HG7 : Hid (Ss W.heap.size w7 v6 (K ++ [st]) /\ Below W.heap.size W w7) := ⟨HS6.out.below hb7 (Nat.le_refl _), hb6.trans (hb7.mono hz6)⟩; clear hb7)))
      go_roundw
      case rel => exact ⟨q + 1, K ++ [st], by omega, by go_num, by have := run_next HRK.out (by rw [HST.out]; exact HER.out); rw [HST.out] at this; exact this, HG7.out.1, HG7.out.2⟩
      case measure => simp [intOf]; omega
     ·have hEI : (E != 0) = true := by simpa using hE
      go_wp2_with (first
       | (go_at_call 16; go_must (refine (at_some _ cb co ccap xs q _ K nm W.heap.size _ HX3.out ⟨vs, hSW⟩ HT.out hlt (by omega) HF.out.each HF.out.cm hne).mono ?_); rintro e w4 ⟨u, rfl, hu4, hb4⟩; go_must (rw [<- HA.out, HST.out] at hu4; have hSW4 := hSW.below hb4 (Nat.le_refl _); have hbW4 : Below W.heap.size W w4 := hb3.trans (hb4.mono hz3); have hz4 := hbW4.size; have hu5 : w4.ownsRow W.heap.size 46 4 u st.length (flatT st) := (by rw [h8]; exact qAu hu4 hz3); obtain ⟨ug, uc, rfl, hug, huc, hum⟩ := qBp hu4; clear hu4 hb4))
       | (at_builtin; go_must (refine wpList_append_own _ rfl (.tmp 37) (.tmp 39) 31 rfl W.heap.size 57 i0 (.slice none 0 0) 1 24 Tryz.underlying31 hi hz0 hz1 hz2i rfl (by decide) _ _ _ rfl (hSW4.row.alloc _) ⟨_, 0, none⟩ 1 1 [.slice (some ⟨ug, 0, none⟩) 8 uc] rfl rfl (one_lit _ _ (by first | rfl | (simp; done)) _ _) (one_sl _ _ _ _ rfl) (by unfold maxLen; omega) (by omega) (by first | omega | (simp; done) | (simp; omega)) ?_); intro v6 w6 hown6 hg6 _; go_must (have hSW6 := hSW4.push hu5 hown6 hg6; have HU6 := keepJ hSW6.last; have HS6 : Hid (Ss W.heap.size w6 v6 (K ++ [st])) := ⟨_, hSW6⟩; have hb6 : Below W.heap.size W w6 := (hbW4.alloc hz4 _).grown hg6 (by first | omega | (simp; done) | (simp; omega)) (fun j hj => (hSW4.row.lt j hj).1); clear m0 m1; obtain ⟨m0, m1⟩ := HMr.out w6 hb6; obtain ⟨hat, hcb, hcc⟩ := codeAt (HXr.out w6 hb6) hlt; rw [HI.out] at hat; obtain ⟨c0, c1, c2, c3, c4⟩ := hat; simp only at c0 c1 c2 c3 c4; have hz6 := hb6.size; clear hown6 hg6 hSW4 hu5 hSW6))
       | (go_at_call 17; go_must (refine (asks_as (s := st) (head := hd) (HXr.out w6 hb6) hlt (by have := qBx HU6.out; exact this) h8 HRT.out (fun h => absurd (by rw [HI.out] at h; exact h) h20) HEE).mono ?_); rintro e w7 ⟨rfl, hb7⟩; go_must (have HG7 : Hid (Ss W.heap.size w7 v6 (K ++ [st]) /\ Below W.heap.size W w7) := ⟨HS6.out.below hb7 (Nat.le_refl _), hb6.trans (hb7.mono hz6)⟩; clear hb7)))
      go_ret3
      exact .inl ⟨q, E, run_stop HRK.out (by rw [HST.out]; exact HER.out) hE hlt, rfl, HBW.out.trans (HG7.out.2.mono (by omega))⟩
  ·have hltI : ¬ (q : Int) < xs.length := by omega
   have HE : Hid (q = xs.length) := by show _ = _; omega
   go_wp2
   go_ret3
   have h1 := HG.out.1
   rw [HE.out] at h1
   exact .inr ⟨K, h1, u7, rfl, HG.out.2.1.base (b := w.heap.size) (by omega), HBW.out.trans (hb3.mono (by omega))⟩
set_option maxHeartbeats 1600000 in
theorem all_maps (vm vc : Value) (ms : List Int) (w : World) (hm : Sees .i64 w vm ms) (hmf : Hid (mapsJ ms = false)) :
  Calls Tryz.prog 8 #[.agg #[vm, vc]] w fun e w' => e = .returned (.tuple #[stN, .int .i64 0, .int .i64 2]) /\ Below w.heap.size w w' := by
 have HM := keepJ hm
 obtain ⟨ma, mcap, rfl⟩ : ∃ a c, vm = .slice a ms.length c := by obtain ⟨a, c, h, _⟩ := hm; exact ⟨a, c, h⟩
 go_enter Tryz.func8, Tryz.ntmps8
 go_wp2_with (go_at_call 14; go_must (refine (rmaps_any _ ms _ (HM.out.below ((Below.refl _ _).alloc (Nat.le_refl _) _) (Nat.le_refl _)) hmf).mono ?_); rintro e w' ⟨rfl, hb⟩; go_must (have hB := qAl hb; clear hb))
 go_ret3
 exact ⟨rfl, hB⟩
set_option maxHeartbeats 1600000 in
theorem all_flow (vm : Value) (ms : List Int) (vc : Value) (xs : List In) (w : World) (hm : Sees .i64 w vm ms) (hx : SeesI w vc xs) (hmf : Hid (mapsJ ms = true)) {P E : Int} (hP : Hid (checkL xs = (P, E))) (hE0 : E ≠ 0) :
  Calls Tryz.prog 8 #[.agg #[vm, vc]] w fun e w' => e = .returned (.tuple #[stN, .int .i64 P, .int .i64 E]) /\ Below w.heap.size w w' := by
 have HM := keepJ hm
 have HX := keepJ hx
 obtain ⟨ma, mcap, rfl⟩ : ∃ a c, vm = .slice a ms.length c := by obtain ⟨a, c, h, _⟩ := hm; exact ⟨a, c, h⟩
 obtain ⟨ca, ccap, rfl⟩ : ∃ a c, vc = .slice a xs.length c := by obtain ⟨a, c, h, _⟩ := hx; exact ⟨a, c, h⟩
 have hEI : (E != 0) = true := by simpa using hE0
 obtain ⟨W, HW, HBW, hWz⟩ : ∃ W, Hid (W = w.alloc (Obj.cells #[.slice ma ms.length mcap, .slice ca xs.length ccap] 25)) /\ Hid (Below w.heap.size w W) /\ W.heap.size = w.heap.size + 1 :=
  ⟨_, rfl, keepJ (by go_grown), by simp⟩
 have HMr : Hid (W.cell? ⟨w.heap.size, 1, none⟩ = some (.slice ca xs.length ccap)) := by
  rw [HW.out]; show _ = _; go_cell
 clear hm hx
 go_enter Tryz.func8, Tryz.ntmps8
 go_wp2_with (first
  | (go_at_call 14; rw [<- HW.out]; go_must (refine (rmaps_any _ ms _ (HM.out.below HBW.out (Nat.le_refl _)) hmf).mono ?_); rintro e w1 ⟨rfl, hb1⟩; go_must (have m1 := (hb1.cell (p := ⟨w.heap.size, 1, none⟩) (show w.heap.size < W.heap.size by omega)).trans HMr.out; have hz1 := hb1.size; have HX1 := keepJ ((HX.out.below HBW.out).below hb1)))
  | (go_at_call 15; go_must (refine (rcheck_any _ xs _ HX1.out hP).mono ?_); rintro e w2 ⟨rfl, hb2⟩; go_must (have hB2 : Below W.heap.size W w2 := hb1.trans (hb2.mono hz1); clear hb1 hb2 m1)))
 go_ret3
 exact ⟨rfl, HBW.out.trans (hB2.mono (by omega))⟩
theorem rall_any (vm : Value) (ms : List Int) (vc : Value) (xs : List In) (w : World) (hm : Sees .i64 w vm ms) (hx : SeesI w vc xs) :
  Calls Tryz.prog 8 #[.agg #[vm, vc]] w fun e w' => ∃ u, e = .returned (.tuple #[u, .int .i64 (allJ ms xs).2.1, .int .i64 (allJ ms xs).2.2]) /\ Ss w.heap.size w' u (allJ ms xs).1 /\ Below w.heap.size w w' := by
 unfold allJ
 cases hmf : mapsJ ms with
 | false =>
  refine (all_maps vm vc ms w hm hmf).mono ?_
  rintro e w' ⟨rfl, hb⟩
  exact ⟨stN, by simp, by simpa using Ss.nil _ _, hb⟩
 | true =>
  rw [if_neg (by simp)]
  by_cases hE : (checkL xs).2 = 0
  ·rw [if_neg (by simpa using hE)]
   have hT : Taken xs := check_ok.1 hE
   obtain ⟨a, cap, hv, h1, h2, h3, h4⟩ := id hx
   obtain ⟨b, off, rfl, hlt, hat⟩ := h4 (fun e => by have := hT.pos; rw [e] at this; simp at this)
   subst hv
   obtain ⟨ma, mcap, rfl⟩ : ∃ a c, vm = .slice a ms.length c := by obtain ⟨a, c, h, _⟩ := hm; exact ⟨a, c, h⟩
   refine (all_run ma mcap ms b off cap xs w hm hx hmf hT).mono ?_
   rintro e w' (⟨q, E, hr, rfl, hb⟩ | ⟨K, hr, u, rfl, hs, hb⟩)
   ·rw [hr]; exact ⟨stN, rfl, Ss.nil _ _, hb⟩
   ·rw [hr]; exact ⟨u, rfl, hs, hb⟩
  ·rw [if_pos hE]
   refine (all_flow vm ms vc xs w hm hx hmf (P := (checkL xs).1) (E := (checkL xs).2) rfl hE).mono ?_
   rintro e w' ⟨rfl, hb⟩
   exact ⟨stN, rfl, Ss.nil _ _, hb⟩
theorem judge_all (ms : List Int) (xs : List In) : judgeR ms xs = (allJ ms xs).2 := by
 unfold judgeR inqR allJ
 by_cases hmf : mapsJ ms = false
 ·rw [if_pos hmf, if_pos hmf]
 ·rw [if_neg hmf, if_neg hmf]
  by_cases hE : (checkL xs).2 = 0
  ·rw [if_neg (show ¬ errL xs ≠ 0 from fun h => h hE), if_neg (show ¬ (checkL xs).2 ≠ 0 from fun h => h hE)]
   rcases pull_run (nm := ms.length) (check_ok.1 hE) xs.length (Nat.le_refl _) with ⟨e, h1, h2⟩ | ⟨K', known, h1, h2, hP⟩
   ·rw [h1, h2]
   ·rw [h1, h2]
  ·rw [if_pos (show errL xs ≠ 0 from hE), if_pos (show (checkL xs).2 ≠ 0 from hE)]
   rfl
end Go.Proofs.YtkcofelpndlplaaGreat
