/-
  RComes
  RComesA
  RAtA
-/
import Derived.Test.YtkcofelpndlplaaGreatMT43
import Derived.Test.YtkcofelpndlplaaGreatMT11
import Derived.Test.YtkcofelpndlplaaGreatMT31
import Derived.Test.YtkcofelpndlplaaGreatMT5
import Derived.Deep.CutRange
import Derived.Deep.RegionHeld3
namespace Go.Proofs.YtkcofelpndlplaaGreat
open Go.RowKit
set_option linter.unusedVariables false
set_option linter.unusedSimpArgs false
set_option maxRecDepth 100000
theorem Ss.at {B : Nat} {w : World} {g c : Nat} {S : List St} (h : Ss B w (.slice (some ⟨g, 0, none⟩) S.length c) S) {i : Nat} (hi : i < S.length) : ∃ a ca, w.cell? ⟨g, i, none⟩ = some (.slice a (S.getD i []).length ca) /\ SeesT w (.slice a (S.getD i []).length ca) (S.getD i []) /\ w.ownsRow B 46 4 (.slice a (S.getD i []).length ca) (S.getD i []).length (flatT (S.getD i [])) := by
 obtain ⟨g', c', a, ca, hv, _, _, h1, h2, h3⟩ := h.get hi
 injection hv with e1 e2 e3
 injection e1 with e1
 injection e1 with e1
 subst e1
 exact ⟨a, ca, h1, h2, h3⟩
theorem goesd_as {i : In} {f : Int} {l o : Bool} (hf : Hid (f = i.far)) (hl : Hid (l = i.leads)) (ho : Hid (o = i.on)) (w : World) : Calls Tryz.prog 27 #[instV i.op i.d i.a i.b i.imm] w fun e w' => e = .returned (.tuple #[.int .i64 f, .bool l, .bool o]) /\ Below w.heap.size w w' := by
 rw [hf.out, hl.out, ho.out]; exact goes_any i.op i.d i.a i.b i.imm w
theorem made_w64 {nm : Nat} {s : St} (h : Made8 nm s) : ∀ t ∈ s, W64 t.lo /\ W64 t.hi := fun t ht => (h.2 t ht).ends
theorem comes_len (xs : List In) (K : List St) (p : Nat) : ∀ n, (comesU xs K p n).length <= 2 * n + 1
 | 0 => by unfold comesU; split <;> simp
 | n + 1 => by
  have e : comesU xs K p (n + 1) = comesU xs K p n ++ stepC xs K p n := by
   unfold comesU
   rw [List.range_succ, List.flatMap_append, List.append_assoc]
   simp
  have h1 := comes_len xs K p n
  have h2 : (stepC xs K p n).length <= 2 := by
   unfold stepC
   split
   ·simp
   ·rw [List.length_append]
    have : ∀ (c : Bool) (o : Option St), (if c = true then o.toList else []).length <= 1 := fun c o => by cases c <;> cases o <;> simp
    have a1 := this ((nth xs n).leads && decide ((n : Int) + (nth xs n).far = p)) (leavesJ (nth xs n) (K.getD n []) true)
    have a2 := this ((nth xs n).on && decide (n + 1 = p)) (leavesJ (nth xs n) (K.getD n []) false)
    omega
  rw [e, List.length_append]
  omega
theorem leaves_at {vm : Value} {cb co ccap : Nat} {xs : List In} {p : Nat} {vs : Value} {s : St} {nm : Nat} (holds : Bool) {w : World} {o : Option St} (hc : SeesI w (.slice (some ⟨cb, co, none⟩) xs.length ccap) xs) (hT : Taken xs) (hp : p < xs.length) (hs : SeesT w vs s) (hm : Made8 nm s) (ho : Hid (leavesJ (nth xs p) s holds = o)) :
  Calls Tryz.prog 65 #[.agg #[vm, .slice (some ⟨cb, co, none⟩) xs.length ccap], .int .i64 p, vs, .bool holds] w (Left9 w o) := by
 rw [<- ho.out]; exact leaves_any vm _ vs xs p s holds w hc hp hs hm.1 (made_w64 hm) (qCf hp (hT.place p hp)).1
theorem codeAt {w : World} {cb co ccap k : Nat} {xs : List In} (h : SeesI w (.slice (some ⟨cb, co, none⟩) xs.length ccap) xs) (hk : k < xs.length) : At w cb (co + k * 5) (nth xs k) /\ cb < w.heap.size /\ xs.length <= ccap := by
 obtain ⟨a, cap, hv, h1, _, _, hcell⟩ := h
 injection hv with e1 e2 e3
 subst e1
 subst e3
 obtain ⟨b, off, e, hb, hat⟩ := hcell (fun e => by rw [e] at hk; simp at hk)
 injection e with e
 injection e with e e'
 subst e
 subst e'
 exact ⟨hat k hk, hb, h1⟩
theorem leaves_len {i : In} {s s' : St} {b : Bool} (h8 : s.length = 8) (h : leavesJ i s b = some s') : s'.length = 8 := by
 unfold leavesJ at h
 repeat' split at h
 all_goals first | (injection h with h; subst h; simpa using h8) | cases h
def Came (W : World) (C : List St) (v : Value) (wc : World) : Prop := Ss W.heap.size wc v C /\ Below W.heap.size W wc
set_option maxHeartbeats 6400000 in
theorem comes_pos (vm : Value) (cb co ccap : Nat) (xs : List In) (p : Nat) (kg kc : Nat) (K : List St) (nm B : Nat) (w : World) (hc : SeesI w (.slice (some ⟨cb, co, none⟩) xs.length ccap) xs) (hk : Ss B w (.slice (some ⟨kg, 0, none⟩) K.length kc) K) (hkg : kg < w.heap.size) (hT : Taken xs) (hp : p < xs.length) (hpk : p <= K.length) (hp0 : 0 < p) (hKm : ∀ s ∈ K, s = [] ∨ Made8 nm s) :
  Calls Tryz.prog 32 #[.agg #[vm, .slice (some ⟨cb, co, none⟩) xs.length ccap], .int .i64 p, .slice (some ⟨kg, 0, none⟩) K.length kc] w fun e w' => ∃ u, e = .returned u /\ Ss w.heap.size w' u (comesU xs K p p) /\ Below w.heap.size w w' := by
 obtain ⟨i0, hi, hz0, hz1, hz2i⟩ := info_parts Tryz.infoSt
 have HC := keepJ hc
 have HK := keepJ hk
 have HT := keepJ hT
 have HKm := keepJ hKm
 have h64 : xs.length <= 64 := hT.top
 have hpI : ((p : Int) == 0) = false := by simp; omega
 obtain ⟨W, HW, HBW, hWz⟩ : ∃ W, Hid (W = w.alloc (Obj.cells #[vm, .slice (some ⟨cb, co, none⟩) xs.length ccap] 25)) /\ Hid (Below w.heap.size w W) /\ W.heap.size = w.heap.size + 1 :=
  ⟨_, rfl, keepJ (by go_grown), by simp⟩
 have HM : Hid (W.cell? ⟨w.heap.size, 0, none⟩ = some vm /\ W.cell? ⟨w.heap.size, 1, none⟩ = some (.slice (some ⟨cb, co, none⟩) xs.length ccap)) := by
  rw [HW.out]; exact ⟨by go_cell, by go_cell⟩
 clear hc hk hT hKm
 go_enter Tryz.func32, Tryz.ntmps32
 go_wp2
 go_loopw [7, 8] (fun v7 v8 wr => ∃ q : Nat, q <= p /\ v8 = .int .i64 q /\ Hid (Came W (comesU xs K p q) v7 wr)) (fun _ v8 _ => p - (intOf v8).toNat)
 case atStart =>
  refine ⟨0, Nat.zero_le _, rfl, ?_, ?_⟩
  ·rw [show comesU xs K p 0 = [] by unfold comesU; rw [if_neg (by omega)]; rfl]; exact Ss.nil _ _
  ·rw [HW.out]; exact Below.refl _ _
 case round =>
  rename World => w0
  obtain ⟨q, hq, rfl, HR⟩ := hrel
  have hzr := HR.out.2.size
  have HMr : Hid (∀ wx, Below W.heap.size W wx -> wx.cell? ⟨w.heap.size, 0, none⟩ = some vm /\ wx.cell? ⟨w.heap.size, 1, none⟩ = some (.slice (some ⟨cb, co, none⟩) xs.length ccap)) := fun wx hb =>
   ⟨(hb.cell (p := ⟨w.heap.size, 0, none⟩) (show w.heap.size < W.heap.size by omega)).trans HM.out.1, (hb.cell (p := ⟨w.heap.size, 1, none⟩) (show w.heap.size < W.heap.size by omega)).trans HM.out.2⟩
  by_cases hlt : q < p
  ·have hltI : (q : Int) < p := by omega
   have hqx : q < xs.length := by omega
   have hb0 : Below w.heap.size w w0 := HBW.out.trans (HR.out.2.mono (by omega))
   obtain ⟨s, HS⟩ : ∃ s, Hid (K.getD q [] = s) := ⟨_, rfl⟩
   obtain ⟨ua, uc, ku, hsees, _⟩ := HK.out.at (i := q) (by omega)
   rw [HS.out] at ku hsees
   rw [<- hb0.cell (p := ⟨kg, q, none⟩) hkg] at ku
   have hqk : (q : Int) < K.length := by omega
   by_cases hs0 : s.length = 0
   ·have hs0I : ((s.length : Int) == 0) = true := by simp [hs0]
    have HE : Hid (comesU xs K p (q + 1) = comesU xs K p q) := by
     show _ = _
     rw [show comesU xs K p (q + 1) = comesU xs K p q ++ stepC xs K p q by unfold comesU; rw [List.range_succ, List.flatMap_append, List.append_assoc]; simp]
     unfold stepC
     rw [HS.out, if_pos hs0, List.append_nil]
    go_wp2
    go_roundw
    case rel => exact ⟨q + 1, by omega, by go_num, by show Came _ _ _ _; rw [HE.out]; exact HR.out⟩
    case measure => simp [intOf]; omega
   ·have hmS : Made8 nm s := by
     have hmem : K.getD q [] ∈ K := by
      rw [List.getD_eq_getElem?_getD, List.getElem?_eq_getElem (by omega)]
      exact List.getElem_mem _
     rcases HKm.out _ hmem with h | h
     ·rw [HS.out] at h; rw [h] at hs0; exact absurd rfl hs0
     ·rw [HS.out] at h; exact h
    have h8 := hmS.1
    rw [h8] at ku hsees
    have KU : Hid (w.cell? ⟨kg, q, none⟩ = some (.slice ua 8 uc)) := by rw [<- hb0.cell (p := ⟨kg, q, none⟩) hkg]; exact ku
    have HSw := keepJ hsees
    have HSS := keepJ (hsees.below hb0)
    have HmS := keepJ hmS
    obtain ⟨hat, hcb, hcc⟩ := codeAt (HC.out.below hb0) hqx
    obtain ⟨⟨op, d, a, b, imm⟩, HI⟩ : ∃ i, Hid (nth xs q = i) := ⟨_, rfl⟩
    rw [HI.out] at hat
    obtain ⟨c0, c1, c2, c3, c4⟩ := hat
    simp only at c0 c1 c2 c3 c4
    obtain ⟨f, HF⟩ : ∃ f, Hid (f = In.far ⟨op, d, a, b, imm⟩) := ⟨_, rfl⟩
    obtain ⟨l, HL⟩ : ∃ l, Hid (l = In.leads ⟨op, d, a, b, imm⟩) := ⟨_, rfl⟩
    obtain ⟨o, HO⟩ : ∃ o, Hid (o = In.on ⟨op, d, a, b, imm⟩) := ⟨_, rfl⟩
    have hfb : -64 <= f /\ f <= 64 := by
     rw [HF.out]
     have hpl := qCf hqx (HT.out.place q hqx)
     rw [HI.out] at hpl
     omega
    obtain ⟨hfb1, hfb2⟩ := hfb
    obtain ⟨A, HA⟩ : ∃ A, Hid (A = (l && decide ((q : Int) + f = p))) := ⟨_, rfl⟩
    obtain ⟨D, HD⟩ : ∃ D, Hid (D = (o && decide (q + 1 = p))) := ⟨_, rfl⟩
    obtain ⟨o1, HO1⟩ : ∃ o1, Hid (leavesJ (nth xs q) s true = o1) := ⟨_, rfl⟩
    obtain ⟨o2, HO2⟩ : ∃ o2, Hid (leavesJ (nth xs q) s false = o2) := ⟨_, rfl⟩
    have HE : Hid (comesU xs K p (q + 1) = comesU xs K p q ++ (if A = true then o1.toList else []) ++ (if D = true then o2.toList else [])) := by
     show _ = _
     rw [show comesU xs K p (q + 1) = comesU xs K p q ++ stepC xs K p q by unfold comesU; rw [List.range_succ, List.flatMap_append, List.append_assoc]; simp]
     unfold stepC
     rw [HS.out, if_neg hs0, HO1.out, HO2.out, HA.out, HD.out, HL.out, HO.out, HF.out, HI.out, List.append_assoc]
    have hql : (q : Int) < xs.length := by omega
    have HLEN : Hid ((comesU xs K p q).length + (if A = true then o1.toList else []).length <= 200) := by
     have h1 := comes_len xs K p (q + 1)
     rw [HE.out, List.length_append, List.length_append] at h1
     show _ <= _
     omega
    have hxI : (xs.length : Int) <= 64 := by omega
    obtain ⟨m0, m1⟩ := HMr.out w0 HR.out.2
    go_upto_region 9 with (go_at_call 27; go_must (refine (goesd_as (i := ⟨op, d, a, b, imm⟩) HF HL HO _).mono ?_); rintro e w1 ⟨rfl, hb1⟩; go_must (have hzg := hb1.size; have HR1 : Hid (Came W (comesU xs K p q) u7 w1) := ⟨HR.out.1.below hb1 (Nat.le_refl _), HR.out.2.trans (hb1.mono hzr)⟩))
    go_cut [50] from 22 to 87 (fun v50 wc => v50 = .bool A /\ wc = w1)
    case first =>
     cases l with
     | false =>
      go_wp2
      go_meet
      case rel => exact ⟨by rw [HA.out]; rfl, rfl⟩
     | true =>
      by_cases hc : (q : Int) + f = p
      ·go_wp2
       go_meet
       case rel => exact ⟨by rw [HA.out]; simp [hc], rfl⟩
      ·have hcI : ((q : Int) + f == p) = false := by simpa using hc
       go_wp2
       go_meet
       case rel => exact ⟨by rw [HA.out]; simp [hc], rfl⟩
    case rest =>
     obtain ⟨rfl, rfl⟩ := hcut
     clear HR
     have hbW := HR1.out.2
     have hzc := hbW.size
     have hb0c : Below w.heap.size w wc := HBW.out.trans (hbW.mono (by omega))
     have hwS : Hid (wc.cell? ⟨w.heap.size, 0, none⟩ = some vm /\ wc.cell? ⟨w.heap.size, 1, none⟩ = some (.slice (some ⟨cb, co, none⟩) xs.length ccap) /\ wc.cell? ⟨kg, q, none⟩ = some (.slice ua 8 uc)) := ⟨(HMr.out wc hbW).1, (HMr.out wc hbW).2, (hb1.cell (p := ⟨kg, q, none⟩) (show kg < w0.heap.size by omega)).trans ku⟩
     have HSc := keepJ (HSS.out.below hb1)
     have HCc := keepJ (HC.out.below hb0c)
     clear m0 m1 c0 c1 c2 c3 c4 ku
     go_upto_if 50 with fail
     -- WAYS
     go_cut [7, 12, 13] from 22 to 87 (fun v7 v12 v13 wd => Hid (Came W (comesU xs K p q ++ (if A = true then o1.toList else [])) v7 wd) /\ (Hid (wd = wd ∨ True)))
     case first =>
      cases A with
      | false =>
       go_wp2
       go_meet
       case rel => exact ⟨by show Came _ _ _ _; simpa using HR1.out, Or.inr trivial⟩
      | true =>
       go_wp2_with fail
       cases o1 with
       | none =>
        go_region_held3 (fun w' => w'.cell? ⟨w.heap.size, 0, none⟩ = some vm /\ w'.cell? ⟨w.heap.size, 1, none⟩ = some (.slice (some ⟨cb, co, none⟩) xs.length ccap) /\ w'.cell? ⟨kg, q, none⟩ = some (.slice ua 8 uc))
         (first | with_reducible exact hS2 | exact hwS.out)
         (first | (go_at_call 65; go_must (refine (leaves_at (nm := nm) true (w := wc.drew) HCc.out HT.out hqx HSc.out HmS.out HO1).mono ?_); rintro e w2 ⟨hb2', rfl⟩; go_must (have hb2 : Below wc.heap.size wc w2 := qAf hb2'; have hbW2 : Below W.heap.size W w2 := hbW.trans (hb2.mono hbW.size); have hS2 := (⟨(HMr.out w2 hbW2).1, (HMr.out w2 hbW2).2, (hb2.cell (p := ⟨kg, q, none⟩) (show kg < wc.heap.size by omega)).trans hwS.out.2.2⟩ : w2.cell? ⟨w.heap.size, 0, none⟩ = some vm /\ w2.cell? ⟨w.heap.size, 1, none⟩ = some (.slice (some ⟨cb, co, none⟩) xs.length ccap) /\ w2.cell? ⟨kg, q, none⟩ = some (.slice ua 8 uc)); clear hb2')))
        go_wp2
        go_meet
        case rel => exact ⟨by (have h : Came W (comesU xs K p q) u7 w2 := ⟨HR1.out.1.below hb2 (Nat.le_refl _), hbW2⟩); show Came _ _ _ _; simpa using h, Or.inr trivial⟩
       | some s1 =>
        have h18 : s1.length = 8 := leaves_len HmS.out.1 HO1.out
        obtain ⟨vs, hSW⟩ := HR1.out.1
        go_region_held3 (fun w' => w'.cell? ⟨w.heap.size, 0, none⟩ = some vm /\ w'.cell? ⟨w.heap.size, 1, none⟩ = some (.slice (some ⟨cb, co, none⟩) xs.length ccap) /\ w'.cell? ⟨kg, q, none⟩ = some (.slice ua 8 uc))
         (first | with_reducible exact hS2 | exact hwS.out)
         (first | (go_at_call 65; go_must (refine (leaves_at (nm := nm) true (w := wc.drew) HCc.out HT.out hqx HSc.out HmS.out HO1).mono ?_); rintro e w2 ⟨hb2', u1, rfl, hown2⟩; go_must (have hb2 : Below wc.heap.size wc w2 := qAf hb2'; have hbW2 : Below W.heap.size W w2 := hbW.trans (hb2.mono hbW.size); have hS2 := (⟨(HMr.out w2 hbW2).1, (HMr.out w2 hbW2).2, (hb2.cell (p := ⟨kg, q, none⟩) (show kg < wc.heap.size by omega)).trans hwS.out.2.2⟩ : w2.cell? ⟨w.heap.size, 0, none⟩ = some vm /\ w2.cell? ⟨w.heap.size, 1, none⟩ = some (.slice (some ⟨cb, co, none⟩) xs.length ccap) /\ w2.cell? ⟨kg, q, none⟩ = some (.slice ua 8 uc)); have hSW2 := hSW.below hb2 (Nat.le_refl _); (have hown2b : w2.ownsRow W.heap.size 46 4 u1 s1.length (flatT s1) := (by rw [h18]; exact qAu hown2 hbW.size)); (have hz2 := hbW2.size); obtain ⟨a8, c8, rfl⟩ := qCj hown2; clear hb2' hown2)))
        go_wp2_with (at_builtin; go_must (refine wpList_append_own _ rfl (.tmp 62) (.tmp 64) 31 rfl W.heap.size 57 i0 (.slice none 0 0) 1 24 Tryz.underlying31 hi hz0 hz1 hz2i rfl (by decide) _ _ _ rfl (hSW2.row.alloc _) ⟨_, 0, none⟩ 1 1 [.slice a8 8 c8] rfl rfl (one_lit _ _ (by first | rfl | (simp; done)) _ _) (one_sl _ a8 8 c8 rfl) (by have := HLEN.out; unfold maxLen; (try simp only [List.length_append]); omega) (by have := HLEN.out; (try simp only [List.length_append]); omega) (by first | omega | (simp; done) | (simp; omega)) ?_); intro v6 w6 hown6 hg6 _; go_must (have HF6 : Hid (Came W (comesU xs K p q ++ [s1]) v6 w6) := ⟨⟨_, hSW2.push hown2b hown6 hg6⟩, (hbW2.alloc hz2 _).grown hg6 (by first | omega | (simp; done) | (simp; omega)) (fun j hj => (hSW2.row.lt j hj).1)⟩; clear hown6 hg6))
        go_meet
        case rel => exact ⟨HF6.out, Or.inr trivial⟩
     case rest =>
      rename World => wd
      obtain ⟨HR2, _⟩ := hcut
      clear HR1 hwS HSc HCc hbW hb0c hb1 hzc HSS
      have hbD := HR2.out.2
      have hzd := hbD.size
      have hb0d : Below w.heap.size w wd := HBW.out.trans (hbD.mono (by omega))
      have hwD : Hid (wd.cell? ⟨w.heap.size, 0, none⟩ = some vm /\ wd.cell? ⟨w.heap.size, 1, none⟩ = some (.slice (some ⟨cb, co, none⟩) xs.length ccap) /\ wd.cell? ⟨kg, q, none⟩ = some (.slice ua 8 uc)) := ⟨(HMr.out wd hbD).1, (HMr.out wd hbD).2, (hb0d.cell (p := ⟨kg, q, none⟩) hkg).trans KU.out⟩
      have HSd := keepJ (HSw.out.below hb0d)
      have HCd := keepJ (HC.out.below hb0d)
      go_upto_region 13 with fail
      go_cut [72] from 22 to 87 (fun v72 we => v72 = .bool D /\ we = wd)
      case first =>
       cases o with
       | false =>
        go_wp2
        go_meet
        case rel => exact ⟨by rw [HD.out]; rfl, rfl⟩
       | true =>
        by_cases hc : q + 1 = p
        ·have hcI : ((q : Int) + 1 == p) = true := by simp; omega
         go_wp2
         go_meet
         case rel => exact ⟨by rw [HD.out]; simp [hc], rfl⟩
        ·have hcI : ((q : Int) + 1 == p) = false := by simp; omega
         go_wp2
         go_meet
         case rel => exact ⟨by rw [HD.out]; simp [hc], rfl⟩
      case rest =>
      obtain ⟨rfl, rfl⟩ := hcut
      rename World => wd
      cases D with
      | false =>
       go_wp2
       go_roundw
       case rel =>
        first | (refine ⟨q + 1, by omega, by go_num, ?_⟩) | ((repeat apply Exists.intro); refine ⟨⟨q + 1, by omega, by go_num, ?_⟩, rfl⟩)
        have h := HR2.out
        show Came _ _ _ _
        rw [HE.out]
        simpa using h
       case measure => simp [intOf]; omega
      | true =>
       go_wp2_with fail
       cases o2 with
       | none =>
        go_region_held3 (fun w' => w'.cell? ⟨w.heap.size, 0, none⟩ = some vm /\ w'.cell? ⟨w.heap.size, 1, none⟩ = some (.slice (some ⟨cb, co, none⟩) xs.length ccap) /\ w'.cell? ⟨kg, q, none⟩ = some (.slice ua 8 uc))
         (first | with_reducible exact hS2 | exact hwD.out)
         (first | (go_at_call 65; go_must (refine (leaves_at (nm := nm) false (w := wd.drew) HCd.out HT.out hqx HSd.out HmS.out HO2).mono ?_); rintro e w3 ⟨hb2', rfl⟩; go_must (have hb2 : Below wd.heap.size wd w3 := qAf hb2'; have hbW2 : Below W.heap.size W w3 := hbD.trans (hb2.mono hbD.size); have hS2 := (⟨(HMr.out w3 hbW2).1, (HMr.out w3 hbW2).2, (hb2.cell (p := ⟨kg, q, none⟩) (show kg < wd.heap.size by omega)).trans hwD.out.2.2⟩ : w3.cell? ⟨w.heap.size, 0, none⟩ = some vm /\ w3.cell? ⟨w.heap.size, 1, none⟩ = some (.slice (some ⟨cb, co, none⟩) xs.length ccap) /\ w3.cell? ⟨kg, q, none⟩ = some (.slice ua 8 uc)); clear hb2')))
        go_wp2
        go_roundw
        case rel =>
         first | (refine ⟨q + 1, by omega, by go_num, ?_⟩) | ((repeat apply Exists.intro); refine ⟨⟨q + 1, by omega, by go_num, ?_⟩, rfl⟩)
         (have h : Came W (comesU xs K p q ++ (if A = true then o1.toList else [])) _ w3 := ⟨HR2.out.1.below hb2 (Nat.le_refl _), hbW2⟩); show Came _ _ _ _; rw [HE.out]; simpa using h
        case measure => simp [intOf]; omega
       | some s1 =>
        have h18 : s1.length = 8 := leaves_len HmS.out.1 HO2.out
        obtain ⟨vs, hSW⟩ := HR2.out.1
        go_region_held3 (fun w' => w'.cell? ⟨w.heap.size, 0, none⟩ = some vm /\ w'.cell? ⟨w.heap.size, 1, none⟩ = some (.slice (some ⟨cb, co, none⟩) xs.length ccap) /\ w'.cell? ⟨kg, q, none⟩ = some (.slice ua 8 uc))
         (first | with_reducible exact hS2 | exact hwD.out)
         (first | (go_at_call 65; go_must (refine (leaves_at (nm := nm) false (w := wd.drew) HCd.out HT.out hqx HSd.out HmS.out HO2).mono ?_); rintro e w3 ⟨hb2', u1, rfl, hown2⟩; go_must (have hb2 : Below wd.heap.size wd w3 := qAf hb2'; have hbW2 : Below W.heap.size W w3 := hbD.trans (hb2.mono hbD.size); have hS2 := (⟨(HMr.out w3 hbW2).1, (HMr.out w3 hbW2).2, (hb2.cell (p := ⟨kg, q, none⟩) (show kg < wd.heap.size by omega)).trans hwD.out.2.2⟩ : w3.cell? ⟨w.heap.size, 0, none⟩ = some vm /\ w3.cell? ⟨w.heap.size, 1, none⟩ = some (.slice (some ⟨cb, co, none⟩) xs.length ccap) /\ w3.cell? ⟨kg, q, none⟩ = some (.slice ua 8 uc)); have hSW2 := hSW.below hb2 (Nat.le_refl _); (have hown2b : w3.ownsRow W.heap.size 46 4 u1 s1.length (flatT s1) := (by rw [h18]; exact qAu hown2 hbD.size)); (have hz2 := hbW2.size); obtain ⟨a8, c8, rfl⟩ := qCj hown2; clear hb2' hown2)))
        go_wp2_with (at_builtin; go_must (refine wpList_append_own _ rfl (.tmp 84) (.tmp 86) 31 rfl W.heap.size 57 i0 (.slice none 0 0) 1 24 Tryz.underlying31 hi hz0 hz1 hz2i rfl (by decide) _ _ _ rfl (hSW2.row.alloc _) ⟨_, 0, none⟩ 1 1 [.slice a8 8 c8] rfl rfl (one_lit _ _ (by first | rfl | (simp; done)) _ _) (one_sl _ a8 8 c8 rfl) (by have := HLEN.out; unfold maxLen; (try simp only [List.length_append]); omega) (by have := HLEN.out; (try simp only [List.length_append]); omega) (by first | omega | (simp; done) | (simp; omega)) ?_); intro v6 w6 hown6 hg6 _; go_must (have HF6 : Hid (Came W ((comesU xs K p q ++ (if A = true then o1.toList else [])) ++ [s1]) v6 w6) := ⟨⟨_, hSW2.push hown2b hown6 hg6⟩, (hbW2.alloc hz2 _).grown hg6 (by first | omega | (simp; done) | (simp; omega)) (fun j hj => (hSW2.row.lt j hj).1)⟩; clear hown6 hg6))
        go_roundw
        case rel =>
         first | (refine ⟨q + 1, by omega, by go_num, ?_⟩) | ((repeat apply Exists.intro); refine ⟨⟨q + 1, by omega, by go_num, ?_⟩, rfl⟩)
         show Came _ _ _ _; rw [HE.out]; exact HF6.out
        case measure => simp [intOf]; omega
     -- ENDWAYS
  ·have hge : ¬ (q : Int) < p := by omega
   have HE : Hid (q = p) := by show _ = _; omega
   go_wp2
   go_ret
   exact ⟨u7, rfl, by have h1 := HR.out.1.base (b := w.heap.size) (by omega); rw [HE.out] at h1; exact h1, HBW.out.trans (HR.out.2.mono (by omega))⟩
set_option maxHeartbeats 1600000 in
theorem comes_zero (vm vc vk : Value) (w : World) :
  Calls Tryz.prog 32 #[.agg #[vm, vc], .int .i64 0, vk] w fun e w' => ∃ u, e = .returned u /\ Ss w.heap.size w' u [List.replicate 8 Ty.nil] /\ Below w.heap.size w w' := by
 obtain ⟨i0, hi, hz0, hz1, hz2i⟩ := info_parts Tryz.infoSt
 obtain ⟨CS, HCS⟩ : ∃ CS, Hid (CS = (flatT (List.replicate 8 Ty.nil)).toArray) := ⟨_, rfl⟩
 have hmk : ∀ wx : World, (Instr.makeSlice 57 (.int .i64 8) (.int .i64 8)).run Tryz.prog wx = .ok (.slice (some ⟨wx.heap.size, 0, none⟩) 8 8) (wx.alloc (.cells CS 46)) := fun wx => by rw [HCS.out]; exact run_make8 wx
 obtain ⟨Y, HY, HOY, hbY, hzY⟩ : ∃ Y, Hid (Y = (w.alloc (Obj.cells #[vm, vc] 25)).alloc (.cells CS 46)) /\ Hid (Y.ownsRow w.heap.size 46 4 (.slice (some ⟨w.heap.size + 1, 0, none⟩) 8 8) (List.replicate 8 Ty.nil).length (flatT (List.replicate 8 Ty.nil))) /\ Below w.heap.size w Y /\ Y.heap.size = w.heap.size + 2 :=
  ⟨_, rfl, by rw [HCS.out]; exact (show (w.alloc (Obj.cells #[vm, vc] 25)).heap.size = w.heap.size + 1 by simp) ▸ own8 (w.alloc (Obj.cells #[vm, vc] 25)) w.heap.size (by simp) (flatT (List.replicate 8 Ty.nil)) (by decide), by go_grown, by simp⟩
 have hSW : SsW w.heap.size Y stN [] [] := ⟨rfl, World.ownsRow_nil _ _ _ _, fun i hi => by simp at hi⟩
 go_enter Tryz.func32, Tryz.ntmps32
 go_wp2_with (at_builtin; rw [<- HY.out]; go_must (refine wpList_append_own _ rfl (.tmp 18) (.tmp 20) 31 rfl w.heap.size 57 i0 (.slice none 0 0) 1 24 Tryz.underlying31 hi hz0 hz1 hz2i rfl (by decide) _ _ _ rfl (hSW.row.alloc _) ⟨_, 0, none⟩ 1 1 [.slice (some ⟨w.heap.size + 1, 0, none⟩) 8 8] rfl rfl (one_lit _ _ (by first | (rw [hzY]; done) | rfl | (simp; done) | (simp [hzY]; done)) _ _) (one_sl _ _ _ _ rfl) (by unfold maxLen; (first | omega | (simp; done) | decide)) (by first | omega | (simp; done) | decide) (by first | omega | (simp; done) | (simp; omega)) ?_); intro v6 w6 hown6 hg6 _; go_must (have HF6 : Hid (Ss w.heap.size w6 v6 [List.replicate 8 Ty.nil] /\ Below w.heap.size w w6) := ⟨⟨_, hSW.push HOY.out hown6 hg6⟩, (hbY.alloc hbY.size _).grown hg6 (by first | omega | (simp; done) | (simp; omega)) (fun j hj => (hSW.row.lt j hj).1)⟩; clear hown6 hg6))
 go_loopw [7, 8] (fun v7 v8 wr => v6 = v7 /\ v8 = .int .i64 0 /\ w6 = wr) (fun _ _ _ => 0)
 case atStart => exact ⟨rfl, rfl, rfl⟩
 case round =>
  obtain ⟨rfl, rfl, rfl⟩ := hrel
  go_wp2
  go_ret
  exact ⟨v6, rfl, HF6.out.1, HF6.out.2⟩
theorem comes_any (vm : Value) (cb co ccap : Nat) (xs : List In) (p : Nat) (vk : Value) (K : List St) (nm B : Nat) (w : World) (hc : SeesI w (.slice (some ⟨cb, co, none⟩) xs.length ccap) xs) (hk : Ss B w vk K) (hT : Taken xs) (hp : p < xs.length) (hpk : p <= K.length) (hKm : ∀ s ∈ K, s = [] ∨ Made8 nm s) :
  Calls Tryz.prog 32 #[.agg #[vm, .slice (some ⟨cb, co, none⟩) xs.length ccap], .int .i64 p, vk] w fun e w' => ∃ u, e = .returned u /\ Ss w.heap.size w' u (comesU xs K p p) /\ Below w.heap.size w w' := by
 by_cases hp0 : p = 0
 ·subst hp0
  exact comes_zero vm _ vk w
 ·obtain ⟨g, c, a, ca, rfl, hg, _⟩ := hk.get (i := 0) (by omega)
  exact comes_pos vm cb co ccap xs p g c K nm B w hc hk hg hT hp hpk (by omega) hKm
def stU (C : List St) (r : Nat) : St := (List.range 8).map fun i => if i < r then joinT (C.map fun s => s.getD i Ty.nil) else Ty.nil
theorem stU_len (C : List St) (r : Nat) : (stU C r).length = 8 := by simp [stU]
theorem stU_zero (C : List St) : stU C 0 = List.replicate 8 Ty.nil := by
 unfold stU
 rfl
theorem stU_all (C : List St) : stU C 8 = joinS C 8 := by
 unfold stU joinS
 apply List.map_congr_left
 intro i hi
 rw [if_pos (List.mem_range.1 hi)]
theorem stU_step (C : List St) {r : Nat} (hr : r < 8) : (stU C r).set r (joinT (C.map fun s => s.getD r Ty.nil)) = stU C (r + 1) := by
 apply List.ext_getElem?
 intro i
 rw [List.getElem?_set]
 by_cases hi : i < 8
 ·by_cases hik : r = i
  ·subst hik
   simp [stU, List.getElem?_range hi, hi]
  ·rw [if_neg hik]
   simp only [stU, List.getElem?_map, List.getElem?_range hi, Option.map_some]
   by_cases hl : i < r
   ·rw [if_pos hl, if_pos (by omega)]
   ·rw [if_neg hl, if_neg (by omega)]
 ·rw [List.getElem?_eq_none (by rw [stU_len]; omega), if_neg (by omega), List.getElem?_eq_none (by rw [stU_len]; omega)]
def colT (C : List St) (r : Nat) : List Ty := C.map fun s => s.getD r Ty.nil
theorem colT_take (C : List St) (r : Nat) {j : Nat} (h : j < C.length) : (colT C r).take (j + 1) = (colT C r).take j ++ [(C.getD j []).getD r Ty.nil] := by
 have hl : j < (colT C r).length := by simpa [colT] using h
 rw [List.take_add_one, List.getElem?_eq_getElem hl]
 simp [colT, List.getD, List.getElem?_eq_getElem h]
theorem joined_as {v : Value} {l : List Ty} {w : World} {nm : Nat} {t : Ty} (hs : SeesT w v l) (hne : l ≠ []) (hm : ∀ u ∈ l, Made nm u) (hlen : l.length <= 1048576) (ht : Hid (joinT l = t)) :
  Calls Tryz.prog 33 #[v] w fun e w' => e = .returned (tyV t) /\ Below w.heap.size w w' := by
 rw [<- ht.out]; exact joined_any v l w hs hne (fun u hu => (hm u hu).ends) hlen
structure Row8 (w2 wr : World) (st : St) : Prop where
 own : wr.ownsRow w2.heap.size 46 4 (.slice (some ⟨w2.heap.size, 0, none⟩) 8 8) 8 (flatT st)
 bel : Below w2.heap.size w2 wr
theorem Row8.below {w2 wr w' : World} {st : St} (h : Row8 w2 wr st) (hb : Below wr.heap.size wr w') : Row8 w2 w' st := ⟨qAz h.own hb (Nat.le_refl _), h.bel.trans (hb.mono h.bel.size)⟩
theorem Row8.cells {w2 wr : World} {st : St} (h : Row8 w2 wr st) (h8 : st.length = 8) {k : Nat} (hk : k < 8) : wr.cell? ⟨w2.heap.size, k * 4, none⟩ = some (.int .i64 (st.getD k Ty.nil).k) /\ wr.cell? ⟨w2.heap.size, k * 4 + 1, none⟩ = some (.int .u64 (st.getD k Ty.nil).lo) /\ wr.cell? ⟨w2.heap.size, k * 4 + 2, none⟩ = some (.int .u64 (st.getD k Ty.nil).hi) /\ wr.cell? ⟨w2.heap.size, k * 4 + 3, none⟩ = some (.int .i64 (st.getD k Ty.nil).m) := by
 have key : ∀ j, j < 4 -> wr.cell? ⟨w2.heap.size, k * 4 + j, none⟩ = (tyC (st.getD k Ty.nil))[j]? := fun j hj => by
  rw [h.own.cellAt (k * 4 + j) (by omega)]
  exact flatT_at st k j (by omega) hj
 exact ⟨key 0 (by omega), key 1 (by omega), key 2 (by omega), key 3 (by omega)⟩
theorem Row8.lt {w2 wr : World} {st : St} (h : Row8 w2 wr st) : w2.heap.size < wr.heap.size := (h.own.lt w2.heap.size rfl).2
theorem Row8.set {w2 wr : World} {st : St} (h : Row8 w2 wr st) (h8 : st.length = 8) {k : Nat} (hk : k < 8) (t : Ty) : Row8 w2 (setT wr w2.heap.size (k * 4) t) (st.set k t) :=
 ⟨(qCc h.own k (by omega) t).1, qAn h.bel (Nat.le_refl _)⟩
set_option maxHeartbeats 6400000 in
theorem at_none (vm : Value) (cb co ccap : Nat) (xs : List In) (p : Nat) (vk : Value) (K : List St) (nm B : Nat) (w : World) (hc : SeesI w (.slice (some ⟨cb, co, none⟩) xs.length ccap) xs) (hk : Ss B w vk K) (hT : Taken xs) (hp : p < xs.length) (hpk : p <= K.length) (hKm : ∀ s ∈ K, s = [] ∨ Made8 nm s) (hC : comesU xs K p p = []) :
  Calls Tryz.prog 16 #[.agg #[vm, .slice (some ⟨cb, co, none⟩) xs.length ccap], .int .i64 p, vk] w fun e w' => e = .returned stN /\ Below w.heap.size w w' := by
 have HC := keepJ hc
 have HK := keepJ hk
 have HT := keepJ hT
 have HKm := keepJ hKm
 have HN := keepJ hC
 clear hc hk hT hKm hC
 go_enter Tryz.func16, Tryz.ntmps16
 go_wp2_with (go_at_call 32; go_must (refine (comes_any vm cb co ccap xs p vk K nm B _ (HC.out.below ((Below.refl _ _).alloc (Nat.le_refl _) _)) (HK.out.below ((Below.refl _ _).alloc (Nat.le_refl _) _) (Nat.le_refl _)) HT.out hp hpk HKm.out).mono ?_); rintro e w2 ⟨u, rfl, hS, hb⟩; go_must (rw [HN.out] at hS; obtain ⟨ua, uc, rfl⟩ := hS.shape; have hB := qAl hb; clear hS hb))
 go_ret
 exact ⟨rfl, hB⟩
end Go.Proofs.YtkcofelpndlplaaGreat
