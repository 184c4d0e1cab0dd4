
/-
  ScratchPlays, walked: the answer is true. Condition: the script reads as its calls.
-/
import Derived.Test.YtmfgpaigabkbbaaS10End
namespace Go.Proofs.Ytmfgpaigabkbbaa
open Go.RowKit
set_option linter.unusedVariables false
set_option linter.unusedSimpArgs false
set_option maxRecDepth 100000

/-- A call as it is asked. -/
structure Cl where
  k : Int
  on : Int
  a : Int
  n : Int
  u : Value
  xs : List Int
def Cl.nil : Cl := ⟨0, 0, 0, 0, .slice none 0 0, []⟩
def SeesC (w : World) (v : Value) (os : List Cl) : Prop :=
  ∃ a cap, v = .slice a os.length cap ∧ os.length ≤ cap ∧ cap ≤ maxLen ∧ (os ≠ [] → ∃ b off, a = some ⟨b, off, none⟩ ∧ b < w.heap.size ∧ ∀ i, i < os.length →
    w.cell? ⟨b, off + i * 5, none⟩ = some (.int .i64 (os.getD i Cl.nil).k) ∧ w.cell? ⟨b, off + i * 5 + 1, none⟩ = some (.int .i64 (os.getD i Cl.nil).on) ∧ w.cell? ⟨b, off + i * 5 + 2, none⟩ = some (.int .i64 (os.getD i Cl.nil).a) ∧
    w.cell? ⟨b, off + i * 5 + 3, none⟩ = some (.int .u64 (os.getD i Cl.nil).n) ∧ w.cell? ⟨b, off + i * 5 + 4, none⟩ = some (os.getD i Cl.nil).u ∧
    Sees .u64 w (os.getD i Cl.nil).u (os.getD i Cl.nil).xs ∧ (os.getD i Cl.nil).xs.length * 8 ≤ 219902325555200)
theorem below_undrew10 {B : Nat} {a w : World} (h : Below B a.drew w) : Below B a w := ⟨h.os, h.tape, h.output, h.size, h.block⟩
theorem two_start {w w3 : World} {s0 s1 : Nat} (h0 : Sc w3 s0 nought nought) (h1 : Sc w3 s1 nought nought) (hs : s0 ≠ s1) (b0 : w.heap.size ≤ s0) (b1 : w.heap.size ≤ s1) (hb : Below w.heap.size w w3) :
    Two w ((((w3.alloc (Obj.cells #[.pointer (some ⟨s0, 0, none⟩), .pointer (some ⟨s1, 0, none⟩)] 24)).alloc (Obj.cells #[.slice none 0 0] 30)).alloc (Obj.cells #[.slice none 0 0] 30)).alloc (Obj.cells #[.pointer (some ⟨w3.heap.size + 1, 0, none⟩), .pointer (some ⟨w3.heap.size + 1 + 1, 0, none⟩)] 27)) s0 s1 (w3.heap.size + 1) (w3.heap.size + 1 + 1) w3.heap.size (w3.heap.size + 1 + 1 + 1) 0 := by
  obtain ⟨A, HA, za⟩ : ∃ A, Hid (A = w3.alloc (Obj.cells #[.pointer (some ⟨s0, 0, none⟩), .pointer (some ⟨s1, 0, none⟩)] 24)) ∧ A.heap.size = w3.heap.size + 1 := ⟨_, rfl, by simp⟩
  have hA : Hp A w3.heap.size 24 [ptr s0, ptr s1] := by rw [HA.out]; exact Hp.new w3 _ _
  have bA : Below w3.heap.size w3 A := by rw [HA.out]; exact below_alloc _ _
  rw [← HA.out]
  obtain ⟨C, HC, zc⟩ : ∃ C, Hid (C = A.alloc (Obj.cells #[.slice none 0 0] 30)) ∧ C.heap.size = w3.heap.size + 1 + 1 := ⟨_, rfl, by simp [za]⟩
  have hC : Hp C (w3.heap.size + 1) 30 [.slice none 0 0] := by rw [HC.out, ← za]; exact Hp.new A _ _
  have bC : Below A.heap.size A C := by rw [HC.out]; exact below_alloc _ _
  rw [← HC.out]
  obtain ⟨D, HD, zd⟩ : ∃ D, Hid (D = C.alloc (Obj.cells #[.slice none 0 0] 30)) ∧ D.heap.size = w3.heap.size + 1 + 1 + 1 := ⟨_, rfl, by simp [zc]⟩
  have hD : Hp D (w3.heap.size + 1 + 1) 30 [.slice none 0 0] := by rw [HD.out, ← zc]; exact Hp.new C _ _
  have bD : Below C.heap.size C D := by rw [HD.out]; exact below_alloc _ _
  rw [← HD.out]
  obtain ⟨E, HE⟩ : ∃ E, Hid (E = D.alloc (Obj.cells #[.pointer (some ⟨w3.heap.size + 1, 0, none⟩), .pointer (some ⟨w3.heap.size + 1 + 1, 0, none⟩)] 27)) := ⟨_, rfl⟩
  have hE : Hp E (w3.heap.size + 1 + 1 + 1) 27 [ptr (w3.heap.size + 1), ptr (w3.heap.size + 1 + 1)] := by rw [HE.out, ← zd]; exact Hp.new D _ _
  have bE : Below D.heap.size D E := by rw [HE.out]; exact below_alloc _ _
  rw [← HE.out]
  have bDE : Below C.heap.size C E := bD.trans (bE.mono bD.size)
  have bAE : Below A.heap.size A E := bC.trans (bDE.mono bC.size)
  have b3E : Below w3.heap.size w3 E := bA.trans (bAE.mono bA.size)
  have row : ∀ wx : World, wx.ownsRow w.heap.size 65 3 (.slice none 0 0) 0 [] := fun wx => ⟨by simp, .inl ⟨rfl, rfl⟩⟩
  have z3 := hb.size
  exact ⟨_, _, [], [], nought, nought, nought, nought, ⟨h0.below b3E h0.lt, ⟨hC.below bDE hC.lt, row _⟩, Tie.nil, b0, by omega⟩, ⟨h1.below b3E h1.lt, ⟨hD.below bE hD.lt, row _⟩, Tie.nil, b1, by omega⟩, fun k h => by simp [Value.ownBlock] at h, hs, by omega, Nat.le_refl _, Nat.le_refl _, hA.below bAE hA.lt, hE, hb.trans (b3E.mono hb.size)⟩
theorem SeesC.at {w : World} {av : Option Addr} {cap : Nat} {os : List Cl} (h : SeesC w (.slice av os.length cap) os) {i : Nat} (hi : i < os.length) : ∃ b off, av = some ⟨b, off, none⟩ ∧ Hid (∀ w', Below w.heap.size w w' →
    w'.cell? ⟨b, off + i * 5, none⟩ = some (.int .i64 (os.getD i Cl.nil).k) ∧ w'.cell? ⟨b, off + i * 5 + 1, none⟩ = some (.int .i64 (os.getD i Cl.nil).on) ∧ w'.cell? ⟨b, off + i * 5 + 2, none⟩ = some (.int .i64 (os.getD i Cl.nil).a) ∧
    w'.cell? ⟨b, off + i * 5 + 3, none⟩ = some (.int .u64 (os.getD i Cl.nil).n) ∧ w'.cell? ⟨b, off + i * 5 + 4, none⟩ = some (os.getD i Cl.nil).u) ∧
    Sees .u64 w (os.getD i Cl.nil).u (os.getD i Cl.nil).xs ∧ (os.getD i Cl.nil).xs.length * 8 ≤ 219902325555200 := by
  obtain ⟨a, c, hv, h1, h2, h3⟩ := h
  obtain ⟨b, off, ha, hlt, hc⟩ := h3 (fun e => by rw [e] at hi; simp at hi)
  injection hv with e1 e2 e3
  subst e1
  obtain ⟨c0, c1, c2, c3, c4, hs, hb⟩ := hc i hi
  exact ⟨b, off, ha, fun w' hb' => ⟨(hb'.cell (p := ⟨b, _, none⟩) hlt).trans c0, (hb'.cell (p := ⟨b, _, none⟩) hlt).trans c1, (hb'.cell (p := ⟨b, _, none⟩) hlt).trans c2, (hb'.cell (p := ⟨b, _, none⟩) hlt).trans c3, (hb'.cell (p := ⟨b, _, none⟩) hlt).trans c4⟩, hs, hb⟩
set_option maxHeartbeats 6400000 in
theorem plays10_any (v : Value) (os : List Cl) (w : World) (h : SeesC w v os) :
    Calls Try.prog 3 #[v] w fun e w' => e = .returned (.bool true) ∧ Below w.heap.size w w' := by
  obtain ⟨Z, HZ⟩ : ∃ Z, Hid (nought = Z) := ⟨_, rfl⟩
  have HV : Hid (SeesC w v os) := h
  obtain ⟨av, cap, rfl, hlc, hmx, _⟩ := h
  unfold maxLen at hmx
  go_enter Try.func3, Try.ntmps3
  go_wp2_with (first
    | (go_at_call 7; go_must (refine (awake_any _).mono ?_); rintro e w1 ⟨rfl, hb1⟩; have HB1 : Hid (Below w.heap.size w w1) := hb1; have hz1 := hb1.size; clear hb1)
    | (go_at_call 8; have hq := HB1; clear hq; go_must (refine (new_as HZ _).mono ?_); rintro e w2 ⟨rfl, hs2, hz2', hb2⟩; have HS2 : Hid (Sc w2 w1.heap.size Z Z) := hs2; have HB2 : Hid (Below w.heap.size w w2) := HB1.out.trans (hb2.mono hz1); have hz2 : w1.heap.size < w2.heap.size := (by omega); clear hs2 hz2' hb2 HB1)
    | (go_at_call 8; have hq := HB2; clear hq; go_must (refine (new_as HZ _).mono ?_); rintro e w3 ⟨rfl, hs3, hz3', hb3⟩; have HS3 : Hid (Sc w3 w2.heap.size Z Z ∧ Sc w3 w1.heap.size Z Z) := ⟨hs3, HS2.out.below hb3 hz2⟩; have HB3 : Hid (Below w.heap.size w w3) := HB2.out.trans (hb3.mono HB2.out.size); have hz3 : w2.heap.size < w3.heap.size := (by omega); clear hs3 hz3' hb3 HB2 HS2))
  have HT0 : Hid (Two w ((((w3.alloc (Obj.cells #[.pointer (some ⟨w1.heap.size, 0, none⟩), .pointer (some ⟨w2.heap.size, 0, none⟩)] 24)).alloc (Obj.cells #[.slice none 0 0] 30)).alloc (Obj.cells #[.slice none 0 0] 30)).alloc (Obj.cells #[.pointer (some ⟨w3.heap.size + 1, 0, none⟩), .pointer (some ⟨w3.heap.size + 1 + 1, 0, none⟩)] 27)) w1.heap.size w2.heap.size (w3.heap.size + 1) (w3.heap.size + 1 + 1) w3.heap.size (w3.heap.size + 1 + 1 + 1) 0) := by
    have h3 := HS3.out
    rw [← HZ.out] at h3
    exact two_start h3.2 h3.1 (by omega) hz1 (by omega) HB3.out
  obtain ⟨W4, HW4⟩ : ∃ W4, Hid (((((w3.alloc (Obj.cells #[.pointer (some ⟨w1.heap.size, 0, none⟩), .pointer (some ⟨w2.heap.size, 0, none⟩)] 24)).alloc (Obj.cells #[.slice none 0 0] 30)).alloc (Obj.cells #[.slice none 0 0] 30)).alloc (Obj.cells #[.pointer (some ⟨w3.heap.size + 1, 0, none⟩), .pointer (some ⟨w3.heap.size + 1 + 1, 0, none⟩)] 27)) = W4) := ⟨_, rfl⟩
  rw [HW4.out] at HT0 ⊢
  obtain ⟨lb, Hlb⟩ : ∃ x, Hid (w3.heap.size + 1 + 1 + 1 = x) := ⟨_, rfl⟩
  rw [Hlb.out] at HT0 ⊢
  obtain ⟨c1, Hc1⟩ : ∃ x, Hid (w3.heap.size + 1 + 1 = x) := ⟨_, rfl⟩
  rw [Hc1.out] at HT0 ⊢
  obtain ⟨c0, Hc0⟩ : ∃ x, Hid (w3.heap.size + 1 = x) := ⟨_, rfl⟩
  rw [Hc0.out] at HT0 ⊢
  obtain ⟨ls, Hls⟩ : ∃ x, Hid (w3.heap.size = x) := ⟨_, rfl⟩
  rw [Hls.out] at HT0 ⊢
  obtain ⟨s1, Hs1⟩ : ∃ x, Hid (w2.heap.size = x) := ⟨_, rfl⟩
  rw [Hs1.out] at HT0 ⊢
  obtain ⟨s0, Hs0⟩ : ∃ x, Hid (w1.heap.size = x) := ⟨_, rfl⟩
  rw [Hs0.out] at HT0 ⊢
  clear HW4 Hlb Hc1 Hc0 Hls Hs1 Hs0 HS3 HB3 HZ hz1 hz2 hz3
  go_loopw [5] (fun i wr => ∃ k : Nat, k ≤ os.length ∧ k ≤ 300 ∧ i = .int .i64 k ∧ Hid (Two w wr s0 s1 c0 c1 ls lb (16 * k))) (fun i _ => os.length - (intOf i).toNat)
  case atStart => exact ⟨0, by omega, by omega, rfl, HT0.out⟩
  case round =>
    clear HT0
    obtain ⟨k, hk, hk3, rfl, HT⟩ := hrel
    by_cases hlt : k < os.length ∧ k < 300
    · obtain ⟨hl1, hl2⟩ := hlt
      obtain ⟨b, off, hav, HC, hsu, hsb⟩ := HV.out.at hl1
      subst hav
      obtain ⟨q, on, a, n, u, xs, HQ⟩ : ∃ q on a n u xs, Hid (os.getD k Cl.nil = ⟨q, on, a, n, u, xs⟩) := ⟨_, _, _, _, _, _, rfl⟩
      rw [HQ.out] at hsu hsb
      simp only at hsu hsb
      have HSU : Hid (Sees .u64 w u xs) := hsu
      have HSB : Hid (xs.length * 8 ≤ 219902325555200) := hsb
      obtain ⟨ua, uc, hushape⟩ := hsu.shape
      obtain ⟨d0, d1, d2, d3, d4⟩ := HC.out wr HT.out.old
      rw [HQ.out] at d0 d1 d2 d3 d4
      simp only at d0 d1 d2 d3 d4
      have hkI : (k : Int) < os.length := by omega
      have hk3I : (k : Int) < 300 := by omega
      subst hushape
      clear HC hsu hsb
      obtain ⟨W, HW, HHW, hWz⟩ : ∃ W, Hid (W = wr.alloc (Obj.cells #[.int .i64 q, .int .i64 on, .int .i64 a, .int .u64 n, .slice ua xs.length uc] 35)) ∧ Hid (Hp W wr.heap.size 35 [.int .i64 q, .int .i64 on, .int .i64 a, .int .u64 n, .slice ua xs.length uc]) ∧ wr.heap.size < W.heap.size := ⟨_, rfl, Hp.new wr _ _, by simp⟩
      have HTW : Hid (Two w W s0 s1 c0 c1 ls lb (16 * k)) := by rw [HW.out]; exact HT.out.below (below_alloc _ _)
      have HSS0 : Hid (∀ w', Still W w' → ∀ {N}, Two w w' s0 s1 c0 c1 ls lb N → w'.cell? ⟨ls, 0, none⟩ = some (.pointer (some ⟨s0, 0, none⟩)) ∧ w'.cell? ⟨lb, 0, none⟩ = some (.pointer (some ⟨c0, 0, none⟩)) ∧ w'.cell? ⟨wr.heap.size, 0, none⟩ = some (.int .i64 q) ∧ w'.cell? ⟨wr.heap.size, 1, none⟩ = some (.int .i64 on) ∧ w'.cell? ⟨wr.heap.size, 2, none⟩ = some (.int .i64 a) ∧ w'.cell? ⟨wr.heap.size, 3, none⟩ = some (.int .u64 n) ∧ w'.cell? ⟨wr.heap.size, 4, none⟩ = some (.slice ua xs.length uc)) := fun w' hst N ht => by
        have hh := hst _ _ _ HHW.out (by decide) (by decide) (by decide)
        exact ⟨ht.lists.1, ht.lists.2.2.1, hh.cell rfl, hh.cell rfl, hh.cell rfl, hh.cell rfl, hh.cell rfl⟩
      have HSS1 : Hid (∀ w', Still W w' → ∀ {N}, Two w w' s0 s1 c0 c1 ls lb N → w'.cell? ⟨ls, 1, none⟩ = some (.pointer (some ⟨s1, 0, none⟩)) ∧ w'.cell? ⟨lb, 1, none⟩ = some (.pointer (some ⟨c1, 0, none⟩)) ∧ w'.cell? ⟨wr.heap.size, 0, none⟩ = some (.int .i64 q) ∧ w'.cell? ⟨wr.heap.size, 1, none⟩ = some (.int .i64 on) ∧ w'.cell? ⟨wr.heap.size, 2, none⟩ = some (.int .i64 a) ∧ w'.cell? ⟨wr.heap.size, 3, none⟩ = some (.int .u64 n) ∧ w'.cell? ⟨wr.heap.size, 4, none⟩ = some (.slice ua xs.length uc)) := fun w' hst N ht => by
        have hh := hst _ _ _ HHW.out (by decide) (by decide) (by decide)
        exact ⟨ht.lists.2.1, ht.lists.2.2.2, hh.cell rfl, hh.cell rfl, hh.cell rfl, hh.cell rfl, hh.cell rfl⟩
      have hS0 := HSS0.out W (fun _ _ _ h _ _ _ => h) HTW.out
      have hS1 := HSS1.out W (fun _ _ _ h _ _ _ => h) HTW.out
      by_cases hon : on.tmod 2 = 0
      · have hon : (on.tmod 2 != 0) = false := by simpa using hon
        go_wp2
        rw [← HW.out]
        go_region_held3 (fun w' => w'.cell? ⟨ls, 0, none⟩ = some (.pointer (some ⟨s0, 0, none⟩)) ∧ w'.cell? ⟨lb, 0, none⟩ = some (.pointer (some ⟨c0, 0, none⟩)) ∧ w'.cell? ⟨wr.heap.size, 0, none⟩ = some (.int .i64 q) ∧ w'.cell? ⟨wr.heap.size, 1, none⟩ = some (.int .i64 on) ∧ w'.cell? ⟨wr.heap.size, 2, none⟩ = some (.int .i64 a) ∧ w'.cell? ⟨wr.heap.size, 3, none⟩ = some (.int .u64 n) ∧ w'.cell? ⟨wr.heap.size, 4, none⟩ = some (.slice ua xs.length uc))
          (first | (with_reducible exact hS5) | exact hS0)
          (first
            | (go_at_call 9; go_must (refine (two_call HTW.out.drew (by omega) (j := 0) (.inl ⟨rfl, rfl, rfl⟩) q on a n _ xs HSU.out HSB.out).mono ?_); rintro e w5 ⟨rfl, ht5, hst5⟩; go_must (have HT5 : Hid (Two w w5 s0 s1 c0 c1 ls lb (16 * k + 16)) := ht5; have hS5 := HSS0.out w5 (hst5.undrew) ht5; clear ht5 hst5)))
        go_wp2
        go_roundw
        case rel => exact ⟨k + 1, by omega, by omega, by go_num, HT5.out⟩
        case measure => simp [intOf]; omega
      · have hon : (on.tmod 2 != 0) = true := by simpa using hon
        go_wp2
        rw [← HW.out]
        go_region_held3 (fun w' => w'.cell? ⟨ls, 1, none⟩ = some (.pointer (some ⟨s1, 0, none⟩)) ∧ w'.cell? ⟨lb, 1, none⟩ = some (.pointer (some ⟨c1, 0, none⟩)) ∧ w'.cell? ⟨wr.heap.size, 0, none⟩ = some (.int .i64 q) ∧ w'.cell? ⟨wr.heap.size, 1, none⟩ = some (.int .i64 on) ∧ w'.cell? ⟨wr.heap.size, 2, none⟩ = some (.int .i64 a) ∧ w'.cell? ⟨wr.heap.size, 3, none⟩ = some (.int .u64 n) ∧ w'.cell? ⟨wr.heap.size, 4, none⟩ = some (.slice ua xs.length uc))
          (first | (with_reducible exact hS5) | exact hS1)
          (first
            | (go_at_call 9; go_must (refine (two_call HTW.out.drew (by omega) (j := 1) (.inr ⟨rfl, rfl, rfl⟩) q on a n _ xs HSU.out HSB.out).mono ?_); rintro e w5 ⟨rfl, ht5, hst5⟩; go_must (have HT5 : Hid (Two w w5 s0 s1 c0 c1 ls lb (16 * k + 16)) := ht5; have hS5 := HSS1.out w5 (hst5.undrew) ht5; clear ht5 hst5)))
        go_wp2
        go_roundw
        case rel => exact ⟨k + 1, by omega, by omega, by go_num, HT5.out⟩
        case measure => simp [intOf]; omega
    · have hcases : (¬ (k : Int) < os.length) ∨ ((k : Int) < os.length ∧ ¬ (k : Int) < 300) := by omega
      rcases hcases with hkn | ⟨hkn, hkm⟩
      · go_wp2
        clear HV
        go_loopw [8] (fun i wr => ∃ j : Nat, j ≤ 18 ∧ ∃ a : Int, Hid (a = (j : Int) - 1) ∧ i = .int .i64 a ∧ Hid (Two w wr s0 s1 c0 c1 ls lb (4800 + 64 * j))) (fun i _ => (17 - intOf i).toNat)
        case atStart => exact ⟨0, by omega, -1, by show _ = _; omega, rfl, HT.out.le (by omega)⟩
        case round =>
          clear HT
          obtain ⟨j, hj, a, HA, rfl, HT⟩ := hrel
          have ha0 : -1 ≤ a ∧ a ≤ 17 := by have := HA.out; omega
          by_cases hjt : a < 17
          · go_wp2
            go_loopw [9] (fun i wr => ∃ m : Nat, m ≤ 2 ∧ i = .int .i64 m ∧ Hid (Two w wr s0 s1 c0 c1 ls lb (4800 + 64 * j + 32 * m))) (fun i _ => 2 - (intOf i).toNat)
            case atStart => exact ⟨0, by omega, rfl, HT.out⟩
            case round =>
              clear HT
              obtain ⟨m, hm, rfl, HT⟩ := hrel
              by_cases hmt : m < 2
              · have hmI : (m : Int) < 2 := by omega
                obtain ⟨s, c, HSL⟩ : ∃ s c, Hid (Sel s0 s1 c0 c1 m s c) := by
                  by_cases e : m = 0
                  · exact ⟨s0, c0, .inl ⟨e, rfl, rfl⟩⟩
                  · exact ⟨s1, c1, .inr ⟨by omega, rfl, rfl⟩⟩
                have HSS : Hid (∀ w' {N}, Two w w' s0 s1 c0 c1 ls lb N → w'.cell? ⟨ls, m, none⟩ = some (.pointer (some ⟨s, 0, none⟩)) ∧ w'.cell? ⟨lb, m, none⟩ = some (.pointer (some ⟨c, 0, none⟩))) := fun w' N ht => by
                  rcases HSL.out with ⟨rfl, rfl, rfl⟩ | ⟨rfl, rfl, rfl⟩
                  · exact ⟨ht.lists.1, ht.lists.2.2.1⟩
                  · exact ⟨ht.lists.2.1, ht.lists.2.2.2⟩
                have hS0 := HSS.out wr HT.out
                go_wp2
                go_region_held3 (fun w' => w'.cell? ⟨ls, m, none⟩ = some (.pointer (some ⟨s, 0, none⟩)) ∧ w'.cell? ⟨lb, m, none⟩ = some (.pointer (some ⟨c, 0, none⟩)))
                  (first | (with_reducible exact hS6) | (with_reducible exact hS5) | exact hS0)
                  (first
                    | (go_at_call 9; have hq := HT; clear hq; go_must (refine (two_call HT.out.drew (by omega) HSL.out 0 0 a 0 (.slice none 0 0) [] (Sees.nil _ _) (by simp)).mono ?_); rintro e w5 ⟨rfl, ht5, hst5⟩; go_must (have HT5 : Hid (Two w w5 s0 s1 c0 c1 ls lb (4800 + 64 * j + 32 * m + 16)) := ht5; have hS5 := HSS.out w5 ht5; clear ht5 hst5 HT))
                    | (go_at_call 9; have hq := HT5; clear hq; go_must (refine (two_call HT5.out (by omega) HSL.out 4 0 a 0 (.slice none 0 0) [] (Sees.nil _ _) (by simp)).mono ?_); rintro e w6 ⟨rfl, ht6, hst6⟩; go_must (have HT6 : Hid (Two w w6 s0 s1 c0 c1 ls lb (4800 + 64 * j + 32 * m + 16 + 16)) := ht6; have hS6 := HSS.out w6 ht6; clear ht6 hst6 HT5)))
                go_wp2
                go_roundw
                case rel => exact ⟨m + 1, by omega, by go_num, HT6.out.le (by omega)⟩
                case measure => simp [intOf]; omega
              · have hmn : ¬ (m : Int) < 2 := by omega
                clear hmt
                have hw17 : IntKind.i64.wrap (a + 1) = a + 1 := by rw [IntKind.wrap_i64]; omega
                go_wp2
                go_roundw
                case rel => exact ⟨j + 1, by have := HA.out; omega, a + 1, by have := HA.out; show _ = _; omega, by go_num, HT.out.le (by omega)⟩
                case measure => simp [intOf]; omega
          · obtain ⟨l0', l1', l2', l3'⟩ := HT.out.lists
            have l0 : wr.cell? ⟨ls, 0, none⟩ = some (.pointer (some ⟨s0, 0, none⟩)) := l0'
            have l1 : wr.cell? ⟨ls, 1, none⟩ = some (.pointer (some ⟨s1, 0, none⟩)) := l1'
            have l2 : wr.cell? ⟨lb, 0, none⟩ = some (.pointer (some ⟨c0, 0, none⟩)) := l2'
            have l3 : wr.cell? ⟨lb, 1, none⟩ = some (.pointer (some ⟨c1, 0, none⟩)) := l3'
            obtain ⟨A0, A1, p0, p1, q0, q1⟩ := HT.out.tot
            obtain ⟨W5, HW5, hb5, hz5⟩ : ∃ W5, Hid (W5 = wr.alloc (Obj.cells #[.pointer (some ⟨c0, 0, none⟩), .pointer none, .pointer (some ⟨c1, 0, none⟩), .pointer (some ⟨c0, 0, none⟩)] 27)) ∧ Below wr.heap.size wr W5 ∧ wr.heap.size < W5.heap.size := ⟨_, rfl, below_alloc _ _, by simp⟩
            have HK5 : Hid (SeesK W5 (.slice (some ⟨wr.heap.size, 0, none⟩) 4 4) [some A0, none, some A1, some A0]) := by
              rw [HW5.out] at hb5 ⊢
              exact fourK_lit rfl (q0.below hb5) (PtrB.nil _) (q1.below hb5) (q0.below hb5)
            have HP5 : Hid (PtrIs W5 (.pointer (some ⟨s0, 0, none⟩)) (some A0) ∧ PtrIs W5 (.pointer (some ⟨s1, 0, none⟩)) (some A1)) := ⟨p0.below hb5, p1.below hb5⟩
            have HB5 : Hid (Below w.heap.size w W5) := HT.out.old.trans (hb5.mono HT.out.old.size)
            have m2 : W5.cell? ⟨lb, 0, none⟩ = some (.pointer (some ⟨c0, 0, none⟩)) ∧ W5.cell? ⟨lb, 1, none⟩ = some (.pointer (some ⟨c1, 0, none⟩)) := ⟨(hb5.cell (p := ⟨lb, 0, none⟩) HT.out.lt.2).trans l2, (hb5.cell (p := ⟨lb, 1, none⟩) HT.out.lt.2).trans l3⟩
            have m0 : W5.cell? ⟨ls, 0, none⟩ = some (.pointer (some ⟨s0, 0, none⟩)) ∧ W5.cell? ⟨ls, 1, none⟩ = some (.pointer (some ⟨s1, 0, none⟩)) := ⟨(hb5.cell (p := ⟨ls, 0, none⟩) HT.out.lt.1).trans l0, (hb5.cell (p := ⟨ls, 1, none⟩) HT.out.lt.1).trans l1⟩
            have hls : ls < W5.heap.size := by have := HT.out.lt.1; omega
            clear l0' l1' l2' l3' p0 p1 q0 q1
            go_wp2
            refine wp_region_held_drew (S := fun w' => w'.cell? ⟨lb, 0, none⟩ = some (.pointer (some ⟨c0, 0, none⟩)) ∧ w'.cell? ⟨lb, 1, none⟩ = some (.pointer (some ⟨c1, 0, none⟩))) (by kernel_rfl) ⟨l2, l3⟩ (fun hHeld => ?_)
            refine wpAnyH_take (i := 0) (v := ?v1) rfl (by kernel_rfl) (by kernel_rfl) (by kernel_rfl) (fun _ _ _ h => h) (Or.inl ⟨by rfl, ?hy1⟩) (by assumption) ?rest1
            case hy1 => (intro wy hSw; (try dsimp only at hSw); go_simp; (first | done | with_reducible rfl))
            try simp only [Act.put, List.getElem_toArray, List.getElem_cons_zero, List.getElem_cons_succ, List.setIfInBounds_toArray, List.set_cons_zero, List.set_cons_succ]
            refine wpAnyH_take (i := 1) (v := ?v2) rfl (by kernel_rfl) (by kernel_rfl) (by kernel_rfl) (fun _ _ _ h => h) (Or.inl ⟨by rfl, ?hy2⟩) (by assumption) ?rest2
            case hy2 => (intro wy hSw; (try dsimp only at hSw); go_simp; (first | done | with_reducible rfl))
            try simp only [Act.put, List.getElem_toArray, List.getElem_cons_zero, List.getElem_cons_succ, List.setIfInBounds_toArray, List.set_cons_zero, List.set_cons_succ]
            refine wpAnyH_take (i := 2) (v := ?v3) rfl (by kernel_rfl) (by kernel_rfl) (by kernel_rfl) (fun _ _ _ h => h) (Or.inl ⟨by rfl, ?hy3⟩) (by assumption) ?rest3
            case hy3 => (intro wy hSw; (try dsimp only at hSw); go_simp; (first | done | with_reducible rfl))
            try simp only [Act.put, List.getElem_toArray, List.getElem_cons_zero, List.getElem_cons_succ, List.setIfInBounds_toArray, List.set_cons_zero, List.set_cons_succ]
            refine wpAnyH_take (i := 3) (v := ?v4) rfl (by kernel_rfl) (by kernel_rfl) (by kernel_rfl) (fun _ _ _ h => h) (Or.inl ⟨by rfl, ?hy4⟩) (by assumption) ?rest4
            case hy4 => (intro wy hSw; (try dsimp only at hSw); go_simp; (first | done | with_reducible rfl))
            try simp only [Act.put, List.getElem_toArray, List.getElem_cons_zero, List.getElem_cons_succ, List.setIfInBounds_toArray, List.set_cons_zero, List.set_cons_succ]
            refine wpAnyH_take (i := 4) (v := ?v5) rfl (by kernel_rfl) (by kernel_rfl) (by kernel_rfl) (fun _ _ _ h => h) (Or.inl ⟨by rfl, ?hy5⟩) (by assumption) ?rest5
            case hy5 => (intro wy hSw; (try dsimp only at hSw); go_simp; (first | done | with_reducible rfl))
            try simp only [Act.put, List.getElem_toArray, List.getElem_cons_zero, List.getElem_cons_succ, List.setIfInBounds_toArray, List.set_cons_zero, List.set_cons_succ]
            refine wpAnyH_take (i := 5) (v := ?v6) rfl (by kernel_rfl) (by kernel_rfl) (by kernel_rfl) (fun _ _ _ h => h) (Or.inl ⟨by rfl, ?hy6⟩) (by assumption) ?rest6
            case hy6 => (intro wy hSw; (try dsimp only at hSw); go_simp; (first | done | with_reducible rfl))
            try simp only [Act.put, List.getElem_toArray, List.getElem_cons_zero, List.getElem_cons_succ, List.setIfInBounds_toArray, List.set_cons_zero, List.set_cons_succ]
            refine wpAnyH_take (i := 6) (v := ?v7) rfl (by kernel_rfl) (by kernel_rfl) (by kernel_rfl) (fun _ _ _ h => h) (Or.inl ⟨by rfl, ?hy7⟩) (by assumption) ?rest7
            case hy7 => (intro wy hSw; (try dsimp only at hSw); go_simp; (first | done | with_reducible rfl))
            try simp only [Act.put, List.getElem_toArray, List.getElem_cons_zero, List.getElem_cons_succ, List.setIfInBounds_toArray, List.set_cons_zero, List.set_cons_succ]
            refine wpAnyH_take (i := 7) (v := ?v8) rfl (by kernel_rfl) (by kernel_rfl) (by kernel_rfl) (fun _ _ _ h => h) (Or.inl ⟨by rfl, ?hy8⟩) (by assumption) ?rest8
            case hy8 => (intro wy hSw; (try dsimp only at hSw); go_simp; (first | done | with_reducible rfl))
            try simp only [Act.put, List.getElem_toArray, List.getElem_cons_zero, List.getElem_cons_succ, List.setIfInBounds_toArray, List.set_cons_zero, List.set_cons_succ]
            refine wpAnyH_take (i := 8) (v := ?v9) rfl (by kernel_rfl) (by kernel_rfl) (by kernel_rfl) (fun _ _ _ h => h) (Or.inl ⟨by rfl, ?hy9⟩) (by assumption) ?rest9
            case hy9 => (intro wy hSw; (try dsimp only at hSw); go_simp; (first | done | with_reducible rfl))
            try simp only [Act.put, List.getElem_toArray, List.getElem_cons_zero, List.getElem_cons_succ, List.setIfInBounds_toArray, List.set_cons_zero, List.set_cons_succ]
            refine wpAnyH_ready (rs := [9]) (by kernel_rfl) (by simp) ?_
            refine AllReadyH.cons rfl (fun KK hK => ?_) AllReadyH.nil
            rw [if_pos (by rfl)]
            go_simp
            rw [← HW5.out]
            refine hK.out _ _ m2 (fun hHeld => ?_)
            clear hK KK l0 l1 l2 l3 hb5 m2
            try simp only [Act.put, List.getElem_toArray, List.getElem_cons_zero, List.getElem_cons_succ, List.setIfInBounds_toArray, List.set_cons_zero, List.set_cons_succ]
            refine wpAnyH_take (i := 10) (v := ?v10) rfl (by kernel_rfl) (by kernel_rfl) (by kernel_rfl) (fun _ _ _ h => h) (Or.inl ⟨by rfl, ?hy10⟩) (by assumption) ?rest10
            case hy10 => (intro wy hSw; (try dsimp only at hSw); go_simp; (first | done | with_reducible rfl))
            try simp only [Act.put, List.getElem_toArray, List.getElem_cons_zero, List.getElem_cons_succ, List.setIfInBounds_toArray, List.set_cons_zero, List.set_cons_succ]
            refine wpAnyH_done (by kernel_rfl) ?_ _
            go_wp2
            obtain ⟨X, HX⟩ : ∃ X, Hid (W5.drew = X) := ⟨_, rfl⟩
            have HKX : Hid (SeesK X (.slice (some ⟨wr.heap.size, 0, none⟩) 4 4) [some A0, none, some A1, some A0]) := by rw [← HX.out]; exact HK5.out.below ⟨rfl, rfl, rfl, Nat.le_refl _, fun _ _ => rfl⟩
            have HPX : Hid (PtrIs X (.pointer (some ⟨s0, 0, none⟩)) (some A0) ∧ PtrIs X (.pointer (some ⟨s1, 0, none⟩)) (some A1)) := by rw [← HX.out]; exact ⟨HP5.out.1.below ⟨rfl, rfl, rfl, Nat.le_refl _, fun _ _ => rfl⟩, HP5.out.2.below ⟨rfl, rfl, rfl, Nat.le_refl _, fun _ _ => rfl⟩⟩
            have HBX : Hid (Below w.heap.size w X) := by rw [← HX.out]; exact below_drew10 HB5.out
            have HSX : Hid (∀ w', Below X.heap.size X w' → w'.cell? ⟨ls, 0, none⟩ = some (.pointer (some ⟨s0, 0, none⟩)) ∧ w'.cell? ⟨ls, 1, none⟩ = some (.pointer (some ⟨s1, 0, none⟩))) := fun w' hb' => by
              rw [← HX.out] at hb'
              exact ⟨(hb'.cell (p := ⟨ls, 0, none⟩) hls).trans m0.1, (hb'.cell (p := ⟨ls, 1, none⟩) hls).trans m0.2⟩
            have hS0 := HSX.out X (Below.refl _ _)
            rw [HX.out]
            obtain ⟨zc, HZC⟩ : ∃ zc, Hid (nums nought = zc) := ⟨_, rfl⟩
            have hmk := run_make16
            rw [HZC.out] at hmk
            have HMS : Hid (∀ w : World, Sees .u64 (w.alloc (.cells zc.toArray 32)) (.slice (some ⟨w.heap.size, 0, none⟩) 16 16) nought) := by rw [← HZC.out]; exact make_sees
            obtain ⟨Y, HY, hbY, HPY⟩ : ∃ Y, Hid (Y = X.alloc (Obj.cells #[.pointer (some ⟨s0, 0, none⟩), .pointer none, .pointer (some ⟨s1, 0, none⟩), .pointer (some ⟨s0, 0, none⟩)] 24)) ∧ Below X.heap.size X Y ∧ Hid (SeesP Y (.slice (some ⟨X.heap.size, 0, none⟩) 4 4) [some A0, none, some A1, some A0]) :=
              ⟨_, rfl, below_alloc _ _, four_lit rfl (HPX.out.1.below (below_alloc _ _)) (PtrIs.nil _) (HPX.out.2.below (below_alloc _ _)) (HPX.out.1.below (below_alloc _ _))⟩
            have HBY : Hid (Below X.heap.size X Y) := hbY
            clear hbY m0 HX HK5 HP5 HB5 HW5 HT hls hz5
            refine wp_region_held_drew (S := fun w' => w'.cell? ⟨ls, 0, none⟩ = some (.pointer (some ⟨s0, 0, none⟩)) ∧ w'.cell? ⟨ls, 1, none⟩ = some (.pointer (some ⟨s1, 0, none⟩))) (by kernel_rfl) hS0 (fun hHeld => ?_)
            refine wpAnyH_take (i := 0) (v := ?v11) rfl (by kernel_rfl) (by kernel_rfl) (by kernel_rfl) (fun _ _ _ h => h) (Or.inl ⟨by rfl, ?hy11⟩) (by assumption) ?rest11
            case hy11 => (intro wy hSw; (try dsimp only at hSw); go_simp; (first | done | with_reducible rfl))
            try simp only [Act.put, List.getElem_toArray, List.getElem_cons_zero, List.getElem_cons_succ, List.setIfInBounds_toArray, List.set_cons_zero, List.set_cons_succ]
            refine wpAnyH_take (i := 1) (v := ?v12) rfl (by kernel_rfl) (by kernel_rfl) (by kernel_rfl) (fun _ _ _ h => h) (Or.inl ⟨by rfl, ?hy12⟩) (by assumption) ?rest12
            case hy12 => (intro wy hSw; (try dsimp only at hSw); go_simp; (first | done | with_reducible rfl))
            try simp only [Act.put, List.getElem_toArray, List.getElem_cons_zero, List.getElem_cons_succ, List.setIfInBounds_toArray, List.set_cons_zero, List.set_cons_succ]
            refine wpAnyH_take (i := 2) (v := ?v13) rfl (by kernel_rfl) (by kernel_rfl) (by kernel_rfl) (fun _ _ _ h => h) (Or.inl ⟨by rfl, ?hy13⟩) (by assumption) ?rest13
            case hy13 => (intro wy hSw; (try dsimp only at hSw); go_simp; (first | done | with_reducible rfl))
            try simp only [Act.put, List.getElem_toArray, List.getElem_cons_zero, List.getElem_cons_succ, List.setIfInBounds_toArray, List.set_cons_zero, List.set_cons_succ]
            refine wpAnyH_take (i := 3) (v := ?v14) rfl (by kernel_rfl) (by kernel_rfl) (by kernel_rfl) (fun _ _ _ h => h) (Or.inl ⟨by rfl, ?hy14⟩) (by assumption) ?rest14
            case hy14 => (intro wy hSw; (try dsimp only at hSw); go_simp; (first | done | with_reducible rfl))
            try simp only [Act.put, List.getElem_toArray, List.getElem_cons_zero, List.getElem_cons_succ, List.setIfInBounds_toArray, List.set_cons_zero, List.set_cons_succ]
            refine wpAnyH_take (i := 4) (v := ?v15) rfl (by kernel_rfl) (by kernel_rfl) (by kernel_rfl) (fun _ _ _ h => h) (Or.inl ⟨by rfl, ?hy15⟩) (by assumption) ?rest15
            case hy15 => (intro wy hSw; (try dsimp only at hSw); go_simp; (first | done | with_reducible rfl))
            try simp only [Act.put, List.getElem_toArray, List.getElem_cons_zero, List.getElem_cons_succ, List.setIfInBounds_toArray, List.set_cons_zero, List.set_cons_succ]
            refine wpAnyH_take (i := 5) (v := ?v16) rfl (by kernel_rfl) (by kernel_rfl) (by kernel_rfl) (fun _ _ _ h => h) (Or.inl ⟨by rfl, ?hy16⟩) (by assumption) ?rest16
            case hy16 => (intro wy hSw; (try dsimp only at hSw); go_simp; (first | done | with_reducible rfl))
            try simp only [Act.put, List.getElem_toArray, List.getElem_cons_zero, List.getElem_cons_succ, List.setIfInBounds_toArray, List.set_cons_zero, List.set_cons_succ]
            refine wpAnyH_take (i := 6) (v := ?v17) rfl (by kernel_rfl) (by kernel_rfl) (by kernel_rfl) (fun _ _ _ h => h) (Or.inl ⟨by rfl, ?hy17⟩) (by assumption) ?rest17
            case hy17 => (intro wy hSw; (try dsimp only at hSw); go_simp; (first | done | with_reducible rfl))
            try simp only [Act.put, List.getElem_toArray, List.getElem_cons_zero, List.getElem_cons_succ, List.setIfInBounds_toArray, List.set_cons_zero, List.set_cons_succ]
            refine wpAnyH_take (i := 7) (v := ?v18) rfl (by kernel_rfl) (by kernel_rfl) (by kernel_rfl) (fun _ _ _ h => h) (Or.inl ⟨by rfl, ?hy18⟩) (by assumption) ?rest18
            case hy18 => (intro wy hSw; (try dsimp only at hSw); go_simp; (first | done | with_reducible rfl))
            try simp only [Act.put, List.getElem_toArray, List.getElem_cons_zero, List.getElem_cons_succ, List.setIfInBounds_toArray, List.set_cons_zero, List.set_cons_succ]
            refine wpAnyH_take (i := 8) (v := ?v19) rfl (by kernel_rfl) (by kernel_rfl) (by kernel_rfl) (fun _ _ _ h => h) (Or.inl ⟨by rfl, ?hy19⟩) (by assumption) ?rest19
            case hy19 => (intro wy hSw; (try dsimp only at hSw); go_simp; (first | done | with_reducible rfl))
            try simp only [Act.put, List.getElem_toArray, List.getElem_cons_zero, List.getElem_cons_succ, List.setIfInBounds_toArray, List.set_cons_zero, List.set_cons_succ]
            refine wpAnyH_take (i := 11) (v := ?v20) rfl (by kernel_rfl) (by kernel_rfl) (by kernel_rfl) (fun _ _ _ h => h) (Or.inl ⟨by rfl, ?hy20⟩) (by assumption) ?rest20
            case hy20 => (intro wy hSw; (try dsimp only at hSw); go_simp; (first | done | with_reducible rfl))
            try simp only [Act.put, List.getElem_toArray, List.getElem_cons_zero, List.getElem_cons_succ, List.setIfInBounds_toArray, List.set_cons_zero, List.set_cons_succ]
            refine wpAnyH_ready (rs := [9]) (by kernel_rfl) (by simp) ?_
            refine AllReadyH.cons rfl (fun KK hK => ?_) AllReadyH.nil
            rw [if_pos (by rfl)]
            go_simp
            rw [← HY.out]
            refine hK.out _ _ (HSX.out Y HBY.out) (fun hHeld => ?_)
            clear hK KK
            try simp only [Act.put, List.getElem_toArray, List.getElem_cons_zero, List.getElem_cons_succ, List.setIfInBounds_toArray, List.set_cons_zero, List.set_cons_succ]
            refine wpAnyH_ready (rs := [10]) (by kernel_rfl) (by simp) ?_
            refine AllReadyH.cons rfl (fun KK hK => ?_) AllReadyH.nil
            rw [if_pos (by rfl)]
            go_simp
            go_at_call 11
            refine (totals_any Y.drew HPY.out.drew).mono ?_
            rintro e w6 ⟨u6, rfl, ho6, hb6'⟩
            have hb6 : Below X.heap.size X w6 := HBY.out.trans ((below_undrew10 hb6').mono HBY.out.size)
            have HO6 : Hid (Sees .u64 w6 u6 (totL [some A0, none, some A1, some A0])) := Sees.own (by rw [tot_len]; exact ho6) (W64L.tot _).wf
            have HB6 : Hid (Below X.heap.size X w6) := hb6
            refine hK.out _ _ (HSX.out w6 hb6) (fun hHeld => ?_)
            clear hK KK ho6 hb6' hb6 HPY
            try simp only [Act.put, List.getElem_toArray, List.getElem_cons_zero, List.getElem_cons_succ, List.setIfInBounds_toArray, List.set_cons_zero, List.set_cons_succ]
            refine wpAnyH_ready (rs := [12]) (by kernel_rfl) (by simp) ?_
            refine AllReadyH.cons rfl (fun KK hK => ?_) AllReadyH.nil
            rw [if_pos (by rfl)]
            go_simp
            go_at_call 12
            refine (rtotals_any w6 (HKX.out.below HB6.out)).mono ?_
            rintro e w7 ⟨u7, rfl, ho7, hb7⟩
            have HO7 : Hid (Sees .u64 w7 u7 (totL [some A0, none, some A1, some A0])) := Sees.own (by rw [tot_len]; exact ho7) (W64L.tot _).wf
            have HO67 : Hid (Sees .u64 w7 u6 (totL [some A0, none, some A1, some A0])) := HO6.out.below hb7 (Nat.le_refl _)
            have HB7 : Hid (Below X.heap.size X w7) := HB6.out.trans (hb7.mono HB6.out.size)
            refine hK.out _ _ (HSX.out w7 HB7.out) (fun hHeld => ?_)
            clear hK KK ho7 hb7 HO6
            try simp only [Act.put, List.getElem_toArray, List.getElem_cons_zero, List.getElem_cons_succ, List.setIfInBounds_toArray, List.set_cons_zero, List.set_cons_succ]
            refine wpAnyH_ready (rs := [13]) (by kernel_rfl) (by simp) ?_
            refine AllReadyH.cons rfl (fun KK hK => ?_) AllReadyH.nil
            rw [if_pos (by rfl)]
            go_simp
            go_at_call 10
            refine (numbers_any u6 u7 _ _ _ HO67.out HO7.out).mono ?_
            rintro e w8 ⟨rfl, n8, hw8⟩
            rw [eqB_true (rfl : totL [some A0, none, some A1, some A0] = totL [some A0, none, some A1, some A0])]
            have HB8 : Hid (Below X.heap.size X w8) := by rw [hw8]; exact below_drewN HB7.out _
            clear hw8
            refine hK.out _ _ (HSX.out w8 HB8.out) (fun hHeld => ?_)
            clear hK KK
            try simp only [Act.put, List.getElem_toArray, List.getElem_cons_zero, List.getElem_cons_succ, List.setIfInBounds_toArray, List.set_cons_zero, List.set_cons_succ]
            refine wpAnyH_take (i := 14) (v := ?v21) rfl (by kernel_rfl) (by kernel_rfl) (by kernel_rfl) (fun _ _ _ h => h) (Or.inl ⟨by rfl, ?hy21⟩) (by assumption) ?rest21
            case hy21 => (intro wy hSw; (try dsimp only at hSw); go_simp; (first | done | with_reducible rfl))
            try simp only [Act.put, List.getElem_toArray, List.getElem_cons_zero, List.getElem_cons_succ, List.setIfInBounds_toArray, List.set_cons_zero, List.set_cons_succ]
            refine wpAnyH_ready (rs := [15, 16]) (by kernel_rfl) (by simp) ?_
            refine AllReadyH.cons rfl (fun KK hK => ?_) (AllReadyH.cons rfl (fun KK hK => ?_) AllReadyH.nil) <;> rw [if_pos (by rfl)]
            · go_simp
              go_at_call 11
              refine (totals_any w8 (seesP_nil w8)).mono ?_
              rintro e w9 ⟨u9, rfl, ho9, hb9⟩
              have HO9 : Hid (Sees .u64 w9 u9 nought) := Sees.own (by exact ho9) W64L.nought.wf
              have HB9 : Hid (Below X.heap.size X w9) := HB8.out.trans (hb9.mono HB8.out.size)
              refine hK.out _ _ (HSX.out w9 HB9.out) (fun hHeld => ?_)
              clear hK KK ho9 hb9
              try simp only [Act.put, List.getElem_toArray, List.getElem_cons_zero, List.getElem_cons_succ, List.setIfInBounds_toArray, List.set_cons_zero, List.set_cons_succ]
              refine wpAnyH_ready (rs := [16]) (by kernel_rfl) (by simp) ?_
              refine AllReadyH.cons rfl (fun KK hK => ?_) AllReadyH.nil
              rw [if_pos (by rfl)]
              go_simp
              have HBA : Hid (Below X.heap.size X (w9.alloc (.cells zc.toArray 32))) := HB9.out.trans ((below_alloc _ _).mono HB9.out.size)
              refine hK.out _ _ (HSX.out _ HBA.out) (fun hHeld => ?_)
              clear hK KK
              try simp only [Act.put, List.getElem_toArray, List.getElem_cons_zero, List.getElem_cons_succ, List.setIfInBounds_toArray, List.set_cons_zero, List.set_cons_succ]
              refine wpAnyH_ready (rs := [17]) (by kernel_rfl) (by simp) ?_
              refine AllReadyH.cons rfl (fun KK hK => ?_) AllReadyH.nil
              rw [if_pos (by rfl)]
              go_simp
              go_at_call 10
              refine (numbers_any u9 _ nought nought _ (HO9.out.alloc _) (HMS.out w9)).mono ?_
              rintro e wB ⟨rfl, nB, hwB⟩
              rw [eqB_true (rfl : nought = nought)]
              have HBB : Hid (Below X.heap.size X wB) := by rw [hwB]; exact below_drewN HBA.out _
              clear hwB
              refine hK.out _ _ (HSX.out wB HBB.out) (fun hHeld => ?_)
              clear hK KK
              try simp only [Act.put, List.getElem_toArray, List.getElem_cons_zero, List.getElem_cons_succ, List.setIfInBounds_toArray, List.set_cons_zero, List.set_cons_succ]
              refine wpAnyH_take (i := 18) (v := ?v22) rfl (by kernel_rfl) (by kernel_rfl) (by kernel_rfl) (fun _ _ _ h => h) (Or.inl ⟨by rfl, ?hy22⟩) (by assumption) ?rest22
              case hy22 => (intro wy hSw; (try dsimp only at hSw); go_simp; (first | done | with_reducible rfl))
              try simp only [Act.put, List.getElem_toArray, List.getElem_cons_zero, List.getElem_cons_succ, List.setIfInBounds_toArray, List.set_cons_zero, List.set_cons_succ]
              refine wpAnyH_take (i := 19) (v := ?v23) rfl (by kernel_rfl) (by kernel_rfl) (by kernel_rfl) (fun _ _ _ h => h) (Or.inl ⟨by rfl, ?hy23⟩) (by assumption) ?rest23
              case hy23 => (intro wy hSw; (try dsimp only at hSw); go_simp; (first | done | with_reducible rfl))
              try simp only [Act.put, List.getElem_toArray, List.getElem_cons_zero, List.getElem_cons_succ, List.setIfInBounds_toArray, List.set_cons_zero, List.set_cons_succ]
              refine wpAnyH_done (by kernel_rfl) ?_ _
              go_wp2
              go_ret
              exact ⟨rfl, HBX.out.trans (HBB.out.mono HBX.out.size)⟩
            · go_simp
              obtain ⟨V, HV8, HB9, HM9⟩ : ∃ V, Hid (w8.alloc (.cells zc.toArray 32) = V) ∧ Hid (Below X.heap.size X V) ∧ Hid (Sees .u64 V (.slice (some ⟨w8.heap.size, 0, none⟩) 16 16) nought) := ⟨_, rfl, HB8.out.trans ((below_alloc _ _).mono HB8.out.size), HMS.out w8⟩
              rw [HV8.out]
              refine hK.out _ _ (HSX.out _ HB9.out) (fun hHeld => ?_)
              clear hK KK
              try simp only [Act.put, List.getElem_toArray, List.getElem_cons_zero, List.getElem_cons_succ, List.setIfInBounds_toArray, List.set_cons_zero, List.set_cons_succ]
              refine wpAnyH_ready (rs := [15]) (by kernel_rfl) (by simp) ?_
              refine AllReadyH.cons rfl (fun KK hK => ?_) AllReadyH.nil
              rw [if_pos (by rfl)]
              go_simp
              go_at_call 11
              refine (totals_any V (seesP_nil V)).mono ?_
              rintro e w9 ⟨u9, rfl, ho9, hb9⟩
              have HO9 : Hid (Sees .u64 w9 u9 nought) := Sees.own (by exact ho9) W64L.nought.wf
              have HN9 : Hid (Sees .u64 w9 (.slice (some ⟨w8.heap.size, 0, none⟩) 16 16) nought) := HM9.out.below hb9 (Nat.le_refl _)
              have HBA : Hid (Below X.heap.size X w9) := HB9.out.trans (hb9.mono HB9.out.size)
              refine hK.out _ _ (HSX.out w9 HBA.out) (fun hHeld => ?_)
              clear hK KK ho9 hb9
              try simp only [Act.put, List.getElem_toArray, List.getElem_cons_zero, List.getElem_cons_succ, List.setIfInBounds_toArray, List.set_cons_zero, List.set_cons_succ]
              refine wpAnyH_ready (rs := [17]) (by kernel_rfl) (by simp) ?_
              refine AllReadyH.cons rfl (fun KK hK => ?_) AllReadyH.nil
              rw [if_pos (by rfl)]
              go_simp
              go_at_call 10
              refine (numbers_any u9 _ nought nought _ HO9.out HN9.out).mono ?_
              rintro e wB ⟨rfl, nB, hwB⟩
              rw [eqB_true (rfl : nought = nought)]
              have HBB : Hid (Below X.heap.size X wB) := by rw [hwB]; exact below_drewN HBA.out _
              clear hwB
              refine hK.out _ _ (HSX.out wB HBB.out) (fun hHeld => ?_)
              clear hK KK
              try simp only [Act.put, List.getElem_toArray, List.getElem_cons_zero, List.getElem_cons_succ, List.setIfInBounds_toArray, List.set_cons_zero, List.set_cons_succ]
              refine wpAnyH_take (i := 18) (v := ?v24) rfl (by kernel_rfl) (by kernel_rfl) (by kernel_rfl) (fun _ _ _ h => h) (Or.inl ⟨by rfl, ?hy24⟩) (by assumption) ?rest24
              case hy24 => (intro wy hSw; (try dsimp only at hSw); go_simp; (first | done | with_reducible rfl))
              try simp only [Act.put, List.getElem_toArray, List.getElem_cons_zero, List.getElem_cons_succ, List.setIfInBounds_toArray, List.set_cons_zero, List.set_cons_succ]
              refine wpAnyH_take (i := 19) (v := ?v25) rfl (by kernel_rfl) (by kernel_rfl) (by kernel_rfl) (fun _ _ _ h => h) (Or.inl ⟨by rfl, ?hy25⟩) (by assumption) ?rest25
              case hy25 => (intro wy hSw; (try dsimp only at hSw); go_simp; (first | done | with_reducible rfl))
              try simp only [Act.put, List.getElem_toArray, List.getElem_cons_zero, List.getElem_cons_succ, List.setIfInBounds_toArray, List.set_cons_zero, List.set_cons_succ]
              refine wpAnyH_done (by kernel_rfl) ?_ _
              go_wp2
              go_ret
              exact ⟨rfl, HBX.out.trans (HBB.out.mono HBX.out.size)⟩
      · go_wp2
        clear HV
        go_loopw [8] (fun i wr => ∃ j : Nat, j ≤ 18 ∧ ∃ a : Int, Hid (a = (j : Int) - 1) ∧ i = .int .i64 a ∧ Hid (Two w wr s0 s1 c0 c1 ls lb (4800 + 64 * j))) (fun i _ => (17 - intOf i).toNat)
        case atStart => exact ⟨0, by omega, -1, by show _ = _; omega, rfl, HT.out.le (by omega)⟩
        case round =>
          clear HT
          obtain ⟨j, hj, a, HA, rfl, HT⟩ := hrel
          have ha0 : -1 ≤ a ∧ a ≤ 17 := by have := HA.out; omega
          by_cases hjt : a < 17
          · go_wp2
            go_loopw [9] (fun i wr => ∃ m : Nat, m ≤ 2 ∧ i = .int .i64 m ∧ Hid (Two w wr s0 s1 c0 c1 ls lb (4800 + 64 * j + 32 * m))) (fun i _ => 2 - (intOf i).toNat)
            case atStart => exact ⟨0, by omega, rfl, HT.out⟩
            case round =>
              clear HT
              obtain ⟨m, hm, rfl, HT⟩ := hrel
              by_cases hmt : m < 2
              · have hmI : (m : Int) < 2 := by omega
                obtain ⟨s, c, HSL⟩ : ∃ s c, Hid (Sel s0 s1 c0 c1 m s c) := by
                  by_cases e : m = 0
                  · exact ⟨s0, c0, .inl ⟨e, rfl, rfl⟩⟩
                  · exact ⟨s1, c1, .inr ⟨by omega, rfl, rfl⟩⟩
                have HSS : Hid (∀ w' {N}, Two w w' s0 s1 c0 c1 ls lb N → w'.cell? ⟨ls, m, none⟩ = some (.pointer (some ⟨s, 0, none⟩)) ∧ w'.cell? ⟨lb, m, none⟩ = some (.pointer (some ⟨c, 0, none⟩))) := fun w' N ht => by
                  rcases HSL.out with ⟨rfl, rfl, rfl⟩ | ⟨rfl, rfl, rfl⟩
                  · exact ⟨ht.lists.1, ht.lists.2.2.1⟩
                  · exact ⟨ht.lists.2.1, ht.lists.2.2.2⟩
                have hS0 := HSS.out wr HT.out
                go_wp2
                go_region_held3 (fun w' => w'.cell? ⟨ls, m, none⟩ = some (.pointer (some ⟨s, 0, none⟩)) ∧ w'.cell? ⟨lb, m, none⟩ = some (.pointer (some ⟨c, 0, none⟩)))
                  (first | (with_reducible exact hS6) | (with_reducible exact hS5) | exact hS0)
                  (first
                    | (go_at_call 9; have hq := HT; clear hq; go_must (refine (two_call HT.out.drew (by omega) HSL.out 0 0 a 0 (.slice none 0 0) [] (Sees.nil _ _) (by simp)).mono ?_); rintro e w5 ⟨rfl, ht5, hst5⟩; go_must (have HT5 : Hid (Two w w5 s0 s1 c0 c1 ls lb (4800 + 64 * j + 32 * m + 16)) := ht5; have hS5 := HSS.out w5 ht5; clear ht5 hst5 HT))
                    | (go_at_call 9; have hq := HT5; clear hq; go_must (refine (two_call HT5.out (by omega) HSL.out 4 0 a 0 (.slice none 0 0) [] (Sees.nil _ _) (by simp)).mono ?_); rintro e w6 ⟨rfl, ht6, hst6⟩; go_must (have HT6 : Hid (Two w w6 s0 s1 c0 c1 ls lb (4800 + 64 * j + 32 * m + 16 + 16)) := ht6; have hS6 := HSS.out w6 ht6; clear ht6 hst6 HT5)))
                go_wp2
                go_roundw
                case rel => exact ⟨m + 1, by omega, by go_num, HT6.out.le (by omega)⟩
                case measure => simp [intOf]; omega
              · have hmn : ¬ (m : Int) < 2 := by omega
                clear hmt
                have hw17 : IntKind.i64.wrap (a + 1) = a + 1 := by rw [IntKind.wrap_i64]; omega
                go_wp2
                go_roundw
                case rel => exact ⟨j + 1, by have := HA.out; omega, a + 1, by have := HA.out; show _ = _; omega, by go_num, HT.out.le (by omega)⟩
                case measure => simp [intOf]; omega
          · obtain ⟨l0', l1', l2', l3'⟩ := HT.out.lists
            have l0 : wr.cell? ⟨ls, 0, none⟩ = some (.pointer (some ⟨s0, 0, none⟩)) := l0'
            have l1 : wr.cell? ⟨ls, 1, none⟩ = some (.pointer (some ⟨s1, 0, none⟩)) := l1'
            have l2 : wr.cell? ⟨lb, 0, none⟩ = some (.pointer (some ⟨c0, 0, none⟩)) := l2'
            have l3 : wr.cell? ⟨lb, 1, none⟩ = some (.pointer (some ⟨c1, 0, none⟩)) := l3'
            obtain ⟨A0, A1, p0, p1, q0, q1⟩ := HT.out.tot
            obtain ⟨W5, HW5, hb5, hz5⟩ : ∃ W5, Hid (W5 = wr.alloc (Obj.cells #[.pointer (some ⟨c0, 0, none⟩), .pointer none, .pointer (some ⟨c1, 0, none⟩), .pointer (some ⟨c0, 0, none⟩)] 27)) ∧ Below wr.heap.size wr W5 ∧ wr.heap.size < W5.heap.size := ⟨_, rfl, below_alloc _ _, by simp⟩
            have HK5 : Hid (SeesK W5 (.slice (some ⟨wr.heap.size, 0, none⟩) 4 4) [some A0, none, some A1, some A0]) := by
              rw [HW5.out] at hb5 ⊢
              exact fourK_lit rfl (q0.below hb5) (PtrB.nil _) (q1.below hb5) (q0.below hb5)
            have HP5 : Hid (PtrIs W5 (.pointer (some ⟨s0, 0, none⟩)) (some A0) ∧ PtrIs W5 (.pointer (some ⟨s1, 0, none⟩)) (some A1)) := ⟨p0.below hb5, p1.below hb5⟩
            have HB5 : Hid (Below w.heap.size w W5) := HT.out.old.trans (hb5.mono HT.out.old.size)
            have m2 : W5.cell? ⟨lb, 0, none⟩ = some (.pointer (some ⟨c0, 0, none⟩)) ∧ W5.cell? ⟨lb, 1, none⟩ = some (.pointer (some ⟨c1, 0, none⟩)) := ⟨(hb5.cell (p := ⟨lb, 0, none⟩) HT.out.lt.2).trans l2, (hb5.cell (p := ⟨lb, 1, none⟩) HT.out.lt.2).trans l3⟩
            have m0 : W5.cell? ⟨ls, 0, none⟩ = some (.pointer (some ⟨s0, 0, none⟩)) ∧ W5.cell? ⟨ls, 1, none⟩ = some (.pointer (some ⟨s1, 0, none⟩)) := ⟨(hb5.cell (p := ⟨ls, 0, none⟩) HT.out.lt.1).trans l0, (hb5.cell (p := ⟨ls, 1, none⟩) HT.out.lt.1).trans l1⟩
            have hls : ls < W5.heap.size := by have := HT.out.lt.1; omega
            clear l0' l1' l2' l3' p0 p1 q0 q1
            go_wp2
            refine wp_region_held_drew (S := fun w' => w'.cell? ⟨lb, 0, none⟩ = some (.pointer (some ⟨c0, 0, none⟩)) ∧ w'.cell? ⟨lb, 1, none⟩ = some (.pointer (some ⟨c1, 0, none⟩))) (by kernel_rfl) ⟨l2, l3⟩ (fun hHeld => ?_)
            refine wpAnyH_take (i := 0) (v := ?v26) rfl (by kernel_rfl) (by kernel_rfl) (by kernel_rfl) (fun _ _ _ h => h) (Or.inl ⟨by rfl, ?hy26⟩) (by assumption) ?rest26
            case hy26 => (intro wy hSw; (try dsimp only at hSw); go_simp; (first | done | with_reducible rfl))
            try simp only [Act.put, List.getElem_toArray, List.getElem_cons_zero, List.getElem_cons_succ, List.setIfInBounds_toArray, List.set_cons_zero, List.set_cons_succ]
            refine wpAnyH_take (i := 1) (v := ?v27) rfl (by kernel_rfl) (by kernel_rfl) (by kernel_rfl) (fun _ _ _ h => h) (Or.inl ⟨by rfl, ?hy27⟩) (by assumption) ?rest27
            case hy27 => (intro wy hSw; (try dsimp only at hSw); go_simp; (first | done | with_reducible rfl))
            try simp only [Act.put, List.getElem_toArray, List.getElem_cons_zero, List.getElem_cons_succ, List.setIfInBounds_toArray, List.set_cons_zero, List.set_cons_succ]
            refine wpAnyH_take (i := 2) (v := ?v28) rfl (by kernel_rfl) (by kernel_rfl) (by kernel_rfl) (fun _ _ _ h => h) (Or.inl ⟨by rfl, ?hy28⟩) (by assumption) ?rest28
            case hy28 => (intro wy hSw; (try dsimp only at hSw); go_simp; (first | done | with_reducible rfl))
            try simp only [Act.put, List.getElem_toArray, List.getElem_cons_zero, List.getElem_cons_succ, List.setIfInBounds_toArray, List.set_cons_zero, List.set_cons_succ]
            refine wpAnyH_take (i := 3) (v := ?v29) rfl (by kernel_rfl) (by kernel_rfl) (by kernel_rfl) (fun _ _ _ h => h) (Or.inl ⟨by rfl, ?hy29⟩) (by assumption) ?rest29
            case hy29 => (intro wy hSw; (try dsimp only at hSw); go_simp; (first | done | with_reducible rfl))
            try simp only [Act.put, List.getElem_toArray, List.getElem_cons_zero, List.getElem_cons_succ, List.setIfInBounds_toArray, List.set_cons_zero, List.set_cons_succ]
            refine wpAnyH_take (i := 4) (v := ?v30) rfl (by kernel_rfl) (by kernel_rfl) (by kernel_rfl) (fun _ _ _ h => h) (Or.inl ⟨by rfl, ?hy30⟩) (by assumption) ?rest30
            case hy30 => (intro wy hSw; (try dsimp only at hSw); go_simp; (first | done | with_reducible rfl))
            try simp only [Act.put, List.getElem_toArray, List.getElem_cons_zero, List.getElem_cons_succ, List.setIfInBounds_toArray, List.set_cons_zero, List.set_cons_succ]
            refine wpAnyH_take (i := 5) (v := ?v31) rfl (by kernel_rfl) (by kernel_rfl) (by kernel_rfl) (fun _ _ _ h => h) (Or.inl ⟨by rfl, ?hy31⟩) (by assumption) ?rest31
            case hy31 => (intro wy hSw; (try dsimp only at hSw); go_simp; (first | done | with_reducible rfl))
            try simp only [Act.put, List.getElem_toArray, List.getElem_cons_zero, List.getElem_cons_succ, List.setIfInBounds_toArray, List.set_cons_zero, List.set_cons_succ]
            refine wpAnyH_take (i := 6) (v := ?v32) rfl (by kernel_rfl) (by kernel_rfl) (by kernel_rfl) (fun _ _ _ h => h) (Or.inl ⟨by rfl, ?hy32⟩) (by assumption) ?rest32
            case hy32 => (intro wy hSw; (try dsimp only at hSw); go_simp; (first | done | with_reducible rfl))
            try simp only [Act.put, List.getElem_toArray, List.getElem_cons_zero, List.getElem_cons_succ, List.setIfInBounds_toArray, List.set_cons_zero, List.set_cons_succ]
            refine wpAnyH_take (i := 7) (v := ?v33) rfl (by kernel_rfl) (by kernel_rfl) (by kernel_rfl) (fun _ _ _ h => h) (Or.inl ⟨by rfl, ?hy33⟩) (by assumption) ?rest33
            case hy33 => (intro wy hSw; (try dsimp only at hSw); go_simp; (first | done | with_reducible rfl))
            try simp only [Act.put, List.getElem_toArray, List.getElem_cons_zero, List.getElem_cons_succ, List.setIfInBounds_toArray, List.set_cons_zero, List.set_cons_succ]
            refine wpAnyH_take (i := 8) (v := ?v34) rfl (by kernel_rfl) (by kernel_rfl) (by kernel_rfl) (fun _ _ _ h => h) (Or.inl ⟨by rfl, ?hy34⟩) (by assumption) ?rest34
            case hy34 => (intro wy hSw; (try dsimp only at hSw); go_simp; (first | done | with_reducible rfl))
            try simp only [Act.put, List.getElem_toArray, List.getElem_cons_zero, List.getElem_cons_succ, List.setIfInBounds_toArray, List.set_cons_zero, List.set_cons_succ]
            refine wpAnyH_ready (rs := [9]) (by kernel_rfl) (by simp) ?_
            refine AllReadyH.cons rfl (fun KK hK => ?_) AllReadyH.nil
            rw [if_pos (by rfl)]
            go_simp
            rw [← HW5.out]
            refine hK.out _ _ m2 (fun hHeld => ?_)
            clear hK KK l0 l1 l2 l3 hb5 m2
            try simp only [Act.put, List.getElem_toArray, List.getElem_cons_zero, List.getElem_cons_succ, List.setIfInBounds_toArray, List.set_cons_zero, List.set_cons_succ]
            refine wpAnyH_take (i := 10) (v := ?v35) rfl (by kernel_rfl) (by kernel_rfl) (by kernel_rfl) (fun _ _ _ h => h) (Or.inl ⟨by rfl, ?hy35⟩) (by assumption) ?rest35
            case hy35 => (intro wy hSw; (try dsimp only at hSw); go_simp; (first | done | with_reducible rfl))
            try simp only [Act.put, List.getElem_toArray, List.getElem_cons_zero, List.getElem_cons_succ, List.setIfInBounds_toArray, List.set_cons_zero, List.set_cons_succ]
            refine wpAnyH_done (by kernel_rfl) ?_ _
            go_wp2
            obtain ⟨X, HX⟩ : ∃ X, Hid (W5.drew = X) := ⟨_, rfl⟩
            have HKX : Hid (SeesK X (.slice (some ⟨wr.heap.size, 0, none⟩) 4 4) [some A0, none, some A1, some A0]) := by rw [← HX.out]; exact HK5.out.below ⟨rfl, rfl, rfl, Nat.le_refl _, fun _ _ => rfl⟩
            have HPX : Hid (PtrIs X (.pointer (some ⟨s0, 0, none⟩)) (some A0) ∧ PtrIs X (.pointer (some ⟨s1, 0, none⟩)) (some A1)) := by rw [← HX.out]; exact ⟨HP5.out.1.below ⟨rfl, rfl, rfl, Nat.le_refl _, fun _ _ => rfl⟩, HP5.out.2.below ⟨rfl, rfl, rfl, Nat.le_refl _, fun _ _ => rfl⟩⟩
            have HBX : Hid (Below w.heap.size w X) := by rw [← HX.out]; exact below_drew10 HB5.out
            have HSX : Hid (∀ w', Below X.heap.size X w' → w'.cell? ⟨ls, 0, none⟩ = some (.pointer (some ⟨s0, 0, none⟩)) ∧ w'.cell? ⟨ls, 1, none⟩ = some (.pointer (some ⟨s1, 0, none⟩))) := fun w' hb' => by
              rw [← HX.out] at hb'
              exact ⟨(hb'.cell (p := ⟨ls, 0, none⟩) hls).trans m0.1, (hb'.cell (p := ⟨ls, 1, none⟩) hls).trans m0.2⟩
            have hS0 := HSX.out X (Below.refl _ _)
            rw [HX.out]
            obtain ⟨zc, HZC⟩ : ∃ zc, Hid (nums nought = zc) := ⟨_, rfl⟩
            have hmk := run_make16
            rw [HZC.out] at hmk
            have HMS : Hid (∀ w : World, Sees .u64 (w.alloc (.cells zc.toArray 32)) (.slice (some ⟨w.heap.size, 0, none⟩) 16 16) nought) := by rw [← HZC.out]; exact make_sees
            obtain ⟨Y, HY, hbY, HPY⟩ : ∃ Y, Hid (Y = X.alloc (Obj.cells #[.pointer (some ⟨s0, 0, none⟩), .pointer none, .pointer (some ⟨s1, 0, none⟩), .pointer (some ⟨s0, 0, none⟩)] 24)) ∧ Below X.heap.size X Y ∧ Hid (SeesP Y (.slice (some ⟨X.heap.size, 0, none⟩) 4 4) [some A0, none, some A1, some A0]) :=
              ⟨_, rfl, below_alloc _ _, four_lit rfl (HPX.out.1.below (below_alloc _ _)) (PtrIs.nil _) (HPX.out.2.below (below_alloc _ _)) (HPX.out.1.below (below_alloc _ _))⟩
            have HBY : Hid (Below X.heap.size X Y) := hbY
            clear hbY m0 HX HK5 HP5 HB5 HW5 HT hls hz5
            refine wp_region_held_drew (S := fun w' => w'.cell? ⟨ls, 0, none⟩ = some (.pointer (some ⟨s0, 0, none⟩)) ∧ w'.cell? ⟨ls, 1, none⟩ = some (.pointer (some ⟨s1, 0, none⟩))) (by kernel_rfl) hS0 (fun hHeld => ?_)
            refine wpAnyH_take (i := 0) (v := ?v36) rfl (by kernel_rfl) (by kernel_rfl) (by kernel_rfl) (fun _ _ _ h => h) (Or.inl ⟨by rfl, ?hy36⟩) (by assumption) ?rest36
            case hy36 => (intro wy hSw; (try dsimp only at hSw); go_simp; (first | done | with_reducible rfl))
            try simp only [Act.put, List.getElem_toArray, List.getElem_cons_zero, List.getElem_cons_succ, List.setIfInBounds_toArray, List.set_cons_zero, List.set_cons_succ]
            refine wpAnyH_take (i := 1) (v := ?v37) rfl (by kernel_rfl) (by kernel_rfl) (by kernel_rfl) (fun _ _ _ h => h) (Or.inl ⟨by rfl, ?hy37⟩) (by assumption) ?rest37
            case hy37 => (intro wy hSw; (try dsimp only at hSw); go_simp; (first | done | with_reducible rfl))
            try simp only [Act.put, List.getElem_toArray, List.getElem_cons_zero, List.getElem_cons_succ, List.setIfInBounds_toArray, List.set_cons_zero, List.set_cons_succ]
            refine wpAnyH_take (i := 2) (v := ?v38) rfl (by kernel_rfl) (by kernel_rfl) (by kernel_rfl) (fun _ _ _ h => h) (Or.inl ⟨by rfl, ?hy38⟩) (by assumption) ?rest38
            case hy38 => (intro wy hSw; (try dsimp only at hSw); go_simp; (first | done | with_reducible rfl))
            try simp only [Act.put, List.getElem_toArray, List.getElem_cons_zero, List.getElem_cons_succ, List.setIfInBounds_toArray, List.set_cons_zero, List.set_cons_succ]
            refine wpAnyH_take (i := 3) (v := ?v39) rfl (by kernel_rfl) (by kernel_rfl) (by kernel_rfl) (fun _ _ _ h => h) (Or.inl ⟨by rfl, ?hy39⟩) (by assumption) ?rest39
            case hy39 => (intro wy hSw; (try dsimp only at hSw); go_simp; (first | done | with_reducible rfl))
            try simp only [Act.put, List.getElem_toArray, List.getElem_cons_zero, List.getElem_cons_succ, List.setIfInBounds_toArray, List.set_cons_zero, List.set_cons_succ]
            refine wpAnyH_take (i := 4) (v := ?v40) rfl (by kernel_rfl) (by kernel_rfl) (by kernel_rfl) (fun _ _ _ h => h) (Or.inl ⟨by rfl, ?hy40⟩) (by assumption) ?rest40
            case hy40 => (intro wy hSw; (try dsimp only at hSw); go_simp; (first | done | with_reducible rfl))
            try simp only [Act.put, List.getElem_toArray, List.getElem_cons_zero, List.getElem_cons_succ, List.setIfInBounds_toArray, List.set_cons_zero, List.set_cons_succ]
            refine wpAnyH_take (i := 5) (v := ?v41) rfl (by kernel_rfl) (by kernel_rfl) (by kernel_rfl) (fun _ _ _ h => h) (Or.inl ⟨by rfl, ?hy41⟩) (by assumption) ?rest41
            case hy41 => (intro wy hSw; (try dsimp only at hSw); go_simp; (first | done | with_reducible rfl))
            try simp only [Act.put, List.getElem_toArray, List.getElem_cons_zero, List.getElem_cons_succ, List.setIfInBounds_toArray, List.set_cons_zero, List.set_cons_succ]
            refine wpAnyH_take (i := 6) (v := ?v42) rfl (by kernel_rfl) (by kernel_rfl) (by kernel_rfl) (fun _ _ _ h => h) (Or.inl ⟨by rfl, ?hy42⟩) (by assumption) ?rest42
            case hy42 => (intro wy hSw; (try dsimp only at hSw); go_simp; (first | done | with_reducible rfl))
            try simp only [Act.put, List.getElem_toArray, List.getElem_cons_zero, List.getElem_cons_succ, List.setIfInBounds_toArray, List.set_cons_zero, List.set_cons_succ]
            refine wpAnyH_take (i := 7) (v := ?v43) rfl (by kernel_rfl) (by kernel_rfl) (by kernel_rfl) (fun _ _ _ h => h) (Or.inl ⟨by rfl, ?hy43⟩) (by assumption) ?rest43
            case hy43 => (intro wy hSw; (try dsimp only at hSw); go_simp; (first | done | with_reducible rfl))
            try simp only [Act.put, List.getElem_toArray, List.getElem_cons_zero, List.getElem_cons_succ, List.setIfInBounds_toArray, List.set_cons_zero, List.set_cons_succ]
            refine wpAnyH_take (i := 8) (v := ?v44) rfl (by kernel_rfl) (by kernel_rfl) (by kernel_rfl) (fun _ _ _ h => h) (Or.inl ⟨by rfl, ?hy44⟩) (by assumption) ?rest44
            case hy44 => (intro wy hSw; (try dsimp only at hSw); go_simp; (first | done | with_reducible rfl))
            try simp only [Act.put, List.getElem_toArray, List.getElem_cons_zero, List.getElem_cons_succ, List.setIfInBounds_toArray, List.set_cons_zero, List.set_cons_succ]
            refine wpAnyH_take (i := 11) (v := ?v45) rfl (by kernel_rfl) (by kernel_rfl) (by kernel_rfl) (fun _ _ _ h => h) (Or.inl ⟨by rfl, ?hy45⟩) (by assumption) ?rest45
            case hy45 => (intro wy hSw; (try dsimp only at hSw); go_simp; (first | done | with_reducible rfl))
            try simp only [Act.put, List.getElem_toArray, List.getElem_cons_zero, List.getElem_cons_succ, List.setIfInBounds_toArray, List.set_cons_zero, List.set_cons_succ]
            refine wpAnyH_ready (rs := [9]) (by kernel_rfl) (by simp) ?_
            refine AllReadyH.cons rfl (fun KK hK => ?_) AllReadyH.nil
            rw [if_pos (by rfl)]
            go_simp
            rw [← HY.out]
            refine hK.out _ _ (HSX.out Y HBY.out) (fun hHeld => ?_)
            clear hK KK
            try simp only [Act.put, List.getElem_toArray, List.getElem_cons_zero, List.getElem_cons_succ, List.setIfInBounds_toArray, List.set_cons_zero, List.set_cons_succ]
            refine wpAnyH_ready (rs := [10]) (by kernel_rfl) (by simp) ?_
            refine AllReadyH.cons rfl (fun KK hK => ?_) AllReadyH.nil
            rw [if_pos (by rfl)]
            go_simp
            go_at_call 11
            refine (totals_any Y.drew HPY.out.drew).mono ?_
            rintro e w6 ⟨u6, rfl, ho6, hb6'⟩
            have hb6 : Below X.heap.size X w6 := HBY.out.trans ((below_undrew10 hb6').mono HBY.out.size)
            have HO6 : Hid (Sees .u64 w6 u6 (totL [some A0, none, some A1, some A0])) := Sees.own (by rw [tot_len]; exact ho6) (W64L.tot _).wf
            have HB6 : Hid (Below X.heap.size X w6) := hb6
            refine hK.out _ _ (HSX.out w6 hb6) (fun hHeld => ?_)
            clear hK KK ho6 hb6' hb6 HPY
            try simp only [Act.put, List.getElem_toArray, List.getElem_cons_zero, List.getElem_cons_succ, List.setIfInBounds_toArray, List.set_cons_zero, List.set_cons_succ]
            refine wpAnyH_ready (rs := [12]) (by kernel_rfl) (by simp) ?_
            refine AllReadyH.cons rfl (fun KK hK => ?_) AllReadyH.nil
            rw [if_pos (by rfl)]
            go_simp
            go_at_call 12
            refine (rtotals_any w6 (HKX.out.below HB6.out)).mono ?_
            rintro e w7 ⟨u7, rfl, ho7, hb7⟩
            have HO7 : Hid (Sees .u64 w7 u7 (totL [some A0, none, some A1, some A0])) := Sees.own (by rw [tot_len]; exact ho7) (W64L.tot _).wf
            have HO67 : Hid (Sees .u64 w7 u6 (totL [some A0, none, some A1, some A0])) := HO6.out.below hb7 (Nat.le_refl _)
            have HB7 : Hid (Below X.heap.size X w7) := HB6.out.trans (hb7.mono HB6.out.size)
            refine hK.out _ _ (HSX.out w7 HB7.out) (fun hHeld => ?_)
            clear hK KK ho7 hb7 HO6
            try simp only [Act.put, List.getElem_toArray, List.getElem_cons_zero, List.getElem_cons_succ, List.setIfInBounds_toArray, List.set_cons_zero, List.set_cons_succ]
            refine wpAnyH_ready (rs := [13]) (by kernel_rfl) (by simp) ?_
            refine AllReadyH.cons rfl (fun KK hK => ?_) AllReadyH.nil
            rw [if_pos (by rfl)]
            go_simp
            go_at_call 10
            refine (numbers_any u6 u7 _ _ _ HO67.out HO7.out).mono ?_
            rintro e w8 ⟨rfl, n8, hw8⟩
            rw [eqB_true (rfl : totL [some A0, none, some A1, some A0] = totL [some A0, none, some A1, some A0])]
            have HB8 : Hid (Below X.heap.size X w8) := by rw [hw8]; exact below_drewN HB7.out _
            clear hw8
            refine hK.out _ _ (HSX.out w8 HB8.out) (fun hHeld => ?_)
            clear hK KK
            try simp only [Act.put, List.getElem_toArray, List.getElem_cons_zero, List.getElem_cons_succ, List.setIfInBounds_toArray, List.set_cons_zero, List.set_cons_succ]
            refine wpAnyH_take (i := 14) (v := ?v46) rfl (by kernel_rfl) (by kernel_rfl) (by kernel_rfl) (fun _ _ _ h => h) (Or.inl ⟨by rfl, ?hy46⟩) (by assumption) ?rest46
            case hy46 => (intro wy hSw; (try dsimp only at hSw); go_simp; (first | done | with_reducible rfl))
            try simp only [Act.put, List.getElem_toArray, List.getElem_cons_zero, List.getElem_cons_succ, List.setIfInBounds_toArray, List.set_cons_zero, List.set_cons_succ]
            refine wpAnyH_ready (rs := [15, 16]) (by kernel_rfl) (by simp) ?_
            refine AllReadyH.cons rfl (fun KK hK => ?_) (AllReadyH.cons rfl (fun KK hK => ?_) AllReadyH.nil) <;> rw [if_pos (by rfl)]
            · go_simp
              go_at_call 11
              refine (totals_any w8 (seesP_nil w8)).mono ?_
              rintro e w9 ⟨u9, rfl, ho9, hb9⟩
              have HO9 : Hid (Sees .u64 w9 u9 nought) := Sees.own (by exact ho9) W64L.nought.wf
              have HB9 : Hid (Below X.heap.size X w9) := HB8.out.trans (hb9.mono HB8.out.size)
              refine hK.out _ _ (HSX.out w9 HB9.out) (fun hHeld => ?_)
              clear hK KK ho9 hb9
              try simp only [Act.put, List.getElem_toArray, List.getElem_cons_zero, List.getElem_cons_succ, List.setIfInBounds_toArray, List.set_cons_zero, List.set_cons_succ]
              refine wpAnyH_ready (rs := [16]) (by kernel_rfl) (by simp) ?_
              refine AllReadyH.cons rfl (fun KK hK => ?_) AllReadyH.nil
              rw [if_pos (by rfl)]
              go_simp
              have HBA : Hid (Below X.heap.size X (w9.alloc (.cells zc.toArray 32))) := HB9.out.trans ((below_alloc _ _).mono HB9.out.size)
              refine hK.out _ _ (HSX.out _ HBA.out) (fun hHeld => ?_)
              clear hK KK
              try simp only [Act.put, List.getElem_toArray, List.getElem_cons_zero, List.getElem_cons_succ, List.setIfInBounds_toArray, List.set_cons_zero, List.set_cons_succ]
              refine wpAnyH_ready (rs := [17]) (by kernel_rfl) (by simp) ?_
              refine AllReadyH.cons rfl (fun KK hK => ?_) AllReadyH.nil
              rw [if_pos (by rfl)]
              go_simp
              go_at_call 10
              refine (numbers_any u9 _ nought nought _ (HO9.out.alloc _) (HMS.out w9)).mono ?_
              rintro e wB ⟨rfl, nB, hwB⟩
              rw [eqB_true (rfl : nought = nought)]
              have HBB : Hid (Below X.heap.size X wB) := by rw [hwB]; exact below_drewN HBA.out _
              clear hwB
              refine hK.out _ _ (HSX.out wB HBB.out) (fun hHeld => ?_)
              clear hK KK
              try simp only [Act.put, List.getElem_toArray, List.getElem_cons_zero, List.getElem_cons_succ, List.setIfInBounds_toArray, List.set_cons_zero, List.set_cons_succ]
              refine wpAnyH_take (i := 18) (v := ?v47) rfl (by kernel_rfl) (by kernel_rfl) (by kernel_rfl) (fun _ _ _ h => h) (Or.inl ⟨by rfl, ?hy47⟩) (by assumption) ?rest47
              case hy47 => (intro wy hSw; (try dsimp only at hSw); go_simp; (first | done | with_reducible rfl))
              try simp only [Act.put, List.getElem_toArray, List.getElem_cons_zero, List.getElem_cons_succ, List.setIfInBounds_toArray, List.set_cons_zero, List.set_cons_succ]
              refine wpAnyH_take (i := 19) (v := ?v48) rfl (by kernel_rfl) (by kernel_rfl) (by kernel_rfl) (fun _ _ _ h => h) (Or.inl ⟨by rfl, ?hy48⟩) (by assumption) ?rest48
              case hy48 => (intro wy hSw; (try dsimp only at hSw); go_simp; (first | done | with_reducible rfl))
              try simp only [Act.put, List.getElem_toArray, List.getElem_cons_zero, List.getElem_cons_succ, List.setIfInBounds_toArray, List.set_cons_zero, List.set_cons_succ]
              refine wpAnyH_done (by kernel_rfl) ?_ _
              go_wp2
              go_ret
              exact ⟨rfl, HBX.out.trans (HBB.out.mono HBX.out.size)⟩
            · go_simp
              obtain ⟨V, HV8, HB9, HM9⟩ : ∃ V, Hid (w8.alloc (.cells zc.toArray 32) = V) ∧ Hid (Below X.heap.size X V) ∧ Hid (Sees .u64 V (.slice (some ⟨w8.heap.size, 0, none⟩) 16 16) nought) := ⟨_, rfl, HB8.out.trans ((below_alloc _ _).mono HB8.out.size), HMS.out w8⟩
              rw [HV8.out]
              refine hK.out _ _ (HSX.out _ HB9.out) (fun hHeld => ?_)
              clear hK KK
              try simp only [Act.put, List.getElem_toArray, List.getElem_cons_zero, List.getElem_cons_succ, List.setIfInBounds_toArray, List.set_cons_zero, List.set_cons_succ]
              refine wpAnyH_ready (rs := [15]) (by kernel_rfl) (by simp) ?_
              refine AllReadyH.cons rfl (fun KK hK => ?_) AllReadyH.nil
              rw [if_pos (by rfl)]
              go_simp
              go_at_call 11
              refine (totals_any V (seesP_nil V)).mono ?_
              rintro e w9 ⟨u9, rfl, ho9, hb9⟩
              have HO9 : Hid (Sees .u64 w9 u9 nought) := Sees.own (by exact ho9) W64L.nought.wf
              have HN9 : Hid (Sees .u64 w9 (.slice (some ⟨w8.heap.size, 0, none⟩) 16 16) nought) := HM9.out.below hb9 (Nat.le_refl _)
              have HBA : Hid (Below X.heap.size X w9) := HB9.out.trans (hb9.mono HB9.out.size)
              refine hK.out _ _ (HSX.out w9 HBA.out) (fun hHeld => ?_)
              clear hK KK ho9 hb9
              try simp only [Act.put, List.getElem_toArray, List.getElem_cons_zero, List.getElem_cons_succ, List.setIfInBounds_toArray, List.set_cons_zero, List.set_cons_succ]
              refine wpAnyH_ready (rs := [17]) (by kernel_rfl) (by simp) ?_
              refine AllReadyH.cons rfl (fun KK hK => ?_) AllReadyH.nil
              rw [if_pos (by rfl)]
              go_simp
              go_at_call 10
              refine (numbers_any u9 _ nought nought _ HO9.out HN9.out).mono ?_
              rintro e wB ⟨rfl, nB, hwB⟩
              rw [eqB_true (rfl : nought = nought)]
              have HBB : Hid (Below X.heap.size X wB) := by rw [hwB]; exact below_drewN HBA.out _
              clear hwB
              refine hK.out _ _ (HSX.out wB HBB.out) (fun hHeld => ?_)
              clear hK KK
              try simp only [Act.put, List.getElem_toArray, List.getElem_cons_zero, List.getElem_cons_succ, List.setIfInBounds_toArray, List.set_cons_zero, List.set_cons_succ]
              refine wpAnyH_take (i := 18) (v := ?v49) rfl (by kernel_rfl) (by kernel_rfl) (by kernel_rfl) (fun _ _ _ h => h) (Or.inl ⟨by rfl, ?hy49⟩) (by assumption) ?rest49
              case hy49 => (intro wy hSw; (try dsimp only at hSw); go_simp; (first | done | with_reducible rfl))
              try simp only [Act.put, List.getElem_toArray, List.getElem_cons_zero, List.getElem_cons_succ, List.setIfInBounds_toArray, List.set_cons_zero, List.set_cons_succ]
              refine wpAnyH_take (i := 19) (v := ?v50) rfl (by kernel_rfl) (by kernel_rfl) (by kernel_rfl) (fun _ _ _ h => h) (Or.inl ⟨by rfl, ?hy50⟩) (by assumption) ?rest50
              case hy50 => (intro wy hSw; (try dsimp only at hSw); go_simp; (first | done | with_reducible rfl))
              try simp only [Act.put, List.getElem_toArray, List.getElem_cons_zero, List.getElem_cons_succ, List.setIfInBounds_toArray, List.set_cons_zero, List.set_cons_succ]
              refine wpAnyH_done (by kernel_rfl) ?_ _
              go_wp2
              go_ret
              exact ⟨rfl, HBX.out.trans (HBB.out.mono HBX.out.size)⟩
end Go.Proofs.Ytmfgpaigabkbbaa
