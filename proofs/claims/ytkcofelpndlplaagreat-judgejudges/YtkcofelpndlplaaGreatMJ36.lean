
/-
 What the document's Same answers for two modules that read alike. Condition: the modules' slices read as the same numbers and the same instructions.
-/
import Derived.Test.YtkcofelpndlplaaGreatMJ35
import Derived.Test.YtkcofelpndlplaaGreatMJ33
import Derived.BigQuiet
import Derived.Deep.QuietTactic
namespace Go.Proofs.YtkcofelpndlplaaGreat
open Go.RowKit
set_option linter.unusedVariables false
set_option linter.unusedSimpArgs false
set_option maxRecDepth 100000

theorem Sees.cellAt {k : IntKind} {w : World} {a : Option Addr} {n cap : Nat} {xs : List Int} (h : Sees k w (.slice a n cap) xs) (i : Nat) (hi : i < xs.length) : ∃ b off, a = some ⟨b, off, none⟩ /\ w.cell? ⟨b, off + i, none⟩ = some (.int k (xs.getD i 0)) := by
 obtain ⟨a', cap', hv, _, _, _, _, hs⟩ := h
 injection hv with e1
 subst e1
 obtain ⟨b, off, rfl, _, hc⟩ := hs (fun e => by subst e; simp at hi)
 exact ⟨b, off, rfl, hc i hi⟩
theorem SeesI.cellAt {w : World} {a : Option Addr} {n cap : Nat} {xs : List In} (h : SeesI w (.slice a n cap) xs) (i : Nat) (hi : i < xs.length) : ∃ b off, a = some ⟨b, off, none⟩ /\ At w b (off + i * 5) (xs.getD i In.nil) := by
 obtain ⟨a', cap', hv, _, _, _, hs⟩ := h
 injection hv with e1
 subst e1
 obtain ⟨b, off, rfl, _, hc⟩ := hs (fun e => by subst e; simp at hi)
 exact ⟨b, off, rfl, hc i hi⟩
theorem Sees.lenMax {k : IntKind} {w : World} {v : Value} {xs : List Int} (h : Sees k w v xs) : xs.length <= 9223372036854775807 := by
 obtain ⟨a, cap, _, h1, h2, _⟩ := h
 unfold maxLen at h2
 omega
theorem SeesI.lenMax {w : World} {v : Value} {xs : List In} (h : SeesI w v xs) : xs.length <= 9223372036854775807 := by
 obtain ⟨a, cap, _, h1, h2, _⟩ := h
 unfold maxLen at h2
 omega
set_option maxHeartbeats 6400000 in
theorem rsame9_any (vm vc um uc : Value) (ms : List Int) (is : List In) (w : World) (h : SeesM w vm vc ms is) (h' : SeesM w um uc ms is) :
  Calls Tryz.prog 9 #[modV vm vc, modV um uc] w fun e w' => e = .returned (.bool true) /\ Below w.heap.size w w' := by
 obtain ⟨am, km, hvm⟩ := h.maps.shape
 obtain ⟨ac, kc, hvc⟩ := h.code.shape
 obtain ⟨bm, lm, hum⟩ := h'.maps.shape
 obtain ⟨bc, lc, huc⟩ := h'.code.shape
 have m1 := h.maps.lenMax
 have m2 := h.code.lenMax
 obtain ⟨W, HW⟩ : ∃ W, Hid (W = (w.alloc (.cells #[vm, vc] 25)).alloc (.cells #[um, uc] 25)) := ⟨_, rfl⟩
 have HB : Hid (Below w.heap.size w W) := by rw [HW.out]; exact (below_alloc w _).alloc (by simp) _
 have HM1 := keepJ (h.below HB.out)
 have HM2 := keepJ (h'.below HB.out)
 have HD1 : Hid (MdC W w.heap.size vm vc) := by rw [HW.out]; exact (MdC.new w vm vc).kept (grownA_alloc _ _ none) (by simp)
 have HD2 : Hid (MdC W (w.heap.size + 1) um uc) := by
  rw [HW.out]
  have := MdC.new (w.alloc (.cells #[vm, vc] 25)) um uc
  rwa [World.size_alloc] at this
 obtain ⟨L, HL⟩ : ∃ L, Hid (L = ms.length) := ⟨_, rfl⟩
 obtain ⟨N, HN⟩ : ∃ N, Hid (N = is.length) := ⟨_, rfl⟩
 rw [<- HL.out] at hvm m1 hum
 rw [<- HN.out] at hvc m2 huc
 subst hvm hvc hum huc
 clear h h'
 obtain ⟨c0, c1⟩ := HD1.out.cells
 obtain ⟨d0, d1⟩ := HD2.out.cells
 clear HD1 HD2
 go_enter Tryz.func9, Tryz.ntmps9
 go_wp2_with fail
 rw [<- HW.out]
 go_loopw [5] (fun i wr => ∃ k n : Nat, k <= L /\ i = .int .i64 k /\ wr = W.drewN n) (fun i _ => L - (intOf i).toNat)
 case atStart => exact ⟨0, 0, by omega, rfl, rfl⟩
 case round =>
  obtain ⟨k, n, hk, rfl, rfl⟩ := hrel
  by_cases hlt : k < L
  ·obtain ⟨b1, o1, e1, hx⟩ := HM1.out.maps.cellAt k (by rw [<- HL.out]; exact hlt)
   obtain ⟨b2, o2, e2, hy⟩ := HM2.out.maps.cellAt k (by rw [<- HL.out]; exact hlt)
   obtain ⟨x, HX⟩ : ∃ x, Hid (ms.getD k 0 = x) := ⟨_, rfl⟩
   rw [HX.out] at hx hy
   subst e1 e2
   go_wp2_with fail
   go_quiet (fail)
   go_wp2_with fail
   go_roundw
   case rel => exact ⟨k + 1, _, by omega, by go_num, rfl⟩
   case measure => simp [intOf]; omega
  ·go_wp2_with fail
   go_loopw [6] (fun i wr => ∃ k n : Nat, k <= N /\ i = .int .i64 k /\ wr = W.drewN n) (fun i _ => N - (intOf i).toNat)
   case atStart => exact ⟨0, _, by omega, rfl, rfl⟩
   case round =>
    clear hlt hk
    obtain ⟨k, n, hk, rfl, rfl⟩ := hrel
    by_cases hlt : k < N
    ·obtain ⟨b1, o1, e1, hx⟩ := HM1.out.code.cellAt k (by rw [<- HN.out]; exact hlt)
     obtain ⟨b2, o2, e2, hy⟩ := HM2.out.code.cellAt k (by rw [<- HN.out]; exact hlt)
     obtain ⟨op, d, a, bb, imm, HI⟩ : ∃ op d a bb imm, Hid (is.getD k In.nil = ⟨op, d, a, bb, imm⟩) := ⟨_, _, _, _, _, rfl⟩
     rw [HI.out] at hx hy
     subst e1 e2
     obtain ⟨h0, h1, h2', h3, h4⟩ := hx
     obtain ⟨g0, g1, g2, g3, g4⟩ := hy
     simp only at h0 h1 h2' h3 h4 g0 g1 g2 g3 g4
     clear HI
     go_wp2_with fail
     go_quiet (fail)
     go_wp2_with fail
     go_roundw
     case rel => exact ⟨k + 1, _, by omega, by go_num, rfl⟩
     case measure => simp [intOf]; omega
    ·go_wp2_with fail
     go_ret
     exact ⟨rfl, below_drewN HB.out _⟩
end Go.Proofs.YtkcofelpndlplaaGreat
