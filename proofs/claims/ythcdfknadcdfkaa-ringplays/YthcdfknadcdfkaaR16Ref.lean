
/-
  The document's ring of layer 16: its calls. Condition: it lies where the pointer says, its row is the call's own.
-/
import Derived.Test.YthcdfknadcdfkaaR16Plain
import Derived.Test.YthcdfknadcdfkaaGSees
import Derived.Deep.RegionHeld3
import Derived.Deep.RegionHeldLaw
import Derived.Maps.AppendAt
namespace Go.Proofs.Ythcdfknadcdfkaa
open Go.RowKit
set_option linter.unusedVariables false
set_option linter.unusedSimpArgs false
set_option maxRecDepth 100000

abbrev qeC (q : Qe) : List Value := [.int .i64 q.n, .int .u64 q.a, .int .u64 q.b]
abbrev qeV (q : Qe) : Value := .agg #[.int .i64 q.n, .int .u64 q.a, .int .u64 q.b]
theorem qeC_len (q : Qe) : (qeC q).length = 3 := rfl
/-- The document's ring, at a block. -/
structure Rk (w : World) (B b : Nat) (v : Value) (r : Rg) : Prop where
  hp : Hp w b 64 [.int .i64 r.room, .int .i64 r.taken, .int .i64 r.refused, .bool r.closed, v]
  row : w.ownsRow B 46 3 v r.all.length (flatG qeC r.all)
section
variable {w w' : World} {B b : Nat} {v : Value} {r : Rg}
theorem Rk.below (h : Rk w B b v r) (hb : Below w.heap.size w w') : Rk w' B b v r := ⟨h.hp.below hb h.hp.lt, own_below h.row hb (Nat.le_refl _)⟩
theorem Rk.chg {S : Nat → Prop} (h : Rk w B b v r) (hc : Chg w w' S) (h1 : ¬ S b) (h2 : ∀ k, v.ownBlock = some k → ¬ S k) : Rk w' B b v r := ⟨h.hp.chg hc h1, own_chg h.row hc h2⟩
end
theorem kNew_ok (n : Nat) (h1 : 1 ≤ n) (h2 : n ≤ 16) (w : World) : Calls Try.prog 9 #[.int .i64 n] w fun e w' => e = .returned (.tuple #[.pointer (some ⟨w.heap.size, 0, none⟩), .int .i64 0]) ∧ Rk w' w.heap.size w.heap.size (.slice none 0 0) (Rg.new n) ∧ Below w.heap.size w w' ∧ w'.heap.size = w.heap.size + 1 := by
  have h1I : ¬ (n : Int) < 1 := by omega
  have h2I : ¬ (16 : Int) < n := by omega
  go_enter Try.func9, Try.ntmps9
  go_wp2
  go_ret2
  exact ⟨rfl, ⟨Hp.new w _ _, World.ownsRow_nil _ _ _ _⟩, by go_grown, by simp⟩
theorem kNew_no (n : Int) (h : n < 1 ∨ 16 < n) (w : World) : Calls Try.prog 9 #[.int .i64 n] w fun e w' => e = .returned (.tuple #[.pointer none, .int .i64 2]) ∧ w = w' := by
  rcases h with h | h
  · go_enter Try.func9, Try.ntmps9
    go_wp2
    go_ret2
    exact ⟨rfl, rfl⟩
  · have h1 : ¬ n < 1 := by omega
    go_enter Try.func9, Try.ntmps9
    go_wp2
    go_ret2
    exact ⟨rfl, rfl⟩
/-- A slice of records, cut from place i on. -/
def cutZ (z : Nat) (a : Option Addr) (i len cap : Nat) : Value := .slice (if cap = i then a else a.map (·.add (i * z))) (len - i) (cap - i)
theorem run_cutZ {t e : TypeId} {z : Nat} (ht : Try.prog.underlying t = some (.slice e)) (hs : ∀ w, (Go.sizeOf e).run Try.prog w = .ok z w) (a : Option Addr) (len cap i : Nat) (hi : i ≤ len) (w : World) :
    (Instr.slice t (.slice a len cap) (some (.int .i64 i)) none none).run Try.prog w = .ok (cutZ z a i len cap) w := by
  have h0 : (i : Int) ≤ (len : Int) := by omega
  simp [Instr.slice, run_underlying ht, Instr.sliceBounds, run_sliceBound, h0, hs, cutZ]
theorem SeesG.cutZ {α : Type} {f : α → List Value} {z : Nat} {d : α} {w : World} {a : Option Addr} {cap : Nat} {xs : List α} (h : SeesG f z d w (.slice a xs.length cap) xs) (i : Nat) (hi : i ≤ xs.length) : SeesG f z d w (cutZ z a i xs.length cap) (xs.drop i) := by
  obtain ⟨a', cap', hv, h1, h2, h3, h5⟩ := h
  obtain ⟨rfl, _, rfl⟩ : a = a' ∧ xs.length = xs.length ∧ cap = cap' := by injection hv with e1 e2 e3; exact ⟨e1, e2, e3⟩
  have hlen : (xs.drop i).length = xs.length - i := by simp
  refine ⟨_, cap - i, by rw [hlen]; rfl, by omega, by omega, fun hn => ?_, fun hne => ?_⟩
  · split at hn
    · omega
    · have : a = none := by simpa using hn
      have := h3 this
      omega
  · have hlt : i < xs.length := by
      refine Nat.lt_of_not_le fun e => hne ?_
      exact List.drop_eq_nil_of_le e
    obtain ⟨b, off, rfl, hb, hc⟩ := h5 (fun e => by rw [e] at hlt; simp at hlt)
    rw [if_neg (by omega)]
    refine ⟨b, off + i * z, by simp [Addr.add], hb, fun k hk j hj => ?_⟩
    have hk2 : i + k < xs.length := by rw [hlen] at hk; omega
    have := hc (i + k) hk2 j hj
    rw [show off + i * z + k * z + j = off + (i + k) * z + j by rw [Nat.add_mul]; omega, this]
    congr 1
    simp [List.getD, List.getElem?_drop]
section
variable {w : World} {B b : Nat} {v : Value} {r : Rg}
theorem Rk.low {w' : World} (h : Rk w B b v r) : w.cell? ⟨b, 0, none⟩ = some (.int .i64 r.room) ∧ w.cell? ⟨b, 1, none⟩ = some (.int .i64 r.taken) ∧ w.cell? ⟨b, 2, none⟩ = some (.int .i64 r.refused) ∧ w.cell? ⟨b, 3, none⟩ = some (.bool r.closed) ∧ w.cell? ⟨b, 4, none⟩ = some v := ⟨h.hp.cell rfl, h.hp.cell rfl, h.hp.cell rfl, h.hp.cell rfl, h.hp.cell rfl⟩
theorem kWaits_any (h : Rk w B b v r) (ht : r.taken ≤ r.all.length) : Calls Try.prog 18 #[.pointer (some ⟨b, 0, none⟩)] w fun e w' => ∃ u k, e = .returned u ∧ SeesG qeC 3 Qe.nil w u r.waits ∧ w' = w.drewN k := by
  obtain ⟨c0, c1, c2, c3, c4⟩ := h.low (w' := w)
  have hs := own_seesG qeC_len Qe.nil h.row
  obtain ⟨a, cap, rfl, hcap, hm⟩ := hs.shape
  have HS := keepG hs
  clear hs
  obtain ⟨rm, tk, rf, cl, al⟩ := r
  simp only at *
  cases cl with
  | true =>
    go_enter Try.func18, Try.ntmps18
    go_wp2
    go_ret
    exact ⟨_, 0, rfl, SeesG.nil _ _, rfl⟩
  | false =>
    have hrun := fun wx => run_cutZ (z := 3) (t := 50) Try.underlying50 (fun _ => by kernel_rfl) a al.length cap tk ht wx
    obtain ⟨u, HU⟩ : ∃ u, Hid (cutZ 3 a tk al.length cap = u) := ⟨_, rfl⟩
    rw [HU.out] at hrun
    have HC := keepG (HS.out.cutZ tk ht)
    rw [HU.out] at HC
    go_enter Try.func18, Try.ntmps18
    go_wp2
    go_region
    go_wp2
    go_ret
    exact ⟨_, 1, rfl, HC.out, rfl⟩
end
end Go.Proofs.Ythcdfknadcdfkaa
