
/-
  The document's LRU of layer 14 as an object. Condition: what is said of them.
-/
import Derived.Test.YtinoelooccmmnaaL14Plain
import Derived.Test.YtinoelooccmmnaaGObj
import Derived.Test.YtinoelooccmmnaaW14Kit
namespace Go.Proofs.Ytinoelooccmmnaa
open Go.RowKit
set_option linter.unusedVariables false
set_option linter.unusedSimpArgs false
set_option maxRecDepth 100000

/-- The document's LRU. -/
def Ro (w : World) (B l cap : Nat) (s : Lt) (F : Ft) : Prop := ∃ b vd vk vw, Rl w B l b cap vd vk vw s.D s.kt s.c ∧ F = footR l b vd vk vw
section
variable {w w' : World} {B l cap : Nat} {s : Lt} {F G : Ft}
theorem Ro.lies (h : Ro w B l cap s F) : Lies w F := by
  obtain ⟨b, vd, vk, vw, h1, rfl⟩ := h
  exact fun k hk => h1.foot hk
theorem Ro.keeps (h : Ro w B l cap s F) (hc : Chg w w' G) (ha : Apt G F) : Ro w' B l cap s F := by
  obtain ⟨b, vd, vk, vw, h1, rfl⟩ := h
  exact ⟨b, vd, vk, vw, h1.chg hc (fun k hk e => ha k e hk), rfl⟩
theorem Ro.below (h : Ro w B l cap s F) (hb : Below w.heap.size w w') : Ro w' B l cap s F := by
  obtain ⟨b, vd, vk, vw, h1, rfl⟩ := h
  exact ⟨b, vd, vk, vw, h1.below hb, rfl⟩
theorem Ro.drewN (h : Ro w B l cap s F) (n : Nat) : Ro (w.drewN n) B l cap s F := h.below ⟨rfl, rfl, rfl, Nat.le_refl _, fun _ _ => rfl⟩
/-- What the document's LRU keeps. -/
structure InvR (cap : Nat) (s : Lt) (S : List Pp) : Prop where
  k : InvK s
  a : InvA cap S (recT s.kt)
  p : S.Perm s.D
theorem InvR.do {S : List Pp} (h : InvR cap s S) (op key val : Int) : InvR cap (doT cap s op key val).2 (doA cap S (recT s.kt) op key val).2.1 := by
  obtain ⟨e1, e2, e3, e4⟩ := doA_same (cap := cap) h.a.srt h.p op key val
  refine ⟨h.k.do op key val, ?_, e2⟩
  have := h.a.do op key val
  rw [e3] at this
  exact this
theorem Ro.do_any (op key val : Int) {S : List Pp} (h : Ro w B l cap s F) (hi : InvR cap s S) (hc16 : cap ≤ 16) (hc : s.c ≤ 4000) (hB : B ≤ w.heap.size) :
    Calls Try.prog 31 #[.pointer (some ⟨l, 0, none⟩), .int .i64 op, .int .u64 key, .int .u64 val] w fun e w' => e = .returned (resG (doT cap s op key val).1.E (doT cap s op key val).1.f (doT cap s op key val).1.v (doT cap s op key val).1.o (doT cap s op key val).1.k (doT cap s op key val).1.u) ∧ ∃ F', Ro w' B l cap (doT cap s op key val).2 F' ∧ Nx w w' F F' := by
  obtain ⟨b, vd, vk, vw, h1, rfl⟩ := h
  have hpl := hi.p.length_eq
  have hkl : s.kt.length = s.D.length := by
    have h9 := hi.a.keys.length_eq
    unfold recT at h9
    rw [List.length_reverse, List.length_map, List.length_map] at h9
    omega
  have hl := hi.a.len
  refine (rldo_any op key val h1 (by omega) hc16 (by omega) hc hi.k.ris (fun e => by have := hi.a.cap1; omega) hB).mono ?_
  rintro e w' ⟨rfl, vd', vk', vw', g1, g2, g3⟩
  exact ⟨rfl, _, ⟨b, vd', vk', vw', g1, rfl⟩, g2, g3⟩
theorem flat_rec (kt : List Kp) : flatG kC kt.reverse = flatG uC (recT kt) := by
  unfold recT flatG
  rw [← List.map_reverse, List.flatMap_map]
/-- The list of its book, by rising keys. -/
theorem Ro.book {S : List Pp} (h : Ro w B l cap s F) (hi : InvR cap s S) (hc16 : cap ≤ 16) : ∃ b a c, w.cell? ⟨l, 0, none⟩ = some (.pointer (some ⟨b, 0, none⟩)) ∧ w.cell? ⟨b, 1, none⟩ = some (.slice a s.D.length c) ∧
    Calls Try.prog 26 #[.pointer (some ⟨b, 0, none⟩)] w fun e w' => ∃ u, e = .returned u ∧ w'.ownsRow w.heap.size 64 2 u S.length (flatG ppC S) ∧ Below w.heap.size w w' := by
  obtain ⟨b, vd, vk, vw, h1, rfl⟩ := h
  obtain ⟨a, c, rfl⟩ := own_shape h1.bk.row
  have hpl := hi.p.length_eq
  have hl := hi.a.len
  exact ⟨b, a, c, h1.hp.cell (j := 0) rfl, h1.bk.hp.cell (j := 1) rfl, rpairs_any h1.bk (by omega) hi.p hi.a.srt⟩
end
end Go.Proofs.Ytinoelooccmmnaa
