
/-
  The document's LRU of layer 14: New, forget, its book. Condition: it lies where the pointer says, its rows are the call's own.
-/
import Derived.Test.YtpbfgebecgikjaaB13RPairs
import Derived.Test.YtpbfgebecgikjaaGSees
namespace Go.Proofs.Ytpbfgebecgikjaa
open Go.RowKit
set_option linter.unusedVariables false
set_option linter.unusedSimpArgs false
set_option maxRecDepth 100000

/-- A key and when it was touched. -/
structure Kp where
  k : Int
  t : Int
def Kp.nil : Kp := ⟨0, 0⟩
abbrev kC (p : Kp) : List Value := [.int .u64 p.k]
abbrev tC (p : Kp) : List Value := [.int .i64 p.t]
theorem kC_len (p : Kp) : (kC p).length = 1 := rfl
theorem tC_len (p : Kp) : (tC p).length = 1 := rfl
theorem kC_one (p : Kp) : ∀ u ∈ kC p, u.oneCell' = true := by intro u hu; simp at hu; subst hu; rfl
theorem tC_one (p : Kp) : ∀ u ∈ tC p, u.oneCell' = true := by intro u hu; simp at hu; subst hu; rfl
def forgetT (key : Int) (kt : List Kp) : List Kp := kt.filter (fun p => decide (p.k ≠ key))
theorem infoU64 : (Try.prog.info? 41).map (fun i => (i.zero, i.size, i.bytes)) = some (some (.int .u64 0), 1, 8) := by kernel_rfl
theorem infoI64 : (Try.prog.info? 3).map (fun i => (i.zero, i.size, i.bytes)) = some (some (.int .i64 0), 1, 8) := by kernel_rfl
structure Rl (w : World) (B l b cap : Nat) (vd vk vw : Value) (D : List Pp) (kt : List Kp) (c : Int) : Prop where
  hp : Hp w l 96 [.pointer (some ⟨b, 0, none⟩), vk, vw, .int .i64 c]
  bk : Rb w B b cap vd D
  ks : w.ownsRow B 41 1 vk kt.length (flatG kC kt)
  ws : w.ownsRow B 3 1 vw kt.length (flatG tC kt)
def footR (l b : Nat) (vd vk vw : Value) (k : Nat) : Prop := k = l ∨ k = b ∨ vd.ownBlock = some k ∨ vk.ownBlock = some k ∨ vw.ownBlock = some k
section
variable {w : World} {B l b cap : Nat} {vd vk vw : Value} {D : List Pp} {kt : List Kp} {c : Int}
theorem Rl.below {w' : World} (h : Rl w B l b cap vd vk vw D kt c) (hb : Below w.heap.size w w') : Rl w' B l b cap vd vk vw D kt c := ⟨h.hp.below hb h.hp.lt, h.bk.below hb, own_below h.ks hb (Nat.le_refl _), own_below h.ws hb (Nat.le_refl _)⟩
theorem Rl.drew (h : Rl w B l b cap vd vk vw D kt c) : Rl w.drew B l b cap vd vk vw D kt c := ⟨h.hp.drew, h.bk.drew, h.ks, h.ws⟩
theorem Rl.foot (h : Rl w B l b cap vd vk vw D kt c) {k : Nat} (hk : footR l b vd vk vw k) : k < w.heap.size := by
  rcases hk with e | e | e | e | e
  · rw [e]; exact h.hp.lt
  · rw [e]; exact h.bk.hp.lt
  · exact (h.bk.row.lt k e).2
  · exact (h.ks.lt k e).2
  · exact (h.ws.lt k e).2
/-- What an operation leaves. -/
def RlNext (w : World) (B l b cap : Nat) (vd vk vw : Value) (D' : List Pp) (kt' : List Kp) (c' : Int) (w' : World) : Prop := ∃ vd' vk' vw', Rl w' B l b cap vd' vk' vw' D' kt' c' ∧ Chg w w' (footR l b vd vk vw) ∧ ∀ k, footR l b vd' vk' vw' k → footR l b vd vk vw k ∨ w.heap.size ≤ k
theorem RlNext.same {w' : World} (h : Rl w B l b cap vd vk vw D kt c) (hb : Below w.heap.size w w') : RlNext w B l b cap vd vk vw D kt c w' := ⟨vd, vk, vw, h.below hb, Chg.of_below hb, fun k hk => .inl hk⟩
theorem RlNext.trans {w1 w2 : World} {vd1 vk1 vw1 : Value} {D2 : List Pp} {kt2 : List Kp} {c2 : Int} (hc : Chg w w1 (footR l b vd vk vw)) (hf : ∀ k, footR l b vd1 vk1 vw1 k → footR l b vd vk vw k ∨ w.heap.size ≤ k) (h2 : RlNext w1 B l b cap vd1 vk1 vw1 D2 kt2 c2 w2) : RlNext w B l b cap vd vk vw D2 kt2 c2 w2 := by
  obtain ⟨vd2, vk2, vw2, g1, g2, g3⟩ := h2
  refine ⟨vd2, vk2, vw2, g1, hc.trans g2 (fun k hk e => ?_), fun k hk => ?_⟩
  · rcases hf k e with g | g
    · exact g
    · omega
  · rcases g3 k hk with g | g
    · exact hf k g
    · exact .inr (Nat.le_trans hc.size g)
/-- Its book's Do. -/
theorem Rl.bdo (op key val : Int) (h : Rl w B l b cap vd vk vw D kt c) (hl : D.length ≤ 1000) (hB : B ≤ w.heap.size) :
    Calls Try.prog 37 #[.pointer (some ⟨b, 0, none⟩), .int .i64 op, .int .u64 key, .int .u64 val] w fun e w' => e = .returned (resG (doP cap D op key val).1.E (doP cap D op key val).1.f (doP cap D op key val).1.v false 0 0) ∧ RlNext w B l b cap vd vk vw (doP cap D op key val).2 kt c w' ∧ ∀ n cs, Hp w n 47 cs → Hp w' n 47 cs := by
  refine (rdo_any op key val h.bk hl hB).mono ?_
  rintro e w' ⟨rfl, v', q1, q2, q3⟩
  have n1 : ¬ bkS b vd l := fun e => by
    rcases e with e | e
    · exact hp_type h.hp h.bk.hp (by decide) e
    · exact own_type10 h.bk.row h.hp (by decide) e
  have n2 : ∀ k, vk.ownBlock = some k → ¬ bkS b vd k := fun k hk e => by
    rcases e with e | e
    · subst e; exact own_type10 h.ks h.bk.hp (by decide) hk
    · exact own_twoG h.bk.row h.ks (by decide) k e hk
  have n3 : ∀ k, vw.ownBlock = some k → ¬ bkS b vd k := fun k hk e => by
    rcases e with e | e
    · subst e; exact own_type10 h.ws h.bk.hp (by decide) hk
    · exact own_twoG h.bk.row h.ws (by decide) k e hk
  refine ⟨rfl, ⟨v', vk, vw, ⟨h.hp.chg q2 n1, q1, own_chg h.ks q2 n2, own_chg h.ws q2 n3⟩, q2.mono (fun k e => by
    rcases e with e | e
    · exact .inr (.inl e)
    · exact .inr (.inr (.inl e))), fun k hk => ?_⟩, fun n cs hp => hp.chg q2 (fun e => by
    rcases e with e | e
    · exact hp_type hp h.bk.hp (by decide) e
    · exact own_type10 h.bk.row hp (by decide) e)⟩
  rcases hk with e | e | e | e | e
  · exact .inl (.inl e)
  · exact .inl (.inr (.inl e))
  · rcases q3 k e with q | q
    · exact .inl (.inr (.inr (.inl q)))
    · exact .inr q
  · exact .inl (.inr (.inr (.inr (.inl e))))
  · exact .inl (.inr (.inr (.inr (.inr e))))
theorem rlnew_ok (n : Nat) (h1 : 1 ≤ n) (h2 : n ≤ 16) (w : World) : Calls Try.prog 35 #[.int .i64 n] w fun e w' => ∃ l b, e = .returned (.tuple #[.pointer (some ⟨l, 0, none⟩), .int .i64 0]) ∧ w.heap.size ≤ l ∧ w.heap.size ≤ b ∧ Rl w' w.heap.size l b n (.slice none 0 0) (.slice none 0 0) (.slice none 0 0) [] [] 0 ∧ Below w.heap.size w w' := by
  go_enter Try.func35, Try.ntmps35
  go_wp2_with (go_at_call 34; go_must (refine (rnew_ok n h1 h2 w).mono ?_); rintro e w1 ⟨rfl, hp1, hb1, hz1⟩; go_must (have HP1 := keepG hp1; have HZ1 := keepG hz1; clear hp1 hz1))
  go_ret2
  have hz := HZ1.out
  refine ⟨w1.heap.size, w.heap.size, rfl, by omega, Nat.le_refl _, ⟨Hp.new w1 _ _, ⟨HP1.out.alloc _, World.ownsRow_nil _ _ _ _⟩, World.ownsRow_nil _ _ _ _, World.ownsRow_nil _ _ _ _⟩, hb1.alloc (by omega) _⟩
theorem rlnew_no (n : Int) (h : n < 1 ∨ 16 < n) (w : World) : Calls Try.prog 35 #[.int .i64 n] w fun e w' => e = .returned (.tuple #[.pointer none, .int .i64 2]) ∧ w = w' := by
  go_enter Try.func35, Try.ntmps35
  go_wp2_with (go_at_call 34; go_must (refine (rnew_no n h w).mono ?_); rintro e w1 ⟨rfl, rfl⟩)
  go_ret2
  exact ⟨rfl, rfl⟩
end
end Go.Proofs.Ytpbfgebecgikjaa
