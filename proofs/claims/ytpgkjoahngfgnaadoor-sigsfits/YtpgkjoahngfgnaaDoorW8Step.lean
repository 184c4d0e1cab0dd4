/-
  An append of types as one step of a region that draws its order; a cut of a slice of types from 1 on. No condition.
-/
import Derived.Test.YtpgkjoahngfgnaaDoorW8FitsP
namespace Go.Proofs.YtpgkjoahngfgnaaDoor
open Go.RowKit
set_option linter.unusedVariables false
set_option maxRecDepth 100000

theorem step_append_seesT {P : Program} (w : World) {ops : Array Oper} {o : Oper} {a : Act} {K : Act → World → Prop} {Q : Exit → Act → World → Prop} {E : Prop} (hw : Region.wanted o (yielded ops a.tmps) = true) (s x : Operand) (t : TypeId)
    (ho : o.op = .call { callee := .builtin .append, args := #[s, x], argTypes := #[t, t] })
    (base : Nat) (e : TypeId) (i : TypeInfo) (z : Value) (ht : P.underlying t = some (.slice e)) (hi : P.info? e = some i) (hz : i.zero = some z)
    (hsize : i.size = 4) (hby : i.bytes = 32) (hzs : z.cells.size = 4)
    (v : Value) (xs : List Ty) (hs : a.eval s = v) (hown : w.ownsRow base e 4 v xs.length (flatT xs))
    (src : Value) (ys : List Ty) (hx : a.eval x = src) (hsee : SeesT w src ys) (hne : ys ≠ [])
    (h63 : xs.length + ys.length ≤ maxLen) (hbytes : (xs.length + ys.length) * 32 ≤ 140737488355328) (hbase : base ≤ w.heap.size)
    (h : ∀ v' w', w'.ownsRow base e 4 v' (xs ++ ys).length (flatT (xs ++ ys)) → w.grownBy w' v.ownBlock → K (a.put o.dst v') w') : if Region.wanted o (yielded ops a.tmps) = true then Oper.wp P o a w K Q else E := by
  rw [if_pos hw]
  obtain ⟨ad, cap, rfl, hl, hm, hn0, hc⟩ := hsee
  obtain ⟨b, off, rfl, hlt, hat⟩ := hc hne
  refine wp_append_own w s x t ho base e i z 4 32 ht hi hz hsize hby hzs (by decide) v _ _ hs hown ⟨b, off, none⟩ ys.length cap (flatT ys) hx (flatT_len ys) (flatT_cells hat) (flatT_one ys) h63 hbytes hbase ?_
  intro v' w' h1 h2 _
  exact h v' w' (by rw [flatT_app, ← List.length_append] at h1; exact h1) h2
theorem run_fromT {t e : TypeId} (ht : Tryd.prog.underlying t = some (.slice e)) (hs : ∀ w, (Go.sizeOf e).run Tryd.prog w = .ok 4 w) (a : Option Addr) (len cap i : Nat) (hi : i ≤ len) (w : World) :
    (Instr.slice t (.slice a len cap) (some (.int .i64 i)) none none).run Tryd.prog w = .ok (cutT a i len cap) w := by
  have h0 : (i : Int) ≤ (len : Int) := by omega
  simp [Instr.slice, run_underlying ht, Instr.sliceBounds, run_sliceBound, h0, hs, cutT]
theorem sizeT (w : World) : (Go.sizeOf 30).run Tryd.prog w = .ok 4 w := by
  simp [Go.sizeOf]
  rfl
theorem own_emptyT (w : World) (base g : Nat) (hb : base ≤ w.heap.size) (hg : g = w.heap.size) : (w.alloc (.cells #[] 30)).ownsRow base 30 4 (.slice (some ⟨g, 0, none⟩) 0 0) ([] : List Ty).length (flatT []) := by
  subst hg
  exact own_base (ownT_empty w 30) hb
end Go.Proofs.YtpgkjoahngfgnaaDoor
