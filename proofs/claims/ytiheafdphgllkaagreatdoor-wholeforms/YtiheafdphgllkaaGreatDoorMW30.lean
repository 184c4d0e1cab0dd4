/-
  O2Slices
  KL3Alike
  KW4Alike
-/
import Derived.Test.YtiheafdphgllkaaGreatDoorMW11
import Derived.Test.YtiheafdphgllkaaGreatDoorMW15
import Derived.Laws.AppendOwn
import Derived.Laws.OwnMore
import Derived.Deep.RegionHeld3
namespace Go.Proofs.YtiheafdphgllkaaGreatDoor
open Go.RowKit
set_option linter.unusedVariables false
set_option maxRecDepth 100000
set_option linter.unusedSimpArgs false
def flat (xs : List In) : List Value := xs.flatMap In.cells
theorem flat_len (xs : List In) : (flat xs).length = xs.length * 5 := by
 induction xs with
 | nil => rfl
 | cons x xs ih =>
  have e : flat (x :: xs) = x.cells ++ flat xs := rfl
  rw [e, List.length_append, ih, List.length_cons]
  simp; omega
theorem flat_at : ∀ (xs : List In) (k j : Nat), k < xs.length -> j < 5 -> (flat xs)[k * 5 + j]? = (xs.getD k In.nil).cells[j]?
 | [], k, j, hk, _ => by simp at hk
 | x :: xs, 0, j, _, hj => by
  have e : flat (x :: xs) = x.cells ++ flat xs := rfl
  rw [e, List.getElem?_append_left (by simp [In.cells]; omega)]
  simp
 | x :: xs, k + 1, j, hk, hj => by
  have e : flat (x :: xs) = x.cells ++ flat xs := rfl
  have hl : x.cells.length = 5 := rfl
  rw [e, List.getElem?_append_right (by rw [hl]; omega), hl, show (k + 1) * 5 + j - 5 = k * 5 + j by omega, flat_at xs k j (by simpa using hk) hj]
  simp [List.getD]
theorem at_cells {w : World} {b off : Nat} {i : In} (h : At w b off i) (j : Nat) (hj : j < 5) : w.cell? ⟨b, off + j, none⟩ = i.cells[j]? := by
 obtain ⟨h0, h1, h2, h3, h4⟩ := h
 have hc : j = 0 ∨ j = 1 ∨ j = 2 ∨ j = 3 ∨ j = 4 := by omega
 rcases hc with rfl | rfl | rfl | rfl | rfl
 ·exact h0
 ·exact h1
 ·exact h2
 ·exact h3
 ·exact h4
theorem cells_at {w : World} {b off : Nat} {i : In} (h : ∀ j, j < 5 -> w.cell? ⟨b, off + j, none⟩ = i.cells[j]?) : At w b off i := ⟨h 0 (by omega), h 1 (by omega), h 2 (by omega), h 3 (by omega), h 4 (by omega)⟩
theorem flat_cells {w : World} {b off : Nat} {xs : List In} (h : ∀ k, k < xs.length -> At w b (off + k * 5) (xs.getD k In.nil)) (j : Nat) (u : Value) (hu : (flat xs)[j]? = some u) : w.cell? ((⟨b, off, none⟩ : Addr).add j) = some u := by
 have hj : j < xs.length * 5 := by rw [<- flat_len]; exact (List.getElem?_eq_some_iff.1 hu).1
 have e : j = (j / 5) * 5 + j % 5 := by omega
 rw [e, flat_at xs (j / 5) (j % 5) (by omega) (by omega)] at hu
 rw [Addr.add_mid, <- hu, <- at_cells (h (j / 5) (by omega)) (j % 5) (by omega)]
 congr 2
 omega
theorem flat_one (xs : List In) : ∀ u ∈ flat xs, u.oneCell' = true := by
 intro u hu
 simp only [flat, List.mem_flatMap] at hu
 obtain ⟨i, _, hi⟩ := hu
 simp only [In.cells, List.mem_cons, List.not_mem_nil, or_false] at hi
 rcases hi with rfl | rfl | rfl | rfl | rfl <;> rfl
theorem own_seesI {w : World} {base : Nat} {e : TypeId} {v : Value} {xs : List In} (h : w.ownsRow base e 5 v xs.length (flat xs)) : SeesI w v xs := by
 have h0 := h
 rcases h with ⟨h1, ⟨rfl, h2⟩ | ⟨g, cap, cur, rfl, hb, hh, h3, h4, h5, h6⟩⟩
 ·have : xs = [] := List.eq_nil_of_length_eq_zero h2
  subst this
  exact ⟨none, 0, rfl, by simp, by simp [maxLen], fun _ => rfl, fun h => absurd rfl h⟩
 ·refine ⟨_, cap, rfl, h3, h4, fun h => by simp at h, fun hne => ⟨g, 0, rfl, (Array.getElem?_eq_some_iff.1 hh).1, fun k hk => cells_at fun j hj => ?_⟩⟩
  rw [Nat.zero_add, h0.cellAt (k * 5 + j) (by omega)]
  exact flat_at xs k j hk hj
theorem own_empty (w : World) (e : TypeId) : (w.alloc (.cells #[] e)).ownsRow w.heap.size e 5 (.slice (some ⟨w.heap.size, 0, none⟩) 0 0) 0 (flat []) := by
 refine ⟨rfl, .inr ⟨w.heap.size, 0, #[], rfl, Nat.le_refl _, ?_, Nat.le_refl _, by simp [maxLen], rfl, rfl⟩⟩
 show (w.heap.push _)[w.heap.size]? = _
 simp
theorem wpList_append_seesI {P : Program} {w : World} {ops : Array Oper} {rest : List Oper} {o : Oper} {a : Act} {Q : Exit -> Act -> World -> Prop} (hgd : o.guard = none) (s x : Operand) (t : TypeId)
  (ho : o.op = .call { callee := .builtin .append, args := #[s, x], argTypes := #[t, t] })
  (base : Nat) (e : TypeId) (i : TypeInfo) (z : Value) (ht : P.underlying t = some (.slice e)) (hi : P.info? e = some i) (hz : i.zero = some z)
  (hsize : i.size = 5) (hby : i.bytes = 40) (hzs : z.cells.size = 5)
  (v : Value) (xs : List In) (hs : a.eval s = v) (hown : w.ownsRow base e 5 v xs.length (flat xs))
  (src : Value) (ys : List In) (hx : a.eval x = src) (hsee : SeesI w src ys)
  (h63 : xs.length + ys.length <= maxLen) (hbytes : (xs.length + ys.length) * 40 <= 140737488355328) (hbase : base <= w.heap.size)
  (h : ∀ v' w', w'.ownsRow base e 5 v' (xs ++ ys).length (flat (xs ++ ys)) -> w.grownBy w' v.ownBlock -> wpList P ops Q rest (a.put o.dst v') w') : wpList P ops Q (o :: rest) a w := by
 have hf : ∀ l m : List In, flat l ++ flat m = flat (l ++ m) := fun l m => by simp [flat]
 refine wpList_plain hgd fun K hK => ?_
 obtain ⟨ad, cap, rfl, hl, hm, hn0, hc⟩ := hsee
 by_cases hne : ys = []
 ·subst hne
  cases ad with
  | none =>
   obtain rfl : cap = 0 := hn0 rfl
   have hrun := run_append_owned_none (P := P) (w := w) base t o.type e i 5 ht hi v _ _ hown
   have hx' : a.eval x = .slice none 0 0 := hx
   unfold Oper.wp
   simp [execOp, ho, resolve, invoke, builtin, hs, hx', hrun, Result.andThen]
   exact hK _ _ (h v w (by simpa using hown) ⟨rfl, rfl, rfl, Nat.le_refl _, fun _ _ _ => rfl⟩)
  | some ad =>
   refine wp_append_own w s x t ho base e i z 5 40 ht hi hz hsize hby hzs (by decide) v _ _ hs hown ad 0 cap [] hx rfl (by simp) (by simp) (by simpa using h63) (by simpa using hbytes) hbase ?_
   intro v' w' h1 h2 _
   exact hK _ _ (h v' w' (by simpa using h1) h2)
 ·obtain ⟨b, off, rfl, hlt, hat⟩ := hc hne
  refine wp_append_own w s x t ho base e i z 5 40 ht hi hz hsize hby hzs (by decide) v _ _ hs hown ⟨b, off, none⟩ ys.length cap (flat ys) hx (flat_len ys) (flat_cells hat) (flat_one ys) h63 hbytes hbase ?_
  intro v' w' h1 h2 _
  exact hK _ _ (h v' w' (by rw [hf, <- List.length_append] at h1; exact h1) h2)
def sameI_w : List In -> List In -> Bool
 | [], [] => true
 | x :: xs, y :: ys => !neI x y && sameI_w xs ys
 | _, _ => false
theorem neI_iff_w (i j : In) : neI i j = false ↔ i = j := by
 obtain ⟨o, d, a, b, m⟩ := i
 obtain ⟨o', d', a', b', m'⟩ := j
 simp [neI]
theorem sameI_iff_w : ∀ xs ys : List In, sameI_w xs ys = true ↔ xs = ys
 | [], [] => by simp [sameI_w]
 | [], y :: ys => by simp [sameI_w]
 | x :: xs, [] => by simp [sameI_w]
 | x :: xs, y :: ys => by
  simp only [sameI_w, Bool.and_eq_true, Bool.not_eq_true', neI_iff_w, sameI_iff_w xs ys, List.cons.injEq]
theorem sameI_true_w {xs ys : List In} (h : xs = ys) : sameI_w xs ys = true := (sameI_iff_w xs ys).2 h
theorem sameI_false_w {xs ys : List In} (h : xs ≠ ys) : sameI_w xs ys = false := by
 cases hh : sameI_w xs ys
 ·rfl
 ·exact absurd ((sameI_iff_w xs ys).1 hh) h
theorem take_in_w (xs : List In) (k : Nat) (h : k < xs.length) : xs.take (k + 1) = xs.take k ++ [xs.getD k In.nil] := by
 rw [List.take_succ_eq_append_getElem h]; simp [List.getD, h]

set_option maxHeartbeats 3200000 in
theorem equalI_some (b off cap b' off' cap' : Nat) (xs ys : List In) (w : World) (hlen : xs.length = ys.length) (hmax : xs.length <= 9223372036854775807)
  (hc : ∀ k, k < xs.length -> At w b (off + k * 5) (xs.getD k In.nil))
  (hc' : ∀ k, k < ys.length -> At w b' (off' + k * 5) (ys.getD k In.nil)) :
  Calls Tryz.prog 28 #[.slice (some ⟨b, off, none⟩) xs.length cap, .slice (some ⟨b', off', none⟩) ys.length cap'] w fun e w' => e = .returned (.bool (sameI_w xs ys)) /\ ∃ n, w' = w.drewN n := by
 obtain ⟨L, HL⟩ : ∃ L, Hid (L = xs.length) := ⟨_, rfl⟩
 rw [<- hlen] at hc' ⊢
 rw [<- HL.out] at hc hc' hmax ⊢
 have HA : Hid (∀ k, k < L -> At w b (off + k * 5) (xs.getD k In.nil)) := hc
 have HA' : Hid (∀ k, k < L -> At w b' (off' + k * 5) (ys.getD k In.nil)) := hc'
 clear hc hc'
 go_enter Tryz.func28, Tryz.ntmps28
 go_wp2
 go_loopw [13] (fun i wr => ∃ k n : Nat, k <= L /\ i = .int .i64 k /\ wr = w.drewN n /\ xs.take k = ys.take k) (fun i _ => L - (intOf i).toNat)
 case atStart => exact ⟨0, 0, by omega, rfl, rfl, rfl⟩
 case round =>
  obtain ⟨k, n, hk, rfl, rfl, ht⟩ := hrel
  have HT : Hid (xs.take k = ys.take k) := ht
  clear ht
  by_cases hlt : k < L
  ·obtain ⟨op, d, a, bb, imm, HI⟩ : ∃ op d a bb imm, Hid (xs.getD k In.nil = ⟨op, d, a, bb, imm⟩) := ⟨_, _, _, _, _, rfl⟩
   obtain ⟨op', d', a', bb', imm', HI'⟩ : ∃ op' d' a' bb' imm', Hid (ys.getD k In.nil = ⟨op', d', a', bb', imm'⟩) := ⟨_, _, _, _, _, rfl⟩
   have h1 := HA.out k hlt
   have h2 := HA'.out k hlt
   rw [HI.out] at h1
   rw [HI'.out] at h2
   obtain ⟨h0, h1, h2', h3, h4⟩ := h1
   obtain ⟨g0, g1, g2, g3, g4⟩ := h2
   simp only at h0 h1 h2' h3 h4 g0 g1 g2 g3 g4
   have HNE : Hid ((⟨op, d, a, bb, imm⟩ : In) ≠ ⟨op', d', a', bb', imm'⟩ -> sameI_w xs ys = false) := fun hne => sameI_false_w fun h => hne (by rw [<- HI.out, <- HI'.out, h])
   have HEQ : Hid ((⟨op, d, a, bb, imm⟩ : In) = ⟨op', d', a', bb', imm'⟩ -> xs.take (k + 1) = ys.take (k + 1)) := fun he => by
    rw [take_in_w xs k (by rw [<- HL.out]; omega), take_in_w ys k (by rw [<- hlen, <- HL.out]; omega), HT.out, HI.out, HI'.out, he]
   clear HI HI' HT
   by_cases e0 : op = op'
   ·subst e0
    by_cases e1 : d = d'
    ·subst e1
     by_cases e2 : a = a'
     ·subst e2
      by_cases e3 : bb = bb'
      ·subst e3
       by_cases e4 : imm = imm'
       ·subst e4
        have HE := HEQ.out rfl
        have HE : Hid (xs.take (k + 1) = ys.take (k + 1)) := HE
        clear HEQ HNE
        go_wp2
        go_region_held3 (fun w' => (w'.cell? ⟨b, off + k * 5, none⟩ = some (.int .i64 op) /\ w'.cell? ⟨b, off + k * 5 + 1, none⟩ = some (.int .i64 d) /\ w'.cell? ⟨b, off + k * 5 + 2, none⟩ = some (.int .i64 a) /\ w'.cell? ⟨b, off + k * 5 + 3, none⟩ = some (.int .i64 bb) /\ w'.cell? ⟨b, off + k * 5 + 4, none⟩ = some (.int .i64 imm)) /\ w'.cell? ⟨b', off' + k * 5, none⟩ = some (.int .i64 op) /\ w'.cell? ⟨b', off' + k * 5 + 1, none⟩ = some (.int .i64 d) /\ w'.cell? ⟨b', off' + k * 5 + 2, none⟩ = some (.int .i64 a) /\ w'.cell? ⟨b', off' + k * 5 + 3, none⟩ = some (.int .i64 bb) /\ w'.cell? ⟨b', off' + k * 5 + 4, none⟩ = some (.int .i64 imm)) (exact ⟨⟨h0, h1, h2', h3, h4⟩, g0, g1, g2, g3, g4⟩) (fail)
        go_wp2
        go_roundw
        case rel => exact ⟨k + 1, _, by omega, by go_num, rfl, HE.out⟩
        case measure => simp [intOf]; omega
       ·have HE : Hid (sameI_w xs ys = false) := HNE.out (by simp [e4])
        clear HEQ HNE
        go_wp2
        go_region_held3 (fun w' => (w'.cell? ⟨b, off + k * 5, none⟩ = some (.int .i64 op) /\ w'.cell? ⟨b, off + k * 5 + 1, none⟩ = some (.int .i64 d) /\ w'.cell? ⟨b, off + k * 5 + 2, none⟩ = some (.int .i64 a) /\ w'.cell? ⟨b, off + k * 5 + 3, none⟩ = some (.int .i64 bb) /\ w'.cell? ⟨b, off + k * 5 + 4, none⟩ = some (.int .i64 imm)) /\ w'.cell? ⟨b', off' + k * 5, none⟩ = some (.int .i64 op) /\ w'.cell? ⟨b', off' + k * 5 + 1, none⟩ = some (.int .i64 d) /\ w'.cell? ⟨b', off' + k * 5 + 2, none⟩ = some (.int .i64 a) /\ w'.cell? ⟨b', off' + k * 5 + 3, none⟩ = some (.int .i64 bb) /\ w'.cell? ⟨b', off' + k * 5 + 4, none⟩ = some (.int .i64 imm')) (exact ⟨⟨h0, h1, h2', h3, h4⟩, g0, g1, g2, g3, g4⟩) (fail)
        go_wp2
        go_ret
        exact ⟨retb HE.out.symm, n + 1, rfl⟩
      ·have HE : Hid (sameI_w xs ys = false) := HNE.out (by simp [e3])
       clear HEQ HNE
       go_wp2
       go_region_held3 (fun w' => (w'.cell? ⟨b, off + k * 5, none⟩ = some (.int .i64 op) /\ w'.cell? ⟨b, off + k * 5 + 1, none⟩ = some (.int .i64 d) /\ w'.cell? ⟨b, off + k * 5 + 2, none⟩ = some (.int .i64 a) /\ w'.cell? ⟨b, off + k * 5 + 3, none⟩ = some (.int .i64 bb) /\ w'.cell? ⟨b, off + k * 5 + 4, none⟩ = some (.int .i64 imm)) /\ w'.cell? ⟨b', off' + k * 5, none⟩ = some (.int .i64 op) /\ w'.cell? ⟨b', off' + k * 5 + 1, none⟩ = some (.int .i64 d) /\ w'.cell? ⟨b', off' + k * 5 + 2, none⟩ = some (.int .i64 a) /\ w'.cell? ⟨b', off' + k * 5 + 3, none⟩ = some (.int .i64 bb') /\ w'.cell? ⟨b', off' + k * 5 + 4, none⟩ = some (.int .i64 imm')) (exact ⟨⟨h0, h1, h2', h3, h4⟩, g0, g1, g2, g3, g4⟩) (fail)
       go_wp2
       go_ret
       exact ⟨retb HE.out.symm, n + 1, rfl⟩
     ·have HE : Hid (sameI_w xs ys = false) := HNE.out (by simp [e2])
      clear HEQ HNE
      go_wp2
      go_region_held3 (fun w' => (w'.cell? ⟨b, off + k * 5, none⟩ = some (.int .i64 op) /\ w'.cell? ⟨b, off + k * 5 + 1, none⟩ = some (.int .i64 d) /\ w'.cell? ⟨b, off + k * 5 + 2, none⟩ = some (.int .i64 a) /\ w'.cell? ⟨b, off + k * 5 + 3, none⟩ = some (.int .i64 bb) /\ w'.cell? ⟨b, off + k * 5 + 4, none⟩ = some (.int .i64 imm)) /\ w'.cell? ⟨b', off' + k * 5, none⟩ = some (.int .i64 op) /\ w'.cell? ⟨b', off' + k * 5 + 1, none⟩ = some (.int .i64 d) /\ w'.cell? ⟨b', off' + k * 5 + 2, none⟩ = some (.int .i64 a') /\ w'.cell? ⟨b', off' + k * 5 + 3, none⟩ = some (.int .i64 bb') /\ w'.cell? ⟨b', off' + k * 5 + 4, none⟩ = some (.int .i64 imm')) (exact ⟨⟨h0, h1, h2', h3, h4⟩, g0, g1, g2, g3, g4⟩) (fail)
      go_wp2
      go_ret
      exact ⟨retb HE.out.symm, n + 1, rfl⟩
    ·have HE : Hid (sameI_w xs ys = false) := HNE.out (by simp [e1])
     clear HEQ HNE
     go_wp2
     go_region_held3 (fun w' => (w'.cell? ⟨b, off + k * 5, none⟩ = some (.int .i64 op) /\ w'.cell? ⟨b, off + k * 5 + 1, none⟩ = some (.int .i64 d) /\ w'.cell? ⟨b, off + k * 5 + 2, none⟩ = some (.int .i64 a) /\ w'.cell? ⟨b, off + k * 5 + 3, none⟩ = some (.int .i64 bb) /\ w'.cell? ⟨b, off + k * 5 + 4, none⟩ = some (.int .i64 imm)) /\ w'.cell? ⟨b', off' + k * 5, none⟩ = some (.int .i64 op) /\ w'.cell? ⟨b', off' + k * 5 + 1, none⟩ = some (.int .i64 d') /\ w'.cell? ⟨b', off' + k * 5 + 2, none⟩ = some (.int .i64 a') /\ w'.cell? ⟨b', off' + k * 5 + 3, none⟩ = some (.int .i64 bb') /\ w'.cell? ⟨b', off' + k * 5 + 4, none⟩ = some (.int .i64 imm')) (exact ⟨⟨h0, h1, h2', h3, h4⟩, g0, g1, g2, g3, g4⟩) (fail)
     go_wp2
     go_ret
     exact ⟨retb HE.out.symm, n + 1, rfl⟩
   ·have HE : Hid (sameI_w xs ys = false) := HNE.out (by simp [e0])
    clear HEQ HNE
    go_wp2
    go_region_held3 (fun w' => (w'.cell? ⟨b, off + k * 5, none⟩ = some (.int .i64 op) /\ w'.cell? ⟨b, off + k * 5 + 1, none⟩ = some (.int .i64 d) /\ w'.cell? ⟨b, off + k * 5 + 2, none⟩ = some (.int .i64 a) /\ w'.cell? ⟨b, off + k * 5 + 3, none⟩ = some (.int .i64 bb) /\ w'.cell? ⟨b, off + k * 5 + 4, none⟩ = some (.int .i64 imm)) /\ w'.cell? ⟨b', off' + k * 5, none⟩ = some (.int .i64 op') /\ w'.cell? ⟨b', off' + k * 5 + 1, none⟩ = some (.int .i64 d') /\ w'.cell? ⟨b', off' + k * 5 + 2, none⟩ = some (.int .i64 a') /\ w'.cell? ⟨b', off' + k * 5 + 3, none⟩ = some (.int .i64 bb') /\ w'.cell? ⟨b', off' + k * 5 + 4, none⟩ = some (.int .i64 imm')) (exact ⟨⟨h0, h1, h2', h3, h4⟩, g0, g1, g2, g3, g4⟩) (fail)
    go_wp2
    go_ret
    exact ⟨retb HE.out.symm, n + 1, rfl⟩
  ·have HE : Hid (sameI_w xs ys = true) := sameI_true_w (by
    have h1 : xs.take k = xs := List.take_of_length_le (by rw [<- HL.out]; omega)
    have h2 : ys.take k = ys := List.take_of_length_le (by rw [<- hlen, <- HL.out]; omega)
    rw [<- h1, HT.out, h2])
   go_wp2
   go_ret
   exact ⟨retb HE.out.symm, _, rfl⟩
theorem equalI_any (va vb : Value) (xs ys : List In) (w : World) (h : SeesI w va xs) (h' : SeesI w vb ys) :
  Calls Tryz.prog 28 #[va, vb] w fun e w' => e = .returned (.bool (sameI_w xs ys)) /\ ∃ n, w' = w.drewN n := by
 obtain ⟨a, cap, rfl, hl, hm, hn0, hs⟩ := h
 obtain ⟨a', cap', rfl, hl', hm', hn0', hs'⟩ := h'
 unfold maxLen at hm hm'
 by_cases hlen : xs.length = ys.length
 ·by_cases hne : xs = []
  ·subst hne
   obtain rfl : ys = [] := List.eq_nil_of_length_eq_zero (by simpa using hlen.symm)
   go_enter Tryz.func28, Tryz.ntmps28
   go_wp2
   refine wp_loop_rounds 1 ?_
   rw [rounds_succ]
   go_wp2
   go_ret
   exact ⟨rfl, 0, rfl⟩
  ·obtain ⟨b, off, rfl, _, hc⟩ := hs hne
   obtain ⟨b', off', rfl, _, hc'⟩ := hs' (fun e => hne (List.eq_nil_of_length_eq_zero (by rw [hlen, e]; rfl)))
   exact equalI_some b off cap b' off' cap' xs ys w hlen (by omega) hc hc'
 ·have hb : ((xs.length : Int) != (ys.length : Int)) = true := by simp; omega
  have HE : Hid (sameI_w xs ys = false) := sameI_false_w fun h => hlen (by rw [h])
  clear hs hs'
  go_enter Tryz.func28, Tryz.ntmps28
  go_wp2
  go_ret
  exact ⟨retb HE.out.symm, 0, rfl⟩
end Go.Proofs.YtiheafdphgllkaaGreatDoor
