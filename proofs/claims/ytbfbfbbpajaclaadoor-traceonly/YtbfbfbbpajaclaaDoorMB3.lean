
/-
  Append to the call's own row, with a wider bound than 2^47 bytes: what a grown row takes is at most a quarter and a little more than what is wanted. Condition: at most 219902325555200 bytes wanted, elements of at most 8 bytes.
-/
import Derived.Laws.AppendOwn
import Derived.Laws.OwnMore
import Derived.ProofKit
namespace Go.Proofs.YtbfbfbbpajaclaaDoor
open Go.RowKit
set_option linter.unusedVariables false

theorem next_quarter {need old : Nat} (h : old < need) : Builtin.nextslicecap need old ≤ need + need / 4 + 512 := by
  unfold Builtin.nextslicecap
  split
  · omega
  · split
    · omega
    · rw [growBy_four]
      repeat' split
      all_goals omega
theorem next_fits {need old bytes : Nat} (h : old < need) (hb : need * bytes ≤ 219902325555200) (h8 : bytes ≤ 8) : Builtin.nextslicecap need old * bytes ≤ 281474976710656 := by
  have h1 : Builtin.nextslicecap need old * bytes ≤ (need + need / 4 + 512) * bytes := Nat.mul_le_mul_right _ (next_quarter h)
  have h2 : need / 4 * 4 ≤ need := Nat.div_mul_le_self need 4
  have h3 : need / 4 * 4 * bytes ≤ need * bytes := Nat.mul_le_mul_right _ h2
  have h4 : need / 4 * 4 * bytes = 4 * (need / 4 * bytes) := by rw [Nat.mul_comm (need / 4) 4, Nat.mul_assoc]
  have h5 : (need + need / 4 + 512) * bytes = need * bytes + need / 4 * bytes + 512 * bytes := by rw [Nat.add_mul, Nat.add_mul]
  omega
/-- A row made anew out of what was there and what comes behind it. -/
theorem own_new {w : World} {base : Nat} {e : TypeId} {size : Nat} {z : Array Value} {n c : Nat} {xs : List Value} (hl : xs.length = n * size) (hc : n ≤ c) (hm : c ≤ maxLen) (hz : z.size = size) (hb : base ≤ w.heap.size) :
    (w.drew.alloc (.cells (xs.toArray ++ Builtin.zeroCells z (c - n)) e)).ownsRow base e size (.slice (some ⟨w.heap.size, 0, none⟩) n c) n xs := by
  refine ⟨hl, .inr ⟨w.heap.size, c, _, rfl, hb, heap_alloc_new w.drew _, hc, hm, ?_, ?_⟩⟩
  · rw [Array.size_append, size_zeroCells, hz, List.size_toArray, hl, ← Nat.add_mul]
    congr 1
    omega
  · rw [Array.toList_append, ← hl]
    exact List.take_left
theorem grown_new (w : World) (o : Obj) (r : Option Nat) : w.grownBy (w.drew.alloc o) r := ⟨rfl, rfl, rfl, by simp, fun k hk _ => heap_alloc_old w.drew o k hk⟩

/-- A row with room, filled further. -/
theorem own_filled {w : World} {base g n m cap size : Nat} {e : TypeId} {cur : Array Value} {xs news : List Value} (hb : base ≤ g) (hg : w.heap[g]? = some (.cells cur e (0, 0))) (hroom : n + m ≤ cap) (hcm : cap ≤ maxLen) (hcs : cur.size = cap * size) (hlx : xs.length = n * size) (hln : news.length = m * size) :
    (w.setRow g (xs ++ news ++ cur.toList.drop (n * size + news.length)).toArray).ownsRow base e size (.slice (some ⟨g, 0, none⟩) (n + m) cap) (n + m) (xs ++ news) := by
  have h1 : (xs ++ news).length = (n + m) * size := by rw [List.length_append, hlx, hln, Nat.add_mul]
  have h2 : (n + m) * size ≤ cap * size := Nat.mul_le_mul_right size hroom
  have h3 : n * size + news.length = (n + m) * size := by rw [hln, Nat.add_mul]
  refine ⟨h1, Or.inr ⟨g, cap, _, rfl, hb, setRow_heap w g cur _ e _ hg, hroom, hcm, ?_, ?_⟩⟩
  · rw [List.size_toArray, List.length_append, h1, List.length_drop, Array.length_toList, hcs, h3]
    omega
  · rw [← h1]
    exact List.take_left' rfl
theorem grown_row (w : World) (g : Nat) (cs : Array Value) {n cap : Nat} : w.grownBy (w.setRow g cs) (Value.slice (some ⟨g, 0, none⟩) n cap).ownBlock :=
  ⟨rfl, rfl, rfl, by simp, fun k _ hk => setRow_other w g k _ (fun e => hk (by rw [e]; rfl))⟩

theorem run_append_wide {P : Program} (w : World) (base : Nat) (t ty e : TypeId) (i : TypeInfo) (z : Value) (size bytes : Nat) (ht : P.underlying t = some (.slice e)) (hi : P.info? e = some i) (hz : i.zero = some z)
    (hsize : i.size = size) (hby : i.bytes = bytes) (h8 : bytes ≤ 8) (hzs : z.cells.size = size) (hsz : 0 < size)
    (v : Value) (n : Nat) (xs : List Value) (hown : w.ownsRow base e size v n xs)
    (a : Addr) (m c : Nat) (news : List Value) (hl : news.length = m * size) (hnews : ∀ j u, news[j]? = some u → w.cell? (a.add j) = some u) (h1 : ∀ u ∈ news, u.oneCell' = true)
    (h63 : n + m ≤ maxLen) (hbytes : (n + m) * bytes ≤ 219902325555200) (hbase : base ≤ w.heap.size) :
    ∃ v' w', (Builtin.append_ #[t, t] ty #[v, .slice (some a) m c]).run P w = .ok v' w' ∧ w'.ownsRow base e size v' (n + m) (xs ++ news) ∧ w.grownBy w' v.ownBlock ∧ (v' = .slice none 0 0 ↔ v = .slice none 0 0 ∧ m = 0) := by
  by_cases hlow : (n + m) * bytes ≤ 140737488355328
  · exact run_append_own (P := P) w base t ty e i z size bytes ht hi hz hsize hby hzs hsz v n xs hown a m c news hl hnews h1 h63 hlow hbase
  · have hpos : 0 < n + m := by
      rcases Nat.eq_zero_or_pos (n + m) with h0 | h0
      · rw [h0] at hlow; simp at hlow
      · exact h0
    have hint : n + m ≤ 9223372036854775807 := by unfold maxLen at h63; omega
    have hlen : (xs ++ news).length = (n + m) * size := by rw [List.length_append, hown.1, hl, Nat.add_mul]
    rcases hown.2 with ⟨rfl, rfl⟩ | ⟨g, cap, cur, rfl, hbg, hg, hnc, hcm, hcs, htake⟩
    · obtain rfl : xs = [] := List.eq_nil_of_length_eq_zero (by simpa using hown.1)
      rw [Nat.zero_add] at *
      have hr := run_append_nil (P := P) w t ty e i z ht hi hz a m c news (by rw [hsize]; exact hl) hnews hpos (by omega) (by rw [hby]; omega)
      exact ⟨_, _, hr, own_new (z := z.cells) hl (grownCap_ge w m 0 e) (grownCap_le_maxLen w m 0 e h63) hzs hbase, grown_new _ _ _, by simp; omega⟩
    · by_cases hroom : n + m ≤ cap
      · have hm : (n + m) * size ≤ cap * size := Nat.mul_le_mul_right size hroom
        rw [Nat.add_mul] at hm
        have hr := run_append_room (P := P) w t ty e i ht hi g n cap cur hg a m c news (by rw [hsize]; exact hl) hnews h1 hroom (by rw [hsize, hl, hcs]; exact hm)
        rw [hsize, htake] at hr
        exact ⟨_, _, hr, own_filled hbg hg hroom hcm hcs hown.1 hl, grown_row w g _, by simp⟩
      · have hr := run_append_grow (P := P) w t ty e i z ht hi hz ⟨g, 0, none⟩ n cap xs (by rw [hsize]; exact hown.1) (hown.cells (g := g) rfl) a m c news (by rw [hsize]; exact hl) hnews (by omega) (by omega) (by rw [hby]; exact next_fits (by omega) hbytes h8)
        have ho := own_new (w := w) (e := e) (z := z.cells) hlen (grownCap_ge w (n + m) cap e) (grownCap_le_maxLen w (n + m) cap e h63) hzs hbase
        have he : (xs ++ news).toArray = xs.toArray ++ news.toArray := by simp
        rw [he] at ho
        exact ⟨_, _, hr, ho, grown_new _ _ _, by simp⟩

theorem wp_append_wide {P : Program} (w : World) {o : Oper} {a : Act} {K : Act → World → Prop} {Q : Exit → Act → World → Prop} (s x : Operand) (t : TypeId)
    (ho : o.op = .call { callee := .builtin .append, args := #[s, x], argTypes := #[t, t] })
    (base : Nat) (e : TypeId) (i : TypeInfo) (z : Value) (size bytes : Nat) (ht : P.underlying t = some (.slice e)) (hi : P.info? e = some i) (hz : i.zero = some z)
    (hsize : i.size = size) (hby : i.bytes = bytes) (hzs : z.cells.size = size) (hsz : 0 < size)
    (v : Value) (n : Nat) (xs : List Value) (hs : a.eval s = v) (hown : w.ownsRow base e size v n xs)
    (ad : Addr) (m c : Nat) (news : List Value) (hx : a.eval x = .slice (some ad) m c) (hl : news.length = m * size) (hnews : ∀ j u, news[j]? = some u → w.cell? (ad.add j) = some u) (h1 : ∀ u ∈ news, u.oneCell' = true)
    (h63 : n + m ≤ maxLen) (hbytes : (n + m) * bytes ≤ 219902325555200) (hbase : base ≤ w.heap.size)
    (h : ∀ v' w', w'.ownsRow base e size v' (n + m) (xs ++ news) → w.grownBy w' v.ownBlock → (v' = .slice none 0 0 ↔ v = .slice none 0 0 ∧ m = 0) → K (a.put o.dst v') w') (h8 : bytes ≤ 8 := by decide) : o.wp P a w K Q := by
  obtain ⟨v', w', hr, h2, h3, h4⟩ := run_append_wide (P := P) w base t o.type e i z size bytes ht hi hz hsize hby h8 hzs hsz v n xs hown ad m c news hl hnews h1 h63 hbytes hbase
  unfold Oper.wp
  simp [execOp, ho, resolve, invoke, builtin, hs, hx, hr, Result.andThen]
  exact h v' w' h2 h3 h4
theorem wpList_append_wide {P : Program} (w : World) {ops : Array Oper} {rest : List Oper} {o : Oper} {a : Act} {Q : Exit → Act → World → Prop} (hgd : o.guard = none) (s x : Operand) (t : TypeId)
    (ho : o.op = .call { callee := .builtin .append, args := #[s, x], argTypes := #[t, t] })
    (base : Nat) (e : TypeId) (i : TypeInfo) (z : Value) (size bytes : Nat) (ht : P.underlying t = some (.slice e)) (hi : P.info? e = some i) (hz : i.zero = some z)
    (hsize : i.size = size) (hby : i.bytes = bytes) (hzs : z.cells.size = size) (hsz : 0 < size)
    (v : Value) (n : Nat) (xs : List Value) (hs : a.eval s = v) (hown : w.ownsRow base e size v n xs)
    (ad : Addr) (m c : Nat) (news : List Value) (hx : a.eval x = .slice (some ad) m c) (hl : news.length = m * size) (hnews : ∀ j u, news[j]? = some u → w.cell? (ad.add j) = some u) (h1 : ∀ u ∈ news, u.oneCell' = true)
    (h63 : n + m ≤ maxLen) (hbytes : (n + m) * bytes ≤ 219902325555200) (hbase : base ≤ w.heap.size)
    (h : ∀ v' w', w'.ownsRow base e size v' (n + m) (xs ++ news) → w.grownBy w' v.ownBlock → (v' = .slice none 0 0 ↔ v = .slice none 0 0 ∧ m = 0) → wpList P ops Q rest (a.put o.dst v') w') (h8 : bytes ≤ 8 := by decide) : wpList P ops Q (o :: rest) a w :=
  wpList_plain hgd fun _ hK => wp_append_wide w s x t ho base e i z size bytes ht hi hz hsize hby hzs hsz v n xs hs hown ad m c news hx hl hnews h1 h63 hbytes hbase (fun v' w' h2 h3 h4 => hK _ _ (h v' w' h2 h3 h4)) h8
end Go.Proofs.YtbfbfbbpajaclaaDoor
