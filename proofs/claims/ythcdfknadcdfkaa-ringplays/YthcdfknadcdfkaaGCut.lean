
/-
  A row that was cut at its beginning, the call's own: it is read, cut further, appended to. No Go text in sight.
-/
import Derived.Test.YthcdfknadcdfkaaGSees
import Derived.Test.YthcdfknadcdfkaaGObj
import Derived.Maps.AppendAt
namespace Go.Proofs.Ythcdfknadcdfkaa
open Go.RowKit
set_option linter.unusedVariables false
set_option linter.unusedSimpArgs false
set_option maxRecDepth 100000

theorem Hp.cellOf {w : World} {b : Nat} {t : TypeId} {cs : List Value} (h : w.heap[b]? = some (.cells cs.toArray t (0, 0))) (j : Nat) : w.cell? ⟨b, j, none⟩ = cs[j]? := by
  simp [World.cell?, h]
/-- A row that was cut at its beginning, the call's own. -/
structure Ct (w : World) (B : Nat) (e : TypeId) (z : Nat) (v : Value) (n : Nat) (xs : List Value) : Prop where
  len : xs.length = n * z
  ex : (v = .slice none 0 0 ∧ n = 0) ∨ ∃ g off cap, ∃ cur : List Value, v = .slice (some ⟨g, off, none⟩) n cap ∧ B ≤ g ∧ w.heap[g]? = some (.cells cur.toArray e (0, 0)) ∧ n ≤ cap ∧ cap ≤ maxLen ∧ off + cap * z ≤ cur.length ∧ (cur.drop off).take (n * z) = xs
section
variable {w w' : World} {B : Nat} {e : TypeId} {z : Nat} {v : Value} {n : Nat} {xs : List Value}
theorem Ct.nil (w : World) (B : Nat) (e : TypeId) (z : Nat) : Ct w B e z (.slice none 0 0) 0 [] := ⟨by simp, .inl ⟨rfl, rfl⟩⟩
theorem Ct.lt (h : Ct w B e z v n xs) : ∀ k, v.ownBlock = some k → B ≤ k ∧ k < w.heap.size := by
  intro k hk
  rcases h.ex with ⟨rfl, _⟩ | ⟨g, off, cap, cur, rfl, hb, hh, _⟩
  · cases hk
  · have := Option.some.inj (show some g = some k from hk)
    subst this
    exact ⟨hb, (Array.getElem?_eq_some_iff.1 hh).1⟩
theorem Ct.lies (h : Ct w B e z v n xs) : Lies w (ftV v) := fun k hk => (h.lt k hk).2
theorem Ct.since {w0 : World} (h : Ct w B e z v n xs) (hB : w0.heap.size ≤ B) : Since w0 (ftV v) := fun k hk => Nat.le_trans hB (h.lt k hk).1
theorem Ct.shape (h : Ct w B e z v n xs) : ∃ a cap, v = .slice a n cap ∧ n ≤ cap ∧ cap ≤ 9223372036854775807 := by
  rcases h.ex with ⟨rfl, rfl⟩ | ⟨g, off, cap, cur, rfl, _, _, h1, h2, _⟩
  · exact ⟨none, 0, rfl, by omega, by omega⟩
  · exact ⟨_, cap, rfl, h1, by unfold maxLen at h2; omega⟩
theorem Ct.keeps {S : Nat → Prop} (h : Ct w B e z v n xs) (hc : Chg w w' S) (ha : Apt S (ftV v)) : Ct w' B e z v n xs := by
  refine ⟨h.len, ?_⟩
  rcases h.ex with h1 | ⟨g, off, cap, cur, rfl, hb, hh, h1⟩
  · exact .inl h1
  · exact .inr ⟨g, off, cap, cur, rfl, hb, (hc.block g (Array.getElem?_eq_some_iff.1 hh).1 (fun e => ha g e rfl)).trans hh, h1⟩
theorem Ct.below (h : Ct w B e z v n xs) (hb : Below w.heap.size w w') : Ct w' B e z v n xs := h.keeps (Chg.of_below (S := fun _ => False) hb) (fun _ e => e.elim)
theorem Ct.sees {α : Type} {f : α → List Value} (hf : ∀ x, (f x).length = z) (d : α) {ys : List α} (h : Ct w B e z v ys.length (flatG f ys)) : SeesG f z d w v ys := by
  rcases h.ex with ⟨rfl, h2⟩ | ⟨g, off, cap, cur, rfl, hb, hh, h3, h4, h5, h6⟩
  · obtain rfl : ys = [] := List.eq_nil_of_length_eq_zero h2
    exact SeesG.nil d w
  · refine ⟨_, cap, rfl, h3, h4, fun h => (by cases h), fun hne => ⟨g, off, rfl, (Array.getElem?_eq_some_iff.1 hh).1, fun k hk j hj => ?_⟩⟩
    rw [← flatG_at hf d ys hk hj, ← h6]
    have hl : k * z + j < ys.length * z := Nat.lt_of_lt_of_le (Nat.add_lt_add_left hj _) (by rw [← Nat.succ_mul]; exact Nat.mul_le_mul_right _ hk)
    rw [List.getElem?_take_of_lt hl, List.getElem?_drop, Nat.add_assoc]
    exact Hp.cellOf hh (off + (k * z + j))
/-- Its first element goes. -/
theorem Ct.cut {a : Option Addr} {m cap : Nat} (h : Ct w B e z (.slice a (m + 1) cap) (m + 1) xs) : Ct w B e z (.slice (if cap = 1 then a else a.map (·.add (1 * z))) (m + 1 - 1) (cap - 1)) m (xs.drop z) := by
  have hl := h.len
  refine ⟨by rw [List.length_drop, hl, Nat.add_mul]; omega, .inr ?_⟩
  rcases h.ex with ⟨_, h2⟩ | ⟨g, off, cap', cur, e1, hb, hh, h3, h4, h5, h6⟩
  · omega
  · injection e1 with e1 e2 e3
    subst e1 e3
    have hd : (cur.drop (off + z)).take (m * z) = xs.drop z := by
      rw [← h6, List.drop_take, List.drop_drop, Nat.add_mul]
      congr 1
      omega
    by_cases hc : cap = 1
    · subst hc
      have hm : m = 0 := by omega
      subst hm
      refine ⟨g, off, 0, cur, by simp, hb, hh, by omega, by omega, by omega, ?_⟩
      rw [← hd]
      simp
    · refine ⟨g, off + z, cap - 1, cur, ?_, hb, hh, by omega, by omega, ?_, hd⟩
      · rw [if_neg hc]
        simp [Addr.add]
      · have : (cap - 1) * z + z = cap * z := by rw [← Nat.succ_mul]; congr 1; omega
        omega
end
theorem run_appCut {P : Program} (w : World) (t ty e : TypeId) (i : TypeInfo) (z : Nat) (ht : P.underlying t = some (.slice e)) (hi : P.info? e = some i) (hz : i.size = z) (g off n cap : Nat) (a : Addr) (m c : Nat) (cur news : List Value) (tt : TypeId) (hg : w.heap[g]? = some (.cells cur.toArray tt (0, 0)))
    (hl : news.length = m * z) (hnews : ∀ j u, news[j]? = some u → w.cell? (a.add j) = some u) (h1 : ∀ u ∈ news, u.oneCell' = true) (hroom : n + m ≤ cap) (hfit : off + n * z + news.length ≤ cur.length) :
    ∃ w', (Builtin.append_ #[t, t] ty #[.slice (some ⟨g, off, none⟩) n cap, .slice (some a) m c]).run P w = .ok (.slice (some ⟨g, off, none⟩) (n + m) cap) w' ∧ w'.heap[g]? = some (.cells (cur.take (off + n * z) ++ news ++ cur.drop (off + n * z + news.length)).toArray tt (0, 0)) ∧ Chg w w' (fun k => k = g) := by
  have hst := run_storeCells_at P g (off + n * z) tt news 0 cur.toArray w hg (by simpa using hfit) h1
  have hfc := run_firstCells_some (P := P) w i.size m a m c news (by rw [hz]; exact hl) hnews
  subst hz
  simp only [Nat.add_zero] at hst
  refine ⟨_, ?_, setRow_heap w g _ _ tt _ hg, ⟨rfl, rfl, rfl, by simp [World.setRow], fun k hk hne => setRow_other w g k _ hne⟩⟩
  simp [Builtin.append_, run_underlying ht, sizeOf, typeInfo, hi, Builtin.lenOf, hroom, hfc, Addr.add_lit, hst]
/-- Append to a row that was cut. -/
theorem run_append_cut {P : Program} (w : World) (base : Nat) (t ty e : TypeId) (i : TypeInfo) (zv : Value) (size bytes : Nat) (ht : P.underlying t = some (.slice e)) (hi : P.info? e = some i) (hz : i.zero = some zv)
    (hsize : i.size = size) (hby : i.bytes = bytes) (hzs : zv.cells.size = size) (hsz : 0 < size) (v : Value) (n : Nat) (xs : List Value) (hown : Ct w base e size v n xs)
    (a : Addr) (m c : Nat) (news : List Value) (hl : news.length = m * size) (hnews : ∀ j u, news[j]? = some u → w.cell? (a.add j) = some u) (h1 : ∀ u ∈ news, u.oneCell' = true)
    (h63 : n + m ≤ maxLen) (hbytes : (n + m) * bytes ≤ 140737488355328) (hbase : base ≤ w.heap.size) (hm : 0 < m) :
    ∃ v' w', (Builtin.append_ #[t, t] ty #[v, .slice (some a) m c]).run P w = .ok v' w' ∧ Ct w' base e size v' (n + m) (xs ++ news) ∧ Chg w w' (ftV v) ∧ (v'.ownBlock = v.ownBlock ∨ v'.ownBlock = some w.heap.size) := by
  have hlen : (xs ++ news).length = (n + m) * size := by rw [List.length_append, hown.len, hl, Nat.add_mul]
  rcases hown.ex with ⟨rfl, rfl⟩ | ⟨g, off, cap, cur, rfl, hb, hh, hnc, hcm, hcs, htk⟩
  · have hx : xs = [] := List.eq_nil_of_length_eq_zero (by simpa using hown.len)
    subst hx
    obtain ⟨v', w', r1, r2, r3, _, r5⟩ := run_append_own_at (P := P) w base t ty e i zv size bytes ht hi hz hsize hby hzs hsz (.slice none 0 0) 0 [] (World.ownsRow_nil _ _ _ _) a m c news hl hnews h1 h63 hbytes hbase
    refine ⟨v', w', r1, ⟨hlen, ?_⟩, Chg.of_grown' r3 (fun b hb => hb), r5⟩
    rcases r2.2 with q | ⟨g, cap, cu, rfl, q1, q2, q3, q4, q5, q6⟩
    · exact .inl q
    · exact .inr ⟨g, 0, cap, cu.toList, rfl, q1, by simpa using q2, q3, q4, by simp; omega, by simpa using q6⟩
  · by_cases hroom : n + m ≤ cap
    · have hfit : off + n * size + news.length ≤ cur.length := by
        have := Nat.mul_le_mul_right size hroom
        rw [hl, Nat.add_assoc, ← Nat.add_mul]
        omega
      obtain ⟨w', r1, r2, r3⟩ := run_appCut (P := P) w t ty e i size ht hi hsize g off n cap a m c cur news e hh hl hnews h1 hroom hfit
      refine ⟨_, w', r1, ⟨hlen, .inr ⟨g, off, cap, _, rfl, hb, r2, hroom, hcm, ?_, ?_⟩⟩, r3.mono (fun k e => by rw [e]; rfl), .inl rfl⟩
      · simp only [List.length_append, List.length_take, List.length_drop]
        omega
      · have h5 : (cur.take (off + n * size)).length = off + n * size := by rw [List.length_take]; omega
        have h7 : (cur.take (off + n * size)).drop off = xs := by
          rw [List.drop_take, ← htk]
          congr 1
          omega
        rw [List.append_assoc, List.drop_append_of_le_length (by omega), h7, ← List.append_assoc, ← hlen]
        exact List.take_left
    · have holds : ∀ j u, xs[j]? = some u → w.cell? ((⟨g, off, none⟩ : Addr).add j) = some u := by
        intro j u hj
        rw [Addr.add_lit]
        have hjl := (List.getElem?_eq_some_iff.1 hj).1
        rw [hown.len] at hjl
        rw [← htk, List.getElem?_take_of_lt hjl, List.getElem?_drop] at hj
        rw [Hp.cellOf hh]
        exact hj
      subst hsize
      subst hby
      have hr := run_append_grow (P := P) w t ty e i zv ht hi hz ⟨g, off, none⟩ n cap xs hown.len holds a m c news hl hnews (by omega) (by unfold maxLen at h63; omega) (growslice_fits (by omega) hbytes)
      have hge := grownCap_ge w (n + m) cap e
      have hcm2 : grownCap w (n + m) cap e ≤ maxLen := grownCap_le_maxLen w (n + m) cap e h63
      refine ⟨_, _, hr, ⟨hlen, .inr ⟨w.heap.size, 0, _, (xs ++ news ++ (Builtin.zeroCells zv.cells (grownCap w (n + m) cap e - (n + m))).toList), rfl, hbase, ?_, hge, hcm2, ?_, ?_⟩⟩, ?_, .inr rfl⟩
      · have := heap_alloc_new w.drew (.cells (xs.toArray ++ news.toArray ++ Builtin.zeroCells zv.cells (grownCap w (n + m) cap e - (n + m))) e)
        have e9 : (xs ++ news ++ (Builtin.zeroCells zv.cells (grownCap w (n + m) cap e - (n + m))).toList).toArray = xs.toArray ++ news.toArray ++ Builtin.zeroCells zv.cells (grownCap w (n + m) cap e - (n + m)) := by
          apply Array.ext'
          simp
        rw [e9]
        exact this
      · have h9 := size_zeroCells zv.cells (grownCap w (n + m) cap e - (n + m))
        have e10 : grownCap w (n + m) cap e * i.size = (n + m) * i.size + (grownCap w (n + m) cap e - (n + m)) * i.size := by rw [← Nat.add_mul]; congr 1; omega
        rw [List.length_append, hlen, Array.length_toList, h9, hzs, e10]
        omega
      · rw [List.drop_zero, ← hlen]
        exact List.take_left
      · exact ⟨rfl, rfl, rfl, by simp, fun k hk _ => Below.heap_alloc w.drew _ k hk⟩
theorem wpList_append_cut {P : Program} (w : World) {ops : Array Oper} {rest : List Oper} {o : Oper} {ac : Act} {Q : Exit → Act → World → Prop} (hgd : o.guard = none) (s x : Operand) (t : TypeId)
    (ho : o.op = .call { callee := .builtin .append, args := #[s, x], argTypes := #[t, t] })
    (base : Nat) (e : TypeId) (i : TypeInfo) (zv : Value) (size bytes : Nat) (ht : P.underlying t = some (.slice e)) (hi : P.info? e = some i) (hz : i.zero = some zv)
    (hsize : i.size = size) (hby : i.bytes = bytes) (hzs : zv.cells.size = size) (hsz : 0 < size) (v : Value) (n : Nat) (xs : List Value) (hs : ac.eval s = v) (hown : Ct w base e size v n xs)
    (a : Addr) (m c : Nat) (news : List Value) (hx : ac.eval x = .slice (some a) m c) (hl : news.length = m * size) (hnews : ∀ j u, news[j]? = some u → w.cell? (a.add j) = some u) (h1 : ∀ u ∈ news, u.oneCell' = true)
    (h63 : n + m ≤ maxLen) (hbytes : (n + m) * bytes ≤ 140737488355328) (hbase : base ≤ w.heap.size) (hm : 0 < m)
    (h : ∀ v' w', Ct w' base e size v' (n + m) (xs ++ news) → Chg w w' (ftV v) → (v'.ownBlock = v.ownBlock ∨ v'.ownBlock = some w.heap.size) → wpList P ops Q rest (ac.put o.dst v') w') : wpList P ops Q (o :: rest) ac w := by
  refine wpList_plain hgd fun K hK => ?_
  obtain ⟨v', w', hr, h2, h3, h4⟩ := run_append_cut (P := P) w base t o.type e i zv size bytes ht hi hz hsize hby hzs hsz v n xs hown a m c news hl hnews h1 h63 hbytes hbase hm
  unfold Oper.wp execOp
  simp only [ho, resolve, invoke, builtin, Sem.run_bind, Sem.run_pure, Result.andThen_ok, List.map_toArray, List.map_cons, List.map_nil, hs, hx, hr]
  exact hK _ _ (h v' w' h2 h3 h4)
end Go.Proofs.Ythcdfknadcdfkaa
