/-
  X26Back
  X26Bk2
-/
import Derived.Test.YtbfbfbbpajaclaaDoorMB29
/-
  Layer 26's lines, plain: what is read has its line and is plain, and a plain entry's line is read back. No Go text in sight.
-/
namespace Go.Proofs.YtbfbfbbpajaclaaDoor
open Go.RowKit
set_option linter.unusedVariables false
set_option linter.unusedSimpArgs false
theorem accL_app : ∀ (a b : List UInt8) (U : Int), (∀ c ∈ a, 48 ≤ c.toNat ∧ c.toNat ≤ 57) → accL U (a ++ b) = (accL U a).bind fun x => accL x b
  | [], b, U, _ => rfl
  | c :: a, b, U, h => by
    have hc := h c (by simp)
    simp only [List.cons_append, accL]
    rw [if_neg (by omega), if_neg (by omega)]
    exact accL_app a b _ (fun x hx => h x (by simp [hx]))
theorem accL_dig : ∀ (f u : Nat), u < 10 ^ (f + 1) → u < 18446744073709551616 → accL 0 (digF (f + 1) u) = some (u : Int)
  | 0, u, h, _ => by
    have h10 : u / 10 = 0 := by omega
    rw [digF_last h10]
    have := dig_nat (k := u % 10) (by omega)
    simp only [accL]
    rw [if_neg (by omega), this]
    congr 1
    go_arith
  | f + 1, u, h, h64 => by
    by_cases h10 : u / 10 = 0
    · rw [digF_last h10]
      have := dig_nat (k := u % 10) (by omega)
      simp only [accL]
      rw [if_neg (by omega), this]
      congr 1
      go_arith
    · have hN := accL_dig f (u / 10) (by rw [Nat.pow_succ] at h; omega) (by omega)
      rw [digF_more h10, accL_app _ _ _ (fun c hc => digF_dig _ _ c hc), hN]
      have := dig_nat (k := u % 10) (by omega)
      simp only [Option.bind_some, accL]
      rw [if_neg (by omega), this]
      congr 1
      go_arith
/-- A field's word, without the blank. -/
def wd1 (e : En) (c : UInt8) : List UInt8 := c :: (if (unE e c.toNat).2 = true then digF 20 (unE e c.toNat).1.toNat else numL (sgE e c.toNat))
theorem wdE_wd1 (e : En) (c : UInt8) : wdE e c = 32 :: wd1 e c := rfl
theorem digF_sp (f u : Nat) : ∀ c ∈ digF f u, c ≠ 32 := by
  intro c hc he
  subst he
  have := digF_dig _ _ _ hc
  revert this; decide
theorem wd1_sp (e : En) {c : UInt8} (h : c ≠ 32) : ∀ d ∈ wd1 e c, d ≠ 32 := by
  intro d hd
  unfold wd1 at hd
  rcases List.mem_cons.1 hd with g | g
  · rw [g]; exact h
  · split at g
    · exact digF_sp _ _ d g
    · exact numL_sp _ d g
theorem words_flat (e : En) : ∀ (f a : List UInt8), (∀ c ∈ f, c ≠ 32) → (∀ c ∈ a, c ≠ 32) → wordsL (a ++ f.flatMap (wdE e)) = a :: f.map (wd1 e)
  | [], a, _, ha => by simp [wordsL_one ha]
  | c :: f, a, hf, ha => by
    have h1 : a ++ (c :: f).flatMap (wdE e) = a ++ 32 :: (wd1 e c ++ f.flatMap (wdE e)) := by rw [List.flatMap_cons, wdE_wd1]; rfl
    rw [h1, wordsL_cons ha, words_flat e f (wd1 e c) (fun x hx => hf x (by simp [hx])) (wd1_sp e (hf c (by simp)))]
    rfl
/-- A letter's number is read back. -/
theorem numL_neg {v : Int} (h : v < 0) : numL v = 45 :: digF 20 (-v).toNat := by unfold numL; rw [if_pos h]
theorem numL_pos {v : Int} (h : ¬ v < 0) : numL v = digF 20 v.toNat := by unfold numL; rw [if_neg h]
theorem digF_head {u : Nat} : ∃ c r, digF 20 u = c :: r ∧ 48 ≤ c.toNat ∧ c.toNat ≤ 57 := by
  cases h : digF 20 u with
  | nil => exact absurd h (digF_ne 19 u)
  | cons c r => exact ⟨c, r, rfl, digF_dig 20 u c (by rw [h]; simp)⟩
theorem setE_num (e : En) (c : UInt8) {v : Int} (hv : -9223372036854775808 ≤ v ∧ v ≤ 9223372036854775807) : ∃ n, setE e c (c :: numL v) = (putE e c.toNat v n, true) := by
  by_cases h0 : v < 0
  · rw [numL_neg h0]
    obtain ⟨d, r, hd, hd1, hd2⟩ := digF_head (u := (-v).toNat)
    have hN := accL_dig 19 (-v).toNat (by omega) (by omega)
    refine ⟨((-v).toNat : Int), ?_⟩
    unfold setE
    rw [if_neg (by simp), if_neg (by simp)]
    have hn : negL (c :: 45 :: digF 20 (-v).toNat) = true := rfl
    rw [if_pos hn]
    show setN e c.toNat _ (accL 0 (digF 20 (-v).toNat)) = _
    rw [hN]
    show (putE e c.toNat (kE _ _) _, true) = _
    unfold kE
    rw [if_pos hn]
    congr 2
    unfold wrap64
    rw [IntKind.wrap_u64]
    omega
  · rw [numL_pos h0]
    obtain ⟨d, r, hd, hd1, hd2⟩ := digF_head (u := v.toNat)
    have hN := accL_dig 19 v.toNat (by omega) (by omega)
    refine ⟨(v.toNat : Int), ?_⟩
    unfold setE
    have hlen : ¬ (c :: digF 20 v.toNat).length < 2 := by rw [hd]; simp
    have hn : ¬ negL (c :: digF 20 v.toNat) = true := by
      unfold negL; rw [hd]; show ¬ (d.toNat == 45) = true; simp; omega
    rw [if_neg hlen, if_neg (by simp), if_neg hn]
    show setN e c.toNat _ (accL 0 (digF 20 v.toNat)) = _
    rw [hN]
    show (putE e c.toNat (kE _ _) _, true) = _
    unfold kE
    rw [if_neg hn]
    congr 2
    unfold wrap64
    omega
theorem setE_dig (e : En) (c : UInt8) {u : Nat} (hu : u < 18446744073709551616) : ∃ k, setE e c (c :: digF 20 u) = (putE e c.toNat k u, true) := by
  obtain ⟨d, r, hd, hd1, hd2⟩ := digF_head (u := u)
  have hN := accL_dig 19 u (by omega) hu
  unfold setE
  have hlen : ¬ (c :: digF 20 u).length < 2 := by rw [hd]; simp
  have hn : ¬ negL (c :: digF 20 u) = true := by
    unfold negL; rw [hd]; show ¬ (d.toNat == 45) = true; simp; omega
  rw [if_neg hlen, if_neg (by simp), if_neg hn]
  refine ⟨kE (c :: digF 20 u) u, ?_⟩
  show setN e c.toNat _ (accL 0 (digF 20 u)) = _
  rw [hN]
  rfl
end Go.Proofs.YtbfbfbbpajaclaaDoor
/-
  Layer 26's lines, plain: fields apart; an entry is its fields. No Go text in sight.
-/
namespace Go.Proofs.YtbfbfbbpajaclaaDoor
open Go.RowKit
set_option linter.unusedVariables false
set_option linter.unusedSimpArgs false
set_option maxRecDepth 100000
/-- Two entries have the same field. -/
def Eq26 (r e : En) (c : UInt8) : Prop := unE r c.toNat = unE e c.toNat ∧ ((unE e c.toNat).2 = false → sgE r c.toNat = sgE e c.toNat)
theorem Eq26.rfl' (e : En) (c : UInt8) : Eq26 e e c := ⟨rfl, fun _ => rfl⟩
theorem Eq26.trans {a b e : En} {c : UInt8} (h1 : Eq26 a b c) (h2 : Eq26 b e c) : Eq26 a e c := ⟨h1.1.trans h2.1, fun h => (h1.2 (by rw [h2.1]; exact h)).trans (h2.2 h)⟩
theorem put_other (e : En) (k n : Int) {c d : UInt8} (hc : c ∈ allL) (hd : d ∈ allL) (h : c ≠ d) : Eq26 (putE e d.toNat k n) e c := by
  simp only [allL, List.mem_cons, List.not_mem_nil, or_false] at hc hd
  rcases hc with rfl | rfl | rfl | rfl | rfl | rfl | rfl | rfl | rfl | rfl | rfl | rfl | rfl | rfl | rfl | rfl | rfl | rfl | rfl | rfl <;>
    rcases hd with rfl | rfl | rfl | rfl | rfl | rfl | rfl | rfl | rfl | rfl | rfl | rfl | rfl | rfl | rfl | rfl | rfl | rfl | rfl | rfl <;>
    first | exact absurd rfl h | exact ⟨rfl, fun _ => rfl⟩ | exact ⟨rfl, fun h => by cases h⟩
theorem put_wh (e : En) (c : Nat) (k n : Int) : (putE e c k n).wh = e.wh := by
  have hb : (brE e c n).wh = e.wh := by
    unfold brE
    by_cases q : c = 110
    · rw [if_pos q]
    rw [if_neg q]; clear q
    by_cases q : c = 107
    · rw [if_pos q]
    rw [if_neg q]; clear q
    by_cases q : c = 119
    · rw [if_pos q]
    rw [if_neg q]; clear q
    by_cases q : c = 114
    · rw [if_pos q]
    rw [if_neg q]; clear q
    by_cases q : c = 79
    · rw [if_pos q]
    rw [if_neg q]; clear q
    by_cases q : c = 86
    · rw [if_pos q]
    rw [if_neg q]
  unfold putE
  by_cases q : c = 116
  · rw [if_pos q]
  rw [if_neg q]; clear q
  by_cases q : c = 102
  · rw [if_pos q]
  rw [if_neg q]; clear q
  by_cases q : c = 99
  · rw [if_pos q]
  rw [if_neg q]; clear q
  by_cases q : c = 103
  · rw [if_pos q]
  rw [if_neg q]; clear q
  by_cases q : c = 101
  · rw [if_pos q]
  rw [if_neg q]; clear q
  by_cases q : c = 104
  · rw [if_pos q]
  rw [if_neg q]; clear q
  by_cases q : c = 112
  · rw [if_pos q]
  rw [if_neg q]; clear q
  by_cases q : c = 118
  · rw [if_pos q]
  rw [if_neg q]; clear q
  by_cases q : c = 97
  · rw [if_pos q]
  rw [if_neg q]; clear q
  by_cases q : c = 120
  · rw [if_pos q]
  rw [if_neg q]; clear q
  by_cases q : c = 109
  · rw [if_pos q]
  rw [if_neg q]; clear q
  by_cases q : c = 111
  · rw [if_pos q]
  rw [if_neg q]; clear q
  by_cases q : c = 121
  · rw [if_pos q]
  rw [if_neg q]; clear q
  by_cases q : c = 98
  · rw [if_pos q]
  rw [if_neg q]; clear q
  exact hb
theorem put_ou (e : En) (c : Nat) (k n : Int) : (putE e c k n).ou = e.ou := by
  have hb : (brE e c n).ou = e.ou := by
    unfold brE
    by_cases q : c = 110
    · rw [if_pos q]
    rw [if_neg q]; clear q
    by_cases q : c = 107
    · rw [if_pos q]
    rw [if_neg q]; clear q
    by_cases q : c = 119
    · rw [if_pos q]
    rw [if_neg q]; clear q
    by_cases q : c = 114
    · rw [if_pos q]
    rw [if_neg q]; clear q
    by_cases q : c = 79
    · rw [if_pos q]
    rw [if_neg q]; clear q
    by_cases q : c = 86
    · rw [if_pos q]
    rw [if_neg q]
  unfold putE
  by_cases q : c = 116
  · rw [if_pos q]
  rw [if_neg q]; clear q
  by_cases q : c = 102
  · rw [if_pos q]
  rw [if_neg q]; clear q
  by_cases q : c = 99
  · rw [if_pos q]
  rw [if_neg q]; clear q
  by_cases q : c = 103
  · rw [if_pos q]
  rw [if_neg q]; clear q
  by_cases q : c = 101
  · rw [if_pos q]
  rw [if_neg q]; clear q
  by_cases q : c = 104
  · rw [if_pos q]
  rw [if_neg q]; clear q
  by_cases q : c = 112
  · rw [if_pos q]
  rw [if_neg q]; clear q
  by_cases q : c = 118
  · rw [if_pos q]
  rw [if_neg q]; clear q
  by_cases q : c = 97
  · rw [if_pos q]
  rw [if_neg q]; clear q
  by_cases q : c = 120
  · rw [if_pos q]
  rw [if_neg q]; clear q
  by_cases q : c = 109
  · rw [if_pos q]
  rw [if_neg q]; clear q
  by_cases q : c = 111
  · rw [if_pos q]
  rw [if_neg q]; clear q
  by_cases q : c = 121
  · rw [if_pos q]
  rw [if_neg q]; clear q
  by_cases q : c = 98
  · rw [if_pos q]
  rw [if_neg q]; clear q
  exact hb
theorem put_un (e0 : En) (k n : Int) {c : UInt8} (hc : c ∈ allL) (h : (unE e0 c.toNat).2 = true) : unE (putE e0 c.toNat k n) c.toNat = (n, true) := by
  simp only [allL, List.mem_cons, List.not_mem_nil, or_false] at hc
  rcases hc with rfl | rfl | rfl | rfl | rfl | rfl | rfl | rfl | rfl | rfl | rfl | rfl | rfl | rfl | rfl | rfl | rfl | rfl | rfl | rfl <;>
    first | rfl | cases h
theorem put_sg (e0 : En) (k n : Int) {c : UInt8} (hc : c ∈ allL) (h : (unE e0 c.toNat).2 = false) (hk : c = 98 → k = 0 ∨ k = 1) : unE (putE e0 c.toNat k n) c.toNat = (0, false) ∧ sgE (putE e0 c.toNat k n) c.toNat = k := by
  simp only [allL, List.mem_cons, List.not_mem_nil, or_false] at hc
  rcases hc with rfl | rfl | rfl | rfl | rfl | rfl | rfl | rfl | rfl | rfl | rfl | rfl | rfl | rfl | rfl | rfl | rfl | rfl | rfl | rfl <;>
    first
    | exact ⟨rfl, rfl⟩
    | (exfalso; cases h; done)
    | (refine ⟨rfl, ?_⟩
       rcases hk rfl with g | g <;> subst g <;> rfl)
theorem un_snd (a b : En) (c : Nat) : (unE a c).2 = (unE b c).2 := by
  unfold unE
  repeat' split
  all_goals rfl
theorem un_no {a : En} {c : Nat} (h : (unE a c).2 = false) : unE a c = (0, false) := by
  unfold unE at h ⊢
  repeat' split at h
  all_goals first | (exfalso; cases h; done) | simp [*]
theorem en_ext {r e : En} (h1 : r.wh = e.wh) (h2 : r.ou = e.ou) (h : ∀ c ∈ allL, Eq26 r e c) : r = e := by
  have g : ∀ c ∈ allL, _ := h
  have s := fun (c : UInt8) (hc : c ∈ allL) => (h c hc).2
  have u := fun (c : UInt8) (hc : c ∈ allL) => (h c hc).1
  have e1 : r.ta = e.ta := s 116 (by decide) rfl
  have e2 : r.fr = e.fr := s 102 (by decide) rfl
  have e3 : r.cm = e.cm := s 99 (by decide) rfl
  have e4 : r.tg = e.tg := s 103 (by decide) rfl
  have e5 : r.ev = e.ev := s 101 (by decide) rfl
  have e6 : r.hk = e.hk := s 104 (by decide) rfl
  have e7 : r.pg = e.pg := s 112 (by decide) rfl
  have e8 : r.ve = e.ve := s 118 (by decide) rfl
  have e9 : r.pc = e.pc := s 97 (by decide) rfl
  have e10 : r.xe = e.xe := s 120 (by decide) rfl
  have e11 : r.mp = e.mp := s 109 (by decide) rfl
  have e12 : r.op = e.op := s 111 (by decide) rfl
  have e13 : r.er = e.er := s 121 (by decide) rfl
  have e14 : (if r.fo = true then (1 : Int) else 0) = if e.fo = true then 1 else 0 := s 98 (by decide) rfl
  have e15 : (r.va, true) = (e.va, true) := u 110 (by decide)
  have e16 : (r.ky, true) = (e.ky, true) := u 107 (by decide)
  have e17 : (r.vl, true) = (e.vl, true) := u 119 (by decide)
  have e18 : (r.rv, true) = (e.rv, true) := u 114 (by decide)
  have e19 : (r.ok, true) = (e.ok, true) := u 79 (by decide)
  have e20 : (r.ov, true) = (e.ov, true) := u 86 (by decide)
  have e21 : r.fo = e.fo := by cases hr : r.fo <;> cases he : e.fo <;> rw [hr, he] at e14 <;> first | rfl | (simp at e14)
  obtain ⟨a1, a2, a3, a4, a5, a6, a7, a8, a9, a10, a11, a12, a13, a14, a15, a16, a17, a18, a19, a20, a21, a22⟩ := r
  obtain ⟨b1, b2, b3, b4, b5, b6, b7, b8, b9, b10, b11, b12, b13, b14, b15, b16, b17, b18, b19, b20, b21, b22⟩ := e
  simp only [Prod.mk.injEq, and_true] at e1 e2 e3 e4 e5 e6 e7 e8 e9 e10 e11 e12 e13 e15 e16 e17 e18 e19 e20 e21 h1 h2
  simp only [En.mk.injEq]
  exact ⟨h1, e1, e2, e3, e4, e5, e6, e7, e8, e9, e11, e12, e16, e17, e13, e21, e18, h2, e19, e20, e15, e10⟩
theorem fld_in : ∀ (k : Fin 18) (o : Bool), (fldL (k.val : Int) o).all (fun c => allL.contains c && c != 32) = true := by decide +kernel
theorem fld_out : ∀ (k : Fin 18), inL26 (fldL (k.val : Int) true) 121 = inL26 (fldL (k.val : Int) false) 121 ∧ (inL26 (fldL (k.val : Int) true) 121 = true → (fldL (k.val : Int) true).length = (fldL (k.val : Int) false).length + 2) := by decide +kernel
theorem nm_apart : ∀ (k j : Fin 17), nmE ((k.val : Int) + 1) = nmE ((j.val : Int) + 1) → k = j := by decide +kernel
theorem nm_sp : ∀ (k : Fin 18), (nmE (k.val : Int)).all (fun c => c != 32) = true := by decide +kernel
end Go.Proofs.YtbfbfbbpajaclaaDoor
