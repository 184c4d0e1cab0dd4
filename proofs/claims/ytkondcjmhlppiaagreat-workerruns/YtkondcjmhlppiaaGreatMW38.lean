/-
  JInq
  JBlur
-/
import Derived.Test.YtkondcjmhlppiaaGreatMW32
import Derived.Test.YtkondcjmhlppiaaGreatMW37
import Derived.Test.YtkondcjmhlppiaaGreatMW23
import Derived.Test.YtkondcjmhlppiaaGreatMW25
import Derived.Test.YtkondcjmhlppiaaGreatMW0
import Derived.Deep.CutRange
namespace Go.Proofs.YtkondcjmhlppiaaGreat
open Go.RowKit
set_option linter.unusedVariables false
set_option linter.unusedSimpArgs false
set_option maxRecDepth 100000
structure Inq (w0 w : World) (qb kb nm : Nat) (vl : Value) (cb co ccap : Nat) (xs : List In) (ls : List Lp) (K : Kn) : Prop where
 b0 : Below w0.heap.size w0 w
 q : Hp w qb 106 (qC nm (.slice (some ⟨cb, co, none⟩) xs.length ccap) vl kb xs.length)
 k : Hp w kb 115 (flatK K)
 len : K.length = xs.length
 ne : qb ≠ kb
 hq : w0.heap.size <= qb
 hk : w0.heap.size <= kb
 e8 : Eight K
 code : SeesI w0 (.slice (some ⟨cb, co, none⟩) xs.length ccap) xs
 lo : SeesL w0 vl ls
theorem Inq.grown {w0 w w' : World} {qb kb nm cb co ccap : Nat} {vl : Value} {xs : List In} {ls : List Lp} {K K' : Kn} (h : Inq w0 w qb kb nm vl cb co ccap xs ls K) (hg : w.grownBy w' (some kb)) (hk : Hp w' kb 115 (flatK K')) (hl : K'.length = K.length) (h8 : Eight K') : Inq w0 w' qb kb nm vl cb co ccap xs ls K' :=
 ⟨h.b0.trans (grown_to_below hg h.hk h.b0.size), h.q.grown hg (fun e => h.ne (by injection e)), hk, hl.trans h.len, h.ne, h.hq, h.hk, h8, h.code, h.lo⟩
theorem Inq.below {w0 w w' : World} {qb kb nm cb co ccap : Nat} {vl : Value} {xs : List In} {ls : List Lp} {K : Kn} (h : Inq w0 w qb kb nm vl cb co ccap xs ls K) (hb : Below w.heap.size w w') : Inq w0 w' qb kb nm vl cb co ccap xs ls K :=
 h.grown (grown_of_below hb _) (h.k.below hb h.k.lt) rfl h.e8
theorem Inq.at {w0 w : World} {qb kb nm cb co ccap : Nat} {vl : Value} {xs : List In} {ls : List Lp} {K : Kn} (h : Inq w0 w qb kb nm vl cb co ccap xs ls K) {p : Nat} (hp : p < xs.length) : At w cb (co + p * 5) (nth xs p) /\ cb < w0.heap.size /\ xs.length <= ccap /\ ccap <= 9223372036854775807 := by
 obtain ⟨a, cap, hv, h1, h2, h3, h4⟩ := h.code
 injection hv with e1 e2 e3
 subst e1 e3
 obtain ⟨b, off, he, hlt, hat⟩ := h4 (fun e => by rw [e] at hp; simp at hp)
 injection he with he
 injection he with e4 e5
 subst e4 e5
 refine ⟨(hat p hp).below h.b0 hlt, hlt, h1, by unfold maxLen at h2; omega⟩
theorem arrK_len (K : Kn) (p : Nat) (r : Bool) (s : St) : (arrK K p r s).length = K.length := by
 unfold arrK
 split
 ·rfl
 ·split <;> simp
theorem arrK_eight {K : Kn} (h : Eight K) (p : Nat) (r : Bool) {s : St} (hs : s.length = 8) : Eight (arrK K p r s) := by
 unfold arrK
 split
 ·exact h
 ·split
  ·exact h.set p hs
  ·exact h.set p (joinU_len _ _ _)
def inC (i : In) : List Value := [.int .i64 i.op, .int .i64 i.d, .int .i64 i.a, .int .i64 i.b, .int .i64 i.imm]
theorem Hp.inst {w : World} {b : Nat} {t : TypeId} {op d a b' imm : Int} (h : Hp w b t (inC ⟨op, d, a, b', imm⟩)) : Box w b op d a b' imm := ⟨h.cell rfl, h.cell rfl, h.cell rfl, h.cell rfl, h.cell rfl⟩
def Taken2 (w wc : World) (i : In) (r : Bool) (s : St) (v4 v5 : Value) : Prop := ∃ ib sb, v4 = .pointer (some ⟨ib, 0, none⟩) /\ v5 = .pointer (some ⟨sb, 0, none⟩) /\ Hp wc ib 60 (inC i) /\ Hp wc sb 115 (stC r s) /\ Below w.heap.size w wc /\ w.heap.size <= ib /\ w.heap.size <= sb /\ ib ≠ sb
def MadeK (nm : Nat) (K : Kn) : Prop := ∀ p ∈ K, Made8 nm p.2
theorem MadeK.at {nm : Nat} {K : Kn} (h : MadeK nm K) (k : Nat) : Made8 nm (K.getD k kn0).2 := by
 by_cases hk : k < K.length
 ·rw [show K.getD k kn0 = K[k] by simp [List.getD, List.getElem?_eq_getElem hk]]; exact h _ (List.getElem_mem hk)
 ·rw [show K.getD k kn0 = kn0 by simp [List.getD, List.getElem?_eq_none (show K.length <= k by omega)]]; exact made_zero nm
theorem MadeK.set {nm : Nat} {K : Kn} (h : MadeK nm K) (k : Nat) {p : Bool × St} (hp : Made8 nm p.2) : MadeK nm (K.set k p) := fun q hq => by
 rcases List.mem_or_eq_of_mem_set hq with h1 | h1
 ·exact h q h1
 ·rw [h1]; exact hp
theorem MadeK.eight {nm : Nat} {K : Kn} (h : MadeK nm K) : Eight K := fun p hp => (h p hp).1
theorem made_joinU {nm : Nat} {h s : St} (hh : Made8 nm h) (hs : Made8 nm s) (n : Nat) : Made8 nm (joinU h s n) := by
 refine ⟨joinU_len _ _ _, fun t ht => ?_⟩
 unfold joinU at ht
 obtain ⟨k, hk, rfl⟩ := List.mem_map.1 ht
 have hk8 := List.mem_range.1 hk
 split
 ·exact made_join2 (hh.get hk8) (hs.get hk8)
 ·exact hh.get hk8
theorem made_arr {nm : Nat} {K : Kn} (h : MadeK nm K) (p : Nat) (r : Bool) {s : St} (hs : Made8 nm s) : MadeK nm (arrK K p r s) := by
 unfold arrK
 split
 ·exact h
 ·split
  ·exact h.set p hs
  ·exact h.set p (made_joinU (h.at p) hs 8)
theorem larrive_inq {w0 w : World} {qb kb nm cb co ccap : Nat} {vl : Value} {xs : List In} {ls : List Lp} {K : Kn} (h : Inq w0 w qb kb nm vl cb co ccap xs ls K) {pI : Int} {p : Nat} (he : Hid (pI = p)) (hp : p < xs.length) (r : Bool) {s : St} (hs : Made8 nm s) (hM : MadeK nm K) :
  Calls Tryz.prog 30 #[.pointer (some ⟨qb, 0, none⟩), .int .i64 pI, stV r s] w fun e w' => e = .returned (.tuple #[]) /\ w.grownBy w' (some kb) /\ Inq w0 w' qb kb nm vl cb co ccap xs ls (arrK K p r s) /\ MadeK nm (arrK K p r s) := by
 rw [he.out]
 refine (larrive_any qb kb p nm _ vl K r s w (by rw [h.len]; exact h.q) h.k h.ne h.e8 (by rw [h.len]; exact hp) hs (hM.at p)).mono ?_
 rintro e w' ⟨rfl, hg, hk⟩
 exact ⟨rfl, hg, h.grown hg hk (arrK_len _ _ _ _) (arrK_eight h.e8 p r hs.1), made_arr hM p r hs⟩
def blurI (s : St) (i : In) : St := if i.wr.2 = true then s.set i.wr.1.toNat (blurT (s.getD i.wr.1.toNat Ty.nil)) else s
def segI (xs : List In) (p M : Nat) : List In := (xs.drop p).take M
def blurOne (xs : List In) (p : Nat) (s : St) (l : Lp) : St := if l.h = p then (segI xs p (l.t + 1 - p).toNat).foldl blurI s else s
def blurAll (xs : List In) (p : Nat) (ls : List Lp) (s : St) : St := ls.foldl (blurOne xs p) s
theorem made_blurT (nm : Nat) (t : Ty) : Made nm (blurT t) := by
 unfold blurT
 split
 ·exact made_full nm
 ·exact made_nil nm
theorem made_blurI {nm : Nat} {s : St} (h : Made8 nm s) (i : In) : Made8 nm (blurI s i) := by
 unfold blurI
 split
 ·exact h.set _ (made_blurT nm _)
 ·exact h
theorem made_seg {nm : Nat} (l : List In) : ∀ {s : St}, Made8 nm s -> Made8 nm (l.foldl blurI s) := by
 induction l with
 | nil => intro s h; exact h
 | cons i l ih => intro s h; exact ih (made_blurI h i)
theorem made_blurOne {nm : Nat} {xs : List In} {p : Nat} {s : St} (h : Made8 nm s) (l : Lp) : Made8 nm (blurOne xs p s l) := by
 unfold blurOne
 split
 ·exact made_seg _ h
 ·exact h
theorem made_blurAll {nm : Nat} {xs : List In} {p : Nat} (ls : List Lp) : ∀ {s : St}, Made8 nm s -> Made8 nm (blurAll xs p ls s) := by
 unfold blurAll
 induction ls with
 | nil => intro s h; exact h
 | cons i l ih => intro s h; exact ih (made_blurOne h i)
theorem fold_take {α β : Type} (f : β -> α -> β) (l : List α) (b : β) {k : Nat} (hk : k < l.length) (d : α) : (l.take (k + 1)).foldl f b = f ((l.take k).foldl f b) (l.getD k d) := by
 rw [List.take_add_one, List.foldl_append]
 simp [List.getElem?_eq_getElem hk, List.getD]
theorem fold_all {α β : Type} (f : β -> α -> β) (l : List α) (b : β) : (l.take l.length).foldl f b = l.foldl f b := by rw [List.take_length]
theorem seg_len {xs : List In} {p M : Nat} (h : p + M <= xs.length) : (segI xs p M).length = M := by simp [segI]; omega
theorem seg_at {xs : List In} {p M m : Nat} (hm : m < M) : (segI xs p M).getD m In.nil = nth xs (p + m) := by
 simp [segI, List.getD, List.getElem?_take, hm]
theorem lblurred_as {k lo hi m k' lo' hi' m' : Int} (h : Hid (blurT ⟨k, lo, hi, m⟩ = ⟨k', lo', hi', m'⟩)) (w : World) : Calls Tryz.prog 53 #[.agg #[.int .i64 k, .int .u64 lo, .int .u64 hi, .int .i64 m]] w fun e w' => e = .returned (.agg #[.int .i64 k', .int .u64 lo', .int .u64 hi', .int .i64 m']) /\ Below w.heap.size w w' := by
 have := lblurred_any ⟨k, lo, hi, m⟩ w
 rw [h.out] at this
 exact this
theorem Inq.loop {w0 w : World} {qb kb nm cb co ccap : Nat} {la : Option Addr} {lcap : Nat} {xs : List In} {ls : List Lp} {K : Kn} (h : Inq w0 w qb kb nm (.slice la ls.length lcap) cb co ccap xs ls K) {k : Nat} (hk : k < ls.length) : ∃ lb lo, la = some ⟨lb, lo, none⟩ /\ lb < w0.heap.size /\ AtL w lb (lo + k * 3) (ls.getD k Lp.nil) /\ ls.length <= lcap /\ lcap <= 9223372036854775807 := by
 obtain ⟨a, cap, hv, h1, h2, h3, h4⟩ := h.lo
 injection hv with e1 e2 e3
 subst e1 e3
 obtain ⟨b, off, he, hlt, hat⟩ := h4 (fun e => by rw [e] at hk; simp at hk)
 exact ⟨b, off, he, hlt, (hat k hk).below h.b0 hlt, h1, by unfold maxLen at h2; omega⟩
def LpIn (xs : List In) (ls : List Lp) : Prop := ∀ l ∈ ls, 0 <= l.h /\ l.h <= l.t /\ l.t < xs.length
set_option maxHeartbeats 3200000 in
theorem lblur_core (w0 w : World) (qb kb nm cb co ccap p : Nat) (la : Option Addr) (lcap : Nat) (xs : List In) (ls : List Lp) (K : Kn) (h : Inq w0 w qb kb nm (.slice la ls.length lcap) cb co ccap xs ls K) (hp : p < xs.length) (h64 : xs.length <= 64) (hr : ∀ i ∈ xs, i.right = true) (hL : LpIn xs ls) (r : Bool) (s : St) (HK : Hid (K.getD p kn0 = (r, s))) (hs : Made8 nm s) :
  Calls Tryz.prog 31 #[.pointer (some ⟨qb, 0, none⟩), .int .i64 p] w fun e w' => e = .returned (.tuple #[]) /\ Inq w0 w' qb kb nm (.slice la ls.length lcap) cb co ccap xs ls (K.set p (r, blurAll xs p ls s)) := by
 have HQ := keepJ h
 have HR := keepJ hr
 have HLP := keepJ hL
 have HS := keepJ hs
 have HPX := keepJ hp
 have q2 : w.cell? ⟨qb, 2, none⟩ = some (.slice la ls.length lcap) := h.q.cell rfl
 have hp64 : (p : Int) < 64 := by omega
 have hlen : p < K.length := by rw [h.len]; exact hp
 have HPK := keepJ hlen
 have hx64 : (xs.length : Int) <= 64 := by omega
 clear h hr hL hs hlen
 go_enter Tryz.func31, Tryz.ntmps31
 go_wp2
 clear q2
 go_loopw [15] (fun i wr => ∃ k : Nat, k <= ls.length /\ i = .int .i64 k /\ Hid (Inq w0 wr qb kb nm (.slice la ls.length lcap) cb co ccap xs ls (K.set p (r, (ls.take k).foldl (blurOne xs p) s)))) (fun i _ => ls.length - (intOf i).toNat)
 case atStart => exact ⟨0, by omega, rfl, by show Inq _ _ _ _ _ _ _ _ _ _ _ _; simp only [List.take_zero, List.foldl_nil]; rw [<- HK.out, kn_self]; exact HQ.out⟩
 case round =>
  obtain ⟨k, hk, rfl, HI⟩ := hrel
  by_cases hlt : k < ls.length
  ·obtain ⟨lb, lo, rfl, hlb, hal, hlc, hlm⟩ := HI.out.loop hlt
   obtain ⟨lh, lt, lbd, HL⟩ : ∃ a b c, Hid (ls.getD k Lp.nil = ⟨a, b, c⟩) := ⟨_, _, _, rfl⟩
   have hmem : ls.getD k Lp.nil ∈ ls := by rw [show ls.getD k Lp.nil = ls[k] by simp [List.getD, List.getElem?_eq_getElem hlt]]; exact List.getElem_mem hlt
   have hin := HLP.out _ hmem
   rw [HL.out] at hal hin
   obtain ⟨l0, l1, l2⟩ := hal
   simp only at l0 l1 l2 hin
   obtain ⟨sk, HSK⟩ : ∃ sk, Hid ((ls.take k).foldl (blurOne xs p) s = sk) := ⟨_, rfl⟩
   have HST : Hid ((ls.take (k + 1)).foldl (blurOne xs p) s = blurOne xs p sk ⟨lh, lt, lbd⟩) := by show _ = _; rw [fold_take _ _ _ hlt Lp.nil, HL.out, HSK.out]
   rw [HSK.out] at HI
   have hkI : (k : Int) < ls.length := by omega
   by_cases hh : lh = p
   ·obtain ⟨tN, HTN⟩ : ∃ tN : Nat, Hid (lt = tN) := ⟨lt.toNat, by show _ = _; omega⟩
    have ht1 : p <= tN /\ tN < xs.length := by have := HTN.out; omega
    have HEQ : Hid (blurOne xs p sk ⟨lh, lt, lbd⟩ = (segI xs p (tN + 1 - p)).foldl blurI sk) := by
     show _ = _
     unfold blurOne
     rw [if_pos hh, show ((⟨lh, lt, lbd⟩ : Lp).t + 1 - (p : Int)).toNat = tN + 1 - p from by show (lt + 1 - (p : Int)).toNat = _; rw [HTN.out]; omega]
    have HHP : Hid (lh = p) := hh
    rw [HTN.out] at l1
    rw [hh] at l0
    have hKp : Hid (∀ u : St, (K.set p (r, u)).getD p kn0 = (r, u)) := fun u => kn_set HPK.out
    obtain ⟨hat0, hcb, hN, hcc⟩ := HI.out.at HPX.out
    have hwt : IntKind.i64.wrap ((tN : Int) + 1) = ((tN + 1 : Nat) : Int) := by rw [IntKind.wrap_i64]; omega
    have hw1 : tN + 1 <= ccap := by omega
    have hw2 : p <= tN + 1 := by omega
    have hw3 : ¬ ccap = p := by omega
    clear hat0
    clear hh
    have htI : (tN : Int) < 64 := by omega
    have HMk : Hid (Made8 nm sk) := by
     show Made8 nm sk
     rw [<- HSK.out]
     exact made_blurAll (xs := xs) (p := p) (ls.take k) HS.out
    go_wp2
    obtain ⟨Y, nb, HY, HNB, HQY, hYz, n0, n1⟩ : ∃ Y nb, Hid (Y = wr.alloc (Obj.cells #[.int .i64 p, .int .i64 tN, .int .i64 lbd] 143)) /\ Hid (wr.heap.size = nb) /\ Hid (Inq w0 Y qb kb nm (.slice (some ⟨lb, lo, none⟩) ls.length lcap) cb co ccap xs ls (K.set p (r, sk))) /\ nb < Y.heap.size /\ Y.cell? ⟨nb, 0, none⟩ = some (.int .i64 p) /\ Y.cell? ⟨nb, 1, none⟩ = some (.int .i64 tN) :=
     ⟨_, _, rfl, rfl, HI.out.below ((Below.refl _ _).alloc (Nat.le_refl _) _), by simp, by go_cell, by go_cell⟩
    rw [<- HY.out, HNB.out]
    clear HY HNB l0 l1 l2
    have q1 : Y.cell? ⟨qb, 1, none⟩ = some (.slice (some ⟨cb, co, none⟩) xs.length ccap) := HQY.out.q.cell rfl
    refine wp_region_held_drew (S := fun w' => w'.cell? ⟨qb, 1, none⟩ = some (.slice (some ⟨cb, co, none⟩) xs.length ccap) /\ w'.cell? ⟨nb, 0, none⟩ = some (.int .i64 p) /\ w'.cell? ⟨nb, 1, none⟩ = some (.int .i64 tN)) (by kernel_rfl) ⟨q1, n0, n1⟩ (fun hHeld => ?_)
    refine tkGo [0, 1, 2, 3, 4, 5, 6, 7, 8] ?_
    repeat (refine tkO (v := ?_) rfl ?_ ?_; rotate_left; (intro wy hSw; (try dsimp only at hSw); go_simp; (first | done | with_reducible rfl)); try simp only [Act.put, p1q, p2q, p3q, p4q, p5q, p6q])
    refine tkEnd ?_
    refine wpAnyH_take (i := 9) (v := .slice (some ⟨cb, co + p * 5, none⟩) (tN + 1 - p) (ccap - p)) rfl (by kernel_rfl) (by kernel_rfl) (by kernel_rfl) (fun _ _ _ h => h) (Or.inl ⟨by rfl, fun wy hSw => ?_⟩) (by assumption) ?_
    ·go_simp
     exact fun hq => absurd (hq (by omega)) (by omega)
    try simp only [Act.put, p1q, p2q, p3q, p4q, p5q, p6q]
    refine tkGo [10, 11] ?_
    repeat (refine tkO (v := ?_) rfl ?_ ?_; rotate_left; (intro wy hSw; (try dsimp only at hSw); go_simp; (first | done | with_reducible rfl)); try simp only [Act.put, p1q, p2q, p3q, p4q, p5q, p6q])
    refine tkEnd ?_
    refine wpAnyH_done (by kernel_rfl) ?_ _
    go_wp2
    clear q1 n0 n1 hwt hw1 hw2 hw3
    obtain ⟨M, HM⟩ : ∃ M, Hid (tN + 1 - p = M) := ⟨_, rfl⟩
    have hpM : p + M <= xs.length := by have := HM.out; omega
    have HSL : Hid ((segI xs p M).length = M) := seg_len hpM
    rw [HM.out] at HEQ ⊢
    go_loopw [34] (fun i wq => ∃ m : Nat, m <= M /\ i = .int .i64 m /\ Hid (Inq w0 wq qb kb nm (.slice (some ⟨lb, lo, none⟩) ls.length lcap) cb co ccap xs ls (K.set p (r, ((segI xs p M).take m).foldl blurI sk)))) (fun i _ => M - (intOf i).toNat)
    case atStart => exact ⟨0, by omega, rfl, by show Inq _ _ _ _ _ _ _ _ _ _ _ _; simp only [List.take_zero, List.foldl_nil]; exact HQY.out.below (Below.refl _ _).drew⟩
    case round =>
     obtain ⟨m, hm, rfl, HJ⟩ := hrel
     by_cases hmt : m < M
     ·obtain ⟨hat, -, -, -⟩ := HJ.out.at (p := p + m) (by omega)
      obtain ⟨op, d, a, b, imm, HI2⟩ : ∃ op d a b imm, Hid (nth xs (p + m) = ⟨op, d, a, b, imm⟩) := ⟨_, _, _, _, _, rfl⟩
      rw [HI2.out, show co + (p + m) * 5 = co + p * 5 + m * 5 by omega] at hat
      obtain ⟨c0, c1, c2, c3, c4⟩ := hat
      simp only at c0 c1 c2 c3 c4
      obtain ⟨sj, HSJ⟩ : ∃ sj, Hid (((segI xs p M).take m).foldl blurI sk = sj) := ⟨_, rfl⟩
      have HST2 : Hid (((segI xs p M).take (m + 1)).foldl blurI sk = blurI sj ⟨op, d, a, b, imm⟩) := by
       show _ = _
       rw [fold_take _ _ _ (by rw [HSL.out]; exact hmt) In.nil, seg_at hmt, HI2.out, HSJ.out]
      rw [HSJ.out] at HJ
      have HMj : Hid (Made8 nm sj) := by
       show Made8 nm sj
       rw [<- HSJ.out]
       exact made_seg _ HMk.out
      have hmI : (m : Int) < M := by omega
      have hrt : In.right ⟨op, d, a, b, imm⟩ = true := by
       rw [<- HI2.out]
       refine HR.out _ ?_
       rw [show nth xs (p + m) = xs[p + m]'(by omega) by simp [nth, List.getD, List.getElem?_eq_getElem (show p + m < xs.length by omega)]]
       exact List.getElem_mem _
      obtain ⟨wn, ok, HW⟩ : ∃ wn ok, Hid (writesL op d a b imm = (wn, ok)) := ⟨_, _, rfl⟩
      have hcb2 : cb < wr.heap.size := Nat.lt_of_lt_of_le hcb HJ.out.b0.size
      cases ok with
      | false =>
       have HEQ2 : Hid (blurI sj ⟨op, d, a, b, imm⟩ = sj) := by show _ = _; unfold blurI In.wr; rw [HW.out, if_neg (by simp)]
       go_wp2_with (go_at_call 52; go_must (refine (owrites_as HW _).mono ?_); rintro e w1 ⟨rfl, hb1⟩; go_must (have hb2 := box_below hb1; clear hb1))
       go_roundw
       case rel => exact ⟨m + 1, by omega, by go_num, by rw [HST2.out, HEQ2.out]; exact HJ.out.below hb2⟩
       case measure => simp [intOf]; omega
      | true =>
       obtain ⟨n, HWN, hn⟩ : ∃ n : Nat, Hid (wn = n) /\ n < 8 := by
        have hwr : In.wr ⟨op, d, a, b, imm⟩ = (wn, true) := HW.out
        have hop := writes_op ⟨op, d, a, b, imm⟩ (by rw [hwr]) hrt
        rw [hwr] at hop
        rcases hop with ⟨h, ho⟩ | ⟨h, ho⟩
        ·have h2 := right_dest hrt (by simp only at ho ⊢; omega)
         injection h with h3
         simp only at h2 h3
         exact ⟨d.toNat, by show _ = _; omega, by omega⟩
        ·injection h with h3
         exact ⟨0, h3, by omega⟩
       rw [HWN.out] at HW
       obtain ⟨tk, tl, th, tm, HT⟩ : ∃ k' lo hi m, Hid (sj.getD n Ty.nil = ⟨k', lo, hi, m⟩) := ⟨_, _, _, _, rfl⟩
       obtain ⟨jk, jl, jh, jm, HJ2⟩ : ∃ k' lo hi m, Hid (blurT ⟨tk, tl, th, tm⟩ = ⟨k', lo, hi, m⟩) := ⟨_, _, _, _, rfl⟩
       have HEQ2 : Hid (blurI sj ⟨op, d, a, b, imm⟩ = sj.set n ⟨jk, jl, jh, jm⟩) := by show _ = _; unfold blurI In.wr; rw [HW.out, if_pos rfl, Int.toNat_natCast, HT.out, HJ2.out]
       have hnI : (n : Int) < 8 := by omega
       go_wp2_with (go_at_call 52; go_must (refine (owrites_as HW _).mono ?_); rintro e w1 ⟨rfl, hb1⟩; go_must (have hb2 := box_below hb1; have HQ1 := keepJ (HJ.out.below hb2); clear hb1))
       have h8K := HQ1.out.e8
       have hpK : p < (K.set p (r, sj)).length := by rw [List.length_set]; exact HPK.out
       have hgK := hKp.out sj
       have hpI : (p : Int) < xs.length := by omega
       have q3 : w1.cell? ⟨qb, 3, none⟩ = some (.slice (some ⟨kb, 0, none⟩) xs.length xs.length) := HQ1.out.q.cell rfl
       have hAT := (HQ1.out.k.state h8K hpK hgK).typ HMj.out.1 hn
       rw [HT.out] at hAT
       obtain ⟨e0, e1, e2, e3⟩ := hAT
       simp only at e0 e1 e2 e3
       have hqz := HQ1.out.q.lt
       have hkz := HQ1.out.k.lt
       refine wp_region_held_drew (S := fun w' => w'.cell? ⟨qb, 3, none⟩ = some (.slice (some ⟨kb, 0, none⟩) xs.length xs.length)) (by kernel_rfl) q3 (fun hHeld => ?_)
       refine tkGo [0, 1, 2, 3, 4, 5, 6, 7, 8, 9, 10, 11, 12, 13, 14, 17, 18] ?_
       repeat (refine tkO (v := ?_) rfl ?_ ?_; rotate_left; (intro wy hSw; (try dsimp only at hSw); go_simp; (first | done | with_reducible rfl)); try simp only [Act.put, p1q, p2q, p3q, p4q, p5q, p6q])
       refine tkEnd ?_
       refine runO 15 (by kernel_rfl) rfl (by rfl) (fun KK hK => ?_)
       go_simp
       refine hK.out _ _ q3 (fun hHeld => ?_)
       clear hK KK
       try simp only [Act.put, p1q, p2q, p3q, p4q, p5q, p6q]
       refine runO 16 (by kernel_rfl) rfl (by rfl) (fun KK hK => ?_)
       go_simp
       go_at_call 53
       refine (lblurred_as HJ2 w1.drew).mono ?_
       rintro e w3 ⟨rfl, hb3'⟩
       have hb3 : Below w1.heap.size w1 w3 := below_undrew hb3'
       have HQ3 := keepJ (HQ1.out.below hb3)
       have q33 : w3.cell? ⟨qb, 3, none⟩ = some (.slice (some ⟨kb, 0, none⟩) xs.length xs.length) := HQ3.out.q.cell rfl
       refine hK.out _ _ q33 (fun hHeld => ?_)
       clear hK KK
       try simp only [Act.put, p1q, p2q, p3q, p4q, p5q, p6q]
       refine tkGo [19] ?_
       repeat (refine tkO (v := ?_) rfl ?_ ?_; rotate_left; (intro wy hSw; (try dsimp only at hSw); go_simp; (first | done | with_reducible rfl)); try simp only [Act.put, p1q, p2q, p3q, p4q, p5q, p6q])
       refine tkEnd ?_
       have hAT3 := (HQ3.out.k.state h8K hpK hgK).typ HMj.out.1 hn
       rw [HT.out] at hAT3
       obtain ⟨m0, m1, m2, m3⟩ := hAT3
       simp only at m0 m1 m2 m3
       have f0 := HQ3.out.k.frozen (p * 33 + 1 + n * 4)
       have f1 := HQ3.out.k.frozen (p * 33 + 1 + n * 4 + 1)
       have f2 := HQ3.out.k.frozen (p * 33 + 1 + n * 4 + 2)
       have f3 := HQ3.out.k.frozen (p * 33 + 1 + n * 4 + 3)
       have HP3 := keepJ (HQ3.out.k.putT h8K hpK hgK hn ⟨jk, jl, jh, jm⟩)
       have hneq := HQ3.out.ne
       have q34 : (setT w3 kb (p * 33 + 1 + n * 4) ⟨jk, jl, jh, jm⟩).cell? ⟨qb, 3, none⟩ = some (.slice (some ⟨kb, 0, none⟩) xs.length xs.length) := (grown_sets kb (tyC ⟨jk, jl, jh, jm⟩) w3 (p * 33 + 1 + n * 4)).cell q33 (fun e => hneq (by injection e))
       have Q34 := keepJ q34
       clear q34
       refine runO 20 (by kernel_rfl) rfl (by rfl) (fun KK hK => ?_)
       go_simp
       refine hK.out _ _ Q34.out (fun hHeld => ?_)
       clear hK KK
       try simp only [Act.put, p1q, p2q, p3q, p4q, p5q, p6q]
       refine wpAnyH_done (by kernel_rfl) ?_ _
       go_wp2
       go_roundw
       case rel =>
        refine ⟨m + 1, by omega, by go_num, ?_⟩
        rw [HST2.out, HEQ2.out]
        have hP := HP3.out
        rw [List.set_set] at hP
        have := HQ3.out.grown (grown_sets kb (tyC ⟨jk, jl, jh, jm⟩) w3 (p * 33 + 1 + n * 4)) hP (by simp) (by rw [<- List.set_set (a := (r, sj)) (i := p)]; exact h8K.set p (by rw [List.length_set]; exact HMj.out.1))
        exact this
       case measure => simp [intOf]; omega
     ·obtain rfl : m = M := by omega
      go_wp2
      go_roundw
      case rel =>
       refine ⟨k + 1, by omega, by go_num, ?_⟩
       rw [HST.out, HEQ.out]
       have := HJ.out
       rw [show (segI xs p m).take m = segI xs p m from List.take_of_length_le (by rw [HSL.out]; exact Nat.le_refl _)] at this
       exact this
      case measure => simp [intOf]; omega
   ·have HEQ : Hid (blurOne xs p sk ⟨lh, lt, lbd⟩ = sk) := by show _ = _; unfold blurOne; rw [if_neg hh]
    go_wp2
    go_roundw
    case rel => exact ⟨k + 1, by omega, by go_num, by rw [HST.out, HEQ.out]; exact HI.out.below ((Below.refl _ _).alloc (Nat.le_refl _) _)⟩
    case measure => simp [intOf]; omega
  ·obtain rfl : k = ls.length := by omega
   go_wp2
   exact bodyPost_end (results_none rfl _ _ _) rfl ⟨rfl, by have := HI.out; rw [fold_all] at this; exact this⟩
end Go.Proofs.YtkondcjmhlppiaaGreat
