/-
  JPull
  RAtB
-/
import Derived.Test.YtkcofelpndlplaaGreatMT47
import Derived.Test.YtkcofelpndlplaaGreatMT45
namespace Go.Proofs.YtkcofelpndlplaaGreat
set_option linter.unusedVariables false
set_option linter.unusedSimpArgs false
open Go.RowKit
set_option maxRecDepth 100000
theorem joinS_len (C : List St) (n : Nat) : (joinS C n).length = n := by simp [joinS]
theorem joinS_at (C : List St) {n r : Nat} (hr : r < n) : (joinS C n).getD r Ty.nil = joinT (C.map fun s => s.getD r Ty.nil) := by
 unfold joinS
 simp [List.getD, List.getElem?_map, List.getElem?_range hr]
theorem st_ext {a b : St} (ha : a.length = 8) (hb : b.length = 8) (h : ∀ r, r < 8 -> a.getD r Ty.nil = b.getD r Ty.nil) : a = b := by
 apply List.ext_getElem (by omega)
 intro r h1 h2
 have := h r (by omega)
 rw [List.getD_eq_getElem?_getD, List.getD_eq_getElem?_getD, List.getElem?_eq_getElem h1, List.getElem?_eq_getElem h2] at this
 exact this
theorem joinS_one {nm : Nat} {s : St} (h : Made8 nm s) : joinS [s] 8 = s :=
 st_ext (joinS_len _ _) h.1 fun r hr => by rw [joinS_at _ hr]; exact joinT_one (h.get hr)
theorem made_joinS {nm : Nat} {C : List St} (hne : C ≠ []) (h : ∀ c ∈ C, Made8 nm c) : Made8 nm (joinS C 8) := by
 refine ⟨joinS_len _ _, fun t ht => ?_⟩
 obtain ⟨r, hr, rfl⟩ := List.mem_map.1 ht
 have hr8 := List.mem_range.1 hr
 refine made_join (by simpa using hne) fun u hu => ?_
 obtain ⟨c, hc, rfl⟩ := List.mem_map.1 hu
 exact (h c hc).get hr8
theorem joinS_snoc {nm : Nat} {C : List St} {s : St} (hne : C ≠ []) (h : ∀ c ∈ C, Made8 nm c) (hs : Made8 nm s) : joinS (C ++ [s]) 8 = joinU (joinS C 8) s 8 :=
 st_ext (joinS_len _ _) (qCd _ _ _) fun r hr => by
  rw [joinS_at _ hr, joinU_at _ _ hr, if_pos hr, joinS_at _ hr, List.map_append]
  refine joinT_snoc (nm := nm) (by simpa using hne) (fun u hu => ?_) (hs.get hr)
  obtain ⟨c, hc, rfl⟩ := List.mem_map.1 hu
  exact (h c hc).get hr
theorem join2_comm {nm : Nat} {a b : Ty} (ha : Made nm a) (hb : Made nm b) : join2 a b = join2 b a := by
 rw [qCt ha hb, qCt hb ha]
 by_cases h1 : a.k = 1 /\ b.k = 1
 ·rw [if_pos h1, if_pos ⟨h1.2, h1.1⟩, Int.min_comm, Int.max_comm]
 ·rw [if_neg h1, if_neg (show ¬ (b.k = 1 /\ a.k = 1) from fun h => h1 ⟨h.2, h.1⟩)]
  by_cases h2 : a.k = 2 /\ b.k = 2 /\ a.m = b.m
  ·rw [if_pos h2, if_pos ⟨h2.2.1, h2.1, h2.2.2.symm⟩, ty_eq]
   rcases ha with h | h | h <;> rcases hb with h' | h' | h' <;> omega
  ·rw [if_neg h2, if_neg (fun h => h2 ⟨h.2.1, h.1, h.2.2.symm⟩)]
theorem joinS_swap {nm : Nat} {C : List St} {a b : St} (h : ∀ c ∈ C, Made8 nm c) (ha : Made8 nm a) (hb : Made8 nm b) : joinS (C ++ [a] ++ [b]) 8 = joinS (C ++ [b] ++ [a]) 8 := by
 have hm : ∀ {x : St}, Made8 nm x -> ∀ c ∈ C ++ [x], Made8 nm c := fun {x} hx c hc => by
  rcases List.mem_append.1 hc with h1 | h1
  ·exact h c h1
  ·rw [List.mem_singleton.1 h1]; exact hx
 rw [joinS_snoc (by simp) (hm ha) hb, joinS_snoc (by simp) (hm hb) ha]
 refine st_ext (qCd _ _ _) (qCd _ _ _) fun r hr => ?_
 rw [joinU_at _ _ hr, joinU_at _ _ hr, if_pos hr, if_pos hr]
 by_cases hne : C = []
 ·subst hne
  rw [List.nil_append, List.nil_append, joinS_one ha, joinS_one hb]
  exact join2_comm (ha.get hr) (hb.get hr)
 ·rw [joinS_snoc hne h ha, joinS_snoc hne h hb, joinU_at _ _ hr, joinU_at _ _ hr, if_pos hr, if_pos hr]
  exact join2_swap ((made_joinS hne h).get hr) (ha.get hr) (hb.get hr)

def GoodK (K : Kn) (x : Nat) (C : List St) : Prop := ((K.getD x kn0).1 = true ↔ C ≠ []) /\ (C ≠ [] -> (K.getD x kn0).2 = joinS C 8)
theorem good_arr {nm : Nat} {K : Kn} {x p : Nat} {C : List St} {r : Bool} {s : St} (hp : p < K.length) (hg : GoodK K x C) (hC : ∀ c ∈ C, Made8 nm c) (hs : Made8 nm s) : GoodK (arrK K p r s) x (C ++ if x = p /\ r = true then [s] else []) := by
 by_cases hx : x = p
 ·subst hx
  cases r with
  | false => rw [if_neg (by simp), List.append_nil]; exact hg
  | true =>
   rw [if_pos ⟨rfl, rfl⟩]
   unfold arrK
   rw [if_neg (by simp)]
   by_cases hne : C = []
   ·subst hne
    have h1 : (K.getD x kn0).1 = false := by
     cases h : (K.getD x kn0).1 with
     | false => rfl
     | true => exact absurd rfl (hg.1.1 h)
    rw [if_pos h1]
    refine ⟨by rw [kn_set hp]; simp, fun _ => ?_⟩
    rw [kn_set hp, List.nil_append, joinS_one hs]
   ·have h1 := hg.1.2 hne
    rw [if_neg (by rw [h1]; simp)]
    refine ⟨by rw [kn_set hp, h1]; simp, fun _ => ?_⟩
    rw [kn_set hp, joinS_snoc hne hC hs, hg.2 hne]
 ·rw [if_neg (fun h => hx h.1), List.append_nil]
  unfold GoodK
  rw [arr_ne hx]
  exact hg
theorem good_swap {nm : Nat} {K : Kn} {x : Nat} {C A B : List St} (hC : ∀ c ∈ C, Made8 nm c) (hA : A = [] ∨ ∃ a, A = [a] /\ Made8 nm a) (hB : B = [] ∨ ∃ b, B = [b] /\ Made8 nm b) (h : GoodK K x (C ++ A ++ B)) : GoodK K x (C ++ B ++ A) := by
 rcases hA with rfl | ⟨a, rfl, ha⟩
 ·simpa using h
 rcases hB with rfl | ⟨b, rfl, hb⟩
 ·simpa using h
 refine ⟨?_, fun _ => ?_⟩
 ·have := h.1
  simpa using this
 ·rw [h.2 (by simp), joinS_swap hC ha hb]

theorem blurI_wide {nm : Nat} {xs : List In} {s : St} (h : Made8 nm s) (q : Nat) : blurI s (nth xs q) = wideQ xs s q := by
 unfold blurI wideQ
 split
 ·unfold blurT regT
  generalize (nth xs q).wr.1.toNat = r
  by_cases hr : r < 8
  ·have hm := h.get hr
   by_cases h1 : (s.getD r Ty.nil).k = 1
   ·rw [if_pos h1, if_pos h1]
   ·rw [if_neg h1, if_neg h1]
    by_cases h2 : (s.getD r Ty.nil).k = 2
    ·rw [if_pos h2]
    ·rw [if_neg h2]
     have e : s.getD r Ty.nil = Ty.nil := by
      rcases hm with h3 | h3 | h3
      ·exact ty_eq.2 ⟨h3.1, h3.2.1, h3.2.2.1, h3.2.2.2⟩
      ·omega
      ·omega
     rw [show s.set r Ty.nil = s.set r (s.getD r Ty.nil) by rw [e]]
     have hl : r < s.length := by rw [h.1]; exact hr
     rw [List.getD_eq_getElem?_getD, List.getElem?_eq_getElem hl]
     simp
  ·have hs : ∀ t, s.set r t = s := fun t => List.set_eq_of_length_le (by rw [h.1]; omega)
   rw [hs, hs, hs]
   split
   ·rfl
   ·split <;> rfl
 ·rfl
theorem seg_wide {nm : Nat} {xs : List In} {p : Nat} {s : St} (h : Made8 nm s) : ∀ n, p + n <= xs.length -> (segI xs p n).foldl blurI s = wideU xs s p n
 | 0, _ => rfl
 | n + 1, hn => by
  have e : segI xs p (n + 1) = segI xs p n ++ [nth xs (p + n)] := by
   unfold segI
   have hl : n < (xs.drop p).length := by rw [List.length_drop]; omega
   rw [List.take_add_one, List.getElem?_eq_getElem hl, List.getElem_drop]
   unfold nth
   rw [List.getD_eq_getElem?_getD, List.getElem?_eq_getElem (by omega)]
   rfl
  rw [e, List.foldl_append, seg_wide h n (by omega), wideU]
  exact blurI_wide (made_wideU h p n) _
theorem blur_widen {nm : Nat} {xs : List In} (hT : Taken xs) {p : Nat} {s : St} (h : Made8 nm s) : ∀ n, n <= xs.length -> (loopsU xs n).foldl (blurOne xs p) s = widen xs p s n
 | 0, _ => rfl
 | n + 1, hn => by
  rw [loopsU, List.foldl_append, blur_widen hT h n (by omega), widen]
  unfold lps headB
  by_cases h20 : (nth xs n).op = 20
  ·rw [if_pos h20, List.foldl_cons, List.foldl_nil]
   have hg : (nth xs n).far = -(nth xs n).d /\ 1 <= (nth xs n).d := by
    have hr := hT.right (show n < xs.length by omega)
    rcases qBm (nth xs n) with h | h | h | h
    ·rw [hr] at h; cases h.1
    ·omega
    ·exact ⟨h.2.2.1, h.2.2.2.2.2.1⟩
    ·omega
   have hm := made_widen (xs := xs) h p n
   unfold blurOne lpAt
   simp only
   by_cases hh : (n : Int) - (nth xs n).d = p
   ·rw [if_pos (by omega), if_pos (by rw [Bool.and_eq_true]; exact ⟨decide_eq_true h20, decide_eq_true hh⟩)]
    have hp : p < n := by omega
    rw [show ((n : Int) + 1 - (p : Int)).toNat = n + 1 - p by omega]
    exact seg_wide hm _ (by omega)
   ·rw [if_neg (by omega), if_neg (fun hc => hh (of_decide_eq_true (Bool.and_eq_true_iff.1 hc).2))]
  ·rw [if_neg h20, List.foldl_nil, if_neg (fun hc => h20 (of_decide_eq_true (Bool.and_eq_true_iff.1 hc).1))]
theorem blurAll_widen {nm : Nat} {xs : List In} (hT : Taken xs) {p : Nat} {s : St} (h : Made8 nm s) : blurAll xs p (loopsL xs) s = widen xs p s xs.length := blur_widen hT h _ (Nat.le_refl _)

def ledL (i : In) (p x : Nat) (s : St) : List St := if (i.leads && decide ((p : Int) + i.far = x)) = true then (leavesJ i s true).toList else []
def onL (i : In) (p x : Nat) (s : St) : List St := if (i.on && decide (p + 1 = x)) = true then (leavesJ i s false).toList else []
theorem one_leaves {nm : Nat} {i : In} {s head : St} (hr : i.right = true) (hs : Made8 nm s) (ha : asksJ nm i s head = 0) (b c : Bool) : (if c = true then (leavesJ i s b).toList else []) = [] ∨ ∃ a, (if c = true then (leavesJ i s b).toList else []) = [a] /\ Made8 nm a := by
 cases c with
 | false => exact .inl rfl
 | true =>
  rw [if_pos rfl]
  cases h : leavesJ i s b with
  | none => exact .inl rfl
  | some s' => exact .inr ⟨s', rfl, made_leaves hr hs ha h⟩
theorem leave_good {nm : Nat} {xs : List In} {p x : Nat} {K : Kn} {head : St} {C : List St} (hT : Taken xs) (hp : p < xs.length) (hl : K.length = xs.length) (hM : MadeK nm K) (hk : (K.getD p kn0).1 = true) (ha : asksJ nm (nth xs p) (K.getD p kn0).2 head = 0) (hx : p < x) (hg : GoodK K x C) (hC : ∀ c ∈ C, Made8 nm c) :
  GoodK (leaveK (nth xs p) p K) x (C ++ ledL (nth xs p) p x (K.getD p kn0).2 ++ onL (nth xs p) p x (K.getD p kn0).2) := by
 have hr := hT.right hp
 have hpl := qCf hp (hT.place p hp)
 have hs := hM.at p
 have hgp := qBm (nth xs p)
 unfold leaveK
 generalize hi : nth xs p = i at *
 generalize hS : (K.getD p kn0).2 = s at *
 rw [hk]
 by_cases c22 : i.op = 22
 ·rw [if_pos c22]
  have : ledL i p x s = [] /\ onL i p x s = [] := by
   rcases hgp with h | h | h | h
   ·rw [hr] at h; cases h.1
   ·omega
   ·omega
   ·unfold ledL onL
    rw [h.2.2.2.1, h.2.2.2.2]
    simp [c22]
  rw [this.1, this.2]
  simpa using hg
 rw [if_neg c22]
 by_cases c15 : i.op = 15
 ·rw [if_pos c15]
  have hj := goes_jump hr (by omega)
  have hon : i.on = false := by
   rcases hgp with h | h | h | h
   ·rw [hr] at h; cases h.1
   ·rw [h.2.2.2.2.2.1]; simp [c15]
   ·omega
   ·omega
  have e1 : onL i p x s = [] := by unfold onL; rw [hon]; simp
  have e2 : ledL i p x s = if x = ((p : Int) + i.far).toNat /\ true = true then [s] else [] := by
   unfold ledL
   rw [hj.2]
   have e3 : leavesJ i s true = some s := by
    unfold leavesJ
    have h3 : ¬ threeB i.op = true := by unfold threeB; simp; omega
    have h4 : ¬ jumpB i.op = true := by unfold jumpB; simp; omega
    rw [if_neg (by omega), if_neg h3, if_neg (by omega), if_neg (by omega), if_neg (by omega), if_neg h4]
   rw [e3]
   by_cases hc : (p : Int) + i.far = x
   ·rw [if_pos (by simp [hc]), if_pos ⟨by omega, rfl⟩]; rfl
   ·rw [if_neg (by simp [hc]), if_neg (fun h => hc (by omega))]
  rw [e1, e2, List.append_nil]
  exact good_arr (by omega) hg hC hs
 rw [if_neg c15]
 by_cases c16 : 16 <= i.op /\ i.op <= 19
 ·rw [if_pos c16]
  have hj := goes_jump hr (by omega)
  have hon : i.on = true := by
   rcases hgp with h | h | h | h
   ·rw [hr] at h; cases h.1
   ·rw [h.2.2.2.2.2.1]; simp [c15]
   ·omega
   ·omega
  have e1 : onL i p x s = if x = p + 1 /\ (refS i true s false).1 = true then [(refS i true s false).2] else [] := by
   unfold onL
   rw [hon, ref_leaves s c16]
   by_cases hc : p + 1 = x
   ·subst hc
    cases h : leavesJ i s false <;> simp
   ·rw [if_neg (by simp [hc]), if_neg (fun h => hc h.1.symm)]
  have e2 : ledL i p x s = if x = ((p : Int) + i.far).toNat /\ (refS i true s true).1 = true then [(refS i true s true).2] else [] := by
   unfold ledL
   rw [hj.2, ref_leaves s c16]
   by_cases hc : (p : Int) + i.far = x
   ·have hc' : x = ((p : Int) + i.far).toNat := by omega
    rw [if_pos (by simp [hc])]
    cases h : leavesJ i s true with
    | none => simp
    | some s' => rw [if_pos ⟨hc', rfl⟩]; rfl
   ·rw [if_neg (by simp [hc]), if_neg (fun h => hc (by have := h.1; omega))]
  have o1 := one_leaves hr hs ha false (i.on && decide (p + 1 = x))
  have o2 := one_leaves hr hs ha true (i.leads && decide ((p : Int) + i.far = x))
  refine good_swap hC o1 o2 ?_
  change GoodK _ x (C ++ onL i p x s ++ ledL i p x s)
  have hCo : ∀ c ∈ C ++ onL i p x s, Made8 nm c := by
   intro c hc
   rcases List.mem_append.1 hc with h1 | h1
   ·exact hC c h1
   ·rcases o1 with h2 | ⟨a, h2, h3⟩
    ·have h1' : c ∈ ([] : List St) := by rw [<- h2]; exact h1
     cases h1'
    ·have h1' : c ∈ [a] := by rw [<- h2]; exact h1
     rw [List.mem_singleton.1 h1']; exact h3
  rw [e2]
  refine good_arr (nm := nm) (by rw [arrK_len]; omega) ?_ hCo (made_ref hr hs ha c16)
  rw [e1]
  exact good_arr (by have := hpl.2.2.2 hon; omega) hg hC (made_ref hr hs ha c16)
 rw [if_neg c16]
 have hon : i.on = true := by
  rcases hgp with h | h | h | h
  ·rw [hr] at h; cases h.1
  ·omega
  ·exact h.2.2.2.2.1
  ·rw [h.2.2.2.2]; simp [c22]
 have e1 : onL i p x s = if x = p + 1 /\ true = true then [wrS i s] else [] := by
  unfold onL
  rw [hon, wr_leaves hr s c16 false]
  by_cases hc : p + 1 = x
  ·rw [if_pos (by simp [hc]), if_pos ⟨hc.symm, rfl⟩]; rfl
  ·rw [if_neg (by simp [hc]), if_neg (fun h => hc h.1.symm)]
 have e2 : ledL i p x s = [] := by
  unfold ledL
  rcases hgp with h | h | h | h
  ·rw [hr] at h; cases h.1
  ·omega
  ·rw [if_neg (by simp; intro _; omega)]
  ·rw [h.2.2.2.1]; simp
 rw [e1, e2, List.append_nil]
 exact good_arr (by have := hpl.2.2.2 hon; omega) hg hC (made_leaves hr hs ha (wr_leaves hr s c16 false))

theorem comes_succ (xs : List In) (known : List St) (x n : Nat) : comesU xs known x (n + 1) = comesU xs known x n ++ stepC xs known x n := by
 unfold comesU
 rw [List.range_succ, List.flatMap_append, List.append_assoc]
 simp
theorem step_congr {xs : List In} {known known' : List St} {x q : Nat} (h : known.getD q [] = known'.getD q []) : stepC xs known x q = stepC xs known' x q := by
 unfold stepC
 rw [h]
theorem comes_congr {xs : List In} {known known' : List St} {x : Nat} : ∀ n, (∀ q, q < n -> known.getD q [] = known'.getD q []) -> comesU xs known x n = comesU xs known' x n
 | 0, _ => rfl
 | n + 1, h => by rw [comes_succ, comes_succ, comes_congr n (fun q hq => h q (by omega)), step_congr (h n (by omega))]
theorem getD_app_l {l m : List St} {q : Nat} (h : q < l.length) : (l ++ m).getD q [] = l.getD q [] := by
 simp [List.getD, List.getElem?_append_left h]
theorem getD_app_at {l : List St} {s : St} : (l ++ [s]).getD l.length [] = s := by
 simp [List.getD]
structure Pull (xs : List In) (nm n : Nat) (K : Kn) (known : List St) : Prop where
 len : known.length = n
 klen : K.length = xs.length
 made : MadeK nm K
 low : ∀ x, x < n -> known.getD x [] = if (K.getD x kn0).1 = true then (K.getD x kn0).2 else []
 high : ∀ x, n <= x -> x < xs.length -> GoodK K x (comesU xs known x n)
 cm : ∀ x, ∀ c ∈ comesU xs known x n, Made8 nm c
theorem pull_start {xs : List In} (nm : Nat) (hT : Taken xs) : Pull xs nm 0 (arrK (List.replicate xs.length kn0) 0 true stZ) [] := by
 have hr0 : ∀ x, (List.replicate xs.length kn0).getD x kn0 = kn0 := fun x => by simp [List.getD, List.getElem?_replicate]; split <;> rfl
 have hc : ∀ x, comesU xs [] x 0 = [] ++ if x = 0 /\ true = true then [stZ] else [] := fun x => by
  unfold comesU stZ
  by_cases h : x = 0
  ·subst h; rfl
  ·rw [if_neg h, if_neg (fun h' => h h'.1)]; rfl
 refine ⟨rfl, by rw [arrK_len]; simp, made_arr (made_rep nm _) _ _ (made_zero nm), fun x hx => by omega, fun x _ hx => ?_, fun x c h => ?_⟩
 ·rw [hc]
  refine good_arr (nm := nm) (by simpa using hT.pos) ⟨by rw [hr0]; simp [kn0], fun h => absurd rfl h⟩ (fun c h => by cases h) (made_zero nm)
 ·rw [hc] at h
  split at h
  ·have h' : c ∈ [stZ] := by simpa using h
   rw [List.mem_singleton.1 h']; exact made_zero nm
  ·simp at h
theorem asks_head {nm : Nat} {i : In} {s h h' : St} (hh : i.op = 20 -> h = h') : asksJ nm i s h = asksJ nm i s h' := by
 by_cases h20 : i.op = 20
 ·rw [hh h20]
 ·unfold asksJ
  simp only [h20, if_false]
theorem pull_at {xs : List In} {nm n : Nat} {K : Kn} {known : List St} (hT : Taken xs) (hn : n < xs.length) (h : Pull xs nm n K known) : atJ xs known n = if (K.getD n kn0).1 = true then ((blurK xs n K).getD n kn0).2 else [] := by
 have hg := h.high n (Nat.le_refl _) hn
 unfold atJ
 by_cases hne : comesU xs known n n = []
 ·rw [hne, if_pos (show ([] : List St).length = 0 from rfl), if_neg (fun h1 => (hg.1.1 h1) hne)]
 ·rw [if_neg (by simpa using hne), if_pos (hg.1.2 hne)]
  unfold blurK
  rw [kn_set (by rw [h.klen]; exact hn), hg.2 hne]
  exact (blurAll_widen hT (made_joinS hne (h.cm n))).symm
theorem pull_err {xs : List In} {nm n : Nat} {K : Kn} {known : List St} (hT : Taken xs) (hn : n < xs.length) (h : Pull xs nm n K known) (hrun : runK xs nm n = .ok K) (hk : (K.getD n kn0).1 = true) : errJ xs nm known (atJ xs known n) n = askE xs nm n (blurK xs n K) := by
 have e := pull_at hT hn h
 rw [if_pos hk] at e
 unfold errJ askE
 rw [e]
 have hm := made_blurK (xs := xs) (p := n) h.made
 have h8 := (hm.at n).1
 rw [if_neg (by omega)]
 refine asks_head fun h20 => ?_
 have hr := hT.right hn
 have hpl := qCf hn (hT.place n hn)
 have hg : (nth xs n).far = -(nth xs n).d /\ 1 <= (nth xs n).d := by
  rcases qBm (nth xs n) with h | h | h | h
  ·rw [hr] at h; cases h.1
  ·omega
  ·exact ⟨h.2.2.1, h.2.2.2.2.2.1⟩
  ·omega
 unfold headJ
 rw [if_pos h20]
 have hq : ((n : Int) - (nth xs n).d).toNat < n := by omega
 rw [getD_app_l (by rw [h.len]; exact hq), h.low _ hq]
 have hml : lpAt xs n ∈ loopsL xs := loopsU_mem.2 ⟨n, hn, h20, rfl⟩
 have hhd := (run_heads hT (by omega) hrun).2 _ hml n (by show (n : Int) + (nth xs n).far < n; omega) (Int.le_refl _) hk
 have e2 : (lpAt xs n).h.toNat = ((n : Int) - (nth xs n).d).toNat := by show ((n : Int) + (nth xs n).far).toNat = _; omega
 rw [e2] at hhd
 rw [if_pos hhd, show ((n : Int) + (nth xs n).far).toNat = ((n : Int) - (nth xs n).d).toNat by omega, blur_ne (by omega)]
theorem pull_step {xs : List In} {nm n : Nat} {K K' : Kn} {known : List St} (hT : Taken xs) (hn : n < xs.length) (h : Pull xs nm n K known) (hs : stepK xs nm n K = .ok K') : Pull xs nm (n + 1) K' (known ++ [atJ xs known n]) := by
 have hr := hT.right hn
 have ea := pull_at hT hn h
 have hcong : ∀ x, comesU xs (known ++ [atJ xs known n]) x n = comesU xs known x n := fun x => comes_congr n fun q hq => getD_app_l (by rw [h.len]; exact hq)
 have hat : (known ++ [atJ xs known n]).getD n [] = atJ xs known n := by have := @getD_app_at known (atJ xs known n); rwa [h.len] at this
 rcases step_cases hs with ⟨hk, rfl⟩ | ⟨hk, ha, rfl⟩
 ·rw [hk, if_neg (by simp)] at ea
  have hst : ∀ x, stepC xs (known ++ [atJ xs known n]) x n = [] := fun x => by
   unfold stepC
   rw [hat, ea, if_pos (show ([] : St).length = 0 from rfl)]
  refine ⟨by simp [h.len], h.klen, h.made, fun x hx => ?_, fun x h1 h2 => ?_, fun x c hc => ?_⟩
  ·by_cases hxn : x = n
   ·subst hxn; rw [hat, ea, hk, if_neg (by simp)]
   ·rw [getD_app_l (by rw [h.len]; omega)]; exact h.low x (by omega)
  ·rw [comes_succ, hcong, hst, List.append_nil]; exact h.high x (by omega) h2
  ·rw [comes_succ, hcong, hst, List.append_nil] at hc; exact h.cm x c hc
 ·rw [if_pos hk] at ea
  have hmb := made_blurK (xs := xs) (p := n) h.made
  have hlb : (blurK xs n K).length = xs.length := by unfold blurK; rw [List.length_set]; exact h.klen
  have hkb : ((blurK xs n K).getD n kn0).1 = true := by rw [blur_at]; exact hk
  have hst : ∀ x, stepC xs (known ++ [atJ xs known n]) x n = ledL (nth xs n) n x ((blurK xs n K).getD n kn0).2 ++ onL (nth xs n) n x ((blurK xs n K).getD n kn0).2 := fun x => by
   unfold stepC
   rw [hat, ea, if_neg (by have := (hmb.at n).1; omega)]
   rfl
  have hgb : ∀ x, n < x -> x < xs.length -> GoodK (blurK xs n K) x (comesU xs known x n) := fun x h1 h2 => by
   have := h.high x (by omega) h2
   unfold GoodK at this ⊢
   rw [blur_ne (by omega)]
   exact this
  refine ⟨by simp [h.len], by rw [leaveK_len]; exact hlb, made_leaveK hr hmb ha, fun x hx => ?_, fun x h1 h2 => ?_, fun x c hc => ?_⟩
  ·rw [leave_low hr (by omega)]
   by_cases hxn : x = n
   ·subst hxn; rw [hat, ea, if_pos hkb]
   ·rw [getD_app_l (by rw [h.len]; omega), blur_ne hxn]; exact h.low x (by omega)
  ·rw [comes_succ, hcong, hst, <- List.append_assoc]
   exact leave_good hT hn hlb hmb hkb ha (by omega) (hgb x (by omega) h2) (h.cm x)
  ·rw [comes_succ, hcong, hst] at hc
   rcases List.mem_append.1 hc with h1 | h1
   ·exact h.cm x c h1
   ·rcases List.mem_append.1 h1 with h2 | h2
    ·rcases one_leaves hr (hmb.at n) ha true ((nth xs n).leads && decide ((n : Int) + (nth xs n).far = x)) with h3 | ⟨a, h3, h4⟩
     ·have h2' : c ∈ ([] : List St) := by rw [<- h3]; exact h2
      cases h2'
     ·have h2' : c ∈ [a] := by rw [<- h3]; exact h2
      rw [List.mem_singleton.1 h2']; exact h4
    ·rcases one_leaves hr (hmb.at n) ha false ((nth xs n).on && decide (n + 1 = x)) with h3 | ⟨a, h3, h4⟩
     ·have h2' : c ∈ ([] : List St) := by rw [<- h3]; exact h2
      cases h2'
     ·have h2' : c ∈ [a] := by rw [<- h3]; exact h2
      rw [List.mem_singleton.1 h2']; exact h4
theorem pull_run {xs : List In} {nm : Nat} (hT : Taken xs) : ∀ n, n <= xs.length -> (∃ e, runK xs nm n = .error e /\ runU xs nm n = .error ((e.1 : Int), e.2)) ∨ (∃ K known, runK xs nm n = .ok K /\ runU xs nm n = .ok known /\ Pull xs nm n K known)
 | 0, _ => .inr ⟨_, [], rfl, rfl, pull_start nm hT⟩
 | n + 1, hn => by
  rcases pull_run (nm := nm) hT n (by omega) with ⟨e, h1, h2⟩ | ⟨K, known, h1, h2, hP⟩
  ·exact .inl ⟨e, by rw [runK, h1], by rw [runU, h2]⟩
  ·have hn' : n < xs.length := by omega
   rw [runK, runU, h1, h2]
   simp only
   cases hs : stepK xs nm n K with
   | error E =>
    left
    unfold stepK at hs
    split at hs
    ·cases hs
    rename_i hk
    split at hs
    ·rename_i hE
     injection hs with hs
     have := pull_err hT hn' hP h1 (by simpa using hk)
     rw [this, if_neg hE, hs]
     exact ⟨_, rfl, rfl⟩
    ·cases hs
   | ok K' =>
    right
    have hE : errJ xs nm known (atJ xs known n) n = 0 := by
     rcases step_cases hs with ⟨hk, _⟩ | ⟨hk, ha, _⟩
     ·have := pull_at hT hn' hP
      rw [hk, if_neg (by simp)] at this
      unfold errJ
      rw [this, if_pos (show ([] : St).length = 0 from rfl)]
     ·rw [pull_err hT hn' hP h1 hk, ha]
    rw [if_pos hE]
    exact ⟨K', _, rfl, rfl, pull_step hT hn' hP hs⟩
theorem writesd_as {i : In} {r : Int} {b : Bool} (h : Hid (i.wr = (r, b))) (w : World) : Calls Tryz.prog 34 #[instV i.op i.d i.a i.b i.imm] w fun e w' => e = .returned (.tuple #[.int .i64 r, .bool b]) /\ Below w.heap.size w w' := by
 have h1 := h.out
 unfold In.wr at h1
 have := writes_any i.op i.d i.a i.b i.imm w
 rw [h1] at this
 exact this
theorem row_append {w2 wq w' : World} {st : St} {v : Value} {n : Nat} {l : List Value} {o : Obj} (h : Row8 w2 wq st) (hv : wq.ownsRow (w2.heap.size + 1) 46 4 v n l) (hg : (wq.alloc o).grownBy w' v.ownBlock) : Row8 w2 w' st := by
 have hlt := h.lt
 have hne : ∀ j, v.ownBlock = some j -> w2.heap.size + 1 <= j := fun j hj => (hv.lt j hj).1
 refine ⟨(h.own.alloc o).kept hg (.inr fun e => ?_), (h.bel.alloc h.bel.size o).grown hg (by simp; omega) (fun j hj => by have := hne j hj; omega)⟩
 have := hne w2.heap.size (by rw [<- e]; rfl)
 omega
theorem wr_reg {i : In} {r : Int} (hr : i.right = true) (h : i.wr = (r, true)) : 0 <= r /\ r <= 7 := by
 rcases writes_op i (by rw [h]) hr with ⟨h1, h2⟩ | ⟨h1, h2⟩
 ·rw [h] at h1
  injection h1 with h1
  have := qCu hr (by omega)
  omega
 ·rw [h] at h1
  injection h1 with h1
  omega
theorem wideQ_no {xs : List In} {s : St} {q : Nat} {r : Int} (h : (nth xs q).wr = (r, false)) : wideQ xs s q = s := by
 unfold wideQ
 rw [h, if_neg (by simp)]
theorem wideQ_yes {xs : List In} {s : St} {q r : Nat} (h : (nth xs q).wr = ((r : Int), true)) : wideQ xs s q = if (s.getD r Ty.nil).k = 1 then s.set r fullT else if (s.getD r Ty.nil).k = 2 then s.set r Ty.nil else s := by
 unfold wideQ regT
 rw [h, if_pos rfl]
 rfl
theorem wideU_succ (xs : List In) (s : St) {p q : Nat} (h : p <= q) : wideU xs s p (q + 1 - p) = wideQ xs (wideU xs s p (q - p)) q := by
 rw [show q + 1 - p = (q - p) + 1 by omega, wideU, show p + (q - p) = q by omega]
theorem row_of {w2 wr : World} {a b : St} (h : Row8 w2 wr a) (e : a = b) : Row8 w2 wr b := e ▸ h
set_option maxHeartbeats 12800000 in
theorem at_some (vm : Value) (cb co ccap : Nat) (xs : List In) (p : Nat) (vk : Value) (K : List St) (nm B : Nat) (w : World) (hc : SeesI w (.slice (some ⟨cb, co, none⟩) xs.length ccap) xs) (hk : Ss B w vk K) (hT : Taken xs) (hp : p < xs.length) (hpk : p <= K.length) (hKm : ∀ s ∈ K, s = [] ∨ Made8 nm s) (hCm : ∀ c ∈ comesU xs K p p, Made8 nm c) (hne : comesU xs K p p ≠ []) :
  Calls Tryz.prog 16 #[.agg #[vm, .slice (some ⟨cb, co, none⟩) xs.length ccap], .int .i64 p, vk] w fun e w' => ∃ u, e = .returned u /\ w'.ownsRow w.heap.size 46 4 u 8 (flatT (widen xs p (joinS (comesU xs K p p) 8) xs.length)) /\ Below w.heap.size w w' := by
 obtain ⟨i0, hi, hz0, hz1, hz2i⟩ := qBi
 obtain ⟨CS, HCS⟩ : ∃ CS, Hid (CS = (flatT (List.replicate 8 Ty.nil)).toArray) := ⟨_, rfl⟩
 have hmk : ∀ wx : World, (Instr.makeSlice 57 (.int .i64 8) (.int .i64 8)).run Tryz.prog wx = .ok (.slice (some ⟨wx.heap.size, 0, none⟩) 8 8) (wx.alloc (.cells CS 46)) := fun wx => by rw [HCS.out]; exact run_make8 wx
 have HC := keepJ hc
 have HK := keepJ hk
 have HT := keepJ hT
 have HKm := keepJ hKm
 have h64 : xs.length <= 64 := hT.top
 have hclen := comes_len xs K p p
 obtain ⟨C, HCC⟩ : ∃ C, Hid (comesU xs K p p = C) := ⟨_, rfl⟩
 rw [HCC.out] at hclen hCm hne ⊢
 have HCm := keepJ hCm
 have hcl : C.length <= 200 := by omega
 have hcp : 0 < C.length := List.length_pos_iff.2 hne
 have hcI : ((C.length : Int) == 0) = false := by simp; exact hne
 have HNC := keepJ hne
 have HJ : Hid (Made8 nm (joinS C 8)) := made_joinS hne hCm
 obtain ⟨W, HW, HBW, hWz⟩ : ∃ W, Hid (W = w.alloc (Obj.cells #[vm, .slice (some ⟨cb, co, none⟩) xs.length ccap] 25)) /\ Hid (Below w.heap.size w W) /\ W.heap.size = w.heap.size + 1 :=
  ⟨_, rfl, keepJ (by go_grown), by simp⟩
 have HM : Hid (W.cell? ⟨w.heap.size, 0, none⟩ = some vm /\ W.cell? ⟨w.heap.size, 1, none⟩ = some (.slice (some ⟨cb, co, none⟩) xs.length ccap)) := by
  rw [HW.out]; exact ⟨by go_cell, by go_cell⟩
 clear hc hk hT hKm hCm hne hclen
 go_enter Tryz.func16, Tryz.ntmps16
 go_wp2_with (go_at_call 32; rw [<- HW.out]; go_must (refine (comes_any vm cb co ccap xs p vk K nm B _ (HC.out.below HBW.out) (HK.out.below HBW.out (Nat.le_refl _)) HT.out hp hpk HKm.out).mono ?_); rintro e w2 ⟨u, rfl, hS, hb⟩; go_must (rw [HCC.out] at hS; have HS := keepJ hS; have HB2 := keepJ hb; have hz2 := hb.size; obtain ⟨ag, ac, ua, uc, rfl, hag, hac, _⟩ := hS.get (i := 0) hcp; clear hS hb))
 have HMr : Hid (∀ wx, Below w2.heap.size w2 wx -> wx.cell? ⟨w.heap.size, 0, none⟩ = some vm /\ wx.cell? ⟨w.heap.size, 1, none⟩ = some (.slice (some ⟨cb, co, none⟩) xs.length ccap) /\ SeesI wx (.slice (some ⟨cb, co, none⟩) xs.length ccap) xs) := fun wx hb =>
  have hbW : Below W.heap.size W wx := HB2.out.trans (hb.mono hz2)
  ⟨(hbW.cell (p := ⟨w.heap.size, 0, none⟩) (show w.heap.size < W.heap.size by omega)).trans HM.out.1, (hbW.cell (p := ⟨w.heap.size, 1, none⟩) (show w.heap.size < W.heap.size by omega)).trans HM.out.2, HC.out.below (HBW.out.trans (hbW.mono (by omega)))⟩
 clear HM HKm HK HC
 go_loopw [9] (fun v9 wr => ∃ r : Nat, r <= 8 /\ v9 = .int .i64 r /\ Hid (Row8 w2 wr (stU C r))) (fun v9 _ => 8 - (intOf v9).toNat)
 case atStart =>
  refine ⟨0, by omega, rfl, ?_, ?_⟩
  ·rw [stU_zero, HCS.out]; exact own8 w2 _ (Nat.le_refl _) _ (by decide)
  ·exact (Below.refl _ _).alloc (Nat.le_refl _) _
 case round =>
  rename World => w3
  obtain ⟨r, hr, rfl, HR⟩ := hrel
  by_cases hr8 : r < 8
  ·have hrI : (r : Int) < 8 := by omega
   clear hmk
   go_wp2
   go_loopw [10, 11] (fun v10 v11 wq => ∃ i : Nat, i <= C.length /\ v11 = .int .i64 i /\ Hid (wq.ownsRow (w2.heap.size + 1) 46 4 v10 ((colT C r).take i).length (flatT ((colT C r).take i))) /\ Hid (Row8 w2 wq (stU C r))) (fun _ v11 _ => C.length - (intOf v11).toNat)
   case atStart => exact ⟨0, by omega, rfl, World.ownsRow_nil _ _ _ _, HR.out⟩
   case round =>
    clear HR
    rename World => w4
    obtain ⟨i, hiC, rfl, HL, HR⟩ := hrel
    have hlt4 := HR.out.lt
    by_cases hic : i < C.length
    ·have hicI : (i : Int) < C.length := by omega
     obtain ⟨a, ca, hcell, hsees, hown⟩ := (HS.out.below HR.out.bel (Nat.le_refl _)).at (i := i) hic
     obtain ⟨s, HSi⟩ : ∃ s, Hid (C.getD i [] = s) := ⟨_, rfl⟩
     rw [HSi.out] at hcell hsees hown
     have hms : Made8 nm s := by
      rw [<- HSi.out, List.getD_eq_getElem?_getD, List.getElem?_eq_getElem hic]
      exact HCm.out _ (List.getElem_mem _)
     have h8 := hms.1
     rw [h8] at hcell hown
     obtain ⟨g, c, hv, hg, hc8, hcm⟩ := qBp hown
     injection hv with hv1 hv2 hv3
     subst hv1
     subst hv3
     obtain ⟨⟨tk, tl, th, tm⟩, HTy⟩ : ∃ t, Hid (s.getD r Ty.nil = t) := ⟨_, rfl⟩
     have y0 : w4.cell? ⟨g, r * 4, none⟩ = some (.int .i64 tk) := by have := hown.cellAt (r * 4 + 0) (by omega); rw [flatT_at s r 0 (by omega) (by omega), HTy.out] at this; exact this
     have y1 : w4.cell? ⟨g, r * 4 + 1, none⟩ = some (.int .u64 tl) := by have := hown.cellAt (r * 4 + 1) (by omega); rw [flatT_at s r 1 (by omega) (by omega), HTy.out] at this; exact this
     have y2 : w4.cell? ⟨g, r * 4 + 2, none⟩ = some (.int .u64 th) := by have := hown.cellAt (r * 4 + 2) (by omega); rw [flatT_at s r 2 (by omega) (by omega), HTy.out] at this; exact this
     have y3 : w4.cell? ⟨g, r * 4 + 3, none⟩ = some (.int .i64 tm) := by have := hown.cellAt (r * 4 + 3) (by omega); rw [flatT_at s r 3 (by omega) (by omega), HTy.out] at this; exact this
     have HE : Hid ((colT C r).take (i + 1) = (colT C r).take i ++ [⟨tk, tl, th, tm⟩]) := by show _ = _; rw [colT_take C r hic, HSi.out, HTy.out]
     have hll : ((colT C r).take i).length <= 200 := by rw [List.length_take]; omega
     obtain ⟨L, HLL⟩ : ∃ L, Hid ((colT C r).take i = L) := ⟨_, rfl⟩
     rw [HLL.out] at HL HE hll
     clear hsees hown
     go_wp2_with (at_builtin; go_must (refine qAt rfl (.tmp 34) (.tmp 42) 40 rfl (w2.heap.size + 1) 46 i0 (tyV Ty.nil) Tryz.underlying40 hi hz0 hz1 hz2i rfl _ L rfl (HL.out.alloc _) _ [⟨tk, tl, th, tm⟩] rfl (SeesT.lit w4 _ [⟨tk, tl, th, tm⟩] _ 1 rfl rfl (by simp)) (by unfold maxLen; (first | omega | (simp; omega))) (by first | omega | (simp; omega)) (by first | omega | (simp; omega)) ?_); intro v6 w6 hown6 hg6; go_must (have HR6 : Hid (Row8 w2 w6 (stU C r)) := row_append HR.out HL.out hg6; have HO6 := keepJ hown6; clear hg6 hown6))
     go_roundw
     case rel => exact ⟨i + 1, by omega, by go_num, by show World.ownsRow _ _ _ _ _ _ _; rw [HE.out]; exact HO6.out, HR6.out⟩
     case measure => simp [intOf]; omega
    ·have hicI : ¬ (i : Int) < C.length := by omega
     have HE : Hid ((colT C r).take i = colT C r) := by show _ = _; rw [List.take_of_length_le (by simp [colT]; omega)]
     rw [HE.out] at HL
     have HSL := keepJ (qBx HL.out)
     obtain ⟨tk, tl, th, tm, HTy⟩ : ∃ k lo hi m, Hid (joinT (colT C r) = ⟨k, lo, hi, m⟩) := ⟨_, _, _, _, rfl⟩
     have HMc : Hid (∀ u ∈ colT C r, Made nm u) := fun u hu => by
      obtain ⟨c, hc, rfl⟩ := List.mem_map.1 hu
      exact (HCm.out c hc).get hr8
     have HNE : Hid (colT C r ≠ []) := fun h => HNC.out (List.map_eq_nil_iff.1 h)
     have HLE : Hid ((colT C r).length <= 1048576) := by show _ <= _; simp [colT]; omega
     go_wp2_with (go_at_call 33; go_must (refine (joined_as (nm := nm) HSL.out HNE.out HMc.out HLE.out HTy).mono ?_); rintro e w6 ⟨rfl, hb6⟩; go_must (have HR6 := keepJ (HR.out.below hb6); obtain ⟨y0, y1, y2, y3⟩ := HR6.out.cells (stU_len C r) hr8; have f0 := HR6.out.own.frozenAt (r * 4); have f1 := HR6.out.own.frozenAt (r * 4 + 1); have f2 := HR6.out.own.frozenAt (r * 4 + 2); have f3 := HR6.out.own.frozenAt (r * 4 + 3); clear hb6))
     go_roundw
     case rel => exact ⟨r + 1, by omega, by go_num, by have := HR6.out.set (stU_len C r) hr8 ⟨tk, tl, th, tm⟩; rw [<- HTy.out, show (stU C r).set r (joinT (colT C r)) = stU C (r + 1) from stU_step C hr8, HTy.out] at this; exact this⟩
     case measure => simp [intOf]; omega
  ·have hrI : ¬ (r : Int) < 8 := by omega
   have HE : Hid (stU C r = joinS C 8) := by show _ = _; rw [show r = 8 by omega]; exact stU_all C
   rw [HE.out] at HR
   go_wp2
   clear hmk
   go_loopw [12] (fun v12 wr => ∃ l : Nat, l <= xs.length /\ v12 = .int .i64 l /\ Hid (Row8 w2 wr (widen xs p (joinS C 8) l))) (fun v12 _ => xs.length - (intOf v12).toNat)
   case atStart => exact ⟨0, by omega, rfl, HR.out⟩
   case round =>
    clear HR
    rename World => w4
    obtain ⟨l, hl, rfl, HR⟩ := hrel
    have hlt4 := HR.out.lt
    obtain ⟨m0, m1, hsI⟩ := HMr.out w4 HR.out.bel
    by_cases hlx : l < xs.length
    ·have hlI : (l : Int) < xs.length := by omega
     have hxI : (xs.length : Int) <= 64 := by omega
     obtain ⟨hat, hcb, hcc⟩ := codeAt hsI hlx
     clear hsI
     obtain ⟨⟨op, d, a, b, imm⟩, HI⟩ : ∃ i, Hid (nth xs l = i) := ⟨_, rfl⟩
     rw [HI.out] at hat
     obtain ⟨c0, c1, c2, c3, c4⟩ := hat
     simp only at c0 c1 c2 c3 c4
     have HSu : Hid (widen xs p (joinS C 8) (l + 1) = if headB xs p l = true then wideU xs (widen xs p (joinS C 8) l) p (l + 1 - p) else widen xs p (joinS C 8) l) := rfl
     have HHb : Hid (headB xs p l = (decide (op = 20) && decide ((l : Int) - d = p))) := by show _ = _; unfold headB; rw [HI.out]
     by_cases h20 : op = 20
     ·subst h20
      have hdb : 1 <= d /\ d <= 63 := by
       have hr := HT.out.right hlx
       rw [HI.out] at hr
       rcases qBm ⟨20, d, a, b, imm⟩ with h | h | h | h
       ·rw [hr] at h; cases h.1
       ·exact absurd h.2.2.1 (by simp)
       ·exact ⟨h.2.2.2.2.2.1, h.2.2.2.2.2.2.1⟩
       ·exact absurd h.2.1 (by simp)
      obtain ⟨hd1, hd2⟩ := hdb
      by_cases hd : (l : Int) - d = p
      ·have hdI : ((l : Int) - d != p) = false := by simp [hd]
       have HE : Hid (widen xs p (joinS C 8) (l + 1) = wideU xs (widen xs p (joinS C 8) l) p (l + 1 - p)) := by show _ = _; rw [HSu.out, HHb.out, if_pos (by simp [hd])]
       have HMW : Hid (Made8 nm (widen xs p (joinS C 8) l)) := made_widen HJ.out p l
       obtain ⟨sw, HSW⟩ : ∃ sw, Hid (widen xs p (joinS C 8) l = sw) := ⟨_, rfl⟩
       rw [HSW.out] at HE HMW HR
       have hpl : p <= l := by omega
       clear HSu HHb
       go_wp2
       go_loopw [13] (fun v13 wq => ∃ q : Nat, p <= q /\ q <= l + 1 /\ v13 = .int .i64 q /\ Hid (Row8 w2 wq (wideU xs sw p (q - p)))) (fun v13 _ => l + 1 - (intOf v13).toNat)
       case atStart => exact ⟨p, by omega, by omega, rfl, by show Row8 _ _ _; rw [Nat.sub_self]; exact HR.out⟩
       case round =>
        clear HR m0 m1 c0 c1 c2 c3 c4
        rename World => w5
        obtain ⟨q, hpq, hql, rfl, HR⟩ := hrel
        have hlt5 := HR.out.lt
        obtain ⟨m0, m1, hsI⟩ := HMr.out w5 HR.out.bel
        by_cases hqI : q <= l
        ·have hqJ : (q : Int) <= l := by omega
         have hqx : q < xs.length := by omega
         have hqX : (q : Int) < xs.length := by omega
         obtain ⟨hat, hcb, hcc⟩ := codeAt hsI hqx
         clear hsI
         have hrt := HT.out.right hqx
         obtain ⟨⟨op', d', a', b', imm'⟩, HI'⟩ : ∃ i, Hid (nth xs q = i) := ⟨_, rfl⟩
         rw [HI'.out] at hat hrt
         obtain ⟨c0, c1, c2, c3, c4⟩ := hat
         simp only at c0 c1 c2 c3 c4
         obtain ⟨ri, rb, HWR⟩ : ∃ r b, Hid (In.wr ⟨op', d', a', b', imm'⟩ = (r, b)) := ⟨_, _, rfl⟩
         have HQ := keepJ (wideU_succ xs sw hpq)
         have HMU : Hid (Made8 nm (wideU xs sw p (q - p))) := made_wideU HMW.out p _
         obtain ⟨st, HST⟩ : ∃ st, Hid (wideU xs sw p (q - p) = st) := ⟨_, rfl⟩
         rw [HST.out] at HQ HMU HR
         have h8 := HMU.out.1
         have HW' : Hid ((nth xs q).wr = (ri, rb)) := by show _ = _; rw [HI'.out]; exact HWR.out
         cases rb with
         | false =>
          go_wp2_with (go_at_call 34; go_must (refine (writesd_as (i := ⟨op', d', a', b', imm'⟩) HWR _).mono ?_); rintro e w6 ⟨rfl, hb6⟩; go_must (have HR6 := keepJ (HR.out.below hb6); clear hb6))
          go_roundw
          case rel => exact ⟨q + 1, by omega, by omega, by go_num, row_of HR6.out (by rw [HQ.out]; exact (wideQ_no HW'.out).symm)⟩
          case measure => simp [intOf]; omega
         | true =>
          have hrr := wr_reg hrt HWR.out
          obtain ⟨n, rfl⟩ := Int.eq_ofNat_of_zero_le hrr.1
          have hn8 : n < 8 := by omega
          have hnI : (n : Int) < 8 := by omega
          clear hrr
          have HWY := keepJ (wideQ_yes (s := st) HW'.out)
          obtain ⟨⟨tk, tl, th, tm⟩, HTy⟩ : ∃ t, Hid (st.getD n Ty.nil = t) := ⟨_, rfl⟩
          rw [HTy.out] at HWY
          by_cases hk1 : tk = 1
          ·subst hk1
           go_wp2_with (first
            | (go_at_call 34; go_must (refine (writesd_as (i := ⟨op', d', a', b', imm'⟩) HWR _).mono ?_); rintro e w6 ⟨rfl, hb6⟩; go_must (have HR6 := keepJ (HR.out.below hb6); obtain ⟨y0, y1, y2, y3⟩ := HR6.out.cells h8 hn8; rw [HTy.out] at y0 y1 y2 y3; simp only at y0 y1 y2 y3; clear hb6))
            | (go_at_call 35; go_must (refine (jfull_any _).mono ?_); rintro e w7 ⟨rfl, hb7⟩; go_must (have HR7 := keepJ (HR6.out.below hb7); clear y0 y1 y2 y3; obtain ⟨y0, y1, y2, y3⟩ := HR7.out.cells h8 hn8; rw [HTy.out] at y0 y1 y2 y3; simp only at y0 y1 y2 y3; have f0 := HR7.out.own.frozenAt (n * 4); have f1 := HR7.out.own.frozenAt (n * 4 + 1); have f2 := HR7.out.own.frozenAt (n * 4 + 2); have f3 := HR7.out.own.frozenAt (n * 4 + 3); clear hb7)))
           go_roundw
           case rel => exact ⟨q + 1, by omega, by omega, by go_num, row_of (HR7.out.set h8 hn8 fullT) (by rw [HQ.out, HWY.out]; rfl)⟩
           case measure => simp [intOf]; omega
          ·have hk1I : (tk == 1) = false := by simpa using hk1
           by_cases hk2 : tk = 2
           ·subst hk2
            go_wp2_with (go_at_call 34; go_must (refine (writesd_as (i := ⟨op', d', a', b', imm'⟩) HWR _).mono ?_); rintro e w6 ⟨rfl, hb6⟩; go_must (have HR6 := keepJ (HR.out.below hb6); obtain ⟨y0, y1, y2, y3⟩ := HR6.out.cells h8 hn8; rw [HTy.out] at y0 y1 y2 y3; simp only at y0 y1 y2 y3; have f0 := HR6.out.own.frozenAt (n * 4); have f1 := HR6.out.own.frozenAt (n * 4 + 1); have f2 := HR6.out.own.frozenAt (n * 4 + 2); have f3 := HR6.out.own.frozenAt (n * 4 + 3); clear hb6))
            go_roundw
            case rel => exact ⟨q + 1, by omega, by omega, by go_num, row_of (HR6.out.set h8 hn8 Ty.nil) (by rw [HQ.out, HWY.out]; rfl)⟩
            case measure => simp [intOf]; omega
           ·have hk2I : (tk == 2) = false := by simpa using hk2
            go_wp2_with (go_at_call 34; go_must (refine (writesd_as (i := ⟨op', d', a', b', imm'⟩) HWR _).mono ?_); rintro e w6 ⟨rfl, hb6⟩; go_must (have HR6 := keepJ (HR.out.below hb6); obtain ⟨y0, y1, y2, y3⟩ := HR6.out.cells h8 hn8; rw [HTy.out] at y0 y1 y2 y3; simp only at y0 y1 y2 y3; clear hb6))
            go_roundw
            case rel => exact ⟨q + 1, by omega, by omega, by go_num, row_of HR6.out (by rw [HQ.out, HWY.out, if_neg hk1, if_neg hk2])⟩
            case measure => simp [intOf]; omega
        ·have hqJ : ¬ (q : Int) <= l := by omega
         have HE2 : Hid (q - p = l + 1 - p) := by show _ = _; omega
         rw [HE2.out] at HR
         go_wp2
         go_roundw
         case rel => exact ⟨l + 1, by omega, by go_num, row_of HR.out HE.out.symm⟩
         case measure => simp [intOf]; omega
      ·have hdI : ((l : Int) - d != p) = true := by simpa using hd
       have HE : Hid (widen xs p (joinS C 8) l = widen xs p (joinS C 8) (l + 1)) := by show _ = _; rw [HSu.out, HHb.out, if_neg (by simp [hd])]
       clear HSu HHb
       go_wp2
       go_roundw
       case rel => exact ⟨l + 1, by omega, by go_num, row_of HR.out HE.out⟩
       case measure => simp [intOf]; omega
     ·have h20I : (op != 20) = true := by simpa using h20
      have HE : Hid (widen xs p (joinS C 8) l = widen xs p (joinS C 8) (l + 1)) := by show _ = _; rw [HSu.out, HHb.out, if_neg (by simp [h20])]
      clear HSu HHb
      go_wp2
      go_roundw
      case rel => exact ⟨l + 1, by omega, by go_num, row_of HR.out HE.out⟩
      case measure => simp [intOf]; omega
    ·have hlI : ¬ (l : Int) < xs.length := by omega
     have HE : Hid (l = xs.length) := by show _ = _; omega
     go_wp2
     go_ret
     have h1 := HR.out
     rw [HE.out] at h1
     exact ⟨_, rfl, qAu h1.own (by omega), (HBW.out.trans ((HB2.out.trans (h1.bel.mono hz2)).mono (by omega)))⟩
end Go.Proofs.YtkcofelpndlplaaGreat
