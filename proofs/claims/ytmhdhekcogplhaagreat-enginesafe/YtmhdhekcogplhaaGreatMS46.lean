/-
  JJudge
  JTypes
  E11Tr
-/
import Derived.Test.YtmhdhekcogplhaaGreatMS43
import Derived.Test.YtmhdhekcogplhaaGreatMS45
namespace Go.Proofs.YtmhdhekcogplhaaGreat
open Go.RowKit
set_option linter.unusedVariables false
set_option linter.unusedSimpArgs false
set_option maxRecDepth 100000
def inqR (ms : List Int) (xs : List In) : Except (Int × Int) Kn :=
 if mapsJ ms = false then .error (0, 2) else if errL xs ≠ 0 then .error ((checkL xs).1, errL xs)
 else match runK xs ms.length xs.length with
  | .error e => .error (e.1, e.2)
  | .ok K => .ok K
def judgeR (ms : List Int) (xs : List In) : Int × Int := match inqR ms xs with | .error e => e | .ok _ => (0, 0)
theorem first_lt {p : Nat -> Bool} {n k : Nat} (h : first p n = some k) : k < n := by
 unfold first at h
 exact List.mem_range.1 (List.mem_of_find?_eq_some h)
theorem crossF_mem : ∀ (r prev : List Lp) (t : Int), crossF prev r = some t -> ∃ l ∈ r, l.t = t
 | [], prev, t, h => by simp [crossF] at h
 | x :: r, prev, t, h => by
  rw [crossF] at h
  split at h
  ·injection h with h; exact ⟨x, by simp, h⟩
  ·obtain ⟨l, hl, e⟩ := crossF_mem r _ t h; exact ⟨l, by simp [hl], e⟩
theorem check_place (xs : List In) : 0 <= (checkL xs).1 /\ ((checkL xs).1 = 0 ∨ (checkL xs).1 < xs.length) := by
 unfold checkL
 split
 ·exact ⟨by decide, .inl rfl⟩
 split
 ·exact ⟨by decide, .inl rfl⟩
 split
 ·rename_i k hk
  have := first_lt hk
  exact ⟨by simp, .inr (by simp; omega)⟩
 split
 ·rename_i t ht
  obtain ⟨l, hl, rfl⟩ := crossF_mem _ _ _ ht
  obtain ⟨k, hk, _, rfl⟩ := loopsU_mem.1 hl
  exact ⟨by simp [lpAt], .inr (by simp [lpAt]; omega)⟩
 split
 ·rename_i k hk
  have := first_lt hk
  exact ⟨by simp, .inr (by simp; omega)⟩
 split
 ·exact ⟨by decide, .inl rfl⟩
 ·exact ⟨by decide, .inl rfl⟩
set_option maxHeartbeats 800000 in
theorem linq_maps (vm vc : Value) (ms : List Int) (w : World) (hm : Sees .i64 w vm ms) (hmf : Hid (mapsJ ms = false)) :
  Calls Tryz.prog 54 #[.agg #[vm, vc]] w fun e w' => e = .returned (.tuple #[.slice none 0 0, .int .i64 0, .int .i64 2]) /\ Below w.heap.size w w' := by
 have HM := keepJ hm
 obtain ⟨ma, mcap, rfl⟩ : ∃ a c, vm = .slice a ms.length c := by obtain ⟨a, c, h, _⟩ := hm; exact ⟨a, c, h⟩
 go_enter Tryz.func54, Tryz.ntmps54
 go_wp2_with (go_at_call 83; go_must (refine (lmapsFit_any _ ms _ (HM.out.below ((Below.refl _ _).alloc (Nat.le_refl _) _) (Nat.le_refl _)) hmf).mono ?_); rintro e w' ⟨rfl, rfl⟩)
 go_ret3
 exact ⟨rfl, by go_grown⟩
set_option maxHeartbeats 800000 in
theorem linq_flow (vm : Value) (ms : List Int) (vc : Value) (xs : List In) (w : World) (hm : Sees .i64 w vm ms) (hx : SeesI w vc xs) (hmf : Hid (mapsJ ms = true)) {P E : Int} (hP : Hid (P = (checkL xs).1)) (hE : Hid (E = errL xs)) (hE0 : E ≠ 0) :
  Calls Tryz.prog 54 #[.agg #[vm, vc]] w fun e w' => e = .returned (.tuple #[.slice none 0 0, .int .i64 P, .int .i64 E]) /\ Below w.heap.size w w' := by
 have HM := keepJ hm
 have HX := keepJ hx
 obtain ⟨ma, mcap, rfl⟩ : ∃ a c, vm = .slice a ms.length c := by obtain ⟨a, c, h, _⟩ := hm; exact ⟨a, c, h⟩
 obtain ⟨ca, ccap, rfl⟩ : ∃ a c, vc = .slice a xs.length c := by obtain ⟨a, c, h, _⟩ := hx; exact ⟨a, c, h⟩
 have hE1 : ¬ E = 0 := hE0
 clear hm hx hE0
 go_enter Tryz.func54, Tryz.ntmps54
 go_wp2_with (first
  | (go_at_call 83; go_must (refine (lmapsFit_any _ ms _ (HM.out.below ((Below.refl _ _).alloc (Nat.le_refl _) _) (Nat.le_refl _)) hmf).mono ?_); rintro e w' ⟨rfl, rfl⟩)
  | (go_at_call 55; go_must (refine (check_as (HX.out.below ((Below.refl _ _).alloc (Nat.le_refl _) _)) hP hE).mono ?_); rintro e w2 ⟨rfl, hb2⟩; go_must (have hB2 := box_below hb2; clear hb2)))
 go_ret3
 exact ⟨rfl, hB2⟩
theorem linquire_any (vm : Value) (ms : List Int) (vc : Value) (xs : List In) (w : World) (hm : Sees .i64 w vm ms) (hx : SeesI w vc xs) :
  Calls Tryz.prog 54 #[.agg #[vm, vc]] w fun e w' =>
   (∃ P E : Int, inqR ms xs = .error (P, E) /\ E ≠ 0 /\ (0 <= P /\ (P = 0 ∨ P < xs.length)) /\ e = .returned (.tuple #[.slice none 0 0, .int .i64 P, .int .i64 E]) /\ Below w.heap.size w w') ∨
   (∃ (K : Kn) (kb : Nat), inqR ms xs = .ok K /\ Taken xs /\ mapsJ ms = true /\ runK xs ms.length xs.length = .ok K /\ e = .returned (.tuple #[.slice (some ⟨kb, 0, none⟩) xs.length xs.length, .int .i64 0, .int .i64 0]) /\ Hp w' kb 139 (flatK K) /\ w.heap.size <= kb /\ K.length = xs.length /\ MadeK ms.length K /\ Below w.heap.size w w') := by
 unfold inqR
 cases hmf : mapsJ ms with
 | false =>
  refine (linq_maps vm vc ms w hm hmf).mono ?_
  rintro e w' ⟨rfl, hb⟩
  exact .inl ⟨0, 2, by simp, by decide, ⟨by decide, .inl rfl⟩, rfl, hb⟩
 | true =>
  by_cases hE : errL xs = 0
  ·have hT : Taken xs := check_ok.1 hE
   obtain ⟨a, cap, hv, h1, h2, h3, h4⟩ := id hx
   obtain ⟨b, off, rfl, hlt, hat⟩ := h4 (fun e => by have := hT.pos; rw [e] at this; simp at this)
   subst hv
   refine (linq_run vm ms b off cap xs w hm hx hmf hE.symm).mono ?_
   rintro e w' (⟨p, E, hr, hE0, hp, rfl, hb⟩ | ⟨K, kb, hr, rfl, hk, hkb, hl, hM, hb⟩)
   ·refine .inl ⟨p, E, ?_, hE0, ⟨by omega, .inr (by omega)⟩, rfl, hb⟩
    rw [if_neg (by simp), if_neg (by simp [hE]), hr]
   ·refine .inr ⟨K, kb, ?_, hT, rfl, hr, rfl, hk, hkb, hl, hM, hb⟩
    rw [if_neg (by simp), if_neg (by simp [hE]), hr]
  ·refine (linq_flow vm ms vc xs w hm hx hmf rfl rfl hE).mono ?_
   rintro e w' ⟨rfl, hb⟩
   exact .inl ⟨(checkL xs).1, errL xs, by rw [if_neg (by simp), if_pos hE], hE, check_place xs, rfl, hb⟩
set_option maxHeartbeats 800000 in
theorem ljudge_any (vm : Value) (ms : List Int) (vc : Value) (xs : List In) (w : World) (hm : Sees .i64 w vm ms) (hx : SeesI w vc xs) :
  Calls Tryz.prog 25 #[.agg #[vm, vc]] w fun e w' => ∃ P E : Int, judgeR ms xs = (P, E) /\ (E = 0 ↔ ∃ K, inqR ms xs = .ok K) /\ (0 <= P /\ (P = 0 ∨ P < xs.length)) /\ e = .returned (.tuple #[.int .i64 P, .int .i64 E]) /\ Below w.heap.size w w' := by
 have HM := keepJ hm
 have HX := keepJ hx
 obtain ⟨ma, mcap, rfl⟩ : ∃ a c, vm = .slice a ms.length c := by obtain ⟨a, c, h, _⟩ := hm; exact ⟨a, c, h⟩
 obtain ⟨ca, ccap, rfl⟩ : ∃ a c, vc = .slice a xs.length c := by obtain ⟨a, c, h, _⟩ := hx; exact ⟨a, c, h⟩
 clear hm hx
 go_enter Tryz.func25, Tryz.ntmps25
 go_wp2_with (go_at_call 54; go_must (refine (linquire_any _ ms _ xs _ (HM.out.below ((Below.refl _ _).alloc (Nat.le_refl _) _) (Nat.le_refl _)) (HX.out.below ((Below.refl _ _).alloc (Nat.le_refl _) _))).mono ?_); rintro e w1 (⟨P, E, hi, hE0, hP, rfl, hb⟩ | ⟨K, kb, hi, hT, hmf, hr, rfl, hk, hkb, hl, hM, hb⟩) <;> (have HB := keepJ (box_below hb); have HI := keepJ hi; clear hb hi))
 ·go_ret2
  exact ⟨P, E, by unfold judgeR; rw [HI.out], ⟨fun h => absurd h hE0, fun ⟨K, h⟩ => by rw [HI.out] at h; cases h⟩, hP, rfl, HB.out⟩
 ·go_ret2
  exact ⟨0, 0, by unfold judgeR; rw [HI.out], ⟨fun _ => ⟨K, HI.out⟩, fun _ => rfl⟩, ⟨by decide, .inl rfl⟩, rfl, HB.out⟩
def nilV : Value := .slice none 0 0
def blockOf : Value -> Nat | .slice (some a) _ _ => a.block | _ => 0
def RowOf (w : World) (tb : Nat) (v : Value) (p : Bool × St) : Prop := (p.1 = false -> v = nilV) /\ (p.1 = true -> (∃ base, w.ownsRow base 99 4 v p.2.length (flatT p.2)) /\ p.2.length = 8 /\ tb < blockOf v /\ blockOf v < w.heap.size)
structure Rows9 (w : World) (tb : Nat) (K : Kn) (k : Nat) (vs : List Value) : Prop where
 len : vs.length = K.length
 cells : Hp w tb 93 vs
 row : ∀ j, j < k -> RowOf w tb (vs.getD j nilV) (K.getD j kn0)
 ord : ∀ i j, i < j -> j < k -> (K.getD i kn0).1 = true -> (K.getD j kn0).1 = true -> blockOf (vs.getD i nilV) < blockOf (vs.getD j nilV)
 rest : ∀ j, k <= j -> vs.getD j nilV = nilV
theorem own_block {w : World} {base : Nat} {e : TypeId} {z : Nat} {v : Value} {n : Nat} {xs : List Value} (h : w.ownsRow base e z v n xs) (hn : 0 < n) : ∃ g cap, v = .slice (some ⟨g, 0, none⟩) n cap /\ base <= g /\ g < w.heap.size /\ n <= cap := by
 rcases h with ⟨h1, ⟨rfl, rfl⟩ | ⟨g, cap, cur, rfl, hb, hh, h3, h4, _⟩⟩
 ·omega
 ·exact ⟨g, cap, rfl, hb, (Array.getElem?_eq_some_iff.1 hh).1, h3⟩
theorem RowOf.grown {w w' : World} {tb : Nat} {v : Value} {p : Bool × St} (h : RowOf w tb v p) {b : Nat} (hg : w.grownBy w' (some b)) (hb : b = tb ∨ w.heap.size <= b) : RowOf w' tb v p := by
 refine ⟨h.1, fun hp => ?_⟩
 obtain ⟨⟨base, ho⟩, h8, h1, h2⟩ := h.2 hp
 refine ⟨⟨base, ho.kept hg ?_⟩, h8, h1, Nat.lt_of_lt_of_le h2 hg.size⟩
 obtain ⟨g, cap, rfl, _⟩ := own_block ho (by omega)
 simp only [blockOf] at h1 h2
 refine .inr fun e => ?_
 simp [Value.ownBlock] at e
 omega
theorem Rows9.grown {w w' : World} {tb : Nat} {K : Kn} {k : Nat} {vs : List Value} (h : Rows9 w tb K k vs) (hb : Below w.heap.size w w') : Rows9 w' tb K k vs :=
 ⟨h.len, h.cells.below hb h.cells.lt, fun j hj => (h.row j hj).grown (grown_of_below hb (some w.heap.size)) (.inr (Nat.le_refl _)), h.ord, h.rest⟩
theorem getD_set {vs : List Value} {k j : Nat} {u : Value} (hk : k < vs.length) : (vs.set k u).getD j nilV = if j = k then u else vs.getD j nilV := by
 by_cases h : j = k
 ·subst h; simp [List.getD, List.getElem?_set, hk]
 ·simp [List.getD, List.getElem?_set, h, Ne.symm h]
theorem Rows9.skip {w : World} {tb : Nat} {K : Kn} {k : Nat} {vs : List Value} (h : Rows9 w tb K k vs) (hr : (K.getD k kn0).1 = false) : Rows9 w tb K (k + 1) vs := by
 refine ⟨h.len, h.cells, fun j hj => ?_, fun i j hij hj hi hj1 => ?_, fun j hj => h.rest j (by omega)⟩
 ·by_cases e : j = k
  ·subst e; exact ⟨fun _ => h.rest j (Nat.le_refl _), fun h' => by rw [hr] at h'; cases h'⟩
  ·exact h.row j (by omega)
 ·by_cases e : j = k
  ·subst e; rw [hr] at hj1; cases hj1
  ·exact h.ord i j hij (by omega) hi hj1
theorem Rows9.put {w : World} {tb : Nat} {K : Kn} {k : Nat} {vs : List Value} (h : Rows9 w tb K k vs) (hk : k < K.length) {u : Value} {s : St} (hs : K.getD k kn0 = (true, s)) (h8 : s.length = 8) {base : Nat} (ho : w.ownsRow base 99 4 u s.length (flatT s)) (hb : tb < base) (hbe : ∀ j, j < k -> (K.getD j kn0).1 = true -> blockOf (vs.getD j nilV) < base) : Rows9 (w.setCell ⟨tb, k, none⟩ u) tb K (k + 1) (vs.set k u) := by
 obtain ⟨g, cap, rfl, hbg, hgz, _⟩ := own_block ho (by omega)
 have hg := grown_set w tb k (.slice (some ⟨g, 0, none⟩) s.length cap)
 have hkl : k < vs.length := by rw [h.len]; exact hk
 have hrow : RowOf w tb (.slice (some ⟨g, 0, none⟩) s.length cap) (K.getD k kn0) := by
  rw [hs]
  refine ⟨fun h' => (by cases h'), fun _ => ⟨⟨base, ho⟩, h8, ?_, ?_⟩⟩
  ·show tb < g; omega
  ·show g < _; omega
 refine ⟨by rw [List.length_set]; exact h.len, h.cells.set k _, fun j hj => ?_, fun i j hij hj hi hj1 => ?_, fun j hj => ?_⟩
 ·rw [getD_set hkl]
  by_cases e : j = k
  ·subst e; rw [if_pos rfl]; exact hrow.grown hg (.inl rfl)
  ·rw [if_neg e]; exact (h.row j (by omega)).grown hg (.inl rfl)
 ·rw [getD_set hkl, getD_set hkl]
  rw [if_neg (show ¬ i = k by omega)]
  by_cases e : j = k
  ·subst e
   rw [if_pos rfl]
   have := hbe i hij hi
   show _ < g
   omega
  ·rw [if_neg e]; exact h.ord i j hij (by omega) hi hj1
 ·rw [getD_set hkl, if_neg (by omega)]; exact h.rest j (by omega)
set_option maxHeartbeats 800000 in
theorem lclone_any (b off n cap : Nat) (xs : List Ty) (w : World) (hs : SeesT w (.slice (some ⟨b, off, none⟩) n cap) xs) (hl : xs.length <= 1048576) : Calls Tryz.prog 60 #[.slice (some ⟨b, off, none⟩) n cap] w fun e w' => ∃ u, e = .returned u /\ w'.ownsRow w.heap.size 99 4 u xs.length (flatT xs) /\ Below w.heap.size w w' := by
 obtain ⟨i0, hi, hz0, hz1, hz2⟩ := infoT_parts
 have HS := keepJ hs
 have heq : ∀ wx : World, (Go.binOp .eql 93 (.slice (some ⟨b, off, none⟩) n cap) (.slice none 0 0)).run Tryz.prog wx = .ok (.bool false) wx := fun _ => by kernel_rfl
 clear hs
 go_enter Tryz.func60, Tryz.ntmps60
 go_wp2_with (at_builtin; go_must (refine wpList_append_seesT rfl (.tmp 5) (.tmp 6) 93 rfl w.heap.size 99 i0 (tyV Ty.nil) Tryz.underlying93 hi hz0 hz1 hz2 rfl (.slice (some ⟨w.heap.size, 0, none⟩) 0 0) [] rfl (ownT_empty w _) _ xs rfl (HS.out.below ((Below.refl _ _).alloc (Nat.le_refl _) _)) (by unfold maxLen; simp; omega) (by simp; omega) (by simp) ?_); intro v' w1 hown1 hg1)
 go_ret
 refine ⟨_, rfl, by simpa using hown1, ?_⟩
 exact ((Below.refl w.heap.size w).alloc (Nat.le_refl _) _).grown hg1 (by simp) (fun k hk => (by have h : w.heap.size = k := (by simpa [Value.ownBlock] using hk); omega))
theorem run_sliceR (nb : Nat) (w : World) : (Instr.sliceAt 137 (.pointer (some ⟨nb, 1, none⟩)) none none none).run Tryz.prog w = .ok (.slice (some ⟨nb, 1, none⟩) 8 8) w := by kernel_rfl
theorem sees_regs {w : World} {nb : Nat} {r : Bool} {s : St} (hx : StAt w nb 0 r s) (h8 : s.length = 8) (hz : nb < w.heap.size) : SeesT w (.slice (some ⟨nb, 1, none⟩) 8 8) s := by
 refine ⟨some ⟨nb, 1, none⟩, 8, by rw [h8], by omega, by decide, fun e => (by cases e), fun _ => ⟨nb, 1, rfl, hz, fun k hk => ?_⟩⟩
 have := hx.typ h8 (k := k) (by omega)
 rw [Nat.zero_add] at this
 exact this
theorem run_makeR (n : Nat) (hn : n <= 64) (w : World) : (Instr.makeSlice 89 (.int .i64 n) (.int .i64 n)).run Tryz.prog w = .ok (.slice (some ⟨w.heap.size, 0, none⟩) n n) (w.alloc (.cells (List.replicate n nilV).toArray 93)) := by
 have hi : ∃ i, Tryz.prog.info? 93 = some i /\ i.size = 1 /\ i.zero = some nilV /\ i.bytes <= 1000000 := ⟨_, rfl, rfl, rfl, by decide⟩
 obtain ⟨i, h1, h2, h3, h4⟩ := hi
 have := run_make (P := Tryz.prog) w 89 93 i _ Tryz.underlying89 h1 h3 .i64 .i64 n n (by omega) (Int.le_refl _) (by have : (i.bytes : Int) * n <= 1000000 * 64 := Int.mul_le_mul (by omega) (by omega) (by omega) (by omega); omega) (by omega)
 rw [h2] at this
 simp only [Int.toNat_natCast, Nat.mul_one] at this
 rw [this]
 congr 3
 apply Array.ext_getElem?
 intro j
 by_cases hj : j < n
 ·rw [show (List.replicate n nilV).toArray[j]? = (List.replicate n nilV)[j]? from List.getElem?_toArray, List.getElem?_replicate, if_pos hj]
  simp only [madeCells, Array.getElem?_map]
  rw [Array.getElem?_range]
  simp [hj, nilV, Value.cells, Nat.mod_one]
 ·rw [Array.getElem?_eq_none (by rw [size_madeCells]; omega), Array.getElem?_eq_none (by simp; omega)]
theorem getD_some {vs : List Value} {k : Nat} (hk : k < vs.length) : vs[k]? = some (vs.getD k nilV) := by simp [List.getD, List.getElem?_eq_getElem hk]
set_option maxHeartbeats 3200000 in
theorem ltypes_any (vm : Value) (ms : List Int) (vc : Value) (xs : List In) (w : World) (hm : Sees .i64 w vm ms) (hx : SeesI w vc xs) :
  Calls Tryz.prog 28 #[.agg #[vm, vc]] w fun e w' =>
   (∃ P E : Int, inqR ms xs = .error (P, E) /\ E ≠ 0 /\ e = .returned (.tuple #[.slice none 0 0, .int .i64 E]) /\ Below w.heap.size w w') ∨
   (∃ (K : Kn) (tb : Nat) (vs : List Value), inqR ms xs = .ok K /\ Taken xs /\ mapsJ ms = true /\ runK xs ms.length xs.length = .ok K /\ K.length = xs.length /\ MadeK ms.length K /\ e = .returned (.tuple #[.slice (some ⟨tb, 0, none⟩) xs.length xs.length, .int .i64 0]) /\ Rows9 w' tb K xs.length vs /\ w.heap.size <= tb /\ Below w.heap.size w w') := by
 have HM := keepJ hm
 have HX := keepJ hx
 obtain ⟨ma, mcap, rfl⟩ : ∃ a c, vm = .slice a ms.length c := by obtain ⟨a, c, h, _⟩ := hm; exact ⟨a, c, h⟩
 obtain ⟨ca, ccap, rfl⟩ : ∃ a c, vc = .slice a xs.length c := by obtain ⟨a, c, h, _⟩ := hx; exact ⟨a, c, h⟩
 clear hm hx
 obtain ⟨vs0, HV0⟩ : ∃ vs0, Hid (vs0 = List.replicate xs.length nilV) := ⟨_, rfl⟩
 have hmk : ∀ wx : World, xs.length <= 64 -> (Instr.makeSlice 89 (.int .i64 xs.length) (.int .i64 xs.length)).run Tryz.prog wx = .ok (.slice (some ⟨wx.heap.size, 0, none⟩) xs.length xs.length) (wx.alloc (.cells vs0.toArray 93)) := fun wx h => by rw [HV0.out]; exact run_makeR xs.length h wx
 go_enter Tryz.func28, Tryz.ntmps28
 go_wp2_with (first
  | (go_at_call 54; go_must (refine (linquire_any _ ms _ xs _ (HM.out.below ((Below.refl _ _).alloc (Nat.le_refl _) _) (Nat.le_refl _)) (HX.out.below ((Below.refl _ _).alloc (Nat.le_refl _) _))).mono ?_); rintro e w1 (⟨P, E, hi, hE0, hP, rfl, hb⟩ | ⟨K, kb, hi, hT, hmf, hr, rfl, hk, hkb, hl, hMK, hb⟩) <;> (have HB := keepJ (box_below hb); have HI := keepJ hi; clear hb hi) <;> (try (have h64 := hT.top; have HT := keepJ hT; have HK := keepJ hk; have HKB := keepJ hkb; have HL := keepJ hl; have HMK := keepJ hMK; have HMF := keepJ hmf; have HRK := keepJ hr; clear hT hk hkb hl hMK hmf hr))))
 ·go_ret2
  exact .inl ⟨P, E, HI.out, hE0, rfl, HB.out⟩
 ·clear hmk
  obtain ⟨Y, tb, HY, HTB, HKY, HRY, hBY, htb⟩ : ∃ Y tb, Hid (Y = w1.alloc (Obj.cells vs0.toArray 93)) /\ Hid (w1.heap.size = tb) /\ Hid (Hp Y kb 139 (flatK K)) /\ Hid (Rows9 Y tb K 0 vs0) /\ Below w.heap.size w Y /\ (w.heap.size <= tb /\ kb < tb) :=
   ⟨_, _, rfl, rfl, HK.out.alloc _, ⟨by rw [HV0.out, HL.out]; simp, Hp.new w1 vs0 _, fun j hj => by omega, fun i j _ hj => by omega, fun j _ => by rw [HV0.out]; simp [List.getD, List.getElem?_replicate]; split <;> rfl⟩, HB.out.alloc HB.out.size _, HB.out.size, HK.out.lt⟩
  rw [<- HY.out, HTB.out]
  clear HY HTB
  have hx64 : (xs.length : Int) <= 64 := by omega
  go_loopw [24] (fun i wr => ∃ k : Nat, k <= xs.length /\ i = .int .i64 k /\ Hid (∃ vs, Rows9 wr tb K k vs /\ Hp wr kb 139 (flatK K) /\ Below w.heap.size w wr)) (fun i _ => xs.length - (intOf i).toNat)
  case atStart => exact ⟨0, by omega, rfl, vs0, HRY.out, HKY.out, hBY⟩
  case round =>
   obtain ⟨k, hk, rfl, HI2⟩ := hrel
   by_cases hlt : k < xs.length
   ·obtain ⟨vs, hR, hKr, hBr⟩ := HI2.out
    have HR := keepJ hR
    have HKr := keepJ hKr
    obtain ⟨r, s, HS⟩ : ∃ r s, Hid (K.getD k kn0 = (r, s)) := ⟨_, _, rfl⟩
    have hkK : k < K.length := by rw [HL.out]; exact hlt
    have h8 : s.length = 8 := by have := HMK.out.eight.at k; rw [HS.out] at this; exact this
    have HST := keepJ (show wr.rangeAt kb (k * 33) (stC r s) from hKr.state HMK.out.eight hkK HS.out)
    have HSZ := keepJ (sizeJ (r := r) h8)
    have HSA := keepJ (sizeJA (r := r) h8)
    have HS1 := keepJ (stC_all r s)
    have hkI : (k : Int) < xs.length := by omega
    have hkz := hKr.lt
    have htz := hR.cells.lt
    clear hR hKr HI2
    obtain ⟨Y2, HY2, HB2, HR2, HK2, hB2, hz2, b0⟩ : ∃ Y2, Hid (Y2 = (wr.alloc (Obj.cells #[.bool false, .int .i64 0, .int .u64 0, .int .u64 0, .int .i64 0, .int .i64 0, .int .u64 0, .int .u64 0, .int .i64 0, .int .i64 0, .int .u64 0, .int .u64 0, .int .i64 0, .int .i64 0, .int .u64 0, .int .u64 0, .int .i64 0, .int .i64 0, .int .u64 0, .int .u64 0, .int .i64 0, .int .i64 0, .int .u64 0, .int .u64 0, .int .i64 0, .int .i64 0, .int .u64 0, .int .u64 0, .int .i64 0, .int .i64 0, .int .u64 0, .int .u64 0, .int .i64 0] 139)).setCells wr.heap.size 0 (stC r s).toArray.toList) /\ Hid (Hp Y2 wr.heap.size 139 (stC r s)) /\ Hid (Rows9 Y2 tb K k vs) /\ Hid (Hp Y2 kb 139 (flatK K)) /\ Below wr.heap.size wr Y2 /\ wr.heap.size < Y2.heap.size /\ Y2.cell? ⟨wr.heap.size, 0, none⟩ = some (.bool r) := by
     have hn : Hp (wr.alloc (Obj.cells #[.bool false, .int .i64 0, .int .u64 0, .int .u64 0, .int .i64 0, .int .i64 0, .int .u64 0, .int .u64 0, .int .i64 0, .int .i64 0, .int .u64 0, .int .u64 0, .int .i64 0, .int .i64 0, .int .u64 0, .int .u64 0, .int .i64 0, .int .i64 0, .int .u64 0, .int .u64 0, .int .i64 0, .int .i64 0, .int .u64 0, .int .u64 0, .int .i64 0, .int .i64 0, .int .u64 0, .int .u64 0, .int .i64 0, .int .i64 0, .int .u64 0, .int .u64 0, .int .i64 0] 139)) wr.heap.size 139 zeroC := Hp.new wr zeroC _
     have hb := hn.box (r := r) zeroC_len h8
     have hbe : Below wr.heap.size wr ((wr.alloc (Obj.cells #[.bool false, .int .i64 0, .int .u64 0, .int .u64 0, .int .i64 0, .int .i64 0, .int .u64 0, .int .u64 0, .int .i64 0, .int .i64 0, .int .u64 0, .int .u64 0, .int .i64 0, .int .i64 0, .int .u64 0, .int .u64 0, .int .i64 0, .int .i64 0, .int .u64 0, .int .u64 0, .int .i64 0, .int .i64 0, .int .u64 0, .int .u64 0, .int .i64 0, .int .i64 0, .int .u64 0, .int .u64 0, .int .i64 0, .int .i64 0, .int .u64 0, .int .u64 0, .int .i64 0] 139)).setCells wr.heap.size 0 (stC r s)) := ((Below.refl _ _).alloc (Nat.le_refl _) _).trans (grown_to_below (grown_sets _ _ _ _) (Nat.le_refl _) (by simp))
     exact ⟨_, rfl, hb, HR.out.grown hbe, HKr.out.below hbe hkz, hbe, hb.lt, hb.one.cell⟩
    have HTH := keepJ (show (wr.alloc (Obj.cells #[.bool false, .int .i64 0, .int .u64 0, .int .u64 0, .int .i64 0, .int .i64 0, .int .u64 0, .int .u64 0, .int .i64 0, .int .i64 0, .int .u64 0, .int .u64 0, .int .i64 0, .int .i64 0, .int .u64 0, .int .u64 0, .int .i64 0, .int .i64 0, .int .u64 0, .int .u64 0, .int .i64 0, .int .i64 0, .int .u64 0, .int .u64 0, .int .i64 0, .int .i64 0, .int .u64 0, .int .u64 0, .int .i64 0, .int .i64 0, .int .u64 0, .int .u64 0, .int .i64 0] 139)).there wr.heap.size 0 (stC r s).toArray.size from (by rw [stC_size r h8]; exact (Hp.new wr zeroC _).there (by rw [zeroC_len]; omega)))
    cases r with
    | false =>
     go_wp2_with (first
      | ((with_reducible refine wpList_load_mid ?qa 139 (.tmp 27) ?qb kb (k * 33) ?qc (stC false s) _ HST.out Tryz.underlying139 ?qd HSZ.out ?qe); (case qa => rfl); (case qb => rfl); (case qc => rfl); (case qd => rfl))
      | ((with_reducible refine wpList_store_mid ?ra 139 (.tmp 9) (.tmp 28) ?rb wr.heap.size 0 (stC false s).toArray ?rc ?rd HTH.out HSA.out HS1.out ?re); (case ra => rfl); (case rb => rfl); (case rc => rfl); (case rd => rfl); rw [<- HY2.out]))
     go_roundw
     case rel => exact ⟨k + 1, by omega, by go_num, vs, HR2.out.skip (by rw [HS.out]), HK2.out, hBr.trans (hB2.mono hBr.size)⟩
     case measure => simp [intOf]; omega
    | true =>
     have hsl := run_sliceR wr.heap.size
     have htz2 := HR2.out.cells.lt
     have hkz2 := HK2.out.lt
     go_wp2_with (first
      | ((with_reducible refine wpList_load_mid ?qa1 139 (.tmp 27) ?qb1 kb (k * 33) ?qc1 (stC true s) _ HST.out Tryz.underlying139 ?qd1 HSZ.out ?qe1); (case qa1 => rfl); (case qb1 => rfl); (case qc1 => rfl); (case qd1 => rfl))
      | ((with_reducible refine wpList_store_mid ?ra1 139 (.tmp 9) (.tmp 28) ?rb1 wr.heap.size 0 (stC true s).toArray ?rc1 ?rd1 HTH.out HSA.out HS1.out ?re1); (case ra1 => rfl); (case rb1 => rfl); (case rc1 => rfl); (case rd1 => rfl); rw [<- HY2.out])
      | (go_at_call 60; go_must (refine (lclone_any _ _ _ _ s _ (sees_regs HB2.out.one h8 hz2) (by omega)).mono ?_); rintro e w5 ⟨u, rfl, hown, hb5⟩; go_must (obtain ⟨g5, cap5, rfl, hbg5, hgz5, hcap5⟩ := own_block hown (by omega); have HR5 := keepJ (HR2.out.grown hb5); have HK5 := keepJ (HK2.out.below hb5 hkz2); have HB5 := keepJ (hBr.trans ((hB2.trans (hb5.mono (Nat.le_of_lt hz2))).mono hBr.size)); have HOW := keepJ hown; have c5 : w5.cell? ⟨tb, k, none⟩ = some (vs.getD k nilV) := HR5.out.cells.cell (getD_some (by rw [HR5.out.len]; exact hkK)); have f5 := HR5.out.cells.frozen k; clear hown hb5)))
     go_roundw
     case rel =>
      refine ⟨k + 1, by omega, by go_num, _, HR5.out.put hkK HS.out h8 (show w5.ownsRow Y2.heap.size 99 4 (.slice (some ⟨g5, 0, none⟩) 8 cap5) s.length (flatT s) from (by have := HOW.out; rw [h8] at this; rw [h8]; exact this)) htz2 (fun j hj hrj => ?_), HK5.out.far (by omega), below_set HB5.out htb.1⟩
      exact ((HR2.out.row j hj).2 hrj).2.2.2
     case measure => simp [intOf]; omega
   ·obtain rfl : k = xs.length := by omega
    obtain ⟨vs, hR, hKr, hBr⟩ := HI2.out
    have HR := keepJ hR
    clear hR hKr HI2
    go_wp2
    go_ret2
    exact .inr ⟨K, tb, vs, HI.out, HT.out, HMF.out, HRK.out, HL.out, HMK.out, rfl, HR.out, htb.1, hBr⟩
structure Rs where
 E : Int
 f : Bool
 v : Int
 o : Bool
 k : Int
 u : Int
def Rs.nil : Rs := ⟨0, false, 0, false, 0, 0⟩
def traceE (ms : List Int) (xs : List In) (ev : Int × Int) : Nat -> Mc -> List Rs -> List Ac
 | 0, _, _ => []
 | n + 1, M, rs => (stepE ms xs ev M).1 ::
  (if (stepE ms xs ev M).1.k = 4 then [] else if (stepE ms xs ev M).1.k = 2 then
   (match rs with | [] => [] | r :: rest => traceE ms xs ev n (answerE xs (stepE ms xs ev M).2 r.E r.f r.v) rest)
  else traceE ms xs ev n (stepE ms xs ev M).2 rs)
theorem step_kinds {ms : List Int} {xs : List In} {ev : Int × Int} {M : Mc} (h0 : M.mode = 0) :
  ((stepE ms xs ev M).1.k = 4 /\ (stepE ms xs ev M).2.mode = 2) ∨ ((stepE ms xs ev M).1.k = 2 /\ (stepE ms xs ev M).2.mode = 1) ∨ (((stepE ms xs ev M).1.k = 1 ∨ (stepE ms xs ev M).1.k = 3) /\ (stepE ms xs ev M).2.mode = 0) := by
 unfold stepE
 rw [if_neg (by omega), if_neg (by omega)]
 split
 ·unfold callE
  split
  ·exact .inr (.inl ⟨rfl, rfl⟩)
  ·split
   ·exact .inr (.inr ⟨.inl rfl, h0⟩)
   ·exact .inr (.inr ⟨.inr rfl, h0⟩)
 ·split
  ·exact .inl ⟨rfl, rfl⟩
  ·split
   ·exact .inr (.inr ⟨.inl rfl, h0⟩)
   ·exact .inr (.inr ⟨.inl rfl, h0⟩)
theorem trace_end {ms : List Int} {xs : List In} {ev : Int × Int} {M : Mc} {n : Nat} {rs : List Rs} (h : (stepE ms xs ev M).1.k = 4) : traceE ms xs ev (n + 1) M rs = [(stepE ms xs ev M).1] := by
 cases rs <;> (rw [traceE]; rw [if_pos h])
theorem trace_none {ms : List Int} {xs : List In} {ev : Int × Int} {M : Mc} {n : Nat} (h : (stepE ms xs ev M).1.k = 2) : traceE ms xs ev (n + 1) M [] = [(stepE ms xs ev M).1] := by
 rw [traceE, if_neg (by omega), if_pos h]
theorem trace_ask {ms : List Int} {xs : List In} {ev : Int × Int} {M : Mc} {n : Nat} {r : Rs} {rs : List Rs} (h : (stepE ms xs ev M).1.k = 2) : traceE ms xs ev (n + 1) M (r :: rs) = (stepE ms xs ev M).1 :: traceE ms xs ev n (answerE xs (stepE ms xs ev M).2 r.E r.f r.v) rs := by
 rw [traceE, if_neg (by omega), if_pos h]
theorem trace_on {ms : List Int} {xs : List In} {ev : Int × Int} {M : Mc} {n : Nat} {rs : List Rs} (h : (stepE ms xs ev M).1.k ≠ 4 /\ (stepE ms xs ev M).1.k ≠ 2) : traceE ms xs ev (n + 1) M rs = (stepE ms xs ev M).1 :: traceE ms xs ev n (stepE ms xs ev M).2 rs := by
 cases rs <;> (rw [traceE]; rw [if_neg h.1, if_neg h.2])
end Go.Proofs.YtmhdhekcogplhaaGreat
